import PyProof.Rows.All
import HandS.ForMost
import HandS.Evl
import HandS.Walk
import HandS.Zip
import HandS.IsInst
import HandS.Style
import HandS.FStr
import HandS.StrSplit
import HandS.RaiseFrom
import HandS.SuiteRaise
import HandS.Strs
import HandS.TupAny
import HandS.Deep
import HandS.WordsExc
import KE.DataMinMax
import KE.DataFind
import KE.SortData
import HandS.SortKw
import HandS.TupSets
import HandS.SetBool
import HandS.DictComp
import HandS.Conv
import KE.KDictKeyed
import HandS.ExcField
import HandS.ExcInit
import HandS.HeadHook4
import HandS.HeadEnd
import HandS.Head2
import HandS.Flow
import KE.GoesEnumKw
import PySem.Challenge.RW_earmarks_k49_beasts_asked
set_option Elab.async false
set_option linter.all false
set_option maxRecDepth 100000
set_option maxHeartbeats 2000000
def awM:True:=trivial
abbrev awN:=@False.elim
abbrev awO:=@decide_eq_true_eq
abbrev awP:=@of_decide_eq_true
def avC:=@PySem.W.Frag
def avD:=@Bool.and_eq_true
def avE:=@List.getElem?_eq_getElem
def avF:=@Option.bind_eq_some_iff
def avG:=@List.mem_cons_of_mem
def avH:=@List.getElem?_eq_some_iff
def avI:=@List.mem_cons_self
def avJ:=@List.mem_singleton
def avK:=@List.mem_of_getElem?
def avL:=@List.getElem?_set_ne
def avM:=@List.mem_map
def avN:=@List.length_map
def avO:=@List.length_cons
def avP:=@List.mem_cons
def avQ:=@List.getElem?_map
def avR:=@List.mem_append
def avS:=@List.getElem?_append_left
def avT:=@List.length_filter_le
def avU:=@Bool.not_eq_true'
def avV:=@List.getElem?_set_self
def avW:=@Nat.le_refl
def avX:=@List.getElem?_append_right
def avY:=@Function.comp_def
def avZ:=@List.map_map
def av0:=@Option.some.inj
def av1:=@List.all_eq_true
def av2:=@Nat.le_trans
def av3:=@List.mem_filter
def av4:=@List.length_set
def av5:=@List.lookup_cons
def av6:=@List.ext_getElem?
def av7:=@List.getElem?_eq_none
def av8:=@List.not_mem_nil
def av9:=@List.filter_cons
def awa:=@List.length_append
def awb:=@Nat.ne_of_lt
def awc:=@List.foldl_cons
def awd:=@Array.length_toList
def awe:=@Bool.false_eq_true
def awf:=@List.all_cons
def awg:=@Nat.zero_le
def awh:=@List.getElem_mem
def awi:=@List.drop_eq_getElem_cons
def awj:=@Array.getElem?_toList
def awk:=@List.mem_append_left
def awl:=@List.nodup_append
def awm:=@Option.map_eq_some_iff
def awn:=@List.append_nil
def awo:=@List.drop_length
def awp:=@List.getElem?_mapIdx
def awq:=@Bool.eq_iff_iff
def awr:=@List.map_nil
def awt:=@List.getElem?_zip_eq_some
def awu:=@List.getElem?_set
def awv:=@List.pairwise_mergeSort
def aww:=@List.zip_cons_cons
def awx:=@List.filter_filter
def awy:=@List.mem_append_right
def awz:=@List.any_cons
def awA:=@Nat.lt_succ_of_lt
def awB:=@List.mem_of_mem_take
def awC:=@List.drop_zero
def awD:=@List.any_map
def awE:=@PySem.W.AllAlike.of
def awF:=@Bool.or_eq_true
def awG:=@List.length_drop
def awH:=@Nat.add_sub_cancel'
def awI:=@Nat.add_left_cancel
def awJ:=@List.mergeSort_perm
def awK:=@List.nodup_cons
def awL:=@Nat.succ.inj
abbrev LsS (α : Type) := List (PySem.Str × α)
open Lean in
local macro_rules
| `(#[[[]]]) => `($(mkIdent `X).blk $(mkIdent `s) $(mkIdent `H) $(mkIdent `scope) (PySem.compEnvC $(mkIdent `scope) $(mkIdent `cl) $(mkIdent `C) $(mkIdent `X).env) $(mkIdent `fp))
| `(#[]) => `(by omega)
| `(#[_]) => `(by kernel_rfl)
| `(#[()]) => `(by decide)
| `(#[[]]) => `(by decide +kernel)
| `(#[rfl]) => `(by with_unfolding_all rfl)
| `(#[$x]) => `(some (.dat $x))
open Lean in
local macro_rules
| `(tactic| obtain $p:rcasesPatMed) => `(tactic| obtain $p := avF.mp $(mkIdent `h))
open Lean in
local macro_rules
| `(tactic| left) => `(tactic| split at $(mkIdent `h):ident)
open Lean in
def patR : Nat → Term → MacroM (TSyntax `rcasesPat)
| 0, _ => Macro.throwUnsupported
| n+1, p => match p with
  | `(⟨$xs,*⟩) => do
    let ys ← xs.getElems.mapM (patR n)
    `(rcasesPat| ⟨$[$ys],*⟩)
  | `($x:ident) => `(rcasesPat| $x:ident)
  | `(_) => `(rcasesPat| _)
  | _ => Macro.throwUnsupported
open Lean in
local macro_rules
| `(tactic| let ⟨$xs,*⟩ := $e) => do
  let ys ← xs.getElems.mapM (patR 9)
  `(tactic| obtain ⟨$[$ys],*⟩ := $e)
local macro_rules
| `(tactic| simp! [$xs,*] $[$l]?) => `(tactic| simp only [$xs,*] $[$l]?)
namespace Rf
open PySem PySem.Spec PyProof.Rows L2 HandSHeadRun
def awQ:=@wpAny_bind
def awR:=@wpAny_pure
def awS:=@if_pos
def awT:=@if_neg
def awU:=@upd_same
def awV:=@eq_of_beq
abbrev Dat:=PyData
abbrev Ft:=List (Str×List Str)
structure QM(fa:List He.Fa)(fn:List He.DefD)(tb:List He.Tab)(ex:avC->Bool)(w:World)(K:avC):Prop where
 t:He.SaysT fa fn tb w K
 more:ex K=true
def aeH(as:List Addr)(fa:List He.Fa)(fn:List He.DefD)(tb:List He.Tab)(ex:avC->Bool)(g:Addr->Option Obj):He.AlX:=(He.obsT fa fn tb (He.frG g as),ex (He.frG g as))
def afb(as:List Addr)(fa:List He.Fa)(fn:List He.DefD)(tb:List He.Tab)(ex:avC->Bool):PySem.W.Hook where
 α:=He.AlX
 obs:=λs=>aeH as fa fn tb ex s.heap.get?
 val:=λw=>He.valX fn tb w
 says:=λw h=>∃K:avC,K.In h/\QM fa fn tb ex w K
 of:=λw s e=>⟨_,He.frG_in,⟨congrArg (λz:He.AlX=>z.1) e,congrArg (λz:He.AlX=>z.2) e⟩⟩
 keeps:=λ_ _ _ ⟨K,hK,c⟩ k=>⟨K,PySem.W.Frag.In.keeps hK k,c⟩
def akF{as:List Addr}{fa:List He.Fa}{fn:List He.DefD}{tb:List He.Tab}{ex:avC->Bool}{g:Addr->Option Obj}{s:Shared}(h:∀a,g a=s.heap.get? a):aeH as fa fn tb ex g=(afb as fa fn tb ex).obs s:=by rw[show g=s.heap.get? from funext h];rfl
def QJ(K:avC)(ft:Ft):Bool:=ft.all λp=>(He.Fa.cls p.1).ok K&&p.2.all λf=>(He.Fa.noat p.1 f).ok K
def xmB(K:avC)(xm:List (Str×LsS Bool)):Bool:=xm.all λp=>p.2.all λq=>(He.Fa.exm q.1 p.1 q.2).ok K
def abR(K:avC)(a:Addr):Bool:=match K.lookup a with
 |some o=>(match o.cls with
  |.type c=>decide (c="tuple")
  |_=>false)&&o.dict.isNone
 |none=>false
def anj(K:avC)(C:Addr):Bool:=(match K.lookup C with
 |some ⟨.type t,_,.cls cd,sl⟩=>decide (t="type")&&(match cd.mro,sl.toList with
  |.ref C'::bm,[_,_,_,_,some (.builtin n),_]=>decide (C'=C)&&(decide (n="ValueError.__new__")&&(!cd.hasDel&&(cd.hasDict&&PySem.HandSPX.refsVE bm)))
  |_,_=>false)
 |_=>false)&&(He.eqO (PySem.W.findIn K (.ref C) "__setattr__") (some (some (.builtin "object.__setattr__")))&&(decide (PySem.W.subIn K (.ref C) (.type "BaseException")=some true)&&(decide (PySem.W.typeIn K (.ref C)=some (.type "type"))&&PySem.W.keepIn K (.ref C))))
def Xm(K:avC)(x:Str)(fs:List Str):Bool:=anj K (He.ga K x)&&(He.eqO (PySem.W.findIn K (.ref (He.ga K x)) "__init__") (some (some (.ref (He.ma K (He.ga K x) "__init__"))))&&(decide (PySem.W.typeIn K (.ref (He.ma K (He.ga K x) "__init__"))=some (.type "function"))&&(xfB K (He.ga K x)&&fs.all λf=>He.eqO (PySem.W.findIn K (.ref (He.ga K x)) f) (some none))))
def aaw(K:avC)(a:Addr)(xs:List Str):Bool:=match K.lookup a with
 |some ⟨.type c,_,.seq its _,_⟩=>decide (c="tuple")&&(decide (its.size<=sizeLine)&&He.relAll (xs.map V.str) its.toList)
 |_=>false
def aia(K:avC)(x:Str)(kvs:List (Str×List Str)):Bool:=(match K.lookup (He.ga K x) with
 |some ⟨_,_,.dict es _,_⟩=>es.toList.all (λe=>(match e.key with
   |.str y _=>(kvs.map (·.1)).contains y
   |_=>false)&&!e.refKey)
 |_=>false)&&(decide ((kvs.map (·.1)).Nodup)&&kvs.all λq=>match PySem.W.nsIn K (He.ga K x) q.1 with
  |some (some (.ref a))=>aaw K a q.2
  |_=>false)
section
open PySem.W PySem.Calls
noncomputable abbrev aoO (r:PySem.W.OpenRow) (M:Nat) (w:World) (os:PySem.OsState):Option PySem.W.SharedT:=endF (stepQ (denQ tabQ) r.prog w) M r.prog w os
def ahW(r:PySem.W.OpenRow)(q:Program)(as:List Addr)(ex:avC->Bool)(M:Nat)(loose:List Str)(w:World):Prop:=∀os,(aoO r M w os).map (λs=>(looksF r.prog (boot_heap w.params) s.abs,HandSHeadRun.seenQ q loose (importedModules r.prog.main.body) (λs=>PySem.W.xlAt q [] s&&PySem.W.recOk r.toRowW.records s) s.abs,ex (He.frG (getT s) as)))=some (true,PySem.W.openGood q loose,true)
def aiO(r:PySem.W.OpenRow)(as:List Addr)(fa:List He.Fa)(fn:List He.DefD)(tb:List He.Tab)(M:Nat)(w:World):Prop:=∀os,(aoO r M w os).map (λs=>He.obsT fa fn tb (He.frG (getT s) as))=some (He.valT fn tb w)
def ZG{r:PySem.W.OpenRow}{q:Program}{as:List Addr}{fa:List He.Fa}{fn:List He.DefD}{i:List He.Tab}{e:avC->Bool}{M:Nat}{b:List Str}{w:World}(a:ahW r q as e M b w)(c:aiO r as [] fn i M w)(z:aiO r as fa [] [] M w):RunEq r q (afb as fa fn i e) (λs=>aeH as fa fn i e (getT s)) M b w:=λos=>by
 obtain⟨s,j,f⟩:=Option.map_eq_some_iff.mp (a os);obtain⟨f,g⟩:=Prod.mk.inj f;obtain⟨g,k⟩:=Prod.mk.inj g;have d:=c os;have l:=z os;have h:endF (stepQ (denQ tabQ) r.prog w) M r.prog w os=some s:=j;rw[j,Option.map_some]at d l;have l:=(He.ba (Prod.mk.inj (Prod.mk.inj (Option.some.inj l)).1).1).1
 have o:He.obsT fa fn i (He.frG (getT s) as)=He.valT fn i w:=by
  show ((fa.all (λf=>f.ok _)&&_,_),_)=_
  rw[l];exact Option.some.inj d
 rw[h,Option.map_some];exact congrArg some (Prod.ext f (Prod.ext g (Prod.ext o k)))
end
end Rf
namespace Pr
open PySem PySem.Spec PyProof.Rows L2 Evl Rf
def cP:Dat:=.int 9
def jy:Dat:=.int 1
def lV:Dat:=.int 3
def iK:Dat:=.int 9
def jo:Dat:=.tuple [.str "lt",.str "lf",.str "lh",.str "rt",.str "rf",.str "rh"]
def jT:Dat:=.tuple [.int 0,.int 0,.int 0,.int 0,.int 0,.int 0]
def qG:Dat:=.int 999999999
def Az:List (Str×List Str):=[("owner",[]),("ground",["number"]),("enrol",["number","number","ear"]),("leave",["number","number"]),("bring",["number","number","ear"]),("bear",["number"]),("cut",["number"]),("tear",["number","place"]),("sell",["number","number"]),("move",["number","number"]),("die",["number"]),("unite",["number","number"]),("part",["number"]),("pass",["number","number"]),("heir",["number","number","number"])]
def lJ:Ft:=[("Beast",["story","mother","owner","ground","due","ear","alive"]),("Herd",["beasts"]),("Grounds",["allowances","circles"]),("Rights",["held"]),("Commons",["owner_count","holders","grounds","rights","herd"])]
def oF:LsS Bool:=[("NoOwner",true),("NoGround",true),("NoRight",true),("HasRight",true),("NoneFree",true),("BadExtra",true),("BadAllowance",true),("Clash",true),("BadEar",true),("Bare",true),("StillThere",true),("NoBeast",true),("Dead",true),("Unmarked",true),("Deepest",true),("NoPlace",true),("SameOwner",true),("SameGround",true),("Together",true),("Alone",true),("BadDeed",true)]
def zR:LsS Bool:=[("NoOwner",false),("NoGround",false),("NoRight",false),("HasRight",false),("NoneFree",false),("BadExtra",false),("BadAllowance",false),("Clash",false),("BadEar",false),("Bare",false),("StillThere",false),("NoBeast",true),("Dead",false),("Unmarked",false),("Deepest",false),("NoPlace",false),("SameOwner",false),("SameGround",false),("Together",false),("Alone",false),("BadDeed",false)]
def Jz:LsS Bool:=[("NoOwner",false),("NoGround",false),("NoRight",false),("HasRight",false),("NoneFree",false),("BadExtra",false),("BadAllowance",false),("Clash",false),("BadEar",false),("Bare",false),("StillThere",false),("NoBeast",false),("Dead",true),("Unmarked",false),("Deepest",false),("NoPlace",false),("SameOwner",false),("SameGround",false),("Together",false),("Alone",false),("BadDeed",false)]
def xq:LsS Bool:=[("NoOwner",false),("NoGround",false),("NoRight",false),("HasRight",false),("NoneFree",false),("BadExtra",false),("BadAllowance",false),("Clash",false),("BadEar",false),("Bare",false),("StillThere",false),("NoBeast",false),("Dead",false),("Unmarked",true),("Deepest",false),("NoPlace",false),("SameOwner",false),("SameGround",false),("Together",false),("Alone",false),("BadDeed",false)]
def xmH:List (Str×LsS Bool):=[("CommonError",oF),("NoBeast",zR),("Dead",Jz),("Unmarked",xq)]
def dfH:LsS Bool:=[("held",true),("holders",false)]
def Zm:List (Str×List Str):=[("Clash",["ones","others","ear"])]
def aR(i:Nat):Stmt:=PySem.Challenge.pw_earmarks_k49_beasts_asked.main.body.getD i (.Pass ⟨0,0,0,0⟩)
abbrev JR:Stmt:=inClass (aR 50) 0
abbrev M7:Stmt:=inClass (aR 55) 0
abbrev RW:Stmt:=inClass (aR 35) 0
abbrev J8:Stmt:=inClass (aR 67) 0
abbrev agD:Stmt:=aR 87
abbrev s_row:Stmt:=aR 77
abbrev abn:Stmt:=aR 79
abbrev ajH:Stmt:=aR 83
abbrev Sh:Stmt:=aR 88
abbrev Za:Stmt:=aR 89
abbrev zP:Stmt:=inClass (aR 67) 33
abbrev JV:Stmt:=inClass (aR 50) 3
abbrev Nr:Stmt:=inClass (aR 50) 2
abbrev J9:Stmt:=inClass (aR 50) 4
abbrev JB:Stmt:=inClass (aR 55) 3
abbrev Cp:Stmt:=inClass (aR 55) 4
abbrev zM:Stmt:=inClass (aR 67) 34
abbrev Ad:Stmt:=inClass (aR 67) 1
abbrev CQ:Stmt:=inClass (aR 55) 2
abbrev aga:Stmt:=aR 47
abbrev adL:Stmt:=aR 44
abbrev R9:Stmt:=aR 52
abbrev aeb:Stmt:=aR 45
abbrev ahl:Stmt:=aR 46
abbrev Qc:Stmt:=aR 53
abbrev zf:Stmt:=inClass (aR 67) 35
abbrev Cj:Stmt:=inClass (aR 50) 6
abbrev CN:Stmt:=inClass (aR 67) 19
abbrev abN:Stmt:=aR 57
abbrev DR:Stmt:=inClass (aR 35) 5
abbrev K7:Stmt:=inClass (aR 35) 6
abbrev Ak:Stmt:=inClass (aR 55) 7
abbrev xQ:Stmt:=inClass (aR 67) 22
abbrev Dd:Stmt:=inClass (aR 67) 21
abbrev Ah:Stmt:=inClass (aR 50) 5
abbrev JT:Stmt:=inClass (aR 50) 7
abbrev Ky:Stmt:=inClass (aR 67) 18
abbrev CZ:Stmt:=inClass (aR 67) 15
abbrev zK:Stmt:=inClass (aR 50) 1
abbrev zU:Stmt:=inClass (aR 67) 2
abbrev Zj:Stmt:=aR 58
abbrev ac0:Stmt:=aR 43
abbrev Vx:Stmt:=aR 59
abbrev yU:Stmt:=inClass (aR 67) 36
abbrev abv:Stmt:=aR 28
abbrev UG:Stmt:=aR 66
abbrev Iw:Stmt:=inClass (aR 67) 3
abbrev Nb:Stmt:=inClass (aR 55) 5
abbrev Im:Stmt:=inClass (aR 67) 4
abbrev FJ:Stmt:=inClass (aR 34) 1
abbrev adP:Stmt:=aR 30
abbrev Ox:Stmt:=inClass (aR 34) 0
abbrev GP:Stmt:=inClass (aR 35) 1
abbrev Iz:Stmt:=inClass (aR 67) 5
abbrev Oz:Stmt:=inClass (aR 35) 2
abbrev M6:Stmt:=inClass (aR 35) 3
abbrev Nk:Stmt:=inClass (aR 35) 4
abbrev Kw:Stmt:=inClass (aR 67) 6
abbrev Vh:Stmt:=aR 32
abbrev Yx:Stmt:=aR 31
abbrev M8:Stmt:=inClass (aR 34) 2
abbrev JX:Stmt:=inClass (aR 34) 3
abbrev Nu:Stmt:=inClass (aR 67) 7
abbrev Ku:Stmt:=inClass (aR 67) 8
abbrev Nv:Stmt:=inClass (aR 35) 8
abbrev Df:Stmt:=inClass (aR 35) 9
abbrev JG:Stmt:=inClass (aR 67) 9
abbrev KZ:Stmt:=inClass (aR 67) 10
abbrev M5:Stmt:=inClass (aR 67) 11
abbrev V8:Stmt:=aR 60
abbrev Cv:Stmt:=inClass (aR 67) 24
abbrev Ed:Stmt:=inClass (aR 50) 10
abbrev Io:Stmt:=inClass (aR 50) 8
abbrev Jb:Stmt:=inClass (aR 67) 12
abbrev Km:Stmt:=inClass (aR 50) 9
abbrev KR:Stmt:=inClass (aR 67) 13
abbrev Cq:Stmt:=inClass (aR 55) 6
abbrev Og:Stmt:=inClass (aR 35) 7
abbrev Ec:Stmt:=inClass (aR 67) 14
abbrev R4:Stmt:=aR 40
abbrev afX:Stmt:=aR 39
abbrev Oo:Stmt:=inClass (aR 67) 16
abbrev agP:Stmt:=aR 90
abbrev ahC:Stmt:=aR 78
abbrev YH:Stmt:=aR 80
abbrev ajQ:Stmt:=aR 81
abbrev ahI:Stmt:=aR 82
abbrev ahc:Stmt:=aR 91
abbrev Qw:Stmt:=inClass (aR 34) 4
abbrev Gf:Stmt:=inClass (aR 67) 17
abbrev Ef:Stmt:=inClass (aR 55) 1
abbrev Jx:Stmt:=inClass (aR 67) 32
abbrev ajT:Stmt:=aR 75
abbrev ajC:Stmt:=aR 76
abbrev VJ:Stmt:=aR 74
abbrev adE:Stmt:=aR 71
abbrev agm:Stmt:=aR 69
abbrev YZ:Stmt:=aR 70
abbrev YJ:Stmt:=aR 72
abbrev ajZ:Stmt:=aR 73
abbrev acY:Stmt:=aR 95
abbrev ajG:Stmt:=aR 97
abbrev adR:Stmt:=aR 85
abbrev V6:Stmt:=aR 86
abbrev PL:Stmt:=inClass (aR 35) 10
abbrev Jc:Stmt:=inClass (aR 67) 31
abbrev adH:Stmt:=aR 84
abbrev adx:Stmt:=aR 96
abbrev JF:Stmt:=inClass (aR 67) 27
abbrev Zt:Stmt:=aR 62
abbrev HS:Stmt:=inClass (aR 67) 28
abbrev FZ:Stmt:=inClass (aR 67) 29
abbrev Eh:Stmt:=inClass (aR 67) 30
abbrev agW:Stmt:=aR 94
abbrev ac2:Stmt:=aR 98
abbrev aej:Stmt:=aR 99
abbrev adX:Stmt:=aR 92
abbrev YS:Stmt:=aR 93
abbrev Rx:Stmt:=aR 100
abbrev Oi:Stmt:=inClass (aR 23) 0
abbrev dM(c m q:Str)(s:Stmt):He.DefD:=⟨(c,some m),m,q,defArgs s,defBody s,defScope s,[],[]⟩
abbrev dF(x:Str)(s:Stmt):He.DefD:=⟨(x,none),x,x,defArgs s,defBody s,defScope s,[],[]⟩
def xsH:List Str:=["Grounds","Rights","Herd","Commons","NoOwner","NoGround","NoRight","HasRight","NoneFree","BadExtra","BadAllowance","Clash","BadEar","Bare","StillThere","Beast","NoBeast","Dead","Unmarked","Deepest","NoPlace","SameOwner","SameGround","Together","Alone","BadDeed","CommonError"]
def tbs:List He.Tab:=[(λK=>He.ga K "SHAPES",["owner","ground","enrol","leave","bring","bear","cut","tear","sell","move","die","unite","part","pass","heir"])]
def nm0:List PySem.Str:=["_wall","CommonError","BadEar","Bare","BadAllowance","BadExtra","NoPlace","Deepest","NoOwner","NoGround","NoBeast","NoRight"]
def nm1:List PySem.Str:=["HasRight","StillThere","Dead","Unmarked","SameOwner","SameGround","Together","Alone","NoneFree","BadDeed","Clash","PLACES"]
def nm2:List PySem.Str:=["GREATEST_DEPTH","BARE_EAR","is_ear","begun","gone_on","deepened","Beast","Herd","SHAPES","GREATEST_PART","fits","part_fits"]
def nm3:List PySem.Str:=["deeper","joint","lacks","apart","meet","torn","GREATEST_ALLOWANCE","Grounds","offspring","first_free","Rights","tidied"]
def nm4:List PySem.Str:=["barring","ask_room","clashing","owners_of","passing","FEWEST_EXTRA","MOST_EXTRA","need_ear","Commons","_law_once","_law_rows_of","_law_tears"]
def nm5:List PySem.Str:=["_law_room_of","_law_top","_law_herd_bad","_law_cut","_law_raw","_law_row","_law_near","_law_ear_by","_law_mark_by","_law_ref","_law_deed","_law_ear"]
def nm6:List PySem.Str:=["_law_asked","_law_whole","_law_like","_law_cell","_law_begun","_law_word_by","_law_done","_law_play","_law_named","_law_done_so","_law_told","_law_price"]
def nm7:List PySem.Str:=["_law_tally","_law_due","_law_right","_law_turns"]
def nm:List PySem.Str:=nm0++nm1++nm2++nm3++nm4++nm5++nm6++nm7
def fa0:List He.Fa:=[.mkr "Grounds",.mkr "Rights",.mkr "Herd",.mkr "Commons",.glo "_law_cell",.glo "_law_row",.glo "_law_ear_by",.glo "_law_ear",.glo "_law_begun",.glo "_law_word_by",.meth "Commons" "need_owner",.meth "Grounds" "many"]
def fa1:List He.Fa:=[.meth "Grounds" "has",.meth "Grounds" "need",.meth "Rights" "marks",.meth "Rights" "has_right",.meth "Commons" "need_right",.meth "Commons" "new_owner",.meth "Rights" "add_right",.glo "torn",.glo "lacks",.glo "offspring",.glo "apart",.glo "meet"]
def fa2:List He.Fa:=[.glo "first_free",.meth "Commons" "first_mark",.meth "Grounds" "together",.meth "Commons" "together",.glo "tidied",.meth "Herd" "all_living",.meth "Herd" "grazing",.meth "Rights" "in_grounds",.meth "Commons" "standing_but",.meth "Commons" "standing",.meth "Grounds" "allowance",.meth "Grounds" "room"]
def fa3:List He.Fa:=[.meth "Commons" "room",.meth "Commons" "new_heir",.meth "Grounds" "add_ground",.meth "Commons" "new_ground",.glo "barring",.glo "joint",.glo "ask_room",.meth "Commons" "ask_ground",.glo "is_ear",.glo "need_ear",.meth "Commons" "enrol",.meth "Rights" "drop"]
def fa4:List He.Fa:=[.meth "Commons" "leave",.meth "Beast" "stand_so",.glo "begun",.mkr "Beast",.meth "Herd" "add_beast",.meth "Commons" "bring",.meth "Herd" "known",.meth "Herd" "living",.meth "Herd" "marked",.meth "Commons" "bear",.glo "deepened",.glo "gone_on"]
def fa5:List He.Fa:=[.meth "Beast" "stand",.meth "Beast" "befall",.meth "Commons" "cut",.meth "Commons" "tear",.meth "Herd" "calves",.meth "Herd" "lead_calves",.meth "Commons" "sell",.meth "Commons" "move",.meth "Commons" "die",.glo "clashing",.meth "Commons" "quarrels",.meth "Grounds" "enclose"]
def fa6:List He.Fa:=[.meth "Grounds" "unite",.meth "Commons" "unite",.meth "Grounds" "part",.meth "Commons" "part",.meth "Rights" "hand_over",.meth "Herd" "owned",.meth "Commons" "pass_on",.glo "part_fits",.glo "fits",.meth "Commons" "do",.glo "_law_done",.glo "_law_near"]
def fa7:List He.Fa:=[.glo "_law_mark_by",.glo "_law_ref",.glo "_law_deed",.glo "_law_play",.meth "Beast" "told",.meth "Commons" "owners",.meth "Rights" "all_rows",.meth "Commons" "look",.glo "_law_cut",.glo "_law_raw",.glo "_law_herd_bad",.glo "_law_tears"]
def fa8:List He.Fa:=[.glo "_law_once",.glo "_law_rows_of",.glo "_law_room_of",.glo "_law_top",.glo "_law_price",.glo "_law_due",.glo "_law_whole",.glo "_law_like",.meth "Herd" "tally",.meth "Commons" "tally",.glo "_law_asked",.glo "_law_tally"]
def fa9:List He.Fa:=[.meth "Commons" "worn",.glo "passing",.meth "Commons" "price",.meth "Commons" "calves",.meth "Commons" "history",.glo "_law_told",.glo "_law_right",.glo "_law_turns",.glo "_law_named",.glo "_law_done_so",.glo "law",.glo "Grounds"]
def arB:List He.Fa:=[.glo "Rights",.glo "Herd",.glo "Commons",.glo "NoOwner",.exc "NoOwner",.glo "NoGround",.exc "NoGround",.glo "NoRight",.exc "NoRight",.glo "HasRight",.exc "HasRight",.glo "NoneFree"]
def aq3:List He.Fa:=[.exc "NoneFree",.glo "BadExtra",.exc "BadExtra",.glo "BadAllowance",.exc "BadAllowance",.glo "Clash",.glo "BadEar",.exc "BadEar",.glo "Bare",.exc "Bare",.glo "StillThere",.exc "StillThere"]
def ari:List He.Fa:=[.glo "Beast",.glo "NoBeast",.exc "NoBeast",.glo "Dead",.exc "Dead",.glo "Unmarked",.exc "Unmarked",.glo "Deepest",.exc "Deepest",.glo "NoPlace",.exc "NoPlace",.glo "SameOwner"]
def arH:List He.Fa:=[.exc "SameOwner",.glo "SameGround",.exc "SameGround",.glo "Together",.exc "Together",.glo "Alone",.exc "Alone",.glo "BadDeed",.exc "BadDeed",.glo "CommonError",.exc "CommonError",.glo "SHAPES"]
def aqH:List He.Fa:=[.int "GREATEST_DEPTH" 9,.int "FEWEST_EXTRA" 1,.int "MOST_EXTRA" 3,.int "GREATEST_ALLOWANCE" 9,.glo "PLACES",.glo "BARE_EAR",.int "GREATEST_PART" 999999999,.free "len",.free "range",.free "abs",.free "tuple",.free "max"]
def aqT:List He.Fa:=[.free "min",.free "sum",.free "zip",.free "any",.free "list",.free "sorted",.free "set",.free "enumerate",.free "all",.free "isinstance",.free "int",.free "bool"]
def aqX:List He.Fa:=[.free "str"]
def fa:List He.Fa:=fa0++fa1++fa2++fa3++fa4++fa5++fa6++fa7++fa8++fa9++arB++aq3++ari++arH++aqH++aqT++aqX
def fn0:List He.DefD:=[dM "Grounds" "__init__" "Grounds.__init__" JR,dM "Rights" "__init__" "Rights.__init__" M7,dM "Herd" "__init__" "Herd.__init__" RW,dM "Commons" "__init__" "Commons.__init__" J8,dF "_law_cell" agD,dF "_law_row" s_row,dF "_law_ear_by" abn,dF "_law_ear" ajH,dF "_law_begun" Sh,dF "_law_word_by" Za,dM "Commons" "need_owner" "Commons.need_owner" zP,dM "Grounds" "many" "Grounds.many" JV]
def fn1:List He.DefD:=[dM "Grounds" "has" "Grounds.has" Nr,dM "Grounds" "need" "Grounds.need" J9,dM "Rights" "marks" "Rights.marks" JB,dM "Rights" "has_right" "Rights.has_right" Cp,dM "Commons" "need_right" "Commons.need_right" zM,dM "Commons" "new_owner" "Commons.new_owner" Ad,dM "Rights" "add_right" "Rights.add_right" CQ,dF "torn" aga,dF "lacks" adL,dF "offspring" R9,dF "apart" aeb,dF "meet" ahl]
def fn2:List He.DefD:=[dF "first_free" Qc,dM "Commons" "first_mark" "Commons.first_mark" zf,dM "Grounds" "together" "Grounds.together" Cj,dM "Commons" "together" "Commons.together" CN,dF "tidied" abN,dM "Herd" "all_living" "Herd.all_living" DR,dM "Herd" "grazing" "Herd.grazing" K7,dM "Rights" "in_grounds" "Rights.in_grounds" Ak,dM "Commons" "standing_but" "Commons.standing_but" xQ,dM "Commons" "standing" "Commons.standing" Dd,dM "Grounds" "allowance" "Grounds.allowance" Ah,dM "Grounds" "room" "Grounds.room" JT]
def fn3:List He.DefD:=[dM "Commons" "room" "Commons.room" Ky,dM "Commons" "new_heir" "Commons.new_heir" CZ,dM "Grounds" "add_ground" "Grounds.add_ground" zK,dM "Commons" "new_ground" "Commons.new_ground" zU,dF "barring" Zj,dF "joint" ac0,dF "ask_room" Vx,dM "Commons" "ask_ground" "Commons.ask_ground" yU,dF "is_ear" abv,dF "need_ear" UG,dM "Commons" "enrol" "Commons.enrol" Iw,dM "Rights" "drop" "Rights.drop" Nb]
def fn4:List He.DefD:=[dM "Commons" "leave" "Commons.leave" Im,dM "Beast" "stand_so" "Beast.stand_so" FJ,dF "begun" adP,dM "Beast" "__init__" "Beast.__init__" Ox,dM "Herd" "add_beast" "Herd.add_beast" GP,dM "Commons" "bring" "Commons.bring" Iz,dM "Herd" "known" "Herd.known" Oz,dM "Herd" "living" "Herd.living" M6,dM "Herd" "marked" "Herd.marked" Nk,dM "Commons" "bear" "Commons.bear" Kw,dF "deepened" Vh,dF "gone_on" Yx]
def fn5:List He.DefD:=[dM "Beast" "stand" "Beast.stand" M8,dM "Beast" "befall" "Beast.befall" JX,dM "Commons" "cut" "Commons.cut" Nu,dM "Commons" "tear" "Commons.tear" Ku,dM "Herd" "calves" "Herd.calves" Nv,dM "Herd" "lead_calves" "Herd.lead_calves" Df,dM "Commons" "sell" "Commons.sell" JG,dM "Commons" "move" "Commons.move" KZ,dM "Commons" "die" "Commons.die" M5,dF "clashing" V8,dM "Commons" "quarrels" "Commons.quarrels" Cv,dM "Grounds" "enclose" "Grounds.enclose" Ed]
def fn6:List He.DefD:=[dM "Grounds" "unite" "Grounds.unite" Io,dM "Commons" "unite" "Commons.unite" Jb,dM "Grounds" "part" "Grounds.part" Km,dM "Commons" "part" "Commons.part" KR,dM "Rights" "hand_over" "Rights.hand_over" Cq,dM "Herd" "owned" "Herd.owned" Og,dM "Commons" "pass_on" "Commons.pass_on" Ec,dF "part_fits" R4,dF "fits" afX,dM "Commons" "do" "Commons.do" Oo,dF "_law_done" agP,dF "_law_near" ahC]
def fn7:List He.DefD:=[dF "_law_mark_by" YH,dF "_law_ref" ajQ,dF "_law_deed" ahI,dF "_law_play" ahc,dM "Beast" "told" "Beast.told" Qw,dM "Commons" "owners" "Commons.owners" Gf,dM "Rights" "all_rows" "Rights.all_rows" Ef,dM "Commons" "look" "Commons.look" Jx,dF "_law_cut" ajT,dF "_law_raw" ajC,dF "_law_herd_bad" VJ,dF "_law_tears" adE]
def fn8:List He.DefD:=[dF "_law_once" agm,dF "_law_rows_of" YZ,dF "_law_room_of" YJ,dF "_law_top" ajZ,dF "_law_price" acY,dF "_law_due" ajG,dF "_law_whole" adR,dF "_law_like" V6,dM "Herd" "tally" "Herd.tally" PL,dM "Commons" "tally" "Commons.tally" Jc,dF "_law_asked" adH,dF "_law_tally" adx]
def fn9:List He.DefD:=[dM "Commons" "worn" "Commons.worn" JF,dF "passing" Zt,dM "Commons" "price" "Commons.price" HS,dM "Commons" "calves" "Commons.calves" FZ,dM "Commons" "history" "Commons.history" Eh,dF "_law_told" agW,dF "_law_right" ac2,dF "_law_turns" aej,dF "_law_named" adX,dF "_law_done_so" YS,dF "law" Rx,dM "Clash" "__init__" "Clash.__init__" Oi]
def fn:List He.DefD:=fn0++fn1++fn2++fn3++fn4++fn5++fn6++fn7++fn8++fn9
def exB(K:avC):Bool:=true&&QJ K lJ&&xmB K xmH&&(Zm.all λp=>xsH.contains p.1&&Xm K p.1 p.2)&&aia K "SHAPES" Az&&He.tupB K "PLACES" [.str "lt",.str "lf",.str "lh",.str "rt",.str "rf",.str "rh"]&&abR K (He.ga K "PLACES")&&He.tupB K "BARE_EAR" [.int 0,.int 0,.int 0,.int 0,.int 0,.int 0]&&abR K (He.ga K "BARE_EAR")
def ad0:List Addr:=[3,31,44,56,68,80,92,104,116,128,140,152,164,176,188,200,212,224,236,248,260,272,291,294]
def ad1:List Addr:=[295,300,307,314,319,364,445,450,470,477,482,487,492,499,506,511,594,603,608,668,679,684,691,696]
def ad2:List Addr:=[701,706,713,972,983,988,993,998,1003,1010,1017,1024,1031,1038,1043,1050,1057,1064,1071,1078,1085,1092,1099,1106]
def ad3:List Addr:=[1113,1120,1127,1134,1141,1148,1155,1160,1167,1174,1181,1188,30,43,55,67,79,91,103,115,127,139,151,163]
def ad4:List Addr:=[175,187,199,211,223,235,247,259,271,290,299,306,313,318,363,444,451,452,453,454,455,456,457,458]
def ad5:List Addr:=[459,460,461,462,463,464,465,469,476,481,486,491,498,505,510,593,602,607,667,678,683,690,695,700]
def ad6:List Addr:=[705,712,971,982,987,992,997,1002,1009,1016,1023,1030,1037,1042,1049,1056,1063,1070,1077,1084,1091,1098,1105,1112]
def ad7:List Addr:=[1119,1126,1133,1140,1147,1154,1159,1166,1173,1180,1187,29,32,42,54,66,78,90,102,114,126,138,150,162]
def ad8:List Addr:=[174,186,198,210,222,234,246,258,270,288,289,333,340,347,354,361,362,365,366,382,389,396,403,410]
def ad9:List Addr:=[415,420,425,430,437,442,443,446,447,525,532,539,546,553,560,567,572,579,584,591,592,595,596,622]
def arA:List Addr:=[629,636,641,648,655,660,665,666,669,670,727,734,741,748,753,760,767,774,781,788,795,802,809,816]
def arq:List Addr:=[821,828,835,842,849,856,863,870,875,882,889,896,903,910,917,922,929,936,941,948,955,962,969,970]
def arC:List Addr:=[973,974,287,332,339,346,353,360,381,388,395,402,409,414,419,424,429,436,441,524,531,538,545,552]
def aqU:List Addr:=[559,566,571,578,583,590,621,628,635,640,647,654,659,664,726,733,740,747,752,759,766,773,780,787]
def aqK:List Addr:=[794,801,808,815,820,827,834,841,848,855,862,869,874,881,888,895,902,909,916,921,928,935,940,947]
def arE:List Addr:=[954,961,968]
def ad:List Addr:=ad0++ad1++ad2++ad3++ad4++ad5++ad6++ad7++ad8++ad9++arA++arq++arC++aqU++aqK++arE
abbrev R:PySem.W.OpenRow:=PySem.W.OpenLaw.row PySem.Challenge.rw_earmarks_k49_beasts_asked
abbrev hkE:PySem.W.Hook:=afb ad fa fn tbs exB
def obE(s:PySem.W.SharedT):He.AlX:=aeH ad fa fn tbs exB (HandSHeadRun.getT s)
def aoi(s:PySem.W.SharedT):obE s=hkE.obs s.abs:=akF (HandSHeadRun.getT_eq s)
abbrev wR(w:World)(b:Bool):World:=w.withFollow "special-get-raises" b
def apd(w:World):ahW R (PySem.W.view R.prog [100]) ad exB 40000 nm (wR w false):=λos=>by kernel_rfl
def apC(w:World):aiO R ad [] fn tbs 40000 (wR w false):=λos=>by kernel_rfl
def zzf(w:World):aiO R ad fa [] [] 40000 (wR w false):=λos=>by kernel_rfl
def runAt(w:World):ahW R (PySem.W.view R.prog [100]) ad exB 40000 nm (wR w true):=λos=>by kernel_rfl
def apo(w:World):aiO R ad [] fn tbs 40000 (wR w true):=λos=>by kernel_rfl
def zzt(w:World):aiO R ad fa [] [] 40000 (wR w true):=λos=>by kernel_rfl
def run(w:World):HandSHeadRun.RunEq R (PySem.W.view R.prog [100]) hkE obE 40000 nm w:=PySem.W.byRow2 "special-get-raises" (P:=λw=>HandSHeadRun.RunEq R (PySem.W.view R.prog [100]) hkE obE 40000 nm w) (λw=>ZG (apd w) (apC w) (zzf w)) (λw=>ZG (runAt w) (apo w) (zzt w)) w
end Pr
namespace Ear
open PySem PySem.Spec PyProof.Rows L2 Evl RZ
section
variable{X:Cx}{C:Addr}{bmB:List Value}{B newId initId:String}
def ai2{x:Str}{p pos:Pos}(F:ExcBaseFacts B newId initId bmB)(q:PySem.W.excIn X.K C bmB newId=true)(gC:X.mg x=some (.ref C))(kC:PySem.W.keepIn X.K (.ref C)=true)(r:Raises X (.ref C))(hg:Gl X x)
  (hn:(x==("__debug__" : Str))=false:=by decide):PMk X (.Call (.Name x p) [] [] pos) (λ_ H Q=>Q (.ref C) none H):=by
 intro pins s σ H Q I h;refine wpAny_Call_Name_kw (ld_glob I hg gC ?_ hn);refine PySem.W.callWith_K0 I.kIn kC ?_;show wpAny _ _ (call (.ref C) []) _ _ _;let⟨bm,N,nm,qn,bs,hdct,sn,sub,ab,col,dd,k0,k1,k2,k3,k5,mN,hC,hN,hni,T⟩:=exc_obj I.kIn q
 refine wpAny_call_exc_subT F T hC hN hni (λh' e hm=>?_) (awg _);exact mk_of I hm r h (I.hok.gone hm.new)
end
def exm_one{K:avC}{S:Addr}(h1:PySem.W.subIn K (.ref S) (.type "BaseException")=some true)(h2:PySem.W.isClsIn K S=true)(h3:PySem.W.typeIn K (.ref S)=some (.type "type"))(h4:PySem.W.subIn K (.ref S) (.ref S)=some true) :
  PySem.W.exmOne K (.ref S) (.ref S)=some true:=by
 have e1:(PySem.W.subIn K (.ref S) (.type "BaseException")==some true)=true:=by rw[h1]<;>rfl
 have e2:((PySem.W.clsIn K S).isSome&&PySem.W.typeIn K (.ref S)==some (.type "type"))=true:=by rw[h3,avD];exact⟨h2,rfl⟩
 show(if (PySem.W.subIn K (.ref S) (.type "BaseException")==some true)=true then(if ((PySem.W.clsIn K S).isSome&&PySem.W.typeIn K (.ref S)==some (.type "type"))=true then PySem.W.subIn K (.ref S) (.ref S) else none) else none)=some true
 rw[if_pos e1,if_pos e2];exact h4
def aqS(xs:List Int):Prop:=xs.length=6/\∀x∈xs,0<=x/\x<=9
section
variable{K:avC}{σ:L2.St}{H:Hp}{te tl:TE}{tt:TT}{vs:List Nat}
def EvS(te:TE)(σ:L2.St)(H:Hp)(P:V->Hp->Prop):Prop:=∀H1,Ex H H1->∀Q:VK,(∀v H2,Ex H1 H2->P v H2->Q v H2)->te σ H1 Q
end
section
variable{K:avC}{σ:L2.St}{H H':Hp}{te ta tb:TE}{t:TT}{P R:V->Hp->Prop}{v:V}
def EvS.mono(e:Ex H H')(h:EvS te σ H P):EvS te σ H' P:=λH1 a Q q=>h H1 (e.trans a) Q q
def EvS.imp(h:EvS te σ H P)(k:∀v H',P v H'->R v H'):EvS te σ H R:=λH1 e Q q=>h H1 e Q λv H2 e2 p=>q v H2 e2 (k v H2 p)
end
end Ear
namespace Ear
open PySem PySem.Spec PyProof.Rows L2 Evl RZ
def fU{α:Type}(R:V->α->Prop)(ws:List V)(L:List α):Prop:=ws.length=L.length/\∀(i:Nat) (v:V) (x:α),ws[i]?=some v->L[i]?=some x->R v x
def fU.imp{α:Type}{R S:V->α->Prop}{ws:List V}{L:List α}(h:fU R ws L)(k:∀v x,R v x->S v x):fU S ws L:=⟨h.1,λi v x a b=>k v x (h.2 i v x a b)⟩
def fU.nil{α:Type}{R:V->α->Prop}:fU R [] []:=⟨rfl,λi v x a _=>by simp at a⟩
def fU.snoc{α:Type}{R:V->α->Prop}{ws:List V}{L:List α}{v:V}{x:α}(h:fU R ws L)(k:R v x):fU R (ws++[v]) (L++[x]):=by
 refine⟨by rw[awa,awa,h.1];rfl,λi u y a b=>?_⟩;by_cases hi:i<ws.length
 .rw[avS hi]at a;rw[avS (by rw[<-h.1];exact hi)]at b;exact h.2 i u y a b
 .rw[avX #[]]at a;rw[avX (by rw[<-h.1];omega),<-h.1]at b;have hj:i-ws.length=0:=by
   have:=(avH.mp a).1;simp![avO,List.length_nil]at this;omega
  rw[hj]at a b;cases a;cases b;exact k
def Ml(H:Hp)(v:V)(l:List Int):Prop:=∃h:Addr,v=.ref h/\H h=some (.tup (l.map V.int))
def Ml.mono{H H':Hp}(e:Ex H H'){v:V}{l:List Int}(h:Ml H v l):Ml H' v l:=by
 let⟨a,e1,h1⟩:=h
 exact⟨a,e1,e _ _ h1⟩
theorem Ml.upd{H:Hp}{D:Addr}{acc:List V}{o:HO}(hD:H D=some (.lst acc)){v:V}{l:List Int}(h:Ml H v l):Ml (upd H D o) v l:=by
 let⟨a,e1,h1⟩:=h
 refine⟨a,e1,?_⟩;rw[upd_ne (λz=>by rw[z,hD]at h1;cases h1)];exact h1
abbrev Rw:Type:=Int×List Int
def Ru(H:Hp)(v:V)(r:Rw):Prop:=∃t m:Addr,v=.ref t/\H t=some (.tup [.int r.1,.ref m])/\H m=some (.tup (r.2.map V.int))
def Ru.mono{H H':Hp}(e:Ex H H'){v:V}{r:Rw}(h:Ru H v r):Ru H' v r:=by
 let⟨t,m,e1,h1,h2⟩:=h
 exact⟨t,m,e1,e _ _ h1,e _ _ h2⟩
theorem Ru.upd{H:Hp}{D:Addr}{acc:List V}{o:HO}(hD:H D=some (.lst acc)){v:V}{r:Rw}(h:Ru H v r):Ru (upd H D o) v r:=by
 let⟨t,m,e1,h1,h2⟩:=h
 refine⟨t,m,e1,?_,?_⟩
 .rw[upd_ne (λz=>by rw[z,hD]at h1;cases h1)];exact h1
 .rw[upd_ne (λz=>by rw[z,hD]at h2;cases h2)];exact h2
def apg(r:Rw):Prop:=1<=r.1/\aqS r.2
structure Tab(R:List Rw):Prop where
 len:R.length<=128
 ok:∀r∈R,apg r
 few:∃D:List Rw,D.length<=64/\∀r∈R,r∈D
def Tab.sub{R S:List Rw}(h:Tab R)(hs:∀r∈S,r∈R)(hl:S.length<=128):Tab S:=by
 let⟨D,d1,d2⟩:=h.few
 exact⟨hl,λr hr=>h.ok r (hs r hr),D,d1,λr hr=>d2 r (hs r hr)⟩
def fU.get{α:Type}{R:V->α->Prop}{ws:List V}{L:List α}(h:fU R ws L){i:Nat}{v:V}(g:ws[i]?=some v):∃x,L[i]?=some x/\R v x:=by
 have hi:=(avH.mp g).1;have hi':i<L.length:=by rw[<-h.1];exact hi
 exact⟨L[i],avE hi',h.2 i v _ g (avE hi')⟩
def fU.mem{α:Type}{R:V->α->Prop}{ws:List V}{L:List α}(h:fU R ws L){v:V}(m:v∈ws):∃x,x∈L/\R v x:=by
 let⟨i,hi,e⟩:=List.getElem_of_mem m
 let⟨x,g,r⟩:=h.get (avH.mpr ⟨hi,e⟩)
 exact⟨x,avK g,r⟩
theorem fU.take{α:Type}{R:V->α->Prop}{ws:List V}{L:List α}(h:fU R ws L)(n:Nat):fU R (ws.take n) (L.take n):=by
 refine⟨by rw[List.length_take,List.length_take,h.1],λi v x a b=>?_⟩;rw[List.getElem?_take]at a b;by_cases c:i<n
 .rw[if_pos c]at a b;exact h.2 i v x a b
 .rw[if_neg c]at a;cases a
theorem fU.drop{α:Type}{R:V->α->Prop}{ws:List V}{L:List α}(h:fU R ws L)(n:Nat):fU R (ws.drop n) (L.drop n):=by refine⟨by rw[awG,awG,h.1],λi v x a b=>?_⟩;rw[List.getElem?_drop]at a b;exact h.2 _ v x a b
theorem minD_mem:∀(xs:List PyData) (x:PyData),PySem.W.minD x xs∈x::xs
 |[],x=>avJ.mpr rfl
 |y::ys,x=>by
  show PySem.W.minD (if PySem.W.dataLt y x then y else x) ys∈x::y::ys;have ih:=minD_mem ys (if PySem.W.dataLt y x then y else x);rcases avP.mp ih with e|m
  .rw[e];split
   .exact avG _ avI
   .exact avI
  .exact avG _ (avG _ m)
@[irreducible]def Av (K:avC):List V->List V->Hp->VK->Prop:=λvs zs H Q=>∃(a:Addr) (xs:List V) (ds:List PyData) (d:V),vs=[V.ref a]/\zs=[d]/\SqL K H a xs/\DpAll K H xs ds/\PySem.W.AlikeAll ds/\PyData.depthAll ds<=60/\
 (ds=[]->Q d H)/\∀(y:PyData) (ys:List PyData) (i:Nat) (x:V),ds=y::ys->xs[i]?=some x->ds[i]?=some (PySem.W.minD y ys)->Q x H
section
variable{X:Cx}
def aha(hu:X.A.units+65<cLine)(hc:X.calm=true):CallRK X (.builtin "min") [Str.ofString "default"] (Av X.K):=by
 intro pins s σ H vs zs us ws Q I r1 r2 h;unfold Av at h;let⟨a,xs,ds,d,rfl,rfl,hs,hd,ha,hz,q0,q⟩:=h
 let⟨u,rfl,ru⟩:=vals1 r1
 let⟨wd,rfl,rd⟩:=vals1 r2
 obtain rfl:u=Value.ref a:=ru
 let⟨its,rv,hl,_⟩:=I.list hs
 let⟨as,hr⟩:=Dp.readsAll I ds xs its hd rv
 refine PySem.W.min_list_default (I.ok.hd hc) hl.isList hr ha #[] (λe h' tk k=>?_) (λy ys i v h' tk bs e hv rm k=>?_)
 .exact⟨d,H,I.kept (t':=tk) k,rd,q0 e⟩
 .have hv':its[i]?=some v:=by simpa using hv
  have hi:i<its.length:=(avH.mp hv').1;have hx:i<xs.length:=by rw[rv.length];exact hi
  let⟨v',gv,rx⟩:=rv.get (avE hx)
  obtain rfl:v'=v:=av0 (gv.symm.trans hv')
  have hn:=SeqAt.ReadsAll.length ds its as hr;have hdi:i<ds.length:=#[];let⟨bs2,r,_⟩:=PySem.W.readsAll_atA (vs:=its.toArray) hr i v' (by simpa using hv')
  have eg:ds.getD i .none=ds[i]:=by rw[List.getD_eq_getElem?_getD,avE hdi];rfl
  rw[eg]at r;have m1:ds[i]∈ds:=awh hdi;have m2:PySem.W.minD y ys∈ds:=by rw[e];exact minD_mem ys y
  have eq:=PySem.W.alike_unique _ _ _ _ _ (ha.1 _ m1 _ m2) (PySem.W.reads_keeps k r) rm;exact⟨xs[i],H,I.kept (t':=tk) k,rx,q y ys i _ e (avE hx) (by rw[avE hdi,eq])⟩
def aeG(xs:List V)(ds:List PyData)(x:V)(d:PyData):Prop:=∃i:Nat,xs[i]?=some x/\ds[i]?=some d
@[irreducible]def LK (K:avC):List V->Hp->VK->Prop:=λvs H Q=>∃(a:Addr) (xs:List V) (ds:List PyData),vs=[V.ref a]/\SqL K H a xs/\DpAll K H xs ds/\PySem.W.AllAlike ds/\PySem.W.Sortable ds/\(∀d∈ds,d.depth<=60)/\
 ∀(ys:List V) (p:Addr),fU (aeG xs ds) ys (ds.mergeSort (PySem.W.dataLe false id))->H p=none->Q (.ref p) (upd H p (.lst ys))
theorem TQ:∀(xs:List V) (ds:List PyData) (its:List Value) (P:Value->PyData->Prop),Vals xs its->PySem.W.EachIs P its ds->
  PySem.W.EachIs (λv d=>∃(i:Nat) (x:V),RelV x v/\xs[i]?=some x/\ds[i]?=some d) its ds
 |[],_,_,_,.nil,.nil=>.nil
 |_::_,[],_,_,.cons _ _,k=>nomatch k
 |x::xs,d::ds,u::us,P,.cons r t,.cons _ k=>.cons ⟨0,x,r,rfl,rfl⟩ ((TQ xs ds us P t k).mono λv d ⟨i,y,a,b,c⟩=>⟨i+1,y,a,b,c⟩)
theorem O6{xs:List V}{ds:List PyData}:∀(out:List Value) (L:List PyData),PySem.W.EachIs (λv d=>∃(i:Nat) (x:V),RelV x v/\xs[i]?=some x/\ds[i]?=some d) out L->∃ys,Vals ys out/\fU (aeG xs ds) ys L
 |[],[],.nil=>⟨[],.nil,fU.nil⟩
 |v::out,d::L,.cons ⟨i,x,r,a,b⟩ k=>by
  let⟨ys,h1,h2⟩:=O6 out L k
  refine⟨x::ys,.cons r h1,by rw[avO,avO,h2.1],λj u y g1 g2=>?_⟩;cases j with
  |zero=>
   cases g1;cases g2;exact⟨i,a,b⟩
  |succ j=>exact h2.2 j u y g1 g2
def ae2(hu:X.A.units+65<cLine):CallR X (.builtin "sorted") (LK X.K):=by
 intro pins s σ H vs us Q I r h;unfold LK at h;let⟨a,xs,ds,rfl,hs,hd,hal,hk,hz,q⟩:=h
 let⟨u,rfl,ru⟩:=vals1 r
 obtain rfl:u=Value.ref a:=ru
 let⟨its,rv,hl,hsz⟩:=I.list hs
 let⟨as,hr⟩:=Dp.readsAll I ds xs its hd rv
 have er:PySem.W.EachIs (λv d=>∃as,Reads s.heap v (id d) as) its ds:=PySem.W.readsAll_each id (by rw[List.map_id];exact hr);have hn:=SeqAt.ReadsAll.length ds its as hr;have hl2:=rv.length;refine PySem.W.sorted_data (enc:=id) hl.isList (TQ xs ds its _ rv er) er (by rw[List.map_id];exact hal) (by rw[List.map_id];exact hk) #[] (λd m=>?_) λout hlen hout=>?_
 .have:=hz d m;show X.A.units+2+d.depth<cLine;omega
 .let⟨ys,v1,v2⟩:=O6 out _ hout
  let⟨ep,he'⟩:=PyProof.Rows.sortedAll_at s.heap its out.toArray
  have hy:ys.length=ds.length:=by rw[v2.1,List.length_mergeSort]
  refine⟨.ref _,upd H (s.heap.objs.size+1) (.lst ys),I.laid (t':=s.toks) (λ_ _=>PyProof.Rows.sortedAll_old) (Nat.le_succ _) ⟨#[],out,ep,v1,by simpa using he'⟩,rfl,q ys _ v2 (I.hok.fresh (Nat.le_succ _))⟩
end
@[irreducible]def Wn (K:avC):R2:=λx y H Q=>∃d e:PyData,Dp K H x d/\Dp K H y e/\PySem.W.alike d e=true/\d≠.none/\d.depth<=60/\Q (.bl (PySem.W.dataLt d e)) H
def ajs{X:Cx}(hu:X.A.units+65<cLine):OpR X (compareOp .Lt) (Wn X.K):=by
 intro pins s σ H x y v u Q I rx ry h;unfold Wn at h;let⟨d,e,hd,he,ha,hn,hz,q⟩:=h
 let⟨as,r1⟩:=Dp.reads I d x v hd rx
 let⟨bs,r2⟩:=Dp.reads I e y u he ry
 exact PySem.W.lt_data r1 r2 ha hn #[] ⟨.bl _,H,I,rfl,q⟩
def EvR(te:TE)(σ:L2.St)(H:Hp)(P:List V->Hp->Prop):Prop:=∀H1,Ex H H1->∀Q:VK,(∀p H2 us,Ex H1 H2->H2 p=some (.lst us)->P us H2->Q (.ref p) H2)->te σ H1 Q
def EvM(te:TE)(σ:L2.St)(H:Hp)(P:List V->Hp->Prop):Prop:=∀H1,Ex H H1->∀Q:VK,(∀p H2 us,H1 p=none->Ex H1 H2->H2 p=some (.lst us)->P us H2->Q (.ref p) H2)->te σ H1 Q
structure am1{α:Type}(Rel:Hp->V->α->Prop):Prop where
 mono:∀{H H':Hp} {v:V} {x:α},Ex H H'->Rel H v x->Rel H' v x
 upd:∀{H:Hp} {D:Addr} {acc:List V} {o:HO} {v:V} {x:α},H D=some (.lst acc)->Rel H v x->Rel (upd H D o) v x
theorem fU.mono{α:Type}{Rel:Hp->V->α->Prop}(S:am1 Rel){H H':Hp}(e:Ex H H'){ws:List V}{L:List α}(h:fU (Rel H) ws L):fU (Rel H') ws L:=h.imp λ_ _ r=>S.mono e r
theorem fU.upd{α:Type}{Rel:Hp->V->α->Prop}(S:am1 Rel){H:Hp}{D:Addr}{acc:List V}{o:HO}(hD:H D=some (.lst acc)){ws:List V}{L:List α}(h:fU (Rel H) ws L):fU (Rel (upd H D o)) ws L:=h.imp λ_ _ r=>S.upd hD r
section
variable{K:avC}{σ:L2.St}{H:Hp}{te tl:TE}{tt:TT}{vs:List Nat}{α:Type}
def EvM.r{P:List V->Hp->Prop}(h:EvM te σ H P):EvR te σ H P:=λH1 e Q q=>h H1 e Q λp H2 us _ a b c=>q p H2 us a b c
def EvM.imp{P R:List V->Hp->Prop}(h:EvM te σ H P)(k:∀us H',P us H'->R us H'):EvM te σ H R:=λH1 e Q q=>h H1 e Q λp H2 us n a b c=>q p H2 us n a b (k us H2 c)
end
theorem abZ:∀a b:List Int,PyData.eqvAll (a.map PyData.int) (b.map PyData.int)=decide (a=b)
 |[],[]=>by rw[awr,PyData.eqvAll];rfl
 |[],y::ys=>by rw[awr,List.map_cons,PyData.eqvAll];rfl
 |x::xs,[]=>by rw[awr,List.map_cons,PyData.eqvAll];rfl
 |x::xs,y::ys=>by
  rw[List.map_cons,List.map_cons,PyData.eqvAll,abZ xs ys,PyData.eqv,awq];simp
def dT(l:List Int):PyData:=.tuple (l.map PyData.int)
theorem lay_ints:∀l:List Int,PyData.canLayAll0 (l.map PyData.int)=true/\PyData.depthAll (l.map PyData.int)=0
 |[]=>⟨by rw[awr,PyData.canLayAll0],by rw[awr,PyData.depthAll]⟩
 |x::xs=>by
  have ih:=lay_ints xs;refine⟨?_,?_⟩
  .rw[List.map_cons,PyData.canLayAll0,PyData.canLay0,ih.1];rfl
  .rw[List.map_cons,PyData.depthAll,PyData.depth,ih.2];rfl
theorem KQ{K:avC}{H:Hp}:∀l:List Int,DpAll K H (l.map V.int) (l.map PyData.int)
 |[]=>.nil
 |x::xs=>.cons (.int x) (KQ xs)
def rD(r:Rw):PyData:=.tuple [.int r.1,dT r.2]
def ahE(r:Rw):(rD r).canLay0=true/\(rD r).depth=2:=by
 have h:=lay_ints r.2;unfold rD dT;refine⟨?_,?_⟩
 .rw[PyData.canLay0,PyData.canLayAll0,PyData.canLayAll0,PyData.canLayAll0,PyData.canLay0,PyData.canLay0,h.1];rfl
 .rw[PyData.depth,PyData.depthAll,PyData.depthAll,PyData.depthAll,PyData.depth,PyData.depth,h.2];rfl
def rk(r:Rw):List Int:=r.1::r.2
abbrev Wy:Type:=Int×Int×List Int
def wk(w:Wy):List Int:=w.1::w.2.1::w.2.2
def wD(w:Wy):PyData:=.tuple [.int w.1,.int w.2.1,dT w.2.2]
def agr:PySem.W.rowLt [] []=false:=PyProof.Rows.lex_irrefl _
def adI(l m:List Int):PySem.W.rowLt [dT l] [dT m]=decide (l<m):=by
 have al:PySem.W.alike (dT l) (dT m)=true:=by unfold dT;rw[PySem.W.alike];exact PySem.W.alike_ints l m
 have ev:PyData.eqv (dT l) (dT m)=decide (l=m):=by unfold dT;rw[PyData.eqv,abZ]
 have h:PySem.W.rowLt [dT l] [dT m]=if PyData.eqv (dT l) (dT m)=true then PySem.W.rowLt [] [] else PySem.W.dataLt (dT l) (dT m):=PySem.W.dataLt_cons al [] []
 rw[h,ev,agr];by_cases c:l=m
 .rw[if_pos (decide_eq_true c),c];exact(decide_eq_false (List.lt_irrefl _)).symm
 .rw[if_neg (by rw[awO];exact c)];show PySem.W.dataLt (.tuple (l.map PyData.int)) (.tuple (m.map PyData.int))=_;rw[PySem.W.dataLt_tuple];exact PySem.W.dataLt_ints l m
def Jp(x y:Int)(ds es:List PyData)(l m:List Int)(h:PySem.W.rowLt ds es=decide (l<m)):PySem.W.rowLt (.int x::ds) (.int y::es)=decide (x::l<y::m):=by
 have al:PySem.W.alike (.int x) (.int y)=true:=by rw[PySem.W.alike]
 have h2:PySem.W.rowLt (.int x::ds) (.int y::es)=if PyData.eqv (.int x) (.int y)=true then PySem.W.rowLt ds es else PySem.W.dataLt (.int x) (.int y):=PySem.W.dataLt_cons al ds es
 rw[h2,h,PySem.W.dataLt_int,PyData.eqv];by_cases c:x=y
 .subst c;rw[if_pos (by simp),awq,awO,awO,List.cons_lt_cons_iff];constructor
  .exact λk=>Or.inr ⟨rfl,k⟩
  .rintro(k|k)
   .omega
   .exact k.2
 .rw[if_neg (by simpa using c),awq,awO,awO,List.cons_lt_cons_iff];constructor
  .exact Or.inl
  .rintro(k|k)
   .exact k
   .exact absurd k.1 c
def aou(a b:Rw):PySem.W.dataLt (rD a) (rD b)=decide (rk a<rk b):=by unfold rD;rw[PySem.W.dataLt_tuple];exact Jp _ _ _ _ _ _ (adI a.2 b.2)
def agL(a b:Wy):PySem.W.dataLt (wD a) (wD b)=decide (wk a<wk b):=by unfold wD;rw[PySem.W.dataLt_tuple];exact Jp _ _ _ _ _ _ (Jp _ _ _ _ _ _ (adI a.2.2 b.2.2))
def Zx(a b:Rw):PySem.W.alike (rD a) (rD b)=true:=by unfold rD dT;rw[PySem.W.alike,PySem.W.alikeAll,PySem.W.alikeAll,PySem.W.alike,PySem.W.alike,PySem.W.alike_ints,PySem.W.alikeAll];rfl
def ZJ(a b:Wy):PySem.W.alike (wD a) (wD b)=true:=by unfold wD dT;rw[PySem.W.alike,PySem.W.alikeAll,PySem.W.alikeAll,PySem.W.alikeAll,PySem.W.alike,PySem.W.alike,PySem.W.alike,PySem.W.alike_ints,PySem.W.alikeAll];rfl
theorem fU.map{α β:Type}{P:V->β->Prop}(f:α->β){ws:List V}{L:List α}(h:fU (λv x=>P v (f x)) ws L):fU P ws (L.map f):=by
 refine⟨by rw[avN,h.1],λi v x a b=>?_⟩;rw[avQ]at b;let⟨y,hy,e⟩:=awm.mp b
 rw[<-e];exact h.2 i v y a hy
def abJ{a b:Rw}(h:rk a=rk b):a=b:=by unfold rk at h;injection h with h1 h2;exact Prod.ext h1 h2
def Ke(S:List Rw):Prop:=S.Pairwise λa b=>rk a<rk b
theorem ahz:∀{S T:List Rw},Ke S->Ke T->(∀r,r∈S↔r∈T)->S=T
 |[],[],_,_,_=>rfl
 |[],t::T,_,_,h=>absurd ((h t).mpr avI) (by simp)
 |s::S,[],_,_,h=>absurd ((h s).mp avI) (by simp)
 |s::S,t::T,hs,ht,h=>by
  let⟨hs1,hs2⟩:=List.pairwise_cons.mp hs
  let⟨ht1,ht2⟩:=List.pairwise_cons.mp ht
  have e:s=t:=by
   rcases avP.mp ((h s).mp avI) with e|m
   .exact e
   .rcases avP.mp ((h t).mpr avI) with e2|m2
    .exact e2.symm
    .exact absurd (ht1 s m) (List.lt_asymm (hs1 t m2))
  subst e;have hn:∀{L:List Rw},(∀r∈L,rk s<rk r)->s∉L:=λhL m=>List.lt_irrefl _ (hL s m);rw[ahz hs2 ht2 λr=>?_];constructor
  .intro m;rcases avP.mp ((h r).mp (avG _ m)) with e|m2
   .rw[e]at m;exact absurd m (hn hs1)
   .exact m2
  .intro m;rcases avP.mp ((h r).mpr (avG _ m)) with e|m2
   .rw[e]at m;exact absurd m (hn ht1)
   .exact m2
def N7(a b:Rw):PySem.W.dataLe false rD a b=decide (rk a<=rk b):=by
 show(!PySem.W.dataLt (rD b) (rD a))=_
 rw[aou,awq,avU,decide_eq_false_iff_not,awO];exact List.not_lt
def agA{α β:Type}{R:α->β->Prop}{as cs:List α}(p:as.Perm cs):∀{bs:List β},PySem.W.EachIs R as bs->∃ds,ds.Perm bs/\PySem.W.EachIs R cs ds:=by
 induction p with
 |nil=>
  intro bs h;cases h;exact⟨[],List.Perm.refl _,.nil⟩
 |cons x _ ih=>
  intro bs h;cases h with
  |cons r t=>
   let⟨ds,h1,h2⟩:=ih t
   exact⟨_::ds,h1.cons _,.cons r h2⟩
 |swap x y l=>
  intro bs h;cases h with
  |cons r t=>
   cases t with
   |cons r2 t2=>exact⟨_,List.Perm.swap _ _ _,.cons r2 (.cons r t2)⟩
 |trans _ _ ih1 ih2=>
  intro bs h;let⟨ds,a1,a2⟩:=ih1 h
  let⟨es,b1,b2⟩:=ih2 a2
  exact⟨es,b1.trans a1,b2⟩
section
variable{P:Program}{w:World}{A:Around}{E:Value->Shared->Prop}{s:Shared}
def acz{β:Type}{a:Addr}{es:Array (Int×Value)}{ep:Nat}{t:SetTable}{enc:β->PyData}{bs:List β}{R:Value->β->Prop}{Q:Value->Shared->Prop}(hh:A.handled=none)(ha:SetAt s.heap a es ep t)(hf:t.fits es.size=true)(hsz:es.size<scanBound)(hr:Ris t.place.toList)
  (hl:w.params.followText "set-order"=true\/t.led=true) (e:PySem.W.EachIs (λv b=>R v b/\∃as,Reads s.heap v (enc b) as) (es.toList.map (·.2)) bs) (hal:PySem.W.AllAlike (bs.map enc)) (hk:PySem.W.Sortable (bs.map enc)) (hu:∀b∈bs,A.units+2+(enc b).depth<cLine)
  (hQ:∀(s':Shared) (p:Addr) (out:List Value) (c:Nat) (cs:List β),(∀b o,s.heap.get? b=some o->s'.heap.get? b=some o)->s'.gens=s.gens->s'.os=s.os->s.heap.objs.size<=p->s'.heap.get? p=some (seqObj "list" out.toArray c)->
   cs.Perm bs->PySem.W.EachIs R out (cs.mergeSort (PySem.W.dataLe false enc))->Q (.ref p) s') :
  wpAny (model P w) A (call (.builtin "sorted") [.ref a]) Q E s:=by
 refine Calls.call_function_entry kind_sorted plain_sorted entry_sorted (args_sorted1 _) ?_;unfold Builtin.«sorted»;refine wpAny_bind (m:=checkCount "sorted" 1 1 _) (wpAny_pure ?_)
 refine wpAny_bind (collect_set (A:=A.in1) hh ha hf hsz hr hl λt1 vals kept grown g1 o1 pm=>?_);let⟨cs,pc,ec⟩:=agA pm.symm e
 have lc:vals.length=cs.length:=ec.length;have lb:cs.length=bs.length:=pc.length_eq;have lz:vals.length<=sizeLine:=by rw[pm.length_eq,avN,awd,sizeLine_eq];unfold scanBound at hsz;omega
 refine wpAny_bind (wpAny_newList ?_ lz);have here:(t1.heap.push (seqObj "list" vals.toArray 0)).get? t1.heap.objs.size=some (seqObj "list" vals.toArray 0):=Heap.get?_push_size _ rfl
 have stays:∀b o,s.heap.get? b=some o->(t1.heap.push (seqObj "list" vals.toArray 0)).get? b=some o:=λb o q=>Heap.get?_push_of_some _ (kept b o q)
 have al:PySem.W.AllAlike (cs.map enc):=λd hd d' hd'=>hal d ((pc.map enc).mem_iff.mp hd) d' ((pc.map enc).mem_iff.mp hd');have sk:PySem.W.Sortable (cs.map enc):=by
  rcases hk with k|k
  .exact .inl λd hd=>k d ((pc.map enc).mem_iff.mp hd)
  .exact .inr λd hd=>k d ((pc.map enc).mem_iff.mp hd)
 refine wpAny_bind (wpAny_holding (PySem.W.list_sort_data (s:={ t1 with heap:=t1.heap.push (seqObj "list" vals.toArray 0) }) (enc:=enc) here (ec.mono λv b h=>h.1) (ec.mono λv b ⟨_,as,r⟩=>⟨as,PySem.W.reads_keeps stays r,λm=>?rd⟩) al sk #[] (λb hb=>?un) λout lo eo=>?fin))
 case rd=>
  let⟨o,q⟩:=PyProof.On.reads_mem_get r _ m
  have hlt:t1.heap.objs.size<s.heap.objs.size:=Heap.lt_size q;exact absurd grown (Nat.not_le_of_lt hlt)
 case fin=>
  let⟨c,hc⟩:=sortedHeap_at (vs:=vals) (out:=out.toArray) here
  refine wpAny_pure ⟨_,rfl,hQ _ t1.heap.objs.size out c cs (λb o q=>?_) g1 o1 grown hc pc eo⟩;have hlt:=Heap.lt_size (kept b o q)
  show(sortedHeap (t1.heap.push (seqObj "list" vals.toArray 0)) t1.heap.objs.size vals out.toArray).get? b=some o
  rw[sortedHeap_old (awb hlt) (by rw[size_push'];exact awA hlt)];exact stays b o q
 case un=>
  have:=hu b (pc.mem_iff.mp hb);show A.in1.units+1+_<_;have e1:A.in1.units=A.units+1:=rfl;omega
def nk(r:Rw):NestedKey:=.tup [.num r.1,.tup (r.2.map .num)]
theorem aaH:∀a b:List Int,a.map NestedKey.num=b.map NestedKey.num->a=b
 |[],[],_=>rfl
 |[],_::_,h=>by cases h
 |_::_,[],h=>by cases h
 |x::a,y::b,h=>by
  rw[List.map_cons,List.map_cons]at h;injection h with h1 h2;injection h1 with h1;rw[h1,aaH a b h2]
def afB{a b:Rw}(h:nk a=nk b):a=b:=by unfold nk at h;injection h with h;injection h with h1 h;injection h with h2 _;injection h1 with h1;injection h2 with h2;exact Prod.ext h1 (aaH _ _ h2)
theorem Wq:∀l:List Int,NestedKey.depthAll (l.map .num)=0
 |[]=>by rw[awr,NestedKey.depthAll]
 |x::l=>by
  rw[List.map_cons,NestedKey.depthAll,NestedKey.depth,Wq l];rfl
def aiS(r:Rw):(nk r).depth=2:=by unfold nk;rw[NestedKey.depth,NestedKey.depthAll,NestedKey.depthAll,NestedKey.depthAll,NestedKey.depth,NestedKey.depth,Wq];rfl
def pK(P:Program)(w:World):HeapKind P w Rw where
 is:=λh r a=>(nestedKind P w).is h (nk r) a
 hash:=λr=>(nestedKind P w).hash (nk r)
 draws:=λr=>(nestedKind P w).draws (nk r)
 room:=(nestedKind P w).room
 inj:=λhx hy=>afB ((nestedKind P w).inj hx hy)
 keeps:=λx ho hd hs=>(nestedKind P w).keeps x ho hd hs
 pyHash:=λhu hk h=>(nestedKind P w).pyHash hu hk h
 eqBool:=λ{A E s x y a b Q} hu hx hy h=>(nestedKind P w).eqBool hu hx hy (by
  have e:decide (nk x=nk y)=decide (x=y):=by rw[decide_eq_decide];exact⟨afB,λh=>by rw[h]⟩
  rw[e];exact h)
 quiet:=λhk h=>(nestedKind P w).quiet hk h
abbrev RI(h:Heap)(r:Rw)(a:Addr):Prop:=NestedIs h (nk r) (.ref a)/\(nk r).depth<=8
def WY{h h':Heap}{r:Rw}{a:Addr}(x:RI h r a)(k:∀c o,h.get? c=some o->h'.get? c=some o):RI h' r a:=⟨NestedIs.at (λb o _ _ e _=>k b o e) _ _ x.1,x.2⟩
def aa9{h h':Heap}{r:Rw}{a d:Addr}{o:Obj}{es:Array (Int×Value)}{ep:Nat}{t:SetTable}(x:RI h r a)(ho:h.get? d=some o)(hd:o.data=.set es ep t)(sb:Heap.SameBut d h h'):RI h' r a:=by
 refine⟨NestedIs.at (λb ob vs n hb hc=>(sb.2 b λe=>?_).trans hb) _ _ x.1,x.2⟩;subst e
 obtain rfl:ob=o:=av0 (hb.symm.trans ho)
 rw[hd]at hc;cases hc
def LC{h:Heap}{i:Int}{v:Value}(x:NestedIs h (.num i) v)(n:Nat):ofAClassStatement n v=pure false/\hashByValue n v=pure true:=by
 cases x with
 |bool _=>cases n<;>exact⟨rfl,rfl⟩
 |int _ t=>cases n<;>exact⟨rfl,rfl⟩
theorem acq{h:Heap}:∀(l:List Int) (vs:List Value),NestedAll h (l.map .num) vs->∀v∈vs,∃i,NestedIs h (.num i) v
 |[],_,x,v,hv=>by
  cases x;cases hv
 |i::l,_,x,v,hv=>by
  rw[List.map_cons]at x;cases x with
  |cons x1 x2=>
   rcases avP.mp hv with e|hv
   .exact⟨i,by rw[e];exact x1⟩
   .exact acq l _ x2 v hv
def ac4{n:Nat}{a:Addr}{o:Obj}{vs:Array Value}{m:Nat}(ho:s.heap.get? a=some o)(hc:o.cls=.type "tuple")(hd:o.data=.seq vs m)(hq:∀v∈vs.toList,∀(E:Value->Shared->Prop) (Q:Bool->Shared->Prop),Q false s->wpAny (model P w) A (ofAClassStatement n v) Q E s){Q:Bool->Shared->Prop}(q:Q false s) :
  wpAny (model P w) A (ofAClassStatement (n+1) (.ref a)) Q E s:=by
 have hT:s.TypeIs (.ref a) "tuple":=⟨o,ho,hc⟩
 unfold ofAClassStatement;refine wpAny_bind (wpAny_typeOf hT ?_)
 dsimp only
 have eq1:(("tuple" : String)=="tuple")=true:=#[()]
 simp![eq1,if_true,Bool.not_true,awe,if_false]
 try refine wpAny_bind (wpAny_pure ?_)
 try simp![Bool.not_true,awe,if_false]
 refine wpAny_bind (wpAny_seqItems ho hd ?_)
 dsimp only
 refine wpAny_bind ?_;rw[<-Array.forIn_toList];refine wpAny_forIn_list _ (λleft r u=>r.1=none/\u=s/\∀v∈left,v∈vs.toList) _ ?_ ?_ _ _ ⟨rfl,rfl,λv hv=>hv⟩
 .rintro v left r u ⟨hr,rfl,hall⟩;refine wpAny_bind (hq v (hall v avI) _ _ ?_);simp![awe,if_false];exact wpAny_pure ⟨rfl,rfl,λy hy=>hall y (avG _ hy)⟩
 .rintro⟨r1,r2⟩ u ⟨hr,rfl,_⟩;simp only at hr;subst hr;exact wpAny_pure q
def aaN{n:Nat}{a:Addr}{o:Obj}{vs:Array Value}{m:Nat}(ho:s.heap.get? a=some o)(hc:o.cls=.type "tuple")(hd:o.data=.seq vs m)(hq:∀v∈vs.toList,∀(E:Value->Shared->Prop) (Q:Bool->Shared->Prop),Q true s->wpAny (model P w) A (hashByValue n v) Q E s){Q:Bool->Shared->Prop}(q:Q true s) :
  wpAny (model P w) A (hashByValue (n+1) (.ref a)) Q E s:=by
 have hT:s.TypeIs (.ref a) "tuple":=⟨o,ho,hc⟩
 unfold hashByValue;refine wpAny_bind (wpAny_specialOf hT PySem.F.slot_tuple_hash.lookup ?_);show wpAny _ _ (seqItems? (.ref a) >>= _) _ _ s;refine wpAny_bind (wpAny_seqItems ho hd ?_);refine wpAny_bind ?_;show wpAny _ _ (forIn vs _ _) _ _ s;rw[<-Array.forIn_toList];refine wpAny_forIn_list _ (λleft r u=>r.1=none/\u=s/\∀v∈left,v∈vs.toList) _ ?_ ?_ _ _ ⟨rfl,rfl,λv hv=>hv⟩
 .rintro v left r u ⟨hr,rfl,hall⟩;refine wpAny_bind (hq v (hall v avI) _ _ ?_);simp![Bool.not_true,awe,if_false];exact wpAny_pure ⟨rfl,rfl,λy hy=>hall y (avG _ hy)⟩
 .rintro⟨r1,r2⟩ u ⟨hr,rfl,_⟩;simp only at hr;subst hr;exact wpAny_pure q
def Ls{r:Rw}{a:Addr}(x:RI s.heap r a):(∀{Q:Bool->Shared->Prop},Q false s->wpAny (model P w) A (ofAClassStatement 8 (.ref a)) Q E s)/\∀{Q:Bool->Shared->Prop},Q true s->wpAny (model P w) A (hashByValue 8 (.ref a)) Q E s:=by
 let⟨x,_⟩:=x
 unfold nk at x;cases x with
 | @tup _ o vs m _ ho hc hd x=>
  have items:∀v∈vs.toList,(∃i,NestedIs s.heap (.num i) v)\/∃b,v=.ref b/\∃o us k,s.heap.get? b=some o/\o.cls=.type "tuple"/\o.data=.seq us k/\∀u∈us.toList,∃i,NestedIs s.heap (.num i) u:=by
   generalize vs.toList=l at x;cases x with
   |cons x1 x=>
    cases x with
    |cons x2 x=>
     cases x;intro v hv;rcases avP.mp hv with e|hv
     .exact Or.inl ⟨_,by rw[e];exact x1⟩
     .have e:=avJ.mp hv;cases x2 with
      |tup k1 k2 k3 k4=>exact Or.inr ⟨_,e,_,_,_,k1,k2,k3,acq _ _ k4⟩
  refine⟨λq=>ac4 ho hc hd (λv hv E' Q' q'=>?_) q,λq=>aaN ho hc hd (λv hv E' Q' q'=>?_) q⟩
  .rcases items v hv with⟨i,y⟩|⟨b,rfl,o',us,k,k1,k2,k3,k4⟩
   .rw[(LC y 7).1];exact wpAny_pure q'
   .refine ac4 k1 k2 k3 (λu hu E2 Q2 q2=>?_) q';let⟨i,y⟩:=k4 u hu
    rw[(LC y 6).1];exact wpAny_pure q2
  .rcases items v hv with⟨i,y⟩|⟨b,rfl,o',us,k,k1,k2,k3,k4⟩
   .rw[(LC y 7).2];exact wpAny_pure q'
   .refine aaN k1 k2 k3 (λu hu E2 Q2 q2=>?_) q';let⟨i,y⟩:=k4 u hu
    rw[(LC y 6).2];exact wpAny_pure q2
end
abbrev Ent:Type:=Addr×Rw
section
variable{P:Program}{w:World}{A:Around}{E:Value->Shared->Prop}{s:Shared}
def ents(hf:Rw->Int)(L:List Ent):List (Int×Value):=L.map λp=>(hf p.2,Value.ref p.1)
structure uw(hf:Rw->Int)(w:World)(h:Heap)(a:Addr)(L:List Ent)(es:Array (Int×Value))(ep:Nat)(t:SetTable):Prop where
 ob:∃o,h.get? a=some o/\o.ExactSet/\o.data=.set es ep t
 en:es.toList=ents hf L
 tab:TabOk t (L.map λp=>hf p.2)
 nd:(L.map Prod.snd).Nodup
 ky:∀p∈L,RI h p.2 p.1
 pl:t.plain=true
 ld:w.params.followText "set-order"=true\/t.led=true
 free:L.length*5<t.mask*3
 few:L.length<=76
variable{hf:Rw->Int}{a:Addr}{L:List Ent}{es:Array (Int×Value)}{ep:Nat}{t:SetTable}
def Bc(h:es.toList=ents hf L):es.size=L.length:=by rw[<-awd,h];exact avN _
def Rb(h:es.toList=ents hf L){i:Nat}{p:Ent}(g:L[i]?=some p):es[i]?=some (hf p.2,Value.ref p.1):=by rw[<-awj,h];unfold ents;rw[avQ,g];rfl
def fits_of(h1:t.place.size=es.size)(h2:t.dummies=(List.toArray []))(h3:es.size<=t.mask):t.fits es.size=true:=by unfold SetTable.fits SetTable.fill;rw[h2,avD,beq_iff_eq,awO];exact⟨h1,by show t.place.size+0<=t.mask;omega⟩
theorem uw.fits(R:uw hf w s.heap a L es ep t):t.fits es.size=true:=by have l1:=Bc R.en;have l2:=R.tab.sz;rw[avN]at l2;have l3:=R.free;exact fits_of #[] R.tab.dm #[]
def uw.sound(R:uw hf w s.heap a L es ep t):¬t.gaveWay=true:=by unfold SetTable.gaveWay;rw[mask_odd R.tab.mok];decide
def an3{r:Rw}{b:Addr}{Q:Bool->Shared->Prop}(hx:RI s.heap r b){ys:List Value}(hy:∀y∈ys,∃q c,y=Value.ref c/\RI s.heap q c)(q:Q false s):wpAny (model P w) A (searchCouldBeSeen (.ref b) ys) Q E s:=by
 unfold searchCouldBeSeen;refine wpAny_bind ?_;refine wpAny_forIn_list _ (λleft r u=>r.1=none/\u=s/\∀y∈left,∃q c,y=Value.ref c/\RI s.heap q c) _ ?_ ?_ _ _ ⟨rfl,rfl,hy⟩
 .rintro v left r u ⟨hr,rfl,hall⟩;let⟨q',c,rfl,hc⟩:=hall v avI
  have more:∀y∈left,∃q c,y=Value.ref c/\RI u.heap q c:=λy m=>hall y (avG _ m)
  dsimp only
  by_cases hv:(b==c || (carriedByValue (.ref b)&&carriedByValue (.ref c)))=true
  .exact wp_if_pos hv (wpAny_pure ⟨rfl,rfl,more⟩)
  .refine wp_if_neg hv ?_;refine wpAny_bind ((pK P w).quiet hx ?_);simp![Bool.not_true,awe,if_false];refine wpAny_bind ((pK P w).quiet hc ?_);simp![Bool.not_true,awe,if_false];refine wpAny_bind ((Ls hx).1 ?_);simp![awe,if_false];refine wpAny_bind ((Ls hc).1 ?_);simp![awe,if_false];exact wpAny_pure ⟨rfl,rfl,more⟩
 .rintro⟨r1,r2⟩ u ⟨hr,rfl,_⟩;simp only at hr;subst hr;exact wpAny_pure q
abbrev wH(m:Nat)(h:Int)(c:Nat):SetTable.Probe:=nth m (runAt m (SetTable.bits h%(m+1)) (SetTable.bits h)) c
def acU(m:Nat)(h:Int)(c:Nat):(wH m h c).dummy=none:=by
 have all:∀(n:Nat) (p:SetTable.Probe),p.dummy=none->(nth m p n).dummy=none:=by
  intro n
  induction n with
  |zero=>exact λp k=>k
  |succ n ih=>
   intro p k;refine ih (adv m p) ?_;unfold adv
   split<;>exact k
 exact all c _ rfl
def Zy(m:Nat)(h:Int)(c d:Nat):nth m (wH m h c) d=wH m h (c+d):=(nth_add m c _ d).symm
def seek(R:uw hf w s.heap a L es ep t){x:Addr}{r:Rw}(hx:RI s.heap r x){h:Int}(hh:hf r=h)(hu:(pK P w).room A){N:Nat}(hN:N<10*SetTable.turns t.mask)(out:way t.mask (h) N∉t.place.toList)(inn:∀c,c<N->way t.mask (h) c∈t.place.toList){Q:SetFound->Shared->Prop}
  (yes:r∈L.map Prod.snd->Q (.there none) s) (no:r∉L.map Prod.snd->Q (.free (way t.mask (h) N) false) s) :
  ∀(f c:Nat) (st:Option SetTable.Probe),st.getD (t.probeStart (h))=wH t.mask (h) c->c<=N->N-c<f->
   (∀(i:Nat) (p:Ent),L[i]?=some p->p.2=r->∃d,c<=d/\d<N/\t.place.toList[i]?=some (way t.mask (h) d))->
   wpAny (model P w) A (setSearchFrom a (.ref x) (h) true f st) Q E s:=by
 intro f
 induction f with
 |zero=>exact λ_ _ _ _ hfl _=>absurd hfl (Nat.not_lt_zero _)
 |succ f ih=>
  intro c st hst hc hfl left;let⟨o,ho,hex,hd⟩:=R.ob
  rw[setSearchFrom_succ];refine wpAny_bind (wpAny_setState_of ho hd R.fits ?_)
  dsimp only
  refine wp_if_neg R.sound ?_
  try refine wpAny_bind (wpAny_pure ?_)
  have jAt:∀d,(nth t.mask (wH t.mask h c) d).j=way t.mask h (c+d):=λd=>congrArg SetTable.Probe.j (Zy t.mask h c d);have hashOf:∀(i:Nat) (p:Ent),L[i]?=some p->(es[i]?.map (·.1)).getD 0=hf p.2:=λi p g=>by
   rw[Rb R.en g];rfl
  have spec:=go_spec t R.tab.ris R.tab.dm (λi=>(es[i]?.map (·.1)).getD 0) h (10*SetTable.turns t.mask) (N-c) (wH t.mask h c) (acU _ _ _) #[] (λd hdn=>by rw[jAt];exact inn (c+d) #[]) (by rw[jAt,awH hc];exact out);rcases spec with⟨d,i,hdn,hi,hhi,hno,hpr⟩|⟨hno,hpr⟩
  .have hpr':t.probe (λi=>(es[i]?.map (·.1)).getD 0) h (st.getD (t.probeStart h))=some (.candidate (way t.mask h (c+d)) i (wH t.mask h (c+(d+1)))):=by
    rw[hst,<-jAt,<-Zy];exact hpr
   rw[hpr']
   dsimp only
   rw[jAt]at hi;have hil:i<L.length:=by have k1:=(avH.mp hi).1;have k2:=R.tab.sz;rw[avN]at k2;rw[awd]at k1;omega
   obtain⟨p,hp⟩:∃p,L[i]?=some p:=⟨_,avE hil⟩;have pm:=avK hp;have go:wpAny (model P w) A (searchRest a (.ref x) h true f es t (way t.mask h (c+d)) i (wH t.mask h (c+(d+1)))) Q E s:=by
    unfold searchRest;rw[Rb R.en hp]
    dsimp only
    refine wpAny_bind (wpAny_holding ((pK P w).eqBool hu (R.ky p pm) hx ?_));refine wpAny_bind (wpAny_setState_of ho hd R.fits ?_)
    dsimp only
    by_cases same:p.2=r
    .exact wp_if_pos (by simp[same]) (wpAny_pure (yes (avM.mpr ⟨p,pm,same⟩)))
    .refine wp_if_neg (by simp[same]) ?_
     try refine wpAny_bind (wpAny_pure ?_)
     rw[sameMem]
     dsimp only
     have live:t.slot (way t.mask h (c+d))=.live i:=slot_live R.tab.ris hi;simp![if_true,live,Rb R.en hp];refine wpAny_bind (wpAny_isSame_ref_self (wpAny_bind (wpAny_pure ?_)));simp![if_true];refine wp_if_neg (by simp[same]) ?_;refine ih (c+(d+1)) _ rfl #[] #[] λi0 p0 g0 e0=>?_;let⟨d0,a1,a2,a3⟩:=left i0 p0 g0 e0
     refine⟨d0,?_,a2,a3⟩;by_cases c1:d0<c+d
     .exact absurd ((hashOf i0 p0 g0).trans ((congrArg hf e0).trans hh)) (hno (d0-c) i0 #[] (by rw[jAt,awH a1];exact a3))
     .by_cases c2:d0=c+d
      .rw[c2]at a3;have live0:=slot_live R.tab.ris a3;rw[live]at live0;injection live0 with ei;rw[<-ei,hp]at g0;exact absurd ((congrArg Prod.snd (av0 g0)).trans e0) same
      .omega
   by_cases hl:t.led=true
   .refine wp_if_neg (by simp[hl]) ?_
    try refine wpAny_bind (wpAny_pure ?_)
    exact go
   .refine wp_if_pos (by simp[hl]) ?_;refine wpAny_bind (an3 hx (λy hy=>?_) ?_)
    .let⟨e,he,ee⟩:=avM.mp hy
     have h1:e∈es/\e.1=h:=by simpa using he
     have h2:e∈es.toList:=by simpa using h1.1
     rw[R.en]at h2;let⟨p2,hp2,e2⟩:=avM.mp h2
     exact⟨p2.2,p2.1,by rw[<-ee,<-e2],R.ky p2 hp2⟩
    .refine wp_if_neg #[()] ?_
     try refine wpAny_bind (wpAny_pure ?_)
     exact go
  .have hpr':t.probe (λi=>(es[i]?.map (·.1)).getD 0) h (st.getD (t.probeStart h))=some (.empty (way t.mask h N) none):=by
    have e2:way t.mask h N=(nth t.mask (wH t.mask h c) (N-c)).j:=by rw[jAt,awH hc]
    rw[hst,e2];exact hpr
   rw[hpr']
   dsimp only
   refine wpAny_pure (no λhm=>?_);let⟨p0,m0,e0⟩:=avM.mp hm
   let⟨i0,hi0,e1⟩:=List.getElem_of_mem m0
   have g0:L[i0]?=some p0:=by rw[avE hi0,e1]
   let⟨d0,a1,a2,a3⟩:=left i0 p0 g0 e0
   exact hno (d0-c) i0 #[] (by rw[jAt,awH a1];exact a3) ((hashOf i0 p0 g0).trans ((congrArg hf e0).trans hh))
def look(R:uw hf w s.heap a L es ep t){x:Addr}{r:Rw}(hx:RI s.heap r x)(hu:(pK P w).room A){Q:SetFound->Shared->Prop}(yes:r∈L.map Prod.snd->Q (.there none) s)
  (no:∀N,r∉L.map Prod.snd->way t.mask (hf r) N∉t.place.toList->(∀c,c<N->way t.mask (hf r) c∈t.place.toList)->Q (.free (way t.mask (hf r) N) false) s):wpAny (model P w) A (setSearch a (.ref x) (hf r) true) Q E s:=by
 have hfree:=R.free;let⟨N,hN,out,inn⟩:=R.tab.first (by rw[avN];omega) (hf r)
 have small:N<100000:=by
  have:10*SetTable.turns t.mask<=1420:=by unfold SetTable.turns;rcases R.tab.mok with e|e|e<;>omega
  omega
 unfold setSearch;refine seek R hx rfl hu hN out inn yes (λhn=>no N hn out inn) 100000 0 none rfl (awg _) #[] λi p g e=>?_;have hi:(L.map λp=>hf p.2)[i]?=some (hf r):=by rw[avQ,g,<-e];rfl
 have hil:i<t.place.toList.length:=by have k1:=(avH.mp g).1;have k2:=R.tab.sz;rw[avN]at k2;rw[awd];omega
 let⟨c,hc,ec⟩:=R.tab.before out hi (avE hil)
 exact⟨c,awg _,hc,by rw[avE hil,ec]⟩
end
section
variable{P:Program}{w:World}{A:Around}{E:Value->Shared->Prop}{s:Shared}{hf:Rw->Int}{a:Addr}{L:List Ent}{es:Array (Int×Value)}{ep:Nat}{t:SetTable}
def aiY(L:List Ent)(n:Nat)(x:Addr)(r:Rw):ents hf (L.take n++(x,r)::L.drop n)=(ents hf L).take n++(hf r,Value.ref x)::(ents hf L).drop n:=by unfold ents;rw[List.map_append,List.map_cons,List.map_take,List.map_drop]
def range_all(L:List Ent):(List.range L.length).filterMap (λi=>L[i]?)=L:=by
 have part:∀n,n<=L.length->(List.range n).filterMap (λi=>L[i]?)=L.take n:=by
  intro n
  induction n with
  |zero=>exact λ_=>rfl
  |succ n ih=>
   intro hn;rw[List.range_succ,List.filterMap_append,ih #[],List.take_add_one,avE (show n<L.length by omega)];congr 1;rw[List.filterMap_cons_some (avE (show n<L.length by omega))];rfl
 rw[part _ (avW _),List.take_length]
def agq(h:es.toList=ents hf L){order:Array Nat}(hp:order.toList.Perm (List.range L.length)) :
  ∃M:List Ent,(order.filterMap (es[·]?)).toList=ents hf M/\M.Perm L/\(M.map λp=>hf p.2)=order.toList.map λi=>(es.map (·.1)).getD i 0:=by
 have inside:∀i∈order.toList,i<L.length:=λi hi=>List.mem_range.mp (hp.mem_iff.mp hi);refine⟨order.toList.filterMap (λi=>L[i]?),?_,?_,?_⟩
 .have e1:(order.filterMap (es[·]?)).toList=order.toList.filterMap (λi=>es[i]?):=by
   first | rw[Array.toList_filterMap] | simp
  rw[e1];unfold ents;rw[List.map_filterMap];congr 1;funext i;rw[<-awj,h];unfold ents;rw[avQ]
 .have:=hp.filterMap (λi=>L[i]?);rw[range_all]at this;exact this
 .generalize order.toList=l at inside
  induction l with
  |nil=>rfl
  |cons i l ih=>
   have hi:=inside i avI;have e5:(es.map (·.1))[i]?=some (hf (L[i]).2):=by rw[Array.getElem?_map,Rb h (avE hi)];rfl
   rw[List.filterMap_cons_some (avE hi),List.map_cons,List.map_cons,ih λj hj=>inside j (avG _ hj),Array.getD_eq_getD_getElem?,e5];rfl
def aps{o:Obj}(ho:s.heap.get? a=some o)(hex:o.ExactSet)(hd:o.data=.set es ep t)(he:es.toList=ents hf L)(hsz:t.place.size=es.size)(hdm:t.dummies=(List.toArray []))(hfl:es.size<=t.mask)(nd:(L.map Prod.snd).Nodup)(ky:∀p∈L,RI s.heap p.2 p.1)(pl:t.plain=true)
  (ld:w.params.followText "set-order"=true\/t.led=true) (few:L.length<=76) {wanted M:Nat} (hw:SetTable.sizeAbove wanted-1=M) (hM:MaskOk M) (hw2:SetTable.sizeAbove wanted<=128) (hn:L.length*5<M*3) {Q:Unit->Shared->Prop}
  (q:∀h' K es' ep' t',Heap.SameBut a s.heap h'->uw hf w h' a K es' ep' t'->K.Perm L->Q () { s with heap:=h' }):wpAny (model P w) A (setRelay a wanted) Q E s:=by
 have len:=Bc he;let⟨t',order,e,hp,T,em,el,epl,ed⟩:=relaid_ok t (hs:=es.map (·.1)) (wanted:=wanted) hw hM (by rw[Array.size_map,len];omega)
 rw[Array.size_map,len]at hp;let⟨K,k1,k2,k3⟩:=agq he hp
 rw[<-k3]at T;have ks:(order.filterMap (es[·]?)).size=es.size:=by rw[Bc k1,k2.length_eq,len]
 rw[setRelay_eq];refine wpAny_bind (wpAny_setState_of ho hd (fits_of hsz hdm hfl) ?_)
 dsimp only
 refine wp_if_neg (by rw[sizeLine_eq];omega) ?_
 try refine wpAny_bind (wpAny_pure ?_)
 rw[e]
 dsimp only
 refine wpAny_bind ?_;refine wp_if_neg (by rw[ks];simp) ?_
 try refine wpAny_bind (wpAny_pure ?_)
 refine wpAny_pure ?_
 dsimp only
 refine wpAny_storeSet_of ho hd ?_ (by rw[ks,len,sizeLine_eq];omega);have sb:Heap.SameBut a s.heap (s.heap.update a (Obj.putSet (order.filterMap (es[·]?)) t')):=Heap.SameBut.update ..;refine q _ K (order.filterMap (es[·]?)) (ep+1) t' sb ⟨⟨_,store_at ho hd,⟨hex.1,hex.2.1,hex.2.2⟩,rfl⟩,k1,T,(k2.map Prod.snd).nodup_iff.mpr nd,λp hp=>aa9 (ky p (k2.mem_iff.mp hp)) ho hd sb,by rw[epl];exact pl,by rw[el];exact ld,?_,by rw[k2.length_eq];exact few⟩ k2;rw[k2.length_eq,em];exact hn
def amu(R:uw hf w s.heap a L es ep t){x:Addr}{r:Rw}(hx:RI s.heap r x)(hu:(pK P w).room A)(hfew:r∉L.map Prod.snd->L.length+1<=76){Q:Bool->Shared->Prop}
  (q:∀b h' K es' ep' t',Heap.SameBut a s.heap h'->uw hf w h' a K es' ep' t'->(r∈L.map Prod.snd->K=L)->(r∉L.map Prod.snd->K.Perm ((x,r)::L))->Q b { s with heap:=h' }):wpAny (model P w) A (setAddHashed a (.ref x) (hf r)) Q E s:=by
 let⟨o,ho,hex,hd⟩:=R.ob
 have len:=Bc R.en;have hfree:=R.free;unfold setAddHashed;refine wpAny_holding ?_;rw[show(100000:Nat)=99999+1 from rfl,setAddHashedIn_succ];refine wpAny_bind (wpAny_setState_of ho hd R.fits ?_)
 dsimp only
 refine wp_if_neg (by simp[byScan,Value.scannable]) ?_
 try refine wpAny_bind (wpAny_pure ?_)
 refine wpAny_bind (look R hx hu (λhm=>?_) λN hm out inn=>?_)
 .dsimp only
  exact wpAny_pure (q false s.heap L es ep t (Heap.SameBut.refl a s.heap) R (λ_=>rfl) λz=>absurd hm z)
 have few1:=hfew hm
 dsimp only
 refine wpAny_bind (wpAny_setState_of ho hd R.fits ?_)
 dsimp only
 let⟨q1,q2,q3,q4,q5,q6,q7,q8,q9⟩:=R.tab.put out inn
 have pl1:(t.put (way t.mask (hf r) N)).1.plain=true:=by rw[q6];exact R.pl
 generalize hpt:t.put (way t.mask (hf r) N)=pt at q1 q3 q4 q5 q6 q7 q8 q9 pl1 |-
 let⟨t1,n⟩:=pt
 dsimp only at q1 q3 q4 q5 q6 q7 q8 q9 pl1 |-
 subst q1
 first
  |(refine wpAny_bind ?_;refine wp_if_pos pl1 ?_;refine(Ls hx).2 ?_)
  |refine wp_if_pos pl1 (wpAny_bind ((Ls hx).2 ?_))
 simp![if_true];have ein:(SetTable.insertAt es (SetTable.below t.place (way t.mask (hf r) N)) (hf r,Value.ref x)).toList=ents hf (L.take (SetTable.below t.place (way t.mask (hf r) N))++(x,r)::L.drop (SetTable.below t.place (way t.mask (hf r) N))):=by rw[SetTable.toList_insertAt,aiY,R.en]
 generalize hnn:SetTable.below t.place (way t.mask (hf r) N)=n at q2 q3 ein |-
 have pm:=put_perm L n (x,r);have hs1:(L.take n++(x,r)::L.drop n).map (λp=>hf p.2)=(L.map λp=>hf p.2).take n++hf r::(L.map λp=>hf p.2).drop n:=by rw[List.map_append,List.map_cons,List.map_take,List.map_drop]
 rw[<-hs1]at q3;have nd1:((L.take n++(x,r)::L.drop n).map Prod.snd).Nodup:=by refine(pm.map Prod.snd).nodup_iff.mpr ?_;rw[List.map_cons];exact awK.mpr ⟨hm,R.nd⟩
 have len1:(SetTable.insertAt es n (hf r,Value.ref x)).size=L.length+1:=by rw[Bc ein,pm.length_eq];rfl
 generalize SetTable.insertAt es n (hf r,Value.ref x)=es1 at ein len1 |-
 have lenM:(L.take n++(x,r)::L.drop n).length=L.length+1:=pm.length_eq;generalize L.take n++(x,r)::L.drop n=M at pm q3 nd1 ein lenM;refine wpAny_bind (wpAny_storeSet_of ho hd ?_ (by rw[len1,sizeLine_eq];omega));have sb:Heap.SameBut a s.heap (s.heap.update a (Obj.putSet es1 t1)):=Heap.SameBut.update ..;have ho1:=store_at (es':=es1) (t':=t1) ho hd;generalize s.heap.update a (Obj.putSet es1 t1)=h1 at sb ho1 |-
 have ky1:∀p∈M,RI h1 p.2 p.1:=λp hp=>by
  rcases avP.mp (pm.mem_iff.mp hp) with e|m
  .rw[e];exact aa9 hx ho hd sb
  .exact aa9 (R.ky p m) ho hd sb
 have ld1:w.params.followText "set-order"=true\/t1.led=true:=by rw[q5];exact R.ld
 have full:t1.tooFull=true↔(L.length+1)*5 ≥ t1.mask*3:=by unfold SetTable.tooFull;rw[awO,q9,avN]
 by_cases hfu:t1.tooFull=true
 .first
   |(refine wpAny_bind ?_;refine wp_if_pos (by simp[hfu]) ?_)
   |(refine wp_if_pos (by simp[hfu]) ?_;refine wpAny_bind ?_)
  have over:=full.mp hfu;rw[len];have psz:t1.place.size=es1.size:=by have:=q3.sz;rw[avN,lenM]at this;rw[this,len1]
  have which:(t.mask=7/\L.length=4)\/(t.mask=31/\L.length=18):=by
   rcases R.tab.mok with e|e|e
   .rw[q4,e]at over;rw[e]at hfree;exact Or.inl ⟨e,#[]⟩
   .rw[q4,e]at over;rw[e]at hfree;exact Or.inr ⟨e,#[]⟩
   .rw[q4,e]at over;omega
  have go:∀m,SetTable.sizeAbove (SetTable.grown (L.length+1))-1=m->MaskOk m->SetTable.sizeAbove (SetTable.grown (L.length+1))<=128->(L.length+1)*5<m*3->
    wpAny (model P w) A (setRelay a (SetTable.grown (L.length+1))) (λ_ u=>wpAny (model P w) A (pure true) Q E u) E { s with heap:=h1 }:=λm g1 g2 g3 g4=>
   aps (s:={ s with heap:=h1 }) ho1 ⟨hex.1,hex.2.1,hex.2.2⟩ rfl ein psz q3.dm (by rw[len1,q4];rcases which with⟨e,e2⟩|⟨e,e2⟩<;>omega) nd1 ky1 pl1 ld1 (by rw[lenM];exact few1) g1 g2 g3 (by rw[lenM];exact g4)
    λh2 K es2 ep2 t2 sb2 R2 pm2=>wpAny_pure (q true h2 K es2 ep2 t2 (sb.trans sb2) R2 (λz=>absurd z hm) λ_=>pm2.trans pm)
  rcases which with⟨_,e2⟩|⟨_,e2⟩
  .exact go 31 (by rw[e2,size_20]) (.inr (.inl rfl)) (by rw[e2,size_20];decide) #[]
  .exact go 127 (by rw[e2,size_76]) (.inr (.inr rfl)) (by rw[e2,size_76];decide) #[]
 .first
   |refine wp_if_neg (by simp[hfu]) ?_
   |(refine wpAny_bind ?_;refine wp_if_neg (by simp[hfu]) ?_;refine wpAny_pure ?_)
  have under:¬(L.length+1)*5 ≥ t1.mask*3:=λz=>hfu (full.mpr z);exact wpAny_pure (q true h1 M es1 (ep+1) t1 sb ⟨⟨_,ho1,⟨hex.1,hex.2.1,hex.2.2⟩,rfl⟩,ein,q3,nd1,ky1,pl1,ld1,by rw[lenM];omega,by rw[lenM];exact few1⟩ (λz=>absurd z hm) λ_=>pm)
end
theorem Ge{α:Type}[DecidableEq α]:∀(l D:List α),l.Nodup->(∀x∈l,x∈D)->l.length<=D.length
 |[],_,_,_=>awg _
 |x::l,D,hn,hs=>by
  let⟨h1,h2⟩:=awK.mp hn
  have mx:=hs x avI;have ih:=Ge l (D.erase x) h2 λy hy=>(List.mem_erase_of_ne (λe=>h1 (by rw[<-e];exact hy))).2 (hs y (avG _ hy));have e:=List.length_erase_of_mem mx;have hp:=List.length_pos_of_mem mx;rw[avO];omega
structure Has(ks:List Ent)(i:Nat)(L:List Ent):Prop where
 sub:∀p∈L,p∈ks.take i
 all:∀p∈ks.take i,p.2∈L.map Prod.snd
def Hz{α:Type}{l:List α}{i:Nat}{x:α}(h:l[i]?=some x):l.take (i+1)=l.take i++[x]:=by rw[List.take_add_one,h];rfl
def Has.next{ks L K:List Ent}{i:Nat}{x:Ent}(g:Has ks i L)(h:ks[i]?=some x)(h1:x.2∈L.map Prod.snd->K=L)(h2:x.2∉L.map Prod.snd->K.Perm (x::L)):Has ks (i+1) K:=by
 by_cases c:x.2∈L.map Prod.snd
 .rw[h1 c];refine⟨λp hp=>?_,λp hp=>?_⟩
  .rw[Hz h];exact awk _ (g.sub p hp)
  .rw[Hz h]at hp;rcases avR.mp hp with m|m
   .exact g.all p m
   .rw[avJ.mp m];exact c
 .have pm:=h2 c;refine⟨λp hp=>?_,λp hp=>?_⟩
  .rw[Hz h];rcases avP.mp (pm.mem_iff.mp hp) with e|m
   .exact awy _ (avJ.mpr e)
   .exact awk _ (g.sub p m)
  .rw[(pm.map Prod.snd).mem_iff,List.map_cons];rw[Hz h]at hp;rcases avR.mp hp with m|m
   .exact avG _ (g.all p m)
   .rw[avJ.mp m];exact avI
def Ce(w:World):Obj:={ cls:=.type "set",dict:=none,data:=.set (List.toArray []) 0 (.fresh 0 0 (!w.params.followText "set-order")) }
section
variable{P:Program}{w:World}{A:Around}{E:Value->Shared->Prop}{s:Shared}{hf:Rw->Int}
def uw.stay{h h':Heap}{a:Addr}{L:List Ent}{es:Array (Int×Value)}{ep:Nat}{t:SetTable}(R:uw hf w h a L es ep t)(ha:∀o,h.get? a=some o->h'.get? a=some o)(hk:∀p∈L,RI h' p.2 p.1):uw hf w h' a L es ep t:=by
 let⟨o,ho,r⟩:=R.ob
 exact⟨⟨o,ha o ho,r⟩,R.en,R.tab,R.nd,hk,R.pl,R.ld,R.free,R.few⟩
def ajp{h:Heap}{a:Addr}(ho:h.get? a=some (Ce w)):uw hf w h a [] (List.toArray []) 0 (.fresh 0 0 (!w.params.followText "set-order")):=by
 refine⟨⟨_,ho,⟨rfl,rfl,rfl⟩,rfl⟩,rfl,⟨List.Pairwise.nil,rfl,rfl,.inl rfl,λx hx=>(by cases hx),λi h j hi=>(by simp at hi)⟩,List.nodup_nil,λp hp=>(by cases hp),rfl,?_,(show 0*5<7*3 by decide),awg _⟩;show _\/(!w.params.followText "set-order")=true
 cases w.params.followText "set-order"
 .exact .inr rfl
 .exact .inl rfl
def aku(hhf:∀r,(pK P w).hash r=hf r){I:Addr}{fp wr:List Addr}{G:Array GenState->Array GenState->Prop}{n:Nat}{Pv:Nat->Value->Prop}{St:Nat->Shared->Prop}{R:Result->Shared->Prop}(W:WalksS P w A.in1 I fp wr G n Pv St)(S:Addr)(hSf:S∉fp)(ks:List Ent)(hn:n=ks.length)
  (D:List Rw) (hD:D.length<=76) (hkD:∀p∈ks,p.2∈D) (hval:∀i v,Pv i v->∃p,ks[i]?=some p/\v=.ref p.1) (h0:Heap) (hk:∀p∈ks,RI h0 p.2 p.1) (hS0:h0.get? S=none) (hw0:∀b∈wr,h0.get? b=none) (hu:(pK P w).room A.in1) :
  ∀(m i:Nat) (s:Shared),n-i=m->i<=n->St i s->(∀b o,h0.get? b=some o->s.heap.get? b=some o)->(∃L es ep t,uw hf w s.heap S L es ep t/\Has ks i L)->
   (∀u L es ep t,Moved (S::wr) G s u->uw hf w u.heap S L es ep t->Has ks n L->(∀b o,h0.get? b=some o->u.heap.get? b=some o)->R (.ok (.ret .none)) u)->
   codeAny (model P w) A (.builtin "set.update.loop" ⟨[.ref S,.ref I],[]⟩) R s:=by
 have Sw:S∉wr:=λh=>hSf (W.sub _ h);have wS:∀b∈wr,b∈S::wr:=λb hb=>avG _ hb;have old:∀{s u:Shared},Moved wr G s u->(∀b o,h0.get? b=some o->s.heap.get? b=some o)->∀b o,h0.get? b=some o->u.heap.get? b=some o:=λhm hkp b o e=>hm.heap b o (λhb=>by rw[hw0 b hb]at e;cases e) (hkp b o e);intro m
 induction m with
 |zero=>
  intro i s hm0 hi hst hkp ⟨L,es,ep,t,hS,g⟩ hR
  obtain rfl:i=n:=#[]
  refine codeAny_builtin PyProof.Rows.F.entry_set_update_loop ?_;rw[Around.under_plainId PyProof.Rows.F.plain_set_update_loop _];refine wpAny_bind (W.done s _ _ hst λu hm=>?_);have kept:=old hm hkp;exact wpAny_pure (hR u L es ep t (hm.mono wS) (hS.stay (λo e=>hm.heap S o Sw e) λp hp=>WY (hk p (awB (g.sub p hp))) kept) g kept)
 |succ m ih=>
  intro i s hm0 hi hst hkp ⟨L,es,ep,t,hS,g⟩ hR;have hlt:i<n:=#[];refine codeAny_builtin PyProof.Rows.F.entry_set_update_loop ?_;rw[Around.under_plainId PyProof.Rows.F.plain_set_update_loop _];refine wpAny_bind (W.item i s _ _ hlt hst λv u hP hst' hm=>?_);let⟨p,hp,rfl⟩:=hval i v hP
  have kept:=old hm hkp;have hS':uw hf w u.heap S L es ep t:=hS.stay (λo e=>hm.heap S o Sw e) λq hq=>WY (hk q (awB (g.sub q hq))) kept;have hx:RI u.heap p.2 p.1:=WY (hk p (avK hp)) kept;refine wpAny_bind (wpAny_holding ?_);unfold setAdd;refine wpAny_holding ?_;refine wpAny_bind ((pK P w).pyHash hu hx ?_);rw[hhf];have inD:∀y∈L.map Prod.snd,y∈D:=λy hy=>by
   let⟨q,hq,e⟩:=avM.mp hy
   rw[<-e];exact hkD q (awB (g.sub q hq))
  refine amu (s:={ u with toks:=u.toks+(pK P w).draws p.2 }) hS' hx hu (λhnew=>?_) λb h' K es' ep' t' sb hS2 c1 c2=>?_
  .have:=Ge (p.2::L.map Prod.snd) D (awK.mpr ⟨hnew,hS.nd⟩) λy hy=>by
    rcases avP.mp hy with e|hy
    .rw[e];exact hkD p (avK hp)
    .exact inD y hy
   rw[avO,avN]at this;omega
  have kept2:∀b o,h0.get? b=some o->h'.get? b=some o:=λb o e=>(sb.2 b (λz=>by rw[z,hS0]at e;cases e)).trans (kept b o e);refine wpAny_pure ⟨plainId_quiet PyProof.Rows.F.plain_set_update_loop _,ih (i+1) _ #[] hlt (W.frame _ u _ _ hst' (Nat.le_add_right _ _) λb hb o e=>?_) kept2 ⟨K,es',ep',t',hS2,g.next hp c1 c2⟩ λv L2 es2 ep2 t2 hm2 hS3 g3 k3=>?_⟩
  .rw[sb.2 b (λh:b=S=>hSf (by rw[<-h];exact hb))];exact e
  .refine hR v L2 es2 ep2 t2 (Moved.trans W.gtrans ((hm.mono wS).then_heap (Nat.le_add_right _ _) λb o hb e=>?_) hm2) hS3 g3 k3;rw[sb.2 b (λh:b=S=>hb (by rw[h];exact avI))];exact e
set_option maxHeartbeats 4000000 in
theorem acQ(hhf:∀r,(pK P w).hash r=hf r){l:Addr}{items:Array Value}(ks:List Ent)(D:List Rw)(hD:D.length<=76)(hkD:∀p∈ks,p.2∈D){Q:Value->Shared->Prop}(hh:A.handled=none)(hl:s.heap.IsList l items)(hit:items.toList=ks.map λp=>Value.ref p.1)
  (hk:∀p∈ks,RI s.heap p.2 p.1) (hu:A.units+3+8<cLine)
  (h:∀(h':Heap) (tk:Nat) L es ep t,uw hf w h' s.heap.objs.size L es ep t->Has ks ks.length L->(∀b o,s.heap.get? b=some o->h'.get? b=some o)->Q (.ref s.heap.objs.size) { s with heap:=h',toks:=tk }) :
  wpAny (model P w) A (call (.type "set") [.ref l]) Q E s:=by
 have isz:items.size=ks.length:=by rw[<-awd,hit,avN]
 let⟨cc,tl,hmro⟩:=PySem.F.called_set.mro
 have hmade:=PySem.F.called_set.made;have hsub:=PySem.F.called_set.sub;refine wpAny_call (codeAny_of_tree ?_);show wpAny _ _ (callAny (.type "set") _) _ _ _
 refine wpAny_pure ⟨Code.quiet_builtin _ #[[]],codeAny_builtin PySem.F.entry_type_call ?_⟩;rw[Around.under_plain (weight_type_call_type "set" [.ref l] []) rfl]
 have nt:=PySem.F.called_set.notType;have cr:=PySem.F.called_set.canCreate;have hct:=PySem.F.typeCall_set_1 (.ref l)
 (repeat (any_goals first | assumption | wp_step))
 refine codeAny_mono (code_set_led1 (.ref l) (E:=E) (Q₁:=λv u=>v=.ref s.heap.objs.size/\u={ s with heap:=s.heap.push (Ce w) }) ⟨rfl,rfl⟩) λr u hr=>?_;cases r with
 |error e=>exact hr
 |ok fl=>
  cases fl with
  |ret v=>
   let⟨rfl,rfl⟩:=hr
   have hS:(s.heap.push (Ce w)).get? s.heap.objs.size=some (Ce w):=Heap.get?_push_size _ rfl;have hT:Shared.TypeIs { s with heap:=s.heap.push (Ce w) } (.ref s.heap.objs.size) "set":=⟨_,hS,rfl⟩
   have hli:=PySem.F.called_set.init.lookup;have hbi:=PySem.F.called_set.init.bind (.ref s.heap.objs.size)
   (repeat (any_goals first | assumption | wp_step))
   refine codeAny_mono (codeAny_call_builtin (R:=wants (λr u=>r=.none/\∃h' tk L es ep t,u={ s with heap:=h',toks:=tk }/\uw hf w h' s.heap.objs.size L es ep t/\Has ks ks.length L/\∀b o,s.heap.get? b=some o->h'.get? b=some o) E) PySem.F.called_set.init.plain PySem.F.entry_set_init (check_set_init_1 hT ?_)) λr₂ u₂ hr₂=>?_
   .let⟨ol,hol,hcl,nl,hdl⟩:=hl
    let⟨ocls,odict,odata,oslots⟩:=ol
    simp only at hcl hdl;subst hcl;subst hdl;have hol':(s.heap.push (Ce w)).get? l=some { cls:=.type "list",dict:=odict,data:=.seq items nl,slots:=oslots }:=Heap.get?_push_of_some _ hol
    have sl1:=PySem.F.sub_list_set;have sl2:=PySem.F.sub_list_frozenset;have nd:(Value.type "list"==Value.type "dict")=false:=#[()]
    have hl1:(s.heap.push (Ce w)).IsList l items:=⟨_,hol',rfl,nl,rfl⟩;unfold Builtin.«set.__init__» noKeywords Builtin.Frozenset.updateFrom;generalize hPI:pyIter=PI
    wp_walk
    subst hPI;refine wpAny_pyIter_list hl1 ?_;refine wpAny_bind (wpAny_runValue ?_);have lS:l<s.heap.objs.size:=Heap.lt_size hol;have h3:A.in1.in1.in1.handled=none:=by simp[hh]
    have sz1:(s.heap.push (Ce w)).objs.size=s.heap.objs.size+1:=Heap.size_push ..;have lI:l≠(s.heap.push (Ce w)).objs.size:=by rw[sz1];exact awb (awA lS)
    have Sf:s.heap.objs.size∉[(s.heap.push (Ce w)).objs.size,l]:=by rw[sz1];simp![avP,av8,or_false,not_or];exact⟨awb (Nat.lt_succ_self _),Nat.ne_of_gt lS⟩
    have hval:∀(i:Nat) (v:Value),items[i]?=some v->∃p,ks[i]?=some p/\v=.ref p.1:=λi v hv=>by
     rw[<-awj,hit,avQ]at hv;let⟨p,g1,g2⟩:=awm.mp hv
     exact⟨p,g1,g2.symm⟩
    have fresh:∀b,s.heap.objs.size<=b->s.heap.get? b=none:=λb hb=>by
     cases q:s.heap.get? b with
     |none=>rfl
     |some o=>exact absurd (Heap.lt_size q) (Nat.not_lt_of_le hb)
    refine aku hhf ((Walks.list h3 _ l lI items).toS) s.heap.objs.size Sf ks isz D hD hkD hval s.heap hk (fresh _ (avW _)) (λb hb=>fresh b (by rw[avJ.mp hb,sz1];exact Nat.le_succ _)) hu (items.size-0) 0 _ #[] (awg _)
     ⟨⟨_,Heap.get?_push_size _ rfl,rfl,rfl⟩,(hl1.push _)⟩ (λb o e=>Heap.get?_push_of_some _ (Heap.get?_push_of_some _ e)) ⟨[],(List.toArray []),0,_,ajp (Heap.get?_push_of_some _ hS),⟨λp hp=>(by cases hp),λp hp=>(by simp at hp)⟩⟩ λu L es ep t hm hS' g' kp=>?_
    let⟨h',g2,d',tk',os'⟩:=u
    have eg:g2=s.gens:=hm.gens;have ed:d'=s.drawn:=hm.drawn;have eo:os'=s.os:=hm.os;subst eg;subst ed;subst eo;refine wpAny_pure ?_;rw[isz]at g';exact wpAny_pure ⟨rfl,h',tk',L,es,ep,t,rfl,hS',g',kp⟩
   .cases r₂ with
    |error e=>exact hr₂
    |ok fl₂=>
     cases fl₂ with
     |ret r=>
      let⟨rfl,h',tk,L,es,ep,t,rfl,hS',g',hk'⟩:=hr₂
      (repeat (any_goals first | assumption | wp_step))
      exact h _ _ _ _ _ _ hS' g' hk'
     |_=>exact hr₂.elim
  |_=>exact hr.elim
end
def afq(w:World)(h:Heap)(a:Addr)(L:List Ent):Prop:=∃(hf:Rw->Int) (es:Array (Int×Value)) (ep:Nat) (t:SetTable),(∃o,h.get? a=some o/\o.ExactSet/\o.data=.set es ep t)/\es.toList=ents hf L/\t.fits es.size=true/\Ris t.place.toList/\(w.params.followText "set-order"=true\/t.led=true)
def Rg(w:World)(a:Addr)(L:List Ent):HO:=.ext λh=>afq w h a L
section
variable{X:Cx}
theorem YG{P:Program}{w:World}{h:Heap}:∀(l:List Int) (us:List Value),Vals (l.map V.int) us->NestedAll h (l.map .num) us
 |[],_,.nil=>.nil
 |i::l,_,.cons r t=>by
  let⟨tk,rfl⟩:=r
  exact .cons (.int i tk) (YG (P:=P) (w:=w) l _ t)
theorem Yw:∀{ks:List Ent} {us:List Value},Vals (ks.map λp=>V.ref p.1) us->us=ks.map λp=>Value.ref p.1
 |[],_,.nil=>rfl
 |p::ks,_,.cons r t=>by
  cases r;rw[Yw t];rfl
theorem ZD{L:List Ent}:∀(out:List Value) (M:List Rw),PySem.W.EachIs (λv (r:Rw)=>∃p∈L,v=Value.ref p.1/\r=p.2) out M->∃ys:List V,Vals ys out/\fU (λv (r:Rw)=>∃p∈L,v=V.ref p.1/\r=p.2) ys M
 |[],[],.nil=>⟨[],.nil,fU.nil⟩
 |_::out,_::M,.cons ⟨p,hp,e1,e2⟩ k=>by
  let⟨ys,h1,h2⟩:=ZD out M k
  subst e1 e2;refine⟨.ref p.1::ys,.cons rfl h1,by rw[avO,avO,h2.1],λj u y g1 g2=>?_⟩;cases j with
  |zero=>
   cases g1;cases g2;exact⟨p,hp,rfl,rfl⟩
  |succ j=>exact h2.2 j u y g1 g2
end
def gF(da dc:Addr):LsS V:=putF ("circles" : Str) (.ref dc) (putF ("allowances" : Str) (.ref da) [])
structure ai3(C:Addr)(H:Hp)(p da dc:Addr)(al:List Int)(ci:List (List Int)):Prop where
 ob:∃dx,H p=some (.ins C dx (gF da dc))
 la:H da=some (.lst (al.map V.int))
 lc:∃us,H dc=some (.lst us)/\fU (Ml H) us ci
 ne:da≠dc
theorem ai3.mono{C:Addr}{H H':Hp}(e:Ex H H'){p da dc:Addr}{al:List Int}{ci:List (List Int)}(g:ai3 C H p da dc al ci):ai3 C H' p da dc al ci:=by
 let⟨⟨dx,ob⟩,la,⟨us,h1,h2⟩,ne⟩:=g
 exact⟨⟨dx,e _ _ ob⟩,e _ _ la,⟨us,e _ _ h1,h2.imp λ_ _ r=>r.mono e⟩,ne⟩
end Ear
namespace Rf
open PySem PySem.Spec PyProof.Rows L2 Evl
abbrev obj(h:Nat):Dat:=PyData.dict [(PyData.none,PyData.int (Int.ofNat h))]
inductive jD where
 |dat (d:Dat)|lst (n:Nat) (xs:List Dat)|dic (n:Bool) (kvs:List (Dat×Dat))
structure aK where
 f:Str->Option Addr
 fl:Str->List Str
 w:World
instance:CoeFun aK λ_=>Str->Option Addr:=⟨aK.f⟩
structure Inst where
 cls:Str
 fs:List (Str×jD)
abbrev Mo:=List Inst
inductive Cell where
 |dat (d:Dat)|mut (xs:List Dat)
abbrev Env:=List (Option Cell)
structure dX where
 cls:Str
 fs:List (Str×Dat)
inductive Out(α:Type) where
 |ok (a:α)|exc (x:dX)|bad
inductive aY(α:Type) where
 |ok (a:α) (M:Mo)|exc (x:dX) (M:Mo)|bad
inductive vK where
 |next (Z:Env) (M:Mo)|ret (d:Dat) (M:Mo)|brk (Z:Env) (M:Mo)|cont (Z:Env) (M:Mo)|exc (x:dX) (Z:Env) (M:Mo)|bad
structure Gh where
 tbl:List Addr
 ow:Addr->Option (Nat×Str)
 Lc:Addr->Prop
 Lo:Addr->Prop
def Gh.W(g:Gh)(a:Addr):Prop:=a∈g.tbl\/g.ow a≠none
def Gh.A(g:Gh)(a:Addr):Prop:=g.W a\/g.Lc a\/g.Lo a
def Jr:HO->Prop
 |.tup _=>False
 |.frz _ _=>False
 |_=>True
def arD(K:avC)(a:Addr)(xs:List V):Prop:=∃(o:Obj) (its:Array Value) (n:Nat),K.lookup a=some o/\o.cls=.type "list"/\o.dict=none/\o.data=.seq its n/\its.size<=sizeLine/\Vals xs its.toList
def K9(K:avC)(g:Gh)(H:Hp)(a:Addr)(xs:List V):Prop:=(Rd H a (.lst xs)/\¬g.A a)\/arD K a xs
def K9.sq{K:avC}{g:Gh}{H:Hp}{a:Addr}{xs:List V}(h:K9 K g H a xs):SqL K H a xs:=h.elim (λz=>.inl z.1) .inr
mutual
inductive Rep(K:avC)(g:Gh)(H:Hp):V->Dat->Prop
 |non:Rep K g H .non .none
 |bl (b:Bool):Rep K g H (.bl b) (.bool b)
 |int (i:Int):Rep K g H (.int i) (.int i)
 |str (x:Str):Rep K g H (.str x) (.str x)
 |tup {a:Addr} {xs:List V} {ds:List Dat}:SqT K H a xs->aA K g H xs ds->Rep K g H (.ref a) (.tuple ds)
 |lst {a:Addr} {xs:List V} {ds:List Dat}:K9 K g H a xs->aA K g H xs ds->Rep K g H (.ref a) (.list ds)
 |obj {a:Addr} {h:Nat}:g.tbl[h]?=some a->Rep K g H (.ref a) (obj h)
inductive aA(K:avC)(g:Gh)(H:Hp):List V->List Dat->Prop
 |nil:aA K g H [] []
 |cons {v:V} {vs:List V} {d:Dat} {ds:List Dat}:Rep K g H v d->aA K g H vs ds->aA K g H (v::vs) (d::ds)
end
structure Kd(g:Gh)(H:Hp):Prop where
 ob:∀a,g.A a->∃o,H a=some o/\Jr o
 lo:∀a,g.Lo a->¬g.W a
 lc:∀a,g.Lc a->¬g.W a/\¬g.Lo a
structure Gr(q:Bool)(g g':Gh)(H H':Hp):Prop where
 keep:∀a o,H a=some o->¬g.W a->¬g.Lo a->H' a=some o
 keepW:q=true->∀a o,H a=some o->g.W a->H' a=some o
 dom:∀a,H' a=none->H a=none
 tbl:∃more,g'.tbl=g.tbl++more
 W:∀a,g.W a->g'.W a
 nW:∀a,g'.W a->g.W a\/H a=none
 qg:q=true->g'.tbl=g.tbl/\g'.ow=g.ow
 Lc:g'.Lc=g.Lc
 Lo:∀a,g.Lo a->g'.Lo a
 nLo:∀a,g'.Lo a->g.Lo a\/H a=none
section
variable{K:avC}{q:Bool}{g g' g2:Gh}{H H' H2:Hp}{v:V}{d:Dat}
def Gr.refl:Gr q g g H H:=⟨λ_ _ h _ _=>h,λ_ _ _ h _=>h,λ_ h=>h,⟨[],by simp⟩,λ_ h=>h,λ_ h=>.inl h,λ_=>⟨rfl,rfl⟩,rfl,λ_ h=>h,λ_ h=>.inl h⟩
def GD(e:Ex H H'):∀a,H' a=none->H a=none:=λa h=>by
 cases h1:H a with
 |none=>rfl
 |some o=>
  rw[e a o h1]at h;cases h
def Gr.ex(e:Ex H H'):Gr q g g H H':=⟨λa o h _ _=>e a o h,λ_ a o h _=>e a o h,GD e,⟨[],by simp⟩,λ_ h=>h,λ_ h=>.inl h,λ_=>⟨rfl,rfl⟩,rfl,λ_ h=>h,λ_ h=>.inl h⟩
theorem Gr.trans(a:Gr q g g' H H')(b:Gr q g' g2 H' H2):Gr q g g2 H H2 where
 keep:=λx o h nw nl=>by
  have h1:=a.keep x o h nw nl;refine b.keep x o h1 (λz=>?_) (λz=>?_)
  .rcases a.nW x z with z|z
   .exact nw z
   .rw[h]at z;cases z
  .rcases a.nLo x z with z|z
   .exact nl z
   .rw[h]at z;cases z
 keepW:=λhq x o h w=>b.keepW hq x o (a.keepW hq x o h w) (a.W x w)
 dom:=λx h=>a.dom x (b.dom x h)
 tbl:=by
  let⟨m1,e1⟩:=a.tbl
  let⟨m2,e2⟩:=b.tbl
  exact⟨m1++m2,by rw[e2,e1,List.append_assoc]⟩
 W:=λx h=>b.W x (a.W x h)
 nW:=λx h=>by
  rcases b.nW x h with z|z
  .exact a.nW x z
  .exact .inr (a.dom x z)
 qg:=λhq=>by
  let⟨e1,e2⟩:=a.qg hq
  let⟨f1,f2⟩:=b.qg hq
  exact⟨f1.trans e1,f2.trans e2⟩
 Lc:=b.Lc.trans a.Lc
 Lo:=λx h=>b.Lo x (a.Lo x h)
 nLo:=λx h=>by
  rcases b.nLo x h with z|z
  .exact a.nLo x z
  .exact .inr (a.dom x z)
def Gr.loud(a:Gr q g g' H H'):Gr false g g' H H':=⟨a.keep,(λh=>nomatch h),a.dom,a.tbl,a.W,a.nW,(λh=>nomatch h),a.Lc,a.Lo,a.nLo⟩
def Gr.nA(r:Gr q g g' H H'){a:Addr}{o:HO}(h:H a=some o)(n:¬g.A a):¬g'.A a:=λz=>by
 rcases z with z|z|z
 .rcases r.nW a z with z|z
  .exact n (.inl z)
  .rw[h]at z;cases z
 .rw[r.Lc]at z;exact n (.inr (.inl z))
 .rcases r.nLo a z with z|z
  .exact n (.inr (.inr z))
  .rw[h]at z;cases z
def Gr.rd(r:Gr q g g' H H'){a:Addr}{o:HO}(h:Rd H a o)(n:¬g.A a):Rd H' a o/\¬g'.A a:=by
 rcases h with h|⟨z,h⟩
 .exact⟨.inl (r.keep a _ h (λw=>n (.inl w)) λw=>n (.inr (.inr w))),r.nA h n⟩
 .exact⟨.inr ⟨z,r.keep a _ h (λw=>n (.inl w)) λw=>n (.inr (.inr w))⟩,r.nA h n⟩
theorem Kd.tup(k:Kd g H){a:Addr}{xs:List V}(h:Rd H a (.tup xs)):¬g.A a:=λz=>by
 let⟨o,e,m⟩:=k.ob a z
 rcases h with h|⟨y,h⟩<;>(rw[h]at e;cases e;exact m)
def Gr.sqT(r:Gr q g g' H H')(k:Kd g H){a:Addr}{xs:List V}(h:SqT K H a xs):SqT K H' a xs:=by
 rcases h with h|h
 .exact .inl (r.rd h (k.tup h)).1
 .exact .inr h
def Gr.ls(r:Gr q g g' H H'){a:Addr}{xs:List V}(h:K9 K g H a xs):K9 K g' H' a xs:=by
 rcases h with⟨h,n⟩|h
 .exact .inl (r.rd h n)
 .exact .inr h
def Gr.tb(r:Gr q g g' H H'){h:Nat}{a:Addr}(e:g.tbl[h]?=some a):g'.tbl[h]?=some a:=by
 let⟨m,em⟩:=r.tbl
 rw[em,avS (avH.mp e).1];exact e
mutual
theorem Rep.gr(r:Gr q g g' H H')(k:Kd g H):∀{v:V} {d:Dat},Rep K g H v d->Rep K g' H' v d
 |_,_,.non=>.non
 |_,_,.bl b=>.bl b
 |_,_,.int i=>.int i
 |_,_,.str x=>.str x
 |_,_,.tup h t=>.tup (r.sqT k h) (aA.gr r k t)
 |_,_,.lst h t=>.lst (r.ls h) (aA.gr r k t)
 |_,_,.obj h=>.obj (r.tb h)
theorem aA.gr(r:Gr q g g' H H')(k:Kd g H):∀{vs:List V} {ds:List Dat},aA K g H vs ds->aA K g' H' vs ds
 |_,_,.nil=>.nil
 |_,_,.cons h t=>.cons (Rep.gr r k h) (aA.gr r k t)
end
mutual
theorem Rep.less(e:g'.tbl=g.tbl)(n:∀a,g'.A a->g.A a):∀{v:V} {d:Dat},Rep K g H v d->Rep K g' H v d
 |_,_,.non=>.non
 |_,_,.bl b=>.bl b
 |_,_,.int i=>.int i
 |_,_,.str x=>.str x
 |_,_,.tup h t=>.tup h (aA.less e n t)
 |_,_,.lst h t=>.lst (h.elim (λz=>.inl ⟨z.1,λy=>z.2 (n _ y)⟩) .inr) (aA.less e n t)
 |_,_,.obj h=>.obj (by rw[e];exact h)
theorem aA.less(e:g'.tbl=g.tbl)(n:∀a,g'.A a->g.A a):∀{vs:List V} {ds:List Dat},aA K g H vs ds->aA K g' H vs ds
 |_,_,.nil=>.nil
 |_,_,.cons h t=>.cons (Rep.less e n h) (aA.less e n t)
end
mutual
def lf:Dat->Bool
 |.list _=>false
 |.tuple ds=>lfs ds
 |.dict _=>true
 |.none=>true
 |.bool _=>true
 |.int _=>true
 |.str _=>true
def lfs:List Dat->Bool
 |[]=>true
 |d::ds=>lf d&&lfs ds
end
mutual
theorem Rep.free(e:g'.tbl=g.tbl):∀{v:V} {d:Dat},lf d=true->Rep K g H v d->Rep K g' H v d
 |_,_,_,.non=>.non
 |_,_,_,.bl b=>.bl b
 |_,_,_,.int i=>.int i
 |_,_,_,.str x=>.str x
 |_,_,f,.tup h t=>.tup h (aA.free e (by rw[lf]at f;exact f) t)
 |_,_,f,.lst h t=>by rw[lf]at f;cases f
 |_,_,_,.obj h=>.obj (by rw[e];exact h)
theorem aA.free(e:g'.tbl=g.tbl):∀{vs:List V} {ds:List Dat},lfs ds=true->aA K g H vs ds->aA K g' H vs ds
 |_,_,_,.nil=>.nil
 |_,_,f,.cons h t=>.cons (Rep.free e (by rw[lfs,avD]at f;exact f.1) h) (aA.free e (by rw[lfs,avD]at f;exact f.2) t)
end
theorem aA.length:∀{vs:List V} {ds:List Dat},aA K g H vs ds->vs.length=ds.length
 |_,_,.nil=>rfl
 |_,_,.cons _ t=>congrArg (· + 1) t.length
theorem aA.get:∀{vs:List V} {ds:List Dat} {i:Nat} {d:Dat},aA K g H vs ds->ds[i]?=some d->∃v,vs[i]?=some v/\Rep K g H v d
 |_,_,_,_,.nil,e=>by simp at e
 |_,_,0,_,.cons h _,e=>by simp at e;subst e;exact⟨_,rfl,h⟩
 |_,_,i+1,_,.cons _ t,e=>by simpa using t.get (i:=i) (by simpa using e)
theorem aA.get':∀{vs:List V} {ds:List Dat} {i:Nat} {v:V},aA K g H vs ds->vs[i]?=some v->∃d,ds[i]?=some d/\Rep K g H v d
 |_,_,_,_,.nil,e=>by simp at e
 |_,_,0,_,.cons h _,e=>by simp at e;subst e;exact⟨_,rfl,h⟩
 |_,_,i+1,_,.cons _ t,e=>by simpa using t.get' (i:=i) (by simpa using e)
theorem aA.append:∀{vs ws:List V} {ds es:List Dat},aA K g H vs ds->aA K g H ws es->aA K g H (vs++ws) (ds++es)
 |_,_,_,_,.nil,t=>t
 |_,_,_,_,.cons h r,t=>.cons h (r.append t)
theorem aA.take:∀{vs:List V} {ds:List Dat} (n:Nat),aA K g H vs ds->aA K g H (vs.take n) (ds.take n)
 |_,_,0,_=>.nil
 |_,_,_+1,.nil=>.nil
 |_,_,n+1,.cons h t=>.cons h (t.take n)
theorem aA.drop:∀{vs:List V} {ds:List Dat} (n:Nat),aA K g H vs ds->aA K g H (vs.drop n) (ds.drop n)
 |_,_,0,t=>t
 |_,_,_+1,.nil=>.nil
 |_,_,n+1,.cons _ t=>t.drop n
theorem aA.set{v:V}{d:Dat}(r:Rep K g H v d):∀{vs:List V} {ds:List Dat} (i:Nat),aA K g H vs ds->aA K g H (vs.set i v) (ds.set i d)
 |_,_,_,.nil=>.nil
 |_,_,0,.cons _ t=>.cons r t
 |_,_,i+1,.cons h t=>.cons h (t.set r i)
theorem Gr.upd{l:Addr}{o o':HO}(k:Kd g H)(h:H l=some o)(w:(g.W l/\q=false)\/g.Lo l):Gr q g g H (L2.upd H l o') where
 keep:=λa u e nw nl=>by
  rw[upd_ne (λz=>by subst z;exact w.elim (λw=>nw w.1) nl)];exact e
 keepW:=λhq a u e wa=>by
  rcases w with w|w
  .rw[hq]at w;cases w.2
  .rw[upd_ne (λz=>by subst z;exact k.lo _ w wa)];exact e
 dom:=λa e=>by
  by_cases z:a=l
  .subst z;rw[awU]at e;cases e
  .rw[upd_ne z]at e;exact e
 tbl:=⟨[],by simp⟩
 W:=λ_ h=>h
 nW:=λ_ h=>.inl h
 qg:=λ_=>⟨rfl,rfl⟩
 Lc:=rfl
 Lo:=λ_ h=>h
 nLo:=λ_ h=>.inl h
def Kd.ex(k:Kd g H)(e:Ex H H'):Kd g H':=⟨λa z=>let⟨o,h,m⟩:=k.ob a z;⟨o,e a o h,m⟩,k.lo,k.lc⟩
theorem Kd.upd(k:Kd g H){l:Addr}{o:HO}(m:Jr o):Kd g (L2.upd H l o):=⟨λa z=>by
 by_cases e:a=l
 .subst e;exact⟨o,awU,m⟩
 .rw[upd_ne e];exact k.ob a z,k.lo,k.lc⟩
theorem Rep.ex(e:Ex H H')(k:Kd g H)(h:Rep K g H v d):Rep K g H' v d:=h.gr (Gr.ex (q:=true) e) k
theorem aA.ex{vs:List V}{ds:List Dat}(e:Ex H H')(k:Kd g H)(h:aA K g H vs ds):aA K g H' vs ds:=h.gr (Gr.ex (q:=true) e) k
end
def keyD:Key->Dat
 |.inl i=>.int i
 |.inr x=>.str x
def fL(l:Addr)(o:Obj):HO:=.ext λh=>h.get? l=some o
abbrev fG:Type:=NestedKey×Addr×Value
def agG(w:World)(x:fG):DictEntry:=⟨x.1.hash w,.ref x.2.1,x.2.2⟩
structure jK(w:World)(l:Addr)(o:Obj)(xs:List fG):Prop where
 sys:(l==sysModules)=false
 ex:o.ExactDict
 ent:∃es ep,o.data=.dict es ep/\es.toList=xs.map (agG w)
 nd:(xs.map (·.1)).Nodup
 len:xs.length<=sizeLine
 dep:∀x∈xs,x.1.depth<=8
def iD(K:avC)(aj:aK)(g:Gh)(H:Hp)(l:Addr):Bool->List (Dat×Dat)->Prop
 |false,kvs=>∃kv:List (Key×V),H l=some (.dK kv)/\kvs.map (·.1)=kv.map (λp=>keyD p.1)/\aA K g H (kv.map (·.2)) (kvs.map (·.2))
 |true,kvs=>∃(o:Obj) (xs:List fG) (vs:List V),H l=some (fL l o)/\jK aj.w l o xs/\kvs.map (·.1)=xs.map (λx=>x.1.data)/\aA K g H (xs.map λx=>V.ref x.2.1) (kvs.map (·.1))/\Vals vs (xs.map (·.2.2))/\aA K g H vs (kvs.map (·.2))
def eX(K:avC)(aj:aK)(g:Gh)(H:Hp)(h:Nat)(f:Str)(v:V):jD->Prop
 |.dat d=>Rep K g H v d
 |.lst n xs=>∃l us,v=.ref l/\H l=some (.lst us)/\g.ow l=some (h,f)/\aA K g H us xs/\g.tbl[n]?=some l
 |.dic n kvs=>∃l,v=.ref l/\g.ow l=some (h,f)/\iD K aj g H l n kvs
inductive cH(K:avC)(aj:aK)(g:Gh)(H:Hp)(h:Nat):List (Str×V)->List (Str×jD)->Prop
 |nil:cH K aj g H h [] []
 |cons {f:Str} {v:V} {fl:jD} {fs:List (Str×V)} {gs:List (Str×jD)}:eX K aj g H h f v fl->cH K aj g H h fs gs->cH K aj g H h ((f,v)::fs) ((f,fl)::gs)
structure gM(K:avC)(aj:aK)(g:Gh)(H:Hp)(M:Mo):Prop where
 len:g.tbl.length=M.length
 inj:∀(h k:Nat) (a:Addr),g.tbl[h]?=some a->g.tbl[k]?=some a->h=k
 ins:∀(h:Nat) (a:Addr) (i:Inst),g.tbl[h]?=some a->M[h]?=some i->i.cls≠""->∃C dx fs,aj i.cls=some C/\H a=some (.ins C dx fs)/\cH K aj g H h fs i.fs
 nd:∀(h:Nat) (i:Inst),M[h]?=some i->(i.fs.map (·.1)).Nodup
 fd:∀(h:Nat) (i:Inst),M[h]?=some i->∀f∈i.fs.map (·.1),f∈aj.fl i.cls
 tw:∀(h:Nat) (a:Addr) (i:Inst),g.tbl[h]?=some a->M[h]?=some i->i.cls≠""->g.ow a=none
 dm:∀(h:Nat) (i:Inst),M[h]?=some i->i.cls=""->i.fs=[]
 nc:aj ""=none
structure SInv(K:avC)(aj:aK)(σ:L2.St)(H:Hp)(g:Gh)(Z:Env)(M:Mo):Prop where
 kd:Kd g H
 wok:gM K aj g H M
 len:σ.length=Z.length
 dat:∀(i:Nat) (d:Dat),Z[i]?=some #[d]->∃v,σ[i]?=some (some v)/\Rep K g H v d
 own:∀(i:Nat) (xs:List Dat),Z[i]?=some (some (.mut xs))->∃l us,σ[i]?=some (some (.ref l))/\H l=some (.lst us)/\g.Lo l/\aA K g H us xs
 sep:∀(i j:Nat) (xs ys:List Dat) (l:Addr),i≠j->Z[i]?=some (some (.mut xs))->Z[j]?=some (some (.mut ys))->σ[i]?=some (some (.ref l))->σ[j]?≠some (some (.ref l))
section
variable{K:avC}{aj:aK}{q:Bool}{g g' g2:Gh}{H H' H2:Hp}{v:V}{d:Dat}{σ:L2.St}{Z:Env}{M:Mo}
theorem iD.ex{l:Addr}:∀{n:Bool} {kvs:List (Dat×Dat)} (e:Ex H H') (k:Kd g H) (h:iD K aj g H l n kvs),iD K aj g H' l n kvs
 |false,_,e,k,⟨kv,h1,h2,h3⟩=>⟨kv,e _ _ h1,h2,h3.ex e k⟩
 |true,_,e,k,⟨o,xs,vs,h1,h2,h3,h4,h5,h6⟩=>⟨o,xs,vs,e _ _ h1,h2,h3,h4.ex e k,h5,h6.ex e k⟩
theorem eX.ex{h:Nat}{f:Str}(e:Ex H H')(k:Kd g H):∀{fl:jD},eX K aj g H h f v fl->eX K aj g H' h f v fl
 |.dat _,r=>Rep.ex e k r
 |.lst _ _,⟨l,us,h1,h2,h3,h4,h5⟩=>⟨l,us,h1,e _ _ h2,h3,h4.ex e k,h5⟩
 |.dic _ _,⟨l,h1,h2,h3⟩=>⟨l,h1,h2,h3.ex e k⟩
theorem cH.ex{h:Nat}(e:Ex H H')(k:Kd g H):∀{fs:LsS V} {gs:LsS jD},cH K aj g H h fs gs->cH K aj g H' h fs gs
 |_,_,.nil=>.nil
 |_,_,.cons r t=>.cons (eX.ex e k r) (cH.ex e k t)
theorem gM.ex(e:Ex H H')(k:Kd g H)(w:gM K aj g H M):gM K aj g H' M:=⟨w.len,w.inj,λh a i ha hi hc=>by
 let⟨C,dx,fs,c1,c2,c3⟩:=w.ins h a i ha hi hc
 exact⟨C,dx,fs,c1,e _ _ c2,c3.ex e k⟩,w.nd,w.fd,w.tw,w.dm,w.nc⟩
theorem SInv.ex(e:Ex H H')(I:SInv K aj σ H g Z M):SInv K aj σ H' g Z M:=⟨I.kd.ex e,I.wok.ex e I.kd,I.len,λi d h=>by
 let⟨v,h1,h2⟩:=I.dat i d h
 exact⟨v,h1,h2.ex e I.kd⟩,λi xs h=>by
 let⟨l,us,h1,h2,h3,h4⟩:=I.own i xs h
 exact⟨l,us,h1,e _ _ h2,h3,h4.ex e I.kd⟩,I.sep⟩
theorem cH.get{h:Nat}{f:Str}{fl:jD}:∀{fs:LsS V} {gs:LsS jD},cH K aj g H h fs gs->gs.lookup f=some fl->∃v,fs.lookup f=some v/\eX K aj g H h f v fl
 |_,_,.nil,e=>nomatch e
 |_,_,.cons (f:=f') (v:=v) (fl:=fl') r t,e=>by
  rw[av5]at e;rw[av5];cases hb:f==f' with
  |true=>
   rw[hb]at e;cases e;have ef:f=f':=by simpa using hb
   subst ef;exact⟨v,rfl,r⟩
  |false=>
   rw[hb]at e;exact t.get e
theorem cH.no{h:Nat}{f:Str}:∀{fs:LsS V} {gs:LsS jD},cH K aj g H h fs gs->gs.lookup f=none->fs.lookup f=none
 |_,_,.nil,_=>rfl
 |_,_,.cons (f:=f') (v:=v) (fl:=fl') r t,e=>by
  rw[av5]at e;rw[av5];cases hb:f==f' with
  |true=>
   rw[hb]at e;cases e
  |false=>
   rw[hb]at e;exact t.no e
end
def Out.bind{α β:Type}(o:Out α)(k:α->Out β):Out β:=
 match o with
 |.ok a=>k a
 |.exc x=>.exc x
 |.bad=>.bad
def Out.sat{α:Type}(o:Out α)(P:α->Prop)(E:dX->Prop):Prop:=
 match o with
 |.ok a=>P a
 |.exc x=>E x
 |.bad=>False
@[simp]theorem Out.Ba {α β:Type} (a:α) (k:α->Out β):(Out.ok a).bind k=k a:=rfl
@[simp]theorem Out.aiQ {α β:Type} (x:dX) (k:α->Out β):(Out.exc x:Out α).bind k=.exc x:=rfl
@[simp]theorem Out.ajg {α β:Type} (k:α->Out β):(Out.bad:Out α).bind k=.bad:=rfl
def Out.sat.bnd{α β:Type}{o:Out α}{k:α->Out β}{P:β->Prop}{E:dX->Prop}(h:(o.bind k).sat P E):o.sat (λa=>(k a).sat P E) E:=by cases o<;>exact h
def Out.sat.mono{α:Type}{o:Out α}{P P':α->Prop}{E E':dX->Prop}(h:o.sat P E)(hp:∀a,P a->P' a)(he:∀x,E x->E' x):o.sat P' E':=by
 cases o
 .exact hp _ h
 .exact he _ h
 .exact h
def Out.when{α:Type}(b:Bool)(o:Out α):Out α:=if b=true then o else .bad
@[simp]theorem Out.Y7 {α:Type} (o:Out α):Out.when true o=o:=rfl
@[simp]theorem Out.apu {α:Type} (o:Out α):Out.when false o=.bad:=rfl
def Out.sat.kJ{α:Type}{b:Bool}{o:Out α}{P:α->Prop}{E:dX->Prop}(h:(Out.when b o).sat P E):b=true/\o.sat P E:=by
 cases b
 .exact awN h
 .exact⟨rfl,h⟩
inductive mK(K:avC)(g:Gh)(H:Hp):List (Str×V)->List (Str×Dat)->Prop
 |nil:mK K g H [] []
 |cons {f:Str} {v:V} {d:Dat} {fs:List (Str×V)} {gs:List (Str×Dat)}:Rep K g H v d->mK K g H fs gs->mK K g H ((f,v)::fs) ((f,d)::gs)
def tV(K:avC)(aj:aK)(g:Gh)(H:Hp)(x:dX)(c:Value)(dd:Option Addr):Prop:=
 ∃C,aj x.cls=some C/\c=.ref C/\((x.fs=[]/\dd=none)\/∃a fs,dd=some a/\H a=some (.xd fs)/\mK K g H fs x.fs)
abbrev QF:=Mo->Env->Out Dat
abbrev QT:=Mo->Env->Out Bool
abbrev QA:=Mo->Env->Out (List Dat)
section
variable(K:avC)(aj:aK)(W:WX)
def sH(g:Gh)(H:Hp)(σ:L2.St)(x:dX):Prop:=∀H' c dd,Ex H H'->tV K aj g H' x c dd->W c dd σ H'
def tQ(f:QF):TE:=λσ H Q=>∃g Z M,SInv K aj σ H g Z M/\(f M Z).sat (λd=>∀v H',Ex H H'->Rep K g H' v d->Q v H') (sH K aj W g H σ)
def j7(f:QT):TT:=λσ H Q=>∃g Z M,SInv K aj σ H g Z M/\(f M Z).sat (λb=>∀H',Ex H H'->Q b H') (sH K aj W g H σ)
def R8(f:QA):TA:=λσ H Q=>∃g Z M,SInv K aj σ H g Z M/\(f M Z).sat (λds=>∀vs H',Ex H H'->aA K g H' vs ds->Q vs H') (sH K aj W g H σ)
end
section
variable{K:avC}{aj:aK}{W:WX}{g:Gh}{H H1:Hp}{σ:L2.St}{Z:Env}{M:Mo}
def sH.ex{x:dX}(e:Ex H H1)(h:sH K aj W g H σ x):sH K aj W g H1 σ x:=λH' c dd e' r=>h H' c dd (e.trans e') r
def tQ.go{f:QF}{k:Dat->Prop}{Q:VK}(I:SInv K aj σ H g Z M)(h:(f M Z).sat k (sH K aj W g H σ))(hk:∀d v H',k d->Ex H H'->Rep K g H' v d->Q v H'):tQ K aj W f σ H Q:=
 ⟨g,Z,M,I,h.mono (λd hd v H' e r=>hk d v H' hd e r) λ_ z=>z⟩
def j7.go{f:QT}{k:Bool->Prop}{Q:Bool->Hp->Prop}(I:SInv K aj σ H g Z M)(h:(f M Z).sat k (sH K aj W g H σ))(hk:∀b H',k b->Ex H H'->Q b H'):j7 K aj W f σ H Q:=
 ⟨g,Z,M,I,h.mono (λd hd H' e=>hk d H' hd e) λ_ z=>z⟩
def R8.go{f:QA}{k:List Dat->Prop}{Q:List V->Hp->Prop}(I:SInv K aj σ H g Z M)(h:(f M Z).sat k (sH K aj W g H σ))(hk:∀ds vs H',k ds->Ex H H'->aA K g H' vs ds->Q vs H'):R8 K aj W f σ H Q:=
 ⟨g,Z,M,I,h.mono (λd hd v H' e r=>hk d v H' hd e r) λ_ z=>z⟩
end
def QE(aj:aK)(X:Cx)(W:WX)(e:Expr)(f:QF):Prop:=PE X e (tQ X.K aj W f)
def vo(aj:aK)(X:Cx)(W:WX)(e:Expr)(f:QT):Prop:=PT X e (j7 X.K aj W f)
def Ko(aj:aK)(X:Cx)(W:WX)(es:List Expr)(f:QA):Prop:=PA X es (R8 X.K aj W f)
def PE.weak{X:Cx}{e:Expr}{t t':TE}(h:PE X e t)(k:∀σ H Q,t' σ H Q->t σ H Q):PE X e t':=⟨λpins s σ H Q I q=>h.run pins s σ H Q I (k σ H Q q)⟩
def PT.weak{X:Cx}{e:Expr}{t t':TT}(h:PT X e t)(k:∀σ H Q,t' σ H Q->t σ H Q):PT X e t':=⟨λpins s σ H Q I q=>h.run pins s σ H Q I (k σ H Q q)⟩
def PA.weak{X:Cx}{e:List Expr}{t t':TA}(h:PA X e t)(k:∀σ H Q,t' σ H Q->t σ H Q):PA X e t':=⟨λpos pins s σ H Q I q=>h.run pos pins s σ H Q I (k σ H Q q)⟩
def DG(i:Nat):QF:=λ_ Z=>match Z[i]? with
 |some #[d]=>.ok d
 |_=>.bad
def qC(d:Dat):QF:=λ_ _=>.ok d
def aH(o:Dat->Dat->Out Dat)(a b:QF):QF:=λM Z=>(a M Z).bind λx=>(b M Z).bind λy=>o x y
def eZ(o:Dat->Out Dat)(a:QF):QF:=λM Z=>(a M Z).bind o
def dI:QA:=λ_ _=>.ok []
def U3(a:QF)(r:QA):QA:=λM Z=>(a M Z).bind λx=>(r M Z).bind λxs=>.ok (x::xs)
def aW(r:QA):QF:=λM Z=>(r M Z).bind λxs=>Out.when (decide (xs.length<=100000)) (.ok (.tuple xs))
def za(r:QA):QF:=λM Z=>(r M Z).bind λxs=>Out.when (decide (xs.length<=100000)) (.ok (.list xs))
section
variable{X:Cx}{aj:aK}{W:WX}{a b:Expr}{fa fb:QF}{pos:Pos}
def an4{i:Nat}{x:Str}(hN:X.N[i]?=some x)(hv:Vis X.env.scope x)(hd:(x==("__debug__" : Str))=false)(hcd:(x==("__classdict__" : Str))=false):QE aj X W (.Name x pos) (DG i):=
 PE.weak (pe_var hN hv hd hcd) λσ H Q ⟨g,Z,M,I,h⟩=>by
  unfold DG at h;left
  .next d e=>
   let⟨v,h1,h2⟩:=I.dat i d e
   exact⟨v,h1,h v H (Ex.refl H) h2⟩
  .exact awN h
def aoW{i:Int}{j:Nat}:QE aj X W (.Constant (.int i) j pos) (qC (.int i)):=PE.weak pe_int λσ H Q ⟨g,Z,M,I,h⟩=>h _ H (Ex.refl H) (.int i)
def aoH{x:Str}{j:Nat}:QE aj X W (.Constant (.str x) j pos) (qC (.str x)):=PE.weak pe_str λσ H Q ⟨g,Z,M,I,h⟩=>h _ H (Ex.refl H) (.str x)
def aqi{x:Bool}{j:Nat}:QE aj X W (.Constant (.bool x) j pos) (qC (.bool x)):=PE.weak pe_bl λσ H Q ⟨g,Z,M,I,h⟩=>h _ H (Ex.refl H) (.bl x)
def anu{j:Nat}:QE aj X W (.Constant .none j pos) (qC .none):=PE.weak pe_non λσ H Q ⟨g,Z,M,I,h⟩=>h _ H (Ex.refl H) .non
def aoF:Ko aj X W [] dI:=PA.weak pa_nil λσ H Q ⟨g,Z,M,I,h⟩=>h [] H (Ex.refl H) .nil
def alK{es:List Expr}{fr:QA}(ha:QE aj X W a fa)(hr:Ko aj X W es fr)(hs:starEach (a::es) X.env=(false,eval a X.env)::starEach es X.env):Ko aj X W (a::es) (U3 fa fr):=
 PA.weak (pa_cons ha hr hs) λσ H Q ⟨g,Z,M,I,h⟩=>by
  refine tQ.go I h.bnd λd v H1 h1 e1 r1=>?_;refine R8.go (I.ex e1) (h1.bnd.mono (λ_ z=>z) λ_ z=>z.ex e1) λds vs H2 h2 e2 r2=>?_;exact h2 (v::vs) H2 (e1.trans e2) (.cons (r1.ex e2 (I.kd.ex e1)) r2)
def aoU{es:List Expr}{fr:QA}{k:Nat}(h:Ko aj X W es fr):QE aj X W (.Tuple es k pos) (aW fr):=
 PE.weak (pe_tup h) λσ H Q ⟨g,Z,M,I,h⟩=>by
  refine R8.go I h.bnd λds vs H1 h1 e1 r1=>?_;let⟨hz,h1⟩:=h1.kJ
  have hl:vs.length<=100000:=by rw[r1.length];exact awP hz
  refine⟨sz_of hl,λp np=>h1 (.ref p) _ (e1.trans (Ex.new np)) (.tup (st_of awU) (r1.ex (Ex.new np) (I.kd.ex e1)))⟩
def Kd.fresh{g:Gh}{H:Hp}(k:Kd g H){p:Addr}(n:H p=none):¬g.A p:=λz=>by
 let⟨o,e,_⟩:=k.ob p z
 rw[n]at e;cases e
def aoT{es:List Expr}{fr:QA}(h:Ko aj X W es fr):QE aj X W (.List es pos) (za fr):=
 PE.weak (pe_lst h) λσ H Q ⟨g,Z,M,I,h⟩=>by
  refine R8.go I h.bnd λds vs H1 h1 e1 r1=>?_;let⟨hz,h1⟩:=h1.kJ
  have hl:vs.length<=100000:=by rw[r1.length];exact awP hz
  refine⟨sz_of hl,λp np=>h1 (.ref p) _ (e1.trans (Ex.new np)) (.lst (.inl ⟨.inl awU,(I.kd.ex e1).fresh np⟩) (r1.ex (Ex.new np) (I.kd.ex e1)))⟩
end
def dW(K:avC)(g:Gh)(H:Hp)(v:V):Dat->Prop
 |.list ds=>∃a us,v=.ref a/\SqL K H a us/\aA K g H us ds
 |d=>Rep K g H v d
section
variable{K:avC}{g:Gh}{H H':Hp}{v:V}{d:Dat}
def Rep.weak(h:Rep K g H v d):dW K g H v d:=by
 cases h with
 |lst a t=>exact⟨_,_,rfl,a.sq,t⟩
 |non=>exact .non
 |bl b=>exact .bl b
 |int i=>exact .int i
 |str x=>exact .str x
 |tup a t=>exact .tup a t
 |obj a=>exact .obj a
theorem dW.ex(e:Ex H H')(k:Kd g H)(h:dW K g H v d):dW K g H' v d:=by
 cases d with
 |list ds=>
  let⟨a,us,h1,h2,h3⟩:=h
  exact⟨a,us,h1,ex_l e h2,h3.ex e k⟩
 |_=>exact Rep.ex e k h
def cA{i:Int}(h:dW K g H v (.int i)):v=.int i:=by cases h;rfl
def fW{x:Str}(h:dW K g H v (.str x)):v=.str x:=by cases h;rfl
def Hq{b:Bool}(h:dW K g H v (.bool b)):v=.bl b:=by cases h;rfl
def Kv(h:dW K g H v .none):v=.non:=by cases h;rfl
def nJ{ds:List Dat}(h:dW K g H v (.tuple ds)):∃a us,v=.ref a/\SqT K H a us/\aA K g H us ds:=by
 cases h with
 |tup a t=>exact⟨_,_,rfl,a,t⟩
def fX{ds:List Dat}(h:dW K g H v (.list ds)):∃a us,v=.ref a/\SqL K H a us/\aA K g H us ds:=h
def PB{n:Nat}(h:dW K g H v (obj n)):∃a,v=.ref a/\g.tbl[n]?=some a:=by
 cases h with
 |obj a=>exact⟨_,rfl,a⟩
end
section
variable(K:avC)(aj:aK)(W:WX)
def tW(f:QF):TE:=λσ H Q=>∃g Z M,SInv K aj σ H g Z M/\(f M Z).sat (λd=>∀v H',Ex H H'->dW K g H' v d->Q v H') (sH K aj W g H σ)
end
def tW.go{K:avC}{aj:aK}{W:WX}{g:Gh}{H:Hp}{σ:L2.St}{Z:Env}{M:Mo}{f:QF}{k:Dat->Prop}{Q:VK}(I:SInv K aj σ H g Z M)(h:(f M Z).sat k (sH K aj W g H σ))(hk:∀d v H',k d->Ex H H'->dW K g H' v d->Q v H'):tW K aj W f σ H Q:=
 ⟨g,Z,M,I,h.mono (λd hd v H' e r=>hk d v H' hd e r) λ_ z=>z⟩
def QW(aj:aK)(X:Cx)(W:WX)(e:Expr)(f:QF):Prop:=PE X e (tW X.K aj W f)
def QE.w{aj:aK}{X:Cx}{W:WX}{e:Expr}{f:QF}(h:QE aj X W e f):QW aj X W e f:=
 PE.weak h λσ H Q ⟨g,Z,M,I,z⟩=>⟨g,Z,M,I,z.mono (λ_ k v H' e r=>k v H' e r.weak) λ_ y=>y⟩
def UW(i:Nat):QF:=λ_ Z=>match Z[i]? with
 |some #[d]=>.ok d
 |some (some (.mut xs))=>.ok (.list xs)
 |_=>.bad
def sU(aj:aK)(K:avC)(W:WX)(o:Dat->Dat->Out Dat)(r:R2):Prop:=∀(σ:L2.St) (g:Gh) (H:Hp) (x y:V) (d e:Dat) (Q:VK),Kd g H->dW K g H x d->dW K g H y e->
 (o d e).sat (λz=>∀v H',Ex H H'->Rep K g H' v z->Q v H') (sH K aj W g H σ)->r x y H Q
section
variable{X:Cx}{aj:aK}{W:WX}{a b c:Expr}{fa fb fc:QF}{pos:Pos}
def ano{i:Nat}{x:Str}(hN:X.N[i]?=some x)(hv:Vis X.env.scope x)(hd:(x==("__debug__" : Str))=false)(hcd:(x==("__classdict__" : Str))=false):QW aj X W (.Name x pos) (UW i):=
 PE.weak (pe_var hN hv hd hcd) λσ H Q ⟨g,Z,M,I,h⟩=>by
  unfold UW at h;left
  .next d e=>
   let⟨v,h1,h2⟩:=I.dat i d e
   exact⟨v,h1,h v H (Ex.refl H) h2.weak⟩
  .next xs e=>
   let⟨l,us,h1,h2,h3,h4⟩:=I.own i xs e
   exact⟨.ref l,h1,h _ H (Ex.refl H) ⟨l,us,rfl,sq_of h2,h4⟩⟩
  .exact awN h
def VN{o:Dat->Dat->Out Dat}{r:R2}(ho:sU aj X.K W o r)(σ:L2.St)(H:Hp)(Q:VK)(h:tQ X.K aj W (aH o fa fb) σ H Q):tOp r (tW X.K aj W fa) (tW X.K aj W fb) σ H Q:=by
 let⟨g,Z,M,I,h⟩:=h
 refine tW.go I h.bnd λd v H1 h1 e1 r1=>?_;refine tW.go (I.ex e1) (h1.bnd.mono (λ_ z=>z) λ_ z=>z.ex e1) λd2 v2 H2 h2 e2 r2=>?_;refine ho σ g H2 v v2 d d2 Q ((I.kd.ex e1).ex e2) (r1.ex e2 (I.kd.ex e1)) r2 (h2.mono (λz hz u H' e' r'=>hz u H' ((e1.trans e2).trans e') r') λ_ z=>(z.ex e1).ex e2)
def anJ{op:Operator}{r:R2}{o:Dat->Dat->Out Dat}(hr:OpR X (binaryOp op) r)(ho:sU aj X.K W o r)(ha:QW aj X W a fa)(hb:QW aj X W b fb):QE aj X W (.BinOp a op b pos) (aH o fa fb):=
 PE.weak (pe_op hr ha hb) λσ H Q h=>VN ho σ H Q h
def akB{op:CmpOp}{r:R2}{o:Dat->Dat->Out Dat}(hr:OpR X (compareOp op) r)(ho:sU aj X.K W o r)(ha:QW aj X W a fa)(hb:QW aj X W b fb)(hm:behindInMarks op b=false):QE aj X W (.Compare a [op] [b] pos) (aH o fa fb):=
 PE.weak (pe_cmpR hr ha hb hm) λσ H Q h=>VN ho σ H Q h
end
instance:DecidableRel CMul:=λi j=>by unfold CMul;infer_instance
instance:DecidableRel CDiv:=λi j=>by unfold CDiv;infer_instance
instance:DecidableRel CPow:=λi j=>by unfold CPow;infer_instance
def eU:Dat->Dat->Out Dat
 |.int i,.int j=>.ok (.int (i+j))
 |.str x,.str y=>Out.when (decide (x.length+y.length<=100000)) (.ok (.str (x++y)))
 |.list xs,.list ys=>Out.when (decide (xs.length+ys.length<=100000)) (.ok (.list (xs++ys)))
 |.tuple xs,.tuple ys=>Out.when (decide (xs.length+ys.length<=100000)) (.ok (.tuple (xs++ys)))
 |_,_=>.bad
def kh:Dat->Dat->Out Dat
 |.int i,.int j=>.ok (.int (i-j))
 |_,_=>.bad
def yr:Dat->Dat->Out Dat
 |.int i,.int j=>Out.when (decide (CMul i j)) (.ok (.int (i*j)))
 |_,_=>.bad
def DQ:Dat->Dat->Out Dat
 |.int i,.int j=>Out.when (decide (CDiv i j)) (.ok (.int (i/j)))
 |_,_=>.bad
def lu:Dat->Dat->Out Dat
 |.int i,.int j=>Out.when (decide (0<j)) (.ok (.int (i%j)))
 |_,_=>.bad
def Tv:Dat->Dat->Out Dat
 |.int i,.int j=>Out.when (decide (CPow i j)) (.ok (.int (i^j.toNat)))
 |_,_=>.bad
def rCatS(K:avC):R2:=λx y H Q=>∃l b xs zs,x=.ref l/\y=.ref b/\SqL K H l xs/\SqL K H b zs/\xs.length+zs.length<=sizeLine/\∀p,H p=none->Q (.ref p) (upd H p (.lst (xs++zs)))
def alA{X:Cx}:OpR X (binaryOp .Add) (rCatS X.K):=by
 intro pins s σ H x y v u Q I rx ry h;let⟨l,b,xs,zs,rfl,rfl,hH,hB,hz,q⟩:=h
 cases rx;cases ry;let⟨its,r,⟨⟨c1,d1,da1,s1⟩,n,e,hc,hd,hs⟩,_⟩:=I.list hH
 let⟨its2,r2,⟨⟨c2,d2,da2,s2⟩,n2,e2,hc2,hd2,hs2⟩,_⟩:=I.list hB
 simp only at hc hd hs hc2 hd2 hs2;subst hc hd hs hc2 hd2 hs2;have l1:=r.length;have l2:=r2.length;have ea:its.toArray++its2.toArray=(its++its2).toArray:=by simp
 refine concat_meets ⟨_,e,rfl⟩ ⟨_,e2,rfl⟩ noFill_list_add seq_list_add PySem.F.slot_list_add PySem.F.entry_list_add (PySem.F.args_list_add_2 _ _) (list_addW l b its.toArray its2.toArray n n2 none none s1 s2 (by rw[List.size_toArray,List.size_toArray];omega)) ⟨e,e2,?_⟩;rw[ea];exact⟨.ref _,_,I.lnew (t':=s.toks) (r.append r2) (by rw[awa];omega),rfl,q _ I.fresh⟩
def ajO(K:avC):R2:=λx y H Q=>rI0 (λi j=>.int (i+j)) x y H Q\/(∃i j,x=.str i/\y=.str j/\i.length+j.length<=sizeLine/\Q (.str (i++j)) H)\/rCatS K x y H Q\/rCatA K x y H Q
def adN{X:Cx}:OpR X (binaryOp .Add) (ajO X.K):=by
 intro pins s σ H x y v u Q I rx ry h;rcases h with h|h|h|h
 .exact op_add pins s σ H x y v u Q I rx ry h
 .exact op_add_str pins s σ H x y v u Q I rx ry h
 .exact alA pins s σ H x y v u Q I rx ry h
 .exact op_catA pins s σ H x y v u Q I rx ry h
section
variable{K:avC}{aj:aK}{W:WX}
def agT:sU aj K W eU (ajO K):=λσ g H x y d e Q k rx ry h=>by
 unfold eU at h;left
 .exact .inl ⟨_,_,cA rx,cA ry,h _ H (Ex.refl H) (.int _)⟩
 .let⟨hz,h⟩:=h.kJ
  exact .inr (.inl ⟨_,_,fW rx,fW ry,sz_of (awP hz),h _ H (Ex.refl H) (.str _)⟩)
 .let⟨hz,h⟩:=h.kJ
  let⟨l,us,e1,s1,t1⟩:=fX rx
  let⟨l2,us2,e2,s2,t2⟩:=fX ry
  have hl:=awP hz;rw[<-t1.length,<-t2.length]at hl;refine .inr (.inr (.inl ⟨l,l2,us,us2,e1,e2,s1,s2,sz_of hl,λp np=>h _ _ (Ex.new np) (.lst (.inl ⟨.inl awU,k.fresh np⟩) ((t1.append t2).ex (Ex.new np) k))⟩))
 .let⟨hz,h⟩:=h.kJ
  let⟨l,us,e1,s1,t1⟩:=nJ rx
  let⟨l2,us2,e2,s2,t2⟩:=nJ ry
  have hl:=awP hz;rw[<-t1.length,<-t2.length]at hl;refine .inr (.inr (.inr ⟨l,l2,us,us2,e1,e2,s1,s2,sz_of hl,λz=>?_,λ_ z=>?_,λ_ _ p np=>h _ _ (Ex.new np) (.tup (st_of awU) ((t1.append t2).ex (Ex.new np) k))⟩))
  .subst z;cases t1;exact h _ H (Ex.refl H) (.tup s2 t2)
  .subst z;cases t2;rw[awn]at h;exact h _ H (Ex.refl H) (.tup s1 t1)
 .exact awN h
def al3:sU aj K W kh (rI0 λi j=>.int (i-j)):=λσ g H x y d e Q k rx ry h=>by
 unfold kh at h;left
 .exact⟨_,_,cA rx,cA ry,h _ H (Ex.refl H) (.int _)⟩
 .exact awN h
def an2:sU aj K W yr (rI CMul λi j=>.int (i*j)):=λσ g H x y d e Q k rx ry h=>by
 unfold yr at h;left
 .let⟨hz,h⟩:=h.kJ
  exact⟨_,_,cA rx,cA ry,awP hz,h _ H (Ex.refl H) (.int _)⟩
 .exact awN h
def aoZ:sU aj K W DQ (rI CDiv λi j=>.int (i/j)):=λσ g H x y d e Q k rx ry h=>by
 unfold DQ at h;left
 .let⟨hz,h⟩:=h.kJ
  exact⟨_,_,cA rx,cA ry,awP hz,h _ H (Ex.refl H) (.int _)⟩
 .exact awN h
def aow:sU aj K W lu (rI (λ_ j=>0<j) λi j=>.int (i%j)):=λσ g H x y d e Q k rx ry h=>by
 unfold lu at h;left
 .let⟨hz,h⟩:=h.kJ
  exact⟨_,_,cA rx,cA ry,awP hz,h _ H (Ex.refl H) (.int _)⟩
 .exact awN h
def an5:sU aj K W Tv (rI CPow λi j=>.int (i^j.toNat)):=λσ g H x y d e Q k rx ry h=>by
 unfold Tv at h;left
 .let⟨hz,h⟩:=h.kJ
  exact⟨_,_,cA rx,cA ry,awP hz,h _ H (Ex.refl H) (.int _)⟩
 .exact awN h
end
mutual
def okd:Nat->Dat->Bool
 |_,.none=>true
 |_,.bool _=>true
 |_,.int _=>true
 |_,.str x=>PyData.strOk x
 |n+1,.list ds=>iV n ds
 |n+1,.tuple ds=>iV n ds
 |0,.list _=>false
 |0,.tuple _=>false
 |_,.dict _=>false
def iV:Nat->List Dat->Bool
 |_,[]=>true
 |n,d::ds=>okd n d&&iV n ds
end
mutual
theorem Rm:∀(n:Nat) (d:Dat),okd n d=true->d.canLay0=true/\d.depth<=n
 |n,.none,_=>⟨by simp[PyData.canLay0],by simp[PyData.depth]⟩
 |n,.bool _,_=>⟨by simp[PyData.canLay0],by simp[PyData.depth]⟩
 |n,.int _,_=>⟨by simp[PyData.canLay0],by simp[PyData.depth]⟩
 |n,.str x,h=>⟨by rw[okd]at h;simp[PyData.canLay0,h],by simp[PyData.depth]⟩
 |n+1,.list ds,h=>by
  rw[okd]at h;let⟨h1,h2⟩:=Mj n ds h
  exact⟨by simp[PyData.canLay0,h1],by simp[PyData.depth];omega⟩
 |n+1,.tuple ds,h=>by
  rw[okd]at h;let⟨h1,h2⟩:=Mj n ds h
  exact⟨by simp[PyData.canLay0,h1],by simp[PyData.depth];omega⟩
 |0,.list _,h=>by rw[okd]at h;cases h
 |0,.tuple _,h=>by rw[okd]at h;cases h
 |n,.dict _,h=>by rw[okd]at h;cases h
theorem Mj:∀(n:Nat) (ds:List Dat),iV n ds=true->PyData.canLayAll0 ds=true/\PyData.depthAll ds<=n
 |n,[],_=>⟨by simp[PyData.canLayAll0],by simp[PyData.depthAll]⟩
 |n,d::ds,h=>by
  rw[iV,avD]at h;let⟨h1,h2⟩:=Rm n d h.1
  let⟨h3,h4⟩:=Mj n ds h.2
  exact⟨by simp[PyData.canLayAll0,h1,h3],by simp[PyData.depthAll];omega⟩
end
mutual
theorem Rep.dp{K:avC}{g:Gh}{H:Hp}:∀{n:Nat} {v:V} {d:Dat},okd n d=true->Rep K g H v d->Dp K H v d
 |_,_,_,_,.non=>.non
 |_,_,_,_,.bl b=>.bl b
 |_,_,_,_,.int i=>.int i
 |_,_,_,_,.str x=>.str x
 |n+1,_,_,f,.tup h t=>.tup h (aA.dp (n:=n) (by rw[okd]at f;exact f) t)
 |n+1,_,_,f,.lst h t=>.lst h.sq (aA.dp (n:=n) (by rw[okd]at f;exact f) t)
 |0,_,_,f,.tup h t=>by rw[okd]at f;cases f
 |0,_,_,f,.lst h t=>by rw[okd]at f;cases f
 |_,_,_,f,.obj h=>by rw[okd]at f;cases f
theorem aA.dp{K:avC}{g:Gh}{H:Hp}:∀{n:Nat} {vs:List V} {ds:List Dat},iV n ds=true->aA K g H vs ds->DpAll K H vs ds
 |_,_,_,_,.nil=>.nil
 |n,_,_,f,.cons h t=>.cons (Rep.dp (n:=n) (by rw[iV,avD]at f;exact f.1) h) (aA.dp (n:=n) (by rw[iV,avD]at f;exact f.2) t)
end
theorem dW.dp{K:avC}{g:Gh}{H:Hp}{n:Nat}{v:V}{d:Dat}(f:okd n d=true)(h:dW K g H v d):Dp K H v d:=by
 cases d with
 |list ds=>
  let⟨a,us,rfl,h2,h3⟩:=h
  cases n with
  |zero=>rw[okd]at f;cases f
  |succ n=>
   rw[okd]at f;exact .lst h2 (h3.dp f)
 |_=>exact Rep.dp f h
def Em{n:Nat}{d:Dat}(h:okd n d=true)(hn:n<=64):SeqAt.shaped d=true:=by
 let⟨h1,h2⟩:=Rm n d h
 unfold SeqAt.shaped;rw[h1,Bool.true_and];exact decide_eq_true (av2 h2 hn)
def eqB:Dat->Dat->Out Bool
 |.int i,.int j=>.ok (i==j)
 |.str x,.str y=>.ok (x==y)
 |.bool x,.bool y=>.ok (x==y)
 |.none,.none=>.ok true
 |d,e=>Out.when (okd 12 d&&okd 12 e) (.ok (PyData.eqv d e))
def DY(d e:Dat):Out Dat:=(eqB d e).bind λb=>.ok (.bool b)
def uH(d e:Dat):Out Dat:=(eqB d e).bind λb=>.ok (.bool (!b))
def ao0(K:avC):R2:=λx y H Q=>rEq x y H Q\/rEqD K x y H Q
def amJ(K:avC):R2:=λx y H Q=>rNe x y H Q\/rNeD K x y H Q
def aoB{X:Cx}(hu:X.A.units+64<cLine):OpR X (compareOp .Eq) (ao0 X.K):=λpins s σ H x y v u Q I rx ry h=>h.elim (λh=>op_eq pins s σ H x y v u Q I rx ry h) (λh=>op_eqD hu pins s σ H x y v u Q I rx ry h)
def anN{X:Cx}(hu:X.A.units+64<cLine):OpR X (compareOp .NotEq) (amJ X.K):=λpins s σ H x y v u Q I rx ry h=>h.elim (λh=>op_ne pins s σ H x y v u Q I rx ry h) (λh=>op_neD hu pins s σ H x y v u Q I rx ry h)
section
variable{K:avC}{aj:aK}{W:WX}{g:Gh}{H:Hp}
def ahm{x y:V}{d e:Dat}{P:Bool->Prop}{E:dX->Prop}(rx:dW K g H x d)(ry:dW K g H y e)(h:(eqB d e).sat P E):(scal x y=true/\P (decide (x=y)))\/(∃d e,Dp K H x d/\Dp K H y e/\SeqAt.shaped d=true/\SeqAt.shaped e=true/\P (PyData.eqv d e)):=by
 unfold eqB at h;left
 .cases cA rx;cases cA ry;rw[dec_int];exact .inl ⟨rfl,h⟩
 .cases fW rx;cases fW ry;rw[dec_str];exact .inl ⟨rfl,h⟩
 .cases Hq rx;cases Hq ry;rw[dec_bl];exact .inl ⟨rfl,h⟩
 .cases Kv rx;cases Kv ry;exact .inl ⟨rfl,h⟩
 .let⟨hz,h⟩:=h.kJ
  rw[avD]at hz;exact .inr ⟨_,_,rx.dp hz.1,ry.dp hz.2,Em hz.1 #[()],Em hz.2 #[()],h⟩
def apS:sU aj K W DY (ao0 K):=λσ g H x y d e Q k rx ry h=>by
 rcases ahm rx ry h.bnd with⟨h1,h2⟩|⟨d,e,h1,h2,h3,h4,h5⟩
 .exact .inl ⟨h1,h2 _ H (Ex.refl H) (.bl _)⟩
 .exact .inr ⟨d,e,h1,h2,h3,h4,h5 _ H (Ex.refl H) (.bl _)⟩
def ap4:sU aj K W uH (amJ K):=λσ g H x y d e Q k rx ry h=>by
 rcases ahm rx ry h.bnd with⟨h1,h2⟩|⟨d,e,h1,h2,h3,h4,h5⟩
 .exact .inl ⟨h1,h2 _ H (Ex.refl H) (.bl _)⟩
 .exact .inr ⟨d,e,h1,h2,h3,h4,h5 _ H (Ex.refl H) (.bl _)⟩
end
def Np:Dat->Dat->Out Dat
 |.int i,.int j=>.ok (.bool (decide (i<j)))
 |.tuple ds,.tuple es=>Out.when (okd 12 (.tuple ds)&&okd 12 (.tuple es)&&PySem.W.alike (.tuple ds) (.tuple es)) (.ok (.bool (PySem.W.dataLt (.tuple ds) (.tuple es))))
 |_,_=>.bad
def uN:Dat->Dat->Out Dat
 |.int i,.int j=>.ok (.bool (decide (i<=j)))
 |_,_=>.bad
def gtD:Dat->Dat->Out Dat
 |.int i,.int j=>.ok (.bool (decide (j<i)))
 |_,_=>.bad
def geD:Dat->Dat->Out Dat
 |.int i,.int j=>.ok (.bool (decide (j<=i)))
 |_,_=>.bad
def al8(K:avC):R2:=λx y H Q=>rI0 (λi j=>.bl (decide (i<j))) x y H Q\/Ear.Wn K x y H Q
def amZ{X:Cx}(hu:X.A.units+65<cLine):OpR X (compareOp .Lt) (al8 X.K):=λpins s σ H x y v u Q I rx ry h=>h.elim (λh=>op_lt pins s σ H x y v u Q I rx ry h) (λh=>Ear.ajs hu pins s σ H x y v u Q I rx ry h)
section
variable{K:avC}{aj:aK}{W:WX}{g:Gh}{H:Hp}
def apj:sU aj K W Np (al8 K):=λσ g H x y d e Q k rx ry h=>by
 unfold Np at h;left
 .exact .inl ⟨_,_,cA rx,cA ry,h _ H (Ex.refl H) (.bl _)⟩
 .let⟨hz,h⟩:=h.kJ
  simp![avD]at hz;refine .inr ?_;unfold Ear.Wn;exact⟨_,_,rx.dp hz.1.1,ry.dp hz.1.2,hz.2,(λz=>nomatch z),av2 (Rm _ _ hz.1.1).2 #[()],h _ H (Ex.refl H) (.bl _)⟩
 .exact awN h
def apc:sU aj K W uN (rI0 λi j=>.bl (decide (i<=j))):=λσ g H x y d e Q k rx ry h=>by
 unfold uN at h;left
 .exact⟨_,_,cA rx,cA ry,h _ H (Ex.refl H) (.bl _)⟩
 .exact awN h
def ape:sU aj K W gtD (rI0 λi j=>.bl (decide (j<i))):=λσ g H x y d e Q k rx ry h=>by
 unfold gtD at h;left
 .exact⟨_,_,cA rx,cA ry,h _ H (Ex.refl H) (.bl _)⟩
 .exact awN h
def apB:sU aj K W geD (rI0 λi j=>.bl (decide (j<=i))):=λσ g H x y d e Q k rx ry h=>by
 unfold geD at h;left
 .exact⟨_,_,cA rx,cA ry,h _ H (Ex.refl H) (.bl _)⟩
 .exact awN h
end
def iy(c:Dat):Dat->Bool
 |.none=>match c with
  |.none=>true
  |_=>false
 |.bool b=>match c with
  |.bool b'=>b==b'
  |_=>false
 |_=>false
def scD:Dat->Option V
 |.none=>some .non
 |.bool b=>some (.bl b)
 |_=>none
def aen{K:avC}{g:Gh}{H:Hp}{x:V}{d c:Dat}{v:V}(h:dW K g H x d)(hc:scD c=some v):decide (x=v)=iy c d:=by
 cases c with
 |none=>
  cases hc;cases d with
  |none=>cases Kv h;rfl
  |bool b=>cases Hq h;rfl
  |int b=>cases cA h;rfl
  |str b=>cases fW h;rfl
  |list b=>let⟨a,us,rfl,_⟩:=fX h;rfl
  |tuple b=>let⟨a,us,rfl,_⟩:=nJ h;rfl
  |dict b=>cases h;rfl
 |bool c=>
  cases hc;cases d with
  |none=>cases Kv h;rfl
  |bool b=>cases Hq h;exact dec_bl
  |int b=>cases cA h;rfl
  |str b=>cases fW h;rfl
  |list b=>let⟨a,us,rfl,_⟩:=fX h;rfl
  |tuple b=>let⟨a,us,rfl,_⟩:=nJ h;rfl
  |dict b=>cases h;rfl
 |_=>cases hc
def abj(neg:Bool)(v:V):R2:=λx y H Q=>y=v/\Q (.bl (neg ^^ decide (x=v))) H
def ahp{x v:V}{u w:Value}(hv:v=.non\/∃b,v=.bl b)(rx:RelV x u)(rv:RelV v w):(u==w)=decide (x=v):=by
 rcases hv with rfl|⟨b,rfl⟩
 .cases rv;exact rx.none_iff
 .cases rv;rw[awq,beq_iff_eq,awO];constructor
  .rintro rfl;cases x with
   |bl c=>cases rx;rfl
   |non=>cases rx
   |ref _=>cases rx
   |ty _=>cases rx
   |_=>let⟨t,z⟩:=rx;cases z
  .rintro rfl;exact rx
def Y8{x v:V}{u w:Value}(hv:v=.non\/∃b,v=.bl b)(rx:RelV x u)(rv:RelV v w):plainIs u w=true:=by rcases hv with rfl | ⟨b,rfl⟩<;>(cases rv;cases x<;>first | (cases rx;rfl) | (let⟨t,rfl⟩:=rx;rfl))
def aoN{X:Cx}{v:V}(hv:v=.non\/∃b,v=.bl b):OpR X (compareOp .Is) (abj false v):=by
 intro pins s σ H x y u w Q I rx ry h;let⟨rfl,q⟩:=h
 refine wpAny_is_plain (Y8 hv rx ry) ?_;rw[ahp hv rx ry];rw[Bool.false_xor]at q;exact⟨.bl _,H,I,rfl,q⟩
def afK{X:Cx}{v:V}(hv:v=.non\/∃b,v=.bl b):OpR X (compareOp .IsNot) (abj true v):=by
 intro pins s σ H x y u w Q I rx ry h;let⟨rfl,q⟩:=h
 refine wpAny_isNot_plain (Y8 hv rx ry) ?_;rw[ahp hv rx ry];rw[Bool.true_xor]at q;exact⟨.bl _,H,I,rfl,q⟩
def sO(neg:Bool)(c:Dat)(a:QF):QF:=λM Z=>(a M Z).bind λd=>.ok (.bool (neg ^^ iy c d))
section
variable{X:Cx}{aj:aK}{W:WX}{a b c:Expr}{fa fb fc:QF}{pos:Pos}
def apG{op:CmpOp}{neg:Bool}{d:Dat}{v:V}(hc:scD d=some v)(hr:OpR X (compareOp op) (abj neg v))(ha:QW aj X W a fa)(hb:PE X b (tC v))(hm:behindInMarks op b=false):QE aj X W (.Compare a [op] [b] pos) (sO neg d fa):=
 PE.weak (pe_cmpR hr ha hb hm) λσ H Q ⟨g,Z,M,I,h⟩=>by
  refine tW.go I h.bnd λe x H1 h1 e1 r1=>?_;refine⟨rfl,?_⟩;rw[aen r1 hc];exact h1 _ H1 e1 (.bl _)
end
def vP:Dat->Bool
 |.none=>true
 |.bool _=>true
 |.int _=>true
 |.str _=>true
 |_=>false
def inB:Dat->Dat->Out Bool
 |d,.list ds=>Out.when (okd 12 d&&iV 12 ds) (.ok (ds.any λz=>PyData.eqv z d))
 |d,.tuple ds=>Out.when (vP d&&ds.all vP) (.ok (ds.any λz=>PyData.eqv z d))
 |.str x,.str z=>match x.cps.toList with
  |[c]=>.ok (decide (c∈z.cps.toList))
  |_=>.bad
 |_,_=>.bad
def inD(neg:Bool)(d e:Dat):Out Dat:=(inB d e).bind λb=>.ok (.bool (neg ^^ b))
section
variable{K:avC}{g:Gh}{H:Hp}
def Ui{v:V}{d:Dat}(f:vP d=true)(h:Rep K g H v d):flatV v=true:=by
 cases h with
 |tup _ _=>cases f
 |lst _ _=>cases f
 |obj _=>cases f
 |_=>rfl
theorem N6:∀{vs:List V} {ds:List Dat},ds.all vP=true->aA K g H vs ds->vs.all flatV=true
 |_,_,_,.nil=>rfl
 |_,_,f,.cons h t=>by
  rw[awf,avD]at f;rw[awf,Ui f.1 h,N6 f.2 t];rfl
def Yk{v w:V}{d e:Dat}(f1:vP d=true)(f2:vP e=true)(h1:Rep K g H v d)(h2:Rep K g H w e):eqV v w=PyData.eqv d e:=by
 cases h1 with
 |tup _ _=>cases f1
 |lst _ _=>cases f1
 |obj _=>cases f1
 |non=>cases h2 with
  |tup _ _=>cases f2
  |lst _ _=>cases f2
  |obj _=>cases f2
  |_=>simp[eqV,PyData.eqv]
 |bl b=>cases h2 with
  |tup _ _=>cases f2
  |lst _ _=>cases f2
  |obj _=>cases f2
  |_=>simp[eqV,PyData.eqv]
 |int b=>cases h2 with
  |tup _ _=>cases f2
  |lst _ _=>cases f2
  |obj _=>cases f2
  |_=>simp[eqV,PyData.eqv]
 |str b=>cases h2 with
  |tup _ _=>cases f2
  |lst _ _=>cases f2
  |obj _=>cases f2
  |_=>simp[eqV,PyData.eqv]
theorem adM{w:V}{e:Dat}(f2:vP e=true)(h2:Rep K g H w e):∀{vs:List V} {ds:List Dat},ds.all vP=true->aA K g H vs ds->inV w vs=ds.any λz=>PyData.eqv z e
 |_,_,_,.nil=>rfl
 |v::vs,d::ds,f,.cons h t=>by
  rw[awf,avD]at f;have ih:=adM f2 h2 f.2 t;unfold inV at ih |-
  rw[awz,awz,ih,Yk f.1 f2 h h2]
def Q5{v:V}{d:Dat}(f:vP d=true)(h:dW K g H v d):Rep K g H v d:=by
 cases d with
 |list _=>cases f
 |_=>exact h
end
def ab2(K:avC)(neg:Bool):R2:=λx y H Q=>(∃d ds,Dp K H x d/\Dp K H y (.list ds)/\SeqAt.shaped d=true/\SeqAt.shaped (.list ds)=true/\Q (.bl (neg ^^ (ds.any λz=>PyData.eqv z d))) H)\/
 (∃p xs,y=.ref p/\(SqL K H p xs\/SqT K H p xs)/\flatV x=true/\xs.all flatV=true/\Q (.bl (neg ^^ inV x xs)) H)\/∃(c:Nat) (z:Str),x=.str ⟨(List.toArray [c])⟩/\y=.str z/\Q (.bl (neg ^^ decide (c∈z.cps.toList))) H
def am9{X:Cx}(hu:X.A.units+65<cLine):OpR X (compareOp .In) (ab2 X.K false):=λpins s σ H x y v u Q I rx ry h=>by
 unfold ab2 at h;simp![Bool.false_xor]at h;rcases h with⟨d,ds,h⟩|⟨p,xs,h⟩|h
 .exact op_inD hu pins s σ H x y v u Q I rx ry ⟨d,ds,h⟩
 .exact op_in_seq pins s σ H x y v u Q I rx ry ⟨p,xs,h⟩
 .exact op_in_sign pins s σ H x y v u Q I rx ry h
def ahB{X:Cx}(hu:X.A.units+65<cLine):OpR X (compareOp .NotIn) (ab2 X.K true):=λpins s σ H x y v u Q I rx ry h=>by
 unfold ab2 at h;simp![Bool.true_xor]at h;rcases h with⟨d,ds,h⟩|⟨p,xs,h⟩|h
 .exact op_notInD hu pins s σ H x y v u Q I rx ry ⟨d,ds,h⟩
 .exact op_notIn_seq pins s σ H x y v u Q I rx ry ⟨p,xs,h⟩
 .exact op_notIn_sign pins s σ H x y v u Q I rx ry h
def aj4{K:avC}{aj:aK}{W:WX}{neg:Bool}:sU aj K W (inD neg) (ab2 K neg):=λσ g H x y d e Q k rx ry h=>by
 replace h:=Out.sat.bnd h
 unfold inB at h;left
 .next ds=>
  let⟨hz,h⟩:=h.kJ
  rw[avD]at hz;have e2:okd 13 (.list ds)=true:=by rw[okd];exact hz.2
  exact .inl ⟨_,ds,rx.dp hz.1,ry.dp e2,Em hz.1 #[()],Em e2 #[()],h _ H (Ex.refl H) (.bl _)⟩
 .next ds=>
  let⟨hz,h⟩:=h.kJ
  rw[avD]at hz;let⟨p,us,rfl,h1,h2⟩:=nJ ry
  have rx':=Q5 hz.1 rx;refine .inr (.inl ⟨p,us,rfl,.inr h1,Ui hz.1 rx',N6 hz.2 h2,?_⟩);rw[adM hz.1 rx' hz.2 h2];exact h _ H (Ex.refl H) (.bl _)
 .next xs z=>
  left
  .next c e=>
   refine .inr (.inr ⟨c,z,?_,fW ry,h _ H (Ex.refl H) (.bl _)⟩);rw[fW rx];congr 1;have:xs.cps=(List.toArray [c]):=by apply Array.toList_inj.mp;rw[e]
   cases xs;simp only at this;rw[this]
  .exact awN h
 .exact awN h
def T6:Dat->Out Dat
 |.int i=>.ok (.int (-i))
 |_=>.bad
def MK:Dat->Out Bool
 |.none=>.ok false
 |.bool b=>.ok b
 |.int i=>.ok (i != 0)
 |.str x=>Out.when (decide (x.length<=100000)) (.ok (!x.cps.toList.isEmpty))
 |.list ds=>.ok (!ds.isEmpty)
 |.tuple ds=>.ok (!ds.isEmpty)
 |_=>.bad
def fV(a:QF):QT:=λM Z=>(a M Z).bind MK
def Ea:Dat->Out Bool
 |.bool b=>.ok b
 |_=>.bad
def cV(a:QF):QT:=λM Z=>(a M Z).bind Ea
def ji(a:QT):QT:=λM Z=>(a M Z).bind λb=>.ok (!b)
def gA(a b:QT):QT:=λM Z=>(a M Z).bind λx=>if x=true then b M Z else .ok false
def Dr(a b:QT):QT:=λM Z=>(a M Z).bind λx=>if x=true then .ok true else b M Z
def ZP(a:QT):QF:=λM Z=>(a M Z).bind λb=>.ok (.bool b)
def Qa(t:QT)(a b:QF):QF:=λM Z=>(t M Z).bind λx=>if x=true then a M Z else b M Z
def UJ{K:avC}{g:Gh}{H:Hp}{us:List V}{ds:List Dat}(h:aA K g H us ds):(!ds.isEmpty)=!us.isEmpty:=by cases h<;>rfl
section
variable{X:Cx}{aj:aK}{W:WX}{a b c:Expr}{fa fb fc:QF}{ta tb:QT}{pos:Pos}
def ame(ha:QW aj X W a fa):QE aj X W (.UnaryOp .USub a pos) (eZ T6 fa):=
 PE.weak (pe_un un_neg ha) λσ H Q ⟨g,Z,M,I,h⟩=>by
  refine tW.go I h.bnd λd v H1 h1 e1 r1=>?_;unfold T6 at h1;split at h1
  .exact⟨_,cA r1,h1 _ H1 e1 (.int _)⟩
  .exact awN h1
def aod{g:Gh}{H:Hp}{v:V}{d:Dat}{P:Bool->Prop}{E:dX->Prop}(r:dW X.K g H v d)(h:(MK d).sat P E):∃k,TruV X.K v H k/\P k:=by
 unfold MK at h;left
 .cases Kv r;exact⟨_,rfl,h⟩
 .cases Hq r;exact⟨_,rfl,h⟩
 .cases cA r;exact⟨_,rfl,h⟩
 .next x=>
  let⟨hz,h⟩:=h.kJ
  cases fW r;refine⟨_,⟨sz_of (awP hz),?_⟩,h⟩;have e:x.length=x.cps.toList.length:=by rw[awd];rfl
  rw[e];cases x.cps.toList with
  |nil=>rfl
  |cons y ys=>
   refine Eq.symm (bne_iff_ne.mpr ?_);simp;omega
 .let⟨p,us,rfl,h1,h2⟩:=fX r
  rw[UJ h2]at h;exact⟨_,.inl ⟨us,h1,rfl⟩,h⟩
 .let⟨p,us,rfl,h1,h2⟩:=nJ r
  rw[UJ h2]at h;exact⟨_,.inr (.inl ⟨us,h1,rfl⟩),h⟩
 .exact awN h
def aoe(ha:QW aj X W a fa)(he:∀whole,isTrue a X.env whole=(do let v <-whole;standAt a.pos;holding [v] (truthy v))):vo aj X W a (fV fa):=
 PT.weak (pt_truth ha he) λσ H Q ⟨g,Z,M,I,h⟩=>by
  refine tW.go I h.bnd λd v H1 h1 e1 r1=>?_;let⟨k,h2,h3⟩:=aod r1 h1
  exact⟨k,h2,h3 H1 e1⟩
def Hf{g:Gh}{H:Hp}{v:V}{d:Dat}{P:Bool->Prop}{E:dX->Prop}(r:dW X.K g H v d)(h:(Ea d).sat P E):∃k,v=.bl k/\P k:=by
 unfold Ea at h;left
 .cases Hq r;exact⟨_,rfl,h⟩
 .exact awN h
def ao1{op:CmpOp}{r:R2}{o:Dat->Dat->Out Dat}(hr:OpR X (compareOp op) r)(ho:sU aj X.K W o r)(ha:QW aj X W a fa)(hb:QW aj X W b fb)(hm:behindInMarks op b=false):vo aj X W (.Compare a [op] [b] pos) (cV (aH o fa fb)):=
 PT.weak (pt_cmpR hr ha hb hm) λσ H Q ⟨g,Z,M,I,h⟩=>by
  refine VN ho σ H _ ⟨g,Z,M,I,h.bnd.mono (λd h1 v H' e' r'=>?_) λ_ z=>z⟩;let⟨k,h2,h3⟩:=Hf r'.weak h1
  exact⟨k,h2,h3 H' e'⟩
def apQ{op:CmpOp}{neg:Bool}{d:Dat}{v:V}(hc:scD d=some v)(hr:OpR X (compareOp op) (abj neg v))(ha:QW aj X W a fa)(hb:PE X b (tC v))(hm:behindInMarks op b=false):vo aj X W (.Compare a [op] [b] pos) (cV (sO neg d fa)):=
 PT.weak (pt_cmpR hr ha hb hm) λσ H Q ⟨g,Z,M,I,h⟩=>by
  refine tW.go I h.bnd.bnd λe x H1 h1 e1 r1=>?_;refine⟨rfl,_,rfl,?_⟩;rw[aen r1 hc];exact h1 H1 e1
def amq(ha:vo aj X W a ta):vo aj X W (.UnaryOp .Not a pos) (ji ta):=
 PT.weak (pt_not ha) λσ H Q ⟨g,Z,M,I,h⟩=>j7.go I h.bnd λb H1 h1 e1=>h1 H1 e1
def QWt(aj:aK)(X:Cx)(W:WX)(e:Expr)(f:QT):Prop:=PW X e (j7 X.K aj W f)
def PW.weak{X:Cx}{e:Expr}{t t':TT}(h:PW X e t)(k:∀σ H Q,t' σ H Q->t σ H Q):PW X e t':=⟨λwh pins s σ H Q I q=>h.run wh pins s σ H Q I (k σ H Q q)⟩
def amc{rest:List Expr}(ha:vo aj X W a ta)(hb:QWt aj X W (.BoolOp .And (b::rest) pos) tb):QWt aj X W (.BoolOp .And (a::b::rest) pos) (gA ta tb):=
 PW.weak (pw_and ha hb) λσ H Q ⟨g,Z,M,I,h⟩=>by
  refine j7.go I h.bnd λx H1 h1 e1=>?_;cases x with
  |true=>exact⟨g,Z,M,I.ex e1,h1.mono (λb k H' e'=>k H' (e1.trans e')) λ_ z=>z.ex e1⟩
  |false=>exact h1 H1 e1
def aqn{rest:List Expr}(ha:vo aj X W a ta)(hb:QWt aj X W (.BoolOp .Or (b::rest) pos) tb):QWt aj X W (.BoolOp .Or (a::b::rest) pos) (Dr ta tb):=
 PW.weak (pw_or ha hb) λσ H Q ⟨g,Z,M,I,h⟩=>by
  refine j7.go I h.bnd λx H1 h1 e1=>?_;cases x with
  |true=>exact h1 H1 e1
  |false=>exact⟨g,Z,M,I.ex e1,h1.mono (λb k H' e'=>k H' (e1.trans e')) λ_ z=>z.ex e1⟩
def Vo(a:QF):QF:=ZP (ji (cV a))
def zm(a b:QF):QF:=λM Z=>(a M Z).bind λd=>(Ea d).bind λx=>if x=true then b M Z else .ok (.bool false)
def aiZ(a b:QF):QF:=λM Z=>(a M Z).bind λd=>(Ea d).bind λx=>if x=true then .ok (.bool true) else b M Z
def als(ha:QW aj X W a fa):QE aj X W (.UnaryOp .Not a pos) (Vo fa):=
 PE.weak (pe_not ha) λσ H Q ⟨g,Z,M,I,h⟩=>by
  refine tW.go I h.bnd.bnd.bnd λd v H1 h1 e1 r1=>?_;let⟨k,h2,h3⟩:=Hf r1 h1
  exact⟨k,h2,h3 _ H1 e1 (.bl _)⟩
def ak2{rest:List Expr}(ha:QE aj X W a fa)(hb:QE aj X W (.BoolOp .And (b::rest) pos) fb):QE aj X W (.BoolOp .And (a::b::rest) pos) (zm fa fb):=
 PE.weak (pe_and ha hb) λσ H Q ⟨g,Z,M,I,h⟩=>by
  refine tQ.go I h.bnd λd v H1 h1 e1 r1=>?_;let⟨k,h2,h3⟩:=Hf r1.weak h1.bnd
  refine⟨k,h2,?_⟩;cases k with
  |true=>exact⟨g,Z,M,I.ex e1,h3.mono (λb k v' H' e' r'=>k v' H' (e1.trans e') r') λ_ z=>z.ex e1⟩
  |false=>exact h3 _ H1 e1 (.bl false)
def ank{rest:List Expr}(ha:QE aj X W a fa)(hb:QE aj X W (.BoolOp .Or (b::rest) pos) fb):QE aj X W (.BoolOp .Or (a::b::rest) pos) (aiZ fa fb):=
 PE.weak (pe_or ha hb) λσ H Q ⟨g,Z,M,I,h⟩=>by
  refine tQ.go I h.bnd λd v H1 h1 e1 r1=>?_;let⟨k,h2,h3⟩:=Hf r1.weak h1.bnd
  refine⟨k,h2,?_⟩;cases k with
  |false=>exact⟨g,Z,M,I.ex e1,h3.mono (λb k v' H' e' r'=>k v' H' (e1.trans e') r') λ_ z=>z.ex e1⟩
  |true=>exact h3 _ H1 e1 (.bl true)
def aiD(hc:vo aj X W c ta)(ha:QE aj X W a fa)(hb:QE aj X W b fb):QE aj X W (.IfExp c a b pos) (Qa ta fa fb):=
 PE.weak (pe_ifExp hc ha hb) λσ H Q ⟨g,Z,M,I,h⟩=>by
  refine j7.go I h.bnd λx H1 h1 e1=>?_;cases x with
  |true=>exact⟨g,Z,M,I.ex e1,h1.mono (λb k v' H' e' r'=>k v' H' (e1.trans e') r') λ_ z=>z.ex e1⟩
  |false=>exact⟨g,Z,M,I.ex e1,h1.mono (λb k v' H' e' r'=>k v' H' (e1.trans e') r') λ_ z=>z.ex e1⟩
def o7(o o':Dat->Dat->Out Dat)(a b c:QF):QT:=λM Z=>(a M Z).bind λx=>(b M Z).bind λy=>(o x y).bind λz=>(Ea z).bind λk=>if k=true then(c M Z).bind λw=>(o' y w).bind Ea else .ok false
def ace{r r':R2}{o o':Dat->Dat->Out Dat}(ho:sU aj X.K W o r)(ho':sU aj X.K W o' r'){σ:L2.St}{H:Hp}{Q:VK}{P:Bool->Hp->Prop}(hP:∀k H',P k H'->Q (.bl k) H')(h:j7 X.K aj W (o7 o o' fa fb fc) σ H P):tChain r r' (tW X.K aj W fa) (tW X.K aj W fb) (tW X.K aj W fc) σ H Q:=by
 let⟨g,Z,M,I,h⟩:=h
 refine tW.go I h.bnd λd v H1 h1 e1 r1=>?_;have I1:=I.ex e1;refine tW.go I1 (h1.bnd.mono (λ_ z=>z) λ_ z=>z.ex e1) λd2 v2 H2 h2 e2 r2=>?_;have I2:=I1.ex e2;have r1':=r1.ex e2 I1.kd;refine ho σ g H2 v v2 d d2 _ I2.kd r1' r2 (h2.bnd.mono (λz hz u H3 e3 r3=>?_) λ_ z=>(z.ex e1).ex e2);let⟨k,h4,h5⟩:=Hf r3.weak hz.bnd
 refine⟨k,h4,?_⟩;have I3:=I2.ex e3;have e13:=(e1.trans e2).trans e3;cases k with
 |false=>exact hP _ _ (h5 H3 e13)
 |true=>
  refine tW.go I3 (h5.bnd.mono (λ_ z=>z) λ_ z=>z.ex e13) λd4 v4 H4 h6 e4 r4=>?_;refine ho' σ g H4 v2 v4 d2 d4 _ (I3.ex e4).kd ((r2.ex e3 I2.kd).ex e4 I3.kd) r4 (h6.bnd.mono (λz hz u H5 e5 r5=>?_) λ_ z=>(z.ex e13).ex e4);let⟨k,rfl,h8⟩:=Hf r5.weak hz
  exact hP _ _ (h8 H5 ((e13.trans e4).trans e5))
def ajo{op op':CmpOp}{r r':R2}{o o':Dat->Dat->Out Dat}(hr:OpR X (compareOp op) r)(hr':OpR X (compareOp op') r')(ho:sU aj X.K W o r)(ho':sU aj X.K W o' r')(ha:QW aj X W a fa)(hb:QW aj X W b fb)(hc:QW aj X W c fc)(hm:lastMarks [op,op'] [b,c]=false) :
  vo aj X W (.Compare a [op,op'] [b,c] pos) (o7 o o' fa fb fc):=
 PT.weak (pt_chain hr hr' ha hb hc hm) λσ H Q h=>ace ho ho' (λk H' z=>⟨k,rfl,z⟩) h
def aiz{op op':CmpOp}{r r':R2}{o o':Dat->Dat->Out Dat}(hr:OpR X (compareOp op) r)(hr':OpR X (compareOp op') r')(ho:sU aj X.K W o r)(ho':sU aj X.K W o' r')(ha:QW aj X W a fa)(hb:QW aj X W b fb)(hc:QW aj X W c fc)(hm:lastMarks [op,op'] [b,c]=false) :
  QE aj X W (.Compare a [op,op'] [b,c] pos) (ZP (o7 o o' fa fb fc)):=
 PE.weak (pe_chain hr hr' ha hb hc hm) λσ H Q ⟨g,Z,M,I,h⟩=>ace (P:=λb H1=>Q (.bl b) H1) ho ho' (λk H' z=>z) ⟨g,Z,M,I,h.bnd.mono (λb h1 H' e'=>h1 _ H' e' (.bl b)) λ_ z=>z⟩
end
def yM:Dat->Dat->Out Dat
 |.list ds,.int i=>match atI ds i with
  |some d=>.ok d
  |none=>.bad
 |.tuple ds,.int i=>match atI ds i with
  |some d=>.ok d
  |none=>.bad
 |.str z,.int i=>Out.when (decide (z.length<=100000)) (match atI z.cps.toList i with
  |some c=>.ok (.str ⟨(List.toArray [c])⟩)
  |none=>.bad)
 |_,_=>.bad
def adt{K:avC}{g:Gh}{H:Hp}{us:List V}{ds:List Dat}{i:Int}{d:Dat}(h:aA K g H us ds)(e:atI ds i=some d):∃v,atI us i=some v/\Rep K g H v d:=by
 unfold atI at e |-
 rw[h.length];cases hj:ixN ds.length i with
 |none=>rw[hj]at e;cases e
 |some j=>
  rw[hj]at e;let⟨v,h1,h2⟩:=h.get (i:=j) e
  exact⟨v,h1,h2⟩
def amK(K:avC):R2:=λx y H Q=>rIxL K x y H Q\/rIxT K x y H Q\/rIxS x y H Q
def aqO{X:Cx}:IxR X (amK X.K):=λvalue slice pins s σ H x y v u Q I rx ry h hs=>by
 rcases h with h|h|h
 .exact ix_list value slice pins s σ H x y v u Q I rx ry h hs
 .exact ix_tup value slice pins s σ H x y v u Q I rx ry h hs
 .exact ix_str value slice pins s σ H x y v u Q I rx ry h hs
def apW{K:avC}{aj:aK}{W:WX}:sU aj K W yM (amK K):=λσ g H x y d e Q k rx ry h=>by
 unfold yM at h;left
 .left
  .next z hz=>
   let⟨p,us,rfl,h1,h2⟩:=fX rx
   let⟨v,h3,h4⟩:=adt h2 hz
   exact .inl ⟨p,us,_,v,rfl,cA ry,h1,h3,h v H (Ex.refl H) h4⟩
  .exact awN h
 .left
  .next z hz=>
   let⟨p,us,rfl,h1,h2⟩:=nJ rx
   let⟨v,h3,h4⟩:=adt h2 hz
   exact .inr (.inl ⟨p,us,_,v,rfl,cA ry,h1,h3,h v H (Ex.refl H) h4⟩)
  .exact awN h
 .let⟨hl,h⟩:=h.kJ
  left
  .next c hz=>exact .inr (.inr ⟨_,_,c,fW rx,cA ry,sz_of (awP hl),hz,h _ H (Ex.refl H) (.str _)⟩)
  .exact awN h
 .exact awN h
def cutD{α:Type}(xs:List α)(lo hi:Option Int):List α:=(xs.drop (HT.sIx xs.length 0 lo)).take (HT.sIx xs.length xs.length hi-HT.sIx xs.length 0 lo)
abbrev QO:=Mo->Env->Out (Option Int)
def Fp:QO:=λ_ _=>.ok none
def DK:Dat->Out Int
 |.int i=>.ok i
 |_=>.bad
def sE(a:QF):QO:=λM Z=>(a M Z).bind λd=>(DK d).bind λi=>.ok (some i)
def slD(d:Dat)(lo hi:Option Int):Out Dat:=
 match d with
 |.list ds=>.ok (.list (cutD ds lo hi))
 |.tuple ds=>.ok (.tuple (cutD ds lo hi))
 |.str z=>Out.when (decide (z.length<=100000)) (.ok (.str (cutS z lo hi)))
 |_=>.bad
def R5(a:QF)(lo hi:QO):QF:=λM Z=>(a M Z).bind λd=>(lo M Z).bind λl=>(hi M Z).bind λh=>slD d l h
def tQO(K:avC)(aj:aK)(W:WX)(f:QO):TO:=λσ H Q=>∃g Z M,SInv K aj σ H g Z M/\(f M Z).sat (λo=>∀H',Ex H H'->Q o H') (sH K aj W g H σ)
def QOe(aj:aK)(X:Cx)(W:WX)(e:Option Expr)(f:QO):Prop:=PO X e (tQO X.K aj W f)
def amd(K:avC):V->Option Int->Option Int->Hp->VK->Prop:=λx lo hi H Q=>rSlL K x lo hi H Q\/rSlA K x lo hi H Q\/rSlS x lo hi H Q
def arb{X:Cx}:SlR X (amd X.K):=λpins s σ H x v vl vu lo hi sl Q I rx hs pl pu h=>by
 rcases h with h|h|h
 .exact sl_list pins s σ H x v vl vu lo hi sl Q I rx hs pl pu h
 .exact sl_tupA pins s σ H x v vl vu lo hi sl Q I rx hs pl pu h
 .exact sl_str pins s σ H x v vl vu lo hi sl Q I rx hs pl pu h
def ap3{K:avC}{g:Gh}{H:Hp}{x:V}{d:Dat}{lo hi:Option Int}{Q:VK}{E:dX->Prop}(k:Kd g H)(rx:dW K g H x d)(h:(slD d lo hi).sat (λz=>∀v H',Ex H H'->Rep K g H' v z->Q v H') E):amd K x lo hi H Q:=by
 unfold slD at h;have hc:∀{us:List V} {ds:List Dat},aA K g H us ds->aA K g H (cutV us lo hi) (cutD ds lo hi):=λ{us ds} t=>by
  unfold cutV cutD;rw[t.length];exact(t.drop _).take _
 left
 .let⟨p,us,rfl,h1,h2⟩:=fX rx
  exact .inl ⟨p,us,rfl,h1,λq nq=>h _ _ (Ex.new nq) (.lst (.inl ⟨.inl awU,k.fresh nq⟩) ((hc h2).ex (Ex.new nq) k))⟩
 .next ds=>
  let⟨p,us,rfl,h1,h2⟩:=nJ rx
  refine .inr (.inl ⟨p,us,rfl,h1,λz=>?_,λ_ q nq=>h _ _ (Ex.new nq) (.tup (st_of awU) ((hc h2).ex (Ex.new nq) k))⟩);have e:cutD ds lo hi=ds:=by unfold cutD;rw[<-h2.length,z.1,z.2,h2.length];simp
  rw[e]at h;exact h _ H (Ex.refl H) (.tup h1 h2)
 .let⟨hz,h⟩:=h.kJ
  exact .inr (.inr ⟨_,fW rx,sz_of (awP hz),h _ H (Ex.refl H) (.str _)⟩)
 .exact awN h
section
variable{X:Cx}{aj:aK}{W:WX}{a b:Expr}{fa fb:QF}{pos p2:Pos}
def apK(ha:QW aj X W a fa)(hb:QW aj X W b fb)(hs:PlainIx b):QE aj X W (.Subscript a b pos) (aH yM fa fb):=
 PE.weak (pe_ix aqO ha hb hs) λσ H Q h=>VN apW σ H Q h
def PO.weak{X:Cx}{e:Option Expr}{t t':TO}(h:PO X e t)(k:∀σ H Q,t' σ H Q->t σ H Q):PO X e t':=⟨λpins s σ H Q I q=>h.run pins s σ H Q I (k σ H Q q)⟩
def akN:QOe aj X W none Fp:=PO.weak po_none λσ H Q ⟨g,Z,M,I,h⟩=>h H (Ex.refl H)
def akV(ha:QW aj X W a fa):QOe aj X W (some a) (sE fa):=PO.weak (po_some ha) λσ H Q ⟨g,Z,M,I,h⟩=>by
 refine tW.go I h.bnd λd v H1 h1 e1 r1=>?_;have h1:=h1.bnd;unfold DK at h1;split at h1
 .exact⟨_,cA r1,h1 H1 e1⟩
 .exact awN h1
def ap0{lo hi:Option Expr}{fl fh:QO}(ha:QW aj X W a fa)(hl:QOe aj X W lo fl)(hh:QOe aj X W hi fh):QE aj X W (.Subscript a (.Slice lo hi none p2) pos) (R5 fa fl fh):=
 PE.weak (pe_slice arb ha hl hh) λσ H Q ⟨g,Z,M,I,h⟩=>by
  refine tW.go I h.bnd λd v H1 h1 e1 r1=>?_;have I1:=I.ex e1;refine⟨g,Z,M,I1,h1.bnd.mono (λl h2 H2 e2=>?_) λ_ z=>z.ex e1⟩;have I2:=I1.ex e2;refine⟨g,Z,M,I2,h2.bnd.mono (λu h3 H3 e3=>?_) λ_ z=>(z.ex e1).ex e2⟩;exact ap3 (I2.ex e3).kd ((r1.ex e2 I1.kd).ex e3 I2.kd) (h3.mono (λz hz v' H' e' r'=>hz v' H' (((e1.trans e2).trans e3).trans e') r') λ_ z=>z)
end
def Nm(aj:aK)(K:avC)(W:WX)(o:Dat->Out Dat)(r:List V->Hp->VK->Prop):Prop:=∀(σ:L2.St) (g:Gh) (H:Hp) (x:V) (d:Dat) (Q:VK),Kd g H->dW K g H x d->
 (o d).sat (λz=>∀v H',Ex H H'->Rep K g H' v z->Q v H') (sH K aj W g H σ)->r [x] H Q
def Fn2(aj:aK)(K:avC)(W:WX)(o:Dat->Dat->Out Dat)(r:List V->Hp->VK->Prop):Prop:=∀(σ:L2.St) (g:Gh) (H:Hp) (x y:V) (d e:Dat) (Q:VK),Kd g H->dW K g H x d->dW K g H y e->
 (o d e).sat (λz=>∀v H',Ex H H'->Rep K g H' v z->Q v H') (sH K aj W g H σ)->r [x,y] H Q
def BV(f:Value)(x:Str):Prop:=bootBuiltins x=some f/\x≠"__name__"/\(x==("__debug__" : Str))=false
def nst:Expr->Bool
 |.Starred _ _=>false
 |_=>true
section
variable{X:Cx}{aj:aK}{W:WX}{a b c:Expr}{fa fb fc:QF}{pos p:Pos}{x:Str}
def bH{env:PySem.Env}{a:Expr}(h:nst a=true)(es:List Expr):starEach (a::es) env=(false,eval a env)::starEach es env:=by cases a<;>first | rfl | cases h
theorem star_any{env:PySem.Env}{pos:Pos}:∀(es:List Expr),es.all nst=true->(backTo pos (starEach es env)).any (·.1)=false
 |[],_=>#[rfl]
 |a::es,h=>by
  rw[awf,avD]at h;rw[bH h.1];have ih:=star_any (env:=env) (pos:=pos) es h.2;unfold backTo at ih |-
  rw[List.map_cons,awz,ih];rfl
def ajF{f:Value}{id:String}{r:List V->Hp->VK->Prop}{o:Dat->Out Dat}(hf:f=.builtin id\/f=.type id)(hc:CallR X f r)(ho:Nm aj X.K W o r)(hg:Gl X x)(hm:X.mg x=none)(hv:BV f x)(ha:QW aj X W a fa)(hs:nst a=true):QE aj X W (.Call (.Name x p) [a] [] pos) (eZ o fa):=by
 have h1:=pa_cons ha pa_nil (bH hs []);have key:PE X (.Call (.Name x p) [a] [] pos) (tCB r (tCons (tW X.K aj W fa) tNil)):=by
  rcases hf with rfl|rfl
  .exact pe_callB hc hg hm hv.1 h1 hv.2.1 hv.2.2 (bH hs []) #[rfl]
  .exact pe_callTy hc hg hm hv.1 h1 hv.2.1 hv.2.2 (bH hs []) #[rfl]
 refine PE.weak key λσ H Q ⟨g,Z,M,I,h⟩=>?_;refine tW.go I h.bnd λd v H1 h1 e1 r1=>?_;exact ho σ g H1 v d Q (I.kd.ex e1) r1 (h1.mono (λz hz u H' e' r'=>hz u H' (e1.trans e') r') λ_ z=>z.ex e1)
def apF{f:Value}{id:String}{r:List V->Hp->VK->Prop}{o:Dat->Dat->Out Dat}(hf:f=.builtin id\/f=.type id)(hc:CallR X f r)(ho:Fn2 aj X.K W o r)(hg:Gl X x)(hm:X.mg x=none)(hv:BV f x)(ha:QW aj X W a fa)(hb:QW aj X W b fb)(hs:nst a=true)(hs2:nst b=true):QE aj X W (.Call (.Name x p) [a,b] [] pos) (aH o fa fb):=by
 have h1:=pa_cons ha (pa_cons hb pa_nil (bH hs2 [])) (bH hs [b]);have key:PE X (.Call (.Name x p) [a,b] [] pos) (tCB r (tCons (tW X.K aj W fa) (tCons (tW X.K aj W fb) tNil))):=by
  rcases hf with rfl|rfl
  .exact pe_callB hc hg hm hv.1 h1 hv.2.1 hv.2.2 (bH hs [b]) (star_any [b] (by simp[hs2]))
  .exact pe_callTy hc hg hm hv.1 h1 hv.2.1 hv.2.2 (bH hs [b]) (star_any [b] (by simp[hs2]))
 refine PE.weak key λσ H Q ⟨g,Z,M,I,h⟩=>?_;refine tW.go I h.bnd λd v H1 h1 e1 r1=>?_;have I1:=I.ex e1;refine tW.go I1 (h1.bnd.mono (λ_ z=>z) λ_ z=>z.ex e1) λd2 v2 H2 h2 e2 r2=>?_;exact ho σ g H2 v v2 d d2 Q (I1.ex e2).kd (r1.ex e2 I1.kd) r2 (h2.mono (λz hz u H' e' r'=>hz u H' ((e1.trans e2).trans e') r') λ_ z=>(z.ex e1).ex e2)
end
def qO:Dat->Out Dat
 |.list ds=>.ok (.int ds.length)
 |.tuple ds=>.ok (.int ds.length)
 |.str x=>Out.when (decide (x.length<=100000)) (.ok (.int x.length))
 |_=>.bad
def Yc:Dat->Out Dat
 |.int i=>.ok (.int (if i<0 then -i else i))
 |_=>.bad
def qU:Dat->Dat->Out Dat
 |.int i,.int j=>.ok (.int (if j>i then j else i))
 |_,_=>.bad
def Lz:Dat->Dat->Out Dat
 |.int i,.int j=>.ok (.int (if j<i then j else i))
 |_,_=>.bad
def intsOf:List Dat->Option (List Int)
 |[]=>some []
 |.int i::r=>(intsOf r).map (i::·)
 |_::_=>none
def wF:List Dat->Option (List Bool)
 |[]=>some []
 |.bool i::r=>(wF r).map (i::·)
 |_::_=>none
theorem yX{K:avC}{g:Gh}{H:Hp}:∀{us:List V} {ds:List Dat} {ns:List Int},aA K g H us ds->intsOf ds=some ns->us=ns.map V.int
 |_,_,ns,.nil,e=>by cases e;rfl
 |_,_,ns,.cons (d:=d) (ds:=ds) h t,e=>by
  cases d with
  |int i=>
   rw[intsOf]at e;cases hr:intsOf ds with
   |none=>rw[hr]at e;cases e
   |some r=>
    rw[hr]at e;cases e;cases h;rw[yX t hr];rfl
  |_=>cases e
theorem O9{K:avC}{g:Gh}{H:Hp}:∀{us:List V} {ds:List Dat} {ns:List Bool},aA K g H us ds->wF ds=some ns->us=ns.map V.bl
 |_,_,ns,.nil,e=>by cases e;rfl
 |_,_,ns,.cons (d:=d) (ds:=ds) h t,e=>by
  cases d with
  |bool i=>
   rw[wF]at e;cases hr:wF ds with
   |none=>rw[hr]at e;cases e
   |some r=>
    rw[hr]at e;cases e;cases h;rw[O9 t hr];rfl
  |_=>cases e
@[simp]def El (ns:List Int):intsOf (ns.map PyData.int)=some ns:=by
 induction ns with
 |nil=>rfl
 |cons n ns ih=>rw[List.map_cons,intsOf,ih];rfl
@[simp]def Hh (ns:List Bool):wF (ns.map PyData.bool)=some ns:=by
 induction ns with
 |nil=>rfl
 |cons n ns ih=>rw[List.map_cons,wF,ih];rfl
def Yb:Dat->Out Dat
 |.list ds=>match intsOf ds with
  |some ns=>.ok (.int ns.sum)
  |none=>.bad
 |_=>.bad
def Jh:Int->List Int->Int
 |m,[]=>m
 |m,n::ns=>Jh (if n>m then n else m) ns
theorem Zk:∀(ns:List Int) (m:Int),(Jh m ns∈m::ns)/\∀y∈m::ns,y<=Jh m ns
 |[],m=>⟨by simp[Jh],λy h=>by simp at h;subst h;exact Int.le_refl _⟩
 |n::ns,m=>by
  let⟨h1,h2⟩:=Zk ns (if n>m then n else m)
  have hm:m<=(if n>m then n else m):=by split<;>omega
  have hn:n<=(if n>m then n else m):=by split<;>omega
  have h3:=h2 _ avI;refine⟨?_,λy hy=>?_⟩
  .show Jh (if n>m then n else m) ns∈_;rcases avP.mp h1 with e|e
   .rw[e];split
    .exact avG _ avI
    .exact avI
   .exact avG _ (avG _ e)
  .show y<=Jh (if n>m then n else m) ns;rcases avP.mp hy with e|hy
   .omega
   .rcases avP.mp hy with e|hy
    .omega
    .exact h2 y (avG _ hy)
def maxD:Dat->Out Dat
 |.list ds=>match intsOf ds with
  |some (n::ns)=>.ok (.int (Jh n ns))
  |_=>.bad
 |_=>.bad
def T8:Dat->Out Dat
 |.list ds=>match wF ds with
  |some bs=>.ok (.bool (bs.all id))
  |none=>.bad
 |_=>.bad
def Uk:Dat->Out Dat
 |.list ds=>match wF ds with
  |some bs=>.ok (.bool (bs.any id))
  |none=>.bad
 |_=>.bad
def m7:Dat->Out Dat
 |.list ds=>.ok (.tuple ds)
 |.tuple ds=>.ok (.tuple ds)
 |_=>.bad
def Ig:Dat->Out Dat
 |.list ds=>.ok (.list ds)
 |.tuple ds=>.ok (.list ds)
 |_=>.bad
def intD:Dat->Out Dat
 |.int i=>.ok (.int i)
 |.bool k=>.ok (.int (if k then 1 else 0))
 |.str x=>Out.when (decide (x.length<=640)) (match PySem.intText? x with
  |some n=>.ok (.int n)
  |none=>.bad)
 |_=>.bad
def aj1(K:avC):List V->Hp->VK->Prop:=λxs H Q=>(∃p ys,xs=[.ref p]/\(SqL K H p ys\/SqT K H p ys)/\Q (.int ys.length) H)\/∃z,xs=[.str z]/\z.length<=sizeLine/\Q (.int z.length) H
def anh{X:Cx}:CallR X (.builtin "len") (aj1 X.K):=λpins s σ H xs us Q I r h=>h.elim (λh=>call_len_seq pins s σ H xs us Q I r h) λh=>call_len_str pins s σ H xs us Q I r h
def ajV:List V->Hp->VK->Prop:=λxs H Q=>((∃i,xs=[.int i]/\Q (.int i) H)\/∃k,xs=[.bl k]/\Q (.int (if k then 1 else 0)) H)\/∃a n,xs=[.str a]/\PySem.intText? a=some n/\a.length<=640/\Q (.int n) H
def aos{X:Cx}:CallR X (.type "int") ajV:=λpins s σ H xs us Q I r h=>h.elim (λh=>call_int1 pins s σ H xs us Q I r h) λh=>call_int_str pins s σ H xs us Q I r h
section
variable{K:avC}{aj:aK}{W:WX}
def anP:Nm aj K W qO (aj1 K):=λσ g H x d Q k rx h=>by
 unfold qO at h;left
 .let⟨p,us,rfl,h1,h2⟩:=fX rx
  rw[<-h2.length]at h;exact .inl ⟨p,us,rfl,.inl h1,h _ H (Ex.refl H) (.int _)⟩
 .let⟨p,us,rfl,h1,h2⟩:=nJ rx
  rw[<-h2.length]at h;exact .inl ⟨p,us,rfl,.inr h1,h _ H (Ex.refl H) (.int _)⟩
 .let⟨hz,h⟩:=h.kJ
  cases fW rx;exact .inr ⟨_,rfl,sz_of (awP hz),h _ H (Ex.refl H) (.int _)⟩
 .exact awN h
def anY:Nm aj K W Yc (λxs H Q=>∃i,xs=[.int i]/\Q (.int (if i<0 then -i else i)) H):=λσ g H x d Q k rx h=>by
 unfold Yc at h;left
 .cases cA rx;exact⟨_,rfl,h _ H (Ex.refl H) (.int _)⟩
 .exact awN h
def akR:Fn2 aj K W qU (λxs H Q=>∃i j,xs=[.int i,.int j]/\Q (.int (if j>i then j else i)) H):=λσ g H x y d e Q k rx ry h=>by
 unfold qU at h;left
 .cases cA rx;cases cA ry;exact⟨_,_,rfl,h _ H (Ex.refl H) (.int _)⟩
 .exact awN h
def ala:Fn2 aj K W Lz (λxs H Q=>∃i j,xs=[.int i,.int j]/\Q (.int (if j<i then j else i)) H):=λσ g H x y d e Q k rx ry h=>by
 unfold Lz at h;left
 .cases cA rx;cases cA ry;exact⟨_,_,rfl,h _ H (Ex.refl H) (.int _)⟩
 .exact awN h
def amO:Nm aj K W Yb (rSum K):=λσ g H x d Q k rx h=>by
 unfold Yb at h;left
 .left
  .next ns e=>
   let⟨p,us,rfl,h1,h2⟩:=fX rx
   have:=yX h2 e;subst this;exact⟨p,ns,rfl,h1,h _ H (Ex.refl H) (.int _)⟩
  .exact awN h
 .exact awN h
def anZ:Nm aj K W maxD (rMax K):=λσ g H x d Q k rx h=>by
 unfold maxD at h;left
 .left
  .next n ns e=>
   let⟨p,us,rfl,h1,h2⟩:=fX rx
   have:=yX h2 e;subst this;let⟨m1,m2⟩:=Zk ns n
   refine⟨p,n::ns,rfl,h1,by simp,λm hm hy=>?_⟩;have e2:m=Jh n ns:=Int.le_antisymm (m2 m hm) (hy _ m1);rw[e2];exact h _ H (Ex.refl H) (.int _)
  .exact awN h
 .exact awN h
def anm:Nm aj K W T8 (rAll K):=λσ g H x d Q k rx h=>by
 unfold T8 at h;left
 .left
  .next ns e=>
   let⟨p,us,rfl,h1,h2⟩:=fX rx
   have:=O9 h2 e;subst this;exact⟨p,ns,rfl,h1,h _ H (Ex.refl H) (.bl _)⟩
  .exact awN h
 .exact awN h
def ani:Nm aj K W Uk (rAny K):=λσ g H x d Q k rx h=>by
 unfold Uk at h;left
 .left
  .next ns e=>
   let⟨p,us,rfl,h1,h2⟩:=fX rx
   have:=O9 h2 e;subst this;exact⟨p,ns,rfl,h1,h _ H (Ex.refl H) (.bl _)⟩
  .exact awN h
 .exact awN h
def ajn:Nm aj K W m7 (λxs H Q=>∃p ys,xs=[.ref p]/\((SqL K H p ys/\∀l,H l=none->Q (.ref l) (upd H l (.tup ys)))\/(SqT K H p ys/\Q (.ref p) H))):=λσ g H x d Q k rx h=>by
 unfold m7 at h;left
 .let⟨p,us,rfl,h1,h2⟩:=fX rx
  exact⟨p,us,rfl,.inl ⟨h1,λl nl=>h _ _ (Ex.new nl) (.tup (st_of awU) (h2.ex (Ex.new nl) k))⟩⟩
 .let⟨p,us,rfl,h1,h2⟩:=nJ rx
  exact⟨p,us,rfl,.inr ⟨h1,h _ H (Ex.refl H) (.tup h1 h2)⟩⟩
 .exact awN h
def alU:Nm aj K W Ig (λxs H Q=>∃p ys,xs=[.ref p]/\(SqL K H p ys\/SqT K H p ys)/\∀l,H l=none->Q (.ref l) (upd H l (.lst ys))):=λσ g H x d Q k rx h=>by
 unfold Ig at h;left
 .let⟨p,us,rfl,h1,h2⟩:=fX rx
  exact⟨p,us,rfl,.inl h1,λl nl=>h _ _ (Ex.new nl) (.lst (.inl ⟨.inl awU,k.fresh nl⟩) (h2.ex (Ex.new nl) k))⟩
 .let⟨p,us,rfl,h1,h2⟩:=nJ rx
  exact⟨p,us,rfl,.inr h1,λl nl=>h _ _ (Ex.new nl) (.lst (.inl ⟨.inl awU,k.fresh nl⟩) (h2.ex (Ex.new nl) k))⟩
 .exact awN h
def aox:Nm aj K W intD ajV:=λσ g H x d Q k rx h=>by
 unfold intD at h;left
 .cases cA rx;exact .inl (.inl ⟨_,rfl,h _ H (Ex.refl H) (.int _)⟩)
 .cases Hq rx;exact .inl (.inr ⟨_,rfl,h _ H (Ex.refl H) (.int _)⟩)
 .let⟨hz,h⟩:=h.kJ
  left
  .next n e=>
   cases fW rx;exact .inr ⟨_,n,rfl,e,awP hz,h _ H (Ex.refl H) (.int _)⟩
  .exact awN h
 .exact awN h
end
inductive Qn where
 |int|bool|str|tuple|list
def Qn.name:Qn->String
 |.int=>"int"
 |.bool=>"bool"
 |.str=>"str"
 |.tuple=>"tuple"
 |.list=>"list"
def Di(t:Qn):Dat->Option Bool
 |.none=>some false
 |.int _=>some (match t with
  |.int=>true
  |_=>false)
 |.bool _=>some (match t with
  |.int=>true
  |.bool=>true
  |_=>false)
 |.str _=>some (match t with
  |.str=>true
  |_=>false)
 |.tuple _=>some (match t with
  |.tuple=>true
  |_=>false)
 |.list _=>some (match t with
  |.list=>true
  |_=>false)
 |.dict _=>none
def Ar(t:Qn)(d:Dat):Out Dat:=match Di t d with
 |some b=>.ok (.bool b)
 |none=>.bad
def ajj:Dat->String
 |.none=>"NoneType"
 |.int _=>"int"
 |.bool _=>"bool"
 |.str _=>"str"
 |.tuple _=>"tuple"
 |.list _=>"list"
 |.dict _=>"dict"
def aoa{K:avC}{H:Hp}{a:Addr}{xs:List V}(h:SqL K H a xs):TyX K H (.ref a) (.type "list"):=by
 rcases h with(h|⟨o,h⟩)|⟨o,its,n,h1,h2,_⟩
 .exact .base (.lst h)
 .exact .base (.frz h)
 .exact .kList h1 h2
def anQ{K:avC}{H:Hp}{a:Addr}{xs:List V}(h:SqT K H a xs):TyX K H (.ref a) (.type "tuple"):=by
 rcases h with(h|⟨o,h⟩)|⟨o,its,n,h1,h2,_⟩
 .exact .base (.tup h)
 .exact .fTuple h
 .exact .kTuple h1 h2
def aqg{K:avC}{g:Gh}{H:Hp}{x:V}{d:Dat}(h:dW K g H x d)(hd:∀kv,d≠.dict kv):TyX K H x (.type (ajj d)):=by
 cases d with
 |none=>cases Kv h;exact .base .non
 |bool b=>cases Hq h;exact .base (.bl _)
 |int b=>cases cA h;exact .base (.int _)
 |str b=>cases fW h;exact .base (.str _)
 |list b=>let⟨a,us,rfl,h1,_⟩:=fX h;exact aoa h1
 |tuple b=>let⟨a,us,rfl,h1,_⟩:=nJ h;exact anQ h1
 |dict kv=>exact absurd rfl (hd kv)
def alT{K:avC}{t:Qn}{d:Dat}{b:Bool}(h:Di t d=some b):PySem.W.kitOne K (.type (ajj d)) (.type t.name)=some b/\∀kv,d≠.dict kv:=by
 cases d with
 |dict kv=>cases h
 |_=>cases t<;>cases h<;>exact⟨kit_ty (by dsimp only[ajj,Qn.name];decide +kernel),λ_ z=>nomatch z⟩
def zJ(t:Qn)(a:QF):QF:=eZ (Ar t) a
section
variable{X:Cx}{aj:aK}{W:WX}{a b:Expr}{fa:QF}{pos p p2:Pos}{x y:Str}
def aoV{t:Qn}(hg:Gl X x)(hm:X.mg x=none)(hv:BV (.builtin "isinstance") x)(hg2:Gl X y)(hm2:X.mg y=none)(hv2:BV (.type t.name) y)(ha:QW aj X W a fa)(hs:nst a=true):QE aj X W (.Call (.Name x p) [a,.Name y p2] [] pos) (zJ t fa):=by
 have hb:PE X (.Name y p2) (tC (.ty t.name)):=pe_bltn hg2 hm2 hv2.1 rfl hv2.2.1 hv2.2.2;have h1:=pa_cons ha (pa_cons hb pa_nil (bH (a:=.Name y p2) rfl [])) (bH hs [.Name y p2]);have key:=pe_callB (pos:=pos) (p:=p) call_isi hg hm hv.1 h1 hv.2.1 hv.2.2 (bH hs [.Name y p2]) (star_any [.Name y p2] rfl);refine PE.weak key λσ H Q ⟨g,Z,M,I,h⟩=>?_;refine tW.go I h.bnd λd v H1 h1 e1 r1=>?_;unfold Ar at h1;split at h1
 .next bb e=>
  let⟨k1,k2⟩:=alT (K:=X.K) e
  exact⟨v,_,_,_,bb,rfl,.ty _,aqg r1 k2,k1,h1 _ H1 e1 (.bl _)⟩
 .exact awN h1
end
inductive Src where
 |lst (a:Addr)|tup (a:Addr)|str (x:Str)
def chars(x:Str):List V:=x.cps.toList.map λc=>V.str ⟨(List.toArray [c])⟩
def Src.sq(K:avC)(H:Hp)(us:List V):Src->Prop
 |.lst a=>SqL K H a us
 |.tup a=>SqT K H a us
 |.str x=>us=chars x
def Src.it(h:Heap)(i:Addr)(n:Nat):Src->Prop
 |.lst a=>h.IsListIter i a n
 |.tup a=>h.IsTupleIter i a n
 |.str x=>∃t,h.IsStrIter i (strIterType x) x t n
def Src.ad:Src->List Addr
 |.lst a=>[a]
 |.tup a=>[a]
 |.str _=>[]
section
variable{X:Cx}{pins:List (Addr×Obj)}{σ:L2.St}{H:Hp}{s:Shared}
def Src.inj{S:Src}{us ws:List V}(I:L2.Inv X pins σ H s)(h:S.sq X.K H us)(h':S.sq X.K H ws):us=ws:=by
 cases S with
 |lst a=>exact I.list_inj h h'
 |tup a=>exact I.tuple_inj h h'
 |str x=>exact Eq.trans h (Eq.symm h')
def Src.draws{S:Src}{us:List V}{i:Addr}{n:Nat}(I:L2.Inv X pins σ H s)(hA:X.A.handled=none)(hs:S.sq X.K H us)(hi:S.it s.heap i n)(hne:∀a∈S.ad,a≠i) :
  ∃(P:Nat->Value->Prop) (St:Nat->Heap->Prop),Draws X.prog X.w X.A.in1 i (i::S.ad) us.length P St/\St n s.heap/\(∀m h,St m h->S.it h i m)/\∀(m:Nat) (v:Value) (x:V),P m v->us[m]?=some x->RelV x v:=by
 cases S with
 |lst a=>
  let⟨its,rv,p,hz⟩:=I.list hs
  have hl:=rv.length;have D:=Draws.list (prog:=X.prog) (w:=X.w) (A:=X.A.in1) hA i a (hne a (by simp[Src.ad])) its.toArray;rw[List.size_toArray,<-hl]at D;refine⟨_,_,D,⟨hi,p.isList⟩,λm h z=>z.1,λm v x hv hx=>?_⟩;let⟨u,hu,ru⟩:=rv.get hx
  have:v=u:=av0 (hv.symm.trans (by simpa using hu));rw[this];exact ru
 |tup a=>
  let⟨its,rv,p,hz⟩:=I.tuple hs
  have hl:=rv.length;have D:=Draws.tuple (prog:=X.prog) (w:=X.w) (A:=X.A.in1) hA i a (hne a (by simp[Src.ad])) its.toArray;rw[List.size_toArray,<-hl]at D;refine⟨_,_,D,⟨hi,p⟩,λm h z=>z.1,λm v x hv hx=>?_⟩;let⟨u,hu,ru⟩:=rv.get hx
  have:v=u:=av0 (hv.symm.trans (by simpa using hu));rw[this];exact ru
 |str x=>
  let⟨t,hi⟩:=hi
  have hl:us.length=x.cps.size:=by rw[show us=chars x from hs];unfold chars;rw[avN,awd]
  have D:=Draws.text (prog:=X.prog) (w:=X.w) (A:=X.A.in1) hA i x t;rw[<-hl]at D;refine⟨_,_,D,hi,λm h z=>⟨t,z⟩,λm v y hv hy=>?_⟩;let⟨c,u,hc,rfl⟩:=hv
  rw[show us=chars x from hs]at hy;unfold chars at hy;rw[avQ,awj,hc]at hy;cases hy;exact⟨u,rfl⟩
def Src.Q9{S:Src}{h:Heap}{i:Addr}{n:Nat}(hi:S.it h i n):∃o,h.get? i=some o/\∀v,o.data≠.cell v:=by
 cases S with
 |lst a=>let⟨o,e,_,d⟩:=hi;exact⟨o,e,λv q=>by rw[d]at q;cases q⟩
 |tup a=>let⟨o,e,_,d⟩:=hi;exact⟨o,e,λv q=>by rw[d]at q;cases q⟩
 |str x=>let⟨t,o,e,_,d⟩:=hi;exact⟨o,e,λv q=>by rw[d]at q;cases q⟩
def Src.Rq{S:Src}{h h':Heap}{i:Addr}{n:Nat}(hi:S.it h i n)(k:∀o,h.get? i=some o->h'.get? i=some o):S.it h' i n:=by
 cases S with
 |lst a=>exact hi.at k
 |tup a=>exact hi.at k
 |str x=>let⟨t,o,e,r⟩:=hi;exact⟨t,o,k o e,r⟩
end
def ItE(K:avC)(S:Src)(k₀:Int):It:=
 ⟨λi H=>∃(us:List V) (x:V),S.sq K H us/\us[i]?=some x,λi H v H'=>∃T x,v=.ref T/\H T=none/\H'=upd H T (.tup [.int (k₀+(i:Int)),x])/\∀us,S.sq K H us->us[i]?=some x,λi H=>∃us:List V,S.sq K H us/\us.length=i⟩
def apx{P:Program}{w:World}{K:avC}{elts:List Expr}{kk:Nat}{tpos:Pos}(S:Src)(e i0:Addr)(k₀:Int)(hne:e≠i0)(ha:∀a∈S.ad,e≠a/\a≠i0) :
  Turn P w K (.Tuple elts kk tpos) (ItE K S k₀) [e,i0] e (λi h=>(∃old,IsEnum h e i0 (k₀+(i:Int)) old)/\S.it h i0 i) where
 mem:=by simp
 obj:=λi h st b hb=>by
  let⟨⟨old,he⟩,hi⟩:=st
  have e':b=e\/b=i0:=by simpa using hb
  rcases e' with z|z
  .rw[z];exact⟨_,he,λv q=>nomatch q⟩
  .rw[z];exact Src.Q9 hi
 keep:=λi h h' st k=>let⟨⟨old,he⟩,hi⟩:=st;⟨⟨old,k e (by simp) _ he⟩,Src.Rq hi λo q=>k i0 (by simp) o q⟩
 item:=by
  intro X hP hw hK hc i pins s σ H E I hf st hg;subst hP hw hK;let⟨⟨old,he⟩,hit⟩:=st
  let⟨us,x,hq,hx⟩:=hg
  let⟨PP,St,D,st0,stI,rel⟩:=Src.draws I (I.ok.hd hc) hq hit λa z=>(ha a z).2
  have hel:e<s.heap.objs.size:=Heap.lt_size he;have hil:i0<s.heap.objs.size:=by let⟨_,q,_⟩:=Src.Q9 hit;exact Heap.lt_size q
  have hin:i<us.length:=(avH.mp hx).1;refine wpAny_pyNext_enum_itemC D he st0 hin hne (λz=>?_) λv h' tk hP ho hst' hT hsz hk=>?_
  .rcases avP.mp z with z|z
   .exact hne z
   .exact(ha e z).1 rfl
  have ru:=rel i v x hP hx;refine⟨_,rfl,wpAny_letOwnedTupleGo_enum (s:={ s with heap:=h',toks:=tk+1 }) ho λh'' he' sb=>?_⟩;have hT2:h''.get? s.heap.objs.size=some { cls:=.type "tuple",data:=.seq (List.toArray [.int (k₀+(i:Int)) tk,v]) }:=(sb.2 _ (Nat.ne_of_gt hel)).trans hT
  have new:ObjOk X.prog X.w (upd H s.heap.objs.size (.tup [.int (k₀+(i:Int)),x])) h'' s.heap.objs.size (.tup [.int (k₀+(i:Int)),x]):=
   ⟨by show 2<=sizeLine;decide,[.int (k₀+(i:Int)) tk,v],.cons ⟨_,rfl⟩ (.cons ru .nil),⟨_,hT2,rfl,_,rfl⟩⟩
  have I1:L2.Inv X pins σ (upd H s.heap.objs.size (.tup [.int (k₀+(i:Int)),x])) { s with heap:=h'',toks:=tk+1 }:=
   I.turnedNew (ch:=[e,i0]) (λb ob hb q=>(sb.2 b (λz=>hb (by simp[z]))).trans (hk b ob (λz=>hb (by simp[z])) (λz=>hb (by simp[z])) q)) hf (avW _) new
  refine⟨.ref s.heap.objs.size,_,I1,rfl,⟨_,x,rfl,I.hok.fresh (avW _),rfl,λys hy=>by rw[Src.inj I hy hq];exact hx⟩,⟨⟨v,?_⟩,Src.Rq (stI _ _ hst') λo q=>(sb.2 i0 (Ne.symm hne)).trans q⟩,λb hb=>?_⟩
  .have e1:k₀+((i+1:Nat):Int)=k₀+(i:Int)+1:=#[];rw[e1];exact he'
  .have hb':b<s.heap.objs.size:=by
    have e':b=e\/b=i0:=by simpa using hb
    rcases e' with z|z
    .rw[z];exact hel
    .rw[z];exact hil
   rw[upd_ne (awb hb')];exact(hf b hb).1
 done:=by
  intro X hP hw hK hc i pins s σ H E I hf st hg;subst hP hw hK;let⟨⟨old,he⟩,hit⟩:=st
  let⟨us,hq,hx⟩:=hg
  let⟨PP,St,D,st0,stI,rel⟩:=Src.draws I (I.ok.hd hc) hq hit λa z=>(ha a z).2
  let⟨f0,f1,f2,f3,f4,f5⟩:=hf i0 (by simp)
  rw[<-hx]at st0;exact wpAny_pyNext_enum_endD D he st0 λh' eb=>⟨rfl,I.turned (t':=s.toks) (λb o hb q=>eb b o hb q) f0 f1 f3 f4 f5⟩
 self:=λA i s Q E st h=>let⟨⟨_,he⟩,_⟩:=st;wpAny_pyIter_enum he h
def Src.begins{X:Cx}{pins:List (Addr×Obj)}{σ:L2.St}{H:Hp}{s:Shared}{S:Src}{us:List V}{x:V}{v:Value}(I:L2.Inv X pins σ H s)(hs:S.sq X.K H us)(hx:(∃a,x=.ref a/\S.ad=[a]/\(S=.lst a\/S=.tup a))\/∃y,S=.str y/\x=.str y)(r:RelV x v) :
  ∃(o:Obj) (B:Heap->Prop),Begins v o B/\B s.heap/\(∀h i,h.get? i=some o->S.it h i 0)/\∀a∈S.ad,a<s.heap.objs.size:=by
 rcases hx with⟨a,rfl,ha,h|h⟩|⟨y,h,rfl⟩
 .subst h;cases r;let⟨its,rv,p,_⟩:=I.list hs
  let⟨o1,ho1,_⟩:=id p.isList
  refine⟨_,_,begins_list a its.toArray,p.isList,λh i e=>⟨_,e,rfl,rfl⟩,λb hb=>?_⟩;rw[ha]at hb;rw[avJ.mp hb];exact Heap.lt_size ho1
 .subst h;cases r;let⟨its,rv,p,_⟩:=I.tuple hs
  let⟨o1,ho1,_⟩:=id p
  refine⟨_,_,begins_tuple a its.toArray,p,λh i e=>⟨_,e,rfl,rfl⟩,λb hb=>?_⟩;rw[ha]at hb;rw[avJ.mp hb];exact Heap.lt_size ho1
 .subst h;let⟨t,rfl⟩:=r
  exact⟨_,_,begins_text y t,awM,λh i e=>⟨t,_,e,rfl,rfl⟩,λb hb=>nomatch hb⟩
def srcOf(x:V)(S:Src):Prop:=(∃a,x=.ref a/\S.ad=[a]/\(S=.lst a\/S=.tup a))\/∃y,S=.str y/\x=.str y
def iEn(K:avC)(ta:TA)(k₀:Int):TI:=λσ H R=>ta σ H λvs H1=>∃x S us,vs=[x]/\srcOf x S/\S.sq K H1 us/\R (ItE K S k₀) H1
section
variable{X:Cx}{a b:Expr}{ta tb:TA}{p pos tpos:Pos}{elts:List Expr}{kk:Nat}
def aop{pins:List (Addr×Obj)}{σ:L2.St}{H:Hp}{s:Shared}(I:L2.Inv X pins σ H s):∀b∈[s.heap.objs.size+1,s.heap.objs.size],FpOk X pins H b:=λb hb=>by
 have e':b=s.heap.objs.size+1\/b=s.heap.objs.size:=by simpa using hb
 have hle:s.heap.objs.size<=b:=by
  rcases e' with z|z
  .rw[z];exact Nat.le_add_right _ _
  .rw[z];exact avW _
 exact I.fpOk hle (I.hok.fresh hle)
def ajx{pins:List (Addr×Obj)}{σ:L2.St}{H:Hp}{s:Shared}{S:Src}{us:List V}{x:V}{v:Value}{o:Obj}{k₀:Int}{R:It->Hp->Prop}{h':Heap}(I:L2.Inv X pins σ H s)(hlt:∀a∈S.ad,a<s.heap.objs.size)(hit:∀h i,h.get? i=some o->S.it h i 0)
  (he:IsEnum h' (s.heap.objs.size+1) s.heap.objs.size k₀ .none) (ho:h'.get? s.heap.objs.size=some o) (hk:∀b o,s.heap.get? b=some o->h'.get? b=some o) (q:R (ItE X.K S k₀) H) :
  wpAny (model X.prog X.w) X.A (pyIter (.ref (s.heap.objs.size+1))) (PIE X pins σ (.Tuple elts kk tpos) R) X.xe { s with heap:=h' }:=by
 refine wpAny_pyIter_enum he ?_;have I2:L2.Inv X pins σ H { s with heap:=h' }:=I.kept (t':=s.toks) hk;refine⟨s.heap.objs.size+1,[s.heap.objs.size+1,s.heap.objs.size],_,_,H,rfl,I2,apx S (s.heap.objs.size+1) s.heap.objs.size k₀ (Nat.succ_ne_self _) (λa z=>?_),⟨⟨.none,?_⟩,hit _ _ ho⟩,aop I,q⟩
 .have:=hlt a z;exact⟨Nat.ne_of_gt (awA this),awb this⟩
 .rw[show k₀+((0:Nat):Int)=k₀ by simp];exact he
def aiH{v:Value}{o:Obj}{B:Heap->Prop}(hB:Begins v o B) :
  Meets (Builtin.«enumerate.__new__» ⟨[.type "enumerate",v],[]⟩) (λ_ R s=>B s.heap/\
   R (.ok (.ret (.ref (s.heap.push o).objs.size))) { s with heap:=(s.heap.push o).push { cls:=.type "enumerate",data:=.fields (List.toArray [.none,.bool false,.ref s.heap.objs.size,rawInt 0,.none,.none]) } }):=
 .of_wp λprog w A R s hh=>by
  let⟨hp,gs,dr,tk,os⟩:=s
  let⟨hb,hr⟩:=hh
  have hsub:=sub_enumerate;have qi:∀{A':Around} {E:Value->Shared->Prop} {Q:Value->Shared->Prop},Q (.ref hp.objs.size) ⟨hp.push o,gs,dr,tk,os⟩->wpAny (model prog w) A' (pyIter v) Q E ⟨hp,gs,dr,tk,os⟩:=λz=>hB.iter prog w _ _ ⟨hp,gs,dr,tk,os⟩ _ hb z
  wp_walk using qi
  refine wpAny_stack_any λst=>awR ?_;split
  .next c _ _ _ _ _=>
   cases(c==Value.type "enumerate")<;>(wp_walk using qi;exact⟨_,rfl,hr⟩)
  .wp_walk using qi
   exact⟨_,rfl,hr⟩
def agE{prog:Program}{w:World}{A:Around}{E:Value->Shared->Prop}{s:Shared}{v:Value}{o:Obj}{B:Heap->Prop}{Q:Value->Shared->Prop}(hB:Begins v o B)(hb:B s.heap)
  (h:∀h',IsEnum h' (s.heap.objs.size+1) s.heap.objs.size 0 .none->h'.get? s.heap.objs.size=some o->(∀b o,s.heap.get? b=some o->h'.get? b=some o)->Q (.ref (s.heap.objs.size+1)) { s with heap:=h' }) :
  wpAny (model prog w) A (call (.type "enumerate") [v]) Q E s:=by
 refine callType_new F.called_enumerate #[()] (F.typeCall_enumerate_1 _) (F.newCall_enumerate_1 _) (λob=>F.args_object_init_2 ob _) F.entry_enumerate_new (aiH hB) ⟨hb,?_⟩;have hz:(s.heap.push o).objs.size=s.heap.objs.size+1:=Heap.size_push ..;have he:=Heap.get?_push_size (s.heap.push o) (o:={ cls:=.type "enumerate",data:=.fields (List.toArray [.none,.bool false,.ref s.heap.objs.size,rawInt 0,.none,.none]) }) rfl
 show _/\_;rw[hz]at he |-
 exact⟨⟨_,he,rfl⟩,h _ he (Heap.get?_push_of_some _ (Heap.get?_push_size _ hB.free)) λb u z=>Heap.get?_push_of_some _ (Heap.get?_push_of_some _ z)⟩
def apJ(hg:Gl X "enumerate")(hm:X.mg "enumerate"=none)(ha:PA X [a] ta)(hs:nst a=true):PI X (.Tuple elts kk tpos) (.Call (.Name "enumerate" p) [a] [] pos) (iEn X.K ta 0):=by
 refine⟨λpins s σ H R I h=>?_⟩;refine Call_ (ld_blt I hg hm boot_enumerate (PyProof.Rows.callWith_type1 (thn (ha.run pos pins s σ H _ I h) λus s1 ⟨vs,H1,I1,r1,x,S,us',ev,hx,hq,q⟩=>?_) (bH hs []) #[rfl]));subst ev;let⟨v,rfl,r⟩:=vals1 r1
 let⟨o,B,hB,hb,hit,hlt⟩:=Src.begins I1 hq hx r
 exact agE hB hb λh' he ho hk=>ajx (x:=x) (v:=v) (us:=us') I1 hlt hit he ho hk q
def agh{M:Model}{A:Around}{E:Value->Shared->Prop}{s:Shared}{pos:Pos}{T:String}{args:List (Bool×Sem Value)}{kws:List (Option Str×Sem Value)}{Q:Value->Shared->Prop}(h1:args.any (·.1)=false)(h2:kws.any (·.1.isNone)=false)
  (h:wpAny M A (evalArgs (.type T) true args kws) (λz s₁=>wpAny M A (call (.type T) z.pos z.kw) Q E s₁) E s):wpAny M A (callWith pos (.type T) [] args kws) Q E s:=by
 unfold callWith;refine awQ (wpAny_holding (wpAny_mono h (λz s₁ hz=>awQ (wpAny_standAt ?_)) λ_ _ y=>y));rw[h1,h2];refine awQ (awR ?_);exact awQ (wpAny_mono hz (λr s₂ hr=>awQ (wpAny_holding (wpAny_point (awR hr)))) λ_ _ y=>y)
def anF{k₀:Int}{j:Nat}{kp kp2:Pos}(hk0 : -(2^63)<=k₀)(hk1:k₀<2^63)(hg:Gl X "enumerate")(hm:X.mg "enumerate"=none)(ha:PA X [a] ta)(hs:nst a=true) :
  PI X (.Tuple elts kk tpos) (.Call (.Name "enumerate" p) [a] [⟨some "start",.Constant (.int k₀) j kp,kp2⟩] pos) (iEn X.K ta k₀):=by
 refine⟨λpins s σ H R I h=>?_⟩;have hpk:PK X [⟨some "start",.Constant (.int k₀) j kp,kp2⟩] (tCons (tC (.int k₀)) tNil):=pk_cons pe_int pk_nil
 refine wpAny_Call_Name_kw (ld_blt I hg hm boot_enumerate (agh (star_any [a] (by simp[hs])) #[rfl] ?_));refine PyProof.Rows.evalArgs_kw2 #[rfl] (thn (ha.run pos pins s σ H _ I h) λus s1 ⟨vs,H1,I1,r1,x,S,us',ev,hx,hq,q⟩=>?_) (by first | (rw[bH hs];done) | (rw[bH hs];rfl) | rw[bH hs]);refine thn (hpk.run pos pins s1 σ H1 (λzs H2=>zs=[.int k₀]/\H2=H1) I1 ⟨rfl,rfl⟩) λws s2 ⟨zs,H2,I2,r2,e1,e2⟩=>?_;subst ev e1 e2;let⟨v,rfl,r⟩:=vals1 r1
 let⟨w,rfl,t,rfl⟩:=vals1 r2
 let⟨o,B,hB,hb,hit,hlt⟩:=Src.begins I2 hq hx r
 exact enum_begins_start hB hb hk0 hk1 λh' he ho _ hk=>ajx (x:=x) (v:=v) (us:=us') I2 hlt hit he ho hk q
def ItZ(K:avC)(S T:Src):It:=
 ⟨λi H=>∃(us ws:List V) (x y:V),S.sq K H us/\T.sq K H ws/\us[i]?=some x/\ws[i]?=some y,λi H v H'=>∃U x y,v=.ref U/\H U=none/\H'=upd H U (.tup [x,y])/\(∀us,S.sq K H us->us[i]?=some x)/\∀ws,T.sq K H ws->ws[i]?=some y,
  λi H=>∃us ws:List V,S.sq K H us/\T.sq K H ws/\i=min us.length ws.length⟩
def apt{P:Program}{w:World}{K:avC}{S T:Src}{N:Addr}(h1:∀a∈S.ad,a<N)(h2:∀a∈T.ad,a<N) :
  Turn P w K (.Tuple elts kk tpos) (ItZ K S T) [N+4,N+2,N+3,N,N+1] (N+4) (λn h=>IsZip h (N+4) (N+2) (N+3) .none/\IsPair h (N+2) (.ref N) (.ref (N+1))/\(∃x y,IsPair h (N+3) x y)/\S.it h N n/\T.it h (N+1) n) where
 mem:=by simp
 obj:=λn h q c hc=>by
  let⟨gz,gI,⟨x,y,gO⟩,i1,i2⟩:=q
  simp![avP,av8,or_false]at hc;rcases hc with rfl|rfl|rfl|rfl|rfl
  .exact⟨_,gz,λv q=>nomatch q⟩
  .exact⟨_,gI,λv q=>nomatch q⟩
  .exact⟨_,gO,λv q=>nomatch q⟩
  .exact Src.Q9 i1
  .exact Src.Q9 i2
 keep:=λn h h' q k=>by
  let⟨gz,gI,⟨x,y,gO⟩,i1,i2⟩:=q
  exact⟨k _ (by simp) _ gz,k _ (by simp) _ gI,⟨x,y,k _ (by simp) _ gO⟩,Src.Rq i1 λo e=>k _ (by simp) o e,Src.Rq i2 λo e=>k _ (by simp) o e⟩
 item:=by
  intro X hP hw hK hc n pins s σ H E I hf q hg;subst hP hw hK;let⟨gz,gI,⟨x0,y0,gO⟩,i1,i2⟩:=q
  let⟨us,ws,x,y,qx,qy,hx,hy⟩:=hg
  let⟨P1,St1,D1,st1,b1,rel1⟩:=Src.draws I (I.ok.hd hc) qx i1 λa z=>awb (h1 a z)
  let⟨P2,St2,D2,st2,b2,rel2⟩:=Src.draws I (I.ok.hd hc) qy i2 λa z=>awb (awA (h2 a z))
  have hzl:N+4<s.heap.objs.size:=Heap.lt_size gz;refine wpAny_pyNext_zipD2_item (zip_sep2 h1 h2) D1 D2 gz gI gO st1 st2 (avH.mp hx).1 (avH.mp hy).1 λv1 v2 h' tk p1 p2 z' o' s1 s2 hT hsz hk=>?_;refine⟨_,rfl,wpAny_letOwnedTupleGo_zip (s:={ s with heap:=h',toks:=tk }) z' λh'' z'' sb=>?_⟩;have hT2:=(sb.2 _ (Nat.ne_of_gt hzl)).trans hT;have new:ObjOk X.prog X.w (upd H s.heap.objs.size (.tup [x,y])) h'' s.heap.objs.size (.tup [x,y]):=⟨by show 2<=sizeLine;decide,[v1,v2],.cons (rel1 n v1 x p1 hx) (.cons (rel2 n v2 y p2 hy) .nil),⟨_,hT2,rfl,_,rfl⟩⟩;have I1:L2.Inv X pins σ (upd H s.heap.objs.size (.tup [x,y])) { s with heap:=h'',toks:=tk }:=by refine I.turnedNew (t':=tk) (ch:=[N+4,N+2,N+3,N,N+1]) (λc o hb e=>?_) hf (avW _) new;simp![avP,av8,or_false,not_or]at hb;exact(sb.2 c hb.1).trans (hk c o hb.1 hb.2.2.1 hb.2.2.2.1 hb.2.2.2.2 e)
  have ne4:∀k,k≠4->N+k≠N+4:=λk hk z=>hk (awI z);refine⟨.ref s.heap.objs.size,_,I1,rfl,⟨_,x,y,rfl,I.hok.fresh (avW _),rfl,λl hl=>by rw[Src.inj I hl qx];exact hx,λl hl=>by rw[Src.inj I hl qy];exact hy⟩,⟨z'',?_,⟨v1,v2,?_⟩,?_,?_⟩,λc hcm=>?_⟩
  .exact(sb.2 _ (ne4 2 #[()])).trans (hk _ _ (ne4 2 #[()]) (λz=>absurd (awI z) #[()]) (λz=>absurd (awI (z.trans (Nat.add_zero N).symm)) #[()]) (λz=>absurd (awI z) #[()]) gI)
  .exact(sb.2 _ (ne4 3 #[()])).trans o'
  .exact Src.Rq (b1 _ _ s1) λo e=>(sb.2 _ (ne4 0 #[()])).trans e
  .exact Src.Rq (b2 _ _ s2) λo e=>(sb.2 _ (ne4 1 #[()])).trans e
  .have hlt:c<s.heap.objs.size:=by
    simp![avP,av8,or_false]at hcm;rcases hcm with rfl|rfl|rfl|rfl|rfl
    .exact hzl
    .exact Heap.lt_size gI
    .exact Heap.lt_size gO
    .let⟨_,e1,_⟩:=Src.Q9 i1
     exact Heap.lt_size e1
    .let⟨_,e2,_⟩:=Src.Q9 i2
     exact Heap.lt_size e2
   rw[upd_ne (awb hlt)];exact(hf c hcm).1
 done:=by
  intro X hP hw hK hc n pins s σ H E I hf q hg;subst hP hw hK;let⟨gz,gI,⟨x0,y0,gO⟩,i1,i2⟩:=q
  let⟨us,ws,qx,qy,hn⟩:=hg
  let⟨P1,St1,D1,st1,b1,rel1⟩:=Src.draws I (I.ok.hd hc) qx i1 λa z=>awb (h1 a z)
  let⟨P2,St2,D2,st2,b2,rel2⟩:=Src.draws I (I.ok.hd hc) qy i2 λa z=>awb (awA (h2 a z))
  refine wpAny_pyNext_zipD2_end (zip_sep2 h1 h2) D1 D2 gz gI gO st1 st2 #[] #[] #[] λh' tk hk=>⟨rfl,?_⟩;refine I.turnedL (t':=tk) (ch:=[N+4,N+2,N+3,N,N+1]) (λc o hb e=>?_) hf;simp![avP,av8,or_false,not_or]at hb;exact hk c o hb.1 hb.2.2.1 hb.2.2.2.1 hb.2.2.2.2 e
 self:=λA n s Q E q h=>wpAny_pyIter_zip q.1 h
def iZp(K:avC)(ta:TA):TI:=λσ H R=>ta σ H λvs H1=>∃x y S T us ws,vs=[x,y]/\srcOf x S/\srcOf y T/\S.sq K H1 us/\T.sq K H1 ws/\R (ItZ K S T) H1
def aql(hg:Gl X "zip")(hm:X.mg "zip"=none)(ha:PA X [a,b] ta)(hs:nst a=true)(hs2:nst b=true):PI X (.Tuple elts kk tpos) (.Call (.Name "zip" p) [a,b] [] pos) (iZp X.K ta):=by
 refine⟨λpins s σ H R I h=>?_⟩;refine Call_ (ld_blt I hg hm PyProof.Rows.boot_zip (PyProof.Rows.callWith_type1 (thn (ha.run pos pins s σ H _ I h) λus s1 ⟨vs,H1,I1,r1,x,y,S,T,us',ws',ev,hx,hy,hq,hq2,q⟩=>?_) (bH hs [b]) (star_any [b] (by simp[hs2]))));subst ev;let⟨v1,v2,rfl,rv1,rv2⟩:=vals2 r1
 let⟨o1,B1,hB1,hb1,hit1,hlt1⟩:=Src.begins I1 hq hx rv1
 let⟨o2,B2,hB2,hb2,hit2,hlt2⟩:=Src.begins I1 hq2 hy rv2
 refine zip_begins2 hB1 hB2 hb1 hb2 λh' hz hTI hTO e1 e2 hsz hk=>wpAny_pyIter_zip hz ?_;have I2:L2.Inv X pins σ H1 { s1 with heap:=h' }:=I1.kept (t':=s1.toks) hk;refine⟨s1.heap.objs.size+4,_,_,_,H1,rfl,I2,apt hlt1 hlt2,⟨hz,hTI,⟨_,_,hTO⟩,hit1 _ _ e1,hit2 _ _ e2⟩,λc hcm=>?_,q⟩;have hle:s1.heap.objs.size<=c:=by simp![avP,av8,or_false]at hcm;rcases hcm with rfl | rfl | rfl | rfl | rfl<;>first | exact avW _ | exact Nat.le_add_right _ _
 exact I1.fpOk hle (I1.hok.fresh hle)
end
section
variable{K:avC}{aj:aK}{q:Bool}{g g':Gh}{H H':Hp}{v:V}{d:Dat}{σ:L2.St}{Z:Env}{M:Mo}
theorem iD.up{l:Addr}:∀{n:Bool} {kvs:List (Dat×Dat)} (r:Gr true g g' H H') (e:Ex H H') (k:Kd g H) (h:iD K aj g H l n kvs),iD K aj g' H' l n kvs
 |false,_,r,e,k,⟨kv,h1,h2,h3⟩=>⟨kv,e _ _ h1,h2,h3.gr r k⟩
 |true,_,r,e,k,⟨o,xs,vs,h1,h2,h3,h4,h5,h6⟩=>⟨o,xs,vs,e _ _ h1,h2,h3,h4.gr r k,h5,h6.gr r k⟩
theorem eX.up{h:Nat}{f:Str}(r:Gr true g g' H H')(e:Ex H H')(k:Kd g H):∀{fl:jD},eX K aj g H h f v fl->eX K aj g' H' h f v fl
 |.dat _,z=>Rep.gr r k z
 |.lst _ _,⟨l,us,h1,h2,h3,h4,h5⟩=>⟨l,us,h1,e _ _ h2,by rw[(r.qg rfl).2];exact h3,h4.gr r k,r.tb h5⟩
 |.dic _ _,⟨l,h1,h2,h3⟩=>⟨l,h1,by rw[(r.qg rfl).2];exact h2,h3.up r e k⟩
theorem cH.up{h:Nat}(r:Gr true g g' H H')(e:Ex H H')(k:Kd g H):∀{fs:LsS V} {gs:LsS jD},cH K aj g H h fs gs->cH K aj g' H' h fs gs
 |_,_,.nil=>.nil
 |_,_,.cons z t=>.cons (eX.up r e k z) (cH.up r e k t)
theorem gM.up(r:Gr true g g' H H')(e:Ex H H')(k:Kd g H)(w:gM K aj g H M):gM K aj g' H' M where
 len:=by rw[(r.qg rfl).1];exact w.len
 inj:=by rw[(r.qg rfl).1];exact w.inj
 ins:=λh a i ha hi hc=>by
  rw[(r.qg rfl).1]at ha;let⟨C,dx,fs,c1,c2,c3⟩:=w.ins h a i ha hi hc
  exact⟨C,dx,fs,c1,e _ _ c2,c3.up r e k⟩
 nd:=w.nd
 fd:=w.fd
 tw:=by rw[(r.qg rfl).1,(r.qg rfl).2];exact w.tw
 dm:=w.dm
 nc:=w.nc
theorem SInv.up(r:Gr true g g' H H')(e:Ex H H')(k':Kd g' H')(I:SInv K aj σ H g Z M):SInv K aj σ H' g' Z M where
 kd:=k'
 wok:=I.wok.up r e I.kd
 len:=I.len
 dat:=λi d h=>by
  let⟨v,h1,h2⟩:=I.dat i d h
  exact⟨v,h1,h2.gr r I.kd⟩
 own:=λi xs h=>by
  let⟨l,us,h1,h2,h3,h4⟩:=I.own i xs h
  exact⟨l,us,h1,e _ _ h2,r.Lo l h3,h4.gr r I.kd⟩
 sep:=I.sep
def Gh.add(g:Gh)(D:Addr):Gh:={ g with Lo:=λa=>g.Lo a\/a=D }
def Gh.Cy{D:Addr}(n:H D=none)(e:Ex H H'):Gr true g (g.add D) H H' where
 keep:=λa o h _ _=>e a o h
 keepW:=λ_ a o h _=>e a o h
 dom:=GD e
 tbl:=⟨[],by simp[Gh.add]⟩
 W:=λ_ h=>h
 nW:=λ_ h=>.inl h
 qg:=λ_=>⟨rfl,rfl⟩
 Lc:=rfl
 Lo:=λ_ h=>.inl h
 nLo:=λa h=>h.elim .inl λz=>.inr (by rw[z];exact n)
def Gh.amf{D:Addr}{o:HO}(k:Kd g H)(n:H D=none)(e:Ex H H')(hD:H' D=some o)(m:Jr o):Kd (g.add D) H' where
 ob:=λa z=>by
  rcases z with z|z|z|z
  .let⟨o,h,m⟩:=k.ob a (.inl z);exact⟨o,e a o h,m⟩
  .let⟨o,h,m⟩:=k.ob a (.inr (.inl z));exact⟨o,e a o h,m⟩
  .let⟨o,h,m⟩:=k.ob a (.inr (.inr z));exact⟨o,e a o h,m⟩
  .rw[z];exact⟨o,hD,m⟩
 lo:=λa z=>by
  rcases z with z|z
  .exact k.lo a z
  .intro w;subst z;exact k.fresh n (.inl w)
 lc:=λa z=>⟨(k.lc a z).1,λy=>y.elim (k.lc a z).2 λy=>by subst y;exact k.fresh n (.inr (.inl z))⟩
theorem SInv.add{D:Addr}{o:HO}(I:SInv K aj σ H g Z M)(n:H D=none)(e:Ex H H')(hD:H' D=some o)(m:Jr o):SInv K aj σ H' (g.add D) Z M:=
 I.up (Gh.Cy n e) e (Gh.amf I.kd n e hD m)
theorem SInv.set{j:Nat}(I:SInv K aj σ H g Z M)(r:Rep K g H v d):SInv K aj (σ.set j (some v)) H g (Z.set j #[d]) M where
 kd:=I.kd
 wok:=I.wok
 len:=by rw[av4,av4];exact I.len
 dat:=λi e h=>by
  by_cases z:j=i
  .subst z;have hj:j<Z.length:=by
    have:=(avH.mp h).1;rw[av4]at this;exact this
   rw[avV hj]at h;cases h;exact⟨v,by rw[avV (by rw[I.len];exact hj)],r⟩
  .rw[avL z]at h;let⟨u,h1,h2⟩:=I.dat i e h
   exact⟨u,by rw[avL z];exact h1,h2⟩
 own:=λi xs h=>by
  by_cases z:j=i
  .subst z;have hj:j<Z.length:=by
    have:=(avH.mp h).1;rw[av4]at this;exact this
   rw[avV hj]at h;cases h
  .rw[avL z]at h;let⟨l,us,h1,h2⟩:=I.own i xs h
   exact⟨l,us,by rw[avL z];exact h1,h2⟩
 sep:=λi k xs ys l ne h1 h2 h3=>by
  have nj:∀{i:Nat} {xs:List Dat},(Z.set j #[d])[i]?=some (some (.mut xs))->j≠i:=λ{i xs} h z=>by
   subst z;have hj:j<Z.length:=by have:=(avH.mp h).1;rw[av4]at this;exact this
   rw[avV hj]at h;cases h
  have n1:=nj h1;have n2:=nj h2;rw[avL n1]at h1 h3;rw[avL n2]at h2;rw[avL n2];exact I.sep i k xs ys l ne h1 h2 h3
def SInv.forget{j:Nat}(I:SInv K aj σ H g Z M):SInv K aj (σ.set j none) H g (Z.set j none) M where
 kd:=I.kd
 wok:=I.wok
 len:=by rw[av4,av4];exact I.len
 dat:=λi e h=>by
  by_cases z:j=i
  .subst z;have hj:j<Z.length:=by
    have:=(avH.mp h).1;rw[av4]at this;exact this
   rw[avV hj]at h;cases h
  .rw[avL z]at h |-
   exact I.dat i e h
 own:=λi xs h=>by
  by_cases z:j=i
  .subst z;have hj:j<Z.length:=by
    have:=(avH.mp h).1;rw[av4]at this;exact this
   rw[avV hj]at h;cases h
  .rw[avL z]at h |-
   exact I.own i xs h
 sep:=λi k xs ys l ne h1 h2 h3=>by
  have nj:∀{i:Nat} {xs:List Dat},(Z.set j none)[i]?=some (some (.mut xs))->j≠i:=λ{i xs} h z=>by
   subst z;have hj:j<Z.length:=by have:=(avH.mp h).1;rw[av4]at this;exact this
   rw[avV hj]at h;cases h
  have n1:=nj h1;have n2:=nj h2;rw[avL n1]at h1 h3;rw[avL n2]at h2;rw[avL n2];exact I.sep i k xs ys l ne h1 h2 h3
def bQ(Z:Env):List Nat->Env
 |[]=>Z
 |j::js=>(bQ Z js).set j none
theorem SInv.wipe(I:SInv K aj σ H g Z M):∀vs:List Nat,SInv K aj (L2.wipe σ vs) H g (bQ Z vs) M
 |[]=>I
 |j::js=>(SInv.wipe I js).forget
end
abbrev dU:=Dat->Env->Option Env
def ao(j:Nat):dU:=λd Z=>some (Z.set j #[d])
def uP:List Nat->List Dat->Env->Option Env
 |[],[],Z=>some Z
 |j::js,d::ds,Z=>uP js ds (Z.set j #[d])
 |_,_,_=>none
def aV(js:List Nat):dU:=λd Z=>match d with
 |.tuple ds=>uP js ds Z
 |_=>none
def sets(σ:L2.St):List Nat->List V->L2.St
 |j::js,v::vs=>sets (σ.set j (some v)) js vs
 |_,_=>σ
def zp(K:avC)(aj:aK)(js:List Nat)(f:dU):TG:=λv σ H Q=>∃g Z M d Z',SInv K aj σ H g Z M/\Rep K g H v d/\f d Z=some Z'/\∀vs,SInv K aj (sets σ js vs) H g Z' M->Q (sets σ js vs) H
def QG(aj:aK)(X:Cx)(tg:Expr)(js:List Nat)(f:dU):Prop:=PG X tg (zp X.K aj js f)
def PG.weak{X:Cx}{e:Expr}{t t':TG}(h:PG X e t)(k:∀v σ H Q,t' v σ H Q->t v σ H Q):PG X e t':=⟨λpins s σ H v u Q I r q=>h.run pins s σ H v u Q I r (k v σ H Q q)⟩
section
variable{X:Cx}{aj:aK}{pos:Pos}
def QX{j:Nat}{x:Str}(hN:X.N.Nodup)(hi:X.N[j]?=some x)(hx:Loc X.env.scope x)(hf:X.fn x=true\/X.env.scope.names.lookup x=some .local):QG aj X (.Name x pos) [j] (ao j):=
 PG.weak (pg_name hN hi hx hf) λv σ H Q ⟨g,Z,M,d,Z',I,r,e,q⟩=>by
  cases e;exact q [v] (I.set r)
def Vl(X:Cx):List Expr->List Nat->Prop
 |[],[]=>True
 |.Name x _::es,j::js=>X.N[j]?=some x/\Loc X.env.scope x/\(X.fn x=true\/X.env.scope.names.lookup x=some .local)/\Vl X es js
 |_,_=>False
def aje{es:List Expr}{js:List Nat}(h:Vl X es js):(assignEach es X.env).length=js.length/\(assignEach es X.env).findIdx? (·.1)=none:=by
 induction es generalizing js with
 |nil=>
  cases js with
  |nil=>exact⟨#[rfl],#[rfl]⟩
  |cons j js=>exact awN h
 |cons e es ih=>
  cases js with
  |nil=>cases e<;>exact awN h
  |cons j js=>
   cases e with
   |Name x p=>
    let⟨h1,h2⟩:=ih h.2.2.2
    have e1:assignEach (.Name x p::es) X.env=(false,assign (.Name x p) X.env)::assignEach es X.env:=#[rfl];rw[e1];refine⟨by simp[h1],?_⟩;rw[List.findIdx?_cons,h2];rfl
   |_=>exact awN h
def gNs(js:List Nat):TGs:=λvs σ H Q=>vs.length=js.length/\Q (sets σ js vs) H
theorem Zo(hN:X.N.Nodup):∀{es:List Expr} {js:List Nat},Vl X es js->PGs X es (gNs js)
 |[],[],_=>⟨λpins s σ H vs us Q I r h=>by
  let⟨e,h⟩:=h
  have:vs=[]:=List.length_eq_zero_iff.mp e;subst this;exact pgs_nil.run pins s σ H [] us Q I r ⟨rfl,h⟩⟩
 |.Name x p::es,j::js,h=>by
  have hp:=pgs_cons (pg_name (pos:=p) hN h.1 h.2.1 h.2.2.1) (Zo hN h.2.2.2) #[rfl];refine⟨λpins s σ H vs us Q I r hq=>?_⟩;let⟨e,hq⟩:=hq
  cases vs with
  |nil=>cases e
  |cons v vs=>exact hp.run pins s σ H (v::vs) us Q I r ⟨v,vs,rfl,awL e,hq⟩
 |[],_::_,h=>awN h
 |.Name _ _::_,[],h=>awN h
theorem Vc{K:avC}{g:Gh}{H:Hp}{M:Mo}:∀{js:List Nat} {ds:List Dat} {vs:List V} {σ:L2.St} {Z Z':Env},SInv K aj σ H g Z M->aA K g H vs ds->uP js ds Z=some Z'->vs.length=js.length/\SInv K aj (sets σ js vs) H g Z' M
 |[],_,_,_,_,_,I,.nil,e=>by cases e;exact⟨rfl,I⟩
 |[],_,_,_,_,_,I,.cons _ _,e=>by cases e
 |j::js,_,_,_,_,_,I,.nil,e=>by cases e
 |j::js,_,_,_,_,_,I,.cons r t,e=>by
  let⟨h1,h2⟩:=Vc (js:=js) (I.set (j:=j) r) t e
  exact⟨by simp[h1],h2⟩
def ahr{es:List Expr}{js:List Nat}{k:Nat}(hc:X.calm=true)(hN:X.N.Nodup)(h:Vl X es js):QG aj X (.Tuple es k pos) js (aV js):=by
 let⟨h1,h2⟩:=aje h
 refine PG.weak (pg_tup (n:=js.length) hc (Zo hN h) h1 h2) λv σ H Q ⟨g,Z,M,d,Z',I,r,e,q⟩=>?_;unfold aV at e;split at e
 .let⟨a,us,rfl,s1,t1⟩:=nJ r.weak
  let⟨l1,I1⟩:=Vc I t1 e
  exact⟨a,us,rfl,s1,l1,l1,q us I1⟩
 .cases e
theorem yH:∀(js:List Nat) (vs:List V) (σ:L2.St) (ws:List Nat),(∀j∈js,j∈ws)->L2.wipe (sets σ js vs) ws=L2.wipe σ ws
 |[],_,_,_,_=>by unfold sets;rfl
 |_::_,[],_,_,_=>by unfold sets;rfl
 |j::js,v::vs,σ,ws,h=>by
  show L2.wipe (sets (σ.set j (some v)) js vs) ws=_;rw[yH js vs _ ws λk hk=>h k (avG _ hk)];have hj:j∈ws:=h j avI;have key:∀(ws:List Nat) (σ:L2.St),j∈ws->L2.wipe (σ.set j (some v)) ws=L2.wipe σ ws:=by
   intro ws
   induction ws with
   |nil=>intro σ z;cases z
   |cons k ws ih=>
    intro σ z
    show(L2.wipe (σ.set j (some v)) ws).set k none=(L2.wipe σ ws).set k none
    by_cases hk:j∈ws
    .rw[ih σ hk]
    .have e:j=k:=by
      rcases avP.mp z with z|z
      .exact z
      .exact absurd z hk
     subst e;have comm:∀(ws:List Nat),j∉ws->L2.wipe (σ.set j (some v)) ws=(L2.wipe σ ws).set j (some v):=by
      intro ws
      induction ws with
      |nil=>intro _;rfl
      |cons m ws ih2=>
       intro hm
       show(L2.wipe (σ.set j (some v)) ws).set m none=((L2.wipe σ ws).set m none).set j (some v)
       rw[ih2 λz=>hm (avG _ z),List.set_comm _ _ (λz=>hm (by rw[z];exact avI))]
     rw[comm ws hk,List.set_set]
  exact key ws σ hj
end
structure Jw(K:avC)(J:It)(C:Gh->Hp->Prop)(ds:List Dat):Prop where
 go:∀g i H,C g H->i<ds.length->J.go i H
 yld:∀g i H x H' d,Kd g H->C g H->ds[i]?=some d->J.yld i H x H'->Ex H H'/\Rep K g H' x d
 stop:∀g i H,C g H->i=ds.length->J.stop i H
 ex:∀g H H',Kd g H->C g H->Ex H H'->C g H'
 add:∀g g' H H',Kd g H->C g H->Gr true g g' H H'->Ex H H'->C g' H'
def afj(C:Gh->Hp->Prop):Prop:=∀q g g' H H',Kd g H->C g H->Gr q g g' H H'->C g' H'
abbrev IF:=Mo->Env->Out (List Dat)
def tI(K:avC)(aj:aK)(W:WX)(firm:Bool)(f:IF):TI:=λσ H R=>∃g Z M,SInv K aj σ H g Z M/\(f M Z).sat (λds=>∀J C H',Ex H H'->Jw K J C ds->C g H'->(firm=true->afj C)->R J H') (sH K aj W g H σ)
def QI(aj:aK)(X:Cx)(W:WX)(firm:Bool)(tg e:Expr)(f:IF):Prop:=PI X tg e (tI X.K aj W firm f)
def aa4(x:Str):List Dat:=x.cps.toList.map λc=>.str ⟨(List.toArray [c])⟩
def pX:Dat->Out (List Dat)
 |.list ds=>.ok ds
 |.tuple ds=>.ok ds
 |.str x=>.ok (aa4 x)
 |_=>.bad
def bV(a:QF):IF:=λM Z=>(a M Z).bind pX
def Src.cw(K:avC)(S:Src)(ds:List Dat)(g:Gh)(H:Hp):Prop:=∃us,S.sq K H us/\aA K g H us ds
def Src.cf(K:avC)(S:Src)(ds:List Dat)(g:Gh)(H:Hp):Prop:=∃us,(match S with
 |.lst a=>K9 K g H a us
 |.tup a=>SqT K H a us
 |.str x=>us=chars x)/\aA K g H us ds
section
variable{K:avC}{g g':Gh}{H H':Hp}{ds es:List Dat}{S T:Src}
def Src.aqm{us:List V}(e:Ex H H')(h:S.sq K H us):S.sq K H' us:=by
 cases S with
 |lst a=>exact ex_l e h
 |tup a=>exact ex_t e h
 |str x=>exact h
def Src.aeB(h:S.cf K ds g H):S.cw K ds g H:=by
 let⟨us,h1,h2⟩:=h
 refine⟨us,?_,h2⟩;cases S with
 |lst a=>exact K9.sq h1
 |tup a=>exact h1
 |str x=>exact h1
def Src.wU:afj (S.cf K ds):=λq g g' H H' k ⟨us,h1,h2⟩ r=>by
 refine⟨us,?_,h2.gr r k⟩;cases S with
 |lst a=>exact r.ls h1
 |tup a=>exact r.sqT k h1
 |str x=>exact h1
def Src.Qm(k:Kd g H)(h:S.cw K ds g H)(r:Gr true g g' H H')(e:Ex H H'):S.cw K ds g' H':=by
 let⟨us,h1,h2⟩:=h
 exact⟨us,Src.aqm e h1,h2.gr r k⟩
def Src.aan(k:Kd g H)(h:S.cw K ds g H)(e:Ex H H'):S.cw K ds g H':=Src.Qm k h (Gr.ex e) e
end
section
variable{K:avC}{ds es:List Dat}{S T:Src}
def ItS(K:avC):Src->It
 |.lst a=>Itl K a
 |.tup a=>Itt K a
 |.str x=>Its x
def Ik{g:Gh}{H:Hp}(x:Str):aA K g H (chars x) (aa4 x):=by
 unfold chars aa4
 induction x.cps.toList with
 |nil=>exact .nil
 |cons c cs ih=>exact .cons (.str _) ih
def Jw.of{J:It}{C C':Gh->Hp->Prop}(w:Jw K J C ds)(h:∀g H,C' g H->C g H)(e:∀g H H',Kd g H->C' g H->Ex H H'->C' g H')(a:∀g g' H H',Kd g H->C' g H->Gr true g g' H H'->Ex H H'->C' g' H'):Jw K J C' ds where
 go:=λg i H c hi=>w.go g i H (h g H c) hi
 yld:=λg i H x H' d k c e y=>w.yld g i H x H' d k (h g H c) e y
 stop:=λg i H c e=>w.stop g i H (h g H c) e
 ex:=e
 add:=a
def X3:Jw K (ItS K S) (S.cw K ds) ds where
 go:=λg i H ⟨us,h1,h2⟩ hi=>by
  have hx:us[i]?=some (us[i]'(by rw[h2.length];exact hi)):=avE _;cases S with
  |lst a=>exact⟨us,_,h1,hx⟩
  |tup a=>exact⟨us,_,h1,hx⟩
  |str x=>
   show i<x.cps.size;have:=h2.length;rw[show us=chars x from h1]at this;unfold chars at this;rw[avN,awd]at this;omega
 yld:=λg i H x H' d k ⟨us,h1,h2⟩ e y=>by
  let⟨v,hv,rv⟩:=h2.get e
  cases S with
  |lst a=>
   let⟨rfl,y⟩:=y
   have:x=v:=av0 ((y us h1).symm.trans hv);rw[this];exact⟨Ex.refl _,rv⟩
  |tup a=>
   let⟨rfl,y⟩:=y
   have:x=v:=av0 ((y us h1).symm.trans hv);rw[this];exact⟨Ex.refl _,rv⟩
  |str z=>
   let⟨rfl,c,hc,rfl⟩:=y
   rw[show us=chars z from h1]at hv;unfold chars at hv;rw[avQ,awj,hc]at hv;cases hv;exact⟨Ex.refl _,rv⟩
 stop:=λg i H ⟨us,h1,h2⟩ e=>by
  have hl:=h2.length;cases S with
  |lst a=>exact⟨us,h1,#[]⟩
  |tup a=>exact⟨us,h1,#[]⟩
  |str x=>
   show x.cps.size<=i;rw[show us=chars x from h1]at hl;unfold chars at hl;rw[avN,awd]at hl;omega
 ex:=λg H H' k h e=>Src.aan k h e
 add:=λg g' H H' k h r e=>Src.Qm k h r e
def qR(k₀:Int)(ds:List Dat):List Dat:=ds.mapIdx λi d=>.tuple [.int (k₀+(i:Int)),d]
def aiG{k₀:Int}:Jw K (ItE K S k₀) (S.cw K ds) (qR k₀ ds) where
 go:=λg i H ⟨us,h1,h2⟩ hi=>by
  have hl:i<us.length:=by rw[h2.length];unfold qR at hi;rw[List.length_mapIdx]at hi;exact hi
  exact⟨us,us[i],h1,avE hl⟩
 yld:=λg i H x H' d k ⟨us,h1,h2⟩ e y=>by
  unfold qR at e;rw[awp]at e;cases hd:ds[i]? with
  |none=>rw[hd]at e;cases e
  |some d0=>
   rw[hd]at e;cases e;let⟨v,hv,rv⟩:=h2.get hd
   let⟨T,x0,rfl,nT,rfl,y⟩:=y
   have:x0=v:=av0 ((y us h1).symm.trans hv);subst this;exact⟨Ex.new nT,.tup (st_of awU) (.cons (.int _) (.cons (rv.ex (Ex.new nT) k) .nil))⟩
 stop:=λg i H ⟨us,h1,h2⟩ e=>by
  unfold qR at e;rw[List.length_mapIdx,<-h2.length]at e;exact⟨us,h1,e.symm⟩
 ex:=λg H H' k h e=>Src.aan k h e
 add:=λg g' H H' k h r e=>Src.Qm k h r e
def zQ(ds es:List Dat):List Dat:=List.zipWith (λd e=>.tuple [d,e]) ds es
def aeo:Jw K (ItZ K S T) (λg H=>S.cw K ds g H/\T.cw K es g H) (zQ ds es) where
 go:=λg i H ⟨⟨us,h1,h2⟩,⟨ws,h3,h4⟩⟩ hi=>by
  unfold zQ at hi;rw[List.length_zipWith,<-h2.length,<-h4.length]at hi;exact⟨us,ws,us[i],ws[i],h1,h3,avE #[],avE #[]⟩
 yld:=λg i H x H' d k ⟨⟨us,h1,h2⟩,⟨ws,h3,h4⟩⟩ e y=>by
  unfold zQ at e;rw[List.getElem?_zipWith]at e;cases hd:ds[i]? with
  |none=>rw[hd]at e;cases e
  |some d0=>
   cases he:es[i]? with
   |none=>rw[hd,he]at e;cases e
   |some e0=>
    rw[hd,he]at e;cases e;let⟨v,hv,rv⟩:=h2.get hd
    let⟨u,hu,ru⟩:=h4.get he
    let⟨U,x0,y0,rfl,nU,rfl,y1,y2⟩:=y
    have:x0=v:=av0 ((y1 us h1).symm.trans hv);subst this;have:y0=u:=av0 ((y2 ws h3).symm.trans hu);subst this;exact⟨Ex.new nU,.tup (st_of awU) (.cons (rv.ex (Ex.new nU) k) (.cons (ru.ex (Ex.new nU) k) .nil))⟩
 stop:=λg i H ⟨⟨us,h1,h2⟩,⟨ws,h3,h4⟩⟩ e=>by
  unfold zQ at e;rw[List.length_zipWith,<-h2.length,<-h4.length]at e;exact⟨us,ws,h1,h3,e⟩
 ex:=λg H H' k h e=>⟨Src.aan k h.1 e,Src.aan k h.2 e⟩
 add:=λg g' H H' k h r e=>⟨Src.Qm k h.1 r e,Src.Qm k h.2 r e⟩
def jC(lo:Int)(n:Nat):List Dat:=(List.range n).map λ(i:Nat)=>.int (lo+(i:Int))
def Zr{lo:Int}{n:Nat}:Jw K (Itr lo n) (λ_ _=>True) (jC lo n) where
 go:=λg i H _ hi=>by
  unfold jC at hi;rw[avN,List.length_range]at hi;exact hi
 yld:=λg i H x H' d k _ e y=>by
  let⟨rfl,rfl⟩:=y
  unfold jC at e;rw[avQ]at e;cases hr:(List.range n)[i]? with
  |none=>rw[hr]at e;cases e
  |some j=>
   rw[hr]at e;cases e;have:j=i:=by
    let⟨h1,h2⟩:=avH.mp hr
    rw[List.getElem_range]at h2;exact h2.symm
   subst this;exact⟨Ex.refl _,.int _⟩
 stop:=λg i H _ e=>by
  unfold jC at e;rw[avN,List.length_range]at e;show n<=i;omega
 ex:=λ_ _ _ _ _ _=>trivial
 add:=λ_ _ _ _ _ _ _ _=>trivial
end
section
variable{X:Cx}{aj:aK}{W:WX}{tg a b:Expr}{fa fb:QF}{pos p tpos:Pos}{elts:List Expr}{kk:Nat}
def Rz{K:avC}{g:Gh}{H:Hp}{v:V}{d:Dat}{ds:List Dat}{firm:Bool}(r:if firm=true then Rep K g H v d else dW K g H v d)(h:pX d=.ok ds):∃S,srcOf v S/\S.cw K ds g H/\(firm=true->S.cf K ds g H):=by
 have rw:dW K g H v d:=by
  cases firm with
  |true=>exact Rep.weak r
  |false=>exact r
 cases d with
 |list es=>
  cases h;let⟨l,us,rfl,h1,h2⟩:=fX rw
  refine⟨.lst l,.inl ⟨l,rfl,rfl,.inl rfl⟩,⟨us,h1,h2⟩,λz=>?_⟩;subst z;have r:Rep K g H (.ref l) (.list ds):=r;cases r with
  |lst h3 h4=>exact⟨_,h3,h4⟩
 |tuple es=>
  cases h;let⟨l,us,rfl,h1,h2⟩:=nJ rw
  exact⟨.tup l,.inl ⟨l,rfl,rfl,.inr rfl⟩,⟨us,h1,h2⟩,λ_=>⟨us,h1,h2⟩⟩
 |str x=>
  cases h;cases fW rw;exact⟨.str x,.inr ⟨x,rfl,rfl⟩,⟨_,rfl,Ik x⟩,λ_=>⟨_,rfl,Ik x⟩⟩
 |_=>cases h
def tF(K:avC)(aj:aK)(W:WX)(firm:Bool)(f:QF):TE:=if firm=true then tQ K aj W f else tW K aj W f
def QF'(aj:aK)(X:Cx)(W:WX)(firm:Bool)(e:Expr)(f:QF):Prop:=PE X e (tF X.K aj W firm f)
theorem tF.go{K:avC}{firm:Bool}{g:Gh}{H:Hp}{σ:L2.St}{Z:Env}{M:Mo}{f:QF}{k:Dat->Prop}{Q:VK}(I:SInv K aj σ H g Z M)(h:(f M Z).sat k (sH K aj W g H σ))(hk:∀d v H',k d->Ex H H'->(if firm=true then Rep K g H' v d else dW K g H' v d)->Q v H'):tF K aj W firm f σ H Q:=by
 cases firm with
 |true=>exact tQ.go I h hk
 |false=>exact tW.go I h hk
def ap1{K:avC}{firm:Bool}{g:Gh}{H H':Hp}{v:V}{d:Dat}(e:Ex H H')(k:Kd g H)(r:if firm=true then Rep K g H v d else dW K g H v d):if firm=true then Rep K g H' v d else dW K g H' v d:=by
 cases firm with
 |true=>exact Rep.ex e k r
 |false=>exact dW.ex e k r
def wf{K:avC}{S:Src}{firm:Bool}{J:It}{ds es:List Dat}{R:It->Hp->Prop}{g:Gh}{H H1:Hp}(h:∀J C H',Ex H H'->Jw K J C ds->C g H'->(firm=true->afj C)->R J H')(e1:Ex H H1)(w:Jw K J (S.cw K es) ds)(hw:S.cw K es g H1)(hf:firm=true->S.cf K es g H1):R J H1:=by
 cases firm with
 |true=>exact h J (S.cf K es) H1 e1 (w.of (λ_ _ z=>Src.aeB z) (λg H H' k c e=>Src.wU true g g H H' k c (Gr.ex e)) λg g' H H' k c r e=>Src.wU true g g' H H' k c r) (hf rfl) λ_=>Src.wU
 |false=>exact h J (S.cw K es) H1 e1 w hw λz=>nomatch z
def abW{firm:Bool}(ha:QF' aj X W firm a fa):QI aj X W firm tg a (bV fa):=by
 refine⟨λpins s σ H R I h=>?_⟩;let⟨g,Z,M,SI,hs⟩:=h
 have hs:=hs.bnd;have fin:∀(S:Src) (x:V) (H1:Hp) (ds:List Dat),(∀J C H',Ex H H'->Jw X.K J C ds->C g H'->(firm=true->afj C)->R J H')->Ex H H1->S.cw X.K ds g H1->(firm=true->S.cf X.K ds g H1)->R (ItS X.K S) H1:=λS x H1 ds h e1 hw hf=>wf h e1 X3 hw hf;cases hfa:fa M Z with
 |bad=>rw[hfa]at hs;exact awN hs
 |exc x=>
  rw[hfa]at hs;exact(pi_list ha).run pins s σ H R I (tF.go (k:=λ_=>False) SI (by rw[hfa];exact hs) λd v H' z=>awN z)
 |ok d=>
  rw[hfa]at hs;cases d with
  |list ds=>
   refine(pi_list ha).run pins s σ H R I (tF.go (k:=λz=>z=.list ds) SI (by rw[hfa];rfl) λd v H' z e1 r=>?_);subst z;let⟨S,hS,hw,hf⟩:=Rz (firm:=firm) r (ds:=ds) rfl
   have rw:dW X.K g H' v (.list ds):=by
    cases firm with
    |true=>exact Rep.weak r
    |false=>exact r
   let⟨l,us,rfl,h1,h2⟩:=fX rw
   refine⟨l,rfl,⟨us,h1⟩,?_⟩;rcases hS with⟨a',e,ha',hl|ht⟩|⟨y,_,e⟩
   .cases e;subst hl;exact fin (.lst l) (.ref l) H' ds hs e1 hw hf
   .cases e;subst ht;refine wf (S:=.lst l) hs e1 (X3 (S:=.lst l)) ⟨us,h1,h2⟩ λz=>?_;subst z;have r:Rep X.K g H' (.ref l) (.list ds):=r;cases r with
    |lst h3 h4=>exact⟨_,h3,h4⟩
   .cases e
  |tuple ds=>
   refine(pi_tup ha).run pins s σ H R I (tF.go (k:=λz=>z=.tuple ds) SI (by rw[hfa];rfl) λd v H' z e1 r=>?_);subst z;have rw:dW X.K g H' v (.tuple ds):=by
    cases firm with
    |true=>exact Rep.weak r
    |false=>exact r
   let⟨l,us,rfl,h1,h2⟩:=nJ rw
   exact⟨l,rfl,⟨us,h1⟩,fin (.tup l) (.ref l) H' ds hs e1 ⟨us,h1,h2⟩ λ_=>⟨us,h1,h2⟩⟩
  |str x=>
   refine(pi_str ha).run pins s σ H R I (tF.go (k:=λz=>z=.str x) SI (by rw[hfa];rfl) λd v H' z e1 r=>?_);subst z;have rw:dW X.K g H' v (.str x):=by
    cases firm with
    |true=>exact Rep.weak r
    |false=>exact r
   cases fW rw;exact⟨x,rfl,fin (.str x) (.str x) H' _ hs e1 ⟨_,rfl,Ik x⟩ λ_=>⟨_,rfl,Ik x⟩⟩
  |_=>exact awN hs
def Bj(a:QF):IF:=λM Z=>(a M Z).bind λd=>(DK d).bind λn=>Out.when (decide (n<=100000/\-100000<=n)) (.ok (jC 0 n.toNat))
def EY(a b:QF):IF:=λM Z=>(a M Z).bind λd=>(b M Z).bind λe=>(DK d).bind λlo=>(DK e).bind λn=>Out.when (decide (n<=100000/\-100000<=n/\lo<=100000/\-100000<=lo)) (.ok (jC lo (n-lo).toNat))
def xY(k₀:Int)(a:QF):IF:=λM Z=>(a M Z).bind λd=>(pX d).bind λds=>.ok (qR k₀ ds)
def Jq(a b:QF):IF:=λM Z=>(a M Z).bind λd=>(b M Z).bind λe=>(pX d).bind λds=>(pX e).bind λes=>.ok (zQ ds es)
def agk{firm:Bool}(hg:Gl X "range")(hm:X.mg "range"=none)(ha:QW aj X W a fa)(hs:nst a=true):QI aj X W firm tg (.Call (.Name "range" p) [a] [] pos) (Bj fa):=by
 refine⟨λpins s σ H R I h=>?_⟩;refine(pi_range1 hg hm (pa_cons ha pa_nil (bH hs [])) (bH hs [])).run pins s σ H R I ?_;let⟨g,Z,M,SI,h⟩:=h
 refine tW.go SI h.bnd λd v H1 h1 e1 r1=>?_;have h1:=h1.bnd;unfold DK at h1;split at h1
 .let⟨hz,h1⟩:=h1.kJ
  have hz:=awP hz;cases cA r1;exact⟨_,rfl,#[],#[],h1 _ _ H1 e1 Zr awM λ_=>λ_ _ _ _ _ _ _ _=>trivial⟩
 .exact awN h1
def ahw{firm:Bool}(hg:Gl X "range")(hm:X.mg "range"=none)(ha:QW aj X W a fa)(hb:QW aj X W b fb)(hs:nst a=true)(hs2:nst b=true):QI aj X W firm tg (.Call (.Name "range" p) [a,b] [] pos) (EY fa fb):=by
 refine⟨λpins s σ H R I h=>?_⟩;refine(pi_range2 hg hm (pa_cons ha (pa_cons hb pa_nil (bH hs2 [])) (bH hs [b])) (by rw[bH hs,bH hs2];rfl) (bH hs2 [])).run pins s σ H R I ?_;let⟨g,Z,M,SI,h⟩:=h
 refine tW.go SI h.bnd λd v H1 h1 e1 r1=>?_;refine tW.go (SI.ex e1) (h1.bnd.mono (λ_ z=>z) λ_ z=>z.ex e1) λd2 v2 H2 h2 e2 r2=>?_;have h2:=h2.bnd;unfold DK at h2;split at h2
 .have h2:=Out.sat.bnd h2;split at h2
  .let⟨hz,h2⟩:=Out.sat.kJ h2
   have hz:=awP hz;cases cA r1;cases cA r2;exact⟨_,_,rfl,⟨#[],#[],#[],#[]⟩,h2 _ _ H2 (e1.trans e2) Zr awM λ_=>λ_ _ _ _ _ _ _ _=>trivial⟩
  .exact awN h2
 .exact awN h2
def aj2{firm:Bool}{k₀:Int}(σ:L2.St)(H:Hp)(R:It->Hp->Prop)(h:tI X.K aj W firm (xY k₀ fa) σ H R):iEn X.K (tCons (tF X.K aj W firm fa) tNil) k₀ σ H R:=by
 let⟨g,Z,M,SI,h⟩:=h
 refine tF.go SI h.bnd λd v H1 h1 e1 r1=>?_;cases hd:pX d with
 |bad=>rw[hd]at h1;exact awN h1
 |exc x=>cases d<;>cases hd
 |ok ds=>
  rw[hd]at h1;let⟨S,hS,hw,hf⟩:=Rz r1 hd
  exact⟨v,S,_,rfl,hS,hw.choose_spec.1,wf h1 e1 aiG hw hf⟩
def alv{firm:Bool}(hg:Gl X "enumerate")(hm:X.mg "enumerate"=none)(ha:QF' aj X W firm a fa)(hs:nst a=true):QI aj X W firm (.Tuple elts kk tpos) (.Call (.Name "enumerate" p) [a] [] pos) (xY 0 fa):=
 ⟨λpins s σ H R I h=>(apJ hg hm (pa_cons ha pa_nil (bH hs [])) hs).run pins s σ H R I (aj2 σ H R h)⟩
def ahY{firm:Bool}{k₀:Int}{j:Nat}{kp kp2:Pos}(hk0 : -(2^63)<=k₀)(hk1:k₀<2^63)(hg:Gl X "enumerate")(hm:X.mg "enumerate"=none)(ha:QF' aj X W firm a fa)(hs:nst a=true):QI aj X W firm (.Tuple elts kk tpos) (.Call (.Name "enumerate" p) [a] [⟨some "start",.Constant (.int k₀) j kp,kp2⟩] pos) (xY k₀ fa):=
 ⟨λpins s σ H R I h=>(anF hk0 hk1 hg hm (pa_cons ha pa_nil (bH hs [])) hs).run pins s σ H R I (aj2 σ H R h)⟩
def am7{firm:Bool}(hg:Gl X "zip")(hm:X.mg "zip"=none)(ha:QF' aj X W firm a fa)(hb:QF' aj X W firm b fb)(hs:nst a=true)(hs2:nst b=true):QI aj X W firm (.Tuple elts kk tpos) (.Call (.Name "zip" p) [a,b] [] pos) (Jq fa fb):=by
 refine⟨λpins s σ H R I h=>(aql hg hm (pa_cons ha (pa_cons hb pa_nil (bH hs2 [])) (bH hs [b])) hs hs2).run pins s σ H R I ?_⟩;let⟨g,Z,M,SI,h⟩:=h
 refine tF.go SI h.bnd λd v H1 h1 e1 r1=>?_;refine tF.go (SI.ex e1) (h1.bnd.mono (λ_ z=>z) λ_ z=>z.ex e1) λd2 v2 H2 h2 e2 r2=>?_;cases hd:pX d with
 |bad=>rw[hd]at h2;exact awN h2
 |exc x=>cases d<;>cases hd
 |ok ds=>
  cases he:pX d2 with
  |bad=>rw[hd,he]at h2;exact awN h2
  |exc x=>cases d2<;>cases he
  |ok es=>
   rw[hd,he]at h2;let⟨S,hS,hw,hf⟩:=Rz (ap1 e2 (SI.ex e1).kd r1) hd
   let⟨T,hT,hw2,hf2⟩:=Rz r2 he
   refine⟨v,v2,S,T,_,_,rfl,hS,hT,hw.choose_spec.1,hw2.choose_spec.1,?_⟩;cases firm with
   |true=>exact h2 _ (λg H=>S.cf X.K ds g H/\T.cf X.K es g H) H2 (e1.trans e2) (aeo.of (λ_ _ z=>⟨Src.aeB z.1,Src.aeB z.2⟩) (λg H H' k c e=>⟨Src.wU true g g H H' k c.1 (Gr.ex e),Src.wU true g g H H' k c.2 (Gr.ex e)⟩) λg g' H H' k c r e=>⟨Src.wU true g g' H H' k c.1 r,Src.wU true g g' H H' k c.2 r⟩) ⟨hf rfl,hf2 rfl⟩ λ_=>λq g g' H H' k c r=>⟨Src.wU q g g' H H' k c.1 r,Src.wU q g g' H H' k c.2 r⟩
   |false=>exact h2 _ _ H2 (e1.trans e2) aeo ⟨hw,hw2⟩ λz=>nomatch z
end
def WF:WX:=λ_ _ _ _=>False
def Af{α:Type}:Out α->Out α
 |.ok a=>.ok a
 |_=>.bad
@[simp]theorem abB {α:Type} (a:α):Af (.ok a)=.ok a:=rfl
def Fd{α:Type}{o:Out α}{P:α->Prop}{E E':dX->Prop}(h:(Af o).sat P E):o.sat P E':=by
 cases o
 .exact h
 .exact awN h
 .exact h
def dR(tg:dU)(tt:QT)(te:QF)(M:Mo)(Z:Env):List Dat->Out (List Dat)
 |[]=>.ok []
 |d::ds=>match tg d Z with
  |none=>.bad
  |some Z1=>(Af (tt M Z1)).bind λb=>if b=true then(Af (te M Z1)).bind λy=>(dR tg tt te M Z ds).bind λr=>.ok (y::r) else dR tg tt te M Z ds
def dO(it:IF)(tg:dU)(vs:List Nat)(tt:QT)(te:QF):QF:=λM Z=>(it M Z).bind λds=>Out.when (decide (ds.length<=50000)) ((dR tg tt te M (bQ Z vs) ds).bind λr=>.ok (.list r))
def gU:QT:=λ_ _=>.ok true
def tFr(K:avC)(aj:aK)(W:WX)(f:IF):TE:=λσ H Q=>∃g Z M,SInv K aj σ H g Z M/\(f M Z).sat (λxs=>∀l us H',H l=none->Ex H H'->H' l=some (.lst us)->aA K (g.add l) H' us xs->Q (.ref l) H') (sH K aj W g H σ)
def Cu(it:IF)(tg:dU)(vs:List Nat)(tt:QT)(te:QF):IF:=λM Z=>(it M Z).bind λds=>Out.when (decide (ds.length<=50000)) (dR tg tt te M (bQ Z vs) ds)
section
variable{K:avC}{aj:aK}{W:WX}
def Ud{g:Gh}{H:Hp}{D:Addr}{o o':HO}{vs:List V}{ds:List Dat}(k:Kd g H)(h:H D=some o)(l:g.Lo D)(r:aA K g H vs ds):aA K g (upd H D o') vs ds:=r.gr (Gr.upd (q:=true) k h (.inr l)) k
def akY{g:Gh}{H:Hp}{D:Addr}{o o':HO}{v:V}{d:Dat}(k:Kd g H)(h:H D=some o)(l:g.Lo D)(r:Rep K g H v d):Rep K g (upd H D o') v d:=r.gr (Gr.upd (q:=true) k h (.inr l)) k
theorem uQ{tg:dU}{tt:QT}{te:QF}{M:Mo}{Z:Env}:∀{ds:List Dat} {x:dX},dR tg tt te M Z ds≠.exc x
 |[],_,h=>nomatch h
 |d::ds,x,h=>by
  rw[dR]at h;left
  .cases h
  .next Z1 e=>
   cases h1:tt M Z1 with
   |bad=>rw[h1]at h;cases h
   |exc y=>rw[h1]at h;cases h
   |ok b=>
    rw[h1]at h;cases b with
    |false=>exact uQ h
    |true=>
     have h:((Af (te M Z1)).bind λy=>(dR tg tt te M Z ds).bind λr=>Out.ok (y::r))=.exc x:=h;cases h2:te M Z1 with
     |bad=>rw[h2]at h;cases h
     |exc y=>rw[h2]at h;cases h
     |ok y=>
      rw[h2]at h;cases h3:dR tg tt te M Z ds with
      |bad=>rw[h3]at h;cases h
      |exc z=>exact uQ h3
      |ok r=>rw[h3]at h;cases h
theorem T5(σ:L2.St)(i:Nat):∀vs:List Nat,(L2.wipe σ vs)[i]?=if i∈vs then(σ[i]?).map (λ_=>none) else σ[i]?
 |[]=>by simp[L2.wipe]
 |v::vs=>by
  show((L2.wipe σ vs).set v none)[i]?=_
  by_cases h:v=i
  .subst h;by_cases hl:v<σ.length
   .rw[avV (by rw[wipe_length];exact hl),awS avI,avE hl];rfl
   .have h1:σ[v]?=none:=List.getElem?_eq_none_iff.mpr #[];rw[awS avI,h1,List.getElem?_eq_none_iff.mpr (by rw[av4,wipe_length];omega)];rfl
  .rw[avL h,T5 σ i vs];have:i∈v::vs↔i∈vs:=⟨λz=>by
    rcases avP.mp z with z|z
    .exact absurd z.symm h
    .exact z,avG _⟩
   simp![this]
def CV(σ:L2.St)(vs:List Nat):L2.wipe (L2.wipe σ vs) vs=L2.wipe σ vs:=by
 apply av6;intro i;rw[T5 (L2.wipe σ vs) i vs,T5 σ i vs];split
 .cases σ[i]?<;>rfl
 .rfl
def aa7{it:IF}{tg:dU}{js vs:List Nat}{tt:QT}{te:QF}(hj:∀j∈js,j∈vs)(σ:L2.St)(H:Hp)(Q:VK)(h:tFr K aj W (Cu it tg vs tt te) σ H Q) :
  tLc (tI K aj W false it) (zp K aj js tg) (j7 K aj WF tt) (tQ K aj WF te) vs σ H Q:=by
 let⟨g,Z,M,I,h⟩:=h
 refine⟨g,Z,M,I,h.bnd.mono (λds hk J C H1 e1 w c _ D nD=>?_) λ_ z=>z⟩;let⟨hz,hk⟩:=hk.kJ
 have hlen:=awP hz;obtain⟨total,htot,hQ⟩:∃total,dR tg tt te M (bQ Z vs) ds=.ok total/\∀l us H',H l=none->Ex H H'->H' l=some (.lst us)->aA K (g.add l) H' us total->Q (.ref l) H':=by
  cases hc:dR tg tt te M (bQ Z vs) ds with
  |bad=>rw[hc]at hk;exact awN hk
  |exc x=>exact absurd hc uQ
  |ok total=>
   rw[hc]at hk;exact⟨total,rfl,hk⟩
 have I1:=(I.ex e1).wipe vs;have kD:∀{Ha:Hp} {us:List V},Ex H1 Ha->Ha D=some (.lst us)->SInv K aj (L2.wipe σ vs) Ha (g.add D) (bQ Z vs) M:=λea hu=>I1.add nD ea hu awM
 let Pv:Nat->Hp->Prop:=λi Ha=>Ex H1 Ha/\i<=ds.length/\∃us ys,Ha D=some (.lst us)/\aA K (g.add D) Ha us ys/\ys.length<=i/\(dR tg tt te M (bQ Z vs) (ds.drop i)).sat (λr=>total=ys++r) λ_=>False
 refine⟨λi m Ha=>m=ds.length-i/\Pv i Ha,⟨ds.length,rfl,Ex.new nD,awg _,[],[],awU,.nil,avW _,?_⟩,?_⟩
 .rw[awC,htot];rfl
 .rintro i m Ha ⟨rfl,ea,hi,us,ys,hu,hU,hy,hs⟩;have Ia:=kD ea hu;have Ca:=w.add g (g.add D) H1 Ha (I.kd.ex e1) c (Gh.Cy nD ea) ea;by_cases hlt:i<ds.length
  .refine .inr ⟨w.go _ i Ha Ca hlt,Pv (i+1),λH' p=>⟨ds.length-(i+1),#[],rfl,p⟩,λx H' y=>?_⟩;have hd:ds[i]?=some ds[i]:=avE hlt;let⟨e2,rx⟩:=w.yld _ i Ha x H' _ Ia.kd Ca hd y
   have I2:=Ia.ex e2;rw[awi hlt,dR]at hs;split at hs
   .exact awN hs
   .next Z1 he=>
    refine⟨g.add D,_,M,_,Z1,I2,rx,he,λws I3=>⟨yH js ws _ vs hj |>.trans (CV σ vs),?_⟩⟩;refine j7.go I3 (Fd hs.bnd) λb H3 hb e3=>?_;have I4:=I3.ex e3;have hu3:=e3 _ _ (e2 _ _ hu);have hU3:=(hU.ex e2 Ia.kd).ex e3 I2.kd;cases b with
    |false=>
     have hb:(dR tg tt te M (bQ Z vs) (ds.drop (i+1))).sat (λr=>total=ys++r) λ_=>False:=hb;exact⟨(ea.trans e2).trans e3,hlt,us,ys,hu3,hU3,Nat.le_succ_of_le hy,hb⟩
    |true=>
     have hb:((Af (te M Z1)).bind λy=>(dR tg tt te M (bQ Z vs) (ds.drop (i+1))).bind λr=>Out.ok (y::r)).sat (λr=>total=ys++r) λ_=>False:=hb;refine tQ.go I4 (Fd hb.bnd) λy v H4 hyv e4 ry=>?_;have I5:=I4.ex e4;have hu4:=e4 _ _ hu3;have hU4:=hU3.ex e4 I4.kd;have lD:(g.add D).Lo D:=.inr rfl;refine⟨us,hu4,sz_lt (by rw[hU.length];omega),Ex.mut (((ea.trans e2).trans e3).trans e4) nD,hlt,us++[v],ys++[y],awU,?_,by simp;omega,hyv.bnd.mono (λr hr=>?_) λ_ z=>z⟩
     .exact Ud I5.kd hu4 lD (hU4.append (.cons ry .nil))
     .have hr:total=ys++y::r:=hr;rw[hr];simp
  .have e:i=ds.length:=#[];refine .inl ⟨w.stop _ i Ha Ca e,?_⟩;rw[e,awo]at hs;have hs:total=ys++[]:=hs;rw[awn]at hs;subst hs;exact hQ D us Ha (GD e1 D nD) (e1.trans ea) hu hU
def ajY{it:IF}{tg:dU}{js vs:List Nat}{tt:QT}{te:QF}(hj:∀j∈js,j∈vs)(σ:L2.St)(H:Hp)(Q:VK)(h:tQ K aj W (dO it tg vs tt te) σ H Q) :
  tLc (tI K aj W false it) (zp K aj js tg) (j7 K aj WF tt) (tQ K aj WF te) vs σ H Q:=by
 let⟨g,Z,M,I,h⟩:=h
 refine aa7 hj σ H Q ⟨g,Z,M,I,?_⟩;unfold Cu;unfold dO at h;cases hi:it M Z with
 |bad=>rw[hi]at h;exact awN h
 |exc x=>rw[hi]at h;exact h
 |ok ds=>
  rw[hi]at h;let⟨hz,h⟩:=Out.sat.kJ h
  have h:=h.bnd
  show(Out.when (decide (ds.length<=50000)) (dR tg tt te M (bQ Z vs) ds)).sat _ _
  rw[hz,Out.Y7];exact h.mono (λxs z l us H' n e hl r=>z _ H' e (.lst (.inl ⟨.inl hl,I.kd.fresh n⟩) (aA.less (g:=g.add l) (g':=g) rfl (λa z=>z.elim .inl λz=>.inr (z.elim .inl λz=>.inr (.inl z))) r))) λ_ z=>z
end
section
variable{X:Cx}{aj:aK}{W:WX}{elt tg iter:Expr}{pos p tpos:Pos}
def ane{X:Cx}:Takes X WF:=λu s' ⟨a,B,sI,pins,σ,H,cls,d,e,I,nb,up,sky,na,os,ag,w⟩=>awN w
def apl{scope:Scope}{own:LsS Nat}{it:IF}{tgf:dU}{js:List Nat}{tt:QT}{te:QF}{ifs:List Expr}(hc:X.calm=true)(hN:X.N.Nodup)(hi:QI aj X W false tg iter it)(ok:blkC X.N X.env.scope scope own=true)(hj:∀j∈js,j∈own.map (·.2))
  (hg:∀s H C cl fp,QG aj #[[[]]] tg js tgf)
  (ht:∀s H C cl fp,PTs #[[[]]] ifs (j7 X.K aj WF tt))
  (he:∀s H C cl fp,QE aj #[[[]]] WF elt te) (hs:∀x,foldedSetIterable iter X.env x=pure x) :
  QE aj X W (.ListComp elt [⟨tg,iter,ifs,0⟩] scope pos) (dO it tgf (own.map (·.2)) tt te):=
 PE.weak (pe_lc (g:=zp X.K aj js tgf) (tt:=j7 X.K aj WF tt) (te:=tQ X.K aj WF te) hc hN hi (blkOk_by ok) (λs H C cl fp=>hg s H C cl fp) ht (λs H C cl fp=>he s H C cl fp) hs) λσ H Q h=>ajY hj σ H Q h
def ao9{scope:Scope}{own:LsS Nat}{it:IF}{tgf:dU}{js:List Nat}{tt:QT}{te:QF}{ifs:List Expr}(hc:X.calm=true)(hN:X.N.Nodup)(hi:QI aj X W false tg iter it)(ok:blkC X.N X.env.scope scope own=true)(hj:∀j∈js,j∈own.map (·.2))
  (hg:∀s H C cl fp,QG aj #[[[]]] tg js tgf)
  (ht:∀s H C cl fp,PTs #[[[]]] ifs (j7 X.K aj WF tt))
  (he:∀s H C cl fp,QE aj #[[[]]] WF elt te) (hs:∀x,foldedSetIterable iter X.env x=pure x) :
  PE X (.ListComp elt [⟨tg,iter,ifs,0⟩] scope pos) (tFr X.K aj W (Cu it tgf (own.map (·.2)) tt te)):=
 PE.weak (pe_lc (g:=zp X.K aj js tgf) (tt:=j7 X.K aj WF tt) (te:=tQ X.K aj WF te) hc hN hi (blkOk_by ok) (λs H C cl fp=>hg s H C cl fp) ht (λs H C cl fp=>he s H C cl fp) hs) λσ H Q h=>aa7 hj σ H Q h
end
def aY.sat{α:Type}(o:aY α)(P:α->Mo->Prop)(E:dX->Mo->Prop):Prop:=
 match o with
 |.ok a M=>P a M
 |.exc x M=>E x M
 |.bad=>False
def aY.bind{α β:Type}(o:aY α)(k:α->Mo->aY β):aY β:=
 match o with
 |.ok a M=>k a M
 |.exc x M=>.exc x M
 |.bad=>.bad
@[simp]theorem aY.Ba {α β:Type} (a:α) (M:Mo) (k:α->Mo->aY β):(aY.ok a M).bind k=k a M:=rfl
@[simp]theorem aY.aiQ {α β:Type} (x:dX) (M:Mo) (k:α->Mo->aY β):(aY.exc x M:aY α).bind k=.exc x M:=rfl
@[simp]theorem aY.ajg {α β:Type} (k:α->Mo->aY β):(aY.bad:aY α).bind k=.bad:=rfl
def aY.sat.bnd{α β:Type}{o:aY α}{k:α->Mo->aY β}{P:β->Mo->Prop}{E:dX->Mo->Prop}(h:(o.bind k).sat P E):o.sat (λa M=>(k a M).sat P E) E:=by cases o<;>exact h
def aY.sat.mono{α:Type}{o:aY α}{P P':α->Mo->Prop}{E E':dX->Mo->Prop}(h:o.sat P E)(hp:∀a M,P a M->P' a M)(he:∀x M,E x M->E' x M):o.sat P' E':=by
 cases o
 .exact hp _ _ h
 .exact he _ _ h
 .exact h
def Out.at{α:Type}(o:Out α)(M:Mo):aY α:=
 match o with
 |.ok a=>.ok a M
 |.exc x=>.exc x M
 |.bad=>.bad
@[simp]theorem Out.aeP {α:Type} (a:α) (M:Mo):(Out.ok a).at M=.ok a M:=rfl
@[simp]theorem Out.al0 {α:Type} (x:dX) (M:Mo):(Out.exc x:Out α).at M=.exc x M:=rfl
@[simp]theorem Out.amF {α:Type} (M:Mo):(Out.bad:Out α).at M=.bad:=rfl
def Out.jx{α:Type}{o:Out α}{M:Mo}{P:α->Mo->Prop}{E:dX->Mo->Prop}(h:(o.at M).sat P E):o.sat (λa=>P a M) λx=>E x M:=by cases o<;>exact h
abbrev GF:=Mo->Env->aY Dat
abbrev GT:=Mo->Env->aY Bool
def vK.sat(o:vK)(nx:Env->Mo->Prop)(rt:Dat->Mo->Prop)(bk ct:Env->Mo->Prop)(ex:dX->Env->Mo->Prop):Prop:=
 match o with
 |.next Z M=>nx Z M
 |.ret d M=>rt d M
 |.brk Z M=>bk Z M
 |.cont Z M=>ct Z M
 |.exc x Z M=>ex x Z M
 |.bad=>False
def vK.sat.mono{o:vK}{nx nx':Env->Mo->Prop}{rt rt':Dat->Mo->Prop}{bk bk' ct ct':Env->Mo->Prop}{ex ex':dX->Env->Mo->Prop}(h:o.sat nx rt bk ct ex)(h1:∀Z M,nx Z M->nx' Z M)(h2:∀d M,rt d M->rt' d M)(h3:∀Z M,bk Z M->bk' Z M)(h4:∀Z M,ct Z M->ct' Z M)(h5:∀x Z M,ex x Z M->ex' x Z M):o.sat nx' rt' bk' ct' ex':=by
 cases o
 .exact h1 _ _ h
 .exact h2 _ _ h
 .exact h3 _ _ h
 .exact h4 _ _ h
 .exact h5 _ _ _ h
 .exact h
abbrev SF:=Mo->Env->vK
def Gh.fr(g:Gh):Gh:={ g with Lo:=λ_=>False }
section
variable(K:avC)(aj:aK)(W:WX)(q:Bool)
def gE(g:Gh)(H:Hp)(σ:L2.St)(Z:Env)(x:dX)(M':Mo):Prop:=∀H' g' c dd,Gr q g g' H H'->SInv K aj σ H' g' Z M'->tV K aj g' H' x c dd->W c dd σ H'
def tE(f:GF):TE:=λσ H Q=>∃g Z M,SInv K aj σ H g Z M/\(f M Z).sat (λd M'=>∀v H' g',Gr q g g' H H'->SInv K aj σ H' g' Z M'->Rep K g' H' v d->Q v H') (gE K aj W q g H σ Z)
def tET(f:GT):TT:=λσ H Q=>∃g Z M,SInv K aj σ H g Z M/\(f M Z).sat (λb M'=>∀H' g',Gr q g g' H H'->SInv K aj σ H' g' Z M'->Q b H') (gE K aj W q g H σ Z)
def sN(k:L2.St->Hp->Prop)(g:Gh)(H:Hp)(Z':Env)(M':Mo):Prop:=∀σ' H' g',Gr q g g' H H'->SInv K aj σ' H' g' Z' M'->k σ' H'
def sR(k:VK)(g:Gh)(H:Hp)(d:Dat)(M':Mo):Prop:=∀v H' g',Gr q g g' H H'->Kd g'.fr H'->gM K aj g'.fr H' M'->Rep K g'.fr H' v d->k v H'
def sX(g:Gh)(H:Hp)(x:dX)(Z':Env)(M':Mo):Prop:=∀σ' H' g' c dd,Gr q g g' H H'->SInv K aj σ' H' g' Z' M'->tV K aj g'.fr H' x c dd->W c dd σ' H'
def tS(f:SF):TS:=λD σ H=>∃g Z M,SInv K aj σ H g Z M/\(f M Z).sat (sN K aj q D.nx g H) (sR K aj q D.rt g H) (sN K aj q D.bk g H) (sN K aj q D.ct g H) (sX K aj W q g H)
end
section
variable{K:avC}{aj:aK}{W:WX}{q:Bool}{g g1:Gh}{H H1:Hp}{σ:L2.St}{Z:Env}{M:Mo}
def gE.gr{x:dX}{M':Mo}(r:Gr q g g1 H H1)(h:gE K aj W q g H σ Z x M'):gE K aj W q g1 H1 σ Z x M':=λH' g' c dd r' I z=>h H' g' c dd (r.trans r') I z
def sN.gr{k:L2.St->Hp->Prop}{Z':Env}{M':Mo}(r:Gr q g g1 H H1)(h:sN K aj q k g H Z' M'):sN K aj q k g1 H1 Z' M':=λσ' H' g' r' I=>h σ' H' g' (r.trans r') I
def sR.gr{k:VK}{d:Dat}{M':Mo}(r:Gr q g g1 H H1)(h:sR K aj q k g H d M'):sR K aj q k g1 H1 d M':=λv H' g' r' I z y=>h v H' g' (r.trans r') I z y
def sX.gr{x:dX}{Z':Env}{M':Mo}(r:Gr q g g1 H H1)(h:sX K aj W q g H x Z' M'):sX K aj W q g1 H1 x Z' M':=λσ' H' g' c dd r' I z=>h σ' H' g' c dd (r.trans r') I z
def tE.go{f:GF}{k:Dat->Mo->Prop}{Q:VK}(I:SInv K aj σ H g Z M)(h:(f M Z).sat k (gE K aj W q g H σ Z))(hk:∀d M' v H' g',k d M'->Gr q g g' H H'->SInv K aj σ H' g' Z M'->Rep K g' H' v d->Q v H'):tE K aj W q f σ H Q:=
 ⟨g,Z,M,I,h.mono (λd M' hd v H' g' e I' r=>hk d M' v H' g' hd e I' r) λ_ _ z=>z⟩
def tET.go{f:GT}{k:Bool->Mo->Prop}{Q:Bool->Hp->Prop}(I:SInv K aj σ H g Z M)(h:(f M Z).sat k (gE K aj W q g H σ Z))(hk:∀b M' H' g',k b M'->Gr q g g' H H'->SInv K aj σ H' g' Z M'->Q b H'):tET K aj W q f σ H Q:=
 ⟨g,Z,M,I,h.mono (λd M' hd H' g' e I'=>hk d M' H' g' hd e I') λ_ _ z=>z⟩
def tS.go{f:SF}{D:Ends}(I:SInv K aj σ H1 g1 Z M)(r:Gr q g g1 H H1)(h:(f M Z).sat (sN K aj q D.nx g H) (sR K aj q D.rt g H) (sN K aj q D.bk g H) (sN K aj q D.ct g H) (sX K aj W q g H)):tS K aj W q f D σ H1:=
 ⟨g1,Z,M,I,h.mono (λ_ _ z=>z.gr r) (λ_ _ z=>z.gr r) (λ_ _ z=>z.gr r) (λ_ _ z=>z.gr r) (λ_ _ _ z=>z.gr r)⟩
theorem mK.less{g':Gh}{fs:LsS V}{gs:LsS Dat}(e:g'.tbl=g.tbl)(n:∀a,g'.A a->g.A a)(h:mK K g H fs gs):mK K g' H fs gs:=by
 induction h with
 |nil=>exact .nil
 |cons r _ ih=>exact .cons (r.less e n) ih
theorem tV.less{g':Gh}{x:dX}{c:Value}{dd:Option Addr}(e:g'.tbl=g.tbl)(n:∀a,g'.A a->g.A a)(h:tV K aj g H x c dd):tV K aj g' H x c dd:=by
 let⟨C,h1,h2,h3⟩:=h
 refine⟨C,h1,h2,h3.imp id λ⟨a,fs,e1,e2,e3⟩=>⟨a,fs,e1,e2,e3.less e n⟩⟩
def yO(g:Gh):∀a,g.fr.A a->g.A a:=λa z=>z.elim .inl λz=>.inr (z.elim .inl λz=>awN z)
theorem Rep.fr{v:V}{d:Dat}(h:Rep K g H v d):Rep K g.fr H v d:=Rep.less (g:=g) (g':=g.fr) rfl (yO g) h
theorem aA.fr{v:List V}{d:List Dat}(h:aA K g H v d):aA K g.fr H v d:=aA.less (g:=g) (g':=g.fr) rfl (yO g) h
theorem tV.fr{x:dX}{c:Value}{dd:Option Addr}(h:tV K aj g H x c dd):tV K aj g.fr H x c dd:=tV.less (g:=g) (g':=g.fr) rfl (yO g) h
end
def GE(aj:aK)(X:Cx)(W:WX)(q:Bool)(e:Expr)(f:GF):Prop:=PE X e (tE X.K aj W q f)
def GTe(aj:aK)(X:Cx)(W:WX)(q:Bool)(e:Expr)(f:GT):Prop:=PT X e (tET X.K aj W q f)
def SE(aj:aK)(X:Cx)(W:WX)(q:Bool)(s:Stmt)(f:SF):Prop:=PS X s (tS X.K aj W q f)
def Aj(aj:aK)(X:Cx)(W:WX)(q:Bool)(s:List Stmt)(f:SF):Prop:=PSs X s (tS X.K aj W q f)
def PS.weak{X:Cx}{e:Stmt}{t t':TS}(h:PS X e t)(k:∀D σ H,t' D σ H->t D σ H):PS X e t':=⟨λpins s σ H D I z=>h.run pins s σ H D I (k D σ H z)⟩
def PSs.weak{X:Cx}{e:List Stmt}{t t':TS}(h:PSs X e t)(k:∀D σ H,t' D σ H->t D σ H):PSs X e t':=⟨λpins s σ H D I z=>h.run pins s σ H D I (k D σ H z)⟩
def gOf(f:QF):GF:=λM Z=>(f M Z).at M
def ajd(f:QT):GT:=λM Z=>(f M Z).at M
section
variable{X:Cx}{aj:aK}{W:WX}{q:Bool}{a b e:Expr}{pos:Pos}
def ajE{f:QF}(h:QE aj X W e f):GE aj X W q e (gOf f):=PE.weak h λσ H Q ⟨g,Z,M,I,z⟩=>
 ⟨g,Z,M,I,(Out.jx z).mono (λd k v H' e r=>k v H' g (Gr.ex e) (I.ex e) r) λx k H' c dd e r=>k H' g c dd (Gr.ex e) (I.ex e) r⟩
def ap7{f:QT}(h:vo aj X W e f):GTe aj X W q e (ajd f):=PT.weak h λσ H Q ⟨g,Z,M,I,z⟩=>
 ⟨g,Z,M,I,(Out.jx z).mono (λd k H' e=>k H' g (Gr.ex e) (I.ex e)) λx k H' c dd e r=>k H' g c dd (Gr.ex e) (I.ex e) r⟩
def aD:SF:=λM Z=>.next Z M
def ak(f k:SF):SF:=λM Z=>match f M Z with
 |.next Z' M'=>k M' Z'
 |o=>o
def ami:Aj aj X W q [] aD:=PSs.weak pss_nil λD σ H ⟨g,Z,M,I,z⟩=>z σ H g .refl I
def aoJ{s:Stmt}{f:SF}(h:SE aj X W q s f):Aj aj X W q [s] f:=pss_one h
def alg{s:Stmt}{ss:List Stmt}{f k:SF}(h:SE aj X W q s f)(hs:Aj aj X W q ss k):Aj aj X W q (s::ss) (ak f k):=by
 refine PSs.weak (pss_cons h hs) λD σ H ⟨g,Z,M,I,z⟩=>?_;refine⟨g,Z,M,I,?_⟩;unfold ak at z;cases hf:f M Z with
 |next Z' M'=>
  rw[hf]at z;exact λσ' H' g' r I'=>tS.go I' r z
 |ret d M'=>rw[hf]at z;exact z
 |brk Z' M'=>rw[hf]at z;exact z
 |cont Z' M'=>rw[hf]at z;exact z
 |exc x Z' M'=>rw[hf]at z;exact z
 |bad=>rw[hf]at z;exact z
def aY.then{α:Type}(o:aY α)(Z:Env)(k:α->Mo->vK):vK:=
 match o with
 |.ok a M=>k a M
 |.exc x M=>.exc x Z M
 |.bad=>.bad
@[simp]theorem aY.Xo {α:Type} (a:α) (M:Mo) (Z:Env) (k:α->Mo->vK):(aY.ok a M).then Z k=k a M:=rfl
@[simp]theorem aY.ahU {α:Type} (x:dX) (M:Mo) (Z:Env) (k:α->Mo->vK):(aY.exc x M:aY α).then Z k=.exc x Z M:=rfl
@[simp]theorem aY.ahS {α:Type} (Z:Env) (k:α->Mo->vK):(aY.bad:aY α).then Z k=.bad:=rfl
def dB{α:Type}{K:avC}{g:Gh}{H:Hp}{σ:L2.St}{Z:Env}{o:aY α}{k:α->Mo->vK}{nx bk ct:Env->Mo->Prop}{rt:Dat->Mo->Prop}(h:(o.then Z k).sat nx rt bk ct (sX K aj W q g H)):o.sat (λa M=>(k a M).sat nx rt bk ct (sX K aj W q g H)) (gE K aj W q g H σ Z):=by
 cases o with
 |ok a M=>exact h
 |exc x M=>exact λH' g' c dd r I z=>h σ H' g' c dd r I z.fr
 |bad=>exact h
def aU(tg:dU)(f:GF):SF:=λM Z=>(f M Z).then Z λd M'=>match tg d Z with
 |some Z'=>.next Z' M'
 |none=>.bad
def aaM{tg:Expr}{js:List Nat}{tf:dU}{f:GF}(he:GE aj X W q e f)(hg:QG aj X tg js tf)(hs:swapsWithSole [tg] e pos.line X.env=pure false)(hw:swappedStores [tg] e X.env=pure none)(h1:(assignEach [tg] X.env).map (·.2)=[assign tg X.env]):SE aj X W q (.Assign [tg] e pos) (aU tf f):=by
 refine PS.weak (ps_asg he hg hs hw h1) λD σ H ⟨g,Z,M,I,z⟩=>?_;refine tE.go I (dB (σ:=σ) z) λd M' v H' g' k r I' rv=>?_;split at k
 .next Z' e'=>exact⟨g',Z,M',d,Z',I',rv,e',λvs I2=>k _ H' g' r I2⟩
 .exact awN k
def cD(f:GF):SF:=λM Z=>(f M Z).then Z λ_ M'=>.next Z M'
def Xx{f:GF}(he:GE aj X W q e f)(hs:swapsWith e none pos.line X.env=pure false):SE aj X W q (.Expr e pos) (cD f):=by refine PS.weak (ps_expr he hs) λD σ H ⟨g,Z,M,I,z⟩=>?_;exact tE.go I (dB (σ:=σ) z) λd M' v H' g' k r I' rv=>k σ H' g' r I'
end
def Vp:Cell->Cell
 |.mut xs=>.dat (.list xs)
 |c=>c
def uR(Z:Env):Env:=Z.map λo=>o.map Vp
section
variable{K:avC}{aj:aK}{W:WX}{q:Bool}{g:Gh}{H:Hp}{σ:L2.St}{Z:Env}{M:Mo}
theorem iD.less{g':Gh}{l:Addr}(e:g'.tbl=g.tbl)(n:∀a,g'.A a->g.A a):∀{b:Bool} {kvs:List (Dat×Dat)},iD K aj g H l b kvs->iD K aj g' H l b kvs
 |false,_,⟨kv,h1,h2,h3⟩=>⟨kv,h1,h2,h3.less e n⟩
 |true,_,⟨o,xs,vs,h1,h2,h3,h4,h5,h6⟩=>⟨o,xs,vs,h1,h2,h3,h4.less e n,h5,h6.less e n⟩
theorem eX.less{g':Gh}{h:Nat}{f:Str}{v:V}(e:g'.tbl=g.tbl)(e2:g'.ow=g.ow)(n:∀a,g'.A a->g.A a):∀{fl:jD},eX K aj g H h f v fl->eX K aj g' H h f v fl
 |.dat _,z=>Rep.less e n z
 |.lst _ _,⟨l,us,h1,h2,h3,h4,h5⟩=>⟨l,us,h1,h2,by rw[e2];exact h3,h4.less e n,by rw[e];exact h5⟩
 |.dic _ _,⟨l,h1,h2,h3⟩=>⟨l,h1,by rw[e2];exact h2,h3.less e n⟩
theorem cH.less{g':Gh}{h:Nat}(e:g'.tbl=g.tbl)(e2:g'.ow=g.ow)(n:∀a,g'.A a->g.A a):∀{fs:LsS V} {gs:LsS jD},cH K aj g H h fs gs->cH K aj g' H h fs gs
 |_,_,.nil=>.nil
 |_,_,.cons z t=>.cons (eX.less e e2 n z) (cH.less e e2 n t)
theorem gM.less{g':Gh}(e:g'.tbl=g.tbl)(e2:g'.ow=g.ow)(n:∀a,g'.A a->g.A a)(w:gM K aj g H M):gM K aj g' H M where
 len:=by rw[e];exact w.len
 inj:=by rw[e];exact w.inj
 ins:=λh a i ha hi hc=>by
  rw[e]at ha;let⟨C,dx,fs,c1,c2,c3⟩:=w.ins h a i ha hi hc
  exact⟨C,dx,fs,c1,c2,c3.less e e2 n⟩
 nd:=w.nd
 fd:=w.fd
 tw:=by rw[e,e2];exact w.tw
 dm:=w.dm
 nc:=w.nc
def Ul{i:Nat}{c:Cell}(h:(uR Z)[i]?=some (some c)):∃c',Z[i]?=some (some c')/\c=Vp c':=by
 unfold uR at h;rw[avQ]at h;cases hr:Z[i]? with
 |none=>rw[hr]at h;cases h
 |some o=>
  rw[hr]at h;cases o with
  |none=>cases h
  |some c'=>
   cases h;exact⟨c',rfl,rfl⟩
theorem SInv.uR(I:SInv K aj σ H g Z M):SInv K aj σ H g.fr (uR Z) M where
 kd:=⟨λa z=>I.kd.ob a (yO g a z),λa z=>awN z,λa z=>⟨(I.kd.lc a z).1,λy=>y⟩⟩
 wok:=gM.less (g:=g) (g':=g.fr) rfl rfl (yO g) I.wok
 len:=by unfold Rf.uR;rw[avN];exact I.len
 dat:=λi d h=>by
  let⟨c,h1,h2⟩:=Ul h
  cases c with
  |dat d'=>
   cases h2;let⟨v,e1,e2⟩:=I.dat i _ h1
   exact⟨v,e1,e2.fr⟩
  | «mut» xs=>
   cases h2;let⟨l,us,e1,e2,e3,e4⟩:=I.own i _ h1
   refine⟨_,e1,.lst (.inl ⟨.inl e2,λz=>?_⟩) e4.fr⟩;rcases z with z|z|z
   .exact I.kd.lo l e3 z
   .exact(I.kd.lc l z).2 e3
   .exact z
 own:=λi xs h=>by
  let⟨c,h1,h2⟩:=Ul h
  cases c<;>cases h2
 sep:=λi j xs ys l ne h1=>by
  let⟨c,h1,h2⟩:=Ul h1
  cases c<;>cases h2
end
section
variable{K:avC}{aj:aK}{W:WX}{q:Bool}{g g':Gh}{H H':Hp}{σ:L2.St}{Z:Env}{M:Mo}
theorem Kd.fr(k:Kd g H):Kd g.fr H:=⟨λa z=>k.ob a (yO g a z),λa z=>awN z,λa z=>⟨(k.lc a z).1,λy=>y⟩⟩
theorem gM.fr(w:gM K aj g H M):gM K aj g.fr H M:=gM.less (g:=g) (g':=g.fr) rfl rfl (yO g) w
def bB{α:Type}{l:List (Option α)}{j i:Nat}{c:α}{o:Option α}(h:(l.set j o)[i]?=some (some c)):(j=i/\o=some c/\j<l.length)\/(j≠i/\l[i]?=some (some c)):=by
 by_cases z:j=i
 .subst z;have hj:j<l.length:=by
   have:=(avH.mp h).1;rw[av4]at this;exact this
  rw[avV hj]at h;exact .inl ⟨rfl,av0 h,hj⟩
 .rw[avL z]at h;exact .inr ⟨z,h⟩
def SInv.aoo{j:Nat}{l:Addr}{us:List V}{xs:List Dat}(I:SInv K aj σ H g Z M)(n:H l=none)(e:Ex H H')(hl:H' l=some (.lst us))(r:aA K (g.add l) H' us xs):SInv K aj (σ.set j (some (.ref l))) H' (g.add l) (Z.set j (some (.mut xs))) M:=by
 have I1:=I.add n e hl awM;have nl:∀(i:Nat) (ys:List Dat),Z[i]?=some (some (.mut ys))->σ[i]?≠some (some (.ref l)):=λi ys h z=>by
  let⟨l',us',h1,h2,_⟩:=I.own i ys h
  rw[z]at h1;cases h1;rw[n]at h2;cases h2
 refine⟨I1.kd,I1.wok,by rw[av4,av4];exact I.len,λi d h=>?_,λi ys h=>?_,λi k ys zs a ne h1 h2 h3 h4=>?_⟩
 .rcases bB h with⟨_,h,_⟩|⟨ne,h⟩
  .cases h
  .rw[avL ne];exact I1.dat i d h
 .rcases bB h with⟨rfl,h,hj⟩|⟨ne,h⟩
  .cases h;exact⟨l,us,by rw[avV (by rw[I.len];exact hj)],hl,.inr rfl,r⟩
  .rw[avL ne];exact I1.own i ys h
 .rcases bB h1 with⟨rfl,h1,hj⟩|⟨n1,h1⟩
  .rcases bB h2 with⟨rfl,h2,_⟩|⟨n2,h2⟩
   .exact ne rfl
   .rw[avV (by rw[I.len];exact hj)]at h3;cases h3;rw[avL n2]at h4;exact nl k zs h2 h4
  .rcases bB h2 with⟨rfl,h2,hj⟩|⟨n2,h2⟩
   .rw[avV (by rw[I.len];exact hj)]at h4;cases h4;rw[avL n1]at h3;exact nl i ys h1 h3
   .rw[avL n1]at h3;rw[avL n2]at h4;exact I.sep i k ys zs a ne h1 h2 h3 h4
def eX.loc{l:Addr}{o o':HO}{h:Nat}{f:Str}{v:V}(k:Kd g H)(hl:H l=some o)(lo:g.Lo l):∀{fl:jD},eX K aj g H h f v fl->eX K aj g (upd H l o') h f v fl:=λ{fl} z=>by
 have r:Gr true g g H (upd H l o'):=Gr.upd k hl (.inr lo);cases fl with
 |dat d=>exact Rep.gr r k z
 |lst n xs=>
  let⟨a,ws,h1,h2,h3,h4,h5⟩:=z
  exact⟨a,ws,h1,by rw[upd_ne (λz=>by subst z;exact k.lo _ lo (.inr (by rw[h3];exact λz=>nomatch z)))];exact h2,h3,h4.gr r k,h5⟩
 |dic n kvs=>
  let⟨a,h1,h2,h3⟩:=z
  have na:a≠l:=λz=>by subst z;exact k.lo _ lo (.inr (by rw[h2];exact λz=>nomatch z))
  refine⟨a,h1,h2,?_⟩;cases n with
  |false=>
   let⟨kv,h3,h4,h5⟩:=h3
   exact⟨kv,by rw[upd_ne na];exact h3,h4,h5.gr r k⟩
  |true=>
   let⟨o,xs,vs,h3,h4,h5,h6,h7,h8⟩:=h3
   exact⟨o,xs,vs,by rw[upd_ne na];exact h3,h4,h5,h6.gr r k,h7,h8.gr r k⟩
theorem cH.loc{l:Addr}{o o':HO}{h:Nat}(k:Kd g H)(hl:H l=some o)(lo:g.Lo l):∀{fs:LsS V} {gs:LsS jD},cH K aj g H h fs gs->cH K aj g (upd H l o') h fs gs
 |_,_,.nil=>.nil
 |_,_,.cons z t=>.cons (eX.loc k hl lo z) (cH.loc k hl lo t)
theorem gM.loc{l:Addr}{o o':HO}(k:Kd g H)(hl:H l=some o)(lo:g.Lo l)(w:gM K aj g H M):gM K aj g (upd H l o') M where
 len:=w.len
 inj:=w.inj
 ins:=λh a i ha hi hc=>by
  let⟨C,dx,fs,c1,c2,c3⟩:=w.ins h a i ha hi hc
  exact⟨C,dx,fs,c1,by rw[upd_ne (λz=>by subst z;exact k.lo _ lo (.inl (avK ha)))];exact c2,c3.loc k hl lo⟩
 nd:=w.nd
 fd:=w.fd
 tw:=w.tw
 dm:=w.dm
 nc:=w.nc
def SInv.change{j:Nat}{xs ys:List Dat}(I:SInv K aj σ H g Z M)(hj:Z[j]?=some (some (.mut xs))):∃l us,σ[j]?=some (some (.ref l))/\H l=some (.lst us)/\g.Lo l/\aA K g H us xs/\∀us',aA K g H us' ys->SInv K aj σ (upd H l (.lst us')) g (Z.set j (some (.mut ys))) M:=by
 let⟨l,us,h1,h2,h3,h4⟩:=I.own j xs hj
 refine⟨l,us,h1,h2,h3,h4,λus' r=>?_⟩;have gr:Gr true g g H (upd H l (.lst us')):=Gr.upd I.kd h2 (.inr h3);refine⟨I.kd.upd awM,I.wok.loc I.kd h2 h3,by rw[av4];exact I.len,λi d h=>?_,λi zs h=>?_,λi k zs ws a ne e1 e2 e3 e4=>?_⟩
 .rcases bB h with⟨_,h,_⟩|⟨ne,h⟩
  .cases h
  .let⟨v,e1,e2⟩:=I.dat i d h
   exact⟨v,e1,e2.gr gr I.kd⟩
 .rcases bB h with⟨rfl,h,_⟩|⟨ne,h⟩
  .cases h;exact⟨l,us',h1,awU,h3,r.gr gr I.kd⟩
  .let⟨l',ws,e1,e2,e3,e4⟩:=I.own i zs h
   have nl:l'≠l:=λz=>by
    subst z;exact I.sep i j zs xs l' (Ne.symm ne) h hj e1 h1
   exact⟨l',ws,e1,by rw[upd_ne nl];exact e2,e3,e4.gr gr I.kd⟩
 .have k1:∃xs,Z[i]?=some (some (.mut xs)):=by
   rcases bB e1 with⟨rfl,_,_⟩|⟨_,h⟩
   .exact⟨xs,hj⟩
   .exact⟨zs,h⟩
  have k2:∃xs,Z[k]?=some (some (.mut xs)):=by
   rcases bB e2 with⟨rfl,_,_⟩|⟨_,h⟩
   .exact⟨xs,hj⟩
   .exact⟨ws,h⟩
  let⟨x1,k1⟩:=k1
  let⟨x2,k2⟩:=k2
  exact I.sep i k x1 x2 a ne k1 k2 e3 e4
end
section
variable{X:Cx}{aj:aK}{W:WX}{q:Bool}{a b e:Expr}{pos:Pos}
def aM(f:QF):SF:=λM Z=>((f M (uR Z)).at M).then Z λd M'=>.ret d M'
def cR(f:GF):SF:=λM Z=>(f M Z).then Z λd M'=>.ret d M'
def anO{f:QF}(he:QE aj X W e f):SE aj X W q (.Return (some e) pos) (aM f):=by
 refine PS.weak (ps_ret he) λD σ H ⟨g,Z,M,I,z⟩=>?_;refine⟨g.fr,uR Z,M,I.uR,?_⟩;unfold aM at z;cases hf:f M (uR Z) with
 |ok d=>
  rw[hf]at z;exact λv H' e r=>z v H' g (Gr.ex e) (I.ex e).kd.fr (I.ex e).wok.fr r
 |exc x=>
  rw[hf]at z;exact λH' c dd e r=>z σ H' g c dd (Gr.ex e) (I.ex e) r
 |bad=>rw[hf]at z;exact awN z
def aly{f:GF}(he:GE aj X W q e f):SE aj X W q (.Return (some e) pos) (cR f):=by refine PS.weak (ps_ret he) λD σ H ⟨g,Z,M,I,z⟩=>?_;exact tE.go I (dB (σ:=σ) z) λd M' v H' g' k r I' rv=>k v H' g' r I'.kd.fr I'.wok.fr rv.fr
def bf(t:QT)(f k:SF):SF:=λM Z=>((t M (uR Z)).at M).then Z λc M'=>if c=true then f M' Z else k M' Z
def aru(t:GT)(f k:SF):SF:=λM Z=>(t M Z).then Z λc M'=>if c=true then f M' Z else k M' Z
def apf{c:Expr}{s1 s2:List Stmt}{t:QT}{f k:SF}(hc:vo aj X W c t)(h1:Aj aj X W q s1 f)(h2:Aj aj X W q s2 k):SE aj X W q (.If c s1 s2 pos) (bf t f k):=by
 refine PS.weak (ps_if hc h1 h2) λD σ H ⟨g,Z,M,I,z⟩=>?_;refine⟨g.fr,uR Z,M,I.uR,?_⟩;unfold bf at z;cases hf:t M (uR Z) with
 |ok d=>
  rw[hf]at z;intro H' e;cases d with
  |true=>exact tS.go (I.ex e) (Gr.ex e) z
  |false=>exact tS.go (I.ex e) (Gr.ex e) z
 |exc x=>
  rw[hf]at z;exact λH' c dd e r=>z σ H' g c dd (Gr.ex e) (I.ex e) r
 |bad=>rw[hf]at z;exact awN z
def dY(tg:dU)(body:SF):List Dat->Mo->Env->vK
 |[],M,Z=>.next Z M
 |d::ds,M,Z=>match tg d Z with
  |none=>.bad
  |some Z1=>match body M Z1 with
   |.next Z2 M2=>dY tg body ds M2 Z2
   |.cont Z2 M2=>dY tg body ds M2 Z2
   |.brk Z2 M2=>.next Z2 M2
   |.ret d M2=>.ret d M2
   |.exc x Z2 M2=>.exc x Z2 M2
   |.bad=>.bad
def nQ(it:IF)(tg:dU)(body:SF):SF:=λM Z=>((it M Z).at M).then Z λds M'=>dY tg body ds M' Z
def aoK{tg iter:Expr}{body:List Stmt}{it:IF}{js:List Nat}{tf:dU}{f:SF}(hp:PassesOwn (model X.prog X.w) X.A X.env X.xe)(hc:X.calm=true)(hi:QI aj X W true tg iter it)(hg:QG aj X tg js tf)(hb:Aj aj X W q body f)(hs:∀x,foldedSetIterable iter X.env x=pure x) :
  SE aj X W q (.For tg iter body [] pos) (nQ it tf f):=by
 refine PS.weak (ps_for hp hc hi hg hb hs) λD σ H ⟨g,Z,M,I,z⟩=>?_;refine⟨g,Z,M,I,?_⟩;unfold nQ at z;cases hf:it M Z with
 |exc x=>
  rw[hf]at z;exact λH' c dd e r=>z σ H' g c dd (Gr.ex e) (I.ex e) r.fr
 |bad=>rw[hf]at z;exact awN z
 |ok ds=>
  rw[hf]at z;intro J C H1 e1 w c1 firm;have firm:=firm rfl;have z:(dY tf f ds M Z).sat (sN X.K aj q D.nx g H) (sR X.K aj q D.rt g H) (sN X.K aj q D.bk g H) (sN X.K aj q D.ct g H) (sX X.K aj W q g H):=z
  let Pv:Nat->L2.St->Hp->Prop:=λi σi Hi=>i<=ds.length/\∃gi ρi Mi,Gr q g gi H Hi/\SInv X.K aj σi Hi gi ρi Mi/\C gi Hi/\(dY tf f (ds.drop i) Mi ρi).sat (sN X.K aj q D.nx g H) (sR X.K aj q D.rt g H) (sN X.K aj q D.bk g H) (sN X.K aj q D.ct g H) (sX X.K aj W q g H)
  refine⟨λi m σi Hi=>m=ds.length-i/\Pv i σi Hi,⟨ds.length,rfl,awg _,g,Z,M,Gr.ex e1,I.ex e1,c1,by rw[awC];exact z⟩,?_⟩;rintro i m σi Hi ⟨rfl,hi,gi,ρi,Mi,ri,Ii,Ci,zi⟩;by_cases hlt:i<ds.length
  .refine .inr ⟨w.go _ i Hi Ci hlt,Pv (i+1),λσ' H' p=>⟨ds.length-(i+1),#[],rfl,p⟩,λx H' y=>?_⟩;have hd:ds[i]?=some ds[i]:=avE hlt;let⟨e2,rx⟩:=w.yld _ i Hi x H' _ Ii.kd Ci hd y
   rw[awi hlt,dY]at zi;split at zi
   .exact awN zi
   .next Z1 he=>
    have I2:=Ii.ex e2;refine⟨gi,ρi,Mi,_,Z1,I2,rx,he,λvs I3=>⟨gi,Z1,Mi,I3,?_⟩⟩;have r2:=ri.trans (Gr.ex e2);cases hb':f Mi Z1 with
    |next Z2 M2=>
     rw[hb']at zi;exact λσ' H2 g2 r I'=>⟨hlt,g2,Z2,M2,r2.trans r,I',firm q gi g2 H' H2 I2.kd (w.ex _ _ _ Ii.kd Ci e2) r,zi⟩
    |cont Z2 M2=>
     rw[hb']at zi;exact λσ' H2 g2 r I'=>⟨hlt,g2,Z2,M2,r2.trans r,I',firm q gi g2 H' H2 I2.kd (w.ex _ _ _ Ii.kd Ci e2) r,zi⟩
    |brk Z2 M2=>
     rw[hb']at zi;exact sN.gr r2 zi
    |ret d M2=>
     rw[hb']at zi;exact sR.gr r2 zi
    |exc x Z2 M2=>
     rw[hb']at zi;exact sX.gr r2 zi
    |bad=>rw[hb']at zi;exact awN zi
  .have e:i=ds.length:=#[];refine .inl ⟨w.stop _ i Hi Ci e,?_⟩;rw[e,awo]at zi;exact zi σi Hi gi ri Ii
def Jg(j:Nat)(f:QF):SF:=λM Z=>match Z[j]? with
 |some #[.int i]=>((f M Z).at M).then Z λd M'=>match d with
  |.int k=>.next (Z.set j #[.int (i+k)]) M'
  |_=>.bad
 |_=>.bad
def al6{j:Nat}{x:Str}{f:QF}{pos':Pos}(hN:X.N.Nodup)(hi:X.N[j]?=some x)(hx:Loc X.env.scope x)(hf:X.fn x=true\/X.env.scope.names.lookup x=some .local)(he:QE aj X W e f):SE aj X W q (.AugAssign (.Name x pos') .Add e pos) (Jg j f):=by
 refine PS.weak (ps_aug hN hi hx he ip_add hf) λD σ H ⟨g,Z,M,I,z⟩=>?_;unfold Jg at z;split at z
 .next i hj=>
  let⟨v,h1,h2⟩:=I.dat j _ hj
  cases h2;refine⟨.int i,h1,⟨g,Z,M,I,?_⟩⟩;cases hf':f M Z with
  |exc x=>rw[hf']at z;exact λH' c dd e r=>z σ H' g c dd (Gr.ex e) (I.ex e) r.fr
  |bad=>rw[hf']at z;exact awN z
  |ok d=>
   rw[hf']at z;intro u H' e r;cases d with
   |int k=>
    cases r;exact⟨i,k,rfl,rfl,z _ H' g (Gr.ex e) ((I.ex e).set (.int _))⟩
   |_=>exact awN z
 .exact awN z
def FE(aj:aK)(X:Cx)(W:WX)(e:Expr)(f:IF):Prop:=PE X e (tFr X.K aj W f)
def yx(j:Nat)(f:IF):SF:=λM Z=>((f M Z).at M).then Z λxs M'=>.next (Z.set j (some (.mut xs))) M'
def agx{j:Nat}{f:IF}(D:Ends)(σ:L2.St)(H:Hp)(h:tS X.K aj W q (yx j f) D σ H):tAsg (tFr X.K aj W f) (gName j) D σ H:=by
 let⟨g,Z,M,I,z⟩:=h
 refine⟨g,Z,M,I,?_⟩;unfold yx at z;cases hf:f M Z with
 |exc x=>rw[hf]at z;exact λH' c dd e r=>z σ H' g c dd (Gr.ex e) (I.ex e) r.fr
 |bad=>rw[hf]at z;exact awN z
 |ok xs=>
  rw[hf]at z;intro l us H' n e hl r;have gr:Gr true g (g.add l) H H':=Gh.Cy n e;refine z _ H' (g.add l) ?_ (I.aoo n e hl r);cases q with
  |true=>exact gr
  |false=>exact gr.loud
def agb{j:Nat}{x:Str}{f:IF}{pos':Pos}(hN:X.N.Nodup)(hi:X.N[j]?=some x)(hx:Loc X.env.scope x)(hf:X.fn x=true\/X.env.scope.names.lookup x=some .local)(he:FE aj X W e f)(hs:swapsWith e (some (.Name x pos')) pos.line X.env=pure false):SE aj X W q (.Assign [.Name x pos'] e pos) (yx j f):=
 PS.weak (ps_set hN hi hx he hs hf) λD σ H h=>agx D σ H h
def Ie(f:QA):IF:=λM Z=>(f M Z).bind λxs=>Out.when (decide (xs.length<=100000)) (.ok xs)
def aik{K:avC}{g:Gh}{H:Hp}{l:Addr}{vs:List V}{ds:List Dat}(k:Kd g H)(n:H l=none)(r:aA K g H vs ds){o:HO}:aA K (g.add l) (upd H l o) vs ds:=r.gr (Gh.Cy n (Ex.new n)) k
def ant{es:List Expr}{fr:QA}(h:Ko aj X W es fr):FE aj X W (.List es pos) (Ie fr):=
 PE.weak (pe_lst h) λσ H Q ⟨g,Z,M,I,h⟩=>by
  refine R8.go I h.bnd λds vs H1 h1 e1 r1=>?_;let⟨hz,h1⟩:=h1.kJ
  have hl:vs.length<=100000:=by rw[r1.length];exact awP hz
  exact⟨sz_of hl,λp np=>h1 p vs _ (GD e1 p np) (e1.trans (Ex.new np)) awU (aik (I.kd.ex e1) np r1)⟩
def aau:Dat->Out (List Dat)
 |.list ds=>.ok ds
 |.tuple ds=>.ok ds
 |_=>.bad
def ajr(f:QF):IF:=λM Z=>(f M Z).bind aau
def baseOk:Expr->Bool
 |.Call (.Name _ _) _ _ _=>false
 |_=>true
def gJ{o:Expr}{m:Str}{env:PySem.Env}{w:Sem Value}(h:baseOk o=true):attributeBase o m env w=w:=by
 cases o with
 | Call f as ks p=>cases f<;>first | rfl | cases h
 |_=>rfl
theorem yD{env:PySem.Env}{pos:Pos}:∀(es:List Expr),es.all nst=true->(backTo pos (starEach es env)).all (λx=>!x.1)=true
 |[],_=>#[rfl]
 |a::es,h=>by
  rw[awf,avD]at h;rw[bH h.1];have ih:=yD (env:=env) (pos:=pos) es h.2;unfold backTo at ih |-
  rw[List.map_cons,awf,ih];rfl
def few{env:PySem.Env}{pos:Pos}{es:List Expr}(h:es.all nst=true)(hl:es.length<30):((backTo pos (starEach es env)).all (λx=>!x.1)&&(backToKw pos (keywordEach [] env)).all (λx=>x.1.isSome)&&decide (es.length+([]:List Keyword).length+(if ([]:List Keyword).isEmpty then 0 else 1)<30))=true:=by rw[yD es h];have:(backToKw pos (keywordEach [] env)).all (λx=>x.1.isSome)=true:=#[rfl];rw[this];simpa using hl
def Gn(j:Nat)(f:QF):SF:=λM Z=>match Z[j]? with
 |some (some (.mut xs))=>((f M Z).at M).then Z λd M'=>if xs.length<100000 then .next (Z.set j (some (.mut (xs++[d])))) M' else .bad
 |_=>.bad
def amQ{j:Nat}{x:Str}{f:QF}{p apos:Pos}{epos:Pos}(hN:X.N[j]?=some x)(hv:Vis X.env.scope x)(hd:(x==("__debug__" : Str))=false)(hcd:(x==("__classdict__" : Str))=false)(he:QE aj X W e f)(hs:nst e=true)
  (hl:(apos.endLine==pos.line)=true):SE aj X W q (.Expr (.Call (.Attribute (.Name x p) "append" apos) [e] [] pos) epos) (Gn j f):=by
 have h0:=pe_var (X:=X) (pos:=p) hN hv hd hcd;have h1:=pa_cons he pa_nil (bH hs []);have key:=pe_bm (X:=X) (cpos:=pos) (apos:=apos) PySem.F.plainAttrs_list PySem.F.slot_list_append PySem.F.type_list_append mt_append h0 h1 (gJ rfl) (few (by simp[hs]) (by simp)) hl (bH hs []) #[rfl];refine PS.weak (ps_expr key #[rfl]) λD σ H ⟨g,Z,M,I,z⟩=>?_;unfold Gn at z;split at z
 .next xs hj=>
  let⟨l,us,e1,e2,e3,e4⟩:=I.own j xs hj
  refine⟨.ref l,e1,.inl ⟨rfl,us,sq_of e2⟩,⟨g,Z,M,I,?_⟩⟩;cases hf:f M Z with
  |exc x=>rw[hf]at z;exact λH' c dd e r=>z σ H' g c dd (Gr.ex e) (I.ex e) r.fr
  |bad=>rw[hf]at z;exact awN z
  |ok d=>
   rw[hf]at z;intro v H' e r;have z:(if xs.length<100000 then vK.next (Z.set j (some (.mut (xs++[d])))) M else .bad).sat (sN X.K aj q D.nx g H) (sR X.K aj q D.rt g H) (sN X.K aj q D.bk g H) (sN X.K aj q D.ct g H) (sX X.K aj W q g H):=z;split at z
   .next hlen=>
    have I1:=I.ex e;let⟨l',us',f1,f2,f3,f4,f5⟩:=I1.change (ys:=xs++[d]) hj
    rw[e1]at f1;cases f1;rw[e _ _ e2]at f2;cases f2;refine⟨l,us,v,rfl,rfl,e _ _ e2,sz_lt (by rw[e4.length];exact hlen),?_⟩;exact z _ _ g ((Gr.ex e).trans (Gr.upd I1.kd (e _ _ e2) (.inr f3))) (f5 _ (f4.append (.cons r .nil)))
   .exact awN z
 .exact awN z
def Ro(j:Nat)(fi f:QF):SF:=λM Z=>match Z[j]? with
 |some (some (.mut xs))=>((f M Z).at M).then Z λd M'=>((fi M' Z).at M').then Z λi M2=>match i with
  |.int k=>match ixN xs.length k with
   |some n=>.next (Z.set j (some (.mut (xs.set n d)))) M2
   |none=>.bad
  |_=>.bad
 |_=>.bad
def akO{j:Nat}{x:Str}{i:Expr}{f fi:QF}{p spos:Pos}(hN:X.N[j]?=some x)(hv:Vis X.env.scope x)(hd:(x==("__debug__" : Str))=false)(hcd:(x==("__classdict__" : Str))=false)(he:QE aj X W e f)(hi:QE aj X W i fi)
  (ha:∀v,assign (.Subscript (.Name x p) i spos) X.env v=(do
   let ov <-holding [v] (eval (.Name x p) X.env)
   let iv <-holding [v,ov] (eval i X.env)
   standAt spos
   holding [v,ov,iv] (setItem ov iv v)
   release [v,ov,iv] []))
  (hs:swapsWithSole [.Subscript (.Name x p) i spos] e pos.line X.env=pure false) (h1:(assignEach [.Subscript (.Name x p) i spos] X.env).map (·.2)=[assign (.Subscript (.Name x p) i spos) X.env]):SE aj X W q (.Assign [.Subscript (.Name x p) i spos] e pos) (Ro j fi f):=by
 have h0:=pe_var (X:=X) (pos:=p) hN hv hd hcd;refine PS.weak (ps_asg he (pg_sub h0 hi set_list ha) hs #[rfl] h1) λD σ H ⟨g,Z,M,I,z⟩=>?_;unfold Ro at z;split at z
 .next xs hj=>
  refine⟨g,Z,M,I,?_⟩;cases hf:f M Z with
  |exc x=>rw[hf]at z;exact λH' c dd e r=>z σ H' g c dd (Gr.ex e) (I.ex e) r.fr
  |bad=>rw[hf]at z;exact awN z
  |ok d=>
   rw[hf]at z;intro v H1 e1 r1;have I1:=I.ex e1;let⟨l,us,f1,f2,f3,f4⟩:=I1.own j xs hj
   refine⟨.ref l,f1,⟨g,Z,M,I1,?_⟩⟩;cases hfi:fi M Z with
   |exc x=>
    simp![Out.aeP,aY.Xo,hfi,Out.al0,aY.ahU]at z;exact λH' c dd e r=>z σ H' g c dd ((Gr.ex e1).trans (Gr.ex e)) (I1.ex e) r.fr
   |bad=>
    simp![Out.aeP,aY.Xo,hfi,Out.amF,aY.ahS]at z;exact awN z
   |ok k=>
    simp![Out.aeP,aY.Xo,hfi]at z;intro w H2 e2 r2;cases k with
    |int k=>
     simp only at z;split at z
     .next n hn=>
      have I2:=I1.ex e2;let⟨l',us',k1,k2,k3,k4,k5⟩:=I2.change (ys:=xs.set n d) hj
      rw[f1]at k1;cases k1;rw[e2 _ _ f2]at k2;cases k2;cases r2;refine⟨l,us,k,n,rfl,rfl,e2 _ _ f2,by rw[f4.length];exact hn,?_⟩;exact z _ _ g (((Gr.ex e1).trans (Gr.ex e2)).trans (Gr.upd I2.kd (e2 _ _ f2) (.inr k3))) (k5 _ (k4.set (r1.ex e2 I1.kd) n))
     .exact awN z
    |_=>exact awN z
 .exact awN z
end
structure Gc(g g':Gh)(H H':Hp):Prop where
 keep:∀a o,H a=some o->¬g.W a->H' a=some o
 dom:∀a,H' a=none->H a=none
 tbl:∃more,g'.tbl=g.tbl++more
 W:∀a,g.W a->g'.W a
 nW:∀a,g'.W a->g.W a\/H a=none
 Lc:g'.Lc=g.Lc
 Lo:g'.Lo=g.Lo
def YD(K:avC)(aj:aK)(n:Nat)(m:Mo->List Dat->Out Dat):Sp:=λvs H Q E=>vs.length=n/\∃g M ds,Kd g H/\gM K aj g H M/\aA K g H vs ds/\
 (m M ds).sat (λd=>∀v H',Ex H H'->Rep K g H' v d->Q v H') λx=>∀H' c dd,Ex H H'->tV K aj g H' x c dd->E c dd H'
def M9(K:avC)(aj:aK)(n:Nat)(m:Mo->List Dat->aY Dat):Sp:=λvs H Q E=>vs.length=n/\∃g M ds,Kd g H/\gM K aj g H M/\aA K g H vs ds/\
 (m M ds).sat (λd M'=>∀v H' g',Gc g g' H H'->Kd g' H'->gM K aj g' H' M'->Rep K g' H' v d->Q v H') λx M'=>∀H' g' c dd,Gc g g' H H'->Kd g' H'->gM K aj g' H' M'->tV K aj g' H' x c dd->E c dd H'
section
variable{K:avC}{aj:aK}{W:WX}{g g':Gh}{H H':Hp}{σ:L2.St}{Z:Env}{M M':Mo}
def Gc.gr(r:Gc g g' H H'):Gr false g g' H H':=⟨λa o h n _=>r.keep a o h n,(λz=>nomatch z),r.dom,r.tbl,r.W,r.nW,(λz=>nomatch z),r.Lc,λa h=>by rw[r.Lo];exact h,λa h=>by rw[r.Lo]at h;exact .inl h⟩
def SInv.call(r:Gc g g' H H')(k':Kd g' H')(w':gM K aj g' H' M')(I:SInv K aj σ H g Z M):SInv K aj σ H' g' Z M' where
 kd:=k'
 wok:=w'
 len:=I.len
 dat:=λi d h=>by
  let⟨v,h1,h2⟩:=I.dat i d h
  exact⟨v,h1,h2.gr r.gr I.kd⟩
 own:=λi xs h=>by
  let⟨l,us,h1,h2,h3,h4⟩:=I.own i xs h
  exact⟨l,us,h1,r.keep _ _ h2 (I.kd.lo l h3),by rw[r.Lo];exact h3,h4.gr r.gr I.kd⟩
 sep:=I.sep
def Gh.in(g:Gh):Gh:={ g with Lc:=λa=>g.Lc a\/g.Lo a,Lo:=λ_=>False }
def aa6(g:Gh)(a:Addr):g.in.A a↔g.A a:=by
 constructor
 .rintro(z|(z|z)|z)
  .exact .inl z
  .exact .inr (.inl z)
  .exact .inr (.inr z)
  .exact awN z
 .rintro(z|z|z)
  .exact .inl z
  .exact .inr (.inl (.inl z))
  .exact .inr (.inl (.inr z))
theorem Kd.in(k:Kd g H):Kd g.in H:=⟨λa z=>k.ob a ((aa6 g a).mp z),λa z=>awN z,λa z=>⟨z.elim (λz=>(k.lc a z).1) (λz=>k.lo a z),λy=>y⟩⟩
def ini(n:Nat)(ds:List Dat):Env:=ds.map (λd=>#[d])++List.replicate (n-ds.length) none
def adf{N:List Str}{vs:List V}{ds:List Dat}(k:Kd g H)(w:gM K aj g H M)(r:aA K g H vs ds):SInv K aj (start N vs) H g (ini N.length ds) M where
 kd:=k
 wok:=w
 len:=by unfold L2.start ini;rw[awa,awa,avN,avN,List.length_replicate,List.length_replicate,r.length]
 dat:=λi d h=>by
  unfold ini at h;unfold L2.start;by_cases hi:i<ds.length
  .rw[avS (by rw[avN];exact hi),avQ]at h;cases hd:ds[i]? with
   |none=>rw[hd]at h;cases h
   |some d'=>
    rw[hd]at h;cases h;let⟨v,h1,h2⟩:=r.get hd
    refine⟨v,?_,h2⟩;rw[avS (by rw[avN,r.length];exact hi),avQ,h1];rfl
  .rw[avX (by rw[avN];omega)]at h;rw[List.getElem?_replicate]at h
   left<;>cases h
 own:=λi xs h=>by
  unfold ini at h;by_cases hi:i<ds.length
  .rw[avS (by rw[avN];exact hi),avQ]at h;cases hd:ds[i]? with
   |none=>rw[hd]at h;cases h
   |some d'=>rw[hd]at h;cases h
  .rw[avX (by rw[avN];omega)]at h;rw[List.getElem?_replicate]at h
   left<;>cases h
 sep:=λi j xs ys l ne h=>by
  unfold ini at h;by_cases hi:i<ds.length
  .rw[avS (by rw[avN];exact hi),avQ]at h;cases hd:ds[i]? with
   |none=>rw[hd]at h;cases h
   |some d'=>rw[hd]at h;cases h
  .rw[avX (by rw[avN];omega)]at h;rw[List.getElem?_replicate]at h
   left<;>cases h
end
def mQ(n:Nat)(body:SF):Mo->List Dat->Out Dat:=λM ds=>match body M (ini n ds) with
 |.ret d _=>.ok d
 |.next _ _=>.ok .none
 |.exc x _ _=>.exc x
 |_=>.bad
def mG(n:Nat)(body:SF):Mo->List Dat->aY Dat:=λM ds=>match body M (ini n ds) with
 |.ret d M'=>.ok d M'
 |.next _ M'=>.ok .none M'
 |.exc x _ M'=>.exc x M'
 |_=>.bad
section
variable{P:Program}{w:World}{K:avC}{mg:Str->Option Value}{base:Heap}{aj:aK}
def ahX(E:XK):WX:=λc d _ H=>E c d H
def Rep.same{g g':Gh}{H:Hp}{v:V}{d:Dat}(e:g'.tbl=g.tbl)(n:∀a,g'.A a↔g.A a)(h:Rep K g H v d):Rep K g' H v d:=h.less e λa z=>(n a).mp z
def afh{g g':Gh}{H H':Hp}(r:Gr true g.in g' H H'):Ex H H':=λa o h=>by
 by_cases w:g.W a
 .exact r.keepW rfl a o h w
 .exact r.keep a o h w λz=>z
def amP{q:Bool}{g g':Gh}{H H':Hp}(r:Gr q g.in g' H H')(a:Addr):g'.fr.A a↔(g'.W a\/g.Lc a\/g.Lo a):=by
 have hl:g'.Lc=g.in.Lc:=r.Lc;constructor
 .rintro(z|z|z)
  .exact .inl z
  .have z:g'.Lc a:=z;rw[hl]at z;exact .inr z
  .exact awN z
 .rintro(z|z)
  .exact .inl z
  .refine .inr (.inl ?_);show g'.Lc a;rw[hl];exact z
def Fun.okC{C:CXT}{x qual:Str}{st:Stmt}{f:Addr}{fd:FuncData}{N ps:List Str}{k:Nat}{sp:Sp}(F:Fun K x qual st f fd)(S:FnScope N ps (defScope st))(len:∀vs H Q E,sp vs H Q E->vs.length=ps.length)
  (hbody:∀(cdv:Value) (A:Around) (outer:List PySem.Env) (s:Shared) (H:Hp) (vs:List V) (Q:VK) (E:XK),Room k (A.deeper (envOfC qual (defScope st) s.heap.objs.size f cdv))->sp vs H Q E->
   ∃t,PSs (cxOf C P w K mg base N qual (defScope st) f cdv A outer s H E) (defBody st) t/\t { nx:=λ_ H'=>Q .non H',rt:=Q } (start N vs) H):FnOk P w K mg base C (k+1) f fd ps sp:=by
 let⟨oc,od,kV,doc,pm,an,cdv,ct,osl,rfl,lk,hcd⟩:=F.ex
 exact fn_of lk hcd S len λA outer s H vs Q E hr hsp=>hbody cdv A outer s H vs Q E hr hsp
def aqL{C:CXT}{x qual:Str}{st:Stmt}{f:Addr}{fd:FuncData}{N ps:List Str}{k:Nat}{body:SF}(F:Fun K x qual st f fd)(S:FnScope N ps (defScope st))
  (hb:∀(cdv:Value) (A:Around) (outer:List PySem.Env) (s:Shared) (H:Hp) (E:XK),Room k (A.deeper (envOfC qual (defScope st) s.heap.objs.size f cdv))->Aj aj (cxOf C P w K mg base N qual (defScope st) f cdv A outer s H E) (ahX E) true (defBody st) body) :
  FnOk P w K mg base C (k+1) f fd ps (YD K aj ps.length (mQ N.length body)):=by
 refine Fun.okC F S (λvs H Q E h=>h.1) (λcdv A outer s H vs Q E hr h=>⟨_,hb cdv A outer s H E hr,?_⟩);let⟨hl,g,M,ds,kd,wk,rs,h⟩:=h
 have wk':gM K aj g.in H M:=gM.less (g:=g) (g':=g.in) rfl rfl (λa z=>(aa6 g a).mp z) wk;refine⟨g.in,ini N.length ds,M,adf kd.in wk' (aA.less (g:=g) (g':=g.in) rfl (λa z=>(aa6 g a).mp z) rs),?_⟩;have back:∀{g':Gh} {H':Hp},Gr true g.in g' H H'->∀a,g.A a↔g'.fr.A a:=λ{g' H'} r a=>by
  rw[amP r a];have e:=(r.qg rfl);have ew:g'.W a↔g.W a:=by unfold Gh.W;rw[e.1,e.2];rfl
  unfold Gh.A;rw[ew]
 unfold mQ at h;cases hf:body M (ini N.length ds) with
 |next Z' M'=>
  rw[hf]at h;exact λσ' H' g' r I'=>h _ H' (afh r) .non
 |ret d M'=>
  rw[hf]at h;exact λv H' g' r k' w' rv=>h v H' (afh r) (Rep.same (g:=g'.fr) (g':=g) (r.qg rfl).1.symm (back r) rv)
 |exc x Z' M'=>
  rw[hf]at h;exact λσ' H' g' c dd r I' rx=>h H' c dd (afh r) (tV.less (g:=g'.fr) (g':=g) (r.qg rfl).1.symm (λa z=>(back r a).mp z) rx)
 |brk Z' M'=>rw[hf]at h;exact awN h
 |cont Z' M'=>rw[hf]at h;exact awN h
 |bad=>rw[hf]at h;exact awN h
def aq6{x qual:Str}{st:Stmt}{f:Addr}{fd:FuncData}{N ps:List Str}{k:Nat}{body:SF}(F:Fun K x qual st f fd)(S:FnScope N ps (defScope st))
  (hb:∀(cdv:Value) (A:Around) (outer:List PySem.Env) (s:Shared) (H:Hp) (E:XK),Room k (A.deeper (envOfC qual (defScope st) s.heap.objs.size f cdv))->Aj aj (cxOf (L2.CX P w) P w K mg base N qual (defScope st) f cdv A outer s H E) (ahX E) false (defBody st) body) :
  FnOk P w K mg base (L2.CX P w) (k+1) f fd ps (M9 K aj ps.length (mG N.length body)):=by
 refine F.okX S (λvs H Q E h=>h.1) (λcdv A outer s H vs Q E hr h=>⟨_,hb cdv A outer s H E hr,?_⟩);let⟨hl,g,M,ds,kd,wk,rs,h⟩:=h
 have wk':gM K aj g.in H M:=gM.less (g:=g) (g':=g.in) rfl rfl (λa z=>(aa6 g a).mp z) wk;refine⟨g.in,ini N.length ds,M,adf kd.in wk' (aA.less (g:=g) (g':=g.in) rfl (λa z=>(aa6 g a).mp z) rs),?_⟩
 let gb:Gh->Gh:=λg'=>{ tbl:=g'.tbl,ow:=g'.ow,Lc:=g.Lc,Lo:=g.Lo }
 have gc:∀{g':Gh} {H':Hp},Gr false g.in g' H H'->Gc g (gb g') H H':=λ{g' H'} r=>⟨λa o h n=>r.keep a o h n λz=>z,r.dom,r.tbl,r.W,r.nW,rfl,rfl⟩;have eA:∀{g':Gh} {H':Hp},Gr false g.in g' H H'->∀a,(gb g').A a↔g'.fr.A a:=λ{g' H'} r a=>by
  rw[amP r a];exact Iff.rfl
 have kk:∀{g':Gh} {H':Hp},Gr false g.in g' H H'->Kd g'.fr H'->Kd (gb g') H':=λ{g' H'} r k'=>by
  have nw:∀a,(g.Lc a\/g.Lo a)->¬g'.W a:=λa z y=>by
   have:g'.fr.Lc a:=by show g'.Lc a;rw[show g'.Lc=g.in.Lc from r.Lc];exact z
   exact(k'.lc a this).1 y
  exact⟨λa z=>k'.ob a ((eA r a).mp z),λa z=>nw a (.inr z),λa z=>⟨nw a (.inl z),(kd.lc a z).2⟩⟩
 unfold mG at h;cases hf:body M (ini N.length ds) with
 |next Z' M'=>
  rw[hf]at h;exact λσ' H' g' r I'=>h _ H' (gb g') (gc r) (kk r I'.kd.fr) (gM.less (g:=g'.fr) (g':=gb g') rfl rfl (λa z=>(eA r a).mp z) I'.wok.fr) .non
 |ret d M'=>
  rw[hf]at h;exact λv H' g' r k' w' rv=>h v H' (gb g') (gc r) (kk r k') (gM.less (g:=g'.fr) (g':=gb g') rfl rfl (λa z=>(eA r a).mp z) w') (Rep.same (g:=g'.fr) (g':=gb g') rfl (eA r) rv)
 |exc x Z' M'=>
  rw[hf]at h;exact λσ' H' g' c dd r I' rx=>h H' (gb g') c dd (gc r) (kk r I'.kd.fr) (gM.less (g:=g'.fr) (g':=gb g') rfl rfl (λa z=>(eA r a).mp z) I'.wok.fr) (tV.less (g:=g'.fr) (g':=gb g') rfl (λa z=>(eA r a).mp z) rx)
 |brk Z' M'=>rw[hf]at h;exact awN h
 |cont Z' M'=>rw[hf]at h;exact awN h
 |bad=>rw[hf]at h;exact awN h
end
def aO(m:Mo->List Dat->Out Dat)(as:QA):QF:=λM Z=>(as M Z).bind λds=>m M ds
section
variable{X:Cx}{aj:aK}{W:WX}{q:Bool}{a b e:Expr}{es:List Expr}{pos p:Pos}{x:Str}{k:Nat}{f:Addr}{fd:FuncData}{ps:List Str}
def alZ{C:CXT}{m:Mo->List Dat->Out Dat}{as:QA}(tk:∀σ,PassesAt C X σ (WE W σ))(F:FnOk X.prog X.w X.K X.mg X.base C k f fd ps (YD X.K aj ps.length m))(hr:Room k X.A)(hg:Gl X x)(hm:X.mg x=some (.ref f))(hk:PySem.W.keepIn X.K (.ref f)=true)(hb:Binds X.K fd ps [])
  (ha:Ko aj X W (e::es) as) (hl:(e::es).length=ps.length) (hd:(x==("__debug__" : Str))=false) (hs:(e::es).all nst=true) (hn:∀M Z ds,as M Z=.ok ds->ds.length=(e::es).length):QE aj X W (.Call (.Name x p) (e::es) [] pos) (aO m as):=by
 have hs':=hs;rw[awf,avD]at hs';refine PE.weak (pe_callS (E:=λσ=>WE W σ) F hr hg hm hk hb tk ha hd (bH hs'.1 es) (star_any es hs'.2)) λσ H Q ⟨g,Z,M,I,h⟩=>?_;refine⟨g,Z,M,I,?_⟩;have h:=h.bnd;cases has:as M Z with
 |exc x=>rw[has]at h;exact h
 |bad=>rw[has]at h;exact h
 |ok ds=>
  rw[has]at h;have h:(m M ds).sat (λd=>∀v H',Ex H H'->Rep X.K g H' v d->Q v H') (sH X.K aj W g H σ):=h;intro vs H1 e1 r1;refine⟨by rw[r1.length,hn M Z ds has];exact hl,g,M,ds,I.kd.ex e1,I.wok.ex e1 I.kd,r1,h.mono (λd k v H' e' r'=>k v H' (e1.trans e') r') λx k H' c dd e' r'=>k H' c dd (e1.trans e') r'⟩
end
def aiX{n:Nat}(h:n<=16001):n<=sizeLine:=av2 h #[()]
def aqh{prog:Program}{w:World}{A:Around}{E:Value->Shared->Prop}{s:Shared}{l:Addr}{v0:Value}{vs:List Value}{Q:List Value->Shared->Prop}(hh:A.handled=none)(hl:s.heap.IsList l (v0::vs).toArray\/IsTup s.heap l (v0::vs).toArray)(hz:vs.length<=16000)
  (h:∀(h₂:Heap) (tk:Nat),(∀b o,s.heap.get? b=some o->h₂.get? b=some o)->Q [v0,.ref h₂.objs.size] { s with heap:=h₂.push { cls:=.type "list",data:=.seq vs.toArray },toks:=tk }):wpAny (model prog w) A (unpackItems (.ref l) 2 (some 1)) Q E s:=by
 have hll:l<s.heap.objs.size:=by rcases hl with⟨o,ho,_⟩|⟨o,ho,_⟩<;>exact Heap.lt_size ho
 have hlt:l≠s.heap.objs.size:=awb hll;have hsz:(v0::vs).toArray.size=vs.length+1:=by simp
 have hb:(v0::vs).toArray.size<=sizeLine:=aiX (by rw[hsz];omega);have hd:(v0::vs).toArray.toList.drop 1=vs:=by simp
 have ht:((v0::vs).toArray.toList.drop 0).take 1=[v0]:=by simp
 have fin:∀(h₂:Heap) (tk:Nat),(∀b o,b≠s.heap.objs.size->s.heap.get? b=some o->h₂.get? b=some o)->wpAny (model prog w) A (newList vs >>= λd=>pure ([v0]++[d]++[])) Q E { s with heap:=h₂,toks:=tk }:=λh₂ tk k=>by
  refine awQ (wpAny_newObj_type (awR ?_) (aiX (by simp;omega)));exact h h₂ tk λb o e=>k b o (awb (Heap.lt_size e)) e
 unfold unpackItems;refine awQ ?_;unfold notIterableAtAll;rcases hl with hl|hl
 .refine awQ (wpAny_specialOf hl.typeIs slot_list_iter.lookup (awR ?_));simp![awe,if_false];refine awQ (wpAny_holding (wpAny_pyIter_list hl ?_));refine awQ (wpAny_holding (PySem.W.kun_draw hlt 1 0 _ _ ⟨_,Heap.get?_push_size _ rfl,rfl,rfl⟩ (hl.push _) (by rw[hsz];omega) λh₁ i1 b1=>?_));have hl₁:=(hl.push _).extBut b1.extBut hlt;let⟨oi,hoi,_⟩:=id i1
  let⟨ol,hol,_⟩:=id hl₁
  rw[ht];refine awQ (wpAny_holding (PySem.W.kun_collect (s:={ s with heap:=h₁ }) (T:="list_iterator") (.inr (.inr (.inl rfl))) (Walks.list (A:=A.in1) hh s.heap.objs.size l hlt (v0::vs).toArray) (λj u st=>st.1.typeIs) (k:=1) (by rw[hsz];omega) ⟨i1,hl₁⟩ (Heap.lt_size hoi) (Heap.lt_size hol) (λh₂ tk hk=>?_) hb))
  rw[hd];show wpAny _ _ (if vs.length<0 then _ else newList (vs.take (vs.length-0)) >>= λd=>pure ([v0]++[d]++vs.drop (vs.length-0))) _ _ _;rw[awT (Nat.not_lt_zero _),Nat.sub_zero,List.take_length,awo];exact fin h₂ tk λb o ne e=>hk b o ne (b1.extBut b o ne (Heap.get?_push_of_some _ e))
 .refine awQ (wpAny_specialOf hl.typeIs slot_tuple_iter.lookup (awR ?_));simp![awe,if_false];refine awQ (wpAny_holding (iter_tuple hl ?_));refine awQ (wpAny_holding (draw_tuple hlt 1 0 _ _ ⟨_,Heap.get?_push_size _ rfl,rfl,rfl⟩ (hl.push _) (by rw[hsz];omega) λh₁ i1 b1=>?_));have hl₁:IsTup h₁ l (v0::vs).toArray:=(hl.push _).extBut b1.extBut hlt;let⟨oi,hoi,_⟩:=id i1
  let⟨ol,hol,_⟩:=id hl₁
  rw[ht];refine awQ (wpAny_holding (PySem.W.kun_collect (s:={ s with heap:=h₁ }) (T:="tuple_iterator") (.inr (.inr (.inr rfl))) (Walks.tuple (A:=A.in1) hh s.heap.objs.size l hlt (v0::vs).toArray) (λj u st=>st.1.typeIs) (k:=1) (by rw[hsz];omega) ⟨i1,hl₁⟩ (Heap.lt_size hoi) (Heap.lt_size hol) (λh₂ tk hk=>?_) hb))
  rw[hd];show wpAny _ _ (if vs.length<0 then _ else newList (vs.take (vs.length-0)) >>= λd=>pure ([v0]++[d]++vs.drop (vs.length-0))) _ _ _;rw[awT (Nat.not_lt_zero _),Nat.sub_zero,List.take_length,awo];exact fin h₂ tk λb o ne e=>hk b o ne (b1.extBut b o ne (Heap.get?_push_of_some _ e))
def ajK(K:avC)(i j:Nat):TG:=λv σ H Q=>∃a v0 us,v=.ref a/\(SqL K H a (v0::us)\/SqT K H a (v0::us))/\us.length<=16000/\∀D,H D=none->Q ((σ.set i (some v0)).set j (some (.ref D))) (upd H D (.lst us))
def XF(X:Cx)(j:Nat)(x:Str):Prop:=X.N[j]?=some x/\Loc X.env.scope x/\(X.fn x=true\/X.env.scope.names.lookup x=some .local)
def akp{X:Cx}{i j k:Nat}{x y:Str}{px py ps pos:Pos}(hc:X.calm=true)(hN:X.N.Nodup)(hx:XF X i x)(hy:XF X j y):PG X (.Tuple [.Name x px,.Starred (.Name y py) ps] k pos) (ajK X.K i j):=by
 refine⟨λpins s σ H v u Q I r h=>?_⟩;let⟨a,v0,us,rfl,hq,hz,q⟩:=h
 cases r;have e1:assign (.Tuple [.Name x px,.Starred (.Name y py) ps] k pos) X.env (.ref a)=(do standAt pos;unpack (.ref a) (assignEach [.Name x px,.Starred (.Name y py) ps] X.env)):=#[rfl];have e2:assignEach [.Name x px,.Starred (.Name y py) ps] X.env=[(false,assign (.Name x px) X.env),(true,assign (.Name y py) X.env)]:=#[rfl];rw[e1,e2];refine awQ (wpAny_standAt ?_);unfold unpack;obtain⟨w0,ws,hlw,rv0,rvs⟩:∃w0 ws,(s.heap.IsList a (w0::ws).toArray\/IsTup s.heap a (w0::ws).toArray)/\RelV v0 w0/\Vals us ws:=by
  rcases hq with hq|hq
  .let⟨its,rv,p,_⟩:=I.list hq
   cases rv with
   |cons r t=>exact⟨_,_,.inl p.isList,r,t⟩
  .let⟨its,rv,p,_⟩:=I.tuple hq
   cases rv with
   |cons r t=>exact⟨_,_,.inr p,r,t⟩
 refine awQ (wpAny_holding (aqh (I.ok.hd hc) hlw (by rw[<-rvs.length];exact hz) λh₂ tk hk=>?_));have I2:L2.Inv X pins σ H { s with heap:=h₂,toks:=tk }:=I.kept (t':=tk) hk;have I3:=I2.lnew (t':=tk) rvs (aiX #[]);refine assignInOrder_cons (wpAny_assign_Name (store_ok I3 hN hx.1 hx.2.1 rv0 (λs4 I4=>?_) hx.2.2));refine assignInOrder_cons (wpAny_assign_Name (store_ok I4 hN hy.1 hy.2.1 (v:=.ref h₂.objs.size) rfl (λs5 I5=>assignInOrder_nil ?_) hy.2.2));exact⟨_,_,I5,q _ I2.fresh⟩
section
variable{X:Cx}{aj:aK}{W:WX}{q:Bool}{e:Expr}{pos:Pos}
def aar(i j:Nat)(f:GF):SF:=λM Z=>(f M Z).then Z λd M'=>match d with
 |.list (d0::ds)=>if ds.length<=16000 then .next ((Z.set i #[d0]).set j #[.list ds]) M' else .bad
 |.tuple (d0::ds)=>if ds.length<=16000 then .next ((Z.set i #[d0]).set j #[.list ds]) M' else .bad
 |_=>.bad
def alj{i j k:Nat}{x y:Str}{px py ps tp:Pos}{f:GF}(hc:X.calm=true)(hN:X.N.Nodup)(hx:XF X i x)(hy:XF X j y)(he:GE aj X W q e f)(hs:swapsWithSole [.Tuple [.Name x px,.Starred (.Name y py) ps] k tp] e pos.line X.env=pure false)(hw:swappedStores [.Tuple [.Name x px,.Starred (.Name y py) ps] k tp] e X.env=pure none) :
  SE aj X W q (.Assign [.Tuple [.Name x px,.Starred (.Name y py) ps] k tp] e pos) (aar i j f):=by
 refine PS.weak (ps_asg he (akp hc hN hx hy) hs hw #[rfl]) λD σ H ⟨g,Z,M,I,z⟩=>?_;refine tE.go I (dB (σ:=σ) z) λd M' v H' g' kk r I' rv=>?_;have fin:∀{a:Addr} {v0:V} {us:List V} {d0:Dat} {ds:List Dat},v=.ref a->(SqL X.K H' a (v0::us)\/SqT X.K H' a (v0::us))->Rep X.K g' H' v0 d0->aA X.K g' H' us ds->(if ds.length<=16000 then vK.next ((Z.set i #[d0]).set j #[.list ds]) M' else .bad).sat (sN X.K aj q D.nx g H) (sR X.K aj q D.rt g H) (sN X.K aj q D.bk g H) (sN X.K aj q D.ct g H) (sX X.K aj W q g H)->ajK X.K i j v σ H' D.nx:=λ{a v0 us d0 ds} ev hq r0 rs kk=>by
  split at kk
  .next hz=>
   refine⟨a,v0,us,ev,hq,by rw[rs.length];exact hz,λp np=>?_⟩;have e1:=Ex.new (o:=.lst us) np;have I2:=I'.ex e1;refine kk _ _ g' (r.trans (Gr.ex e1)) ((I2.set (r0.ex e1 I'.kd)).set (.lst (.inl ⟨.inl awU,I'.kd.fresh np⟩) (rs.ex e1 I'.kd)))
  .exact awN kk
 split at kk
 .let⟨a,us,ev,s1,t1⟩:=fX rv.weak
  cases t1 with
  |cons r0 rs=>exact fin ev (.inl s1) r0 rs kk
 .let⟨a,us,ev,s1,t1⟩:=nJ rv.weak
  cases t1 with
  |cons r0 rs=>exact fin ev (.inr s1) r0 rs kk
 .exact awN kk
def Vs(i j:Nat)(f:GF):SF:=λM Z=>(f M Z).then Z λd M'=>.next ((Z.set i #[d]).set j #[d]) M'
def akD{i j:Nat}{x y:Str}{px py:Pos}{f:GF}(hN:X.N.Nodup)(hx:XF X i x)(hy:XF X j y)(he:GE aj X W q e f)(hw:swappedStores [.Name x px,.Name y py] e X.env=pure none):SE aj X W q (.Assign [.Name x px,.Name y py] e pos) (Vs i j f):=by refine PS.weak (ps_asg2 he (pg_name hN hx.1 hx.2.1 hx.2.2) (pg_name hN hy.1 hy.2.1 hy.2.2) #[rfl] hw) λD σ H ⟨g,Z,M,I,z⟩=>?_;exact tE.go I (dB (σ:=σ) z) λd M' v H' g' kk r I' rv=>kk _ H' g' r ((I'.set rv).set rv)
def sPN(js:List Nat)(as:QA):SF:=λM Z=>((as M Z).at M).then Z λds M'=>match uP js ds Z with
 |some Z'=>.next Z' M'
 |none=>.bad
def aok{j:Nat}{y:Str}{py:Pos}{elt tg iter:Expr}{cpos:Pos}{scope:Scope}{own:LsS Nat}{it:IF}{tgf:dU}{js:List Nat}{tt:QT}{te:QF}{ifs:List Expr}(hc:X.calm=true)(hN:X.N.Nodup)(hy:X.N[j]?=some y)(hyl:X.env.scope.names.lookup y=some .local)
  (hsw:swapsWith (.ListComp elt [⟨tg,iter,ifs,0⟩] scope cpos) (some (.Name y py)) pos.line X.env=pure true) (hi:QI aj X W false tg iter it) (ok:blkC X.N X.env.scope scope own=true) (hj:∀j∈js,j∈own.map (·.2))
  (hg:∀s H C cl fp,QG aj #[[[]]] tg js tgf)
  (ht:∀s H C cl fp,PTs #[[[]]] ifs (j7 X.K aj WF tt))
  (he:∀s H C cl fp,QE aj #[[[]]] WF elt te) (hs:∀x,foldedSetIterable iter X.env x=pure x) :
  SE aj X W q (.Assign [.Name y py] (.ListComp elt [⟨tg,iter,ifs,0⟩] scope cpos) pos) (aU (ao j) (gOf (dO it tgf (own.map (·.2)) tt te))):=by
 refine PS.weak (ps_setLc (g:=zp X.K aj js tgf) (tt:=j7 X.K aj WF tt) (te:=tQ X.K aj WF te) hc hN hy hyl hsw hi (blkOk_by ok) (λs H C cl fp=>hg s H C cl fp) ht (λs H C cl fp=>he s H C cl fp) hs) λD σ H ⟨g,Z,M,I,z⟩=>?_;refine ajY hj σ H _ ⟨g,Z,M,I,(Out.jx (dB (σ:=σ) z)).mono (λd kk v H' e r=>?_) λx kk H' c dd e r=>kk H' g c dd (Gr.ex e) (I.ex e) r⟩;exact kk _ H' g (Gr.ex e) ((I.ex e).set r)
end
inductive GV where
 |con (d:Dat)
 |fq (n:Nat) (m:Mo->List Dat->Out Dat)
 |fg (n:Nat) (m:Mo->List Dat->aY Dat)
 |dic (kvs:List (Str×Dat))
 |exc
 |exi (fs:List Str)
 |cls (n:Nat) (m:Mo->List Dat->aY Dat)
def GV.soft:GV->Bool
 |.con _=>false
 |.dic _=>false
 |.exc=>false
 |_=>true
inductive MV where
 |q (n:Nat) (m:Mo->List Dat->Out Dat)
 |g (n:Nat) (m:Mo->List Dat->aY Dat)
def FQ(P:Program)(w:World)(K:avC)(mg:Str->Option Value)(base:Heap)(aj:aK)(k:Nat)(f:Addr)(n:Nat)(m:Mo->List Dat->Out Dat):Prop:=
 ∃(fd:FuncData) (ps:List Str) (j:Nat),j<=k/\ps.length=n/\Binds K fd ps []/\FnOk P w K mg base (L2.CX P w) j f fd ps (YD K aj ps.length m)
def FG(P:Program)(w:World)(K:avC)(mg:Str->Option Value)(base:Heap)(aj:aK)(k:Nat)(f:Addr)(n:Nat)(m:Mo->List Dat->aY Dat):Prop:=
 ∃(fd:FuncData) (ps:List Str) (j:Nat),j<=k/\ps.length=n/\Binds K fd ps []/\FnOk P w K mg base (L2.CX P w) j f fd ps (M9 K aj ps.length m)
def jM(K:avC)(aj:aK):Prop:=∀c C f,aj c=some C->f∈aj.fl c->Cls K C/\NoAttr K C f
def Gu(P:Program)(w:World)(K:avC)(mg:Str->Option Value)(base:Heap)(aj:aK)(k:Nat)(c m:Str)(v:MV):Prop:=
 ∃C f,aj c=some C/\Cls K C/\Meth K C m f/\m∉aj.fl c/\match v with
  |.q n mm=>FQ P w K mg base aj k f n mm
  |.g n mm=>FG P w K mg base aj k f n mm
def ai8(C:Addr)(fs:List Str):Sp:=λvs H Q _=>∃(a:Addr) (xs:List V),vs=.ref a::xs/\xs.length=fs.length/\H a=some (exo a C none)/\
 ∀(dx:Addr) (H':Hp),H dx=none->(∀b o,b≠a->H b=some o->H' b=some o)->(∀b,H' b=none->H b=none)->H' a=some (exo a C (some dx))->H' dx=some (exd dx (fs.zip xs).reverse)->Q .non H'
def afa(w:World)(K:avC)(a:Addr)(kvs:LsS Dat):Prop:=∃(es:Array DictEntry) (n:Nat),KDict K w a es n/\(kvs.map (·.1)).Nodup/\
 ∀x:Str,match kvs.lookup x with
  |some d=>∃v u,PySem.W.nsIn K a x=some (some u)/\RelV v u/\∀g H,Rep K g H v d
  |none=>PySem.W.nsIn K a x=some none
def oU(P:Program)(w:World)(K:avC)(mg:Str->Option Value)(base:Heap)(aj:aK)(k:Nat)(x:Str):GV->Prop
 |.con d=>∃v u,mg x=some u/\RelV v u/\(∀g H,Rep K g H v d)/\∀a ds,v=.ref a->d=.tuple ds->∃o,K.lookup a=some o/\o.cls=.type "tuple"/\o.dict=none
 |.fq n m=>∃f,mg x=some (.ref f)/\PySem.W.keepIn K (.ref f)=true/\FQ P w K mg base aj k f n m
 |.fg n m=>∃f,mg x=some (.ref f)/\PySem.W.keepIn K (.ref f)=true/\FG P w K mg base aj k f n m
 |.dic kvs=>∃a,mg x=some (.ref a)/\afa w K a kvs
 |.exc=>∃C,mg x=some (.ref C)/\aj x=some C/\PySem.W.excIn K C He.veBase "ValueError.__new__"=true/\PySem.W.keepIn K (.ref C)=true/\PySem.W.subIn K (.ref C) (.type "BaseException")=some true/\PySem.W.typeIn K (.ref C)=some (.type "type")
 |.exi fs=>∃(C fI:Addr) (fd:FuncData) (ps:List Str),mg x=some (.ref C)/\aj x=some C/\OexC K C/\PySem.W.findIn K (.ref C) "__init__"=some (some (.ref fI))/\PySem.W.typeIn K (.ref fI)=some (.type "function")/\2<=k/\ps.length=fs.length+1/\Binds K fd ps []/\FnOk P w K mg base CX0 1 fI fd ps (ai8 C fs)
 |.cls n m=>∃(C f:Addr) (fd:FuncData) (ps:List Str) (j:Nat),mg x=some (.ref C)/\aj x=some C/\Cls K C/\Mk K C f/\j+1<=k/\ps.length=n+1/\Binds K fd ps []/\FnOk P w K mg base (L2.CX P w) j f fd ps (M9 K aj ps.length m)
def aeA(K:avC)(aj:aK)(y:Str)(tk:Str->Option Bool):Prop:=∀x b C,tk x=some b->aj x=some C->∀D,aj y=some D->PySem.W.exmOne K (.ref C) (.ref D)=some b
def putL(f:Str)(x:jD):LsS jD->LsS jD
 |[]=>[(f,x)]
 |(g,y)::r=>if g=f then(g,x)::r else(g,y)::putL f x r
def Inst.put(i:Inst)(f:Str)(x:jD):Inst:=⟨i.cls,putL f x i.fs⟩
theorem Mh(f:Str)(x:jD):∀gs:LsS jD,(putL f x gs).map (·.1)=if f∈gs.map (·.1) then gs.map (·.1) else gs.map (·.1)++[f]
 |[]=>by simp[putL]
 |(g,y)::r=>by
  have ih:=Mh f x r;rw[putL];by_cases e:g=f
  .subst e;simp
  .rw[awT e,List.map_cons,ih];by_cases h:f∈r.map (·.1)
   .rw[awS h,awS (by simp[h])];rfl
   .rw[awT h,awT (by
     rw[List.map_cons,avP]
     rintro(z|z)
     .exact e z.symm
     .exact h z)]
    rfl
def afr{f:Str}{x:jD}{gs:LsS jD}(h:(gs.map (·.1)).Nodup):((putL f x gs).map (·.1)).Nodup:=by
 rw[Mh];split
 .exact h
 .next n=>
  rw[awl];refine⟨h,by simp,λa ha b hb e=>?_⟩;subst e;rw[avJ]at hb;subst hb;exact n ha
theorem NZ{f:Str}{v:V}:∀{fs:LsS V},fs.lookup f=some v->putF f v fs=fs
 |[],h=>nomatch h
 |(g,y)::r,h=>by
  rw[av5]at h;rw[show putF f v ((g,y)::r)=(if g=f then(g,v)::r else(g,y)::putF f v r) from rfl];by_cases e:g=f
  .subst e;simp at h;rw[awS rfl,h]
  .have ne:(f==g)=false:=by simpa using λz=>e z.symm
   rw[ne]at h;rw[awT e,NZ h]
section
variable{K:avC}{aj:aK}{W:WX}{g g':Gh}{H H':Hp}{σ:L2.St}{Z:Env}{M:Mo}{h:Nat}{f:Str}{v:V}{fl:jD}
theorem cH.put(hk:∀f' v' fl',f'≠f->eX K aj g H h f' v' fl'->eX K aj g' H' h f' v' fl')(new:eX K aj g' H' h f v fl):∀{fs:LsS V} {gs:LsS jD},cH K aj g H h fs gs->(gs.map (·.1)).Nodup->cH K aj g' H' h (putF f v fs) (putL f fl gs)
 |_,_,.nil,_=>.cons new .nil
 |_,_,.cons (f:=f') (v:=v') (fl:=fl') (fs:=fs) (gs:=gs) z t,nd=>by
  rw[show putF f v ((f',v')::fs)=(if f'=f then(f',v)::fs else(f',v')::putF f v fs) from rfl,putL];rw[List.map_cons,awK]at nd;by_cases e:f'=f
  .subst e;rw[awS rfl,awS rfl];refine .cons new ?_;have go:∀{fs:LsS V} {gs:LsS jD},cH K aj g H h fs gs->f'∉gs.map (·.1)->cH K aj g' H' h fs gs:=λ{fs gs} t=>by
    induction t with
    |nil=>exact λ_=>.nil
    |cons z _ ih=>
     intro n;rw[List.map_cons,avP,not_or]at n;exact .cons (hk _ _ _ (λq=>n.1 q.symm) z) (ih n.2)
   exact go t nd.1
  .rw[awT e,awT e];exact .cons (hk _ _ _ e z) (cH.put hk new t nd.2)
structure Chg(M:Mo)(g g':Gh)(H H':Hp)(h:Nat)(f:Str):Prop where
 gc:Gc g g' H H'
 kd:Kd g' H'
 tbl:g'.tbl=g.tbl
 ow:∀a p,g.ow a=some p->g'.ow a=some p
 oth:∀a p,g.ow a=some p->p≠(h,f)->H' a=H a
 ins:∀(k:Nat) (a:Addr) (i:Inst),g.tbl[k]?=some a->M[k]?=some i->i.cls≠""->k≠h->H' a=H a
 nt:∀(k:Nat) (a:Addr) (i:Inst),g.tbl[k]?=some a->M[k]?=some i->i.cls≠""->∀p,g'.ow a≠some p
theorem iD.chg{l:Addr}(r:Gr false g g' H H')(k:Kd g H)(e:H' l=H l):∀{n:Bool} {kvs:List (Dat×Dat)},iD K aj g H l n kvs->iD K aj g' H' l n kvs
 |false,_,⟨kv,h1,h2,h3⟩=>⟨kv,e.trans h1,h2,h3.gr r k⟩
 |true,_,⟨o,xs,vs,h1,h2,h3,h4,h5,h6⟩=>⟨o,xs,vs,e.trans h1,h2,h3,h4.gr r k,h5,h6.gr r k⟩
theorem eX.chg(c:Chg M g g' H H' h f)(k:Kd g H){h':Nat}{f':Str}{v':V}(ne:(h',f')≠(h,f)):∀{fl':jD},eX K aj g H h' f' v' fl'->eX K aj g' H' h' f' v' fl'
 |.dat _,z=>Rep.gr c.gc.gr k z
 |.lst _ _,⟨l,us,h1,h2,h3,h4,h5⟩=>⟨l,us,h1,(c.oth l _ h3 ne).trans h2,c.ow l _ h3,h4.gr c.gc.gr k,c.gc.gr.tb h5⟩
 |.dic _ _,⟨l,h1,h2,h3⟩=>⟨l,h1,c.ow l _ h2,h3.chg c.gc.gr k (c.oth l _ h2 ne)⟩
theorem gM.chg(w:gM K aj g H M)(k:Kd g H)(c:Chg M g g' H H' h f){a:Addr}{i:Inst}(ha:g.tbl[h]?=some a)(hi:M[h]?=some i)(hne:i.cls≠"")(hf:f∈aj.fl i.cls){C dx:Addr}{fs:LsS V}(hC:aj i.cls=some C)(R:cH K aj g H h fs i.fs)
  (e':H' a=some (.ins C dx (putF f v fs))) (new:eX K aj g' H' h f v fl):gM K aj g' H' (M.set h (i.put f fl)) where
 len:=by rw[c.tbl,av4];exact w.len
 inj:=by rw[c.tbl];exact w.inj
 ins:=λh' a' i' ha' hi' hc'=>by
  rw[c.tbl]at ha';by_cases z:h'=h
  .subst z;rw[ha]at ha';cases ha';rw[avV (avH.mp hi).1]at hi';cases hi';exact⟨C,dx,_,hC,e',R.put (λf' v' fl' ne z=>z.chg c k λq=>ne (congrArg Prod.snd q)) new (w.nd _ i hi)⟩
  .rw[avL (Ne.symm z)]at hi';let⟨C',dx',fs',c1,c2,c3⟩:=w.ins h' a' i' ha' hi' hc'
   refine⟨C',dx',fs',c1,(c.ins h' a' i' ha' hi' hc' z).trans c2,?_⟩;have go:∀{fs:LsS V} {gs:LsS jD},cH K aj g H h' fs gs->cH K aj g' H' h' fs gs:=λ{fs gs} t=>by
    induction t with
    |nil=>exact .nil
    |cons y _ ih=>exact .cons (y.chg c k λq=>z (congrArg Prod.fst q)) ih
   exact go c3
 nd:=λh' i' hi'=>by
  by_cases z:h'=h
  .subst z;rw[avV (avH.mp hi).1]at hi';cases hi';exact afr (w.nd _ i hi)
  .rw[avL (Ne.symm z)]at hi';exact w.nd h' i' hi'
 fd:=λh' i' hi' f' hf'=>by
  by_cases z:h'=h
  .subst z;rw[avV (avH.mp hi).1]at hi';cases hi';have hf':f'∈(putL f fl i.fs).map (·.1):=hf';rw[Mh]at hf';split at hf'
   .exact w.fd _ i hi f' hf'
   .rcases avR.mp hf' with y|y
    .exact w.fd _ i hi f' y
    .rw[avJ]at y;rw[y];exact hf
  .rw[avL (Ne.symm z)]at hi';exact w.fd h' i' hi' f' hf'
 tw:=λk' a' i' ha' hi' hc'=>by
  rw[c.tbl]at ha';have:∃i0,M[k']?=some i0/\i0.cls≠"":=by
   by_cases z:k'=h
   .subst z;exact⟨i,hi,hne⟩
   .rw[avL (Ne.symm z)]at hi';exact⟨i',hi',hc'⟩
  let⟨i0,m1,m2⟩:=this
  cases hz:g'.ow a' with
  |none=>rfl
  |some p=>exact absurd hz (c.nt k' a' i0 ha' m1 m2 p)
 dm:=λh' i' hi' hc'=>by
  by_cases z:h'=h
  .subst z;rw[avV (avH.mp hi).1]at hi';cases hi';exact absurd hc' hne
  .rw[avL (Ne.symm z)]at hi';exact w.dm h' i' hi' hc'
 nc:=w.nc
def ap6{a:Addr}(ha:g.tbl[h]?=some a):g.W a:=.inl (avK ha)
def W3(k:Kd g H)(w:gM K aj g H M){a:Addr}{i:Inst}(ha:g.tbl[h]?=some a)(hi:M[h]?=some i)(hc:i.cls≠""){C dx:Addr}{fs':LsS V}:Chg M g g H (upd H a (.ins C dx fs')) h f where
 gc:=⟨λb o hb n=>by rw[upd_ne (λz=>by subst z;exact n (ap6 ha))];exact hb,λb hb=>by
  by_cases z:b=a
  .subst z;rw[awU]at hb;cases hb
  .rw[upd_ne z]at hb;exact hb,⟨[],by simp⟩,λ_ z=>z,λ_ z=>.inl z,rfl,rfl⟩
 kd:=k.upd awM
 tbl:=rfl
 ow:=λ_ _ z=>z
 oth:=λb p hb _=>upd_ne λz=>by
  subst z;rw[w.tw h _ i ha hi hc]at hb;cases hb
 ins:=λj b i' hb _ _ ne=>upd_ne λz=>by
  subst z;exact ne (w.inj _ _ _ hb ha)
 nt:=λj b i' hb hj hcj p z=>by
  rw[w.tw j b i' hb hj hcj]at z;cases z
def Gh.own(g:Gh)(l:Addr)(h:Nat)(f:Str):Gh:={ g with ow:=λb=>if b=l then some (h,f) else g.ow b }
def apP{l a:Addr}(hl:l∈g.tbl):(g.own l h f).W a↔g.W a:=by
 constructor
 .rintro(z|z)
  .exact .inl z
  .by_cases y:a=l
   .subst y;exact .inl hl
   .have z:(if a=l then some (h,f) else g.ow a)≠none:=z;rw[awT y]at z;exact .inr z
 .rintro(z|z)
  .exact .inl z
  .refine .inr ?_
   show(if a=l then some (h,f) else g.ow a)≠none
   split
   .exact λq=>nomatch q
   .exact z
def X6(k:Kd g H)(w:gM K aj g H M){a l:Addr}{n:Nat}{i:Inst}(ha:g.tbl[h]?=some a)(hi:M[h]?=some i)(hc:i.cls≠"")(hl:g.tbl[n]?=some l)(hn:M[n]?=some ⟨"",[]⟩)(nl:g.ow l=none){C dx:Addr}{fs':LsS V}:Chg M g (g.own l h f) H (upd H a (.ins C dx fs')) h f:=by
 have W':∀{b:Addr},(g.own l h f).W b↔g.W b:=λ{b}=>apP (avK hl);have d:=W3 (f:=f) (C:=C) (dx:=dx) (fs':=fs') k w ha hi hc;refine⟨⟨d.gc.keep,d.gc.dom,⟨[],by simp[Gh.own]⟩,λb z=>W'.mpr z,λb z=>.inl (W'.mp z),rfl,rfl⟩,⟨λb z=>d.kd.ob b ?_,λb z y=>d.kd.lo b z (W'.mp y),λb z=>⟨λy=>(d.kd.lc b z).1 (W'.mp y),(d.kd.lc b z).2⟩⟩,rfl,λb p z=>?_,d.oth,d.ins,λj b i' hb hj hcj p z=>?_⟩
 .rcases z with z|z|z
  .exact .inl (W'.mp z)
  .exact .inr (.inl z)
  .exact .inr (.inr z)
 .show(if b=l then some (h,f) else g.ow b)=some p
  rw[awT (λy=>by subst y;rw[nl]at z;cases z)];exact z
 .have z:(if b=l then some (h,f) else g.ow b)=some p:=z;by_cases y:b=l
  .subst y;cases w.inj _ _ _ hb hl;rw[hn]at hj;cases hj;exact hcj rfl
  .rw[awT y,w.tw j b i' hb hj hcj]at z;cases z
def agv(k:Kd g H)(w:gM K aj g H M){l:Addr}{o':HO}(ho:g.ow l=some (h,f))(mo:Jr o'):Chg M g g H (upd H l o') h f where
 gc:=⟨λb u hb n=>by rw[upd_ne (λz=>by subst z;exact n (.inr (by rw[ho];exact λy=>nomatch y)))];exact hb,λb hb=>by
  by_cases z:b=l
  .subst z;rw[awU]at hb;cases hb
  .rw[upd_ne z]at hb;exact hb,⟨[],by simp⟩,λ_ z=>z,λ_ z=>.inl z,rfl,rfl⟩
 kd:=k.upd mo
 tbl:=rfl
 ow:=λ_ _ z=>z
 oth:=λb p hb ne=>upd_ne λz=>by
  subst z;rw[ho]at hb;exact ne (av0 hb).symm
 ins:=λj b i' hb hj hcj ne=>upd_ne λz=>by
  subst z;rw[w.tw j _ i' hb hj hcj]at ho;cases ho
 nt:=λj b i' hb hj hcj p z=>by
  rw[w.tw j b i' hb hj hcj]at z;cases z
def cH.len{fs:LsS V}{gs:LsS jD}(t:cH K aj g H h fs gs):fs.length=gs.length:=by
 induction t with
 |nil=>rfl
 |cons _ _ ih=>simp[ih]
end
def Ov(M:Mo)(f:Str):Dat->Option jD
 |.dict [(.none,.int (.ofNat h))]=>(M[h]?).bind λi=>i.fs.lookup f
 |_=>none
def eG(f:Str)(o:QF):QF:=λM Z=>(o M Z).bind λd=>match Ov M f d with
 | #[x]=>.ok x
 |_=>.bad
def bh(f:Str)(o:QF):QF:=λM Z=>(o M Z).bind λd=>match Ov M f d with
 | #[x]=>.ok x
 |some (.lst _ xs)=>.ok (.list xs)
 |_=>.bad
def afH{M:Mo}{f:Str}{d:Dat}{fl:jD}(h:Ov M f d=some fl):∃n i,d=obj n/\M[n]?=some i/\i.fs.lookup f=some fl:=by
 unfold Ov at h;left
 .next n=>
  obtain⟨i,h1,h2⟩;exact⟨n,i,rfl,h1,h2⟩
 .cases h
theorem lookup_mem{f:Str}{fl:jD}:∀{gs:LsS jD},gs.lookup f=some fl->f∈gs.map (·.1)
 |[],h=>nomatch h
 |(g,y)::r,h=>by
  rw[av5]at h;cases hb:f==g with
  |true=>rw[awV hb];simp
  |false=>
   rw[hb]at h;exact avG _ (lookup_mem h)
section
variable{K:avC}{aj:aK}{g:Gh}{H:Hp}{M:Mo}
def aaA(co:jM K aj)(w:gM K aj g H M){f:Str}{d:Dat}{fl:jD}{v:V}(h:Ov M f d=some fl)(r:dW K g H v d):∃n i a C dx fs u,d=obj n/\M[n]?=some i/\i.fs.lookup f=some fl/\g.tbl[n]?=some a/\v=.ref a/\aj i.cls=some C/\H a=some (.ins C dx fs)/\cH K aj g H n fs i.fs/\Cls K C/\NoAttr K C f/\fs.lookup f=some u/\eX K aj g H n f u fl:=by
 let⟨n,i,rfl,h1,h2⟩:=afH h
 let⟨a,rfl,ha⟩:=PB r
 have hc:i.cls≠"":=λz=>by
  rw[w.dm n i h1 z]at h2;cases h2
 let⟨C,dx,fs,c1,c2,c3⟩:=w.ins n a i ha h1 hc
 let⟨u,l1,l2⟩:=c3.get h2
 let⟨k1,k2⟩:=co i.cls C f c1 (w.fd n i h1 f (lookup_mem h2))
 exact⟨n,i,a,C,dx,fs,u,rfl,h1,h2,ha,rfl,c1,c2,c3,k1,k2,l1,l2⟩
end
section
variable{X:Cx}{aj:aK}{W:WX}{o e:Expr}{es:List Expr}{fo:QF}{f m:Str}{pos apos:Pos}
def amm(co:jM X.K aj)(ho:QW aj X W o fo)(hb:baseOk o=true):QE aj X W (.Attribute o f pos) (eG f fo):=
 PE.weak (pe_fld ho (gJ hb)) λσ H Q ⟨g,Z,M,I,h⟩=>by
  refine tW.go I h.bnd λd v H1 h1 e1 r1=>?_;split at h1
  .next x hx=>
   let⟨n,i,a,C,dx,fs,u,_,_,_,_,rfl,_,c2,_,k1,k2,l1,l2⟩:=aaA co (I.ex e1).wok hx r1
   exact⟨a,C,dx,fs,u,rfl,c2,k1,k2,l1,h1 u H1 e1 l2⟩
  .exact awN h1
def anH(co:jM X.K aj)(ho:QW aj X W o fo)(hb:baseOk o=true):QW aj X W (.Attribute o f pos) (bh f fo):=
 PE.weak (pe_fld ho (gJ hb)) λσ H Q ⟨g,Z,M,I,h⟩=>by
  refine tW.go I h.bnd λd v H1 h1 e1 r1=>?_;split at h1
  .next x hx=>
   let⟨n,i,a,C,dx,fs,u,_,_,_,_,rfl,_,c2,_,k1,k2,l1,l2⟩:=aaA co (I.ex e1).wok hx r1
   exact⟨a,C,dx,fs,u,rfl,c2,k1,k2,l1,h1 u H1 e1 (Rep.weak l2)⟩
  .next xs hx=>
   let⟨n,i,a,C,dx,fs,u,_,_,_,_,rfl,_,c2,_,k1,k2,l1,l,us,rfl,s1,s2,s3,_⟩:=aaA co (I.ex e1).wok hx r1
   exact⟨a,C,dx,fs,_,rfl,c2,k1,k2,l1,h1 _ H1 e1 ⟨l,us,rfl,sq_of s1,s3⟩⟩
  .exact awN h1
def V7(X:Cx)(W:WX)(m:Str)(ta:TE)(t:TA):TE:=λσ H Q=>ta σ H λx H1=>∃(a C dx:Addr) (fs:LsS V) (f:Addr) (fd:FuncData) (ps:List Str) (sp:Sp) (k:Nat),x=.ref a/\H1 a=some (.ins C dx fs)/\fs.lookup m=none/\Cls X.K C/\Meth X.K C m f/\Room k X.A/\Binds X.K fd ps []/\
 FnOk X.prog X.w X.K X.mg X.base (L2.CX X.prog X.w) k f fd ps sp/\t σ H1 λvs H2=>sp (x::vs) H2 Q (WE W σ)
def Z0{M:Model}{A:Around}{E:Value->Shared->Prop}{s:Shared}{env:PySem.Env}{args:List Expr}{Q:Value->Shared->Prop}(hbase:baseOk o=true)(hs:args.all nst=true)(hz:args.length<30)(hl:(apos.endLine==pos.line)=true)
  (h:wpAny M A (eval o env) (λov s₁=>∀pl:Sem Bool,wpAny M A (getMethod ov m pl) (λfx s₂=>wpAny M A (callWith pos fx.1 fx.2 (backTo pos (starEach args env)) (backToKw pos (keywordEach [] env))) Q E s₂) E s₁) E s) :
  wpAny M A (eval (.Call (.Attribute o m apos) args [] pos) env) Q E s:=by
 have hform:methodCallForm (args.length+([]:List Keyword).length) (backTo pos (starEach args env)) (backToKw pos (keywordEach [] env))=true:=few hs hz;have hpos:methodCallPos true o env apos pos=pure pos:=by unfold methodCallPos;simp[hl]
 rw[arm_eval_Call,gJ hbase];refine awQ (wpAny_mono h (λov s₁ h₁=>?_) λ_ _ e=>e);refine awQ (wpAny_standAt ?_);unfold methodCall;rw[hform];refine awQ (wpAny_holding ?_);refine wpAny_mono (h₁ _) (λfx s₂ h₂=>?_) λ_ _ e=>e;exact awQ (wpAny_of_eq hpos h₂)
def acv{ta:TE}{t:TA}(tk:Takes X W)(ho:PE X o ta)(ha:PA X (e::es) t)(hb:baseOk o=true)(hs:(e::es).all nst=true)(hl:(apos.endLine==pos.line)=true)(hz:(e::es).length<30):PE X (.Call (.Attribute o m apos) (e::es) [] pos) (V7 X W m ta t):=by have hs':=hs;rw[awf,avD]at hs';refine⟨λpins s σ H Q I h=>?_⟩;refine Z0 hb hs hz hl (thn (ho.run pins s σ H _ I h) λu s1 ⟨x,G,J,rx,a,C,dx,fs,f,fd,ps,sp,k,ex,ea,l,c,hm,hr,hB,F,q⟩ pl=>?_);subst ex;cases rx;refine getmeth_ok J ea c hm l ?_;refine PySem.W.callWith_K (first:=[.ref a]) (h₀:=X.base) I.ok.mod.kin hm.kp (thn (ha.run pos pins s1 σ G _ J q) λus s2 ⟨vs,G2,J2,r,q2⟩=>⟨J2.kIn,?_⟩) (bH hs'.1 es) (star_any es hs'.2);exact run_fnS (us:=.ref a::us) (vs:=.ref a::vs) F hr hB (passAt tk σ) J2 (.cons rfl r) q2
def YW{ta:TE}(tk:Takes X W)(ho:PE X o ta)(hb:baseOk o=true)(hl:(apos.endLine==pos.line)=true):PE X (.Call (.Attribute o m apos) [] [] pos) (V7 X W m ta tNil):=by refine⟨λpins s σ H Q I h=>?_⟩;refine Z0 hb rfl #[()] hl (thn (ho.run pins s σ H _ I h) λu s1 ⟨x,G,J,rx,a,C,dx,fs,f,fd,ps,sp,k,ex,ea,l,c,hm,hr,hB,F,q⟩ pl=>?_);subst ex;cases rx;refine getmeth_ok J ea c hm l ?_;exact PySem.W.callWith_K0 (first:=[.ref a]) J.kIn hm.kp (run_fnS (us:=[.ref a]) (vs:=[.ref a]) F hr hB (passAt tk σ) J (.cons rfl .nil) q)
def Ij(tb:List (Str×MV))(M:Mo):Dat->Option MV
 |.dict [(.none,.int (.ofNat h))]=>(M[h]?).bind λi=>tb.lookup i.cls
 |_=>none
def aJ(tb:List (Str×MV))(o:QF)(as:QA):QF:=λM Z=>(o M Z).bind λd=>match Ij tb M d with
 |some (.q _ m)=>(as M Z).bind λds=>m M (d::ds)
 |_=>.bad
def bJ(tb:List (Str×MV))(o:QF)(as:QA):GF:=λM Z=>((o M Z).at M).bind λd _=>match Ij tb M d with
 |some (.q _ m)=>((as M Z).at M).bind λds _=>(m M (d::ds)).at M
 |some (.g _ m)=>((as M Z).at M).bind λds _=>m M (d::ds)
 |none=>.bad
def MN(X:Cx)(aj:aK)(k:Nat)(m:Str)(n:Nat)(tb:List (Str×MV)):Prop:=∀c v,tb.lookup c=some v->Gu X.prog X.w X.K X.mg X.base aj k c m v/\match v with
  |.q j _=>j=n
  |.g j _=>j=n
def MN.cls{k n:Nat}{tb:List (Str×MV)}(T:MN X aj k m n tb):∀c v,tb.lookup c=some v->aj c≠none:=λc v h z=>by
 let⟨⟨C,f,c1,_⟩,_⟩:=T c v h
 rw[z]at c1;cases c1
def W8{K:avC}{g:Gh}{H:Hp}{M:Mo}{tb:List (Str×MV)}{d:Dat}{v:V}{mv:MV}(ht:∀c v,tb.lookup c=some v->aj c≠none)(w:gM K aj g H M)(h:Ij tb M d=some mv)(r:dW K g H v d):∃n i a C dx fs,d=obj n/\M[n]?=some i/\tb.lookup i.cls=some mv/\g.tbl[n]?=some a/\v=.ref a/\aj i.cls=some C/\H a=some (.ins C dx fs)/\cH K aj g H n fs i.fs:=by
 unfold Ij at h;left
 .next n=>
  obtain⟨i,h1,h2⟩;let⟨a,rfl,ha⟩:=PB r
  let⟨C,dx,fs,c1,c2,c3⟩:=w.ins n a i ha h1 λz=>ht _ _ h2 (by rw[z];exact w.nc)
  exact⟨n,i,a,C,dx,fs,rfl,h1,h2,ha,rfl,c1,c2,c3⟩
 .cases h
def abD{K:avC}{g:Gh}{H:Hp}{M:Mo}{n:Nat}{i:Inst}{fs:LsS V}(w:gM K aj g H M)(hi:M[n]?=some i)(R:cH K aj g H n fs i.fs)(h:m∉aj.fl i.cls):fs.lookup m=none:=by
 refine R.no ?_;cases hl:i.fs.lookup m with
 |none=>rfl
 |some x=>exact absurd (w.fd n i hi m (lookup_mem hl)) h
def agQ{tb:List (Str×MV)}{as:QA}{n k:Nat}{t:TA}(hr:Room k X.A)(T:MN X aj k m n tb)(hn:∀M Z ds,as M Z=.ok ds->ds.length+1=n)(ht:∀σ H Q,R8 X.K aj W as σ H Q->t σ H Q)(σ:L2.St)(H:Hp)(Q:VK)(h:tQ X.K aj W (aJ tb fo as) σ H Q):V7 X W m (tW X.K aj W fo) t σ H Q:=by
 let⟨g,Z,M,I,h⟩:=h
 refine tW.go I h.bnd λd v H1 h1 e1 r1=>?_;have I1:=I.ex e1;split at h1
 .next j mm hmv=>
  let⟨hd,i,a,C,dx,fs,rfl,hi,hl,ha,rfl,c1,c2,c3⟩:=W8 T.cls I1.wok hmv r1
  let⟨⟨C',f,cc,cl,me,nf,fd,ps,j',hj,hp,hB,F⟩,en⟩:=T _ _ hl
  have en:j=n:=en;rw[c1]at cc;cases cc;refine⟨a,C,dx,fs,f,fd,ps,_,j',rfl,c2,abD I1.wok hi c3 nf,cl,me,hr.mono hj,hB,F,ht σ H1 _ ⟨g,Z,M,I1,?_⟩⟩;have h2:=h1.bnd;cases has:as M Z with
  |exc x=>rw[has]at h2;exact sH.ex e1 h2
  |bad=>rw[has]at h2;exact awN h2
  |ok ds=>
   rw[has]at h2;intro vs H2 e2 r2;refine⟨by rw[hp,en,<-hn M Z ds has,avO,r2.length],g,M,obj hd::ds,(I1.ex e2).kd,(I1.ex e2).wok,.cons (.obj ha) r2,?_⟩;exact Out.sat.mono h2 (λd k v H' e' r'=>k v H' ((e1.trans e2).trans e') r') λx k H' c dd e' r'=>k H' c dd ((e1.trans e2).trans e') r'
 .exact awN h1
def akK{tb:List (Str×MV)}{as:QA}{k:Nat}(tk:Takes X W)(hr:Room k X.A)(T:MN X aj k m ((e::es).length+1) tb)(ho:QW aj X W o fo)(ha:Ko aj X W (e::es) as)(hn:∀M Z ds,as M Z=.ok ds->ds.length=(e::es).length)(hb:baseOk o=true)(hs:(e::es).all nst=true)(hl:(apos.endLine==pos.line)=true)(hz:(e::es).length<30) :
  QE aj X W (.Call (.Attribute o m apos) (e::es) [] pos) (aJ tb fo as):=
 PE.weak (acv tk ho ha hb hs hl hz) λσ H Q h=>agQ hr T (λM Z ds z=>by rw[hn M Z ds z]) (λ_ _ _ z=>z) σ H Q h
def ait{tb:List (Str×MV)}{k:Nat}(tk:Takes X W)(hr:Room k X.A)(T:MN X aj k m 1 tb)(ho:QW aj X W o fo)(hb:baseOk o=true)(hl:(apos.endLine==pos.line)=true) :
  QE aj X W (.Call (.Attribute o m apos) [] [] pos) (aJ tb fo dI):=
 PE.weak (YW tk ho hb hl) λσ H Q h=>agQ hr T (λM Z ds z=>by cases z;rfl) (λσ H Q ⟨g,Z,M,I,z⟩=>z [] H (Ex.refl H) .nil) σ H Q h
def agd{tb:List (Str×MV)}{as:QA}{n k:Nat}{t:TA}(hr:Room k X.A)(T:MN X aj k m n tb)(hn:∀M Z ds,as M Z=.ok ds->ds.length+1=n)(ht:∀σ H Q,R8 X.K aj W as σ H Q->t σ H Q)(σ:L2.St)(H:Hp)(Q:VK)(h:tE X.K aj W false (bJ tb fo as) σ H Q):V7 X W m (tW X.K aj W fo) t σ H Q:=by
 let⟨g,Z,M,I,h⟩:=h
 have quiet:∀{x:dX},gE X.K aj W false g H σ Z x M->sH X.K aj W g H σ x:=λ{x} z H' c dd e r=>z H' g c dd (Gr.ex e) (I.ex e) r;have h:=h.bnd;refine⟨g,Z,M,I,?_⟩;cases ho:fo M Z with
 |exc x=>rw[ho]at h;exact quiet h
 |bad=>rw[ho]at h;exact awN h
 |ok d=>
  rw[ho]at h;intro v H1 e1 r1;have I1:=I.ex e1;have h:(match Ij tb M d with
   |some (.q _ m)=>((as M Z).at M).bind λds _=>(m M (d::ds)).at M
   |some (.g _ m)=>((as M Z).at M).bind λds _=>m M (d::ds)
   |none=>.bad).sat (λd M'=>∀v H' g',Gr false g g' H H'->SInv X.K aj σ H' g' Z M'->Rep X.K g' H' v d->Q v H') (gE X.K aj W false g H σ Z):=h
  left
  .next j mm hmv=>
   let⟨hd,i,a,C,dx,fs,rfl,hi,hl,ha,rfl,c1,c2,c3⟩:=W8 T.cls I1.wok hmv r1
   let⟨⟨C',f,cc,cl,me,nf,fd,ps,j',hj,hp,hB,F⟩,en⟩:=T _ _ hl
   have en:j=n:=en;rw[c1]at cc;cases cc;refine⟨a,C,dx,fs,f,fd,ps,_,j',rfl,c2,abD I1.wok hi c3 nf,cl,me,hr.mono hj,hB,F,ht σ H1 _ ⟨g,Z,M,I1,?_⟩⟩;have h2:=h.bnd;cases has:as M Z with
   |exc x=>rw[has]at h2;exact sH.ex e1 (quiet h2)
   |bad=>rw[has]at h2;exact awN h2
   |ok ds=>
    rw[has]at h2;intro vs H2 e2 r2;have e12:=e1.trans e2;refine⟨by rw[hp,en,<-hn M Z ds has,avO,r2.length],g,M,obj hd::ds,(I1.ex e2).kd,(I1.ex e2).wok,.cons (.obj ha) r2,?_⟩;exact Out.sat.mono (Out.jx h2) (λd k v H' e' r'=>k v H' g (Gr.ex (e12.trans e')) (I.ex (e12.trans e')) r') λx k H' c dd e' r'=>k H' g c dd (Gr.ex (e12.trans e')) (I.ex (e12.trans e')) r'
  .next j mm hmv=>
   let⟨hd,i,a,C,dx,fs,rfl,hi,hl,ha,rfl,c1,c2,c3⟩:=W8 T.cls I1.wok hmv r1
   let⟨⟨C',f,cc,cl,me,nf,fd,ps,j',hj,hp,hB,F⟩,en⟩:=T _ _ hl
   have en:j=n:=en;rw[c1]at cc;cases cc;refine⟨a,C,dx,fs,f,fd,ps,_,j',rfl,c2,abD I1.wok hi c3 nf,cl,me,hr.mono hj,hB,F,ht σ H1 _ ⟨g,Z,M,I1,?_⟩⟩;have h2:=h.bnd;cases has:as M Z with
   |exc x=>rw[has]at h2;exact sH.ex e1 (quiet h2)
   |bad=>rw[has]at h2;exact awN h2
   |ok ds=>
    rw[has]at h2;intro vs H2 e2 r2;have e12:=e1.trans e2;refine⟨by rw[hp,en,<-hn M Z ds has,avO,r2.length],g,M,obj hd::ds,(I1.ex e2).kd,(I1.ex e2).wok,.cons (.obj ha) r2,?_⟩;exact aY.sat.mono h2 (λd M' k v H' g' c kd wk r'=>k v H' g' ((Gr.ex e12).trans c.gr) ((I.ex e12).call c kd wk) r') λx M' k H' g' cc dd c kd wk r'=>k H' g' cc dd ((Gr.ex e12).trans c.gr) ((I.ex e12).call c kd wk) r'
  .exact awN h
def akP{tb:List (Str×MV)}{as:QA}{k:Nat}(tk:Takes X W)(hr:Room k X.A)(T:MN X aj k m ((e::es).length+1) tb)(ho:QW aj X W o fo)(ha:Ko aj X W (e::es) as)(hn:∀M Z ds,as M Z=.ok ds->ds.length=(e::es).length)(hb:baseOk o=true)(hs:(e::es).all nst=true)(hl:(apos.endLine==pos.line)=true)(hz:(e::es).length<30) :
  GE aj X W false (.Call (.Attribute o m apos) (e::es) [] pos) (bJ tb fo as):=
 PE.weak (acv tk ho ha hb hs hl hz) λσ H Q h=>agd hr T (λM Z ds z=>by rw[hn M Z ds z]) (λ_ _ _ z=>z) σ H Q h
def aiP{tb:List (Str×MV)}{k:Nat}(tk:Takes X W)(hr:Room k X.A)(T:MN X aj k m 1 tb)(ho:QW aj X W o fo)(hb:baseOk o=true)(hl:(apos.endLine==pos.line)=true) :
  GE aj X W false (.Call (.Attribute o m apos) [] [] pos) (bJ tb fo dI):=
 PE.weak (YW tk ho hb hl) λσ H Q h=>agd hr T (λM Z ds z=>by cases z;rfl) (λσ H Q ⟨g,Z,M,I,z⟩=>z [] H (Ex.refl H) .nil) σ H Q h
end
def fH(x:Str):SF:=λM Z=>.exc ⟨x,[]⟩ Z M
def Ez(x:Str)(fs:List Str)(as:QA):SF:=λM Z=>((as M Z).at M).then Z λds M'=>.exc ⟨x,(fs.zip ds).reverse⟩ Z M'
section
variable{X:Cx}{aj:aK}{W:WX}{q:Bool}{x:Str}{pos p p1:Pos}{k:Nat}
def ajm(hc:X.calm=true)(tk:Takes X W)(hg:Gl X x)(hd:(x==("__debug__" : Str))=false)(g:oU X.prog X.w X.K X.mg X.base aj k x .exc):SE aj X W q (.Raise (some (.Call (.Name x p) [] [] p1)) none pos) (fH x):=by
 let⟨C,g1,g2,g3,g4,g5,g6⟩:=g
 exact PS.weak (ps_raise hc tk (Ear.ai2 PySem.F.excBase_ValueError g3 g1 g4 (raises_own g5 g6) hg hd)) λD σ H ⟨g,Z,M,I,z⟩=>z σ H g (.ref C) none Gr.refl I ⟨C,g2,rfl,.inl ⟨rfl,rfl⟩⟩
theorem mK.gr{K:avC}{g g':Gh}{H H':Hp}{q:Bool}(r:Gr q g g' H H')(k:Kd g H){fs:LsS V}{gs:LsS Dat}(h:mK K g H fs gs):mK K g' H' fs gs:=by
 induction h with
 |nil=>exact .nil
 |cons z _ ih=>exact .cons (z.gr r k) ih
def mK.snoc{K:avC}{g:Gh}{H:Hp}{f:Str}{v:V}{d:Dat}(z:Rep K g H v d){fs:LsS V}{gs:LsS Dat}(h:mK K g H fs gs):mK K g H (fs++[(f,v)]) (gs++[(f,d)]):=by
 induction h with
 |nil=>exact .cons z .nil
 |cons y _ ih=>exact .cons y ih
theorem afQ{K:avC}{g:Gh}{H:Hp}:∀{fs:List Str} {vs:List V} {ds:List Dat},aA K g H vs ds->mK K g H (fs.zip vs).reverse (fs.zip ds).reverse
 |[],_,_,_=>.nil
 |_::_,_,_,.nil=>.nil
 |f::fs,_,_,.cons z t=>by
  rw[aww,aww,List.reverse_cons,List.reverse_cons];exact(afQ t).snoc z
def agj{e:Expr}{es:List Expr}{fs:List Str}{as:QA}(hc:X.calm=true)(tk:Takes X W)(hr:Room k X.A)(hg:Gl X x)(hd:(x==("__debug__" : Str))=false)(g:oU X.prog X.w X.K X.mg X.base aj k x (.exi fs))(ha:Ko aj X W (e::es) as)
  (hs:(e::es).all nst=true) (hn:∀M Z ds,as M Z=.ok ds->ds.length=fs.length) (hz:fs.length<=1000):SE aj X W q (.Raise (some (.Call (.Name x p) (e::es) [] p1)) none pos) (Ez x fs as):=by
 let⟨C,fI,fd,ps,g1,g2,g3,g4,g5,hk,hp,hB,F⟩:=g
 have hs':=hs;rw[awf,avD]at hs';refine PS.weak (ps_raise hc tk (pmk_oex g3 g4 g5 F (hr.mono hk) hB .nil pass0 hg g1 ha hd (bH hs'.1 es) (star_any es hs'.2))) λD σ H ⟨g,Z,M,I,z⟩=>?_;refine⟨g,Z,M,I,?_⟩;unfold Ez at z;cases has:as M Z with
 |exc y=>rw[has]at z;exact λH' c dd e r=>z σ H' g c dd (Gr.ex e) (I.ex e) r.fr
 |bad=>rw[has]at z;exact awN z
 |ok ds=>
  rw[has]at z;intro vs H1 e1 r1;have hl:vs.length=fs.length:=by rw[r1.length,hn M Z ds has]
  refine⟨#[],λa na=>⟨a,vs++[],rfl,by simpa using hl,awU,λdx H' nd kp dm ha' hd'=>?_⟩⟩;have ne:dx≠a:=λz=>by
   subst z;rw[awU]at nd;cases nd
  rw[upd_ne ne]at nd;refine⟨rfl,dx,_,ha',hd',nd,?_⟩;have kp':∀b o,H1 b=some o->(upd (del H' a) dx (.xd (fs.zip (vs++[])).reverse)) b=some o:=λb o hb=>by
   have nb:b≠a:=λz=>by subst z;rw[na]at hb;cases hb
   have nd':b≠dx:=λz=>by subst z;rw[nd]at hb;cases hb
   rw[upd_ne nd',del_ne nb];exact kp b o nb (by rw[upd_ne nb];exact hb)
  have ex:Ex H1 (upd (del H' a) dx (.xd (fs.zip (vs++[])).reverse)):=λb o hb=>kp' b o hb;have I1:=I.ex e1;refine z σ _ g (.ref C) (some dx) (Gr.ex (e1.trans ex)) (I1.ex ex) ⟨C,g2,rfl,.inr ⟨dx,_,rfl,awU,?_⟩⟩;rw[awn];have:=(afQ (fs:=fs) r1).gr (Gr.ex (q:=true) ex) I1.kd;rw[awn]at this;exact mK.less (g:=g) (g':=g.fr) rfl (yO g) this
end
section
variable{P:Program}{w:World}{K:avC}{mg:Str->Option Value}{base:Heap}{C f:Addr}{fd:FuncData}{qual:Str}{st:Stmt}
def vis_par{N ps:List Str}{sc:Scope}(S:FnScope N ps sc){y:Str}(h:y∈ps):Vis sc y:=(S.par y h).elim (λz=>.inl z) λz=>.inr (.inl z)
def ahq{s a1 a2 a3 f1 f2 f3:Str}{p1 p2 p3 p4 p5 p6 p7 p8 p9 p10 p11 p12:Pos}(F:L2.Fun K "__init__" qual st f fd)(S:FnScope [s,a1,a2,a3] [s,a1,a2,a3] (defScope st))(T:OexC K C)
  (hb:defBody st=[.Assign [.Attribute (.Name s p1) f1 p2] (.Name a1 p3) p4,.Assign [.Attribute (.Name s p5) f2 p6] (.Name a2 p7) p8,.Assign [.Attribute (.Name s p9) f3 p10] (.Name a3 p11) p12])
  (dz:∀y∈[s,a1,a2,a3],(y==("__debug__" : Str))=false/\(y==("__classdict__" : Str))=false) (n1:PySem.W.findIn K (.ref C) f1=some none) (n2:PySem.W.findIn K (.ref C) f2=some none) (n3:PySem.W.findIn K (.ref C) f3=some none) :
  FnOk P w K mg base CX0 1 f fd [s,a1,a2,a3] (ai8 C [f1,f2,f3]):=by
 refine F.ok S (λvs H Q E h=>?_) (λcdv A outer s0 H vs Q E hr h=>?_)
 .let⟨a,xs,rfl,hl,_⟩:=h
  simp[hl]
 .let⟨a,xs,rfl,hl,ha,q⟩:=h
  match xs,hl with
  |[x,y,z],_=>
  rw[hb];have v0:=vis_par S (y:=s) (by simp);have v1:=vis_par S (y:=a1) (by simp);have v2:=vis_par S (y:=a2) (by simp);have v3:=vis_par S (y:=a3) (by simp);let⟨c0,k0⟩:=dz s (by simp)
  let⟨c1,k1⟩:=dz a1 (by simp)
  let⟨c2,k2⟩:=dz a2 (by simp)
  let⟨c3,k3⟩:=dz a3 (by simp)
  refine⟨_,pss_cons (ps_ost (pe_var (i:=0) rfl v0 c0 k0) (pe_var (i:=1) rfl v1 c1 k1)) (pss_cons (ps_ost (pe_var (i:=0) rfl v0 c0 k0) (pe_var (i:=2) rfl v2 c2 k2)) (pss_one (ps_ost (pe_var (i:=0) rfl v0 c0 k0) (pe_var (i:=3) rfl v3 c3 k3)))),?_⟩;refine⟨_,rfl,_,rfl,a,C,rfl,T,n1,.inl ⟨ha,λdx nd ne=>?_⟩⟩;refine⟨_,rfl,_,rfl,a,C,rfl,T,n2,.inr ⟨dx,[(f1,x)],awU,(by rw[upd_ne ne];exact awU),(show 1<=900 by decide),?_⟩⟩;refine⟨_,rfl,_,rfl,a,C,rfl,T,n3,.inr ⟨dx,_,(by rw[upd_ne ne.symm];exact awU),awU,(show 2<=900 by decide),?_⟩⟩;refine q dx _ nd (λb o hb hB=>?_) (λb hB=>?_) (by rw[upd_ne ne.symm,upd_ne ne.symm];exact awU) awU
  .have hbd:b≠dx:=ne_of_none hB nd;rw[upd_ne hbd,upd_ne hbd,upd_ne hb,upd_ne hbd];exact hB
  .by_cases e:b=dx
   .rw[e];exact nd
   .by_cases e2:b=a
    .subst e2;rw[upd_ne e,upd_ne e,awU]at hB;cases hB
    .rw[upd_ne e,upd_ne e,upd_ne e2,upd_ne e]at hB;exact hB
end
structure Cl where
 c:Value
 nm:Option Nat
 ts:Addr->Value->Option Addr->TS
def aqF(D:Ends)(i:Nat):Ends:={ nx:=λτ G=>D.nx (τ.set i none) G,rt:=D.rt,bk:=λτ G=>D.bk (τ.set i none) G,ct:=λτ G=>D.ct (τ.set i none) G }
def abo(K:avC)(Wo:WX)(D:Ends):List Cl->WX
 |[]=>Wo
 |l::r=>λcls d τ G=>∃b,PySem.W.exmOne K cls l.c=some b/\(b=true->∀a,G a=none->(match l.nm with
   |none=>l.ts a cls d D τ G
   |some i=>l.ts a cls d (aqF D i) (τ.set i (some (.ref a))) G))/\(b=false->abo K Wo D r cls d τ G)
inductive Es(X:Cx):List ExceptHandler->List Cl->Prop
 |nil:Es X [] []
 |one {x:Str} {l:Cl} {s0:Stmt} {su:List Stmt} {np cp:Pos} {hds:List ExceptHandler} {ls:List Cl} (hc:Names X x l.c) (hn:l.nm=none)
   (hsu:∀(a:Addr) (oe:Obj) (cls:Value) (d:Option Addr) (pn:List (Addr×Obj)),Zc cls d oe->(∃vs,oe.data=.fields vs)->PSs (X.suite a ((a,oe)::pn)) (s0::su) (l.ts a cls d)) (r:Es X hds ls) :
   Es X (.ExceptHandler (some (.Name x np)) none (s0::su) cp::hds) (l::ls)
 |as {x n:Str} {i:Nat} {l:Cl} {s0:Stmt} {su:List Stmt} {np cp:Pos} {hds:List ExceptHandler} {ls:List Cl} (hc:Names X x l.c) (hn:l.nm=some i) (hi:X.N[i]?=some n) (hl:X.env.kindOf n=some .local)
   (hsu:∀(a:Addr) (oe:Obj) (cls:Value) (d:Option Addr) (pn:List (Addr×Obj)),Zc cls d oe->(∃vs,oe.data=.fields vs)->PSs (X.suite a ((a,oe)::pn)) (s0::su) (l.ts a cls d)) (r:Es X hds ls) :
   Es X (.ExceptHandler (some (.Name x np)) (some n) (s0::su) cp::hds) (l::ls)
section
variable{X:Cx}{body:List Stmt}{h0:ExceptHandler}{hds:List ExceptHandler}{ls:List Cl}{pos:Pos}{tb:WX->TS}{Wo:WX}
def akE(hs:X.stack=X.env::X.outer)(hf:X.env.frame=some X.env.locals)(hN:X.N.Nodup)(tk:Takes X Wo)
  (hb:∀(W:WX) (pn:List (Addr×Obj)) (xe:Value->Shared->Prop),Takes (X.tr pn xe) W->PassesOwn (model X.prog X.w) X.A X.env xe->PSs (X.tr pn xe) body (tb W))
  (hh:Es X (h0::hds) ls):PS X (.Try body (h0::hds) [] [] pos) (λD σ H=>tb (abo X.K Wo D ls) D σ H):=by
 constructor;intro pins s σ H D I h;have ok:=I.ok;have frm:X.A.frames=some (X.env::X.outer):=by rw[ok.frames,hs]
 have run:=(hb (abo X.K Wo D ls) (X.pn++pins) (λe t₁=>wpAny (model X.prog X.w) X.A (noteFrame e X.env) (λ_ t₂=>wpAny (model X.prog X.w) X.A (setFlight e none) (λ_ t₃=>wpAny (model X.prog X.w) X.A (handleBy e X.env (h0::hds)) (SP X pins D) X.xe t₃) X.xe t₂) X.xe t₁) (λu t xx=>by
  let⟨a,B,sI,pins2,τ,G,cls,d,rfl,J2,nb,up,sky,na,os,ag,w⟩:=xx
  have J:Inv X pins τ G sI:=J2.ofTry ok;have sky2:Sky B (X.env::X.outer) a (Zc cls d) X.env.locals t.heap:=by rw[<-hs];exact sky
  show wpAny (model X.prog X.w) X.A (noteFrame (.ref a) X.env) _ _ _;refine Sky.land Zc.steady frm hf sky2 ?_;intro h3 fl3 up3;have J3:Inv X pins τ G { t with heap:=h3 }:=J.landed nb fl3.1 (up.trans up3) os ag;let⟨oe3,vs3,he3,hz3,hd3⟩:=fl3.there
  have notF:a∉frs (X.env::X.outer):=λhm=>by
   let⟨_,o,eo,hnf⟩:=Heap.FunFrames.mem fl3.2.2.1 hm
   rw[he3]at eo;cases eo;exact hnf _ hd3
  have nL:a≠X.env.locals:=λz=>notF (List.mem_filterMap.mpr ⟨X.env,avI,(by rw[hf,z])⟩);have nF:a∉X.fs:=λhm=>by
   let⟨e,he,q⟩:=List.mem_filterMap.mp hm
   exact notF (List.mem_filterMap.mpr ⟨e,avG _ he,q⟩)
  have S3:=J3.suite he3 hd3 na nL nF;have look:PySem.W.Looks (model X.prog X.w) h3 (typeOf (.ref a)) cls:=λA Q E s k q=>wpAny_typeOf_ref (k _ _ he3) (by rw[hz3.1];exact q);have named:∀{x:Str} {c:Value} {np:Pos} {Q:Value->Shared->Prop} {E:Value->Shared->Prop},Names X x c->Q c { t with heap:=h3 }->wpAny (model X.prog X.w) (X.A.mark (some (.ref a))) (eval (.Name x np) X.env) Q E { t with heap:=h3 }:=by
   intro x c np Q E hc q;let⟨hg,hdb,hm⟩:=hc
   rcases hm with hm|⟨hm,hv,hnn⟩
   .exact ld_glob (X:=X.suite a ((a,oe3)::(X.pn++pins))) S3 hg hm q hdb
   .exact ld_blt (X:=X.suite a ((a,oe3)::(X.pn++pins))) S3 hg hm hv q hnn hdb
  have all:∀{hds2:List ExceptHandler} {ls2:List Cl},Es X hds2 ls2->abo X.K Wo D ls2 cls d τ G->wpAny (model X.prog X.w) X.A (handleBy (.ref a) X.env hds2) (SP X pins D) X.xe { t with heap:=h3 }:=by
   intro hds2 ls2 hk
   induction hk with
   |nil=>
    intro w;refine wpAny_handleBy_nil ?_;let⟨k1,k2,k3,oe,vs,T,oT,ts2,he,hz,hd,h1,hr⟩:=id fl3
    unfold PySem.passOn;refine awQ (wpAny_field he hd h1 ?_);have nT:¬((Value.ref T==Value.none)=true):=by simp
    rw[awT nT];have fin:wpAny (model X.prog X.w) X.A (setFlight (.ref a) X.env.frame) (λ_ s4=>wpAny (model X.prog X.w) X.A (throw (.ref a):Sem Flow) (SP X pins D) X.xe s4) X.xe { t with heap:=h3 }:=by rw[hf];refine HandSPX.setFlight_upZ fl3 ?_;intro h4 hh4 up4;refine wpAny_throw (tk _ _ ?_);exact⟨a,B,sI,pins,τ,G,cls,d,rfl,J,nb,(up.trans up3).trans up4,.inr (.inr (by rw[hs];exact hh4)),na,os,ag,w⟩
    first
     |exact awQ (awR (awQ fin))
     |exact awQ fin
   | @one x l s0 su np cp hds3 ls3 hc hn hsu r ih=>
    intro w;let⟨b,hb1,yes,no⟩:=w
    rw[hn]at yes;have LM:=PySem.W.exm_one (M:=model X.prog X.w) J3.kIn look hb1;refine wpAny_handleBy_cons (codeAny_handlers_test ?_) (by intro q;cases q);refine named hc (LM.here ?_);cases b with
    |false=>exact ih (no rfl)
    |true=>
     refine codeAny_handlers_suite ?_;refine HandSPX.lands_againZ fl3 ?_;intro h4 fl4 up4;have J4:Inv X pins τ G { t with heap:=h4 }:=J.landed nb fl4.1 ((up.trans up3).trans up4) os ag;let⟨oe4,vs4,he4,hz4,hd4⟩:=fl4.there
     have S4:=J4.suite he4 hd4 na nL nF;refine wpAny_mono ((hsu a oe4 cls d (X.pn++pins) hz4 ⟨_,hd4⟩).run [] _ _ G _ S4 (yes rfl a na)) ?_ (λ_ _ z=>awN z);intro f s6 sp6;cases f with
     |ret u=>
      let⟨v6,τ6,G6,S6,r6,q6⟩:=sp6
      exact⟨_,_,_,S6.unsuite ok,r6,q6⟩
     |next=>
      let⟨τ6,G6,S6,q6⟩:=sp6
      exact⟨_,_,S6.unsuite ok,q6⟩
     |brk=>
      let⟨τ6,G6,S6,q6⟩:=sp6
      exact⟨_,_,S6.unsuite ok,q6⟩
     |cont=>
      let⟨τ6,G6,S6,q6⟩:=sp6
      exact⟨_,_,S6.unsuite ok,q6⟩
   | @as x n i l s0 su np cp hds3 ls3 hc hn hi hl hsu r ih=>
    intro w;let⟨b,hb1,yes,no⟩:=w
    rw[hn]at yes;have LM:=PySem.W.exm_one (M:=model X.prog X.w) J3.kIn look hb1;refine wpAny_handleBy_cons (codeAny_handlers_test ?_) (by intro q;cases q);refine named hc (LM.here ?_);cases b with
    |false=>exact ih (no rfl)
    |true=>
     refine codeAny_handlers_suite_as ?_;refine HandSPX.lands_againZ fl3 ?_;intro h4 fl4 up4;have J4:Inv X pins τ G { t with heap:=h4 }:=J.landed nb fl4.1 ((up.trans up3).trans up4) os ag;let⟨oe4,vs4,he4,hz4,hd4⟩:=fl4.there
     have S4:=J4.suite he4 hd4 na nL nF;refine store_ok (X:=X.suite a ((a,oe4)::(X.pn++pins))) (v:=.ref a) S4 hN hi (.inl hl) rfl ?_ (.inr hl);intro s5 S5;refine wpAny_mono ((hsu a oe4 cls d (X.pn++pins) hz4 ⟨_,hd4⟩).run [] s5 _ G _ S5 (yes rfl a na)) ?_ (λ_ _ z=>awN z);intro f s6 sp6;have bye:∀{τ6:L2.St} {G6:Hp} {Q:Shared->Prop},Inv (X.suite a ((a,oe4)::(X.pn++pins))) [] τ6 G6 s6->(∀s7,Inv X pins (τ6.set i none) G6 s7->Q s7)->
       wpAny (model X.prog X.w) X.A (do bindName X.env n .none;unbindBehindTheSuite X.env n cp) (λ_ s7=>Q s7) X.xe s6:=λS6 hq=>gone_ok (S6.unsuite ok) hN hi hl hq
     cases f with
     |ret u=>
      let⟨v6,τ6,G6,S6,r6,q6⟩:=sp6
      exact bye S6 λs7 J7=>⟨_,_,_,J7,r6,q6⟩
     |next=>
      let⟨τ6,G6,S6,q6⟩:=sp6
      exact bye S6 λs7 J7=>⟨_,_,J7,q6⟩
     |brk=>
      let⟨τ6,G6,S6,q6⟩:=sp6
      exact bye S6 λs7 J7=>⟨_,_,J7,q6⟩
     |cont=>
      let⟨τ6,G6,S6,q6⟩:=sp6
      exact bye S6 λs7 J7=>⟨_,_,J7,q6⟩
  exact all hh w) PassesOwn.looking).run [] s σ H D (I.toTry _) h
 refine wpAny_Try_except (wpAny_mono run ?_ (λ_ _ z=>z));intro f s1 sp1;cases f with
 |ret u=>
  let⟨v,τ,G,J2,r,q⟩:=sp1
  exact⟨v,τ,G,J2.ofTry ok,r,q⟩
 |next=>
  let⟨τ,G,J2,q⟩:=sp1
  exact wpAny_execs_nil ⟨τ,G,J2.ofTry ok,q⟩
 |brk=>
  let⟨τ,G,J2,q⟩:=sp1
  exact⟨τ,G,J2.ofTry ok,q⟩
 |cont=>
  let⟨τ,G,J2,q⟩:=sp1
  exact⟨τ,G,J2.ofTry ok,q⟩
end
inductive IK where
 |con (d:Dat)|fld (f:Str)|flds (fs:List Str)
def ach(y:Str)(x:dX)(f:Str):Option Dat:=match x.cls==y with
 |true=>(x.fs.lookup f).bind λd=>match lf d with
  |true=>some d
  |false=>none
 |false=>none
def Wd(y:Str)(x:dX):List Str->Option (List Dat)
 |[]=>some []
 |f::fs=>(ach y x f).bind λd=>(Wd y x fs).bind λds=>some (d::ds)
def aaC(y:Str)(x:dX):IK->Option Dat
 |.con d=>some d
 |.fld f=>ach y x f
 |.flds fs=>(Wd y x fs).bind λds=>some (.tuple ds)
def Hl(y:Str)(x:dX):List (Nat×IK)->Env->Option Env
 |[],Z=>some Z
 |(j,e)::r,Z=>(aaC y x e).bind λd=>Hl y x r (Z.set j #[d])
structure Hd where
 y:Str
 tk:Str->Option Bool
 nm:Option Nat
 st:List (Nat×IK)
def Xv(Z:Env):Option Nat->Env
 |none=>Z
 |some i=>Z.set i none
def aeY(Z:Env):Option Nat->Bool
 |none=>true
 |some i=>decide (i<Z.length)
def hdl:List Hd->dX->Env->Mo->vK
 |[],x,Z,M=>.exc x Z M
 |h::r,x,Z,M=>match h.tk x.cls with
  |some true=>match aeY Z h.nm with
   |true=>match Hl h.y x h.st (Xv Z h.nm) with
    |some Z2=>.next (Xv Z2 h.nm) M
    |none=>.bad
   |false=>.bad
  |some false=>hdl r x Z M
  |none=>.bad
def Tf(f:SF)(hs:List Hd):SF:=λM Z=>match f M Z with
 |.exc x Z' M'=>hdl hs x Z' M'
 |o=>o
structure XIn(K:avC)(aj:aK)(σ:L2.St)(H:Hp)(g:Gh)(Z:Env)(M:Mo)(x:dX)(a:Addr)(cls:Value)(d:Option Addr)(i:Option Nat):Prop where
 inv:SInv K aj σ H g Z M
 xr:tV K aj g.fr H x cls d
 sl:∀j,i=some j->σ[j]?=some (some (.ref a))
section
variable(K:avC)(aj:aK)(a:Addr)(cls:Value)(d:Option Addr)(i:Option Nat)
def tU(f:dX->Option Dat):TE:=λσ H Q=>∃g Z M x z,XIn K aj σ H g Z M x a cls d i/\f x=some z/\∀v H',Ex H H'->Rep K g H' v z->Q v H'
def tUA(f:dX->Option (List Dat)):TA:=λσ H Q=>∃g Z M x z,XIn K aj σ H g Z M x a cls d i/\f x=some z/\∀v H',Ex H H'->aA K g H' v z->Q v H'
def tSu(y:Str)(st:List (Nat×IK)):TS:=λD σ H=>∃g Z M x Z2,XIn K aj σ H g Z M x a cls d i/\Hl y x st Z=some Z2/\(∀p∈st,i≠some p.1)/\∀σ' H',Ex H H'->SInv K aj σ' H' g Z2 M->D.nx σ' H'
end
section
variable{K:avC}{aj:aK}{a:Addr}{cls:Value}{d:Option Addr}{i:Option Nat}{σ:L2.St}{H H':Hp}{g:Gh}{Z:Env}{M:Mo}{x:dX}
theorem mK.ex{fs:LsS V}{gs:LsS Dat}(e:Ex H H')(k:Kd g H)(h:mK K g H fs gs):mK K g H' fs gs:=h.gr (Gr.ex (q:=true) e) k
theorem tV.ex{c:Value}{dd:Option Addr}(e:Ex H H')(k:Kd g H)(h:tV K aj g H x c dd):tV K aj g H' x c dd:=by
 let⟨C,h1,h2,h3⟩:=h
 exact⟨C,h1,h2,h3.imp id λ⟨b,fs,e1,e2,e3⟩=>⟨b,fs,e1,e _ _ e2,e3.ex e k⟩⟩
theorem XIn.ex(e:Ex H H')(h:XIn K aj σ H g Z M x a cls d i):XIn K aj σ H' g Z M x a cls d i:=⟨h.inv.ex e,h.xr.ex e h.inv.kd.fr,h.sl⟩
def mK.get{f:Str}{z:Dat}{fs:LsS V}{gs:LsS Dat}(h:mK K g H fs gs)(e:gs.lookup f=some z):∃v,fs.lookup f=some v/\Rep K g H v z:=by
 induction h with
 |nil=>cases e
 | @cons f' v d' _ _ r _ ih=>
  rw[av5]at e;rw[av5];cases hb:f==f' with
  |true=>
   rw[hb]at e;cases e;exact⟨v,rfl,r⟩
  |false=>
   rw[hb]at e;exact ih e
end
section
variable{X:Cx}{aj:aK}{a C:Addr}{oe:Obj}{cls:Value}{d:Option Addr}{pn:List (Addr×Obj)}{y n:Str}{pos p:Pos}{j:Nat}
def ahk{e:Expr}{z:Dat}{i:Option Nat}{t:TE}(h:PE (X.suite a ((a,oe)::pn)) e t)(ht:∀σ H Q,tU X.K aj a cls d i (λ_=>some z) σ H Q->t σ H Q):PE (X.suite a ((a,oe)::pn)) e (tU X.K aj a cls d i λ_=>some z):=PE.weak h ht
def afP{f:Str}(hC:aj y=some C)(T:XfC X.K C)(hno:PySem.W.findIn X.K (.ref C) f=some none)(hz:Zc cls d oe)(hf:∃vs,oe.data=.fields vs)(hN:X.N[j]?=some n)(hv:Vis X.env.scope n)(hd:(n==("__debug__" : Str))=false)(hcd:(n==("__classdict__" : Str))=false) :
  PE (X.suite a ((a,oe)::pn)) (.Attribute (.Name n p) f pos) (tU X.K aj a cls d (some j) λx=>ach y x f):=by
 refine PE.weak (pe_xf T hno hz hf (pe_var (i:=j) (X:=X.suite a ((a,oe)::pn)) hN hv hd hcd)) λσ H Q ⟨g,Z,M,x,z,I,e,k⟩=>?_;have e:ach y x f=some z:=e;unfold ach at e;split at e
 .next ey=>
  let⟨z',l,e⟩:=avF.mp e
  split at e
  .next hl=>
   cases e;let⟨C',c1,c2,c3⟩:=I.xr
   rw[awV ey,hC]at c1;cases c1;rcases c3 with⟨c3,_⟩|⟨b,fs,c3,c4,c5⟩
   .rw[c3]at l;cases l
   .let⟨v,l1,l2⟩:=c5.get l
    exact⟨.ref a,I.sl j rfl,rfl,c2,b,fs,v,c3,c4,l1,k v H (Ex.refl H) (Rep.free (g:=g.fr) (g':=g) rfl hl l2)⟩
  .cases e
 .cases e
def afL{i:Option Nat}:PA (X.suite a ((a,oe)::pn)) [] (tUA X.K aj a cls d i λ_=>some []):=PA.weak pa_nil λσ H Q ⟨g,Z,M,x,z,I,e,k⟩=>by
 cases e;exact k [] H (Ex.refl H) .nil
def ale{e:Expr}{es:List Expr}{i:Option Nat}{f:dX->Option Dat}{fr:dX->Option (List Dat)}(h:PE (X.suite a ((a,oe)::pn)) e (tU X.K aj a cls d i f))(hr:PA (X.suite a ((a,oe)::pn)) es (tUA X.K aj a cls d i fr))(hs:nst e=true) :
  PA (X.suite a ((a,oe)::pn)) (e::es) (tUA X.K aj a cls d i λx=>(f x).bind λz=>(fr x).bind λzs=>some (z::zs)):=by
 refine PA.weak (pa_cons h hr (bH hs es)) λσ H Q ⟨g,Z,M,x,z,I,e,k⟩=>?_;let⟨z1,e1,e⟩:=avF.mp e
 let⟨z2,e2,e⟩:=avF.mp e
 cases e;exact⟨g,Z,M,x,z1,I,e1,λv H1 x1 r1=>⟨g,Z,M,x,z2,I.ex x1,e2,λvs H2 x2 r2=>k (v::vs) H2 (x1.trans x2) (.cons (r1.ex x2 (I.ex x1).inv.kd) r2)⟩⟩
def agz{es:List Expr}{kk:Nat}{i:Option Nat}{fr:dX->Option (List Dat)}(hr:PA (X.suite a ((a,oe)::pn)) es (tUA X.K aj a cls d i fr))(hn:∀x zs,fr x=some zs->zs.length<=100000):PE (X.suite a ((a,oe)::pn)) (.Tuple es kk pos) (tU X.K aj a cls d i λx=>(fr x).bind λzs=>some (.tuple zs)):=by
 refine PE.weak (pe_tup hr) λσ H Q ⟨g,Z,M,x,z,I,e,k⟩=>?_;let⟨zs,e1,e⟩:=avF.mp e
 cases e;refine⟨g,Z,M,x,zs,I,e1,λvs H1 x1 r1=>⟨sz_of (by rw[r1.length];exact hn x zs e1),λp np=>?_⟩⟩;exact k (.ref p) _ (x1.trans (Ex.new np)) (.tup (st_of awU) (r1.ex (Ex.new np) (I.ex x1).inv.kd))
theorem ZV{x:dX}:∀{fs:List Str} {zs:List Dat},Wd y x fs=some zs->zs.length=fs.length
 |[],zs,h=>by cases h;rfl
 |f::fs,zs,h=>by
  rw[Wd]at h;obtain⟨z1,e1,h⟩;obtain⟨z2,e2,h⟩;cases h;simp[ZV e2]
def amI{i:Option Nat}{se:IK}{st:List (Nat×IK)}{D D':Ends}{σ:L2.St}{H:Hp}(h:tSu X.K aj a cls d i y ((j,se)::st) D σ H)(nx:∀σ' H',tSu X.K aj a cls d i y st D σ' H'->D'.nx σ' H') :
  tAsg (tU X.K aj a cls d i λx=>aaC y x se) (gName j) D' σ H:=by
 let⟨g,Z,M,x,Z2,I,e,nj,k⟩:=h
 rw[Hl]at e;let⟨z,e1,e⟩:=avF.mp e
 refine⟨g,Z,M,x,z,I,e1,λv H' x1 r1=>nx _ _ ⟨g,Z.set j #[z],M,x,Z2,⟨(I.ex x1).inv.set r1,(I.ex x1).xr,λjj hj=>?_⟩,e,λp hp=>nj p (avG _ hp),λσ' H2 x2 I2=>k σ' H2 (x1.trans x2) I2⟩⟩;have ne:j≠jj:=λz=>nj (j,se) avI (by rw[hj,z]);rw[avL ne];exact I.sl jj hj
def amW{i:Option Nat}{D:Ends}{σ:L2.St}{H:Hp}(h:tSu X.K aj a cls d i y [] D σ H):D.nx σ H:=by
 let⟨g,Z,M,x,Z2,I,e,nj,k⟩:=h
 cases e;exact k σ H (Ex.refl H) I.inv
end
def arF(K:avC)(aj:aK)(h:Hd)(l:Cl):Prop:=(∃D,aj h.y=some D/\l.c=.ref D)/\aeA K aj h.y h.tk/\l.nm=h.nm/\(l.ts=λa cls d=>tSu K aj a cls d h.nm h.y h.st)/\∀p∈h.st,h.nm≠some p.1
inductive JQ(K:avC)(aj:aK):List Hd->List Cl->Prop
 |nil:JQ K aj [] []
 |cons {h:Hd} {l:Cl} {hs:List Hd} {ls:List Cl} (o:arF K aj h l) (r:JQ K aj hs ls):JQ K aj (h::hs) (l::ls)
def SInv.off{K:avC}{aj:aK}{σ:L2.St}{H:Hp}{g:Gh}{Z:Env}{M:Mo}(I:SInv K aj σ H g Z M)(i:Nat)(v:Option V):SInv K aj (σ.set i v) H g (Z.set i none) M:=by
 have I2:=I.forget (j:=i);refine⟨I2.kd,I2.wok,by rw[av4,av4];exact I.len,λj d h=>?_,λj xs h=>?_,λj k xs ys l ne h1 h2 h3=>?_⟩
 .by_cases e:j=i
  .subst e;rw[awu]at h
   left<;>first | (left<;>cases h) | (exact absurd rfl ‹¬_›)
  .let⟨v',a1,a2⟩:=I2.dat j d h
   rw[avL (Ne.symm e)]at a1;exact⟨v',by rw[avL (Ne.symm e)];exact a1,a2⟩
 .by_cases e:j=i
  .subst e;rw[awu]at h
   left<;>first | (left<;>cases h) | (exact absurd rfl ‹¬_›)
  .let⟨l,us,a1,a2⟩:=I2.own j xs h
   rw[avL (Ne.symm e)]at a1;exact⟨l,us,by rw[avL (Ne.symm e)];exact a1,a2⟩
 .have n1:j≠i:=λz=>by
   subst z;rw[awu]at h1;split at h1<;>first | (split at h1<;>cases h1) | (exact absurd rfl ‹¬_›)
  have n2:k≠i:=λz=>by
   subst z;rw[awu]at h2;split at h2<;>first | (split at h2<;>cases h2) | (exact absurd rfl ‹¬_›)
  rw[avL (Ne.symm n1)]at h1 h3;rw[avL (Ne.symm n2)]at h2 |-
  exact I.sep j k xs ys l ne h1 h2 h3
section
variable{X:Cx}{aj:aK}{W:WX}{q:Bool}{body:List Stmt}{h0:ExceptHandler}{hds:List ExceptHandler}{hs:List Hd}{ls:List Cl}{pos:Pos}{f:SF}
def aml{D:Ends}{g g':Gh}{H H':Hp}{σ':L2.St}{Z':Env}{M':Mo}{x:dX}{c:Value}{dd:Option Addr}(ha:JQ X.K aj hs ls)(r:Gr q g g' H H')(I:SInv X.K aj σ' H' g' Z' M')(xr:tV X.K aj g'.fr H' x c dd)
  (z:(hdl hs x Z' M').sat (sN X.K aj q D.nx g H) (sR X.K aj q D.rt g H) (sN X.K aj q D.bk g H) (sN X.K aj q D.ct g H) (sX X.K aj W q g H)):abo X.K W D ls c dd σ' H':=by
 induction ha with
 |nil=>exact z σ' H' g' c dd r I xr
 | @cons h l hs ls o _ ih=>
  let⟨⟨D0,o1,o2⟩,o3,o4,o5,o6⟩:=o
  rw[hdl]at z;let⟨C,c1,c2,c3⟩:=id xr
  split at z
  .next ht=>
   refine⟨true,by rw[c2,o2];exact o3 _ _ _ ht c1 _ o1,λ_ a na=>?_,λy=>nomatch y⟩;rw[o4,o5];split at z
   .next hm=>
    split at z
    .next Z2 hr=>
     cases hnm:h.nm with
     |none=>
      rw[hnm]at hr z o6;exact⟨g',Z',M',x,Z2,⟨I,xr,λj hj=>nomatch hj⟩,hr,o6,λσ2 H2 e2 I2=>z σ2 H2 g' (r.trans (Gr.ex e2)) I2⟩
     |some i=>
      rw[hnm]at hr z o6 hm;refine⟨g',Z'.set i none,M',x,Z2,⟨I.off i _,xr,λj hj=>?_⟩,hr,o6,λσ2 H2 e2 I2=>z _ H2 g' (r.trans (Gr.ex e2)) (I2.off i none)⟩;cases hj;have hl:i<Z'.length:=awP hm;rw[avV (by rw[I.len];exact hl)]
    .exact awN z
   .exact awN z
  .next ht=>exact⟨false,by rw[c2,o2];exact o3 _ _ _ ht c1 _ o1,(λy=>nomatch y),λ_=>ih z⟩
  .exact awN z
def anI(st:X.stack=X.env::X.outer)(hf:X.env.frame=some X.env.locals)(hN:X.N.Nodup)(tk:Takes X W)
  (hb:∀(W':WX) (pn:List (Addr×Obj)) (xe:Value->Shared->Prop),Takes (X.tr pn xe) W'->PassesOwn (model X.prog X.w) X.A X.env xe->Aj aj (X.tr pn xe) W' q body f)
  (hh:Es X (h0::hds) ls) (ha:JQ X.K aj hs ls):SE aj X W q (.Try body (h0::hds) [] [] pos) (Tf f hs):=by
 refine PS.weak (akE (tb:=λW'=>tS X.K aj W' q f) st hf hN tk (λW' pn xe t p=>hb W' pn xe t p) hh) λD σ H ⟨g,Z,M,I,z⟩=>?_;refine⟨g,Z,M,I,?_⟩;unfold Tf at z;cases hfm:f M Z with
 |next Z' M'=>rw[hfm]at z;exact z
 |ret d M'=>rw[hfm]at z;exact z
 |brk Z' M'=>rw[hfm]at z;exact z
 |cont Z' M'=>rw[hfm]at z;exact z
 |bad=>rw[hfm]at z;exact z
 |exc x Z' M'=>
  rw[hfm]at z;exact λσ' H' g' c dd r I' xr=>aml ha r I' xr z
end
section
variable{K:avC}{aj:aK}{W:WX}{g g':Gh}{H H':Hp}{σ:L2.St}{Z:Env}{M:Mo}
theorem iD.grow{l:Addr}(r:Gr false g g' H H')(e:Ex H H')(k:Kd g H):∀{n:Bool} {kvs:List (Dat×Dat)},iD K aj g H l n kvs->iD K aj g' H' l n kvs
 |false,_,⟨kv,h1,h2,h3⟩=>⟨kv,e _ _ h1,h2,h3.gr r k⟩
 |true,_,⟨o,xs,vs,h1,h2,h3,h4,h5,h6⟩=>⟨o,xs,vs,e _ _ h1,h2,h3,h4.gr r k,h5,h6.gr r k⟩
theorem eX.grow{h:Nat}{f:Str}{v:V}(r:Gr false g g' H H')(e:Ex H H')(o:g'.ow=g.ow)(k:Kd g H):∀{fl:jD},eX K aj g H h f v fl->eX K aj g' H' h f v fl
 |.dat _,z=>Rep.gr r k z
 |.lst _ _,⟨l,us,h1,h2,h3,h4,h5⟩=>⟨l,us,h1,e _ _ h2,by rw[o];exact h3,h4.gr r k,r.tb h5⟩
 |.dic _ _,⟨l,h1,h2,h3⟩=>⟨l,h1,by rw[o];exact h2,h3.grow r e k⟩
theorem cH.grow{h:Nat}(r:Gr false g g' H H')(e:Ex H H')(o:g'.ow=g.ow)(k:Kd g H){fs:LsS V}{gs:LsS jD}(t:cH K aj g H h fs gs):cH K aj g' H' h fs gs:=by
 induction t with
 |nil=>exact .nil
 |cons z _ ih=>exact .cons (z.grow r e o k) ih
def Gh.push(g:Gh)(x:Addr):Gh:={ g with tbl:=g.tbl++[x] }
def abT{x a:Addr}(z:(g.push x).A a):g.A a\/a=x:=by
 rcases z with(z|z)|z|z
 .rcases avR.mp z with z|z
  .exact .inl (.inl (.inl z))
  .exact .inr (avJ.mp z)
 .exact .inl (.inl (.inr z))
 .exact .inl (.inr (.inl z))
 .exact .inl (.inr (.inr z))
def abE{x a:Addr}(z:(g.push x).W a):g.W a\/a=x:=by
 rcases z with z|z
 .rcases avR.mp z with z|z
  .exact .inl (.inl z)
  .exact .inr (avJ.mp z)
 .exact .inl (.inr z)
def Yd{x:Addr}(e:Ex H H')(nx:H x=none):Gr false g (g.push x) H H' where
 keep:=λa o h _ _=>e a o h
 keepW:=λz=>nomatch z
 dom:=GD e
 tbl:=⟨[x],rfl⟩
 W:=λa z=>z.elim (λz=>.inl (awk _ z)) .inr
 nW:=λa z=>(abE z).imp id λz=>by rw[z];exact nx
 qg:=λz=>nomatch z
 Lc:=rfl
 Lo:=λ_ z=>z
 nLo:=λ_ z=>.inl z
def aei{x:Addr}{o:HO}(k:Kd g H)(e:Ex H H')(nx:H x=none)(hx:H' x=some o)(m:Jr o):Kd (g.push x) H' where
 ob:=λa z=>by
  rcases abT z with z|rfl
  .let⟨u,h1,h2⟩:=k.ob a z
   exact⟨u,e _ _ h1,h2⟩
  .exact⟨o,hx,m⟩
 lo:=λa z y=>by
  rcases abE y with y|rfl
  .exact k.lo a z y
  .let⟨u,h1,_⟩:=k.ob a (.inr (.inr z))
   rw[nx]at h1;cases h1
 lc:=λa z=>by
  refine⟨λy=>?_,(k.lc a z).2⟩;rcases abE y with y|rfl
  .exact(k.lc a z).1 y
  .let⟨u,h1,_⟩:=k.ob a (.inr (.inl z))
   rw[nx]at h1;cases h1
def aaP{x:Addr}{c:Str}(k:Kd g H)(w:gM K aj g H M)(e:Ex H H')(nx:H x=none)(hx:c=""\/∃C dx,aj c=some C/\H' x=some (.ins C dx [])):gM K aj (g.push x) H' (M++[⟨c,[]⟩]):=by
 have gt:∀{h:Nat} {a:Addr},(g.push x).tbl[h]?=some a->(g.tbl[h]?=some a)\/(h=M.length/\a=x):=λ{h a} z=>by
  have z:(g.tbl++[x])[h]?=some a:=z;by_cases hl:h<g.tbl.length
  .rw[avS hl]at z;exact .inl z
  .rw[avX #[]]at z;have:=(avH.mp z).1;simp at this;have e0:h-g.tbl.length=0:=#[];rw[e0]at z;cases z;exact .inr ⟨by rw[<-w.len];omega,rfl⟩
 have nin:∀{h:Nat},¬g.tbl[h]?=some x:=λ{h} z=>by
  let⟨u,h1,_⟩:=k.ob x (.inl (.inl (avK z)))
  rw[nx]at h1;cases h1
 have ex:∀{h:Nat} {i:Inst},(M++[(⟨c,[]⟩:Inst)])[h]?=some i->M[h]?=some i\/i=⟨c,[]⟩:=λ{h i} h1=>by
  by_cases hl:h<M.length
  .rw[avS hl]at h1;exact .inl h1
  .rw[avX #[]]at h1;exact .inr (avJ.mp (avK h1))
 refine⟨by show(g.tbl++[x]).length=_;simp[w.len],λh j a h1 h2=>?_,λh a i h1 h2 hcn=>?_,λh i h1=>?_,λh i h1=>?_,λh a i h1 h2 hcn=>?_,λh i h1 hcn=>?_,w.nc⟩
 .rcases gt h1 with z1|⟨z1,rfl⟩
  .rcases gt h2 with z2|⟨z2,rfl⟩
   .exact w.inj h j a z1 z2
   .exact absurd z1 nin
  .rcases gt h2 with z2|⟨z2,_⟩
   .exact absurd z2 nin
   .omega
 .rcases gt h1 with z1|⟨rfl,rfl⟩
  .have hl:h<M.length:=by rw[<-w.len];exact(avH.mp z1).1
   rw[avS hl]at h2;let⟨C',dx',fs,c1,c2,c3⟩:=w.ins h a i z1 h2 hcn
   exact⟨C',dx',fs,c1,e _ _ c2,c3.grow (Yd e nx) e rfl k⟩
  .rw[avX (avW _),Nat.sub_self]at h2;cases h2;rcases hx with rfl|⟨C,dx,hc,hx⟩
   .exact absurd rfl hcn
   .exact⟨C,dx,[],hc,hx,.nil⟩
 .rcases ex h1 with h1|rfl
  .exact w.nd h i h1
  .exact List.nodup_nil
 .rcases ex h1 with h1|rfl
  .exact w.fd h i h1
  .exact λf hf=>absurd hf av8
 .rcases gt h1 with z1|⟨_,rfl⟩
  .have hl:h<M.length:=by rw[<-w.len];exact(avH.mp z1).1
   rw[avS hl]at h2;exact w.tw h a i z1 h2 hcn
  .cases hz:g.ow a with
   |none=>exact hz
   |some p=>
    let⟨u,h2,_⟩:=k.ob a (.inl (.inr (by rw[hz];exact λy=>nomatch y)))
    rw[nx]at h2;cases h2
 .rcases ex h1 with h1|rfl
  .exact w.dm h i h1 hcn
  .rfl
def SInv.grow{M':Mo}(r:Gr false g g' H H')(e:Ex H H')(lo:g'.Lo=g.Lo)(k':Kd g' H')(w':gM K aj g' H' M')(I:SInv K aj σ H g Z M):SInv K aj σ H' g' Z M' where
 kd:=k'
 wok:=w'
 len:=I.len
 dat:=λi d h=>by
  let⟨v,h1,h2⟩:=I.dat i d h
  exact⟨v,h1,h2.gr r I.kd⟩
 own:=λi xs h=>by
  let⟨l,us,h1,h2,h3,h4⟩:=I.own i xs h
  exact⟨l,us,h1,e _ _ h2,by rw[lo];exact h3,h4.gr r I.kd⟩
 sep:=I.sep
end
def aeU{P:Program}{w:World}{K:avC}{mg:Str->Option Value}{base:Heap}{k:Nat}{f:Addr}{fd:FuncData}{ps:List Str}{sp:Sp}(F:FnOk P w K mg base (L2.CX P w) k f fd ps sp):FnOk P w K mg base L2.CX0 k f fd ps λvs H Q _=>sp vs H Q λ_ _ _=>False:=
 ⟨λvs H Q E h=>F.len vs H Q _ h,λA outer s H args us vs Q E hr he hb hv h=>codeAny_mono (F.run A outer s H args us vs Q _ hr he hb hv h) λr s' z=>by
  unfold CR at z |-
  split at z
  .exact z
  .exact z
  .let⟨a,B,H',cls,d,_,_,_,_,_,_,_,y⟩:=z
   exact awN y⟩
def Ds(x:Str)(m:Mo->List Dat->aY Dat)(as:QA):GF:=λM Z=>((as M Z).at M).bind λds _=>match m (M++[⟨x,[]⟩]) (obj M.length::ds) with
 |.ok .none M'=>.ok (obj M.length) M'
 |_=>.bad
section
variable{X:Cx}{aj:aK}{W:WX}{x:Str}{pos p:Pos}{k n:Nat}{m:Mo->List Dat->aY Dat}{as:QA}{t:TA}{e:Expr}{es:List Expr}
def ahh{C f:Addr}{fd:FuncData}{ps:List Str}(hc:aj x=some C)(hp:ps.length=n+1)(hn:∀M Z ds,as M Z=.ok ds->ds.length=n)(ht:∀σ H Q,R8 X.K aj W as σ H Q->t σ H Q)(σ:L2.St)(H:Hp)(Q:VK)(h:tE X.K aj W false (Ds x m as) σ H Q) :
  tMake C (λvs H Q _=>M9 X.K aj ps.length m vs H Q λ_ _ _=>False) [] (λ_ _ _=>False) t σ H Q:=by
 let⟨g,Z,M,I,h⟩:=h
 unfold Ds at h;have h:=h.bnd;refine ht σ H _ ⟨g,Z,M,I,?_⟩;cases has:as M Z with
 |exc x=>rw[has]at h;exact λH' c dd e r=>h H' g c dd (Gr.ex e) (I.ex e) r
 |bad=>rw[has]at h;exact awN h
 |ok ds=>
  rw[has]at h;intro vs H1 e1 r1 y dx ny ndx ne;have I1:=I.ex e1;have e2:Ex H1 (upd (upd H1 dx (.own y)) y (.ins C dx [])):=by refine(Ex.new ndx).trans (Ex.new ?_);rw[upd_ne ne.symm];exact ny
  have hy:upd (upd H1 dx (.own y)) y (.ins C dx []) y=some (.ins C dx []):=awU;have gr:=Yd (g:=g) e2 ny;have kd:=aei I1.kd e2 ny hy awM;have wk:=aaP (c:=x) I1.kd I1.wok e2 ny (.inr ⟨C,dx,hc,hy⟩);have I2:=I1.grow gr e2 rfl kd wk;have hb:(g.push y).tbl[M.length]?=some y:=by
   show(g.tbl++[y])[M.length]?=_
   rw[<-I1.wok.len,avX (avW _),Nat.sub_self];rfl
  refine⟨by rw[awn,avO,r1.length,hn M Z ds has,hp],g.push y,M++[⟨x,[]⟩],obj M.length::ds,kd,wk,.cons (.obj hb) (by rw[awn];exact r1.gr gr I1.kd),?_⟩;have h:aY.sat (match m (M++[(⟨x,[]⟩:Inst)]) (obj M.length::ds) with
   |.ok .none M'=>aY.ok (obj M.length) M'
   |_=>.bad) (λd M'=>∀v H' g',Gr false g g' H H'->SInv X.K aj σ H' g' Z M'->Rep X.K g' H' v d->Q v H') (gE X.K aj W false g H σ Z):=h
  cases hm:m (M++[⟨x,[]⟩]) (obj M.length::ds) with
  |bad=>rw[hm]at h;exact awN h
  |exc z M'=>rw[hm]at h;exact awN h
  |ok d M'=>
   rw[hm]at h;cases d with
   |none=>exact λv H' g' c k' w' r'=>⟨by cases r';rfl,h (.ref y) H' g' (((Gr.ex e1).trans gr).trans c.gr) (I2.call c k' w') (.obj (c.gr.tb hb))⟩
   |_=>exact awN h
def amY(hr:Room k X.A)(g:oU X.prog X.w X.K X.mg X.base aj k x (.cls n m))(hg:Gl X x)(hd:(x==("__debug__" : Str))=false)(ha:Ko aj X W (e::es) as)(hs:(e::es).all nst=true)(hn:∀M Z ds,as M Z=.ok ds->ds.length=n) :
  GE aj X W false (.Call (.Name x p) (e::es) [] pos) (Ds x m as):=by
 let⟨C,f,fd,ps,j,g1,g2,_,g3,hj,hp,hB,F⟩:=g
 have hs':=hs;rw[awf,avD]at hs';exact PE.weak (pe_make (E:=λ_ _ _=>False) g3 (aeU F) (hr.mono hj) hg g1 hB .nil pass0 ha hd (bH hs'.1 es) (star_any es hs'.2)) λσ H Q h=>ahh (f:=f) (fd:=fd) g2 hp hn (λ_ _ _ z=>z) σ H Q h
def ak9(hr:Room k X.A)(g:oU X.prog X.w X.K X.mg X.base aj k x (.cls 0 m))(hg:Gl X x)(hd:(x==("__debug__" : Str))=false):GE aj X W false (.Call (.Name x p) [] [] pos) (Ds x m dI):=by
 let⟨C,f,fd,ps,j,g1,g2,_,g3,hj,hp,hB,F⟩:=g
 exact PE.weak (pe_make0 (E:=λ_ _ _=>False) g3 (aeU F) (hr.mono hj) hg g1 hB .nil pass0 hd) λσ H Q h=>ahh (f:=f) (fd:=fd) (as:=dI) g2 hp (λM Z ds z=>by cases z;rfl) (λσ H Q ⟨g,Z,M,I,z⟩=>z [] H (Ex.refl H) .nil) σ H Q h
end
def BP(m:Mo->List Dat->aY Dat)(as:QA):GF:=λM Z=>((as M Z).at M).bind λds _=>m M ds
section
variable{X:Cx}{aj:aK}{W:WX}{e:Expr}{es:List Expr}{pos p:Pos}{x:Str}{k:Nat}{f:Addr}{fd:FuncData}{ps:List Str}
def alP{m:Mo->List Dat->aY Dat}{as:QA}(tk:Takes X W)(F:FnOk X.prog X.w X.K X.mg X.base (L2.CX X.prog X.w) k f fd ps (M9 X.K aj ps.length m))(hr:Room k X.A)(hg:Gl X x)(hm:X.mg x=some (.ref f))(hk:PySem.W.keepIn X.K (.ref f)=true)(hb:Binds X.K fd ps [])
  (ha:Ko aj X W (e::es) as) (hl:(e::es).length=ps.length) (hd:(x==("__debug__" : Str))=false) (hs:(e::es).all nst=true) (hn:∀M Z ds,as M Z=.ok ds->ds.length=(e::es).length):GE aj X W false (.Call (.Name x p) (e::es) [] pos) (BP m as):=by
 have hs':=hs;rw[awf,avD]at hs';refine PE.weak (pe_callS (E:=λσ=>WE W σ) F hr hg hm hk hb (λσ=>passAt tk σ) ha hd (bH hs'.1 es) (star_any es hs'.2)) λσ H Q ⟨g,Z,M,I,h⟩=>?_;refine⟨g,Z,M,I,?_⟩;have h:=h.bnd;cases has:as M Z with
 |exc x=>rw[has]at h;exact λH' c dd e r=>h H' g c dd (Gr.ex e) (I.ex e) r
 |bad=>rw[has]at h;exact awN h
 |ok ds=>
  rw[has]at h;have h:(m M ds).sat (λd M'=>∀v H' g',Gr false g g' H H'->SInv X.K aj σ H' g' Z M'->Rep X.K g' H' v d->Q v H') (gE X.K aj W false g H σ Z):=h;intro vs H1 e1 r1;exact⟨by rw[r1.length,hn M Z ds has];exact hl,g,M,ds,I.kd.ex e1,I.wok.ex e1 I.kd,r1,h.mono (λd M' kk v H' g' c k' w' r'=>kk v H' g' ((Gr.ex e1).trans c.gr) ((I.ex e1).call c k' w') r') λx M' kk H' g' cc dd c k' w' r'=>kk H' g' cc dd ((Gr.ex e1).trans c.gr) ((I.ex e1).call c k' w') r'⟩
end
def Ft.has(ft:Ft)(c f:Str):Bool:=match ft.lookup c with
 |some fs=>fs.contains f
 |none=>false
def Qh(ft:Ft)(aj:aK):Prop:=∀c f,ft.has c f=true->f∈aj.fl c
def unH:Dat->Option Nat
 |.dict [(.none,.int (.ofNat h))]=>some h
 |_=>none
def aiy{d:Dat}{h:Nat}(e:unH d=some h):d=obj h:=by
 unfold unH at e;split at e
 .cases e;rfl
 .cases e
def lM(M:Mo)(d:Dat):Option (Nat×Inst):=(unH d).bind λh=>(M[h]?).bind λi=>match i.cls=="" with
 |true=>none
 |false=>some (h,i)
def Mf{M:Mo}{d:Dat}{h:Nat}{i:Inst}(e:lM M d=some (h,i)):d=obj h/\M[h]?=some i/\i.cls≠"":=by
 unfold lM at e;let⟨h',e1,e⟩:=avF.mp e
 let⟨i',e2,e⟩:=avF.mp e
 split at e
 .cases e
 .next hc=>
  cases e;exact⟨aiy e1,e2,λz=>by rw[z]at hc;cases hc⟩
def wu(ft:Ft)(o:QF)(f:Str)(e:GF):SF:=λM Z=>(e M Z).then Z λd M1=>((o M1 Z).at M1).then Z λod M2=>match lM M2 od with
 |some (h,i)=>match ft.has i.cls f&&decide (i.fs.length<100) with
  |true=>.next Z (M2.set h (i.put f (.dat d)))
  |false=>.bad
 |none=>.bad
def SInv.chg{K:avC}{aj:aK}{σ:L2.St}{H H':Hp}{g g':Gh}{Z:Env}{M M':Mo}{h:Nat}{f:Str}(I:SInv K aj σ H g Z M)(c:Chg M g g' H H' h f)(w:gM K aj g' H' M'):SInv K aj σ H' g' Z M':=I.call c.gc c.kd w
section
variable{X:Cx}{aj:aK}{W:WX}{o e:Expr}{f:Str}{pos pos':Pos}{ft:Ft}{fo:QF}
def J5{K:avC}{g:Gh}{H:Hp}{M:Mo}{d:Dat}{v:V}{h:Nat}{i:Inst}(co:jM K aj)(fk:Qh ft aj)(w:gM K aj g H M)(r:dW K g H v d)(hi:lM M d=some (h,i))(hf:ft.has i.cls f=true):∃a C dx fs,d=obj h/\M[h]?=some i/\i.cls≠""/\g.tbl[h]?=some a/\v=.ref a/\aj i.cls=some C/\H a=some (.ins C dx fs)/\cH K aj g H h fs i.fs/\Cls K C/\NoAttr K C f/\f∈aj.fl i.cls:=by
 let⟨rfl,h1,h2⟩:=Mf hi
 let⟨a,rfl,ha⟩:=PB r
 let⟨C,dx,fs,c1,c2,c3⟩:=w.ins h a i ha h1 h2
 have hfl:=fk _ _ hf;let⟨k1,k2⟩:=co i.cls C f c1 hfl
 exact⟨a,C,dx,fs,rfl,h1,h2,ha,rfl,c1,c2,c3,k1,k2,hfl⟩
def alG{fe:GF}(co:jM X.K aj)(fk:Qh ft aj)(ho:QW aj X W o fo)(he:GE aj X W false e fe)(hs:swapsWith e (some (.Attribute o f pos')) pos.line X.env=pure false):SE aj X W false (.Assign [.Attribute o f pos'] e pos) (wu ft fo f fe):=by
 refine PS.weak (ps_fld ho he hs) λD σ H ⟨g,Z,M,I,z⟩=>?_;refine tE.go I (dB (σ:=σ) z) λd M1 v H1 g1 k1 r1 I1 rv=>?_;refine tW.go I1 (k:=λod=>((match lM M1 od with
  |some (h,i)=>match ft.has i.cls f&&decide (i.fs.length<100) with
   |true=>vK.next Z (M1.set h (i.put f (.dat d)))
   |false=>.bad
  |none=>.bad).sat (sN X.K aj false D.nx g H) (sR X.K aj false D.rt g H) (sN X.K aj false D.bk g H) (sN X.K aj false D.ct g H) (sX X.K aj W false g H))) ?_ λod u H2 k2 e2 ru=>?_
 .have k1:=Out.jx (dB (σ:=σ) k1);exact k1.mono (λ_ y=>y) λx y H' c dd ex rx=>y H' g1 c dd (r1.trans (Gr.ex ex)) (I1.ex ex) rx
 .have I2:=I1.ex e2;split at k2
  .next h i hi=>
   split at k2
   .next hb=>
    rw[avD]at hb;let⟨a,C,dx,fs,_,m1,m2,ha,rfl,c1,c2,c3,c4,c5,c6⟩:=J5 co fk I2.wok ru hi hb.1
    refine⟨a,C,dx,fs,rfl,c2,c4,c5,?_,?_⟩
    .have:=awP hb.2;rw[c3.len];omega
    .have ch:=W3 (f:=f) (C:=C) (dx:=dx) (fs':=putF f v fs) I2.kd I2.wok ha m1 m2;have w':=I2.wok.chg I2.kd ch ha m1 m2 c6 c1 c3 awU (fl:=.dat d) (show Rep X.K g1 _ v d from(rv.ex e2 I1.kd).gr ch.gc.gr I2.kd);exact k2 σ _ g1 ((r1.trans (Gr.ex e2)).trans ch.gc.gr) (I2.chg ch w')
   .exact awN k2
  .exact awN k2
end
mutual
theorem Rep.mv{K:avC}{g g':Gh}{H:Hp}(tb:∀(h:Nat) (a:Addr),g.tbl[h]?=some a->g'.tbl[h]?=some a)(n:∀a,g'.A a->g.A a):∀{v:V} {d:Dat},Rep K g H v d->Rep K g' H v d
 |_,_,.non=>.non
 |_,_,.bl b=>.bl b
 |_,_,.int i=>.int i
 |_,_,.str x=>.str x
 |_,_,.tup h t=>.tup h (aA.mv tb n t)
 |_,_,.lst h t=>.lst (h.elim (λz=>.inl ⟨z.1,λy=>z.2 (n _ y)⟩) .inr) (aA.mv tb n t)
 |_,_,.obj h=>.obj (tb _ _ h)
theorem aA.mv{K:avC}{g g':Gh}{H:Hp}(tb:∀(h:Nat) (a:Addr),g.tbl[h]?=some a->g'.tbl[h]?=some a)(n:∀a,g'.A a->g.A a):∀{vs:List V} {ds:List Dat},aA K g H vs ds->aA K g' H vs ds
 |_,_,.nil=>.nil
 |_,_,.cons h t=>.cons (Rep.mv tb n h) (aA.mv tb n t)
end
def Iu(ft:Ft)(o:QF)(f:Str)(e:IF):SF:=λM Z=>((e M Z).at M).then Z λxs M0=>((o (M0++[⟨"",[]⟩]) Z).at (M0++[⟨"",[]⟩])).then Z λod M2=>match lM M2 od with
 |some (h,i)=>match ft.has i.cls f&&decide (i.fs.length<100) with
  |true=>.next Z (M2.set h (i.put f (.lst M0.length xs)))
  |false=>.bad
 |none=>.bad
def P0{K:avC}{aj:aK}{σ:L2.St}{H H':Hp}{g:Gh}{Z:Env}{M:Mo}{l:Addr}{o:HO}(I:SInv K aj σ H g Z M)(nl:H l=none)(e:Ex H H')(hl:H' l=some o)(m:Jr o):Gr false g (g.push l) H H'/\SInv K aj σ H' (g.push l) Z (M++[⟨"",[]⟩])/\(g.push l).tbl[M.length]?=some l/\(g.push l).ow l=none/\(M++[(⟨"",[]⟩:Inst)])[M.length]?=some ⟨"",[]⟩:=by
 have gr:=Yd (g:=g) e nl;have kd:=aei I.kd e nl hl m;have wk:=aaP (c:="") I.kd I.wok e nl (.inl rfl)
 refine⟨gr,I.grow gr e rfl kd wk,?_,?_,?_⟩
 .show(g.tbl++[l])[M.length]?=_
  rw[<-I.wok.len,avX (avW _),Nat.sub_self];rfl
 .cases hz:g.ow l with
  |none=>exact hz
  |some p=>
   let⟨u,h1,_⟩:=I.kd.ob l (.inl (.inr (by rw[hz];exact λy=>nomatch y)))
   rw[nl]at h1;cases h1
 .rw[avX (avW _),Nat.sub_self];rfl
section
variable{X:Cx}{aj:aK}{W:WX}{o e:Expr}{f:Str}{pos pos' p1 apos epos spos:Pos}{ft:Ft}{fo:QF}
def akT{fe:IF}(co:jM X.K aj)(fk:Qh ft aj)(ho:QW aj X W o fo)(he:FE aj X W e fe)(hs:swapsWith e (some (.Attribute o f pos')) pos.line X.env=pure false):SE aj X W false (.Assign [.Attribute o f pos'] e pos) (Iu ft fo f fe):=by
 refine PS.weak (ps_fld ho he hs) λD σ H ⟨g,Z,M,I,z⟩=>?_;refine⟨g,Z,M,I,?_⟩;unfold Iu at z;cases hf:fe M Z with
 |exc x=>rw[hf]at z;exact λH' c dd e r=>z σ H' g c dd (Gr.ex e) (I.ex e) r.fr
 |bad=>rw[hf]at z;exact awN z
 |ok xs=>
  rw[hf]at z;intro l us H1 nl e1 hl rs;let⟨gr,I1,tb,ow,mm⟩:=P0 I nl e1 hl awM
  have rs1:aA X.K (g.push l) H1 us xs:=aA.mv (g:=g.add l) (g':=g.push l) (λh a z=>gr.tb (g:=g) z) (λa z=>by
   rcases abT z with z|rfl
   .rcases z with z|z|z
    .exact .inl z
    .exact .inr (.inl z)
    .exact .inr (.inr (show g.Lo a\/a=l from Or.inl z))
   .exact .inr (.inr (show g.Lo a\/a=a from Or.inr rfl))) rs
  have z:(((fo (M++[⟨"",[]⟩]) Z).at (M++[⟨"",[]⟩])).then Z λod M2=>match lM M2 od with
   |some (h,i)=>match ft.has i.cls f&&decide (i.fs.length<100) with
    |true=>.next Z (M2.set h (i.put f (.lst M.length xs)))
    |false=>.bad
   |none=>.bad).sat (sN X.K aj false D.nx g H) (sR X.K aj false D.rt g H) (sN X.K aj false D.bk g H) (sN X.K aj false D.ct g H) (sX X.K aj W false g H):=z
  have k1:=Out.jx (dB (σ:=σ) z);refine tW.go I1 (k1.mono (λ_ y=>y) λx y H' c dd ex rx=>y H' _ c dd (gr.trans (Gr.ex ex)) (I1.ex ex) rx) λod u H2 k2 e2 ru=>?_;have I2:=I1.ex e2;split at k2
  .next h i hi=>
   split at k2
   .next hb=>
    rw[avD]at hb;let⟨a,C,dx,fs,_,m1,m2,ha,rfl,c1,c2,c3,c4,c5,c6⟩:=J5 co fk I2.wok ru hi hb.1
    have nla:l≠a:=λz=>by
     subst z;cases I2.wok.inj _ _ _ ha tb;rw[mm]at m1;cases m1;exact m2 rfl
    refine⟨a,C,dx,fs,rfl,c2,c4,c5,?_,?_⟩
    .have:=awP hb.2;rw[c3.len];omega
    .have ch:=X6 (f:=f) (C:=C) (dx:=dx) (fs':=putF f (.ref l) fs) I2.kd I2.wok ha m1 m2 tb mm ow;have w':=I2.wok.chg I2.kd ch ha m1 m2 c6 c1 c3 awU (v:=.ref l) (fl:=.lst M.length xs) ⟨l,us,rfl,by rw[upd_ne nla];exact e2 _ _ hl,awS rfl,(rs1.ex e2 I1.kd).gr ch.gc.gr I2.kd,ch.gc.gr.tb tb⟩;exact k2 σ _ _ ((gr.trans (Gr.ex e2)).trans ch.gc.gr) (I2.chg ch w')
   .exact awN k2
  .exact awN k2
def Jl(M:Mo)(f:Str)(d:Dat):Option (Nat×Inst×Nat×List Dat):=(lM M d).bind λp=>match p.2.fs.lookup f with
 |some (.lst n xs)=>some (p.1,p.2,n,xs)
 |_=>none
def XQ{K:avC}{g:Gh}{H:Hp}{M:Mo}{d:Dat}{v:V}{h n:Nat}{i:Inst}{xs:List Dat}(co:jM K aj)(w:gM K aj g H M)(r:dW K g H v d)(hi:Jl M f d=some (h,i,n,xs)) :
  ∃a C dx fs l us,d=obj h/\M[h]?=some i/\i.cls≠""/\i.fs.lookup f=some (.lst n xs)/\g.tbl[h]?=some a/\v=.ref a/\aj i.cls=some C/\H a=some (.ins C dx fs)/\cH K aj g H h fs i.fs/\Cls K C/\NoAttr K C f/\f∈aj.fl i.cls/\fs.lookup f=some (.ref l)/\H l=some (.lst us)/\g.ow l=some (h,f)/\aA K g H us xs/\g.tbl[n]?=some l:=by
 unfold Jl at hi;let⟨⟨h',i'⟩,h1,hi⟩:=avF.mp hi
 split at hi
 .next n' xs' hl=>
  cases hi;let⟨rfl,m1,m2⟩:=Mf h1
  let⟨a,rfl,ha⟩:=PB r
  let⟨C,dx,fs,c1,c2,c3⟩:=w.ins _ a _ ha m1 m2
  have hfl:=w.fd _ _ m1 f (lookup_mem hl);let⟨k1,k2⟩:=co _ C f c1 hfl
  let⟨u,l1,l,us,rfl,l3,l4,l5,l6⟩:=c3.get hl
  exact⟨a,C,dx,fs,l,us,rfl,m1,m2,hl,ha,rfl,c1,c2,c3,k1,k2,hfl,l1,l3,l4,l5,l6⟩
 .cases hi
def adU{K:avC}{σ:L2.St}{Z:Env}{g:Gh}{H:Hp}{M:Mo}{h n:Nat}{i:Inst}{ys:List Dat}{a C dx l:Addr}{fs:LsS V}{us':List V}(I:SInv K aj σ H g Z M)(m1:M[h]?=some i)(m2:i.cls≠"")(ha:g.tbl[h]?=some a)(c1:aj i.cls=some C)(c2:H a=some (.ins C dx fs))(c3:cH K aj g H h fs i.fs)(hfl:f∈aj.fl i.cls)(l1:fs.lookup f=some (.ref l))(l4:g.ow l=some (h,f))(l6:g.tbl[n]?=some l)(rs:aA K g H us' ys) :
  Gr false g g H (upd H l (.lst us'))/\SInv K aj σ (upd H l (.lst us')) g Z (M.set h (i.put f (.lst n ys))):=by
 have ch:=agv (o':=.lst us') I.kd I.wok l4 awM;have nla:a≠l:=λz=>by
  subst z;rw[I.wok.tw h a i ha m1 m2]at l4;cases l4
 have w':=I.wok.chg I.kd ch ha m1 m2 hfl c1 (dx:=dx) c3 (v:=.ref l) (fl:=.lst n ys) (by rw[upd_ne nla,NZ l1];exact c2) ⟨l,us',rfl,awU,l4,rs.gr ch.gc.gr I.kd,l6⟩;exact⟨ch.gc.gr,I.chg ch w'⟩
def Ip(f:Str)(o:QF)(e:GF):SF:=λM Z=>((o M Z).at M).then Z λod M0=>match Jl M0 f od with
 |some (_,_,n,_)=>(e M0 Z).then Z λd M1=>match Jl M1 f od with
  |some (h,i,n',xs)=>match n==n'&&decide (xs.length<100000) with
   |true=>.next Z (M1.set h (i.put f (.lst n (xs++[d]))))
   |false=>.bad
  |none=>.bad
 |none=>.bad
def alq{fe:GF}(co:jM X.K aj)(ho:QW aj X W o fo)(hb:baseOk o=true)(he:GE aj X W false e fe)(hs:nst e=true)(hl:(apos.endLine==pos.line)=true) :
  SE aj X W false (.Expr (.Call (.Attribute (.Attribute o f p1) "append" apos) [e] [] pos) epos) (Ip f fo fe):=by
 have h0:=pe_fld (X:=X) (pos:=p1) (f:=f) ho (gJ hb);have h1:=pa_cons he pa_nil (bH hs []);have key:=pe_bm (X:=X) (cpos:=pos) (apos:=apos) PySem.F.plainAttrs_list PySem.F.slot_list_append PySem.F.type_list_append mt_append h0 h1 (gJ rfl) (few (by simp[hs]) (by simp)) hl (bH hs []) #[rfl];refine PS.weak (ps_expr key #[rfl]) λD σ H ⟨g,Z,M,I,z⟩=>?_;unfold Ip at z;have k1:=Out.jx (dB (σ:=σ) z);refine tW.go I (k1.mono (λ_ y=>y) λx y H' c dd ex rx=>y H' _ c dd (Gr.ex ex) (I.ex ex) rx) λod u H1 k2 e1 ru=>?_;have I1:=I.ex e1;split at k2
 .next h0' i0 n xs0 hi=>
  let⟨a,C,dx,fs,l,us,rfl,m1,m2,ml,ha,rfl,c1,c2,c3,c4,c5,c6,l1,l3,l4,l5,l6⟩:=XQ co I1.wok ru hi
  refine⟨a,C,dx,fs,.ref l,rfl,c2,c4,c5,l1,.inl ⟨rfl,us,sq_of l3⟩,?_⟩;refine tE.go I1 ((dB (σ:=σ) k2).mono (λ_ _ y=>y) λx M' y=>y.gr (Gr.ex e1)) λd M1 v H2 g2 k3 r2 I2 rv=>?_;split at k3
  .next h i n' xs hi2=>
   split at k3
   .next hg=>
    rw[avD]at hg;cases awV hg.1;have ru2:dW X.K g2 H2 (.ref a) (obj h0'):=Rep.weak (.obj (r2.tb ha));let⟨a',C',dx',fs',l',us',eh,n1,n2,nl,hb',ea,d1,d2,d3,d4,d5,d6,p1,p3,p4,p5,p6⟩:=XQ co I2.wok ru2 hi2
    cases ea;have el:l'=l:=av0 (p6.symm.trans (r2.tb l6));subst el;let⟨gr,I3⟩:=adU (us':=us'++[v]) (ys:=xs++[d]) I2 n1 n2 hb' d1 d2 d3 d6 p1 p4 p6 (p5.append (.cons rv .nil))
    refine⟨l',us',v,rfl,rfl,p3,sz_lt (by rw[p5.length];exact awP hg.2),?_⟩;exact k3 σ _ g2 (((Gr.ex e1).trans r2).trans gr) I3
   .exact awN k3
  .exact awN k3
 .exact awN k2
def Wm(f:Str)(o fi e:QF):SF:=λM Z=>((e M Z).at M).then Z λd _=>((o M Z).at M).then Z λod _=>match Jl M f od with
 |some (h,i,n,xs)=>((fi M Z).at M).then Z λk _=>match k with
  |.int k=>match ixN xs.length k with
   |some j=>.next Z (M.set h (i.put f (.lst n (xs.set j d))))
   |none=>.bad
  |_=>.bad
 |none=>.bad
def alC{i:Expr}{fi fe:QF}(co:jM X.K aj)(ho:QW aj X W o fo)(hb:baseOk o=true)(he:QE aj X W e fe)(hi:QE aj X W i fi)
  (ha:∀v,assign (.Subscript (.Attribute o f p1) i spos) X.env v=(do
   let ov <-holding [v] (eval (.Attribute o f p1) X.env)
   let iv <-holding [v,ov] (eval i X.env)
   standAt spos
   holding [v,ov,iv] (setItem ov iv v)
   release [v,ov,iv] []))
  (hs:swapsWithSole [.Subscript (.Attribute o f p1) i spos] e pos.line X.env=pure false) (h1:(assignEach [.Subscript (.Attribute o f p1) i spos] X.env).map (·.2)=[assign (.Subscript (.Attribute o f p1) i spos) X.env]):SE aj X W false (.Assign [.Subscript (.Attribute o f p1) i spos] e pos) (Wm f fo fi fe):=by
 have h0:=pe_fld (X:=X) (pos:=p1) (f:=f) ho (gJ hb);refine PS.weak (ps_asg he (pg_sub h0 hi set_list ha) hs #[rfl] h1) λD σ H ⟨g,Z,M,I,z⟩=>?_;unfold Wm at z;have k1:=Out.jx (dB (σ:=σ) z);refine tQ.go I (k1.mono (λ_ y=>y) λx y H' c dd ex rx=>y H' _ c dd (Gr.ex ex) (I.ex ex) rx) λd v H1 k2 e1 rv=>?_;have I1:=I.ex e1;have k2:=Out.jx (dB (σ:=σ) k2);refine tW.go I1 (k2.mono (λ_ y=>y) λx y H' c dd ex rx=>y H' _ c dd ((Gr.ex e1).trans (Gr.ex ex)) (I1.ex ex) rx) λod u H2 k3 e2 ru=>?_;have I2:=I1.ex e2;have e12:=e1.trans e2;split at k3
 .next h i' n xs hl=>
  let⟨a,C,dx,fs,l,us,rfl,m1,m2,ml,ha',rfl,c1,c2,c3,c4,c5,c6,l1,l3,l4,l5,l6⟩:=XQ co I2.wok ru hl
  refine⟨a,C,dx,fs,.ref l,rfl,c2,c4,c5,l1,?_⟩;have k3:=Out.jx (dB (σ:=σ) k3);refine tQ.go I2 (k3.mono (λ_ y=>y) λx y H' c dd ex rx=>y H' _ c dd ((Gr.ex e12).trans (Gr.ex ex)) (I2.ex ex) rx) λk w H3 k4 e3 rw'=>?_;have I3:=I2.ex e3;cases k with
  |int k=>
   simp only at k4;split at k4
   .next j hj=>
    cases rw';let⟨gr,I4⟩:=adU (us':=us.set j v) (ys:=xs.set j d) I3 m1 m2 ha' c1 (e3 _ _ c2) (c3.ex e3 I2.kd) c6 l1 l4 l6 (((l5.ex e3 I2.kd).set ((rv.ex e2 I1.kd).ex e3 I2.kd) j))
    refine⟨l,us,k,j,rfl,rfl,e3 _ _ l3,by rw[l5.length];exact hj,?_⟩;exact k4 σ _ g ((Gr.ex (e12.trans e3)).trans gr) I4
   .exact awN k4
  |_=>exact awN k4
 .exact awN k3
def U6(ft:Ft)(f:Str)(o e:QF):SF:=λM Z=>((o M Z).at M).then Z λod _=>match lM M od with
 |some (h,i)=>match i.fs.lookup f,ft.has i.cls f&&decide (i.fs.length<100) with
  | #[.int a],true=>((e M Z).at M).then Z λd _=>match d with
   |.int b=>.next Z (M.set h (i.put f (.dat (.int (a+b)))))
   |_=>.bad
  |_,_=>.bad
 |none=>.bad
def ajf:InOp X .Add (λx y H Q=>∃i j,x=.int i/\y=.int j/\Q (.int (i+j)) H):=by
 intro pins s σ H x y u v Q I rx ry h;let⟨i,j,rfl,rfl,q⟩:=h
 exact iop_add pins s σ H _ _ u v Q I rx ry ⟨i,j,rfl,rfl,q⟩
def aj7{fe:QF}{tpos:Pos}(co:jM X.K aj)(fk:Qh ft aj)(ho:QW aj X W o fo)(he:QE aj X W e fe):SE aj X W false (.AugAssign (.Attribute o f tpos) .Add e pos) (U6 ft f fo fe):=by
 refine PS.weak (ps_fldaug ho he ajf) λD σ H ⟨g,Z,M,I,z⟩=>?_;unfold U6 at z;have k1:=Out.jx (dB (σ:=σ) z);refine tW.go I (k1.mono (λ_ y=>y) λx y H' c dd ex rx=>y H' _ c dd (Gr.ex ex) (I.ex ex) rx) λod u H1 k2 e1 ru=>?_;have I1:=I.ex e1;split at k2
 .next h i hi=>
  split at k2
  .next b hlk hb=>
   rw[avD]at hb;let⟨a,C,dx,fs,_,m1,m2,ha,rfl,c1,c2,c3,c4,c5,c6⟩:=J5 co fk I1.wok ru hi hb.1
   let⟨v,l1,l2⟩:=c3.get hlk
   refine⟨a,C,dx,fs,v,rfl,c2,c4,c5,l1,?_⟩;have k2:=Out.jx (dB (σ:=σ) k2);refine tQ.go I1 (k2.mono (λ_ y=>y) λx y H' c dd ex rx=>y H' _ c dd ((Gr.ex e1).trans (Gr.ex ex)) (I1.ex ex) rx) λd w H2 k3 e2 rd=>?_;have I2:=I1.ex e2;cases d with
   |int j=>
    cases rd;have l2:Rep X.K g H1 v (.int b):=l2;cases l2;refine⟨b,j,rfl,rfl,dx,fs,e2 _ _ c2,?_,?_⟩
    .have:=awP hb.2;rw[c3.len];omega
    .have ch:=W3 (f:=f) (C:=C) (dx:=dx) (fs':=putF f (.int (b+j)) fs) I2.kd I2.wok ha m1 m2;have w':=I2.wok.chg I2.kd ch ha m1 m2 c6 c1 (c3.ex e2 I1.kd) awU (v:=.int (b+j)) (fl:=.dat (.int (b+j))) (show Rep X.K g _ _ _ from .int _);exact k3 σ _ g ((Gr.ex (e1.trans e2)).trans ch.gc.gr) (I2.chg ch w')
   |_=>exact awN k3
  .exact awN k2
 .exact awN k2
end
mutual
def nM:Dat->Option NestedKey
 |.none=>some .none
 |.int i=>some (.num i)
 |.str x=>some (.text x)
 |.tuple ds=>(zA ds).map .tup
 |.bool _=>none
 |.list _=>none
 |.dict _=>none
def zA:List Dat->Option (List NestedKey)
 |[]=>some []
 |d::ds=>(nM d).bind λk=>(zA ds).bind λks=>some (k::ks)
end
mutual
theorem qM:∀{d:Dat} {k:NestedKey},nM d=some k->k.data=d
 |.none,_,h=>by cases h;rfl
 |.int i,_,h=>by cases h;rfl
 |.str x,_,h=>by cases h;rfl
 |.tuple ds,_,h=>by
  rw[nM,awm]at h;let⟨ks,h1,rfl⟩:=h
  rw[NestedKey.data,Vj h1]
theorem Vj:∀{ds:List Dat} {ks:List NestedKey},zA ds=some ks->NestedKey.datas ks=ds
 |[],_,h=>by cases h;rfl
 |d::ds,_,h=>by
  rw[zA]at h;obtain⟨k,h1,h⟩;obtain⟨ks,h2,h⟩;cases h;rw[NestedKey.datas,qM h1,Vj h2]
end
mutual
theorem aed:∀a b:NestedKey,PyData.eqv a.data b.data=NestedKey.beq a b
 |.none,.none=>by simp[NestedKey.data,PyData.eqv,NestedKey.beq]
 |.none,.num _=>by simp[NestedKey.data,PyData.eqv,NestedKey.beq]
 |.none,.text _=>by simp[NestedKey.data,PyData.eqv,NestedKey.beq]
 |.none,.tup _=>by simp[NestedKey.data,PyData.eqv,NestedKey.beq]
 |.num _,.none=>by simp[NestedKey.data,PyData.eqv,NestedKey.beq]
 |.num a,.num b=>by simp[NestedKey.data,PyData.eqv,NestedKey.beq];rfl
 |.num _,.text _=>by simp[NestedKey.data,PyData.eqv,NestedKey.beq]
 |.num _,.tup _=>by simp[NestedKey.data,PyData.eqv,NestedKey.beq]
 |.text _,.none=>by simp[NestedKey.data,PyData.eqv,NestedKey.beq]
 |.text _,.num _=>by simp[NestedKey.data,PyData.eqv,NestedKey.beq]
 |.text a,.text b=>by simp[NestedKey.data,PyData.eqv,NestedKey.beq];rfl
 |.text _,.tup _=>by simp[NestedKey.data,PyData.eqv,NestedKey.beq]
 |.tup _,.none=>by simp[NestedKey.data,PyData.eqv,NestedKey.beq]
 |.tup _,.num _=>by simp[NestedKey.data,PyData.eqv,NestedKey.beq]
 |.tup _,.text _=>by simp[NestedKey.data,PyData.eqv,NestedKey.beq]
 |.tup as,.tup bs=>by
  rw[NestedKey.data,NestedKey.data,PyData.eqv,NestedKey.beq];exact aaZ as bs
theorem aaZ:∀as bs:List NestedKey,PyData.eqvAll (NestedKey.datas as) (NestedKey.datas bs)=NestedKey.beqAll as bs
 |[],[]=>by simp[NestedKey.datas,PyData.eqvAll,NestedKey.beqAll]
 |[],_::_=>by simp[NestedKey.datas,PyData.eqvAll,NestedKey.beqAll]
 |_::_,[]=>by simp[NestedKey.datas,PyData.eqvAll,NestedKey.beqAll]
 |a::as,b::bs=>by
  rw[NestedKey.datas,NestedKey.datas,PyData.eqvAll,NestedKey.beqAll,aed a b,aaZ as bs]
end
def Ew(a b:NestedKey):PyData.eqv a.data b.data=decide (a=b):=by rw[aed,NestedKey.decide_eq]
section
variable{X:Cx}{pins:List (Addr×Obj)}{σ:L2.St}{H:Hp}{s:Shared}{g:Gh}
mutual
theorem key_is(I:L2.Inv X pins σ H s):∀{v:V} {d:Dat} {k:NestedKey} {u:Value},Rep X.K g H v d->nM d=some k->RelV v u->NestedIs s.heap k u
 |_,_,_,u,.non,e,r=>by
  cases e
  obtain rfl:u=.none:=r
  exact .none
 |_,_,_,_,.int i,e,r=>by
  cases e;let⟨t,rfl⟩:=r
  exact .int i t
 |_,_,_,_,.str x,e,r=>by
  cases e;let⟨t,rfl⟩:=r
  exact .text x t
 |_,_,_,u,.tup (a:=a) h t,e,r=>by
  rw[nM,awm]at e;let⟨ks,h1,rfl⟩:=e
  obtain rfl:u=.ref a:=r
  let⟨its,r1,⟨o,e1,c1,n,d1⟩,_⟩:=I.tuple h
  exact .tup e1 c1 d1 (by simpa using ac7 I t h1 r1)
 |_,_,_,_,.bl b,e,r=>by cases e
 |_,_,_,_,.lst _ _,e,r=>by cases e
 |_,_,_,_,.obj _,e,r=>by cases e
theorem ac7(I:L2.Inv X pins σ H s):∀{vs:List V} {ds:List Dat} {ks:List NestedKey} {us:List Value},aA X.K g H vs ds->zA ds=some ks->Vals vs us->NestedAll s.heap ks us
 |_,_,_,_,.nil,e,r=>by
  cases e;cases r;exact .nil
 |_,_,_,_,.cons h t,e,r=>by
  rw[zA]at e;let⟨k,h1,e⟩:=avF.mp e
  let⟨ks,h2,e⟩:=avF.mp e
  cases e;cases r with
  |cons r1 r2=>exact .cons (key_is I h h1 r1) (ac7 I t h2 r2)
end
end
mutual
theorem adh:∀k:NestedKey,nM k.data=some k
 |.none=>rfl
 |.num _=>rfl
 |.text _=>rfl
 |.tup ks=>by rw[NestedKey.data,nM,abO ks];rfl
theorem abO:∀ks:List NestedKey,zA (NestedKey.datas ks)=some ks
 |[]=>rfl
 |k::ks=>by rw[NestedKey.datas,zA,adh k,abO ks];rfl
end
def dhas:Bool->List (Dat×Dat)->Dat->Out Bool
 |false,kvs,.int i=>.ok (kvs.any λp=>PyData.eqv p.1 (.int i))
 |true,kvs,.tuple ds=>match nM (.tuple ds) with
  |some k=>match decide (k.depth<=8) with
   |true=>.ok (kvs.any λp=>PyData.eqv p.1 (.tuple ds))
   |false=>.bad
  |none=>.bad
 |_,_,_=>.bad
def Bv(M:Mo)(f:Str)(d:Dat):Option (Nat×Inst×Bool×List (Dat×Dat)):=(lM M d).bind λp=>match p.2.fs.lookup f with
 |some (.dic b kvs)=>some (p.1,p.2,b,kvs)
 |_=>none
section
variable{aj:aK}{f:Str}
def KC{K:avC}{g:Gh}{H:Hp}{M:Mo}{d:Dat}{v:V}{h:Nat}{i:Inst}{b:Bool}{kvs:List (Dat×Dat)}(co:jM K aj)(w:gM K aj g H M)(r:dW K g H v d)(hi:Bv M f d=some (h,i,b,kvs)) :
  ∃a C dx fs l,d=obj h/\M[h]?=some i/\i.cls≠""/\i.fs.lookup f=some (.dic b kvs)/\g.tbl[h]?=some a/\v=.ref a/\aj i.cls=some C/\H a=some (.ins C dx fs)/\cH K aj g H h fs i.fs/\Cls K C/\NoAttr K C f/\f∈aj.fl i.cls/\fs.lookup f=some (.ref l)/\g.ow l=some (h,f)/\iD K aj g H l b kvs:=by
 unfold Bv at hi;let⟨⟨h',i'⟩,h1,hi⟩:=avF.mp hi
 split at hi
 .next b' kvs' hl=>
  cases hi;let⟨rfl,m1,m2⟩:=Mf h1
  let⟨a,rfl,ha⟩:=PB r
  let⟨C,dx,fs,c1,c2,c3⟩:=w.ins _ a _ ha m1 m2
  have hfl:=w.fd _ _ m1 f (lookup_mem hl);let⟨k1,k2⟩:=co _ C f c1 hfl
  let⟨u,l1,l,rfl,l3,l4⟩:=c3.get hl
  exact⟨a,C,dx,fs,l,rfl,m1,m2,hl,ha,rfl,c1,c2,c3,k1,k2,hfl,l1,l3,l4⟩
 .cases hi
end
def Xz{kv:List (Key×V)}{i:Int}:∀{kvs:List (Dat×Dat)},kvs.map (·.1)=kv.map (λp=>keyD p.1)->(kvs.any λp=>PyData.eqv p.1 (.int i))=(valV kv (Sum.inl i)).isSome:=by
 induction kv with
 |nil=>
  intro kvs e;cases kvs with
  |nil=>rfl
  |cons _ _=>cases e
 |cons p r ih=>
  intro kvs e;cases kvs with
  |nil=>cases e
  |cons q t=>
   simp![List.map_cons,List.cons.injEq]at e;rw[awz,ih e.2,e.1];by_cases h:p.1=Sum.inl i
   .rw[valV_pos h,h];simp[keyD,PyData.eqv]
   .rw[valV_neg h];have:PyData.eqv (keyD p.1) (.int i)=false:=by
     cases hp:p.1 with
     |inl j=>
      have:j≠i:=λz=>h (by rw[hp,z]);simp[keyD,PyData.eqv,this]
     |inr x=>simp[keyD,PyData.eqv]
    rw[this,Bool.false_or]
def vU{xs:List fG}{k:NestedKey}:∀{kvs:List (Dat×Dat)},kvs.map (·.1)=xs.map (λx=>x.1.data)->(kvs.any λp=>PyData.eqv p.1 k.data)=(atKey xs k).isSome:=by
 induction xs with
 |nil=>
  intro kvs e;cases kvs with
  |nil=>rfl
  |cons _ _=>cases e
 |cons p r ih=>
  intro kvs e;cases kvs with
  |nil=>cases e
  |cons q t=>
   simp![List.map_cons,List.cons.injEq]at e;rw[awz,ih e.2,e.1,Ew];unfold atKey;rw[List.find?_cons];cases hd:decide (p.1=k) with
   |true=>rfl
   |false=>rfl
def BJ{X:Cx}{pins:List (Addr×Obj)}{σ:L2.St}{H:Hp}{s:Shared}{g:Gh}{l:Addr}{o:Obj}{xs:List fG}{ks:List Dat}(I:L2.Inv X pins σ H s)(h1:H l=some (fL l o))(h2:jK X.w l o xs)(h3:ks=xs.map λx=>x.1.data)(h4:aA X.K g H (xs.map λx=>V.ref x.2.1) ks) :
  s.heap.DictOfH (nestedKind X.prog X.w) l xs:=by
 let⟨z1,_,_⟩:=(show ObjOk X.prog X.w H s.heap l (fL l o) from I.hok l _ h1)
 let⟨es,ep,e1,e2⟩:=h2.ent
 refine⟨o,es,ep,z1,h2.ex,e1,e2,λx hx=>?_,h2.nd⟩;refine⟨?_,h2.dep x hx⟩;let⟨n,hn⟩:=List.mem_iff_getElem?.mp hx
 let⟨d,hd1,hd2⟩:=h4.get' (i:=n) (v:=V.ref x.2.1) (by rw[avQ,hn];rfl)
 rw[h3,avQ,hn]at hd1;cases hd1;exact key_is I hd2 (adh x.1) rfl
def rInD(X:Cx)(neg:Bool):R2:=λx y H Q=>(∃l kv i,y=.ref l/\H l=some (.dK kv)/\x=.int i/\Q (.bl (neg ^^ (valV kv (Sum.inl i)).isSome)) H)\/
 ∃(l:Addr) (o:Obj) (xs:List fG) (g:Gh) (d:Dat) (b:Addr) (k:NestedKey),y=.ref l/\H l=some (fL l o)/\jK X.w l o xs/\aA X.K g H (xs.map λx=>V.ref x.2.1) (xs.map λx=>x.1.data)/\x=.ref b/\Rep X.K g H x d/\nM d=some k/\k.depth<=8/\Q (.bl (neg ^^ (atKey xs k).isSome)) H
section
variable{X:Cx}
def op_inD(hu:X.A.units+64<cLine):OpR X (compareOp .In) (rInD X false):=by
 intro pins s σ H x y v u Q I rx ry h;rcases h with⟨l,kv,i,rfl,hl,rfl,q⟩|⟨l,o,xs,g,d,b,k,rfl,h1,h2,h3,rfl,h4,h5,h6,q⟩
 .obtain rfl:u=Value.ref l:=ry
  exact d_in #[] I (DGet.k (k:=Sum.inl i) hl) rx λs' I'=>⟨.bl _,H,I',rfl,by simpa using q⟩
 .obtain rfl:u=Value.ref l:=ry
  obtain rfl:v=Value.ref b:=rx
  refine wpAny_in_heap (knd:=nestedKind X.prog X.w) (k:=k) (show X.A.in1.units+8<cLine by show X.A.units+1+8<cLine;omega) ⟨key_is I h4 h5 rfl,h6⟩ h2.sys (BJ I h1 h2 rfl h3) ?_;exact⟨.bl _,H,I.tok _,rfl,by simpa using q⟩
def op_notInD(hu:X.A.units+64<cLine):OpR X (compareOp .NotIn) (rInD X true):=by
 intro pins s σ H x y v u Q I rx ry h;rcases h with⟨l,kv,i,rfl,hl,rfl,q⟩|⟨l,o,xs,g,d,b,k,rfl,h1,h2,h3,rfl,h4,h5,h6,q⟩
 .obtain rfl:u=Value.ref l:=ry
  exact d_notIn #[] I (DGet.k (k:=Sum.inl i) hl) rx λs' I'=>⟨.bl _,H,I',rfl,by simpa using q⟩
 .obtain rfl:u=Value.ref l:=ry
  obtain rfl:v=Value.ref b:=rx
  refine notIn_keyed (knd:=nestedKind X.prog X.w) (k:=k) (show X.A.in1.units+8<cLine by show X.A.units+1+8<cLine;omega) ⟨key_is I h4 h5 rfl,h6⟩ h2.sys ⟨xs,BJ I h1 h2 rfl h3,rfl⟩ ?_;rw[valueAt_pairsH,Option.isSome_map];exact⟨.bl _,H,I.tok _,rfl,by simpa using q⟩
end
def Ug(neg:Bool)(f:Str)(k o:QF):QF:=λM Z=>(k M Z).bind λd=>(o M Z).bind λod=>match Bv M f od with
 |some (_,_,b,kvs)=>(dhas b kvs d).bind λr=>.ok (.bool (neg ^^ r))
 |none=>.bad
section
variable{X:Cx}{aj:aK}{W:WX}{o k:Expr}{f:Str}{pos p1:Pos}{fo fk:QF}{neg:Bool}{op:CmpOp}
def ajU(co:jM X.K aj)(hw:aj.w=X.w)(σ:L2.St)(H:Hp)(Q:VK)(h:tQ X.K aj W (Ug neg f fk fo) σ H Q):tOp (rInD X neg) (tQ X.K aj W fk) (tFld X.K (tW X.K aj W fo) f) σ H Q:=by
 let⟨g,Z,M,I,h⟩:=h
 refine tQ.go I h.bnd λd v H1 h1 e1 r1=>?_;have I1:=I.ex e1;refine tW.go I1 (h1.bnd.mono (λ_ z=>z) λ_ z=>z.ex e1) λod u H2 h2 e2 r2=>?_;have I2:=I1.ex e2;split at h2
 .next hh i b kvs hd=>
  let⟨a,C,dx,fs,l,rfl,m1,m2,ml,ha,rfl,c1,c2,c3,c4,c5,c6,l1,l2,l3⟩:=KC co I2.wok r2 hd
  refine⟨a,C,dx,fs,.ref l,rfl,c2,c4,c5,l1,?_⟩;have r1':=r1.ex e2 I1.kd;unfold dhas at h2;split at h2
  .next i'=>
   let⟨kv,k1,k2,k3⟩:=l3
   cases r1';refine .inl ⟨l,kv,i',rfl,k1,rfl,?_⟩;rw[Xz k2]at h2;exact h2 _ H2 (e1.trans e2) (.bl _)
  .next ds=>
   split at h2
   .next kk hk=>
    split at h2
    .next hdep=>
     let⟨o',xs,vs,k1,k2,k3,k4,k5,k6⟩:=l3
     have ek:=qM hk;rw[<-ek,vU k3]at h2;rw[k3]at k4;rw[hw]at k2;cases r1' with
     | @tup b us _ hs ht=>exact .inr ⟨l,o',xs,g,_,b,kk,rfl,k1,k2,k4,rfl,.tup hs ht,hk,awP hdep,h2 _ H2 (e1.trans e2) (.bl _)⟩
    .exact awN h2
   .exact awN h2
  .exact awN h2
 .exact awN h2
def al7(co:jM X.K aj)(hw:aj.w=X.w)(hr:OpR X (compareOp op) (rInD X neg))(hk:QE aj X W k fk)(ho:QW aj X W o fo)(hb:baseOk o=true):QE aj X W (.Compare k [op] [.Attribute o f p1] pos) (Ug neg f fk fo):=
 PE.weak (pe_cmpR hr hk (pe_fld ho (gJ hb)) (by cases op<;>rfl)) λσ H Q h=>ajU co hw σ H Q h
end
def DPx(X:Cx)(H:Hp)(a:Addr)(y v:V)(R:Hp->Prop):Prop:=(∃kvs i,H a=some (.dK kvs)/\y=.int i/\kvs.length<sizeLine/\R (upd H a (.dK (putK kvs (Sum.inl i) v))))\/
 ∃(o:Obj) (xs:List fG) (g:Gh) (d:Dat) (b:Addr) (k:NestedKey),H a=some (fL a o)/\jK X.w a o xs/\aA X.K g H (xs.map λx=>V.ref x.2.1) (xs.map λx=>x.1.data)/\y=.ref b/\Rep X.K g H y d/\nM d=some k/\k.depth<=8/\xs.length<sizeLine/\∀(o':Obj) (u:Value),RelV v u->jK X.w a o' (storedH xs k b u)->R (upd H a (fL a o'))
def Qp{P:Program}{w:World}{H:Hp}{h:Heap}{l:Addr}{o:Obj}(e:h.get? l=some o):ObjOk P w H h l (fL l o):=⟨e,⟨o,e⟩,λ_ _ e1 k=>k _ e1⟩
def acT{xs:List fG}{k:NestedKey}{b:Addr}{u:Value}:(storedH xs k b u).map (·.1)=if (atKey xs k).isSome then xs.map (·.1) else xs.map (·.1)++[k]:=by
 unfold storedH;split
 .rw[avZ];refine List.map_congr_left λx _=>?_
  show(putAt k u x).1=x.1
  unfold putAt
  split<;>rfl
 .simp
def Vd{xs:List fG}{k:NestedKey}{b:Addr}{u:Value}:(storedH xs k b u).length<=xs.length+1:=by
 unfold storedH
 split<;>simp
def Wv{xs:List fG}{k:NestedKey}{b:Addr}{u:Value}(h:∀x∈xs,x.1.depth<=8)(hk:k.depth<=8):∀x∈storedH xs k b u,x.1.depth<=8:=λx hx=>by
 have:x.1∈(storedH xs k b u).map (·.1):=avM.mpr ⟨x,hx,rfl⟩;rw[acT]at this;have old:∀{z:NestedKey},z∈xs.map (·.1)->z.depth<=8:=λ{z} m=>by
  let⟨y,hy,rfl⟩:=avM.mp m
  exact h y hy
 split at this
 .exact old this
 .rcases avR.mp this with z|z
  .exact old z
  .rw[avJ.mp z];exact hk
section
variable{X:Cx}{o i value:Expr}{td ty tv:TE}{pos pos':Pos}
def arG(X:Cx)(td ty tv:TE):TS:=λD σ H=>tv σ H λv H1=>td σ H1 λx H2=>ty σ H2 λy H3=>∃a,x=.ref a/\DPx X H3 a y v λH4=>D.nx σ H4
def aaQ(hu:X.A.units+64<cLine)(ho:PE X o td)(hi:PE X i ty)(hv:PE X value tv)(hs:swapsWith value (some (.Subscript o i pos')) pos.line X.env=pure false):PS X (.Assign [.Subscript o i pos'] value pos) (arG X td ty tv):=by
 refine⟨λpins s σ H D I h=>?_⟩;refine wpAny_Assign_Subscript (thn (hv.run pins s σ H _ I h) λr s1 ⟨v,H1,I1,rv,q1⟩=>thn (ho.run pins s1 σ H1 _ I1 q1) λu s2 ⟨x,H2,I2,rx,q2⟩=>thn (hi.run pins s2 σ H2 _ I2 q2) λiv s3 ⟨y,H3,I3,ry,a,ex,q3⟩=>?_) hs;subst ex
 obtain rfl:u=Value.ref a:=rx
 rcases q3 with⟨kvs,j,h1,rfl,hl,q⟩|⟨ob,xs,g,d,b,k,h1,h2,h3,rfl,h4,h5,h6,hl,q⟩
 .exact d_setItem #[] I3 (DPut.k (k:=Sum.inl j) h1 hl) ry rv λs4 I4=>⟨σ,_,I4,q⟩
 .obtain rfl:iv=Value.ref b:=ry
  refine wpAny_setItem_heap (knd:=nestedKind X.prog X.w) (k:=k) (hsz:=Nat.le_of_lt hl) (show X.A.in1.units+8<cLine by show X.A.units+1+8<cLine;omega) ⟨key_is I3 h4 h5 rfl,h6⟩ (BJ I3 h1 h2 rfl h3) λh' dd hs'=>?_;let⟨o',es,ep,g1,g2,g3,g4,g5,g6⟩:=dd
  have nd:jK X.w a o' (storedH xs k b r):=⟨h2.sys,g2,⟨es,ep,g3,g4⟩,g6,by have:=Vd (xs:=xs) (k:=k) (b:=b) (u:=r);omega,Wv h2.dep h6⟩;exact⟨σ,_,d_write I3 (by rw[h1];exact True.intro) hs' ⟨o',g1⟩ (Qp g1),q o' r rv nd⟩
end
def aA.back{K:avC}{g:Gh}{H:Hp}{vs:List V}{ds:List Dat}{v:V}{d:Dat}(h:aA K g H vs ds)(r:Rep K g H v d):aA K g H (vs++[v]) (ds++[d]):=h.append (.cons r .nil)
def Ra{K:avC}{aj:aK}{f:Str}{σ:L2.St}{Z:Env}{g:Gh}{H:Hp}{M:Mo}{h:Nat}{i:Inst}{b:Bool}{kvs':List (Dat×Dat)}{a C dx l:Addr}{fs:LsS V}{o':HO}(I:SInv K aj σ H g Z M)(m1:M[h]?=some i)(m2:i.cls≠"")(ha:g.tbl[h]?=some a)(c1:aj i.cls=some C)(c2:H a=some (.ins C dx fs))(c3:cH K aj g H h fs i.fs)(hfl:f∈aj.fl i.cls)(l1:fs.lookup f=some (.ref l))(l4:g.ow l=some (h,f))(mu:Jr o')
  (new:Gr false g g H (upd H l o')->iD K aj g (upd H l o') l b kvs'):Gr false g g H (upd H l o')/\SInv K aj σ (upd H l o') g Z (M.set h (i.put f (.dic b kvs'))):=by
 have ch:=agv (o':=o') I.kd I.wok l4 mu;have nla:a≠l:=λz=>by
  subst z;rw[I.wok.tw h a i ha m1 m2]at l4;cases l4
 have w':=I.wok.chg I.kd ch ha m1 m2 hfl c1 (dx:=dx) c3 (v:=.ref l) (fl:=.dic b kvs') (by rw[upd_ne nla,NZ l1];exact c2) ⟨l,rfl,l4,new ch.gc.gr⟩;exact⟨ch.gc.gr,I.chg ch w'⟩
def QL(f:Str)(o k e:QF):SF:=λM Z=>((e M Z).at M).then Z λv _=>((o M Z).at M).then Z λod _=>match Bv M f od with
 |some (h,i,b,kvs)=>((k M Z).at M).then Z λd _=>match dhas b kvs d,decide (kvs.length<100000) with
  |.ok false,true=>.next Z (M.set h (i.put f (.dic b (kvs++[(d,v)]))))
  |_,_=>.bad
 |none=>.bad
def Rc(f:Str)(o k:QF):SF:=λM Z=>((o M Z).at M).then Z λod _=>match Bv M f od with
 |some (h,i,b,kvs)=>((k M Z).at M).then Z λd _=>match dhas b kvs d,decide (kvs.length<=100000) with
  |.ok true,true=>.next Z (M.set h (i.put f (.dic b (kvs.filter λp=>!PyData.eqv p.1 d))))
  |_,_=>.bad
 |none=>.bad
def WR{kvs:List (Dat×Dat)}{b r:Bool}{d:Dat}(h:dhas b kvs d=.ok r):(kvs.any λp=>PyData.eqv p.1 d)=r/\((b=false/\∃i,d=.int i)\/(b=true/\∃ds k,d=.tuple ds/\nM d=some k/\k.depth<=8)):=by
 unfold dhas at h;left
 .next i=>
  cases h;exact⟨rfl,.inl ⟨rfl,i,rfl⟩⟩
 .next ds=>
  left
  .next k hk=>
   left
   .next hd=>
    cases h;exact⟨rfl,.inr ⟨rfl,ds,k,rfl,hk,awP hd⟩⟩
   .cases h
  .cases h
 .cases h
section
variable{X:Cx}{aj:aK}{W:WX}{o e i:Expr}{f:Str}{pos pos' p1:Pos}{fo fe fk:QF}
def alI(co:jM X.K aj)(hw:aj.w=X.w)(hu:X.A.units+64<cLine)(ho:QW aj X W o fo)(hb:baseOk o=true)(hk:QE aj X W i fk)(he:QE aj X W e fe)(hs:swapsWith e (some (.Subscript (.Attribute o f p1) i pos')) pos.line X.env=pure false) :
  SE aj X W false (.Assign [.Subscript (.Attribute o f p1) i pos'] e pos) (QL f fo fk fe):=by
 refine PS.weak (aaQ hu (pe_fld ho (gJ hb)) hk he hs) λD σ H ⟨g,Z,M,I,z⟩=>?_;unfold QL at z;have k1:=Out.jx (dB (σ:=σ) z);refine tQ.go I (k1.mono (λ_ y=>y) λx y H' c dd ex rx=>y H' _ c dd (Gr.ex ex) (I.ex ex) rx) λd v H1 k2 e1 rv=>?_;have I1:=I.ex e1;have k2:=Out.jx (dB (σ:=σ) k2);refine tW.go I1 (k2.mono (λ_ y=>y) λx y H' c dd ex rx=>y H' _ c dd ((Gr.ex e1).trans (Gr.ex ex)) (I1.ex ex) rx) λod u H2 k3 e2 ru=>?_;have I2:=I1.ex e2;have e12:=e1.trans e2;split at k3
 .next h i' b kvs hl=>
  let⟨a,C,dx,fs,l,rfl,m1,m2,ml,ha,rfl,c1,c2,c3,c4,c5,c6,l1,l2,l3⟩:=KC co I2.wok ru hl
  refine⟨a,C,dx,fs,.ref l,rfl,c2,c4,c5,l1,?_⟩;have k3:=Out.jx (dB (σ:=σ) k3);refine tQ.go I2 (k3.mono (λ_ y=>y) λx y H' c dd ex rx=>y H' _ c dd ((Gr.ex e12).trans (Gr.ex ex)) (I2.ex ex) rx) λkd w H3 k4 e3 rk=>?_;have I3:=I2.ex e3;have l3':=l3.ex e3 I2.kd;have rv3:=(rv.ex e2 I1.kd).ex e3 I2.kd;refine⟨l,rfl,?_⟩;split at k4
  .next hh hz=>
   let⟨ha2,hcase⟩:=WR hh
   have hz:=awP hz;rcases hcase with⟨rfl,j,rfl⟩|⟨rfl,ds,kk,rfl,hkk,hdep⟩
   .let⟨kv,q1,q2,q3⟩:=l3'
    cases rk;have hlen:kv.length=kvs.length:=by have:=congrArg List.length q2;simpa using this.symm
    rw[Xz q2]at ha2;have hn:valV kv (Sum.inl j)=none:=by
     cases hv:valV kv (Sum.inl j) with
     |none=>rfl
     |some _=>rw[hv]at ha2;cases ha2
    refine .inl ⟨kv,j,q1,rfl,sz_lt (by rw[hlen];exact hz),?_⟩;rw[putK_new v hn];let⟨gr,I4⟩:=Ra (b:=false) (kvs':=kvs++[(.int j,d)]) (o':=.dK (kv++[(Sum.inl j,v)])) I3 m1 m2 ha c1 (e3 _ _ c2) (c3.ex e3 I2.kd) c6 l1 l2 awM λgr=>⟨_,awU,by simp[q2,keyD],by
     rw[List.map_append,List.map_append];exact(q3.gr gr I3.kd).back (rv3.gr gr I3.kd)⟩
    exact k4 σ _ g ((Gr.ex (e12.trans e3)).trans gr) I4
   .let⟨o',xs,vs,q1,q2,q3,q4,q5,q6⟩:=l3'
    have hlen:xs.length=kvs.length:=by have:=congrArg List.length q3;simpa using this.symm
    have ek:=qM hkk;rw[<-ek,vU q3]at ha2;have hn:atKey xs kk=none:=by
     cases hv:atKey xs kk with
     |none=>rfl
     |some _=>rw[hv]at ha2;cases ha2
    have q4':=q4;rw[q3]at q4';rw[hw]at q2;cases rk with
    | @tup bb us _ hs' ht=>
     refine .inr ⟨o',xs,g,_,bb,kk,q1,q2,q4',rfl,.tup hs' ht,hkk,hdep,sz_lt (by rw[hlen];exact hz),λo2 u2 ru2 nd=>?_⟩;rw[storedH_new hn]at nd;let⟨gr,I4⟩:=Ra (b:=true) (kvs':=kvs++[(.tuple ds,d)]) (o':=fL l o2) I3 m1 m2 ha c1 (e3 _ _ c2) (c3.ex e3 I2.kd) c6 l1 l2 awM λgr=>⟨o2,xs++[(kk,bb,u2)],vs++[v],awU,by rw[hw];exact nd,by simp[q3,ek],by
      rw[List.map_append,List.map_append];exact(q4.gr gr I3.kd).back ((Rep.tup hs' ht).gr gr I3.kd),by
      rw[List.map_append];exact q5.append (.cons ru2 .nil),by
      rw[List.map_append];exact(q6.gr gr I3.kd).back (rv3.gr gr I3.kd)⟩
     exact k4 σ _ g ((Gr.ex (e12.trans e3)).trans gr) I4
  .exact awN k4
 .exact awN k3
end
section
variable{X:Cx}{o i:Expr}{td ty:TE}{pos tpos:Pos}
def arI(X:Cx)(td ty:TE):TS:=λD σ H=>td σ H λx H2=>ty σ H2 λy H3=>∃a,x=.ref a/\((∃kvs i,H3 a=some (.dK kvs)/\y=.int i/\(valV kvs (Sum.inl i)).isSome=true/\D.nx σ (upd H3 a (.dK (dropK kvs (Sum.inl i)))))\/
 ∃(o:Obj) (xs:List fG) (g:Gh) (d:Dat) (b:Addr) (k:NestedKey),H3 a=some (fL a o)/\jK X.w a o xs/\aA X.K g H3 (xs.map λx=>V.ref x.2.1) (xs.map λx=>x.1.data)/\y=.ref b/\Rep X.K g H3 y d/\nM d=some k/\k.depth<=8/\(atKey xs k).isSome=true/\∀(o':Obj),jK X.w a o' (withoutH xs k)->D.nx σ (upd H3 a (fL a o')))
def ah7(hu:X.A.units+64<cLine)(ho:PE X o td)(hi:PE X i ty):PS X (.Delete [.Subscript o i tpos] pos) (arI X td ty):=by
 refine⟨λpins s σ H D I h=>?_⟩;refine wpAny_Delete (wpAny_deleteEach_cons (wpAny_delete_Subscript (thn (ho.run pins s σ H _ I h) λu s1 ⟨x,H1,I1,rx,q1⟩=>thn (hi.run pins s1 σ H1 _ I1 q1) λiv s2 ⟨y,H2,I2,ry,a,ex,q2⟩=>?_)));subst ex
 obtain rfl:u=Value.ref a:=rx
 rcases q2 with⟨kvs,j,h1,rfl,hl,q⟩|⟨ob,xs,g,d,b,k,h1,h2,h3,rfl,h4,h5,h6,hl,q⟩
 .exact d_delItem (k:=Sum.inl j) I2 h1 ry hl λs3 I3=>wpAny_deleteEach_nil ⟨σ,_,I3,q⟩
 .obtain rfl:iv=Value.ref b:=ry
  let⟨p,hp⟩:=Option.isSome_iff_exists.mp hl
  refine wpAny_delItem_heap (knd:=nestedKind X.prog X.w) (k:=k) (hsz:=h2.len) (show X.A.in1.units+8<cLine by show X.A.units+1+8<cLine;omega) ⟨key_is I2 h4 h5 rfl,h6⟩ h2.sys (BJ I2 h1 h2 rfl h3) hp λh' dd hs'=>?_;let⟨o',es,ep,g1,g2,g3,g4,g5,g6⟩:=dd
  have nd:jK X.w a o' (withoutH xs k):=⟨h2.sys,g2,⟨es,ep,g3,g4⟩,g6,av2 (avT _ _) h2.len,λx hx=>h2.dep x (av3.mp hx).1⟩;exact wpAny_deleteEach_nil ⟨σ,_,d_write I2 (by rw[h1];exact True.intro) hs' ⟨o',g1⟩ (Qp g1),q o' nd⟩
end
theorem TF{α β:Type}(f:α->β)(c:α->Bool):∀l:List α,(((l.map f).zip l).filter λp=>c p.2).map (·.1)=(l.filter c).map f
 |[]=>rfl
 |a::l=>by
  rw[List.map_cons,aww,av9,av9];cases c a
  .exact TF f c l
  .simp![if_true,List.map_cons,TF f c l]
theorem ajR{K:avC}{g:Gh}{H:Hp}(kk:NestedKey):∀{xs:List fG} {vs:List V} {kvs:List (Dat×Dat)},kvs.map (·.1)=xs.map (λx=>x.1.data)->aA K g H (xs.map λx=>V.ref x.2.1) (kvs.map (·.1))->Vals vs (xs.map (·.2.2))->aA K g H vs (kvs.map (·.2))->
  ∃vs',(kvs.filter λp=>!PyData.eqv p.1 kk.data).map (·.1)=(withoutH xs kk).map (λx=>x.1.data)/\aA K g H ((withoutH xs kk).map λx=>V.ref x.2.1) ((kvs.filter λp=>!PyData.eqv p.1 kk.data).map (·.1))/\Vals vs' ((withoutH xs kk).map (·.2.2))/\aA K g H vs' ((kvs.filter λp=>!PyData.eqv p.1 kk.data).map (·.2))
 |[],_,[],_,_,.nil,_=>⟨[],rfl,.nil,.nil,.nil⟩
 |[],_,_::_,h,_,_,_=>by cases h
 |_::_,_,[],h,_,_,_=>by cases h
 |x::xs,_,q::qs,h1,.cons r1 t1,.cons w1 w2,.cons r2 t2=>by
  simp![List.map_cons,List.cons.injEq]at h1;let⟨vs',i1,i2,i3,i4⟩:=ajR kk h1.2 t1 w2 t2
  have hq:(!PyData.eqv q.1 kk.data)=decide (x.1≠kk):=by rw[h1.1,Ew];by_cases hz:x.1=kk<;>simp[hz]
  unfold withoutH;rw[av9,av9,hq];cases hb:decide (x.1≠kk) with
  |true=>exact⟨_::vs',by simp![if_true,List.map_cons,h1.1];exact congrArg _ i1,by simp![if_true,List.map_cons];exact .cons r1 i2,by simp![if_true,List.map_cons];exact .cons w1 i3,by simp![if_true,List.map_cons];exact .cons r2 i4⟩
  |false=>
   simp![awe,if_false];exact⟨vs',i1,i2,i3,i4⟩
theorem aon{K:avC}{g:Gh}{H:Hp}{α:Type}(c:α->Bool)(key:α->Dat)(dd:Dat->Bool):∀{vs:List V} {kvs:List (Dat×Dat)} {xs:List α},(∀x∈xs,c x=dd (key x))->kvs.map (·.1)=xs.map key->vs.length=xs.length->aA K g H vs (kvs.map (·.2))->
  (kvs.filter λp=>dd p.1).map (·.1)=(xs.filter c).map key/\aA K g H (((vs.zip xs).filter λp=>c p.2).map (·.1)) ((kvs.filter λp=>dd p.1).map (·.2))
 |[],[],[],_,_,_,_=>⟨rfl,.nil⟩
 |[],[],_::_,_,h,_,_=>by cases h
 |[],_::_,_,_,_,_,h=>by cases h
 |_::_,[],_,_,_,_,h=>by cases h
 |_::_,_::_,[],_,h,_,_=>by cases h
 |u::us,q::qs,x::xs,hc,hk,hl,.cons h t=>by
  simp![List.map_cons,List.cons.injEq]at hk;have hq:=hc x avI;rw[<-hk.1]at hq;let⟨i1,i2⟩:=aon c key dd (λy hy=>hc y (avG _ hy)) hk.2 (awL hl) t
  rw[aww,av9,av9,av9,hq];cases hb:dd q.1 with
  |true=>exact⟨by simp![if_true,List.map_cons,i1,hk.1],by simp![if_true,List.map_cons];exact .cons h i2⟩
  |false=>exact⟨by simpa using i1,by simpa using i2⟩
section
variable{X:Cx}{aj:aK}{W:WX}{o i:Expr}{f:Str}{pos tpos p1:Pos}{fo fk:QF}
def ak6(co:jM X.K aj)(hw:aj.w=X.w)(hu:X.A.units+64<cLine)(ho:QW aj X W o fo)(hb:baseOk o=true)(hk:QE aj X W i fk):SE aj X W false (.Delete [.Subscript (.Attribute o f p1) i tpos] pos) (Rc f fo fk):=by
 refine PS.weak (ah7 hu (pe_fld ho (gJ hb)) hk) λD σ H ⟨g,Z,M,I,z⟩=>?_;unfold Rc at z;have k2:=Out.jx (dB (σ:=σ) z);refine tW.go I (k2.mono (λ_ y=>y) λx y H' c dd ex rx=>y H' _ c dd (Gr.ex ex) (I.ex ex) rx) λod u H2 k3 e2 ru=>?_;have I2:=I.ex e2;split at k3
 .next h i' b kvs hl=>
  let⟨a,C,dx,fs,l,rfl,m1,m2,ml,ha,rfl,c1,c2,c3,c4,c5,c6,l1,l2,l3⟩:=KC co I2.wok ru hl
  refine⟨a,C,dx,fs,.ref l,rfl,c2,c4,c5,l1,?_⟩;have k3:=Out.jx (dB (σ:=σ) k3);refine tQ.go I2 (k3.mono (λ_ y=>y) λx y H' c dd ex rx=>y H' _ c dd ((Gr.ex e2).trans (Gr.ex ex)) (I2.ex ex) rx) λkd w H3 k4 e3 rk=>?_;have I3:=I2.ex e3;have l3':=l3.ex e3 I2.kd;refine⟨l,rfl,?_⟩;split at k4
  .next hh hz=>
   let⟨ha2,hcase⟩:=WR hh
   rcases hcase with⟨rfl,j,rfl⟩|⟨rfl,ds,kk,rfl,hkk,hdep⟩
   .let⟨kv,q1,q2,q3⟩:=l3'
    cases rk;rw[Xz q2]at ha2;refine .inl ⟨kv,j,q1,rfl,ha2,?_⟩;have hf:=λ(H':Hp)(r:aA X.K g H' (kv.map (·.2)) (kvs.map (·.2)))=>aon (K:=X.K) (g:=g) (H:=H') (λp:Key×V=>decide (p.1≠Sum.inl j)) (λp=>keyD p.1) (λz=>!PyData.eqv z (.int j)) (vs:=kv.map (·.2)) (kvs:=kvs) (xs:=kv) (λx _=>by
     cases hx:x.1 with
     |inl z=>by_cases hz:z=j<;>simp[keyD,PyData.eqv,hz]
     |inr z=>simp[keyD,PyData.eqv]) q2 (by simp) r
    have ez:(((kv.map (·.2)).zip kv).filter λp=>decide (p.2.1≠Sum.inl j)).map (·.1)=(dropK kv (Sum.inl j)).map (·.2):=TF (·.2) (λp:Key×V=>decide (p.1≠Sum.inl j)) kv;let⟨gr,I4⟩:=Ra (b:=false) (kvs':=kvs.filter λp=>!PyData.eqv p.1 (.int j)) (o':=.dK (dropK kv (Sum.inl j))) I3 m1 m2 ha c1 (e3 _ _ c2) (c3.ex e3 I2.kd) c6 l1 l2 awM λgr=>⟨_,awU,(hf _ (q3.gr gr I3.kd)).1,by
     rw[<-ez];exact(hf _ (q3.gr gr I3.kd)).2⟩
    exact k4 σ _ g ((Gr.ex (e2.trans e3)).trans gr) I4
   .let⟨o',xs,vs,q1,q2,q3,q4,q5,q6⟩:=l3'
    have ek:=qM hkk;rw[<-ek,vU q3]at ha2;rw[hw]at q2;have q4':=q4;rw[q3]at q4';cases rk with
    | @tup bb us _ hs' ht=>
     refine .inr ⟨o',xs,g,_,bb,kk,q1,q2,q4',rfl,.tup hs' ht,hkk,hdep,ha2,λo2 nd=>?_⟩;let⟨gr,I4⟩:=Ra (b:=true) (kvs':=kvs.filter λp=>!PyData.eqv p.1 (.tuple ds)) (o':=fL l o2) I3 m1 m2 ha c1 (e3 _ _ c2) (c3.ex e3 I2.kd) c6 l1 l2 awM λgr=>by
      let⟨vs',i1,i2,i3,i4⟩:=ajR kk q3 (q4.gr gr I3.kd) q5 (q6.gr gr I3.kd)
      rw[ek]at i1 i2 i4;exact⟨o2,withoutH xs kk,vs',awU,by rw[hw];exact nd,i1,i2,i3,i4⟩
     exact k4 σ _ g ((Gr.ex (e2.trans e3)).trans gr) I4
  .exact awN k4
 .exact awN k3
end
def ItD(l:Addr)(o:Obj)(xs:List fG):It:=
 ⟨λi H=>H l=some (fL l o)/\i<xs.length,λi H x H'=>H'=H/\∃e,xs[i]?=some e/\x=.ref e.2.1,λi H=>H l=some (fL l o)/\xs.length<=i⟩
def pin_at{X:Cx}{pins:List (Addr×Obj)}{σ:L2.St}{H:Hp}{s:Shared}{l:Addr}{o:Obj}(I:L2.Inv X pins σ H s)(h:H l=some (fL l o)):s.heap.get? l=some o:=(show ObjOk X.prog X.w H s.heap l (fL l o) from I.hok l _ h).1
theorem jK.at{w:World}{l:Addr}{o:Obj}{xs:List fG}{es:Array DictEntry}{ep:Nat}(n:jK w l o xs)(h:o.data=.dict es ep):es.size=xs.length/\∀(i:Nat) (e:fG),xs[i]?=some e->∃en,es[i]?=some en/\en.key=.ref e.2.1:=by
 let⟨es',ep',h1,h2⟩:=n.ent
 rw[h]at h1;cases h1;refine⟨?_,λi e hi=>⟨agG w e,?_,rfl⟩⟩
 .have:=congrArg List.length h2;simpa using this
 .rw[<-awj,h2,avQ,hi];rfl
def apk{P:Program}{w:World}{K:avC}{tg:Expr}{l:Addr}{o:Obj}{xs:List fG}{es:Array DictEntry}{ep:Nat}(it:Addr)(n:jK w l o xs)(hod:o.data=.dict es ep):Turn P w K tg (ItD l o xs) [it] it (λi h=>h.IsKeyIter it l i xs.length ep) where
 mem:=avJ.mpr rfl
 obj:=λi h st b hb=>by
  cases avJ.mp hb;let⟨oi,e,c,dd⟩:=st
  refine⟨oi,e,λv z=>?_⟩;rw[dd]at z;cases z
 keep:=λi h h' st k=>st.at (k it (avJ.mpr rfl))
 item:=by
  intro X hP hw hK hc i pins s σ H E I hf st hg;subst hP hw hK;let⟨g0,g1,g2,g3,g4,g5⟩:=hf it (avJ.mpr rfl)
  let⟨sz,ent⟩:=n.at hod
  have hlt:i<xs.length:=hg.2;have hx:xs[i]?=some xs[i]:=avE hlt;let⟨en,e1,e2⟩:=ent i _ hx
  refine next_key_item st (pin_at I hg.1) hod sz e1 ?_;intro h' st' sb;have J:L2.Inv X pins σ H { s with heap:=h' }:=I.turned (t':=s.toks) (λb ob hb e=>(sb.2 b hb).trans e) g0 g1 g3 g4 g5;let⟨oi,a1,a2,a3⟩:=id st'
  exact⟨en.key,rfl,go_of (s:={ s with heap:=h' }) a1 a2 a3 #[()] ⟨.ref xs[i].2.1,H,J,e2,⟨rfl,_,hx,rfl⟩,st',λb hb=>(hf b hb).1⟩⟩
 done:=by
  intro X hP hw hK hc i pins s σ H E I hf st hg;subst hP hw hK;let⟨g0,g1,g2,g3,g4,g5⟩:=hf it (avJ.mpr rfl)
  exact next_key_end (I.ok.hd hc) st (pin_at I hg.1) hod (n.at hod).1 hg.2 λh' eb=>⟨rfl,I.turned (t':=s.toks) (λb ob hb e=>eb b ob hb e) g0 g1 g3 g4 g5⟩
 self:=λA i s Q E st h=>by
  refine wpAny_pyIter_slot st.typeIs PySem.F.slot_dict_keyiterator_iter (wpAny_call_entry PySem.F.slot_dict_keyiterator_iter st.typeIs PySem.F.entry_dict_keyiterator_iter ?_ (PySem.F.args_dict_keyiterator_iter_1 _));exact awR ⟨_,rfl,"dict_keyiterator",_,st.typeIs,PySem.F.slot_dict_keyiterator_next.lookup,h⟩
def ars(X:Cx)(td:TE):TI:=λσ H R=>td σ H λx H1=>∃l o xs,x=.ref l/\H1 l=some (fL l o)/\jK X.w l o xs/\R (ItD l o xs) H1
def anz{X:Cx}{tg e:Expr}{td:TE}(he:PE X e td):PI X tg e (ars X td):=by
 constructor;intro pins s σ H R I h;refine thn (he.run pins s σ H _ I h) ?_;rintro u s1 ⟨x,H1,I1,rx,l,o,xs,rfl,hl,n,q⟩
 obtain rfl:u=Value.ref l:=rx
 let⟨es,ep,hd,_⟩:=n.ent
 refine iter_keys n.sys (pin_at I1 hl) n.ex hd (pi_one (tk:=s1.toks) I1 _ (apk _ n hd) ⟨_,Heap.get?_push_size _ rfl,rfl,?_⟩ q);rw[(n.at hd).1]<;>rfl
def alR{K:avC}{aj:aK}{l:Addr}{o:Obj}{xs:List fG}{ks:List Dat}:Jw K (ItD l o xs) (λg H=>H l=some (fL l o)/\aA K g H (xs.map λx=>V.ref x.2.1) ks) ks where
 go:=λg i H c hi=>⟨c.1,by have:=c.2.length;simp at this;omega⟩
 yld:=λg i H x H' d k c e y=>by
  let⟨rfl,en,h1,rfl⟩:=y
  let⟨v,h2,h3⟩:=c.2.get e
  rw[avQ,h1]at h2;cases h2;exact⟨Ex.refl _,h3⟩
 stop:=λg i H c e=>⟨c.1,by have:=c.2.length;simp at this;omega⟩
 ex:=λg H H' k c e=>⟨e _ _ c.1,c.2.ex e k⟩
 add:=λg g' H H' k c r e=>⟨e _ _ c.1,c.2.gr r k⟩
def Fl(f:Str)(o:QF):IF:=λM Z=>(o M Z).bind λod=>match Bv M f od with
 |some (_,_,true,kvs)=>.ok (kvs.map (·.1))
 |_=>.bad
def Gk(f:Str)(o:QF):QF:=λM Z=>(o M Z).bind λod=>match Bv M f od with
 |some (_,_,_,kvs)=>.ok (.list (kvs.map (·.1)))
 |none=>.bad
section
variable{X:Cx}{aj:aK}{W:WX}{o tg:Expr}{f:Str}{pos p p1:Pos}{fo:QF}
def aiM(co:jM X.K aj)(hw:aj.w=X.w)(ho:QW aj X W o fo)(hb:baseOk o=true):QI aj X W false tg (.Attribute o f p1) (Fl f fo):=by
 have h0:=anz (tg:=tg) (pe_fld (X:=X) (pos:=p1) (f:=f) ho (gJ hb));refine⟨λpins s σ H R I h=>h0.run pins s σ H R I ?_⟩;let⟨g,Z,M,J,h⟩:=h
 unfold Fl at h;refine tW.go J h.bnd λod u H1 k2 e1 ru=>?_;have J1:=J.ex e1;split at k2
 .next h i kvs hl=>
  let⟨a,C,dx,fs,l,rfl,m1,m2,ml,ha,rfl,c1,c2,c3,c4,c5,c6,l1,l2,o',xs,vs,q1,q2,q3,q4,q5,q6⟩:=KC co J1.wok ru hl
  rw[hw]at q2;exact⟨a,C,dx,fs,.ref l,rfl,c2,c4,c5,l1,l,o',xs,rfl,q1,q2,k2 _ _ H1 e1 (alR (aj:=aj)) ⟨q1,q4⟩ λz=>nomatch z⟩
 .exact awN k2
end
def ajh{P:Program}{w:World}{A:Around}{l I:Addr}{o:Obj}{xs:List fG}{es:Array DictEntry}{ep:Nat}(hh:A.handled=none)(hne:l≠I)(n:jK w l o xs)(hd:o.data=.dict es ep):Walks P w A I [I,l] [I] xs.length (λi v=>∃e,xs[i]?=some e/\v=Value.ref e.2.1) (λi h=>h.IsKeyIter I l i xs.length ep/\h.get? l=some o) where
 sub:=λb hb=>by simp at hb;simp[hb]
 frame:=λi h h' st k=>⟨st.1.at (k I (by simp)),k l (by simp) o st.2⟩
 item:=λi s Q E hi st hQ=>by
  let⟨sz,ent⟩:=n.at hd
  have hx:xs[i]?=some xs[i]:=avE hi;let⟨en,e1,e2⟩:=ent i _ hx
  refine next_key_item st.1 st.2 hd sz e1 ?_;intro h' st' sb;exact hQ en.key h' s.toks ⟨_,hx,e2⟩ ⟨st',(sb.2 l hne).trans st.2⟩ λb ob hb e=>(sb.2 b λz=>hb (by simp[z])).trans e
 done:=λs Q E st hQ=>next_key_end hh st.1 st.2 hd (n.at hd).1 (avW _) λh' eb=>hQ h' s.toks λb ob hb e=>eb b ob (λz=>hb (by simp[z])) e
 self:=λi s Q E st hQ=>wpAny_pyIter_keyiter st.1 hQ
def adg{P:Program}{w:World}{l:Addr}{o:Obj}{xs:List fG}(n:jK w l o xs):PySem.W.KdlSrc P w "dict" l l xs.length (λi v=>∃e,xs[i]?=some e/\v=Value.ref e.2.1) (λh=>h.get? l=some o) where
 type:=λs e=>⟨o,e,n.ex.1⟩
 there:=λh e=>⟨Heap.lt_size e,Heap.lt_size e⟩
 keep:=λh h' e k=>k l (.inl rfl) o e
 notList:=#[()]
 notTuple:=#[()]
 hint:=λA E s Q e hq=>PySem.W.kdl_hint_dict ⟨o,e,n.ex.1⟩ hq
 iter:=λA s hh e=>by
  let⟨es,ep,hd,_⟩:=n.ent
  refine⟨_,_,λE Q hq=>iter_keys n.sys e n.ex hd hq,ajh hh (awb (Heap.lt_size e)) n hd,⟨_,Heap.get?_push_size _ rfl,rfl,?_⟩,Heap.get?_push_of_some _ e⟩;rw[(n.at hd).1]<;>rfl
def ag5(X:Cx):List V->Hp->VK->Prop:=λxs H Q=>(∃p kvs,xs=[.ref p]/\H p=some (.dK kvs)/\∀q,H q=none->Q (.ref q) (upd H q (.lst (kvs.map λkv=>kV kv.1))))\/∃p o es,xs=[.ref p]/\H p=some (fL p o)/\jK X.w p o es/\∀q,H q=none->Q (.ref q) (upd H q (.lst (es.map λe=>V.ref e.2.1)))
def aeS{X:Cx}(hc:X.calm=true):CallR X (.type "list") (ag5 X):=by
 intro pins s σ H xs us Q I r h;rcases h with h|⟨p,o,es,rfl,hp,n,q⟩
 .exact call_list_dK hc pins s σ H xs us Q I r h
 .let⟨u,rfl,rx⟩:=vals1 r
  obtain rfl:u=Value.ref p:=rx
  refine PySem.W.kdl_call (adg n) (I.ok.hd hc) (pin_at I hp) n.len ?_;intro h' tk acc c' keep hS hacc;have el:acc.toList.length=es.length:=by rw[awd];exact hacc.1
  refine⟨.ref s.heap.objs.size,upd H s.heap.objs.size (.lst (es.map λe=>V.ref e.2.1)),I.laid keep (avW _) (show ObjOk X.prog X.w _ _ _ (.lst (es.map λe=>V.ref e.2.1)) from⟨by rw[avN];exact n.len,acc.toList,c',?_,?_⟩),rfl,q _ (I.hok.fresh (avW _))⟩
  .refine vals_of_at (by rw[avN,el]) λj x w h1 h2=>?_;let⟨e,he,rfl⟩:=hacc.2 j w (by rw[<-awj];exact h2)
   rw[avQ,he]at h1;cases h1;rfl
  .rw[Array.toArray_toList];exact hS
section
variable{X:Cx}{aj:aK}{W:WX}{o e:Expr}{f:Str}{pos p p1 pos':Pos}{fo:QF}
theorem abH{K:avC}{g:Gh}{H:Hp}:∀{kv:List (Key×V)} {kvs:List (Dat×Dat)},kvs.map (·.1)=kv.map (λp=>keyD p.1)->aA K g H (kv.map λp=>kV p.1) (kvs.map (·.1))
 |[],[],_=>.nil
 |[],_::_,h=>by cases h
 |_::_,[],h=>by cases h
 |a::kv,b::kvs,h=>by
  simp![List.map_cons,List.cons.injEq]at h;rw[List.map_cons,List.map_cons,h.1];refine .cons ?_ (abH h.2);cases a.1 with
  |inl i=>exact .int i
  |inr x=>exact .str x
def ahP(co:jM X.K aj)(hw:aj.w=X.w)(σ:L2.St)(H:Hp)(Q:VK)(h:tQ X.K aj W (Gk f fo) σ H Q):tFld X.K (tW X.K aj W fo) f σ H λx H1=>ag5 X [x] H1 Q:=by
 let⟨g,Z,M,J,h⟩:=h
 unfold Gk at h;refine tW.go J h.bnd λod u H1 k2 e1 ru=>?_;have J1:=J.ex e1;split at k2
 .next h i b kvs hl=>
  let⟨a,C,dx,fs,l,rfl,m1,m2,ml,ha,rfl,c1,c2,c3,c4,c5,c6,l1,l2,l3⟩:=KC co J1.wok ru hl
  refine⟨a,C,dx,fs,.ref l,rfl,c2,c4,c5,l1,?_⟩;cases b with
  |false=>
   let⟨kv,q1,q2,q3⟩:=l3
   exact .inl ⟨l,kv,rfl,q1,λq nq=>k2 (.ref q) _ (e1.trans (Ex.new nq)) (.lst (.inl ⟨.inl awU,J1.kd.fresh nq⟩) (abH q2))⟩
  |true=>
   let⟨o',xs,vs,q1,q2,q3,q4,q5,q6⟩:=l3
   rw[hw]at q2;exact .inr ⟨l,o',xs,rfl,q1,q2,λq nq=>k2 (.ref q) _ (e1.trans (Ex.new nq)) (.lst (.inl ⟨.inl awU,J1.kd.fresh nq⟩) (q4.ex (Ex.new nq) J1.kd))⟩
 .exact awN k2
def aiB(co:jM X.K aj)(hw:aj.w=X.w)(hc:X.calm=true)(hg:Gl X "list")(hm:X.mg "list"=none)(ho:QW aj X W o fo)(hb:baseOk o=true):QE aj X W (.Call (.Name "list" p) [.Attribute o f p1] [] pos) (Gk f fo):=by
 have h1:=pa_cons (pe_fld (X:=X) (pos:=p1) (f:=f) ho (gJ hb)) pa_nil (bH rfl []);have hv:BV (.type "list") "list":=⟨#[[]],#[()],#[()]⟩
 refine PE.weak (pe_callTy (pos:=pos) (p:=p) (aeS hc) hg hm hv.1 h1 hv.2.1 hv.2.2 (bH rfl []) #[rfl]) λσ H Q h=>?_;exact ahP co hw σ H Q h
def QK(ft:Ft)(o:QF)(f:Str)(b:Bool):SF:=λM Z=>((o (M++[⟨"",[]⟩]) Z).at (M++[⟨"",[]⟩])).then Z λod M2=>match lM M2 od with
 |some (h,i)=>match ft.has i.cls f&&decide (i.fs.length<100) with
  |true=>.next Z (M2.set h (i.put f (.dic b [])))
  |false=>.bad
 |none=>.bad
def apV(X:Cx)(b:Bool):TE:=λ_ H Q=>∀p,H p=none->match b with
 |false=>Q (.ref p) (upd H p (.dK []))
 |true=>∀o,jK X.w p o []->Q (.ref p) (upd H p (fL p o))
def adb{b:Bool}:PE X (.Dict [] [] pos) (apV X b):=by
 cases b with
 |false=>exact PE.weak pe_dnewK λσ H Q h p np=>h p np
 |true=>
  refine⟨λpins s σ H Q I h=>wpAny_Dict_empty ?_⟩;have hz:(s.heap.push { cls:=.type "dict",data:=.dict (List.toArray []) }).get? s.heap.objs.size=some { cls:=.type "dict",data:=.dict (List.toArray []) }:=Heap.get?_push_size _ rfl
  have hs:(s.heap.objs.size==sysModules)=false:=beq_eq_false_iff_ne.mpr (Ne.symm (awb I.big));exact⟨.ref s.heap.objs.size,_,I.laid (a:=s.heap.objs.size) (o:=fL s.heap.objs.size _) (t':=s.toks) (λ_ _ q=>Heap.get?_push_of_some _ q) (avW _) (Qp hz),rfl,h _ (I.hok.fresh (avW _)) _ ⟨hs,⟨rfl,rfl,rfl⟩,⟨(List.toArray []),0,rfl,rfl⟩,List.nodup_nil,awg _,λx hx=>absurd hx av8⟩⟩
def ali{ft:Ft}{b:Bool}(co:jM X.K aj)(fk:Qh ft aj)(hw:aj.w=X.w)(ho:QW aj X W o fo)(hs:swapsWith (.Dict [] [] p) (some (.Attribute o f pos')) pos.line X.env=pure false):SE aj X W false (.Assign [.Attribute o f pos'] (.Dict [] [] p) pos) (QK ft fo f b):=by
 refine PS.weak (ps_fld ho (adb (b:=b)) hs) λD σ H ⟨g,Z,M,I,z⟩=>?_;have core:∀(l:Addr) (ob:HO),H l=none->Jr ob->(∀(g':Gh) (H':Hp),H' l=some ob->iD X.K aj g' H' l b [])->tW X.K aj W fo σ (upd H l ob) (λx H2=>∃a C dx fs,x=.ref a/\H2 a=some (.ins C dx fs)/\Cls X.K C/\NoAttr X.K C f/\fs.length<1000/\D.nx σ (upd H2 a (.ins C dx (putF f (.ref l) fs)))):=by
  intro l ob nl mu at';let⟨gr,I1,tb,ow,mm⟩:=P0 I nl (Ex.new nl) awU mu
  unfold QK at z;have k1:=Out.jx (dB (σ:=σ) z);refine tW.go I1 (k1.mono (λ_ y=>y) λx y H' c dd ex rx=>y H' _ c dd (gr.trans (Gr.ex ex)) (I1.ex ex) rx) λod u H2 k2 e2 ru=>?_;have I2:=I1.ex e2;split at k2
  .next h i hi=>
   split at k2
   .next hb=>
    rw[avD]at hb;let⟨a,C,dx,fs,_,m1,m2,ha,rfl,c1,c2,c3,c4,c5,c6⟩:=J5 co fk I2.wok ru hi hb.1
    have nla:l≠a:=λz=>by
     subst z;cases I2.wok.inj _ _ _ ha tb;rw[mm]at m1;cases m1;exact m2 rfl
    refine⟨a,C,dx,fs,rfl,c2,c4,c5,?_,?_⟩
    .have:=awP hb.2;rw[c3.len];omega
    .have ch:=X6 (f:=f) (C:=C) (dx:=dx) (fs':=putF f (.ref l) fs) I2.kd I2.wok ha m1 m2 tb mm ow;have w':=I2.wok.chg I2.kd ch ha m1 m2 c6 c1 c3 awU (v:=.ref l) (fl:=.dic b []) ⟨l,rfl,awS rfl,at' _ _ (by rw[upd_ne nla];exact e2 _ _ awU)⟩;exact k2 σ _ _ ((gr.trans (Gr.ex e2)).trans ch.gc.gr) (I2.chg ch w')
   .exact awN k2
  .exact awN k2
 intro l nl;cases b with
 |false=>exact core l _ nl awM λg' H' h=>⟨[],h,rfl,.nil⟩
 |true=>exact λob nd=>core l _ nl awM λg' H' h=>⟨ob,[],[],h,by rw[hw];exact nd,rfl,.nil,.nil,.nil⟩
end
def aot(X:Cx)(D:Addr)(vs:List Nat)(g:TG)(tk:TE)(σ:L2.St)(Nx:Hp->Prop)(x:V)(H:Hp):Prop:=
 g x (L2.wipe σ vs) H λσ2 H2=>L2.wipe σ2 vs=L2.wipe σ vs/\tk σ2 H2 λy H4=>∃(o:Obj) (xs:List fG) (gg:Gh) (d:Dat) (b:Addr) (k:NestedKey),y=.ref b/\H4 D=some (fL D o)/\jK X.w D o xs/\aA X.K gg H4 (xs.map λx=>V.ref x.2.1) (xs.map λx=>x.1.data)/\Rep X.K gg H4 y d/\nM d=some k/\k.depth<=8/\xs.length<sizeLine/\
  ∀o',jK X.w D o' (storedH xs k b (.bool true))->Nx (upd H4 D (fL D o'))
def anr(X:Cx)(wi:TI)(g:TG)(tk:TE)(vs:List Nat):TE:=λσ H Q=>wi σ H λJ H1=>∀D,H1 D=none->∃W:Nat->Nat->Hp->Prop,(∃m,∀o,jK X.w D o []->W 0 m (upd H1 D (fL D o)))/\
 ∀i m H,W i m H->(J.stop i H/\Q (.ref D) H)\/(J.go i H/\∃Nx:Hp->Prop,(∀H',Nx H'->∃m',m'<m/\W (i+1) m' H')/\∀x H',J.yld i H x H'->aot X D vs g tk σ Nx x H')
section
variable{X:Cx}
def aiq{pins:List (Addr×Obj)}{σ:L2.St}{H:Hp}{s:Shared}{E:Value->Shared->Prop}{D b:Addr}{o:Obj}{xs:List fG}{gg:Gh}{d:Dat}{k:NestedKey}{u:Value}{Q:Unit->Shared->Prop}(hu:X.A.units+64<cLine)(I:L2.Inv X pins σ H s)(hD:H D=some (fL D o))(n:jK X.w D o xs)(hr:aA X.K gg H (xs.map λx=>V.ref x.2.1) (xs.map λx=>x.1.data))(hk:Rep X.K gg H (.ref b) d)(hd:nM d=some k)(h8:k.depth<=8)(hz:xs.length<sizeLine)(ru:RelV (.bl true) u)
  (q:∀s' o',jK X.w D o' (storedH xs k b (.bool true))->L2.Inv X pins σ (upd H D (fL D o')) s'->Q () s'):wpAny (model X.prog X.w) X.A (dictSet D (.ref b) u) Q E s:=by
 obtain rfl:u=.bool true:=ru
 refine wpAny_dictSet_heap (knd:=nestedKind X.prog X.w) (k:=k) (hsz:=Nat.le_of_lt hz) (show X.A.units+8<cLine by omega) ⟨key_is I hk hd rfl,h8⟩ (BJ I hD n rfl hr) ?_;intro h' dd hs';let⟨o',es,ep,g1,g2,g3,g4,g5,g6⟩:=dd
 have nd:jK X.w D o' (storedH xs k b (.bool true)):=⟨n.sys,g2,⟨es,ep,g3,g4⟩,g6,by have:=Vd (xs:=xs) (k:=k) (b:=b) (u:=.bool true);omega,Wv n.dep h8⟩;exact q _ o' nd (d_write I (by rw[hD];exact True.intro) hs' ⟨o',g1⟩ (Qp g1))
def al1{kx tg iter:Expr}{scope:Scope}{own:List (PySem.Str×Nat)}{pos vp:Pos}{vj:Nat}{wi:TI}{g:TG}{tk:TE}(hc:X.calm=true)(hN:X.N.Nodup)(hu:X.A.units+64<cLine)(hi:PI X tg iter wi)(ok:BlkOk X.N X.env.scope scope own)
  (hg:∀(t:Shared) (G:Hp) (C:Addr) (cl:List (PySem.Str×Addr)) (fp:List Addr),PG (X.blk t G scope (compEnvC scope cl C X.env) fp) tg g)
  (hk:∀(t:Shared) (G:Hp) (C:Addr) (cl:List (PySem.Str×Addr)) (fp:List Addr),PE (X.blk t G scope (compEnvC scope cl C X.env) fp) kx tk) (hs:∀x,foldedSetIterable iter X.env x=pure x) :
  PE X (.DictComp kx (.Constant (.bool true) vj vp) [⟨tg,iter,[],0⟩] scope pos) (anr X wi g tk (own.map (·.2))):=by
 refine⟨λpins s σ H Q I h=>?_⟩;rw[arm_eval_DictComp];have cells:∀y∈scope.names,y.2=.free->∃c,X.env.cells.lookup y.1=some c:=λy hy e=>(ok.free y hy e).elim (λk=>I.ok.has _ (.inl k)) (λk=>I.ok.has _ (.inr k));refine wpAny_comprehension_free rfl hs (closure_ok cells) ok.kind (λy hy e=>by rw[ok.uniq y hy,e]) (thn (hi.run pins s σ H _ I h) λ_ _ hx=>thn hx λitv t0 h0=>?_);let⟨it,fp,tn,J,G0,rfl,I0,T,st0,f0,q⟩:=h0
 refine wpAny_newObj_type (newEnv_comp ?_)
 -- the new dict,at D
 obtain⟨D,hD⟩:∃D,D=t0.heap.objs.size:=⟨_,rfl⟩;rw[<-hD];let⟨W,⟨m0,w00⟩,turn⟩:=q D (I0.hok.fresh (Nat.le_of_eq hD.symm))
 obtain⟨ob,hob⟩:∃ob:Obj,ob={ cls:=.type "dict",data:=.dict (List.toArray []) }:=⟨_,rfl⟩
 have nd0:jK X.w D ob []:=by rw[hob];exact⟨by rw[hD];exact beq_eq_false_iff_ne.mpr (Ne.symm (awb I0.big)),⟨rfl,rfl,rfl⟩,⟨(List.toArray []),0,rfl,rfl⟩,List.nodup_nil,awg _,λx hx=>absurd hx av8⟩
 have w0:=w00 ob nd0;rw[<-hob];obtain⟨t1,ht1⟩:∃t1:Shared,t1={ t0 with heap:=t0.heap.push ob }:=⟨_,rfl⟩;obtain⟨G1,hG1⟩:∃G1,G1=upd G0 D (fL D ob):=⟨_,rfl⟩;rw[<-hG1]at w0;have grow:∀b o,t0.heap.get? b=some o->t1.heap.get? b=some o:=λb o e=>by rw[ht1];exact Heap.get?_push_of_some _ e
 have I1:L2.Inv X pins σ G1 t1:=by rw[ht1,hG1];refine I0.laid (t':=t0.toks) (λb o e=>Heap.get?_push_of_some _ e) (Nat.le_of_eq hD.symm) (Qp ?_);rw[hD];exact Heap.get?_push_size _ (by rw[hob];rfl)
 have small:∀b∈fp,b<t0.heap.objs.size:=λb hb=>by
  let⟨o,e,_⟩:=T.obj _ _ st0 b hb
  exact Heap.lt_size e
 have f1:∀b∈fp,FpOk X pins G1 b/\b<t1.heap.objs.size:=λb hb=>by
  have hlt:=small b hb;refine⟨⟨?_,(f0 b hb).2⟩,by rw[ht1];show b<(t0.heap.push ob).objs.size;rw[Heap.size_push];exact awA hlt⟩;rw[hG1,upd_ne (by rw[hD];exact awb hlt)];exact(f0 b hb).1
 have st1:tn 0 t1.heap:=T.keep _ _ _ st0 λb _ o e=>grow b o e;have I2:=block_start I1 ok hN f1;have pg:=hg t1 G1 t1.heap.objs.size (cellsFrom (t1.heap.objs.size+1) scope.names (cloFrom X.env.cells scope.names [])) fp;have pk:=hk t1 G1 t1.heap.objs.size (cellsFrom (t1.heap.objs.size+1) scope.names (cloFrom X.env.cells scope.names [])) fp;have none1:∀b∈fp,G1 b=none:=λb hb=>(f1 b hb).1.1;rw[show({ t0 with heap:=t0.heap.push ob }:Shared)=t1 from ht1.symm];obtain⟨ce,hce⟩:∃ce,ce=compEnvC scope (cellsFrom (t1.heap.objs.size+1) scope.names (cloFrom X.env.cells scope.names [])) t1.heap.objs.size X.env:=⟨_,rfl⟩;rw[<-hce]at I2 pg pk;have cL:ce.locals=t1.heap.objs.size:=by rw[hce];rfl
 obtain⟨t2,ht2⟩:∃t2:Shared,t2={ t1 with heap:=pushCells (t1.heap.push { cls:=.type "dict",data:=.dict (List.toArray []) }) scope.names }:=⟨_,rfl⟩
 rw[<-ht2]at I2;have st2:tn 0 t2.heap:=T.keep _ _ _ st1 λb _ o e=>by rw[ht2];exact pushCells_keeps _ _ _ _ (Heap.get?_push_of_some _ e)
 have still:∀{σ':L2.St} {G':Hp} {t':Shared},L2.Inv (X.blk t1 G1 scope ce fp) [] σ' G' t'->(∀b∈fp,G' b=none)->∀b∈fp,FpOk (X.blk t1 G1 scope ce fp) [] G' b:=λI' hn b hb=>
  ⟨hn b hb,(I'.ok.exf b hb).1,I'.ok.exfs b hb,.inl hb,λx c e=>(I'.ok.exf b hb).2 x c e,λp hp=>absurd (show p∈([]:List (Addr×Obj))++[] from hp) (by simp)⟩
 have pt:PTs (X.blk t1 G1 scope ce fp) [] tYes:=pts_nil;have pv:PE (X.blk t1 G1 scope ce fp) (.Constant (.bool true) vj vp) (tC (.bl true)):=pe_bl;have loop:codeAny (model X.prog X.w) X.A (.compLoop (.DictComp kx (.Constant (.bool true) vj vp) [⟨tg,iter,[],0⟩] scope pos) 0 (.ref it) (.ref D) ce) (compPost (model X.prog X.w) X.A X.xe none (EP X pins σ Q) (.ref D) t1.heap.objs.size) t2:=by
  refine compLoop_anyD (λn t'=>∃i G',L2.Inv (X.blk t1 G1 scope ce fp) [] (L2.wipe σ (own.map (·.2))) G' t'/\tn i t'.heap/\(∀b∈fp,G' b=none)/\W i n G') ?_ m0 ⟨0,G1,I2,st2,none1,w0⟩;rintro n t3 ⟨i,G3,I3,st3,n3,w3⟩;rcases turn i n G3 w3 with⟨stop,fin⟩|⟨go,Nx,hNx,step⟩
  .refine thnF (T.done (X.blk t1 G1 scope ce fp) rfl rfl rfl hc i [] t3 _ G3 (λ_ _=>False) I3 (still I3 n3) st3 stop) λr t4 ⟨hr,I4⟩=>?_;subst hr;have I5:L2.Inv X pins σ G3 t4:=I1.call' (ch:=fp) I4.os I4.base I4.hok I4.bare λb hb=>⟨(f1 b hb).1.2.2.2.1,(f1 b hb).1.2.1,(f1 b hb).1.2.2.2.2.1,(f1 b hb).1.2.2.2.2.2⟩;have nC:G3 t1.heap.objs.size=none:=by rw[<-cL];exact I4.free
   let⟨m,hn,_⟩:=I4.loc
   have hn':t4.heap.Ns t1.heap.objs.size m:=by rw[<-cL];exact hn
   let⟨a0,a1,_,a3,a4,a5⟩:=I1.fpOk (avW _) nC
   exact⟨m,hn',λh'' sb=>⟨.ref D,G3,I5.turned (t':=t4.toks) (λb o hb e=>(sb.2 b hb).trans e) a0 a1 a3 a4 a5,rfl,fin⟩⟩
  .refine thnF (T.item (X.blk t1 G1 scope ce fp) rfl rfl rfl hc i [] t3 _ G3 (λ_ _=>False) I3 (still I3 n3) st3 go) λr t4 ⟨u,hr,h4⟩=>?_;subst hr;refine thnF h4 λ_ t5 ⟨x,G5,I5,r5,y5,st5,n5⟩=>?_;refine thnF (pg.run _ t5 _ G5 x u _ (I5.pinned (still I5 n5) (T.obj _ _ st5)) r5 (step x G5 y5)) λ_ t6 ⟨σ6,G6,I6,hw6,q6⟩=>?_;refine thnF (pt.run _ t6 σ6 G6 (λb G=>b=true/\G=G6) I6 ⟨rfl,rfl⟩) λb t7 ⟨G7,I7,hb7,hG7⟩=>?_;subst hb7 hG7;have over:∀{t':Shared} {G':Hp},L2.Inv (X.blk t1 G1 scope ce fp) ([]++pinsAt fp t5.heap) σ6 G' t'->Nx G'->∃m,m<n/\∃i G',L2.Inv (X.blk t1 G1 scope ce fp) [] (L2.wipe σ (own.map (·.2))) G' t'/\tn i t'.heap/\(∀b∈fp,G' b=none)/\W i m G':=λ{t' G'} I' nx=>by
    let⟨m',hm,w'⟩:=hNx G' nx
    have pin:∀b∈fp,∀o,t5.heap.get? b=some o->t'.heap.get? b=some o/\G' b=none:=λb hb o e=>
     let z:=I'.pin (b,o) (awy _ (awy _ (mem_pinsAt hb e)))
     ⟨z.1,z.2.1⟩
    refine⟨m',hm,i+1,G',(I'.unpinned (pins:=[])).weak (by rw[<-hw6,wipe_length]) (λj v e=>?_),T.keep _ _ _ st5 λb hb o e=>(pin b hb o e).1,λb hb=>?_,w'⟩
    .rw[<-hw6]at e;exact(wipe_some e).1
    .let⟨o,e,_⟩:=T.obj _ _ st5 b hb
     exact(pin b hb o e).2
   simp![if_true];refine thnF (pk.run _ t7 σ6 _ _ I7 q6) λz t8 ⟨yv,G8,I8,r8,o8,xs8,g8,d8,b8,k8,ey,hD8,n8,hr8,hk8,hd8,h88,hz8,nx⟩=>?_;subst ey
   obtain rfl:z=Value.ref b8:=r8
   refine thnF (pv.run _ t8 σ6 G8 (λv G=>v=.bl true/\G=G8) I8 ⟨rfl,rfl⟩) λz2 t9 ⟨y9,G9,I9,r9,hv9,hG9⟩=>?_;subst hv9 hG9;exact aiq (X:=X.blk t1 G1 scope ce fp) hu I9 hD8 n8 hr8 hk8 hd8 h88 hz8 r9 λs' o' nd I10=>over I10 (nx o' nd)
 have done:=codeAny_compStart_dict loop (T.self X.A 0 _ _ _ st2 loop);rw[hce,ht2]at done;subst hob;exact done
end
def HJ(tg:dU)(tk:QF)(M:Mo)(Z:Env):List Dat->List (Dat×Dat)->Out (List (Dat×Dat))
 |[],acc=>.ok acc
 |d::ds,acc=>match tg d Z with
  |none=>.bad
  |some Z1=>(Af (tk M Z1)).bind λkd=>(dhas true acc kd).bind λr=>HJ tg tk M Z ds (match r with
   |true=>acc
   |false=>acc++[(kd,.bool true)])
def qDc(it:IF)(tg:dU)(vs:List Nat)(tk:QF):Mo->Env->Out (List (Dat×Dat)):=λM Z=>(it M Z).bind λds=>Out.when (decide (ds.length<=50000)) (HJ tg tk M (bQ Z vs) ds [])
def anx(K:avC)(aj:aK)(W:WX)(f:Mo->Env->Out (List (Dat×Dat))):TE:=λσ H Q=>∃g Z M,SInv K aj σ H g Z M/\(f M Z).sat (λkvs=>∀l o H',H l=none->Ex H H'->H' l=some (fL l o)->iD K aj (g.add l) H' l true kvs->Q (.ref l) H') (sH K aj W g H σ)
section
variable{X:Cx}{aj:aK}{W:WX}
theorem YQ{tg:dU}{tk:QF}{M:Mo}{Z:Env}:∀{ds:List Dat} {acc:List (Dat×Dat)} {x:dX},HJ tg tk M Z ds acc≠.exc x
 |[],_,_,h=>nomatch h
 |d::ds,acc,x,h=>by
  rw[HJ]at h;left
  .cases h
  .next Z1 e=>
   cases h1:tk M Z1 with
   |bad=>rw[h1]at h;cases h
   |exc y=>rw[h1]at h;cases h
   |ok kd=>
    rw[h1]at h;have h:((dhas true acc kd).bind λr=>HJ tg tk M Z ds (match r with
     |true=>acc
     |false=>acc++[(kd,.bool true)]))=.exc x:=h
    cases h2:dhas true acc kd with
    |bad=>rw[h2]at h;cases h
    |exc y=>
     unfold dhas at h2;split at h2
     .cases h2
     .split at h2
      .split at h2<;>cases h2
      .cases h2
     .cases h2
    |ok r=>
     rw[h2]at h;exact YQ h
def aic{xs:List fG}{k:NestedKey}(h:∀x∈xs,x.2.2=.bool true):xs.map (putAt k (.bool true))=xs:=by
 have:∀x∈xs,putAt k (.bool true) x=x:=λx hx=>by
  unfold putAt;split
  .let⟨a,b,c⟩:=x
   have:c=.bool true:=h _ hx;rw[this]
  .rfl
 calc xs.map (putAt k (.bool true))=xs.map id:=List.map_congr_left this
  _=xs:=List.map_id xs
theorem aeu:∀{xs:List fG},(∀x∈xs,x.2.2=.bool true)->Vals (List.replicate xs.length (.bl true)) (xs.map (·.2.2))
 |[],_=>.nil
 |x::xs,h=>by
  rw[avO,List.replicate_succ,List.map_cons,h x avI];exact .cons rfl (aeu λy hy=>h y (avG _ hy))
theorem aec{K:avC}{g:Gh}{H:Hp}:∀{kvs:List (Dat×Dat)} {n:Nat},n=kvs.length->(∀p∈kvs,p.2=.bool true)->aA K g H (List.replicate n (.bl true)) (kvs.map (·.2))
 |[],_,h,_=>by subst h;exact .nil
 |p::kvs,_,e,h=>by
  subst e;rw[avO,List.replicate_succ,List.map_cons,h p avI];exact .cons (.bl true) (aec rfl λy hy=>h y (avG _ hy))
def ao7{it:IF}{tg:dU}{js vs:List Nat}{tk:QF}(hw:aj.w=X.w)(hj:∀j∈js,j∈vs)(σ:L2.St)(H:Hp)(Q:VK)(h:anx X.K aj W (qDc it tg vs tk) σ H Q) :
  anr X (tI X.K aj W false it) (zp X.K aj js tg) (tQ X.K aj WF tk) vs σ H Q:=by
 let⟨g,Z,M,I,h⟩:=h
 refine⟨g,Z,M,I,h.bnd.mono (λds hk J C H1 e1 w c _ D nD=>?_) λ_ z=>z⟩;let⟨hz,hk⟩:=hk.kJ
 have hlen:=awP hz;obtain⟨total,htot,hQ⟩:∃total,HJ tg tk M (bQ Z vs) ds []=.ok total/\∀l o H',H l=none->Ex H H'->H' l=some (fL l o)->iD X.K aj (g.add l) H' l true total->Q (.ref l) H':=by
  cases hc:HJ tg tk M (bQ Z vs) ds [] with
  |bad=>rw[hc]at hk;exact awN hk
  |exc x=>exact absurd hc YQ
  |ok total=>
   rw[hc]at hk;exact⟨total,rfl,hk⟩
 have I1:=(I.ex e1).wipe vs;have kD:∀{Ha:Hp} {o:Obj},Ex H1 Ha->Ha D=some (fL D o)->SInv X.K aj (L2.wipe σ vs) Ha (g.add D) (bQ Z vs) M:=λea hu=>I1.add nD ea hu awM
 let Pv:Nat->Hp->Prop:=λi Ha=>Ex H1 Ha/\i<=ds.length/\∃o xs acc,Ha D=some (fL D o)/\jK X.w D o xs/\acc.map (·.1)=xs.map (λx=>x.1.data)/\aA X.K (g.add D) Ha (xs.map λx=>V.ref x.2.1) (acc.map (·.1))/\(∀x∈xs,x.2.2=.bool true)/\(∀p∈acc,p.2=.bool true)/\acc.length<=i/\HJ tg tk M (bQ Z vs) (ds.drop i) acc=.ok total
 refine⟨λi m Ha=>m=ds.length-i/\Pv i Ha,⟨ds.length,λo n0=>⟨rfl,Ex.new nD,awg _,o,[],[],awU,n0,rfl,.nil,λx hx=>absurd hx av8,λx hx=>absurd hx av8,avW _,by rw[awC];exact htot⟩⟩,?_⟩;rintro i m Ha ⟨rfl,ea,hi,o,xs,acc,hu,nd,hK,hR,hT,hA,hy,hs⟩;have Ia:=kD ea hu;have Ca:=w.add g (g.add D) H1 Ha (I.kd.ex e1) c (Gh.Cy nD ea) ea;have lxs:xs.length=acc.length:=by have:=congrArg List.length hK;simpa using this.symm
 by_cases hlt:i<ds.length
 .refine .inr ⟨w.go _ i Ha Ca hlt,Pv (i+1),λH' p=>⟨ds.length-(i+1),#[],rfl,p⟩,λx H' y=>?_⟩;have hd:ds[i]?=some ds[i]:=avE hlt;let⟨e2,rx⟩:=w.yld _ i Ha x H' _ Ia.kd Ca hd y
  have I2:=Ia.ex e2;rw[awi hlt,HJ]at hs;split at hs
  .cases hs
  .next Z1 he=>
   refine⟨g.add D,_,M,_,Z1,I2,rx,he,λws I3=>⟨yH js ws _ vs hj |>.trans (CV σ vs),?_⟩⟩;cases htk:tk M Z1 with
   |bad=>rw[htk]at hs;cases hs
   |exc z=>rw[htk]at hs;cases hs
   |ok kd=>
    rw[htk]at hs;have hs:((dhas true acc kd).bind λr=>HJ tg tk M (bQ Z vs) (ds.drop (i+1)) (match r with
     |true=>acc
     |false=>acc++[(kd,.bool true)]))=.ok total:=hs
    refine⟨g.add D,Z1,M,I3,?_⟩;rw[htk];intro v H4 e4 ry;have I4:=I3.ex e4;have hu4:=e4 _ _ (e2 _ _ hu);have hR4:=(hR.ex e2 Ia.kd).ex e4 I2.kd;cases hh:dhas true acc kd with
    |bad=>rw[hh]at hs;cases hs
    |exc z=>rw[hh]at hs;cases hs
    |ok r=>
     rw[hh]at hs;let⟨ha2,hcase⟩:=WR hh
     rcases hcase with⟨z,_⟩|⟨_,dd,kk,rfl,hkk,hdep⟩
     .cases z
     .have ek:=qM hkk;rw[<-ek,vU hK]at ha2;have hRx:=hR4;rw[hK]at hRx;cases ry with
      | @tup bb us _ hs' ht=>
       refine⟨o,xs,g.add D,_,bb,kk,rfl,hu4,nd,hRx,.tup hs' ht,hkk,hdep,sz_lt #[],λo' nd'=>?_⟩;have eD:Ex H1 (upd H4 D (fL D o')):=Ex.mut ((ea.trans e2).trans e4) nD;have lD:(g.add D).Lo D:=.inr rfl;have up:Gr true (g.add D) (g.add D) H4 (upd H4 D (fL D o')):=Gr.upd I4.kd hu4 (.inr lD);cases r with
       |true=>
        let⟨q,hq⟩:=Option.isSome_iff_exists.mp ha2
        rw[storedH_old hq,aic hT]at nd';exact⟨eD,hlt,o',xs,acc,awU,nd',hK,hR4.gr up I4.kd,hT,hA,#[],hs⟩
       |false=>
        have hn:atKey xs kk=none:=by
         cases hv:atKey xs kk with
         |none=>rfl
         |some _=>rw[hv]at ha2;cases ha2
        rw[storedH_new hn]at nd';have hs:HJ tg tk M (bQ Z vs) (ds.drop (i+1)) (acc++[(.tuple dd,.bool true)])=.ok total:=hs;refine⟨eD,hlt,o',xs++[(kk,bb,.bool true)],acc++[(.tuple dd,.bool true)],awU,nd',by simp[hK,ek],?_,?_,?_,by simp;omega,hs⟩
        .rw[List.map_append,List.map_append];exact(hR4.gr up I4.kd).back ((Rep.tup hs' ht).gr up I4.kd)
        .intro x hx;rcases avR.mp hx with z|z
         .exact hT x z
         .rw[avJ.mp z]
        .intro x hx;rcases avR.mp hx with z|z
         .exact hA x z
         .rw[avJ.mp z]
 .have e:i=ds.length:=#[];refine .inl ⟨w.stop _ i Ha Ca e,?_⟩;rw[e,awo]at hs;cases hs;exact hQ D o Ha (GD e1 D nD) (e1.trans ea) hu ⟨o,xs,List.replicate xs.length (.bl true),hu,by rw[hw];exact nd,hK,hR,aeu hT,aec lxs hA⟩
def VD(ft:Ft)(o:QF)(f:Str)(e:Mo->Env->Out (List (Dat×Dat))):SF:=λM Z=>((e M Z).at M).then Z λkvs _=>((o (M++[⟨"",[]⟩]) Z).at (M++[⟨"",[]⟩])).then Z λod M2=>match lM M2 od with
 |some (h,i)=>match ft.has i.cls f&&decide (i.fs.length<100) with
  |true=>.next Z (M2.set h (i.put f (.dic true kvs)))
  |false=>.bad
 |none=>.bad
end
def acp{K:avC}{g:Gh}{H:Hp}{l:Addr}{vs:List V}{ds:List Dat}(h:aA K (g.add l) H vs ds):aA K (g.push l) H vs ds:=aA.mv (g:=g.add l) (g':=g.push l) (λh a z=>by
  have z:g.tbl[h]?=some a:=z
  show(g.tbl++[l])[h]?=some a
  rw[avS (avH.mp z).1];exact z) (λa z=>by
  rcases abT z with z|rfl
  .rcases z with z|z|z
   .exact .inl z
   .exact .inr (.inl z)
   .exact .inr (.inr (show g.Lo a\/a=l from Or.inl z))
  .exact .inr (.inr (show g.Lo a\/a=a from Or.inr rfl))) h
section
variable{X:Cx}{aj:aK}{W:WX}{o e:Expr}{f:Str}{pos pos':Pos}{ft:Ft}{fo:QF}
def akA{fe:Mo->Env->Out (List (Dat×Dat))}{te:TE}(co:jM X.K aj)(fk:Qh ft aj)(ho:QW aj X W o fo)(he:PE X e te)(hte:∀σ H Q,anx X.K aj W fe σ H Q->te σ H Q)(hs:swapsWith e (some (.Attribute o f pos')) pos.line X.env=pure false):SE aj X W false (.Assign [.Attribute o f pos'] e pos) (VD ft fo f fe):=by
 refine PS.weak (ps_fld ho he hs) λD σ H ⟨g,Z,M,I,z⟩=>hte σ H _ ⟨g,Z,M,I,?_⟩;unfold VD at z;cases hf:fe M Z with
 |exc x=>rw[hf]at z;exact λH' c dd e r=>z σ H' g c dd (Gr.ex e) (I.ex e) r.fr
 |bad=>rw[hf]at z;exact awN z
 |ok kvs=>
  rw[hf]at z;intro l ob H1 nl e1 hl dic;let⟨gr,I1,tb,ow,mm⟩:=P0 I nl e1 hl awM
  have dic1:iD X.K aj (g.push l) H1 l true kvs:=by
   let⟨o',xs,vs,q1,q2,q3,q4,q5,q6⟩:=dic
   exact⟨o',xs,vs,q1,q2,q3,acp q4,q5,acp q6⟩
  have z:(((fo (M++[⟨"",[]⟩]) Z).at (M++[⟨"",[]⟩])).then Z λod M2=>match lM M2 od with
   |some (h,i)=>match ft.has i.cls f&&decide (i.fs.length<100) with
    |true=>.next Z (M2.set h (i.put f (.dic true kvs)))
    |false=>.bad
   |none=>.bad).sat (sN X.K aj false D.nx g H) (sR X.K aj false D.rt g H) (sN X.K aj false D.bk g H) (sN X.K aj false D.ct g H) (sX X.K aj W false g H):=z
  have k1:=Out.jx (dB (σ:=σ) z);refine tW.go I1 (k1.mono (λ_ y=>y) λx y H' c dd ex rx=>y H' _ c dd (gr.trans (Gr.ex ex)) (I1.ex ex) rx) λod u H2 k2 e2 ru=>?_;have I2:=I1.ex e2;split at k2
  .next h i hi=>
   split at k2
   .next hb=>
    rw[avD]at hb;let⟨a,C,dx,fs,_,m1,m2,ha,rfl,c1,c2,c3,c4,c5,c6⟩:=J5 co fk I2.wok ru hi hb.1
    have nla:l≠a:=λz=>by
     subst z;cases I2.wok.inj _ _ _ ha tb;rw[mm]at m1;cases m1;exact m2 rfl
    refine⟨a,C,dx,fs,rfl,c2,c4,c5,?_,?_⟩
    .have:=awP hb.2;rw[c3.len];omega
    .have ch:=X6 (f:=f) (C:=C) (dx:=dx) (fs':=putF f (.ref l) fs) I2.kd I2.wok ha m1 m2 tb mm ow;have w':=I2.wok.chg I2.kd ch ha m1 m2 c6 c1 c3 awU (v:=.ref l) (fl:=.dic true kvs) ⟨l,rfl,awS rfl,iD.chg ch.gc.gr I2.kd (upd_ne nla) (dic1.ex e2 I1.kd)⟩;exact k2 σ _ _ ((gr.trans (Gr.ex e2)).trans ch.gc.gr) (I2.chg ch w')
   .exact awN k2
  .exact awN k2
end
end Rf
namespace Ear
open PySem PySem.Spec PyProof.Rows L2 Evl RZ
abbrev yZ(K:avC)(H:Hp)(v:V)(r:Rw):Prop:=Dp K H v (rD r)
@[irreducible]def OD (K:avC) (w:World):List V->Hp->VK->Prop:=λvs H Q=>∃(l:Addr) (ws:List V) (R D:List Rw),vs=[V.ref l]/\SqL K H l ws/\fU (yZ K H) ws R/\D.length<=76/\(∀r∈R,r∈D)/\
 ∀(p:Addr) (L:List Ent),H p=none->(∀e∈L,yZ K H (.ref e.1) e.2)->(L.map Prod.snd).Nodup->(∀r,r∈L.map Prod.snd↔r∈R)->L.length<=76->Q (.ref p) (upd H p (Rg w p L))
@[irreducible]def Uc (K:avC) (w:World):List V->Hp->VK->Prop:=λvs H Q=>∃(a:Addr) (L:List Ent),vs=[V.ref a]/\H a=some (Rg w a L)/\(∀e∈L,yZ K H (.ref e.1) e.2)/\(L.map Prod.snd).Nodup/\L.length<=76/\
 ∀(ys:List V) (M:List Rw) (p:Addr),fU (yZ K H) ys M->Ke M->(∀r,r∈M↔r∈L.map Prod.snd)->H p=none->Q (.ref p) (upd H p (.lst ys))
section
variable{X:Cx}
def ajq{pins:List (Addr×Obj)}{σ:L2.St}{H:Hp}{s:Shared}(I:Inv X pins σ H s){t:Addr}{r:Rw}(h:yZ X.K H (.ref t) r):RI s.heap r t:=by
 refine⟨?_,by rw[aiS];decide⟩;unfold yZ rD dT at h;cases h with
 |tup h1 t1=>
  cases t1 with
  |cons a1 t1=>
   cases t1 with
   |cons a2 t1=>
    cases t1;cases a1;cases a2 with
    |tup h2 t2=>
     let⟨us,rv,⟨o,ho,hc,n,hd⟩,_⟩:=I.tuple h1
     let⟨us2,rv2,⟨o2,ho2,hc2,n2,hd2⟩,_⟩:=I.tuple h2
     refine .tup ho hc hd ?_;cases rv with
     |cons r1 rv=>
      cases rv with
      |cons r2 rv=>
       cases rv;let⟨tk,rfl⟩:=r1
       cases r2;have e:∀{vs:List V} {l:List Int},DpAll X.K H vs (l.map PyData.int)->vs=l.map V.int:=by
        intro vs l
        induction l generalizing vs with
        |nil=>intro z;cases z;rfl
        |cons i l ih=>
         intro z;cases z with
         |cons b1 b2=>
          cases b1;rw[ih b2];rfl
       rw[e t2]at rv2;exact .cons (.int r.1 tk) (.cons (.tup ho2 hc2 hd2 (by simpa using YG (P:=X.prog) (w:=X.w) r.2 us2 rv2)) .nil)
theorem V1{K:avC}{H:Hp}:∀(ws:List V) (R:List Rw),fU (yZ K H) ws R->∃ks:List Ent,ws=(ks.map λp=>V.ref p.1)/\ks.map Prod.snd=R/\∀p∈ks,yZ K H (.ref p.1) p.2
 |[],[],_=>⟨[],rfl,rfl,by simp⟩
 |[],_::_,h=>nomatch h.1
 |_::_,[],h=>nomatch h.1
 |v::ws,r::R,h=>by
  let⟨ks,e1,e2,e3⟩:=V1 ws R ⟨awL h.1,λi v x a b=>h.2 (i+1) v x a b⟩
  have hr:yZ K H v r:=h.2 0 v r rfl rfl;have ev:∃t,v=.ref t:=by
   have z:=hr;unfold yZ rD at z;cases z with
   |tup _ _=>exact⟨_,rfl⟩
  let⟨t,rfl⟩:=ev
  refine⟨(t,r)::ks,by rw[List.map_cons,<-e1],by rw[List.map_cons,e2],λp hp=>?_⟩;rcases avP.mp hp with e|hp
  .rw[e];exact hr
  .exact e3 p hp
def acN(hu:X.A.units+65<cLine)(hc:X.calm=true):CallR X (.type "set") (OD X.K X.w):=by
 intro pins s σ H vs us Q I r h;unfold OD at h;let⟨l,ws,R,D,rfl,hl,hA,hD,hRD,q⟩:=h
 rw[Vals.ref1 r];let⟨ks,e1,e2,e3⟩:=V1 ws R hA
 let⟨its,rv,pl,hz⟩:=I.list hl
 rw[e1]at rv;have mem:∀p∈ks,p.2∈R:=λp hp=>by
  rw[<-e2];exact avM.mpr ⟨p,hp,rfl⟩
 have hn:H s.heap.objs.size=none:=I.hok.fresh (avW _);refine acQ (P:=X.prog) (w:=X.w) (hf:=λr=>(pK X.prog X.w).hash r) (λ_=>rfl) ks D hD (λp hp=>hRD _ (mem p hp)) (I.ok.hd hc) pl.isList (by simpa using Yw rv) (λp hp=>ajq I (e3 p hp)) #[] λh' tk L es ep t S g k=>?_;have fitL:t.fits es.size=true:=uw.fits (s:={ s with heap:=h',toks:=tk }) S;have new:ObjOk X.prog X.w (upd H s.heap.objs.size (Rg X.w s.heap.objs.size L)) h' s.heap.objs.size (Rg X.w s.heap.objs.size L):=by
  let⟨o,ho,hr⟩:=S.ob
  refine⟨⟨_,es,ep,t,S.ob,S.en,fitL,S.tab.ris,S.ld⟩,⟨o,ho⟩,λh1 h2 z k2=>?_⟩;let⟨hf2,es2,ep2,t2,⟨o2,ho2,hr2⟩,rest⟩:=(show afq X.w h1 s.heap.objs.size L from z)
  exact⟨hf2,es2,ep2,t2,⟨o2,k2 o2 ho2,hr2⟩,rest⟩
 refine⟨.ref s.heap.objs.size,upd H s.heap.objs.size (Rg X.w s.heap.objs.size L),I.laid (t':=tk) k (avW _) new,rfl,q _ L hn (λe he=>e3 e (awB (g.sub e he))) S.nd (λr=>⟨λm=>?_,λm=>?_⟩) S.few⟩
 .let⟨e,he,e5⟩:=avM.mp m
  rw[<-e5];exact mem e (awB (g.sub e he))
 .rw[<-e2]at m;let⟨p,hp,e5⟩:=avM.mp m
  rw[<-e5];exact g.all p (by rw[List.take_length];exact hp)
def aeJ(hu:X.A.units+65<cLine)(hc:X.calm=true):CallR X (.builtin "sorted") (Uc X.K X.w):=by
 intro pins s σ H vs us Q I r h;unfold Uc at h;let⟨a,L,rfl,ha,hL,nd,few,q⟩:=h
 rw[Vals.ref1 r];obtain⟨hf,es,ep,t,⟨o,ho,hex,hd⟩,en,fit,ris,led⟩:afq X.w s.heap a L:=(I.hok a _ ha).1;have len:=Bc en;have ev:∀K:List Ent,(∀p∈K,p∈L)->PySem.W.EachIs (λv (r:Rw)=>(∃p∈L,v=Value.ref p.1/\r=p.2)/\∃as,Reads s.heap v (rD r) as) ((ents hf K).map (·.2)) (K.map Prod.snd):=by
  intro K
  induction K with
  |nil=>exact λ_=>.nil
  |cons p K ih=>
   intro hK;have hp:=hK p avI;exact .cons ⟨⟨p,hp,rfl,rfl⟩,Dp.reads I (rD p.2) (.ref p.1) (.ref p.1) (hL p hp) rfl⟩ (ih λx hx=>hK x (avG _ hx))
 refine acz (enc:=rD) (bs:=L.map Prod.snd) (I.ok.hd hc) ⟨o,ho,hex.1,hd⟩ fit (by unfold scanBound;omega) ris led (by rw[en];exact ev L λp hp=>hp) (awE Zx) (PySem.W.Sortable.tuples λb=>⟨_,_,rfl⟩) (λb _=>by rw[(ahE b).2];omega) λs' p out c cs k g' o' hp hg pc eo=>?_;have mp:=awJ cs (PySem.W.dataLe false rD);have ndm:(cs.mergeSort (PySem.W.dataLe false rD)).Nodup:=(mp.trans pc).nodup_iff.mpr nd;have srt:=awv (le:=PySem.W.dataLe false rD) (λa b c k1 k2=>by rw[N7,awO]at *;exact List.le_trans k1 k2) (λa b=>by rw[N7,N7,awF,awO,awO];exact List.le_total _ _) cs;generalize cs.mergeSort (PySem.W.dataLe false rD)=M at mp ndm srt eo;let⟨ys,v1,v2⟩:=ZD out M eo
 have up:Ke M:=by
  refine List.Pairwise.imp₂ (λa b h1 h2=>?_) srt ndm;rw[N7,awO]at h1;by_cases c:rk a<rk b
  .exact c
  .exact absurd (abJ (List.le_antisymm h1 (List.not_lt.mp c))) h2
 have hfr:H p=none:=I.hok.fresh hp;have hlen:ys.length<=sizeLine:=by rw[v2.1,mp.length_eq,pc.length_eq,avN,sizeLine_eq];omega
 have J:Inv X pins σ (upd H p (.lst ys)) { s with heap:=s'.heap,gens:=s'.gens,drawn:=s'.drawn,toks:=s'.toks }:=
  I.call (ch:=[]) (Un.laid k hp hfr) (I.hok.laid k hp ⟨hlen,out,c,v1,hg⟩) (by rw[g'];exact I.bare) (λ_ z=>nomatch z)
 have es':s'={ s with heap:=s'.heap,gens:=s'.gens,drawn:=s'.drawn,toks:=s'.toks }:=by cases s';cases s;cases o';rfl
 rw[es'];refine⟨.ref p,_,J,rfl,q ys M p (v2.imp λv r ⟨e,he,h1,h2⟩=>?_) up (λr=>(mp.trans pc).mem_iff) hfr⟩;subst h1 h2;exact hL e he
end
end Ear
namespace Rf
open PySem PySem.Spec PyProof.Rows L2 Evl
def abQ:Dat->Option Ear.Rw
 |.tuple [.int o,.tuple ds]=>(intsOf ds).map λl=>(o,l)
 |_=>none
def BZ:List Dat->Option (List Ear.Rw)
 |[]=>some []
 |d::ds=>(abQ d).bind λr=>(BZ ds).bind λrs=>some (r::rs)
theorem N5:∀{ds:List Dat} {l:List Int},intsOf ds=some l->ds=l.map PyData.int
 |[],l,h=>by cases h;rfl
 |.int i::ds,l,h=>by
  rw[intsOf,awm]at h;let⟨r,h1,rfl⟩:=h
  rw[N5 h1];rfl
 |.none::_,_,h=>by cases h
 |.bool _::_,_,h=>by cases h
 |.str _::_,_,h=>by cases h
 |.list _::_,_,h=>by cases h
 |.tuple _::_,_,h=>by cases h
 |.dict _::_,_,h=>by cases h
def ako{d:Dat}{r:Ear.Rw}(h:abQ d=some r):d=Ear.rD r:=by
 unfold abQ at h;left
 .next o ds=>
  rw[awm]at h;let⟨l,h1,rfl⟩:=h
  rw[N5 h1];rfl
 .cases h
theorem Ue:∀{ds:List Dat} {rs:List Ear.Rw},BZ ds=some rs->ds=rs.map Ear.rD
 |[],_,h=>by cases h;rfl
 |d::ds,_,h=>by
  rw[BZ]at h;obtain⟨r,h1,h⟩;obtain⟨rs,h2,h⟩;cases h;rw[ako h1,Ue h2];rfl
def sY(R:List Ear.Rw):List Ear.Rw:=R.mergeSort λa b=>decide (Ear.rk a<=Ear.rk b)
def sortI(l:List Int):List Int:=l.mergeSort λa b=>decide (a<=b)
def bA(R:List Ear.Rw):List Ear.Rw:=sY R.eraseDups
def ajJ(l:List Int):List Int:=sortI l.eraseDups
def Uy:∀(n:Nat) (l:List Int),iV n (l.map PyData.int)=true:=λn l=>by
 induction l with
 |nil=>rfl
 |cons i l ih=>simp[iV,okd,ih]
def Pa(n:Nat)(r:Ear.Rw):okd (n+2) (Ear.rD r)=true:=by unfold Ear.rD Ear.dT;simp[okd,iV,Uy]
def adK(n:Nat)(R:List Ear.Rw):iV (n+2) (R.map Ear.rD)=true:=by
 induction R with
 |nil=>rfl
 |cons r R ih=>simp[iV,Pa,ih]
def pD(p:Int×Int):Dat:=.tuple [.int p.1,.int p.2]
def prs:List Dat->Option (List (Int×Int))
 |[]=>some []
 |.tuple [.int a,.int b]::r=>(prs r).bind λl=>some ((a,b)::l)
 |_::_=>none
theorem acd:∀{ds:List Dat} {l:List (Int×Int)},prs ds=some l->ds=l.map pD
 |[],l,h=>by
  cases h;rfl
 |d::ds,l,h=>by
  unfold prs at h;left
  .next e=>cases e
  .next a b r e=>
   cases e;obtain⟨l',h1,h⟩;cases h;rw[List.map_cons,<-acd h1];rfl
  .cases h
def OJ(p q:Int×Int):Bool:=decide (p.1<q.1\/(p.1=q.1/\p.2<=q.2))
def jJ(l:List (Int×Int)):List (Int×Int):=l.mergeSort OJ
def Tz(n:Nat)(l:List (Int×Int)):iV (n+1) (l.map pD)=true:=by
 induction l with
 |nil=>simp[iV]
 |cons p l ih=>simp[iV,okd,pD,ih]
def vA:Dat->Out Dat
 |.list ds=>match intsOf ds with
  |some l=>.ok (.list ((sortI l).map PyData.int))
  |none=>match BZ ds with
   |some R=>.ok (.list ((sY R).map Ear.rD))
   |none=>match prs ds with
    |some l=>.ok (.list ((jJ l).map pD))
    |none=>.bad
 |_=>.bad
def U9:Dat->Out Dat
 |.list ds=>match BZ ds with
  |some R=>match decide (R.eraseDups.length<=76) with
   |true=>.ok (.list ((bA R).map Ear.rD))
   |false=>.bad
  |none=>.bad
 |_=>.bad
def Ho{β:Type}{enc:β->Dat}{le:β->β->Bool}(h:∀a b,PySem.W.dataLe false id (enc a) (enc b)=le a b)(l:List β):(l.map enc).mergeSort (PySem.W.dataLe false id)=(l.mergeSort le).map enc:=by rw[List.map_mergeSort (r:=le) (s:=PySem.W.dataLe false id) (λa _ b _=>(h a b).symm)]
def Dh{α:Type}[BEq α][LawfulBEq α]{l:List α}{x:α}:x∈l.eraseDups↔x∈l:=by
 induction hn:l.length using Nat.strongRecOn generalizing l with
 |_ n ih=>
  cases l with
  |nil=>simp
  |cons a r=>
   rw[List.eraseDups_cons];simp![avO]at hn;have hl:(r.filter λb=>!b==a).length<=r.length:=avT _ _;rw[avP,ih _ #[] rfl,av3,avP];constructor
   .rintro(h|h)
    .exact .inl h
    .exact .inr h.1
   .rintro(h|h)
    .exact .inl h
    .by_cases e:x=a
     .exact .inl e
     .exact .inr ⟨h,by simpa using e⟩
def Vi{α:Type}[BEq α][LawfulBEq α]{l:List α}:l.eraseDups.Nodup:=by
 induction hn:l.length using Nat.strongRecOn generalizing l with
 |_ n ih=>
  cases l with
  |nil=>simp
  |cons a r=>
   rw[List.eraseDups_cons];simp![avO]at hn;have hl:(r.filter λb=>!b==a).length<=r.length:=avT _ _;refine awK.mpr ⟨λh=>?_,ih _ #[] rfl⟩;rw[Dh,av3]at h;simpa using h.2
def lX{R:List Ear.Rw}{r:Ear.Rw}:r∈bA R↔r∈R:=by unfold bA sY;rw[List.mem_mergeSort,Dh]
def S7(R:List Ear.Rw):Ear.Ke (bA R):=by
 unfold Ear.Ke bA sY;have srt:=awv (le:=λa b:Ear.Rw=>decide (Ear.rk a<=Ear.rk b)) (λa b c k1 k2=>by rw[awO]at *;exact List.le_trans k1 k2) (λa b=>by rw[awF,awO,awO];exact List.le_total _ _) R.eraseDups;have nd:(R.eraseDups.mergeSort λa b=>decide (Ear.rk a<=Ear.rk b)).Nodup:=(awJ _ _).nodup_iff.mpr Vi;refine List.Pairwise.imp₂ (λa b h1 h2=>?_) srt nd;rw[awO]at h1;by_cases c:Ear.rk a<Ear.rk b
 .exact c
 .exact absurd (Ear.abJ (List.le_antisymm h1 (List.not_lt.mp c))) h2
section
variable{K:avC}{g:Gh}{H:Hp}
theorem Gv{xs:List V}{ds:List Dat}(h:aA K g H xs ds):∀{ys:List V} {es:List Dat},Ear.fU (Ear.aeG xs ds) ys es->aA K g H ys es
 |[],[],_=>.nil
 |[],_::_,z=>nomatch z.1
 |_::_,[],z=>nomatch z.1
 |y::ys,e::es,z=>by
  let⟨i,h1,h2⟩:=z.2 0 y e rfl rfl
  let⟨d,h3,h4⟩:=h.get' h1
  rw[h2]at h3;cases h3;exact .cons h4 (Gv h ⟨awL z.1,λi v x a b=>z.2 (i+1) v x a b⟩)
end
section
variable{X:Cx}{aj:aK}{W:WX}{a:Expr}{fa:QF}{p p2 pos pos2:Pos}
def aky:Nm aj X.K W vA (Ear.LK X.K):=λσ g H x d Q k rx h=>by
 unfold vA at h;left
 .next ds=>
  let⟨l,us,rfl,h1,h2⟩:=fX rx
  unfold Ear.LK;left
  .next ns hn=>
   have e:=N5 hn;subst e;refine⟨l,us,ns.map PyData.int,rfl,h1,h2.dp (n:=12) (Uy 12 ns),awE (λa b=>by simp[PySem.W.alike]),PySem.W.Sortable.others (λb=>⟨(λz=>nomatch z),λxs z=>nomatch z⟩),λd hd=>by
    let⟨i,_,rfl⟩:=avM.mp hd
    simp[PyData.depth],λys q hy nq=>?_⟩
   have hs:=Ho (enc:=PyData.int) (le:=λa b:Int=>decide (a<=b)) (λa b=>congrFun (congrFun (PySem.W.dataLe_int (λk:Int=>k)) a) b) ns;rw[hs]at hy;exact h (.ref q) _ (Ex.new nq) (.lst (.inl ⟨.inl awU,k.fresh nq⟩) ((Gv h2 hy).ex (Ex.new nq) k))
  .left
   .next R hR=>
    have e:=Ue hR;subst e;refine⟨l,us,R.map Ear.rD,rfl,h1,h2.dp (n:=12) (adK 10 R),awE Ear.Zx,PySem.W.Sortable.tuples (λb=>⟨_,_,rfl⟩),λd hd=>by
     let⟨i,_,rfl⟩:=avM.mp hd
     rw[(Ear.ahE i).2]
     decide,λys q hy nq=>?_⟩
    .have hs:=Ho (enc:=Ear.rD) (le:=λa b:Ear.Rw=>decide (Ear.rk a<=Ear.rk b)) (λa b=>by rw[<-Ear.N7];rfl) R;rw[hs]at hy;exact h (.ref q) _ (Ex.new nq) (.lst (.inl ⟨.inl awU,k.fresh nq⟩) ((Gv h2 hy).ex (Ex.new nq) k))
   .left
    .next ps hp=>
     have e:=acd hp;subst e;refine⟨l,us,ps.map pD,rfl,h1,h2.dp (n:=12) (Tz 11 ps),awE (λa b=>by simp[pD,PySem.W.alike,PySem.W.alikeAll]),PySem.W.Sortable.tuples (λb=>⟨_,_,rfl⟩),λd hd=>by
      let⟨i,_,rfl⟩:=avM.mp hd
      simp[pD,PyData.depth,PyData.depthAll],λys q hy nq=>?_⟩
     have hs:=Ho (enc:=pD) (le:=OJ) (λa b=>congrFun (congrFun (PySem.W.dataLe_ii (λp:Int×Int=>p.1) (λp:Int×Int=>p.2)) a) b) ps;rw[hs]at hy;exact h (.ref q) _ (Ex.new nq) (.lst (.inl ⟨.inl awU,k.fresh nq⟩) ((Gv h2 hy).ex (Ex.new nq) k))
    .exact awN h
 .exact awN h
def aj8(hu:X.A.units+65<cLine)(hg:Gl X "sorted")(hm:X.mg "sorted"=none)(ha:QW aj X W a fa)(hs:nst a=true):QE aj X W (.Call (.Name "sorted" p) [a] [] pos) (eZ vA fa):=
 ajF (.inl rfl) (Ear.ae2 hu) aky hg hm ⟨#[[]],#[()],#[()]⟩ ha hs
theorem KQ{K:avC}{g:Gh}{H:Hp}:∀{vs:List V} {l:List Int},DpAll K H vs (l.map PyData.int)->aA K g H vs (l.map PyData.int)
 |_,[],.nil=>.nil
 |_,_::_,.cons (.int i) t=>.cons (.int i) (KQ t)
def agM{K:avC}{g:Gh}{H:Hp}{v:V}{r:Ear.Rw}(h:Ear.yZ K H v r):Rep K g H v (Ear.rD r):=by
 unfold Ear.yZ Ear.rD at h;cases h with
 |tup h1 t1=>
  cases t1 with
  |cons a1 t1=>
   cases a1;cases t1 with
   |cons a2 t2=>
    cases t2;cases a2 with
    |tup h2 t3=>exact .tup h1 (.cons (.int _) (.cons (.tup h2 (KQ t3)) .nil))
theorem ZM{K:avC}{g:Gh}{H:Hp}:∀{vs:List V} {R:List Ear.Rw},aA K g H vs (R.map Ear.rD)->Ear.fU (Ear.yZ K H) vs R
 |_,[],.nil=>⟨rfl,λi v x a b=>by simp at a⟩
 |_,r::R,.cons h t=>by
  have ih:=ZM t;refine⟨congrArg (· + 1) ih.1,λi v x a b=>?_⟩;cases i with
  |zero=>
   simp at a b;subst a b;exact h.dp (n:=12) (Pa 10 _)
  |succ i=>exact ih.2 i v x (by simpa using a) (by simpa using b)
theorem Yv{K:avC}{g:Gh}{H:Hp}:∀{vs:List V} {R:List Ear.Rw},Ear.fU (Ear.yZ K H) vs R->aA K g H vs (R.map Ear.rD)
 |[],[],_=>.nil
 |[],_::_,h=>nomatch h.1
 |_::_,[],h=>nomatch h.1
 |v::vs,r::R,h=>.cons (agM (h.2 0 v r rfl rfl)) (Yv ⟨awL h.1,λi v x a b=>h.2 (i+1) v x a b⟩)
def akZ(hu:X.A.units+65<cLine)(hc:X.calm=true)(hg:Gl X "sorted")(hm:X.mg "sorted"=none)(hg2:Gl X "set")(hm2:X.mg "set"=none)(ha:QW aj X W a fa)(hs:nst a=true):QE aj X W (.Call (.Name "sorted" p) [.Call (.Name "set" p2) [a] [] pos2] [] pos) (eZ U9 fa):=by
 have h0:=pa_cons ha pa_nil (bH hs []);have h1:PE X (.Call (.Name "set" p2) [a] [] pos2) _:=pe_callTy (Ear.acN hu hc) hg2 hm2 #[[]] h0 #[()] #[()] (bH hs []) #[rfl]
 have h2:=pa_cons h1 pa_nil (bH rfl []);refine PE.weak (pe_callB (p:=p) (pos:=pos) (Ear.aeJ hu hc) hg hm #[[]] h2 #[()] #[()] (bH rfl []) #[rfl]) λσ H Q ⟨g,Z,M,I,h⟩=>?_;refine tW.go I h.bnd λd v H1 h1 e1 r1=>?_;have I1:=I.ex e1;unfold U9 at h1;split at h1
 .next ds=>
  split at h1
  .next R hR=>
   split at h1
   .next hd=>
    have e:=Ue hR;subst e;let⟨l,us,rfl,s1,s2⟩:=fX r1
    unfold Ear.OD;refine⟨l,us,R,R.eraseDups,rfl,s1,ZM s2,awP hd,λr hr=>Dh.mpr hr,λq L nq hL nd mem few=>?_⟩;have eq:Ex H1 (upd H1 q (Ear.Rg X.w q L)):=Ex.new nq;unfold Ear.Uc;refine⟨q,L,rfl,awU,λe he=>?_,nd,few,λys S z hy up ms nz=>?_⟩
    .exact(Rep.ex eq I1.kd (agM (g:=g) (hL e he))).dp (n:=12) (Pa 10 _)
    .have hS:S=bA R:=Ear.ahz up (S7 R) λr=>by rw[ms,mem,lX]
     subst hS;have I2:=I1.ex eq;exact h1 (.ref z) _ ((e1.trans eq).trans (Ex.new nz)) (.lst (.inl ⟨.inl awU,I2.kd.fresh nz⟩) ((Yv hy).ex (Ex.new nz) I2.kd))
   .exact awN h1
  .exact awN h1
 .exact awN h1
def alH(it:IF)(tg:dU)(vs:List Nat)(tt:QT)(te:QF):QF:=λM Z=>(Cu it tg vs tt te M Z).bind λds=>match intsOf ds with
 |some l=>Out.when (decide (l.length<=4000)) (.ok (.list ((ajJ l).map PyData.int)))
 |none=>.bad
end
def BX(Z:Env):Bool:=Z.all λo=>match o with
 |some (.mut _)=>false
 |_=>true
def acu{Z:Env}(h:BX Z=true){i:Nat}{xs:List Dat}:Z[i]?≠some (some (.mut xs)):=λz=>by
 have:=av1.mp h _ (avK z);cases this
theorem SInv.loc{K:avC}{aj:aK}{σ:L2.St}{H:Hp}{g:Gh}{Z:Env}{M:Mo}{D:Addr}{us us':List V}(I:SInv K aj σ H g Z M)(n:BX Z=true)(hD:H D=some (.lst us))(lo:g.Lo D):SInv K aj σ (upd H D (.lst us')) g Z M where
 kd:=I.kd.upd awM
 wok:=I.wok.loc I.kd hD lo
 len:=I.len
 dat:=λi d h=>by
  let⟨v,h1,h2⟩:=I.dat i d h
  exact⟨v,h1,akY I.kd hD lo h2⟩
 own:=λi xs h=>absurd h (acu n)
 sep:=λi j xs ys l ne h1=>absurd h1 (acu n)
def iU(tg:dU)(tt:QT)(it1:IF)(tg1:dU)(vs1:List Nat)(tt1:QT)(te:QF)(M:Mo)(Z:Env):List Dat->Out (List Dat)
 |[]=>.ok []
 |d::ds=>match tg d Z with
  |none=>.bad
  |some Z1=>(Af (tt M Z1)).bind λb=>if b=true then Out.when (BX Z1) ((Af (it1 M Z1)).bind λes=>(dR tg1 tt1 te M (bQ Z1 vs1) es).bind λr1=>(iU tg tt it1 tg1 vs1 tt1 te M Z ds).bind λr=>.ok (r1++r)) else iU tg tt it1 tg1 vs1 tt1 te M Z ds
def aer(it:IF)(tg:dU)(vs:List Nat)(tt:QT)(it1:IF)(tg1:dU)(vs1:List Nat)(tt1:QT)(te:QF):IF:=λM Z=>(it M Z).bind λds=>(iU tg tt it1 tg1 vs1 tt1 te M (bQ Z vs) ds).bind λr=>Out.when (decide (r.length<=50000)) (.ok r)
def Fj(it:IF)(tg:dU)(vs:List Nat)(tt:QT)(it1:IF)(tg1:dU)(vs1:List Nat)(tt1:QT)(te:QF):QF:=λM Z=>(aer it tg vs tt it1 tg1 vs1 tt1 te M Z).bind λr=>.ok (.list r)
theorem zq{tg tg1:dU}{tt tt1:QT}{te:QF}{it1:IF}{vs1:List Nat}{M:Mo}{Z:Env}:∀{ds:List Dat} {x:dX},iU tg tt it1 tg1 vs1 tt1 te M Z ds≠.exc x
 |[],_,h=>nomatch h
 |d::ds,x,h=>by
  rw[iU]at h;left
  .cases h
  .next Z1 e=>
   cases h1:tt M Z1 with
   |bad=>rw[h1]at h;cases h
   |exc y=>rw[h1]at h;cases h
   |ok b=>
    rw[h1]at h;cases b with
    |false=>exact zq (ds:=ds) (x:=x) h
    |true=>
     cases hn:BX Z1 with
     |false=>rw[hn]at h;cases h
     |true=>
      rw[hn]at h;cases h2:it1 M Z1 with
      |bad=>rw[h2]at h;cases h
      |exc y=>rw[h2]at h;cases h
      |ok es=>
       rw[h2]at h;have h:((dR tg1 tt1 te M (bQ Z1 vs1) es).bind λr1=>(iU tg tt it1 tg1 vs1 tt1 te M Z ds).bind λr=>Out.ok (r1++r))=.exc x:=h;cases h3:dR tg1 tt1 te M (bQ Z1 vs1) es with
       |bad=>rw[h3]at h;cases h
       |exc y=>exact absurd h3 uQ
       |ok r1=>
        rw[h3]at h;have h:((iU tg tt it1 tg1 vs1 tt1 te M Z ds).bind λr=>Out.ok (r1++r))=.exc x:=h;cases h4:iU tg tt it1 tg1 vs1 tt1 te M Z ds with
        |bad=>rw[h4]at h;cases h
        |exc y=>exact absurd h4 zq
        |ok r=>rw[h4]at h;cases h
section
variable{K:avC}{aj:aK}{W:WX}
def aj9{it it1:IF}{tg tg1:dU}{js vs js1 vs1:List Nat}{tt tt1:QT}{te:QF}(hj:∀j∈js,j∈vs)(hj1:∀j∈js1,j∈vs1)(σ:L2.St)(H:Hp)(Q:VK)(h:tFr K aj W (aer it tg vs tt it1 tg1 vs1 tt1 te) σ H Q) :
  tLc2 (tI K aj W false it) (zp K aj js tg) (j7 K aj WF tt) (tI K aj WF true it1) (zp K aj js1 tg1) (j7 K aj WF tt1) (tQ K aj WF te) vs vs1 σ H Q:=by
 let⟨g,Z,M,I,h⟩:=h
 refine⟨g,Z,M,I,h.bnd.mono (λds hk J C H1 e1 w c _ D nD=>?_) λ_ z=>z⟩;obtain⟨total,htot,hlen,hQ⟩:∃total,iU tg tt it1 tg1 vs1 tt1 te M (bQ Z vs) ds=.ok total/\total.length<=50000/\∀l us H',H l=none->Ex H H'->H' l=some (.lst us)->aA K (g.add l) H' us total->Q (.ref l) H':=by
  cases hc:iU tg tt it1 tg1 vs1 tt1 te M (bQ Z vs) ds with
  |bad=>rw[hc]at hk;exact awN hk
  |exc x=>exact absurd hc zq
  |ok total=>
   rw[hc]at hk;let⟨hz,hk⟩:=Out.sat.kJ hk
   exact⟨total,rfl,awP hz,hk⟩
 have I1:=(I.ex e1).wipe vs;have kD:∀{Ha:Hp} {us:List V},Ex H1 Ha->Ha D=some (.lst us)->SInv K aj (L2.wipe σ vs) Ha (g.add D) (bQ Z vs) M:=λea hu=>I1.add nD ea hu awM;have lD:(g.add D).Lo D:=.inr rfl
 let Pv:Nat->Hp->Prop:=λi Ha=>Ex H1 Ha/\i<=ds.length/\∃us ys,Ha D=some (.lst us)/\aA K (g.add D) Ha us ys/\(iU tg tt it1 tg1 vs1 tt1 te M (bQ Z vs) (ds.drop i)).sat (λr=>total=ys++r) λ_=>False
 refine⟨λi m Ha=>m=ds.length-i/\Pv i Ha,⟨ds.length,rfl,Ex.new nD,awg _,[],[],awU,.nil,?_⟩,?_⟩
 .rw[awC,htot];rfl
 .rintro i m Ha ⟨rfl,ea,hi,us,ys,hu,hU,hs⟩;have Ia:=kD ea hu;have Ca:=w.add g (g.add D) H1 Ha (I.kd.ex e1) c (Gh.Cy nD ea) ea;by_cases hlt:i<ds.length
  .refine .inr ⟨w.go _ i Ha Ca hlt,Pv (i+1),λH' p=>⟨ds.length-(i+1),#[],rfl,p⟩,λx H' y=>?_⟩;have hd:ds[i]?=some ds[i]:=avE hlt;let⟨e2,rx⟩:=w.yld _ i Ha x H' _ Ia.kd Ca hd y
   have I2:=Ia.ex e2;rw[awi hlt,iU]at hs;split at hs
   .exact awN hs
   .next Z1 he=>
    refine⟨g.add D,_,M,_,Z1,I2,rx,he,λws I3=>⟨yH js ws _ vs hj |>.trans (CV σ vs),?_⟩⟩;refine j7.go I3 (Fd hs.bnd) λb H3 hb e3=>?_;have I4:=I3.ex e3;have hu3:=e3 _ _ (e2 _ _ hu);have hU3:=(hU.ex e2 Ia.kd).ex e3 I2.kd;cases b with
    |false=>
     have hb:(iU tg tt it1 tg1 vs1 tt1 te M (bQ Z vs) (ds.drop (i+1))).sat (λr=>total=ys++r) λ_=>False:=hb;exact⟨(ea.trans e2).trans e3,hlt,us,ys,hu3,hU3,hb⟩
    |true=>
     have hb:(Out.when (BX Z1) ((Af (it1 M Z1)).bind λes=>(dR tg1 tt1 te M (bQ Z1 vs1) es).bind λr1=>(iU tg tt it1 tg1 vs1 tt1 te M (bQ Z vs) (ds.drop (i+1))).bind λr=>Out.ok (r1++r))).sat (λr=>total=ys++r) λ_=>False:=hb;let⟨nm,hb⟩:=hb.kJ
     refine⟨g.add D,Z1,M,I4,(Fd (E':=sH K aj WF (g.add D) H3 _) hb.bnd).mono (λes hk1 J1 C1 H4 e4 w1 c1 fm=>?_) λ_ z=>z⟩;have fm:=fm rfl
     -- all that is added by this walk
     obtain⟨r1,r2,hr1,hr2,ht⟩:∃r1 r2,dR tg1 tt1 te M (bQ Z1 vs1) es=.ok r1/\iU tg tt it1 tg1 vs1 tt1 te M (bQ Z vs) (ds.drop (i+1))=.ok r2/\total=ys++(r1++r2):=by
      cases q1:dR tg1 tt1 te M (bQ Z1 vs1) es with
      |bad=>rw[q1]at hk1;exact awN hk1
      |exc y=>exact absurd q1 uQ
      |ok r1=>
       rw[q1]at hk1;have hk1:((iU tg tt it1 tg1 vs1 tt1 te M (bQ Z vs) (ds.drop (i+1))).bind λr=>Out.ok (r1++r)).sat (λr=>total=ys++r) λ_=>False:=hk1;cases q2:iU tg tt it1 tg1 vs1 tt1 te M (bQ Z vs) (ds.drop (i+1)) with
       |bad=>rw[q2]at hk1;exact awN hk1
       |exc y=>exact absurd q2 zq
       |ok r2=>
        rw[q2]at hk1;exact⟨r1,r2,rfl,rfl,hk1⟩
     let P1:Nat->Hp->Prop:=λj Hb=>Ex H1 Hb/\SInv K aj (sets (L2.wipe σ vs) js ws) Hb (g.add D) Z1 M/\C1 (g.add D) Hb/\j<=es.length/\∃us' zs,Hb D=some (.lst us')/\aA K (g.add D) Hb us' (ys++zs)/\(dR tg1 tt1 te M (bQ Z1 vs1) (es.drop j)).sat (λr=>r1=zs++r) λ_=>False
     refine⟨λj m Hb=>m=es.length-j/\P1 j Hb,⟨es.length,rfl,((ea.trans e2).trans e3).trans e4,I4.ex e4,c1,awg _,us,[],e4 _ _ hu3,by rw[awn];exact hU3.ex e4 I4.kd,?_⟩,?_⟩
     .rw[awC,hr1];rfl
     .rintro j m Hb ⟨rfl,fb,Ib,Cb,hjl,us',zs,hub,hUb,hsb⟩;by_cases hlj:j<es.length
      .refine .inr ⟨w1.go _ j Hb Cb hlj,P1 (j+1),λH' p=>⟨es.length-(j+1),#[],rfl,p⟩,λx H' y=>?_⟩;have hdj:es[j]?=some es[j]:=avE hlj;let⟨f2,rx⟩:=w1.yld _ j Hb x H' _ Ib.kd Cb hdj y
       have J2:=(Ib.ex f2).wipe vs1;rw[awi hlj,dR]at hsb;split at hsb
       .exact awN hsb
       .next Z2 he1=>
        refine⟨g.add D,_,M,_,Z2,J2,rx,he1,λws1 J3=>⟨yH js1 ws1 _ vs1 hj1 |>.trans (CV _ vs1),?_⟩⟩;refine j7.go J3 (Fd hsb.bnd) λb H6 hb6 e6=>?_;have f26:=f2.trans e6;have hu6:=f26 _ _ hub;have hU6:=hUb.ex f26 Ib.kd;cases b with
        |false=>
         have hb6:(dR tg1 tt1 te M (bQ Z1 vs1) (es.drop (j+1))).sat (λr=>r1=zs++r) λ_=>False:=hb6;exact⟨fb.trans f26,Ib.ex f26,w1.ex _ _ _ Ib.kd Cb f26,hlj,us',zs,hu6,hU6,hb6⟩
        |true=>
         have hb6:((Af (te M Z2)).bind λy=>(dR tg1 tt1 te M (bQ Z1 vs1) (es.drop (j+1))).bind λr=>Out.ok (y::r)).sat (λr=>r1=zs++r) λ_=>False:=hb6;refine tQ.go (J3.ex e6) (Fd hb6.bnd) λy v H7 hyv e7 ry=>?_;have f27:=f26.trans e7;have Ib7:=Ib.ex f27;have hu7:=f27 _ _ hub;have hU7:=hUb.ex f27 Ib.kd;have hyv:=hyv.bnd;have hr:∃r,dR tg1 tt1 te M (bQ Z1 vs1) (es.drop (j+1))=.ok r/\r1=zs++y::r:=by
          cases q1:dR tg1 tt1 te M (bQ Z1 vs1) (es.drop (j+1)) with
          |bad=>rw[q1]at hyv;exact awN hyv
          |exc y=>exact absurd q1 uQ
          |ok r=>
           rw[q1]at hyv;exact⟨r,rfl,hyv⟩
         let⟨r,hr,hr1'⟩:=hr
         have hll:us'.length<50000:=by
          rw[hUb.length];rw[ht,hr1']at hlen;simp at hlen |-
          omega
         refine⟨us',hu7,sz_lt (Nat.lt_trans hll #[()]),Ex.mut (fb.trans f27) nD,Ib7.loc nm hu7 lD,fm true _ _ _ _ Ib7.kd (w1.ex _ _ _ Ib.kd Cb f27) (Gr.upd Ib7.kd hu7 (.inr lD)),hlj,us'++[v],zs++[y],awU,?_,?_⟩
         .rw[<-List.append_assoc];exact Ud Ib7.kd hu7 lD (hU7.append (.cons ry .nil))
         .rw[hr];show r1=_;rw[hr1'];simp
      .have e:j=es.length:=#[];refine .inl ⟨w1.stop _ j Hb Cb e,?_⟩;rw[e,awo]at hsb;have hsb:r1=zs++[]:=hsb;rw[awn]at hsb;subst hsb;refine⟨fb,hlt,us',ys++r1,hub,hUb,?_⟩;rw[hr2];show total=_;rw[ht,List.append_assoc]
  .have e:i=ds.length:=#[];refine .inl ⟨w.stop _ i Ha Ca e,?_⟩;rw[e,awo]at hs;have hs:total=ys++[]:=hs;rw[awn]at hs;subst hs;exact hQ D us Ha (GD e1 D nD) (e1.trans ea) hu hU
def ag1{it it1:IF}{tg tg1:dU}{js vs js1 vs1:List Nat}{tt tt1:QT}{te:QF}(hj:∀j∈js,j∈vs)(hj1:∀j∈js1,j∈vs1)(σ:L2.St)(H:Hp)(Q:VK)(h:tQ K aj W (Fj it tg vs tt it1 tg1 vs1 tt1 te) σ H Q) :
  tLc2 (tI K aj W false it) (zp K aj js tg) (j7 K aj WF tt) (tI K aj WF true it1) (zp K aj js1 tg1) (j7 K aj WF tt1) (tQ K aj WF te) vs vs1 σ H Q:=by
 let⟨g,Z,M,I,h⟩:=h
 refine aj9 hj hj1 σ H Q ⟨g,Z,M,I,h.bnd.mono (λxs hk l us H' nl e hl r=>?_) λ_ z=>z⟩;refine hk (.ref l) H' e (.lst (.inl ⟨.inl hl,λz=>?_⟩) (aA.less (g:=g.add l) (g':=g) rfl (λa z=>?_) r))
 .exact I.kd.fresh nl z
 .rcases z with z|z|z
  .exact .inl z
  .exact .inr (.inl z)
  .exact .inr (.inr (.inl z))
end
section
variable{X:Cx}{aj:aK}{W:WX}{q:Bool}{elt tg iter tg1 iter1:Expr}{ifs ifs1:List Expr}{scope:Scope}{own:LsS Nat}{it it1:IF}{tgf tgf1:dU}{js js1 vs1:List Nat}{tt tt1:QT}{te:QF}{pos cpos:Pos}
def aoR(hc:X.calm=true)(hN:X.N.Nodup)(hi:QI aj X W false tg iter it)(ok:blkC X.N X.env.scope scope own=true)(hv:∀i∈vs1,i∈own.map (·.2))(hj:∀j∈js,j∈own.map (·.2))(hj1:∀j∈js1,j∈vs1)
  (hg:∀s H C cl fp,QG aj #[[[]]] tg js tgf)
  (ht:∀s H C cl fp,PTs #[[[]]] ifs (j7 X.K aj WF tt))
  (hi1:∀s H C cl fp,QI aj #[[[]]] WF true tg1 iter1 it1)
  (hg1:∀s H C cl fp,QG aj #[[[]]] tg1 js1 tgf1)
  (ht1:∀s H C cl fp,PTs #[[[]]] ifs1 (j7 X.K aj WF tt1))
  (he:∀s H C cl fp,QE aj #[[[]]] WF elt te) (hs:∀x,foldedSetIterable iter X.env x=pure x) (hs1:∀env x,foldedSetIterable iter1 env x=pure x) :
  QE aj X W (.ListComp elt [⟨tg,iter,ifs,0⟩,⟨tg1,iter1,ifs1,0⟩] scope pos) (Fj it tgf (own.map (·.2)) tt it1 tgf1 vs1 tt1 te):=
 PE.weak (pe_lc2 (g:=zp X.K aj js tgf) (tt:=j7 X.K aj WF tt) (wi1:=tI X.K aj WF true it1) (g1:=zp X.K aj js1 tgf1) (tt1:=j7 X.K aj WF tt1) (te:=tQ X.K aj WF te) hc hN hi (blkOk_by ok) hv (λs H C cl fp=>hg s H C cl fp) ht (λs H C cl fp=>hi1 s H C cl fp) (λs H C cl fp=>hg1 s H C cl fp) ht1 (λs H C cl fp=>he s H C cl fp) hs hs1) λσ H Q h=>ag1 hj hj1 σ H Q h
def ak8{j:Nat}{y:Str}{py:Pos}(hc:X.calm=true)(hN:X.N.Nodup)(hy:X.N[j]?=some y)(hyl:X.env.scope.names.lookup y=some .local)(hsw:swapsWith (.ListComp elt [⟨tg,iter,ifs,0⟩,⟨tg1,iter1,ifs1,0⟩] scope cpos) (some (.Name y py)) pos.line X.env=pure true)
  (hi:QI aj X W false tg iter it) (ok:blkC X.N X.env.scope scope own=true) (hv:∀i∈vs1,i∈own.map (·.2)) (hj:∀j∈js,j∈own.map (·.2)) (hj1:∀j∈js1,j∈vs1)
  (hg:∀s H C cl fp,QG aj #[[[]]] tg js tgf)
  (ht:∀s H C cl fp,PTs #[[[]]] ifs (j7 X.K aj WF tt))
  (hi1:∀s H C cl fp,QI aj #[[[]]] WF true tg1 iter1 it1)
  (hg1:∀s H C cl fp,QG aj #[[[]]] tg1 js1 tgf1)
  (ht1:∀s H C cl fp,PTs #[[[]]] ifs1 (j7 X.K aj WF tt1))
  (he:∀s H C cl fp,QE aj #[[[]]] WF elt te) (hs:∀x,foldedSetIterable iter X.env x=pure x) (hs1:∀env x,foldedSetIterable iter1 env x=pure x) :
  SE aj X W q (.Assign [.Name y py] (.ListComp elt [⟨tg,iter,ifs,0⟩,⟨tg1,iter1,ifs1,0⟩] scope cpos) pos) (aU (ao j) (gOf (Fj it tgf (own.map (·.2)) tt it1 tgf1 vs1 tt1 te))):=by
 refine PS.weak (ps_setLc2 (g:=zp X.K aj js tgf) (tt:=j7 X.K aj WF tt) (wi1:=tI X.K aj WF true it1) (g1:=zp X.K aj js1 tgf1) (tt1:=j7 X.K aj WF tt1) (te:=tQ X.K aj WF te) hc hN hy hyl hsw hi (blkOk_by ok) hv (λs H C cl fp=>hg s H C cl fp) ht (λs H C cl fp=>hi1 s H C cl fp) (λs H C cl fp=>hg1 s H C cl fp) ht1 (λs H C cl fp=>he s H C cl fp) hs hs1) λD σ H ⟨g,Z,M,I,z⟩=>?_;refine ag1 hj hj1 σ H _ ⟨g,Z,M,I,(Out.jx (dB (σ:=σ) z)).mono (λd kk v H' e r=>?_) λx kk H' c dd e r=>kk H' g c dd (Gr.ex e) (I.ex e) r⟩;exact kk _ H' g (Gr.ex e) ((I.ex e).set r)
end
def Xr(neg:Bool)(kvs:LsS Dat)(k:QF):QF:=λM Z=>(k M Z).bind λd=>match d with
 |.str x=>.ok (.bool (neg ^^ (kvs.lookup x).isSome))
 |_=>.bad
def aez(kvs:LsS Dat)(k:QF):QF:=λM Z=>(k M Z).bind λd=>match d with
 |.str x=>match kvs.lookup x with
  |some y=>.ok y
  |none=>.bad
 |_=>.bad
section
variable{X:Cx}{aj:aK}{W:WX}{a:Expr}{fa:QF}{x:Str}{p pos:Pos}{kvs:LsS Dat}{k:Nat}
def ahd{neg:Bool}{d:Addr}(D:afa X.w X.K d kvs)(σ:L2.St)(H:Hp)(Q:VK)(h:tQ X.K aj W (Xr neg kvs fa) σ H Q) :
  tOp (λx y H Q=>∃(z:Str) (r:Option Value),x=.str z/\y=.ref d/\PySem.W.nsIn X.K d z=some r/\Q (.bl (neg ^^ r.isSome)) H) (tW X.K aj W fa) (tC (.ref d)) σ H Q:=by
 let⟨g,Z,M,I,h⟩:=h
 refine tW.go I h.bnd λe v H1 h1 e1 r1=>?_;split at h1
 .next z=>
  cases fW r1;let⟨es,n,_,_,hl⟩:=D
  have hz:=hl z;cases hk:kvs.lookup z with
  |none=>
   rw[hk]at hz h1;exact⟨z,none,rfl,rfl,hz,h1 _ H1 e1 (.bl _)⟩
  |some d'=>
   rw[hk]at hz h1;let⟨v,u,h2,_⟩:=hz
   exact⟨z,some u,rfl,rfl,h2,h1 _ H1 e1 (.bl _)⟩
 .exact awN h1
def opG{neg:Bool}{op:CmpOp}{d:Addr}(_:Room k X.A)(hn:(op=.In/\neg=false)\/(op=.NotIn/\neg=true))(D:afa X.w X.K d kvs):OpR X (compareOp op) (λx y H Q=>∃(z:Str) (r:Option Value),x=.str z/\y=.ref d/\PySem.W.nsIn X.K d z=some r/\Q (.bl (neg ^^ r.isSome)) H):=by
 let⟨es,n,D,_⟩:=D
 rcases hn with⟨rfl,rfl⟩|⟨rfl,rfl⟩
 .have:=op_in_kd (X:=X) D;simpa only[Bool.false_xor] using this
 .have:=op_notIn_kd (X:=X) D;simpa only[Bool.true_xor] using this
def anv{neg:Bool}{op:CmpOp}(hr:Room k X.A)(hn:(op=.In/\neg=false)\/(op=.NotIn/\neg=true))(g:oU X.prog X.w X.K X.mg X.base aj k x (.dic kvs))(hg:Gl X x)(hd:(x==("__debug__" : Str))=false)(ha:QW aj X W a fa):QE aj X W (.Compare a [op] [.Name x p] pos) (Xr neg kvs fa)/\vo aj X W (.Compare a [op] [.Name x p] pos) (cV (Xr neg kvs fa)):=by
 let⟨d,hm,D⟩:=g
 have hb:PE X (.Name x p) (tC (.ref d)):=pe_glob hg hm rfl hd;refine⟨PE.weak (pe_cmpR (opG hr hn D) ha hb (by cases op<;>rfl)) λσ H Q h=>ahd D σ H Q h,PT.weak (pt_cmpR (opG hr hn D) ha hb (by cases op<;>rfl)) λσ H Q ⟨g,Z,M,I,h⟩=>?_⟩;refine ahd D σ H _ ⟨g,Z,M,I,h.bnd.mono (λd h1 v H' e' r'=>?_) λ_ z=>z⟩;let⟨k,h2,h3⟩:=Hf r'.weak h1
 exact⟨k,h2,h3 H' e'⟩
def aof(g:oU X.prog X.w X.K X.mg X.base aj k x (.dic kvs))(hg:Gl X x)(hd:(x==("__debug__" : Str))=false)(ha:QW aj X W a fa)(hp:PlainIx a):QE aj X W (.Subscript (.Name x p) a pos) (aez kvs fa):=by
 let⟨d,hm,es,n,D,_,hl⟩:=g
 have hb:PE X (.Name x p) (tC (.ref d)):=pe_glob hg hm rfl hd;refine PE.weak (pe_ix ix_kdict hb ha hp) λσ H Q ⟨g,Z,M,I,h⟩=>?_;refine tW.go I h.bnd λe v H1 h1 e1 r1=>?_;split at h1
 .next z=>
  cases fW r1;have hz:=hl z;split at h1
  .next y hk=>
   rw[hk]at hz;let⟨v,u,h2,h3,h4⟩:=hz
   exact⟨d,z,v,rfl,rfl,⟨es,n,u,D.at_,D.lit,h2,h3⟩,h1 v H1 e1 (h4 g H1)⟩
  .exact awN h1
 .exact awN h1
end
section
variable{prog:Program}{w:World}{A:Around}{E:Value->Shared->Prop}{s:Shared}
def acR{l:Addr}{o:Obj}{es:List fG}{ds:List PyData}{Q:Value->Shared->Prop}(n:jK w l o es)(hh:A.handled=none)(hl:s.heap.get? l=some o)
  (er:PySem.W.EachIs (λv d=>∃as,Reads s.heap v d as) (es.map λe=>Value.ref e.2.1) ds) (hal:PySem.W.AllAlike ds) (hk:PySem.W.Sortable ds) (hu:∀d,d∈ds->A.units+2+d.depth<cLine) {R:Value->PyData->Prop} (e:PySem.W.EachIs R (es.map λe=>Value.ref e.2.1) ds)
  (h:∀(h1 h2:Heap) (tk:Nat) (out:List Value) (n:Nat),(∀b ob,s.heap.get? b=some ob->h1.get? b=some ob)->(∀b ob,h1.get? b=some ob->h2.get? b=some ob)->h2.get? h1.objs.size=some (seqObj "list" out.toArray n)->out.length=ds.length->
   PySem.W.EachIs R out (ds.mergeSort (PySem.W.dataLe false id))->Q (.ref h1.objs.size) { s with heap:=h2,toks:=tk }) :
  wpAny (model prog w) A (call (.builtin "sorted") [.ref l]) Q E s:=by
 refine call_function_entry_kw kind_sorted plain_sorted entry_sorted (args_sorted1 _) ?_;unfold Builtin.«sorted»;refine awQ (m:=checkCount "sorted" 1 1 _) (awR ?_)
 refine awQ (PySem.W.kdu_collect (A:=A.in1) (adg n) hh hl n.len λh' tk acc keep hacc=>?_);have el:acc.toList.length=es.length:=by rw[awd];exact hacc.1
 have ea:acc.toList=es.map λe=>Value.ref e.2.1:=by
  refine List.ext_getElem (by rw[el,avN]) λj h1 h2=>?_;let⟨e,he,hv⟩:=hacc.2 j acc.toList[j] (by rw[<-awj];exact avE h1)
  rw[hv,List.getElem_map];have hj:j<es.length:=by rw[<-el];exact h1
  rw[avE hj]at he;cases he;rfl
 rw[ea];have hL:(es.map λe=>Value.ref e.2.1).length<=sizeLine:=by rw[avN];exact n.len
 generalize (es.map λe=>Value.ref e.2.1)=vs at er e hL;refine awQ (wpAny_newList ?_ hL);have hoL:(h'.push (seqObj "list" vs.toArray 0)).get? h'.objs.size=some (seqObj "list" vs.toArray 0):=Heap.get?_push_size _ rfl
 have old:∀b ob,h'.get? b=some ob->(h'.push (seqObj "list" vs.toArray 0)).get? b=some ob:=λb ob z=>Heap.get?_push_of_some _ z
 show wpAny _ _ _ _ _ { s with heap:=h'.push (seqObj "list" vs.toArray 0),toks:=tk }
 have er':PySem.W.EachIs (λv d=>∃as,Reads (PySem.W.sortingHeap (h'.push (seqObj "list" vs.toArray 0)) h'.objs.size vs) v (id d) as) vs ds:=er.mono λ_ _ ⟨as,r⟩=>⟨as,PyProof.Rows.Reads.keeps (λb ob z=>PySem.W.sortingHeap_old (awb (Heap.lt_size (keep b ob z))) (old b ob (keep b ob z))) r⟩
 have S:=PySem.W.SortsAt.data (prog:=prog) (w:=w) (A:=A.in1.in1) (s:={ s with heap:=PySem.W.sortingHeap (h'.push (seqObj "list" vs.toArray 0)) h'.objs.size vs,toks:=tk }) er' hal hk hu
 have hv:=PySem.W.sortVals_data (enc:=id) false e er' (by rw[List.map_id];exact hal);rw[List.map_id]at hv;have hlen:=PySem.W.sortVals_length (κ:=PySem.W.dataKind (PySem.W.sortingHeap (h'.push (seqObj "list" vs.toArray 0)) h'.objs.size vs) ds) false (ks:=vs) (vs:=vs) rfl
 let⟨n1,at1⟩:=sortedHeap_at (out:=(PySem.W.sortVals (PySem.W.dataKind (PySem.W.sortingHeap (h'.push (seqObj "list" vs.toArray 0)) h'.objs.size vs) ds) false vs vs).toArray) hoL
 have fin:=h h' _ tk _ n1 keep (λb ob z=>by
  rw[sortedHeap_old (awb (Heap.lt_size z)) (Heap.lt_size (old b ob z))];exact old b ob z) at1 (by rw[hlen];exact e.length) hv
 refine awQ (wpAny_holding (wpAny_call_entry_kw slot_list_sort ⟨_,hoL,rfl⟩ entry_list_sort ?body (args_list_sort _)))
 case body=>
  show wpAny (model prog w) A.in1.in1 (Builtin.«list.sort» ⟨[.ref h'.objs.size],[]⟩) _ _ _;exact PySem.W.list_sort_vals (s:={ s with heap:=h'.push (seqObj "list" vs.toArray 0),toks:=tk }) hoL S hL ⟨_,rfl,awR ⟨_,rfl,fin⟩⟩
end
def ang(X:Cx):List V->Hp->VK->Prop:=λvs H Q=>∃(l:Addr) (o:Obj) (es:List fG) (ds:List PyData),vs=[V.ref l]/\H l=some (fL l o)/\jK X.w l o es/\DpAll X.K H (es.map λe=>V.ref e.2.1) ds/\PySem.W.AllAlike ds/\PySem.W.Sortable ds/\(∀d∈ds,d.depth<=60)/\
 ∀(ys:List V) (p:Addr),Ear.fU (Ear.aeG (es.map λe=>V.ref e.2.1) ds) ys (ds.mergeSort (PySem.W.dataLe false id))->H p=none->Q (.ref p) (upd H p (.lst ys))
def vals_refs(es:List fG):Vals (es.map λe=>V.ref e.2.1) (es.map λe=>Value.ref e.2.1):=by
 induction es with
 |nil=>exact .nil
 |cons e es ih=>exact .cons rfl ih
def afv{X:Cx}(hu:X.A.units+65<cLine)(hc:X.calm=true):CallR X (.builtin "sorted") (ang X):=by
 intro pins s σ H vs us Q I r h;let⟨l,o,es,ds,rfl,hl,n,hd,hal,hk,hz,q⟩:=h
 let⟨u,rfl,ru⟩:=vals1 r
 obtain rfl:u=Value.ref l:=ru
 have rv:=vals_refs es;let⟨as,hr⟩:=Dp.readsAll I ds _ _ hd rv
 have er:PySem.W.EachIs (λv d=>∃as,Reads s.heap v (id d) as) (es.map λe=>Value.ref e.2.1) ds:=PySem.W.readsAll_each id (by rw[List.map_id];exact hr);have hn:=SeqAt.ReadsAll.length ds _ as hr;refine acR n (I.ok.hd hc) (pin_at I hl) er hal hk (λd m=>?_) (Ear.TQ _ ds _ _ rv er) λh1 h2 tk out nn k1 k2 at2 hlen hout=>?_
 .have:=hz d m;omega
 .let⟨ys,v1,v2⟩:=Ear.O6 out _ hout
  have hy:ys.length=ds.length:=by rw[v2.1,List.length_mergeSort]
  have hlen2:ds.length=es.length:=by rw[<-hn,avN]
  have I1:L2.Inv X pins σ H { s with heap:=h1,toks:=tk }:=I.kept k1;refine⟨.ref _,upd H h1.objs.size (.lst ys),I1.laid (t':=tk) k2 (avW _) ⟨by have:=n.len;omega,out,nn,v1,by simpa using at2⟩,rfl,q ys _ v2 (I1.hok.fresh (avW _))⟩
def zV:List fG->List V->NestedKey->Option V
 |x::xs,v::vs,k=>if x.1=k then some v else zV xs vs k
 |_,_,_=>none
theorem aes{k:NestedKey}{z:V}{r:Value}(rz:RelV z r):∀{xs:List fG} {vs:List V},Vals vs (xs.map (·.2.2))->RelV ((zV xs vs k).getD z) ((valueAt (pairsH xs) k).getD r)
 |[],_,.nil=>rz
 |x::xs,_,.cons (a:=v) (l₁:=vs) r1 r2=>by
  by_cases h:x.1=k
  .have e1:zV (x::xs) (v::vs) k=some v:=awS h;have e2:valueAt (pairsH (x::xs)) k=some x.2.2:=by simp[pairsH,valueAt,h]
   rw[e1,e2];exact r1
  .have e1:zV (x::xs) (v::vs) k=zV xs vs k:=awT h;have e2:valueAt (pairsH (x::xs)) k=valueAt (pairsH xs) k:=by simp[pairsH,valueAt,h]
   rw[e1,e2];exact aes rz r2
def amh(X:Cx)(td ty tx:TE):TE:=λσ H Q=>td σ H λx H1=>∃l o xs,x=.ref l/\H1 l=some (fL l o)/\jK X.w l o xs/\ty σ H1 λy H2=>tx σ H2 λz H3=>∃(g:Gh) (d:Dat) (b:Addr) (k:NestedKey) (vs:List V),H3 l=some (fL l o)/\aA X.K g H3 (xs.map λx=>V.ref x.2.1) (xs.map λx=>x.1.data)/\y=.ref b/\Rep X.K g H3 y d/\nM d=some k/\k.depth<=8/\Vals vs (xs.map (·.2.2))/\Q ((zV xs vs k).getD z) H3
section
variable{X:Cx}{o e f:Expr}{apos cpos:Pos}{td ty tx:TE}
def aiT(hu:X.A.units+64<cLine)(ho:PE X o td)(he:PE X e ty)(hf:PE X f tx)(m:M2 X o "get" apos e f cpos):PE X (.Call (.Attribute o "get" apos) [e,f] [] cpos) (amh X td ty tx):=by
 refine⟨λpins s σ H Q I h=>?_⟩;refine wpAny_Call_method m.base m.few m.line PySem.F.plainAttrs_dict PySem.F.slot_dict_get PySem.F.type_dict_get (thn (ho.run pins s σ H _ I h) λu s1 ⟨x,H1,I1,rx,l,ob,xs,ex,h1,n,q1⟩=>?_);subst ex
 obtain rfl:u=Value.ref l:=rx
 refine⟨⟨ob,pin_at I1 h1,n.ex.1⟩,λb q=>?_,?_⟩
 .cases q;exact⟨ob,pin_at I1 h1,n.ex.2.1⟩
 rw[m.trees];refine Calls.callWith_builtin rfl (Calls.evalArgs_plain (Calls.spliced_cons (thn (he.run pins s1 σ H1 _ I1 q1) λiv s2 ⟨y,H2,I2,ry,q2⟩=>
  Calls.spliced_cons (thn (hf.run pins s2 σ H2 _ I2 q2) λfv s3 ⟨z,H3,I3,rz,g,d,b,k,vs,k1,k2,k3,k4,k5,k6,k7,q3⟩=>Calls.spliced_nil ?_))))
 subst k3
 obtain rfl:iv=Value.ref b:=ry
 refine getOr_keyed (knd:=nestedKind X.prog X.w) (k:=k) (show _+8<cLine by show X.A.units+1+8<cLine;omega) ⟨key_is I3 k4 k5 rfl,k6⟩ n.sys ⟨xs,BJ I3 k1 n rfl k2,rfl⟩ ?_;exact⟨_,H3,I3.tok _,aes rz k7,q3⟩
end
def SInv.aqe{K:avC}{aj:aK}{σ:L2.St}{H:Hp}{g:Gh}{Z:Env}{M:Mo}{l:Addr}{o o':HO}(I:SInv K aj σ H g Z M)(hl:H l=some o)(mu:Jr o')(lo:g.Lo l)(nl:∀us,o≠.lst us):SInv K aj σ (upd H l o') g Z M:=by
 have gr:Gr true g g H (upd H l o'):=Gr.upd I.kd hl (.inr lo);refine⟨I.kd.upd mu,I.wok.loc I.kd hl lo,I.len,λi d h=>?_,λi zs h=>?_,I.sep⟩
 .let⟨v,e1,e2⟩:=I.dat i d h
  exact⟨v,e1,e2.gr gr I.kd⟩
 .let⟨l',ws,e1,e2,e3,e4⟩:=I.own i zs h
  have ne:l'≠l:=λz=>by
   subst z;rw[hl]at e2;cases e2;exact nl ws rfl
  exact⟨l',ws,e1,by rw[upd_ne ne];exact e2,e3,e4.gr gr I.kd⟩
structure xg(K:avC)(aj:aK)(j:Nat)(l:Addr)(σ:L2.St)(H:Hp)(g:Gh)(Z:Env)(M:Mo)(kvs:List (Dat×Dat)):Prop where
 inv:SInv K aj σ H g Z M
 nj:Z[j]?=some none
 sj:σ[j]?=some (some (.ref l))
 lo:g.Lo l
 dic:iD K aj g H l true kvs
section
variable{K:avC}{aj:aK}{j l:Nat}{σ:L2.St}{H H':Hp}{g:Gh}{Z:Env}{M:Mo}{kvs:List (Dat×Dat)}
theorem xg.ex(e:Ex H H')(I:xg K aj j l σ H g Z M kvs):xg K aj j l σ H' g Z M kvs:=⟨I.inv.ex e,I.nj,I.sj,I.lo,I.dic.ex e I.inv.kd⟩
theorem xg.set{k:Nat}{v:V}{d:Dat}(I:xg K aj j l σ H g Z M kvs)(n:k≠j)(r:Rep K g H v d):xg K aj j l (σ.set k (some v)) H g (Z.set k #[d]) M kvs:=
 ⟨I.inv.set r,by rw[avL n];exact I.nj,by rw[avL n];exact I.sj,I.lo,I.dic⟩
theorem Fw(j:Nat):∀(js:List Nat) (vs:List V) (σ:L2.St),j∉js->(sets σ js vs)[j]?=σ[j]?
 |[],_,_,_=>by unfold sets;rfl
 |_::_,[],_,_=>by unfold sets;rfl
 |k::js,v::vs,σ,h=>by
  show(sets (σ.set k (some v)) js vs)[j]?=_
  rw[Fw j js vs _ λz=>h (avG _ z),avL λz=>h (by rw[z];exact avI)]
end
def Yh(kvs:List (Dat×Dat))(d z:Dat):Dat:=match kvs.find? λp=>PyData.eqv p.1 d with
 |some p=>p.2
 |none=>z
def putN(kvs:List (Dat×Dat))(d v:Dat):List (Dat×Dat):=match kvs.any λp=>PyData.eqv p.1 d with
 |true=>kvs.map λp=>if PyData.eqv p.1 d=true then(p.1,v) else p
 |false=>kvs++[(d,v)]
theorem abA{K:avC}{g:Gh}{H:Hp}{k:NestedKey}{z:V}{dz:Dat}(rz:Rep K g H z dz):∀{xs:List fG} {vs:List V} {kvs:List (Dat×Dat)},kvs.map (·.1)=xs.map (λx=>x.1.data)->aA K g H vs (kvs.map (·.2))->Rep K g H ((zV xs vs k).getD z) (Yh kvs k.data dz)
 |[],vs,[],_,_=>by
  have e:zV [] vs k=none:=by unfold zV;rfl
  rw[e];exact rz
 |[],_,_::_,e,_=>by cases e
 |_::_,_,[],e,_=>by cases e
 |x::xs,vs,p::kvs,e,r=>by
  simp![List.map_cons,List.cons.injEq]at e r;cases r with
  | @cons v vs _ _ r1 r2=>
   have ih:=abA (k:=k) rz e.2 r2;unfold Yh at ih |-
   rw[List.find?_cons,e.1,Ew];by_cases h:x.1=k
   .rw[show zV (x::xs) (v::vs) k=some v from awS h,decide_eq_true h];exact r1
   .rw[show zV (x::xs) (v::vs) k=zV xs vs k from awT h,decide_eq_false h];exact ih
def aie{xs:List fG}{k:NestedKey}{b:Addr}{u:Value}{kvs:List (Dat×Dat)}{v:Dat}(e:kvs.map (·.1)=xs.map λx=>x.1.data):(putN kvs k.data v).map (·.1)=(storedH xs k b u).map λx=>x.1.data:=by
 have ha:=vU (k:=k) e;unfold putN storedH;rw[ha];cases hk:(atKey xs k).isSome with
 |true=>
  rw[awS (by simpa using hk),avZ,avZ];have e1:(λp:Dat×Dat=>(if PyData.eqv p.1 k.data=true then(p.1,v) else p).1)=λp=>p.1:=by
   funext p
   split<;>rfl
  have e2:(λx:fG=>(putAt k u x).1.data)=λx=>x.1.data:=by
   funext x;unfold putAt
   split<;>rfl
  show kvs.map (λp:Dat×Dat=>(if PyData.eqv p.1 k.data=true then(p.1,v) else p).1)=xs.map λx:fG=>(putAt k u x).1.data;rw[e1,e2,e]
 |false=>
  rw[awT (by simp)];simp[e]
def ain{xs:List fG}{k:NestedKey}{b:Addr}{u:Value}{v:V}(ru:RelV v u):∀{vs:List V},Vals vs (xs.map (·.2.2))->∃ws,Vals ws ((storedH xs k b u).map (·.2.2))/\∀{K:avC} {g:Gh} {H:Hp} {kvs:List (Dat×Dat)} {d:Dat},kvs.map (·.1)=xs.map (λx=>x.1.data)->aA K g H vs (kvs.map (·.2))->Rep K g H v d->aA K g H ws ((putN kvs k.data d).map (·.2)):=by
 intro vs hv;cases hk:(atKey xs k).isSome with
 |false=>
  refine⟨vs++[v],?_,λ{K g H kvs d} e r rv=>?_⟩
  .unfold storedH;rw[hk,awT (by simp),List.map_append];exact hv.append (.cons ru .nil)
  .unfold putN;rw[vU e,hk,List.map_append];exact r.back rv
 |true=>
  have key:∀{xs:List fG} {vs:List V},Vals vs (xs.map (·.2.2))->∃ws,Vals ws ((xs.map (putAt k u)).map (·.2.2))/\∀{K:avC} {g:Gh} {H:Hp} {kvs:List (Dat×Dat)} {d:Dat},kvs.map (·.1)=xs.map (λx=>x.1.data)->aA K g H vs (kvs.map (·.2))->Rep K g H v d->aA K g H ws ((kvs.map λp=>if PyData.eqv p.1 k.data=true then(p.1,d) else p).map (·.2)):=by
   intro xs
   induction xs with
   |nil=>
    intro vs h;refine⟨[],.nil,λ{K g H kvs d} e r rv=>?_⟩;cases kvs with
    |nil=>exact .nil
    |cons _ _=>cases e
   |cons x xs ih=>
    intro vs h;cases h with
    | @cons w _ vs _ h1 h2=>
     let⟨ws,i1,i2⟩:=ih h2
     by_cases hx:x.1=k
     .refine⟨v::ws,?_,λ{K g H kvs d} e r rv=>?_⟩
      .have:(putAt k u x).2.2=u:=by simp[putAt,hx]
       rw[List.map_cons,List.map_cons,this];exact .cons ru i1
      .cases kvs with
       |nil=>cases e
       |cons p kvs=>
        simp![List.map_cons,List.cons.injEq]at e r |-
        cases r with
        |cons r1 r2=>
         rw[e.1,Ew,decide_eq_true hx,awS rfl];exact .cons rv (i2 e.2 r2 rv)
     .refine⟨w::ws,?_,λ{K g H kvs d} e r rv=>?_⟩
      .have:(putAt k u x).2.2=x.2.2:=by simp[putAt,hx]
       rw[List.map_cons,List.map_cons,this];exact .cons h1 i1
      .cases kvs with
       |nil=>cases e
       |cons p kvs=>
        simp![List.map_cons,List.cons.injEq]at e r |-
        cases r with
        |cons r1 r2=>
         rw[e.1,Ew,decide_eq_false hx,awT (by simp)];exact .cons r1 (i2 e.2 r2 rv)
  let⟨ws,i1,i2⟩:=key hv
  refine⟨ws,?_,λ{K g H kvs d} e r rv=>?_⟩
  .unfold storedH;rw[hk,awS rfl];exact i1
  .unfold putN;rw[vU e,hk];exact i2 e r rv
def ajb{K:avC}{g:Gh}{H:Hp}{xs:List fG}{k:NestedKey}{b:Addr}{u:Value}{kvs:List (Dat×Dat)}{v:Dat}(e:kvs.map (·.1)=xs.map λx=>x.1.data)(r:aA K g H (xs.map λx=>V.ref x.2.1) (kvs.map (·.1)))(rb:Rep K g H (.ref b) k.data):aA K g H ((storedH xs k b u).map λx=>V.ref x.2.1) ((putN kvs k.data v).map (·.1)):=by
 have ha:=vU (k:=k) e;unfold putN storedH;rw[ha];cases hk:(atKey xs k).isSome with
 |true=>
  rw[awS rfl,avZ,avZ];have e1:(λp:Dat×Dat=>(if PyData.eqv p.1 k.data=true then(p.1,v) else p).1)=λp=>p.1:=by
   funext p
   split<;>rfl
  have e2:(λx:fG=>V.ref (putAt k u x).2.1)=λx=>V.ref x.2.1:=by
   funext x;unfold putAt
   split<;>rfl
  show aA K g H (xs.map λx:fG=>V.ref (putAt k u x).2.1) (kvs.map (λp:Dat×Dat=>(if PyData.eqv p.1 k.data=true then(p.1,v) else p).1));rw[e1,e2];exact r
 |false=>
  rw[awT (by simp),List.map_append,List.map_append];exact r.back rb
def xg.put{K:avC}{aj:aK}{j l:Nat}{σ:L2.St}{H:Hp}{g:Gh}{Z:Env}{M:Mo}{kvs:List (Dat×Dat)}(I:xg K aj j l σ H g Z M kvs){o o2:Obj}{xs:List fG}{vs:List V}(h1:H l=some (fL l o))(h3:kvs.map (·.1)=xs.map λx=>x.1.data)(h4:aA K g H (xs.map λx=>V.ref x.2.1) (kvs.map (·.1)))(h5:Vals vs (xs.map (·.2.2)))(h6:aA K g H vs (kvs.map (·.2)))
  {b:Addr} {k:NestedKey} {v:V} {d:Dat} {u:Value} (rb:Rep K g H (.ref b) k.data) (rv:Rep K g H v d) (ru:RelV v u) (nd:jK aj.w l o2 (storedH xs k b u)):xg K aj j l σ (upd H l (fL l o2)) g Z M (putN kvs k.data d):=by
 have gr:Gr true g g H (upd H l (fL l o2)):=Gr.upd I.inv.kd h1 (.inr I.lo);let⟨ws,w1,w2⟩:=ain (b:=b) (k:=k) ru h5
 refine⟨I.inv.aqe h1 awM I.lo (λus z=>nomatch z),I.nj,I.sj,I.lo,o2,_,ws,awU,nd,aie h3,(ajb h3 h4 rb).gr gr I.inv.kd,w1,(w2 h3 h6 rv).gr gr I.inv.kd⟩
abbrev KV:=List (Dat×Dat)
abbrev Ai:=KV->Mo->Env->Option (KV×Env)
def Nt(l:Addr)(H H':Hp):Prop:=∀a o,a≠l->H a=some o->H' a=some o
def Nt.of{l:Addr}{H H':Hp}(e:Ex H H'):Nt l H H':=λa o _ h=>e a o h
def Nt.trans{l:Addr}{H H1 H2:Hp}(e:Nt l H H1)(e2:Nt l H1 H2):Nt l H H2:=λa o n h=>e2 a o n (e a o n h)
theorem Nt.upd{l:Addr}{H:Hp}{o:HO}:Nt l H (upd H l o):=λa o n h=>by rw[upd_ne n];exact h
def tD(K:avC)(aj:aK)(j:Nat)(f:Ai):TS:=λD σ H=>∃g Z M l kvs r,xg K aj j l σ H g Z M kvs/\f kvs M Z=some r/\∀σ' H',Nt l H H'->xg K aj j l σ' H' g r.2 M r.1->D.nx σ' H'
def Tt(fe:QF)(tf:dU):Ai:=λkvs M Z=>match fe M Z with
 |.ok d=>(tf d Z).bind λZ'=>some (kvs,Z')
 |_=>none
def S9(fk fz:QF)(tf:dU):Ai:=λkvs M Z=>match fk M Z,fz M Z with
 |.ok d,.ok z=>(nM d).bind λk=>match d with
  |.tuple _=>if k.depth<=8 then(tf (Yh kvs d z) Z).bind λZ'=>some (kvs,Z') else none
  |_=>none
 |_,_=>none
def TV(fk fe:QF):Ai:=λkvs M Z=>match fe M Z,fk M Z with
 |.ok v,.ok d=>(nM d).bind λk=>match d with
  |.tuple _=>if k.depth<=8/\kvs.length<100000 then some (putN kvs d v,Z) else none
  |_=>none
 |_,_=>none
def Oa(f f2:Ai):Ai:=λkvs M Z=>(f kvs M Z).bind λr=>f2 r.1 M r.2
def Keeps(j:Nat)(tf:dU):Prop:=∀d Z Z',tf d Z=some Z'->Z[j]?=some none->Z'[j]?=some none
section
variable{X:Cx}{aj:aK}{W:WX}{j:Nat}{x:Str}{p apos pos pos' cpos:Pos}{tg e k z:Expr}{fe fk fz:QF}{tf:dU}{js:List Nat}
def amv(he:QE aj X W e fe)(hg:QG aj X tg js tf)(nj:j∉js)(ht:Keeps j tf)(hs:swapsWithSole [tg] e pos.line X.env=pure false)(hw:swappedStores [tg] e X.env=pure none)(h1:(assignEach [tg] X.env).map (·.2)=[assign tg X.env]):PS X (.Assign [tg] e pos) (tD X.K aj j (Tt fe tf)):=by
 refine PS.weak (ps_asg he hg hs hw h1) λD σ H ⟨g,Z,M,l,kvs,r,I,e,kk⟩=>?_;unfold Tt at e;split at e
 .next d hf=>
  let⟨Z',hr,e⟩:=avF.mp e
  cases e;refine tQ.go I.inv (k:=λd'=>d'=d) (by rw[hf];exact rfl) λd' v H1 hd e1 r1=>?_;subst hd;have I1:=I.ex e1;exact⟨g,Z,M,d',Z',I1.inv,r1,hr,λvs I3=>kk _ _ (.of e1) ⟨I3,ht _ _ _ hr I.nj,by rw[Fw j js vs σ nj];exact I1.sj,I1.lo,I1.dic⟩⟩
 .cases e
def aoC(hu:X.A.units+64<cLine)(hcw:aj.w=X.w)(hn:X.N[j]?=some x)(hv:Vis X.env.scope x)(hd:(x==("__debug__" : Str))=false)(hcd:(x==("__classdict__" : Str))=false)(hk:QE aj X W k fk)(hz:QE aj X W z fz)(m:M2 X (.Name x p) "get" apos k z cpos)(hg:QG aj X tg js tf)(nj:j∉js)(ht:Keeps j tf)
  (hs:swapsWithSole [tg] (.Call (.Attribute (.Name x p) "get" apos) [k,z] [] cpos) pos.line X.env=pure false) (hw:swappedStores [tg] (.Call (.Attribute (.Name x p) "get" apos) [k,z] [] cpos) X.env=pure none) (h1:(assignEach [tg] X.env).map (·.2)=[assign tg X.env]) :
  PS X (.Assign [tg] (.Call (.Attribute (.Name x p) "get" apos) [k,z] [] cpos) pos) (tD X.K aj j (S9 fk fz tf)):=by
 refine PS.weak (ps_asg (aiT hu (pe_var hn hv hd hcd) hk hz m) hg hs hw h1) λD σ H ⟨g,Z,M,l,kvs,r,I,e,kk⟩=>?_;unfold S9 at e;split at e
 .next d zd hf hfz=>
  let⟨nk,hnk,e⟩:=avF.mp e
  split at e
  .next ds _=>
   split at e
   .next h8=>
    let⟨Z',hr,e⟩:=avF.mp e
    cases e;let⟨o,xs,vs,q1,q2,q3,q4,q5,q6⟩:=id I.dic
    rw[hcw]at q2;refine⟨.ref l,I.sj,l,o,xs,rfl,q1,q2,?_⟩;refine tQ.go I.inv (k:=λd'=>d'=.tuple ds) (by rw[hf];exact rfl) λd' y H1 hd' e1 r1=>?_;subst hd';have I1:=I.ex e1;refine tQ.go I1.inv (k:=λd'=>d'=zd) (by rw[hfz];exact rfl) λd' zv H2 hd' e2 r2=>?_;subst hd';have I2:=I1.ex e2;have e12:=e1.trans e2;have q4':=q4.ex e12 I.inv.kd;have q6':=q6.ex e12 I.inv.kd;have q4k:=q4';rw[q3]at q4k;have ry:=r1.ex e2 I1.inv.kd;cases ry with
    | @tup b us _ hs' ht'=>
     refine⟨g,.tuple ds,b,nk,vs,e12 _ _ q1,q4k,rfl,.tup hs' ht',hnk,h8,q5,?_⟩;have rr:=abA (k:=nk) r2 q3 q6';rw[qM hnk]at rr;exact⟨g,Z,M,_,Z',I2.inv,rr,hr,λvs I3=>kk _ _ (.of e12) ⟨I3,ht _ _ _ hr I.nj,by rw[Fw j js vs σ nj];exact I2.sj,I2.lo,I2.dic⟩⟩
   .cases e
  .cases e
 .cases e
def aoD(hu:X.A.units+64<cLine)(hcw:aj.w=X.w)(hn:X.N[j]?=some x)(hv:Vis X.env.scope x)(hd:(x==("__debug__" : Str))=false)(hcd:(x==("__classdict__" : Str))=false)(hk:QE aj X W k fk)(he:QE aj X W e fe)(hs:swapsWith e (some (.Subscript (.Name x p) k pos')) pos.line X.env=pure false) :
  PS X (.Assign [.Subscript (.Name x p) k pos'] e pos) (tD X.K aj j (TV fk fe)):=by
 refine PS.weak (aaQ hu (pe_var hn hv hd hcd) hk he hs) λD σ H ⟨g,Z,M,l,kvs,r,I,e,kk⟩=>?_;unfold TV at e;split at e
 .next v d hfe hfk=>
  let⟨nk,hnk,e⟩:=avF.mp e
  split at e
  .next ds _=>
   split at e
   .next h8=>
    cases e;refine tQ.go I.inv (k:=λd'=>d'=v) (by rw[hfe];exact rfl) λd' vv H1 hd' e1 rv=>?_;subst hd';have I1:=I.ex e1;refine⟨.ref l,I.sj,?_⟩;refine tQ.go I1.inv (k:=λd'=>d'=.tuple ds) (by rw[hfk];exact rfl) λd2 y H2 hd' e2 ry=>?_;subst hd';have I2:=I1.ex e2;have e12:=e1.trans e2;let⟨o,xs,vs,q1,q2,q3,q4,q5,q6⟩:=id I2.dic
    have q4k:=q4;rw[q3]at q4k;have hlen:xs.length=kvs.length:=by have:=congrArg List.length q3;simpa using this.symm
    cases ry with
    | @tup b us _ hs' ht'=>
     refine⟨l,rfl,.inr ⟨o,xs,g,.tuple ds,b,nk,q1,by rw[<-hcw];exact q2,q4k,rfl,.tup hs' ht',hnk,h8.1,sz_lt (by rw[hlen];exact h8.2),λo2 u2 ru2 nd=>?_⟩⟩;rw[<-hcw]at nd;have I3:=I2.put q1 q3 q4 q5 q6 (k:=nk) (b:=b) (d:=d') (v:=vv) (u:=u2) (by rw[qM hnk];exact .tup hs' ht') (rv.ex e2 I1.inv.kd) ru2 nd;rw[qM hnk]at I3;exact kk _ _ ((Nt.of e12).trans .upd) I3
   .cases e
  .cases e
 .cases e
end
def Ry(tf:dU)(f:Ai):List Dat->Ai
 |[],kvs,_,Z=>some (kvs,Z)
 |d::ds,kvs,M,Z=>(tf d Z).bind λZ1=>(f kvs M Z1).bind λr=>Ry tf f ds r.1 M r.2
def Uh(it:IF)(tf:dU)(f:Ai):Ai:=λkvs M Z=>match it M Z with
 |.ok ds=>Ry tf f ds kvs M Z
 |_=>none
def xg.gr{K:avC}{aj:aK}{j l:Nat}{σ σ':L2.St}{H H':Hp}{g:Gh}{Z Z':Env}{M:Mo}{kvs kvs':KV}(I:xg K aj j l σ H g Z M kvs)(I':xg K aj j l σ' H' g Z' M kvs')(e:Nt l H H'):Gr true g g H H' where
 keep:=λa o h _ nl=>e a o (λz=>nl (z ▸ I.lo)) h
 keepW:=λ_ a o h w=>e a o (λz=>I.inv.kd.lo _ I.lo (z ▸ w)) h
 dom:=λa h=>by
  cases ha:H a with
  |none=>rfl
  |some o=>
   exfalso;by_cases z:a=l
   .subst z;let⟨o,_,_,q,_⟩:=I'.dic
    rw[h]at q;cases q
   .rw[e a o z ha]at h;cases h
 tbl:=⟨[],by simp⟩
 W:=λ_ h=>h
 nW:=λ_ h=>.inl h
 qg:=λ_=>⟨rfl,rfl⟩
 Lc:=rfl
 Lo:=λ_ h=>h
 nLo:=λ_ h=>.inl h
section
variable{X:Cx}{aj:aK}{W:WX}{j:Nat}{x:Str}{p pos:Pos}{tg iter:Expr}{body:List Stmt}{it:IF}{tf:dU}{js:List Nat}{f f2:Ai}
def alc{s:Stmt}(h:PS X s (tD X.K aj j f)):PSs X [s] (tD X.K aj j f):=pss_one h
def ah4{s:Stmt}{ss:List Stmt}(h:PS X s (tD X.K aj j f))(hs:PSs X ss (tD X.K aj j f2)):PSs X (s::ss) (tD X.K aj j (Oa f f2)):=
 PSs.weak (pss_cons h hs) λD σ H ⟨g,Z,M,l,kvs,r,I,e,kk⟩=>by
  let⟨r1,e1,e2⟩:=avF.mp e
  exact⟨g,Z,M,l,kvs,r1,I,e1,λσ' H' x' I'=>⟨g,r1.2,M,l,r1.1,r,I',e2,λσ2 H2 x2 I2=>kk _ _ (x'.trans x2) I2⟩⟩
def aov(hp:PassesOwn (model X.prog X.w) X.A X.env X.xe)(hc:X.calm=true)(hi:QI aj X W true tg iter it)(hg:QG aj X tg js tf)(nj:j∉js)(ht:Keeps j tf)(hb:PSs X body (tD X.K aj j f))(hs:∀x,foldedSetIterable iter X.env x=pure x) :
  PS X (.For tg iter body [] pos) (tD X.K aj j (Uh it tf f)):=by
 refine PS.weak (ps_for hp hc hi hg hb hs) λD σ H ⟨g,Z,M,l,kvs,r,I,e,kk⟩=>?_;unfold Uh at e;split at e
 .next ds hit=>
  refine⟨g,Z,M,I.inv,?_⟩;rw[hit];intro J C H1 e1 w c1 firm;have firm:=firm rfl
  let Pv:Nat->L2.St->Hp->Prop:=λi σi Hi=>i<=ds.length/\∃ρi kvi,Nt l H Hi/\xg X.K aj j l σi Hi g ρi M kvi/\C g Hi/\Ry tf f (ds.drop i) kvi M ρi=some r
  refine⟨λi m σi Hi=>m=ds.length-i/\Pv i σi Hi,⟨ds.length,rfl,awg _,Z,kvs,.of e1,I.ex e1,c1,by rw[awC];exact e⟩,?_⟩;rintro i m σi Hi ⟨rfl,hi,ρi,kvi,xi,Ii,Ci,zi⟩;by_cases hlt:i<ds.length
  .refine .inr ⟨w.go _ i Hi Ci hlt,Pv (i+1),λσ' H' p=>⟨ds.length-(i+1),#[],rfl,p⟩,λx H' y=>?_⟩;have hd:ds[i]?=some ds[i]:=avE hlt;let⟨e2,rx⟩:=w.yld _ i Hi x H' _ Ii.inv.kd Ci hd y
   rw[awi hlt,Ry]at zi;let⟨Z1,he,zi⟩:=avF.mp zi
   let⟨r1,hf,zi⟩:=avF.mp zi
   have I2:=Ii.ex e2;refine⟨g,ρi,M,_,Z1,I2.inv,rx,he,λvs I3=>?_⟩;have I4:xg X.K aj j l (sets σi js vs) H' g Z1 M kvi:=⟨I3,ht _ _ _ he Ii.nj,by rw[Fw j js vs σi nj];exact I2.sj,I2.lo,I2.dic⟩;exact⟨g,Z1,M,l,kvi,r1,I4,hf,λσ' H2 x2 I5=>⟨hlt,r1.2,r1.1,(xi.trans (.of e2)).trans x2,I5,firm true g g H' H2 I2.inv.kd (w.ex _ _ _ Ii.inv.kd Ci e2) (I4.gr I5 x2),zi⟩⟩
  .have e:i=ds.length:=#[];refine .inl ⟨w.stop _ i Hi Ci e,?_⟩;rw[e,awo]at zi;cases zi;exact kk σi Hi xi Ii
 .cases e
end
theorem aaF{k:NestedKey}{v:V}:∀{xs:List fG} {vs:List V},Vals vs (xs.map (·.2.2))->zV xs vs k=some v->∃u,valueAt (pairsH xs) k=some u/\RelV v u
 |[],_,.nil,e=>by
  unfold zV at e;cases e
 |x::xs,_,.cons (a:=w) (l₁:=vs) r1 r2,e=>by
  by_cases h:x.1=k
  .have e1:zV (x::xs) (w::vs) k=some w:=awS h;rw[e1]at e;cases e;exact⟨x.2.2,by simp[pairsH,valueAt,h],r1⟩
  .have e1:zV (x::xs) (w::vs) k=zV xs vs k:=awT h;rw[e1]at e;let⟨u,u1,u2⟩:=aaF r2 e
   exact⟨u,by rw[<-u1];simp[pairsH,valueAt,h],u2⟩
def arj(X:Cx):R2:=λx y H Q=>∃(l:Addr) (o:Obj) (xs:List fG) (g:Gh) (d:Dat) (b:Addr) (k:NestedKey) (vs:List V) (v:V),x=.ref l/\H l=some (fL l o)/\jK X.w l o xs/\aA X.K g H (xs.map λx=>V.ref x.2.1) (xs.map λx=>x.1.data)/\y=.ref b/\Rep X.K g H y d/\nM d=some k/\k.depth<=8/\Vals vs (xs.map (·.2.2))/\zV xs vs k=some v/\Q v H
def akC{X:Cx}(hu:X.A.units+64<cLine):IxR X (arj X):=by
 intro value slice pins s σ H x y v u Q I rx ry h hs;let⟨l,o,xs,g,d,b,k,vs,w,rfl,h1,h2,h3,rfl,h4,h5,h6,h7,h8,q⟩:=h
 obtain rfl:v=Value.ref l:=rx
 obtain rfl:u=Value.ref b:=ry
 let⟨z,z1,z2⟩:=aaF h7 h8
 exact tail_any ⟨o,pin_at I h1,h2.ex.1⟩ PySem.F.slot_dict_getitem.lookup (getItem_keyed (knd:=nestedKind X.prog X.w) (k:=k) (show _+8<cLine by show X.A.units+1+8<cLine;omega) ⟨key_is I h4 h5 rfl,h6⟩ ⟨xs,BJ I h1 h2 rfl h3,rfl⟩ z1 ⟨w,H,I.tok _,z2,q⟩) hs
def Ri(kvs:KV)(d:Dat):Option Dat:=(kvs.find? λp=>PyData.eqv p.1 d).bind λp=>some p.2
theorem Yt{K:avC}{g:Gh}{H:Hp}{k:NestedKey}{dv:Dat}:∀{xs:List fG} {vs:List V} {kvs:KV},kvs.map (·.1)=xs.map (λx=>x.1.data)->aA K g H vs (kvs.map (·.2))->Ri kvs k.data=some dv->∃v,zV xs vs k=some v/\Rep K g H v dv
 |[],vs,[],_,_,e=>by cases e
 |[],_,_::_,e,_,_=>by cases e
 |_::_,_,[],e,_,_=>by cases e
 |x::xs,vs,p::kvs,e,r,hf=>by
  simp![List.map_cons,List.cons.injEq]at e r;cases r with
  | @cons v vs _ _ r1 r2=>
   unfold Ri at hf;rw[List.find?_cons,e.1,Ew]at hf;by_cases h:x.1=k
   .rw[decide_eq_true h]at hf;cases hf;exact⟨v,awS h,r1⟩
   .rw[decide_eq_false h]at hf;let⟨v',i1,i2⟩:=Yt (k:=k) e.2 r2 hf
    exact⟨v',by rw[<-i1];exact awT h,i2⟩
abbrev DEF:=KV->Mo->Env->Option Dat
def Jd(K:avC)(aj:aK)(j:Nat)(f:DEF):TE:=λσ H Q=>∃g Z M l kvs d,xg K aj j l σ H g Z M kvs/\f kvs M Z=some d/\∀v H',Ex H H'->Rep K g H' v d->Q v H'
def Kh(f:QF):DEF:=λ_ M Z=>match f M Z with
 |.ok d=>some d
 |_=>none
def QH(f:DEF):DEF:=λkvs M Z=>(f kvs M Z).bind λd=>(nM d).bind λk=>match d with
 |.tuple _=>if k.depth<=8 then Ri kvs d else none
 |_=>none
def IV(f f2:DEF):DEF:=λkvs M Z=>(f kvs M Z).bind λd=>(f2 kvs M Z).bind λe=>match eU d e with
 |.ok z=>some z
 |_=>none
section
variable{X:Cx}{aj:aK}{W:WX}{j:Nat}{x:Str}{p pos:Pos}{e e2:Expr}{f:QF}{fe fe2:DEF}
def aor(h:QE aj X W e f):PE X e (Jd X.K aj j (Kh f)):=PE.weak h λσ H Q ⟨g,Z,M,l,kvs,d,I,hd,k⟩=>by
 unfold Kh at hd;split at hd
 .next z hf=>
  cases hd;exact tQ.go I.inv (k:=λd'=>d'=d) (by rw[hf];exact rfl) λd' v H1 he e1 r1=>k v H1 e1 (he ▸ r1)
 .cases hd
def ap5(hu:X.A.units+64<cLine)(hcw:aj.w=X.w)(hn:X.N[j]?=some x)(hv:Vis X.env.scope x)(hd:(x==("__debug__" : Str))=false)(hcd:(x==("__classdict__" : Str))=false)(he:PE X e (Jd X.K aj j fe))(hp:PlainIx e):PE X (.Subscript (.Name x p) e pos) (Jd X.K aj j (QH fe)):=by
 refine PE.weak (pe_ix (akC hu) (pe_var hn hv hd hcd) he hp) λσ H Q ⟨g,Z,M,l,kvs,d,I,hf,k⟩=>?_;unfold QH at hf;let⟨dk,f1,hf⟩:=avF.mp hf
 let⟨nk,f2,hf⟩:=avF.mp hf
 split at hf
 .next ds _=>
  split at hf
  .next h8=>
   refine⟨.ref l,I.sj,g,Z,M,l,kvs,_,I,f1,λy H1 e1 ry=>?_⟩;have I1:=I.ex e1;let⟨o,xs,vs,q1,q2,q3,q4,q5,q6⟩:=id I1.dic
   have q4k:=q4;rw[q3]at q4k;rw[<-qM f2]at hf;let⟨v,v1,v2⟩:=Yt q3 q6 hf
   cases ry with
   | @tup b us _ hs' ht'=>exact⟨l,o,xs,g,.tuple ds,b,nk,vs,v,rfl,q1,by rw[<-hcw];exact q2,q4k,rfl,.tup hs' ht',f2,h8,q5,v1,k v H1 e1 v2⟩
  .cases hf
 .cases hf
def amt(ha:PE X e (Jd X.K aj j fe))(hb:PE X e2 (Jd X.K aj j fe2)):PE X (.BinOp e .Add e2 pos) (Jd X.K aj j (IV fe fe2)):=by
 refine PE.weak (pe_op adN ha hb) λσ H Q ⟨g,Z,M,l,kvs,d,I,hf,k⟩=>?_;unfold IV at hf;let⟨d1,f1,hf⟩:=avF.mp hf
 let⟨d2,f2,hf⟩:=avF.mp hf
 split at hf
 .next z hz=>
  cases hf;refine⟨g,Z,M,l,kvs,d1,I,f1,λv H1 e1 r1=>⟨g,Z,M,l,kvs,d2,I.ex e1,f2,λv2 H2 e2 r2=>?_⟩⟩;refine agT (aj:=aj) (W:=WF) σ g H2 v v2 d1 d2 Q (I.inv.kd.ex (e1.trans e2)) (r1.ex e2 (I.inv.kd.ex e1)).weak r2.weak ?_;rw[hz];exact λu H3 e3 r3=>k u H3 ((e1.trans e2).trans e3) r3
 .cases hf
end
def Gm:DEF:=λkvs _ _=>(prs (kvs.map (·.1))).bind λl=>some (.list ((jJ l).map pD))
section
variable{X:Cx}{aj:aK}{W:WX}{j:Nat}{x y:Str}{p p1 pos:Pos}
def akz(hu:X.A.units+65<cLine)(hc:X.calm=true)(hg:Gl X "sorted")(hm:X.mg "sorted"=none)(hcw:aj.w=X.w)(hn:X.N[j]?=some x)(hv:Vis X.env.scope x)(hd:(x==("__debug__" : Str))=false)(hcd:(x==("__classdict__" : Str))=false) :
  PE X (.Call (.Name "sorted" p) [.Name x p1] [] pos) (Jd X.K aj j Gm):=by
 have h1:=pa_cons (pe_var (pos:=p1) hn hv hd hcd) pa_nil (bH (env:=X.env) (a:=.Name x p1) rfl []);have hv2:BV (.builtin "sorted") "sorted":=⟨#[[]],#[()],#[()]⟩
 refine PE.weak (pe_callB (afv hu hc) hg hm hv2.1 h1 hv2.2.1 hv2.2.2 (bH rfl []) #[rfl]) λσ H Q ⟨g,Z,M,l,kvs,d,I,hf,k⟩=>?_;unfold Gm at hf;let⟨ps,f1,hf⟩:=avF.mp hf
 cases hf;have e:=acd f1;let⟨o,xs,vs,q1,q2,q3,q4,q5,q6⟩:=id I.dic
 rw[hcw]at q2;rw[e]at q4;refine⟨.ref l,I.sj,l,o,xs,ps.map pD,rfl,q1,q2,q4.dp (n:=12) (Tz 11 ps),awE (λa b=>by simp[pD,PySem.W.alike,PySem.W.alikeAll]),PySem.W.Sortable.tuples (λb=>⟨_,_,rfl⟩),λd hd=>?_,λys q hy nq=>?_⟩
 .let⟨i,_,rfl⟩:=avM.mp hd
  simp[pD,PyData.depth,PyData.depthAll]
 .have hs:=Ho (enc:=pD) (le:=OJ) (λa b=>congrFun (congrFun (PySem.W.dataLe_ii (λp:Int×Int=>p.1) (λp:Int×Int=>p.2)) a) b) ps;rw[hs]at hy;exact k (.ref q) _ (Ex.new nq) (.lst (.inl ⟨.inl awU,I.inv.kd.fresh nq⟩) ((Gv q4 hy).ex (Ex.new nq) I.inv.kd))
end
def tID(K:avC)(aj:aK)(j:Nat)(f:DEF):TI:=λσ H R=>∃g Z M l kvs ds,xg K aj j l σ H g Z M kvs/\f kvs M Z=some (.list ds)/\∀J C H',Ex H H'->Jw K J C ds->C g H'->R J H'
def Q6(tf:dU)(fe:DEF)(kvs:KV)(M:Mo)(Z:Env):List Dat->Option (List Dat)
 |[]=>some []
 |d::ds=>(tf d Z).bind λZ1=>(fe kvs M Z1).bind λy=>(Q6 tf fe kvs M Z ds).bind λr=>some (y::r)
def O7(fi:DEF)(tf:dU)(vs:List Nat)(fe:DEF):DEF:=λkvs M Z=>(fi kvs M Z).bind λd=>match d with
 |.list ds=>if ds.length<=50000 then(Q6 tf fe kvs M (bQ Z vs) ds).bind λys=>some (.list ys) else none
 |_=>none
theorem Ze{j:Nat}:∀(vs:List Nat) (Z:Env),j∉vs->(bQ Z vs)[j]?=Z[j]?
 |[],_,_=>rfl
 |v::vs,Z,h=>by
  show((bQ Z vs).set v none)[j]?=_
  rw[avL λz=>h (by rw[z];exact avI),Ze vs Z λz=>h (avG _ z)]
theorem Zq{j:Nat}:∀(vs:List Nat) (σ:L2.St),j∉vs->(L2.wipe σ vs)[j]?=σ[j]?
 |[],_,_=>rfl
 |v::vs,σ,h=>by
  show((L2.wipe σ vs).set v none)[j]?=_
  rw[avL λz=>h (by rw[z];exact avI),Zq vs σ λz=>h (avG _ z)]
def iD.apw{K:avC}{aj:aK}{g g':Gh}{H H':Hp}{l:Addr}{kvs:KV}(k:Kd g H)(e:Ex H H')(r:Gr true g g' H H')(h:iD K aj g H l true kvs):iD K aj g' H' l true kvs:=by
 let⟨o,xs,vs,h3,h4,h5,h6,h7,h8⟩:=h
 exact⟨o,xs,vs,e _ _ h3,h4,h5,h6.gr r k,h7,h8.gr r k⟩
section
variable{X:Cx}{aj:aK}{W:WX}{j:Nat}{tg iter elt:Expr}{pos:Pos}{fi fe:DEF}{tf:dU}
def alh(he:PE X iter (Jd X.K aj j fi)):PI X tg iter (tID X.K aj j fi):=⟨λpins s σ H R I h=>by
 let⟨g,Z,M,l,kvs,ds,J,hf,k⟩:=h
 refine(pi_list he).run pins s σ H R I ⟨g,Z,M,l,kvs,.list ds,J,hf,λv H1 e1 r1=>?_⟩;cases r1 with
 | @lst a us _ h t=>exact⟨a,rfl,⟨us,K9.sq h⟩,k _ _ H1 e1 (X3 (S:=.lst a)) ⟨us,K9.sq h,t⟩⟩⟩
def anV{js vs:List Nat}(hj:∀i∈js,i∈vs)(nj:j∉vs)(ht:Keeps j tf){K:avC}(σ:L2.St)(H:Hp)(Q:VK)(h:Jd K aj j (O7 fi tf vs fe) σ H Q) :
  tLc (tID K aj j fi) (zp K aj js tf) (j7 K aj WF gU) (Jd K aj j fe) vs σ H Q:=by
 let⟨g,Z,M,l,kvs,d,I,hf,hQ⟩:=h
 unfold O7 at hf;let⟨di,f1,hf⟩:=avF.mp hf
 cases di with
 |list ds=>
  dsimp only at hf
  split at hf
  .next hlen=>
   let⟨total,htot,hf⟩:=avF.mp hf
   cases hf;refine⟨g,Z,M,l,kvs,ds,I,f1,λJ C H1 e1 w c D nD=>?_⟩;have I0:=I.ex e1;have njs:j∉js:=λz=>nj (hj j z);have kD:∀{Ha:Hp} {us:List V},Ex H1 Ha->Ha D=some (.lst us)->xg K aj j l (L2.wipe σ vs) Ha (g.add D) (bQ Z vs) M kvs:=λea hu=>⟨(I0.inv.wipe vs).add nD ea hu awM,by rw[Ze vs Z nj];exact I0.nj,by rw[Zq vs σ nj];exact I0.sj,.inl I0.lo,I0.dic.apw I0.inv.kd ea (Gh.Cy nD ea)⟩
   let Pv:Nat->Hp->Prop:=λi Ha=>Ex H1 Ha/\i<=ds.length/\∃us ys r,Ha D=some (.lst us)/\aA K (g.add D) Ha us ys/\ys.length<=i/\Q6 tf fe kvs M (bQ Z vs) (ds.drop i)=some r/\total=ys++r
   refine⟨λi m Ha=>m=ds.length-i/\Pv i Ha,⟨ds.length,rfl,Ex.new nD,awg _,[],[],total,awU,.nil,avW _,by rw[awC];exact htot,rfl⟩,?_⟩;rintro i m Ha ⟨rfl,ea,hi,us,ys,r,hu,hU,hy,hs,hr⟩;have Ia:=kD ea hu;have Ca:=w.add g (g.add D) H1 Ha I0.inv.kd c (Gh.Cy nD ea) ea;by_cases hlt:i<ds.length
   .refine .inr ⟨w.go _ i Ha Ca hlt,Pv (i+1),λH' p=>⟨ds.length-(i+1),#[],rfl,p⟩,λx H' y=>?_⟩;have hd:ds[i]?=some ds[i]:=avE hlt;let⟨e2,rx⟩:=w.yld _ i Ha x H' _ Ia.inv.kd Ca hd y
    rw[awi hlt,Q6]at hs;let⟨Z1,he,hs⟩:=avF.mp hs
    let⟨z,hz,hs⟩:=avF.mp hs
    let⟨r',hs3,hs2⟩:=avF.mp hs
    cases hs2;have I2:=Ia.ex e2;refine⟨g.add D,_,M,_,Z1,I2.inv,rx,he,λws I3=>⟨yH js ws _ vs hj |>.trans (CV σ vs),?_⟩⟩;have I4:xg K aj j l (sets (L2.wipe σ vs) js ws) H' (g.add D) Z1 M kvs:=⟨I3,ht _ _ _ he Ia.nj,by rw[Fw j js ws _ njs];exact I2.sj,I2.lo,I2.dic⟩;refine j7.go I3 (k:=λb=>b=true) rfl λb H3 hb e3=>?_;subst hb;rw[awS rfl];refine⟨g.add D,Z1,M,l,kvs,z,I4.ex e3,hz,λv H4 e4 ry=>?_⟩;have e234:=(e2.trans e3).trans e4;have hu4:=e234 _ _ hu;have hU4:=hU.ex e234 Ia.inv.kd;have I5:=(I4.ex e3).ex e4;exact⟨us,hu4,sz_lt (by rw[hU.length];omega),Ex.mut ((((ea.trans e2).trans e3).trans e4)) nD,hlt,us++[v],ys++[z],r',awU,Ud I5.inv.kd hu4 (.inr rfl) (hU4.append (.cons ry .nil)),by simp;omega,hs3,by rw[hr];simp⟩
   .have e:i=ds.length:=#[];refine .inl ⟨w.stop _ i Ha Ca e,?_⟩;rw[e,awo]at hs;cases hs;rw[awn]at hr;subst hr;exact hQ (.ref D) Ha (e1.trans ea) (.lst (.inl ⟨.inl hu,I0.inv.kd.fresh nD⟩) (aA.less (g:=g.add D) (g':=g) rfl (λa z=>z.elim .inl λz=>.inr (z.elim .inl λz=>.inr (.inl z))) hU))
  .cases hf
 |_=>cases hf
end
def Mx(j:Nat)(f:Ai)(fr:DEF):SF:=λM Z=>match decide (j<Z.length) with
 |true=>match (f [] M (Z.set j none)).bind λr=>fr r.1 M r.2 with
  |some d=>.ret d M
  |none=>.bad
 |false=>.bad
section
variable{X:Cx}{aj:aK}{W:WX}{q:Bool}{j:Nat}{x:Str}{p1 p2 p3 p4:Pos}{s:Stmt}{e:Expr}{f:Ai}{fr:DEF}
def ai1(hcw:aj.w=X.w)(hN:X.N.Nodup)(hn:X.N[j]?=some x)(hx:Loc X.env.scope x)(hfn:X.fn x=true\/X.env.scope.names.lookup x=some .local)(hs:PS X s (tD X.K aj j f))(hr:PE X e (Jd X.K aj j fr)) :
  Aj aj X W q [.Assign [.Name x p1] (.Dict [] [] p2) p3,s,.Return (some e) p4] (Mx j f fr):=by
 refine PSs.weak (pss_cons (ps_asg (adb (b:=true)) (pg_name hN hn hx hfn) #[rfl] #[rfl] #[rfl]) (pss_cons hs (pss_one (ps_ret hr)))) λD σ H ⟨g,Z,M,I,z⟩=>?_;unfold Mx at z;split at z
 .next hj=>
  have hj:=awP hj;split at z
  .next d hd=>
   let⟨r,h1,h2⟩:=avF.mp hd
   intro l nl o nd;have e0:Ex H (upd H l (fL l o)):=Ex.new nl;have I0:xg X.K aj j l (σ.set j (some (.ref l))) (upd H l (fL l o)) (g.add l) (Z.set j none) M []:=by
    refine⟨((I.add nl e0 awU awM).off j _),?_,?_,.inr rfl,o,[],[],awU,by rw[hcw];exact nd,rfl,.nil,.nil,.nil⟩
    .rw[avV hj]
    .rw[avV (by rw[I.len];exact hj)]
   refine⟨g.add l,_,M,l,[],r,I0,h1,λσ2 H2 x2 I2=>⟨g.add l,r.2,M,l,r.1,d,I2,h2,λv H3 e3 rv=>?_⟩⟩;have ex:Ex H H3:=λa ob ha=>by
    have na:a≠l:=λz=>by
     subst z;rw[nl]at ha;cases ha
    exact e3 _ _ (x2 a ob na (e0 _ _ ha))
   have If:=I.ex ex;exact z v H3 g (Gr.ex ex) If.kd.fr If.wok.fr (Rep.less (g:=g.add l) (g':=g.fr) rfl (λa z=>z.elim .inl λz=>.inr (z.elim .inl λz=>awN z)) rv)
  .exact awN z
 .exact awN z
end
structure Hs where
 Ms:List (Str×List (Str×MV))
 ft:Ft
 xm:List (Str×List (Str×Bool))
 df:List (Str×Bool)
 xf:List (Str×List Str)
structure Xi(P:Program)(w:World)(K:avC)(mg:Str->Option Value)(base:Heap)(aj:aK)(k:Nat)(h:Hs):Prop where
 ms:∀m tb,h.Ms.lookup m=some tb->∀c v,tb.lookup c=some v->Gu P w K mg base aj k c m v
 fk:Qh h.ft aj
 co:jM K aj
 hw:aj.w=w
 xm:∀y tab,h.xm.lookup y=some tab->(∃D,aj y=some D)/\aeA K aj y λx=>tab.lookup x
 xf:∀y fs,h.xf.lookup y=some fs->∃C,aj y=some C/\XfC K C/\∀f∈fs,PySem.W.findIn K (.ref C) f=some none
structure Tc where
 N:List Str
 sc:Scope
 G:List (Str×GV)
 B:List Str
 hs:Hs
 ml:List Str
 top:Bool
structure Amb(aj:aK)(c:Tc)(X:Cx)(W:WX)(k:Nat):Prop where
 hN:X.N=c.N
 hs:X.env.scope=c.sc
 calm:X.calm=true
 nd:X.N.Nodup
 tk:Takes X W
 rm:Room k X.A
 gl:∀x v,c.G.lookup x=some v->oU X.prog X.w X.K X.mg X.base aj k x v
 bl:∀x,x∈c.B->X.mg x=none
 fn:c.top=true->∀x,X.fn x=true
 hk:Xi X.prog X.w X.K X.mg X.base aj k c.hs
def Amb.tw{aj:aK}{c:Tc}{X:Cx}{W:WX}{k:Nat}(a:Amb aj c X W k){x:Str}{v:GV}(h:c.G.lookup x=some v)(hv:v.soft=true):Takes X W:=
 a.tk
def Amb.tm{aj:aK}{c:Tc}{X:Cx}{W:WX}{k:Nat}(a:Amb aj c X W k){m:Str}{tb:List (Str×MV)}(h:c.hs.Ms.lookup m=some tb):Takes X W:=
 a.tk
def gd{α:Type}(b:Bool)(o:Option α):Option α:=match b with
 |true=>o
 |false=>none
def aQ{α:Type}{b:Bool}{o:Option α}{x:α}:gd b o=some x↔b=true/\o=some x:=by
 cases b
 .exact⟨λh=>(nomatch h),λh=>(nomatch h.1)⟩
 .exact⟨λh=>⟨rfl,h⟩,λh=>h.2⟩
def idx:List Str->Str->Option Nat
 |[],_=>none
 |y::ys,x=>match y==x with
  |true=>some 0
  |false=>(idx ys x).map (· + 1)
theorem Xw:∀{N:List Str} {x:Str} {i:Nat},idx N x=some i->N[i]?=some x
 |[],_,_,h=>nomatch h
 |y::ys,x,i,h=>by
  rw[idx]at h;left
  .next e=>
   cases h;rw[List.getElem?_cons_zero,awV e]
  .rw[awm]at h;let⟨j,h1,rfl⟩:=h
   rw[List.getElem?_cons_succ];exact Xw h1
def aiw(sc:Scope)(x:Str):Bool:=match sc.names.lookup x with
 |some .local=>true
 |some .cell=>true
 |some .free=>true
 |_=>false
def akc{sc:Scope}{x:Str}(h:aiw sc x=true):Vis sc x:=by
 unfold aiw at h;unfold Vis;left
 .next e=>exact .inl e
 .next e=>exact .inr (.inl e)
 .next e=>exact .inr (.inr e)
 .cases h
def Ja(x:Str):Bool:=(x==("__debug__" : Str)) || (x==("__classdict__" : Str))
def uK{x:Str}(h:Ja x=false):(x==("__debug__" : Str))=false/\(x==("__classdict__" : Str))=false:=by unfold Ja at h;rw[Bool.or_eq_false_iff]at h;exact h
def HX(sc:Scope)(x:Str):Bool:=match sc.names.lookup x with
 |some .globalImplicit=>true
 |_=>false
def uE(c:Tc)(x:Str):Option Nat:=gd (aiw c.sc x&&!Ja x) (idx c.N x)
def an7(c:Tc)(x:Str):Bool:=match c.sc.names.lookup x with
 |some .local=>true
 |some .cell=>c.top
 |_=>false
def tX(c:Tc)(x:Str):Option Nat:=gd (an7 c x) (idx c.N x)
section
variable{aj:aK}{c:Tc}{X:Cx}{W:WX}{k:Nat}{x:Str}{i:Nat}
def uz(a:Amb aj c X W k)(h:HX c.sc x=true):Gl X x:=by
 unfold HX at h;unfold Gl PySem.Env.kindOf;rw[a.hs];left
 .assumption
 .cases h
def qJ(a:Amb aj c X W k)(h:uE c x=some i):X.N[i]?=some x/\Vis X.env.scope x/\(x==("__debug__" : Str))=false/\(x==("__classdict__" : Str))=false:=by
 let⟨h1,h2⟩:=aQ.mp h
 rw[avD]at h1;let⟨d1,d2⟩:=uK (by simpa using h1.2)
 exact⟨by rw[a.hN];exact Xw h2,by rw[a.hs];exact akc h1.1,d1,d2⟩
def lC(a:Amb aj c X W k)(h:tX c x=some i):X.N[i]?=some x/\L2.Loc X.env.scope x/\(X.fn x=true\/X.env.scope.names.lookup x=some .local):=by
 let⟨h1,h2⟩:=aQ.mp h
 unfold an7 at h1;refine⟨by rw[a.hN];exact Xw h2,?_⟩;rw[a.hs];unfold L2.Loc;split at h1
 .next e=>exact⟨.inl e,.inr e⟩
 .next e=>exact⟨.inr e,.inl (a.fn h1 x)⟩
 .cases h1
def uU(c:Tc)(x y:Str):Bool:=(x==y)&&(HX c.sc x&&c.B.contains x)
def mF{y:Str}(a:Amb aj c X W k)(h:uU c x y=true):x=y/\Gl X x/\X.mg x=none:=by unfold uU at h;rw[avD,avD]at h;exact⟨awV h.1,uz a h.2.1,a.bl x (by simpa using h.2.2)⟩
end
def yR:Expr->Bool
 |.Set _ _ _=>true
 |_=>false
def Gg{b:Expr}{op:CmpOp}(h:yR b=false):behindInMarks op b=false:=by cases b<;>first | rfl | cases h
def Zu{b c:Expr}{op op':CmpOp}(h:yR c=false):lastMarks [op,op'] [b,c]=false:=Gg h
def pH{e:Expr}{env:PySem.Env}(h:yR e=false):∀x,foldedSetIterable e env x=pure x:=λx=>by
 cases e<;>first | rfl | cases h
def Pg:Expr->Bool
 |.Slice _ _ _ _=>true
 |_=>false
def aob:Operator->Option (Dat->Dat->Out Dat)
 |.Add=>some eU
 |.Sub=>some kh
 |.Mult=>some yr
 |.FloorDiv=>some DQ
 |.Mod=>some lu
 |.Pow=>some Tv
 |_=>none
def Sy:CmpOp->Option (Dat->Dat->Out Dat)
 |.Eq=>some DY
 |.NotEq=>some uH
 |.Lt=>some Np
 |.LtE=>some uN
 |.Gt=>some gtD
 |.GtE=>some geD
 |.In=>some (inD false)
 |.NotIn=>some (inD true)
 |_=>none
def akg{op:Operator}{o:Dat->Dat->Out Dat}(h:aob op=some o)(X:Cx)(aj:aK)(W:WX):∃r,OpR X (binaryOp op) r/\sU aj X.K W o r:=by
 cases op<;>cases h
 .exact⟨_,adN,agT⟩
 .exact⟨_,op_sub,al3⟩
 .exact⟨_,op_mul,an2⟩
 .exact⟨_,op_mod,aow⟩
 .exact⟨_,op_pow,an5⟩
 .exact⟨_,op_fdiv,aoZ⟩
def Fe{op:CmpOp}{o:Dat->Dat->Out Dat}(h:Sy op=some o){X:Cx}{k:Nat}(hr:Room k X.A)(aj:aK)(W:WX):∃r,OpR X (compareOp op) r/\sU aj X.K W o r:=by
 have h65:X.A.units+65<cLine:=by have:=hr.un;omega
 cases op<;>cases h
 .exact⟨_,aoB hr.units,apS⟩
 .exact⟨_,anN hr.units,ap4⟩
 .exact⟨_,amZ h65,apj⟩
 .exact⟨_,op_le,apc⟩
 .exact⟨_,op_gt,ape⟩
 .exact⟨_,op_ge,apB⟩
 .exact⟨_,am9 h65,aj4⟩
 .exact⟨_,ahB h65,aj4⟩
def WL:Expr->Option Dat
 |.Constant .none _ _=>some .none
 |.Constant (.bool b) _ _=>some (.bool b)
 |_=>none
def adD{e:Expr}{d:Dat}{X:Cx}(h:WL e=some d):∃v,scD d=some v/\(v=.non\/∃b,v=.bl b)/\PE X e (tC v):=by
 unfold WL at h;left
 .cases h;exact⟨_,rfl,.inl rfl,pe_non⟩
 .cases h;exact⟨_,rfl,.inr ⟨_,rfl⟩,pe_bl⟩
 .cases h
def isN:CmpOp->Option Bool
 |.Is=>some false
 |.IsNot=>some true
 |_=>none
def agN{op:CmpOp}{neg:Bool}{v:V}{X:Cx}(h:isN op=some neg)(hv:v=.non\/∃b,v=.bl b):OpR X (compareOp op) (abj neg v):=by
 cases op<;>cases h
 .exact aoN hv
 .exact afK hv
def b1D(x:Str):Option (Dat->Out Dat):=
 if x=="len" then some qO else if x=="abs" then some Yc else if x=="sum" then some Yb else if x=="max" then some maxD else if x=="all" then some T8 else if x=="any" then some Uk
 else if x=="tuple" then some m7 else if x=="list" then some Ig else if x=="int" then some intD else
 none
def b2D(x:Str):Option (Dat->Dat->Out Dat):=if x=="max" then some qU else if x=="min" then some Lz else none
def amL{x:Str}{o:Dat->Out Dat}{X:Cx}(hc:X.calm=true)(h:b1D x=some o)(aj:aK)(W:WX):∃(f:Value) (id:String) (r:List V->Hp->VK->Prop),(f=.builtin id\/f=.type id)/\CallR X f r/\Nm aj X.K W o r/\BV f x:=by
 unfold b1D at h;left
 .next e=>cases h;cases awV e;exact⟨_,_,_,.inl rfl,anh,anP,#[[]],#[()],#[()]⟩
 left
 .next e=>cases h;cases awV e;exact⟨_,_,_,.inl rfl,call_abs,anY,#[[]],#[()],#[()]⟩
 left
 .next e=>cases h;cases awV e;exact⟨_,_,_,.inl rfl,cr_sum hc,amO,#[[]],#[()],#[()]⟩
 left
 .next e=>cases h;cases awV e;exact⟨_,_,_,.inl rfl,cr_max hc,anZ,#[[]],#[()],#[()]⟩
 left
 .next e=>cases h;cases awV e;exact⟨_,_,_,.inl rfl,cr_all hc,anm,#[[]],#[()],#[()]⟩
 left
 .next e=>cases h;cases awV e;exact⟨_,_,_,.inl rfl,cr_any hc,ani,#[[]],#[()],#[()]⟩
 left
 .next e=>cases h;cases awV e;exact⟨_,_,_,.inr rfl,call_tuple_of,ajn,#[[]],#[()],#[()]⟩
 left
 .next e=>cases h;cases awV e;exact⟨_,_,_,.inr rfl,call_list_of,alU,#[[]],#[()],#[()]⟩
 left
 .next e=>cases h;cases awV e;exact⟨_,_,_,.inr rfl,aos,aox,#[[]],#[()],#[()]⟩
 .cases h
def am0{x:Str}{o:Dat->Dat->Out Dat}{X:Cx}(hc:X.calm=true)(h:b2D x=some o)(aj:aK)(W:WX):∃(f:Value) (id:String) (r:List V->Hp->VK->Prop),(f=.builtin id\/f=.type id)/\CallR X f r/\Fn2 aj X.K W o r/\BV f x:=by
 unfold b2D at h;left
 .next e=>cases h;cases awV e;exact⟨_,_,_,.inl rfl,call_max2 hc,akR,#[[]],#[()],#[()]⟩
 left
 .next e=>cases h;cases awV e;exact⟨_,_,_,.inl rfl,call_min2 hc,ala,#[[]],#[()],#[()]⟩
 .cases h
def tyN(x:Str):Option Qn:=if x=="int" then some .int else if x=="bool" then some .bool else if x=="str" then some .str else if x=="tuple" then some .tuple else if x=="list" then some .list else none
def amB{x:Str}{t:Qn}(h:tyN x=some t):BV (.type t.name) x:=by
 unfold tyN at h;left
 .next e=>cases h;cases awV e;exact⟨#[[]],#[()],#[()]⟩
 left
 .next e=>cases h;cases awV e;exact⟨#[[]],#[()],#[()]⟩
 left
 .next e=>cases h;cases awV e;exact⟨#[[]],#[()],#[()]⟩
 left
 .next e=>cases h;cases awV e;exact⟨#[[]],#[()],#[()]⟩
 left
 .next e=>cases h;cases awV e;exact⟨#[[]],#[()],#[()]⟩
 .cases h
structure Tr where
 E:Tc->Expr->Option QF
 W:Tc->Expr->Option QF
 T:Tc->Expr->Option QT
 I:Tc->Bool->Expr->Expr->Option IF
structure Tr.Ok(t:Tr):Prop where
 oe:∀{aj:aK} {c:Tc} {X:Cx} {W:WX} {k:Nat},Amb aj c X W k->∀{e:Expr} {f:QF},t.E c e=some f->QE aj X W e f
 ow:∀{aj:aK} {c:Tc} {X:Cx} {W:WX} {k:Nat},Amb aj c X W k->∀{e:Expr} {f:QF},t.W c e=some f->QW aj X W e f
 ot:∀{aj:aK} {c:Tc} {X:Cx} {W:WX} {k:Nat},Amb aj c X W k->∀{e:Expr} {f:QT},t.T c e=some f->vo aj X W e f
 oi:∀{aj:aK} {c:Tc} {X:Cx} {W:WX} {k:Nat},Amb aj c X W k->∀{firm:Bool} {tg e:Expr} {f:IF},t.I c firm tg e=some f->QI aj X W firm tg e f
def Nf(t:Tr)(c:Tc):List Expr->Option QA
 |[]=>some dI
 |a::es=>gd (nst a) ((t.E c a).bind λfa=>(Nf t c es).bind λfr=>some (U3 fa fr))
section
variable{aj:aK}{c:Tc}{X:Cx}{W:WX}{k:Nat}{t:Tr}
theorem xH(o:t.Ok)(a:Amb aj c X W k):∀{es:List Expr} {f:QA},Nf t c es=some f->Ko aj X W es f/\es.all nst=true/\∀M Z ds,f M Z=.ok ds->ds.length=es.length
 |[],f,h=>by
  cases h;exact⟨aoF,rfl,λM Z ds e=>by cases e;rfl⟩
 |e::es,f,h=>by
  rw[Nf,aQ]at h;let⟨hs,h⟩:=h
  obtain⟨fa,h1,h⟩;obtain⟨fr,h2,h⟩;cases h;let⟨i1,i2,i3⟩:=xH o a h2
  refine⟨alK (o.oe a h1) i1 (bH hs es),by simp[hs,i2],λM Z ds e=>?_⟩;unfold U3 at e;cases hf:fa M Z with
  |ok d=>
   rw[hf]at e;cases hr:fr M Z with
   |ok dr=>
    rw[hr]at e;cases e;simp[i3 M Z dr hr]
   |exc y=>rw[hr]at e;cases e
   |bad=>rw[hr]at e;cases e
  |exc y=>rw[hf]at e;cases e
  |bad=>rw[hf]at e;cases e
end
def trO(t:Tr)(c:Tc):Option Expr->Option QO
 |none=>some Fp
 |some a=>(t.W c a).bind λfa=>some (sE fa)
def ahF{aj:aK}{c:Tc}{X:Cx}{W:WX}{k:Nat}{t:Tr}(o:t.Ok)(a:Amb aj c X W k){e:Option Expr}{f:QO}(h:trO t c e=some f):QOe aj X W e f:=by
 cases e with
 |none=>cases h;exact akN
 |some e=>
  obtain⟨fa,h1,h⟩;cases h;exact akV (o.ow a h1)
def abM(c:Tc):List Expr->Option (List Nat)
 |[]=>some []
 |.Name x _::es=>(tX c x).bind λi=>(abM c es).bind λjs=>some (i::js)
 |_::_=>none
def GZ(c:Tc):Expr->Option (List Nat×dU)
 |.Name x _=>(tX c x).bind λi=>some ([i],ao i)
 |.Tuple es _ _=>(abM c es).bind λjs=>some (js,aV js)
 |_=>none
theorem Xb{aj:aK}{c:Tc}{X:Cx}{W:WX}{k:Nat}(a:Amb aj c X W k):∀{es:List Expr} {js:List Nat},abM c es=some js->Vl X es js
 |[],js,h=>by cases h;trivial
 |.Name x p::es,js,h=>by
  rw[abM]at h;obtain⟨i,h1,h⟩;obtain⟨r,h2,h⟩;cases h;let⟨s1,s2,s3⟩:=lC a h1
  exact⟨s1,s2,s3,Xb a h2⟩
def rF{aj:aK}{c:Tc}{X:Cx}{W:WX}{k:Nat}(a:Amb aj c X W k){e:Expr}{js:List Nat}{f:dU}(h:GZ c e=some (js,f)):QG aj X e js f:=by
 unfold GZ at h;left
 .obtain⟨i,h1,h⟩;cases h;let⟨s1,s2,s3⟩:=lC a h1
  exact QX a.nd s1 s2 s3
 .obtain⟨js',h1,h⟩;cases h;exact ahr a.calm a.nd (Xb a h1)
 .cases h
def Tc.inn(c:Tc)(scope:Scope):Tc:={ c with sc:=relS scope c.sc,top:=false }
theorem Amb.inn{aj:aK}{c:Tc}{X:Cx}{W:WX}{k:Nat}(a:Amb aj c X W k)(scope:Scope)(s:Shared)(H:Hp)(C:Addr)(cl:LsS Addr)(fp:List Addr):Amb aj (c.inn scope) #[[[]]] WF k where
 hN:=a.hN
 hs:=by show relS scope X.env.scope=relS scope c.sc;rw[a.hs]
 calm:=a.calm
 nd:=a.nd
 tk:=ane
 rm:=a.rm
 gl:=a.gl
 bl:=a.bl
 fn:=λz=>nomatch z
 hk:=a.hk
def Ut:List Expr->List Nat->LsS Nat
 |.Name x _::es,j::js=>(x,j)::Ut es js
 |_,_=>[]
def mZ:Expr->List Nat->LsS Nat
 |.Name x _,[j]=>[(x,j)]
 |.Tuple es _ _,js=>Ut es js
 |_,_=>[]
def Qv(js vs:List Nat):Bool:=js.all λj=>vs.contains j
def pO{js vs:List Nat}(h:Qv js vs=true):∀j∈js,j∈vs:=λj hj=>by
 have:=av1.mp h j hj;simpa using this
def XD(t:Tr)(c:Tc):List Expr->Option QT
 |[]=>some gU
 |[a]=>t.T c a
 |_=>none
def PTs.weak{X:Cx}{e:List Expr}{t t':TT}(h:PTs X e t)(k:∀σ H Q,t' σ H Q->t σ H Q):PTs X e t':=⟨λpins s σ H Q I q=>h.run pins s σ H Q I (k σ H Q q)⟩
def wB{aj:aK}{c:Tc}{X:Cx}{W:WX}{k:Nat}{t:Tr}(o:t.Ok)(a:Amb aj c X W k){ifs:List Expr}{f:QT}(h:XD t c ifs=some f):PTs X ifs (j7 X.K aj W f):=by
 unfold XD at h;left
 .cases h;exact PTs.weak pts_nil λσ H Q ⟨g,Z,M,I,z⟩=>z H (Ex.refl H)
 .exact pts_one (o.ot a h)
 .cases h
def aci(t:Tr)(c:Tc)(elt tg iter:Expr)(ifs:List Expr)(scope:Scope):Option QF:=
 (t.I c false tg iter).bind λit=>(GZ (c.inn scope) tg).bind λjt=>(XD t (c.inn scope) ifs).bind λtt=>(t.E (c.inn scope) elt).bind λte=>
  gd (blkC c.N c.sc scope (mZ tg jt.1)&&(Qv jt.1 ((mZ tg jt.1).map (·.2))&&!yR iter)) (some (dO it jt.2 ((mZ tg jt.1).map (·.2)) tt te))
def aew{aj:aK}{c:Tc}{X:Cx}{W:WX}{k:Nat}{t:Tr}(o:t.Ok)(a:Amb aj c X W k){elt tg iter:Expr}{ifs:List Expr}{scope:Scope}{pos:Pos}{f:QF}(h:aci t c elt tg iter ifs scope=some f):QE aj X W (.ListComp elt [⟨tg,iter,ifs,0⟩] scope pos) f:=by
 unfold aci at h;obtain⟨it,h1,h⟩;obtain⟨⟨js,tf⟩,h2,h⟩;obtain⟨tt,h3,h⟩;obtain⟨te,h4,h⟩;let⟨hb,h⟩:=aQ.mp h
 cases h;simp![avD,avU]at hb;let⟨b1,b2,b3⟩:=hb
 exact apl a.calm a.nd (o.oi a h1) (by rw[a.hN,a.hs];exact b1) (pO b2) (λs H C cl fp=>rF (a.inn scope s H C cl fp) h2) (λs H C cl fp=>wB o (a.inn scope s H C cl fp) h3) (λs H C cl fp=>o.oe (a.inn scope s H C cl fp) h4) (pH b3)
def abL(t:Tr)(c:Tc)(x:Str)(e:Expr)(es:List Expr):Option QF:=match c.G.lookup x with
 |some (.fq n m)=>(Nf t c (e::es)).bind λas=>gd (HX c.sc x&&(!Ja x&&decide ((e::es).length=n))) (some (aO m as))
 |some _=>none
 |none=>match es with
  |[]=>(b1D x).bind λo=>(t.W c e).bind λfa=>gd (uU c x x&&nst e) (some (eZ o fa))
  |[.Name y p]=>match x=="isinstance" with
   |true=>(tyN y).bind λty=>(t.W c e).bind λfa=>gd (uU c x x&&(uU c y y&&nst e)) (some (zJ ty fa))
   |false=>(b2D x).bind λo=>(t.W c e).bind λfa=>(t.W c (.Name y p)).bind λfb=>gd (uU c x x&&nst e) (some (aH o fa fb))
  |[e2]=>(b2D x).bind λo=>(t.W c e).bind λfa=>(t.W c e2).bind λfb=>gd (uU c x x&&(nst e&&nst e2)) (some (aH o fa fb))
  |_=>none
def ahJ{aj:aK}{c:Tc}{X:Cx}{W:WX}{k:Nat}{x:Str}{o:Dat->Dat->Out Dat}{a b:Expr}{fa fb:QF}{p pos:Pos}(am:Amb aj c X W k)(h:b2D x=some o)(hg:uU c x x=true)(ha:QW aj X W a fa)(hb:QW aj X W b fb)(hs:nst a=true)(hs2:nst b=true):QE aj X W (.Call (.Name x p) [a,b] [] pos) (aH o fa fb):=by
 let⟨f,id,r,hf,hc,ho,hv⟩:=am0 am.calm h aj W
 let⟨_,hg,hm⟩:=mF am hg
 exact apF hf hc ho hg hm hv ha hb hs hs2
def afM{aj:aK}{c:Tc}{X:Cx}{W:WX}{k:Nat}{t:Tr}(o:t.Ok)(a:Amb aj c X W k){x:Str}{e:Expr}{es:List Expr}{p pos:Pos}{f:QF}(h:abL t c x e es=some f):QE aj X W (.Call (.Name x p) (e::es) [] pos) f:=by
 unfold abL at h;left
 .next n m hl=>
  obtain⟨as,h1,h⟩;let⟨hb,h⟩:=aQ.mp h
  cases h;simp![avD,avU,awO]at hb;let⟨b1,b2,b3⟩:=hb
  let⟨fa,hm,hk,fd,ps,j,hj,hp,hB,F⟩:=a.gl x _ hl
  let⟨i1,i2,i3⟩:=xH o a h1
  exact alZ (passAt (a.tw hl rfl)) F (a.rm.mono hj) (uz a b1) hm hk hB i1 (b3.trans hp.symm) (uK b2).1 i2 i3
 .cases h
 .left
  .obtain⟨o1,h1,h⟩;obtain⟨fa,h2,h⟩;let⟨hb,h⟩:=aQ.mp h
   cases h;rw[avD]at hb;let⟨f,id,r,hf,hc,ho,hv⟩:=amL a.calm h1 aj W
   let⟨_,hg,hm⟩:=mF a hb.1
   exact ajF hf hc ho hg hm hv (o.ow a h2) hb.2
  .left
   .next ex=>
    obtain⟨ty,h1,h⟩;obtain⟨fa,h2,h⟩;let⟨hb,h⟩:=aQ.mp h
    cases h;simp![avD]at hb;let⟨b1,b2,b3⟩:=hb
    let⟨_,hg,hm⟩:=mF a b1
    let⟨_,hg2,hm2⟩:=mF a b2
    cases awV ex;exact aoV hg hm ⟨#[[]],#[()],#[()]⟩ hg2 hm2 (amB h1) (o.ow a h2) b3
   .obtain⟨o1,h1,h⟩;obtain⟨fa,h2,h⟩;obtain⟨fb,h3,h⟩;let⟨hb,h⟩:=aQ.mp h
    cases h;rw[avD]at hb;exact ahJ a h1 hb.1 (o.ow a h2) (o.ow a h3) hb.2 rfl
  .obtain⟨o1,h1,h⟩;obtain⟨fa,h2,h⟩;obtain⟨fb,h3,h⟩;let⟨hb,h⟩:=aQ.mp h
   cases h;simp![avD]at hb;exact ahJ a h1 hb.1 (o.ow a h2) (o.ow a h3) hb.2.1 hb.2.2
  .cases h
def stE(t:Tr)(c:Tc):Expr->Option QF
 |.Name x _=>(match uE c x with
  |some i=>some (DG i)
  |none=>match c.G.lookup x with
   |some (.con d)=>gd (HX c.sc x&&!Ja x) (some (qC d))
   |_=>none)
 |.Constant (.int i) _ _=>some (qC (.int i))
 |.Constant (.str x) _ _=>some (qC (.str x))
 |.Constant (.bool x) _ _=>some (qC (.bool x))
 |.Constant .none _ _=>some (qC .none)
 |.BinOp a op b _=>(aob op).bind λo=>(t.W c a).bind λfa=>(t.W c b).bind λfb=>some (aH o fa fb)
 |.UnaryOp .USub a _=>(t.W c a).bind λfa=>some (eZ T6 fa)
 |.UnaryOp .Not a _=>(t.W c a).bind λfa=>some (Vo fa)
 |.BoolOp _ [a] _=>t.E c a
 |.BoolOp .And (a::b::r) p=>(t.E c a).bind λfa=>(t.E c (.BoolOp .And (b::r) p)).bind λfb=>some (zm fa fb)
 |.BoolOp .Or (a::b::r) p=>(t.E c a).bind λfa=>(t.E c (.BoolOp .Or (b::r) p)).bind λfb=>some (aiZ fa fb)
 |.Compare a [op] [b] _=>(match isN op with
  |some neg=>(WL b).bind λd=>(t.W c a).bind λfa=>some (sO neg d fa)
  |none=>(Sy op).bind λo=>(t.W c a).bind λfa=>(t.W c b).bind λfb=>gd (!yR b) (some (aH o fa fb)))
 |.Compare a [op,op'] [b,b2] _=>(Sy op).bind λo=>(Sy op').bind λo'=>(t.W c a).bind λfa=>(t.W c b).bind λfb=>(t.W c b2).bind λfc=>gd (!yR b2) (some (ZP (o7 o o' fa fb fc)))
 |.IfExp d a b _=>(t.T c d).bind λta=>(t.E c a).bind λfa=>(t.E c b).bind λfb=>some (Qa ta fa fb)
 |.Tuple es _ _=>(Nf t c es).bind λfr=>some (aW fr)
 |.List es _=>(Nf t c es).bind λfr=>some (za fr)
 |.Subscript a b _=>(match b with
  |.Slice lo hi none _=>(t.W c a).bind λfa=>(trO t c lo).bind λfl=>(trO t c hi).bind λfh=>some (R5 fa fl fh)
  |b=>gd (!Pg b) ((t.W c a).bind λfa=>(t.W c b).bind λfb=>some (aH yM fa fb)))
 |.ListComp elt [⟨tg,iter,ifs,0⟩] scope _=>aci t c elt tg iter ifs scope
 |.Call (.Name x _) (e::es) [] _=>abL t c x e es
 |_=>none
def stW(t:Tr)(c:Tc):Expr->Option QF
 |.Name x p=>(match uE c x with
  |some i=>some (UW i)
  |none=>t.E c (.Name x p))
 |e=>t.E c e
def valT:Expr->Bool
 |.UnaryOp .Not _ _=>false
 |.BoolOp _ _ _=>false
 |.IfExp _ _ _ _=>false
 |.Compare _ _ _ _=>false
 |_=>true
def ake{e:Expr}{env:PySem.Env}(h:valT e=true):∀whole,isTrue e env whole=(do let v <-whole;standAt e.pos;holding [v] (truthy v)):=λwhole=>by
 cases e with
 | UnaryOp o a p=>cases o<;>first | (with_unfolding_all rfl) | cases h
 |BoolOp _ _ _=>cases h
 |IfExp _ _ _ _=>cases h
 |Compare _ _ _ _=>cases h
 |_=>with_unfolding_all rfl
def stT(t:Tr)(c:Tc):Expr->Option QT
 |.UnaryOp .Not a _=>(t.T c a).bind λta=>some (ji ta)
 |.BoolOp _ [a] _=>t.T c a
 |.BoolOp .And (a::b::r) p=>(t.T c a).bind λta=>(t.T c (.BoolOp .And (b::r) p)).bind λtb=>some (gA ta tb)
 |.BoolOp .Or (a::b::r) p=>(t.T c a).bind λta=>(t.T c (.BoolOp .Or (b::r) p)).bind λtb=>some (Dr ta tb)
 |.Compare a [op] [b] _=>(match isN op with
  |some neg=>(WL b).bind λd=>(t.W c a).bind λfa=>some (cV (sO neg d fa))
  |none=>(Sy op).bind λo=>(t.W c a).bind λfa=>(t.W c b).bind λfb=>gd (!yR b) (some (cV (aH o fa fb))))
 |.Compare a [op,op'] [b,b2] _=>(Sy op).bind λo=>(Sy op').bind λo'=>(t.W c a).bind λfa=>(t.W c b).bind λfb=>(t.W c b2).bind λfc=>gd (!yR b2) (some (o7 o o' fa fb fc))
 |e=>gd (valT e) ((t.W c e).bind λfa=>some (fV fa))
def trF(t:Tr)(c:Tc)(firm:Bool)(e:Expr):Option QF:=match firm with
 |true=>t.E c e
 |false=>t.W c e
def isTup:Expr->Bool
 |.Tuple _ _ _=>true
 |_=>false
def stI(t:Tr)(c:Tc)(firm:Bool)(tg:Expr):Expr->Option IF
 |.Call (.Name x p) [a] [] pos=>(match uU c x "range" with
  |true=>(t.W c a).bind λfa=>gd (nst a) (some (Bj fa))
  |false=>match uU c x "enumerate" with
   |true=>(trF t c firm a).bind λfa=>gd (nst a&&isTup tg) (some (xY 0 fa))
   |false=>(trF t c firm (.Call (.Name x p) [a] [] pos)).bind λfa=>some (bV fa))
 |.Call (.Name x p) [a,b] [] pos=>(match uU c x "range" with
  |true=>(t.W c a).bind λfa=>(t.W c b).bind λfb=>gd (nst a&&nst b) (some (EY fa fb))
  |false=>match uU c x "zip" with
   |true=>(trF t c firm a).bind λfa=>(trF t c firm b).bind λfb=>gd (nst a&&(nst b&&isTup tg)) (some (Jq fa fb))
   |false=>(trF t c firm (.Call (.Name x p) [a,b] [] pos)).bind λfa=>some (bV fa))
 |.Call (.Name x p) [a] [⟨some kw,.Constant (.int i) j kp,kp2⟩] pos=>gd (uU c x "enumerate"&&(kw=="start"&&(decide (-(2^63)<=i/\i<2^63)&&(nst a&&isTup tg)))) ((trF t c firm a).bind λfa=>some (xY i fa))
 |e=>(trF t c firm e).bind λfa=>some (bV fa)
def T9{b:Expr}(h:(!Pg b)=true):PlainIx b:=λv i=>by
 cases b<;>first | rfl | cases h
section
variable{aj:aK}{c:Tc}{X:Cx}{W:WX}{k:Nat}{t:Tr}
def al9(o:t.Ok)(a:Amb aj c X W k){e:Expr}{f:QF}(h:stE t c e=some f):QE aj X W e f:=by
 unfold stE at h;left
 .left
  .next i hi=>
   cases h;let⟨s1,s2,s3,s4⟩:=qJ a hi
   exact an4 s1 s2 s3 s4
  .left
   .next d hl=>
    let⟨hb,h⟩:=aQ.mp h
    cases h;simp![avD,avU]at hb;let⟨v,u,h1,h2,h3,_⟩:=a.gl _ _ hl
    exact PE.weak (pe_glob (uz a hb.1) h1 h2 (uK hb.2).1) λσ H Q ⟨g,Z,M,I,z⟩=>z v H (Ex.refl H) (h3 g H)
   .cases h
 .cases h;exact aoW
 .cases h;exact aoH
 .cases h;exact aqi
 .cases h;exact anu
 .obtain⟨op,h1,h⟩;obtain⟨fa,h2,h⟩;obtain⟨fb,h3,h⟩;cases h;let⟨r,r1,r2⟩:=akg h1 X aj W
  exact anJ r1 r2 (o.ow a h2) (o.ow a h3)
 .obtain⟨fa,h2,h⟩;cases h;exact ame (o.ow a h2)
 .obtain⟨fa,h2,h⟩;cases h;exact als (o.ow a h2)
 .exact pe_one (o.oe a h)
 .obtain⟨fa,h2,h⟩;obtain⟨fb,h3,h⟩;cases h;exact ak2 (o.oe a h2) (o.oe a h3)
 .obtain⟨fa,h2,h⟩;obtain⟨fb,h3,h⟩;cases h;exact ank (o.oe a h2) (o.oe a h3)
 .left
  .next neg hn=>
   obtain⟨d,h1,h⟩;obtain⟨fa,h2,h⟩;cases h;let⟨v,v1,v2,v3⟩:=adD (X:=X) h1
   refine apG v1 (agN hn v2) (o.ow a h2) v3 (Gg ?_);unfold WL at h1;split at h1<;>first | rfl | cases h1
  .obtain⟨op,h1,h⟩;obtain⟨fa,h2,h⟩;obtain⟨fb,h3,h⟩;let⟨hb,h⟩:=aQ.mp h
   cases h;let⟨r,r1,r2⟩:=Fe h1 a.rm aj W
   exact akB r1 r2 (o.ow a h2) (o.ow a h3) (Gg (by simpa using hb))
 .obtain⟨op,h1,h⟩;obtain⟨op',h1',h⟩;obtain⟨fa,h2,h⟩;obtain⟨fb,h3,h⟩;obtain⟨fc,h4,h⟩;let⟨hb,h⟩:=aQ.mp h
  cases h;let⟨r,r1,r2⟩:=Fe h1 a.rm aj W
  let⟨r',r1',r2'⟩:=Fe h1' a.rm aj W
  exact aiz r1 r1' r2 r2' (o.ow a h2) (o.ow a h3) (o.ow a h4) (Zu (by simpa using hb))
 .obtain⟨ta,h1,h⟩;obtain⟨fa,h2,h⟩;obtain⟨fb,h3,h⟩;cases h;exact aiD (o.ot a h1) (o.oe a h2) (o.oe a h3)
 .obtain⟨fr,h1,h⟩;cases h;exact aoU (xH o a h1).1
 .obtain⟨fr,h1,h⟩;cases h;exact aoT (xH o a h1).1
 .left
  .obtain⟨fa,h1,h⟩;obtain⟨fl,h2,h⟩;obtain⟨fh,h3,h⟩;cases h;exact ap0 (o.ow a h1) (ahF o a h2) (ahF o a h3)
  .let⟨hb,h⟩:=aQ.mp h
   obtain⟨fa,h1,h⟩;obtain⟨fb,h2,h⟩;cases h;exact apK (o.ow a h1) (o.ow a h2) (T9 hb)
 .exact aew o a h
 .exact afM o a h
 .cases h
def amj(o:t.Ok)(a:Amb aj c X W k){e:Expr}{f:QF}(h:stW t c e=some f):QW aj X W e f:=by
 unfold stW at h;left
 .left
  .next i hi=>
   cases h;let⟨s1,s2,s3,s4⟩:=qJ a hi
   exact ano s1 s2 s3 s4
  .exact(o.oe a h).w
 .exact(o.oe a h).w
def amr{a b:Expr}{rest:List Expr}{ta tb:QT}{pos:Pos}(ha:vo aj X W a ta)(hb:vo aj X W (.BoolOp .And (b::rest) pos) tb):vo aj X W (.BoolOp .And (a::b::rest) pos) (gA ta tb):=by have hb':QWt aj X W (.BoolOp .And (b::rest) pos) tb:=⟨λwh pins s σ H Q I q=>hb.run pins s σ H Q I q⟩;exact PW.pt (amc ha hb')
def apL{a b:Expr}{rest:List Expr}{ta tb:QT}{pos:Pos}(ha:vo aj X W a ta)(hb:vo aj X W (.BoolOp .Or (b::rest) pos) tb):vo aj X W (.BoolOp .Or (a::b::rest) pos) (Dr ta tb):=by have hb':QWt aj X W (.BoolOp .Or (b::rest) pos) tb:=⟨λwh pins s σ H Q I q=>hb.run pins s σ H Q I q⟩;exact PW.pt (aqn ha hb')
def amE(o:t.Ok)(a:Amb aj c X W k){e:Expr}{f:QT}(h:stT t c e=some f):vo aj X W e f:=by
 unfold stT at h;left
 .obtain⟨ta,h1,h⟩;cases h;exact amq (o.ot a h1)
 .next op _ _=>
  cases op
  .exact PW.pt (pw_and1 (o.ot a h))
  .exact PW.pt (pw_or1 (o.ot a h))
 .obtain⟨ta,h1,h⟩;obtain⟨tb,h2,h⟩;cases h;exact amr (o.ot a h1) (o.ot a h2)
 .obtain⟨ta,h1,h⟩;obtain⟨tb,h2,h⟩;cases h;exact apL (o.ot a h1) (o.ot a h2)
 .left
  .next neg hn=>
   obtain⟨d,h1,h⟩;obtain⟨fa,h2,h⟩;cases h;let⟨v,v1,v2,v3⟩:=adD (X:=X) h1
   refine apQ v1 (agN hn v2) (o.ow a h2) v3 (Gg ?_);unfold WL at h1;split at h1<;>first | rfl | cases h1
  .obtain⟨op,h1,h⟩;obtain⟨fa,h2,h⟩;obtain⟨fb,h3,h⟩;let⟨hb,h⟩:=aQ.mp h
   cases h;let⟨r,r1,r2⟩:=Fe h1 a.rm aj W
   exact ao1 r1 r2 (o.ow a h2) (o.ow a h3) (Gg (by simpa using hb))
 .obtain⟨op,h1,h⟩;obtain⟨op',h1',h⟩;obtain⟨fa,h2,h⟩;obtain⟨fb,h3,h⟩;obtain⟨fc,h4,h⟩;let⟨hb,h⟩:=aQ.mp h
  cases h;let⟨r,r1,r2⟩:=Fe h1 a.rm aj W
  let⟨r',r1',r2'⟩:=Fe h1' a.rm aj W
  exact ajo r1 r1' r2 r2' (o.ow a h2) (o.ow a h3) (o.ow a h4) (Zu (by simpa using hb))
 .let⟨hv,h⟩:=aQ.mp h
  obtain⟨fa,h1,h⟩;cases h;exact aoe (o.ow a h1) (ake hv)
def FT(o:t.Ok)(a:Amb aj c X W k){firm:Bool}{e:Expr}{f:QF}(h:trF t c firm e=some f):QF' aj X W firm e f:=by
 cases firm
 .exact o.ow a h
 .exact o.oe a h
def SM{e:Expr}(h:isTup e=true):∃es j p,e=.Tuple es j p:=by cases e<;>first | exact⟨_,_,_,rfl⟩ | cases h
def anG(o:t.Ok)(a:Amb aj c X W k){firm:Bool}{tg e:Expr}{f:IF}(h:stI t c firm tg e=some f):QI aj X W firm tg e f:=by
 unfold stI at h;left
 .left
  .next hb=>
   obtain⟨fa,h1,h⟩;let⟨hs,h⟩:=aQ.mp h
   cases h;let⟨rfl,hg,hm⟩:=mF a hb
   exact agk hg hm (o.ow a h1) hs
  .left
   .next hb=>
    obtain⟨fa,h1,h⟩;let⟨hs,h⟩:=aQ.mp h
    cases h;let⟨rfl,hg,hm⟩:=mF a hb
    rw[avD]at hs;let⟨es,j,p,rfl⟩:=SM hs.2
    exact alv hg hm (FT o a h1) hs.1
   .obtain⟨fa,h1,h⟩;cases h;exact abW (FT o a h1)
 .left
  .next hb=>
   obtain⟨fa,h1,h⟩;obtain⟨fb,h2,h⟩;let⟨hs,h⟩:=aQ.mp h
   cases h;let⟨rfl,hg,hm⟩:=mF a hb
   rw[avD]at hs;exact ahw hg hm (o.ow a h1) (o.ow a h2) hs.1 hs.2
  .left
   .next hb=>
    obtain⟨fa,h1,h⟩;obtain⟨fb,h2,h⟩;let⟨hs,h⟩:=aQ.mp h
    cases h;let⟨rfl,hg,hm⟩:=mF a hb
    simp![avD]at hs;let⟨es,j,p,rfl⟩:=SM hs.2.2
    exact am7 hg hm (FT o a h1) (FT o a h2) hs.1 hs.2.1
   .obtain⟨fa,h1,h⟩;cases h;exact abW (FT o a h1)
 .let⟨hs,h⟩:=aQ.mp h
  obtain⟨fa,h1,h⟩;cases h;simp![avD,awO]at hs;let⟨hb,hk,hi,hn,ht⟩:=hs
  let⟨rfl,hg,hm⟩:=mF a hb
  cases awV hk;let⟨es,j,p,rfl⟩:=SM ht
  exact ahY hi.1 hi.2 hg hm (FT o a h1) hn
 .obtain⟨fa,h1,h⟩;cases h;exact abW (FT o a h1)
end
def strsOf:List Dat->Option (List Str)
 |[]=>some []
 |.str x::r=>(strsOf r).map (x::·)
 |_::_=>none
theorem Lw{K:avC}{g:Gh}{H:Hp}:∀{us:List V} {ds:List Dat} {ns:List Str},aA K g H us ds->strsOf ds=some ns->us=ns.map V.str
 |_,_,ns,.nil,e=>by cases e;rfl
 |_,_,ns,.cons (d:=d) (ds:=ds) h t,e=>by
  cases d with
  |str i=>
   rw[strsOf]at e;cases hr:strsOf ds with
   |none=>rw[hr]at e;cases e
   |some r=>
    rw[hr]at e;cases e;cases h;rw[Lw t hr];rfl
  |_=>cases e
theorem YB{K:avC}{g:Gh}{H:Hp}:∀ys:List Str,aA K g H (ys.map V.str) (ys.map PyData.str)
 |[]=>.nil
 |y::ys=>.cons (.str y) (YB ys)
def Y5(o:Str->Dat->Out Dat)(a b:QF):QF:=λM Z=>(a M Z).bind λx=>match x with
 |.str z=>(b M Z).bind (o z)
 |_=>.bad
def ai7(o:Str->Dat->Dat->Out Dat)(a b c:QF):QF:=λM Z=>(a M Z).bind λx=>match x with
 |.str z=>(b M Z).bind λy=>(c M Z).bind (o z y)
 |_=>.bad
def Vk(o:List Dat->Dat->Out Dat)(a b:QF):QF:=λM Z=>(a M Z).bind λx=>match x with
 |.list ds=>(b M Z).bind (o ds)
 |_=>.bad
def ae5(x:Str):Dat->Out Dat
 |.list ds=>match strsOf ds with
  |some ys=>Out.when (decide ((ys.map λy=>y.length).sum+ys.length*x.length<=16777216)) (.ok (.str (Txt.join x ys)))
  |none=>.bad
 |_=>.bad
def aaR(x:Str):Dat->Out Dat
 |.str y=>Out.when (!(y.length==0)&&decide (x.length+2<=100000)) (.ok (.list ((Txt.split x y).map .str)))
 |_=>.bad
def aeW(x:Str):Dat->Out Dat
 |.str y=>Out.when (!(y.length==0)&&decide (x.length<=100000)) (.ok (.tuple [.str (Txt.partition x y).1,.str (Txt.partition x y).2.1,.str (Txt.partition x y).2.2]))
 |_=>.bad
def Ye(x:Str):Dat->Dat->Out Dat
 |.str y,.int k=>Out.when (!(y.length==0)&&(decide (-100000<=k)&&(decide (k<=100000)&&decide (x.length+2<=100000)))) (.ok (.list ((Txt.splitMax x y k).map .str)))
 |_,_=>.bad
def Qu(ds:List Dat)(d:Dat):Out Dat:=Out.when (vP d&&ds.all vP) (match ds.findIdx? λz=>PyData.eqv z d with
 |some j=>.ok (.int (j:Nat))
 |none=>.bad)
def Xq(ds:List Dat)(d:Dat):Out Dat:=match strsOf ds,d with
 |some ys,.str z=>(match ys.findIdx? λy=>y==z with
  |some j=>.ok (.int (j:Nat))
  |none=>.bad)
 |_,_=>.bad
section
variable{X:Cx}{aj:aK}{W:WX}{a b c:Expr}{fa fb fc:QF}{pos apos:Pos}{k:Nat}
def aeF{e:Expr}{r:V->List V->Hp->VK->Prop}{o:Str->Dat->Out Dat}(key:PE X e (tM1 r (tW X.K aj W fa) (tW X.K aj W fb)))
  (ho:∀(σ:L2.St) (g:Gh) (H:Hp) (z:Str) (y:V) (d:Dat) (Q:VK),Kd g H->dW X.K g H y d->(o z d).sat (λt=>∀v H',Ex H H'->Rep X.K g H' v t->Q v H') (sH X.K aj W g H σ)->r (.str z) [y] H Q):QE aj X W e (Y5 o fa fb):=
 PE.weak key λσ H Q ⟨g,Z,M,I,h⟩=>by
  refine tW.go I h.bnd λd v H1 h1 e1 r1=>?_;have I1:=I.ex e1;cases d with
  |str z=>
   refine⟨⟨z,fW r1⟩,?_⟩;refine tW.go I1 (h1.bnd.mono (λ_ z=>z) λ_ z=>z.ex e1) λd2 v2 H2 h2 e2 r2=>?_;rw[fW r1];exact ho σ g H2 z v2 d2 Q (I1.ex e2).kd r2 (h2.mono (λt ht u H' e' r'=>ht u H' ((e1.trans e2).trans e') r') λ_ z=>(z.ex e1).ex e2)
  |_=>exact awN h1
def akf(ha:QW aj X W a fa)(hb:QW aj X W b fb)(hs:nst b=true)(hbs:baseOk a=true)(hl:(apos.endLine==pos.line)=true):QE aj X W (.Call (.Attribute a "join" apos) [b] [] pos) (Y5 ae5 fa fb):=
 aeF (pe_join ha hb (bH hs []) (gJ hbs) hl) λσ g H z y d Q kd r h=>by
  unfold ae5 at h;left
  .next ds=>
   left
   .next ys hy=>
    let⟨hz,h⟩:=h.kJ
    let⟨p,us,rfl,h1,h2⟩:=fX r
    have:=Lw h2 hy;subst this;exact⟨z,p,ys,rfl,rfl,.inl h1,awP hz,h _ H (Ex.refl H) (.str _)⟩
   .exact awN h
  .exact awN h
def ab6{g:Gh}{H:Hp}{ys:List Str}{Q:VK}(kd:Kd g H)(h:∀v H',Ex H H'->Rep X.K g H' v (.list (ys.map .str))->Q v H'):rNewStrs ys H Q:=λp np=>h _ _ (Ex.new np) (.lst (.inl ⟨.inl awU,kd.fresh np⟩) (YB ys))
def aja(ha:QW aj X W a fa)(hb:QW aj X W b fb)(hs:nst b=true)(hbs:baseOk a=true)(hl:(apos.endLine==pos.line)=true):QE aj X W (.Call (.Attribute a "split" apos) [b] [] pos) (Y5 aaR fa fb):=
 aeF (pe_split ha hb (bH hs []) (gJ hbs) hl) λσ g H z y d Q kd r h=>by
  unfold aaR at h;left
  .next w=>
   let⟨hz,h⟩:=h.kJ
   simp![avD,avU,awO]at hz;cases fW r;exact⟨z,w,rfl,rfl,hz.1,sz_of hz.2,ab6 kd h⟩
  .exact awN h
def alS(ha:QW aj X W a fa)(hb:QW aj X W b fb)(hs:nst b=true)(hbs:baseOk a=true)(hl:(apos.endLine==pos.line)=true):QE aj X W (.Call (.Attribute a "partition" apos) [b] [] pos) (Y5 aeW fa fb):=
 aeF (pe_partition ha hb (bH hs []) (gJ hbs) hl) λσ g H z y d Q kd r h=>by
  unfold aeW at h;left
  .next w=>
   let⟨hz,h⟩:=h.kJ
   simp![avD,avU,awO]at hz;cases fW r;exact⟨z,w,rfl,rfl,hz.1,sz_of hz.2,λp np=>h _ _ (Ex.new np) (.tup (st_of awU) (.cons (.str _) (.cons (.str _) (.cons (.str _) .nil))))⟩
  .exact awN h
def agC(ha:QW aj X W a fa)(hb:QW aj X W b fb)(hc:QW aj X W c fc)(hs:[b,c].all nst=true)(hbs:baseOk a=true)(hl:(apos.endLine==pos.line)=true):QE aj X W (.Call (.Attribute a "split" apos) [b,c] [] pos) (ai7 Ye fa fb fc):=by
 have hs2:=hs;simp![awf,List.all_nil,Bool.and_true,avD]at hs2;refine PE.weak (pe_bm (T:="str") PySem.F.plainAttrs_str PySem.F.slot_str_split PySem.F.type_str_split mt_splitMax ha (pa_cons hb (pa_cons hc pa_nil (bH hs2.2 [])) (bH hs2.1 [c])) (gJ hbs) ?_ hl (bH hs2.1 [c]) (star_any [c] (by simp[hs2.2]))) λσ H Q ⟨g,Z,M,I,h⟩=>?_
 .rw[yD _ hs];rfl
 .refine tW.go I h.bnd λd v H1 h1 e1 r1=>?_;have I1:=I.ex e1;cases d with
  |str z=>
   rw[fW r1];refine⟨rfl,?_⟩;refine tW.go I1 (h1.bnd.mono (λ_ z=>z) λ_ z=>z.ex e1) λd2 v2 H2 h2 e2 r2=>?_;have I2:=I1.ex e2;refine tW.go I2 (h2.bnd.mono (λ_ z=>z) λ_ z=>(z.ex e1).ex e2) λd3 v3 H3 h3 e3 r3=>?_;unfold Ye at h3;split at h3
   .next y k=>
    let⟨hz,h3⟩:=h3.kJ
    simp![avD,avU,awO]at hz;cases fW r2;cases cA r3;exact⟨z,y,k,rfl,rfl,hz.1,#[],#[],sz_of hz.2.2.2,ab6 (I2.ex e3).kd λv H' e' r'=>h3 v H' (((e1.trans e2).trans e3).trans e') r'⟩
   .exact awN h3
  |_=>exact awN h1
def acZ{α:Type}{p:α->Bool}{l:List α}{j:Nat}(h:l.findIdx? p=some j):∃z,l[j]?=some z/\p z=true/\∀m z',m<j->l[m]?=some z'->p z'=false:=by
 rw[List.findIdx?_eq_some_iff_getElem]at h;let⟨h1,h2,h3⟩:=h
 refine⟨l[j],avE h1,h2,λm z' hm e=>?_⟩;have hl:m<l.length:=#[];rw[avE hl]at e;cases e;simpa using h3 m hm
def aiC(ha:QW aj X W a fa)(hb:QW aj X W b fb)(hs:nst b=true)(hbs:baseOk a=true)(hl:(apos.endLine==pos.line)=true):QE aj X W (.Call (.Attribute a "index" apos) [b] [] pos) (Vk Qu fa fb):=by
 have hs1:[b].all nst=true:=by simp[hs]
 refine PE.weak (pe_bm (T:="list") PySem.F.plainAttrs_list PySem.F.slot_list_index PySem.F.type_list_index mt_index ha (pa_cons hb pa_nil (bH hs [])) (gJ hbs) ?_ hl (bH hs []) #[rfl]) λσ H Q ⟨g,Z,M,I,h⟩=>?_
 .rw[yD _ hs1];rfl
 .refine tW.go I h.bnd λd v H1 h1 e1 r1=>?_;have I1:=I.ex e1;cases d with
  |list ds=>
   let⟨p,us,rfl,q1,q2⟩:=fX r1
   refine⟨.inl ⟨rfl,us,q1⟩,?_⟩;refine tW.go I1 (h1.bnd.mono (λ_ z=>z) λ_ z=>z.ex e1) λd2 v2 H2 h2 e2 r2=>?_;unfold Qu at h2;let⟨hz,h2⟩:=h2.kJ
   rw[avD]at hz;have q2':=q2.ex e2 I1.kd;have r2':=Q5 hz.1 r2;split at h2
   .next j hj=>
    let⟨z,z1,z2,z3⟩:=acZ hj
    let⟨u,u1,u2⟩:=q2'.get z1
    have fz:∀{m:Nat} {z:Dat},ds[m]?=some z->vP z=true:=λ{m z} e=>av1.mp hz.2 z (avK e);refine⟨p,us,v2,j,u,rfl,rfl,ex_l e2 q1,Ui hz.1 r2',N6 hz.2 q2',u1,?_,λm z' hm e=>?_,h2 _ H2 (e1.trans e2) (.int _)⟩
    .rw[Yk (fz z1) hz.1 u2 r2'];exact z2
    .let⟨d',k1,k2⟩:=q2'.get' e
     rw[Yk (fz k1) hz.1 k2 r2'];exact z3 m d' hm k1
   .exact awN h2
  |_=>exact awN h1
def aiW(ds:List Dat)(b:QF):QF:=λM Z=>(b M Z).bind (Xq ds)
def afz{x:Str}{p:Pos}{ds:List Dat}(hg:oU X.prog X.w X.K X.mg X.base aj k x (.con (.tuple ds)))(hx:Gl X x)(hd:(x==("__debug__" : Str))=false)(hb:QW aj X W b fb)(hs:nst b=true)(hl:(apos.endLine==pos.line)=true):QE aj X W (.Call (.Attribute (.Name x p) "index" apos) [b] [] pos) (aiW ds fb):=by
 let⟨v,u,g1,g2,g3,g4⟩:=hg
 have hs1:[b].all nst=true:=by simp[hs]
 refine PE.weak (pe_bm (T:="tuple") PySem.F.plainAttrs_tuple PySem.F.slot_tuple_index PySem.F.type_tuple_index mt_tup_index (pe_glob hx g1 g2 hd) (pa_cons hb pa_nil (bH hs [])) (gJ rfl) ?_ hl (bH hs []) #[rfl]) λσ H Q ⟨g,Z,M,I,h⟩=>?_
 .rw[yD _ hs1];rfl
 .have r0:=g3 g λ_=>none;have rH:=g3 g;cases r0 with
  | @tup l us _ hq hr=>
   rcases hq with hq|hq
   .rcases hq with hq|⟨o,hq⟩<;>cases hq
   .refine⟨.inr (.inl ⟨rfl,g4 l ds rfl rfl⟩),?_⟩;refine tW.go I h.bnd λd2 v2 H2 h2 e2 r2=>?_;unfold Xq at h2;split at h2
    .next ys z hy=>
     split at h2
     .next j hj=>
      cases fW r2;let⟨y,y1,y2,y3⟩:=acZ hj
      have:=Lw hr hy;subst this;cases awV y2;refine⟨l,ys,z,j,rfl,rfl,.inr hq,y1,λm hm e=>?_,h2 _ H2 e2 (.int _)⟩;have:=y3 m z hm e;simp at this
     .exact awN h2
    .exact awN h2
def WK:Dat->Out Str
 |.str y=>Out.when (decide (y.length<=100000)) (.ok y)
 |.int i=>Out.when (decide (i.natAbs.log2<1920)) (.ok (Str.ofString (toString i)))
 |_=>.bad
def aiU(a b:QF):QF:=λM Z=>(a M Z).bind λd=>(WK d).bind λx=>Out.when (decide (x.length<=100000)) ((b M Z).bind λe=>(WK e).bind λy=>Out.when (decide (x.length+y.length<=100000)) (.ok (.str (x++y))))
def afF{g:Gh}{H:Hp}{v:V}{d:Dat}{P:Str->Prop}{E:dX->Prop}{R:V->Prop}(r:dW X.K g H v d)(h:(WK d).sat P E)(k:∀y,P y->R (.str y)):(∃y:Str,v=.str y/\y.length<=sizeLine/\R (.str y))\/∃i:Int,v=.int i/\i.natAbs.log2<1920/\R (.str (toString i)):=by
 unfold WK at h;left
 .next y=>
  let⟨hz,h⟩:=h.kJ
  exact .inl ⟨y,fW r,sz_of (awP hz),k _ h⟩
 .next i=>
  let⟨hz,h⟩:=h.kJ
  exact .inr ⟨i,cA r,awP hz,k _ h⟩
 .exact awN h
def anA{p1 p2:Pos}(ha:QW aj X W a fa)(hb:QW aj X W b fb):QE aj X W (.JoinedStr [.FormattedValue a (-1) none p1,.FormattedValue b (-1) none p2] pos) (aiU fa fb):=
 PE.weak (pe_joined (.cons (pe_fmt ha) (.cons (pe_fmt hb) .nil))) λσ H Q ⟨g,Z,M,I,h⟩=>by
  have e0:∀y:Str,Str.empty++y=y:=λy=>by
   apply TL.ext_tl;rw[TL.tl_append];rfl
  refine tW.go I h.bnd λd v H1 h1 e1 r1=>?_;have I1:=I.ex e1;refine afF (R:=λx=>∃y:Str,x=.str y/\(Str.empty++y).length<=sizeLine/\tJs [tFmt (tW X.K aj W fb)] (Str.empty++y) σ H1 λout H1=>Q (V.str out) H1) r1 h1.bnd λx hx=>?_;let⟨hz,hx⟩:=hx.kJ
  refine⟨x,rfl,by rw[e0];exact sz_of (awP hz),?_⟩;refine tW.go I1 (hx.bnd.mono (λ_ z=>z) λ_ z=>z.ex e1) λd2 v2 H2 h2 e2 r2=>?_;refine afF (R:=λz=>∃y:Str,z=.str y/\(Str.empty++x++y).length<=sizeLine/\tJs [] (Str.empty++x++y) σ H2 λout H1=>Q (V.str out) H1) r2 h2.bnd λy hy=>?_;let⟨hz2,hy⟩:=hy.kJ
  have hl:(x++y).length=x.length+y.length:=Array.size_append;refine⟨y,rfl,by rw[e0,hl];exact sz_of (awP hz2),?_⟩;rw[e0];exact hy _ H2 (e1.trans e2) (.str _)
end
def txM(m:Str):Option Nat:=if m=="join" then some 0 else if m=="split" then some 1 else if m=="partition" then some 2 else if m=="index" then some 3 else none
def trX(t:Tr)(c:Tc):Expr->Option QF
 |.Call (.Attribute o m apos) [e] [] pos=>(txM m).bind λn=>(t.W c e).bind λfe=>gd (baseOk o&&(nst e&&(apos.endLine==pos.line))) (match n with
  |0=>(t.W c o).bind λfo=>some (Y5 ae5 fo fe)
  |1=>(t.W c o).bind λfo=>some (Y5 aaR fo fe)
  |2=>(t.W c o).bind λfo=>some (Y5 aeW fo fe)
  |_=>(match o with
   |.Name x _=>(match c.G.lookup x with
    |some (.con (.tuple ds))=>gd (HX c.sc x&&!Ja x) (some (aiW ds fe))
    |some _=>none
    |none=>(t.W c o).bind λfo=>some (Vk Qu fo fe))
   |_=>(t.W c o).bind λfo=>some (Vk Qu fo fe)))
 |.Call (.Attribute o m apos) [e,e2] [] pos=>(match m=="split" with
  |true=>(t.W c o).bind λfo=>(t.W c e).bind λfe=>(t.W c e2).bind λf2=>gd (baseOk o&&(nst e&&(nst e2&&(apos.endLine==pos.line)))) (some (ai7 Ye fo fe f2))
  |false=>none)
 |.JoinedStr [.FormattedValue a k1 none _,.FormattedValue b k2 none _] _=>(t.W c a).bind λfa=>(t.W c b).bind λfb=>gd (decide (k1=-1)&&decide (k2=-1)) (some (aiU fa fb))
 |_=>none
section
variable{aj:aK}{c:Tc}{X:Cx}{W:WX}{k:Nat}{t:Tr}
def aoL{m:Str}{n:Nat}(h:txM m=some n):(m="join"/\n=0)\/(m="split"/\n=1)\/(m="partition"/\n=2)\/(m="index"/\n=3):=by
 unfold txM at h;left
 .next e=>cases h;exact .inl ⟨awV e,rfl⟩
 left
 .next e=>cases h;exact .inr (.inl ⟨awV e,rfl⟩)
 left
 .next e=>cases h;exact .inr (.inr (.inl ⟨awV e,rfl⟩))
 left
 .next e=>cases h;exact .inr (.inr (.inr ⟨awV e,rfl⟩))
 .cases h
def amb(o:t.Ok)(a:Amb aj c X W k){e:Expr}{f:QF}(h:trX t c e=some f):QE aj X W e f:=by
 unfold trX at h;left
 .obtain⟨n,h0,h⟩;obtain⟨fe,h1,h⟩;let⟨hb,h⟩:=aQ.mp h
  simp![avD]at hb;let⟨b1,b2,b3⟩:=hb
  rcases aoL h0 with⟨rfl,rfl⟩|⟨rfl,rfl⟩|⟨rfl,rfl⟩|⟨rfl,rfl⟩
  .obtain⟨fo,h2,h⟩;cases h;exact akf (o.ow a h2) (o.ow a h1) b2 b1 b3
  .obtain⟨fo,h2,h⟩;cases h;exact aja (o.ow a h2) (o.ow a h1) b2 b1 b3
  .obtain⟨fo,h2,h⟩;cases h;exact alS (o.ow a h2) (o.ow a h1) b2 b1 b3
  .have lst:∀{b:Expr} {apos pos:Pos},baseOk b=true->((t.W c b).bind λfo=>some (Vk Qu fo fe))=some f->(apos.endLine==pos.line)=true->QE aj X W (.Call (.Attribute b "index" apos) [_] [] pos) f:=λ{b apos pos} hb h b3=>by
    obtain⟨fo,h2,h⟩;cases h;exact aiC (o.ow a h2) (o.ow a h1) b2 hb b3
   simp only at h;left
   .left
    .next hl=>
     let⟨hg,h⟩:=aQ.mp h
     cases h;simp![avD,avU]at hg;exact afz (a.gl _ _ hl) (uz a hg.1) (uK hg.2).1 (o.ow a h1) b2 b3
    .cases h
    .exact lst b1 h b3
   .exact lst b1 h b3
 .left
  .next hm=>
   obtain⟨fo,h1,h⟩;obtain⟨fe,h2,h⟩;obtain⟨f2,h3,h⟩;let⟨hb,h⟩:=aQ.mp h
   cases h;simp![avD]at hb;cases awV hm;exact agC (o.ow a h1) (o.ow a h2) (o.ow a h3) (by simp[hb.2.1,hb.2.2.1]) hb.1 hb.2.2.2
  .cases h
 .obtain⟨fa,h1,h⟩;obtain⟨fb,h2,h⟩;let⟨hb,h⟩:=aQ.mp h
  cases h;simp![avD,awO]at hb;let⟨rfl,rfl⟩:=hb
  exact anA (o.ow a h1) (o.ow a h2)
 .cases h
end
def Fx(ds:List Dat)(d:Dat):Out Dat:=Out.when ((vP d&&ds.all vP)&&(okd 12 d&&iV 12 ds)) (.ok (.int ((ds.countP λy=>PyData.eqv y d:Nat):Int)))
def rCount(K:avC):V->List V->Hp->VK->Prop:=λx xs H Q=>∃a ys y ds d,x=.ref a/\xs=[y]/\SqL K H a ys/\DpAll K H ys ds/\Dp K H y d/\PyData.plainAll ds=true/\d.plain=true/\d.depth<=60/\Q (.int ((ds.countP λy=>PyData.eqv y d:Nat):Int)) H
def mt_count{X:Cx}(hu:X.A.units+65<cLine):MtR X "list.count" (rCount X.K):=by
 intro pins s σ H x xs v us Q I rx rxs h;let⟨a,ys,y,ds,d,rfl,rfl,hs,hds,hd,p1,p2,hz,q⟩:=h
 cases rx;cases rxs with
 |cons ry rt=>
  rename_i uy ut;cases rt;let⟨bs,r1⟩:=Dp.reads I d y uy hd ry
  let⟨its,rv,⟨o,n,ho,hc,hdn,hd'⟩,hlen⟩:=I.list hs
  let⟨as,h4⟩:=Dp.readsAll I ds _ its hds rv
  refine SeqAt.count_list_data (xs:=ds) (d:=d) ⟨o,ho,hc,n,hd'⟩ (by simpa using h4) r1 p1 p2 #[] ?_;exact⟨.int _,H,I.tok _,⟨_,rfl⟩,q⟩
def aa2{d:Dat}(h:vP d=true):d.plain=true:=by cases d<;>first | rfl | cases h
theorem Zz:∀{ds:List Dat},ds.all vP=true->PyData.plainAll ds=true
 |[],_=>rfl
 |d::ds,h=>by
  rw[awf,avD]at h;rw[PyData.plainAll,aa2 h.1,Zz h.2];rfl
section
variable{X:Cx}{aj:aK}{W:WX}{a b:Expr}{fa fb:QF}{pos apos:Pos}
def aiF(hu:X.A.units+65<cLine)(ha:QW aj X W a fa)(hb:QW aj X W b fb)(hs:nst b=true)(hbs:baseOk a=true)(hl:(apos.endLine==pos.line)=true):QE aj X W (.Call (.Attribute a "count" apos) [b] [] pos) (Vk Fx fa fb):=by
 have hs1:[b].all nst=true:=by simp[hs]
 refine PE.weak (pe_bm (T:="list") PySem.F.plainAttrs_list PySem.F.slot_list_count PySem.F.type_list_count (mt_count hu) ha (pa_cons hb pa_nil (bH hs [])) (gJ hbs) ?_ hl (bH hs []) #[rfl]) λσ H Q ⟨g,Z,M,I,h⟩=>?_
 .rw[yD _ hs1];rfl
 .refine tW.go I h.bnd λd v H1 h1 e1 r1=>?_;have I1:=I.ex e1;cases d with
  |list ds=>
   let⟨p,us,rfl,q1,q2⟩:=fX r1
   refine⟨.inl ⟨rfl,us,q1⟩,?_⟩;refine tW.go I1 (h1.bnd.mono (λ_ z=>z) λ_ z=>z.ex e1) λd2 v2 H2 h2 e2 r2=>?_;unfold Fx at h2;let⟨hz,h2⟩:=h2.kJ
   simp![avD]at hz;have q2':=q2.ex e2 I1.kd;have r2':=Q5 hz.1.1 r2;exact⟨p,us,v2,ds,d2,rfl,rfl,ex_l e2 q1,q2'.dp (n:=12) hz.2.2,r2'.dp (n:=12) hz.2.1,Zz hz.1.2,aa2 hz.1.1,av2 (Rm _ _ hz.2.1).2 #[()],h2 _ H2 (e1.trans e2) (.int _)⟩
  |_=>exact awN h1
end
def ah1(t:Tr)(c:Tc):Expr->Option QF
 |.Call (.Attribute o m apos) [e] [] pos=>gd (m=="count"&&(baseOk o&&(nst e&&(apos.endLine==pos.line)))) ((t.W c o).bind λfo=>(t.W c e).bind λfe=>some (Vk Fx fo fe))
 |_=>none
def alF{aj:aK}{c:Tc}{X:Cx}{W:WX}{k:Nat}{t:Tr}(o:t.Ok)(a:Amb aj c X W k){e:Expr}{f:QF}(h:ah1 t c e=some f):QE aj X W e f:=by
 unfold ah1 at h;left
 .let⟨hb,h⟩:=aQ.mp h
  obtain⟨fo,h1,h⟩;obtain⟨fe,h2,h⟩;cases h;simp![avD]at hb;let⟨b1,b2,b3,b4⟩:=hb
  cases awV b1;exact aiF (by have:=a.rm.un;omega) (o.ow a h1) (o.ow a h2) b3 b2 b4
 .cases h
def MV.n:MV->Nat
 |.q n _=>n
 |.g n _=>n
def MV.qt:MV->Bool
 |.q _ _=>true
 |.g _ _=>false
def tbN(tb:List (Str×MV))(n:Nat):Bool:=tb.all λp=>p.2.n==n
def tbQ(tb:List (Str×MV)):Bool:=tb.all λp=>p.2.qt
theorem sS{α:Type}{c:Str}{v:α}:∀{tb:List (Str×α)},tb.lookup c=some v->(c,v)∈tb
 |[],h=>nomatch h
 |(y,u)::r,h=>by
  rw[av5]at h;left
  .next e=>
   cases h;rw[awV e];exact avI
  .exact avG _ (sS h)
section
variable{aj:aK}{c:Tc}{X:Cx}{W:WX}{k:Nat}{t:Tr}
def aay(a:Amb aj c X W k){m:Str}{n:Nat}{tb:List (Str×MV)}(h:c.hs.Ms.lookup m=some tb)(hn:tbN tb n=true):MN X aj k m n tb:=λy v hv=>by
 refine⟨a.hk.ms m tb h y v hv,?_⟩;have:=av1.mp hn _ (sS hv);cases v<;>exact awV this
def aa1(t:Tr)(c:Tc)(o:Expr)(m:Str)(es:List Expr)(apos pos:Pos):Option QF:=
 (c.hs.Ms.lookup m).bind λtb=>(t.W c o).bind λfo=>(Nf t c es).bind λas=>
  gd (tbQ tb&&(tbN tb (es.length+1)&&(baseOk o&&(decide (es.length<30)&&(apos.endLine==pos.line))))) (some (aJ tb fo as))
def ahM(o:t.Ok)(a:Amb aj c X W k){b:Expr}{m:Str}{es:List Expr}{apos pos:Pos}{f:QF}(h:aa1 t c b m es apos pos=some f):QE aj X W (.Call (.Attribute b m apos) es [] pos) f:=by
 unfold aa1 at h;obtain⟨tb,h1,h⟩;obtain⟨fo,h2,h⟩;obtain⟨as,h3,h⟩;let⟨hb,h⟩:=aQ.mp h
 cases h;simp![avD,awO]at hb;let⟨_,b2,b3,b4,b5⟩:=hb
 let⟨i1,i2,i3⟩:=xH o a h3
 cases es with
 |nil=>
  cases h3;exact ait (a.tm h1) a.rm (aay a h1 b2) (o.ow a h2) b3 b5
 |cons e es=>exact akK (a.tm h1) a.rm (aay a h1 b2) (o.ow a h2) i1 i3 b3 i2 b5 b4
def inN:CmpOp->Option Bool
 |.In=>some false
 |.NotIn=>some true
 |_=>none
def af5{op:CmpOp}{neg:Bool}(hr:Room k X.A)(h:inN op=some neg):OpR X (compareOp op) (rInD X neg):=by
 have h65:X.A.units+64<cLine:=by have:=hr.un;omega
 cases op<;>cases h
 .exact op_inD h65
 .exact op_notInD h65
def afp(t:Tr)(c:Tc)(e:Expr)(op:CmpOp)(o:Expr)(f:Str):Option QF:=
 (inN op).bind λneg=>(c.hs.df.lookup f).bind λ_=>(t.E c e).bind λfe=>(t.W c o).bind λfo=>gd (baseOk o) (some (Ug neg f fe fo))
def an6{o e:Expr}{f:Str}{p1 pos:Pos}{fo fk:QF}{neg:Bool}{op:CmpOp}(co:jM X.K aj)(hw:aj.w=X.w)(hr:OpR X (compareOp op) (rInD X neg))(hk:QE aj X W e fk)(ho:QW aj X W o fo)(hb:baseOk o=true):vo aj X W (.Compare e [op] [.Attribute o f p1] pos) (cV (Ug neg f fk fo)):=
 PT.weak (pt_cmpR hr hk (pe_fld ho (gJ hb)) (by cases op<;>rfl)) λσ H Q ⟨g,Z,M,I,h⟩=>by
  refine ajU co hw σ H _ ⟨g,Z,M,I,h.bnd.mono (λd h1 v H' e' r'=>?_) λ_ z=>z⟩;let⟨k,h2,h3⟩:=Hf r'.weak h1
  exact⟨k,h2,h3 H' e'⟩
def adB(o:t.Ok)(a:Amb aj c X W k){e b:Expr}{op:CmpOp}{m:Str}{p1 pos:Pos}{f:QF}(h:afp t c e op b m=some f):QE aj X W (.Compare e [op] [.Attribute b m p1] pos) f/\vo aj X W (.Compare e [op] [.Attribute b m p1] pos) (cV f):=by
 unfold afp at h;obtain⟨neg,h1,h⟩;obtain⟨_,_,h⟩;obtain⟨fe,h2,h⟩;obtain⟨fo,h3,h⟩;let⟨hb,h⟩:=aQ.mp h
 cases h;exact⟨al7 a.hk.co a.hk.hw (af5 a.rm h1) (o.oe a h2) (o.ow a h3) hb,an6 a.hk.co a.hk.hw (af5 a.rm h1) (o.oe a h2) (o.ow a h3) hb⟩
def aat(t:Tr)(c:Tc)(e:Expr)(op:CmpOp)(x:Str):Option QF:=
 (inN op).bind λneg=>match c.G.lookup x with
  |some (.dic kvs)=>(t.W c e).bind λfe=>gd (HX c.sc x&&!Ja x) (some (Xr neg kvs fe))
  |_=>none
def abt(o:t.Ok)(a:Amb aj c X W k){e:Expr}{op:CmpOp}{x:Str}{p1 pos:Pos}{f:QF}(h:aat t c e op x=some f):QE aj X W (.Compare e [op] [.Name x p1] pos) f/\vo aj X W (.Compare e [op] [.Name x p1] pos) (cV f):=by
 unfold aat at h;obtain⟨neg,h1,h⟩;left
 .next kvs hl=>
  obtain⟨fe,h2,h⟩;let⟨hb,h⟩:=aQ.mp h
  cases h;simp![avD,avU]at hb;refine anv a.rm ?_ (a.gl x _ hl) (uz a hb.1) (uK hb.2).1 (o.ow a h2);cases op<;>cases h1
  .exact .inl ⟨rfl,rfl⟩
  .exact .inr ⟨rfl,rfl⟩
 .cases h
def aaV(t:Tr)(c:Tc):Expr->Option QF
 |.Call (.Name y _) [b] [] _=>(match uU c y "set" with
  |true=>(t.W c b).bind λfb=>gd (nst b) (some (eZ U9 fb))
  |false=>(t.W c (.Call (.Name y ⟨0,0,0,0⟩) [b] [] ⟨0,0,0,0⟩)).bind λ_=>none)
 |e=>(t.W c e).bind λfe=>gd (nst e) (some (eZ vA fe))
def ae3(a:Amb aj c X W k):X.A.units+65<cLine:=by have:=a.rm.un;omega
def ag9(o:t.Ok)(a:Amb aj c X W k)(hg:Gl X "sorted")(hm:X.mg "sorted"=none){e:Expr}{p pos:Pos}{f:QF}(h:aaV t c e=some f):QE aj X W (.Call (.Name "sorted" p) [e] [] pos) f:=by
 unfold aaV at h;left
 .left
  .next hb=>
   obtain⟨fb,h1,h⟩;let⟨hn,h⟩:=aQ.mp h
   cases h;let⟨rfl,hg2,hm2⟩:=mF a hb
   exact akZ (ae3 a) a.calm hg hm hg2 hm2 (o.ow a h1) hn
  .obtain⟨_,_,h⟩;cases h
 .obtain⟨fe,h1,h⟩;let⟨hn,h⟩:=aQ.mp h
  cases h;exact aj8 (ae3 a) hg hm (o.ow a h1) hn
def VH(t:Tr)(c:Tc)(elt tg iter:Expr)(ifs:List Expr)(tg1 iter1:Expr)(ifs1:List Expr)(scope:Scope):Option QF:=
 (t.I c false tg iter).bind λit=>(GZ (c.inn scope) tg).bind λjt=>(XD t (c.inn scope) ifs).bind λtt=>(t.I (c.inn scope) true tg1 iter1).bind λit1=>(GZ (c.inn scope) tg1).bind λjt1=>(XD t (c.inn scope) ifs1).bind λtt1=>(t.E (c.inn scope) elt).bind λte=>
  gd (blkC c.N c.sc scope (mZ tg jt.1++mZ tg1 jt1.1)&&(Qv ((mZ tg1 jt1.1).map (·.2)) ((mZ tg jt.1++mZ tg1 jt1.1).map (·.2))&&(Qv jt.1 ((mZ tg jt.1++mZ tg1 jt1.1).map (·.2))&&(Qv jt1.1 ((mZ tg1 jt1.1).map (·.2))&&(!yR iter&&!yR iter1)))))
   (some (Fj it jt.2 ((mZ tg jt.1++mZ tg1 jt1.1).map (·.2)) tt it1 jt1.2 ((mZ tg1 jt1.1).map (·.2)) tt1 te))
def aii(o:t.Ok)(a:Amb aj c X W k){elt tg iter tg1 iter1:Expr}{ifs ifs1:List Expr}{scope:Scope}{pos:Pos}{f:QF}(h:VH t c elt tg iter ifs tg1 iter1 ifs1 scope=some f):QE aj X W (.ListComp elt [⟨tg,iter,ifs,0⟩,⟨tg1,iter1,ifs1,0⟩] scope pos) f:=by
 unfold VH at h;obtain⟨it,h1,h⟩;obtain⟨⟨js,tf⟩,h2,h⟩;obtain⟨tt,h3,h⟩;obtain⟨it1,h4,h⟩;obtain⟨⟨js1,tf1⟩,h5,h⟩;obtain⟨tt1,h6,h⟩;obtain⟨te,h7,h⟩;let⟨hb,h⟩:=aQ.mp h
 cases h;simp![avD,avU]at hb;let⟨b1,b2,b3,b4,b5,b6⟩:=hb
 exact aoR a.calm a.nd (o.oi a h1) (by rw[a.hN,a.hs];exact b1) (pO b2) (pO b3) (pO b4) (λs H C cl fp=>rF (a.inn _ s H C cl fp) h2) (λs H C cl fp=>wB o (a.inn _ s H C cl fp) h3) (λs H C cl fp=>o.oi (a.inn _ s H C cl fp) h4) (λs H C cl fp=>rF (a.inn _ s H C cl fp) h5) (λs H C cl fp=>wB o (a.inn _ s H C cl fp) h6) (λs H C cl fp=>o.oe (a.inn _ s H C cl fp) h7) (pH b5) (λenv=>pH b6)
def Ym(ds:List Dat):Bool:=ds.all λx=>(match x with
 |.none=>false
 |_=>true)&&ds.all λy=>PySem.W.alike x y
def ana{ds:List Dat}(h:Ym ds=true):PySem.W.AlikeAll ds:=by unfold Ym at h;simp![av1,avD]at h;refine⟨λx hx y hy=>(h x hx).2 y hy,λx hx z=>?_⟩;have:=(h x hx).1;rw[z]at this;cases this
def ahs:List Dat->Out Dat
 |[]=>.bad
 |y::ys=>Out.when (iV 12 (y::ys)&&Ym (y::ys)) (.ok (PySem.W.minD y ys))
def Wr:Dat->Dat->Out Dat
 |.list ds,e=>match intsOf ds with
  |some []=>Out.when (vP e) (.ok e)
  |some (n::ns)=>.ok (.int (ns.foldl min n))
  |none=>ahs ds
 |_,_=>.bad
def Zb{K:avC}{H:Hp}{a:Addr}{ns:List Int}{d:V}{Q:VK}(h:SqL K H a (ns.map V.int))(q0:ns=[]->Q d H)(q:∀n r,ns=n::r->Q (.int (r.foldl min n)) H):Ear.Av K [.ref a] [d] H Q:=by
 have al:PySem.W.AlikeAll (ns.map PyData.int):=by
  refine⟨λx hx y hy=>?_,λx hx=>?_⟩
  .let⟨i,_,rfl⟩:=avM.mp hx
   let⟨j,_,rfl⟩:=avM.mp hy
   simp[PySem.W.alike]
  .let⟨i,_,rfl⟩:=avM.mp hx
   exact λz=>by cases z
 unfold Ear.Av;refine⟨a,_,ns.map PyData.int,d,rfl,rfl,h,Ear.KQ ns,al,by rw[(Ear.lay_ints ns).2];decide,λe=>q0 (List.map_eq_nil_iff.mp e),λy ys i x e gx gd=>?_⟩;cases ns with
 |nil=>cases e
 |cons n ns=>
  rw[List.map_cons]at e;injection e with e1 e2;subst e1 e2;rw[PySem.W.minD_ints]at gd;obtain⟨m,hm,rfl⟩:∃m,(n::ns)[i]?=some m/\x=.int m:=by
   rw[avQ]at gx;let⟨m,a1,a2⟩:=awm.mp gx
   exact⟨m,a1,a2.symm⟩
  have em:m=ns.foldl min n:=by have gd':((n::ns).map PyData.int)[i]?=some (.int (ns.foldl min n)):=gd;rw[avQ,hm]at gd';exact PyData.int.inj (av0 gd')
  rw[em];exact q n ns rfl
def afV{K:avC}{g:Gh}{H:Hp}{ds:List Dat}{v v2:V}{P:Dat->Prop}{E:dX->Prop}{Q:VK}(r:dW K g H v (.list ds))(h:(ahs ds).sat P E)(hq:∀z u,P z->Rep K g H u z->Q u H):Ear.Av K [v] [v2] H Q:=by
 cases ds with
 |nil=>exact awN h
 |cons y ys=>
  let⟨hb,h⟩:=h.kJ
  rw[avD]at hb;let⟨p,us,rfl,k1,k2⟩:=fX r
  unfold Ear.Av;refine⟨p,us,y::ys,v2,rfl,rfl,k1,k2.dp hb.1,ana hb.2,av2 (Mj _ _ hb.1).2 #[()],(λz=>nomatch z),λy' ys' i x e gx gd=>?_⟩;cases e;let⟨d',g1,g2⟩:=k2.get' gx
  rw[gd]at g1;cases g1;exact hq _ _ h g2
def ai6{a b:Expr}{fa fb:QF}{p pos kp:Pos}(hu:X.A.units+65<cLine)(hc:X.calm=true)(hg:Gl X "min")(hm:X.mg "min"=none)(ha:QW aj X W a fa)(hb:QW aj X W b fb)(hs:nst a=true):QE aj X W (.Call (.Name "min" p) [a] [⟨some "default",b,kp⟩] pos) (aH Wr fa fb):=by
 have key:PE X (.Call (.Name "min" p) [a] [⟨some "default",b,kp⟩] pos) (tCKw (Ear.Av X.K) (tCons (tW X.K aj W fa) tNil) (tCons (tW X.K aj W fb) tNil)):=
  pe_callBK (Ear.aha hu hc) hg hm #[[]] (pa_cons ha pa_nil (bH hs [])) (pk_cons hb pk_nil) #[()] #[()] (by unfold backTo;rw[bH hs []];rfl) (star_any [a] (by simp[hs])) #[rfl] #[rfl] #[rfl]
 refine PE.weak key λσ H Q ⟨g,Z,M,I,h⟩=>?_;refine tW.go I h.bnd λd v H1 h1 e1 r1=>?_;have I1:=I.ex e1;refine tW.go I1 (h1.bnd.mono (λ_ z=>z) λ_ z=>z.ex e1) λd2 v2 H2 h2 e2 r2=>?_;have r1':=r1.ex e2 I1.kd;unfold Wr at h2;split at h2
 .split at h2
  .next hi=>
   let⟨p,us,rfl,k1,k2⟩:=fX r1'
   have:=yX k2 hi;subst this;refine Zb k1 (λ_=>?_) λn r z=>nomatch z;cases hf:vP d2 with
   |true=>
    rw[hf]at h2;exact h2 _ H2 (e1.trans e2) (Q5 hf r2)
   |false=>rw[hf]at h2;exact awN h2
  .next n ns hi=>
   let⟨p,us,rfl,k1,k2⟩:=fX r1'
   have:=yX k2 hi;subst this;refine Zb k1 (λz=>nomatch z) λn' r z=>?_;cases z;exact h2 _ H2 (e1.trans e2) (.int _)
  .exact afV r1' h2 λz u hz ru=>hz u H2 (e1.trans e2) ru
 .exact awN h2
def els{α:Type}(a b:Option α):Option α:=match a with
 |some x=>some x
 |none=>b
def qP{α:Type}{a b:Option α}{x:α}(h:els a b=some x):a=some x\/b=some x:=by
 cases a with
 |none=>exact .inr h
 |some y=>exact .inl h
def xE0(t:Tr)(c:Tc):Expr->Option QF
 |.Call (.Name x _) [a] [⟨some y,b,_⟩] _=>(match uU c x "min" with
  |true=>(t.W c a).bind λfa=>(t.W c b).bind λfb=>gd (y=="default"&&nst a) (some (aH Wr fa fb))
  |false=>none)
 |.Attribute o f _=>gd (baseOk o) ((t.W c o).bind λfo=>some (eG f fo))
 |.Call (.Attribute o m apos) es [] pos=>aa1 t c o m es apos pos
 |.Compare e [op] [.Attribute o f _] _=>afp t c e op o f
 |.Compare e [op] [.Name x _] _=>aat t c e op x
 |.Subscript (.Name x _) e _=>(match c.G.lookup x with
  |some (.dic kvs)=>(t.W c e).bind λfe=>gd (HX c.sc x&&(!Ja x&&!Pg e)) (some (aez kvs fe))
  |_=>none)
 |.ListComp elt [⟨tg,iter,ifs,0⟩,⟨tg1,iter1,ifs1,0⟩] scope _=>VH t c elt tg iter ifs tg1 iter1 ifs1 scope
 |.Call (.Name x _) [e] [] _=>(match uU c x "sorted" with
  |true=>aaV t c e
  |false=>match uU c x "list",e with
   |true,.Attribute o f _=>(c.hs.df.lookup f).bind λ_=>(t.W c o).bind λfo=>gd (baseOk o) (some (Gk f fo))
   |_,_=>none)
 |_=>none
def aoq(o:t.Ok)(a:Amb aj c X W k){e:Expr}{f:QF}(h:xE0 t c e=some f):QE aj X W e f:=by
 unfold xE0 at h;left
 .left
  .next hb=>
   obtain⟨fa,h1,h⟩;obtain⟨fb,h2,h⟩;let⟨hd,h⟩:=aQ.mp h
   cases h;rw[avD]at hd;let⟨rfl,hg,hm⟩:=mF a hb
   cases awV hd.1;exact ai6 (ae3 a) a.calm hg hm (o.ow a h1) (o.ow a h2) hd.2
  .cases h
 .let⟨hb,h⟩:=aQ.mp h
  obtain⟨fo,h1,h⟩;cases h;exact amm a.hk.co (o.ow a h1) hb
 .exact ahM o a h
 .exact(adB o a h).1
 .exact(abt o a h).1
 .left
  .next kvs hl=>
   obtain⟨fe,h1,h⟩;let⟨hb,h⟩:=aQ.mp h
   cases h;simp![avD]at hb;exact aof (a.gl _ _ hl) (uz a hb.1) (uK (by simpa using hb.2.1)).1 (o.ow a h1) (T9 hb.2.2)
  .cases h
 .exact aii o a h
 .left
  .next hb=>
   let⟨rfl,hg,hm⟩:=mF a hb
   exact ag9 o a hg hm h
  .left
   .next hb=>
    obtain⟨_,_,h⟩;obtain⟨fo,h1,h⟩;let⟨hb2,h⟩:=aQ.mp h
    cases h;let⟨rfl,hg,hm⟩:=mF a hb
    exact aiB a.hk.co a.hk.hw a.calm hg hm (o.ow a h1) hb2
   .cases h
 .cases h
def xE1(t:Tr)(c:Tc)(e:Expr):Option QF:=els (trX t c e) (xE0 t c e)
def am4(o:t.Ok)(a:Amb aj c X W k){e:Expr}{f:QF}(h:xE1 t c e=some f):QE aj X W e f:=(qP h).elim (amb o a) (aoq o a)
def xE(t:Tr)(c:Tc)(e:Expr):Option QF:=els (ah1 t c e) (xE1 t c e)
def aqk(o:t.Ok)(a:Amb aj c X W k){e:Expr}{f:QF}(h:xE t c e=some f):QE aj X W e f:=(qP h).elim (alF o a) (am4 o a)
def xW(t:Tr)(c:Tc):Expr->Option QF
 |.Attribute o f _=>gd (baseOk o) ((t.W c o).bind λfo=>some (bh f fo))
 |_=>none
def apD(o:t.Ok)(a:Amb aj c X W k){e:Expr}{f:QF}(h:xW t c e=some f):QW aj X W e f:=by
 unfold xW at h;left
 .let⟨hb,h⟩:=aQ.mp h
  obtain⟨fo,h1,h⟩;cases h;exact anH a.hk.co (o.ow a h1) hb
 .cases h
def xT(t:Tr)(c:Tc):Expr->Option QT
 |.Compare e [op] [.Attribute o f _] _=>(afp t c e op o f).bind λg=>some (cV g)
 |.Compare e [op] [.Name x _] _=>(aat t c e op x).bind λg=>some (cV g)
 |_=>none
def apm(o:t.Ok)(a:Amb aj c X W k){e:Expr}{f:QT}(h:xT t c e=some f):vo aj X W e f:=by
 unfold xT at h;left
 .obtain⟨g,h1,h⟩;cases h;exact(adB o a h1).2
 .obtain⟨g,h1,h⟩;cases h;exact(abt o a h1).2
 .cases h
def xI(t:Tr)(c:Tc)(firm:Bool):Expr->Option IF
 |.Attribute o f _=>(match firm with
  |true=>none
  |false=>(c.hs.df.lookup f).bind λ_=>gd (baseOk o) ((t.W c o).bind λfo=>some (Fl f fo)))
 |_=>none
def apY(o:t.Ok)(a:Amb aj c X W k){firm:Bool}{tg e:Expr}{f:IF}(h:xI t c firm e=some f):QI aj X W firm tg e f:=by
 unfold xI at h;left
 .left
  .cases h
  .obtain⟨_,_,h⟩;let⟨hb,h⟩:=aQ.mp h
   obtain⟨fo,h1,h⟩;cases h;exact aiM a.hk.co a.hk.hw (o.ow a h1) hb
 .cases h
def xtE(t:Tr)(c:Tc)(e:Expr):Option QF:=els (xE t c e) (stE t c e)
def xtW(t:Tr)(c:Tc)(e:Expr):Option QF:=els (xW t c e) (stW t c e)
def xtT(t:Tr)(c:Tc)(e:Expr):Option QT:=els (xT t c e) (stT t c e)
def xtI(t:Tr)(c:Tc)(firm:Bool)(tg e:Expr):Option IF:=els (xI t c firm e) (stI t c firm tg e)
end
structure u6(aj:aK)(c:Tc)(X:Cx)(W:WX)(k:Nat):Prop extends Amb aj c X W k where
 ps:PassesOwn (model X.prog X.w) X.A X.env X.xe
 st:X.stack=X.env::X.outer
 fr:X.env.frame=some X.env.locals
 kf:X.env.scope.kind=.function
structure Ts where
 G:Tc->Expr->Option GF
 H:Tc->Expr->Option GT
 S:Tc->Stmt->Option SF
 B:Tc->List Stmt->Option SF
structure Ts.Ok(s:Ts)(q:Bool):Prop where
 og:∀{aj:aK} {c:Tc} {X:Cx} {W:WX} {k:Nat},u6 aj c X W k->∀{e:Expr} {f:GF},s.G c e=some f->GE aj X W q e f
 oh:∀{aj:aK} {c:Tc} {X:Cx} {W:WX} {k:Nat},u6 aj c X W k->∀{e:Expr} {f:GT},s.H c e=some f->GTe aj X W q e f
 os:∀{aj:aK} {c:Tc} {X:Cx} {W:WX} {k:Nat},u6 aj c X W k->∀{e:Stmt} {f:SF},s.S c e=some f->SE aj X W q e f
 ob:∀{aj:aK} {c:Tc} {X:Cx} {W:WX} {k:Nat},u6 aj c X W k->∀{e:List Stmt} {f:SF},s.B c e=some f->Aj aj X W q e f
def Dj:Expr->Bool
 |.ListComp _ _ _ _=>true
 |.SetComp _ _ _ _=>true
 |.DictComp _ _ _ _ _=>true
 |_=>false
def Jy{e:Expr}{tg:Option Expr}{l:Nat}{env:PySem.Env}(h:Dj e=false):swapsWith e tg l env=pure false:=by cases e<;>first | rfl | cases h
def aeR:Expr->Bool
 |.Tuple _ _ _=>true
 |_=>false
def swB(sc:Scope)(v:Expr)(scope:Scope)(x:Str)(p:Pos):Bool:=(match sc.names.lookup x with
 |some .local=>true
 |_=>false)&&(p.line==v.pos.line&&!(scope.names.any λ(n,k)=>n==x&&(k==.local || k==.cell)))
def Ws{X:Cx}{elt:Expr}{gens:List Comprehension}{scope:Scope}{pos p:Pos}{x:Str}{l:Nat}(hk:X.env.scope.kind=.function)(h:swB X.env.scope (.ListComp elt gens scope pos) scope x p=true):X.env.scope.names.lookup x=some .local/\swapsWith (.ListComp elt gens scope pos) (some (.Name x p)) l X.env=pure true:=by
 unfold swB at h;simp![avD]at h;let⟨h1,h2,h3⟩:=h
 have e1:X.env.scope.names.lookup x=some .local:=by
  split at h1
  .assumption
  .cases h1
 refine⟨e1,?_⟩;have eb:X.env.blockKind=.function:=by unfold PySem.Env.blockKind;rw[hk];rfl
 unfold swapsWith
 show(pure (X.env.blockKind==.function&&X.env.kindOf x==some .local&&p.line==(Expr.ListComp elt gens scope pos).pos.line&&!(scope.names.any λ(n,k)=>n==x&&(k==.local || k==.cell))):Sem Bool)=pure true
 rw[eb,h2,h3];unfold PySem.Env.kindOf;rw[e1];rfl
def afG{X:Cx}{elt:Expr}{gens:List Comprehension}{scope:Scope}{pos p:Pos}{x:Str}{l:Nat}(h:(p.line==(Expr.ListComp elt gens scope pos).pos.line)=false):swapsWith (.ListComp elt gens scope pos) (some (.Name x p)) l X.env=pure false:=by
 unfold swapsWith
 show(pure (X.env.blockKind==.function&&X.env.kindOf x==some .local&&p.line==(Expr.ListComp elt gens scope pos).pos.line&&!(scope.names.any λ(n,k)=>n==x&&(k==.local || k==.cell))):Sem Bool)=pure false
 rw[h,Bool.and_false,Bool.false_and]
def trN(t:Tr)(c:Tc):Expr->Option IF
 |.List es _=>(Nf t c es).bind λfr=>some (Ie fr)
 |_=>none
def af8{aj:aK}{c:Tc}{X:Cx}{W:WX}{k:Nat}{t:Tr}(o:t.Ok)(a:Amb aj c X W k){e:Expr}{f:IF}(h:trN t c e=some f):FE aj X W e f/\Dj e=false:=by
 unfold trN at h;left
 .obtain⟨fr,h1,h⟩;cases h;exact⟨ant (xH o a h1).1,rfl⟩
 .cases h
section
variable{X:Cx}{aj:aK}{W:WX}{q:Bool}{e:Expr}{pos:Pos}
def an9{j:Nat}{y:Str}{py:Pos}{elt tg iter:Expr}{cpos:Pos}{scope:Scope}{own:LsS Nat}{it:IF}{tgf:dU}{js:List Nat}{tt:QT}{te:QF}{ifs:List Expr}(hc:X.calm=true)(hN:X.N.Nodup)(hy:X.N[j]?=some y)(hyl:X.env.scope.names.lookup y=some .local)
  (hsw:swapsWith (.ListComp elt [⟨tg,iter,ifs,0⟩] scope cpos) (some (.Name y py)) pos.line X.env=pure true) (hi:QI aj X W false tg iter it) (ok:blkC X.N X.env.scope scope own=true) (hj:∀j∈js,j∈own.map (·.2))
  (hg:∀s H C cl fp,QG aj #[[[]]] tg js tgf)
  (ht:∀s H C cl fp,PTs #[[[]]] ifs (j7 X.K aj WF tt))
  (he:∀s H C cl fp,QE aj #[[[]]] WF elt te) (hs:∀x,foldedSetIterable iter X.env x=pure x) :
  SE aj X W q (.Assign [.Name y py] (.ListComp elt [⟨tg,iter,ifs,0⟩] scope cpos) pos) (yx j (Cu it tgf (own.map (·.2)) tt te)):=by
 refine PS.weak (ps_setLc (g:=zp X.K aj js tgf) (tt:=j7 X.K aj WF tt) (te:=tQ X.K aj WF te) hc hN hy hyl hsw hi (blkOk_by ok) (λs H C cl fp=>hg s H C cl fp) ht (λs H C cl fp=>he s H C cl fp) hs) λD σ H h=>?_;exact aa7 hj σ H _ (agx D σ H h)
end
def ajS(t:Tr)(c:Tc)(elt tg iter:Expr)(ifs:List Expr)(scope:Scope):Option IF:=
 (t.I c false tg iter).bind λit=>(GZ (c.inn scope) tg).bind λjt=>(XD t (c.inn scope) ifs).bind λtt=>(t.E (c.inn scope) elt).bind λte=>
  gd (blkC c.N c.sc scope (mZ tg jt.1)&&(Qv jt.1 ((mZ tg jt.1).map (·.2))&&!yR iter)) (some (Cu it jt.2 ((mZ tg jt.1).map (·.2)) tt te))
def Yr(t:Tr)(c:Tc)(x:Str)(p:Pos)(elt tg iter:Expr)(ifs:List Expr)(scope:Scope)(cpos:Pos):Option SF:=
 (tX c x).bind λj=>gd (swB c.sc (.ListComp elt [⟨tg,iter,ifs,0⟩] scope cpos) scope x p || !(p.line==(Expr.ListComp elt [⟨tg,iter,ifs,0⟩] scope cpos).pos.line))
  (match c.ml.contains x with
  |true=>(ajS t c elt tg iter ifs scope).bind λf=>some (yx j f)
  |false=>(aci t c elt tg iter ifs scope).bind λf=>some (aU (ao j) (gOf f)))
section
variable{aj:aK}{c:Tc}{X:Cx}{W:WX}{k:Nat}{t:Tr}{q:Bool}
def ae8(o:t.Ok)(a:u6 aj c X W k){x:Str}{p cpos pos:Pos}{elt tg iter:Expr}{ifs:List Expr}{scope:Scope}{f:SF}(h:Yr t c x p elt tg iter ifs scope cpos=some f):SE aj X W q (.Assign [.Name x p] (.ListComp elt [⟨tg,iter,ifs,0⟩] scope cpos) pos) f:=by
 unfold Yr at h;obtain⟨j,hj,h⟩;let⟨hsw,h⟩:=aQ.mp h
 let⟨s1,s2,s3⟩:=lC a.toAmb hj
 rw[awF]at hsw;left
 .obtain⟨f1,h1,h⟩;cases h;unfold ajS at h1;let⟨it,h2,h1⟩:=avF.mp h1
  let⟨⟨js,tf⟩,h3,h1⟩:=avF.mp h1
  let⟨tt,h4,h1⟩:=avF.mp h1
  let⟨te,h5,h1⟩:=avF.mp h1
  let⟨hb,h1⟩:=aQ.mp h1
  cases h1;simp![avD,avU]at hb;let⟨b1,b2,b3⟩:=hb
  rcases hsw with hsw|hsw
  .rw[<-a.hs]at hsw;let⟨l1,l2⟩:=Ws (l:=pos.line) a.kf hsw
   exact an9 a.calm a.nd s1 l1 l2 (o.oi a.toAmb h2) (by rw[a.hN,a.hs];exact b1) (pO b2) (λs H C cl fp=>rF (a.toAmb.inn scope s H C cl fp) h3) (λs H C cl fp=>wB o (a.toAmb.inn scope s H C cl fp) h4) (λs H C cl fp=>o.oe (a.toAmb.inn scope s H C cl fp) h5) (pH b3)
  .exact agb a.nd s1 s2 s3 (ao9 a.calm a.nd (o.oi a.toAmb h2) (by rw[a.hN,a.hs];exact b1) (pO b2) (λs H C cl fp=>rF (a.toAmb.inn scope s H C cl fp) h3) (λs H C cl fp=>wB o (a.toAmb.inn scope s H C cl fp) h4) (λs H C cl fp=>o.oe (a.toAmb.inn scope s H C cl fp) h5) (pH b3)) (afG (by simpa using hsw))
 .obtain⟨f1,h1,h⟩;cases h;rcases hsw with hsw|hsw
  .rw[<-a.hs]at hsw;let⟨l1,l2⟩:=Ws (l:=pos.line) a.kf hsw
   unfold aci at h1;let⟨it,h2,h1⟩:=avF.mp h1
   let⟨⟨js,tf⟩,h3,h1⟩:=avF.mp h1
   let⟨tt,h4,h1⟩:=avF.mp h1
   let⟨te,h5,h1⟩:=avF.mp h1
   let⟨hb,h1⟩:=aQ.mp h1
   cases h1;simp![avD,avU]at hb;let⟨b1,b2,b3⟩:=hb
   exact aok a.calm a.nd s1 l1 l2 (o.oi a.toAmb h2) (by rw[a.hN,a.hs];exact b1) (pO b2) (λs H C cl fp=>rF (a.toAmb.inn scope s H C cl fp) h3) (λs H C cl fp=>wB o (a.toAmb.inn scope s H C cl fp) h4) (λs H C cl fp=>o.oe (a.toAmb.inn scope s H C cl fp) h5) (pH b3)
  .exact aaM (ajE (aew o a.toAmb h1)) (QX a.nd s1 s2 s3) (afG (l:=pos.line) (by simpa using hsw)) #[rfl] #[rfl]
end
def yF{tg e:Expr}{l:Nat}{env:PySem.Env}(h:Dj e=false):swapsWithSole [tg] e l env=pure false:=Jy h
def akG{x:Str}{p spos:Pos}{i:Expr}{env:PySem.Env}(h:Pg i=false):∀v,assign (.Subscript (.Name x p) i spos) env v=(do
   let ov <-holding [v] (eval (.Name x p) env)
   let iv <-holding [v,ov] (eval i env)
   standAt spos
   holding [v,ov,iv] (setItem ov iv v)
   release [v,ov,iv] []):=λv=>by
 cases i<;>first | (with_unfolding_all rfl) | cases h
def aeD(t:Tr)(s:Ts)(c:Tc):Expr->Expr->Option SF
 |.Name x p,.ListComp elt [⟨tg,iter,ifs,0⟩] scope cpos=>Yr t c x p elt tg iter ifs scope cpos
 |.Name x _,e=>(tX c x).bind λj=>match c.ml.contains x with
  |true=>(trN t c e).bind λf=>some (yx j f)
  |false=>gd (!Dj e) ((s.G c e).bind λf=>some (aU (ao j) f))
 |.Tuple [.Name x _,.Starred (.Name y _) _] _ _,e=>(tX c x).bind λi=>(tX c y).bind λj=>gd (!Dj e&&!aeR e) ((s.G c e).bind λf=>some (aar i j f))
 |.Tuple ts _ _,e=>(abM c ts).bind λjs=>gd (!Dj e&&!aeR e) ((s.G c e).bind λf=>some (aU (aV js) f))
 |.Subscript (.Name x _) i _,e=>(uE c x).bind λj=>gd (c.ml.contains x&&(!Dj e&&!Pg i)) ((t.E c e).bind λf=>(t.E c i).bind λfi=>some (Ro j fi f))
 |_,_=>none
def Le{tg e:Expr}{env:PySem.Env}(h:aeR e=false):swappedStores [tg] e env=pure none:=by cases tg<;>first | rfl | (cases e<;>first | rfl | cases h)
section
variable{aj:aK}{c:Tc}{X:Cx}{W:WX}{k:Nat}{t:Tr}{s:Ts}{q:Bool}
def aiN(o:t.Ok)(os:s.Ok q)(a:u6 aj c X W k){tg e:Expr}{pos:Pos}{f:SF}(h:aeD t s c tg e=some f):SE aj X W q (.Assign [tg] e pos) f:=by
 unfold aeD at h;left
 .exact ae8 o a h
 .obtain⟨j,hj,h⟩;let⟨s1,s2,s3⟩:=lC a.toAmb hj
  left
  .obtain⟨f1,h1,h⟩;cases h;let⟨i1,i2⟩:=af8 o a.toAmb h1
   exact agb a.nd s1 s2 s3 i1 (Jy i2)
  .let⟨hc,h⟩:=aQ.mp h
   obtain⟨f1,h1,h⟩;cases h;exact aaM (os.og a h1) (QX a.nd s1 s2 s3) (yF (by simpa using hc)) #[rfl] #[rfl]
 .obtain⟨i,hi,h⟩;obtain⟨j,hj,h⟩;let⟨hc,h⟩:=aQ.mp h
  obtain⟨f1,h1,h⟩;cases h;simp![avD,avU]at hc;exact alj a.calm a.nd (lC a.toAmb hi) (lC a.toAmb hj) (os.og a h1) (yF hc.1) (Le hc.2)
 .obtain⟨js,hj,h⟩;let⟨hc,h⟩:=aQ.mp h
  obtain⟨f1,h1,h⟩;cases h;simp![avD,avU]at hc;exact aaM (os.og a h1) (ahr a.calm a.nd (Xb a.toAmb hj)) (yF hc.1) (Le hc.2) #[rfl]
 .obtain⟨j,hj,h⟩;let⟨hc,h⟩:=aQ.mp h
  obtain⟨f1,h1,h⟩;obtain⟨fi,h2,h⟩;cases h;simp![avD,avU]at hc;let⟨s1,s2,s3,s4⟩:=qJ a.toAmb hj
  exact akO s1 s2 s3 s4 (o.oe a.toAmb h1) (o.oe a.toAmb h2) (akG hc.2.2) (yF hc.2.1) #[rfl]
 .cases h
end
def Vv(j:Nat)(Z:Env):Env:=match Z[j]? with
 |some (some (.mut xs))=>Z.set j #[.list xs]
 |_=>Z
def abg(j:Nat)(f:SF):SF:=λM Z=>match f M (Vv j Z) with
 |.ret d M'=>.ret d M'
 |_=>.bad
def Gh.of(g:Gh)(P:Addr->Prop):Gh:={ g with Lo:=P }
def Gh.bj(g g':Gh):Gh:={ g' with Lo:=λa=>g'.Lo a\/g.Lo a }
theorem Gr.bj{q:Bool}{g g':Gh}{H H':Hp}{P:Addr->Prop}(hP:∀a,P a->g.Lo a)(r:Gr q (g.of P) g' H H'):Gr q g (g.bj g') H H' where
 keep:=λa o h n m=>r.keep a o h n λz=>m (hP a z)
 keepW:=r.keepW
 dom:=r.dom
 tbl:=r.tbl
 W:=r.W
 nW:=r.nW
 qg:=r.qg
 Lc:=r.Lc
 Lo:=λ_ h=>.inr h
 nLo:=λa h=>h.elim (λz=>(r.nLo a z).elim (λp=>.inl (hP a p)) .inr) .inl
theorem SInv.Vv{K:avC}{aj:aK}{g:Gh}{H:Hp}{σ:L2.St}{Z:Env}{M:Mo}(j:Nat)(I:SInv K aj σ H g Z M):∃P:Addr->Prop,(∀a,P a->g.Lo a)/\SInv K aj σ H (g.of P) (Rf.Vv j Z) M:=by
 unfold Rf.Vv;split
 .next xs hj=>
  let⟨l,us,e1,e2,e3,e4⟩:=I.own j xs hj
  have n:∀a,(g.of λa=>g.Lo a/\a≠l).A a->g.A a:=λa z=>z.elim .inl λz=>.inr (z.elim .inl λz=>.inr z.1);have hl:j<Z.length:=(avH.mp hj).1;have sg:∀i,i≠j->(Z.set j #[.list xs])[i]?=Z[i]?:=λi e=>avL e.symm;have sj:(Z.set j #[.list xs])[j]?=some #[.list xs]:=by rw[avV hl]
  refine⟨λa=>g.Lo a/\a≠l,λa z=>z.1,⟨λa z=>I.kd.ob a (n a z),λa z=>I.kd.lo a z.1,λa z=>⟨(I.kd.lc a z).1,λy=>(I.kd.lc a z).2 y.1⟩⟩,gM.less (g:=g) rfl rfl n I.wok,by rw[av4];exact I.len,λi d h=>?_,λi ys h=>?_,λi k ys zs b ne h1 h2=>?_⟩
  .by_cases e:i=j
   .subst e;rw[sj]at h;cases h;refine⟨_,e1,.lst (.inl ⟨.inl e2,λz=>?_⟩) (aA.less (g:=g) (g':=g.of λa=>g.Lo a/\a≠l) rfl n e4)⟩;rcases z with z|z|z
    .exact I.kd.lo l e3 z
    .exact(I.kd.lc l z).2 e3
    .exact z.2 rfl
   .rw[sg i e]at h;let⟨v,q1,q2⟩:=I.dat i d h
    exact⟨v,q1,Rep.less (g:=g) (g':=g.of λa=>g.Lo a/\a≠l) rfl n q2⟩
  .by_cases e:i=j
   .subst e;rw[sj]at h;cases h
   .rw[sg i e]at h;let⟨l2,us2,q1,q2,q3,q4⟩:=I.own i ys h
    refine⟨l2,us2,q1,q2,⟨q3,λz=>?_⟩,aA.less (g:=g) (g':=g.of λa=>g.Lo a/\a≠l) rfl n q4⟩;subst z;exact I.sep i j ys xs l2 e h hj q1 e1
  .by_cases e:i=j
   .subst e;rw[sj]at h1;cases h1
   .by_cases e2:k=j
    .subst e2;rw[sj]at h2;cases h2
    .rw[sg i e]at h1;rw[sg k e2]at h2;exact I.sep i k ys zs b ne h1 h2
 .exact⟨g.Lo,λa z=>z,I⟩
def aoI{X:Cx}{aj:aK}{W:WX}{q:Bool}{ss:List Stmt}{f:SF}(j:Nat)(h:Aj aj X W q ss f):Aj aj X W q ss (abg j f):=by
 refine PSs.weak h λD σ H ⟨g,Z,M,I,z⟩=>?_;let⟨P,hP,J⟩:=I.Vv j
 refine⟨g.of P,Vv j Z,M,J,?_⟩;unfold abg at z;cases hf:f M (Vv j Z) with
 |ret d M'=>
  rw[hf]at z;exact λv H' g' r k w y=>z v H' (g.bj g') (r.bj hP) k w y
 |next Z' M'=>rw[hf]at z;exact awN z
 |brk Z' M'=>rw[hf]at z;exact awN z
 |cont Z' M'=>rw[hf]at z;exact awN z
 |exc x Z' M'=>rw[hf]at z;exact awN z
 |bad=>rw[hf]at z;exact awN z
def tjN(ml:List Str):Stmt->Option Str
 |.Assign [.Subscript (.Name x _) _ _] (.Tuple es _ _) _=>es.findSome? fun
  |.Name y _=>match ml.contains y&&!(y==x) with
   |true=>some y
   |false=>none
  |_=>none
 |_=>none
def tjW(c:Tc)(a:Stmt)(f:SF):SF:=match (tjN c.ml a).bind (tX c) with
 |some j=>abg j f
 |none=>f
def akM{X:Cx}{aj:aK}{W:WX}{q:Bool}{ss:List Stmt}{f:SF}(c:Tc)(a:Stmt)(h:Aj aj X W q ss f):Aj aj X W q ss (tjW c a f):=by
 unfold tjW;split
 .exact aoI _ h
 .exact h
def afo(s:Ts)(c:Tc):List Stmt->Option SF
 |[]=>some aD
 |[a]=>s.S c a
 |a::b::r=>(s.S c a).bind λf=>(s.B c (b::r)).bind λg=>some (tjW c a (ak f g))
def stS(t:Tr)(s:Ts)(c:Tc):Stmt->Option SF
 |.Assign [tg] e _=>aeD t s c tg e
 |.Assign [.Name x _,.Name y _] e _=>(tX c x).bind λi=>(tX c y).bind λj=>gd (!aeR e) ((s.G c e).bind λf=>some (Vs i j f))
 |.AugAssign (.Name x _) .Add e _=>(tX c x).bind λj=>(t.E c e).bind λf=>some (Jg j f)
 |.Expr (.Call (.Attribute (.Name x _) m apos) [e] [] pos) _=>(uE c x).bind λj=>gd (m=="append"&&(c.ml.contains x&&(nst e&&(apos.endLine==pos.line)))) ((t.E c e).bind λf=>some (Gn j f))
 |.Return (some e) _=>(match t.E c e with
  |some f=>some (aM f)
  |none=>(s.G c e).bind λf=>some (cR f))
 |.If d s1 s2 _=>(s.B c s1).bind λf=>(s.B c s2).bind λg=>(t.T c d).bind λtd=>some (bf td f g)
 |.For tg iter body [] _=>(t.I c true tg iter).bind λit=>(GZ c tg).bind λjt=>(s.B c body).bind λf=>gd (!yR iter) (some (nQ it jt.2 f))
 |_=>none
section
variable{aj:aK}{c:Tc}{X:Cx}{W:WX}{k:Nat}{t:Tr}{s:Ts}{q:Bool}
def aiu(os:s.Ok q)(a:u6 aj c X W k){b:List Stmt}{f:SF}(h:afo s c b=some f):Aj aj X W q b f:=by
 unfold afo at h;left
 .cases h;exact ami
 .exact aoJ (os.os a h)
 .obtain⟨f1,h1,h⟩;obtain⟨f2,h2,h⟩;cases h;exact akM _ _ (alg (os.os a h1) (os.ob a h2))
def aoE(o:t.Ok)(os:s.Ok q)(a:u6 aj c X W k){st:Stmt}{f:SF}(h:stS t s c st=some f):SE aj X W q st f:=by
 unfold stS at h;left
 .exact aiN o os a h
 .obtain⟨i,hi,h⟩;obtain⟨j,hj,h⟩;let⟨hc,h⟩:=aQ.mp h
  obtain⟨f1,h1,h⟩;cases h;exact akD a.nd (lC a.toAmb hi) (lC a.toAmb hj) (os.og a h1) #[rfl]
 .obtain⟨j,hj,h⟩;obtain⟨f1,h1,h⟩;cases h;let⟨s1,s2,s3⟩:=lC a.toAmb hj
  exact al6 a.nd s1 s2 s3 (o.oe a.toAmb h1)
 .obtain⟨j,hj,h⟩;let⟨hc,h⟩:=aQ.mp h
  obtain⟨f1,h1,h⟩;cases h;simp![avD]at hc;cases awV hc.1;let⟨s1,s2,s3,s4⟩:=qJ a.toAmb hj
  exact amQ s1 s2 s3 s4 (o.oe a.toAmb h1) hc.2.2.1 hc.2.2.2
 .left
  .next f1 h1=>
   cases h;exact anO (o.oe a.toAmb h1)
  .obtain⟨f1,h1,h⟩;cases h;exact aly (os.og a h1)
 .obtain⟨f1,h1,h⟩;obtain⟨f2,h2,h⟩;obtain⟨td,h3,h⟩;cases h;exact apf (o.ot a.toAmb h3) (os.ob a h1) (os.ob a h2)
 .obtain⟨it,h1,h⟩;obtain⟨⟨js,tf⟩,h2,h⟩;obtain⟨f1,h3,h⟩;let⟨hc,h⟩:=aQ.mp h
  cases h;exact aoK a.ps a.calm (o.oi a.toAmb h1) (rF a.toAmb h2) (os.ob a h3) (pH (by simpa using hc))
 .cases h
end
abbrev GA:=Mo->Env->aY (List Dat)
def amD(a:GF)(r:GA):GA:=λM Z=>(a M Z).bind λd M1=>(r M1 Z).bind λds M2=>.ok (d::ds) M2
def anq(m:Mo->List Dat->aY Dat)(as:GA):GF:=λM Z=>(as M Z).bind λds M1=>m M1 ds
def aoX(m:Mo->List Dat->Out Dat)(as:GA):GF:=λM Z=>(as M Z).bind λds M1=>(m M1 ds).at M1
section
variable{X:Cx}{aj:aK}{W:WX}{q:Bool}{a b e:Expr}{es:List Expr}{pos p:Pos}
variable{x:Str}{k:Nat}{f:Addr}{fd:FuncData}{ps:List Str}
def apr(a:GT):GT:=λM Z=>(a M Z).bind λb M1=>.ok (!b) M1
def apR(a b:GT):GT:=λM Z=>(a M Z).bind λx M1=>if x=true then b M1 Z else .ok false M1
def aqV(a b:GT):GT:=λM Z=>(a M Z).bind λx M1=>if x=true then .ok true M1 else b M1 Z
def ap2(a:GF):GT:=λM Z=>(a M Z).bind λd M1=>(MK d).at M1
end
section
variable{aj:aK}{c:Tc}{X:Cx}{W:WX}{k:Nat}{t:Tr}{s:Ts}{q:Bool}
def xG(t:Tr)(s:Ts)(c:Tc):Expr->Option GF
 |.Call (.Name x _) [] [] _=>(match c.G.lookup x with
  |some (.cls 0 m)=>gd (HX c.sc x&&!Ja x) (some (Ds x m dI))
  |_=>none)
 |.Call (.Name x _) (e::es) [] _=>(match c.G.lookup x with
  |some (.fg n m)=>gd (HX c.sc x&&(!Ja x&&decide ((e::es).length=n))) ((Nf t c (e::es)).bind λas=>some (BP m as))
  |some (.cls n m)=>gd (HX c.sc x&&(!Ja x&&decide ((e::es).length=n))) ((Nf t c (e::es)).bind λas=>some (Ds x m as))
  |_=>none)
 |.Call (.Attribute o m apos) es [] pos=>(c.hs.Ms.lookup m).bind λtb=>(t.W c o).bind λfo=>(Nf t c es).bind λas=>
  gd (tbN tb (es.length+1)&&(baseOk o&&(decide (es.length<30)&&(apos.endLine==pos.line)))) (some (bJ tb fo as))
 |_=>none
def aqd(o:t.Ok)(os:s.Ok false)(a:u6 aj c X W k){e:Expr}{f:GF}(h:xG t s c e=some f):GE aj X W false e f:=by
 unfold xG at h;left
 .left
  .next m hl=>
   let⟨hb,h⟩:=aQ.mp h
   cases h;simp![avD,avU]at hb;exact ak9 a.rm (a.gl _ _ hl) (uz a.toAmb hb.1) (uK hb.2).1
  .cases h
 .left
  .next n m hl=>
   let⟨hb,h⟩:=aQ.mp h
   simp![avD,avU,awO]at hb;let⟨b1,b2,b3⟩:=hb
   let⟨fa,hm,hk,fd,ps,j,hj,hp,hB,F⟩:=a.gl _ _ hl
   obtain⟨as,h1,h⟩;cases h;let⟨i1,i2,i3⟩:=xH o a.toAmb h1
   exact alP (a.tw hl rfl) F (a.rm.mono hj) (uz a.toAmb b1) hm hk hB i1 (b3.trans hp.symm) (uK b2).1 i2 i3
  .next n m hl=>
   let⟨hb,h⟩:=aQ.mp h
   simp![avD,avU,awO]at hb;let⟨b1,b2,b3⟩:=hb
   obtain⟨as,h1,h⟩;cases h;let⟨i1,i2,i3⟩:=xH o a.toAmb h1
   exact amY a.rm (a.gl _ _ hl) (uz a.toAmb b1) (uK b2).1 i1 i2 (λM Z ds z=>by rw[i3 M Z ds z];exact b3)
  .cases h
 .next b m apos es pos=>
  obtain⟨tb,h1,h⟩;obtain⟨fo,h2,h⟩;obtain⟨as,h3,h⟩;let⟨hb,h⟩:=aQ.mp h
  cases h;simp![avD,awO]at hb;let⟨b2,b3,b4,b5⟩:=hb
  let⟨i1,i2,i3⟩:=xH o a.toAmb h3
  cases es with
  |nil=>
   cases h3;exact aiP (a.tm h1) a.rm (aay a.toAmb h1 b2) (o.ow a.toAmb h2) b3 b5
  |cons e es=>exact akP (a.tm h1) a.rm (aay a.toAmb h1 b2) (o.ow a.toAmb h2) i1 i3 b3 i2 b5 b4
 .cases h
def Mg{e o:Expr}{f:Str}{p:Pos}{l:Nat}{env:PySem.Env}:swapsWith e (some (.Attribute o f p)) l env=pure false:=by cases e<;>rfl
def abV{e o:Expr}{i:Expr}{p:Pos}{l:Nat}{env:PySem.Env}:swapsWith e (some (.Subscript o i p)) l env=pure false:=by cases e<;>rfl
def ais{o:Expr}{f:Str}{p spos:Pos}{i:Expr}{env:PySem.Env}(h:Pg i=false):∀v,assign (.Subscript (.Attribute o f p) i spos) env v=(do
   let ov <-holding [v] (eval (.Attribute o f p) env)
   let iv <-holding [v,ov] (eval i env)
   standAt spos
   holding [v,ov,iv] (setItem ov iv v)
   release [v,ov,iv] []):=λv=>by
 cases i<;>first | (with_unfolding_all rfl) | cases h
def aoQ(t:Tr)(c:Tc)(kx tg iter:Expr)(scope:Scope):Option (Mo->Env->Out (List (Dat×Dat))):=
 (t.I c false tg iter).bind λit=>(GZ (c.inn scope) tg).bind λjt=>(t.E (c.inn scope) kx).bind λte=>
  gd (blkC c.N c.sc scope (mZ tg jt.1)&&(Qv jt.1 ((mZ tg jt.1).map (·.2))&&!yR iter)) (some (qDc it jt.2 ((mZ tg jt.1).map (·.2)) te))
def X8(a:Amb aj c X W k):X.A.units+64<cLine:=by have:=a.rm.un;omega
def ai9(t:Tr)(s:Ts)(c:Tc)(o:Expr)(f:Str):Expr->Option SF
 |.Dict [] [] _=>(t.W c o).bind λfo=>(c.hs.df.lookup f).bind λb=>some (QK c.hs.ft fo f b)
 |.DictComp kx (.Constant (.bool true) _ _) [⟨tg,iter,[],0⟩] scope _=>(t.W c o).bind λfo=>(aoQ t c kx tg iter scope).bind λfe=>some (VD c.hs.ft fo f fe)
 |.List es p=>(t.W c o).bind λfo=>(trN t c (.List es p)).bind λfe=>some (Iu c.hs.ft fo f fe)
 |e=>gd (!Dj e) ((t.W c o).bind λfo=>(s.G c e).bind λfe=>some (wu c.hs.ft fo f fe))
def aj5(ot:t.Ok)(os:s.Ok false)(a:u6 aj c X W k){o e:Expr}{f:Str}{p pos:Pos}{sf:SF}(h:ai9 t s c o f e=some sf):SE aj X W false (.Assign [.Attribute o f p] e pos) sf:=by
 have hk:=a.hk;unfold ai9 at h;left
 .obtain⟨fo,h1,h⟩;obtain⟨b,h2,h⟩;cases h;exact ali hk.co hk.fk hk.hw (ot.ow a.toAmb h1) Mg
 .obtain⟨fo,h1,h⟩;obtain⟨fe,h2,h⟩;cases h;unfold aoQ at h2;let⟨it,i1,h2⟩:=avF.mp h2
  let⟨⟨js,tf⟩,i2,h2⟩:=avF.mp h2
  let⟨te,i3,h2⟩:=avF.mp h2
  let⟨hb,h2⟩:=aQ.mp h2
  cases h2;simp![avD,avU]at hb;let⟨b1,b2,b3⟩:=hb
  exact akA hk.co hk.fk (ot.ow a.toAmb h1) (al1 (g:=zp X.K aj js tf) (tk:=tQ X.K aj WF te) a.calm a.nd (X8 a.toAmb) (ot.oi a.toAmb i1) (blkOk_by (by rw[a.hN,a.hs];exact b1)) (λs H C cl fp=>rF (a.toAmb.inn _ s H C cl fp) i2) (λs H C cl fp=>ot.oe (a.toAmb.inn _ s H C cl fp) i3) (pH b3)) (λσ H Q z=>ao7 hk.hw (pO b2) σ H Q z) Mg
 .obtain⟨fo,h1,h⟩;obtain⟨fe,h2,h⟩;cases h;exact akT hk.co hk.fk (ot.ow a.toAmb h1) (af8 ot a.toAmb h2).1 Mg
 .let⟨hc,h⟩:=aQ.mp h
  obtain⟨fo,h1,h⟩;obtain⟨fe,h2,h⟩;cases h;exact alG hk.co hk.fk (ot.ow a.toAmb h1) (os.og a h2) Mg
def ab5(n:Str):List Expr->Option (List Str)
 |[]=>some []
 |.Attribute (.Name m _) f _::es=>gd (m==n) ((ab5 n es).bind λfs=>some (f::fs))
 |_=>none
def aeN(nm:Option Str):Expr->Option IK
 |.Constant (.str x) _ _=>some (.con (.str x))
 |.Constant .none _ _=>some (.con .none)
 |.Tuple [] _ _=>some (.con (.tuple []))
 |.Attribute (.Name m _) f _=>nm.bind λn=>gd (m==n) (some (.fld f))
 |.Tuple es _ _=>nm.bind λn=>(ab5 n es).bind λfs=>some (.flds fs)
 |_=>none
def IK.fs:IK->List Str
 |.con _=>[]
 |.fld f=>[f]
 |.flds fs=>fs
def afi(c:Tc)(nm:Option Str):List Stmt->Option (List (Nat×IK))
 |[]=>some []
 |.Assign [.Name x _] e _::r=>(tX c x).bind λj=>(aeN nm e).bind λse=>(afi c nm r).bind λst=>some ((j,se)::st)
 |_=>none
def Yo(c:Tc):Option Str->Option (Option Nat)
 |none=>some none
 |some n=>(uE c n).bind λi=>match c.sc.names.lookup n with
  |some .local=>some (some i)
  |_=>none
def ao3(c:Tc):ExceptHandler->Option Hd
 |.ExceptHandler (some (.Name y _)) nm (s0::su) _=>(c.hs.xm.lookup y).bind λtab=>(Yo c nm).bind λi=>(afi c nm (s0::su)).bind λst=>
  (match c.G.lookup y with
  |some .exc=>some true
  |some (.exi _)=>some true
  |_=>none).bind λ_=>
  gd (HX c.sc y&&(!Ja y&&(st.all (λp=>match i with
   |some j=>!(j==p.1)
   |none=>true)&&st.all (λp=>p.2.fs.all (λf=>((c.hs.xf.lookup y).getD []).contains f)&&decide (p.2.fs.length<=100))))) (some ⟨y,λx=>tab.lookup x,i,st⟩)
 |_=>none
def VB(c:Tc):List ExceptHandler->Option (List Hd)
 |[]=>some []
 |h::hs=>(ao3 c h).bind λd=>(VB c hs).bind λds=>some (d::ds)
theorem aev{y n:Str}{C:Addr}{a:Addr}{oe:Obj}{cls:Value}{d:Option Addr}{pn:List (Addr×Obj)}{j:Nat}{fl:List Str}(hC:aj y=some C)(T:XfC X.K C)(hno:∀f∈fl,PySem.W.findIn X.K (.ref C) f=some none)(hz:Zc cls d oe)(hf:∃vs,oe.data=.fields vs)(hN:X.N[j]?=some n)(hv:Vis X.env.scope n)(hd:(n==("__debug__" : Str))=false)(hcd:(n==("__classdict__" : Str))=false) :
  ∀{es:List Expr} {fs:List Str},ab5 n es=some fs->(∀f∈fs,f∈fl)->PA (X.suite a ((a,oe)::pn)) es (tUA X.K aj a cls d (some j) λx=>Wd y x fs)
 |[],fs,h,_=>by
  cases h;exact afL
 |.Attribute (.Name m p) f p2::es,fs,h,hs=>by
  rw[ab5]at h;let⟨hm,h⟩:=aQ.mp h
  obtain⟨fr,h1,h⟩;cases h;cases awV hm;exact ale (afP hC T (hno f (hs f avI)) hz hf hN hv hd hcd) (aev hC T hno hz hf hN hv hd hcd h1 λf hf=>hs f (avG _ hf)) rfl
def alX{y:Str}{nm:Option Str}{i:Option Nat}{a:Addr}{oe:Obj}{cls:Value}{d:Option Addr}{pn:List (Addr×Obj)}{e:Expr}{se:IK}(am:Amb aj c X W k)(hi:Yo c nm=some i)(hy:(c.hs.xf.lookup y).getD []=fl)(hfl:∀f∈se.fs,f∈fl)(hl:se.fs.length<=100)(hz:Zc cls d oe)(hf:∃vs,oe.data=.fields vs)(h:aeN nm e=some se) :
  PE (X.suite a ((a,oe)::pn)) e (tU X.K aj a cls d i λx=>aaC y x se):=by
 have fld:∀n j,nm=some n->i=some j->X.N[j]?=some n/\Vis X.env.scope n/\(n==("__debug__" : Str))=false/\(n==("__classdict__" : Str))=false:=λn j e1 e2=>by
  subst e1 e2;unfold Yo at hi;let⟨j',h1,hi⟩:=avF.mp hi
  split at hi
  .cases hi;exact qJ am h1
  .cases hi
 have hsome:∀n,nm=some n->∃j,i=some j:=λn e1=>by
  subst e1;unfold Yo at hi;let⟨j',h1,hi⟩:=avF.mp hi
  split at hi
  .cases hi;exact⟨_,rfl⟩
  .cases hi
 have hxf:fl≠[]->∃C,aj y=some C/\XfC X.K C/\∀f∈fl,PySem.W.findIn X.K (.ref C) f=some none:=λne=>by
  cases hx:c.hs.xf.lookup y with
  |none=>
   rw[hx]at hy;exact absurd hy.symm ne
  |some l=>
   rw[hx]at hy;cases hy;exact am.hk.xf y _ hx
 unfold aeN at h;left
 .cases h;exact ahk pe_str λσ H Q ⟨g,Z,M,x,z,I,e,kk⟩=>by
   cases e;exact kk _ H (Ex.refl H) (.str _)
 .cases h;exact ahk pe_non λσ H Q ⟨g,Z,M,x,z,I,e,kk⟩=>by
   cases e;exact kk _ H (Ex.refl H) .non
 .cases h;exact PE.weak (agz (aj:=aj) (cls:=cls) (d:=d) (i:=i) afL λx zs e=>by cases e;exact awg _) λσ H Q z=>z
 .obtain⟨n,e1,h⟩;let⟨hm,h⟩:=aQ.mp h
  cases h;cases awV hm;let⟨j,rfl⟩:=hsome _ e1
  let⟨f1,f2,f3,f4⟩:=fld _ j e1 rfl
  let⟨C,c1,c2,c3⟩:=hxf (List.ne_nil_of_mem (hfl _ (avJ.mpr rfl)))
  exact afP c1 c2 (c3 _ (hfl _ (avJ.mpr rfl))) hz hf f1 f2 f3 f4
 .next es _ _ hne=>
  obtain⟨n,e1,h⟩;obtain⟨fs,e2,h⟩;cases h;let⟨j,rfl⟩:=hsome _ e1
  let⟨f1,f2,f3,f4⟩:=fld _ j e1 rfl
  have hfs:fs≠[]:=λz=>by
   subst z
   match es,e2 with
   |[],_=>exact hne rfl
   |.Attribute (.Name m _) f _::es,e2=>
    rw[ab5]at e2;let⟨_,e2⟩:=aQ.mp e2
    let⟨_,_,e2⟩:=avF.mp e2
    cases e2
  have hfn:fl≠[]:=by
   cases fs with
   |nil=>exact absurd rfl hfs
   |cons f r=>exact List.ne_nil_of_mem (hfl f avI)
  let⟨C,c1,c2,c3⟩:=hxf hfn
  exact agz (aev c1 c2 c3 hz hf f1 f2 f3 f4 e2 hfl) λx zs e=>by
   have:=ZV e;have hl:fs.length<=100:=hl;omega
 .cases h
theorem XM{y:Str}{nm:Option Str}{i:Option Nat}{a:Addr}{oe:Obj}{cls:Value}{d:Option Addr}{pn:List (Addr×Obj)}{fl:List Str}(am:Amb aj c X W k)(hi:Yo c nm=some i)(hy:(c.hs.xf.lookup y).getD []=fl)(hz:Zc cls d oe)(hf:∃vs,oe.data=.fields vs) :
  ∀{ss:List Stmt} {st:List (Nat×IK)},afi c nm ss=some st->(∀p∈st,(∀f∈p.2.fs,f∈fl)/\p.2.fs.length<=100)->PSs (X.suite a ((a,oe)::pn)) ss (tSu X.K aj a cls d i y st)
 |[],st,h,_=>by
  cases h;exact PSs.weak pss_nil λD σ H z=>amW z
 |.Assign [.Name x p] e p2::r,st,h,hs=>by
  rw[afi]at h;obtain⟨j,h1,h⟩;obtain⟨se,h2,h⟩;obtain⟨st',h3,h⟩;cases h;let⟨s1,s2,s3⟩:=lC am h1
  let⟨u1,u2⟩:=hs (j,se) avI
  have he:=alX (a:=a) (pn:=pn) am hi hy u1 u2 hz hf h2;have hne:Dj e=false/\swappedStores [.Name x p] e X.env=pure none:=by unfold aeN at h2;split at h2<;>first | exact⟨rfl,rfl⟩ | cases h2
  refine PSs.weak (pss_cons (ps_asg he (pg_name (X:=X.suite a ((a,oe)::pn)) am.nd s1 s2 s3) (yF hne.1) hne.2 #[rfl]) (XM am hi hy hz hf h3 λp hp=>hs p (avG _ hp))) λD σ H z=>?_;exact amI z λσ' H' z'=>z'
def ark(aj:aK)(K:avC)(h:Hd)(D:Addr):Cl:=⟨.ref D,h.nm,λa cls d=>tSu K aj a cls d h.nm h.y h.st⟩
theorem aaW(am:Amb aj c X W k):∀{hds:List ExceptHandler} {hs:List Hd},VB c hds=some hs->∃ls,Es X hds ls/\JQ X.K aj hs ls
 |[],hs,h=>by
  cases h;exact⟨[],.nil,.nil⟩
 |h0::hds,hs,h=>by
  rw[VB]at h;obtain⟨d,h1,h⟩;obtain⟨ds,h2,h⟩;cases h;let⟨ls,i1,i2⟩:=aaW am h2
  unfold ao3 at h1;split at h1
  .next y np nm s0 su cp=>
   let⟨tab,j1,h1⟩:=avF.mp h1
   let⟨i,j2,h1⟩:=avF.mp h1
   let⟨st,j3,h1⟩:=avF.mp h1
   let⟨_,j4,h1⟩:=avF.mp h1
   let⟨hb,h1⟩:=aQ.mp h1
   cases h1;simp![avD,avU]at hb;let⟨b1,b2,b3,b4⟩:=hb
   let⟨⟨D,hD⟩,hx⟩:=am.hk.xm y tab j1
   have hm:X.mg y=some (.ref D):=by
    split at j4
    .next hl=>
     let⟨C,g1,g2,_⟩:=am.gl y _ hl
     rw[hD]at g2;cases g2;exact g1
    .next hl=>
     let⟨C,fI,fd,ps,g1,g2,_⟩:=am.gl y _ hl
     rw[hD]at g2;cases g2;exact g1
    .cases j4
   have hnames:Names X y (.ref D):=⟨uz am b1,(uK b2).1,.inl hm⟩;have hst:∀p∈st,(∀f∈p.2.fs,f∈(c.hs.xf.lookup y).getD [])/\p.2.fs.length<=100:=λp hp=>by
    have:=av1.mp b4 p hp;rw[avD,awO]at this;exact⟨λf hf=>by simpa using av1.mp this.1 f hf,this.2⟩
   have hnj:∀p∈st,i≠some p.1:=λp hp z=>by
    subst z;have:=av1.mp b3 p hp;simp at this
   refine⟨ark aj X.K ⟨y,λx=>tab.lookup x,i,st⟩ D::ls,?_,.cons ⟨⟨D,hD,rfl⟩,hx,rfl,rfl,hnj⟩ i2⟩;cases nm with
   |none=>
    cases j2;exact .one hnames rfl (λa oe cls d pn hz hf=>XM am rfl rfl hz hf j3 hst) i1
   |some n=>
    have j2':=j2;unfold Yo at j2;let⟨i',s1,j2⟩:=avF.mp j2
    split at j2
    .next hloc=>
     cases j2;refine .as hnames rfl (qJ am s1).1 ?_ (λa oe cls d pn hz hf=>XM am j2' rfl hz hf j3 hst) i1;unfold PySem.Env.kindOf;rw[am.hs];exact hloc
    .cases j2
  .cases h1
def aiJ(a:Amb aj c X W k){h:ExceptHandler}{hds:List ExceptHandler}{hs:List Hd}(z:VB c (h::hds)=some hs):Takes X W:=
 a.tk
theorem u6.tr(a:u6 aj c X W k){W':WX}{pn:List (Addr×Obj)}{xe:Value->Shared->Prop}(t:Takes (X.tr pn xe) W')(p:PassesOwn (model X.prog X.w) X.A X.env xe):u6 aj c (X.tr pn xe) W' k where
 hN:=a.hN
 hs:=a.hs
 calm:=a.calm
 nd:=a.nd
 tk:=t
 rm:=a.rm
 gl:=a.gl
 bl:=a.bl
 fn:=a.fn
 hk:=a.hk
 ps:=p
 st:=a.st
 fr:=a.fr
 kf:=a.kf
def xS(q:Bool)(t:Tr)(s:Ts)(c:Tc):Stmt->Option SF
 |.Raise (some (.Call (.Name x _) [] [] _)) none _=>(match c.G.lookup x with
  |some .exc=>gd (HX c.sc x&&!Ja x) (some (fH x))
  |_=>none)
 |.Raise (some (.Call (.Name x _) (e::es) [] _)) none _=>(match c.G.lookup x with
  |some (.exi fs)=>(Nf t c (e::es)).bind λas=>gd (HX c.sc x&&(!Ja x&&(decide ((e::es).length=fs.length)&&decide (fs.length<=1000)))) (some (Ez x fs as))
  |_=>none)
 |.Try body (h::hds) [] [] _=>(s.B c body).bind λf=>(VB c (h::hds)).bind λhs=>some (Tf f hs)
 |.Pass _=>some aD
 |.Expr (.Call (.Attribute (.Attribute o f p1) m apos) [e] [] pos) epos=>(match q with
  |true=>(s.G c (.Call (.Attribute (.Attribute o f p1) m apos) [e] [] pos)).bind λf=>some (cD f)
  |false=>match m=="append" with
   |true=>gd (baseOk o&&(nst e&&(apos.endLine==pos.line))) ((t.W c o).bind λfo=>(s.G c e).bind λfe=>some (Ip f fo fe))
   |false=>(s.G c (.Call (.Attribute (.Attribute o f p1) m apos) [e] [] pos)).bind λf=>some (cD f))
 |.Expr e _=>gd (!Dj e) ((s.G c e).bind λf=>some (cD f))
 |.Assign [.Name x p] (.ListComp elt [⟨tg,iter,ifs,0⟩,⟨tg1,iter1,ifs1,0⟩] scope cpos) _=>(tX c x).bind λj=>
  gd (swB c.sc (.ListComp elt [⟨tg,iter,ifs,0⟩,⟨tg1,iter1,ifs1,0⟩] scope cpos) scope x p&&!c.ml.contains x) ((VH t c elt tg iter ifs tg1 iter1 ifs1 scope).bind λf=>some (aU (ao j) (gOf f)))
 |.Assign [.Attribute o f _] e _=>(match q with
  |true=>none
  |false=>ai9 t s c o f e)
 |.Assign [.Subscript (.Attribute o f _) i _] e _=>(match q with
  |true=>none
  |false=>gd (baseOk o&&(!Pg i&&!Dj e)) ((t.W c o).bind λfo=>(t.E c i).bind λfi=>(t.E c e).bind λfe=>match c.hs.df.lookup f with
   |some _=>some (QL f fo fi fe)
   |none=>some (Wm f fo fi fe)))
 |.AugAssign (.Attribute o f _) .Add e _=>(match q with
  |true=>none
  |false=>(t.W c o).bind λfo=>(t.E c e).bind λfe=>some (U6 c.hs.ft f fo fe))
 |.Delete [.Subscript (.Attribute o f _) i _] _=>(match q with
  |true=>none
  |false=>gd (baseOk o) ((t.W c o).bind λfo=>(t.E c i).bind λfi=>some (Rc f fo fi)))
 |_=>none
def aqb(o:t.Ok)(os:s.Ok q)(a:u6 aj c X W k){st:Stmt}{f:SF}(h:xS q t s c st=some f):SE aj X W q st f:=by
 have hk:=a.hk;unfold xS at h;left
 .left
  .next hl=>
   let⟨hb,h⟩:=aQ.mp h
   cases h;simp![avD,avU]at hb;exact ajm a.calm a.tk (uz a.toAmb hb.1) (uK hb.2).1 (a.gl _ _ hl)
  .cases h
 .left
  .next fs hl=>
   obtain⟨as,h1,h⟩;let⟨hb,h⟩:=aQ.mp h
   cases h;simp![avD,avU,awO]at hb;let⟨b1,b2,b3,b4⟩:=hb
   let⟨i1,i2,i3⟩:=xH o a.toAmb h1
   exact agj a.calm (a.tw hl rfl) a.rm (uz a.toAmb b1) (uK b2).1 (a.gl _ _ hl) i1 i2 (λM Z ds z=>by rw[i3 M Z ds z];exact b3) b4
  .cases h
 .obtain⟨f1,h1,h⟩;obtain⟨hs,h2,h⟩;cases h;let⟨ls,i1,i2⟩:=aaW a.toAmb h2
  exact anI a.st a.fr a.nd (aiJ a.toAmb h2) (λW' pn xe t p=>os.ob (a.tr t p) h1) i1 i2
 .cases h;exact PS.weak ps_pass λD σ H ⟨g,Z,M,I,z⟩=>z σ H g .refl I
 .left
  .obtain⟨f1,h1,h⟩;cases h;exact Xx (os.og a h1) (Jy rfl)
  .left
   .next hm=>
    let⟨hb,h⟩:=aQ.mp h
    obtain⟨fo,h1,h⟩;obtain⟨fe,h2,h⟩;cases h;simp![avD]at hb;cases awV hm;exact alq hk.co (o.ow a.toAmb h1) hb.1 (os.og a h2) hb.2.1 hb.2.2
   .obtain⟨f1,h1,h⟩;cases h;exact Xx (os.og a h1) (Jy rfl)
 .let⟨hb,h⟩:=aQ.mp h
  obtain⟨f1,h1,h⟩;cases h;exact Xx (os.og a h1) (Jy (by simpa using hb))
 .obtain⟨j,hj,h⟩;let⟨hsw,h⟩:=aQ.mp h
  rw[avD]at hsw;obtain⟨f1,h1,h⟩;cases h;let⟨s1,s2,s3⟩:=lC a.toAmb hj
  have hsw:=hsw.1;rw[<-a.hs]at hsw;have l1:=(Ws (l:=0) a.kf hsw).1;have l2:=λl=>(Ws (l:=l) a.kf hsw).2;clear h;unfold VH at h1;let⟨it,g1,h⟩:=avF.mp h1
  obtain⟨⟨js,tf⟩,h2,h⟩;obtain⟨tt,h3,h⟩;obtain⟨it1,h4,h⟩;obtain⟨⟨js1,tf1⟩,h5,h⟩;obtain⟨tt1,h6,h⟩;obtain⟨te,h7,h⟩;let⟨hb,h⟩:=aQ.mp h
  cases h;simp![avD,avU]at hb;let⟨b1,b2,b3,b4,b5,b6⟩:=hb
  have am:=a.toAmb;exact ak8 a.calm a.nd s1 l1 (l2 _) (o.oi am g1) (by rw[a.hN,a.hs];exact b1) (pO b2) (pO b3) (pO b4) (λs H C cl fp=>rF (am.inn _ s H C cl fp) h2) (λs H C cl fp=>wB o (am.inn _ s H C cl fp) h3) (λs H C cl fp=>o.oi (am.inn _ s H C cl fp) h4) (λs H C cl fp=>rF (am.inn _ s H C cl fp) h5) (λs H C cl fp=>wB o (am.inn _ s H C cl fp) h6) (λs H C cl fp=>o.oe (am.inn _ s H C cl fp) h7) (pH b5) (λenv=>pH b6)
 .left
  .cases h
  .exact aj5 o os a h
 .left
  .cases h
  .let⟨hb,h⟩:=aQ.mp h
   obtain⟨fo,h1,h⟩;obtain⟨fi,h2,h⟩;obtain⟨fe,h3,h⟩;simp![avD,avU]at hb;let⟨b1,b2,b3⟩:=hb
   left
   .cases h;exact alI hk.co hk.hw (X8 a.toAmb) (o.ow a.toAmb h1) b1 (o.oe a.toAmb h2) (o.oe a.toAmb h3) abV
   .cases h;exact alC hk.co (o.ow a.toAmb h1) b1 (o.oe a.toAmb h3) (o.oe a.toAmb h2) (ais b2) (yF b3) #[rfl]
 .left
  .cases h
  .obtain⟨fo,h1,h⟩;obtain⟨fe,h2,h⟩;cases h;exact aj7 hk.co hk.fk (o.ow a.toAmb h1) (o.oe a.toAmb h2)
 .left
  .cases h
  .let⟨hb,h⟩:=aQ.mp h
   obtain⟨fo,h1,h⟩;obtain⟨fi,h2,h⟩;cases h;exact ak6 hk.co hk.hw (X8 a.toAmb) (o.ow a.toAmb h1) hb (o.oe a.toAmb h2)
 .cases h
end
def U8{i j:Nat}(h:i≠j):Keeps j (ao i):=λd Z Z' e z=>by
 cases e;rw[avL h];exact z
theorem RP{j:Nat}:∀(js:List Nat) (ds:List Dat) (Z Z':Env),j∉js->uP js ds Z=some Z'->Z[j]?=some none->Z'[j]?=some none
 |[],[],Z,Z',_,e,z=>by
  cases e;exact z
 |[],_::_,_,_,_,e,_=>by cases e
 |_::_,[],_,_,_,e,_=>by cases e
 |i::js,d::ds,Z,Z',n,e,z=>RP js ds (Z.set i #[d]) Z' (λy=>n (avG _ y)) e (by rw[avL λy=>n (by rw[y];exact avI)];exact z)
def Pb{c:Tc}{e:Expr}{js:List Nat}{tf:dU}{j:Nat}(h:GZ c e=some (js,tf))(n:j∉js):Keeps j tf:=by
 unfold GZ at h;left
 .obtain⟨i,h1,h⟩;cases h;exact U8 λz=>n (by rw[z];exact avI)
 .obtain⟨js',h1,h⟩;cases h;intro d Z Z' e z;unfold aV at e;split at e
  .exact RP _ _ _ _ n e z
  .cases e
 .cases h
def aiK{c:Tc}{e:Expr}{jt:List Nat×dU}{env:PySem.Env}(h:GZ c e=some jt):(assignEach [e] env).map (·.2)=[assign e env]:=by cases e<;>first | (with_unfolding_all rfl) | cases h
def xSD(t:Tr)(c:Tc)(x:Str)(j:Nat):Stmt->Option Ai
 |.Assign [.Subscript (.Name y _) i _] e _=>gd (y==x) ((t.E c i).bind λfk=>(t.E c e).bind λfe=>some (TV fk fe))
 |.Assign [.Tuple ts tk tp] (.Call (.Attribute (.Name y _) m apos) [k,z] [] cpos) _=>gd (y==x&&(m=="get"&&(nst k&&(nst z&&apos.endLine==cpos.line)))) ((GZ c (.Tuple ts tk tp)).bind λjt=>gd (!jt.1.contains j) ((t.E c k).bind λfk=>(t.E c z).bind λfz=>some (S9 fk fz jt.2)))
 |.Assign [.Name y _] e _=>(tX c y).bind λi=>gd (!(i==j)&&!Dj e) ((t.E c e).bind λfe=>some (Tt fe (ao i)))
 |_=>none
def ae1(t:Tr)(c:Tc)(x:Str)(j:Nat):List Stmt->Option Ai
 |[]=>none
 |[s]=>xSD t c x j s
 |s::ss=>(xSD t c x j s).bind λf=>(ae1 t c x j ss).bind λf2=>some (Oa f f2)
def xDI(t:Tr)(c:Tc)(x:Str):Expr->Option DEF
 |.Subscript (.Name y _) e _=>gd (y==x&&!Pg e) ((t.E c e).bind λf=>some (QH (Kh f)))
 |e=>(t.E c e).bind λf=>some (Kh f)
def xDE(t:Tr)(c:Tc)(x:Str):Expr->Option DEF
 |.BinOp a .Add b _=>(xDI t c x a).bind λf=>(xDI t c x b).bind λf2=>some (IV f f2)
 |_=>none
def aij(t:Tr)(c:Tc):List Stmt->Option SF
 |[.Assign [.Name x _] (.Dict [] [] _) _,.For tg iter body [] _,.Return (some (.ListComp elt [⟨tg2,.Call (.Name y _) [.Name z _] [] _,[],0⟩] scope _)) _]=>
  (tX c x).bind λj=>(uE c x).bind λj2=>(t.I c true tg iter).bind λit=>(GZ c tg).bind λjt=>(ae1 t c x j body).bind λf=>
  (GZ (c.inn scope) tg2).bind λjt2=>(uE (c.inn scope) x).bind λj3=>(xDE t (c.inn scope) x elt).bind λfe=>
  gd (j2==j&&(j3==j&&(z==x&&(uU c y "sorted"&&(!jt.1.contains j&&(!yR iter&&(blkC c.N c.sc scope (mZ tg2 jt2.1)&&(Qv jt2.1 ((mZ tg2 jt2.1).map (·.2))&&!((mZ tg2 jt2.1).map (·.2)).contains j))))))))
   (some (Mx j (Uh it jt.2 f) (O7 Gm jt2.2 ((mZ tg2 jt2.1).map (·.2)) fe)))
 |_=>none
section
variable{aj:aK}{c:Tc}{X:Cx}{W:WX}{k:Nat}{t:Tr}{x:Str}{j:Nat}
def ahj(o:t.Ok)(a:u6 aj c X W k)(hj:uE c x=some j){st:Stmt}{f:Ai}(h:xSD t c x j st=some f):PS X st (tD X.K aj j f):=by
 let⟨s1,s2,s3,s4⟩:=qJ a.toAmb hj
 unfold xSD at h;left
 .let⟨hb,h⟩:=aQ.mp h
  obtain⟨fk,h1,h⟩;obtain⟨fe,h2,h⟩;cases h;cases awV hb;exact aoD (X8 a.toAmb) a.hk.hw s1 s2 s3 s4 (o.oe a.toAmb h1) (o.oe a.toAmb h2) abV
 .next kx z cp _=>
  let⟨hb,h⟩:=aQ.mp h
  obtain⟨jt,h0,h⟩;let⟨hn,h⟩:=aQ.mp h
  obtain⟨fk,h1,h⟩;obtain⟨fz,h2,h⟩;cases h;simp![avD]at hb;let⟨b1,b2,b3,b4,b5⟩:=hb
  cases awV b1;cases awV b2;have nj:j∉jt.1:=by simpa using hn
  refine aoC (X8 a.toAmb) a.hk.hw s1 s2 s3 s4 (o.oe a.toAmb h1) (o.oe a.toAmb h2) ⟨gJ rfl,?_,b5,?_⟩ (rF a.toAmb h0) nj (Pb h0 nj) (yF rfl) (Le rfl) (aiK h0)
  .rw[yD _ (by simp[b3,b4])];rfl
  .rw[bH b3,bH b4];rfl
 .obtain⟨i,hi,h⟩;let⟨hb,h⟩:=aQ.mp h
  obtain⟨fe,h1,h⟩;cases h;simp![avD,avU,beq_eq_false_iff_ne]at hb;let⟨n1,n2,n3⟩:=lC a.toAmb hi
  exact amv (o.oe a.toAmb h1) (QX a.nd n1 n2 n3) (by simpa using λz=>hb.1 z.symm) (U8 hb.1) (yF hb.2) #[rfl] #[rfl]
 .cases h
theorem ady(o:t.Ok)(a:u6 aj c X W k)(hj:uE c x=some j):∀{ss:List Stmt} {f:Ai},ae1 t c x j ss=some f->PSs X ss (tD X.K aj j f)
 |[],f,h=>by cases h
 |[s],f,h=>alc (ahj o a hj h)
 |s::s2::ss,f,h=>by
  unfold ae1 at h;obtain⟨f1,h1,h⟩;obtain⟨f2,h2,h⟩;cases h;exact ah4 (ahj o a hj h1) (ady o a hj h2)
def ag7(o:t.Ok)(a:Amb aj c X W k)(hj:uE c x=some j){e:Expr}{f:DEF}(h:xDI t c x e=some f):PE X e (Jd X.K aj j f):=by
 let⟨s1,s2,s3,s4⟩:=qJ a hj
 unfold xDI at h;left
 .let⟨hb,h⟩:=aQ.mp h
  obtain⟨fe,h1,h⟩;cases h;rw[avD]at hb;cases awV hb.1;exact ap5 (X8 a) a.hk.hw s1 s2 s3 s4 (aor (o.oe a h1)) (T9 hb.2)
 .obtain⟨fe,h1,h⟩;cases h;exact aor (o.oe a h1)
def aoM(o:t.Ok)(a:Amb aj c X W k)(hj:uE c x=some j){e:Expr}{f:DEF}(h:xDE t c x e=some f):PE X e (Jd X.K aj j f):=by
 unfold xDE at h;left
 .obtain⟨f1,h1,h⟩;obtain⟨f2,h2,h⟩;cases h;exact amt (ag7 o a hj h1) (ag7 o a hj h2)
 .cases h
def ald(o:t.Ok)(a:u6 aj c X W k){q:Bool}{ss:List Stmt}{f:SF}(h:aij t c ss=some f):Aj aj X W q ss f:=by
 unfold aij at h;left
 .next x _ _ _ tg iter body _ elt tg2 y _ z _ _ scope _ _=>
  obtain⟨j,h1,h⟩;obtain⟨j2,h2,h⟩;obtain⟨it,h3,h⟩;obtain⟨jt,h4,h⟩;obtain⟨fb,h5,h⟩;obtain⟨jt2,h6,h⟩;obtain⟨j3,h7,h⟩;obtain⟨fe,h8,h⟩;let⟨hb,h⟩:=aQ.mp h
  cases h;simp![avD,avU]at hb;let⟨b1,b2,b3,b4,b5,b6,b7,b8,b9⟩:=hb
  cases awV b1;cases awV b2;cases awV b3;let⟨rfl,g1,g2⟩:=mF a.toAmb b4
  let⟨n1,n2,n3⟩:=lC a.toAmb h1
  let⟨s1,s2,s3,s4⟩:=qJ a.toAmb h2
  have nj:j∉jt.1:=by simpa using b5
  have nv:j∉(mZ tg2 jt2.1).map (·.2):=by simpa using b9
  have hj:=pO b8;refine ai1 a.hk.hw a.nd n1 n2 n3 (aov a.ps a.calm (o.oi a.toAmb h3) (rF a.toAmb h4) nj (Pb h4 nj) (ady o a h2 h5) (pH b6)) ?_;exact PE.weak (pe_lc (g:=zp X.K aj jt2.1 jt2.2) (tt:=j7 X.K aj WF gU) (te:=Jd X.K aj j fe) a.calm a.nd (alh (akz (ae3 a.toAmb) a.calm g1 g2 a.hk.hw s1 s2 s3 s4)) (blkOk_by (by rw[a.hN,a.hs];exact b7))
   (λs H C cl fp=>rF (a.toAmb.inn scope s H C cl fp) h6) (λs H C cl fp=>wB (ifs:=[]) o (a.toAmb.inn scope s H C cl fp) rfl) (λs H C cl fp=>aoM o (a.toAmb.inn scope s H C cl fp) h7 h8) (pH rfl)) λσ H Q h=>anV hj nv (Pb h6 λz=>nv (hj _ z)) σ H Q h
 .cases h
end
def tr0:Tr:=⟨λ_ _=>none,λ_ _=>none,λ_ _=>none,λ_ _ _ _=>none⟩
def amS(t:Tr):Tr:=⟨xtE t,xtW t,xtT t,xtI t⟩
def tr:Nat->Tr
 |0=>tr0
 |n+1=>amS (tr n)
theorem zF:∀n,(tr n).Ok
 |0=>⟨λ_=>(by intro _ _ h;cases h),λ_=>(by intro _ _ h;cases h),λ_=>(by intro _ _ h;cases h),λ_=>(by intros;rename_i h;cases h)⟩
 |n+1=>⟨λa=>(by intro _ _ h;exact(qP h).elim (aqk (zF n) a) (al9 (zF n) a)),λa=>(by intro _ _ h;exact(qP h).elim (apD (zF n) a) (amj (zF n) a)),λa=>(by intro _ _ h;exact(qP h).elim (apm (zF n) a) (amE (zF n) a)),λa=>(by intro _ _ _ _ h;exact(qP h).elim (apY (zF n) a) (anG (zF n) a))⟩
def ts0:Ts:=⟨λ_ _=>none,λ_ _=>none,λ_ _=>none,λ_ _=>none⟩
def ldG(q:Bool)(t:Tr)(s:Ts)(c:Tc)(e:Expr):Option GF:=match q with
 |true=>none
 |false=>xG t s c e
def ldH(_:Bool)(_:Ts)(_:Tc)(_:Expr):Option GT:=none
def aoh(q:Bool)(t:Tr)(s:Ts):Ts:=⟨λc e=>els ((t.E c e).bind λf=>some (gOf f)) (ldG q t s c e),λc e=>els ((t.T c e).bind λf=>some (ajd f)) (ldH q s c e),λc e=>els (stS t s c e) (xS q t s c e),afo s⟩
def ts(q:Bool)(t:Tr):Nat->Ts
 |0=>ts0
 |n+1=>aoh q t (ts q t n)
theorem Rh{t:Tr}(o:t.Ok)(q:Bool):∀n,(ts q t n).Ok q
 |0=>⟨λ_=>(by intro _ _ h;cases h),λ_=>(by intro _ _ h;cases h),λ_=>(by intro _ _ h;cases h),λ_=>(by intros;rename_i h;cases h)⟩
 |n+1=>⟨λa=>by
   intro _ _ h;rcases qP h with h|h
   .obtain⟨f,h1,h⟩;cases h;exact ajE (o.oe a.toAmb h1)
   .cases q with
    |true=>cases h
    |false=>exact aqd o (Rh o false n) a h,λa=>by
   intro _ _ h;rcases qP h with h|h
   .obtain⟨f,h1,h⟩;cases h;exact ap7 (o.ot a.toAmb h1)
   ·(cases h),λa=>by
   intro _ _ h;rcases qP h with h|h
   .exact aoE o (Rh o q n) a h
   .exact aqb o (Rh o q n) a h,λa=>by
   intro _ _ h;exact aiu (Rh o q n) a h⟩
def rd(c:Tc)(b:List Stmt):Option SF:=els (aij (tr 40) c b) ((ts true (tr 40) 60).B c b)
def rdG(c:Tc)(b:List Stmt):Option SF:=(ts false (tr 40) 60).B c b
def Gp(P:Program)(w:World)(K:avC)(mg:Str->Option Value)(base:Heap)(aj:aK)(k:Nat):LsS GV->Prop
 |[]=>True
 |(x,v)::r=>oU P w K mg base aj k x v/\Gp P w K mg base aj k r
def FW(mg:Str->Option Value):List Str->Prop
 |[]=>True
 |x::r=>mg x=none/\FW mg r
section
variable{P:Program}{w:World}{K:avC}{mg:Str->Option Value}{base:Heap}{aj:aK}{k:Nat}
theorem Gp.get:∀{G:LsS GV},Gp P w K mg base aj k G->∀x v,G.lookup x=some v->oU P w K mg base aj k x v
 |[],_,x,v,h=>nomatch h
 |(y,u)::r,g,x,v,h=>by
  rw[av5]at h;left
  .next e=>
   cases h;rw[awV e];exact g.1
  .exact g.2.get x v h
theorem FW.get:∀{B:List Str},FW mg B->∀x,x∈B->mg x=none
 |[],_,x,h=>nomatch h
 |y::r,g,x,h=>by
  rcases avP.mp h with rfl|h
  .exact g.1
  .exact g.2.get x h
def abq{qual:Str}{st:Stmt}{f:Addr}{N ps ml B:List Str}{G:LsS GV}{Ms:Hs}(S:FnScope N ps (defScope st))(g:Gp P w K mg base aj k G)(b:FW mg B)(hh:Xi P w K mg base aj k Ms)
  (cdv:Value) (A:Around) (outer:List PySem.Env) (s:Shared) (H:Hp) (E:XK) (hr:Room k (A.deeper (envOfC qual (defScope st) s.heap.objs.size f cdv))) :
  u6 aj ⟨N,defScope st,G,B,Ms,ml,true⟩ (cxOf (L2.CX P w) P w K mg base N qual (defScope st) f cdv A outer s H E) (ahX E) k where
 hN:=rfl
 hs:=rfl
 calm:=rfl
 nd:=S.nd
 tk:=takes_of rfl rfl rfl rfl
 rm:=hr
 gl:=g.get
 bl:=b.get
 fn:=λ_ _=>rfl
 hk:=hh
 ps:=passes_of rfl
 st:=rfl
 fr:=rfl
 kf:=S.kind
def aaK{x qual:Str}{st:Stmt}{f:Addr}{fd:FuncData}{N ps ml B:List Str}{G:LsS GV}{Ms:Hs}{body:SF}(F:Fun K x qual st f fd)(S:FnScope N ps (defScope st))(g:Gp P w K mg base aj k G)(b:FW mg B)(hh:Xi P w K mg base aj k Ms)
  (h:rd ⟨N,defScope st,G,B,Ms,ml,true⟩ (defBody st)=some body):FnOk P w K mg base (L2.CX P w) (k+1) f fd ps (YD K aj ps.length (mQ N.length body)):=
 aqL F S λcdv A outer s H E hr=>(qP h).elim (ald (zF 40) (abq S g b hh cdv A outer s H E hr)) ((Rh (zF 40) true 60).ob (abq S g b hh cdv A outer s H E hr))
def VP{x qual:Str}{st:Stmt}{f:Addr}{fd:FuncData}{N ps ml B:List Str}{G:LsS GV}{Ms:Hs}{body:SF}(F:Fun K x qual st f fd)(S:FnScope N ps (defScope st))(g:Gp P w K mg base aj k G)(b:FW mg B)(hh:Xi P w K mg base aj k Ms)
  (h:rdG ⟨N,defScope st,G,B,Ms,ml,true⟩ (defBody st)=some body):FnOk P w K mg base (L2.CX P w) (k+1) f fd ps (M9 K aj ps.length (mG N.length body)):=
 aq6 F S λcdv A outer s H E hr=>(Rh (zF 40) false 60).ob (abq S g b hh cdv A outer s H E hr) h
def anf{f:Addr}{fd:FuncData}{ps:List Str}{j:Nat}:FnOk P w K mg base (L2.CX P w) j f fd ps (YD K aj ps.length λ_ _=>.bad):=
 ⟨λvs H Q E h=>h.1,λA outer s H args us vs Q E _ _ _ _ h=>by
  let⟨_,g,M,ds,_,_,_,z⟩:=h
  exact awN z⟩
def aip{x:Str}{f:Addr}{fd:FuncData}{ps:List Str}{j:Nat}{m:Mo->List Dat->Out Dat}(hj:j<=k)(hg:mg x=some (.ref f))(hk:PySem.W.keepIn K (.ref f)=true)(hB:Binds K fd ps [])(F:FnOk P w K mg base (L2.CX P w) j f fd ps (YD K aj ps.length m)):oU P w K mg base aj k x (.fq ps.length m):=
 ⟨f,hg,hk,fd,ps,j,hj,rfl,hB,F⟩
def Pj{x:Str}{i:Int}{t:Tok}(h:mg x=some (.int i t)):oU P w K mg base aj k x (.con (.int i)):=⟨.int i,_,h,⟨t,rfl⟩,λ_ _=>.int i,λ_ _ z=>nomatch z⟩
theorem YF{g:Gh}{H:Hp}:∀{vs:List V} {ds:List Dat},(vs.zip ds).all (λp=>match p with
  |(.int i,.int j)=>decide (i=j)
  |(.str x,.str y)=>decide (x=y)
  |_=>false)=true->vs.length=ds.length->aA K g H vs ds
 |[],[],_,_=>.nil
 |[],_::_,_,h=>nomatch h
 |_::_,[],_,h=>nomatch h
 |v::vs,d::ds,h,hl=>by
  rw[aww,awf,avD]at h;refine .cons ?_ (YF h.2 (awL hl));have h1:=h.1;split at h1
  .next e=>cases e;cases awP h1;exact .int _
  .next e=>cases e;cases awP h1;exact .str _
  .cases h1
def alp{a:Addr}(h:abR K a=true):∃o,K.lookup a=some o/\o.cls=.type "tuple"/\o.dict=none:=by
 unfold abR at h;left
 .next o e=>
  rw[avD]at h;refine⟨o,e,?_,Option.isNone_iff_eq_none.mp h.2⟩;have h1:=h.1;split at h1
  .next c ec=>rw[ec,awP h1]
  .cases h1
 .cases h
def af6{x:Str}{a:Addr}{vs:List V}{ds:List Dat}(h:mg x=some (.ref a))(q:∀H:Hp,SqT K H a vs)(hf:(vs.zip ds).all (λp=>match p with
  |(.int i,.int j)=>decide (i=j)
  |(.str x,.str y)=>decide (x=y)
  |_=>false)=true) (hl:vs.length=ds.length) (hn:abR K a=true):oU P w K mg base aj k x (.con (.tuple ds)):=⟨.ref a,_,h,rfl,λ_ H=>.tup (q H) (YF hf hl),λb _ e _=>by cases e;exact alp hn⟩
end
open PySem PySem.Spec PyProof.Rows L2
section
variable{fa:List He.Fa}{fn:List He.DefD}{tb:List He.Tab}{ex:avC->Bool}{w:World}{K:avC}
def QM.qQ(c:QM fa fn tb ex w K)(i:Nat){f:He.Fa}(h:fa[i]?=some f:=by rfl):f.ok K=true:=c.t.d.fact i h
def QM.YT(c:QM fa fn tb ex w K)(i:Nat){d:He.DefD}(h:fn[i]?=some d:=by rfl):∃fd,FunD K d.name d.qual d.params d.body d.scope (d.dvs K) (d.kws K) (He.fAd K d.at_) fd:=c.t.d.def_ i h
def HY{x qual:Str}{st:Stmt}{f:Addr}{fd:FuncData}(F:FunD K x qual (defArgs st) (defBody st) (defScope st) [] [] f fd):L2.Fun K x qual st f fd:=by
 let⟨oc,od,dV,kV,doc,pm,an,cdv,ct,osl,e,l,c,hd,_⟩:=F.ex
 rcases hd with⟨_,z⟩|⟨z,_⟩
 .cases z;exact⟨⟨oc,od,kV,doc,pm,an,cdv,ct,osl,e,l,c⟩,F.kp⟩
 .exact absurd rfl z
end
def g0:Gh:=⟨[],λ_=>none,λ_=>False,λ_=>False⟩
def aol(a:Addr):¬g0.A a:=λz=>by
 rcases z with(z|z)|z|z
 .cases z
 .exact z rfl
 .exact z
 .exact z
def ao8{H:Hp}:Kd g0 H:=⟨λa z=>absurd z (aol a),λa z=>awN z,λa z=>awN z⟩
def amg{K:avC}{aj:aK}{H:Hp}(nc:aj ""=none):gM K aj g0 H []:=⟨rfl,λh k a e=>(by cases h<;>cases e),λh a i e=>(by cases h<;>cases e),λh i e=>(by cases h<;>cases e),λh i e=>(by cases h<;>cases e),λh a i e=>(by cases h<;>cases e),λh i e=>(by cases h<;>cases e),nc⟩
theorem ZW{K:avC}{g:Gh}{H:Hp}:∀ns:List Int,aA K g H (ns.map V.int) (ns.map PyData.int)
 |[]=>.nil
 |n::ns=>.cons (.int n) (ZW ns)
def anK{K:avC}{H:Hp}{a:Addr}{ns:List Int}(hS:SqL K H a (ns.map V.int)):aA K g0 H [.ref a] [.list (ns.map PyData.int)]:=by
 refine .cons (.lst ?_ (ZW ns)) .nil;rcases hS with h|h
 .exact .inl ⟨h,aol a⟩
 .exact .inr h
def apa{K:avC}{aj:aK}(nc:aj ""=none){m:Mo->List Dat->aY Dat}{H:Hp}{a:Addr}{ns:List Int}{M:Mo}(hS:SqL K H a (ns.map V.int))(h:m [] [.list (ns.map PyData.int)]=.ok (.bool true) M):M9 K aj 1 m [.ref a] H (λv _=>v=.bl true) λ_ _ _=>False:=
 ⟨rfl,g0,[],[.list (ns.map PyData.int)],ao8,amg nc,anK hS,by
  rw[h];exact λv H' g' _ _ _ r=>by cases r;rfl⟩
section
variable{K:avC}{h:Heap}{mg:Str->Option Value}{w:World}
def qm(w:World)(K:avC)(xs:List Str)(ft:Ft):aK:=⟨λx=>match xs.contains x with
 |true=>some (He.ga K x)
 |false=>none,λc=>(ft.lookup c).getD [],w⟩
def TJ{xs:List Str}{ft:Ft}{x:Str}{C:Addr}(e:qm w K xs ft x=some C):C=He.ga K x:=by
 have e:(match xs.contains x with
  |true=>some (He.ga K x)
  |false=>none)=some C:=e
 split at e
 .exact(av0 e).symm
 .cases e
def Fv{xs:List Str}{ft:Ft}{x:Str}(e:xs.contains x=true):qm w K xs ft x=some (He.ga K x):=by
 show(match xs.contains x with
  |true=>some (He.ga K x)
  |false=>none)=_
 rw[e]
def ab8{ft:Ft}(hb:QJ K ft=true){c:Str}{fs:List Str}(hl:ft.lookup c=some fs):Cls K (He.ga K c)/\∀f∈fs,NoAttr K (He.ga K c) f:=by
 let⟨h1,h2⟩:=He.ba (av1.mp hb _ (sS hl))
 exact⟨He.cls_ok h1,λf hf=>He.noat_ok (av1.mp h2 f hf)⟩
def afO{xs:List Str}{ft:Ft}(hb:QJ K ft=true):jM K (qm w K xs ft):=λc C f e hf=>by
 have e:=TJ e;subst e;have hf:f∈(ft.lookup c).getD []:=hf;cases hl:ft.lookup c with
 |none=>rw[hl]at hf;cases hf
 |some fs=>
  rw[hl]at hf;let⟨h1,h2⟩:=ab8 hb hl
  exact⟨h1,h2 f hf⟩
def aji{xs:List Str}{ft:Ft}:Qh ft (qm w K xs ft):=λc f e=>by
 unfold Ft.has at e;show f∈(ft.lookup c).getD [];split at e
 .next fs hl=>
  rw[hl];simpa using e
 .cases e
def xmN(xs:List Str)(xm:List (Str×LsS Bool)):Bool:=xm.all λp=>xs.contains p.1
def apZ{xs:List Str}{ft:Ft}{xm:List (Str×LsS Bool)}(hb:xmB K xm=true)(hn:xmN xs xm=true)(y:Str)(tab:LsS Bool)(hl:xm.lookup y=some tab):(∃D,qm w K xs ft y=some D)/\aeA K (qm w K xs ft) y λx=>tab.lookup x:=by refine⟨⟨_,Fv (av1.mp hn _ (sS hl))⟩,λx b C e1 e2 D e3=>?_⟩;rw[TJ e2,TJ e3];exact He.exm_ok (av1.mp (av1.mp hb _ (sS hl)) _ (sS e1))
def aln{C:Addr}(hb:anj K C=true):OexC K C:=by
 let⟨h1,h2⟩:=He.ba hb
 let⟨h2,h3⟩:=He.ba h2
 let⟨h3,h4⟩:=He.ba h3
 let⟨h4,h5⟩:=He.ba h4
 refine⟨?_,He.eqO_ok h2,awP h3,awP h4,h5⟩;split at h1
 .next t dd cd sl hl=>
  let⟨t1,h1⟩:=He.ba h1
  split at h1
  .next C' bm k0 k1 k2 k3 n k5 e1 e2=>
   let⟨a1,h1⟩:=He.ba h1
   let⟨a2,h1⟩:=He.ba h1
   let⟨a3,h1⟩:=He.ba h1
   let⟨a4,a5⟩:=He.ba h1
   have q1:=awP t1;have q2:=awP a1;have q3:=awP a2;have q4:cd.hasDel=false:=by simpa using a3
   have q5:sl=(List.toArray [k0,k1,k2,k3,some (.builtin n),k5]):=by rw[<-Array.toList_inj];exact e2
   let⟨nm,bs,mro,ns,qn,hd,sn,sub,ab,col,hdel⟩:=cd
   have e1:mro=.ref C'::bm:=e1;have q4:hdel=false:=q4;have a4:hd=true:=a4;subst q1 q2 q3 q4 q5 e1 a4;exact⟨nm,qn,ns,bs,bm,sn,sub,ab,col,dd,k0,k1,k2,k3,k5,hl,a5⟩
  .cases h1
 .cases h1
def WD{x:Str}{fs:List Str}(hb:Xm K x fs=true):OexC K (He.ga K x)/\PySem.W.findIn K (.ref (He.ga K x)) "__init__"=some (some (.ref (He.ma K (He.ga K x) "__init__")))/\PySem.W.typeIn K (.ref (He.ma K (He.ga K x) "__init__"))=some (.type "function")/\XfC K (He.ga K x)/\∀f∈fs,PySem.W.findIn K (.ref (He.ga K x)) f=some none:=by
 let⟨h1,h2⟩:=He.ba hb
 let⟨h2,h3⟩:=He.ba h2
 let⟨h3,h4⟩:=He.ba h3
 let⟨h4,h5⟩:=He.ba h4
 exact⟨aln h1,He.eqO_ok h2,awP h3,xfB_ok h4,λf hf=>He.eqO_ok (av1.mp h5 f hf)⟩
def aix{a:Addr}{xs:List Str}(hb:aaw K a xs=true)(H:Hp):SqT K H a (xs.map V.str):=by
 unfold aaw at hb;split at hb
 .next c d its n sl hl=>
  let⟨h1,h2⟩:=He.ba hb
  let⟨h3,h4⟩:=He.ba h2
  have q1:=awP h1;subst q1;exact .inr ⟨_,its,n,hl,rfl,rfl,awP h3,He.relAll_ok h4⟩
 .cases hb
def BW(kvs:List (Str×List Str)):LsS Dat:=kvs.map λq=>(q.1,.tuple (q.2.map PyData.str))
theorem Yu{g:Gh}{H:Hp}:∀xs:List Str,aA K g H (xs.map V.str) (xs.map PyData.str)
 |[]=>.nil
 |x::xs=>.cons (.str x) (Yu xs)
theorem V4{y:Str}:∀{kvs:List (Str×List Str)},(BW kvs).lookup y=(kvs.lookup y).map λxs=>PyData.tuple (xs.map PyData.str)
 |[]=>rfl
 |(z,xs)::r=>by
  show List.lookup y ((z,PyData.tuple (xs.map PyData.str))::BW r)=_;rw[av5,av5];split
  .rfl
  .exact V4
theorem look_none{α:Type}{y:Str}:∀{kvs:List (Str×α)},kvs.lookup y=none->y∉kvs.map (·.1)
 |[],_=>by simp
 |(z,a)::r,h=>by
  rw[av5]at h;left
  .cases h
  .next hn=>
   rw[List.map_cons,avP]
   rintro(e|e)
   .subst e;simp at hn
   .exact look_none h e
def aks{x:Str}{kvs:List (Str×List Str)}(hb:aia K x kvs=true)(hk:∃es n,KDict K w (He.ga K x) es n):afa w K (He.ga K x) (BW kvs):=by
 let⟨h1,h2⟩:=He.ba hb
 let⟨h2,h3⟩:=He.ba h2
 let⟨es,n,D⟩:=hk
 rw[D.at_]at h1;refine⟨es,n,D,?_,λy=>?_⟩
 .unfold BW;rw[avZ];exact awP h2
 .rw[V4];cases hl:kvs.lookup y with
  |some xs=>
   have h4:=av1.mp h3 _ (sS hl);show ∃v u,PySem.W.nsIn K (He.ga K x) y=some (some u)/\RelV v u/\∀g H,Rep K g H v (.tuple (xs.map PyData.str));have h4:(match PySem.W.nsIn K (He.ga K x) y with
    |some (some (.ref a))=>aaw K a xs
    |_=>false)=true:=h4
   split at h4
   .next a he=>exact⟨.ref a,.ref a,he,rfl,λg H=>.tup (aix h4 H) (Yu xs)⟩
   .cases h4
  |none=>
   show PySem.W.nsIn K (He.ga K x) y=some none;have ny:=look_none hl;unfold PySem.W.nsIn;rw[D.at_];have h1:es.toList.all (λe=>(match e.key with
    |.str y _=>(kvs.map (·.1)).contains y
    |_=>false)&&!e.refKey)=true:=h1
   have f1:es.toList.find? (·.key.isStr y)=none:=by
    rw[List.find?_eq_none];intro e he z;let⟨a1,a2⟩:=He.ba (av1.mp h1 e he)
    split at a1
    .next y' tk hy=>
     rw[hy]at z;have z:(y'==y)=true:=z;have e':=awV z;subst e';exact ny (by simpa using a1)
    .cases a1
   have f2:es.toList.any (·.refKey)=false:=by
    rw[List.any_eq_false];intro e he z;let⟨a1,a2⟩:=He.ba (av1.mp h1 e he)
    rw[z]at a2;cases a2
   show(match es.toList.find? (·.key.isStr y) with
    |some e=>some (some e.val)
    |none=>if es.toList.any (·.refKey) then none else some none)=some none
   rw[f1,f2];rfl
end
section
variable{P:Program}{w:World}{K:avC}{mg:Str->Option Value}{base:Heap}{k:Nat}{xs:List Str}{ft:Ft}
def aav(P:Program)(w:World)(K:avC)(mg:Str->Option Value)(base:Heap)(aj:aK)(k:Nat)(m:Str):List (Str×MV)->Prop
 |[]=>True
 |(c,v)::r=>Gu P w K mg base aj k c m v/\aav P w K mg base aj k m r
def Je(P:Program)(w:World)(K:avC)(mg:Str->Option Value)(base:Heap)(aj:aK)(k:Nat):List (Str×List (Str×MV))->Prop
 |[]=>True
 |(m,tb)::r=>aav P w K mg base aj k m tb/\Je P w K mg base aj k r
theorem aav.get{aj:aK}{m:Str}:∀{tb:List (Str×MV)},aav P w K mg base aj k m tb->∀c v,tb.lookup c=some v->Gu P w K mg base aj k c m v
 |[],_,c,v,h=>nomatch h
 |(y,u)::r,g,c,v,h=>by
  rw[av5]at h;left
  .next e=>
   cases h;rw[awV e];exact g.1
  .exact g.2.get c v h
theorem Je.get{aj:aK}:∀{Ms:List (Str×List (Str×MV))},Je P w K mg base aj k Ms->∀m tb,Ms.lookup m=some tb->∀c v,tb.lookup c=some v->Gu P w K mg base aj k c m v
 |[],_,m,tb,h=>nomatch h
 |(y,u)::r,g,m,tb,h=>by
  rw[av5]at h;left
  .next e=>
   cases h;rw[awV e];exact g.1.get
  .exact g.2.get m tb h
def arn{aj:aK}{x:Str}{f:Addr}{fd:FuncData}{ps:List Str}{j:Nat}{m:Mo->List Dat->aY Dat}(hj:j<=k)(hg:mg x=some (.ref f))(hk:PySem.W.keepIn K (.ref f)=true)(hB:Binds K fd ps [])(F:FnOk P w K mg base (L2.CX P w) j f fd ps (M9 K aj ps.length m)):oU P w K mg base aj k x (.fg ps.length m):=
 ⟨f,hg,hk,fd,ps,j,hj,rfl,hB,F⟩
def jf{x:Str}(hn:xs.contains x=true)(hg:mg x=some (.ref (He.ga K x)))(he:(He.Fa.exc x).ok K=true):oU P w K mg base (qm w K xs ft) k x .exc:=by
 let⟨h1,h2,h3,h4⟩:=He.exc_ok he
 exact⟨_,hg,Fv hn,h1,h2,h3,h4⟩
def aoP{x:Str}{fd:FuncData}{ps:List Str}{j n:Nat}{m:Mo->List Dat->aY Dat}(hj:j+1<=k)(hn:xs.contains x=true)(hg:mg x=some (.ref (He.ga K x)))(hc:Cls K (He.ga K x))(hm:(He.Fa.mkr x).ok K=true)(hp:ps.length=n+1)(hB:Binds K fd ps [])
  (F:FnOk P w K mg base (L2.CX P w) j (He.ma K (He.ga K x) "__init__") fd ps (M9 K (qm w K xs ft) ps.length m)):oU P w K mg base (qm w K xs ft) k x (.cls n m):=
 ⟨_,_,fd,ps,j,hg,Fv hn,hc,He.mkr_ok hm,hj,hp,hB,F⟩
def aoy{aj:aK}{x:Str}{kvs:List (Str×List Str)}(hg:mg x=some (.ref (He.ga K x)))(hb:aia K x kvs=true)(hk:∃es n,KDict K w (He.ga K x) es n):oU P w K mg base aj k x (.dic (BW kvs)):=⟨_,hg,aks hb hk⟩
def aoz{x:Str}{fs:List Str}{fd:FuncData}{ps:List Str}(h2:2<=k)(hn:xs.contains x=true)(hg:mg x=some (.ref (He.ga K x)))(ho:Xm K x fs=true)(hp:ps.length=fs.length+1)(hB:Binds K fd ps [])(F:FnOk P w K mg base CX0 1 (He.ma K (He.ga K x) "__init__") fd ps (ai8 (He.ga K x) fs)):oU P w K mg base (qm w K xs ft) k x (.exi fs):=by
 let⟨h1,h3,h4,_,_⟩:=WD ho
 exact⟨_,_,fd,ps,hg,Fv hn,h1,h3,h4,h2,hp,hB,F⟩
def aj0{m:Str}{l:List Str}(hf:l.contains m=false)(z:m∈l):False:=by rw[List.contains_iff_mem.mpr z]at hf;cases hf
def arw{c m:Str}{fd:FuncData}{ps:List Str}{j:Nat}{mm:Mo->List Dat->Out Dat}(hj:j<=k)(hn:xs.contains c=true)(hc:Cls K (He.ga K c))(hm:(He.Fa.meth c m).ok K=true)(hf:((ft.lookup c).getD []).contains m=false)(hB:Binds K fd ps [])(F:FnOk P w K mg base (L2.CX P w) j (He.ma K (He.ga K c) m) fd ps (YD K (qm w K xs ft) ps.length mm)):Gu P w K mg base (qm w K xs ft) k c m (.q ps.length mm):=
 ⟨_,_,Fv hn,hc,He.meth_ok hm,(λz=>aj0 hf z),fd,ps,j,hj,rfl,hB,F⟩
def aro{c m:Str}{fd:FuncData}{ps:List Str}{j:Nat}{mm:Mo->List Dat->aY Dat}(hj:j<=k)(hn:xs.contains c=true)(hc:Cls K (He.ga K c))(hm:(He.Fa.meth c m).ok K=true)(hf:((ft.lookup c).getD []).contains m=false)(hB:Binds K fd ps [])(F:FnOk P w K mg base (L2.CX P w) j (He.ma K (He.ga K c) m) fd ps (M9 K (qm w K xs ft) ps.length mm)):Gu P w K mg base (qm w K xs ft) k c m (.g ps.length mm):=
 ⟨_,_,Fv hn,hc,He.meth_ok hm,(λz=>aj0 hf z),fd,ps,j,hj,rfl,hB,F⟩
def apq{Ms:List (Str×List (Str×MV))}{xm:List (Str×LsS Bool)}{df:LsS Bool}{xf:List (Str×List Str)}(hm:Je P w K mg base (qm w K xs ft) k Ms)(hb:QJ K ft=true)(hx:xmB K xm=true)(hn:xmN xs xm=true)(hf:(xf.all λp=>xs.contains p.1&&Xm K p.1 p.2)=true):Xi P w K mg base (qm w K xs ft) k ⟨Ms,ft,xm,df,xf⟩ where
 ms:=hm.get
 fk:=aji
 co:=afO hb
 hw:=rfl
 xm:=apZ hx hn
 xf:=λy fs hl=>by
  let⟨h1,h2⟩:=He.ba (av1.mp hf _ (sS hl))
  let⟨_,_,_,h3,h4⟩:=WD h2
  exact⟨_,Fv h1,h3,h4⟩
end
abbrev lI(l:List Int):Dat:=.list (l.map PyData.int)
abbrev aG(l:List Int):Dat:=.tuple (l.map PyData.int)
def eE{tg:dU}{body:SF}{d:Dat}{ds:List Dat}{M M2:Mo}{Z Z1 Z2:Env}(h1:tg d Z=some Z1)(h2:body M Z1=.next Z2 M2):dY tg body (d::ds) M Z=dY tg body ds M2 Z2:=by
 rw[dY,h1]
 show(match body M Z1 with
   |.next Z2 M2=>dY tg body ds M2 Z2
   |.cont Z2 M2=>dY tg body ds M2 Z2
   |.brk Z2 M2=>.next Z2 M2
   |.ret d M2=>.ret d M2
   |.exc x Z2 M2=>.exc x Z2 M2
   |.bad=>.bad)=_
 rw[h2]
theorem fu{α:Type}{tg:dU}{tt:QT}{te:QF}{M:Mo}{Z:Env}(ds:α->Dat)(p:α->Bool)(f:α->Dat):∀(xs:List α),(∀x∈xs,∃Z1,tg (ds x) Z=some Z1/\tt M Z1=.ok (p x)/\(p x=true->te M Z1=.ok (f x)))->dR tg tt te M Z (xs.map ds)=.ok ((xs.filter p).map f)
 |[],_=>rfl
 |x::xs,h=>by
  let⟨Z1,h1,h2,h3⟩:=h x avI
  have ih:=fu ds p f xs λy hy=>h y (avG _ hy);rw[List.map_cons,dR,h1]
  show((Af (tt M Z1)).bind λb=>if b=true then(Af (te M Z1)).bind λy=>(dR tg tt te M Z (xs.map ds)).bind λr=>.ok (y::r) else dR tg tt te M Z (xs.map ds))=_
  rw[h2,ih];cases hp:p x with
  |true=>
   show(if true=true then(Af (te M Z1)).bind λy=>(Out.ok ((xs.filter p).map f)).bind λr=>.ok (y::r) else Out.ok ((xs.filter p).map f))=_
   rw[h3 hp,awS rfl,List.filter_cons_of_pos hp];rfl
  |false=>
   show(if false=true then(Af (te M Z1)).bind λy=>(Out.ok ((xs.filter p).map f)).bind λr=>.ok (y::r) else Out.ok ((xs.filter p).map f))=_
   rw[awT #[()],List.filter_cons_of_neg (by rw[hp];decide)]
def fj{α:Type}{tg:dU}{te:QF}{M:Mo}{Z:Env}(ds:α->Dat)(f:α->Dat)(xs:List α)(h:∀x∈xs,∃Z1,tg (ds x) Z=some Z1/\te M Z1=.ok (f x)):dR tg gU te M Z (xs.map ds)=.ok (xs.map f):=by
 have:=fu (tt:=gU) ds (λ_=>true) f xs λx hx=>by
  let⟨Z1,h1,h2⟩:=h x hx
  exact⟨Z1,h1,rfl,λ_=>h2⟩
 rw[this,List.filter_eq_self.mpr (λ_ _=>rfl)]
def ajI{i j:Int}(h : -(2^64)<i/\i<2^64):decide (CMul i j)=true:=decide_eq_true (.inl h)
def mul_r{i j:Int}(h : -(2^64)<j/\j<2^64):decide (CMul i j)=true:=decide_eq_true (.inr h)
section
variable(M:Mo)(Z:Env)
@[simp]theorem anL (f k:SF):ak f k M Z=match f M Z with
 |.next Z' M'=>k M' Z'
 |o=>o:=rfl
@[simp]theorem arR:aD M Z=.next Z M:=rfl
@[simp]theorem atu (tg:dU) (f:GF):aU tg f M Z=(f M Z).then Z λd M'=>match tg d Z with
 |some Z'=>.next Z' M'
 |none=>.bad:=rfl
@[simp]theorem asq (i j:Nat) (f:GF):Vs i j f M Z=(f M Z).then Z λd M'=>.next ((Z.set i #[d]).set j #[d]) M':=rfl
@[simp]theorem ate (j:Nat) (f:SF):abg j f M Z=match f M (Vv j Z) with
 |.ret d M'=>.ret d M'
 |_=>.bad:=rfl
@[simp]theorem atF (j:Nat) (Z:Env):Vv j Z=match Z[j]? with
 |some (some (.mut xs))=>Z.set j #[.list xs]
 |_=>Z:=rfl
@[simp]theorem ev_if (t:QT) (f k:SF):bf t f k M Z=((t M (uR Z)).at M).then Z λc M'=>if c=true then f M' Z else k M' Z:=rfl
@[simp]theorem aue (f:QF):aM f M Z=((f M (uR Z)).at M).then Z λd M'=>.ret d M':=rfl
@[simp]theorem auG (it:IF) (tg:dU) (body:SF):nQ it tg body M Z=((it M Z).at M).then Z λds M'=>dY tg body ds M' Z:=rfl
@[simp]theorem as4 (j:Nat) (f:IF):yx j f M Z=((f M Z).at M).then Z λxs M'=>.next (Z.set j (some (.mut xs))) M':=rfl
@[simp]theorem ar4 (f:GF):cD f M Z=(f M Z).then Z λ_ M'=>.next Z M':=rfl
@[simp]theorem atc (j:Nat) (f:QF):Gn j f M Z=match Z[j]? with
 |some (some (.mut xs))=>((f M Z).at M).then Z λd M'=>if xs.length<100000 then .next (Z.set j (some (.mut (xs++[d])))) M' else .bad
 |_=>.bad:=rfl
@[simp]theorem asI (j:Nat) (fi f:QF):Ro j fi f M Z=match Z[j]? with
 |some (some (.mut xs))=>((f M Z).at M).then Z λd M'=>((fi M' Z).at M').then Z λi M2=>match i with
  |.int k=>match ixN xs.length k with
   |some n=>.next (Z.set j (some (.mut (xs.set n d)))) M2
   |none=>.bad
  |_=>.bad
 |_=>.bad:=rfl
@[simp]theorem at7 (j:Nat) (f:QF):Jg j f M Z=match Z[j]? with
 |some #[.int i]=>((f M Z).at M).then Z λd M'=>match d with
  |.int k=>.next (Z.set j #[.int (i+k)]) M'
  |_=>.bad
 |_=>.bad:=rfl
@[simp]theorem asw (i j:Nat) (f:GF):aar i j f M Z=(f M Z).then Z λd M'=>match d with
 |.list (d0::ds)=>if ds.length<=16000 then .next ((Z.set i #[d0]).set j #[.list ds]) M' else .bad
 |.tuple (d0::ds)=>if ds.length<=16000 then .next ((Z.set i #[d0]).set j #[.list ds]) M' else .bad
 |_=>.bad:=rfl
@[simp]theorem avh (js:List Nat) (as:QA):sPN js as M Z=((as M Z).at M).then Z λds M'=>match uP js ds Z with
 |some Z'=>.next Z' M'
 |none=>.bad:=rfl
@[simp]theorem auw (f:QF):gOf f M Z=(f M Z).at M:=rfl
@[simp]theorem ev_op (o:Dat->Dat->Out Dat) (a b:QF):aH o a b M Z=(a M Z).bind λx=>(b M Z).bind λy=>o x y:=rfl
@[simp]theorem ev_un (o:Dat->Out Dat) (a:QF):eZ o a M Z=(a M Z).bind o:=rfl
@[simp]theorem ev_c (d:Dat):qC d M Z=.ok d:=rfl
@[simp]theorem ev_var (i:Nat):DG i M Z=match Z[i]? with
 |some #[d]=>.ok d
 |_=>.bad:=rfl
@[simp]theorem asK (i:Nat):UW i M Z=match Z[i]? with
 |some #[d]=>.ok d
 |some (some (.mut xs))=>.ok (.list xs)
 |_=>.bad:=rfl
@[simp]theorem as6:dI M Z=.ok []:=rfl
@[simp]theorem asj (a:QF) (r:QA):U3 a r M Z=(a M Z).bind λx=>(r M Z).bind λxs=>.ok (x::xs):=rfl
@[simp]theorem auS (r:QA):aW r M Z=(r M Z).bind λxs=>Out.when (decide (xs.length<=100000)) (.ok (.tuple xs)):=rfl
@[simp]theorem atm (r:QA):za r M Z=(r M Z).bind λxs=>Out.when (decide (xs.length<=100000)) (.ok (.list xs)):=rfl
@[simp]theorem atJ (a:QF):fV a M Z=(a M Z).bind MK:=rfl
@[simp]theorem avi (a:QF):cV a M Z=(a M Z).bind Ea:=rfl
@[simp]theorem arW (a:QT):ji a M Z=(a M Z).bind λb=>.ok (!b):=rfl
@[simp]theorem ar6 (a b:QT):gA a b M Z=(a M Z).bind λx=>if x=true then b M Z else .ok false:=rfl
@[simp]theorem atv (a b:QT):Dr a b M Z=(a M Z).bind λx=>if x=true then .ok true else b M Z:=rfl
@[simp]theorem avw (a:QT):ZP a M Z=(a M Z).bind λb=>.ok (.bool b):=rfl
@[simp]theorem au0 (t:QT) (a b:QF):Qa t a b M Z=(t M Z).bind λx=>if x=true then a M Z else b M Z:=rfl
@[simp]theorem ev_is (neg:Bool) (c:Dat) (a:QF):sO neg c a M Z=(a M Z).bind λd=>.ok (.bool (neg ^^ iy c d)):=rfl
@[simp]def ev_notV (a:QF):Vo a M Z=((a M Z).bind Ea).bind λb=>.ok (.bool (!b)):=by
 show(((a M Z).bind Ea).bind λb=>Out.ok (!b)).bind (λb=>Out.ok (PyData.bool b))=_
 cases a M Z with
 |ok d=>cases h:Ea d<;>simp[Out.bind,h]
 |exc x=>rfl
 |bad=>rfl
@[simp]theorem ev_andV (a b:QF):zm a b M Z=(a M Z).bind λd=>(Ea d).bind λx=>if x=true then b M Z else .ok (.bool false):=rfl
@[simp]theorem ev_orV (a b:QF):aiZ a b M Z=(a M Z).bind λd=>(Ea d).bind λx=>if x=true then .ok (.bool true) else b M Z:=rfl
@[simp]theorem aqW (o o':Dat->Dat->Out Dat) (a b c:QF):o7 o o' a b c M Z=(a M Z).bind λx=>(b M Z).bind λy=>(o x y).bind λz=>(Ea z).bind λk=>if k=true then(c M Z).bind λw=>(o' y w).bind Ea else .ok false:=rfl
@[simp]theorem auT (t:Qn) (a:QF):zJ t a M Z=(a M Z).bind (Ar t):=rfl
@[simp]theorem avs (a:QF) (lo hi:QO):R5 a lo hi M Z=(a M Z).bind λd=>(lo M Z).bind λl=>(hi M Z).bind λh=>slD d l h:=rfl
@[simp]theorem avp:Fp M Z=.ok none:=rfl
@[simp]theorem avq (a:QF):sE a M Z=(a M Z).bind λd=>(DK d).bind λi=>.ok (some i):=rfl
@[simp]theorem ev_call (m:Mo->List Dat->Out Dat) (as:QA):aO m as M Z=(as M Z).bind λds=>m M ds:=rfl
@[simp]theorem ara (a:QF):bV a M Z=(a M Z).bind pX:=rfl
@[simp]theorem aqo (a:QF):Bj a M Z=(a M Z).bind λd=>(DK d).bind λn=>Out.when (decide (n<=100000/\-100000<=n)) (.ok (jC 0 n.toNat)):=rfl
@[simp]theorem ash (k₀:Int) (a:QF):xY k₀ a M Z=(a M Z).bind λd=>(pX d).bind λds=>.ok (qR k₀ ds):=rfl
@[simp]theorem auY (a b:QF):Jq a b M Z=(a M Z).bind λd=>(b M Z).bind λe=>(pX d).bind λds=>(pX e).bind λes=>.ok (zQ ds es):=rfl
@[simp]theorem asy (it:IF) (tg:dU) (vs:List Nat) (tt:QT) (te:QF):dO it tg vs tt te M Z=(it M Z).bind λds=>Out.when (decide (ds.length<=50000)) ((dR tg tt te M (bQ Z vs) ds).bind λr=>.ok (.list r)):=rfl
@[simp]theorem aq5 (it:IF) (tg:dU) (vs:List Nat) (tt:QT) (te:QF):Cu it tg vs tt te M Z=(it M Z).bind λds=>Out.when (decide (ds.length<=50000)) (dR tg tt te M (bQ Z vs) ds):=rfl
@[simp]theorem atA (f:QA):Ie f M Z=(f M Z).bind λxs=>Out.when (decide (xs.length<=100000)) (.ok xs):=rfl
@[simp]theorem ao6 (f:QF):ajr f M Z=(f M Z).bind aau:=rfl
@[simp]theorem aqy (j:Nat) (d:Dat):ao j d Z=some (Z.set j #[d]):=rfl
@[simp]theorem arp (js:List Nat) (ds:List Dat):aV js (.tuple ds) Z=uP js ds Z:=rfl
@[simp]theorem apH (n:Nat) (b:SF) (ds:List Dat):mQ n b M ds=match b M (ini n ds) with
 |.ret d _=>.ok d
 |.next _ _=>.ok .none
 |.exc x _ _=>.exc x
 |_=>.bad:=rfl
@[simp]theorem avk (n:Nat) (b:SF) (ds:List Dat):mG n b M ds=match b M (ini n ds) with
 |.ret d M'=>.ok d M'
 |.next _ M'=>.ok .none M'
 |.exc x _ M'=>.exc x M'
 |_=>.bad:=rfl
end
section
variable(i j:Int)(ds es:List Dat)(b c:Bool)(x y:Str)
@[simp]theorem arN:eU (.int i) (.int j)=.ok (.int (i+j)):=rfl
@[simp]theorem arV:eU (.list ds) (.list es)=Out.when (decide (ds.length+es.length<=100000)) (.ok (.list (ds++es))):=rfl
@[simp]theorem asr:eU (.tuple ds) (.tuple es)=Out.when (decide (ds.length+es.length<=100000)) (.ok (.tuple (ds++es))):=rfl
@[simp]theorem atZ:kh (.int i) (.int j)=.ok (.int (i-j)):=rfl
@[simp]theorem as7:yr (.int i) (.int j)=Out.when (decide (CMul i j)) (.ok (.int (i*j))):=rfl
@[simp]theorem aud:DQ (.int i) (.int j)=Out.when (decide (CDiv i j)) (.ok (.int (i/j))):=rfl
@[simp]theorem asW:lu (.int i) (.int j)=Out.when (decide (0<j)) (.ok (.int (i%j))):=rfl
@[simp]theorem auW:Tv (.int i) (.int j)=Out.when (decide (CPow i j)) (.ok (.int (i^j.toNat))):=rfl
@[simp]theorem avl:Np (.int i) (.int j)=.ok (.bool (decide (i<j))):=rfl
@[simp]theorem ave:uN (.int i) (.int j)=.ok (.bool (decide (i<=j))):=rfl
@[simp]theorem avr:gtD (.int i) (.int j)=.ok (.bool (decide (j<i))):=rfl
@[simp]theorem avb:geD (.int i) (.int j)=.ok (.bool (decide (j<=i))):=rfl
@[simp]theorem au5:DY (.int i) (.int j)=.ok (.bool (i==j)):=rfl
@[simp]theorem auv:DY (.str x) (.str y)=.ok (.bool (x==y)):=rfl
@[simp]theorem auu:DY (.bool b) (.bool c)=.ok (.bool (b==c)):=rfl
@[simp]theorem au2:uH (.int i) (.int j)=.ok (.bool (!(i==j))):=rfl
@[simp]theorem atH:uH (.str x) (.str y)=.ok (.bool (!(x==y))):=rfl
@[simp]theorem as5:T6 (.int i)=.ok (.int (-i)):=rfl
@[simp]theorem ase:MK (.bool b)=.ok b:=rfl
@[simp]theorem ar0:MK (.list ds)=.ok (!ds.isEmpty):=rfl
@[simp]theorem ar5:MK (.tuple ds)=.ok (!ds.isEmpty):=rfl
@[simp]theorem atG:Ea (.bool b)=.ok b:=rfl
@[simp]theorem asf:qO (.list ds)=.ok (.int ds.length):=rfl
@[simp]theorem arT:qO (.tuple ds)=.ok (.int ds.length):=rfl
@[simp]theorem atb:Yc (.int i)=.ok (.int (if i<0 then -i else i)):=rfl
@[simp]theorem ev_max2:qU (.int i) (.int j)=.ok (.int (if j>i then j else i)):=rfl
@[simp]theorem asi:Lz (.int i) (.int j)=.ok (.int (if j<i then j else i)):=rfl
@[simp]theorem aup:yM (.list ds) (.int i)=match atI ds i with
  |some d=>.ok d
  |none=>.bad:=rfl
@[simp]theorem auB:yM (.tuple ds) (.int i)=match atI ds i with
  |some d=>.ok d
  |none=>.bad:=rfl
@[simp]theorem asu:DK (.int i)=.ok i:=rfl
@[simp]theorem auR (lo hi:Option Int):slD (.list ds) lo hi=.ok (.list (cutD ds lo hi)):=rfl
@[simp]theorem auC (lo hi:Option Int):slD (.tuple ds) lo hi=.ok (.tuple (cutD ds lo hi)):=rfl
@[simp]theorem asx:m7 (.list ds)=.ok (.tuple ds):=rfl
@[simp]theorem ar9:m7 (.tuple ds)=.ok (.tuple ds):=rfl
@[simp]theorem aqJ:Ig (.list ds)=.ok (.list ds):=rfl
@[simp]theorem aqQ:Ig (.tuple ds)=.ok (.list ds):=rfl
@[simp]theorem at5:aau (.list ds)=.ok ds:=rfl
@[simp]theorem auo:aau (.tuple ds)=.ok ds:=rfl
@[simp]theorem auq:pX (.list ds)=.ok ds:=rfl
@[simp]theorem auP:pX (.tuple ds)=.ok ds:=rfl
@[simp]theorem asC (o:Option Cell) (Z:Env):uR (o::Z)=o.map Vp::uR Z:=rfl
@[simp]theorem ard:uR []=[]:=rfl
@[simp]theorem aq2 (d:Dat):Vp (.dat d)=.dat d:=rfl
@[simp]theorem arJ (ds:List Dat):Vp (.mut ds)=.dat (.list ds):=rfl
@[simp]theorem asM (Z:Env):uP [] [] Z=some Z:=rfl
@[simp]theorem asB (j:Nat) (js:List Nat) (d:Dat) (Z:Env):uP (j::js) (d::ds) Z=uP js ds (Z.set j #[d]):=rfl
@[simp]theorem aqZ (Z:Env):bQ Z []=Z:=rfl
@[simp]theorem aq1 (Z:Env) (j:Nat) (js:List Nat):bQ Z (j::js)=(bQ Z js).set j none:=rfl
@[simp]def aqE {α:Type} (a:α) (l:List α):atI (a::l) 0=some a:=atI_nat (j:=0) rfl
@[simp]theorem asp (n:Nat):ini n ds=ds.map (λd=>#[d])++List.replicate (n-ds.length) none:=rfl
end
def ac1{a b:String}:Str.ofString a=Str.ofString b↔a=b:=by
 constructor
 .intro h;rw[Str.ofString_eq_toList,Str.ofString_eq_toList]at h;have h1:a.toList.map Char.toNat=b.toList.map Char.toNat:=by simpa using h
  have h2:a.toList=b.toList:=by
   refine List.map_inj_right (f:=Char.toNat) (λx y e=>?_) |>.mp h1
   exact Char.ext (UInt32.toNat_inj.mp e)
  exact String.toList_inj.mp h2
 .rintro rfl;rfl
@[simp]def auy (a b:String):(Str.ofString a=Str.ofString b)=(a=b):=propext ac1
@[simp]def arL (a b:String):(Str.ofString a==Str.ofString b)=decide (a=b):=by rw[awq];simp[ac1]
@[simp]def avx {α:Type} (a b:α) (l:List α):atI (a::b::l) 1=some b:=atI_nat (j:=1) rfl
@[simp]def avm {α:Type} (a b c:α) (l:List α):atI (a::b::c::l) 2=some c:=atI_nat (j:=2) rfl
@[simp]def avo {α:Type} (a b c d:α) (l:List α):atI (a::b::c::d::l) 3=some d:=atI_nat (j:=3) rfl
@[simp]def avt {α:Type} (a b c d e:α) (l:List α):atI (a::b::c::d::e::l) 4=some e:=atI_nat (j:=4) rfl
@[simp]def avc {α:Type} (a b c d e f:α) (l:List α):atI (a::b::c::d::e::f::l) 5=some f:=atI_nat (j:=5) rfl
@[simp]def avd {α:Type} (a b c d e f g:α) (l:List α):atI (a::b::c::d::e::f::g::l) 6=some g:=atI_nat (j:=6) rfl
@[simp]def aq4 (s:String):PyData.strOk (Str.ofString s)=true:=by
 rw[Str.ofString_eq_toList];unfold PyData.strOk;simp![Array.all_eq_true,awO];intro i h;simp![List.getElem_toArray,List.getElem_map];have:=s.toList[i]'(by simpa using h) |>.valid
 rcases this with z|⟨_,z⟩
 .show(s.toList[i]'(by simpa using h)).val.toNat<_
  omega
 .show(s.toList[i]'(by simpa using h)).val.toNat<_
  omega
section
variable(i j:Int)(x y:Str)(d e:Dat)(ds es:List Dat)(b c:Bool)
@[simp]def abl:PyData.eqv (.int i) (.int j)=(i==j):=by simp[PyData.eqv]
@[simp]def auK:PyData.eqv (.str x) (.str y)=(x==y):=by simp[PyData.eqv]
@[simp]def as8:PyData.eqv (.bool b) (.bool c)=(b==c):=by simp[PyData.eqv]
@[simp]def as9:PyData.eqv .none .none=true:=by simp[PyData.eqv]
@[simp]def aco:PyData.eqv (.tuple ds) (.tuple es)=PyData.eqvAll ds es:=by simp[PyData.eqv]
@[simp]def aoA:PyData.eqv (.list ds) (.list es)=PyData.eqvAll ds es:=by simp[PyData.eqv]
@[simp]def at6:PyData.eqv (.tuple ds) .none=false:=by simp[PyData.eqv]
@[simp]def atw:PyData.eqv .none (.tuple ds)=false:=by simp[PyData.eqv]
@[simp]def asU:PyData.eqv (.str x) (.int i)=false:=by simp[PyData.eqv]
@[simp]def auF:PyData.eqv (.int i) (.str x)=false:=by simp[PyData.eqv]
@[simp]def alQ:PyData.eqvAll [] []=true:=by simp[PyData.eqvAll]
@[simp]def ar8:PyData.eqvAll [] (d::ds)=false:=by simp[PyData.eqvAll]
@[simp]def alV:PyData.eqvAll (d::ds) []=false:=by simp[PyData.eqvAll]
@[simp]def aeh:PyData.eqvAll (d::ds) (e::es)=(PyData.eqv d e&&PyData.eqvAll ds es):=by simp[PyData.eqvAll]
end
@[simp]theorem Cd:∀l m:List Int,PyData.eqvAll (l.map PyData.int) (m.map PyData.int)=decide (l=m)
 |[],[]=>by simp
 |[],_::_=>by simp
 |_::_,[]=>by simp
 |a::l,b::m=>by
  rw[List.map_cons,List.map_cons,aeh,Cd l m,abl];by_cases h:a=b<;>by_cases h2:l=m<;>simp[h,h2]
theorem Bl{n:Nat}:∀{ds:List Dat},iV n ds=true↔∀d∈ds,okd n d=true
 |[]=>by simp[iV]
 |d::ds=>by simp[iV,Bl (ds:=ds)]
@[simp]def alL (n:Nat) (i:Int):okd n (.int i)=true:=by simp[okd]
@[simp]def YL (n:Nat) (l:List Int):iV n (l.map PyData.int)=true:=Bl.mpr λd h=>by
 let⟨i,_,rfl⟩:=avM.mp h
 simp
def ob(h:Nat):Dat:=obj h
section
variable(M:Mo)(Z:Env)(h:Nat)(f:Str)
@[simp]theorem arX:Ov M f (ob h)=(M[h]?).bind λi=>i.fs.lookup f:=rfl
@[simp]theorem arl (tb:List (Str×MV)):Ij tb M (ob h)=(M[h]?).bind λi=>tb.lookup i.cls:=rfl
@[simp]theorem aaO:lM M (ob h)=(M[h]?).bind λi=>match i.cls=="" with
 |true=>none
 |false=>some (h,i):=rfl
@[simp]theorem atU (o:QF):eG f o M Z=(o M Z).bind λd=>match Ov M f d with
 | #[x]=>.ok x
 |_=>.bad:=rfl
@[simp]theorem asQ (o:QF):bh f o M Z=(o M Z).bind λd=>match Ov M f d with
 | #[x]=>.ok x
 |some (.lst _ xs)=>.ok (.list xs)
 |_=>.bad:=rfl
@[simp]theorem asR (tb:List (Str×MV)) (o:QF) (as:QA):aJ tb o as M Z=(o M Z).bind λd=>match Ij tb M d with
 |some (.q _ m)=>(as M Z).bind λds=>m M (d::ds)
 |_=>.bad:=rfl
@[simp]theorem aqG (tb:List (Str×MV)) (o:QF) (as:QA):bJ tb o as M Z=((o M Z).at M).bind λd _=>match Ij tb M d with
 |some (.q _ m)=>((as M Z).at M).bind λds _=>(m M (d::ds)).at M
 |some (.g _ m)=>((as M Z).at M).bind λds _=>m M (d::ds)
 |none=>.bad:=rfl
@[simp]theorem arS (x:Str) (m:Mo->List Dat->aY Dat) (as:QA):Ds x m as M Z=((as M Z).at M).bind λds _=>match m (M++[⟨x,[]⟩]) (ob M.length::ds) with
 |.ok .none M'=>.ok (ob M.length) M'
 |_=>.bad:=rfl
@[simp]theorem aqR (m:Mo->List Dat->aY Dat) (as:QA):BP m as M Z=((as M Z).at M).bind λds _=>m M ds:=rfl
@[simp]theorem aqp (m:Mo->List Dat->aY Dat) (as:GA):anq m as M Z=(as M Z).bind λds M1=>m M1 ds:=rfl
@[simp]theorem aqt (m:Mo->List Dat->Out Dat) (as:GA):aoX m as M Z=(as M Z).bind λds M1=>(m M1 ds).at M1:=rfl
@[simp]theorem aqs (a:GF) (r:GA):amD a r M Z=(a M Z).bind λd M1=>(r M1 Z).bind λds M2=>.ok (d::ds) M2:=rfl
@[simp]theorem asJ (t:QT):ajd t M Z=(t M Z).at M:=rfl
@[simp]theorem arv (a:GT):apr a M Z=(a M Z).bind λb M1=>.ok (!b) M1:=rfl
@[simp]theorem arh (a b:GT):apR a b M Z=(a M Z).bind λx M1=>if x=true then b M1 Z else .ok false M1:=rfl
@[simp]theorem arU (a b:GT):aqV a b M Z=(a M Z).bind λx M1=>if x=true then .ok true M1 else b M1 Z:=rfl
@[simp]theorem aq9 (a:GF):ap2 a M Z=(a M Z).bind λd M1=>(MK d).at M1:=rfl
@[simp]theorem aqI (x:Str):fH x M Z=.exc ⟨x,[]⟩ Z M:=rfl
@[simp]theorem aqD (x:Str) (fs:List Str) (as:QA):Ez x fs as M Z=((as M Z).at M).then Z λds M'=>.exc ⟨x,(fs.zip ds).reverse⟩ Z M':=rfl
@[simp]theorem atV (b:SF) (hs:List Hd):Tf b hs M Z=match b M Z with
 |.exc x Z' M'=>hdl hs x Z' M'
 |o=>o:=rfl
@[simp]theorem asF (x:dX):hdl [] x Z M=.exc x Z M:=rfl
@[simp]theorem ar3 (h:Hd) (r:List Hd) (x:dX):hdl (h::r) x Z M=match h.tk x.cls with
  |some true=>match aeY Z h.nm with
   |true=>match Hl h.y x h.st (Xv Z h.nm) with
    |some Z2=>.next (Xv Z2 h.nm) M
    |none=>.bad
   |false=>.bad
  |some false=>hdl r x Z M
  |none=>.bad:=rfl
@[simp]theorem arY:Xv Z none=Z:=rfl
@[simp]theorem asz (i:Nat):Xv Z (some i)=Z.set i none:=rfl
@[simp]theorem aqP:aeY Z none=true:=rfl
@[simp]theorem arK (i:Nat):aeY Z (some i)=decide (i<Z.length):=rfl
@[simp]theorem aun (y:Str) (x:dX):Hl y x [] Z=some Z:=rfl
@[simp]theorem aul (y:Str) (x:dX) (j:Nat) (e:IK) (r:List (Nat×IK)):Hl y x ((j,e)::r) Z=(aaC y x e).bind λd=>Hl y x r (Z.set j #[d]):=rfl
@[simp]theorem auL (y:Str) (x:dX) (d:Dat):aaC y x (.con d)=some d:=rfl
@[simp]theorem asH (g:GF):cR g M Z=(g M Z).then Z λd M'=>.ret d M':=rfl
@[simp]theorem au7 (t:GT) (f k:SF):aru t f k M Z=(t M Z).then Z λc M'=>if c=true then f M' Z else k M' Z:=rfl
@[simp]theorem aqA (a b:QF):EY a b M Z=(a M Z).bind λd=>(b M Z).bind λe=>(DK d).bind λlo=>(DK e).bind λn=>Out.when (decide (n<=100000/\-100000<=n/\lo<=100000/\-100000<=lo)) (.ok (jC lo (n-lo).toNat)):=rfl
@[simp]theorem asN (ft:Ft) (o:QF) (e:GF):wu ft o f e M Z=(e M Z).then Z λd M1=>((o M1 Z).at M1).then Z λod M2=>match lM M2 od with
 |some (h,i)=>match ft.has i.cls f&&decide (i.fs.length<100) with
  |true=>.next Z (M2.set h (i.put f (.dat d)))
  |false=>.bad
 |none=>.bad:=rfl
@[simp]theorem arM (ft:Ft) (o:QF) (e:IF):Iu ft o f e M Z=((e M Z).at M).then Z λxs M0=>((o (M0++[⟨"",[]⟩]) Z).at (M0++[⟨"",[]⟩])).then Z λod M2=>match lM M2 od with
 |some (h,i)=>match ft.has i.cls f&&decide (i.fs.length<100) with
  |true=>.next Z (M2.set h (i.put f (.lst M0.length xs)))
  |false=>.bad
 |none=>.bad:=rfl
@[simp]theorem asv (ft:Ft) (o:QF) (b:Bool):QK ft o f b M Z=((o (M++[⟨"",[]⟩]) Z).at (M++[⟨"",[]⟩])).then Z λod M2=>match lM M2 od with
 |some (h,i)=>match ft.has i.cls f&&decide (i.fs.length<100) with
  |true=>.next Z (M2.set h (i.put f (.dic b [])))
  |false=>.bad
 |none=>.bad:=rfl
@[simp]theorem arO (ft:Ft) (o:QF) (e:Mo->Env->Out (List (Dat×Dat))):VD ft o f e M Z=((e M Z).at M).then Z λkvs _=>((o (M++[⟨"",[]⟩]) Z).at (M++[⟨"",[]⟩])).then Z λod M2=>match lM M2 od with
 |some (h,i)=>match ft.has i.cls f&&decide (i.fs.length<100) with
  |true=>.next Z (M2.set h (i.put f (.dic true kvs)))
  |false=>.bad
 |none=>.bad:=rfl
@[simp]theorem ar7 (o:QF) (e:GF):Ip f o e M Z=((o M Z).at M).then Z λod M0=>match Jl M0 f od with
 |some (_,_,n,_)=>(e M0 Z).then Z λd M1=>match Jl M1 f od with
  |some (h,i,n',xs)=>match n==n'&&decide (xs.length<100000) with
   |true=>.next Z (M1.set h (i.put f (.lst n (xs++[d]))))
   |false=>.bad
  |none=>.bad
 |none=>.bad:=rfl
@[simp]theorem asn (o fi e:QF):Wm f o fi e M Z=((e M Z).at M).then Z λd _=>((o M Z).at M).then Z λod _=>match Jl M f od with
 |some (h,i,n,xs)=>((fi M Z).at M).then Z λk _=>match k with
  |.int k=>match ixN xs.length k with
   |some j=>.next Z (M.set h (i.put f (.lst n (xs.set j d))))
   |none=>.bad
  |_=>.bad
 |none=>.bad:=rfl
@[simp]theorem asl (ft:Ft) (o e:QF):U6 ft f o e M Z=((o M Z).at M).then Z λod _=>match lM M od with
 |some (h,i)=>match i.fs.lookup f,ft.has i.cls f&&decide (i.fs.length<100) with
  | #[.int a],true=>((e M Z).at M).then Z λd _=>match d with
   |.int b=>.next Z (M.set h (i.put f (.dat (.int (a+b)))))
   |_=>.bad
  |_,_=>.bad
 |none=>.bad:=rfl
theorem akl(d:Dat):Jl M f d=(lM M d).bind λp=>match p.2.fs.lookup f with
 |some (.lst n xs)=>some (p.1,p.2,n,xs)
 |_=>none:=rfl
@[simp]def arZ:Jl M f (ob h)=(M[h]?).bind λi=>match i.cls=="" with
 |true=>none
 |false=>match i.fs.lookup f with
  |some (.lst n xs)=>some (h,i,n,xs)
  |_=>none:=by
 rw[akl,aaO];cases M[h]? with
 |none=>rfl
 |some i=>
  show(match i.cls=="" with
   |true=>none
   |false=>some (h,i)).bind _=(match i.cls=="" with
   |true=>none
   |false=>_)
  cases i.cls==""<;>rfl
@[simp]theorem arP (i:Inst) (x:jD):i.put f x=⟨i.cls,putL f x i.fs⟩:=rfl
@[simp]theorem avn (x:jD):putL f x []=[(f,x)]:=rfl
@[simp]theorem avf (x y:jD) (g:Str) (r:LsS jD):putL f x ((g,y)::r)=if g=f then(g,x)::r else(g,y)::putL f x r:=rfl
@[simp]theorem aso (ft:Ft) (c:Str):Ft.has ft c f=match ft.lookup c with
 |some fs=>fs.contains f
 |none=>false:=rfl
@[simp]def asO:Bv M f (ob h)=(M[h]?).bind λi=>match i.cls=="" with
 |true=>none
 |false=>match i.fs.lookup f with
  |some (.dic b kvs)=>some (h,i,b,kvs)
  |_=>none:=by
 show(lM M (ob h)).bind _=_
 rw[aaO];cases M[h]? with
 |none=>rfl
 |some i=>
  show(match i.cls=="" with
   |true=>none
   |false=>some (h,i)).bind _=(match i.cls=="" with
   |true=>none
   |false=>_)
  cases i.cls==""<;>rfl
@[simp]theorem atq (neg:Bool) (k o:QF):Ug neg f k o M Z=(k M Z).bind λd=>(o M Z).bind λod=>match Bv M f od with
 |some (_,_,b,kvs)=>(dhas b kvs d).bind λr=>.ok (.bool (neg ^^ r))
 |none=>.bad:=rfl
@[simp]theorem asS (o k e:QF):QL f o k e M Z=((e M Z).at M).then Z λv _=>((o M Z).at M).then Z λod _=>match Bv M f od with
 |some (h,i,b,kvs)=>((k M Z).at M).then Z λd _=>match dhas b kvs d,decide (kvs.length<100000) with
  |.ok false,true=>.next Z (M.set h (i.put f (.dic b (kvs++[(d,v)]))))
  |_,_=>.bad
 |none=>.bad:=rfl
@[simp]theorem arQ (o k:QF):Rc f o k M Z=((o M Z).at M).then Z λod _=>match Bv M f od with
 |some (h,i,b,kvs)=>((k M Z).at M).then Z λd _=>match dhas b kvs d,decide (kvs.length<=100000) with
  |.ok true,true=>.next Z (M.set h (i.put f (.dic b (kvs.filter λp=>!PyData.eqv p.1 d))))
  |_,_=>.bad
 |none=>.bad:=rfl
@[simp]theorem arx (o:QF):Fl f o M Z=(o M Z).bind λod=>match Bv M f od with
 |some (_,_,true,kvs)=>.ok (kvs.map (·.1))
 |_=>.bad:=rfl
@[simp]theorem aq0 (o:QF):Gk f o M Z=(o M Z).bind λod=>match Bv M f od with
 |some (_,_,_,kvs)=>.ok (.list (kvs.map (·.1)))
 |none=>.bad:=rfl
@[simp]theorem avu (it:IF) (tg:dU) (vs:List Nat) (tk:QF):qDc it tg vs tk M Z=(it M Z).bind λds=>Out.when (decide (ds.length<=50000)) (HJ tg tk M (bQ Z vs) ds []):=rfl
@[simp]theorem aqN (kvs:List (Dat×Dat)) (i:Int):dhas false kvs (.int i)=.ok (kvs.any λp=>PyData.eqv p.1 (.int i)):=rfl
@[simp]theorem ava (o:Str->Dat->Out Dat) (a b:QF):Y5 o a b M Z=(a M Z).bind λx=>match x with
 |.str z=>(b M Z).bind (o z)
 |_=>.bad:=rfl
@[simp]theorem auh (o:Str->Dat->Dat->Out Dat) (a b c:QF):ai7 o a b c M Z=(a M Z).bind λx=>match x with
 |.str z=>(b M Z).bind λy=>(c M Z).bind (o z y)
 |_=>.bad:=rfl
@[simp]theorem avj (o:List Dat->Dat->Out Dat) (a b:QF):Vk o a b M Z=(a M Z).bind λx=>match x with
 |.list ds=>(b M Z).bind (o ds)
 |_=>.bad:=rfl
@[simp]theorem at3 (ds:List Dat) (b:QF):aiW ds b M Z=(b M Z).bind (Xq ds):=rfl
@[simp]theorem au9 (a b:QF):aiU a b M Z=(a M Z).bind λd=>(WK d).bind λx=>Out.when (decide (x.length<=100000)) ((b M Z).bind λe=>(WK e).bind λy=>Out.when (decide (x.length+y.length<=100000)) (.ok (.str (x++y)))):=rfl
@[simp]theorem auQ (neg:Bool) (kvs:LsS Dat) (k:QF):Xr neg kvs k M Z=(k M Z).bind λd=>match d with
 |.str x=>.ok (.bool (neg ^^ (kvs.lookup x).isSome))
 |_=>.bad:=rfl
@[simp]theorem ato (kvs:LsS Dat) (k:QF):aez kvs k M Z=(k M Z).bind λd=>match d with
 |.str x=>match kvs.lookup x with
  |some y=>.ok y
  |none=>.bad
 |_=>.bad:=rfl
@[simp]theorem arf (it:IF) (tg:dU) (vs:List Nat) (tt:QT) (it1:IF) (tg1:dU) (vs1:List Nat) (tt1:QT) (te:QF):Fj it tg vs tt it1 tg1 vs1 tt1 te M Z=((it M Z).bind λds=>(iU tg tt it1 tg1 vs1 tt1 te M (bQ Z vs) ds).bind λr=>Out.when (decide (r.length<=50000)) (.ok r)).bind λr=>.ok (.list r):=rfl
@[simp]theorem aqC (it:IF) (tg:dU) (vs:List Nat) (tt:QT) (te:QF):alH it tg vs tt te M Z=((it M Z).bind λds=>Out.when (decide (ds.length<=50000)) (dR tg tt te M (bQ Z vs) ds)).bind λds=>match intsOf ds with
 |some l=>Out.when (decide (l.length<=4000)) (.ok (.list ((ajJ l).map PyData.int)))
 |none=>.bad:=rfl
@[simp]def aqq {α:Type} (k g:Str) (y:α) (r:List (Str×α)):List.lookup k ((g,y)::r)=if k=g then some y else List.lookup k r:=by
 rw[av5];by_cases e:k=g
 .subst e;simp
 .have:(k==g)=false:=by simpa using e
  rw[this,awT e]
end
end Rf
namespace Pr
open PySem PySem.Spec PyProof.Rows L2 Evl Rf
abbrev TabMV := List (Str × MV)
abbrev ListInt := List Int
open Lean in
local macro_rules
| `(#[$n:num]) => `(qC (.int $n))
| `(#[$n:str]) => `(qC (.str $n))
| `(#[$x = $y]) => `(cV (aH DY $x $y))
| `(#[$xs,*]) => do
  if xs.elemsAndSeps.size<2 then Macro.throwUnsupported
  let mut r ← `(dI)
  for x in xs.getElems.reverse do r ← `(U3 $x $r)
  return r
open Lean in
local macro_rules
| `(%[$xs,*|$r]) => do
  let mut r := r
  for x in xs.getElems.reverse do r ← `(ak $x $r)
  return r
local macro_rules
| `($x[$n:num]!) => `(aH yM $x (qC (.int $n)))
| `($x[$n]!) => `(aH yM $x $n)
local macro_rules
| `(($n:num)) => `(UW $n)
| `(($n:num:)) => `(DG $n)
def Bt:SF:=
 (ak (Iu lJ (0) "allowances" (Ie dI))
 (Iu lJ (0) "circles" (Ie dI)))
def wz:=mG 1 Bt
def Du:SF:=
 (QK lJ (0) "held" true)
def yg:=mG 1 Du
def Jv:SF:=
 (Iu lJ (0) "beasts" (Ie dI))
def BK:=mG 1 Jv
def Bg:SF:=
 (ak (wu lJ (0) "owner_count" (gOf #[0]))
 (ak (QK lJ (0) "holders" false)
 (ak (wu lJ (0) "grounds" (Ds "Grounds" wz dI))
 (ak (wu lJ (0) "rights" (Ds "Rights" yg dI))
 (wu lJ (0) "herd" (Ds "Herd" BK dI))))))
def rJ:=mG 1 Bg
def acg:SF:=
 (ak (bf (cV (aH Np (1) (eZ qO (0)))) (aM (0)[(1)]!) aD)
 (aM #[0]))
def Cr:=mQ 2 acg
def Xe:SF:=
 (ak (aU (ao 5) (gOf (aH lu (aH eU (aH eU (aH yr (5) #[48271]) (aH yr #[9973] (4))) #[11]) #[2147483647])))
 (Gn 3 (aH lu (aH DQ (5) #[1021]) (2))))
def Xy:SF:=
 (ak (Gn 3 (aH lu (0) (2)))
 (aU (ao 0) (gOf (aH DQ (0) (2)))))
def aeM:SF:=
 (ak (yx 3 (Ie dI))
 (ak (aU (ao 0) (gOf (eZ Yc (0))))
 (ak (bf (cV (aH geD (0) (aH Tv #[10] #[18]))) (ak (nQ (Bj (1)) (ao 4) Xy)
 (aM (3:))) aD)
 (ak (aU (ao 5) (gOf (aH lu (aH yr (aH eU (aH lu (0) #[1000003]) #[17]) #[69621]) #[2147483647])))
 (ak (nQ (Bj (1)) (ao 4) Xe)
 (aM (3:)))))))
def ug:=mQ 6 aeM
def SN:SF:=
 (ak (bf #[(aH lu (1) #[4])=#[1]] (aM (eZ m7 (dO (bV (0)) (ao 2) [2] gU (aH qU #[0] (aH kh (2) #[7]))))) aD)
 (ak (bf #[(aH lu (1) #[4])=#[2]] (aM (eZ m7 (dO (bV (0)) (ao 2) [2] gU (aH lu (2) #[3])))) aD)
 (aM (eZ m7 (0)))))
def v8:=mQ 3 SN
def afu:SF:=
 (ak (aU (ao 1) (gOf (aO ug #[(0:),#[7],#[10]])))
 (aM (aO v8 #[R5 (1) Fp (sE #[6]),(1)[6]!])))
def LR:=mQ 2 afu
def Jj:SF:=
 (ak (bf #[(aH lu (0) #[8])=#[7]] (aM (za dI)) aD)
 (ak (aU (ao 1) (gOf (za #[aW #[#["ground"],#[0],#[0]],aW #[#["owner"],#[0],#[0]],aW #[#["owner"],#[0],#[0]],aW #[#["enrol"],#[0],#[0]],aW #[#["enrol"],#[1],#[0]]])))
 (ak (aU (ao 1) (gOf (aH eU (1) (za #[aW #[#["bring"],#[0],#[0]],aW #[#["cut"],#[0],#[0]],aW #[#["bring"],#[1],#[0]],aW #[#["cut"],#[1],#[0]],aW #[#["ground"],#[0],#[0]],aW #[#["enrol"],#[0],#[1]]]))))
 (aM (1:)))))
def xP:=mQ 2 Jj
def Qe:SF:=
 (ak (aU (ao 1) (gOf (za #[#["tear"],#["cut"],#["bring"],#["sell"],#["move"],#["enrol"],#["bear"],#["tear"],#["cut"],#["sell"],#["move"],#["unite"],#["part"]])))
 (ak (aU (ao 1) (gOf (aH eU (1) (za #[#["heir"],#["pass"],#["die"],#["leave"],#["ground"],#["owner"],#["enrol"],#["tear"],#["sell"],#["bring"],#["bear"],#["cut"]]))))
 (aM (1)[aH lu (0) #[25]]!)))
def vD:=mQ 2 Qe
def nY:SF:=
 (bf (cV (Ug true "holders" (1:) (0))) (fH "NoOwner") aD)
def jO:=mQ 2 nY
def wN:SF:=
 (aM (eZ qO (bh "allowances" (0))))
def rN:=mQ 1 wN
def fP:TabMV:=[("Grounds",.q 1 rN)]
def Dy:SF:=
 (aM (ZP (o7 uN uN #[1] (1) (aJ fP (0) dI))))
def xX:=mQ 2 Dy
def Bo:TabMV:=[("Grounds",.q 2 xX)]
def Bp:SF:=
 (bf (ji (fV (aJ Bo (0) #[(1:),]))) (fH "NoGround") aD)
def wO:=mQ 2 Bp
def Bu:SF:=
 (aM (dO (Fl "held" (0)) (aV [3,4,5]) [3,4,5] (gA #[(3)=(1)] #[(4)=(2)]) (5:)))
def wL:=mQ 6 Bu
def cG:TabMV:=[("Rights",.q 3 wL)]
def vW:SF:=
 (aM (aH gtD (eZ qO (aJ cG (0) #[(1:),(2:)])) #[0]))
def pZ:=mQ 3 vW
def uX:TabMV:=[("Rights",.q 3 pZ)]
def uo:SF:=
 (bf (ji (fV (aJ uX (bh "rights" (0)) #[(1:),(2:)]))) (fH "NoRight") aD)
def nR:=mQ 3 uo
def u5:SF:=
 (ak (U6 lJ "owner_count" (0) #[1])
 (ak (QL "holders" (0) (eG "owner_count" (0)) (qC (.bool true)))
 (aM (eG "owner_count" (0)))))
def gQ:=mG 1 u5
def qp:SF:=
 (ak (aU (ao 4) (gOf (aW #[(1:),(2:),(3:)])))
 (ak (bf (cV (Ug false "held" (4:) (0))) (fH "HasRight") aD)
 (QL "held" (0) (4:) (qC (.bool true)))))
def jH:=mG 5 qp
def Gy:SF:=
 (aU (ao 2) (gOf (Fj (bV (2)) (aV [4,5]) [4,5,6] gU (EY (3) (aH eU (aH Lz (aH eU (3) (5)) (qC cP)) #[1])) (ao 6) [6] gU (aW #[aH eU (4) (aW #[(6:),]),aH kh (5) (aH kh (6) (3))]))))
def aaD:SF:=
 (ak (aU (ao 2) (gOf (za #[aW #[aW dI,(1:)],])))
 (ak (nQ (bV (0:)) (ao 3) Gy)
 (aM (dO (bV (2)) (aV [4,5]) [4,5] gU (4:)))))
def N8:=mQ 7 aaD
def Xg:SF:=
 (aM (eZ Yb (dO (Jq (0) (1)) (aV [2,3]) [2,3] (cV (aH gtD (3) (2))) (aH kh (3) (2)))))
def jX:=mQ 4 Xg
def Jt:SF:=
 (aM (dO (bV (aO N8 #[(0:),(1:)])) (ao 2) [2] #[(aO jX #[(0:),(2:)])=(1)] (2:)))
def xJ:=mQ 3 Jt
def WQ:SF:=
 (aM (aH qU (aO jX #[(0:),(1:)]) (aO jX #[(1:),(0:)])))
def JC:=mQ 2 WQ
def abu:SF:=
 (aM (aH uN (aO JC #[(0:),(1:)]) (2)))
def uD:=mQ 3 abu
def lg:SF:=
 (bf (ji (fV (eZ Uk (dO (bV (2)) (aV [5,6]) [5,6] gU (aO uD #[(4:),(6:),(3:)]))))) (aM (4:)) aD)
def zY:SF:=
 (ak (nQ (bV (aO xJ #[(0:),(1:)])) (ao 4) lg)
 (fH "NoneFree"))
def rZ:=mQ 7 zY
def tZ:SF:=
 (aM (aJ cG (bh "rights" (0)) #[(1:),(2:)])[0]!)
def oA:=mQ 3 tZ
def au:TabMV:=[("Grounds",.q 2 wO)]
def qj:SF:=
 (ak (cD (gOf (aJ au (0) #[(1:),])))
 (aM (eZ Ig (bh "circles" (0))[aH kh (1) #[1]]!)))
def lY:=mQ 2 qj
def bx:TabMV:=[("Grounds",.q 2 lY)]
def qD:SF:=
 (aM (aJ bx (bh "grounds" (0)) #[(1:),]))
def lW:=mQ 2 qD
def Sv:SF:=
 (aM (eZ U9 (0)))
def sV:=mQ 1 Sv
def wX:SF:=
 (aM (dO (xY 1 (bh "beasts" (0))) (aV [1,2]) [1,2] (fV (bh "alive" (2))) (aW #[(1:),(2:)])))
def qX:=mQ 3 wX
def bO:TabMV:=[("Herd",.q 1 qX)]
def Bq:SF:=
 (aM (dO (bV (aJ bO (0) dI)) (aV [2,3]) [2,3] (cV (aH (inD false) (bh "ground" (3)) (1))) (aW #[(2:),(3:)])))
def rA:=mQ 4 Bq
def uY:SF:=
 (aM (dO (Fl "held" (0)) (aV [2,3,4]) [2,3,4] (cV (aH (inD false) (3) (1))) (aW #[(2:),(4:)])))
def pq:=mQ 5 uY
def tO:TabMV:=[("Rights",.q 2 pq)]
def jR:TabMV:=[("Herd",.q 2 rA)]
def bR:TabMV:=[("Commons",.q 2 lW)]
def lK:SF:=
 (ak (aU (ao 3) (gOf (aJ bR (0) #[(2:),])))
 (ak (aU (ao 4) (gOf (dO (bV (aJ jR (bh "herd" (0)) #[(3:),])) (aV [5,6]) [5,6] (gA (cV (sO true .none (bh "due" (6)))) (cV (aH uH (5) (1)))) (aW #[eG "owner" (6),eG "due" (6)]))))
 (aM (aO sV #[aH eU (aJ tO (bh "rights" (0)) #[(3:),]) (4),]))))
def jd:=mQ 7 lK
def cZ:TabMV:=[("Commons",.q 3 jd)]
def qw:SF:=
 (aM (aJ cZ (0) #[#[0],(1:)]))
def lQ:=mQ 2 qw
def pC:SF:=
 (ak (cD (gOf (aJ au (0) #[(1:),])))
 (aM (bh "allowances" (0))[aH kh (1) #[1]]!))
def kW:=mQ 2 pC
def dZ:TabMV:=[("Grounds",.q 2 kW)]
def wJ:SF:=
 (aM (eZ maxD (dO (bV (aJ bx (0) #[(1:),])) (ao 2) [2] gU (aJ dZ (0) #[(2:),]))))
def sG:=mQ 3 wJ
def vB:TabMV:=[("Grounds",.q 2 sG)]
def wM:SF:=
 (aM (aJ vB (bh "grounds" (0)) #[(1:),]))
def qZ:=mQ 2 wM
def iY:TabMV:=[("Rights",.g 4 jH)]
def dw:TabMV:=[("Commons",.g 1 gQ)]
def bL:TabMV:=[("Commons",.q 2 qZ)]
def bK:TabMV:=[("Commons",.q 2 lQ)]
def bW:TabMV:=[("Commons",.q 3 oA)]
def aP:TabMV:=[("Commons",.q 3 nR)]
def aq:TabMV:=[("Commons",.q 2 jO)]
def eO:SF:=
 (ak (cD (gOf (aJ aq (0) #[(1:),])))
 (ak (cD (gOf (aJ au (bh "grounds" (0)) #[(2:),])))
 (ak (bf (ji (o7 uN uN (qC jy) (3) (qC lV))) (fH "BadExtra") aD)
 (ak (cD (gOf (aJ aP (0) #[(1:),(2:)])))
 (ak (aU (ao 4) (gOf (aO rZ #[aJ bW (0) #[(1:),(2:)],(3:),aJ bK (0) #[(2:),],aJ bL (0) #[(2:),]])))
 (ak (aU (ao 5) (bJ dw (0) dI))
 (ak (cD (bJ iY (bh "rights" (0)) #[(5:),(2:),(4:)]))
 (aM (aW #[(5:),(4:)])))))))))
def cI:=mG 6 eO
def jQ:SF:=
 (ak (bf (ji (o7 uN uN #[0] (1) (qC iK))) (fH "BadAllowance") aD)
 (ak (Ip "allowances" (0) (gOf (1:)))
 (ak (Ip "circles" (0) (gOf (aW #[aJ fP (0) dI,])))
 (aM (aJ fP (0) dI)))))
def fY:=mG 2 jQ
def mD:TabMV:=[("Grounds",.g 2 fY)]
def ou:SF:=
 (cR (bJ mD (bh "grounds" (0)) #[(1:),]))
def fZ:=mG 2 ou
def PN:SF:=
 (aM (dO (bV (aO sV #[(2:),])) (aV [4,5]) [4,5] (gA (cV (aH uH (4) (0))) (fV (aO uD #[(1:),(5:),(3:)]))) (aW #[(4:),(5:)])))
def Dc:=mQ 6 PN
def Xc:SF:=
 (aM (eZ m7 (dO (Jq (0) (1)) (aV [2,3]) [2,3] gU (aH qU (2) (3)))))
def mU:=mQ 4 Xc
def Ei:SF:=
 (ak (aU (ao 4) (gOf (aO Dc #[(0:),(1:),(2:),(3:)])))
 (bf (fV (4)) (ak (aU (aV [5,6]) (gOf (4)[0]!))
 (Ez "Clash" ["ones","others","ear"] #[aW #[(0:),(1:)],aW #[(5:),(6:)],aO mU #[(1:),(6:)]])) aD))
def pW:=mQ 7 Ei
def nO:SF:=
 (cD (gOf (aO pW #[(1:),(2:),aJ bK (0) #[(3:),],aJ bL (0) #[(3:),]])))
def iG:=mQ 4 nO
def MJ:SF:=
 (aM (zm (aH DY (eZ qO (0)) (eZ qO (qC jo))) (eZ T8 (dO (bV (0)) (ao 1) [1] gU (ZP (o7 uN uN #[0] (1) (qC cP)))))))
def vL:=mQ 2 MJ
def Lf:SF:=
 (bf (ji (fV (aO vL #[(0:),]))) (fH "BadEar") aD)
def tK:=mQ 1 Lf
def bY:TabMV:=[("Commons",.q 4 iG)]
def gR:SF:=
 (ak (cD (gOf (aJ aq (0) #[(1:),])))
 (ak (cD (gOf (aJ au (bh "grounds" (0)) #[(2:),])))
 (ak (cD (gOf (aO tK #[(3:),])))
 (ak (bf #[(3)=(qC jT)] (fH "Bare") aD)
 (ak (bf (cV (aH (inD false) (3) (aJ cG (bh "rights" (0)) #[(1:),(2:)]))) (fH "HasRight") aD)
 (ak (cD (gOf (aJ bY (0) #[(1:),(3:),(2:)])))
 (cD (bJ iY (bh "rights" (0)) #[(1:),(2:),(3:)]))))))))
def dJ:=mG 4 gR
def yV:SF:=
 (Rc "held" (0) (aW #[(1:),(2:),(4:)]))
def yh:SF:=
 (ak (aU (ao 3) (gOf (aJ cG (0) #[(1:),(2:)])))
 (ak (bf (ji (fV (3))) (fH "NoRight") aD)
 (ak (nQ (bV (3:)) (ao 4) yV)
 (aM (3:)))))
def pJ:=mG 5 yh
def Am:TabMV:=[("Rights",.g 3 pJ)]
def jV:SF:=
 (ak (cD (gOf (aJ aq (0) #[(1:),])))
 (ak (cD (gOf (aJ au (bh "grounds" (0)) #[(2:),])))
 (ak (cD (gOf (aJ aP (0) #[(1:),(2:)])))
 (ak (bf (fV (eZ Uk (dO (bV (aJ jR (bh "herd" (0)) #[za #[(2:),],])) (aV [3,4]) [3,4] gU (aH DY (bh "owner" (4)) (1))))) (fH "StillThere") aD)
 (cR (bJ Am (bh "rights" (0)) #[(1:),(2:)]))))))
def fM:=mG 5 jV
def tR:SF:=
 (ak (aU (aV [2,3,4,5,6]) (gOf (1:)))
 (ak (wu lJ (0) "owner" (gOf (2:)))
 (ak (wu lJ (0) "ground" (gOf (3:)))
 (ak (wu lJ (0) "due" (gOf (4:)))
 (ak (wu lJ (0) "ear" (gOf (5:)))
 (wu lJ (0) "alive" (gOf (6:))))))))
def oZ:=mG 7 tR
def Rv:SF:=
 (ak (bf #[(0)[0]! = #["born"]] (ak (aU (aV [1,2,3,4]) (gOf (0:)))
 (aM (aW #[(3:),(4:),qC .none,qC jT,qC (.bool true)]))) aD)
 (ak (aU (aV [1,3,4,5]) (gOf (0:)))
 (aM (aW #[(3:),(4:),qC .none,(5:),qC (.bool true)]))))
def Ey:=mQ 6 Rv
def jY:TabMV:=[("Beast",.g 2 oZ)]
def Fq:SF:=
 (ak (Iu lJ (0) "story" (Ie #[(1:),]))
 (ak (wu lJ (0) "mother" (gOf (Qa #[(1)[0]! = #["born"]] (1)[1]! #[0])))
 (cD (bJ jY (0) #[aO Ey #[(1:),],]))))
def vO:=mG 2 Fq
def yu:SF:=
 (ak (Ip "beasts" (0) (Ds "Beast" vO #[(1:),]))
 (aM (eZ qO (bh "beasts" (0)))))
def ux:=mG 2 yu
def j6:TabMV:=[("Herd",.g 2 ux)]
def jW:SF:=
 (ak (cD (gOf (aJ aq (0) #[(1:),])))
 (ak (cD (gOf (aJ au (bh "grounds" (0)) #[(2:),])))
 (ak (cD (gOf (aO tK #[(3:),])))
 (ak (cD (gOf (aJ aP (0) #[(1:),(2:)])))
 (cR (bJ j6 (bh "herd" (0)) #[aW #[#["brought"],(1:),(2:),(3:)],]))))))
def fO:=mG 4 jW
def vX:SF:=
 (ak (bf (ji (o7 uN uN #[1] (1) (eZ qO (bh "beasts" (0))))) (fH "NoBeast") aD)
 (aM (bh "beasts" (0))[aH kh (1) #[1]]!))
def lU:=mQ 2 vX
def cY:TabMV:=[("Herd",.q 2 lU)]
def xV:SF:=
 (ak (aU (ao 2) (gOf (aJ cY (0) #[(1:),])))
 (ak (bf (ji (fV (bh "alive" (2)))) (fH "Dead") aD)
 (aM (2:))))
def uL:=mQ 3 xV
def bD:TabMV:=[("Herd",.q 2 uL)]
def uG:SF:=
 (ak (aU (ao 2) (gOf (aJ bD (0) #[(1:),])))
 (ak (bf (cV (sO false .none (bh "due" (2)))) (fH "Unmarked") aD)
 (aM (2:))))
def pN:=mQ 3 uG
def aN:TabMV:=[("Herd",.q 2 pN)]
def oJ:SF:=
 (ak (aU (ao 2) (gOf (aJ aN (bh "herd" (0)) #[(1:),])))
 (cR (bJ j6 (bh "herd" (0)) #[aW #[#["born"],(1:),eG "owner" (2),eG "ground" (2)],])))
def iH:=mG 3 oJ
def Lk:SF:=
 (aM (eZ m7 (dO (xY 0 (0)) (aV [2,3]) [2,3] gU (Qa #[(2)=(1)] (aH eU (3) #[1]) (3:)))))
def zW:=mQ 4 Lk
def Qo:SF:=
 (ak (aU (aV [2,3,4,5,6]) (gOf (0:)))
 (ak (aU (ao 7) (gOf (1)[0]!))
 (ak (bf #[(7)=#["cut"]] (Vs 4 5 (gOf (1)[1]!)) (bf #[(7)=#["torn"]] (aU (ao 5) (gOf (aO zW #[(5:),(1)[1]!]))) (bf #[(7)=#["sold"]] (ak (aU (ao 2) (gOf (1)[1]!))
 (Vs 4 5 (gOf (1)[2]!))) (bf #[(7)=#["moved"]] (aU (ao 3) (gOf (1)[1]!)) (bf #[(7)=#["followed"]] (ak (aU (ao 2) (gOf (1)[1]!))
 (aU (ao 3) (gOf (1)[2]!))) (bf #[(7)=#["passed"]] (aU (ao 2) (gOf (1)[1]!)) (bf #[(7)=#["died"]] (aU (ao 6) (gOf (qC (.bool false)))) aD)))))))
 (aM (aW #[(2:),(3:),(4:),(5:),(6:)])))))
def CW:=mQ 8 Qo
def Dt:SF:=
 (aM (aW #[eG "owner" (0),eG "ground" (0),eG "due" (0),eG "ear" (0),eG "alive" (0)]))
def xU:=mQ 1 Dt
def oK:TabMV:=[("Beast",.q 1 xU)]
def Bx:SF:=
 (ak (Ip "story" (0) (gOf (1:)))
 (cD (bJ jY (0) #[aO CW #[aJ oK (0) dI,(1:)],])))
def oR:=mG 2 Bx
def bF:TabMV:=[("Beast",.g 2 oR)]
def pP:SF:=
 (ak (aU (ao 2) (gOf (aJ bD (bh "herd" (0)) #[(1:),])))
 (ak (aU (ao 3) (gOf (aO mU #[eG "ear" (2),aJ bW (0) #[eG "owner" (2),eG "ground" (2)]])))
 (ak (cD (gOf (aJ bY (0) #[eG "owner" (2),(3:),eG "ground" (2)])))
 (ak (cD (bJ bF (2) #[aW #[#["cut"],(3:)],]))
 (aM (3:))))))
def jk:=mG 4 pP
def jF:SF:=
 (ak (aU (ao 3) (gOf (aJ bD (bh "herd" (0)) #[(1:),])))
 (ak (bf (ji (o7 uN Np #[0] (2) (eZ qO (qC jo)))) (fH "NoPlace") aD)
 (ak (bf (cV (aH geD (bh "ear" (3))[(2)]! (qC cP))) (fH "Deepest") aD)
 (ak (cD (bJ bF (3) #[aW #[#["torn"],(2:)],]))
 (aM (eG "ear" (3)))))))
def fJ:=mG 4 jF
def yd:SF:=
 (ak (cD (gOf (aJ cY (0) #[(1:),])))
 (aM (dO (bV (aJ bO (0) dI)) (aV [2,3]) [2,3] (gA #[(bh "mother" (3))=(1)] (cV (sO false .none (bh "due" (3))))) (aW #[(2:),(3:)]))))
def pQ:=mQ 4 yd
def kZ:TabMV:=[("Herd",.q 2 pQ)]
def tG:SF:=
 (cD (bJ bF (4) #[aW #[#["followed"],eG "owner" (2),eG "ground" (2)],]))
def vZ:SF:=
 (ak (aU (ao 2) (gOf (aJ cY (0) #[(1:),])))
 (nQ (bV (aJ kZ (0) #[(1:),])) (aV [3,4]) tG))
def qF:=mG 5 vZ
def jc:TabMV:=[("Herd",.g 2 qF)]
def gG:SF:=
 (ak (aU (ao 3) (gOf (aJ aN (bh "herd" (0)) #[(1:),])))
 (ak (cD (gOf (aJ aq (0) #[(2:),])))
 (ak (bf #[(bh "owner" (3))=(2)] (fH "SameOwner") aD)
 (ak (cD (gOf (aJ aP (0) #[(2:),eG "ground" (3)])))
 (ak (aU (ao 4) (gOf (aO mU #[eG "ear" (3),aJ bW (0) #[(2:),eG "ground" (3)]])))
 (ak (cD (gOf (aO pW #[(2:),(4:),aJ cZ (0) #[(1:),eG "ground" (3)],aJ bL (0) #[eG "ground" (3),]])))
 (ak (cD (bJ bF (3) #[aW #[#["sold"],(2:),(4:)],]))
 (ak (cD (bJ jc (bh "herd" (0)) #[(1:),]))
 (aM (4:))))))))))
def dH:=mG 5 gG
def gD:SF:=
 (ak (aU (ao 3) (gOf (aJ aN (bh "herd" (0)) #[(1:),])))
 (ak (cD (gOf (aJ au (bh "grounds" (0)) #[(2:),])))
 (ak (aU (ao 4) (gOf (eG "ground" (3))))
 (ak (bf #[(4)=(2)] (fH "SameGround") aD)
 (ak (cD (gOf (aJ aP (0) #[eG "owner" (3),(2:)])))
 (ak (cD (gOf (aJ bY (0) #[eG "owner" (3),eG "due" (3),(2:)])))
 (ak (cD (bJ bF (3) #[aW #[#["moved"],(2:)],]))
 (ak (cD (bJ jc (bh "herd" (0)) #[(1:),]))
 (aM (4:))))))))))
def dG:=mG 5 gD
def uI:SF:=
 (cD (bJ bF (aJ bD (bh "herd" (0)) #[(1:),]) #[aW #[#["died"],],]))
def j8:=mG 2 uI
def Lr:SF:=
 (ak (aU (ao 2) (gOf (aO sV #[(0:),])))
 (aM (Fj (xY 0 (2)) (aV [3,4]) [3,4,5] gU (bV (R5 (2) (sE (aH eU (3) #[1])) Fp)) (ao 5) [5] (gA (cV (aH uH (4)[0]! (5)[0]!)) (fV (aO uD #[(4)[1]!,(5)[1]!,(1:)]))) (aW #[(4:),(5:)]))))
def wI:=mQ 6 Lr
def v7:SF:=
 (ak (aU (ao 3) (gOf (aH qU (aJ bL (0) #[(1:),]) (aJ bL (0) #[(2:),]))))
 (aM (aO wI #[aH eU (aJ bK (0) #[(1:),]) (aJ bK (0) #[(2:),]),(3:)])))
def lO:=mQ 4 v7
def uV:SF:=
 (Wm "circles" (0) (aH kh (3) #[1]) (2:))
def wY:SF:=
 (ak (aU (ao 2) (gOf (eZ m7 (1))))
 (ak (nQ (bV (1:)) (ao 3) uV)
 (aM (1:))))
def ni:=mG 4 wY
def iw:TabMV:=[("Grounds",.g 2 ni)]
def vC:SF:=
 (ak (aU (ao 3) (gOf (aJ bx (0) #[(1:),])))
 (ak (aU (ao 4) (gOf (aJ bx (0) #[(2:),])))
 (ak (bf (cV (aH (inD false) (2) (3))) (fH "Together") aD)
 (cR (bJ iw (0) #[eZ vA (aH eU (3) (4)),])))))
def jL:=mG 5 vC
def yq:TabMV:=[("Grounds",.g 3 jL)]
def pB:TabMV:=[("Commons",.q 3 lO)]
def jN:SF:=
 (ak (cD (gOf (aJ au (bh "grounds" (0)) #[(2:),])))
 (ak (bf (cV (aH (inD false) (2) (aJ bR (0) #[(1:),]))) (fH "Together") aD)
 (ak (aU (ao 3) (gOf (aJ pB (0) #[(1:),(2:)])))
 (ak (bf (fV (3)) (ak (aU (aV [4,5]) (gOf (3)[0]!))
 (Ez "Clash" ["ones","others","ear"] #[(4:),(5:),aO mU #[(4)[1]!,(5)[1]!]])) aD)
 (cR (bJ yq (bh "grounds" (0)) #[(1:),(2:)]))))))
def eV:=mG 6 jN
def rG:SF:=
 (ak (aU (ao 2) (gOf (dO (bV (aJ bx (0) #[(1:),])) (ao 3) [3] (cV (aH uH (3) (1))) (3:))))
 (ak (bf (ji (fV (2))) (fH "Alone") aD)
 (ak (cD (bJ iw (0) #[za #[(1:),],]))
 (cR (bJ iw (0) #[(2:),])))))
def iT:=mG 4 rG
def ql:TabMV:=[("Grounds",.g 2 iT)]
def rB:SF:=
 (cR (bJ ql (bh "grounds" (0)) #[(1:),]))
def iI:=mG 2 rB
def vJ:SF:=
 (VD lJ (0) "held" (qDc (Fl "held" (0)) (aV [3,4,5]) [3,4,5] (aW #[Qa #[(3)=(1)] (2:) (3:),(4:),(5:)])))
def qu:=mG 6 vJ
def Fg:SF:=
 (aM (dO (bV (aJ bO (0) dI)) (aV [2,3]) [2,3] #[(bh "owner" (3))=(1)] (aW #[(2:),(3:)])))
def zN:=mQ 4 Fg
def Dm:TabMV:=[("Herd",.q 2 zN)]
def u9:TabMV:=[("Rights",.g 3 qu)]
def uZ:SF:=
 (cD (bJ bF (5) #[aW #[#["passed"],(2:)],]))
def j5:SF:=
 (ak (cD (gOf (aJ aq (0) #[(1:),])))
 (ak (cD (gOf (aJ aq (0) #[(2:),])))
 (ak (bf #[(1)=(2)] (fH "SameOwner") aD)
 (ak (cD (bJ u9 (bh "rights" (0)) #[(1:),(2:)]))
 (ak (aU (ao 3) (gOf (aJ Dm (bh "herd" (0)) #[(1:),])))
 (ak (nQ (bV (3:)) (aV [4,5]) uZ)
 (ak (Rc "holders" (0) (1:))
 (aM (dO (bV (3)) (aV [4,5]) [4,5] gU (4:))))))))))
def fD:=mG 6 j5
def w6:SF:=
 (ak (bf #[(0)=#["ear"]] (aM (zm (zJ .tuple (1)) (aO vL #[(1:),]))) aD)
 (ak (aU (ao 2) (gOf (Qa #[(0)=#["place"]] (aH kh (eZ qO (qC jo)) #[1]) (qC qG))))
 (aM (zm (zJ .int (1)) (ZP (o7 uN uN #[0] (1) (2)))))))
def jh:=mQ 3 w6
def abX:SF:=
 (ak (bf (Dr #[(eZ qO (0))=#[0]] (cV (Xr true (BW Az) (0)[0]!))) (aM (qC (.bool false))) aD)
 (ak (aU (ao 1) (gOf (aez (BW Az) (0)[0]!)))
 (ak (aU (ao 2) (gOf (R5 (0) (sE #[1]) Fp)))
 (aM (zm (aH DY (eZ qO (2)) (eZ qO (1))) (eZ T8 (dO (Jq (1) (2)) (aV [3,4]) [3,4] gU (aO jh #[(3:),(4:)]))))))))
def Kg:=mQ 5 abX
def iZ:TabMV:=[("Commons",.g 4 cI)]
def jA:TabMV:=[("Commons",.g 3 fD)]
def zB:TabMV:=[("Commons",.g 2 iI)]
def yt:TabMV:=[("Commons",.g 3 eV)]
def oG:TabMV:=[("Commons",.g 2 j8)]
def mj:TabMV:=[("Commons",.g 3 dG)]
def mO:TabMV:=[("Commons",.g 3 dH)]
def mJ:TabMV:=[("Commons",.g 3 fJ)]
def oN:TabMV:=[("Commons",.g 2 jk)]
def mH:TabMV:=[("Commons",.g 2 iH)]
def lH:TabMV:=[("Commons",.g 4 fO)]
def lF:TabMV:=[("Commons",.g 3 fM)]
def lB:TabMV:=[("Commons",.g 4 dJ)]
def gY:TabMV:=[("Commons",.g 2 fZ)]
def cM:SF:=
 (ak (bf (ji (fV (aO Kg #[(1:),]))) (fH "BadDeed") aD)
 (ak (aar 2 3 (gOf (1:)))
 (ak (bf #[(2)=#["owner"]] (cR (bJ dw (0) dI)) aD)
 (ak (bf #[(2)=#["ground"]] (cR (bJ gY (0) #[(3)[0]!,])) aD)
 (ak (bf #[(2)=#["enrol"]] (cR (bJ lB (0) #[(3)[0]!,(3)[1]!,(3)[2]!])) aD)
 (ak (bf #[(2)=#["leave"]] (cR (bJ lF (0) #[(3)[0]!,(3)[1]!])) aD)
 (ak (bf #[(2)=#["bring"]] (cR (bJ lH (0) #[(3)[0]!,(3)[1]!,(3)[2]!])) aD)
 (ak (bf #[(2)=#["bear"]] (cR (bJ mH (0) #[(3)[0]!,])) aD)
 (ak (bf #[(2)=#["cut"]] (cR (bJ oN (0) #[(3)[0]!,])) aD)
 (ak (bf #[(2)=#["tear"]] (cR (bJ mJ (0) #[(3)[0]!,(3)[1]!])) aD)
 (ak (bf #[(2)=#["sell"]] (cR (bJ mO (0) #[(3)[0]!,(3)[1]!])) aD)
 (ak (bf #[(2)=#["move"]] (cR (bJ mj (0) #[(3)[0]!,(3)[1]!])) aD)
 (ak (bf #[(2)=#["die"]] (cR (bJ oG (0) #[(3)[0]!,])) aD)
 (ak (bf #[(2)=#["unite"]] (cR (bJ yt (0) #[(3)[0]!,(3)[1]!])) aD)
 (ak (bf #[(2)=#["part"]] (cR (bJ zB (0) #[(3)[0]!,])) aD)
 (ak (bf #[(2)=#["pass"]] (cR (bJ jA (0) #[(3)[0]!,(3)[1]!])) aD)
 (cR (bJ iZ (0) #[(3)[0]!,(3)[1]!,(3)[2]!]))))))))))))))))))
def cC:=mG 4 cM
def pU:TabMV:=[("Commons",.g 2 cC)]
def Ks:SF:=
 (ak (aU (ao 3) (gOf (qC .none)))
 (ak (Tf (aU (ao 3) (bJ pU (0) #[(1:),])) [⟨"CommonError",λx=>oF.lookup x,none,[(3,(.con .none))]⟩])
 (ak (bf (cV (sO false .none (3))) (aM (2:)) aD)
 (ak (aU (aV [4,5,6]) (gOf (2:)))
 (ak (bf (Dr #[(1)[0]! = #["owner"]] #[(1)[0]! = #["heir"]]) (Jg 4 #[1]) aD)
 (ak (bf #[(1)[0]! = #["ground"]] (Jg 5 #[1]) aD)
 (ak (bf (Dr #[(1)[0]! = #["bring"]] #[(1)[0]! = #["bear"]]) (Jg 6 #[1]) aD)
 (aM (aW #[(4:),(5:),(6:)])))))))))
def nH:=mG 7 Ks
def Us:SF:=
 (ak (aU (ao 5) (gOf (aW #[#[0],#[0],#[0],#[0],#[0],#[1],#[1],#[2],#[3],eZ T6 #[1]])[(4)]!))
 (Gn 2 (aH qU #[0] (aH Lz #[9] (aH eU (3) (5))))))
def abd:SF:=
 (ak (yx 2 (Ie dI))
 (ak (nQ (Jq (0:) (1:)) (aV [3,4]) Us)
 (aM (eZ m7 (2)))))
def Ot:=mQ 6 abd
def Om:SF:=
 (ak (bf (cV (aH Np (1) #[4])) (aM (aO Ot #[(2:),(0:)])) aD)
 (aM (aO v8 #[(0:),(1:)])))
def yI:=mQ 3 Om
def aap:SF:=
 (ak (bf (fV (2)) (aM (aH eU #[1] (aH lu (0) (aH qU #[1] (1))))) aD)
 (aM (aH lu (0) (aH eU (1) #[2]))))
def kE:=mQ 3 aap
def kY:SF:=
 (ak (aU (ao 6) (gOf (aH uH (3)[6]! #[9])))
 (ak (aU (ao 7) (gOf (aO yI #[R5 (3) (sE #[8]) (sE #[14]),(3)[7]!,(5:)])))
 (ak (bf #[(0)=#["owner"]] (aM (aW #[#["owner"],])) aD)
 (ak (bf #[(0)=#["ground"]] (aM (aW #[#["ground"],aH eU (aW #[#[0],#[1],#[2],#[3],#[0],#[1],#[5],#[6],#[7],#[8]])[(3)[7]!]! (aH yr #[4] (eZ intD (Vo (6))))])) aD)
 (ak (bf (gA #[(0)=#["bring"]] (cV (aH Np (3)[7]! #[6]))) (aU (ao 7) (gOf (aW #[#[0],#[0],#[0],#[0],#[0],#[0]]))) aD)
 (ak (bf (Dr #[(0)=#["enrol"]] #[(0)=#["bring"]]) (aM (aW #[(0:),aO kE #[(1:),(4)[0]!,(6:)],aO kE #[(2:),(4)[1]!,(6:)],(7:)])) aD)
 (ak (bf #[(0)=#["leave"]] (aM (aW #[(0:),aO kE #[(1:),(4)[0]!,(6:)],aO kE #[(2:),(4)[1]!,(6:)]])) aD)
 (ak (bf #[(0)=#["heir"]] (aM (aW #[(0:),aO kE #[(1:),(4)[0]!,(6:)],aO kE #[(2:),(4)[1]!,(6:)],aH lu (3)[7]! #[4]])) aD)
 (ak (bf #[(0)=#["pass"]] (aM (aW #[(0:),aO kE #[(1:),(4)[0]!,(6:)],aO kE #[(2:),(4)[0]!,(6:)]])) aD)
 (ak (bf #[(0)=#["unite"]] (aM (aW #[(0:),aO kE #[(1:),(4)[1]!,(6:)],aO kE #[(2:),(4)[1]!,(6:)]])) aD)
 (ak (bf #[(0)=#["part"]] (aM (aW #[(0:),aO kE #[(1:),(4)[1]!,(6:)]])) aD)
 (ak (bf #[(0)=#["tear"]] (aM (aW #[(0:),aO kE #[(1:),(4)[2]!,(6:)],aH lu (3)[7]! #[6]])) aD)
 (ak (bf #[(0)=#["sell"]] (aM (aW #[(0:),aO kE #[(1:),(4)[2]!,(6:)],aO kE #[(2:),(4)[0]!,(6:)]])) aD)
 (ak (bf #[(0)=#["move"]] (aM (aW #[(0:),aO kE #[(1:),(4)[2]!,(6:)],aO kE #[(2:),(4)[1]!,(6:)]])) aD)
 (aM (aW #[(0:),aO kE #[(1:),(4)[2]!,(6:)]]))))))))))))))))
def gj:=mQ 8 kY
def MP:SF:=
 (ak (aU (ao 3) (BP nH #[(0:),aW #[#["bring"],#[1],#[1],aW #[#[0],#[0],#[0],#[0],#[0],#[0]]],(3:)]))
 (aU (ao 3) (BP nH #[(0:),aW #[#["cut"],(3)[2]!],(3:)])))
def GJ:SF:=
 (ak (aU (ao 8) (gOf (aO ug #[(7:),#[14],#[10]])))
 (ak (aU (ao 9) (gOf (aO vD #[aH eU (aH yr (8)[0]! #[10]) (8)[1]!,])))
 (ak (aU (ao 10) (gOf (aH eU (aH yr (8)[2]! #[10]) (8)[3]!)))
 (ak (aU (ao 11) (gOf (aH eU (aH yr (8)[4]! #[10]) (8)[5]!)))
 (ak (bf (cV (aH Np (6) (eZ qO (5)))) (aU (aV [9,10,11]) (gOf (5)[(6)]!)) aD)
 (aU (ao 3) (BP nH #[(0:),aO gj #[(9:),(10:),(11:),(8:),(3:),(4:)],(3:)])))))))
def Wj:SF:=
 (ak (aU (ao 3) (gOf (aW #[#[0],#[0],#[0]])))
 (ak (aU (ao 4) (gOf (aO LR #[aH DQ (2) #[512],])))
 (ak (aU (ao 5) (gOf (aO xP #[(2:),])))
 (ak (nQ (xY 0 (1:)) (aV [6,7]) GJ)
 (ak (bf #[(aH lu (aH DQ (2) #[8]) #[8])=#[1]] (nQ (Bj (aH yr (aH lu (aH DQ (2) #[64]) #[8]) #[4])) (ao 12) MP) aD)
 (aM (3:)))))))
def JL:=mG 13 Wj
def Gx:SF:=
 (aM (aH eU (aJ oK (0) dI) (aW #[eG "mother" (0),eZ m7 (bh "story" (0))])))
def zj:=mQ 1 Gx
def yE:SF:=
 (aM (Gk "holders" (0)))
def tY:=mQ 1 yE
def wW:SF:=
 (aM (Gk "held" (0)))
def qW:=mQ 1 wW
def vR:TabMV:=[("Rights",.q 1 qW)]
def wZ:TabMV:=[("Commons",.q 1 tY)]
def xZ:TabMV:=[("Beast",.q 1 zj)]
def Bm:SF:=
 (ak (aU (ao 1) (gOf (dO (EY #[1] (aH eU (aJ fP (bh "grounds" (0)) dI) #[1])) (ao 3) [3] gU (aW #[aJ dZ (bh "grounds" (0)) #[(3:),],eZ m7 (aJ bR (0) #[(3:),])]))))
 (ak (aU (ao 2) (gOf (dO (bV (bh "beasts" (bh "herd" (0)))) (ao 4) [4] gU (aJ xZ (4) dI))))
 (aM (aW #[aJ wZ (0) dI,(1:),aJ vR (bh "rights" (0)) dI,(2:)]))))
def rE:=mQ 5 Bm
def aaq:SF:=
 (ak (bf (cV (aH Np (0) #[0])) (aM (aH kh #[0] (aH lu (aH kh #[0] (0)) (aH Tv #[10] #[30])))) aD)
 (aM (aH lu (0) (aH Tv #[10] #[30]))))
def QV:=mQ 1 aaq
def aao:SF:=
 (ak (bf #[(aH lu (1) #[13])=(2)] (aM (aO QV #[aH DQ (1) #[13],])) aD)
 (aM (0:)))
def Rk:=mQ 3 aao
def wA:SF:=
 (ak (bf (ji (o7 uN uN #[1] (1) (eZ qO (0)[3]!))) (aM #["NoBeast"]) aD)
 (ak (bf (ji (fV (0)[3]![aH kh (1) #[1]]![4]!)) (aM #["Dead"]) aD)
 (ak (bf (gA (fV (2)) (cV (sO false .none (0)[3]![aH kh (1) #[1]]![2]!))) (aM #["Unmarked"]) aD)
 (aM #[""]))))
def qL:=mQ 3 wA
def W0:SF:=
 (aM (eZ Yb (dO (Jq (0) (1)) (aV [2,3]) [2,3] gU (aH qU #[0] (aH kh (3) (2))))))
def yN:=mQ 4 W0
def oX:SF:=
 (bf (Dr #[(1)=(za dI)] (cV (aH uH (1)[eZ T6 #[1]]! (2)))) (Gn 1 (2:)) aD)
def Vb:SF:=
 (ak (yx 1 (Ie dI))
 (ak (nQ (bV (eZ vA (0))) (ao 2) oX)
 (aM (1:))))
def yP:=mQ 3 Vb
def oE:SF:=
 (bf (gA (fV (5)[4]!) (gA (cV (sO true .none (5)[2]!)) (gA (cV (aH (inD false) (5)[1]! (1))) (cV (aH uH (aH eU (4) #[1]) (2)))))) (Gn 3 (aW #[(5)[0]!,(5)[2]!])) aD)
def Qg:SF:=
 (ak (yx 3 (Cu (bV (0)[2]!) (aV [6,7,8]) [6,7,8] (cV (aH (inD false) (7) (1))) (aW #[(6:),(8:)])))
 (ak (nQ (xY 0 (0)[3]!) (aV [4,5]) oE)
 (aM (aO yP #[(3:),]))))
def Ck:=mQ 9 Qg
def Oh:SF:=
 (aM (eZ maxD (dO (bV (0)[1]![aH kh (1) #[1]]![1]!) (ao 2) [2] gU (0)[1]![aH kh (2) #[1]]![0]!)))
def Cz:=mQ 3 Oh
def afm:SF:=
 (aM (eZ m7 (dO (Jq (0) (1)) (aV [2,3]) [2,3] gU (aH qU (2) (3)))))
def VR:=mQ 4 afm
def vH:SF:=
 (bf (gA (cV (aH uH (3) (1)[0]!)) (cV (aH uN (aO yN #[(4:),(1)[3]!]) (aO Cz #[(0:),(1)[1]!])))) (ak (aU (ao 5) (gOf (aW #[aO yN #[(1)[3]!,(4:)],(3:),aO VR #[(1)[3]!,(4:)]])))
 (bf (Dr (cV (sO false .none (2))) (cV (aH Np (5) (2)))) (aU (ao 2) (gOf (5:))) aD)) aD)
def W4:SF:=
 (ak (aU (ao 2) (gOf (qC .none)))
 (ak (nQ (bV (aO Ck #[(0:),(0)[1]![aH kh (1)[1]! #[1]]![1]!,#[0]])) (aV [3,4]) vH)
 (aM (2:))))
def JH:=mQ 6 W4
def JD:SF:=
 (bf (gA #[(7)[5]! = (1)] (gA (fV (7)[4]!) (cV (sO false .none (7)[2]!)))) (Gn 5 (aH eU (6) #[1])) aD)
def Rj:SF:=
 (ak (aU (ao 2) (gOf (aO qL #[(0:),(1:),qC (.bool true)])))
 (ak (yx 3 (Ie #[aW #[(2:),qC .none],aW #[(2:),qC .none],aW #[#["NoBeast"],qC .none],aW #[#["NoBeast"],qC .none]]))
 (ak (bf #[(2)=#["NoBeast"]] (aM (3:)) aD)
 (ak (aU (ao 4) (gOf (0)[3]![aH kh (1) #[1]]!))
 (ak (bf #[(2)=#[""]] (yx 3 (Ie #[aW #[#[""],aO yN #[(4)[2]!,(4)[3]!]],aW #[#[""],aO JH #[(0:),(4:)]],aW #[#[""],qC .none],aW #[#[""],qC .none]])) aD)
 (ak (yx 5 (Ie dI))
 (ak (nQ (xY 0 (0)[3]!) (aV [6,7]) JD)
 (abg 5 (ak (Ro 3 #[2] (aW #[#[""],(5:)]))
 (ak (Ro 3 #[3] (aW #[#[""],eZ Ig (4)[6]!]))
 (aM (3:))))))))))))
def Il:=mQ 8 Rj
def XR:SF:=
 (aM (zm (zJ .int (0)) (Vo (zJ .bool (0)))))
def Ka:=mQ 1 XR
def TX(r:Mo->List Dat->Out Dat):SF:=
 (bf (ji (fV (aO r #[(2:),(3:)]))) (aM (qC (.bool false))) aD)
def JK(r:Mo->List Dat->Out Dat):SF:=
 (ak (bf (cV (sO false .none (1))) (aM (sO false .none (0))) aD)
 (ak (bf (cV (sO false (.bool true) (1))) (aM (sO false (.bool true) (0))) aD)
 (ak (bf (cV (sO false (.bool false) (1))) (aM (sO false (.bool false) (0))) aD)
 (ak (bf (fV (zJ .int (1))) (aM (zm (aO Ka #[(0:),]) (aH DY (0) (1)))) aD)
 (ak (bf (fV (zJ .str (1))) (aM (zm (zJ .str (0)) (aH DY (0) (1)))) aD)
 (ak (bf (gA (fV (zJ .tuple (1))) (ji (fV (zJ .tuple (0))))) (aM (qC (.bool false))) aD)
 (ak (bf (gA (fV (zJ .list (1))) (ji (fV (zJ .list (0))))) (aM (qC (.bool false))) aD)
 (ak (bf (cV (aH uH (eZ qO (0)) (eZ qO (1)))) (aM (qC (.bool false))) aD)
 (ak (nQ (Jq (0:) (1:)) (aV [2,3]) (TX r))
 (aM (qC (.bool true))))))))))))
def nu:Nat->Mo->List Dat->Out Dat
 |0=>λ_ _=>.bad
 |n+1=>mQ 4 (JK (nu n))
def Gi:SF:=
 (Mx 1 (Uh (bV (aJ bO (0) dI)) (aV [2,3]) (Oa (Tt (aW #[eG "owner" (3),eG "ground" (3)]) (ao 4)) (Oa (S9 (4:) (aW #[#[0],#[0]]) (aV [5,6])) (TV (4:) (Qa (cV (sO false .none (bh "due" (3)))) (aW #[(5:),aH eU (6) #[1]]) (aW #[aH eU (5) #[1],(6:)])))))) (O7 Gm (ao 4) [4] (IV (Kh (4:)) (QH (Kh (4:))))))
def wj:=mQ 7 Gi
def Dg:TabMV:=[("Herd",.q 1 wj)]
def Ab:SF:=
 (aM (aJ Dg (bh "herd" (0)) dI))
def zu:=mQ 1 Ab
def Xj:SF:=
 (ak (aU (ao 4) (gOf (aO ug #[(1:),#[14],#[10]])))
 (aM (aO gj #[(0:),aH eU (aH yr (4)[2]! #[10]) (4)[3]!,aH eU (aH yr (4)[4]! #[10]) (4)[5]!,(4:),(2:),aO LR #[aH DQ (3) #[512],]])))
def iQ:=mQ 5 Xj
def Ht:SF:=
 (ak (aU (ao 4) (gOf (dO (bV (0)) (ao 5) [5] (gA (fV (5)[4]!) (gA #[(5)[0]! = (2)] #[(5)[1]! = (3)])) (sO false .none (5)[2]!))))
 (Gn 1 (aW #[(2:),(3:),Vk Fx (4) (qC (.bool false)),Vk Fx (4) (qC (.bool true))])))
def Xa:SF:=
 (ak (yx 1 (Ie dI))
 (ak (nQ (bV (aO yP #[dO (bV (0)) (ao 5) [5] (fV (5)[4]!) (aW #[(5)[0]!,(5)[1]!]),])) (aV [2,3]) Ht)
 (aM (1:))))
def JW:=mQ 6 Xa
def oM:SF:=
 (ak (aU (ao 2) (gOf (aJ aN (bh "herd" (0)) #[(1:),])))
 (aM (aO jX #[eG "due" (2),eG "ear" (2)])))
def gK:=mQ 3 oM
def Pk:SF:=
 (ak (aU (ao 4) (gOf (dO (bV (2)) (aV [5,6]) [5,6] (gA (cV (aH uH (5) (0))) (cV (aH uN (aO jX #[(6:),(1:)]) (3)))) (aW #[aO jX #[(1:),(6:)],(5:),aO mU #[(1:),(6:)]]))))
 (aM (aH Wr (4) (qC .none))))
def CJ:=mQ 7 Pk
def lZ:SF:=
 (ak (aU (ao 2) (gOf (aJ aN (bh "herd" (0)) #[(1:),])))
 (aM (aO CJ #[eG "owner" (2),eG "ear" (2),aJ bK (0) #[eG "ground" (2),],aJ bL (0) #[eG "ground" (2),]])))
def fQ:=mQ 3 lZ
def sW:SF:=
 (aM (dO (bV (aJ kZ (bh "herd" (0)) #[(1:),])) (aV [2,3]) [2,3] gU (2:)))
def lA:=mQ 4 sW
def qT:SF:=
 (aM (eZ Ig (bh "story" (aJ cY (bh "herd" (0)) #[(1:),]))))
def jZ:=mQ 2 qT
def mV:TabMV:=[("Commons",.q 2 gK)]
def lE:TabMV:=[("Commons",.q 2 fQ)]
def gH:TabMV:=[("Herd",.q 2 pQ),("Commons",.q 2 lA)]
def jB:TabMV:=[("Commons",.q 2 jZ)]
def KN:SF:=
 (ak (aU (ao 3) (gOf #[""]))
 (ak (aU (ao 4) (gOf (qC .none)))
 (ak (Tf (bf #[(2)=#[0]] (aU (ao 4) (gOf (aJ mV (0) #[(1:),]))) (bf #[(2)=#[1]] (aU (ao 4) (gOf (aJ lE (0) #[(1:),]))) (bf #[(2)=#[2]] (aU (ao 4) (gOf (aJ gH (0) #[(1:),]))) (aU (ao 4) (gOf (aJ jB (0) #[(1:),])))))) [⟨"NoBeast",λx=>zR.lookup x,none,[(3,(.con (.str "NoBeast")))]⟩,⟨"Dead",λx=>Jz.lookup x,none,[(3,(.con (.str "Dead")))]⟩,⟨"Unmarked",λx=>xq.lookup x,none,[(3,(.con (.str "Unmarked")))]⟩])
 (aM (aW #[(3:),(4:)])))))
def Cg:=mQ 5 KN
def vq:TabMV:=[("Commons",.q 1 rE)]
def rO:TabMV:=[("Herd",.q 1 wj),("Commons",.q 1 zu)]
def O4:SF:=
 (bf (ji (fV (aO (nu 10) #[aO Cg #[(0:),(4:),(7:)],(6)[(7)]!]))) (aM (qC (.bool false))) aD)
def Yp:SF:=
 (ak (aU (ao 4) (gOf (aO Rk #[(aO iQ #[#["cut"],(1:),(2:),(3:)])[1]!,(1:),#[3]])))
 (ak (aU (ao 5) (gOf (aJ vq (0) dI)))
 (ak (aU (ao 6) (gOf (aO Il #[(5:),(4:)])))
 (ak (nQ (Bj #[4]) (ao 7) O4)
 (aM (zm (aO (nu 10) #[aJ rO (0) dI,aO JW #[(5)[3]!,]]) (aO (nu 10) #[aJ vq (0) dI,(5:)])))))))
def Ao:=mQ 8 Yp
def QD:SF:=
 (bf (ji (fV (aO Ao #[(0:),(4:),(2:),(3:)]))) (aM (qC (.bool false))) aD)
def Xu:SF:=
 (ak (nQ (bV (za #[(1:),aH eU (aH DQ (1) #[7]) #[1],(1:)])) (ao 4) QD)
 (aM (qC (.bool true))))
def Fb:=mQ 5 Xu
def pG:TabMV:=[("Grounds",.g 2 iT),("Commons",.g 2 iI)]
def oY:TabMV:=[("Grounds",.g 3 jL),("Commons",.g 3 eV)]
def jw:SF:=
 (ak (aU (ao 2) (gOf (1)[0]!))
 (ak (bf #[(2)=#["owner"]] (cR (bJ dw (0) dI)) aD)
 (ak (bf #[(2)=#["ground"]] (cR (bJ gY (0) #[(1)[1]!,])) aD)
 (ak (bf #[(2)=#["enrol"]] (cR (bJ lB (0) #[(1)[1]!,(1)[2]!,(1)[3]!])) aD)
 (ak (bf #[(2)=#["leave"]] (cR (bJ lF (0) #[(1)[1]!,(1)[2]!])) aD)
 (ak (bf #[(2)=#["bring"]] (cR (bJ lH (0) #[(1)[1]!,(1)[2]!,(1)[3]!])) aD)
 (ak (bf #[(2)=#["bear"]] (cR (bJ mH (0) #[(1)[1]!,])) aD)
 (ak (bf #[(2)=#["cut"]] (cR (bJ oN (0) #[(1)[1]!,])) aD)
 (ak (bf #[(2)=#["tear"]] (cR (bJ mJ (0) #[(1)[1]!,(1)[2]!])) aD)
 (ak (bf #[(2)=#["sell"]] (cR (bJ mO (0) #[(1)[1]!,(1)[2]!])) aD)
 (ak (bf #[(2)=#["move"]] (cR (bJ mj (0) #[(1)[1]!,(1)[2]!])) aD)
 (ak (bf #[(2)=#["die"]] (cR (bJ oG (0) #[(1)[1]!,])) aD)
 (ak (bf #[(2)=#["unite"]] (cR (bJ oY (0) #[(1)[1]!,(1)[2]!])) aD)
 (ak (bf #[(2)=#["part"]] (cR (bJ pG (0) #[(1)[1]!,])) aD)
 (ak (bf #[(2)=#["pass"]] (cR (bJ jA (0) #[(1)[1]!,(1)[2]!])) aD)
 (cR (bJ iZ (0) #[(1)[1]!,(1)[2]!,(1)[3]!])))))))))))))))))
def iJ:=mG 3 jw
def vN:SF:=
 (ak (bf #[(aH lu (3) #[2])=#[0]] (cR (BP nH #[(0:),(1:),(2:)])) aD)
 (ak (aU (ao 4) (gOf (qC .none)))
 (ak (Tf (aU (ao 4) (BP iJ #[(0:),(1:)])) [⟨"CommonError",λx=>oF.lookup x,none,[(4,(.con .none))]⟩])
 (ak (bf (cV (sO false .none (4))) (aM (2:)) aD)
 (ak (aU (aV [5,6,7]) (gOf (2:)))
 (ak (bf (Dr #[(1)[0]! = #["owner"]] #[(1)[0]! = #["heir"]]) (Jg 5 #[1]) aD)
 (ak (bf #[(1)[0]! = #["ground"]] (Jg 6 #[1]) aD)
 (ak (bf (Dr #[(1)[0]! = #["bring"]] #[(1)[0]! = #["bear"]]) (Jg 7 #[1]) aD)
 (aM (aW #[(5:),(6:),(7:)]))))))))))
def pY:=mG 8 vN
def KJ:SF:=
 (ak (aU (ao 7) (gOf (aO ug #[(6:),#[14],#[10]])))
 (ak (aU (ao 8) (gOf (aO vD #[aH eU (aH yr (7)[0]! #[10]) (7)[1]!,])))
 (ak (bf #[(aH lu (7)[12]! #[3])=#[1]] (aU (ao 8) (gOf (za #[#["part"],#["unite"],#["leave"],#["pass"],#["heir"]])[aH lu (7)[11]! #[5]]!)) aD)
 (ak (aU (ao 5) (BP pY #[(1:),aO iQ #[(8:),(6:),(5:),(2:)],(5:),(7)[13]!]))
 (bf (ji (fV (aO Fb #[(1:),(3:),(4:),(2:)]))) (aM (qC (.bool false))) aD)))))
def aeV:SF:=
 (ak (aU (ao 1) (Ds "Commons" rJ dI))
 (ak (aU (ao 2) (gOf (eZ Yc (aO Cr #[(0:),#[0]]))))
 (ak (aU (ao 3) (gOf (aO Cr #[(0:),#[1]])))
 (ak (aU (ao 4) (BP JL #[(1:),R5 (0) (sE #[6]) (sE #[44]),(2:)]))
 (ak (bf (ji (fV (aO Fb #[(1:),(3:),(4:),(2:)]))) (aM (qC (.bool false))) aD)
 (ak (aU (ao 5) (gOf (4:)))
 (ak (nQ (bV (R5 (0) (sE #[2]) (sE #[6]))) (ao 6) KJ)
 (aM (qC (.bool true))))))))))
def U5:=mG 9 aeV
def aah:FnScope ["self","ones","others","ear"] ["self","ones","others","ear"] (defScope Oi):=⟨rfl,rfl,rfl,#[[]],rfl,#[[]],#[[]]⟩
abbrev rX(N:List Str)(s:Stmt)(G:List (Str×GV))(B:List Str)(Ms:List (Str×TabMV))(ml:List Str):Option SF:=rd ⟨N,defScope s,G,B,⟨Ms,lJ,xmH,dfH,Zm⟩,ml,true⟩ (defBody s)
abbrev rY(N:List Str)(s:Stmt)(G:List (Str×GV))(B:List Str)(Ms:List (Str×TabMV))(ml:List Str):Option SF:=rdG ⟨N,defScope s,G,B,⟨Ms,lJ,xmH,dfH,Zm⟩,ml,true⟩ (defBody s)
def alM:FnScope ["_law_found","_law_due_here","_law_one","_law_other"] ["_law_found","_law_due_here"] (defScope V6):=⟨rfl,rfl,rfl,#[[]],rfl,#[[]],#[[]]⟩
def ama:FnScope ["_law_script","_law_house","_law_head","_law_cell_here","_law_first","_law_counts","_law_more","_law_parts","_law_word"] ["_law_script"] (defScope Rx):=⟨rfl,rfl,rfl,#[[]],rfl,#[[]],#[[]]⟩
def Wz:rY ["self"] JR [] [] [] []=some Bt:=#[_]
def Z6:rY ["self"] M7 [] [] [] []=some Du:=#[_]
def acC:rY ["self"] RW [] [] [] []=some Jv:=#[_]
def XH:rY ["self"] J8 [("Herd",.cls 0 BK),("Rights",.cls 0 yg),("Grounds",.cls 0 wz)] [] [] []=some Bg:=#[_]
def amG:rX ["_law_script","_law_k"] agD [] ["len"] [] []=some acg:=#[_]
def apM:rX ["_law_cell_here","_law_many","_law_base","_law_found","_law_k","_law_turn"] s_row [] ["range","abs"] [] ["_law_found"]=some aeM:=#[_]
def aiA:rX ["_law_figures","_law_mode","_law_figure"] abn [] ["tuple","max"] [] []=some SN:=#[_]
def apn:rX ["_law_cell_here","_law_figures"] ajH [("_law_ear_by",.fq 2 v8),("_law_row",.fq 3 ug)] [] [] []=some afu:=#[_]
def acM:rX ["_law_head","_law_rows"] Sh [] [] [] []=some Jj:=#[_]
def ahG:rX ["_law_figure","_law_some"] Za [] [] [] []=some Qe:=#[_]
def Mz:rX ["self","owner"] zP [("NoOwner",.exc)] [] [] []=some nY:=#[_]
def Ww:rX ["self"] JV [] ["len"] [] []=some wN:=#[_]
def aai:rX ["self","ground"] Nr [] [] [("many",fP)] []=some Dy:=#[_]
def Yq:rX ["self","ground"] J9 [("NoGround",.exc)] [] [("has",Bo)] []=some Bp:=#[_]
def WT:rX ["self","owner","ground","holder","where","mark"] JB [] [] [] []=some Bu:=#[_]
def Qi:rX ["self","owner","ground"] Cp [] ["len"] [("marks",cG)] []=some vW:=#[_]
def Mr:rX ["self","owner","ground"] zM [("NoRight",.exc)] [] [("has_right",uX)] []=some uo:=#[_]
def NK:rY ["self"] Ad [] [] [] []=some u5:=#[_]
def Qy:rY ["self","owner","ground","mark","row"] CQ [("HasRight",.exc)] [] [] []=some qp:=#[_]
def aog:rX ["ear","many","heads","depth","head","left","cut"] aga [("GREATEST_DEPTH",.con cP)] ["range","min"] [] []=some aaD:=#[_]
def alB:rX ["one","other","here","there"] adL [] ["sum","zip"] [] []=some Xg:=#[_]
def acF:rX ["mark","extra","ear"] R9 [("lacks",.fq 2 jX),("torn",.fq 2 N8)] [] [] []=some Jt:=#[_]
def ak3:rX ["one","other"] aeb [("lacks",.fq 2 jX)] ["max"] [] []=some WQ:=#[_]
def amN:rX ["one","other","room"] ahl [("apart",.fq 2 JC)] [] [] []=some abu:=#[_]
def acr:rX ["mark","extra","rows","room","ear","owner","taken"] Qc [("NoneFree",.exc),("offspring",.fq 2 xJ),("meet",.fq 3 uD)] ["any"] [] []=some zY:=#[_]
def LQ:rX ["self","owner","ground"] zf [] [] [("marks",cG)] []=some tZ:=#[_]
def O8:rX ["self","ground"] Cj [] ["list"] [("need",au)] []=some qj:=#[_]
def Qx:rX ["self","ground"] CN [] [] [("together",bx)] []=some qD:=#[_]
def ahT:rX ["rows"] abN [] ["sorted","set"] [] []=some Sv:=#[_]
def RD:rX ["self","number","beast"] DR [] ["enumerate"] [] []=some wX:=#[_]
def Xh:rX ["self","grounds","number","beast"] K7 [] [] [("all_living",bO)] []=some Bq:=#[_]
def NQ:rX ["self","grounds","owner","ground","mark"] Ak [] [] [] []=some uY:=#[_]
def Ji:rX ["self","left_out","ground","near","due","number","beast"] xQ [("tidied",.fq 1 sV)] [] [("in_grounds",tO),("grazing",jR),("together",bR)] []=some lK:=#[_]
def Ol:rX ["self","ground"] Dd [] [] [("standing_but",cZ)] []=some qw:=#[_]
def Ny:rX ["self","ground"] Ah [] [] [("need",au)] []=some pC:=#[_]
def Xf:rX ["self","ground","near"] JT [] ["max"] [("together",bx),("allowance",dZ)] []=some wJ:=#[_]
def W9:rX ["self","ground"] Ky [] [] [("room",vB)] []=some wM:=#[_]
def O5:rY ["self","elder","ground","extra","mark","heir"] CZ [("first_free",.fq 4 rZ),("BadExtra",.exc),("FEWEST_EXTRA",.con jy),("MOST_EXTRA",.con lV)] [] [("add_right",iY),("new_owner",dw),("room",bL),("standing",bK),("first_mark",bW),("need_right",aP),("need",au),("need_owner",aq)] []=some eO:=#[_]
def Ly:rY ["self","allowance"] zK [("BadAllowance",.exc),("GREATEST_ALLOWANCE",.con iK)] [] [("many",fP)] []=some jQ:=#[_]
def Mv:rY ["self","allowance"] zU [] [] [("add_ground",mD)] []=some ou:=#[_]
def afS:rX ["owner","ear","rows","room","holder","mark"] Zj [("meet",.fq 3 uD),("tidied",.fq 1 sV)] [] [] []=some PN:=#[_]
def akx:rX ["one","other","here","there"] ac0 [] ["tuple","zip","max"] [] []=some Xc:=#[_]
def afl:rX ["owner","ear","rows","room","bars","holder","mark"] Vx [("Clash",.exi ["ones","others","ear"]),("joint",.fq 2 mU),("barring",.fq 4 Dc)] [] [] []=some Ei:=#[_]
def Lq:rX ["self","owner","ear","ground"] yU [("ask_room",.fq 4 pW)] [] [("room",bL),("standing",bK)] []=some nO:=#[_]
def aiL:rX ["parts","depth"] abv [("GREATEST_DEPTH",.con cP),("PLACES",.con jo)] ["all","len"] [] []=some MJ:=#[_]
def ae7:rX ["parts"] UG [("BadEar",.exc),("is_ear",.fq 1 vL)] [] [] []=some Lf:=#[_]
def UL:rY ["self","owner","ground","mark"] Iw [("HasRight",.exc),("Bare",.exc),("BARE_EAR",.con jT),("need_ear",.fq 1 tK)] [] [("add_right",iY),("ask_ground",bY),("marks",cG),("need",au),("need_owner",aq)] []=some gR:=#[_]
def aak:rY ["self","owner","ground","gone","mark"] Nb [("NoRight",.exc)] [] [("marks",cG)] []=some yh:=#[_]
def V5:rY ["self","owner","ground","number","beast"] Im [("StillThere",.exc)] ["any"] [("drop",Am),("grazing",jR),("need_right",aP),("need",au),("need_owner",aq)] []=some jV:=#[_]
def Tw:rY ["self","stand","owner","ground","due","ear","alive"] FJ [] [] [] []=some tR:=#[_]
def akQ:rX ["first","word","mother","owner","ground","ear"] adP [("BARE_EAR",.con jT)] [] [] []=some Rv:=#[_]
def abI:rY ["self","first"] Ox [("begun",.fq 1 Ey)] [] [("stand_so",jY)] []=some Fq:=#[_]
def Ub:rY ["self","first"] GP [("Beast",.cls 1 vO)] ["len"] [] []=some yu:=#[_]
def Vu:rY ["self","owner","ground","ear"] Iz [("need_ear",.fq 1 tK)] [] [("add_beast",j6),("need_right",aP),("need",au),("need_owner",aq)] []=some jW:=#[_]
def ab1:rX ["self","number"] Oz [("NoBeast",.exc)] ["len"] [] []=some vX:=#[_]
def aae:rX ["self","number","beast"] M6 [("Dead",.exc)] [] [("known",cY)] []=some xV:=#[_]
def aam:rX ["self","number","beast"] Nk [("Unmarked",.exc)] [] [("living",bD)] []=some uG:=#[_]
def Xl:rY ["self","mother","cow"] Kw [] [] [("add_beast",j6),("marked",aN)] []=some oJ:=#[_]
def afg:rX ["ear","place","at","depth"] Vh [] ["tuple","enumerate"] [] []=some Lk:=#[_]
def ag0:rX ["stand","event","owner","ground","due","ear","alive","word"] Yx [("deepened",.fq 2 zW)] [] [] []=some Qo:=#[_]
def aad:rX ["self"] M8 [] [] [] []=some Dt:=#[_]
def WM:rY ["self","event"] JX [("gone_on",.fq 2 CW)] [] [("stand_so",jY),("stand",oK)] []=some Bx:=#[_]
def aag:rY ["self","beast","found","due"] Nu [("joint",.fq 2 mU)] [] [("befall",bF),("ask_ground",bY),("first_mark",bW),("living",bD)] []=some pP:=#[_]
def W6:rY ["self","beast","place","found"] Ku [("Deepest",.exc),("GREATEST_DEPTH",.con cP),("NoPlace",.exc),("PLACES",.con jo)] ["len"] [("befall",bF),("living",bD)] []=some jF:=#[_]
def Z5:rX ["self","mother","number","beast"] Nv [] [] [("all_living",bO),("known",cY)] []=some yd:=#[_]
def Ph:rY ["self","mother","beast","number","calf"] Df [] [] [("calves",kZ),("befall",bF),("known",cY)] []=some vZ:=#[_]
def Xd:rY ["self","beast","buyer","found","due"] JG [("ask_room",.fq 4 pW),("joint",.fq 2 mU),("SameOwner",.exc)] [] [("lead_calves",jc),("befall",bF),("room",bL),("standing_but",cZ),("first_mark",bW),("need_right",aP),("need_owner",aq),("marked",aN)] []=some gG:=#[_]
def X4:rY ["self","beast","ground","found","left"] KZ [("SameGround",.exc)] [] [("lead_calves",jc),("befall",bF),("ask_ground",bY),("need_right",aP),("need",au),("marked",aN)] []=some gD:=#[_]
def Z8:rY ["self","beast"] M5 [] [] [("befall",bF),("living",bD)] []=some uI:=#[_]
def aeO:rX ["rows","room","tidy","at","row","greater"] V8 [("meet",.fq 3 uD),("tidied",.fq 1 sV)] ["enumerate"] [] []=some Lr:=#[_]
def Py:rX ["self","ground","other","room"] Cv [("clashing",.fq 2 wI)] ["max"] [("standing",bK),("room",bL)] []=some v7:=#[_]
def RG:rY ["self","grounds","circle","ground"] Ed [] ["tuple"] [] []=some wY:=#[_]
def V9:rY ["self","ground","other","ones","others"] Io [("Together",.exc)] ["sorted"] [("enclose",iw),("together",bx)] []=some vC:=#[_]
def Vr:rY ["self","ground","other","pairs","row","greater"] Jb [("Clash",.exi ["ones","others","ear"]),("joint",.fq 2 mU),("Together",.exc)] [] [("unite",yq),("quarrels",pB),("together",bR),("need",au)] []=some jN:=#[_]
def Yn:rY ["self","ground","left","near"] Km [("Alone",.exc)] [] [("enclose",iw),("together",bx)] []=some rG:=#[_]
def Yl:rY ["self","ground"] KR [] [] [("part",ql)] []=some rB:=#[_]
def Qz:rY ["self","elder","heir","owner","ground","mark"] Cq [] [] [] []=some vJ:=#[_]
def acw:rX ["self","owner","number","beast"] Og [] [] [("all_living",bO)] []=some Fg:=#[_]
def RK:rY ["self","elder","heir","passed","number","beast"] Ec [("SameOwner",.exc)] [] [("befall",bF),("owned",Dm),("hand_over",u9),("need_owner",aq)] []=some j5:=#[_]
def acL:rX ["kind","part","greatest"] R4 [("PLACES",.con jo),("GREATEST_PART",.con qG),("is_ear",.fq 1 vL)] ["isinstance","int","len","tuple"] [] []=some w6:=#[_]
def ams:rX ["deed","shape","parts","kind","part"] afX [("part_fits",.fq 2 jh),("SHAPES",.dic (BW Az))] ["all","zip","len"] [] []=some abX:=#[_]
def aaY:rY ["self","deed","word","parts"] Oo [("BadDeed",.exc),("fits",.fq 1 Kg)] [] [("new_heir",iZ),("pass_on",jA),("part",zB),("unite",yt),("die",oG),("move",mj),("sell",mO),("tear",mJ),("cut",oN),("bear",mH),("bring",lH),("leave",lF),("enrol",lB),("new_ground",gY),("new_owner",dw)] []=some cM:=#[_]
def al4:rY ["_law_house","_law_deed_here","_law_counts","_law_told_here","_law_owners","_law_grounds","_law_beasts"] agP [("CommonError",.exc)] [] [("do",pU)] []=some Ks:=#[_]
def anR:rX ["_law_ear_here","_law_figures","_law_found","_law_depth","_law_figure","_law_more"] ahC [] ["tuple","zip","max","min"] [] ["_law_found"]=some abd:=#[_]
def afA:rX ["_law_figures","_law_mode","_law_base"] YH [("_law_ear_by",.fq 2 v8),("_law_near",.fq 2 Ot)] [] [] []=some Om:=#[_]
def ap9:rX ["_law_figure","_law_many","_law_sure"] ajQ [] ["max"] [] []=some aap:=#[_]
def aoY:rX ["_law_word","_law_one","_law_two","_law_parts","_law_counts","_law_base","_law_sure","_law_mark"] ahI [("_law_ref",.fq 3 kE),("_law_mark_by",.fq 3 yI)] ["int"] [] []=some kY:=#[_]
def amC:rY ["_law_house","_law_cells","_law_head","_law_counts","_law_base","_law_begun_here","_law_at","_law_cell_here","_law_parts","_law_word","_law_one","_law_two","_law_k"] ahc [("_law_done",.fg 3 nH),("_law_deed",.fq 6 gj),("_law_word_by",.fq 1 vD),("_law_row",.fq 3 ug),("_law_begun",.fq 1 xP),("_law_ear",.fq 1 LR)] ["range","enumerate","len"] [] []=some Wj:=#[_]
def abe:rX ["self"] Qw [] ["tuple"] [("stand",oK)] []=some Gx:=#[_]
def S8:rX ["self"] Gf [] ["list"] [] []=some yE:=#[_]
def RB:rX ["self"] Ef [] ["list"] [] []=some wW:=#[_]
def WW:rX ["self","grounds","beasts","ground","beast"] Jx [] ["range","tuple"] [("all_rows",vR),("owners",wZ),("told",xZ),("many",fP),("together",bR),("allowance",dZ)] []=some Bm:=#[_]
def aqa:rX ["_law_cell_here"] ajT [] [] [] []=some aaq:=#[_]
def ap8:rX ["_law_value","_law_cell_here","_law_turn"] ajC [("_law_cut",.fq 1 QV)] [] [] []=some aao:=#[_]
def aeC:rX ["_law_stand","_law_beast","_law_cut_here"] VJ [] ["len"] [] []=some wA:=#[_]
def akX:rX ["_law_one","_law_other","_law_a","_law_b"] adE [] ["sum","zip","max"] [] []=some W0:=#[_]
def an1:rX ["_law_rows","_law_found","_law_row_here"] agm [] ["sorted"] [] ["_law_found"]=some Vb:=#[_]
def afZ:rX ["_law_stand","_law_grounds","_law_but","_law_rows","_law_at","_law_beast","_law_owner","_law_ground","_law_mark"] YZ [("_law_once",.fq 1 yP)] ["enumerate"] [] ["_law_rows"]=some Qg:=#[_]
def agI:rX ["_law_stand","_law_ground","_law_one"] YJ [] ["max"] [] []=some Oh:=#[_]
def aqj:rX ["_law_one","_law_other","_law_a","_law_b"] ajZ [] ["tuple","zip","max"] [] []=some afm:=#[_]
def akj:rX ["_law_stand","_law_row_here","_law_due_here","_law_owner","_law_mark","_law_way"] acY [("_law_rows_of",.fq 3 Ck),("_law_top",.fq 2 VR),("_law_tears",.fq 2 yN),("_law_room_of",.fq 2 Cz)] [] [] []=some W4:=#[_]
def apE:rX ["_law_stand","_law_beast","_law_word","_law_due_here","_law_row_here","_law_calves","_law_at","_law_other"] ajG [("_law_price",.fq 2 JH),("_law_tears",.fq 2 yN),("_law_herd_bad",.fq 3 qL)] ["list","enumerate"] [] ["_law_due_here","_law_calves"]=some Rj:=#[_]
def akm:rX ["_law_found"] adR [] ["isinstance","bool","int"] [] []=some XR:=#[_]
def am5(r:Mo->List Dat->Out Dat):rd ⟨["_law_found","_law_due_here","_law_one","_law_other"],defScope V6,[("_law_like",.fq 2 r),("_law_whole",.fq 1 Ka)],["zip","len","isinstance","list","tuple","str","int"],⟨[],lJ,xmH,dfH,Zm⟩,[],true⟩ (defBody V6)=some (JK r):=#[_]
def ab4:rX ["self","counts","number","beast","spot","cut","uncut"] PL [] ["sorted"] [("all_living",bO)] []=some Gi:=#[_]
def Wi:rX ["self"] Jc [] [] [("tally",Dg)] []=some Ab:=#[_]
def ak5:rX ["_law_word","_law_cell_here","_law_counts","_law_head","_law_parts"] adH [("_law_deed",.fq 6 gj),("_law_ear",.fq 1 LR),("_law_row",.fq 3 ug)] [] [] []=some Xj:=#[_]
def alw:rX ["_law_beasts","_law_found","_law_owner","_law_ground","_law_some","_law_row_here"] adx [("_law_once",.fq 1 yP)] [] [] ["_law_found"]=some Xa:=#[_]
def W7:rX ["self","beast","found"] JF [("lacks",.fq 2 jX)] [] [("marked",aN)] []=some oM:=#[_]
def agH:rX ["owner","ear","rows","room","ways","holder","mark"] Zt [("lacks",.fq 2 jX),("joint",.fq 2 mU)] ["min"] [] []=some Pk:=#[_]
def Wt:rX ["self","beast","found"] HS [("passing",.fq 4 CJ)] [] [("room",bL),("standing",bK),("marked",aN)] []=some lZ:=#[_]
def Um:rX ["self","beast","number","calf"] FZ [] [] [("calves",kZ)] []=some sW:=#[_]
def RL:rX ["self","beast"] Eh [] ["list"] [("known",cY)] []=some qT:=#[_]
def amV:rX ["_law_house","_law_beast","_law_way","_law_word","_law_told_here"] agW [("NoBeast",.exc),("Dead",.exc),("Unmarked",.exc)] [] [("worn",mV),("price",lE),("calves",gH),("history",jB)] []=some KN:=#[_]
def akq:rX ["_law_house","_law_cell_here","_law_counts","_law_head","_law_beast","_law_stand","_law_due_here","_law_way"] ac2 [("_law_like",.fq 2 (nu 10)),("_law_tally",.fq 1 JW),("_law_told",.fq 3 Cg),("_law_due",.fq 2 Il),("_law_raw",.fq 3 Rk),("_law_asked",.fq 4 iQ)] ["range"] [("look",vq),("tally",rO)] []=some Yp:=#[_]
def alE:rX ["_law_house","_law_cell_here","_law_first","_law_head","_law_asked_here"] aej [("_law_right",.fq 4 Ao)] [] [] []=some Xu:=#[_]
def akL:rY ["_law_house","_law_deed_here","_law_word"] adX [] [] [("new_heir",iZ),("pass_on",jA),("part",pG),("unite",oY),("die",oG),("move",mj),("sell",mO),("tear",mJ),("cut",oN),("bear",mH),("bring",lH),("leave",lF),("enrol",lB),("new_ground",gY),("new_owner",dw)] []=some jw:=#[_]
def ahv:rY ["_law_house","_law_deed_here","_law_counts","_law_way","_law_told_here","_law_owners","_law_grounds","_law_beasts"] YS [("_law_named",.fg 2 iJ),("CommonError",.exc),("_law_done",.fg 3 nH)] [] [] []=some vN:=#[_]
def apO:rY ["_law_script","_law_house","_law_head","_law_cell_here","_law_first","_law_counts","_law_more","_law_parts","_law_word"] Rx [("_law_turns",.fq 4 Fb),("_law_done_so",.fg 4 pY),("_law_asked",.fq 4 iQ),("_law_word_by",.fq 1 vD),("_law_row",.fq 3 ug),("_law_play",.fg 3 JL),("_law_cell",.fq 2 Cr),("Commons",.cls 0 rJ)] ["abs"] [] []=some aeV:=#[_]
structure Top(w:World)(K:avC)(mg:Str->Option Value):Prop where
 ex:∃h:Heap,K.In h/\h.Ns mainGlobals mg
 c:QM fa fn tbs exB w K
abbrev aj(w:World)(K:avC):aK:=qm w K xsH lJ
open Lean in
local macro_rules
| `(#[$n:num,$s:str,$v]) => `((($(mkIdent `hk) : $n ≤ $(mkIdent `k) := by omega) → oU $(mkIdent `P) $(mkIdent `w) $(mkIdent `K) $(mkIdent `mg) $(mkIdent `base) (aj $(mkIdent `w) $(mkIdent `K)) $(mkIdent `k) $s $v))
| `(#[$n:num,$s:str,$m:str,$v]) => `((($(mkIdent `hk) : $n ≤ $(mkIdent `k) := by omega) → Gu $(mkIdent `P) $(mkIdent `w) $(mkIdent `K) $(mkIdent `mg) $(mkIdent `base) (aj $(mkIdent `w) $(mkIdent `K)) $(mkIdent `k) $s $m $v))
| `(#[$s:str,$v]) => `(oU $(mkIdent `P) $(mkIdent `w) $(mkIdent `K) $(mkIdent `mg) $(mkIdent `base) (aj $(mkIdent `w) $(mkIdent `K)) $(mkIdent `k) $s $v)
| `(#[$s:str,$m:str,$v]) => `(Gu $(mkIdent `P) $(mkIdent `w) $(mkIdent `K) $(mkIdent `mg) $(mkIdent `base) (aj $(mkIdent `w) $(mkIdent `K)) $(mkIdent `k) $s $m $v)
section
variable{P:Program}{w:World}{K:avC}{mg:Str->Option Value}{base:Heap}{k:Nat}(T:Top w K mg)
include T
theorem Top.glo(i:Nat){x:Str}(h:fa[i]?=some (.glo x):=by rfl):mg x=some (.ref (He.ga K x)):=by
 let⟨_,X,G⟩:=T.ex
 exact He.glo_ok X G (T.c.qQ i h)
theorem Top.free(i:Nat){x:Str}(h:fa[i]?=some (.free x):=by rfl):mg x=none:=by
 let⟨_,X,G⟩:=T.ex
 exact He.free_ok X G (T.c.qQ i h)
theorem Top.int(i:Nat){x:Str}{j:Int}(h:fa[i]?=some (.int x j):=by rfl):∃t,mg x=some (.int j t):=by
 let⟨_,X,G⟩:=T.ex
 exact He.int_ok X G (T.c.qQ i h)
theorem Top.str(i:Nat){x j:Str}(h:fa[i]?=some (.str x j):=by rfl):∃t,mg x=some (.str j t):=by
 let⟨_,X,G⟩:=T.ex
 exact He.str_ok X G (T.c.qQ i h)
theorem yj:#["GREATEST_DEPTH",.con cP]:=by
 let⟨t,h⟩:=T.int 168
 exact Pj h
theorem Yg:#["FEWEST_EXTRA",.con jy]:=by
 let⟨t,h⟩:=T.int 169
 exact Pj h
theorem acj:#["MOST_EXTRA",.con lV]:=by
 let⟨t,h⟩:=T.int 170
 exact Pj h
theorem Ld:#["GREATEST_ALLOWANCE",.con iK]:=by
 let⟨t,h⟩:=T.int 171
 exact Pj h
theorem Uw:#["PLACES",.con jo]:=af6 (T.glo 172) (λH=>He.tupB_ok ((He.ba (He.ba (He.ba (He.ba T.c.more).1).1).1).2) H) rfl rfl ((He.ba (He.ba (He.ba T.c.more).1).1).2)
theorem Vm:#["BARE_EAR",.con jT]:=af6 (T.glo 173) (λH=>He.tupB_ok ((He.ba (He.ba T.c.more).1).2) H) rfl rfl ((He.ba T.c.more).2)
theorem VF:#["GREATEST_PART",.con qG]:=by
 let⟨t,h⟩:=T.int 174
 exact Pj h
theorem aiV:#["SHAPES",.dic (BW Az)]:=aoy (T.glo 167) (He.ba (He.ba (He.ba (He.ba (He.ba T.c.more).1).1).1).1).2 (T.c.t.tab 0)
theorem agf:#["NoOwner",.exc]:=jf (by rfl) (T.glo 123) (T.c.qQ 124)
theorem afk:#["NoGround",.exc]:=jf (by rfl) (T.glo 125) (T.c.qQ 126)
theorem ZX:#["NoRight",.exc]:=jf (by rfl) (T.glo 127) (T.c.qQ 128)
theorem V3:#["HasRight",.exc]:=jf (by rfl) (T.glo 129) (T.c.qQ 130)
theorem ae0:#["NoneFree",.exc]:=jf (by rfl) (T.glo 131) (T.c.qQ 132)
theorem afc:#["BadExtra",.exc]:=jf (by rfl) (T.glo 133) (T.c.qQ 134)
theorem Yj:#["BadAllowance",.exc]:=jf (by rfl) (T.glo 135) (T.c.qQ 136)
theorem ah5:#["BadEar",.exc]:=jf (by rfl) (T.glo 138) (T.c.qQ 139)
theorem ao4:#["Bare",.exc]:=jf (by rfl) (T.glo 140) (T.c.qQ 141)
theorem aaI:#["StillThere",.exc]:=jf (by rfl) (T.glo 142) (T.c.qQ 143)
theorem Yz:#["NoBeast",.exc]:=jf (by rfl) (T.glo 145) (T.c.qQ 146)
theorem ahf:#["Dead",.exc]:=jf (by rfl) (T.glo 147) (T.c.qQ 148)
theorem Wh:#["Unmarked",.exc]:=jf (by rfl) (T.glo 149) (T.c.qQ 150)
theorem afC:#["Deepest",.exc]:=jf (by rfl) (T.glo 151) (T.c.qQ 152)
theorem afD:#["NoPlace",.exc]:=jf (by rfl) (T.glo 153) (T.c.qQ 154)
theorem Sq:#["SameOwner",.exc]:=jf (by rfl) (T.glo 155) (T.c.qQ 156)
theorem ab0:#["SameGround",.exc]:=jf (by rfl) (T.glo 157) (T.c.qQ 158)
theorem Vf:#["Together",.exc]:=jf (by rfl) (T.glo 159) (T.c.qQ 160)
theorem akS:#["Alone",.exc]:=jf (by rfl) (T.glo 161) (T.c.qQ 162)
theorem aho:#["BadDeed",.exc]:=jf (by rfl) (T.glo 163) (T.c.qQ 164)
theorem Nh:#["CommonError",.exc]:=jf (by rfl) (T.glo 165) (T.c.qQ 166)
theorem Top.ajv:QJ K lJ=true:=(He.ba (He.ba (He.ba (He.ba (He.ba (He.ba (He.ba (He.ba T.c.more).1).1).1).1).1).1).1).2
theorem Top.xf:(Zm.all λp=>xsH.contains p.1&&Xm K p.1 p.2)=true:=(He.ba (He.ba (He.ba (He.ba (He.ba (He.ba T.c.more).1).1).1).1).1).2
theorem Top.hs{Ms:List (Str×TabMV)}(h:Je P w K mg base (aj w K) k Ms):Xi P w K mg base (aj w K) k ⟨Ms,lJ,xmH,dfH,Zm⟩:=apq h T.ajv (He.ba (He.ba (He.ba (He.ba (He.ba (He.ba (He.ba T.c.more).1).1).1).1).1).1).2 (by rfl) T.xf
theorem Top.cls{c:Str}{fs:List Str}(h:lJ.lookup c=some fs:=by rfl):Cls K (He.ga K c):=(ab8 T.ajv h).1
local macro_rules | `(tactic| nofun)=>`(tactic| first | (exact λ_ _ _ _ _ _ us hl=>match us,hl with | [_],_=>rfl) | (exact λ_ _ _ _ _ _ us hl=>match us,hl with | [_,_],_=>rfl) | (exact λ_ _ _ _ _ _ us hl=>match us,hl with | [_,_,_],_=>rfl) | (exact λ_ _ _ _ _ _ us hl=>match us,hl with | [_,_,_,_],_=>rfl) | (exact λ_ _ _ _ _ _ us hl=>match us,hl with | [_,_,_,_,_],_=>rfl) | (exact λ_ _ _ _ _ _ us hl=>match us,hl with | [_,_,_,_,_,_],_=>rfl) | (exact λ_ _ _ _ _ _ us hl=>match us,hl with | [_,_,_,_,_,_,_],_=>rfl) | (exact λ_ _ _ _ _ _ us hl=>match us,hl with | [_,_,_,_,_,_,_,_],_=>rfl))
theorem vQ(i j:Nat){x:Str}{k0:Nat}(hk:k0+1<=k){st:Stmt}{N ps ml B:List Str}{G:LsS GV}{Ms:List (Str×TabMV)}{body:SF}(h:rX N st G B Ms ml=some body)(g:Gp P w K mg base (aj w K) k0 G)(b:FW mg B)(ms:Je P w K mg base (aj w K) k0 Ms)(hi:fn[i]?=some (dF x st):=by rfl)(hj:fa[j]?=some (.glo x):=by rfl)(S:FnScope N ps (defScope st):=by exact⟨rfl,rfl,rfl,#[[]],rfl,#[[]],#[[]]⟩)(hb:∀(kV doc pm:Value) (an:Option Addr) (cdv ct:Value) (us:List Value),us.length=ps.length->bindArgs (PySem.W.fnOf x x (defArgs st) (defBody st) (defScope st) .none kV doc pm an cdv ct) ⟨us,[]⟩=pure (ps.zip us):=by nofun):oU P w K mg base (aj w K) k x (.fq ps.length (mQ N.length body)):=by
 let⟨fd,F⟩:=T.c.YT i hi
 exact aip hk (T.glo j hj) F.kp (FunD.bindsN (ps:=ps) F hb) (aaK (HY F) S g b (T.hs ms) h)
theorem wQ(i j:Nat){c m q:Str}{k0:Nat}(hk:k0+1<=k){st:Stmt}{N ps ml B:List Str}{G:LsS GV}{Ms:List (Str×TabMV)}{body:SF}(h:rX N st G B Ms ml=some body)(g:Gp P w K mg base (aj w K) k0 G)(b:FW mg B)(ms:Je P w K mg base (aj w K) k0 Ms)(hi:fn[i]?=some (dM c m q st):=by rfl)(hj:fa[j]?=some (.meth c m):=by rfl)(hx:xsH.contains c=true:=by rfl){fs:List Str}(hc:lJ.lookup c=some fs:=by rfl)(hf:((lJ.lookup c).getD []).contains m=false:=by rfl)(S:FnScope N ps (defScope st):=by exact⟨rfl,rfl,rfl,#[[]],rfl,#[[]],#[[]]⟩)(hb:∀(kV doc pm:Value) (an:Option Addr) (cdv ct:Value) (us:List Value),us.length=ps.length->bindArgs (PySem.W.fnOf m q (defArgs st) (defBody st) (defScope st) .none kV doc pm an cdv ct) ⟨us,[]⟩=pure (ps.zip us):=by nofun):Gu P w K mg base (aj w K) k c m (.q ps.length (mQ N.length body)):=by
 let⟨fd,F⟩:=T.c.YT i hi
 exact arw hk hx (T.cls hc) (T.c.qQ j hj) hf (FunD.bindsN (ps:=ps) F hb) (aaK (HY F) S g b (T.hs ms) h)
theorem vG(i j:Nat){x:Str}{k0:Nat}(hk:k0+1<=k){st:Stmt}{N ps ml B:List Str}{G:LsS GV}{Ms:List (Str×TabMV)}{body:SF}(h:rY N st G B Ms ml=some body)(g:Gp P w K mg base (aj w K) k0 G)(b:FW mg B)(ms:Je P w K mg base (aj w K) k0 Ms)(hi:fn[i]?=some (dF x st):=by rfl)(hj:fa[j]?=some (.glo x):=by rfl)(S:FnScope N ps (defScope st):=by exact⟨rfl,rfl,rfl,#[[]],rfl,#[[]],#[[]]⟩)(hb:∀(kV doc pm:Value) (an:Option Addr) (cdv ct:Value) (us:List Value),us.length=ps.length->bindArgs (PySem.W.fnOf x x (defArgs st) (defBody st) (defScope st) .none kV doc pm an cdv ct) ⟨us,[]⟩=pure (ps.zip us):=by nofun):oU P w K mg base (aj w K) k x (.fg ps.length (mG N.length body)):=by
 let⟨fd,F⟩:=T.c.YT i hi
 exact arn hk (T.glo j hj) F.kp (FunD.bindsN (ps:=ps) F hb) (VP (HY F) S g b (T.hs ms) h)
theorem wG(i j:Nat){c m q:Str}{k0:Nat}(hk:k0+1<=k){st:Stmt}{N ps ml B:List Str}{G:LsS GV}{Ms:List (Str×TabMV)}{body:SF}(h:rY N st G B Ms ml=some body)(g:Gp P w K mg base (aj w K) k0 G)(b:FW mg B)(ms:Je P w K mg base (aj w K) k0 Ms)(hi:fn[i]?=some (dM c m q st):=by rfl)(hj:fa[j]?=some (.meth c m):=by rfl)(hx:xsH.contains c=true:=by rfl){fs:List Str}(hc:lJ.lookup c=some fs:=by rfl)(hf:((lJ.lookup c).getD []).contains m=false:=by rfl)(S:FnScope N ps (defScope st):=by exact⟨rfl,rfl,rfl,#[[]],rfl,#[[]],#[[]]⟩)(hb:∀(kV doc pm:Value) (an:Option Addr) (cdv ct:Value) (us:List Value),us.length=ps.length->bindArgs (PySem.W.fnOf m q (defArgs st) (defBody st) (defScope st) .none kV doc pm an cdv ct) ⟨us,[]⟩=pure (ps.zip us):=by nofun):Gu P w K mg base (aj w K) k c m (.g ps.length (mG N.length body)):=by
 let⟨fd,F⟩:=T.c.YT i hi
 exact aro hk hx (T.cls hc) (T.c.qQ j hj) hf (FunD.bindsN (ps:=ps) F hb) (VP (HY F) S g b (T.hs ms) h)
theorem vI(i j l:Nat){c q:Str}{n:Nat}{k0:Nat}{st:Stmt}{N ps ml B:List Str}{G:LsS GV}{Ms:List (Str×TabMV)}{body:SF}(h:rY N st G B Ms ml=some body)(g:Gp P w K mg base (aj w K) k0 G)(b:FW mg B)(ms:Je P w K mg base (aj w K) k0 Ms)(hk:k0+1+1<=k)(hi:fn[i]?=some (dM c "__init__" q st):=by rfl)(hj:fa[j]?=some (.mkr c):=by rfl)(hg:fa[l]?=some (.glo c):=by rfl)(hx:xsH.contains c=true:=by rfl){fs:List Str}(hc:lJ.lookup c=some fs:=by rfl)(hp:ps.length=n+1:=by rfl)(S:FnScope N ps (defScope st):=by exact⟨rfl,rfl,rfl,#[[]],rfl,#[[]],#[[]]⟩)(hb:∀(kV doc pm:Value) (an:Option Addr) (cdv ct:Value) (us:List Value),us.length=ps.length->bindArgs (PySem.W.fnOf "__init__" q (defArgs st) (defBody st) (defScope st) .none kV doc pm an cdv ct) ⟨us,[]⟩=pure (ps.zip us):=by nofun):oU P w K mg base (aj w K) k c (.cls n (mG N.length body)):=by
 let⟨fd,F⟩:=T.c.YT i hi
 exact aoP hk hx (T.glo l hg) (T.cls hc) (T.c.qQ j hj) hp (FunD.bindsN (ps:=ps) F hb) (VP (HY F) S g b (T.hs ms) h)
theorem aek(hk:2<=k):#["Clash",.exi ["ones","others","ear"]]:=by
 have ho:Xm K "Clash" ["ones","others","ear"]=true:=(He.ba (av1.mp T.xf _ (show(("Clash" : Str),(["ones","others","ear"]:List Str))∈Zm by simp[Zm]))).2
 let⟨o1,o2,o3,o4,o5⟩:=WD ho
 let⟨fd,F⟩:=T.c.YT 119
 have b:=FunD.bindsN (ps:=["self","ones","others","ear"]) F λ_ _ _ _ _ _ us hl=>match us,hl with|[_,_,_,_],_=>rfl
 exact aoz hk (by rfl) (T.glo 137) ho rfl b (ahq (HY F) aah o1 (by rfl) #[()] (o5 _ #[()]) (o5 _ #[()]) (o5 _ #[()]))
theorem af4:#[2,"Grounds",.cls 0 wz]:=λhk=>vI T 0 0 119 (ps:=["self"]) Wz awM awM awM hk
theorem ai4:#[2,"Rights",.cls 0 yg]:=λhk=>vI T 1 1 120 (ps:=["self"]) Z6 awM awM awM hk
theorem amX:#[2,"Herd",.cls 0 BK]:=λhk=>vI T 2 2 121 (ps:=["self"]) acC awM awM awM hk
theorem af0:#[4,"Commons",.cls 0 rJ]:=λhk=>vI T 3 3 122 (ps:=["self"]) XH ⟨amX T,ai4 T,af4 T,awM⟩ awM awM hk
theorem an0:#[1,"_law_cell",.fq 2 Cr]:=λhk=>vQ T 4 4 hk (ps:=["_law_script","_law_k"]) amG awM ⟨T.free 175,awM⟩ awM
theorem aax:#[1,"_law_row",.fq 3 ug]:=λhk=>vQ T 5 5 hk (ps:=["_law_cell_here","_law_many","_law_base"]) apM awM ⟨T.free 176,T.free 177,awM⟩ awM
theorem aa5:#[1,"_law_ear_by",.fq 2 v8]:=λhk=>vQ T 6 6 hk (ps:=["_law_figures","_law_mode"]) aiA awM ⟨T.free 178,T.free 179,awM⟩ awM
theorem ajz:#[2,"_law_ear",.fq 1 LR]:=λhk=>vQ T 7 7 hk (ps:=["_law_cell_here"]) apn ⟨aa5 T,aax T,awM⟩ awM awM
theorem acG:#[1,"_law_begun",.fq 1 xP]:=λhk=>vQ T 8 8 hk (ps:=["_law_head"]) acM awM awM awM
theorem Zi:#[1,"_law_word_by",.fq 1 vD]:=λhk=>vQ T 9 9 hk (ps:=["_law_figure"]) ahG awM awM awM
theorem gW:#[1,"Commons","need_owner",.q 2 jO]:=λhk=>wQ T 10 10 hk (ps:=["self","owner"]) Mz ⟨agf T,awM⟩ awM awM
theorem zH:#[1,"Grounds","many",.q 1 rN]:=λhk=>wQ T 11 11 hk (ps:=["self"]) Ww awM ⟨T.free 175,awM⟩ awM
theorem XJ:#[2,"Grounds","has",.q 2 xX]:=λhk=>wQ T 12 12 hk (ps:=["self","ground"]) aai awM awM ⟨⟨zH T,awM⟩,awM⟩
theorem iW:#[3,"Grounds","need",.q 2 wO]:=λhk=>wQ T 13 13 hk (ps:=["self","ground"]) Yq ⟨afk T,awM⟩ awM ⟨⟨XJ T,awM⟩,awM⟩
theorem vh:#[1,"Rights","marks",.q 3 wL]:=λhk=>wQ T 14 14 hk (ps:=["self","owner","ground"]) WT awM awM awM
theorem NT:#[2,"Rights","has_right",.q 3 pZ]:=λhk=>wQ T 15 15 hk (ps:=["self","owner","ground"]) Qi awM ⟨T.free 175,awM⟩ ⟨⟨vh T,awM⟩,awM⟩
theorem jG:#[3,"Commons","need_right",.q 3 nR]:=λhk=>wQ T 16 16 hk (ps:=["self","owner","ground"]) Mr ⟨ZX T,awM⟩ awM ⟨⟨NT T,awM⟩,awM⟩
theorem uf:#[1,"Commons","new_owner",.g 1 gQ]:=λhk=>wG T 17 17 hk (ps:=["self"]) NK awM awM awM
theorem Ac:#[1,"Rights","add_right",.g 4 jH]:=λhk=>wG T 18 18 hk (ps:=["self","owner","ground","mark"]) Qy ⟨V3 T,awM⟩ awM awM
theorem amo:#[1,"torn",.fq 2 N8]:=λhk=>vQ T 19 19 hk (ps:=["ear","many"]) aog ⟨yj T,awM⟩ ⟨T.free 176,T.free 180,awM⟩ awM
theorem QZ:#[1,"lacks",.fq 2 jX]:=λhk=>vQ T 20 20 hk (ps:=["one","other"]) alB awM ⟨T.free 181,T.free 182,awM⟩ awM
theorem acO:#[2,"offspring",.fq 2 xJ]:=λhk=>vQ T 21 21 hk (ps:=["mark","extra"]) acF ⟨QZ T,amo T,awM⟩ awM awM
theorem alo:#[2,"apart",.fq 2 JC]:=λhk=>vQ T 22 22 hk (ps:=["one","other"]) ak3 ⟨QZ T,awM⟩ ⟨T.free 179,awM⟩ awM
theorem abw:#[3,"meet",.fq 3 uD]:=λhk=>vQ T 23 23 hk (ps:=["one","other","room"]) amN ⟨alo T,awM⟩ awM awM
theorem abK:#[4,"first_free",.fq 4 rZ]:=λhk=>vQ T 24 24 hk (ps:=["mark","extra","rows","room"]) acr ⟨ae0 T,acO T,abw T,awM⟩ ⟨T.free 183,awM⟩ awM
theorem rQ:#[2,"Commons","first_mark",.q 3 oA]:=λhk=>wQ T 25 25 hk (ps:=["self","owner","ground"]) LQ awM awM ⟨⟨vh T,awM⟩,awM⟩
theorem o9:#[4,"Grounds","together",.q 2 lY]:=λhk=>wQ T 26 26 hk (ps:=["self","ground"]) O8 awM ⟨T.free 184,awM⟩ ⟨⟨iW T,awM⟩,awM⟩
theorem uW:#[5,"Commons","together",.q 2 lW]:=λhk=>wQ T 27 27 hk (ps:=["self","ground"]) Qx awM awM ⟨⟨o9 T,awM⟩,awM⟩
theorem Uo:#[1,"tidied",.fq 1 sV]:=λhk=>vQ T 28 28 hk (ps:=["rows"]) ahT awM ⟨T.free 185,T.free 186,awM⟩ awM
theorem qd:#[1,"Herd","all_living",.q 1 qX]:=λhk=>wQ T 29 29 hk (ps:=["self"]) RD awM ⟨T.free 187,awM⟩ awM
theorem HW:#[2,"Herd","grazing",.q 2 rA]:=λhk=>wQ T 30 30 hk (ps:=["self","grounds"]) Xh awM awM ⟨⟨qd T,awM⟩,awM⟩
theorem Ma:#[1,"Rights","in_grounds",.q 2 pq]:=λhk=>wQ T 31 31 hk (ps:=["self","grounds"]) NQ awM awM awM
theorem wV:#[6,"Commons","standing_but",.q 3 jd]:=λhk=>wQ T 32 32 hk (ps:=["self","left_out","ground"]) Ji ⟨Uo T,awM⟩ awM ⟨⟨Ma T,awM⟩,⟨HW T,awM⟩,⟨uW T,awM⟩,awM⟩
theorem pA:#[7,"Commons","standing",.q 2 lQ]:=λhk=>wQ T 33 33 hk (ps:=["self","ground"]) Ol awM awM ⟨⟨wV T,awM⟩,awM⟩
theorem zX:#[4,"Grounds","allowance",.q 2 kW]:=λhk=>wQ T 34 34 hk (ps:=["self","ground"]) Ny awM awM ⟨⟨iW T,awM⟩,awM⟩
theorem Wb:#[5,"Grounds","room",.q 2 sG]:=λhk=>wQ T 35 35 hk (ps:=["self","ground"]) Xf awM ⟨T.free 179,awM⟩ ⟨⟨o9 T,awM⟩,⟨zX T,awM⟩,awM⟩
theorem qb:#[6,"Commons","room",.q 2 qZ]:=λhk=>wQ T 36 36 hk (ps:=["self","ground"]) W9 awM awM ⟨⟨Wb T,awM⟩,awM⟩
theorem Ag:#[8,"Commons","new_heir",.g 4 cI]:=λhk=>wG T 37 37 hk (ps:=["self","elder","ground","extra"]) O5 ⟨abK T,afc T,Yg T,acj T,awM⟩ awM ⟨⟨Ac T,awM⟩,⟨uf T,awM⟩,⟨qb T,awM⟩,⟨pA T,awM⟩,⟨rQ T,awM⟩,⟨jG T,awM⟩,⟨iW T,awM⟩,⟨gW T,awM⟩,awM⟩
theorem K6:#[2,"Grounds","add_ground",.g 2 fY]:=λhk=>wG T 38 38 hk (ps:=["self","allowance"]) Ly ⟨Yj T,Ld T,awM⟩ awM ⟨⟨zH T,awM⟩,awM⟩
theorem yL:#[3,"Commons","new_ground",.g 2 fZ]:=λhk=>wG T 39 39 hk (ps:=["self","allowance"]) Mv awM awM ⟨⟨K6 T,awM⟩,awM⟩
theorem ahb:#[4,"barring",.fq 4 Dc]:=λhk=>vQ T 40 40 hk (ps:=["owner","ear","rows","room"]) afS ⟨abw T,Uo T,awM⟩ awM awM
theorem KH:#[1,"joint",.fq 2 mU]:=λhk=>vQ T 41 41 hk (ps:=["one","other"]) akx awM ⟨T.free 178,T.free 182,T.free 179,awM⟩ awM
theorem Uz:#[5,"ask_room",.fq 4 pW]:=λhk=>vQ T 42 42 hk (ps:=["owner","ear","rows","room"]) afl ⟨aek T #[()],KH T,ahb T,awM⟩ awM awM
theorem rR:#[8,"Commons","ask_ground",.q 4 iG]:=λhk=>wQ T 43 43 hk (ps:=["self","owner","ear","ground"]) Lq ⟨Uz T,awM⟩ awM ⟨⟨qb T,awM⟩,⟨pA T,awM⟩,awM⟩
theorem abF:#[1,"is_ear",.fq 1 vL]:=λhk=>vQ T 44 44 hk (ps:=["parts"]) aiL ⟨yj T,Uw T,awM⟩ ⟨T.free 188,T.free 175,awM⟩ awM
theorem Vt:#[2,"need_ear",.fq 1 tK]:=λhk=>vQ T 45 45 hk (ps:=["parts"]) ae7 ⟨ah5 T,abF T,awM⟩ awM awM
theorem GX:#[9,"Commons","enrol",.g 4 dJ]:=λhk=>wG T 46 46 hk (ps:=["self","owner","ground","mark"]) UL ⟨V3 T,ao4 T,Vm T,Vt T,awM⟩ awM ⟨⟨Ac T,awM⟩,⟨rR T,awM⟩,⟨vh T,awM⟩,⟨iW T,awM⟩,⟨gW T,awM⟩,awM⟩
theorem X7:#[2,"Rights","drop",.g 3 pJ]:=λhk=>wG T 47 47 hk (ps:=["self","owner","ground"]) aak ⟨ZX T,awM⟩ awM ⟨⟨vh T,awM⟩,awM⟩
theorem Gq:#[4,"Commons","leave",.g 3 fM]:=λhk=>wG T 48 48 hk (ps:=["self","owner","ground"]) V5 ⟨aaI T,awM⟩ ⟨T.free 183,awM⟩ ⟨⟨X7 T,awM⟩,⟨HW T,awM⟩,⟨jG T,awM⟩,⟨iW T,awM⟩,⟨gW T,awM⟩,awM⟩
theorem DW:#[1,"Beast","stand_so",.g 2 oZ]:=λhk=>wG T 49 49 hk (ps:=["self","stand"]) Tw awM awM awM
theorem alJ:#[1,"begun",.fq 1 Ey]:=λhk=>vQ T 50 50 hk (ps:=["first"]) akQ ⟨Vm T,awM⟩ awM awM
theorem ak7:#[3,"Beast",.cls 1 vO]:=λhk=>vI T 51 51 144 (ps:=["self","first"]) abI ⟨alJ T,awM⟩ awM ⟨⟨DW T,awM⟩,awM⟩ hk
theorem Eb:#[4,"Herd","add_beast",.g 2 ux]:=λhk=>wG T 52 52 hk (ps:=["self","first"]) Ub ⟨ak7 T,awM⟩ ⟨T.free 175,awM⟩ awM
theorem Gz:#[5,"Commons","bring",.g 4 fO]:=λhk=>wG T 53 53 hk (ps:=["self","owner","ground","ear"]) Vu ⟨Vt T,awM⟩ awM ⟨⟨Eb T,awM⟩,⟨jG T,awM⟩,⟨iW T,awM⟩,⟨gW T,awM⟩,awM⟩
theorem yc:#[1,"Herd","known",.q 2 lU]:=λhk=>wQ T 54 54 hk (ps:=["self","number"]) ab1 ⟨Yz T,awM⟩ ⟨T.free 175,awM⟩ awM
theorem wC:#[2,"Herd","living",.q 2 uL]:=λhk=>wQ T 55 55 hk (ps:=["self","number"]) aae ⟨ahf T,awM⟩ awM ⟨⟨yc T,awM⟩,awM⟩
theorem rW:#[3,"Herd","marked",.q 2 pN]:=λhk=>wQ T 56 56 hk (ps:=["self","number"]) aam ⟨Wh T,awM⟩ awM ⟨⟨wC T,awM⟩,awM⟩
theorem Ih:#[5,"Commons","bear",.g 2 iH]:=λhk=>wG T 57 57 hk (ps:=["self","mother"]) Xl awM awM ⟨⟨Eb T,awM⟩,⟨rW T,awM⟩,awM⟩
theorem ae6:#[1,"deepened",.fq 2 zW]:=λhk=>vQ T 58 58 hk (ps:=["ear","place"]) afg awM ⟨T.free 178,T.free 187,awM⟩ awM
theorem ag4:#[2,"gone_on",.fq 2 CW]:=λhk=>vQ T 59 59 hk (ps:=["stand","event"]) ag0 ⟨ae6 T,awM⟩ awM awM
theorem Kf:#[1,"Beast","stand",.q 1 xU]:=λhk=>wQ T 60 60 hk (ps:=["self"]) aad awM awM awM
theorem jU:#[3,"Beast","befall",.g 2 oR]:=λhk=>wG T 61 61 hk (ps:=["self","event"]) WM ⟨ag4 T,awM⟩ awM ⟨⟨DW T,awM⟩,⟨Kf T,awM⟩,awM⟩
theorem JZ:#[9,"Commons","cut",.g 2 jk]:=λhk=>wG T 62 62 hk (ps:=["self","beast"]) aag ⟨KH T,awM⟩ awM ⟨⟨jU T,awM⟩,⟨rR T,awM⟩,⟨rQ T,awM⟩,⟨wC T,awM⟩,awM⟩
theorem Iv:#[4,"Commons","tear",.g 3 fJ]:=λhk=>wG T 63 63 hk (ps:=["self","beast","place"]) W6 ⟨afC T,yj T,afD T,Uw T,awM⟩ ⟨T.free 175,awM⟩ ⟨⟨jU T,awM⟩,⟨wC T,awM⟩,awM⟩
theorem Bb:#[2,"Herd","calves",.q 2 pQ]:=λhk=>wQ T 64 64 hk (ps:=["self","mother"]) Z5 awM awM ⟨⟨qd T,awM⟩,⟨yc T,awM⟩,awM⟩
theorem Ae:#[4,"Herd","lead_calves",.g 2 qF]:=λhk=>wG T 65 65 hk (ps:=["self","mother"]) Ph awM awM ⟨⟨Bb T,awM⟩,⟨jU T,awM⟩,⟨yc T,awM⟩,awM⟩
theorem HF:#[7,"Commons","sell",.g 3 dH]:=λhk=>wG T 66 66 hk (ps:=["self","beast","buyer"]) Xd ⟨Uz T,KH T,Sq T,awM⟩ awM ⟨⟨Ae T,awM⟩,⟨jU T,awM⟩,⟨qb T,awM⟩,⟨wV T,awM⟩,⟨rQ T,awM⟩,⟨jG T,awM⟩,⟨gW T,awM⟩,⟨rW T,awM⟩,awM⟩
theorem Hv:#[9,"Commons","move",.g 3 dG]:=λhk=>wG T 67 67 hk (ps:=["self","beast","ground"]) X4 ⟨ab0 T,awM⟩ awM ⟨⟨Ae T,awM⟩,⟨jU T,awM⟩,⟨rR T,awM⟩,⟨jG T,awM⟩,⟨iW T,awM⟩,⟨rW T,awM⟩,awM⟩
theorem Kr:#[4,"Commons","die",.g 2 j8]:=λhk=>wG T 68 68 hk (ps:=["self","beast"]) Z8 awM awM ⟨⟨jU T,awM⟩,⟨wC T,awM⟩,awM⟩
theorem afs:#[4,"clashing",.fq 2 wI]:=λhk=>vQ T 69 69 hk (ps:=["rows","room"]) aeO ⟨abw T,Uo T,awM⟩ ⟨T.free 187,awM⟩ awM
theorem NP:#[8,"Commons","quarrels",.q 3 lO]:=λhk=>wQ T 70 70 hk (ps:=["self","ground","other"]) Py ⟨afs T,awM⟩ ⟨T.free 179,awM⟩ ⟨⟨pA T,awM⟩,⟨qb T,awM⟩,awM⟩
theorem CK:#[1,"Grounds","enclose",.g 2 ni]:=λhk=>wG T 71 71 hk (ps:=["self","grounds"]) RG awM ⟨T.free 178,awM⟩ awM
theorem Fy:#[5,"Grounds","unite",.g 3 jL]:=λhk=>wG T 72 72 hk (ps:=["self","ground","other"]) V9 ⟨Vf T,awM⟩ ⟨T.free 185,awM⟩ ⟨⟨CK T,awM⟩,⟨o9 T,awM⟩,awM⟩
theorem Fo:#[9,"Commons","unite",.g 3 eV]:=λhk=>wG T 73 73 hk (ps:=["self","ground","other"]) Vr ⟨aek T #[()],KH T,Vf T,awM⟩ awM ⟨⟨Fy T,awM⟩,⟨NP T,awM⟩,⟨uW T,awM⟩,⟨iW T,awM⟩,awM⟩
theorem IW:#[5,"Grounds","part",.g 2 iT]:=λhk=>wG T 74 74 hk (ps:=["self","ground"]) Yn ⟨akS T,awM⟩ awM ⟨⟨CK T,awM⟩,⟨o9 T,awM⟩,awM⟩
theorem Hu:#[6,"Commons","part",.g 2 iI]:=λhk=>wG T 75 75 hk (ps:=["self","ground"]) Yl awM awM ⟨⟨IW T,awM⟩,awM⟩
theorem Nz:#[1,"Rights","hand_over",.g 3 qu]:=λhk=>wG T 76 76 hk (ps:=["self","elder","heir"]) Qz awM awM awM
theorem aal:#[2,"Herd","owned",.q 2 zN]:=λhk=>wQ T 77 77 hk (ps:=["self","owner"]) acw awM awM ⟨⟨qd T,awM⟩,awM⟩
theorem Cm:#[4,"Commons","pass_on",.g 3 fD]:=λhk=>wG T 78 78 hk (ps:=["self","elder","heir"]) RK ⟨Sq T,awM⟩ awM ⟨⟨jU T,awM⟩,⟨aal T,awM⟩,⟨Nz T,awM⟩,⟨gW T,awM⟩,awM⟩
theorem acI:#[2,"part_fits",.fq 2 jh]:=λhk=>vQ T 79 79 hk (ps:=["kind","part"]) acL ⟨Uw T,VF T,abF T,awM⟩ ⟨T.free 189,T.free 190,T.free 175,T.free 178,awM⟩ awM
theorem amw:#[3,"fits",.fq 1 Kg]:=λhk=>vQ T 80 80 hk (ps:=["deed"]) ams ⟨acI T,aiV T,awM⟩ ⟨T.free 188,T.free 182,T.free 175,awM⟩ awM
theorem aac:#[10,"Commons","do",.g 2 cC]:=λhk=>wG T 81 81 hk (ps:=["self","deed"]) aaY ⟨aho T,amw T,awM⟩ awM ⟨⟨Ag T,awM⟩,⟨Cm T,awM⟩,⟨Hu T,awM⟩,⟨Fo T,awM⟩,⟨Kr T,awM⟩,⟨Hv T,awM⟩,⟨HF T,awM⟩,⟨Iv T,awM⟩,⟨JZ T,awM⟩,⟨Ih T,awM⟩,⟨Gz T,awM⟩,⟨Gq T,awM⟩,⟨GX T,awM⟩,⟨yL T,awM⟩,⟨uf T,awM⟩,awM⟩
theorem agU:#[11,"_law_done",.fg 3 nH]:=λhk=>vG T 82 82 hk (ps:=["_law_house","_law_deed_here","_law_counts"]) al4 ⟨Nh T,awM⟩ awM ⟨⟨aac T,awM⟩,awM⟩
theorem an8:#[1,"_law_near",.fq 2 Ot]:=λhk=>vQ T 83 83 hk (ps:=["_law_ear_here","_law_figures"]) anR awM ⟨T.free 178,T.free 182,T.free 179,T.free 180,awM⟩ awM
theorem ag3:#[2,"_law_mark_by",.fq 3 yI]:=λhk=>vQ T 84 84 hk (ps:=["_law_figures","_law_mode","_law_base"]) afA ⟨aa5 T,an8 T,awM⟩ awM awM
theorem apI:#[1,"_law_ref",.fq 3 kE]:=λhk=>vQ T 85 85 hk (ps:=["_law_figure","_law_many","_law_sure"]) ap9 awM ⟨T.free 179,awM⟩ awM
theorem agZ:#[3,"_law_deed",.fq 6 gj]:=λhk=>vQ T 86 86 hk (ps:=["_law_word","_law_one","_law_two","_law_parts","_law_counts","_law_base"]) aoY ⟨apI T,ag3 T,awM⟩ ⟨T.free 190,awM⟩ awM
theorem anW:#[12,"_law_play",.fg 3 JL]:=λhk=>vG T 87 87 hk (ps:=["_law_house","_law_cells","_law_head"]) amC ⟨agU T,agZ T,Zi T,aax T,acG T,ajz T,awM⟩ ⟨T.free 176,T.free 187,T.free 175,awM⟩ awM
theorem Z4:#[2,"Beast","told",.q 1 zj]:=λhk=>wQ T 88 88 hk (ps:=["self"]) abe awM ⟨T.free 178,awM⟩ ⟨⟨Kf T,awM⟩,awM⟩
theorem RM:#[1,"Commons","owners",.q 1 tY]:=λhk=>wQ T 89 89 hk (ps:=["self"]) S8 awM ⟨T.free 184,awM⟩ awM
theorem Oe:#[1,"Rights","all_rows",.q 1 qW]:=λhk=>wQ T 90 90 hk (ps:=["self"]) RB awM ⟨T.free 184,awM⟩ awM
theorem Vw:#[6,"Commons","look",.q 1 rE]:=λhk=>wQ T 91 91 hk (ps:=["self"]) WW awM ⟨T.free 176,T.free 178,awM⟩ ⟨⟨Oe T,awM⟩,⟨RM T,awM⟩,⟨Z4 T,awM⟩,⟨zH T,awM⟩,⟨uW T,awM⟩,⟨zX T,awM⟩,awM⟩
theorem v_cut:#[1,"_law_cut",.fq 1 QV]:=λhk=>vQ T 92 92 hk (ps:=["_law_cell_here"]) aqa awM awM awM
theorem apy:#[2,"_law_raw",.fq 3 Rk]:=λhk=>vQ T 93 93 hk (ps:=["_law_value","_law_cell_here","_law_turn"]) ap8 ⟨v_cut T,awM⟩ awM awM
theorem aeX:#[1,"_law_herd_bad",.fq 3 qL]:=λhk=>vQ T 94 94 hk (ps:=["_law_stand","_law_beast","_law_cut_here"]) aeC awM ⟨T.free 175,awM⟩ awM
theorem adA:#[1,"_law_tears",.fq 2 yN]:=λhk=>vQ T 95 95 hk (ps:=["_law_one","_law_other"]) akX awM ⟨T.free 181,T.free 182,T.free 179,awM⟩ awM
theorem ags:#[1,"_law_once",.fq 1 yP]:=λhk=>vQ T 96 96 hk (ps:=["_law_rows"]) an1 awM ⟨T.free 185,awM⟩ awM
theorem agw:#[2,"_law_rows_of",.fq 3 Ck]:=λhk=>vQ T 97 97 hk (ps:=["_law_stand","_law_grounds","_law_but"]) afZ ⟨ags T,awM⟩ ⟨T.free 187,awM⟩ awM
theorem agY:#[1,"_law_room_of",.fq 2 Cz]:=λhk=>vQ T 98 98 hk (ps:=["_law_stand","_law_ground"]) agI awM ⟨T.free 179,awM⟩ awM
theorem apT:#[1,"_law_top",.fq 2 VR]:=λhk=>vQ T 99 99 hk (ps:=["_law_one","_law_other"]) aqj awM ⟨T.free 178,T.free 182,T.free 179,awM⟩ awM
theorem alf:#[3,"_law_price",.fq 2 JH]:=λhk=>vQ T 100 100 hk (ps:=["_law_stand","_law_row_here"]) akj ⟨agw T,apT T,adA T,agY T,awM⟩ awM awM
theorem aqf:#[4,"_law_due",.fq 2 Il]:=λhk=>vQ T 101 101 hk (ps:=["_law_stand","_law_beast"]) apE ⟨alf T,adA T,aeX T,awM⟩ ⟨T.free 184,T.free 187,awM⟩ awM
theorem alu:#[1,"_law_whole",.fq 1 Ka]:=λhk=>vQ T 102 102 hk (ps:=["_law_found"]) akm awM ⟨T.free 189,T.free 191,T.free 190,awM⟩ awM
theorem ao5:#[12,"_law_like",.fq 2 (nu 10)]:=λhk=>by
 let⟨fd,F⟩:=T.c.YT 103
 have b:=FunD.bindsN (ps:=["_law_found","_law_due_here"]) F λ_ _ _ _ _ _ us hl=>match us,hl with|[_,_],_=>rfl
 have key:∀j:Nat,FnOk P w K mg base (L2.CX P w) (2+j) (He.ga K "_law_like") fd ["_law_found","_law_due_here"] (YD K (aj w K) 2 (nu j)):=by
  intro j
  induction j with
  |zero=>exact anf
  |succ j ih'=>
   have ih:∀{k:Nat},2+j<=k->#["_law_like",.fq 2 (nu j)]:=λhk=>aip hk (T.glo 103) F.kp (b) ih'
   refine aaK (k:=2+j) (HY F) alM ?_ ?_ ?_ (am5 (nu j))
   .exact⟨ih (avW _),alu T,awM⟩
   .exact⟨T.free 182,T.free 175,T.free 189,T.free 184,T.free 178,T.free 192,T.free 190,awM⟩
   .exact T.hs awM
 exact aip hk (T.glo 103) F.kp (b) (key 10)
theorem Nq:#[2,"Herd","tally",.q 1 wj]:=λhk=>wQ T 104 104 hk (ps:=["self"]) ab4 awM ⟨T.free 185,awM⟩ ⟨⟨qd T,awM⟩,awM⟩
theorem SQ:#[3,"Commons","tally",.q 1 zu]:=λhk=>wQ T 105 105 hk (ps:=["self"]) Wi awM awM ⟨⟨Nq T,awM⟩,awM⟩
theorem adG:#[4,"_law_asked",.fq 4 iQ]:=λhk=>vQ T 106 106 hk (ps:=["_law_word","_law_cell_here","_law_counts","_law_head"]) ak5 ⟨agZ T,ajz T,aax T,awM⟩ awM awM
theorem akv:#[2,"_law_tally",.fq 1 JW]:=λhk=>vQ T 107 107 hk (ps:=["_law_beasts"]) alw ⟨ags T,awM⟩ awM awM
theorem Va:#[4,"Commons","worn",.q 2 gK]:=λhk=>wQ T 108 108 hk (ps:=["self","beast"]) W7 ⟨QZ T,awM⟩ awM ⟨⟨rW T,awM⟩,awM⟩
theorem ahx:#[2,"passing",.fq 4 CJ]:=λhk=>vQ T 109 109 hk (ps:=["owner","ear","rows","room"]) agH ⟨QZ T,KH T,awM⟩ ⟨T.free 180,awM⟩ awM
theorem TY:#[8,"Commons","price",.q 2 fQ]:=λhk=>wQ T 110 110 hk (ps:=["self","beast"]) Wt ⟨ahx T,awM⟩ awM ⟨⟨qb T,awM⟩,⟨pA T,awM⟩,⟨rW T,awM⟩,awM⟩
theorem RJ:#[3,"Commons","calves",.q 2 lA]:=λhk=>wQ T 111 111 hk (ps:=["self","beast"]) Um awM awM ⟨⟨Bb T,awM⟩,awM⟩
theorem Ou:#[2,"Commons","history",.q 2 jZ]:=λhk=>wQ T 112 112 hk (ps:=["self","beast"]) RL awM ⟨T.free 184,awM⟩ ⟨⟨yc T,awM⟩,awM⟩
theorem am8:#[9,"_law_told",.fq 3 Cg]:=λhk=>vQ T 113 113 hk (ps:=["_law_house","_law_beast","_law_way"]) amV ⟨Yz T,ahf T,Wh T,awM⟩ awM ⟨⟨Va T,awM⟩,⟨TY T,awM⟩,⟨Bb T,RJ T,awM⟩,⟨Ou T,awM⟩,awM⟩
theorem v_right:#[13,"_law_right",.fq 4 Ao]:=λhk=>vQ T 114 114 hk (ps:=["_law_house","_law_cell_here","_law_counts","_law_head"]) akq ⟨ao5 T,akv T,am8 T,aqf T,apy T,adG T,awM⟩ ⟨T.free 176,awM⟩ ⟨⟨Vw T,awM⟩,⟨Nq T,SQ T,awM⟩,awM⟩
theorem akU:#[14,"_law_turns",.fq 4 Fb]:=λhk=>vQ T 115 115 hk (ps:=["_law_house","_law_cell_here","_law_first","_law_head"]) alE ⟨v_right T,awM⟩ awM awM
theorem aj6:#[10,"_law_named",.fg 2 iJ]:=λhk=>vG T 116 116 hk (ps:=["_law_house","_law_deed_here"]) akL awM awM ⟨⟨Ag T,awM⟩,⟨Cm T,awM⟩,⟨IW T,Hu T,awM⟩,⟨Fy T,Fo T,awM⟩,⟨Kr T,awM⟩,⟨Hv T,awM⟩,⟨HF T,awM⟩,⟨Iv T,awM⟩,⟨JZ T,awM⟩,⟨Ih T,awM⟩,⟨Gz T,awM⟩,⟨Gq T,awM⟩,⟨GX T,awM⟩,⟨yL T,awM⟩,⟨uf T,awM⟩,awM⟩
theorem afE:#[12,"_law_done_so",.fg 4 pY]:=λhk=>vG T 117 117 hk (ps:=["_law_house","_law_deed_here","_law_counts","_law_way"]) ahv ⟨aj6 T,Nh T,agU T,awM⟩ awM awM
theorem apz{fd:FuncData}(F:FunD K "law" "law" (defArgs Rx) (defBody Rx) (defScope Rx) [] [] (He.ga K "law") fd):FnOk P w K mg base (L2.CX P w) 15 (He.ga K "law") fd ["_law_script"] (M9 K (aj w K) 1 U5):=by
 refine VP (k:=14) (HY F) ama ?_ ?_ ?_ apO
 .exact⟨akU T,afE T,adG T,Zi T,aax T,anW T,an0 T,af0 T,awM⟩
 .exact⟨T.free 177,awM⟩
 .exact T.hs awM
end
def digs(b:Int):Nat->Int->ListInt
 |0,_=>[]
 |n+1,c=>c%b::digs b n (c/b)
def R6(b:Int):Nat->Int->Int->ListInt
 |0,_,_=>[]
 |n+1,k,t=>((t*48271+9973*k+11)%2147483647/1021%b)::R6 b n (k+1) ((t*48271+9973*k+11)%2147483647)
def Dk(c:Int):Int:=if c<0 then -c else c
def rowOf(c:Int)(n:Nat)(b:Int):ListInt:=if 10^18<=Dk c then digs b n (Dk c) else R6 b n 0 ((Dk c%1000003+17)*69621%2147483647)
theorem aaX(b:Int):∀n c,(digs b n c).length=n
 |0,_=>rfl
 |n+1,c=>by simp[digs,aaX b n]
theorem adi(b:Int):∀n k t,(R6 b n k t).length=n
 |0,_,_=>rfl
 |n+1,k,t=>by simp[R6,adi b n]
theorem aea{b:Int}(hb:0<b):∀n c,∀x∈digs b n c,0<=x/\x<b
 |0,_,x,h=>by simp[digs]at h
 |n+1,c,x,h=>by
  rcases avP.mp h with rfl|h
  .exact⟨Int.emod_nonneg _ #[],Int.emod_lt_of_pos _ hb⟩
  .exact aea hb n _ x h
theorem agB{b:Int}(hb:0<b):∀n k t,∀x∈R6 b n k t,0<=x/\x<b
 |0,_,_,x,h=>by simp[R6]at h
 |n+1,k,t,x,h=>by
  rcases avP.mp h with rfl|h
  .exact⟨Int.emod_nonneg _ #[],Int.emod_lt_of_pos _ hb⟩
  .exact agB hb n _ _ x h
@[simp]def adS (c:Int) (n:Nat) (b:Int):(rowOf c n b).length=n:=by
 unfold rowOf;split
 .exact aaX ..
 .exact adi ..
def af3{b:Int}(hb:0<b)(c:Int)(n:Nat):∀x∈rowOf c n b,0<=x/\x<b:=by
 unfold rowOf;split
 .exact aea hb _ _
 .exact agB hb _ _ _
@[simp]def adT (M:Mo) (ns:ListInt) (k:Nat):Cr M [lI ns,.int k]=.ok (.int (ns.getD k 0)):=by
 unfold Cr acg;by_cases h:k<ns.length
 .simp[h,atI,ixN]
 .simp[h]
theorem aaU(M:Mo)(b:Int)(hb:0<b)(hb2:b<1073741824):∀(n k:Nat) (c:Int) (x1:Option Cell) (acc:List Dat) (x4 x5:Option Cell),acc.length+n<100000->∃c' x4',dY (ao 4) Xy ((List.range' k n).map λ(i:Nat)=>PyData.int (i:Int)) M [#[.int c],x1,#[.int b],some (.mut acc),x4,x5]=.next [c',x1,#[.int b],some (.mut (acc++(digs b n c).map .int)),x4',x5] M
 |0,k,c,x1,acc,x4,x5,_=>⟨#[.int c],x4,by simp[dY,digs]⟩
 |n+1,k,c,x1,acc,x4,x5,hl=>by
  let⟨c',x4',ih⟩:=aaU M b hb hb2 n (k+1) (c/b) x1 (acc++[.int (c%b)]) #[.int k] x5 (by simp;omega)
  refine⟨c',x4',?_⟩;have h1:decide (CDiv c b)=true:=decide_eq_true ⟨hb,hb2⟩;have hl:acc.length<100000:=#[];rw[List.range'_succ,List.map_cons,eE (Z1:=[#[.int c],x1,#[.int b],some (.mut acc),#[.int k],x5]) (by simp) (Z2:=[#[.int (c/b)],x1,#[.int b],some (.mut (acc++[.int (c%b)])),#[.int k],x5]) (M2:=M) (by simp[Xy,h1,hb,hl])];rw[ih];simp[digs]
theorem adQ(M:Mo)(b:Int)(hb:0<b):∀(n k:Nat) (t:Int) (x0 x1:Option Cell) (acc:List Dat) (x4:Option Cell),acc.length+n<100000->∃x4' x5',dY (ao 4) Xe ((List.range' k n).map λ(i:Nat)=>PyData.int (i:Int)) M [x0,x1,#[.int b],some (.mut acc),x4,#[.int t]]=.next [x0,x1,#[.int b],some (.mut (acc++(R6 b n k t).map .int)),x4',x5'] M
 |0,k,t,x0,x1,acc,x4,_=>⟨x4,#[.int t],by simp[dY,R6]⟩
 |n+1,k,t,x0,x1,acc,x4,hl=>by
  let⟨x4',x5',ih⟩:=adQ M b hb n (k+1) ((t*48271+9973*k+11)%2147483647) x0 x1 (acc++[.int ((t*48271+9973*k+11)%2147483647/1021%b)]) #[.int k] (by simp;omega)
  refine⟨x4',x5',?_⟩;have h1:decide (CMul t 48271)=true:=mul_r #[()];have h2:decide (CMul 9973 (k:Int))=true:=ajI #[()];have h3:∀x,decide (CDiv x 1021)=true:=λx=>decide_eq_true ⟨#[()],#[()]⟩;have hl:acc.length<100000:=#[];rw[List.range'_succ,List.map_cons,eE (Z1:=[x0,x1,#[.int b],some (.mut acc),#[.int k],#[.int t]]) (by simp) (Z2:=[x0,x1,#[.int b],some (.mut (acc++[.int ((t*48271+9973*k+11)%2147483647/1021%b)])),#[.int k],#[.int ((t*48271+9973*k+11)%2147483647)]]) (M2:=M) (by simp[Xe,h1,h2,h3,hb,hl])];rw[ih];simp[R6]
def Vn(n:Nat):jC 0 n=(List.range' 0 n).map λ(i:Nat)=>PyData.int (i:Int):=by unfold jC;rw[List.range_eq_range'];simp
def Wc(M:Mo)(c:Int)(n:Nat)(b:Int)(hb:0<b)(hb2:b<1073741824)(hn:n<=1000):ug M [.int c,.int n,.int b]=.ok (lI (rowOf c n b)):=by
 unfold ug aeM;have hp:decide (CPow 10 18)=true:=decide_eq_true ⟨#[()],#[()],#[()]⟩;have hn1:(n:Int)<=100000:=#[];have hn2 : -100000<=(n:Int):=#[];have hm:∀x,decide (CMul x 69621)=true:=λx=>mul_r #[()];have ea:(if c<0 then -c else c)=Dk c:=rfl;by_cases h:10^18<=Dk c
 .let⟨c',x4',e⟩:=aaU M b hb hb2 n 0 (Dk c) #[.int n] [] none none (by simp;omega)
  have e2:rowOf c n b=digs b n (Dk c):=awS h;have h':(1000000000000000000:Int)<=Dk c:=by simpa using h
  simp[hp,ea,h',hn1,hn2,Vn,e,e2]
 .let⟨x4',x5',e⟩:=adQ M b hb n 0 ((Dk c%1000003+17)*69621%2147483647) #[.int (Dk c)] #[.int n] [] none (by simp;omega)
  have e2:rowOf c n b=R6 b n 0 ((Dk c%1000003+17)*69621%2147483647):=awT h;have h':¬(1000000000000000000:Int)<=Dk c:=by simpa using h
  have e':=e;simp[hp,ea,h',hn1,hn2,hm,Vn]at e |-
  rw[e];simp[e2]
def Uv(i j:Int):Int:=if j>i then j else i
def BR(l:ListInt)(m:Int):ListInt:=if m%4=1 then l.map λf=>Uv 0 (f-7) else if m%4=2 then l.map λf=>f%3 else l
def Zw(M:Mo)(l:ListInt)(m:Int)(hl:l.length<=1000):v8 M [lI l,.int m]=.ok (aG (BR l m)):=by
 unfold v8 SN;have hl':l.length<=50000:=#[];have c1:=fj (tg:=ao 2) (te:=aH qU #[0] (aH kh (2) #[7])) (M:=M) (Z:=[#[lI l],#[.int m],none]) PyData.int (λf=>.int (Uv 0 (f-7))) l λx _=>⟨_,rfl,by simp[Uv]⟩;have c2:=fj (tg:=ao 2) (te:=aH lu (2) #[3]) (M:=M) (Z:=[#[lI l],#[.int m],none]) PyData.int (λf=>.int (f%3)) l λx _=>⟨_,rfl,by simp⟩;by_cases h1:m%4=1
 .simp[h1,hl',c1,BR,avY]
 .by_cases h2:m%4=2
  .simp[h2,hl',c2,BR,avY]
  .simp[h1,h2,BR]
def Mp(c:Int):ListInt:=BR ((rowOf c 7 10).take 6) ((rowOf c 7 10).getD 6 0)
def ah9{α:Type}(l:List α)(n:Nat):Rf.cutD l none (some (n:Int))=l.take n:=by unfold Rf.cutD;rw[HT.sIx_nat];simp[HT.sIx]
def acf{α:Type}(l:List α)(n:Nat):Rf.cutD l (some (n:Int)) none=l.drop n:=by
 unfold Rf.cutD;rw[HT.sIx_nat];simp[HT.sIx];by_cases h:n<=l.length
 .rw[Nat.min_eq_left h];exact List.take_of_length_le (by simp)
 .rw[Nat.min_eq_right #[],List.drop_eq_nil_of_le #[],List.drop_eq_nil_of_le #[]];simp
def abk(l:ListInt)(n:Nat)(h:n<l.length):atI (l.map PyData.int) (n:Int)=some (.int (l.getD n 0)):=atI_nat (by simp[h])
def ahD(M:Mo)(c:Int):LR M [.int c]=.ok (aG (Mp c)):=by
 unfold LR afu;have h1:ug M [.int c,.int 7,.int 10]=.ok (.list ((rowOf c 7 10).map .int)):=Wc M c 7 10 #[()] #[()] #[()];have h2:Rf.cutD ((rowOf c 7 10).map PyData.int) none (some 6)=((rowOf c 7 10).take 6).map PyData.int:=by rw[show(6:Int)=((6:Nat):Int) from rfl,ah9,List.map_take]
 have h3:atI ((rowOf c 7 10).map PyData.int) 6=some (.int ((rowOf c 7 10).getD 6 0)):=abk _ 6 (by simp);have h4:v8 M [.list (((rowOf c 7 10).take 6).map .int),.int ((rowOf c 7 10).getD 6 0)]=.ok (.tuple ((Mp c).map .int)):=Zw M _ _ (by simp);generalize (rowOf c 7 10).getD 6 0=z at h3 h4;generalize ((rowOf c 7 10).take 6).map PyData.int=y at h2 h4;simp[h1,h2,h3,h4]
def QC(c:Int):(Mp c).length=6:=by
 unfold Mp BR;split
 .simp
 .split<;>simp
def ahZ{l:ListInt}{m:Int}(h:∀x∈l,0<=x/\x<10):∀x∈BR l m,0<=x/\x<10:=by
 unfold BR Uv;split
 .intro x hx;let⟨y,hy,rfl⟩:=avM.mp hx
  have:=h y hy
  split<;>omega
 .split
  .intro x hx;let⟨y,hy,rfl⟩:=avM.mp hx
   have:=h y hy;omega
  .exact h
mutual
def lk:Nat->Dat->Bool
 |_,.none=>true
 |_,.bool _=>true
 |_,.int _=>true
 |_,.str _=>true
 |n+1,.list ds=>oW n ds
 |n+1,.tuple ds=>oW n ds
 |0,.list _=>false
 |0,.tuple _=>false
 |_,.dict _=>false
def oW:Nat->List Dat->Bool
 |_,[]=>true
 |n,d::ds=>lk n d&&oW n ds
end
theorem uO{n:Nat}:∀{ds:List Dat},oW n ds=true↔∀d∈ds,lk n d=true
 |[]=>by simp[oW]
 |d::ds=>by simp[oW,uO (ds:=ds)]
@[simp]def ahV (n:Nat) (l:ListInt):oW n (l.map PyData.int)=true:=uO.mpr λd h=>by
 let⟨i,_,rfl⟩:=avM.mp h
 simp[lk]
def Yy(M:Mo)(i:Int):Ka M [.int i]=.ok (.bool true):=by unfold Ka XR;simp[Ar,Di]
def zip_self(ds:List Dat):zQ ds ds=ds.map λd=>.tuple [d,d]:=by unfold zQ;rw[List.zipWith_self]
theorem Pu(M:Mo)(r:Mo->List Dat->Out Dat)(x0 x1:Option Cell):∀(ds:List Dat) (x2 x3:Option Cell),(∀d∈ds,r M [d,d]=.ok (.bool true))->∃x2' x3',dY (aV [2,3]) (TX r) (ds.map λd=>PyData.tuple [d,d]) M [x0,x1,x2,x3]=.next [x0,x1,x2',x3'] M
 |[],x2,x3,_=>⟨x2,x3,rfl⟩
 |d::ds,x2,x3,h=>by
  let⟨x2',x3',ih⟩:=Pu M r x0 x1 ds #[d] #[d] λd hd=>h d (avG _ hd)
  refine⟨x2',x3',?_⟩;have hd:=h d avI;rw[List.map_cons,eE (Z1:=[x0,x1,#[d],#[d]]) (by simp) (Z2:=[x0,x1,#[d],#[d]]) (M2:=M) (by simp[TX,hd])];exact ih
def adF(M:Mo):∀(n:Nat) (d:Dat),lk n d=true->nu (n+1) M [d,d]=.ok (.bool true):=by
 intro n
 induction n with
 |zero=>
  intro d h;show mQ 4 (JK (nu 0)) M [d,d]=_;unfold JK;cases d with
  |none=>simp[iy]
  |bool b=>cases b<;>simp[iy]
  |int i=>simp[iy,Ar,Di,Yy]
  |str x=>simp[iy,Ar,Di]
  |list ds=>simp[lk]at h
  |tuple ds=>simp[lk]at h
  |dict kv=>simp[lk]at h
 |succ n ih=>
  intro d h;show mQ 4 (JK (nu (n+1))) M [d,d]=_;unfold JK;cases d with
  |none=>simp[iy]
  |bool b=>cases b<;>simp[iy]
  |int i=>simp[iy,Ar,Di,Yy]
  |str x=>simp[iy,Ar,Di]
  |list ds=>
   rw[lk,uO]at h;let⟨x2',x3',e⟩:=Pu M (nu (n+1)) #[.list ds] #[.list ds] ds none none λd hd=>ih d (h d hd)
   simp[iy,Ar,Di,zip_self,e]
  |tuple ds=>
   rw[lk,uO]at h;let⟨x2',x3',e⟩:=Pu M (nu (n+1)) #[.tuple ds] #[.tuple ds] ds none none λd hd=>ih d (h d hd)
   simp[iy,Ar,Di,zip_self,e]
  |dict kv=>simp[lk]at h
inductive En where
 |torn (p:Nat)|cut (e:ListInt)|sold (o:Int) (e:ListInt)|moved (g:Int)|followed (o g:Int)|passed (o:Int)|died
def En.dat:En->Dat
 |.torn p=>.tuple [.str "torn",.int p]
 |.cut e=>.tuple [.str "cut",aG e]
 |.sold o e=>.tuple [.str "sold",.int o,aG e]
 |.moved g=>.tuple [.str "moved",.int g]
 |.followed o g=>.tuple [.str "followed",.int o,.int g]
 |.passed o=>.tuple [.str "passed",.int o]
 |.died=>.tuple [.str "died"]
inductive Fi where
 |brought (o g:Int) (e:ListInt)|born (m o g:Int)
def Fi.dat:Fi->Dat
 |.brought o g e=>.tuple [.str "brought",.int o,.int g,aG e]
 |.born m o g=>.tuple [.str "born",.int m,.int o,.int g]
structure Sd where
 o:Int
 g:Int
 due:Option ListInt
 ear:ListInt
 al:Bool
def j9:Option ListInt->Dat
 |none=>.none
 |some e=>aG e
def Sd.dat(s:Sd):Dat:=.tuple [.int s.o,.int s.g,j9 s.due,aG s.ear,.bool s.al]
def yQ(l:ListInt)(p:Nat):ListInt:=l.mapIdx λi x=>if i=p then x+1 else x
def go(s:Sd):En->Sd
 |.torn p=>{ s with ear:=yQ s.ear p }
 |.cut e=>{ s with due:=some e,ear:=e }
 |.sold o e=>{ s with o:=o,due:=some e,ear:=e }
 |.moved g=>{ s with g:=g }
 |.followed o g=>{ s with o:=o,g:=g }
 |.passed o=>{ s with o:=o }
 |.died=>{ s with al:=false }
def beg:Fi->Sd
 |.brought o g e=>⟨o,g,none,e,true⟩
 |.born _ o g=>⟨o,g,none,[0,0,0,0,0,0],true⟩
def aju(M:Mo)(f:Fi):Ey M [f.dat]=.ok (beg f).dat:=by cases f<;>simp[Ey,Rv,Fi.dat,beg,Sd.dat,j9,jT]
def acB(M:Mo)(l:ListInt)(p:Nat)(hl:l.length<=1000):zW M [aG l,.int p]=.ok (aG (yQ l p)):=by
 unfold zW Lk;have c:qR 0 (l.map PyData.int)=(l.mapIdx λi x=>(i,x)).map λ(q:Nat×Int)=>PyData.tuple [.int q.1,.int q.2]:=by unfold qR;rw[List.mapIdx_eq_mapIdx_iff.mpr (λi h=>rfl)];apply av6;intro i;simp;cases l[i]?<;>simp
 have c2:=fj (tg:=aV [2,3]) (te:=Qa #[(2)=(1)] (aH eU (3) #[1]) (3:)) (M:=M) (Z:=[#[aG l],#[.int p],none,none]) (λ(q:Nat×Int)=>PyData.tuple [.int q.1,.int q.2]) (λq=>.int (if q.1=p then q.2+1 else q.2)) (l.mapIdx λi x=>(i,x)) λx _=>⟨[#[aG l],#[.int p],#[.int x.1],#[.int x.2]],by simp,by
  by_cases h:x.1=p
  .simp[h]
  .have h':¬((x.1:Int)=p):=#[];simp[h,h']⟩
 have hl':l.length<=50000:=#[];simp[c,c2,hl',yQ];apply av6;intro i;simp;cases l[i]?<;>simp
def aeE(l:ListInt)(p:Nat):(yQ l p).length=l.length:=by simp[yQ]
def gone_ok(M:Mo)(s:Sd)(e:En)(hl:s.ear.length<=1000):CW M [s.dat,e.dat]=.ok (go s e).dat:=by have h:=λp=>acB M s.ear p hl;cases e<;>simp[CW,Qo,En.dat,go,Sd.dat,j9,h]
abbrev Row3:=Int×Int×ListInt
def iz(r:Row3):Dat:=.tuple [.int r.1,.int r.2.1,aG r.2.2]
structure bZ where
 fi:Fi
 en:List En
 mo:Int
 sd:Sd
structure aF where
 count:Int
 own:ListInt
 al:ListInt
 ci:List ListInt
 held:List Row3
 bs:List bZ
structure Lay where
 c:Nat
 g:Nat
 r:Nat
 h:Nat
 bs:List Nat
 fr:List (Nat×Inst)
def aC(L:Lay)(c:aF):Inst:=⟨"Commons",[("owner_count",.dat (.int c.count)),("holders",.dic false (c.own.map λo=>(.int o,.bool true))),("grounds",.dat (ob L.g)),("rights",.dat (ob L.r)),("herd",.dat (ob L.h))]⟩
def dh(n m:Nat)(c:aF):Inst:=⟨"Grounds",[("allowances",.lst n (c.al.map PyData.int)),("circles",.lst m (c.ci.map aG))]⟩
def pF(c:aF):Inst:=⟨"Rights",[("held",.dic true (c.held.map λr=>(iz r,.bool true)))]⟩
def cO(n:Nat)(L:Lay):Inst:=⟨"Herd",[("beasts",.lst n (L.bs.map ob))]⟩
def iB(n:Nat)(b:bZ):Inst:=⟨"Beast",[("story",.lst n (b.fi.dat::b.en.map En.dat)),("mother",.dat (.int b.mo)),("owner",.dat (.int b.sd.o)),("ground",.dat (.int b.sd.g)),("due",.dat (j9 b.sd.due)),("ear",.dat (aG b.sd.ear)),("alive",.dat (.bool b.sd.al))]⟩
structure At(M:Mo)(L:Lay)(c:aF):Prop where
 hc:M[L.c]?=some (aC L c)
 hg:∃n m,M[L.g]?=some (dh n m c)
 hr:M[L.r]?=some (pF c)
 hh:∃n,M[L.h]?=some (cO n L)
 len:L.bs.length=c.bs.length
 hb:∀(i h:Nat) (b:bZ),L.bs[i]?=some h->c.bs[i]?=some b->∃n,M[h]?=some (iB n b)
 nd:(L.c::L.g::L.r::L.h::L.bs).Nodup
 fr:∀p∈L.fr,M[p.1]?=some p.2/\p.1∉L.c::L.g::L.r::L.h::L.bs
section
variable{M:Mo}{L:Lay}{c:aF}(a:At M L c)
include a
theorem ado:rN M [ob L.g]=.ok (.int c.al.length):=by
 let⟨n,m,hg⟩:=a.hg
 simp[rN,wN,hg,dh]
theorem ao2(g:Int):xX M [ob L.g,.int g]=.ok (.bool (decide (1<=g/\g<=c.al.length))):=by
 let⟨n,m,hg⟩:=a.hg
 have:=ado a;by_cases h:1<=g<;>simp[xX,Dy,hg,dh,this,fP,h]
end
@[simp]def aif {α:Type} (l:List α) (n:Nat):atI l (n:Int)=l[n]?:=by
 cases h:l[n]? with
 |some a=>exact atI_nat h
 |none=>
  have hl:=List.getElem?_eq_none_iff.mp h;unfold atI ixN;rw[awS #[],awT #[]];rfl
abbrev Vg(c:aF)(x:Int):Prop:=1<=x/\x<=c.al.length
def CG{c:aF}{x:Int}(h:Vg c x):∃k:Nat,k<c.al.length/\x=(k:Int)+1:=⟨(x-1).toNat,#[],#[]⟩
structure cU(c:aF):Prop where
 len:c.ci.length=c.al.length
 few:c.al.length<=200
 al:∀x∈c.al,0<=x/\x<=9
 mem:∀(k:Nat) (l:ListInt),c.ci[k]?=some l->∀y∈l,Vg c y
 own:∀(k:Nat) (l:ListInt),c.ci[k]?=some l->(k:Int)+1∈l
 up:∀(k:Nat) (l:ListInt),c.ci[k]?=some l->l.Pairwise (· < ·)
 one:∀(k j:Nat) (l:ListInt),c.ci[k]?=some l->(j:Int)+1∈l->c.ci[j]?=some l
def aZ(c:aF)(x:Int):ListInt:=(c.ci[(x-1).toNat]?).getD []
def Mu(c:aF)(x:Int):Int:=(c.al[(x-1).toNat]?).getD 0
def al2:ListInt->Int
 |[]=>0
 |n::ns=>Jh n ns
def roomOf(c:aF)(x:Int):Int:=al2 ((aZ c x).map (Mu c))
theorem agJ:∀{l:ListInt} {lo hi:Int},l.Pairwise (· < ·)->(∀y∈l,lo<=y/\y<=hi)->(l.length:Int)<=max 0 (hi-lo+1)
 |[],_,_,_,_=>by simp;omega
 |x::l,lo,hi,h,hb=>by
  rw[List.pairwise_cons]at h;have:=agJ (lo:=x+1) (hi:=hi) h.2 λy hy=>⟨by have:=h.1 y hy;omega,(hb y (avG _ hy)).2⟩;have:=hb x avI;simp;omega
def maxD_ints{l:ListInt}(h:l≠[]):maxD (.list (l.map PyData.int))=.ok (.int (al2 l)):=by
 cases l with
 |nil=>exact absurd rfl h
 |cons n ns=>
  show(match intsOf ((n::ns).map PyData.int) with
   |some (n::ns)=>Out.ok (PyData.int (Jh n ns))
   |_=>Out.bad)=_
  rw[El];rfl
def cU.clen{c:aF}(i:cU c){k:Nat}{l:ListInt}(h:c.ci[k]?=some l):l.length<=200:=by have:=agJ (lo:=1) (hi:=c.al.length) (i.up k l h) λy hy=>i.mem k l h y hy;have:=i.few;omega
section
variable{M:Mo}{L:Lay}{c:aF}(a:At M L c)
include a
theorem yJ(x:Int):wO M [ob L.g,.int x]=if Vg c x then .ok .none else .exc ⟨"NoGround",[]⟩:=by
 let⟨n,m,hg⟩:=a.hg
 have:=ao2 a x;by_cases h:Vg c x<;>simp[wO,Bp,hg,dh,this,Bo,h]
theorem Od(x:Int):kW M [ob L.g,.int x]=if Vg c x then .ok (.int (Mu c x)) else .exc ⟨"NoGround",[]⟩:=by
 let⟨n,m,hg⟩:=a.hg
 have hn:=yJ a x;by_cases h:Vg c x
 .let⟨k,hk,rfl⟩:=CG h
  rw[awS h]at hn |-
  simp[kW,pC,hg,dh,hn,au,Mu,hk]
 .rw[awT h]at hn |-
  simp[kW,pC,hg,dh,hn,au]
theorem xM(i:cU c)(x:Int):lY M [ob L.g,.int x]=if Vg c x then .ok (lI (aZ c x)) else .exc ⟨"NoGround",[]⟩:=by
 let⟨n,m,hg⟩:=a.hg
 have hn:=yJ a x;by_cases h:Vg c x
 .let⟨k,hk,rfl⟩:=CG h
  have hk':k<c.ci.length:=by rw[i.len];exact hk
  rw[awS h]at hn |-
  simp[lY,qj,hg,dh,hn,au,aZ,hk']
 .rw[awT h]at hn |-
  simp[lY,qj,hg,dh,hn,au]
theorem akd(i:cU c)(x:Int):sG M [ob L.g,.int x]=if Vg c x then .ok (.int (roomOf c x)) else .exc ⟨"NoGround",[]⟩:=by
 let⟨n,m,hg⟩:=a.hg
 have hn:=xM a i x;by_cases h:Vg c x
 .rw[awS h]at hn |-
  let⟨k,hk,rfl⟩:=CG h
  have hk':k<c.ci.length:=by rw[i.len];exact hk
  have hc:c.ci[k]?=some (aZ c ((k:Int)+1)):=by simp[aZ,hk']
  unfold roomOf;generalize aZ c ((k:Int)+1)=l at hc hn |-
  have hl:l.length<=50000:=by have:=i.clen hc;omega
  have hne:l.map (Mu c)≠[]:=λz=>by
   have:=i.own k l hc;rw[List.map_eq_nil_iff.mp z]at this;cases this
  have key:=fj (tg:=ao 2) (te:=aJ dZ (0) #[(2:),]) (M:=M) (Z:=[#[ob L.g],#[.int ((k:Int)+1)],none]) PyData.int (λy=>.int (Mu c y)) l λy hy=>⟨[#[ob L.g],#[.int ((k:Int)+1)],#[.int y]],by simp,by
   have:=Od a y;rw[awS (i.mem k l hc y hy)]at this;simp[hg,dh,dZ,this]⟩
  simp[sG,wJ,hg,dh,hn,bx,key,hl];have:=maxD_ints hne;rw[avZ]at this;simp[avY]at this |-
  simp[this]
 .rw[awT h]at hn |-
  simp[sG,wJ,hg,dh,hn,bx]
end
def bB{M:Mo}{h k:Nat}{i j:Inst}(hm:M[h]?=some j):(M.set h i)[k]?=if h=k then some i else M[k]?:=by
 have hl:h<M.length:=(avH.mp hm).1;rw[awu];by_cases e:h=k
 .subst e;rw[awS rfl,awS hl,awS rfl]
 .rw[awT e,awT e]
def At.neq{M:Mo}{L:Lay}{c:aF}(a:At M L c):L.c≠L.g/\L.c≠L.r/\L.c≠L.h/\L.g≠L.r/\L.g≠L.h/\L.r≠L.h/\(∀x∈L.bs,L.c≠x/\L.g≠x/\L.r≠x/\L.h≠x)/\L.bs.Nodup:=by
 have nd:=a.nd;simp![awK,avP,not_or]at nd;let⟨⟨n1,n2,n3,n4⟩,⟨n5,n6,n7⟩,⟨n8,n9⟩,n10,n11⟩:=nd
 exact⟨n1,n2,n3,n5,n6,n8,λx hx=>⟨λz=>n4 (z ▸ hx),λz=>n7 (z ▸ hx),λz=>n9 (z ▸ hx),λz=>n10 (z ▸ hx)⟩,n11⟩
def At.frS{M:Mo}{L:Lay}{c:aF}(a:At M L c){h:Nat}{i j:Inst}(hm:M[h]?=some j)(hh:h∈L.c::L.g::L.r::L.h::L.bs):∀p∈L.fr,(M.set h i)[p.1]?=some p.2/\p.1∉L.c::L.g::L.r::L.h::L.bs:=λp hp=>by
 let⟨h1,h2⟩:=a.fr p hp
 refine⟨?_,h2⟩;rw[bB hm,awT (λ(z:h=p.1)=>h2 (z ▸ hh))];exact h1
def At.setG{M:Mo}{L:Lay}{c:aF}(a:At M L c){al:ListInt}{ci:List ListInt}{n m:Nat}:At (M.set L.g (dh n m { c with al:=al,ci:=ci })) L { c with al:=al,ci:=ci }:=by
 let⟨n',m',hg⟩:=a.hg
 let⟨e1,e2,e3,e4,e5,e6,e7,e8⟩:=a.neq
 have e1':=Ne.symm e1;refine⟨?_,⟨n,m,?_⟩,?_,?_,a.len,λi h b h1 h2=>?_,a.nd,a.frS hg (by simp)⟩
 .rw[bB hg,awT e1'];exact a.hc
 .rw[bB hg,awS rfl]
 .rw[bB hg,awT e4];exact a.hr
 .rw[bB hg,awT e5];exact a.hh
 .rw[bB hg,awT (e7 h (avK h1)).2.1];exact a.hb i h b h1 h2
def At.ahR{M:Mo}{L:Lay}{c:aF}(a:At M L c){held:List Row3}:At (M.set L.r (pF { c with held:=held })) L { c with held:=held }:=by
 let⟨e1,e2,e3,e4,e5,e6,e7,e8⟩:=a.neq
 have e2':=Ne.symm e2;have e4':=Ne.symm e4;have hr:=a.hr;refine⟨?_,?_,?_,?_,a.len,λi h b h1 h2=>?_,a.nd,a.frS hr (by simp)⟩
 .rw[bB hr,awT e2'];exact a.hc
 .rw[bB hr,awT e4'];exact a.hg
 .rw[bB hr,awS rfl]
 .rw[bB hr,awT e6];exact a.hh
 .rw[bB hr,awT (e7 h (avK h1)).2.2.1];exact a.hb i h b h1 h2
def At.setC{M:Mo}{L:Lay}{c:aF}(a:At M L c){n:Int}{own:ListInt}:At (M.set L.c (aC L { c with count:=n,own:=own })) L { c with count:=n,own:=own }:=by
 let⟨e1,e2,e3,e4,e5,e6,e7,e8⟩:=a.neq
 have hc:=a.hc;refine⟨?_,?_,?_,?_,a.len,λi h b h1 h2=>?_,a.nd,a.frS hc (by simp)⟩
 .rw[bB hc,awS rfl]
 .rw[bB hc,awT e1];exact a.hg
 .rw[bB hc,awT e2];exact a.hr
 .rw[bB hc,awT e3];exact a.hh
 .rw[bB hc,awT (e7 h (avK h1)).1];exact a.hb i h b h1 h2
def At.setB{M:Mo}{L:Lay}{c:aF}(a:At M L c){k h n:Nat}{b':bZ}(hk:L.bs[k]?=some h):At (M.set h (iB n b')) L { c with bs:=c.bs.set k b' }:=by
 let⟨e1,e2,e3,e4,e5,e6,e7,e8⟩:=a.neq
 have hl:k<c.bs.length:=by rw[<-a.len];exact(avH.mp hk).1
 let⟨n0,hb⟩:=a.hb k h _ hk (avE hl)
 let⟨q1,q2,q3,q4⟩:=e7 h (avK hk)
 refine⟨?_,?_,?_,?_,by simp[a.len],λi h2 b h3 h4=>?_,a.nd,a.frS hb (by simp[avK hk])⟩
 .rw[bB hb,awT (Ne.symm q1)];exact a.hc
 .rw[bB hb,awT (Ne.symm q2)];exact a.hg
 .rw[bB hb,awT (Ne.symm q3)];exact a.hr
 .rw[bB hb,awT (Ne.symm q4)];exact a.hh
 .by_cases e:i=k
  .subst e;rw[hk]at h3;cases h3;have h4:(c.bs.set i b')[i]?=some b:=h4;rw[avV hl]at h4;cases h4;exact⟨n,by rw[bB hb,awS rfl]⟩
  .have h4:(c.bs.set k b')[i]?=some b:=h4;rw[avL (Ne.symm e)]at h4;have ne:h≠h2:=λz=>by
    subst z;exact e ((List.getElem?_inj (avH.mp h3).1 e8).mp (h3.trans hk.symm))
   rw[bB hb,awT ne];exact a.hb i h2 b h3 h4
def At.aqY{M:Mo}{L:Lay}{c:aF}(a:At M L c){M2:Mo}{h n n2:Nat}{b:bZ}(hh:M.length<=h)(hM:∀k,k<M.length->M2[k]?=M[k]?)(hb:M2[h]?=some (iB n b)):At (M2.set L.h (cO n2 { L with bs:=L.bs++[h] })) { L with bs:=L.bs++[h] } { c with bs:=c.bs++[b] }:=by
 let⟨e1,e2,e3,e4,e5,e6,e7,e8⟩:=a.neq
 have lt:∀{k:Nat} {i:Inst},M[k]?=some i->k<M.length:=λz=>(avH.mp z).1;let⟨n0,m0,hg⟩:=a.hg
 let⟨n1,hh1⟩:=a.hh
 have l1:=lt a.hc;have l2:=lt hg;have l3:=lt a.hr;have l4:=lt hh1;have lb:∀x∈L.bs,x<M.length:=λx hx=>by
  let⟨i,hi,e⟩:=List.mem_iff_getElem.mp hx
  let⟨n',z⟩:=a.hb i x _ (by rw[avE hi,e]) (avE (by rw[<-a.len];exact hi))
  exact lt z
 have g4:M2[L.h]?=some (cO n1 L):=by rw[hM _ l4];exact hh1
 refine⟨?_,⟨n0,m0,?_⟩,?_,⟨n2,?_⟩,by simp[a.len],λi h2 b2 h3 h4=>?_,?_,λp hp=>?_⟩
 .show(M2.set L.h _)[L.c]?=_
  rw[bB g4,awT (Ne.symm e3),hM _ l1];exact a.hc
 .show(M2.set L.h _)[L.g]?=_
  rw[bB g4,awT (Ne.symm e5),hM _ l2];exact hg
 .show(M2.set L.h _)[L.r]?=_
  rw[bB g4,awT (Ne.symm e6),hM _ l3];exact a.hr
 .show(M2.set L.h _)[L.h]?=_
  rw[bB g4,awS rfl]
 .have h3:(L.bs++[h])[i]?=some h2:=h3;have h4:(c.bs++[b])[i]?=some b2:=h4;by_cases hi:i<L.bs.length
  .rw[avS hi]at h3;rw[avS (by rw[<-a.len];exact hi)]at h4;have m:=avK h3;rw[bB g4,awT (e7 h2 m).2.2.2,hM _ (lb h2 m)];exact a.hb i h2 b2 h3 h4
  .rw[avX #[]]at h3;rw[avX (by rw[<-a.len];omega),<-a.len]at h4;have e0:i-L.bs.length=0:=by
    have:=(avH.mp h3).1;simp at this;omega
   rw[e0]at h3 h4;cases h3;cases h4;exact⟨n,by rw[bB g4,awT #[]];exact hb⟩
 .have nd:=a.nd
  show(L.c::L.g::L.r::L.h::(L.bs++[h])).Nodup
  have:(L.c::L.g::L.r::L.h::(L.bs++[h]))=(L.c::L.g::L.r::L.h::L.bs)++[h]:=by simp
  rw[this,awl];refine⟨nd,by simp,λx hx y hy=>?_⟩;rw[avJ.mp hy];rcases avP.mp hx with rfl|hx
  .omega
  rcases avP.mp hx with rfl|hx
  .omega
  rcases avP.mp hx with rfl|hx
  .omega
  rcases avP.mp hx with rfl|hx
  .omega
  have:=lb x hx;omega
 .let⟨h1,h2⟩:=a.fr p hp
  have hl:=lt h1;refine⟨?_,?_⟩
  .show(M2.set L.h _)[p.1]?=_
   rw[bB g4,awT (λ(z:L.h=p.1)=>h2 (by simp[<-z])),hM _ hl];exact h1
  .show p.1∉L.c::L.g::L.r::L.h::(L.bs++[h]);intro z;have:p.1∈(L.c::L.g::L.r::L.h::L.bs)++[h]:=by simpa using z
   rcases avR.mp this with z|z
   .exact h2 z
   .rw[avJ]at z;omega
section
variable{M:Mo}{L:Lay}{c:aF}(a:At M L c)
include a
theorem Z9(i:cU c)(hf:c.al.length<200)(x:Int):if 0<=x/\x<=9 then ∃M',fY M [ob L.g,.int x]=.ok (.int (c.al.length+1)) M'/\At M' L { c with al:=c.al++[x],ci:=c.ci++[[(c.al.length:Int)+1]] } else fY M [ob L.g,.int x]=.exc ⟨"BadAllowance",[]⟩ M:=by
 let⟨n,m,hg⟩:=a.hg
 have hl:∀i,(M.set L.g i)[L.g]?=some i:=λi=>by rw[bB hg,awS rfl]
 by_cases h:0<=x/\x<=9
 .rw[awS h];refine⟨_,?_,a.setG (n:=n) (m:=m)⟩;have h2:c.ci.length<100000:=by rw[i.len];omega
  have h3:c.al.length<100000:=#[];simp[fY,jQ,rN,wN,fP,hg,dh,hl,h,iK,h2,h3];rfl
 .rw[awT h];have:decide (0<=x)=true->decide (x<=9)=false:=by simp;omega
  by_cases h0:0<=x
  .have h9:¬x<=9:=#[];simp[fY,jQ,iK,h0,h9]
  .simp[fY,jQ,iK,h0]
end
def encl(ci:List ListInt)(l:ListInt):List ListInt:=l.foldl (λs y=>s.set (y-1).toNat l) ci
theorem Bs(l:ListInt):∀(k:ListInt) (ci:List ListInt),(k.foldl (λs y=>s.set (y-1).toNat l) ci).length=ci.length
 |[],_=>rfl
 |y::k,ci=>by rw[awc,Bs l k];simp
@[simp]def arz (n k:Nat):ixN n (k:Int)=if k<n then some k else none:=by
 unfold ixN;rw[awS #[]];by_cases h:k<n
 .rw[awS #[],awS h];simp
 .rw[awT #[],awT h]
section
variable{M:Mo}{L:Lay}{c:aF}{n m:Nat}(hg:M[L.g]?=some (dh n m c))
include hg
theorem Y9(l:ListInt):∀(k:ListInt) (s:List ListInt) (o:Option Cell),(∀y∈k,1<=y/\y<=s.length)->
  ∃o',dY (ao 3) uV (k.map PyData.int) (M.set L.g (dh n m { c with ci:=s })) [#[ob L.g],#[lI l],#[aG l],o]=.next [#[ob L.g],#[lI l],#[aG l],o'] (M.set L.g (dh n m { c with ci:=k.foldl (λs y=>s.set (y-1).toNat l) s }))
 |[],s,o,_=>⟨o,rfl⟩
 |y::k,s,o,h=>by
  have hl:∀i,(M.set L.g i)[L.g]?=some i:=λi=>by rw[bB hg,awS rfl]
  obtain⟨j,hj,rfl⟩:∃j:Nat,j<s.length/\y=(j:Int)+1:=⟨(y-1).toNat,by have:=h y avI;omega,by have:=h y avI;omega⟩;let⟨o',ih⟩:=Y9 l k (s.set j l) #[.int ((j:Int)+1)] λz hz=>by
   have:=h z (avG _ hz);simpa using this
  refine⟨o',?_⟩;rw[List.map_cons,eE (Z1:=[#[ob L.g],#[lI l],#[aG l],#[.int ((j:Int)+1)]]) (M2:=M.set L.g (dh n m { c with ci:=s.set j l })) (Z2:=[#[ob L.g],#[lI l],#[aG l],#[.int ((j:Int)+1)]]) (by simp) (by simp[uV,hl,dh,hj,List.map_set]),ih];simp
end
def aa3{M:Mo}{h:Nat}{i:Inst}(e:M[h]?=some i):M.set h i=M:=by
 apply av6;intro k;rw[bB e];split
 .next z=>rw[<-z,e]
 .rfl
section
variable{M:Mo}{L:Lay}{c:aF}(a:At M L c)
include a
theorem Lg(l:ListInt)(h:∀y∈l,1<=y/\y<=c.ci.length):∃M',ni M [ob L.g,lI l]=.ok (lI l) M'/\At M' L { c with ci:=encl c.ci l }:=by
 let⟨n,m,hg⟩:=a.hg
 let⟨o',key⟩:=Y9 hg l l c.ci none h
 have e:(dh n m { c with ci:=c.ci })=dh n m c:=rfl;rw[e,aa3 hg]at key;refine⟨_,?_,a.setG (n:=n) (m:=m) (al:=c.al)⟩;simp[ni,wY,key,encl]
end
def any_ints(y:Int)(l:ListInt):((l.map PyData.int).any λd=>PyData.eqv d (.int y))=decide (y∈l):=by
 induction l with
 |nil=>simp
 |cons x l ih=>
  rw[List.map_cons,awz,ih,abl];by_cases h:x=y
  .simp[h]
  .have:¬y=x:=λz=>h z.symm;simp[h,this]
def Kc(neg:Bool)(y:Int)(l:ListInt):inD neg (.int y) (lI l)=.ok (.bool (neg ^^ decide (y∈l))):=by
 show(Out.when (okd 12 (.int y)&&iV 12 (l.map PyData.int)) (.ok ((l.map PyData.int).any λz=>PyData.eqv z (.int y)))).bind _=_
 rw[any_ints,alL,YL];rfl
section
variable{M:Mo}{L:Lay}{c:aF}(a:At M L c)
include a
theorem afe(i:cU c)(x y:Int)(hx:Vg c x)(hy:Vg c y):if y∈aZ c x then jL M [ob L.g,.int x,.int y]=.exc ⟨"Together",[]⟩ M else
  ∃M',jL M [ob L.g,.int x,.int y]=.ok (lI (sortI (aZ c x++aZ c y))) M'/\At M' L { c with ci:=encl c.ci (sortI (aZ c x++aZ c y)) }:=by
 have t1:=xM a i x;have t2:=xM a i y;rw[awS hx]at t1;rw[awS hy]at t2;let⟨n,m,hg⟩:=a.hg
 have hcx:c.ci[(x-1).toNat]?=some (aZ c x):=by
  let⟨k,hk,rfl⟩:=CG hx
  have hk':k<c.ci.length:=by rw[i.len];exact hk
  simp[aZ,hk']
 have hcy:c.ci[(y-1).toNat]?=some (aZ c y):=by
  let⟨k,hk,rfl⟩:=CG hy
  have hk':k<c.ci.length:=by rw[i.len];exact hk
  simp[aZ,hk']
 by_cases h:y∈aZ c x
 .rw[awS h];simp[jL,vC,hg,dh,bx,t1,t2,Kc,h]
 .rw[awT h];have hm:∀z∈sortI (aZ c x++aZ c y),1<=z/\z<=c.ci.length:=λz hz=>by
   unfold sortI at hz;rw[List.mem_mergeSort,avR]at hz;rw[i.len];rcases hz with hz|hz
   .exact i.mem _ _ hcx z hz
   .exact i.mem _ _ hcy z hz
  let⟨M',h1,h2⟩:=Lg a _ hm
  refine⟨M',?_,h2⟩;have l1:=i.clen hcx;have l2:=i.clen hcy;have hs:vA (lI (aZ c x++aZ c y))=.ok (lI (sortI (aZ c x++aZ c y))):=by
   show(match intsOf ((aZ c x++aZ c y).map PyData.int) with
    |some l=>Out.ok (PyData.list ((sortI l).map PyData.int))
    |none=>_)=_
   rw[El]
  have hz:(aZ c x).length+(aZ c y).length<=100000:=#[];have hs:vA (.list ((aZ c x).map PyData.int++(aZ c y).map PyData.int))=.ok (lI (sortI (aZ c x++aZ c y))):=by rw[<-List.map_append];exact hs
  simp[jL,vC,hg,dh,bx,iw,t1,t2,Kc,h,hz,hs,h1]
theorem ago(i:cU c)(x:Int):if Vg c x then(if (aZ c x).filter (λy=>!(y==x))=[] then iT M [ob L.g,.int x]=.exc ⟨"Alone",[]⟩ M else
  ∃M',iT M [ob L.g,.int x]=.ok (lI ((aZ c x).filter (λy=>!(y==x)))) M'/\At M' L { c with ci:=encl (encl c.ci [x]) ((aZ c x).filter (λy=>!(y==x))) }) else iT M [ob L.g,.int x]=.exc ⟨"NoGround",[]⟩ M:=by
 have t1:=xM a i x;let⟨n,m,hg⟩:=a.hg
 by_cases hx:Vg c x
 .rw[awS hx]at t1 |-
  have hcx:c.ci[(x-1).toNat]?=some (aZ c x):=by
   let⟨k,hk,rfl⟩:=CG hx
   have hk':k<c.ci.length:=by rw[i.len];exact hk
   simp[aZ,hk']
  have hl:(aZ c x).length<=50000:=by have:=i.clen hcx;omega
  have key:=fu (tg:=ao 3) (tt:=cV (aH uH (3) (1))) (te:=DG 3) (M:=M) (Z:=[#[ob L.g],#[.int x],none,none]) PyData.int (λy=>!(y==x)) PyData.int (aZ c x) λy _=>⟨[#[ob L.g],#[.int x],none,#[.int y]],by simp,by simp,λ_=>by simp⟩;by_cases he:(aZ c x).filter (λy=>!(y==x))=[]
  .rw[awS he];rw[he]at key;simp![awr]at key;simp[iT,rG,hg,dh,bx,t1,key,hl]
  .rw[awT he];generalize hL:(aZ c x).filter (λy=>!(y==x))=left at he key;have hm:∀z∈left,1<=z/\z<=(encl c.ci [x]).length:=λz hz=>by
    rw[<-hL,av3]at hz;unfold encl;rw[Bs,i.len];exact i.mem _ _ hcx z hz.1
   let⟨M1,h1,a1⟩:=Lg a [x] (λz hz=>by rw[avJ.mp hz,i.len];exact hx)
   let⟨M2,h2,a2⟩:=Lg a1 left hm
   refine⟨M2,?_,a2⟩;let⟨n1,m1,hg1⟩:=a1.hg
   have h1:ni M [ob L.g,.list [.int x]]=.ok (.list [.int x]) M1:=h1;have he':left.isEmpty=false:=by cases left with
    |nil=>exact absurd rfl he
    |cons _ _=>rfl
   simp[iT,rG,hg,hg1,dh,bx,iw,t1,key,hl,h1,h2,he']
 .rw[awT hx]at t1 |-
  simp[iT,rG,hg,dh,bx,t1]
end
def ak0(o g:Int)(m:ListInt)(o' g':Int)(m':ListInt):PyData.eqv (iz (o,g,m)) (iz (o',g',m'))=decide ((o,g,m)=(o',g',m')):=by simp![iz,aco,aeh,abl,Cd,alQ,Bool.and_true];by_cases h1:o=o'<;>by_cases h2:g=g'<;>by_cases h3:m=m'<;>simp[h1,h2,h3]
def agy(r s:Row3):PyData.eqv (iz r) (iz s)=decide (r=s):=ak0 _ _ _ _ _ _
theorem YX:∀l:ListInt,zA (l.map PyData.int)=some (l.map NestedKey.num)
 |[]=>rfl
 |i::l=>by rw[List.map_cons,zA,YX l];rfl
def anw(r:Row3):nM (iz r)=some (.tup [.num r.1,.num r.2.1,.tup (r.2.2.map .num)]):=by simp[iz,nM,zA,YX]
theorem depth_ints:∀l:ListInt,NestedKey.depthAll (l.map NestedKey.num)<=1
 |[]=>by simp[NestedKey.depthAll]
 |i::l=>by
  have:=depth_ints l;simp[NestedKey.depthAll,NestedKey.depth];omega
def XC(kvs:List (Dat×Dat))(r:Row3):dhas true kvs (iz r)=.ok (kvs.any λp=>PyData.eqv p.1 (iz r)):=by
 have hk:=anw r;have hd:NestedKey.depth (.tup [.num r.1,.num r.2.1,.tup (r.2.2.map .num)])<=8:=by have:=depth_ints r.2.2;simp[NestedKey.depth,NestedKey.depthAll];omega
 show(match nM (iz r) with
  |some k=>match decide (k.depth<=8) with
   |true=>Out.ok (kvs.any λp=>PyData.eqv p.1 (iz r))
   |false=>.bad
  |none=>.bad)=_
 rw[hk]
 show(match decide (NestedKey.depth (.tup [.num r.1,.num r.2.1,.tup (r.2.2.map .num)])<=8) with
   |true=>Out.ok (kvs.any λp=>PyData.eqv p.1 (iz r))
   |false=>.bad)=_
 rw[decide_eq_true hd]
def abY(held:List Row3)(r:Row3):((held.map λr=>(iz r,PyData.bool true)).any λp=>PyData.eqv p.1 (iz r))=decide (r∈held):=by
 induction held with
 |nil=>simp
 |cons s held ih=>
  rw[List.map_cons,awz,ih,agy];by_cases h:s=r
  .simp[h]
  .have:¬r=s:=λz=>h z.symm;simp[h,this]
def bM(c:aF)(o g:Int):List ListInt:=(c.held.filter λr=>(r.1==o)&&(r.2.1==g)).map λr=>r.2.2
section
variable{M:Mo}{L:Lay}{c:aF}(a:At M L c)(few:c.held.length<=50000)
include a few
theorem Mq(o g:Int):wL M [ob L.r,.int o,.int g]=.ok (.list ((bM c o g).map aG)):=by
 have hr:=a.hr;have key:=fu (tg:=aV [3,4,5]) (tt:=gA #[(3)=(1)] #[(4)=(2)]) (te:=DG 5) (M:=M) (Z:=[#[ob L.r],#[.int o],#[.int g],none,none,none]) iz (λr=>(r.1==o)&&(r.2.1==g)) (λr=>aG r.2.2) c.held λr _=>⟨[#[ob L.r],#[.int o],#[.int g],#[.int r.1],#[.int r.2.1],#[aG r.2.2]],by simp[iz],by
  by_cases h:r.1=o<;>simp[h],λ_=>by simp⟩
 have e:(c.held.map λr=>(iz r,PyData.bool true)).map (·.1)=c.held.map iz:=by simp
 simp[wL,Bu,hr,pF,bM];simp[avY,key,few]
theorem aa8(o g:Int):pZ M [ob L.r,.int o,.int g]=.ok (.bool (decide (bM c o g≠[]))):=by have hr:=a.hr;have h:=Mq a few o g;simp[pZ,vW,hr,pF,cG,h,List.length_pos_iff]
theorem aaf(near:ListInt):pq M [ob L.r,lI near]=.ok (.list ((c.held.filter λr=>decide (r.2.1∈near)).map λr=>Ear.rD (r.1,r.2.2))):=by have hr:=a.hr;have key:=fu (tg:=aV [2,3,4]) (tt:=cV (aH (inD false) (3) (1))) (te:=aW #[(2:),(4:)]) (M:=M) (Z:=[#[ob L.r],#[lI near],none,none,none]) iz (λr=>decide (r.2.1∈near)) (λr=>Ear.rD (r.1,r.2.2)) c.held λr _=>⟨[#[ob L.r],#[lI near],#[.int r.1],#[.int r.2.1],#[aG r.2.2]],by simp[iz],by simp[Kc],λ_=>by simp[Ear.rD,Ear.dT]⟩;simp[pq,uY,hr,pF];simp[avY,key,few]
theorem acA:qW M [ob L.r]=.ok (.list (c.held.map iz)):=by have hr:=a.hr;simp[qW,wW,hr,pF,avY]
theorem O2(o g:Int)(m:ListInt):if (o,g,m)∈c.held then jH M [ob L.r,.int o,.int g,aG m]=.exc ⟨"HasRight",[]⟩ M else
  ∃M',jH M [ob L.r,.int o,.int g,aG m]=.ok .none M'/\At M' L { c with held:=c.held++[(o,g,m)] }:=by
 have hr:=a.hr;have h1:=XC (c.held.map λr=>(iz r,PyData.bool true)) (o,g,m);rw[abY]at h1;simp![iz]at h1;have f2:c.held.length<100000:=#[];by_cases h:(o,g,m)∈c.held
 .rw[awS h];simp[h]at h1;simp[jH,qp,hr,pF,iz,h1]
 .rw[awT h];refine⟨_,?_,a.ahR⟩;simp[h]at h1;simp[jH,qp,hr,pF,iz,h1,f2]
end
def ahH(held:List Row3)(r:Row3):((held.map λr=>(iz r,PyData.bool true)).filter λp=>!PyData.eqv p.1 (iz r))=(held.filter λs=>decide (s≠r)).map λr=>(iz r,PyData.bool true):=by
 induction held with
 |nil=>rfl
 |cons s held ih=>
  simp![List.map_cons,av9,agy,ih];by_cases h:s=r<;>simp[h]
def aaz(o g:Int)(k:List ListInt)(s:List Row3):List Row3:=k.foldl (λs mk=>s.filter λr=>decide (r≠(o,g,mk))) s
section
variable{M:Mo}{L:Lay}{c:aF}(hr:M[L.r]?=some (pF c))
include hr
theorem ZC(o g:Int)(all:List ListInt):∀(k:List ListInt) (s:List Row3) (x:Option Cell),k.Nodup->(∀mk∈k,(o,g,mk)∈s)->s.length<=50000->
  ∃x',dY (ao 4) yV (k.map aG) (M.set L.r (pF { c with held:=s })) [#[ob L.r],#[.int o],#[.int g],#[.list (all.map aG)],x]=.next [#[ob L.r],#[.int o],#[.int g],#[.list (all.map aG)],x'] (M.set L.r (pF { c with held:=aaz o g k s }))
 |[],s,x,_,_,_=>⟨x,rfl⟩
 |mk::k,s,x,nd,h,hf=>by
  have hl:∀i,(M.set L.r i)[L.r]?=some i:=λi=>by rw[bB hr,awS rfl]
  rw[awK]at nd;have h1:=XC (s.map λr=>(iz r,PyData.bool true)) (o,g,mk);rw[abY,decide_eq_true (h mk avI)]at h1;have h2:=ahH s (o,g,mk);have f2:s.length<=100000:=#[];let⟨x',ih⟩:=ZC o g all k (s.filter λr=>decide (r≠(o,g,mk))) #[aG mk] nd.2 (λz hz=>by
   rw[av3];refine⟨h z (avG _ hz),decide_eq_true λe=>?_⟩;have:z=mk:=by simpa using e
   exact nd.1 (this ▸ hz)) (av2 (avT _ _) hf)
  refine⟨x',?_⟩;rw[List.map_cons,eE (Z1:=[#[ob L.r],#[.int o],#[.int g],#[.list (all.map aG)],#[aG mk]]) (M2:=M.set L.r (pF { c with held:=s.filter λr=>decide (r≠(o,g,mk)) })) (Z2:=[#[ob L.r],#[.int o],#[.int g],#[.list (all.map aG)],#[aG mk]]) (by simp) ?_,ih]
  .rfl
  .have h1':dhas true (s.map λr=>(iz r,PyData.bool true)) (.tuple [.int o,.int g,aG mk])=.ok true:=h1;have h2':((s.map λr=>(iz r,PyData.bool true)).filter λp=>!PyData.eqv p.1 (.tuple [.int o,.int g,aG mk]))=(s.filter λs=>decide (s≠(o,g,mk))).map λr=>(iz r,PyData.bool true):=h2;simp[yV,hl,pF,h1',f2];rw[h2'];simp
end
theorem abh(o g:Int):∀(k:List ListInt) (s:List Row3),aaz o g k s=s.filter λr=>decide (∀mk∈k,r≠(o,g,mk))
 |[],s=>(List.filter_eq_self.mpr (by simp)).symm
 |mk::k,s=>by
  show aaz o g k (s.filter _)=_;rw[abh o g k,awx];congr 1;funext r;by_cases h1:r=(o,g,mk)<;>simp[h1]
def dropped(c:aF)(o g:Int):List Row3:=c.held.filter λr=>!((r.1==o)&&(r.2.1==g))
def ae9(c:aF)(o g:Int):aaz o g (bM c o g) c.held=dropped c o g:=by
 rw[abh];unfold dropped;refine List.filter_congr λr hr=>?_;let⟨x,y,z⟩:=r
 by_cases h:x=o/\y=g
 .let⟨rfl,rfl⟩:=h
  have:z∈bM c x y:=by unfold bM;rw[avM];exact⟨(x,y,z),by rw[av3];exact⟨hr,by simp⟩,rfl⟩
  simp;exact this
 .have e:(!((x==o)&&(y==g)))=true:=by
   by_cases h1:x=o<;>by_cases h2:y=g<;>simp_all
  have e2:∀mk∈bM c o g,(x,y,z)≠(o,g,mk):=λmk _ z=>by
   simp at z;exact h ⟨z.1,z.2.1⟩
  rw[e,decide_eq_true e2]
def acP{c:aF}(h:c.held.Nodup)(o g:Int):(bM c o g).Nodup:=by
 unfold bM;have h1:(c.held.filter λr=>(r.1==o)&&(r.2.1==g)).Nodup:=h.filter _;unfold List.Nodup at h1 |-
 rw[List.pairwise_map];refine List.Pairwise.imp_of_mem (λ{r s} hr hs ne e=>ne ?_) h1;rw[av3]at hr hs;let⟨r1,r2,r3⟩:=r
 let⟨s1,s2,s3⟩:=s
 have:=hr.2;have:=hs.2;simp at *;let⟨rfl,rfl⟩:=hr.2
 let⟨rfl,rfl⟩:=hs.2
 exact⟨rfl,rfl,e⟩
section
variable{M:Mo}{L:Lay}{c:aF}(a:At M L c)(few:c.held.length<=50000)(nd:c.held.Nodup)
include a few nd
theorem alN(o g:Int):if bM c o g=[] then pJ M [ob L.r,.int o,.int g]=.exc ⟨"NoRight",[]⟩ M else
  ∃M',pJ M [ob L.r,.int o,.int g]=.ok (.list ((bM c o g).map aG)) M'/\At M' L { c with held:=dropped c o g }:=by
 have hr:=a.hr;have h1:=Mq a few o g;by_cases h:bM c o g=[]
 .rw[awS h];rw[h]at h1;simp[pJ,yh,hr,pF,cG,h1]
 .rw[awT h];let⟨x',key⟩:=ZC hr o g (bM c o g) (bM c o g) c.held none (acP nd o g) (λmk hm=>by
   unfold bM at hm;rw[avM]at hm;let⟨⟨r1,r2,r3⟩,h3,rfl⟩:=hm
   rw[av3]at h3;have:=h3.2;simp at this;let⟨rfl,rfl⟩:=this
   exact h3.1) few
  have e:(pF { c with held:=c.held })=pF c:=rfl;rw[e,aa3 hr,ae9]at key;refine⟨_,?_,a.ahR⟩;have he:(bM c o g).isEmpty=false:=by
   cases hm:bM c o g with
   |nil=>exact absurd hm h
   |cons _ _=>rfl
  simp[pJ,yh,hr,pF,cG,h1,he];simp[key];rfl
end
def Jo(acc:List Row3)(r:Row3):List Row3:=if r∈acc then acc else acc++[r]
def Ek(e h:Int)(r:Row3):Row3:=(if r.1=e then h else r.1,r.2.1,r.2.2)
def handed(c:aF)(e h:Int):List Row3:=(c.held.map (Ek e h)).foldl Jo []
theorem ac3{tg:dU}{tk:QF}{M:Mo}{Z:Rf.Env}(f:Row3->Row3):∀(xs acc:List Row3),(∀x∈xs,∃Z1,tg (iz x) Z=some Z1/\tk M Z1=.ok (iz (f x)))->HJ tg tk M Z (xs.map iz) (acc.map λr=>(iz r,PyData.bool true))=.ok (((xs.map f).foldl Jo acc).map λr=>(iz r,PyData.bool true))
 |[],acc,_=>rfl
 |x::xs,acc,h=>by
  let⟨Z1,h1,h2⟩:=h x avI
  rw[List.map_cons,HJ,h1]
  show((Af (tk M Z1)).bind λkd=>(dhas true _ kd).bind λr=>_)=_
  rw[h2,abB,Out.Ba,XC,abY,Out.Ba,List.map_cons,awc];have ih:=ac3 f xs (Jo acc (f x)) λy hy=>h y (avG _ hy);unfold Jo at ih |-
  by_cases hm:f x∈acc
  .rw[awS hm]at ih |-
   rw[decide_eq_true hm];exact ih
  .rw[awT hm]at ih |-
   rw[decide_eq_false hm];rw[List.map_append]at ih;exact ih
section
variable{M:Mo}{L:Lay}{c:aF}(a:At M L c)(few:c.held.length<=50000)
include a few
theorem abx(e h:Int):∃M',qu M [ob L.r,.int e,.int h]=.ok .none M'/\At M' L { c with held:=handed c e h }:=by
 have hr:=a.hr;have hl:L.r<M.length:=(avH.mp hr).1;have hr2:(M++[(⟨"",[]⟩:Inst)])[L.r]?=some (pF c):=by rw[avS hl];exact hr
 have key:=ac3 (tg:=aV [3,4,5]) (tk:=aW #[Qa #[(3)=(1)] (2:) (3:),(4:),(5:)]) (M:=M) (Z:=[#[ob L.r],#[.int e],#[.int h],none,none,none]) (Ek e h) c.held [] λr _=>⟨[#[ob L.r],#[.int e],#[.int h],#[.int r.1],#[.int r.2.1],#[aG r.2.2]],by simp[iz],by
  by_cases z:r.1=e<;>simp[z,Ek,iz]⟩
 have ex:At (M++[⟨"",[]⟩]) L c:=by
  have lt:∀{k:Nat} {i:Inst},M[k]?=some i->(M++[(⟨"",[]⟩:Inst)])[k]?=some i:=λz=>by rw[avS (avH.mp z).1];exact z
  let⟨n,m,hg⟩:=a.hg
  let⟨n1,hh⟩:=a.hh
  exact⟨lt a.hc,⟨n,m,lt hg⟩,lt a.hr,⟨n1,lt hh⟩,a.len,λi h b h1 h2=>by
   let⟨n2,z⟩:=a.hb i h b h1 h2
   exact⟨n2,lt z⟩,a.nd,λp hp=>⟨lt (a.fr p hp).1,(a.fr p hp).2⟩⟩
 refine⟨_,?_,ex.ahR⟩;simp![awr]at key;simp[qu,vJ,hr,hr2,pF,lJ];simp[avY,key,few,handed]
end
@[simp]theorem aub (n:Nat) (b:bZ):(iB n b).cls="Beast":=rfl
def acy{M:Mo}{h n:Nat}{b:bZ}(hb:M[h]?=some (iB n b))(s:Sd):oZ M [ob h,s.dat]=.ok .none (M.set h (iB n { b with sd:=s })):=by
 have hl:∀i,(M.set h i)[h]?=some i:=λi=>by rw[bB hb,awS rfl]
 simp[oZ,tR,Sd.dat,hb,iB,hl,lJ]
def abG{M:Mo}{h n:Nat}{b:bZ}(hb:M[h]?=some (iB n b)):xU M [ob h]=.ok b.sd.dat:=by simp[xU,Dt,Sd.dat,hb,iB]
def vM{M:Mo}{h n:Nat}{b:bZ}(hb:M[h]?=some (iB n b))(e:En)(he:b.sd.ear.length<=1000)(hf:b.en.length<=50000):oR M [ob h,e.dat]=.ok .none (M.set h (iB n { b with en:=b.en++[e],sd:=go b.sd e })):=by
 have hl:∀i,(M.set h i)[h]?=some i:=λi=>by rw[bB hb,awS rfl]
 have h1:(M.set h (iB n { b with en:=b.en++[e] }))[h]?=some (iB n { b with en:=b.en++[e] }):=hl _;have h2:=abG h1;have h3:=gone_ok (M.set h (iB n { b with en:=b.en++[e] })) b.sd e he;have h4:=acy h1 (go b.sd e);have h5:b.en.length+1<100000:=#[];have e1:M.set h ⟨"Beast",[("story",.lst n (b.fi.dat::(b.en.map En.dat++[e.dat]))),("mother",.dat (.int b.mo)),("owner",.dat (.int b.sd.o)),("ground",.dat (.int b.sd.g)),("due",.dat (j9 b.sd.due)),("ear",.dat (aG b.sd.ear)),("alive",.dat (.bool b.sd.al))]⟩=M.set h (iB n { b with en:=b.en++[e] }):=by simp[iB]
 simp[oR,Bx,hb,iB,h5];rw[e1];simp[h1,oK,jY,h2,h3,h4];simp[iB]
def aoG:Fi->Int
 |.born m _ _=>m
 |_=>0
def Jk(f:Fi):bZ:=⟨f,[],aoG f,beg f⟩
def alW(M:Mo)(f:Fi):vO (M++[⟨"Beast",[]⟩]) [ob M.length,f.dat]=.ok .none (M++[iB (M.length+1) (Jk f),⟨"",[]⟩]):=by
 have hbeg:=λM=>aju M f;have hg:∀i (r:List Inst),(M++i::r)[M.length]?=some i:=λi r=>by simp
 have hs:∀i j (r:List Inst),(M++i::r).set M.length j=M++j::r:=λi j r=>by simp
 cases f<;>simp[vO,Fq,Fi.dat,hg,hs,lJ,oZ,tR,jY,Ey,Rv,jT,iB,Jk,aoG,beg,j9,Fi.dat]
def bG(L:Lay)(c:aF):List (Nat×Nat×bZ):=(L.bs.zip c.bs).mapIdx λi p=>(i,p.1,p.2)
def nb(x:Nat×Nat×bZ):Dat:=.tuple [.int ((x.1:Int)+1),ob x.2.1]
def Hw{L:Lay}{c:aF}{x:Nat×Nat×bZ}(h:x∈bG L c):L.bs[x.1]?=some x.2.1/\c.bs[x.1]?=some x.2.2:=by
 unfold bG at h;let⟨i,hi,e⟩:=List.mem_mapIdx.mp h
 have hz:=avE hi;rw[awt]at hz;subst e;exact hz
def At.hb'{M:Mo}{L:Lay}{c:aF}(a:At M L c){x:Nat×Nat×bZ}(h:x∈bG L c):∃n,M[x.2.1]?=some (iB n x.2.2):=by
 let⟨h1,h2⟩:=Hw h
 exact a.hb _ _ _ h1 h2
def At.len'{M:Mo}{L:Lay}{c:aF}(a:At M L c):(bG L c).length=c.bs.length:=by unfold bG;simp[a.len]
def At.enum{M:Mo}{L:Lay}{c:aF}(a:At M L c):qR 1 (L.bs.map ob)=(bG L c).map nb:=by
 unfold qR bG;apply av6;intro i;simp![awp,avQ];by_cases hi:i<L.bs.length
 .have hi2:i<c.bs.length:=by rw[<-a.len];exact hi
  have hz:(L.bs.zip c.bs)[i]?=some (L.bs[i],c.bs[i]):=by rw[awt];exact⟨avE hi,avE hi2⟩
  rw[hz];simp[hi,nb,Int.add_comm]
 .have hi2:¬i<c.bs.length:=by rw[<-a.len];exact hi
  have:(L.bs.zip c.bs)[i]?=none:=by rw[List.getElem?_eq_none_iff,List.length_zip];omega
  simp[av7 (by omega:L.bs.length<=i),this]
section
variable{M:Mo}{L:Lay}{c:aF}(a:At M L c)(few:c.bs.length<=50000)
include a few
theorem xR:qX M [ob L.h]=.ok (.list (((bG L c).filter λx=>x.2.2.sd.al).map nb)):=by
 let⟨n,hh⟩:=a.hh
 have hl:=a.len';have he:=a.enum;have key:=fu (tg:=aV [1,2]) (tt:=fV (bh "alive" (2))) (te:=aW #[(1:),(2:)]) (M:=M) (Z:=[#[ob L.h],none,none]) nb (λx=>x.2.2.sd.al) nb (bG L c) λx hx=>⟨[#[ob L.h],#[.int ((x.1:Int)+1)],#[ob x.2.1]],by simp[nb],by
  let⟨n,hb⟩:=a.hb' hx
  simp[hb,iB],λ_=>by simp[nb]⟩
 simp[qX,wX,hh,cO];rw[he];simp[key,hl,few]
theorem U7(near:ListInt):rA M [ob L.h,lI near]=.ok (.list (((bG L c).filter λx=>decide (x.2.2.sd.g∈near)&&x.2.2.sd.al).map nb)):=by
 let⟨n,hh⟩:=a.hh
 have h1:=xR a few;have hl:((bG L c).filter λx=>x.2.2.sd.al).length<=50000:=av2 (avT _ _) (by rw[a.len'];exact few);have key:=fu (tg:=aV [2,3]) (tt:=cV (aH (inD false) (bh "ground" (3)) (1))) (te:=aW #[(2:),(3:)]) (M:=M) (Z:=[#[ob L.h],#[lI near],none,none]) nb (λx=>decide (x.2.2.sd.g∈near)) nb ((bG L c).filter λx=>x.2.2.sd.al) λx hx=>⟨[#[ob L.h],#[lI near],#[.int ((x.1:Int)+1)],#[ob x.2.1]],by simp[nb],by
  let⟨n,hb⟩:=a.hb' (av3.mp hx).1
  simp[hb,iB,Kc],λ_=>by simp[nb]⟩
 rw[awx]at key;simp[rA,Bq,hh,cO,bO,h1,key,hl]
theorem ai5(o:Int):zN M [ob L.h,.int o]=.ok (.list (((bG L c).filter λx=>(x.2.2.sd.o==o)&&x.2.2.sd.al).map nb)):=by
 let⟨n,hh⟩:=a.hh
 have h1:=xR a few;have hl:((bG L c).filter λx=>x.2.2.sd.al).length<=50000:=av2 (avT _ _) (by rw[a.len'];exact few);have key:=fu (tg:=aV [2,3]) (tt:=#[(bh "owner" (3))=(1)]) (te:=aW #[(2:),(3:)]) (M:=M) (Z:=[#[ob L.h],#[.int o],none,none]) nb (λx=>x.2.2.sd.o==o) nb ((bG L c).filter λx=>x.2.2.sd.al) λx hx=>⟨[#[ob L.h],#[.int o],#[.int ((x.1:Int)+1)],#[ob x.2.1]],by simp[nb],by
  let⟨n,hb⟩:=a.hb' (av3.mp hx).1
  simp[hb,iB],λ_=>by simp[nb]⟩
 rw[awx]at key;simp[zN,Fg,hh,cO,bO,h1,key,hl]
theorem aby(k:Int):lU M [ob L.h,.int k]=if 1<=k/\k<=c.bs.length then .ok (ob ((L.bs[(k-1).toNat]?).getD 0)) else .exc ⟨"NoBeast",[]⟩:=by
 let⟨n,hh⟩:=a.hh
 have hlen:(L.bs.length:Int)=c.bs.length:=by rw[a.len]
 by_cases h:1<=k/\k<=c.bs.length
 .rw[awS h];obtain⟨j,rfl⟩:∃j:Nat,k=(j:Int)+1:=⟨(k-1).toNat,#[]⟩;have hj:j<L.bs.length:=by have:=a.len;omega
  have h1:(1:Int)<=j+1:=#[];have h2:(j:Int)+1<=L.bs.length:=#[];simp[lU,vX,hh,cO,h1,h2,hj]
 .rw[awT h];by_cases h1:1<=k
  .have h2:¬k<=L.bs.length:=#[];simp[lU,vX,hh,cO,h1,h2]
  .simp[lU,vX,hh,cO,h1]
end
def bk(c:aF)(k:Int):Option bZ:=if 1<=k/\k<=c.bs.length then c.bs[(k-1).toNat]? else none
def hk(L:Lay)(k:Int):Nat:=(L.bs[(k-1).toNat]?).getD 0
def uJ(b:bZ)(e:En):bZ:={ b with en:=b.en++[e],sd:=go b.sd e }
def ig(c:aF)(i:Nat)(e:En):aF:={ c with bs:=c.bs.modify i λb=>uJ b e }
def oH{M:Mo}{L:Lay}{c:aF}(a:At M L c){k:Int}{b:bZ}(h:bk c k=some b):1<=k/\k<=c.bs.length/\L.bs[(k-1).toNat]?=some (hk L k)/\c.bs[(k-1).toNat]?=some b/\∃n,M[hk L k]?=some (iB n b):=by
 unfold bk at h;left
 .next hh=>
  have hl:(k-1).toNat<L.bs.length:=by have:=a.len;omega
  have e:L.bs[(k-1).toNat]?=some (hk L k):=by unfold hk;rw[avE hl];rfl
  exact⟨hh.1,hh.2,e,h,a.hb _ _ _ e h⟩
 .cases h
def ac9{c:aF}{k:Int}(h:bk c k=none):¬(1<=k/\k<=c.bs.length):=λz=>by
 unfold bk at h;rw[awS z,List.getElem?_eq_none_iff]at h;omega
section
variable{M:Mo}{L:Lay}{c:aF}(a:At M L c)(few:c.bs.length<=50000)
include a few
theorem Et{k:Int}{b:bZ}(h:bk c k=some b):lU M [ob L.h,.int k]=.ok (ob (hk L k)):=by
 let⟨h1,h2,_⟩:=oH a h
 rw[aby a few,awS ⟨h1,h2⟩];rfl
theorem Mw{k:Int}(h:bk c k=none):lU M [ob L.h,.int k]=.exc ⟨"NoBeast",[]⟩:=by rw[aby a few,awT (ac9 h)]
theorem HD(k:Int):uL M [ob L.h,.int k]=match bk c k with
  |none=>.exc ⟨"NoBeast",[]⟩
  |some b=>if b.sd.al then .ok (ob (hk L k)) else .exc ⟨"Dead",[]⟩:=by
 let⟨n,hh⟩:=a.hh
 cases h:bk c k with
 |none=>
  have h1:=Mw a few h;simp[uL,xV,hh,cO,cY,h1]
 |some b=>
  have h1:=Et a few h;let⟨_,_,_,_,n',hb⟩:=oH a h
  cases h2:b.sd.al<;>simp[uL,xV,hh,cO,cY,h1,hb,iB,h2]
theorem yG(k:Int):pN M [ob L.h,.int k]=match bk c k with
  |none=>.exc ⟨"NoBeast",[]⟩
  |some b=>if b.sd.al then(if b.sd.due=none then .exc ⟨"Unmarked",[]⟩ else .ok (ob (hk L k))) else .exc ⟨"Dead",[]⟩:=by
 let⟨n,hh⟩:=a.hh
 have h0:=HD a few k;cases h:bk c k with
 |none=>
  rw[h]at h0;simp[pN,uG,hh,cO,bD,h0]
 |some b=>
  rw[h]at h0;let⟨_,_,_,_,n',hb⟩:=oH a h
  cases h2:b.sd.al with
  |false=>
   simp[h2]at h0;simp[pN,uG,hh,cO,bD,h0,h2]
  |true=>
   simp[h2]at h0;cases h3:b.sd.due<;>simp[pN,uG,hh,cO,bD,h0,hb,iB,h2,h3,j9,iy]
def mW(k:Int)(b:bZ):Bool:=(b.mo==k)&&b.sd.due.isNone
theorem Ql(k:Int):pQ M [ob L.h,.int k]=match bk c k with
  |none=>.exc ⟨"NoBeast",[]⟩
  |some _=>.ok (.list (((bG L c).filter λx=>mW k x.2.2&&x.2.2.sd.al).map nb)):=by
 let⟨n,hh⟩:=a.hh
 have h1:=xR a few;have hl:((bG L c).filter λx=>x.2.2.sd.al).length<=50000:=av2 (avT _ _) (by rw[a.len'];exact few);have key:=fu (tg:=aV [2,3]) (tt:=gA #[(bh "mother" (3))=(1)] (cV (sO false .none (bh "due" (3))))) (te:=aW #[(2:),(3:)]) (M:=M) (Z:=[#[ob L.h],#[.int k],none,none]) nb (λx=>mW k x.2.2) nb ((bG L c).filter λx=>x.2.2.sd.al) λx hx=>⟨[#[ob L.h],#[.int k],#[.int ((x.1:Int)+1)],#[ob x.2.1]],by simp[nb],by
  let⟨n,hb⟩:=a.hb' (av3.mp hx).1
  by_cases h2:x.2.2.mo=k<;>cases h3:x.2.2.sd.due<;>simp[hb,iB,mW,h2,h3,j9,iy],λ_=>by simp[nb]⟩
 rw[awx]at key;cases h:bk c k with
 |none=>
  have h2:=Mw a few h;simp[pQ,yd,hh,cO,cY,h2]
 |some b=>
  have h2:=Et a few h;simp[pQ,yd,hh,cO,cY,bO,h1,h2,key,hl]
theorem Pq(f:Fi)(hf:c.bs.length<50000):∃M' h,ux M [ob L.h,f.dat]=.ok (.int (c.bs.length+1)) M'/\At M' { L with bs:=L.bs++[h] } { c with bs:=c.bs++[Jk f] }:=by
 let⟨n,hh⟩:=a.hh
 have hl:L.h<M.length:=(avH.mp hh).1;have hi:=alW M f;have hh2:(M++[iB (M.length+1) (Jk f),⟨"",[]⟩])[L.h]?=some (cO n L):=by rw[avS hl];exact hh
 have hs:∀i,((M++[iB (M.length+1) (Jk f),(⟨"",[]⟩:Inst)]).set L.h i)[L.h]?=some i:=λi=>by rw[bB hh2,awS rfl]
 have hz:c.bs.length<100000:=#[];refine⟨_,M.length,?_,a.aqY (M2:=M++[iB (M.length+1) (Jk f),⟨"",[]⟩]) (n:=M.length+1) (n2:=n) (avW _) (λk hk=>by rw[avS hk]) (by simp)⟩
 simp[ux,yu,hh,cO,hi,hh2,hs,hz,a.len]
end
def Ax{M:Mo}{L:Lay}{c:aF}(a:At M L c){i h n:Nat}{b:bZ}{e:En}(h1:L.bs[i]?=some h)(h2:c.bs[i]?=some b):At (M.set h (iB n (uJ b e))) L (ig c i e):=by
 have:=a.setB (n:=n) (b':=uJ b e) h1;have hm:c.bs.modify i (λb=>uJ b e)=c.bs.set i (uJ b e):=by
  apply av6;intro j;rw[List.getElem?_modify,awu];by_cases hj:i=j
  .subst hj;have hl:=(avH.mp h2).1;simp[hl,h2];have:=(avH.mp h2).2;rw[this]
  .simp[hj]
 unfold ig;rw[hm];exact this
def Bh(c:aF)(i j:Nat)(e:En):(ig c i e).bs[j]?=if i=j then(c.bs[j]?).map λb=>uJ b e else c.bs[j]?:=by unfold ig;simp![List.getElem?_modify];by_cases h:i=j<;>simp[h]
def xK(xs:List (Nat×Nat×bZ))(e:En)(c:aF):aF:=xs.foldl (λc x=>ig c x.1 e) c
theorem Tg{tg:dU}{body:SF}(Q:Rf.Env->Prop)(P:Nat->aF->Prop)(e:En)(L:Lay)(T:Nat):∀(xs:List (Nat×Nat×bZ)) (M:Mo) (c:aF) (Z:Rf.Env) (i:Nat),i+xs.length<=T->At M L c->P i c->Q Z->
  (∀M c Z x i,i<T->At M L c->P i c->Q Z->x∈xs->∃Z1 Z2 M2,tg (nb x) Z=some Z1/\body M Z1=.next Z2 M2/\Q Z2/\At M2 L (ig c x.1 e)/\P (i+1) (ig c x.1 e))->
  ∃Z' M',dY tg body (xs.map nb) M Z=.next Z' M'/\Q Z'/\At M' L (xK xs e c)
 |[],M,c,Z,i,_,a,p,q,_=>⟨Z,M,rfl,q,a⟩
 |x::xs,M,c,Z,i,hT,a,p,q,h=>by
  rw[avO]at hT;let⟨Z1,Z2,M2,h1,h2,h3,h4,h5⟩:=h M c Z x i #[] a p q avI
  let⟨Z',M',g1,g2,g3⟩:=Tg Q P e L T xs M2 _ Z2 (i+1) #[] h4 h5 h3 λM c Z y i hi a p q hy=>h M c Z y i hi a p q (avG _ hy)
  exact⟨Z',M',by rw[List.map_cons,eE h1 h2];exact g1,g2,g3⟩
structure Oj(n:Nat)(c:aF):Prop where
 ear:∀b∈c.bs,b.sd.ear.length=6
 en:∀b∈c.bs,b.en.length<=n
def anl(s:Sd)(e:En)(he:s.ear.length=6)(h2:match e with|.cut l=>l.length=6|.sold _ l=>l.length=6|_=>True):(go s e).ear.length=6:=by cases e<;>simp_all [go,yQ]
theorem Vy(e:En):∀(xs:List (Nat×Nat×bZ)) (c:aF) (j:Nat),(xs.map (·.1)).Nodup->(xK xs e c).bs[j]?=if j∈xs.map (·.1) then(c.bs[j]?).map λb=>uJ b e else c.bs[j]?
 |[],c,j,_=>by simp[xK]
 |x::xs,c,j,nd=>by
  rw[List.map_cons,awK]at nd
  show(xK xs e (ig c x.1 e)).bs[j]?=_
  rw[Vy e xs _ j nd.2,Bh];by_cases h1:x.1=j
  .subst h1;rw[awT nd.1,awS rfl,awS (by simp)]
  .rw[awT h1];by_cases h2:j∈xs.map (·.1)
   .rw[awS h2,awS (by rw[List.map_cons];exact avG _ h2)]
   .rw[awT h2,awT (by
     rw[List.map_cons,avP]
     rintro(z|z)
     .exact h1 z.symm
     .exact h2 z)]
theorem RN(e:En):∀(xs:List (Nat×Nat×bZ)) (c:aF),(xK xs e c)={ c with bs:=(xK xs e c).bs }
 |[],_=>rfl
 |x::xs,c=>by
  show xK xs e (ig c x.1 e)={ c with bs:=(xK xs e (ig c x.1 e)).bs };rw[RN e xs];rfl
def ahe{L:Lay}{c:aF}(p:Nat×Nat×bZ->Bool):(((bG L c).filter p).map (·.1)).Nodup:=by
 have h:((bG L c).map (·.1)).Nodup:=by
  have e:(bG L c).map (·.1)=List.range (L.bs.zip c.bs).length:=by
   unfold bG;apply av6;intro i;simp![avQ,awp];by_cases hi:i<(L.bs.zip c.bs).length
   .rw[avE hi,List.getElem?_range hi];rfl
   .rw[av7 (by omega:(L.bs.zip c.bs).length<=i),av7 (by rw[List.length_range];omega:(List.range (L.bs.zip c.bs).length).length<=i)];rfl
  rw[e];exact List.nodup_range
 exact h.sublist (List.Sublist.map _ List.filter_sublist)
def qI(p:bZ->Bool)(e:En)(c:aF):aF:={ c with bs:=c.bs.map λb=>if p b then uJ b e else b }
def YM{M:Mo}{L:Lay}{c:aF}(a:At M L c)(p:bZ->Bool)(e:En):xK ((bG L c).filter λx=>p x.2.2) e c=qI p e c:=by
 rw[RN];unfold qI;congr 1;apply av6;intro j;rw[Vy _ _ _ _ (ahe _),avQ];by_cases hj:j<c.bs.length
 .have hb:=avE hj;rw[hb];have hl:j<L.bs.length:=by rw[a.len];exact hj
  have mem:(j,L.bs[j],c.bs[j])∈bG L c:=by unfold bG;rw[List.mem_mapIdx];refine⟨j,by simp;omega,by simp⟩
  by_cases hp:p c.bs[j]=true
  .have:j∈((bG L c).filter λx=>p x.2.2).map (·.1):=avM.mpr ⟨_,av3.mpr ⟨mem,hp⟩,rfl⟩;rw[awS this];simp[hp]
  .have:j∉((bG L c).filter λx=>p x.2.2).map (·.1):=λz=>by
    let⟨x,h1,h2⟩:=avM.mp z
    let⟨h3,h4⟩:=av3.mp h1
    let⟨_,h5⟩:=Hw h3
    rw[h2,hb]at h5;rw[<-av0 h5]at h4;exact hp h4
   rw[awT this];simp[hp]
 .rw[av7 (by omega:c.bs.length<=j)];simp
def Oj.step{n:Nat}{c:aF}(bi:Oj n c)(i:Nat)(e:En)(h2:match e with|.cut l=>l.length=6|.sold _ l=>l.length=6|_=>True):Oj (n+1) (ig c i e):=by
 have key:∀b∈(ig c i e).bs,b∈c.bs\/∃b0∈c.bs,b=uJ b0 e:=λb hb=>by
  let⟨j,hj⟩:=List.mem_iff_getElem?.mp hb
  rw[Bh]at hj;split at hj
  .let⟨b0,h3,h4⟩:=awm.mp hj
   exact .inr ⟨b0,avK h3,h4.symm⟩
  .exact .inl (avK hj)
 refine⟨λb hb=>?_,λb hb=>?_⟩
 .rcases key b hb with h|⟨b0,h,rfl⟩
  .exact bi.ear b h
  .exact anl _ _ (bi.ear b0 h) h2
 .rcases key b hb with h|⟨b0,h,rfl⟩
  .have:=bi.en b h;omega
  .have:=bi.en b0 h;simp[uJ];omega
section
variable{M:Mo}{L:Lay}{c:aF}(a:At M L c)(few:c.bs.length<=1000){n:Nat}(bi:Oj n c)(hn:n<=40000)
include a few bi hn
theorem JM(k:Int){b:bZ}(hk':bk c k=some b):∃M',qF M [ob L.h,.int k]=.ok .none M'/\At M' L (qI (λx=>mW k x&&x.sd.al) (.followed b.sd.o b.sd.g) c):=by
 let⟨m,hh⟩:=a.hh
 have few2:c.bs.length<=50000:=#[];have h1:=Et a few2 hk';have h2:=Ql a few2 k;rw[hk']at h2;let⟨k1,k2,k3,k4,k5⟩:=oH a hk'
 have hlen:((bG L c).filter λx=>mW k x.2.2&&x.2.2.sd.al).length<=1000:=av2 (avT _ _) (by rw[a.len'];exact few);let⟨Z',M',g1,g2,g3⟩:=Tg (tg:=aV [3,4]) (body:=tG) (λZ=>∃x y,Z=[#[ob L.h],#[.int k],#[ob (hk L k)],x,y])
  (λi c1=>(∃b1,c1.bs[(k-1).toNat]?=some b1/\b1.sd.o=b.sd.o/\b1.sd.g=b.sd.g)/\Oj (n+i) c1/\c1.bs.length=c.bs.length) (.followed b.sd.o b.sd.g) L 1000 ((bG L c).filter λx=>mW k x.2.2&&x.2.2.sd.al) M c [#[ob L.h],#[.int k],#[ob (hk L k)],none,none] 0 #[] a ⟨⟨b,k4,rfl,rfl⟩,bi,rfl⟩ ⟨none,none,rfl⟩ (λM1 c1 Z x i hi a1 p1 q1 hx=>by
   let⟨⟨bm,m1,m2,m3⟩,bi1,l1⟩:=p1
   let⟨x0,y0,rfl⟩:=q1
   let⟨nm,hm⟩:=a1.hb _ _ _ k3 m1
   let⟨e1,e2⟩:=Hw (av3.mp hx).1
   have hl:x.1<c1.bs.length:=by rw[l1];exact(avH.mp e2).1
   have e3:=avE hl;let⟨nx,hx1⟩:=a1.hb _ _ _ e1 e3
   have mem:=awh hl;have hb:=vM hx1 (.followed b.sd.o b.sd.g) (by rw[bi1.ear _ mem];decide) (by have:=bi1.en _ mem;omega);refine⟨[#[ob L.h],#[.int k],#[ob (hk L k)],#[.int ((x.1:Int)+1)],#[ob x.2.1]],[#[ob L.h],#[.int k],#[ob (hk L k)],#[.int ((x.1:Int)+1)],#[ob x.2.1]],_,by simp[nb],?_,⟨_,_,rfl⟩,Ax (n:=nx) a1 e1 e3,?_,bi1.step _ _ awM,by simp[ig,l1]⟩
   .have hb:oR M1 [ob x.2.1,.tuple [.str "followed",.int b.sd.o,.int b.sd.g]]=_:=hb
    simp[tG,hx1,hm,bF];simp[iB]at hb |-
    simp[m2,m3,hb,uJ]
   .rw[Bh,m1];by_cases z:x.1=(k-1).toNat
    .exact⟨uJ bm (.followed b.sd.o b.sd.g),by rw[awS z];rfl,rfl,rfl⟩
    .exact⟨bm,by rw[awT z],m2,m3⟩)
 rw[YM a (λx=>mW k x&&x.sd.al)]at g3;refine⟨M',?_,g3⟩;simp[qF,vZ,hh,cO,cY,kZ,h1,h2,g1]
end
def pD(p:Int×Int):Dat:=.tuple [.int p.1,.int p.2]
theorem Ay:∀(x y:ListInt),zQ (x.map PyData.int) (y.map PyData.int)=(x.zip y).map pD
 |[],_=>by simp[zQ]
 |_::_,[]=>by simp[zQ]
 |a::x,b::y=>by
  have:=Ay x y;unfold zQ at this |-
  rw[List.map_cons,List.map_cons,List.zipWith_cons_cons,this,aww,List.map_cons];rfl
def dD(x y:ListInt):Int:=(((x.zip y).filter λp=>decide (p.1<p.2)).map λp=>p.2-p.1).sum
def rC(x y:ListInt):Int:=if dD y x>dD x y then dD y x else dD x y
def dN(x y:ListInt):ListInt:=(x.zip y).map λp=>if p.2>p.1 then p.2 else p.1
def alz(x y:ListInt)(h:x.length<=1000):(x.zip y).length<=50000:=by rw[List.length_zip];omega
def ZL(l:ListInt):Yb (.list (l.map PyData.int))=.ok (.int l.sum):=by
 show(match intsOf (l.map PyData.int) with
  |some ns=>Out.ok (PyData.int ns.sum)
  |none=>.bad)=_
 rw[El]
def Bw(M:Mo)(x y:ListInt)(h:x.length<=1000):jX M [aG x,aG y]=.ok (.int (dD x y)):=by have key:=fu (tg:=aV [2,3]) (tt:=cV (aH gtD (3) (2))) (te:=aH kh (3) (2)) (M:=M) (Z:=[#[aG x],#[aG y],none,none]) pD (λp=>decide (p.1<p.2)) (λp=>.int (p.2-p.1)) (x.zip y) λp _=>⟨[#[aG x],#[aG y],#[.int p.1],#[.int p.2]],by simp[pD],by simp,λ_=>by simp⟩;have hz:=alz x y h;have hs:=ZL (((x.zip y).filter λp=>decide (p.1<p.2)).map λp=>p.2-p.1);rw[avZ]at hs;have hz2:min x.length y.length<=50000:=#[];simp[jX,Xg,Ay,key,hz2];simp[avY]at hs;simp[hs,dD]
def ajt(M:Mo)(x y:ListInt)(h:x.length<=1000)(h2:y.length<=1000):JC M [aG x,aG y]=.ok (.int (rC x y)):=by simp[JC,WQ,Bw M x y h,Bw M y x h2,rC]
def Yi(M:Mo)(x y:ListInt)(r:Int)(h:x.length<=1000)(h2:y.length<=1000):uD M [aG x,aG y,.int r]=.ok (.bool (decide (rC x y<=r))):=by simp[uD,abu,ajt M x y h h2]
def FP(M:Mo)(x y:ListInt)(h:x.length<=1000):mU M [aG x,aG y]=.ok (aG (dN x y)):=by have key:=fj (tg:=aV [2,3]) (te:=aH qU (2) (3)) (M:=M) (Z:=[#[aG x],#[aG y],none,none]) pD (λp=>.int (if p.2>p.1 then p.2 else p.1)) (x.zip y) λp _=>⟨[#[aG x],#[aG y],#[.int p.1],#[.int p.2]],by simp[pD],by simp⟩;have hz2:min x.length y.length<=50000:=#[];simp[mU,Xc,Ay,key,hz2,dN]
abbrev Rw:=Ear.Rw
theorem Qt:∀R:List Rw,BZ (R.map Ear.rD)=some R
 |[]=>rfl
 |r::R=>by
  rw[List.map_cons,BZ,Qt R];have:abQ (Ear.rD r)=some r:=by
   unfold Ear.rD Ear.dT
   show(intsOf (r.2.map PyData.int)).map _=_
   rw[El];rfl
  rw[this];rfl
def Oc(M:Mo)(R:List Rw)(h:R.eraseDups.length<=76):sV M [.list (R.map Ear.rD)]=.ok (.list ((bA R).map Ear.rD)):=by
 have:U9 (.list (R.map Ear.rD))=.ok (.list ((bA R).map Ear.rD)):=by
  show(match BZ (R.map Ear.rD) with
   |some R=>match decide (R.eraseDups.length<=76) with
    |true=>Out.ok (PyData.list ((bA R).map Ear.rD))
    |false=>.bad
   |none=>.bad)=_
  rw[Qt]
  show(match decide (R.eraseDups.length<=76) with
    |true=>Out.ok (PyData.list ((bA R).map Ear.rD))
    |false=>.bad)=_
  rw[decide_eq_true h]
 simp[sV,Sv,this]
def sJ(R:List Rw):(bA R).length=R.eraseDups.length:=by unfold bA sY;rw[List.length_mergeSort]
def DP(o:Int)(e:ListInt)(R:List Rw)(room:Int):List Rw:=(bA R).filter λr=>!(r.1==o)&&decide (rC e r.2<=room)
def qY(R:List Rw):Prop:=∀r∈R,r.2.length=6
def aeK(M:Mo)(o:Int)(e:ListInt)(R:List Rw)(room:Int)(he:e.length=6)(hR:qY R)(h:R.eraseDups.length<=76):Dc M [.int o,aG e,.list (R.map Ear.rD),.int room]=.ok (.list ((DP o e R room).map Ear.rD)):=by
 have ht:=Oc M R h;have hl:(bA R).length<=50000:=by rw[sJ];omega
 have key:=fu (tg:=aV [4,5]) (tt:=gA (cV (aH uH (4) (0))) (fV (aO uD #[(1:),(5:),(3:)]))) (te:=aW #[(4:),(5:)]) (M:=M) (Z:=[#[.int o],#[aG e],#[.list (R.map Ear.rD)],#[.int room],none,none]) Ear.rD (λr=>!(r.1==o)&&decide (rC e r.2<=room)) Ear.rD (bA R) λr hr=>⟨[#[.int o],#[aG e],#[.list (R.map Ear.rD)],#[.int room],#[.int r.1],#[aG r.2]],by simp[Ear.rD,Ear.dT],by
  have:=Yi M e r.2 room #[] (by rw[hR r (lX.mp hr)];decide);by_cases hz:r.1=o<;>simp[this,hz],λ_=>by simp[Ear.rD,Ear.dT]⟩
 simp[Dc,PN,ht,key,hl,DP]
def RX(M:Mo)(o:Int)(e:ListInt)(R:List Rw)(room:Int)(he:e.length=6)(hR:qY R)(h:R.eraseDups.length<=76):pW M [.int o,aG e,.list (R.map Ear.rD),.int room]=match DP o e R room with
  |[]=>.ok .none
  |r::_=>.exc ⟨"Clash",[("ear",aG (dN e r.2)),("others",Ear.rD r),("ones",Ear.rD (o,e))]⟩:=by
 have hb:=aeK M o e R room he hR h;cases hx:DP o e R room with
 |nil=>
  rw[hx]at hb;simp[pW,Ei,hb]
 |cons r rs=>
  rw[hx]at hb;have hj:=FP M e r.2 #[];simp[pW,Ei,hb];simp[Ear.rD,Ear.dT,hj]
def cX(x:ListInt):Bool:=decide (x.length=6)&&x.all λd=>decide (0<=d)&&decide (d<=9)
def Hh(l:List Bool):wF (l.map PyData.bool)=some l:=by
 induction l with
 |nil=>rfl
 |cons b l ih=>rw[List.map_cons,wF,ih];rfl
def Zv(M:Mo)(x:ListInt)(h:x.length<=1000):vL M [aG x]=.ok (.bool (cX x)):=by
 have key:=fj (tg:=ao 1) (te:=ZP (o7 uN uN #[0] (1) (qC cP))) (M:=M) (Z:=[#[aG x],none]) PyData.int (λd=>.bool (decide (0<=d)&&decide (d<=9))) x λd _=>⟨[#[aG x],#[.int d]],by simp,by
  by_cases h0:0<=d<;>simp[h0,cP]⟩
 have ha:T8 (.list (x.map λd=>PyData.bool (decide (0<=d)&&decide (d<=9))))=.ok (.bool (x.all λd=>decide (0<=d)&&decide (d<=9))):=by
  have e:(x.map λd=>PyData.bool (decide (0<=d)&&decide (d<=9)))=(x.map λd=>decide (0<=d)&&decide (d<=9)).map PyData.bool:=by rw[avZ];rfl
  rw[e]
  show(match wF _ with
   |some bs=>Out.ok (PyData.bool (bs.all id))
   |none=>.bad)=_
  rw[Hh];simp[List.all_map,avY]
 have hl:x.length<=50000:=#[];by_cases h6:x.length=6
 .have h6':((x.length:Int)==6)=true:=by simp[h6]
  simp[vL,MJ,jo,key,hl,ha,cX,h6]
 .have h6':¬(x.length:Int)=6:=#[];simp[vL,MJ,jo,cX,h6,h6']
def ael{x:ListInt}(h:x.length=6)(h2:∀d∈x,0<=d/\d<10):cX x=true:=by unfold cX;simp![avD,awO,av1];refine⟨h,λd hd=>?_⟩;have:=h2 d hd;omega
theorem Lj{α β:Type}{tg tg1:dU}{tt tt1:QT}{it1:IF}{vs1:List Nat}{te:QF}{M:Mo}{Z:Rf.Env}(ds:α->Dat)(ys:α->List β)(ds1:β->Dat)(p:α->β->Bool)(f:α->β->Dat):∀(xs:List α),(∀x∈xs,∃Z1,tg (ds x) Z=some Z1/\tt M Z1=.ok true/\BX Z1=true/\it1 M Z1=.ok ((ys x).map ds1)/\∀y∈ys x,∃Z2,tg1 (ds1 y) (bQ Z1 vs1)=some Z2/\tt1 M Z2=.ok (p x y)/\(p x y=true->te M Z2=.ok (f x y)))->
  iU tg tt it1 tg1 vs1 tt1 te M Z (xs.map ds)=.ok (xs.flatMap λx=>((ys x).filter (p x)).map (f x))
 |[],_=>rfl
 |x::xs,h=>by
  let⟨Z1,h1,h2,h3,h4,h5⟩:=h x avI
  have ih:=Lj ds ys ds1 p f xs λy hy=>h y (avG _ hy);have hc:=fu (tg:=tg1) (tt:=tt1) (te:=te) (M:=M) (Z:=bQ Z1 vs1) ds1 (p x) (f x) (ys x) h5;rw[List.map_cons,iU,h1]
  show((Af (tt M Z1)).bind λb=>if b=true then Out.when (BX Z1) ((Af (it1 M Z1)).bind λes=>(dR tg1 tt1 te M (bQ Z1 vs1) es).bind λr1=>(iU tg tt it1 tg1 vs1 tt1 te M Z (xs.map ds)).bind λr=>Out.ok (r1++r)) else iU tg tt it1 tg1 vs1 tt1 te M Z (xs.map ds))=_
  rw[h2,abB,Out.Ba,awS rfl,h3,Out.Y7,h4,abB,Out.Ba,hc,Out.Ba,ih,Out.Ba,List.flatMap_cons]
def R7(M:Mo)(x:ListInt)(h:x.length<=1000):tK M [aG x]=if cX x then .ok .none else .exc ⟨"BadEar",[]⟩:=by have:=Zv M x h;cases hb:cX x<;>simp[tK,Lf,this,hb]
def pairD(p:Rw×Rw):Dat:=.tuple [Ear.rD p.1,Ear.rD p.2]
def oO(T:List Rw)(room:Int):List (Rw×Rw):=(T.mapIdx λi r=>(i,r)).flatMap λx=>((T.drop (x.1+1)).filter λs=>!(x.2.1==s.1)&&decide (rC x.2.2 s.2<=room)).map λs=>(x.2,s)
def acV(T:List Rw)(room:Int):(oO T room).length<=T.length*T.length:=by
 unfold oO;rw[List.length_flatMap];have key:∀(l:List (Nat×Rw)),(l.map λx=>(((T.drop (x.1+1)).filter λs=>!(x.2.1==s.1)&&decide (rC x.2.2 s.2<=room)).map λs=>(x.2,s)).length).sum<=l.length*T.length:=by
  intro l
  induction l with
  |nil=>simp
  |cons x l ih=>
   rw[List.map_cons,List.sum_cons,avO,Nat.add_mul,Nat.one_mul];have:(((T.drop (x.1+1)).filter λs=>!(x.2.1==s.1)&&decide (rC x.2.2 s.2<=room)).map λs=>(x.2,s)).length<=T.length:=by rw[avN];refine av2 (avT _ _) ?_;rw[awG];omega
   omega
 have:=key (T.mapIdx λi r=>(i,r));rw[List.length_mapIdx]at this;exact this
def acK(M:Mo)(R:List Rw)(room:Int)(hR:qY R)(h:R.eraseDups.length<=76):wI M [.list (R.map Ear.rD),.int room]=.ok (.list ((oO (bA R) room).map pairD)):=by
 have ht:=Oc M R h;have hl:(bA R).length<=76:=by rw[sJ];exact h
 have hE:∀r∈bA R,r.2.length=6:=λr hr=>hR r (lX.mp hr);generalize bA R=T at ht hl hE;have he:qR 0 (T.map Ear.rD)=(T.mapIdx λi r=>(i,r)).map λ(x:Nat×Rw)=>PyData.tuple [.int x.1,Ear.rD x.2]:=by unfold qR;apply av6;intro i;simp;cases T[i]?<;>simp
 have key:=Lj (tg:=aV [3,4]) (tg1:=ao 5) (tt:=gU) (it1:=bV (R5 (2) (sE (aH eU (3) #[1])) Fp)) (vs1:=[5]) (tt1:=gA (cV (aH uH (4)[0]! (5)[0]!)) (fV (aO uD #[(4)[1]!,(5)[1]!,(1:)]))) (te:=aW #[(4:),(5:)]) (M:=M) (Z:=[#[.list (R.map Ear.rD)],#[.int room],#[.list (T.map Ear.rD)],none,none,none])
  (λ(x:Nat×Rw)=>PyData.tuple [.int x.1,Ear.rD x.2]) (λx=>T.drop (x.1+1)) Ear.rD (λx s=>!(x.2.1==s.1)&&decide (rC x.2.2 s.2<=room)) (λx s=>pairD (x.2,s)) (T.mapIdx λi r=>(i,r)) λx hx=>⟨[#[.list (R.map Ear.rD)],#[.int room],#[.list (T.map Ear.rD)],#[.int x.1],#[Ear.rD x.2],none],by simp,rfl,rfl,by
   have:=acf (T.map Ear.rD) (x.1+1);simp at this |-
   rw[this],λs hs=>⟨[#[.list (R.map Ear.rD)],#[.int room],#[.list (T.map Ear.rD)],#[.int x.1],#[Ear.rD x.2],#[Ear.rD s]],by simp,by
   let⟨i,hi,rfl⟩:=List.mem_mapIdx.mp hx
   have h1:=hE _ (awh hi);have h2:=hE s (List.mem_of_mem_drop hs);have:=Yi M (T[i]).2 s.2 room #[] #[];by_cases hz:(T[i]).1=s.1<;>simp[Ear.rD,Ear.dT,this,hz],λ_=>by simp[pairD]⟩⟩
 have e2:((T.mapIdx λi r=>(i,r)).flatMap λx=>((T.drop (x.1+1)).filter λs=>!(x.2.1==s.1)&&decide (rC x.2.2 s.2<=room)).map λs=>pairD (x.2,s))=(oO T room).map pairD:=by unfold oO;rw[List.map_flatMap];congr 1;funext x;rw[avZ];rfl
 rw[e2]at key;have hc:(oO T room).length<=50000:=by have:=acV T room;have:T.length*T.length<=76*76:=Nat.mul_le_mul hl hl;omega
 simp[wI,Lr,ht];rw[he];simp[key,hc]
def hdD(x:ListInt×Int):Dat:=.tuple [aG x.1,.int x.2]
def Ow(d l:Int):Int:=(if 9<d+l then 9 else d+l)+1
def Eo(d l:Int):ListInt:=(List.range (Ow d l-d).toNat).map λ(i:Nat)=>d+(i:Int)
def stepT(d:Int)(H:List (ListInt×Int)):List (ListInt×Int):=H.flatMap λx=>(Eo d x.2).map λcut=>(x.1++[cut],x.2-(cut-d))
structure T7(k:Nat)(H:List (ListInt×Int)):Prop where
 len:H.length<=4^k
 left:∀x∈H,0<=x.2/\x.2<=3
 hd:∀x∈H,x.1.length=k/\∀y∈x.1,0<=y/\y<=9
def ahy{d l:Int}(hl:0<=l/\l<=3):(Eo d l).length<=4:=by
 unfold Eo Ow;simp
 split<;>omega
def YK{d l y:Int}(h:y∈Eo d l):d<=y/\y<=d+l/\y<=9:=by
 unfold Eo Ow at h;let⟨i,hi,rfl⟩:=avM.mp h
 rw[List.mem_range]at hi;split at hi<;>omega
def Zd{k:Nat}{H:List (ListInt×Int)}{d:Int}(i:T7 k H)(hd:0<=d/\d<=9):T7 (k+1) (stepT d H):=by
 refine⟨?_,λx hx=>?_,λx hx=>?_⟩
 .have key:∀l:List (ListInt×Int),(∀x∈l,0<=x.2/\x.2<=3)->(stepT d l).length<=l.length*4:=by
   intro l
   induction l with
   |nil=>intro _;simp[stepT]
   |cons x l ih=>
    intro h;have h1:=ih λy hy=>h y (avG _ hy);have h2:=ahy (d:=d) (h x avI);unfold stepT at h1 |-
    rw[List.flatMap_cons,awa,avN,avO];omega
  have:=key H i.left;have:=i.len;rw[Nat.pow_succ];omega
 .unfold stepT at hx;let⟨y,hy,hx⟩:=List.mem_flatMap.mp hx
  let⟨c,hc,rfl⟩:=avM.mp hx
  have:=YK hc;have:=i.left y hy;show 0<=y.2-(c-d)/\y.2-(c-d)<=3;omega
 .unfold stepT at hx;let⟨y,hy,hx⟩:=List.mem_flatMap.mp hx
  let⟨c,hc,rfl⟩:=avM.mp hx
  have:=YK hc;let⟨h1,h2⟩:=i.hd y hy
  refine⟨by simp[h1],λz hz=>?_⟩;rcases avR.mp hz with hz|hz
  .exact h2 z hz
  .rw[avJ.mp hz];omega
def agp(M:Mo)(e m:Option Cell)(he:BX [e,m]=true){k:Nat}{H:List (ListInt×Int)}{d:Int}(i:T7 k H)(hk:k<=5)(hd:0<=d/\d<=9):Gy M [e,m,#[.list (H.map hdD)],#[.int d],none,none,none]=.next [e,m,#[.list ((stepT d H).map hdD)],#[.int d],none,none,none] M:=by
 have key:=Lj (tg:=aV [4,5]) (tg1:=ao 6) (tt:=gU) (it1:=EY (3) (aH eU (aH Lz (aH eU (3) (5)) (qC cP)) #[1])) (vs1:=[6]) (tt1:=gU) (te:=aW #[aH eU (4) (aW #[(6:),]),aH kh (5) (aH kh (6) (3))]) (M:=M) (Z:=[e,m,#[.list (H.map hdD)],#[.int d],none,none,none])
  hdD (λx=>Eo d x.2) PyData.int (λ_ _=>true) (λx c=>hdD (x.1++[c],x.2-(c-d))) H λx hx=>⟨[e,m,#[.list (H.map hdD)],#[.int d],#[aG x.1],#[.int x.2],none],by simp[hdD],rfl,by
   simp[BX]at he |-
   exact he,by
   have hl:=i.left x hx;have hz:Ow d x.2<=100000/\-100000<=Ow d x.2/\d<=100000/\-100000<=d:=by unfold Ow;split<;>omega
   have e1:jC d (Ow d x.2-d).toNat=(Eo d x.2).map PyData.int:=by unfold jC Eo;rw[avZ];rfl
   have e2:(if 9<d+x.2 then(9:Int) else d+x.2)+1=Ow d x.2:=rfl;simp[cP,e2,e1,hz],λc hc=>⟨[e,m,#[.list (H.map hdD)],#[.int d],#[aG x.1],#[.int x.2],#[.int c]],by simp,rfl,λ_=>by
   have h1:=(i.hd x hx).1;have h2:x.1.length+1<=100000:=#[];simp[hdD,h2]⟩⟩
 have e2:(H.flatMap λx=>((Eo d x.2).filter λ_=>true).map λc=>hdD (x.1++[c],x.2-(c-d)))=(stepT d H).map hdD:=by unfold stepT;rw[List.map_flatMap];congr 1;funext x;rw[List.filter_eq_self.mpr (λ_ _=>rfl),avZ];rfl
 rw[e2]at key;have hl:(stepT d H).length<=50000:=by have:=(Zd i hd).len;have:4^(k+1)<=4^6:=Nat.pow_le_pow_right #[()] #[];omega
 simp[Gy,key,hl]
theorem Px(M:Mo)(e m:Option Cell)(he:BX [e,m]=true):∀(ear:ListInt) (k:Nat) (H:List (ListInt×Int)) (o:Option Cell),T7 k H->k+ear.length<=6->(∀d∈ear,0<=d/\d<=9)->
  (∃o',dY (ao 3) Gy (ear.map PyData.int) M [e,m,#[.list (H.map hdD)],o,none,none,none]=.next [e,m,#[.list ((ear.foldl (λH d=>stepT d H) H).map hdD)],o',none,none,none] M)/\T7 (k+ear.length) (ear.foldl (λH d=>stepT d H) H)
 |[],k,H,o,i,_,_=>⟨⟨o,rfl⟩,i⟩
 |d::ear,k,H,o,i,hk,hd=>by
  rw[avO]at hk;have h1:=hd d avI;let⟨⟨o',ih⟩,i2⟩:=Px M e m he ear (k+1) (stepT d H) #[.int d] (Zd i h1) #[] λy hy=>hd y (avG _ hy)
  refine⟨⟨o',?_⟩,?_⟩
  .rw[List.map_cons,eE (Z1:=[e,m,#[.list (H.map hdD)],#[.int d],none,none,none]) (by simp) (agp M e m he i #[] h1),ih];rfl
  .rw[avO,show k+(ear.length+1)=k+1+ear.length by omega];exact i2
def G4(ear:ListInt)(many:Int):List ListInt:=(ear.foldl (λH d=>stepT d H) [([],many)]).map (·.1)
def agO{many:Int}(hm:0<=many/\many<=3):T7 0 [([],many)]:=⟨by simp,λx hx=>by rw[avJ.mp hx];exact hm,λx hx=>by rw[avJ.mp hx];simp⟩
def Uq{ear:ListInt}{many:Int}(he:cX ear=true)(hm:0<=many/\many<=3):T7 6 (ear.foldl (λH d=>stepT d H) [([],many)]):=by unfold cX at he;rw[avD,awO,av1]at he;have:=(Px [] none none rfl ear 0 [([],many)] none (agO hm) #[] λd hd=>by simpa using he.2 d hd).2;rw[he.1]at this;exact this
def ak4(M:Mo)(ear:ListInt)(many:Int)(he:cX ear=true)(hm:0<=many/\many<=3):N8 M [aG ear,.int many]=.ok (.list ((G4 ear many).map aG)):=by
 have he':=he;unfold cX at he';rw[avD,awO,av1]at he';let⟨⟨o',h1⟩,_⟩:=Px M #[aG ear] #[.int many] rfl ear 0 [([],many)] none (agO hm) #[] λd hd=>by simpa using he'.2 d hd
 have hi:=Uq he hm;generalize hH:ear.foldl (λH d=>stepT d H) [([],many)]=H at h1 hi;have key:=fj (tg:=aV [4,5]) (te:=DG 4) (M:=M) (Z:=[#[aG ear],#[.int many],#[.list (H.map hdD)],o',none,none,none]) hdD (λx=>aG x.1) H λx _=>⟨[#[aG ear],#[.int many],#[.list (H.map hdD)],o',#[aG x.1],#[.int x.2],none],by simp[hdD],by simp⟩;have hl:H.length<=50000:=by have:=hi.len;have:(4:Nat)^6=4096:=#[()];omega
 have h1':dY (ao 3) Gy (ear.map PyData.int) M [#[aG ear],#[.int many],#[.list [.tuple [.tuple [],.int many]]],none,none,none,none]=_:=h1;have key2:∀o2:Option Cell,dR (aV [4,5]) gU (4:) M [#[aG ear],#[.int many],#[.list (H.map hdD)],o2,none,none,none] (H.map hdD)=.ok (H.map λx=>aG x.1):=λo2=>fj (tg:=aV [4,5]) (te:=DG 4) (M:=M) (Z:=[#[aG ear],#[.int many],#[.list (H.map hdD)],o2,none,none,none]) hdD (λx=>aG x.1) H λx _=>⟨[#[aG ear],#[.int many],#[.list (H.map hdD)],o2,#[aG x.1],#[.int x.2],none],by simp[hdD],by simp⟩;simp[N8,aaD,h1',key2,hl,G4,hH]
def Tn(mark:ListInt)(extra:Int):List ListInt:=(G4 mark extra).filter λe=>dD mark e==extra
def ZS{ear:ListInt}{many:Int}(he:cX ear=true)(hm:0<=many/\many<=3){x:ListInt}(h:x∈G4 ear many):cX x=true:=by
 let⟨y,hy,rfl⟩:=avM.mp h
 let⟨h1,h2⟩:=(Uq he hm).hd y hy
 unfold cX;rw[avD,awO,av1];exact⟨h1,λd hd=>by simpa using h2 d hd⟩
def aht{ear:ListInt}{many:Int}(he:cX ear=true)(hm:0<=many/\many<=3):(G4 ear many).length<=4096:=by unfold G4;rw[avN];exact(Uq he hm).len
def aaG(M:Mo)(mark:ListInt)(extra:Int)(he:cX mark=true)(hm:0<=extra/\extra<=3):xJ M [aG mark,.int extra]=.ok (.list ((Tn mark extra).map aG)):=by
 have h1:=ak4 M mark extra he hm;have hl:=aht he hm;have h6:mark.length<=1000:=by unfold cX at he;rw[avD,awO]at he;omega
 have key:=fu (tg:=ao 2) (tt:=#[(aO jX #[(0:),(2:)])=(1)]) (te:=DG 2) (M:=M) (Z:=[#[aG mark],#[.int extra],none]) aG (λe=>dD mark e==extra) aG (G4 mark extra) λx _=>⟨[#[aG mark],#[.int extra],#[aG x]],by simp,by
  have:=Bw M mark x h6;simp[this],λ_=>by simp⟩
 have hl2:(G4 mark extra).length<=50000:=#[];simp[xJ,Jt,h1,key,hl2,Tn]
def Ep(R:List Rw)(room:Int)(e:ListInt):Bool:=!(R.any λr=>decide (rC e r.2<=room))
def abC(l:List Bool):Uk (.list (l.map PyData.bool))=.ok (.bool (l.any id)):=by
 show(match wF (l.map PyData.bool) with
  |some bs=>Out.ok (PyData.bool (bs.any id))
  |none=>.bad)=_
 rw[Hh]
def aeZ(M:Mo)(R:List Rw)(room:Int)(hR:qY R)(hl:R.length<=50000)(mk:ListInt)(x:Int)(e:ListInt)(he:e.length=6) :
  lg M [#[aG mk],#[.int x],#[.list (R.map Ear.rD)],#[.int room],#[aG e],none,none]=if Ep R room e then .ret (aG e) M else .next [#[aG mk],#[.int x],#[.list (R.map Ear.rD)],#[.int room],#[aG e],none,none] M:=by
 have key:=fj (tg:=aV [5,6]) (te:=aO uD #[(4:),(6:),(3:)]) (M:=M) (Z:=[#[aG mk],#[.int x],#[.list (R.map Ear.rD)],#[.int room],#[aG e],none,none]) Ear.rD (λr=>.bool (decide (rC e r.2<=room))) R λr hr=>⟨[#[aG mk],#[.int x],#[.list (R.map Ear.rD)],#[.int room],#[aG e],#[.int r.1],#[aG r.2]],by simp[Ear.rD,Ear.dT],by
  have:=Yi M e r.2 room #[] (by rw[hR r hr];decide);simp[this]⟩
 have ha:=abC (R.map λr=>decide (rC e r.2<=room));rw[avZ]at ha;simp![avY,awD]at ha;cases hf:Ep R room e<;>simp[lg,key,hl,ha]<;>simp[Ep]at hf<;>simpa using hf
theorem Wu(M:Mo)(R:List Rw)(room:Int)(hR:qY R)(hl:R.length<=50000)(mk:ListInt)(x:Int):∀(es:List ListInt) (o:Option Cell),(∀e∈es,e.length=6)->
  match es.find? (Ep R room) with
   |some e=>dY (ao 4) lg (es.map aG) M [#[aG mk],#[.int x],#[.list (R.map Ear.rD)],#[.int room],o,none,none]=.ret (aG e) M
   |none=>∃Z',dY (ao 4) lg (es.map aG) M [#[aG mk],#[.int x],#[.list (R.map Ear.rD)],#[.int room],o,none,none]=.next Z' M
 |[],o,_=>⟨_,rfl⟩
 |e::es,o,he=>by
  have h1:=aeZ M R room hR hl mk x e (he e avI);have ih:=Wu M R room hR hl mk x es #[aG e] λy hy=>he y (avG _ hy);rw[List.find?_cons];cases hf:Ep R room e with
  |true=>
   rw[hf,awS rfl]at h1;show dY _ _ _ _ _=_;rw[List.map_cons,dY];simp[h1]
  |false=>
   rw[hf,awT #[()]]at h1;have e1:dY (ao 4) lg ((e::es).map aG) M [#[aG mk],#[.int x],#[.list (R.map Ear.rD)],#[.int room],o,none,none]=dY (ao 4) lg (es.map aG) M [#[aG mk],#[.int x],#[.list (R.map Ear.rD)],#[.int room],#[aG e],none,none]:=by rw[List.map_cons,eE (by simp) h1]
   rw[e1];exact ih
def Z7(M:Mo)(mark:ListInt)(extra:Int)(R:List Rw)(room:Int)(he:cX mark=true)(hm:0<=extra/\extra<=3)(hR:qY R)(hl:R.length<=50000):rZ M [aG mark,.int extra,.list (R.map Ear.rD),.int room]=match (Tn mark extra).find? (Ep R room) with
  |some e=>.ok (aG e)
  |none=>.exc ⟨"NoneFree",[]⟩:=by
 have h1:=aaG M mark extra he hm;have h2:=Wu M R room hR hl mark extra (Tn mark extra) none λe h=>by
  have:=ZS he hm (av3.mp h).1;unfold cX at this;rw[avD,awO]at this;exact this.1
 cases hf:(Tn mark extra).find? (Ep R room) with
 |some e=>
  rw[hf]at h2;simp[rZ,zY,h1,h2]
 |none=>
  rw[hf]at h2;let⟨Z',h2⟩:=h2
  simp[rZ,zY,h1,h2]
@[simp]theorem aq8 (L:Lay) (c:aF):(aC L c).cls="Commons":=rfl
def any_keys(y:Int)(l:ListInt):((l.map λo=>(PyData.int o,PyData.bool true)).any λp=>PyData.eqv p.1 (.int y))=decide (y∈l):=by
 have:=any_ints y l;rw[awD]at this |-
 exact this
section
variable{M:Mo}{L:Lay}{c:aF}(a:At M L c)
include a
theorem mY(o:Int):jO M [ob L.c,.int o]=if o∈c.own then .ok .none else .exc ⟨"NoOwner",[]⟩:=by
 have hc:=a.hc;have hk:=any_keys o c.own;simp![awD,avY]at hk;by_cases h:o∈c.own
 .rw[decide_eq_true h]at hk;rw[awS h];simp[jO,nY,hc,aC,avY,hk];rw[awT (λz=>z o h rfl)]
 .rw[decide_eq_false h]at hk;rw[awT h];simp[jO,nY,hc,aC,avY,hk];have hz:∀x:Int,x∈c.own->¬x=o:=λx hx e=>h (e ▸ hx);rw[awS hz]
theorem yK(i:cU c)(x:Int):qZ M [ob L.c,.int x]=if Vg c x then .ok (.int (roomOf c x)) else .exc ⟨"NoGround",[]⟩:=by
 have hc:=a.hc;let⟨n,m,hg⟩:=a.hg
 have h1:=akd a i x;by_cases h:Vg c x
 .rw[awS h]at h1 |-
  simp[qZ,wM,hc,aC,hg,dh,vB,h1]
 .rw[awT h]at h1 |-
  simp[qZ,wM,hc,aC,hg,dh,vB,h1]
theorem Dq(i:cU c)(x:Int):lW M [ob L.c,.int x]=if Vg c x then .ok (lI (aZ c x)) else .exc ⟨"NoGround",[]⟩:=by
 have hc:=a.hc;let⟨n,m,hg⟩:=a.hg
 have h1:=xM a i x;by_cases h:Vg c x
 .rw[awS h]at h1 |-
  simp[lW,qD,hc,aC,hg,dh,bx,h1]
 .rw[awT h]at h1 |-
  simp[lW,qD,hc,aC,hg,dh,bx,h1]
theorem ahn:tY M [ob L.c]=.ok (lI c.own):=by have hc:=a.hc;simp[tY,yE,hc,aC,avY]
theorem uF(few:c.held.length<=50000)(o g:Int):nR M [ob L.c,.int o,.int g]=if bM c o g=[] then .exc ⟨"NoRight",[]⟩ else .ok .none:=by have hc:=a.hc;have hr:=a.hr;have h1:=aa8 a few o g;by_cases h:bM c o g=[]<;>simp[nR,uo,hc,aC,hr,pF,uX,h1,h]
theorem Dz(few:c.held.length<=50000)(o g:Int){mk:ListInt}{r:List ListInt}(h:bM c o g=mk::r):oA M [ob L.c,.int o,.int g]=.ok (aG mk):=by have hc:=a.hc;have hr:=a.hr;have h1:=Mq a few o g;rw[h]at h1;simp[oA,tZ,hc,aC,hr,pF,cG,h1]
end
def inR(c:aF)(near:ListInt):List Rw:=(c.held.filter λr=>decide (r.2.1∈near)).map λr=>(r.1,r.2.2)
def abf(lo:Int)(x:Nat×Nat×bZ):Bool:=x.2.2.sd.due.isSome&&!(((x.1:Int)+1)==lo)
def Ux(L:Lay)(c:aF)(lo:Int)(near:ListInt):List Rw:=(((bG L c).filter λx=>decide (x.2.2.sd.g∈near)&&x.2.2.sd.al).filter (abf lo)).map λx=>(x.2.2.sd.o,x.2.2.sd.due.getD [])
def gq(L:Lay)(c:aF)(lo x:Int):List Rw:=inR c (aZ c x)++Ux L c lo (aZ c x)
section
variable{M:Mo}{L:Lay}{c:aF}(a:At M L c)
include a
theorem Hr(i:cU c)(few:c.held.length<=20000)(fewb:c.bs.length<=20000)(lo x:Int)(h76:(gq L c lo x).eraseDups.length<=76):jd M [ob L.c,.int lo,.int x]=if Vg c x then .ok (.list ((bA (gq L c lo x)).map Ear.rD)) else .exc ⟨"NoGround",[]⟩:=by
 have hc:=a.hc;have hr:=a.hr;let⟨n,hh⟩:=a.hh
 have h1:=Dq a i x;by_cases h:Vg c x
 .rw[awS h]at h1 |-
  have h2:=U7 a (by omega:c.bs.length<=50000) (aZ c x);have h3:=aaf a (by omega:c.held.length<=50000) (aZ c x);have h4:=Oc M (gq L c lo x) h76;have hl:((bG L c).filter λy=>decide (y.2.2.sd.g∈aZ c x)&&y.2.2.sd.al).length<=20000:=av2 (avT _ _) (by rw[a.len'];exact fewb);have hl2:((bG L c).filter λy=>decide (y.2.2.sd.g∈aZ c x)&&y.2.2.sd.al).length<=50000:=#[];have key:=fu (tg:=aV [5,6]) (tt:=gA (cV (sO true .none (bh "due" (6)))) (cV (aH uH (5) (1)))) (te:=aW #[eG "owner" (6),eG "due" (6)]) (M:=M) (Z:=[#[ob L.c],#[.int lo],#[.int x],#[lI (aZ c x)],none,none,none]) nb (abf lo) (λy=>Ear.rD (y.2.2.sd.o,y.2.2.sd.due.getD [])) ((bG L c).filter λy=>decide (y.2.2.sd.g∈aZ c x)&&y.2.2.sd.al) λy hy=>⟨[#[ob L.c],#[.int lo],#[.int x],#[lI (aZ c x)],none,#[.int ((y.1:Int)+1)],#[ob y.2.1]],by simp[nb],by
   let⟨n',hb⟩:=a.hb' (av3.mp hy).1
   cases hd:y.2.2.sd.due<;>simp[hb,iB,hd,j9,abf,iy],λhp=>by
   let⟨n',hb⟩:=a.hb' (av3.mp hy).1
   cases hd:y.2.2.sd.due with
   |none=>simp[abf,hd]at hp
   |some e=>simp[hb,iB,hd,j9,Ear.rD,Ear.dT]⟩
  have e1:(c.held.filter λr=>decide (r.2.1∈aZ c x)).map (λr=>Ear.rD (r.1,r.2.2))=(inR c (aZ c x)).map Ear.rD:=by unfold inR;rw[avZ];rfl
  have e2:(((bG L c).filter λy=>decide (y.2.2.sd.g∈aZ c x)&&y.2.2.sd.al).filter (abf lo)).map (λy=>Ear.rD (y.2.2.sd.o,y.2.2.sd.due.getD []))=(Ux L c lo (aZ c x)).map Ear.rD:=by unfold Ux;rw[avZ];rfl
  rw[e1]at h3;rw[e2]at key;have z1:(inR c (aZ c x)).length<=20000:=by unfold inR;rw[avN];exact av2 (avT _ _) few
  have z2:(Ux L c lo (aZ c x)).length<=20000:=by unfold Ux;rw[avN];exact av2 (avT _ _) hl
  have z3:(inR c (aZ c x)).length+(Ux L c lo (aZ c x)).length<=100000:=#[];unfold gq at h4 |-
  rw[List.map_append]at h4;simp[jd,lK,hc,aC,bR,h1,hh,cO,jR,h2,hr,pF,tO,h3];simp[key,hl2,z3,h4,hc,aC,hr,pF,h3]
 .rw[awT h]at h1 |-
  simp[jd,lK,hc,aC,bR,h1]
end
def bU(b:bZ):Dat:=.tuple [.int b.sd.o,.int b.sd.g,j9 b.sd.due,aG b.sd.ear,.bool b.sd.al,.int b.mo,.tuple (b.fi.dat::b.en.map En.dat)]
def ak1{M:Mo}{h n:Nat}{b:bZ}(hb:M[h]?=some (iB n b)):zj M [ob h]=.ok (bU b):=by have h1:=abG hb;simp[zj,Gx,hb,oK,h1];simp[iB,Sd.dat,bU]
def Zh(c:aF)(k:Nat):Dat:=.tuple [.int (Mu c ((k:Int)+1)),aG (aZ c ((k:Int)+1))]
def fB(c:aF):Dat:=.tuple [lI c.own,.list ((List.range c.al.length).map (Zh c)),.list (c.held.map iz),.list (c.bs.map bU)]
section
variable{M:Mo}{L:Lay}{c:aF}(a:At M L c)
include a
theorem akn(i:cU c)(few:c.held.length<=20000)(fewb:c.bs.length<=20000):rE M [ob L.c]=.ok (fB c):=by
 have hc:=a.hc;have hr:=a.hr;let⟨n,m,hg⟩:=a.hg
 let⟨n1,hh⟩:=a.hh
 have h1:=ado a;have h2:=ahn a;have h3:=acA a (by omega:c.held.length<=50000);have hf:=i.few;have k1:=fj (tg:=ao 3) (te:=aW #[aJ dZ (bh "grounds" (0)) #[(3:),],eZ m7 (aJ bR (0) #[(3:),])]) (M:=M) (Z:=[#[ob L.c],none,none,none,none]) (λ(k:Nat)=>PyData.int (1+(k:Int))) (Zh c) (List.range c.al.length) λk hk=>⟨[#[ob L.c],none,none,#[.int ((k:Int)+1)],none],by simp[Int.add_comm],by
  rw[List.mem_range]at hk;have hv:Vg c ((k:Int)+1):=by constructor<;>omega
  have g1:=Od a ((k:Int)+1);have g2:=Dq a i ((k:Int)+1);rw[awS hv]at g1 g2;simp[hc,aC,hg,dh,dZ,bR,g1,g2,Zh]⟩
 have hl:=a.len';have k2:=λ(o1:Option Cell)=>fj (tg:=ao 4) (te:=aJ xZ (4) dI) (M:=M) (Z:=[#[ob L.c],o1,none,none,none]) (λ(x:Nat×Nat×bZ)=>ob x.2.1) (λx=>bU x.2.2) (bG L c) λx hx=>⟨[#[ob L.c],o1,none,none,#[ob x.2.1]],by simp,by
  let⟨n',hb⟩:=a.hb' hx
  have:=ak1 hb;simp[hb,xZ,this]⟩
 have e1:(bG L c).map (λx=>ob x.2.1)=L.bs.map ob:=by
  unfold bG;apply av6;intro j;simp![avQ,awp];by_cases hj:j<L.bs.length
  .have hz:(L.bs.zip c.bs)[j]?=some (L.bs[j],c.bs[j]'(by rw[<-a.len];exact hj)):=by
    rw[awt];exact⟨avE hj,avE _⟩
   rw[hz,avE hj];rfl
  .rw[av7 (by omega:L.bs.length<=j),av7 (by rw[List.length_zip];omega)];rfl
 have e2:(bG L c).map (λx=>bU x.2.2)=c.bs.map bU:=by
  unfold bG;apply av6;intro j;simp![avQ,awp];by_cases hj:j<c.bs.length
  .have hz:(L.bs.zip c.bs)[j]?=some (L.bs[j]'(by rw[a.len];exact hj),c.bs[j]):=by
    rw[awt];exact⟨avE _,avE hj⟩
   rw[hz,avE hj];rfl
  .rw[av7 (by omega:c.bs.length<=j),av7 (by rw[List.length_zip];omega)];rfl
 simp![e1,e2]at k2;have r1:jC 1 c.al.length=(List.range c.al.length).map λ(k:Nat)=>PyData.int (1+(k:Int)):=rfl;have z1:(c.al.length:Int)+1<=100000:=#[];have z2 : -100000<=(c.al.length:Int)+1:=#[];have z3:c.al.length<=50000:=#[];have z4:L.bs.length<=50000:=by rw[a.len];omega
 simp[rE,Bm,hc,aC,hg,dh,fP,h1,z1,z2,r1,k1,z3];simp[hc,aC,hh,cO,hr,pF,k2,z4,wZ,vR,h2,h3,fB]
end
section
variable{M:Mo}{L:Lay}{c:aF}(a:At M L c)
include a
theorem xO(i:cU c)(few:c.held.length<=20000)(fewb:c.bs.length<=20000)(x:Int)(h76:(gq L c 0 x).eraseDups.length<=76):lQ M [ob L.c,.int x]=if Vg c x then .ok (.list ((bA (gq L c 0 x)).map Ear.rD)) else .exc ⟨"NoGround",[]⟩:=by
 have hc:=a.hc;have h1:=Hr a i few fewb 0 x h76;by_cases h:Vg c x
 .rw[awS h]at h1 |-
  simp[lQ,qw,hc,cZ,h1]
 .rw[awT h]at h1 |-
  simp[lQ,qw,hc,cZ,h1]
def amx(o:Int)(e:ListInt)(R:List Rw)(room:Int):Out Dat:=match DP o e R room with
 |[]=>.ok .none
 |r::_=>.exc ⟨"Clash",[("ear",aG (dN e r.2)),("others",Ear.rD r),("ones",Ear.rD (o,e))]⟩
omit a in
theorem ajl{T:List Rw}(h:Ear.Ke T):T.Nodup:=by
 unfold Ear.Ke at h;unfold List.Nodup;exact h.imp λ{x y} z e=>by
  subst e;exact List.lt_irrefl _ z
theorem Qq(ho:∀o∈c.own,o<=c.count)(few:c.own.length<=20000):∃M',gQ M [ob L.c]=.ok (.int (c.count+1)) M'/\At M' L { c with count:=c.count+1,own:=c.own++[c.count+1] }:=by
 have hc:=a.hc;have hl:∀i,(M.set L.c i)[L.c]?=some i:=λi=>by rw[bB hc,awS rfl]
 have hk:=any_keys (c.count+1) c.own;have hn:¬(c.count+1)∈c.own:=λz=>by have:=ho _ z;omega
 rw[decide_eq_false hn]at hk;have hz:∀x∈c.own,¬x=c.count+1:=λx hx e=>hn (e ▸ hx);have f2:c.own.length<100000:=#[];refine⟨_,?_,a.setC⟩;simp![awD,avY]at hk;have hd:(c.own.any λx=>x==c.count+1)=false:=by rw[List.any_eq_false];intro x hx;simpa using hz x hx
 simp[gQ,u5,hc,aC,hl,lJ,f2,avY,hd]
end
def ab7{α:Type}[BEq α][LawfulBEq α](l:List α):l.eraseDups.length<=l.length:=by
 induction hn:l.length using Nat.strongRecOn generalizing l with
 |_ n ih=>
  cases l with
  |nil=>simp
  |cons a r=>
   rw[List.eraseDups_cons];simp![avO]at hn |-
   have hl:(r.filter λb=>!b==a).length<=r.length:=avT _ _;have:=ih _ #[] (r.filter λb=>!b==a) rfl;omega
def abb{S:List Rw}(h:S.eraseDups.length<=76):(bA S).eraseDups.length<=76:=av2 (ab7 _) (by rw[sJ];exact h)
def wg{S:List Rw}(h:qY S):qY (bA S):=λr hr=>h r (lX.mp hr)
section
variable{M:Mo}{L:Lay}{c:aF}(a:At M L c)
include a
theorem aaj(i:cU c)(few:c.held.length<=20000)(fewb:c.bs.length<=20000)(o x:Int)(e:ListInt)(he:e.length=6)(hv:Vg c x)(h76:(gq L c 0 x).eraseDups.length<=76)(hE:qY (gq L c 0 x)):iG M [ob L.c,.int o,aG e,.int x]=amx o e (bA (gq L c 0 x)) (roomOf c x):=by
 have hc:=a.hc;have h1:=xO a i few fewb x h76;have h2:=yK a i x;rw[awS hv]at h1 h2;have h3:=RX M o e (bA (gq L c 0 x)) (roomOf c x) he (wg hE) (abb h76);unfold amx;cases hb:DP o e (bA (gq L c 0 x)) (roomOf c x) with
 |nil=>
  rw[hb]at h3;simp[iG,nO,hc,bK,bL,h1,h2,h3]
 |cons r rs=>
  rw[hb]at h3;simp[iG,nO,hc,bK,bL,h1,h2,h3]
end
section
variable{M:Mo}{L:Lay}{c:aF}(a:At M L c)
include a
def La(L:Lay)(c:aF)(x y:Int):List Rw:=bA (gq L c 0 x)++bA (gq L c 0 y)
def yC(c:aF)(x y:Int):Int:=if roomOf c y>roomOf c x then roomOf c y else roomOf c x
theorem acJ(i:cU c)(few:c.held.length<=20000)(fewb:c.bs.length<=20000)(x y:Int)(hx:Vg c x)(hy:Vg c y)(h1:(gq L c 0 x).eraseDups.length<=76)(h2:(gq L c 0 y).eraseDups.length<=76)(h3:(La L c x y).eraseDups.length<=76)(e1:qY (gq L c 0 x))(e2:qY (gq L c 0 y)):lO M [ob L.c,.int x,.int y]=.ok (.list ((oO (bA (La L c x y)) (yC c x y)).map pairD)):=by
 have hc:=a.hc;have s1:=xO a i few fewb x h1;have s2:=xO a i few fewb y h2;have r1:=yK a i x;have r2:=yK a i y;rw[awS hx]at s1 r1;rw[awS hy]at s2 r2;have hE:qY (La L c x y):=λr hr=>by
  rcases avR.mp hr with hr|hr
  .exact wg e1 r hr
  .exact wg e2 r hr
 have k:=acK M (La L c x y) (yC c x y) hE h3;have l1:(bA (gq L c 0 x)).length<=76:=by rw[sJ];exact h1
 have l2:(bA (gq L c 0 y)).length<=76:=by rw[sJ];exact h2
 have l3:(bA (gq L c 0 x)).length+(bA (gq L c 0 y)).length<=100000:=#[];have k':wI M [.list ((bA (gq L c 0 x)).map Ear.rD++(bA (gq L c 0 y)).map Ear.rD),.int (if roomOf c y>roomOf c x then roomOf c y else roomOf c x)]=.ok (.list ((oO (bA (La L c x y)) (yC c x y)).map pairD)):=by rw[<-List.map_append];exact k
 simp[lO,v7,hc,bK,bL,s1,s2,r1,r2,l3];simp at k';exact k' ▸ (by simp[k'])
end
def Jm(c:aF)(lo:Int)(near:ListInt):List Rw:=((c.bs.mapIdx λi b=>(i,b)).filter λx=>(x.2.sd.due.isSome&&!(((x.1:Int)+1)==lo))&&(decide (x.2.sd.g∈near)&&x.2.sd.al)).map λx=>(x.2.sd.o,x.2.sd.due.getD [])
def cJ(c:aF)(lo x:Int):List Rw:=inR c (aZ c x)++Jm c lo (aZ c x)
def Hg{M:Mo}{L:Lay}{c:aF}(a:At M L c):(bG L c).map (λx=>(x.1,x.2.2))=c.bs.mapIdx λi b=>(i,b):=by
 unfold bG;apply av6;intro j;simp![avQ,awp];by_cases hj:j<c.bs.length
 .have hz:(L.bs.zip c.bs)[j]?=some (L.bs[j]'(by rw[a.len];exact hj),c.bs[j]):=by
   rw[awt];exact⟨avE _,avE hj⟩
  rw[hz,avE hj];rfl
 .rw[av7 (by omega:c.bs.length<=j),av7 (by rw[List.length_zip];omega)];rfl
def jm{M:Mo}{L:Lay}{c:aF}(a:At M L c)(lo x:Int):gq L c lo x=cJ c lo x:=by unfold gq cJ Ux Jm;rw[<-Hg a,List.filter_map,avZ,awx];rfl
inductive aX where
 |owner|ground (x:Int)|enrol (o g:Int) (m:ListInt)|leave (o g:Int)|bring (o g:Int) (e:ListInt)|bear (k:Int)|cut (k:Int)|tear (k p:Int)|sell (k o:Int)|move (k g:Int)|die (k:Int)|zG (x y:Int)|part (x:Int)|pass (e h:Int)|heir (e g x:Int)
def aX.dat:aX->Dat
 |.owner=>.tuple [.str "owner"]
 |.ground x=>.tuple [.str "ground",.int x]
 |.enrol o g m=>.tuple [.str "enrol",.int o,.int g,aG m]
 |.leave o g=>.tuple [.str "leave",.int o,.int g]
 |.bring o g m=>.tuple [.str "bring",.int o,.int g,aG m]
 |.bear k=>.tuple [.str "bear",.int k]
 |.cut k=>.tuple [.str "cut",.int k]
 |.tear k p=>.tuple [.str "tear",.int k,.int p]
 |.sell k o=>.tuple [.str "sell",.int k,.int o]
 |.move k g=>.tuple [.str "move",.int k,.int g]
 |.die k=>.tuple [.str "die",.int k]
 |.zG x y=>.tuple [.str "unite",.int x,.int y]
 |.part x=>.tuple [.str "part",.int x]
 |.pass e h=>.tuple [.str "pass",.int e,.int h]
 |.heir e g x=>.tuple [.str "heir",.int e,.int g,.int x]
inductive Res where
 |ok (d:Dat) (c:aF)|no (x:dX)
def JN(o:Int)(e:ListInt)(r:Rw):dX:=⟨"Clash",[("ear",aG (dN e r.2)),("others",Ear.rD r),("ones",Ear.rD (o,e))]⟩
def firstM(c:aF)(o g:Int):ListInt:=(bM c o g).headD []
def DN(o:Int)(e:ListInt)(R:List Rw)(room:Int)(r:Res):Res:=match DP o e (bA R) room with
 |[]=>r
 |x::_=>.no (JN o e x)
def Lp(c:aF)(x y:Int):List Rw:=bA (cJ c 0 x)++bA (cJ c 0 y)
def vf(c:aF)(x:Int):ListInt:=(aZ c x).filter λy=>!(y==x)
def U0(c:aF)(e:Int):ListInt:=((c.bs.mapIdx λi b=>(i,b)).filter λx=>(x.2.sd.o==e)&&x.2.sd.al).map λx=>(x.1:Int)+1
def aas(o g:Int)(b:bZ):Bool:=(decide (b.sd.g∈[g])&&b.sd.al)&&(b.sd.o==o)
def yS(c:aF)(k:Int)(f:bZ->Res):Res:=match bk c k with
 |none=>.no ⟨"NoBeast",[]⟩
 |some b=>if b.sd.al=true then f b else .no ⟨"Dead",[]⟩
def markB(c:aF)(k:Int)(f:bZ->ListInt->Res):Res:=yS c k λb=>match b.sd.due with
 |none=>.no ⟨"Unmarked",[]⟩
 |some e=>f b e
def Bf(c:aF)(k o g:Int):aF:=qI (λx=>mW k x&&x.sd.al) (.followed o g) c
def vY(c:aF)(o:Int)(r:Res):Res:=if o∈c.own then r else .no ⟨"NoOwner",[]⟩
def Aa(c:aF)(g:Int)(r:Res):Res:=if Vg c g then r else .no ⟨"NoGround",[]⟩
def Qs(e:ListInt)(r:Res):Res:=if cX e=true then r else .no ⟨"BadEar",[]⟩
def qN(c:aF)(o g:Int)(r:Res):Res:=if bM c o g=[] then .no ⟨"NoRight",[]⟩ else r
def cW(c:aF):aX->Res
 |.owner=>.ok (.int (c.count+1)) { c with count:=c.count+1,own:=c.own++[c.count+1] }
 |.ground x=>if 0<=x/\x<=9 then .ok (.int (c.al.length+1)) { c with al:=c.al++[x],ci:=c.ci++[[(c.al.length:Int)+1]] } else .no ⟨"BadAllowance",[]⟩
 |.enrol o g m=>vY c o<|Aa c g<|Qs m<|if m=[0,0,0,0,0,0] then .no ⟨"Bare",[]⟩ else if m∈bM c o g then .no ⟨"HasRight",[]⟩ else DN o m (cJ c 0 g) (roomOf c g) (.ok .none { c with held:=c.held++[(o,g,m)] })
 |.leave o g=>vY c o<|Aa c g<|qN c o g<|if c.bs.any (aas o g)=true then .no ⟨"StillThere",[]⟩ else .ok (.list ((bM c o g).map aG)) { c with held:=dropped c o g }
 |.bring o g e=>vY c o<|Aa c g<|Qs e<|qN c o g<|.ok (.int (c.bs.length+1)) { c with bs:=c.bs++[Jk (.brought o g e)] }
 |.bear k=>markB c k λb _=>.ok (.int (c.bs.length+1)) { c with bs:=c.bs++[Jk (.born k b.sd.o b.sd.g)] }
 | .cut k=>yS c k λb=>DN b.sd.o (dN b.sd.ear (firstM c b.sd.o b.sd.g)) (cJ c 0 b.sd.g) (roomOf c b.sd.g) (.ok (aG (dN b.sd.ear (firstM c b.sd.o b.sd.g))) (ig c (k-1).toNat (.cut (dN b.sd.ear (firstM c b.sd.o b.sd.g)))))
 |.tear k p=>yS c k λb=>if 0<=p/\p<6 then(if 9<=b.sd.ear.getD p.toNat 0 then .no ⟨"Deepest",[]⟩ else .ok (aG (yQ b.sd.ear p.toNat)) (ig c (k-1).toNat (.torn p.toNat))) else .no ⟨"NoPlace",[]⟩
 |.sell k o=>markB c k λb _=>vY c o<|if b.sd.o=o then .no ⟨"SameOwner",[]⟩ else qN c o b.sd.g<|DN o (dN b.sd.ear (firstM c o b.sd.g)) (cJ c k b.sd.g) (roomOf c b.sd.g) (.ok (aG (dN b.sd.ear (firstM c o b.sd.g))) (Bf (ig c (k-1).toNat (.sold o (dN b.sd.ear (firstM c o b.sd.g)))) k o b.sd.g))
 |.move k g=>markB c k λb e=>Aa c g<|if b.sd.g=g then .no ⟨"SameGround",[]⟩ else qN c b.sd.o g<|DN b.sd.o e (cJ c 0 g) (roomOf c g) (.ok (.int b.sd.g) (Bf (ig c (k-1).toNat (.moved g)) k b.sd.o g))
 |.die k=>yS c k λ_=>.ok .none (ig c (k-1).toNat .died)
 |.zG x y=>Aa c y<|Aa c x<|if y∈aZ c x then .no ⟨"Together",[]⟩ else match oO (bA (Lp c x y)) (yC c x y) with
  |p::_=>.no (JN p.1.1 p.1.2 p.2)
  |[]=>.ok (lI (sortI (aZ c x++aZ c y))) { c with ci:=encl c.ci (sortI (aZ c x++aZ c y)) }
 |.part x=>Aa c x<|if vf c x=[] then .no ⟨"Alone",[]⟩ else .ok (lI (vf c x)) { c with ci:=encl (encl c.ci [x]) (vf c x) }
 |.pass e h=>vY c e<|vY c h<|if e=h then .no ⟨"SameOwner",[]⟩ else .ok (lI (U0 c e)) { qI (λb=>(b.sd.o==e)&&b.sd.al) (.passed h) c with own:=c.own.filter (λo=>!(o==e)),held:=handed c e h }
 | .heir e g x=>vY c e<|Aa c g<|if 1<=x/\x<=3 then qN c e g (match (Tn (firstM c e g) x).find? (Ep (bA (cJ c 0 g)) (roomOf c g)) with
  |some mk=>.ok (.tuple [.int (c.count+1),aG mk]) { c with count:=c.count+1,own:=c.own++[c.count+1],held:=c.held++[(c.count+1,g,mk)] }
  |none=>.no ⟨"NoneFree",[]⟩) else .no ⟨"BadExtra",[]⟩
structure Inv(n s:Nat)(c:aF):Prop where
 gr:cU c
 al:c.al.length<=n
 cnt:0<=c.count/\c.count<=n
 own:∀o∈c.own,1<=o/\o<=c.count
 Ut:c.own.Nodup
 ownL:c.own.length<=n
 held:c.held.Nodup
 hL:c.held.length+c.bs.length<=s
 hE:∀r∈c.held,r.1∈c.own/\Vg c r.2.1/\cX r.2.2=true
 ear:∀b∈c.bs,cX b.sd.ear=true
 due:∀b∈c.bs,∀e,b.sd.due=some e->cX e=true
 en:∀b∈c.bs,b.en.length<=2*n
 rt:∀b∈c.bs,b.sd.al=true->∃m,(b.sd.o,b.sd.g,m)∈c.held
def fK{x:ListInt}(h:cX x=true):x.length=6:=by unfold cX at h;simp at h;exact h.1
theorem Ge{α:Type}[BEq α][LawfulBEq α]:∀{l S:List α},l.Nodup->(∀x∈l,x∈S)->l.length<=S.length
 |[],_,_,_=>by simp
 |x::l,S,nd,h=>by
  rw[awK]at nd;have hx:=h x avI;have:=Ge (l:=l) (S:=S.erase x) nd.2 λy hy=>by
   have:y≠x:=λz=>nd.1 (z ▸ hy);exact(List.mem_erase_of_ne this).mpr (h y (avG _ hy))
  rw[List.length_erase_of_mem hx]at this;have:=List.length_pos_of_mem hx;rw[avO];omega
def Q7(c:aF):List Rw:=c.held.map (λr=>(r.1,r.2.2))++c.bs.map λb=>(b.sd.o,b.sd.due.getD [])
def acW{c:aF}{near:ListInt}{r:Rw}(h:r∈inR c near):∃g,(r.1,g,r.2)∈c.held/\g∈near:=by
 unfold inR at h;let⟨x,h1,rfl⟩:=avM.mp h
 let⟨h2,h3⟩:=av3.mp h1
 exact⟨x.2.1,h2,by simpa using h3⟩
def acs{c:aF}{lo:Int}{near:ListInt}{r:Rw}(h:r∈Jm c lo near):∃(i:Nat) (b:bZ),c.bs[i]?=some b/\b.sd.o=r.1/\b.sd.due=some r.2/\b.sd.al=true/\b.sd.g∈near/\(i:Int)+1≠lo:=by
 unfold Jm at h;let⟨x,h1,rfl⟩:=avM.mp h
 let⟨h2,h3⟩:=av3.mp h1
 let⟨i,hi,rfl⟩:=List.mem_mapIdx.mp h2
 simp![avD,awO,avU,beq_eq_false_iff_ne]at h3;let⟨⟨h4,h5⟩,h6,h7⟩:=h3
 refine⟨i,c.bs[i],avE hi,rfl,?_,h7,h6,h5⟩;cases hd:c.bs[i].sd.due with
 |none=>simp[hd]at h4
 |some e=>rfl
def nZ{c:aF}{lo x:Int}{r:Rw}(h:r∈cJ c lo x):r∈Q7 c:=by
 unfold Q7;rcases avR.mp h with h|h
 .let⟨g,h1,_⟩:=acW h
  exact awk _ (avM.mpr ⟨_,h1,rfl⟩)
 .let⟨i,b,h1,h2,h3,_⟩:=acs h
  refine awy _ (avM.mpr ⟨b,avK h1,?_⟩);rw[h2,h3];rfl
section
variable{n s:Nat}{c:aF}(I:Inv n s c)
include I
theorem Inv.few{R:List Rw}(h:∀r∈R,r∈Q7 c):R.eraseDups.length<=s:=by
 have h1:=Ge (l:=bA R) (S:=Q7 c) (ajl (S7 R)) λr hr=>h r (lX.mp hr);rw[sJ]at h1;have:(Q7 c).length=c.held.length+c.bs.length:=by simp[Q7]
 have:=I.hL;omega
theorem Inv.Lh{lo x:Int}:qY (cJ c lo x):=λr hr=>by
 rcases avR.mp hr with h|h
 .let⟨g,h1,_⟩:=acW h
  exact fK (I.hE _ h1).2.2
 .let⟨i,b,h1,h2,h3,_⟩:=acs h
  exact fK (I.due b (avK h1) _ h3)
theorem Inv.bi:Oj (2*n) c:=⟨λb hb=>fK (I.ear b hb),I.en⟩
theorem Inv.mk1{o g:Int}(h:bM c o g≠[]):∃r,bM c o g=firstM c o g::r/\cX (firstM c o g)=true:=by
 cases hm:bM c o g with
 |nil=>exact absurd hm h
 |cons m r=>
  refine⟨r,by simp[firstM,hm],?_⟩;have:m∈bM c o g:=by rw[hm];exact avI
  unfold bM at this;let⟨x,h1,rfl⟩:=avM.mp this
  have e:firstM c o g=x.2.2:=by simp[firstM,hm]
  rw[e];exact(I.hE x (av3.mp h1).1).2.2
end
def Ir{c:aF}{o g:Int}{m:ListInt}:m∈bM c o g↔(o,g,m)∈c.held:=by
 unfold bM;rw[avM];constructor
 .rintro⟨⟨x,y,z⟩,h,rfl⟩;let⟨h1,h2⟩:=av3.mp h
  simp at h2;let⟨rfl,rfl⟩:=h2
  exact h1
 .intro h;exact⟨_,av3.mpr ⟨h,by simp⟩,rfl⟩
def Aq{c:aF}{o g:Int}:bM c o g≠[]↔∃m,(o,g,m)∈c.held:=by
 constructor
 .intro h;let⟨m,hm⟩:=List.exists_mem_of_ne_nil _ h
  exact⟨m,Ir.mp hm⟩
 .rintro⟨m,hm⟩ z;have:=Ir.mpr hm;rw[z]at this;cases this
def Hj{x y:ListInt}(hx:cX x=true)(hy:cX y=true):cX (dN x y)=true:=by
 have lx:=fK hx;have ly:=fK hy;unfold cX at *;simp![avD,awO,av1]at *;refine⟨by simp[dN];omega,λd hd=>?_⟩;unfold dN at hd;let⟨p,hp,rfl⟩:=avM.mp hd
 have h1:=hx.2 p.1 (List.of_mem_zip hp).1;have h2:=hy.2 p.2 (List.of_mem_zip hp).2
 split<;>omega
def KY(n:Nat)(x:ListInt):okd (n+1) (aG x)=true:=by show okd (n+1) (.tuple (x.map PyData.int))=true;rw[okd];exact YL n x
def akr(x y:ListInt):DY (aG x) (aG y)=.ok (.bool (decide (x=y))):=by
 show(Out.when (okd 12 (aG x)&&okd 12 (aG y)) (.ok (PyData.eqv (aG x) (aG y)))).bind _=_
 rw[KY 11,KY 11,aco,Cd];rfl
def alr(neg:Bool)(m:ListInt)(ms:List ListInt):inD neg (aG m) (.list (ms.map aG))=.ok (.bool (neg ^^ decide (m∈ms))):=by
 have h1:iV 12 (ms.map aG)=true:=Bl.mpr λd hd=>by
  let⟨x,_,rfl⟩:=avM.mp hd
  exact KY 11 x
 have h2:((ms.map aG).any λz=>PyData.eqv z (aG m))=decide (m∈ms):=by
  induction ms with
  |nil=>simp
  |cons x ms ih=>
   have h1':iV 12 (ms.map aG)=true:=Bl.mpr λd hd=>by
    let⟨x,_,rfl⟩:=avM.mp hd
    exact KY 11 x
   rw[List.map_cons,awz,ih h1',aco,Cd];by_cases h:x=m
   .simp[h]
   .have:¬m=x:=λz=>h z.symm;simp[h,this]
 show(Out.when (okd 12 (aG m)&&iV 12 (ms.map aG)) (.ok ((ms.map aG).any λz=>PyData.eqv z (aG m)))).bind _=_
 rw[h1,h2,KY 11];rfl
def Sp(M:Mo)(L:Lay)(o:aY Dat):Res->Prop
 |.ok d c'=>∃M' bs,o=.ok d M'/\At M' { L with bs:=bs } c'
 |.no x=>o=.exc x M
section
variable{M:Mo}{L:Lay}{c:aF}(a:At M L c){n s:Nat}(I:Inv n s c)(hs:s<=76)(hn:n<=199)
include a I hn
theorem adZ:Sp M L (gQ M [ob L.c]) (cW c .owner):=by
 let⟨M',h1,h2⟩:=Qq a (λo ho=>(I.own o ho).2) (by have:=I.ownL;omega)
 exact⟨M',L.bs,h1,h2⟩
theorem acn(x:Int):Sp M L (fZ M [ob L.c,.int x]) (cW c (.ground x)):=by
 have hc:=a.hc;let⟨n,m,hg⟩:=a.hg
 have hl:=I.al;have h1:=Z9 a I.gr #[] x;simp![cW];by_cases h:0<=x/\x<=9
 .rw[awS h]at h1 |-
  let⟨M',h1,h2⟩:=h1
  exact⟨M',L.bs,by simp[fZ,ou,hc,aC,hg,dh,mD,h1],h2⟩
 .rw[awT h]at h1 |-
  show _=_;simp[fZ,ou,hc,aC,hg,dh,mD,h1]
include hs
omit hn
theorem aaJ(o x:Int)(e:ListInt)(he:e.length=6)(hv:Vg c x):iG M [ob L.c,.int o,aG e,.int x]=match DP o e (bA (cJ c 0 x)) (roomOf c x) with
  |[]=>.ok .none
  |r::_=>.exc (JN o e r):=by
 have h1:=I.hL;have h76:=I.few (R:=cJ c 0 x) λr hr=>nZ hr;have:=aaj a I.gr #[] #[] o x e he hv (by rw[jm a];omega) (by rw[jm a];exact I.Lh);rw[jm a]at this;exact this
theorem aeg(o g:Int)(m:ListInt)(hm:m.length<=1000):Sp M L (dJ M [ob L.c,.int o,.int g,aG m]) (cW c (.enrol o g m)):=by
 have hc:=a.hc;have hr:=a.hr;let⟨n1,m1,hg⟩:=a.hg
 have hL:=I.hL;have h1:=mY a o;have h2:=yJ a g;have h3:=R7 M m hm;have h4:=Mq a #[] o g;simp![cW,vY,Aa,Qs,DN];by_cases e1:o∈c.own;rotate_left
 .rw[awT e1]at h1 |-
  show _=_;simp[dJ,gR,hc,aC,aq,h1]
 rw[awS e1]at h1 |-
 by_cases e2:Vg c g;rotate_left
 .rw[awT e2]at h2 |-
  show _=_;simp[dJ,gR,hc,aC,aq,h1,hg,dh,au,h2]
 rw[awS e2]at h2 |-
 by_cases e3:cX m=true;rotate_left
 .rw[awT e3]at h3 |-
  show _=_;simp[dJ,gR,hc,aC,aq,h1,hg,dh,au,h2,h3]
 rw[awS e3]at h3 |-
 have h5:DY (.tuple (m.map PyData.int)) (.tuple [.int 0,.int 0,.int 0,.int 0,.int 0,.int 0])=_:=akr m [0,0,0,0,0,0];by_cases e4:m=[0,0,0,0,0,0]
 .rw[awS e4];rw[decide_eq_true e4]at h5;show _=_;simp[dJ,gR,hc,aC,aq,h1,hg,dh,au,h2,h3,jT];simp[h5]
 rw[awT e4];rw[decide_eq_false e4]at h5;have h6:=alr false m (bM c o g);by_cases e5:m∈bM c o g
 .rw[awS e5];rw[decide_eq_true e5]at h6;simp at h6;show _=_;simp[dJ,gR,hc,aC,aq,h1,hg,dh,au,h2,h3,jT,h5,hr,pF,cG,h4,h6]
 rw[awT e5];rw[decide_eq_false e5]at h6;simp at h6;have h7:=aaJ a I hs o g m (fK e3) e2;cases e6:DP o m (bA (cJ c 0 g)) (roomOf c g) with
 |cons r rs=>
  rw[e6]at h7;show _=_;simp[dJ,gR,hc,aC,aq,h1,hg,dh,au,h2,h3,jT,h5,hr,pF,cG,h4,h6,bY,h7]
 |nil=>
  rw[e6]at h7;have h8:=O2 a #[] o g m;rw[awT λz=>e5 (Ir.mpr z)]at h8;let⟨M',h8,h9⟩:=h8
  refine⟨M',L.bs,?_,h9⟩;simp[dJ,gR,hc,aC,aq,h1,hg,dh,au,h2,h3,jT,h5,hr,pF,cG,h4,h6,bY,h7,iY,h8]
end
@[simp]def avy (n:Nat) (b:bZ):List.lookup ("owner" : Str) (iB n b).fs=#[.int b.sd.o]:=by simp[iB]
@[simp]def avz (n:Nat) (b:bZ):List.lookup ("ground" : Str) (iB n b).fs=#[.int b.sd.g]:=by simp[iB]
@[simp]def avB (n:Nat) (b:bZ):List.lookup ("due" : Str) (iB n b).fs=#[j9 b.sd.due]:=by simp[iB]
@[simp]def avA (n:Nat) (b:bZ):List.lookup ("ear" : Str) (iB n b).fs=#[aG b.sd.ear]:=by simp[iB]
@[simp]def avv (n:Nat) (b:bZ):List.lookup ("alive" : Str) (iB n b).fs=#[.bool b.sd.al]:=by simp[iB]
section
variable{M:Mo}{L:Lay}{c:aF}(a:At M L c){n s:Nat}(I:Inv n s c)(hs:s<=76)
include a I hs
theorem aem(o g:Int):Sp M L (fM M [ob L.c,.int o,.int g]) (cW c (.leave o g)):=by
 have hc:=a.hc;have hr:=a.hr;let⟨n1,m1,hg⟩:=a.hg
 let⟨n2,hh⟩:=a.hh
 have hL:=I.hL;have h1:=mY a o;have h2:=yJ a g;have h3:=uF a #[] o g;simp![cW,vY,Aa,qN];by_cases e1:o∈c.own;rotate_left
 .rw[awT e1]at h1 |-
  show _=_;simp[fM,jV,hc,aC,aq,h1]
 rw[awS e1]at h1 |-
 by_cases e2:Vg c g;rotate_left
 .rw[awT e2]at h2 |-
  show _=_;simp[fM,jV,hc,aC,aq,h1,hg,dh,au,h2]
 rw[awS e2]at h2 |-
 by_cases e3:bM c o g=[]
 .rw[awS e3]at h3 |-
  show _=_;simp[fM,jV,hc,aC,aq,h1,hg,dh,au,h2,aP,h3]
 rw[awT e3]at h3 |-
 have h4:rA M [ob L.h,.list [.int g]]=_:=U7 a #[] [g];have key:=fj (tg:=aV [3,4]) (te:=aH DY (bh "owner" (4)) (1)) (M:=M) (Z:=[#[ob L.c],#[.int o],#[.int g],none,none]) nb (λx=>.bool (x.2.2.sd.o==o)) ((bG L c).filter λx=>decide (x.2.2.sd.g∈[g])&&x.2.2.sd.al) λx hx=>⟨[#[ob L.c],#[.int o],#[.int g],#[.int ((x.1:Int)+1)],#[ob x.2.1]],by simp[nb],by
  let⟨n,hb⟩:=a.hb' (av3.mp hx).1
  simp[hb,iB]⟩
 have hl:((bG L c).filter λx=>decide (x.2.2.sd.g∈[g])&&x.2.2.sd.al).length<=50000:=av2 (avT _ _) (by rw[a.len'];omega);have h5:Uk (.list (((bG L c).filter λx=>decide (x.2.2.sd.g∈[g])&&x.2.2.sd.al).map λx=>PyData.bool (x.2.2.sd.o==o)))=.ok (.bool (c.bs.any (aas o g))):=by
  have e:(((bG L c).filter λx=>decide (x.2.2.sd.g∈[g])&&x.2.2.sd.al).map λx=>PyData.bool (x.2.2.sd.o==o))=(((bG L c).filter λx=>decide (x.2.2.sd.g∈[g])&&x.2.2.sd.al).map λx=>(x.2.2.sd.o==o)).map PyData.bool:=by rw[avZ];rfl
  rw[e,abC,awD,List.any_filter];have e2:=Hg a;have e3:(bG L c).map (λx=>x.2.2)=c.bs:=by
   have:(bG L c).map (λx=>x.2.2)=((bG L c).map (λx=>(x.1,x.2.2))).map (·.2):=by rw[avZ];rfl
   rw[this,e2];apply av6;intro i;simp;cases c.bs[i]?<;>rfl
  conv=>rhs;rw[<-e3]
  rw[awD];rfl
 cases e4:c.bs.any (aas o g) with
 |true=>
  rw[e4]at h5;show _=_;simp[fM,jV,hc,aC,aq,h1,hg,dh,au,h2,aP,h3,hh,cO,jR];simp at h4 key h5 hl;simp[h4,key,hl,h5]
 |false=>
  rw[e4]at h5;have h6:=alN a #[] I.held o g;rw[awT e3]at h6;let⟨M',h6,h7⟩:=h6
  refine⟨M',L.bs,?_,h7⟩;simp[fM,jV,hc,aC,aq,h1,hg,dh,au,h2,aP,h3,hh,cO,jR];simp at h4 key h5 hl;simp[h4,key,hl,h5,hc,aC,hr,pF,Am,h6]
theorem aee(o g:Int)(m:ListInt)(hm:m.length<=1000):Sp M L (fO M [ob L.c,.int o,.int g,aG m]) (cW c (.bring o g m)):=by
 have hc:=a.hc;have hr:=a.hr;let⟨n1,m1,hg⟩:=a.hg
 let⟨n2,hh⟩:=a.hh
 have hL:=I.hL;have h1:=mY a o;have h2:=yJ a g;have h3:=R7 M m hm;have h4:=uF a #[] o g;simp![cW,vY,Aa,Qs,qN];by_cases e1:o∈c.own;rotate_left
 .rw[awT e1]at h1 |-
  show _=_;simp[fO,jW,hc,aC,aq,h1]
 rw[awS e1]at h1 |-
 by_cases e2:Vg c g;rotate_left
 .rw[awT e2]at h2 |-
  show _=_;simp[fO,jW,hc,aC,aq,h1,hg,dh,au,h2]
 rw[awS e2]at h2 |-
 by_cases e3:cX m=true;rotate_left
 .rw[awT e3]at h3 |-
  show _=_;simp[fO,jW,hc,aC,aq,h1,hg,dh,au,h2,h3]
 rw[awS e3]at h3 |-
 by_cases e4:bM c o g=[]
 .rw[awS e4]at h4 |-
  show _=_;simp[fO,jW,hc,aC,aq,h1,hg,dh,au,h2,h3,aP,h4]
 rw[awT e4]at h4 |-
 let⟨M',h,h5,h6⟩:=Pq a #[] (.brought o g m) #[]
 refine⟨M',L.bs++[h],?_,h6⟩;simp[Fi.dat]at h5;simp[fO,jW,hc,aC,aq,h1,hg,dh,au,h2,h3,aP,h4,hh,cO,j6,h5]
theorem af9(k:Int):Sp M L (iH M [ob L.c,.int k]) (cW c (.bear k)):=by
 have hc:=a.hc;let⟨n2,hh⟩:=a.hh
 have hL:=I.hL;have h1:=yG a #[] k;simp![cW,markB,yS];cases hk:bk c k with
 |none=>
  rw[hk]at h1;show _=_;simp[iH,oJ,hc,aC,hh,cO,aN,h1]
 |some b=>
  rw[hk]at h1;let⟨_,_,_,_,n3,hb⟩:=oH a hk
  show Sp M L _ (if b.sd.al=true then _ else _);cases e1:b.sd.al with
  |false=>
   simp[e1]at h1;show _=_;simp[iH,oJ,hc,aC,hh,cO,aN,h1]
  |true=>
   simp[e1]at h1;cases e2:b.sd.due with
   |none=>
    simp[e2]at h1;show _=_;simp[iH,oJ,hc,aC,hh,cO,aN,h1]
   |some e=>
    simp[e2]at h1;simp![if_true];let⟨M',h,h5,h6⟩:=Pq a #[] (.born k b.sd.o b.sd.g) #[]
    refine⟨M',L.bs++[h],?_,h6⟩;simp[Fi.dat]at h5;simp[iH,oJ,hc,aC,hh,cO,aN,h1,hb,iB,j6,h5]
theorem ajA(k:Int)(hn:n<=1000):Sp M L (j8 M [ob L.c,.int k]) (cW c (.die k)):=by
 have hc:=a.hc;let⟨n2,hh⟩:=a.hh
 have hL:=I.hL;have h1:=HD a #[] k;simp![cW,yS];cases hk:bk c k with
 |none=>
  rw[hk]at h1;show _=_;simp[j8,uI,hc,aC,hh,cO,bD,h1]
 |some b=>
  rw[hk]at h1;let⟨_,_,h3,h4,n3,hb⟩:=oH a hk
  show Sp M L _ (if b.sd.al=true then _ else _);cases e1:b.sd.al with
  |false=>
   simp[e1]at h1;show _=_;simp[j8,uI,hc,aC,hh,cO,bD,h1]
  |true=>
   simp[e1]at h1;have mem:=avK h4;simp![if_true];have h5:=vM hb .died (by rw[fK (I.ear b mem)];decide) (by have:=I.en b mem;omega);refine⟨_,L.bs,?_,Ax (n:=n3) (e:=.died) a h3 h4⟩;simp[En.dat]at h5;simp[j8,uI,hc,aC,hh,cO,bD,h1,hb,bF,h5,uJ]
theorem afI(k p:Int)(hn:n<=1000):Sp M L (fJ M [ob L.c,.int k,.int p]) (cW c (.tear k p)):=by
 have hc:=a.hc;let⟨n2,hh⟩:=a.hh
 have hL:=I.hL;have h1:=HD a #[] k;simp![cW,yS];cases hk:bk c k with
 |none=>
  rw[hk]at h1;show _=_;simp[fJ,jF,hc,aC,hh,cO,bD,h1]
 |some b=>
  rw[hk]at h1;let⟨_,_,h3,h4,n3,hb⟩:=oH a hk
  show Sp M L _ (if b.sd.al=true then _ else _);cases e1:b.sd.al with
  |false=>
   simp[e1]at h1;show _=_;simp[fJ,jF,hc,aC,hh,cO,bD,h1]
  |true=>
   simp[e1]at h1;have mem:=avK h4;have h6:=fK (I.ear b mem);simp![if_true];by_cases e2:0<=p/\p<6
   .rw[awS e2];obtain⟨q,rfl⟩:∃q:Nat,p=q:=⟨p.toNat,#[]⟩;have hq:q<6:=#[];have hq2:q<b.sd.ear.length:=#[];have hq3:(q:Int)<6:=#[];have h7:b.sd.ear[q]?.getD 0=b.sd.ear[q]:=by simp[hq2]
    simp![Int.toNat_natCast,List.getD_eq_getElem?_getD,h7];have h5:=vM hb (.torn q) #[] (by have:=I.en b mem;omega);by_cases e3:9<=b.sd.ear[q]
    .rw[awS e3];show _=_;simp[fJ,jF,hc,aC,hh,cO,bD,h1,hb,iB,jo,hq3,cP,hq2,e3]
    .rw[awT e3];refine⟨_,L.bs,?_,Ax (n:=n3) (e:=.torn q) a h3 h4⟩;simp[En.dat]at h5;have hl:∀i,(M.set (Pr.hk L k) i)[Pr.hk L k]?=some i:=λi=>by rw[bB hb,awS rfl]
     simp[fJ,jF,hc,aC,hh,cO,bD,h1,hb,jo,hq3,cP,bF,h5,hl,hq2,e3,uJ,go]
   .rw[awT e2];show _=_;by_cases e3:0<=p
    .have e4:¬p<6:=λz=>e2 ⟨e3,z⟩;simp[fJ,jF,hc,aC,hh,cO,bD,h1,jo,e3,e4]
    .simp[fJ,jF,hc,aC,hh,cO,bD,h1,jo,e3]
end
def Inv.alive{n s:Nat}{c:aF}(I:Inv n s c){b:bZ}(h:b∈c.bs)(h2:b.sd.al=true):bM c b.sd.o b.sd.g≠[]/\Vg c b.sd.g/\b.sd.o∈c.own:=by
 let⟨m,hm⟩:=I.rt b h h2
 exact⟨Aq.mpr ⟨m,hm⟩,(I.hE _ hm).2.1,(I.hE _ hm).1⟩
section
variable{M:Mo}{L:Lay}{c:aF}(a:At M L c){n s:Nat}(I:Inv n s c)(hs:s<=76)(hn:n<=1000)
include a I hs hn
theorem ajy(k:Int):Sp M L (jk M [ob L.c,.int k]) (cW c (.cut k)):=by
 have hc:=a.hc;let⟨n2,hh⟩:=a.hh
 have hL:=I.hL;have h1:=HD a #[] k;simp![cW,yS,DN];cases hk:bk c k with
 |none=>
  rw[hk]at h1;show _=_;simp[jk,pP,hc,aC,hh,cO,bD,h1]
 |some b=>
  rw[hk]at h1;let⟨_,_,h3,h4,n3,hb⟩:=oH a hk
  show Sp M L _ (if b.sd.al=true then _ else _);cases e1:b.sd.al with
  |false=>
   simp[e1]at h1;show _=_;simp[jk,pP,hc,aC,hh,cO,bD,h1]
  |true=>
   simp[e1]at h1;simp![if_true];have mem:=avK h4;let⟨q1,q2,q3⟩:=I.alive mem e1
   let⟨r,q4,q5⟩:=I.mk1 q1
   have h6:=fK (I.ear b mem);have h7:=Dz a #[] _ _ q4;have h8:=FP M b.sd.ear (firstM c b.sd.o b.sd.g) #[];have q6:=fK (Hj (I.ear b mem) q5);generalize dN b.sd.ear (firstM c b.sd.o b.sd.g)=e at h8 q6 |-
   have h9:=aaJ a I hs b.sd.o b.sd.g e q6 q2;cases e2:DP b.sd.o e (bA (cJ c 0 b.sd.g)) (roomOf c b.sd.g) with
   |cons r rs=>
    rw[e2]at h9;show _=_;simp[jk,pP,hc,aC,hh,cO,bD,h1,hb,iB,bW,h7,h8,bY,h9]
   |nil=>
    rw[e2]at h9;have h5:=vM hb (.cut e) #[] (by have:=I.en b mem;omega);refine⟨_,L.bs,?_,Ax (n:=n3) (e:=.cut e) a h3 h4⟩;simp[En.dat]at h5;simp[jk,pP,hc,aC,hh,cO,bD,h1,hb,bW,bF,h5,bY,h7,h8,h9,uJ]
theorem agl(x:Int):Sp M L (iI M [ob L.c,.int x]) (cW c (.part x)):=by
 have hc:=a.hc;let⟨n1,m1,hg⟩:=a.hg
 have h1:=ago a I.gr x;have e0:(aZ c x).filter (λy=>!(y==x))=vf c x:=rfl;rw[e0]at h1;simp![cW,Aa];by_cases e1:Vg c x
 .rw[awS e1]at h1 |-
  by_cases e2:vf c x=[]
  .rw[awS e2]at h1 |-
   show _=_;simp[iI,rB,hc,aC,hg,dh,ql,h1]
  .rw[awT e2]at h1 |-
   let⟨M',h1,h2⟩:=h1
   refine⟨M',L.bs,?_,h2⟩;simp[iI,rB,hc,aC,hg,dh,ql,h1]
 .rw[awT e1]at h1 |-
  show _=_;simp[iI,rB,hc,aC,hg,dh,ql,h1]
theorem akt(x y:Int)(hx:Vg c x)(hy:Vg c y):lO M [ob L.c,.int x,.int y]=.ok (.list ((oO (bA (Lp c x y)) (yC c x y)).map pairD)):=by
 have h1:=I.hL;have f1:=I.few (R:=cJ c 0 x) λr hr=>nZ hr;have f2:=I.few (R:=cJ c 0 y) λr hr=>nZ hr;have f3:=I.few (R:=Lp c x y) λr hr=>by
  rcases avR.mp hr with h|h
  .exact nZ (lX.mp h)
  .exact nZ (lX.mp h)
 have e:La L c x y=Lp c x y:=by unfold La Lp;rw[jm a,jm a]
 have:=acJ a I.gr #[] #[] x y hx hy (by rw[jm a];omega) (by rw[jm a];omega) (by rw[e];omega) (by rw[jm a];exact I.Lh) (by rw[jm a];exact I.Lh);rw[e]at this;exact this
theorem adk(x y:Int):Sp M L (eV M [ob L.c,.int x,.int y]) (cW c (.zG x y)):=by
 have hc:=a.hc;let⟨n1,m1,hg⟩:=a.hg
 have h1:=yJ a y;have h2:=Dq a I.gr x;simp![cW,Aa];by_cases e1:Vg c y;rotate_left
 .rw[awT e1]at h1 |-
  show _=_;simp[eV,jN,hc,aC,hg,dh,au,h1]
 rw[awS e1]at h1 |-
 by_cases e2:Vg c x;rotate_left
 .rw[awT e2]at h2 |-
  show _=_;simp[eV,jN,hc,aC,hg,dh,au,h1,bR,h2]
 rw[awS e2]at h2 |-
 have h3:=Kc false y (aZ c x);have h4:=afe a I.gr x y e2 e1;by_cases e3:y∈aZ c x
 .rw[awS e3];rw[decide_eq_true e3]at h3;show _=_;simp[eV,jN,hc,aC,hg,dh,au,h1,bR,h2,h3]
 rw[awT e3]at h4 |-
 rw[decide_eq_false e3]at h3;have h5:=akt a I hs hn x y e2 e1;have h6:∀p∈oO (bA (Lp c x y)) (yC c x y),p.1.2.length=6:=λp hp=>by
  unfold oO at hp;let⟨q,hq,hp⟩:=List.mem_flatMap.mp hp
  let⟨r,_,rfl⟩:=avM.mp hp
  let⟨i,hi,rfl⟩:=List.mem_mapIdx.mp hq
  have hm:=lX.mp (awh hi);rcases avR.mp hm with h|h
  .exact I.Lh _ (lX.mp h)
  .exact I.Lh _ (lX.mp h)
 cases e4:oO (bA (Lp c x y)) (yC c x y) with
 |cons p ps=>
  rw[e4]at h5 h6;have h7:=FP M p.1.2 p.2.2 (by have:=h6 p avI;omega);show _=_;simp[eV,jN,hc,aC,hg,dh,au,h1,bR,h2,h3,pB,h5];simp[pairD,Ear.rD,Ear.dT,h7,JN]
 |nil=>
  rw[e4]at h5;let⟨M',h4,h7⟩:=h4
  refine⟨M',L.bs,?_,h7⟩;simp[eV,jN,hc,aC,hg,dh,au,h1,bR,h2,h3,pB,h5,yq,h4]
theorem agi(e g x:Int):Sp M L (cI M [ob L.c,.int e,.int g,.int x]) (cW c (.heir e g x)):=by
 have hc:=a.hc;have hr:=a.hr;let⟨n1,m1,hg⟩:=a.hg
 have hL:=I.hL;have h1:=mY a e;have h2:=yJ a g;have h3:=uF a #[] e g;simp![cW,vY,Aa,qN];by_cases e1:e∈c.own;rotate_left
 .rw[awT e1]at h1 |-
  show _=_;simp[cI,eO,hc,aC,aq,h1]
 rw[awS e1]at h1 |-
 by_cases e2:Vg c g;rotate_left
 .rw[awT e2]at h2 |-
  show _=_;simp[cI,eO,hc,aC,aq,h1,hg,dh,au,h2]
 rw[awS e2]at h2 |-
 by_cases e3:1<=x/\x<=3;rotate_left
 .rw[awT e3];show _=_;by_cases e4:1<=x
  .have e5:¬x<=3:=λz=>e3 ⟨e4,z⟩;simp[cI,eO,hc,aC,aq,h1,hg,dh,au,h2,jy,lV,e4,e5]
  .simp[cI,eO,hc,aC,aq,h1,hg,dh,au,h2,jy,lV,e4]
 rw[awS e3];let⟨e4,e5⟩:=e3
 by_cases e6:bM c e g=[]
 .rw[awS e6]at h3 |-
  show _=_;simp[cI,eO,hc,aC,aq,h1,hg,dh,au,h2,jy,lV,e4,e5,aP,h3]
 rw[awT e6]at h3 |-
 let⟨r,q4,q5⟩:=I.mk1 e6
 have h7:=Dz a #[] _ _ q4;have f1:=I.few (R:=cJ c 0 g) λr hr=>nZ hr;have h8:=xO a I.gr #[] #[] g (by rw[jm a];omega);rw[awS e2,jm a]at h8;have h9:=yK a I.gr g;rw[awS e2]at h9;have h10:=Z7 M (firstM c e g) x (bA (cJ c 0 g)) (roomOf c g) q5 ⟨#[],e5⟩ (wg I.Lh) (by rw[sJ];omega);cases e7:(Tn (firstM c e g) x).find? (Ep (bA (cJ c 0 g)) (roomOf c g)) with
 |none=>
  rw[e7]at h10;show _=_;simp[cI,eO,hc,aC,aq,h1,hg,dh,au,h2,jy,lV,e4,e5,aP,h3,bW,h7,bK,h8,bL,h9,h10]
 |some mk=>
  rw[e7]at h10;let⟨M1,k1,a1⟩:=Qq a (λo ho=>(I.own o ho).2) (by have:=I.ownL;omega)
  have k2:=O2 a1 (by show c.held.length<=50000;omega) (c.count+1) g mk;rw[awT (λz=>by
   have:=(I.own _ (I.hE _ z).1).2;simp at this
   omega)]at k2
  let⟨M2,k2,a2⟩:=k2
  have hc1:=a1.hc;have hr1:=a1.hr;refine⟨M2,L.bs,?_,a2⟩;simp[cI,eO,hc,aC,aq,h1,hg,dh,au,h2,jy,lV,e4,e5,aP,h3,bW,h7,bK,h8,bL,h9,h10,dw,k1];simp[hc1,aC,hr1,pF,iY,k2]
end
section
variable{M:Mo}{L:Lay}{c:aF}(a:At M L c){n s:Nat}(I:Inv n s c)(hs:s<=76)(hn:n<=1000)
include a I hs hn
theorem ahg(k o:Int):Sp M L (dH M [ob L.c,.int k,.int o]) (cW c (.sell k o)):=by
 have hc:=a.hc;let⟨n2,hh⟩:=a.hh
 have hL:=I.hL;have h1:=yG a #[] k;have h2:=mY a o;simp![cW,markB,yS,DN,vY,qN];cases hk:bk c k with
 |none=>
  rw[hk]at h1;show _=_;simp[dH,gG,hc,aC,hh,cO,aN,h1]
 |some b=>
  rw[hk]at h1;let⟨k1,k2,h3,h4,n3,hb⟩:=oH a hk
  show Sp M L _ (if b.sd.al=true then _ else _);cases e1:b.sd.al with
  |false=>
   simp[e1]at h1;show _=_;simp[dH,gG,hc,aC,hh,cO,aN,h1]
  |true=>
   simp[e1]at h1;simp![if_true];cases e2:b.sd.due with
   |none=>
    simp[e2]at h1;show _=_;simp[dH,gG,hc,aC,hh,cO,aN,h1]
   |some e0=>
    simp[e2]at h1;show Sp M L _ (if o∈c.own then _ else _);by_cases e3:o∈c.own;rotate_left
    .rw[awT e3]at h2 |-
     show _=_;simp[dH,gG,hc,aC,hh,cO,aN,h1,aq,h2]
    rw[awS e3]at h2 |-
    by_cases e4:b.sd.o=o
    .rw[awS e4];show _=_;simp[dH,gG,hc,aC,hh,cO,aN,h1,aq,h2,hb,e4]
    rw[awT e4];have h5:=uF a #[] o b.sd.g;by_cases e5:bM c o b.sd.g=[]
    .rw[awS e5]at h5 |-
     show _=_;simp[dH,gG,hc,aC,hh,cO,aN,h1,aq,h2,hb,e4,aP,h5]
    rw[awT e5]at h5 |-
    have mem:=avK h4;let⟨q1,q2,q3⟩:=I.alive mem e1
    let⟨r,q4,q5⟩:=I.mk1 e5
    have h6:=fK (I.ear b mem);have h7:=Dz a #[] _ _ q4;have h8:=FP M b.sd.ear (firstM c o b.sd.g) #[];have q6:=fK (Hj (I.ear b mem) q5);generalize dN b.sd.ear (firstM c o b.sd.g)=e at h8 q6 |-
    have f1:=I.few (R:=cJ c k b.sd.g) λr hr=>nZ hr;have h9:=Hr a I.gr #[] #[] k b.sd.g (by rw[jm a];omega);rw[awS q2,jm a]at h9;have h10:=yK a I.gr b.sd.g;rw[awS q2]at h10;have h11:=RX M o e (bA (cJ c k b.sd.g)) (roomOf c b.sd.g) q6 (wg I.Lh) (abb #[]);cases e6:DP o e (bA (cJ c k b.sd.g)) (roomOf c b.sd.g) with
    |cons r rs=>
     rw[e6]at h11;show _=_;simp[dH,gG,hc,aC,hh,cO,aN,h1,aq,h2,hb,e4,aP,h5,bW,h7,h8,cZ,h9,bL,h10,h11,JN]
    |nil=>
     rw[e6]at h11;have h12:=vM hb (.sold o e) #[] (by have:=I.en b mem;omega);have a1:=Ax (n:=n3) (e:=.sold o e) a h3 h4;have hk2:bk (ig c (k-1).toNat (.sold o e)) k=some (uJ b (.sold o e)):=by unfold bk;rw[awS ⟨k1,by simpa [ig] using k2⟩,Bh,awS rfl,h4];rfl
     let⟨M',h13,a2⟩:=JM a1 (by simp[ig];omega) (I.bi.step _ _ q6) #[] k hk2
     have hc1:=a1.hc;let⟨n4,hh1⟩:=a1.hh
     refine⟨M',L.bs,?_,a2⟩;simp[En.dat]at h12;simp![uJ]at h13 hc1 hh1;simp[dH,gG,hc,aC,hh,cO,aN,h1,aq,h2,hb,e4,aP,h5,bW,h7,h8,cZ,h9,bL,h10,h11,bF,h12];simp[hc1,aC,hh1,cO,jc,h13]
theorem afy(k g:Int):Sp M L (dG M [ob L.c,.int k,.int g]) (cW c (.move k g)):=by
 have hc:=a.hc;let⟨n2,hh⟩:=a.hh
 let⟨n5,m5,hg⟩:=a.hg
 have hL:=I.hL;have h1:=yG a #[] k;have h2:=yJ a g;simp![cW,markB,yS,DN,Aa,qN];cases hk:bk c k with
 |none=>
  rw[hk]at h1;show _=_;simp[dG,gD,hc,aC,hh,cO,aN,h1]
 |some b=>
  rw[hk]at h1;let⟨k1,k2,h3,h4,n3,hb⟩:=oH a hk
  show Sp M L _ (if b.sd.al=true then _ else _);cases e1:b.sd.al with
  |false=>
   simp[e1]at h1;show _=_;simp[dG,gD,hc,aC,hh,cO,aN,h1]
  |true=>
   simp[e1]at h1;simp![if_true];cases e2:b.sd.due with
   |none=>
    simp[e2]at h1;show _=_;simp[dG,gD,hc,aC,hh,cO,aN,h1]
   |some e=>
    simp[e2]at h1;show Sp M L _ (if Vg c g then _ else _);by_cases e3:Vg c g;rotate_left
    .rw[awT e3]at h2 |-
     show _=_;simp[dG,gD,hc,aC,hh,cO,aN,h1,hg,dh,au,h2]
    rw[awS e3]at h2 |-
    by_cases e4:b.sd.g=g
    .rw[awS e4];show _=_;simp[dG,gD,hc,aC,hh,cO,aN,h1,hg,dh,au,h2,hb,e4]
    rw[awT e4];have h5:=uF a #[] b.sd.o g;by_cases e5:bM c b.sd.o g=[]
    .rw[awS e5]at h5 |-
     show _=_;simp[dG,gD,hc,aC,hh,cO,aN,h1,hg,dh,au,h2,hb,e4,aP,h5]
    rw[awT e5]at h5 |-
    have mem:=avK h4;have h6:=fK (I.ear b mem);have q6:=fK (I.due b mem e e2);have h11:=aaJ a I hs b.sd.o g e q6 e3;cases e6:DP b.sd.o e (bA (cJ c 0 g)) (roomOf c g) with
    |cons r rs=>
     rw[e6]at h11;show _=_;simp[dG,gD,hc,aC,hh,cO,aN,h1,hg,dh,au,h2,hb,e4,aP,h5,e2,j9,bY,h11]
    |nil=>
     rw[e6]at h11;have h12:=vM hb (.moved g) #[] (by have:=I.en b mem;omega);have a1:=Ax (n:=n3) (e:=.moved g) a h3 h4;have hk2:bk (ig c (k-1).toNat (.moved g)) k=some (uJ b (.moved g)):=by unfold bk;rw[awS ⟨k1,by simpa [ig] using k2⟩,Bh,awS rfl,h4];rfl
     let⟨M',h13,a2⟩:=JM a1 (by simp[ig];omega) (I.bi.step _ _ awM) #[] k hk2
     have hc1:=a1.hc;let⟨n4,hh1⟩:=a1.hh
     refine⟨M',L.bs,?_,a2⟩;simp[En.dat]at h12;simp![uJ]at h13 hc1 hh1;simp[dG,gD,hc,aC,hh,cO,aN,h1,hg,dh,au,h2,hb,e4,aP,h5,e2,j9,bY,h11,bF,h12];simp[hc1,aC,hh1,cO,jc,h13]
theorem ag6(e h:Int):Sp M L (fD M [ob L.c,.int e,.int h]) (cW c (.pass e h)):=by
 have hc:=a.hc;have hr:=a.hr;have hL:=I.hL;have h1:=mY a e;have h2:=mY a h;simp![cW,vY];by_cases e1:e∈c.own;rotate_left
 .rw[awT e1]at h1 |-
  show _=_;simp[fD,j5,hc,aC,aq,h1]
 rw[awS e1]at h1 |-
 by_cases e2:h∈c.own;rotate_left
 .rw[awT e2]at h2 |-
  show _=_;simp[fD,j5,hc,aC,aq,h1,h2]
 rw[awS e2]at h2 |-
 by_cases e3:e=h
 .rw[awS e3];show _=_;simp[fD,j5,hc,aC,aq,h1,h2,e3]
 rw[awT e3];let⟨M1,h3,a1⟩:=abx a #[] e h
 have hc1:=a1.hc;let⟨n1,hh1⟩:=a1.hh
 have h4:=ai5 a1 (by show c.bs.length<=50000;omega) e;have ehd:bG L { c with held:=handed c e h }=bG L c:=rfl;rw[ehd]at h4;generalize hX:((bG L c).filter λx=>(x.2.2.sd.o==e)&&x.2.2.sd.al)=X at h4;have hXl:X.length<=1000:=by rw[<-hX];exact av2 (avT _ _) (by rw[a.len'];omega)
 have bi1:Oj (2*n) { c with held:=handed c e h }:=⟨I.bi.ear,I.bi.en⟩;let⟨Z',M2,g1,g2,g3⟩:=Tg (tg:=aV [4,5]) (body:=uZ) (λZ=>∃x y,Z=[#[ob L.c],#[.int e],#[.int h],#[.list (X.map nb)],x,y])
  (λi c1=>Oj (2*n+i) c1/\c1.bs.length=c.bs.length) (.passed h) L 1000 X M1 { c with held:=handed c e h } [#[ob L.c],#[.int e],#[.int h],#[.list (X.map nb)],none,none] 0 #[] a1 ⟨bi1,rfl⟩ ⟨none,none,rfl⟩ (λM1 c1 Z x i hi a1 p1 q1 hx=>by
   let⟨bi1,l1⟩:=p1
   let⟨x0,y0,rfl⟩:=q1
   rw[<-hX]at hx;let⟨z1,z2⟩:=Hw (av3.mp hx).1
   have hl:x.1<c1.bs.length:=by rw[l1];exact(avH.mp z2).1
   have z3:=avE hl;let⟨nx,hx1⟩:=a1.hb _ _ _ z1 z3
   have mem:=awh hl;have hb:=vM hx1 (.passed h) (by rw[bi1.ear _ mem];decide) (by have:=bi1.en _ mem;omega);refine⟨[#[ob L.c],#[.int e],#[.int h],#[.list (X.map nb)],#[.int ((x.1:Int)+1)],#[ob x.2.1]],[#[ob L.c],#[.int e],#[.int h],#[.list (X.map nb)],#[.int ((x.1:Int)+1)],#[ob x.2.1]],_,by simp[nb],?_,⟨_,_,rfl⟩,Ax (n:=nx) a1 z1 z3,bi1.step _ _ awM,by simp[ig,l1]⟩;have hb:oR M1 [ob x.2.1,.tuple [.str "passed",.int h]]=_:=hb
   simp[uZ,hx1,bF,hb,uJ])
 let⟨x0,y0,rfl⟩:=g2
 have g4:xK X (.passed h) { c with held:=handed c e h }=qI (λx=>(x.sd.o==e)&&x.sd.al) (.passed h) { c with held:=handed c e h }:=by rw[<-hX];exact YM a1 (λx=>(x.sd.o==e)&&x.sd.al) (.passed h)
 rw[g4]at g3;have hc2:=g3.hc;have hl:∀i,(M2.set L.c i)[L.c]?=some i:=λi=>by rw[bB hc2,awS rfl]
 have hk:=any_keys e c.own;rw[decide_eq_true e1]at hk;have hf:((c.own.map λo=>(PyData.int o,PyData.bool true)).filter λp=>!PyData.eqv p.1 (.int e))=(c.own.filter λo=>!(o==e)).map λo=>(PyData.int o,PyData.bool true):=by rw[List.filter_map];congr 1
 have a3:=g3.setC (n:=c.count) (own:=c.own.filter λo=>!(o==e));refine⟨_,L.bs,?_,a3⟩;have key:=fj (tg:=aV [4,5]) (te:=DG 4) (M:=M2.set L.c (aC L { qI (λx=>(x.sd.o==e)&&x.sd.al) (.passed h) { c with held:=handed c e h } with count:=c.count,own:=c.own.filter λo=>!(o==e) })) (Z:=[#[ob L.c],#[.int e],#[.int h],#[.list (X.map nb)],none,none]) nb (λx=>.int ((x.1:Int)+1)) X λx _=>⟨[#[ob L.c],#[.int e],#[.int h],#[.list (X.map nb)],#[.int ((x.1:Int)+1)],#[ob x.2.1]],by simp[nb],by simp⟩;have eo:(U0 c e).map PyData.int=X.map λx=>.int ((x.1:Int)+1):=by unfold U0;rw[<-Hg a,List.filter_map,avZ,avZ,<-hX];rfl
 have eo:lI (U0 c e)=.list (X.map λx=>.int ((x.1:Int)+1)):=congrArg PyData.list eo;have hX2:X.length<=50000:=#[];have f2:c.own.length<=100000:=by have:=I.ownL;omega
 rw[eo];simp[fD,j5,hc,aC,aq,h1,h2,e3,hr,pF,u9,h3];simp[hc1,aC,hh1,cO,Dm,h4,g1];simp![qI]at hc2 key |-
 have hk':(c.own.any ((λp=>PyData.eqv p.1 (.int e)) ∘ λo=>(PyData.int o,PyData.bool true)))=true:=by rw[<-awD];exact hk
 simp[hc2,aC,f2];rw[hk',hf];simp![aC]at key;simp[key,hX2]
end
def cU.same{c c':aF}(i:cU c)(h1:c'.al=c.al)(h2:c'.ci=c.ci):cU c':=by cases c;cases c';simp at h1 h2;subst h1 h2;exact⟨i.len,i.few,i.al,i.mem,i.own,i.up,i.one⟩
def cU.lt{c:aF}(i:cU c){k:Nat}{l:ListInt}(h:c.ci[k]?=some l):k<c.al.length:=by rw[<-i.len];exact(avH.mp h).1
def cU.add{c:aF}(i:cU c)(hf:c.al.length<200){x:Int}(hx:0<=x/\x<=9):cU { c with al:=c.al++[x],ci:=c.ci++[[(c.al.length:Int)+1]] }:=by
 have key:∀(k:Nat) (l:ListInt),(c.ci++[[(c.al.length:Int)+1]])[k]?=some l->(c.ci[k]?=some l/\k<c.al.length)\/(k=c.al.length/\l=[(c.al.length:Int)+1]):=λk l h=>by
  by_cases hk:k<c.ci.length
  .rw[avS hk]at h;exact .inl ⟨h,i.lt h⟩
  .rw[avX #[]]at h;have hk2:k-c.ci.length=0:=by
    have:=(avH.mp h).1;simp at this;omega
   rw[hk2]at h;simp at h;exact .inr ⟨by have:=i.len;omega,h.symm⟩
 refine⟨by simp[i.len],by simp;omega,λy hy=>?_,λk l h y hy=>?_,λk l h=>?_,λk l h=>?_,λk j l h hj=>?_⟩
 .rcases avR.mp hy with hy|hy
  .exact i.al y hy
  .rw[avJ.mp hy];exact hx
 .show 1<=y/\y<=((c.al++[x]).length:Int);rw[awa,List.length_singleton];rcases key k l h with⟨h,_⟩|⟨_,rfl⟩
  .have:=i.mem k l h y hy;omega
  .rw[avJ.mp hy];omega
 .rcases key k l h with⟨h,_⟩|⟨rfl,rfl⟩
  .exact i.own k l h
  .simp
 .rcases key k l h with⟨h,_⟩|⟨rfl,rfl⟩
  .exact i.up k l h
  .simp
 .show(c.ci++[[(c.al.length:Int)+1]])[j]?=some l
  rcases key k l h with⟨h,_⟩|⟨rfl,rfl⟩
  .have h2:=i.one k j l h hj;rw[avS (avH.mp h2).1];exact h2
  .have:j=c.al.length:=by
    rw[avJ]at hj;omega
   rw[this,<-i.len];simp
theorem abP(l:ListInt):∀(s:ListInt) (ci:List ListInt) (k:Nat),(∀y∈s,1<=y)->(s.foldl (λs y=>s.set (y-1).toNat l) ci)[k]?=if ((k:Int)+1∈s)/\k<ci.length then some l else ci[k]?
 |[],ci,k,_=>by simp
 |y::s,ci,k,h=>by
  rw[awc,abP l s _ k λz hz=>h z (avG _ hz),av4];have hy:=h y avI;by_cases h1:(k:Int)+1∈s/\k<ci.length
  .rw[awS h1,awS ⟨avG _ h1.1,h1.2⟩]
  .rw[awT h1,awu];by_cases h2:(y-1).toNat=k
   .rw[awS h2];have e:(k:Int)+1=y:=#[];by_cases h3:k<ci.length
    .rw[awS #[],awS ⟨by rw[e];exact avI,h3⟩]
    .rw[awT #[],awT (λz=>h3 z.2),av7 #[]]
   .rw[awT h2,awT];rintro⟨z,h3⟩;rcases avP.mp z with z|z
    .omega
    .exact h1 ⟨z,h3⟩
def Td(ci:List ListInt)(l:ListInt)(k:Nat)(h:∀y∈l,1<=y):(encl ci l)[k]?=if ((k:Int)+1∈l)/\k<ci.length then some l else ci[k]?:=abP l l ci k h
def cU.again{c:aF}(i:cU c){ci:List ListInt}(hl:ci.length=c.ci.length)(P:ListInt->Prop)
  (h1:∀(k:Nat) (l:ListInt),ci[k]?=some l->(P l/\(k:Int)+1∈l)\/c.ci[k]?=some l)
  (h2:∀l,P l->l.Pairwise (· < ·)/\∀y∈l,Vg c y/\ci[(y-1).toNat]?=some l)
  (h3:∀(k j:Nat) (l:ListInt),ci[k]?=some l->c.ci[k]?=some l->c.ci[j]?=some l->(k:Int)+1∈l->¬P l->ci[j]?=some l):cU { c with ci:=ci }:=by
 refine⟨by show ci.length=_;rw[hl,i.len],i.few,i.al,λk l h y hy=>?_,λk l h=>?_,λk l h=>?_,λk j l h hj=>?_⟩
 .rcases h1 k l h with⟨p,_⟩|h
  .exact((h2 l p).2 y hy).1
  .exact i.mem k l h y hy
 .rcases h1 k l h with⟨_,p⟩|h
  .exact p
  .exact i.own k l h
 .rcases h1 k l h with⟨p,_⟩|h
  .exact(h2 l p).1
  .exact i.up k l h
 .show ci[j]?=some l;have pj:P l->ci[j]?=some l:=λp=>by
   have:=((h2 l p).2 _ hj).2
   rwa [show((j:Int)+1-1).toNat=j by omega]at this
  rcases h1 k l h with⟨p,_⟩|h'
  .exact pj p
  .by_cases p:P l
   .exact pj p
   .exact h3 k j l h h' (i.one k j l h' hj) (i.own k l h') p
def cU.at{c:aF}(i:cU c){x:Int}(h:Vg c x):c.ci[(x-1).toNat]?=some (aZ c x):=by
 let⟨k,hk,rfl⟩:=CG h
 have hk':k<c.ci.length:=by rw[i.len];exact hk
 simp[aZ,hk']
def cU.self{c:aF}(i:cU c){x:Int}(h:Vg c x):x∈aZ c x:=by
 have:=i.own _ _ (i.at h)
 rwa [show(((x-1).toNat:Nat):Int)+1=x by omega]at this
def cU.eq{c:aF}(i:cU c){x y:Int}(h:Vg c x)(hy:y∈aZ c x):aZ c y=aZ c x:=by have v:=i.mem _ _ (i.at h) y hy;have:=i.one _ (y-1).toNat _ (i.at h) (by rw[show(((y-1).toNat:Nat):Int)+1=y by omega];exact hy);rw[i.at v]at this;exact av0 this
def agc{l:ListInt}{i:Int}:i∈sortI l↔i∈l:=by unfold sortI;rw[List.mem_mergeSort]
def ah0{l:ListInt}(h:l.Nodup):(sortI l).Pairwise (· < ·):=by unfold sortI;have srt:=awv (le:=λa b:Int=>decide (a<=b)) (λa b c k1 k2=>by rw[awO]at *;omega) (λa b=>by rw[awF,awO,awO];omega) l;have nd:(l.mergeSort λa b=>decide (a<=b)).Nodup:=(awJ _ _).nodup_iff.mpr h;refine List.Pairwise.imp₂ (λa b h1 h2=>?_) srt nd;rw[awO]at h1;have:a≠b:=h2;omega
def cU.zG{c:aF}(i:cU c){x y:Int}(hx:Vg c x)(hy:Vg c y)(hn:y∉aZ c x):cU { c with ci:=encl c.ci (sortI (aZ c x++aZ c y)) }:=by
 generalize hS:sortI (aZ c x++aZ c y)=S;have mem:∀z,z∈S↔z∈aZ c x\/z∈aZ c y:=λz=>by rw[<-hS,agc,avR]
 have vg:∀z∈S,Vg c z:=λz hz=>by
  rcases(mem z).mp hz with h|h
  .exact i.mem _ _ (i.at hx) z h
  .exact i.mem _ _ (i.at hy) z h
 have up:S.Pairwise (· < ·):=by rw[<-hS];refine ah0 ?_;rw[awl];have nd:∀{l:ListInt},l.Pairwise (· < ·)->l.Nodup:=λh=>h.imp λ{a b} z e=>#[];refine⟨nd (i.up _ _ (i.at hx)),nd (i.up _ _ (i.at hy)),λa ha b hb e=>?_⟩;subst e;have e1:=i.eq hx ha;have e2:=i.eq hy hb;rw[e1]at e2;exact hn (e2 ▸ i.self hy)
 have get:=λk=>Td c.ci S k λz hz=>(vg z hz).1;refine i.again (P:=λl=>l=S) (by unfold encl;rw[Bs]) (λk l h=>?_) (λl hl=>?_) (λk j l h h' hj hk np=>?_)
 .rw[get]at h;left
  .next z=>
   cases h;exact .inl ⟨rfl,z.1⟩
  .exact .inr h
 .subst hl;refine⟨up,λz hz=>⟨vg z hz,?_⟩⟩;have v:=vg z hz;have e:(((z-1).toNat:Nat):Int)+1=z:=#[];rw[get,e,awS ⟨hz,by rw[i.len];omega⟩]
 .rw[get];by_cases z:(j:Int)+1∈S/\j<c.ci.length
  .exfalso;have v:=vg _ z.1;have ej:aZ c ((j:Int)+1)=l:=by
    have:=i.at v;rw[show((j:Int)+1-1).toNat=j by omega,hj]at this;exact(av0 this).symm
   have hk2:(k:Int)+1∈S:=by
    rw[mem];rcases(mem _).mp z.1 with q|q
    .exact .inl (by rw[<-i.eq hx q,ej];exact hk)
    .exact .inr (by rw[<-i.eq hy q,ej];exact hk)
   rw[get,awS ⟨hk2,(avH.mp h').1⟩]at h;exact np (av0 h).symm
  .rw[awT z];exact hj
def cU.part{c:aF}(i:cU c){x:Int}(hx:Vg c x):cU { c with ci:=encl (encl c.ci [x]) (vf c x) }:=by
 have mem:∀z,z∈vf c x↔z∈aZ c x/\z≠x:=λz=>by
  unfold vf;rw[av3];simp
 have vg:∀z∈vf c x,Vg c z:=λz hz=>i.mem _ _ (i.at hx) z ((mem z).mp hz).1;have l1:(encl c.ci [x]).length=c.ci.length:=by unfold encl;rw[Bs]
 have get:∀k:Nat,(encl (encl c.ci [x]) (vf c x))[k]?=if ((k:Int)+1∈vf c x)/\k<c.ci.length then some (vf c x) else if ((k:Int)+1=x)/\k<c.ci.length then some [x] else c.ci[k]?:=λk=>by
  rw[Td _ _ _ λz hz=>(vg z hz).1,l1,Td _ _ _ λz hz=>by rw[avJ.mp hz];exact hx.1];simp![avJ]
 refine i.again (P:=λl=>l=vf c x/\l≠[]\/l=[x]) (by unfold encl;rw[Bs,Bs]) (λk l h=>?_) (λl hl=>?_) (λk j l h h' hj hk np=>?_)
 .rw[get]at h;left
  .next z=>
   cases h;exact .inl ⟨.inl ⟨rfl,List.ne_nil_of_mem z.1⟩,z.1⟩
  .left
   .next z=>
    cases h;exact .inl ⟨.inr rfl,by rw[z.1];simp⟩
   .exact .inr h
 .rcases hl with⟨rfl,_⟩|rfl
  .refine⟨(i.up _ _ (i.at hx)).filter _,λz hz=>⟨vg z hz,?_⟩⟩;have v:=vg z hz;have e:(((z-1).toNat:Nat):Int)+1=z:=#[];rw[get,e,awS ⟨hz,by rw[i.len];omega⟩]
  .refine⟨by simp,λz hz=>?_⟩;rw[avJ.mp hz];refine⟨hx,?_⟩;have e:(((x-1).toNat:Nat):Int)+1=x:=#[];rw[get,e,awT (λz=>((mem x).mp z.1).2 rfl),awS ⟨rfl,by rw[i.len];omega⟩]
 .have key:∀m:Nat,c.ci[m]?=some l->(m:Int)+1∈aZ c x->l=aZ c x:=λm hm q=>by
   have v:=i.mem _ _ (i.at hx) _ q;have:=i.at v;rw[show((m:Int)+1-1).toNat=m by omega,hm,i.eq hx q]at this;exact av0 this
  have out:(k:Int)+1∉aZ c x:=λq=>by
   rw[get]at h;by_cases e:(k:Int)+1=x
   .rw[awT (λz=>((mem _).mp z.1).2 e),awS ⟨e,(avH.mp h').1⟩]at h;exact np (.inr (av0 h).symm)
   .rw[awS ⟨(mem _).mpr ⟨q,e⟩,(avH.mp h').1⟩]at h;have e2:=(av0 h).symm;exact np (.inl ⟨e2,λz=>by rw[z]at hk;cases hk⟩)
  have outj:(j:Int)+1∉aZ c x:=λq=>out (key j hj q ▸ hk);have o1:¬((j:Int)+1∈vf c x/\j<c.ci.length):=λz=>outj ((mem _).mp z.1).1;have o2:¬((j:Int)+1=x/\j<c.ci.length):=λz=>outj (by rw[z.1];exact i.self hx);rw[get,awT o1,awT o2];exact hj
def Good(held:List Row3)(s:Sd):Prop:=cX s.ear=true/\(∀e,s.due=some e->cX e=true)/\(s.al=true->∃m,(s.o,s.g,m)∈held)
structure V2(m:Nat)(c:aF):Prop where
 g:∀b∈c.bs,Good c.held b.sd
 en:∀b∈c.bs,b.en.length<=m
def Inv.ZF{n s:Nat}{c:aF}(I:Inv n s c):V2 (2*n) c:=⟨λb hb=>⟨I.ear b hb,I.due b hb,I.rt b hb⟩,I.en⟩
def aaE{c:aF}{i:Nat}{e:En}{b:bZ}(h:b∈(ig c i e).bs):b∈c.bs\/∃b0,c.bs[i]?=some b0/\b=uJ b0 e:=by
 let⟨j,hj⟩:=List.mem_iff_getElem?.mp h
 rw[Bh]at hj;split at hj
 .next z=>
  subst z;let⟨b0,h3,h4⟩:=awm.mp hj
  exact .inr ⟨b0,h3,h4.symm⟩
 .exact .inl (avK hj)
def V2.one{m:Nat}{c:aF}(B:V2 m c){i:Nat}{e:En}(h:∀b,c.bs[i]?=some b->Good c.held (go b.sd e)):V2 (m+1) (ig c i e):=by
 refine⟨λb hb=>?_,λb hb=>?_⟩
 .rcases aaE hb with h1|⟨b0,h1,rfl⟩
  .exact B.g b h1
  .exact h b0 h1
 .rcases aaE hb with h1|⟨b0,h1,rfl⟩
  .have:=B.en b h1;omega
  .have:=B.en b0 (avK h1);simp[uJ];omega
def V2.many{m:Nat}{c:aF}(B:V2 m c){p:bZ->Bool}{e:En}(h:∀b∈c.bs,p b=true->Good c.held (go b.sd e)):V2 (m+1) (qI p e c):=by
 refine⟨λb hb=>?_,λb hb=>?_⟩
 .let⟨b0,h1,rfl⟩:=avM.mp hb
  cases hp:p b0 with
  |true=>
   rw[awS rfl];exact h b0 h1 hp
  |false=>
   rw[awT (by simp)];exact B.g b0 h1
 .let⟨b0,h1,rfl⟩:=avM.mp hb
  have:=B.en b0 h1;cases hp:p b0<;>simp[uJ]<;>omega
def Good.mono{held held':List Row3}{s:Sd}(g:Good held s)(h:∀r∈held,r∈held'):Good held' s:=⟨g.1,g.2.1,λz=>by
 let⟨m,hm⟩:=g.2.2 z
 exact⟨m,h _ hm⟩⟩
def Inv.of{n s n' s':Nat}{c c':aF}(I:Inv n s c)(hn:n<=n')(gr:cU c')(hal:c'.al.length<=n')(ec:c'.count=c.count)(eo:c'.own=c.own)(hd:c'.held.Nodup)(hL:c'.held.length+c'.bs.length<=s')(hE:∀r∈c'.held,r.1∈c'.own/\Vg c' r.2.1/\cX r.2.2=true)(B:V2 (2*n') c'):Inv n' s' c':=
 ⟨gr,hal,by have:=I.cnt;rw[ec];omega,by rw[ec,eo];exact I.own,by rw[eo];exact I.Ut,by have:=I.ownL;rw[eo];omega,hd,hL,hE,λb hb=>(B.g b hb).1,λb hb=>(B.g b hb).2.1,B.en,λb hb=>(B.g b hb).2.2⟩
def afd{x:ListInt}{p:Nat}(h:cX x=true)(h9:¬9<=x.getD p 0):cX (yQ x p)=true:=by
 unfold cX at *;simp![avD,awO,av1]at *;refine⟨by rw[aeE];exact h.1,λd hd=>?_⟩;unfold yQ at hd;let⟨i,hi,rfl⟩:=List.mem_mapIdx.mp hd
 have:=h.2 _ (awh hi);split
 .next e=>
  subst e;have:x.getD i 0=x[i]:=by simp[hi]
  omega
 .exact this
theorem Ur{r:Row3}:∀(l acc:List Row3),r∈l.foldl Jo acc↔r∈acc\/r∈l
 |[],acc=>by simp
 |x::l,acc=>by
  rw[awc,Ur l];unfold Jo;split
  .next h=>
   constructor
   .rintro(z|z)
    .exact .inl z
    .exact .inr (avG _ z)
   .rintro(z|z)
    .exact .inl z
    .rcases avP.mp z with rfl|z
     .exact .inl h
     .exact .inr z
  .simp[or_assoc]
theorem Vq:∀(l acc:List Row3),acc.Nodup->(l.foldl Jo acc).Nodup
 |[],acc,h=>h
 |x::l,acc,h=>by
  rw[awc];refine Vq l _ ?_;unfold Jo;split
  .exact h
  .next z=>
   rw[awl];exact⟨h,by simp,λa ha b hb e=>z (by rw[avJ.mp hb]at e;exact e ▸ ha)⟩
theorem abr:∀(l acc:List Row3),(l.foldl Jo acc).length<=acc.length+l.length
 |[],acc=>by simp
 |x::l,acc=>by
  rw[awc];refine av2 (abr l _) ?_;unfold Jo
  split<;>simp<;>omega
def cost:aX->Nat
 |.enrol ..=>1
 |.bring ..=>1
 |.bear ..=>1
 |.heir ..=>1
 |_=>0
def QS{o room:Int}{e:ListInt}{R:List Rw}{x:Res}{d:Dat}{c':aF}(h:DN o e R room x=.ok d c'):x=.ok d c':=by
 unfold DN at h;left
 .exact h
 .cases h
def Br{c:aF}{o:Int}{x:Res}{d:Dat}{c':aF}(h:vY c o x=.ok d c'):o∈c.own/\x=.ok d c':=by
 unfold vY at h;left
 .next z=>exact⟨z,h⟩
 .cases h
def CP{c:aF}{g:Int}{x:Res}{d:Dat}{c':aF}(h:Aa c g x=.ok d c'):Vg c g/\x=.ok d c':=by
 unfold Aa at h;left
 .next z=>exact⟨z,h⟩
 .cases h
def ade{e:ListInt}{x:Res}{d:Dat}{c':aF}(h:Qs e x=.ok d c'):cX e=true/\x=.ok d c':=by
 unfold Qs at h;left
 .next z=>exact⟨z,h⟩
 .cases h
def CT{c:aF}{o g:Int}{x:Res}{d:Dat}{c':aF}(h:qN c o g x=.ok d c'):bM c o g≠[]/\x=.ok d c':=by
 unfold qN at h;left
 .cases h
 .next z=>exact⟨z,h⟩
def Q8{c:aF}{k:Int}{f:bZ->Res}{d:Dat}{c':aF}(h:yS c k f=.ok d c'):∃b,bk c k=some b/\b.sd.al=true/\f b=.ok d c':=by
 unfold yS at h;left
 .cases h
 .next b hb=>
  left
  .next z=>exact⟨b,hb,z,h⟩
  .cases h
def Uu{c:aF}{k:Int}{f:bZ->ListInt->Res}{d:Dat}{c':aF}(h:markB c k f=.ok d c'):∃b e,bk c k=some b/\b.sd.al=true/\b.sd.due=some e/\f b e=.ok d c':=by
 let⟨b,h1,h2,h3⟩:=Q8 h
 split at h3
 .cases h3
 .next e he=>exact⟨b,e,h1,h2,he,h3⟩
def zL{p:Prop}[Decidable p]{x:dX}{y:Res}{d:Dat}{c':aF}(h:(if p then .no x else y)=Res.ok d c'):¬p/\y=.ok d c':=by
 left
 .cases h
 .next z=>exact⟨z,h⟩
def Xp{p:Prop}[Decidable p]{x:dX}{y:Res}{d:Dat}{c':aF}(h:(if p then y else .no x)=Res.ok d c'):p/\y=.ok d c':=by
 left
 .next z=>exact⟨z,h⟩
 .cases h
def m9{c:aF}{k:Int}{b:bZ}(h:bk c k=some b):c.bs[(k-1).toNat]?=some b/\1<=k/\k<=c.bs.length:=by
 unfold bk at h;left
 .next z=>exact⟨h,z⟩
 .cases h
def VL(c:aF)(k o g:Int):(Bf c k o g).bs.length=c.bs.length:=by simp[Bf,qI]
def Gj(c:aF)(i:Nat)(e:En):(ig c i e).bs.length=c.bs.length:=by simp[ig]
def acD{n s:Nat}{c c':aF}{d:aX}{r:Dat}(I:Inv n s c)(hn:c.al.length<=199)(h:cW c d=.ok r c'):Inv (n+1) (s+cost d) c':=by
 have L0:=I.hL;have A0:=I.al;have C0:=I.cnt;have O0:=I.ownL;have up:V2 (2*(n+1)) c:=⟨I.ZF.g,λb hb=>by have:=I.en b hb;omega⟩;cases d with
 |owner=>
  cases h;refine⟨I.gr.same rfl rfl,by show c.al.length<=_;omega,⟨by show 0<=c.count+1;omega,by show c.count+1<=((n+1:Nat):Int);omega⟩,λo ho=>?_,?_,by simp;omega,I.held,by simp[cost];omega,λr hr=>?_,I.ear,I.due,up.en,I.rt⟩
  .show 1<=o/\o<=c.count+1;rcases avR.mp ho with ho|ho
   .have:=I.own o ho;omega
   .rw[avJ.mp ho];omega
  .rw[awl];refine⟨I.Ut,by simp,λa ha b hb e=>?_⟩;rw[avJ.mp hb]at e;have:=I.own a ha;omega
  .let⟨h1,h2,h3⟩:=I.hE r hr
   exact⟨awk _ h1,h2,h3⟩
 |ground x=>
  let⟨hx,h⟩:=Xp h
  cases h;refine I.of #[] (I.gr.add #[] hx) (by simp;omega) rfl rfl I.held (by simp[cost];omega) (λr hr=>?_) ⟨up.g,up.en⟩;let⟨h1,h2,h3⟩:=I.hE r hr
  refine⟨h1,?_,h3⟩;show 1<=_/\_<=((c.al++[x]).length:Int);rw[awa];have:=h2.2;exact⟨h2.1,#[]⟩
 |enrol o g m=>
  let⟨h1,h⟩:=Br h
  let⟨h2,h⟩:=CP h
  let⟨h3,h⟩:=ade h
  let⟨h4,h⟩:=zL h
  let⟨h5,h⟩:=zL h
  have h:=QS h;cases h;refine I.of #[] (I.gr.same rfl rfl) (by show c.al.length<=_;omega) rfl rfl ?_ (by simp[cost];omega) (λr hr=>?_) ⟨λb hb=>(up.g b hb).mono λr hr=>awk _ hr,up.en⟩
  .rw[awl];refine⟨I.held,by simp,λa ha b hb e=>?_⟩;rw[avJ.mp hb]at e;exact h5 (Ir.mpr (e ▸ ha))
  .rcases avR.mp hr with hr|hr
   .exact I.hE r hr
   .rw[avJ.mp hr];exact⟨h1,h2,h3⟩
 |leave o g=>
  let⟨h1,h⟩:=Br h
  let⟨h2,h⟩:=CP h
  let⟨h3,h⟩:=CT h
  let⟨h4,h⟩:=zL h
  cases h;have sub:∀r∈dropped c o g,r∈c.held:=λr hr=>(av3.mp hr).1;have ln:(dropped c o g).length<=c.held.length:=avT _ _;refine I.of #[] (I.gr.same rfl rfl) (by show c.al.length<=_;omega) rfl rfl (I.held.filter _) (by simp[cost];omega) (λr hr=>I.hE r (sub r hr)) ⟨λb hb=>⟨(up.g b hb).1,(up.g b hb).2.1,λhal=>?_⟩,up.en⟩;let⟨m,hm⟩:=(up.g b hb).2.2 hal
  refine⟨m,av3.mpr ⟨hm,?_⟩⟩;simp![avU,Bool.and_eq_false_iff,beq_eq_false_iff_ne];by_cases e:b.sd.o=o/\b.sd.g=g
  .exfalso;refine h4 (List.any_eq_true.mpr ⟨b,hb,?_⟩);simp[aas,hal,e.1,e.2]
  .by_cases e1:b.sd.o=o
   .exact .inr λz=>e ⟨e1,z⟩
   .exact .inl e1
 |bring o g e=>
  let⟨h1,h⟩:=Br h
  let⟨h2,h⟩:=CP h
  let⟨h3,h⟩:=ade h
  let⟨h4,h⟩:=CT h
  cases h;refine I.of #[] (I.gr.same rfl rfl) (by show c.al.length<=_;omega) rfl rfl I.held (by simp[cost];omega) I.hE ⟨λb hb=>?_,λb hb=>?_⟩
  .rcases avR.mp hb with hb|hb
   .exact up.g b hb
   .rw[avJ.mp hb];exact⟨h3,λe z=>(by cases z),λ_=>Aq.mp h4⟩
  .rcases avR.mp hb with hb|hb
   .exact up.en b hb
   .rw[avJ.mp hb];simp[Jk]
 |bear k=>
  let⟨b0,e0,h1,h2,h3,h⟩:=Uu h
  cases h;refine I.of #[] (I.gr.same rfl rfl) (by show c.al.length<=_;omega) rfl rfl I.held (by simp[cost];omega) I.hE ⟨λb hb=>?_,λb hb=>?_⟩
  .rcases avR.mp hb with hb|hb
   .exact up.g b hb
   .rw[avJ.mp hb];exact⟨(by decide:cX [0,0,0,0,0,0]=true),λe z=>(by cases z),λ_=>(up.g b0 (avK (m9 h1).1)).2.2 h2⟩
  .rcases avR.mp hb with hb|hb
   .exact up.en b hb
   .rw[avJ.mp hb];simp[Jk]
 |cut k=>
  let⟨b0,h1,h2,h⟩:=Q8 h
  have h:=QS h;cases h;have hm:=avK (m9 h1).1;let⟨r,q4,q5⟩:=I.mk1 (I.alive hm h2).1
  have je:=Hj (I.ear b0 hm) q5;generalize dN b0.sd.ear (firstM c b0.sd.o b0.sd.g)=e at je |-
  have B:=I.ZF.one (i:=(k-1).toNat) (e:=.cut e) λb hb=>by
   rw[(m9 h1).1]at hb;cases hb;exact⟨je,λe z=>(by cases z;exact je),λ_=>I.rt b0 hm h2⟩
  exact I.of #[] (I.gr.same rfl rfl) (by show c.al.length<=_;omega) rfl rfl I.held (by rw[Gj];simp[cost,ig];omega) I.hE ⟨B.g,λb hb=>by have:=B.en b hb;omega⟩
 |tear k p=>
  let⟨b0,h1,h2,h⟩:=Q8 h
  let⟨h3,h⟩:=Xp h
  let⟨h4,h⟩:=zL h
  cases h;have hm:=avK (m9 h1).1;have B:=I.ZF.one (i:=(k-1).toNat) (e:=.torn p.toNat) λb hb=>by
   rw[(m9 h1).1]at hb;cases hb;exact⟨afd (I.ear b0 hm) h4,I.due b0 hm,I.rt b0 hm⟩
  exact I.of #[] (I.gr.same rfl rfl) (by show c.al.length<=_;omega) rfl rfl I.held (by rw[Gj];simp[cost,ig];omega) I.hE ⟨B.g,λb hb=>by have:=B.en b hb;omega⟩
 |die k=>
  let⟨b0,h1,h2,h⟩:=Q8 h
  cases h;have hm:=avK (m9 h1).1;have B:=I.ZF.one (i:=(k-1).toNat) (e:=.died) λb hb=>by
   rw[(m9 h1).1]at hb;cases hb;exact⟨I.ear b0 hm,I.due b0 hm,λz=>by cases z⟩
  exact I.of #[] (I.gr.same rfl rfl) (by show c.al.length<=_;omega) rfl rfl I.held (by rw[Gj];simp[cost,ig];omega) I.hE ⟨B.g,λb hb=>by have:=B.en b hb;omega⟩
 |sell k o=>
  let⟨b0,e0,h1,h2,h3,h⟩:=Uu h
  let⟨h4,h⟩:=Br h
  let⟨h5,h⟩:=zL h
  let⟨h6,h⟩:=CT h
  have h:=QS h;cases h;have hm:=avK (m9 h1).1;let⟨r,q4,q5⟩:=I.mk1 h6
  have je:=Hj (I.ear b0 hm) q5;generalize dN b0.sd.ear (firstM c o b0.sd.g)=e at je |-
  have B:=I.ZF.one (i:=(k-1).toNat) (e:=.sold o e) λb hb=>by
   rw[(m9 h1).1]at hb;cases hb;exact⟨je,λe z=>(by cases z;exact je),λ_=>Aq.mp h6⟩
  have B2:=B.many (p:=λx=>mW k x&&x.sd.al) (e:=.followed o b0.sd.g) λb hb _=>⟨(B.g b hb).1,(B.g b hb).2.1,λ_=>Aq.mp h6⟩;exact I.of #[] (I.gr.same rfl rfl) (by show c.al.length<=_;omega) rfl rfl I.held (by rw[VL,Gj];simp[cost,ig,Bf,qI];omega) I.hE ⟨B2.g,λb hb=>by have:=B2.en b hb;omega⟩
 |move k g=>
  let⟨b0,e0,h1,h2,h3,h⟩:=Uu h
  let⟨h4,h⟩:=CP h
  let⟨h5,h⟩:=zL h
  let⟨h6,h⟩:=CT h
  have h:=QS h;cases h;have hm:=avK (m9 h1).1;have B:=I.ZF.one (i:=(k-1).toNat) (e:=.moved g) λb hb=>by
   rw[(m9 h1).1]at hb;cases hb;exact⟨I.ear b0 hm,I.due b0 hm,λ_=>Aq.mp h6⟩
  have B2:=B.many (p:=λx=>mW k x&&x.sd.al) (e:=.followed b0.sd.o g) λb hb _=>⟨(B.g b hb).1,(B.g b hb).2.1,λ_=>Aq.mp h6⟩;exact I.of #[] (I.gr.same rfl rfl) (by show c.al.length<=_;omega) rfl rfl I.held (by rw[VL,Gj];simp[cost,ig,Bf,qI];omega) I.hE ⟨B2.g,λb hb=>by have:=B2.en b hb;omega⟩
 |zG x y=>
  let⟨h1,h⟩:=CP h
  let⟨h2,h⟩:=CP h
  let⟨h3,h⟩:=zL h
  left
  .cases h
  .cases h;exact I.of #[] (I.gr.zG h2 h1 h3) (by show c.al.length<=_;omega) rfl rfl I.held (by show c.held.length+c.bs.length<=_;omega) I.hE ⟨up.g,up.en⟩
 |part x=>
  let⟨h1,h⟩:=CP h
  let⟨h3,h⟩:=zL h
  cases h;exact I.of #[] (I.gr.part h1) (by show c.al.length<=_;omega) rfl rfl I.held (by show c.held.length+c.bs.length<=_;omega) I.hE ⟨up.g,up.en⟩
 |pass e h'=>
  let⟨h1,h⟩:=Br h
  let⟨h2,h⟩:=Br h
  let⟨h3,h⟩:=zL h
  cases h;have hin:∀r∈c.held,Ek e h' r∈handed c e h':=λr hr=>(Ur _ _).mpr (.inr (avM.mpr ⟨r,hr,rfl⟩));have hout:∀r∈handed c e h',∃r0∈c.held,Ek e h' r0=r:=λr hr=>by
   rcases(Ur _ _).mp hr with z|z
   .cases z
   .let⟨r0,z1,z2⟩:=avM.mp z
    exact⟨r0,z1,z2⟩
  have hl:(handed c e h').length<=c.held.length:=by have:=abr (c.held.map (Ek e h')) [];simpa [handed] using this
  have ow:∀o,o∈c.own.filter (λo=>!(o==e))↔o∈c.own/\o≠e:=λo=>by
   rw[av3];simp
  have g:∀b∈(qI (λb=>(b.sd.o==e)&&b.sd.al) (.passed h') c).bs,Good (handed c e h') b.sd:=λb hb=>by
   let⟨b0,hb0,rfl⟩:=avM.mp hb
   have G:=up.g b0 hb0;cases hp:((b0.sd.o==e)&&b0.sd.al) with
   |true=>
    simp![hp,if_true];refine⟨G.1,G.2.1,λhal=>?_⟩;let⟨m,hm⟩:=G.2.2 hal
    have:=hin _ hm;simp at hp;rw[hp.1]at this;exact⟨m,by simpa [Ek,uJ,go] using this⟩
   |false=>
    simp![hp];refine⟨G.1,G.2.1,λhal=>?_⟩;let⟨m,hm⟩:=G.2.2 hal
    have:=hin _ hm;have hal:b0.sd.al=true:=hal;rw[hal]at hp;simp at hp;exact⟨m,by simpa [Ek,hp] using this⟩
  have en:∀b∈(qI (λb=>(b.sd.o==e)&&b.sd.al) (.passed h') c).bs,b.en.length<=2*(n+1):=λb hb=>by
   let⟨b0,hb0,rfl⟩:=avM.mp hb
   have:=I.en b0 hb0
   dsimp only
   split
   .simp[uJ];omega
   .omega
  refine⟨I.gr.same rfl rfl,by show c.al.length<=_;omega,⟨C0.1,by show c.count<=_;omega⟩,λo ho=>I.own o ((ow o).mp ho).1,I.Ut.filter _,?_,Vq _ _ (by simp),?_,λr hr=>?_,λb hb=>(g b hb).1,λb hb=>(g b hb).2.1,en,λb hb=>(g b hb).2.2⟩
  .show(c.own.filter _).length<=_
   have:=avT (λo=>!(o==e)) c.own;omega
  .show(handed c e h').length+(qI _ _ c).bs.length<=_
   simp[qI];omega
  .let⟨r0,z1,rfl⟩:=hout r hr
   let⟨q1,q2,q3⟩:=I.hE r0 z1
   refine⟨(ow _).mpr ?_,q2,q3⟩;unfold Ek;by_cases z:r0.1=e
   .simp![z,if_true];exact⟨h2,λq=>h3 q.symm⟩
   .simp![z,if_false];exact⟨q1,z⟩
 |heir e g x=>
  let⟨h1,h⟩:=Br h
  let⟨h2,h⟩:=CP h
  let⟨h3,h⟩:=Xp h
  let⟨h4,h⟩:=CT h
  left
  .next mk hmk=>
   cases h;let⟨r,q4,q5⟩:=I.mk1 h4
   have hme:cX mk=true:=ZS q5 ⟨#[],h3.2⟩ (av3.mp (List.mem_of_find?_eq_some hmk)).1;refine⟨I.gr.same rfl rfl,by show c.al.length<=_;omega,⟨by show 0<=c.count+1;omega,by show c.count+1<=((n+1:Nat):Int);omega⟩,λo ho=>?_,?_,by simp;omega,?_,by simp[cost];omega,λr hr=>?_,I.ear,I.due,up.en,λb hb hal=>?_⟩
   .show 1<=o/\o<=c.count+1;rcases avR.mp ho with ho|ho
    .have:=I.own o ho;omega
    .rw[avJ.mp ho];omega
   .rw[awl];refine⟨I.Ut,by simp,λa ha b hb e=>?_⟩;rw[avJ.mp hb]at e;have:=I.own a ha;omega
   .rw[awl];refine⟨I.held,by simp,λa ha b hb e=>?_⟩;rw[avJ.mp hb]at e;have:=I.own _ (I.hE a ha).1;rw[e]at this;simp at this;omega
   .rcases avR.mp hr with hr|hr
    .let⟨z1,z2,z3⟩:=I.hE r hr
     exact⟨awk _ z1,z2,z3⟩
    .rw[avJ.mp hr];exact⟨awy _ (by simp),h2,hme⟩
   .let⟨m,hm⟩:=I.rt b hb hal
    exact⟨m,awk _ hm⟩
  .cases h
def ai0{n s:Nat}{c c':aF}{d:aX}{r:Dat}(I:Inv n s c)(hn:n<=199)(h:cW c d=.ok r c'):Inv (n+1) (s+cost d) c':=acD I (av2 I.al hn) h
def nB(x:Int):Bool:=decide (0<=x)&&decide (x<=999999999)
def plB(x:Int):Bool:=decide (0<=x)&&decide (x<=5)
def oV(M:Mo)(x:Int):jh M [.str "number",.int x]=.ok (.bool (nB x)):=by by_cases h:0<=x<;>simp[jh,w6,qG,jo,Ar,Di,h,nB]
def jr(M:Mo)(x:Int):jh M [.str "place",.int x]=.ok (.bool (plB x)):=by by_cases h:0<=x<;>simp[jh,w6,qG,jo,Ar,Di,h,plB]
def agF(M:Mo)(x:ListInt)(h:x.length<=1000):jh M [.str "ear",aG x]=.ok (.bool (cX x)):=by have:=Zv M x h;simp[jh,w6,Ar,Di,this]
def lG:aX->Bool
 |.owner=>true
 |.ground x=>nB x
 |.enrol o g m=>nB o&&nB g&&cX m
 |.leave o g=>nB o&&nB g
 |.bring o g m=>nB o&&nB g&&cX m
 |.bear k=>nB k
 |.cut k=>nB k
 |.tear k p=>nB k&&plB p
 |.sell k o=>nB k&&nB o
 |.move k g=>nB k&&nB g
 |.die k=>nB k
 |.zG x y=>nB x&&nB y
 |.part x=>nB x
 |.pass e h=>nB e&&nB h
 |.heir e g x=>nB e&&nB g&&nB x
def BL:aX->Prop
 |.enrol _ _ m=>m.length<=1000
 |.bring _ _ m=>m.length<=1000
 |_=>True
def ju(M:Mo)(w:Str)(T:List (Str×Dat×Bool))(hk:(BW Az).lookup w=some (.tuple (T.map λt=>.str t.1)))(hl:T.length<=10)(hp:∀t∈T,jh M [.str t.1,t.2.1]=.ok (.bool t.2.2)):Kg M [.tuple (.str w::T.map λt=>t.2.1)]=.ok (.bool (T.all λt=>t.2.2)):=by
 have hs:Rf.cutD (PyData.str w::T.map λt=>t.2.1) (some 1) none=T.map λt=>t.2.1:=acf _ 1;have hz:zQ (T.map λt=>PyData.str t.1) (T.map λt=>t.2.1)=T.map λt=>.tuple [.str t.1,t.2.1]:=by unfold zQ;rw[List.zipWith_map_left,List.zipWith_map_right,List.zipWith_self]
 have key:=fj (tg:=aV [3,4]) (te:=aO jh #[(3:),(4:)]) (M:=M) (Z:=[#[.tuple (.str w::T.map λt=>t.2.1)],#[.tuple (T.map λt=>.str t.1)],#[.tuple (T.map λt=>t.2.1)],none,none]) (λ(t:Str×Dat×Bool)=>PyData.tuple [.str t.1,t.2.1]) (λt=>.bool t.2.2) T λt ht=>⟨[#[.tuple (.str w::T.map λt=>t.2.1)],#[.tuple (T.map λt=>.str t.1)],#[.tuple (T.map λt=>t.2.1)],#[.str t.1],#[t.2.1]],by simp,by simp[hp t ht]⟩;have ha:T8 (.list (T.map λt=>PyData.bool t.2.2))=.ok (.bool (T.all λt=>t.2.2)):=by
  have e:(T.map λt=>PyData.bool t.2.2)=(T.map λt=>t.2.2).map PyData.bool:=by rw[avZ];rfl
  rw[e]
  show(match wF _ with
   |some bs=>Out.ok (PyData.bool (bs.all id))
   |none=>.bad)=_
  rw[Hh];simp[List.all_map,avY]
 have hl2:T.length<=50000:=#[];have hne:¬(T.length:Int)+1=0:=#[];simp[Kg,abX,hk,hs,hz,key,hl2,ha,hne]
def aep(M:Mo)(d:aX)(hd:BL d):Kg M [d.dat]=.ok (.bool (lG d)):=by
 cases d with
 |owner=>simpa [lG,aX.dat,Bool.and_assoc] using ju M "owner" [] (by rfl) (by simp) (by simp[oV,jr])
 |ground x=>simpa [lG,aX.dat,Bool.and_assoc] using ju M "ground" [("number",.int x,nB x)] (by rfl) (by simp) (by simp[oV,jr])
 |enrol o g m=>simpa [lG,aX.dat,Bool.and_assoc] using ju M "enrol" [("number",.int o,nB o),("number",.int g,nB g),("ear",aG m,cX m)] (by rfl) (by simp) (by simp[oV,jr,agF M m hd])
 |leave o g=>simpa [lG,aX.dat,Bool.and_assoc] using ju M "leave" [("number",.int o,nB o),("number",.int g,nB g)] (by rfl) (by simp) (by simp[oV,jr])
 |bring o g m=>simpa [lG,aX.dat,Bool.and_assoc] using ju M "bring" [("number",.int o,nB o),("number",.int g,nB g),("ear",aG m,cX m)] (by rfl) (by simp) (by simp[oV,jr,agF M m hd])
 |bear k=>simpa [lG,aX.dat,Bool.and_assoc] using ju M "bear" [("number",.int k,nB k)] (by rfl) (by simp) (by simp[oV,jr])
 |cut k=>simpa [lG,aX.dat,Bool.and_assoc] using ju M "cut" [("number",.int k,nB k)] (by rfl) (by simp) (by simp[oV,jr])
 |tear k p=>simpa [lG,aX.dat,Bool.and_assoc] using ju M "tear" [("number",.int k,nB k),("place",.int p,plB p)] (by rfl) (by simp) (by simp[oV,jr])
 |sell k o=>simpa [lG,aX.dat,Bool.and_assoc] using ju M "sell" [("number",.int k,nB k),("number",.int o,nB o)] (by rfl) (by simp) (by simp[oV,jr])
 |move k g=>simpa [lG,aX.dat,Bool.and_assoc] using ju M "move" [("number",.int k,nB k),("number",.int g,nB g)] (by rfl) (by simp) (by simp[oV,jr])
 |die k=>simpa [lG,aX.dat,Bool.and_assoc] using ju M "die" [("number",.int k,nB k)] (by rfl) (by simp) (by simp[oV,jr])
 |zG x y=>simpa [lG,aX.dat,Bool.and_assoc] using ju M "unite" [("number",.int x,nB x),("number",.int y,nB y)] (by rfl) (by simp) (by simp[oV,jr])
 |part x=>simpa [lG,aX.dat,Bool.and_assoc] using ju M "part" [("number",.int x,nB x)] (by rfl) (by simp) (by simp[oV,jr])
 |pass e h=>simpa [lG,aX.dat,Bool.and_assoc] using ju M "pass" [("number",.int e,nB e),("number",.int h,nB h)] (by rfl) (by simp) (by simp[oV,jr])
 |heir e g x=>simpa [lG,aX.dat,Bool.and_assoc] using ju M "heir" [("number",.int e,nB e),("number",.int g,nB g),("number",.int x,nB x)] (by rfl) (by simp) (by simp[oV,jr])
def cQ{M:Mo}{L:Lay}{o o':aY Dat}{r:Res}(h:Sp M L o r)(e:o'=o):Sp M L o' r:=e ▸ h
section
variable{M:Mo}{L:Lay}{c:aF}(a:At M L c){n s:Nat}(I:Inv n s c)(hs:s<=76)(hn:n<=199)
include a I hs hn
theorem apb(d:aX)(hd:BL d)(hf:lG d=true):Sp M L (cC M [ob L.c,d.dat]) (cW c d):=by
 have hc:=a.hc;have h0:=aep M d hd;rw[hf]at h0;cases d with
 |owner=>
  simp![aX.dat]at h0 |-
  refine cQ (adZ a I hn) ?_;simp[cC,cM,h0,hc,aC,dw];cases gQ M _<;>rfl
 |ground x=>
  simp![aX.dat]at h0 |-
  refine cQ (acn a I hn x) ?_;simp[cC,cM,h0,hc,aC,gY];cases fZ M _<;>rfl
 |enrol o g m=>
  simp![aX.dat]at h0 |-
  refine cQ (aeg a I hs o g m hd) ?_;simp[cC,cM,h0,hc,aC,lB];cases dJ M _<;>rfl
 |leave o g=>
  simp![aX.dat]at h0 |-
  refine cQ (aem a I hs o g) ?_;simp[cC,cM,h0,hc,aC,lF];cases fM M _<;>rfl
 |bring o g m=>
  simp![aX.dat]at h0 |-
  refine cQ (aee a I hs o g m hd) ?_;simp[cC,cM,h0,hc,aC,lH];cases fO M _<;>rfl
 |bear k=>
  simp![aX.dat]at h0 |-
  refine cQ (af9 a I hs k) ?_;simp[cC,cM,h0,hc,aC,mH];cases iH M _<;>rfl
 |cut k=>
  simp![aX.dat]at h0 |-
  refine cQ (ajy a I hs #[] k) ?_;simp[cC,cM,h0,hc,aC,oN];cases jk M _<;>rfl
 |tear k p=>
  simp![aX.dat]at h0 |-
  refine cQ (afI a I hs k p #[]) ?_;simp[cC,cM,h0,hc,aC,mJ];cases fJ M _<;>rfl
 |sell k o=>
  simp![aX.dat]at h0 |-
  refine cQ (ahg a I hs #[] k o) ?_;simp[cC,cM,h0,hc,aC,mO];cases dH M _<;>rfl
 |move k g=>
  simp![aX.dat]at h0 |-
  refine cQ (afy a I hs #[] k g) ?_;simp[cC,cM,h0,hc,aC,mj];cases dG M _<;>rfl
 |die k=>
  simp![aX.dat]at h0 |-
  refine cQ (ajA a I hs k #[]) ?_;simp[cC,cM,h0,hc,aC,oG];cases j8 M _<;>rfl
 |zG x y=>
  simp![aX.dat]at h0 |-
  refine cQ (adk a I hs #[] x y) ?_;simp[cC,cM,h0,hc,aC,yt];cases eV M _<;>rfl
 |part x=>
  simp![aX.dat]at h0 |-
  refine cQ (agl a I hs #[] x) ?_;simp[cC,cM,h0,hc,aC,zB];cases iI M _<;>rfl
 |pass e h=>
  simp![aX.dat]at h0 |-
  refine cQ (ag6 a I hs #[] e h) ?_;simp[cC,cM,h0,hc,aC,jA];cases fD M _<;>rfl
 |heir e g x=>
  simp![aX.dat]at h0 |-
  refine cQ (agi a I hs #[] e g x) ?_;simp[cC,cM,h0,hc,aC,iZ];cases cI M _<;>rfl
end
def ab9{c:aF}{d:aX}{x:dX}(h:cW c d=.no x):oF.lookup x.cls=some true:=by cases d<;>simp![cW,vY,Aa,Qs,qN,DN,yS,markB,JN]at h<;>(repeat' left)<;>cases h<;>simp[oF]
def aaB:aX->Nat
 |.owner=>1
 |.heir ..=>1
 |_=>0
def dGr:aX->Nat
 |.ground _=>1
 |_=>0
def dBs:aX->Nat
 |.bring ..=>1
 |.bear _=>1
 |_=>0
def R3{c c':aF}{d:aX}{r:Dat}(h:cW c d=.ok r c'):c'.count=c.count+(aaB d:Int)/\c'.al.length=c.al.length+dGr d/\c'.bs.length=c.bs.length+dBs d/\(iy .none r=true->aaB d=0/\dGr d=0/\dBs d=0):=by cases d<;>simp![cW,vY,Aa,Qs,qN,DN,yS,markB]at h<;>(repeat' left)<;>cases h<;>simp[aaB,dGr,dBs,iy,ig,Bf,qI,lI]
def tL(c:aF)(d:aX):aF:=match cW c d with
 |.ok _ c'=>c'
 |.no _=>c
def bT(c:aF):Dat:=.tuple [.int c.count,.int c.al.length,.int c.bs.length]
section
variable{M:Mo}{L:Lay}{c:aF}(a:At M L c){n s:Nat}(I:Inv n s c)(hs:s<=76)(hn:n<=199)
include I hn
omit hn in
theorem Tp(d:aX)(hn:n<=199):Inv (n+1) (s+cost d) (tL c d):=by
 unfold tL;cases h:cW c d with
 |ok r c'=>exact ai0 I hn h
 |no x=>
  have h1:=I.hL;have h2:=I.al;exact I.of #[] I.gr (by show c.al.length<=_;omega) rfl rfl I.held (by show c.held.length+c.bs.length<=_;omega) I.hE ⟨I.ZF.g,λb hb=>by have:=I.en b hb;omega⟩
include a hs
theorem adV(d:aX)(hd:BL d)(hf:lG d=true):∃M' bs,nH M [ob L.c,d.dat,bT c]=.ok (bT (tL c d)) M'/\At M' { L with bs:=bs } (tL c d):=by
 have hc:=a.hc;have h0:=apb a I hs hn d hd hf;unfold tL;cases e:cW c d with
 |no x=>
  rw[e]at h0;have h0:_=_:=h0;have h1:=ab9 e;exact⟨M,L.bs,by simp[nH,Ks,hc,aC,pU,h0,h1,iy],a⟩
 |ok r c'=>
  rw[e]at h0;let⟨M',bs,h0,h2⟩:=h0
  let⟨q1,q2,q3,q4⟩:=R3 e
  refine⟨M',bs,?_,h2⟩;have e1:(c'.al.length:Int)=c.al.length+(dGr d:Int):=#[];have e2:(c'.bs.length:Int)=c.bs.length+(dBs d:Int):=#[];cases hr:iy .none r with
  |true=>
   let⟨z1,z2,z3⟩:=q4 hr
   simp[z1,z2,z3]at q1 e1 e2;simp[nH,Ks,hc,aC,pU,h0,hr,bT,q1,e1,e2]
  |false=>
   clear q4 q2 q3 e hf hd;cases d<;>simp[aaB,dGr,dBs]at q1 e1 e2<;>simp[nH,Ks,hc,aC,pU,h0,hr,bT,q1,e1,e2]<;>simp[aX.dat]
end
def Rp(f:Int):Int:=if f=9 then -1 else if f=8 then 3 else if f=7 then 2 else if f=6 then 1 else if f=5 then 1 else 0
def Rr(d f:Int):Int:=Uv 0 (if d+Rp f<9 then d+Rp f else 9)
def Wg(x f:ListInt):ListInt:=(x.zip f).map λp=>Rr p.1 p.2
def ahN(M:Mo)(x0 x1:Option Cell)(acc:List Dat)(d f:Int)(x5:Option Cell)(hf:0<=f/\f<10)(hl:acc.length<1000):∃x5',Us M [x0,x1,some (.mut acc),#[.int d],#[.int f],x5]=.next [x0,x1,some (.mut (acc++[.int (Rr d f)])),#[.int d],#[.int f],x5'] M:=by
 have hl2:acc.length<100000:=#[];have key:∀k:Nat,k<10->([0,0,0,0,0,1,1,2,3,-1]:ListInt)[k]?=some (Rp k):=#[()];obtain⟨k,rfl⟩:∃k:Nat,f=k:=⟨f.toNat,#[]⟩;have hk:=key k #[];have h2:atI (([0,0,0,0,0,1,1,2,3,-1]:ListInt).map PyData.int) (k:Int)=some (.int (Rp k)):=atI_nat (by rw[avQ,hk];rfl);refine⟨#[.int (Rp k)],?_⟩;have h3:aU (ao 5) (gOf (aW #[#[0],#[0],#[0],#[0],#[0],#[1],#[1],#[2],#[3],eZ T6 #[1]])[(4)]!) M [x0,x1,some (.mut acc),#[.int d],#[.int k],x5]=.next [x0,x1,some (.mut acc),#[.int d],#[.int k],#[.int (Rp k)]] M:=by
  show(((match atI (([0,0,0,0,0,1,1,2,3,-1]:ListInt).map PyData.int) (k:Int) with
   |some d=>Out.ok d
   |none=>.bad).at M).then _ λd M'=>_)=_
  rw[h2];rfl
 show %[_|_] _ _=_;rw[anL,h3];simp[hl2,Rr,Uv]
theorem Y6(M:Mo)(x0 x1:Option Cell):∀(ps:List (Int×Int)) (acc:List Dat) (x3 x4 x5:Option Cell),(∀p∈ps,0<=p.2/\p.2<10)->acc.length+ps.length<=500->∃x3' x4' x5',dY (aV [3,4]) Us (ps.map pD) M [x0,x1,some (.mut acc),x3,x4,x5]=.next [x0,x1,some (.mut (acc++ps.map λp=>.int (Rr p.1 p.2))),x3',x4',x5'] M
 |[],acc,x3,x4,x5,_,_=>⟨x3,x4,x5,by simp[dY]⟩
 |p::ps,acc,x3,x4,x5,h,hl=>by
  rw[avO]at hl;let⟨x5',e⟩:=ahN M x0 x1 acc p.1 p.2 x5 (h p avI) #[]
  let⟨y3,y4,y5,ih⟩:=Y6 M x0 x1 ps (acc++[.int (Rr p.1 p.2)]) #[.int p.1] #[.int p.2] x5' (λq hq=>h q (avG _ hq)) (by simp;omega)
  refine⟨y3,y4,y5,?_⟩;rw[List.map_cons,eE (Z1:=[x0,x1,some (.mut acc),#[.int p.1],#[.int p.2],x5]) (by simp[pD]) e,ih];simp
def akH(M:Mo)(x f:ListInt)(hx:x.length<=100)(hf:∀d∈f,0<=d/\d<10):Ot M [aG x,lI f]=.ok (aG (Wg x f)):=by
 let⟨y3,y4,y5,e⟩:=Y6 M #[aG x] #[lI f] (x.zip f) [] none none none (λp hp=>hf _ (List.of_mem_zip hp).2) (by simp;omega)
 simp[Ot,abd,Ay,e,Wg]
def KD(f:ListInt)(m:Int)(x:ListInt):ListInt:=if m<4 then Wg x f else BR f m
def afn(M:Mo)(x f:ListInt)(m:Int)(hx:x.length<=100)(hl:f.length<=1000)(hf:∀d∈f,0<=d/\d<10):yI M [lI f,.int m,aG x]=.ok (aG (KD f m x)):=by have h1:=akH M x f hx hf;have h2:=Zw M f m hl;unfold KD;by_cases h:m<4<;>simp[yI,Om,h,h1,h2]
def afW{x f:ListInt}(hx:x.length=6)(hf:f.length=6):cX (Wg x f)=true:=by
 refine ael (by simp[Wg];omega) λd hd=>?_;let⟨p,hp,rfl⟩:=avM.mp hd
 unfold Rr Uv
 split<;>split<;>omega
def afw{f x:ListInt}{m:Int}(hx:x.length=6)(hl:f.length=6)(hf:∀d∈f,0<=d/\d<10):cX (KD f m x)=true:=by
 unfold KD;split
 .exact afW hx hl
 .refine ael ?_ (ahZ hf);unfold BR;split
  .simpa using hl
  .split
   .simpa using hl
   .exact hl
def lN(f many:Int)(sure:Bool):Int:=if sure then 1+f%(if many>1 then many else 1) else f%(many+2)
def aaS(M:Mo)(f many:Int)(sure:Bool)(hm:0<=many):kE M [.int f,.int many,.bool sure]=.ok (.int (lN f many sure)):=by
 have h2:0<many+2:=#[];have h3:0<(if 1<many then many else 1):=by split<;>omega
 cases sure
 .simp[kE,aap,lN,h2]
 .simp[kE,aap,lN,h3]
def Eu{f many:Int}{sure:Bool}(hf:0<=f/\f<=1000)(hm:0<=many):nB (lN f many sure)=true:=by
 unfold lN nB;have key:∀m:Int,0<m->0<=f%m/\f%m<=f:=λm h=>⟨Int.emod_nonneg _ #[],by
  have h1:=Int.mul_ediv_add_emod f m;have h2:=Int.mul_nonneg (by omega:0<=m) (Int.ediv_nonneg hf.1 (by omega:0<=m))
  omega⟩
 simp![avD,awO];cases sure
 .have:=key (many+2) #[];simp;omega
 .have:=key (if many>1 then many else 1) (by split<;>omega);simp![if_true];omega
abbrev dd(M:Mo)(w:Str)(one two:Int)(p base:ListInt)(n0 n1 n2:Int):Out Dat:=gj M [.str w,.int one,.int two,lI p,.tuple [.int n0,.int n1,.int n2],aG base]
def eY(p:ListInt):Bool:=!(p.getD 6 0==9)
def M4(p base:ListInt):ListInt:=KD (p.drop 8) (p.getD 7 0) base
def grT(f:Int):Int:=if f=9 then 8 else if f=8 then 7 else if f=7 then 6 else if f=6 then 5 else if f=5 then 1 else if f=4 then 0 else f
def Kz(p base:ListInt):ListInt:=if p.getD 7 0<6 then[0,0,0,0,0,0] else M4 p base
structure Pts(p base:ListInt):Prop where
 len:p.length=14
 dig:∀d∈p,0<=d/\d<10
 base:base.length=6
def apA{p:ListInt}(h:p.length=14):∃a b c d e f g i j k l m n o:Int,p=[a,b,c,d,e,f,g,i,j,k,l,m,n,o]:=by
 match p,h with
 |[a,b,c,d,e,f,g,i,j,k,l,m,n,o],_=>exact⟨a,b,c,d,e,f,g,i,j,k,l,m,n,o,rfl⟩
def Pts.mark{p base:ListInt}(P:Pts p base):cX (M4 p base)=true:=afw P.base (by rw[awG,P.len]) λd hd=>P.dig d (List.mem_of_mem_drop hd)
def Pts.bring{p base:ListInt}(P:Pts p base):cX (Kz p base)=true:=by
 unfold Kz;split
 .decide
 .exact P.mark
section
variable(M:Mo){p base:ListInt}(P:Pts p base)(one two n0 n1 n2:Int)(h0:0<=n0)(h1:0<=n1)(h2:0<=n2)
include P h0 h1 h2
theorem abm :
  dd M "owner" one two p base n0 n1 n2=.ok (aX.dat (.owner))/\
  dd M "ground" one two p base n0 n1 n2=.ok (aX.dat (.ground (grT (p.getD 7 0)+4*(if eY p then 0 else 1))))/\
  dd M "enrol" one two p base n0 n1 n2=.ok (aX.dat (.enrol (lN one n0 (eY p)) (lN two n1 (eY p)) (M4 p base)))/\
  dd M "bring" one two p base n0 n1 n2=.ok (aX.dat (.bring (lN one n0 (eY p)) (lN two n1 (eY p)) (Kz p base)))/\
  dd M "leave" one two p base n0 n1 n2=.ok (aX.dat (.leave (lN one n0 (eY p)) (lN two n1 (eY p))))/\
  dd M "heir" one two p base n0 n1 n2=.ok (aX.dat (.heir (lN one n0 (eY p)) (lN two n1 (eY p)) (p.getD 7 0%4)))/\
  dd M "pass" one two p base n0 n1 n2=.ok (aX.dat (.pass (lN one n0 (eY p)) (lN two n0 (eY p))))/\
  dd M "unite" one two p base n0 n1 n2=.ok (aX.dat (.zG (lN one n1 (eY p)) (lN two n1 (eY p))))/\
  dd M "part" one two p base n0 n1 n2=.ok (aX.dat (.part (lN one n1 (eY p))))/\
  dd M "tear" one two p base n0 n1 n2=.ok (aX.dat (.tear (lN one n2 (eY p)) (p.getD 7 0%6)))/\
  dd M "sell" one two p base n0 n1 n2=.ok (aX.dat (.sell (lN one n2 (eY p)) (lN two n0 (eY p))))/\
  dd M "move" one two p base n0 n1 n2=.ok (aX.dat (.move (lN one n2 (eY p)) (lN two n1 (eY p))))/\
  dd M "bear" one two p base n0 n1 n2=.ok (aX.dat (.bear (lN one n2 (eY p))))/\
  dd M "cut" one two p base n0 n1 n2=.ok (aX.dat (.cut (lN one n2 (eY p))))/\
  dd M "die" one two p base n0 n1 n2=.ok (aX.dat (.die (lN one n2 (eY p)))):=by
 have hm:=afn M base (p.drop 8) (p.getD 7 0) (by rw[P.base];decide) (by rw[awG,P.len];decide) λd hd=>P.dig d (List.mem_of_mem_drop hd);have hr0:=λf=>aaS M f n0 (eY p) h0;have hr1:=λf=>aaS M f n1 (eY p) h1;have hr2:=λf=>aaS M f n2 (eY p) h2;have hd:=P.dig;have hbr:Kz p base=if p.getD 7 0<6 then[0,0,0,0,0,0] else M4 p base:=rfl
 have hmp:M4 p base=KD (p.drop 8) (p.getD 7 0) base:=rfl;have hsb:eY p=!(p.getD 6 0==9):=rfl;let⟨x0,x1,x2,x3,x4,x5,x6,x7,x8,x9,x10,x11,x12,x13,rfl⟩:=apA P.len
 generalize hp:[x0,x1,x2,x3,x4,x5,x6,x7,x8,x9,x10,x11,x12,x13]=p at *;have h6:p.getD 6 0=x6:=by rw[<-hp];rfl
 have h7:p.getD 7 0=x7:=by rw[<-hp];rfl
 have h8:p.drop 8=[x8,x9,x10,x11,x12,x13]:=by rw[<-hp];rfl
 have hx7:=hd x7 (by rw[<-hp];simp);rw[h7,h8]at hm hmp;rw[h7]at hbr;rw[h6]at hsb;simp![h7];generalize eY p=su at *;generalize M4 p base=mk at *;generalize Kz p base=br at *;have c1:Rf.cutD (p.map PyData.int) (some 8) (some 14)=[PyData.int x8,.int x9,.int x10,.int x11,.int x12,.int x13]:=by rw[<-hp];rfl
 have c2:atI (p.map PyData.int) 7=some (.int x7):=by rw[<-hp];rfl
 have c3:atI (p.map PyData.int) 6=some (.int x6):=by rw[<-hp];rfl
 have hm:yI M [.list [PyData.int x8,.int x9,.int x10,.int x11,.int x12,.int x13],.int x7,aG base]=.ok (aG mk):=by rw[hmp];exact hm
 have key:∀k:Nat,k<10->([0,1,2,3,0,1,5,6,7,8]:ListInt)[k]?=some (grT k):=#[()];have hk:atI (([0,1,2,3,0,1,5,6,7,8]:ListInt).map PyData.int) x7=some (.int (grT x7)):=by obtain⟨k,rfl⟩:∃k:Nat,x7=k:=⟨x7.toNat,#[]⟩;exact atI_nat (by rw[avQ,key k #[]];rfl)
 simp at hk;have hm4:∀z,decide (CMul 4 z)=true:=λz=>ajI #[()];clear hp hd P;refine⟨?_,?_,?_,?_,?_,?_,?_,?_,?_,?_,?_,?_,?_,?_,?_⟩
 .simp[dd,gj,kY,c1,c2,c3,hm,<-hsb,hr0,hr1,hr2,aX.dat]
 .cases su<;>simp[dd,gj,kY,c1,c2,c3,hm,<-hsb,hk,hm4,Rf.intD,aX.dat]
 .simp[dd,gj,kY,c1,c2,c3,hm,<-hsb,hr0,hr1,hr2,aX.dat]
 .by_cases h76:x7<6
  .rw[awS h76]at hbr;simp[dd,gj,kY,c1,c2,c3,hm,<-hsb,hr0,hr1,hr2,aX.dat,h76,hbr]
  .rw[awT h76]at hbr;simp[dd,gj,kY,c1,c2,c3,hm,<-hsb,hr0,hr1,hr2,aX.dat,h76,hbr]
 .simp[dd,gj,kY,c1,c2,c3,hm,<-hsb,hr0,hr1,hr2,aX.dat]
 .simp[dd,gj,kY,c1,c2,c3,hm,<-hsb,hr0,hr1,hr2,aX.dat]
 .simp[dd,gj,kY,c1,c2,c3,hm,<-hsb,hr0,hr1,hr2,aX.dat]
 .simp[dd,gj,kY,c1,c2,c3,hm,<-hsb,hr0,hr1,hr2,aX.dat]
 .simp[dd,gj,kY,c1,c2,c3,hm,<-hsb,hr0,hr1,hr2,aX.dat]
 .simp[dd,gj,kY,c1,c2,c3,hm,<-hsb,hr0,hr1,hr2,aX.dat]
 .simp[dd,gj,kY,c1,c2,c3,hm,<-hsb,hr0,hr1,hr2,aX.dat]
 .simp[dd,gj,kY,c1,c2,c3,hm,<-hsb,hr0,hr1,hr2,aX.dat]
 .simp[dd,gj,kY,c1,c2,c3,hm,<-hsb,hr0,hr1,hr2,aX.dat]
 .simp[dd,gj,kY,c1,c2,c3,hm,<-hsb,hr0,hr1,hr2,aX.dat]
 .simp[dd,gj,kY,c1,c2,c3,hm,<-hsb,hr0,hr1,hr2,aX.dat]
theorem Uj{w:Str}(hw:w∈(["owner","ground","enrol","bring","leave","heir","pass","unite","part","tear","sell","move","bear","cut","die"]:List Str))(ho:0<=one/\one<=1000)(ht:0<=two/\two<=1000):∃d:aX,gj M [.str w,.int one,.int two,lI p,.tuple [.int n0,.int n1,.int n2],aG base]=.ok d.dat/\lG d=true/\BL d:=by
 have r10:=Eu (f:=one) (sure:=eY p) ho h0;have r11:=Eu (f:=one) (sure:=eY p) ho h1;have r12:=Eu (f:=one) (sure:=eY p) ho h2;have r20:=Eu (f:=two) (sure:=eY p) ht h0;have r21:=Eu (f:=two) (sure:=eY p) ht h1;have r22:=Eu (f:=two) (sure:=eY p) ht h2;have m1:=P.mark;have m2:=P.bring;have l1:(M4 p base).length<=1000:=by rw[fK m1];decide
 have l2:(Kz p base).length<=1000:=by rw[fK m2];decide
 have h7:0<=p.getD 7 0/\p.getD 7 0<10:=P.dig _ (by
  have:=P.len;rw[List.getD_eq_getElem?_getD,avE #[]];exact awh _)
 have q4:nB (p.getD 7 0%4)=true:=by unfold nB;simp![avD,awO];omega
 have q6:plB (p.getD 7 0%6)=true:=by unfold plB;simp![avD,awO];omega
 have qg:nB (grT (p.getD 7 0)+4*(if eY p then 0 else 1))=true:=by
  unfold nB grT;simp![avD,awO]
  split<;>(repeat' split)<;>omega
 simp![avP,av8,or_false]at hw;let⟨d0,d1,d2,d3,d4,d5,d6,d7,d8,d9,d10,d11,d12,d13,d14⟩:=abm M P one two n0 n1 n2 h0 h1 h2
 rcases hw with rfl|rfl|rfl|rfl|rfl|rfl|rfl|rfl|rfl|rfl|rfl|rfl|rfl|rfl|rfl
 all_goals first
  | exact⟨_,d1,qg,by first | trivial | assumption⟩
  | exact⟨_,by first | exact d0 | exact d2 | exact d3 | exact d4 | exact d5 | exact d6 | exact d7 | exact d8 | exact d9 | exact d10 | exact d11 | exact d12 | exact d13 | exact d14,by simp[lG,r10,r11,r12,r20,r21,r22,m1,m2,q4,q6,-List.getD_eq_getElem?_getD],by first | trivial | assumption⟩
end
abbrev words:List Str:=["owner","ground","enrol","bring","leave","heir","pass","unite","part","tear","sell","move","bear","cut","die"]
def ZR:List Str:=["tear","cut","bring","sell","move","enrol","bear","tear","cut","sell","move","unite","part","heir","pass","die","leave","ground","owner","enrol","tear","sell","bring","bear","cut"]
def ada(M:Mo)(f:Int):∃w∈words,vD M [.int f]=.ok (.str w):=by
 have h1:0<=f%25/\f%25<25:=#[];obtain⟨k,hk⟩:∃k:Nat,f%25=k:=⟨(f%25).toNat,#[]⟩;have hl:k<ZR.length:=by show k<25;omega
 have h2:atI (ZR.map PyData.str) (k:Int)=some (.str ZR[k]):=atI_nat (by rw[avQ,avE hl];rfl);have h3:∀w∈ZR,w∈words:=by simp[ZR]
 refine⟨ZR[k],h3 _ (awh hl),?_⟩;generalize ZR[k]=z at h2;simp[ZR]at h2;simp[vD,Qe,hk,h2]
def zE(h:Int):List (Str×Int×Int):=if h%8=7 then[] else[("ground",0,0),("owner",0,0),("owner",0,0),("enrol",0,0),("enrol",1,0),("bring",0,0),("cut",0,0),("bring",1,0),("cut",1,0),("ground",0,0),("enrol",0,1)]
def K8(r:Str×Int×Int):Dat:=.tuple [.str r.1,.int r.2.1,.int r.2.2]
def af7(M:Mo)(h:Int):xP M [.int h]=.ok (.list ((zE h).map K8)):=by unfold zE;by_cases e:h%8=7<;>simp[xP,Jj,e,K8]
def alY{h:Int}:∀r∈zE h,r.1∈words/\(0<=r.2.1/\r.2.1<=1000)/\0<=r.2.2/\r.2.2<=1000:=by
 unfold zE;split
 .simp
 .simp
inductive Rch:Nat->aF->Prop where
 |nil:Rch 0 ⟨0,[],[],[],[],[]⟩
 |step {n:Nat} {c:aF} (d:aX):Rch n c->lG d=true->Rch (n+1) (tL c d)
 |le {n m:Nat} {c:aF}:Rch n c->n<=m->Rch m c
def Inv.mono{n s n' s':Nat}{c:aF}(I:Inv n s c)(h1:n<=n')(h2:s<=s'):Inv n' s' c:=
 I.of h1 I.gr (av2 I.al h1) rfl rfl I.held (av2 I.hL h2) I.hE ⟨I.ZF.g,λb hb=>by have:=I.en b hb;omega⟩
def Kl(d:aX):cost d<=1:=by cases d<;>simp[cost]
def aqM:Inv 0 0 ⟨0,[],[],[],[],[]⟩:=⟨⟨rfl,by simp,by simp,by simp,by simp,by simp,by simp⟩,by simp,by simp,by simp,by simp,by simp,by simp,by simp,by simp,by simp,by simp,by simp,by simp⟩
structure Now(M:Mo)(L:Lay)(n s:Nat)(c:aF):Prop where
 at_:At M L c
 inv:Inv n s c
 rch:Rch n c
def Now.done{M:Mo}{L:Lay}{n s:Nat}{c:aF}(N:Now M L n s c)(hs:s<=76)(hn:n<=199)(d:aX)(hd:BL d)(hf:lG d=true):∃M' bs,nH M [ob L.c,d.dat,bT c]=.ok (bT (tL c d)) M'/\Now M' { L with bs:=bs } (n+1) (s+cost d) (tL c d):=by
 let⟨M',bs,h1,h2⟩:=adV N.at_ N.inv hs hn d hd hf
 exact⟨M',bs,h1,h2,Tp N.inv d hn,.step d N.rch hf⟩
def Wx(x:Int){base:ListInt}(h:base.length=6):Pts (rowOf x 14 10) base:=⟨adS ..,af3 #[()] _ _,h⟩
def jP(x:Int)(k:Nat)(h:k<14):atI ((rowOf x 14 10).map PyData.int) (k:Int)=some (.int ((rowOf x 14 10).getD k 0))/\0<=(rowOf x 14 10).getD k 0/\(rowOf x 14 10).getD k 0<=9:=by
 have hl:k<(rowOf x 14 10).length:=by rw[adS];exact h
 refine⟨abk _ k hl,?_⟩;rw[List.getD_eq_getElem?_getD,avE hl];have:=af3 #[()] x 14 _ (awh hl);simp;omega
def ahA{M:Mo}{L:Lay}{n s:Nat}{c:aF}(N:Now M L n s c)(hs:s<=76)(hn:n<=199)(x1:Option Cell)(head:Int)(base:ListInt)(hb:base.length=6)(i:Nat)(x:Int)(x8 x9 x10 x11 x12:Option Cell) :
  ∃d M' bs y8 y9 y10 y11,lG d=true/\GJ M [#[ob L.c],x1,#[.int head],#[bT c],#[aG base],#[.list ((zE head).map K8)],#[.int i],#[.int x],x8,x9,x10,x11,x12]=.next [#[ob L.c],x1,#[.int head],#[bT (tL c d)],#[aG base],#[.list ((zE head).map K8)],#[.int i],#[.int x],y8,y9,y10,y11,x12] M'/\Now M' { L with bs:=bs } (n+1) (s+cost d) (tL c d):=by
 have h1:ug M [.int x,.int 14,.int 10]=.ok (lI (rowOf x 14 10)):=Wc M x 14 10 #[()] #[()] #[()];have P:=Wx x hb;let⟨r0,q0,q0'⟩:=jP x 0 #[()]
 let⟨r1,q1,q1'⟩:=jP x 1 #[()]
 let⟨r2,q2,q2'⟩:=jP x 2 #[()]
 let⟨r3,q3,q3'⟩:=jP x 3 #[()]
 let⟨r4,q4,q4'⟩:=jP x 4 #[()]
 let⟨r5,q5,q5'⟩:=jP x 5 #[()]
 generalize rowOf x 14 10=p at *;generalize p.getD 0 0=d0 at *;generalize p.getD 1 0=d1 at *;generalize p.getD 2 0=d2 at *;generalize p.getD 3 0=d3 at *;generalize p.getD 4 0=d4 at *;generalize p.getD 5 0=d5 at *;let⟨w,hw,h2⟩:=ada M (d0*10+d1)
 have hm:∀z,decide (CMul z 10)=true:=λz=>mul_r #[()];have c0:=N.inv.cnt.1;simp![Int.natCast_zero,Int.natCast_one,show((2:Nat):Int)=2 from rfl,show((3:Nat):Int)=3 from rfl,show((4:Nat):Int)=4 from rfl,show((5:Nat):Int)=5 from rfl]at r0 r1 r2 r3 r4 r5;by_cases hi:i<(zE head).length
 .have hi':(i:Int)<(zE head).length:=#[];have g:=avE hi;let⟨b1,b2,b3⟩:=alY _ (awh hi)
  generalize (zE head)[i]=b at *;let⟨d,e1,e2,e3⟩:=Uj M P b.2.1 b.2.2 c.count c.al.length c.bs.length c0 #[] #[] b1 b2 b3
  let⟨M',bs,e4,e5⟩:=N.done hs hn d e3 e2
  refine⟨d,M',bs,#[lI p],#[.str b.1],#[.int b.2.1],#[.int b.2.2],e2,?_,e5⟩;have e1:gj M [.str b.1,.int b.2.1,.int b.2.2,lI p,bT c,aG base]=.ok d.dat:=e1;simp[GJ,h1,r0,r1,r2,r3,r4,r5,hm,h2,hi',g];simp[K8,e1,e4]
 .have hi':¬(i:Int)<(zE head).length:=#[];let⟨d,e1,e2,e3⟩:=Uj M P (d2*10+d3) (d4*10+d5) c.count c.al.length c.bs.length c0 #[] #[] hw #[] #[]
  let⟨M',bs,e4,e5⟩:=N.done hs hn d e3 e2
  refine⟨d,M',bs,#[lI p],#[.str w],#[.int (d2*10+d3)],#[.int (d4*10+d5)],e2,?_,e5⟩;have e1:gj M [.str w,.int (d2*10+d3),.int (d4*10+d5),lI p,bT c,aG base]=.ok d.dat:=e1;simp[GJ,h1,r0,r1,r2,r3,r4,r5,hm,h2,hi'];simp[e1,e4]
theorem ZK(x1:Option Cell)(head:Int)(base:ListInt)(hb:base.length=6)(x12:Option Cell):∀(xs:List (Nat×Int)) (M:Mo) (L:Lay) (n:Nat) (c:aF) (x6 x7 x8 x9 x10 x11:Option Cell),Now M L n n c->n+xs.length<=76->
  ∃c' M' bs y6 y7 y8 y9 y10 y11,dY (aV [6,7]) GJ (xs.map λq=>PyData.tuple [.int q.1,.int q.2]) M [#[ob L.c],x1,#[.int head],#[bT c],#[aG base],#[.list ((zE head).map K8)],x6,x7,x8,x9,x10,x11,x12]=.next [#[ob L.c],x1,#[.int head],#[bT c'],#[aG base],#[.list ((zE head).map K8)],y6,y7,y8,y9,y10,y11,x12] M'/\Now M' { L with bs:=bs } (n+xs.length) (n+xs.length) c'
 |[],M,L,n,c,x6,x7,x8,x9,x10,x11,N,_=>⟨c,M,L.bs,x6,x7,x8,x9,x10,x11,rfl,N⟩
 |q::xs,M,L,n,c,x6,x7,x8,x9,x10,x11,N,hl=>by
  rw[avO]at hl;let⟨d,M1,bs,y8,y9,y10,y11,h0,h1,N1⟩:=ahA N #[] #[] x1 head base hb q.1 q.2 x8 x9 x10 x11 x12
  have N1:Now M1 { L with bs:=bs } (n+1) (n+1) (tL c d):=⟨N1.at_,N1.inv.mono (avW _) (by have:=Kl d;omega),N1.rch⟩;let⟨c',M',bs',z6,z7,z8,z9,z10,z11,h2,N2⟩:=ZK x1 head base hb x12 xs M1 { L with bs:=bs } (n+1) (tL c d) #[.int q.1] #[.int q.2] y8 y9 y10 y11 N1 #[]
  refine⟨c',M',bs',z6,z7,z8,z9,z10,z11,?_,?_⟩
  .rw[List.map_cons,eE (Z1:=[#[ob L.c],x1,#[.int head],#[bT c],#[aG base],#[.list ((zE head).map K8)],#[.int q.1],#[.int q.2],x8,x9,x10,x11,x12]) (by simp) h1];exact h2
  .rw[avO,show n+(xs.length+1)=n+1+xs.length by omega];exact N2
def aeL{M:Mo}{L:Lay}{n s:Nat}{c:aF}(N:Now M L n s c)(hs:s<=75)(hn:n<=198)(x1 x2 x4 x5 x6 x7 x8 x9 x10 x11 x12:Option Cell) :
  ∃c' M' bs,MP M [#[ob L.c],x1,x2,#[bT c],x4,x5,x6,x7,x8,x9,x10,x11,x12]=.next [#[ob L.c],x1,x2,#[bT c'],x4,x5,x6,x7,x8,x9,x10,x11,x12] M'/\Now M' { L with bs:=bs } (n+2) (s+1) c':=by
 let⟨M1,bs1,h1,N1⟩:=N.done #[] #[] (.bring 1 1 [0,0,0,0,0,0]) (by simp[BL]) #[()]
 have hl:=N1.inv.hL;have hc:cost (.bring 1 1 [0,0,0,0,0,0])=1:=rfl;generalize tL c (.bring 1 1 [0,0,0,0,0,0])=c1 at *;let⟨M2,bs2,h2,N2⟩:=N1.done #[] #[] (.cut c1.bs.length) awM (by simp![lG,nB,avD,awO];omega)
 refine⟨_,M2,bs2,?_,N2.at_,N2.inv,N2.rch⟩;have h1:nH M [ob L.c,.tuple [.str "bring",.int 1,.int 1,.tuple [.int 0,.int 0,.int 0,.int 0,.int 0,.int 0]],bT c]=.ok (bT c1) M1:=h1
 have h2:nH M1 [ob L.c,.tuple [.str "cut",.int c1.bs.length],bT c1]=_:=h2
 simp[MP,h1];have e:atI [PyData.int c1.count,.int c1.al.length,.int c1.bs.length] 2=some (.int c1.bs.length):=rfl;simp[bT]at h2 |-
 simp[h2]
theorem Vz(x1 x2 x4 x5 x6 x7 x8 x9 x10 x11:Option Cell):∀(xs:List Dat) (M:Mo) (L:Lay) (n s:Nat) (c:aF) (x12:Option Cell),Now M L n s c->n+2*xs.length<=198->s+xs.length<=75->
  ∃c' M' bs y12,dY (ao 12) MP xs M [#[ob L.c],x1,x2,#[bT c],x4,x5,x6,x7,x8,x9,x10,x11,x12]=.next [#[ob L.c],x1,x2,#[bT c'],x4,x5,x6,x7,x8,x9,x10,x11,y12] M'/\Now M' { L with bs:=bs } (n+2*xs.length) (s+xs.length) c'
 |[],M,L,n,s,c,x12,N,_,_=>⟨c,M,L.bs,x12,rfl,N⟩
 |q::xs,M,L,n,s,c,x12,N,h1,h2=>by
  rw[avO]at h1 h2;let⟨c1,M1,bs1,e1,N1⟩:=aeL N #[] #[] x1 x2 x4 x5 x6 x7 x8 x9 x10 x11 #[q]
  let⟨c',M',bs',y12,e2,N2⟩:=Vz x1 x2 x4 x5 x6 x7 x8 x9 x10 x11 xs M1 { L with bs:=bs1 } (n+2) (s+1) c1 #[q] N1 #[] #[]
  refine⟨c',M',bs',y12,?_,?_⟩
  .rw[eE (Z1:=[#[ob L.c],x1,x2,#[bT c],x4,x5,x6,x7,x8,x9,x10,x11,#[q]]) (by simp) e1];exact e2
  .rw[avO,show n+2*(xs.length+1)=n+2+2*xs.length by omega,show s+(xs.length+1)=s+1+xs.length by omega];exact N2
def abp:aF:=⟨0,[],[],[],[],[]⟩
def akJ{M:Mo}{L:Lay}(a:At M L abp)(cells:ListInt)(hl:cells.length<=43)(head:Int):∃c M' L',L'.c=L.c/\JL M [ob L.c,lI cells,.int head]=.ok (bT c) M'/\Now M' L' 99 71 c:=by
 have hb:=QC (head/512);have h1:=ahD M (head/512);have h2:=af7 M head;have N0:Now M L 0 0 abp:=⟨a,aqM,.nil⟩;have hen:qR 0 (cells.map PyData.int)=(cells.mapIdx λi x=>(i,x)).map λ(q:Nat×Int)=>PyData.tuple [.int q.1,.int q.2]:=by unfold qR;apply av6;intro i;simp;cases cells[i]?<;>simp
 let⟨c1,M1,bs1,y6,y7,y8,y9,y10,y11,e1,N1⟩:=ZK #[lI cells] head (Mp (head/512)) hb none (cells.mapIdx λi x=>(i,x)) M L 0 abp none none none none none none N0 (by simp;omega)
 simp![List.length_mapIdx,Nat.zero_add]at N1;have hd:∀z,decide (CDiv z 512)=true:=λz=>decide_eq_true ⟨#[()],#[()]⟩;have hd8:∀z,decide (CDiv z 8)=true:=λz=>decide_eq_true ⟨#[()],#[()]⟩;have hd64:∀z,decide (CDiv z 64)=true:=λz=>decide_eq_true ⟨#[()],#[()]⟩;have hm:∀z,decide (CMul z 4)=true:=λz=>mul_r #[()];have z0:bT abp=.tuple [.int 0,.int 0,.int 0]:=rfl;rw[z0]at e1;by_cases hh:head/8%8=1
 .obtain⟨k,hk,hk2⟩:∃k:Nat,head/64%8*4=k/\k<=28:=⟨(head/64%8*4).toNat,#[],#[]⟩;let⟨c2,M2,bs2,y12,e2,N2⟩:=Vz #[lI cells] #[.int head] #[aG (Mp (head/512))] #[.list ((zE head).map K8)] y6 y7 y8 y9 y10 y11 (jC 0 k) M1 { L with bs:=bs1 } cells.length cells.length c1 none N1 (by simp[jC];omega) (by simp[jC];omega)
  refine⟨c2,M2,{ L with bs:=bs2 },rfl,?_,N2.at_,N2.inv.mono (by simp[jC];omega) (by simp[jC];omega),N2.rch.le (by simp[jC];omega)⟩;have k1:(k:Int)<=100000:=#[];have k2 : -100000<=(k:Int):=#[];simp[JL,Wj,hd,h1,h2,hen,e1,hd8,hh,hd64,hm,hk,k1,k2,e2]
 .refine⟨c1,M1,{ L with bs:=bs1 },rfl,?_,N1.at_,N1.inv.mono #[] #[],N1.rch.le #[]⟩;simp[JL,Wj,hd,h1,h2,hen,e1,hd8,hh]
def L0:Lay:=⟨0,2,5,7,[],[]⟩
def aq7:∃M L,L.c=0/\rJ [⟨"Commons",[]⟩] [ob 0]=.ok .none M/\At M L abp:=by refine⟨_,L0,rfl,by simp[rJ,Bg,lJ,wz,Bt,yg,Du,BK,Jv];rfl,?_⟩;exact⟨rfl,⟨_,_,rfl⟩,rfl,⟨_,rfl⟩,rfl,λi h b z _=>(by cases z),#[()],λp hp=>(by cases hp)⟩
def anB(n:Nat)(x:ListInt):lk (n+1) (aG x)=true:=by show lk (n+1) (.tuple (x.map PyData.int))=true;rw[lk];exact ahV n x
def anS(n:Nat)(x:Option ListInt):lk (n+1) (j9 x)=true:=by
 cases x with
 |none=>rw[j9,lk]
 |some e=>exact anB n e
def apU(n:Nat)(f:Fi):lk (n+2) f.dat=true:=by cases f<;>simp[Fi.dat,lk,oW]
def aqc(n:Nat)(e:En):lk (n+2) e.dat=true:=by cases e<;>simp[En.dat,lk,oW]
def alm(n:Nat)(b:bZ):lk (n+4) (bU b)=true:=by
 have h1:oW (n+2) (b.en.map En.dat)=true:=uO.mpr λd hd=>by
  let⟨e,_,rfl⟩:=avM.mp hd
  exact aqc n e
 have h2:=apU n b.fi;have h3:=anS (n+2) b.sd.due;simp[bU,lk,oW,h1,h2,h3]
def akh(c:aF):lk 9 (fB c)=true:=by
 have h1:∀n,oW (n+2) ((List.range c.al.length).map (Zh c))=true:=λn=>uO.mpr λd hd=>by
  let⟨e,_,rfl⟩:=avM.mp hd
  simp[Zh,lk,oW]
 have h2:∀n,oW (n+2) (c.held.map iz)=true:=λn=>uO.mpr λd hd=>by
  let⟨e,_,rfl⟩:=avM.mp hd
  simp[iz,lk,oW]
 have h3:∀n,oW (n+4) (c.bs.map bU)=true:=λn=>uO.mpr λd hd=>by
  let⟨e,_,rfl⟩:=avM.mp hd
  exact alm n e
 simp[fB,lk,oW,h1,h2,h3]
def agu(M:Mo)(c:aF):nu 10 M [fB c,fB c]=.ok (.bool true):=adF M 9 _ (akh c)
def alb{M:Mo}{L:Lay}{c:aF}{n s:Nat}(a:At M L c)(I:Inv n s c)(hs:s<=1000):rE M [ob L.c]=.ok (fB c):=by have:=I.hL;exact akn a I.gr #[] #[]
def ac5(l:ListInt)(lo hi:Option Int):Rf.cutD (l.map PyData.int) lo hi=(Rf.cutD l lo hi).map PyData.int:=by unfold Rf.cutD;rw[avN,List.map_take,List.map_drop]
def adn{α:Type}(l:List α)(a b:Nat)(h:a<=b):(Rf.cutD l (some (a:Int)) (some (b:Int))).length<=b-a:=by unfold Rf.cutD;rw[HT.sIx_nat,HT.sIx_nat,List.length_take];omega
abbrev v9:=List ((Int×Int)×(Int×Int))
def rK(l:v9):Rf.KV:=l.map λp=>(Rf.pD p.1,Rf.pD p.2)
def jg(l:v9)(k:Int×Int):Int×Int:=match l.find? λp=>p.1==k with
 |some p=>p.2
 |none=>(0,0)
def Ju(l:v9)(k v:Int×Int):v9:=match l.any λp=>p.1==k with
 |true=>l.map λp=>if p.1==k then(p.1,v) else p
 |false=>l++[(k,v)]
def rM(l:v9)(b:bZ):v9:=Ju l (b.sd.o,b.sd.g) (if b.sd.due=none then((jg l (b.sd.o,b.sd.g)).1,(jg l (b.sd.o,b.sd.g)).2+1) else((jg l (b.sd.o,b.sd.g)).1+1,(jg l (b.sd.o,b.sd.g)).2))
def Oq(a b:Int×Int):PyData.eqv (Rf.pD a) (Rf.pD b)=(a==b):=by
 let⟨a1,a2⟩:=a
 let⟨b1,b2⟩:=b
 simp[Rf.pD,PyData.eqv,PyData.eqvAll];rfl
def alk(l:v9)(k:Int×Int):Yh (rK l) (Rf.pD k) (Rf.pD (0,0))=Rf.pD (jg l k):=by
 unfold Yh jg rK;rw[List.find?_map];have e:((λp:Dat×Dat=>PyData.eqv p.1 (Rf.pD k)) ∘ λp:(Int×Int)×(Int×Int)=>(Rf.pD p.1,Rf.pD p.2))=λp=>p.1==k:=by funext p;exact Oq _ _
 rw[e];cases l.find? λp=>p.1==k<;>rfl
def amA(l:v9)(k:Int×Int):((rK l).any λp=>PyData.eqv p.1 (Rf.pD k))=l.any λp=>p.1==k:=by unfold rK;rw[awD];congr 1;funext p;exact Oq _ _
def akI(l:v9)(k v:Int×Int):putN (rK l) (Rf.pD k) (Rf.pD v)=rK (Ju l k v):=by
 unfold putN Ju;rw[amA];cases l.any λp=>p.1==k with
 |true=>
  unfold rK;rw[avZ,avZ];refine List.map_congr_left λp _=>?_
  show(if PyData.eqv (Rf.pD p.1) (Rf.pD k)=true then(Rf.pD p.1,Rf.pD v) else(Rf.pD p.1,Rf.pD p.2))=_
  rw[Oq];by_cases hk:p.1=k<;>simp[hk]
 |false=>simp[rK]
def SJ(l:v9)(k v:Int×Int):(Ju l k v).length<=l.length+1:=by
 unfold Ju
 split<;>simp
def afY(k:Int×Int):(NestedKey.tup [.num k.1,.num k.2]).depth<=8:=by simp[NestedKey.depth,NestedKey.depthAll]
def acX(l:List (Int×Int)):prs (l.map Rf.pD)=some l:=by
 induction l with
 |nil=>rfl
 |cons p l ih=>
  show(prs (l.map Rf.pD)).bind _=_
  rw[ih];rfl
def Ua:Ai:=(Oa (Tt (aW #[eG "owner" (3),eG "ground" (3)]) (ao 4)) (Oa (S9 (4:) (aW #[#[0],#[0]]) (aV [5,6])) (TV (4:) (Qa (cV (sO false .none (bh "due" (3)))) (aW #[(5:),aH eU (6) #[1]]) (aW #[aH eU (5) #[1],(6:)])))))
def ah2{M:Mo}{h n:Nat}{b:bZ}(hb:M[h]?=some (iB n b))(l:v9)(hl:l.length<100000)(x0 x2 x4 x5 x6:Option Cell):∃y4 y5 y6,Ua (rK l) M [x0,none,x2,#[ob h],x4,x5,x6]=some (rK (rM l b),[x0,none,x2,#[ob h],y4,y5,y6]):=by
 have g1:Yh (rK l) (.tuple [.int b.sd.o,.int b.sd.g]) (.tuple [.int 0,.int 0])=.tuple [.int (jg l (b.sd.o,b.sd.g)).1,.int (jg l (b.sd.o,b.sd.g)).2]:=alk l (b.sd.o,b.sd.g);have g2:∀c u:Int,putN (rK l) (.tuple [.int b.sd.o,.int b.sd.g]) (.tuple [.int c,.int u])=rK (Ju l (b.sd.o,b.sd.g) (c,u)):=λc u=>akI l (b.sd.o,b.sd.g) (c,u);have k1:nM (.tuple [.int b.sd.o,.int b.sd.g])=some (.tup [.num b.sd.o,.num b.sd.g]):=rfl;have k2:(NestedKey.tup [.num b.sd.o,.num b.sd.g]).depth<=8:=afY (b.sd.o,b.sd.g);have k3:(rK l).length<100000:=by unfold rK;rw[avN];exact hl
 refine⟨#[.tuple [.int b.sd.o,.int b.sd.g]],#[.int (jg l (b.sd.o,b.sd.g)).1],#[.int (jg l (b.sd.o,b.sd.g)).2],?_⟩;unfold rM;cases hd:b.sd.due with
 |none=>simp[Ua,Oa,Tt,S9,TV,hb,iB,hd,j9,iy,k1,k2,k3,g1,g2]
 |some e=>simp[Ua,Oa,Tt,S9,TV,hb,iB,hd,j9,iy,k1,k2,k3,g1,g2]
theorem aaT{M:Mo}(x0:Option Cell):∀(xs:List (Nat×Nat×bZ)) (l:v9) (x2 x3 x4 x5 x6:Option Cell),(∀x∈xs,∃n,M[x.2.1]?=some (iB n x.2.2))->l.length+xs.length<100000->∃y2 y3 y4 y5 y6,Ry (aV [2,3]) Ua (xs.map nb) (rK l) M [x0,none,x2,x3,x4,x5,x6]=some (rK ((xs.map λx=>x.2.2).foldl rM l),[x0,none,y2,y3,y4,y5,y6])
 |[],l,x2,x3,x4,x5,x6,_,_=>⟨x2,x3,x4,x5,x6,rfl⟩
 |x::xs,l,x2,x3,x4,x5,x6,h,hl=>by
  let⟨n,hb⟩:=h x avI
  rw[avO]at hl;let⟨y4,y5,y6,e⟩:=ah2 hb l #[] x0 #[.int ((x.1:Int)+1)] x4 x5 x6
  have hp:(rM l x.2.2).length<=l.length+1:=SJ _ _ _;let⟨z2,z3,z4,z5,z6,ih⟩:=aaT x0 xs (rM l x.2.2) #[.int ((x.1:Int)+1)] #[ob x.2.1] y4 y5 y6 (λy hy=>h y (avG _ hy)) #[]
  refine⟨z2,z3,z4,z5,z6,?_⟩;rw[List.map_cons,Ry];have e1:aV [2,3] (nb x) [x0,none,x2,x3,x4,x5,x6]=some [x0,none,#[.int ((x.1:Int)+1)],#[ob x.2.1],x4,x5,x6]:=by simp[nb]
  rw[e1]
  show(Ua (rK l) M _).bind _=_
  rw[e];exact ih
def jE(bs:List bZ):v9:=bs.foldl rM []
def Ln(l:v9)(k:Int×Int):Dat:=.tuple [.int k.1,.int k.2,.int (jg l k).1,.int (jg l k).2]
def tallyD(bs:List bZ):Dat:=.list ((jJ ((jE bs).map (·.1))).map (Ln (jE bs)))
theorem adq{M:Mo}{Z:Rf.Env}(l:v9)(h4:4<Z.length):∀ks:List (Int×Int),(∀k∈ks,k∈l.map (·.1))->Q6 (ao 4) (IV (Kh (4:)) (QH (Kh (4:)))) (rK l) M Z (ks.map Rf.pD)=some (ks.map (Ln l))
 |[],_=>rfl
 |k::ks,h=>by
  have ih:=adq (M:=M) (Z:=Z) l h4 ks λk hk=>h k (avG _ hk);have hf:Ri (rK l) (Rf.pD k)=some (Rf.pD (jg l k)):=by
   unfold Ri jg rK;rw[List.find?_map];have e:((λp:Dat×Dat=>PyData.eqv p.1 (Rf.pD k)) ∘ λp:(Int×Int)×(Int×Int)=>(Rf.pD p.1,Rf.pD p.2))=λp=>p.1==k:=by funext p;exact Oq _ _
   rw[e];cases hz:l.find? λp=>p.1==k with
   |some p=>rfl
   |none=>
    exfalso;let⟨p,hp,hk⟩:=avM.mp (h k avI)
    have:=List.find?_eq_none.mp hz p hp;simp[hk]at this
  have hf':Ri (rK l) (.tuple [.int k.1,.int k.2])=some (.tuple [.int (jg l k).1,.int (jg l k).2]):=hf;have k1:nM (.tuple [.int k.1,.int k.2])=some (.tup [.num k.1,.num k.2]):=rfl;have k2:=afY k;rw[List.map_cons,Q6,ih];simp[Rf.pD,IV,Kh,QH,h4,hf',k1,k2,Ln]
def aiE{M:Mo}{L:Lay}{c:aF}(a:At M L c)(few:c.bs.length<=1000):wj M [ob L.h]=.ok (tallyD (c.bs.filter λb=>b.sd.al)):=by
 have h1:=xR a #[];have hin:∀x∈(bG L c).filter λx=>x.2.2.sd.al,∃n,M[x.2.1]?=some (iB n x.2.2):=λx hx=>a.hb' (av3.mp hx).1;have hfew:((bG L c).filter λx=>x.2.2.sd.al).length<=1000:=by have:=avT (λx=>x.2.2.sd.al) (bG L c);rw[a.len']at this;omega
 have hbs:((bG L c).filter λx=>x.2.2.sd.al).map (λx=>x.2.2)=c.bs.filter λb=>b.sd.al:=by
  have e:(bG L c).map (λx=>x.2.2)=c.bs:=by
   apply List.ext_getElem
   .simp[bG,a.len]
   .intro i h1 h2;simp[bG]
  rw[<-e,List.filter_map];rfl
 let⟨y2,y3,y4,y5,y6,h2⟩:=aaT (M:=M) #[ob L.h] ((bG L c).filter λx=>x.2.2.sd.al) [] none none none none none hin (by simp;omega)
 rw[hbs]at h2;have h3:prs ((rK (jE (c.bs.filter λb=>b.sd.al))).map (·.1))=some ((jE (c.bs.filter λb=>b.sd.al)).map (·.1)):=by
  have:(rK (jE (c.bs.filter λb=>b.sd.al))).map (·.1)=((jE (c.bs.filter λb=>b.sd.al)).map (·.1)).map Rf.pD:=by simp[rK]
  rw[this,acX]
 have h5:=adq (M:=M) (Z:=bQ [#[ob L.h],none,y2,y3,y4,y5,y6] [4]) (jE (c.bs.filter λb=>b.sd.al)) (by simp) (jJ ((jE (c.bs.filter λb=>b.sd.al)).map (·.1))) λk hk=>by
  unfold jJ at hk;exact List.mem_mergeSort.mp hk
 have hlen:∀(xs:List bZ) (l:v9),(xs.foldl rM l).length<=l.length+xs.length:=by
  intro xs
  induction xs with
  |nil=>intro l;exact avW _
  |cons b xs ih=>
   intro l;have h1:=ih (rM l b);have h2:(rM l b).length<=l.length+1:=SJ _ _ _;rw[awc,avO];omega
 have hl:=hlen (c.bs.filter λb=>b.sd.al) [];have hl2:=avT (λb:bZ=>b.sd.al) c.bs;have hit:bV (aJ bO (0) dI) M [#[ob L.h],none,none,none,none,none,none]=.ok (((bG L c).filter λx=>x.2.2.sd.al).map nb):=by
  let⟨n,hh⟩:=a.hh
  simp[bO,h1,hh,cO]
 have hfor:Uh (bV (aJ bO (0) dI)) (aV [2,3]) Ua [] M [#[ob L.h],none,none,none,none,none,none]=some (rK (jE (c.bs.filter λb=>b.sd.al)),[#[ob L.h],none,y2,y3,y4,y5,y6]):=by unfold Uh;rw[hit];exact h2
 have hret:O7 Gm (ao 4) [4] (IV (Kh (4:)) (QH (Kh (4:)))) (rK (jE (c.bs.filter λb=>b.sd.al))) M [#[ob L.h],none,y2,y3,y4,y5,y6]=some (tallyD (c.bs.filter λb=>b.sd.al)):=by
  unfold O7 Gm;rw[h3]
  show(if _ then _ else _)=_
  rw[awS (by rw[avN];unfold jJ;rw[List.length_mergeSort,avN];show(List.foldl rM [] _).length<=_;simp at hl;omega),h5];rfl
 have hb:Gi=Mx 1 (Uh (bV (aJ bO (0) dI)) (aV [2,3]) Ua) (O7 Gm (ao 4) [4] (IV (Kh (4:)) (QH (Kh (4:))))):=rfl;simp![wj,hb,apH]
 show(match Mx 1 _ _ M [#[ob L.h],none,none,none,none,none,none] with
  |.ret d _=>Out.ok d
  |.next _ _=>.ok .none
  |.exc x _ _=>.exc x
  |_=>.bad)=_
 unfold Mx;have hset:([#[ob L.h],none,none,none,none,none,none]:Rf.Env).set 1 none=[#[ob L.h],none,none,none,none,none,none]:=rfl;rw[hset,hfor]
 show(match (match decide (1<7) with|true=>(match O7 _ _ _ _ _ M _ with|some d=>vK.ret d M|none=>.bad)|false=>.bad) with
  |.ret d _=>Out.ok d
  |.next _ _=>.ok .none
  |.exc x _ _=>.exc x
  |_=>.bad)=_
 rw[hret];rfl
section
variable{M:Mo}{L:Lay}{c:aF}(a:At M L c){n s:Nat}(I:Inv n s c)(hs:s<=76)(hn:n<=199)
include a I hs hn
theorem ah3(d:aX)(hd:BL d):Sp M L (iJ M [ob L.c,d.dat]) (cW c d):=by
 have hc:=a.hc;cases d with
 |owner=>
  refine cQ (adZ a I hn) ?_;simp![aX.dat];simp[iJ,jw,hc,aC,dw];cases gQ M _<;>rfl
 |ground x=>
  refine cQ (acn a I hn x) ?_;simp![aX.dat];simp[iJ,jw,hc,aC,gY];cases fZ M _<;>rfl
 |enrol o g m=>
  refine cQ (aeg a I hs o g m hd) ?_;simp![aX.dat];simp[iJ,jw,hc,aC,lB];cases dJ M _<;>rfl
 |leave o g=>
  refine cQ (aem a I hs o g) ?_;simp![aX.dat];simp[iJ,jw,hc,aC,lF];cases fM M _<;>rfl
 |bring o g m=>
  refine cQ (aee a I hs o g m hd) ?_;simp![aX.dat];simp[iJ,jw,hc,aC,lH];cases fO M _<;>rfl
 |bear k=>
  refine cQ (af9 a I hs k) ?_;simp![aX.dat];simp[iJ,jw,hc,aC,mH];cases iH M _<;>rfl
 |cut k=>
  refine cQ (ajy a I hs #[] k) ?_;simp![aX.dat];simp[iJ,jw,hc,aC,oN];cases jk M _<;>rfl
 |tear k p=>
  refine cQ (afI a I hs k p #[]) ?_;simp![aX.dat];simp[iJ,jw,hc,aC,mJ];cases fJ M _<;>rfl
 |sell k o=>
  refine cQ (ahg a I hs #[] k o) ?_;simp![aX.dat];simp[iJ,jw,hc,aC,mO];cases dH M _<;>rfl
 |move k g=>
  refine cQ (afy a I hs #[] k g) ?_;simp![aX.dat];simp[iJ,jw,hc,aC,mj];cases dG M _<;>rfl
 |die k=>
  refine cQ (ajA a I hs k #[]) ?_;simp![aX.dat];simp[iJ,jw,hc,aC,oG];cases j8 M _<;>rfl
 |zG x y=>
  refine cQ (adk a I hs #[] x y) ?_;simp![aX.dat];simp[iJ,jw,hc,aC,oY];cases eV M _<;>rfl
 |part x=>
  refine cQ (agl a I hs #[] x) ?_;simp![aX.dat];simp[iJ,jw,hc,aC,pG];cases iI M _<;>rfl
 |pass e h=>
  refine cQ (ag6 a I hs #[] e h) ?_;simp![aX.dat];simp[iJ,jw,hc,aC,jA];cases fD M _<;>rfl
 |heir e g x=>
  refine cQ (agi a I hs #[] e g x) ?_;simp![aX.dat];simp[iJ,jw,hc,aC,iZ];cases cI M _<;>rfl
end
def ail{M:Mo}{L:Lay}{c:aF}(a:At M L c)(d:aX)(hd:BL d)(hf:lG d=false):nH M [ob L.c,d.dat,bT c]=.ok (bT c) M:=by
 have hc:=a.hc;have h0:=aep M d hd;rw[hf]at h0;have h1:cC M [ob L.c,d.dat]=.exc ⟨"BadDeed",[]⟩ M:=by simp[cC,cM,h0]
 simp[nH,Ks,hc,aC,pU,h1,iy,oF]
def VG{M:Mo}{L:Lay}{n s:Nat}{c:aF}(a:At M L c)(I:Inv n s c)(hs:s<=76)(hn:n<=199)(d:aX)(hd:BL d)(w:Int):∃M' bs c',pY M [ob L.c,d.dat,bT c,.int w]=.ok (bT c') M'/\At M' { L with bs:=bs } c'/\Inv (n+1) (s+cost d) c':=by
 by_cases hw:w%2=0
 .cases hf:lG d with
  |true=>
   let⟨M',bs,h1,h2⟩:=adV a I hs hn d hd hf
   exact⟨M',bs,tL c d,by simp[pY,vN,hw,h1],h2,Tp I d hn⟩
  |false=>
   have h1:=ail a d hd hf;exact⟨M,L.bs,c,by simp[pY,vN,hw,h1],a,I.mono #[] #[]⟩
 .have h0:=ah3 a I hs hn d hd;have i2:=Tp I d hn;unfold tL at i2;have e0:bT c=.tuple [.int c.count,.int c.al.length,.int c.bs.length]:=rfl;cases e:cW c d with
  |no x=>
   rw[e]at h0 i2;have h0:_=_:=h0;have h1:=ab9 e;refine⟨M,L.bs,c,?_,a,i2⟩;simp[pY,vN,hw,h0,h1,iy]
  |ok r c'=>
   rw[e]at h0 i2;let⟨M',bs,h0,h2⟩:=h0
   let⟨q1,q2,q3,q4⟩:=R3 e
   refine⟨M',bs,c',?_,h2,i2⟩;have e1:(c'.al.length:Int)=c.al.length+(dGr d:Int):=#[];have e2:(c'.bs.length:Int)=c.bs.length+(dBs d:Int):=#[];cases hr:iy .none r with
   |true=>
    let⟨z1,z2,z3⟩:=q4 hr
    simp[z1,z2,z3]at q1 e1 e2;simp[pY,vN,hw,h0,hr,bT,q1,e1,e2]
   |false=>
    clear q4 q2 q3 e i2 hd;cases d<;>simp[aaB,dGr,dBs]at q1 e1 e2<;>simp[aX.dat]at h0<;>simp[pY,vN,hw,h0,hr,bT,q1,e1,e2,aX.dat]
def aoj(M:Mo)(x:Int):∃y,QV M [.int x]=.ok (.int y):=by
 have hp:decide (CPow 10 30)=true:=decide_eq_true ⟨#[()],#[()],#[()]⟩;by_cases h:x<0
 .exact⟨_,by simp[QV,aaq,hp,h];rfl⟩
 .exact⟨_,by simp[QV,aaq,hp,h];rfl⟩
def am3(M:Mo)(v x t:Int):∃y,Rk M [.int v,.int x,.int t]=.ok (.int y):=by
 let⟨y,h⟩:=aoj M (x/13)
 have hd:∀z,decide (CDiv z 13)=true:=λz=>decide_eq_true ⟨#[()],#[()]⟩;by_cases e:x%13=t
 .exact⟨y,by simp[Rk,aao,e,hd,h]⟩
 .exact⟨v,by simp[Rk,aao,e]⟩
@[simp]theorem aua (c:aF):yM (fB c) (.int 0)=.ok (lI c.own):=rfl
@[simp]theorem atr (c:aF):yM (fB c) (.int 1)=.ok (.list ((List.range c.al.length).map (Zh c))):=rfl
@[simp]theorem auU (c:aF):yM (fB c) (.int 2)=.ok (.list (c.held.map iz)):=rfl
@[simp]theorem anp (c:aF):yM (fB c) (.int 3)=.ok (.list (c.bs.map bU)):=rfl
def eq_nil(xs:List Dat)(h:iV 11 xs=true):DY (.list xs) (.list [])=.ok (.bool xs.isEmpty)/\uH (.list xs) (.list [])=.ok (.bool (!xs.isEmpty)):=by
 have e:eqB (.list xs) (.list [])=.ok xs.isEmpty:=by
  show Out.when (okd 12 (.list xs)&&okd 12 (.list [])) (.ok (PyData.eqv (.list xs) (.list [])))=_;rw[okd,okd,h,aoA];cases xs with
  |nil=>rfl
  |cons a r=>rw[alV];rfl
 exact⟨by unfold DY;rw[e];rfl,by unfold uH;rw[e];rfl⟩
def mX(M:Mo)(w:Str)(x head n0 n1 n2:Int){d:Dat}(h:dd M w ((rowOf x 14 10).getD 2 0*10+(rowOf x 14 10).getD 3 0) ((rowOf x 14 10).getD 4 0*10+(rowOf x 14 10).getD 5 0) (rowOf x 14 10) (Mp (head/512)) n0 n1 n2=.ok d):iQ M [.str w,.int x,.tuple [.int n0,.int n1,.int n2],.int head]=.ok d:=by
 have h1:ug M [.int x,.int 14,.int 10]=.ok (lI (rowOf x 14 10)):=Wc M x 14 10 #[()] #[()] #[()];have h2:=ahD M (head/512);let⟨r2,_⟩:=jP x 2 #[()]
 let⟨r3,_⟩:=jP x 3 #[()]
 let⟨r4,_⟩:=jP x 4 #[()]
 let⟨r5,_⟩:=jP x 5 #[()]
 generalize rowOf x 14 10=p at *;generalize p.getD 2 0=d2 at *;generalize p.getD 3 0=d3 at *;generalize p.getD 4 0=d4 at *;generalize p.getD 5 0=d5 at *;have hm:∀z,decide (CMul z 10)=true:=λz=>mul_r #[()];have hd:∀z,decide (CDiv z 512)=true:=λz=>decide_eq_true ⟨#[()],#[()]⟩;simp![show((2:Nat):Int)=2 from rfl,show((3:Nat):Int)=3 from rfl,show((4:Nat):Int)=4 from rfl,show((5:Nat):Int)=5 from rfl]at r2 r3 r4 r5;unfold dd at h;simp[iQ,Xj,h1,h2,r2,r3,r4,r5,hm,hd,h]
def agn(M:Mo)(c:aF)(hc:0<=c.count)(x head:Int):(∃a b,iQ M [.str "leave",.int x,bT c,.int head]=.ok (.tuple [.str "leave",.int a,.int b]))/\(∃a b e,cX e=true/\iQ M [.str "enrol",.int x,bT c,.int head]=.ok (.tuple [.str "enrol",.int a,.int b,aG e]))/\
  (∃a,iQ M [.str "bear",.int x,bT c,.int head]=.ok (.tuple [.str "bear",.int a]))/\(∃a,iQ M [.str "cut",.int x,bT c,.int head]=.ok (.tuple [.str "cut",.int a]))/\(∃a,iQ M [.str "die",.int x,bT c,.int head]=.ok (.tuple [.str "die",.int a]))/\(∃a,iQ M [.str "part",.int x,bT c,.int head]=.ok (.tuple [.str "part",.int a]))/\
  (∃a b,iQ M [.str "tear",.int x,bT c,.int head]=.ok (.tuple [.str "tear",.int a,.int b]))/\(∃a b,iQ M [.str "sell",.int x,bT c,.int head]=.ok (.tuple [.str "sell",.int a,.int b]))/\(∃a b,iQ M [.str "move",.int x,bT c,.int head]=.ok (.tuple [.str "move",.int a,.int b]))/\(∃a b,iQ M [.str "unite",.int x,bT c,.int head]=.ok (.tuple [.str "unite",.int a,.int b]))/\(∃a b,iQ M [.str "pass",.int x,bT c,.int head]=.ok (.tuple [.str "pass",.int a,.int b])):=by
 have P:=Wx x (QC (head/512));let⟨_,_,d2,_,d4,_,d6,d7,d8,d9,d10,d11,d12,d13,d14⟩:=abm M P ((rowOf x 14 10).getD 2 0*10+(rowOf x 14 10).getD 3 0) ((rowOf x 14 10).getD 4 0*10+(rowOf x 14 10).getD 5 0) c.count c.al.length c.bs.length hc #[] #[]
 exact⟨⟨_,_,mX M _ x head _ _ _ d4⟩,⟨_,_,_,P.mark,mX M _ x head _ _ _ d2⟩,⟨_,mX M _ x head _ _ _ d12⟩,⟨_,mX M _ x head _ _ _ d13⟩,⟨_,mX M _ x head _ _ _ d14⟩,⟨_,mX M _ x head _ _ _ d8⟩,⟨_,_,mX M _ x head _ _ _ d9⟩,⟨_,_,mX M _ x head _ _ _ d10⟩,⟨_,_,mX M _ x head _ _ _ d11⟩,⟨_,_,mX M _ x head _ _ _ d7⟩,⟨_,_,mX M _ x head _ _ _ d6⟩⟩
def Y4(M:Mo)(c:aF)(hc:0<=c.count){w:Str}(hw:w∈words)(x head:Int):∃d:aX,iQ M [.str w,.int x,bT c,.int head]=.ok d.dat/\lG d=true/\BL d:=by
 have P:=Wx x (QC (head/512));let⟨_,q2,q2'⟩:=jP x 2 #[()]
 let⟨_,q3,q3'⟩:=jP x 3 #[()]
 let⟨_,q4,q4'⟩:=jP x 4 #[()]
 let⟨_,q5,q5'⟩:=jP x 5 #[()]
 let⟨d,h1,h2,h3⟩:=Uj M P ((rowOf x 14 10).getD 2 0*10+(rowOf x 14 10).getD 3 0) ((rowOf x 14 10).getD 4 0*10+(rowOf x 14 10).getD 5 0) c.count c.al.length c.bs.length hc #[] #[] hw #[] #[]
 exact⟨d,mX M w x head _ _ _ h1,h2,h3⟩
def alO(z:Int):∃w∈words,atI [PyData.str "part",.str "unite",.str "leave",.str "pass",.str "heir"] (z%5)=some (.str w):=by
 have h:z%5=0\/z%5=1\/z%5=2\/z%5=3\/z%5=4:=#[];rcases h with h|h|h|h|h<;>rw[h]
 .exact⟨"part",by simp,rfl⟩
 .exact⟨"unite",by simp,rfl⟩
 .exact⟨"leave",by simp,rfl⟩
 .exact⟨"pass",by simp,rfl⟩
 .exact⟨"heir",by simp,rfl⟩
section
variable{c0:aF}{head:Int}(R:∀{M:Mo} {L:Lay} {n s:Nat} {c:aF},L.c=0->At M L c->Inv n s c->s<=76->n<=199->∀x:Int,Ao M [ob 0,.int x,bT c0,.int head]=.ok (.bool true))
include R
theorem Ss{M:Mo}{L:Lay}{n s:Nat}{c:aF}(hL:L.c=0)(a:At M L c)(I:Inv n s c)(hs:s<=76)(hn:n<=199)(x:Int):Fb M [ob 0,.int x,bT c0,.int head]=.ok (.bool true):=by
 have hd7:∀z,decide (CDiv z 7)=true:=λz=>decide_eq_true ⟨#[()],#[()]⟩;have one:∀y:Int,QD M [#[ob 0],#[.int x],#[bT c0],#[.int head],#[.int y]]=.next [#[ob 0],#[.int x],#[bT c0],#[.int head],#[.int y]] M:=λy=>by
  have h1:=R hL a I hs hn y;generalize bT c0=k at *;simp[QD,h1]
 generalize bT c0=k at *;simp[Fb,Xu,hd7,one,dY]
theorem Ve{ns0:Option Cell}(x:Int)(x9:Option Cell):∀(xs:ListInt) {M:Mo} {L:Lay} {n s:Nat} {c:aF} (_:L.c=0) (_:At M L c) (_:Inv n s c) (_:s+xs.length<=76) (_:n+xs.length<=199) (x6 x7 x8:Option Cell),∃Z M',dY (ao 6) KJ (xs.map PyData.int) M [ns0,#[ob 0],#[.int head],#[.int x],#[bT c0],#[bT c],x6,x7,x8]=.next Z M'
 |[],M,L,n,s,c,hL,a,I,hs,hn,x6,x7,x8=>⟨_,_,rfl⟩
 |y::xs,M,L,n,s,c,hL,a,I,hs,hn,x6,x7,x8=>by
  rw[avO]at hs hn;have h1:ug M [.int y,.int 14,.int 10]=.ok (lI (rowOf y 14 10)):=Wc M y 14 10 #[()] #[()] #[()];let⟨r0,q0⟩:=jP y 0 #[()]
  let⟨r1,q1⟩:=jP y 1 #[()]
  let⟨r11,q11⟩:=jP y 11 #[()]
  let⟨r12,q12⟩:=jP y 12 #[()]
  let⟨r13,q13⟩:=jP y 13 #[()]
  have hm:∀z,decide (CMul z 10)=true:=λz=>mul_r #[()];let⟨w1,hw1,h2⟩:=ada M ((rowOf y 14 10).getD 0 0*10+(rowOf y 14 10).getD 1 0)
  let⟨w2,hw2,h3⟩:=alO ((rowOf y 14 10).getD 11 0)
  generalize rowOf y 14 10=p at *;generalize p.getD 0 0=d0 at *;generalize p.getD 1 0=d1 at *;generalize p.getD 11 0=d11 at *;generalize p.getD 12 0=d12 at *;generalize p.getD 13 0=d13 at *;simp![Int.natCast_zero,Int.natCast_one,show((11:Nat):Int)=11 from rfl,show((12:Nat):Int)=12 from rfl,show((13:Nat):Int)=13 from rfl]at r0 r1 r11 r12 r13;have step:∃M1 bs c1 ρ8,KJ M [ns0,#[ob 0],#[.int head],#[.int x],#[bT c0],#[bT c],#[.int y],x7,x8]=.next [ns0,#[ob 0],#[.int head],#[.int x],#[bT c0],#[bT c1],#[.int y],#[lI p],ρ8] M1/\At M1 { L with bs:=bs } c1/\Inv (n+1) (s+1) c1:=by
   by_cases hq:d12%3=1
   .let⟨d,h4,h5,h6⟩:=Y4 M c I.cnt.1 hw2 y head
    let⟨M1,bs,c1,h7,a1,I1⟩:=VG a I #[] #[] d h6 d13
    have h8:=Ss R (L:={ L with bs:=bs }) hL a1 (I1.mono (avW _) (by have:=Kl d;omega):Inv (n+1) (s+1) c1) #[] #[] x;rw[hL]at h7;refine⟨M1,bs,c1,#[.str w2],?_,a1,I1.mono (avW _) (by have:=Kl d;omega)⟩;generalize bT c0=k0 at *;generalize bT c1=k1 at *;generalize bT c=k at *;simp[KJ,h1,r0,r1,hm,h2,r12,hq,r11,h3,h4,r13,h7,h8]
   .let⟨d,h4,h5,h6⟩:=Y4 M c I.cnt.1 hw1 y head
    let⟨M1,bs,c1,h7,a1,I1⟩:=VG a I #[] #[] d h6 d13
    have h8:=Ss R (L:={ L with bs:=bs }) hL a1 (I1.mono (avW _) (by have:=Kl d;omega):Inv (n+1) (s+1) c1) #[] #[] x;rw[hL]at h7;refine⟨M1,bs,c1,#[.str w1],?_,a1,I1.mono (avW _) (by have:=Kl d;omega)⟩;generalize bT c0=k0 at *;generalize bT c1=k1 at *;generalize bT c=k at *;simp[KJ,h1,r0,r1,hm,h2,r12,hq,h4,r13,h7,h8]
  let⟨M1,bs,c1,y8,e1,a1,I1⟩:=step
  let⟨Z,M',e2⟩:=Ve x x9 xs (L:={ L with bs:=bs }) hL a1 I1 #[] #[] #[.int y] #[lI p] y8
  exact⟨Z,M',by rw[List.map_cons,eE (Z1:=[ns0,#[ob 0],#[.int head],#[.int x],#[bT c0],#[bT c],#[.int y],x7,x8]) (by simp) e1];exact e2⟩
end
def ahO(R:∀{c0:aF} {head:Int},0<=c0.count->∀{M:Mo} {L:Lay} {n s:Nat} {c:aF},L.c=0->At M L c->Inv n s c->s<=76->n<=199->∀x:Int,Ao M [ob 0,.int x,bT c0,.int head]=.ok (.bool true))(ns:ListInt)(h:ns.length<=63):∃M,U5 [] [.list (ns.map PyData.int)]=.ok (.bool true) M:=by
 let⟨M0,L,hL,h0,a0⟩:=aq7
 have cell0:Cr M0 [lI ns,.int 0]=_:=adT M0 ns 0;have cell1:Cr M0 [lI ns,.int 1]=_:=adT M0 ns 1;have hl:=adn ns 6 44 #[()];generalize hcl:Rf.cutD ns (some ((6:Nat):Int)) (some ((44:Nat):Int))=cells at hl;have hcl2:Rf.cutD (ns.map PyData.int) (some 6) (some 44)=cells.map PyData.int:=by rw[ac5];exact congrArg _ hcl
 have hl4:=adn ns 2 6 #[()];generalize hml:Rf.cutD ns (some ((2:Nat):Int)) (some ((6:Nat):Int))=more at hl4;have hml2:Rf.cutD (ns.map PyData.int) (some 2) (some 6)=more.map PyData.int:=by rw[ac5];exact congrArg _ hml
 let⟨c,M1,L1,hL1,h1,N1⟩:=akJ a0 cells #[] (if ns.getD 0 0<0 then -(ns.getD 0 0) else ns.getD 0 0)
 generalize hhd:(if ns.getD 0 0<0 then -(ns.getD 0 0) else ns.getD 0 0)=hd at *;generalize ns.getD 0 0=z0 at *;generalize ns.getD 1 0=z1 at *;have I:=N1.inv;have hL1:=hL1.trans hL;have t1:=Ss (R (head:=hd) I.cnt.1) hL1 N1.at_ I #[()] #[()] z1;let⟨Z,M2,h2⟩:=Ve (R (head:=hd) I.cnt.1) (ns0:=#[lI ns]) z1 none more hL1 N1.at_ I #[] #[] none none none
 rw[hL]at h1;refine⟨M2,?_⟩;generalize bT c=k at *;simp[U5,aeV,h0,cell0,cell1,hcl2,hml2,hhd,h1,t1,h2]
@[simp]theorem asV (b:bZ):yM (bU b) (.int 0)=.ok (.int b.sd.o):=rfl
@[simp]theorem ath (b:bZ):yM (bU b) (.int 1)=.ok (.int b.sd.g):=rfl
@[simp]theorem asY (b:bZ):yM (bU b) (.int 2)=.ok (j9 b.sd.due):=rfl
@[simp]theorem auM (b:bZ):yM (bU b) (.int 3)=.ok (aG b.sd.ear):=rfl
@[simp]theorem asZ (b:bZ):yM (bU b) (.int 4)=.ok (.bool b.sd.al):=rfl
@[simp]theorem ati (b:bZ):yM (bU b) (.int 5)=.ok (.int b.mo):=rfl
@[simp]theorem auj (b:bZ):yM (bU b) (.int 6)=.ok (.tuple (b.fi.dat::b.en.map En.dat)):=rfl
def abz{c:aF}{k:Int}{b:bZ}(h:bk c k=some b):atI (c.bs.map bU) (k-1)=some (bU b):=by
 let⟨h1,h2,h3⟩:=m9 h
 have e:k-1=(((k-1).toNat:Nat):Int):=#[];rw[e];exact atI_nat (by rw[avQ,h1];rfl)
def hbW(c:aF)(k:Int)(cut:Bool):Str:=match bk c k with
 |none=>"NoBeast"
 |some b=>if b.sd.al=true then(if (cut&&b.sd.due.isNone)=true then "Unmarked" else "") else "Dead"
def acH(M:Mo)(c:aF)(k:Int)(cut:Bool):qL M [fB c,.int k,.bool cut]=.ok (.str (hbW c k cut)):=by
 unfold hbW;cases h:bk c k with
 |none=>
  have hn:=ac9 h;by_cases h1:1<=k
  .have h2:¬k<=c.bs.length:=λz=>hn ⟨h1,z⟩;simp[qL,wA,h1,h2]
  .simp[qL,wA,h1]
 |some b=>
  let⟨_,h1,h2⟩:=m9 h
  have h3:=abz h;cases e1:b.sd.al with
  |false=>simp[qL,wA,h1,h2,h3,e1]
  |true=>cases cut<;>cases e2:b.sd.due<;>simp[qL,wA,h1,h2,h3,e1,e2,j9,iy]
def aey{c:aF}{x:Int}(h:Vg c x):atI ((List.range c.al.length).map (Zh c)) (x-1)=some (.tuple [.int (Mu c x),aG (aZ c x)]):=by
 let⟨k,hk,rfl⟩:=CG h
 rw[show(k:Int)+1-1=(k:Int) by omega,aif];simp[hk,Zh]
def anU(neg:Bool)(y:Int)(l:ListInt)(h:l.length<=1000):inD neg (.int y) (aG l)=.ok (.bool (neg ^^ decide (y∈l))):=by
 have:=any_ints y l;have h2:(vP (PyData.int y)&&l.all (vP ∘ PyData.int))=true:=by simp[vP,avY]
 simp[inD,inB,this,h2]
def aeQ(M:Mo)(c:aF)(i:cU c)(x:Int)(h:Vg c x):Cz M [fB c,.int x]=.ok (.int (roomOf c x)):=by
 have h1:=aey h;have hc:=i.at h;have hl:(aZ c x).length<=50000:=by have:=i.clen hc;omega
 have hne:(aZ c x).map (Mu c)≠[]:=λz=>by
  have:=i.self h;rw[List.map_eq_nil_iff.mp z]at this;cases this
 have key:=fj (tg:=ao 2) (te:=(0)[1]![aH kh (2) #[1]]![0]!) (M:=M) (Z:=[#[fB c],#[.int x],none]) PyData.int (λy=>.int (Mu c y)) (aZ c x) λy hy=>⟨[#[fB c],#[.int x],#[.int y]],by simp,by
  have:=aey (i.mem _ _ hc y hy);simp[this]⟩
 have hm:=maxD_ints hne;rw[avZ]at hm;simp[avY]at hm;simp[Cz,Oh,h1,key,hl,hm,roomOf]
theorem up_eq:∀{S T:List Rw},Ear.Ke S->Ear.Ke T->(∀r,r∈S↔r∈T)->S=T
 |[],[],_,_,_=>rfl
 |[],t::T,_,_,m=>by have:=(m t).mpr avI;cases this
 |s::S,[],_,_,m=>by have:=(m s).mp avI;cases this
 |s::S,t::T,hs,ht,m=>by
  have hs':=List.pairwise_cons.mp hs;have ht':=List.pairwise_cons.mp ht;have e:s=t:=by
   rcases avP.mp ((m s).mp avI) with h1|h1
   .exact h1
   rcases avP.mp ((m t).mpr avI) with h2|h2
   .exact h2.symm
   exact absurd (List.lt_trans (ht'.1 s h1) (hs'.1 t h2)) (List.lt_irrefl _)
  subst e;congr 1;refine up_eq hs'.2 ht'.2 λr=>⟨λh=>?_,λh=>?_⟩
  .rcases avP.mp ((m r).mp (avG _ h)) with z|z
   .subst z;exact absurd (hs'.1 _ h) (List.lt_irrefl _)
   .exact z
  .rcases avP.mp ((m r).mpr (avG _ h)) with z|z
   .subst z;exact absurd (ht'.1 _ h) (List.lt_irrefl _)
   .exact z
def amR(r s:Rw):uH (Ear.rD r) (Ear.rD s)=.ok (.bool (!decide (r=s))):=by
 have e:PyData.eqv (Ear.rD r) (Ear.rD s)=decide (r=s):=by rw[awq];simp[Ear.rD,Ear.dT,Prod.ext_iff]
 have:eqB (Ear.rD r) (Ear.rD s)=.ok (decide (r=s)):=by show Out.when (okd 12 (Ear.rD r)&&okd 12 (Ear.rD s)) (.ok (PyData.eqv (Ear.rD r) (Ear.rD s)))=_;rw[Pa 10,Pa 10,e];rfl
 unfold uH;rw[this];rfl
def atI_last{α:Type}(l:List α)(a:α):atI (l++[a]) (-1)=some a:=by unfold atI ixN;have:(-1+((l.length:Int)+1)).toNat=l.length:=#[];have h2:(1:Int)<=l.length+1:=#[];simp[this,h2]
def tM(acc:List Rw)(r:Rw):List Rw:=if acc.getLast?=some r then acc else acc++[r]
def afU(M:Mo)(x0:Option Cell)(acc:List Rw)(r:Rw)(h:acc.length<=5000):oX M [x0,some (.mut (acc.map Ear.rD)),#[Ear.rD r]]=.next [x0,some (.mut ((tM acc r).map Ear.rD)),#[Ear.rD r]] M:=by
 have h1:=(eq_nil (acc.map Ear.rD) (adK 9 acc)).1;have h0:acc.length<100000:=#[];rcases List.eq_nil_or_concat acc with rfl|⟨l,a,rfl⟩
 .simp at h1;simp[oX,h1,tM]
 .have h2:((l++[a]).map Ear.rD).isEmpty=false:=by simp
  rw[List.concat_eq_append]at *;rw[h2]at h1;rw[List.map_append]at h1 |-
  have h3:=amR a r;have h4:=atI_last (l.map Ear.rD) (Ear.rD a);simp at h0;by_cases e:a=r
  .subst e;simp at h1 h4 h3;simp[oX,h1,h4,h3,tM]
  .simp[e]at h1 h4 h3;simp[oX,h1,h4,h3,tM,e,h0]
theorem Y0(M:Mo)(x0:Option Cell):∀(R acc:List Rw) (x2:Option Cell),acc.length+R.length<=5000->∃y2,dY (ao 2) oX (R.map Ear.rD) M [x0,some (.mut (acc.map Ear.rD)),x2]=.next [x0,some (.mut ((R.foldl tM acc).map Ear.rD)),y2] M
 |[],acc,x2,_=>⟨x2,rfl⟩
 |r::R,acc,x2,h=>by
  rw[avO]at h;have hl:(tM acc r).length<=acc.length+1:=by
   unfold tM
   split<;>simp
  let⟨y2,h2⟩:=Y0 M x0 R (tM acc r) #[Ear.rD r] #[]
  exact⟨y2,by rw[List.map_cons,eE (Z1:=[x0,some (.mut (acc.map Ear.rD)),#[Ear.rD r]]) (by simp) (afU M x0 acc r #[])];exact h2⟩
theorem XS:∀(R acc:List Rw),Ear.Ke acc->R.Pairwise (λa b=>Ear.rk a<=Ear.rk b)->(∀a∈acc,∀r∈R,Ear.rk a<=Ear.rk r)->Ear.Ke (R.foldl tM acc)/\∀x,x∈R.foldl tM acc↔x∈acc\/x∈R
 |[],acc,ha,_,_=>⟨ha,by simp⟩
 |r::R,acc,ha,hR,hb=>by
  have hR':=List.pairwise_cons.mp hR;rw[awc];by_cases e:acc.getLast?=some r
  .have e1:tM acc r=acc:=by rw[tM,awS e]
   rw[e1];let⟨k1,k2⟩:=XS R acc ha hR'.2 λa m x hx=>hb a m x (avG _ hx)
   have mr:r∈acc:=List.mem_of_getLast? e;refine⟨k1,λx=>?_⟩;rw[k2,avP];constructor
   .rintro(h|h)
    .exact .inl h
    .exact .inr (.inr h)
   .rintro(h|h|h)
    .exact .inl h
    .subst h;exact .inl mr
    .exact .inr h
  .have e1:tM acc r=acc++[r]:=by rw[tM,awT e]
   rw[e1];have hup:Ear.Ke (acc++[r]):=by
    rcases List.eq_nil_or_concat acc with rfl|⟨l,a,rfl⟩
    .exact List.pairwise_singleton _ _
    .rw[List.concat_eq_append]at *;have ne:a≠r:=λz=>e (by simp[z]);have lt:Ear.rk a<Ear.rk r:=by
      have:=hb a (by simp) r avI;by_cases c:Ear.rk a<Ear.rk r
      .exact c
      .exact absurd (Ear.abJ (List.le_antisymm this (List.not_lt.mp c))) ne
     refine List.pairwise_append.mpr ⟨ha,List.pairwise_singleton _ _,λx hx y hy=>?_⟩;rw[avJ.mp hy];rcases avR.mp hx with hx|hx
     .exact List.lt_trans ((List.pairwise_append.mp ha).2.2 x hx a (by simp)) lt
     .rw[avJ.mp hx];exact lt
   let⟨k1,k2⟩:=XS R (acc++[r]) hup hR'.2 λa m x hx=>by
    rcases avR.mp m with m|m
    .exact hb a m x (avG _ hx)
    .rw[avJ.mp m];exact hR'.1 x hx
   refine⟨k1,λx=>?_⟩;rw[k2,avR,avJ,avP,or_assoc]
def aiR(R:List Rw):(sY R).Pairwise λa b=>Ear.rk a<=Ear.rk b:=by unfold sY;have srt:=awv (le:=λa b:Ear.Rw=>decide (Ear.rk a<=Ear.rk b)) (λa b c k1 k2=>by rw[awO]at *;exact List.le_trans k1 k2) (λa b=>by rw[awF,awO,awO];exact List.le_total _ _) R;exact srt.imp λh=>by simpa using h
def ae4(R:List Rw):vA (.list (R.map Ear.rD))=.ok (.list ((sY R).map Ear.rD)):=by
 cases R with
 |nil=>simp[vA,intsOf,sortI,sY]
 |cons r R=>
  have h1:intsOf ((r::R).map Ear.rD)=none:=by simp[intsOf,Ear.rD]
  simp[vA,h1,Qt,-List.map_cons]
def akW(M:Mo)(R:List Rw)(h:R.length<=5000):yP M [.list (R.map Ear.rD)]=.ok (.list ((bA R).map Ear.rD)):=by
 have hl:(sY R).length=R.length:=by simp[sY]
 let⟨y2,h1⟩:=Y0 M #[.list (R.map Ear.rD)] (sY R) [] none (by simp;omega)
 have h2:=XS (sY R) [] List.Pairwise.nil (aiR R) (by simp);have e:(sY R).foldl tM []=bA R:=up_eq h2.1 (S7 R) λx=>by
  rw[h2.2,lX];simp[sY]
 rw[e]at h1;simp![awr]at h1;simp[yP,Vb,ae4,h1]
def agS(M:Mo)(x0 x2:Option Cell)(x6 x7 x8:Option Cell)(nD:Dat)(near:ListInt)(hn:∀y,inD false (.int y) nD=.ok (.bool (decide (y∈near))))(lo:Int)(acc:List Rw)(i:Int)(b:bZ)(h:acc.length<=5000) :
  oE M [x0,#[nD],#[.int lo],some (.mut (acc.map Ear.rD)),#[.int i],#[bU b],x6,x7,x8]=.next [x0,#[nD],#[.int lo],some (.mut ((acc++if (b.sd.due.isSome&&!((i+1)==lo))&&(decide (b.sd.g∈near)&&b.sd.al) then[(b.sd.o,b.sd.due.getD [])] else[]).map Ear.rD)),#[.int i],#[bU b],x6,x7,x8] M:=by
 have h0:acc.length<100000:=#[];have h1:=hn b.sd.g;cases e1:b.sd.al with
 |false=>simp[oE,e1]
 |true=>
  cases e2:b.sd.due with
  |none=>simp[oE,e1,e2,j9,iy]
  |some e=>
   by_cases e3:b.sd.g∈near
   .by_cases e4:i+1=lo
    .simp[oE,e1,e2,j9,iy,h1,e3,e4]
    .simp[oE,e1,e2,j9,iy,h1,e3,e4,h0,Ear.rD,Ear.dT]
   .simp[oE,e1,e2,j9,iy,h1,e3]
theorem Ys(M:Mo)(x0:Option Cell)(x6 x7 x8:Option Cell)(nD:Dat)(near:ListInt)(hn:∀y,inD false (.int y) nD=.ok (.bool (decide (y∈near))))(lo:Int):∀(xs:List (Nat×bZ)) (acc:List Rw) (x4 x5:Option Cell),acc.length+xs.length<=5000->∃y4 y5,
  dY (aV [4,5]) oE (xs.map λx=>.tuple [.int (x.1:Int),bU x.2]) M [x0,#[nD],#[.int lo],some (.mut (acc.map Ear.rD)),x4,x5,x6,x7,x8]=.next [x0,#[nD],#[.int lo],some (.mut ((acc++((xs.filter λx=>(x.2.sd.due.isSome&&!(((x.1:Int)+1)==lo))&&(decide (x.2.sd.g∈near)&&x.2.sd.al)).map λx=>(x.2.sd.o,x.2.sd.due.getD []))).map Ear.rD)),y4,y5,x6,x7,x8] M
 |[],acc,x4,x5,_=>⟨x4,x5,by simp[dY]⟩
 |x::xs,acc,x4,x5,h=>by
  rw[avO]at h;have hs:=agS M x0 #[.int lo] x6 x7 x8 nD near hn lo acc (x.1:Int) x.2 #[];generalize hz:(if (x.2.sd.due.isSome&&!(((x.1:Int)+1)==lo))&&(decide (x.2.sd.g∈near)&&x.2.sd.al) then[(x.2.sd.o,x.2.sd.due.getD [])] else[])=z at hs;have hl:z.length<=1:=by rw[<-hz];split<;>simp
  let⟨y4,y5,h2⟩:=Ys M x0 x6 x7 x8 nD near hn lo xs (acc++z) #[.int x.1] #[bU x.2] (by rw[awa];omega)
  refine⟨y4,y5,?_⟩;rw[List.map_cons,eE (Z1:=[x0,#[nD],#[.int lo],some (.mut (acc.map Ear.rD)),#[.int x.1],#[bU x.2],x6,x7,x8]) (by simp) hs,h2,<-hz];congr 6;rw[av9]
  split<;>simp
def ZQ(c:aF):qR 0 (c.bs.map bU)=(c.bs.mapIdx λi b=>(i,b)).map λx=>.tuple [.int (x.1:Int),bU x.2]:=by unfold qR;apply av6;intro j;simp![avQ,awp];cases c.bs[j]?<;>simp
def aft(M:Mo)(c:aF)(hh:c.held.length<=2000)(hb:c.bs.length<=2000)(nD:Dat)(near:ListInt)(hn:∀y,inD false (.int y) nD=.ok (.bool (decide (y∈near))))(lo:Int):Ck M [fB c,nD,.int lo]=.ok (.list ((bA (inR c near++Jm c lo near)).map Ear.rD)):=by
 have k1:=fu (tg:=aV [6,7,8]) (tt:=cV (aH (inD false) (7) (1))) (te:=aW #[(6:),(8:)]) (M:=M) (Z:=[#[fB c],#[nD],#[.int lo],none,none,none,none,none,none]) iz (λr=>decide (r.2.1∈near)) (λr=>Ear.rD (r.1,r.2.2)) c.held λr _=>⟨[#[fB c],#[nD],#[.int lo],none,none,none,#[.int r.1],#[.int r.2.1],#[aG r.2.2]],by simp[iz],by simp[hn],λ_=>by simp[Ear.rD,Ear.dT]⟩;have e1:((c.held.filter λr=>decide (r.2.1∈near)).map λr=>Ear.rD (r.1,r.2.2))=(inR c near).map Ear.rD:=by simp[inR,avY]
 rw[e1]at k1;have l1:(inR c near).length<=2000:=by unfold inR;rw[avN];exact av2 (avT _ _) hh
 let⟨y4,y5,k2⟩:=Ys M #[fB c] none none none nD near hn lo (c.bs.mapIdx λi b=>(i,b)) (inR c near) none none (by simp;omega)
 rw[<-ZQ]at k2;have e2:((c.bs.mapIdx λi b=>(i,b)).filter λx=>(x.2.sd.due.isSome&&!(((x.1:Int)+1)==lo))&&(decide (x.2.sd.g∈near)&&x.2.sd.al)).map (λx=>(x.2.sd.o,x.2.sd.due.getD []))=Jm c lo near:=rfl;rw[e2]at k2;have l2:(Jm c lo near).length<=2000:=by unfold Jm;rw[avN];exact av2 (avT _ _) (by simp;omega)
 have k3:=akW M (inR c near++Jm c lo near) (by simp;omega);have h5:c.held.length<=50000:=#[];simp[-List.map_append,Ck,Qg,k1,h5,k2,k3]
theorem YC:∀(l:List (Int×Int)),(l.map λp=>if p.2-p.1>0 then p.2-p.1 else 0).sum=((l.filter λp=>decide (p.1<p.2)).map λp=>p.2-p.1).sum
 |[]=>rfl
 |p::l=>by
  rw[List.map_cons,List.sum_cons,YC l,av9];by_cases h:p.1<p.2
  .rw[awS #[],awS (by simpa using h),List.map_cons,List.sum_cons]
  .rw[awT #[],awT (by simpa using h)];omega
def Tj(M:Mo)(x y:ListInt)(h:x.length<=1000):yN M [aG x,aG y]=.ok (.int (dD x y)):=by have key:=fj (tg:=aV [2,3]) (te:=aH qU #[0] (aH kh (3) (2))) (M:=M) (Z:=[#[aG x],#[aG y],none,none]) pD (λp=>.int (if p.2-p.1>0 then p.2-p.1 else 0)) (x.zip y) λp _=>⟨[#[aG x],#[aG y],#[.int p.1],#[.int p.2]],by simp[pD],by simp⟩;have hs:=ZL ((x.zip y).map λp=>if p.2-p.1>0 then p.2-p.1 else 0);rw[YC,avZ]at hs;have hz2:min x.length y.length<=50000:=#[];simp[yN,W0,Ay,key,hz2];simp[avY]at hs;simp[hs,dD]
def amH(M:Mo)(x y:ListInt)(h:x.length<=1000):VR M [aG x,aG y]=.ok (aG (dN x y)):=by have key:=fj (tg:=aV [2,3]) (te:=aH qU (2) (3)) (M:=M) (Z:=[#[aG x],#[aG y],none,none]) pD (λp=>.int (if p.2>p.1 then p.2 else p.1)) (x.zip y) λp _=>⟨[#[aG x],#[aG y],#[.int p.1],#[.int p.2]],by simp[pD],by simp⟩;have hz2:min x.length y.length<=50000:=#[];simp[VR,afm,Ay,key,hz2,dN]
abbrev Wy:=Ear.Wy
abbrev wD(w:Wy):Dat:=Ear.wD w
def qH(o:Int)(e:ListInt)(R:List Rw)(room:Int):List Wy:=(R.filter λr=>!(r.1==o)&&decide (dD r.2 e<=room)).map λr=>(dD e r.2,r.1,dN e r.2)
def Xn:Wy->List Wy->Wy
 |w,[]=>w
 |w,v::vs=>Xn (if Ear.wk v<Ear.wk w then v else w) vs
def uM:List Wy->Option Wy
 |[]=>none
 |w::ws=>some (Xn w ws)
def uh:Option Wy->Dat
 |none=>.none
 |some w=>wD w
theorem Pn:∀(ws:List Wy) (w:Wy),PySem.W.minD (wD w) (ws.map wD)=wD (Xn w ws)
 |[],w=>rfl
 |v::vs,w=>by
  have e:PySem.W.minD (wD w) ((v::vs).map wD)=PySem.W.minD (if PySem.W.dataLt (wD v) (wD w) then wD v else wD w) (vs.map wD):=rfl;rw[e,Ear.agL,Xn];by_cases q:Ear.wk v<Ear.wk w
  .rw[awS (decide_eq_true q),awS q];exact Pn vs v
  .rw[decide_eq_false q,awT #[()],awT q];exact Pn vs w
def Xk(n:Nat)(w:Wy):okd (n+2) (wD w)=true:=by have h:=Uy n w.2.2;show okd (n+2) (.tuple [.int w.1,.int w.2.1,.tuple (w.2.2.map PyData.int)])=true;simp[okd,iV,h]
def aiv(ws:List Wy):Wr (.list (ws.map wD)) .none=.ok (uh (uM ws)):=by
 cases ws with
 |nil=>rfl
 |cons w ws=>
  have h1:iV 12 ((w::ws).map wD)=true:=Bl.mpr λd hd=>by
   let⟨v,_,rfl⟩:=avM.mp hd
   exact Xk 10 v
  have h2:Ym ((w::ws).map wD)=true:=by
   unfold Ym;rw[av1];intro x hx;let⟨a,_,rfl⟩:=avM.mp hx
   rw[avD];refine⟨rfl,?_⟩;rw[av1];intro y hy;let⟨b,_,rfl⟩:=avM.mp hy
   exact Ear.ZJ a b
  show Out.when (iV 12 ((w::ws).map wD)&&Ym ((w::ws).map wD)) (.ok (PySem.W.minD (wD w) (ws.map wD)))=_;rw[h1,h2,Pn];rfl
def aex(M:Mo)(o:Int)(e:ListInt)(R:List Rw)(room:Int)(he:e.length<=1000)(hR:qY R)(hl:R.length<=1000):CJ M [.int o,aG e,.list (R.map Ear.rD),.int room]=.ok (uh (uM (qH o e R room))):=by
 have key:=fu (tg:=aV [5,6]) (tt:=gA (cV (aH uH (5) (0))) (cV (aH uN (aO jX #[(6:),(1:)]) (3)))) (te:=aW #[aO jX #[(1:),(6:)],(5:),aO mU #[(1:),(6:)]]) (M:=M) (Z:=[#[.int o],#[aG e],#[.list (R.map Ear.rD)],#[.int room],none,none,none]) Ear.rD (λr=>!(r.1==o)&&decide (dD r.2 e<=room)) (λr=>wD (dD e r.2,r.1,dN e r.2)) R λr hr=>by
  have h1:=Bw M r.2 e (by rw[hR r hr];decide);have h2:=Bw M e r.2 he;have h3:=FP M e r.2 he;refine⟨[#[.int o],#[aG e],#[.list (R.map Ear.rD)],#[.int room],none,#[.int r.1],#[aG r.2]],rfl,?_,λ_=>?_⟩
  .by_cases hz:r.1=o<;>simp[h1,hz]
  .simp[h2,h3,wD,Ear.wD,Ear.dT]
 have hk:((R.filter λr=>!(r.1==o)&&decide (dD r.2 e<=room)).map λr=>wD (dD e r.2,r.1,dN e r.2))=(qH o e R room).map wD:=by unfold qH;rw[avZ];rfl
 rw[hk]at key;have hm:=aiv (qH o e R room);have hl2:R.length<=50000:=#[];generalize (qH o e R room).map wD=T at *;simp[CJ,Pk,key,hl2,hm]
def ah6{M:Mo}{L:Lay}{n s:Nat}{c:aF}(a:At M L c)(I:Inv n s c)(hs:s<=76){k:Int}{b:bZ}(hb:bk c k=some b)(h1:b.sd.al=true){d:ListInt}(h2:b.sd.due=some d):fQ M [ob L.c,.int k]=.ok (uh (uM (qH b.sd.o b.sd.ear (bA (cJ c 0 b.sd.g)) (roomOf c b.sd.g)))):=by
 have f0:=I.hL;have hc:=a.hc;let⟨nh,hh⟩:=a.hh
 let⟨hb1,hb2,hb3⟩:=m9 hb
 have v:Vg c b.sd.g:=(I.alive (avK hb1) h1).2.1;have g1:=yG a #[] k;rw[hb]at g1;simp![h1,h2]at g1;let⟨_,_,_,_,nb',hM⟩:=oH a hb
 have h3:=xO a I.gr #[] #[] b.sd.g (by rw[jm a];exact av2 (I.few λr hr=>nZ hr) hs);rw[awS v,jm a]at h3;have h4:=yK a I.gr b.sd.g;rw[awS v]at h4;have hel:=fK (I.ear _ (avK hb1));have hlT:(bA (cJ c 0 b.sd.g)).length<=1000:=by rw[sJ];exact av2 (I.few λr hr=>nZ hr) #[]
 have h5:=aex M b.sd.o b.sd.ear (bA (cJ c 0 b.sd.g)) (roomOf c b.sd.g) #[] (wg I.Lh) hlT;generalize uh (uM (qH b.sd.o b.sd.ear (bA (cJ c 0 b.sd.g)) (roomOf c b.sd.g)))=W at *;simp[fQ,lZ,hc,aC,hh,cO,aN,g1,hM,bK,h3,bL,h4,h5]
def acS{M:Mo}{L:Lay}{n s:Nat}{c:aF}(hL:L.c=0)(a:At M L c)(I:Inv n s c)(hs:s<=76)(hn:n<=400){k:Int}{b:bZ}(hk:bk c k=some b):jZ M [ob 0,.int k]=.ok (.list (b.fi.dat::b.en.map En.dat)):=by
 have f0:=I.hL;have hc:=a.hc;let⟨nh,hh⟩:=a.hh
 have h1:=Et a #[] hk;let⟨hb1,hb2,hb3⟩:=m9 hk
 let⟨_,_,_,_,nb',hM⟩:=oH a hk
 have he:=I.en _ (avK hb1);have hl:b.en.length<=99998:=#[];rw[hL]at hc;simp[jZ,qT,hc,aC,hh,cO,cY,h1,hM,iB,hl]
def akb{M:Mo}{L:Lay}{n s:Nat}{c:aF}(a:At M L c)(I:Inv n s c)(hs:s<=76)(k:Int)(b:bZ)(hk:bk c k=some b)(hal:b.sd.al=true)(d:ListInt)(hd:b.sd.due=some d):gK M [ob L.c,.int k]=.ok (.int (dD d b.sd.ear)):=by
 have hc:=a.hc;let⟨nh,hh⟩:=a.hh
 have f0:=I.hL;have h1:=yG a #[] k;rw[hk]at h1;simp[hal,hd]at h1;let⟨_,_,_,q4,nb,hb⟩:=oH a hk
 have h2:=Bw M d b.sd.ear (by rw[fK (I.due b (avK q4) d hd)];decide);simp[gK,oM,hc,aC,hh,cO,aN,h1,hb,hd,j9,h2]
def rP(c:aF)(k:Int):ListInt:=((c.bs.mapIdx λi b=>(i,b)).filter λx=>mW k x.2&&x.2.sd.al).map λx=>(x.1:Int)+1
def acE{M:Mo}{L:Lay}{n s:Nat}{c:aF}(hL:L.c=0)(a:At M L c)(I:Inv n s c)(hs:s<=76){k:Int}{b:bZ}(hk:bk c k=some b):lA M [ob 0,.int k]=.ok (lI (rP c k)):=by
 have f0:=I.hL;have hc:=a.hc;let⟨nh,hh⟩:=a.hh
 rw[hL]at hc;have h3:=Ql a #[] k;rw[hk]at h3;have hl2:((bG L c).filter λx=>mW k x.2.2&&x.2.2.sd.al).length<=50000:=av2 (avT _ _) (by rw[a.len'];omega);have e:rP c k=((bG L c).filter λx=>mW k x.2.2&&x.2.2.sd.al).map λx=>(x.1:Int)+1:=by unfold rP;rw[<-Hg a,List.filter_map,avZ];rfl
 rw[e];generalize ((bG L c).filter λx=>mW k x.2.2&&x.2.2.sd.al)=T at h3 hl2;have key2:=fj (tg:=aV [2,3]) (te:=DG 2) (M:=M) (Z:=[#[ob 0],#[.int k],none,none]) nb (λx=>.int ((x.1:Int)+1)) T λx hx=>⟨[#[ob 0],#[.int k],#[.int ((x.1:Int)+1)],#[ob x.2.1]],by simp[nb],by simp⟩;have e:T.map (λx=>PyData.int ((x.1:Int)+1))=(T.map λx=>(x.1:Int)+1).map PyData.int:=by simp
 show _=Out.ok (PyData.list _);rw[<-e];simp[lA,sW,hc,aC,hh,cO,kZ,h3,key2,hl2]
theorem RQ(M:Mo)(k:Int)(x0 x2 x3 x4:Option Cell):∀(xs:List (Nat×bZ)) (acc:ListInt) (x6 x7:Option Cell),acc.length+xs.length<=5000->∃y6 y7,
  dY (aV [6,7]) JD (xs.map λx=>.tuple [.int (x.1:Int),bU x.2]) M [x0,#[.int k],x2,x3,x4,some (.mut (acc.map PyData.int)),x6,x7]=.next [x0,#[.int k],x2,x3,x4,some (.mut ((acc++((xs.filter λx=>mW k x.2&&x.2.sd.al).map λx=>(x.1:Int)+1)).map PyData.int)),y6,y7] M
 |[],acc,x6,x7,_=>⟨x6,x7,by simp[dY]⟩
 |x::xs,acc,x6,x7,h=>by
  rw[avO]at h;have h0:acc.length<100000:=#[];let⟨y6,y7,ih⟩:=RQ M k x0 x2 x3 x4 xs (acc++if (mW k x.2&&x.2.sd.al)=true then[(x.1:Int)+1] else[]) #[.int (x.1:Int)] #[bU x.2] (by rw[awa];split<;>simp<;>omega)
  have step:JD M [x0,#[.int k],x2,x3,x4,some (.mut (acc.map PyData.int)),#[.int (x.1:Int)],#[bU x.2]]=.next [x0,#[.int k],x2,x3,x4,some (.mut ((acc++if (mW k x.2&&x.2.sd.al)=true then[(x.1:Int)+1] else[]).map PyData.int)),#[.int (x.1:Int)],#[bU x.2]] M:=by cases q1:x.2.sd.al<;>cases q2:x.2.sd.due<;>by_cases q3:x.2.mo=k<;>simp[JD,mW,q1,q2,q3,j9,iy,h0]
  refine⟨y6,y7,?_⟩;rw[List.map_cons,eE (Z1:=[x0,#[.int k],x2,x3,x4,some (.mut (acc.map PyData.int)),#[.int (x.1:Int)],#[bU x.2]]) (by simp) step,ih];congr 9;rw[av9]
  split<;>simp
def alx(v w:Wy):Np (wD v) (wD w)=.ok (.bool (decide (Ear.wk v<Ear.wk w))):=by show Out.when (okd 12 (wD v)&&okd 12 (wD w)&&PySem.W.alike (wD v) (wD w)) (.ok (PyData.bool (PySem.W.dataLt (wD v) (wD w))))=_;rw[Xk 10,Xk 10,Ear.ZJ,Ear.agL];rfl
def vm(o:Int)(e:ListInt)(room:Int)(acc:Option Wy)(r:Rw):Option Wy:=if (!(r.1==o)&&decide (dD r.2 e<=room))=true then(match acc with
  |none=>some (dD e r.2,r.1,dN e r.2)
  |some w=>some (if Ear.wk (dD e r.2,r.1,dN e r.2)<Ear.wk w then(dD e r.2,r.1,dN e r.2) else w)) else acc
theorem MF(o:Int)(e:ListInt)(room:Int):∀(R:List Rw) (w:Wy),R.foldl (vm o e room) (some w)=some (Xn w (qH o e R room))
 |[],w=>rfl
 |r::R,w=>by
  rw[awc];unfold qH;rw[av9];by_cases q:(!(r.1==o)&&decide (dD r.2 e<=room))=true
  .rw[awS q,List.map_cons,Xn,show vm o e room (some w) r=some (if Ear.wk (dD e r.2,r.1,dN e r.2)<Ear.wk w then(dD e r.2,r.1,dN e r.2) else w) by rw[vm,awS q]];exact MF o e room R _
  .rw[awT q,show vm o e room (some w) r=some w by rw[vm,awT q]];exact MF o e room R w
theorem Wf(o:Int)(e:ListInt)(room:Int):∀R:List Rw,R.foldl (vm o e room) none=uM (qH o e R room)
 |[]=>rfl
 |r::R=>by
  rw[awc];unfold qH;rw[av9];by_cases q:(!(r.1==o)&&decide (dD r.2 e<=room))=true
  .rw[awS q,List.map_cons,uM,show vm o e room none r=some (dD e r.2,r.1,dN e r.2) by rw[vm,awS q]];exact MF o e room R _
  .rw[awT q,show vm o e room none r=none by rw[vm,awT q]];exact Wf o e room R
def aeI(M:Mo)(c:aF)(i:cU c)(b:bZ)(v:Vg c b.sd.g)(he:b.sd.ear.length=6)(acc:Option Wy)(r:Rw)(hr:r.2.length=6)(x5:Option Cell):∃y5,vH M [#[fB c],#[bU b],#[uh acc],#[.int r.1],#[aG r.2],x5]=.next [#[fB c],#[bU b],#[uh (vm b.sd.o b.sd.ear (roomOf c b.sd.g) acc r)],#[.int r.1],#[aG r.2],y5] M:=by
 have h1:=Tj M r.2 b.sd.ear #[];have h2:=Tj M b.sd.ear r.2 #[];have h3:=amH M b.sd.ear r.2 #[];have h4:=aeQ M c i b.sd.g v;unfold vm;by_cases q1:r.1=b.sd.o
 .exact⟨x5,by simp[vH,q1]⟩
 by_cases q2:dD r.2 b.sd.ear<=roomOf c b.sd.g
 .generalize hW:((dD b.sd.ear r.2,r.1,dN b.sd.ear r.2):Wy)=W;have eW:PyData.tuple [.int (dD b.sd.ear r.2),.int r.1,aG (dN b.sd.ear r.2)]=wD W:=by rw[<-hW];rfl
  have e0:iy .none (wD W)=false:=rfl;refine⟨#[wD W],?_⟩;cases acc with
  |none=>simp[vH,q1,q2,h1,h2,h3,h4,eW,uh,iy]
  |some w=>
   have h5:=alx W w;have e1:iy .none (wD w)=false:=rfl;by_cases q3:Ear.wk W<Ear.wk w<;>simp[vH,q1,q2,h1,h2,h3,h4,eW,uh,e1,h5,q3]
 .exact⟨x5,by simp[vH,q1,q2,h1,h4]⟩
theorem U4(M:Mo)(c:aF)(i:cU c)(b:bZ)(v:Vg c b.sd.g)(he:b.sd.ear.length=6):∀(R:List Rw) (acc:Option Wy) (x3 x4 x5:Option Cell),qY R->∃y3 y4 y5,dY (aV [3,4]) vH (R.map Ear.rD) M [#[fB c],#[bU b],#[uh acc],x3,x4,x5]=.next [#[fB c],#[bU b],#[uh (R.foldl (vm b.sd.o b.sd.ear (roomOf c b.sd.g)) acc)],y3,y4,y5] M
 |[],acc,x3,x4,x5,_=>⟨x3,x4,x5,rfl⟩
 |r::R,acc,x3,x4,x5,h=>by
  let⟨y5,h1⟩:=aeI M c i b v he acc r (h r avI) x5
  let⟨z3,z4,z5,ih⟩:=U4 M c i b v he R (vm b.sd.o b.sd.ear (roomOf c b.sd.g) acc r) #[.int r.1] #[aG r.2] y5 λx hx=>h x (avG _ hx)
  exact⟨z3,z4,z5,by rw[List.map_cons,eE (Z1:=[#[fB c],#[bU b],#[uh acc],#[.int r.1],#[aG r.2],x5]) (by simp[Ear.rD,Ear.dT]) h1];exact ih⟩
def ahi{n s:Nat}(M:Mo){c:aF}(I:Inv n s c)(hs:s<=76){b:bZ}(hb:b∈c.bs)(h1:b.sd.al=true):JH M [fB c,bU b]=.ok (uh (uM (qH b.sd.o b.sd.ear (bA (cJ c 0 b.sd.g)) (roomOf c b.sd.g)))):=by
 have v:Vg c b.sd.g:=(I.alive hb h1).2.1;have hR:qY (bA (cJ c 0 b.sd.g)):=wg I.Lh;have hl:(aZ c b.sd.g).length<=1000:=by have:=I.gr.clen (I.gr.at v);omega
 have f1:=I.hL;have r1:=aft M c #[] #[] (aG (aZ c b.sd.g)) (aZ c b.sd.g) (λy=>by rw[anU false y _ hl,Bool.false_xor]) 0;have e:bA (inR c (aZ c b.sd.g)++Jm c 0 (aZ c b.sd.g))=bA (cJ c 0 b.sd.g):=rfl;rw[e]at r1;let⟨y3,y4,y5,h2⟩:=U4 M c I.gr b v (fK (I.ear b hb)) (bA (cJ c 0 b.sd.g)) none none none none hR
 rw[Wf]at h2;have h3:=aey v;have e0:uh none=.none:=rfl;rw[e0]at h2;generalize (bA (cJ c 0 b.sd.g)).map Ear.rD=T at *;generalize uh (uM (qH b.sd.o b.sd.ear (bA (cJ c 0 b.sd.g)) (roomOf c b.sd.g)))=W at *;simp[JH,W4,h3,r1,h2]
def ag8(l:List (Int×Int)):vA (.list (l.map Rf.pD))=.ok (.list ((jJ l).map Rf.pD)):=by
 cases l with
 |nil=>simp[vA,intsOf,sortI,jJ]
 |cons p l=>
  have h1:intsOf ((p::l).map Rf.pD)=none:=by simp[intsOf,Rf.pD]
  have h2:BZ ((p::l).map Rf.pD)=none:=by simp[BZ,abQ,Rf.pD]
  simp[vA,h1,h2,acX,-List.map_cons]
def ltP(p q:Int×Int):Prop:=p.1<q.1\/(p.1=q.1/\p.2<q.2)
def X5(p:Int×Int):¬ltP p p:=by unfold ltP;omega
def agV{p q r:Int×Int}(h:ltP p q)(h2:ltP q r):ltP p r:=by unfold ltP at *;omega
def afR{p q:Int×Int}(h:OJ p q=true)(n:p≠q):ltP p q:=by
 let⟨p1,p2⟩:=p
 let⟨q1,q2⟩:=q
 simp[OJ]at h;simp![ne_eq,Prod.mk.injEq]at n;unfold ltP;simp only;omega
theorem afJ:∀{S T:List (Int×Int)},S.Pairwise ltP->T.Pairwise ltP->(∀r,r∈S↔r∈T)->S=T
 |[],[],_,_,_=>rfl
 |[],t::T,_,_,m=>by have:=(m t).mpr avI;cases this
 |s::S,[],_,_,m=>by have:=(m s).mp avI;cases this
 |s::S,t::T,hs,ht,m=>by
  have hs':=List.pairwise_cons.mp hs;have ht':=List.pairwise_cons.mp ht;have e:s=t:=by
   rcases avP.mp ((m s).mp avI) with h1|h1
   .exact h1
   rcases avP.mp ((m t).mpr avI) with h2|h2
   .exact h2.symm
   exact absurd (agV (ht'.1 s h1) (hs'.1 t h2)) (X5 _)
  subst e;congr 1;refine afJ hs'.2 ht'.2 λr=>⟨λh=>?_,λh=>?_⟩
  .rcases avP.mp ((m r).mp (avG _ h)) with z|z
   .subst z;exact absurd (hs'.1 _ h) (X5 _)
   .exact z
  .rcases avP.mp ((m r).mpr (avG _ h)) with z|z
   .subst z;exact absurd (ht'.1 _ h) (X5 _)
   .exact z
def apv(p q:Int×Int):uH (Rf.pD p) (Rf.pD q)=.ok (.bool (!decide (p=q))):=by
 have:eqB (Rf.pD p) (Rf.pD q)=.ok (decide (p=q)):=by show Out.when (okd 12 (Rf.pD p)&&okd 12 (Rf.pD q)) (.ok (PyData.eqv (Rf.pD p) (Rf.pD q)))=_;rw[Oq];by_cases h:p=q<;>simp[h,okd,iV,Rf.pD]
 unfold uH;rw[this];rfl
def tH(acc:List (Int×Int))(r:Int×Int):List (Int×Int):=if acc.getLast?=some r then acc else acc++[r]
def afx(M:Mo)(x0:Option Cell)(acc:List (Int×Int))(r:Int×Int)(h:acc.length<=5000):oX M [x0,some (.mut (acc.map Rf.pD)),#[Rf.pD r]]=.next [x0,some (.mut ((tH acc r).map Rf.pD)),#[Rf.pD r]] M:=by
 have h1:=(eq_nil (acc.map Rf.pD) (Tz 10 acc)).1;have h0:acc.length<100000:=#[];rcases List.eq_nil_or_concat acc with rfl|⟨l,a,rfl⟩
 .simp at h1;simp[oX,h1,tH]
 .have h2:((l++[a]).map Rf.pD).isEmpty=false:=by simp
  rw[List.concat_eq_append]at *;rw[h2]at h1;rw[List.map_append]at h1 |-
  have h3:=apv a r;have h4:=atI_last (l.map Rf.pD) (Rf.pD a);simp at h0;by_cases e:a=r
  .subst e;simp at h1 h4 h3;simp[oX,h1,h4,h3,tH]
  .simp[e]at h1 h4 h3;simp[oX,h1,h4,h3,tH,e,h0]
theorem Wk(M:Mo)(x0:Option Cell):∀(R acc:List (Int×Int)) (x2:Option Cell),acc.length+R.length<=5000->∃y2,dY (ao 2) oX (R.map Rf.pD) M [x0,some (.mut (acc.map Rf.pD)),x2]=.next [x0,some (.mut ((R.foldl tH acc).map Rf.pD)),y2] M
 |[],acc,x2,_=>⟨x2,rfl⟩
 |r::R,acc,x2,h=>by
  rw[avO]at h;have hl:(tH acc r).length<=acc.length+1:=by
   unfold tH
   split<;>simp
  let⟨y2,h2⟩:=Wk M x0 R (tH acc r) #[Rf.pD r] #[]
  exact⟨y2,by rw[List.map_cons,eE (Z1:=[x0,some (.mut (acc.map Rf.pD)),#[Rf.pD r]]) (by simp) (afx M x0 acc r #[])];exact h2⟩
theorem Tq:∀(R acc:List (Int×Int)),acc.Pairwise ltP->R.Pairwise (λa b=>OJ a b=true)->(∀a∈acc,∀r∈R,OJ a r=true)->(R.foldl tH acc).Pairwise ltP/\∀x,x∈R.foldl tH acc↔x∈acc\/x∈R
 |[],acc,ha,_,_=>⟨ha,by simp⟩
 |r::R,acc,ha,hR,hb=>by
  have hR':=List.pairwise_cons.mp hR;rw[awc];by_cases e:acc.getLast?=some r
  .have e1:tH acc r=acc:=by rw[tH,awS e]
   rw[e1];let⟨k1,k2⟩:=Tq R acc ha hR'.2 λa m x hx=>hb a m x (avG _ hx)
   have mr:r∈acc:=List.mem_of_getLast? e;refine⟨k1,λx=>?_⟩;rw[k2,avP];constructor
   .rintro(h|h)
    .exact .inl h
    .exact .inr (.inr h)
   .rintro(h|h|h)
    .exact .inl h
    .subst h;exact .inl mr
    .exact .inr h
  .have e1:tH acc r=acc++[r]:=by rw[tH,awT e]
   rw[e1];have hup:(acc++[r]).Pairwise ltP:=by
    rcases List.eq_nil_or_concat acc with rfl|⟨l,a,rfl⟩
    .exact List.pairwise_singleton _ _
    .rw[List.concat_eq_append]at *;have lt:ltP a r:=afR (hb a (by simp) r avI) λz=>e (by simp[z]);refine List.pairwise_append.mpr ⟨ha,List.pairwise_singleton _ _,λx hx y hy=>?_⟩;rw[avJ.mp hy];rcases avR.mp hx with hx|hx
     .exact agV ((List.pairwise_append.mp ha).2.2 x hx a (by simp)) lt
     .rw[avJ.mp hx];exact lt
   let⟨k1,k2⟩:=Tq R (acc++[r]) hup hR'.2 λa m x hx=>by
    rcases avR.mp m with m|m
    .exact hb a m x (avG _ hx)
    .rw[avJ.mp m];exact hR'.1 x hx
   refine⟨k1,λx=>?_⟩;rw[k2,avR,avJ,avP,or_assoc]
def abS(R:List (Int×Int)):(jJ R).Pairwise λa b=>OJ a b=true:=by unfold jJ;exact awv (le:=OJ) (λa b c k1 k2=>by simp![OJ,awO]at *;omega) (λa b=>by simp![OJ,awF,awO];omega) R
def ah8{R:List (Int×Int)}(nd:R.Nodup):(jJ R).Pairwise ltP:=by have nd2:(jJ R).Nodup:=(awJ _ _).nodup_iff.mpr nd;exact List.Pairwise.imp₂ (λa b h1 h2=>afR h1 h2) (abS R) nd2
def aio(M:Mo)(R S:List (Int×Int))(h:R.length<=5000)(nd:S.Nodup)(hm:∀x,x∈S↔x∈R):yP M [.list (R.map Rf.pD)]=.ok (.list ((jJ S).map Rf.pD)):=by
 have hl:(jJ R).length=R.length:=by simp[jJ]
 let⟨y2,h1⟩:=Wk M #[.list (R.map Rf.pD)] (jJ R) [] none (by simp;omega)
 have h2:=Tq (jJ R) [] List.Pairwise.nil (abS R) (by simp);have e:(jJ R).foldl tH []=jJ S:=afJ h2.1 (ah8 nd) λx=>by
  rw[h2.2];simp[jJ,hm]
 rw[e]at h1;simp![awr]at h1;simp[yP,Vb,ag8,h1]
def aiI(l:v9)(k v k2:Int×Int):jg (Ju l k v) k2=if k=k2 then v else jg l k2:=by
 unfold Ju;cases ha:l.any λp=>p.1==k with
 |true=>
  have e:∀l:v9,(l.map λp=>if p.1==k then(p.1,v) else p).find? (λp=>p.1==k2)=(l.find? λp=>p.1==k2).map λp=>if p.1==k then(p.1,v) else p:=by
   intro l;rw[List.find?_map];congr 1;congr 1;funext p
   show((if (p.1==k)=true then(p.1,v) else p).1==k2)=(p.1==k2)
   split<;>rfl
  show jg (l.map λp=>if p.1==k then(p.1,v) else p) k2=_;unfold jg;rw[e];cases hf:l.find? λp=>p.1==k2 with
  |none=>
   have hn:k≠k2:=by
    intro z;subst z;let⟨p,hp,hk⟩:=List.any_eq_true.mp ha
    exact List.find?_eq_none.mp hf p hp hk
   rw[awT hn];rfl
  |some p=>
   have hp:p.1=k2:=by simpa using List.find?_some hf
   by_cases h:k=k2
   .rw[awS h]
    show(if (p.1==k)=true then(p.1,v) else p).2=v
    rw[awS (by rw[hp,h];exact beq_self_eq_true _)]
   .rw[awT h]
    show(if (p.1==k)=true then(p.1,v) else p).2=p.2
    rw[awT (by rw[hp];intro z;exact h (awV z).symm)]
 |false=>
  have hn:(l.find? λp=>p.1==k)=none:=List.find?_eq_none.mpr λp hp=>by
   have:=List.any_eq_false.mp ha p hp;simpa using this
  show jg (l++[(k,v)]) k2=_;unfold jg;rw[List.find?_append];by_cases h:k=k2
  .subst h;rw[hn,awS rfl];simp
  .rw[awT h];have:([(k,v)]:v9).find? (λp=>p.1==k2)=none:=by simp[h]
   rw[this,Option.or_none]
def aib(l:v9)(k v:Int×Int):(Ju l k v).map (·.1)=if k∈l.map (·.1) then l.map (·.1) else l.map (·.1)++[k]:=by
 unfold Ju;have ha:(l.any λp=>p.1==k)=decide (k∈l.map (·.1)):=by rw[awq];simp
 rw[ha];by_cases h:k∈l.map (·.1)
 .rw[decide_eq_true h,awS h]
  show(l.map λp=>if p.1==k then(p.1,v) else p).map (·.1)=_
  rw[avZ];refine List.map_congr_left λp _=>?_
  show(if (p.1==k)=true then(p.1,v) else p).1=p.1
  split<;>rfl
 .rw[decide_eq_false h,awT h]
  show(l++[(k,v)]).map (·.1)=_
  rw[List.map_append];rfl
abbrev kB(b:bZ):Int×Int:=(b.sd.o,b.sd.g)
theorem Zg:∀(bs:List bZ) (l:v9),(l.map (·.1)).Nodup->((bs.foldl rM l).map (·.1)).Nodup/\∀x,x∈(bs.foldl rM l).map (·.1)↔x∈l.map (·.1)\/x∈bs.map kB
 |[],l,h=>⟨h,by simp⟩
 |b::bs,l,h=>by
  have e:(rM l b).map (·.1)=if kB b∈l.map (·.1) then l.map (·.1) else l.map (·.1)++[kB b]:=aib _ _ _
  have hn:((rM l b).map (·.1)).Nodup:=by
   rw[e];split
   .exact h
   .next q=>
    rw[awl];refine⟨h,by simp,λx hx y hy z=>?_⟩;rw[avJ.mp hy]at z;exact q (z ▸ hx)
  let⟨k1,k2⟩:=Zg bs (rM l b) hn
  refine⟨k1,λx=>?_⟩;rw[awc,k2,e,List.map_cons,avP];split
  .next q=>
   constructor
   .rintro(h|h)
    .exact .inl h
    .exact .inr (.inr h)
   .rintro(h|h|h)
    .exact .inl h
    .exact .inl (h ▸ q)
    .exact .inr h
  .rw[avR,avJ,or_assoc]
def atB(k:Int×Int)(b:bZ):Bool:=decide (b.sd.o=k.1)&&decide (b.sd.g=k.2)
def akk{k:Int×Int}{b:bZ}:atB k b=decide (kB b=k):=by unfold atB;rw[awq];simp[Prod.ext_iff]
theorem Zf(k:Int×Int):∀(bs:List bZ) (l:v9),jg (bs.foldl rM l) k=((jg l k).1+(((bs.filter (atB k)).countP λb=>b.sd.due.isSome:Nat):Int),(jg l k).2+(((bs.filter (atB k)).countP λb=>b.sd.due.isNone:Nat):Int))
 |[],l=>by simp
 |b::bs,l=>by
  rw[awc,Zf k bs,av9,akk];have e:jg (rM l b) k=if kB b=k then(if b.sd.due=none then((jg l (kB b)).1,(jg l (kB b)).2+1) else((jg l (kB b)).1+1,(jg l (kB b)).2)) else jg l k:=aiI _ _ _ _
  rw[e];by_cases h:kB b=k
  .subst h;cases hd:b.sd.due<;>simp[hd]<;>omega
  .simp[h]
def aeT(M:Mo)(x0 x4 x5:Option Cell)(bs:List bZ)(h0:x0=#[.list (bs.map bU)])(hl:bs.length<=1000)(acc:List Dat)(ha:acc.length<100000)(k:Int×Int):∃y4 y5,Ht M [x0,some (.mut acc),#[.int k.1],#[.int k.2],x4,x5]=.next [x0,some (.mut (acc++[Ln (jE (bs.filter λb=>b.sd.al)) k])),#[.int k.1],#[.int k.2],y4,y5] M:=by
 subst h0
 let p:bZ->Bool:=λb=>b.sd.al&&atB k b
 have key:=fu (tg:=ao 5) (tt:=(gA (fV (5)[4]!) (gA #[(5)[0]! = (2)] #[(5)[1]! = (3)]))) (te:=(sO false .none (5)[2]!)) (M:=M) (Z:=[#[.list (bs.map bU)],some (.mut acc),#[.int k.1],#[.int k.2],x4,none]) bU p (λb=>.bool b.sd.due.isNone) bs λb _=>by
  refine⟨[#[.list (bs.map bU)],some (.mut acc),#[.int k.1],#[.int k.2],x4,#[bU b]],by simp,?_,λ_=>by cases hd:b.sd.due<;>simp[hd,j9,iy]⟩;cases q:b.sd.al<;>by_cases q1:b.sd.o=k.1<;>by_cases q2:b.sd.g=k.2<;>simp[q,q1,q2,p,atB]
 have hl2:bs.length<=50000:=#[];have hT:bs.filter p=(bs.filter λb=>b.sd.al).filter (atB k):=by rw[awx];congr 1;funext b;exact Bool.and_comm _ _
 have hg:=Zf k (bs.filter λb=>b.sd.al) [];have hg0:jg [] k=(0,0):=rfl;rw[hg0,<-hT]at hg;generalize bs.filter p=T at *;have hc:∀v:Bool,Fx (T.map λb=>.bool b.sd.due.isNone) (.bool v)=.ok (.int ((T.countP λb=>b.sd.due.isNone==v:Nat):Int)):=by
  intro v;unfold Fx;have h1:(T.map λb=>PyData.bool b.sd.due.isNone).all vP=true:=by simp[vP]
  have h2:iV 12 (T.map λb=>PyData.bool b.sd.due.isNone)=true:=Bl.mpr λd hd=>by
   let⟨b,_,rfl⟩:=avM.mp hd
   rfl
  rw[h1,h2,List.countP_map];have e:((λy=>PyData.eqv y (.bool v)) ∘ λb:bZ=>PyData.bool b.sd.due.isNone)=λb=>b.sd.due.isNone==v:=by funext b;show PyData.eqv (.bool b.sd.due.isNone) (.bool v)=_;cases v<;>cases b.sd.due<;>rfl
  rw[e];rfl
 have c0:=hc false;have c1:=hc true;have e0:(T.countP λb=>b.sd.due.isNone==false)=T.countP λb=>b.sd.due.isSome:=by congr 1;funext b;cases b.sd.due<;>rfl
 have e1:(T.countP λb=>b.sd.due.isNone==true)=T.countP λb=>b.sd.due.isNone:=by congr 1;funext b;cases b.sd.due<;>rfl
 rw[e0]at c0;rw[e1]at c1;refine⟨#[.list (T.map λb=>.bool b.sd.due.isNone)],x5,?_⟩;unfold Ln jE;rw[hg];generalize T.map (λb=>PyData.bool b.sd.due.isNone)=D at *;simp[Ht,key,hl2,c0,c1,ha]
theorem ab3(M:Mo)(x0:Option Cell)(bs:List bZ)(h0:x0=#[.list (bs.map bU)])(hl:bs.length<=1000):∀(ks:List (Int×Int)) (acc:List Dat) (x2 x3 x4 x5:Option Cell),acc.length+ks.length<100000->∃y2 y3 y4 y5,dY (aV [2,3]) Ht (ks.map Rf.pD) M [x0,some (.mut acc),x2,x3,x4,x5]=.next [x0,some (.mut (acc++ks.map (Ln (jE (bs.filter λb=>b.sd.al))))),y2,y3,y4,y5] M
 |[],acc,x2,x3,x4,x5,_=>⟨x2,x3,x4,x5,by simp[dY]⟩
 |k::ks,acc,x2,x3,x4,x5,h=>by
  rw[avO]at h;let⟨y4,y5,h1⟩:=aeT M x0 x4 x5 bs h0 hl acc #[] k
  let⟨z2,z3,z4,z5,ih⟩:=ab3 M x0 bs h0 hl ks (acc++[Ln (jE (bs.filter λb=>b.sd.al)) k]) #[.int k.1] #[.int k.2] y4 y5 (by rw[awa];simp;omega)
  exact⟨z2,z3,z4,z5,by rw[List.map_cons,eE (Z1:=[x0,some (.mut acc),#[.int k.1],#[.int k.2],x4,x5]) (by simp[Rf.pD]) h1,ih,List.append_assoc,List.map_cons,List.singleton_append]⟩
def ahu(M:Mo)(bs:List bZ)(hl:bs.length<=1000):JW M [.list (bs.map bU)]=.ok (tallyD (bs.filter λb=>b.sd.al)):=by
 have key:=fu (tg:=ao 5) (tt:=(fV (5)[4]!)) (te:=(aW #[(5)[0]!,(5)[1]!])) (M:=M) (Z:=[#[.list (bs.map bU)],some (.mut []),none,none,none,none]) bU (λb=>b.sd.al) (λb=>Rf.pD (kB b)) bs λb _=>⟨[#[.list (bs.map bU)],some (.mut []),none,none,none,#[bU b]],by simp,by simp,λ_=>by simp[Rf.pD]⟩;let⟨k1,k2⟩:=Zg (bs.filter λb=>b.sd.al) [] (by simp)
 have hb:(bs.filter λb=>b.sd.al).length<=1000:=av2 (avT _ _) hl;have h2:=aio M ((bs.filter λb=>b.sd.al).map kB) ((jE (bs.filter λb=>b.sd.al)).map (·.1)) (by rw[avN];omega) k1 λx=>by
  have:=k2 x;simp![awr,av8,false_or]at this;exact this
 rw[avZ]at h2;have e:(Rf.pD ∘ kB)=λb=>Rf.pD (kB b):=rfl;rw[e]at h2;have hlen:∀(xs:List bZ) (l:v9),(xs.foldl rM l).length<=l.length+xs.length:=by
  intro xs
  induction xs with
  |nil=>intro l;exact avW _
  |cons b xs ih=>
   intro l;have h1:=ih (rM l b);have h2:(rM l b).length<=l.length+1:=SJ _ _ _;rw[awc,avO];omega
 have h4:=hlen (bs.filter λb=>b.sd.al) [];let⟨y2,y3,y4,y5,h3⟩:=ab3 M #[.list (bs.map bU)] bs rfl hl (jJ ((jE (bs.filter λb=>b.sd.al)).map (·.1))) [] none none none none (by
  unfold jJ jE;rw[List.length_mergeSort,avN];simp![List.length_nil]at h4 |-
  omega)
 unfold tallyD;have hl2:bs.length<=50000:=#[];rw[List.nil_append]at h3;generalize (jJ ((jE (bs.filter λb=>b.sd.al)).map (·.1))).map (Ln (jE (bs.filter λb=>b.sd.al)))=D at *;generalize (jJ ((jE (bs.filter λb=>b.sd.al)).map (·.1))).map Rf.pD=D2 at *;generalize (bs.filter λb=>b.sd.al).map (λb=>Rf.pD (kB b))=D3 at *;simp[JW,Xa,key,hl2,h2,h3]
abbrev yW(w:Str):Dat:=.tuple [.str w,.none]
abbrev yw(d:Dat):Dat:=.tuple [.str "",d]
def Jf(c:aF)(b:bZ):List Dat:=match b.sd.al,b.sd.due with
 |false,_=>[yW "Dead",yW "Dead"]
 |true,none=>[yW "Unmarked",yW "Unmarked"]
 |true,some d=>[yw (.int (dD d b.sd.ear)),yw (uh (uM (qH b.sd.o b.sd.ear (bA (cJ c 0 b.sd.g)) (roomOf c b.sd.g))))]
def qK(c:aF)(k:Int):List Dat:=match bk c k with
 |none=>[yW "NoBeast",yW "NoBeast",yW "NoBeast",yW "NoBeast"]
 |some b=>Jf c b++[yw (lI (rP c k)),yw (.list (b.fi.dat::b.en.map En.dat))]
section
variable{M:Mo}{L:Lay}{n s:Nat}{c:aF}(hL:L.c=0)(a:At M L c)(I:Inv n s c)(hs:s<=76)(hn:n<=199)
include hL a I hs hn
theorem aph(k:Int){w:Nat}(hw:w<4):Cg M [ob 0,.int k,.int (w:Int)]=.ok ((qK c k).getD w .none):=by
 have f0:=I.hL;have hc:=a.hc;let⟨nh,hh⟩:=a.hh
 have g1:=yG a #[] k;have g2:=Ql a #[] k;rw[hL]at hc;unfold qK;cases hk:bk c k with
 |none=>
  have g3:=Mw a #[] hk;rw[hk]at g1 g2;have h1:gK M [ob 0,.int k]=.exc ⟨"NoBeast",[]⟩:=by simp[gK,oM,hc,aC,hh,cO,aN,g1]
  have h2:fQ M [ob 0,.int k]=.exc ⟨"NoBeast",[]⟩:=by simp[fQ,lZ,hc,aC,hh,cO,aN,g1]
  have h3:lA M [ob 0,.int k]=.exc ⟨"NoBeast",[]⟩:=by simp[lA,sW,hc,aC,hh,cO,kZ,g2]
  have h4:jZ M [ob 0,.int k]=.exc ⟨"NoBeast",[]⟩:=by simp[jZ,qT,hc,aC,hh,cO,cY,g3]
  rcases(by omega:w=0\/w=1\/w=2\/w=3) with rfl|rfl|rfl|rfl<;>simp[Cg,KN,hc,aC,mV,lE,gH,jB,h1,h2,h3,h4,zR,Jz,xq]
 |some b=>
  have h3:=acE hL a I hs hk;have h4:=acS hL a I hs #[] hk;rw[hk]at g1;have k2:∀x y:Dat,([x,y]++[yw (lI (rP c k)),yw (.list (b.fi.dat::b.en.map En.dat))]).getD w .none=if w=0 then x else if w=1 then y else if w=2 then yw (lI (rP c k)) else yw (.list (b.fi.dat::b.en.map En.dat)):=λx y=>by
   rcases(by omega:w=0\/w=1\/w=2\/w=3) with rfl|rfl|rfl|rfl<;>rfl
  cases e1:b.sd.al with
  |false=>
   simp[e1]at g1;have h1:gK M [ob 0,.int k]=.exc ⟨"Dead",[]⟩:=by simp[gK,oM,hc,aC,hh,cO,aN,g1]
   have h2:fQ M [ob 0,.int k]=.exc ⟨"Dead",[]⟩:=by simp[fQ,lZ,hc,aC,hh,cO,aN,g1]
   simp![Jf,e1];rw[k2];generalize rP c k=C at *;generalize b.fi.dat::b.en.map En.dat=Y at *;rcases(by omega:w=0\/w=1\/w=2\/w=3) with rfl|rfl|rfl|rfl<;>simp[Cg,KN,hc,aC,mV,lE,gH,jB,h1,h2,h3,h4,zR,Jz,xq]
  |true=>
   cases e2:b.sd.due with
   |none=>
    simp[e1,e2]at g1;have h1:gK M [ob 0,.int k]=.exc ⟨"Unmarked",[]⟩:=by simp[gK,oM,hc,aC,hh,cO,aN,g1]
    have h2:fQ M [ob 0,.int k]=.exc ⟨"Unmarked",[]⟩:=by simp[fQ,lZ,hc,aC,hh,cO,aN,g1]
    simp![Jf,e1,e2];rw[k2];generalize rP c k=C at *;generalize b.fi.dat::b.en.map En.dat=Y at *;rcases(by omega:w=0\/w=1\/w=2\/w=3) with rfl|rfl|rfl|rfl<;>simp[Cg,KN,hc,aC,mV,lE,gH,jB,h1,h2,h3,h4,zR,Jz,xq]
   |some d=>
    have p1:=akb a I hs k b hk e1 d e2;have p2:=ah6 a I hs hk e1 e2;rw[hL]at p1 p2;simp![Jf,e1,e2];rw[k2];generalize rP c k=C at *;generalize b.fi.dat::b.en.map En.dat=Y at *;generalize uh (uM (qH b.sd.o b.sd.ear (bA (cJ c 0 b.sd.g)) (roomOf c b.sd.g)))=P at *;generalize dD d b.sd.ear=W at *;rcases(by omega:w=0\/w=1\/w=2\/w=3) with rfl|rfl|rfl|rfl<;>simp[Cg,KN,hc,aC,mV,lE,gH,jB,p1,p2,h3,h4]
theorem amU(k:Int):Il M [fB c,.int k]=.ok (.list (qK c k)):=by
 have f0:=I.hL;have g1:=acH M c k true;unfold qK;unfold hbW at g1;cases hk:bk c k with
 |none=>
  rw[hk]at g1;simp[Il,Rj,g1]
 |some b=>
  have q1:=abz hk;have i2:ixN 4 2=some 2:=rfl;have i3:ixN 4 3=some 3:=rfl;let⟨hb1,hb2,hb3⟩:=m9 hk
  have he:=I.en _ (avK hb1);have hl:b.en.length<=99998:=#[];have hce:∀l:List (Nat×bZ),l.length<=5000->∀x2 x3 x4,∃y6 y7,dY (aV [6,7]) JD (l.map λx=>.tuple [.int (x.1:Int),bU x.2]) M [#[fB c],#[.int k],x2,x3,x4,some (.mut []),none,none]=.next [#[fB c],#[.int k],x2,x3,x4,some (.mut (((l.filter λx=>mW k x.2&&x.2.sd.al).map λx=>(x.1:Int)+1).map PyData.int)),y6,y7] M:=λl h x2 x3 x4=>by
   have:=RQ M k #[fB c] x2 x3 x4 l [] none none (by simpa using h);simpa using this
  have hlen:(c.bs.mapIdx λi b=>(i,b)).length<=5000:=by rw[List.length_mapIdx];omega
  have lp:=hce _ hlen;rw[<-ZQ]at lp;have eC:((c.bs.mapIdx λi b=>(i,b)).filter λx=>mW k x.2&&x.2.sd.al).map (λx=>(x.1:Int)+1)=rP c k:=rfl;rw[eC]at lp;have ht:yM (bU b) (.int 6)=.ok (.tuple (b.fi.dat::b.en.map En.dat)):=rfl;generalize rP c k=C at *;rw[hk]at g1;cases h1:b.sd.al with
  |false=>
   simp[h1]at g1;let⟨y6,y7,lp⟩:=lp #[.str "Dead"] (some (.mut [yW "Dead",yW "Dead",yW "NoBeast",yW "NoBeast"])) #[bU b]
   dsimp only[yW,yw]at lp |-
   simp[Il,Rj,g1,q1,i2,i3,lp,Jf,h1,hl]
  |true=>
   cases h2:b.sd.due with
   |none=>
    simp[h1,h2]at g1;let⟨y6,y7,lp⟩:=lp #[.str "Unmarked"] (some (.mut [yW "Unmarked",yW "Unmarked",yW "NoBeast",yW "NoBeast"])) #[bU b]
    dsimp only[yW,yw]at lp |-
    simp[Il,Rj,g1,q1,i2,i3,lp,Jf,h1,h2,hl]
   |some d=>
    simp[h1,h2]at g1;have p1:=Tj M d b.sd.ear (by rw[fK (I.due b (avK hb1) d h2)];decide);have p2:=ahi M I hs (avK hb1) h1;simp![Jf,h1,h2];generalize uh (uM (qH b.sd.o b.sd.ear (bA (cJ c 0 b.sd.g)) (roomOf c b.sd.g)))=P at *;generalize dD d b.sd.ear=W at *;let⟨y6,y7,lp⟩:=lp #[.str ""] (some (.mut [yw (.int W),yw P,yw .none,yw .none])) #[bU b]
    dsimp only[yW,yw]at lp |-
    simp[Il,Rj,g1,q1,i2,i3,lp,h2,j9,hl,p1,p2]
end
def aki(x:Option Wy):lk 8 (uh x)=true:=by
 cases x with
 |none=>rfl
 |some w=>simp[uh,wD,Ear.wD,Ear.dT,lk,oW]
def ajk(b:bZ):oW 7 (b.fi.dat::b.en.map En.dat)=true:=by
 rw[uO];intro d hd;rcases avP.mp hd with rfl|hd
 .cases b.fi<;>simp[Fi.dat,lk,oW]
 .let⟨e,_,rfl⟩:=avM.mp hd
  cases e<;>simp[En.dat,lk,oW]
def alD(c:aF)(k:Int){w:Nat}(hw:w<4):∃d,(qK c k)[w]?=some d/\(qK c k).getD w .none=d/\lk 9 d=true:=by
 have h1:(qK c k).length=4:=by
  unfold qK;cases bk c k with
  |none=>rfl
  |some b=>
   show(Jf c b++_).length=4
   rw[awa];unfold Jf
   split<;>rfl
 have h2:∀d∈qK c k,lk 9 d=true:=by
  unfold qK;cases bk c k with
  |none=>simp[lk,oW]
  |some b=>
   have q1:=ajk b;have q2:=aki (uM (qH b.sd.o b.sd.ear (bA (cJ c 0 b.sd.g)) (roomOf c b.sd.g)));intro d hd;rcases avR.mp hd with hd|hd
   .unfold Jf at hd;split at hd<;>simp at hd
    .subst hd;simp[lk,oW]
    .subst hd;simp[lk,oW]
    .rcases hd with rfl|rfl
     .simp[lk,oW]
     .simp![lk,oW,Bool.true_and,Bool.and_true];exact q2
   .simp![avP,av8,or_false]at hd;rcases hd with rfl|rfl
    .simp[lk,oW]
    .simp![lk,oW,Bool.true_and,Bool.and_true];simpa [oW] using q1
 have hl:w<(qK c k).length:=#[];refine⟨(qK c k)[w],avE hl,?_,h2 _ (awh hl)⟩;rw[List.getD_eq_getElem?_getD,avE hl];rfl
def ajc{c0:aF}{head:Int}(h0:0<=c0.count){M:Mo}{L:Lay}{n s:Nat}{c:aF}(hL:L.c=0)(a:At M L c)(I:Inv n s c)(hs:s<=76)(hn:n<=199)(x:Int):Ao M [ob 0,.int x,bT c0,.int head]=.ok (.bool true):=by
 have f0:=I.hL;let⟨_,_,_,⟨a1,q0⟩,_⟩:=agn M c0 h0 x head
 let⟨k,q1⟩:=am3 M a1 x 3
 have l1:=alb a I #[];have hc:=a.hc;let⟨nh,hh⟩:=a.hh
 have t1:=aiE a #[];have t2:=ahu M c.bs #[];rw[hL]at l1 hc;have d1:=amU hL a I hs hn k;have k0:=agu M c;have k1:∀v,lk 9 v=true->nu 10 M [v,v]=.ok (.bool true):=λv hv=>adF M 9 v hv;have k2:=k1 (tallyD (c.bs.filter λb=>b.sd.al)) (by
  unfold tallyD;show oW 8 _=true;rw[uO];intro d hd;let⟨p,_,rfl⟩:=avM.mp hd
  simp[Ln,lk,oW])
 have lp:∀(ws:List Nat),(∀w∈ws,w<4)->∀x7,∃y7,dY (ao 7) O4 (ws.map λ(w:Nat)=>.int (w:Int)) M [#[ob 0],#[.int x],#[bT c0],#[.int head],#[.int k],#[fB c],#[.list (qK c k)],x7]=.next [#[ob 0],#[.int x],#[bT c0],#[.int head],#[.int k],#[fB c],#[.list (qK c k)],y7] M:=by
  intro ws
  induction ws with
  |nil=>exact λ_ x7=>⟨x7,rfl⟩
  |cons w ws ih=>
   intro h x7;have hw:=h w avI;have h1:=aph hL a I hs hn k hw;let⟨d,e1,e2,e3⟩:=alD c k hw
   rw[e2]at h1;have h2:=k1 d e3;have h3:atI (qK c k) (w:Int)=some d:=atI_nat e1;let⟨y7,ih⟩:=ih (λz hz=>h z (avG _ hz)) #[.int (w:Int)]
   refine⟨y7,?_⟩;generalize bT c0=C at *;generalize fB c=K at *;generalize qK c k=F at *;rw[List.map_cons,eE (Z1:=[#[ob 0],#[.int x],#[C],#[.int head],#[.int k],#[K],#[.list F],#[.int (w:Int)]]) (by simp) (Z2:=[#[ob 0],#[.int x],#[C],#[.int head],#[.int k],#[K],#[.list F],#[.int (w:Int)]]) (M2:=M) (by simp[O4,h1,h2,h3])];exact ih
 let⟨y7,lp⟩:=lp [0,1,2,3] (by simp) none
 have e4:([0,1,2,3].map λ(w:Nat)=>PyData.int (w:Int))=jC 0 4:=by rfl
 rw[e4]at lp;have l3:=anp c;generalize bT c0=C at *;generalize qK c k=F at *;generalize tallyD (c.bs.filter λb=>b.sd.al)=T at *;generalize c.bs.map bU=B at *;generalize fB c=K at *;simp[Ao,Yp,q0,q1,hc,aC,hh,cO,vq,l1,d1,lp,rO,zu,Ab,Dg,t1,t2,k2,k0,l3]
def ahQ(ns:ListInt)(h:ns.length<=63):∃M,U5 [] [.list (ns.map PyData.int)]=.ok (.bool true) M:=ahO (λh0 _ _ _ _ _ hL a I hs hn x=>ajc h0 hL a I hs hn x) ns h
end Pr
open PySem PySem.W PySem.Calls PyProof.Rows
set_option maxHeartbeats 0 in
theorem PySem.Challenge.cw_earmarks_k49_beasts_asked_holds : PySem.Challenge.rw_earmarks_k49_beasts_asked.Holds := by
 w_on;o_law
 refine HandSHeadRun.head_any (r:=OpenLaw.row PySem.Challenge.rw_earmarks_k49_beasts_asked) (q:=view (OpenLaw.row PySem.Challenge.rw_earmarks_k49_beasts_asked).prog [100]) (H:=Pr.hkE) (ob:=Pr.obE) (M:=40000) (loose:=Pr.nm) (d:=HandSHeadRun.topDef (OpenLaw.row PySem.Challenge.rw_earmarks_k49_beasts_asked).prog 100) (kwd:=[]) Pr.aoi #[_] (λs=>by kernel_rfl) Pr.run #[_] #[_] #[_] (by rfl) (by first | assumption | decide +kernel) #[[]] ⟨rfl,rfl,rfl,rfl,rfl,#[[]]⟩ ?hw ?hc
 case hw=>w_witness2
 case hc=>
  refine L2.walk_ofE (l:=PySem.Challenge.rw_earmarks_k49_beasts_asked) (n:=63) (k:=15) (x:="_law_script") (CX:=L2.CX0) rfl #[()] #[_] ⟨rfl,#[()],#[()]⟩ ?F (λ_ _ _ _ z=>z)
  intro w mg fa h Y G hmg0;let⟨K,KX,c⟩:=Y
  have hmg:mg ("law" : PySem.Str)=some (.ref fa):=by
   have e:(HandSHeadRun.topDef (OpenLaw.row PySem.Challenge.rw_earmarks_k49_beasts_asked).prog 100).name=("law" : PySem.Str):=#[_]
   rw[<-e];exact hmg0
  have T:Pr.Top w K mg:=⟨⟨h,KX,G⟩,c⟩;have e:=hmg.symm.trans (T.glo 118);cases e;let⟨fd,F⟩:=T.c.YT 118
  have b:=L2.FunD.bindsA (ps:=["_law_script"]) F λ_ _ _ _ _ _ us hl=>match us,hl with|[_],_=>rfl
  exact⟨K,fd,λvs H Q _=>Rf.M9 K (Pr.aj w K) 1 Pr.U5 vs H Q λ_ _ _=>False,KX,λs v=>b s [v] rfl,λH a ns hl _ hS=>(Pr.ahQ ns hl).elim λ_ z=>Rf.apa rfl hS z,λbase _ _=>Rf.aeU (Pr.apz T F)⟩

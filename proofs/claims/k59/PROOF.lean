import PyProof.Rows.All
import HandS.ForMost
import HandS.Evl
import HandS.Walk
import HandS.Zip
import HandS.IsInst
import HandS.Style
import HandS.FStr
import HandS.StrSplit
import HandS.RaiseFrom
import HandS.SuiteRaise
import HandS.Strs
import HandS.TupAny
import HandS.Deep
import HandS.WordsExc
import KE.DataMinMax
import KE.DataFind
import KE.SortData
import HandS.SortKw
import HandS.TupSets
import HandS.SetBool
import HandS.DictComp
import HandS.Conv
import KE.KDictKeyed
import HandS.ExcField
import HandS.ExcInit
import HandS.ExcIs
import HandS.HeadHook4
import HandS.HeadEnd
import HandS.Head2
import HandS.Flow
import KE.GoesEnumKw
import PySem.Challenge.RW_earmarks_k59_whole_back_and_on
set_option Elab.async false
set_option linter.all false
set_option maxRecDepth 100000
set_option maxHeartbeats 2000000
def awr:True:=trivial
abbrev awt:=@False.elim
abbrev awu:=@decide_eq_true_eq
abbrev awv:=@of_decide_eq_true
def ave:=@PySem.W.Frag
def avf:=@List.getElem?_eq_some_iff
def avh:=@Bool.and_eq_true
def avi:=@List.getElem?_eq_getElem
def avj:=@List.map_cons
def avk:=@List.mem_cons_of_mem
def avl:=@List.mem_cons_self
def avm:=@List.getElem?_set_ne
def avn:=@Option.bind_eq_some_iff
def avo:=@List.mem_of_getElem?
def avp:=@List.mem_singleton
def avq:=@List.getElem?_append_left
def avr:=@List.mem_map
def avs:=@List.length_map
def avt:=@List.getElem?_set_self
def avu:=@List.length_cons
def avv:=@List.getElem?_append_right
def avw:=@List.mem_cons
def avx:=@List.all_eq_true
def avy:=@List.getElem?_map
def avz:=@List.mem_append
def avA:=@Option.some.inj
def avB:=@Bool.not_eq_true'
def avC:=@List.length_set
def avD:=@List.length_filter_le
def avE:=@Nat.le_refl
def avF:=@List.mem_filter
def avG:=@Function.comp_def
def avH:=@Nat.le_trans
def avI:=@List.all_cons
def avJ:=@List.getElem?_eq_none
def avK:=@List.map_map
def avL:=@List.not_mem_nil
def avM:=@List.lookup_cons
def avN:=@List.map_append
def avO:=@List.ext_getElem?
def avP:=@List.length_append
def avQ:=@List.mem_append_left
def avR:=@Bool.false_eq_true
def avS:=@Array.length_toList
def avT:=@Nat.ne_of_lt
def avU:=@Option.map_eq_some_iff
def avV:=@List.append_nil
def avW:=@List.drop_eq_getElem_cons
def avX:=@Nat.zero_le
def avY:=@List.mem_of_mem_take
def avZ:=@List.mem_append_right
def av0:=@Array.getElem?_toList
def av1:=@List.drop_length
def av2:=@List.getElem_mem
def av3:=@List.getElem?_mapIdx
def av4:=@List.nodup_append
def av5:=@List.getElem?_set
def av6:=@List.filter_cons
def av7:=@List.getElem?_zip_eq_some
def av8:=@Nat.lt_succ_of_lt
def av9:=@List.pairwise_mergeSort
def awa:=@List.zip_cons_cons
def awb:=@Bool.or_eq_true
def awc:=@List.any_cons
def awd:=@List.length_drop
def awe:=@List.map_nil
def awf:=@List.mergeSort_perm
def awg:=@Bool.eq_iff_iff
def awh:=@List.foldl_cons
def awi:=@List.filter_filter
def awj:=@List.Pairwise.imp
def awk:=@List.drop_zero
def awl:=@List.any_map
def awm:=@PySem.W.AllAlike.of
def awn:=@Nat.add_sub_cancel'
def awo:=@Nat.add_left_cancel
def awp:=@List.nodup_cons
def awq:=@Nat.succ.inj
abbrev LsS (a : Type) := List (PySem.Str × a)
open Lean in
local macro_rules
| `(#[[[]]]) => `($(mkIdent `X).blk $(mkIdent `s) $(mkIdent `H) $(mkIdent `scope) (PySem.compEnvC $(mkIdent `scope) $(mkIdent `cl) $(mkIdent `C) $(mkIdent `X).env) $(mkIdent `fp))
| `(#[]) => `(by omega)
| `(#[_]) => `(by kernel_rfl)
| `(#[()]) => `(by decide)
| `(#[[]]) => `(by decide +kernel)
| `(#[rfl]) => `(by with_unfolding_all rfl)
| `(#[$x]) => `(some (.dat $x))
open Lean in
local macro_rules
| `(tactic| obtain $p:rcasesPatMed) => `(tactic| obtain $p := avn.mp $(mkIdent `h))
open Lean in
local macro_rules
| `(tactic| left) => `(tactic| split at $(mkIdent `h):ident)
open Lean in
def patR : Nat → Term → MacroM (TSyntax `rcasesPat)
| 0, _ => Macro.throwUnsupported
| n+1, p => match p with
  | `(⟨$xs,*⟩) => do
    let ys ← xs.getElems.mapM (patR n)
    `(rcasesPat| ⟨$[$ys],*⟩)
  | `($x:ident) => `(rcasesPat| $x:ident)
  | `(_) => `(rcasesPat| _)
  | _ => Macro.throwUnsupported
open Lean in
local macro_rules
| `(tactic| let ⟨$xs,*⟩ := $e) => do
  let ys ← xs.getElems.mapM (patR 9)
  `(tactic| obtain ⟨$[$ys],*⟩ := $e)
local macro_rules
| `(tactic| simp! [$xs,*] $[$l]?) => `(tactic| simp only [$xs,*] $[$l]?)
namespace Rf
open PySem PySem.Spec PyProof.Rows L2 HandSHeadRun
def aww:=@wpAny_bind
def awx:=@wpAny_pure
def awy:=@if_pos
def awz:=@if_neg
def awA:=@upd_same
def awB:=@eq_of_beq
abbrev Dat:=PyData
abbrev Ft:=List (Str×List Str)
structure Qo(fa:List He.Fa)(fn:List He.DefD)(tb:List He.Tab)(ex:ave->Bool)(w:World)(K:ave):Prop where
 t:He.SaysT fa fn tb w K
 more:ex K=true
def afH(as:List Addr)(fa:List He.Fa)(fn:List He.DefD)(b:List He.Tab)(a:ave->Bool)(g:Addr->Option Obj):He.AlX:=(He.obsT fa fn b (He.frG g as),a (He.frG g as))
def afh(as:List Addr)(fa:List He.Fa)(fn:List He.DefD)(tb:List He.Tab)(ex:ave->Bool):PySem.W.Hook where
 α:=He.AlX
 obs:=λs=>afH as fa fn tb ex s.heap.get?
 val:=λw=>He.valX fn tb w
 says:=λw h=>∃K:ave,K.In h/\Qo fa fn tb ex w K
 of:=λw s e=>⟨_,He.frG_in,⟨congrArg (λz:He.AlX=>z.1) e,congrArg (λz:He.AlX=>z.2) e⟩⟩
 keeps:=λ_ _ _ ⟨K,hK,c⟩ k=>⟨K,PySem.W.Frag.In.keeps hK k,c⟩
def akt{as:List Addr}{fa:List He.Fa}{fn:List He.DefD}{c:List He.Tab}{b:ave->Bool}{g:Addr->Option Obj}{s:Shared}(h:∀a,g a=s.heap.get? a):afH as fa fn c b g=(afh as fa fn c b).obs s:=by rw[show g=s.heap.get? from funext h];rfl
def Px(K:ave)(a:Ft):Bool:=a.all λp=>(He.Fa.cls p.1).ok K&&p.2.all λf=>(He.Fa.noat p.1 f).ok K
def xmB(K:ave)(a:List (Str×LsS Bool)):Bool:=a.all λp=>p.2.all λq=>(He.Fa.exm q.1 p.1 q.2).ok K
def aa2(K:ave)(a:Addr):Bool:=match K.lookup a with
 |some o=>(match o.cls with
  |.type c=>decide (c="tuple")
  |_=>false)&&o.dict.isNone
 |none=>false
def anG(K:ave)(C:Addr):Bool:=(match K.lookup C with
 |some ⟨.type t,_,.cls cd,b⟩=>decide (t="type")&&(match cd.mro,b.toList with
  |.ref a::bm,[_,_,_,_,some (.builtin n),_]=>decide (a=C)&&(decide (n="ValueError.__new__")&&(!cd.hasDel&&(cd.hasDict&&PySem.HandSPX.refsVE bm)))
  |_,_=>false)
 |_=>false)&&(He.eqO (PySem.W.findIn K (.ref C) "__setattr__") (some (some (.builtin "object.__setattr__")))&&(decide (PySem.W.subIn K (.ref C) (.type "BaseException")=some true)&&(decide (PySem.W.typeIn K (.ref C)=some (.type "type"))&&PySem.W.keepIn K (.ref C))))
def Ye(K:ave)(x:Str)(a:List Str):Bool:=anG K (He.ga K x)&&(He.eqO (PySem.W.findIn K (.ref (He.ga K x)) "__init__") (some (some (.ref (He.ma K (He.ga K x) "__init__"))))&&(decide (PySem.W.typeIn K (.ref (He.ma K (He.ga K x) "__init__"))=some (.type "function"))&&(xfB K (He.ga K x)&&a.all λf=>He.eqO (PySem.W.findIn K (.ref (He.ga K x)) f) (some none))))
def aay(K:ave)(a:Addr)(b:List Str):Bool:=match K.lookup a with
 |some ⟨.type c,_,.seq its _,_⟩=>decide (c="tuple")&&(decide (its.size<=sizeLine)&&He.relAll (b.map V.str) its.toList)
 |_=>false
def ai8(K:ave)(x:Str)(b:List (Str×List Str)):Bool:=(match K.lookup (He.ga K x) with
 |some ⟨_,_,.dict es _,_⟩=>es.toList.all (λe=>(match e.key with
   |.str y _=>(b.map (·.1)).contains y
   |_=>false)&&!e.refKey)
 |_=>false)&&(decide ((b.map (·.1)).Nodup)&&b.all λq=>match PySem.W.nsIn K (He.ga K x) q.1 with
  |some (some (.ref a))=>aay K a q.2
  |_=>false)
section
open PySem.W PySem.Calls
noncomputable abbrev amN (r:PySem.W.OpenRow) (M:Nat) (w:World) (os:PySem.OsState):Option PySem.W.SharedT:=endF (stepQ (denQ tabQ) r.prog w) M r.prog w os
def ajc(r:PySem.W.OpenRow)(q:Program)(as:List Addr)(b:ave->Bool)(M:Nat)(a:List Str)(w:World):Prop:=∀os,(amN r M w os).map (λs=>(looksF r.prog (boot_heap w.params) s.abs,HandSHeadRun.seenQ q a (importedModules r.prog.main.body) (λs=>PySem.W.xlAt q [] s&&PySem.W.recOk r.toRowW.records s) s.abs,b (He.frG (getT s) as)))=some (true,PySem.W.openGood q a,true)
def aiw(r:PySem.W.OpenRow)(as:List Addr)(fa:List He.Fa)(fn:List He.DefD)(a:List He.Tab)(M:Nat)(w:World):Prop:=∀os,(amN r M w os).map (λs=>He.obsT fa fn a (He.frG (getT s) as))=some (He.valT fn a w)
def ZS{r:PySem.W.OpenRow}{q:Program}{as:List Addr}{fa:List He.Fa}{fn:List He.DefD}{i:List He.Tab}{e:ave->Bool}{M:Nat}{b:List Str}{w:World}(a:ajc r q as e M b w)(c:aiw r as [] fn i M w)(z:aiw r as fa [] [] M w):RunEq r q (afh as fa fn i e) (λs=>afH as fa fn i e (getT s)) M b w:=λos=>by
 obtain⟨s,j,f⟩:=Option.map_eq_some_iff.mp (a os);obtain⟨f,g⟩:=Prod.mk.inj f;obtain⟨g,k⟩:=Prod.mk.inj g;have d:=c os;have l:=z os;have h:endF (stepQ (denQ tabQ) r.prog w) M r.prog w os=some s:=j;rw[j,Option.map_some]at d l;have l:=(He.ba (Prod.mk.inj (Prod.mk.inj (Option.some.inj l)).1).1).1
 have o:He.obsT fa fn i (He.frG (getT s) as)=He.valT fn i w:=by
  show ((fa.all (λf=>f.ok _)&&_,_),_)=_
  rw[l];exact Option.some.inj d
 rw[h,Option.map_some];exact congrArg some (Prod.ext f (Prod.ext g (Prod.ext o k)))
end
end Rf
namespace Pr
open PySem PySem.Spec PyProof.Rows L2 Evl Rf
def cM:Dat:=.int 9
def jE:Dat:=.int 1
def lH:Dat:=.int 3
def iH:Dat:=.int 9
def dO:Dat:=.tuple [.str "lt",.str "lf",.str "lh",.str "rt",.str "rf",.str "rh"]
def jO:Dat:=.tuple [.int 0,.int 0,.int 0,.int 0,.int 0,.int 0]
def pQ:Dat:=.int 999999999
def rH:List (Str×List Str):=[("owner",[]),("ground",["number"]),("enrol",["number","number","ear"]),("leave",["number","number"]),("bring",["number","number","ear"]),("bear",["number"]),("cut",["number"]),("tear",["number","place"]),("sell",["number","number"]),("move",["number","number"]),("die",["number"]),("unite",["number","number"]),("part",["number"]),("pass",["number","number"]),("heir",["number","number","number"])]
def wF:Dat:=.str "none"
def jk:Ft:=[("Beast",["story","mother","owner","ground","due","ear","alive"]),("Herd",["beasts"]),("Grounds",["allowances","circles"]),("Rights",["held"]),("Commons",["owner_count","holders","grounds","rights","herd"]),("Book",["commons","kept"])]
def kcH:List Str:=["BadEar","Bare","BadAllowance","BadExtra","NoPlace","Deepest","NoOwner","NoGround","NoBeast","NoRight","HasRight","StillThere","Dead","Unmarked","SameOwner","SameGround","Together","Alone","NoneFree","BadDeed","BadLine","NoStand","Clash"]
def ktH:List Str:=["NoGround","NoOwner","NoRight","HasRight","NoneFree","BadExtra","BadAllowance","Clash","BadEar","Bare","StillThere","NoBeast","Dead","Unmarked","Deepest","NoPlace","SameOwner","SameGround","Together","Alone","BadDeed","BadLine","NoStand"]
def IW:LsS Bool:=[("NoGround",true),("NoOwner",false),("NoRight",false),("HasRight",false),("NoneFree",false),("BadExtra",false),("BadAllowance",false),("Clash",false),("BadEar",false),("Bare",false),("StillThere",false),("NoBeast",false),("Dead",false),("Unmarked",false),("Deepest",false),("NoPlace",false),("SameOwner",false),("SameGround",false),("Together",false),("Alone",false),("BadDeed",false),("BadLine",false),("NoStand",false)]
def Bp:LsS Bool:=[("NoGround",false),("NoOwner",false),("NoRight",false),("HasRight",false),("NoneFree",false),("BadExtra",false),("BadAllowance",false),("Clash",true),("BadEar",false),("Bare",false),("StillThere",false),("NoBeast",false),("Dead",false),("Unmarked",false),("Deepest",false),("NoPlace",false),("SameOwner",false),("SameGround",false),("Together",false),("Alone",false),("BadDeed",false),("BadLine",false),("NoStand",false)]
def nM:LsS Bool:=[("NoGround",true),("NoOwner",true),("NoRight",true),("HasRight",true),("NoneFree",true),("BadExtra",true),("BadAllowance",true),("Clash",true),("BadEar",true),("Bare",true),("StillThere",true),("NoBeast",true),("Dead",true),("Unmarked",true),("Deepest",true),("NoPlace",true),("SameOwner",true),("SameGround",true),("Together",true),("Alone",true),("BadDeed",true),("BadLine",true),("NoStand",true)]
def KZ:LsS Bool:=[("NoGround",false),("NoOwner",false),("NoRight",false),("HasRight",false),("NoneFree",false),("BadExtra",false),("BadAllowance",false),("Clash",false),("BadEar",false),("Bare",false),("StillThere",false),("NoBeast",false),("Dead",false),("Unmarked",false),("Deepest",false),("NoPlace",false),("SameOwner",false),("SameGround",false),("Together",false),("Alone",false),("BadDeed",false),("BadLine",false),("NoStand",true)]
def xmH:List (Str×LsS Bool):=[("NoGround",IW),("Clash",Bp),("CommonError",nM),("NoStand",KZ)]
def dfH:LsS Bool:=[("held",true),("holders",false)]
def YJ:List (Str×List Str):=[("Clash",["ones","others","ear"])]
def aU(i:Nat):Stmt:=PySem.Challenge.pw_earmarks_k59_whole_back_and_on.main.body.getD i (.Pass ⟨0,0,0,0⟩)
abbrev Jv:Stmt:=inClass (aU 56) 0
abbrev MK:Stmt:=inClass (aU 61) 0
abbrev Rv:Stmt:=inClass (aU 39) 0
abbrev Jw:Stmt:=inClass (aU 72) 0
abbrev RN:Stmt:=inClass (aU 74) 0
abbrev Ny:Stmt:=inClass (aU 74) 2
abbrev s_row:Stmt:=aU 81
abbrev acK:Stmt:=aU 82
abbrev aju:Stmt:=aU 83
abbrev RB:Stmt:=aU 84
abbrev Za:Stmt:=aU 85
abbrev af5:Stmt:=aU 86
abbrev Yz:Stmt:=aU 87
abbrev ajU:Stmt:=aU 88
abbrev ahC:Stmt:=aU 89
abbrev ahG:Stmt:=aU 90
abbrev JB:Stmt:=inClass (aU 56) 3
abbrev Mw:Stmt:=inClass (aU 56) 2
abbrev Ju:Stmt:=inClass (aU 56) 4
abbrev Dh:Stmt:=inClass (aU 56) 6
abbrev Dj:Stmt:=inClass (aU 72) 19
abbrev acO:Stmt:=aU 63
abbrev Ed:Stmt:=inClass (aU 39) 5
abbrev JL:Stmt:=inClass (aU 39) 6
abbrev Af:Stmt:=inClass (aU 61) 7
abbrev wM:Stmt:=inClass (aU 72) 22
abbrev Dd:Stmt:=inClass (aU 72) 21
abbrev Aa:Stmt:=inClass (aU 56) 5
abbrev JD:Stmt:=inClass (aU 56) 7
abbrev Jm:Stmt:=inClass (aU 72) 18
abbrev abD:Stmt:=aU 48
abbrev aer:Stmt:=aU 50
abbrev RG:Stmt:=aU 67
abbrev Gf:Stmt:=inClass (aU 72) 26
abbrev Mz:Stmt:=inClass (aU 74) 5
abbrev agc:Stmt:=aU 91
abbrev ajn:Stmt:=aU 97
abbrev za:Stmt:=inClass (aU 72) 33
abbrev Jr:Stmt:=inClass (aU 61) 3
abbrev Cy:Stmt:=inClass (aU 61) 4
abbrev zU:Stmt:=inClass (aU 72) 34
abbrev Ac:Stmt:=inClass (aU 72) 1
abbrev Dm:Stmt:=inClass (aU 61) 2
abbrev agx:Stmt:=aU 53
abbrev R6:Stmt:=aU 58
abbrev aeE:Stmt:=aU 51
abbrev ahb:Stmt:=aU 52
abbrev O5:Stmt:=aU 59
abbrev zR:Stmt:=inClass (aU 72) 35
abbrev Cz:Stmt:=inClass (aU 72) 15
abbrev z9:Stmt:=inClass (aU 56) 1
abbrev zH:Stmt:=inClass (aU 72) 2
abbrev YQ:Stmt:=aU 64
abbrev adU:Stmt:=aU 49
abbrev V5:Stmt:=aU 65
abbrev zN:Stmt:=inClass (aU 72) 36
abbrev abV:Stmt:=aU 31
abbrev Vq:Stmt:=aU 71
abbrev Hf:Stmt:=inClass (aU 72) 3
abbrev MN:Stmt:=inClass (aU 61) 5
abbrev Hw:Stmt:=inClass (aU 72) 4
abbrev FT:Stmt:=inClass (aU 38) 1
abbrev aey:Stmt:=aU 34
abbrev Ql:Stmt:=inClass (aU 38) 0
abbrev Ge:Stmt:=inClass (aU 39) 1
abbrev HD:Stmt:=inClass (aU 72) 5
abbrev Pk:Stmt:=inClass (aU 39) 2
abbrev Mq:Stmt:=inClass (aU 39) 3
abbrev Mu:Stmt:=inClass (aU 39) 4
abbrev Kf:Stmt:=inClass (aU 72) 6
abbrev Uz:Stmt:=aU 36
abbrev ZQ:Stmt:=aU 35
abbrev Mv:Stmt:=inClass (aU 38) 2
abbrev Jk:Stmt:=inClass (aU 38) 3
abbrev MJ:Stmt:=inClass (aU 72) 7
abbrev JM:Stmt:=inClass (aU 72) 8
abbrev M8:Stmt:=inClass (aU 39) 8
abbrev CK:Stmt:=inClass (aU 39) 9
abbrev JX:Stmt:=inClass (aU 72) 9
abbrev JZ:Stmt:=inClass (aU 72) 10
abbrev MF:Stmt:=inClass (aU 72) 11
abbrev UG:Stmt:=aU 66
abbrev Dk:Stmt:=inClass (aU 72) 24
abbrev Ec:Stmt:=inClass (aU 56) 10
abbrev GP:Stmt:=inClass (aU 56) 8
abbrev Hg:Stmt:=inClass (aU 72) 12
abbrev Jf:Stmt:=inClass (aU 56) 9
abbrev Jd:Stmt:=inClass (aU 72) 13
abbrev CQ:Stmt:=inClass (aU 61) 6
abbrev Qg:Stmt:=inClass (aU 39) 7
abbrev Ek:Stmt:=inClass (aU 72) 14
abbrev RX:Stmt:=aU 44
abbrev agN:Stmt:=aU 43
abbrev Qi:Stmt:=inClass (aU 72) 16
abbrev ZV:Stmt:=inClass (aU 74) 1
abbrev aeK:Stmt:=aU 76
abbrev VH:Stmt:=aU 77
abbrev NP:Stmt:=inClass (aU 38) 4
abbrev Fq:Stmt:=inClass (aU 72) 17
abbrev Ei:Stmt:=inClass (aU 61) 1
abbrev JC:Stmt:=inClass (aU 72) 32
abbrev RK:Stmt:=inClass (aU 74) 4
abbrev aec:Stmt:=aU 32
abbrev JV:Stmt:=aU 46
abbrev Y4:Stmt:=aU 45
abbrev R5:Stmt:=inClass (aU 74) 6
abbrev RM:Stmt:=aU 93
abbrev aeg:Stmt:=aU 94
abbrev O8:Stmt:=aU 78
abbrev aew:Stmt:=aU 79
abbrev R4:Stmt:=inClass (aU 74) 3
abbrev afU:Stmt:=aU 92
abbrev Yx:Stmt:=aU 95
abbrev adD:Stmt:=aU 80
abbrev RP:Stmt:=aU 96
abbrev QJ:Stmt:=aU 98
abbrev O9:Stmt:=inClass (aU 25) 0
abbrev dM(c m q:Str)(s:Stmt):He.DefD:=⟨(c,some m),m,q,defArgs s,defBody s,defScope s,[],[]⟩
abbrev dF(x:Str)(s:Stmt):He.DefD:=⟨(x,none),x,x,defArgs s,defBody s,defScope s,[],[]⟩
def xsH:List Str:=["Grounds","Rights","Herd","Commons","Book","NoGround","NoOwner","NoRight","HasRight","NoneFree","BadExtra","BadAllowance","Clash","BadEar","Bare","StillThere","Beast","NoBeast","Dead","Unmarked","Deepest","NoPlace","SameOwner","SameGround","Together","Alone","BadDeed","BadLine","NoStand","CommonError"]
def tbs:List He.Tab:=[(λK=>He.ga K "SHAPES",["owner","ground","enrol","leave","bring","bear","cut","tear","sell","move","die","unite","part","pass","heir"])]
def nm0:List PySem.Str:=["_wall","CommonError","BadEar","Bare","BadAllowance","BadExtra","NoPlace","Deepest","NoOwner","NoGround","NoBeast","NoRight"]
def nm1:List PySem.Str:=["HasRight","StillThere","Dead","Unmarked","SameOwner","SameGround","Together","Alone","NoneFree","BadDeed","BadLine","NoStand"]
def nm2:List PySem.Str:=["Clash","PLACES","GREATEST_DEPTH","BARE_EAR","BARE_WORD","is_ear","shown","begun","gone_on","deepened","Beast","Herd"]
def nm3:List PySem.Str:=["SHAPES","GREATEST_PART","fits","part_fits","written","part_written","deeper","joint","lacks","apart","meet","torn"]
def nm4:List PySem.Str:=["GREATEST_ALLOWANCE","Grounds","offspring","first_free","Rights","tidied","barring","ask_room","clashing","owners_of","FEWEST_EXTRA","MOST_EXTRA"]
def nm5:List PySem.Str:=["need_ear","Commons","Book","_law_whole","_law_like","_law_kind_of","_law_fully","_law_tried","_law_row","_law_ear_by","_law_ear","_law_begun"]
def nm6:List PySem.Str:=["_law_word_by","_law_near","_law_mark_by","_law_ref","_law_deed","_law_plan","_law_cell","_law_back","_law_no_ground","_law_right","_law_goes_on","_law_at_length"]
def nm7:List PySem.Str:=["_law_cut"]
def nm:List PySem.Str:=nm0++nm1++nm2++nm3++nm4++nm5++nm6++nm7
def fa0:List He.Fa:=[.mkr "Grounds",.mkr "Rights",.mkr "Herd",.mkr "Commons",.mkr "Book",.meth "Book" "deeds",.glo "_law_row",.glo "_law_ear_by",.glo "_law_ear",.glo "_law_begun",.glo "_law_word_by",.glo "_law_near"]
def fa1:List He.Fa:=[.glo "_law_mark_by",.glo "_law_ref",.glo "_law_deed",.glo "_law_plan",.meth "Grounds" "many",.meth "Grounds" "has",.meth "Grounds" "need",.meth "Grounds" "together",.meth "Commons" "together",.glo "tidied",.meth "Herd" "all_living",.meth "Herd" "grazing"]
def fa2:List He.Fa:=[.meth "Rights" "in_grounds",.meth "Commons" "standing_but",.meth "Commons" "standing",.meth "Grounds" "allowance",.meth "Grounds" "room",.meth "Commons" "room",.glo "deeper",.glo "lacks",.glo "owners_of",.meth "Commons" "gather",.meth "Book" "gather",.glo "_law_cell"]
def fa3:List He.Fa:=[.glo "_law_cut",.meth "Commons" "need_owner",.meth "Rights" "marks",.meth "Rights" "has_right",.meth "Commons" "need_right",.meth "Commons" "new_owner",.meth "Rights" "add_right",.glo "torn",.glo "offspring",.glo "apart",.glo "meet",.glo "first_free"]
def fa4:List He.Fa:=[.meth "Commons" "first_mark",.meth "Commons" "new_heir",.meth "Grounds" "add_ground",.meth "Commons" "new_ground",.glo "barring",.glo "joint",.glo "ask_room",.meth "Commons" "ask_ground",.glo "is_ear",.glo "need_ear",.meth "Commons" "enrol",.meth "Rights" "drop"]
def fa5:List He.Fa:=[.meth "Commons" "leave",.meth "Beast" "stand_so",.glo "begun",.mkr "Beast",.meth "Herd" "add_beast",.meth "Commons" "bring",.meth "Herd" "known",.meth "Herd" "living",.meth "Herd" "marked",.meth "Commons" "bear",.glo "deepened",.glo "gone_on"]
def fa6:List He.Fa:=[.meth "Beast" "stand",.meth "Beast" "befall",.meth "Commons" "cut",.meth "Commons" "tear",.meth "Herd" "calves",.meth "Herd" "lead_calves",.meth "Commons" "sell",.meth "Commons" "move",.meth "Commons" "die",.glo "clashing",.meth "Commons" "quarrels",.meth "Grounds" "enclose"]
def fa7:List He.Fa:=[.meth "Grounds" "unite",.meth "Commons" "unite",.meth "Grounds" "part",.meth "Commons" "part",.meth "Rights" "hand_over",.meth "Herd" "owned",.meth "Commons" "pass_on",.glo "part_fits",.glo "fits",.meth "Commons" "do",.meth "Book" "do",.glo "_law_whole"]
def fa8:List He.Fa:=[.glo "_law_like",.meth "Beast" "told",.meth "Commons" "owners",.meth "Rights" "all_rows",.meth "Commons" "look",.meth "Book" "look",.glo "shown",.glo "part_written",.glo "written",.meth "Book" "page",.glo "_law_no_ground",.glo "_law_right"]
def fa9:List He.Fa:=[.glo "_law_kind_of",.glo "_law_fully",.meth "Book" "back",.glo "_law_back",.glo "_law_goes_on",.glo "_law_tried",.glo "_law_at_length",.glo "law",.glo "Grounds",.glo "Rights",.glo "Herd",.glo "Commons"]
def arD:List He.Fa:=[.glo "Book",.glo "NoGround",.exc "NoGround",.glo "NoOwner",.exc "NoOwner",.glo "NoRight",.exc "NoRight",.glo "HasRight",.exc "HasRight",.glo "NoneFree",.exc "NoneFree",.glo "BadExtra"]
def arP:List He.Fa:=[.exc "BadExtra",.glo "BadAllowance",.exc "BadAllowance",.glo "Clash",.glo "BadEar",.exc "BadEar",.glo "Bare",.exc "Bare",.glo "StillThere",.exc "StillThere",.glo "Beast",.glo "NoBeast"]
def arw:List He.Fa:=[.exc "NoBeast",.glo "Dead",.exc "Dead",.glo "Unmarked",.exc "Unmarked",.glo "Deepest",.exc "Deepest",.glo "NoPlace",.exc "NoPlace",.glo "SameOwner",.exc "SameOwner",.glo "SameGround"]
def arq:List He.Fa:=[.exc "SameGround",.glo "Together",.exc "Together",.glo "Alone",.exc "Alone",.glo "BadDeed",.exc "BadDeed",.glo "BadLine",.exc "BadLine",.glo "NoStand",.exc "NoStand",.glo "CommonError"]
def arz:List He.Fa:=[.exc "CommonError",.glo "SHAPES",.int "GREATEST_DEPTH" 9,.int "FEWEST_EXTRA" 1,.int "MOST_EXTRA" 3,.int "GREATEST_ALLOWANCE" 9,.glo "PLACES",.glo "BARE_EAR",.int "GREATEST_PART" 999999999,.str "BARE_WORD" "none",.free "list",.free "range"]
def ar7:List He.Fa:=[.free "abs",.free "tuple",.free "max",.free "zip",.free "min",.free "int",.free "enumerate",.free "len",.free "sorted",.free "set",.free "all",.free "sum"]
def arE:List He.Fa:=[.free "any",.free "isinstance",.free "bool",.free "str"]
def fa:List He.Fa:=fa0++fa1++fa2++fa3++fa4++fa5++fa6++fa7++fa8++fa9++arD++arP++arw++arq++arz++ar7++arE
def fn0:List He.DefD:=[dM "Grounds" "__init__" "Grounds.__init__" Jv,dM "Rights" "__init__" "Rights.__init__" MK,dM "Herd" "__init__" "Herd.__init__" Rv,dM "Commons" "__init__" "Commons.__init__" Jw,dM "Book" "__init__" "Book.__init__" RN,dM "Book" "deeds" "Book.deeds" Ny,dF "_law_row" s_row,dF "_law_ear_by" acK,dF "_law_ear" aju,dF "_law_begun" RB,dF "_law_word_by" Za,dF "_law_near" af5]
def fn1:List He.DefD:=[dF "_law_mark_by" Yz,dF "_law_ref" ajU,dF "_law_deed" ahC,dF "_law_plan" ahG,dM "Grounds" "many" "Grounds.many" JB,dM "Grounds" "has" "Grounds.has" Mw,dM "Grounds" "need" "Grounds.need" Ju,dM "Grounds" "together" "Grounds.together" Dh,dM "Commons" "together" "Commons.together" Dj,dF "tidied" acO,dM "Herd" "all_living" "Herd.all_living" Ed,dM "Herd" "grazing" "Herd.grazing" JL]
def fn2:List He.DefD:=[dM "Rights" "in_grounds" "Rights.in_grounds" Af,dM "Commons" "standing_but" "Commons.standing_but" wM,dM "Commons" "standing" "Commons.standing" Dd,dM "Grounds" "allowance" "Grounds.allowance" Aa,dM "Grounds" "room" "Grounds.room" JD,dM "Commons" "room" "Commons.room" Jm,dF "deeper" abD,dF "lacks" aer,dF "owners_of" RG,dM "Commons" "gather" "Commons.gather" Gf,dM "Book" "gather" "Book.gather" Mz,dF "_law_cell" agc]
def fn3:List He.DefD:=[dF "_law_cut" ajn,dM "Commons" "need_owner" "Commons.need_owner" za,dM "Rights" "marks" "Rights.marks" Jr,dM "Rights" "has_right" "Rights.has_right" Cy,dM "Commons" "need_right" "Commons.need_right" zU,dM "Commons" "new_owner" "Commons.new_owner" Ac,dM "Rights" "add_right" "Rights.add_right" Dm,dF "torn" agx,dF "offspring" R6,dF "apart" aeE,dF "meet" ahb,dF "first_free" O5]
def fn4:List He.DefD:=[dM "Commons" "first_mark" "Commons.first_mark" zR,dM "Commons" "new_heir" "Commons.new_heir" Cz,dM "Grounds" "add_ground" "Grounds.add_ground" z9,dM "Commons" "new_ground" "Commons.new_ground" zH,dF "barring" YQ,dF "joint" adU,dF "ask_room" V5,dM "Commons" "ask_ground" "Commons.ask_ground" zN,dF "is_ear" abV,dF "need_ear" Vq,dM "Commons" "enrol" "Commons.enrol" Hf,dM "Rights" "drop" "Rights.drop" MN]
def fn5:List He.DefD:=[dM "Commons" "leave" "Commons.leave" Hw,dM "Beast" "stand_so" "Beast.stand_so" FT,dF "begun" aey,dM "Beast" "__init__" "Beast.__init__" Ql,dM "Herd" "add_beast" "Herd.add_beast" Ge,dM "Commons" "bring" "Commons.bring" HD,dM "Herd" "known" "Herd.known" Pk,dM "Herd" "living" "Herd.living" Mq,dM "Herd" "marked" "Herd.marked" Mu,dM "Commons" "bear" "Commons.bear" Kf,dF "deepened" Uz,dF "gone_on" ZQ]
def fn6:List He.DefD:=[dM "Beast" "stand" "Beast.stand" Mv,dM "Beast" "befall" "Beast.befall" Jk,dM "Commons" "cut" "Commons.cut" MJ,dM "Commons" "tear" "Commons.tear" JM,dM "Herd" "calves" "Herd.calves" M8,dM "Herd" "lead_calves" "Herd.lead_calves" CK,dM "Commons" "sell" "Commons.sell" JX,dM "Commons" "move" "Commons.move" JZ,dM "Commons" "die" "Commons.die" MF,dF "clashing" UG,dM "Commons" "quarrels" "Commons.quarrels" Dk,dM "Grounds" "enclose" "Grounds.enclose" Ec]
def fn7:List He.DefD:=[dM "Grounds" "unite" "Grounds.unite" GP,dM "Commons" "unite" "Commons.unite" Hg,dM "Grounds" "part" "Grounds.part" Jf,dM "Commons" "part" "Commons.part" Jd,dM "Rights" "hand_over" "Rights.hand_over" CQ,dM "Herd" "owned" "Herd.owned" Qg,dM "Commons" "pass_on" "Commons.pass_on" Ek,dF "part_fits" RX,dF "fits" agN,dM "Commons" "do" "Commons.do" Qi,dM "Book" "do" "Book.do" ZV,dF "_law_whole" aeK]
def fn8:List He.DefD:=[dF "_law_like" VH,dM "Beast" "told" "Beast.told" NP,dM "Commons" "owners" "Commons.owners" Fq,dM "Rights" "all_rows" "Rights.all_rows" Ei,dM "Commons" "look" "Commons.look" JC,dM "Book" "look" "Book.look" RK,dF "shown" aec,dF "part_written" JV,dF "written" Y4,dM "Book" "page" "Book.page" R5,dF "_law_no_ground" RM,dF "_law_right" aeg]
def fn9:List He.DefD:=[dF "_law_kind_of" O8,dF "_law_fully" aew,dM "Book" "back" "Book.back" R4,dF "_law_back" afU,dF "_law_goes_on" Yx,dF "_law_tried" adD,dF "_law_at_length" RP,dF "law" QJ,dM "Clash" "__init__" "Clash.__init__" O9]
def fn:List He.DefD:=fn0++fn1++fn2++fn3++fn4++fn5++fn6++fn7++fn8++fn9
def ara(K:ave)(d a b:List PySem.Str):Bool:=b.all λn=>d.contains n&&(decide (PySem.W.findIn K (.ref (He.ga K n)) "__getattribute__"=some (some (.builtin "BaseException.__getattribute__")))&&(decide (PySem.W.findIn K (.ref (He.ga K n)) "__getattr__"=some none)&&(decide (PySem.W.subIn K (.ref (He.ga K n)) (.type "BaseException")=some true)&&(PySem.W.hasDictIn K (He.ga K n)&&(decide (PySem.W.findIn K (.ref (He.ga K n)) "__class__"=some (some (.builtin "object.__class__")))&&(decide (PySem.W.specialIn K (.builtin "object.__class__") "__get__"=some (some (.builtin "getset_descriptor.__get__")))&&(decide (PySem.W.takesIn K (.builtin "object.__class__")=some true)&&(decide (PySem.W.mroIn K (He.ga K n) (.type "object")=some true)&&a.all λc=>decide (PySem.W.kitOne K (.ref (He.ga K n)) (.ref (He.ga K c))=some (n==c))))))))))
def exB(K:ave):Bool:=true&&Px K jk&&xmB K xmH&&(YJ.all λp=>xsH.contains p.1&&Ye K p.1 p.2)&&ara K xsH kcH ktH&&ai8 K "SHAPES" rH&&He.tupB K "PLACES" [.str "lt",.str "lf",.str "lh",.str "rt",.str "rf",.str "rh"]&&aa2 K (He.ga K "PLACES")&&He.tupB K "BARE_EAR" [.int 0,.int 0,.int 0,.int 0,.int 0,.int 0]&&aa2 K (He.ga K "BARE_EAR")
def ad0:List Addr:=[3,31,44,56,68,80,92,104,116,128,140,152,164,176,188,200,212,224,236,248,260,272,284,296]
def ad1:List Addr:=[315,318,319,324,329,336,343,348,393,476,481,501,508,513,520,525,530,535,542,549,554,637,646,651]
def ad2:List Addr:=[711,722,727,734,739,744,751,1008,1069,1080,1087,1094,1101,1108,1115,1120,1127,1134,1141,1148,1155,1162,1169,1176]
def ad3:List Addr:=[1183,1190,1197,1202,1209,1216,1223,1230,30,43,55,67,79,91,103,115,127,139,151,163,175,187,199,211]
def ad4:List Addr:=[223,235,247,259,271,283,295,314,323,328,335,342,347,392,475,482,483,484,485,486,487,488,489,490]
def ad5:List Addr:=[491,492,493,494,495,496,500,507,512,519,524,529,534,541,548,553,636,645,650,710,721,726,733,738]
def ad6:List Addr:=[743,750,1007,1068,1079,1086,1093,1100,1107,1114,1119,1126,1133,1140,1147,1154,1161,1168,1175,1182,1189,1196,1201,1208]
def ad7:List Addr:=[1215,1222,1229,29,32,42,54,66,78,90,102,114,126,138,150,162,174,186,198,210,222,234,246,258]
def ad8:List Addr:=[270,282,294,312,313,362,369,376,383,390,391,394,395,411,418,425,432,439,444,449,454,459,466,473]
def ad9:List Addr:=[474,477,478,568,575,582,589,596,603,610,615,622,627,634,635,638,639,665,672,679,684,691,698,703]
def ar5:List Addr:=[708,709,712,713,765,772,779,786,791,798,805,812,819,826,833,840,847,854,859,866,873,880,887,894]
def arX:List Addr:=[901,908,913,920,927,934,939,946,953,958,965,972,977,984,991,998,1005,1006,1009,1010,1026,1033,1040,1047]
def ar3:List Addr:=[1054,1061,1066,1067,1070,1071,311,361,368,375,382,389,410,417,424,431,438,443,448,453,458,465,472,567]
def arb:List Addr:=[574,581,588,595,602,609,614,621,626,633,664,671,678,683,690,697,702,707,764,771,778,785,790,797]
def aro:List Addr:=[804,811,818,825,832,839,846,853,858,865,872,879,886,893,900,907,912,919,926,933,938,945,952,957]
def arH:List Addr:=[964,971,976,983,990,997,1004,1025,1032,1039,1046,1053,1060,1065]
def ad:List Addr:=ad0++ad1++ad2++ad3++ad4++ad5++ad6++ad7++ad8++ad9++ar5++arX++ar3++arb++aro++arH
abbrev R:PySem.W.OpenRow:=PySem.W.OpenLaw.row PySem.Challenge.rw_earmarks_k59_whole_back_and_on
abbrev hkE:PySem.W.Hook:=afh ad fa fn tbs exB
def obE(s:PySem.W.SharedT):He.AlX:=afH ad fa fn tbs exB (HandSHeadRun.getT s)
def aop(s:PySem.W.SharedT):obE s=hkE.obs s.abs:=akt (HandSHeadRun.getT_eq s)
abbrev wR(w:World)(b:Bool):World:=w.withFollow "special-get-raises" b
def aqG(w:World):ajc R (PySem.W.view R.prog [98]) ad exB 40000 nm (wR w false):=λos=>by kernel_rfl
def ap8(w:World):aiw R ad [] fn tbs 40000 (wR w false):=λos=>by kernel_rfl
def zzf(w:World):aiw R ad fa [] [] 40000 (wR w false):=λos=>by kernel_rfl
def runAt(w:World):ajc R (PySem.W.view R.prog [98]) ad exB 40000 nm (wR w true):=λos=>by kernel_rfl
def aqt(w:World):aiw R ad [] fn tbs 40000 (wR w true):=λos=>by kernel_rfl
def zzt(w:World):aiw R ad fa [] [] 40000 (wR w true):=λos=>by kernel_rfl
def run(w:World):HandSHeadRun.RunEq R (PySem.W.view R.prog [98]) hkE obE 40000 nm w:=PySem.W.byRow2 "special-get-raises" (P:=λw=>HandSHeadRun.RunEq R (PySem.W.view R.prog [98]) hkE obE 40000 nm w) (λw=>ZS (aqG w) (ap8 w) (zzf w)) (λw=>ZS (runAt w) (aqt w) (zzt w)) w
end Pr
namespace Ear
open PySem PySem.Spec PyProof.Rows L2 Evl RZ
section
variable{X:Cx}{C:Addr}{bmB:List Value}{B newId initId:String}
def aiF{x:Str}{p pos:Pos}(F:ExcBaseFacts B newId initId bmB)(q:PySem.W.excIn X.K C bmB newId=true)(g:X.mg x=some (.ref C))(m:PySem.W.keepIn X.K (.ref C)=true)(r:Raises X (.ref C))(k:Gl X x)
  (l:(x==("__debug__" : Str))=false:=by decide):PMk X (.Call (.Name x p) [] [] pos) (λ_ H Q=>Q (.ref C) none H):=by
 intro d s G H Q I h;refine wpAny_Call_Name_kw (ld_glob I k g ?_ l);refine PySem.W.callWith_K0 I.kIn m ?_;show wpAny _ _ (call (.ref C) []) _ _ _;let⟨o,N,nm,D,t,b,E,sub,n,f,dd,u,v,w,y,z,A,i,j,a,T⟩:=exc_obj I.kIn q
 refine wpAny_call_exc_subT F T i j a (λh' e c=>?_) (avX _);exact mk_of I c r h (I.hok.gone c.new)
end
def exm_one{K:ave}{S:Addr}(c:PySem.W.subIn K (.ref S) (.type "BaseException")=some true)(d:PySem.W.isClsIn K S=true)(e:PySem.W.typeIn K (.ref S)=some (.type "type"))(f:PySem.W.subIn K (.ref S) (.ref S)=some true) :
  PySem.W.exmOne K (.ref S) (.ref S)=some true:=by
 have a:(PySem.W.subIn K (.ref S) (.type "BaseException")==some true)=true:=by rw[c]<;>rfl
 have b:((PySem.W.clsIn K S).isSome&&PySem.W.typeIn K (.ref S)==some (.type "type"))=true:=by rw[e,avh];exact⟨d,rfl⟩
 show(if (PySem.W.subIn K (.ref S) (.type "BaseException")==some true)=true then(if ((PySem.W.clsIn K S).isSome&&PySem.W.typeIn K (.ref S)==some (.type "type"))=true then PySem.W.subIn K (.ref S) (.ref S) else none) else none)=some true
 rw[if_pos a,if_pos b];exact f
def arZ(a:List Int):Prop:=a.length=6/\∀x∈a,0<=x/\x<=9
section
variable{K:ave}{σ:L2.St}{H:Hp}{te tl:TE}{tt:TT}{vs:List Nat}
def EvS(te:TE)(σ:L2.St)(H:Hp)(P:V->Hp->Prop):Prop:=∀a,Ex H a->∀Q:VK,(∀v b,Ex a b->P v b->Q v b)->te σ a Q
end
section
variable{K:ave}{σ:L2.St}{H H':Hp}{te ta tb:TE}{t:TT}{P R:V->Hp->Prop}{v:V}
def EvS.mono(e:Ex H H')(h:EvS te σ H P):EvS te σ H' P:=λH1 a Q q=>h H1 (e.trans a) Q q
def EvS.imp(h:EvS te σ H P)(k:∀v H',P v H'->R v H'):EvS te σ H R:=λH1 e Q q=>h H1 e Q λv a b p=>q v a b (k v a p)
end
end Ear
namespace Ear
open PySem PySem.Spec PyProof.Rows L2 Evl RZ
def fK{a:Type}(R:V->a->Prop)(b:List V)(L:List a):Prop:=b.length=L.length/\∀(i:Nat) (v:V) (x:a),b[i]?=some v->L[i]?=some x->R v x
def fK.imp{d:Type}{R S:V->d->Prop}{c:List V}{L:List d}(h:fK R c L)(k:∀v x,R v x->S v x):fK S c L:=⟨h.1,λi v x a b=>k v x (h.2 i v x a b)⟩
def fK.nil{b:Type}{R:V->b->Prop}:fK R [] []:=⟨rfl,λi v x a _=>by simp at a⟩
def fK.snoc{d:Type}{R:V->d->Prop}{c:List V}{L:List d}{v:V}{x:d}(h:fK R c L)(k:R v x):fK R (c++[v]) (L++[x]):=by
 refine⟨by rw[avP,avP,h.1];rfl,λi u y a b=>?_⟩;by_cases e:i<c.length
 .rw[avq e]at a;rw[avq (by rw[<-h.1];exact e)]at b;exact h.2 i u y a b
 .rw[avv #[]]at a;rw[avv (by rw[<-h.1];omega),<-h.1]at b;have f:i-c.length=0:=by
   have:=(avf.mp a).1;simp![avu,List.length_nil]at this;omega
  rw[f]at a b;cases a;cases b;exact k
def Km(H:Hp)(v:V)(l:List Int):Prop:=∃h:Addr,v=.ref h/\H h=some (.tup (l.map V.int))
def Km.mono{H b:Hp}(e:Ex H b){v:V}{l:List Int}(h:Km H v l):Km b v l:=by
 let⟨a,c,d⟩:=h
 exact⟨a,c,e _ _ d⟩
theorem Km.upd{H:Hp}{D:Addr}{b:List V}{o:HO}(e:H D=some (.lst b)){v:V}{l:List Int}(h:Km H v l):Km (upd H D o) v l:=by
 let⟨a,d,c⟩:=h
 refine⟨a,d,?_⟩;rw[upd_ne (λz=>by rw[z,e]at c;cases c)];exact c
abbrev Rw:Type:=Int×List Int
def Rc(H:Hp)(v:V)(r:Rw):Prop:=∃t m:Addr,v=.ref t/\H t=some (.tup [.int r.1,.ref m])/\H m=some (.tup (r.2.map V.int))
def Rc.mono{H a:Hp}(e:Ex H a){v:V}{r:Rw}(h:Rc H v r):Rc a v r:=by
 let⟨t,m,b,c,d⟩:=h
 exact⟨t,m,b,e _ _ c,e _ _ d⟩
theorem Rc.upd{H:Hp}{D:Addr}{a:List V}{o:HO}(d:H D=some (.lst a)){v:V}{r:Rw}(h:Rc H v r):Rc (upd H D o) v r:=by
 let⟨t,m,e,b,c⟩:=h
 refine⟨t,m,e,?_,?_⟩
 .rw[upd_ne (λz=>by rw[z,d]at b;cases b)];exact b
 .rw[upd_ne (λz=>by rw[z,d]at c;cases c)];exact c
def aqI(r:Rw):Prop:=1<=r.1/\arZ r.2
structure Tab(R:List Rw):Prop where
 len:R.length<=128
 ok:∀r∈R,aqI r
 few:∃D:List Rw,D.length<=64/\∀r∈R,r∈D
def Tab.sub{R S:List Rw}(h:Tab R)(hs:∀r∈S,r∈R)(hl:S.length<=128):Tab S:=by
 let⟨D,d1,a⟩:=h.few
 exact⟨hl,λr hr=>h.ok r (hs r hr),D,d1,λr hr=>a r (hs r hr)⟩
def fK.get{c:Type}{R:V->c->Prop}{b:List V}{L:List c}(h:fK R b L){i:Nat}{v:V}(g:b[i]?=some v):∃x,L[i]?=some x/\R v x:=by
 have d:=(avf.mp g).1;have a:i<L.length:=by rw[<-h.1];exact d
 exact⟨L[i],avi a,h.2 i v _ g (avi a)⟩
def fK.mem{b:Type}{R:V->b->Prop}{a:List V}{L:List b}(h:fK R a L){v:V}(m:v∈a):∃x,x∈L/\R v x:=by
 let⟨i,c,e⟩:=List.getElem_of_mem m
 let⟨x,g,r⟩:=h.get (avf.mpr ⟨c,e⟩)
 exact⟨x,avo g,r⟩
theorem fK.take{e:Type}{R:V->e->Prop}{d:List V}{L:List e}(h:fK R d L)(n:Nat):fK R (d.take n) (L.take n):=by
 refine⟨by rw[List.length_take,List.length_take,h.1],λi v x a b=>?_⟩;rw[List.getElem?_take]at a b;by_cases c:i<n
 .rw[if_pos c]at a b;exact h.2 i v x a b
 .rw[if_neg c]at a;cases a
theorem fK.drop{d:Type}{R:V->d->Prop}{c:List V}{L:List d}(h:fK R c L)(n:Nat):fK R (c.drop n) (L.drop n):=by refine⟨by rw[awd,awd,h.1],λi v x a b=>?_⟩;rw[List.getElem?_drop]at a b;exact h.2 _ v x a b
section
variable{X:Cx}
def ait(b:List V)(a:List PyData)(x:V)(d:PyData):Prop:=∃i:Nat,b[i]?=some x/\a[i]?=some d
@[irreducible]def Kr (K:ave):List V->Hp->VK->Prop:=λf H Q=>∃(a:Addr) (c:List V) (b:List PyData),f=[V.ref a]/\SqL K H a c/\DpAll K H c b/\PySem.W.AllAlike b/\PySem.W.Sortable b/\(∀d∈b,d.depth<=60)/\
 ∀(e:List V) (p:Addr),fK (ait c b) e (b.mergeSort (PySem.W.dataLe false id))->H p=none->Q (.ref p) (upd H p (.lst e))
theorem aaW:∀(g:List V) (f:List PyData) (e:List Value) (P:Value->PyData->Prop),Vals g e->PySem.W.EachIs P e f->
  PySem.W.EachIs (λv d=>∃(i:Nat) (x:V),RelV x v/\g[i]?=some x/\f[i]?=some d) e f
 |[],_,_,_,.nil,.nil=>.nil
 |_::_,[],_,_,.cons _ _,k=>nomatch k
 |x::g,d::f,u::h,P,.cons r t,.cons _ k=>.cons ⟨0,x,r,rfl,rfl⟩ ((aaW g f h P t k).mono λv d ⟨i,y,a,b,c⟩=>⟨i+1,y,a,b,c⟩)
theorem YD{l:List V}{e:List PyData}:∀(out:List Value) (L:List PyData),PySem.W.EachIs (λv d=>∃(i:Nat) (x:V),RelV x v/\l[i]?=some x/\e[i]?=some d) out L->∃c,Vals c out/\fK (ait l e) c L
 |[],[],.nil=>⟨[],.nil,fK.nil⟩
 |v::out,d::L,.cons ⟨i,x,r,a,b⟩ k=>by
  let⟨c,m,h⟩:=YD out L k
  refine⟨x::c,.cons r m,by rw[avu,avu,h.1],λj u y f g=>?_⟩;cases j with
  |zero=>
   cases f;cases g;exact⟨i,a,b⟩
  |succ j=>exact h.2 j u y f g
def afi(M:X.A.units+65<cLine):CallR X (.builtin "sorted") (Kr X.K):=by
 intro p s U H S R Q I r h;unfold Kr at h;let⟨a,x,c,rfl,D,z,f,hk,F,q⟩:=h
 let⟨u,rfl,G⟩:=vals1 r
 obtain rfl:u=Value.ref a:=G
 let⟨b,i,B,E⟩:=I.list D
 let⟨as,o⟩:=Dp.readsAll I c x b z i
 have l:PySem.W.EachIs (λv d=>∃as,Reads s.heap v (id d) as) b c:=PySem.W.readsAll_each id (by rw[List.map_id];exact o);have L:=SeqAt.ReadsAll.length c b as o;have C:=i.length;refine PySem.W.sorted_data (enc:=id) B.isList (aaW x c b _ i l) l (by rw[List.map_id];exact f) (by rw[List.map_id];exact hk) #[] (λd m=>?_) λout n e=>?_
 .have:=F d m;show X.A.units+2+d.depth<cLine;omega
 .let⟨j,J,t⟩:=YD out _ e
  let⟨y,g⟩:=PyProof.Rows.sortedAll_at s.heap b out.toArray
  have N:j.length=c.length:=by rw[t.1,List.length_mergeSort]
  refine⟨.ref _,upd H (s.heap.objs.size+1) (.lst j),I.laid (t':=s.toks) (λ_ _=>PyProof.Rows.sortedAll_old) (Nat.le_succ _) ⟨#[],out,y,J,by simpa using g⟩,rfl,q j _ t (I.hok.fresh (Nat.le_succ _))⟩
end
@[irreducible]def VL (K:ave):R2:=λx y H Q=>∃d e:PyData,Dp K H x d/\Dp K H y e/\PySem.W.alike d e=true/\d≠.none/\d.depth<=60/\Q (.bl (PySem.W.dataLt d e)) H
def aiY{X:Cx}(n:X.A.units+65<cLine):OpR X (compareOp .Lt) (VL X.K):=by
 intro a s p H x y v u Q I j l h;unfold VL at h;let⟨d,e,c,f,b,g,o,q⟩:=h
 let⟨as,r1⟩:=Dp.reads I d x v c j
 let⟨m,i⟩:=Dp.reads I e y u f l
 exact PySem.W.lt_data r1 i b g #[] ⟨.bl _,H,I,rfl,q⟩
def EvR(d:TE)(e:L2.St)(H:Hp)(P:List V->Hp->Prop):Prop:=∀b,Ex H b->∀Q:VK,(∀p a c,Ex b a->a p=some (.lst c)->P c a->Q (.ref p) a)->d e b Q
def EvM(d:TE)(e:L2.St)(H:Hp)(P:List V->Hp->Prop):Prop:=∀a,Ex H a->∀Q:VK,(∀p b c,a p=none->Ex a b->b p=some (.lst c)->P c b->Q (.ref p) b)->d e a Q
structure ani{α:Type}(Rel:Hp->V->α->Prop):Prop where
 mono:∀{H H':Hp} {v:V} {x:α},Ex H H'->Rel H v x->Rel H' v x
 upd:∀{H:Hp} {D:Addr} {acc:List V} {o:HO} {v:V} {x:α},H D=some (.lst acc)->Rel H v x->Rel (upd H D o) v x
theorem fK.mono{d:Type}{a:Hp->V->d->Prop}(S:ani a){H b:Hp}(e:Ex H b){c:List V}{L:List d}(h:fK (a H) c L):fK (a b) c L:=h.imp λ_ _ r=>S.mono e r
theorem fK.upd{d:Type}{a:Hp->V->d->Prop}(S:ani a){H:Hp}{D:Addr}{b:List V}{o:HO}(e:H D=some (.lst b)){c:List V}{L:List d}(h:fK (a H) c L):fK (a (upd H D o)) c L:=h.imp λ_ _ r=>S.upd e r
section
variable{K:ave}{σ:L2.St}{H:Hp}{te tl:TE}{tt:TT}{vs:List Nat}{α:Type}
def EvM.r{P:List V->Hp->Prop}(h:EvM te σ H P):EvR te σ H P:=λH1 e Q q=>h H1 e Q λp d us _ a b c=>q p d us a b c
def EvM.imp{P R:List V->Hp->Prop}(h:EvM te σ H P)(k:∀d f,P d f->R d f):EvM te σ H R:=λH1 e Q q=>h H1 e Q λp g d n a b c=>q p g d n a b (k d g c)
end
theorem ab1:∀a b:List Int,PyData.eqvAll (a.map PyData.int) (b.map PyData.int)=decide (a=b)
 |[],[]=>by rw[awe,PyData.eqvAll];rfl
 |[],y::d=>by rw[awe,avj,PyData.eqvAll];rfl
 |x::c,[]=>by rw[awe,avj,PyData.eqvAll];rfl
 |x::c,y::d=>by
  rw[avj,avj,PyData.eqvAll,ab1 c d,PyData.eqv,awg];simp
def dT(l:List Int):PyData:=.tuple (l.map PyData.int)
theorem lay_ints:∀l:List Int,PyData.canLayAll0 (l.map PyData.int)=true/\PyData.depthAll (l.map PyData.int)=0
 |[]=>⟨by rw[awe,PyData.canLayAll0],by rw[awe,PyData.depthAll]⟩
 |x::xs=>by
  have a:=lay_ints xs;refine⟨?_,?_⟩
  .rw[avj,PyData.canLayAll0,PyData.canLay0,a.1];rfl
  .rw[avj,PyData.depthAll,PyData.depth,a.2];rfl
def rD(r:Rw):PyData:=.tuple [.int r.1,dT r.2]
def ahn(r:Rw):(rD r).canLay0=true/\(rD r).depth=2:=by
 have h:=lay_ints r.2;unfold rD dT;refine⟨?_,?_⟩
 .rw[PyData.canLay0,PyData.canLayAll0,PyData.canLayAll0,PyData.canLayAll0,PyData.canLay0,PyData.canLay0,h.1];rfl
 .rw[PyData.depth,PyData.depthAll,PyData.depthAll,PyData.depthAll,PyData.depth,PyData.depth,h.2];rfl
def rk(r:Rw):List Int:=r.1::r.2
def agA:PySem.W.rowLt [] []=false:=PyProof.Rows.lex_irrefl _
def akF(l m:List Int):PySem.W.rowLt [dT l] [dT m]=decide (l<m):=by
 have a:PySem.W.alike (dT l) (dT m)=true:=by unfold dT;rw[PySem.W.alike];exact PySem.W.alike_ints l m
 have b:PyData.eqv (dT l) (dT m)=decide (l=m):=by unfold dT;rw[PyData.eqv,ab1]
 have h:PySem.W.rowLt [dT l] [dT m]=if PyData.eqv (dT l) (dT m)=true then PySem.W.rowLt [] [] else PySem.W.dataLt (dT l) (dT m):=PySem.W.dataLt_cons a [] []
 rw[h,b,agA];by_cases c:l=m
 .rw[if_pos (decide_eq_true c),c];exact(decide_eq_false (List.lt_irrefl _)).symm
 .rw[if_neg (by rw[awu];exact c)];show PySem.W.dataLt (.tuple (l.map PyData.int)) (.tuple (m.map PyData.int))=_;rw[PySem.W.dataLt_tuple];exact PySem.W.dataLt_ints l m
def acV(x y:Int)(a b:List PyData)(l m:List Int)(h:PySem.W.rowLt a b=decide (l<m)):PySem.W.rowLt (.int x::a) (.int y::b)=decide (x::l<y::m):=by
 have d:PySem.W.alike (.int x) (.int y)=true:=by rw[PySem.W.alike]
 have e:PySem.W.rowLt (.int x::a) (.int y::b)=if PyData.eqv (.int x) (.int y)=true then PySem.W.rowLt a b else PySem.W.dataLt (.int x) (.int y):=PySem.W.dataLt_cons d a b
 rw[e,h,PySem.W.dataLt_int,PyData.eqv];by_cases c:x=y
 .subst c;rw[if_pos (by simp),awg,awu,awu,List.cons_lt_cons_iff];constructor
  .exact λk=>Or.inr ⟨rfl,k⟩
  .rintro(k|k)
   .omega
   .exact k.2
 .rw[if_neg (by simpa using c),awg,awu,awu,List.cons_lt_cons_iff];constructor
  .exact Or.inl
  .rintro(k|k)
   .exact k
   .exact absurd k.1 c
def anx(a b:Rw):PySem.W.dataLt (rD a) (rD b)=decide (rk a<rk b):=by unfold rD;rw[PySem.W.dataLt_tuple];exact acV _ _ _ _ _ _ (akF a.2 b.2)
def YX(a b:Rw):PySem.W.alike (rD a) (rD b)=true:=by unfold rD dT;rw[PySem.W.alike,PySem.W.alikeAll,PySem.W.alikeAll,PySem.W.alike,PySem.W.alike,PySem.W.alike_ints,PySem.W.alikeAll];rfl
theorem fK.map{d g:Type}{P:V->g->Prop}(f:d->g){c:List V}{L:List d}(h:fK (λv x=>P v (f x)) c L):fK P c (L.map f):=by
 refine⟨by rw[avs,h.1],λi v x a b=>?_⟩;rw[avy]at b;let⟨y,j,e⟩:=avU.mp b
 rw[<-e];exact h.2 i v y a j
def agz{a b:Rw}(h:rk a=rk b):a=b:=by unfold rk at h;injection h with c d;exact Prod.ext c d
def Zk(S:List Rw):Prop:=S.Pairwise λa b=>rk a<rk b
theorem afZ:∀{S T:List Rw},Zk S->Zk T->(∀r,r∈S↔r∈T)->S=T
 |[],[],_,_,_=>rfl
 |[],t::T,_,_,h=>absurd ((h t).mpr avl) (by simp)
 |s::S,[],_,_,h=>absurd ((h s).mp avl) (by simp)
 |s::S,t::T,k,l,h=>by
  let⟨a,d⟩:=List.pairwise_cons.mp k
  let⟨b,f⟩:=List.pairwise_cons.mp l
  have e:s=t:=by
   rcases avw.mp ((h s).mp avl) with e|m
   .exact e
   .rcases avw.mp ((h t).mpr avl) with i|c
    .exact i.symm
    .exact absurd (b s m) (List.lt_asymm (a t c))
  subst e;have g:∀{L:List Rw},(∀r∈L,rk s<rk r)->s∉L:=λj m=>List.lt_irrefl _ (j s m);rw[afZ d f λr=>?_];constructor
  .intro m;rcases avw.mp ((h r).mp (avk _ m)) with e|c
   .rw[e]at m;exact absurd m (g a)
   .exact c
  .intro m;rcases avw.mp ((h r).mpr (avk _ m)) with e|c
   .rw[e]at m;exact absurd m (g b)
   .exact c
def Oo(a b:Rw):PySem.W.dataLe false rD a b=decide (rk a<=rk b):=by
 show(!PySem.W.dataLt (rD b) (rD a))=_
 rw[anx,awg,avB,decide_eq_false_iff_not,awu];exact List.not_lt
def ahA{f g:Type}{R:f->g->Prop}{as e:List f}(p:as.Perm e):∀{a:List g},PySem.W.EachIs R as a->∃b,b.Perm a/\PySem.W.EachIs R e b:=by
 induction p with
 |nil=>
  intro a h;cases h;exact⟨[],List.Perm.refl _,.nil⟩
 |cons x _ s=>
  intro a h;cases h with
  |cons r t=>
   let⟨b,o,q⟩:=s t
   exact⟨_::b,o.cons _,.cons r q⟩
 |swap x y l=>
  intro a h;cases h with
  |cons r t=>
   cases t with
   |cons u v=>exact⟨_,List.Perm.swap _ _ _,.cons u (.cons r v)⟩
 |trans _ _ c d=>
  intro a h;let⟨b,i,j⟩:=c h
  let⟨n,k,m⟩:=d j
  exact⟨n,k.trans i,m⟩
section
variable{P:Program}{w:World}{A:Around}{E:Value->Shared->Prop}{s:Shared}
def RL{F:Type}{a:Addr}{D:Array (Int×Value)}{O:Nat}{t:SetTable}{enc:F->PyData}{bs:List F}{R:Value->F->Prop}{Q:Value->Shared->Prop}(hh:A.handled=none)(X:SetAt s.heap a D O t)(Z:t.fits D.size=true)(B:D.size<scanBound)(hr:Ris t.place.toList)
  (hl:w.params.followText "set-order"=true\/t.led=true) (e:PySem.W.EachIs (λv b=>R v b/\∃as,Reads s.heap v (enc b) as) (D.toList.map (·.2)) bs) (H:PySem.W.AllAlike (bs.map enc)) (hk:PySem.W.Sortable (bs.map enc)) (hu:∀b∈bs,A.units+2+(enc b).depth<cLine)
  (U:∀(C:Shared) (p:Addr) (out:List Value) (c:Nat) (n:List F),(∀b o,s.heap.get? b=some o->C.heap.get? b=some o)->C.gens=s.gens->C.os=s.os->s.heap.objs.size<=p->C.heap.get? p=some (seqObj "list" out.toArray c)->
   n.Perm bs->PySem.W.EachIs R out (n.mergeSort (PySem.W.dataLe false enc))->Q (.ref p) C) :
  wpAny (model P w) A (call (.builtin "sorted") [.ref a]) Q E s:=by
 refine Calls.call_function_entry kind_sorted plain_sorted entry_sorted (args_sorted1 _) ?_;unfold Builtin.«sorted»;refine wpAny_bind (m:=checkCount "sorted" 1 1 _) (wpAny_pure ?_)
 refine wpAny_bind (collect_set (A:=A.in1) hh X Z B hr hl λl f x g S o1 J=>?_);let⟨n,y,G⟩:=ahA J.symm e
 have lc:f.length=n.length:=G.length;have lb:n.length=bs.length:=y.length_eq;have lz:f.length<=sizeLine:=by rw[J.length_eq,avs,avS,sizeLine_eq];unfold scanBound at B;omega
 refine wpAny_bind (wpAny_newList ?_ lz);have u:(l.heap.push (seqObj "list" f.toArray 0)).get? l.heap.objs.size=some (seqObj "list" f.toArray 0):=Heap.get?_push_size _ rfl
 have i:∀b o,s.heap.get? b=some o->(l.heap.push (seqObj "list" f.toArray 0)).get? b=some o:=λb o q=>Heap.get?_push_of_some _ (x b o q)
 have L:PySem.W.AllAlike (n.map enc):=λd z M I=>H d ((y.map enc).mem_iff.mp z) M ((y.map enc).mem_iff.mp I);have sk:PySem.W.Sortable (n.map enc):=by
  rcases hk with k|k
  .exact .inl λd z=>k d ((y.map enc).mem_iff.mp z)
  .exact .inr λd z=>k d ((y.map enc).mem_iff.mp z)
 refine wpAny_bind (wpAny_holding (PySem.W.list_sort_data (s:={ l with heap:=l.heap.push (seqObj "list" f.toArray 0) }) (enc:=enc) u (G.mono λv b h=>h.1) (G.mono λv b ⟨_,as,r⟩=>⟨as,PySem.W.reads_keeps i r,λm=>?rd⟩) L sk #[] (λb Y=>?un) λout lo N=>?fin))
 case rd=>
  let⟨o,q⟩:=PyProof.On.reads_mem_get r _ m
  have j:l.heap.objs.size<s.heap.objs.size:=Heap.lt_size q;exact absurd g (Nat.not_le_of_lt j)
 case fin=>
  let⟨c,hc⟩:=sortedHeap_at (vs:=f) (out:=out.toArray) u
  refine wpAny_pure ⟨_,rfl,U _ l.heap.objs.size out c n (λb o q=>?_) S o1 g hc y N⟩;have j:=Heap.lt_size (x b o q)
  show(sortedHeap (l.heap.push (seqObj "list" f.toArray 0)) l.heap.objs.size f out.toArray).get? b=some o
  rw[sortedHeap_old (avT j) (by rw[size_push'];exact av8 j)];exact i b o q
 case un=>
  have:=hu b (y.mem_iff.mp Y);show A.in1.units+1+_<_;have e1:A.in1.units=A.units+1:=rfl;omega
end
@[irreducible]def QD (w:World):List V->Hp->VK->Prop:=λc H Q=>∃(a:Addr) (S:Int->Bool) (n:Nat),c=[V.ref a]/\H a=some (SetO w a S n)/\
 ∀(b:List Int) (p:Addr),b.Pairwise (· < ·)->(∀k:Int,k∈b↔S k=true)->b.length=n->H p=none->Q (.ref p) (upd H p (.lst (b.map V.int)))
theorem YS:∀(out:List Value) (a:List Int),PySem.W.EachIs (λv (k:Int)=>∃b,v=Value.int k b) out a->Vals (a.map V.int) out
 |[],[],.nil=>.nil
 |_::out,k::a,.cons ⟨b,e⟩ t=>by
  subst e;exact .cons ⟨b,rfl⟩ (YS out a t)
def akv{c:List Int}(h:c.Pairwise λa b=>(PySem.W.dataLe false (λk:Int=>PyData.int k)) a b=true)(e:c.Nodup):c.Pairwise (· < ·):=by refine List.Pairwise.imp₂ (λa b d f=>?_) h e;rw[PySem.W.dataLe_int,awu]at d;omega
section
variable{X:Cx}
def ahE(hu:X.A.units+65<cLine)(hc:X.calm=true):CallR X (.builtin "sorted") (QD X.w):=by
 intro B s σ H vs us Q I r h;unfold QD at h;let⟨a,S,n,rfl,ha,q⟩:=h
 let⟨o,Y,ep,t,ho,M,hd,g,nd,hm,R,hf,T,hr,hl⟩:=setO_get I ha
 rw[Vals.ref1 r];have Z:∀l:List (Int×Value),(∀e∈l,GoodE e)->PySem.W.EachIs (λv (k:Int)=>(∃G,v=Value.int k G)/\∃as,Reads s.heap v (PyData.int k) as) (l.map (·.2)) (l.map keyOf):=by
  intro l
  induction l with
  |nil=>exact λ_=>.nil
  |cons e l ih=>
   intro F;let⟨k,G,E,h2⟩:=F e avl
   have U:keyOf e=k:=by unfold keyOf;rw[E]
   refine .cons ?_ (ih λx hx=>F x (avk _ hx));rw[U];exact⟨⟨G,E⟩,[],by show Reads s.heap e.2 (PyData.int k) [];rw[E];exact .int k G⟩
 refine RL (enc:=λk:Int=>PyData.int k) (I.ok.hd hc) ⟨o,ho,M.1,hd⟩ hf R hr hl (Z Y.toList g) (awm λx y=>by rw[PySem.W.alike]) (PySem.W.Sortable.others λx=>⟨(λz=>by cases z),(λxs z=>by cases z)⟩) (λk _=>by rw[PyData.depth];omega) λd p out c D k g' o' N F O P=>?_;have mp:=awf D (PySem.W.dataLe false (λk:Int=>PyData.int k));have u:(D.mergeSort (PySem.W.dataLe false (λk:Int=>PyData.int k))).Nodup:=(mp.trans O).nodup_iff.mpr nd;have C:=av9 (le:=PySem.W.dataLe false (λk:Int=>PyData.int k)) (λa b c E h2=>by rw[PySem.W.dataLe_int,awu]at *;omega) (λa b=>by rw[PySem.W.dataLe_int,awb,awu,awu];omega) D;generalize D.mergeSort (PySem.W.dataLe false (λk:Int=>PyData.int k))=f at mp u C P;have hv:Vals (f.map V.int) out:=YS out f P;have m:f.length=n:=by rw[mp.length_eq,O.length_eq,avs,avS,T]
 have j:(f.map V.int).length<=sizeLine:=by rw[avs,m,<-T,sizeLine_eq];unfold scanBound at R;omega
 have i:H p=none:=I.hok.fresh N;have J:Inv X B σ (upd H p (.lst (f.map V.int))) { s with heap:=d.heap,gens:=d.gens,drawn:=d.drawn,toks:=d.toks }:=
  I.call (ch:=[]) (Un.laid k N i) (I.hok.laid k N ⟨j,out,c,hv,F⟩) (by rw[g'];exact I.bare) (λ_ z=>nomatch z)
 have L:d={ s with heap:=d.heap,gens:=d.gens,drawn:=d.drawn,toks:=d.toks }:=by cases d;cases s;cases o';rfl
 rw[L];exact⟨.ref p,_,J,rfl,q f p (akv C u) (λk=>by rw[(mp.trans O).mem_iff,hm]) m i⟩
def aod(w:World)(D:Addr)(a:List Nat)(g:TG)(l:TT)(i:TE)(f:L2.St)(e:Hp->Prop)(x:V)(H:Hp):Prop:=
 g x (wipe f a) H λσ2 h=>wipe σ2 a=wipe f a/\l σ2 h λb c=>if b=true then i σ2 c λy d=>∃(k:Int) (S:Int->Bool) (n:Nat),y=.int k/\d D=some (SetO w D S n)/\n+1<scanBound/\e (upd d D (SetO w D (λj=>S j || decide (j=k)) (if S k=true then n else n+1))) else e c
def amW(w:World)(j:TI)(g:TG)(f:TT)(e:TE)(h:List Nat):TE:=λσ H Q=>j σ H λJ b=>∀D,b D=none->∃W:Nat->Nat->Hp->Prop,(∃m,W 0 m (upd b D (SetO w D (λ_=>false) 0)))/\
 ∀i m H,W i m H->(J.stop i H/\Q (.ref D) H)\/(J.go i H/\∃c:Hp->Prop,(∀a,c a->∃d,d<m/\W (i+1) d a)/\∀x a,J.yld i H x a->aod w D h g f e σ c x a)
def add_int{a:List (Addr×Obj)}{g:L2.St}{H:Hp}{s:Shared}{E:Value->Shared->Prop}{D:Addr}{S:Int->Bool}{n:Nat}{k:Int}{v:Value}{Q:Value->Shared->Prop}(I:Inv X a g H s)(f:H D=some (SetO X.w D S n))(d:n+1<scanBound)(m:RelV (.int k) v)
  (q:∀t,Inv X a g (upd H D (SetO X.w D (λj=>S j || decide (j=k)) (if S k=true then n else n+1))) t->Q .none t):wpAny (model X.prog X.w) X.A (call (.builtin "set.add") [.ref D,v]) Q E s:=by
 let⟨x,rfl⟩:=m
 refine setR_add (setO_get I f) d λh' p c=>q _ (I.write (e:=D) (t':=s.toks+1) (by rw[f];trivial) (.inl rfl) (λb u h l=>(p.2 b h).trans l) ?_ (setO_new c));have ⟨o,_,_,_,i,_⟩:=c;exact⟨o,i⟩
def aoZ{elt tg L:Expr}{ifs:List Expr}{a:Scope}{R:List (PySem.Str×Nat)}{pos:Pos}{wi:TI}{g:TG}{tt:TT}{te:TE}(hc:X.calm=true)(hN:X.N.Nodup)(hi:PI X tg L wi)(ok:BlkOk X.N X.env.scope a R)
  (hg:∀(t:Shared) (G:Hp) (C:Addr) (cl:List (PySem.Str×Addr)) (f:List Addr),PG (X.blk t G a (compEnvC a cl C X.env) f) tg g) (ht:∀(t:Shared) (G:Hp) (C:Addr) (cl:List (PySem.Str×Addr)) (f:List Addr),PTs (X.blk t G a (compEnvC a cl C X.env) f) ifs tt)
  (he:∀(t:Shared) (G:Hp) (C:Addr) (cl:List (PySem.Str×Addr)) (f:List Addr),PE (X.blk t G a (compEnvC a cl C X.env) f) elt te) (hs:∀x,foldedSetIterable L X.env x=pure x:=by intro _;rfl) :
  PE X (.SetComp elt [⟨tg,L,ifs,0⟩] a pos) (amW X.w wi g tt te (R.map (·.2))):=by
 refine⟨λpins s σ H Q I h=>?_⟩;rw[PpSet.eval_SetComp];have cells:∀y∈a.names,y.2=.free->∃c,X.env.cells.lookup y.1=some c:=λy hy e=>(ok.free y hy e).elim (λk=>I.ok.has _ (.inl k)) (λk=>I.ok.has _ (.inr k));refine wpAny_comprehension_free rfl hs (closure_ok cells) ok.kind (λy hy e=>by rw[ok.uniq y hy,e]) (thn (hi.run pins s σ H _ I h) λ_ _ hx=>thn hx λitv U h0=>?_);let⟨it,f,tn,J,G0,rfl,I0,T,st0,f0,q⟩:=h0
 refine PpSet.newSet_ok (newEnv_comp ?_)
 -- the new set,at D
 obtain⟨D,hD⟩:∃D,D=U.heap.objs.size:=⟨_,rfl⟩;rw[<-hD];let⟨W,⟨m0,w0⟩,turn⟩:=q D (I0.hok.fresh (Nat.le_of_eq hD.symm))
 obtain⟨ob,hob⟩:∃ob:Obj,ob={ cls:=.type "set",dict:=none,data:=.set (List.toArray []) 0 (.fresh 0 0 (!X.w.params.followText "set-order")) }:=⟨_,rfl⟩
 rw[<-hob];obtain⟨d,P⟩:∃d:Shared,d={ U with heap:=U.heap.push ob }:=⟨_,rfl⟩;obtain⟨E,hG1⟩:∃E,E=upd G0 D (SetO X.w D (λ_=>false) 0):=⟨_,rfl⟩;rw[<-hG1]at w0;have grow:∀b o,U.heap.get? b=some o->d.heap.get? b=some o:=λb o e=>by rw[P];exact Heap.get?_push_of_some _ e
 have I1:Inv X pins σ E d:=by rw[P,hG1];refine I0.laid (t':=U.toks) (λb o e=>Heap.get?_push_of_some _ e) (Nat.le_of_eq hD.symm) ?_;rw[hD,hob];exact setO_new (setR_fresh X.w)
 have small:∀b∈f,b<U.heap.objs.size:=λb l=>by
  let⟨o,e,_⟩:=T.obj _ _ st0 b l
  exact Heap.lt_size e
 have f1:∀b∈f,FpOk X pins E b/\b<d.heap.objs.size:=λb l=>by
  have hlt:=small b l;refine⟨⟨?_,(f0 b l).2⟩,by rw[P];show b<(U.heap.push ob).objs.size;rw[Heap.size_push];exact av8 hlt⟩;rw[hG1,upd_ne (by rw[hD];exact avT hlt)];exact(f0 b l).1
 have st1:tn 0 d.heap:=T.keep _ _ _ st0 λb _ o e=>grow b o e;have I2:=block_start I1 ok hN f1;have pg:=hg d E d.heap.objs.size (cellsFrom (d.heap.objs.size+1) a.names (cloFrom X.env.cells a.names [])) f;have pt:=ht d E d.heap.objs.size (cellsFrom (d.heap.objs.size+1) a.names (cloFrom X.env.cells a.names [])) f;have pe:=he d E d.heap.objs.size (cellsFrom (d.heap.objs.size+1) a.names (cloFrom X.env.cells a.names [])) f;have none1:∀b∈f,E b=none:=λb l=>(f1 b l).1.1;rw[show({ U with heap:=U.heap.push ob }:Shared)=d from P.symm];obtain⟨M,hce⟩:∃M,M=compEnvC a (cellsFrom (d.heap.objs.size+1) a.names (cloFrom X.env.cells a.names [])) d.heap.objs.size X.env:=⟨_,rfl⟩;rw[<-hce]at I2 pg pt pe;have cL:M.locals=d.heap.objs.size:=by rw[hce];rfl
 obtain⟨t2,ht2⟩:∃t2:Shared,t2={ d with heap:=pushCells (d.heap.push { cls:=.type "dict",data:=.dict (List.toArray []) }) a.names }:=⟨_,rfl⟩
 rw[<-ht2]at I2;have st2:tn 0 t2.heap:=T.keep _ _ _ st1 λb _ o e=>by rw[ht2];exact pushCells_keeps _ _ _ _ (Heap.get?_push_of_some _ e)
 have F:∀{σ':L2.St} {B:Hp} {O:Shared},Inv (X.blk d E a M f) [] σ' B O->(∀b∈f,B b=none)->∀b∈f,FpOk (X.blk d E a M f) [] B b:=λI' hn b l=>
  ⟨hn b l,(I'.ok.exf b l).1,I'.ok.exfs b l,.inl l,λx c e=>(I'.ok.exf b l).2 x c e,λp hp=>absurd (show p∈([]:List (Addr×Obj))++[] from hp) (by simp)⟩
 have Y:codeAny (model X.prog X.w) X.A (.compLoop (.SetComp elt [⟨tg,L,ifs,0⟩] a pos) 0 (.ref it) (.ref D) M) (compPost (model X.prog X.w) X.A X.xe none (EP X pins σ Q) (.ref D) d.heap.objs.size) t2:=by
  refine PpSet.compLoopS_any (λn O=>∃i B,Inv (X.blk d E a M f) [] (wipe σ (R.map (·.2))) B O/\tn i O.heap/\(∀b∈f,B b=none)/\W i n B) ?_ m0 ⟨0,E,I2,st2,none1,w0⟩;rintro n t3 ⟨i,G3,I3,st3,n3,w3⟩;rcases turn i n G3 w3 with⟨stop,fin⟩|⟨go,Nx,hNx,step⟩
  .refine thnF (T.done (X.blk d E a M f) rfl rfl rfl hc i [] t3 _ G3 (λ_ _=>False) I3 (F I3 n3) st3 stop) λr t4 ⟨hr,I4⟩=>?_;subst hr;have I5:Inv X pins σ G3 t4:=I1.call' (ch:=f) I4.os I4.base I4.hok I4.bare λb l=>⟨(f1 b l).1.2.2.2.1,(f1 b l).1.2.1,(f1 b l).1.2.2.2.2.1,(f1 b l).1.2.2.2.2.2⟩;have nC:G3 d.heap.objs.size=none:=by rw[<-cL];exact I4.free
   let⟨m,hn,_⟩:=I4.loc
   have hn':t4.heap.Ns d.heap.objs.size m:=by rw[<-cL];exact hn
   let⟨a0,a1,_,a3,a4,a5⟩:=I1.fpOk (avE _) nC
   exact⟨m,hn',λh'' sb=>⟨.ref D,G3,I5.turned (t':=t4.toks) (λb o l e=>(sb.2 b l).trans e) a0 a1 a3 a4 a5,rfl,fin⟩⟩
  .refine thnF (T.item (X.blk d E a M f) rfl rfl rfl hc i [] t3 _ G3 (λ_ _=>False) I3 (F I3 n3) st3 go) λr t4 ⟨u,hr,h4⟩=>?_;subst hr;refine thnF h4 λ_ t5 ⟨x,G5,I5,r5,y5,st5,n5⟩=>?_;refine thnF (pg.run _ t5 _ G5 x u _ (I5.pinned (F I5 n5) (T.obj _ _ st5)) r5 (step x G5 y5)) λ_ t6 ⟨σ6,G6,I6,hw6,q6⟩=>?_;refine thnF (pt.run _ t6 σ6 G6 _ I6 q6) λb t7 ⟨G7,I7,q7⟩=>?_;have Z:∀{O:Shared} {B:Hp},Inv (X.blk d E a M f) ([]++pinsAt f t5.heap) σ6 B O->Nx B->∃m,m<n/\∃i B,Inv (X.blk d E a M f) [] (wipe σ (R.map (·.2))) B O/\tn i O.heap/\(∀b∈f,B b=none)/\W i m B:=λ{O B} I' nx=>by
    let⟨m',hm,w'⟩:=hNx B nx
    have pin:∀b∈f,∀o,t5.heap.get? b=some o->O.heap.get? b=some o/\B b=none:=λb l o e=>
     let z:=I'.pin (b,o) (avZ _ (avZ _ (mem_pinsAt l e)))
     ⟨z.1,z.2.1⟩
    refine⟨m',hm,i+1,B,(I'.unpinned (pins:=[])).weak (by rw[<-hw6,wipe_length]) (λj v e=>?_),T.keep _ _ _ st5 λb l o e=>(pin b l o e).1,λb l=>?_,w'⟩
    .rw[<-hw6]at e;exact(wipe_some e).1
    .let⟨o,e,_⟩:=T.obj _ _ st5 b l
     exact(pin b l o e).2
   cases b with
   |false=>
    simp![avR,if_false]at q7 |-
    exact Z I7 q7
   |true=>
    simp![if_true]at q7 |-
    refine thnF (pe.run _ t7 σ6 G7 _ I7 q7) λz t8 ⟨yv,G8,I8,r8,k,S,c,ey,hD8,hz8,nx⟩=>?_;subst ey;exact add_int (X:=X.blk d E a M f) I8 hD8 hz8 r8 λt9 I9=>Z I9 nx
 have done:=PpSet.codeAny_compStart_set Y (T.self X.A 0 _ _ _ st2 Y);rw[hce,ht2]at done;exact done
end
section
variable{P:Program}{w:World}{A:Around}{E:Value->Shared->Prop}{s:Shared}
def nk(r:Rw):NestedKey:=.tup [.num r.1,.tup (r.2.map .num)]
theorem abM:∀a b:List Int,a.map NestedKey.num=b.map NestedKey.num->a=b
 |[],[],_=>rfl
 |[],_::_,h=>by cases h
 |_::_,[],h=>by cases h
 |x::a,y::b,h=>by
  rw[avj,avj]at h;injection h with c d;injection c with c;rw[c,abM a b d]
def ahH{a b:Rw}(h:nk a=nk b):a=b:=by unfold nk at h;injection h with h;injection h with c h;injection h with d _;injection c with c;injection d with d;exact Prod.ext c (abM _ _ d)
theorem Wq:∀l:List Int,NestedKey.depthAll (l.map .num)=0
 |[]=>by rw[awe,NestedKey.depthAll]
 |x::l=>by
  rw[avj,NestedKey.depthAll,NestedKey.depth,Wq l];rfl
def ahS(r:Rw):(nk r).depth=2:=by unfold nk;rw[NestedKey.depth,NestedKey.depthAll,NestedKey.depthAll,NestedKey.depthAll,NestedKey.depth,NestedKey.depth,Wq];rfl
def oR(P:Program)(w:World):HeapKind P w Rw where
 is:=λh r a=>(nestedKind P w).is h (nk r) a
 hash:=λr=>(nestedKind P w).hash (nk r)
 draws:=λr=>(nestedKind P w).draws (nk r)
 room:=(nestedKind P w).room
 inj:=λhx hy=>ahH ((nestedKind P w).inj hx hy)
 keeps:=λx ho hd hs=>(nestedKind P w).keeps x ho hd hs
 pyHash:=λhu hk h=>(nestedKind P w).pyHash hu hk h
 eqBool:=λ{A E s x y a b Q} hu hx hy h=>(nestedKind P w).eqBool hu hx hy (by
  have e:decide (nk x=nk y)=decide (x=y):=by rw[decide_eq_decide];exact⟨ahH,λh=>by rw[h]⟩
  rw[e];exact h)
 quiet:=λhk h=>(nestedKind P w).quiet hk h
abbrev RI(h:Heap)(r:Rw)(a:Addr):Prop:=NestedIs h (nk r) (.ref a)/\(nk r).depth<=8
def XQ{h d:Heap}{r:Rw}{a:Addr}(x:RI h r a)(k:∀c o,h.get? c=some o->d.get? c=some o):RI d r a:=⟨NestedIs.at (λb o _ _ e _=>k b o e) _ _ x.1,x.2⟩
def abS{h c:Heap}{r:Rw}{a d:Addr}{o:Obj}{i:Array (Int×Value)}{g:Nat}{t:SetTable}(x:RI h r a)(k:h.get? d=some o)(j:o.data=.set i g t)(l:Heap.SameBut d h c):RI c r a:=by
 refine⟨NestedIs.at (λb ob m n f hc=>(l.2 b λe=>?_).trans f) _ _ x.1,x.2⟩;subst e
 obtain rfl:ob=o:=avA (f.symm.trans k)
 rw[j]at hc;cases hc
def Lg{h:Heap}{i:Int}{v:Value}(x:NestedIs h (.num i) v)(n:Nat):ofAClassStatement n v=pure false/\hashByValue n v=pure true:=by
 cases x with
 |bool _=>cases n<;>exact⟨rfl,rfl⟩
 |int _ t=>cases n<;>exact⟨rfl,rfl⟩
theorem aa0{h:Heap}:∀(l:List Int) (b:List Value),NestedAll h (l.map .num) b->∀v∈b,∃i,NestedIs h (.num i) v
 |[],_,x,v,a=>by
  cases x;cases a
 |i::l,_,x,v,a=>by
  rw[avj]at x;cases x with
  |cons c d=>
   rcases avw.mp a with e|a
   .exact⟨i,by rw[e];exact c⟩
   .exact aa0 l _ d v a
def adY{n:Nat}{a:Addr}{o:Obj}{e:Array Value}{m:Nat}(f:s.heap.get? a=some o)(hc:o.cls=.type "tuple")(i:o.data=.seq e m)(j:∀v∈e.toList,∀(E:Value->Shared->Prop) (Q:Bool->Shared->Prop),Q false s->wpAny (model P w) A (ofAClassStatement n v) Q E s){Q:Bool->Shared->Prop}(q:Q false s) :
  wpAny (model P w) A (ofAClassStatement (n+1) (.ref a)) Q E s:=by
 have g:s.TypeIs (.ref a) "tuple":=⟨o,f,hc⟩
 unfold ofAClassStatement;refine wpAny_bind (wpAny_typeOf g ?_)
 dsimp only
 have c:(("tuple" : String)=="tuple")=true:=#[()]
 simp![c,if_true,Bool.not_true,avR,if_false]
 try refine wpAny_bind (wpAny_pure ?_)
 try simp![Bool.not_true,avR,if_false]
 refine wpAny_bind (wpAny_seqItems f i ?_)
 dsimp only
 refine wpAny_bind ?_;rw[<-Array.forIn_toList];refine wpAny_forIn_list _ (λleft r u=>r.1=none/\u=s/\∀v∈left,v∈e.toList) _ ?_ ?_ _ _ ⟨rfl,rfl,λv l=>l⟩
 .rintro v left r u ⟨d,rfl,b⟩;refine wpAny_bind (j v (b v avl) _ _ ?_);simp![avR,if_false];exact wpAny_pure ⟨rfl,rfl,λy p=>b y (avk _ p)⟩
 .rintro⟨r1,t⟩ u ⟨d,rfl,_⟩;simp only at d;subst d;exact wpAny_pure q
def abg{n:Nat}{a:Addr}{o:Obj}{c:Array Value}{m:Nat}(e:s.heap.get? a=some o)(hc:o.cls=.type "tuple")(g:o.data=.seq c m)(i:∀v∈c.toList,∀(E:Value->Shared->Prop) (Q:Bool->Shared->Prop),Q true s->wpAny (model P w) A (hashByValue n v) Q E s){Q:Bool->Shared->Prop}(q:Q true s) :
  wpAny (model P w) A (hashByValue (n+1) (.ref a)) Q E s:=by
 have f:s.TypeIs (.ref a) "tuple":=⟨o,e,hc⟩
 unfold hashByValue;refine wpAny_bind (wpAny_specialOf f PySem.F.slot_tuple_hash.lookup ?_);show wpAny _ _ (seqItems? (.ref a) >>= _) _ _ s;refine wpAny_bind (wpAny_seqItems e g ?_);refine wpAny_bind ?_;show wpAny _ _ (forIn c _ _) _ _ s;rw[<-Array.forIn_toList];refine wpAny_forIn_list _ (λleft r u=>r.1=none/\u=s/\∀v∈left,v∈c.toList) _ ?_ ?_ _ _ ⟨rfl,rfl,λv j=>j⟩
 .rintro v left r u ⟨d,rfl,b⟩;refine wpAny_bind (i v (b v avl) _ _ ?_);simp![Bool.not_true,avR,if_false];exact wpAny_pure ⟨rfl,rfl,λy k=>b y (avk _ k)⟩
 .rintro⟨r1,l⟩ u ⟨d,rfl,_⟩;simp only at d;subst d;exact wpAny_pure q
def KQ{r:Rw}{a:Addr}(x:RI s.heap r a):(∀{Q:Bool->Shared->Prop},Q false s->wpAny (model P w) A (ofAClassStatement 8 (.ref a)) Q E s)/\∀{Q:Bool->Shared->Prop},Q true s->wpAny (model P w) A (hashByValue 8 (.ref a)) Q E s:=by
 let⟨x,_⟩:=x
 unfold nk at x;cases x with
 | @tup _ o D m _ C hc B x=>
  have c:∀v∈D.toList,(∃i,NestedIs s.heap (.num i) v)\/∃b,v=.ref b/\∃o p k,s.heap.get? b=some o/\o.cls=.type "tuple"/\o.data=.seq p k/\∀u∈p.toList,∃i,NestedIs s.heap (.num i) u:=by
   generalize D.toList=l at x;cases x with
   |cons L x=>
    cases x with
    |cons M x=>
     cases x;intro v d;rcases avw.mp d with e|d
     .exact Or.inl ⟨_,by rw[e];exact L⟩
     .have e:=avp.mp d;cases M with
      |tup f g h j=>exact Or.inr ⟨_,e,_,_,_,f,g,h,aa0 _ _ j⟩
  refine⟨λq=>adY C hc B (λv d F H n=>?_) q,λq=>abg C hc B (λv d F H n=>?_) q⟩
  .rcases c v d with⟨i,y⟩|⟨b,rfl,J,p,k,f,g,h,j⟩
   .rw[(Lg y 7).1];exact wpAny_pure n
   .refine adY f g h (λu t G I z=>?_) n;let⟨i,y⟩:=j u t
    rw[(Lg y 6).1];exact wpAny_pure z
  .rcases c v d with⟨i,y⟩|⟨b,rfl,J,p,k,f,g,h,j⟩
   .rw[(Lg y 7).2];exact wpAny_pure n
   .refine abg f g h (λu t G I z=>?_) n;let⟨i,y⟩:=j u t
    rw[(Lg y 6).2];exact wpAny_pure z
end
abbrev Ent:Type:=Addr×Rw
section
variable{P:Program}{w:World}{A:Around}{E:Value->Shared->Prop}{s:Shared}
def ents(a:Rw->Int)(L:List Ent):List (Int×Value):=L.map λp=>(a p.2,Value.ref p.1)
structure sE(hf:Rw->Int)(w:World)(h:Heap)(a:Addr)(L:List Ent)(es:Array (Int×Value))(ep:Nat)(t:SetTable):Prop where
 ob:∃o,h.get? a=some o/\o.ExactSet/\o.data=.set es ep t
 en:es.toList=ents hf L
 tab:TabOk t (L.map λp=>hf p.2)
 nd:(L.map Prod.snd).Nodup
 ky:∀p∈L,RI h p.2 p.1
 pl:t.plain=true
 ld:w.params.followText "set-order"=true\/t.led=true
 free:L.length*5<t.mask*3
 few:L.length<=76
variable{hf:Rw->Int}{a:Addr}{L:List Ent}{es:Array (Int×Value)}{ep:Nat}{t:SetTable}
def Bq(h:es.toList=ents hf L):es.size=L.length:=by rw[<-avS,h];exact avs _
def Rb(h:es.toList=ents hf L){i:Nat}{p:Ent}(g:L[i]?=some p):es[i]?=some (hf p.2,Value.ref p.1):=by rw[<-av0,h];unfold ents;rw[avy,g];rfl
def fits_of(b:t.place.size=es.size)(c:t.dummies=(List.toArray []))(d:es.size<=t.mask):t.fits es.size=true:=by unfold SetTable.fits SetTable.fill;rw[c,avh,beq_iff_eq,awu];exact⟨b,by show t.place.size+0<=t.mask;omega⟩
theorem sE.fits(R:sE hf w s.heap a L es ep t):t.fits es.size=true:=by have l1:=Bq R.en;have b:=R.tab.sz;rw[avs]at b;have c:=R.free;exact fits_of #[] R.tab.dm #[]
def sE.sound(R:sE hf w s.heap a L es ep t):¬t.gaveWay=true:=by unfold SetTable.gaveWay;rw[mask_odd R.tab.mok];decide
def aom{r:Rw}{b:Addr}{Q:Bool->Shared->Prop}(i:RI s.heap r b){j:List Value}(k:∀y∈j,∃q c,y=Value.ref c/\RI s.heap q c)(q:Q false s):wpAny (model P w) A (searchCouldBeSeen (.ref b) j) Q E s:=by
 unfold searchCouldBeSeen;refine wpAny_bind ?_;refine wpAny_forIn_list _ (λleft r u=>r.1=none/\u=s/\∀y∈left,∃q c,y=Value.ref c/\RI s.heap q c) _ ?_ ?_ _ _ ⟨rfl,rfl,k⟩
 .rintro v left r u ⟨f,rfl,d⟩;let⟨l,c,rfl,hc⟩:=d v avl
  have e:∀y∈left,∃q c,y=Value.ref c/\RI u.heap q c:=λy m=>d y (avk _ m)
  dsimp only
  by_cases g:(b==c || (carriedByValue (.ref b)&&carriedByValue (.ref c)))=true
  .exact wp_if_pos g (wpAny_pure ⟨rfl,rfl,e⟩)
  .refine wp_if_neg g ?_;refine wpAny_bind ((oR P w).quiet i ?_);simp![Bool.not_true,avR,if_false];refine wpAny_bind ((oR P w).quiet hc ?_);simp![Bool.not_true,avR,if_false];refine wpAny_bind ((KQ i).1 ?_);simp![avR,if_false];refine wpAny_bind ((KQ hc).1 ?_);simp![avR,if_false];exact wpAny_pure ⟨rfl,rfl,e⟩
 .rintro⟨r1,n⟩ u ⟨f,rfl,_⟩;simp only at f;subst f;exact wpAny_pure q
abbrev vB(m:Nat)(h:Int)(c:Nat):SetTable.Probe:=nth m (runAt m (SetTable.bits h%(m+1)) (SetTable.bits h)) c
def ac6(m:Nat)(h:Int)(c:Nat):(vB m h c).dummy=none:=by
 have b:∀(n:Nat) (p:SetTable.Probe),p.dummy=none->(nth m p n).dummy=none:=by
  intro n
  induction n with
  |zero=>exact λp k=>k
  |succ n d=>
   intro p k;refine d (adv m p) ?_;unfold adv
   split<;>exact k
 exact b c _ rfl
def YK(m:Nat)(h:Int)(c d:Nat):nth m (vB m h c) d=vB m h (c+d):=(nth_add m c _ d).symm
def seek(R:sE hf w s.heap a L es ep t){x:Addr}{r:Rw}(hx:RI s.heap r x){h:Int}(hh:hf r=h)(hu:(oR P w).room A){N:Nat}(hN:N<10*SetTable.turns t.mask)(out:way t.mask (h) N∉t.place.toList)(Z:∀c,c<N->way t.mask (h) c∈t.place.toList){Q:SetFound->Shared->Prop}
  (yes:r∈L.map Prod.snd->Q (.there none) s) (no:r∉L.map Prod.snd->Q (.free (way t.mask (h) N) false) s) :
  ∀(f c:Nat) (st:Option SetTable.Probe),st.getD (t.probeStart (h))=vB t.mask (h) c->c<=N->N-c<f->
   (∀(i:Nat) (p:Ent),L[i]?=some p->p.2=r->∃d,c<=d/\d<N/\t.place.toList[i]?=some (way t.mask (h) d))->
   wpAny (model P w) A (setSearchFrom a (.ref x) (h) true f st) Q E s:=by
 intro f
 induction f with
 |zero=>exact λ_ _ _ _ G _=>absurd G (Nat.not_lt_zero _)
 |succ f ih=>
  intro c st H hc G left;let⟨o,ho,hex,hd⟩:=R.ob
  rw[setSearchFrom_succ];refine wpAny_bind (wpAny_setState_of ho hd R.fits ?_)
  dsimp only
  refine wp_if_neg R.sound ?_
  try refine wpAny_bind (wpAny_pure ?_)
  have b:∀d,(nth t.mask (vB t.mask h c) d).j=way t.mask h (c+d):=λd=>congrArg SetTable.Probe.j (YK t.mask h c d);have l:∀(i:Nat) (p:Ent),L[i]?=some p->(es[i]?.map (·.1)).getD 0=hf p.2:=λi p g=>by
   rw[Rb R.en g];rfl
  have I:=go_spec t R.tab.ris R.tab.dm (λi=>(es[i]?.map (·.1)).getD 0) h (10*SetTable.turns t.mask) (N-c) (vB t.mask h c) (ac6 _ _ _) #[] (λd S=>by rw[b];exact Z (c+d) #[]) (by rw[b,awn hc];exact out);rcases I with⟨d,i,S,U,hhi,v,z⟩|⟨v,z⟩
  .have m:t.probe (λi=>(es[i]?.map (·.1)).getD 0) h (st.getD (t.probeStart h))=some (.candidate (way t.mask h (c+d)) i (vB t.mask h (c+(d+1)))):=by
    rw[H,<-b,<-YK];exact z
   rw[m]
   dsimp only
   rw[b]at U;have X:i<L.length:=by have k1:=(avf.mp U).1;have k2:=R.tab.sz;rw[avs]at k2;rw[avS]at k1;omega
   obtain⟨p,J⟩:∃p,L[i]?=some p:=⟨_,avi X⟩;have pm:=avo J;have go:wpAny (model P w) A (searchRest a (.ref x) h true f es t (way t.mask h (c+d)) i (vB t.mask h (c+(d+1)))) Q E s:=by
    unfold searchRest;rw[Rb R.en J]
    dsimp only
    refine wpAny_bind (wpAny_holding ((oR P w).eqBool hu (R.ky p pm) hx ?_));refine wpAny_bind (wpAny_setState_of ho hd R.fits ?_)
    dsimp only
    by_cases same:p.2=r
    .exact wp_if_pos (by simp[same]) (wpAny_pure (yes (avr.mpr ⟨p,pm,same⟩)))
    .refine wp_if_neg (by simp[same]) ?_
     try refine wpAny_bind (wpAny_pure ?_)
     rw[sameMem]
     dsimp only
     have u:t.slot (way t.mask h (c+d))=.live i:=slot_live R.tab.ris U;simp![if_true,u,Rb R.en J];refine wpAny_bind (wpAny_isSame_ref_self (wpAny_bind (wpAny_pure ?_)));simp![if_true];refine wp_if_neg (by simp[same]) ?_;refine ih (c+(d+1)) _ rfl #[] #[] λq F g0 D=>?_;let⟨C,M,a2,B⟩:=left q F g0 D
     refine⟨C,?_,a2,B⟩;by_cases c1:C<c+d
     .exact absurd ((l q F g0).trans ((congrArg hf D).trans hh)) (v (C-c) q #[] (by rw[b,awn M];exact B))
     .by_cases c2:C=c+d
      .rw[c2]at B;have n:=slot_live R.tab.ris B;rw[u]at n;injection n with ei;rw[<-ei,J]at g0;exact absurd ((congrArg Prod.snd (avA g0)).trans D) same
      .omega
   by_cases hl:t.led=true
   .refine wp_if_neg (by simp[hl]) ?_
    try refine wpAny_bind (wpAny_pure ?_)
    exact go
   .refine wp_if_pos (by simp[hl]) ?_;refine wpAny_bind (aom hx (λy hy=>?_) ?_)
    .let⟨e,he,ee⟩:=avr.mp hy
     have h1:e∈es/\e.1=h:=by simpa using he
     have h2:e∈es.toList:=by simpa using h1.1
     rw[R.en]at h2;let⟨p2,Y,O⟩:=avr.mp h2
     exact⟨p2.2,p2.1,by rw[<-ee,<-O],R.ky p2 Y⟩
    .refine wp_if_neg #[()] ?_
     try refine wpAny_bind (wpAny_pure ?_)
     exact go
  .have m:t.probe (λi=>(es[i]?.map (·.1)).getD 0) h (st.getD (t.probeStart h))=some (.empty (way t.mask h N) none):=by
    have O:way t.mask h N=(nth t.mask (vB t.mask h c) (N-c)).j:=by rw[b,awn hc]
    rw[H,O];exact z
   rw[m]
   dsimp only
   refine wpAny_pure (no λhm=>?_);let⟨F,m0,D⟩:=avr.mp hm
   let⟨q,W,e1⟩:=List.getElem_of_mem m0
   have g0:L[q]?=some F:=by rw[avi W,e1]
   let⟨C,M,a2,B⟩:=left q F g0 D
   exact v (C-c) q #[] (by rw[b,awn M];exact B) ((l q F g0).trans ((congrArg hf D).trans hh))
def look(R:sE hf w s.heap a L es ep t){x:Addr}{r:Rw}(q:RI s.heap r x)(o:(oR P w).room A){Q:SetFound->Shared->Prop}(yes:r∈L.map Prod.snd->Q (.there none) s)
  (no:∀N,r∉L.map Prod.snd->way t.mask (hf r) N∉t.place.toList->(∀c,c<N->way t.mask (hf r) c∈t.place.toList)->Q (.free (way t.mask (hf r) N) false) s):wpAny (model P w) A (setSearch a (.ref x) (hf r) true) Q E s:=by
 have f:=R.free;let⟨N,m,out,d⟩:=R.tab.first (by rw[avs];omega) (hf r)
 have j:N<100000:=by
  have:10*SetTable.turns t.mask<=1420:=by unfold SetTable.turns;rcases R.tab.mok with e|e|e<;>omega
  omega
 unfold setSearch;refine seek R q rfl o m out d yes (λhn=>no N hn out d) 100000 0 none rfl (avX _) #[] λi p g e=>?_;have n:(L.map λp=>hf p.2)[i]?=some (hf r):=by rw[avy,g,<-e];rfl
 have b:i<t.place.toList.length:=by have v:=(avf.mp g).1;have u:=R.tab.sz;rw[avs]at u;rw[avS];omega
 let⟨c,hc,l⟩:=R.tab.before out n (avi b)
 exact⟨c,avX _,hc,by rw[avi b,l]⟩
end
section
variable{P:Program}{w:World}{A:Around}{E:Value->Shared->Prop}{s:Shared}{hf:Rw->Int}{a:Addr}{L:List Ent}{es:Array (Int×Value)}{ep:Nat}{t:SetTable}
def ahR(L:List Ent)(n:Nat)(x:Addr)(r:Rw):ents hf (L.take n++(x,r)::L.drop n)=(ents hf L).take n++(hf r,Value.ref x)::(ents hf L).drop n:=by unfold ents;rw[avN,avj,List.map_take,List.map_drop]
def range_all(L:List Ent):(List.range L.length).filterMap (λi=>L[i]?)=L:=by
 have part:∀n,n<=L.length->(List.range n).filterMap (λi=>L[i]?)=L.take n:=by
  intro n
  induction n with
  |zero=>exact λ_=>rfl
  |succ n b=>
   intro c;rw[List.range_succ,List.filterMap_append,b #[],List.take_add_one,avi (show n<L.length by omega)];congr 1;rw[List.filterMap_cons_some (avi (show n<L.length by omega))];rfl
 rw[part _ (avE _),List.take_length]
def ag6(h:es.toList=ents hf L){b:Array Nat}(e:b.toList.Perm (List.range L.length)) :
  ∃M:List Ent,(b.filterMap (es[·]?)).toList=ents hf M/\M.Perm L/\(M.map λp=>hf p.2)=b.toList.map λi=>(es.map (·.1)).getD i 0:=by
 have c:∀i∈b.toList,i<L.length:=λi d=>List.mem_range.mp (e.mem_iff.mp d);refine⟨b.toList.filterMap (λi=>L[i]?),?_,?_,?_⟩
 .have f:(b.filterMap (es[·]?)).toList=b.toList.filterMap (λi=>es[i]?):=by
   first | rw[Array.toList_filterMap] | simp
  rw[f];unfold ents;rw[List.map_filterMap];congr 1;funext i;rw[<-av0,h];unfold ents;rw[avy]
 .have:=e.filterMap (λi=>L[i]?);rw[range_all]at this;exact this
 .generalize b.toList=l at c
  induction l with
  |nil=>rfl
  |cons i l m=>
   have d:=c i avl;have g:(es.map (·.1))[i]?=some (hf (L[i]).2):=by rw[Array.getElem?_map,Rb h (avi d)];rfl
   rw[List.filterMap_cons_some (avi d),avj,avj,m λj k=>c j (avk _ k),Array.getD_eq_getD_getElem?,g];rfl
def aqk{o:Obj}(i:s.heap.get? a=some o)(f:o.ExactSet)(h:o.data=.set es ep t)(y:es.toList=ents hf L)(x:t.place.size=es.size)(u:t.dummies=(List.toArray []))(v:es.size<=t.mask)(O:(L.map Prod.snd).Nodup)(N:∀p∈L,RI s.heap p.2 p.1)(R:t.plain=true)
  (ld:w.params.followText "set-order"=true\/t.led=true) (few:L.length<=76) {b M:Nat} (hw:SetTable.sizeAbove b-1=M) (G:MaskOk M) (I:SetTable.sizeAbove b<=128) (H:L.length*5<M*3) {Q:Unit->Shared->Prop}
  (q:∀r K n l k,Heap.SameBut a s.heap r->sE hf w r a K n l k->K.Perm L->Q () { s with heap:=r }):wpAny (model P w) A (setRelay a b) Q E s:=by
 have d:=Bq y;let⟨k,c,e,j,T,F,D,m,S⟩:=relaid_ok t (hs:=es.map (·.1)) (wanted:=b) hw G (by rw[Array.size_map,d];omega)
 rw[Array.size_map,d]at j;let⟨K,z,g,J⟩:=ag6 y j
 rw[<-J]at T;have B:(c.filterMap (es[·]?)).size=es.size:=by rw[Bq z,g.length_eq,d]
 rw[setRelay_eq];refine wpAny_bind (wpAny_setState_of i h (fits_of x u v) ?_)
 dsimp only
 refine wp_if_neg (by rw[sizeLine_eq];omega) ?_
 try refine wpAny_bind (wpAny_pure ?_)
 rw[e]
 dsimp only
 refine wpAny_bind ?_;refine wp_if_neg (by rw[B];simp) ?_
 try refine wpAny_bind (wpAny_pure ?_)
 refine wpAny_pure ?_
 dsimp only
 refine wpAny_storeSet_of i h ?_ (by rw[B,d,sizeLine_eq];omega);have C:Heap.SameBut a s.heap (s.heap.update a (Obj.putSet (c.filterMap (es[·]?)) k)):=Heap.SameBut.update ..;refine q _ K (c.filterMap (es[·]?)) (ep+1) k C ⟨⟨_,store_at i h,⟨f.1,f.2.1,f.2.2⟩,rfl⟩,z,T,(g.map Prod.snd).nodup_iff.mpr O,λp j=>abS (N p (g.mem_iff.mp j)) i h C,by rw[m];exact R,by rw[D];exact ld,?_,by rw[g.length_eq];exact few⟩ g;rw[g.length_eq,F];exact H
def amc(R:sE hf w s.heap a L es ep t){x:Addr}{r:Rw}(hx:RI s.heap r x)(hu:(oR P w).room A)(Y:r∉L.map Prod.snd->L.length+1<=76){Q:Bool->Shared->Prop}
  (q:∀b h' K X ep' t',Heap.SameBut a s.heap h'->sE hf w h' a K X ep' t'->(r∈L.map Prod.snd->K=L)->(r∉L.map Prod.snd->K.Perm ((x,r)::L))->Q b { s with heap:=h' }):wpAny (model P w) A (setAddHashed a (.ref x) (hf r)) Q E s:=by
 let⟨o,U,g,O⟩:=R.ob
 have len:=Bq R.en;have v:=R.free;unfold setAddHashed;refine wpAny_holding ?_;rw[show(100000:Nat)=99999+1 from rfl,setAddHashedIn_succ];refine wpAny_bind (wpAny_setState_of U O R.fits ?_)
 dsimp only
 refine wp_if_neg (by simp[byScan,Value.scannable]) ?_
 try refine wpAny_bind (wpAny_pure ?_)
 refine wpAny_bind (look R hx hu (λS=>?_) λN S out inn=>?_)
 .dsimp only
  exact wpAny_pure (q false s.heap L es ep t (Heap.SameBut.refl a s.heap) R (λ_=>rfl) λz=>absurd S z)
 have D:=Y S
 dsimp only
 refine wpAny_bind (wpAny_setState_of U O R.fits ?_)
 dsimp only
 let⟨q1,q2,F,W,q5,q6,q7,q8,q9⟩:=R.tab.put out inn
 have j:(t.put (way t.mask (hf r) N)).1.plain=true:=by rw[q6];exact R.pl
 generalize hpt:t.put (way t.mask (hf r) N)=pt at q1 F W q5 q6 q7 q8 q9 j |-
 let⟨C,n⟩:=pt
 dsimp only at q1 F W q5 q6 q7 q8 q9 j |-
 subst q1
 first
  |(refine wpAny_bind ?_;refine wp_if_pos j ?_;refine(KQ hx).2 ?_)
  |refine wp_if_pos j (wpAny_bind ((KQ hx).2 ?_))
 simp![if_true];have f:(SetTable.insertAt es (SetTable.below t.place (way t.mask (hf r) N)) (hf r,Value.ref x)).toList=ents hf (L.take (SetTable.below t.place (way t.mask (hf r) N))++(x,r)::L.drop (SetTable.below t.place (way t.mask (hf r) N))):=by rw[SetTable.toList_insertAt,ahR,R.en]
 generalize hnn:SetTable.below t.place (way t.mask (hf r) N)=n at q2 F f |-
 have J:=put_perm L n (x,r);have hs1:(L.take n++(x,r)::L.drop n).map (λp=>hf p.2)=(L.map λp=>hf p.2).take n++hf r::(L.map λp=>hf p.2).drop n:=by rw[avN,avj,List.map_take,List.map_drop]
 rw[<-hs1]at F;have I:((L.take n++(x,r)::L.drop n).map Prod.snd).Nodup:=by refine(J.map Prod.snd).nodup_iff.mpr ?_;rw[avj];exact awp.mpr ⟨S,R.nd⟩
 have d:(SetTable.insertAt es n (hf r,Value.ref x)).size=L.length+1:=by rw[Bq f,J.length_eq];rfl
 generalize SetTable.insertAt es n (hf r,Value.ref x)=l at f d |-
 have c:(L.take n++(x,r)::L.drop n).length=L.length+1:=J.length_eq;generalize L.take n++(x,r)::L.drop n=M at J F I f c;refine wpAny_bind (wpAny_storeSet_of U O ?_ (by rw[d,sizeLine_eq];omega));have sb:Heap.SameBut a s.heap (s.heap.update a (Obj.putSet l C)):=Heap.SameBut.update ..;have H:=store_at (es':=l) (t':=C) U O;generalize s.heap.update a (Obj.putSet l C)=h1 at sb H |-
 have Z:∀p∈M,RI h1 p.2 p.1:=λp hp=>by
  rcases avw.mp (J.mem_iff.mp hp) with e|m
  .rw[e];exact abS hx U O sb
  .exact abS (R.ky p m) U O sb
 have ld1:w.params.followText "set-order"=true\/C.led=true:=by rw[q5];exact R.ld
 have full:C.tooFull=true↔(L.length+1)*5 ≥ C.mask*3:=by unfold SetTable.tooFull;rw[awu,q9,avs]
 by_cases i:C.tooFull=true
 .first
   |(refine wpAny_bind ?_;refine wp_if_pos (by simp[i]) ?_)
   |(refine wp_if_pos (by simp[i]) ?_;refine wpAny_bind ?_)
  have y:=full.mp i;rw[len];have psz:C.place.size=l.size:=by have:=F.sz;rw[avs,c]at this;rw[this,d]
  have B:(t.mask=7/\L.length=4)\/(t.mask=31/\L.length=18):=by
   rcases R.tab.mok with e|e|e
   .rw[W,e]at y;rw[e]at v;exact Or.inl ⟨e,#[]⟩
   .rw[W,e]at y;rw[e]at v;exact Or.inr ⟨e,#[]⟩
   .rw[W,e]at y;omega
  have go:∀m,SetTable.sizeAbove (SetTable.grown (L.length+1))-1=m->MaskOk m->SetTable.sizeAbove (SetTable.grown (L.length+1))<=128->(L.length+1)*5<m*3->
    wpAny (model P w) A (setRelay a (SetTable.grown (L.length+1))) (λ_ u=>wpAny (model P w) A (pure true) Q E u) E { s with heap:=h1 }:=λm g1 g2 g3 g4=>
   aqk (s:={ s with heap:=h1 }) H ⟨g.1,g.2.1,g.2.2⟩ rfl f psz F.dm (by rw[d,W];rcases B with⟨e,G⟩|⟨e,G⟩<;>omega) I Z j ld1 (by rw[c];exact D) g1 g2 g3 (by rw[c];exact g4)
    λh2 K es2 ep2 t2 sb2 R2 pm2=>wpAny_pure (q true h2 K es2 ep2 t2 (sb.trans sb2) R2 (λz=>absurd z S) λ_=>pm2.trans J)
  rcases B with⟨_,G⟩|⟨_,G⟩
  .exact go 31 (by rw[G,size_20]) (.inr (.inl rfl)) (by rw[G,size_20];decide) #[]
  .exact go 127 (by rw[G,size_76]) (.inr (.inr rfl)) (by rw[G,size_76];decide) #[]
 .first
   |refine wp_if_neg (by simp[i]) ?_
   |(refine wpAny_bind ?_;refine wp_if_neg (by simp[i]) ?_;refine wpAny_pure ?_)
  have under:¬(L.length+1)*5 ≥ C.mask*3:=λz=>i (full.mpr z);exact wpAny_pure (q true h1 M l (ep+1) C sb ⟨⟨_,H,⟨g.1,g.2.1,g.2.2⟩,rfl⟩,f,F,I,Z,j,ld1,by rw[c];omega,by rw[c];exact D⟩ (λz=>absurd z S) λ_=>J)
end
theorem Gm{d:Type}[DecidableEq d]:∀(l D:List d),l.Nodup->(∀x∈l,x∈D)->l.length<=D.length
 |[],_,_,_=>avX _
 |x::l,D,h,a=>by
  let⟨f,g⟩:=awp.mp h
  have c:=a x avl;have j:=Gm l (D.erase x) g λy b=>(List.mem_erase_of_ne (λe=>f (by rw[<-e];exact b))).2 (a y (avk _ b));have e:=List.length_erase_of_mem c;have i:=List.length_pos_of_mem c;rw[avu];omega
structure Has(ks:List Ent)(i:Nat)(L:List Ent):Prop where
 sub:∀p∈L,p∈ks.take i
 all:∀p∈ks.take i,p.2∈L.map Prod.snd
def Hj{a:Type}{l:List a}{i:Nat}{x:a}(h:l[i]?=some x):l.take (i+1)=l.take i++[x]:=by rw[List.take_add_one,h];rfl
def Has.next{b L K:List Ent}{i:Nat}{x:Ent}(g:Has b i L)(h:b[i]?=some x)(f:x.2∈L.map Prod.snd->K=L)(j:x.2∉L.map Prod.snd->K.Perm (x::L)):Has b (i+1) K:=by
 by_cases c:x.2∈L.map Prod.snd
 .rw[f c];refine⟨λp a=>?_,λp a=>?_⟩
  .rw[Hj h];exact avQ _ (g.sub p a)
  .rw[Hj h]at a;rcases avz.mp a with m|m
   .exact g.all p m
   .rw[avp.mp m];exact c
 .have d:=j c;refine⟨λp a=>?_,λp a=>?_⟩
  .rw[Hj h];rcases avw.mp (d.mem_iff.mp a) with e|m
   .exact avZ _ (avp.mpr e)
   .exact avQ _ (g.sub p m)
  .rw[(d.map Prod.snd).mem_iff,avj];rw[Hj h]at a;rcases avz.mp a with m|m
   .exact avk _ (g.all p m)
   .rw[avp.mp m];exact avl
def BP(w:World):Obj:={ cls:=.type "set",dict:=none,data:=.set (List.toArray []) 0 (.fresh 0 0 (!w.params.followText "set-order")) }
section
variable{P:Program}{w:World}{A:Around}{E:Value->Shared->Prop}{s:Shared}{hf:Rw->Int}
def sE.stay{h b:Heap}{a:Addr}{L:List Ent}{d:Array (Int×Value)}{c:Nat}{t:SetTable}(R:sE hf w h a L d c t)(e:∀o,h.get? a=some o->b.get? a=some o)(hk:∀p∈L,RI b p.2 p.1):sE hf w b a L d c t:=by
 let⟨o,f,r⟩:=R.ob
 exact⟨⟨o,e o f,r⟩,R.en,R.tab,R.nd,hk,R.pl,R.ld,R.free,R.few⟩
def ai4{h:Heap}{a:Addr}(c:h.get? a=some (BP w)):sE hf w h a [] (List.toArray []) 0 (.fresh 0 0 (!w.params.followText "set-order")):=by
 refine⟨⟨_,c,⟨rfl,rfl,rfl⟩,rfl⟩,rfl,⟨List.Pairwise.nil,rfl,rfl,.inl rfl,λx e=>(by cases e),λi h j b=>(by simp at b)⟩,List.nodup_nil,λp d=>(by cases d),rfl,?_,(show 0*5<7*3 by decide),avX _⟩;show _\/(!w.params.followText "set-order")=true
 cases w.params.followText "set-order"
 .exact .inr rfl
 .exact .inl rfl
def alc(hhf:∀r,(oR P w).hash r=hf r){I:Addr}{fp H:List Addr}{G:Array GenState->Array GenState->Prop}{n:Nat}{Pv:Nat->Value->Prop}{St:Nat->Shared->Prop}{R:Result->Shared->Prop}(W:WalksS P w A.in1 I fp H G n Pv St)(S:Addr)(M:S∉fp)(J:List Ent)(hn:n=J.length)
  (D:List Rw) (hD:D.length<=76) (N:∀p∈J,p.2∈D) (X:∀i v,Pv i v->∃p,J[i]?=some p/\v=.ref p.1) (f:Heap) (hk:∀p∈J,RI f p.2 p.1) (hS0:f.get? S=none) (hw0:∀b∈H,f.get? b=none) (hu:(oR P w).room A.in1) :
  ∀(m i:Nat) (s:Shared),n-i=m->i<=n->St i s->(∀b o,f.get? b=some o->s.heap.get? b=some o)->(∃L l j t,sE hf w s.heap S L l j t/\Has J i L)->
   (∀u L l j t,Moved (S::H) G s u->sE hf w u.heap S L l j t->Has J n L->(∀b o,f.get? b=some o->u.heap.get? b=some o)->R (.ok (.ret .none)) u)->
   codeAny (model P w) A (.builtin "set.update.loop" ⟨[.ref S,.ref I],[]⟩) R s:=by
 have Sw:S∉H:=λh=>M (W.sub _ h);have wS:∀b∈H,b∈S::H:=λb x=>avk _ x;have Z:∀{s u:Shared},Moved H G s u->(∀b o,f.get? b=some o->s.heap.get? b=some o)->∀b o,f.get? b=some o->u.heap.get? b=some o:=λd c b o e=>d.heap b o (λx=>by rw[hw0 b x]at e;cases e) (c b o e);intro m
 induction m with
 |zero=>
  intro i s hm0 hi B c ⟨L,l,j,t,hS,g⟩ hR
  obtain rfl:i=n:=#[]
  refine codeAny_builtin PyProof.Rows.F.entry_set_update_loop ?_;rw[Around.under_plainId PyProof.Rows.F.plain_set_update_loop _];refine wpAny_bind (W.done s _ _ B λu d=>?_);have a:=Z d c;exact wpAny_pure (hR u L l j t (d.mono wS) (hS.stay (λo e=>d.heap S o Sw e) λp Q=>XQ (hk p (avY (g.sub p Q))) a) g a)
 |succ m ih=>
  intro i s hm0 hi B c ⟨L,l,j,t,hS,g⟩ hR;have O:i<n:=#[];refine codeAny_builtin PyProof.Rows.F.entry_set_update_loop ?_;rw[Around.under_plainId PyProof.Rows.F.plain_set_update_loop _];refine wpAny_bind (W.item i s _ _ O B λv u hP U d=>?_);let⟨p,Q,rfl⟩:=X i v hP
  have a:=Z d c;have hS':sE hf w u.heap S L l j t:=hS.stay (λo e=>d.heap S o Sw e) λq hq=>XQ (hk q (avY (g.sub q hq))) a;have hx:RI u.heap p.2 p.1:=XQ (hk p (avo Q)) a;refine wpAny_bind (wpAny_holding ?_);unfold setAdd;refine wpAny_holding ?_;refine wpAny_bind ((oR P w).pyHash hu hx ?_);rw[hhf];have inD:∀y∈L.map Prod.snd,y∈D:=λy Y=>by
   let⟨q,hq,e⟩:=avr.mp Y
   rw[<-e];exact N q (avY (g.sub q hq))
  refine amc (s:={ u with toks:=u.toks+(oR P w).draws p.2 }) hS' hx hu (λhnew=>?_) λb h' K es' ep' t' sb hS2 c1 c2=>?_
  .have:=Gm (p.2::L.map Prod.snd) D (awp.mpr ⟨hnew,hS.nd⟩) λy Y=>by
    rcases avw.mp Y with e|Y
    .rw[e];exact N p (avo Q)
    .exact inD y Y
   rw[avu,avs]at this;omega
  have C:∀b o,f.get? b=some o->h'.get? b=some o:=λb o e=>(sb.2 b (λz=>by rw[z,hS0]at e;cases e)).trans (a b o e);refine wpAny_pure ⟨plainId_quiet PyProof.Rows.F.plain_set_update_loop _,ih (i+1) _ #[] O (W.frame _ u _ _ U (Nat.le_add_right _ _) λb x o e=>?_) C ⟨K,es',ep',t',hS2,g.next Q c1 c2⟩ λv L2 es2 ep2 t2 hm2 hS3 g3 k3=>?_⟩
  .rw[sb.2 b (λh:b=S=>M (by rw[<-h];exact x))];exact e
  .refine hR v L2 es2 ep2 t2 (Moved.trans W.gtrans ((d.mono wS).then_heap (Nat.le_add_right _ _) λb o x e=>?_) hm2) hS3 g3 k3;rw[sb.2 b (λh:b=S=>x (by rw[h];exact avl))];exact e
set_option maxHeartbeats 4000000 in
theorem ac3(X:∀r,(oR P w).hash r=hf r){l:Addr}{a:Array Value}(f:List Ent)(D:List Rw)(hD:D.length<=76)(Z:∀p∈f,p.2∈D){Q:Value->Shared->Prop}(hh:A.handled=none)(hl:s.heap.IsList l a)(hit:a.toList=f.map λp=>Value.ref p.1)
  (hk:∀p∈f,RI s.heap p.2 p.1) (hu:A.units+3+8<cLine)
  (h:∀(d:Heap) (O:Nat) L z y t,sE hf w d s.heap.objs.size L z y t->Has f f.length L->(∀b o,s.heap.get? b=some o->d.get? b=some o)->Q (.ref s.heap.objs.size) { s with heap:=d,toks:=O }) :
  wpAny (model P w) A (call (.type "set") [.ref l]) Q E s:=by
 have J:a.size=f.length:=by rw[<-avS,hit,avs]
 let⟨cc,tl,hmro⟩:=PySem.F.called_set.mro
 have hmade:=PySem.F.called_set.made;have hsub:=PySem.F.called_set.sub;refine wpAny_call (codeAny_of_tree ?_);show wpAny _ _ (callAny (.type "set") _) _ _ _
 refine wpAny_pure ⟨Code.quiet_builtin _ #[[]],codeAny_builtin PySem.F.entry_type_call ?_⟩;rw[Around.under_plain (weight_type_call_type "set" [.ref l] []) rfl]
 have nt:=PySem.F.called_set.notType;have cr:=PySem.F.called_set.canCreate;have hct:=PySem.F.typeCall_set_1 (.ref l)
 (repeat (any_goals first | assumption | wp_step))
 refine codeAny_mono (code_set_led1 (.ref l) (E:=E) (Q₁:=λv u=>v=.ref s.heap.objs.size/\u={ s with heap:=s.heap.push (BP w) }) ⟨rfl,rfl⟩) λr u hr=>?_;cases r with
 |error e=>exact hr
 |ok fl=>
  cases fl with
  |ret v=>
   let⟨rfl,rfl⟩:=hr
   have hS:(s.heap.push (BP w)).get? s.heap.objs.size=some (BP w):=Heap.get?_push_size _ rfl;have hT:Shared.TypeIs { s with heap:=s.heap.push (BP w) } (.ref s.heap.objs.size) "set":=⟨_,hS,rfl⟩
   have hli:=PySem.F.called_set.init.lookup;have hbi:=PySem.F.called_set.init.bind (.ref s.heap.objs.size)
   (repeat (any_goals first | assumption | wp_step))
   refine codeAny_mono (codeAny_call_builtin (R:=wants (λr u=>r=.none/\∃d O L z y t,u={ s with heap:=d,toks:=O }/\sE hf w d s.heap.objs.size L z y t/\Has f f.length L/\∀b o,s.heap.get? b=some o->d.get? b=some o) E) PySem.F.called_set.init.plain PySem.F.entry_set_init (check_set_init_1 hT ?_)) λM u₂ c=>?_
   .let⟨ol,G,B,nl,hdl⟩:=hl
    let⟨ocls,n,odata,g⟩:=ol
    simp only at B hdl;subst B;subst hdl;have H:(s.heap.push (BP w)).get? l=some { cls:=.type "list",dict:=n,data:=.seq a nl,slots:=g }:=Heap.get?_push_of_some _ G
    have sl1:=PySem.F.sub_list_set;have sl2:=PySem.F.sub_list_frozenset;have nd:(Value.type "list"==Value.type "dict")=false:=#[()]
    have C:(s.heap.push (BP w)).IsList l a:=⟨_,H,rfl,nl,rfl⟩;unfold Builtin.«set.__init__» noKeywords Builtin.Frozenset.updateFrom;generalize U:pyIter=PI
    wp_walk
    subst U;refine wpAny_pyIter_list C ?_;refine wpAny_bind (wpAny_runValue ?_);have lS:l<s.heap.objs.size:=Heap.lt_size G;have h3:A.in1.in1.in1.handled=none:=by simp[hh]
    have x:(s.heap.push (BP w)).objs.size=s.heap.objs.size+1:=Heap.size_push ..;have lI:l≠(s.heap.push (BP w)).objs.size:=by rw[x];exact avT (av8 lS)
    have Sf:s.heap.objs.size∉[(s.heap.push (BP w)).objs.size,l]:=by rw[x];simp![avw,avL,or_false,not_or];exact⟨avT (Nat.lt_succ_self _),Nat.ne_of_gt lS⟩
    have I:∀(i:Nat) (v:Value),a[i]?=some v->∃p,f[i]?=some p/\v=.ref p.1:=λi v hv=>by
     rw[<-av0,hit,avy]at hv;let⟨p,g1,S⟩:=avU.mp hv
     exact⟨p,g1,S.symm⟩
    have fresh:∀b,s.heap.objs.size<=b->s.heap.get? b=none:=λb W=>by
     cases q:s.heap.get? b with
     |none=>rfl
     |some o=>exact absurd (Heap.lt_size q) (Nat.not_lt_of_le W)
    refine alc X ((Walks.list h3 _ l lI a).toS) s.heap.objs.size Sf f J D hD Z I s.heap hk (fresh _ (avE _)) (λb W=>fresh b (by rw[avp.mp W,x];exact Nat.le_succ _)) hu (a.size-0) 0 _ #[] (avX _)
     ⟨⟨_,Heap.get?_push_size _ rfl,rfl,rfl⟩,(C.push _)⟩ (λb o e=>Heap.get?_push_of_some _ (Heap.get?_push_of_some _ e)) ⟨[],(List.toArray []),0,_,ai4 (Heap.get?_push_of_some _ hS),⟨λp hp=>(by cases hp),λp hp=>(by simp at hp)⟩⟩ λu L z y t hm m N kp=>?_
    let⟨d,S,d',tk',os'⟩:=u
    have eg:S=s.gens:=hm.gens;have ed:d'=s.drawn:=hm.drawn;have eo:os'=s.os:=hm.os;subst eg;subst ed;subst eo;refine wpAny_pure ?_;rw[J]at N;exact wpAny_pure ⟨rfl,d,tk',L,z,y,t,rfl,m,N,kp⟩
   .cases M with
    |error e=>exact c
    |ok j=>
     cases j with
     |ret r=>
      let⟨rfl,d,O,L,z,y,t,rfl,m,N,Y⟩:=c
      (repeat (any_goals first | assumption | wp_step))
      exact h _ _ _ _ _ _ m N Y
     |_=>exact c.elim
  |_=>exact hr.elim
end
def afr(w:World)(h:Heap)(a:Addr)(L:List Ent):Prop:=∃(d:Rw->Int) (b:Array (Int×Value)) (c:Nat) (t:SetTable),(∃o,h.get? a=some o/\o.ExactSet/\o.data=.set b c t)/\b.toList=ents d L/\t.fits b.size=true/\Ris t.place.toList/\(w.params.followText "set-order"=true\/t.led=true)
def Q8(w:World)(a:Addr)(L:List Ent):HO:=.ext λh=>afr w h a L
section
variable{X:Cx}
theorem Zh{P:Program}{w:World}{h:Heap}:∀(l:List Int) (a:List Value),Vals (l.map V.int) a->NestedAll h (l.map .num) a
 |[],_,.nil=>.nil
 |i::l,_,.cons r t=>by
  let⟨b,rfl⟩:=r
  exact .cons (.int i b) (Zh (P:=P) (w:=w) l _ t)
theorem Zx:∀{a:List Ent} {b:List Value},Vals (a.map λp=>V.ref p.1) b->b=a.map λp=>Value.ref p.1
 |[],_,.nil=>rfl
 |p::a,_,.cons r t=>by
  cases r;rw[Zx t];rfl
theorem ZM{L:List Ent}:∀(out:List Value) (M:List Rw),PySem.W.EachIs (λv (r:Rw)=>∃p∈L,v=Value.ref p.1/\r=p.2) out M->∃a:List V,Vals a out/\fK (λv (r:Rw)=>∃p∈L,v=V.ref p.1/\r=p.2) a M
 |[],[],.nil=>⟨[],.nil,fK.nil⟩
 |_::out,_::M,.cons ⟨p,h,e,f⟩ k=>by
  let⟨a,g,d⟩:=ZM out M k
  subst e f;refine⟨.ref p.1::a,.cons rfl g,by rw[avu,avu,d.1],λj u y b c=>?_⟩;cases j with
  |zero=>
   cases b;cases c;exact⟨p,h,rfl,rfl⟩
  |succ j=>exact d.2 j u y b c
end
def gF(a b:Addr):LsS V:=putF ("circles" : Str) (.ref b) (putF ("allowances" : Str) (.ref a) [])
structure aja(C:Addr)(H:Hp)(p da dc:Addr)(al:List Int)(ci:List (List Int)):Prop where
 ob:∃dx,H p=some (.ins C dx (gF da dc))
 la:H da=some (.lst (al.map V.int))
 lc:∃us,H dc=some (.lst us)/\fK (Km H) us ci
 ne:da≠dc
theorem aja.mono{C:Addr}{H a:Hp}(e:Ex H a){p b c:Addr}{al:List Int}{ci:List (List Int)}(g:aja C H p b c al ci):aja C a p b c al ci:=by
 let⟨⟨d,ob⟩,la,⟨i,f,h⟩,ne⟩:=g
 exact⟨⟨d,e _ _ ob⟩,e _ _ la,⟨i,e _ _ f,h.imp λ_ _ r=>r.mono e⟩,ne⟩
end Ear
namespace Rf
open PySem PySem.Spec PyProof.Rows L2 Evl
abbrev obj(h:Nat):Dat:=PyData.dict [(PyData.none,PyData.int (Int.ofNat h))]
inductive gU where
 |dat (d:Dat)|lst (n:Nat) (xs:List Dat)|dic (n:Bool) (kvs:List (Dat×Dat))
structure aJ where
 f:Str->Option Addr
 fl:Str->List Str
 w:World
instance:CoeFun aJ λ_=>Str->Option Addr:=⟨aJ.f⟩
structure Inst where
 cls:Str
 fs:List (Str×gU)
abbrev Mo:=List Inst
inductive Cell where
 |dat (d:Dat)|mut (xs:List Dat)
abbrev Env:=List (Option Cell)
structure cZ where
 cls:Str
 fs:List (Str×Dat)
inductive Out(α:Type) where
 |ok (a:α)|exc (x:cZ)|bad
inductive aR(α:Type) where
 |ok (a:α) (M:Mo)|exc (x:cZ) (M:Mo)|bad
inductive dB where
 |next (ρ:Env) (M:Mo)|ret (d:Dat) (M:Mo)|brk (ρ:Env) (M:Mo)|cont (ρ:Env) (M:Mo)|exc (x:cZ) (ρ:Env) (M:Mo)|bad
structure Gh where
 tbl:List Addr
 ow:Addr->Option (Nat×Str)
 Lc:Addr->Prop
 Lo:Addr->Prop
 kl:Prop
abbrev Gh.tk(g:Gh):List Addr×Prop:=(g.tbl,g.kl)
def Gh.HY{g a:Gh}(e:a.tk=g.tk):a.tbl=g.tbl:=congrArg Prod.fst e
def Gh.kl1{g a:Gh}(e:a.tk=g.tk):a.kl=g.kl:=congrArg Prod.snd e
def Gh.W(g:Gh)(a:Addr):Prop:=a∈g.tbl\/g.ow a≠none
def Gh.A(g:Gh)(a:Addr):Prop:=g.W a\/g.Lc a\/g.Lo a
def KH:HO->Prop
 |.tup _=>False
 |.frz _ _=>False
 |_=>True
def aq7(K:ave)(a:Addr)(c:List V):Prop:=∃(o:Obj) (b:Array Value) (n:Nat),K.lookup a=some o/\o.cls=.type "list"/\o.dict=none/\o.data=.seq b n/\b.size<=sizeLine/\Vals c b.toList
def Gv(K:ave)(g:Gh)(H:Hp)(a:Addr)(b:List V):Prop:=(H a=some (.lst b)/\¬g.A a)\/(g.kl/\((Rd H a (.lst b)/\¬g.A a)\/aq7 K a b))
def Gv.sq{K:ave}{g:Gh}{H:Hp}{a:Addr}{b:List V}(h:Gv K g H a b):SqL K H a b:=h.elim (λz=>.inl (.inl z.1)) λz=>z.2.elim (λz=>.inl z.1) .inr
mutual
inductive Rep(K:ave)(g:Gh)(H:Hp):V->Dat->Prop
 |non:Rep K g H .non .none
 |bl (b:Bool):Rep K g H (.bl b) (.bool b)
 |int (i:Int):Rep K g H (.int i) (.int i)
 |str (x:Str):Rep K g H (.str x) (.str x)
 |tup {a:Addr} {xs:List V} {ds:List Dat}:SqT K H a xs->aC K g H xs ds->Rep K g H (.ref a) (.tuple ds)
 |lst {a:Addr} {xs:List V} {ds:List Dat}:Gv K g H a xs->aC K g H xs ds->Rep K g H (.ref a) (.list ds)
 |obj {a:Addr} {h:Nat}:g.tbl[h]?=some a->Rep K g H (.ref a) (obj h)
inductive aC(K:ave)(g:Gh)(H:Hp):List V->List Dat->Prop
 |nil:aC K g H [] []
 |cons {v:V} {vs:List V} {d:Dat} {ds:List Dat}:Rep K g H v d->aC K g H vs ds->aC K g H (v::vs) (d::ds)
end
structure Kd(g:Gh)(H:Hp):Prop where
 ob:∀a,g.A a->∃o,H a=some o/\KH o
 lo:∀a,g.Lo a->¬g.W a
 lc:∀a,g.Lc a->¬g.W a/\¬g.Lo a
structure Gr(q:Bool)(g g':Gh)(H H':Hp):Prop where
 keep:∀a o,H a=some o->¬g.W a->¬g.Lo a->H' a=some o
 keepW:q=true->∀a o,H a=some o->g.W a->H' a=some o
 dom:∀a,H' a=none->H a=none
 tbl:∃more,g'.tbl=g.tbl++more
 W:∀a,g.W a->g'.W a
 nW:∀a,g'.W a->g.W a\/H a=none
 qg:q=true->g'.tk=g.tk/\g'.ow=g.ow
 Lc:g'.Lc=g.Lc
 Lo:∀a,g.Lo a->g'.Lo a
 nLo:∀a,g'.Lo a->g.Lo a\/H a=none
 kl:g'.kl=g.kl
section
variable{K:ave}{q:Bool}{g g' g2:Gh}{H H' H2:Hp}{v:V}{d:Dat}
def Gr.refl:Gr q g g H H:=⟨λ_ _ h _ _=>h,λ_ _ _ h _=>h,λ_ h=>h,⟨[],by simp⟩,λ_ h=>h,λ_ h=>.inl h,λ_=>⟨rfl,rfl⟩,rfl,λ_ h=>h,λ_ h=>.inl h,rfl⟩
def CZ(e:Ex H H'):∀a,H' a=none->H a=none:=λa h=>by
 cases b:H a with
 |none=>rfl
 |some o=>
  rw[e a o b]at h;cases h
def Gr.ex(e:Ex H H'):Gr q g g H H':=⟨λa o h _ _=>e a o h,λ_ a o h _=>e a o h,CZ e,⟨[],by simp⟩,λ_ h=>h,λ_ h=>.inl h,λ_=>⟨rfl,rfl⟩,rfl,λ_ h=>h,λ_ h=>.inl h,rfl⟩
theorem Gr.trans(a:Gr q g g' H H')(b:Gr q g' g2 H' H2):Gr q g g2 H H2 where
 keep:=λx o h nw nl=>by
  have h1:=a.keep x o h nw nl;refine b.keep x o h1 (λz=>?_) (λz=>?_)
  .rcases a.nW x z with z|z
   .exact nw z
   .rw[h]at z;cases z
  .rcases a.nLo x z with z|z
   .exact nl z
   .rw[h]at z;cases z
 keepW:=λhq x o h w=>b.keepW hq x o (a.keepW hq x o h w) (a.W x w)
 dom:=λx h=>a.dom x (b.dom x h)
 tbl:=by
  let⟨m1,e1⟩:=a.tbl
  let⟨m2,e2⟩:=b.tbl
  exact⟨m1++m2,by rw[e2,e1,List.append_assoc]⟩
 W:=λx h=>b.W x (a.W x h)
 nW:=λx h=>by
  rcases b.nW x h with z|z
  .exact a.nW x z
  .exact .inr (a.dom x z)
 qg:=λhq=>by
  let⟨e1,e2⟩:=a.qg hq
  let⟨f1,f2⟩:=b.qg hq
  exact⟨f1.trans e1,f2.trans e2⟩
 Lc:=b.Lc.trans a.Lc
 Lo:=λx h=>b.Lo x (a.Lo x h)
 nLo:=λx h=>by
  rcases b.nLo x h with z|z
  .exact a.nLo x z
  .exact .inr (a.dom x z)
 kl:=b.kl.trans a.kl
def Gr.loud(a:Gr q g g' H H'):Gr false g g' H H':=⟨a.keep,(λh=>nomatch h),a.dom,a.tbl,a.W,a.nW,(λh=>nomatch h),a.Lc,a.Lo,a.nLo,a.kl⟩
def Gr.nA(r:Gr q g g' H H'){a:Addr}{o:HO}(h:H a=some o)(n:¬g.A a):¬g'.A a:=λz=>by
 rcases z with z|z|z
 .rcases r.nW a z with z|z
  .exact n (.inl z)
  .rw[h]at z;cases z
 .rw[r.Lc]at z;exact n (.inr (.inl z))
 .rcases r.nLo a z with z|z
  .exact n (.inr (.inr z))
  .rw[h]at z;cases z
def Gr.rd(r:Gr q g g' H H'){a:Addr}{o:HO}(h:Rd H a o)(n:¬g.A a):Rd H' a o/\¬g'.A a:=by
 rcases h with h|⟨z,h⟩
 .exact⟨.inl (r.keep a _ h (λw=>n (.inl w)) λw=>n (.inr (.inr w))),r.nA h n⟩
 .exact⟨.inr ⟨z,r.keep a _ h (λw=>n (.inl w)) λw=>n (.inr (.inr w))⟩,r.nA h n⟩
theorem Kd.tup(k:Kd g H){a:Addr}{b:List V}(h:Rd H a (.tup b)):¬g.A a:=λz=>by
 let⟨o,e,m⟩:=k.ob a z
 rcases h with h|⟨y,h⟩<;>(rw[h]at e;cases e;exact m)
def Gr.sqT(r:Gr q g g' H H')(k:Kd g H){a:Addr}{b:List V}(h:SqT K H a b):SqT K H' a b:=by
 rcases h with h|h
 .exact .inl (r.rd h (k.tup h)).1
 .exact .inr h
def Gr.ls(r:Gr q g g' H H'){a:Addr}{b:List V}(h:Gv K g H a b):Gv K g' H' a b:=by
 rcases h with⟨h,n⟩|⟨hk,h⟩
 .exact .inl ⟨r.keep a _ h (λw=>n (.inl w)) λw=>n (.inr (.inr w)),r.nA h n⟩
 .rw[<-r.kl]at hk;exact .inr ⟨hk,h.elim (λ⟨h,n⟩=>.inl (r.rd h n)) .inr⟩
def Gr.tb(r:Gr q g g' H H'){h:Nat}{a:Addr}(e:g.tbl[h]?=some a):g'.tbl[h]?=some a:=by
 let⟨m,b⟩:=r.tbl
 rw[b,avq (avf.mp e).1];exact e
mutual
theorem Rep.gr(r:Gr q g g' H H')(k:Kd g H):∀{v:V} {d:Dat},Rep K g H v d->Rep K g' H' v d
 |_,_,.non=>.non
 |_,_,.bl b=>.bl b
 |_,_,.int i=>.int i
 |_,_,.str x=>.str x
 |_,_,.tup h t=>.tup (r.sqT k h) (aC.gr r k t)
 |_,_,.lst h t=>.lst (r.ls h) (aC.gr r k t)
 |_,_,.obj h=>.obj (r.tb h)
theorem aC.gr(r:Gr q g g' H H')(k:Kd g H):∀{b:List V} {a:List Dat},aC K g H b a->aC K g' H' b a
 |_,_,.nil=>.nil
 |_,_,.cons h t=>.cons (Rep.gr r k h) (aC.gr r k t)
end
mutual
theorem Rep.less(e:g'.tk=g.tk)(n:∀a,g'.A a->g.A a):∀{v:V} {d:Dat},Rep K g H v d->Rep K g' H v d
 |_,_,.non=>.non
 |_,_,.bl b=>.bl b
 |_,_,.int i=>.int i
 |_,_,.str x=>.str x
 |_,_,.tup h t=>.tup h (aC.less e n t)
 |_,_,.lst h t=>.lst (h.elim (λz=>.inl ⟨z.1,λy=>z.2 (n _ y)⟩) λz=>.inr ⟨by rw[Gh.kl1 e];exact z.1,z.2.elim (λz=>.inl ⟨z.1,λy=>z.2 (n _ y)⟩) .inr⟩) (aC.less e n t)
 |_,_,.obj h=>.obj (by rw[Gh.HY e];exact h)
theorem aC.less(e:g'.tk=g.tk)(n:∀a,g'.A a->g.A a):∀{c:List V} {b:List Dat},aC K g H c b->aC K g' H c b
 |_,_,.nil=>.nil
 |_,_,.cons h t=>.cons (Rep.less e n h) (aC.less e n t)
end
mutual
def lf:Dat->Bool
 |.list _=>false
 |.tuple a=>fZ a
 |.dict _=>true
 |.none=>true
 |.bool _=>true
 |.int _=>true
 |.str _=>true
def fZ:List Dat->Bool
 |[]=>true
 |d::ds=>lf d&&fZ ds
end
mutual
theorem Rep.free(e:g'.tbl=g.tbl):∀{v:V} {d:Dat},lf d=true->Rep K g H v d->Rep K g' H v d
 |_,_,_,.non=>.non
 |_,_,_,.bl b=>.bl b
 |_,_,_,.int i=>.int i
 |_,_,_,.str x=>.str x
 |_,_,f,.tup h t=>.tup h (aC.free e (by rw[lf]at f;exact f) t)
 |_,_,f,.lst h t=>by rw[lf]at f;cases f
 |_,_,_,.obj h=>.obj (by rw[e];exact h)
theorem aC.free(e:g'.tbl=g.tbl):∀{b:List V} {a:List Dat},fZ a=true->aC K g H b a->aC K g' H b a
 |_,_,_,.nil=>.nil
 |_,_,f,.cons h t=>.cons (Rep.free e (by rw[fZ,avh]at f;exact f.1) h) (aC.free e (by rw[fZ,avh]at f;exact f.2) t)
end
theorem aC.length:∀{b:List V} {a:List Dat},aC K g H b a->b.length=a.length
 |_,_,.nil=>rfl
 |_,_,.cons _ t=>congrArg (· + 1) t.length
theorem aC.get:∀{b:List V} {a:List Dat} {i:Nat} {d:Dat},aC K g H b a->a[i]?=some d->∃v,b[i]?=some v/\Rep K g H v d
 |_,_,_,_,.nil,e=>by simp at e
 |_,_,0,_,.cons h _,e=>by simp at e;subst e;exact⟨_,rfl,h⟩
 |_,_,i+1,_,.cons _ t,e=>by simpa using t.get (i:=i) (by simpa using e)
theorem aC.get':∀{b:List V} {a:List Dat} {i:Nat} {v:V},aC K g H b a->b[i]?=some v->∃d,a[i]?=some d/\Rep K g H v d
 |_,_,_,_,.nil,e=>by simp at e
 |_,_,0,_,.cons h _,e=>by simp at e;subst e;exact⟨_,rfl,h⟩
 |_,_,i+1,_,.cons _ t,e=>by simpa using t.get' (i:=i) (by simpa using e)
theorem aC.append:∀{c e:List V} {a b:List Dat},aC K g H c a->aC K g H e b->aC K g H (c++e) (a++b)
 |_,_,_,_,.nil,t=>t
 |_,_,_,_,.cons h r,t=>.cons h (r.append t)
theorem aC.take:∀{b:List V} {a:List Dat} (n:Nat),aC K g H b a->aC K g H (b.take n) (a.take n)
 |_,_,0,_=>.nil
 |_,_,_+1,.nil=>.nil
 |_,_,n+1,.cons h t=>.cons h (t.take n)
theorem aC.drop:∀{b:List V} {a:List Dat} (n:Nat),aC K g H b a->aC K g H (b.drop n) (a.drop n)
 |_,_,0,t=>t
 |_,_,_+1,.nil=>.nil
 |_,_,n+1,.cons _ t=>t.drop n
theorem aC.set{v:V}{d:Dat}(r:Rep K g H v d):∀{b:List V} {a:List Dat} (i:Nat),aC K g H b a->aC K g H (b.set i v) (a.set i d)
 |_,_,_,.nil=>.nil
 |_,_,0,.cons _ t=>.cons r t
 |_,_,i+1,.cons h t=>.cons h (t.set r i)
theorem Gr.upd{l:Addr}{o o':HO}(k:Kd g H)(h:H l=some o)(w:(g.W l/\q=false)\/g.Lo l):Gr q g g H (L2.upd H l o') where
 keep:=λa u e nw nl=>by
  rw[upd_ne (λz=>by subst z;exact w.elim (λw=>nw w.1) nl)];exact e
 keepW:=λhq a u e wa=>by
  rcases w with w|w
  .rw[hq]at w;cases w.2
  .rw[upd_ne (λz=>by subst z;exact k.lo _ w wa)];exact e
 dom:=λa e=>by
  by_cases z:a=l
  .subst z;rw[awA]at e;cases e
  .rw[upd_ne z]at e;exact e
 tbl:=⟨[],by simp⟩
 W:=λ_ h=>h
 nW:=λ_ h=>.inl h
 qg:=λ_=>⟨rfl,rfl⟩
 Lc:=rfl
 Lo:=λ_ h=>h
 nLo:=λ_ h=>.inl h
 kl:=rfl
def Kd.ex(k:Kd g H)(e:Ex H H'):Kd g H':=⟨λa z=>let⟨o,h,m⟩:=k.ob a z;⟨o,e a o h,m⟩,k.lo,k.lc⟩
theorem Kd.upd(k:Kd g H){l:Addr}{o:HO}(m:KH o):Kd g (L2.upd H l o):=⟨λa z=>by
 by_cases e:a=l
 .subst e;exact⟨o,awA,m⟩
 .rw[upd_ne e];exact k.ob a z,k.lo,k.lc⟩
theorem Rep.ex(e:Ex H H')(k:Kd g H)(h:Rep K g H v d):Rep K g H' v d:=h.gr (Gr.ex (q:=true) e) k
theorem aC.ex{b:List V}{a:List Dat}(e:Ex H H')(k:Kd g H)(h:aC K g H b a):aC K g H' b a:=h.gr (Gr.ex (q:=true) e) k
end
def keyD:Key->Dat
 |.inl i=>.int i
 |.inr x=>.str x
def jc(l:Addr)(o:Obj):HO:=.ext λh=>h.get? l=some o
abbrev nY:Type:=NestedKey×Addr×Value
def ahJ(w:World)(x:nY):DictEntry:=⟨x.1.hash w,.ref x.2.1,x.2.2⟩
structure lV(w:World)(l:Addr)(o:Obj)(xs:List nY):Prop where
 sys:(l==sysModules)=false
 ex:o.ExactDict
 ent:∃es ep,o.data=.dict es ep/\es.toList=xs.map (ahJ w)
 nd:(xs.map (·.1)).Nodup
 len:xs.length<=sizeLine
 dep:∀x∈xs,x.1.depth<=8
def iU(K:ave)(aj:aJ)(g:Gh)(H:Hp)(l:Addr):Bool->List (Dat×Dat)->Prop
 |false,kvs=>∃b:List (Key×V),H l=some (.dK b)/\kvs.map (·.1)=b.map (λp=>keyD p.1)/\aC K g H (b.map (·.2)) (kvs.map (·.2))
 |true,kvs=>∃(o:Obj) (a:List nY) (c:List V),H l=some (jc l o)/\lV aj.w l o a/\kvs.map (·.1)=a.map (λx=>x.1.data)/\aC K g H (a.map λx=>V.ref x.2.1) (kvs.map (·.1))/\Vals c (a.map (·.2.2))/\aC K g H c (kvs.map (·.2))
def cP(K:ave)(aj:aJ)(g:Gh)(H:Hp)(h:Nat)(f:Str)(v:V):gU->Prop
 |.dat d=>Rep K g H v d
 |.lst n c=>∃l b,v=.ref l/\H l=some (.lst b)/\g.ow l=some (h,f)/\aC K g H b c/\g.tbl[n]?=some l
 |.dic n a=>∃l,v=.ref l/\g.ow l=some (h,f)/\iU K aj g H l n a
inductive bQ(K:ave)(aj:aJ)(g:Gh)(H:Hp)(h:Nat):List (Str×V)->List (Str×gU)->Prop
 |nil:bQ K aj g H h [] []
 |cons {f:Str} {v:V} {fl:gU} {fs:List (Str×V)} {gs:List (Str×gU)}:cP K aj g H h f v fl->bQ K aj g H h fs gs->bQ K aj g H h ((f,v)::fs) ((f,fl)::gs)
abbrev lin(a:List Dat):Inst:=⟨"",[("",.lst 0 a)]⟩
structure dH(K:ave)(aj:aJ)(g:Gh)(H:Hp)(M:Mo):Prop where
 len:g.tbl.length=M.length
 inj:∀(h k:Nat) (a:Addr),g.tbl[h]?=some a->g.tbl[k]?=some a->h=k
 ins:∀(h:Nat) (a:Addr) (i:Inst),g.tbl[h]?=some a->M[h]?=some i->i.cls≠""->∃C dx fs,aj i.cls=some C/\H a=some (.ins C dx fs)/\bQ K aj g H h fs i.fs
 nd:∀(h:Nat) (i:Inst),M[h]?=some i->(i.fs.map (·.1)).Nodup
 fd:∀(h:Nat) (i:Inst),M[h]?=some i->i.cls≠""->∀f∈i.fs.map (·.1),f∈aj.fl i.cls
 tw:∀(h:Nat) (a:Addr) (i:Inst),g.tbl[h]?=some a->M[h]?=some i->i.cls≠""->g.ow a=none
 li:∀(h:Nat) (a:Addr) (xs:List Dat),g.tbl[h]?=some a->M[h]?=some (lin xs)->∃us,H a=some (.lst us)/\g.ow a=none/\aC K g H us xs
 nc:aj ""=none
structure SInv(K:ave)(aj:aJ)(σ:L2.St)(H:Hp)(g:Gh)(ρ:Env)(M:Mo):Prop where
 kd:Kd g H
 wok:dH K aj g H M
 len:σ.length=ρ.length
 dat:∀(i:Nat) (d:Dat),ρ[i]?=some #[d]->∃v,σ[i]?=some (some v)/\Rep K g H v d
 own:∀(i:Nat) (xs:List Dat),ρ[i]?=some (some (.mut xs))->∃l us,σ[i]?=some (some (.ref l))/\H l=some (.lst us)/\g.Lo l/\aC K g H us xs
 sep:∀(i j:Nat) (xs ys:List Dat) (l:Addr),i≠j->ρ[i]?=some (some (.mut xs))->ρ[j]?=some (some (.mut ys))->σ[i]?=some (some (.ref l))->σ[j]?≠some (some (.ref l))
section
variable{K:ave}{aj:aJ}{q:Bool}{g g' g2:Gh}{H H' H2:Hp}{v:V}{d:Dat}{σ:L2.St}{ρ:Env}{M:Mo}
theorem iU.ex{l:Addr}:∀{n:Bool} {a:List (Dat×Dat)} (e:Ex H H') (k:Kd g H) (h:iU K aj g H l n a),iU K aj g H' l n a
 |false,_,e,k,⟨p,b,c,f⟩=>⟨p,e _ _ b,c,f.ex e k⟩
 |true,_,e,k,⟨o,s,r,b,c,f,i,j,m⟩=>⟨o,s,r,e _ _ b,c,f,i.ex e k,j,m.ex e k⟩
theorem cP.ex{h:Nat}{f:Str}(e:Ex H H')(k:Kd g H):∀{fl:gU},cP K aj g H h f v fl->cP K aj g H' h f v fl
 |.dat _,r=>Rep.ex e k r
 |.lst _ _,⟨l,m,a,b,c,i,j⟩=>⟨l,m,a,e _ _ b,c,i.ex e k,j⟩
 |.dic _ _,⟨l,a,b,c⟩=>⟨l,a,b,c.ex e k⟩
theorem bQ.ex{h:Nat}(e:Ex H H')(k:Kd g H):∀{fs:LsS V} {gs:LsS gU},bQ K aj g H h fs gs->bQ K aj g H' h fs gs
 |_,_,.nil=>.nil
 |_,_,.cons r t=>.cons (cP.ex e k r) (bQ.ex e k t)
theorem dH.ex(e:Ex H H')(k:Kd g H)(w:dH K aj g H M):dH K aj g H' M:=⟨w.len,w.inj,λh a i b c hc=>by
 let⟨C,m,fs,f,j,l⟩:=w.ins h a i b c hc
 exact⟨C,m,fs,f,e _ _ j,l.ex e k⟩,w.nd,w.fd,w.tw,λh a s b c=>by
 let⟨r,n,o,p⟩:=w.li h a s b c
 exact⟨r,e _ _ n,o,p.ex e k⟩,w.nc⟩
theorem SInv.ex(e:Ex H H')(I:SInv K aj σ H g ρ M):SInv K aj σ H' g ρ M:=⟨I.kd.ex e,I.wok.ex e I.kd,I.len,λi d h=>by
 let⟨v,a,b⟩:=I.dat i d h
 exact⟨v,a,b.ex e I.kd⟩,λi k h=>by
 let⟨l,j,a,b,c,f⟩:=I.own i k h
 exact⟨l,j,a,e _ _ b,c,f.ex e I.kd⟩,I.sep⟩
theorem bQ.get{h:Nat}{f:Str}{fl:gU}:∀{fs:LsS V} {gs:LsS gU},bQ K aj g H h fs gs->gs.lookup f=some fl->∃v,fs.lookup f=some v/\cP K aj g H h f v fl
 |_,_,.nil,e=>nomatch e
 |_,_,.cons (f:=f') (v:=v) (fl:=fl') r t,e=>by
  rw[avM]at e;rw[avM];cases hb:f==f' with
  |true=>
   rw[hb]at e;cases e;have a:f=f':=by simpa using hb
   subst a;exact⟨v,rfl,r⟩
  |false=>
   rw[hb]at e;exact t.get e
theorem bQ.no{h:Nat}{f:Str}:∀{fs:LsS V} {gs:LsS gU},bQ K aj g H h fs gs->gs.lookup f=none->fs.lookup f=none
 |_,_,.nil,_=>rfl
 |_,_,.cons (f:=f') (v:=v) (fl:=fl') r t,e=>by
  rw[avM]at e;rw[avM];cases hb:f==f' with
  |true=>
   rw[hb]at e;cases e
  |false=>
   rw[hb]at e;exact t.no e
end
def Out.bind{b c:Type}(o:Out b)(k:b->Out c):Out c:=
 match o with
 |.ok a=>k a
 |.exc x=>.exc x
 |.bad=>.bad
def Out.sat{b:Type}(o:Out b)(P:b->Prop)(E:cZ->Prop):Prop:=
 match o with
 |.ok a=>P a
 |.exc x=>E x
 |.bad=>False
@[simp]theorem Out.Bj {b c:Type} (a:b) (k:b->Out c):(Out.ok a).bind k=k a:=rfl
@[simp]theorem Out.aiq {a b:Type} (x:cZ) (k:a->Out b):(Out.exc x:Out a).bind k=.exc x:=rfl
@[simp]theorem Out.aje {a b:Type} (k:a->Out b):(Out.bad:Out a).bind k=.bad:=rfl
def Out.sat.bnd{b c:Type}{o:Out b}{k:b->Out c}{P:c->Prop}{E:cZ->Prop}(h:(o.bind k).sat P E):o.sat (λa=>(k a).sat P E) E:=by cases o<;>exact h
def Out.sat.mono{d:Type}{o:Out d}{P c:d->Prop}{E b:cZ->Prop}(h:o.sat P E)(f:∀a,P a->c a)(e:∀x,E x->b x):o.sat c b:=by
 cases o
 .exact f _ h
 .exact e _ h
 .exact h
def Out.when{a:Type}(b:Bool)(o:Out a):Out a:=if b=true then o else .bad
@[simp]theorem Out.Y0 {a:Type} (o:Out a):Out.when true o=o:=rfl
@[simp]theorem Out.apS {a:Type} (o:Out a):Out.when false o=.bad:=rfl
def Out.sat.lM{a:Type}{b:Bool}{o:Out a}{P:a->Prop}{E:cZ->Prop}(h:(Out.when b o).sat P E):b=true/\o.sat P E:=by
 cases b
 .exact awt h
 .exact⟨rfl,h⟩
inductive jN(K:ave)(g:Gh)(H:Hp):List (Str×V)->List (Str×Dat)->Prop
 |nil:jN K g H [] []
 |cons {f:Str} {v:V} {d:Dat} {fs:List (Str×V)} {gs:List (Str×Dat)}:Rep K g H v d->jN K g H fs gs->jN K g H ((f,v)::fs) ((f,d)::gs)
def lN(K:ave)(aj:aJ)(g:Gh)(H:Hp)(x:cZ)(c:Value)(dd:Option Addr):Prop:=
 ∃C,aj x.cls=some C/\c=.ref C/\((x.fs=[]/\dd=none)\/∃a b,dd=some a/\H a=some (.xd b)/\jN K g H b x.fs)
abbrev QF:=Mo->Env->Out Dat
abbrev QT:=Mo->Env->Out Bool
abbrev QA:=Mo->Env->Out (List Dat)
section
variable(K:ave)(aj:aJ)(W:WX)
def pZ(g:Gh)(H:Hp)(b:L2.St)(x:cZ):Prop:=∀a c dd,Ex H a->lN K aj g a x c dd->W c dd b a
def tQ(f:QF):TE:=λc H Q=>∃g b M,SInv K aj c H g b M/\(f M b).sat (λd=>∀v a,Ex H a->Rep K g a v d->Q v a) (pZ K aj W g H c)
def lC(f:QT):TT:=λd H Q=>∃g c M,SInv K aj d H g c M/\(f M c).sat (λb=>∀a,Ex H a->Q b a) (pZ K aj W g H d)
def Rx(f:QA):TA:=λd H Q=>∃g c M,SInv K aj d H g c M/\(f M c).sat (λds=>∀b a,Ex H a->aC K g a b ds->Q b a) (pZ K aj W g H d)
end
section
variable{K:ave}{aj:aJ}{W:WX}{g:Gh}{H H1:Hp}{σ:L2.St}{ρ:Env}{M:Mo}
def pZ.ex{x:cZ}(e:Ex H H1)(h:pZ K aj W g H σ x):pZ K aj W g H1 σ x:=λH' c dd a r=>h H' c dd (e.trans a) r
def tQ.go{f:QF}{k:Dat->Prop}{Q:VK}(I:SInv K aj σ H g ρ M)(h:(f M ρ).sat k (pZ K aj W g H σ))(hk:∀d v a,k d->Ex H a->Rep K g a v d->Q v a):tQ K aj W f σ H Q:=
 ⟨g,ρ,M,I,h.mono (λd hd v a e r=>hk d v a hd e r) λ_ z=>z⟩
def lC.go{f:QT}{k:Bool->Prop}{Q:Bool->Hp->Prop}(I:SInv K aj σ H g ρ M)(h:(f M ρ).sat k (pZ K aj W g H σ))(hk:∀b a,k b->Ex H a->Q b a):lC K aj W f σ H Q:=
 ⟨g,ρ,M,I,h.mono (λd hd a e=>hk d a hd e) λ_ z=>z⟩
def Rx.go{f:QA}{k:List Dat->Prop}{Q:List V->Hp->Prop}(I:SInv K aj σ H g ρ M)(h:(f M ρ).sat k (pZ K aj W g H σ))(hk:∀b c a,k b->Ex H a->aC K g a c b->Q c a):Rx K aj W f σ H Q:=
 ⟨g,ρ,M,I,h.mono (λd hd v a e r=>hk d v a hd e r) λ_ z=>z⟩
end
def QE(aj:aJ)(X:Cx)(W:WX)(e:Expr)(f:QF):Prop:=PE X e (tQ X.K aj W f)
def uI(aj:aJ)(X:Cx)(W:WX)(e:Expr)(f:QT):Prop:=PT X e (lC X.K aj W f)
def Jo(aj:aJ)(X:Cx)(W:WX)(a:List Expr)(f:QA):Prop:=PA X a (Rx X.K aj W f)
def PE.weak{X:Cx}{e:Expr}{t b:TE}(h:PE X e t)(k:∀a H Q,b a H Q->t a H Q):PE X e b:=⟨λpins s a H Q I q=>h.run pins s a H Q I (k a H Q q)⟩
def PT.weak{X:Cx}{e:Expr}{t b:TT}(h:PT X e t)(k:∀a H Q,b a H Q->t a H Q):PT X e b:=⟨λpins s a H Q I q=>h.run pins s a H Q I (k a H Q q)⟩
def PA.weak{X:Cx}{e:List Expr}{t c:TA}(h:PA X e t)(k:∀b H Q,c b H Q->t b H Q):PA X e c:=⟨λpos a s b H Q I q=>h.run pos a s b H Q I (k b H Q q)⟩
@[simp]def zE (i:Nat) (_:Mo) (a:Env):Out Dat:=match a[i]? with
 |some #[d]=>.ok d
 |_=>.bad
def qC(d:Dat):QF:=λ_ _=>.ok d
@[simp]def aK (o:Dat->Dat->Out Dat) (a b:QF) (M:Mo) (c:Env):Out Dat:=(a M c).bind λx=>(b M c).bind λy=>o x y
@[simp]def dG (o:Dat->Out Dat) (a:QF) (M:Mo) (b:Env):Out Dat:=(a M b).bind o
@[simp]def bZ  (_:Mo) (_:Env):Out (List Dat):=.ok []
@[simp]def aam (a:QF) (r:QA) (M:Mo) (b:Env):Out (List Dat):=(a M b).bind λx=>(r M b).bind λxs=>.ok (x::xs)
@[simp]def bh (r:QA) (M:Mo) (a:Env):Out Dat:=(r M a).bind λxs=>Out.when (decide (xs.length<=100000)) (.ok (.tuple xs))
@[simp]def uf (r:QA) (M:Mo) (a:Env):Out Dat:=(r M a).bind λxs=>Out.when (decide (xs.length<=100000)) (.ok (.list xs))
section
variable{X:Cx}{aj:aJ}{W:WX}{a b:Expr}{fa fb:QF}{pos:Pos}
def anP{i:Nat}{x:Str}(k:X.N[i]?=some x)(m:Vis X.env.scope x)(l:(x==("__debug__" : Str))=false)(c:(x==("__classdict__" : Str))=false):QE aj X W (.Name x pos) (zE i):=
 PE.weak (pe_var k m l c) λσ H Q ⟨g,n,M,I,h⟩=>by
  unfold zE at h;left
  .next d e=>
   let⟨v,f,j⟩:=I.dat i d e
   exact⟨v,f,h v H (Ex.refl H) j⟩
  .exact awt h
def aok{i:Int}{j:Nat}:QE aj X W (.Constant (.int i) j pos) (qC (.int i)):=PE.weak pe_int λσ H Q ⟨g,c,M,I,h⟩=>h _ H (Ex.refl H) (.int i)
def amT{x:Str}{j:Nat}:QE aj X W (.Constant (.str x) j pos) (qC (.str x)):=PE.weak pe_str λσ H Q ⟨g,c,M,I,h⟩=>h _ H (Ex.refl H) (.str x)
def apZ{x:Bool}{j:Nat}:QE aj X W (.Constant (.bool x) j pos) (qC (.bool x)):=PE.weak pe_bl λσ H Q ⟨g,c,M,I,h⟩=>h _ H (Ex.refl H) (.bl x)
def anm{j:Nat}:QE aj X W (.Constant .none j pos) (qC .none):=PE.weak pe_non λσ H Q ⟨g,c,M,I,h⟩=>h _ H (Ex.refl H) .non
def ame:Jo aj X W [] bZ:=PA.weak pa_nil λσ H Q ⟨g,c,M,I,h⟩=>h [] H (Ex.refl H) .nil
def akq{e:List Expr}{i:QA}(m:QE aj X W a fa)(n:Jo aj X W e i)(o:starEach (a::e) X.env=(false,eval a X.env)::starEach e X.env):Jo aj X W (a::e) (aam fa i):=
 PA.weak (pa_cons m n o) λσ H Q ⟨g,s,M,I,h⟩=>by
  refine tQ.go I h.bnd λd v r k c r1=>?_;refine Rx.go (I.ex c) (k.bnd.mono (λ_ z=>z) λ_ z=>z.ex c) λds q j l f p=>?_;exact l (v::q) j (c.trans f) (.cons (r1.ex f (I.kd.ex c)) p)
def amd{e:List Expr}{f:QA}{k:Nat}(h:Jo aj X W e f):QE aj X W (.Tuple e k pos) (bh f):=
 PE.weak (pe_tup h) λσ H Q ⟨g,o,M,I,h⟩=>by
  refine Rx.go I h.bnd λds m n c d r1=>?_;let⟨l,c⟩:=c.lM
  have j:m.length<=100000:=by rw[r1.length];exact awv l
  refine⟨sz_of j,λp i=>c (.ref p) _ (d.trans (Ex.new i)) (.tup (st_of awA) (r1.ex (Ex.new i) (I.kd.ex d)))⟩
def Kd.fresh{g:Gh}{H:Hp}(k:Kd g H){p:Addr}(n:H p=none):¬g.A p:=λz=>by
 let⟨o,e,_⟩:=k.ob p z
 rw[n]at e;cases e
def al9{f:List Expr}{i:QA}(h:Jo aj X W f i):QE aj X W (.List f pos) (uf i):=
 PE.weak (pe_lst h) λσ H Q ⟨g,n,M,I,h⟩=>by
  refine Rx.go I h.bnd λds l m d c r1=>?_;let⟨k,d⟩:=d.lM
  have j:l.length<=100000:=by rw[r1.length];exact awv k
  refine⟨sz_of j,λp e=>d (.ref p) _ (c.trans (Ex.new e)) (.lst (.inl ⟨awA,(I.kd.ex c).fresh e⟩) (r1.ex (Ex.new e) (I.kd.ex c)))⟩
end
def dJ(K:ave)(g:Gh)(H:Hp)(v:V):Dat->Prop
 |.list c=>∃a b,v=.ref a/\SqL K H a b/\aC K g H b c
 |d=>Rep K g H v d
section
variable{K:ave}{g:Gh}{H H':Hp}{v:V}{d:Dat}
def Rep.weak(h:Rep K g H v d):dJ K g H v d:=by
 cases h with
 |lst a t=>exact⟨_,_,rfl,a.sq,t⟩
 |non=>exact .non
 |bl b=>exact .bl b
 |int i=>exact .int i
 |str x=>exact .str x
 |tup a t=>exact .tup a t
 |obj a=>exact .obj a
theorem dJ.ex(e:Ex H H')(k:Kd g H)(h:dJ K g H v d):dJ K g H' v d:=by
 cases d with
 |list j=>
  let⟨a,i,b,c,f⟩:=h
  exact⟨a,i,b,ex_l e c,f.ex e k⟩
 |_=>exact Rep.ex e k h
def cC{i:Int}(h:dJ K g H v (.int i)):v=.int i:=by cases h;rfl
def jh{x:Str}(h:dJ K g H v (.str x)):v=.str x:=by cases h;rfl
def HX{b:Bool}(h:dJ K g H v (.bool b)):v=.bl b:=by cases h;rfl
def Jx(h:dJ K g H v .none):v=.non:=by cases h;rfl
def mj{b:List Dat}(h:dJ K g H v (.tuple b)):∃a c,v=.ref a/\SqT K H a c/\aC K g H c b:=by
 cases h with
 |tup a t=>exact⟨_,_,rfl,a,t⟩
def gY{b:List Dat}(h:dJ K g H v (.list b)):∃a c,v=.ref a/\SqL K H a c/\aC K g H c b:=h
def Kh{n:Nat}(h:dJ K g H v (obj n)):∃a,v=.ref a/\g.tbl[n]?=some a:=by
 cases h with
 |obj a=>exact⟨_,rfl,a⟩
end
section
variable(K:ave)(aj:aJ)(W:WX)
def tW(f:QF):TE:=λc H Q=>∃g b M,SInv K aj c H g b M/\(f M b).sat (λd=>∀v a,Ex H a->dJ K g a v d->Q v a) (pZ K aj W g H c)
end
def tW.go{K:ave}{aj:aJ}{W:WX}{g:Gh}{H:Hp}{c:L2.St}{b:Env}{M:Mo}{f:QF}{k:Dat->Prop}{Q:VK}(I:SInv K aj c H g b M)(h:(f M b).sat k (pZ K aj W g H c))(hk:∀d v a,k d->Ex H a->dJ K g a v d->Q v a):tW K aj W f c H Q:=
 ⟨g,b,M,I,h.mono (λd hd v a e r=>hk d v a hd e r) λ_ z=>z⟩
def QW(aj:aJ)(X:Cx)(W:WX)(e:Expr)(f:QF):Prop:=PE X e (tW X.K aj W f)
def QE.w{aj:aJ}{X:Cx}{W:WX}{e:Expr}{f:QF}(h:QE aj X W e f):QW aj X W e f:=
 PE.weak h λσ H Q ⟨g,b,M,I,z⟩=>⟨g,b,M,I,z.mono (λ_ k v a e r=>k v a e r.weak) λ_ y=>y⟩
@[simp]def Wy (i:Nat) (_:Mo) (a:Env):Out Dat:=match a[i]? with
 |some #[d]=>.ok d
 |some (some (.mut xs))=>.ok (.list xs)
 |_=>.bad
def qb(aj:aJ)(K:ave)(W:WX)(o:Dat->Dat->Out Dat)(r:R2):Prop:=∀(b:L2.St) (g:Gh) (H:Hp) (x y:V) (d e:Dat) (Q:VK),Kd g H->dJ K g H x d->dJ K g H y e->
 (o d e).sat (λz=>∀v a,Ex H a->Rep K g a v z->Q v a) (pZ K aj W g H b)->r x y H Q
section
variable{X:Cx}{aj:aJ}{W:WX}{a b c:Expr}{fa fb fc:QF}{pos:Pos}
def anO{i:Nat}{x:Str}(n:X.N[i]?=some x)(p:Vis X.env.scope x)(o:(x==("__debug__" : Str))=false)(k:(x==("__classdict__" : Str))=false):QW aj X W (.Name x pos) (Wy i):=
 PE.weak (pe_var n p o k) λσ H Q ⟨g,t,M,I,h⟩=>by
  unfold Wy at h;left
  .next d e=>
   let⟨v,f,j⟩:=I.dat i d e
   exact⟨v,f,h v H (Ex.refl H) j.weak⟩
  .next r e=>
   let⟨l,q,f,j,s,m⟩:=I.own i r e
   exact⟨.ref l,f,h _ H (Ex.refl H) ⟨l,q,rfl,sq_of j,m⟩⟩
  .exact awt h
def Wi{o:Dat->Dat->Out Dat}{r:R2}(p:qb aj X.K W o r)(i:L2.St)(H:Hp)(Q:VK)(h:tQ X.K aj W (aK o fa fb) i H Q):tOp r (tW X.K aj W fa) (tW X.K aj W fb) i H Q:=by
 let⟨g,y,M,I,h⟩:=h
 refine tW.go I h.bnd λd v x m e r1=>?_;refine tW.go (I.ex e) (m.bnd.mono (λ_ z=>z) λ_ z=>z.ex e) λd2 w k n f t=>?_;refine p i g k v w d d2 Q ((I.kd.ex e).ex f) (r1.ex f (I.kd.ex e)) t (n.mono (λz q u j l s=>q u j ((e.trans f).trans l) s) λ_ z=>(z.ex e).ex f)
def anU{d:Operator}{r:R2}{o:Dat->Dat->Out Dat}(i:OpR X (binaryOp d) r)(g:qb aj X.K W o r)(e:QW aj X W a fa)(f:QW aj X W b fb):QE aj X W (.BinOp a d b pos) (aK o fa fb):=
 PE.weak (pe_op i e f) λσ H Q h=>Wi g σ H Q h
def akP{d:CmpOp}{r:R2}{o:Dat->Dat->Out Dat}(j:OpR X (compareOp d) r)(i:qb aj X.K W o r)(e:QW aj X W a fa)(f:QW aj X W b fb)(g:behindInMarks d b=false):QE aj X W (.Compare a [d] [b] pos) (aK o fa fb):=
 PE.weak (pe_cmpR j e f g) λσ H Q h=>Wi i σ H Q h
end
instance:DecidableRel CMul:=λi j=>by unfold CMul;infer_instance
instance:DecidableRel CDiv:=λi j=>by unfold CDiv;infer_instance
instance:DecidableRel CPow:=λi j=>by unfold CPow;infer_instance
def cY:Dat->Dat->Out Dat
 |.int i,.int j=>.ok (.int (i+j))
 |.str x,.str y=>Out.when (decide (x.length+y.length<=100000)) (.ok (.str (x++y)))
 |.list a,.list ys=>Out.when (decide (a.length+ys.length<=100000)) (.ok (.list (a++ys)))
 |.tuple a,.tuple ys=>Out.when (decide (a.length+ys.length<=100000)) (.ok (.tuple (a++ys)))
 |_,_=>.bad
def qU:Dat->Dat->Out Dat
 |.int i,.int j=>.ok (.int (i-j))
 |_,_=>.bad
def yw:Dat->Dat->Out Dat
 |.int i,.int j=>Out.when (decide (CMul i j)) (.ok (.int (i*j)))
 |_,_=>.bad
def Fy:Dat->Dat->Out Dat
 |.int i,.int j=>Out.when (decide (CDiv i j)) (.ok (.int (i/j)))
 |_,_=>.bad
def jY:Dat->Dat->Out Dat
 |.int i,.int j=>Out.when (decide (0<j)) (.ok (.int (i%j)))
 |_,_=>.bad
def TX:Dat->Dat->Out Dat
 |.int i,.int j=>Out.when (decide (CPow i j)) (.ok (.int (i^j.toNat)))
 |_,_=>.bad
def rCatS(K:ave):R2:=λx y H Q=>∃l b a c,x=.ref l/\y=.ref b/\SqL K H l a/\SqL K H b c/\a.length+c.length<=sizeLine/\∀p,H p=none->Q (.ref p) (upd H p (.lst (a++c)))
def aem{X:Cx}:OpR X (binaryOp .Add) (rCatS X.K):=by
 intro m s W H x y v u Q I C D h;let⟨l,b,T,U,rfl,rfl,A,z,O,q⟩:=h
 cases C;cases D;let⟨c,r,⟨⟨J,M,p,E⟩,n,e,hc,j,k⟩,_⟩:=I.list A
 let⟨a,o,⟨⟨L,N,t,G⟩,B,i,d,f,g⟩,_⟩:=I.list z
 simp only at hc j k d f g;subst hc j k d f g;have P:=r.length;have R:=o.length;have w:c.toArray++a.toArray=(c++a).toArray:=by simp
 refine concat_meets ⟨_,e,rfl⟩ ⟨_,i,rfl⟩ noFill_list_add seq_list_add PySem.F.slot_list_add PySem.F.entry_list_add (PySem.F.args_list_add_2 _ _) (list_addW l b c.toArray a.toArray n B none none E G (by rw[List.size_toArray,List.size_toArray];omega)) ⟨e,i,?_⟩;rw[w];exact⟨.ref _,_,I.lnew (t':=s.toks) (r.append o) (by rw[avP];omega),rfl,q _ I.fresh⟩
def ajN(K:ave):R2:=λx y H Q=>rI0 (λi j=>.int (i+j)) x y H Q\/(∃i j,x=.str i/\y=.str j/\i.length+j.length<=sizeLine/\Q (.str (i++j)) H)\/rCatS K x y H Q\/rCatA K x y H Q
def akI{X:Cx}:OpR X (binaryOp .Add) (ajN X.K):=by
 intro a s d H x y v u Q I b c h;rcases h with h|h|h|h
 .exact op_add a s d H x y v u Q I b c h
 .exact op_add_str a s d H x y v u Q I b c h
 .exact aem a s d H x y v u Q I b c h
 .exact op_catA a s d H x y v u Q I b c h
section
variable{K:ave}{aj:aJ}{W:WX}
def apd:qb aj K W cY (ajN K):=λσ g H x y d e Q k m n h=>by
 unfold cY at h;left
 .exact .inl ⟨_,_,cC m,cC n,h _ H (Ex.refl H) (.int _)⟩
 .let⟨j,h⟩:=h.lM
  exact .inr (.inl ⟨_,_,jh m,jh n,sz_of (awv j),h _ H (Ex.refl H) (.str _)⟩)
 .let⟨j,h⟩:=h.lM
  let⟨l,u,r,o,a⟩:=gY m
  let⟨t,c,s,q,b⟩:=gY n
  have i:=awv j;rw[<-a.length,<-b.length]at i;refine .inr (.inr (.inl ⟨l,t,u,c,r,s,o,q,sz_of i,λp f=>h _ _ (Ex.new f) (.lst (.inl ⟨awA,k.fresh f⟩) ((a.append b).ex (Ex.new f) k))⟩))
 .let⟨j,h⟩:=h.lM
  let⟨l,u,r,o,a⟩:=mj m
  let⟨t,c,s,q,b⟩:=mj n
  have i:=awv j;rw[<-a.length,<-b.length]at i;refine .inr (.inr (.inr ⟨l,t,u,c,r,s,o,q,sz_of i,λz=>?_,λ_ z=>?_,λ_ _ p f=>h _ _ (Ex.new f) (.tup (st_of awA) ((a.append b).ex (Ex.new f) k))⟩))
  .subst z;cases a;exact h _ H (Ex.refl H) (.tup q b)
  .subst z;cases b;rw[avV]at h;exact h _ H (Ex.refl H) (.tup o a)
 .exact awt h
def aps:qb aj K W qU (rI0 λi j=>.int (i-j)):=λσ g H x y d e Q k a b h=>by
 unfold qU at h;left
 .exact⟨_,_,cC a,cC b,h _ H (Ex.refl H) (.int _)⟩
 .exact awt h
def an3:qb aj K W yw (rI CMul λi j=>.int (i*j)):=λσ g H x y d e Q k b c h=>by
 unfold yw at h;left
 .let⟨a,h⟩:=h.lM
  exact⟨_,_,cC b,cC c,awv a,h _ H (Ex.refl H) (.int _)⟩
 .exact awt h
def apo:qb aj K W Fy (rI CDiv λi j=>.int (i/j)):=λσ g H x y d e Q k b c h=>by
 unfold Fy at h;left
 .let⟨a,h⟩:=h.lM
  exact⟨_,_,cC b,cC c,awv a,h _ H (Ex.refl H) (.int _)⟩
 .exact awt h
def anN:qb aj K W jY (rI (λ_ j=>0<j) λi j=>.int (i%j)):=λσ g H x y d e Q k b c h=>by
 unfold jY at h;left
 .let⟨a,h⟩:=h.lM
  exact⟨_,_,cC b,cC c,awv a,h _ H (Ex.refl H) (.int _)⟩
 .exact awt h
def aoD:qb aj K W TX (rI CPow λi j=>.int (i^j.toNat)):=λσ g H x y d e Q k b c h=>by
 unfold TX at h;left
 .let⟨a,h⟩:=h.lM
  exact⟨_,_,cC b,cC c,awv a,h _ H (Ex.refl H) (.int _)⟩
 .exact awt h
end
mutual
def okd:Nat->Dat->Bool
 |_,.none=>true
 |_,.bool _=>true
 |_,.int _=>true
 |_,.str x=>PyData.strOk x
 |n+1,.list ds=>mW n ds
 |n+1,.tuple ds=>mW n ds
 |0,.list _=>false
 |0,.tuple _=>false
 |_,.dict _=>false
def mW:Nat->List Dat->Bool
 |_,[]=>true
 |n,d::ds=>okd n d&&mW n ds
end
mutual
theorem QV:∀(n:Nat) (d:Dat),okd n d=true->d.canLay0=true/\d.depth<=n
 |n,.none,_=>⟨by simp[PyData.canLay0],by simp[PyData.depth]⟩
 |n,.bool _,_=>⟨by simp[PyData.canLay0],by simp[PyData.depth]⟩
 |n,.int _,_=>⟨by simp[PyData.canLay0],by simp[PyData.depth]⟩
 |n,.str x,h=>⟨by rw[okd]at h;simp[PyData.canLay0,h],by simp[PyData.depth]⟩
 |n+1,.list ds,h=>by
  rw[okd]at h;let⟨a,b⟩:=TJ n ds h
  exact⟨by simp[PyData.canLay0,a],by simp[PyData.depth];omega⟩
 |n+1,.tuple ds,h=>by
  rw[okd]at h;let⟨a,b⟩:=TJ n ds h
  exact⟨by simp[PyData.canLay0,a],by simp[PyData.depth];omega⟩
 |0,.list _,h=>by rw[okd]at h;cases h
 |0,.tuple _,h=>by rw[okd]at h;cases h
 |n,.dict _,h=>by rw[okd]at h;cases h
theorem TJ:∀(n:Nat) (a:List Dat),mW n a=true->PyData.canLayAll0 a=true/\PyData.depthAll a<=n
 |n,[],_=>⟨by simp[PyData.canLayAll0],by simp[PyData.depthAll]⟩
 |n,d::a,h=>by
  rw[mW,avh]at h;let⟨b,e⟩:=QV n d h.1
  let⟨c,f⟩:=TJ n a h.2
  exact⟨by simp[PyData.canLayAll0,b,c],by simp[PyData.depthAll];omega⟩
end
mutual
theorem Rep.dp{K:ave}{g:Gh}{H:Hp}:∀{n:Nat} {v:V} {d:Dat},okd n d=true->Rep K g H v d->Dp K H v d
 |_,_,_,_,.non=>.non
 |_,_,_,_,.bl b=>.bl b
 |_,_,_,_,.int i=>.int i
 |_,_,_,_,.str x=>.str x
 |n+1,_,_,f,.tup h t=>.tup h (aC.dp (n:=n) (by rw[okd]at f;exact f) t)
 |n+1,_,_,f,.lst h t=>.lst h.sq (aC.dp (n:=n) (by rw[okd]at f;exact f) t)
 |0,_,_,f,.tup h t=>by rw[okd]at f;cases f
 |0,_,_,f,.lst h t=>by rw[okd]at f;cases f
 |_,_,_,f,.obj h=>by rw[okd]at f;cases f
theorem aC.dp{K:ave}{g:Gh}{H:Hp}:∀{n:Nat} {b:List V} {a:List Dat},mW n a=true->aC K g H b a->DpAll K H b a
 |_,_,_,_,.nil=>.nil
 |n,_,_,f,.cons h t=>.cons (Rep.dp (n:=n) (by rw[mW,avh]at f;exact f.1) h) (aC.dp (n:=n) (by rw[mW,avh]at f;exact f.2) t)
end
theorem dJ.dp{K:ave}{g:Gh}{H:Hp}{n:Nat}{v:V}{d:Dat}(f:okd n d=true)(h:dJ K g H v d):Dp K H v d:=by
 cases d with
 |list e=>
  let⟨a,i,rfl,b,c⟩:=h
  cases n with
  |zero=>rw[okd]at f;cases f
  |succ n=>
   rw[okd]at f;exact .lst b (c.dp f)
 |_=>exact Rep.dp f h
def Ew{n:Nat}{d:Dat}(h:okd n d=true)(c:n<=64):SeqAt.shaped d=true:=by
 let⟨a,b⟩:=QV n d h
 unfold SeqAt.shaped;rw[a,Bool.true_and];exact decide_eq_true (avH b c)
def eqB:Dat->Dat->Out Bool
 |.int i,.int j=>.ok (i==j)
 |.str x,.str y=>.ok (x==y)
 |.bool x,.bool y=>.ok (x==y)
 |.none,.none=>.ok true
 |d,e=>Out.when (okd 12 d&&okd 12 e) (.ok (PyData.eqv d e))
def yD(d e:Dat):Out Dat:=(eqB d e).bind λb=>.ok (.bool b)
def Ae(d e:Dat):Out Dat:=(eqB d e).bind λb=>.ok (.bool (!b))
def aoK(K:ave):R2:=λx y H Q=>rEq x y H Q\/rEqD K x y H Q
def an8(K:ave):R2:=λx y H Q=>rNe x y H Q\/rNeD K x y H Q
def anJ{X:Cx}(d:X.A.units+64<cLine):OpR X (compareOp .Eq) (aoK X.K):=λpins s c H x y v u Q I a b h=>h.elim (λh=>op_eq pins s c H x y v u Q I a b h) (λh=>op_eqD d pins s c H x y v u Q I a b h)
def aoH{X:Cx}(d:X.A.units+64<cLine):OpR X (compareOp .NotEq) (an8 X.K):=λpins s c H x y v u Q I a b h=>h.elim (λh=>op_ne pins s c H x y v u Q I a b h) (λh=>op_neD d pins s c H x y v u Q I a b h)
section
variable{K:ave}{aj:aJ}{W:WX}{g:Gh}{H:Hp}
def af4{x y:V}{d e:Dat}{P:Bool->Prop}{E:cZ->Prop}(b:dJ K g H x d)(c:dJ K g H y e)(h:(eqB d e).sat P E):(scal x y=true/\P (decide (x=y)))\/(∃d e,Dp K H x d/\Dp K H y e/\SeqAt.shaped d=true/\SeqAt.shaped e=true/\P (PyData.eqv d e)):=by
 unfold eqB at h;left
 .cases cC b;cases cC c;rw[dec_int];exact .inl ⟨rfl,h⟩
 .cases jh b;cases jh c;rw[dec_str];exact .inl ⟨rfl,h⟩
 .cases HX b;cases HX c;rw[dec_bl];exact .inl ⟨rfl,h⟩
 .cases Jx b;cases Jx c;exact .inl ⟨rfl,h⟩
 .let⟨a,h⟩:=h.lM
  rw[avh]at a;exact .inr ⟨_,_,b.dp a.1,c.dp a.2,Ew a.1 #[()],Ew a.2 #[()],h⟩
def aqJ:qb aj K W yD (aoK K):=λσ g H x y d e Q k j l h=>by
 rcases af4 j l h.bnd with⟨a,b⟩|⟨d,e,a,b,c,f,i⟩
 .exact .inl ⟨a,b _ H (Ex.refl H) (.bl _)⟩
 .exact .inr ⟨d,e,a,b,c,f,i _ H (Ex.refl H) (.bl _)⟩
def aqP:qb aj K W Ae (an8 K):=λσ g H x y d e Q k j l h=>by
 rcases af4 j l h.bnd with⟨a,b⟩|⟨d,e,a,b,c,f,i⟩
 .exact .inl ⟨a,b _ H (Ex.refl H) (.bl _)⟩
 .exact .inr ⟨d,e,a,b,c,f,i _ H (Ex.refl H) (.bl _)⟩
end
def Qn:Dat->Dat->Out Dat
 |.int i,.int j=>.ok (.bool (decide (i<j)))
 |.tuple ds,.tuple es=>Out.when (okd 12 (.tuple ds)&&okd 12 (.tuple es)&&PySem.W.alike (.tuple ds) (.tuple es)) (.ok (.bool (PySem.W.dataLt (.tuple ds) (.tuple es))))
 |_,_=>.bad
def qd:Dat->Dat->Out Dat
 |.int i,.int j=>.ok (.bool (decide (i<=j)))
 |_,_=>.bad
def Ve:Dat->Dat->Out Dat
 |.int i,.int j=>.ok (.bool (decide (j<i)))
 |_,_=>.bad
def geD:Dat->Dat->Out Dat
 |.int i,.int j=>.ok (.bool (decide (j<=i)))
 |_,_=>.bad
def amh(K:ave):R2:=λx y H Q=>rI0 (λi j=>.bl (decide (i<j))) x y H Q\/Ear.VL K x y H Q
def aoN{X:Cx}(d:X.A.units+65<cLine):OpR X (compareOp .Lt) (amh X.K):=λpins s c H x y v u Q I a b h=>h.elim (λh=>op_lt pins s c H x y v u Q I a b h) (λh=>Ear.aiY d pins s c H x y v u Q I a b h)
section
variable{K:ave}{aj:aJ}{W:WX}{g:Gh}{H:Hp}
def apI:qb aj K W Qn (amh K):=λσ g H x y d e Q k b c h=>by
 unfold Qn at h;left
 .exact .inl ⟨_,_,cC b,cC c,h _ H (Ex.refl H) (.bl _)⟩
 .let⟨a,h⟩:=h.lM
  simp![avh]at a;refine .inr ?_;unfold Ear.VL;exact⟨_,_,b.dp a.1.1,c.dp a.1.2,a.2,(λz=>nomatch z),avH (QV _ _ a.1.1).2 #[()],h _ H (Ex.refl H) (.bl _)⟩
 .exact awt h
def aqf:qb aj K W qd (rI0 λi j=>.bl (decide (i<=j))):=λσ g H x y d e Q k a b h=>by
 unfold qd at h;left
 .exact⟨_,_,cC a,cC b,h _ H (Ex.refl H) (.bl _)⟩
 .exact awt h
def apB:qb aj K W Ve (rI0 λi j=>.bl (decide (j<i))):=λσ g H x y d e Q k a b h=>by
 unfold Ve at h;left
 .exact⟨_,_,cC a,cC b,h _ H (Ex.refl H) (.bl _)⟩
 .exact awt h
def aqe:qb aj K W geD (rI0 λi j=>.bl (decide (j<=i))):=λσ g H x y d e Q k a b h=>by
 unfold geD at h;left
 .exact⟨_,_,cC a,cC b,h _ H (Ex.refl H) (.bl _)⟩
 .exact awt h
end
def nQ(c:Dat):Dat->Bool
 |.none=>match c with
  |.none=>true
  |_=>false
 |.bool b=>match c with
  |.bool a=>b==a
  |_=>false
 |_=>false
def scD:Dat->Option V
 |.none=>some .non
 |.bool b=>some (.bl b)
 |_=>none
def QK{K:ave}{g:Gh}{H:Hp}{x:V}{d c:Dat}{v:V}(h:dJ K g H x d)(hc:scD c=some v):decide (x=v)=nQ c d:=by
 cases c with
 |none=>
  cases hc;cases d with
  |none=>cases Jx h;rfl
  |bool b=>cases HX h;rfl
  |int b=>cases cC h;rfl
  |str b=>cases jh h;rfl
  |list b=>let⟨a,e,rfl,_⟩:=gY h;rfl
  |tuple b=>let⟨a,e,rfl,_⟩:=mj h;rfl
  |dict b=>cases h;rfl
 |bool c=>
  cases hc;cases d with
  |none=>cases Jx h;rfl
  |bool b=>cases HX h;exact dec_bl
  |int b=>cases cC h;rfl
  |str b=>cases jh h;rfl
  |list b=>let⟨a,e,rfl,_⟩:=gY h;rfl
  |tuple b=>let⟨a,e,rfl,_⟩:=mj h;rfl
  |dict b=>cases h;rfl
 |_=>cases hc
def Tv(neg:Bool)(v:V):R2:=λx y H Q=>y=v/\Q (.bl (neg ^^ decide (x=v))) H
def afX{x v:V}{u w:Value}(e:v=.non\/∃b,v=.bl b)(a:RelV x u)(d:RelV v w):(u==w)=decide (x=v):=by
 rcases e with rfl|⟨b,rfl⟩
 .cases d;exact a.none_iff
 .cases d;rw[awg,beq_iff_eq,awu];constructor
  .rintro rfl;cases x with
   |bl c=>cases a;rfl
   |non=>cases a
   |ref _=>cases a
   |ty _=>cases a
   |_=>let⟨t,z⟩:=a;cases z
  .rintro rfl;exact a
def ZC{x v:V}{u w:Value}(c:v=.non\/∃b,v=.bl b)(a:RelV x u)(d:RelV v w):plainIs u w=true:=by rcases c with rfl | ⟨b,rfl⟩<;>(cases d;cases x<;>first | (cases a;rfl) | (let⟨t,rfl⟩:=a;rfl))
def ao9{X:Cx}{v:V}(a:v=.non\/∃b,v=.bl b):OpR X (compareOp .Is) (Tv false v):=by
 intro c s f H x y u w Q I d e h;let⟨rfl,q⟩:=h
 refine wpAny_is_plain (ZC a d e) ?_;rw[afX a d e];rw[Bool.false_xor]at q;exact⟨.bl _,H,I,rfl,q⟩
def ahk{X:Cx}{v:V}(a:v=.non\/∃b,v=.bl b):OpR X (compareOp .IsNot) (Tv true v):=by
 intro c s f H x y u w Q I d e h;let⟨rfl,q⟩:=h
 refine wpAny_isNot_plain (ZC a d e) ?_;rw[afX a d e];rw[Bool.true_xor]at q;exact⟨.bl _,H,I,rfl,q⟩
@[simp]def yK (neg:Bool) (c:Dat) (a:QF) (M:Mo) (b:Env):Out Dat:=(a M b).bind λd=>.ok (.bool (neg ^^ nQ c d))
section
variable{X:Cx}{aj:aJ}{W:WX}{a b c:Expr}{fa fb fc:QF}{pos:Pos}
def apT{f:CmpOp}{neg:Bool}{d:Dat}{v:V}(hc:scD d=some v)(o:OpR X (compareOp f) (Tv neg v))(l:QW aj X W a fa)(m:PE X b (tC v))(n:behindInMarks f b=false):QE aj X W (.Compare a [f] [b] pos) (yK neg d fa):=
 PE.weak (pe_cmpR o l m n) λσ H Q ⟨g,p,M,I,h⟩=>by
  refine tW.go I h.bnd λe x i k j r1=>?_;refine⟨rfl,?_⟩;rw[QK r1 hc];exact k _ i j (.bl _)
end
def Vr:Dat->Bool
 |.none=>true
 |.bool _=>true
 |.int _=>true
 |.str _=>true
 |_=>false
def inB:Dat->Dat->Out Bool
 |d,.list ds=>Out.when (okd 12 d&&mW 12 ds) (.ok (ds.any λz=>PyData.eqv z d))
 |d,.tuple ds=>Out.when (Vr d&&ds.all Vr) (.ok (ds.any λz=>PyData.eqv z d))
 |.str x,.str z=>match x.cps.toList with
  |[c]=>.ok (decide (c∈z.cps.toList))
  |_=>.bad
 |_,_=>.bad
def inD(neg:Bool)(d e:Dat):Out Dat:=(inB d e).bind λb=>.ok (.bool (neg ^^ b))
section
variable{K:ave}{g:Gh}{H:Hp}
def abd{v:V}{d:Dat}(f:Vr d=true)(h:Rep K g H v d):flatV v=true:=by
 cases h with
 |tup _ _=>cases f
 |lst _ _=>cases f
 |obj _=>cases f
 |_=>rfl
theorem Zr:∀{b:List V} {a:List Dat},a.all Vr=true->aC K g H b a->b.all flatV=true
 |_,_,_,.nil=>rfl
 |_,_,f,.cons h t=>by
  rw[avI,avh]at f;rw[avI,abd f.1 h,Zr f.2 t];rfl
def akz{v w:V}{d e:Dat}(f:Vr d=true)(a:Vr e=true)(h:Rep K g H v d)(c:Rep K g H w e):eqV v w=PyData.eqv d e:=by
 cases h with
 |tup _ _=>cases f
 |lst _ _=>cases f
 |obj _=>cases f
 |non=>cases c with
  |tup _ _=>cases a
  |lst _ _=>cases a
  |obj _=>cases a
  |_=>simp[eqV,PyData.eqv]
 |bl b=>cases c with
  |tup _ _=>cases a
  |lst _ _=>cases a
  |obj _=>cases a
  |_=>simp[eqV,PyData.eqv]
 |int b=>cases c with
  |tup _ _=>cases a
  |lst _ _=>cases a
  |obj _=>cases a
  |_=>simp[eqV,PyData.eqv]
 |str b=>cases c with
  |tup _ _=>cases a
  |lst _ _=>cases a
  |obj _=>cases a
  |_=>simp[eqV,PyData.eqv]
theorem ady{w:V}{e:Dat}(c:Vr e=true)(i:Rep K g H w e):∀{b:List V} {a:List Dat},a.all Vr=true->aC K g H b a->inV w b=a.any λz=>PyData.eqv z e
 |_,_,_,.nil=>rfl
 |v::b,d::a,f,.cons h t=>by
  rw[avI,avh]at f;have j:=ady c i f.2 t;unfold inV at j |-
  rw[awc,awc,j,akz f.1 c h i]
def ak5{v:V}{d:Dat}(f:Vr d=true)(h:dJ K g H v d):Rep K g H v d:=by
 cases d with
 |list _=>cases f
 |_=>exact h
end
def ab4(K:ave)(neg:Bool):R2:=λx y H Q=>(∃d b,Dp K H x d/\Dp K H y (.list b)/\SeqAt.shaped d=true/\SeqAt.shaped (.list b)=true/\Q (.bl (neg ^^ (b.any λz=>PyData.eqv z d))) H)\/
 (∃p a,y=.ref p/\(SqL K H p a\/SqT K H p a)/\flatV x=true/\a.all flatV=true/\Q (.bl (neg ^^ inV x a)) H)\/∃(c:Nat) (z:Str),x=.str ⟨(List.toArray [c])⟩/\y=.str z/\Q (.bl (neg ^^ decide (c∈z.cps.toList))) H
def am6{X:Cx}(f:X.A.units+65<cLine):OpR X (compareOp .In) (ab4 X.K false):=λpins s c H x y v u Q I a b h=>by
 unfold ab4 at h;simp![Bool.false_xor]at h;rcases h with⟨d,e,h⟩|⟨p,g,h⟩|h
 .exact op_inD f pins s c H x y v u Q I a b ⟨d,e,h⟩
 .exact op_in_seq pins s c H x y v u Q I a b ⟨p,g,h⟩
 .exact op_in_sign pins s c H x y v u Q I a b h
def ahD{X:Cx}(f:X.A.units+65<cLine):OpR X (compareOp .NotIn) (ab4 X.K true):=λpins s c H x y v u Q I a b h=>by
 unfold ab4 at h;simp![Bool.true_xor]at h;rcases h with⟨d,e,h⟩|⟨p,g,h⟩|h
 .exact op_notInD f pins s c H x y v u Q I a b ⟨d,e,h⟩
 .exact op_notIn_seq pins s c H x y v u Q I a b ⟨p,g,h⟩
 .exact op_notIn_sign pins s c H x y v u Q I a b h
def ajy{K:ave}{aj:aJ}{W:WX}{neg:Bool}:qb aj K W (inD neg) (ab4 K neg):=λσ g H x y d e Q k i j h=>by
 replace h:=Out.sat.bnd h
 unfold inB at h;left
 .next f=>
  let⟨a,h⟩:=h.lM
  rw[avh]at a;have l:okd 13 (.list f)=true:=by rw[okd];exact a.2
  exact .inl ⟨_,f,i.dp a.1,j.dp l,Ew a.1 #[()],Ew l #[()],h _ H (Ex.refl H) (.bl _)⟩
 .next f=>
  let⟨a,h⟩:=h.lM
  rw[avh]at a;let⟨p,q,rfl,o,m⟩:=mj j
  have b:=ak5 a.1 i;refine .inr (.inl ⟨p,q,rfl,.inr o,abd a.1 b,Zr a.2 m,?_⟩);rw[ady a.1 b a.2 m];exact h _ H (Ex.refl H) (.bl _)
 .next n z=>
  left
  .next c e=>
   refine .inr (.inr ⟨c,z,?_,jh j,h _ H (Ex.refl H) (.bl _)⟩);rw[jh i];congr 1;have:n.cps=(List.toArray [c]):=by apply Array.toList_inj.mp;rw[e]
   cases n;simp only at this;rw[this]
  .exact awt h
 .exact awt h
def Um:Dat->Out Dat
 |.int i=>.ok (.int (-i))
 |_=>.bad
def R9:Dat->Out Bool
 |.none=>.ok false
 |.bool b=>.ok b
 |.int i=>.ok (i != 0)
 |.str x=>Out.when (decide (x.length<=100000)) (.ok (!x.cps.toList.isEmpty))
 |.list a=>.ok (!a.isEmpty)
 |.tuple a=>.ok (!a.isEmpty)
 |_=>.bad
@[simp]def fH (a:QF) (M:Mo) (b:Env):Out Bool:=(a M b).bind R9
def G4:Dat->Out Bool
 |.bool b=>.ok b
 |_=>.bad
@[simp]def dR (a:QF) (M:Mo) (b:Env):Out Bool:=(a M b).bind G4
@[simp]def fV (a:QT) (M:Mo) (c:Env):Out Bool:=(a M c).bind λb=>.ok (!b)
@[simp]def mX (a b:QT) (M:Mo) (c:Env):Out Bool:=(a M c).bind λx=>if x=true then b M c else .ok false
@[simp]def Qh (a b:QT) (M:Mo) (c:Env):Out Bool:=(a M c).bind λx=>if x=true then .ok true else b M c
@[simp]def qOf (a:QT) (M:Mo) (c:Env):Out Dat:=(a M c).bind λb=>.ok (.bool b)
@[simp]def Om (t:QT) (a b:QF) (M:Mo) (c:Env):Out Dat:=(t M c).bind λx=>if x=true then a M c else b M c
def VB{K:ave}{g:Gh}{H:Hp}{b:List V}{a:List Dat}(h:aC K g H b a):(!a.isEmpty)=!b.isEmpty:=by cases h<;>rfl
section
variable{X:Cx}{aj:aJ}{W:WX}{a b c:Expr}{fa fb fc:QF}{ta tb:QT}{pos:Pos}
def am3(j:QW aj X W a fa):QE aj X W (.UnaryOp .USub a pos) (dG Um fa):=
 PE.weak (pe_un un_neg j) λσ H Q ⟨g,k,M,I,h⟩=>by
  refine tW.go I h.bnd λd v f e i r1=>?_;unfold Um at e;split at e
  .exact⟨_,cC r1,e _ f i (.int _)⟩
  .exact awt e
def ahB{g:Gh}{H:Hp}{v:V}{d:Dat}{P:Bool->Prop}{E:cZ->Prop}(r:dJ X.K g H v d)(h:(R9 d).sat P E):∃k,TruV X.K v H k/\P k:=by
 unfold R9 at h;left
 .cases Jx r;exact⟨_,rfl,h⟩
 .cases HX r;exact⟨_,rfl,h⟩
 .cases cC r;exact⟨_,rfl,h⟩
 .next x=>
  let⟨l,h⟩:=h.lM
  cases jh r;refine⟨_,⟨sz_of (awv l),?_⟩,h⟩;have e:x.length=x.cps.toList.length:=by rw[avS];rfl
  rw[e];cases x.cps.toList with
  |nil=>rfl
  |cons y m=>
   refine Eq.symm (bne_iff_ne.mpr ?_);simp;omega
 .let⟨p,j,rfl,f,i⟩:=gY r
  rw[VB i]at h;exact⟨_,.inl ⟨j,f,rfl⟩,h⟩
 .let⟨p,j,rfl,f,i⟩:=mj r
  rw[VB i]at h;exact⟨_,.inr (.inl ⟨j,f,rfl⟩),h⟩
 .exact awt h
def amV(n:QW aj X W a fa)(o:∀e,isTrue a X.env e=(do let v <-e;standAt a.pos;holding [v] (truthy v))):uI aj X W a (fH fa):=
 PT.weak (pt_truth n o) λσ H Q ⟨g,p,M,I,h⟩=>by
  refine tW.go I h.bnd λd v f j i r1=>?_;let⟨k,l,m⟩:=ahB r1 j
  exact⟨k,l,m f i⟩
def Eo{g:Gh}{H:Hp}{v:V}{d:Dat}{P:Bool->Prop}{E:cZ->Prop}(r:dJ X.K g H v d)(h:(G4 d).sat P E):∃k,v=.bl k/\P k:=by
 unfold G4 at h;left
 .cases HX r;exact⟨_,rfl,h⟩
 .exact awt h
def ane{e:CmpOp}{r:R2}{o:Dat->Dat->Out Dat}(t:OpR X (compareOp e) r)(s:qb aj X.K W o r)(n:QW aj X W a fa)(p:QW aj X W b fb)(q:behindInMarks e b=false):uI aj X W (.Compare a [e] [b] pos) (dR (aK o fa fb)):=
 PT.weak (pt_cmpR t n p q) λσ H Q ⟨g,w,M,I,h⟩=>by
  refine Wi s σ H _ ⟨g,w,M,I,h.bnd.mono (λd j v f i u=>?_) λ_ z=>z⟩;let⟨k,l,m⟩:=Eo u.weak j
  exact⟨k,l,m f i⟩
def aqu{f:CmpOp}{neg:Bool}{d:Dat}{v:V}(hc:scD d=some v)(o:OpR X (compareOp f) (Tv neg v))(l:QW aj X W a fa)(m:PE X b (tC v))(n:behindInMarks f b=false):uI aj X W (.Compare a [f] [b] pos) (dR (yK neg d fa)):=
 PT.weak (pt_cmpR o l m n) λσ H Q ⟨g,p,M,I,h⟩=>by
  refine tW.go I h.bnd.bnd λe x i k j r1=>?_;refine⟨rfl,_,rfl,?_⟩;rw[QK r1 hc];exact k i j
def ao7(i:uI aj X W a ta):uI aj X W (.UnaryOp .Not a pos) (fV ta):=
 PT.weak (pt_not i) λσ H Q ⟨g,j,M,I,h⟩=>lC.go I h.bnd λb d f e=>f d e
def QWt(aj:aJ)(X:Cx)(W:WX)(e:Expr)(f:QT):Prop:=PW X e (lC X.K aj W f)
def PW.weak{X:Cx}{e:Expr}{t g:TT}(h:PW X e t)(k:∀f H Q,g f H Q->t f H Q):PW X e g:=⟨λwh d s f H Q I q=>h.run wh d s f H Q I (k f H Q q)⟩
def apr{rest:List Expr}(l:uI aj X W a ta)(m:QWt aj X W (.BoolOp .And (b::rest) pos) tb):QWt aj X W (.BoolOp .And (a::b::rest) pos) (mX ta tb):=
 PW.weak (pw_and l m) λσ H Q ⟨g,n,M,I,h⟩=>by
  refine lC.go I h.bnd λx i e d=>?_;cases x with
  |true=>exact⟨g,n,M,I.ex d,e.mono (λb k f j=>k f (d.trans j)) λ_ z=>z.ex d⟩
  |false=>exact e i d
def apY{rest:List Expr}(l:uI aj X W a ta)(m:QWt aj X W (.BoolOp .Or (b::rest) pos) tb):QWt aj X W (.BoolOp .Or (a::b::rest) pos) (Qh ta tb):=
 PW.weak (pw_or l m) λσ H Q ⟨g,n,M,I,h⟩=>by
  refine lC.go I h.bnd λx i e d=>?_;cases x with
  |true=>exact e i d
  |false=>exact⟨g,n,M,I.ex d,e.mono (λb k f j=>k f (d.trans j)) λ_ z=>z.ex d⟩
def Wg(a:QF):QF:=qOf (fV (dR a))
@[simp]def Cm (a b:QF) (M:Mo) (e:Env):Out Dat:=(a M e).bind λd=>(G4 d).bind λx=>if x=true then b M e else .ok (.bool false)
def akN(m:QW aj X W a fa):QE aj X W (.UnaryOp .Not a pos) (Wg fa):=
 PE.weak (pe_not m) λσ H Q ⟨g,n,M,I,h⟩=>by
  refine tW.go I h.bnd.bnd.bnd λd v e i f r1=>?_;let⟨k,j,l⟩:=Eo r1 i
  exact⟨k,j,l _ e f (.bl _)⟩
def aj0{rest:List Expr}(o:QE aj X W a fa)(p:QE aj X W (.BoolOp .And (b::rest) pos) fb):QE aj X W (.BoolOp .And (a::b::rest) pos) (Cm fa fb):=
 PE.weak (pe_and o p) λσ H Q ⟨g,s,M,I,h⟩=>by
  refine tQ.go I h.bnd λd v j m e r1=>?_;let⟨k,n,f⟩:=Eo r1.weak m.bnd
  refine⟨k,n,?_⟩;cases k with
  |true=>exact⟨g,s,M,I.ex e,f.mono (λb k r i l q=>k r i (e.trans l) q) λ_ z=>z.ex e⟩
  |false=>exact f _ j e (.bl false)
def aji(hc:uI aj X W c ta)(n:QE aj X W a fa)(o:QE aj X W b fb):QE aj X W (.IfExp c a b pos) (Om ta fa fb):=
 PE.weak (pe_ifExp hc n o) λσ H Q ⟨g,m,M,I,h⟩=>by
  refine lC.go I h.bnd λx p l d=>?_;cases x with
  |true=>exact⟨g,m,M,I.ex d,l.mono (λb k j e f i=>k j e (d.trans f) i) λ_ z=>z.ex d⟩
  |false=>exact⟨g,m,M,I.ex d,l.mono (λb k j e f i=>k j e (d.trans f) i) λ_ z=>z.ex d⟩
def lZ(o e:Dat->Dat->Out Dat)(a b c:QF):QT:=λM d=>(a M d).bind λx=>(b M d).bind λy=>(o x y).bind λz=>(G4 z).bind λk=>if k=true then(c M d).bind λw=>(e y w).bind G4 else .ok false
def aaZ{r C:R2}{o B:Dat->Dat->Out Dat}(Y:qb aj X.K W o r)(s:qb aj X.K W B C){l:L2.St}{H:Hp}{Q:VK}{P:Bool->Hp->Prop}(A:∀k x,P k x->Q (.bl k) x)(h:lC X.K aj W (lZ o B fa fb fc) l H P):tChain r C (tW X.K aj W fa) (tW X.K aj W fb) (tW X.K aj W fc) l H Q:=by
 let⟨g,ρ,M,I,h⟩:=h
 refine tW.go I h.bnd λd v H1 O f r1=>?_;have m:=I.ex f;refine tW.go m (O.bnd.mono (λ_ z=>z) λ_ z=>z.ex f) λd2 E F R i D=>?_;have n:=m.ex i;have w:=r1.ex i m.kd;refine Y l g F v E d d2 _ n.kd w D (R.bnd.mono (λz t u G q Z=>?_) λ_ z=>(z.ex f).ex i);let⟨k,S,y⟩:=Eo Z.weak t.bnd
 refine⟨k,S,?_⟩;have p:=n.ex q;have e:=(f.trans i).trans q;cases k with
 |false=>exact A _ _ (y G e)
 |true=>
  refine tW.go p (y.bnd.mono (λ_ z=>z) λ_ z=>z.ex e) λd4 v4 J T j r4=>?_;refine s l g J E v4 d2 d4 _ (p.ex j).kd ((D.ex q n.kd).ex j p.kd) r4 (T.bnd.mono (λz t u L N r5=>?_) λ_ z=>(z.ex e).ex j);let⟨k,rfl,U⟩:=Eo r5.weak t
  exact A _ _ (U L ((e.trans j).trans N))
def ah4{g d:CmpOp}{r j:R2}{o i:Dat->Dat->Out Dat}(q:OpR X (compareOp g) r)(f:OpR X (compareOp d) j)(p:qb aj X.K W o r)(e:qb aj X.K W i j)(l:QW aj X W a fa)(m:QW aj X W b fb)(hc:QW aj X W c fc)(n:lastMarks [g,d] [b,c]=false) :
  uI aj X W (.Compare a [g,d] [b,c] pos) (lZ o i fa fb fc):=
 PT.weak (pt_chain q f l m hc n) λσ H Q h=>aaZ p e (λk s z=>⟨k,rfl,z⟩) h
def aij{i d:CmpOp}{r m:R2}{o l:Dat->Dat->Out Dat}(w:OpR X (compareOp i) r)(f:OpR X (compareOp d) m)(v:qb aj X.K W o r)(e:qb aj X.K W l m)(s:QW aj X W a fa)(t:QW aj X W b fb)(hc:QW aj X W c fc)(u:lastMarks [i,d] [b,c]=false) :
  QE aj X W (.Compare a [i,d] [b,c] pos) (qOf (lZ o l fa fb fc)):=
 PE.weak (pe_chain w f s t hc u) λσ H Q ⟨g,x,M,I,h⟩=>aaZ (P:=λb n=>Q (.bl b) n) v e (λk j z=>z) ⟨g,x,M,I,h.bnd.mono (λb q j p=>q _ j p (.bl b)) λ_ z=>z⟩
end
def Fv:Dat->Dat->Out Dat
 |.list a,.int i=>match atI a i with
  |some d=>.ok d
  |none=>.bad
 |.tuple a,.int i=>match atI a i with
  |some d=>.ok d
  |none=>.bad
 |.str z,.int i=>Out.when (decide (z.length<=100000)) (match atI z.cps.toList i with
  |some c=>.ok (.str ⟨(List.toArray [c])⟩)
  |none=>.bad)
 |_,_=>.bad
def aei{K:ave}{g:Gh}{H:Hp}{c:List V}{a:List Dat}{i:Int}{d:Dat}(h:aC K g H c a)(e:atI a i=some d):∃v,atI c i=some v/\Rep K g H v d:=by
 unfold atI at e |-
 rw[h.length];cases b:ixN a.length i with
 |none=>rw[b]at e;cases e
 |some j=>
  rw[b]at e;let⟨v,f,k⟩:=h.get (i:=j) e
  exact⟨v,f,k⟩
def ang(K:ave):R2:=λx y H Q=>rIxL K x y H Q\/rIxT K x y H Q\/rIxS x y H Q
def apf{X:Cx}:IxR X (ang X.K):=λvalue slice a s e H x y v u Q I c d h b=>by
 rcases h with h|h|h
 .exact ix_list value slice a s e H x y v u Q I c d h b
 .exact ix_tup value slice a s e H x y v u Q I c d h b
 .exact ix_str value slice a s e H x y v u Q I c d h b
def ajK{K:ave}{aj:aJ}{W:WX}:qb aj K W Fv (ang K):=λσ g H x y d e Q k l m h=>by
 unfold Fv at h;left
 .left
  .next z a=>
   let⟨p,n,rfl,b,f⟩:=gY l
   let⟨v,i,j⟩:=aei f a
   exact .inl ⟨p,n,_,v,rfl,cC m,b,i,h v H (Ex.refl H) j⟩
  .exact awt h
 .left
  .next z a=>
   let⟨p,n,rfl,b,f⟩:=mj l
   let⟨v,i,j⟩:=aei f a
   exact .inr (.inl ⟨p,n,_,v,rfl,cC m,b,i,h v H (Ex.refl H) j⟩)
  .exact awt h
 .let⟨o,h⟩:=h.lM
  left
  .next c a=>exact .inr (.inr ⟨_,_,c,jh l,cC m,sz_of (awv o),a,h _ H (Ex.refl H) (.str _)⟩)
  .exact awt h
 .exact awt h
def cutD{b:Type}(a:List b)(lo c:Option Int):List b:=(a.drop (HT.sIx a.length 0 lo)).take (HT.sIx a.length a.length c-HT.sIx a.length 0 lo)
abbrev QO:=Mo->Env->Out (Option Int)
def uW:QO:=λ_ _=>.ok none
def Ko:Dat->Out Int
 |.int i=>.ok i
 |_=>.bad
def kZ(a:QF):QO:=λM b=>(a M b).bind λd=>(Ko d).bind λi=>.ok (some i)
def slD(d:Dat)(lo b:Option Int):Out Dat:=
 match d with
 |.list a=>.ok (.list (cutD a lo b))
 |.tuple a=>.ok (.tuple (cutD a lo b))
 |.str z=>Out.when (decide (z.length<=100000)) (.ok (.str (cutS z lo b)))
 |_=>.bad
@[simp]def RW (a:QF) (lo c:QO) (M:Mo) (b:Env):Out Dat:=(a M b).bind λd=>(lo M b).bind λl=>(c M b).bind λh=>slD d l h
def tQO(K:ave)(aj:aJ)(W:WX)(f:QO):TO:=λc H Q=>∃g b M,SInv K aj c H g b M/\(f M b).sat (λo=>∀a,Ex H a->Q o a) (pZ K aj W g H c)
def QOe(aj:aJ)(X:Cx)(W:WX)(e:Option Expr)(f:QO):Prop:=PO X e (tQO X.K aj W f)
def anL(K:ave):V->Option Int->Option Int->Hp->VK->Prop:=λx lo a H Q=>rSlL K x lo a H Q\/rSlA K x lo a H Q\/rSlS x lo a H Q
def amG{X:Cx}:SlR X (anL X.K):=λpins s j H x v g i lo a f Q I e b c d h=>by
 rcases h with h|h|h
 .exact sl_list pins s j H x v g i lo a f Q I e b c d h
 .exact sl_tupA pins s j H x v g i lo a f Q I e b c d h
 .exact sl_str pins s j H x v g i lo a f Q I e b c d h
def aqb{K:ave}{g:Gh}{H:Hp}{x:V}{d:Dat}{lo i:Option Int}{Q:VK}{E:cZ->Prop}(k:Kd g H)(m:dJ K g H x d)(h:(slD d lo i).sat (λz=>∀v l,Ex H l->Rep K g l v z->Q v l) E):anL K x lo i H Q:=by
 unfold slD at h;have hc:∀{a:List V} {b:List Dat},aC K g H a b->aC K g H (cutV a lo i) (cutD b lo i):=λ{a b} t=>by
  unfold cutV cutD;rw[t.length];exact(t.drop _).take _
 left
 .let⟨p,a,rfl,j,c⟩:=gY m
  exact .inl ⟨p,a,rfl,j,λq f=>h _ _ (Ex.new f) (.lst (.inl ⟨awA,k.fresh f⟩) ((hc c).ex (Ex.new f) k))⟩
 .next b=>
  let⟨p,a,rfl,j,c⟩:=mj m
  refine .inr (.inl ⟨p,a,rfl,j,λz=>?_,λ_ q f=>h _ _ (Ex.new f) (.tup (st_of awA) ((hc c).ex (Ex.new f) k))⟩);have e:cutD b lo i=b:=by unfold cutD;rw[<-c.length,z.1,z.2,c.length];simp
  rw[e]at h;exact h _ H (Ex.refl H) (.tup j c)
 .let⟨n,h⟩:=h.lM
  exact .inr (.inr ⟨_,jh m,sz_of (awv n),h _ H (Ex.refl H) (.str _)⟩)
 .exact awt h
section
variable{X:Cx}{aj:aJ}{W:WX}{a b:Expr}{fa fb:QF}{pos p2:Pos}
def aqA(c:QW aj X W a fa)(d:QW aj X W b fb)(e:PlainIx b):QE aj X W (.Subscript a b pos) (aK Fv fa fb):=
 PE.weak (pe_ix apf c d e) λσ H Q h=>Wi ajK σ H Q h
def PO.weak{X:Cx}{e:Option Expr}{t d:TO}(h:PO X e t)(k:∀c H Q,d c H Q->t c H Q):PO X e d:=⟨λpins s c H Q I q=>h.run pins s c H Q I (k c H Q q)⟩
def alz:QOe aj X W none uW:=PO.weak po_none λσ H Q ⟨g,c,M,I,h⟩=>h H (Ex.refl H)
def al7(i:QW aj X W a fa):QOe aj X W (some a) (kZ fa):=PO.weak (po_some i) λσ H Q ⟨g,j,M,I,h⟩=>by
 refine tW.go I h.bnd λd v e c f r1=>?_;have c:=c.bnd;unfold Ko at c;split at c
 .exact⟨_,cC r1,c e f⟩
 .exact awt c
def aqm{lo n:Option Expr}{m k:QO}(w:QW aj X W a fa)(y:QOe aj X W lo m)(x:QOe aj X W n k):QE aj X W (.Subscript a (.Slice lo n none p2) pos) (RW fa m k):=
 PE.weak (pe_slice amG w y x) λσ H Q ⟨g,o,M,I,h⟩=>by
  refine tW.go I h.bnd λd v D r c r1=>?_;have f:=I.ex c;refine⟨g,o,M,f,r.bnd.mono (λl s E e=>?_) λ_ z=>z.ex c⟩;have i:=f.ex e;refine⟨g,o,M,i,s.bnd.mono (λu t F j=>?_) λ_ z=>(z.ex c).ex e⟩;exact aqb (i.ex j).kd ((r1.ex e f.kd).ex j i.kd) (t.mono (λz A C p q B=>A C p (((c.trans e).trans j).trans q) B) λ_ z=>z)
end
def Kg(aj:aJ)(K:ave)(W:WX)(o:Dat->Out Dat)(r:List V->Hp->VK->Prop):Prop:=∀(b:L2.St) (g:Gh) (H:Hp) (x:V) (d:Dat) (Q:VK),Kd g H->dJ K g H x d->
 (o d).sat (λz=>∀v a,Ex H a->Rep K g a v z->Q v a) (pZ K aj W g H b)->r [x] H Q
def Fn2(aj:aJ)(K:ave)(W:WX)(o:Dat->Dat->Out Dat)(r:List V->Hp->VK->Prop):Prop:=∀(b:L2.St) (g:Gh) (H:Hp) (x y:V) (d e:Dat) (Q:VK),Kd g H->dJ K g H x d->dJ K g H y e->
 (o d e).sat (λz=>∀v a,Ex H a->Rep K g a v z->Q v a) (pZ K aj W g H b)->r [x,y] H Q
def BV(f:Value)(x:Str):Prop:=bootBuiltins x=some f/\x≠"__name__"/\(x==("__debug__" : Str))=false
def nst:Expr->Bool
 |.Starred _ _=>false
 |_=>true
section
variable{X:Cx}{aj:aJ}{W:WX}{a b c:Expr}{fa fb fc:QF}{pos p:Pos}{x:Str}
def bH{d:PySem.Env}{a:Expr}(h:nst a=true)(e:List Expr):starEach (a::e) d=(false,eval a d)::starEach e d:=by cases a<;>first | rfl | cases h
theorem star_any{env:PySem.Env}{pos:Pos}:∀(d:List Expr),d.all nst=true->(backTo pos (starEach d env)).any (·.1)=false
 |[],_=>#[rfl]
 |a::d,h=>by
  rw[avI,avh]at h;rw[bH h.1];have e:=star_any (env:=env) (pos:=pos) d h.2;unfold backTo at e |-
  rw[avj,awc,e];rfl
def ajp{f:Value}{id:String}{r:List V->Hp->VK->Prop}{o:Dat->Out Dat}(B:f=.builtin id\/f=.type id)(hc:CallR X f r)(C:Kg aj X.K W o r)(n:Gl X x)(q:X.mg x=none)(e:BV f x)(A:QW aj X W a fa)(l:nst a=true):QE aj X W (.Call (.Name x p) [a] [] pos) (dG o fa):=by
 have i:=pa_cons A pa_nil (bH l []);have m:PE X (.Call (.Name x p) [a] [] pos) (tCB r (tCons (tW X.K aj W fa) tNil)):=by
  rcases B with rfl|rfl
  .exact pe_callB hc n q e.1 i e.2.1 e.2.2 (bH l []) #[rfl]
  .exact pe_callTy hc n q e.1 i e.2.1 e.2.2 (bH l []) #[rfl]
 refine PE.weak m λσ H Q ⟨g,F,M,I,h⟩=>?_;refine tW.go I h.bnd λd v t i j r1=>?_;exact C σ g t v d Q (I.kd.ex j) r1 (i.mono (λz D u s y E=>D u s (j.trans y) E) λ_ z=>z.ex j)
def aqz{f:Value}{id:String}{r:List V->Hp->VK->Prop}{o:Dat->Dat->Out Dat}(E:f=.builtin id\/f=.type id)(hc:CallR X f r)(F:Fn2 aj X.K W o r)(s:Gl X x)(t:X.mg x=none)(i:BV f x)(C:QW aj X W a fa)(D:QW aj X W b fb)(n:nst a=true)(e:nst b=true):QE aj X W (.Call (.Name x p) [a,b] [] pos) (aK o fa fb):=by
 have l:=pa_cons C (pa_cons D pa_nil (bH e [])) (bH n [b]);have q:PE X (.Call (.Name x p) [a,b] [] pos) (tCB r (tCons (tW X.K aj W fa) (tCons (tW X.K aj W fb) tNil))):=by
  rcases E with rfl|rfl
  .exact pe_callB hc s t i.1 l i.2.1 i.2.2 (bH n [b]) (star_any [b] (by simp[e]))
  .exact pe_callTy hc s t i.1 l i.2.1 i.2.2 (bH n [b]) (star_any [b] (by simp[e]))
 refine PE.weak q λσ H Q ⟨g,P,M,I,h⟩=>?_;refine tW.go I h.bnd λd v O l j r1=>?_;have m:=I.ex j;refine tW.go m (l.bnd.mono (λ_ z=>z) λ_ z=>z.ex j) λd2 N y B k L=>?_;exact F σ g y v N d d2 Q (m.ex k).kd (r1.ex k m.kd) L (B.mono (λz G u w A J=>G u w ((j.trans k).trans A) J) λ_ z=>(z.ex j).ex k)
end
def iQ:Dat->Out Dat
 |.list a=>.ok (.int a.length)
 |.tuple a=>.ok (.int a.length)
 |.str x=>Out.when (decide (x.length<=100000)) (.ok (.int x.length))
 |_=>.bad
def Yu:Dat->Out Dat
 |.int i=>.ok (.int (if i<0 then -i else i))
 |_=>.bad
def wZ:Dat->Dat->Out Dat
 |.int i,.int j=>.ok (.int (if j>i then j else i))
 |_,_=>.bad
def xM:Dat->Dat->Out Dat
 |.int i,.int j=>.ok (.int (if j<i then j else i))
 |_,_=>.bad
def intsOf:List Dat->Option (List Int)
 |[]=>some []
 |.int i::r=>(intsOf r).map (i::·)
 |_::_=>none
def sJ:List Dat->Option (List Bool)
 |[]=>some []
 |.bool i::r=>(sJ r).map (i::·)
 |_::_=>none
theorem Ky{K:ave}{g:Gh}{H:Hp}:∀{f:List V} {a:List Dat} {b:List Int},aC K g H f a->intsOf a=some b->f=b.map V.int
 |_,_,b,.nil,e=>by cases e;rfl
 |_,_,b,.cons (d:=d) (ds:=a) h t,e=>by
  cases d with
  |int i=>
   rw[intsOf]at e;cases c:intsOf a with
   |none=>rw[c]at e;cases e
   |some r=>
    rw[c]at e;cases e;cases h;rw[Ky t c];rfl
  |_=>cases e
theorem Pa{K:ave}{g:Gh}{H:Hp}:∀{f:List V} {a:List Dat} {b:List Bool},aC K g H f a->sJ a=some b->f=b.map V.bl
 |_,_,b,.nil,e=>by cases e;rfl
 |_,_,b,.cons (d:=d) (ds:=a) h t,e=>by
  cases d with
  |bool i=>
   rw[sJ]at e;cases c:sJ a with
   |none=>rw[c]at e;cases e
   |some r=>
    rw[c]at e;cases e;cases h;rw[Pa t c];rfl
  |_=>cases e
@[simp]def mV (a:List Int):intsOf (a.map PyData.int)=some a:=by
 induction a with
 |nil=>rfl
 |cons n a b=>rw[avj,intsOf,b];rfl
@[simp]def CV (a:List Bool):sJ (a.map PyData.bool)=some a:=by
 induction a with
 |nil=>rfl
 |cons n a b=>rw[avj,sJ,b];rfl
def acA:Dat->Out Dat
 |.list a=>match intsOf a with
  |some b=>.ok (.int b.sum)
  |none=>.bad
 |_=>.bad
def Ig:Int->List Int->Int
 |m,[]=>m
 |m,n::ns=>Ig (if n>m then n else m) ns
theorem ZF:∀(a:List Int) (m:Int),(Ig m a∈m::a)/\∀y∈m::a,y<=Ig m a
 |[],m=>⟨by simp[Ig],λy h=>by simp at h;subst h;exact Int.le_refl _⟩
 |n::a,m=>by
  let⟨d,c⟩:=ZF a (if n>m then n else m)
  have g:m<=(if n>m then n else m):=by split<;>omega
  have i:n<=(if n>m then n else m):=by split<;>omega
  have f:=c _ avl;refine⟨?_,λy b=>?_⟩
  .show Ig (if n>m then n else m) a∈_;rcases avw.mp d with e|e
   .rw[e];split
    .exact avk _ avl
    .exact avl
   .exact avk _ (avk _ e)
  .show y<=Ig (if n>m then n else m) a;rcases avw.mp b with e|b
   .omega
   .rcases avw.mp b with e|b
    .omega
    .exact c y (avk _ b)
def maxD:Dat->Out Dat
 |.list a=>match intsOf a with
  |some (n::b)=>.ok (.int (Ig n b))
  |_=>.bad
 |_=>.bad
def Mh:Dat->Out Dat
 |.list b=>match sJ b with
  |some a=>.ok (.bool (a.all id))
  |none=>.bad
 |_=>.bad
def S9:Dat->Out Dat
 |.list b=>match sJ b with
  |some a=>.ok (.bool (a.any id))
  |none=>.bad
 |_=>.bad
def lX:Dat->Out Dat
 |.list a=>.ok (.tuple a)
 |.tuple a=>.ok (.tuple a)
 |_=>.bad
def HS:Dat->Out Dat
 |.list a=>.ok (.list a)
 |.tuple a=>.ok (.list a)
 |_=>.bad
def intD:Dat->Out Dat
 |.int i=>.ok (.int i)
 |.bool k=>.ok (.int (if k then 1 else 0))
 |.str x=>Out.when (decide (x.length<=640)) (match PySem.intText? x with
  |some n=>.ok (.int n)
  |none=>.bad)
 |_=>.bad
def abH:Dat->Out Dat
 |.int i=>Out.when (decide (i.natAbs.log2<1920)) (.ok (.str (toString i)))
 |_=>.bad
def ajz(K:ave):List V->Hp->VK->Prop:=λb H Q=>(∃p a,b=[.ref p]/\(SqL K H p a\/SqT K H p a)/\Q (.int a.length) H)\/∃z,b=[.str z]/\z.length<=sizeLine/\Q (.int z.length) H
def am8{X:Cx}:CallR X (.builtin "len") (ajz X.K):=λpins s c H b a Q I r h=>h.elim (λh=>call_len_seq pins s c H b a Q I r h) λh=>call_len_str pins s c H b a Q I r h
def ajI:List V->Hp->VK->Prop:=λb H Q=>((∃i,b=[.int i]/\Q (.int i) H)\/∃k,b=[.bl k]/\Q (.int (if k then 1 else 0)) H)\/∃a n,b=[.str a]/\PySem.intText? a=some n/\a.length<=640/\Q (.int n) H
def aoP{X:Cx}:CallR X (.type "int") ajI:=λpins s c H b a Q I r h=>h.elim (λh=>call_int1 pins s c H b a Q I r h) λh=>call_int_str pins s c H b a Q I r h
section
variable{K:ave}{aj:aJ}{W:WX}
def anW:Kg aj K W iQ (ajz K):=λσ g H x d Q k c h=>by
 unfold iQ at h;left
 .let⟨p,e,rfl,a,b⟩:=gY c
  rw[<-b.length]at h;exact .inl ⟨p,e,rfl,.inl a,h _ H (Ex.refl H) (.int _)⟩
 .let⟨p,e,rfl,a,b⟩:=mj c
  rw[<-b.length]at h;exact .inl ⟨p,e,rfl,.inr a,h _ H (Ex.refl H) (.int _)⟩
 .let⟨f,h⟩:=h.lM
  cases jh c;exact .inr ⟨_,rfl,sz_of (awv f),h _ H (Ex.refl H) (.int _)⟩
 .exact awt h
def apn:Kg aj K W Yu (λb H Q=>∃i,b=[.int i]/\Q (.int (if i<0 then -i else i)) H):=λσ g H x d Q k a h=>by
 unfold Yu at h;left
 .cases cC a;exact⟨_,rfl,h _ H (Ex.refl H) (.int _)⟩
 .exact awt h
def aks:Fn2 aj K W wZ (λc H Q=>∃i j,c=[.int i,.int j]/\Q (.int (if j>i then j else i)) H):=λσ g H x y d e Q k a b h=>by
 unfold wZ at h;left
 .cases cC a;cases cC b;exact⟨_,_,rfl,h _ H (Ex.refl H) (.int _)⟩
 .exact awt h
def al5:Fn2 aj K W xM (λc H Q=>∃i j,c=[.int i,.int j]/\Q (.int (if j<i then j else i)) H):=λσ g H x y d e Q k a b h=>by
 unfold xM at h;left
 .cases cC a;cases cC b;exact⟨_,_,rfl,h _ H (Ex.refl H) (.int _)⟩
 .exact awt h
def aow:Kg aj K W acA (rSum K):=λσ g H x d Q k f h=>by
 unfold acA at h;left
 .left
  .next c e=>
   let⟨p,i,rfl,a,b⟩:=gY f
   have:=Ky b e;subst this;exact⟨p,c,rfl,a,h _ H (Ex.refl H) (.int _)⟩
  .exact awt h
 .exact awt h
def ama:Kg aj K W maxD (rMax K):=λσ g H x d Q k q h=>by
 unfold maxD at h;left
 .left
  .next n a e=>
   let⟨p,r,rfl,c,f⟩:=gY q
   have:=Ky f e;subst this;let⟨l,o⟩:=ZF a n
   refine⟨p,n::a,rfl,c,by simp,λm i j=>?_⟩;have b:m=Ig n a:=Int.le_antisymm (o m i) (j _ l);rw[b];exact h _ H (Ex.refl H) (.int _)
  .exact awt h
 .exact awt h
def apk:Kg aj K W Mh (rAll K):=λσ g H x d Q k f h=>by
 unfold Mh at h;left
 .left
  .next c e=>
   let⟨p,i,rfl,a,b⟩:=gY f
   have:=Pa b e;subst this;exact⟨p,c,rfl,a,h _ H (Ex.refl H) (.bl _)⟩
  .exact awt h
 .exact awt h
def aoL:Kg aj K W S9 (rAny K):=λσ g H x d Q k f h=>by
 unfold S9 at h;left
 .left
  .next c e=>
   let⟨p,i,rfl,a,b⟩:=gY f
   have:=Pa b e;subst this;exact⟨p,c,rfl,a,h _ H (Ex.refl H) (.bl _)⟩
  .exact awt h
 .exact awt h
def aik:Kg aj K W lX (λj H Q=>∃p e,j=[.ref p]/\((SqL K H p e/\∀l,H l=none->Q (.ref l) (upd H l (.tup e)))\/(SqT K H p e/\Q (.ref p) H))):=λσ g H x d Q k i h=>by
 unfold lX at h;left
 .let⟨p,c,rfl,a,b⟩:=gY i
  exact⟨p,c,rfl,.inl ⟨a,λl f=>h _ _ (Ex.new f) (.tup (st_of awA) (b.ex (Ex.new f) k))⟩⟩
 .let⟨p,c,rfl,a,b⟩:=mj i
  exact⟨p,c,rfl,.inr ⟨a,h _ H (Ex.refl H) (.tup a b)⟩⟩
 .exact awt h
def ak8:Kg aj K W HS (λj H Q=>∃p f,j=[.ref p]/\(SqL K H p f\/SqT K H p f)/\∀l,H l=none->Q (.ref l) (upd H l (.lst f))):=λσ g H x d Q k i h=>by
 unfold HS at h;left
 .let⟨p,e,rfl,b,c⟩:=gY i
  exact⟨p,e,rfl,.inl b,λl a=>h _ _ (Ex.new a) (.lst (.inl ⟨awA,k.fresh a⟩) (c.ex (Ex.new a) k))⟩
 .let⟨p,e,rfl,b,c⟩:=mj i
  exact⟨p,e,rfl,.inr b,λl a=>h _ _ (Ex.new a) (.lst (.inl ⟨awA,k.fresh a⟩) (c.ex (Ex.new a) k))⟩
 .exact awt h
def anf:Kg aj K W intD ajI:=λσ g H x d Q k a h=>by
 unfold intD at h;left
 .cases cC a;exact .inl (.inl ⟨_,rfl,h _ H (Ex.refl H) (.int _)⟩)
 .cases HX a;exact .inl (.inr ⟨_,rfl,h _ H (Ex.refl H) (.int _)⟩)
 .let⟨b,h⟩:=h.lM
  left
  .next n e=>
   cases jh a;exact .inr ⟨_,n,rfl,e,awv b,h _ H (Ex.refl H) (.int _)⟩
  .exact awt h
 .exact awt h
def amq:Kg aj K W abH (λc H Q=>∃i,c=[.int i]/\i.natAbs.log2<1920/\Q (.str (toString i)) H):=λσ g H x d Q k b h=>by
 unfold abH at h;left
 .let⟨a,h⟩:=h.lM
  cases cC b;exact⟨_,rfl,awv a,h _ H (Ex.refl H) (.str _)⟩
 .exact awt h
end
inductive O2 where
 |int|bool|str|tuple|list
def O2.name:O2->String
 |.int=>"int"
 |.bool=>"bool"
 |.str=>"str"
 |.tuple=>"tuple"
 |.list=>"list"
def Dy(t:O2):Dat->Option Bool
 |.none=>some false
 |.int _=>some (match t with
  |.int=>true
  |_=>false)
 |.bool _=>some (match t with
  |.int=>true
  |.bool=>true
  |_=>false)
 |.str _=>some (match t with
  |.str=>true
  |_=>false)
 |.tuple _=>some (match t with
  |.tuple=>true
  |_=>false)
 |.list _=>some (match t with
  |.list=>true
  |_=>false)
 |.dict _=>none
def Az(t:O2)(d:Dat):Out Dat:=match Dy t d with
 |some b=>.ok (.bool b)
 |none=>.bad
def ai2:Dat->String
 |.none=>"NoneType"
 |.int _=>"int"
 |.bool _=>"bool"
 |.str _=>"str"
 |.tuple _=>"tuple"
 |.list _=>"list"
 |.dict _=>"dict"
def aoU{K:ave}{H:Hp}{a:Addr}{d:List V}(h:SqL K H a d):TyX K H (.ref a) (.type "list"):=by
 rcases h with(h|⟨o,h⟩)|⟨o,its,n,b,c,_⟩
 .exact .base (.lst h)
 .exact .base (.frz h)
 .exact .kList b c
def anV{K:ave}{H:Hp}{a:Addr}{d:List V}(h:SqT K H a d):TyX K H (.ref a) (.type "tuple"):=by
 rcases h with(h|⟨o,h⟩)|⟨o,its,n,b,c,_⟩
 .exact .base (.tup h)
 .exact .fTuple h
 .exact .kTuple b c
def ap1{K:ave}{g:Gh}{H:Hp}{x:V}{d:Dat}(h:dJ K g H x d)(f:∀e,d≠.dict e):TyX K H x (.type (ai2 d)):=by
 cases d with
 |none=>cases Jx h;exact .base .non
 |bool b=>cases HX h;exact .base (.bl _)
 |int b=>cases cC h;exact .base (.int _)
 |str b=>cases jh h;exact .base (.str _)
 |list b=>let⟨a,i,rfl,c,_⟩:=gY h;exact aoU c
 |tuple b=>let⟨a,i,rfl,c,_⟩:=mj h;exact anV c
 |dict e=>exact absurd rfl (f e)
def akK{K:ave}{t:O2}{d:Dat}{b:Bool}(h:Dy t d=some b):PySem.W.kitOne K (.type (ai2 d)) (.type t.name)=some b/\∀a,d≠.dict a:=by
 cases d with
 |dict a=>cases h
 |_=>cases t<;>cases h<;>exact⟨kit_ty (by dsimp only[ai2,O2.name];decide +kernel),λ_ z=>nomatch z⟩
def zf(t:O2)(a:QF):QF:=dG (Az t) a
section
variable{X:Cx}{aj:aJ}{W:WX}{a b:Expr}{fa:QF}{pos p p2:Pos}{x y:Str}
def anr{t:O2}(u:Gl X x)(w:X.mg x=none)(k:BV (.builtin "isinstance") x)(i:Gl X y)(j:X.mg y=none)(c:BV (.type t.name) y)(r:QW aj X W a fa)(m:nst a=true):QE aj X W (.Call (.Name x p) [a,.Name y p2] [] pos) (zf t fa):=by
 have s:PE X (.Name y p2) (tC (.ty t.name)):=pe_bltn i j c.1 rfl c.2.1 c.2.2;have f:=pa_cons r (pa_cons s pa_nil (bH (a:=.Name y p2) rfl [])) (bH m [.Name y p2]);have l:=pe_callB (pos:=pos) (p:=p) call_isi u w k.1 f k.2.1 k.2.2 (bH m [.Name y p2]) (star_any [.Name y p2] rfl);refine PE.weak l λσ H Q ⟨g,B,M,I,h⟩=>?_;refine tW.go I h.bnd λd v n f q r1=>?_;unfold Az at f;split at f
 .next o e=>
  let⟨z,A⟩:=akK (K:=X.K) e
  exact⟨v,_,_,_,o,rfl,.ty _,ap1 r1 A,z,f _ n q (.bl _)⟩
 .exact awt f
end
inductive Src where
 |lst (a:Addr)|tup (a:Addr)|str (x:Str)
def chars(x:Str):List V:=x.cps.toList.map λc=>V.str ⟨(List.toArray [c])⟩
def Src.sq(K:ave)(H:Hp)(us:List V):Src->Prop
 |.lst a=>SqL K H a us
 |.tup a=>SqT K H a us
 |.str x=>us=chars x
def Src.it(h:Heap)(i:Addr)(n:Nat):Src->Prop
 |.lst a=>h.IsListIter i a n
 |.tup a=>h.IsTupleIter i a n
 |.str x=>∃t,h.IsStrIter i (strIterType x) x t n
def Src.ad:Src->List Addr
 |.lst a=>[a]
 |.tup a=>[a]
 |.str _=>[]
section
variable{X:Cx}{pins:List (Addr×Obj)}{σ:L2.St}{H:Hp}{s:Shared}
def Src.inj{S:Src}{us c:List V}(I:L2.Inv X pins σ H s)(h:S.sq X.K H us)(b:S.sq X.K H c):us=c:=by
 cases S with
 |lst a=>exact I.list_inj h b
 |tup a=>exact I.tuple_inj h b
 |str x=>exact Eq.trans h (Eq.symm b)
def Src.draws{S:Src}{us:List V}{i:Addr}{n:Nat}(I:L2.Inv X pins σ H s)(k:X.A.handled=none)(hs:S.sq X.K H us)(d:S.it s.heap i n)(e:∀a∈S.ad,a≠i) :
  ∃(P:Nat->Value->Prop) (St:Nat->Heap->Prop),Draws X.prog X.w X.A.in1 i (i::S.ad) us.length P St/\St n s.heap/\(∀m h,St m h->S.it h i m)/\∀(m:Nat) (v:Value) (x:V),P m v->us[m]?=some x->RelV x v:=by
 cases S with
 |lst a=>
  let⟨b,g,p,r⟩:=I.list hs
  have hl:=g.length;have D:=Draws.list (prog:=X.prog) (w:=X.w) (A:=X.A.in1) k i a (e a (by simp[Src.ad])) b.toArray;rw[List.size_toArray,<-hl]at D;refine⟨_,_,D,⟨d,p.isList⟩,λm h z=>z.1,λm v x f o=>?_⟩;let⟨u,l,q⟩:=g.get o
  have:v=u:=avA (f.symm.trans (by simpa using l));rw[this];exact q
 |tup a=>
  let⟨b,g,p,r⟩:=I.tuple hs
  have hl:=g.length;have D:=Draws.tuple (prog:=X.prog) (w:=X.w) (A:=X.A.in1) k i a (e a (by simp[Src.ad])) b.toArray;rw[List.size_toArray,<-hl]at D;refine⟨_,_,D,⟨d,p⟩,λm h z=>z.1,λm v x f o=>?_⟩;let⟨u,l,q⟩:=g.get o
  have:v=u:=avA (f.symm.trans (by simpa using l));rw[this];exact q
 |str x=>
  let⟨t,d⟩:=d
  have hl:us.length=x.cps.size:=by rw[show us=chars x from hs];unfold chars;rw[avs,avS]
  have D:=Draws.text (prog:=X.prog) (w:=X.w) (A:=X.A.in1) k i x t;rw[<-hl]at D;refine⟨_,_,D,d,λm h z=>⟨t,z⟩,λm v y f j=>?_⟩;let⟨c,u,hc,rfl⟩:=f
  rw[show us=chars x from hs]at j;unfold chars at j;rw[avy,av0,hc]at j;cases j;exact⟨u,rfl⟩
def Src.QM{S:Src}{h:Heap}{i:Addr}{n:Nat}(b:S.it h i n):∃o,h.get? i=some o/\∀v,o.data≠.cell v:=by
 cases S with
 |lst a=>let⟨o,e,_,d⟩:=b;exact⟨o,e,λv q=>by rw[d]at q;cases q⟩
 |tup a=>let⟨o,e,_,d⟩:=b;exact⟨o,e,λv q=>by rw[d]at q;cases q⟩
 |str x=>let⟨t,o,e,_,d⟩:=b;exact⟨o,e,λv q=>by rw[d]at q;cases q⟩
def Src.Qv{S:Src}{h c:Heap}{i:Addr}{n:Nat}(b:S.it h i n)(k:∀o,h.get? i=some o->c.get? i=some o):S.it c i n:=by
 cases S with
 |lst a=>exact b.at k
 |tup a=>exact b.at k
 |str x=>let⟨t,o,e,r⟩:=b;exact⟨t,o,k o e,r⟩
end
def ItE(K:ave)(S:Src)(b:Int):It:=
 ⟨λi H=>∃(a:List V) (x:V),S.sq K H a/\a[i]?=some x,λi H v c=>∃T x,v=.ref T/\H T=none/\c=upd H T (.tup [.int (b+(i:Int)),x])/\∀a,S.sq K H a->a[i]?=some x,λi H=>∃a:List V,S.sq K H a/\a.length=i⟩
def aqN{P:Program}{w:World}{K:ave}{elts:List Expr}{kk:Nat}{tpos:Pos}(S:Src)(e i0:Addr)(k₀:Int)(hne:e≠i0)(ha:∀a∈S.ad,e≠a/\a≠i0) :
  Turn P w K (.Tuple elts kk tpos) (ItE K S k₀) [e,i0] e (λi h=>(∃old,IsEnum h e i0 (k₀+(i:Int)) old)/\S.it h i0 i) where
 mem:=by simp
 obj:=λi h st b hb=>by
  let⟨⟨old,he⟩,hi⟩:=st
  have e':b=e\/b=i0:=by simpa using hb
  rcases e' with z|z
  .rw[z];exact⟨_,he,λv q=>nomatch q⟩
  .rw[z];exact Src.QM hi
 keep:=λi h h' st k=>let⟨⟨old,he⟩,hi⟩:=st;⟨⟨old,k e (by simp) _ he⟩,Src.Qv hi λo q=>k i0 (by simp) o q⟩
 item:=by
  intro X hP hw hK hc i pins s σ H E I hf st hg;subst hP hw hK;let⟨⟨old,he⟩,hit⟩:=st
  let⟨us,x,hq,hx⟩:=hg
  let⟨PP,St,D,st0,stI,rel⟩:=Src.draws I (I.ok.hd hc) hq hit λa z=>(ha a z).2
  have hel:e<s.heap.objs.size:=Heap.lt_size he;have hil:i0<s.heap.objs.size:=by let⟨_,q,_⟩:=Src.QM hit;exact Heap.lt_size q
  have hin:i<us.length:=(avf.mp hx).1;refine wpAny_pyNext_enum_itemC D he st0 hin hne (λz=>?_) λv h' tk hP ho hst' hT hsz hk=>?_
  .rcases avw.mp z with z|z
   .exact hne z
   .exact(ha e z).1 rfl
  have ru:=rel i v x hP hx;refine⟨_,rfl,wpAny_letOwnedTupleGo_enum (s:={ s with heap:=h',toks:=tk+1 }) ho λh'' he' sb=>?_⟩;have hT2:h''.get? s.heap.objs.size=some { cls:=.type "tuple",data:=.seq (List.toArray [.int (k₀+(i:Int)) tk,v]) }:=(sb.2 _ (Nat.ne_of_gt hel)).trans hT
  have new:ObjOk X.prog X.w (upd H s.heap.objs.size (.tup [.int (k₀+(i:Int)),x])) h'' s.heap.objs.size (.tup [.int (k₀+(i:Int)),x]):=
   ⟨by show 2<=sizeLine;decide,[.int (k₀+(i:Int)) tk,v],.cons ⟨_,rfl⟩ (.cons ru .nil),⟨_,hT2,rfl,_,rfl⟩⟩
  have I1:L2.Inv X pins σ (upd H s.heap.objs.size (.tup [.int (k₀+(i:Int)),x])) { s with heap:=h'',toks:=tk+1 }:=
   I.turnedNew (ch:=[e,i0]) (λb ob hb q=>(sb.2 b (λz=>hb (by simp[z]))).trans (hk b ob (λz=>hb (by simp[z])) (λz=>hb (by simp[z])) q)) hf (avE _) new
  refine⟨.ref s.heap.objs.size,_,I1,rfl,⟨_,x,rfl,I.hok.fresh (avE _),rfl,λys hy=>by rw[Src.inj I hy hq];exact hx⟩,⟨⟨v,?_⟩,Src.Qv (stI _ _ hst') λo q=>(sb.2 i0 (Ne.symm hne)).trans q⟩,λb hb=>?_⟩
  .have e1:k₀+((i+1:Nat):Int)=k₀+(i:Int)+1:=#[];rw[e1];exact he'
  .have hb':b<s.heap.objs.size:=by
    have e':b=e\/b=i0:=by simpa using hb
    rcases e' with z|z
    .rw[z];exact hel
    .rw[z];exact hil
   rw[upd_ne (avT hb')];exact(hf b hb).1
 done:=by
  intro X hP hw hK hc i pins s σ H E I hf st hg;subst hP hw hK;let⟨⟨old,he⟩,hit⟩:=st
  let⟨us,hq,hx⟩:=hg
  let⟨PP,St,D,st0,stI,rel⟩:=Src.draws I (I.ok.hd hc) hq hit λa z=>(ha a z).2
  let⟨f0,f1,f2,f3,f4,f5⟩:=hf i0 (by simp)
  rw[<-hx]at st0;exact wpAny_pyNext_enum_endD D he st0 λh' eb=>⟨rfl,I.turned (t':=s.toks) (λb o hb q=>eb b o hb q) f0 f1 f3 f4 f5⟩
 self:=λA i s Q E st h=>let⟨⟨_,he⟩,_⟩:=st;wpAny_pyIter_enum he h
def Src.begins{X:Cx}{f:List (Addr×Obj)}{m:L2.St}{H:Hp}{s:Shared}{S:Src}{us:List V}{x:V}{v:Value}(I:L2.Inv X f m H s)(hs:S.sq X.K H us)(j:(∃a,x=.ref a/\S.ad=[a]/\(S=.lst a\/S=.tup a))\/∃y,S=.str y/\x=.str y)(r:RelV x v) :
  ∃(o:Obj) (B:Heap->Prop),Begins v o B/\B s.heap/\(∀h i,h.get? i=some o->S.it h i 0)/\∀a∈S.ad,a<s.heap.objs.size:=by
 rcases j with⟨a,rfl,g,h|h⟩|⟨y,h,rfl⟩
 .subst h;cases r;let⟨d,l,p,_⟩:=I.list hs
  let⟨k,c,_⟩:=id p.isList
  refine⟨_,_,begins_list a d.toArray,p.isList,λh i e=>⟨_,e,rfl,rfl⟩,λb hb=>?_⟩;rw[g]at hb;rw[avp.mp hb];exact Heap.lt_size c
 .subst h;cases r;let⟨d,l,p,_⟩:=I.tuple hs
  let⟨k,c,_⟩:=id p
  refine⟨_,_,begins_tuple a d.toArray,p,λh i e=>⟨_,e,rfl,rfl⟩,λb hb=>?_⟩;rw[g]at hb;rw[avp.mp hb];exact Heap.lt_size c
 .subst h;let⟨t,rfl⟩:=r
  exact⟨_,_,begins_text y t,awr,λh i e=>⟨t,_,e,rfl,rfl⟩,λb hb=>nomatch hb⟩
def srcOf(x:V)(S:Src):Prop:=(∃a,x=.ref a/\S.ad=[a]/\(S=.lst a\/S=.tup a))\/∃y,S=.str y/\x=.str y
def iEn(K:ave)(c:TA)(a:Int):TI:=λσ H R=>c σ H λe b=>∃x S d,e=[x]/\srcOf x S/\S.sq K b d/\R (ItE K S a) b
section
variable{X:Cx}{a b:Expr}{ta tb:TA}{p pos tpos:Pos}{elts:List Expr}{kk:Nat}
def aoV{c:List (Addr×Obj)}{g:L2.St}{H:Hp}{s:Shared}(I:L2.Inv X c g H s):∀b∈[s.heap.objs.size+1,s.heap.objs.size],FpOk X c H b:=λb f=>by
 have e:b=s.heap.objs.size+1\/b=s.heap.objs.size:=by simpa using f
 have d:s.heap.objs.size<=b:=by
  rcases e with z|z
  .rw[z];exact Nat.le_add_right _ _
  .rw[z];exact avE _
 exact I.fpOk d (I.hok.fresh d)
def ajP{d:List (Addr×Obj)}{g:L2.St}{H:Hp}{s:Shared}{S:Src}{us:List V}{x:V}{v:Value}{o:Obj}{c:Int}{R:It->Hp->Prop}{e:Heap}(I:L2.Inv X d g H s)(f:∀a∈S.ad,a<s.heap.objs.size)(hit:∀h i,h.get? i=some o->S.it h i 0)
  (j:IsEnum e (s.heap.objs.size+1) s.heap.objs.size c .none) (l:e.get? s.heap.objs.size=some o) (hk:∀b o,s.heap.get? b=some o->e.get? b=some o) (q:R (ItE X.K S c) H) :
  wpAny (model X.prog X.w) X.A (pyIter (.ref (s.heap.objs.size+1))) (PIE X d g (.Tuple elts kk tpos) R) X.xe { s with heap:=e }:=by
 refine wpAny_pyIter_enum j ?_;have k:L2.Inv X d g H { s with heap:=e }:=I.kept (t':=s.toks) hk;refine⟨s.heap.objs.size+1,[s.heap.objs.size+1,s.heap.objs.size],_,_,H,rfl,k,aqN S (s.heap.objs.size+1) s.heap.objs.size c (Nat.succ_ne_self _) (λa z=>?_),⟨⟨.none,?_⟩,hit _ _ l⟩,aoV I,q⟩
 .have:=f a z;exact⟨Nat.ne_of_gt (av8 this),avT this⟩
 .rw[show c+((0:Nat):Int)=c by simp];exact j
def aiW{v:Value}{o:Obj}{B:Heap->Prop}(l:Begins v o B) :
  Meets (Builtin.«enumerate.__new__» ⟨[.type "enumerate",v],[]⟩) (λ_ R s=>B s.heap/\
   R (.ok (.ret (.ref (s.heap.push o).objs.size))) { s with heap:=(s.heap.push o).push { cls:=.type "enumerate",data:=.fields (List.toArray [.none,.bool false,.ref s.heap.objs.size,rawInt 0,.none,.none]) } }):=
 .of_wp λprog w A R s n=>by
  let⟨d,f,e,h,os⟩:=s
  let⟨m,i⟩:=n
  have j:=sub_enumerate;have g:∀{k:Around} {E:Value->Shared->Prop} {Q:Value->Shared->Prop},Q (.ref d.objs.size) ⟨d.push o,f,e,h,os⟩->wpAny (model prog w) k (pyIter v) Q E ⟨d,f,e,h,os⟩:=λz=>l.iter prog w _ _ ⟨d,f,e,h,os⟩ _ m z
  wp_walk using g
  refine wpAny_stack_any λst=>awx ?_;split
  .next c _ _ _ _ _=>
   cases(c==Value.type "enumerate")<;>(wp_walk using g;exact⟨_,rfl,i⟩)
  .wp_walk using g
   exact⟨_,rfl,i⟩
def agr{c:Program}{w:World}{A:Around}{E:Value->Shared->Prop}{s:Shared}{v:Value}{o:Obj}{B:Heap->Prop}{Q:Value->Shared->Prop}(f:Begins v o B)(g:B s.heap)
  (h:∀d,IsEnum d (s.heap.objs.size+1) s.heap.objs.size 0 .none->d.get? s.heap.objs.size=some o->(∀b o,s.heap.get? b=some o->d.get? b=some o)->Q (.ref (s.heap.objs.size+1)) { s with heap:=d }) :
  wpAny (model c w) A (call (.type "enumerate") [v]) Q E s:=by
 refine callType_new F.called_enumerate #[()] (F.typeCall_enumerate_1 _) (F.newCall_enumerate_1 _) (λob=>F.args_object_init_2 ob _) F.entry_enumerate_new (aiW f) ⟨g,?_⟩;have i:(s.heap.push o).objs.size=s.heap.objs.size+1:=Heap.size_push ..;have e:=Heap.get?_push_size (s.heap.push o) (o:={ cls:=.type "enumerate",data:=.fields (List.toArray [.none,.bool false,.ref s.heap.objs.size,rawInt 0,.none,.none]) }) rfl
 show _/\_;rw[i]at e |-
 exact⟨⟨_,e,rfl⟩,h _ e (Heap.get?_push_of_some _ (Heap.get?_push_size _ f.free)) λb u z=>Heap.get?_push_of_some _ (Heap.get?_push_of_some _ z)⟩
def aqv(m:Gl X "enumerate")(n:X.mg "enumerate"=none)(i:PA X [a] ta)(y:nst a=true):PI X (.Tuple elts kk tpos) (.Call (.Name "enumerate" p) [a] [] pos) (iEn X.K ta 0):=by
 refine⟨λpins s C H R I h=>?_⟩;refine Call_ (ld_blt I m n boot_enumerate (PyProof.Rows.callWith_type1 (thn (i.run pos pins s C H _ I h) λA E ⟨F,D,e,r1,x,S,d,f,z,u,q⟩=>?_) (bH y []) #[rfl]));subst f;let⟨v,rfl,r⟩:=vals1 r1
 let⟨o,B,g,j,hit,c⟩:=Src.begins e u z r
 exact agr g j λh' l t hk=>ajP (x:=x) (v:=v) (us:=d) e c hit l t hk q
def agn{M:Model}{A:Around}{E:Value->Shared->Prop}{s:Shared}{pos:Pos}{T:String}{c:List (Bool×Sem Value)}{e:List (Option Str×Sem Value)}{Q:Value->Shared->Prop}(g:c.any (·.1)=false)(i:e.any (·.1.isNone)=false)
  (h:wpAny M A (evalArgs (.type T) true c e) (λz d=>wpAny M A (call (.type T) z.pos z.kw) Q E d) E s):wpAny M A (callWith pos (.type T) [] c e) Q E s:=by
 unfold callWith;refine aww (wpAny_holding (wpAny_mono h (λz d k=>aww (wpAny_standAt ?_)) λ_ _ y=>y));rw[g,i];refine aww (awx ?_);exact aww (wpAny_mono k (λr f j=>aww (wpAny_holding (wpAny_point (awx j)))) λ_ _ y=>y)
def amR{c:Int}{j:Nat}{z d:Pos}(f : -(2^63)<=c)(g:c<2^63)(O:Gl X "enumerate")(Q:X.mg "enumerate"=none)(L:PA X [a] ta)(e:nst a=true) :
  PI X (.Tuple elts kk tpos) (.Call (.Name "enumerate" p) [a] [⟨some "start",.Constant (.int c) j z,d⟩] pos) (iEn X.K ta c):=by
 refine⟨λpins s C H R I h=>?_⟩;have l:PK X [⟨some "start",.Constant (.int c) j z,d⟩] (tCons (tC (.int c)) tNil):=pk_cons pe_int pk_nil
 refine wpAny_Call_Name_kw (ld_blt I O Q boot_enumerate (agn (star_any [a] (by simp[e])) #[rfl] ?_));refine PyProof.Rows.evalArgs_kw2 #[rfl] (thn (L.run pos pins s C H _ I h) λus s1 ⟨vs,n,D,r1,x,S,m,G,Y,W,q⟩=>?_) (by first | (rw[bH e];done) | (rw[bH e];rfl) | rw[bH e]);refine thn (l.run pos pins s1 C n (λA u=>A=[.int c]/\u=n) D ⟨rfl,rfl⟩) λws s2 ⟨A,u,y,Z,E,F⟩=>?_;subst G E F;let⟨v,rfl,r⟩:=vals1 r1
 let⟨w,rfl,t,rfl⟩:=vals1 Z
 let⟨o,B,J,M,hit,i⟩:=Src.begins y W Y r
 exact enum_begins_start J M f g λh' N U _ hk=>ajP (x:=x) (v:=v) (us:=m) y i hit N U hk q
def ItZ(K:ave)(S T:Src):It:=
 ⟨λi H=>∃(c d:List V) (x y:V),S.sq K H c/\T.sq K H d/\c[i]?=some x/\d[i]?=some y,λi H v e=>∃U x y,v=.ref U/\H U=none/\e=upd H U (.tup [x,y])/\(∀c,S.sq K H c->c[i]?=some x)/\∀d,T.sq K H d->d[i]?=some y,
  λi H=>∃c d:List V,S.sq K H c/\T.sq K H d/\i=min c.length d.length⟩
def ap0{P:Program}{w:World}{K:ave}{S T:Src}{N:Addr}(h1:∀a∈S.ad,a<N)(h2:∀a∈T.ad,a<N) :
  Turn P w K (.Tuple elts kk tpos) (ItZ K S T) [N+4,N+2,N+3,N,N+1] (N+4) (λn h=>IsZip h (N+4) (N+2) (N+3) .none/\IsPair h (N+2) (.ref N) (.ref (N+1))/\(∃x y,IsPair h (N+3) x y)/\S.it h N n/\T.it h (N+1) n) where
 mem:=by simp
 obj:=λn h q c hc=>by
  let⟨gz,gI,⟨x,y,gO⟩,i1,i2⟩:=q
  simp![avw,avL,or_false]at hc;rcases hc with rfl|rfl|rfl|rfl|rfl
  .exact⟨_,gz,λv q=>nomatch q⟩
  .exact⟨_,gI,λv q=>nomatch q⟩
  .exact⟨_,gO,λv q=>nomatch q⟩
  .exact Src.QM i1
  .exact Src.QM i2
 keep:=λn h h' q k=>by
  let⟨gz,gI,⟨x,y,gO⟩,i1,i2⟩:=q
  exact⟨k _ (by simp) _ gz,k _ (by simp) _ gI,⟨x,y,k _ (by simp) _ gO⟩,Src.Qv i1 λo e=>k _ (by simp) o e,Src.Qv i2 λo e=>k _ (by simp) o e⟩
 item:=by
  intro X hP hw hK hc n pins s σ H E I hf q hg;subst hP hw hK;let⟨gz,gI,⟨x0,y0,gO⟩,i1,i2⟩:=q
  let⟨us,ws,x,y,qx,qy,hx,hy⟩:=hg
  let⟨P1,St1,D1,st1,b1,rel1⟩:=Src.draws I (I.ok.hd hc) qx i1 λa z=>avT (h1 a z)
  let⟨P2,St2,D2,st2,b2,rel2⟩:=Src.draws I (I.ok.hd hc) qy i2 λa z=>avT (av8 (h2 a z))
  have hzl:N+4<s.heap.objs.size:=Heap.lt_size gz;refine wpAny_pyNext_zipD2_item (zip_sep2 h1 h2) D1 D2 gz gI gO st1 st2 (avf.mp hx).1 (avf.mp hy).1 λv1 v2 h' tk p1 p2 z' o' s1 s2 hT hsz hk=>?_;refine⟨_,rfl,wpAny_letOwnedTupleGo_zip (s:={ s with heap:=h',toks:=tk }) z' λh'' z'' sb=>?_⟩;have hT2:=(sb.2 _ (Nat.ne_of_gt hzl)).trans hT;have new:ObjOk X.prog X.w (upd H s.heap.objs.size (.tup [x,y])) h'' s.heap.objs.size (.tup [x,y]):=⟨by show 2<=sizeLine;decide,[v1,v2],.cons (rel1 n v1 x p1 hx) (.cons (rel2 n v2 y p2 hy) .nil),⟨_,hT2,rfl,_,rfl⟩⟩;have I1:L2.Inv X pins σ (upd H s.heap.objs.size (.tup [x,y])) { s with heap:=h'',toks:=tk }:=by refine I.turnedNew (t':=tk) (ch:=[N+4,N+2,N+3,N,N+1]) (λc o hb e=>?_) hf (avE _) new;simp![avw,avL,or_false,not_or]at hb;exact(sb.2 c hb.1).trans (hk c o hb.1 hb.2.2.1 hb.2.2.2.1 hb.2.2.2.2 e)
  have ne4:∀k,k≠4->N+k≠N+4:=λk hk z=>hk (awo z);refine⟨.ref s.heap.objs.size,_,I1,rfl,⟨_,x,y,rfl,I.hok.fresh (avE _),rfl,λl hl=>by rw[Src.inj I hl qx];exact hx,λl hl=>by rw[Src.inj I hl qy];exact hy⟩,⟨z'',?_,⟨v1,v2,?_⟩,?_,?_⟩,λc hcm=>?_⟩
  .exact(sb.2 _ (ne4 2 #[()])).trans (hk _ _ (ne4 2 #[()]) (λz=>absurd (awo z) #[()]) (λz=>absurd (awo (z.trans (Nat.add_zero N).symm)) #[()]) (λz=>absurd (awo z) #[()]) gI)
  .exact(sb.2 _ (ne4 3 #[()])).trans o'
  .exact Src.Qv (b1 _ _ s1) λo e=>(sb.2 _ (ne4 0 #[()])).trans e
  .exact Src.Qv (b2 _ _ s2) λo e=>(sb.2 _ (ne4 1 #[()])).trans e
  .have hlt:c<s.heap.objs.size:=by
    simp![avw,avL,or_false]at hcm;rcases hcm with rfl|rfl|rfl|rfl|rfl
    .exact hzl
    .exact Heap.lt_size gI
    .exact Heap.lt_size gO
    .let⟨_,e1,_⟩:=Src.QM i1
     exact Heap.lt_size e1
    .let⟨_,e2,_⟩:=Src.QM i2
     exact Heap.lt_size e2
   rw[upd_ne (avT hlt)];exact(hf c hcm).1
 done:=by
  intro X hP hw hK hc n pins s σ H E I hf q hg;subst hP hw hK;let⟨gz,gI,⟨x0,y0,gO⟩,i1,i2⟩:=q
  let⟨us,ws,qx,qy,hn⟩:=hg
  let⟨P1,St1,D1,st1,b1,rel1⟩:=Src.draws I (I.ok.hd hc) qx i1 λa z=>avT (h1 a z)
  let⟨P2,St2,D2,st2,b2,rel2⟩:=Src.draws I (I.ok.hd hc) qy i2 λa z=>avT (av8 (h2 a z))
  refine wpAny_pyNext_zipD2_end (zip_sep2 h1 h2) D1 D2 gz gI gO st1 st2 #[] #[] #[] λh' tk hk=>⟨rfl,?_⟩;refine I.turnedL (t':=tk) (ch:=[N+4,N+2,N+3,N,N+1]) (λc o hb e=>?_) hf;simp![avw,avL,or_false,not_or]at hb;exact hk c o hb.1 hb.2.2.1 hb.2.2.2.1 hb.2.2.2.2 e
 self:=λA n s Q E q h=>wpAny_pyIter_zip q.1 h
def iZp(K:ave)(ta:TA):TI:=λσ H R=>ta σ H λe c=>∃x y S T d f,e=[x,y]/\srcOf x S/\srcOf y T/\S.sq K c d/\T.sq K c f/\R (ItZ K S T) c
def apU(M:Gl X "zip")(N:X.mg "zip"=none)(L:PA X [a,b] ta)(P:nst a=true)(w:nst b=true):PI X (.Tuple elts kk tpos) (.Call (.Name "zip" p) [a,b] [] pos) (iZp X.K ta):=by
 refine⟨λpins s D H R I h=>?_⟩;refine Call_ (ld_blt I M N PyProof.Rows.boot_zip (PyProof.Rows.callWith_type1 (thn (L.run pos pins s D H _ I h) λus l ⟨vs,B,d,r1,x,y,S,T,Y,Z,J,U,W,O,v,q⟩=>?_) (bH P [b]) (star_any [b] (by simp[w]))));subst J;let⟨v1,v2,rfl,z,A⟩:=vals2 r1
 let⟨o1,B1,m,t,f,j⟩:=Src.begins d O U z
 let⟨o2,B2,n,u,g,k⟩:=Src.begins d v W A
 refine zip_begins2 m n t u λh' C o r F G Q hk=>wpAny_pyIter_zip C ?_;have E:L2.Inv X pins D B { l with heap:=h' }:=d.kept (t':=l.toks) hk;refine⟨l.heap.objs.size+4,_,_,_,B,rfl,E,ap0 j k,⟨C,o,⟨_,_,r⟩,f _ _ F,g _ _ G⟩,λc e=>?_,q⟩;have i:l.heap.objs.size<=c:=by simp![avw,avL,or_false]at e;rcases e with rfl | rfl | rfl | rfl | rfl<;>first | exact avE _ | exact Nat.le_add_right _ _
 exact d.fpOk i (d.hok.fresh i)
end
section
variable{K:ave}{aj:aJ}{q:Bool}{g g':Gh}{H H':Hp}{v:V}{d:Dat}{σ:L2.St}{ρ:Env}{M:Mo}
theorem iU.up{l:Addr}:∀{n:Bool} {a:List (Dat×Dat)} (r:Gr true g g' H H') (e:Ex H H') (k:Kd g H) (h:iU K aj g H l n a),iU K aj g' H' l n a
 |false,_,r,e,k,⟨p,b,c,f⟩=>⟨p,e _ _ b,c,f.gr r k⟩
 |true,_,r,e,k,⟨o,t,s,b,c,f,i,j,m⟩=>⟨o,t,s,e _ _ b,c,f,i.gr r k,j,m.gr r k⟩
theorem cP.up{h:Nat}{f:Str}(r:Gr true g g' H H')(e:Ex H H')(k:Kd g H):∀{fl:gU},cP K aj g H h f v fl->cP K aj g' H' h f v fl
 |.dat _,z=>Rep.gr r k z
 |.lst _ _,⟨l,m,a,b,c,i,j⟩=>⟨l,m,a,e _ _ b,by rw[(r.qg rfl).2];exact c,i.gr r k,r.tb j⟩
 |.dic _ _,⟨l,a,b,c⟩=>⟨l,a,by rw[(r.qg rfl).2];exact b,c.up r e k⟩
theorem bQ.up{h:Nat}(r:Gr true g g' H H')(e:Ex H H')(k:Kd g H):∀{fs:LsS V} {gs:LsS gU},bQ K aj g H h fs gs->bQ K aj g' H' h fs gs
 |_,_,.nil=>.nil
 |_,_,.cons z t=>.cons (cP.up r e k z) (bQ.up r e k t)
theorem dH.up(r:Gr true g g' H H')(e:Ex H H')(k:Kd g H)(w:dH K aj g H M):dH K aj g' H' M where
 len:=by rw[Gh.HY (r.qg rfl).1];exact w.len
 inj:=by rw[Gh.HY (r.qg rfl).1];exact w.inj
 ins:=λh a i ha hi hc=>by
  rw[Gh.HY (r.qg rfl).1]at ha;let⟨C,dx,fs,c1,c2,c3⟩:=w.ins h a i ha hi hc
  exact⟨C,dx,fs,c1,e _ _ c2,c3.up r e k⟩
 nd:=w.nd
 fd:=w.fd
 tw:=by rw[Gh.HY (r.qg rfl).1,(r.qg rfl).2];exact w.tw
 li:=λh a xs ha hi=>by
  rw[Gh.HY (r.qg rfl).1]at ha;let⟨us,h1,h2,h3⟩:=w.li h a xs ha hi
  exact⟨us,e _ _ h1,by rw[(r.qg rfl).2];exact h2,h3.gr r k⟩
 nc:=w.nc
theorem SInv.up(r:Gr true g g' H H')(e:Ex H H')(k':Kd g' H')(I:SInv K aj σ H g ρ M):SInv K aj σ H' g' ρ M where
 kd:=k'
 wok:=I.wok.up r e I.kd
 len:=I.len
 dat:=λi d h=>by
  let⟨v,h1,h2⟩:=I.dat i d h
  exact⟨v,h1,h2.gr r I.kd⟩
 own:=λi xs h=>by
  let⟨l,us,h1,h2,h3,h4⟩:=I.own i xs h
  exact⟨l,us,h1,e _ _ h2,r.Lo l h3,h4.gr r I.kd⟩
 sep:=I.sep
def Gh.add(g:Gh)(D:Addr):Gh:={ g with Lo:=λa=>g.Lo a\/a=D }
theorem Gh.FP{D:Addr}(n:H D=none)(e:Ex H H'):Gr true g (g.add D) H H' where
 keep:=λa o h _ _=>e a o h
 keepW:=λ_ a o h _=>e a o h
 dom:=CZ e
 tbl:=⟨[],by simp[Gh.add]⟩
 W:=λ_ h=>h
 nW:=λ_ h=>.inl h
 qg:=λ_=>⟨rfl,rfl⟩
 Lc:=rfl
 Lo:=λ_ h=>.inl h
 nLo:=λa h=>h.elim .inl λz=>.inr (by rw[z];exact n)
 kl:=rfl
def Gh.apt{D:Addr}{o:HO}(k:Kd g H)(n:H D=none)(e:Ex H H')(hD:H' D=some o)(m:KH o):Kd (g.add D) H' where
 ob:=λa z=>by
  rcases z with z|z|z|z
  .let⟨o,h,m⟩:=k.ob a (.inl z);exact⟨o,e a o h,m⟩
  .let⟨o,h,m⟩:=k.ob a (.inr (.inl z));exact⟨o,e a o h,m⟩
  .let⟨o,h,m⟩:=k.ob a (.inr (.inr z));exact⟨o,e a o h,m⟩
  .rw[z];exact⟨o,hD,m⟩
 lo:=λa z=>by
  rcases z with z|z
  .exact k.lo a z
  .intro w;subst z;exact k.fresh n (.inl w)
 lc:=λa z=>⟨(k.lc a z).1,λy=>y.elim (k.lc a z).2 λy=>by subst y;exact k.fresh n (.inr (.inl z))⟩
theorem SInv.add{D:Addr}{o:HO}(I:SInv K aj σ H g ρ M)(n:H D=none)(e:Ex H H')(a:H' D=some o)(m:KH o):SInv K aj σ H' (g.add D) ρ M:=
 I.up (Gh.FP n e) e (Gh.apt I.kd n e a m)
theorem SInv.set{j:Nat}(I:SInv K aj σ H g ρ M)(r:Rep K g H v d):SInv K aj (σ.set j (some v)) H g (ρ.set j #[d]) M where
 kd:=I.kd
 wok:=I.wok
 len:=by rw[avC,avC];exact I.len
 dat:=λi e h=>by
  by_cases z:j=i
  .subst z;have hj:j<ρ.length:=by
    have:=(avf.mp h).1;rw[avC]at this;exact this
   rw[avt hj]at h;cases h;exact⟨v,by rw[avt (by rw[I.len];exact hj)],r⟩
  .rw[avm z]at h;let⟨u,h1,h2⟩:=I.dat i e h
   exact⟨u,by rw[avm z];exact h1,h2⟩
 own:=λi xs h=>by
  by_cases z:j=i
  .subst z;have hj:j<ρ.length:=by
    have:=(avf.mp h).1;rw[avC]at this;exact this
   rw[avt hj]at h;cases h
  .rw[avm z]at h;let⟨l,us,h1,h2⟩:=I.own i xs h
   exact⟨l,us,by rw[avm z];exact h1,h2⟩
 sep:=λi k xs ys l ne h1 h2 h3=>by
  have nj:∀{i:Nat} {xs:List Dat},(ρ.set j #[d])[i]?=some (some (.mut xs))->j≠i:=λ{i xs} h z=>by
   subst z;have hj:j<ρ.length:=by have:=(avf.mp h).1;rw[avC]at this;exact this
   rw[avt hj]at h;cases h
  have n1:=nj h1;have n2:=nj h2;rw[avm n1]at h1 h3;rw[avm n2]at h2;rw[avm n2];exact I.sep i k xs ys l ne h1 h2 h3
def SInv.forget{j:Nat}(I:SInv K aj σ H g ρ M):SInv K aj (σ.set j none) H g (ρ.set j none) M where
 kd:=I.kd
 wok:=I.wok
 len:=by rw[avC,avC];exact I.len
 dat:=λi e h=>by
  by_cases z:j=i
  .subst z;have hj:j<ρ.length:=by
    have:=(avf.mp h).1;rw[avC]at this;exact this
   rw[avt hj]at h;cases h
  .rw[avm z]at h |-
   exact I.dat i e h
 own:=λi xs h=>by
  by_cases z:j=i
  .subst z;have hj:j<ρ.length:=by
    have:=(avf.mp h).1;rw[avC]at this;exact this
   rw[avt hj]at h;cases h
  .rw[avm z]at h |-
   exact I.own i xs h
 sep:=λi k xs ys l ne h1 h2 h3=>by
  have nj:∀{i:Nat} {xs:List Dat},(ρ.set j none)[i]?=some (some (.mut xs))->j≠i:=λ{i xs} h z=>by
   subst z;have hj:j<ρ.length:=by have:=(avf.mp h).1;rw[avC]at this;exact this
   rw[avt hj]at h;cases h
  have n1:=nj h1;have n2:=nj h2;rw[avm n1]at h1 h3;rw[avm n2]at h2;rw[avm n2];exact I.sep i k xs ys l ne h1 h2 h3
def bU(ρ:Env):List Nat->Env
 |[]=>ρ
 |j::a=>(bU ρ a).set j none
theorem SInv.wipe(I:SInv K aj σ H g ρ M):∀a:List Nat,SInv K aj (L2.wipe σ a) H g (bU ρ a) M
 |[]=>I
 |j::js=>(SInv.wipe I js).forget
end
abbrev ig:=Dat->Env->Option Env
def au(j:Nat):ig:=λd a=>some (a.set j #[d])
def Bm:List Nat->List Dat->Env->Option Env
 |[],[],a=>some a
 |j::js,d::ds,a=>Bm js ds (a.set j #[d])
 |_,_,_=>none
def aX(b:List Nat):ig:=λd c=>match d with
 |.tuple a=>Bm b a c
 |_=>none
def sets(a:L2.St):List Nat->List V->L2.St
 |j::js,v::vs=>sets (a.set j (some v)) js vs
 |_,_=>a
def Cv(K:ave)(aj:aJ)(c:List Nat)(f:ig):TG:=λv a H Q=>∃g h M d b,SInv K aj a H g h M/\Rep K g H v d/\f d h=some b/\∀e,SInv K aj (sets a c e) H g b M->Q (sets a c e) H
def QG(aj:aJ)(X:Cx)(b:Expr)(a:List Nat)(f:ig):Prop:=PG X b (Cv X.K aj a f)
def PG.weak{X:Cx}{e:Expr}{t b:TG}(h:PG X e t)(k:∀v a H Q,b v a H Q->t v a H Q):PG X e b:=⟨λpins s a H v u Q I r q=>h.run pins s a H v u Q I r (k v a H Q q)⟩
section
variable{X:Cx}{aj:aJ}{pos:Pos}
def Xv{j:Nat}{x:Str}(a:X.N.Nodup)(c:X.N[j]?=some x)(f:Loc X.env.scope x)(b:X.fn x=true\/X.env.scope.names.lookup x=some .local):QG aj X (.Name x pos) [j] (au j):=
 PG.weak (pg_name a c f b) λv k H Q ⟨g,i,M,d,h,I,r,e,q⟩=>by
  cases e;exact q [v] (I.set r)
def V9(X:Cx):List Expr->List Nat->Prop
 |[],[]=>True
 |.Name x _::es,j::js=>X.N[j]?=some x/\Loc X.env.scope x/\(X.fn x=true\/X.env.scope.names.lookup x=some .local)/\V9 X es js
 |_,_=>False
def ahO{a:List Expr}{b:List Nat}(h:V9 X a b):(assignEach a X.env).length=b.length/\(assignEach a X.env).findIdx? (·.1)=none:=by
 induction a generalizing b with
 |nil=>
  cases b with
  |nil=>exact⟨#[rfl],#[rfl]⟩
  |cons j b=>exact awt h
 |cons e a g=>
  cases b with
  |nil=>cases e<;>exact awt h
  |cons j b=>
   cases e with
   |Name x p=>
    let⟨d,f⟩:=g h.2.2.2
    have c:assignEach (.Name x p::a) X.env=(false,assign (.Name x p) X.env)::assignEach a X.env:=#[rfl];rw[c];refine⟨by simp[d],?_⟩;rw[List.findIdx?_cons,f];rfl
   |_=>exact awt h
def gNs(a:List Nat):TGs:=λb c H Q=>b.length=a.length/\Q (sets c a b) H
theorem YW(i:X.N.Nodup):∀{b:List Expr} {d:List Nat},V9 X b d->PGs X b (gNs d)
 |[],[],_=>⟨λpins s g H a f Q I r h=>by
  let⟨e,h⟩:=h
  have:a=[]:=List.length_eq_zero_iff.mp e;subst this;exact pgs_nil.run pins s g H [] f Q I r ⟨rfl,h⟩⟩
 |.Name x p::b,j::d,h=>by
  have l:=pgs_cons (pg_name (pos:=p) i h.1 h.2.1 h.2.2.1) (YW i h.2.2.2) #[rfl];refine⟨λpins s g H a f Q I r c=>?_⟩;let⟨e,c⟩:=c
  cases a with
  |nil=>cases e
  |cons v a=>exact l.run pins s g H (v::a) f Q I r ⟨v,a,rfl,awq e,c⟩
 |[],_::_,h=>awt h
 |.Name _ _::_,[],h=>awt h
theorem Wb{K:ave}{g:Gh}{H:Hp}{M:Mo}:∀{js:List Nat} {c:List Dat} {a:List V} {f:L2.St} {d b:Env},SInv K aj f H g d M->aC K g H a c->Bm js c d=some b->a.length=js.length/\SInv K aj (sets f js a) H g b M
 |[],_,_,_,_,_,I,.nil,e=>by cases e;exact⟨rfl,I⟩
 |[],_,_,_,_,_,I,.cons _ _,e=>by cases e
 |j::js,_,_,_,_,_,I,.nil,e=>by cases e
 |j::js,_,_,_,_,_,I,.cons r t,e=>by
  let⟨h,i⟩:=Wb (js:=js) (I.set (j:=j) r) t e
  exact⟨by simp[h],i⟩
def afK{c:List Expr}{b:List Nat}{k:Nat}(hc:X.calm=true)(o:X.N.Nodup)(h:V9 X c b):QG aj X (.Tuple c k pos) b (aX b):=by
 let⟨l,m⟩:=ahO h
 refine PG.weak (pg_tup (n:=b.length) hc (YW o h) l m) λv w H Q ⟨g,u,M,d,t,I,r,e,q⟩=>?_;unfold aX at e;split at e
 .let⟨a,i,rfl,p,s⟩:=mj r.weak
  let⟨f,j⟩:=Wb I s e
  exact⟨a,i,rfl,p,f,f,q i j⟩
 .cases e
theorem yJ:∀(c:List Nat) (d:List V) (b:L2.St) (a:List Nat),(∀j∈c,j∈a)->L2.wipe (sets b c d) a=L2.wipe b a
 |[],_,_,_,_=>by unfold sets;rfl
 |_::_,[],_,_,_=>by unfold sets;rfl
 |j::c,v::d,b,a,h=>by
  show L2.wipe (sets (b.set j (some v)) c d) a=_;rw[yJ c d _ a λk hk=>h k (avk _ hk)];have l:j∈a:=h j avl;have g:∀(a:List Nat) (b:L2.St),j∈a->L2.wipe (b.set j (some v)) a=L2.wipe b a:=by
   intro a
   induction a with
   |nil=>intro b z;cases z
   |cons k a n=>
    intro b z
    show(L2.wipe (b.set j (some v)) a).set k none=(L2.wipe b a).set k none
    by_cases hk:j∈a
    .rw[n b hk]
    .have e:j=k:=by
      rcases avw.mp z with z|z
      .exact z
      .exact absurd z hk
     subst e;have comm:∀(a:List Nat),j∉a->L2.wipe (b.set j (some v)) a=(L2.wipe b a).set j (some v):=by
      intro a
      induction a with
      |nil=>intro _;rfl
      |cons m a f=>
       intro i
       show(L2.wipe (b.set j (some v)) a).set m none=((L2.wipe b a).set m none).set j (some v)
       rw[f λz=>i (avk _ z),List.set_comm _ _ (λz=>i (by rw[z];exact avl))]
     rw[comm a hk,List.set_set]
  exact g a b l
end
structure Mx(K:ave)(J:It)(C:Gh->Hp->Prop)(ds:List Dat):Prop where
 go:∀g i H,C g H->i<ds.length->J.go i H
 yld:∀g i H x H' d,Kd g H->C g H->ds[i]?=some d->J.yld i H x H'->Ex H H'/\Rep K g H' x d
 stop:∀g i H,C g H->i=ds.length->J.stop i H
 ex:∀g H H',Kd g H->C g H->Ex H H'->C g H'
 add:∀g g' H H',Kd g H->C g H->Gr true g g' H H'->Ex H H'->C g' H'
def ae6(C:Gh->Hp->Prop):Prop:=∀q g b H a,Kd g H->C g H->Gr q g b H a->C b a
abbrev IF:=Mo->Env->Out (List Dat)
def tI(K:ave)(aj:aJ)(W:WX)(a:Bool)(f:IF):TI:=λd H R=>∃g c M,SInv K aj d H g c M/\(f M c).sat (λds=>∀J C b,Ex H b->Mx K J C ds->C g b->(a=true->ae6 C)->R J b) (pZ K aj W g H d)
def QI(aj:aJ)(X:Cx)(W:WX)(a:Bool)(tg e:Expr)(f:IF):Prop:=PI X tg e (tI X.K aj W a f)
def aa4(x:Str):List Dat:=x.cps.toList.map λc=>.str ⟨(List.toArray [c])⟩
def wI:Dat->Out (List Dat)
 |.list a=>.ok a
 |.tuple a=>.ok a
 |.str x=>.ok (aa4 x)
 |_=>.bad
@[simp]def cH (a:QF) (M:Mo) (b:Env):Out (List Dat):=(a M b).bind wI
def Src.cw(K:ave)(S:Src)(a:List Dat)(g:Gh)(H:Hp):Prop:=∃us,S.sq K H us/\aC K g H us a
def Src.cf(K:ave)(S:Src)(b:List Dat)(g:Gh)(H:Hp):Prop:=∃us,(match S with
 |.lst a=>Gv K g H a us
 |.tup a=>SqT K H a us
 |.str x=>us=chars x)/\aC K g H us b
section
variable{K:ave}{g g':Gh}{H H':Hp}{ds es:List Dat}{S T:Src}
def Src.aqi{us:List V}(e:Ex H H')(h:S.sq K H us):S.sq K H' us:=by
 cases S with
 |lst a=>exact ex_l e h
 |tup a=>exact ex_t e h
 |str x=>exact h
def Src.ae4(h:S.cf K ds g H):S.cw K ds g H:=by
 let⟨us,b,c⟩:=h
 refine⟨us,?_,c⟩;cases S with
 |lst a=>exact Gv.sq b
 |tup a=>exact b
 |str x=>exact b
def Src.vh:ae6 (S.cf K ds):=λq g g' H H' k ⟨us,b,c⟩ r=>by
 refine⟨us,?_,c.gr r k⟩;cases S with
 |lst a=>exact r.ls b
 |tup a=>exact r.sqT k b
 |str x=>exact b
def Src.Oj(k:Kd g H)(h:S.cw K ds g H)(r:Gr true g g' H H')(e:Ex H H'):S.cw K ds g' H':=by
 let⟨us,a,b⟩:=h
 exact⟨us,Src.aqi e a,b.gr r k⟩
def Src.aaB(k:Kd g H)(h:S.cw K ds g H)(e:Ex H H'):S.cw K ds g H':=Src.Oj k h (Gr.ex e) e
end
section
variable{K:ave}{ds es:List Dat}{S T:Src}
def ItS(K:ave):Src->It
 |.lst a=>Itl K a
 |.tup a=>Itt K a
 |.str x=>Its x
def Hv{g:Gh}{H:Hp}(x:Str):aC K g H (chars x) (aa4 x):=by
 unfold chars aa4
 induction x.cps.toList with
 |nil=>exact .nil
 |cons c b a=>exact .cons (.str _) a
def Mx.of{J:It}{C C':Gh->Hp->Prop}(w:Mx K J C ds)(h:∀g H,C' g H->C g H)(e:∀g H H',Kd g H->C' g H->Ex H H'->C' g H')(a:∀g g' H H',Kd g H->C' g H->Gr true g g' H H'->Ex H H'->C' g' H'):Mx K J C' ds where
 go:=λg i H c hi=>w.go g i H (h g H c) hi
 yld:=λg i H x H' d k c e y=>w.yld g i H x H' d k (h g H c) e y
 stop:=λg i H c e=>w.stop g i H (h g H c) e
 ex:=e
 add:=a
def adx:Mx K (ItS K S) (S.cw K ds) ds where
 go:=λg i H ⟨us,h1,h2⟩ hi=>by
  have hx:us[i]?=some (us[i]'(by rw[h2.length];exact hi)):=avi _;cases S with
  |lst a=>exact⟨us,_,h1,hx⟩
  |tup a=>exact⟨us,_,h1,hx⟩
  |str x=>
   show i<x.cps.size;have:=h2.length;rw[show us=chars x from h1]at this;unfold chars at this;rw[avs,avS]at this;omega
 yld:=λg i H x H' d k ⟨us,h1,h2⟩ e y=>by
  let⟨v,hv,rv⟩:=h2.get e
  cases S with
  |lst a=>
   let⟨rfl,y⟩:=y
   have:x=v:=avA ((y us h1).symm.trans hv);rw[this];exact⟨Ex.refl _,rv⟩
  |tup a=>
   let⟨rfl,y⟩:=y
   have:x=v:=avA ((y us h1).symm.trans hv);rw[this];exact⟨Ex.refl _,rv⟩
  |str z=>
   let⟨rfl,c,hc,rfl⟩:=y
   rw[show us=chars z from h1]at hv;unfold chars at hv;rw[avy,av0,hc]at hv;cases hv;exact⟨Ex.refl _,rv⟩
 stop:=λg i H ⟨us,h1,h2⟩ e=>by
  have hl:=h2.length;cases S with
  |lst a=>exact⟨us,h1,#[]⟩
  |tup a=>exact⟨us,h1,#[]⟩
  |str x=>
   show x.cps.size<=i;rw[show us=chars x from h1]at hl;unfold chars at hl;rw[avs,avS]at hl;omega
 ex:=λg H H' k h e=>Src.aaB k h e
 add:=λg g' H H' k h r e=>Src.Oj k h r e
def vC(a:Int)(ds:List Dat):List Dat:=ds.mapIdx λi d=>.tuple [.int (a+(i:Int)),d]
def ah3{k₀:Int}:Mx K (ItE K S k₀) (S.cw K ds) (vC k₀ ds) where
 go:=λg i H ⟨us,h1,h2⟩ hi=>by
  have hl:i<us.length:=by rw[h2.length];unfold vC at hi;rw[List.length_mapIdx]at hi;exact hi
  exact⟨us,us[i],h1,avi hl⟩
 yld:=λg i H x H' d k ⟨us,h1,h2⟩ e y=>by
  unfold vC at e;rw[av3]at e;cases hd:ds[i]? with
  |none=>rw[hd]at e;cases e
  |some d0=>
   rw[hd]at e;cases e;let⟨v,hv,rv⟩:=h2.get hd
   let⟨T,x0,rfl,nT,rfl,y⟩:=y
   have:x0=v:=avA ((y us h1).symm.trans hv);subst this;exact⟨Ex.new nT,.tup (st_of awA) (.cons (.int _) (.cons (rv.ex (Ex.new nT) k) .nil))⟩
 stop:=λg i H ⟨us,h1,h2⟩ e=>by
  unfold vC at e;rw[List.length_mapIdx,<-h2.length]at e;exact⟨us,h1,e.symm⟩
 ex:=λg H H' k h e=>Src.aaB k h e
 add:=λg g' H H' k h r e=>Src.Oj k h r e
def tZ(ds es:List Dat):List Dat:=List.zipWith (λd e=>.tuple [d,e]) ds es
def adJ:Mx K (ItZ K S T) (λg H=>S.cw K ds g H/\T.cw K es g H) (tZ ds es) where
 go:=λg i H ⟨⟨us,h1,h2⟩,⟨ws,h3,h4⟩⟩ hi=>by
  unfold tZ at hi;rw[List.length_zipWith,<-h2.length,<-h4.length]at hi;exact⟨us,ws,us[i],ws[i],h1,h3,avi #[],avi #[]⟩
 yld:=λg i H x H' d k ⟨⟨us,h1,h2⟩,⟨ws,h3,h4⟩⟩ e y=>by
  unfold tZ at e;rw[List.getElem?_zipWith]at e;cases hd:ds[i]? with
  |none=>rw[hd]at e;cases e
  |some d0=>
   cases he:es[i]? with
   |none=>rw[hd,he]at e;cases e
   |some e0=>
    rw[hd,he]at e;cases e;let⟨v,hv,rv⟩:=h2.get hd
    let⟨u,hu,ru⟩:=h4.get he
    let⟨U,x0,y0,rfl,nU,rfl,y1,y2⟩:=y
    have:x0=v:=avA ((y1 us h1).symm.trans hv);subst this;have:y0=u:=avA ((y2 ws h3).symm.trans hu);subst this;exact⟨Ex.new nU,.tup (st_of awA) (.cons (rv.ex (Ex.new nU) k) (.cons (ru.ex (Ex.new nU) k) .nil))⟩
 stop:=λg i H ⟨⟨us,h1,h2⟩,⟨ws,h3,h4⟩⟩ e=>by
  unfold tZ at e;rw[List.length_zipWith,<-h2.length,<-h4.length]at e;exact⟨us,ws,h1,h3,e⟩
 ex:=λg H H' k h e=>⟨Src.aaB k h.1 e,Src.aaB k h.2 e⟩
 add:=λg g' H H' k h r e=>⟨Src.Oj k h.1 r e,Src.Oj k h.2 r e⟩
def jF(lo:Int)(n:Nat):List Dat:=(List.range n).map λ(i:Nat)=>.int (lo+(i:Int))
def YL{lo:Int}{n:Nat}:Mx K (Itr lo n) (λ_ _=>True) (jF lo n) where
 go:=λg i H _ hi=>by
  unfold jF at hi;rw[avs,List.length_range]at hi;exact hi
 yld:=λg i H x H' d k _ e y=>by
  let⟨rfl,rfl⟩:=y
  unfold jF at e;rw[avy]at e;cases hr:(List.range n)[i]? with
  |none=>rw[hr]at e;cases e
  |some j=>
   rw[hr]at e;cases e;have:j=i:=by
    let⟨h1,h2⟩:=avf.mp hr
    rw[List.getElem_range]at h2;exact h2.symm
   subst this;exact⟨Ex.refl _,.int _⟩
 stop:=λg i H _ e=>by
  unfold jF at e;rw[avs,List.length_range]at e;show n<=i;omega
 ex:=λ_ _ _ _ _ _=>trivial
 add:=λ_ _ _ _ _ _ _ _=>trivial
end
section
variable{X:Cx}{aj:aJ}{W:WX}{tg a b:Expr}{fa fb:QF}{pos p tpos:Pos}{elts:List Expr}{kk:Nat}
def QL{K:ave}{g:Gh}{H:Hp}{v:V}{d:Dat}{ds:List Dat}{firm:Bool}(r:if firm=true then Rep K g H v d else dJ K g H v d)(h:wI d=.ok ds):∃S,srcOf v S/\S.cw K ds g H/\(firm=true->S.cf K ds g H):=by
 have rw:dJ K g H v d:=by
  cases firm with
  |true=>exact Rep.weak r
  |false=>exact r
 cases d with
 |list i=>
  cases h;let⟨l,f,rfl,c,e⟩:=gY rw
  refine⟨.lst l,.inl ⟨l,rfl,rfl,.inl rfl⟩,⟨f,c,e⟩,λz=>?_⟩;subst z;have r:Rep K g H (.ref l) (.list ds):=r;cases r with
  |lst j k=>exact⟨_,j,k⟩
 |tuple i=>
  cases h;let⟨l,f,rfl,c,e⟩:=mj rw
  exact⟨.tup l,.inl ⟨l,rfl,rfl,.inr rfl⟩,⟨f,c,e⟩,λ_=>⟨f,c,e⟩⟩
 |str x=>
  cases h;cases jh rw;exact⟨.str x,.inr ⟨x,rfl,rfl⟩,⟨_,rfl,Hv x⟩,λ_=>⟨_,rfl,Hv x⟩⟩
 |_=>cases h
def tF(K:ave)(aj:aJ)(W:WX)(c:Bool)(f:QF):TE:=if c=true then tQ K aj W f else tW K aj W f
def QF'(aj:aJ)(X:Cx)(W:WX)(c:Bool)(e:Expr)(f:QF):Prop:=PE X e (tF X.K aj W c f)
theorem tF.go{K:ave}{c:Bool}{g:Gh}{H:Hp}{i:L2.St}{j:Env}{M:Mo}{f:QF}{k:Dat->Prop}{Q:VK}(I:SInv K aj i H g j M)(h:(f M j).sat k (pZ K aj W g H i))(hk:∀d v e,k d->Ex H e->(if c=true then Rep K g e v d else dJ K g e v d)->Q v e):tF K aj W c f i H Q:=by
 cases c with
 |true=>exact tQ.go I h hk
 |false=>exact tW.go I h hk
def ap3{K:ave}{c:Bool}{g:Gh}{H f:Hp}{v:V}{d:Dat}(e:Ex H f)(k:Kd g H)(r:if c=true then Rep K g H v d else dJ K g H v d):if c=true then Rep K g f v d else dJ K g f v d:=by
 cases c with
 |true=>exact Rep.ex e k r
 |false=>exact dJ.ex e k r
def wf{K:ave}{S:Src}{d:Bool}{J:It}{l j:List Dat}{R:It->Hp->Prop}{g:Gh}{H i:Hp}(h:∀J C f,Ex H f->Mx K J C l->C g f->(d=true->ae6 C)->R J f)(m:Ex H i)(w:Mx K J (S.cw K j) l)(hw:S.cw K j g i)(o:d=true->S.cf K j g i):R J i:=by
 cases d with
 |true=>exact h J (S.cf K j) i m (w.of (λ_ _ z=>Src.ae4 z) (λg H f k c e=>Src.vh true g g H f k c (Gr.ex e)) λg n H f k c r e=>Src.vh true g n H f k c r) (o rfl) λ_=>Src.vh
 |false=>exact h J (S.cw K j) i m w hw λz=>nomatch z
def acM{c:Bool}(A:QF' aj X W c a fa):QI aj X W c tg a (cH fa):=by
 refine⟨λpins s B H R I h=>?_⟩;let⟨g,O,M,u,m⟩:=h
 have m:=m.bnd;have fin:∀(S:Src) (x:V) (t:Hp) (f:List Dat),(∀J C j,Ex H j->Mx X.K J C f->C g j->(c=true->ae6 C)->R J j)->Ex H t->S.cw X.K f g t->(c=true->S.cf X.K f g t)->R (ItS X.K S) t:=λS x t f h n hw D=>wf h n adx hw D;cases i:fa M O with
 |bad=>rw[i]at m;exact awt m
 |exc x=>
  rw[i]at m;exact(pi_list A).run pins s B H R I (tF.go (k:=λ_=>False) u (by rw[i];exact m) λd v j z=>awt z)
 |ok d=>
  rw[i]at m;cases d with
  |list f=>
   refine(pi_list A).run pins s B H R I (tF.go (k:=λz=>z=.list f) u (by rw[i];rfl) λd v j z n r=>?_);subst z;let⟨S,G,hw,D⟩:=QL (firm:=c) r (ds:=f) rfl
   have rw:dJ X.K g j v (.list f):=by
    cases c with
    |true=>exact Rep.weak r
    |false=>exact r
   let⟨l,q,rfl,o,w⟩:=gY rw
   refine⟨l,rfl,⟨q,o⟩,?_⟩;rcases G with⟨P,e,L,N|ht⟩|⟨y,_,e⟩
   .cases e;subst N;exact fin (.lst l) (.ref l) j f m n hw D
   .cases e;subst ht;refine wf (S:=.lst l) m n (adx (S:=.lst l)) ⟨q,o,w⟩ λz=>?_;subst z;have r:Rep X.K g j (.ref l) (.list f):=r;cases r with
    |lst E F=>exact⟨_,E,F⟩
   .cases e
  |tuple f=>
   refine(pi_tup A).run pins s B H R I (tF.go (k:=λz=>z=.tuple f) u (by rw[i];rfl) λd v j z n r=>?_);subst z;have rw:dJ X.K g j v (.tuple f):=by
    cases c with
    |true=>exact Rep.weak r
    |false=>exact r
   let⟨l,q,rfl,o,w⟩:=mj rw
   exact⟨l,rfl,⟨q,o⟩,fin (.tup l) (.ref l) j f m n ⟨q,o,w⟩ λ_=>⟨q,o,w⟩⟩
  |str x=>
   refine(pi_str A).run pins s B H R I (tF.go (k:=λz=>z=.str x) u (by rw[i];rfl) λd v j z n r=>?_);subst z;have rw:dJ X.K g j v (.str x):=by
    cases c with
    |true=>exact Rep.weak r
    |false=>exact r
   cases jh rw;exact⟨x,rfl,fin (.str x) (.str x) j _ m n ⟨_,rfl,Hv x⟩ λ_=>⟨_,rfl,Hv x⟩⟩
  |_=>exact awt m
@[simp]def vO (a:QF) (M:Mo) (c:Env):Out (List Dat):=(a M c).bind λd=>(Ko d).bind λn=>Out.when (decide (n<=100000/\-100000<=n)) (.ok (jF 0 n.toNat))
@[simp]def JT (a b:QF) (M:Mo) (c:Env):Out (List Dat):=(a M c).bind λd=>(b M c).bind λe=>(Ko d).bind λlo=>(Ko e).bind λn=>Out.when (decide (n<=100000/\-100000<=n/\lo<=100000/\-100000<=lo)) (.ok (jF lo (n-lo).toNat))
@[simp]def Es (c:Int) (a:QF) (M:Mo) (f:Env):Out (List Dat):=(a M f).bind λd=>(wI d).bind λe=>.ok (vC c e)
@[simp]def Ip (a b:QF) (M:Mo) (c:Env):Out (List Dat):=(a M c).bind λd=>(b M c).bind λe=>(wI d).bind λf=>(wI e).bind λg=>.ok (tZ f g)
def af6{e:Bool}(o:Gl X "range")(q:X.mg "range"=none)(n:QW aj X W a fa)(f:nst a=true):QI aj X W e tg (.Call (.Name "range" p) [a] [] pos) (vO fa):=by
 refine⟨λpins s r H R I h=>?_⟩;refine(pi_range1 o q (pa_cons n pa_nil (bH f [])) (bH f [])).run pins s r H R I ?_;let⟨g,t,M,l,h⟩:=h
 refine tW.go l h.bnd λd v j c m r1=>?_;have c:=c.bnd;unfold Ko at c;split at c
 .let⟨i,c⟩:=c.lM
  have i:=awv i;cases cC r1;exact⟨_,rfl,#[],#[],c _ _ j m YL awr λ_=>λ_ _ _ _ _ _ _ _=>trivial⟩
 .exact awt c
def ahy{f:Bool}(u:Gl X "range")(x:X.mg "range"=none)(r:QW aj X W a fa)(t:QW aj X W b fb)(l:nst a=true)(e:nst b=true):QI aj X W f tg (.Call (.Name "range" p) [a,b] [] pos) (JT fa fb):=by
 refine⟨λpins s A H R I h=>?_⟩;refine(pi_range2 u x (pa_cons r (pa_cons t pa_nil (bH e [])) (bH l [b])) (by rw[bH l,bH e];rfl) (bH e [])).run pins s A H R I ?_;let⟨g,D,M,j,h⟩:=h
 refine tW.go j h.bnd λd v B q i r1=>?_;refine tW.go (j.ex i) (q.bnd.mono (λ_ z=>z) λ_ z=>z.ex i) λd2 C n c o y=>?_;have c:=c.bnd;unfold Ko at c;split at c
 .have c:=Out.sat.bnd c;split at c
  .let⟨m,c⟩:=Out.sat.lM c
   have m:=awv m;cases cC r1;cases cC y;exact⟨_,_,rfl,⟨#[],#[],#[],#[]⟩,c _ _ n (i.trans o) YL awr λ_=>λ_ _ _ _ _ _ _ _=>trivial⟩
  .exact awt c
 .exact awt c
def ajB{c:Bool}{e:Int}(j:L2.St)(H:Hp)(R:It->Hp->Prop)(h:tI X.K aj W c (Es e fa) j H R):iEn X.K (tCons (tF X.K aj W c fa) tNil) e j H R:=by
 let⟨g,r,M,k,h⟩:=h
 refine tF.go k h.bnd λd v o f l r1=>?_;cases i:wI d with
 |bad=>rw[i]at f;exact awt f
 |exc x=>cases d<;>cases i
 |ok q=>
  rw[i]at f;let⟨S,m,hw,n⟩:=QL r1 i
  exact⟨v,S,_,rfl,m,hw.choose_spec.1,wf f l ah3 hw n⟩
def ak7{c:Bool}(g:Gl X "enumerate")(i:X.mg "enumerate"=none)(f:QF' aj X W c a fa)(d:nst a=true):QI aj X W c (.Tuple elts kk tpos) (.Call (.Name "enumerate" p) [a] [] pos) (Es 0 fa):=
 ⟨λpins s e H R I h=>(aqv g i (pa_cons f pa_nil (bH d [])) d).run pins s e H R I (ajB e H R h)⟩
def aiB{d:Bool}{c:Int}{j:Nat}{o g:Pos}(e : -(2^63)<=c)(f:c<2^63)(m:Gl X "enumerate")(n:X.mg "enumerate"=none)(l:QF' aj X W d a fa)(i:nst a=true):QI aj X W d (.Tuple elts kk tpos) (.Call (.Name "enumerate" p) [a] [⟨some "start",.Constant (.int c) j o,g⟩] pos) (Es c fa):=
 ⟨λpins s k H R I h=>(amR e f m n (pa_cons l pa_nil (bH i [])) i).run pins s k H R I (ajB k H R h)⟩
def ape{f:Bool}(Q:Gl X "zip")(U:X.mg "zip"=none)(N:QF' aj X W f a fa)(O:QF' aj X W f b fb)(D:nst a=true)(o:nst b=true):QI aj X W f (.Tuple elts kk tpos) (.Call (.Name "zip" p) [a,b] [] pos) (Ip fa fb):=by
 refine⟨λpins s σ H R I h=>(apU Q U (pa_cons N (pa_cons O pa_nil (bH o [])) (bH D [b])) D o).run pins s σ H R I ?_⟩;let⟨g,ρ,M,w,h⟩:=h
 refine tF.go w h.bnd λd v H1 G l r1=>?_;refine tF.go (w.ex l) (G.bnd.mono (λ_ z=>z) λ_ z=>z.ex l) λC Z B j y Y=>?_;cases n:wI d with
 |bad=>rw[n]at j;exact awt j
 |exc x=>cases d<;>cases n
 |ok E=>
  cases u:wI C with
  |bad=>rw[n,u]at j;exact awt j
  |exc x=>cases C<;>cases u
  |ok F=>
   rw[n,u]at j;let⟨S,J,hw,P⟩:=QL (ap3 y (w.ex l).kd r1) n
   let⟨T,L,t,A⟩:=QL Y u
   refine⟨v,Z,S,T,_,_,rfl,J,L,hw.choose_spec.1,t.choose_spec.1,?_⟩;cases f with
   |true=>exact j _ (λg H=>S.cf X.K E g H/\T.cf X.K F g H) B (l.trans y) (adJ.of (λ_ _ z=>⟨Src.ae4 z.1,Src.ae4 z.2⟩) (λg H i k c e=>⟨Src.vh true g g H i k c.1 (Gr.ex e),Src.vh true g g H i k c.2 (Gr.ex e)⟩) λg m H i k c r e=>⟨Src.vh true g m H i k c.1 r,Src.vh true g m H i k c.2 r⟩) ⟨P rfl,A rfl⟩ λ_=>λq g m H i k c r=>⟨Src.vh q g m H i k c.1 r,Src.vh q g m H i k c.2 r⟩
   |false=>exact j _ _ B (l.trans y) adJ ⟨hw,t⟩ λz=>nomatch z
end
def WF:WX:=λ_ _ _ _=>False
def zP{b:Type}:Out b->Out b
 |.ok a=>.ok a
 |_=>.bad
@[simp]theorem aaL {b:Type} (a:b):zP (.ok a)=.ok a:=rfl
def yC{a:Type}{o:Out a}{P:a->Prop}{E E':cZ->Prop}(h:(zP o).sat P E):o.sat P E':=by
 cases o
 .exact h
 .exact awt h
 .exact h
def cJ(tg:ig)(tt:QT)(te:QF)(M:Mo)(ρ:Env):List Dat->Out (List Dat)
 |[]=>.ok []
 |d::c=>match tg d ρ with
  |none=>.bad
  |some a=>(zP (tt M a)).bind λb=>if b=true then(zP (te M a)).bind λy=>(cJ tg tt te M ρ c).bind λr=>.ok (y::r) else cJ tg tt te M ρ c
@[simp]def eO (b:IF) (d:ig) (f:List Nat) (e:QT) (c:QF) (M:Mo) (a:Env):Out Dat:=(b M a).bind λds=>Out.when (decide (ds.length<=50000)) ((cJ d e c M (bU a f) ds).bind λr=>.ok (.list r))
def gQ:QT:=λ_ _=>.ok true
def tFr(K:ave)(aj:aJ)(W:WX)(f:IF):TE:=λd H Q=>∃g c M,SInv K aj d H g c M/\(f M c).sat (λxs=>∀l b a,H l=none->Ex H a->a l=some (.lst b)->aC K (g.add l) a b xs->Q (.ref l) a) (pZ K aj W g H d)
def Vh(b:IF)(d:ig)(f:List Nat)(e:QT)(c:QF):IF:=λM a=>(b M a).bind λds=>Out.when (decide (ds.length<=50000)) (cJ d e c M (bU a f) ds)
section
variable{K:ave}{aj:aJ}{W:WX}
def aaJ{g:Gh}{H:Hp}{D:Addr}{o c:HO}{b:List V}{a:List Dat}(k:Kd g H)(h:H D=some o)(l:g.Lo D)(r:aC K g H b a):aC K g (upd H D c) b a:=r.gr (Gr.upd (q:=true) k h (.inr l)) k
def al1{g:Gh}{H:Hp}{D:Addr}{o a:HO}{v:V}{d:Dat}(k:Kd g H)(h:H D=some o)(l:g.Lo D)(r:Rep K g H v d):Rep K g (upd H D a) v d:=r.gr (Gr.upd (q:=true) k h (.inr l)) k
theorem mZ{l:ig}{f:QT}{a:QF}{M:Mo}{m:Env}:∀{c:List Dat} {x:cZ},cJ l f a M m c≠.exc x
 |[],_,h=>nomatch h
 |d::c,x,h=>by
  rw[cJ]at h;left
  .cases h
  .next g e=>
   cases i:f M g with
   |bad=>rw[i]at h;cases h
   |exc y=>rw[i]at h;cases h
   |ok b=>
    rw[i]at h;cases b with
    |false=>exact mZ h
    |true=>
     have h:((zP (a M g)).bind λy=>(cJ l f a M m c).bind λr=>Out.ok (y::r))=.exc x:=h;cases j:a M g with
     |bad=>rw[j]at h;cases h
     |exc y=>rw[j]at h;cases h
     |ok y=>
      rw[j]at h;cases k:cJ l f a M m c with
      |bad=>rw[k]at h;cases h
      |exc z=>exact mZ k
      |ok r=>rw[k]at h;cases h
theorem Ss(b:L2.St)(i:Nat):∀a:List Nat,(L2.wipe b a)[i]?=if i∈a then(b[i]?).map (λ_=>none) else b[i]?
 |[]=>by simp[L2.wipe]
 |v::a=>by
  show((L2.wipe b a).set v none)[i]?=_
  by_cases h:v=i
  .subst h;by_cases c:v<b.length
   .rw[avt (by rw[wipe_length];exact c),awy avl,avi c];rfl
   .have d:b[v]?=none:=List.getElem?_eq_none_iff.mpr #[];rw[awy avl,d,List.getElem?_eq_none_iff.mpr (by rw[avC,wipe_length];omega)];rfl
  .rw[avm h,Ss b i a];have:i∈v::a↔i∈a:=⟨λz=>by
    rcases avw.mp z with z|z
    .exact absurd z.symm h
    .exact z,avk _⟩
   simp![this]
def CJ(b:L2.St)(a:List Nat):L2.wipe (L2.wipe b a) a=L2.wipe b a:=by
 apply avO;intro i;rw[Ss (L2.wipe b a) i a,Ss b i a];split
 .cases b[i]?<;>rfl
 .rfl
def amA{it:IF}{B:ig}{js f:List Nat}{E:QT}{u:QF}(hj:∀j∈js,j∈f)(σ:L2.St)(H:Hp)(Q:VK)(h:tFr K aj W (Vh it B f E u) σ H Q) :
  tLc (tI K aj W false it) (Cv K aj js B) (lC K aj WF E) (tQ K aj WF u) f σ H Q:=by
 let⟨g,F,M,I,h⟩:=h
 refine⟨g,F,M,I,h.bnd.mono (λds hk J C H1 Z w c _ D Y=>?_) λ_ z=>z⟩;let⟨hz,hk⟩:=hk.lM
 have hlen:=awv hz;obtain⟨a,R,hQ⟩:∃a,cJ B E u M (bU F f) ds=.ok a/\∀l n A,H l=none->Ex H A->A l=some (.lst n)->aC K (g.add l) A n a->Q (.ref l) A:=by
  cases hc:cJ B E u M (bU F f) ds with
  |bad=>rw[hc]at hk;exact awt hk
  |exc x=>exact absurd hc mZ
  |ok a=>
   rw[hc]at hk;exact⟨a,rfl,hk⟩
 have I1:=(I.ex Z).wipe f;have kD:∀{d:Hp} {n:List V},Ex H1 d->d D=some (.lst n)->SInv K aj (L2.wipe σ f) d (g.add D) (bU F f) M:=λt S=>I1.add Y t S awr
 let Pv:Nat->Hp->Prop:=λi d=>Ex H1 d/\i<=ds.length/\∃n q,d D=some (.lst n)/\aC K (g.add D) d n q/\q.length<=i/\(cJ B E u M (bU F f) (ds.drop i)).sat (λr=>a=q++r) λ_=>False
 refine⟨λi m d=>m=ds.length-i/\Pv i d,⟨ds.length,rfl,Ex.new Y,avX _,[],[],awA,.nil,avE _,?_⟩,?_⟩
 .rw[awk,R];rfl
 .rintro i m d ⟨rfl,t,hi,n,q,S,hU,hy,s⟩;have Ia:=kD t S;have Ca:=w.add g (g.add D) H1 d (I.kd.ex Z) c (Gh.FP Y t) t;by_cases o:i<ds.length
  .refine .inr ⟨w.go _ i d Ca o,Pv (i+1),λA p=>⟨ds.length-(i+1),#[],rfl,p⟩,λx A y=>?_⟩;have hd:ds[i]?=some ds[i]:=avi o;let⟨L,rx⟩:=w.yld _ i d x A _ Ia.kd Ca hd y
   have I2:=Ia.ex L;rw[avW o,cJ]at s;split at s
   .exact awt s
   .next Z1 he=>
    refine⟨g.add D,_,M,_,Z1,I2,rx,he,λws I3=>⟨yJ js ws _ f hj |>.trans (CJ σ f),?_⟩⟩;refine lC.go I3 (yC s.bnd) λb H3 G N=>?_;have I4:=I3.ex N;have U:=N _ _ (L _ _ S);have O:=(hU.ex L Ia.kd).ex N I2.kd;cases b with
    |false=>
     have G:(cJ B E u M (bU F f) (ds.drop (i+1))).sat (λr=>a=q++r) λ_=>False:=G;exact⟨(t.trans L).trans N,o,n,q,U,O,Nat.le_succ_of_le hy,G⟩
    |true=>
     have G:((zP (u M Z1)).bind λy=>(cJ B E u M (bU F f) (ds.drop (i+1))).bind λr=>Out.ok (y::r)).sat (λr=>a=q++r) λ_=>False:=G;refine tQ.go I4 (yC G.bnd) λy v H4 hyv e4 ry=>?_;have I5:=I4.ex e4;have X:=e4 _ _ U;have hU4:=O.ex e4 I4.kd;have lD:(g.add D).Lo D:=.inr rfl;refine⟨n,X,sz_lt (by rw[hU.length];omega),Ex.mut (((t.trans L).trans N).trans e4) Y,o,n++[v],q++[y],awA,?_,by simp;omega,hyv.bnd.mono (λr hr=>?_) λ_ z=>z⟩
     .exact aaJ I5.kd X lD (hU4.append (.cons ry .nil))
     .have hr:a=q++y::r:=hr;rw[hr];simp
  .have e:i=ds.length:=#[];refine .inl ⟨w.stop _ i d Ca e,?_⟩;rw[e,av1]at s;have s:a=q++[]:=s;rw[avV]at s;subst s;exact hQ D n d (CZ Z D Y) (Z.trans t) S hU
def ajG{d:IF}{i:ig}{q b:List Nat}{k:QT}{f:QF}(t:∀j∈q,j∈b)(o:L2.St)(H:Hp)(Q:VK)(h:tQ K aj W (eO d i b k f) o H Q) :
  tLc (tI K aj W false d) (Cv K aj q i) (lC K aj WF k) (tQ K aj WF f) b o H Q:=by
 let⟨g,m,M,I,h⟩:=h
 refine amA t o H Q ⟨g,m,M,I,?_⟩;unfold Vh;unfold eO at h;cases c:d M m with
 |bad=>rw[c]at h;exact awt h
 |exc x=>rw[c]at h;exact h
 |ok p=>
  rw[c]at h;let⟨v,h⟩:=Out.sat.lM h
  have h:=h.bnd
  show(Out.when (decide (p.length<=50000)) (cJ i k f M (bU m b) p)).sat _ _
  rw[v,Out.Y0];exact h.mono (λxs z l y s n e u r=>z _ s e (.lst (.inl ⟨u,I.kd.fresh n⟩) (aC.less (g:=g.add l) (g':=g) rfl (λa z=>z.elim .inl λz=>.inr (z.elim .inl λz=>.inr (.inl z))) r))) λ_ z=>z
end
section
variable{X:Cx}{aj:aJ}{W:WX}{elt tg iter:Expr}{pos p tpos:Pos}
def amI{X:Cx}:Takes X WF:=λu h ⟨a,B,i,b,k,H,cls,d,e,I,nb,j,c,g,os,f,w⟩=>awt w
def apF{scope:Scope}{a:LsS Nat}{i:IF}{b:ig}{f:List Nat}{e:QT}{d:QF}{c:List Expr}(hc:X.calm=true)(l:X.N.Nodup)(o:QI aj X W false tg iter i)(ok:blkC X.N X.env.scope scope a=true)(q:∀j∈f,j∈a.map (·.2))
  (n:∀s H C cl fp,QG aj #[[[]]] tg f b)
  (t:∀s H C cl fp,PTs #[[[]]] c (lC X.K aj WF e))
  (m:∀s H C cl fp,QE aj #[[[]]] WF elt d) (r:∀x,foldedSetIterable iter X.env x=pure x) :
  QE aj X W (.ListComp elt [⟨tg,iter,c,0⟩] scope pos) (eO i b (a.map (·.2)) e d):=
 PE.weak (pe_lc (g:=Cv X.K aj f b) (tt:=lC X.K aj WF e) (te:=tQ X.K aj WF d) hc l o (blkOk_by ok) (λs H C cl fp=>n s H C cl fp) t (λs H C cl fp=>m s H C cl fp) r) λσ H Q h=>ajG q σ H Q h
end
def aR.sat{b:Type}(o:aR b)(P:b->Mo->Prop)(E:cZ->Mo->Prop):Prop:=
 match o with
 |.ok a M=>P a M
 |.exc x M=>E x M
 |.bad=>False
def aR.bind{b c:Type}(o:aR b)(k:b->Mo->aR c):aR c:=
 match o with
 |.ok a M=>k a M
 |.exc x M=>.exc x M
 |.bad=>.bad
@[simp]theorem aR.Bj {b c:Type} (a:b) (M:Mo) (k:b->Mo->aR c):(aR.ok a M).bind k=k a M:=rfl
@[simp]theorem aR.aiq {a b:Type} (x:cZ) (M:Mo) (k:a->Mo->aR b):(aR.exc x M:aR a).bind k=.exc x M:=rfl
@[simp]theorem aR.aje {a b:Type} (k:a->Mo->aR b):(aR.bad:aR a).bind k=.bad:=rfl
def aR.sat.bnd{b c:Type}{o:aR b}{k:b->Mo->aR c}{P:c->Mo->Prop}{E:cZ->Mo->Prop}(h:(o.bind k).sat P E):o.sat (λa M=>(k a M).sat P E) E:=by cases o<;>exact h
def aR.sat.mono{d:Type}{o:aR d}{P c:d->Mo->Prop}{E b:cZ->Mo->Prop}(h:o.sat P E)(f:∀a M,P a M->c a M)(e:∀x M,E x M->b x M):o.sat c b:=by
 cases o
 .exact f _ _ h
 .exact e _ _ h
 .exact h
def Out.at{b:Type}(o:Out b)(M:Mo):aR b:=
 match o with
 |.ok a=>.ok a M
 |.exc x=>.exc x M
 |.bad=>.bad
@[simp]theorem Out.aqS {b:Type} (a:b) (M:Mo):(Out.ok a).at M=.ok a M:=rfl
@[simp]theorem Out.as7 {a:Type} (x:cZ) (M:Mo):(Out.exc x:Out a).at M=.exc x M:=rfl
@[simp]theorem Out.atq {a:Type} (M:Mo):(Out.bad:Out a).at M=.bad:=rfl
def Out.dY{b:Type}{o:Out b}{M:Mo}{P:b->Mo->Prop}{E:cZ->Mo->Prop}(h:(o.at M).sat P E):o.sat (λa=>P a M) λx=>E x M:=by cases o<;>exact h
abbrev GF:=Mo->Env->aR Dat
abbrev GT:=Mo->Env->aR Bool
def dB.sat(o:dB)(c:Env->Mo->Prop)(rt:Dat->Mo->Prop)(bk b:Env->Mo->Prop)(ex:cZ->Env->Mo->Prop):Prop:=
 match o with
 |.next a M=>c a M
 |.ret d M=>rt d M
 |.brk a M=>bk a M
 |.cont a M=>b a M
 |.exc x a M=>ex x a M
 |.bad=>False
def dB.sat.mono{o:dB}{j f:Env->Mo->Prop}{rt g:Dat->Mo->Prop}{bk b i c:Env->Mo->Prop}{ex e:cZ->Env->Mo->Prop}(h:o.sat j rt bk i ex)(k:∀a M,j a M->f a M)(l:∀d M,rt d M->g d M)(m:∀a M,bk a M->b a M)(n:∀a M,i a M->c a M)(p:∀x a M,ex x a M->e x a M):o.sat f g b c e:=by
 cases o
 .exact k _ _ h
 .exact l _ _ h
 .exact m _ _ h
 .exact n _ _ h
 .exact p _ _ _ h
 .exact h
abbrev SF:=Mo->Env->dB
def Gh.fr(g:Gh):Gh:={ g with Lo:=λ_=>False }
section
variable(K:ave)(aj:aJ)(W:WX)(q:Bool)
def gE(g:Gh)(H:Hp)(d:L2.St)(f:Env)(x:cZ)(e:Mo):Prop:=∀a b c dd,Gr q g b H a->SInv K aj d a b f e->lN K aj b a x c dd->W c dd d a
def tE(f:GF):TE:=λe H Q=>∃g b M,SInv K aj e H g b M/\(f M b).sat (λd h=>∀v a c,Gr q g c H a->SInv K aj e a c b h->Rep K c a v d->Q v a) (gE K aj W q g H e b)
def Wn(f:GT):TT:=λd H Q=>∃g a M,SInv K aj d H g a M/\(f M a).sat (λb h=>∀c e,Gr q g e H c->SInv K aj d c e a h->Q b c) (gE K aj W q g H d a)
def sN(k:L2.St->Hp->Prop)(g:Gh)(H:Hp)(e:Env)(d:Mo):Prop:=∀a b c,Gr q g c H b->SInv K aj a b c e d->k a b
def sR(k:VK)(g:Gh)(H:Hp)(d:Dat)(c:Mo):Prop:=∀v a b,Gr q g b H a->Kd b.fr a->dH K aj b.fr a c->Rep K b.fr a v d->k v a
def sX(g:Gh)(H:Hp)(x:cZ)(f:Env)(e:Mo):Prop:=∀a b d c dd,Gr q g d H b->SInv K aj a b d f e->lN K aj d.fr b x c dd->W c dd a b
def tS(f:SF):TS:=λD b H=>∃g a M,SInv K aj b H g a M/\(f M a).sat (sN K aj q D.nx g H) (sR K aj q D.rt g H) (sN K aj q D.bk g H) (sN K aj q D.ct g H) (sX K aj W q g H)
end
section
variable{K:ave}{aj:aJ}{W:WX}{q:Bool}{g g1:Gh}{H H1:Hp}{σ:L2.St}{ρ:Env}{M:Mo}
def gE.gr{x:cZ}{a:Mo}(r:Gr q g g1 H H1)(h:gE K aj W q g H σ ρ x a):gE K aj W q g1 H1 σ ρ x a:=λH' b c dd d I z=>h H' b c dd (r.trans d) I z
def sN.gr{k:L2.St->Hp->Prop}{b:Env}{a:Mo}(r:Gr q g g1 H H1)(h:sN K aj q k g H b a):sN K aj q k g1 H1 b a:=λσ' c d e I=>h σ' c d (r.trans e) I
def sR.gr{k:VK}{d:Dat}{a:Mo}(r:Gr q g g1 H H1)(h:sR K aj q k g H d a):sR K aj q k g1 H1 d a:=λv b c e I z y=>h v b c (r.trans e) I z y
def sX.gr{x:cZ}{b:Env}{a:Mo}(r:Gr q g g1 H H1)(h:sX K aj W q g H x b a):sX K aj W q g1 H1 x b a:=λσ' d e c dd f I z=>h σ' d e c dd (r.trans f) I z
def tE.go{f:GF}{k:Dat->Mo->Prop}{Q:VK}(I:SInv K aj σ H g ρ M)(h:(f M ρ).sat k (gE K aj W q g H σ ρ))(hk:∀d c v a b,k d c->Gr q g b H a->SInv K aj σ a b ρ c->Rep K b a v d->Q v a):tE K aj W q f σ H Q:=
 ⟨g,ρ,M,I,h.mono (λd c hd v a b e i r=>hk d c v a b hd e i r) λ_ _ z=>z⟩
def Wn.go{f:GT}{k:Bool->Mo->Prop}{Q:Bool->Hp->Prop}(I:SInv K aj σ H g ρ M)(h:(f M ρ).sat k (gE K aj W q g H σ ρ))(hk:∀b c a i,k b c->Gr q g i H a->SInv K aj σ a i ρ c->Q b a):Wn K aj W q f σ H Q:=
 ⟨g,ρ,M,I,h.mono (λd c hd a i e j=>hk d c a i hd e j) λ_ _ z=>z⟩
def tS.go{f:SF}{D:Ends}(I:SInv K aj σ H1 g1 ρ M)(r:Gr q g g1 H H1)(h:(f M ρ).sat (sN K aj q D.nx g H) (sR K aj q D.rt g H) (sN K aj q D.bk g H) (sN K aj q D.ct g H) (sX K aj W q g H)):tS K aj W q f D σ H1:=
 ⟨g1,ρ,M,I,h.mono (λ_ _ z=>z.gr r) (λ_ _ z=>z.gr r) (λ_ _ z=>z.gr r) (λ_ _ z=>z.gr r) (λ_ _ _ z=>z.gr r)⟩
theorem jN.less{g':Gh}{fs:LsS V}{b:LsS Dat}(e:g'.tk=g.tk)(n:∀a,g'.A a->g.A a)(h:jN K g H fs b):jN K g' H fs b:=by
 induction h with
 |nil=>exact .nil
 |cons r _ c=>exact .cons (r.less e n) c
theorem lN.less{g':Gh}{x:cZ}{c:Value}{dd:Option Addr}(e:g'.tk=g.tk)(n:∀a,g'.A a->g.A a)(h:lN K aj g H x c dd):lN K aj g' H x c dd:=by
 let⟨C,i,j,k⟩:=h
 refine⟨C,i,j,k.imp id λ⟨a,fs,b,d,f⟩=>⟨a,fs,b,d,f.less e n⟩⟩
def yF(g:Gh):∀a,g.fr.A a->g.A a:=λa z=>z.elim .inl λz=>.inr (z.elim .inl λz=>awt z)
theorem Rep.fr{v:V}{d:Dat}(h:Rep K g H v d):Rep K g.fr H v d:=Rep.less (g:=g) (g':=g.fr) rfl (yF g) h
theorem aC.fr{v:List V}{d:List Dat}(h:aC K g H v d):aC K g.fr H v d:=aC.less (g:=g) (g':=g.fr) rfl (yF g) h
theorem lN.fr{x:cZ}{c:Value}{dd:Option Addr}(h:lN K aj g H x c dd):lN K aj g.fr H x c dd:=lN.less (g:=g) (g':=g.fr) rfl (yF g) h
end
def GE(aj:aJ)(X:Cx)(W:WX)(q:Bool)(e:Expr)(f:GF):Prop:=PE X e (tE X.K aj W q f)
def Gp(aj:aJ)(X:Cx)(W:WX)(q:Bool)(e:Expr)(f:GT):Prop:=PT X e (Wn X.K aj W q f)
def SE(aj:aJ)(X:Cx)(W:WX)(q:Bool)(s:Stmt)(f:SF):Prop:=PS X s (tS X.K aj W q f)
def Dq(aj:aJ)(X:Cx)(W:WX)(q:Bool)(s:List Stmt)(f:SF):Prop:=PSs X s (tS X.K aj W q f)
def PS.weak{X:Cx}{e:Stmt}{t b:TS}(h:PS X e t)(k:∀D a H,b D a H->t D a H):PS X e b:=⟨λpins s a H D I z=>h.run pins s a H D I (k D a H z)⟩
def PSs.weak{X:Cx}{e:List Stmt}{t b:TS}(h:PSs X e t)(k:∀D a H,b D a H->t D a H):PSs X e b:=⟨λpins s a H D I z=>h.run pins s a H D I (k D a H z)⟩
@[simp]def gOf (f:QF) (M:Mo) (a:Env):aR Dat:=(f M a).at M
section
variable{X:Cx}{aj:aJ}{W:WX}{q:Bool}{a b e:Expr}{pos:Pos}
def ajq{f:QF}(h:QE aj X W e f):GE aj X W q e (gOf f):=PE.weak h λσ H Q ⟨g,j,M,I,z⟩=>
 ⟨g,j,M,I,(Out.dY z).mono (λd k v i e r=>k v i g (Gr.ex e) (I.ex e) r) λx k i c dd e r=>k i g c dd (Gr.ex e) (I.ex e) r⟩
@[simp]def aM  (M:Mo) (c:Env):dB:=.next c M
def ak(f k:SF):SF:=λM g=>match f M g with
 |.next d c=>k c d
 |o=>o
def amm:Dq aj X W q [] aM:=PSs.weak pss_nil λD c H ⟨g,d,M,I,z⟩=>z c H g .refl I
def ams{s:Stmt}{f:SF}(h:SE aj X W q s f):Dq aj X W q [s] f:=pss_one h
def akZ{s:Stmt}{l:List Stmt}{f k:SF}(h:SE aj X W q s f)(o:Dq aj X W q l k):Dq aj X W q (s::l) (ak f k):=by
 refine PSs.weak (pss_cons h o) λD u H ⟨g,m,M,I,z⟩=>?_;refine⟨g,m,M,I,?_⟩;unfold ak at z;cases c:f M m with
 |next j i=>
  rw[c]at z;exact λσ' p t r n=>tS.go n r z
 |ret d i=>rw[c]at z;exact z
 |brk j i=>rw[c]at z;exact z
 |cont j i=>rw[c]at z;exact z
 |exc x j i=>rw[c]at z;exact z
 |bad=>rw[c]at z;exact z
def aR.then{c:Type}(o:aR c)(ρ:Env)(k:c->Mo->dB):dB:=
 match o with
 |.ok a M=>k a M
 |.exc x M=>.exc x ρ M
 |.bad=>.bad
@[simp]theorem aR.ajX {c:Type} (a:c) (M:Mo) (d:Env) (k:c->Mo->dB):(aR.ok a M).then d k=k a M:=rfl
@[simp]theorem aR.aru {c:Type} (x:cZ) (M:Mo) (d:Env) (k:c->Mo->dB):(aR.exc x M:aR c).then d k=.exc x d M:=rfl
@[simp]theorem aR.aq9 {c:Type} (d:Env) (k:c->Mo->dB):(aR.bad:aR c).then d k=.bad:=rfl
def cX{j:Type}{K:ave}{g:Gh}{H:Hp}{σ:L2.St}{l:Env}{o:aR j}{k:j->Mo->dB}{f bk d:Env->Mo->Prop}{i:Dat->Mo->Prop}(h:(o.then l k).sat f i bk d (sX K aj W q g H)):o.sat (λa M=>(k a M).sat f i bk d (sX K aj W q g H)) (gE K aj W q g H σ l):=by
 cases o with
 |ok a M=>exact h
 |exc x M=>exact λH' m c dd r I z=>h σ H' m c dd r I z.fr
 |bad=>exact h
@[simp]def aV (i:ig) (f:GF) (M:Mo) (c:Env):dB:=(f M c).then c λd g=>match i d c with
 |some h=>.next h g
 |none=>.bad
def aaT{c:Expr}{y:List Nat}{i:ig}{f:GF}(u:GE aj X W q e f)(w:QG aj X c y i)(x:swapsWithSole [c] e pos.line X.env=pure false)(hw:swappedStores [c] e X.env=pure none)(t:(assignEach [c] X.env).map (·.2)=[assign c X.env]):SE aj X W q (.Assign [c] e pos) (aV i f):=by
 refine PS.weak (ps_asg u w x hw t) λD j H ⟨g,B,M,I,z⟩=>?_;refine tE.go I (cX (σ:=j) z) λd o v l h k r m A=>?_;split at k
 .next p s=>exact⟨h,B,o,d,p,m,A,s,λvs n=>k _ l h r n⟩
 .exact awt k
@[simp]def cA (f:GF) (M:Mo) (c:Env):dB:=(f M c).then c λ_ d=>.next c d
def Q5{f:GF}(l:GE aj X W q e f)(m:swapsWith e none pos.line X.env=pure false):SE aj X W q (.Expr e pos) (cA f):=by refine PS.weak (ps_expr l m) λD c H ⟨g,p,M,I,z⟩=>?_;exact tE.go I (cX (σ:=c) z) λd n v h j k r i o=>k c h j r i
end
def VF:Cell->Cell
 |.mut a=>.dat (.list a)
 |c=>c
def qK(a:Env):Env:=a.map λo=>o.map VF
section
variable{K:ave}{aj:aJ}{W:WX}{q:Bool}{g:Gh}{H:Hp}{σ:L2.St}{ρ:Env}{M:Mo}
theorem iU.less{g':Gh}{l:Addr}(e:g'.tk=g.tk)(n:∀a,g'.A a->g.A a):∀{b:Bool} {c:List (Dat×Dat)},iU K aj g H l b c->iU K aj g' H l b c
 |false,_,⟨m,d,f,h⟩=>⟨m,d,f,h.less e n⟩
 |true,_,⟨o,r,p,d,f,h,i,j,k⟩=>⟨o,r,p,d,f,h,i.less e n,j,k.less e n⟩
theorem cP.less{g':Gh}{h:Nat}{f:Str}{v:V}(e:g'.tk=g.tk)(i:g'.ow=g.ow)(n:∀a,g'.A a->g.A a):∀{fl:gU},cP K aj g H h f v fl->cP K aj g' H h f v fl
 |.dat _,z=>Rep.less e n z
 |.lst _ _,⟨l,m,b,c,d,j,k⟩=>⟨l,m,b,c,by rw[i];exact d,j.less e n,by rw[Gh.HY e];exact k⟩
 |.dic _ _,⟨l,b,c,d⟩=>⟨l,b,by rw[i];exact c,d.less e n⟩
theorem bQ.less{g':Gh}{h:Nat}(e:g'.tk=g.tk)(b:g'.ow=g.ow)(n:∀a,g'.A a->g.A a):∀{fs:LsS V} {gs:LsS gU},bQ K aj g H h fs gs->bQ K aj g' H h fs gs
 |_,_,.nil=>.nil
 |_,_,.cons z t=>.cons (cP.less e b n z) (bQ.less e b n t)
theorem dH.less{g':Gh}(e:g'.tk=g.tk)(e2:g'.ow=g.ow)(n:∀a,g'.A a->g.A a)(w:dH K aj g H M):dH K aj g' H M where
 len:=by rw[Gh.HY e];exact w.len
 inj:=by rw[Gh.HY e];exact w.inj
 ins:=λh a i ha hi hc=>by
  rw[Gh.HY e]at ha;let⟨C,dx,fs,c1,c2,c3⟩:=w.ins h a i ha hi hc
  exact⟨C,dx,fs,c1,c2,c3.less e e2 n⟩
 nd:=w.nd
 fd:=w.fd
 tw:=by rw[Gh.HY e,e2];exact w.tw
 li:=λh a xs ha hi=>by
  rw[Gh.HY e]at ha;let⟨us,h1,h2,h3⟩:=w.li h a xs ha hi
  exact⟨us,h1,by rw[e2];exact h2,h3.less e n⟩
 nc:=w.nc
def Sv{i:Nat}{c:Cell}(h:(qK ρ)[i]?=some (some c)):∃a,ρ[i]?=some (some a)/\c=VF a:=by
 unfold qK at h;rw[avy]at h;cases b:ρ[i]? with
 |none=>rw[b]at h;cases h
 |some o=>
  rw[b]at h;cases o with
  |none=>cases h
  |some a=>
   cases h;exact⟨a,rfl,rfl⟩
theorem SInv.qK(I:SInv K aj σ H g ρ M):SInv K aj σ H g.fr (qK ρ) M where
 kd:=⟨λa z=>I.kd.ob a (yF g a z),λa z=>awt z,λa z=>⟨(I.kd.lc a z).1,λy=>y⟩⟩
 wok:=dH.less (g:=g) (g':=g.fr) rfl rfl (yF g) I.wok
 len:=by unfold Rf.qK;rw[avs];exact I.len
 dat:=λi d h=>by
  let⟨c,h1,h2⟩:=Sv h
  cases c with
  |dat d'=>
   cases h2;let⟨v,e1,e2⟩:=I.dat i _ h1
   exact⟨v,e1,e2.fr⟩
  | «mut» xs=>
   cases h2;let⟨l,us,e1,e2,e3,e4⟩:=I.own i _ h1
   refine⟨_,e1,.lst (.inl ⟨e2,λz=>?_⟩) e4.fr⟩;rcases z with z|z|z
   .exact I.kd.lo l e3 z
   .exact(I.kd.lc l z).2 e3
   .exact z
 own:=λi xs h=>by
  let⟨c,h1,h2⟩:=Sv h
  cases c<;>cases h2
 sep:=λi j xs ys l ne h1=>by
  let⟨c,h1,h2⟩:=Sv h1
  cases c<;>cases h2
end
section
variable{K:ave}{aj:aJ}{W:WX}{q:Bool}{g g':Gh}{H H':Hp}{σ:L2.St}{ρ:Env}{M:Mo}
theorem Kd.fr(k:Kd g H):Kd g.fr H:=⟨λa z=>k.ob a (yF g a z),λa z=>awt z,λa z=>⟨(k.lc a z).1,λy=>y⟩⟩
theorem dH.fr(w:dH K aj g H M):dH K aj g.fr H M:=dH.less (g:=g) (g':=g.fr) rfl rfl (yF g) w
def aW{a:Type}{l:List (Option a)}{j i:Nat}{c:a}{o:Option a}(h:(l.set j o)[i]?=some (some c)):(j=i/\o=some c/\j<l.length)\/(j≠i/\l[i]?=some (some c)):=by
 by_cases z:j=i
 .subst z;have b:j<l.length:=by
   have:=(avf.mp h).1;rw[avC]at this;exact this
  rw[avt b]at h;exact .inl ⟨rfl,avA h,b⟩
 .rw[avm z]at h;exact .inr ⟨z,h⟩
def SInv.amM{j:Nat}{l:Addr}{u:List V}{w:List Dat}(I:SInv K aj σ H g ρ M)(n:H l=none)(e:Ex H H')(hl:H' l=some (.lst u))(r:aC K (g.add l) H' u w):SInv K aj (σ.set j (some (.ref l))) H' (g.add l) (ρ.set j (some (.mut w))) M:=by
 have s:=I.add n e hl awr;have v:∀(i:Nat) (f:List Dat),ρ[i]?=some (some (.mut f))->σ[i]?≠some (some (.ref l)):=λi f h z=>by
  let⟨A,y,c,b,_⟩:=I.own i f h
  rw[z]at c;cases c;rw[n]at b;cases b
 refine⟨s.kd,s.wok,by rw[avC,avC];exact I.len,λi d h=>?_,λi f h=>?_,λi k f x a ne c b m o=>?_⟩
 .rcases aW h with⟨_,h,_⟩|⟨ne,h⟩
  .cases h
  .rw[avm ne];exact s.dat i d h
 .rcases aW h with⟨rfl,h,p⟩|⟨ne,h⟩
  .cases h;exact⟨l,u,by rw[avt (by rw[I.len];exact p)],hl,.inr rfl,r⟩
  .rw[avm ne];exact s.own i f h
 .rcases aW c with⟨rfl,c,p⟩|⟨n1,c⟩
  .rcases aW b with⟨rfl,b,_⟩|⟨t,b⟩
   .exact ne rfl
   .rw[avt (by rw[I.len];exact p)]at m;cases m;rw[avm t]at o;exact v k x b o
  .rcases aW b with⟨rfl,b,p⟩|⟨t,b⟩
   .rw[avt (by rw[I.len];exact p)]at o;cases o;rw[avm n1]at m;exact v i f c m
   .rw[avm n1]at m;rw[avm t]at o;exact I.sep i k f x a ne c b m o
def cP.loc{l:Addr}{o p:HO}{h:Nat}{f:Str}{v:V}(k:Kd g H)(hl:H l=some o)(lo:g.Lo l):∀{fl:gU},cP K aj g H h f v fl->cP K aj g (upd H l p) h f v fl:=λ{fl} z=>by
 have r:Gr true g g H (upd H l p):=Gr.upd k hl (.inr lo);cases fl with
 |dat d=>exact Rep.gr r k z
 |lst n s=>
  let⟨a,B,j,i,b,c,e⟩:=z
  exact⟨a,B,j,by rw[upd_ne (λz=>by subst z;exact k.lo _ lo (.inr (by rw[b];exact λz=>nomatch z)))];exact i,b,c.gr r k,e⟩
 |dic n y=>
  let⟨a,j,i,b⟩:=z
  have m:a≠l:=λz=>by subst z;exact k.lo _ lo (.inr (by rw[i];exact λz=>nomatch z))
  refine⟨a,j,i,?_⟩;cases n with
  |false=>
   let⟨x,b,c,e⟩:=b
   exact⟨x,by rw[upd_ne m];exact b,c,e.gr r k⟩
  |true=>
   let⟨o,s,A,b,c,e,t,u,w⟩:=b
   exact⟨o,s,A,by rw[upd_ne m];exact b,c,e,t.gr r k,u,w.gr r k⟩
theorem bQ.loc{l:Addr}{o a:HO}{h:Nat}(k:Kd g H)(hl:H l=some o)(lo:g.Lo l):∀{fs:LsS V} {gs:LsS gU},bQ K aj g H h fs gs->bQ K aj g (upd H l a) h fs gs
 |_,_,.nil=>.nil
 |_,_,.cons z t=>.cons (cP.loc k hl lo z) (bQ.loc k hl lo t)
theorem dH.loc{l:Addr}{o o':HO}(k:Kd g H)(hl:H l=some o)(lo:g.Lo l)(w:dH K aj g H M):dH K aj g (upd H l o') M where
 len:=w.len
 inj:=w.inj
 ins:=λh a i ha hi hc=>by
  let⟨C,dx,fs,c1,c2,c3⟩:=w.ins h a i ha hi hc
  exact⟨C,dx,fs,c1,by rw[upd_ne (λz=>by subst z;exact k.lo _ lo (.inl (avo ha)))];exact c2,c3.loc k hl lo⟩
 nd:=w.nd
 fd:=w.fd
 tw:=w.tw
 li:=λh a xs ha hi=>by
  let⟨us,h1,h2,h3⟩:=w.li h a xs ha hi
  exact⟨us,by rw[upd_ne (λz=>by subst z;exact k.lo _ lo (.inl (avo ha)))];exact h1,h2,h3.gr (Gr.upd (q:=true) k hl (.inr lo)) k⟩
 nc:=w.nc
def SInv.change{j:Nat}{c ys:List Dat}(I:SInv K aj σ H g ρ M)(n:ρ[j]?=some (some (.mut c))):∃l o,σ[j]?=some (some (.ref l))/\H l=some (.lst o)/\g.Lo l/\aC K g H o c/\∀b,aC K g H b ys->SInv K aj σ (upd H l (.lst b)) g (ρ.set j (some (.mut ys))) M:=by
 let⟨l,o,u,w,m,C⟩:=I.own j c n
 refine⟨l,o,u,w,m,C,λb r=>?_⟩;have gr:Gr true g g H (upd H l (.lst b)):=Gr.upd I.kd w (.inr m);refine⟨I.kd.upd awr,I.wok.loc I.kd w m,by rw[avC];exact I.len,λi d h=>?_,λi p h=>?_,λi k p B a ne e f s t=>?_⟩
 .rcases aW h with⟨_,h,_⟩|⟨ne,h⟩
  .cases h
  .let⟨v,e,f⟩:=I.dat i d h
   exact⟨v,e,f.gr gr I.kd⟩
 .rcases aW h with⟨rfl,h,_⟩|⟨ne,h⟩
  .cases h;exact⟨l,b,u,awA,m,r.gr gr I.kd⟩
  .let⟨A,B,e,f,s,t⟩:=I.own i p h
   have D:A≠l:=λz=>by
    subst z;exact I.sep i j p c A (Ne.symm ne) h n e u
   exact⟨A,B,e,by rw[upd_ne D];exact f,s,t.gr gr I.kd⟩
 .have x:∃c,ρ[i]?=some (some (.mut c)):=by
   rcases aW e with⟨rfl,_,_⟩|⟨_,h⟩
   .exact⟨c,n⟩
   .exact⟨p,h⟩
  have y:∃c,ρ[k]?=some (some (.mut c)):=by
   rcases aW f with⟨rfl,_,_⟩|⟨_,h⟩
   .exact⟨c,n⟩
   .exact⟨B,h⟩
  let⟨E,x⟩:=x
  let⟨F,y⟩:=y
  exact I.sep i k E F a ne x y s t
end
section
variable{X:Cx}{aj:aJ}{W:WX}{q:Bool}{a b e:Expr}{pos:Pos}
@[simp]def aN (f:QF) (M:Mo) (c:Env):dB:=((f M (qK c)).at M).then c λd g=>.ret d g
@[simp]def iz (f:GF) (M:Mo) (c:Env):dB:=(f M c).then c λd g=>.ret d g
def an5{f:QF}(k:QE aj X W e f):SE aj X W q (.Return (some e) pos) (aN f):=by
 refine PS.weak (ps_ret k) λD l H ⟨g,j,M,I,z⟩=>?_;refine⟨g.fr,qK j,M,I.qK,?_⟩;unfold aN at z;cases i:f M (qK j) with
 |ok d=>
  rw[i]at z;exact λv h e r=>z v h g (Gr.ex e) (I.ex e).kd.fr (I.ex e).wok.fr r
 |exc x=>
  rw[i]at z;exact λh c dd e r=>z l h g c dd (Gr.ex e) (I.ex e) r
 |bad=>rw[i]at z;exact awt z
def akJ{f:GF}(l:GE aj X W q e f):SE aj X W q (.Return (some e) pos) (iz f):=by refine PS.weak (ps_ret l) λD h H ⟨g,o,M,I,z⟩=>?_;exact tE.go I (cX (σ:=h) z) λd n v i j k r c m=>k v i j r c.kd.fr c.wok.fr m.fr
@[simp]def bJ (t:QT) (f k:SF) (M:Mo) (d:Env):dB:=((t M (qK d)).at M).then d λc g=>if c=true then f g d else k g d
@[simp]def Uc (t:GT) (f k:SF) (M:Mo) (d:Env):dB:=(t M d).then d λc g=>if c=true then f g d else k g d
def aqj{c:Expr}{j l:List Stmt}{t:QT}{f k:SF}(hc:uI aj X W c t)(n:Dq aj X W q j f)(o:Dq aj X W q l k):SE aj X W q (.If c j l pos) (bJ t f k):=by
 refine PS.weak (ps_if hc n o) λD p H ⟨g,m,M,I,z⟩=>?_;refine⟨g.fr,qK m,M,I.qK,?_⟩;unfold bJ at z;cases h:t M (qK m) with
 |ok d=>
  rw[h]at z;intro i e;cases d with
  |true=>exact tS.go (I.ex e) (Gr.ex e) z
  |false=>exact tS.go (I.ex e) (Gr.ex e) z
 |exc x=>
  rw[h]at z;exact λi c dd e r=>z p i g c dd (Gr.ex e) (I.ex e) r
 |bad=>rw[h]at z;exact awt z
def anC{c:Expr}{i j:List Stmt}{t:GT}{f k:SF}(hc:Gp aj X W q c t)(m:Dq aj X W q i f)(n:Dq aj X W q j k):SE aj X W q (.If c i j pos) (Uc t f k):=by
 refine PS.weak (ps_if hc m n) λD l H ⟨g,u,M,I,z⟩=>?_;refine Wn.go I (cX (σ:=l) z) λb p o s h r d=>?_;cases b with
 |true=>exact tS.go d r h
 |false=>exact tS.go d r h
def fO(g:ig)(c:SF):List Dat->Mo->Env->dB
 |[],M,h=>.next h M
 |d::ds,M,h=>match g d h with
  |none=>.bad
  |some i=>match c M i with
   |.next f M2=>fO g c ds M2 f
   |.cont f M2=>fO g c ds M2 f
   |.brk f M2=>.next f M2
   |.ret d M2=>.ret d M2
   |.exc x f M2=>.exc x f M2
   |.bad=>.bad
@[simp]def nR (g:IF) (h:ig) (c:SF) (M:Mo) (d:Env):dB:=((g M d).at M).then d λds f=>fO h c ds f d
def aoT{tg s:Expr}{F:List Stmt}{it:IF}{js:List Nat}{Y:ig}{f:SF}(hp:PassesOwn (model X.prog X.w) X.A X.env X.xe)(hc:X.calm=true)(hi:QI aj X W true tg s it)(hg:QG aj X tg js Y)(hb:Dq aj X W q F f)(hs:∀x,foldedSetIterable s X.env x=pure x) :
  SE aj X W q (.For tg s F [] pos) (nR it Y f):=by
 refine PS.weak (ps_for hp hc hi hg hb hs) λD σ H ⟨g,Z,M,I,z⟩=>?_;refine⟨g,Z,M,I,?_⟩;unfold nR at z;cases hf:it M Z with
 |exc x=>
  rw[hf]at z;exact λG c dd e r=>z σ G g c dd (Gr.ex e) (I.ex e) r.fr
 |bad=>rw[hf]at z;exact awt z
 |ok v=>
  rw[hf]at z;intro J C H1 e1 w c1 l;have l:=l rfl;have z:(fO Y f v M Z).sat (sN X.K aj q D.nx g H) (sR X.K aj q D.rt g H) (sN X.K aj q D.bk g H) (sN X.K aj q D.ct g H) (sX X.K aj W q g H):=z
  let Pv:Nat->L2.St->Hp->Prop:=λi t u=>i<=v.length/\∃B E L,Gr q g B H u/\SInv X.K aj t u B E L/\C B u/\(fO Y f (v.drop i) L E).sat (sN X.K aj q D.nx g H) (sR X.K aj q D.rt g H) (sN X.K aj q D.bk g H) (sN X.K aj q D.ct g H) (sX X.K aj W q g H)
  refine⟨λi m t u=>m=v.length-i/\Pv i t u,⟨v.length,rfl,avX _,g,Z,M,Gr.ex e1,I.ex e1,c1,by rw[awk];exact z⟩,?_⟩;rintro i m t u ⟨rfl,hi,B,E,L,ri,O,N,j⟩;by_cases o:i<v.length
  .refine .inr ⟨w.go _ i u N o,Pv (i+1),λσ' G p=>⟨v.length-(i+1),#[],rfl,p⟩,λx G y=>?_⟩;have hd:v[i]?=some v[i]:=avi o;let⟨U,rx⟩:=w.yld _ i u x G _ O.kd N hd y
   rw[avW o,fO]at j;split at j
   .exact awt j
   .next Z1 he=>
    have I2:=O.ex U;refine⟨B,E,L,_,Z1,I2,rx,he,λvs I3=>⟨B,Z1,L,I3,?_⟩⟩;have S:=ri.trans (Gr.ex U);cases n:f L Z1 with
    |next Q M2=>
     rw[n]at j;exact λσ' H2 R r I'=>⟨o,R,Q,M2,S.trans r,I',l q B R G H2 I2.kd (w.ex _ _ _ O.kd N U) r,j⟩
    |cont Q M2=>
     rw[n]at j;exact λσ' H2 R r I'=>⟨o,R,Q,M2,S.trans r,I',l q B R G H2 I2.kd (w.ex _ _ _ O.kd N U) r,j⟩
    |brk Q M2=>
     rw[n]at j;exact sN.gr S j
    |ret d M2=>
     rw[n]at j;exact sR.gr S j
    |exc x Q M2=>
     rw[n]at j;exact sX.gr S j
    |bad=>rw[n]at j;exact awt j
  .have e:i=v.length:=#[];refine .inl ⟨w.stop _ i u N e,?_⟩;rw[e,av1]at j;exact j t u B ri O
@[simp]def KN (j:Nat) (f:QF) (M:Mo) (c:Env):dB:=match c[j]? with
 |some #[.int i]=>((f M c).at M).then c λd g=>match d with
  |.int k=>.next (c.set j #[.int (i+k)]) g
  |_=>.bad
 |_=>.bad
def aof{j:Nat}{x:Str}{f:QF}{l:Pos}(s:X.N.Nodup)(y:X.N[j]?=some x)(B:Loc X.env.scope x)(w:X.fn x=true\/X.env.scope.names.lookup x=some .local)(t:QE aj X W e f):SE aj X W q (.AugAssign (.Name x l) .Add e pos) (KN j f):=by
 refine PS.weak (ps_aug s y B t ip_add w) λD C H ⟨g,n,M,I,z⟩=>?_;unfold KN at z;split at z
 .next i A=>
  let⟨v,o,p⟩:=I.dat j _ A
  cases p;refine⟨.int i,o,⟨g,n,M,I,?_⟩⟩;cases h:f M n with
  |exc x=>rw[h]at z;exact λm c dd e r=>z C m g c dd (Gr.ex e) (I.ex e) r.fr
  |bad=>rw[h]at z;exact awt z
  |ok d=>
   rw[h]at z;intro u m e r;cases d with
   |int k=>
    cases r;exact⟨i,k,rfl,rfl,z _ m g (Gr.ex e) ((I.ex e).set (.int _))⟩
   |_=>exact awt z
 .exact awt z
def FE(aj:aJ)(X:Cx)(W:WX)(e:Expr)(f:IF):Prop:=PE X e (tFr X.K aj W f)
@[simp]def Pn (j:Nat) (f:IF) (M:Mo) (c:Env):dB:=((f M c).at M).then c λxs d=>.next (c.set j (some (.mut xs))) d
def aob{j:Nat}{f:IF}(D:Ends)(k:L2.St)(H:Hp)(h:tS X.K aj W q (Pn j f) D k H):tAsg (tFr X.K aj W f) (gName j) D k H:=by
 let⟨g,o,M,I,z⟩:=h
 refine⟨g,o,M,I,?_⟩;unfold Pn at z;cases i:f M o with
 |exc x=>rw[i]at z;exact λd c dd e r=>z k d g c dd (Gr.ex e) (I.ex e) r.fr
 |bad=>rw[i]at z;exact awt z
 |ok t=>
  rw[i]at z;intro l s d n e p r;have m:Gr true g (g.add l) H d:=Gh.FP n e;refine z _ d (g.add l) ?_ (I.amM n e p r);cases q with
  |true=>exact m
  |false=>exact m.loud
def apg{j:Nat}{x:Str}{f:IF}{c:Pos}(d:X.N.Nodup)(k:X.N[j]?=some x)(m:Loc X.env.scope x)(i:X.fn x=true\/X.env.scope.names.lookup x=some .local)(g:FE aj X W e f)(l:swapsWith e (some (.Name x c)) pos.line X.env=pure false):SE aj X W q (.Assign [.Name x c] e pos) (Pn j f):=
 PS.weak (ps_set d k m g l i) λD n H h=>aob D n H h
@[simp]def JK (f:QA) (M:Mo) (c:Env):Out (List Dat):=(f M c).bind λxs=>Out.when (decide (xs.length<=100000)) (.ok xs)
def aaK{K:ave}{g:Gh}{H:Hp}{l:Addr}{d:List V}{c:List Dat}(k:Kd g H)(n:H l=none)(r:aC K g H d c){o:HO}:aC K (g.add l) (upd H l o) d c:=r.gr (Gh.FP n (Ex.new n)) k
def ahp{i:List Expr}{j:QA}(h:Jo aj X W i j):FE aj X W (.List i pos) (JK j):=
 PE.weak (pe_lst h) λσ H Q ⟨g,o,M,I,h⟩=>by
  refine Rx.go I h.bnd λds k n d c r1=>?_;let⟨m,d⟩:=d.lM
  have l:k.length<=100000:=by rw[r1.length];exact awv m
  exact⟨sz_of l,λp f=>d p k _ (CZ c p f) (c.trans (Ex.new f)) awA (aaK (I.kd.ex c) f r1)⟩
def ae1:Dat->Out (List Dat)
 |.list c=>.ok c
 |.tuple c=>.ok c
 |_=>.bad
@[simp]def arB (f:QF) (M:Mo) (c:Env):Out (List Dat):=(f M c).bind ae1
def baseOk:Expr->Bool
 |.Call (.Name _ _) _ _ _=>false
 |_=>true
def jy{o:Expr}{m:Str}{c:PySem.Env}{w:Sem Value}(h:baseOk o=true):attributeBase o m c w=w:=by
 cases o with
 | Call f as d p=>cases f<;>first | rfl | cases h
 |_=>rfl
theorem abU{env:PySem.Env}{pos:Pos}:∀(c:List Expr),c.all nst=true->(backTo pos (starEach c env)).all (λx=>!x.1)=true
 |[],_=>#[rfl]
 |a::c,h=>by
  rw[avI,avh]at h;rw[bH h.1];have d:=abU (env:=env) (pos:=pos) c h.2;unfold backTo at d |-
  rw[avj,avI,d];rfl
def few{c:PySem.Env}{pos:Pos}{d:List Expr}(h:d.all nst=true)(f:d.length<30):((backTo pos (starEach d c)).all (λx=>!x.1)&&(backToKw pos (keywordEach [] c)).all (λx=>x.1.isSome)&&decide (d.length+([]:List Keyword).length+(if ([]:List Keyword).isEmpty then 0 else 1)<30))=true:=by rw[abU d h];have:(backToKw pos (keywordEach [] c)).all (λx=>x.1.isSome)=true:=#[rfl];rw[this];simpa using f
@[simp]def Lh (j:Nat) (f:QF) (M:Mo) (c:Env):dB:=match c[j]? with
 |some (some (.mut g))=>((f M c).at M).then c λd h=>if g.length<100000 then .next (c.set j (some (.mut (g++[d])))) h else .bad
 |_=>.bad
def am1{j:Nat}{x:Str}{f:QF}{p i:Pos}{m:Pos}(hN:X.N[j]?=some x)(hv:Vis X.env.scope x)(hd:(x==("__debug__" : Str))=false)(s:(x==("__classdict__" : Str))=false)(he:QE aj X W e f)(u:nst e=true)
  (hl:(i.endLine==pos.line)=true):SE aj X W q (.Expr (.Call (.Attribute (.Name x p) "append" i) [e] [] pos) m) (Lh j f):=by
 have Y:=pe_var (X:=X) (pos:=p) hN hv hd s;have Z:=pa_cons he pa_nil (bH u []);have y:=pe_bm (X:=X) (cpos:=pos) (apos:=i) PySem.F.plainAttrs_list PySem.F.slot_list_append PySem.F.type_list_append mt_append Y Z (jy rfl) (few (by simp[u]) (by simp)) hl (bH u []) #[rfl];refine PS.weak (ps_expr y #[rfl]) λD σ H ⟨g,A,M,I,z⟩=>?_;unfold Lh at z;split at z
 .next o L=>
  let⟨l,O,E,n,e3,Q⟩:=I.own j o L
  refine⟨.ref l,E,.inl ⟨rfl,O,sq_of n⟩,⟨g,A,M,I,?_⟩⟩;cases t:f M A with
  |exc x=>rw[t]at z;exact λB c dd e r=>z σ B g c dd (Gr.ex e) (I.ex e) r.fr
  |bad=>rw[t]at z;exact awt z
  |ok d=>
   rw[t]at z;intro v B e r;have z:(if o.length<100000 then dB.next (A.set j (some (.mut (o++[d])))) M else .bad).sat (sN X.K aj q D.nx g H) (sR X.K aj q D.rt g H) (sN X.K aj q D.bk g H) (sN X.K aj q D.ct g H) (sX X.K aj W q g H):=z;split at z
   .next hlen=>
    have C:=I.ex e;let⟨l',us',G,J,R,S,U⟩:=C.change (ys:=o++[d]) L
    rw[E]at G;cases G;rw[e _ _ n]at J;cases J;refine⟨l,O,v,rfl,rfl,e _ _ n,sz_lt (by rw[Q.length];exact hlen),?_⟩;exact z _ _ g ((Gr.ex e).trans (Gr.upd C.kd (e _ _ n) (.inr R))) (U _ (S.append (.cons r .nil)))
   .exact awt z
 .exact awt z
end
structure Gc(g g':Gh)(H H':Hp):Prop where
 keep:∀a o,H a=some o->¬g.W a->H' a=some o
 dom:∀a,H' a=none->H a=none
 tbl:∃more,g'.tbl=g.tbl++more
 W:∀a,g.W a->g'.W a
 nW:∀a,g'.W a->g.W a\/H a=none
 Lc:g'.Lc=g.Lc
 Lo:g'.Lo=g.Lo
 kl:g'.kl=g.kl
def RJ(K:ave)(aj:aJ)(n:Nat)(m:Mo->List Dat->Out Dat):Sp:=λvs H Q E=>vs.length=n/\∃g M b,Kd g H/\dH K aj g H M/\aC K g H vs b/\
 (m M b).sat (λd=>∀v a,Ex H a->Rep K g a v d->Q v a) λx=>∀a c dd,Ex H a->lN K aj g a x c dd->E c dd a
def HJ(K:ave)(aj:aJ)(n:Nat)(m:Mo->List Dat->aR Dat):Sp:=λvs H Q E=>vs.length=n/\∃g M f,Kd g H/\dH K aj g H M/\aC K g H vs f/\
 (m M f).sat (λd e=>∀v a b,Gc g b H a->Kd b a->dH K aj b a e->Rep K b a v d->Q v a) λx e=>∀a b c dd,Gc g b H a->Kd b a->dH K aj b a e->lN K aj b a x c dd->E c dd a
section
variable{K:ave}{aj:aJ}{W:WX}{g g':Gh}{H H':Hp}{σ:L2.St}{ρ:Env}{M M':Mo}
def Gc.gr(r:Gc g g' H H'):Gr false g g' H H':=⟨λa o h n _=>r.keep a o h n,(λz=>nomatch z),r.dom,r.tbl,r.W,r.nW,(λz=>nomatch z),r.Lc,λa h=>by rw[r.Lo];exact h,λa h=>by rw[r.Lo]at h;exact .inl h,r.kl⟩
def SInv.call(r:Gc g g' H H')(k':Kd g' H')(w':dH K aj g' H' M')(I:SInv K aj σ H g ρ M):SInv K aj σ H' g' ρ M' where
 kd:=k'
 wok:=w'
 len:=I.len
 dat:=λi d h=>by
  let⟨v,h1,h2⟩:=I.dat i d h
  exact⟨v,h1,h2.gr r.gr I.kd⟩
 own:=λi xs h=>by
  let⟨l,us,h1,h2,h3,h4⟩:=I.own i xs h
  exact⟨l,us,h1,r.keep _ _ h2 (I.kd.lo l h3),by rw[r.Lo];exact h3,h4.gr r.gr I.kd⟩
 sep:=I.sep
def Gh.in(g:Gh):Gh:={ g with Lc:=λa=>g.Lc a\/g.Lo a,Lo:=λ_=>False }
def acL(g:Gh)(a:Addr):g.in.A a↔g.A a:=by
 constructor
 .rintro(z|(z|z)|z)
  .exact .inl z
  .exact .inr (.inl z)
  .exact .inr (.inr z)
  .exact awt z
 .rintro(z|z|z)
  .exact .inl z
  .exact .inr (.inl (.inl z))
  .exact .inr (.inl (.inr z))
theorem Kd.in(k:Kd g H):Kd g.in H:=⟨λa z=>k.ob a ((acL g a).mp z),λa z=>awt z,λa z=>⟨z.elim (λz=>(k.lc a z).1) (λz=>k.lo a z),λy=>y⟩⟩
def ini(n:Nat)(a:List Dat):Env:=a.map (λd=>#[d])++List.replicate (n-a.length) none
def aeb{N:List Str}{vs:List V}{ds:List Dat}(k:Kd g H)(w:dH K aj g H M)(r:aC K g H vs ds):SInv K aj (start N vs) H g (ini N.length ds) M where
 kd:=k
 wok:=w
 len:=by unfold L2.start ini;rw[avP,avP,avs,avs,List.length_replicate,List.length_replicate,r.length]
 dat:=λi d h=>by
  unfold ini at h;unfold L2.start;by_cases hi:i<ds.length
  .rw[avq (by rw[avs];exact hi),avy]at h;cases hd:ds[i]? with
   |none=>rw[hd]at h;cases h
   |some d'=>
    rw[hd]at h;cases h;let⟨v,h1,h2⟩:=r.get hd
    refine⟨v,?_,h2⟩;rw[avq (by rw[avs,r.length];exact hi),avy,h1];rfl
  .rw[avv (by rw[avs];omega)]at h;rw[List.getElem?_replicate]at h
   left<;>cases h
 own:=λi xs h=>by
  unfold ini at h;by_cases hi:i<ds.length
  .rw[avq (by rw[avs];exact hi),avy]at h;cases hd:ds[i]? with
   |none=>rw[hd]at h;cases h
   |some d'=>rw[hd]at h;cases h
  .rw[avv (by rw[avs];omega)]at h;rw[List.getElem?_replicate]at h
   left<;>cases h
 sep:=λi j xs ys l ne h=>by
  unfold ini at h;by_cases hi:i<ds.length
  .rw[avq (by rw[avs];exact hi),avy]at h;cases hd:ds[i]? with
   |none=>rw[hd]at h;cases h
   |some d'=>rw[hd]at h;cases h
  .rw[avv (by rw[avs];omega)]at h;rw[List.getElem?_replicate]at h
   left<;>cases h
end
def mQ(n:Nat)(a:SF):Mo->List Dat->Out Dat:=λM b=>match a M (ini n b) with
 |.ret d _=>.ok d
 |.next _ _=>.ok .none
 |.exc x _ _=>.exc x
 |_=>.bad
def mG(n:Nat)(b:SF):Mo->List Dat->aR Dat:=λM c=>match b M (ini n c) with
 |.ret d a=>.ok d a
 |.next _ a=>.ok .none a
 |.exc x _ a=>.exc x a
 |_=>.bad
section
variable{P:Program}{w:World}{K:ave}{mg:Str->Option Value}{base:Heap}{aj:aJ}
def aiP(E:XK):WX:=λc d _ H=>E c d H
def Rep.same{g g':Gh}{H:Hp}{v:V}{d:Dat}(e:g'.tk=g.tk)(n:∀a,g'.A a↔g.A a)(h:Rep K g H v d):Rep K g' H v d:=h.less e λa z=>(n a).mp z
def aeN{g c:Gh}{H b:Hp}(r:Gr true g.in c H b):Ex H b:=λa o h=>by
 by_cases w:g.W a
 .exact r.keepW rfl a o h w
 .exact r.keep a o h w λz=>z
def amv{q:Bool}{g b:Gh}{H d:Hp}(r:Gr q g.in b H d)(a:Addr):b.fr.A a↔(b.W a\/g.Lc a\/g.Lo a):=by
 have c:b.Lc=g.in.Lc:=r.Lc;constructor
 .rintro(z|z|z)
  .exact .inl z
  .have z:b.Lc a:=z;rw[c]at z;exact .inr z
  .exact awt z
 .rintro(z|z)
  .exact .inl z
  .refine .inr (.inl ?_);show b.Lc a;rw[c];exact z
def Fun.okC{C:CXT}{x b:Str}{st:Stmt}{f:Addr}{fd:FuncData}{N ps:List Str}{k:Nat}{i:Sp}(F:Fun K x b st f fd)(S:FnScope N ps (defScope st))(len:∀e H Q E,i e H Q E->e.length=ps.length)
  (d:∀(c:Value) (A:Around) (a:List PySem.Env) (s:Shared) (H:Hp) (e:List V) (Q:VK) (E:XK),Room k (A.deeper (envOfC b (defScope st) s.heap.objs.size f c))->i e H Q E->
   ∃t,PSs (cxOf C P w K mg base N b (defScope st) f c A a s H E) (defBody st) t/\t { nx:=λ_ j=>Q .non j,rt:=Q } (start N e) H):FnOk P w K mg base C (k+1) f fd ps i:=by
 let⟨n,o,kV,doc,p,an,c,m,l,rfl,lk,g⟩:=F.ex
 exact fn_of lk g S len λA a s H e Q E hr h=>d c A a s H e Q E hr h
def arQ{C:CXT}{x l:Str}{st:Stmt}{f:Addr}{D:FuncData}{N u:List Str}{k:Nat}{j:SF}(F:Fun K x l st f D)(S:FnScope N u (defScope st))
  (J:∀(m:Value) (A:Around) (b:List PySem.Env) (s:Shared) (H:Hp) (E:XK),Room k (A.deeper (envOfC l (defScope st) s.heap.objs.size f m))->Dq aj (cxOf C P w K mg base N l (defScope st) f m A b s H E) (aiP E) true (defBody st) j) :
  FnOk P w K mg base C (k+1) f D u (RJ K aj u.length (mQ N.length j)):=by
 refine Fun.okC F S (λX H Q E h=>h.1) (λm A b s H X Q E L h=>⟨_,J m A b s H E L,?_⟩);let⟨Z,g,M,B,O,Y,R,h⟩:=h
 have y:dH K aj g.in H M:=dH.less (g:=g) (g':=g.in) rfl rfl (λa z=>(acL g a).mp z) Y;refine⟨g.in,ini N.length B,M,aeb O.in y (aC.less (g:=g) (g':=g.in) rfl (λa z=>(acL g a).mp z) R),?_⟩;have o:∀{i:Gh} {n:Hp},Gr true g.in i H n->∀a,g.A a↔i.fr.A a:=λ{i n} r a=>by
  rw[amv r a];have e:=(r.qg rfl);have I:i.W a↔g.W a:=by unfold Gh.W;rw[Gh.HY e.1,e.2];rfl
  unfold Gh.A;rw[I]
 unfold mQ at h;cases p:j M (ini N.length B) with
 |next t q=>
  rw[p]at h;exact λσ' n i r G=>h _ n (aeN r) .non
 |ret d q=>
  rw[p]at h;exact λv n i r k' w' T=>h v n (aeN r) (Rep.same (g:=i.fr) (g':=g) (r.qg rfl).1.symm (o r) T)
 |exc x t q=>
  rw[p]at h;exact λσ' n i c dd r G U=>h n c dd (aeN r) (lN.less (g:=i.fr) (g':=g) (r.qg rfl).1.symm (λa z=>(o r a).mp z) U)
 |brk t q=>rw[p]at h;exact awt h
 |cont t q=>rw[p]at h;exact awt h
 |bad=>rw[p]at h;exact awt h
def arU{x m:Str}{st:Stmt}{f:Addr}{R:FuncData}{N J:List Str}{k:Nat}{j:SF}(F:Fun K x m st f R)(S:FnScope N J (defScope st))
  (X:∀(p:Value) (A:Around) (i:List PySem.Env) (s:Shared) (H:Hp) (E:XK),Room k (A.deeper (envOfC m (defScope st) s.heap.objs.size f p))->Dq aj (cxOf (L2.CX P w) P w K mg base N m (defScope st) f p A i s H E) (aiP E) false (defBody st) j) :
  FnOk P w K mg base (L2.CX P w) (k+1) f R J (HJ K aj J.length (mG N.length j)):=by
 refine F.okX S (λvs H Q E h=>h.1) (λp A i s H vs Q E Y h=>⟨_,X p A i s H E Y,?_⟩);let⟨hl,g,M,O,T,wk,Z,h⟩:=h
 have L:dH K aj g.in H M:=dH.less (g:=g) (g':=g.in) rfl rfl (λa z=>(acL g a).mp z) wk;refine⟨g.in,ini N.length O,M,aeb T.in L (aC.less (g:=g) (g':=g.in) rfl (λa z=>(acL g a).mp z) Z),?_⟩
 let l:Gh->Gh:=λb=>{ tbl:=b.tbl,ow:=b.ow,Lc:=g.Lc,Lo:=g.Lo,kl:=b.kl }
 have G:∀{b:Gh} {e:Hp},Gr false g.in b H e->Gc g (l b) H e:=λ{b e} r=>⟨λa o h n=>r.keep a o h n λz=>z,r.dom,r.tbl,r.W,r.nW,rfl,rfl,r.kl⟩;have q:∀{b:Gh} {e:Hp},Gr false g.in b H e->∀a,(l b).A a↔b.fr.A a:=λ{b e} r a=>by
  rw[amv r a];exact Iff.rfl
 have I:∀{b:Gh} {e:Hp},Gr false g.in b H e->Kd b.fr e->Kd (l b) e:=λ{b e} r C=>by
  have U:∀a,(g.Lc a\/g.Lo a)->¬b.W a:=λa z y=>by
   have:b.fr.Lc a:=by show b.Lc a;rw[show b.Lc=g.in.Lc from r.Lc];exact z
   exact(C.lc a this).1 y
  exact⟨λa z=>C.ob a ((q r a).mp z),λa z=>U a (.inr z),λa z=>⟨U a (.inl z),(T.lc a z).2⟩⟩
 unfold mG at h;cases t:j M (ini N.length O) with
 |next D B=>
  rw[t]at h;exact λσ' e b r u=>h _ e (l b) (G r) (I r u.kd.fr) (dH.less (g:=b.fr) (g':=l b) rfl rfl (λa z=>(q r a).mp z) u.wok.fr) .non
 |ret d B=>
  rw[t]at h;exact λv e b r C w' rv=>h v e (l b) (G r) (I r C) (dH.less (g:=b.fr) (g':=l b) rfl rfl (λa z=>(q r a).mp z) w') (Rep.same (g:=b.fr) (g':=l b) rfl (q r) rv)
 |exc x D B=>
  rw[t]at h;exact λσ' e b c dd r u rx=>h e (l b) c dd (G r) (I r u.kd.fr) (dH.less (g:=b.fr) (g':=l b) rfl rfl (λa z=>(q r a).mp z) u.wok.fr) (lN.less (g:=b.fr) (g':=l b) rfl (λa z=>(q r a).mp z) rx)
 |brk D B=>rw[t]at h;exact awt h
 |cont D B=>rw[t]at h;exact awt h
 |bad=>rw[t]at h;exact awt h
end
@[simp]def aQ (m:Mo->List Dat->Out Dat) (as:QA) (M:Mo) (a:Env):Out Dat:=(as M a).bind λds=>m M ds
section
variable{X:Cx}{aj:aJ}{W:WX}{q:Bool}{a b e:Expr}{es:List Expr}{pos p:Pos}{x:Str}{k:Nat}{f:Addr}{fd:FuncData}{ps:List Str}
def alH{C:CXT}{m:Mo->List Dat->Out Dat}{as:QA}(P:∀o,PassesAt C X o (WE W o))(F:FnOk X.prog X.w X.K X.mg X.base C k f fd ps (RJ X.K aj ps.length m))(N:Room k X.A)(D:Gl X x)(J:X.mg x=some (.ref f))(hk:PySem.W.keepIn X.K (.ref f)=true)(z:Binds X.K fd ps [])
  (y:Jo aj X W (e::es) as) (G:(e::es).length=ps.length) (B:(x==("__debug__" : Str))=false) (O:(e::es).all nst=true) (L:∀M r n,as M r=.ok n->n.length=(e::es).length):QE aj X W (.Call (.Name x p) (e::es) [] pos) (aQ m as):=by
 have l:=O;rw[avI,avh]at l;refine PE.weak (pe_callS (E:=λo=>WE W o) F N D J hk z P y B (bH l.1 es) (star_any es l.2)) λo H Q ⟨g,r,M,I,h⟩=>?_;refine⟨g,r,M,I,?_⟩;have h:=h.bnd;cases i:as M r with
 |exc x=>rw[i]at h;exact h
 |bad=>rw[i]at h;exact h
 |ok n=>
  rw[i]at h;have h:(m M n).sat (λd=>∀v j,Ex H j->Rep X.K g j v d->Q v j) (pZ X.K aj W g H o):=h;intro S R s r1;refine⟨by rw[r1.length,L M r n i];exact G,g,M,n,I.kd.ex s,I.wok.ex s I.kd,r1,h.mono (λd k v j t u=>k v j (s.trans t) u) λx k j c dd t u=>k j c dd (s.trans t) u⟩
end
def ai3{n:Nat}(h:n<=16001):n<=sizeLine:=avH h #[()]
def aqr{q:Program}{w:World}{A:Around}{E:Value->Shared->Prop}{s:Shared}{l:Addr}{g:Value}{c:List Value}{Q:List Value->Shared->Prop}(D:A.handled=none)(m:s.heap.IsList l (g::c).toArray\/IsTup s.heap l (g::c).toArray)(J:c.length<=16000)
  (h:∀(a:Heap) (p:Nat),(∀b o,s.heap.get? b=some o->a.get? b=some o)->Q [g,.ref a.objs.size] { s with heap:=a.push { cls:=.type "list",data:=.seq c.toArray },toks:=p }):wpAny (model q w) A (unpackItems (.ref l) 2 (some 1)) Q E s:=by
 have z:l<s.heap.objs.size:=by rcases m with⟨o,F,_⟩|⟨o,F,_⟩<;>exact Heap.lt_size F
 have i:l≠s.heap.objs.size:=avT z;have n:(g::c).toArray.size=c.length+1:=by simp
 have B:(g::c).toArray.size<=sizeLine:=ai3 (by rw[n];omega);have C:(g::c).toArray.toList.drop 1=c:=by simp
 have G:((g::c).toArray.toList.drop 0).take 1=[g]:=by simp
 have fin:∀(a:Heap) (p:Nat),(∀b o,b≠s.heap.objs.size->s.heap.get? b=some o->a.get? b=some o)->wpAny (model q w) A (newList c >>= λd=>pure ([g]++[d]++[])) Q E { s with heap:=a,toks:=p }:=λa p k=>by
  refine aww (wpAny_newObj_type (awx ?_) (ai3 (by simp;omega)));exact h a p λb o e=>k b o (avT (Heap.lt_size e)) e
 unfold unpackItems;refine aww ?_;unfold notIterableAtAll;rcases m with m|m
 .refine aww (wpAny_specialOf m.typeIs slot_list_iter.lookup (awx ?_));simp![avR,if_false];refine aww (wpAny_holding (wpAny_pyIter_list m ?_));refine aww (wpAny_holding (PySem.W.kun_draw i 1 0 _ _ ⟨_,Heap.get?_push_size _ rfl,rfl,rfl⟩ (m.push _) (by rw[n];omega) λh₁ x v=>?_));have f:=(m.push _).extBut v.extBut i;let⟨H,r,_⟩:=id x
  let⟨I,t,_⟩:=id f
  rw[G];refine aww (wpAny_holding (PySem.W.kun_collect (s:={ s with heap:=h₁ }) (T:="list_iterator") (.inr (.inr (.inl rfl))) (Walks.list (A:=A.in1) D s.heap.objs.size l i (g::c).toArray) (λj u st=>st.1.typeIs) (k:=1) (by rw[n];omega) ⟨x,f⟩ (Heap.lt_size r) (Heap.lt_size t) (λa p hk=>?_) B))
  rw[C];show wpAny _ _ (if c.length<0 then _ else newList (c.take (c.length-0)) >>= λd=>pure ([g]++[d]++c.drop (c.length-0))) _ _ _;rw[awz (Nat.not_lt_zero _),Nat.sub_zero,List.take_length,av1];exact fin a p λb o y e=>hk b o y (v.extBut b o y (Heap.get?_push_of_some _ e))
 .refine aww (wpAny_specialOf m.typeIs slot_tuple_iter.lookup (awx ?_));simp![avR,if_false];refine aww (wpAny_holding (iter_tuple m ?_));refine aww (wpAny_holding (draw_tuple i 1 0 _ _ ⟨_,Heap.get?_push_size _ rfl,rfl,rfl⟩ (m.push _) (by rw[n];omega) λh₁ x v=>?_));have f:IsTup h₁ l (g::c).toArray:=(m.push _).extBut v.extBut i;let⟨H,r,_⟩:=id x
  let⟨I,t,_⟩:=id f
  rw[G];refine aww (wpAny_holding (PySem.W.kun_collect (s:={ s with heap:=h₁ }) (T:="tuple_iterator") (.inr (.inr (.inr rfl))) (Walks.tuple (A:=A.in1) D s.heap.objs.size l i (g::c).toArray) (λj u st=>st.1.typeIs) (k:=1) (by rw[n];omega) ⟨x,f⟩ (Heap.lt_size r) (Heap.lt_size t) (λa p hk=>?_) B))
  rw[C];show wpAny _ _ (if c.length<0 then _ else newList (c.take (c.length-0)) >>= λd=>pure ([g]++[d]++c.drop (c.length-0))) _ _ _;rw[awz (Nat.not_lt_zero _),Nat.sub_zero,List.take_length,av1];exact fin a p λb o y e=>hk b o y (v.extBut b o y (Heap.get?_push_of_some _ e))
def ajR(K:ave)(i j:Nat):TG:=λv d H Q=>∃a c b,v=.ref a/\(SqL K H a (c::b)\/SqT K H a (c::b))/\b.length<=16000/\∀D,H D=none->Q ((d.set i (some c)).set j (some (.ref D))) (upd H D (.lst b))
def Xe(X:Cx)(j:Nat)(x:Str):Prop:=X.N[j]?=some x/\Loc X.env.scope x/\(X.fn x=true\/X.env.scope.names.lookup x=some .local)
def ak2{X:Cx}{i j k:Nat}{x y:Str}{c d f pos:Pos}(hc:X.calm=true)(E:X.N.Nodup)(n:Xe X i x)(o:Xe X j y):PG X (.Tuple [.Name x c,.Starred (.Name y d) f] k pos) (ajR X.K i j):=by
 refine⟨λpins s W H v u Q I r h=>?_⟩;let⟨a,U,S,rfl,b,O,q⟩:=h
 cases r;have L:assign (.Tuple [.Name x c,.Starred (.Name y d) f] k pos) X.env (.ref a)=(do standAt pos;unpack (.ref a) (assignEach [.Name x c,.Starred (.Name y d) f] X.env)):=#[rfl];have M:assignEach [.Name x c,.Starred (.Name y d) f] X.env=[(false,assign (.Name x c) X.env),(true,assign (.Name y d) X.env)]:=#[rfl];rw[L,M];refine aww (wpAny_standAt ?_);unfold unpack;obtain⟨g,l,m,B,e⟩:∃g l,(s.heap.IsList a (g::l).toArray\/IsTup s.heap a (g::l).toArray)/\RelV U g/\Vals S l:=by
  rcases b with b|b
  .let⟨z,A,p,_⟩:=I.list b
   cases A with
   |cons r t=>exact⟨_,_,.inl p.isList,r,t⟩
  .let⟨z,A,p,_⟩:=I.tuple b
   cases A with
   |cons r t=>exact⟨_,_,.inr p,r,t⟩
 refine aww (wpAny_holding (aqr (I.ok.hd hc) m (by rw[<-e.length];exact O) λh₂ C hk=>?_));have D:L2.Inv X pins W H { s with heap:=h₂,toks:=C }:=I.kept (t':=C) hk;have F:=D.lnew (t':=C) e (ai3 #[]);refine assignInOrder_cons (wpAny_assign_Name (store_ok F E n.1 n.2.1 B (λs4 G=>?_) n.2.2));refine assignInOrder_cons (wpAny_assign_Name (store_ok G E o.1 o.2.1 (v:=.ref h₂.objs.size) rfl (λs5 J=>assignInOrder_nil ?_) o.2.2));exact⟨_,_,J,q _ D.fresh⟩
section
variable{X:Cx}{aj:aJ}{W:WX}{q:Bool}{e:Expr}{pos:Pos}
@[simp]def aeM (i j:Nat) (f:GF) (M:Mo) (a:Env):dB:=(f M a).then a λd c=>match d with
 |.list (b::ds)=>if ds.length<=16000 then .next ((a.set i #[b]).set j #[.list ds]) c else .bad
 |.tuple (b::ds)=>if ds.length<=16000 then .next ((a.set i #[b]).set j #[.list ds]) c else .bad
 |_=>.bad
def alK{i j k:Nat}{x y:Str}{G J F Q:Pos}{f:GF}(hc:X.calm=true)(hN:X.N.Nodup)(hx:Xe X i x)(hy:Xe X j y)(he:GE aj X W q e f)(hs:swapsWithSole [.Tuple [.Name x G,.Starred (.Name y J) F] k Q] e pos.line X.env=pure false)(hw:swappedStores [.Tuple [.Name x G,.Starred (.Name y J) F] k Q] e X.env=pure none) :
  SE aj X W q (.Assign [.Tuple [.Name x G,.Starred (.Name y J) F] k Q] e pos) (aeM i j f):=by
 refine PS.weak (ps_asg he (ak2 hc hN hx hy) hs hw #[rfl]) λD R H ⟨g,ρ,M,I,z⟩=>?_;refine tE.go I (cX (σ:=R) z) λd Z v m E b r u U=>?_;have fin:∀{a:Addr} {t:V} {c:List V} {C:Dat} {A:List Dat},v=.ref a->(SqL X.K m a (t::c)\/SqT X.K m a (t::c))->Rep X.K E m t C->aC X.K E m c A->(if A.length<=16000 then dB.next ((ρ.set i #[C]).set j #[.list A]) Z else .bad).sat (sN X.K aj q D.nx g H) (sR X.K aj q D.rt g H) (sN X.K aj q D.bk g H) (sN X.K aj q D.ct g H) (sX X.K aj W q g H)->ajR X.K i j v R m D.nx:=λ{a t c C A} n hq s l b=>by
  split at b
  .next hz=>
   refine⟨a,t,c,n,hq,by rw[l.length];exact hz,λp S=>?_⟩;have B:=Ex.new (o:=.lst c) S;have Y:=u.ex B;refine b _ _ E (r.trans (Gr.ex B)) ((Y.set (s.ex B u.kd)).set (.lst (.inl ⟨awA,u.kd.fresh S⟩) (l.ex B u.kd)))
  .exact awt b
 split at b
 .let⟨a,c,n,L,O⟩:=gY U.weak
  cases O with
  |cons s l=>exact fin n (.inl L) s l b
 .let⟨a,c,n,L,O⟩:=mj U.weak
  cases O with
  |cons s l=>exact fin n (.inr L) s l b
 .exact awt b
@[simp]def aat (i j:Nat) (f:GF) (M:Mo) (a:Env):dB:=(f M a).then a λd b=>.next ((a.set i #[d]).set j #[d]) b
def aj5{i j:Nat}{x y:Str}{l m:Pos}{f:GF}(c:X.N.Nodup)(a:Xe X i x)(b:Xe X j y)(u:GE aj X W q e f)(hw:swappedStores [.Name x l,.Name y m] e X.env=pure none):SE aj X W q (.Assign [.Name x l,.Name y m] e pos) (aat i j f):=by refine PS.weak (ps_asg2 u (pg_name c a.1 a.2.1 a.2.2) (pg_name c b.1 b.2.1 b.2.2) #[rfl] hw) λD o H ⟨g,C,M,I,z⟩=>?_;exact tE.go I (cX (σ:=o) z) λd B v p t A r s n=>A _ p t r ((s.set n).set n)
def amK{j:Nat}{y:Str}{J:Pos}{f o a:Expr}{b:Pos}{scope:Scope}{l:LsS Nat}{G:IF}{m:ig}{B:List Nat}{p:QT}{n:QF}{i:List Expr}(hc:X.calm=true)(L:X.N.Nodup)(Z:X.N[j]?=some y)(A:X.env.scope.names.lookup y=some .local)
  (u:swapsWith (.ListComp f [⟨o,a,i,0⟩] scope b) (some (.Name y J)) pos.line X.env=pure true) (R:QI aj X W false o a G) (ok:blkC X.N X.env.scope scope l=true) (S:∀j∈B,j∈l.map (·.2))
  (Q:∀s H C cl fp,QG aj #[[[]]] o B m)
  (Y:∀s H C cl fp,PTs #[[[]]] i (lC X.K aj WF p))
  (O:∀s H C cl fp,QE aj #[[[]]] WF f n) (U:∀x,foldedSetIterable a X.env x=pure x) :
  SE aj X W q (.Assign [.Name y J] (.ListComp f [⟨o,a,i,0⟩] scope b) pos) (aV (au j) (gOf (eO G m (l.map (·.2)) p n))):=by
 refine PS.weak (ps_setLc (g:=Cv X.K aj B m) (tt:=lC X.K aj WF p) (te:=tQ X.K aj WF n) hc L Z A u R (blkOk_by ok) (λs H C cl fp=>Q s H C cl fp) Y (λs H C cl fp=>O s H C cl fp) U) λD F H ⟨g,ρ,M,I,z⟩=>?_;refine ajG S F H _ ⟨g,ρ,M,I,(Out.dY (cX (σ:=F) z)).mono (λd E v t e r=>?_) λx E t c dd e r=>E t g c dd (Gr.ex e) (I.ex e) r⟩;exact E _ t g (Gr.ex e) ((I.ex e).set r)
end
inductive GV where
 |con (d:Dat)
 |fq (n:Nat) (m:Mo->List Dat->Out Dat)
 |fg (n:Nat) (m:Mo->List Dat->aR Dat)
 |dic (kvs:List (Str×Dat))
 |exc
 |exi (fs:List Str)
 |cls (n:Nat) (m:Mo->List Dat->aR Dat)
 |kin (κ:Str->Option (List Bool))
def GV.soft:GV->Bool
 |.con _=>false
 |.dic _=>false
 |.exc=>false
 |_=>true
inductive MV where
 |q (n:Nat) (m:Mo->List Dat->Out Dat)
 |g (n:Nat) (m:Mo->List Dat->aR Dat)
def FQ(P:Program)(w:World)(K:ave)(d:Str->Option Value)(a:Heap)(aj:aJ)(k:Nat)(f:Addr)(n:Nat)(m:Mo->List Dat->Out Dat):Prop:=
 ∃(c:FuncData) (b:List Str) (j:Nat),j<=k/\b.length=n/\Binds K c b []/\FnOk P w K d a (L2.CX P w) j f c b (RJ K aj b.length m)
def FG(P:Program)(w:World)(K:ave)(d:Str->Option Value)(a:Heap)(aj:aJ)(k:Nat)(f:Addr)(n:Nat)(m:Mo->List Dat->aR Dat):Prop:=
 ∃(c:FuncData) (b:List Str) (j:Nat),j<=k/\b.length=n/\Binds K c b []/\FnOk P w K d a (L2.CX P w) j f c b (HJ K aj b.length m)
def jP(K:ave)(aj:aJ):Prop:=∀c C f,aj c=some C->f∈aj.fl c->Cls K C/\NoAttr K C f
def Gg(P:Program)(w:World)(K:ave)(d:Str->Option Value)(a:Heap)(aj:aJ)(k:Nat)(c m:Str)(v:MV):Prop:=
 ∃C f,aj c=some C/\Cls K C/\Meth K C m f/\m∉aj.fl c/\match v with
  |.q n b=>FQ P w K d a aj k f n b
  |.g n b=>FG P w K d a aj k f n b
def ajh(C:Addr)(f:List Str):Sp:=λg H Q _=>∃(a:Addr) (e:List V),g=.ref a::e/\e.length=f.length/\H a=some (exo a C none)/\
 ∀(d:Addr) (c:Hp),H d=none->(∀b o,b≠a->H b=some o->c b=some o)->(∀b,c b=none->H b=none)->c a=some (exo a C (some d))->c d=some (exd d (f.zip e).reverse)->Q .non c
def afu(w:World)(K:ave)(a:Addr)(b:LsS Dat):Prop:=∃(c:Array DictEntry) (n:Nat),KDict K w a c n/\(b.map (·.1)).Nodup/\
 ∀x:Str,match b.lookup x with
  |some d=>∃v u,PySem.W.nsIn K a x=some (some u)/\RelV v u/\∀g H,Rep K g H v d
  |none=>PySem.W.nsIn K a x=some none
def FnK(P:Program)(w:World)(K:ave)(m:Str->Option Value)(e:Heap)(aj:aJ)(k:Nat)(f:Addr)(i:FuncData)(o:List Str)(r:Str->Option (List Bool)):Prop:=
 ∀(A:Around) (a:List PySem.Env) (s:Shared) (H:Hp) (c:Args) (p:Addr×Obj) (cls:Value) (d:Option Addr) (n:Str) (h:List Bool) (Q:VK) (E:XK),L2H.RoomH k A->Zc cls d p.2->(∃q,p.2.data=.fields q)->
  (d=none\/∃b j,d=some b/\H b=some (.xd j))->L2H.PinOk a H s p->Env0 P w K m e A a s H->BindsTo s i c (o.zip [.ref p.1])->(∃C,aj n=some C/\cls=.ref C)->r n=some h->
  (∀l g,Ex H g->H l=none->g l=some (.lst (h.map V.bl))->Q (.ref l) g)->codeAny (model P w) A (.call (.ref f) c) (CR (L2.CX P w) a P w H s Q E) s
def mJ(P:Program)(w:World)(K:ave)(c:Str->Option Value)(b:Heap)(aj:aJ)(k:Nat)(x:Str):GV->Prop
 |.con d=>∃v u,c x=some u/\RelV v u/\(∀g H,Rep K g H v d)/\∀a q,v=.ref a->d=.tuple q->∃o,K.lookup a=some o/\o.cls=.type "tuple"/\o.dict=none
 |.fq n m=>∃f,c x=some (.ref f)/\PySem.W.keepIn K (.ref f)=true/\FQ P w K c b aj k f n m
 |.fg n m=>∃f,c x=some (.ref f)/\PySem.W.keepIn K (.ref f)=true/\FG P w K c b aj k f n m
 |.dic l=>∃a,c x=some (.ref a)/\afu w K a l
 |.exc=>∃C,c x=some (.ref C)/\aj x=some C/\PySem.W.excIn K C He.veBase "ValueError.__new__"=true/\PySem.W.keepIn K (.ref C)=true/\PySem.W.subIn K (.ref C) (.type "BaseException")=some true/\PySem.W.typeIn K (.ref C)=some (.type "type")
 |.exi p=>∃(C i:Addr) (h:FuncData) (e:List Str),c x=some (.ref C)/\aj x=some C/\OexC K C/\PySem.W.findIn K (.ref C) "__init__"=some (some (.ref i))/\PySem.W.typeIn K (.ref i)=some (.type "function")/\2<=k/\e.length=p.length+1/\Binds K h e []/\FnOk P w K c b CX0 1 i h e (ajh C p)
 |.cls n m=>∃(C f:Addr) (h:FuncData) (e:List Str) (j:Nat),c x=some (.ref C)/\aj x=some C/\Cls K C/\Mk K C f/\j+1<=k/\e.length=n+1/\Binds K h e []/\FnOk P w K c b (L2.CX P w) j f h e (HJ K aj e.length m)
 |.kin r=>∃f,c x=some (.ref f)/\PySem.W.keepIn K (.ref f)=true/\∃(h:FuncData) (e:List Str) (j:Nat),j<=k/\e.length=1/\Binds K h e []/\FnK P w K c b aj j f h e r
def afq(K:ave)(aj:aJ)(y:Str)(a:Str->Option Bool):Prop:=∀x b C,a x=some b->aj x=some C->∀D,aj y=some D->PySem.W.exmOne K (.ref C) (.ref D)=some b
def putL(f:Str)(x:gU):LsS gU->LsS gU
 |[]=>[(f,x)]
 |(g,y)::r=>if g=f then(g,x)::r else(g,y)::putL f x r
def Inst.put(i:Inst)(f:Str)(x:gU):Inst:=⟨i.cls,putL f x i.fs⟩
theorem Lr(f:Str)(x:gU):∀a:LsS gU,(putL f x a).map (·.1)=if f∈a.map (·.1) then a.map (·.1) else a.map (·.1)++[f]
 |[]=>by simp[putL]
 |(g,y)::r=>by
  have b:=Lr f x r;rw[putL];by_cases e:g=f
  .subst e;simp
  .rw[awz e,avj,b];by_cases h:f∈r.map (·.1)
   .rw[awy h,awy (by simp[h])];rfl
   .rw[awz h,awz (by
     rw[avj,avw]
     rintro(z|z)
     .exact e z.symm
     .exact h z)]
    rfl
def afn{f:Str}{x:gU}{c:LsS gU}(h:(c.map (·.1)).Nodup):((putL f x c).map (·.1)).Nodup:=by
 rw[Lr];split
 .exact h
 .next n=>
  rw[av4];refine⟨h,by simp,λa g b d e=>?_⟩;subst e;rw[avp]at d;subst d;exact n g
theorem Ou{f:Str}{v:V}:∀{a:LsS V},a.lookup f=some v->putF f v a=a
 |[],h=>nomatch h
 |(g,y)::r,h=>by
  rw[avM]at h;rw[show putF f v ((g,y)::r)=(if g=f then(g,v)::r else(g,y)::putF f v r) from rfl];by_cases e:g=f
  .subst e;simp at h;rw[awy rfl,h]
  .have b:(f==g)=false:=by simpa using λz=>e z.symm
   rw[b]at h;rw[awz e,Ou h]
section
variable{K:ave}{aj:aJ}{W:WX}{g g':Gh}{H H':Hp}{σ:L2.St}{ρ:Env}{M:Mo}{h:Nat}{f:Str}{v:V}{fl:gU}
theorem bQ.put(hk:∀a d b,a≠f->cP K aj g H h a d b->cP K aj g' H' h a d b)(c:cP K aj g' H' h f v fl):∀{fs:LsS V} {gs:LsS gU},bQ K aj g H h fs gs->(gs.map (·.1)).Nodup->bQ K aj g' H' h (putF f v fs) (putL f fl gs)
 |_,_,.nil,_=>.cons c .nil
 |_,_,.cons (f:=a) (v:=d) (fl:=b) (fs:=fs) (gs:=gs) z t,nd=>by
  rw[show putF f v ((a,d)::fs)=(if a=f then(a,v)::fs else(a,d)::putF f v fs) from rfl,putL];rw[avj,awp]at nd;by_cases e:a=f
  .subst e;rw[awy rfl,awy rfl];refine .cons c ?_;have go:∀{fs:LsS V} {gs:LsS gU},bQ K aj g H h fs gs->a∉gs.map (·.1)->bQ K aj g' H' h fs gs:=λ{fs gs} t=>by
    induction t with
    |nil=>exact λ_=>.nil
    |cons z _ i=>
     intro n;rw[avj,avw,not_or]at n;exact .cons (hk _ _ _ (λq=>n.1 q.symm) z) (i n.2)
   exact go t nd.1
  .rw[awz e,awz e];exact .cons (hk _ _ _ e z) (bQ.put hk c t nd.2)
structure Chg(M:Mo)(g g':Gh)(H H':Hp)(h:Nat)(f:Str):Prop where
 gc:Gc g g' H H'
 kd:Kd g' H'
 tbl:g'.tbl=g.tbl
 ow:∀a p,g.ow a=some p->g'.ow a=some p
 oth:∀a p,g.ow a=some p->p≠(h,f)->H' a=H a
 ins:∀(k:Nat) (a:Addr) (i:Inst),g.tbl[k]?=some a->M[k]?=some i->i.cls≠""->k≠h->H' a=H a
 nt:∀(k:Nat) (a:Addr) (i:Inst),g.tbl[k]?=some a->M[k]?=some i->i.cls≠""->∀p,g'.ow a≠some p
 li:∀(k:Nat) (a:Addr) (xs:List Dat),g.tbl[k]?=some a->M[k]?=some (lin xs)->g.ow a=none->H' a=H a/\g'.ow a=none
theorem iU.chg{l:Addr}(r:Gr false g g' H H')(k:Kd g H)(e:H' l=H l):∀{n:Bool} {a:List (Dat×Dat)},iU K aj g H l n a->iU K aj g' H' l n a
 |false,_,⟨p,b,c,d⟩=>⟨p,e.trans b,c,d.gr r k⟩
 |true,_,⟨o,s,q,b,c,d,i,j,m⟩=>⟨o,s,q,e.trans b,c,d,i.gr r k,j,m.gr r k⟩
theorem cP.chg(c:Chg M g g' H H' h f)(k:Kd g H){i:Nat}{e:Str}{m:V}(ne:(i,e)≠(h,f)):∀{a:gU},cP K aj g H i e m a->cP K aj g' H' i e m a
 |.dat _,z=>Rep.gr c.gc.gr k z
 |.lst _ _,⟨l,p,j,b,d,n,o⟩=>⟨l,p,j,(c.oth l _ d ne).trans b,c.ow l _ d,n.gr c.gc.gr k,c.gc.gr.tb o⟩
 |.dic _ _,⟨l,j,b,d⟩=>⟨l,j,c.ow l _ b,d.chg c.gc.gr k (c.oth l _ b ne)⟩
theorem dH.chg(w:dH K aj g H M)(k:Kd g H)(c:Chg M g g' H H' h f){a:Addr}{i:Inst}(ha:g.tbl[h]?=some a)(hi:M[h]?=some i)(hne:i.cls≠"")(hf:f∈aj.fl i.cls){C dx:Addr}{fs:LsS V}(hC:aj i.cls=some C)(R:bQ K aj g H h fs i.fs)
  (e':H' a=some (.ins C dx (putF f v fs))) (new:cP K aj g' H' h f v fl):dH K aj g' H' (M.set h (i.put f fl)) where
 len:=by rw[c.tbl,avC];exact w.len
 inj:=by rw[c.tbl];exact w.inj
 ins:=λh' a' i' ha' hi' hc'=>by
  rw[c.tbl]at ha';by_cases z:h'=h
  .subst z;rw[ha]at ha';cases ha';rw[avt (avf.mp hi).1]at hi';cases hi';exact⟨C,dx,_,hC,e',R.put (λf' v' fl' ne z=>z.chg c k λq=>ne (congrArg Prod.snd q)) new (w.nd _ i hi)⟩
  .rw[avm (Ne.symm z)]at hi';let⟨C',dx',fs',c1,c2,c3⟩:=w.ins h' a' i' ha' hi' hc'
   refine⟨C',dx',fs',c1,(c.ins h' a' i' ha' hi' hc' z).trans c2,?_⟩;have go:∀{fs:LsS V} {gs:LsS gU},bQ K aj g H h' fs gs->bQ K aj g' H' h' fs gs:=λ{fs gs} t=>by
    induction t with
    |nil=>exact .nil
    |cons y _ ih=>exact .cons (y.chg c k λq=>z (congrArg Prod.fst q)) ih
   exact go c3
 nd:=λh' i' hi'=>by
  by_cases z:h'=h
  .subst z;rw[avt (avf.mp hi).1]at hi';cases hi';exact afn (w.nd _ i hi)
  .rw[avm (Ne.symm z)]at hi';exact w.nd h' i' hi'
 fd:=λh' i' hi' hc' f' hf'=>by
  by_cases z:h'=h
  .subst z;rw[avt (avf.mp hi).1]at hi';cases hi';have hf':f'∈(putL f fl i.fs).map (·.1):=hf';rw[Lr]at hf';split at hf'
   .exact w.fd _ i hi hne f' hf'
   .rcases avz.mp hf' with y|y
    .exact w.fd _ i hi hne f' y
    .rw[avp]at y;rw[y];exact hf
  .rw[avm (Ne.symm z)]at hi';exact w.fd h' i' hi' hc' f' hf'
 tw:=λk' a' i' ha' hi' hc'=>by
  rw[c.tbl]at ha';have:∃i0,M[k']?=some i0/\i0.cls≠"":=by
   by_cases z:k'=h
   .subst z;exact⟨i,hi,hne⟩
   .rw[avm (Ne.symm z)]at hi';exact⟨i',hi',hc'⟩
  let⟨i0,m1,m2⟩:=this
  cases hz:g'.ow a' with
  |none=>rfl
  |some p=>exact absurd hz (c.nt k' a' i0 ha' m1 m2 p)
 li:=λh' a' xs ha' hi'=>by
  rw[c.tbl]at ha';by_cases z:h'=h
  .subst z;rw[avt (avf.mp hi).1]at hi';exact absurd (congrArg Inst.cls (avA hi')) hne
  .rw[avm (Ne.symm z)]at hi';let⟨us,h1,h2,h3⟩:=w.li h' a' xs ha' hi'
   let⟨e1,e2⟩:=c.li h' a' xs ha' hi' h2
   exact⟨us,e1.trans h1,e2,h3.gr c.gc.gr k⟩
 nc:=w.nc
def afx{a:Addr}(b:g.tbl[h]?=some a):g.W a:=.inl (avo b)
def Xm(k:Kd g H)(w:dH K aj g H M){a:Addr}{i:Inst}(ha:g.tbl[h]?=some a)(hi:M[h]?=some i)(hc:i.cls≠""){C dx:Addr}{fs':LsS V}:Chg M g g H (upd H a (.ins C dx fs')) h f where
 gc:=⟨λb o hb n=>by rw[upd_ne (λz=>by subst z;exact n (afx ha))];exact hb,λb hb=>by
  by_cases z:b=a
  .subst z;rw[awA]at hb;cases hb
  .rw[upd_ne z]at hb;exact hb,⟨[],by simp⟩,λ_ z=>z,λ_ z=>.inl z,rfl,rfl,rfl⟩
 kd:=k.upd awr
 tbl:=rfl
 ow:=λ_ _ z=>z
 oth:=λb p hb _=>upd_ne λz=>by
  subst z;rw[w.tw h _ i ha hi hc]at hb;cases hb
 ins:=λj b i' hb _ _ ne=>upd_ne λz=>by
  subst z;exact ne (w.inj _ _ _ hb ha)
 nt:=λj b i' hb hj hcj p z=>by
  rw[w.tw j b i' hb hj hcj]at z;cases z
 li:=λj b xs hb hj ho=>⟨upd_ne (λz=>by
  subst z;have:=w.inj _ _ _ hb ha;subst this;rw[hi]at hj;exact hc (congrArg Inst.cls (avA hj))),ho⟩
def Gh.own(g:Gh)(l:Addr)(h:Nat)(f:Str):Gh:={ g with ow:=λb=>if b=l then some (h,f) else g.ow b }
def aqq{l a:Addr}(b:l∈g.tbl):(g.own l h f).W a↔g.W a:=by
 constructor
 .rintro(z|z)
  .exact .inl z
  .by_cases y:a=l
   .subst y;exact .inl b
   .have z:(if a=l then some (h,f) else g.ow a)≠none:=z;rw[awz y]at z;exact .inr z
 .rintro(z|z)
  .exact .inl z
  .refine .inr ?_
   show(if a=l then some (h,f) else g.ow a)≠none
   split
   .exact λq=>nomatch q
   .exact z
def Yi(k:Kd g H)(w:dH K aj g H M){a l:Addr}{n:Nat}{i:Inst}(t:g.tbl[h]?=some a)(u:M[h]?=some i)(hc:i.cls≠"")(q:g.tbl[n]?=some l)(r:M[n]?=some ⟨"",[]⟩)(A:g.ow l=none){C dx:Addr}{fs':LsS V}:Chg M g (g.own l h f) H (upd H a (.ins C dx fs')) h f:=by
 have e:∀{b:Addr},(g.own l h f).W b↔g.W b:=λ{b}=>aqq (avo q);have d:=Xm (f:=f) (C:=C) (dx:=dx) (fs':=fs') k w t u hc;refine⟨⟨d.gc.keep,d.gc.dom,⟨[],by simp[Gh.own]⟩,λb z=>e.mpr z,λb z=>.inl (e.mp z),rfl,rfl,rfl⟩,⟨λb z=>d.kd.ob b ?_,λb z y=>d.kd.lo b z (e.mp y),λb z=>⟨λy=>(d.kd.lc b z).1 (e.mp y),(d.kd.lc b z).2⟩⟩,rfl,λb p z=>?_,d.oth,d.ins,λj b x m c o p z=>?_,λj b B m c s=>⟨(d.li j b B m c s).1,?_⟩⟩
 .rcases z with z|z|z
  .exact .inl (e.mp z)
  .exact .inr (.inl z)
  .exact .inr (.inr z)
 .show(if b=l then some (h,f) else g.ow b)=some p
  rw[awz (λy=>by subst y;rw[A]at z;cases z)];exact z
 .have z:(if b=l then some (h,f) else g.ow b)=some p:=z;by_cases y:b=l
  .subst y;cases w.inj _ _ _ m q;rw[r]at c;cases c;exact o rfl
  .rw[awz y,w.tw j b x m c o]at z;cases z
 .show(if b=l then some (h,f) else g.ow b)=none
  rw[awz λy=>by
   subst y;cases w.inj _ _ _ m q;rw[r]at c;cases congrArg Inst.fs (avA c)]
  exact s
def agF(k:Kd g H)(w:dH K aj g H M){l:Addr}{o':HO}(ho:g.ow l=some (h,f))(mo:KH o'):Chg M g g H (upd H l o') h f where
 gc:=⟨λb u hb n=>by rw[upd_ne (λz=>by subst z;exact n (.inr (by rw[ho];exact λy=>nomatch y)))];exact hb,λb hb=>by
  by_cases z:b=l
  .subst z;rw[awA]at hb;cases hb
  .rw[upd_ne z]at hb;exact hb,⟨[],by simp⟩,λ_ z=>z,λ_ z=>.inl z,rfl,rfl,rfl⟩
 kd:=k.upd mo
 tbl:=rfl
 ow:=λ_ _ z=>z
 oth:=λb p hb ne=>upd_ne λz=>by
  subst z;rw[ho]at hb;exact ne (avA hb).symm
 ins:=λj b i' hb hj hcj ne=>upd_ne λz=>by
  subst z;rw[w.tw j _ i' hb hj hcj]at ho;cases ho
 nt:=λj b i' hb hj hcj p z=>by
  rw[w.tw j b i' hb hj hcj]at z;cases z
 li:=λj b xs hb hj hw=>⟨upd_ne (λz=>by
  subst z;rw[ho]at hw;cases hw),hw⟩
def bQ.len{fs:LsS V}{gs:LsS gU}(t:bQ K aj g H h fs gs):fs.length=gs.length:=by
 induction t with
 |nil=>rfl
 |cons _ _ a=>simp[a]
end
def W9(M:Mo)(f:Str):Dat->Option gU
 |.dict [(.none,.int (.ofNat h))]=>(M[h]?).bind λi=>if (i.cls=="")=true then none else i.fs.lookup f
 |_=>none
@[simp]def gA (f:Str) (o:QF) (M:Mo) (a:Env):Out Dat:=(o M a).bind λd=>match W9 M f d with
 | #[x]=>.ok x
 |_=>.bad
@[simp]def aY (f:Str) (o:QF) (M:Mo) (a:Env):Out Dat:=(o M a).bind λd=>match W9 M f d with
 | #[x]=>.ok x
 |some (.lst _ xs)=>.ok (.list xs)
 |_=>.bad
def agD{M:Mo}{f:Str}{d:Dat}{b:gU}(h:W9 M f d=some b):∃n i,d=obj n/\M[n]?=some i/\i.cls≠""/\i.fs.lookup f=some b:=by
 unfold W9 at h;left
 .next n=>
  obtain⟨i,c,a⟩;split at a
  .cases a
  .next hc=>exact⟨n,i,rfl,c,λz=>hc (by rw[z];rfl),a⟩
 .cases h
theorem lookup_mem{f:Str}{c:gU}:∀{a:LsS gU},a.lookup f=some c->f∈a.map (·.1)
 |[],h=>nomatch h
 |(g,y)::r,h=>by
  rw[avM]at h;cases b:f==g with
  |true=>rw[awB b];simp
  |false=>
   rw[b]at h;exact avk _ (lookup_mem h)
section
variable{K:ave}{aj:aJ}{g:Gh}{H:Hp}{M:Mo}
def acG(q:jP K aj)(w:dH K aj g H M){f:Str}{d:Dat}{e:gU}{v:V}(h:W9 M f d=some e)(r:dJ K g H v d):∃n i a C c b u,d=obj n/\M[n]?=some i/\i.fs.lookup f=some e/\g.tbl[n]?=some a/\v=.ref a/\aj i.cls=some C/\H a=some (.ins C c b)/\bQ K aj g H n b i.fs/\Cls K C/\NoAttr K C f/\b.lookup f=some u/\cP K aj g H n f u e:=by
 let⟨n,i,rfl,j,hc,k⟩:=agD h
 let⟨a,rfl,o⟩:=Kh r
 let⟨C,c,b,l,p,m⟩:=w.ins n a i o j hc
 let⟨u,x,y⟩:=m.get k
 let⟨s,t⟩:=q i.cls C f l (w.fd n i j hc f (lookup_mem k))
 exact⟨n,i,a,C,c,b,u,rfl,j,k,o,rfl,l,p,m,s,t,x,y⟩
end
section
variable{X:Cx}{aj:aJ}{W:WX}{o e:Expr}{es:List Expr}{fo:QF}{f m:Str}{pos apos:Pos}
def anY(l:jP X.K aj)(s:QW aj X W o fo)(r:baseOk o=true):QE aj X W (.Attribute o f pos) (gA f fo):=
 PE.weak (pe_fld s (jy r)) λσ H Q ⟨g,B,M,I,h⟩=>by
  refine tW.go I h.bnd λd v j b c r1=>?_;split at b
  .next x t=>
   let⟨n,i,a,C,p,q,u,_,_,_,_,rfl,_,k,_,w,y,z,A⟩:=acG l (I.ex c).wok t r1
   exact⟨a,C,p,q,u,rfl,k,w,y,z,b u j c A⟩
  .exact awt b
def amk(y:jP X.K aj)(A:QW aj X W o fo)(z:baseOk o=true):QW aj X W (.Attribute o f pos) (aY f fo):=
 PE.weak (pe_fld A (jy z)) λσ H Q ⟨g,L,M,I,h⟩=>by
  refine tW.go I h.bnd λd v w c b r1=>?_;split at c
  .next x q=>
   let⟨n,i,a,C,k,p,u,_,_,_,_,rfl,_,j,_,r,s,t,B⟩:=acG y (I.ex b).wok q r1
   exact⟨a,C,k,p,u,rfl,j,r,s,t,c u w b (Rep.weak B)⟩
  .next J q=>
   let⟨n,i,a,C,k,p,u,_,_,_,_,rfl,_,j,_,r,s,t,l,F,rfl,D,G,E,_⟩:=acG y (I.ex b).wok q r1
   exact⟨a,C,k,p,_,rfl,j,r,s,t,c _ w b ⟨l,F,rfl,sq_of D,E⟩⟩
  .exact awt c
def Vs(X:Cx)(W:WX)(m:Str)(n:TE)(t:TA):TE:=λb H Q=>n b H λx c=>∃(a C l:Addr) (g:LsS V) (f:Addr) (d:FuncData) (h:List Str) (i:Sp) (k:Nat),x=.ref a/\c a=some (.ins C l g)/\g.lookup m=none/\Cls X.K C/\Meth X.K C m f/\Room k X.A/\Binds X.K d h []/\
 FnOk X.prog X.w X.K X.mg X.base (L2.CX X.prog X.w) k f d h i/\t b c λvs j=>i (x::vs) j Q (WE W b)
def Zz{M:Model}{A:Around}{E:Value->Shared->Prop}{s:Shared}{b:PySem.Env}{a:List Expr}{Q:Value->Shared->Prop}(g:baseOk o=true)(q:a.all nst=true)(r:a.length<30)(p:(apos.endLine==pos.line)=true)
  (h:wpAny M A (eval o b) (λn c=>∀t:Sem Bool,wpAny M A (getMethod n m t) (λfx d=>wpAny M A (callWith pos fx.1 fx.2 (backTo pos (starEach a b)) (backToKw pos (keywordEach [] b))) Q E d) E c) E s) :
  wpAny M A (eval (.Call (.Attribute o m apos) a [] pos) b) Q E s:=by
 have i:methodCallForm (a.length+([]:List Keyword).length) (backTo pos (starEach a b)) (backToKw pos (keywordEach [] b))=true:=few q r;have j:methodCallPos true o b apos pos=pure pos:=by unfold methodCallPos;simp[p]
 rw[arm_eval_Call,jy g];refine aww (wpAny_mono h (λn c k=>?_) λ_ _ e=>e);refine aww (wpAny_standAt ?_);unfold methodCall;rw[i];refine aww (wpAny_holding ?_);refine wpAny_mono (k _) (λfx d l=>?_) λ_ _ e=>e;exact aww (wpAny_of_eq j l)
def ach{p:TE}{t:TA}(S:Takes X W)(L:PE X o p)(B:PA X (e::es) t)(D:baseOk o=true)(j:(e::es).all nst=true)(E:(apos.endLine==pos.line)=true)(N:(e::es).length<30):PE X (.Call (.Attribute o m apos) (e::es) [] pos) (Vs X W m p t):=by have b:=j;rw[avI,avh]at b;refine⟨λpins s d H Q I h=>?_⟩;refine Zz D j N E (thn (L.run pins s d H _ I h) λu R ⟨x,G,J,P,a,C,U,Z,f,Y,ps,sp,k,z,y,l,c,i,M,A,F,q⟩ pl=>?_);subst z;cases P;refine getmeth_ok J y c i l ?_;refine PySem.W.callWith_K (first:=[.ref a]) (h₀:=X.base) I.ok.mod.kin i.kp (thn (B.run pos pins R d G _ J q) λv s2 ⟨w,T,g,r,O⟩=>⟨g.kIn,?_⟩) (bH b.1 es) (star_any es b.2);exact run_fnS (us:=.ref a::v) (vs:=.ref a::w) F M A (passAt S d) g (.cons rfl r) O
def Y7{d:TE}(z:Takes X W)(t:PE X o d)(p:baseOk o=true)(r:(apos.endLine==pos.line)=true):PE X (.Call (.Attribute o m apos) [] [] pos) (Vs X W m d tNil):=by refine⟨λpins s g H Q I h=>?_⟩;refine Zz p rfl #[()] r (thn (t.run pins s g H _ I h) λu M ⟨x,G,J,y,a,C,A,D,f,B,L,N,k,j,i,l,c,b,v,n,F,q⟩ E=>?_);subst j;cases y;refine getmeth_ok J i c b l ?_;exact PySem.W.callWith_K0 (first:=[.ref a]) J.kIn b.kp (run_fnS (us:=[.ref a]) (vs:=[.ref a]) F v n (passAt z g) J (.cons rfl .nil) q)
def Qq(a:List (Str×MV))(M:Mo):Dat->Option MV
 |.dict [(.none,.int (.ofNat h))]=>(M[h]?).bind λi=>a.lookup i.cls
 |_=>none
@[simp]def aD (b:List (Str×MV)) (o:QF) (as:QA) (M:Mo) (a:Env):Out Dat:=(o M a).bind λd=>match Qq b M d with
 |some (.q _ m)=>(as M a).bind λds=>m M (d::ds)
 |_=>.bad
@[simp]def cD (b:List (Str×MV)) (o:QF) (as:QA) (M:Mo) (a:Env):aR Dat:=((o M a).at M).bind λd _=>match Qq b M d with
 |some (.q _ m)=>((as M a).at M).bind λds _=>(m M (d::ds)).at M
 |some (.g _ m)=>((as M a).at M).bind λds _=>m M (d::ds)
 |none=>.bad
def LR(X:Cx)(aj:aJ)(k:Nat)(m:Str)(n:Nat)(a:List (Str×MV)):Prop:=∀c v,a.lookup c=some v->Gg X.prog X.w X.K X.mg X.base aj k c m v/\match v with
  |.q j _=>j=n
  |.g j _=>j=n
def LR.cls{k n:Nat}{tb:List (Str×MV)}(T:LR X aj k m n tb):∀c v,tb.lookup c=some v->aj c≠none:=λc v h z=>by
 let⟨⟨C,f,a,_⟩,_⟩:=T c v h
 rw[z]at a;cases a
def XS{K:ave}{g:Gh}{H:Hp}{M:Mo}{k:List (Str×MV)}{d:Dat}{v:V}{s:MV}(y:∀c v,k.lookup c=some v->aj c≠none)(w:dH K aj g H M)(h:Qq k M d=some s)(r:dJ K g H v d):∃n i a C j b,d=obj n/\M[n]?=some i/\k.lookup i.cls=some s/\g.tbl[n]?=some a/\v=.ref a/\aj i.cls=some C/\H a=some (.ins C j b)/\bQ K aj g H n b i.fs:=by
 unfold Qq at h;left
 .next n=>
  obtain⟨i,l,p⟩;let⟨a,rfl,q⟩:=Kh r
  let⟨C,j,b,t,u,x⟩:=w.ins n a i q l λz=>y _ _ p (by rw[z];exact w.nc)
  exact⟨n,i,a,C,j,b,rfl,l,p,q,rfl,t,u,x⟩
 .cases h
def acn{K:ave}{g:Gh}{H:Hp}{M:Mo}{n:Nat}{i:Inst}{a:LsS V}(w:dH K aj g H M)(b:M[n]?=some i)(hc:i.cls≠"")(R:bQ K aj g H n a i.fs)(h:m∉aj.fl i.cls):a.lookup m=none:=by
 refine R.no ?_;cases c:i.fs.lookup m with
 |none=>rfl
 |some x=>exact absurd (w.fd n i b hc m (lookup_mem c)) h
def ag4{P:List (Str×MV)}{as:QA}{n k:Nat}{t:TA}(hr:Room k X.A)(T:LR X aj k m n P)(hn:∀M s r,as M s=.ok r->r.length+1=n)(ht:∀q H Q,Rx X.K aj W as q H Q->t q H Q)(q:L2.St)(H:Hp)(Q:VK)(h:tQ X.K aj W (aD P fo as) q H Q):Vs X W m (tW X.K aj W fo) t q H Q:=by
 let⟨g,s,M,I,h⟩:=h
 refine tW.go I h.bnd λd v R G u r1=>?_;have l:=I.ex u;split at G
 .next j mm J=>
  let⟨hd,i,a,C,Z,fs,rfl,hi,hl,ha,rfl,B,S,U⟩:=XS T.cls l.wok J r1
  let⟨⟨C',f,N,Y,me,nf,fd,ps,j',hj,hp,hB,F⟩,E⟩:=T _ _ hl
  have E:j=n:=E;rw[B]at N;cases N;refine⟨a,C,Z,fs,f,fd,ps,_,j',rfl,S,acn l.wok hi (λz=>by rw[z,l.wok.nc]at B;cases B) U nf,Y,me,hr.mono hj,hB,F,ht q R _ ⟨g,s,M,l,?_⟩⟩;have p:=G.bnd;cases b:as M s with
  |exc x=>rw[b]at p;exact pZ.ex u p
  |bad=>rw[b]at p;exact awt p
  |ok r=>
   rw[b]at p;intro vs H2 w O;refine⟨by rw[hp,E,<-hn M s r b,avu,O.length],g,M,obj hd::r,(l.ex w).kd,(l.ex w).wok,.cons (.obj ha) O,?_⟩;exact Out.sat.mono p (λd k v y D L=>k v y ((u.trans w).trans D) L) λx k y c dd D L=>k y c dd ((u.trans w).trans D) L
 .exact awt G
def alQ{c:List (Str×MV)}{as:QA}{k:Nat}(r:Takes X W)(n:Room k X.A)(T:LR X aj k m ((e::es).length+1) c)(l:QW aj X W o fo)(d:Jo aj X W (e::es) as)(j:∀M b a,as M b=.ok a->a.length=(e::es).length)(g:baseOk o=true)(p:(e::es).all nst=true)(i:(apos.endLine==pos.line)=true)(q:(e::es).length<30) :
  QE aj X W (.Call (.Attribute o m apos) (e::es) [] pos) (aD c fo as):=
 PE.weak (ach r l d g p i q) λσ H Q h=>ag4 n T (λM b a z=>by rw[j M b a z]) (λ_ _ _ z=>z) σ H Q h
def ai9{a:List (Str×MV)}{k:Nat}(j:Takes X W)(i:Room k X.A)(T:LR X aj k m 1 a)(d:QW aj X W o fo)(b:baseOk o=true)(c:(apos.endLine==pos.line)=true) :
  QE aj X W (.Call (.Attribute o m apos) [] [] pos) (aD a fo bZ):=
 PE.weak (Y7 j d b c) λσ H Q h=>ag4 i T (λM l n z=>by cases z;rfl) (λσ H Q ⟨g,l,M,I,z⟩=>z [] H (Ex.refl H) .nil) σ H Q h
def ag5{tb:List (Str×MV)}{as:QA}{n k:Nat}{t:TA}(hr:Room k X.A)(T:LR X aj k m n tb)(hn:∀M s B,as M s=.ok B->B.length+1=n)(ht:∀D H Q,Rx X.K aj W as D H Q->t D H Q)(D:L2.St)(H:Hp)(Q:VK)(h:tE X.K aj W false (cD tb fo as) D H Q):Vs X W m (tW X.K aj W fo) t D H Q:=by
 let⟨g,s,M,I,h⟩:=h
 have p:∀{x:cZ},gE X.K aj W false g H D s x M->pZ X.K aj W g H D x:=λ{x} z u c dd e r=>z u g c dd (Gr.ex e) (I.ex e) r;have h:=h.bnd;refine⟨g,s,M,I,?_⟩;cases ho:fo M s with
 |exc x=>rw[ho]at h;exact p h
 |bad=>rw[ho]at h;exact awt h
 |ok d=>
  rw[ho]at h;intro v H1 S r1;have y:=I.ex S;have h:(match Qq tb M d with
   |some (.q _ m)=>((as M s).at M).bind λB _=>(m M (d::B)).at M
   |some (.g _ m)=>((as M s).at M).bind λB _=>m M (d::B)
   |none=>.bad).sat (λd Y=>∀v u N,Gr false g N H u->SInv X.K aj D u N s Y->Rep X.K N u v d->Q v u) (gE X.K aj W false g H D s):=h
  left
  .next j mm O=>
   let⟨hd,i,a,C,dx,fs,rfl,hi,hl,ha,rfl,E,Z,c3⟩:=XS T.cls y.wok O r1
   let⟨⟨C',f,G,cl,me,nf,fd,ps,j',hj,hp,hB,F⟩,L⟩:=T _ _ hl
   have L:j=n:=L;rw[E]at G;cases G;refine⟨a,C,dx,fs,f,fd,ps,_,j',rfl,Z,acn y.wok hi (λz=>by rw[z,y.wok.nc]at E;cases E) c3 nf,cl,me,hr.mono hj,hB,F,ht D H1 _ ⟨g,s,M,y,?_⟩⟩;have w:=h.bnd;cases l:as M s with
   |exc x=>rw[l]at w;exact pZ.ex S (p w)
   |bad=>rw[l]at w;exact awt w
   |ok B=>
    rw[l]at w;intro vs H2 J U;have b:=S.trans J;refine⟨by rw[hp,L,<-hn M s B l,avu,U.length],g,M,obj hd::B,(y.ex J).kd,(y.ex J).wok,.cons (.obj ha) U,?_⟩;exact Out.sat.mono (Out.dY w) (λd k v u R P=>k v u g (Gr.ex (b.trans R)) (I.ex (b.trans R)) P) λx k u c dd R P=>k u g c dd (Gr.ex (b.trans R)) (I.ex (b.trans R)) P
  .next j mm O=>
   let⟨hd,i,a,C,dx,fs,rfl,hi,hl,ha,rfl,E,Z,c3⟩:=XS T.cls y.wok O r1
   let⟨⟨C',f,G,cl,me,nf,fd,ps,j',hj,hp,hB,F⟩,L⟩:=T _ _ hl
   have L:j=n:=L;rw[E]at G;cases G;refine⟨a,C,dx,fs,f,fd,ps,_,j',rfl,Z,acn y.wok hi (λz=>by rw[z,y.wok.nc]at E;cases E) c3 nf,cl,me,hr.mono hj,hB,F,ht D H1 _ ⟨g,s,M,y,?_⟩⟩;have w:=h.bnd;cases l:as M s with
   |exc x=>rw[l]at w;exact pZ.ex S (p w)
   |bad=>rw[l]at w;exact awt w
   |ok B=>
    rw[l]at w;intro vs H2 J U;have b:=S.trans J;refine⟨by rw[hp,L,<-hn M s B l,avu,U.length],g,M,obj hd::B,(y.ex J).kd,(y.ex J).wok,.cons (.obj ha) U,?_⟩;exact aR.sat.mono w (λd Y k v u N c kd wk P=>k v u N ((Gr.ex b).trans c.gr) ((I.ex b).call c kd wk) P) λx Y k u N G dd c kd wk P=>k u N G dd ((Gr.ex b).trans c.gr) ((I.ex b).call c kd wk) P
  .exact awt h
def aln{c:List (Str×MV)}{as:QA}{k:Nat}(r:Takes X W)(n:Room k X.A)(T:LR X aj k m ((e::es).length+1) c)(l:QW aj X W o fo)(d:Jo aj X W (e::es) as)(j:∀M b a,as M b=.ok a->a.length=(e::es).length)(g:baseOk o=true)(p:(e::es).all nst=true)(i:(apos.endLine==pos.line)=true)(q:(e::es).length<30) :
  GE aj X W false (.Call (.Attribute o m apos) (e::es) [] pos) (cD c fo as):=
 PE.weak (ach r l d g p i q) λσ H Q h=>ag5 n T (λM b a z=>by rw[j M b a z]) (λ_ _ _ z=>z) σ H Q h
def aiH{a:List (Str×MV)}{k:Nat}(j:Takes X W)(i:Room k X.A)(T:LR X aj k m 1 a)(d:QW aj X W o fo)(b:baseOk o=true)(c:(apos.endLine==pos.line)=true) :
  GE aj X W false (.Call (.Attribute o m apos) [] [] pos) (cD a fo bZ):=
 PE.weak (Y7 j d b c) λσ H Q h=>ag5 i T (λM l n z=>by cases z;rfl) (λσ H Q ⟨g,l,M,I,z⟩=>z [] H (Ex.refl H) .nil) σ H Q h
end
@[simp]def eY (x:Str) (M:Mo) (a:Env):dB:=.exc ⟨x,[]⟩ a M
@[simp]def Jq (x:Str) (c:List Str) (as:QA) (M:Mo) (a:Env):dB:=((as M a).at M).then a λds b=>.exc ⟨x,(c.zip ds).reverse⟩ a b
section
variable{X:Cx}{aj:aJ}{W:WX}{q:Bool}{x:Str}{pos p p1:Pos}{k:Nat}
def ail(hc:X.calm=true)(j:Takes X W)(i:Gl X x)(h:(x==("__debug__" : Str))=false)(g:mJ X.prog X.w X.K X.mg X.base aj k x .exc):SE aj X W q (.Raise (some (.Call (.Name x p) [] [] p1)) none pos) (eY x):=by
 let⟨C,a,b,c,d,e,f⟩:=g
 exact PS.weak (ps_raise hc j (Ear.aiF PySem.F.excBase_ValueError c a d (raises_own e f) i h)) λD l H ⟨g,m,M,I,z⟩=>z l H g (.ref C) none Gr.refl I ⟨C,b,rfl,.inl ⟨rfl,rfl⟩⟩
theorem jN.gr{K:ave}{g g':Gh}{H a:Hp}{q:Bool}(r:Gr q g g' H a)(k:Kd g H){fs:LsS V}{b:LsS Dat}(h:jN K g H fs b):jN K g' a fs b:=by
 induction h with
 |nil=>exact .nil
 |cons z _ c=>exact .cons (z.gr r k) c
def jN.snoc{K:ave}{g:Gh}{H:Hp}{f:Str}{v:V}{d:Dat}(z:Rep K g H v d){fs:LsS V}{a:LsS Dat}(h:jN K g H fs a):jN K g H (fs++[(f,v)]) (a++[(f,d)]):=by
 induction h with
 |nil=>exact .cons z .nil
 |cons y _ b=>exact .cons y b
theorem agv{K:ave}{g:Gh}{H:Hp}:∀{fs:List Str} {b:List V} {a:List Dat},aC K g H b a->jN K g H (fs.zip b).reverse (fs.zip a).reverse
 |[],_,_,_=>.nil
 |_::_,_,_,.nil=>.nil
 |f::fs,_,_,.cons z t=>by
  rw[awa,awa,List.reverse_cons,List.reverse_cons];exact(agv t).snoc z
def agJ{e:Expr}{m:List Expr}{d:List Str}{as:QA}(hc:X.calm=true)(tk:Takes X W)(hr:Room k X.A)(hg:Gl X x)(hd:(x==("__debug__" : Str))=false)(g:mJ X.prog X.w X.K X.mg X.base aj k x (.exi d))(ha:Jo aj X W (e::m) as)
  (hs:(e::m).all nst=true) (hn:∀M s u,as M s=.ok u->u.length=d.length) (hz:d.length<=1000):SE aj X W q (.Raise (some (.Call (.Name x p) (e::m) [] p1)) none pos) (Jq x d as):=by
 let⟨C,fI,fd,ps,S,U,Y,Z,g5,hk,hp,hB,F⟩:=g
 have l:=hs;rw[avI,avh]at l;refine PS.weak (ps_raise hc tk (pmk_oex Y Z g5 F (hr.mono hk) hB .nil pass0 hg S ha hd (bH l.1 m) (star_any m l.2))) λD R H ⟨g,s,M,I,z⟩=>?_;refine⟨g,s,M,I,?_⟩;unfold Jq at z;cases f:as M s with
 |exc y=>rw[f]at z;exact λt c dd e r=>z R t g c dd (Gr.ex e) (I.ex e) r.fr
 |bad=>rw[f]at z;exact awt z
 |ok u=>
  rw[f]at z;intro v N Q r1;have hl:v.length=d.length:=by rw[r1.length,hn M s u f]
  refine⟨#[],λa na=>⟨a,v++[],rfl,by simpa using hl,awA,λi t n kp dm E G=>?_⟩⟩;have ne:i≠a:=λz=>by
   subst z;rw[awA]at n;cases n
  rw[upd_ne ne]at n;refine⟨rfl,i,_,E,G,n,?_⟩;have J:∀b o,N b=some o->(upd (del t a) i (.xd (d.zip (v++[])).reverse)) b=some o:=λb o j=>by
   have nb:b≠a:=λz=>by subst z;rw[na]at j;cases j
   have L:b≠i:=λz=>by subst z;rw[n]at j;cases j
   rw[upd_ne L,del_ne nb];exact kp b o nb (by rw[upd_ne nb];exact j)
  have B:Ex N (upd (del t a) i (.xd (d.zip (v++[])).reverse)):=λb o j=>J b o j;have O:=I.ex Q;refine z R _ g (.ref C) (some i) (Gr.ex (Q.trans B)) (O.ex B) ⟨C,U,rfl,.inr ⟨i,_,rfl,awA,?_⟩⟩;rw[avV];have:=(agv (fs:=d) r1).gr (Gr.ex (q:=true) B) O.kd;rw[avV]at this;exact jN.less (g:=g) (g':=g.fr) rfl (yF g) this
end
section
variable{P:Program}{w:World}{K:ave}{mg:Str->Option Value}{base:Heap}{C f:Addr}{fd:FuncData}{qual:Str}{st:Stmt}
def vis_par{N a:List Str}{b:Scope}(S:FnScope N a b){y:Str}(h:y∈a):Vis b y:=(S.par y h).elim (λz=>.inl z) λz=>.inr (.inl z)
def agt{s c d g n t u:Str}{p1 p2 p3 p4 p5 p6 p7 p8 p9 J L M:Pos}(F:L2.Fun K "__init__" qual st f fd)(S:FnScope [s,c,d,g] [s,c,d,g] (defScope st))(T:OexC K C)
  (v:defBody st=[.Assign [.Attribute (.Name s p1) n p2] (.Name c p3) p4,.Assign [.Attribute (.Name s p5) t p6] (.Name d p7) p8,.Assign [.Attribute (.Name s p9) u J] (.Name g L) M])
  (m:∀y∈[s,c,d,g],(y==("__debug__" : Str))=false/\(y==("__classdict__" : Str))=false) (n1:PySem.W.findIn K (.ref C) n=some none) (n2:PySem.W.findIn K (.ref C) t=some none) (n3:PySem.W.findIn K (.ref C) u=some none) :
  FnOk P w K mg base CX0 1 f fd [s,c,d,g] (ajh C [n,t,u]):=by
 refine F.ok S (λvs H Q E h=>?_) (λcdv A I s0 H vs Q E hr h=>?_)
 .let⟨a,R,rfl,B,_⟩:=h
  simp[B]
 .let⟨a,R,rfl,B,Z,q⟩:=h
  match R,B with
  |[x,y,z],_=>
  rw[v];have N:=vis_par S (y:=s) (by simp);have v1:=vis_par S (y:=c) (by simp);have v2:=vis_par S (y:=d) (by simp);have v3:=vis_par S (y:=g) (by simp);let⟨r,D⟩:=m s (by simp)
  let⟨U,k1⟩:=m c (by simp)
  let⟨X,k2⟩:=m d (by simp)
  let⟨Y,k3⟩:=m g (by simp)
  refine⟨_,pss_cons (ps_ost (pe_var (i:=0) rfl N r D) (pe_var (i:=1) rfl v1 U k1)) (pss_cons (ps_ost (pe_var (i:=0) rfl N r D) (pe_var (i:=2) rfl v2 X k2)) (pss_one (ps_ost (pe_var (i:=0) rfl N r D) (pe_var (i:=3) rfl v3 Y k3)))),?_⟩;refine⟨_,rfl,_,rfl,a,C,rfl,T,n1,.inl ⟨Z,λl G p=>?_⟩⟩;refine⟨_,rfl,_,rfl,a,C,rfl,T,n2,.inr ⟨l,[(n,x)],awA,(by rw[upd_ne p];exact awA),(show 1<=900 by decide),?_⟩⟩;refine⟨_,rfl,_,rfl,a,C,rfl,T,n3,.inr ⟨l,_,(by rw[upd_ne p.symm];exact awA),awA,(show 2<=900 by decide),?_⟩⟩;refine q l _ G (λb o v j=>?_) (λb j=>?_) (by rw[upd_ne p.symm,upd_ne p.symm];exact awA) awA
  .have k:b≠l:=ne_of_none j G;rw[upd_ne k,upd_ne k,upd_ne v,upd_ne k];exact j
  .by_cases e:b=l
   .rw[e];exact G
   .by_cases O:b=a
    .subst O;rw[upd_ne e,upd_ne e,awA]at j;cases j
    .rw[upd_ne e,upd_ne e,upd_ne O,upd_ne e]at j;exact j
end
structure Cl where
 c:Value
 nm:Option Nat
 ts:Addr->Value->Option Addr->TS
def arl(D:Ends)(i:Nat):Ends:={ nx:=λτ G=>D.nx (τ.set i none) G,rt:=D.rt,bk:=λτ G=>D.bk (τ.set i none) G,ct:=λτ G=>D.ct (τ.set i none) G }
def abw(K:ave)(f:WX)(D:Ends):List Cl->WX
 |[]=>f
 |l::r=>λcls d e G=>∃b,PySem.W.exmOne K cls l.c=some b/\(b=true->∀a,G a=none->(match l.nm with
   |none=>l.ts a cls d D e G
   |some i=>l.ts a cls d (arl D i) (e.set i (some (.ref a))) G))/\(b=false->abw K f D r cls d e G)
inductive El(X:Cx):List ExceptHandler->List Cl->Prop
 |nil:El X [] []
 |one {x:Str} {l:Cl} {s0:Stmt} {su:List Stmt} {np cp:Pos} {hds:List ExceptHandler} {ls:List Cl} (hc:Names X x l.c) (hn:l.nm=none)
   (hsu:∀(a:Addr) (oe:Obj) (cls:Value) (d:Option Addr) (pn:List (Addr×Obj)),Zc cls d oe->(∃vs,oe.data=.fields vs)->PSs (X.suite a ((a,oe)::pn)) (s0::su) (l.ts a cls d)) (r:El X hds ls) :
   El X (.ExceptHandler (some (.Name x np)) none (s0::su) cp::hds) (l::ls)
 |as {x n:Str} {i:Nat} {l:Cl} {s0:Stmt} {su:List Stmt} {np cp:Pos} {hds:List ExceptHandler} {ls:List Cl} (hc:Names X x l.c) (hn:l.nm=some i) (hi:X.N[i]?=some n) (hl:X.env.kindOf n=some .local)
   (hsu:∀(a:Addr) (oe:Obj) (cls:Value) (d:Option Addr) (pn:List (Addr×Obj)),Zc cls d oe->(∃vs,oe.data=.fields vs)->PSs (X.suite a ((a,oe)::pn)) (s0::su) (l.ts a cls d)) (r:El X hds ls) :
   El X (.ExceptHandler (some (.Name x np)) (some n) (s0::su) cp::hds) (l::ls)
section
variable{X:Cx}{body:List Stmt}{h0:ExceptHandler}{hds:List ExceptHandler}{ls:List Cl}{pos:Pos}{tb:WX->TS}{Wo:WX}
def aj7(hs:X.stack=X.env::X.outer)(hf:X.env.frame=some X.env.locals)(hN:X.N.Nodup)(tk:Takes X Wo)
  (hb:∀(W:WX) (pn:List (Addr×Obj)) (xe:Value->Shared->Prop),Takes (X.tr pn xe) W->PassesOwn (model X.prog X.w) X.A X.env xe->PSs (X.tr pn xe) body (tb W))
  (hh:El X (h0::hds) ls):PS X (.Try body (h0::hds) [] [] pos) (λD σ H=>tb (abw X.K Wo D ls) D σ H):=by
 constructor;intro g s σ H D I h;have ok:=I.ok;have frm:X.A.frames=some (X.env::X.outer):=by rw[ok.frames,hs]
 have run:=(hb (abw X.K Wo D ls) (X.pn++g) (λe t₁=>wpAny (model X.prog X.w) X.A (noteFrame e X.env) (λ_ t₂=>wpAny (model X.prog X.w) X.A (setFlight e none) (λ_ t₃=>wpAny (model X.prog X.w) X.A (handleBy e X.env (h0::hds)) (SP X g D) X.xe t₃) X.xe t₂) X.xe t₁) (λu t xx=>by
  let⟨a,B,sI,pins2,F,G,cls,d,rfl,Z,nb,up,sky,na,os,ag,w⟩:=xx
  have J:Inv X g F G sI:=Z.ofTry ok;have sky2:Sky B (X.env::X.outer) a (Zc cls d) X.env.locals t.heap:=by rw[<-hs];exact sky
  show wpAny (model X.prog X.w) X.A (noteFrame (.ref a) X.env) _ _ _;refine Sky.land Zc.steady frm hf sky2 ?_;intro h3 y up3;have J3:Inv X g F G { t with heap:=h3 }:=J.landed nb y.1 (up.trans up3) os ag;let⟨oe3,vs3,he3,hz3,hd3⟩:=y.there
  have notF:a∉frs (X.env::X.outer):=λhm=>by
   let⟨_,o,eo,hnf⟩:=Heap.FunFrames.mem y.2.2.1 hm
   rw[he3]at eo;cases eo;exact hnf _ hd3
  have nL:a≠X.env.locals:=λz=>notF (List.mem_filterMap.mpr ⟨X.env,avl,(by rw[hf,z])⟩);have nF:a∉X.fs:=λhm=>by
   let⟨e,he,q⟩:=List.mem_filterMap.mp hm
   exact notF (List.mem_filterMap.mpr ⟨e,avk _ he,q⟩)
  have S3:=J3.suite he3 hd3 na nL nF;have look:PySem.W.Looks (model X.prog X.w) h3 (typeOf (.ref a)) cls:=λA Q E s k q=>wpAny_typeOf_ref (k _ _ he3) (by rw[hz3.1];exact q);have R:∀{x:Str} {c:Value} {np:Pos} {Q:Value->Shared->Prop} {E:Value->Shared->Prop},Names X x c->Q c { t with heap:=h3 }->wpAny (model X.prog X.w) (X.A.mark (some (.ref a))) (eval (.Name x np) X.env) Q E { t with heap:=h3 }:=by
   intro x c np Q E hc q;let⟨hg,hdb,hm⟩:=hc
   rcases hm with hm|⟨hm,hv,hnn⟩
   .exact ld_glob (X:=X.suite a ((a,oe3)::(X.pn++g))) S3 hg hm q hdb
   .exact ld_blt (X:=X.suite a ((a,oe3)::(X.pn++g))) S3 hg hm hv q hnn hdb
  have all:∀{P:List ExceptHandler} {ls2:List Cl},El X P ls2->abw X.K Wo D ls2 cls d F G->wpAny (model X.prog X.w) X.A (handleBy (.ref a) X.env P) (SP X g D) X.xe { t with heap:=h3 }:=by
   intro P ls2 hk
   induction hk with
   |nil=>
    intro w;refine wpAny_handleBy_nil ?_;let⟨k1,k2,k3,oe,vs,T,oT,ts2,he,hz,hd,h1,hr⟩:=id y
    unfold PySem.passOn;refine aww (wpAny_field he hd h1 ?_);have nT:¬((Value.ref T==Value.none)=true):=by simp
    rw[awz nT];have fin:wpAny (model X.prog X.w) X.A (setFlight (.ref a) X.env.frame) (λ_ s4=>wpAny (model X.prog X.w) X.A (throw (.ref a):Sem Flow) (SP X g D) X.xe s4) X.xe { t with heap:=h3 }:=by rw[hf];refine HandSPX.setFlight_upZ y ?_;intro h4 hh4 U;refine wpAny_throw (tk _ _ ?_);exact⟨a,B,sI,g,F,G,cls,d,rfl,J,nb,(up.trans up3).trans U,.inr (.inr (by rw[hs];exact hh4)),na,os,ag,w⟩
    first
     |exact aww (awx (aww fin))
     |exact aww fin
   | @one x l s0 su np cp hds3 ls3 hc hn hsu r ih=>
    intro w;let⟨b,hb1,yes,no⟩:=w
    rw[hn]at yes;have LM:=PySem.W.exm_one (M:=model X.prog X.w) J3.kIn look hb1;refine wpAny_handleBy_cons (codeAny_handlers_test ?_) (by intro q;cases q);refine R hc (LM.here ?_);cases b with
    |false=>exact ih (no rfl)
    |true=>
     refine codeAny_handlers_suite ?_;refine HandSPX.lands_againZ y ?_;intro h4 L U;have J4:Inv X g F G { t with heap:=h4 }:=J.landed nb L.1 ((up.trans up3).trans U) os ag;let⟨S,vs4,he4,hz4,O⟩:=L.there
     have S4:=J4.suite he4 O na nL nF;refine wpAny_mono ((hsu a S cls d (X.pn++g) hz4 ⟨_,O⟩).run [] _ _ G _ S4 (yes rfl a na)) ?_ (λ_ _ z=>awt z);intro f s6 m;cases f with
     |ret u=>
      let⟨v6,j,Y,p,r6,C⟩:=m
      exact⟨_,_,_,p.unsuite ok,r6,C⟩
     |next=>
      let⟨j,Y,p,C⟩:=m
      exact⟨_,_,p.unsuite ok,C⟩
     |brk=>
      let⟨j,Y,p,C⟩:=m
      exact⟨_,_,p.unsuite ok,C⟩
     |cont=>
      let⟨j,Y,p,C⟩:=m
      exact⟨_,_,p.unsuite ok,C⟩
   | @as x n i l s0 su np cp hds3 ls3 hc hn hi hl hsu r ih=>
    intro w;let⟨b,hb1,yes,no⟩:=w
    rw[hn]at yes;have LM:=PySem.W.exm_one (M:=model X.prog X.w) J3.kIn look hb1;refine wpAny_handleBy_cons (codeAny_handlers_test ?_) (by intro q;cases q);refine R hc (LM.here ?_);cases b with
    |false=>exact ih (no rfl)
    |true=>
     refine codeAny_handlers_suite_as ?_;refine HandSPX.lands_againZ y ?_;intro h4 L U;have J4:Inv X g F G { t with heap:=h4 }:=J.landed nb L.1 ((up.trans up3).trans U) os ag;let⟨S,vs4,he4,hz4,O⟩:=L.there
     have S4:=J4.suite he4 O na nL nF;refine store_ok (X:=X.suite a ((a,S)::(X.pn++g))) (v:=.ref a) S4 hN hi (.inl hl) rfl ?_ (.inr hl);intro s5 S5;refine wpAny_mono ((hsu a S cls d (X.pn++g) hz4 ⟨_,O⟩).run [] s5 _ G _ S5 (yes rfl a na)) ?_ (λ_ _ z=>awt z);intro f s6 m;have bye:∀{j:L2.St} {Y:Hp} {Q:Shared->Prop},Inv (X.suite a ((a,S)::(X.pn++g))) [] j Y s6->(∀s7,Inv X g (j.set i none) Y s7->Q s7)->
       wpAny (model X.prog X.w) X.A (do bindName X.env n .none;unbindBehindTheSuite X.env n cp) (λ_ s7=>Q s7) X.xe s6:=λp hq=>gone_ok (p.unsuite ok) hN hi hl hq
     cases f with
     |ret u=>
      let⟨v6,j,Y,p,r6,C⟩:=m
      exact bye p λs7 J7=>⟨_,_,_,J7,r6,C⟩
     |next=>
      let⟨j,Y,p,C⟩:=m
      exact bye p λs7 J7=>⟨_,_,J7,C⟩
     |brk=>
      let⟨j,Y,p,C⟩:=m
      exact bye p λs7 J7=>⟨_,_,J7,C⟩
     |cont=>
      let⟨j,Y,p,C⟩:=m
      exact bye p λs7 J7=>⟨_,_,J7,C⟩
  exact all hh w) PassesOwn.looking).run [] s σ H D (I.toTry _) h
 refine wpAny_Try_except (wpAny_mono run ?_ (λ_ _ z=>z));intro f s1 sp1;cases f with
 |ret u=>
  let⟨v,F,G,Z,r,q⟩:=sp1
  exact⟨v,F,G,Z.ofTry ok,r,q⟩
 |next=>
  let⟨F,G,Z,q⟩:=sp1
  exact wpAny_execs_nil ⟨F,G,Z.ofTry ok,q⟩
 |brk=>
  let⟨F,G,Z,q⟩:=sp1
  exact⟨F,G,Z.ofTry ok,q⟩
 |cont=>
  let⟨F,G,Z,q⟩:=sp1
  exact⟨F,G,Z.ofTry ok,q⟩
end
inductive Hq where
 |con (d:Dat)|fld (f:Str)|flds (fs:List Str)
 |kin (κ:Str->Option (List Bool))
def XJ(y:Str)(x:cZ)(f:Str):Option Dat:=match x.cls==y with
 |true=>(x.fs.lookup f).bind λd=>match lf d with
  |true=>some d
  |false=>none
 |false=>none
def Ld(y:Str)(x:cZ):List Str->Option (List Dat)
 |[]=>some []
 |f::a=>(XJ y x f).bind λd=>(Ld y x a).bind λds=>some (d::ds)
def Gn(y:Str)(x:cZ):Hq->Option Dat
 |.con d=>some d
 |.fld f=>XJ y x f
 |.flds a=>(Ld y x a).bind λds=>some (.tuple ds)
 |.kin b=>(b x.cls).bind λbs=>some (.list (bs.map .bool))
def vA(y:Str)(x:cZ):List (Nat×Hq)->Env->Option Env
 |[],a=>some a
 |(j,e)::r,a=>(Gn y x e).bind λd=>vA y x r (a.set j #[d])
structure Hd where
 y:Str
 tk:Str->Option Bool
 nm:Option Nat
 st:List (Nat×Hq)
def Xo(a:Env):Option Nat->Env
 |none=>a
 |some i=>a.set i none
def afd(a:Env):Option Nat->Bool
 |none=>true
 |some i=>decide (i<a.length)
def hdl:List Hd->cZ->Env->Mo->dB
 |[],x,a,M=>.exc x a M
 |h::r,x,a,M=>match h.tk x.cls with
  |some true=>match afd a h.nm with
   |true=>match vA h.y x h.st (Xo a h.nm) with
    |some b=>.next (Xo b h.nm) M
    |none=>.bad
   |false=>.bad
  |some false=>hdl r x a M
  |none=>.bad
@[simp]def T8 (f:SF) (c:List Hd) (M:Mo) (d:Env):dB:=match f M d with
 |.exc x b a=>hdl c x b a
 |o=>o
structure XIn(K:ave)(aj:aJ)(σ:L2.St)(H:Hp)(g:Gh)(ρ:Env)(M:Mo)(x:cZ)(a:Addr)(cls:Value)(d:Option Addr)(i:Option Nat):Prop where
 inv:SInv K aj σ H g ρ M
 xr:lN K aj g.fr H x cls d
 sl:∀j,i=some j->σ[j]?=some (some (.ref a))
section
variable(K:ave)(aj:aJ)(a:Addr)(cls:Value)(d:Option Addr)(i:Option Nat)
def tU(f:cZ->Option Dat):TE:=λe H Q=>∃g c M x z,XIn K aj e H g c M x a cls d i/\f x=some z/\∀v b,Ex H b->Rep K g b v z->Q v b
def tUA(f:cZ->Option (List Dat)):TA:=λe H Q=>∃g c M x z,XIn K aj e H g c M x a cls d i/\f x=some z/\∀v b,Ex H b->aC K g b v z->Q v b
def tSu(y:Str)(st:List (Nat×Hq)):TS:=λD h H=>∃g f M x e,XIn K aj h H g f M x a cls d i/\vA y x st f=some e/\(∀p∈st,i≠some p.1)/\∀b c,(∀q,Gr q g g H c)->SInv K aj b c g e M->D.nx b c
end
section
variable{K:ave}{aj:aJ}{a:Addr}{cls:Value}{d:Option Addr}{i:Option Nat}{σ:L2.St}{H H':Hp}{g:Gh}{ρ:Env}{M:Mo}{x:cZ}
theorem jN.ex{fs:LsS V}{b:LsS Dat}(e:Ex H H')(k:Kd g H)(h:jN K g H fs b):jN K g H' fs b:=h.gr (Gr.ex (q:=true) e) k
theorem lN.ex{c:Value}{dd:Option Addr}(e:Ex H H')(k:Kd g H)(h:lN K aj g H x c dd):lN K aj g H' x c dd:=by
 let⟨C,m,n,o⟩:=h
 exact⟨C,m,n,o.imp id λ⟨b,fs,f,j,l⟩=>⟨b,fs,f,e _ _ j,l.ex e k⟩⟩
theorem XIn.ex(e:Ex H H')(h:XIn K aj σ H g ρ M x a cls d i):XIn K aj σ H' g ρ M x a cls d i:=⟨h.inv.ex e,h.xr.ex e h.inv.kd.fr,h.sl⟩
def jN.get{f:Str}{z:Dat}{fs:LsS V}{b:LsS Dat}(h:jN K g H fs b)(e:b.lookup f=some z):∃v,fs.lookup f=some v/\Rep K g H v z:=by
 induction h with
 |nil=>cases e
 | @cons c v k _ _ r _ j=>
  rw[avM]at e;rw[avM];cases hb:f==c with
  |true=>
   rw[hb]at e;cases e;exact⟨v,rfl,r⟩
  |false=>
   rw[hb]at e;exact j e
end
section
variable{X:Cx}{aj:aJ}{a C:Addr}{oe:Obj}{cls:Value}{d:Option Addr}{pn:List (Addr×Obj)}{y n:Str}{pos p:Pos}{j:Nat}
def afS{e:Expr}{z:Dat}{i:Option Nat}{t:TE}(h:PE (X.suite a ((a,oe)::pn)) e t)(c:∀b H Q,tU X.K aj a cls d i (λ_=>some z) b H Q->t b H Q):PE (X.suite a ((a,oe)::pn)) e (tU X.K aj a cls d i λ_=>some z):=PE.weak h c
def af2{f:Str}(w:aj y=some C)(T:XfC X.K C)(m:PySem.W.findIn X.K (.ref C) f=some none)(G:Zc cls d oe)(D:∃O,oe.data=.fields O)(A:X.N[j]?=some n)(F:Vis X.env.scope n)(B:(n==("__debug__" : Str))=false)(h:(n==("__classdict__" : Str))=false) :
  PE (X.suite a ((a,oe)::pn)) (.Attribute (.Name n p) f pos) (tU X.K aj a cls d (some j) λx=>XJ y x f):=by
 refine PE.weak (pe_xf T m G D (pe_var (i:=j) (X:=X.suite a ((a,oe)::pn)) A F B h)) λσ H Q ⟨g,U,M,x,z,I,e,k⟩=>?_;have e:XJ y x f=some z:=e;unfold XJ at e;split at e
 .next t=>
  let⟨S,l,e⟩:=avn.mp e
  split at e
  .next E=>
   cases e;let⟨P,o,q,c⟩:=I.xr
   rw[awB t,w]at o;cases o;rcases c with⟨c,_⟩|⟨b,u,c,r,s⟩
   .rw[c]at l;cases l
   .let⟨v,J,L⟩:=s.get l
    exact⟨.ref a,I.sl j rfl,rfl,q,b,u,v,c,r,J,k v H (Ex.refl H) (Rep.free (g:=g.fr) (g':=g) rfl E L)⟩
  .cases e
 .cases e
def agU{i:Option Nat}:PA (X.suite a ((a,oe)::pn)) [] (tUA X.K aj a cls d i λ_=>some []):=PA.weak pa_nil λσ H Q ⟨g,b,M,x,z,I,e,k⟩=>by
 cases e;exact k [] H (Ex.refl H) .nil
def akx{e:Expr}{b:List Expr}{i:Option Nat}{f:cZ->Option Dat}{l:cZ->Option (List Dat)}(h:PE (X.suite a ((a,oe)::pn)) e (tU X.K aj a cls d i f))(t:PA (X.suite a ((a,oe)::pn)) b (tUA X.K aj a cls d i l))(u:nst e=true) :
  PA (X.suite a ((a,oe)::pn)) (e::b) (tUA X.K aj a cls d i λx=>(f x).bind λz=>(l x).bind λzs=>some (z::zs)):=by
 refine PA.weak (pa_cons h t (bH u b)) λσ H Q ⟨g,o,M,x,z,I,e,k⟩=>?_;let⟨A,r,e⟩:=avn.mp e
 let⟨B,s,e⟩:=avn.mp e
 cases e;exact⟨g,o,M,x,A,I,r,λv D c r1=>⟨g,o,M,x,B,I.ex c,s,λvs q m w=>k (v::vs) q (c.trans m) (.cons (r1.ex m (I.ex c).inv.kd) w)⟩⟩
def agR{h:List Expr}{r:Nat}{i:Option Nat}{c:cZ->Option (List Dat)}(q:PA (X.suite a ((a,oe)::pn)) h (tUA X.K aj a cls d i c))(o:∀x b,c x=some b->b.length<=100000):PE (X.suite a ((a,oe)::pn)) (.Tuple h r pos) (tU X.K aj a cls d i λx=>(c x).bind λb=>some (.tuple b)):=by
 refine PE.weak (pe_tup q) λσ H Q ⟨g,s,M,x,z,I,e,k⟩=>?_;let⟨b,f,e⟩:=avn.mp e
 cases e;refine⟨g,s,M,x,b,I,f,λvs t m r1=>⟨sz_of (by rw[r1.length];exact o x b f),λp l=>?_⟩⟩;exact k (.ref p) _ (m.trans (Ex.new l)) (.tup (st_of awA) (r1.ex (Ex.new l) (I.ex m).inv.kd))
theorem Zf{x:cZ}:∀{c:List Str} {b:List Dat},Ld y x c=some b->b.length=c.length
 |[],b,h=>by cases h;rfl
 |f::c,b,h=>by
  rw[Ld]at h;obtain⟨i,g,h⟩;obtain⟨k,e,h⟩;cases h;simp[Zf e]
def ao0{i:Option Nat}{f:Hq}{st:List (Nat×Hq)}{D m:Ends}{t:L2.St}{H:Hp}
  (h:tSu X.K aj a cls d i y ((j,f)::st) D t H) (J:∀b c,tSu X.K aj a cls d i y st D b c->m.nx b c) :
  tAsg (tU X.K aj a cls d i λx=>Gn y x f) (gName j) m t H:=by
 let⟨g,s,M,x,B,I,e,r,k⟩:=h
 rw[vA]at e;let⟨z,E,e⟩:=avn.mp e
 refine⟨g,s,M,x,z,I,E,λv c l r1=>J _ _ ⟨g,s.set j #[z],M,x,B,⟨(I.ex l).inv.set r1,(I.ex l).xr,λjj o=>?_⟩,e,λp F=>r p (avk _ F),λb u L A=>k b u (λq=>(Gr.ex l).trans (L q)) A⟩⟩;have G:j≠jj:=λz=>r (j,f) avl (by rw[o,z]);rw[avm G];exact I.sl jj o
def anw{i:Option Nat}{D:Ends}{b:L2.St}{H:Hp}(h:tSu X.K aj a cls d i y [] D b H):D.nx b H:=by
 let⟨g,l,M,x,c,I,e,f,k⟩:=h
 cases e;exact k b H (λ_=>.refl) I.inv
end
def arO(K:ave)(aj:aJ)(h:Hd)(l:Cl):Prop:=(∃D,aj h.y=some D/\l.c=.ref D)/\afq K aj h.y h.tk/\l.nm=h.nm/\(l.ts=λa cls d=>tSu K aj a cls d h.nm h.y h.st)/\∀p∈h.st,h.nm≠some p.1
inductive Jy(K:ave)(aj:aJ):List Hd->List Cl->Prop
 |nil:Jy K aj [] []
 |cons {h:Hd} {l:Cl} {hs:List Hd} {ls:List Cl} (o:arO K aj h l) (r:Jy K aj hs ls):Jy K aj (h::hs) (l::ls)
def SInv.off{K:ave}{aj:aJ}{q:L2.St}{H:Hp}{g:Gh}{p:Env}{M:Mo}(I:SInv K aj q H g p M)(i:Nat)(v:Option V):SInv K aj (q.set i v) H g (p.set i none) M:=by
 have f:=I.forget (j:=i);refine⟨f.kd,f.wok,by rw[avC,avC];exact I.len,λj d h=>?_,λj n h=>?_,λj k n u l ne a b o=>?_⟩
 .by_cases e:j=i
  .subst e;rw[av5]at h
   left<;>first | (left<;>cases h) | (exact absurd rfl ‹¬_›)
  .let⟨t,c,m⟩:=f.dat j d h
   rw[avm (Ne.symm e)]at c;exact⟨t,by rw[avm (Ne.symm e)];exact c,m⟩
 .by_cases e:j=i
  .subst e;rw[av5]at h
   left<;>first | (left<;>cases h) | (exact absurd rfl ‹¬_›)
  .let⟨l,s,c,m⟩:=f.own j n h
   rw[avm (Ne.symm e)]at c;exact⟨l,s,by rw[avm (Ne.symm e)];exact c,m⟩
 .have n1:j≠i:=λz=>by
   subst z;rw[av5]at a;split at a<;>first | (split at a<;>cases a) | (exact absurd rfl ‹¬_›)
  have r:k≠i:=λz=>by
   subst z;rw[av5]at b;split at b<;>first | (split at b<;>cases b) | (exact absurd rfl ‹¬_›)
  rw[avm (Ne.symm n1)]at a o;rw[avm (Ne.symm r)]at b |-
  exact I.sep j k n u l ne a b o
section
variable{X:Cx}{aj:aJ}{W:WX}{q:Bool}{body:List Stmt}{h0:ExceptHandler}{hds:List ExceptHandler}{hs:List Hd}{ls:List Cl}{pos:Pos}{f:SF}
def aml{D:Ends}{g b:Gh}{H e:Hp}{d:L2.St}{k:Env}{n:Mo}{x:cZ}{c:Value}{dd:Option Addr}(O:Jy X.K aj hs ls)(r:Gr q g b H e)(I:SInv X.K aj d e b k n)(t:lN X.K aj b.fr e x c dd)
  (z:(hdl hs x k n).sat (sN X.K aj q D.nx g H) (sR X.K aj q D.rt g H) (sN X.K aj q D.bk g H) (sN X.K aj q D.ct g H) (sX X.K aj W q g H)):abw X.K W D ls c dd d e:=by
 induction O with
 |nil=>exact z d e b c dd r I t
 | @cons h l hs ls o _ Q=>
  let⟨⟨T,L,M⟩,N,R,S,s⟩:=o
  rw[hdl]at z;let⟨C,F,G,U⟩:=id t
  split at z
  .next B=>
   refine⟨true,by rw[G,M];exact N _ _ _ B F _ L,λ_ a Y=>?_,λy=>nomatch y⟩;rw[R,S];split at z
   .next J=>
    split at z
    .next E p=>
     cases m:h.nm with
     |none=>
      rw[m]at p z s;exact⟨b,k,n,x,E,⟨I,t,λj A=>nomatch A⟩,p,s,λσ2 u w v=>z σ2 u b (r.trans (w q)) v⟩
     |some i=>
      rw[m]at p z s J;refine⟨b,k.set i none,n,x,E,⟨I.off i _,t,λj A=>?_⟩,p,s,λσ2 u w v=>z _ u b (r.trans (w q)) (v.off i none)⟩;cases A;have P:i<k.length:=awv J;rw[avt (by rw[I.len];exact P)]
    .exact awt z
   .exact awt z
  .next B=>exact⟨false,by rw[G,M];exact N _ _ _ B F _ L,(λy=>nomatch y),λ_=>Q z⟩
  .exact awt z
def aog(st:X.stack=X.env::X.outer)(s:X.env.frame=some X.env.locals)(m:X.N.Nodup)(v:Takes X W)
  (o:∀(b:WX) (i:List (Addr×Obj)) (e:Value->Shared->Prop),Takes (X.tr i e) b->PassesOwn (model X.prog X.w) X.A X.env e->Dq aj (X.tr i e) b q body f)
  (u:El X (h0::hds) ls) (n:Jy X.K aj hs ls):SE aj X W q (.Try body (h0::hds) [] [] pos) (T8 f hs):=by
 refine PS.weak (aj7 (tb:=λb=>tS X.K aj b q f) st s m v (λb i e t p=>o b i e t p) u) λD F H ⟨g,k,M,I,z⟩=>?_;refine⟨g,k,M,I,?_⟩;unfold T8 at z;cases a:f M k with
 |next j h=>rw[a]at z;exact z
 |ret d h=>rw[a]at z;exact z
 |brk j h=>rw[a]at z;exact z
 |cont j h=>rw[a]at z;exact z
 |bad=>rw[a]at z;exact z
 |exc x j h=>
  rw[a]at z;exact λσ' B C c dd r l y=>aml n r l y z
end
section
variable{K:ave}{aj:aJ}{W:WX}{g g':Gh}{H H':Hp}{σ:L2.St}{ρ:Env}{M:Mo}
theorem iU.grow{l:Addr}(r:Gr false g g' H H')(e:Ex H H')(k:Kd g H):∀{n:Bool} {a:List (Dat×Dat)},iU K aj g H l n a->iU K aj g' H' l n a
 |false,_,⟨j,b,c,d⟩=>⟨j,e _ _ b,c,d.gr r k⟩
 |true,_,⟨o,p,m,b,c,d,f,h,i⟩=>⟨o,p,m,e _ _ b,c,d,f.gr r k,h,i.gr r k⟩
theorem cP.grow{h:Nat}{f:Str}{v:V}(r:Gr false g g' H H')(e:Ex H H')(o:g'.ow=g.ow)(k:Kd g H):∀{fl:gU},cP K aj g H h f v fl->cP K aj g' H' h f v fl
 |.dat _,z=>Rep.gr r k z
 |.lst _ _,⟨l,j,a,b,c,d,i⟩=>⟨l,j,a,e _ _ b,by rw[o];exact c,d.gr r k,r.tb i⟩
 |.dic _ _,⟨l,a,b,c⟩=>⟨l,a,by rw[o];exact b,c.grow r e k⟩
theorem bQ.grow{h:Nat}(r:Gr false g g' H H')(e:Ex H H')(o:g'.ow=g.ow)(k:Kd g H){fs:LsS V}{gs:LsS gU}(t:bQ K aj g H h fs gs):bQ K aj g' H' h fs gs:=by
 induction t with
 |nil=>exact .nil
 |cons z _ a=>exact .cons (z.grow r e o k) a
def Gh.push(g:Gh)(x:Addr):Gh:={ g with tbl:=g.tbl++[x] }
def aaD{x a:Addr}(z:(g.push x).A a):g.A a\/a=x:=by
 rcases z with(z|z)|z|z
 .rcases avz.mp z with z|z
  .exact .inl (.inl (.inl z))
  .exact .inr (avp.mp z)
 .exact .inl (.inl (.inr z))
 .exact .inl (.inr (.inl z))
 .exact .inl (.inr (.inr z))
def abT{x a:Addr}(z:(g.push x).W a):g.W a\/a=x:=by
 rcases z with z|z
 .rcases avz.mp z with z|z
  .exact .inl (.inl z)
  .exact .inr (avp.mp z)
 .exact .inl (.inr z)
theorem JH{x:Addr}(e:Ex H H')(nx:H x=none):Gr false g (g.push x) H H' where
 keep:=λa o h _ _=>e a o h
 keepW:=λz=>nomatch z
 dom:=CZ e
 tbl:=⟨[x],rfl⟩
 W:=λa z=>z.elim (λz=>.inl (avQ _ z)) .inr
 nW:=λa z=>(abT z).imp id λz=>by rw[z];exact nx
 qg:=λz=>nomatch z
 Lc:=rfl
 Lo:=λ_ z=>z
 nLo:=λ_ z=>.inl z
 kl:=rfl
def WM{x:Addr}{o:HO}(k:Kd g H)(e:Ex H H')(nx:H x=none)(hx:H' x=some o)(m:KH o):Kd (g.push x) H' where
 ob:=λa z=>by
  rcases aaD z with z|rfl
  .let⟨u,h1,h2⟩:=k.ob a z
   exact⟨u,e _ _ h1,h2⟩
  .exact⟨o,hx,m⟩
 lo:=λa z y=>by
  rcases abT y with y|rfl
  .exact k.lo a z y
  .let⟨u,h1,_⟩:=k.ob a (.inr (.inr z))
   rw[nx]at h1;cases h1
 lc:=λa z=>by
  refine⟨λy=>?_,(k.lc a z).2⟩;rcases abT y with y|rfl
  .exact(k.lc a z).1 y
  .let⟨u,h1,_⟩:=k.ob a (.inr (.inl z))
   rw[nx]at h1;cases h1
def T5{x:Addr}{c:Str}(k:Kd g H)(w:dH K aj g H M)(e:Ex H H')(s:H x=none)(B:c=""\/∃C t,aj c=some C/\H' x=some (.ins C t [])):dH K aj (g.push x) H' (M++[⟨c,[]⟩]):=by
 have o:∀{h:Nat} {a:Addr},(g.push x).tbl[h]?=some a->(g.tbl[h]?=some a)\/(h=M.length/\a=x):=λ{h a} z=>by
  have z:(g.tbl++[x])[h]?=some a:=z;by_cases n:h<g.tbl.length
  .rw[avq n]at z;exact .inl z
  .rw[avv #[]]at z;have:=(avf.mp z).1;simp at this;have J:h-g.tbl.length=0:=#[];rw[J]at z;cases z;exact .inr ⟨by rw[<-w.len];omega,rfl⟩
 have q:∀{h:Nat},¬g.tbl[h]?=some x:=λ{h} z=>by
  let⟨u,b,_⟩:=k.ob x (.inl (.inl (avo z)))
  rw[s]at b;cases b
 have A:∀{h:Nat} {i:Inst},(M++[(⟨c,[]⟩:Inst)])[h]?=some i->M[h]?=some i\/i=⟨c,[]⟩:=λ{h i} b=>by
  by_cases n:h<M.length
  .rw[avq n]at b;exact .inl b
  .rw[avv #[]]at b;exact .inr (avp.mp (avo b))
 refine⟨by show(g.tbl++[x]).length=_;simp[w.len],λh j a b d=>?_,λh a i b d l=>?_,λh i b=>?_,λh i b l=>?_,λh a i b d l=>?_,λh a Q b d=>?_,w.nc⟩
 .rcases o b with m|⟨m,rfl⟩
  .rcases o d with r|⟨r,rfl⟩
   .exact w.inj h j a m r
   .exact absurd m q
  .rcases o d with r|⟨r,_⟩
   .exact absurd r q
   .omega
 .rcases o b with m|⟨rfl,rfl⟩
  .have n:h<M.length:=by rw[<-w.len];exact(avf.mp m).1
   rw[avq n]at d;let⟨E,v,L,F,G,I⟩:=w.ins h a i m d l
   exact⟨E,v,L,F,e _ _ G,I.grow (JH e s) e rfl k⟩
  .rw[avv (avE _),Nat.sub_self]at d;cases d;rcases B with rfl|⟨C,t,hc,B⟩
   .exact absurd rfl l
   .exact⟨C,t,[],hc,B,.nil⟩
 .rcases A b with b|rfl
  .exact w.nd h i b
  .exact List.nodup_nil
 .rcases A b with b|rfl
  .exact w.fd h i b l
  .exact λf N=>absurd N avL
 .rcases o b with m|⟨_,rfl⟩
  .have n:h<M.length:=by rw[<-w.len];exact(avf.mp m).1
   rw[avq n]at d;exact w.tw h a i m d l
  .cases D:g.ow a with
   |none=>exact D
   |some p=>
    let⟨u,d,_⟩:=k.ob a (.inl (.inr (by rw[D];exact λy=>nomatch y)))
    rw[s]at d;cases d
 .rcases A d with d|d
  .have n:h<M.length:=(avf.mp d).1;rcases o b with m|⟨m,_⟩
   .let⟨O,R,S,U⟩:=w.li h a Q m d
    exact⟨O,e _ _ R,S,U.gr (JH e s) k⟩
   .omega
  .have:=congrArg Inst.fs d;cases this
def SInv.grow{M':Mo}(r:Gr false g g' H H')(e:Ex H H')(lo:g'.Lo=g.Lo)(k':Kd g' H')(w':dH K aj g' H' M')(I:SInv K aj σ H g ρ M):SInv K aj σ H' g' ρ M' where
 kd:=k'
 wok:=w'
 len:=I.len
 dat:=λi d h=>by
  let⟨v,h1,h2⟩:=I.dat i d h
  exact⟨v,h1,h2.gr r I.kd⟩
 own:=λi xs h=>by
  let⟨l,us,h1,h2,h3,h4⟩:=I.own i xs h
  exact⟨l,us,h1,e _ _ h2,by rw[lo];exact h3,h4.gr r I.kd⟩
 sep:=I.sep
end
def aeQ{P:Program}{w:World}{K:ave}{j:Str->Option Value}{b:Heap}{k:Nat}{f:Addr}{i:FuncData}{l:List Str}{m:Sp}(F:FnOk P w K j b (L2.CX P w) k f i l m):FnOk P w K j b L2.CX0 k f i l λg H Q _=>m g H Q λ_ _ _=>False:=
 ⟨λg H Q E h=>F.len g H Q _ h,λA c s H e t g Q E p o n q h=>codeAny_mono (F.run A c s H e t g Q _ p o n q h) λr v z=>by
  unfold CR at z |-
  split at z
  .exact z
  .exact z
  .let⟨a,B,u,cls,d,_,_,_,_,_,_,_,y⟩:=z
   exact awt y⟩
def yc(x:Str)(m:Mo->List Dat->aR Dat)(as:QA):GF:=λM b=>((as M b).at M).bind λds _=>match m (M++[⟨x,[]⟩]) (obj M.length::ds) with
 |.ok .none a=>.ok (obj M.length) a
 |_=>.bad
section
variable{X:Cx}{aj:aJ}{W:WX}{x:Str}{pos p:Pos}{k n:Nat}{m:Mo->List Dat->aR Dat}{as:QA}{t:TA}{e:Expr}{es:List Expr}
def ahM{C f:Addr}{fd:FuncData}{O:List Str}(hc:aj x=some C)(U:O.length=n+1)(T:∀M l j,as M l=.ok j->j.length=n)(Y:∀i H Q,Rx X.K aj W as i H Q->t i H Q)(i:L2.St)(H:Hp)(Q:VK)(h:tE X.K aj W false (yc x m as) i H Q) :
  tMake C (λP H Q _=>HJ X.K aj O.length m P H Q λ_ _ _=>False) [] (λ_ _ _=>False) t i H Q:=by
 let⟨g,l,M,I,h⟩:=h
 unfold yc at h;have h:=h.bnd;refine Y i H _ ⟨g,l,M,I,?_⟩;cases a:as M l with
 |exc x=>rw[a]at h;exact λb c dd e r=>h b g c dd (Gr.ex e) (I.ex e) r
 |bad=>rw[a]at h;exact awt h
 |ok j=>
  rw[a]at h;intro P B G r1 y q A F ne;have o:=I.ex G;have w:Ex B (upd (upd B q (.own y)) y (.ins C q [])):=by refine(Ex.new F).trans (Ex.new ?_);rw[upd_ne ne.symm];exact A
  have L:upd (upd B q (.own y)) y (.ins C q []) y=some (.ins C q []):=awA;have D:=JH (g:=g) w A;have N:=WM o.kd w A L awr;have R:=T5 (c:=x) o.kd o.wok w A (.inr ⟨C,q,hc,L⟩);have S:=o.grow D w rfl N R;have J:(g.push y).tbl[M.length]?=some y:=by
   show(g.tbl++[y])[M.length]?=_
   rw[<-o.wok.len,avv (avE _),Nat.sub_self];rfl
  refine⟨by rw[avV,avu,r1.length,T M l j a,U],g.push y,M++[⟨x,[]⟩],obj M.length::j,N,R,.cons (.obj J) (by rw[avV];exact r1.gr D o.kd),?_⟩;have h:aR.sat (match m (M++[(⟨x,[]⟩:Inst)]) (obj M.length::j) with
   |.ok .none s=>aR.ok (obj M.length) s
   |_=>.bad) (λd s=>∀v b u,Gr false g u H b->SInv X.K aj i b u l s->Rep X.K u b v d->Q v b) (gE X.K aj W false g H i l):=h
  cases E:m (M++[⟨x,[]⟩]) (obj M.length::j) with
  |bad=>rw[E]at h;exact awt h
  |exc z s=>rw[E]at h;exact awt h
  |ok d s=>
   rw[E]at h;cases d with
   |none=>exact λv b u c Z w' r'=>⟨by cases r';rfl,h (.ref y) b u (((Gr.ex G).trans D).trans c.gr) (S.call c Z w') (.obj (c.gr.tb J))⟩
   |_=>exact awt h
def apv(B:Room k X.A)(g:mJ X.prog X.w X.K X.mg X.base aj k x (.cls n m))(s:Gl X x)(r:(x==("__debug__" : Str))=false)(q:Jo aj X W (e::es) as)(D:(e::es).all nst=true)(v:∀M G b,as M G=.ok b->b.length=n) :
  GE aj X W false (.Call (.Name x p) (e::es) [] pos) (yc x m as):=by
 let⟨C,f,c,I,j,d,i,_,l,u,y,o,F⟩:=g
 have a:=D;rw[avI,avh]at a;exact PE.weak (pe_make (E:=λ_ _ _=>False) l (aeQ F) (B.mono u) s d o .nil pass0 q r (bH a.1 es) (star_any es a.2)) λσ H Q h=>ahM (f:=f) (fd:=c) i y v (λ_ _ _ z=>z) σ H Q h
def akb(r:Room k X.A)(g:mJ X.prog X.w X.K X.mg X.base aj k x (.cls 0 m))(l:Gl X x)(i:(x==("__debug__" : Str))=false):GE aj X W false (.Call (.Name x p) [] [] pos) (yc x m bZ):=by
 let⟨C,f,fd,v,j,a,b,_,c,o,q,d,F⟩:=g
 exact PE.weak (pe_make0 (E:=λ_ _ _=>False) c (aeQ F) (r.mono o) l a d .nil pass0 i) λσ H Q h=>ahM (f:=f) (fd:=fd) (as:=bZ) b q (λM s u z=>by cases z;rfl) (λσ H Q ⟨g,s,M,I,z⟩=>z [] H (Ex.refl H) .nil) σ H Q h
end
@[simp]def Ce (m:Mo->List Dat->aR Dat) (as:QA) (M:Mo) (a:Env):aR Dat:=((as M a).at M).bind λds _=>m M ds
section
variable{X:Cx}{aj:aJ}{W:WX}{e:Expr}{es:List Expr}{pos p:Pos}{x:Str}{k:Nat}{f:Addr}{fd:FuncData}{ps:List Str}
def alb{m:Mo->List Dat->aR Dat}{as:QA}(R:Takes X W)(F:FnOk X.prog X.w X.K X.mg X.base (L2.CX X.prog X.w) k f fd ps (HJ X.K aj ps.length m))(O:Room k X.A)(G:Gl X x)(L:X.mg x=some (.ref f))(hk:PySem.W.keepIn X.K (.ref f)=true)(C:Binds X.K fd ps [])
  (B:Jo aj X W (e::es) as) (J:(e::es).length=ps.length) (D:(x==("__debug__" : Str))=false) (P:(e::es).all nst=true) (N:∀M l n,as M l=.ok n->n.length=(e::es).length):GE aj X W false (.Call (.Name x p) (e::es) [] pos) (Ce m as):=by
 have j:=P;rw[avI,avh]at j;refine PE.weak (pe_callS (E:=λσ=>WE W σ) F O G L hk C (λσ=>passAt R σ) B D (bH j.1 es) (star_any es j.2)) λσ H Q ⟨g,l,M,I,h⟩=>?_;refine⟨g,l,M,I,?_⟩;have h:=h.bnd;cases b:as M l with
 |exc x=>rw[b]at h;exact λa c dd e r=>h a g c dd (Gr.ex e) (I.ex e) r
 |bad=>rw[b]at h;exact awt h
 |ok n=>
  rw[b]at h;have h:(m M n).sat (λd q=>∀v a i,Gr false g i H a->SInv X.K aj σ a i l q->Rep X.K i a v d->Q v a) (gE X.K aj W false g H σ l):=h;intro T S o r1;exact⟨by rw[r1.length,N M l n b];exact J,g,M,n,I.kd.ex o,I.wok.ex o I.kd,r1,h.mono (λd q t v a i c s y u=>t v a i ((Gr.ex o).trans c.gr) ((I.ex o).call c s y) u) λx q t a i z dd c s y u=>t a i z dd ((Gr.ex o).trans c.gr) ((I.ex o).call c s y) u⟩
end
def Ft.has(ft:Ft)(c f:Str):Bool:=match ft.lookup c with
 |some fs=>fs.contains f
 |none=>false
def PN(a:Ft)(aj:aJ):Prop:=∀c f,a.has c f=true->f∈aj.fl c
def unH:Dat->Option Nat
 |.dict [(.none,.int (.ofNat h))]=>some h
 |_=>none
def ahP{d:Dat}{h:Nat}(e:unH d=some h):d=obj h:=by
 unfold unH at e;split at e
 .cases e;rfl
 .cases e
def qw(M:Mo)(d:Dat):Option (Nat×Inst):=(unH d).bind λh=>(M[h]?).bind λi=>match i.cls=="" with
 |true=>none
 |false=>some (h,i)
def Mg{M:Mo}{d:Dat}{h:Nat}{i:Inst}(e:qw M d=some (h,i)):d=obj h/\M[h]?=some i/\i.cls≠"":=by
 unfold qw at e;let⟨c,a,e⟩:=avn.mp e
 let⟨f,b,e⟩:=avn.mp e
 split at e
 .cases e
 .next hc=>
  cases e;exact⟨ahP a,b,λz=>by rw[z]at hc;cases hc⟩
@[simp]def uG (b:Ft) (o:QF) (f:Str) (e:GF) (M:Mo) (a:Env):dB:=(e M a).then a λd M1=>((o M1 a).at M1).then a λc M2=>match qw M2 c with
 |some (h,i)=>match b.has i.cls f&&decide (i.fs.length<100) with
  |true=>.next a (M2.set h (i.put f (.dat d)))
  |false=>.bad
 |none=>.bad
def SInv.chg{K:ave}{aj:aJ}{e:L2.St}{H a:Hp}{g g':Gh}{d:Env}{M b:Mo}{h:Nat}{f:Str}(I:SInv K aj e H g d M)(c:Chg M g g' H a h f)(w:dH K aj g' a b):SInv K aj e a g' d b:=I.call c.gc c.kd w
section
variable{X:Cx}{aj:aJ}{W:WX}{o e:Expr}{f:Str}{pos pos':Pos}{ft:Ft}{fo:QF}
def Jc{K:ave}{g:Gh}{H:Hp}{M:Mo}{d:Dat}{v:V}{h:Nat}{i:Inst}(s:jP K aj)(t:PN ft aj)(w:dH K aj g H M)(r:dJ K g H v d)(x:qw M d=some (h,i))(u:ft.has i.cls f=true):∃a C j c,d=obj h/\M[h]?=some i/\i.cls≠""/\g.tbl[h]?=some a/\v=.ref a/\aj i.cls=some C/\H a=some (.ins C j c)/\bQ K aj g H h c i.fs/\Cls K C/\NoAttr K C f/\f∈aj.fl i.cls:=by
 let⟨rfl,l,m⟩:=Mg x
 let⟨a,rfl,n⟩:=Kh r
 let⟨C,j,c,k,p,q⟩:=w.ins h a i n l m
 have b:=t _ _ u;let⟨y,z⟩:=s i.cls C f k b
 exact⟨a,C,j,c,rfl,l,m,n,rfl,k,p,q,y,z,b⟩
def alU{B:GF}(T:jP X.K aj)(U:PN ft aj)(ho:QW aj X W o fo)(Z:GE aj X W false e B)(hs:swapsWith e (some (.Attribute o f pos')) pos.line X.env=pure false):SE aj X W false (.Assign [.Attribute o f pos'] e pos) (uG ft fo f B):=by
 refine PS.weak (ps_fld ho Z hs) λD l H ⟨g,ρ,M,I,z⟩=>?_;refine tE.go I (cX (σ:=l) z) λd M1 v H1 r t r1 m rv=>?_;refine tW.go m (k:=λL=>((match qw M1 L with
  |some (h,i)=>match ft.has i.cls f&&decide (i.fs.length<100) with
   |true=>dB.next ρ (M1.set h (i.put f (.dat d)))
   |false=>.bad
  |none=>.bad).sat (sN X.K aj false D.nx g H) (sR X.K aj false D.rt g H) (sN X.K aj false D.bk g H) (sN X.K aj false D.ct g H) (sX X.K aj W false g H))) ?_ λL u H2 j q ru=>?_
 .have t:=Out.dY (cX (σ:=l) t);exact t.mono (λ_ y=>y) λx y N c dd A rx=>y N r c dd (r1.trans (Gr.ex A)) (m.ex A) rx
 .have b:=m.ex q;split at j
  .next h i hi=>
   split at j
   .next s=>
    rw[avh]at s;let⟨a,C,p,E,_,G,J,F,rfl,O,P,w,Q,R,S⟩:=Jc T U b.wok ru hi s.1
    refine⟨a,C,p,E,rfl,P,Q,R,?_,?_⟩
    .have:=awv s.2;rw[w.len];omega
    .have n:=Xm (f:=f) (C:=C) (dx:=p) (fs':=putF f v E) b.kd b.wok F G J;have w':=b.wok.chg b.kd n F G J S O w awA (fl:=.dat d) (show Rep X.K r _ v d from(rv.ex q m.kd).gr n.gc.gr b.kd);exact j l _ r ((r1.trans (Gr.ex q)).trans n.gc.gr) (b.chg n w')
   .exact awt j
  .exact awt j
end
mutual
theorem Rep.mv{K:ave}{g g':Gh}{H:Hp}(hk:g'.kl=g.kl)(tb:∀(h:Nat) (a:Addr),g.tbl[h]?=some a->g'.tbl[h]?=some a)(n:∀a,g'.A a->g.A a):∀{v:V} {d:Dat},Rep K g H v d->Rep K g' H v d
 |_,_,.non=>.non
 |_,_,.bl b=>.bl b
 |_,_,.int i=>.int i
 |_,_,.str x=>.str x
 |_,_,.tup h t=>.tup h (aC.mv hk tb n t)
 |_,_,.lst h t=>.lst (h.elim (λz=>.inl ⟨z.1,λy=>z.2 (n _ y)⟩) λz=>.inr ⟨by rw[hk];exact z.1,z.2.elim (λz=>.inl ⟨z.1,λy=>z.2 (n _ y)⟩) .inr⟩) (aC.mv hk tb n t)
 |_,_,.obj h=>.obj (tb _ _ h)
theorem aC.mv{K:ave}{g g':Gh}{H:Hp}(hk:g'.kl=g.kl)(tb:∀(h:Nat) (a:Addr),g.tbl[h]?=some a->g'.tbl[h]?=some a)(n:∀a,g'.A a->g.A a):∀{c:List V} {b:List Dat},aC K g H c b->aC K g' H c b
 |_,_,.nil=>.nil
 |_,_,.cons h t=>.cons (Rep.mv hk tb n h) (aC.mv hk tb n t)
end
@[simp]def Em (c:Ft) (o:QF) (f:Str) (e:IF) (M:Mo) (a:Env):dB:=((e M a).at M).then a λxs b=>((o (b++[⟨"",[]⟩]) a).at (b++[⟨"",[]⟩])).then a λd M2=>match qw M2 d with
 |some (h,i)=>match c.has i.cls f&&decide (i.fs.length<100) with
  |true=>.next a (M2.set h (i.put f (.lst b.length xs)))
  |false=>.bad
 |none=>.bad
def Og{K:ave}{aj:aJ}{j:L2.St}{H a:Hp}{g:Gh}{i:Env}{M:Mo}{l:Addr}{o:HO}(I:SInv K aj j H g i M)(b:H l=none)(e:Ex H a)(k:a l=some o)(m:KH o):Gr false g (g.push l) H a/\SInv K aj j a (g.push l) i (M++[⟨"",[]⟩])/\(g.push l).tbl[M.length]?=some l/\(g.push l).ow l=none/\(M++[(⟨"",[]⟩:Inst)])[M.length]?=some ⟨"",[]⟩:=by
 have d:=JH (g:=g) e b;have n:=WM I.kd e b k m;have q:=T5 (c:="") I.kd I.wok e b (.inl rfl)
 refine⟨d,I.grow d e rfl n q,?_,?_,?_⟩
 .show(g.tbl++[l])[M.length]?=_
  rw[<-I.wok.len,avv (avE _),Nat.sub_self];rfl
 .cases h:g.ow l with
  |none=>exact h
  |some p=>
   let⟨u,f,_⟩:=I.kd.ob l (.inl (.inr (by rw[h];exact λy=>nomatch y)))
   rw[b]at f;cases f
 .rw[avv (avE _),Nat.sub_self];rfl
section
variable{X:Cx}{aj:aJ}{W:WX}{o e:Expr}{f:Str}{pos pos' p1 apos epos spos:Pos}{ft:Ft}{fo:QF}
def alC{w:IF}(co:jP X.K aj)(fk:PN ft aj)(ho:QW aj X W o fo)(he:FE aj X W e w)(hs:swapsWith e (some (.Attribute o f pos')) pos.line X.env=pure false):SE aj X W false (.Assign [.Attribute o f pos'] e pos) (Em ft fo f w):=by
 refine PS.weak (ps_fld ho he hs) λD q H ⟨g,k,M,I,z⟩=>?_;refine⟨g,k,M,I,?_⟩;unfold Em at z;cases F:w M k with
 |exc x=>rw[F]at z;exact λs c dd e r=>z q s g c dd (Gr.ex e) (I.ex e) r.fr
 |bad=>rw[F]at z;exact awt z
 |ok O=>
  rw[F]at z;intro l Y Z nl e1 S rs;let⟨A,m,N,ow,T⟩:=Og I nl e1 S awr
  have L:aC X.K (g.push l) Z Y O:=aC.mv (g:=g.add l) (g':=g.push l) rfl (λh a z=>A.tb (g:=g) z) (λa z=>by
   rcases aaD z with z|rfl
   .rcases z with z|z|z
    .exact .inl z
    .exact .inr (.inl z)
    .exact .inr (.inr (show g.Lo a\/a=l from Or.inl z))
   .exact .inr (.inr (show g.Lo a\/a=a from Or.inr rfl))) rs
  have z:(((fo (M++[⟨"",[]⟩]) k).at (M++[⟨"",[]⟩])).then k λU M2=>match qw M2 U with
   |some (h,i)=>match ft.has i.cls f&&decide (i.fs.length<100) with
    |true=>.next k (M2.set h (i.put f (.lst M.length O)))
    |false=>.bad
   |none=>.bad).sat (sN X.K aj false D.nx g H) (sR X.K aj false D.rt g H) (sN X.K aj false D.bk g H) (sN X.K aj false D.ct g H) (sX X.K aj W false g H):=z
  have k1:=Out.dY (cX (σ:=q) z);refine tW.go m (k1.mono (λ_ y=>y) λx y s c dd Q rx=>y s _ c dd (A.trans (Gr.ex Q)) (m.ex Q) rx) λU u H2 j n ru=>?_;have b:=m.ex n;split at j
  .next h i hi=>
   split at j
   .next E=>
    rw[avh]at E;let⟨a,C,t,R,_,p,G,B,rfl,c1,c2,P,c4,c5,c6⟩:=Jc co fk b.wok ru hi E.1
    have J:l≠a:=λz=>by
     subst z;cases b.wok.inj _ _ _ B N;rw[T]at p;cases p;exact G rfl
    refine⟨a,C,t,R,rfl,c2,c4,c5,?_,?_⟩
    .have:=awv E.2;rw[P.len];omega
    .have d:=Yi (f:=f) (C:=C) (dx:=t) (fs':=putF f (.ref l) R) b.kd b.wok B p G N T ow;have w':=b.wok.chg b.kd d B p G c6 c1 P awA (v:=.ref l) (fl:=.lst M.length O) ⟨l,Y,rfl,by rw[upd_ne J];exact n _ _ S,awy rfl,(L.ex n m.kd).gr d.gc.gr b.kd,d.gc.gr.tb N⟩;exact j q _ _ ((A.trans (Gr.ex n)).trans d.gc.gr) (b.chg d w')
   .exact awt j
  .exact awt j
def Us(M:Mo)(f:Str)(d:Dat):Option (Nat×Inst×Nat×List Dat):=(qw M d).bind λp=>match p.2.fs.lookup f with
 |some (.lst n a)=>some (p.1,p.2,n,a)
 |_=>none
def Xd{K:ave}{g:Gh}{H:Hp}{M:Mo}{d:Dat}{v:V}{h n:Nat}{i:Inst}{t:List Dat}(B:jP K aj)(w:dH K aj g H M)(r:dJ K g H v d)(b:Us M f d=some (h,i,n,t)) :
  ∃a C m c l k,d=obj h/\M[h]?=some i/\i.cls≠""/\i.fs.lookup f=some (.lst n t)/\g.tbl[h]?=some a/\v=.ref a/\aj i.cls=some C/\H a=some (.ins C m c)/\bQ K aj g H h c i.fs/\Cls K C/\NoAttr K C f/\f∈aj.fl i.cls/\c.lookup f=some (.ref l)/\H l=some (.lst k)/\g.ow l=some (h,f)/\aC K g H k t/\g.tbl[n]?=some l:=by
 unfold Us at b;let⟨⟨P,Q⟩,D,b⟩:=avn.mp b
 split at b
 .next R O p=>
  cases b;let⟨rfl,q,s⟩:=Mg D
  let⟨a,rfl,z⟩:=Kh r
  let⟨C,m,c,x,A,y⟩:=w.ins _ a _ z q s
  have j:=w.fd _ _ q s f (lookup_mem p);let⟨E,F⟩:=B _ C f x j
  let⟨u,G,l,k,rfl,I,J,L,N⟩:=y.get p
  exact⟨a,C,m,c,l,k,rfl,q,s,p,z,rfl,x,A,y,E,F,j,G,I,J,L,N⟩
 .cases b
def adE{K:ave}{t:L2.St}{s:Env}{g:Gh}{H:Hp}{M:Mo}{h n:Nat}{i:Inst}{ys:List Dat}{a C d l:Addr}{j:LsS V}{us':List V}(I:SInv K aj t H g s M)(q:M[h]?=some i)(r:i.cls≠"")(p:g.tbl[h]?=some a)(u:aj i.cls=some C)(w:H a=some (.ins C d j))(x:bQ K aj g H h j i.fs)(k:f∈aj.fl i.cls)(y:j.lookup f=some (.ref l))(c:g.ow l=some (h,f))(A:g.tbl[n]?=some l)(B:aC K g H us' ys) :
  Gr false g g H (upd H l (.lst us'))/\SInv K aj t (upd H l (.lst us')) g s (M.set h (i.put f (.lst n ys))):=by
 have b:=agF (o':=.lst us') I.kd I.wok c awr;have m:a≠l:=λz=>by
  subst z;rw[I.wok.tw h a i p q r]at c;cases c
 have D:=I.wok.chg I.kd b p q r k u (dx:=d) x (v:=.ref l) (fl:=.lst n ys) (by rw[upd_ne m,Ou y];exact w) ⟨l,us',rfl,awA,c,B.gr b.gc.gr I.kd,A⟩;exact⟨b.gc.gr,I.chg b D⟩
@[simp]def HF (f:Str) (o:QF) (e:GF) (M:Mo) (a:Env):dB:=((o M a).at M).then a λc b=>match Us b f c with
 |some (_,_,n,_)=>(e b a).then a λd M1=>match Us M1 f c with
  |some (h,i,j,g)=>match n==j&&decide (g.length<100000) with
   |true=>.next a (M1.set h (i.put f (.lst n (g++[d]))))
   |false=>.bad
  |none=>.bad
 |none=>.bad
def aky{R:GF}(O:jP X.K aj)(ho:QW aj X W o fo)(hb:baseOk o=true)(he:GE aj X W false e R)(A:nst e=true)(hl:(apos.endLine==pos.line)=true) :
  SE aj X W false (.Expr (.Call (.Attribute (.Attribute o f p1) "append" apos) [e] [] pos) epos) (HF f fo R):=by
 have h0:=pe_fld (X:=X) (pos:=p1) (f:=f) ho (jy hb);have h1:=pa_cons he pa_nil (bH A []);have E:=pe_bm (X:=X) (cpos:=pos) (apos:=apos) PySem.F.plainAttrs_list PySem.F.slot_list_append PySem.F.type_list_append mt_append h0 h1 (jy rfl) (few (by simp[A]) (by simp)) hl (bH A []) #[rfl];refine PS.weak (ps_expr E #[rfl]) λD m H ⟨g,ρ,M,I,z⟩=>?_;unfold HF at z;have k1:=Out.dY (cX (σ:=m) z);refine tW.go I (k1.mono (λ_ y=>y) λx y H' c dd Q rx=>y H' _ c dd (Gr.ex Q) (I.ex Q) rx) λod u H1 B p ru=>?_;have L:=I.ex p;split at B
 .next q i0 n xs0 hi=>
  let⟨a,C,dx,fs,l,us,rfl,m1,m2,ml,ha,rfl,c1,c2,c3,c4,c5,c6,l1,l3,l4,l5,l6⟩:=Xd O L.wok ru hi
  refine⟨a,C,dx,fs,.ref l,rfl,c2,c4,c5,l1,.inl ⟨rfl,us,sq_of l3⟩,?_⟩;refine tE.go L ((cX (σ:=m) B).mono (λ_ _ y=>y) λx M' y=>y.gr (Gr.ex p)) λd M1 v H2 S j G N rv=>?_;split at j
  .next h i n' xs t=>
   split at j
   .next s=>
    rw[avh]at s;cases awB s.1;have J:dJ X.K S H2 (.ref a) (obj q):=Rep.weak (.obj (G.tb ha));let⟨a',C',dx',fs',U,b,eh,n1,n2,nl,r,ea,d1,d2,d3,d4,d5,d6,p1,p3,p4,Y,Z⟩:=Xd O N.wok J t
    cases ea;have el:U=l:=avA (Z.symm.trans (G.tb l6));subst el;let⟨gr,I3⟩:=adE (us':=b++[v]) (ys:=xs++[d]) N n1 n2 r d1 d2 d3 d6 p1 p4 Z (Y.append (.cons rv .nil))
    refine⟨U,b,v,rfl,rfl,p3,sz_lt (by rw[Y.length];exact awv s.2),?_⟩;exact j m _ S (((Gr.ex p).trans G).trans gr) I3
   .exact awt j
  .exact awt j
 .exact awt B
@[simp]def aax (f:Str) (o c e:QF) (M:Mo) (a:Env):dB:=((e M a).at M).then a λd _=>((o M a).at M).then a λg _=>match Us M f g with
 |some (h,i,n,b)=>((c M a).at M).then a λk _=>match k with
  |.int k=>match ixN b.length k with
   |some j=>.next a (M.set h (i.put f (.lst n (b.set j d))))
   |none=>.bad
  |_=>.bad
 |none=>.bad
def al3{i:Expr}{U S:QF}(co:jP X.K aj)(ho:QW aj X W o fo)(hb:baseOk o=true)(he:QE aj X W e S)(hi:QE aj X W i U)
  (ha:∀v,assign (.Subscript (.Attribute o f p1) i spos) X.env v=(do
   let F <-holding [v] (eval (.Attribute o f p1) X.env)
   let N <-holding [v,F] (eval i X.env)
   standAt spos
   holding [v,F,N] (setItem F N v)
   release [v,F,N] []))
  (hs:swapsWithSole [.Subscript (.Attribute o f p1) i spos] e pos.line X.env=pure false) (h1:(assignEach [.Subscript (.Attribute o f p1) i spos] X.env).map (·.2)=[assign (.Subscript (.Attribute o f p1) i spos) X.env]):SE aj X W false (.Assign [.Subscript (.Attribute o f p1) i spos] e pos) (aax f fo U S):=by
 have h0:=pe_fld (X:=X) (pos:=p1) (f:=f) ho (jy hb);refine PS.weak (ps_asg he (pg_sub h0 hi set_list ha) hs #[rfl] h1) λD q H ⟨g,ρ,M,I,z⟩=>?_;unfold aax at z;have k1:=Out.dY (cX (σ:=q) z);refine tQ.go I (k1.mono (λ_ y=>y) λx y r c dd b B=>y r _ c dd (Gr.ex b) (I.ex b) B) λd v H1 O G rv=>?_;have E:=I.ex G;have O:=Out.dY (cX (σ:=q) O);refine tW.go E (O.mono (λ_ y=>y) λx y r c dd b B=>y r _ c dd ((Gr.ex G).trans (Gr.ex b)) (E.ex b) B) λod u H2 t J ru=>?_;have m:=E.ex J;have s:=G.trans J;split at t
 .next h i' n xs hl=>
  let⟨a,C,dx,fs,l,us,rfl,m1,m2,ml,L,rfl,c1,R,c3,c4,c5,c6,Y,l3,l4,Z,l6⟩:=Xd co m.wok ru hl
  refine⟨a,C,dx,fs,.ref l,rfl,R,c4,c5,Y,?_⟩;have t:=Out.dY (cX (σ:=q) t);refine tQ.go m (t.mono (λ_ y=>y) λx y r c dd b B=>y r _ c dd ((Gr.ex s).trans (Gr.ex b)) (m.ex b) B) λk w H3 A p Q=>?_;have I3:=m.ex p;cases k with
  |int k=>
   simp only at A;split at A
   .next j hj=>
    cases Q;let⟨gr,I4⟩:=adE (us':=us.set j v) (ys:=xs.set j d) I3 m1 m2 L c1 (p _ _ R) (c3.ex p m.kd) c6 Y l4 l6 (((Z.ex p m.kd).set ((rv.ex J E.kd).ex p m.kd) j))
    refine⟨l,us,k,j,rfl,rfl,p _ _ l3,by rw[Z.length];exact hj,?_⟩;exact A q _ g ((Gr.ex (s.trans p)).trans gr) I4
   .exact awt A
  |_=>exact awt A
 .exact awt t
@[simp]def aau (ft:Ft) (f:Str) (o e:QF) (M:Mo) (c:Env):dB:=((o M c).at M).then c λg _=>match qw M g with
 |some (h,i)=>match i.fs.lookup f,ft.has i.cls f&&decide (i.fs.length<100) with
  | #[.int a],true=>((e M c).at M).then c λd _=>match d with
   |.int b=>.next c (M.set h (i.put f (.dat (.int (a+b)))))
   |_=>.bad
  |_,_=>.bad
 |none=>.bad
def aiI:InOp X .Add (λx y H Q=>∃i j,x=.int i/\y=.int j/\Q (.int (i+j)) H):=by
 intro a s d H x y u v Q I b c h;let⟨i,j,rfl,rfl,q⟩:=h
 exact iop_add a s d H _ _ u v Q I b c ⟨i,j,rfl,rfl,q⟩
def aj2{P:QF}{p:Pos}(co:jP X.K aj)(fk:PN ft aj)(ho:QW aj X W o fo)(he:QE aj X W e P):SE aj X W false (.AugAssign (.Attribute o f p) .Add e pos) (aau ft f fo P):=by
 refine PS.weak (ps_fldaug ho he aiI) λD q H ⟨g,ρ,M,I,z⟩=>?_;unfold aau at z;have k1:=Out.dY (cX (σ:=q) z);refine tW.go I (k1.mono (λ_ y=>y) λx y t c dd n N=>y t _ c dd (Gr.ex n) (I.ex n) N) λod u U k E ru=>?_;have l:=I.ex E;split at k
 .next h i hi=>
  split at k
  .next b J G=>
   rw[avh]at G;let⟨a,C,r,F,_,S,T,Q,rfl,Y,O,A,Z,c5,c6⟩:=Jc co fk l.wok ru hi G.1
   let⟨v,l1,L⟩:=A.get J
   refine⟨a,C,r,F,v,rfl,O,Z,c5,l1,?_⟩;have k:=Out.dY (cX (σ:=q) k);refine tQ.go l (k.mono (λ_ y=>y) λx y t c dd n N=>y t _ c dd ((Gr.ex E).trans (Gr.ex n)) (l.ex n) N) λd w H2 R s rd=>?_;have m:=l.ex s;cases d with
   |int j=>
    cases rd;have L:Rep X.K g U v (.int b):=L;cases L;refine⟨b,j,rfl,rfl,r,F,s _ _ O,?_,?_⟩
    .have:=awv G.2;rw[A.len];omega
    .have B:=Xm (f:=f) (C:=C) (dx:=r) (fs':=putF f (.int (b+j)) F) m.kd m.wok Q S T;have w':=m.wok.chg m.kd B Q S T c6 Y (A.ex s l.kd) awA (v:=.int (b+j)) (fl:=.dat (.int (b+j))) (show Rep X.K g _ _ _ from .int _);exact R q _ g ((Gr.ex (E.trans s)).trans B.gc.gr) (m.chg B w')
   |_=>exact awt R
  .exact awt k
 .exact awt k
end
mutual
def uU:Dat->Option NestedKey
 |.none=>some .none
 |.int i=>some (.num i)
 |.str x=>some (.text x)
 |.tuple a=>(zm a).map .tup
 |.bool _=>none
 |.list _=>none
 |.dict _=>none
def zm:List Dat->Option (List NestedKey)
 |[]=>some []
 |d::a=>(uU d).bind λk=>(zm a).bind λks=>some (k::ks)
end
mutual
theorem Df:∀{d:Dat} {k:NestedKey},uU d=some k->k.data=d
 |.none,_,h=>by cases h;rfl
 |.int i,_,h=>by cases h;rfl
 |.str x,_,h=>by cases h;rfl
 |.tuple ds,_,h=>by
  rw[uU,avU]at h;let⟨b,a,rfl⟩:=h
  rw[NestedKey.data,Vf a]
theorem Vf:∀{a:List Dat} {b:List NestedKey},zm a=some b->NestedKey.datas b=a
 |[],_,h=>by cases h;rfl
 |d::a,_,h=>by
  rw[zm]at h;obtain⟨k,c,h⟩;obtain⟨b,e,h⟩;cases h;rw[NestedKey.datas,Df c,Vf e]
end
mutual
theorem adR:∀a b:NestedKey,PyData.eqv a.data b.data=NestedKey.beq a b
 |.none,.none=>by simp[NestedKey.data,PyData.eqv,NestedKey.beq]
 |.none,.num _=>by simp[NestedKey.data,PyData.eqv,NestedKey.beq]
 |.none,.text _=>by simp[NestedKey.data,PyData.eqv,NestedKey.beq]
 |.none,.tup _=>by simp[NestedKey.data,PyData.eqv,NestedKey.beq]
 |.num _,.none=>by simp[NestedKey.data,PyData.eqv,NestedKey.beq]
 |.num a,.num b=>by simp[NestedKey.data,PyData.eqv,NestedKey.beq];rfl
 |.num _,.text _=>by simp[NestedKey.data,PyData.eqv,NestedKey.beq]
 |.num _,.tup _=>by simp[NestedKey.data,PyData.eqv,NestedKey.beq]
 |.text _,.none=>by simp[NestedKey.data,PyData.eqv,NestedKey.beq]
 |.text _,.num _=>by simp[NestedKey.data,PyData.eqv,NestedKey.beq]
 |.text a,.text b=>by simp[NestedKey.data,PyData.eqv,NestedKey.beq];rfl
 |.text _,.tup _=>by simp[NestedKey.data,PyData.eqv,NestedKey.beq]
 |.tup _,.none=>by simp[NestedKey.data,PyData.eqv,NestedKey.beq]
 |.tup _,.num _=>by simp[NestedKey.data,PyData.eqv,NestedKey.beq]
 |.tup _,.text _=>by simp[NestedKey.data,PyData.eqv,NestedKey.beq]
 |.tup as,.tup bs=>by
  rw[NestedKey.data,NestedKey.data,PyData.eqv,NestedKey.beq];exact aaO as bs
theorem aaO:∀as c:List NestedKey,PyData.eqvAll (NestedKey.datas as) (NestedKey.datas c)=NestedKey.beqAll as c
 |[],[]=>by simp[NestedKey.datas,PyData.eqvAll,NestedKey.beqAll]
 |[],_::_=>by simp[NestedKey.datas,PyData.eqvAll,NestedKey.beqAll]
 |_::_,[]=>by simp[NestedKey.datas,PyData.eqvAll,NestedKey.beqAll]
 |a::as,b::c=>by
  rw[NestedKey.datas,NestedKey.datas,PyData.eqvAll,NestedKey.beqAll,adR a b,aaO as c]
end
def aex(a b:NestedKey):PyData.eqv a.data b.data=decide (a=b):=by rw[adR,NestedKey.decide_eq]
section
variable{X:Cx}{pins:List (Addr×Obj)}{σ:L2.St}{H:Hp}{s:Shared}{g:Gh}
mutual
theorem key_is(I:L2.Inv X pins σ H s):∀{v:V} {d:Dat} {k:NestedKey} {u:Value},Rep X.K g H v d->uU d=some k->RelV v u->NestedIs s.heap k u
 |_,_,_,u,.non,e,r=>by
  cases e
  obtain rfl:u=.none:=r
  exact .none
 |_,_,_,_,.int i,e,r=>by
  cases e;let⟨t,rfl⟩:=r
  exact .int i t
 |_,_,_,_,.str x,e,r=>by
  cases e;let⟨t,rfl⟩:=r
  exact .text x t
 |_,_,_,u,.tup (a:=a) h t,e,r=>by
  rw[uU,avU]at e;let⟨p,l,rfl⟩:=e
  obtain rfl:u=.ref a:=r
  let⟨m,r1,⟨o,j,c,n,f⟩,_⟩:=I.tuple h
  exact .tup j c f (by simpa using aeh I t l r1)
 |_,_,_,_,.bl b,e,r=>by cases e
 |_,_,_,_,.lst _ _,e,r=>by cases e
 |_,_,_,_,.obj _,e,r=>by cases e
theorem aeh(I:L2.Inv X pins σ H s):∀{d:List V} {b:List Dat} {a:List NestedKey} {c:List Value},aC X.K g H d b->zm b=some a->Vals d c->NestedAll s.heap a c
 |_,_,_,_,.nil,e,r=>by
  cases e;cases r;exact .nil
 |_,_,_,_,.cons h t,e,r=>by
  rw[zm]at e;let⟨k,f,e⟩:=avn.mp e
  let⟨a,i,e⟩:=avn.mp e
  cases e;cases r with
  |cons r1 j=>exact .cons (key_is I h f r1) (aeh I t i j)
end
end
mutual
theorem aes:∀k:NestedKey,uU k.data=some k
 |.none=>rfl
 |.num _=>rfl
 |.text _=>rfl
 |.tup a=>by rw[NestedKey.data,uU,acd a];rfl
theorem acd:∀a:List NestedKey,zm (NestedKey.datas a)=some a
 |[]=>rfl
 |k::a=>by rw[NestedKey.datas,zm,aes k,acd a];rfl
end
def dhas:Bool->List (Dat×Dat)->Dat->Out Bool
 |false,kvs,.int i=>.ok (kvs.any λp=>PyData.eqv p.1 (.int i))
 |true,kvs,.tuple ds=>match uU (.tuple ds) with
  |some k=>match decide (k.depth<=8) with
   |true=>.ok (kvs.any λp=>PyData.eqv p.1 (.tuple ds))
   |false=>.bad
  |none=>.bad
 |_,_,_=>.bad
def Nz(M:Mo)(f:Str)(d:Dat):Option (Nat×Inst×Bool×List (Dat×Dat)):=(qw M d).bind λp=>match p.2.fs.lookup f with
 |some (.dic b kvs)=>some (p.1,p.2,b,kvs)
 |_=>none
section
variable{aj:aJ}{f:Str}
def Ke{K:ave}{g:Gh}{H:Hp}{M:Mo}{d:Dat}{v:V}{h:Nat}{i:Inst}{b:Bool}{c:List (Dat×Dat)}(y:jP K aj)(w:dH K aj g H M)(r:dJ K g H v d)(e:Nz M f d=some (h,i,b,c)) :
  ∃a C m j l,d=obj h/\M[h]?=some i/\i.cls≠""/\i.fs.lookup f=some (.dic b c)/\g.tbl[h]?=some a/\v=.ref a/\aj i.cls=some C/\H a=some (.ins C m j)/\bQ K aj g H h j i.fs/\Cls K C/\NoAttr K C f/\f∈aj.fl i.cls/\j.lookup f=some (.ref l)/\g.ow l=some (h,f)/\iU K aj g H l b c:=by
 unfold Nz at e;let⟨⟨I,J⟩,z,e⟩:=avn.mp e
 split at e
 .next G kvs' n=>
  cases e;let⟨rfl,o,p⟩:=Mg z
  let⟨a,rfl,t⟩:=Kh r
  let⟨C,m,j,q,x,s⟩:=w.ins _ a _ t o p
  have k:=w.fd _ _ o p f (lookup_mem n);let⟨A,B⟩:=y _ C f q k
  let⟨u,D,l,rfl,E,F⟩:=s.get n
  exact⟨a,C,m,j,l,rfl,o,p,n,t,rfl,q,x,s,A,B,k,D,E,F⟩
 .cases e
end
def Xn{b:List (Key×V)}{i:Int}:∀{a:List (Dat×Dat)},a.map (·.1)=b.map (λp=>keyD p.1)->(a.any λp=>PyData.eqv p.1 (.int i))=(valV b (Sum.inl i)).isSome:=by
 induction b with
 |nil=>
  intro a e;cases a with
  |nil=>rfl
  |cons _ _=>cases e
 |cons p r d=>
  intro a e;cases a with
  |nil=>cases e
  |cons q t=>
   simp![avj,List.cons.injEq]at e;rw[awc,d e.2,e.1];by_cases h:p.1=Sum.inl i
   .rw[valV_pos h,h];simp[keyD,PyData.eqv]
   .rw[valV_neg h];have:PyData.eqv (keyD p.1) (.int i)=false:=by
     cases c:p.1 with
     |inl j=>
      have:j≠i:=λz=>h (by rw[c,z]);simp[keyD,PyData.eqv,this]
     |inr x=>simp[keyD,PyData.eqv]
    rw[this,Bool.false_or]
def Ks{b:List nY}{k:NestedKey}:∀{a:List (Dat×Dat)},a.map (·.1)=b.map (λx=>x.1.data)->(a.any λp=>PyData.eqv p.1 k.data)=(atKey b k).isSome:=by
 induction b with
 |nil=>
  intro a e;cases a with
  |nil=>rfl
  |cons _ _=>cases e
 |cons p r c=>
  intro a e;cases a with
  |nil=>cases e
  |cons q t=>
   simp![avj,List.cons.injEq]at e;rw[awc,c e.2,e.1,aex];unfold atKey;rw[List.find?_cons];cases d:decide (p.1=k) with
   |true=>rfl
   |false=>rfl
def Jh{X:Cx}{b:List (Addr×Obj)}{A:L2.St}{H:Hp}{s:Shared}{g:Gh}{l:Addr}{o:Obj}{e:List nY}{k:List Dat}(I:L2.Inv X b A H s)(t:H l=some (jc l o))(c:lV X.w l o e)(u:k=e.map λx=>x.1.data)(y:aC X.K g H (e.map λx=>V.ref x.2.1) k) :
  s.heap.DictOfH (nestedKind X.prog X.w) l e:=by
 let⟨z,_,_⟩:=(show ObjOk X.prog X.w H s.heap l (jc l o) from I.hok l _ t)
 let⟨r,q,m,p⟩:=c.ent
 refine⟨o,r,q,z,c.ex,m,p,λx j=>?_,c.nd⟩;refine⟨?_,c.dep x j⟩;let⟨n,h⟩:=List.mem_iff_getElem?.mp j
 let⟨d,a,f⟩:=y.get' (i:=n) (v:=V.ref x.2.1) (by rw[avy,h];rfl)
 rw[u,avy,h]at a;cases a;exact key_is I f (aes x.1) rfl
def rInD(X:Cx)(neg:Bool):R2:=λx y H Q=>(∃l c i,y=.ref l/\H l=some (.dK c)/\x=.int i/\Q (.bl (neg ^^ (valV c (Sum.inl i)).isSome)) H)\/
 ∃(l:Addr) (o:Obj) (a:List nY) (g:Gh) (d:Dat) (b:Addr) (k:NestedKey),y=.ref l/\H l=some (jc l o)/\lV X.w l o a/\aC X.K g H (a.map λx=>V.ref x.2.1) (a.map λx=>x.1.data)/\x=.ref b/\Rep X.K g H x d/\uU d=some k/\k.depth<=8/\Q (.bl (neg ^^ (atKey a k).isSome)) H
section
variable{X:Cx}
def op_inD(B:X.A.units+64<cLine):OpR X (compareOp .In) (rInD X false):=by
 intro c s E H x y v u Q I e f h;rcases h with⟨l,C,i,rfl,z,rfl,q⟩|⟨l,o,D,g,d,b,k,rfl,m,a,n,rfl,p,r,t,q⟩
 .obtain rfl:u=Value.ref l:=f
  exact d_in #[] I (DGet.k (k:=Sum.inl i) z) e λs' j=>⟨.bl _,H,j,rfl,by simpa using q⟩
 .obtain rfl:u=Value.ref l:=f
  obtain rfl:v=Value.ref b:=e
  refine wpAny_in_heap (knd:=nestedKind X.prog X.w) (k:=k) (show X.A.in1.units+8<cLine by show X.A.units+1+8<cLine;omega) ⟨key_is I p r rfl,t⟩ a.sys (Jh I m a rfl n) ?_;exact⟨.bl _,H,I.tok _,rfl,by simpa using q⟩
def op_notInD(C:X.A.units+64<cLine):OpR X (compareOp .NotIn) (rInD X true):=by
 intro c s E H x y v u Q I e f h;rcases h with⟨l,D,i,rfl,z,rfl,q⟩|⟨l,o,B,g,d,b,k,rfl,m,a,n,rfl,p,r,t,q⟩
 .obtain rfl:u=Value.ref l:=f
  exact d_notIn #[] I (DGet.k (k:=Sum.inl i) z) e λs' j=>⟨.bl _,H,j,rfl,by simpa using q⟩
 .obtain rfl:u=Value.ref l:=f
  obtain rfl:v=Value.ref b:=e
  refine notIn_keyed (knd:=nestedKind X.prog X.w) (k:=k) (show X.A.in1.units+8<cLine by show X.A.units+1+8<cLine;omega) ⟨key_is I p r rfl,t⟩ a.sys ⟨B,Jh I m a rfl n,rfl⟩ ?_;rw[valueAt_pairsH,Option.isSome_map];exact⟨.bl _,H,I.tok _,rfl,by simpa using q⟩
end
@[simp]def Yv (neg:Bool) (f:Str) (k o:QF) (M:Mo) (a:Env):Out Dat:=(k M a).bind λd=>(o M a).bind λc=>match Nz M f c with
 |some (_,_,b,kvs)=>(dhas b kvs d).bind λr=>.ok (.bool (neg ^^ r))
 |none=>.bad
section
variable{X:Cx}{aj:aJ}{W:WX}{o k:Expr}{f:Str}{pos p1:Pos}{fo fk:QF}{neg:Bool}{op:CmpOp}
def ajt(F:jP X.K aj)(hw:aj.w=X.w)(y:L2.St)(H:Hp)(Q:VK)(h:tQ X.K aj W (Yv neg f fk fo) y H Q):tOp (rInD X neg) (tQ X.K aj W fk) (tFld X.K (tW X.K aj W fo) f) y H Q:=by
 let⟨g,ρ,M,I,h⟩:=h
 refine tQ.go I h.bnd λd v H1 N j r1=>?_;have p:=I.ex j;refine tW.go p (N.bnd.mono (λ_ z=>z) λ_ z=>z.ex j) λod u s c m r2=>?_;have A:=p.ex m;split at c
 .next hh i b kvs O=>
  let⟨a,C,G,L,l,rfl,m1,m2,ml,ha,rfl,c1,B,c3,D,E,c6,Y,l2,x⟩:=Ke F A.wok r2 O
  refine⟨a,C,G,L,.ref l,rfl,B,D,E,Y,?_⟩;have e:=r1.ex m p.kd;unfold dhas at c;split at c
  .next S=>
   let⟨U,q,n,r⟩:=x
   cases e;refine .inl ⟨l,U,S,rfl,q,rfl,?_⟩;rw[Xn n]at c;exact c _ s (j.trans m) (.bl _)
  .next ds=>
   split at c
   .next T hk=>
    split at c
    .next hdep=>
     let⟨Z,xs,vs,q,n,r,t,k5,k6⟩:=x
     have J:=Df hk;rw[<-J,Ks r]at c;rw[r]at t;rw[hw]at n;cases e with
     | @tup b us _ P R=>exact .inr ⟨l,Z,xs,g,_,b,T,rfl,q,n,t,rfl,.tup P R,hk,awv hdep,c _ s (j.trans m) (.bl _)⟩
    .exact awt c
   .exact awt c
  .exact awt c
 .exact awt c
def anQ(a:jP X.K aj)(hw:aj.w=X.w)(d:OpR X (compareOp op) (rInD X neg))(hk:QE aj X W k fk)(c:QW aj X W o fo)(b:baseOk o=true):QE aj X W (.Compare k [op] [.Attribute o f p1] pos) (Yv neg f fk fo):=
 PE.weak (pe_cmpR d hk (pe_fld c (jy b)) (by cases op<;>rfl)) λσ H Q h=>ajt a hw σ H Q h
end
def DPx(X:Cx)(H:Hp)(a:Addr)(y v:V)(R:Hp->Prop):Prop:=(∃c i,H a=some (.dK c)/\y=.int i/\c.length<sizeLine/\R (upd H a (.dK (putK c (Sum.inl i) v))))\/
 ∃(o:Obj) (e:List nY) (g:Gh) (d:Dat) (b:Addr) (k:NestedKey),H a=some (jc a o)/\lV X.w a o e/\aC X.K g H (e.map λx=>V.ref x.2.1) (e.map λx=>x.1.data)/\y=.ref b/\Rep X.K g H y d/\uU d=some k/\k.depth<=8/\e.length<sizeLine/\∀(f:Obj) (u:Value),RelV v u->lV X.w a f (storedH e k b u)->R (upd H a (jc a f))
def PB{P:Program}{w:World}{H:Hp}{h:Heap}{l:Addr}{o:Obj}(e:h.get? l=some o):ObjOk P w H h l (jc l o):=⟨e,⟨o,e⟩,λ_ _ a k=>k _ a⟩
def adp{a:List nY}{k:NestedKey}{b:Addr}{u:Value}:(storedH a k b u).map (·.1)=if (atKey a k).isSome then a.map (·.1) else a.map (·.1)++[k]:=by
 unfold storedH;split
 .rw[avK];refine List.map_congr_left λx _=>?_
  show(putAt k u x).1=x.1
  unfold putAt
  split<;>rfl
 .simp
def Wh{xs:List nY}{k:NestedKey}{b:Addr}{u:Value}:(storedH xs k b u).length<=xs.length+1:=by
 unfold storedH
 split<;>simp
def V4{c:List nY}{k:NestedKey}{b:Addr}{u:Value}(h:∀x∈c,x.1.depth<=8)(hk:k.depth<=8):∀x∈storedH c k b u,x.1.depth<=8:=λx d=>by
 have:x.1∈(storedH c k b u).map (·.1):=avr.mpr ⟨x,d,rfl⟩;rw[adp]at this;have a:∀{z:NestedKey},z∈c.map (·.1)->z.depth<=8:=λ{z} m=>by
  let⟨y,e,rfl⟩:=avr.mp m
  exact h y e
 split at this
 .exact a this
 .rcases avz.mp this with z|z
  .exact a z
  .rw[avp.mp z];exact hk
section
variable{X:Cx}{o i value:Expr}{td ty tv:TE}{pos pos':Pos}
def arL(X:Cx)(td ty tv:TE):TS:=λD b H=>tv b H λv c=>td b c λx d=>ty b d λy e=>∃a,x=.ref a/\DPx X e a y v λH4=>D.nx b H4
def aic(hu:X.A.units+64<cLine)(ho:PE X o td)(hi:PE X i ty)(hv:PE X value tv)(hs:swapsWith value (some (.Subscript o i pos')) pos.line X.env=pure false):PS X (.Assign [.Subscript o i pos'] value pos) (arL X td ty tv):=by
 refine⟨λpins s c H D I h=>?_⟩;refine wpAny_Assign_Subscript (thn (hv.run pins s c H _ I h) λr s1 ⟨v,F,J,C,q1⟩=>thn (ho.run pins s1 c F _ J q1) λu s2 ⟨x,G,L,rx,q2⟩=>thn (hi.run pins s2 c G _ L q2) λiv s3 ⟨y,H3,e,E,a,Q,q3⟩=>?_) hs;subst Q
 obtain rfl:u=Value.ref a:=rx
 rcases q3 with⟨kvs,j,f,rfl,m,q⟩|⟨ob,t,g,d,b,k,f,l,Y,rfl,Z,h5,B,m,q⟩
 .exact d_setItem #[] e (DPut.k (k:=Sum.inl j) f m) E C λs4 M=>⟨c,_,M,q⟩
 .obtain rfl:iv=Value.ref b:=E
  refine wpAny_setItem_heap (knd:=nestedKind X.prog X.w) (k:=k) (hsz:=Nat.le_of_lt m) (show X.A.in1.units+8<cLine by show X.A.units+1+8<cLine;omega) ⟨key_is e Z h5 rfl,B⟩ (Jh e f l rfl Y) λh' dd n=>?_;let⟨p,O,N,z,R,S,U,g5,W⟩:=dd
  have nd:lV X.w a p (storedH t k b r):=⟨l.sys,R,⟨O,N,S,U⟩,W,by have:=Wh (xs:=t) (k:=k) (b:=b) (u:=r);omega,V4 l.dep B⟩;exact⟨c,_,d_write e (by rw[f];exact True.intro) n ⟨p,z⟩ (PB z),q p r C nd⟩
end
def aC.back{K:ave}{g:Gh}{H:Hp}{b:List V}{a:List Dat}{v:V}{d:Dat}(h:aC K g H b a)(r:Rep K g H v d):aC K g H (b++[v]) (a++[d]):=h.append (.cons r .nil)
def QH{K:ave}{aj:aJ}{f:Str}{s:L2.St}{r:Env}{g:Gh}{H:Hp}{M:Mo}{h:Nat}{i:Inst}{b:Bool}{kvs':List (Dat×Dat)}{a C e l:Addr}{j:LsS V}{o':HO}(I:SInv K aj s H g r M)(p:M[h]?=some i)(q:i.cls≠"")(o:g.tbl[h]?=some a)(t:aj i.cls=some C)(u:H a=some (.ins C e j))(w:bQ K aj g H h j i.fs)(k:f∈aj.fl i.cls)(x:j.lookup f=some (.ref l))(d:g.ow l=some (h,f))(y:KH o')
  (m:Gr false g g H (upd H l o')->iU K aj g (upd H l o') l b kvs'):Gr false g g H (upd H l o')/\SInv K aj s (upd H l o') g r (M.set h (i.put f (.dic b kvs'))):=by
 have c:=agF (o':=o') I.kd I.wok d y;have n:a≠l:=λz=>by
  subst z;rw[I.wok.tw h a i o p q]at d;cases d
 have A:=I.wok.chg I.kd c o p q k t (dx:=e) w (v:=.ref l) (fl:=.dic b kvs') (by rw[upd_ne n,Ou x];exact u) ⟨l,rfl,d,m c.gc.gr⟩;exact⟨c.gc.gr,I.chg c A⟩
@[simp]def Ww (f:Str) (o k e:QF) (M:Mo) (a:Env):dB:=((e M a).at M).then a λv _=>((o M a).at M).then a λc _=>match Nz M f c with
 |some (h,i,b,kvs)=>((k M a).at M).then a λd _=>match dhas b kvs d,decide (kvs.length<100000) with
  |.ok false,true=>.next a (M.set h (i.put f (.dic b (kvs++[(d,v)]))))
  |_,_=>.bad
 |none=>.bad
@[simp]def Wd (f:Str) (o k:QF) (M:Mo) (a:Env):dB:=((o M a).at M).then a λc _=>match Nz M f c with
 |some (h,i,b,kvs)=>((k M a).at M).then a λd _=>match dhas b kvs d,decide (kvs.length<=100000) with
  |.ok true,true=>.next a (M.set h (i.put f (.dic b (kvs.filter λp=>!PyData.eqv p.1 d))))
  |_,_=>.bad
 |none=>.bad
def Yj{a:List (Dat×Dat)}{b r:Bool}{d:Dat}(h:dhas b a d=.ok r):(a.any λp=>PyData.eqv p.1 d)=r/\((b=false/\∃i,d=.int i)\/(b=true/\∃c k,d=.tuple c/\uU d=some k/\k.depth<=8)):=by
 unfold dhas at h;left
 .next i=>
  cases h;exact⟨rfl,.inl ⟨rfl,i,rfl⟩⟩
 .next c=>
  left
  .next k hk=>
   left
   .next e=>
    cases h;exact⟨rfl,.inr ⟨rfl,c,k,rfl,hk,awv e⟩⟩
   .cases h
  .cases h
 .cases h
section
variable{X:Cx}{aj:aJ}{W:WX}{o e i:Expr}{f:Str}{pos pos' p1:Pos}{fo fe fk:QF}
def alJ(co:jP X.K aj)(hw:aj.w=X.w)(hu:X.A.units+64<cLine)(ho:QW aj X W o fo)(hb:baseOk o=true)(hk:QE aj X W i fk)(he:QE aj X W e fe)(hs:swapsWith e (some (.Subscript (.Attribute o f p1) i pos')) pos.line X.env=pure false) :
  SE aj X W false (.Assign [.Subscript (.Attribute o f p1) i pos'] e pos) (Ww f fo fk fe):=by
 refine PS.weak (aic hu (pe_fld ho (jy hb)) hk he hs) λD t H ⟨g,ρ,M,I,z⟩=>?_;unfold Ww at z;have k1:=Out.dY (cX (σ:=t) z);refine tQ.go I (k1.mono (λ_ y=>y) λx y J c dd s U=>y J _ c dd (Gr.ex s) (I.ex s) U) λd v H1 k2 e1 rv=>?_;have Z:=I.ex e1;have k2:=Out.dY (cX (σ:=t) k2);refine tW.go Z (k2.mono (λ_ y=>y) λx y J c dd s U=>y J _ c dd ((Gr.ex e1).trans (Gr.ex s)) (Z.ex s) U) λod u H2 P e2 ru=>?_;have q:=Z.ex e2;have B:=e1.trans e2;split at P
 .next h i' b kvs hl=>
  let⟨a,C,dx,fs,l,rfl,m1,m2,ml,ha,rfl,c1,c2,c3,c4,c5,c6,l1,l2,l3⟩:=Ke co q.wok ru hl
  refine⟨a,C,dx,fs,.ref l,rfl,c2,c4,c5,l1,?_⟩;have P:=Out.dY (cX (σ:=t) P);refine tQ.go q (P.mono (λ_ y=>y) λx y J c dd s U=>y J _ c dd ((Gr.ex B).trans (Gr.ex s)) (q.ex s) U) λkd w H3 k4 p rk=>?_;have r:=q.ex p;have R:=l3.ex p q.kd;have T:=(rv.ex e2 Z.kd).ex p q.kd;refine⟨l,rfl,?_⟩;split at k4
  .next hh hz=>
   let⟨k,E⟩:=Yj hh
   have hz:=awv hz;rcases E with⟨rfl,j,rfl⟩|⟨rfl,ds,kk,rfl,N,L⟩
   .let⟨Q,q1,F,G⟩:=R
    cases rk;have n:Q.length=kvs.length:=by have:=congrArg List.length F;simpa using this.symm
    rw[Xn F]at k;have hn:valV Q (Sum.inl j)=none:=by
     cases hv:valV Q (Sum.inl j) with
     |none=>rfl
     |some _=>rw[hv]at k;cases k
    refine .inl ⟨Q,j,q1,rfl,sz_lt (by rw[n];exact hz),?_⟩;rw[putK_new v hn];let⟨m,I4⟩:=QH (b:=false) (kvs':=kvs++[(.int j,d)]) (o':=.dK (Q++[(Sum.inl j,v)])) r m1 m2 ha c1 (p _ _ c2) (c3.ex p q.kd) c6 l1 l2 awr λm=>⟨_,awA,by simp[F,keyD],by
     rw[avN,avN];exact(G.gr m r.kd).back (T.gr m r.kd)⟩
    exact k4 t _ g ((Gr.ex (B.trans p)).trans m) I4
   .let⟨o',Y,vs,q1,F,G,q4,q5,q6⟩:=R
    have n:Y.length=kvs.length:=by have:=congrArg List.length G;simpa using this.symm
    have ek:=Df N;rw[<-ek,Ks G]at k;have hn:atKey Y kk=none:=by
     cases hv:atKey Y kk with
     |none=>rfl
     |some _=>rw[hv]at k;cases k
    have S:=q4;rw[G]at S;rw[hw]at F;cases rk with
    | @tup bb us _ O ht=>
     refine .inr ⟨o',Y,g,_,bb,kk,q1,F,S,rfl,.tup O ht,N,L,sz_lt (by rw[n];exact hz),λo2 u2 ru2 nd=>?_⟩;rw[storedH_new hn]at nd;let⟨m,I4⟩:=QH (b:=true) (kvs':=kvs++[(.tuple ds,d)]) (o':=jc l o2) r m1 m2 ha c1 (p _ _ c2) (c3.ex p q.kd) c6 l1 l2 awr λm=>⟨o2,Y++[(kk,bb,u2)],vs++[v],awA,by rw[hw];exact nd,by simp[G,ek],by
      rw[avN,avN];exact(q4.gr m r.kd).back ((Rep.tup O ht).gr m r.kd),by
      rw[avN];exact q5.append (.cons ru2 .nil),by
      rw[avN];exact(q6.gr m r.kd).back (T.gr m r.kd)⟩
     exact k4 t _ g ((Gr.ex (B.trans p)).trans m) I4
  .exact awt k4
 .exact awt P
end
section
variable{X:Cx}{o i:Expr}{td ty:TE}{pos tpos:Pos}
def arR(X:Cx)(td ty:TE):TS:=λD h H=>td h H λx l=>ty h l λy e=>∃a,x=.ref a/\((∃c i,e a=some (.dK c)/\y=.int i/\(valV c (Sum.inl i)).isSome=true/\D.nx h (upd e a (.dK (dropK c (Sum.inl i)))))\/
 ∃(o:Obj) (f:List nY) (g:Gh) (d:Dat) (b:Addr) (k:NestedKey),e a=some (jc a o)/\lV X.w a o f/\aC X.K g e (f.map λx=>V.ref x.2.1) (f.map λx=>x.1.data)/\y=.ref b/\Rep X.K g e y d/\uU d=some k/\k.depth<=8/\(atKey f k).isSome=true/\∀(j:Obj),lV X.w a j (withoutH f k)->D.nx h (upd e a (jc a j)))
def aiS(hu:X.A.units+64<cLine)(T:PE X o td)(S:PE X i ty):PS X (.Delete [.Subscript o i tpos] pos) (arR X td ty):=by
 refine⟨λpins s l H D I h=>?_⟩;refine wpAny_Delete (wpAny_deleteEach_cons (wpAny_delete_Subscript (thn (T.run pins s l H _ I h) λu s1 ⟨x,z,B,rx,q1⟩=>thn (S.run pins s1 l z _ B q1) λiv s2 ⟨y,H2,e,v,a,G,q2⟩=>?_)));subst G
 obtain rfl:u=Value.ref a:=rx
 rcases q2 with⟨Z,j,f,rfl,m,q⟩|⟨ob,xs,g,d,b,k,f,c,O,rfl,P,Q,R,m,q⟩
 .exact d_delItem (k:=Sum.inl j) e f v m λs3 C=>wpAny_deleteEach_nil ⟨l,_,C,q⟩
 .obtain rfl:iv=Value.ref b:=v
  let⟨p,U⟩:=Option.isSome_iff_exists.mp m
  refine wpAny_delItem_heap (knd:=nestedKind X.prog X.w) (k:=k) (hsz:=c.len) (show X.A.in1.units+8<cLine by show X.A.units+1+8<cLine;omega) ⟨key_is e P Q rfl,R⟩ c.sys (Jh e f c rfl O) U λh' dd n=>?_;let⟨r,F,E,t,J,L,M,g5,N⟩:=dd
  have nd:lV X.w a r (withoutH xs k):=⟨c.sys,J,⟨F,E,L,M⟩,N,avH (avD _ _) c.len,λx Y=>c.dep x (avF.mp Y).1⟩;exact wpAny_deleteEach_nil ⟨l,_,d_write e (by rw[f];exact True.intro) n ⟨r,t⟩ (PB t),q r nd⟩
end
theorem Ug{b d:Type}(f:b->d)(c:b->Bool):∀l:List b,(((l.map f).zip l).filter λp=>c p.2).map (·.1)=(l.filter c).map f
 |[]=>rfl
 |a::l=>by
  rw[avj,awa,av6,av6];cases c a
  .exact Ug f c l
  .simp![if_true,avj,Ug f c l]
theorem ajV{K:ave}{g:Gh}{H:Hp}(b:NestedKey):∀{d:List nY} {l:List V} {a:List (Dat×Dat)},a.map (·.1)=d.map (λx=>x.1.data)->aC K g H (d.map λx=>V.ref x.2.1) (a.map (·.1))->Vals l (d.map (·.2.2))->aC K g H l (a.map (·.2))->
  ∃c,(a.filter λp=>!PyData.eqv p.1 b.data).map (·.1)=(withoutH d b).map (λx=>x.1.data)/\aC K g H ((withoutH d b).map λx=>V.ref x.2.1) ((a.filter λp=>!PyData.eqv p.1 b.data).map (·.1))/\Vals c ((withoutH d b).map (·.2.2))/\aC K g H c ((a.filter λp=>!PyData.eqv p.1 b.data).map (·.2))
 |[],_,[],_,_,.nil,_=>⟨[],rfl,.nil,.nil,.nil⟩
 |[],_,_::_,h,_,_,_=>by cases h
 |_::_,_,[],h,_,_,_=>by cases h
 |x::d,_,q::qs,e,.cons r1 t1,.cons w1 w2,.cons r2 t2=>by
  simp![avj,List.cons.injEq]at e;let⟨c,f,i,j,k⟩:=ajV b e.2 t1 w2 t2
  have m:(!PyData.eqv q.1 b.data)=decide (x.1≠b):=by rw[e.1,aex];by_cases n:x.1=b<;>simp[n]
  unfold withoutH;rw[av6,av6,m];cases o:decide (x.1≠b) with
  |true=>exact⟨_::c,by simp![if_true,avj,e.1];exact congrArg _ f,by simp![if_true,avj];exact .cons r1 i,by simp![if_true,avj];exact .cons w1 j,by simp![if_true,avj];exact .cons r2 k⟩
  |false=>
   simp![avR,if_false];exact⟨c,f,i,j,k⟩
theorem anA{K:ave}{g:Gh}{H:Hp}{b:Type}(c:b->Bool)(a:b->Dat)(dd:Dat->Bool):∀{vs:List V} {kvs:List (Dat×Dat)} {xs:List b},(∀x∈xs,c x=dd (a x))->kvs.map (·.1)=xs.map a->vs.length=xs.length->aC K g H vs (kvs.map (·.2))->
  (kvs.filter λp=>dd p.1).map (·.1)=(xs.filter c).map a/\aC K g H (((vs.zip xs).filter λp=>c p.2).map (·.1)) ((kvs.filter λp=>dd p.1).map (·.2))
 |[],[],[],_,_,_,_=>⟨rfl,.nil⟩
 |[],[],_::_,_,h,_,_=>by cases h
 |[],_::_,_,_,_,_,h=>by cases h
 |_::_,[],_,_,_,_,h=>by cases h
 |_::_,_::_,[],_,h,_,_=>by cases h
 |u::us,q::qs,x::xs,hc,hk,i,.cons h t=>by
  simp![avj,List.cons.injEq]at hk;have d:=hc x avl;rw[<-hk.1]at d;let⟨e,f⟩:=anA c a dd (λy j=>hc y (avk _ j)) hk.2 (awq i) t
  rw[awa,av6,av6,av6,d];cases k:dd q.1 with
  |true=>exact⟨by simp![if_true,avj,e,hk.1],by simp![if_true,avj];exact .cons h f⟩
  |false=>exact⟨by simpa using e,by simpa using f⟩
section
variable{X:Cx}{aj:aJ}{W:WX}{o i:Expr}{f:Str}{pos tpos p1:Pos}{fo fk:QF}
def aly(co:jP X.K aj)(hw:aj.w=X.w)(hu:X.A.units+64<cLine)(ho:QW aj X W o fo)(hb:baseOk o=true)(hk:QE aj X W i fk):SE aj X W false (.Delete [.Subscript (.Attribute o f p1) i tpos] pos) (Wd f fo fk):=by
 refine PS.weak (aiS hu (pe_fld ho (jy hb)) hk) λD B H ⟨g,ρ,M,I,z⟩=>?_;unfold Wd at z;have k2:=Out.dY (cX (σ:=B) z);refine tW.go I (k2.mono (λ_ y=>y) λx y s c dd E rx=>y s _ c dd (Gr.ex E) (I.ex E) rx) λod u H2 J P ru=>?_;have n:=I.ex P;split at J
 .next h i' b kvs hl=>
  let⟨a,C,dx,fs,l,rfl,m1,m2,ml,ha,rfl,c1,S,c3,c4,c5,c6,Y,l2,l3⟩:=Ke co n.wok ru hl
  refine⟨a,C,dx,fs,.ref l,rfl,S,c4,c5,Y,?_⟩;have J:=Out.dY (cX (σ:=B) J);refine tQ.go n (J.mono (λ_ y=>y) λx y s c dd E rx=>y s _ c dd ((Gr.ex P).trans (Gr.ex E)) (n.ex E) rx) λkd w H3 Q m rk=>?_;have t:=n.ex m;have L:=l3.ex m n.kd;refine⟨l,rfl,?_⟩;split at Q
  .next hh hz=>
   let⟨e,q⟩:=Yj hh
   rcases q with⟨rfl,j,rfl⟩|⟨rfl,ds,U,rfl,G,F⟩
   .let⟨k,q1,N,v⟩:=L
    cases rk;rw[Xn N]at e;refine .inl ⟨k,j,q1,rfl,e,?_⟩;have hf:=λ(s:Hp)(r:aC X.K g s (k.map (·.2)) (kvs.map (·.2)))=>anA (K:=X.K) (g:=g) (H:=s) (λp:Key×V=>decide (p.1≠Sum.inl j)) (λp=>keyD p.1) (λz=>!PyData.eqv z (.int j)) (vs:=k.map (·.2)) (kvs:=kvs) (xs:=k) (λx _=>by
     cases hx:x.1 with
     |inl z=>by_cases hz:z=j<;>simp[keyD,PyData.eqv,hz]
     |inr z=>simp[keyD,PyData.eqv]) N (by simp) r
    have ez:(((k.map (·.2)).zip k).filter λp=>decide (p.2.1≠Sum.inl j)).map (·.1)=(dropK k (Sum.inl j)).map (·.2):=Ug (·.2) (λp:Key×V=>decide (p.1≠Sum.inl j)) k;let⟨d,R⟩:=QH (b:=false) (kvs':=kvs.filter λp=>!PyData.eqv p.1 (.int j)) (o':=.dK (dropK k (Sum.inl j))) t m1 m2 ha c1 (m _ _ S) (c3.ex m n.kd) c6 Y l2 awr λd=>⟨_,awA,(hf _ (v.gr d t.kd)).1,by
     rw[<-ez];exact(hf _ (v.gr d t.kd)).2⟩
    exact Q B _ g ((Gr.ex (P.trans m)).trans d) R
   .let⟨Z,xs,vs,q1,N,v,q4,q5,q6⟩:=L
    have ek:=Df G;rw[<-ek,Ks v]at e;rw[hw]at N;have O:=q4;rw[v]at O;cases rk with
    | @tup bb us _ T ht=>
     refine .inr ⟨Z,xs,g,_,bb,U,q1,N,O,rfl,.tup T ht,G,F,e,λo2 nd=>?_⟩;let⟨d,R⟩:=QH (b:=true) (kvs':=kvs.filter λp=>!PyData.eqv p.1 (.tuple ds)) (o':=jc l o2) t m1 m2 ha c1 (m _ _ S) (c3.ex m n.kd) c6 Y l2 awr λd=>by
      let⟨vs',i1,i2,i3,i4⟩:=ajV U v (q4.gr d t.kd) q5 (q6.gr d t.kd)
      rw[ek]at i1 i2 i4;exact⟨o2,withoutH xs U,vs',awA,by rw[hw];exact nd,i1,i2,i3,i4⟩
     exact Q B _ g ((Gr.ex (P.trans m)).trans d) R
  .exact awt Q
 .exact awt J
end
def ItD(l:Addr)(o:Obj)(a:List nY):It:=
 ⟨λi H=>H l=some (jc l o)/\i<a.length,λi H x b=>b=H/\∃e,a[i]?=some e/\x=.ref e.2.1,λi H=>H l=some (jc l o)/\a.length<=i⟩
def pin_at{X:Cx}{a:List (Addr×Obj)}{b:L2.St}{H:Hp}{s:Shared}{l:Addr}{o:Obj}(I:L2.Inv X a b H s)(h:H l=some (jc l o)):s.heap.get? l=some o:=(show ObjOk X.prog X.w H s.heap l (jc l o) from I.hok l _ h).1
theorem lV.at{w:World}{l:Addr}{o:Obj}{b:List nY}{a:Array DictEntry}{f:Nat}(n:lV w l o b)(h:o.data=.dict a f):a.size=b.length/\∀(i:Nat) (e:nY),b[i]?=some e->∃en,a[i]?=some en/\en.key=.ref e.2.1:=by
 let⟨j,g,c,d⟩:=n.ent
 rw[h]at c;cases c;refine⟨?_,λi e k=>⟨ahJ w e,?_,rfl⟩⟩
 .have:=congrArg List.length d;simpa using this
 .rw[<-av0,d,avy,k];rfl
def aqc{P:Program}{w:World}{K:ave}{tg:Expr}{l:Addr}{o:Obj}{xs:List nY}{es:Array DictEntry}{ep:Nat}(it:Addr)(n:lV w l o xs)(hod:o.data=.dict es ep):Turn P w K tg (ItD l o xs) [it] it (λi h=>h.IsKeyIter it l i xs.length ep) where
 mem:=avp.mpr rfl
 obj:=λi h st b hb=>by
  cases avp.mp hb;let⟨oi,e,c,dd⟩:=st
  refine⟨oi,e,λv z=>?_⟩;rw[dd]at z;cases z
 keep:=λi h h' st k=>st.at (k it (avp.mpr rfl))
 item:=by
  intro X hP hw hK hc i pins s σ H E I hf st hg;subst hP hw hK;let⟨g0,g1,g2,g3,g4,g5⟩:=hf it (avp.mpr rfl)
  let⟨sz,ent⟩:=n.at hod
  have hlt:i<xs.length:=hg.2;have hx:xs[i]?=some xs[i]:=avi hlt;let⟨en,e1,e2⟩:=ent i _ hx
  refine next_key_item st (pin_at I hg.1) hod sz e1 ?_;intro h' st' sb;have J:L2.Inv X pins σ H { s with heap:=h' }:=I.turned (t':=s.toks) (λb ob hb e=>(sb.2 b hb).trans e) g0 g1 g3 g4 g5;let⟨oi,a1,a2,a3⟩:=id st'
  exact⟨en.key,rfl,go_of (s:={ s with heap:=h' }) a1 a2 a3 #[()] ⟨.ref xs[i].2.1,H,J,e2,⟨rfl,_,hx,rfl⟩,st',λb hb=>(hf b hb).1⟩⟩
 done:=by
  intro X hP hw hK hc i pins s σ H E I hf st hg;subst hP hw hK;let⟨g0,g1,g2,g3,g4,g5⟩:=hf it (avp.mpr rfl)
  exact next_key_end (I.ok.hd hc) st (pin_at I hg.1) hod (n.at hod).1 hg.2 λh' eb=>⟨rfl,I.turned (t':=s.toks) (λb ob hb e=>eb b ob hb e) g0 g1 g3 g4 g5⟩
 self:=λA i s Q E st h=>by
  refine wpAny_pyIter_slot st.typeIs PySem.F.slot_dict_keyiterator_iter (wpAny_call_entry PySem.F.slot_dict_keyiterator_iter st.typeIs PySem.F.entry_dict_keyiterator_iter ?_ (PySem.F.args_dict_keyiterator_iter_1 _));exact awx ⟨_,rfl,"dict_keyiterator",_,st.typeIs,PySem.F.slot_dict_keyiterator_next.lookup,h⟩
def arN(X:Cx)(c:TE):TI:=λσ H R=>c σ H λx a=>∃l o b,x=.ref l/\a l=some (jc l o)/\lV X.w l o b/\R (ItD l o b) a
def an4{X:Cx}{tg e:Expr}{d:TE}(f:PE X e d):PI X tg e (arN X d):=by
 constructor;intro a s k H R I h;refine thn (f.run a s k H _ I h) ?_;rintro u j ⟨x,m,c,i,l,o,v,rfl,g,n,q⟩
 obtain rfl:u=Value.ref l:=i
 let⟨r,p,b,_⟩:=n.ent
 refine iter_keys n.sys (pin_at c g) n.ex b (pi_one (tk:=j.toks) c _ (aqc _ n b) ⟨_,Heap.get?_push_size _ rfl,rfl,?_⟩ q);rw[(n.at b).1]<;>rfl
def akn{K:ave}{aj:aJ}{l:Addr}{o:Obj}{xs:List nY}{ks:List Dat}:Mx K (ItD l o xs) (λg H=>H l=some (jc l o)/\aC K g H (xs.map λx=>V.ref x.2.1) ks) ks where
 go:=λg i H c hi=>⟨c.1,by have:=c.2.length;simp at this;omega⟩
 yld:=λg i H x H' d k c e y=>by
  let⟨rfl,en,h1,rfl⟩:=y
  let⟨v,h2,h3⟩:=c.2.get e
  rw[avy,h1]at h2;cases h2;exact⟨Ex.refl _,h3⟩
 stop:=λg i H c e=>⟨c.1,by have:=c.2.length;simp at this;omega⟩
 ex:=λg H H' k c e=>⟨e _ _ c.1,c.2.ex e k⟩
 add:=λg g' H H' k c r e=>⟨e _ _ c.1,c.2.gr r k⟩
@[simp]def Ka (f:Str) (o:QF) (M:Mo) (b:Env):Out (List Dat):=(o M b).bind λa=>match Nz M f a with
 |some (_,_,true,kvs)=>.ok (kvs.map (·.1))
 |_=>.bad
@[simp]def J5 (f:Str) (o:QF) (M:Mo) (b:Env):Out Dat:=(o M b).bind λa=>match Nz M f a with
 |some (_,_,_,kvs)=>.ok (.list (kvs.map (·.1)))
 |none=>.bad
section
variable{X:Cx}{aj:aJ}{W:WX}{o tg:Expr}{f:Str}{pos p p1:Pos}{fo:QF}
def aiN(r:jP X.K aj)(hw:aj.w=X.w)(B:QW aj X W o fo)(y:baseOk o=true):QI aj X W false tg (.Attribute o f p1) (Ka f fo):=by
 have x:=an4 (tg:=tg) (pe_fld (X:=X) (pos:=p1) (f:=f) B (jy y));refine⟨λpins s N H R I h=>x.run pins s N H R I ?_⟩;let⟨g,ρ,M,J,h⟩:=h
 unfold Ka at h;refine tW.go J h.bnd λod u j b c G=>?_;have k:=J.ex c;split at b
 .next h i kvs A=>
  let⟨a,C,t,v,l,rfl,U,Y,Z,S,rfl,O,m,P,n,q,Q,D,T,E,L,vs,d,e,q3,F,q5,q6⟩:=Ke r k.wok G A
  rw[hw]at e;exact⟨a,C,t,v,.ref l,rfl,m,n,q,D,l,E,L,rfl,d,e,b _ _ j c (akn (aj:=aj)) ⟨d,F⟩ λz=>nomatch z⟩
 .exact awt b
end
def aiQ{P:Program}{w:World}{A:Around}{l I:Addr}{o:Obj}{xs:List nY}{es:Array DictEntry}{ep:Nat}(hh:A.handled=none)(hne:l≠I)(n:lV w l o xs)(hd:o.data=.dict es ep):Walks P w A I [I,l] [I] xs.length (λi v=>∃e,xs[i]?=some e/\v=Value.ref e.2.1) (λi h=>h.IsKeyIter I l i xs.length ep/\h.get? l=some o) where
 sub:=λb hb=>by simp at hb;simp[hb]
 frame:=λi h h' st k=>⟨st.1.at (k I (by simp)),k l (by simp) o st.2⟩
 item:=λi s Q E hi st hQ=>by
  let⟨sz,ent⟩:=n.at hd
  have hx:xs[i]?=some xs[i]:=avi hi;let⟨en,e1,e2⟩:=ent i _ hx
  refine next_key_item st.1 st.2 hd sz e1 ?_;intro h' st' sb;exact hQ en.key h' s.toks ⟨_,hx,e2⟩ ⟨st',(sb.2 l hne).trans st.2⟩ λb ob hb e=>(sb.2 b λz=>hb (by simp[z])).trans e
 done:=λs Q E st hQ=>next_key_end hh st.1 st.2 hd (n.at hd).1 (avE _) λh' eb=>hQ h' s.toks λb ob hb e=>eb b ob (λz=>hb (by simp[z])) e
 self:=λi s Q E st hQ=>wpAny_pyIter_keyiter st.1 hQ
def alX{P:Program}{w:World}{l:Addr}{o:Obj}{xs:List nY}(n:lV w l o xs):PySem.W.KdlSrc P w "dict" l l xs.length (λi v=>∃e,xs[i]?=some e/\v=Value.ref e.2.1) (λh=>h.get? l=some o) where
 type:=λs e=>⟨o,e,n.ex.1⟩
 there:=λh e=>⟨Heap.lt_size e,Heap.lt_size e⟩
 keep:=λh h' e k=>k l (.inl rfl) o e
 notList:=#[()]
 notTuple:=#[()]
 hint:=λA E s Q e hq=>PySem.W.kdl_hint_dict ⟨o,e,n.ex.1⟩ hq
 iter:=λA s hh e=>by
  let⟨es,ep,hd,_⟩:=n.ent
  refine⟨_,_,λE Q hq=>iter_keys n.sys e n.ex hd hq,aiQ hh (avT (Heap.lt_size e)) n hd,⟨_,Heap.get?_push_size _ rfl,rfl,?_⟩,Heap.get?_push_of_some _ e⟩;rw[(n.at hd).1]<;>rfl
def agY(X:Cx):List V->Hp->VK->Prop:=λc H Q=>(∃p a,c=[.ref p]/\H p=some (.dK a)/\∀q,H q=none->Q (.ref q) (upd H q (.lst (a.map λkv=>kV kv.1))))\/∃p o b,c=[.ref p]/\H p=some (jc p o)/\lV X.w p o b/\∀q,H q=none->Q (.ref q) (upd H q (.lst (b.map λe=>V.ref e.2.1)))
def aeT{X:Cx}(hc:X.calm=true):CallR X (.type "list") (agY X):=by
 intro d s B H A z Q I r h;rcases h with h|⟨p,o,f,rfl,v,n,q⟩
 .exact call_list_dK hc d s B H A z Q I r h
 .let⟨u,rfl,y⟩:=vals1 r
  obtain rfl:u=Value.ref p:=y
  refine PySem.W.kdl_call (alX n) (I.ok.hd hc) (pin_at I v) n.len ?_;intro C D b i c m a;have k:b.toList.length=f.length:=by rw[avS];exact a.1
  refine⟨.ref s.heap.objs.size,upd H s.heap.objs.size (.lst (f.map λe=>V.ref e.2.1)),I.laid c (avE _) (show ObjOk X.prog X.w _ _ _ (.lst (f.map λe=>V.ref e.2.1)) from⟨by rw[avs];exact n.len,b.toList,i,?_,?_⟩),rfl,q _ (I.hok.fresh (avE _))⟩
  .refine vals_of_at (by rw[avs,k]) λj x w g l=>?_;let⟨e,t,rfl⟩:=a.2 j w (by rw[<-av0];exact l)
   rw[avy,t]at g;cases g;rfl
  .rw[Array.toArray_toList];exact m
section
variable{X:Cx}{aj:aJ}{W:WX}{o e:Expr}{f:Str}{pos p p1 pos':Pos}{fo:QF}
theorem acP{K:ave}{g:Gh}{H:Hp}:∀{d:List (Key×V)} {c:List (Dat×Dat)},c.map (·.1)=d.map (λp=>keyD p.1)->aC K g H (d.map λp=>kV p.1) (c.map (·.1))
 |[],[],_=>.nil
 |[],_::_,h=>by cases h
 |_::_,[],h=>by cases h
 |a::d,b::c,h=>by
  simp![avj,List.cons.injEq]at h;rw[avj,avj,h.1];refine .cons ?_ (acP h.2);cases a.1 with
  |inl i=>exact .int i
  |inr x=>exact .str x
def ajf(A:jP X.K aj)(hw:aj.w=X.w)(t:L2.St)(H:Hp)(Q:VK)(h:tQ X.K aj W (J5 f fo) t H Q):tFld X.K (tW X.K aj W fo) f t H λx r=>agY X [x] r Q:=by
 let⟨g,ρ,M,J,h⟩:=h
 unfold J5 at h;refine tW.go J h.bnd λod u r j m O=>?_;have d:=J.ex m;split at j
 .next h i b kvs E=>
  let⟨a,C,B,D,l,rfl,Z,m2,ml,U,rfl,R,v,S,y,z,T,G,Y,s⟩:=Ke A d.wok O E
  refine⟨a,C,B,D,.ref l,rfl,v,y,z,G,?_⟩;cases b with
  |false=>
   let⟨F,n,k,L⟩:=s
   exact .inl ⟨l,F,rfl,n,λq c=>j (.ref q) _ (m.trans (Ex.new c)) (.lst (.inl ⟨awA,d.kd.fresh c⟩) (acP k))⟩
  |true=>
   let⟨I,P,vs,n,k,L,N,q5,q6⟩:=s
   rw[hw]at k;exact .inr ⟨l,I,P,rfl,n,k,λq c=>j (.ref q) _ (m.trans (Ex.new c)) (.lst (.inl ⟨awA,d.kd.fresh c⟩) (N.ex (Ex.new c) d.kd))⟩
 .exact awt j
def ahU(b:jP X.K aj)(hw:aj.w=X.w)(hc:X.calm=true)(g:Gl X "list")(i:X.mg "list"=none)(j:QW aj X W o fo)(d:baseOk o=true):QE aj X W (.Call (.Name "list" p) [.Attribute o f p1] [] pos) (J5 f fo):=by
 have c:=pa_cons (pe_fld (X:=X) (pos:=p1) (f:=f) j (jy d)) pa_nil (bH rfl []);have a:BV (.type "list") "list":=⟨#[[]],#[()],#[()]⟩
 refine PE.weak (pe_callTy (pos:=pos) (p:=p) (aeT hc) g i a.1 c a.2.1 a.2.2 (bH rfl []) #[rfl]) λσ H Q h=>?_;exact ajf b hw σ H Q h
@[simp]def U9 (c:Ft) (o:QF) (f:Str) (b:Bool) (M:Mo) (a:Env):dB:=((o (M++[⟨"",[]⟩]) a).at (M++[⟨"",[]⟩])).then a λd M2=>match qw M2 d with
 |some (h,i)=>match c.has i.cls f&&decide (i.fs.length<100) with
  |true=>.next a (M2.set h (i.put f (.dic b [])))
  |false=>.bad
 |none=>.bad
def aqO(X:Cx)(b:Bool):TE:=λ_ H Q=>∀p,H p=none->match b with
 |false=>Q (.ref p) (upd H p (.dK []))
 |true=>∀o,lV X.w p o []->Q (.ref p) (upd H p (jc p o))
def akp{b:Bool}:PE X (.Dict [] [] pos) (aqO X b):=by
 cases b with
 |false=>exact PE.weak pe_dnewK λj H Q h p i=>h p i
 |true=>
  refine⟨λpins s j H Q I h=>wpAny_Dict_empty ?_⟩;have g:(s.heap.push { cls:=.type "dict",data:=.dict (List.toArray []) }).get? s.heap.objs.size=some { cls:=.type "dict",data:=.dict (List.toArray []) }:=Heap.get?_push_size _ rfl
  have c:(s.heap.objs.size==sysModules)=false:=beq_eq_false_iff_ne.mpr (Ne.symm (avT I.big));exact⟨.ref s.heap.objs.size,_,I.laid (a:=s.heap.objs.size) (o:=jc s.heap.objs.size _) (t':=s.toks) (λ_ _ q=>Heap.get?_push_of_some _ q) (avE _) (PB g),rfl,h _ (I.hok.fresh (avE _)) _ ⟨c,⟨rfl,rfl,rfl⟩,⟨(List.toArray []),0,rfl,rfl⟩,List.nodup_nil,avX _,λx d=>absurd d avL⟩⟩
def ak4{R:Ft}{b:Bool}(co:jP X.K aj)(fk:PN R aj)(hw:aj.w=X.w)(ho:QW aj X W o fo)(hs:swapsWith (.Dict [] [] p) (some (.Attribute o f pos')) pos.line X.env=pure false):SE aj X W false (.Assign [.Attribute o f pos'] (.Dict [] [] p) pos) (U9 R fo f b):=by
 refine PS.weak (ps_fld ho (akp (b:=b)) hs) λD r H ⟨g,ρ,M,I,z⟩=>?_;have core:∀(l:Addr) (ob:HO),H l=none->KH ob->(∀(G:Gh) (j:Hp),j l=some ob->iU X.K aj G j l b [])->tW X.K aj W fo r (upd H l ob) (λx t=>∃a C k m,x=.ref a/\t a=some (.ins C k m)/\Cls X.K C/\NoAttr X.K C f/\m.length<1000/\D.nx r (upd t a (.ins C k (putF f (.ref l) m)))):=by
  intro l ob q mu B;let⟨S,A,U,ow,T⟩:=Og I q (Ex.new q) awA mu
  unfold U9 at z;have k1:=Out.dY (cX (σ:=r) z);refine tW.go A (k1.mono (λ_ y=>y) λx y j c dd Q rx=>y j _ c dd (S.trans (Gr.ex Q)) (A.ex Q) rx) λod u t n F ru=>?_;have d:=A.ex F;split at n
  .next h i hi=>
   split at n
   .next L=>
    rw[avh]at L;let⟨a,C,k,m,_,s,N,J,rfl,Y,Z,P,c4,c5,c6⟩:=Jc co fk d.wok ru hi L.1
    have O:l≠a:=λz=>by
     subst z;cases d.wok.inj _ _ _ J U;rw[T]at s;cases s;exact N rfl
    refine⟨a,C,k,m,rfl,Z,c4,c5,?_,?_⟩
    .have:=awv L.2;rw[P.len];omega
    .have E:=Yi (f:=f) (C:=C) (dx:=k) (fs':=putF f (.ref l) m) d.kd d.wok J s N U T ow;have w':=d.wok.chg d.kd E J s N c6 Y P awA (v:=.ref l) (fl:=.dic b []) ⟨l,rfl,awy rfl,B _ _ (by rw[upd_ne O];exact F _ _ awA)⟩;exact n r _ _ ((S.trans (Gr.ex F)).trans E.gc.gr) (d.chg E w')
   .exact awt n
  .exact awt n
 intro l q;cases b with
 |false=>exact core l _ q awr λG j h=>⟨[],h,rfl,.nil⟩
 |true=>exact λob nd=>core l _ q awr λG j h=>⟨ob,[],[],h,by rw[hw];exact nd,rfl,.nil,.nil,.nil⟩
end
def amx(X:Cx)(D:Addr)(e:List Nat)(g:TG)(m:TE)(i:L2.St)(l:Hp->Prop)(x:V)(H:Hp):Prop:=
 g x (L2.wipe i e) H λσ2 j=>L2.wipe σ2 e=L2.wipe i e/\m σ2 j λy c=>∃(o:Obj) (a:List nY) (f:Gh) (d:Dat) (b:Addr) (k:NestedKey),y=.ref b/\c D=some (jc D o)/\lV X.w D o a/\aC X.K f c (a.map λx=>V.ref x.2.1) (a.map λx=>x.1.data)/\Rep X.K f c y d/\uU d=some k/\k.depth<=8/\a.length<sizeLine/\
  ∀h,lV X.w D h (storedH a k b (.bool true))->l (upd c D (jc D h))
def anK(X:Cx)(h:TI)(g:TG)(e:TE)(f:List Nat):TE:=λσ H Q=>h σ H λJ b=>∀D,b D=none->∃W:Nat->Nat->Hp->Prop,(∃m,∀o,lV X.w D o []->W 0 m (upd b D (jc D o)))/\
 ∀i m H,W i m H->(J.stop i H/\Q (.ref D) H)\/(J.go i H/\∃c:Hp->Prop,(∀a,c a->∃d,d<m/\W (i+1) d a)/\∀x a,J.yld i H x a->amx X D f g e σ c x a)
section
variable{X:Cx}
def aiv{a:List (Addr×Obj)}{p:L2.St}{H:Hp}{s:Shared}{E:Value->Shared->Prop}{D b:Addr}{o:Obj}{c:List nY}{i:Gh}{d:Dat}{k:NestedKey}{u:Value}{Q:Unit->Shared->Prop}(O:X.A.units+64<cLine)(I:L2.Inv X a p H s)(l:H D=some (jc D o))(n:lV X.w D o c)(F:aC X.K i H (c.map λx=>V.ref x.2.1) (c.map λx=>x.1.data))(hk:Rep X.K i H (.ref b) d)(C:uU d=some k)(j:k.depth<=8)(G:c.length<sizeLine)(L:RelV (.bl true) u)
  (q:∀m e,lV X.w D e (storedH c k b (.bool true))->L2.Inv X a p (upd H D (jc D e)) m->Q () m):wpAny (model X.prog X.w) X.A (dictSet D (.ref b) u) Q E s:=by
 obtain rfl:u=.bool true:=L
 refine wpAny_dictSet_heap (knd:=nestedKind X.prog X.w) (k:=k) (hsz:=Nat.le_of_lt G) (show X.A.units+8<cLine by omega) ⟨key_is I hk C rfl,j⟩ (Jh I l n rfl F) ?_;intro N dd f;let⟨e,t,r,g,v,y,z,M,B⟩:=dd
 have J:lV X.w D e (storedH c k b (.bool true)):=⟨n.sys,v,⟨t,r,y,z⟩,B,by have:=Wh (xs:=c) (k:=k) (b:=b) (u:=.bool true);omega,V4 n.dep j⟩;exact q _ e J (d_write I (by rw[l];exact True.intro) f ⟨e,g⟩ (PB g))
def amB{kx tg M:Expr}{a:Scope}{S:List (PySem.Str×Nat)}{pos vp:Pos}{vj:Nat}{wi:TI}{g:TG}{tk:TE}(hc:X.calm=true)(hN:X.N.Nodup)(hu:X.A.units+64<cLine)(hi:PI X tg M wi)(ok:BlkOk X.N X.env.scope a S)
  (hg:∀(t:Shared) (G:Hp) (C:Addr) (cl:List (PySem.Str×Addr)) (l:List Addr),PG (X.blk t G a (compEnvC a cl C X.env) l) tg g)
  (hk:∀(t:Shared) (G:Hp) (C:Addr) (cl:List (PySem.Str×Addr)) (l:List Addr),PE (X.blk t G a (compEnvC a cl C X.env) l) kx tk) (hs:∀x,foldedSetIterable M X.env x=pure x) :
  PE X (.DictComp kx (.Constant (.bool true) vj vp) [⟨tg,M,[],0⟩] a pos) (anK X wi g tk (S.map (·.2))):=by
 refine⟨λpins s σ H Q I h=>?_⟩;rw[arm_eval_DictComp];have cells:∀y∈a.names,y.2=.free->∃c,X.env.cells.lookup y.1=some c:=λy hy e=>(ok.free y hy e).elim (λk=>I.ok.has _ (.inl k)) (λk=>I.ok.has _ (.inr k));refine wpAny_comprehension_free rfl hs (closure_ok cells) ok.kind (λy hy e=>by rw[ok.uniq y hy,e]) (thn (hi.run pins s σ H _ I h) λ_ _ hx=>thn hx λitv U h0=>?_);let⟨it,l,tn,J,G0,rfl,I0,T,st0,f0,q⟩:=h0
 refine wpAny_newObj_type (newEnv_comp ?_)
 -- the new dict,at D
 obtain⟨D,hD⟩:∃D,D=U.heap.objs.size:=⟨_,rfl⟩;rw[<-hD];let⟨W,⟨m0,w00⟩,turn⟩:=q D (I0.hok.fresh (Nat.le_of_eq hD.symm))
 obtain⟨ob,P⟩:∃ob:Obj,ob={ cls:=.type "dict",data:=.dict (List.toArray []) }:=⟨_,rfl⟩
 have nd0:lV X.w D ob []:=by rw[P];exact⟨by rw[hD];exact beq_eq_false_iff_ne.mpr (Ne.symm (avT I0.big)),⟨rfl,rfl,rfl⟩,⟨(List.toArray []),0,rfl,rfl⟩,List.nodup_nil,avX _,λx hx=>absurd hx avL⟩
 have w0:=w00 ob nd0;rw[<-P];obtain⟨d,R⟩:∃d:Shared,d={ U with heap:=U.heap.push ob }:=⟨_,rfl⟩;obtain⟨E,hG1⟩:∃E,E=upd G0 D (jc D ob):=⟨_,rfl⟩;rw[<-hG1]at w0;have grow:∀b o,U.heap.get? b=some o->d.heap.get? b=some o:=λb o e=>by rw[R];exact Heap.get?_push_of_some _ e
 have I1:L2.Inv X pins σ E d:=by rw[R,hG1];refine I0.laid (t':=U.toks) (λb o e=>Heap.get?_push_of_some _ e) (Nat.le_of_eq hD.symm) (PB ?_);rw[hD];exact Heap.get?_push_size _ (by rw[P];rfl)
 have small:∀b∈l,b<U.heap.objs.size:=λb f=>by
  let⟨o,e,_⟩:=T.obj _ _ st0 b f
  exact Heap.lt_size e
 have f1:∀b∈l,FpOk X pins E b/\b<d.heap.objs.size:=λb f=>by
  have hlt:=small b f;refine⟨⟨?_,(f0 b f).2⟩,by rw[R];show b<(U.heap.push ob).objs.size;rw[Heap.size_push];exact av8 hlt⟩;rw[hG1,upd_ne (by rw[hD];exact avT hlt)];exact(f0 b f).1
 have st1:tn 0 d.heap:=T.keep _ _ _ st0 λb _ o e=>grow b o e;have I2:=block_start I1 ok hN f1;have pg:=hg d E d.heap.objs.size (cellsFrom (d.heap.objs.size+1) a.names (cloFrom X.env.cells a.names [])) l;have pk:=hk d E d.heap.objs.size (cellsFrom (d.heap.objs.size+1) a.names (cloFrom X.env.cells a.names [])) l;have none1:∀b∈l,E b=none:=λb f=>(f1 b f).1.1;rw[show({ U with heap:=U.heap.push ob }:Shared)=d from R.symm];obtain⟨L,hce⟩:∃L,L=compEnvC a (cellsFrom (d.heap.objs.size+1) a.names (cloFrom X.env.cells a.names [])) d.heap.objs.size X.env:=⟨_,rfl⟩;rw[<-hce]at I2 pg pk;have cL:L.locals=d.heap.objs.size:=by rw[hce];rfl
 obtain⟨t2,ht2⟩:∃t2:Shared,t2={ d with heap:=pushCells (d.heap.push { cls:=.type "dict",data:=.dict (List.toArray []) }) a.names }:=⟨_,rfl⟩
 rw[<-ht2]at I2;have st2:tn 0 t2.heap:=T.keep _ _ _ st1 λb _ o e=>by rw[ht2];exact pushCells_keeps _ _ _ _ (Heap.get?_push_of_some _ e)
 have F:∀{σ':L2.St} {B:Hp} {O:Shared},L2.Inv (X.blk d E a L l) [] σ' B O->(∀b∈l,B b=none)->∀b∈l,FpOk (X.blk d E a L l) [] B b:=λI' hn b f=>
  ⟨hn b f,(I'.ok.exf b f).1,I'.ok.exfs b f,.inl f,λx c e=>(I'.ok.exf b f).2 x c e,λp hp=>absurd (show p∈([]:List (Addr×Obj))++[] from hp) (by simp)⟩
 have pt:PTs (X.blk d E a L l) [] tYes:=pts_nil;have pv:PE (X.blk d E a L l) (.Constant (.bool true) vj vp) (tC (.bl true)):=pe_bl;have Z:codeAny (model X.prog X.w) X.A (.compLoop (.DictComp kx (.Constant (.bool true) vj vp) [⟨tg,M,[],0⟩] a pos) 0 (.ref it) (.ref D) L) (compPost (model X.prog X.w) X.A X.xe none (EP X pins σ Q) (.ref D) d.heap.objs.size) t2:=by
  refine compLoop_anyD (λn O=>∃i B,L2.Inv (X.blk d E a L l) [] (L2.wipe σ (S.map (·.2))) B O/\tn i O.heap/\(∀b∈l,B b=none)/\W i n B) ?_ m0 ⟨0,E,I2,st2,none1,w0⟩;rintro n t3 ⟨i,G3,I3,st3,n3,w3⟩;rcases turn i n G3 w3 with⟨stop,fin⟩|⟨go,Nx,hNx,step⟩
  .refine thnF (T.done (X.blk d E a L l) rfl rfl rfl hc i [] t3 _ G3 (λ_ _=>False) I3 (F I3 n3) st3 stop) λr t4 ⟨hr,I4⟩=>?_;subst hr;have I5:L2.Inv X pins σ G3 t4:=I1.call' (ch:=l) I4.os I4.base I4.hok I4.bare λb f=>⟨(f1 b f).1.2.2.2.1,(f1 b f).1.2.1,(f1 b f).1.2.2.2.2.1,(f1 b f).1.2.2.2.2.2⟩;have nC:G3 d.heap.objs.size=none:=by rw[<-cL];exact I4.free
   let⟨m,hn,_⟩:=I4.loc
   have hn':t4.heap.Ns d.heap.objs.size m:=by rw[<-cL];exact hn
   let⟨a0,a1,_,a3,a4,a5⟩:=I1.fpOk (avE _) nC
   exact⟨m,hn',λh'' sb=>⟨.ref D,G3,I5.turned (t':=t4.toks) (λb o f e=>(sb.2 b f).trans e) a0 a1 a3 a4 a5,rfl,fin⟩⟩
  .refine thnF (T.item (X.blk d E a L l) rfl rfl rfl hc i [] t3 _ G3 (λ_ _=>False) I3 (F I3 n3) st3 go) λr t4 ⟨u,hr,h4⟩=>?_;subst hr;refine thnF h4 λ_ t5 ⟨x,G5,I5,r5,y5,st5,n5⟩=>?_;refine thnF (pg.run _ t5 _ G5 x u _ (I5.pinned (F I5 n5) (T.obj _ _ st5)) r5 (step x G5 y5)) λ_ t6 ⟨Y,G6,I6,hw6,q6⟩=>?_;refine thnF (pt.run _ t6 Y G6 (λb G=>b=true/\G=G6) I6 ⟨rfl,rfl⟩) λb t7 ⟨G7,I7,hb7,hG7⟩=>?_;subst hb7 hG7;have over:∀{O:Shared} {B:Hp},L2.Inv (X.blk d E a L l) ([]++pinsAt l t5.heap) Y B O->Nx B->∃m,m<n/\∃i B,L2.Inv (X.blk d E a L l) [] (L2.wipe σ (S.map (·.2))) B O/\tn i O.heap/\(∀b∈l,B b=none)/\W i m B:=λ{O B} I' nx=>by
    let⟨m',hm,w'⟩:=hNx B nx
    have pin:∀b∈l,∀o,t5.heap.get? b=some o->O.heap.get? b=some o/\B b=none:=λb f o e=>
     let z:=I'.pin (b,o) (avZ _ (avZ _ (mem_pinsAt f e)))
     ⟨z.1,z.2.1⟩
    refine⟨m',hm,i+1,B,(I'.unpinned (pins:=[])).weak (by rw[<-hw6,wipe_length]) (λj v e=>?_),T.keep _ _ _ st5 λb f o e=>(pin b f o e).1,λb f=>?_,w'⟩
    .rw[<-hw6]at e;exact(wipe_some e).1
    .let⟨o,e,_⟩:=T.obj _ _ st5 b f
     exact(pin b f o e).2
   simp![if_true];refine thnF (pk.run _ t7 Y _ _ I7 q6) λz t8 ⟨yv,G8,I8,r8,o8,xs8,g8,d8,b8,k8,ey,hD8,n8,hr8,hk8,hd8,h88,hz8,nx⟩=>?_;subst ey
   obtain rfl:z=Value.ref b8:=r8
   refine thnF (pv.run _ t8 Y G8 (λv G=>v=.bl true/\G=G8) I8 ⟨rfl,rfl⟩) λz2 t9 ⟨y9,G9,I9,r9,hv9,hG9⟩=>?_;subst hv9 hG9;exact aiv (X:=X.blk d E a L l) hu I9 hD8 n8 hr8 hk8 hd8 h88 hz8 r9 λs' o' nd I10=>over I10 (nx o' nd)
 have done:=codeAny_compStart_dict Z (T.self X.A 0 _ _ _ st2 Z);rw[hce,ht2]at done;subst P;exact done
end
def JN(b:ig)(c:QF)(M:Mo)(e:Env):List Dat->List (Dat×Dat)->Out (List (Dat×Dat))
 |[],acc=>.ok acc
 |d::ds,acc=>match b d e with
  |none=>.bad
  |some f=>(zP (c M f)).bind λa=>(dhas true acc a).bind λr=>JN b c M e ds (match r with
   |true=>acc
   |false=>acc++[(a,.bool true)])
@[simp]def qDc (b:IF) (c:ig) (e:List Nat) (d:QF) (M:Mo) (a:Env):Out (List (Dat×Dat)):=(b M a).bind λds=>Out.when (decide (ds.length<=50000)) (JN c d M (bU a e) ds [])
def aox(K:ave)(aj:aJ)(W:WX)(f:Mo->Env->Out (List (Dat×Dat))):TE:=λc H Q=>∃g b M,SInv K aj c H g b M/\(f M b).sat (λkvs=>∀l o a,H l=none->Ex H a->a l=some (jc l o)->iU K aj (g.add l) a l true kvs->Q (.ref l) a) (pZ K aj W g H c)
section
variable{X:Cx}{aj:aJ}{W:WX}
theorem Zd{j:ig}{i:QF}{M:Mo}{k:Env}:∀{c:List Dat} {a:List (Dat×Dat)} {x:cZ},JN j i M k c a≠.exc x
 |[],_,_,h=>nomatch h
 |d::c,a,x,h=>by
  rw[JN]at h;left
  .cases h
  .next l e=>
   cases f:i M l with
   |bad=>rw[f]at h;cases h
   |exc y=>rw[f]at h;cases h
   |ok g=>
    rw[f]at h;have h:((dhas true a g).bind λr=>JN j i M k c (match r with
     |true=>a
     |false=>a++[(g,.bool true)]))=.exc x:=h
    cases b:dhas true a g with
    |bad=>rw[b]at h;cases h
    |exc y=>
     unfold dhas at b;split at b
     .cases b
     .split at b
      .split at b<;>cases b
      .cases b
     .cases b
    |ok r=>
     rw[b]at h;exact Zd h
def aiZ{d:List nY}{k:NestedKey}(h:∀x∈d,x.2.2=.bool true):d.map (putAt k (.bool true))=d:=by
 have:∀x∈d,putAt k (.bool true) x=x:=λx e=>by
  unfold putAt;split
  .let⟨a,b,c⟩:=x
   have:c=.bool true:=h _ e;rw[this]
  .rfl
 calc d.map (putAt k (.bool true))=d.map id:=List.map_congr_left this
  _=d:=List.map_id d
theorem adH:∀{a:List nY},(∀x∈a,x.2.2=.bool true)->Vals (List.replicate a.length (.bl true)) (a.map (·.2.2))
 |[],_=>.nil
 |x::a,h=>by
  rw[avu,List.replicate_succ,avj,h x avl];exact .cons rfl (adH λy b=>h y (avk _ b))
theorem adW{K:ave}{g:Gh}{H:Hp}:∀{a:List (Dat×Dat)} {n:Nat},n=a.length->(∀p∈a,p.2=.bool true)->aC K g H (List.replicate n (.bl true)) (a.map (·.2))
 |[],_,h,_=>by subst h;exact .nil
 |p::a,_,e,h=>by
  subst e;rw[avu,List.replicate_succ,avj,h p avl];exact .cons (.bl true) (adW rfl λy b=>h y (avk _ b))
def apA{it:IF}{R:ig}{js n:List Nat}{E:QF}(hw:aj.w=X.w)(hj:∀j∈js,j∈n)(σ:L2.St)(H:Hp)(Q:VK)(h:aox X.K aj W (qDc it R n E) σ H Q) :
  anK X (tI X.K aj W false it) (Cv X.K aj js R) (tQ X.K aj WF E) n σ H Q:=by
 let⟨g,S,M,I,h⟩:=h
 refine⟨g,S,M,I,h.bnd.mono (λds hk J C H1 e1 w c _ D nD=>?_) λ_ z=>z⟩;let⟨hz,hk⟩:=hk.lM
 have hlen:=awv hz;obtain⟨a,htot,hQ⟩:∃a,JN R E M (bU S n) ds []=.ok a/\∀l o F,H l=none->Ex H F->F l=some (jc l o)->iU X.K aj (g.add l) F l true a->Q (.ref l) F:=by
  cases hc:JN R E M (bU S n) ds [] with
  |bad=>rw[hc]at hk;exact awt hk
  |exc x=>exact absurd hc Zd
  |ok a=>
   rw[hc]at hk;exact⟨a,rfl,hk⟩
 have I1:=(I.ex e1).wipe n;have kD:∀{f:Hp} {o:Obj},Ex H1 f->f D=some (jc D o)->SInv X.K aj (L2.wipe σ n) f (g.add D) (bU S n) M:=λG Y=>I1.add nD G Y awr
 let Pv:Nat->Hp->Prop:=λi f=>Ex H1 f/\i<=ds.length/\∃o s b,f D=some (jc D o)/\lV X.w D o s/\b.map (·.1)=s.map (λx=>x.1.data)/\aC X.K (g.add D) f (s.map λx=>V.ref x.2.1) (b.map (·.1))/\(∀x∈s,x.2.2=.bool true)/\(∀p∈b,p.2=.bool true)/\b.length<=i/\JN R E M (bU S n) (ds.drop i) b=.ok a
 refine⟨λi m f=>m=ds.length-i/\Pv i f,⟨ds.length,λo n0=>⟨rfl,Ex.new nD,avX _,o,[],[],awA,n0,rfl,.nil,λx O=>absurd O avL,λx O=>absurd O avL,avE _,by rw[awk];exact htot⟩⟩,?_⟩;rintro i m f ⟨rfl,G,hi,o,s,b,Y,nd,U,hR,hT,hA,hy,d⟩;have Ia:=kD G Y;have Ca:=w.add g (g.add D) H1 f (I.kd.ex e1) c (Gh.FP nD G) G;have lxs:s.length=b.length:=by have:=congrArg List.length U;simpa using this.symm
 by_cases t:i<ds.length
 .refine .inr ⟨w.go _ i f Ca t,Pv (i+1),λF p=>⟨ds.length-(i+1),#[],rfl,p⟩,λx F y=>?_⟩;have hd:ds[i]?=some ds[i]:=avi t;let⟨e2,rx⟩:=w.yld _ i f x F _ Ia.kd Ca hd y
  have I2:=Ia.ex e2;rw[avW t,JN]at d;split at d
  .cases d
  .next Z1 he=>
   refine⟨g.add D,_,M,_,Z1,I2,rx,he,λws I3=>⟨yJ js ws _ n hj |>.trans (CJ σ n),?_⟩⟩;cases A:E M Z1 with
   |bad=>rw[A]at d;cases d
   |exc z=>rw[A]at d;cases d
   |ok kd=>
    rw[A]at d;have d:((dhas true b kd).bind λr=>JN R E M (bU S n) (ds.drop (i+1)) (match r with
     |true=>b
     |false=>b++[(kd,.bool true)]))=.ok a:=d
    refine⟨g.add D,Z1,M,I3,?_⟩;rw[A];intro v H4 e4 ry;have I4:=I3.ex e4;have hu4:=e4 _ _ (e2 _ _ Y);have L:=(hR.ex e2 Ia.kd).ex e4 I2.kd;cases hh:dhas true b kd with
    |bad=>rw[hh]at d;cases d
    |exc z=>rw[hh]at d;cases d
    |ok r=>
     rw[hh]at d;let⟨u,N⟩:=Yj hh
     rcases N with⟨z,_⟩|⟨_,dd,kk,rfl,hkk,hdep⟩
     .cases z
     .have ek:=Df hkk;rw[<-ek,Ks U]at u;have Z:=L;rw[U]at Z;cases ry with
      | @tup bb us _ hs' ht=>
       refine⟨o,s,g.add D,_,bb,kk,rfl,hu4,nd,Z,.tup hs' ht,hkk,hdep,sz_lt #[],λo' B=>?_⟩;have eD:Ex H1 (upd H4 D (jc D o')):=Ex.mut ((G.trans e2).trans e4) nD;have lD:(g.add D).Lo D:=.inr rfl;have up:Gr true (g.add D) (g.add D) H4 (upd H4 D (jc D o')):=Gr.upd I4.kd hu4 (.inr lD);cases r with
       |true=>
        let⟨q,hq⟩:=Option.isSome_iff_exists.mp u
        rw[storedH_old hq,aiZ hT]at B;exact⟨eD,t,o',s,b,awA,B,U,L.gr up I4.kd,hT,hA,#[],d⟩
       |false=>
        have hn:atKey s kk=none:=by
         cases hv:atKey s kk with
         |none=>rfl
         |some _=>rw[hv]at u;cases u
        rw[storedH_new hn]at B;have d:JN R E M (bU S n) (ds.drop (i+1)) (b++[(.tuple dd,.bool true)])=.ok a:=d;refine⟨eD,t,o',s++[(kk,bb,.bool true)],b++[(.tuple dd,.bool true)],awA,B,by simp[U,ek],?_,?_,?_,by simp;omega,d⟩
        .rw[avN,avN];exact(L.gr up I4.kd).back ((Rep.tup hs' ht).gr up I4.kd)
        .intro x O;rcases avz.mp O with z|z
         .exact hT x z
         .rw[avp.mp z]
        .intro x O;rcases avz.mp O with z|z
         .exact hA x z
         .rw[avp.mp z]
 .have e:i=ds.length:=#[];refine .inl ⟨w.stop _ i f Ca e,?_⟩;rw[e,av1]at d;cases d;exact hQ D o f (CZ e1 D nD) (e1.trans G) Y ⟨o,s,List.replicate s.length (.bl true),Y,by rw[hw];exact nd,U,hR,adH hT,adW lxs hA⟩
@[simp]def aas (b:Ft) (o:QF) (f:Str) (e:Mo->Env->Out (List (Dat×Dat))) (M:Mo) (a:Env):dB:=((e M a).at M).then a λkvs _=>((o (M++[⟨"",[]⟩]) a).at (M++[⟨"",[]⟩])).then a λc M2=>match qw M2 c with
 |some (h,i)=>match b.has i.cls f&&decide (i.fs.length<100) with
  |true=>.next a (M2.set h (i.put f (.dic true kvs)))
  |false=>.bad
 |none=>.bad
end
def ab3{K:ave}{g:Gh}{H:Hp}{l:Addr}{c:List V}{b:List Dat}(h:aC K (g.add l) H c b):aC K (g.push l) H c b:=aC.mv (g:=g.add l) (g':=g.push l) rfl (λh a z=>by
  have z:g.tbl[h]?=some a:=z
  show(g.tbl++[l])[h]?=some a
  rw[avq (avf.mp z).1];exact z) (λa z=>by
  rcases aaD z with z|rfl
  .rcases z with z|z|z
   .exact .inl z
   .exact .inr (.inl z)
   .exact .inr (.inr (show g.Lo a\/a=l from Or.inl z))
  .exact .inr (.inr (show g.Lo a\/a=a from Or.inr rfl))) h
section
variable{X:Cx}{aj:aJ}{W:WX}{o e:Expr}{f:Str}{pos pos':Pos}{ft:Ft}{fo:QF}
def akM{B:Mo->Env->Out (List (Dat×Dat))}{Z:TE}(co:jP X.K aj)(fk:PN ft aj)(ho:QW aj X W o fo)(he:PE X e Z)(J:∀d H Q,aox X.K aj W B d H Q->Z d H Q)(hs:swapsWith e (some (.Attribute o f pos')) pos.line X.env=pure false):SE aj X W false (.Assign [.Attribute o f pos'] e pos) (aas ft fo f B):=by
 refine PS.weak (ps_fld ho he hs) λD d H ⟨g,n,M,I,z⟩=>J d H _ ⟨g,n,M,I,?_⟩;unfold aas at z;cases G:B M n with
 |exc x=>rw[G]at z;exact λt c dd e r=>z d t g c dd (Gr.ex e) (I.ex e) r.fr
 |bad=>rw[G]at z;exact awt z
 |ok j=>
  rw[G]at z;intro l ob H1 nl e1 hl dic;let⟨S,p,Y,ow,T⟩:=Og I nl e1 hl awr
  have k:iU X.K aj (g.push l) H1 l true j:=by
   let⟨o',xs,vs,q1,q2,q3,q4,q5,q6⟩:=dic
   exact⟨o',xs,vs,q1,q2,q3,ab3 q4,q5,ab3 q6⟩
  have z:(((fo (M++[⟨"",[]⟩]) n).at (M++[⟨"",[]⟩])).then n λU M2=>match qw M2 U with
   |some (h,i)=>match ft.has i.cls f&&decide (i.fs.length<100) with
    |true=>.next n (M2.set h (i.put f (.dic true j)))
    |false=>.bad
   |none=>.bad).sat (sN X.K aj false D.nx g H) (sR X.K aj false D.rt g H) (sN X.K aj false D.bk g H) (sN X.K aj false D.ct g H) (sX X.K aj W false g H):=z
  have k1:=Out.dY (cX (σ:=d) z);refine tW.go p (k1.mono (λ_ y=>y) λx y t c dd P rx=>y t _ c dd (S.trans (Gr.ex P)) (p.ex P) rx) λU u H2 m A ru=>?_;have b:=p.ex A;split at m
  .next h i hi=>
   split at m
   .next F=>
    rw[avh]at F;let⟨a,C,w,R,_,s,L,E,rfl,c1,c2,O,c4,c5,c6⟩:=Jc co fk b.wok ru hi F.1
    have N:l≠a:=λz=>by
     subst z;cases b.wok.inj _ _ _ E Y;rw[T]at s;cases s;exact L rfl
    refine⟨a,C,w,R,rfl,c2,c4,c5,?_,?_⟩
    .have:=awv F.2;rw[O.len];omega
    .have q:=Yi (f:=f) (C:=C) (dx:=w) (fs':=putF f (.ref l) R) b.kd b.wok E s L Y T ow;have w':=b.wok.chg b.kd q E s L c6 c1 O awA (v:=.ref l) (fl:=.dic true j) ⟨l,rfl,awy rfl,iU.chg q.gc.gr b.kd (upd_ne N) (k.ex A p.kd)⟩;exact m d _ _ ((S.trans (Gr.ex A)).trans q.gc.gr) (b.chg q w')
   .exact awt m
  .exact awt m
end
end Rf
namespace Ear
open PySem PySem.Spec PyProof.Rows L2 Evl RZ
abbrev zJ(K:ave)(H:Hp)(v:V)(r:Rw):Prop:=Dp K H v (rD r)
@[irreducible]def PL (K:ave) (w:World):List V->Hp->VK->Prop:=λb H Q=>∃(l:Addr) (a:List V) (R D:List Rw),b=[V.ref l]/\SqL K H l a/\fK (zJ K H) a R/\D.length<=76/\(∀r∈R,r∈D)/\
 ∀(p:Addr) (L:List Ent),H p=none->(∀e∈L,zJ K H (.ref e.1) e.2)->(L.map Prod.snd).Nodup->(∀r,r∈L.map Prod.snd↔r∈R)->L.length<=76->Q (.ref p) (upd H p (Q8 w p L))
@[irreducible]def Ui (K:ave) (w:World):List V->Hp->VK->Prop:=λc H Q=>∃(a:Addr) (L:List Ent),c=[V.ref a]/\H a=some (Q8 w a L)/\(∀e∈L,zJ K H (.ref e.1) e.2)/\(L.map Prod.snd).Nodup/\L.length<=76/\
 ∀(b:List V) (M:List Rw) (p:Addr),fK (zJ K H) b M->Zk M->(∀r,r∈M↔r∈L.map Prod.snd)->H p=none->Q (.ref p) (upd H p (.lst b))
section
variable{X:Cx}
def aii{a:List (Addr×Obj)}{G:L2.St}{H:Hp}{s:Shared}(I:Inv X a G H s){t:Addr}{r:Rw}(h:zJ X.K H (.ref t) r):RI s.heap r t:=by
 refine⟨?_,by rw[ahS];decide⟩;unfold zJ rD dT at h;cases h with
 |tup x d=>
  cases d with
  |cons p d=>
   cases d with
   |cons q d=>
    cases d;cases p;cases q with
    |tup y E=>
     let⟨M,b,⟨o,B,hc,n,A⟩,_⟩:=I.tuple x
     let⟨m,c,⟨L,k,g,J,j⟩,_⟩:=I.tuple y
     refine .tup B hc A ?_;cases b with
     |cons r1 b=>
      cases b with
      |cons D b=>
       cases b;let⟨F,rfl⟩:=r1
       cases D;have e:∀{f:List V} {l:List Int},DpAll X.K H f (l.map PyData.int)->f=l.map V.int:=by
        intro f l
        induction l generalizing f with
        |nil=>intro z;cases z;rfl
        |cons i l C=>
         intro z;cases z with
         |cons u v=>
          cases u;rw[C v];rfl
       rw[e E]at c;exact .cons (.int r.1 F) (.cons (.tup k g j (by simpa using Zh (P:=X.prog) (w:=X.w) r.2 m c)) .nil)
theorem Wc{K:ave}{H:Hp}:∀(d:List V) (R:List Rw),fK (zJ K H) d R->∃c:List Ent,d=(c.map λp=>V.ref p.1)/\c.map Prod.snd=R/\∀p∈c,zJ K H (.ref p.1) p.2
 |[],[],_=>⟨[],rfl,rfl,by simp⟩
 |[],_::_,h=>nomatch h.1
 |_::_,[],h=>nomatch h.1
 |v::d,r::R,h=>by
  let⟨c,j,k,l⟩:=Wc d R ⟨awq h.1,λi v x a b=>h.2 (i+1) v x a b⟩
  have g:zJ K H v r:=h.2 0 v r rfl rfl;have m:∃t,v=.ref t:=by
   have z:=g;unfold zJ rD at z;cases z with
   |tup _ _=>exact⟨_,rfl⟩
  let⟨t,rfl⟩:=m
  refine⟨(t,r)::c,by rw[avj,<-j],by rw[avj,k],λp f=>?_⟩;rcases avw.mp f with e|f
  .rw[e];exact g
  .exact l p f
def adn(hu:X.A.units+65<cLine)(hc:X.calm=true):CallR X (.type "set") (PL X.K X.w):=by
 intro J s σ H vs us Q I r h;unfold PL at h;let⟨l,ws,R,D,rfl,Z,W,Y,j,q⟩:=h
 rw[Vals.ref1 r];let⟨F,O,B,C⟩:=Wc ws R W
 let⟨its,M,pl,hz⟩:=I.list Z
 rw[O]at M;have c:∀p∈F,p.2∈R:=λp a=>by
  rw[<-B];exact avr.mpr ⟨p,a,rfl⟩
 have hn:H s.heap.objs.size=none:=I.hok.fresh (avE _);refine ac3 (P:=X.prog) (w:=X.w) (hf:=λr=>(oR X.prog X.w).hash r) (λ_=>rfl) F D Y (λp a=>j _ (c p a)) (I.ok.hd hc) pl.isList (by simpa using Zx M) (λp a=>aii I (C p a)) #[] λh' N L E U t S g k=>?_;have b:t.fits E.size=true:=sE.fits (s:={ s with heap:=h',toks:=N }) S;have y:ObjOk X.prog X.w (upd H s.heap.objs.size (Q8 X.w s.heap.objs.size L)) h' s.heap.objs.size (Q8 X.w s.heap.objs.size L):=by
  let⟨o,ho,hr⟩:=S.ob
  refine⟨⟨_,E,U,t,S.ob,S.en,b,S.tab.ris,S.ld⟩,⟨o,ho⟩,λh1 h2 z k2=>?_⟩;let⟨u,i,f,t2,⟨G,v,x⟩,rest⟩:=(show afr X.w h1 s.heap.objs.size L from z)
  exact⟨u,i,f,t2,⟨G,k2 G v,x⟩,rest⟩
 refine⟨.ref s.heap.objs.size,upd H s.heap.objs.size (Q8 X.w s.heap.objs.size L),I.laid (t':=N) k (avE _) y,rfl,q _ L hn (λe n=>C e (avY (g.sub e n))) S.nd (λr=>⟨λm=>?_,λm=>?_⟩) S.few⟩
 .let⟨e,n,d⟩:=avr.mp m
  rw[<-d];exact c e (avY (g.sub e n))
 .rw[<-B]at m;let⟨p,a,d⟩:=avr.mp m
  rw[<-d];exact g.all p (by rw[List.take_length];exact a)
def afb(hu:X.A.units+65<cLine)(hc:X.calm=true):CallR X (.builtin "sorted") (Ui X.K X.w):=by
 intro l s σ H vs us Q I r h;unfold Ui at h;let⟨a,L,rfl,Z,S,nd,few,q⟩:=h
 rw[Vals.ref1 r];obtain⟨hf,es,ep,t,⟨o,ho,D,hd⟩,O,B,G,E⟩:afr X.w s.heap a L:=(I.hok a _ Z).1;have len:=Bq O;have U:∀K:List Ent,(∀p∈K,p∈L)->PySem.W.EachIs (λv (r:Rw)=>(∃p∈L,v=Value.ref p.1/\r=p.2)/\∃as,Reads s.heap v (rD r) as) ((ents hf K).map (·.2)) (K.map Prod.snd):=by
  intro K
  induction K with
  |nil=>exact λ_=>.nil
  |cons p K ih=>
   intro R;have f:=R p avl;exact .cons ⟨⟨p,f,rfl,rfl⟩,Dp.reads I (rD p.2) (.ref p.1) (.ref p.1) (S p f) rfl⟩ (ih λx hx=>R x (avk _ hx))
 refine RL (enc:=rD) (bs:=L.map Prod.snd) (I.ok.hd hc) ⟨o,ho,D.1,hd⟩ B (by unfold scanBound;omega) G E (by rw[O];exact U L λp f=>f) (awm YX) (PySem.W.Sortable.tuples λb=>⟨_,_,rfl⟩) (λb _=>by rw[(ahn b).2];omega) λd p out c n k Y o' f hg F P=>?_;have mp:=awf n (PySem.W.dataLe false rD);have j:(n.mergeSort (PySem.W.dataLe false rD)).Nodup:=(mp.trans F).nodup_iff.mpr nd;have m:=av9 (le:=PySem.W.dataLe false rD) (λa b c k1 k2=>by rw[Oo,awu]at *;exact List.le_trans k1 k2) (λa b=>by rw[Oo,Oo,awb,awu,awu];exact List.le_total _ _) n;generalize n.mergeSort (PySem.W.dataLe false rD)=M at mp j m P;let⟨N,v1,T⟩:=ZM out M P
 have up:Zk M:=by
  refine List.Pairwise.imp₂ (λa b u C=>?_) m j;rw[Oo,awu]at u;by_cases c:rk a<rk b
  .exact c
  .exact absurd (agz (List.le_antisymm u (List.not_lt.mp c))) C
 have g:H p=none:=I.hok.fresh f;have i:N.length<=sizeLine:=by rw[T.1,mp.length_eq,F.length_eq,avs,sizeLine_eq];omega
 have J:Inv X l σ (upd H p (.lst N)) { s with heap:=d.heap,gens:=d.gens,drawn:=d.drawn,toks:=d.toks }:=
  I.call (ch:=[]) (Un.laid k f g) (I.hok.laid k f ⟨i,out,c,v1,hg⟩) (by rw[Y];exact I.bare) (λ_ z=>nomatch z)
 have y:d={ s with heap:=d.heap,gens:=d.gens,drawn:=d.drawn,toks:=d.toks }:=by cases d;cases s;cases o';rfl
 rw[y];refine⟨.ref p,_,J,rfl,q N M p (T.imp λv r ⟨e,he,u,C⟩=>?_) up (λr=>(mp.trans F).mem_iff) g⟩;subst u C;exact S e he
end
end Ear
namespace Rf
open PySem PySem.Spec PyProof.Rows L2 Evl
def aeR:Dat->Option Ear.Rw
 |.tuple [.int o,.tuple a]=>(intsOf a).map λl=>(o,l)
 |_=>none
def GX:List Dat->Option (List Ear.Rw)
 |[]=>some []
 |d::a=>(aeR d).bind λr=>(GX a).bind λrs=>some (r::rs)
theorem GZ:∀{a:List Dat} {l:List Int},intsOf a=some l->a=l.map PyData.int
 |[],l,h=>by cases h;rfl
 |.int i::a,l,h=>by
  rw[intsOf,avU]at h;let⟨r,b,rfl⟩:=h
  rw[GZ b];rfl
 |.none::_,_,h=>by cases h
 |.bool _::_,_,h=>by cases h
 |.str _::_,_,h=>by cases h
 |.list _::_,_,h=>by cases h
 |.tuple _::_,_,h=>by cases h
 |.dict _::_,_,h=>by cases h
def al6{d:Dat}{r:Ear.Rw}(h:aeR d=some r):d=Ear.rD r:=by
 unfold aeR at h;left
 .next o b=>
  rw[avU]at h;let⟨l,a,rfl⟩:=h
  rw[GZ a];rfl
 .cases h
theorem Tq:∀{a:List Dat} {b:List Ear.Rw},GX a=some b->a=b.map Ear.rD
 |[],_,h=>by cases h;rfl
 |d::a,_,h=>by
  rw[GX]at h;obtain⟨r,c,h⟩;obtain⟨b,e,h⟩;cases h;rw[al6 c,Tq e];rfl
def V8(R:List Ear.Rw):List Ear.Rw:=R.mergeSort λa b=>decide (Ear.rk a<=Ear.rk b)
def sortI(l:List Int):List Int:=l.mergeSort λa b=>decide (a<=b)
def bM(R:List Ear.Rw):List Ear.Rw:=V8 R.eraseDups
def Cp(l:List Int):List Int:=sortI l.eraseDups
def abp:∀(n:Nat) (l:List Int),mW n (l.map PyData.int)=true:=λn l=>by
 induction l with
 |nil=>rfl
 |cons i l a=>simp[mW,okd,a]
def abv(n:Nat)(r:Ear.Rw):okd (n+2) (Ear.rD r)=true:=by unfold Ear.rD Ear.dT;simp[okd,mW,abp]
def ale(n:Nat)(R:List Ear.Rw):mW (n+2) (R.map Ear.rD)=true:=by
 induction R with
 |nil=>rfl
 |cons r R a=>simp[mW,abv,a]
def pD(p:Int×Int):Dat:=.tuple [.int p.1,.int p.2]
def Mp:Dat->Out Dat
 |.list a=>match intsOf a with
  |some l=>.ok (.list ((sortI l).map PyData.int))
  |none=>match GX a with
   |some R=>.ok (.list ((V8 R).map Ear.rD))
   |none=>.bad
 |_=>.bad
def U7:Dat->Out Dat
 |.list a=>match GX a with
  |some R=>match decide (R.eraseDups.length<=76) with
   |true=>.ok (.list ((bM R).map Ear.rD))
   |false=>.bad
  |none=>.bad
 |_=>.bad
def Zy{c:Type}{enc:c->Dat}{le:c->c->Bool}(h:∀a b,PySem.W.dataLe false id (enc a) (enc b)=le a b)(l:List c):(l.map enc).mergeSort (PySem.W.dataLe false id)=(l.mergeSort le).map enc:=by rw[List.map_mergeSort (r:=le) (s:=PySem.W.dataLe false id) (λa _ b _=>(h a b).symm)]
def wU{c:Type}[BEq c][LawfulBEq c]{l:List c}{x:c}:x∈l.eraseDups↔x∈l:=by
 induction d:l.length using Nat.strongRecOn generalizing l with
 |_ n f=>
  cases l with
  |nil=>simp
  |cons a r=>
   rw[List.eraseDups_cons];simp![avu]at d;have g:(r.filter λb=>!b==a).length<=r.length:=avD _ _;rw[avw,f _ #[] rfl,avF,avw];constructor
   .rintro(h|h)
    .exact .inl h
    .exact .inr h.1
   .rintro(h|h)
    .exact .inl h
    .by_cases e:x=a
     .exact .inl e
     .exact .inr ⟨h,by simpa using e⟩
def HW{c:Type}[BEq c][LawfulBEq c]{l:List c}:l.eraseDups.Nodup:=by
 induction d:l.length using Nat.strongRecOn generalizing l with
 |_ n e=>
  cases l with
  |nil=>simp
  |cons a r=>
   rw[List.eraseDups_cons];simp![avu]at d;have f:(r.filter λb=>!b==a).length<=r.length:=avD _ _;refine awp.mpr ⟨λh=>?_,e _ #[] rfl⟩;rw[wU,avF]at h;simpa using h.2
def m7{R:List Ear.Rw}{r:Ear.Rw}:r∈bM R↔r∈R:=by unfold bM V8;rw[List.mem_mergeSort,wU]
def acf(R:List Ear.Rw):Ear.Zk (bM R):=by
 unfold Ear.Zk bM V8;have d:=av9 (le:=λa b:Ear.Rw=>decide (Ear.rk a<=Ear.rk b)) (λa b c g h=>by rw[awu]at *;exact List.le_trans g h) (λa b=>by rw[awb,awu,awu];exact List.le_total _ _) R.eraseDups;have i:(R.eraseDups.mergeSort λa b=>decide (Ear.rk a<=Ear.rk b)).Nodup:=(awf _ _).nodup_iff.mpr HW;refine List.Pairwise.imp₂ (λa b e f=>?_) d i;rw[awu]at e;by_cases c:Ear.rk a<Ear.rk b
 .exact c
 .exact absurd (Ear.agz (List.le_antisymm e (List.not_lt.mp c))) f
def agK{l:List Int}{i:Int}:i∈Cp l↔i∈l:=by unfold Cp sortI;rw[List.mem_mergeSort,wU]
def ai5(l:List Int):(Cp l).Pairwise (· < ·):=by unfold Cp sortI;have d:=av9 (le:=λa b:Int=>decide (a<=b)) (λa b c h i=>by rw[awu]at *;omega) (λa b=>by rw[awb,awu,awu];omega) l.eraseDups;have g:(l.eraseDups.mergeSort λa b=>decide (a<=b)).Nodup:=(awf _ _).nodup_iff.mpr HW;refine List.Pairwise.imp₂ (λa b e f=>?_) d g;rw[awu]at e;have:a≠b:=f;omega
section
variable{K:ave}{g:Gh}{H:Hp}
theorem T6{l:List V}{j:List Dat}(h:aC K g H l j):∀{f:List V} {c:List Dat},Ear.fK (Ear.ait l j) f c->aC K g H f c
 |[],[],_=>.nil
 |[],_::_,z=>nomatch z.1
 |_::_,[],z=>nomatch z.1
 |y::f,e::c,z=>by
  let⟨i,m,n⟩:=z.2 0 y e rfl rfl
  let⟨d,k,o⟩:=h.get' m
  rw[n]at k;cases k;exact .cons o (T6 h ⟨awq z.1,λi v x a b=>z.2 (i+1) v x a b⟩)
end
section
variable{X:Cx}{aj:aJ}{W:WX}{a:Expr}{fa:QF}{p p2 pos pos2:Pos}
def akd:Kg aj X.K W Mp (Ear.Kr X.K):=λσ g H x d Q k y h=>by
 unfold Mp at h;left
 .next A=>
  let⟨l,t,rfl,s,j⟩:=gY y
  unfold Ear.Kr;left
  .next r v=>
   have e:=GZ v;subst e;refine⟨l,t,r.map PyData.int,rfl,s,j.dp (n:=12) (abp 12 r),awm (λa b=>by simp[PySem.W.alike]),PySem.W.Sortable.others (λb=>⟨(λz=>nomatch z),λxs z=>nomatch z⟩),λd m=>by
    let⟨i,_,rfl⟩:=avr.mp m
    simp[PyData.depth],λys q f c=>?_⟩
   have o:=Zy (enc:=PyData.int) (le:=λa b:Int=>decide (a<=b)) (λa b=>congrFun (congrFun (PySem.W.dataLe_int (λk:Int=>k)) a) b) r;rw[o]at f;exact h (.ref q) _ (Ex.new c) (.lst (.inl ⟨awA,k.fresh c⟩) ((T6 j f).ex (Ex.new c) k))
  .left
   .next R u=>
    have e:=Tq u;subst e;refine⟨l,t,R.map Ear.rD,rfl,s,j.dp (n:=12) (ale 10 R),awm Ear.YX,PySem.W.Sortable.tuples (λb=>⟨_,_,rfl⟩),λd m=>by
     let⟨i,_,rfl⟩:=avr.mp m
     rw[(Ear.ahn i).2]
     decide,λys q f c=>?_⟩
    .have o:=Zy (enc:=Ear.rD) (le:=λa b:Ear.Rw=>decide (Ear.rk a<=Ear.rk b)) (λa b=>by rw[<-Ear.Oo];rfl) R;rw[o]at f;exact h (.ref q) _ (Ex.new c) (.lst (.inl ⟨awA,k.fresh c⟩) ((T6 j f).ex (Ex.new c) k))
   .exact awt h
 .exact awt h
def alY(f:X.A.units+65<cLine)(c:Gl X "sorted")(d:X.mg "sorted"=none)(b:QW aj X W a fa)(e:nst a=true):QE aj X W (.Call (.Name "sorted" p) [a] [] pos) (dG Mp fa):=
 ajp (.inl rfl) (Ear.afi f) akd c d ⟨#[[]],#[()],#[()]⟩ b e
theorem aep{K:ave}{g:Gh}{H:Hp}:∀{b:List V} {l:List Int},DpAll K H b (l.map PyData.int)->aC K g H b (l.map PyData.int)
 |_,[],.nil=>.nil
 |_,_::_,.cons (.int i) t=>.cons (.int i) (aep t)
def ahj{K:ave}{g:Gh}{H:Hp}{v:V}{r:Ear.Rw}(h:Ear.zJ K H v r):Rep K g H v (Ear.rD r):=by
 unfold Ear.zJ Ear.rD at h;cases h with
 |tup e b=>
  cases b with
  |cons c b=>
   cases c;cases b with
   |cons d i=>
    cases i;cases d with
    |tup f j=>exact .tup e (.cons (.int _) (.cons (.tup f (aep j)) .nil))
theorem Zi{K:ave}{g:Gh}{H:Hp}:∀{d:List V} {R:List Ear.Rw},aC K g H d (R.map Ear.rD)->Ear.fK (Ear.zJ K H) d R
 |_,[],.nil=>⟨rfl,λi v x a b=>by simp at a⟩
 |_,r::R,.cons h t=>by
  have c:=Zi t;refine⟨congrArg (· + 1) c.1,λi v x a b=>?_⟩;cases i with
  |zero=>
   simp at a b;subst a b;exact h.dp (n:=12) (abv 10 _)
  |succ i=>exact c.2 i v x (by simpa using a) (by simpa using b)
theorem YB{K:ave}{g:Gh}{H:Hp}:∀{c:List V} {R:List Ear.Rw},Ear.fK (Ear.zJ K H) c R->aC K g H c (R.map Ear.rD)
 |[],[],_=>.nil
 |[],_::_,h=>nomatch h.1
 |_::_,[],h=>nomatch h.1
 |v::c,r::R,h=>.cons (ahj (h.2 0 v r rfl rfl)) (YB ⟨awq h.1,λi v x a b=>h.2 (i+1) v x a b⟩)
def ajW(y:X.A.units+65<cLine)(hc:X.calm=true)(O:Gl X "sorted")(U:X.mg "sorted"=none)(f:Gl X "set")(i:X.mg "set"=none)(G:QW aj X W a fa)(x:nst a=true):QE aj X W (.Call (.Name "sorted" p) [.Call (.Name "set" p2) [a] [] pos2] [] pos) (dG U7 fa):=by
 have B:=pa_cons G pa_nil (bH x []);have b:PE X (.Call (.Name "set" p2) [a] [] pos2) _:=pe_callTy (Ear.adn y hc) f i #[[]] B #[()] #[()] (bH x []) #[rfl]
 have C:=pa_cons b pa_nil (bH rfl []);refine PE.weak (pe_callB (p:=p) (pos:=pos) (Ear.afb y hc) O U #[[]] C #[()] #[()] (bH rfl []) #[rfl]) λσ H Q ⟨g,ρ,M,I,h⟩=>?_;refine tW.go I h.bnd λd v o b u r1=>?_;have s:=I.ex u;unfold U7 at b;split at b
 .next ds=>
  split at b
  .next R E=>
   split at b
   .next J=>
    have e:=Tq E;subst e;let⟨l,us,rfl,s1,s2⟩:=gY r1
    unfold Ear.PL;refine⟨l,us,R,R.eraseDups,rfl,s1,Zi s2,awv J,λr Y=>wU.mpr Y,λq L nq D nd j few=>?_⟩;have c:Ex o (upd o q (Ear.Q8 X.w q L)):=Ex.new nq;unfold Ear.Ui;refine⟨q,L,rfl,awA,λe N=>?_,nd,few,λys S z Z up ms m=>?_⟩
    .exact(Rep.ex c s.kd (ahj (g:=g) (D e N))).dp (n:=12) (abv 10 _)
    .have F:S=bM R:=Ear.afZ up (acf R) λr=>by rw[ms,j,m7]
     subst F;have t:=s.ex c;exact b (.ref z) _ ((u.trans c).trans (Ex.new m)) (.lst (.inl ⟨awA,t.kd.fresh m⟩) ((YB Z).ex (Ex.new m) t.kd))
   .exact awt b
  .exact awt b
 .exact awt b
def Fg(c:IF)(e:ig)(g:List Nat)(f:QT)(d:QF):QF:=λM h=>(Vh c e g f d M h).bind λb=>match intsOf b with
 |some l=>Out.when (decide (l.length<=4000)) (.ok (.list ((Cp l).map PyData.int)))
 |none=>.bad
theorem Vw{K:ave}{g:Gh}{H:Hp}:∀b:List Int,aC K g H (b.map V.int) (b.map PyData.int)
 |[]=>.nil
 |n::b=>.cons (.int n) (Vw b)
def alV{S T:List Int}(c:S.Pairwise (· < ·))(d:T.Pairwise (· < ·))(h:∀i,i∈S↔i∈T):S=T:=by
 induction S generalizing T with
 |nil=>
  cases T with
  |nil=>rfl
  |cons t T=>exact absurd ((h t).mpr avl) avL
 |cons s S g=>
  cases T with
  |nil=>exact absurd ((h s).mp avl) avL
  |cons t T=>
   rw[List.pairwise_cons]at c d;have e:s=t:=by
    rcases avw.mp ((h s).mp avl) with e|e
    .exact e
    .rcases avw.mp ((h t).mpr avl) with f|f
     .exact f.symm
     .have:=d.1 s e;have:=c.1 t f;omega
   subst e;rw[g c.2 d.2 λi=>?_];constructor
   .intro b;rcases avw.mp ((h i).mp (avk _ b)) with e|e
    .have:=c.1 i b;omega
    .exact e
   .intro b;rcases avw.mp ((h i).mpr (avk _ b)) with e|e
    .have:=d.1 i b;omega
    .exact e
def afA{a b:List Dat}{l:List Int}(h:intsOf (a++b)=some l):∃x y,intsOf a=some x/\intsOf b=some y/\l=x++y:=by
 have e:=GZ h;let⟨x,y,rfl,c,d⟩:=List.append_eq_map_iff.mp e
 exact⟨x,y,by rw[<-c,mV],by rw[<-d,mV],rfl⟩
def aqs{it:IF}{G:ig}{js s:List Nat}{L:QT}{A:QF}(hj:∀j∈js,j∈s)(σ:L2.St)(H:Hp)(Q:VK)(h:tQ X.K aj W (Fg it G s L A) σ H Q) :
  tCB (Ear.QD X.w) (tCons (Ear.amW X.w (tI X.K aj W false it) (Cv X.K aj js G) (lC X.K aj WF L) (tQ X.K aj WF A) s) tNil) σ H Q:=by
 let⟨g,N,M,I,h⟩:=h
 unfold Fg Vh at h;have h:=h.bnd;refine⟨g,N,M,I,h.bnd.mono (λds hk J C H1 e1 w c _ D nD=>?_) λ_ z=>z⟩;let⟨hz,hk⟩:=hk.lM
 have hlen:=awv hz;obtain⟨f,U,hk⟩:∃f,cJ G L A M (bU N s) ds=.ok f/\(match intsOf f with
   |some l=>Out.when (decide (l.length<=4000)) (Out.ok (PyData.list ((Cp l).map PyData.int)))
   |none=>Out.bad).sat (λd=>∀v O,Ex H O->Rep X.K g O v d->Q v O) (pZ X.K aj W g H σ):=by
  cases hc:cJ G L A M (bU N s) ds with
  |bad=>rw[hc]at hk;exact awt hk
  |exc x=>exact absurd hc mZ
  |ok f=>
   rw[hc]at hk;exact⟨f,rfl,hk⟩
 split at hk
 .next nums hnums=>
  let⟨hz2,hk⟩:=Out.sat.lM hk
  have hlen2:=awv hz2;have I1:=(I.ex e1).wipe s;have kD:∀{t:Hp} {S:Int->Bool} {n:Nat},Ex H1 t->t D=some (SetO X.w D S n)->SInv X.K aj (L2.wipe σ s) t (g.add D) (bU N s) M:=λB Y=>I1.add nD B Y awr
  let Pv:Nat->Hp->Prop:=λi t=>Ex H1 t/\i<=ds.length/\∃(S:Int->Bool) (n:Nat) (q:List Int),t D=some (SetO X.w D S n)/\(∀j,S j=true↔j∈q)/\n<=q.length/\(cJ G L A M (bU N s) (ds.drop i)).sat (λr=>f=q.map PyData.int++r) λ_=>False
  refine⟨λi m t=>m=ds.length-i/\Pv i t,⟨ds.length,rfl,Ex.new nD,avX _,_,0,[],awA,λj=>by simp,avE _,?_⟩,?_⟩
  .rw[awk,U];rfl
  .rintro i m t ⟨rfl,B,hi,S,n,q,Y,hS,hn,E⟩;have Ia:=kD B Y;have Ca:=w.add g (g.add D) H1 t (I.kd.ex e1) c (Gh.FP nD B) B;by_cases u:i<ds.length
   .refine .inr ⟨w.go _ i t Ca u,Pv (i+1),λO p=>⟨ds.length-(i+1),#[],rfl,p⟩,λx O y=>?_⟩;have hd:ds[i]?=some ds[i]:=avi u;let⟨e2,rx⟩:=w.yld _ i t x O _ Ia.kd Ca hd y
    have I2:=Ia.ex e2;rw[avW u,cJ]at E;split at E
    .exact awt E
    .next Z1 he=>
     refine⟨g.add D,_,M,_,Z1,I2,rx,he,λws I3=>⟨yJ js ws _ s hj |>.trans (CJ σ s),?_⟩⟩;refine lC.go I3 (yC E.bnd) λb H3 R e3=>?_;have I4:=I3.ex e3;have Z:=e3 _ _ (e2 _ _ Y);cases b with
     |false=>
      have R:(cJ G L A M (bU N s) (ds.drop (i+1))).sat (λr=>f=q.map PyData.int++r) λ_=>False:=R;exact⟨(B.trans e2).trans e3,u,S,n,q,Z,hS,hn,R⟩
     |true=>
      have R:((zP (A M Z1)).bind λy=>(cJ G L A M (bU N s) (ds.drop (i+1))).bind λr=>Out.ok (y::r)).sat (λr=>f=q.map PyData.int++r) λ_=>False:=R;refine tQ.go I4 (yC R.bnd) λy v H4 F e4 ry=>?_;have hu4:=e4 _ _ Z;obtain⟨r,hr,ht⟩:∃r,cJ G L A M (bU N s) (ds.drop (i+1))=.ok r/\f=q.map PyData.int++y::r:=by
       cases hc:cJ G L A M (bU N s) (ds.drop (i+1)) with
       |bad=>rw[hc]at F;exact awt F
       |exc x=>exact absurd hc mZ
       |ok r=>
        rw[hc]at F;exact⟨r,rfl,F⟩
      rw[ht]at hnums;let⟨xl,yl,q1,q2,q3⟩:=afA hnums
      cases y with
      |int kk=>
       cases ry;have hyl:q.length<nums.length:=by
        rw[mV]at q1
        obtain rfl:q=xl:=avA q1
        rw[intsOf,avU]at q2;let⟨z,_,rfl⟩:=q2
        rw[q3];simp
       refine⟨kk,S,n,rfl,hu4,by unfold scanBound;omega,Ex.mut (((B.trans e2).trans e3).trans e4) nD,u,_,_,q++[kk],awA,λj=>?_,?_,?_⟩
       .simp[hS]
       .split<;>simp<;>omega
       .rw[hr];show f=_;rw[ht];simp
      |_=>cases q2
   .have e:i=ds.length:=#[];refine .inl ⟨w.stop _ i t Ca e,?_⟩;rw[e,av1]at E;have E:f=q.map PyData.int++[]:=E;rw[avV]at E;rw[E,mV]at hnums
    obtain rfl:q=nums:=avA hnums
    unfold Ear.QD;refine⟨D,S,n,rfl,Y,λns z up mem _ nz=>?_⟩;have hns:ns=Cp q:=alV up (ai5 q) λj=>by rw[mem,hS,agK]
    subst hns;have ex:=(e1.trans B).trans (Ex.new (o:=.lst ((Cp q).map V.int)) nz);have kk:=(I.ex (e1.trans B)).kd;exact hk (.ref z) _ ex (.lst (.inl ⟨awA,kk.fresh nz⟩) (Vw _))
 .exact awt hk
def afM{e m b:Expr}{f:List Expr}{scope:Scope}{c:LsS Nat}{n:IF}{d:ig}{l:List Nat}{tt:QT}{te:QF}(E:X.A.units+65<cLine)(hc:X.calm=true)(r:X.N.Nodup)(i:Gl X "sorted")(z:X.mg "sorted"=none)(v:QI aj X W false m b n)(ok:blkC X.N X.env.scope scope c=true)(y:∀j∈l,j∈c.map (·.2))
  (u:∀s H C cl fp,QG aj #[[[]]] m l d)
  (D:∀s H C cl fp,PTs #[[[]]] f (lC X.K aj WF tt))
  (t:∀s H C cl fp,QE aj #[[[]]] WF e te) (B:∀x,foldedSetIterable b X.env x=pure x) :
  QE aj X W (.Call (.Name "sorted" p) [.SetComp e [⟨m,b,f,0⟩] scope pos2] [] pos) (Fg n d (c.map (·.2)) tt te):=by
 have o:=Ear.aoZ (pos:=pos2) (g:=Cv X.K aj l d) (tt:=lC X.K aj WF tt) (te:=tQ X.K aj WF te) hc r v (blkOk_by ok) (λs H C cl fp=>u s H C cl fp) D (λs H C cl fp=>t s H C cl fp) B;have q:=pa_cons o pa_nil (bH rfl []);exact PE.weak (pe_callB (p:=p) (pos:=pos) (Ear.ahE E hc) i z #[[]] q #[()] #[()] (bH rfl []) #[rfl]) λσ H Q h=>aqs y σ H Q h
end
def Cj(a:Env):Bool:=a.all λo=>match o with
 |some (.mut _)=>false
 |_=>true
def abJ{a:Env}(h:Cj a=true){i:Nat}{b:List Dat}:a[i]?≠some (some (.mut b)):=λz=>by
 have:=avx.mp h _ (avo z);cases this
theorem SInv.loc{K:ave}{aj:aJ}{σ:L2.St}{H:Hp}{g:Gh}{ρ:Env}{M:Mo}{D:Addr}{us us':List V}(I:SInv K aj σ H g ρ M)(n:Cj ρ=true)(hD:H D=some (.lst us))(lo:g.Lo D):SInv K aj σ (upd H D (.lst us')) g ρ M where
 kd:=I.kd.upd awr
 wok:=I.wok.loc I.kd hD lo
 len:=I.len
 dat:=λi d h=>by
  let⟨v,h1,h2⟩:=I.dat i d h
  exact⟨v,h1,al1 I.kd hD lo h2⟩
 own:=λi xs h=>absurd h (abJ n)
 sep:=λi j xs ys l ne h1=>absurd h1 (abJ n)
def iJ(i:ig)(j:QT)(a:IF)(c:ig)(f:List Nat)(e:QT)(h:QF)(M:Mo)(k:Env):List Dat->Out (List Dat)
 |[]=>.ok []
 |d::l=>match i d k with
  |none=>.bad
  |some g=>(zP (j M g)).bind λb=>if b=true then Out.when (Cj g) ((zP (a M g)).bind λes=>(cJ c e h M (bU g f) es).bind λr1=>(iJ i j a c f e h M k l).bind λr=>.ok (r1++r)) else iJ i j a c f e h M k l
def aeC(f:IF)(h:ig)(j:List Nat)(i:QT)(a:IF)(b:ig)(d:List Nat)(c:QT)(g:QF):IF:=λM e=>(f M e).bind λds=>(iJ h i a b d c g M (bU e j) ds).bind λr=>Out.when (decide (r.length<=50000)) (.ok r)
def Gu(e:IF)(g:ig)(i:List Nat)(h:QT)(a:IF)(b:ig)(d:List Nat)(c:QT)(f:QF):QF:=λM j=>(aeC e g i h a b d c f M j).bind λr=>.ok (.list r)
theorem yQ{l a:ig}{k c:QT}{i:QF}{g:IF}{f:List Nat}{M:Mo}{m:Env}:∀{ds:List Dat} {x:cZ},iJ l k g a f c i M m ds≠.exc x
 |[],_,h=>nomatch h
 |d::ds,x,h=>by
  rw[iJ]at h;left
  .cases h
  .next j e=>
   cases n:k M j with
   |bad=>rw[n]at h;cases h
   |exc y=>rw[n]at h;cases h
   |ok b=>
    rw[n]at h;cases b with
    |false=>exact yQ (ds:=ds) (x:=x) h
    |true=>
     cases t:Cj j with
     |false=>rw[t]at h;cases h
     |true=>
      rw[t]at h;cases o:g M j with
      |bad=>rw[o]at h;cases h
      |exc y=>rw[o]at h;cases h
      |ok s=>
       rw[o]at h;have h:((cJ a c i M (bU j f) s).bind λr1=>(iJ l k g a f c i M m ds).bind λr=>Out.ok (r1++r))=.exc x:=h;cases p:cJ a c i M (bU j f) s with
       |bad=>rw[p]at h;cases h
       |exc y=>exact absurd p mZ
       |ok r1=>
        rw[p]at h;have h:((iJ l k g a f c i M m ds).bind λr=>Out.ok (r1++r))=.exc x:=h;cases q:iJ l k g a f c i M m ds with
        |bad=>rw[q]at h;cases h
        |exc y=>exact absurd q yQ
        |ok r=>rw[q]at h;cases h
section
variable{K:ave}{aj:aJ}{W:WX}
def ald{it o:IF}{Z f:ig}{js A js1 d:List Nat}{tt n:QT}{t:QF}(hj:∀j∈js,j∈A)(hj1:∀j∈js1,j∈d)(σ:L2.St)(H:Hp)(Q:VK)(h:tFr K aj W (aeC it Z A tt o f d n t) σ H Q) :
  tLc2 (tI K aj W false it) (Cv K aj js Z) (lC K aj WF tt) (tI K aj WF true o) (Cv K aj js1 f) (lC K aj WF n) (tQ K aj WF t) A d σ H Q:=by
 let⟨g,ρ,M,I,h⟩:=h
 refine⟨g,ρ,M,I,h.bnd.mono (λds hk J C H1 e1 w c _ D nD=>?_) λ_ z=>z⟩;obtain⟨a,htot,hlen,hQ⟩:∃a,iJ Z tt o f d n t M (bU ρ A) ds=.ok a/\a.length<=50000/\∀l U Y,H l=none->Ex H Y->Y l=some (.lst U)->aC K (g.add l) Y U a->Q (.ref l) Y:=by
  cases hc:iJ Z tt o f d n t M (bU ρ A) ds with
  |bad=>rw[hc]at hk;exact awt hk
  |exc x=>exact absurd hc yQ
  |ok a=>
   rw[hc]at hk;let⟨hz,hk⟩:=Out.sat.lM hk
   exact⟨a,rfl,awv hz,hk⟩
 have I1:=(I.ex e1).wipe A;have kD:∀{B:Hp} {U:List V},Ex H1 B->B D=some (.lst U)->SInv K aj (L2.wipe σ A) B (g.add D) (bU ρ A) M:=λea hu=>I1.add nD ea hu awr;have lD:(g.add D).Lo D:=.inr rfl
 let Pv:Nat->Hp->Prop:=λi B=>Ex H1 B/\i<=ds.length/\∃U X,B D=some (.lst U)/\aC K (g.add D) B U X/\(iJ Z tt o f d n t M (bU ρ A) (ds.drop i)).sat (λr=>a=X++r) λ_=>False
 refine⟨λi m B=>m=ds.length-i/\Pv i B,⟨ds.length,rfl,Ex.new nD,avX _,[],[],awA,.nil,?_⟩,?_⟩
 .rw[awk,htot];rfl
 .rintro i m B ⟨rfl,ea,hi,U,X,hu,hU,hs⟩;have Ia:=kD ea hu;have Ca:=w.add g (g.add D) H1 B (I.kd.ex e1) c (Gh.FP nD ea) ea;by_cases S:i<ds.length
  .refine .inr ⟨w.go _ i B Ca S,Pv (i+1),λY p=>⟨ds.length-(i+1),#[],rfl,p⟩,λx Y y=>?_⟩;have hd:ds[i]?=some ds[i]:=avi S;let⟨e2,rx⟩:=w.yld _ i B x Y _ Ia.kd Ca hd y
   have I2:=Ia.ex e2;rw[avW S,iJ]at hs;split at hs
   .exact awt hs
   .next E he=>
    refine⟨g.add D,_,M,_,E,I2,rx,he,λws I3=>⟨yJ js ws _ A hj |>.trans (CJ σ A),?_⟩⟩;refine lC.go I3 (yC hs.bnd) λb H3 hb e3=>?_;have I4:=I3.ex e3;have hu3:=e3 _ _ (e2 _ _ hu);have hU3:=(hU.ex e2 Ia.kd).ex e3 I2.kd;cases b with
    |false=>
     have hb:(iJ Z tt o f d n t M (bU ρ A) (ds.drop (i+1))).sat (λr=>a=X++r) λ_=>False:=hb;exact⟨(ea.trans e2).trans e3,S,U,X,hu3,hU3,hb⟩
    |true=>
     have hb:(Out.when (Cj E) ((zP (o M E)).bind λes=>(cJ f n t M (bU E d) es).bind λr1=>(iJ Z tt o f d n t M (bU ρ A) (ds.drop (i+1))).bind λr=>Out.ok (r1++r))).sat (λr=>a=X++r) λ_=>False:=hb;let⟨nm,hb⟩:=hb.lM
     refine⟨g.add D,E,M,I4,(yC (E':=pZ K aj WF (g.add D) H3 _) hb.bnd).mono (λes q J1 C1 H4 e4 w1 c1 fm=>?_) λ_ z=>z⟩;have fm:=fm rfl
     -- all that is added by this walk
     obtain⟨r1,r2,hr1,hr2,ht⟩:∃r1 r2,cJ f n t M (bU E d) es=.ok r1/\iJ Z tt o f d n t M (bU ρ A) (ds.drop (i+1))=.ok r2/\a=X++(r1++r2):=by
      cases q1:cJ f n t M (bU E d) es with
      |bad=>rw[q1]at q;exact awt q
      |exc y=>exact absurd q1 mZ
      |ok r1=>
       rw[q1]at q;have q:((iJ Z tt o f d n t M (bU ρ A) (ds.drop (i+1))).bind λr=>Out.ok (r1++r)).sat (λr=>a=X++r) λ_=>False:=q;cases q2:iJ Z tt o f d n t M (bU ρ A) (ds.drop (i+1)) with
       |bad=>rw[q2]at q;exact awt q
       |exc y=>exact absurd q2 yQ
       |ok r2=>
        rw[q2]at q;exact⟨r1,r2,rfl,rfl,q⟩
     let P1:Nat->Hp->Prop:=λj N=>Ex H1 N/\SInv K aj (sets (L2.wipe σ A) js ws) N (g.add D) E M/\C1 (g.add D) N/\j<=es.length/\∃u zs,N D=some (.lst u)/\aC K (g.add D) N u (X++zs)/\(cJ f n t M (bU E d) (es.drop j)).sat (λr=>r1=zs++r) λ_=>False
     refine⟨λj m N=>m=es.length-j/\P1 j N,⟨es.length,rfl,((ea.trans e2).trans e3).trans e4,I4.ex e4,c1,avX _,U,[],e4 _ _ hu3,by rw[avV];exact hU3.ex e4 I4.kd,?_⟩,?_⟩
     .rw[awk,hr1];rfl
     .rintro j m N ⟨rfl,fb,Ib,Cb,hjl,u,zs,hub,hUb,s⟩;by_cases R:j<es.length
      .refine .inr ⟨w1.go _ j N Cb R,P1 (j+1),λY p=>⟨es.length-(j+1),#[],rfl,p⟩,λx Y y=>?_⟩;have hdj:es[j]?=some es[j]:=avi R;let⟨f2,rx⟩:=w1.yld _ j N x Y _ Ib.kd Cb hdj y
       have J2:=(Ib.ex f2).wipe d;rw[avW R,cJ]at s;split at s
       .exact awt s
       .next Z2 he1=>
        refine⟨g.add D,_,M,_,Z2,J2,rx,he1,λws1 J3=>⟨yJ js1 ws1 _ d hj1 |>.trans (CJ _ d),?_⟩⟩;refine lC.go J3 (yC s.bnd) λb H6 G e6=>?_;have F:=f2.trans e6;have hu6:=F _ _ hub;have hU6:=hUb.ex F Ib.kd;cases b with
        |false=>
         have G:(cJ f n t M (bU E d) (es.drop (j+1))).sat (λr=>r1=zs++r) λ_=>False:=G;exact⟨fb.trans F,Ib.ex F,w1.ex _ _ _ Ib.kd Cb F,R,u,zs,hu6,hU6,G⟩
        |true=>
         have G:((zP (t M Z2)).bind λy=>(cJ f n t M (bU E d) (es.drop (j+1))).bind λr=>Out.ok (y::r)).sat (λr=>r1=zs++r) λ_=>False:=G;refine tQ.go (J3.ex e6) (yC G.bnd) λy v H7 L e7 ry=>?_;have O:=F.trans e7;have Ib7:=Ib.ex O;have hu7:=O _ _ hub;have hU7:=hUb.ex O Ib.kd;have L:=L.bnd;have hr:∃r,cJ f n t M (bU E d) (es.drop (j+1))=.ok r/\r1=zs++y::r:=by
          cases q1:cJ f n t M (bU E d) (es.drop (j+1)) with
          |bad=>rw[q1]at L;exact awt L
          |exc y=>exact absurd q1 mZ
          |ok r=>
           rw[q1]at L;exact⟨r,rfl,L⟩
         let⟨r,hr,hr1'⟩:=hr
         have hll:u.length<50000:=by
          rw[hUb.length];rw[ht,hr1']at hlen;simp at hlen |-
          omega
         refine⟨u,hu7,sz_lt (Nat.lt_trans hll #[()]),Ex.mut (fb.trans O) nD,Ib7.loc nm hu7 lD,fm true _ _ _ _ Ib7.kd (w1.ex _ _ _ Ib.kd Cb O) (Gr.upd Ib7.kd hu7 (.inr lD)),R,u++[v],zs++[y],awA,?_,?_⟩
         .rw[<-List.append_assoc];exact aaJ Ib7.kd hu7 lD (hU7.append (.cons ry .nil))
         .rw[hr];show r1=_;rw[hr1'];simp
      .have e:j=es.length:=#[];refine .inl ⟨w1.stop _ j N Cb e,?_⟩;rw[e,av1]at s;have s:r1=zs++[]:=s;rw[avV]at s;subst s;refine⟨fb,S,u,X++r1,hub,hUb,?_⟩;rw[hr2];show a=_;rw[ht,List.append_assoc]
  .have e:i=ds.length:=#[];refine .inl ⟨w.stop _ i B Ca e,?_⟩;rw[e,av1]at hs;have hs:a=X++[]:=hs;rw[avV]at hs;subst hs;exact hQ D U B (CZ e1 D nD) (e1.trans ea) hu hU
def af8{o c:IF}{s f:ig}{p m d b:List Nat}{t i:QT}{q:QF}(v:∀j∈p,j∈m)(k:∀j∈d,j∈b)(n:L2.St)(H:Hp)(Q:VK)(h:tQ K aj W (Gu o s m t c f b i q) n H Q) :
  tLc2 (tI K aj W false o) (Cv K aj p s) (lC K aj WF t) (tI K aj WF true c) (Cv K aj d f) (lC K aj WF i) (tQ K aj WF q) m b n H Q:=by
 let⟨g,y,M,I,h⟩:=h
 refine ald v k n H Q ⟨g,y,M,I,h.bnd.mono (λxs hk l B u x e w r=>?_) λ_ z=>z⟩;refine hk (.ref l) u e (.lst (.inl ⟨w,λz=>?_⟩) (aC.less (g:=g.add l) (g':=g) rfl (λa z=>?_) r))
 .exact I.kd.fresh x z
 .rcases z with z|z|z
  .exact .inl z
  .exact .inr (.inl z)
  .exact .inr (.inr (.inl z))
end
section
variable{X:Cx}{aj:aJ}{W:WX}{q:Bool}{elt tg iter tg1 iter1:Expr}{ifs ifs1:List Expr}{scope:Scope}{own:LsS Nat}{it it1:IF}{tgf tgf1:ig}{js js1 vs1:List Nat}{tt tt1:QT}{te:QF}{pos cpos:Pos}
def aoO(hc:X.calm=true)(l:X.N.Nodup)(o:QI aj X W false tg iter it)(ok:blkC X.N X.env.scope scope own=true)(u:∀i∈vs1,i∈own.map (·.2))(p:∀j∈js,j∈own.map (·.2))(d:∀j∈js1,j∈vs1)
  (n:∀s H C cl fp,QG aj #[[[]]] tg js tgf)
  (t:∀s H C cl fp,PTs #[[[]]] ifs (lC X.K aj WF tt))
  (c:∀s H C cl fp,QI aj #[[[]]] WF true tg1 iter1 it1)
  (b:∀s H C cl fp,QG aj #[[[]]] tg1 js1 tgf1)
  (f:∀s H C cl fp,PTs #[[[]]] ifs1 (lC X.K aj WF tt1))
  (m:∀s H C cl fp,QE aj #[[[]]] WF elt te) (r:∀x,foldedSetIterable iter X.env x=pure x) (e:∀a x,foldedSetIterable iter1 a x=pure x) :
  QE aj X W (.ListComp elt [⟨tg,iter,ifs,0⟩,⟨tg1,iter1,ifs1,0⟩] scope pos) (Gu it tgf (own.map (·.2)) tt it1 tgf1 vs1 tt1 te):=
 PE.weak (pe_lc2 (g:=Cv X.K aj js tgf) (tt:=lC X.K aj WF tt) (wi1:=tI X.K aj WF true it1) (g1:=Cv X.K aj js1 tgf1) (tt1:=lC X.K aj WF tt1) (te:=tQ X.K aj WF te) hc l o (blkOk_by ok) u (λs H C cl fp=>n s H C cl fp) t (λs H C cl fp=>c s H C cl fp) (λs H C cl fp=>b s H C cl fp) f (λs H C cl fp=>m s H C cl fp) r e) λσ H Q h=>af8 p d σ H Q h
def alM{j:Nat}{y:Str}{B:Pos}(hc:X.calm=true)(E:X.N.Nodup)(S:X.N[j]?=some y)(t:X.env.scope.names.lookup y=some .local)(o:swapsWith (.ListComp elt [⟨tg,iter,ifs,0⟩,⟨tg1,iter1,ifs1,0⟩] scope cpos) (some (.Name y B)) pos.line X.env=pure true)
  (J:QI aj X W false tg iter it) (ok:blkC X.N X.env.scope scope own=true) (R:∀i∈vs1,i∈own.map (·.2)) (L:∀j∈js,j∈own.map (·.2)) (m:∀j∈js1,j∈vs1)
  (G:∀s H C cl fp,QG aj #[[[]]] tg js tgf)
  (Q:∀s H C cl fp,PTs #[[[]]] ifs (lC X.K aj WF tt))
  (l:∀s H C cl fp,QI aj #[[[]]] WF true tg1 iter1 it1)
  (f:∀s H C cl fp,QG aj #[[[]]] tg1 js1 tgf1)
  (p:∀s H C cl fp,PTs #[[[]]] ifs1 (lC X.K aj WF tt1))
  (F:∀s H C cl fp,QE aj #[[[]]] WF elt te) (O:∀x,foldedSetIterable iter X.env x=pure x) (n:∀b x,foldedSetIterable iter1 b x=pure x) :
  SE aj X W q (.Assign [.Name y B] (.ListComp elt [⟨tg,iter,ifs,0⟩,⟨tg1,iter1,ifs1,0⟩] scope cpos) pos) (aV (au j) (gOf (Gu it tgf (own.map (·.2)) tt it1 tgf1 vs1 tt1 te))):=by
 refine PS.weak (ps_setLc2 (g:=Cv X.K aj js tgf) (tt:=lC X.K aj WF tt) (wi1:=tI X.K aj WF true it1) (g1:=Cv X.K aj js1 tgf1) (tt1:=lC X.K aj WF tt1) (te:=tQ X.K aj WF te) hc E S t o J (blkOk_by ok) R (λs H C cl fp=>G s H C cl fp) Q (λs H C cl fp=>l s H C cl fp) (λs H C cl fp=>f s H C cl fp) p (λs H C cl fp=>F s H C cl fp) O n) λD A H ⟨g,Y,M,I,z⟩=>?_;refine af8 L m A H _ ⟨g,Y,M,I,(Out.dY (cX (σ:=A) z)).mono (λd u v a e r=>?_) λx u a c dd e r=>u a g c dd (Gr.ex e) (I.ex e) r⟩;exact u _ a g (Gr.ex e) ((I.ex e).set r)
end
@[simp]def acQ (neg:Bool) (a:LsS Dat) (k:QF) (M:Mo) (b:Env):Out Dat:=(k M b).bind λd=>match d with
 |.str x=>.ok (.bool (neg ^^ (a.lookup x).isSome))
 |_=>.bad
@[simp]def afo (a:LsS Dat) (k:QF) (M:Mo) (b:Env):Out Dat:=(k M b).bind λd=>match d with
 |.str x=>match a.lookup x with
  |some y=>.ok y
  |none=>.bad
 |_=>.bad
section
variable{X:Cx}{aj:aJ}{W:WX}{a:Expr}{fa:QF}{x:Str}{p pos:Pos}{kvs:LsS Dat}{k:Nat}
def ahg{neg:Bool}{d:Addr}(D:afu X.w X.K d kvs)(j:L2.St)(H:Hp)(Q:VK)(h:tQ X.K aj W (acQ neg kvs fa) j H Q) :
  tOp (λx y H Q=>∃(z:Str) (r:Option Value),x=.str z/\y=.ref d/\PySem.W.nsIn X.K d z=some r/\Q (.bl (neg ^^ r.isSome)) H) (tW X.K aj W fa) (tC (.ref d)) j H Q:=by
 let⟨g,s,M,I,h⟩:=h
 refine tW.go I h.bnd λe v f b i r1=>?_;split at b
 .next z=>
  cases jh r1;let⟨q,n,_,_,m⟩:=D
  have c:=m z;cases hk:kvs.lookup z with
  |none=>
   rw[hk]at c b;exact⟨z,none,rfl,rfl,c,b _ f i (.bl _)⟩
  |some o=>
   rw[hk]at c b;let⟨v,u,l,_⟩:=c
   exact⟨z,some u,rfl,rfl,l,b _ f i (.bl _)⟩
 .exact awt b
def opG{neg:Bool}{b:CmpOp}{d:Addr}(_:Room k X.A)(c:(b=.In/\neg=false)\/(b=.NotIn/\neg=true))(D:afu X.w X.K d kvs):OpR X (compareOp b) (λx y H Q=>∃(z:Str) (r:Option Value),x=.str z/\y=.ref d/\PySem.W.nsIn X.K d z=some r/\Q (.bl (neg ^^ r.isSome)) H):=by
 let⟨e,n,D,_⟩:=D
 rcases c with⟨rfl,rfl⟩|⟨rfl,rfl⟩
 .have:=op_in_kd (X:=X) D;simpa only[Bool.false_xor] using this
 .have:=op_notIn_kd (X:=X) D;simpa only[Bool.true_xor] using this
def amX{neg:Bool}{b:CmpOp}(i:Room k X.A)(f:(b=.In/\neg=false)\/(b=.NotIn/\neg=true))(g:mJ X.prog X.w X.K X.mg X.base aj k x (.dic kvs))(r:Gl X x)(q:(x==("__debug__" : Str))=false)(c:QW aj X W a fa):QE aj X W (.Compare a [b] [.Name x p] pos) (acQ neg kvs fa)/\uI aj X W (.Compare a [b] [.Name x p] pos) (dR (acQ neg kvs fa)):=by
 let⟨d,s,D⟩:=g
 have e:PE X (.Name x p) (tC (.ref d)):=pe_glob r s rfl q;refine⟨PE.weak (pe_cmpR (opG i f D) c e (by cases b<;>rfl)) λσ H Q h=>ahg D σ H Q h,PT.weak (pt_cmpR (opG i f D) c e (by cases b<;>rfl)) λσ H Q ⟨g,u,M,I,h⟩=>?_⟩;refine ahg D σ H _ ⟨g,u,M,I,h.bnd.mono (λd m v j l t=>?_) λ_ z=>z⟩;let⟨k,n,o⟩:=Eo t.weak m
 exact⟨k,n,o j l⟩
def anD(g:mJ X.prog X.w X.K X.mg X.base aj k x (.dic kvs))(t:Gl X x)(s:(x==("__debug__" : Str))=false)(q:QW aj X W a fa)(C:PlainIx a):QE aj X W (.Subscript (.Name x p) a pos) (afo kvs fa):=by
 let⟨d,B,j,n,D,_,A⟩:=g
 have r:PE X (.Name x p) (tC (.ref d)):=pe_glob t B rfl s;refine PE.weak (pe_ix ix_kdict r q C) λσ H Q ⟨g,E,M,I,h⟩=>?_;refine tW.go I h.bnd λe v c b i r1=>?_;split at b
 .next z=>
  cases jh r1;have f:=A z;split at b
  .next y hk=>
   rw[hk]at f;let⟨v,u,l,m,o⟩:=f
   exact⟨d,z,v,rfl,rfl,⟨j,n,u,D.at_,D.lit,l,m⟩,b v c i (o g c)⟩
  .exact awt b
 .exact awt b
end
end Rf
namespace L2
open PySem PySem.Spec PyProof.Rows
end L2
namespace Rf
open PySem PySem.Spec PyProof.Rows L2 Evl
def aaC:Inst->Option (List Dat)
 |⟨c,[(f,.lst 0 xs)]⟩=>if (c==""&&f=="")=true then some xs else none
 |_=>none
def agL{i:Inst}{b:List Dat}(h:aaC i=some b):i=lin b:=by
 unfold aaC at h;left
 .left
  .next a=>
   rw[avh]at a;cases h;rw[awB a.1,awB a.2]
  .cases h
 .cases h
def Yo(M:Mo):Dat->Option (Nat×List Dat)
 |.dict [(.none,.int (.ofNat h))]=>((M[h]?).bind aaC).bind λa=>some (h,a)
 |_=>none
def afO{M:Mo}{d:Dat}{n:Nat}{a:List Dat}(h:Yo M d=some (n,a)):d=obj n/\M[n]?=some (lin a):=by
 unfold Yo at h;left
 .obtain⟨g,b,c⟩;cases c;let⟨i,e,f⟩:=avn.mp b
  exact⟨rfl,by rw[e,agL f]⟩
 .cases h
section
variable{K:ave}{aj:aJ}{g:Gh}{H H':Hp}{σ:L2.St}{ρ:Env}{M:Mo}
theorem cP.oth{h:Nat}{f:Str}{v:V}(r:Gr false g g H H')(k:Kd g H)(o:∀b p,g.ow b=some p->H' b=H b):∀{fl:gU},cP K aj g H h f v fl->cP K aj g H' h f v fl
 |.dat _,z=>Rep.gr r k z
 |.lst _ _,⟨l,j,d,a,c,e,i⟩=>⟨l,j,d,(o l _ c).trans a,c,e.gr r k,i⟩
 |.dic _ _,⟨l,d,a,c⟩=>⟨l,d,a,c.chg r k (o l _ a)⟩
theorem bQ.oth{h:Nat}(r:Gr false g g H H')(k:Kd g H)(o:∀b p,g.ow b=some p->H' b=H b):∀{fs:LsS V} {gs:LsS gU},bQ K aj g H h fs gs->bQ K aj g H' h fs gs
 |_,_,.nil=>.nil
 |_,_,.cons z t=>.cons (z.oth r k o) (bQ.oth r k o t)
theorem dH.lin{h:Nat}{a:Addr}{i:Inst}{s:List V}{o:List Dat}(k:Kd g H)(w:dH K aj g H M)(t:g.tbl[h]?=some a)(F:M[h]?=some i)(hc:i.cls="")(u:g.ow a=none)(r:Gr false g g H H')(E:H' a=some (.lst s))(q:∀b,b≠a->H' b=H b)(G:aC K g H' s o):dH K aj g H' (M.set h (lin o)):=by
 have hl:=(avf.mp F).1;have m:∀{c:Nat} {j:Inst},(M.set h (Rf.lin o))[c]?=some j->(c=h/\j=Rf.lin o)\/(c≠h/\M[c]?=some j):=λ{c j} z=>by
  by_cases y:c=h
  .subst y;rw[avt hl]at z;exact .inl ⟨rfl,(avA z).symm⟩
  .rw[avm (Ne.symm y)]at z;exact .inr ⟨y,z⟩
 have v:∀{c:Nat} {l:Addr},c≠h->g.tbl[c]?=some l->l≠a:=λ{c l} n z y=>by
  subst y;exact n (w.inj _ _ _ z t)
 refine⟨by rw[avC];exact w.len,w.inj,λc l j d e f=>?_,λc j e=>?_,λc j e f=>?_,λc l j d e f=>?_,λc l O d e=>?_,w.nc⟩
 .rcases m e with⟨_,rfl⟩|⟨n,z⟩
  .exact absurd rfl f
  .let⟨C,D,fs,x,A,B⟩:=w.ins c l j d z f
   exact⟨C,D,fs,x,(q l (v n d)).trans A,B.oth r k λb p hb=>q b λy=>by subst y;rw[u]at hb;cases hb⟩
 .rcases m e with⟨_,rfl⟩|⟨n,z⟩
  .show([""]:List Str).Nodup
   simp
  .exact w.nd c j z
 .rcases m e with⟨_,rfl⟩|⟨n,z⟩
  .exact absurd rfl f
  .exact w.fd c j z f
 .rcases m e with⟨_,rfl⟩|⟨n,z⟩
  .exact absurd rfl f
  .exact w.tw c l j d z f
 .rcases m e with⟨rfl,z⟩|⟨n,z⟩
  .rw[t]at d;cases d;cases z;exact⟨s,E,u,G⟩
  .let⟨I,J,L,N⟩:=w.li c l O d z
   exact⟨I,(q l (v n d)).trans J,L,N.gr r k⟩
mutual
theorem Rep.ext{g':Gh}(e:∃m,g'.tbl=g.tbl++m):∀{v:V} {d:Dat},lf d=true->Rep K g H v d->Rep K g' H v d
 |_,_,_,.non=>.non
 |_,_,_,.bl b=>.bl b
 |_,_,_,.int i=>.int i
 |_,_,_,.str x=>.str x
 |_,_,f,.tup h t=>.tup h (aC.ext e (by rw[lf]at f;exact f) t)
 |_,_,f,.lst h t=>by rw[lf]at f;cases f
 |_,_,_,.obj h=>.obj (by
  let⟨m,a⟩:=e
  rw[a,avq (avf.mp h).1];exact h)
theorem aC.ext{g':Gh}(e:∃m,g'.tbl=g.tbl++m):∀{b:List V} {a:List Dat},fZ a=true->aC K g H b a->aC K g' H b a
 |_,_,_,.nil=>.nil
 |_,_,f,.cons h t=>.cons (Rep.ext e (by rw[fZ,avh]at f;exact f.1) h) (aC.ext e (by rw[fZ,avh]at f;exact f.2) t)
end
def SInv.ard{n:Nat}{a:Addr}{s c:List V}{u l:List Dat}(I:SInv K aj σ H g ρ M)(k:g.tbl[n]?=some a)(o:M[n]?=some (lin u))(hl:H a=some (.lst s))(p:g.ow a=none)(r:aC K g H c l):SInv K aj σ (upd H a (.lst c)) g ρ (M.set n (lin l))/\Gr false g g H (upd H a (.lst c)):=by
 have hw:g.W a:=afx k;have gr:Gr false g g H (upd H a (.lst c)):=Gr.upd I.kd hl (.inl ⟨hw,rfl⟩);refine⟨⟨I.kd.upd awr,I.wok.lin I.kd k o rfl p gr awA (λb n=>upd_ne n) (r.gr gr I.kd),I.len,λi d h=>?_,λi w h=>?_,I.sep⟩,gr⟩
 .let⟨v,e,f⟩:=I.dat i d h
  exact⟨v,e,f.gr gr I.kd⟩
 .let⟨q,t,e,f,j,m⟩:=I.own i w h
  exact⟨q,t,e,by rw[upd_ne λz=>I.kd.lo _ j (by rw[z];exact hw)];exact f,j,m.gr gr I.kd⟩
end
@[simp]def vo (i:Nat) (M:Mo) (b:Env):Out Dat:=match b[i]? with
 |some #[d]=>(match Yo M d with
  |some (_,a)=>.ok (.list a)
  |none=>.ok d)
 |_=>.bad
def Yn(j:Nat)(f:IF):SF:=λM a=>((f M a).at M).then a λb _=>if fZ b=true then .next (a.set j #[obj M.length]) (M++[lin b]) else .bad
section
variable{X:Cx}{aj:aJ}{W:WX}{e:Expr}{pos:Pos}
def ahs{g:Gh}{H:Hp}{m:L2.St}{l:Env}{M:Mo}{i:Nat}{d:Dat}{n:Nat}{c:List Dat}(I:SInv X.K aj m H g l M)(e:l[i]?=some #[d])(h:Yo M d=some (n,c)):∃a b,m[i]?=some (some (.ref a))/\d=obj n/\g.tbl[n]?=some a/\M[n]?=some (lin c)/\H a=some (.lst b)/\g.ow a=none/\aC X.K g H b c:=by
 let⟨v,r,s⟩:=I.dat i d e
 let⟨rfl,f⟩:=afO h
 let⟨a,rfl,j⟩:=Kh s.weak
 let⟨b,o,p,q⟩:=I.wok.li n a c j f
 exact⟨a,b,r,rfl,j,f,o,p,q⟩
def alA{i:Nat}{x:Str}(l:X.N[i]?=some x)(o:Vis X.env.scope x)(m:(x==("__debug__" : Str))=false)(f:(x==("__classdict__" : Str))=false):QW aj X W (.Name x pos) (vo i):=
 PE.weak (pe_var l o m f) λσ H Q ⟨g,r,M,I,h⟩=>by
  unfold vo at h;left
  .next d e=>
   left
   .next n q j=>
    let⟨a,p,b,_,_,_,c,_,k⟩:=ahs I e j
    exact⟨.ref a,b,h _ H (Ex.refl H) ⟨a,p,rfl,sq_of c,k⟩⟩
   .let⟨v,b,c⟩:=I.dat i d e
    exact⟨v,b,h v H (Ex.refl H) c.weak⟩
  .exact awt h
def amn{j:Nat}{f:IF}(D:Ends)(i:L2.St)(H:Hp)(h:tS X.K aj W false (Yn j f) D i H):tAsg (tFr X.K aj W f) (gName j) D i H:=by
 let⟨g,v,M,I,z⟩:=h
 refine⟨g,v,M,I,?_⟩;unfold Yn at z;cases b:f M v with
 |exc x=>rw[b]at z;exact λa c dd e r=>z i a g c dd (Gr.ex e) (I.ex e) r.fr
 |bad=>rw[b]at z;exact awt z
 |ok d=>
  rw[b]at z;intro l G a n e q r;simp![Out.aqS,aR.ajX]at z;split at z
  .next C=>
   have k:Gr false g (g.push l) H a:=JH e n;have s:=WM (x:=l) I.kd e n q awr;have J:=T5 (c:="") I.kd I.wok e n (.inl rfl)
   have o:(g.push l).tbl[M.length]?=some l:=by
    show(g.tbl++[l])[M.length]?=_
    rw[<-I.wok.len,avv (avE _),Nat.sub_self];rfl
   have B:(g.push l).ow l=none:=by
    show g.ow l=none;cases E:g.ow l with
    |none=>rfl
    |some p=>
     let⟨u,m,_⟩:=I.kd.ob l (.inl (.inr (by rw[E];exact λy=>nomatch y)))
     rw[n]at m;cases m
   have F:aC X.K (g.push l) a G d:=aC.ext (g:=g.add l) ⟨[l],rfl⟩ C r;have A:(M++[(⟨"",[]⟩:Inst)])[M.length]?=some ⟨"",[]⟩:=by rw[avv (avE _),Nat.sub_self];rfl
   have t:=J.lin s o A rfl B Gr.refl q (λ_ _=>rfl) F;have w:(M++[(⟨"",[]⟩:Inst)]).set M.length (lin d)=M++[lin d]:=by rw[List.set_append_right _ _ (avE _),Nat.sub_self];rfl
   rw[w]at t;exact z _ a (g.push l) k ((I.grow k e rfl s t).set (.obj o))
  .exact awt z
def aoj{j:Nat}{x:Str}{f:IF}{a:Pos}(b:X.N.Nodup)(g:X.N[j]?=some x)(k:Loc X.env.scope x)(d:X.fn x=true\/X.env.scope.names.lookup x=some .local)(c:FE aj X W e f)(i:swapsWith e (some (.Name x a)) pos.line X.env=pure false):SE aj X W false (.Assign [.Name x a] e pos) (Yn j f):=
 PS.weak (ps_set b g k c i d) λD l H h=>amn D l H h
end
structure Hs where
 Ms:List (Str×List (Str×MV))
 ft:Ft
 xm:List (Str×List (Str×Bool))
 df:List (Str×Bool)
 xf:List (Str×List Str)
structure W3(P:Program)(w:World)(K:ave)(mg:Str->Option Value)(base:Heap)(aj:aJ)(k:Nat)(h:Hs):Prop where
 ms:∀m tb,h.Ms.lookup m=some tb->∀c v,tb.lookup c=some v->Gg P w K mg base aj k c m v
 fk:PN h.ft aj
 co:jP K aj
 hw:aj.w=w
 xm:∀y tab,h.xm.lookup y=some tab->(∃D,aj y=some D)/\afq K aj y λx=>tab.lookup x
 xf:∀y fs,h.xf.lookup y=some fs->∃C,aj y=some C/\XfC K C/\∀f∈fs,PySem.W.findIn K (.ref C) f=some none
structure Tc where
 N:List Str
 sc:Scope
 G:List (Str×GV)
 B:List Str
 hs:Hs
 ml:List Str
 top:Bool
structure Amb(aj:aJ)(c:Tc)(X:Cx)(W:WX)(k:Nat):Prop where
 hN:X.N=c.N
 hs:X.env.scope=c.sc
 calm:X.calm=true
 nd:X.N.Nodup
 tk:Takes X W
 rm:Room k X.A
 gl:∀x v,c.G.lookup x=some v->mJ X.prog X.w X.K X.mg X.base aj k x v
 bl:∀x,x∈c.B->X.mg x=none
 fn:c.top=true->∀x,X.fn x=true
 hk:W3 X.prog X.w X.K X.mg X.base aj k c.hs
def Amb.tw{aj:aJ}{c:Tc}{X:Cx}{W:WX}{k:Nat}(a:Amb aj c X W k){x:Str}{v:GV}(h:c.G.lookup x=some v)(b:v.soft=true):Takes X W:=
 a.tk
def Amb.tm{aj:aJ}{c:Tc}{X:Cx}{W:WX}{k:Nat}(a:Amb aj c X W k){m:Str}{tb:List (Str×MV)}(h:c.hs.Ms.lookup m=some tb):Takes X W:=
 a.tk
def gd{a:Type}(b:Bool)(o:Option a):Option a:=match b with
 |true=>o
 |false=>none
def aG{a:Type}{b:Bool}{o:Option a}{x:a}:gd b o=some x↔b=true/\o=some x:=by
 cases b
 .exact⟨λh=>(nomatch h),λh=>(nomatch h.1)⟩
 .exact⟨λh=>⟨rfl,h⟩,λh=>h.2⟩
def idx:List Str->Str->Option Nat
 |[],_=>none
 |y::a,x=>match y==x with
  |true=>some 0
  |false=>(idx a x).map (· + 1)
theorem WY:∀{N:List Str} {x:Str} {i:Nat},idx N x=some i->N[i]?=some x
 |[],_,_,h=>nomatch h
 |y::ys,x,i,h=>by
  rw[idx]at h;left
  .next e=>
   cases h;rw[List.getElem?_cons_zero,awB e]
  .rw[avU]at h;let⟨j,a,rfl⟩:=h
   rw[List.getElem?_cons_succ];exact WY a
def aia(a:Scope)(x:Str):Bool:=match a.names.lookup x with
 |some .local=>true
 |some .cell=>true
 |some .free=>true
 |_=>false
def alh{a:Scope}{x:Str}(h:aia a x=true):Vis a x:=by
 unfold aia at h;unfold Vis;left
 .next e=>exact .inl e
 .next e=>exact .inr (.inl e)
 .next e=>exact .inr (.inr e)
 .cases h
def vU(x:Str):Bool:=(x==("__debug__" : Str)) || (x==("__classdict__" : Str))
def jf{x:Str}(h:vU x=false):(x==("__debug__" : Str))=false/\(x==("__classdict__" : Str))=false:=by unfold vU at h;rw[Bool.or_eq_false_iff]at h;exact h
def wL(a:Scope)(x:Str):Bool:=match a.names.lookup x with
 |some .globalImplicit=>true
 |_=>false
def zu(c:Tc)(x:Str):Option Nat:=gd (aia c.sc x&&!vU x) (idx c.N x)
def aoo(c:Tc)(x:Str):Bool:=match c.sc.names.lookup x with
 |some .local=>true
 |some .cell=>c.top
 |_=>false
def qm(c:Tc)(x:Str):Option Nat:=gd (aoo c x) (idx c.N x)
section
variable{aj:aJ}{c:Tc}{X:Cx}{W:WX}{k:Nat}{x:Str}{i:Nat}
def lW(a:Amb aj c X W k)(h:wL c.sc x=true):Gl X x:=by
 unfold wL at h;unfold Gl PySem.Env.kindOf;rw[a.hs];left
 .assumption
 .cases h
def rG(a:Amb aj c X W k)(h:zu c x=some i):X.N[i]?=some x/\Vis X.env.scope x/\(x==("__debug__" : Str))=false/\(x==("__classdict__" : Str))=false:=by
 let⟨b,f⟩:=aG.mp h
 rw[avh]at b;let⟨d,e⟩:=jf (by simpa using b.2)
 exact⟨by rw[a.hN];exact WY f,by rw[a.hs];exact alh b.1,d,e⟩
def jm(a:Amb aj c X W k)(h:qm c x=some i):X.N[i]?=some x/\L2.Loc X.env.scope x/\(X.fn x=true\/X.env.scope.names.lookup x=some .local):=by
 let⟨b,d⟩:=aG.mp h
 unfold aoo at b;refine⟨by rw[a.hN];exact WY d,?_⟩;rw[a.hs];unfold L2.Loc;split at b
 .next e=>exact⟨.inl e,.inr e⟩
 .next e=>exact⟨.inr e,.inl (a.fn b x)⟩
 .cases b
def vY(c:Tc)(x y:Str):Bool:=(x==y)&&(wL c.sc x&&c.B.contains x)
def oY{y:Str}(a:Amb aj c X W k)(h:vY c x y=true):x=y/\Gl X x/\X.mg x=none:=by unfold vY at h;rw[avh,avh]at h;exact⟨awB h.1,lW a h.2.1,a.bl x (by simpa using h.2.2)⟩
end
def yr:Expr->Bool
 |.Set _ _ _=>true
 |_=>false
def rK{b:Expr}{a:CmpOp}(h:yr b=false):behindInMarks a b=false:=by cases b<;>first | rfl | cases h
def ZX{b c:Expr}{d a:CmpOp}(h:yr c=false):lastMarks [d,a] [b,c]=false:=rK h
def qP{e:Expr}{a:PySem.Env}(h:yr e=false):∀x,foldedSetIterable e a x=pure x:=λx=>by
 cases e<;>first | rfl | cases h
def W4:Expr->Bool
 |.Slice _ _ _ _=>true
 |_=>false
def aph:Operator->Option (Dat->Dat->Out Dat)
 |.Add=>some cY
 |.Sub=>some qU
 |.Mult=>some yw
 |.FloorDiv=>some Fy
 |.Mod=>some jY
 |.Pow=>some TX
 |_=>none
def Kz:CmpOp->Option (Dat->Dat->Out Dat)
 |.Eq=>some yD
 |.NotEq=>some Ae
 |.Lt=>some Qn
 |.LtE=>some qd
 |.Gt=>some Ve
 |.GtE=>some geD
 |.In=>some (inD false)
 |.NotIn=>some (inD true)
 |_=>none
def ak0{a:Operator}{o:Dat->Dat->Out Dat}(h:aph a=some o)(X:Cx)(aj:aJ)(W:WX):∃r,OpR X (binaryOp a) r/\qb aj X.K W o r:=by
 cases a<;>cases h
 .exact⟨_,akI,apd⟩
 .exact⟨_,op_sub,aps⟩
 .exact⟨_,op_mul,an3⟩
 .exact⟨_,op_mod,anN⟩
 .exact⟨_,op_pow,aoD⟩
 .exact⟨_,op_fdiv,apo⟩
def yG{c:CmpOp}{o:Dat->Dat->Out Dat}(h:Kz c=some o){X:Cx}{k:Nat}(b:Room k X.A)(aj:aJ)(W:WX):∃r,OpR X (compareOp c) r/\qb aj X.K W o r:=by
 have a:X.A.units+65<cLine:=by have:=b.un;omega
 cases c<;>cases h
 .exact⟨_,anJ b.units,aqJ⟩
 .exact⟨_,aoH b.units,aqP⟩
 .exact⟨_,aoN a,apI⟩
 .exact⟨_,op_le,aqf⟩
 .exact⟨_,op_gt,apB⟩
 .exact⟨_,op_ge,aqe⟩
 .exact⟨_,am6 a,ajy⟩
 .exact⟨_,ahD a,ajy⟩
def Il:Expr->Option Dat
 |.Constant .none _ _=>some .none
 |.Constant (.bool b) _ _=>some (.bool b)
 |_=>none
def Qs{e:Expr}{d:Dat}{X:Cx}(h:Il e=some d):∃v,scD d=some v/\(v=.non\/∃b,v=.bl b)/\PE X e (tC v):=by
 unfold Il at h;left
 .cases h;exact⟨_,rfl,.inl rfl,pe_non⟩
 .cases h;exact⟨_,rfl,.inr ⟨_,rfl⟩,pe_bl⟩
 .cases h
def isN:CmpOp->Option Bool
 |.Is=>some false
 |.IsNot=>some true
 |_=>none
def Wj{a:CmpOp}{neg:Bool}{v:V}{X:Cx}(h:isN a=some neg)(c:v=.non\/∃b,v=.bl b):OpR X (compareOp a) (Tv neg v):=by
 cases a<;>cases h
 .exact ao9 c
 .exact ahk c
def b1D(x:Str):Option (Dat->Out Dat):=
 if x=="len" then some iQ else if x=="abs" then some Yu else if x=="sum" then some acA else if x=="max" then some maxD else if x=="all" then some Mh else if x=="any" then some S9
 else if x=="tuple" then some lX else if x=="list" then some HS else if x=="int" then some intD else
 if x=="str" then some abH else
 none
def b2D(x:Str):Option (Dat->Dat->Out Dat):=if x=="max" then some wZ else if x=="min" then some xM else none
def aoz{x:Str}{o:Dat->Out Dat}{X:Cx}(hc:X.calm=true)(h:b1D x=some o)(aj:aJ)(W:WX):∃(f:Value) (id:String) (r:List V->Hp->VK->Prop),(f=.builtin id\/f=.type id)/\CallR X f r/\Kg aj X.K W o r/\BV f x:=by
 unfold b1D at h;left
 .next e=>cases h;cases awB e;exact⟨_,_,_,.inl rfl,am8,anW,#[[]],#[()],#[()]⟩
 left
 .next e=>cases h;cases awB e;exact⟨_,_,_,.inl rfl,call_abs,apn,#[[]],#[()],#[()]⟩
 left
 .next e=>cases h;cases awB e;exact⟨_,_,_,.inl rfl,cr_sum hc,aow,#[[]],#[()],#[()]⟩
 left
 .next e=>cases h;cases awB e;exact⟨_,_,_,.inl rfl,cr_max hc,ama,#[[]],#[()],#[()]⟩
 left
 .next e=>cases h;cases awB e;exact⟨_,_,_,.inl rfl,cr_all hc,apk,#[[]],#[()],#[()]⟩
 left
 .next e=>cases h;cases awB e;exact⟨_,_,_,.inl rfl,cr_any hc,aoL,#[[]],#[()],#[()]⟩
 left
 .next e=>cases h;cases awB e;exact⟨_,_,_,.inr rfl,call_tuple_of,aik,#[[]],#[()],#[()]⟩
 left
 .next e=>cases h;cases awB e;exact⟨_,_,_,.inr rfl,call_list_of,ak8,#[[]],#[()],#[()]⟩
 left
 .next e=>cases h;cases awB e;exact⟨_,_,_,.inr rfl,aoP,anf,#[[]],#[()],#[()]⟩
 left
 .next e=>cases h;cases awB e;exact⟨_,_,_,.inr rfl,call_str_int,amq,#[[]],#[()],#[()]⟩
 .cases h
def apw{x:Str}{o:Dat->Dat->Out Dat}{X:Cx}(hc:X.calm=true)(h:b2D x=some o)(aj:aJ)(W:WX):∃(f:Value) (id:String) (r:List V->Hp->VK->Prop),(f=.builtin id\/f=.type id)/\CallR X f r/\Fn2 aj X.K W o r/\BV f x:=by
 unfold b2D at h;left
 .next e=>cases h;cases awB e;exact⟨_,_,_,.inl rfl,call_max2 hc,aks,#[[]],#[()],#[()]⟩
 left
 .next e=>cases h;cases awB e;exact⟨_,_,_,.inl rfl,call_min2 hc,al5,#[[]],#[()],#[()]⟩
 .cases h
def tyN(x:Str):Option O2:=if x=="int" then some .int else if x=="bool" then some .bool else if x=="str" then some .str else if x=="tuple" then some .tuple else if x=="list" then some .list else none
def aol{x:Str}{t:O2}(h:tyN x=some t):BV (.type t.name) x:=by
 unfold tyN at h;left
 .next e=>cases h;cases awB e;exact⟨#[[]],#[()],#[()]⟩
 left
 .next e=>cases h;cases awB e;exact⟨#[[]],#[()],#[()]⟩
 left
 .next e=>cases h;cases awB e;exact⟨#[[]],#[()],#[()]⟩
 left
 .next e=>cases h;cases awB e;exact⟨#[[]],#[()],#[()]⟩
 left
 .next e=>cases h;cases awB e;exact⟨#[[]],#[()],#[()]⟩
 .cases h
structure Tr where
 E:Tc->Expr->Option QF
 W:Tc->Expr->Option QF
 T:Tc->Expr->Option QT
 I:Tc->Bool->Expr->Expr->Option IF
structure Tr.Ok(t:Tr):Prop where
 oe:∀{aj:aJ} {c:Tc} {X:Cx} {W:WX} {k:Nat},Amb aj c X W k->∀{e:Expr} {f:QF},t.E c e=some f->QE aj X W e f
 ow:∀{aj:aJ} {c:Tc} {X:Cx} {W:WX} {k:Nat},Amb aj c X W k->∀{e:Expr} {f:QF},t.W c e=some f->QW aj X W e f
 ot:∀{aj:aJ} {c:Tc} {X:Cx} {W:WX} {k:Nat},Amb aj c X W k->∀{e:Expr} {f:QT},t.T c e=some f->uI aj X W e f
 oi:∀{aj:aJ} {c:Tc} {X:Cx} {W:WX} {k:Nat},Amb aj c X W k->∀{firm:Bool} {tg e:Expr} {f:IF},t.I c firm tg e=some f->QI aj X W firm tg e f
def JG(t:Tr)(c:Tc):List Expr->Option QA
 |[]=>some bZ
 |a::b=>gd (nst a) ((t.E c a).bind λfa=>(JG t c b).bind λd=>some (aam fa d))
section
variable{aj:aJ}{c:Tc}{X:Cx}{W:WX}{k:Nat}{t:Tr}
theorem u5(o:t.Ok)(a:Amb aj c X W k):∀{b:List Expr} {f:QA},JG t c b=some f->Jo aj X W b f/\b.all nst=true/\∀M g i,f M g=.ok i->i.length=b.length
 |[],f,h=>by
  cases h;exact⟨ame,rfl,λM g i e=>by cases e;rfl⟩
 |e::b,f,h=>by
  rw[JG,aG]at h;let⟨m,h⟩:=h
  obtain⟨fa,q,h⟩;obtain⟨p,r,h⟩;cases h;let⟨s,u,v⟩:=u5 o a r
  refine⟨akq (o.oe a q) s (bH m b),by simp[m,u],λM g i e=>?_⟩;unfold aam at e;cases l:fa M g with
  |ok d=>
   rw[l]at e;cases j:p M g with
   |ok n=>
    rw[j]at e;cases e;simp[v M g n j]
   |exc y=>rw[j]at e;cases e
   |bad=>rw[j]at e;cases e
  |exc y=>rw[l]at e;cases e
  |bad=>rw[l]at e;cases e
end
def trO(t:Tr)(c:Tc):Option Expr->Option QO
 |none=>some uW
 |some a=>(t.W c a).bind λfa=>some (kZ fa)
def JR{aj:aJ}{c:Tc}{X:Cx}{W:WX}{k:Nat}{t:Tr}(o:t.Ok)(a:Amb aj c X W k){e:Option Expr}{f:QO}(h:trO t c e=some f):QOe aj X W e f:=by
 cases e with
 |none=>cases h;exact alz
 |some e=>
  obtain⟨fa,b,h⟩;cases h;exact al7 (o.ow a b)
def acs(c:Tc):List Expr->Option (List Nat)
 |[]=>some []
 |.Name x _::a=>(qm c x).bind λi=>(acs c a).bind λjs=>some (i::js)
 |_::_=>none
def YM(c:Tc):Expr->Option (List Nat×ig)
 |.Name x _=>(qm c x).bind λi=>some ([i],au i)
 |.Tuple b _ _=>(acs c b).bind λa=>some (a,aX a)
 |_=>none
theorem X7{aj:aJ}{c:Tc}{X:Cx}{W:WX}{k:Nat}(a:Amb aj c X W k):∀{d:List Expr} {b:List Nat},acs c d=some b->V9 X d b
 |[],b,h=>by cases h;trivial
 |.Name x p::d,b,h=>by
  rw[acs]at h;obtain⟨i,e,h⟩;obtain⟨r,f,h⟩;cases h;let⟨g,j,l⟩:=jm a e
  exact⟨g,j,l,X7 a f⟩
def yW{aj:aJ}{c:Tc}{X:Cx}{W:WX}{k:Nat}(a:Amb aj c X W k){e:Expr}{d:List Nat}{f:ig}(h:YM c e=some (d,f)):QG aj X e d f:=by
 unfold YM at h;left
 .obtain⟨i,b,h⟩;cases h;let⟨j,l,m⟩:=jm a b
  exact Xv a.nd j l m
 .obtain⟨g,b,h⟩;cases h;exact afK a.calm a.nd (X7 a b)
 .cases h
def Tc.inn(c:Tc)(a:Scope):Tc:={ c with sc:=relS a c.sc,top:=false }
theorem Amb.inn{aj:aJ}{c:Tc}{X:Cx}{W:WX}{k:Nat}(a:Amb aj c X W k)(scope:Scope)(s:Shared)(H:Hp)(C:Addr)(cl:LsS Addr)(fp:List Addr):Amb aj (c.inn scope) #[[[]]] WF k where
 hN:=a.hN
 hs:=by show relS scope X.env.scope=relS scope c.sc;rw[a.hs]
 calm:=a.calm
 nd:=a.nd
 tk:=amI
 rm:=a.rm
 gl:=a.gl
 bl:=a.bl
 fn:=λz=>nomatch z
 hk:=a.hk
def Tw:List Expr->List Nat->LsS Nat
 |.Name x _::es,j::js=>(x,j)::Tw es js
 |_,_=>[]
def qY:Expr->List Nat->LsS Nat
 |.Name x _,[j]=>[(x,j)]
 |.Tuple es _ _,a=>Tw es a
 |_,_=>[]
def Uj(a b:List Nat):Bool:=a.all λj=>b.contains j
def tO{a b:List Nat}(h:Uj a b=true):∀j∈a,j∈b:=λj c=>by
 have:=avx.mp h j c;simpa using this
def Xj(t:Tr)(c:Tc):List Expr->Option QT
 |[]=>some gQ
 |[a]=>t.T c a
 |_=>none
def PTs.weak{X:Cx}{e:List Expr}{t b:TT}(h:PTs X e t)(k:∀a H Q,b a H Q->t a H Q):PTs X e b:=⟨λpins s a H Q I q=>h.run pins s a H Q I (k a H Q q)⟩
def Bt{aj:aJ}{c:Tc}{X:Cx}{W:WX}{k:Nat}{t:Tr}(o:t.Ok)(a:Amb aj c X W k){b:List Expr}{f:QT}(h:Xj t c b=some f):PTs X b (lC X.K aj W f):=by
 unfold Xj at h;left
 .cases h;exact PTs.weak pts_nil λσ H Q ⟨g,d,M,I,z⟩=>z H (Ex.refl H)
 .exact pts_one (o.ot a h)
 .cases h
def abE(t:Tr)(c:Tc)(e d b:Expr)(f:List Expr)(a:Scope):Option QF:=
 (t.I c false d b).bind λg=>(YM (c.inn a) d).bind λjt=>(Xj t (c.inn a) f).bind λtt=>(t.E (c.inn a) e).bind λte=>
  gd (blkC c.N c.sc a (qY d jt.1)&&(Uj jt.1 ((qY d jt.1).map (·.2))&&!yr b)) (some (eO g jt.2 ((qY d jt.1).map (·.2)) tt te))
def aeF{aj:aJ}{c:Tc}{X:Cx}{W:WX}{k:Nat}{t:Tr}(o:t.Ok)(a:Amb aj c X W k){g m d:Expr}{j:List Expr}{b:Scope}{pos:Pos}{f:QF}(h:abE t c g m d j b=some f):QE aj X W (.ListComp g [⟨m,d,j,0⟩] b pos) f:=by
 unfold abE at h;obtain⟨x,r,h⟩;obtain⟨⟨y,A⟩,u,h⟩;obtain⟨B,v,h⟩;obtain⟨z,w,h⟩;let⟨l,h⟩:=aG.mp h
 cases h;simp![avh,avB]at l;let⟨n,p,q⟩:=l
 exact apF a.calm a.nd (o.oi a r) (by rw[a.hN,a.hs];exact n) (tO p) (λs H C e i=>yW (a.inn b s H C e i) u) (λs H C e i=>Bt o (a.inn b s H C e i) v) (λs H C e i=>o.oe (a.inn b s H C e i) w) (qP q)
def acE(t:Tr)(c:Tc)(x:Str)(e:Expr)(a:List Expr):Option QF:=match c.G.lookup x with
 |some (.fq n m)=>(JG t c (e::a)).bind λas=>gd (wL c.sc x&&(!vU x&&decide ((e::a).length=n))) (some (aQ m as))
 |some _=>none
 |none=>match a with
  |[]=>(b1D x).bind λo=>(t.W c e).bind λfa=>gd (vY c x x&&nst e) (some (dG o fa))
  |[.Name y p]=>match x=="isinstance" with
   |true=>(tyN y).bind λd=>(t.W c e).bind λfa=>gd (vY c x x&&(vY c y y&&nst e)) (some (zf d fa))
   |false=>(b2D x).bind λo=>(t.W c e).bind λfa=>(t.W c (.Name y p)).bind λb=>gd (vY c x x&&nst e) (some (aK o fa b))
  |[e2]=>(b2D x).bind λo=>(t.W c e).bind λfa=>(t.W c e2).bind λb=>gd (vY c x x&&(nst e&&nst e2)) (some (aK o fa b))
  |_=>none
def agS{aj:aJ}{c:Tc}{X:Cx}{W:WX}{k:Nat}{x:Str}{o:Dat->Dat->Out Dat}{a b:Expr}{fa i:QF}{p pos:Pos}(g:Amb aj c X W k)(h:b2D x=some o)(d:vY c x x=true)(j:QW aj X W a fa)(l:QW aj X W b i)(s:nst a=true)(e:nst b=true):QE aj X W (.Call (.Name x p) [a,b] [] pos) (aK o fa i):=by
 let⟨f,id,r,m,hc,q,t⟩:=apw g.calm h aj W
 let⟨_,d,n⟩:=oY g d
 exact aqz m hc q d n t j l s e
def agX{aj:aJ}{c:Tc}{X:Cx}{W:WX}{k:Nat}{t:Tr}(o:t.Ok)(a:Amb aj c X W k){x:Str}{e:Expr}{A:List Expr}{p pos:Pos}{f:QF}(h:acE t c x e A=some f):QE aj X W (.Call (.Name x p) (e::A) [] pos) f:=by
 unfold acE at h;left
 .next n m B=>
  obtain⟨as,d,h⟩;let⟨b,h⟩:=aG.mp h
  cases h;simp![avh,avB,awu]at b;let⟨l,q,s⟩:=b
  let⟨fa,i,hk,R,S,j,I,L,G,F⟩:=a.gl x _ B
  let⟨N,O,Q⟩:=u5 o a d
  exact alH (passAt (a.tw B rfl)) F (a.rm.mono I) (lW a l) i hk G N (s.trans L.symm) (jf q).1 O Q
 .cases h
 .left
  .obtain⟨C,d,h⟩;obtain⟨fa,g,h⟩;let⟨b,h⟩:=aG.mp h
   cases h;rw[avh]at b;let⟨f,id,r,H,hc,J,M⟩:=aoz a.calm d aj W
   let⟨_,v,i⟩:=oY a b.1
   exact ajp H hc J v i M (o.ow a g) b.2
  .left
   .next D=>
    obtain⟨U,d,h⟩;obtain⟨fa,g,h⟩;let⟨b,h⟩:=aG.mp h
    cases h;simp![avh]at b;let⟨l,q,s⟩:=b
    let⟨_,v,i⟩:=oY a l
    let⟨_,y,z⟩:=oY a q
    cases awB D;exact anr v i ⟨#[[]],#[()],#[()]⟩ y z (aol d) (o.ow a g) s
   .obtain⟨C,d,h⟩;obtain⟨fa,g,h⟩;obtain⟨E,u,h⟩;let⟨b,h⟩:=aG.mp h
    cases h;rw[avh]at b;exact agS a d b.1 (o.ow a g) (o.ow a u) b.2 rfl
  .obtain⟨C,d,h⟩;obtain⟨fa,g,h⟩;obtain⟨E,u,h⟩;let⟨b,h⟩:=aG.mp h
   cases h;simp![avh]at b;exact agS a d b.1 (o.ow a g) (o.ow a u) b.2.1 b.2.2
  .cases h
def stE(t:Tr)(c:Tc):Expr->Option QF
 |.Name x _=>(match zu c x with
  |some i=>some (zE i)
  |none=>match c.G.lookup x with
   |some (.con d)=>gd (wL c.sc x&&!vU x) (some (qC d))
   |_=>none)
 |.Constant (.int i) _ _=>some (qC (.int i))
 |.Constant (.str x) _ _=>some (qC (.str x))
 |.Constant (.bool x) _ _=>some (qC (.bool x))
 |.Constant .none _ _=>some (qC .none)
 |.BinOp a g b _=>(aph g).bind λo=>(t.W c a).bind λfa=>(t.W c b).bind λf=>some (aK o fa f)
 |.UnaryOp .USub a _=>(t.W c a).bind λfa=>some (dG Um fa)
 |.UnaryOp .Not a _=>(t.W c a).bind λfa=>some (Wg fa)
 |.BoolOp _ [a] _=>t.E c a
 |.BoolOp .And (a::b::r) p=>(t.E c a).bind λfa=>(t.E c (.BoolOp .And (b::r) p)).bind λf=>some (Cm fa f)
 |.Compare a [g] [b] _=>(match isN g with
  |some neg=>(Il b).bind λd=>(t.W c a).bind λfa=>some (yK neg d fa)
  |none=>(Kz g).bind λo=>(t.W c a).bind λfa=>(t.W c b).bind λf=>gd (!yr b) (some (aK o fa f)))
 |.Compare a [g,k] [b,l] _=>(Kz g).bind λo=>(Kz k).bind λu=>(t.W c a).bind λfa=>(t.W c b).bind λf=>(t.W c l).bind λm=>gd (!yr l) (some (qOf (lZ o u fa f m)))
 |.IfExp d a b _=>(t.T c d).bind λv=>(t.E c a).bind λfa=>(t.E c b).bind λf=>some (Om v fa f)
 |.Tuple h _ _=>(JG t c h).bind λj=>some (bh j)
 |.List h _=>(JG t c h).bind λj=>some (uf j)
 |.Subscript a b _=>(match b with
  |.Slice lo s none _=>(t.W c a).bind λfa=>(trO t c lo).bind λq=>(trO t c s).bind λn=>some (RW fa q n)
  |b=>gd (!W4 b) ((t.W c a).bind λfa=>(t.W c b).bind λf=>some (aK Fv fa f)))
 |.ListComp elt [⟨w,iter,ifs,0⟩] scope _=>abE t c elt w iter ifs scope
 |.Call (.Name x _) (e::h) [] _=>acE t c x e h
 |_=>none
def liN(x:Str):Str:="@"++x
def stW(t:Tr)(c:Tc):Expr->Option QF
 |.Name x p=>(match zu c x with
  |some i=>some (match c.ml.contains (liN x) with
   |true=>vo i
   |false=>Wy i)
  |none=>t.E c (.Name x p))
 |e=>t.E c e
def valT:Expr->Bool
 |.UnaryOp .Not _ _=>false
 |.BoolOp _ _ _=>false
 |.IfExp _ _ _ _=>false
 |.Compare _ _ _ _=>false
 |_=>true
def adL{e:Expr}{c:PySem.Env}(h:valT e=true):∀b,isTrue e c b=(do let v <-b;standAt e.pos;holding [v] (truthy v)):=λb=>by
 cases e with
 | UnaryOp o a p=>cases o<;>first | (with_unfolding_all rfl) | cases h
 |BoolOp _ _ _=>cases h
 |IfExp _ _ _ _=>cases h
 |Compare _ _ _ _=>cases h
 |_=>with_unfolding_all rfl
def stT(t:Tr)(c:Tc):Expr->Option QT
 |.UnaryOp .Not a _=>(t.T c a).bind λf=>some (fV f)
 |.BoolOp _ [a] _=>t.T c a
 |.BoolOp .And (a::b::r) p=>(t.T c a).bind λf=>(t.T c (.BoolOp .And (b::r) p)).bind λj=>some (mX f j)
 |.BoolOp .Or (a::b::r) p=>(t.T c a).bind λf=>(t.T c (.BoolOp .Or (b::r) p)).bind λj=>some (Qh f j)
 |.Compare a [g] [b] _=>(match isN g with
  |some neg=>(Il b).bind λd=>(t.W c a).bind λfa=>some (dR (yK neg d fa))
  |none=>(Kz g).bind λo=>(t.W c a).bind λfa=>(t.W c b).bind λh=>gd (!yr b) (some (dR (aK o fa h))))
 |.Compare a [g,i] [b,k] _=>(Kz g).bind λo=>(Kz i).bind λm=>(t.W c a).bind λfa=>(t.W c b).bind λh=>(t.W c k).bind λl=>gd (!yr k) (some (lZ o m fa h l))
 |e=>gd (valT e) ((t.W c e).bind λfa=>some (fH fa))
def trF(t:Tr)(c:Tc)(a:Bool)(e:Expr):Option QF:=match a with
 |true=>t.E c e
 |false=>t.W c e
def isTup:Expr->Bool
 |.Tuple _ _ _=>true
 |_=>false
def stI(t:Tr)(c:Tc)(d:Bool)(g:Expr):Expr->Option IF
 |.Call (.Name x p) [a] [] pos=>(match vY c x "range" with
  |true=>(t.W c a).bind λfa=>gd (nst a) (some (vO fa))
  |false=>match vY c x "enumerate" with
   |true=>(trF t c d a).bind λfa=>gd (nst a&&isTup g) (some (Es 0 fa))
   |false=>(trF t c d (.Call (.Name x p) [a] [] pos)).bind λfa=>some (cH fa))
 |.Call (.Name x p) [a,b] [] pos=>(match vY c x "range" with
  |true=>(t.W c a).bind λfa=>(t.W c b).bind λf=>gd (nst a&&nst b) (some (JT fa f))
  |false=>match vY c x "zip" with
   |true=>(trF t c d a).bind λfa=>(trF t c d b).bind λf=>gd (nst a&&(nst b&&isTup g)) (some (Ip fa f))
   |false=>(trF t c d (.Call (.Name x p) [a,b] [] pos)).bind λfa=>some (cH fa))
 |.Call (.Name x p) [a] [⟨some k,.Constant (.int i) j kp,h⟩] pos=>gd (vY c x "enumerate"&&(k=="start"&&(decide (-(2^63)<=i/\i<2^63)&&(nst a&&isTup g)))) ((trF t c d a).bind λfa=>some (Es i fa))
 |e=>(trF t c d e).bind λfa=>some (cH fa)
def Td{b:Expr}(h:(!W4 b)=true):PlainIx b:=λv i=>by
 cases b<;>first | rfl | cases h
section
variable{aj:aJ}{c:Tc}{X:Cx}{W:WX}{k:Nat}{t:Tr}
def an2(o:t.Ok)(a:Amb aj c X W k){e:Expr}{f:QF}(h:stE t c e=some f):QE aj X W e f:=by
 unfold stE at h;left
 .left
  .next i B=>
   cases h;let⟨F,G,J,L⟩:=rG a B
   exact anP F G J L
  .left
   .next d C=>
    let⟨m,h⟩:=aG.mp h
    cases h;simp![avh,avB]at m;let⟨v,u,b,j,l,_⟩:=a.gl _ _ C
    exact PE.weak (pe_glob (lW a m.1) b j (jf m.2).1) λσ H Q ⟨g,Z,M,I,z⟩=>z v H (Ex.refl H) (l g H)
   .cases h
 .cases h;exact aok
 .cases h;exact amT
 .cases h;exact apZ
 .cases h;exact anm
 .obtain⟨x,b,h⟩;obtain⟨fa,j,h⟩;obtain⟨n,l,h⟩;cases h;let⟨r,r1,p⟩:=ak0 b X aj W
  exact anU r1 p (o.ow a j) (o.ow a l)
 .obtain⟨fa,j,h⟩;cases h;exact am3 (o.ow a j)
 .obtain⟨fa,j,h⟩;cases h;exact akN (o.ow a j)
 .exact pe_one (o.oe a h)
 .obtain⟨fa,j,h⟩;obtain⟨n,l,h⟩;cases h;exact aj0 (o.oe a j) (o.oe a l)
 .left
  .next neg D=>
   obtain⟨d,b,h⟩;obtain⟨fa,j,h⟩;cases h;let⟨v,N,O,P⟩:=Qs (X:=X) b
   refine apT N (Wj D O) (o.ow a j) P (rK ?_);unfold Il at b;split at b<;>first | rfl | cases b
  .obtain⟨x,b,h⟩;obtain⟨fa,j,h⟩;obtain⟨n,l,h⟩;let⟨m,h⟩:=aG.mp h
   cases h;let⟨r,r1,p⟩:=yG b a.rm aj W
   exact akP r1 p (o.ow a j) (o.ow a l) (rK (by simpa using m))
 .obtain⟨x,b,h⟩;obtain⟨E,q,h⟩;obtain⟨fa,j,h⟩;obtain⟨n,l,h⟩;obtain⟨R,A,h⟩;let⟨m,h⟩:=aG.mp h
  cases h;let⟨r,r1,p⟩:=yG b a.rm aj W
  let⟨U,s,w⟩:=yG q a.rm aj W
  exact aij r1 s p w (o.ow a j) (o.ow a l) (o.ow a A) (ZX (by simpa using m))
 .obtain⟨Y,b,h⟩;obtain⟨fa,j,h⟩;obtain⟨n,l,h⟩;cases h;exact aji (o.ot a b) (o.oe a j) (o.oe a l)
 .obtain⟨y,b,h⟩;cases h;exact amd (u5 o a b).1
 .obtain⟨y,b,h⟩;cases h;exact al9 (u5 o a b).1
 .left
  .obtain⟨fa,b,h⟩;obtain⟨T,j,h⟩;obtain⟨S,l,h⟩;cases h;exact aqm (o.ow a b) (JR o a j) (JR o a l)
  .let⟨m,h⟩:=aG.mp h
   obtain⟨fa,b,h⟩;obtain⟨n,j,h⟩;cases h;exact aqA (o.ow a b) (o.ow a j) (Td m)
 .exact aeF o a h
 .exact agX o a h
 .cases h
def aov(o:t.Ok)(a:Amb aj c X W k){e:Expr}{f:QF}(h:stW t c e=some f):QW aj X W e f:=by
 unfold stW at h;left
 .left
  .next i l=>
   cases h;let⟨b,d,g,j⟩:=rG a l
   split
   .exact alA b d g j
   .exact anO b d g j
  .exact(o.oe a h).w
 .exact(o.oe a h).w
def amZ{a b:Expr}{rest:List Expr}{g f:QT}{pos:Pos}(h:uI aj X W a g)(i:uI aj X W (.BoolOp .And (b::rest) pos) f):uI aj X W (.BoolOp .And (a::b::rest) pos) (mX g f):=by have e:QWt aj X W (.BoolOp .And (b::rest) pos) f:=⟨λwh d s j H Q I q=>i.run d s j H Q I q⟩;exact PW.pt (apr h e)
def aqV{a b:Expr}{rest:List Expr}{g f:QT}{pos:Pos}(h:uI aj X W a g)(i:uI aj X W (.BoolOp .Or (b::rest) pos) f):uI aj X W (.BoolOp .Or (a::b::rest) pos) (Qh g f):=by have e:QWt aj X W (.BoolOp .Or (b::rest) pos) f:=⟨λwh d s j H Q I q=>i.run d s j H Q I q⟩;exact PW.pt (apY h e)
def amt(o:t.Ok)(a:Amb aj c X W k){e:Expr}{f:QT}(h:stT t c e=some f):uI aj X W e f:=by
 unfold stT at h;left
 .obtain⟨s,b,h⟩;cases h;exact ao7 (o.ot a b)
 .next m _ _=>
  cases m
  .exact PW.pt (pw_and1 (o.ot a h))
  .exact PW.pt (pw_or1 (o.ot a h))
 .obtain⟨s,b,h⟩;obtain⟨A,g,h⟩;cases h;exact amZ (o.ot a b) (o.ot a g)
 .obtain⟨s,b,h⟩;obtain⟨A,g,h⟩;cases h;exact aqV (o.ot a b) (o.ot a g)
 .left
  .next neg x=>
   obtain⟨d,b,h⟩;obtain⟨fa,g,h⟩;cases h;let⟨v,B,C,D⟩:=Qs (X:=X) b
   refine aqu B (Wj x C) (o.ow a g) D (rK ?_);unfold Il at b;split at b<;>first | rfl | cases b
  .obtain⟨m,b,h⟩;obtain⟨fa,g,h⟩;obtain⟨u,j,h⟩;let⟨l,h⟩:=aG.mp h
   cases h;let⟨r,r1,p⟩:=yG b a.rm aj W
   exact ane r1 p (o.ow a g) (o.ow a j) (rK (by simpa using l))
 .obtain⟨m,b,h⟩;obtain⟨z,i,h⟩;obtain⟨fa,g,h⟩;obtain⟨u,j,h⟩;obtain⟨E,w,h⟩;let⟨l,h⟩:=aG.mp h
  cases h;let⟨r,r1,p⟩:=yG b a.rm aj W
  let⟨F,n,q⟩:=yG i a.rm aj W
  exact ah4 r1 n p q (o.ow a g) (o.ow a j) (o.ow a w) (ZX (by simpa using l))
 .let⟨y,h⟩:=aG.mp h
  obtain⟨fa,b,h⟩;cases h;exact amV (o.ow a b) (adL y)
def Gy(o:t.Ok)(a:Amb aj c X W k){b:Bool}{e:Expr}{f:QF}(h:trF t c b e=some f):QF' aj X W b e f:=by
 cases b
 .exact o.ow a h
 .exact o.oe a h
def S8{e:Expr}(h:isTup e=true):∃a j p,e=.Tuple a j p:=by cases e<;>first | exact⟨_,_,_,rfl⟩ | cases h
def anR(o:t.Ok)(a:Amb aj c X W k){m:Bool}{s e:Expr}{f:IF}(h:stI t c m s e=some f):QI aj X W m s e f:=by
 unfold stI at h;left
 .left
  .next g=>
   obtain⟨fa,d,h⟩;let⟨b,h⟩:=aG.mp h
   cases h;let⟨rfl,i,l⟩:=oY a g
   exact af6 i l (o.ow a d) b
  .left
   .next g=>
    obtain⟨fa,d,h⟩;let⟨b,h⟩:=aG.mp h
    cases h;let⟨rfl,i,l⟩:=oY a g
    rw[avh]at b;let⟨q,j,p,rfl⟩:=S8 b.2
    exact ak7 i l (Gy o a d) b.1
   .obtain⟨fa,d,h⟩;cases h;exact acM (Gy o a d)
 .left
  .next g=>
   obtain⟨fa,d,h⟩;obtain⟨u,n,h⟩;let⟨b,h⟩:=aG.mp h
   cases h;let⟨rfl,i,l⟩:=oY a g
   rw[avh]at b;exact ahy i l (o.ow a d) (o.ow a n) b.1 b.2
  .left
   .next g=>
    obtain⟨fa,d,h⟩;obtain⟨u,n,h⟩;let⟨b,h⟩:=aG.mp h
    cases h;let⟨rfl,i,l⟩:=oY a g
    simp![avh]at b;let⟨q,j,p,rfl⟩:=S8 b.2.2
    exact ape i l (Gy o a d) (Gy o a n) b.1 b.2.1
   .obtain⟨fa,d,h⟩;cases h;exact acM (Gy o a d)
 .let⟨b,h⟩:=aG.mp h
  obtain⟨fa,d,h⟩;cases h;simp![avh,awu]at b;let⟨g,hk,r,v,w⟩:=b
  let⟨rfl,i,l⟩:=oY a g
  cases awB hk;let⟨q,j,p,rfl⟩:=S8 w
  exact aiB r.1 r.2 i l (Gy o a d) v
 .obtain⟨fa,d,h⟩;cases h;exact acM (Gy o a d)
end
def strsOf:List Dat->Option (List Str)
 |[]=>some []
 |.str x::r=>(strsOf r).map (x::·)
 |_::_=>none
theorem Va{K:ave}{g:Gh}{H:Hp}:∀{f:List V} {a:List Dat} {b:List Str},aC K g H f a->strsOf a=some b->f=b.map V.str
 |_,_,b,.nil,e=>by cases e;rfl
 |_,_,b,.cons (d:=d) (ds:=a) h t,e=>by
  cases d with
  |str i=>
   rw[strsOf]at e;cases c:strsOf a with
   |none=>rw[c]at e;cases e
   |some r=>
    rw[c]at e;cases e;cases h;rw[Va t c];rfl
  |_=>cases e
@[simp]def qSM (o:Str->Dat->Out Dat) (a b:QF) (M:Mo) (c:Env):Out Dat:=(a M c).bind λx=>match x with
 |.str z=>(b M c).bind (o z)
 |_=>.bad
def BJ(x:Str):Dat->Out Dat
 |.list b=>match strsOf b with
  |some a=>Out.when (decide ((a.map λy=>y.length).sum+a.length*x.length<=16777216)) (.ok (.str (Txt.join x a)))
  |none=>.bad
 |_=>.bad
section
variable{X:Cx}{aj:aJ}{W:WX}{a b c:Expr}{fa fb fc:QF}{pos apos:Pos}{k:Nat}
def ap5{e:Expr}{r:V->List V->Hp->VK->Prop}{o:Str->Dat->Out Dat}(l:PE X e (tM1 r (tW X.K aj W fa) (tW X.K aj W fb)))
  (x:∀(m:L2.St) (g:Gh) (H:Hp) (z:Str) (y:V) (d:Dat) (Q:VK),Kd g H->dJ X.K g H y d->(o z d).sat (λt=>∀v f,Ex H f->Rep X.K g f v t->Q v f) (pZ X.K aj W g H m)->r (.str z) [y] H Q):QE aj X W e (qSM o fa fb):=
 PE.weak l λm H Q ⟨g,F,M,I,h⟩=>by
  refine tW.go I h.bnd λd v E p i r1=>?_;have n:=I.ex i;cases d with
  |str z=>
   refine⟨⟨z,jh r1⟩,?_⟩;refine tW.go n (p.bnd.mono (λ_ z=>z) λ_ z=>z.ex i) λd2 D q w j C=>?_;rw[jh r1];exact x m g q z D d2 Q (n.ex j).kd C (w.mono (λt A u f s B=>A u f ((i.trans j).trans s) B) λ_ z=>(z.ex i).ex j)
  |_=>exact awt p
def alW(j:QW aj X W a fa)(l:QW aj X W b fb)(n:nst b=true)(e:baseOk a=true)(m:(apos.endLine==pos.line)=true):QE aj X W (.Call (.Attribute a "join" apos) [b] [] pos) (qSM BJ fa fb):=
 ap5 (pe_join j l (bH n []) (jy e) m) λσ g H z y d Q u r h=>by
  unfold BJ at h;left
  .next t=>
   left
   .next s o=>
    let⟨q,h⟩:=h.lM
    let⟨p,v,rfl,f,i⟩:=gY r
    have:=Va i o;subst this;exact⟨z,p,s,rfl,rfl,.inl f,awv q,h _ H (Ex.refl H) (.str _)⟩
   .exact awt h
  .exact awt h
def Yh:Dat->Out Str
 |.str y=>Out.when (decide (y.length<=100000)) (.ok y)
 |.int i=>Out.when (decide (i.natAbs.log2<1920)) (.ok (Str.ofString (toString i)))
 |_=>.bad
@[simp]def abB (a b:QF) (M:Mo) (f:Env):Out Dat:=(a M f).bind λd=>(Yh d).bind λx=>Out.when (decide (x.length<=100000)) ((b M f).bind λe=>(Yh e).bind λy=>Out.when (decide (x.length+y.length<=100000)) (.ok (.str (x++y))))
def afV{g:Gh}{H:Hp}{v:V}{d:Dat}{P:Str->Prop}{E:cZ->Prop}{R:V->Prop}(r:dJ X.K g H v d)(h:(Yh d).sat P E)(k:∀y,P y->R (.str y)):(∃y:Str,v=.str y/\y.length<=sizeLine/\R (.str y))\/∃i:Int,v=.int i/\i.natAbs.log2<1920/\R (.str (toString i)):=by
 unfold Yh at h;left
 .next y=>
  let⟨e,h⟩:=h.lM
  exact .inl ⟨y,jh r,sz_of (awv e),k _ h⟩
 .next i=>
  let⟨e,h⟩:=h.lM
  exact .inr ⟨i,cC r,awv e,k _ h⟩
 .exact awt h
def amu{A B:Pos}(s:QW aj X W a fa)(t:QW aj X W b fb):QE aj X W (.JoinedStr [.FormattedValue a (-1) none A,.FormattedValue b (-1) none B] pos) (abB fa fb):=
 PE.weak (pe_joined (.cons (pe_fmt s) (.cons (pe_fmt t) .nil))) λσ H Q ⟨g,E,M,I,h⟩=>by
  have f:∀y:Str,Str.empty++y=y:=λy=>by
   apply TL.ext_tl;rw[TL.tl_append];rfl
  refine tW.go I h.bnd λd v e q i r1=>?_;have o:=I.ex i;refine afV (R:=λx=>∃y:Str,x=.str y/\(Str.empty++y).length<=sizeLine/\tJs [tFmt (tW X.K aj W fb)] (Str.empty++y) σ e λout e=>Q (V.str out) e) r1 q.bnd λx j=>?_;let⟨w,j⟩:=j.lM
  refine⟨x,rfl,by rw[f];exact sz_of (awv w),?_⟩;refine tW.go o (j.bnd.mono (λ_ z=>z) λ_ z=>z.ex i) λd2 D n r p C=>?_;refine afV (R:=λz=>∃y:Str,z=.str y/\(Str.empty++x++y).length<=sizeLine/\tJs [] (Str.empty++x++y) σ n λout e=>Q (V.str out) e) C r.bnd λy l=>?_;let⟨m,l⟩:=l.lM
  have u:(x++y).length=x.length+y.length:=Array.size_append;refine⟨y,rfl,by rw[f,u];exact sz_of (awv m),?_⟩;rw[f];exact l _ n (i.trans p) (.str _)
end
def trX(t:Tr)(c:Tc):Expr->Option QF
 |.Call (.Attribute o m apos) [e] [] pos=>gd (m=="join"&&(baseOk o&&(nst e&&(apos.endLine==pos.line)))) ((t.W c e).bind λf=>(t.W c o).bind λg=>some (qSM BJ g f))
 |.JoinedStr [.FormattedValue a h none _,.FormattedValue b i none _] _=>(t.W c a).bind λfa=>(t.W c b).bind λd=>gd (decide (h=-1)&&decide (i=-1)) (some (abB fa d))
 |_=>none
section
variable{aj:aJ}{c:Tc}{X:Cx}{W:WX}{k:Nat}{t:Tr}
def amE(o:t.Ok)(a:Amb aj c X W k){e:Expr}{f:QF}(h:trX t c e=some f):QE aj X W e f:=by
 unfold trX at h;left
 .let⟨b,h⟩:=aG.mp h
  obtain⟨p,d,h⟩;obtain⟨q,g,h⟩;cases h;simp![avh]at b;let⟨i,j,l,m⟩:=b
  cases awB i;exact alW (o.ow a g) (o.ow a d) l j m
 .obtain⟨fa,d,h⟩;obtain⟨n,g,h⟩;let⟨b,h⟩:=aG.mp h
  cases h;simp![avh,awu]at b;let⟨rfl,rfl⟩:=b
  exact amu (o.ow a d) (o.ow a g)
 .cases h
end
def Dg:gU->Bool
 |.dat d=>lf d
 |.lst _ b=>fZ b
 |.dic _ a=>fZ (a.map (·.1))&&fZ (a.map (·.2))
def jo(M:Mo):Bool:=M.all λi=>i.fs.all λp=>Dg p.2
def Zq(b:Bool):Cell->Option Cell
 |.dat d=>if lf d=true then #[d] else none
 |.mut a=>if (b&&fZ a)=true then #[.list a] else none
def Cu(a:List Nat)(b:Env):Env:=b.mapIdx λi o=>o.bind (Zq (a.contains i))
def afl:List Dat->List Dat->Bool
 |.int _::_,.tuple _::_=>true
 |b,a=>!(b.length==a.length)
def Xa(j:Nat)(c:List Nat)(d:Env)(a:List Dat):Bool:=c.all λi=>match d[i]? with
 |some (some (.mut b))=>i==j || afl b a
 |_=>true
def Gh.al(g:Gh)(H:Hp)(k:Addr->Prop):Gh:={ g with Lc:=λa=>(g.Lc a\/g.Lo a\/∃b,H a=some (.lst b))/\¬g.W a/\¬k a,Lo:=λ_=>False,kl:=False }
section
variable{K:ave}{aj:aJ}{W:WX}{q:Bool}{g g':Gh}{H H':Hp}{σ:L2.St}{ρ:Env}{M M':Mo}{k:Addr->Prop}
theorem Kd.al(kd:Kd g H):Kd (g.al H k) H where
 ob:=λa z=>by
  rcases z with z|z|z
  .exact kd.ob a (.inl z)
  .rcases z.1 with y|y|⟨us,y⟩
   .exact kd.ob a (.inr (.inl y))
   .exact kd.ob a (.inr (.inr y))
   .exact⟨_,y,awr⟩
  .exact awt z
 lo:=λ_ z=>awt z
 lc:=λa z=>⟨z.2.1,λy=>y⟩
theorem iU.ext{l:Addr}(e:∃m,g'.tbl=g.tbl++m):∀{b:Bool} {a:List (Dat×Dat)},(fZ (a.map (·.1))&&fZ (a.map (·.2)))=true->iU K aj g H l b a->iU K aj g' H l b a
 |false,_,f,⟨p,c,d,h⟩=>⟨p,c,d,h.ext e (by rw[avh]at f;exact f.2)⟩
 |true,_,f,⟨o,s,r,c,d,h,i,j,n⟩=>by
  rw[avh]at f;exact⟨o,s,r,c,d,h,i.ext e f.1,j,n.ext e f.2⟩
theorem cP.ext{h:Nat}{f:Str}{v:V}(e:∃m,g'.tbl=g.tbl++m)(d:g'.ow=g.ow):∀{fl:gU},Dg fl=true->cP K aj g H h f v fl->cP K aj g' H h f v fl
 |.dat _,f,z=>Rep.ext e f z
 |.lst n _,f,⟨l,p,a,b,c,o,i⟩=>⟨l,p,a,b,by rw[d];exact c,o.ext e f,by
  let⟨m,j⟩:=e
  rw[j,avq (avf.mp i).1];exact i⟩
 |.dic _ _,f,⟨l,a,b,c⟩=>⟨l,a,by rw[d];exact b,c.ext e f⟩
theorem bQ.ext{h:Nat}(e:∃m,g'.tbl=g.tbl++m)(a:g'.ow=g.ow):∀{fs:LsS V} {gs:LsS gU},(gs.all λp=>Dg p.2)=true->bQ K aj g H h fs gs->bQ K aj g' H h fs gs
 |_,_,_,.nil=>.nil
 |_,_,f,.cons z t=>by
  rw[avI,avh]at f;exact .cons (cP.ext e a f.1 z) (bQ.ext e a f.2 t)
def bQ.free{h:Nat}(e:g'.tbl=g.tbl)(a:g'.ow=g.ow){fs:LsS V}{gs:LsS gU}:(gs.all λp=>Dg p.2)=true->bQ K aj g H h fs gs->bQ K aj g' H h fs gs:=bQ.ext ⟨[],by rw[e,avV]⟩ a
theorem dH.free(f:jo M=true)(e:g'.tbl=g.tbl)(e2:g'.ow=g.ow)(w:dH K aj g H M):dH K aj g' H M where
 len:=by rw[e];exact w.len
 inj:=by rw[e];exact w.inj
 ins:=λh a i ha hi hc=>by
  rw[e]at ha;let⟨C,dx,fs,c1,c2,c3⟩:=w.ins h a i ha hi hc
  exact⟨C,dx,fs,c1,c2,c3.free e e2 (avx.mp f i (avo hi))⟩
 nd:=w.nd
 fd:=w.fd
 tw:=by rw[e,e2];exact w.tw
 li:=λh a xs ha hi=>by
  rw[e]at ha;let⟨us,h1,h2,h3⟩:=w.li h a xs ha hi
  have y:=avx.mp f _ (avo hi);rw[avI,avh]at y;exact⟨us,h1,by rw[e2];exact h2,h3.free e y.1⟩
 nc:=w.nc
def Qw{d:List Nat}{i:Nat}{c:Cell}(h:(Cu d ρ)[i]?=some (some c)):∃a,ρ[i]?=some (some a)/\Zq (d.contains i) a=some c:=by
 unfold Cu at h;rw[av3]at h;cases b:ρ[i]? with
 |none=>rw[b]at h;cases h
 |some o=>
  rw[b]at h;cases o with
  |none=>cases h
  |some a=>exact⟨a,rfl,avA h⟩
def Qu{b:Bool}{c:Cell}{e:Cell}(h:Zq b c=some e):∃d,e=.dat d/\((c=.dat d/\lf d=true)\/∃a,d=.list a/\c=.mut a/\(b&&fZ a)=true):=by
 cases c with
 |dat d=>
  have h:(if lf d=true then some (Cell.dat d) else none)=some e:=h;by_cases f:lf d=true
  .rw[awy f]at h;exact⟨d,(avA h).symm,.inl ⟨rfl,f⟩⟩
  .rw[awz f]at h;cases h
 | «mut» a=>
  have h:(if (b&&fZ a)=true then some (Cell.dat (.list a)) else none)=some e:=h;by_cases f:(b&&fZ a)=true
  .rw[awy f]at h;exact⟨.list a,(avA h).symm,.inr ⟨a,rfl,rfl,f⟩⟩
  .rw[awz f]at h;cases h
def cI(b:List Nat)(σ:L2.St)(ρ:Env)(a:Addr):Prop:=∃i c,i∈b/\σ[i]?=some (some (.ref a))/\(Cu b ρ)[i]?=some #[.list c]
theorem SInv.al(vs:List Nat)(I:SInv K aj σ H g ρ M)(f:jo M=true):SInv K aj σ H (g.al H (cI vs σ ρ)) (Cu vs ρ) M where
 kd:=I.kd.al
 wok:=dH.free (g:=g) f rfl rfl I.wok
 len:=by unfold Cu;rw[List.length_mapIdx];exact I.len
 dat:=λi d h=>by
  let⟨c',h4,h5⟩:=Qw h
  let⟨d',e1,e3⟩:=Qu h5
  cases e1;rcases e3 with⟨rfl,e2⟩|⟨ds',e3,rfl,e2⟩
  .let⟨v,g1,g2⟩:=I.dat i _ h4
   exact⟨v,g1,Rep.free (g:=g) (g':=g.al H (cI vs σ ρ)) rfl e2 g2⟩
  .cases e3;let⟨l,us,g1,g2,g3,g4⟩:=I.own i _ h4
   rw[avh]at e2;refine⟨_,g1,.lst (.inl ⟨g2,λz=>?_⟩) (aC.free (g:=g) (g':=g.al H (cI vs σ ρ)) rfl e2.2 g4)⟩;rcases z with z|z|z
   .exact I.kd.lo _ g3 z
   .exact z.2.2 ⟨i,_,by simpa using e2.1,g1,h⟩
   .exact z
 own:=λi xs h=>by
  let⟨c',h4,h5⟩:=Qw h
  let⟨d',e1,_⟩:=Qu h5
  cases e1
 sep:=λi j xs ys l ne h=>by
  let⟨c',h4,h5⟩:=Qw h
  let⟨d',e1,_⟩:=Qu h5
  cases e1
def akU{i:Gh}{h:List V}{d c:List Dat}(e:aC K g H h d)(f:aC K i H' h c):afl d c=false:=by
 unfold afl;split
 .cases e with
  |cons a _=>cases a;cases f with
   |cons b _=>cases b
 .rw[<-e.length,<-f.length];simp
def Gh.af(g g':Gh)(P:Addr->Prop):Gh:={ tbl:=g'.tbl,ow:=g'.ow,Lc:=g.Lc,Lo:=λb=>g.Lo b\/P b,kl:=g.kl }
def Aj{b:List Nat}(I:SInv K aj σ H g ρ M)(r:Gr q (g.al H (cI b σ ρ)) g' H H'){a:Addr}{o:HO}(h:H a=some o)(n:¬g.W a):H' a=some o:=r.keep a o h n λz=>z
theorem Q6{vs:List Nat}{P:Addr->Prop}(I:SInv K aj σ H g ρ M)(r:Gr q (g.al H (cI vs σ ρ)) g' H H')(hP:∀b,P b->g.Lo b\/H b=none):Gr q g (g.af g' P) H H' where
 keep:=λa o h n _=>r.keep a o h n λz=>z
 keepW:=r.keepW
 dom:=r.dom
 tbl:=r.tbl
 W:=r.W
 nW:=r.nW
 qg:=λz=>⟨by
  show(g'.tbl,g.kl)=(g.tbl,g.kl)
  have y:g'.tbl=(g.al H (cI vs σ ρ)).tbl:=Gh.HY (r.qg z).1;have y:g'.tbl=g.tbl:=y;rw[y],(r.qg z).2⟩
 Lc:=rfl
 Lo:=λ_ h=>.inl h
 nLo:=λa h=>h.elim .inl (hP a)
 kl:=rfl
def Qm{x:List Nat}{P:Addr->Prop}(I:SInv K aj σ H g ρ M)(r:Gr q (g.al H (cI x σ ρ)) g' H H')(s:SInv K aj σ H' g' (Cu x ρ) M')(f:jo M'=true)(c:∀b,P b->(g.Lo b\/H b=none)/\(∃e,H' b=some (.lst e))/\¬g'.W b):SInv K aj σ H' (g.af g' P) ρ M':=by
 have R:=Q6 (P:=P) I r λb h=>(c b h).1;have u:∀a,¬g.W a->(∃o,H a=some o)->¬g'.W a:=λa n ⟨o,h⟩ z=>by
  rcases r.nW a z with z|z
  .exact n z
  .rw[h]at z;cases z
 refine⟨⟨λa z=>?_,λa z=>?_,λa z=>?_⟩,dH.free (g:=g') f rfl rfl s.wok,I.len,λi d h=>?_,λi B h=>?_,I.sep⟩
 .rcases z with z|z|z|z
  .exact s.kd.ob a (.inl z)
  .let⟨o,h,m⟩:=I.kd.ob a (.inr (.inl z))
   exact⟨o,Aj I r h (I.kd.lc a z).1,m⟩
  .let⟨o,h,m⟩:=I.kd.ob a (.inr (.inr z))
   exact⟨o,Aj I r h (I.kd.lo a z),m⟩
  .let⟨e,h⟩:=(c a z).2.1
   exact⟨_,h,awr⟩
 .rcases z with z|z
  .let⟨o,h,_⟩:=I.kd.ob a (.inr (.inr z))
   exact u a (I.kd.lo a z) ⟨o,h⟩
  .exact(c a z).2.2
 .have z:g.Lc a:=z;let⟨o,h,_⟩:=I.kd.ob a (.inr (.inl z))
  refine⟨u a (I.kd.lc a z).1 ⟨o,h⟩,λy=>?_⟩;rcases y with y|y
  .exact(I.kd.lc a z).2 y
  .rcases(c a y).1 with w|w
   .exact(I.kd.lc a z).2 w
   .rw[h]at w;cases w
 .let⟨v,j,p⟩:=I.dat i d h
  exact⟨v,j,p.gr R I.kd⟩
 .let⟨l,e,j,p,t,A⟩:=I.own i B h
  exact⟨l,e,j,Aj I r p (I.kd.lo l t),.inl t,A.gr R I.kd⟩
def abN{vs:List Nat}{j:Nat}{a:Addr}{d:List Dat}(I:SInv K aj σ H g ρ M)(r:Gr q (g.al H (cI vs σ ρ)) g' H H')(f:jo M=true)(N:Xa j vs ρ d=true)(O:Rep K g' H' (.ref a) (.list d)) :
  ∃c,H' a=some (.lst c)/\aC K g' H' c d/\¬g'.W a/\(H a=none\/(g.Lo a/\σ[j]?=some (some (.ref a))/\∃u,ρ[j]?=some (some (.mut u)))):=by
 cases O with
 | @lst _ c _ y t=>
  have y:H' a=some (.lst c)/\¬g'.A a:=y.elim id λy=>by
   have z:=y.1;rw[r.kl]at z;exact awt z
  refine⟨c,y.1,t,λz=>y.2 (.inl z),?_⟩;cases m:H a with
  |none=>exact .inl rfl
  |some o=>
   right
   have B:¬g.W a:=λz=>y.2 (.inl (r.W a z));have e:=Aj I r m B;rw[y.1]at e;cases e;have hk:cI vs σ ρ a:=Classical.byContradiction λn=>y.2 (.inr (.inl (by rw[r.Lc];exact⟨.inr (.inr ⟨c,m⟩),B,n⟩)));let⟨i,u,G,x,J⟩:=hk
   let⟨Q,h,L⟩:=Qw J
   let⟨R,D,b⟩:=Qu L
   cases D;rcases b with⟨rfl,b⟩|⟨C,b,rfl,_⟩
   .rw[lf]at b;cases b
   .cases b;let⟨l,P,v,w,E,F⟩:=I.own i _ h
    rw[x]at v;cases v;rw[m]at w;cases w;have no:=akU F t;have p:=avx.mp N i G;simp![h]at p;rw[no,Bool.or_false]at p;have s:=awB p;subst s;exact⟨E,x,_,h⟩
def lfX(x:cZ):Bool:=x.fs.all λp=>lf p.2
theorem jN.free{fs:LsS V}{a:LsS Dat}(e:g'.tbl=g.tbl)(h:jN K g H fs a):(a.all λp=>lf p.2)=true->jN K g' H fs a:=by
 induction h with
 |nil=>exact λ_=>.nil
 |cons r _ b=>
  intro f;rw[avI,avh]at f;exact .cons (r.free e f.1) (b f.2)
theorem lN.free{x:cZ}{c:Value}{dd:Option Addr}(e:g'.tbl=g.tbl)(f:lfX x=true)(h:lN K aj g H x c dd):lN K aj g' H x c dd:=by
 let⟨C,j,l,m⟩:=h
 exact⟨C,j,l,m.imp id λ⟨a,fs,b,d,i⟩=>⟨a,fs,b,d,i.free e f⟩⟩
end
section
variable{X:Cx}{aj:aJ}{W:WX}{q:Bool}{e:Expr}{pos:Pos}
@[simp]def UJ (b:List Nat) (f:QF) (M:Mo) (a:Env):dB:=if jo M=true then(match f M (Cu b a) with
 |.ok (.list ds)=>if Xa a.length b a ds=true then .next a M else .bad
 |.exc x=>if lfX x=true then .exc x a M else .bad
 |_=>.bad) else .bad
def SInv.clr{K:ave}{g:Gh}{H:Hp}{j:L2.St}{f:Env}{M:Mo}{l:Addr}{r a:List V}(I:SInv K aj j H g f M)(hl:H l=some (.lst r))(lo:g.Lo l)(n:∀(i:Nat) (t:List Dat),f[i]?=some (some (.mut t))->j[i]?≠some (some (.ref l))):SInv K aj j (upd H l (.lst a)) g f M:=by
 have gr:Gr true g g H (upd H l (.lst a)):=Gr.upd I.kd hl (.inr lo);refine⟨I.kd.upd awr,I.wok.loc I.kd hl lo,I.len,λi d h=>?_,λi k h=>?_,I.sep⟩
 .let⟨v,b,c⟩:=I.dat i d h
  exact⟨v,b,c.gr gr I.kd⟩
 .let⟨p,s,b,c,m,o⟩:=I.own i k h
  exact⟨p,s,b,by rw[upd_ne λz=>n i k h (by rw[b,z])];exact c,m,o.gr gr I.kd⟩
def alO{j:List Nat}{o:Expr}{f:QF}{apos t:Pos}(S:QE aj X W o f)(B:baseOk o=true)(U:(apos.endLine==pos.line)=true):SE aj X W q (.Expr (.Call (.Attribute o "clear" apos) [] [] pos) t) (UJ j f):=by
 have E:=pe_bm0 (X:=X) (cpos:=pos) (apos:=apos) PySem.F.plainAttrs_list PySem.F.slot_list_clear PySem.F.type_list_clear mt_clear S (jy B) U;refine PS.weak (ps_expr E #[rfl]) λD m H ⟨g,l,M,I,z⟩=>?_;unfold UJ at z;split at z
 .next n=>
  refine⟨g.al H (cI j m l),Cu j l,M,I.al j n,?_⟩;cases C:f M (Cu j l) with
  |bad=>rw[C]at z;exact awt z
  |exc x=>
   rw[C]at z;intro p c dd e Y
   dsimp only at z
   split at z
   case isFalse=>exact awt z
   case isTrue fx=>
   have r:Gr q (g.al H (cI j m l)) (g.al H (cI j m l)) H p:=Gr.ex e;exact z m p (g.af (g.al H (cI j m l)) λ_=>False) c dd (Q6 I r λ_ y=>awt y) (Qm I r ((I.al j n).ex e) n λ_ y=>awt y) (lN.free (g:=g.al H (cI j m l)) (g':=(g.af (g.al H (cI j m l)) λ_=>False).fr) rfl fx Y)
  |ok d=>
   rw[C]at z;intro v p e O;cases d with
   |list ds=>
    dsimp only at z
    split at z
    .next B=>
     have r:Gr q (g.al H (cI j m l)) (g.al H (cI j m l)) H p:=Gr.ex e;obtain⟨a,rfl⟩:∃a,v=.ref a:=by
      cases O with
      |lst _ _=>exact⟨_,rfl⟩
     let⟨u,s,a2,Q,A⟩:=abN I r n B O
     have A:H a=none:=A.elim id λ⟨_,_,es,y⟩=>by
      rw[avJ (avE _)]at y;cases y
     have N:∀b,b=a->(g.Lo b\/H b=none)/\(∃u,p b=some (.lst u))/\¬(g.al H (cI j m l)).W b:=λb e=>by
      subst e;exact⟨.inr A,⟨u,s⟩,Q⟩
     have R:=Q6 (P:=λb=>b=a) I r λb e=>(N b e).1;have J:=Qm I r ((I.al j n).ex e) n N;refine⟨.inl ⟨rfl,u,sq_of s⟩,a,u,rfl,rfl,s,?_⟩;refine z m _ (g.af (g.al H (cI j m l)) λb=>b=a) (R.trans (Gr.upd J.kd s (.inr (.inr rfl)))) (J.clr s (.inr rfl) λi ys h y=>?_);let⟨l',Z,G,L,_⟩:=I.own i ys h
     rw[y]at G;cases G;rw[A]at L;cases L
    .exact awt z
   |_=>exact awt z
 .exact awt z
@[simp]def R3 (o:Dat->Dat->Out Dat) (f:GF) (k:QF) (M:Mo) (a:Env):aR Dat:=(f M a).bind λx M1=>((k M1 a).at M1).bind λy M2=>(o x y).at M2
def gIs(neg:Bool)(c:Dat)(f:GF):GF:=λM a=>(f M a).bind λd M1=>.ok (.bool (neg ^^ nQ c d)) M1
def ant{k:CmpOp}{r:R2}{o:Dat->Dat->Out Dat}{a b:Expr}{fa:GF}{m:QF}(C:OpR X (compareOp k) r)(B:qb aj X.K W o r)(w:GE aj X W q a fa)(y:QW aj X W b m)(A:behindInMarks k b=false):GE aj X W q (.Compare a [k] [b] pos) (R3 o fa m):=
 PE.weak (pe_cmpR C w y A) λσ H Q ⟨g,N,M,I,h⟩=>by
  refine tE.go I h.bnd λd M1 v L j s r1 f G=>?_;refine tW.go f ((Out.dY s.bnd).mono (λ_ z=>z) λ_ z=>?_) λd2 J n t i E=>?_
  .exact λH' c dd e x=>z H' j c dd (r1.trans (Gr.ex e)) (f.ex e) x
  .refine B σ j n v J d d2 Q (f.kd.ex i) ((G.ex i f.kd).weak) E ((Out.dY t).mono (λz D u p l F=>D u p j (r1.trans (Gr.ex (i.trans l))) (f.ex (i.trans l)) F) λx z=>?_);exact λH' c dd e x=>z H' j c dd (r1.trans (Gr.ex (i.trans e))) (f.ex (i.trans e)) x
def aqp{c:CmpOp}{neg:Bool}{d:Dat}{v:V}{a b:Expr}{fa:GF}(hc:scD d=some v)(o:OpR X (compareOp c) (Tv neg v))(l:GE aj X W q a fa)(m:PE X b (tC v))(n:behindInMarks c b=false):GE aj X W q (.Compare a [c] [b] pos) (gIs neg d fa):=
 PE.weak (pe_cmpR o l m n) λσ H Q ⟨g,r,M,I,h⟩=>by
  refine tE.go I h.bnd λe M1 x f j k r1 i p=>?_;refine⟨rfl,?_⟩;rw[QK p.weak hc];exact k _ f j r1 i (.bl _)
@[simp]def XC (f:GF) (M:Mo) (a:Env):aR Bool:=(f M a).bind λd M1=>(G4 d).at M1
def anF{l:CmpOp}{r:R2}{o:Dat->Dat->Out Dat}{a b:Expr}{fa:GF}{n:QF}(F:OpR X (compareOp l) r)(E:qb aj X.K W o r)(B:GE aj X W q a fa)(C:QW aj X W b n)(D:behindInMarks l b=false):Gp aj X W q (.Compare a [l] [b] pos) (XC (R3 o fa n)):=
 PT.weak (pt_cmpR F B C D) λσ H Q ⟨g,R,M,I,h⟩=>by
  refine tE.go I h.bnd.bnd λd M1 v P j t r1 f N=>?_;refine tW.go f ((Out.dY t.bnd).mono (λ_ z=>z) λ_ z=>?_) λd2 O p w i J=>?_
  .exact λH' c dd e x=>z H' j c dd (r1.trans (Gr.ex e)) (f.ex e) x
  .refine E σ j p v O d d2 _ (f.kd.ex i) ((N.ex i f.kd).weak) J ((Out.dY w).mono (λz G u s m L=>?_) λx z=>?_)
   .let⟨k,y,A⟩:=Eo L.weak (Out.dY G)
    exact⟨k,y,A s j (r1.trans (Gr.ex (i.trans m))) (f.ex (i.trans m))⟩
   .exact λH' c dd e x=>z H' j c dd (r1.trans (Gr.ex (i.trans e))) (f.ex (i.trans e)) x
def apQ{c:CmpOp}{neg:Bool}{d:Dat}{v:V}{a b:Expr}{fa:GF}(hc:scD d=some v)(o:OpR X (compareOp c) (Tv neg v))(l:GE aj X W q a fa)(m:PE X b (tC v))(n:behindInMarks c b=false):Gp aj X W q (.Compare a [c] [b] pos) (XC (gIs neg d fa)):=
 PT.weak (pt_cmpR o l m n) λσ H Q ⟨g,r,M,I,h⟩=>by
  refine tE.go I h.bnd.bnd λe M1 x f j k r1 i p=>?_;refine⟨rfl,_,rfl,?_⟩;rw[QK p.weak hc];exact k f j r1 i
end
def Yw:List Dat->Option (List (List Dat))
 |[]=>some []
 |.list a::r=>match fZ a with
  |true=>(Yw r).map (a::·)
  |false=>none
 |_::_=>none
def ab9:Dat->Option (List (List Dat))
 |.list a=>Yw a
 |.tuple a=>Yw a
 |_=>none
theorem Vi:∀{b:List Dat} {a:List (List Dat)},Yw b=some a->b=a.map PyData.list/\∀x∈a,fZ x=true
 |[],a,h=>by
  cases h;exact⟨rfl,λ_ z=>nomatch z⟩
 |d::r,a,h=>by
  unfold Yw at h;left
  .next e=>cases e
  .next b k e=>
   cases e;left
   .next i=>
    rw[avU]at h;let⟨l,g,rfl⟩:=h
    let⟨c,f⟩:=Vi g
    exact⟨by rw[c];rfl,λx j=>(avw.mp j).elim (λz=>z ▸ i) (f x)⟩
   .cases h
  .cases h
def KT(K:ave)(a:Addr):Prop:=∃b,SqT K (λ_=>none) a b
def ap9{K:ave}{H:Hp}{a:Addr}{c b:List V}(h:H a=some (.lst c))(q:SqT K H a b):KT K a:=by
 rcases q with(q|⟨o,q⟩)|q
 .rw[h]at q;cases q
 .rw[h]at q;cases q
 .exact⟨b,.inr q⟩
theorem aeG:∀{a:List Dat} {i:Nat} {d:Dat},fZ a=true->a[i]?=some d->lf d=true
 |[],_,_,_,h=>nomatch h
 |_::_,0,_,h,e=>by
  rw[fZ,avh]at h;cases e;exact h.1
 |_::_,i+1,_,h,e=>by
  rw[fZ,avh]at h;exact aeG h.2 e
structure NL(K:ave)(g:Gh)(σ:L2.St)(H:Hp)(ρ:Env)(l:Addr)(tu:Bool)(as:List Addr):Prop where
 sq:∀H2:Hp,(∀b o,b∉as->H b=some o->H2 b=some o)->if tu=true then SqT K H2 l (as.map V.ref) else ¬KT K l->SqL K H2 l (as.map V.ref)
 lo:∀a∈as,g.Lo a
 hl:tu=false->∃us,H l=some (.lst us)
 li:∀a∈as,∃us,H a=some (.lst us)
 ne:∀a∈as,∀(i:Nat) (ys:List Dat),ρ[i]?=some (some (.mut ys))->σ[i]?≠some (some (.ref a))
section
variable{K:ave}{aj:aJ}{g g':Gh}{H H':Hp}{σ σ':L2.St}{ρ:Env}{M:Mo}{l:Addr}{tu:Bool}{as:List Addr}
def NL.ex(n:NL K g σ H ρ l tu as)(e:Ex H H'):NL K g σ H' ρ l tu as:=⟨λH2 h=>n.sq H2 λb o nb z=>h b o nb (e b o z),n.lo,λz=>(n.hl z).imp λ_ z=>e _ _ z,λa c=>(n.li a c).imp λ_ z=>e _ _ z,n.ne⟩
theorem NL.set(n:NL K g σ H ρ l tu as)(j:Nat)(v:Option V)(c:Option Cell)(hc:∀b,c≠some (.mut b)):NL K g (σ.set j v) H (ρ.set j c) l tu as:=⟨n.sq,n.lo,n.hl,n.li,λa d i b h=>by
 by_cases e:i=j
 .subst e;rw[av5]at h;left
  .left
   .exact absurd (avA h) (hc b)
   .cases h
  .exact absurd rfl ‹¬_›
 .rw[avm (Ne.symm e)]at h |-
  exact n.ne a d i b h⟩
theorem NL.clr(I:SInv K aj σ H g ρ M)(n:NL K g σ H ρ l tu as){a:Addr}(c:a∈as):SInv K aj σ (upd H a (.lst [])) g ρ M/\NL K g σ (upd H a (.lst [])) ρ l tu as/\∀q,Gr q g g H (upd H a (.lst [])):=by
 let⟨j,d⟩:=n.li a c
 refine⟨I.clr d (n.lo a c) λi f h=>n.ne a c i f h,⟨λH2 h=>n.sq H2 λb o nb z=>h b o nb ?_,n.lo,λz=>?_,λb hb=>?_,n.ne⟩,λq=>Gr.upd I.kd d (.inr (n.lo a c))⟩
 .rw[upd_ne λy=>nb (by rw[y];exact c)];exact z
 .by_cases e:l=a
  .subst e;exact⟨[],awA⟩
  .rw[upd_ne e];exact n.hl z
 .by_cases e:b=a
  .subst e;exact⟨[],awA⟩
  .rw[upd_ne e];exact n.li b hb
theorem Zj:∀{f:List V} {c:List (List Dat)},aC K g H f (c.map PyData.list)->∃as:List Addr,f=as.map V.ref/\∀a∈as,∃d∈c,Rep K g H (.ref a) (.list d)
 |_,[],.nil=>⟨[],rfl,λ_ z=>nomatch z⟩
 |_,x::c,.cons h t=>by
  let⟨as,e,k⟩:=Zj t
  let⟨a,rfl⟩:=(show ∀{v:V},Rep K g H v (.list x)->∃a,v=V.ref a from λh=>by
   cases h with
   |lst _ _=>exact⟨_,rfl⟩) h
  exact⟨a::as,by rw[e];rfl,λb i=>(avw.mp i).elim (λz=>⟨x,avl,z ▸ h⟩) λz=>(k b z).imp λd y=>⟨avk _ y.1,y.2⟩⟩
def aqL{v:V}{d:Dat}{C:List (List Dat)}(I:SInv K aj σ H g ρ M)(G:jo M=true)(e:Ex H H')(Z:Rep K (g.al H (cI [] σ ρ)) H' v d)(x:ab9 d=some C) :
  ∃l tu as,v=.ref l/\SInv K aj σ H' (g.af (g.al H (cI [] σ ρ)) (·∈as)) ρ M/\NL K (g.af (g.al H (cI [] σ ρ)) (·∈as)) σ H' ρ l tu as/\aC K (g.al H (cI [] σ ρ)) H' (as.map V.ref) (C.map PyData.list)/\∀q,Gr q g (g.af (g.al H (cI [] σ ρ)) (·∈as)) H H':=by
 obtain⟨m,Q,hD⟩:∃m,Yw m=some C/\(d=.list m\/d=.tuple m):=by
  unfold ab9 at x;split at x
  .exact⟨_,x,.inl rfl⟩
  .exact⟨_,x,.inr rfl⟩
  .cases x
 let⟨rfl,S⟩:=Vi Q
 have r:∀q,Gr q (g.al H (cI [] σ ρ)) (g.al H (cI [] σ ρ)) H H':=λq=>Gr.ex e;have p:∀a m,Rep K (g.al H (cI [] σ ρ)) H' (.ref a) (.list m)->(∃f,H' a=some (.lst f)/\aC K (g.al H (cI [] σ ρ)) H' f m)/\¬(g.al H (cI [] σ ρ)).W a/\H a=none:=λa m h=>by
  let⟨f,a1,a2,a3,a4⟩:=abN (j:=ρ.length) (vs:=[]) I (r true) G rfl h
  refine⟨⟨f,a1,a2⟩,a3,a4.elim id λ⟨_,_,es,y⟩=>?_⟩;rw[avJ (avE _)]at y;cases y
 obtain⟨l,f,tu,rfl,c,L,X⟩:∃l f tu,v=.ref l/\(if tu=true then SqT K H' l f else H' l=some (.lst f))/\aC K (g.al H (cI [] σ ρ)) H' f (C.map PyData.list)/\(tu=false->d=.list (C.map PyData.list)):=by
  rcases hD with rfl|rfl
  .cases Z with
   | @lst l f _ h t=>
    refine⟨l,f,false,rfl,?_,t,λ_=>rfl⟩;exact h.elim (λz=>z.1) λz=>awt z.1
  .cases Z with
   | @tup l f _ h t=>exact⟨l,f,true,rfl,h,t,λz=>nomatch z⟩
 let⟨as,rfl,hk⟩:=Zj L
 have D:∀b,b∈as->(g.Lo b\/H b=none)/\(∃f,H' b=some (.lst f))/\¬(g.al H (cI [] σ ρ)).W b:=λb N=>by
  let⟨m,_,h⟩:=hk b N
  let⟨⟨f,n,_⟩,s,J⟩:=p b m h
  exact⟨.inr J,⟨f,n⟩,s⟩
 refine⟨l,tu,as,rfl,Qm I (r true) ((I.al [] G).ex e) G D,⟨λH2 h=>?_,λa u=>.inr u,λz=>⟨as.map V.ref,?_⟩,λa u=>(D a u).2.1,λa u i ys h y=>?_⟩,L,λq=>Q6 I (r q) λb N=>(D b N).1⟩
 .cases tu with
  |true=>
   rw[awy rfl]at c |-
   rcases c with c|c
   .have F:l∉as:=λz=>by
     let⟨f,Y⟩:=(D l z).2.1
     rcases c with B|⟨o,B⟩
     .rw[Y]at B;cases B
     .rw[Y]at B;cases B
    exact .inl (c.imp (λz=>h l _ F z) λz=>z.imp λo y=>h l _ F y)
   .exact .inr c
  |false=>
   rw[awz #[()]]at c |-
   have c:H' l=some (.lst (as.map V.ref)):=c;intro R;have F:l∉as:=λz=>by
    let⟨i,E⟩:=List.getElem?_of_mem z
    have E:(as.map V.ref)[i]?=some (.ref l):=by rw[avy,E];rfl
    let⟨d,A,hr⟩:=L.get' E
    rw[avy,avU]at A;let⟨m,O,rfl⟩:=A
    let⟨⟨f,n,s⟩,J,_⟩:=p l m hr
    rw[c]at n;cases n;let⟨d0,e1,e2⟩:=s.get' E
    have U:=aeG (S m (avo O)) e1;cases e2 with
    |tup h _=>exact R (ap9 c h)
    |lst _ _=>
     rw[lf]at U;cases U
    |obj h=>exact J (afx h)
   exact sq_of (h l _ F c)
 .subst z;rw[awz #[()]]at c;exact c
 .let⟨l',us',n,s,_⟩:=I.own i ys h
  rw[y]at n;cases n;rw[((hk a u).elim λm z=>(p a m z.2).2.2)]at s;cases s
end
def iLT(K:ave)(d:TE):TI:=λσ H R=>d σ H λx b=>∃a,x=.ref a/\(((∃c,b a=some (.lst c))/\(¬KT K a->R (Itl K a) b))\/((∃c,SqT K b a c)/\R (Itt K a) b))
def ajQ{X:Cx}{L l:Expr}{r:TE}(A:PE X l r):PI X L l (iLT X.K r):=by
 refine⟨λpins s O H R I h=>?_⟩;refine thn (A.run pins s O H _ I h) λv c ⟨x,g,d,r1,E⟩=>?_;let⟨a,e,q⟩:=E
 subst e;cases r1;have fin:∀b∈[c.heap.objs.size],FpOk X pins g b:=λb y=>by
  have e:b=c.heap.objs.size:=by simpa using y
  subst e;exact d.fpOk (avE _) (d.hok.fresh (avE _))
 rcases q with⟨⟨M,C⟩,q⟩|⟨⟨M,B⟩,q⟩
 .let⟨f,F,p,D⟩:=d.list (sq_of C)
  have nk:¬KT X.K a:=λ⟨N,i⟩=>by
   have i:SqT X.K g a N:=i.elim (λz=>by
    rcases z with z|⟨o,z⟩<;>cases z) .inr
   let⟨n,G,⟨S,m,j,_⟩,_⟩:=d.tuple i
   let⟨Q,u,t,_⟩:=p.isList
   rw[u]at m;cases m;rw[t]at j;exact absurd j #[[]]
  refine wpAny_pyIter_list p.isList ?_;exact⟨c.heap.objs.size,[c.heap.objs.size],_,_,g,rfl,d.kept (t':=c.toks) λb o e=>Heap.get?_push_of_some _ e,turn_list a _,⟨_,Heap.get?_push_size _ rfl,rfl,rfl⟩,fin,q nk⟩
 .let⟨f,F,p,D⟩:=d.tuple B
  refine wpAny_pyIter_tuple (show c.heap.IsTuple a f.toArray from p) ?_;exact⟨c.heap.objs.size,[c.heap.objs.size],_,_,g,rfl,d.kept (t':=c.toks) λb o e=>Heap.get?_push_of_some _ e,turn_tuple a _,⟨_,Heap.get?_push_size _ rfl,rfl,rfl⟩,fin,q⟩
def ao4(a:L2.St)(j:Nat):∃v,a.set j v=a:=by
 by_cases h:j<a.length
 .exact⟨a[j],List.set_getElem_self h⟩
 .exact⟨none,List.set_eq_of_length_le #[]⟩
section
variable{K:ave}{aj:aJ}{g:Gh}{H:Hp}{σ:L2.St}{ρ:Env}{M:Mo}{l:Addr}{tu:Bool}{as:List Addr}{j:Nat}
def an7(I:SInv K aj σ H g ρ M)(n:NL K g σ H ρ l tu as)(C:j<ρ.length){te:TE}{D:Ends}(F:∀R,R (V.ref l) H->te σ H R)(o:∀b c,SInv K aj b c g (ρ.set j none) M->(∀q,Gr q g g H c)->D.nx b c) :
  tFor (iLT K te) (gName j) (tDrop (tBM0 K "list" rClear (tVar j))) D σ H:=by
 let⟨w,k⟩:=ao4 σ j
 have h:SInv K aj σ H g (ρ.set j none) M:=by have:=I.off j w;rw[k]at this;exact this
 have f:NL K g σ H (ρ.set j none) l tu as:=by have:=n.set j w none λ_=>nofun;rw[k]at this;exact this
 let Pv:Nat->L2.St->Hp->Prop:=λ_ b c=>SInv K aj b c g (ρ.set j none) M/\NL K g b c (ρ.set j none) l tu as/\∀q,Gr q g g H c
 have s:∀(i:Nat) (x:V) (b:L2.St) (c:Hp) (bk:L2.St->Hp->Prop),(as.map V.ref)[i]?=some x->Pv i b c->gName j x b c λσ2 y=>tDrop (tBM0 K "list" rClear (tVar j)) { D with nx:=Pv (i+1),ct:=Pv (i+1),bk:=bk } σ2 y:=λi x b c bk d ⟨J,m,r⟩=>by
  rw[avy,avU]at d;let⟨a,e,rfl⟩:=d
  have e:=avo e;have A:SInv K aj (b.set j (some (.ref a))) c g (ρ.set j none) M:=by have:=J.off j (some (.ref a));rw[List.set_set]at this;exact this
  have u:NL K g (b.set j (some (.ref a))) c (ρ.set j none) l tu as:=by have:=m.set j (some (.ref a)) none λ_=>nofun;rw[List.set_set]at this;exact this
  let⟨v,t⟩:=u.li a e
  let⟨B,G,L⟩:=NL.clr A u e
  have E:j<b.length:=by rw[J.len,avC];exact C
  exact⟨.ref a,by rw[avt E],.inl ⟨rfl,v,sq_of t⟩,a,v,rfl,rfl,t,B,G,λq=>(r q).trans (L q)⟩
 refine F _ ⟨l,rfl,?_⟩;cases tu with
 |true=>
  refine .inr ⟨⟨_,by simpa using f.sq H λ_ _ _ z=>z⟩,?_⟩;exact for_tup Pv ⟨h,f,λq=>.refl⟩ (λi b c _ ⟨_,m,_⟩=>by simpa using m.sq c λ_ _ _ z=>z) (λi x b c d p=>s i x b c _ d p) λb c ⟨J,_,r⟩=>o b c J r
 |false=>
  refine .inl ⟨f.hl rfl,λnk=>?_⟩;exact for_list Pv ⟨h,f,λq=>.refl⟩ (λi b c _ ⟨_,m,_⟩=>by simpa using m.sq c (λ_ _ _ z=>z) nk) (λi x b c d p=>s i x b c _ d p) λb c ⟨J,_,r⟩=>o b c J r
end
@[simp]def sNu (f:QF) (p:Env->Prop) [DecidablePred p] (e:List (List Dat)->Env->Env) (k:SF) (M:Mo) (a:Env):dB:=if (jo M&&decide (p a))=true then(match f M (Cu [] a) with
 |.ok d=>(match ab9 d with
  |some b=>if b.length<=50000 then k M (e b a) else .bad
  |none=>.bad)
 |_=>.bad) else .bad
def sWo(j:Nat)(f:QF):SF->SF:=sNu f (λa=>j<a.length) λ_ a=>a.set j none
def apG{K:ave}{aj:aJ}{W:WX}{q:Bool}{g:Gh}{H:Hp}{b:L2.St}{a:Env}{M:Mo}{f:QF}{p:Env->Prop}[DecidablePred p]{e:List (List Dat)->Env->Env}{k:SF}{D:Ends}{Q:VK}(I:SInv K aj b H g a M)
  (h:(sNu f p e k M a).sat (sN K aj q D.nx g H) (sR K aj q D.rt g H) (sN K aj q D.bk g H) (sN K aj q D.ct g H) (sX K aj W q g H))
  (hk:p a->∀j l t as c,(∀x∈j,fZ x=true)->j.length<=50000->SInv K aj b c (g.af (g.al H (cI [] b a)) (·∈as)) a M->NL K (g.af (g.al H (cI [] b a)) (·∈as)) b c a l t as->aC K (g.al H (cI [] b a)) c (as.map V.ref) (j.map PyData.list)->Kd (g.al H (cI [] b a)) c->
   (∀m o,SInv K aj m o (g.af (g.al H (cI [] b a)) (·∈as)) (e j a) M->(∀q,Gr q (g.af (g.al H (cI [] b a)) (·∈as)) (g.af (g.al H (cI [] b a)) (·∈as)) c o)->tS K aj W q k D m o)->Q (.ref l) c):tQ K aj W f b H Q:=by
 unfold sNu at h;left
 case isFalse=>exact awt h
 case isTrue hb=>
 rw[avh,awu]at hb;refine⟨g.al H (cI [] b a),Cu [] a,M,I.al [] hb.1,?_⟩;cases i:f M (Cu [] a) with
 |bad=>rw[i]at h;exact awt h
 |exc _=>rw[i]at h;exact awt h
 |ok d=>
  rw[i]at h;intro v c u A
  dsimp only at h
  left
  case h_2=>exact awt h
  case h_1 j hw=>
  left
  case isFalse=>exact awt h
  case isTrue hn=>
  let⟨l,t,as,rfl,J,n,y,r⟩:=aqL I hb.1 u A hw
  have s:∀x∈j,fZ x=true:=by
   unfold ab9 at hw;split at hw
   .exact(Vi hw).2
   .exact(Vi hw).2
   .cases hw
  exact hk hb.2 j l t as c s hn J n y ((I.al [] hb.1).ex u).kd λm o w z=>tS.go w ((r q).trans (z q)) h
section
variable{X:Cx}{aj:aJ}{W:WX}{q:Bool}{e:Expr}{pos pos2 px py pz p2 p3 p4 apos cpos epos:Pos}{i y j:Nat}{x z w:Str}{f:QF}{rest:List Stmt}{fr:SF}
def an0(b:X.N[j]?=some z)(g:Vis X.env.scope z)(c:(z==("__debug__" : Str))=false)(a:(z==("__classdict__" : Str))=false)(d:(apos.endLine==cpos.line)=true) :
  PSs X [.Expr (.Call (.Attribute (.Name z p3) "clear" apos) [] [] cpos) epos] (tDrop (tBM0 X.K "list" rClear (tVar j))):=
 pss_one (ps_expr (pe_bm0 PySem.F.plainAttrs_list PySem.F.slot_list_clear PySem.F.type_list_clear mt_clear (pe_var b g c a) (jy rfl) d) #[rfl])
def aoy(s:PassesOwn (model X.prog X.w) X.A X.env X.xe)(hc:X.calm=true)(o:QE aj X W e f)(k:X.N.Nodup)(d:X.N[j]?=some z)(r:Loc X.env.scope z)(p:X.fn z=true\/X.env.scope.names.lookup z=some .local)(v:Vis X.env.scope z)(m:(z==("__debug__" : Str))=false)(a:(z==("__classdict__" : Str))=false)(c:(apos.endLine==cpos.line)=true)(u:∀x,foldedSetIterable e X.env x=pure x)(t:Dq aj X W q rest fr) :
  Dq aj X W q (.For (.Name z pz) e [.Expr (.Call (.Attribute (.Name z p3) "clear" apos) [] [] cpos) epos] [] pos::rest) (sWo j f fr):=
 PSs.weak (pss_cons (ps_for s hc (ajQ o) (pg_name k d r p) (an0 d v m a c) u) t) λD G H ⟨g,F,M,I,h⟩=>
  apG I h λb E l C as B _ _ J n _ _ fin=>an7 (te:=λ_ H R=>R (V.ref l) H) J n b (λR z=>z) fin
end
section
variable{K:ave}{aj:aJ}{g g1 g2 g':Gh}{H H':Hp}{σ:L2.St}{ρ:Env}{M M':Mo}{q:Bool}{a:Addr}{us:List V}{xs:List Dat}
def dH.lfX(f:jo M=true)(w:dH K aj g1 H M)(e:g2.tbl=g1.tbl++[a])(n:g2.ow=g1.ow)(s:a∉g1.tbl)(no:g1.ow a=none)(D:H a=some (.lst us))(r:aC K g1 H us xs)(B:fZ xs=true):dH K aj g2 H (M++[Rf.lin xs]):=by
 have l:∀{h:Nat} {b:Addr},g2.tbl[h]?=some b->(g1.tbl[h]?=some b/\h<M.length)\/(h=M.length/\b=a):=λ{h b} z=>by
  rw[e]at z;by_cases hl:h<g1.tbl.length
  .rw[avq hl]at z;exact .inl ⟨z,by rw[<-w.len];exact hl⟩
  .rw[avv #[]]at z;have:=(avf.mp z).1;simp at this;have A:h-g1.tbl.length=0:=#[];rw[A]at z;cases z;exact .inr ⟨by rw[<-w.len];omega,rfl⟩
 have lt:∀{h:Nat} {i:Inst},h<M.length->(M++[Rf.lin xs])[h]?=some i->M[h]?=some i:=λ{h i} hl z=>by
  rwa [avq hl]at z
 have eq:∀{i:Inst},(M++[Rf.lin xs])[M.length]?=some i->i=Rf.lin xs:=λ{i} z=>by
  rw[avv (avE _),Nat.sub_self]at z;exact(avA z).symm
 have any:∀{h:Nat} {i:Inst},(M++[Rf.lin xs])[h]?=some i->M[h]?=some i\/i=Rf.lin xs:=λ{h i} z=>by
  by_cases hl:h<M.length
  .exact .inl (lt hl z)
  .rw[avv #[]]at z;exact .inr (avp.mp (avo z))
 have p:∃m,g2.tbl=g1.tbl++m:=⟨_,e⟩;refine⟨by rw[e,avP,avP,w.len];rfl,λh k b d c=>?_,λh b i d c hc=>?_,λh i d=>?_,λh i d hc=>?_,λh b i d c hc=>?_,λh b J d c=>?_,w.nc⟩
 .rcases l d with⟨j,_⟩|⟨j,rfl⟩
  .rcases l c with⟨o,_⟩|⟨_,rfl⟩
   .exact w.inj h k b j o
   .exact absurd (avo j) s
  .rcases l c with⟨o,_⟩|⟨o,_⟩
   .exact absurd (avo o) s
   .omega
 .rcases l d with⟨j,hl⟩|⟨rfl,rfl⟩
  .have c:=lt hl c;let⟨C,x,fs,t,u,v⟩:=w.ins h b i j c hc
   exact⟨C,x,fs,t,u,v.ext p n (avx.mp f i (avo c))⟩
  .rw[eq c]at hc;exact absurd rfl hc
 .rcases any d with d|rfl
  .exact w.nd h i d
  .show([""]:List Str).Nodup
   simp
 .rcases any d with d|rfl
  .exact w.fd h i d hc
  .exact absurd rfl hc
 .rcases l d with⟨j,hl⟩|⟨rfl,rfl⟩
  .rw[n];exact w.tw h b i j (lt hl c) hc
  .rw[eq c]at hc;exact absurd rfl hc
 .rcases l d with⟨j,hl⟩|⟨rfl,rfl⟩
  .have c:=lt hl c;let⟨E,F,G,I⟩:=w.li h b J j c
   have y:=avx.mp f _ (avo c);rw[avI,avh]at y;exact⟨E,F,by rw[n];exact G,I.ext p y.1⟩
  .have:=eq c;cases this;exact⟨us,D,by rw[n];exact no,r.ext p B⟩
def Gh.an(g g':Gh)(a:Addr):Gh:={ tbl:=g'.tbl++[a],ow:=g'.ow,Lc:=g.Lc,Lo:=g.Lo,kl:=g.kl }
def anI(I:SInv K aj σ H g ρ M)(r:Gr q (g.al H (cI [] σ ρ)) g' H H')(s:SInv K aj σ H' g' (Cu [] ρ) M')(f:jo M'=true)(u:H' a=some (.lst us))(w:H a=none)(nW:¬g'.W a)(B:aC K g' H' us xs)(A:fZ xs=true):SInv K aj σ H' (g.an g' a) ρ (M'++[lin xs])/\Gr false g (g.an g' a) H H':=by
 have j:∀b,(g.an g' a).W b->g'.W b\/b=a:=λb z=>by
  rcases z with z|z
  .rcases avz.mp z with z|z
   .exact .inl (.inl z)
   .exact .inr (avp.mp z)
  .exact .inl (.inr z)
 have R:Gr false g (g.an g' a) H H':={
  keep:=λb o h n _=>r.keep b o h n λz=>z
  keepW:=λz=>nomatch z
  dom:=r.dom
  tbl:=by
   let⟨m,e⟩:=r.tbl
   exact⟨m++[a],by show g'.tbl++[a]=_;rw[e];exact List.append_assoc _ _ _⟩
  W:=λb z=>(r.W b z).elim (λy=>.inl (avQ _ y)) .inr
  nW:=λb z=>(j b z).elim (r.nW b) λy=>.inr (by rw[y];exact w)
  qg:=λz=>nomatch z
  Lc:=rfl
  Lo:=λ_ z=>z
  nLo:=λ_ z=>.inl z
  kl:=rfl }
 have c:∀b,¬g.W b->(∃o,H b=some o)->¬(g.an g' a).W b:=λb n ⟨o,h⟩ z=>by
  rcases j b z with z|z
  .rcases r.nW b z with z|z
   .exact n z
   .rw[h]at z;cases z
  .rw[z,w]at h;cases h
 refine⟨⟨⟨λb z=>?_,λb z=>?_,λb z=>?_⟩,dH.lfX f s.wok rfl rfl (λz=>nW (.inl z)) (Classical.byContradiction λz=>nW (.inr z)) u B A,I.len,λi d h=>?_,λi D h=>?_,I.sep⟩,R⟩
 .rcases z with z|z|z
  .rcases j b z with z|rfl
   .exact s.kd.ob b (.inl z)
   .exact⟨_,u,awr⟩
  .let⟨o,h,m⟩:=I.kd.ob b (.inr (.inl z))
   exact⟨o,Aj I r h (I.kd.lc b z).1,m⟩
  .let⟨o,h,m⟩:=I.kd.ob b (.inr (.inr z))
   exact⟨o,Aj I r h (I.kd.lo b z),m⟩
 .let⟨o,h,_⟩:=I.kd.ob b (.inr (.inr z))
  exact c b (I.kd.lo b z) ⟨o,h⟩
 .let⟨o,h,_⟩:=I.kd.ob b (.inr (.inl z))
  exact⟨c b (I.kd.lc b z).1 ⟨o,h⟩,(I.kd.lc b z).2⟩
 .let⟨v,k,p⟩:=I.dat i d h
  exact⟨v,k,p.gr R I.kd⟩
 .let⟨l,C,k,p,t,x⟩:=I.own i D h
  exact⟨l,C,k,Aj I r p (I.kd.lo l t),t,x.gr R I.kd⟩
end
def slL(d:Dat)(lo b:Option Int):Out (List Dat):=
 match d with
 |.list a=>.ok (cutD a lo b)
 |_=>.bad
@[simp]def slF (a:QF) (lo c:QO) (M:Mo) (b:Env):Out (List Dat):=(a M b).bind λd=>(lo M b).bind λl=>(c M b).bind λh=>slL d l h
section
variable{X:Cx}{aj:aJ}{W:WX}{q:Bool}{a e:Expr}{fa f:QF}{pos p2 p apos epos:Pos}
def ajr{lo t:Option Expr}{s r:QO}(B:QW aj X W a fa)(D:QOe aj X W lo s)(C:QOe aj X W t r):FE aj X W (.Subscript a (.Slice lo t none p2) pos) (slF fa s r):=
 PE.weak (pe_slice amG B D C) λσ H Q ⟨g,x,M,I,h⟩=>by
  refine tW.go I h.bnd λd v G y b r1=>?_;have j:=I.ex b;refine⟨g,x,M,j,y.bnd.mono (λl A J c=>?_) λ_ z=>z.ex b⟩;have m:=j.ex c;refine⟨g,x,M,m,A.bnd.mono (λu i L n=>?_) λ_ z=>(z.ex b).ex c⟩;have k:=(m.ex n).kd;have rw:=(r1.ex c j.kd).ex n m.kd;unfold slL at i;split at i
  .let⟨p,F,rfl,E,w⟩:=gY rw
   have e:=(b.trans c).trans n;refine .inl ⟨p,F,rfl,E,λq o=>i q _ _ (CZ e q o) (e.trans (Ex.new o)) awA (aaK k o ?_)⟩;unfold cutV cutD;rw[w.length];exact(w.drop _).take _
  .exact awt i
@[simp]def Vj (j:Nat) (f:QF) (M:Mo) (b:Env):dB:=match b[j]? with
 |some #[o]=>(match Yo M o with
  |some (h,c)=>((f M b).at M).then b λd _=>if c.length<100000 then .next b (M.set h (lin (c++[d]))) else .bad
  |none=>.bad)
 |_=>.bad
def aki{j:Nat}{x:Str}(U:X.N[j]?=some x)(hv:Vis X.env.scope x)(m:(x==("__debug__" : Str))=false)(l:(x==("__classdict__" : Str))=false)(Y:QE aj X W e f)(s:nst e=true)
  (hl:(apos.endLine==pos.line)=true):SE aj X W false (.Expr (.Call (.Attribute (.Name x p) "append" apos) [e] [] pos) epos) (Vj j f):=by
 have R:=pe_var (X:=X) (pos:=p) U hv m l;have S:=pa_cons Y pa_nil (bH s []);have t:=pe_bm (X:=X) (cpos:=pos) (apos:=apos) PySem.F.plainAttrs_list PySem.F.slot_list_append PySem.F.type_list_append mt_append R S (jy rfl) (few (by simp[s]) (by simp)) hl (bH s []) #[rfl];refine PS.weak (ps_expr t #[rfl]) λD σ H ⟨g,u,M,I,z⟩=>?_;unfold Vj at z;split at z
 .next o Z=>
  split at z
  .next h B m=>
   let⟨a,A,E,_,G,L,i,O,b⟩:=ahs I Z m
   refine⟨.ref a,E,.inl ⟨rfl,A,sq_of i⟩,⟨g,u,M,I,?_⟩⟩;cases n:f M u with
   |exc x=>rw[n]at z;exact λy c dd e r=>z σ y g c dd (Gr.ex e) (I.ex e) r.fr
   |bad=>rw[n]at z;exact awt z
   |ok d=>
    rw[n]at z;intro v y e r;have z:(if B.length<100000 then dB.next u (M.set h (lin (B++[d]))) else .bad).sat (sN X.K aj false D.nx g H) (sR X.K aj false D.rt g H) (sN X.K aj false D.bk g H) (sN X.K aj false D.ct g H) (sX X.K aj W false g H):=z;split at z
    .next hlen=>
     have C:=I.ex e;have b:=b.ex e I.kd;let⟨J,Q⟩:=C.ard G L (e _ _ i) O (b.append (.cons r .nil))
     refine⟨a,A,v,rfl,rfl,e _ _ i,sz_lt (by rw[b.length];exact hlen),?_⟩;exact z _ _ g ((Gr.ex e).trans Q) J
    .exact awt z
  .exact awt z
 .exact awt z
@[simp]def abF (f:QT) (M:Mo) (c:Env):aR Bool:=match f M (qK c) with
 |.ok b=>.ok b M
 |.exc x=>if lfX x=true then .exc x M else .bad
 |.bad=>.bad
def apP{f:QT}(h:uI aj X W e f):Gp aj X W q e (abF f):=PT.weak h λσ H Q ⟨g,i,M,I,z⟩=>by
 refine⟨g.fr,qK i,M,I.qK,?_⟩;unfold abF at z;cases d:f M (qK i) with
 |ok b=>
  rw[d]at z;exact λH' e=>z H' g (Gr.ex e) (I.ex e)
 |bad=>rw[d]at z;exact awt z
 |exc x=>
  rw[d]at z
  dsimp only at z
  split at z
  .next j=>exact λH' c dd e r=>z H' g c dd (Gr.ex e) (I.ex e) (lN.free (g:=g.fr) (g':=g) rfl j r)
  .exact awt z
def Uu(t:Nat)(f:GF):List Dat->Mo->Env->dB
 |[],M,b=>.next b M
 |d::ds,M,b=>match f M (b.set t #[d]) with
  |.ok _ c=>Uu t f ds c (b.set t #[d])
  |_=>.bad
@[simp]def aaw (j t:Nat) (f:GF) (M:Mo) (b:Env):dB:=match b[j]? with
 |some (some (.mut c))=>if t≠j/\t<b.length then(match Uu t f c M (b.set j none) with
  |.next g d=>.next (g.set j (some (.mut c))) d
  |_=>.bad) else .bad
 |_=>.bad
def Gh.off(g:Gh)(a:Addr):Gh:={ g with Lc:=λb=>g.Lc b\/b=a,Lo:=λb=>g.Lo b/\b≠a }
def Gh.on(g c:Gh)(a:Addr):Gh:={ c with Lc:=g.Lc,Lo:=λb=>c.Lo b\/b=a }
end
section
variable{K:ave}{aj:aJ}{g g':Gh}{H H':Hp}{σ:L2.St}{ρ:Env}{M:Mo}{a:Addr}{us:List V}{ds:List Dat}{j:Nat}
def ajk(lo:g.Lo a):∀b,(g.off a).A b->g.A b:=λb z=>by
 rcases z with z|(z|rfl)|z
 .exact .inl z
 .exact .inr (.inl z)
 .exact .inr (.inr lo)
 .exact .inr (.inr z.1)
def SInv.kept(I:SInv K aj σ H g ρ M)(s:ρ[j]?=some (some (.mut ds)))(r:σ[j]?=some (some (.ref a)))(lo:g.Lo a):SInv K aj σ H (g.off a) (ρ.set j none) M:=by
 have n:=ajk lo;refine⟨⟨λb z=>I.kd.ob b (n b z),λb z=>I.kd.lo b z.1,λb z=>?_⟩,dH.less (g:=g) (g':=g.off a) rfl rfl n I.wok,by rw[avC];exact I.len,λi d h=>?_,λi e h=>?_,λi k e u l ne m o=>?_⟩
 .rcases z with z|rfl
  .exact⟨(I.kd.lc b z).1,λy=>(I.kd.lc b z).2 y.1⟩
  .exact⟨I.kd.lo b lo,λy=>y.2 rfl⟩
 .rcases aW h with⟨_,h,_⟩|⟨_,h⟩
  .cases h
  .let⟨v,c,f⟩:=I.dat i d h
   exact⟨v,c,f.less (g:=g) (g':=g.off a) rfl n⟩
 .rcases aW h with⟨_,h,_⟩|⟨ne,h⟩
  .cases h
  .let⟨l,t,c,f,p,q⟩:=I.own i e h
   exact⟨l,t,c,f,⟨p,λy=>I.sep j i ds e a ne s h r (y ▸ c)⟩,q.less (g:=g) (g':=g.off a) rfl n⟩
 .rcases aW m with⟨_,h,_⟩|⟨_,m⟩
  .cases h
  .rcases aW o with⟨_,h,_⟩|⟨_,o⟩
   .cases h
   .exact I.sep i k e u l ne m o
def SInv.back(I:SInv K aj σ H' g' ρ M)(e:g'.Lc=(g.off a).Lc)(G:¬g.Lc a)(t:σ[j]?=some (some (.ref a)))(hl:H' a=some (.lst us))(r:aC K g' H' us ds):SInv K aj σ H' (g.on g' a) (ρ.set j (some (.mut ds))) M:=by
 have c:g'.Lc a:=by rw[e];exact .inr rfl
 have n:∀b,(g.on g' a).A b->g'.A b:=λb z=>by
  rcases z with z|z|z|rfl
  .exact .inl z
  .exact .inr (.inl (by rw[e];exact .inl z))
  .exact .inr (.inr z)
  .exact .inr (.inl c)
 refine⟨⟨λb z=>I.kd.ob b (n b z),λb z=>?_,λb z=>?_⟩,dH.less (g:=g') (g':=g.on g' a) rfl rfl n I.wok,by rw[avC];exact I.len,λi d h=>?_,λi s h=>?_,λi k s C l ne q p f o=>?_⟩
 .rcases z with z|rfl
  .exact I.kd.lo b z
  .exact(I.kd.lc b c).1
 .have z:g.Lc b:=z;have y:=I.kd.lc b (by rw[e];exact .inl z);exact⟨y.1,λw=>w.elim y.2 λw=>G (w ▸ z)⟩
 .rcases aW h with⟨_,h,_⟩|⟨_,h⟩
  .cases h
  .let⟨v,f,o⟩:=I.dat i d h
   exact⟨v,f,o.less (g:=g') (g':=g.on g' a) rfl n⟩
 .rcases aW h with⟨rfl,h,_⟩|⟨_,h⟩
  .cases h;exact⟨a,us,t,hl,.inr rfl,r.less (g:=g') (g':=g.on g' a) rfl n⟩
  .let⟨l,B,f,o,D,E⟩:=I.own i s h
   exact⟨l,B,f,o,.inl D,E.less (g:=g') (g':=g.on g' a) rfl n⟩
 .have no:∀(m:Nat) (u:List Dat),ρ[m]?=some (some (.mut u))->σ[m]?≠some (some (.ref a)):=λm u F y=>by
   let⟨L,B,x,N,J,O⟩:=I.own m u F
   rw[y]at x;cases x;exact(I.kd.lc a c).2 J
  rcases aW q with⟨rfl,_,_⟩|⟨_,q⟩
  .rw[t]at f;cases f;rcases aW p with⟨rfl,_,_⟩|⟨_,p⟩
   .exact ne rfl
   .exact no k C p o
  .rcases aW p with⟨rfl,_,_⟩|⟨_,p⟩
   .rw[t]at o;cases o;exact no i s q f
   .exact I.sep i k s C l ne q p f o
def ap2(lo:g.Lo a)(r:Gr false (g.off a) g' H H'):Gr false g (g.on g' a) H H' where
 keep:=λb o h n m=>r.keep b o h n λz=>m z.1
 keepW:=λz=>nomatch z
 dom:=r.dom
 tbl:=r.tbl
 W:=r.W
 nW:=r.nW
 qg:=λz=>nomatch z
 Lc:=rfl
 Lo:=λb z=>by
  by_cases e:b=a
  .exact .inr e
  .exact .inl (r.Lo b ⟨z,e⟩)
 nLo:=λb z=>by
  rcases z with z|rfl
  .exact(r.nLo b z).imp (·.1) id
  .exact .inl lo
 kl:=r.kl
end
section
variable{X:Cx}{aj:aJ}{W:WX}{e:Expr}{pos pz px epos:Pos}
def alm{j i:Nat}{x z:Str}{f:GF}(hp:PassesOwn (model X.prog X.w) X.A X.env X.xe)(hc:X.calm=true)(he:GE aj X W false e f)(hs:swapsWith e none epos.line X.env=pure false)(hN:X.N.Nodup)
  (hx:X.N[j]?=some x) (R:Vis X.env.scope x) (B:(x==("__debug__" : Str))=false) (F:(x==("__classdict__" : Str))=false) (hi:X.N[i]?=some z) (hl:Loc X.env.scope z) (L:X.fn z=true\/X.env.scope.names.lookup z=some .local) :
  SE aj X W false (.For (.Name z pz) (.Name x px) [.Expr e epos] [] pos) (aaw j i f):=
 PS.weak (ps_for hp hc (ajQ (pe_var hx R B F)) (pg_name hN hi hl L) (pss_one (ps_expr he hs)) (qP rfl)) λD σ H ⟨g,ρ,M,I,h⟩=>by
  unfold aaw at h;left
  case h_2=>exact awt h
  next u hj=>
  left
  case isFalse=>exact awt h
  next O=>
  let⟨a,S,E,Y,q,Z⟩:=I.own j u hj
  left
  case h_2=>exact awt h
  next U Mf L=>
  have nW:=I.kd.lo a q;have nl:¬g.Lc a:=λy=>(I.kd.lc a y).2 q;have C:=I.kept hj E q;have t:aC X.K (g.off a) H S u:=Z.less (g:=g) (g':=g.off a) rfl (ajk q)
  let Pv:Nat->L2.St->Hp->Prop:=λk b m=>∃l p o,Gr false (g.off a) l H m/\SInv X.K aj b m l p o/\b[j]?=some (some (.ref a))/\Uu i f (u.drop k) o p=.next U Mf
  have hk:∀{l:Gh} {m:Hp},Gr false (g.off a) l H m->m a=some (.lst S):=λr=>r.keep a _ Y nW λy=>y.2 rfl;refine⟨.ref a,E,a,rfl,.inl ⟨⟨S,Y⟩,λ_=>?_⟩⟩;refine for_list Pv ⟨g.off a,ρ.set j none,M,Gr.refl,C,E,L⟩ (λk b m _ ⟨l,_,_,r,_⟩=>sq_of (hk r)) (λk v b m R ⟨l,p,o,r,J,s,c⟩=>?_) λb m ⟨l,p,o,r,J,s,c⟩=>?_
  .let⟨d,B,rv⟩:=(t.gr r C.kd).get' R
   have Q:=(avf.mp B).1;have G:u[k]=d:=(avf.mp B).2;rw[avW Q,G,Uu]at c;have J2:=J.set (j:=i) rv;refine⟨l,_,o,J2,?_⟩;cases n:f o (p.set i #[d]) with
   |exc x M2=>rw[n]at c;cases c
   |bad=>rw[n]at c;cases c
   |ok y M2=>
    rw[n]at c;exact λv2 H3 g3 r3 I3 _=>⟨g3,_,M2,r.trans r3,I3,by rw[avm O.1];exact s,c⟩
  .rw[Z.length,av1,Uu]at c;cases c;exact h b m (g.on l a) (ap2 q r) (J.back r.Lc nl s (hk r) (t.gr r C.kd))
end
def tNA(K:ave)(aj:aJ)(W:WX)(f:QA):TA:=λd H Q=>∃g c M,SInv K aj d H g c M/\(f M c).sat (λds=>∀b a,Ex H a->aC K (g.al H λ_=>False) a b ds->Q b a) (pZ K aj W g H d)
@[simp]def Bo (f:QF) (b:QA) (M:Mo) (a:Env):Out (List Dat):=(f M a).bind λd=>if lf d=true then(b M a).bind λds=>.ok (d::ds) else .bad
@[simp]def Xf (f:IF) (M:Mo) (b:Env):Out (List Dat):=(f M b).bind λa=>if fZ a=true then .ok [.list a] else .bad
def adu{g:Gh}{H b:Hp}{k c:Addr->Prop}(e:Ex H b)(n:∀a,¬k a->¬c a):∀a,(g.al H k).A a->(g.al b c).A a:=λa z=>by
 rcases z with z|z|z
 .exact .inl z
 .exact .inr (.inl ⟨z.1.imp id λy=>y.imp id λy=>y.imp λus y=>e a _ y,z.2.1,n a z.2.2⟩)
 .exact awt z
section
variable{X:Cx}{aj:aJ}{W:WX}{q:Bool}{a e:Expr}{fe:QF}{fs:QA}{es:List Expr}
def ano:PA X [] (tNA X.K aj W bZ):=PA.weak pa_nil λσ H Q ⟨g,b,M,I,h⟩=>h [] H (Ex.refl H) .nil
def akC(m:QE aj X W e fe)(o:PA X es (tNA X.K aj W fs))(p:nst e=true):PA X (e::es) (tNA X.K aj W (Bo fe fs)):=
 PA.weak (pa_cons m o (bH p es)) λσ H Q ⟨g,t,M,I,h⟩=>by
  refine tQ.go I h.bnd λd v i c b r1=>?_;split at c
  .next n=>
   refine⟨g,t,M,I.ex b,c.bnd.mono (λds l s j f r=>?_) λ_ z=>z.ex b⟩;exact l (v::s) j (b.trans f) (.cons (Rep.free (g:=g) (g':=g.al H λ_=>False) rfl n (r1.ex f (I.kd.ex b))) (r.less (g:=g.al i λ_=>False) (g':=g.al H λ_=>False) rfl (adu b λ_ z=>z)))
  .exact awt c
def aqK{f:IF}(d:FE aj X W e f)(j:nst e=true):PA X [e] (tNA X.K aj W (Xf f)):=
 PA.weak (pa_cons d pa_nil (bH j [])) λσ H Q ⟨g,p,M,I,h⟩=>by
  refine⟨g,p,M,I,h.bnd.mono (λxs b l m c n e i r=>?_) λ_ z=>z⟩;split at b
  .next k=>
   refine b [.ref l] c e (.cons (.lst (.inl ⟨i,λz=>?_⟩) (aC.free (g:=g.add l) (g':=g.al H λ_=>False) rfl k r)) .nil);have no:∀{o:HO},H l=some o->False:=λy=>by
    rw[n]at y;cases y
   rcases z with z|z|z
   .let⟨o,y,_⟩:=I.kd.ob l (.inl z)
    exact no y
   .rcases z.1 with z|z|⟨m,z⟩
    .let⟨o,y,_⟩:=I.kd.ob l (.inr (.inl z))
     exact no y
    .let⟨o,y,_⟩:=I.kd.ob l (.inr (.inr z))
     exact no y
    .exact no z
   .exact z
  .exact awt b
end
def afa(j:Nat)(c:Env)(a:Mo):Dat->dB
 |.list b=>if fZ b=true then .next (c.set j #[obj a.length]) (a++[lin b]) else .bad
 |d=>if lf d=true then .next (c.set j #[d]) a else .bad
@[simp]def QZ (j:Nat) (m:Mo->List Dat->aR Dat) (as:QA) (M:Mo) (b:Env):dB:=if jo M=true then(match as M b with
 |.ok c=>(match m M c with
  |.ok d a=>if jo a=true then afa j b a d else .bad
  |.exc x a=>if (jo a&&lfX x)=true then .exc x b a else .bad
  |.bad=>.bad)
 |.exc x=>.exc x b M
 |.bad=>.bad) else .bad
def agT{K:ave}{aj:aJ}{W:WX}{g:Gh}{H:Hp}{k:L2.St}{i:Env}{M:Mo}{j:Nat}{D:Ends}{o:aR Dat}(I:SInv K aj k H g i M)(w:jo M=true)(z:((match o with
 |.ok d e=>if jo e=true then afa j i e d else .bad
 |.exc x e=>if (jo e&&lfX x)=true then .exc x i e else .bad
 |.bad=>.bad):dB).sat (sN K aj false D.nx g H) (sR K aj false D.rt g H) (sN K aj false D.bk g H) (sN K aj false D.ct g H) (sX K aj W false g H)) :
  o.sat (λd e=>∀v f b,Gr false (g.al H (cI [] k i)) b H f->SInv K aj k f b (Cu [] i) e->Rep K b f v d->gName j v k f D.nx) (gE K aj W false (g.al H (cI [] k i)) H k (Cu [] i)):=by
 cases o with
 |bad=>exact awt z
 |exc x e=>
  intro f b c dd r m C
  dsimp only at z
  split at z
  .next l=>
   rw[avh]at l;exact z k f (g.af b λ_=>False) c dd (Q6 I r λ_ y=>awt y) (Qm I r m l.1 λ_ y=>awt y) (lN.free (g:=b) (g':=(g.af b λ_=>False).fr) rfl l.2 C)
  .exact awt z
 |ok d e=>
  intro v f b r m q
  dsimp only at z
  split at z
  .next l=>
   unfold afa at z;split at z
   .next E=>
    split at z
    .next A=>
     let⟨a,rfl⟩:=(show ∀{v:V},Rep K b f v (.list E)->∃a,v=V.ref a from λh=>by
      cases h with
      |lst _ _=>exact⟨_,rfl⟩) q
     let⟨G,s,t,u,n⟩:=abN (j:=i.length) (vs:=[]) I r w rfl q
     have n:H a=none:=n.elim id λ⟨_,_,F,y⟩=>by
      rw[avJ (avE _)]at y;cases y
     let⟨J,R⟩:=anI I r m l s n u t A
     have p:e.length=b.tbl.length:=m.wok.len.symm;have B:(g.an b a).tbl[e.length]?=some a:=by
      show(b.tbl++[a])[e.length]?=some a
      rw[p,avv (avE _),Nat.sub_self];rfl
     exact z _ f (g.an b a) R (J.set (.obj B))
    .exact awt z
   .split at z
    .next p=>
     have J:=Qm (P:=λ_=>False) I r m l λ_ y=>awt y;exact z _ f (g.af b λ_=>False) (Q6 I r λ_ y=>awt y) (J.set (Rep.free (g:=b) (g':=g.af b λ_=>False) rfl p q))
    .exact awt z
  .exact awt z
section
variable{X:Cx}{aj:aJ}{W:WX}{e:Expr}{pos:Pos}
def akr{j k:Nat}{y x:Str}{f:Addr}{R:FuncData}{C:List Str}{m:Mo->List Dat->aR Dat}{as:QA}{l p b:Pos}{i:List Expr}(tk:Takes X W)(F:FnOk X.prog X.w X.K X.mg X.base (L2.CX X.prog X.w) k f R C (HJ X.K aj C.length m))(hr:Room k X.A)(hg:Gl X x)(hm:X.mg x=some (.ref f))(hk:PySem.W.keepIn X.K (.ref f)=true)(Z:Binds X.K R C [])
  (Y:PA X (e::i) (tNA X.K aj W as)) (hl:(e::i).length=C.length) (hd:(x==("__debug__" : Str))=false) (hs:(e::i).all nst=true) (hn:∀M o u,as M o=.ok u->u.length=(e::i).length)
  (U:X.N.Nodup) (hi:X.N[j]?=some y) (hy:Loc X.env.scope y) (hf:X.fn y=true\/X.env.scope.names.lookup y=some .local) (hw:swapsWith (.Call (.Name x p) (e::i) [] b) (some (.Name y l)) pos.line X.env=pure false):SE aj X W false (.Assign [.Name y l] (.Call (.Name x p) (e::i) [] b) pos) (QZ j m as):=by
 have n:=hs;rw[avI,avh]at n;refine PS.weak (ps_set U hi hy (pe_callS (E:=λq=>WE W q) F hr hg hm hk Z (λq=>passAt tk q) Y hd (bH n.1 i) (star_any i n.2)) hw hf) λD q H ⟨g,o,M,I,z⟩=>?_;unfold QZ at z;split at z
 .next Q=>
  refine⟨g,o,M,I,?_⟩;cases a:as M o with
  |exc x=>rw[a]at z;exact λt c dd e r=>z q t g c dd (Gr.ex e) (I.ex e) r.fr
  |bad=>rw[a]at z;exact awt z
  |ok u=>
   rw[a]at z;simp only at z;have h:=agT I Q z;have J:=I.al [] Q;intro vs H1 s r1;exact⟨by rw[r1.length,hn M o u a];exact hl,g.al H (cI [] q o),M,u,J.kd.ex s,J.wok.ex s J.kd,r1.less (g:=g.al H λ_=>False) (g':=g.al H (cI [] q o)) rfl (adu (Ex.refl H) λ_ _ z=>z),h.mono (λd S L v t B c G P O=>L v t B ((Gr.ex s).trans c.gr) ((J.ex s).call c G P) O) λx S L t B T dd c G P O=>L t B T dd ((Gr.ex s).trans c.gr) ((J.ex s).call c G P) O⟩
 .exact awt z
end
mutual
def Jp:Dat->Bool
 |.list a=>Iw a
 |.tuple a=>Iw a
 |.dict _=>false
 |_=>true
def Iw:List Dat->Bool
 |[]=>true
 |d::ds=>Jp d&&Iw ds
end
def Gh.non:Gh:=⟨[],λ_=>none,λ_=>False,λ_=>False,True⟩
def ajv(a:Addr):¬Gh.non.A a:=λz=>by
 rcases z with(z|z)|z|z
 .cases z
 .exact z rfl
 .exact z
 .exact z
theorem Gv.non{K:ave}{H:Hp}{a:Addr}{b:List V}(h:SqL K H a b):Gv K Gh.non H a b:=.inr ⟨awr,h.imp (λz=>⟨z,ajv a⟩) id⟩
mutual
theorem Rep.Tt{K:ave}{g:Gh}{H:Hp}:∀{v:V} {d:Dat},Jp d=true->Rep K g H v d->Rep K Gh.non H v d
 |_,_,_,.non=>.non
 |_,_,_,.bl b=>.bl b
 |_,_,_,.int i=>.int i
 |_,_,_,.str x=>.str x
 |_,_,f,.tup h t=>.tup h (aC.Tt (by rw[Jp]at f;exact f) t)
 |_,_,f,.lst h t=>.lst (Gv.non h.sq) (aC.Tt (by rw[Jp]at f;exact f) t)
 |_,_,f,.obj h=>nomatch f
theorem aC.Tt{K:ave}{g:Gh}{H:Hp}:∀{b:List V} {a:List Dat},Iw a=true->aC K g H b a->aC K Gh.non H b a
 |_,_,_,.nil=>.nil
 |_,_,f,.cons h t=>.cons (Rep.Tt (by rw[Iw,avh]at f;exact f.1) h) (aC.Tt (by rw[Iw,avh]at f;exact f.2) t)
end
theorem dJ.non{K:ave}{g:Gh}{H:Hp}{v:V}{d:Dat}(f:Jp d=true)(h:dJ K g H v d):Rep K Gh.non H v d:=by
 cases d with
 |list e=>
  let⟨a,i,rfl,b,c⟩:=gY h
  exact .lst (Gv.non b) (c.Tt (by rw[Jp]at f;exact f))
 |_=>exact Rep.Tt f h
def aoG(H:Hp):Kd Gh.non H:=⟨λa z=>awt (ajv a z),λ_ z=>awt z,λ_ z=>awt z⟩
def alj{K:ave}{aj:aJ}{g:Gh}{H:Hp}{M:Mo}(w:dH K aj g H M)(b:Hp):dH K aj Gh.non b []:=⟨rfl,λh k a z=>(by cases z),λh a i z=>(by cases z),λh i z=>(by cases z),λh i z=>(by cases z),λh a i z=>(by cases z),λh a c z=>(by cases z),w.nc⟩
@[simp]def ae7 (m:Mo->List Dat->Out Dat) (fa c:QF) (M:Mo) (a:Env):Out Dat:=(fa M a).bind λx=>(c M a).bind λy=>if (Jp x&&Jp y)=true then(match m [] [x,y] with
 |.ok (.bool b)=>.ok (.bool b)
 |_=>.bad) else .bad
section
variable{X:Cx}{aj:aJ}{W:WX}{a b:Expr}{pos p:Pos}{x:Str}{k:Nat}{f:Addr}{fd:FuncData}{ps:List Str}
def akf{C:CXT}{m:Mo->List Dat->Out Dat}{fa t:QF}(Y:∀i,PassesAt C X i (WE W i))(F:FnOk X.prog X.w X.K X.mg X.base C k f fd ps (RJ X.K aj ps.length m))(R:Room k X.A)(N:Gl X x)(P:X.mg x=some (.ref f))(hk:PySem.W.keepIn X.K (.ref f)=true)(J:Binds X.K fd ps [])
  (G:QW aj X W a fa) (o:QW aj X W b t) (O:2=ps.length) (L:(x==("__debug__" : Str))=false) (S:[a,b].all nst=true):QE aj X W (.Call (.Name x p) [a,b] [] pos) (ae7 m fa t):=by
 have c:=S;rw[avI,avI,avh,avh]at c;refine PE.weak (pe_callS (E:=λi=>WE W i) F R N P hk J Y (pa_cons G (pa_cons o pa_nil (bH c.2.1 [])) (bH c.1 [b])) L (bH c.1 [b]) (star_any [b] (by simp[c.2.1]))) λi H Q ⟨g,ρ,M,I,h⟩=>?_;refine tW.go I h.bnd λd v Z D l r1=>?_;have j:=I.ex l;refine tW.go j (D.bnd.mono (λ_ z=>z) λ_ z=>z.ex l) λy v2 s e n U=>?_;have I2:=j.ex n;split at e
 .next r=>
  rw[avh]at r;refine⟨by simpa using O,Gh.non,[],[d,y],aoG s,alj I.wok s,.cons ((r1.ex n j.kd).non r.1) (.cons (U.non r.2) .nil),?_⟩;split at e
  .next b q=>
   rw[q];exact λv' u B T=>by
    cases T;exact e _ u ((l.trans n).trans B) (.bl b)
  .exact awt e
 .exact awt e
end
def aqQ{X:Cx}{aj:aJ}{W:WX}{q:Bool}{pos:Pos}{a b:Expr}{fa:GF}{l:QF}(r:GE aj X W q a fa)(s:QW aj X W b l)(t:PlainIx b):GE aj X W q (.Subscript a b pos) (R3 Fv fa l):=
 PE.weak (pe_ix apf r s t) λσ H Q ⟨g,E,M,I,h⟩=>by
  refine tE.go I h.bnd λd M1 v D j o r1 f B=>?_;refine tW.go f ((Out.dY o.bnd).mono (λ_ z=>z) λ_ z=>?_) λd2 C m p i y=>?_
  .exact λH' c dd e x=>z H' j c dd (r1.trans (Gr.ex e)) (f.ex e) x
  .refine ajK (aj:=aj) (W:=W) σ j m v C d d2 Q (f.kd.ex i) ((B.ex i f.kd).weak) y ((Out.dY p).mono (λz w u n k A=>w u n j (r1.trans (Gr.ex (i.trans k))) (f.ex (i.trans k)) A) λx z=>?_);exact λH' c dd e x=>z H' j c dd (r1.trans (Gr.ex (i.trans e))) (f.ex (i.trans e)) x
@[simp]def afs (a b:GF) (M:Mo) (c:Env):aR Dat:=(a M c).bind λd M1=>((G4 d).at M1).bind λx _=>if x=true then b M1 c else .ok (.bool false) M1
def aj1{X:Cx}{aj:aJ}{W:WX}{q:Bool}{pos:Pos}{a b:Expr}{fa e:GF}{rest:List Expr}(r:GE aj X W q a fa)(s:GE aj X W q (.BoolOp .And (b::rest) pos) e):GE aj X W q (.BoolOp .And (a::b::rest) pos) (afs fa e):=
 PE.weak (pe_and r s) λσ H Q ⟨g,A,M,I,h⟩=>by
  refine tE.go I h.bnd λd M1 v l f o r1 c x=>?_;let⟨k,p,i⟩:=Eo x.weak (Out.dY o.bnd)
  refine⟨k,p,?_⟩;cases k with
  |true=>exact⟨f,A,M1,c,i.mono (λd B t y j n u m w=>t y j n (r1.trans u) m w) λ_ _ z=>z.gr r1⟩
  |false=>exact i _ l f r1 c (.bl false)
def MV.n:MV->Nat
 |.q n _=>n
 |.g n _=>n
def MV.qt:MV->Bool
 |.q _ _=>true
 |.g _ _=>false
def tbN(a:List (Str×MV))(n:Nat):Bool:=a.all λp=>p.2.n==n
def tbQ(a:List (Str×MV)):Bool:=a.all λp=>p.2.qt
theorem o9{b:Type}{c:Str}{v:b}:∀{a:List (Str×b)},a.lookup c=some v->(c,v)∈a
 |[],h=>nomatch h
 |(y,u)::r,h=>by
  rw[avM]at h;left
  .next e=>
   cases h;rw[awB e];exact avl
  .exact avk _ (o9 h)
section
variable{aj:aJ}{c:Tc}{X:Cx}{W:WX}{k:Nat}{t:Tr}
def aap(a:Amb aj c X W k){m:Str}{n:Nat}{b:List (Str×MV)}(h:c.hs.Ms.lookup m=some b)(e:tbN b n=true):LR X aj k m n b:=λy v d=>by
 refine⟨a.hk.ms m b h y v d,?_⟩;have:=avx.mp e _ (o9 d);cases v<;>exact awB this
def abh(t:Tr)(c:Tc)(o:Expr)(m:Str)(b:List Expr)(a pos:Pos):Option QF:=
 (c.hs.Ms.lookup m).bind λd=>(t.W c o).bind λe=>(JG t c b).bind λas=>
  gd (tbQ d&&(tbN d (b.length+1)&&(baseOk o&&(decide (b.length<30)&&(a.endLine==pos.line))))) (some (aD d e as))
def agM(o:t.Ok)(a:Amb aj c X W k){b:Expr}{m:Str}{g:List Expr}{d pos:Pos}{f:QF}(h:abh t c b m g d pos=some f):QE aj X W (.Call (.Attribute b m d) g [] pos) f:=by
 unfold abh at h;obtain⟨y,i,h⟩;obtain⟨x,p,h⟩;obtain⟨as,q,h⟩;let⟨r,h⟩:=aG.mp h
 cases h;simp![avh,awu]at r;let⟨_,j,l,s,n⟩:=r
 let⟨u,v,w⟩:=u5 o a q
 cases g with
 |nil=>
  cases q;exact ai9 (a.tm i) a.rm (aap a i j) (o.ow a p) l n
 |cons e g=>exact alQ (a.tm i) a.rm (aap a i j) (o.ow a p) u w l v n s
def inN:CmpOp->Option Bool
 |.In=>some false
 |.NotIn=>some true
 |_=>none
def ahr{b:CmpOp}{neg:Bool}(d:Room k X.A)(h:inN b=some neg):OpR X (compareOp b) (rInD X neg):=by
 have a:X.A.units+64<cLine:=by have:=d.un;omega
 cases b<;>cases h
 .exact op_inD a
 .exact op_notInD a
def aft(t:Tr)(c:Tc)(e:Expr)(d:CmpOp)(o:Expr)(f:Str):Option QF:=
 (inN d).bind λneg=>(c.hs.df.lookup f).bind λ_=>(t.E c e).bind λa=>(t.W c o).bind λb=>gd (baseOk o) (some (Yv neg f a b))
def am7{o e:Expr}{f:Str}{x pos:Pos}{i b:QF}{neg:Bool}{a:CmpOp}(l:jP X.K aj)(hw:aj.w=X.w)(u:OpR X (compareOp a) (rInD X neg))(hk:QE aj X W e b)(s:QW aj X W o i)(r:baseOk o=true):uI aj X W (.Compare e [a] [.Attribute o f x] pos) (dR (Yv neg f b i)):=
 PT.weak (pt_cmpR u hk (pe_fld s (jy r)) (by cases a<;>rfl)) λσ H Q ⟨g,A,M,I,h⟩=>by
  refine ajt l hw σ H _ ⟨g,A,M,I,h.bnd.mono (λd n v j m y=>?_) λ_ z=>z⟩;let⟨k,p,q⟩:=Eo y.weak n
  exact⟨k,p,q j m⟩
def aeA(o:t.Ok)(a:Amb aj c X W k){e b:Expr}{d:CmpOp}{m:Str}{n pos:Pos}{f:QF}(h:aft t c e d b m=some f):QE aj X W (.Compare e [d] [.Attribute b m n] pos) f/\uI aj X W (.Compare e [d] [.Attribute b m n] pos) (dR f):=by
 unfold aft at h;obtain⟨neg,g,h⟩;obtain⟨_,_,h⟩;obtain⟨p,i,h⟩;obtain⟨q,j,h⟩;let⟨l,h⟩:=aG.mp h
 cases h;exact⟨anQ a.hk.co a.hk.hw (ahr a.rm g) (o.oe a i) (o.ow a j) l,am7 a.hk.co a.hk.hw (ahr a.rm g) (o.oe a i) (o.ow a j) l⟩
def aaA(t:Tr)(c:Tc)(e:Expr)(b:CmpOp)(x:Str):Option QF:=
 (inN b).bind λneg=>match c.G.lookup x with
  |some (.dic kvs)=>(t.W c e).bind λa=>gd (wL c.sc x&&!vU x) (some (acQ neg kvs a))
  |_=>none
def abW(o:t.Ok)(a:Amb aj c X W k){e:Expr}{b:CmpOp}{x:Str}{g pos:Pos}{f:QF}(h:aaA t c e b x=some f):QE aj X W (.Compare e [b] [.Name x g] pos) f/\uI aj X W (.Compare e [b] [.Name x g] pos) (dR f):=by
 unfold aaA at h;obtain⟨neg,i,h⟩;left
 .next kvs l=>
  obtain⟨m,j,h⟩;let⟨d,h⟩:=aG.mp h
  cases h;simp![avh,avB]at d;refine amX a.rm ?_ (a.gl x _ l) (lW a d.1) (jf d.2).1 (o.ow a j);cases b<;>cases i
  .exact .inl ⟨rfl,rfl⟩
  .exact .inr ⟨rfl,rfl⟩
 .cases h
def aa1(t:Tr)(c:Tc):Expr->Option QF
 |.Call (.Name y _) [b] [] _=>(match vY c y "set" with
  |true=>(t.W c b).bind λd=>gd (nst b) (some (dG U7 d))
  |false=>(t.W c (.Call (.Name y ⟨0,0,0,0⟩) [b] [] ⟨0,0,0,0⟩)).bind λ_=>none)
 |.SetComp elt [⟨a,iter,ifs,0⟩] scope _=>(t.I c false a iter).bind λg=>(YM (c.inn scope) a).bind λjt=>(Xj t (c.inn scope) ifs).bind λtt=>(t.E (c.inn scope) elt).bind λte=>
  gd (blkC c.N c.sc scope (qY a jt.1)&&(Uj jt.1 ((qY a jt.1).map (·.2))&&!yr iter)) (some (Fg g jt.2 ((qY a jt.1).map (·.2)) tt te))
 |e=>(t.W c e).bind λf=>gd (nst e) (some (dG Mp f))
def ah8(a:Amb aj c X W k):X.A.units+65<cLine:=by have:=a.rm.un;omega
def ahf(o:t.Ok)(a:Amb aj c X W k)(j:Gl X "sorted")(m:X.mg "sorted"=none){e:Expr}{p pos:Pos}{f:QF}(h:aa1 t c e=some f):QE aj X W (.Call (.Name "sorted" p) [e] [] pos) f:=by
 unfold aa1 at h;left
 .left
  .next i=>
   obtain⟨z,g,h⟩;let⟨q,h⟩:=aG.mp h
   cases h;let⟨rfl,l,n⟩:=oY a i
   exact ajW (ah8 a) a.calm j m l n (o.ow a g) q
  .obtain⟨_,_,h⟩;cases h
 .obtain⟨B,g,h⟩;obtain⟨⟨D,F⟩,w,h⟩;obtain⟨G,x,h⟩;obtain⟨E,y,h⟩;let⟨i,h⟩:=aG.mp h
  cases h;simp![avh,avB]at i;let⟨r,u,v⟩:=i
  exact afM (ah8 a) a.calm a.nd j m (o.oi a g) (by rw[a.hN,a.hs];exact r) (tO u) (λs H C b d=>yW (a.inn _ s H C b d) w) (λs H C b d=>Bt o (a.inn _ s H C b d) x) (λs H C b d=>o.oe (a.inn _ s H C b d) y) (qP v)
 .obtain⟨A,g,h⟩;let⟨q,h⟩:=aG.mp h
  cases h;exact alY (ah8 a) j m (o.ow a g) q
def VR(t:Tr)(c:Tc)(h f e:Expr)(i:List Expr)(b d:Expr)(g:List Expr)(a:Scope):Option QF:=
 (t.I c false f e).bind λj=>(YM (c.inn a) f).bind λjt=>(Xj t (c.inn a) i).bind λtt=>(t.I (c.inn a) true b d).bind λit1=>(YM (c.inn a) b).bind λjt1=>(Xj t (c.inn a) g).bind λtt1=>(t.E (c.inn a) h).bind λte=>
  gd (blkC c.N c.sc a (qY f jt.1++qY b jt1.1)&&(Uj ((qY b jt1.1).map (·.2)) ((qY f jt.1++qY b jt1.1).map (·.2))&&(Uj jt.1 ((qY f jt.1++qY b jt1.1).map (·.2))&&(Uj jt1.1 ((qY b jt1.1).map (·.2))&&(!yr e&&!yr d)))))
   (some (Gu j jt.2 ((qY f jt.1++qY b jt1.1).map (·.2)) tt it1 jt1.2 ((qY b jt1.1).map (·.2)) tt1 te))
def ahZ(o:t.Ok)(a:Amb aj c X W k){l q j n e:Expr}{m i:List Expr}{g:Scope}{pos:Pos}{f:QF}(h:VR t c l q j m n e i g=some f):QE aj X W (.ListComp l [⟨q,j,m,0⟩,⟨n,e,i,0⟩] g pos) f:=by
 unfold VR at h;obtain⟨N,z,h⟩;obtain⟨⟨O,Q⟩,A,h⟩;obtain⟨R,B,h⟩;obtain⟨I,D,h⟩;obtain⟨⟨J,L⟩,E,h⟩;obtain⟨M,F,h⟩;obtain⟨P,G,h⟩;let⟨p,h⟩:=aG.mp h
 cases h;simp![avh,avB]at p;let⟨r,u,v,w,x,y⟩:=p
 exact aoO a.calm a.nd (o.oi a z) (by rw[a.hN,a.hs];exact r) (tO u) (tO v) (tO w) (λs H C b d=>yW (a.inn _ s H C b d) A) (λs H C b d=>Bt o (a.inn _ s H C b d) B) (λs H C b d=>o.oi (a.inn _ s H C b d) D) (λs H C b d=>yW (a.inn _ s H C b d) E) (λs H C b d=>Bt o (a.inn _ s H C b d) F) (λs H C b d=>o.oe (a.inn _ s H C b d) G) (qP x) (λenv=>qP y)
def els{d:Type}(a b:Option d):Option d:=match a with
 |some x=>some x
 |none=>b
def kJ{d:Type}{a b:Option d}{x:d}(h:els a b=some x):a=some x\/b=some x:=by
 cases a with
 |none=>exact .inr h
 |some y=>exact .inl h
def xE0(t:Tr)(c:Tc):Expr->Option QF
 |.Attribute o f _=>gd (baseOk o) ((t.W c o).bind λa=>some (gA f a))
 |.Call (.Attribute o m apos) es [] pos=>abh t c o m es apos pos
 |.Compare e [op] [.Attribute o f _] _=>aft t c e op o f
 |.Compare e [op] [.Name x _] _=>aaA t c e op x
 |.Subscript (.Name x _) e _=>(match c.G.lookup x with
  |some (.dic kvs)=>(t.W c e).bind λd=>gd (wL c.sc x&&(!vU x&&!W4 e)) (some (afo kvs d))
  |_=>none)
 |.ListComp elt [⟨g,iter,ifs,0⟩,⟨b,iter1,ifs1,0⟩] scope _=>VR t c elt g iter ifs b iter1 ifs1 scope
 |.Call (.Name x _) [e] [] _=>(match vY c x "sorted" with
  |true=>aa1 t c e
  |false=>match vY c x "list",e with
   |true,.Attribute o f _=>(c.hs.df.lookup f).bind λ_=>(t.W c o).bind λa=>gd (baseOk o) (some (J5 f a))
   |_,_=>none)
 |_=>none
def amL(o:t.Ok)(a:Amb aj c X W k){e:Expr}{f:QF}(h:xE0 t c e=some f):QE aj X W e f:=by
 unfold xE0 at h;left
 .let⟨b,h⟩:=aG.mp h
  obtain⟨l,d,h⟩;cases h;exact anY a.hk.co (o.ow a d) b
 .exact agM o a h
 .exact(aeA o a h).1
 .exact(abW o a h).1
 .left
  .next kvs m=>
   obtain⟨n,d,h⟩;let⟨b,h⟩:=aG.mp h
   cases h;simp![avh]at b;exact anD (a.gl _ _ m) (lW a b.1) (jf (by simpa using b.2.1)).1 (o.ow a d) (Td b.2.2)
  .cases h
 .exact ahZ o a h
 .left
  .next b=>
   let⟨rfl,i,j⟩:=oY a b
   exact ahf o a i j h
  .left
   .next b=>
    obtain⟨_,_,h⟩;obtain⟨l,d,h⟩;let⟨g,h⟩:=aG.mp h
    cases h;let⟨rfl,i,j⟩:=oY a b
    exact ahU a.hk.co a.hk.hw a.calm i j (o.ow a d) g
   .cases h
 .cases h
def xE1(t:Tr)(c:Tc)(e:Expr):Option QF:=els (trX t c e) (xE0 t c e)
def anu(o:t.Ok)(a:Amb aj c X W k){e:Expr}{f:QF}(h:xE1 t c e=some f):QE aj X W e f:=(kJ h).elim (amE o a) (amL o a)
def xE(t:Tr)(c:Tc)(e:Expr):Option QF:=xE1 t c e
def aqh(o:t.Ok)(a:Amb aj c X W k){e:Expr}{f:QF}(h:xE t c e=some f):QE aj X W e f:=anu o a h
def xW(t:Tr)(c:Tc):Expr->Option QF
 |.Attribute o f _=>gd (baseOk o) ((t.W c o).bind λa=>some (aY f a))
 |_=>none
def aqC(o:t.Ok)(a:Amb aj c X W k){e:Expr}{f:QF}(h:xW t c e=some f):QW aj X W e f:=by
 unfold xW at h;left
 .let⟨d,h⟩:=aG.mp h
  obtain⟨g,b,h⟩;cases h;exact amk a.hk.co (o.ow a b) d
 .cases h
def xT(t:Tr)(c:Tc):Expr->Option QT
 |.Compare e [a] [.Attribute o f _] _=>(aft t c e a o f).bind λg=>some (dR g)
 |.Compare e [a] [.Name x _] _=>(aaA t c e a x).bind λg=>some (dR g)
 |_=>none
def aql(o:t.Ok)(a:Amb aj c X W k){e:Expr}{f:QT}(h:xT t c e=some f):uI aj X W e f:=by
 unfold xT at h;left
 .obtain⟨g,b,h⟩;cases h;exact(aeA o a b).2
 .obtain⟨g,b,h⟩;cases h;exact(abW o a b).2
 .cases h
def xI(t:Tr)(c:Tc)(a:Bool):Expr->Option IF
 |.Attribute o f _=>(match a with
  |true=>none
  |false=>(c.hs.df.lookup f).bind λ_=>gd (baseOk o) ((t.W c o).bind λb=>some (Ka f b)))
 |_=>none
def ap7(o:t.Ok)(a:Amb aj c X W k){b:Bool}{i e:Expr}{f:IF}(h:xI t c b e=some f):QI aj X W b i e f:=by
 unfold xI at h;left
 .left
  .cases h
  .obtain⟨_,_,h⟩;let⟨g,h⟩:=aG.mp h
   obtain⟨j,d,h⟩;cases h;exact aiN a.hk.co a.hk.hw (o.ow a d) g
 .cases h
def xtE(t:Tr)(c:Tc)(e:Expr):Option QF:=els (xE t c e) (stE t c e)
def xtW(t:Tr)(c:Tc)(e:Expr):Option QF:=els (xW t c e) (stW t c e)
def xtT(t:Tr)(c:Tc)(e:Expr):Option QT:=els (xT t c e) (stT t c e)
def xtI(t:Tr)(c:Tc)(a:Bool)(b e:Expr):Option IF:=els (xI t c a e) (stI t c a b e)
end
structure rA(aj:aJ)(c:Tc)(X:Cx)(W:WX)(k:Nat):Prop extends Amb aj c X W k where
 ps:PassesOwn (model X.prog X.w) X.A X.env X.xe
 st:X.stack=X.env::X.outer
 fr:X.env.frame=some X.env.locals
 kf:X.env.scope.kind=.function
structure Ts where
 G:Tc->Expr->Option GF
 H:Tc->Expr->Option GT
 S:Tc->Stmt->Option SF
 B:Tc->List Stmt->Option SF
structure Ts.Ok(s:Ts)(q:Bool):Prop where
 og:∀{aj:aJ} {c:Tc} {X:Cx} {W:WX} {k:Nat},rA aj c X W k->∀{e:Expr} {f:GF},s.G c e=some f->GE aj X W q e f
 oh:∀{aj:aJ} {c:Tc} {X:Cx} {W:WX} {k:Nat},rA aj c X W k->∀{e:Expr} {f:GT},s.H c e=some f->Gp aj X W q e f
 os:∀{aj:aJ} {c:Tc} {X:Cx} {W:WX} {k:Nat},rA aj c X W k->∀{e:Stmt} {f:SF},s.S c e=some f->SE aj X W q e f
 ob:∀{aj:aJ} {c:Tc} {X:Cx} {W:WX} {k:Nat},rA aj c X W k->∀{e:List Stmt} {f:SF},s.B c e=some f->Dq aj X W q e f
def DQ:Expr->Bool
 |.ListComp _ _ _ _=>true
 |.SetComp _ _ _ _=>true
 |.DictComp _ _ _ _ _=>true
 |_=>false
def vm{e:Expr}{b:Option Expr}{l:Nat}{a:PySem.Env}(h:DQ e=false):swapsWith e b l a=pure false:=by cases e<;>first | rfl | cases h
def aeX:Expr->Bool
 |.Tuple _ _ _=>true
 |_=>false
def swB(b:Scope)(v:Expr)(a:Scope)(x:Str)(p:Pos):Bool:=(match b.names.lookup x with
 |some .local=>true
 |_=>false)&&(p.line==v.pos.line&&!(a.names.any λ(n,k)=>n==x&&(k==.local || k==.cell)))
def acp{X:Cx}{c:Expr}{b:List Comprehension}{a:Scope}{pos p:Pos}{x:Str}{l:Nat}(hk:X.env.scope.kind=.function)(h:swB X.env.scope (.ListComp c b a pos) a x p=true):X.env.scope.names.lookup x=some .local/\swapsWith (.ListComp c b a pos) (some (.Name x p)) l X.env=pure true:=by
 unfold swB at h;simp![avh]at h;let⟨e,g,i⟩:=h
 have d:X.env.scope.names.lookup x=some .local:=by
  split at e
  .assumption
  .cases e
 refine⟨d,?_⟩;have f:X.env.blockKind=.function:=by unfold PySem.Env.blockKind;rw[hk];rfl
 unfold swapsWith
 show(pure (X.env.blockKind==.function&&X.env.kindOf x==some .local&&p.line==(Expr.ListComp c b a pos).pos.line&&!(a.names.any λ(n,k)=>n==x&&(k==.local || k==.cell))):Sem Bool)=pure true
 rw[f,g,i];unfold PySem.Env.kindOf;rw[d];rfl
def aiz(a:Scope)(v:Expr)(x:Str)(p:Pos):Bool:=!(p.line==v.pos.line) || (match a.names.lookup x with
 |some .local=>false
 |_=>true)
def aon{X:Cx}{c:Expr}{b:List Comprehension}{a:Scope}{pos p:Pos}{x:Str}{l:Nat}(h:aiz X.env.scope (.ListComp c b a pos) x p=true):swapsWith (.ListComp c b a pos) (some (.Name x p)) l X.env=pure false:=by
 unfold swapsWith
 show(pure (X.env.blockKind==.function&&X.env.kindOf x==some .local&&p.line==(Expr.ListComp c b a pos).pos.line&&!(a.names.any λ(n,k)=>n==x&&(k==.local || k==.cell))):Sem Bool)=pure false
 unfold aiz at h;rw[awb,avB]at h;rcases h with h|h
 .rw[h,Bool.and_false,Bool.false_and]
 .have e:(X.env.kindOf x==some .local)=false:=by
   unfold PySem.Env.kindOf;left
   .cases h
   .next q=>
    cases d:X.env.scope.names.lookup x with
    |none=>rfl
    | some y=>cases y<;>first | exact absurd d q | rfl
  rw[e,Bool.and_false,Bool.false_and,Bool.false_and]
def trN(t:Tr)(c:Tc):Expr->Option IF
 |.List b _=>(JG t c b).bind λf=>some (JK f)
 |.Subscript a (.Slice lo g none _) _=>(t.W c a).bind λfa=>(trO t c lo).bind λe=>(trO t c g).bind λd=>some (slF fa e d)
 |_=>none
def afW{aj:aJ}{c:Tc}{X:Cx}{W:WX}{k:Nat}{t:Tr}(o:t.Ok)(a:Amb aj c X W k){e:Expr}{f:IF}(h:trN t c e=some f):FE aj X W e f/\DQ e=false:=by
 unfold trN at h;left
 .obtain⟨l,b,h⟩;cases h;exact⟨ahp (u5 o a b).1,rfl⟩
 .obtain⟨fa,b,h⟩;obtain⟨j,d,h⟩;obtain⟨i,g,h⟩;cases h;exact⟨ajr (o.ow a b) (JR o a d) (JR o a g),rfl⟩
 .cases h
def Ys(t:Tr)(c:Tc)(x:Str)(p:Pos)(e h b:Expr)(g:List Expr)(a:Scope)(d:Pos):Option SF:=
 (qm c x).bind λj=>gd (swB c.sc (.ListComp e [⟨h,b,g,0⟩] a d) a x p || aiz c.sc (.ListComp e [⟨h,b,g,0⟩] a d) x p)
  (match c.ml.contains x with
  |true=>none
  |false=>(abE t c e h b g a).bind λf=>some (aV (au j) (gOf f)))
section
variable{aj:aJ}{c:Tc}{X:Cx}{W:WX}{k:Nat}{t:Tr}{q:Bool}
def aeU(o:t.Ok)(a:rA aj c X W k){x:Str}{p g pos:Pos}{n z i:Expr}{u:List Expr}{b:Scope}{f:SF}(h:Ys t c x p n z i u b g=some f):SE aj X W q (.Assign [.Name x p] (.ListComp n [⟨z,i,u,0⟩] b g) pos) f:=by
 unfold Ys at h;obtain⟨j,J,h⟩;let⟨d,h⟩:=aG.mp h
 let⟨y,N,O⟩:=jm a.toAmb J
 rw[awb]at d;left
 .cases h
 .obtain⟨Q,e,h⟩;cases h;rcases d with d|d
  .rw[<-a.hs]at d;let⟨L,M⟩:=acp (l:=pos.line) a.kf d
   unfold abE at e;let⟨R,E,e⟩:=avn.mp e
   let⟨⟨S,Y⟩,F,e⟩:=avn.mp e
   let⟨Z,G,e⟩:=avn.mp e
   let⟨U,I,e⟩:=avn.mp e
   let⟨v,e⟩:=aG.mp e
   cases e;simp![avh,avB]at v;let⟨A,B,D⟩:=v
   exact amK a.calm a.nd y L M (o.oi a.toAmb E) (by rw[a.hN,a.hs];exact A) (tO B) (λs H C m r=>yW (a.toAmb.inn b s H C m r) F) (λs H C m r=>Bt o (a.toAmb.inn b s H C m r) G) (λs H C m r=>o.oe (a.toAmb.inn b s H C m r) I) (qP D)
  .exact aaT (ajq (aeF o a.toAmb e)) (Xv a.nd y N O) (aon (l:=pos.line) (by rw[a.hs];exact d)) #[rfl] #[rfl]
end
def Fp{b e:Expr}{l:Nat}{a:PySem.Env}(h:DQ e=false):swapsWithSole [b] e l a=pure false:=vm h
def arT(c:Tc):Expr->List Nat
 |.Call _ a _ _=>a.filterMap fun
  |.Name x _=>zu c x
  |_=>none
 |_=>[]
def aeW(t:Tr)(s:Ts)(c:Tc):Expr->Expr->Option SF
 |.Name x p,.ListComp elt [⟨b,iter,ifs,0⟩] scope cpos=>Ys t c x p elt b iter ifs scope cpos
 |.Name x _,e=>(qm c x).bind λj=>match c.ml.contains x with
  |true=>(trN t c e).bind λf=>some (Pn j f)
  |false=>gd (!DQ e) ((s.G c e).bind λf=>some (aV (au j) f))
 |.Tuple [.Name x _,.Starred (.Name y _) _] _ _,e=>(qm c x).bind λi=>(qm c y).bind λj=>gd (!DQ e&&!aeX e) ((s.G c e).bind λf=>some (aeM i j f))
 |.Tuple ts _ _,e=>(acs c ts).bind λa=>gd (!DQ e&&!aeX e) ((s.G c e).bind λf=>some (aV (aX a) f))
 |_,_=>none
def VN{b e:Expr}{a:PySem.Env}(h:aeX e=false):swappedStores [b] e a=pure none:=by cases b<;>first | rfl | (cases e<;>first | rfl | cases h)
section
variable{aj:aJ}{c:Tc}{X:Cx}{W:WX}{k:Nat}{t:Tr}{s:Ts}{q:Bool}
def ajb(o:t.Ok)(os:s.Ok q)(a:rA aj c X W k){p e:Expr}{pos:Pos}{f:SF}(h:aeW t s c p e=some f):SE aj X W q (.Assign [p] e pos) f:=by
 unfold aeW at h;left
 .exact aeU o a h
 .obtain⟨j,d,h⟩;let⟨l,m,n⟩:=jm a.toAmb d
  left
  .obtain⟨g,b,h⟩;cases h;let⟨u,v⟩:=afW o a.toAmb b
   exact apg a.nd l m n u (vm v)
  .let⟨hc,h⟩:=aG.mp h
   obtain⟨g,b,h⟩;cases h;exact aaT (os.og a b) (Xv a.nd l m n) (Fp (by simpa using hc)) #[rfl] #[rfl]
 .obtain⟨i,r,h⟩;obtain⟨j,d,h⟩;let⟨hc,h⟩:=aG.mp h
  obtain⟨g,b,h⟩;cases h;simp![avh,avB]at hc;exact alK a.calm a.nd (jm a.toAmb r) (jm a.toAmb d) (os.og a b) (Fp hc.1) (VN hc.2)
 .obtain⟨x,d,h⟩;let⟨hc,h⟩:=aG.mp h
  obtain⟨g,b,h⟩;cases h;simp![avh,avB]at hc;exact aaT (os.og a b) (afK a.calm a.nd (X7 a.toAmb d)) (Fp hc.1) (VN hc.2) #[rfl]
 .cases h
end
def ae2(s:Ts)(c:Tc):List Stmt->Option SF
 |[]=>some aM
 |[a]=>s.S c a
 |a::b::r=>(s.S c a).bind λf=>(s.B c (b::r)).bind λg=>some (ak f g)
def stS(t:Tr)(s:Ts)(c:Tc):Stmt->Option SF
 |.Assign [a] e _=>aeW t s c a e
 |.Assign [.Name x _,.Name y _] e _=>(qm c x).bind λi=>(qm c y).bind λj=>gd (!aeX e) ((s.G c e).bind λf=>some (aat i j f))
 |.AugAssign (.Name x _) .Add e _=>(qm c x).bind λj=>(t.E c e).bind λf=>some (KN j f)
 |.Expr (.Call (.Attribute (.Name x _) m apos) [e] [] pos) _=>(zu c x).bind λj=>gd (m=="append"&&(c.ml.contains x&&(nst e&&(apos.endLine==pos.line)))) ((t.E c e).bind λf=>some (Lh j f))
 |.Return (some e) _=>(match t.E c e with
  |some f=>some (aN f)
  |none=>(s.G c e).bind λf=>some (iz f))
 |.If d k l _=>(s.B c k).bind λf=>(s.B c l).bind λg=>match t.T c d with
  |some b=>some (bJ b f g)
  |none=>(s.H c d).bind λb=>some (Uc b f g)
 |.For a iter body [] _=>(t.I c true a iter).bind λh=>(YM c a).bind λjt=>(s.B c body).bind λf=>gd (!yr iter) (some (nR h jt.2 f))
 |_=>none
section
variable{aj:aJ}{c:Tc}{X:Cx}{W:WX}{k:Nat}{t:Tr}{s:Ts}{q:Bool}
def aiV(os:s.Ok q)(a:rA aj c X W k){b:List Stmt}{f:SF}(h:ae2 s c b=some f):Dq aj X W q b f:=by
 unfold ae2 at h;left
 .cases h;exact amm
 .exact ams (os.os a h)
 .obtain⟨g,d,h⟩;obtain⟨i,e,h⟩;cases h;exact akZ (os.os a d) (os.ob a e)
def aoC(o:t.Ok)(os:s.Ok q)(a:rA aj c X W k){st:Stmt}{f:SF}(h:stS t s c st=some f):SE aj X W q st f:=by
 unfold stS at h;left
 .exact ajb o os a h
 .obtain⟨i,r,h⟩;obtain⟨j,g,h⟩;let⟨hc,h⟩:=aG.mp h
  obtain⟨d,b,h⟩;cases h;exact aj5 a.nd (jm a.toAmb r) (jm a.toAmb g) (os.og a b) #[rfl]
 .obtain⟨j,g,h⟩;obtain⟨d,b,h⟩;cases h;let⟨m,n,p⟩:=jm a.toAmb g
  exact aof a.nd m n p (o.oe a.toAmb b)
 .obtain⟨j,g,h⟩;let⟨hc,h⟩:=aG.mp h
  obtain⟨d,b,h⟩;cases h;simp![avh]at hc;cases awB hc.1;let⟨m,n,p,u⟩:=rG a.toAmb g
  exact am1 m n p u (o.oe a.toAmb b) hc.2.2.1 hc.2.2.2
 .left
  .next d b=>
   cases h;exact an5 (o.oe a.toAmb b)
  .obtain⟨d,b,h⟩;cases h;exact akJ (os.og a b)
 .obtain⟨d,b,h⟩;obtain⟨x,l,h⟩;left
  .next v e=>
   cases h;exact aqj (o.ot a.toAmb e) (os.ob a b) (os.ob a l)
  .obtain⟨v,e,h⟩;cases h;exact anC (os.oh a e) (os.ob a b) (os.ob a l)
 .obtain⟨y,b,h⟩;obtain⟨⟨z,A⟩,l,h⟩;obtain⟨d,e,h⟩;let⟨hc,h⟩:=aG.mp h
  cases h;exact aoT a.ps a.calm (o.oi a.toAmb b) (yW a.toAmb l) (os.ob a e) (qP (by simpa using hc))
 .cases h
end
section
variable{prog:Program}{w:World}{A:Around}{E:Value->Shared->Prop}{s:Shared}{K:ave}{x D:Addr}{ox:Obj}{od:Option Obj}
open PySem.W PySem.Calls in
def agP{Q:Option Value->Shared->Prop}(C:L2.ExcC K D)(kin:K.In s.heap)(I:PySem.W.InstAt s.heap x ox D od)(q:Q (some (.ref D)) { s with toks:=s.toks+1 }):wpAny (model prog w) A (getAttr? (.ref x) "__class__") Q E s:=by
 have b:findObj K D od "__class__"=some (.bind (.builtin "getset_descriptor.__get__") (.builtin "object.__class__")):=by
  cases od with
  |none=>exact findObj_dataN (by let⟨n,e,_⟩:=any_some C.hd;rw[e];rfl) C.ha C.hn C.ht
  |some o=>exact findObj_data (by let⟨n,e,_⟩:=any_some C.hd;rw[e];rfl) C.ha C.hn C.ht
 let⟨g,m,l,d,os⟩:=s
 have j:=I.type (M:=model prog w);have i:Looks (model prog w) g (isInstance (.ref x) (.type "BaseException")) true:=j.andThen (looks_subIn kin C.hs)
 have f:=looks_find (M:=model prog w) kin I b;have c:(onTheHeap (Value.ref D)&&Value.builtin "BaseException.__getattribute__"==Value.builtin "object.__getattribute__")=false:=by
  rw[show(Value.builtin "BaseException.__getattribute__"==Value.builtin "object.__getattribute__")=false by decide +kernel]
  rfl
 simp![getAttr?,getAttrBy?,getAttrBy];refine aww (wpAny_mkText (aww (wpAny_attempt (wpAny_holding (aww (j.at (aww ((looks_findIn (M:=model prog w) kin C.hg).at ?_))))))))
 change wpAny _ _ (if (onTheHeap (Value.ref D)&&Value.builtin "BaseException.__getattribute__"==Value.builtin "object.__getattribute__")=true then _ else _) _ _ _
 rw[c,awz Bool.false_ne_true,getAttrByItsOwn];refine aww ?_;rw[hookBefore,awy (show onTheHeap (Value.ref D)=true from rfl)];refine(looks_findIn (M:=model prog w) kin C.hk).at (aww (wpAny_attempt (wpAny_holding ?_)));rw[callGetattribute,show(false&&onTheHeap (Value.builtin "BaseException.__getattribute__"))=false from rfl,awz Bool.false_ne_true,boundAndCalled,PySem.F.excAttr_ValueError.ga.bind (.ref x)]
 refine aww (awx ?_)
 change wpAny _ _ (call (.builtin "BaseException.__getattribute__") [.ref x,.str "__class__" d]) _ _ _
 refine wpAny_call (codeAny_call_builtin PySem.F.excAttr_ValueError.ga.plain PySem.F.entry_bexc_ga ?_);refine @check_slot (model prog w) _ _ ⟨g,m,l,d+1,os⟩ "BaseException.__getattribute__" "BaseException" "__getattribute__" (.ref x) [.str "__class__" d] [] _ #[[]] #[[]] i (PySem.F.args_bexc_ga _ _) ?_
 unfold Builtin.«object.__getattribute__»;refine aww (wpAny_of_eq (a:=((Value.ref x:Value),[Value.str "__class__" d])) (by first | rfl | (simp![slotArgs];rfl)) (aww (awx (aww (j.at (aww (f.at ?_)))))))
 change wpAny _ _ (holding [Value.builtin "object.__class__"] (call (.builtin "getset_descriptor.__get__") [.builtin "object.__class__",.ref x,.ref D]) >>= ret) _ _ _
 refine aww (wpAny_holding (wpAny_call (class_get (s:=⟨g,m,l,d+1,os⟩) kin I C.hm (awx ?_))))
 change wpAny _ _ (handedOut (.ref D)) _ _ _
 rw[handedOut_of (v:=.ref D) rfl]
 first
  |exact awx (awx q)
  |exact awx q
  |exact awx (aww (awx (awx q)))
def ag3{D:Addr}(h:PySem.W.hasDictIn K D=true):∃c d a b,K.lookup D=some ⟨c,d,.cls a,b⟩:=by
 let⟨a,e,_⟩:=PySem.W.any_some h
 unfold PySem.W.clsIn at e;split at e
 .next o=>exact⟨_,_,_,_,o⟩
 .cases e
def akD(C:L2.ExcC K D):PySem.W.KitX K (.ref x) (.ref D) (λh=>PySem.W.InstAt h x ox D od) where
 ty:=λ_ _ _ I=>I.type
 it:=λ_ _ kin _=>by
  let⟨_,_,_,_,o⟩:=ag3 C.hd
  intro _ _ _ _ k q;rw[isType,loadHead];exact aww (wpAny_loadPart (k _ _ (kin _ _ o)) (awx q))
 ne:=λh tp dd its n sl kin e=>Bool.eq_false_iff.mpr λz=>by
  let⟨_,_,_,_,o⟩:=ag3 C.hd
  cases Value.ref.inj (beq_iff_eq.mp z)
  cases(kin _ _ o).symm.trans e
 ca:=λkin I k=>agP C kin I k
end
def acD(H:Hp)(d:Option Addr):Prop:=d=none\/∃b a,d=some b/\H b=some (.xd a)
def acD.ex{H a:Hp}{d:Option Addr}(h:acD H d)(e:Ex H a):acD a d:=h.imp id λ⟨b,fs,c,f⟩=>⟨b,fs,c,e _ _ f⟩
def rIsK(K:ave)(D:Addr)(d:Option Addr)(a:Addr):List V->Hp->VK->Prop:=λe H Q=>∃(c:Addr) (b:Bool),e=[.ref a,.ref c]/\acD H d/\PySem.W.kitOne K (.ref D) (.ref c)=some b/\Q (.bl b) H
def ah5{X:Cx}{p:Addr×Obj}{D:Addr}{d:Option Addr}(C:L2.ExcC X.K D)(v:p∈X.pn)(f:Zc (.ref D) d p.2)(t:∃l,p.2.data=.fields l):CallR X (.builtin "isinstance") (rIsK X.K D d p.1):=by
 intro k s M H L G Q I r h;let⟨c,b,rfl,o,e,q⟩:=h
 let⟨E,F,rfl,r1,A⟩:=vals2 r
 cases r1;cases A;let⟨a,_⟩:=I.pin p (avQ _ v)
 let⟨l,x⟩:=t
 have j:PySem.W.notCls p.2=true:=by unfold PySem.W.notCls;rw[x]
 have J:∃g,PySem.W.InstAt s.heap p.1 p.2 D g:=by
  rcases o with rfl|⟨b,m,rfl,n⟩
  .exact⟨none,a,f.1,j,by rw[f.2];exact True.intro⟩
  .have y:ObjOk X.prog X.w H s.heap b (.xd m):=I.hok b _ n;let⟨B,i,_⟩:=y
   let⟨g,u,_⟩:=lookIn_ns i
   exact⟨some g,a,f.1,j,by rw[f.2];exact u⟩
 let⟨g,J⟩:=J
 exact PySem.W.kia_one (akD C) I.kIn J e (λz=>nomatch z) λtk=>⟨.bl b,H,I.tok tk,rfl,q⟩
def kEl(a:Scope)(x:Str)(b:List Str):Expr->Option Str
 |.Call (.Name i _) [.Name e _,.Name c _] [] _=>gd (i=="isinstance"&&(e==x&&(wL a i&&(wL a c&&(!vU c&&b.contains c))))) (some c)
 |_=>none
def kEs(b:Scope)(x:Str)(a:List Str):List Expr->Option (List Str)
 |[]=>some []
 |e::d=>(kEl b x a e).bind λc=>(kEs b x a d).bind λcs=>some (c::cs)
abbrev KF:=Str->Option (List Bool)->Option (List Bool)
def Ru(a:List Str):KF:=λn _=>some (a.map (n==·))
def Ws:KF:=λ_ o=>o
def Vk(f g:KF):KF:=λn o=>(f n o).bind λa=>(g n o).bind λys=>gd (decide (a.length+ys.length<=1000)) (some (a++ys))
def Vn(f g:KF):KF:=λn o=>(f n o).bind λa=>g n (some a)
def kE(d:Scope)(x y:Str)(c:List Str):Expr->Option KF
 |.List h _=>(kEs d x c h).bind λe=>gd (decide (e.length<=100)) (some (Ru e))
 |.Name z _=>gd (z==y) (some Ws)
 |.BinOp a .Add b _=>(kE d x y c a).bind λf=>(kE d x y c b).bind λg=>some (Vk f g)
 |_=>none
def kB(b:Scope)(x y:Str)(a:List Str):List Stmt->Option KF
 |[.Return (some e) _]=>kE b x y a e
 |.Assign [.Name z _] e _::r=>(kE b x y a e).bind λf=>(kB b x y a r).bind λg=>gd (z==y) (some (Vn f g))
 |_=>none
structure KIn(H0:Hp)(a:Addr)(σ:L2.St)(H:Hp)(o:Option (List Bool)):Prop where
 ex:Ex H0 H
 sl:σ[0]?=some (some (.ref a))
 ln:1<σ.length
 x:∀bs,o=some bs->∃l,σ[1]?=some (some (.ref l))/\H l=some (.lst (bs.map V.bl))/\H0 l=none
section
variable(H0:Hp)(a:Addr)
def tKb(b:Bool):TE:=λc H Q=>∃o,KIn H0 a c H o/\Q (.bl b) H
def tKa(b:List Bool):TA:=λc H Q=>∃o,KIn H0 a c H o/\Q (b.map V.bl) H
def tKe(f:Option (List Bool)->Option (List Bool)):TE:=λd H Q=>∃o c,KIn H0 a d H o/\f o=some c/\∀l b,Ex H b->H0 l=none->b l=some (.lst (c.map V.bl))->Q (.ref l) b
def tKs(f:Option (List Bool)->Option (List Bool)):TS:=λD d H=>∃o c,KIn H0 a d H o/\f o=some c/\∀l b,Ex H0 b->H0 l=none->b l=some (.lst (c.map V.bl))->D.rt (.ref l) b
end
def KIn.to{c H b:Hp}{a:Addr}{d:L2.St}{o:Option (List Bool)}(I:KIn c a d H o)(e:Ex H b):KIn c a d b o:=⟨I.ex.trans e,I.sl,I.ln,λbs h=>by
 let⟨l,f,g,i⟩:=I.x bs h
 exact⟨l,f,e _ _ g,i⟩⟩
section
variable{X:Cx}{p:Addr×Obj}{D:Addr}{d:Option Addr}{n x y:Str}{kc:List Str}{H0:Hp}
structure KX(X:Cx)(p:Addr×Obj)(D:Addr)(d:Option Addr)(n x y:Str)(kc:List Str)(H0:Hp):Prop where
 C:L2.ExcC X.K D
 pn:p∈X.pn
 z:Zc (.ref D) d p.2
 f:∃vs,p.2.data=.fields vs
 dk:acD H0 d
 mi:X.mg "isinstance"=none
 mc:∀c∈kc,∃Cc,X.mg c=some (.ref Cc)/\PySem.W.kitOne X.K (.ref D) (.ref Cc)=some (n==c)
 nd:X.N.Nodup
 n0:X.N[0]?=some x
 n1:X.N[1]?=some y
 l0:X.env.scope.names.lookup x=some .local
 l1:X.env.scope.names.lookup y=some .local
 d0:vU x=false
 d1:vU y=false
def ago{a:Scope}(h:wL a x=true):a.names.lookup x=some .globalImplicit:=by
 unfold wL at h;left
 .assumption
 .cases h
def aot(k:KX X p D d n x y kc H0){e:Expr}{c:Str}(h:kEl X.env.scope x kc e=some c):PE X e (tKb H0 p.1 (n==c))/\nst e=true:=by
 unfold kEl at h;left
 .next i J N j M b L=>
  let⟨m,h⟩:=aG.mp h
  cases h;simp![avh,avB]at m;let⟨r,s,t,u,v,A⟩:=m
  cases awB r;cases awB s;let⟨l,F,G⟩:=k.mc c (by simpa using A)
  have E:=pe_var (X:=X) (pos:=j) k.n0 (.inl k.l0) (jf k.d0).1 (jf k.d0).2;have hc:PE X (.Name c b) (tC (.ref l)):=pe_glob (ago u) F rfl (jf v).1;have B:=pa_cons E (pa_cons hc pa_nil (bH (a:=.Name c b) rfl [])) (bH (a:=.Name x j) rfl [.Name c b]);have g:=pe_callB (pos:=L) (p:=J) (ah5 k.C k.pn k.z k.f) (ago t) k.mi #[[]] B #[()] #[()] (bH (a:=.Name x j) rfl [.Name c b]) (star_any [.Name c b] rfl);refine⟨PE.weak g λσ H Q ⟨o,I,q⟩=>⟨_,I.sl,?_⟩,rfl⟩;exact⟨l,_,rfl,k.dk.ex I.ex,G,q⟩
 .cases h
theorem agV(k:KX X p D d n x y kc H0):∀{b:List Expr} {a:List Str},kEs X.env.scope x kc b=some a->PA X b (tKa H0 p.1 (a.map (n==·)))
 |[],a,h=>by
  cases h;exact PA.weak pa_nil λσ H Q ⟨o,I,q⟩=>q
 |e::b,a,h=>by
  rw[kEs]at h;obtain⟨c,j,h⟩;obtain⟨f,l,h⟩;cases h;let⟨g,i⟩:=aot k j
  exact PA.weak (pa_cons g (agV k l) (bH i b)) λσ H Q ⟨o,I,q⟩=>⟨o,I,o,I,q⟩
theorem aaq(k:KX X p D d n x y kc H0):∀{e:Expr} {f:KF},kE X.env.scope x y kc e=some f->PE X e (tKe H0 p.1 (f n))/\DQ e=false
 |.List es _,f,h=>by
  rw[kE]at h;obtain⟨w,j,h⟩;let⟨g,h⟩:=aG.mp h
  cases h;refine⟨PE.weak (pe_lst (agV k j)) λσ H Q ⟨o,i,I,e,q⟩=>?_,rfl⟩;cases e;have g:w.length<=100:=awv g;refine⟨o,I,sz_of (by rw[avs,avs];omega),λl c=>q l _ (Ex.new c) ?_ awA⟩;cases m:H0 l with
  |none=>rfl
  |some u=>rw[I.ex _ _ m]at c;cases c
 |.Name z _,f,h=>by
  rw[kE]at h;let⟨G,h⟩:=aG.mp h
  cases h;cases awB G;refine⟨PE.weak (pe_var (X:=X) k.n1 (.inl k.l1) (jf k.d1).1 (jf k.d1).2) λσ H Q ⟨o,i,I,e,q⟩=>?_,rfl⟩;let⟨l,J,L,M⟩:=I.x i e
  exact⟨.ref l,J,q l H (Ex.refl H) M L⟩
 |.BinOp a .Add b _,f,h=>by
  rw[kE]at h;obtain⟨S,j,h⟩;obtain⟨T,F,h⟩;cases h;refine⟨PE.weak (pe_op aem (aaq k j).1 (aaq k F).1) λσ H Q ⟨o,i,I,e,q⟩=>?_,rfl⟩;let⟨t,A,e⟩:=avn.mp e
  let⟨v,B,e⟩:=avn.mp e
  let⟨g,e⟩:=aG.mp e
  cases e;have g:t.length+v.length<=1000:=awv g;refine⟨o,t,I,A,λN P r U C=>⟨o,v,I.to r,B,λO R s W E=>?_⟩⟩;refine⟨N,O,_,_,rfl,rfl,.inl (.inl (s _ _ C)),.inl (.inl E),sz_of (by rw[avs,avs];omega),λl c=>q l _ ((r.trans s).trans (Ex.new c)) ?_ (by rw[avN];exact awA)⟩;cases m:H0 l with
  |none=>rfl
  |some u=>rw[s _ _ (r _ _ (I.ex _ _ m))]at c;cases c
theorem ajT(k:KX X p D d n x y kc H0):∀{b:List Stmt} {f:KF},kB X.env.scope x y kc b=some f->PSs X b (tKs H0 p.1 (f n))
 |[.Return (some e) _],f,h=>by
  rw[kB]at h;refine PSs.weak (pss_cons (ps_ret (aaq k h).1) pss_nil) λD F H ⟨o,c,I,e,q⟩=>⟨o,c,I,e,λl m j i g=>q l m (I.ex.trans j) i g⟩
 |.Assign [.Name z zp] e ep::r,f,h=>by
  rw[kB]at h;obtain⟨G,a,h⟩;obtain⟨J,A,h⟩;let⟨B,h⟩:=aG.mp h
  cases h;cases awB B;let⟨g,u⟩:=aaq k a
  have C:swappedStores [.Name y zp] e X.env=pure none:=by unfold kE at a;split at a<;>first | rfl | cases a
  refine PSs.weak (pss_cons (ps_asg g (pg_name k.nd k.n1 (.inl k.l1) (.inr k.l1)) (Fp u) C #[rfl]) (ajT k A)) λD F H ⟨o,c,I,e,q⟩=>?_;let⟨s,t,e⟩:=avn.mp e
  refine⟨o,s,I,t,λl m j i E=>⟨some s,c,⟨I.ex.trans j,?_,by rw[avC];exact I.ln,λbs' v=>?_⟩,e,q⟩⟩
  .rw[avm #[()]];exact I.sl
  .cases v;exact⟨l,avt I.ln,E,i⟩
end
def anB(K:ave)(e:Str->Option Value)(aj:aJ)(b d:List Str):Prop:=∀n∈d,∃D,aj n=some D/\L2.ExcC K D/\∀c∈b,∃a,e c=some (.ref a)/\PySem.W.kitOne K (.ref D) (.ref a)=some (n==c)
def aoi(a:List Str)(f:KF):Str->Option (List Bool):=λn=>gd (a.contains n) (f n none)
def aoB{P:Program}{w:World}{K:ave}{G:Str->Option Value}{c:Heap}{aj:aJ}{x g a b:Str}{st:Stmt}{f:Addr}{Z:FuncData}{k:Nat}{T kt:List Str}{F:KF}
  (U:Fun K x g st f Z) (S:FnScope [a,b] [a] (defScope st)) (l0:(defScope st).names.lookup a=some .local) (l1:(defScope st).names.lookup b=some .local) (d0:vU a=false) (d1:vU b=false) (mi:G "isinstance"=none)
  (hk:anB K G aj T kt) (h:kB (defScope st) a b T (defBody st)=some F):FnK P w K G c aj (k+1) f Z [a] (aoi kt F):=by
 let⟨oc,od,kV,doc,pm,an,M,ct,osl,rfl,lk,N⟩:=U.ex
 intro A i s H Y p cls d n bs Q E hr hz hf hd B t hb ⟨C,c1,c2⟩ hn q;let⟨O,R⟩:=aG.mp hn
 let⟨D,k1,k2,k3⟩:=hk n (by simpa using O)
 rw[c1]at k1;cases k1;subst c2;have m:K.In s.heap:=t.mod.kin.keeps λb o e=>(t.bs b o e).1;have X:s.heap.NoLimit:=t.mod.nolimit.keeps λb o e=>(t.bs b o e).1;have r:Vals [V.ref p.1] [Value.ref p.1]:=.cons rfl .nil;refine codeAny_call_function hr.depth (m _ _ lk) rfl S.co S.gen rfl (PySem.W.codeRec_of m N) (hb _ _ _ _ ?_);refine wpAny_newFunctionEnv_cells S.kind (λy hy=>.inl ?_) λenv he s1 z=>?_
 .have:y.1=a:=by
   have:=(List.of_mem_zip hy).1;simpa using this
  rw[this];exact l0
 subst he;have I:=L2H.inv_startH (CX:=L2.CX P w) (E:=E) (w:=w) S B t rfl r z;have kx:KX (L2H.cxH (L2.CX P w) P w K G c [a,b] g (defScope st) f M A i s H E p) p C d n a b T H:=
  ⟨k2,avp.mpr rfl,hz,hf,hd,mi,k3,S.nd,rfl,rfl,l0,l1,d0,d1⟩
 refine⟨X.keeps z.toInCall.keep,codeAny_func (wpAny_mono ((ajT kx h).run [] s1 (L2.start [a,b] [V.ref p.1]) H { nx:=λ_ _=>False,rt:=Q } I ⟨none,bs,⟨Ex.refl H,rfl,by simp[L2.start],λ_ y=>nomatch y⟩,R,λl L x1 n1 g1=>q l L x1 n1 g1⟩) (λfl s' j=>?_) λe s' j=>j)⟩;cases fl with
 |ret u=>
  let⟨v,σ',L,J,rv,q⟩:=j
  exact⟨v,L,J.os,J.bare,J.base,J.hok,rv,q⟩
 |next=>
  let⟨_,_,_,q⟩:=j
  exact awt q
 |brk=>
  let⟨_,_,_,q⟩:=j
  exact awt q
 |cont=>
  let⟨_,_,_,q⟩:=j
  exact awt q
abbrev GA:=Mo->Env->aR (List Dat)
def tEA(K:ave)(aj:aJ)(W:WX)(q:Bool)(f:GA):TA:=λd H Q=>∃g b M,SInv K aj d H g b M/\(f M b).sat (λds h=>∀e a c,Gr q g c H a->SInv K aj d a c b h->aC K c a e ds->Q e a) (gE K aj W q g H d b)
def GAe(aj:aJ)(X:Cx)(W:WX)(q:Bool)(a:List Expr)(f:GA):Prop:=PA X a (tEA X.K aj W q f)
@[simp]def QX  (M:Mo) (_:Env):aR (List Dat):=.ok [] M
@[simp]def uR (a:GF) (r:GA) (M:Mo) (b:Env):aR (List Dat):=(a M b).bind λd M1=>(r M1 b).bind λds M2=>.ok (d::ds) M2
def ahF(m:Mo->List Dat->aR Dat)(as:GA):GF:=λM a=>(as M a).bind λds M1=>m M1 ds
@[simp]def Jl (m:Mo->List Dat->Out Dat) (as:GA) (M:Mo) (b:Env):aR Dat:=(as M b).bind λa M1=>(m M1 a).at M1
section
variable{X:Cx}{aj:aJ}{W:WX}{q:Bool}{a b e:Expr}{es:List Expr}{pos p:Pos}
def amo:GAe aj X W q [] QX:=PA.weak pa_nil λσ H Q ⟨g,c,M,I,h⟩=>h [] H g .refl I .nil
def alo{fa:GF}{f:GA}(r:GE aj X W q a fa)(s:GAe aj X W q es f)(t:nst a=true):GAe aj X W q (a::es) (uR fa f):=
 PA.weak (pa_cons r s (bH t es)) λσ H Q ⟨g,A,M,I,h⟩=>by
  refine tE.go I h.bnd λd M1 v B l n r1 c w=>?_;exact⟨l,A,M1,c,n.bnd.mono (λds M2 o y j m i k u=>o (v::y) j m (r1.trans i) k (.cons (w.gr i c.kd) u)) λx C z=>z.gr r1⟩
variable{x:Str}{k:Nat}{f:Addr}{fd:FuncData}{ps:List Str}
def aiO{m:Mo->List Dat->aR Dat}{as:GA}(Y:Takes X W)(F:FnOk X.prog X.w X.K X.mg X.base (L2.CX X.prog X.w) k f fd ps (HJ X.K aj ps.length m))(T:Room k X.A)(O:Gl X x)(R:X.mg x=some (.ref f))(hk:PySem.W.keepIn X.K (.ref f)=true)(L:Binds X.K fd ps [])
  (J:GAe aj X W false (e::es) as) (P:(e::es).length=ps.length) (N:(x==("__debug__" : Str))=false) (U:(e::es).all nst=true) (S:∀M o r s,as M o=.ok r s->r.length=(e::es).length):GE aj X W false (.Call (.Name x p) (e::es) [] pos) (ahF m as):=by
 have n:=U;rw[avI,avh]at n;refine PE.weak (pe_callS (E:=λσ=>WE W σ) F T O R hk L (λσ=>passAt Y σ) J N (bH n.1 es) (star_any es n.2)) λσ H Q ⟨g,o,M,I,h⟩=>?_;refine⟨g,o,M,I,?_⟩;have h:=h.bnd;cases i:as M o with
 |exc x M1=>rw[i]at h;exact h
 |bad=>rw[i]at h;exact awt h
 |ok r M1=>
  rw[i]at h;have h:(m M1 r).sat (λd s=>∀v j l,Gr false g l H j->SInv X.K aj σ j l o s->Rep X.K l j v d->Q v j) (gE X.K aj W false g H σ o):=h;intro vs Z G r1 t C;exact⟨by rw[C.length,S M o r M1 i];exact P,G,M1,r,t.kd,t.wok,C,h.mono (λd s y v j l c u B z=>y v j l (r1.trans c.gr) (t.call c u B) z) λx s y j l D dd c u B z=>y j l D dd (r1.trans c.gr) (t.call c u B) z⟩
def ahX{m:Mo->List Dat->Out Dat}{as:GA}(T:Takes X W)(F:FnOk X.prog X.w X.K X.mg X.base (L2.CX X.prog X.w) k f fd ps (RJ X.K aj ps.length m))(R:Room k X.A)(L:Gl X x)(O:X.mg x=some (.ref f))(hk:PySem.W.keepIn X.K (.ref f)=true)(G:Binds X.K fd ps [])
  (D:GAe aj X W false (e::es) as) (N:(e::es).length=ps.length) (J:(x==("__debug__" : Str))=false) (S:(e::es).all nst=true) (P:∀M l n s,as M l=.ok n s->n.length=(e::es).length):GE aj X W false (.Call (.Name x p) (e::es) [] pos) (Jl m as):=by
 have j:=S;rw[avI,avh]at j;refine PE.weak (pe_callS (E:=λσ=>WE W σ) F R L O hk G (λσ=>passAt T σ) D J (bH j.1 es) (star_any es j.2)) λσ H Q ⟨g,l,M,I,h⟩=>?_;refine⟨g,l,M,I,?_⟩;have h:=h.bnd;cases c:as M l with
 |exc x M1=>rw[c]at h;exact h
 |bad=>rw[c]at h;exact awt h
 |ok n M1=>
  rw[c]at h;have h:((m M1 n).at M1).sat (λd s=>∀v i t,Gr false g t H i->SInv X.K aj σ i t l s->Rep X.K t i v d->Q v i) (gE X.K aj W false g H σ l):=h;intro Y U u r1 r B;exact⟨by rw[B.length,P M l n M1 c];exact N,u,M1,n,r.kd,r.wok,B,(Out.dY h).mono (λd y v i o z=>y v i u (r1.trans (Gr.ex o)) (r.ex o) z) λx y i C dd o z=>y i u C dd (r1.trans (Gr.ex o)) (r.ex o) z⟩
@[simp]def U5 (a:GT) (M:Mo) (c:Env):aR Bool:=(a M c).bind λb M1=>.ok (!b) M1
def ajo(a b:GT):GT:=λM c=>(a M c).bind λx M1=>if x=true then b M1 c else .ok false M1
@[simp]def afk (a b:GT) (M:Mo) (c:Env):aR Bool:=(a M c).bind λx M1=>if x=true then .ok true M1 else b M1 c
@[simp]def Wr (a:GF) (M:Mo) (c:Env):aR Bool:=(a M c).bind λd M1=>(R9 d).at M1
def aoc{c:GT}(m:Gp aj X W q a c):Gp aj X W q (.UnaryOp .Not a pos) (U5 c):=
 PT.weak (pt_not m) λσ H Q ⟨g,o,M,I,h⟩=>Wn.go I h.bnd λb n d j l r1 i=>l d j r1 i
def aoS{rest:List Expr}{n i:GT}(w:Gp aj X W q a n)(y:Gp aj X W q (.BoolOp .And (b::rest) pos) i):Gp aj X W q (.BoolOp .And (a::b::rest) pos) (ajo n i):=by
 have d:PW X (.BoolOp .And (b::rest) pos) (Wn X.K aj W q i):=⟨λwh c s o H Q I z=>y.run c s o H Q I z⟩;refine PT.weak (PW.pt (pw_and w d)) λo H Q ⟨g,B,M,I,h⟩=>?_;refine Wn.go I h.bnd λx M1 t l m r1 j=>?_;cases x with
 |true=>exact⟨l,B,M1,j,m.mono (λb C k r v A u=>k r v (r1.trans A) u) λ_ _ z=>z.gr r1⟩
 |false=>exact m t l r1 j
def aqU{rest:List Expr}{n i:GT}(w:Gp aj X W q a n)(y:Gp aj X W q (.BoolOp .Or (b::rest) pos) i):Gp aj X W q (.BoolOp .Or (a::b::rest) pos) (afk n i):=by
 have d:PW X (.BoolOp .Or (b::rest) pos) (Wn X.K aj W q i):=⟨λwh c s o H Q I z=>y.run c s o H Q I z⟩;refine PT.weak (PW.pt (pw_or w d)) λo H Q ⟨g,B,M,I,h⟩=>?_;refine Wn.go I h.bnd λx M1 t l m r1 j=>?_;cases x with
 |true=>exact m t l r1 j
 |false=>exact⟨l,B,M1,j,m.mono (λb C k r v A u=>k r v (r1.trans A) u) λ_ _ z=>z.gr r1⟩
def aoA{fa:GF}(r:GE aj X W q a fa)(s:∀c,isTrue a X.env c=(do let v <-c;standAt a.pos;holding [v] (truthy v))):Gp aj X W q a (Wr fa):=
 PT.weak (pt_truth r s) λσ H Q ⟨g,u,M,I,h⟩=>by
  refine tE.go I h.bnd λd M1 v i l m r1 j t=>?_;let⟨k,n,o⟩:=ahB t.weak (Out.dY m)
  exact⟨k,n,o i l r1 j⟩
end
def acj(s:Ts)(c:Tc):List Expr->Option GA
 |[]=>some QX
 |a::b=>gd (nst a) ((s.G c a).bind λfa=>(acj s c b).bind λd=>some (uR fa d))
section
variable{aj:aJ}{c:Tc}{X:Cx}{W:WX}{k:Nat}{t:Tr}{s:Ts}{q:Bool}
theorem X8(os:s.Ok q)(a:rA aj c X W k):∀{i:List Expr} {f:GA},acj s c i=some f->GAe aj X W q i f/\i.all nst=true/\∀M g b j,f M g=.ok b j->b.length=i.length
 |[],f,h=>by
  cases h;exact⟨amo,rfl,λM g b j e=>by cases e;rfl⟩
 |e::i,f,h=>by
  rw[acj,aG]at h;let⟨o,h⟩:=h
  obtain⟨fa,r,h⟩;obtain⟨n,u,h⟩;cases h;let⟨v,w,x⟩:=X8 os a u
  refine⟨alo (os.og a r) v o,by simp[o,w],λM g b j e=>?_⟩;unfold uR at e;cases m:fa M g with
  |ok d M1=>
   rw[m]at e;have e:((n M1 g).bind λb M2=>aR.ok (d::b) M2)=.ok b j:=e;cases l:n M1 g with
   |ok p M2=>
    rw[l]at e;cases e;simp[x M1 g p _ l]
   |exc y M2=>rw[l]at e;cases e
   |bad=>rw[l]at e;cases e
  |exc y M1=>rw[m]at e;cases e
  |bad=>rw[m]at e;cases e
def xG(t:Tr)(s:Ts)(c:Tc):Expr->Option GF
 |.Call (.Name x _) [] [] _=>(match c.G.lookup x with
  |some (.cls 0 m)=>gd (wL c.sc x&&!vU x) (some (yc x m bZ))
  |_=>none)
 |.Call (.Name x _) (e::f) [] _=>(match c.G.lookup x with
  |some (.fg n m)=>gd (wL c.sc x&&(!vU x&&decide ((e::f).length=n))) (match JG t c (e::f) with
   |some as=>some (Ce m as)
   |none=>(acj s c (e::f)).bind λas=>some (ahF m as))
  |some (.fq n m)=>gd (wL c.sc x&&(!vU x&&decide ((e::f).length=n))) ((acj s c (e::f)).bind λas=>some (Jl m as))
  |some (.cls n m)=>gd (wL c.sc x&&(!vU x&&decide ((e::f).length=n))) ((JG t c (e::f)).bind λas=>some (yc x m as))
  |_=>none)
 |.Call (.Attribute o m apos) f [] pos=>(c.hs.Ms.lookup m).bind λh=>(t.W c o).bind λj=>(JG t c f).bind λas=>
  gd (tbN h (f.length+1)&&(baseOk o&&(decide (f.length<30)&&(apos.endLine==pos.line)))) (some (cD h j as))
 |.Compare a [g] [b] _=>(match isN g with
  |some neg=>(Il b).bind λd=>(s.G c a).bind λfa=>some (gIs neg d fa)
  |none=>(Kz g).bind λo=>(s.G c a).bind λfa=>(t.W c b).bind λi=>gd (!yr b) (some (R3 o fa i)))
 |_=>none
def aqy(o:t.Ok)(os:s.Ok false)(a:rA aj c X W k){e:Expr}{f:GF}(h:xG t s c e=some f):GE aj X W false e f:=by
 unfold xG at h;left
 .left
  .next m l=>
   let⟨i,h⟩:=aG.mp h
   cases h;simp![avh,avB]at i;exact akb a.rm (a.gl _ _ l) (lW a.toAmb i.1) (jf i.2).1
  .cases h
 .left
  .next n m l=>
   let⟨i,h⟩:=aG.mp h
   simp![avh,avB,awu]at i;let⟨A,p,u⟩:=i
   let⟨fa,G,hk,O,Q,j,E,H,D,F⟩:=a.gl _ _ l
   left
   .next as g=>
    cases h;let⟨w,x,y⟩:=u5 o a.toAmb g
    exact alb (a.tw l rfl) F (a.rm.mono E) (lW a.toAmb A) G hk D w (u.trans H.symm) (jf p).1 x y
   .obtain⟨as,g,h⟩;cases h;let⟨w,x,y⟩:=X8 os a g
    exact aiO (a.tw l rfl) F (a.rm.mono E) (lW a.toAmb A) G hk D w (u.trans H.symm) (jf p).1 x y
  .next n m l=>
   let⟨i,h⟩:=aG.mp h
   simp![avh,avB,awu]at i;let⟨A,p,u⟩:=i
   let⟨fa,G,hk,O,Q,j,E,H,D,F⟩:=a.gl _ _ l
   obtain⟨as,g,h⟩;cases h;let⟨w,x,y⟩:=X8 os a g
   exact ahX (a.tw l rfl) F (a.rm.mono E) (lW a.toAmb A) G hk D w (u.trans H.symm) (jf p).1 x y
  .next n m l=>
   let⟨i,h⟩:=aG.mp h
   simp![avh,avB,awu]at i;let⟨A,p,u⟩:=i
   obtain⟨as,g,h⟩;cases h;let⟨w,x,y⟩:=u5 o a.toAmb g
   exact apv a.rm (a.gl _ _ l) (lW a.toAmb A) (jf p).1 w x (λM Y N z=>by rw[y M Y N z];exact u)
  .cases h
 .next b m apos J pos=>
  obtain⟨tb,g,h⟩;obtain⟨fo,B,h⟩;obtain⟨as,C,h⟩;let⟨i,h⟩:=aG.mp h
  cases h;simp![avh,awu]at i;let⟨p,u,L,I⟩:=i
  let⟨w,x,y⟩:=u5 o a.toAmb C
  cases J with
  |nil=>
   cases C;exact aiH (a.tm g) a.rm (aap a.toAmb g p) (o.ow a.toAmb B) u I
  |cons e J=>exact aln (a.tm g) a.rm (aap a.toAmb g p) (o.ow a.toAmb B) w y u x I L
 .left
  .next neg P=>
   obtain⟨d,g,h⟩;obtain⟨fa,B,h⟩;cases h;let⟨v,S,T,U⟩:=Qs (X:=X) g
   refine aqp S (Wj P T) (os.og a B) U (rK ?_);unfold Il at g;split at g<;>first | rfl | cases g
  .obtain⟨op,g,h⟩;obtain⟨fa,B,h⟩;obtain⟨Z,C,h⟩;let⟨i,h⟩:=aG.mp h
   cases h;let⟨r,r1,R⟩:=yG g (X:=X) a.rm aj W
   exact ant r1 R (os.og a B) (o.ow a.toAmb C) (rK (by simpa using i))
 .cases h
def xH(t:Tr)(s:Ts)(c:Tc):Expr->Option GT
 |.UnaryOp .Not a _=>(s.H c a).bind λf=>some (U5 f)
 |.BoolOp .And (a::b::r) p=>(s.H c a).bind λf=>(s.H c (.BoolOp .And (b::r) p)).bind λg=>some (ajo f g)
 |.BoolOp .Or (a::b::r) p=>(s.H c a).bind λf=>(s.H c (.BoolOp .Or (b::r) p)).bind λg=>some (afk f g)
 |.BoolOp _ [a] _=>s.H c a
 |.Compare a [h] [b] _=>(match isN h with
  |some neg=>(Il b).bind λd=>(s.G c a).bind λfa=>some (XC (gIs neg d fa))
  |none=>(Kz h).bind λo=>(s.G c a).bind λfa=>(t.W c b).bind λi=>gd (!yr b) (some (XC (R3 o fa i))))
 |e=>gd (valT e) ((s.G c e).bind λf=>some (Wr f))
def apR(o:t.Ok)(os:s.Ok q)(a:rA aj c X W k){e:Expr}{f:GT}(h:xH t s c e=some f):Gp aj X W q e f:=by
 unfold xH at h;left
 .obtain⟨i,b,h⟩;cases h;exact aoc (os.oh a b)
 .obtain⟨i,b,h⟩;obtain⟨l,g,h⟩;cases h;exact aoS (os.oh a b) (os.oh a g)
 .obtain⟨i,b,h⟩;obtain⟨l,g,h⟩;cases h;exact aqU (os.oh a b) (os.oh a g)
 .next j _ _=>
  cases j
  .exact PW.pt (pw_and1 (os.oh a h))
  .exact PW.pt (pw_or1 (os.oh a h))
 .left
  .next neg p=>
   obtain⟨d,b,h⟩;obtain⟨fa,g,h⟩;cases h;let⟨v,x,y,z⟩:=Qs (X:=X) b
   refine apQ x (Wj p y) (os.og a g) z (rK ?_);unfold Il at b;split at b<;>first | rfl | cases b
  .obtain⟨j,b,h⟩;obtain⟨fa,g,h⟩;obtain⟨A,m,h⟩;let⟨n,h⟩:=aG.mp h
   cases h;let⟨r,r1,w⟩:=yG b (X:=X) a.rm aj W
   exact anF r1 w (os.og a g) (o.ow a.toAmb m) (rK (by simpa using n))
 .let⟨u,h⟩:=aG.mp h
  obtain⟨i,b,h⟩;cases h;exact aoA (os.og a b) (adL u)
def KJ{e o:Expr}{f:Str}{p:Pos}{l:Nat}{a:PySem.Env}:swapsWith e (some (.Attribute o f p)) l a=pure false:=by cases e<;>rfl
def aiK{e o:Expr}{i:Expr}{p:Pos}{l:Nat}{a:PySem.Env}:swapsWith e (some (.Subscript o i p)) l a=pure false:=by cases e<;>rfl
def aiT{o:Expr}{f:Str}{p a:Pos}{i:Expr}{b:PySem.Env}(h:W4 i=false):∀v,assign (.Subscript (.Attribute o f p) i a) b v=(do
   let d <-holding [v] (eval (.Attribute o f p) b)
   let e <-holding [v,d] (eval i b)
   standAt a
   holding [v,d,e] (setItem d e v)
   release [v,d,e] []):=λv=>by
 cases i<;>first | (with_unfolding_all rfl) | cases h
def anS(t:Tr)(c:Tc)(f d b:Expr)(a:Scope):Option (Mo->Env->Out (List (Dat×Dat))):=
 (t.I c false d b).bind λe=>(YM (c.inn a) d).bind λjt=>(t.E (c.inn a) f).bind λte=>
  gd (blkC c.N c.sc a (qY d jt.1)&&(Uj jt.1 ((qY d jt.1).map (·.2))&&!yr b)) (some (qDc e jt.2 ((qY d jt.1).map (·.2)) te))
def ai1(a:Amb aj c X W k):X.A.units+64<cLine:=by have:=a.rm.un;omega
def aif(t:Tr)(s:Ts)(c:Tc)(o:Expr)(f:Str):Expr->Option SF
 |.Dict [] [] _=>(t.W c o).bind λfo=>(c.hs.df.lookup f).bind λb=>some (U9 c.hs.ft fo f b)
 |.DictComp d (.Constant (.bool true) _ _) [⟨g,iter,[],0⟩] scope _=>(t.W c o).bind λfo=>(anS t c d g iter scope).bind λfe=>some (aas c.hs.ft fo f fe)
 |.List a p=>(t.W c o).bind λfo=>(trN t c (.List a p)).bind λfe=>some (Em c.hs.ft fo f fe)
 |e=>gd (!DQ e) ((t.W c o).bind λfo=>(s.G c e).bind λfe=>some (uG c.hs.ft fo f fe))
def alZ(j:t.Ok)(os:s.Ok false)(a:rA aj c X W k){o e:Expr}{f:Str}{p pos:Pos}{v:SF}(h:aif t s c o f e=some v):SE aj X W false (.Assign [.Attribute o f p] e pos) v:=by
 have hk:=a.hk;unfold aif at h;left
 .obtain⟨m,i,h⟩;obtain⟨b,d,h⟩;cases h;exact ak4 hk.co hk.fk hk.hw (j.ow a.toAmb i) KJ
 .obtain⟨m,i,h⟩;obtain⟨r,d,h⟩;cases h;unfold anS at d;let⟨I,A,d⟩:=avn.mp d
  let⟨⟨E,G⟩,B,d⟩:=avn.mp d
  let⟨F,D,d⟩:=avn.mp d
  let⟨u,d⟩:=aG.mp d
  cases d;simp![avh,avB]at u;let⟨w,x,y⟩:=u
  exact akM hk.co hk.fk (j.ow a.toAmb i) (amB (g:=Cv X.K aj E G) (tk:=tQ X.K aj WF F) a.calm a.nd (ai1 a.toAmb) (j.oi a.toAmb A) (blkOk_by (by rw[a.hN,a.hs];exact w)) (λs H C l n=>yW (a.toAmb.inn _ s H C l n) B) (λs H C l n=>j.oe (a.toAmb.inn _ s H C l n) D) (qP y)) (λσ H Q z=>apA hk.hw (tO x) σ H Q z) KJ
 .obtain⟨m,i,h⟩;obtain⟨r,d,h⟩;cases h;exact alC hk.co hk.fk (j.ow a.toAmb i) (afW j a.toAmb d).1 KJ
 .let⟨hc,h⟩:=aG.mp h
  obtain⟨m,i,h⟩;obtain⟨r,d,h⟩;cases h;exact alU hk.co hk.fk (j.ow a.toAmb i) (os.og a d) KJ
def aci(n:Str):List Expr->Option (List Str)
 |[]=>some []
 |.Attribute (.Name m _) f _::a=>gd (m==n) ((aci n a).bind λfs=>some (f::fs))
 |_=>none
def GV.kn:GV->Option (Str->Option (List Bool))
 |.kin a=>some a
 |_=>none
def aeP(c:Tc)(nm:Option Str):Expr->Option Hq
 |.Constant (.str x) _ _=>some (.con (.str x))
 |.Constant .none _ _=>some (.con .none)
 |.Tuple [] _ _=>some (.con (.tuple []))
 |.Attribute (.Name m _) f _=>nm.bind λn=>gd (m==n) (some (.fld f))
 |.Tuple a _ _=>nm.bind λn=>(aci n a).bind λfs=>some (.flds fs)
 |.Call (.Name f _) [.Name m _] [] _=>nm.bind λn=>gd (m==n&&(wL c.sc f&&!vU f)) ((c.G.lookup f).bind λv=>v.kn.bind fun b=>some (.kin b))
 |_=>none
def Hq.fs:Hq->List Str
 |.con _=>[]
 |.fld f=>[f]
 |.flds fs=>fs
 |.kin _=>[]
def aeV(c:Tc)(nm:Option Str):List Stmt->Option (List (Nat×Hq))
 |[]=>some []
 |.Assign [.Name x _] e _::r=>(qm c x).bind λj=>(aeP c nm e).bind λa=>(aeV c nm r).bind λst=>some ((j,a)::st)
 |_=>none
def Wz(c:Tc):Option Str->Option (Option Nat)
 |none=>some none
 |some n=>(zu c n).bind λi=>match c.sc.names.lookup n with
  |some .local=>some (some i)
  |_=>none
def anq(c:Tc):ExceptHandler->Option Hd
 |.ExceptHandler (some (.Name y _)) nm (a::su) _=>(c.hs.xm.lookup y).bind λtab=>(Wz c nm).bind λi=>(aeV c nm (a::su)).bind λst=>
  (match c.G.lookup y with
  |some .exc=>some true
  |some (.exi _)=>some true
  |_=>none).bind λ_=>
  gd (wL c.sc y&&(!vU y&&(st.all (λp=>match i with
   |some j=>!(j==p.1)
   |none=>true)&&st.all (λp=>p.2.fs.all (λf=>((c.hs.xf.lookup y).getD []).contains f)&&decide (p.2.fs.length<=100))))) (some ⟨y,λx=>tab.lookup x,i,st⟩)
 |_=>none
def V7(c:Tc):List ExceptHandler->Option (List Hd)
 |[]=>some []
 |h::a=>(anq c h).bind λd=>(V7 c a).bind λds=>some (d::ds)
theorem adF{y n:Str}{C:Addr}{a:Addr}{o:Obj}{cls:Value}{d:Option Addr}{F:List (Addr×Obj)}{j:Nat}{r:List Str}(u:aj y=some C)(T:XfC X.K C)(g:∀f∈r,PySem.W.findIn X.K (.ref C) f=some none)(B:Zc cls d o)(i:∃G,o.data=.fields G)(v:X.N[j]?=some n)(A:Vis X.env.scope n)(w:(n==("__debug__" : Str))=false)(e:(n==("__classdict__" : Str))=false) :
  ∀{l:List Expr} {b:List Str},aci n l=some b->(∀f∈b,f∈r)->PA (X.suite a ((a,o)::F)) l (tUA X.K aj a cls d (some j) λx=>Ld y x b)
 |[],b,h,_=>by
  cases h;exact agU
 |.Attribute (.Name m p) f p2::l,b,h,z=>by
  rw[aci]at h;let⟨E,h⟩:=aG.mp h
  obtain⟨H,D,h⟩;cases h;cases awB E;exact akx (af2 u T (g f (z f avl)) B i v A w e) (adF u T g B i v A w e D λf i=>z f (avk _ i)) rfl
def amY{y f:Str}{fa:Addr}{Z:FuncData}{T:List Str}{j i:Nat}{κ:Str->Option (List Bool)}{a:Addr}{o:Obj}{cls:Value}{d:Option Addr}{S:List (Addr×Obj)}{n:Str}{p1 J pos:Pos}
  (hr:Room j X.A) (hg:Gl X f) (R:X.mg f=some (.ref fa)) (hk:PySem.W.keepIn X.K (.ref fa)=true) (P:(f==("__debug__" : Str))=false) (hl:T.length=1) (hB:Binds X.K Z T []) (F:FnK X.prog X.w X.K X.mg X.base aj j fa Z T κ)
  (hz:Zc cls d o) (hf:∃L,o.data=.fields L) (hv:PE (X.suite a ((a,o)::S)) (.Name n J) (tVar i)) :
  PE (X.suite a ((a,o)::S)) (.Call (.Name f p1) [.Name n J] [] pos) (tU X.K aj a cls d (some i) λx=>Gn y x (.kin κ)):=by
 refine⟨λpins s σ H Q I ⟨g,ρ,M,x,z,N,e,q⟩=>?_⟩;refine wpAny_Call_Name_kw (ld_glob (X:=X.suite a ((a,o)::S)) I hg R ?_ P);refine PySem.W.callWith_K (h₀:=X.base) I.ok.mod.kin hk (thn ((pa_cons hv pa_nil (bH (a:=.Name n J) rfl [])).run pos pins s σ H (λL G=>L=[V.ref a]/\G=H) I ⟨.ref a,N.sl i rfl,rfl,rfl⟩) λus Y ⟨L,G,p,r,O,e2⟩=>⟨p.kIn,?_⟩) (bH (a:=.Name n J) rfl []) (star_any [] rfl);subst O e2;let⟨m,O,e⟩:=avn.mp e
 cases e;let⟨C,c1,c2,c3⟩:=N.xr
 obtain rfl:us=[Value.ref a]:=by
  cases r with
  |cons r1 r2=>
   cases r2;cases r1;rfl
 have B:=p.pin (a,o) (avQ _ avl);have D:L2H.PinOk X.stack G Y (a,o):=⟨B.1,B.2.1,λR=>(avw.mp (p.stkSub a R)).elim B.2.2.1 B.2.2.2.1,B.2.2.2.2⟩;have U:∀m:List Bool,∀v,aC X.K g v (m.map V.bl) (m.map PyData.bool):=λm v=>by
  induction m with
  |nil=>exact .nil
  |cons b m ih=>exact .cons (.bl b) ih
 refine wpAny_call (codeAny_mono (F (X.A.mark (some (.ref a))) X.stack Y G ⟨[.ref a],[]⟩ (a,o) cls d x.cls m Q (λ_ _ _=>False) ⟨hr.dp,hr.un⟩ hz hf (c3.imp (·.2) λ⟨b,fs,z1,z2,_⟩=>⟨b,fs,z1,z2⟩) D p.env0 (hB Y [.ref a] p.kIn (by rw[hl];rfl)) ⟨C,c1,c2⟩ O
  λl v x1 n1 y1=>q (.ref l) v x1 (.lst (.inl ⟨y1,N.inv.kd.fresh n1⟩) (U m v))) λr s' E=>?_)
 cases r with
 |error ee=>
  let⟨_,_,_,_,_,_,_,_,_,_,_,_,z⟩:=E
  exact awt z
 |ok fl=>
  cases fl with
  |ret u=>exact p.after E
  |next=>exact awt E
  |brk=>exact awt E
  |cont=>exact awt E
def alT{y:Str}{nm:Option Str}{i:Option Nat}{a:Addr}{oe:Obj}{cls:Value}{d:Option Addr}{pn:List (Addr×Obj)}{e:Expr}{T:Hq}(A:Amb aj c X W k)(p:Wz c nm=some i)(S:(c.hs.xf.lookup y).getD []=fl)(w:∀f∈T.fs,f∈fl)(R:T.fs.length<=100)(hz:Zc cls d oe)(hf:∃vs,oe.data=.fields vs)(h:aeP c nm e=some T) :
  PE (X.suite a ((a,oe)::pn)) e (tU X.K aj a cls d i λx=>Gn y x T):=by
 have fld:∀n j,nm=some n->i=some j->X.N[j]?=some n/\Vis X.env.scope n/\(n==("__debug__" : Str))=false/\(n==("__classdict__" : Str))=false:=λn j o u=>by
  subst o u;unfold Wz at p;let⟨j',h1,p⟩:=avn.mp p
  split at p
  .cases p;exact rG A h1
  .cases p
 have b:∀n,nm=some n->∃j,i=some j:=λn o=>by
  subst o;unfold Wz at p;let⟨j',h1,p⟩:=avn.mp p
  split at p
  .cases p;exact⟨_,rfl⟩
  .cases p
 have L:fl≠[]->∃C,aj y=some C/\XfC X.K C/\∀f∈fl,PySem.W.findIn X.K (.ref C) f=some none:=λne=>by
  cases hx:c.hs.xf.lookup y with
  |none=>
   rw[hx]at S;exact absurd S.symm ne
  |some l=>
   rw[hx]at S;cases S;exact A.hk.xf y _ hx
 unfold aeP at h;left
 .cases h;exact afS pe_str λσ H Q ⟨g,ρ,M,x,z,I,e,kk⟩=>by
   cases e;exact kk _ H (Ex.refl H) (.str _)
 .cases h;exact afS pe_non λσ H Q ⟨g,ρ,M,x,z,I,e,kk⟩=>by
   cases e;exact kk _ H (Ex.refl H) .non
 .cases h;exact PE.weak (agR (aj:=aj) (cls:=cls) (d:=d) (i:=i) agU λx zs e=>by cases e;exact avX _) λσ H Q z=>z
 .obtain⟨n,o,h⟩;let⟨hm,h⟩:=aG.mp h
  cases h;cases awB hm;let⟨j,rfl⟩:=b _ o
  let⟨B,D,E,G⟩:=fld _ j o rfl
  let⟨C,U,Y,Z⟩:=L (List.ne_nil_of_mem (w _ (avp.mpr rfl)))
  exact af2 U Y (Z _ (w _ (avp.mpr rfl))) hz hf B D E G
 .next es _ _ hne=>
  obtain⟨n,o,h⟩;obtain⟨fs,u,h⟩;cases h;let⟨j,rfl⟩:=b _ o
  let⟨B,D,E,G⟩:=fld _ j o rfl
  have hfs:fs≠[]:=λz=>by
   subst z
   match es,u with
   |[],_=>exact hne rfl
   |.Attribute (.Name m _) f _::es,u=>
    rw[aci]at u;let⟨_,u⟩:=aG.mp u
    let⟨_,_,u⟩:=avn.mp u
    cases u
  have hfn:fl≠[]:=by
   cases fs with
   |nil=>exact absurd rfl hfs
   |cons f r=>exact List.ne_nil_of_mem (w f avl)
  let⟨C,U,Y,Z⟩:=L hfn
  exact agR (adF U Y Z hz hf B D E G u w) λx zs e=>by
   have:=Zf e;have R:fs.length<=100:=R;omega
 .obtain⟨n,o,h⟩;let⟨P,J⟩:=aG.mp h
  clear h;simp![avh,avB]at P;cases awB P.1;let⟨j,rfl⟩:=b _ o
  let⟨B,D,E,G⟩:=fld _ j o rfl
  let⟨v,hv,J⟩:=avn.mp J
  let⟨κ,O,J⟩:=avn.mp J
  cases J;cases v with
  |kin κ'=>
   cases O;let⟨fa,m1,kp,fd,ps,jj,hj,R,hB,F⟩:=A.gl _ _ hv
   exact amY (A.rm.mono hj) (lW A P.2.1) m1 kp (jf P.2.2).1 R hB F hz hf (pe_var B D E G)
  |_=>cases O
 .cases h
theorem Xi{y:Str}{nm:Option Str}{i:Option Nat}{a:Addr}{m:Obj}{cls:Value}{d:Option Addr}{n:List (Addr×Obj)}{o:List Str}(g:Amb aj c X W k)(v:Wz c nm=some i)(B:(c.hs.xf.lookup y).getD []=o)(C:Zc cls d m)(u:∃U,m.data=.fields U) :
  ∀{E:List Stmt} {st:List (Nat×Hq)},aeV c nm E=some st->(∀p∈st,(∀f∈p.2.fs,f∈o)/\p.2.fs.length<=100)->PSs (X.suite a ((a,m)::n)) E (tSu X.K aj a cls d i y st)
 |[],st,h,_=>by
  cases h;exact PSs.weak pss_nil λD Z H z=>anw z
 |.Assign [.Name x p] e p2::r,st,h,A=>by
  rw[aeV]at h;obtain⟨j,F,h⟩;obtain⟨O,l,h⟩;obtain⟨Q,G,h⟩;cases h;let⟨L,M,N⟩:=jm g F
  let⟨R,S⟩:=A (j,O) avl
  have I:=alT (a:=a) (pn:=n) g v B R S C u l;have b:DQ e=false/\swappedStores [.Name x p] e X.env=pure none:=by unfold aeP at l;split at l<;>first | exact⟨rfl,rfl⟩ | cases l
  refine PSs.weak (pss_cons (ps_asg I (pg_name (X:=X.suite a ((a,m)::n)) g.nd L M N) (Fp b.1) b.2 #[rfl]) (Xi g v B C u G λp J=>A p (avk _ J))) λD Z H z=>?_;exact ao0
   z λσ' H' Y=>Y
def arJ(aj:aJ)(K:ave)(h:Hd)(D:Addr):Cl:=⟨.ref D,h.nm,λa cls d=>tSu K aj a cls d h.nm h.y h.st⟩
theorem acB(g:Amb aj c X W k):∀{l:List ExceptHandler} {v:List Hd},V7 c l=some v->∃w,El X l w/\Jy X.K aj v w
 |[],v,h=>by
  cases h;exact⟨[],.nil,.nil⟩
 |h0::l,v,h=>by
  rw[V7]at h;obtain⟨d,b,h⟩;obtain⟨ds,S,h⟩;cases h;let⟨w,L,Y⟩:=acB g S
  unfold anq at b;split at b
  .next y np nm s0 su cp=>
   let⟨u,Z,b⟩:=avn.mp b
   let⟨i,j,b⟩:=avn.mp b
   let⟨st,M,b⟩:=avn.mp b
   let⟨_,N,b⟩:=avn.mp b
   let⟨J,b⟩:=aG.mp b
   cases b;simp![avh,avB]at J;let⟨O,P,Q,R⟩:=J
   let⟨⟨D,B⟩,U⟩:=g.hk.xm y u Z
   have T:X.mg y=some (.ref D):=by
    split at N
    .next E=>
     let⟨C,A,m,_⟩:=g.gl y _ E
     rw[B]at m;cases m;exact A
    .next E=>
     let⟨C,fI,fd,ps,A,m,_⟩:=g.gl y _ E
     rw[B]at m;cases m;exact A
    .cases N
   have e:Names X y (.ref D):=⟨lW g O,(jf P).1,.inl T⟩;have r:∀p∈st,(∀f∈p.2.fs,f∈(c.hs.xf.lookup y).getD [])/\p.2.fs.length<=100:=λp G=>by
    have:=avx.mp R p G;rw[avh,awu]at this;exact⟨λf o=>by simpa using avx.mp this.1 f o,this.2⟩
   have F:∀p∈st,i≠some p.1:=λp G z=>by
    subst z;have:=avx.mp Q p G;simp at this
   refine⟨arJ aj X.K ⟨y,λx=>u.lookup x,i,st⟩ D::w,?_,.cons ⟨⟨D,B,rfl⟩,U,rfl,rfl,F⟩ Y⟩;cases nm with
   |none=>
    cases j;exact .one e rfl (λa oe cls d pn H o=>Xi g rfl rfl H o M r) L
   |some n=>
    have I:=j;unfold Wz at j;let⟨i',s1,j⟩:=avn.mp j
    split at j
    .next hloc=>
     cases j;refine .as e rfl (rG g s1).1 ?_ (λa oe cls d pn H o=>Xi g I rfl H o M r) L;unfold PySem.Env.kindOf;rw[g.hs];exact hloc
    .cases j
  .cases b
def ah6(a:Amb aj c X W k){h:ExceptHandler}{b:List ExceptHandler}{d:List Hd}(z:V7 c (h::b)=some d):Takes X W:=
 a.tk
theorem rA.tr(a:rA aj c X W k){W':WX}{pn:List (Addr×Obj)}{xe:Value->Shared->Prop}(t:Takes (X.tr pn xe) W')(p:PassesOwn (model X.prog X.w) X.A X.env xe):rA aj c (X.tr pn xe) W' k where
 hN:=a.hN
 hs:=a.hs
 calm:=a.calm
 nd:=a.nd
 tk:=t
 rm:=a.rm
 gl:=a.gl
 bl:=a.bl
 fn:=a.fn
 hk:=a.hk
 ps:=p
 st:=a.st
 fr:=a.fr
 kf:=a.kf
def xS(q:Bool)(t:Tr)(s:Ts)(c:Tc):Stmt->Option SF
 |.Raise (some (.Call (.Name x _) [] [] _)) none _=>(match c.G.lookup x with
  |some .exc=>gd (wL c.sc x&&!vU x) (some (eY x))
  |_=>none)
 |.Raise (some (.Call (.Name x _) (e::es) [] _)) none _=>(match c.G.lookup x with
  |some (.exi l)=>(JG t c (e::es)).bind λas=>gd (wL c.sc x&&(!vU x&&(decide ((e::es).length=l.length)&&decide (l.length<=1000)))) (some (Jq x l as))
  |_=>none)
 |.Try body (h::hds) [] [] _=>(s.B c body).bind λf=>(V7 c (h::hds)).bind λr=>some (T8 f r)
 |.Pass _=>some aM
 |.Expr (.Call (.Attribute (.Attribute o f p1) m apos) [e] [] pos) epos=>(match q with
  |true=>(s.G c (.Call (.Attribute (.Attribute o f p1) m apos) [e] [] pos)).bind λf=>some (cA f)
  |false=>match m=="append" with
   |true=>gd (baseOk o&&(nst e&&(apos.endLine==pos.line))) ((t.W c o).bind λa=>(s.G c e).bind λb=>some (HF f a b))
   |false=>(s.G c (.Call (.Attribute (.Attribute o f p1) m apos) [e] [] pos)).bind λf=>some (cA f))
 |.Expr (.Call (.Attribute o m apos) [] [] pos) _=>els ((t.E c o).bind λf=>gd (m=="clear"&&(baseOk o&&(apos.endLine==pos.line))) (some (UJ (arT c o) f))) ((s.G c (.Call (.Attribute o m apos) [] [] pos)).bind λf=>some (cA f))
 |.Expr e _=>gd (!DQ e) ((s.G c e).bind λf=>some (cA f))
 |.Assign [.Name x p] (.ListComp elt [⟨n,iter,ifs,0⟩,⟨d,iter1,ifs1,0⟩] scope cpos) _=>(qm c x).bind λj=>
  gd (swB c.sc (.ListComp elt [⟨n,iter,ifs,0⟩,⟨d,iter1,ifs1,0⟩] scope cpos) scope x p&&!c.ml.contains x) ((VR t c elt n iter ifs d iter1 ifs1 scope).bind λf=>some (aV (au j) (gOf f)))
 |.Assign [.Attribute o f _] e _=>(match q with
  |true=>none
  |false=>aif t s c o f e)
 |.Assign [.Subscript (.Attribute o f _) i _] e _=>(match q with
  |true=>none
  |false=>gd (baseOk o&&(!W4 i&&!DQ e)) ((t.W c o).bind λa=>(t.E c i).bind λg=>(t.E c e).bind λb=>match c.hs.df.lookup f with
   |some _=>some (Ww f a g b)
   |none=>some (aax f a g b)))
 |.AugAssign (.Attribute o f _) .Add e _=>(match q with
  |true=>none
  |false=>(t.W c o).bind λa=>(t.E c e).bind λb=>some (aau c.hs.ft f a b))
 |.Delete [.Subscript (.Attribute o f _) i _] _=>(match q with
  |true=>none
  |false=>gd (baseOk o) ((t.W c o).bind λa=>(t.E c i).bind λg=>some (Wd f a g)))
 |_=>none
def apV(o:t.Ok)(os:s.Ok q)(a:rA aj c X W k){st:Stmt}{f:SF}(h:xS q t s c st=some f):SE aj X W q st f:=by
 have hk:=a.hk;unfold xS at h;left
 .left
  .next B=>
   let⟨b,h⟩:=aG.mp h
   cases h;simp![avh,avB]at b;exact ail a.calm a.tk (lW a.toAmb b.1) (jf b.2).1 (a.gl _ _ B)
  .cases h
 .left
  .next fs B=>
   obtain⟨as,d,h⟩;let⟨b,h⟩:=aG.mp h
   cases h;simp![avh,avB,awu]at b;let⟨u,x,y,E⟩:=b
   let⟨G,J,i3⟩:=u5 o a.toAmb d
   exact agJ a.calm (a.tw B rfl) a.rm (lW a.toAmb u) (jf x).1 (a.gl _ _ B) G J (λM N R z=>by rw[i3 M N R z];exact y) E
  .cases h
 .obtain⟨v,d,h⟩;obtain⟨hs,e,h⟩;cases h;let⟨ls,G,J⟩:=acB a.toAmb e
  exact aog a.st a.fr a.nd (ah6 a.toAmb e) (λW' pn xe t p=>os.ob (a.tr t p) d) G J
 .cases h;exact PS.weak ps_pass λD σ H ⟨g,N,M,I,z⟩=>z σ H g .refl I
 .left
  .obtain⟨v,d,h⟩;cases h;exact Q5 (os.og a d) (vm rfl)
  .left
   .next hm=>
    let⟨b,h⟩:=aG.mp h
    obtain⟨F,d,h⟩;obtain⟨L,e,h⟩;cases h;simp![avh]at b;cases awB hm;exact aky hk.co (o.ow a.toAmb d) b.1 (os.og a e) b.2.1 b.2.2
   .obtain⟨v,d,h⟩;cases h;exact Q5 (os.og a d) (vm rfl)
 .rcases kJ h with h|h
  .obtain⟨v,d,h⟩;let⟨b,h⟩:=aG.mp h
   cases h;simp![avh]at b;cases awB b.1;exact alO (o.oe a.toAmb d) b.2.1 b.2.2
  .obtain⟨v,d,h⟩;cases h;exact Q5 (os.og a d) (vm rfl)
 .let⟨b,h⟩:=aG.mp h
  obtain⟨v,d,h⟩;cases h;exact Q5 (os.og a d) (vm (by simpa using b))
 .obtain⟨j,hj,h⟩;let⟨i,h⟩:=aG.mp h
  rw[avh]at i;obtain⟨v,d,h⟩;cases h;let⟨s1,s2,s3⟩:=jm a.toAmb hj
  have i:=i.1;rw[<-a.hs]at i;have l1:=(acp (l:=0) a.kf i).1;have l2:=λl=>(acp (l:=l) a.kf i).2;clear h;unfold VR at d;let⟨it,U,h⟩:=avn.mp d
  obtain⟨⟨js,tf⟩,e,h⟩;obtain⟨tt,A,h⟩;obtain⟨it1,Y,h⟩;obtain⟨⟨js1,tf1⟩,Z,h⟩;obtain⟨tt1,h6,h⟩;obtain⟨te,h7,h⟩;let⟨b,h⟩:=aG.mp h
  cases h;simp![avh,avB]at b;let⟨u,x,y,E,O,Q⟩:=b
  have r:=a.toAmb;exact alM a.calm a.nd s1 l1 (l2 _) (o.oi r U) (by rw[a.hN,a.hs];exact u) (tO x) (tO y) (tO E) (λs H C m n=>yW (r.inn _ s H C m n) e) (λs H C m n=>Bt o (r.inn _ s H C m n) A) (λs H C m n=>o.oi (r.inn _ s H C m n) Y) (λs H C m n=>yW (r.inn _ s H C m n) Z) (λs H C m n=>Bt o (r.inn _ s H C m n) h6) (λs H C m n=>o.oe (r.inn _ s H C m n) h7) (qP O) (λenv=>qP Q)
 .left
  .cases h
  .exact alZ o os a h
 .left
  .cases h
  .let⟨b,h⟩:=aG.mp h
   obtain⟨F,d,h⟩;obtain⟨S,e,h⟩;obtain⟨L,A,h⟩;simp![avh,avB]at b;let⟨u,x,y⟩:=b
   left
   .cases h;exact alJ hk.co hk.hw (ai1 a.toAmb) (o.ow a.toAmb d) u (o.oe a.toAmb e) (o.oe a.toAmb A) aiK
   .cases h;exact al3 hk.co (o.ow a.toAmb d) u (o.oe a.toAmb A) (o.oe a.toAmb e) (aiT x) (Fp y) #[rfl]
 .left
  .cases h
  .obtain⟨F,d,h⟩;obtain⟨L,e,h⟩;cases h;exact aj2 hk.co hk.fk (o.ow a.toAmb d) (o.oe a.toAmb e)
 .left
  .cases h
  .let⟨b,h⟩:=aG.mp h
   obtain⟨F,d,h⟩;obtain⟨S,e,h⟩;cases h;exact aly hk.co hk.hw (ai1 a.toAmb) (o.ow a.toAmb d) b (o.oe a.toAmb e)
 .cases h
end
def aiE(t:Tr)(s:Ts)(c:Tc):List Stmt->Option SF
 |.For (.Name a _) (.Call g es [] gp) [.Expr (.Call (.Attribute (.Name e _) m apos) [] [] cpos) _] [] _::r=>
  (qm c a).bind λj=>(zu c a).bind λd=>(t.E c (.Call g es [] gp)).bind λf=>(s.B c r).bind λb=>
  gd ((e==a&&m=="clear")&&(d==j&&apos.endLine==cpos.line)) (some (sWo j f b))
 |_=>none
section
variable{aj:aJ}{c:Tc}{X:Cx}{W:WX}{k:Nat}{t:Tr}{s:Ts}{q:Bool}
def akR(o:t.Ok)(os:s.Ok q)(a:rA aj c X W k){b:List Stmt}{f:SF}(h:aiE t s c b=some f):Dq aj X W q b f:=by
 unfold aiE at h;left
 .obtain⟨j,m,h⟩;obtain⟨C,n,h⟩;obtain⟨A,p,h⟩;obtain⟨B,r,h⟩;let⟨d,h⟩:=aG.mp h
  cases h;simp![avh]at d;let⟨⟨e,g⟩,i,l⟩:=d
  cases awB e;cases awB g;cases awB i;let⟨u,v,w⟩:=jm a.toAmb m
  let⟨D,x,y,z⟩:=rG a.toAmb n
  exact aoy a.ps a.calm (o.oe a.toAmb p) a.nd u v w x y z l (qP rfl) (os.ob a r)
 .cases h
end
def afw(t:Tr)(c:Tc):List Expr->Option QA
 |[]=>some bZ
 |[.Subscript a (.Slice lo i none _) _]=>(t.W c a).bind λfa=>(trO t c lo).bind λh=>(trO t c i).bind λd=>some (Xf (slF fa h d))
 |e::b=>gd (nst e) ((t.E c e).bind λf=>(afw t c b).bind λg=>some (Bo f g))
def alR{f:QF}{g:QA}{M:Mo}{c:Env}{b:List Dat}(h:Bo f g M c=.ok b):∃d a,b=d::a/\g M c=.ok a:=by
 unfold Bo at h;cases e:f M c with
 |ok d=>
  rw[e]at h;have h:(if lf d=true then(g M c).bind λb=>.ok (d::b) else .bad)=Out.ok b:=h;left
  .cases i:g M c with
   |ok a=>
    rw[i]at h;cases h;exact⟨d,a,rfl,rfl⟩
   |exc x=>rw[i]at h;cases h
   |bad=>rw[i]at h;cases h
  .cases h
 |exc x=>rw[e]at h;cases h
 |bad=>rw[e]at h;cases h
def ala{f:IF}{M:Mo}{c:Env}{a:List Dat}(h:Xf f M c=.ok a):a.length=1:=by
 unfold Xf at h;cases b:f M c with
 |ok d=>
  rw[b]at h;have h:(if fZ d=true then Out.ok [PyData.list d] else .bad)=Out.ok a:=h;left
  .cases h;rfl
  .cases h
 |exc x=>rw[b]at h;cases h
 |bad=>rw[b]at h;cases h
def afC(c:Tc)(x:Str):Bool:=c.ml.contains (liN x)&&!c.ml.contains x
def xK(t:Tr)(s:Ts)(c:Tc):Stmt->Option SF
 |.Assign [.Name x _] (.List a _) _=>(qm c x).bind λj=>gd (afC c x) ((JG t c a).bind λf=>some (Yn j (JK f)))
 |.Assign [.Name x _] (.Call (.Name y _) (e::a) [] _) _=>(qm c x).bind λj=>gd (afC c x) (match c.G.lookup y with
  |some (.fg n m)=>gd (wL c.sc y&&(!vU y&&decide ((e::a).length=n))) ((afw t c (e::a)).bind λas=>some (QZ j m as))
  |_=>none)
 |.Expr (.Call (.Attribute (.Name x _) m apos) [e] [] pos) _=>(zu c x).bind λj=>gd (afC c x&&(m=="append"&&(nst e&&apos.endLine==pos.line))) ((t.E c e).bind λf=>some (Vj j f))
 |.For (.Name z _) (.Name x _) [.Expr e _] [] _=>(zu c x).bind λj=>(qm c z).bind λi=>gd (c.ml.contains x&&!DQ e) ((s.G c e).bind λf=>some (aaw j i f))
 |_=>none
def xP(t:Tr)(c:Tc):Expr->Option QF
 |.Call (.Name x _) [a,.Name y p] [] _=>gd (c.ml.contains (liN y)&&nst a) (match c.G.lookup x with
  |some (.fq n m)=>gd (wL c.sc x&&(!vU x&&decide (2=n))) ((t.W c a).bind λfa=>(t.W c (.Name y p)).bind λb=>some (ae7 m fa b))
  |_=>none)
 |_=>none
def xQ(t:Tr)(s:Ts)(c:Tc):Expr->Option GF
 |.Subscript a b _=>gd (!W4 b) ((s.G c a).bind λfa=>(t.W c b).bind λd=>some (R3 Fv fa d))
 |.BoolOp .And (a::b::r) p=>(s.G c a).bind λfa=>(s.G c (.BoolOp .And (b::r) p)).bind λd=>some (afs fa d)
 |_=>none
section
variable{aj:aJ}{c:Tc}{X:Cx}{W:WX}{k:Nat}{t:Tr}{s:Ts}
def aqd{q:Bool}(o:t.Ok)(os:s.Ok q)(a:rA aj c X W k){e:Expr}{f:GF}(h:xQ t s c e=some f):GE aj X W q e f:=by
 unfold xQ at h;left
 .let⟨i,h⟩:=aG.mp h
  obtain⟨fa,b,h⟩;obtain⟨g,d,h⟩;cases h;exact aqQ (os.og a b) (o.ow a.toAmb d) (Td i)
 .obtain⟨fa,b,h⟩;obtain⟨g,d,h⟩;cases h;exact aj1 (os.og a b) (os.og a d)
 .cases h
theorem aeB(o:t.Ok)(a:Amb aj c X W k):∀{i:List Expr} {f:QA},afw t c i=some f->PA X i (tNA X.K aj W f)/\i.all nst=true/\∀M p j,f M p=.ok j->j.length=i.length
 |[],f,h=>by
  cases h;exact⟨ano,rfl,λ_ _ _ z=>by cases z;rfl⟩
 |e::i,f,h=>by
  unfold afw at h;left
  .next b=>cases b
  .next b=>
   cases b;obtain⟨fa,m,h⟩;obtain⟨B,n,h⟩;obtain⟨A,r,h⟩;cases h;exact⟨aqK (ajr (o.ow a m) (JR o a n) (JR o a r)) rfl,rfl,λ_ _ _ z=>ala z⟩
  .next b=>
   cases b;let⟨q,h⟩:=aG.mp h
   obtain⟨y,m,h⟩;obtain⟨g,n,h⟩;cases h;let⟨u,v,w⟩:=aeB o a n
   refine⟨akC (o.oe a m) u q,by rw[avI,q,v];rfl,λM p j z=>?_⟩;let⟨d,l,rfl,x⟩:=alR z
   rw[avu,avu,w M p l x]
def aqE(o:t.Ok)(os:s.Ok false)(a:rA aj c X W k){st:Stmt}{f:SF}(h:xK t s c st=some f):SE aj X W false st f:=by
 unfold xK at h;left
 .obtain⟨j,e,h⟩;let⟨_,h⟩:=aG.mp h
  let⟨g,l,p⟩:=jm a.toAmb e
  obtain⟨u,d,h⟩;cases h;exact aoj a.nd g l p (ahp (u5 o a.toAmb d).1) (vm rfl)
 .obtain⟨j,e,h⟩;let⟨_,h⟩:=aG.mp h
  let⟨g,l,p⟩:=jm a.toAmb e
  left
  .next n m v=>
   let⟨b,h⟩:=aG.mp h
   simp![avh,avB,awu]at b;let⟨w,x,y⟩:=b
   obtain⟨as,d,h⟩;cases h;let⟨fa,B,hk,L,N,M,q,C,z,F⟩:=a.gl _ _ v
   let⟨D,E,G⟩:=aeB o a.toAmb d
   exact akr (a.tw v rfl) F (a.rm.mono q) (lW a.toAmb w) B hk z D (y.trans C.symm) (jf x).1 E G a.nd g l p (vm rfl)
  .cases h
 .obtain⟨j,e,h⟩;let⟨b,h⟩:=aG.mp h
  obtain⟨u,d,h⟩;cases h;simp![avh]at b;cases awB b.2.1;let⟨g,l,p,r⟩:=rG a.toAmb e
  exact aki g l p r (o.oe a.toAmb d) b.2.2.1 b.2.2.2
 .obtain⟨j,e,h⟩;obtain⟨i,A,h⟩;let⟨b,h⟩:=aG.mp h
  obtain⟨u,d,h⟩;cases h;simp![avh,avB]at b;let⟨g,l,p,r⟩:=rG a.toAmb e
  let⟨H,I,J⟩:=jm a.toAmb A
  exact alm a.ps a.calm (os.og a d) (vm b.2) a.nd g l p r H I J
 .cases h
def apC(o:t.Ok)(a:Amb aj c X W k){e:Expr}{f:QF}(h:xP t c e=some f):QE aj X W e f:=by
 unfold xP at h;left
 .let⟨b,h⟩:=aG.mp h
  rw[avh]at b;left
  .next n m d=>
   let⟨hc,h⟩:=aG.mp h
   simp![avh,avB,awu]at hc;let⟨g,i,l⟩:=hc
   obtain⟨fa,p,h⟩;obtain⟨x,q,h⟩;cases h;let⟨_,v,hk,y,z,j,u,w,r,F⟩:=a.gl _ _ d
   exact akf (passAt (a.tw d rfl)) F (a.rm.mono u) (lW a g) v hk r (o.ow a p) (o.ow a q) (l.trans w.symm) (jf i).1 (by rw[avI,b.2];rfl)
  .cases h
 .cases h
end
def tr0:Tr:=⟨λ_ _=>none,λ_ _=>none,λ_ _=>none,λ_ _ _ _=>none⟩
def amO(t:Tr):Tr:=⟨λc e=>els (xP t c e) (xtE t c e),xtW t,xtT t,xtI t⟩
def tr:Nat->Tr
 |0=>tr0
 |n+1=>amO (tr n)
theorem z7:∀n,(tr n).Ok
 |0=>⟨λ_=>(by intro _ _ h;cases h),λ_=>(by intro _ _ h;cases h),λ_=>(by intro _ _ h;cases h),λ_=>(by intros;rename_i h;cases h)⟩
 |n+1=>⟨λa=>(by intro _ _ h;exact(kJ h).elim (apC (z7 n) a) λh=>(kJ h).elim (aqh (z7 n) a) (an2 (z7 n) a)),λa=>(by intro _ _ h;exact(kJ h).elim (aqC (z7 n) a) (aov (z7 n) a)),λa=>(by intro _ _ h;exact(kJ h).elim (aql (z7 n) a) (amt (z7 n) a)),λa=>(by intro _ _ _ _ h;exact(kJ h).elim (ap7 (z7 n) a) (anR (z7 n) a))⟩
def ts0:Ts:=⟨λ_ _=>none,λ_ _=>none,λ_ _=>none,λ_ _=>none⟩
def ldG(q:Bool)(t:Tr)(s:Ts)(c:Tc)(e:Expr):Option GF:=match q with
 |true=>none
 |false=>els (xG t s c e) (xQ t s c e)
def ldH(q:Bool)(t:Tr)(s:Ts)(c:Tc)(e:Expr):Option GT:=match q with
 |true=>none
 |false=>xH t s c e
def aq8(t:Tr)(s:Ts)(c:Tc)(b:List Stmt):Option SF:=els (aiE t s c b) (ae2 s c b)
def ldL(q:Bool)(t:Tr)(s:Ts)(c:Tc)(e:Stmt):Option SF:=match q with
 |true=>none
 |false=>xK t s c e
def amJ(q:Bool)(t:Tr)(s:Ts):Ts:=⟨λc e=>els ((t.E c e).bind λf=>some (gOf f)) (ldG q t s c e),λc e=>els ((t.T c e).bind λf=>some (abF f)) (ldH q t s c e),λc e=>els (ldL q t s c e) (els (stS t s c e) (xS q t s c e)),aq8 t s⟩
def ts(q:Bool)(t:Tr):Nat->Ts
 |0=>ts0
 |n+1=>amJ q t (ts q t n)
theorem BW{t:Tr}(o:t.Ok)(q:Bool):∀n,(ts q t n).Ok q
 |0=>⟨λ_=>(by intro _ _ h;cases h),λ_=>(by intro _ _ h;cases h),λ_=>(by intro _ _ h;cases h),λ_=>(by intros;rename_i h;cases h)⟩
 |n+1=>⟨λa=>by
   intro _ _ h;rcases kJ h with h|h
   .obtain⟨f,b,h⟩;cases h;exact ajq (o.oe a.toAmb b)
   .cases q with
    |true=>cases h
    |false=>exact(kJ h).elim (aqy o (BW o false n) a) (aqd o (BW o false n) a),λa=>by
   intro _ _ h;rcases kJ h with h|h
   .obtain⟨f,b,h⟩;cases h;exact apP (o.ot a.toAmb b)
   .cases q with
    |true=>cases h
    |false=>exact apR o (BW o false n) a h,λa=>by
   intro _ _ h;rcases kJ h with h|h
   .cases q with
    |true=>cases h
    |false=>exact aqE o (BW o false n) a h
   rcases kJ h with h|h
   .exact aoC o (BW o q n) a h
   .exact apV o (BW o q n) a h,λa=>by
   intro _ _ h;exact(kJ h).elim (akR o (BW o q n) a) (aiV (BW o q n) a)⟩
def rd(c:Tc)(b:List Stmt):Option SF:=(ts true (tr 40) 60).B c b
def rdG(c:Tc)(b:List Stmt):Option SF:=(ts false (tr 40) 60).B c b
def Gk(P:Program)(w:World)(K:ave)(b:Str->Option Value)(a:Heap)(aj:aJ)(k:Nat):LsS GV->Prop
 |[]=>True
 |(x,v)::r=>mJ P w K b a aj k x v/\Gk P w K b a aj k r
def FZ(a:Str->Option Value):List Str->Prop
 |[]=>True
 |x::r=>a x=none/\FZ a r
section
variable{P:Program}{w:World}{K:ave}{mg:Str->Option Value}{base:Heap}{aj:aJ}{k:Nat}
theorem Gk.get:∀{G:LsS GV},Gk P w K mg base aj k G->∀x v,G.lookup x=some v->mJ P w K mg base aj k x v
 |[],_,x,v,h=>nomatch h
 |(y,u)::r,g,x,v,h=>by
  rw[avM]at h;left
  .next e=>
   cases h;rw[awB e];exact g.1
  .exact g.2.get x v h
theorem FZ.get:∀{B:List Str},FZ mg B->∀x,x∈B->mg x=none
 |[],_,x,h=>nomatch h
 |y::r,g,x,h=>by
  rcases avw.mp h with rfl|h
  .exact g.1
  .exact g.2.get x h
def agm{qual:Str}{st:Stmt}{f:Addr}{N ps ml B:List Str}{G:LsS GV}{Ms:Hs}(S:FnScope N ps (defScope st))(g:Gk P w K mg base aj k G)(b:FZ mg B)(hh:W3 P w K mg base aj k Ms)
  (cdv:Value) (A:Around) (outer:List PySem.Env) (s:Shared) (H:Hp) (E:XK) (hr:Room k (A.deeper (envOfC qual (defScope st) s.heap.objs.size f cdv))) :
  rA aj ⟨N,defScope st,G,B,Ms,ml,true⟩ (cxOf (L2.CX P w) P w K mg base N qual (defScope st) f cdv A outer s H E) (aiP E) k where
 hN:=rfl
 hs:=rfl
 calm:=rfl
 nd:=S.nd
 tk:=takes_of rfl rfl rfl rfl
 rm:=hr
 gl:=g.get
 bl:=b.get
 fn:=λ_ _=>rfl
 hk:=hh
 ps:=passes_of rfl
 st:=rfl
 fr:=rfl
 kf:=S.kind
def abP{x d:Str}{st:Stmt}{f:Addr}{j:FuncData}{N e n B:List Str}{G:LsS GV}{i:Hs}{a:SF}(F:Fun K x d st f j)(S:FnScope N e (defScope st))(g:Gk P w K mg base aj k G)(b:FZ mg B)(l:W3 P w K mg base aj k i)
  (h:rd ⟨N,defScope st,G,B,i,n,true⟩ (defBody st)=some a):FnOk P w K mg base (L2.CX P w) (k+1) f j e (RJ K aj e.length (mQ N.length a)):=
 arQ F S λcdv A c s H E m=>(BW (z7 40) true 60).ob (agm S g b l cdv A c s H E m) h
def V1{x d:Str}{st:Stmt}{f:Addr}{j:FuncData}{N e n B:List Str}{G:LsS GV}{i:Hs}{a:SF}(F:Fun K x d st f j)(S:FnScope N e (defScope st))(g:Gk P w K mg base aj k G)(b:FZ mg B)(l:W3 P w K mg base aj k i)
  (h:rdG ⟨N,defScope st,G,B,i,n,true⟩ (defBody st)=some a):FnOk P w K mg base (L2.CX P w) (k+1) f j e (HJ K aj e.length (mG N.length a)):=
 arU F S λcdv A c s H E m=>(BW (z7 40) false 60).ob (agm S g b l cdv A c s H E m) h
def apa{f:Addr}{d:FuncData}{c:List Str}{j:Nat}:FnOk P w K mg base (L2.CX P w) j f d c (RJ K aj c.length λ_ _=>.bad):=
 ⟨λe H Q E h=>h.1,λA a s H b l e Q E _ _ _ _ h=>by
  let⟨_,g,M,i,_,_,_,z⟩:=h
  exact awt z⟩
def aip{x:Str}{f:Addr}{b:FuncData}{a:List Str}{j:Nat}{m:Mo->List Dat->Out Dat}(e:j<=k)(d:mg x=some (.ref f))(hk:PySem.W.keepIn K (.ref f)=true)(c:Binds K b a [])(F:FnOk P w K mg base (L2.CX P w) j f b a (RJ K aj a.length m)):mJ P w K mg base aj k x (.fq a.length m):=
 ⟨f,d,hk,b,a,j,e,rfl,c,F⟩
def Ph{x:Str}{i:Int}{t:Tok}(h:mg x=some (.int i t)):mJ P w K mg base aj k x (.con (.int i)):=⟨.int i,_,h,⟨t,rfl⟩,λ_ _=>.int i,λ_ _ z=>nomatch z⟩
def anl{x z:Str}{t:Tok}(h:mg x=some (.str z t)):mJ P w K mg base aj k x (.con (.str z)):=⟨.str z,_,h,⟨t,rfl⟩,λ_ _=>.str z,λ_ _ z=>nomatch z⟩
theorem YF{g:Gh}{H:Hp}:∀{c:List V} {a:List Dat},(c.zip a).all (λp=>match p with
  |(.int i,.int j)=>decide (i=j)
  |(.str x,.str y)=>decide (x=y)
  |_=>false)=true->c.length=a.length->aC K g H c a
 |[],[],_,_=>.nil
 |[],_::_,_,h=>nomatch h
 |_::_,[],_,h=>nomatch h
 |v::c,d::a,h,f=>by
  rw[awa,avI,avh]at h;refine .cons ?_ (YF h.2 (awq f));have b:=h.1;split at b
  .next e=>cases e;cases awv b;exact .int _
  .next e=>cases e;cases awv b;exact .str _
  .cases b
def ako{a:Addr}(h:aa2 K a=true):∃o,K.lookup a=some o/\o.cls=.type "tuple"/\o.dict=none:=by
 unfold aa2 at h;left
 .next o e=>
  rw[avh]at h;refine⟨o,e,?_,Option.isNone_iff_eq_none.mp h.2⟩;have b:=h.1;split at b
  .next c d=>rw[d,awv b]
  .cases b
 .cases h
def ag7{x:Str}{a:Addr}{d:List V}{c:List Dat}(h:mg x=some (.ref a))(q:∀H:Hp,SqT K H a d)(f:(d.zip c).all (λp=>match p with
  |(.int i,.int j)=>decide (i=j)
  |(.str x,.str y)=>decide (x=y)
  |_=>false)=true) (g:d.length=c.length) (l:aa2 K a=true):mJ P w K mg base aj k x (.con (.tuple c)):=⟨.ref a,_,h,rfl,λ_ H=>.tup (q H) (YF f g),λb _ e _=>by cases e;exact ako l⟩
end
open PySem PySem.Spec PyProof.Rows L2
section
variable{fa:List He.Fa}{fn:List He.DefD}{tb:List He.Tab}{ex:ave->Bool}{w:World}{K:ave}
def Qo.pK(c:Qo fa fn tb ex w K)(i:Nat){f:He.Fa}(h:fa[i]?=some f:=by rfl):f.ok K=true:=c.t.d.fact i h
def Qo.Vc(c:Qo fa fn tb ex w K)(i:Nat){d:He.DefD}(h:fn[i]?=some d:=by rfl):∃fd,FunD K d.name d.qual d.params d.body d.scope (d.dvs K) (d.kws K) (He.fAd K d.at_) fd:=c.t.d.def_ i h
def EY{x a:Str}{st:Stmt}{f:Addr}{g:FuncData}(F:FunD K x a (defArgs st) (defBody st) (defScope st) [] [] f g):L2.Fun K x a st f g:=by
 let⟨k,m,o,kV,doc,n,h,b,i,d,e,l,c,j,_⟩:=F.ex
 rcases j with⟨_,z⟩|⟨z,_⟩
 .cases z;exact⟨⟨k,m,kV,doc,n,h,b,i,d,e,l,c⟩,F.kp⟩
 .exact absurd rfl z
end
def g0:Gh:=⟨[],λ_=>none,λ_=>False,λ_=>False,True⟩
def am5(a:Addr):¬g0.A a:=λz=>by
 rcases z with(z|z)|z|z
 .cases z
 .exact z rfl
 .exact z
 .exact z
def aqT{H:Hp}:Kd g0 H:=⟨λa z=>absurd z (am5 a),λa z=>awt z,λa z=>awt z⟩
def anc{K:ave}{aj:aJ}{H:Hp}(b:aj ""=none):dH K aj g0 H []:=⟨rfl,λh k a e=>(by cases h<;>cases e),λh a i e=>(by cases h<;>cases e),λh i e=>(by cases h<;>cases e),λh i e=>(by cases h<;>cases e),λh a i e=>(by cases h<;>cases e),λh a c e=>(by cases h<;>cases e),b⟩
theorem Zo{K:ave}{g:Gh}{H:Hp}:∀a:List Int,aC K g H (a.map V.int) (a.map PyData.int)
 |[]=>.nil
 |n::a=>.cons (.int n) (Zo a)
def anp{K:ave}{H:Hp}{a:Addr}{b:List Int}(c:SqL K H a (b.map V.int)):aC K g0 H [.ref a] [.list (b.map PyData.int)]:=by
 refine .cons (.lst ?_ (Zo b)) .nil;rcases c with h|h
 .exact .inr ⟨awr,.inl ⟨h,am5 a⟩⟩
 .exact .inr ⟨awr,.inr h⟩
def aqF{K:ave}{aj:aJ}(d:aj ""=none){m:Mo->List Dat->aR Dat}{H:Hp}{a:Addr}{b:List Int}{M:Mo}(c:SqL K H a (b.map V.int))(h:m [] [.list (b.map PyData.int)]=.ok (.bool true) M):HJ K aj 1 m [.ref a] H (λv _=>v=.bl true) λ_ _ _=>False:=
 ⟨rfl,g0,[],[.list (b.map PyData.int)],aqT,anc d,anp c,by
  rw[h];exact λv e f _ _ _ r=>by cases r;rfl⟩
section
variable{K:ave}{h:Heap}{mg:Str->Option Value}{w:World}
def oM(w:World)(K:ave)(b:List Str)(a:Ft):aJ:=⟨λx=>match b.contains x with
 |true=>some (He.ga K x)
 |false=>none,λc=>(a.lookup c).getD [],w⟩
def Sy{a:List Str}{b:Ft}{x:Str}{C:Addr}(e:oM w K a b x=some C):C=He.ga K x:=by
 have e:(match a.contains x with
  |true=>some (He.ga K x)
  |false=>none)=some C:=e
 split at e
 .exact(avA e).symm
 .cases e
def Dc{a:List Str}{b:Ft}{x:Str}(e:a.contains x=true):oM w K a b x=some (He.ga K x):=by
 show(match a.contains x with
  |true=>some (He.ga K x)
  |false=>none)=_
 rw[e]
def acr{b:Ft}(g:Px K b=true){c:Str}{a:List Str}(j:b.lookup c=some a):Cls K (He.ga K c)/\∀f∈a,NoAttr K (He.ga K c) f:=by
 let⟨d,e⟩:=He.ba (avx.mp g _ (o9 j))
 exact⟨He.cls_ok d,λf i=>He.noat_ok (avx.mp e f i)⟩
def ahd{k:List Str}{b:Ft}(j:Px K b=true):jP K (oM w K k b):=λc C f e a=>by
 have e:=Sy e;subst e;have a:f∈(b.lookup c).getD []:=a;cases d:b.lookup c with
 |none=>rw[d]at a;cases a
 |some l=>
  rw[d]at a;let⟨g,i⟩:=acr j d
  exact⟨g,i f a⟩
def aiU{d:List Str}{a:Ft}:PN a (oM w K d a):=λc f e=>by
 unfold Ft.has at e;show f∈(a.lookup c).getD [];split at e
 .next g b=>
  rw[b];simpa using e
 .cases e
def xmN(b:List Str)(a:List (Str×LsS Bool)):Bool:=a.all λp=>b.contains p.1
def apM{d:List Str}{e:Ft}{c:List (Str×LsS Bool)}(k:xmB K c=true)(l:xmN d c=true)(y:Str)(a:LsS Bool)(f:c.lookup y=some a):(∃D,oM w K d e y=some D)/\afq K (oM w K d e) y λx=>a.lookup x:=by refine⟨⟨_,Dc (avx.mp l _ (o9 f))⟩,λx b C g i D j=>?_⟩;rw[Sy i,Sy j];exact He.exm_ok (avx.mp (avx.mp k _ (o9 f)) _ (o9 g))
def alS{C:Addr}(F:anG K C=true):OexC K C:=by
 let⟨a,f⟩:=He.ba F
 let⟨f,g⟩:=He.ba f
 let⟨g,i⟩:=He.ba g
 let⟨i,E⟩:=He.ba i
 refine⟨?_,He.eqO_ok f,awv g,awv i,E⟩;split at a
 .next t dd m P H=>
  let⟨R,a⟩:=He.ba a
  split at a
  .next u l o p q r n s e D=>
   let⟨v,a⟩:=He.ba a
   let⟨x,a⟩:=He.ba a
   let⟨y,a⟩:=He.ba a
   let⟨c,z⟩:=He.ba a
   have J:=awv R;have L:=awv v;have M:=awv x;have k:m.hasDel=false:=by simpa using y
   have N:P=(List.toArray [o,p,q,r,some (.builtin n),s]):=by rw[<-Array.toList_inj];exact D
   let⟨nm,B,j,I,O,G,Q,sub,A,d,b⟩:=m
   have e:j=.ref u::l:=e;have k:b=false:=k;have c:G=true:=c;subst J L M k N e c;exact⟨nm,O,I,B,l,Q,sub,A,d,dd,o,p,q,r,s,H,z⟩
  .cases a
 .cases a
def WW{x:Str}{d:List Str}(i:Ye K x d=true):OexC K (He.ga K x)/\PySem.W.findIn K (.ref (He.ga K x)) "__init__"=some (some (.ref (He.ma K (He.ga K x) "__init__")))/\PySem.W.typeIn K (.ref (He.ma K (He.ga K x) "__init__"))=some (.type "function")/\XfC K (He.ga K x)/\∀f∈d,PySem.W.findIn K (.ref (He.ga K x)) f=some none:=by
 let⟨e,a⟩:=He.ba i
 let⟨a,b⟩:=He.ba a
 let⟨b,c⟩:=He.ba b
 let⟨c,g⟩:=He.ba c
 exact⟨alS e,He.eqO_ok a,awv b,xfB_ok c,λf j=>He.eqO_ok (avx.mp g f j)⟩
def aiu{a:Addr}{e:List Str}(b:aay K a e=true)(H:Hp):SqT K H a (e.map V.str):=by
 unfold aay at b;split at b
 .next c d its n m k=>
  let⟨f,g⟩:=He.ba b
  let⟨i,j⟩:=He.ba g
  have l:=awv f;subst l;exact .inr ⟨_,its,n,k,rfl,rfl,awv i,He.relAll_ok j⟩
 .cases b
def vN(a:List (Str×List Str)):LsS Dat:=a.map λq=>(q.1,.tuple (q.2.map PyData.str))
theorem ZL{g:Gh}{H:Hp}:∀a:List Str,aC K g H (a.map V.str) (a.map PyData.str)
 |[]=>.nil
 |x::a=>.cons (.str x) (ZL a)
theorem Vu{y:Str}:∀{a:List (Str×List Str)},(vN a).lookup y=(a.lookup y).map λb=>PyData.tuple (b.map PyData.str)
 |[]=>rfl
 |(z,b)::r=>by
  show List.lookup y ((z,PyData.tuple (b.map PyData.str))::vN r)=_;rw[avM,avM];split
  .rfl
  .exact Vu
theorem look_none{d:Type}{y:Str}:∀{b:List (Str×d)},b.lookup y=none->y∉b.map (·.1)
 |[],_=>by simp
 |(z,a)::r,h=>by
  rw[avM]at h;left
  .cases h
  .next c=>
   rw[avj,avw]
   rintro(e|e)
   .subst e;simp at c
   .exact look_none h e
def ak9{x:Str}{b:List (Str×List Str)}(t:ai8 K x b=true)(hk:∃c n,KDict K w (He.ga K x) c n):afu w K (He.ga K x) (vN b):=by
 let⟨d,l⟩:=He.ba t
 let⟨l,s⟩:=He.ba l
 let⟨c,n,D⟩:=hk
 rw[D.at_]at d;refine⟨c,n,D,?_,λy=>?_⟩
 .unfold vN;rw[avK];exact awv l
 .rw[Vu];cases o:b.lookup y with
  |some m=>
   have f:=avx.mp s _ (o9 o);show ∃v u,PySem.W.nsIn K (He.ga K x) y=some (some u)/\RelV v u/\∀g H,Rep K g H v (.tuple (m.map PyData.str));have f:(match PySem.W.nsIn K (He.ga K x) y with
    |some (some (.ref a))=>aay K a m
    |_=>false)=true:=f
   split at f
   .next a i=>exact⟨.ref a,.ref a,i,rfl,λg H=>.tup (aiu f H) (ZL m)⟩
   .cases f
  |none=>
   show PySem.W.nsIn K (He.ga K x) y=some none;have B:=look_none o;unfold PySem.W.nsIn;rw[D.at_];have d:c.toList.all (λe=>(match e.key with
    |.str y _=>(b.map (·.1)).contains y
    |_=>false)&&!e.refKey)=true:=d
   have q:c.toList.find? (·.key.isStr y)=none:=by
    rw[List.find?_eq_none];intro e i z;let⟨j,k⟩:=He.ba (avx.mp d e i)
    split at j
    .next C E A=>
     rw[A]at z;have z:(C==y)=true:=z;have p:=awB z;subst p;exact B (by simpa using j)
    .cases j
   have r:c.toList.any (·.refKey)=false:=by
    rw[List.any_eq_false];intro e i z;let⟨j,k⟩:=He.ba (avx.mp d e i)
    rw[z]at k;cases k
   show(match c.toList.find? (·.key.isStr y) with
    |some e=>some (some e.val)
    |none=>if c.toList.any (·.refKey) then none else some none)=some none
   rw[q,r];rfl
end
section
variable{P:Program}{w:World}{K:ave}{mg:Str->Option Value}{base:Heap}{k:Nat}{xs:List Str}{ft:Ft}
def aar(P:Program)(w:World)(K:ave)(mg:Str->Option Value)(base:Heap)(aj:aJ)(k:Nat)(m:Str):List (Str×MV)->Prop
 |[]=>True
 |(c,v)::r=>Gg P w K mg base aj k c m v/\aar P w K mg base aj k m r
def Ih(P:Program)(w:World)(K:ave)(mg:Str->Option Value)(base:Heap)(aj:aJ)(k:Nat):List (Str×List (Str×MV))->Prop
 |[]=>True
 |(m,a)::r=>aar P w K mg base aj k m a/\Ih P w K mg base aj k r
theorem aar.get{aj:aJ}{m:Str}:∀{tb:List (Str×MV)},aar P w K mg base aj k m tb->∀c v,tb.lookup c=some v->Gg P w K mg base aj k c m v
 |[],_,c,v,h=>nomatch h
 |(y,u)::r,g,c,v,h=>by
  rw[avM]at h;left
  .next e=>
   cases h;rw[awB e];exact g.1
  .exact g.2.get c v h
theorem Ih.get{aj:aJ}:∀{Ms:List (Str×List (Str×MV))},Ih P w K mg base aj k Ms->∀m tb,Ms.lookup m=some tb->∀c v,tb.lookup c=some v->Gg P w K mg base aj k c m v
 |[],_,m,tb,h=>nomatch h
 |(y,u)::r,g,m,tb,h=>by
  rw[avM]at h;left
  .next e=>
   cases h;rw[awB e];exact g.1.get
  .exact g.2.get m tb h
def arG{aj:aJ}{x:Str}{f:Addr}{b:FuncData}{a:List Str}{j:Nat}{m:Mo->List Dat->aR Dat}(e:j<=k)(d:mg x=some (.ref f))(hk:PySem.W.keepIn K (.ref f)=true)(c:Binds K b a [])(F:FnOk P w K mg base (L2.CX P w) j f b a (HJ K aj a.length m)):mJ P w K mg base aj k x (.fg a.length m):=
 ⟨f,d,hk,b,a,j,e,rfl,c,F⟩
def iI{x:Str}(g:xs.contains x=true)(f:mg x=some (.ref (He.ga K x)))(e:(He.Fa.exc x).ok K=true):mJ P w K mg base (oM w K xs ft) k x .exc:=by
 let⟨a,b,c,d⟩:=He.exc_ok e
 exact⟨_,f,Dc g,a,b,c,d⟩
def am2{x:Str}{b:FuncData}{a:List Str}{j n:Nat}{m:Mo->List Dat->aR Dat}(e:j+1<=k)(g:xs.contains x=true)(d:mg x=some (.ref (He.ga K x)))(hc:Cls K (He.ga K x))(f:(He.Fa.mkr x).ok K=true)(h:a.length=n+1)(c:Binds K b a [])
  (F:FnOk P w K mg base (L2.CX P w) j (He.ma K (He.ga K x) "__init__") b a (HJ K (oM w K xs ft) a.length m)):mJ P w K mg base (oM w K xs ft) k x (.cls n m):=
 ⟨_,_,b,a,j,d,Dc g,hc,He.mkr_ok f,e,h,c,F⟩
def amf{aj:aJ}{x:Str}{a:List (Str×List Str)}(d:mg x=some (.ref (He.ga K x)))(c:ai8 K x a=true)(hk:∃b n,KDict K w (He.ga K x) b n):mJ P w K mg base aj k x (.dic (vN a)):=⟨_,d,ak9 c hk⟩
def anh{x:Str}{a:List Str}{c:FuncData}{b:List Str}(e:2<=k)(j:xs.contains x=true)(i:mg x=some (.ref (He.ga K x)))(l:Ye K x a=true)(m:b.length=a.length+1)(h:Binds K c b [])(F:FnOk P w K mg base CX0 1 (He.ma K (He.ga K x) "__init__") c b (ajh (He.ga K x) a)):mJ P w K mg base (oM w K xs ft) k x (.exi a):=by
 let⟨d,f,g,_,_⟩:=WW l
 exact⟨_,_,c,b,i,Dc j,d,f,g,e,m,h,F⟩
def ajO{m:Str}{l:List Str}(a:l.contains m=false)(z:m∈l):False:=by rw[List.contains_iff_mem.mpr z]at a;cases a
def arK{c m:Str}{b:FuncData}{a:List Str}{j:Nat}{d:Mo->List Dat->Out Dat}(g:j<=k)(i:xs.contains c=true)(hc:Cls K (He.ga K c))(h:(He.Fa.meth c m).ok K=true)(f:((ft.lookup c).getD []).contains m=false)(e:Binds K b a [])(F:FnOk P w K mg base (L2.CX P w) j (He.ma K (He.ga K c) m) b a (RJ K (oM w K xs ft) a.length d)):Gg P w K mg base (oM w K xs ft) k c m (.q a.length d):=
 ⟨_,_,Dc i,hc,He.meth_ok h,(λz=>ajO f z),b,a,j,g,rfl,e,F⟩
def ars{c m:Str}{b:FuncData}{a:List Str}{j:Nat}{d:Mo->List Dat->aR Dat}(h:j<=k)(l:xs.contains c=true)(hc:Cls K (He.ga K c))(i:(He.Fa.meth c m).ok K=true)(f:((ft.lookup c).getD []).contains m=false)(e:Binds K b a [])(F:FnOk P w K mg base (L2.CX P w) j (He.ma K (He.ga K c) m) b a (HJ K (oM w K xs ft) a.length d)):Gg P w K mg base (oM w K xs ft) k c m (.g a.length d):=
 ⟨_,_,Dc l,hc,He.meth_ok i,(λz=>ajO f z),b,a,j,h,rfl,e,F⟩
def abz(K:ave)(mg:Str->Option Value):List Str->Prop
 |[]=>True
 |x::r=>mg x=some (.ref (He.ga K x))/\abz K mg r
theorem abz.get:∀{a:List Str},abz K mg a->∀c∈a,mg c=some (.ref (He.ga K c))
 |x::r,h,c,hc=>(avw.mp hc).elim (λe=>by rw[e];exact h.1) (h.2.get c)
def apD{kc kt:List Str}(p:abz K mg kc)(o:(kt.all λn=>xs.contains n&&(decide (PySem.W.findIn K (.ref (He.ga K n)) "__getattribute__"=some (some (.builtin "BaseException.__getattribute__")))&&(decide (PySem.W.findIn K (.ref (He.ga K n)) "__getattr__"=some none)&&(decide (PySem.W.subIn K (.ref (He.ga K n)) (.type "BaseException")=some true)&&(PySem.W.hasDictIn K (He.ga K n)&&(decide (PySem.W.findIn K (.ref (He.ga K n)) "__class__"=some (some (.builtin "object.__class__")))&&(decide (PySem.W.specialIn K (.builtin "object.__class__") "__get__"=some (some (.builtin "getset_descriptor.__get__")))&&(decide (PySem.W.takesIn K (.builtin "object.__class__")=some true)&&(decide (PySem.W.mroIn K (He.ga K n) (.type "object")=some true)&&kc.all λc=>decide (PySem.W.kitOne K (.ref (He.ga K n)) (.ref (He.ga K c))=some (n==c)))))))))))=true):anB K mg (oM w K xs ft) kc kt:=λn q=>by
 have h:=avx.mp o n q;simp![avh,awu,avx]at h;let⟨a,b,d,e,f,g,i,j,l,m⟩:=h
 exact⟨_,Dc a,⟨b,d,e,f,g,i,j,l⟩,λc hc=>⟨_,p.get c hc,m c hc⟩⟩
def amw{aj:aJ}{x:Str}{f:Addr}{b:FuncData}{a:List Str}{j:Nat}{c:Str->Option (List Bool)}(g:j<=k)(e:mg x=some (.ref f))(hk:PySem.W.keepIn K (.ref f)=true)(h:a.length=1)(d:Binds K b a [])(F:FnK P w K mg base aj j f b a c):mJ P w K mg base aj k x (.kin c):=⟨f,e,hk,b,a,j,g,h,d,F⟩
def aqH{Ms:List (Str×List (Str×MV))}{xm:List (Str×LsS Bool)}{df:LsS Bool}{xf:List (Str×List Str)}(hm:Ih P w K mg base (oM w K xs ft) k Ms)(hb:Px K ft=true)(hx:xmB K xm=true)(hn:xmN xs xm=true)(hf:(xf.all λp=>xs.contains p.1&&Ye K p.1 p.2)=true):W3 P w K mg base (oM w K xs ft) k ⟨Ms,ft,xm,df,xf⟩ where
 ms:=hm.get
 fk:=aiU
 co:=ahd hb
 hw:=rfl
 xm:=apM hx hn
 xf:=λy fs hl=>by
  let⟨h1,h2⟩:=He.ba (avx.mp hf _ (o9 hl))
  let⟨_,_,_,h3,h4⟩:=WW h2
  exact⟨_,Dc h1,h3,h4⟩
end
abbrev lI(l:List Int):Dat:=.list (l.map PyData.int)
abbrev aH(l:List Int):Dat:=.tuple (l.map PyData.int)
theorem aiX{c:ig}{a:SF}{M:Mo}{b:Env}:fO c a [] M b=.next b M:=rfl
def eU{b:ig}{a:SF}{d:Dat}{c:List Dat}{M M2:Mo}{e Z1 Z2:Env}(f:b d e=some Z1)(g:a M Z1=.next Z2 M2):fO b a (d::c) M e=fO b a c M2 Z2:=by
 rw[fO,f]
 show(match a M Z1 with
   |.next Z2 M2=>fO b a c M2 Z2
   |.cont Z2 M2=>fO b a c M2 Z2
   |.brk Z2 M2=>.next Z2 M2
   |.ret d M2=>.ret d M2
   |.exc x Z2 M2=>.exc x Z2 M2
   |.bad=>.bad)=_
 rw[g]
theorem gq{e:Type}{tg:ig}{tt:QT}{te:QF}{M:Mo}{ρ:Env}(d:e->Dat)(p:e->Bool)(f:e->Dat):∀(a:List e),(∀x∈a,∃c,tg (d x) ρ=some c/\tt M c=.ok (p x)/\(p x=true->te M c=.ok (f x)))->cJ tg tt te M ρ (a.map d)=.ok ((a.filter p).map f)
 |[],_=>rfl
 |x::a,h=>by
  let⟨c,i,j,l⟩:=h x avl
  have n:=gq d p f a λy m=>h y (avk _ m);rw[avj,cJ,i]
  show((zP (tt M c)).bind λb=>if b=true then(zP (te M c)).bind λy=>(cJ tg tt te M ρ (a.map d)).bind λr=>.ok (y::r) else cJ tg tt te M ρ (a.map d))=_
  rw[j,n];cases g:p x with
  |true=>
   show(if true=true then(zP (te M c)).bind λy=>(Out.ok ((a.filter p).map f)).bind λr=>.ok (y::r) else Out.ok ((a.filter p).map f))=_
   rw[l g,awy rfl,List.filter_cons_of_pos g];rfl
  |false=>
   show(if false=true then(zP (te M c)).bind λy=>(Out.ok ((a.filter p).map f)).bind λr=>.ok (y::r) else Out.ok ((a.filter p).map f))=_
   rw[awz #[()],List.filter_cons_of_neg (by rw[g];decide)]
def eZ{d:Type}{tg:ig}{te:QF}{M:Mo}{ρ:Env}(c:d->Dat)(f:d->Dat)(b:List d)(h:∀x∈b,∃a,tg (c x) ρ=some a/\te M a=.ok (f x)):cJ tg gQ te M ρ (b.map c)=.ok (b.map f):=by
 have:=gq (tt:=gQ) c (λ_=>true) f b λx i=>by
  let⟨a,e,g⟩:=h x i
  exact⟨a,e,rfl,λ_=>g⟩
 rw[this,List.filter_eq_self.mpr (λ_ _=>rfl)]
def afD{i j:Int}(h : -(2^64)<i/\i<2^64):decide (CMul i j)=true:=decide_eq_true (.inl h)
def mul_r{i j:Int}(h : -(2^64)<j/\j<2^64):decide (CMul i j)=true:=decide_eq_true (.inr h)
section
variable(M:Mo)(ρ:Env)
@[simp]theorem anz (f k:SF):ak f k M ρ=match f M ρ with
 |.next b a=>k a b
 |o=>o:=rfl
@[simp]theorem asx (j:Nat) (a:List Dat):Xa j [] ρ a=true:=rfl
@[simp]theorem asK (j i:Nat) (b:List Nat) (a:List Dat):Xa j (i::b) ρ a=((match ρ[i]? with
 |some (some (.mut c))=>i==j || afl c a
 |_=>true)&&Xa j b ρ a):=rfl
@[simp]theorem asr (b:Bool) (d:Dat):Zq b (.dat d)=if lf d=true then #[d] else none:=rfl
@[simp]theorem asB (b:Bool) (a:List Dat):Zq b (.mut a)=if (b&&fZ a)=true then #[.list a] else none:=rfl
def flG(a:List Nat):Nat->Env->Env
 |_,[]=>[]
 |i,o::ρ=>o.bind (Zq (a.contains i))::flG a (i+1) ρ
theorem agg(a:List Nat):∀(ρ:Env) (i:Nat),flG a i ρ=ρ.mapIdx λk o=>o.bind (Zq (a.contains (i+k)))
 |[],_=>rfl
 |o::ρ,i=>by
  rw[flG,agg a ρ,List.mapIdx_cons];congr 1;apply avO;intro k;simp[Nat.add_assoc,Nat.add_comm 1 k]
@[simp]def auv (a:List Nat):Cu a ρ=flG a 0 ρ:=by rw[agg];simp[Cu]
@[simp]theorem asz (a:List Nat) (i:Nat):flG a i []=[]:=rfl
@[simp]theorem as3 (a:List Nat) (i:Nat) (o:Option Cell):flG a i (o::ρ)=o.bind (Zq (a.contains i))::flG a (i+1) ρ:=rfl
@[simp]def ag8 (i:Int):lf (.int i)=true:=by rw[lf]
@[simp]def as9 (i:Str):lf (.str i)=true:=by rw[lf]
@[simp]def adG (i:Bool):lf (.bool i)=true:=by rw[lf]
@[simp]def asv:lf .none=true:=by rw[lf]
@[simp]def asy (k:List (Dat×Dat)):lf (.dict k)=true:=by rw[lf]
@[simp]def asw (a:List Dat):lf (.list a)=false:=by rw[lf]
@[simp]def auP (a:List Dat):lf (.tuple a)=fZ a:=by rw[lf]
@[simp]def asZ:fZ []=true:=by rw[fZ]
@[simp]def arx (d:Dat) (a:List Dat):fZ (d::a)=(lf d&&fZ a):=by rw[fZ]
theorem Yb:∀{ds:List Dat},fZ ds=true↔∀d∈ds,lf d=true
 |[]=>by simp
 |d::ds=>by simp[Yb (ds:=ds)]
@[simp]def aiJ (l:List Int):fZ (l.map PyData.int)=true:=Yb.mpr λd h=>by
 let⟨i,_,rfl⟩:=avr.mp h
 exact ag8 i
@[simp]theorem ev_c (d:Dat):qC d M ρ=.ok d:=rfl
@[simp]def ev_notV (a:QF):Wg a M ρ=((a M ρ).bind G4).bind λb=>.ok (.bool (!b)):=by
 show(((a M ρ).bind G4).bind λb=>Out.ok (!b)).bind (λb=>Out.ok (PyData.bool b))=_
 cases a M ρ with
 |ok d=>cases h:G4 d<;>simp[Out.bind,h]
 |exc x=>rfl
 |bad=>rfl
@[simp]theorem arW (o d:Dat->Dat->Out Dat) (a b c:QF):lZ o d a b c M ρ=(a M ρ).bind λx=>(b M ρ).bind λy=>(o x y).bind λz=>(G4 z).bind λk=>if k=true then(c M ρ).bind λw=>(d y w).bind G4 else .ok false:=rfl
@[simp]theorem at8 (t:O2) (a:QF):zf t a M ρ=(a M ρ).bind (Az t):=rfl
@[simp]theorem au8:uW M ρ=.ok none:=rfl
@[simp]theorem au2 (a:QF):kZ a M ρ=(a M ρ).bind λd=>(Ko d).bind λi=>.ok (some i):=rfl
@[simp]theorem aqZ (j:Nat) (d:Dat):au j d ρ=some (ρ.set j #[d]):=rfl
@[simp]theorem arC (b:List Nat) (a:List Dat):aX b (.tuple a) ρ=Bm b a ρ:=rfl
@[simp]theorem au9 (n:Nat) (b:SF) (a:List Dat):mQ n b M a=match b M (ini n a) with
 |.ret d _=>.ok d
 |.next _ _=>.ok .none
 |.exc x _ _=>.exc x
 |_=>.bad:=rfl
@[simp]theorem auX (n:Nat) (b:SF) (c:List Dat):mG n b M c=match b M (ini n c) with
 |.ret d a=>.ok d a
 |.next _ a=>.ok .none a
 |.exc x _ a=>.exc x a
 |_=>.bad:=rfl
end
section
variable(i j:Int)(ds es:List Dat)(b c:Bool)(x y:Str)
@[simp]theorem asM:cY (.int i) (.int j)=.ok (.int (i+j)):=rfl
@[simp]theorem ar9:cY (.list ds) (.list es)=Out.when (decide (ds.length+es.length<=100000)) (.ok (.list (ds++es))):=rfl
@[simp]theorem ar8:cY (.tuple ds) (.tuple es)=Out.when (decide (ds.length+es.length<=100000)) (.ok (.tuple (ds++es))):=rfl
@[simp]theorem auG:qU (.int i) (.int j)=.ok (.int (i-j)):=rfl
@[simp]theorem aus:yw (.int i) (.int j)=Out.when (decide (CMul i j)) (.ok (.int (i*j))):=rfl
@[simp]theorem at6:Fy (.int i) (.int j)=Out.when (decide (CDiv i j)) (.ok (.int (i/j))):=rfl
@[simp]theorem auM:jY (.int i) (.int j)=Out.when (decide (0<j)) (.ok (.int (i%j))):=rfl
@[simp]theorem auE:TX (.int i) (.int j)=Out.when (decide (CPow i j)) (.ok (.int (i^j.toNat))):=rfl
@[simp]theorem auT:Qn (.int i) (.int j)=.ok (.bool (decide (i<j))):=rfl
@[simp]theorem auU:qd (.int i) (.int j)=.ok (.bool (decide (i<=j))):=rfl
@[simp]theorem au3:Ve (.int i) (.int j)=.ok (.bool (decide (j<i))):=rfl
@[simp]theorem auW:geD (.int i) (.int j)=.ok (.bool (decide (j<=i))):=rfl
@[simp]theorem atl:yD (.int i) (.int j)=.ok (.bool (i==j)):=rfl
@[simp]theorem atj:yD (.str x) (.str y)=.ok (.bool (x==y)):=rfl
@[simp]theorem aut:yD (.bool b) (.bool c)=.ok (.bool (b==c)):=rfl
@[simp]theorem at4:Ae (.int i) (.int j)=.ok (.bool (!(i==j))):=rfl
@[simp]theorem atv:Ae (.str x) (.str y)=.ok (.bool (!(x==y))):=rfl
@[simp]theorem atA:Um (.int i)=.ok (.int (-i)):=rfl
@[simp]theorem asl:R9 (.bool b)=.ok b:=rfl
@[simp]theorem asU:R9 (.list ds)=.ok (!ds.isEmpty):=rfl
@[simp]theorem asf:R9 (.tuple ds)=.ok (!ds.isEmpty):=rfl
@[simp]theorem atE:G4 (.bool b)=.ok b:=rfl
@[simp]theorem as4:iQ (.list ds)=.ok (.int ds.length):=rfl
@[simp]theorem asT:iQ (.tuple ds)=.ok (.int ds.length):=rfl
@[simp]theorem at5:Yu (.int i)=.ok (.int (if i<0 then -i else i)):=rfl
@[simp]theorem ev_max2:wZ (.int i) (.int j)=.ok (.int (if j>i then j else i)):=rfl
@[simp]theorem ase:xM (.int i) (.int j)=.ok (.int (if j<i then j else i)):=rfl
@[simp]theorem atz:Fv (.list ds) (.int i)=match atI ds i with
  |some d=>.ok d
  |none=>.bad:=rfl
@[simp]theorem auB:Fv (.tuple ds) (.int i)=match atI ds i with
  |some d=>.ok d
  |none=>.bad:=rfl
@[simp]theorem asY:Ko (.int i)=.ok i:=rfl
@[simp]theorem as6 (lo a:Option Int):slD (.list ds) lo a=.ok (.list (cutD ds lo a)):=rfl
@[simp]theorem auj (lo a:Option Int):slD (.tuple ds) lo a=.ok (.tuple (cutD ds lo a)):=rfl
@[simp]theorem asH:lX (.list ds)=.ok (.tuple ds):=rfl
@[simp]theorem asJ:lX (.tuple ds)=.ok (.tuple ds):=rfl
@[simp]theorem arh:HS (.list ds)=.ok (.list ds):=rfl
@[simp]theorem arY:HS (.tuple ds)=.ok (.list ds):=rfl
@[simp]theorem aud:ae1 (.list ds)=.ok ds:=rfl
@[simp]theorem atM:ae1 (.tuple ds)=.ok ds:=rfl
@[simp]theorem auD:wI (.list ds)=.ok ds:=rfl
@[simp]theorem aub:wI (.tuple ds)=.ok ds:=rfl
@[simp]theorem ash (o:Option Cell) (a:Env):qK (o::a)=o.map VF::qK a:=rfl
@[simp]theorem ar6:qK []=[]:=rfl
@[simp]theorem arM (d:Dat):VF (.dat d)=.dat d:=rfl
@[simp]theorem arV (ds:List Dat):VF (.mut ds)=.dat (.list ds):=rfl
@[simp]theorem asI (a:Env):Bm [] [] a=some a:=rfl
@[simp]theorem asF (j:Nat) (a:List Nat) (d:Dat) (e:Env):Bm (j::a) (d::ds) e=Bm a ds (e.set j #[d]):=rfl
@[simp]theorem arv (a:Env):bU a []=a:=rfl
@[simp]theorem aq6 (d:Env) (j:Nat) (a:List Nat):bU d (j::a)=(bU d a).set j none:=rfl
@[simp]def aq4 {d:Type} (a:d) (l:List d):atI (a::l) 0=some a:=atI_nat (j:=0) rfl
@[simp]theorem asn (n:Nat):ini n ds=ds.map (λd=>#[d])++List.replicate (n-ds.length) none:=rfl
end
def aeo{a b:String}:Str.ofString a=Str.ofString b↔a=b:=by
 constructor
 .intro h;rw[Str.ofString_eq_toList,Str.ofString_eq_toList]at h;have c:a.toList.map Char.toNat=b.toList.map Char.toNat:=by simpa using h
  have d:a.toList=b.toList:=by
   refine List.map_inj_right (f:=Char.toNat) (λx y e=>?_) |>.mp c
   exact Char.ext (UInt32.toNat_inj.mp e)
  exact String.toList_inj.mp d
 .rintro rfl;rfl
@[simp]def auf (a b:String):(Str.ofString a=Str.ofString b)=(a=b):=propext aeo
@[simp]def asC (a b:String):(Str.ofString a==Str.ofString b)=decide (a=b):=by rw[awg];simp[aeo]
@[simp]def au4 {c:Type} (a b:c) (l:List c):atI (a::b::l) 1=some b:=atI_nat (j:=1) rfl
@[simp]def au6 {d:Type} (a b c:d) (l:List d):atI (a::b::c::l) 2=some c:=atI_nat (j:=2) rfl
@[simp]def auY {e:Type} (a b c d:e) (l:List e):atI (a::b::c::d::l) 3=some d:=atI_nat (j:=3) rfl
@[simp]def au0 {f:Type} (a b c d e:f) (l:List f):atI (a::b::c::d::e::l) 4=some e:=atI_nat (j:=4) rfl
@[simp]def au5 {g:Type} (a b c d e f:g) (l:List g):atI (a::b::c::d::e::f::l) 5=some f:=atI_nat (j:=5) rfl
@[simp]def au7 {h:Type} (a b c d e f g:h) (l:List h):atI (a::b::c::d::e::f::g::l) 6=some g:=atI_nat (j:=6) rfl
@[simp]def arF (s:String):PyData.strOk (Str.ofString s)=true:=by
 rw[Str.ofString_eq_toList];unfold PyData.strOk;simp![Array.all_eq_true,awu];intro i h;simp![List.getElem_toArray,List.getElem_map];have:=s.toList[i]'(by simpa using h) |>.valid
 rcases this with z|⟨_,z⟩
 .show(s.toList[i]'(by simpa using h)).val.toNat<_
  omega
 .show(s.toList[i]'(by simpa using h)).val.toNat<_
  omega
section
variable(i j:Int)(x y:Str)(d e:Dat)(ds es:List Dat)(b c:Bool)
@[simp]def abk:PyData.eqv (.int i) (.int j)=(i==j):=by simp[PyData.eqv]
@[simp]def atu:PyData.eqv (.str x) (.str y)=(x==y):=by simp[PyData.eqv]
@[simp]def atL:PyData.eqv (.bool b) (.bool c)=(b==c):=by simp[PyData.eqv]
@[simp]def aue:PyData.eqv .none .none=true:=by simp[PyData.eqv]
@[simp]def abo:PyData.eqv (.tuple ds) (.tuple es)=PyData.eqvAll ds es:=by simp[PyData.eqv]
@[simp]def anb:PyData.eqv (.list ds) (.list es)=PyData.eqvAll ds es:=by simp[PyData.eqv]
@[simp]def auc:PyData.eqv (.tuple ds) .none=false:=by simp[PyData.eqv]
@[simp]def atn:PyData.eqv .none (.tuple ds)=false:=by simp[PyData.eqv]
@[simp]def atf:PyData.eqv (.str x) (.int i)=false:=by simp[PyData.eqv]
@[simp]def atZ:PyData.eqv (.int i) (.str x)=false:=by simp[PyData.eqv]
@[simp]def alk:PyData.eqvAll [] []=true:=by simp[PyData.eqvAll]
@[simp]def asj:PyData.eqvAll [] (d::ds)=false:=by simp[PyData.eqvAll]
@[simp]def akg:PyData.eqvAll (d::ds) []=false:=by simp[PyData.eqvAll]
@[simp]def aeL:PyData.eqvAll (d::ds) (e::es)=(PyData.eqv d e&&PyData.eqvAll ds es):=by simp[PyData.eqvAll]
end
@[simp]theorem Ck:∀l m:List Int,PyData.eqvAll (l.map PyData.int) (m.map PyData.int)=decide (l=m)
 |[],[]=>by simp
 |[],_::_=>by simp
 |_::_,[]=>by simp
 |a::l,b::m=>by
  rw[avj,avj,aeL,Ck l m,abk];by_cases h:a=b<;>by_cases c:l=m<;>simp[h,c]
theorem Av{n:Nat}:∀{ds:List Dat},mW n ds=true↔∀d∈ds,okd n d=true
 |[]=>by simp[mW]
 |d::ds=>by simp[mW,Av (ds:=ds)]
@[simp]def aj3 (n:Nat) (i:Int):okd n (.int i)=true:=by simp[okd]
@[simp]def YZ (n:Nat) (l:List Int):mW n (l.map PyData.int)=true:=Av.mpr λd h=>by
 let⟨i,_,rfl⟩:=avr.mp h
 simp
def ajg{n:Nat}{d:Dat}(h:okd n d=true):PyData.eqv d d=true:=PySem.SeqAt.eqv_refl d (QV n d h).1
def ob(h:Nat):Dat:=obj h
section
variable(M:Mo)(ρ:Env)(h:Nat)(f:Str)
@[simp]theorem asu:W9 M f (ob h)=(M[h]?).bind λi=>if (i.cls=="")=true then none else i.fs.lookup f:=rfl
@[simp]theorem arj (a:List (Str×MV)):Qq a M (ob h)=(M[h]?).bind λi=>a.lookup i.cls:=rfl
@[simp]theorem abe:qw M (ob h)=(M[h]?).bind λi=>match i.cls=="" with
 |true=>none
 |false=>some (h,i):=rfl
@[simp]theorem asp:Yo M (ob h)=((M[h]?).bind aaC).bind λa=>some (h,a):=rfl
@[simp]theorem arf (a:List Dat):aaC ⟨"",[("",.lst 0 a)]⟩=some a:=rfl
@[simp]theorem atU (j:Nat) (f:IF):Yn j f M ρ=((f M ρ).at M).then ρ λa _=>if fZ a=true then .next (ρ.set j #[ob M.length]) (M++[⟨"",[("",.lst 0 a)]⟩]) else .bad:=rfl
@[simp]theorem aso (a:List Dat) (lo b:Option Int):slL (.list a) lo b=.ok (cutD a lo b):=rfl
theorem aee:∀{a:List (List Dat)},(∀x∈a,fZ x=true)->Yw (a.map PyData.list)=some a
 |[],_=>rfl
 |x::a,h=>by
  show(match fZ x with
   |true=>(Yw (a.map PyData.list)).map (x::·)
   |false=>none)=_
  rw[h x avl,aee λy b=>h y (avk _ b)];rfl
@[simp]theorem asO (x:Str) (m:Mo->List Dat->aR Dat) (as:QA):yc x m as M ρ=((as M ρ).at M).bind λds _=>match m (M++[⟨x,[]⟩]) (ob M.length::ds) with
 |.ok .none a=>.ok (ob M.length) a
 |_=>.bad:=rfl
@[simp]theorem asq (x:cZ):hdl [] x ρ M=.exc x ρ M:=rfl
@[simp]theorem asW (h:Hd) (r:List Hd) (x:cZ):hdl (h::r) x ρ M=match h.tk x.cls with
  |some true=>match afd ρ h.nm with
   |true=>match vA h.y x h.st (Xo ρ h.nm) with
    |some a=>.next (Xo a h.nm) M
    |none=>.bad
   |false=>.bad
  |some false=>hdl r x ρ M
  |none=>.bad:=rfl
@[simp]theorem asS:Xo ρ none=ρ:=rfl
@[simp]theorem asR (i:Nat):Xo ρ (some i)=ρ.set i none:=rfl
@[simp]theorem ari:afd ρ none=true:=rfl
@[simp]theorem arI (i:Nat):afd ρ (some i)=decide (i<ρ.length):=rfl
@[simp]theorem atb (y:Str) (x:cZ):vA y x [] ρ=some ρ:=rfl
@[simp]theorem auz (y:Str) (x:cZ) (j:Nat) (e:Hq) (r:List (Nat×Hq)):vA y x ((j,e)::r) ρ=(Gn y x e).bind λd=>vA y x r (ρ.set j #[d]):=rfl
@[simp]theorem aua (y:Str) (x:cZ) (d:Dat):Gn y x (.con d)=some d:=rfl
theorem akW(d:Dat):Us M f d=(qw M d).bind λp=>match p.2.fs.lookup f with
 |some (.lst n a)=>some (p.1,p.2,n,a)
 |_=>none:=rfl
@[simp]def asV:Us M f (ob h)=(M[h]?).bind λi=>match i.cls=="" with
 |true=>none
 |false=>match i.fs.lookup f with
  |some (.lst n a)=>some (h,i,n,a)
  |_=>none:=by
 rw[akW,abe];cases M[h]? with
 |none=>rfl
 |some i=>
  show(match i.cls=="" with
   |true=>none
   |false=>some (h,i)).bind _=(match i.cls=="" with
   |true=>none
   |false=>_)
  cases i.cls==""<;>rfl
@[simp]theorem asN (i:Inst) (x:gU):i.put f x=⟨i.cls,putL f x i.fs⟩:=rfl
@[simp]theorem auZ (x:gU):putL f x []=[(f,x)]:=rfl
@[simp]theorem au1 (x y:gU) (g:Str) (r:LsS gU):putL f x ((g,y)::r)=if g=f then(g,x)::r else(g,y)::putL f x r:=rfl
@[simp]theorem asQ (a:Ft) (c:Str):Ft.has a c f=match a.lookup c with
 |some b=>b.contains f
 |none=>false:=rfl
@[simp]def asi:Nz M f (ob h)=(M[h]?).bind λi=>match i.cls=="" with
 |true=>none
 |false=>match i.fs.lookup f with
  |some (.dic b kvs)=>some (h,i,b,kvs)
  |_=>none:=by
 show(qw M (ob h)).bind _=_
 rw[abe];cases M[h]? with
 |none=>rfl
 |some i=>
  show(match i.cls=="" with
   |true=>none
   |false=>some (h,i)).bind _=(match i.cls=="" with
   |true=>none
   |false=>_)
  cases i.cls==""<;>rfl
@[simp]theorem ar0 (a:List (Dat×Dat)) (i:Int):dhas false a (.int i)=.ok (a.any λp=>PyData.eqv p.1 (.int i)):=rfl
@[simp]theorem ar4 (e:IF) (i:ig) (k:List Nat) (j:QT) (a:IF) (b:ig) (d:List Nat) (c:QT) (g:QF):Gu e i k j a b d c g M ρ=((e M ρ).bind λds=>(iJ i j a b d c g M (bU ρ k) ds).bind λr=>Out.when (decide (r.length<=50000)) (.ok r)).bind λr=>.ok (.list r):=rfl
@[simp]theorem aq2 (b:IF) (d:ig) (g:List Nat) (e:QT) (c:QF):Fg b d g e c M ρ=((b M ρ).bind λa=>Out.when (decide (a.length<=50000)) (cJ d e c M (bU ρ g) a)).bind λa=>match intsOf a with
 |some l=>Out.when (decide (l.length<=4000)) (.ok (.list ((Cp l).map PyData.int)))
 |none=>.bad:=rfl
@[simp]def aq1 {a:Type} (k g:Str) (y:a) (r:List (Str×a)):List.lookup k ((g,y)::r)=if k=g then some y else List.lookup k r:=by
 rw[avM];by_cases e:k=g
 .subst e;simp
 .have:(k==g)=false:=by simpa using e
  rw[this,awz e]
end
end Rf
namespace Pr
open PySem PySem.Spec PyProof.Rows L2 Evl Rf
abbrev TabMV := List (Str × MV)
abbrev ListInt := List Int
open Lean in
local macro_rules
| `(#[$n:num]) => `(qC (.int $n))
| `(#[$n:str]) => `(qC (.str $n))
| `(#[$x = $y]) => `(dR (aK yD $x $y))
| `(#[$xs,*]) => do
  if xs.elemsAndSeps.size<2 then Macro.throwUnsupported
  let mut r ← `(bZ)
  for x in xs.getElems.reverse do r ← `(aam $x $r)
  return r
open Lean in
local macro_rules
| `(%[$xs,*|$r]) => do
  let mut r := r
  for x in xs.getElems.reverse do r ← `(ak $x $r)
  return r
local macro_rules
| `($x[$n:num]!) => `(aK Fv $x (qC (.int $n)))
| `($x[$n]!) => `(aK Fv $x $n)
local macro_rules
| `(($n:num)) => `(Wy $n)
| `(($n:num:)) => `(zE $n)
def Bv:SF:=
 (ak (Em jk (0) "allowances" (JK bZ))
 (Em jk (0) "circles" (JK bZ)))
def vq:=mG 1 Bv
def DN:SF:=
 (U9 jk (0) "held" true)
def wW:=mG 1 DN
def Iv:SF:=
 (Em jk (0) "beasts" (JK bZ))
def BZ:=mG 1 Iv
def Ak:SF:=
 (ak (uG jk (0) "owner_count" (gOf #[0]))
 (ak (U9 jk (0) "holders" false)
 (ak (uG jk (0) "grounds" (yc "Grounds" vq bZ))
 (ak (uG jk (0) "rights" (yc "Rights" wW bZ))
 (uG jk (0) "herd" (yc "Herd" BZ bZ))))))
def fu:=mG 1 Ak
def Ja:SF:=
 (ak (uG jk (0) "commons" (yc "Commons" fu bZ))
 (Em jk (0) "kept" (JK bZ)))
def wD:=mG 1 Ja
def GD:SF:=
 (aN (dG HS (aY "kept" (0))))
def zK:=mQ 1 GD
def Yr:SF:=
 (ak (aV (au 5) (gOf (aK jY (aK cY (aK cY (aK yw (5) #[48271]) (aK yw #[9973] (4))) #[11]) #[2147483647])))
 (Lh 3 (aK jY (aK Fy (5) #[1021]) (2))))
def Xc:SF:=
 (ak (Lh 3 (aK jY (0) (2)))
 (aV (au 0) (gOf (aK Fy (0) (2)))))
def afp:SF:=
 (ak (Pn 3 (JK bZ))
 (ak (aV (au 0) (gOf (dG Yu (0))))
 (ak (bJ (dR (aK geD (0) (aK TX #[10] #[18]))) (ak (nR (vO (1)) (au 4) Xc)
 (aN (3:))) aM)
 (ak (aV (au 5) (gOf (aK jY (aK yw (aK cY (aK jY (0) #[1000003]) #[17]) #[69621]) #[2147483647])))
 (ak (nR (vO (1)) (au 4) Yr)
 (aN (3:)))))))
def Cq:=mQ 6 afp
def Ul:SF:=
 (ak (bJ #[(aK jY (1) #[4])=#[1]] (aN (dG lX (eO (cH (0)) (au 2) [2] gQ (aK wZ #[0] (aK qU (2) #[7]))))) aM)
 (ak (bJ #[(aK jY (1) #[4])=#[2]] (aN (dG lX (eO (cH (0)) (au 2) [2] gQ (aK jY (2) #[3])))) aM)
 (aN (dG lX (0)))))
def uY:=mQ 3 Ul
def afe:SF:=
 (ak (aV (au 1) (gOf (aQ Cq #[(0:),#[7],#[10]])))
 (aN (aQ uY #[RW (1) uW (kZ #[6]),(1)[6]!])))
def Vd:=mQ 2 afe
def IV:SF:=
 (ak (bJ #[(aK jY (0) #[8])=#[7]] (aN (uf bZ)) aM)
 (ak (aV (au 1) (gOf (uf #[bh #[#["ground"],#[0],#[0]],bh #[#["owner"],#[0],#[0]],bh #[#["owner"],#[0],#[0]],bh #[#["enrol"],#[0],#[0]],bh #[#["enrol"],#[1],#[0]]])))
 (ak (aV (au 1) (gOf (aK cY (1) (uf #[bh #[#["bring"],#[0],#[0]],bh #[#["cut"],#[0],#[0]],bh #[#["bring"],#[1],#[0]],bh #[#["cut"],#[1],#[0]],bh #[#["ground"],#[0],#[0]],bh #[#["enrol"],#[0],#[1]]]))))
 (aN (1:)))))
def wA:=mQ 2 IV
def Oh:SF:=
 (ak (aV (au 1) (gOf (uf #[#["tear"],#["cut"],#["bring"],#["sell"],#["move"],#["enrol"],#["bear"],#["tear"],#["cut"],#["sell"],#["move"],#["unite"],#["part"]])))
 (ak (aV (au 1) (gOf (aK cY (1) (uf #[#["heir"],#["pass"],#["die"],#["leave"],#["ground"],#["owner"],#["enrol"],#["tear"],#["sell"],#["bring"],#["bear"],#["cut"]]))))
 (aN (1)[aK jY (0) #[25]]!)))
def yN:=mQ 2 Oh
def Tf:SF:=
 (ak (aV (au 5) (gOf (bh #[#[0],#[0],#[0],#[0],#[0],#[1],#[1],#[2],#[3],dG Um #[1]])[(4)]!))
 (Lh 2 (aK wZ #[0] (aK xM #[9] (aK cY (3) (5))))))
def abC:SF:=
 (ak (Pn 2 (JK bZ))
 (ak (nR (Ip (0:) (1:)) (aX [3,4]) Tf)
 (aN (dG lX (2)))))
def Ol:=mQ 6 abC
def Pg:SF:=
 (ak (bJ (dR (aK Qn (1) #[4])) (aN (aQ Ol #[(2:),(0:)])) aM)
 (aN (aQ uY #[(0:),(1:)])))
def yO:=mQ 3 Pg
def aav:SF:=
 (ak (bJ (fH (2)) (aN (aK cY #[1] (aK jY (0) (aK wZ #[1] (1))))) aM)
 (aN (aK jY (0) (aK cY (1) #[2]))))
def jZ:=mQ 3 aav
def j6:SF:=
 (ak (aV (au 6) (gOf (aK Ae (3)[6]! #[9])))
 (ak (aV (au 7) (gOf (aQ yO #[RW (3) (kZ #[8]) (kZ #[14]),(3)[7]!,(5:)])))
 (ak (bJ #[(0)=#["owner"]] (aN (bh #[#["owner"],])) aM)
 (ak (bJ #[(0)=#["ground"]] (aN (bh #[#["ground"],aK cY (bh #[#[0],#[1],#[2],#[3],#[0],#[1],#[5],#[6],#[7],#[8]])[(3)[7]!]! (aK yw #[4] (dG intD (Wg (6))))])) aM)
 (ak (bJ (mX #[(0)=#["bring"]] (dR (aK Qn (3)[7]! #[6]))) (aV (au 7) (gOf (bh #[#[0],#[0],#[0],#[0],#[0],#[0]]))) aM)
 (ak (bJ (Qh #[(0)=#["enrol"]] #[(0)=#["bring"]]) (aN (bh #[(0:),aQ jZ #[(1:),(4)[0]!,(6:)],aQ jZ #[(2:),(4)[1]!,(6:)],(7:)])) aM)
 (ak (bJ #[(0)=#["leave"]] (aN (bh #[(0:),aQ jZ #[(1:),(4)[0]!,(6:)],aQ jZ #[(2:),(4)[1]!,(6:)]])) aM)
 (ak (bJ #[(0)=#["heir"]] (aN (bh #[(0:),aQ jZ #[(1:),(4)[0]!,(6:)],aQ jZ #[(2:),(4)[1]!,(6:)],aK jY (3)[7]! #[4]])) aM)
 (ak (bJ #[(0)=#["pass"]] (aN (bh #[(0:),aQ jZ #[(1:),(4)[0]!,(6:)],aQ jZ #[(2:),(4)[0]!,(6:)]])) aM)
 (ak (bJ #[(0)=#["unite"]] (aN (bh #[(0:),aQ jZ #[(1:),(4)[1]!,(6:)],aQ jZ #[(2:),(4)[1]!,(6:)]])) aM)
 (ak (bJ #[(0)=#["part"]] (aN (bh #[(0:),aQ jZ #[(1:),(4)[1]!,(6:)]])) aM)
 (ak (bJ #[(0)=#["tear"]] (aN (bh #[(0:),aQ jZ #[(1:),(4)[2]!,(6:)],aK jY (3)[7]! #[6]])) aM)
 (ak (bJ #[(0)=#["sell"]] (aN (bh #[(0:),aQ jZ #[(1:),(4)[2]!,(6:)],aQ jZ #[(2:),(4)[0]!,(6:)]])) aM)
 (ak (bJ #[(0)=#["move"]] (aN (bh #[(0:),aQ jZ #[(1:),(4)[2]!,(6:)],aQ jZ #[(2:),(4)[1]!,(6:)]])) aM)
 (aN (bh #[(0:),aQ jZ #[(1:),(4)[2]!,(6:)]]))))))))))))))))
def gJ:=mQ 8 j6
def Gz:SF:=
 (ak (aV (au 8) (gOf (aQ Cq #[(7:),#[14],#[10]])))
 (ak (aV (au 9) (gOf (aQ yN #[aK cY (aK yw (8)[0]! #[10]) (8)[1]!,])))
 (ak (aV (au 10) (gOf (aK cY (aK yw (8)[2]! #[10]) (8)[3]!)))
 (ak (aV (au 11) (gOf (aK cY (aK yw (8)[4]! #[10]) (8)[5]!)))
 (ak (bJ (dR (aK Qn (6) (dG iQ (4)))) (aV (aX [9,10,11]) (gOf (4)[(6)]!)) aM)
 (ak (aV (aX [12,13,14]) (gOf (2:)))
 (ak (Lh 5 (aQ gJ #[(9:),(10:),(11:),(8:),(2:),(3:)]))
 (ak (bJ #[(9)=#["owner"]] (KN 12 #[1]) aM)
 (ak (bJ #[(9)=#["ground"]] (KN 13 #[1]) aM)
 (ak (bJ (Qh #[(9)=#["bring"]] #[(9)=#["bear"]]) (KN 14 #[1]) aM)
 (aV (au 2) (gOf (bh #[(12:),(13:),(14:)])))))))))))))
def acC:SF:=
 (ak (aV (au 2) (gOf (bh #[#[0],#[0],#[0]])))
 (ak (aV (au 3) (gOf (aQ Vd #[aK Fy (1) #[512],])))
 (ak (aV (au 4) (gOf (aQ wA #[(1:),])))
 (ak (Pn 5 (JK bZ))
 (ak (nR (Es 0 (0:)) (aX [6,7]) Gz)
 (aN (5:)))))))
def Ji:=mQ 15 acC
def vH:SF:=
 (aN (dG iQ (aY "allowances" (0))))
def qT:=mQ 1 vH
def fB:TabMV:=[("Grounds",.q 1 qT)]
def DY:SF:=
 (aN (qOf (lZ qd qd #[1] (1) (aD fB (0) bZ))))
def xV:=mQ 2 DY
def Ai:TabMV:=[("Grounds",.q 2 xV)]
def Ah:SF:=
 (bJ (fV (fH (aD Ai (0) #[(1:),]))) (eY "NoGround") aM)
def vD:=mQ 2 Ah
def aA:TabMV:=[("Grounds",.q 2 vD)]
def pJ:SF:=
 (ak (cA (gOf (aD aA (0) #[(1:),])))
 (aN (dG HS (aY "circles" (0))[aK qU (1) #[1]]!)))
def lu:=mQ 2 pJ
def bx:TabMV:=[("Grounds",.q 2 lu)]
def pU:SF:=
 (aN (aD bx (aY "grounds" (0)) #[(1:),]))
def lE:=mQ 2 pU
def T9:SF:=
 (aN (dG U7 (0)))
def rM:=mQ 1 T9
def vX:SF:=
 (aN (eO (Es 1 (aY "beasts" (0))) (aX [1,2]) [1,2] (fH (aY "alive" (2))) (bh #[(1:),(2:)])))
def qp:=mQ 3 vX
def dX:TabMV:=[("Herd",.q 1 qp)]
def Ao:SF:=
 (aN (eO (cH (aD dX (0) bZ)) (aX [2,3]) [2,3] (dR (aK (inD false) (aY "ground" (3)) (1))) (bh #[(2:),(3:)])))
def qH:=mQ 4 Ao
def uw:SF:=
 (aN (eO (Ka "held" (0)) (aX [2,3,4]) [2,3,4] (dR (aK (inD false) (3) (1))) (bh #[(2:),(4:)])))
def oF:=mQ 5 uw
def sG:TabMV:=[("Rights",.q 2 oF)]
def fG:TabMV:=[("Herd",.q 2 qH)]
def bF:TabMV:=[("Commons",.q 2 lE)]
def kY:SF:=
 (ak (aV (au 3) (gOf (aD bF (0) #[(2:),])))
 (ak (aV (au 4) (gOf (eO (cH (aD fG (aY "herd" (0)) #[(3:),])) (aX [5,6]) [5,6] (mX (dR (yK true .none (aY "due" (6)))) (dR (aK Ae (5) (1)))) (bh #[gA "owner" (6),gA "due" (6)]))))
 (aN (aQ rM #[aK cY (aD sG (aY "rights" (0)) #[(3:),]) (4),]))))
def jd:=mQ 7 kY
def dw:TabMV:=[("Commons",.q 3 jd)]
def pC:SF:=
 (aN (aD dw (0) #[#[0],(1:)]))
def lA:=mQ 2 pC
def oG:SF:=
 (ak (cA (gOf (aD aA (0) #[(1:),])))
 (aN (aY "allowances" (0))[aK qU (1) #[1]]!))
def j5:=mQ 2 oG
def eG:TabMV:=[("Grounds",.q 2 j5)]
def vM:SF:=
 (aN (dG maxD (eO (cH (aD bx (0) #[(1:),])) (au 2) [2] gQ (aD eG (0) #[(2:),]))))
def qI:=mQ 3 vM
def uD:TabMV:=[("Grounds",.q 2 qI)]
def vP:SF:=
 (aN (aD uD (aY "grounds" (0)) #[(1:),]))
def qW:=mQ 2 vP
def Tn:SF:=
 (aN (dG Mh (eO (Ip (0) (1)) (aX [2,3]) [2,3] gQ (aK qd (2) (3)))))
def Bw:=mQ 4 Tn
def Ym:SF:=
 (aN (dG acA (eO (Ip (0) (1)) (aX [2,3]) [2,3] (dR (aK Ve (3) (2))) (aK qU (3) (2)))))
def oZ:=mQ 4 Ym
def Iz:SF:=
 (aN (dG lX (Fg (cH (1)) (aX [3,4]) [3,4] (mX (fH (aQ Bw #[(4:),(0:)])) (dR (aK qd (aQ oZ #[(4:),(0:)]) (2)))) (3:))))
def tK:=mQ 5 Iz
def bL:TabMV:=[("Commons",.q 2 qW)]
def bK:TabMV:=[("Commons",.q 2 lA)]
def rP:SF:=
 (ak (aV (au 2) (gOf (aD bK (0) #[(1:),])))
 (ak (aV (au 3) (gOf (aD bL (0) #[(1:),])))
 (aN (eO (cH (aD fG (aY "herd" (0)) #[aD bF (0) #[(1:),],])) (aX [4,5]) [4,5] gQ (bh #[(4:),gA "ear" (5),Om (dR (yK false .none (aY "due" (5)))) (qC .none) (aQ tK #[gA "ear" (5),(2:),(3:)])])))))
def fL:=mQ 6 rP
def ql:TabMV:=[("Commons",.q 2 fL)]
def xR:SF:=
 (aN (aD ql (aY "commons" (0)) #[(1:),]))
def lQ:=mQ 2 xR
def abr:SF:=
 (ak (bJ (dR (aK Qn (1) (dG iQ (0)))) (aN (0)[(1)]!) aM)
 (aN #[0]))
def CT:=mQ 2 abr
def aan:SF:=
 (ak (bJ (dR (aK Qn (0) #[0])) (aN (aK qU #[0] (aK jY (aK qU #[0] (0)) (aK TX #[10] #[30])))) aM)
 (aN (aK jY (0) (aK TX #[10] #[30]))))
def Rh:=mQ 1 aan
def mF:SF:=
 (bJ (dR (Yv true "holders" (1:) (0))) (eY "NoOwner") aM)
def jM:=mQ 2 mF
def Bc:SF:=
 (aN (eO (Ka "held" (0)) (aX [3,4,5]) [3,4,5] (mX #[(3)=(1)] #[(4)=(2)]) (5:)))
def vR:=mQ 6 Bc
def cG:TabMV:=[("Rights",.q 3 vR)]
def uK:SF:=
 (aN (aK Ve (dG iQ (aD cG (0) #[(1:),(2:)])) #[0]))
def pO:=mQ 3 uK
def uh:TabMV:=[("Rights",.q 3 pO)]
def rZ:SF:=
 (bJ (fV (fH (aD uh (aY "rights" (0)) #[(1:),(2:)]))) (eY "NoRight") aM)
def mK:=mQ 3 rZ
def ug:SF:=
 (ak (aau jk "owner_count" (0) #[1])
 (ak (Ww "holders" (0) (gA "owner_count" (0)) (qC (.bool true)))
 (aN (gA "owner_count" (0)))))
def iY:=mG 1 ug
def pF:SF:=
 (ak (aV (au 4) (gOf (bh #[(1:),(2:),(3:)])))
 (ak (bJ (dR (Yv false "held" (4:) (0))) (eY "HasRight") aM)
 (Ww "held" (0) (4:) (qC (.bool true)))))
def jB:=mG 5 pF
def Fw:SF:=
 (aV (au 2) (gOf (Gu (cH (2)) (aX [4,5]) [4,5,6] gQ (JT (3) (aK cY (aK xM (aK cY (3) (5)) (qC cM)) #[1])) (au 6) [6] gQ (bh #[aK cY (4) (bh #[(6:),]),aK qU (5) (aK qU (6) (3))]))))
def ab7:SF:=
 (ak (aV (au 2) (gOf (uf #[bh #[bh bZ,(1:)],])))
 (ak (nR (cH (0:)) (au 3) Fw)
 (aN (eO (cH (2)) (aX [4,5]) [4,5] gQ (4:)))))
def Nq:=mQ 7 ab7
def IK:SF:=
 (aN (eO (cH (aQ Nq #[(0:),(1:)])) (au 2) [2] #[(aQ oZ #[(0:),(2:)])=(1)] (2:)))
def wJ:=mQ 3 IK
def Yc:SF:=
 (aN (aK wZ (aQ oZ #[(0:),(1:)]) (aQ oZ #[(1:),(0:)])))
def JF:=mQ 2 Yc
def ab6:SF:=
 (aN (aK qd (aQ JF #[(0:),(1:)]) (2)))
def sY:=mQ 3 ab6
def j7:SF:=
 (bJ (fV (fH (dG S9 (eO (cH (2)) (aX [5,6]) [5,6] gQ (aQ sY #[(4:),(6:),(3:)]))))) (aN (4:)) aM)
def zY:SF:=
 (ak (nR (cH (aQ wJ #[(0:),(1:)])) (au 4) j7)
 (eY "NoneFree"))
def qN:=mQ 7 zY
def rW:SF:=
 (aN (aD cG (aY "rights" (0)) #[(1:),(2:)])[0]!)
def mU:=mQ 3 rW
def iZ:TabMV:=[("Rights",.g 4 jB)]
def iD:TabMV:=[("Commons",.g 1 iY)]
def bW:TabMV:=[("Commons",.q 3 mU)]
def aO:TabMV:=[("Commons",.q 3 mK)]
def ao:TabMV:=[("Commons",.q 2 jM)]
def dZ:SF:=
 (ak (cA (gOf (aD ao (0) #[(1:),])))
 (ak (cA (gOf (aD aA (aY "grounds" (0)) #[(2:),])))
 (ak (bJ (fV (lZ qd qd (qC jE) (3) (qC lH))) (eY "BadExtra") aM)
 (ak (cA (gOf (aD aO (0) #[(1:),(2:)])))
 (ak (aV (au 4) (gOf (aQ qN #[aD bW (0) #[(1:),(2:)],(3:),aD bK (0) #[(2:),],aD bL (0) #[(2:),]])))
 (ak (aV (au 5) (cD iD (0) bZ))
 (ak (cA (cD iZ (aY "rights" (0)) #[(5:),(2:),(4:)]))
 (aN (bh #[(5:),(4:)])))))))))
def cV:=mG 6 dZ
def jQ:SF:=
 (ak (bJ (fV (lZ qd qd #[0] (1) (qC iH))) (eY "BadAllowance") aM)
 (ak (HF "allowances" (0) (gOf (1:)))
 (ak (HF "circles" (0) (gOf (bh #[aD fB (0) bZ,])))
 (aN (aD fB (0) bZ)))))
def fP:=mG 2 jQ
def lK:TabMV:=[("Grounds",.g 2 fP)]
def mH:SF:=
 (iz (cD lK (aY "grounds" (0)) #[(1:),]))
def iG:=mG 2 mH
def N8:SF:=
 (aN (eO (cH (aQ rM #[(2:),])) (aX [4,5]) [4,5] (mX (dR (aK Ae (4) (0))) (fH (aQ sY #[(1:),(5:),(3:)]))) (bh #[(4:),(5:)])))
def CN:=mQ 6 N8
def Yl:SF:=
 (aN (dG lX (eO (Ip (0) (1)) (aX [2,3]) [2,3] gQ (aK wZ (2) (3)))))
def qQ:=mQ 4 Yl
def Ey:SF:=
 (ak (aV (au 4) (gOf (aQ CN #[(0:),(1:),(2:),(3:)])))
 (bJ (fH (4)) (ak (aV (aX [5,6]) (gOf (4)[0]!))
 (Jq "Clash" ["ones","others","ear"] #[bh #[(0:),(1:)],bh #[(5:),(6:)],aQ qQ #[(1:),(6:)]])) aM))
def pq:=mQ 7 Ey
def mO:SF:=
 (cA (gOf (aQ pq #[(1:),(2:),aD bK (0) #[(3:),],aD bL (0) #[(3:),]])))
def iy:=mQ 4 mO
def Mj:SF:=
 (aN (Cm (aK yD (dG iQ (0)) (dG iQ (qC dO))) (dG Mh (eO (cH (0)) (au 1) [1] gQ (qOf (lZ qd qd #[0] (1) (qC cM)))))))
def uN:=mQ 2 Mj
def Ml:SF:=
 (bJ (fV (fH (aQ uN #[(0:),]))) (eY "BadEar") aM)
def rJ:=mQ 1 Ml
def bY:TabMV:=[("Commons",.q 4 iy)]
def gM:SF:=
 (ak (cA (gOf (aD ao (0) #[(1:),])))
 (ak (cA (gOf (aD aA (aY "grounds" (0)) #[(2:),])))
 (ak (cA (gOf (aQ rJ #[(3:),])))
 (ak (bJ #[(3)=(qC jO)] (eY "Bare") aM)
 (ak (bJ (dR (aK (inD false) (3) (aD cG (aY "rights" (0)) #[(1:),(2:)]))) (eY "HasRight") aM)
 (ak (cA (gOf (aD bY (0) #[(1:),(3:),(2:)])))
 (cA (cD iZ (aY "rights" (0)) #[(1:),(2:),(3:)]))))))))
def eE:=mG 4 gM
def zL:SF:=
 (Wd "held" (0) (bh #[(1:),(2:),(4:)]))
def wV:SF:=
 (ak (aV (au 3) (gOf (aD cG (0) #[(1:),(2:)])))
 (ak (bJ (fV (fH (3))) (eY "NoRight") aM)
 (ak (nR (cH (3:)) (au 4) zL)
 (aN (3:)))))
def oX:=mG 5 wV
def Ar:TabMV:=[("Rights",.g 3 oX)]
def jK:SF:=
 (ak (cA (gOf (aD ao (0) #[(1:),])))
 (ak (cA (gOf (aD aA (aY "grounds" (0)) #[(2:),])))
 (ak (cA (gOf (aD aO (0) #[(1:),(2:)])))
 (ak (bJ (fH (dG S9 (eO (cH (aD fG (aY "herd" (0)) #[uf #[(2:),],])) (aX [3,4]) [3,4] gQ (aK yD (aY "owner" (4)) (1))))) (eY "StillThere") aM)
 (iz (cD Ar (aY "rights" (0)) #[(1:),(2:)]))))))
def gG:=mG 5 jK
def rQ:SF:=
 (ak (aV (aX [2,3,4,5,6]) (gOf (1:)))
 (ak (uG jk (0) "owner" (gOf (2:)))
 (ak (uG jk (0) "ground" (gOf (3:)))
 (ak (uG jk (0) "due" (gOf (4:)))
 (ak (uG jk (0) "ear" (gOf (5:)))
 (uG jk (0) "alive" (gOf (6:))))))))
def nZ:=mG 7 rQ
def Rj:SF:=
 (ak (bJ #[(0)[0]! = #["born"]] (ak (aV (aX [1,2,3,4]) (gOf (0:)))
 (aN (bh #[(3:),(4:),qC .none,qC jO,qC (.bool true)]))) aM)
 (ak (aV (aX [1,3,4,5]) (gOf (0:)))
 (aN (bh #[(3:),(4:),qC .none,(5:),qC (.bool true)]))))
def Fl:=mQ 6 Rj
def jU:TabMV:=[("Beast",.g 2 nZ)]
def Gx:SF:=
 (ak (Em jk (0) "story" (JK #[(1:),]))
 (ak (uG jk (0) "mother" (gOf (Om #[(1)[0]! = #["born"]] (1)[1]! #[0])))
 (cA (cD jU (0) #[aQ Fl #[(1:),],]))))
def uQ:=mG 2 Gx
def yt:SF:=
 (ak (HF "beasts" (0) (yc "Beast" uQ #[(1:),]))
 (aN (dG iQ (aY "beasts" (0)))))
def rO:=mG 2 yt
def jV:TabMV:=[("Herd",.g 2 rO)]
def jR:SF:=
 (ak (cA (gOf (aD ao (0) #[(1:),])))
 (ak (cA (gOf (aD aA (aY "grounds" (0)) #[(2:),])))
 (ak (cA (gOf (aQ rJ #[(3:),])))
 (ak (cA (gOf (aD aO (0) #[(1:),(2:)])))
 (iz (cD jV (aY "herd" (0)) #[bh #[#["brought"],(1:),(2:),(3:)],]))))))
def gK:=mG 4 jR
def uM:SF:=
 (ak (bJ (fV (lZ qd qd #[1] (1) (dG iQ (aY "beasts" (0))))) (eY "NoBeast") aM)
 (aN (aY "beasts" (0))[aK qU (1) #[1]]!))
def lF:=mQ 2 uM
def fQ:TabMV:=[("Herd",.q 2 lF)]
def xX:SF:=
 (ak (aV (au 2) (gOf (aD fQ (0) #[(1:),])))
 (ak (bJ (fV (fH (aY "alive" (2)))) (eY "Dead") aM)
 (aN (2:))))
def sU:=mQ 3 xX
def bD:TabMV:=[("Herd",.q 2 sU)]
def sV:SF:=
 (ak (aV (au 2) (gOf (aD bD (0) #[(1:),])))
 (ak (bJ (dR (yK false .none (aY "due" (2)))) (eY "Unmarked") aM)
 (aN (2:))))
def oU:=mQ 3 sV
def aZ:TabMV:=[("Herd",.q 2 oU)]
def nu:SF:=
 (ak (aV (au 2) (gOf (aD aZ (aY "herd" (0)) #[(1:),])))
 (iz (cD jV (aY "herd" (0)) #[bh #[#["born"],(1:),gA "owner" (2),gA "ground" (2)],])))
def jG:=mG 3 nu
def Lz:SF:=
 (aN (dG lX (eO (Es 0 (0)) (aX [2,3]) [2,3] gQ (Om #[(2)=(1)] (aK cY (3) #[1]) (3:)))))
def zj:=mQ 4 Lz
def Ox:SF:=
 (ak (aV (aX [2,3,4,5,6]) (gOf (0:)))
 (ak (aV (au 7) (gOf (1)[0]!))
 (ak (bJ #[(7)=#["cut"]] (aat 4 5 (gOf (1)[1]!)) (bJ #[(7)=#["torn"]] (aV (au 5) (gOf (aQ zj #[(5:),(1)[1]!]))) (bJ #[(7)=#["sold"]] (ak (aV (au 2) (gOf (1)[1]!))
 (aat 4 5 (gOf (1)[2]!))) (bJ #[(7)=#["moved"]] (aV (au 3) (gOf (1)[1]!)) (bJ #[(7)=#["followed"]] (ak (aV (au 2) (gOf (1)[1]!))
 (aV (au 3) (gOf (1)[2]!))) (bJ #[(7)=#["passed"]] (aV (au 2) (gOf (1)[1]!)) (bJ #[(7)=#["died"]] (aV (au 6) (gOf (qC (.bool false)))) aM)))))))
 (aN (bh #[(2:),(3:),(4:),(5:),(6:)])))))
def Di:=mQ 8 Ox
def Ea:SF:=
 (aN (bh #[gA "owner" (0),gA "ground" (0),gA "due" (0),gA "ear" (0),gA "alive" (0)]))
def xU:=mQ 1 Ea
def nH:TabMV:=[("Beast",.q 1 xU)]
def Bb:SF:=
 (ak (HF "story" (0) (gOf (1:)))
 (cA (cD jU (0) #[aQ Di #[aD nH (0) bZ,(1:)],])))
def nJ:=mG 2 Bb
def bG:TabMV:=[("Beast",.g 2 nJ)]
def oW:SF:=
 (ak (aV (au 2) (gOf (aD bD (aY "herd" (0)) #[(1:),])))
 (ak (aV (au 3) (gOf (aQ qQ #[gA "ear" (2),aD bW (0) #[gA "owner" (2),gA "ground" (2)]])))
 (ak (cA (gOf (aD bY (0) #[gA "owner" (2),(3:),gA "ground" (2)])))
 (ak (cA (cD bG (2) #[bh #[#["cut"],(3:)],]))
 (aN (3:))))))
def jW:=mG 4 oW
def jx:SF:=
 (ak (aV (au 3) (gOf (aD bD (aY "herd" (0)) #[(1:),])))
 (ak (bJ (fV (lZ qd Qn #[0] (2) (dG iQ (qC dO)))) (eY "NoPlace") aM)
 (ak (bJ (dR (aK geD (aY "ear" (3))[(2)]! (qC cM))) (eY "Deepest") aM)
 (ak (cA (cD bG (3) #[bh #[#["torn"],(2:)],]))
 (aN (gA "ear" (3)))))))
def fY:=mG 4 jx
def wX:SF:=
 (ak (cA (gOf (aD fQ (0) #[(1:),])))
 (aN (eO (cH (aD dX (0) bZ)) (aX [2,3]) [2,3] (mX #[(aY "mother" (3))=(1)] (dR (yK false .none (aY "due" (3))))) (bh #[(2:),(3:)]))))
def sO:=mQ 4 wX
def Bh:TabMV:=[("Herd",.q 2 sO)]
def sH:SF:=
 (cA (cD bG (4) #[bh #[#["followed"],gA "owner" (2),gA "ground" (2)],]))
def u6:SF:=
 (ak (aV (au 2) (gOf (aD fQ (0) #[(1:),])))
 (nR (cH (aD Bh (0) #[(1:),])) (aX [3,4]) sH))
def pP:=mG 5 u6
def iW:TabMV:=[("Herd",.g 2 pP)]
def fX:SF:=
 (ak (aV (au 3) (gOf (aD aZ (aY "herd" (0)) #[(1:),])))
 (ak (cA (gOf (aD ao (0) #[(2:),])))
 (ak (bJ #[(aY "owner" (3))=(2)] (eY "SameOwner") aM)
 (ak (cA (gOf (aD aO (0) #[(2:),gA "ground" (3)])))
 (ak (aV (au 4) (gOf (aQ qQ #[gA "ear" (3),aD bW (0) #[(2:),gA "ground" (3)]])))
 (ak (cA (gOf (aQ pq #[(2:),(4:),aD dw (0) #[(1:),gA "ground" (3)],aD bL (0) #[gA "ground" (3),]])))
 (ak (cA (cD bG (3) #[bh #[#["sold"],(2:),(4:)],]))
 (ak (cA (cD iW (aY "herd" (0)) #[(1:),]))
 (aN (4:))))))))))
def dU:=mG 5 fX
def fW:SF:=
 (ak (aV (au 3) (gOf (aD aZ (aY "herd" (0)) #[(1:),])))
 (ak (cA (gOf (aD aA (aY "grounds" (0)) #[(2:),])))
 (ak (aV (au 4) (gOf (gA "ground" (3))))
 (ak (bJ #[(4)=(2)] (eY "SameGround") aM)
 (ak (cA (gOf (aD aO (0) #[gA "owner" (3),(2:)])))
 (ak (cA (gOf (aD bY (0) #[gA "owner" (3),gA "due" (3),(2:)])))
 (ak (cA (cD bG (3) #[bh #[#["moved"],(2:)],]))
 (ak (cA (cD iW (aY "herd" (0)) #[(1:),]))
 (aN (4:))))))))))
def dW:=mG 5 fW
def sS:SF:=
 (cA (cD bG (aD bD (aY "herd" (0)) #[(1:),]) #[bh #[#["died"],],]))
def lO:=mG 2 sS
def Lp:SF:=
 (ak (aV (au 2) (gOf (aQ rM #[(0:),])))
 (aN (Gu (Es 0 (2)) (aX [3,4]) [3,4,5] gQ (cH (RW (2) (kZ (aK cY (3) #[1])) uW)) (au 5) [5] (mX (dR (aK Ae (4)[0]! (5)[0]!)) (fH (aQ sY #[(4)[1]!,(5)[1]!,(1:)]))) (bh #[(4:),(5:)]))))
def vK:=mQ 6 Lp
def uX:SF:=
 (ak (aV (au 3) (gOf (aK wZ (aD bL (0) #[(1:),]) (aD bL (0) #[(2:),]))))
 (aN (aQ vK #[aK cY (aD bK (0) #[(1:),]) (aD bK (0) #[(2:),]),(3:)])))
def lB:=mQ 4 uX
def tR:SF:=
 (aax "circles" (0) (aK qU (3) #[1]) (2:))
def wg:SF:=
 (ak (aV (au 2) (gOf (dG lX (1))))
 (ak (nR (cH (1:)) (au 3) tR)
 (aN (1:))))
def lY:=mG 4 wg
def gW:TabMV:=[("Grounds",.g 2 lY)]
def ux:SF:=
 (ak (aV (au 3) (gOf (aD bx (0) #[(1:),])))
 (ak (aV (au 4) (gOf (aD bx (0) #[(2:),])))
 (ak (bJ (dR (aK (inD false) (2) (3))) (eY "Together") aM)
 (iz (cD gW (0) #[dG Mp (aK cY (3) (4)),])))))
def lJ:=mG 5 ux
def yx:TabMV:=[("Grounds",.g 3 lJ)]
def oJ:TabMV:=[("Commons",.q 3 lB)]
def jL:SF:=
 (ak (cA (gOf (aD aA (aY "grounds" (0)) #[(2:),])))
 (ak (bJ (dR (aK (inD false) (2) (aD bF (0) #[(1:),]))) (eY "Together") aM)
 (ak (aV (au 3) (gOf (aD oJ (0) #[(1:),(2:)])))
 (ak (bJ (fH (3)) (ak (aV (aX [4,5]) (gOf (3)[0]!))
 (Jq "Clash" ["ones","others","ear"] #[(4:),(5:),aQ qQ #[(4)[1]!,(5)[1]!]])) aM)
 (iz (cD yx (aY "grounds" (0)) #[(1:),(2:)]))))))
def gH:=mG 6 jL
def qM:SF:=
 (ak (aV (au 2) (gOf (eO (cH (aD bx (0) #[(1:),])) (au 3) [3] (dR (aK Ae (3) (1))) (3:))))
 (ak (bJ (fV (fH (2))) (eY "Alone") aM)
 (ak (cA (cD gW (0) #[uf #[(1:),],]))
 (iz (cD gW (0) #[(2:),])))))
def jC:=mG 4 qM
def pN:TabMV:=[("Grounds",.g 2 jC)]
def qJ:SF:=
 (iz (cD pN (aY "grounds" (0)) #[(1:),]))
def j8:=mG 2 qJ
def u9:SF:=
 (aas jk (0) "held" (qDc (Ka "held" (0)) (aX [3,4,5]) [3,4,5] (bh #[Om #[(3)=(1)] (2:) (3:),(4:),(5:)])))
def o7:=mG 6 u9
def Gi:SF:=
 (aN (eO (cH (aD dX (0) bZ)) (aX [2,3]) [2,3] #[(aY "owner" (3))=(1)] (bh #[(2:),(3:)])))
def zQ:=mQ 4 Gi
def DK:TabMV:=[("Herd",.q 2 zQ)]
def tV:TabMV:=[("Rights",.g 3 o7)]
def uo:SF:=
 (cA (cD bG (5) #[bh #[#["passed"],(2:)],]))
def jT:SF:=
 (ak (cA (gOf (aD ao (0) #[(1:),])))
 (ak (cA (gOf (aD ao (0) #[(2:),])))
 (ak (bJ #[(1)=(2)] (eY "SameOwner") aM)
 (ak (cA (cD tV (aY "rights" (0)) #[(1:),(2:)]))
 (ak (aV (au 3) (gOf (aD DK (aY "herd" (0)) #[(1:),])))
 (ak (nR (cH (3:)) (aX [4,5]) uo)
 (ak (Wd "holders" (0) (1:))
 (aN (eO (cH (3)) (aX [4,5]) [4,5] gQ (4:))))))))))
def gj:=mG 6 jT
def wC:SF:=
 (ak (bJ #[(0)=#["ear"]] (aN (Cm (zf .tuple (1)) (aQ uN #[(1:),]))) aM)
 (ak (aV (au 2) (gOf (Om #[(0)=#["place"]] (aK qU (dG iQ (qC dO)) #[1]) (qC pQ))))
 (aN (Cm (zf .int (1)) (qOf (lZ qd qd #[0] (1) (2)))))))
def jg:=mQ 3 wC
def abZ:SF:=
 (ak (bJ (Qh #[(dG iQ (0))=#[0]] (dR (acQ true (vN rH) (0)[0]!))) (aN (qC (.bool false))) aM)
 (ak (aV (au 1) (gOf (afo (vN rH) (0)[0]!)))
 (ak (aV (au 2) (gOf (RW (0) (kZ #[1]) uW)))
 (aN (Cm (aK yD (dG iQ (2)) (dG iQ (1))) (dG Mh (eO (Ip (1) (2)) (aX [3,4]) [3,4] gQ (aQ jg #[(3:),(4:)]))))))))
def zM:=mQ 5 abZ
def tX:TabMV:=[("Commons",.g 4 cV)]
def uV:TabMV:=[("Commons",.g 3 gj)]
def zW:TabMV:=[("Commons",.g 2 j8)]
def xY:TabMV:=[("Commons",.g 3 gH)]
def Aq:TabMV:=[("Commons",.g 2 lO)]
def yZ:TabMV:=[("Commons",.g 3 dW)]
def zA:TabMV:=[("Commons",.g 3 dU)]
def yS:TabMV:=[("Commons",.g 3 fY)]
def Bx:TabMV:=[("Commons",.g 2 jW)]
def zX:TabMV:=[("Commons",.g 2 jG)]
def yd:TabMV:=[("Commons",.g 4 gK)]
def yq:TabMV:=[("Commons",.g 3 gG)]
def yu:TabMV:=[("Commons",.g 4 eE)]
def qO:TabMV:=[("Commons",.g 2 iG)]
def cU:SF:=
 (ak (bJ (fV (fH (aQ zM #[(1:),]))) (eY "BadDeed") aM)
 (ak (aeM 2 3 (gOf (1:)))
 (ak (bJ #[(2)=#["owner"]] (iz (cD iD (0) bZ)) aM)
 (ak (bJ #[(2)=#["ground"]] (iz (cD qO (0) #[(3)[0]!,])) aM)
 (ak (bJ #[(2)=#["enrol"]] (iz (cD yu (0) #[(3)[0]!,(3)[1]!,(3)[2]!])) aM)
 (ak (bJ #[(2)=#["leave"]] (iz (cD yq (0) #[(3)[0]!,(3)[1]!])) aM)
 (ak (bJ #[(2)=#["bring"]] (iz (cD yd (0) #[(3)[0]!,(3)[1]!,(3)[2]!])) aM)
 (ak (bJ #[(2)=#["bear"]] (iz (cD zX (0) #[(3)[0]!,])) aM)
 (ak (bJ #[(2)=#["cut"]] (iz (cD Bx (0) #[(3)[0]!,])) aM)
 (ak (bJ #[(2)=#["tear"]] (iz (cD yS (0) #[(3)[0]!,(3)[1]!])) aM)
 (ak (bJ #[(2)=#["sell"]] (iz (cD zA (0) #[(3)[0]!,(3)[1]!])) aM)
 (ak (bJ #[(2)=#["move"]] (iz (cD yZ (0) #[(3)[0]!,(3)[1]!])) aM)
 (ak (bJ #[(2)=#["die"]] (iz (cD Aq (0) #[(3)[0]!,])) aM)
 (ak (bJ #[(2)=#["unite"]] (iz (cD xY (0) #[(3)[0]!,(3)[1]!])) aM)
 (ak (bJ #[(2)=#["part"]] (iz (cD zW (0) #[(3)[0]!,])) aM)
 (ak (bJ #[(2)=#["pass"]] (iz (cD uV (0) #[(3)[0]!,(3)[1]!])) aM)
 (iz (cD tX (0) #[(3)[0]!,(3)[1]!,(3)[2]!]))))))))))))))))))
def bO:=mG 4 cU
def xg:TabMV:=[("Commons",.g 2 bO)]
def Ht:SF:=
 (ak (aV (au 2) (cD xg (aY "commons" (0)) #[(1:),]))
 (ak (HF "kept" (0) (gOf (1:)))
 (aN (2:))))
def ni:=mG 3 Ht
def WL:SF:=
 (aN (Cm (zf .int (0)) (Wg (zf .bool (0)))))
def JW:=mQ 1 WL
def Uo(r:Mo->List Dat->Out Dat):SF:=
 (bJ (fV (fH (aQ r #[(2:),(3:)]))) (aN (qC (.bool false))) aM)
def JQ(r:Mo->List Dat->Out Dat):SF:=
 (ak (bJ (dR (yK false .none (1))) (aN (yK false .none (0))) aM)
 (ak (bJ (dR (yK false (.bool true) (1))) (aN (yK false (.bool true) (0))) aM)
 (ak (bJ (dR (yK false (.bool false) (1))) (aN (yK false (.bool false) (0))) aM)
 (ak (bJ (fH (zf .int (1))) (aN (Cm (aQ JW #[(0:),]) (aK yD (0) (1)))) aM)
 (ak (bJ (fH (zf .str (1))) (aN (Cm (zf .str (0)) (aK yD (0) (1)))) aM)
 (ak (bJ (mX (fH (zf .tuple (1))) (fV (fH (zf .tuple (0))))) (aN (qC (.bool false))) aM)
 (ak (bJ (mX (fH (zf .list (1))) (fV (fH (zf .list (0))))) (aN (qC (.bool false))) aM)
 (ak (bJ (dR (aK Ae (dG iQ (0)) (dG iQ (1)))) (aN (qC (.bool false))) aM)
 (ak (nR (Ip (0:) (1:)) (aX [2,3]) (Uo r))
 (aN (qC (.bool true))))))))))))
def cR:Nat->Mo->List Dat->Out Dat
 |0=>λ_ _=>.bad
 |n+1=>mQ 4 (JQ (cR n))
def FW:SF:=
 (aN (aK cY (aD nH (0) bZ) (bh #[gA "mother" (0),dG lX (aY "story" (0))])))
def yX:=mQ 1 FW
def yh:SF:=
 (aN (J5 "holders" (0)))
def rR:=mQ 1 yh
def vZ:SF:=
 (aN (J5 "held" (0)))
def qj:=mQ 1 vZ
def uP:TabMV:=[("Rights",.q 1 qj)]
def wu:TabMV:=[("Commons",.q 1 rR)]
def xq:TabMV:=[("Beast",.q 1 yX)]
def Am:SF:=
 (ak (aV (au 1) (gOf (eO (JT #[1] (aK cY (aD fB (aY "grounds" (0)) bZ) #[1])) (au 3) [3] gQ (bh #[aD eG (aY "grounds" (0)) #[(3:),],dG lX (aD bF (0) #[(3:),])]))))
 (ak (aV (au 2) (gOf (eO (cH (aY "beasts" (aY "herd" (0)))) (au 4) [4] gQ (aD xq (4) bZ))))
 (aN (bh #[aD wu (0) bZ,(1:),aD uP (aY "rights" (0)) bZ,(2:)]))))
def j9:=mQ 5 Am
def zF:TabMV:=[("Commons",.q 1 j9)]
def Im:SF:=
 (aN (aD zF (aY "commons" (0)) bZ))
def pY:=mQ 1 Im
def Qx:SF:=
 (ak (aV (au 1) (gOf (eO (Ip (qC dO) (0)) (aX [2,3]) [2,3] (dR (aK Ve (3) #[0])) (abB (2) (3)))))
 (aN (Om (fH (1)) (qSM BJ #[" "] (1)) (qC wF))))
def Fd:=mQ 4 Qx
def rB:SF:=
 (ak (bJ #[(0)=#["ear"]] (aN (aQ Fd #[(1:),])) aM)
 (ak (bJ #[(0)=#["place"]] (aN (qC dO)[(1)]!) aM)
 (aN (dG abH (1)))))
def cO:=mQ 2 rB
def NK:SF:=
 (ak (bJ (fV (fH (aQ zM #[(0:),]))) (eY "BadDeed") aM)
 (ak (aV (au 1) (gOf (0)[0]!))
 (aN (qSM BJ #[" "] (aK cY (uf #[(1:),]) (eO (Ip (afo (vN rH) (1)) (RW (0) (kZ #[1]) uW)) (aX [2,3]) [2,3] gQ (aQ cO #[(2:),(3:)])))))))
def jX:=mQ 4 NK
def Io:SF:=
 (aN (qSM BJ (qC (.str "\n")) (eO (cH (aY "kept" (0))) (au 1) [1] gQ (aQ jX #[(1:),]))))
def BX:=mQ 2 Io
def bB:TabMV:=[("Commons",.q 2 fL),("Book",.q 2 lQ)]
def Ir:SF:=
 (ak (aV (au 2) (gOf #[""]))
 (ak (T8 (cA (gOf (aD bB (0) #[(1:),]))) [⟨"NoGround",λx=>IW.lookup x,none,[(2,(.con (.str "NoGround")))]⟩])
 (aN (aK yD (2) #["NoGround"]))))
def tH:=mQ 3 Ir
def bA:TabMV:=[("Commons",.q 1 j9),("Book",.q 1 pY)]
def fj:TabMV:=[("Book",.q 1 zK)]
def FJ:TabMV:=[("Book",.q 1 BX)]
def Ov:SF:=
 (ak (UJ [] (aD bB (0) #[aK cY (3) #[1],]))
 (bJ (fV (fH (aQ (cR 10) #[aD bB (0) #[aK cY (3) #[1],],aD bB (1) #[aK cY (3) #[1],]]))) (aN (qC (.bool false))) aM))
def Ow:SF:=
 (bJ (fV (fH (aQ tH #[(0:),(4:)]))) (aN (qC (.bool false))) aM)
def O4:SF:=
 (bJ (fV (fH (aQ (cR 10) #[aD bB (0) #[aK cY (3) #[1],],aD bB (1) #[aK cY (3) #[1],]]))) (aN (qC (.bool false))) aM)
def Yd:SF:=
 (ak (bJ (Qh (fV (fH (aQ (cR 10) #[aD fj (0) bZ,(2:)]))) (fV (fH (aQ (cR 10) #[aD bA (0) bZ,aD bA (1) bZ])))) (aN (qC (.bool false))) aM)
 (ak (nR (vO (aK xM #[3] (dG iQ (aD bA (1) bZ)[1]!))) (au 3) O4)
 (ak (nR (cH (bh #[#[0],aK cY (dG iQ (aD bA (1) bZ)[1]!) #[1]])) (au 4) Ow)
 (sWo 5 (aD bA (0) bZ)
 (ak (nR (vO (aK xM #[3] (dG iQ (aD bA (1) bZ)[1]!))) (au 3) Ov)
 (ak (UJ [] (aD fj (0) bZ))
 (ak (bJ (fV (fH (aQ (cR 10) #[aD bA (0) bZ,aD bA (1) bZ]))) (aN (qC (.bool false))) aM)
 (aN (Cm (aQ (cR 10) #[aD FJ (0) bZ,qSM BJ (qC (.str "\n")) (eO (cH (2)) (au 6) [6] gQ (aQ jX #[(6:),]))]) (aQ (cR 10) #[aD fj (0) bZ,(2:)]))))))))))
def Fb:=mQ 7 Yd
def YC:KF:=
 (Vn (Ru ["BadEar","Bare","BadAllowance"]) (Vn (Vk Ws (Ru ["BadExtra","NoPlace","Deepest"])) (Vn (Vk Ws (Ru ["NoOwner","NoGround","NoBeast"])) (Vn (Vk Ws (Ru ["NoRight","HasRight","StillThere"])) (Vn (Vk Ws (Ru ["Dead","Unmarked","SameOwner"])) (Vn (Vk Ws (Ru ["SameGround","Together","Alone"])) (Vn (Vk Ws (Ru ["NoneFree","BadDeed","BadLine"])) (Vn (Vk Ws (Ru ["NoStand"])) (Vk Ws (Ru ["Clash"]))))))))))
def rE:Str->Option (List Bool):=aoi ktH YC
def cW:TabMV:=[("Commons",.g 2 bO),("Book",.g 2 ni)]
def Jz:SF:=
 (ak (aV (au 2) (gOf (qC .none)))
 (ak (aV (au 3) (gOf (uf bZ)))
 (ak (T8 (aV (au 2) (cD cW (0) #[(1:),])) [⟨"Clash",λx=>Bp.lookup x,some 4,[(3,(.kin rE)),(2,(.flds ["ones","others","ear"]))]⟩,⟨"CommonError",λx=>nM.lookup x,some 4,[(3,(.kin rE))]⟩])
 (aN (bh #[(3:),(2:)])))))
def qR:=mG 5 Jz
def La:TabMV:=[("Book",.g 2 ni)]
def DG:SF:=
 (cA (cD La (0) #[(3:),]))
def wB:SF:=
 (ak (bJ (fV (lZ qd qd #[0] (1) (dG iQ (aY "kept" (0))))) (eY "NoStand") aM)
 (ak (aV (au 2) (gOf (RW (aY "kept" (0)) uW (kZ (1)))))
 (ak (uG jk (0) "commons" (yc "Commons" fu bZ))
 (ak (Em jk (0) "kept" (JK bZ))
 (nR (cH (2:)) (au 3) DG)))))
def pX:=mG 4 wB
def zB:TabMV:=[("Book",.g 2 pX)]
def V2:SF:=
 (ak (aV (au 2) (gOf #[""]))
 (ak (aV (au 3) (gOf (qC .none)))
 (ak (T8 (aV (au 3) (cD zB (0) #[(1:),])) [⟨"NoStand",λx=>KZ.lookup x,none,[(2,(.con (.str "NoStand")))]⟩])
 (aN (bh #[(2:),(3:)])))))
def pH:=mG 4 V2
def wO:SF:=
 (ak (aV (au 6) (Ce qR #[(4:),(5:)]))
 (ak (bJ #[(6)[0]! = (uf bZ)] (Lh 1 (5:)) aM)
 (Uc (afk (U5 (Wr (Jl (cR 10) (uR (Ce qR #[(0:),(5:)]) (uR (gOf (6:)) QX))))) (abF (fV (fH (aQ Fb #[(0:),(4:),(1:)]))))) (aN (qC .none)) aM)))
def N5:SF:=
 (ak (Uc (U5 (Wr (Jl (cR 10) (uR (Ce pH #[(0:),(2:)]) (uR (gOf (bh #[#[""],qC .none])) QX))))) (aN (qC .none)) aM)
 (ak (aV (au 4) (yc "Commons" fu bZ))
 (ak (Pn 1 (slF (vo 1) uW (kZ (2))))
 (ak (aaw 1 5 (cD cW (4) #[(5:),]))
 (ak (bJ (fV (fH (aQ Fb #[(0:),(4:),(1:)]))) (aN (qC .none)) aM)
 (ak (nR (cH (3:)) (au 5) wO)
 (aN (1:))))))))
def m9:=mG 7 N5
def QC:SF:=
 (ak (aV (au 2) (gOf (qC .none)))
 (ak (aV (au 3) (gOf #[""]))
 (ak (T8 (aV (au 2) (cD cW (0) #[(1:),])) [⟨"CommonError",λx=>nM.lookup x,none,[(3,(.con (.str "refused")))]⟩])
 (aN (bh #[(3:),(2:)])))))
def qF:=mG 4 QC
def oV:SF:=
 (ak (aV (au 4) (gOf (bh #[bh #[#["owner"],],bh #[#["ground"],aK jY (3) #[10]]])[aK jY (3) #[2]]!))
 (Uc (XC (R3 yD (R3 Fv (Ce qF #[(0:),(4:)]) #[0]) #[""])) (Vj 1 (4:)) aM))
def Ik:SF:=
 (ak (nR (vO #[120]) (au 3) oV)
 (iz (Ce m9 #[(0:),(1:),aK jY (aK Fy (2) #[13]) (aK cY (dG iQ (vo 1)) #[1]),uf #[bh #[#["owner"],],]])))
def tL:=mG 5 Ik
def Q7:SF:=
 (bJ (dR (yK true .none (vo 3))) (ak (aV (au 11) (gOf (aK jY (aK cY (aK Fy (6) #[11]) (aK yw (10) (aK cY (aK Fy (6) #[7]) #[1]))) (aK cY (dG iQ (vo 3)) #[1]))))
 (QZ 3 m9 (Bo (1:) (Bo (3:) (Bo (11:) (Xf (slF (2) (kZ (aK cY (10) #[3])) (kZ (aK cY (10) #[5]))))))))) aM)
def Yq:SF:=
 (cA (gOf (aD bB (1) #[aK cY (5) #[1],])))
def Ba:SF:=
 (Uc (XC (R3 yD (R3 Fv (Ce qF #[(1:),(4:)]) #[0]) #[""])) (Vj 3 (4:)) aM)
def Qp:SF:=
 (ak (aV (au 1) (yc "Book" wD bZ))
 (ak (aV (au 2) (gOf (aQ Ji #[RW (0) (kZ #[2]) (kZ #[36]),dG Yu (aQ CT #[(0:),#[0]])])))
 (ak (Yn 3 (JK bZ))
 (ak (nR (cH (2:)) (au 4) Ba)
 (ak (nR (vO (aK xM #[3] (dG iQ (aD bA (1) bZ)[1]!))) (au 5) Yq)
 (ak (aV (au 6) (gOf (aQ CT #[(0:),#[1]])))
 (ak (aV (au 7) (gOf (aQ Rh #[(6:),])))
 (ak (bJ (dR (aK Ae (aK jY (6) #[5]) #[1])) (aV (au 7) (gOf (aK qU (aK jY (aK Fy (6) #[5]) (aK cY (dG iQ (vo 3)) #[3])) #[1]))) aM)
 (ak (bJ (fV (lZ qd qd #[0] (7) (dG iQ (vo 3)))) (ak (Uc (afk (U5 (Wr (Jl (cR 10) (uR (Ce pH #[(1:),(7:)]) (uR (gOf (bh #[#["NoStand"],qC .none])) QX))))) (abF (fV (fH (ae7 (cR 10) (aD fj (1) bZ) (vo 3)))))) (aN (qC (.bool false))) aM)
 (aV (au 7) (gOf (dG iQ (vo 3))))) aM)
 (ak (aV (au 8) (gOf (aD fj (1) bZ)))
 (ak (aV (au 9) (gOf (dG HS (8))))
 (ak (QZ 3 m9 (Bo (1:) (Bo (3:) (Bo (7:) (Xf (slF (2) (kZ (dG Um #[5])) uW))))))
 (ak (bJ (dR (aK Ae (8) (9))) (aN (qC (.bool false))) aM)
 (ak (nR (vO #[2]) (au 10) Q7)
 (ak (bJ (mX (dR (yK true .none (vo 3))) #[(aK jY (6) #[8])=#[3]]) (QZ 3 tL (Bo (1:) (Bo (3:) (Bo (6:) bZ)))) aM)
 (ak (bJ (dR (yK false .none (vo 3))) (aN (qC (.bool false))) aM)
 (iz (afs (Jl (cR 10) (uR (Ce pH #[(1:),#[0]]) (uR (gOf (bh #[#[""],qC .none])) QX))) (gOf (aQ (cR 10) #[aD bA (1) bZ,bh #[uf bZ,uf bZ,uf bZ,uf bZ]]))))))))))))))))))))
def Ku:=mG 12 Qp
def aac:FnScope ["self","ones","others","ear"] ["self","ones","others","ear"] (defScope O9):=⟨rfl,rfl,rfl,#[[]],rfl,#[[]],#[[]]⟩
abbrev rX(N:List Str)(s:Stmt)(G:List (Str×GV))(B:List Str)(a:List (Str×TabMV))(b:List Str):Option SF:=rd ⟨N,defScope s,G,B,⟨a,jk,xmH,dfH,YJ⟩,b,true⟩ (defBody s)
abbrev rY(N:List Str)(s:Stmt)(G:List (Str×GV))(B:List Str)(a:List (Str×TabMV))(b:List Str):Option SF:=rdG ⟨N,defScope s,G,B,⟨a,jk,xmH,dfH,YJ⟩,b,true⟩ (defBody s)
def al0:FnScope ["_law_found","_law_due","_law_one","_law_other"] ["_law_found","_law_due"] (defScope VH):=⟨rfl,rfl,rfl,#[[]],rfl,#[[]],#[[]]⟩
def anT:FnScope ["_law_script","_law_book","_law_plan_here","_law_kept","_law_deed_here","_law_at","_law_cell_here","_law_count","_law_told","_law_copy","_law_turn","_law_again"] ["_law_script"] (defScope QJ):=⟨rfl,rfl,rfl,#[[]],rfl,#[[]],#[[]]⟩
def WD:rY ["self"] Jv [] [] [] []=some Bv:=#[_]
def Z8:rY ["self"] MK [] [] [] []=some DN:=#[_]
def acU:rY ["self"] Rv [] [] [] []=some Iv:=#[_]
def Xk:rY ["self"] Jw [("Herd",.cls 0 BZ),("Rights",.cls 0 wW),("Grounds",.cls 0 vq)] [] [] []=some Ak:=#[_]
def acS:rY ["self"] RN [("Commons",.cls 0 fu)] [] [] []=some Ja:=#[_]
def aaU:rX ["self"] Ny [] ["list"] [] []=some GD:=#[_]
def apW:rX ["_law_cell_here","_law_many","_law_base","_law_found","_law_k","_law_turn"] s_row [] ["range","abs"] [] ["_law_found"]=some afp:=#[_]
def ahQ:rX ["_law_figures","_law_mode","_law_figure"] acK [] ["tuple","max"] [] []=some Ul:=#[_]
def aqw:rX ["_law_cell_here","_law_figures"] aju [("_law_ear_by",.fq 2 uY),("_law_row",.fq 3 Cq)] [] [] []=some afe:=#[_]
def ac5:rX ["_law_head","_law_rows"] RB [] [] [] []=some IV:=#[_]
def ahi:rX ["_law_figure","_law_some"] Za [] [] [] []=some Oh:=#[_]
def anE:rX ["_law_ear_here","_law_figures","_law_found","_law_depth","_law_figure","_law_more"] af5 [] ["tuple","zip","max","min"] [] ["_law_found"]=some abC:=#[_]
def ahm:rX ["_law_figures","_law_mode","_law_base"] Yz [("_law_ear_by",.fq 2 uY),("_law_near",.fq 2 Ol)] [] [] []=some Pg:=#[_]
def apL:rX ["_law_figure","_law_many","_law_sure"] ajU [] ["max"] [] []=some aav:=#[_]
def ao5:rX ["_law_word","_law_one","_law_two","_law_parts","_law_counts","_law_base","_law_sure","_law_mark"] ahC [("_law_ref",.fq 3 jZ),("_law_mark_by",.fq 3 yO)] ["int"] [] []=some j6:=#[_]
def ao6:rX ["_law_cells","_law_head","_law_counts","_law_base","_law_begun_here","_law_plan_here","_law_at","_law_cell_here","_law_parts","_law_word","_law_one","_law_two","_law_owners","_law_grounds","_law_beasts"] ahG [("_law_deed",.fq 6 gJ),("_law_word_by",.fq 1 yN),("_law_row",.fq 3 Cq),("_law_begun",.fq 1 wA),("_law_ear",.fq 1 Vd)] ["enumerate","len"] [] ["_law_plan_here"]=some acC:=#[_]
def Xu:rX ["self"] JB [] ["len"] [] []=some vH:=#[_]
def aal:rX ["self","ground"] Mw [] [] [("many",fB)] []=some DY:=#[_]
def W0:rX ["self","ground"] Ju [("NoGround",.exc)] [] [("has",Ai)] []=some Ah:=#[_]
def Qe:rX ["self","ground"] Dh [] ["list"] [("need",aA)] []=some pJ:=#[_]
def Oq:rX ["self","ground"] Dj [] [] [("together",bx)] []=some pU:=#[_]
def ai6:rX ["rows"] acO [] ["sorted","set"] [] []=some T9:=#[_]
def Rq:rX ["self","number","beast"] Ed [] ["enumerate"] [] []=some vX:=#[_]
def X3:rX ["self","grounds","number","beast"] JL [] [] [("all_living",dX)] []=some Ao:=#[_]
def Nh:rX ["self","grounds","owner","ground","mark"] Af [] [] [] []=some uw:=#[_]
def Ij:rX ["self","left_out","ground","near","due","number","beast"] wM [("tidied",.fq 1 rM)] [] [("in_grounds",sG),("grazing",fG),("together",bF)] []=some kY:=#[_]
def NQ:rX ["self","ground"] Dd [] [] [("standing_but",dw)] []=some pC:=#[_]
def Nm:rX ["self","ground"] Aa [] [] [("need",aA)] []=some oG:=#[_]
def Xw:rX ["self","ground","near"] JD [] ["max"] [("together",bx),("allowance",eG)] []=some vM:=#[_]
def Xz:rX ["self","ground"] Jm [] [] [("room",uD)] []=some vP:=#[_]
def ahW:rX ["shallow","deep","low","high"] abD [] ["all","zip"] [] []=some Tn:=#[_]
def aj6:rX ["one","other","here","there"] aer [] ["sum","zip"] [] []=some Ym:=#[_]
def acR:rX ["ear","rows","room","holder","mark"] RG [("lacks",.fq 2 oZ),("deeper",.fq 2 Bw)] ["tuple","sorted"] [] []=some Iz:=#[_]
def Sh:rX ["self","ground","rows","room","number","beast"] Gf [("owners_of",.fq 3 tK)] [] [("grazing",fG),("together",bF),("room",bL),("standing",bK)] []=some rP:=#[_]
def Z9:rX ["self","ground"] Mz [] [] [("gather",ql)] []=some xR:=#[_]
def amP:rX ["_law_script","_law_k"] agc [] ["len"] [] []=some abr:=#[_]
def aqg:rX ["_law_cell_here"] ajn [] [] [] []=some aan:=#[_]
def Ln:rX ["self","owner"] za [("NoOwner",.exc)] [] [] []=some mF:=#[_]
def XD:rX ["self","owner","ground","holder","where","mark"] Jr [] [] [] []=some Bc:=#[_]
def Oi:rX ["self","owner","ground"] Cy [] ["len"] [("marks",cG)] []=some uK:=#[_]
def K8:rX ["self","owner","ground"] zU [("NoRight",.exc)] [] [("has_right",uh)] []=some rZ:=#[_]
def Nb:rY ["self"] Ac [] [] [] []=some ug:=#[_]
def O7:rY ["self","owner","ground","mark","row"] Dm [("HasRight",.exc)] [] [] []=some pF:=#[_]
def apx:rX ["ear","many","heads","depth","head","left","cut"] agx [("GREATEST_DEPTH",.con cM)] ["range","min"] [] []=some ab7:=#[_]
def ade:rX ["mark","extra","ear"] R6 [("lacks",.fq 2 oZ),("torn",.fq 2 Nq)] [] [] []=some IK:=#[_]
def alL:rX ["one","other"] aeE [("lacks",.fq 2 oZ)] ["max"] [] []=some Yc:=#[_]
def aor:rX ["one","other","room"] ahb [("apart",.fq 2 JF)] [] [] []=some ab6:=#[_]
def acH:rX ["mark","extra","rows","room","ear","owner","taken"] O5 [("NoneFree",.exc),("offspring",.fq 2 wJ),("meet",.fq 3 sY)] ["any"] [] []=some zY:=#[_]
def Kw:rX ["self","owner","ground"] zR [] [] [("marks",cG)] []=some rW:=#[_]
def Pu:rY ["self","elder","ground","extra","mark","heir"] Cz [("first_free",.fq 4 qN),("BadExtra",.exc),("FEWEST_EXTRA",.con jE),("MOST_EXTRA",.con lH)] [] [("add_right",iZ),("new_owner",iD),("room",bL),("standing",bK),("first_mark",bW),("need_right",aO),("need",aA),("need_owner",ao)] []=some dZ:=#[_]
def K7:rY ["self","allowance"] z9 [("BadAllowance",.exc),("GREATEST_ALLOWANCE",.con iH)] [] [("many",fB)] []=some jQ:=#[_]
def KD:rY ["self","allowance"] zH [] [] [("add_ground",lK)] []=some mH:=#[_]
def ag0:rX ["owner","ear","rows","room","holder","mark"] YQ [("meet",.fq 3 sY),("tidied",.fq 1 rM)] [] [] []=some N8:=#[_]
def alP:rX ["one","other","here","there"] adU [] ["tuple","zip","max"] [] []=some Yl:=#[_]
def ae0:rX ["owner","ear","rows","room","bars","holder","mark"] V5 [("Clash",.exi ["ones","others","ear"]),("joint",.fq 2 qQ),("barring",.fq 4 CN)] [] [] []=some Ey:=#[_]
def K9:rX ["self","owner","ear","ground"] zN [("ask_room",.fq 4 pq)] [] [("room",bL),("standing",bK)] []=some mO:=#[_]
def aiG:rX ["parts","depth"] abV [("GREATEST_DEPTH",.con cM),("PLACES",.con dO)] ["all","len"] [] []=some Mj:=#[_]
def aeS:rX ["parts"] Vq [("BadEar",.exc),("is_ear",.fq 1 uN)] [] [] []=some Ml:=#[_]
def Wu:rY ["self","owner","ground","mark"] Hf [("HasRight",.exc),("Bare",.exc),("BARE_EAR",.con jO),("need_ear",.fq 1 rJ)] [] [("add_right",iZ),("ask_ground",bY),("marks",cG),("need",aA),("need_owner",ao)] []=some gM:=#[_]
def aah:rY ["self","owner","ground","gone","mark"] MN [("NoRight",.exc)] [] [("marks",cG)] []=some wV:=#[_]
def Vp:rY ["self","owner","ground","number","beast"] Hw [("StillThere",.exc)] ["any"] [("drop",Ar),("grazing",fG),("need_right",aO),("need",aA),("need_owner",ao)] []=some jK:=#[_]
def Uq:rY ["self","stand","owner","ground","due","ear","alive"] FT [] [] [] []=some rQ:=#[_]
def akG:rX ["first","word","mother","owner","ground","ear"] aey [("BARE_EAR",.con jO)] [] [] []=some Rj:=#[_]
def acy:rY ["self","first"] Ql [("begun",.fq 1 Fl)] [] [("stand_so",jU)] []=some Gx:=#[_]
def Sq:rY ["self","first"] Ge [("Beast",.cls 1 uQ)] ["len"] [] []=some yt:=#[_]
def Uy:rY ["self","owner","ground","ear"] HD [("need_ear",.fq 1 rJ)] [] [("add_beast",jV),("need_right",aO),("need",aA),("need_owner",ao)] []=some jR:=#[_]
def acu:rX ["self","number"] Pk [("NoBeast",.exc)] ["len"] [] []=some uM:=#[_]
def aaf:rX ["self","number","beast"] Mq [("Dead",.exc)] [] [("known",fQ)] []=some xX:=#[_]
def aai:rX ["self","number","beast"] Mu [("Unmarked",.exc)] [] [("living",bD)] []=some sV:=#[_]
def WK:rY ["self","mother","cow"] Kf [] [] [("add_beast",jV),("marked",aZ)] []=some nu:=#[_]
def afB:rX ["ear","place","at","depth"] Uz [] ["tuple","enumerate"] [] []=some Lz:=#[_]
def ags:rX ["stand","event","owner","ground","due","ear","alive","word"] ZQ [("deepened",.fq 2 zj)] [] [] []=some Ox:=#[_]
def Z7:rX ["self"] Mv [] [] [] []=some Ea:=#[_]
def Xy:rY ["self","event"] Jk [("gone_on",.fq 2 Di)] [] [("stand_so",jU),("stand",nH)] []=some Bb:=#[_]
def aaj:rY ["self","beast","found","due"] MJ [("joint",.fq 2 qQ)] [] [("befall",bG),("ask_ground",bY),("first_mark",bW),("living",bD)] []=some oW:=#[_]
def WR:rY ["self","beast","place","found"] JM [("Deepest",.exc),("GREATEST_DEPTH",.con cM),("NoPlace",.exc),("PLACES",.con dO)] ["len"] [("befall",bG),("living",bD)] []=some jx:=#[_]
def aad:rX ["self","mother","number","beast"] M8 [] [] [("all_living",dX),("known",fQ)] []=some wX:=#[_]
def Oa:rY ["self","mother","beast","number","calf"] CK [] [] [("calves",Bh),("befall",bG),("known",fQ)] []=some u6:=#[_]
def XH:rY ["self","beast","buyer","found","due"] JX [("ask_room",.fq 4 pq),("joint",.fq 2 qQ),("SameOwner",.exc)] [] [("lead_calves",iW),("befall",bG),("room",bL),("standing_but",dw),("first_mark",bW),("need_right",aO),("need_owner",ao),("marked",aZ)] []=some fX:=#[_]
def Xg:rY ["self","beast","ground","found","left"] JZ [("SameGround",.exc)] [] [("lead_calves",iW),("befall",bG),("ask_ground",bY),("need_right",aO),("need",aA),("marked",aZ)] []=some fW:=#[_]
def aak:rY ["self","beast"] MF [] [] [("befall",bG),("living",bD)] []=some sS:=#[_]
def afF:rX ["rows","room","tidy","at","row","greater"] UG [("meet",.fq 3 sY),("tidied",.fq 1 rM)] ["enumerate"] [] []=some Lp:=#[_]
def Pq:rX ["self","ground","other","room"] Dk [("clashing",.fq 2 vK)] ["max"] [("standing",bK),("room",bL)] []=some uX:=#[_]
def Rr:rY ["self","grounds","circle","ground"] Ec [] ["tuple"] [] []=some wg:=#[_]
def VJ:rY ["self","ground","other","ones","others"] GP [("Together",.exc)] ["sorted"] [("enclose",gW),("together",bx)] []=some ux:=#[_]
def U6:rY ["self","ground","other","pairs","row","greater"] Hg [("Clash",.exi ["ones","others","ear"]),("joint",.fq 2 qQ),("Together",.exc)] [] [("unite",yx),("quarrels",oJ),("together",bF),("need",aA)] []=some jL:=#[_]
def Xh:rY ["self","ground","left","near"] Jf [("Alone",.exc)] [] [("enclose",gW),("together",bx)] []=some qM:=#[_]
def Yk:rY ["self","ground"] Jd [] [] [("part",pN)] []=some qJ:=#[_]
def NT:rY ["self","elder","heir","owner","ground","mark"] CQ [] [] [] []=some u9:=#[_]
def abb:rX ["self","owner","number","beast"] Qg [] [] [("all_living",dX)] []=some Gi:=#[_]
def Ro:rY ["self","elder","heir","passed","number","beast"] Ek [("SameOwner",.exc)] [] [("befall",bG),("owned",DK),("hand_over",tV),("need_owner",ao)] []=some jT:=#[_]
def ac9:rX ["kind","part","greatest"] RX [("PLACES",.con dO),("GREATEST_PART",.con pQ),("is_ear",.fq 1 uN)] ["isinstance","int","len","tuple"] [] []=some wC:=#[_]
def am9:rX ["deed","shape","parts","kind","part"] agN [("part_fits",.fq 2 jg),("SHAPES",.dic (vN rH))] ["all","zip","len"] [] []=some abZ:=#[_]
def abf:rY ["self","deed","word","parts"] Qi [("BadDeed",.exc),("fits",.fq 1 zM)] [] [("new_heir",tX),("pass_on",uV),("part",zW),("unite",xY),("die",Aq),("move",yZ),("sell",zA),("tear",yS),("cut",Bx),("bear",zX),("bring",yd),("leave",yq),("enrol",yu),("new_ground",qO),("new_owner",iD)] []=some cU:=#[_]
def af7:rY ["self","deed","answer"] ZV [] [] [("do",xg)] []=some Ht:=#[_]
def akL:rX ["_law_found"] aeK [] ["isinstance","bool","int"] [] []=some WL:=#[_]
def ao2(r:Mo->List Dat->Out Dat):rd ⟨["_law_found","_law_due","_law_one","_law_other"],defScope VH,[("_law_like",.fq 2 r),("_law_whole",.fq 1 JW)],["zip","len","isinstance","list","tuple","str","int"],⟨[],jk,xmH,dfH,YJ⟩,[],true⟩ (defBody VH)=some (JQ r):=#[_]
def abm:rX ["self"] NP [] ["tuple"] [("stand",nH)] []=some FW:=#[_]
def TV:rX ["self"] Fq [] ["list"] [] []=some yh:=#[_]
def Rm:rX ["self"] Ei [] ["list"] [] []=some vZ:=#[_]
def W7:rX ["self","grounds","beasts","ground","beast"] JC [] ["range","tuple"] [("all_rows",uP),("owners",wu),("told",xq),("many",fB),("together",bF),("allowance",eG)] []=some Am:=#[_]
def acY:rX ["self"] RK [] [] [("look",zF)] []=some Im:=#[_]
def aj8:rX ["ear","words","place","depth"] aec [("BARE_WORD",.con wF),("PLACES",.con dO)] ["zip"] [] []=some Qx:=#[_]
def X4:rX ["kind","part"] JV [("PLACES",.con dO),("shown",.fq 1 Fd)] ["str"] [] []=some rB:=#[_]
def agj:rX ["deed","word","kind","part"] Y4 [("SHAPES",.dic (vN rH)),("part_written",.fq 2 cO),("BadDeed",.exc),("fits",.fq 1 zM)] ["zip"] [] []=some NK:=#[_]
def ac1:rX ["self","deed"] R5 [("written",.fq 1 jX)] [] [] []=some Io:=#[_]
def ac2:rX ["_law_book","_law_ground","_law_word"] RM [("NoGround",.exc)] [] [("gather",bB)] []=some Ir:=#[_]
def ali:rX ["_law_book","_law_house","_law_kept","_law_at","_law_ground","_law_row_here","_law_deed_here"] aeg [("_law_like",.fq 2 (cR 10)),("written",.fq 1 jX),("_law_no_ground",.fq 2 tH)] ["range","min","len"] [("look",bA),("deeds",fj),("page",FJ),("gather",bB)] []=some Yd:=#[_]
def agy:kB (defScope O8) "_law_e" "_law_some" kcH (defBody O8)=some YC:=#[_]
def ak6:rY ["_law_house","_law_deed_here","_law_told","_law_kinds","_law_e"] aew [("Clash",.exi ["ones","others","ear"]),("_law_kind_of",.kin rE),("CommonError",.exc)] [] [("do",cW)] []=some Jz:=#[_]
def adg:rY ["self","count","again","deed"] R4 [("Commons",.cls 0 fu),("NoStand",.exc)] ["len"] [("do",La)] []=some wB:=#[_]
def aoJ:rY ["_law_book","_law_count","_law_word","_law_told"] afU [("NoStand",.exc)] [] [("back",zB)] []=some V2:=#[_]
def ag9:rY ["_law_book","_law_kept","_law_count","_law_plan_here","_law_house","_law_deed_here","_law_told"] Yx [("_law_right",.fq 3 Fb),("_law_like",.fq 2 (cR 10)),("_law_fully",.fg 2 qR),("Commons",.cls 0 fu),("_law_back",.fg 2 pH)] [] [("do",cW)] ["@_law_kept","_law_kept"]=some N5:=#[_]
def al8:rY ["_law_house","_law_deed_here","_law_told","_law_word"] adD [("CommonError",.exc)] [] [("do",cW)] []=some QC:=#[_]
def ac7:rY ["_law_book","_law_kept","_law_cell_here","_law_k","_law_deed_here"] RP [("_law_goes_on",.fg 4 m9),("_law_tried",.fg 2 qF)] ["len","range"] [] ["@_law_kept"]=some Ik:=#[_]
def aqn:rY ["_law_script","_law_book","_law_plan_here","_law_kept","_law_deed_here","_law_at","_law_cell_here","_law_count","_law_told","_law_copy","_law_turn","_law_again"] QJ [("_law_like",.fq 2 (cR 10)),("_law_back",.fg 2 pH),("_law_at_length",.fg 3 tL),("_law_goes_on",.fg 4 m9),("_law_cut",.fq 1 Rh),("_law_cell",.fq 2 CT),("_law_tried",.fg 2 qF),("_law_plan",.fq 2 Ji),("Book",.cls 0 wD)] ["range","len","list","min","abs"] [("look",bA),("deeds",fj),("gather",bB)] ["@_law_kept"]=some Qp:=#[_]
structure Top(w:World)(K:ave)(mg:Str->Option Value):Prop where
 ex:∃h:Heap,K.In h/\h.Ns mainGlobals mg
 c:Qo fa fn tbs exB w K
abbrev aj(w:World)(K:ave):aJ:=oM w K xsH jk
open Lean in
local macro_rules
| `(#[$n:num,$s:str,$v]) => `((($(mkIdent `hk) : $n ≤ $(mkIdent `k) := by omega) → mJ $(mkIdent `P) $(mkIdent `w) $(mkIdent `K) $(mkIdent `mg) $(mkIdent `base) (aj $(mkIdent `w) $(mkIdent `K)) $(mkIdent `k) $s $v))
| `(#[$n:num,$s:str,$m:str,$v]) => `((($(mkIdent `hk) : $n ≤ $(mkIdent `k) := by omega) → Gg $(mkIdent `P) $(mkIdent `w) $(mkIdent `K) $(mkIdent `mg) $(mkIdent `base) (aj $(mkIdent `w) $(mkIdent `K)) $(mkIdent `k) $s $m $v))
| `(#[$s:str,$v]) => `(mJ $(mkIdent `P) $(mkIdent `w) $(mkIdent `K) $(mkIdent `mg) $(mkIdent `base) (aj $(mkIdent `w) $(mkIdent `K)) $(mkIdent `k) $s $v)
| `(#[$s:str,$m:str,$v]) => `(Gg $(mkIdent `P) $(mkIdent `w) $(mkIdent `K) $(mkIdent `mg) $(mkIdent `base) (aj $(mkIdent `w) $(mkIdent `K)) $(mkIdent `k) $s $m $v)
section
variable{P:Program}{w:World}{K:ave}{mg:Str->Option Value}{base:Heap}{k:Nat}(T:Top w K mg)
include T
theorem Top.glo(i:Nat){x:Str}(h:fa[i]?=some (.glo x):=by rfl):mg x=some (.ref (He.ga K x)):=by
 let⟨_,X,G⟩:=T.ex
 exact He.glo_ok X G (T.c.pK i h)
theorem Top.free(i:Nat){x:Str}(h:fa[i]?=some (.free x):=by rfl):mg x=none:=by
 let⟨_,X,G⟩:=T.ex
 exact He.free_ok X G (T.c.pK i h)
theorem Top.int(i:Nat){x:Str}{j:Int}(h:fa[i]?=some (.int x j):=by rfl):∃t,mg x=some (.int j t):=by
 let⟨_,X,G⟩:=T.ex
 exact He.int_ok X G (T.c.pK i h)
theorem Top.str(i:Nat){x j:Str}(h:fa[i]?=some (.str x j):=by rfl):∃t,mg x=some (.str j t):=by
 let⟨_,X,G⟩:=T.ex
 exact He.str_ok X G (T.c.pK i h)
theorem xZ:#["GREATEST_DEPTH",.con cM]:=by
 let⟨t,h⟩:=T.int 170
 exact Ph h
theorem Xx:#["FEWEST_EXTRA",.con jE]:=by
 let⟨t,h⟩:=T.int 171
 exact Ph h
theorem abt:#["MOST_EXTRA",.con lH]:=by
 let⟨t,h⟩:=T.int 172
 exact Ph h
theorem Ly:#["GREATEST_ALLOWANCE",.con iH]:=by
 let⟨t,h⟩:=T.int 173
 exact Ph h
theorem Gq:#["PLACES",.con dO]:=ag7 (T.glo 174) (λH=>He.tupB_ok ((He.ba (He.ba (He.ba (He.ba T.c.more).1).1).1).2) H) rfl rfl ((He.ba (He.ba (He.ba T.c.more).1).1).2)
theorem Vt:#["BARE_EAR",.con jO]:=ag7 (T.glo 175) (λH=>He.tupB_ok ((He.ba (He.ba T.c.more).1).2) H) rfl rfl ((He.ba T.c.more).2)
theorem U8:#["GREATEST_PART",.con pQ]:=by
 let⟨t,h⟩:=T.int 176
 exact Ph h
theorem ab5:#["SHAPES",.dic (vN rH)]:=amf (T.glo 169) (He.ba (He.ba (He.ba (He.ba (He.ba T.c.more).1).1).1).1).2 (T.c.t.tab 0)
theorem ada:#["BARE_WORD",.con wF]:=by
 let⟨t,h⟩:=T.str 177
 exact anl h
theorem Vm:#["NoGround",.exc]:=iI (by rfl) (T.glo 121) (T.c.pK 122)
theorem ahx:#["NoOwner",.exc]:=iI (by rfl) (T.glo 123) (T.c.pK 124)
theorem ZJ:#["NoRight",.exc]:=iI (by rfl) (T.glo 125) (T.c.pK 126)
theorem Wx:#["HasRight",.exc]:=iI (by rfl) (T.glo 127) (T.c.pK 128)
theorem ae5:#["NoneFree",.exc]:=iI (by rfl) (T.glo 129) (T.c.pK 130)
theorem afG:#["BadExtra",.exc]:=iI (by rfl) (T.glo 131) (T.c.pK 132)
theorem XM:#["BadAllowance",.exc]:=iI (by rfl) (T.glo 133) (T.c.pK 134)
theorem ai7:#["BadEar",.exc]:=iI (by rfl) (T.glo 136) (T.c.pK 137)
theorem am4:#["Bare",.exc]:=iI (by rfl) (T.glo 138) (T.c.pK 139)
theorem aaR:#["StillThere",.exc]:=iI (by rfl) (T.glo 140) (T.c.pK 141)
theorem ahK:#["NoBeast",.exc]:=iI (by rfl) (T.glo 143) (T.c.pK 144)
theorem aoI:#["Dead",.exc]:=iI (by rfl) (T.glo 145) (T.c.pK 146)
theorem afj:#["Unmarked",.exc]:=iI (by rfl) (T.glo 147) (T.c.pK 148)
theorem agO:#["Deepest",.exc]:=iI (by rfl) (T.glo 149) (T.c.pK 150)
theorem ahu:#["NoPlace",.exc]:=iI (by rfl) (T.glo 151) (T.c.pK 152)
theorem R7:#["SameOwner",.exc]:=iI (by rfl) (T.glo 153) (T.c.pK 154)
theorem acq:#["SameGround",.exc]:=iI (by rfl) (T.glo 155) (T.c.pK 156)
theorem UW:#["Together",.exc]:=iI (by rfl) (T.glo 157) (T.c.pK 158)
theorem akO:#["Alone",.exc]:=iI (by rfl) (T.glo 159) (T.c.pK 160)
theorem Zv:#["BadDeed",.exc]:=iI (by rfl) (T.glo 161) (T.c.pK 162)
theorem Zu:#["NoStand",.exc]:=iI (by rfl) (T.glo 165) (T.c.pK 166)
theorem MP:#["CommonError",.exc]:=iI (by rfl) (T.glo 167) (T.c.pK 168)
theorem Top.Vx:Px K jk=true:=(He.ba (He.ba (He.ba (He.ba (He.ba (He.ba (He.ba (He.ba (He.ba T.c.more).1).1).1).1).1).1).1).1).2
theorem Top.xf:(YJ.all λp=>xsH.contains p.1&&Ye K p.1 p.2)=true:=(He.ba (He.ba (He.ba (He.ba (He.ba (He.ba (He.ba T.c.more).1).1).1).1).1).1).2
theorem Top.hs{Ms:List (Str×TabMV)}(h:Ih P w K mg base (aj w K) k Ms):W3 P w K mg base (aj w K) k ⟨Ms,jk,xmH,dfH,YJ⟩:=aqH h T.Vx (He.ba (He.ba (He.ba (He.ba (He.ba (He.ba (He.ba (He.ba T.c.more).1).1).1).1).1).1).1).2 (by rfl) T.xf
theorem Top.cls{c:Str}{fs:List Str}(h:jk.lookup c=some fs:=by rfl):Cls K (He.ga K c):=(acr T.Vx h).1
local macro_rules | `(tactic| nofun)=>`(tactic| first | (exact λ_ _ _ _ _ _ us hl=>match us,hl with | [_],_=>rfl) | (exact λ_ _ _ _ _ _ us hl=>match us,hl with | [_,_],_=>rfl) | (exact λ_ _ _ _ _ _ us hl=>match us,hl with | [_,_,_],_=>rfl) | (exact λ_ _ _ _ _ _ us hl=>match us,hl with | [_,_,_,_],_=>rfl) | (exact λ_ _ _ _ _ _ us hl=>match us,hl with | [_,_,_,_,_],_=>rfl) | (exact λ_ _ _ _ _ _ us hl=>match us,hl with | [_,_,_,_,_,_],_=>rfl) | (exact λ_ _ _ _ _ _ us hl=>match us,hl with | [_,_,_,_,_,_,_],_=>rfl) | (exact λ_ _ _ _ _ _ us hl=>match us,hl with | [_,_,_,_,_,_,_,_],_=>rfl))
open Lean in
local macro_rules
| `((List.toArray [$h:ident $i $j,$t,[$gs,*],[$bs,*],[$ms,*]]))=>do
 let T:=mkIdent `T
 let mut g <-`(trivial)
 for x in gs.getElems.reverse do
  match x with
  | `(($y))=>g <-`(⟨$y,$g⟩)
  |_=>g <-`(⟨$x $T,$g⟩)
 let mut b <-`(trivial)
 for x in bs.getElems.reverse do b <-`(⟨$(mkIdent `T.free) $x,$b⟩)
 let mut m <-`(trivial)
 for x in ms.getElems.reverse do
  let mut y <-`(trivial)
  match x with
  | `([$ys,*])=>for z in ys.getElems.reverse do y <-`(⟨$z $T,$y⟩)
  |_=>y <-`(⟨$x $T,$y⟩)
  m <-`(⟨$y,$m⟩)
 `($h $T $i $j $(mkIdent `hk) $t $g $b $m)
theorem vQ(i j:Nat){x:Str}{n:Nat}{f:Nat}(hk:f+1<=k){st:Stmt}{N d v B:List Str}{G:LsS GV}{m:List (Str×TabMV)}{a:SF}(h:rX N st G B m v=some a)(g:Gk P w K mg base (aj w K) f G)(b:FZ mg B)(y:Ih P w K mg base (aj w K) f m)(r:fn[i]?=some (dF x st):=by rfl)(s:fa[j]?=some (.glo x):=by rfl)(u:N.take n=d:=by rfl)(t:d.length=n:=by rfl)(S:FnScope N d (defScope st):=by exact⟨rfl,rfl,rfl,#[[]],rfl,#[[]],#[[]]⟩)(q:∀(kV doc z:Value) (o:Option Addr) (e p:Value) (l:List Value),l.length=d.length->bindArgs (PySem.W.fnOf x x (defArgs st) (defBody st) (defScope st) .none kV doc z o e p) ⟨l,[]⟩=pure (d.zip l):=by nofun):mJ P w K mg base (aj w K) k x (.fq n (mQ N.length a)):=by
 let⟨A,F⟩:=T.c.Vc i r
 exact t ▸ aip hk (T.glo j s) F.kp (FunD.bindsN (ps:=d) F q) (abP (EY F) S g b (T.hs y) h)
theorem wQ(i j:Nat){c m q:Str}{n:Nat}{f:Nat}(hk:f+1<=k){st:Stmt}{N d C B:List Str}{G:LsS GV}{o:List (Str×TabMV)}{a:SF}(h:rX N st G B o C=some a)(g:Gk P w K mg base (aj w K) f G)(b:FZ mg B)(D:Ih P w K mg base (aj w K) f o)(v:fn[i]?=some (dM c m q st):=by rfl)(x:fa[j]?=some (.meth c m):=by rfl)(A:xsH.contains c=true:=by rfl){s:List Str}(hc:jk.lookup c=some s:=by rfl)(u:((jk.lookup c).getD []).contains m=false:=by rfl)(z:N.take n=d:=by rfl)(y:d.length=n:=by rfl)(S:FnScope N d (defScope st):=by exact⟨rfl,rfl,rfl,#[[]],rfl,#[[]],#[[]]⟩)(t:∀(kV doc E:Value) (p:Option Addr) (e r:Value) (l:List Value),l.length=d.length->bindArgs (PySem.W.fnOf m q (defArgs st) (defBody st) (defScope st) .none kV doc E p e r) ⟨l,[]⟩=pure (d.zip l):=by nofun):Gg P w K mg base (aj w K) k c m (.q n (mQ N.length a)):=by
 let⟨H,F⟩:=T.c.Vc i v
 exact y ▸ arK hk A (T.cls hc) (T.c.pK j x) u (FunD.bindsN (ps:=d) F t) (abP (EY F) S g b (T.hs D) h)
theorem vG(i j:Nat){x:Str}{n:Nat}{f:Nat}(hk:f+1<=k){st:Stmt}{N d v B:List Str}{G:LsS GV}{m:List (Str×TabMV)}{a:SF}(h:rY N st G B m v=some a)(g:Gk P w K mg base (aj w K) f G)(b:FZ mg B)(y:Ih P w K mg base (aj w K) f m)(r:fn[i]?=some (dF x st):=by rfl)(s:fa[j]?=some (.glo x):=by rfl)(u:N.take n=d:=by rfl)(t:d.length=n:=by rfl)(S:FnScope N d (defScope st):=by exact⟨rfl,rfl,rfl,#[[]],rfl,#[[]],#[[]]⟩)(q:∀(kV doc z:Value) (o:Option Addr) (e p:Value) (l:List Value),l.length=d.length->bindArgs (PySem.W.fnOf x x (defArgs st) (defBody st) (defScope st) .none kV doc z o e p) ⟨l,[]⟩=pure (d.zip l):=by nofun):mJ P w K mg base (aj w K) k x (.fg n (mG N.length a)):=by
 let⟨A,F⟩:=T.c.Vc i r
 exact t ▸ arG hk (T.glo j s) F.kp (FunD.bindsN (ps:=d) F q) (V1 (EY F) S g b (T.hs y) h)
theorem wG(i j:Nat){c m q:Str}{n:Nat}{f:Nat}(hk:f+1<=k){st:Stmt}{N d C B:List Str}{G:LsS GV}{o:List (Str×TabMV)}{a:SF}(h:rY N st G B o C=some a)(g:Gk P w K mg base (aj w K) f G)(b:FZ mg B)(D:Ih P w K mg base (aj w K) f o)(v:fn[i]?=some (dM c m q st):=by rfl)(x:fa[j]?=some (.meth c m):=by rfl)(A:xsH.contains c=true:=by rfl){s:List Str}(hc:jk.lookup c=some s:=by rfl)(u:((jk.lookup c).getD []).contains m=false:=by rfl)(z:N.take n=d:=by rfl)(y:d.length=n:=by rfl)(S:FnScope N d (defScope st):=by exact⟨rfl,rfl,rfl,#[[]],rfl,#[[]],#[[]]⟩)(t:∀(kV doc E:Value) (p:Option Addr) (e r:Value) (l:List Value),l.length=d.length->bindArgs (PySem.W.fnOf m q (defArgs st) (defBody st) (defScope st) .none kV doc E p e r) ⟨l,[]⟩=pure (d.zip l):=by nofun):Gg P w K mg base (aj w K) k c m (.g n (mG N.length a)):=by
 let⟨H,F⟩:=T.c.Vc i v
 exact y ▸ ars hk A (T.cls hc) (T.c.pK j x) u (FunD.bindsN (ps:=d) F t) (V1 (EY F) S g b (T.hs D) h)
theorem vI(i j l:Nat){c q:Str}{n:Nat}{e:Nat}{st:Stmt}{N ps z B:List Str}{G:LsS GV}{m:List (Str×TabMV)}{a:SF}(h:rY N st G B m z=some a)(g:Gk P w K mg base (aj w K) e G)(b:FZ mg B)(A:Ih P w K mg base (aj w K) e m)(hk:e+1+1<=k)(u:fn[i]?=some (dM c "__init__" q st):=by rfl)(v:fa[j]?=some (.mkr c):=by rfl)(t:fa[l]?=some (.glo c):=by rfl)(y:xsH.contains c=true:=by rfl){r:List Str}(hc:jk.lookup c=some r:=by rfl)(x:ps.length=n+1:=by rfl)(S:FnScope N ps (defScope st):=by exact⟨rfl,rfl,rfl,#[[]],rfl,#[[]],#[[]]⟩)(s:∀(kV doc C:Value) (o:Option Addr) (d p:Value) (f:List Value),f.length=ps.length->bindArgs (PySem.W.fnOf "__init__" q (defArgs st) (defBody st) (defScope st) .none kV doc C o d p) ⟨f,[]⟩=pure (ps.zip f):=by nofun):mJ P w K mg base (aj w K) k c (.cls n (mG N.length a)):=by
 let⟨D,F⟩:=T.c.Vc i u
 exact am2 hk y (T.glo l t) (T.cls hc) (T.c.pK j v) x (FunD.bindsN (ps:=ps) F s) (V1 (EY F) S g b (T.hs A) h)
theorem Xl(hk:2<=k):#["Clash",.exi ["ones","others","ear"]]:=by
 have d:Ye K "Clash" ["ones","others","ear"]=true:=(He.ba (avx.mp T.xf _ (show(("Clash" : Str),(["ones","others","ear"]:List Str))∈YJ by simp[YJ]))).2
 let⟨f,j,l,m,a⟩:=WW d
 let⟨i,F⟩:=T.c.Vc 116
 have b:=FunD.bindsN (ps:=["self","ones","others","ear"]) F λ_ _ _ _ _ _ g e=>match g,e with|[_,_,_,_],_=>rfl
 exact anh hk (by rfl) (T.glo 135) d rfl b (agt (EY F) aac f (by rfl) #[()] (a _ #[()]) (a _ #[()]) (a _ #[()]))
theorem afY:#[2,"Grounds",.cls 0 vq]:=λhk=>vI T 0 0 116 (ps:=["self"]) WD awr awr awr hk
theorem aiy:#[2,"Rights",.cls 0 wW]:=λhk=>vI T 1 1 117 (ps:=["self"]) Z8 awr awr awr hk
theorem ana:#[2,"Herd",.cls 0 BZ]:=λhk=>vI T 2 2 118 (ps:=["self"]) acU awr awr awr hk
theorem Nr:#[4,"Commons",.cls 0 fu]:=λhk=>vI T 3 3 119 (ps:=["self"]) Xk ⟨ana T,aiy T,afY T,awr⟩ awr awr hk
theorem apb:#[6,"Book",.cls 0 wD]:=λhk=>vI T 4 4 120 (ps:=["self"]) acS ⟨Nr T,awr⟩ awr awr hk
theorem Mr:#[1,"Book","deeds",.q 1 zK]:=λhk=>(List.toArray [wQ 5 5,aaU,[],[178],[]])
theorem ajD:#[1,"_law_row",.fq 3 Cq]:=λhk=>(List.toArray [vQ 6 6,apW,[],[179,180],[]])
theorem abn:#[1,"_law_ear_by",.fq 2 uY]:=λhk=>(List.toArray [vQ 7 7,ahQ,[],[181,182],[]])
theorem aqD:#[2,"_law_ear",.fq 1 Vd]:=λhk=>(List.toArray [vQ 8 8,aqw,[abn,ajD],[],[]])
theorem acT:#[1,"_law_begun",.fq 1 wA]:=λhk=>(List.toArray [vQ 9 9,ac5,[],[],[]])
theorem agq:#[1,"_law_word_by",.fq 1 yN]:=λhk=>(List.toArray [vQ 10 10,ahi,[],[],[]])
theorem amF:#[1,"_law_near",.fq 2 Ol]:=λhk=>(List.toArray [vQ 11 11,anE,[],[181,183,182,184],[]])
theorem ahl:#[2,"_law_mark_by",.fq 3 yO]:=λhk=>(List.toArray [vQ 12 12,ahm,[abn,amF],[],[]])
theorem apz:#[1,"_law_ref",.fq 3 jZ]:=λhk=>(List.toArray [vQ 13 13,apL,[],[182],[]])
theorem aoM:#[3,"_law_deed",.fq 6 gJ]:=λhk=>(List.toArray [vQ 14 14,ao5,[apz,ahl],[185],[]])
theorem apm:#[4,"_law_plan",.fq 2 Ji]:=λhk=>(List.toArray [vQ 15 15,ao6,[aoM,agq,ajD,acT,aqD],[186,187],[]])
theorem yR:#[1,"Grounds","many",.q 1 qT]:=λhk=>(List.toArray [wQ 16 16,Xu,[],[187],[]])
theorem XF:#[2,"Grounds","has",.q 2 xV]:=λhk=>(List.toArray [wQ 17 17,aal,[],[],[yR]])
theorem iV:#[3,"Grounds","need",.q 2 vD]:=λhk=>(List.toArray [wQ 18 18,W0,[Vm],[],[XF]])
theorem oK:#[4,"Grounds","together",.q 2 lu]:=λhk=>(List.toArray [wQ 19 19,Qe,[],[178],[iV]])
theorem oH:#[5,"Commons","together",.q 2 lE]:=λhk=>(List.toArray [wQ 20 20,Oq,[],[],[oK]])
theorem TF:#[1,"tidied",.fq 1 rM]:=λhk=>(List.toArray [vQ 21 21,ai6,[],[188,189],[]])
theorem uO:#[1,"Herd","all_living",.q 1 qp]:=λhk=>(List.toArray [wQ 22 22,Rq,[],[186],[]])
theorem yP:#[2,"Herd","grazing",.q 2 qH]:=λhk=>(List.toArray [wQ 23 23,X3,[],[],[uO]])
theorem Le:#[1,"Rights","in_grounds",.q 2 oF]:=λhk=>(List.toArray [wQ 24 24,Nh,[],[],[]])
theorem vW:#[6,"Commons","standing_but",.q 3 jd]:=λhk=>(List.toArray [wQ 25 25,Ij,[TF],[],[Le,yP,oH]])
theorem oE:#[7,"Commons","standing",.q 2 lA]:=λhk=>(List.toArray [wQ 26 26,NQ,[],[],[vW]])
theorem zV:#[4,"Grounds","allowance",.q 2 j5]:=λhk=>(List.toArray [wQ 27 27,Nm,[],[],[iV]])
theorem V6:#[5,"Grounds","room",.q 2 qI]:=λhk=>(List.toArray [wQ 28 28,Xw,[],[182],[oK,zV]])
theorem pG:#[6,"Commons","room",.q 2 qW]:=λhk=>(List.toArray [wQ 29 29,Xz,[],[],[V6]])
theorem aie:#[1,"deeper",.fq 2 Bw]:=λhk=>(List.toArray [vQ 30 30,ahW,[],[190,183],[]])
theorem X6:#[1,"lacks",.fq 2 oZ]:=λhk=>(List.toArray [vQ 31 31,aj6,[],[191,183],[]])
theorem adb:#[2,"owners_of",.fq 3 tK]:=λhk=>(List.toArray [vQ 32 32,acR,[X6,aie],[181,188],[]])
theorem qu:#[8,"Commons","gather",.q 2 fL]:=λhk=>(List.toArray [wQ 33 33,Sh,[adb],[],[yP,oH,pG,oE]])
theorem Bs:#[9,"Book","gather",.q 2 lQ]:=λhk=>(List.toArray [wQ 34 34,Z9,[],[],[qu]])
theorem an1:#[1,"_law_cell",.fq 2 CT]:=λhk=>(List.toArray [vQ 35 35,amP,[],[187],[]])
theorem v_cut:#[1,"_law_cut",.fq 1 Rh]:=λhk=>(List.toArray [vQ 36 36,aqg,[],[],[]])
theorem gR:#[1,"Commons","need_owner",.q 2 jM]:=λhk=>(List.toArray [wQ 37 37,Ln,[ahx],[],[]])
theorem uH:#[1,"Rights","marks",.q 3 vR]:=λhk=>(List.toArray [wQ 38 38,XD,[],[],[]])
theorem Np:#[2,"Rights","has_right",.q 3 pO]:=λhk=>(List.toArray [wQ 39 39,Oi,[],[187],[uH]])
theorem jA:#[3,"Commons","need_right",.q 3 mK]:=λhk=>(List.toArray [wQ 40 40,K8,[ZJ],[],[Np]])
theorem yU:#[1,"Commons","new_owner",.g 1 iY]:=λhk=>(List.toArray [wG 41 41,Nb,[],[],[]])
theorem Ab:#[1,"Rights","add_right",.g 4 jB]:=λhk=>(List.toArray [wG 42 42,O7,[Wx],[],[]])
theorem aoh:#[1,"torn",.fq 2 Nq]:=λhk=>(List.toArray [vQ 43 43,apx,[xZ],[179,184],[]])
theorem adk:#[2,"offspring",.fq 2 wJ]:=λhk=>(List.toArray [vQ 44 44,ade,[X6,aoh],[],[]])
theorem alF:#[2,"apart",.fq 2 JF]:=λhk=>(List.toArray [vQ 45 45,alL,[X6],[182],[]])
theorem aa3:#[3,"meet",.fq 3 sY]:=λhk=>(List.toArray [vQ 46 46,aor,[alF],[],[]])
theorem aaG:#[4,"first_free",.fq 4 qN]:=λhk=>(List.toArray [vQ 47 47,acH,[ae5,adk,aa3],[192],[]])
theorem qG:#[2,"Commons","first_mark",.q 3 mU]:=λhk=>(List.toArray [wQ 48 48,Kw,[],[],[uH]])
theorem Nf:#[8,"Commons","new_heir",.g 4 cV]:=λhk=>(List.toArray [wG 49 49,Pu,[aaG,afG,Xx,abt],[],[Ab,yU,pG,oE,qG,jA,iV,gR]])
theorem Kl:#[2,"Grounds","add_ground",.g 2 fP]:=λhk=>(List.toArray [wG 50 50,K7,[XM,Ly],[],[yR]])
theorem Jt:#[3,"Commons","new_ground",.g 2 iG]:=λhk=>(List.toArray [wG 51 51,KD,[],[],[Kl]])
theorem agI:#[4,"barring",.fq 4 CN]:=λhk=>(List.toArray [vQ 52 52,ag0,[aa3,TF],[],[]])
theorem Rk:#[1,"joint",.fq 2 qQ]:=λhk=>(List.toArray [vQ 53 53,alP,[],[181,183,182],[]])
theorem Vo:#[5,"ask_room",.fq 4 pq]:=λhk=>(List.toArray [vQ 54 54,ae0,[(Xl T #[()]),Rk,agI],[],[]])
theorem qZ:#[8,"Commons","ask_ground",.q 4 iy]:=λhk=>(List.toArray [wQ 55 55,K9,[Vo],[],[pG,oE]])
theorem abx:#[1,"is_ear",.fq 1 uN]:=λhk=>(List.toArray [vQ 56 56,aiG,[xZ,Gq],[190,187],[]])
theorem Wt:#[2,"need_ear",.fq 1 rJ]:=λhk=>(List.toArray [vQ 57 57,aeS,[ai7,abx],[],[]])
theorem Ue:#[9,"Commons","enrol",.g 4 eE]:=λhk=>(List.toArray [wG 58 58,Wu,[Wx,am4,Vt,Wt],[],[Ab,qZ,uH,iV,gR]])
theorem Xq:#[2,"Rights","drop",.g 3 oX]:=λhk=>(List.toArray [wG 59 59,aah,[ZJ],[],[uH]])
theorem Tg:#[4,"Commons","leave",.g 3 gG]:=λhk=>(List.toArray [wG 60 60,Vp,[aaR],[192],[Xq,yP,jA,iV,gR]])
theorem Eh:#[1,"Beast","stand_so",.g 2 nZ]:=λhk=>(List.toArray [wG 61 61,Uq,[],[],[]])
theorem als:#[1,"begun",.fq 1 Fl]:=λhk=>(List.toArray [vQ 62 62,akG,[Vt],[],[]])
theorem alE:#[3,"Beast",.cls 1 uQ]:=λhk=>vI T 63 63 142 (ps:=["self","first"]) acy ⟨als T,awr⟩ awr ⟨⟨Eh T,awr⟩,awr⟩ hk
theorem Ef:#[4,"Herd","add_beast",.g 2 rO]:=λhk=>(List.toArray [wG 64 64,Sq,[alE],[187],[]])
theorem Ut:#[5,"Commons","bring",.g 4 gK]:=λhk=>(List.toArray [wG 65 65,Uy,[Wt],[],[Ef,jA,iV,gR]])
theorem DP:#[1,"Herd","known",.q 2 lF]:=λhk=>(List.toArray [wQ 66 66,acu,[ahK],[187],[]])
theorem vf:#[2,"Herd","living",.q 2 sU]:=λhk=>(List.toArray [wQ 67 67,aaf,[aoI],[],[DP]])
theorem Bf:#[3,"Herd","marked",.q 2 oU]:=λhk=>(List.toArray [wQ 68 68,aai,[afj],[],[vf]])
theorem Wk:#[5,"Commons","bear",.g 2 jG]:=λhk=>(List.toArray [wG 69 69,WK,[],[],[Ef,Bf]])
theorem afz:#[1,"deepened",.fq 2 zj]:=λhk=>(List.toArray [vQ 70 70,afB,[],[181,186],[]])
theorem ahe:#[2,"gone_on",.fq 2 Di]:=λhk=>(List.toArray [vQ 71 71,ags,[afz],[],[]])
theorem Jb:#[1,"Beast","stand",.q 1 xU]:=λhk=>(List.toArray [wQ 72 72,Z7,[],[],[]])
theorem jJ:#[3,"Beast","befall",.g 2 nJ]:=λhk=>(List.toArray [wG 73 73,Xy,[ahe],[],[Eh,Jb]])
theorem Yp:#[9,"Commons","cut",.g 2 jW]:=λhk=>(List.toArray [wG 74 74,aaj,[Rk],[],[jJ,qZ,qG,vf]])
theorem U4:#[4,"Commons","tear",.g 3 fY]:=λhk=>(List.toArray [wG 75 75,WR,[agO,xZ,ahu,Gq],[187],[jJ,vf]])
theorem WT:#[2,"Herd","calves",.q 2 sO]:=λhk=>(List.toArray [wQ 76 76,aad,[],[],[uO,DP]])
theorem Ad:#[4,"Herd","lead_calves",.g 2 pP]:=λhk=>(List.toArray [wG 77 77,Oa,[],[],[WT,jJ,DP]])
theorem Vv:#[7,"Commons","sell",.g 3 dU]:=λhk=>(List.toArray [wG 78 78,XH,[Vo,Rk,R7],[],[Ad,jJ,pG,vW,qG,jA,gR,Bf]])
theorem V3:#[9,"Commons","move",.g 3 dW]:=λhk=>(List.toArray [wG 79 79,Xg,[acq],[],[Ad,jJ,qZ,jA,iV,Bf]])
theorem W6:#[4,"Commons","die",.g 2 lO]:=λhk=>(List.toArray [wG 80 80,aak,[],[],[jJ,vf]])
theorem afE:#[4,"clashing",.fq 2 vK]:=λhk=>(List.toArray [vQ 81 81,afF,[aa3,TF],[186],[]])
theorem Nk:#[8,"Commons","quarrels",.q 3 lB]:=λhk=>(List.toArray [wQ 82 82,Pq,[afE],[182],[oE,pG]])
theorem CW:#[1,"Grounds","enclose",.g 2 lY]:=λhk=>(List.toArray [wG 83 83,Rr,[],[181],[]])
theorem SJ:#[5,"Grounds","unite",.g 3 lJ]:=λhk=>(List.toArray [wG 84 84,VJ,[UW],[188],[CW,oK]])
theorem Ud:#[9,"Commons","unite",.g 3 gH]:=λhk=>(List.toArray [wG 85 85,U6,[(Xl T #[()]),Rk,UW],[],[SJ,Nk,oH,iV]])
theorem Vb:#[5,"Grounds","part",.g 2 jC]:=λhk=>(List.toArray [wG 86 86,Xh,[akO],[],[CW,oK]])
theorem UL:#[6,"Commons","part",.g 2 j8]:=λhk=>(List.toArray [wG 87 87,Yk,[],[],[Vb]])
theorem M9:#[1,"Rights","hand_over",.g 3 o7]:=λhk=>(List.toArray [wG 88 88,NT,[],[],[]])
theorem aag:#[2,"Herd","owned",.q 2 zQ]:=λhk=>(List.toArray [wQ 89 89,abb,[],[],[uO]])
theorem Od:#[4,"Commons","pass_on",.g 3 gj]:=λhk=>(List.toArray [wG 90 90,Ro,[R7],[],[jJ,aag,M9,gR]])
theorem adl:#[2,"part_fits",.fq 2 jg]:=λhk=>(List.toArray [vQ 91 91,ac9,[Gq,U8,abx],[193,185,187,181],[]])
theorem agC:#[3,"fits",.fq 1 zM]:=λhk=>(List.toArray [vQ 92 92,am9,[adl,ab5],[190,183,187],[]])
theorem wY:#[10,"Commons","do",.g 2 bO]:=λhk=>(List.toArray [wG 93 93,abf,[Zv,agC],[],[Nf,Od,UL,Ud,W6,V3,Vv,U4,Yp,Wk,Ut,Tg,Ue,Jt,yU]])
theorem Et:#[11,"Book","do",.g 2 ni]:=λhk=>(List.toArray [wG 94 94,af7,[],[],[wY]])
theorem alx:#[1,"_law_whole",.fq 1 JW]:=λhk=>(List.toArray [vQ 95 95,akL,[],[193,194,185],[]])
theorem abj:#[12,"_law_like",.fq 2 (cR 10)]:=λhk=>by
 let⟨e,F⟩:=T.c.Vc 96
 have b:=FunD.bindsN (ps:=["_law_found","_law_due"]) F λ_ _ _ _ _ _ i f=>match i,f with|[_,_],_=>rfl
 have d:∀j:Nat,FnOk P w K mg base (L2.CX P w) (2+j) (He.ga K "_law_like") e ["_law_found","_law_due"] (RJ K (aj w K) 2 (cR j)):=by
  intro j
  induction j with
  |zero=>exact apa
  |succ j a=>
   have g:∀{k:Nat},2+j<=k->#["_law_like",.fq 2 (cR j)]:=λhk=>aip hk (T.glo 96) F.kp (b) a
   refine abP (k:=2+j) (EY F) al0 ?_ ?_ ?_ (ao2 (cR j))
   .exact⟨g (avE _),alx T,awr⟩
   .exact⟨T.free 183,T.free 187,T.free 193,T.free 178,T.free 181,T.free 195,T.free 185,awr⟩
   .exact T.hs awr
 exact aip hk (T.glo 96) F.kp (b) (d 10)
theorem Z4:#[2,"Beast","told",.q 1 yX]:=λhk=>(List.toArray [wQ 97 97,abm,[],[181],[Jb]])
theorem Rp:#[1,"Commons","owners",.q 1 rR]:=λhk=>(List.toArray [wQ 98 98,TV,[],[178],[]])
theorem Pb:#[1,"Rights","all_rows",.q 1 qj]:=λhk=>(List.toArray [wQ 99 99,Rm,[],[178],[]])
theorem z8:#[6,"Commons","look",.q 1 j9]:=λhk=>(List.toArray [wQ 100 100,W7,[],[179,181],[Pb,Rp,Z4,yR,oH,zV]])
theorem Nv:#[7,"Book","look",.q 1 pY]:=λhk=>(List.toArray [wQ 101 101,acY,[],[],[z8]])
theorem akk:#[1,"shown",.fq 1 Fd]:=λhk=>(List.toArray [vQ 102 102,aj8,[ada,Gq],[183],[]])
theorem Xb:#[2,"part_written",.fq 2 cO]:=λhk=>(List.toArray [vQ 103 103,X4,[Gq,akk],[195],[]])
theorem ZR:#[4,"written",.fq 1 jX]:=λhk=>(List.toArray [vQ 104 104,agj,[ab5,Xb,Zv,agC],[183],[]])
theorem ace:#[5,"Book","page",.q 1 BX]:=λhk=>(List.toArray [wQ 105 105,ac1,[ZR],[],[]])
theorem adf:#[10,"_law_no_ground",.fq 2 tH]:=λhk=>(List.toArray [vQ 106 106,ac2,[Vm],[],[[qu,Bs]]])
theorem v_right:#[13,"_law_right",.fq 3 Fb]:=λhk=>(List.toArray [vQ 107 107,ali,[abj,ZR,adf],[179,184,187],[[z8,Nv],Mr,ace,[qu,Bs]]])
theorem aht:#[1,"_law_kind_of",.kin rE]:=λhk=>by
 let⟨e,F⟩:=T.c.Vc 108
 have b:=FunD.bindsN (ps:=["_law_e"]) F λ_ _ _ _ _ _ d a=>match d,a with|[_],_=>rfl
 exact amw hk (T.glo 108) F.kp rfl b (aoB (EY F) ⟨rfl,rfl,rfl,#[[]],rfl,#[[]],#[[]]⟩ (by rfl) (by rfl) (by rfl) (by rfl) (T.free 193) (apD (kc:=kcH) (kt:=ktH) (show abz K mg ["BadEar","Bare","BadAllowance","BadExtra","NoPlace","Deepest","NoOwner","NoGround","NoBeast","NoRight","HasRight","StillThere","Dead","Unmarked","SameOwner","SameGround","Together","Alone","NoneFree","BadDeed","BadLine","NoStand","Clash"] from⟨T.glo 136,T.glo 138,T.glo 133,T.glo 131,T.glo 151,T.glo 149,T.glo 123,T.glo 121,T.glo 143,T.glo 125,T.glo 127,T.glo 140,T.glo 145,T.glo 147,T.glo 153,T.glo 155,T.glo 157,T.glo 159,T.glo 129,T.glo 161,T.glo 163,T.glo 165,T.glo 135,awr⟩) (He.ba (He.ba (He.ba (He.ba (He.ba (He.ba T.c.more).1).1).1).1).1).2) agy)
theorem akc:#[12,"_law_fully",.fg 2 qR]:=λhk=>(List.toArray [vG 109 109,ak6,[(Xl T #[()]),aht,MP],[],[[wY,Et]]])
theorem abQ:#[12,"Book","back",.g 2 pX]:=λhk=>(List.toArray [wG 110 110,adg,[Nr,Zu],[187],[Et]])
theorem ahc:#[13,"_law_back",.fg 2 pH]:=λhk=>(List.toArray [vG 111 111,aoJ,[Zu],[],[abQ]])
theorem Y6:#[14,"_law_goes_on",.fg 4 m9]:=λhk=>(List.toArray [vG 112 112,ag9,[v_right,abj,akc,Nr,ahc],[],[[wY,Et]]])
theorem adC:#[12,"_law_tried",.fg 2 qF]:=λhk=>(List.toArray [vG 113 113,al8,[MP],[],[[wY,Et]]])
theorem acW:#[15,"_law_at_length",.fg 3 tL]:=λhk=>(List.toArray [vG 114 114,ac7,[Y6,adC],[187,179],[]])
theorem aqa{a:FuncData}(F:FunD K "law" "law" (defArgs QJ) (defBody QJ) (defScope QJ) [] [] (He.ga K "law") a):FnOk P w K mg base (L2.CX P w) 16 (He.ga K "law") a ["_law_script"] (HJ K (aj w K) 1 Ku):=by
 refine V1 (k:=15) (EY F) anT ?_ ?_ ?_ aqn
 .exact⟨abj T,ahc T,acW T,Y6 T,v_cut T,an1 T,adC T,apm T,apb T,awr⟩
 .exact⟨T.free 179,T.free 187,T.free 178,T.free 184,T.free 180,awr⟩
 .exact T.hs ⟨⟨z8 T,Nv T,awr⟩,⟨Mr T,awr⟩,⟨qu T,Bs T,awr⟩,awr⟩
end
def digs(b:Int):Nat->Int->ListInt
 |0,_=>[]
 |n+1,c=>c%b::digs b n (c/b)
def RD(b:Int):Nat->Int->Int->ListInt
 |0,_,_=>[]
 |n+1,k,t=>((t*48271+9973*k+11)%2147483647/1021%b)::RD b n (k+1) ((t*48271+9973*k+11)%2147483647)
def Dt(c:Int):Int:=if c<0 then -c else c
def rowOf(c:Int)(n:Nat)(b:Int):ListInt:=if 10^18<=Dt c then digs b n (Dt c) else RD b n 0 ((Dt c%1000003+17)*69621%2147483647)
theorem abA(b:Int):∀n c,(digs b n c).length=n
 |0,_=>rfl
 |n+1,c=>by simp[digs,abA b n]
theorem adP(b:Int):∀n k t,(RD b n k t).length=n
 |0,_,_=>rfl
 |n+1,k,t=>by simp[RD,adP b n]
theorem aez{b:Int}(a:0<b):∀n c,∀x∈digs b n c,0<=x/\x<b
 |0,_,x,h=>by simp[digs]at h
 |n+1,c,x,h=>by
  rcases avw.mp h with rfl|h
  .exact⟨Int.emod_nonneg _ #[],Int.emod_lt_of_pos _ a⟩
  .exact aez a n _ x h
theorem aga{b:Int}(a:0<b):∀n k t,∀x∈RD b n k t,0<=x/\x<b
 |0,_,_,x,h=>by simp[RD]at h
 |n+1,k,t,x,h=>by
  rcases avw.mp h with rfl|h
  .exact⟨Int.emod_nonneg _ #[],Int.emod_lt_of_pos _ a⟩
  .exact aga a n _ _ x h
@[simp]def adS (c:Int) (n:Nat) (b:Int):(rowOf c n b).length=n:=by
 unfold rowOf;split
 .exact abA ..
 .exact adP ..
def agH{b:Int}(a:0<b)(c:Int)(n:Nat):∀x∈rowOf c n b,0<=x/\x<b:=by
 unfold rowOf;split
 .exact aez a _ _
 .exact aga a _ _ _
@[simp]def aed (M:Mo) (a:ListInt) (k:Nat):CT M [lI a,.int k]=.ok (.int (a.getD k 0)):=by
 unfold CT abr;by_cases h:k<a.length
 .simp[h,atI,ixN]
 .simp[h]
theorem aaQ(M:Mo)(b:Int)(m:0<b)(g:b<1073741824):∀(n k:Nat) (c:Int) (d:Option Cell) (a:List Dat) (j f:Option Cell),a.length+n<100000->∃l e,fO (au 4) Xc ((List.range' k n).map λ(i:Nat)=>PyData.int (i:Int)) M [#[.int c],d,#[.int b],some (.mut a),j,f]=.next [l,d,#[.int b],some (.mut (a++(digs b n c).map .int)),e,f] M
 |0,k,c,d,a,j,f,_=>⟨#[.int c],j,by simp[fO,digs]⟩
 |n+1,k,c,d,a,j,f,o=>by
  let⟨l,e,q⟩:=aaQ M b m g n (k+1) (c/b) d (a++[.int (c%b)]) #[.int k] f (by simp;omega)
  refine⟨l,e,?_⟩;have p:decide (CDiv c b)=true:=decide_eq_true ⟨m,g⟩;have o:a.length<100000:=#[];rw[List.range'_succ,avj,eU (Z1:=[#[.int c],d,#[.int b],some (.mut a),#[.int k],f]) (by simp) (Z2:=[#[.int (c/b)],d,#[.int b],some (.mut (a++[.int (c%b)])),#[.int k],f]) (M2:=M) (by simp[Xc,p,m,o])];rw[q];simp[digs]
theorem adw(M:Mo)(b:Int)(j:0<b):∀(n k:Nat) (t:Int) (c d:Option Cell) (a:List Dat) (g:Option Cell),a.length+n<100000->∃e f,fO (au 4) Yr ((List.range' k n).map λ(i:Nat)=>PyData.int (i:Int)) M [c,d,#[.int b],some (.mut a),g,#[.int t]]=.next [c,d,#[.int b],some (.mut (a++(RD b n k t).map .int)),e,f] M
 |0,k,t,c,d,a,g,_=>⟨g,#[.int t],by simp[fO,RD]⟩
 |n+1,k,t,c,d,a,g,l=>by
  let⟨e,f,q⟩:=adw M b j n (k+1) ((t*48271+9973*k+11)%2147483647) c d (a++[.int ((t*48271+9973*k+11)%2147483647/1021%b)]) #[.int k] (by simp;omega)
  refine⟨e,f,?_⟩;have m:decide (CMul t 48271)=true:=mul_r #[()];have o:decide (CMul 9973 (k:Int))=true:=afD #[()];have p:∀x,decide (CDiv x 1021)=true:=λx=>decide_eq_true ⟨#[()],#[()]⟩;have l:a.length<100000:=#[];rw[List.range'_succ,avj,eU (Z1:=[c,d,#[.int b],some (.mut a),#[.int k],#[.int t]]) (by simp) (Z2:=[c,d,#[.int b],some (.mut (a++[.int ((t*48271+9973*k+11)%2147483647/1021%b)])),#[.int k],#[.int ((t*48271+9973*k+11)%2147483647)]]) (M2:=M) (by simp[Yr,m,o,p,j,l])];rw[q];simp[RD]
def Wv(n:Nat):jF 0 n=(List.range' 0 n).map λ(i:Nat)=>PyData.int (i:Int):=by unfold jF;rw[List.range_eq_range'];simp
def agd(M:Mo)(c:Int)(n:Nat)(b:Int)(m:0<b)(i:b<1073741824)(t:n<=1000):Cq M [.int c,.int n,.int b]=.ok (lI (rowOf c n b)):=by
 unfold Cq afp;have o:decide (CPow 10 18)=true:=decide_eq_true ⟨#[()],#[()],#[()]⟩;have a:(n:Int)<=100000:=#[];have d : -100000<=(n:Int):=#[];have p:∀x,decide (CMul x 69621)=true:=λx=>mul_r #[()];have l:(if c<0 then -c else c)=Dt c:=rfl;by_cases h:10^18<=Dt c
 .let⟨r,j,e⟩:=aaQ M b m i n 0 (Dt c) #[.int n] [] none none (by simp;omega)
  have f:rowOf c n b=digs b n (Dt c):=awy h;have g:(1000000000000000000:Int)<=Dt c:=by simpa using h
  simp[o,l,g,a,d,Wv,e,f]
 .let⟨j,q,e⟩:=adw M b m n 0 ((Dt c%1000003+17)*69621%2147483647) #[.int (Dt c)] #[.int n] [] none (by simp;omega)
  have f:rowOf c n b=RD b n 0 ((Dt c%1000003+17)*69621%2147483647):=awz h;have g:¬(1000000000000000000:Int)<=Dt c:=by simpa using h
  have s:=e;simp[o,l,g,a,d,p,Wv]at e |-
  rw[e];simp[f]
def SN(i j:Int):Int:=if j>i then j else i
def BR(l:ListInt)(m:Int):ListInt:=if m%4=1 then l.map λf=>SN 0 (f-7) else if m%4=2 then l.map λf=>f%3 else l
def Zg(M:Mo)(l:ListInt)(m:Int)(n:l.length<=1000):uY M [lI l,.int m]=.ok (aH (BR l m)):=by
 unfold uY Ul;have a:l.length<=50000:=#[];have d:=eZ (tg:=au 2) (te:=aK wZ #[0] (aK qU (2) #[7])) (M:=M) (ρ:=[#[lI l],#[.int m],none]) PyData.int (λf=>.int (SN 0 (f-7))) l λx _=>⟨_,rfl,by simp[SN]⟩;have e:=eZ (tg:=au 2) (te:=aK jY (2) #[3]) (M:=M) (ρ:=[#[lI l],#[.int m],none]) PyData.int (λf=>.int (f%3)) l λx _=>⟨_,rfl,by simp⟩;by_cases b:m%4=1
 .simp[b,a,d,BR,avG]
 .by_cases c:m%4=2
  .simp[c,a,e,BR,avG]
  .simp[b,c,BR]
def Vz(c:Int):ListInt:=BR ((rowOf c 7 10).take 6) ((rowOf c 7 10).getD 6 0)
def SQ{a:Type}(l:List a)(n:Nat):Rf.cutD l none (some (n:Int))=l.take n:=by unfold Rf.cutD;rw[HT.sIx_nat];simp[HT.sIx]
def TY{a:Type}(l:List a)(n:Nat):Rf.cutD l (some (n:Int)) none=l.drop n:=by
 unfold Rf.cutD;rw[HT.sIx_nat];simp[HT.sIx];by_cases h:n<=l.length
 .rw[Nat.min_eq_left h];exact List.take_of_length_le (by simp)
 .rw[Nat.min_eq_right #[],List.drop_eq_nil_of_le #[],List.drop_eq_nil_of_le #[]];simp
def abK(l:ListInt)(n:Nat)(h:n<l.length):atI (l.map PyData.int) (n:Int)=some (.int (l.getD n 0)):=atI_nat (by simp[h])
def aoY(M:Mo)(c:Int):Vd M [.int c]=.ok (aH (Vz c)):=by
 unfold Vd afe;have e:Cq M [.int c,.int 7,.int 10]=.ok (.list ((rowOf c 7 10).map .int)):=agd M c 7 10 #[()] #[()] #[()];have b:Rf.cutD ((rowOf c 7 10).map PyData.int) none (some 6)=((rowOf c 7 10).take 6).map PyData.int:=by rw[show(6:Int)=((6:Nat):Int) from rfl,SQ,List.map_take]
 have d:atI ((rowOf c 7 10).map PyData.int) 6=some (.int ((rowOf c 7 10).getD 6 0)):=abK _ 6 (by simp);have a:uY M [.list (((rowOf c 7 10).take 6).map .int),.int ((rowOf c 7 10).getD 6 0)]=.ok (.tuple ((Vz c).map .int)):=Zg M _ _ (by simp);generalize (rowOf c 7 10).getD 6 0=z at d a;generalize ((rowOf c 7 10).take 6).map PyData.int=y at b a;simp[e,b,d,a]
def af3(c:Int):(Vz c).length=6:=by
 unfold Vz BR;split
 .simp
 .split<;>simp
def ajj{l:ListInt}{m:Int}(h:∀x∈l,0<=x/\x<10):∀x∈BR l m,0<=x/\x<10:=by
 unfold BR SN;split
 .intro x a;let⟨y,b,rfl⟩:=avr.mp a
  have:=h y b
  split<;>omega
 .split
  .intro x a;let⟨y,b,rfl⟩:=avr.mp a
   have:=h y b;omega
  .exact h
mutual
def lk:Nat->Dat->Bool
 |_,.none=>true
 |_,.bool _=>true
 |_,.int _=>true
 |_,.str _=>true
 |n+1,.list ds=>rC n ds
 |n+1,.tuple ds=>rC n ds
 |0,.list _=>false
 |0,.tuple _=>false
 |_,.dict _=>false
def rC:Nat->List Dat->Bool
 |_,[]=>true
 |n,d::ds=>lk n d&&rC n ds
end
theorem oO{n:Nat}:∀{ds:List Dat},rC n ds=true↔∀d∈ds,lk n d=true
 |[]=>by simp[rC]
 |d::ds=>by simp[rC,oO (ds:=ds)]
@[simp]def aco (n:Nat) (l:ListInt):rC n (l.map PyData.int)=true:=oO.mpr λd h=>by
 let⟨i,_,rfl⟩:=avr.mp h
 simp[lk]
def Zw(M:Mo)(i:Int):JW M [.int i]=.ok (.bool true):=by unfold JW WL;simp[Az,Dy]
def zip_self(a:List Dat):tZ a a=a.map λd=>.tuple [d,d]:=by unfold tZ;rw[List.zipWith_self]
theorem N7(M:Mo)(r:Mo->List Dat->Out Dat)(c e:Option Cell):∀(f:List Dat) (g i:Option Cell),(∀d∈f,r M [d,d]=.ok (.bool true))->∃a b,fO (aX [2,3]) (Uo r) (f.map λd=>PyData.tuple [d,d]) M [c,e,g,i]=.next [c,e,a,b] M
 |[],g,i,_=>⟨g,i,rfl⟩
 |d::f,g,i,h=>by
  let⟨a,b,l⟩:=N7 M r c e f #[d] #[d] λd j=>h d (avk _ j)
  refine⟨a,b,?_⟩;have j:=h d avl;rw[avj,eU (Z1:=[c,e,#[d],#[d]]) (by simp) (Z2:=[c,e,#[d],#[d]]) (M2:=M) (by simp[Uo,j])];exact l
def vL(M:Mo):∀(n:Nat) (d:Dat),lk n d=true->cR (n+1) M [d,d]=.ok (.bool true):=by
 intro n
 induction n with
 |zero=>
  intro d h;show mQ 4 (JQ (cR 0)) M [d,d]=_;unfold JQ;cases d with
  |none=>simp[nQ]
  |bool b=>cases b<;>simp[nQ]
  |int i=>simp[nQ,Az,Dy,Zw]
  |str x=>simp[nQ,Az,Dy]
  |list a=>simp[lk]at h
  |tuple a=>simp[lk]at h
  |dict l=>simp[lk]at h
 |succ n j=>
  intro d h;show mQ 4 (JQ (cR (n+1))) M [d,d]=_;unfold JQ;cases d with
  |none=>simp[nQ]
  |bool b=>cases b<;>simp[nQ]
  |int i=>simp[nQ,Az,Dy,Zw]
  |str x=>simp[nQ,Az,Dy]
  |list a=>
   rw[lk,oO]at h;let⟨f,g,e⟩:=N7 M (cR (n+1)) #[.list a] #[.list a] a none none λd c=>j d (h d c)
   simp[nQ,Az,Dy,zip_self,e]
  |tuple a=>
   rw[lk,oO]at h;let⟨f,g,e⟩:=N7 M (cR (n+1)) #[.tuple a] #[.tuple a] a none none λd c=>j d (h d c)
   simp[nQ,Az,Dy,zip_self,e]
  |dict l=>simp[lk]at h
inductive En where
 |torn (p:Nat)|cut (e:ListInt)|sold (o:Int) (e:ListInt)|moved (g:Int)|followed (o g:Int)|passed (o:Int)|died
def En.dat:En->Dat
 |.torn p=>.tuple [.str "torn",.int p]
 |.cut e=>.tuple [.str "cut",aH e]
 |.sold o e=>.tuple [.str "sold",.int o,aH e]
 |.moved g=>.tuple [.str "moved",.int g]
 |.followed o g=>.tuple [.str "followed",.int o,.int g]
 |.passed o=>.tuple [.str "passed",.int o]
 |.died=>.tuple [.str "died"]
inductive Fi where
 |brought (o g:Int) (e:ListInt)|born (m o g:Int)
def Fi.dat:Fi->Dat
 |.brought o g e=>.tuple [.str "brought",.int o,.int g,aH e]
 |.born m o g=>.tuple [.str "born",.int m,.int o,.int g]
structure Sd where
 o:Int
 g:Int
 due:Option ListInt
 ear:ListInt
 al:Bool
def oN:Option ListInt->Dat
 |none=>.none
 |some e=>aH e
def Sd.dat(s:Sd):Dat:=.tuple [.int s.o,.int s.g,oN s.due,aH s.ear,.bool s.al]
def yV(l:ListInt)(p:Nat):ListInt:=l.mapIdx λi x=>if i=p then x+1 else x
def go(s:Sd):En->Sd
 |.torn p=>{ s with ear:=yV s.ear p }
 |.cut e=>{ s with due:=some e,ear:=e }
 |.sold o e=>{ s with o:=o,due:=some e,ear:=e }
 |.moved g=>{ s with g:=g }
 |.followed o g=>{ s with o:=o,g:=g }
 |.passed o=>{ s with o:=o }
 |.died=>{ s with al:=false }
def beg:Fi->Sd
 |.brought o g e=>⟨o,g,none,e,true⟩
 |.born _ o g=>⟨o,g,none,[0,0,0,0,0,0],true⟩
def ahT(M:Mo)(f:Fi):Fl M [f.dat]=.ok (beg f).dat:=by cases f<;>simp[Fl,Rj,Fi.dat,beg,Sd.dat,oN,jO]
def adh(M:Mo)(l:ListInt)(p:Nat)(e:l.length<=1000):zj M [aH l,.int p]=.ok (aH (yV l p)):=by
 unfold zj Lz;have c:vC 0 (l.map PyData.int)=(l.mapIdx λi x=>(i,x)).map λ(q:Nat×Int)=>PyData.tuple [.int q.1,.int q.2]:=by unfold vC;rw[List.mapIdx_eq_mapIdx_iff.mpr (λi h=>rfl)];apply avO;intro i;simp;cases l[i]?<;>simp
 have b:=eZ (tg:=aX [2,3]) (te:=Om #[(2)=(1)] (aK cY (3) #[1]) (3:)) (M:=M) (ρ:=[#[aH l],#[.int p],none,none]) (λ(q:Nat×Int)=>PyData.tuple [.int q.1,.int q.2]) (λq=>.int (if q.1=p then q.2+1 else q.2)) (l.mapIdx λi x=>(i,x)) λx _=>⟨[#[aH l],#[.int p],#[.int x.1],#[.int x.2]],by simp,by
  by_cases h:x.1=p
  .simp[h]
  .have d:¬((x.1:Int)=p):=#[];simp[h,d]⟩
 have a:l.length<=50000:=#[];simp[c,b,a,yV];apply avO;intro i;simp;cases l[i]?<;>simp
def afv(l:ListInt)(p:Nat):(yV l p).length=l.length:=by simp[yV]
def gone_ok(M:Mo)(s:Sd)(e:En)(a:s.ear.length<=1000):Di M [s.dat,e.dat]=.ok (go s e).dat:=by have h:=λp=>adh M s.ear p a;cases e<;>simp[Di,Ox,En.dat,go,Sd.dat,oN,h]
abbrev Row3:=Int×Int×ListInt
def iK(r:Row3):Dat:=.tuple [.int r.1,.int r.2.1,aH r.2.2]
structure fJ where
 fi:Fi
 en:List En
 mo:Int
 sd:Sd
structure aF where
 count:Int
 own:ListInt
 al:ListInt
 ci:List ListInt
 held:List Row3
 bs:List fJ
structure Lay where
 c:Nat
 g:Nat
 r:Nat
 h:Nat
 bs:List Nat
 fr:List (Nat×Inst)
def aP(L:Lay)(c:aF):Inst:=⟨"Commons",[("owner_count",.dat (.int c.count)),("holders",.dic false (c.own.map λo=>(.int o,.bool true))),("grounds",.dat (ob L.g)),("rights",.dat (ob L.r)),("herd",.dat (ob L.h))]⟩
def dh(n m:Nat)(c:aF):Inst:=⟨"Grounds",[("allowances",.lst n (c.al.map PyData.int)),("circles",.lst m (c.ci.map aH))]⟩
def mY(c:aF):Inst:=⟨"Rights",[("held",.dic true (c.held.map λr=>(iK r,.bool true)))]⟩
def dI(n:Nat)(L:Lay):Inst:=⟨"Herd",[("beasts",.lst n (L.bs.map ob))]⟩
def iB(n:Nat)(b:fJ):Inst:=⟨"Beast",[("story",.lst n (b.fi.dat::b.en.map En.dat)),("mother",.dat (.int b.mo)),("owner",.dat (.int b.sd.o)),("ground",.dat (.int b.sd.g)),("due",.dat (oN b.sd.due)),("ear",.dat (aH b.sd.ear)),("alive",.dat (.bool b.sd.al))]⟩
structure At(M:Mo)(L:Lay)(c:aF):Prop where
 hc:M[L.c]?=some (aP L c)
 hg:∃n m,M[L.g]?=some (dh n m c)
 hr:M[L.r]?=some (mY c)
 hh:∃n,M[L.h]?=some (dI n L)
 len:L.bs.length=c.bs.length
 hb:∀(i h:Nat) (b:fJ),L.bs[i]?=some h->c.bs[i]?=some b->∃n,M[h]?=some (iB n b)
 nd:(L.c::L.g::L.r::L.h::L.bs).Nodup
 fr:∀p∈L.fr,M[p.1]?=some p.2/\p.1∉L.c::L.g::L.r::L.h::L.bs
 lf:jo M=true
section
variable{M:Mo}{L:Lay}{c:aF}(a:At M L c)
include a
theorem adA:qT M [ob L.g]=.ok (.int c.al.length):=by
 let⟨n,m,b⟩:=a.hg
 simp[qT,vH,b,dh]
theorem ao1(g:Int):xV M [ob L.g,.int g]=.ok (.bool (decide (1<=g/\g<=c.al.length))):=by
 let⟨n,m,b⟩:=a.hg
 have:=adA a;by_cases h:1<=g<;>simp[xV,DY,b,dh,this,fB,h]
end
@[simp]def arA {b:Type} (l:List b) (n:Nat):atI l (n:Int)=l[n]?:=by
 cases h:l[n]? with
 |some a=>exact atI_nat h
 |none=>
  have c:=List.getElem?_eq_none_iff.mp h;unfold atI ixN;rw[awy #[],awz #[]];rfl
abbrev Vg(c:aF)(x:Int):Prop:=1<=x/\x<=c.al.length
def Fx{c:aF}{x:Int}(h:Vg c x):∃k:Nat,k<c.al.length/\x=(k:Int)+1:=⟨(x-1).toNat,#[],#[]⟩
structure dD(c:aF):Prop where
 len:c.ci.length=c.al.length
 few:c.al.length<=200
 al:∀x∈c.al,0<=x/\x<=9
 mem:∀(k:Nat) (l:ListInt),c.ci[k]?=some l->∀y∈l,Vg c y
 own:∀(k:Nat) (l:ListInt),c.ci[k]?=some l->(k:Int)+1∈l
 up:∀(k:Nat) (l:ListInt),c.ci[k]?=some l->l.Pairwise (· < ·)
 one:∀(k j:Nat) (l:ListInt),c.ci[k]?=some l->(j:Int)+1∈l->c.ci[j]?=some l
def bf(c:aF)(x:Int):ListInt:=(c.ci[(x-1).toNat]?).getD []
def X5(c:aF)(x:Int):Int:=(c.al[(x-1).toNat]?).getD 0
def apl:ListInt->Int
 |[]=>0
 |n::ns=>Ig n ns
def roomOf(c:aF)(x:Int):Int:=apl ((bf c x).map (X5 c))
theorem agf:∀{l:ListInt} {lo hi:Int},l.Pairwise (· < ·)->(∀y∈l,lo<=y/\y<=hi)->(l.length:Int)<=max 0 (hi-lo+1)
 |[],_,_,_,_=>by simp;omega
 |x::l,lo,hi,h,a=>by
  rw[List.pairwise_cons]at h;have:=agf (lo:=x+1) (hi:=hi) h.2 λy b=>⟨by have:=h.1 y b;omega,(a y (avk _ b)).2⟩;have:=a x avl;simp;omega
def maxD_ints{l:ListInt}(h:l≠[]):maxD (.list (l.map PyData.int))=.ok (.int (apl l)):=by
 cases l with
 |nil=>exact absurd rfl h
 |cons n a=>
  show(match intsOf ((n::a).map PyData.int) with
   |some (n::a)=>Out.ok (PyData.int (Ig n a))
   |_=>Out.bad)=_
  rw[mV];rfl
def dD.clen{c:aF}(i:dD c){k:Nat}{l:ListInt}(h:c.ci[k]?=some l):l.length<=200:=by have:=agf (lo:=1) (hi:=c.al.length) (i.up k l h) λy a=>i.mem k l h y a;have:=i.few;omega
section
variable{M:Mo}{L:Lay}{c:aF}(a:At M L c)
include a
theorem yH(x:Int):vD M [ob L.g,.int x]=if Vg c x then .ok .none else .exc ⟨"NoGround",[]⟩:=by
 let⟨n,m,b⟩:=a.hg
 have:=ao1 a x;by_cases h:Vg c x<;>simp[vD,Ah,b,dh,this,Ai,h]
theorem Qa(x:Int):j5 M [ob L.g,.int x]=if Vg c x then .ok (.int (X5 c x)) else .exc ⟨"NoGround",[]⟩:=by
 let⟨n,m,d⟩:=a.hg
 have b:=yH a x;by_cases h:Vg c x
 .let⟨k,hk,rfl⟩:=Fx h
  rw[awy h]at b |-
  simp[j5,oG,d,dh,b,aA,X5,hk]
 .rw[awz h]at b |-
  simp[j5,oG,d,dh,b,aA]
theorem wH(i:dD c)(x:Int):lu M [ob L.g,.int x]=if Vg c x then .ok (lI (bf c x)) else .exc ⟨"NoGround",[]⟩:=by
 let⟨n,m,e⟩:=a.hg
 have b:=yH a x;by_cases h:Vg c x
 .let⟨k,hk,rfl⟩:=Fx h
  have d:k<c.ci.length:=by rw[i.len];exact hk
  rw[awy h]at b |-
  simp[lu,pJ,e,dh,b,aA,bf,d]
 .rw[awz h]at b |-
  simp[lu,pJ,e,dh,b,aA]
theorem al2(i:dD c)(x:Int):qI M [ob L.g,.int x]=if Vg c x then .ok (.int (roomOf c x)) else .exc ⟨"NoGround",[]⟩:=by
 let⟨n,m,d⟩:=a.hg
 have b:=wH a i x;by_cases h:Vg c x
 .rw[awy h]at b |-
  let⟨k,hk,rfl⟩:=Fx h
  have e:k<c.ci.length:=by rw[i.len];exact hk
  have hc:c.ci[k]?=some (bf c ((k:Int)+1)):=by simp[bf,e]
  unfold roomOf;generalize bf c ((k:Int)+1)=l at hc b |-
  have o:l.length<=50000:=by have:=i.clen hc;omega
  have f:l.map (X5 c)≠[]:=λz=>by
   have:=i.own k l hc;rw[List.map_eq_nil_iff.mp z]at this;cases this
  have j:=eZ (tg:=au 2) (te:=aD eG (0) #[(2:),]) (M:=M) (ρ:=[#[ob L.g],#[.int ((k:Int)+1)],none]) PyData.int (λy=>.int (X5 c y)) l λy p=>⟨[#[ob L.g],#[.int ((k:Int)+1)],#[.int y]],by simp,by
   have:=Qa a y;rw[awy (i.mem k l hc y p)]at this;simp[d,dh,eG,this]⟩
  simp[qI,vM,d,dh,b,bx,j,o];have:=maxD_ints f;rw[avK]at this;simp[avG]at this |-
  simp[this]
 .rw[awz h]at b |-
  simp[qI,vM,d,dh,b,bx]
end
def uE(i:Inst):Bool:=i.fs.all λp=>Dg p.2
def uZ{M:Mo}{h:Nat}{i:Inst}(f:jo M=true)(g:uE i=true):jo (M.set h i)=true:=avx.mpr λj a=>(List.mem_or_eq_of_mem_set a).elim (avx.mp f j) λe=>e ▸ g
def J9{M:Mo}{i:Inst}(f:jo M=true)(g:uE i=true):jo (M++[i])=true:=avx.mpr λj a=>(avz.mp a).elim (avx.mp f j) λe=>avp.mp e ▸ g
@[simp]def apO (h:Nat):lf (ob h)=true:=by show lf (obj h)=true;rw[lf]
def jH{a:Type}{f:a->Dat}(h:∀x,lf (f x)=true)(l:List a):fZ (l.map f)=true:=Yb.mpr λd b=>by
 let⟨x,_,rfl⟩:=avr.mp b
 exact h x
def wN(l:ListInt):lf (aH l)=true:=by show lf (.tuple (l.map PyData.int))=true;simp
def ajx(r:Row3):lf (iK r)=true:=by show lf (.tuple [.int r.1,.int r.2.1,aH r.2.2])=true;simp[wN]
def apE(n m:Nat)(c:aF):uE (dh n m c)=true:=by have:=jH wN c.ci;simp[uE,dh,Dg,this]
def aqx(c:aF):uE (mY c)=true:=by have a:=jH ajx c.held;have b:=jH (f:=λ(_:Row3)=>PyData.bool true) (λ_=>adG true) c.held;simp[uE,mY,Dg,avG,a,b]
def aoQ(L:Lay)(c:aF):uE (aP L c)=true:=by have a:=jH (f:=λo:Int=>PyData.int o) (λo=>ag8 o) c.own;have b:=jH (f:=λ(_:Int)=>PyData.bool true) (λ_=>adG true) c.own;simp[uE,aP,Dg,avG,a,b]
def aqR(n:Nat)(L:Lay):uE (dI n L)=true:=by have a:=jH apO L.bs;simp[uE,dI,Dg,a]
def ajF(e:En):lf e.dat=true:=by cases e<;>simp[En.dat,wN]
def ajA(e:Fi):lf e.dat=true:=by cases e<;>simp[Fi.dat,wN]
def amC(n:Nat)(b:fJ):uE (iB n b)=true:=by
 have a:=jH ajF b.en;have c:lf (oN b.sd.due)=true:=by cases b.sd.due<;>simp[oN,wN]
 simp[uE,iB,Dg,a,c,ajA,wN]
def aW{M:Mo}{h k:Nat}{i j:Inst}(b:M[h]?=some j):(M.set h i)[k]?=if h=k then some i else M[k]?:=by
 have a:h<M.length:=(avf.mp b).1;rw[av5];by_cases e:h=k
 .subst e;rw[awy rfl,awy a,awy rfl]
 .rw[awz e,awz e]
def At.neq{M:Mo}{L:Lay}{c:aF}(a:At M L c):L.c≠L.g/\L.c≠L.r/\L.c≠L.h/\L.g≠L.r/\L.g≠L.h/\L.r≠L.h/\(∀x∈L.bs,L.c≠x/\L.g≠x/\L.r≠x/\L.h≠x)/\L.bs.Nodup:=by
 have nd:=a.nd;simp![awp,avw,not_or]at nd;let⟨⟨n1,f,i,j⟩,⟨k,l,m⟩,⟨n,o⟩,d,e⟩:=nd
 exact⟨n1,f,i,k,l,n,λx b=>⟨λz=>j (z ▸ b),λz=>m (z ▸ b),λz=>o (z ▸ b),λz=>d (z ▸ b)⟩,e⟩
def At.frS{M:Mo}{L:Lay}{c:aF}(a:At M L c){h:Nat}{i j:Inst}(e:M[h]?=some j)(hh:h∈L.c::L.g::L.r::L.h::L.bs):∀p∈L.fr,(M.set h i)[p.1]?=some p.2/\p.1∉L.c::L.g::L.r::L.h::L.bs:=λp f=>by
 let⟨d,b⟩:=a.fr p f
 refine⟨?_,b⟩;rw[aW e,awz (λ(z:h=p.1)=>b (z ▸ hh))];exact d
def At.setG{M:Mo}{L:Lay}{c:aF}(a:At M L c){al:ListInt}{ci:List ListInt}{n m:Nat}:At (M.set L.g (dh n m { c with al:=al,ci:=ci })) L { c with al:=al,ci:=ci }:=by
 let⟨u,t,hg⟩:=a.hg
 let⟨f,p,q,j,k,r,l,s⟩:=a.neq
 have d:=Ne.symm f;refine⟨?_,⟨n,m,?_⟩,?_,?_,a.len,λi h b e o=>?_,a.nd,a.frS hg (by simp)
  ,uZ a.lf (apE _ _ _)
  ⟩
 .rw[aW hg,awz d];exact a.hc
 .rw[aW hg,awy rfl]
 .rw[aW hg,awz j];exact a.hr
 .rw[aW hg,awz k];exact a.hh
 .rw[aW hg,awz (l h (avo e)).2.1];exact a.hb i h b e o
def At.ah7{M:Mo}{L:Lay}{c:aF}(a:At M L c){held:List Row3}:At (M.set L.r (mY { c with held:=held })) L { c with held:=held }:=by
 let⟨n,g,o,j,p,k,l,q⟩:=a.neq
 have d:=Ne.symm g;have e:=Ne.symm j;have hr:=a.hr;refine⟨?_,?_,?_,?_,a.len,λi h b f m=>?_,a.nd,a.frS hr (by simp)
  ,uZ a.lf (aqx _)
  ⟩
 .rw[aW hr,awz d];exact a.hc
 .rw[aW hr,awz e];exact a.hg
 .rw[aW hr,awy rfl]
 .rw[aW hr,awz k];exact a.hh
 .rw[aW hr,awz (l h (avo f)).2.2.1];exact a.hb i h b f m
def At.setC{M:Mo}{L:Lay}{c:aF}(a:At M L c){n:Int}{own:ListInt}:At (M.set L.c (aP L { c with count:=n,own:=own })) L { c with count:=n,own:=own }:=by
 let⟨e,f,g,l,m,o,j,p⟩:=a.neq
 have hc:=a.hc;refine⟨?_,?_,?_,?_,a.len,λi h b d k=>?_,a.nd,a.frS hc (by simp)
  ,uZ a.lf (aoQ _ _)
  ⟩
 .rw[aW hc,awy rfl]
 .rw[aW hc,awz e];exact a.hg
 .rw[aW hc,awz f];exact a.hr
 .rw[aW hc,awz g];exact a.hh
 .rw[aW hc,awz (j h (avo d)).1];exact a.hb i h b d k
def At.setB{M:Mo}{L:Lay}{c:aF}(a:At M L c){k h n:Nat}{b':fJ}(hk:L.bs[k]?=some h):At (M.set h (iB n b')) L { c with bs:=c.bs.set k b' }:=by
 let⟨r,s,t,u,v,w,j,l⟩:=a.neq
 have hl:k<c.bs.length:=by rw[<-a.len];exact(avf.mp hk).1
 let⟨n0,hb⟩:=a.hb k h _ hk (avi hl)
 let⟨m,o,p,q⟩:=j h (avo hk)
 refine⟨?_,?_,?_,?_,by simp[a.len],λi g b f d=>?_,a.nd,a.frS hb (by simp[avo hk])
  ,uZ a.lf (amC _ _)
  ⟩
 .rw[aW hb,awz (Ne.symm m)];exact a.hc
 .rw[aW hb,awz (Ne.symm o)];exact a.hg
 .rw[aW hb,awz (Ne.symm p)];exact a.hr
 .rw[aW hb,awz (Ne.symm q)];exact a.hh
 .by_cases e:i=k
  .subst e;rw[hk]at f;cases f;have d:(c.bs.set i b')[i]?=some b:=d;rw[avt hl]at d;cases d;exact⟨n,by rw[aW hb,awy rfl]⟩
  .have d:(c.bs.set k b')[i]?=some b:=d;rw[avm (Ne.symm e)]at d;have ne:h≠g:=λz=>by
    subst z;exact e ((List.getElem?_inj (avf.mp f).1 l).mp (f.trans hk.symm))
   rw[aW hb,awz ne];exact a.hb i g b f d
def At.arn{M:Mo}{L:Lay}{c:aF}(a:At M L c){M2:Mo}{h n n2:Nat}{b:fJ}(hh:M.length<=h)(q:∀k,k<M.length->M2[k]?=M[k]?)(hb:M2[h]?=some (iB n b))
  (G:jo M2=true)
  : At (M2.set L.h (dI n2 { L with bs:=L.bs++[h] })) { L with bs:=L.bs++[h] } { c with bs:=c.bs++[b] }:=by
 let⟨R,S,C,U,D,E,F,W⟩:=a.neq
 have lt:∀{k:Nat} {i:Inst},M[k]?=some i->k<M.length:=λz=>(avf.mp z).1;let⟨n0,Q,hg⟩:=a.hg
 let⟨n1,s⟩:=a.hh
 have l1:=lt a.hc;have J:=lt hg;have N:=lt a.hr;have O:=lt s;have A:∀x∈L.bs,x<M.length:=λx d=>by
  let⟨i,t,e⟩:=List.mem_iff_getElem.mp d
  let⟨X,z⟩:=a.hb i x _ (by rw[avi t,e]) (avi (by rw[<-a.len];exact t))
  exact lt z
 have j:M2[L.h]?=some (dI n1 L):=by rw[q _ O];exact s
 refine⟨?_,⟨n0,Q,?_⟩,?_,⟨n2,?_⟩,by simp[a.len],λi l u f o=>?_,?_,λp H=>?_
  ,uZ G (aqR _ _)
  ⟩
 .show(M2.set L.h _)[L.c]?=_
  rw[aW j,awz (Ne.symm C),q _ l1];exact a.hc
 .show(M2.set L.h _)[L.g]?=_
  rw[aW j,awz (Ne.symm D),q _ J];exact hg
 .show(M2.set L.h _)[L.r]?=_
  rw[aW j,awz (Ne.symm E),q _ N];exact a.hr
 .show(M2.set L.h _)[L.h]?=_
  rw[aW j,awy rfl]
 .have f:(L.bs++[h])[i]?=some l:=f;have o:(c.bs++[b])[i]?=some u:=o;by_cases t:i<L.bs.length
  .rw[avq t]at f;rw[avq (by rw[<-a.len];exact t)]at o;have m:=avo f;rw[aW j,awz (F l m).2.2.2,q _ (A l m)];exact a.hb i l u f o
  .rw[avv #[]]at f;rw[avv (by rw[<-a.len];omega),<-a.len]at o;have B:i-L.bs.length=0:=by
    have:=(avf.mp f).1;simp at this;omega
   rw[B]at f o;cases f;cases o;exact⟨n,by rw[aW j,awz #[]];exact hb⟩
 .have nd:=a.nd
  show(L.c::L.g::L.r::L.h::(L.bs++[h])).Nodup
  have:(L.c::L.g::L.r::L.h::(L.bs++[h]))=(L.c::L.g::L.r::L.h::L.bs)++[h]:=by simp
  rw[this,av4];refine⟨nd,by simp,λx d y I=>?_⟩;rw[avp.mp I];rcases avw.mp d with rfl|d
  .omega
  rcases avw.mp d with rfl|d
  .omega
  rcases avw.mp d with rfl|d
  .omega
  rcases avw.mp d with rfl|d
  .omega
  have:=A x d;omega
 .let⟨v,l⟩:=a.fr p H
  have hl:=lt v;refine⟨?_,?_⟩
  .show(M2.set L.h _)[p.1]?=_
   rw[aW j,awz (λ(z:L.h=p.1)=>l (by simp[<-z])),q _ hl];exact v
  .show p.1∉L.c::L.g::L.r::L.h::(L.bs++[h]);intro z;have:p.1∈(L.c::L.g::L.r::L.h::L.bs)++[h]:=by simpa using z
   rcases avz.mp this with z|z
   .exact l z
   .rw[avp]at z;omega
section
variable{M:Mo}{L:Lay}{c:aF}(a:At M L c)
include a
theorem Z6(i:dD c)(p:c.al.length<200)(x:Int):if 0<=x/\x<=9 then ∃b,fP M [ob L.g,.int x]=.ok (.int (c.al.length+1)) b/\At b L { c with al:=c.al++[x],ci:=c.ci++[[(c.al.length:Int)+1]] } else fP M [ob L.g,.int x]=.exc ⟨"BadAllowance",[]⟩ M:=by
 let⟨n,m,e⟩:=a.hg
 have o:∀i,(M.set L.g i)[L.g]?=some i:=λi=>by rw[aW e,awy rfl]
 by_cases h:0<=x/\x<=9
 .rw[awy h];refine⟨_,?_,a.setG (n:=n) (m:=m)⟩;have f:c.ci.length<100000:=by rw[i.len];omega
  have j:c.al.length<100000:=#[];simp[fP,jQ,qT,vH,fB,e,dh,o,h,iH,f,j];rfl
 .rw[awz h];have:decide (0<=x)=true->decide (x<=9)=false:=by simp;omega
  by_cases d:0<=x
  .have l:¬x<=9:=#[];simp[fP,jQ,iH,d,l]
  .simp[fP,jQ,iH,d]
end
def encl(a:List ListInt)(l:ListInt):List ListInt:=l.foldl (λs y=>s.set (y-1).toNat l) a
theorem Bg(l:ListInt):∀(k:ListInt) (a:List ListInt),(k.foldl (λs y=>s.set (y-1).toNat l) a).length=a.length
 |[],_=>rfl
 |y::k,a=>by rw[awh,Bg l k];simp
@[simp]def ark (n k:Nat):ixN n (k:Int)=if k<n then some k else none:=by
 unfold ixN;rw[awy #[]];by_cases h:k<n
 .rw[awy #[],awy h];simp
 .rw[awz #[],awz h]
section
variable{M:Mo}{L:Lay}{c:aF}{n m:Nat}(hg:M[L.g]?=some (dh n m c))
include hg
theorem Y5(l:ListInt):∀(k:ListInt) (s:List ListInt) (o:Option Cell),(∀y∈k,1<=y/\y<=s.length)->
  ∃a,fO (au 3) tR (k.map PyData.int) (M.set L.g (dh n m { c with ci:=s })) [#[ob L.g],#[lI l],#[aH l],o]=.next [#[ob L.g],#[lI l],#[aH l],a] (M.set L.g (dh n m { c with ci:=k.foldl (λs y=>s.set (y-1).toNat l) s }))
 |[],s,o,_=>⟨o,rfl⟩
 |y::k,s,o,h=>by
  have d:∀i,(M.set L.g i)[L.g]?=some i:=λi=>by rw[aW hg,awy rfl]
  obtain⟨j,b,rfl⟩:∃j:Nat,j<s.length/\y=(j:Int)+1:=⟨(y-1).toNat,by have:=h y avl;omega,by have:=h y avl;omega⟩;let⟨a,f⟩:=Y5 l k (s.set j l) #[.int ((j:Int)+1)] λz e=>by
   have:=h z (avk _ e);simpa using this
  refine⟨a,?_⟩;rw[avj,eU (Z1:=[#[ob L.g],#[lI l],#[aH l],#[.int ((j:Int)+1)]]) (M2:=M.set L.g (dh n m { c with ci:=s.set j l })) (Z2:=[#[ob L.g],#[lI l],#[aH l],#[.int ((j:Int)+1)]]) (by simp) (by simp[tR,d,dh,b,List.map_set]),f];simp
end
def aaN{M:Mo}{h:Nat}{i:Inst}(e:M[h]?=some i):M.set h i=M:=by
 apply avO;intro k;rw[aW e];split
 .next z=>rw[<-z,e]
 .rfl
section
variable{M:Mo}{L:Lay}{c:aF}(a:At M L c)
include a
theorem Ls(l:ListInt)(h:∀y∈l,1<=y/\y<=c.ci.length):∃d,lY M [ob L.g,lI l]=.ok (lI l) d/\At d L { c with ci:=encl c.ci l }:=by
 let⟨n,m,f⟩:=a.hg
 let⟨j,b⟩:=Y5 f l l c.ci none h
 have e:(dh n m { c with ci:=c.ci })=dh n m c:=rfl;rw[e,aaN f]at b;refine⟨_,?_,a.setG (n:=n) (m:=m) (al:=c.al)⟩;simp[lY,wg,b,encl]
end
def any_ints(y:Int)(l:ListInt):((l.map PyData.int).any λd=>PyData.eqv d (.int y))=decide (y∈l):=by
 induction l with
 |nil=>simp
 |cons x l a=>
  rw[avj,awc,a,abk];by_cases h:x=y
  .simp[h]
  .have:¬y=x:=λz=>h z.symm;simp[h,this]
def J8(neg:Bool)(y:Int)(l:ListInt):inD neg (.int y) (lI l)=.ok (.bool (neg ^^ decide (y∈l))):=by
 show(Out.when (okd 12 (.int y)&&mW 12 (l.map PyData.int)) (.ok ((l.map PyData.int).any λz=>PyData.eqv z (.int y)))).bind _=_
 rw[any_ints,aj3,YZ];rfl
section
variable{M:Mo}{L:Lay}{c:aF}(a:At M L c)
include a
theorem afy(i:dD c)(x y:Int)(s:Vg c x)(t:Vg c y):if y∈bf c x then lJ M [ob L.g,.int x,.int y]=.exc ⟨"Together",[]⟩ M else
  ∃j,lJ M [ob L.g,.int x,.int y]=.ok (lI (sortI (bf c x++bf c y))) j/\At j L { c with ci:=encl c.ci (sortI (bf c x++bf c y)) }:=by
 have p:=wH a i x;have q:=wH a i y;rw[awy s]at p;rw[awy t]at q;let⟨n,m,r⟩:=a.hg
 have e:c.ci[(x-1).toNat]?=some (bf c x):=by
  let⟨k,hk,rfl⟩:=Fx s
  have d:k<c.ci.length:=by rw[i.len];exact hk
  simp[bf,d]
 have f:c.ci[(y-1).toNat]?=some (bf c y):=by
  let⟨k,hk,rfl⟩:=Fx t
  have d:k<c.ci.length:=by rw[i.len];exact hk
  simp[bf,d]
 by_cases h:y∈bf c x
 .rw[awy h];simp[lJ,ux,r,dh,bx,p,q,J8,h]
 .rw[awz h];have A:∀z∈sortI (bf c x++bf c y),1<=z/\z<=c.ci.length:=λz b=>by
   unfold sortI at b;rw[List.mem_mergeSort,avz]at b;rw[i.len];rcases b with b|b
   .exact i.mem _ _ e z b
   .exact i.mem _ _ f z b
  let⟨j,u,v⟩:=Ls a _ A
  refine⟨j,?_,v⟩;have B:=i.clen e;have C:=i.clen f;have o:Mp (lI (bf c x++bf c y))=.ok (lI (sortI (bf c x++bf c y))):=by
   show(match intsOf ((bf c x++bf c y).map PyData.int) with
    |some l=>Out.ok (PyData.list ((sortI l).map PyData.int))
    |none=>_)=_
   rw[mV]
  have b:(bf c x).length+(bf c y).length<=100000:=#[];have o:Mp (.list ((bf c x).map PyData.int++(bf c y).map PyData.int))=.ok (lI (sortI (bf c x++bf c y))):=by rw[<-avN];exact o
  simp[lJ,ux,r,dh,bx,gW,p,q,J8,h,b,o,u]
theorem aho(i:dD c)(x:Int):if Vg c x then(if (bf c x).filter (λy=>!(y==x))=[] then jC M [ob L.g,.int x]=.exc ⟨"Alone",[]⟩ M else
  ∃t,jC M [ob L.g,.int x]=.ok (lI ((bf c x).filter (λy=>!(y==x)))) t/\At t L { c with ci:=encl (encl c.ci [x]) ((bf c x).filter (λy=>!(y==x))) }) else jC M [ob L.g,.int x]=.exc ⟨"NoGround",[]⟩ M:=by
 have f:=wH a i x;let⟨n,m,q⟩:=a.hg
 by_cases j:Vg c x
 .rw[awy j]at f |-
  have d:c.ci[(x-1).toNat]?=some (bf c x):=by
   let⟨k,hk,rfl⟩:=Fx j
   have s:k<c.ci.length:=by rw[i.len];exact hk
   simp[bf,s]
  have v:(bf c x).length<=50000:=by have:=i.clen d;omega
  have b:=gq (tg:=au 3) (tt:=dR (aK Ae (3) (1))) (te:=zE 3) (M:=M) (ρ:=[#[ob L.g],#[.int x],none,none]) PyData.int (λy=>!(y==x)) PyData.int (bf c x) λy _=>⟨[#[ob L.g],#[.int x],none,#[.int y]],by simp,by simp,λ_=>by simp⟩;by_cases e:(bf c x).filter (λy=>!(y==x))=[]
  .rw[awy e];rw[e]at b;simp![awe]at b;simp[jC,qM,q,dh,bx,f,b,v]
  .rw[awz e];generalize C:(bf c x).filter (λy=>!(y==x))=left at e b;have D:∀z∈left,1<=z/\z<=(encl c.ci [x]).length:=λz l=>by
    rw[<-C,avF]at l;unfold encl;rw[Bg,i.len];exact i.mem _ _ d z l.1
   let⟨M1,o,u⟩:=Ls a [x] (λz l=>by rw[avp.mp l,i.len];exact j)
   let⟨M2,B,A⟩:=Ls u left D
   refine⟨M2,?_,A⟩;let⟨F,E,r⟩:=u.hg
   have o:lY M [ob L.g,.list [.int x]]=.ok (.list [.int x]) M1:=o;have p:left.isEmpty=false:=by cases left with
    |nil=>exact absurd rfl e
    |cons _ _=>rfl
   simp[jC,qM,q,r,dh,bx,gW,f,b,v,o,B,p]
 .rw[awz j]at f |-
  simp[jC,qM,q,dh,bx,f]
end
def alq(o g:Int)(m:ListInt)(c a:Int)(b:ListInt):PyData.eqv (iK (o,g,m)) (iK (c,a,b))=decide ((o,g,m)=(c,a,b)):=by simp![iK,abo,aeL,abk,Ck,alk,Bool.and_true];by_cases d:o=c<;>by_cases e:g=a<;>by_cases f:m=b<;>simp[d,e,f]
def ahw(r s:Row3):PyData.eqv (iK r) (iK s)=decide (r=s):=alq _ _ _ _ _ _
theorem Zm:∀l:ListInt,zm (l.map PyData.int)=some (l.map NestedKey.num)
 |[]=>rfl
 |i::l=>by rw[avj,zm,Zm l];rfl
def aoF(r:Row3):uU (iK r)=some (.tup [.num r.1,.num r.2.1,.tup (r.2.2.map .num)]):=by simp[iK,uU,zm,Zm]
theorem depth_ints:∀l:ListInt,NestedKey.depthAll (l.map NestedKey.num)<=1
 |[]=>by simp[NestedKey.depthAll]
 |i::l=>by
  have:=depth_ints l;simp[NestedKey.depthAll,NestedKey.depth];omega
def Yt(a:List (Dat×Dat))(r:Row3):dhas true a (iK r)=.ok (a.any λp=>PyData.eqv p.1 (iK r)):=by
 have hk:=aoF r;have b:NestedKey.depth (.tup [.num r.1,.num r.2.1,.tup (r.2.2.map .num)])<=8:=by have:=depth_ints r.2.2;simp[NestedKey.depth,NestedKey.depthAll];omega
 show(match uU (iK r) with
  |some k=>match decide (k.depth<=8) with
   |true=>Out.ok (a.any λp=>PyData.eqv p.1 (iK r))
   |false=>.bad
  |none=>.bad)=_
 rw[hk]
 show(match decide (NestedKey.depth (.tup [.num r.1,.num r.2.1,.tup (r.2.2.map .num)])<=8) with
   |true=>Out.ok (a.any λp=>PyData.eqv p.1 (iK r))
   |false=>.bad)=_
 rw[decide_eq_true b]
def acw(a:List Row3)(r:Row3):((a.map λr=>(iK r,PyData.bool true)).any λp=>PyData.eqv p.1 (iK r))=decide (r∈a):=by
 induction a with
 |nil=>simp
 |cons s a b=>
  rw[avj,awc,b,ahw];by_cases h:s=r
  .simp[h]
  .have:¬r=s:=λz=>h z.symm;simp[h,this]
def bR(c:aF)(o g:Int):List ListInt:=(c.held.filter λr=>(r.1==o)&&(r.2.1==g)).map λr=>r.2.2
section
variable{M:Mo}{L:Lay}{c:aF}(a:At M L c)(few:c.held.length<=50000)
include a few
theorem KY(o g:Int):vR M [ob L.r,.int o,.int g]=.ok (.list ((bR c o g).map aH)):=by
 have d:=a.hr;have b:=gq (tg:=aX [3,4,5]) (tt:=mX #[(3)=(1)] #[(4)=(2)]) (te:=zE 5) (M:=M) (ρ:=[#[ob L.r],#[.int o],#[.int g],none,none,none]) iK (λr=>(r.1==o)&&(r.2.1==g)) (λr=>aH r.2.2) c.held λr _=>⟨[#[ob L.r],#[.int o],#[.int g],#[.int r.1],#[.int r.2.1],#[aH r.2.2]],by simp[iK],by
  by_cases h:r.1=o<;>simp[h],λ_=>by simp⟩
 have e:(c.held.map λr=>(iK r,PyData.bool true)).map (·.1)=c.held.map iK:=by simp
 simp[vR,Bc,d,mY,bR];simp[avG,b,few]
theorem acv(o g:Int):pO M [ob L.r,.int o,.int g]=.ok (.bool (decide (bR c o g≠[]))):=by have b:=a.hr;have h:=KY a few o g;simp[pO,uK,b,mY,cG,h,List.length_pos_iff]
theorem Z5(b:ListInt):oF M [ob L.r,lI b]=.ok (.list ((c.held.filter λr=>decide (r.2.1∈b)).map λr=>Ear.rD (r.1,r.2.2))):=by have e:=a.hr;have d:=gq (tg:=aX [2,3,4]) (tt:=dR (aK (inD false) (3) (1))) (te:=bh #[(2:),(4:)]) (M:=M) (ρ:=[#[ob L.r],#[lI b],none,none,none]) iK (λr=>decide (r.2.1∈b)) (λr=>Ear.rD (r.1,r.2.2)) c.held λr _=>⟨[#[ob L.r],#[lI b],#[.int r.1],#[.int r.2.1],#[aH r.2.2]],by simp[iK],by simp[J8],λ_=>by simp[Ear.rD,Ear.dT]⟩;simp[oF,uw,e,mY];simp[avG,d,few]
theorem adq:qj M [ob L.r]=.ok (.list (c.held.map iK)):=by have b:=a.hr;simp[qj,vZ,b,mY,avG]
theorem OD(o g:Int)(m:ListInt):if (o,g,m)∈c.held then jB M [ob L.r,.int o,.int g,aH m]=.exc ⟨"HasRight",[]⟩ M else
  ∃d,jB M [ob L.r,.int o,.int g,aH m]=.ok .none d/\At d L { c with held:=c.held++[(o,g,m)] }:=by
 have e:=a.hr;have b:=Yt (c.held.map λr=>(iK r,PyData.bool true)) (o,g,m);rw[acw]at b;simp![iK]at b;have f:c.held.length<100000:=#[];by_cases h:(o,g,m)∈c.held
 .rw[awy h];simp[h]at b;simp[jB,pF,e,mY,iK,b]
 .rw[awz h];refine⟨_,?_,a.ah7⟩;simp[h]at b;simp[jB,pF,e,mY,iK,b,f]
end
def af0(a:List Row3)(r:Row3):((a.map λr=>(iK r,PyData.bool true)).filter λp=>!PyData.eqv p.1 (iK r))=(a.filter λs=>decide (s≠r)).map λr=>(iK r,PyData.bool true):=by
 induction a with
 |nil=>rfl
 |cons s a b=>
  simp![avj,av6,ahw,b];by_cases h:s=r<;>simp[h]
def aaz(o g:Int)(k:List ListInt)(s:List Row3):List Row3:=k.foldl (λs mk=>s.filter λr=>decide (r≠(o,g,mk))) s
section
variable{M:Mo}{L:Lay}{c:aF}(hr:M[L.r]?=some (mY c))
include hr
theorem ZG(o g:Int)(a:List ListInt):∀(k:List ListInt) (s:List Row3) (x:Option Cell),k.Nodup->(∀mk∈k,(o,g,mk)∈s)->s.length<=50000->
  ∃j,fO (au 4) zL (k.map aH) (M.set L.r (mY { c with held:=s })) [#[ob L.r],#[.int o],#[.int g],#[.list (a.map aH)],x]=.next [#[ob L.r],#[.int o],#[.int g],#[.list (a.map aH)],j] (M.set L.r (mY { c with held:=aaz o g k s }))
 |[],s,x,_,_,_=>⟨x,rfl⟩
 |mk::k,s,x,f,h,t=>by
  have u:∀i,(M.set L.r i)[L.r]?=some i:=λi=>by rw[aW hr,awy rfl]
  rw[awp]at f;have l:=Yt (s.map λr=>(iK r,PyData.bool true)) (o,g,mk);rw[acw,decide_eq_true (h mk avl)]at l;have q:=af0 s (o,g,mk);have n:s.length<=100000:=#[];let⟨j,v⟩:=ZG o g a k (s.filter λr=>decide (r≠(o,g,mk))) #[aH mk] f.2 (λz m=>by
   rw[avF];refine⟨h z (avk _ m),decide_eq_true λe=>?_⟩;have:z=mk:=by simpa using e
   exact f.1 (this ▸ m)) (avH (avD _ _) t)
  refine⟨j,?_⟩;rw[avj,eU (Z1:=[#[ob L.r],#[.int o],#[.int g],#[.list (a.map aH)],#[aH mk]]) (M2:=M.set L.r (mY { c with held:=s.filter λr=>decide (r≠(o,g,mk)) })) (Z2:=[#[ob L.r],#[.int o],#[.int g],#[.list (a.map aH)],#[aH mk]]) (by simp) ?_,v]
  .rfl
  .have b:dhas true (s.map λr=>(iK r,PyData.bool true)) (.tuple [.int o,.int g,aH mk])=.ok true:=l;have d:((s.map λr=>(iK r,PyData.bool true)).filter λp=>!PyData.eqv p.1 (.tuple [.int o,.int g,aH mk]))=(s.filter λs=>decide (s≠(o,g,mk))).map λr=>(iK r,PyData.bool true):=q;simp[zL,u,mY,b,n];rw[d];simp
end
theorem acJ(o g:Int):∀(k:List ListInt) (s:List Row3),aaz o g k s=s.filter λr=>decide (∀mk∈k,r≠(o,g,mk))
 |[],s=>(List.filter_eq_self.mpr (by simp)).symm
 |mk::k,s=>by
  show aaz o g k (s.filter _)=_;rw[acJ o g k,awi];congr 1;funext r;by_cases a:r=(o,g,mk)<;>simp[a]
def dropped(c:aF)(o g:Int):List Row3:=c.held.filter λr=>!((r.1==o)&&(r.2.1==g))
def afg(c:aF)(o g:Int):aaz o g (bR c o g) c.held=dropped c o g:=by
 rw[acJ];unfold dropped;refine List.filter_congr λr b=>?_;let⟨x,y,z⟩:=r
 by_cases h:x=o/\y=g
 .let⟨rfl,rfl⟩:=h
  have:z∈bR c x y:=by unfold bR;rw[avr];exact⟨(x,y,z),by rw[avF];exact⟨b,by simp⟩,rfl⟩
  simp;exact this
 .have e:(!((x==o)&&(y==g)))=true:=by
   by_cases d:x=o<;>by_cases f:y=g<;>simp_all
  have a:∀mk∈bR c o g,(x,y,z)≠(o,g,mk):=λmk _ z=>by
   simp at z;exact h ⟨z.1,z.2.1⟩
  rw[e,decide_eq_true a]
def acZ{c:aF}(h:c.held.Nodup)(o g:Int):(bR c o g).Nodup:=by
 unfold bR;have a:(c.held.filter λr=>(r.1==o)&&(r.2.1==g)).Nodup:=h.filter _;unfold List.Nodup at a |-
 rw[List.pairwise_map];refine List.Pairwise.imp_of_mem (λ{r s} hr hs ne e=>ne ?_) a;rw[avF]at hr hs;let⟨r1,b,d⟩:=r
 let⟨f,i,j⟩:=s
 have:=hr.2;have:=hs.2;simp at *;let⟨rfl,rfl⟩:=hr.2
 let⟨rfl,rfl⟩:=hs.2
 exact⟨rfl,rfl,e⟩
section
variable{M:Mo}{L:Lay}{c:aF}(a:At M L c)(few:c.held.length<=50000)(nd:c.held.Nodup)
include a few nd
theorem aku(o g:Int):if bR c o g=[] then oX M [ob L.r,.int o,.int g]=.exc ⟨"NoRight",[]⟩ M else
  ∃k,oX M [ob L.r,.int o,.int g]=.ok (.list ((bR c o g).map aH)) k/\At k L { c with held:=dropped c o g }:=by
 have f:=a.hr;have i:=KY a few o g;by_cases h:bR c o g=[]
 .rw[awy h];rw[h]at i;simp[oX,wV,f,mY,cG,i]
 .rw[awz h];let⟨p,d⟩:=ZG f o g (bR c o g) (bR c o g) c.held none (acZ nd o g) (λmk b=>by
   unfold bR at b;rw[avr]at b;let⟨⟨r1,m,n⟩,j,rfl⟩:=b
   rw[avF]at j;have:=j.2;simp at this;let⟨rfl,rfl⟩:=this
   exact j.1) few
  have e:(mY { c with held:=c.held })=mY c:=rfl;rw[e,aaN f,afg]at d;refine⟨_,?_,a.ah7⟩;have l:(bR c o g).isEmpty=false:=by
   cases b:bR c o g with
   |nil=>exact absurd b h
   |cons _ _=>rfl
  simp[oX,wV,f,mY,cG,i,l];simp[d];rfl
end
def Iu(a:List Row3)(r:Row3):List Row3:=if r∈a then a else a++[r]
def Ez(e h:Int)(r:Row3):Row3:=(if r.1=e then h else r.1,r.2.1,r.2.2)
def handed(c:aF)(e h:Int):List Row3:=(c.held.map (Ez e h)).foldl Iu []
theorem adz{tg:ig}{tk:QF}{M:Mo}{ρ:Rf.Env}(f:Row3->Row3):∀(c a:List Row3),(∀x∈c,∃d,tg (iK x) ρ=some d/\tk M d=.ok (iK (f x)))->JN tg tk M ρ (c.map iK) (a.map λr=>(iK r,PyData.bool true))=.ok (((c.map f).foldl Iu a).map λr=>(iK r,PyData.bool true))
 |[],a,_=>rfl
 |x::c,a,h=>by
  let⟨d,g,i⟩:=h x avl
  rw[avj,JN,g]
  show((zP (tk M d)).bind λk=>(dhas true _ k).bind λr=>_)=_
  rw[i,aaL,Out.Bj,Yt,acw,Out.Bj,avj,awh];have b:=adz f c (Iu a (f x)) λy j=>h y (avk _ j);unfold Iu at b |-
  by_cases e:f x∈a
  .rw[awy e]at b |-
   rw[decide_eq_true e];exact b
  .rw[awz e]at b |-
   rw[decide_eq_false e];rw[avN]at b;exact b
section
variable{M:Mo}{L:Lay}{c:aF}(a:At M L c)(few:c.held.length<=50000)
include a few
theorem acN(e h:Int):∃l,o7 M [ob L.r,.int e,.int h]=.ok .none l/\At l L { c with held:=handed c e h }:=by
 have g:=a.hr;have x:L.r<M.length:=(avf.mp g).1;have j:(M++[(⟨"",[]⟩:Inst)])[L.r]?=some (mY c):=by rw[avq x];exact g
 have f:=adz (tg:=aX [3,4,5]) (tk:=bh #[Om #[(3)=(1)] (2:) (3:),(4:),(5:)]) (M:=M) (ρ:=[#[ob L.r],#[.int e],#[.int h],none,none,none]) (Ez e h) c.held [] λr _=>⟨[#[ob L.r],#[.int e],#[.int h],#[.int r.1],#[.int r.2.1],#[aH r.2.2]],by simp[iK],by
  by_cases z:r.1=e<;>simp[z,Ez,iK]⟩
 have q:At (M++[⟨"",[]⟩]) L c:=by
  have d:∀{k:Nat} {i:Inst},M[k]?=some i->(M++[(⟨"",[]⟩:Inst)])[k]?=some i:=λz=>by rw[avq (avf.mp z).1];exact z
  let⟨n,m,u⟩:=a.hg
  let⟨y,v⟩:=a.hh
  exact⟨d a.hc,⟨n,m,d u⟩,d a.hr,⟨y,d v⟩,a.len,λi h b s t=>by
   let⟨A,z⟩:=a.hb i h b s t
   exact⟨A,d z⟩,a.nd,λp o=>⟨d (a.fr p o).1,(a.fr p o).2⟩
  ,J9 a.lf rfl
  ⟩
 refine⟨_,?_,q.ah7⟩;simp![awe]at f;simp[o7,u9,g,j,mY,jk];simp[avG,f,few,handed]
end
@[simp]theorem aul (n:Nat) (b:fJ):(iB n b).cls="Beast":=rfl
def adi{M:Mo}{h n:Nat}{b:fJ}(a:M[h]?=some (iB n b))(s:Sd):nZ M [ob h,s.dat]=.ok .none (M.set h (iB n { b with sd:=s })):=by
 have c:∀i,(M.set h i)[h]?=some i:=λi=>by rw[aW a,awy rfl]
 simp[nZ,rQ,Sd.dat,a,iB,c,jk]
def aaI{M:Mo}{h n:Nat}{b:fJ}(a:M[h]?=some (iB n b)):xU M [ob h]=.ok b.sd.dat:=by simp[xU,Ea,Sd.dat,a,iB]
def uL{M:Mo}{h n:Nat}{b:fJ}(c:M[h]?=some (iB n b))(e:En)(p:b.sd.ear.length<=1000)(r:b.en.length<=50000):nJ M [ob h,e.dat]=.ok .none (M.set h (iB n { b with en:=b.en++[e],sd:=go b.sd e })):=by
 have q:∀i,(M.set h i)[h]?=some i:=λi=>by rw[aW c,awy rfl]
 have a:(M.set h (iB n { b with en:=b.en++[e] }))[h]?=some (iB n { b with en:=b.en++[e] }):=q _;have f:=aaI a;have j:=gone_ok (M.set h (iB n { b with en:=b.en++[e] })) b.sd e p;have l:=adi a (go b.sd e);have m:b.en.length+1<100000:=#[];have d:M.set h ⟨"Beast",[("story",.lst n (b.fi.dat::(b.en.map En.dat++[e.dat]))),("mother",.dat (.int b.mo)),("owner",.dat (.int b.sd.o)),("ground",.dat (.int b.sd.g)),("due",.dat (oN b.sd.due)),("ear",.dat (aH b.sd.ear)),("alive",.dat (.bool b.sd.al))]⟩=M.set h (iB n { b with en:=b.en++[e] }):=by simp[iB]
 simp[nJ,Bb,c,iB,m];rw[d];simp[a,nH,jU,f,j,l];simp[iB]
def apy:Fi->Int
 |.born m _ _=>m
 |_=>0
def Dz(f:Fi):fJ:=⟨f,[],apy f,beg f⟩
def alB(M:Mo)(f:Fi):uQ (M++[⟨"Beast",[]⟩]) [ob M.length,f.dat]=.ok .none (M++[iB (M.length+1) (Dz f),⟨"",[]⟩]):=by
 have a:=λM=>ahT M f;have b:∀i (r:List Inst),(M++i::r)[M.length]?=some i:=λi r=>by simp
 have c:∀i j (r:List Inst),(M++i::r).set M.length j=M++j::r:=λi j r=>by simp
 cases f<;>simp[uQ,Gx,Fi.dat,b,c,jk,nZ,rQ,jU,Fl,Rj,jO,iB,Dz,apy,beg,oN,Fi.dat]
def bV(L:Lay)(c:aF):List (Nat×Nat×fJ):=(L.bs.zip c.bs).mapIdx λi p=>(i,p.1,p.2)
def nb(x:Nat×Nat×fJ):Dat:=.tuple [.int ((x.1:Int)+1),ob x.2.1]
def CP{L:Lay}{c:aF}{x:Nat×Nat×fJ}(h:x∈bV L c):L.bs[x.1]?=some x.2.1/\c.bs[x.1]?=some x.2.2:=by
 unfold bV at h;let⟨i,b,e⟩:=List.mem_mapIdx.mp h
 have a:=avi b;rw[av7]at a;subst e;exact a
def At.hb'{M:Mo}{L:Lay}{c:aF}(a:At M L c){x:Nat×Nat×fJ}(h:x∈bV L c):∃n,M[x.2.1]?=some (iB n x.2.2):=by
 let⟨b,d⟩:=CP h
 exact a.hb _ _ _ b d
def At.len'{M:Mo}{L:Lay}{c:aF}(a:At M L c):(bV L c).length=c.bs.length:=by unfold bV;simp[a.len]
def At.enum{M:Mo}{L:Lay}{c:aF}(a:At M L c):vC 1 (L.bs.map ob)=(bV L c).map nb:=by
 unfold vC bV;apply avO;intro i;simp![av3,avy];by_cases d:i<L.bs.length
 .have b:i<c.bs.length:=by rw[<-a.len];exact d
  have e:(L.bs.zip c.bs)[i]?=some (L.bs[i],c.bs[i]):=by rw[av7];exact⟨avi d,avi b⟩
  rw[e];simp[d,nb,Int.add_comm]
 .have b:¬i<c.bs.length:=by rw[<-a.len];exact d
  have:(L.bs.zip c.bs)[i]?=none:=by rw[List.getElem?_eq_none_iff,List.length_zip];omega
  simp[avJ (by omega:L.bs.length<=i),this]
section
variable{M:Mo}{L:Lay}{c:aF}(a:At M L c)(few:c.bs.length<=50000)
include a few
theorem Du:qp M [ob L.h]=.ok (.list (((bV L c).filter λx=>x.2.2.sd.al).map nb)):=by
 let⟨n,f⟩:=a.hh
 have g:=a.len';have e:=a.enum;have b:=gq (tg:=aX [1,2]) (tt:=fH (aY "alive" (2))) (te:=bh #[(1:),(2:)]) (M:=M) (ρ:=[#[ob L.h],none,none]) nb (λx=>x.2.2.sd.al) nb (bV L c) λx i=>⟨[#[ob L.h],#[.int ((x.1:Int)+1)],#[ob x.2.1]],by simp[nb],by
  let⟨n,d⟩:=a.hb' i
  simp[d,iB],λ_=>by simp[nb]⟩
 simp[qp,vX,f,dI];rw[e];simp[b,g,few]
theorem Lq(b:ListInt):qH M [ob L.h,lI b]=.ok (.list (((bV L c).filter λx=>decide (x.2.2.sd.g∈b)&&x.2.2.sd.al).map nb)):=by
 let⟨n,i⟩:=a.hh
 have e:=Du a few;have j:((bV L c).filter λx=>x.2.2.sd.al).length<=50000:=avH (avD _ _) (by rw[a.len'];exact few);have d:=gq (tg:=aX [2,3]) (tt:=dR (aK (inD false) (aY "ground" (3)) (1))) (te:=bh #[(2:),(3:)]) (M:=M) (ρ:=[#[ob L.h],#[lI b],none,none]) nb (λx=>decide (x.2.2.sd.g∈b)) nb ((bV L c).filter λx=>x.2.2.sd.al) λx l=>⟨[#[ob L.h],#[lI b],#[.int ((x.1:Int)+1)],#[ob x.2.1]],by simp[nb],by
  let⟨n,f⟩:=a.hb' (avF.mp l).1
  simp[f,iB,J8],λ_=>by simp[nb]⟩
 rw[awi]at d;simp[qH,Ao,i,dI,dX,e,d,j]
theorem aiR(o:Int):zQ M [ob L.h,.int o]=.ok (.list (((bV L c).filter λx=>(x.2.2.sd.o==o)&&x.2.2.sd.al).map nb)):=by
 let⟨n,f⟩:=a.hh
 have d:=Du a few;have g:((bV L c).filter λx=>x.2.2.sd.al).length<=50000:=avH (avD _ _) (by rw[a.len'];exact few);have b:=gq (tg:=aX [2,3]) (tt:=#[(aY "owner" (3))=(1)]) (te:=bh #[(2:),(3:)]) (M:=M) (ρ:=[#[ob L.h],#[.int o],none,none]) nb (λx=>x.2.2.sd.o==o) nb ((bV L c).filter λx=>x.2.2.sd.al) λx i=>⟨[#[ob L.h],#[.int o],#[.int ((x.1:Int)+1)],#[ob x.2.1]],by simp[nb],by
  let⟨n,e⟩:=a.hb' (avF.mp i).1
  simp[e,iB],λ_=>by simp[nb]⟩
 rw[awi]at b;simp[zQ,Gi,f,dI,dX,d,b,g]
theorem abl(k:Int):lF M [ob L.h,.int k]=if 1<=k/\k<=c.bs.length then .ok (ob ((L.bs[(k-1).toNat]?).getD 0)) else .exc ⟨"NoBeast",[]⟩:=by
 let⟨n,e⟩:=a.hh
 have f:(L.bs.length:Int)=c.bs.length:=by rw[a.len]
 by_cases h:1<=k/\k<=c.bs.length
 .rw[awy h];obtain⟨j,rfl⟩:∃j:Nat,k=(j:Int)+1:=⟨(k-1).toNat,#[]⟩;have g:j<L.bs.length:=by have:=a.len;omega
  have b:(1:Int)<=j+1:=#[];have d:(j:Int)+1<=L.bs.length:=#[];simp[lF,uM,e,dI,b,d,g]
 .rw[awz h];by_cases b:1<=k
  .have d:¬k<=L.bs.length:=#[];simp[lF,uM,e,dI,b,d]
  .simp[lF,uM,e,dI,b]
end
def bk(c:aF)(k:Int):Option fJ:=if 1<=k/\k<=c.bs.length then c.bs[(k-1).toNat]? else none
def hk(L:Lay)(k:Int):Nat:=(L.bs[(k-1).toNat]?).getD 0
def sW(b:fJ)(e:En):fJ:={ b with en:=b.en++[e],sd:=go b.sd e }
def iw(c:aF)(i:Nat)(e:En):aF:={ c with bs:=c.bs.modify i λb=>sW b e }
def tG{M:Mo}{L:Lay}{c:aF}(a:At M L c){k:Int}{b:fJ}(h:bk c k=some b):1<=k/\k<=c.bs.length/\L.bs[(k-1).toNat]?=some (hk L k)/\c.bs[(k-1).toNat]?=some b/\∃n,M[hk L k]?=some (iB n b):=by
 unfold bk at h;left
 .next d=>
  have f:(k-1).toNat<L.bs.length:=by have:=a.len;omega
  have e:L.bs[(k-1).toNat]?=some (hk L k):=by unfold hk;rw[avi f];rfl
  exact⟨d.1,d.2,e,h,a.hb _ _ _ e h⟩
 .cases h
def alv{c:aF}{k:Int}(h:bk c k=none):¬(1<=k/\k<=c.bs.length):=λz=>by
 unfold bk at h;rw[awy z,List.getElem?_eq_none_iff]at h;omega
section
variable{M:Mo}{L:Lay}{c:aF}(a:At M L c)(few:c.bs.length<=50000)
include a few
theorem Lj{k:Int}{b:fJ}(h:bk c k=some b):lF M [ob L.h,.int k]=.ok (ob (hk L k)):=by
 let⟨d,e,_⟩:=tG a h
 rw[abl a few,awy ⟨d,e⟩];rfl
theorem Wm{k:Int}(h:bk c k=none):lF M [ob L.h,.int k]=.exc ⟨"NoBeast",[]⟩:=by rw[abl a few,awz (alv h)]
theorem Hr(k:Int):sU M [ob L.h,.int k]=match bk c k with
  |none=>.exc ⟨"NoBeast",[]⟩
  |some b=>if b.sd.al then .ok (ob (hk L k)) else .exc ⟨"Dead",[]⟩:=by
 let⟨n,e⟩:=a.hh
 cases h:bk c k with
 |none=>
  have d:=Wm a few h;simp[sU,xX,e,dI,fQ,d]
 |some b=>
  have d:=Lj a few h;let⟨_,_,_,_,i,g⟩:=tG a h
  cases f:b.sd.al<;>simp[sU,xX,e,dI,fQ,d,g,iB,f]
theorem Pj(k:Int):oU M [ob L.h,.int k]=match bk c k with
  |none=>.exc ⟨"NoBeast",[]⟩
  |some b=>if b.sd.al then(if b.sd.due=none then .exc ⟨"Unmarked",[]⟩ else .ok (ob (hk L k))) else .exc ⟨"Dead",[]⟩:=by
 let⟨n,f⟩:=a.hh
 have d:=Hr a few k;cases h:bk c k with
 |none=>
  rw[h]at d;simp[oU,sV,f,dI,bD,d]
 |some b=>
  rw[h]at d;let⟨_,_,_,_,j,i⟩:=tG a h
  cases e:b.sd.al with
  |false=>
   simp[e]at d;simp[oU,sV,f,dI,bD,d,e]
  |true=>
   simp[e]at d;cases g:b.sd.due<;>simp[oU,sV,f,dI,bD,d,i,iB,e,g,oN,nQ]
def Cg(k:Int)(b:fJ):Bool:=(b.mo==k)&&b.sd.due.isNone
theorem afJ(k:Int):sO M [ob L.h,.int k]=match bk c k with
  |none=>.exc ⟨"NoBeast",[]⟩
  |some _=>.ok (.list (((bV L c).filter λx=>Cg k x.2.2&&x.2.2.sd.al).map nb)):=by
 let⟨n,f⟩:=a.hh
 have g:=Du a few;have l:((bV L c).filter λx=>x.2.2.sd.al).length<=50000:=avH (avD _ _) (by rw[a.len'];exact few);have e:=gq (tg:=aX [2,3]) (tt:=mX #[(aY "mother" (3))=(1)] (dR (yK false .none (aY "due" (3))))) (te:=bh #[(2:),(3:)]) (M:=M) (ρ:=[#[ob L.h],#[.int k],none,none]) nb (λx=>Cg k x.2.2) nb ((bV L c).filter λx=>x.2.2.sd.al) λx m=>⟨[#[ob L.h],#[.int k],#[.int ((x.1:Int)+1)],#[ob x.2.1]],by simp[nb],by
  let⟨n,j⟩:=a.hb' (avF.mp m).1
  by_cases d:x.2.2.mo=k<;>cases i:x.2.2.sd.due<;>simp[j,iB,Cg,d,i,oN,nQ],λ_=>by simp[nb]⟩
 rw[awi]at e;cases h:bk c k with
 |none=>
  have d:=Wm a few h;simp[sO,wX,f,dI,fQ,d]
 |some b=>
  have d:=Lj a few h;simp[sO,wX,f,dI,fQ,dX,g,d,e,l]
theorem Oe(f:Fi)(o:c.bs.length<50000):∃e h,rO M [ob L.h,f.dat]=.ok (.int (c.bs.length+1)) e/\At e { L with bs:=L.bs++[h] } { c with bs:=c.bs++[Dz f] }:=by
 let⟨n,d⟩:=a.hh
 have j:L.h<M.length:=(avf.mp d).1;have g:=alB M f;have b:(M++[iB (M.length+1) (Dz f),⟨"",[]⟩])[L.h]?=some (dI n L):=by rw[avq j];exact d
 have l:∀i,((M++[iB (M.length+1) (Dz f),(⟨"",[]⟩:Inst)]).set L.h i)[L.h]?=some i:=λi=>by rw[aW b,awy rfl]
 have m:c.bs.length<100000:=#[];refine⟨_,M.length,?_,a.arn (M2:=M++[iB (M.length+1) (Dz f),⟨"",[]⟩]) (n:=M.length+1) (n2:=n) (avE _) (λk hk=>by rw[avq hk]) (by simp)
  (by rw[show M++[iB (M.length+1) (Dz f),(⟨"",[]⟩:Inst)]=M++[iB (M.length+1) (Dz f)]++[⟨"",[]⟩] by simp];exact J9 (J9 a.lf (amC _ _)) rfl)
  ⟩
 simp[rO,yt,d,dI,g,b,l,m,a.len]
end
def Br{M:Mo}{L:Lay}{c:aF}(a:At M L c){i h n:Nat}{b:fJ}{e:En}(g:L.bs[i]?=some h)(d:c.bs[i]?=some b):At (M.set h (iB n (sW b e))) L (iw c i e):=by
 have:=a.setB (n:=n) (b':=sW b e) g;have l:c.bs.modify i (λb=>sW b e)=c.bs.set i (sW b e):=by
  apply avO;intro j;rw[List.getElem?_modify,av5];by_cases f:i=j
  .subst f;have k:=(avf.mp d).1;simp[k,d];have:=(avf.mp d).2;rw[this]
  .simp[f]
 unfold iw;rw[l];exact this
def Ay(c:aF)(i j:Nat)(e:En):(iw c i e).bs[j]?=if i=j then(c.bs[j]?).map λb=>sW b e else c.bs[j]?:=by unfold iw;simp![List.getElem?_modify];by_cases h:i=j<;>simp[h]
def wz(a:List (Nat×Nat×fJ))(e:En)(c:aF):aF:=a.foldl (λc x=>iw c x.1 e) c
theorem S7{tg:ig}{body:SF}(Q:Rf.Env->Prop)(P:Nat->aF->Prop)(e:En)(L:Lay)(T:Nat):∀(d:List (Nat×Nat×fJ)) (M:Mo) (c:aF) (b:Rf.Env) (i:Nat),i+d.length<=T->At M L c->P i c->Q b->
  (∀M c b x i,i<T->At M L c->P i c->Q b->x∈d->∃l j M2,tg (nb x) b=some l/\body M l=.next j M2/\Q j/\At M2 L (iw c x.1 e)/\P (i+1) (iw c x.1 e))->
  ∃g f,fO tg body (d.map nb) M b=.next g f/\Q g/\At f L (wz d e c)
 |[],M,c,b,i,_,a,p,q,_=>⟨b,M,rfl,q,a⟩
 |x::d,M,c,b,i,z,a,p,q,h=>by
  rw[avu]at z;let⟨l,j,M2,r,s,t,u,v⟩:=h M c b x i #[] a p q avl
  let⟨g,f,m,n,o⟩:=S7 Q P e L T d M2 _ j (i+1) #[] u v t λM c b y i A a p q B=>h M c b y i A a p q (avk _ B)
  exact⟨g,f,by rw[avj,eU r s];exact m,n,o⟩
structure Ot(n:Nat)(c:aF):Prop where
 ear:∀b∈c.bs,b.sd.ear.length=6
 en:∀b∈c.bs,b.en.length<=n
def amD(s:Sd)(e:En)(b:s.ear.length=6)(a:match e with|.cut l=>l.length=6|.sold _ l=>l.length=6|_=>True):(go s e).ear.length=6:=by cases e<;>simp_all [go,yV]
theorem Vl(e:En):∀(a:List (Nat×Nat×fJ)) (c:aF) (j:Nat),(a.map (·.1)).Nodup->(wz a e c).bs[j]?=if j∈a.map (·.1) then(c.bs[j]?).map λb=>sW b e else c.bs[j]?
 |[],c,j,_=>by simp[wz]
 |x::a,c,j,g=>by
  rw[avj,awp]at g
  show(wz a e (iw c x.1 e)).bs[j]?=_
  rw[Vl e a _ j g.2,Ay];by_cases f:x.1=j
  .subst f;rw[awz g.1,awy rfl,awy (by simp)]
  .rw[awz f];by_cases d:j∈a.map (·.1)
   .rw[awy d,awy (by rw[avj];exact avk _ d)]
   .rw[awz d,awz (by
     rw[avj,avw]
     rintro(z|z)
     .exact f z.symm
     .exact d z)]
theorem Rz(e:En):∀(a:List (Nat×Nat×fJ)) (c:aF),(wz a e c)={ c with bs:=(wz a e c).bs }
 |[],_=>rfl
 |x::a,c=>by
  show wz a e (iw c x.1 e)={ c with bs:=(wz a e (iw c x.1 e)).bs };rw[Rz e a];rfl
def ahI{L:Lay}{c:aF}(p:Nat×Nat×fJ->Bool):(((bV L c).filter p).map (·.1)).Nodup:=by
 have h:((bV L c).map (·.1)).Nodup:=by
  have e:(bV L c).map (·.1)=List.range (L.bs.zip c.bs).length:=by
   unfold bV;apply avO;intro i;simp![avy,av3];by_cases a:i<(L.bs.zip c.bs).length
   .rw[avi a,List.getElem?_range a];rfl
   .rw[avJ (by omega:(L.bs.zip c.bs).length<=i),avJ (by rw[List.length_range];omega:(List.range (L.bs.zip c.bs).length).length<=i)];rfl
  rw[e];exact List.nodup_range
 exact h.sublist (List.Sublist.map _ List.filter_sublist)
def qD(p:fJ->Bool)(e:En)(c:aF):aF:={ c with bs:=c.bs.map λb=>if p b then sW b e else b }
def Y8{M:Mo}{L:Lay}{c:aF}(a:At M L c)(p:fJ->Bool)(e:En):wz ((bV L c).filter λx=>p x.2.2) e c=qD p e c:=by
 rw[Rz];unfold qD;congr 1;apply avO;intro j;rw[Vl _ _ _ _ (ahI _),avy];by_cases i:j<c.bs.length
 .have h:=avi i;rw[h];have n:j<L.bs.length:=by rw[a.len];exact i
  have d:(j,L.bs[j],c.bs[j])∈bV L c:=by unfold bV;rw[List.mem_mapIdx];refine⟨j,by simp;omega,by simp⟩
  by_cases b:p c.bs[j]=true
  .have:j∈((bV L c).filter λx=>p x.2.2).map (·.1):=avr.mpr ⟨_,avF.mpr ⟨d,b⟩,rfl⟩;rw[awy this];simp[b]
  .have:j∉((bV L c).filter λx=>p x.2.2).map (·.1):=λz=>by
    let⟨x,k,l⟩:=avr.mp z
    let⟨m,f⟩:=avF.mp k
    let⟨_,g⟩:=CP m
    rw[l,h]at g;rw[<-avA g]at f;exact b f
   rw[awz this];simp[b]
 .rw[avJ (by omega:c.bs.length<=j)];simp
def Ot.step{n:Nat}{c:aF}(bi:Ot n c)(i:Nat)(e:En)(g:match e with|.cut l=>l.length=6|.sold _ l=>l.length=6|_=>True):Ot (n+1) (iw c i e):=by
 have d:∀b∈(iw c i e).bs,b∈c.bs\/∃a∈c.bs,b=sW a e:=λb hb=>by
  let⟨j,f⟩:=List.mem_iff_getElem?.mp hb
  rw[Ay]at f;split at f
  .let⟨a,k,m⟩:=avU.mp f
   exact .inr ⟨a,avo k,m.symm⟩
  .exact .inl (avo f)
 refine⟨λb hb=>?_,λb hb=>?_⟩
 .rcases d b hb with h|⟨a,h,rfl⟩
  .exact bi.ear b h
  .exact amD _ _ (bi.ear a h) g
 .rcases d b hb with h|⟨a,h,rfl⟩
  .have:=bi.en b h;omega
  .have:=bi.en a h;simp[sW];omega
section
variable{M:Mo}{L:Lay}{c:aF}(a:At M L c)(few:c.bs.length<=1000){n:Nat}(bi:Ot n c)(hn:n<=40000)
include a few bi hn
theorem Jg(k:Int){b:fJ}(f:bk c k=some b):∃q,pP M [ob L.h,.int k]=.ok .none q/\At q L (qD (λx=>Cg k x&&x.sd.al) (.followed b.sd.o b.sd.g) c):=by
 let⟨m,R⟩:=a.hh
 have d:c.bs.length<=50000:=#[];have Q:=Lj a d f;have C:=afJ a d k;rw[f]at C;let⟨k1,k2,W,X,k5⟩:=tG a f
 have E:((bV L c).filter λx=>Cg k x.2.2&&x.2.2.sd.al).length<=1000:=avH (avD _ _) (by rw[a.len'];exact few);let⟨Z',q,O,g2,B⟩:=S7 (tg:=aX [3,4]) (body:=sH) (λJ=>∃x y,J=[#[ob L.h],#[.int k],#[ob (hk L k)],x,y])
  (λi j=>(∃t,j.bs[(k-1).toNat]?=some t/\t.sd.o=b.sd.o/\t.sd.g=b.sd.g)/\Ot (n+i) j/\j.bs.length=c.bs.length) (.followed b.sd.o b.sd.g) L 1000 ((bV L c).filter λx=>Cg k x.2.2&&x.2.2.sd.al) M c [#[ob L.h],#[.int k],#[ob (hk L k)],none,none] 0 #[] a ⟨⟨b,X,rfl,rfl⟩,bi,rfl⟩ ⟨none,none,rfl⟩ (λM1 j J x i hi s Z q1 U=>by
   let⟨⟨u,G,H,I⟩,e,F⟩:=Z
   let⟨x0,y0,rfl⟩:=q1
   let⟨nm,S⟩:=s.hb _ _ _ W G
   let⟨v,N⟩:=CP (avF.mp U).1
   have D:x.1<j.bs.length:=by rw[F];exact(avf.mp N).1
   have A:=avi D;let⟨Y,l⟩:=s.hb _ _ _ v A
   have p:=av2 D;have r:=uL l (.followed b.sd.o b.sd.g) (by rw[e.ear _ p];decide) (by have:=e.en _ p;omega);refine⟨[#[ob L.h],#[.int k],#[ob (hk L k)],#[.int ((x.1:Int)+1)],#[ob x.2.1]],[#[ob L.h],#[.int k],#[ob (hk L k)],#[.int ((x.1:Int)+1)],#[ob x.2.1]],_,by simp[nb],?_,⟨_,_,rfl⟩,Br (n:=Y) s v A,?_,e.step _ _ awr,by simp[iw,F]⟩
   .have r:nJ M1 [ob x.2.1,.tuple [.str "followed",.int b.sd.o,.int b.sd.g]]=_:=r
    simp[sH,l,S,bG];simp[iB]at r |-
    simp[H,I,r,sW]
   .rw[Ay,G];by_cases z:x.1=(k-1).toNat
    .exact⟨sW u (.followed b.sd.o b.sd.g),by rw[awy z];rfl,rfl,rfl⟩
    .exact⟨u,by rw[awz z],H,I⟩)
 rw[Y8 a (λx=>Cg k x&&x.sd.al)]at B;refine⟨q,?_,B⟩;simp[pP,u6,R,dI,fQ,Bh,Q,C,O]
end
def pD(p:Int×Int):Dat:=.tuple [.int p.1,.int p.2]
theorem Gj:∀(x y:ListInt),tZ (x.map PyData.int) (y.map PyData.int)=(x.zip y).map pD
 |[],_=>by simp[tZ]
 |_::_,[]=>by simp[tZ]
 |a::x,b::y=>by
  have:=Gj x y;unfold tZ at this |-
  rw[avj,avj,List.zipWith_cons_cons,this,awa,avj];rfl
def BL(x y:ListInt):Bool:=(x.zip y).all λp=>decide (p.1<=p.2)
def pB(x y:ListInt):Int:=(((x.zip y).filter λp=>decide (p.1<p.2)).map λp=>p.2-p.1).sum
def qX(x y:ListInt):Int:=if pB y x>pB x y then pB y x else pB x y
def jD(x y:ListInt):ListInt:=(x.zip y).map λp=>if p.2>p.1 then p.2 else p.1
def akS(x y:ListInt)(h:x.length<=1000):(x.zip y).length<=50000:=by rw[List.length_zip];omega
def afP(l:ListInt):acA (.list (l.map PyData.int))=.ok (.int l.sum):=by
 show(match intsOf (l.map PyData.int) with
  |some a=>Out.ok (PyData.int a.sum)
  |none=>.bad)=_
 rw[mV]
def K6(M:Mo)(x y:ListInt)(h:x.length<=1000):oZ M [aH x,aH y]=.ok (.int (pB x y)):=by have c:=gq (tg:=aX [2,3]) (tt:=dR (aK Ve (3) (2))) (te:=aK qU (3) (2)) (M:=M) (ρ:=[#[aH x],#[aH y],none,none]) pD (λp=>decide (p.1<p.2)) (λp=>.int (p.2-p.1)) (x.zip y) λp _=>⟨[#[aH x],#[aH y],#[.int p.1],#[.int p.2]],by simp[pD],by simp,λ_=>by simp⟩;have d:=akS x y h;have a:=afP (((x.zip y).filter λp=>decide (p.1<p.2)).map λp=>p.2-p.1);rw[avK]at a;have b:min x.length y.length<=50000:=#[];simp[oZ,Ym,Gj,c,b];simp[avG]at a;simp[a,pB]
def aiA(M:Mo)(x y:ListInt)(h:x.length<=1000)(a:y.length<=1000):JF M [aH x,aH y]=.ok (.int (qX x y)):=by simp[JF,Yc,K6 M x y h,K6 M y x a,qX]
def Yg(M:Mo)(x y:ListInt)(r:Int)(h:x.length<=1000)(a:y.length<=1000):sY M [aH x,aH y,.int r]=.ok (.bool (decide (qX x y<=r))):=by simp[sY,ab6,aiA M x y h a]
def Ma(M:Mo)(x y:ListInt)(h:x.length<=1000):qQ M [aH x,aH y]=.ok (aH (jD x y)):=by have b:=eZ (tg:=aX [2,3]) (te:=aK wZ (2) (3)) (M:=M) (ρ:=[#[aH x],#[aH y],none,none]) pD (λp=>.int (if p.2>p.1 then p.2 else p.1)) (x.zip y) λp _=>⟨[#[aH x],#[aH y],#[.int p.1],#[.int p.2]],by simp[pD],by simp⟩;have a:min x.length y.length<=50000:=#[];simp[qQ,Yl,Gj,b,a,jD]
abbrev Rw:=Ear.Rw
theorem YG:∀R:List Rw,GX (R.map Ear.rD)=some R
 |[]=>rfl
 |r::R=>by
  rw[avj,GX,YG R];have:aeR (Ear.rD r)=some r:=by
   unfold Ear.rD Ear.dT
   show(intsOf (r.2.map PyData.int)).map _=_
   rw[mV];rfl
  rw[this];rfl
def N6(M:Mo)(R:List Rw)(h:R.eraseDups.length<=76):rM M [.list (R.map Ear.rD)]=.ok (.list ((bM R).map Ear.rD)):=by
 have:U7 (.list (R.map Ear.rD))=.ok (.list ((bM R).map Ear.rD)):=by
  show(match GX (R.map Ear.rD) with
   |some R=>match decide (R.eraseDups.length<=76) with
    |true=>Out.ok (PyData.list ((bM R).map Ear.rD))
    |false=>.bad
   |none=>.bad)=_
  rw[YG]
  show(match decide (R.eraseDups.length<=76) with
    |true=>Out.ok (PyData.list ((bM R).map Ear.rD))
    |false=>.bad)=_
  rw[decide_eq_true h]
 simp[rM,T9,this]
def rF(R:List Rw):(bM R).length=R.eraseDups.length:=by unfold bM V8;rw[List.length_mergeSort]
def DW(o:Int)(e:ListInt)(R:List Rw)(a:Int):List Rw:=(bM R).filter λr=>!(r.1==o)&&decide (qX e r.2<=a)
def uF(R:List Rw):Prop:=∀r∈R,r.2.length=6
def aeO(M:Mo)(o:Int)(e:ListInt)(R:List Rw)(a:Int)(j:e.length=6)(c:uF R)(h:R.eraseDups.length<=76):CN M [.int o,aH e,.list (R.map Ear.rD),.int a]=.ok (.list ((DW o e R a).map Ear.rD)):=by
 have g:=N6 M R h;have d:(bM R).length<=50000:=by rw[rF];omega
 have b:=gq (tg:=aX [4,5]) (tt:=mX (dR (aK Ae (4) (0))) (fH (aQ sY #[(1:),(5:),(3:)]))) (te:=bh #[(4:),(5:)]) (M:=M) (ρ:=[#[.int o],#[aH e],#[.list (R.map Ear.rD)],#[.int a],none,none]) Ear.rD (λr=>!(r.1==o)&&decide (qX e r.2<=a)) Ear.rD (bM R) λr f=>⟨[#[.int o],#[aH e],#[.list (R.map Ear.rD)],#[.int a],#[.int r.1],#[aH r.2]],by simp[Ear.rD,Ear.dT],by
  have:=Yg M e r.2 a #[] (by rw[c r (m7.mp f)];decide);by_cases i:r.1=o<;>simp[this,i],λ_=>by simp[Ear.rD,Ear.dT]⟩
 simp[CN,N8,g,b,d,DW]
def Ry(M:Mo)(o:Int)(e:ListInt)(R:List Rw)(a:Int)(f:e.length=6)(d:uF R)(h:R.eraseDups.length<=76):pq M [.int o,aH e,.list (R.map Ear.rD),.int a]=match DW o e R a with
  |[]=>.ok .none
  |r::_=>.exc ⟨"Clash",[("ear",aH (jD e r.2)),("others",Ear.rD r),("ones",Ear.rD (o,e))]⟩:=by
 have b:=aeO M o e R a f d h;cases c:DW o e R a with
 |nil=>
  rw[c]at b;simp[pq,Ey,b]
 |cons r i=>
  rw[c]at b;have g:=Ma M e r.2 #[];simp[pq,Ey,b];simp[Ear.rD,Ear.dT,g]
def cQ(x:ListInt):Bool:=decide (x.length=6)&&x.all λd=>decide (0<=d)&&decide (d<=9)
def CV(l:List Bool):sJ (l.map PyData.bool)=some l:=by
 induction l with
 |nil=>rfl
 |cons b l a=>rw[avj,sJ,a];rfl
def ZW(M:Mo)(x:ListInt)(h:x.length<=1000):uN M [aH x]=.ok (.bool (cQ x)):=by
 have c:=eZ (tg:=au 1) (te:=qOf (lZ qd qd #[0] (1) (qC cM))) (M:=M) (ρ:=[#[aH x],none]) PyData.int (λd=>.bool (decide (0<=d)&&decide (d<=9))) x λd _=>⟨[#[aH x],#[.int d]],by simp,by
  by_cases g:0<=d<;>simp[g,cM]⟩
 have i:Mh (.list (x.map λd=>PyData.bool (decide (0<=d)&&decide (d<=9))))=.ok (.bool (x.all λd=>decide (0<=d)&&decide (d<=9))):=by
  have e:(x.map λd=>PyData.bool (decide (0<=d)&&decide (d<=9)))=(x.map λd=>decide (0<=d)&&decide (d<=9)).map PyData.bool:=by rw[avK];rfl
  rw[e]
  show(match sJ _ with
   |some f=>Out.ok (PyData.bool (f.all id))
   |none=>.bad)=_
  rw[CV];simp[List.all_map,avG]
 have j:x.length<=50000:=#[];by_cases b:x.length=6
 .have a:((x.length:Int)==6)=true:=by simp[b]
  simp[uN,Mj,dO,c,j,i,cQ,b]
 .have a:¬(x.length:Int)=6:=#[];simp[uN,Mj,dO,cQ,b,a]
def adT{x:ListInt}(h:x.length=6)(a:∀d∈x,0<=d/\d<10):cQ x=true:=by unfold cQ;simp![avh,awu,avx];refine⟨h,λd b=>?_⟩;have:=a d b;omega
theorem Lf{i j:Type}{tg tg1:ig}{tt tt1:QT}{it1:IF}{vs1:List Nat}{te:QF}{M:Mo}{ρ:Rf.Env}(e:i->Dat)(g:i->List j)(c:j->Dat)(p:i->j->Bool)(f:i->j->Dat):∀(d:List i),(∀x∈d,∃a,tg (e x) ρ=some a/\tt M a=.ok true/\Cj a=true/\it1 M a=.ok ((g x).map c)/\∀y∈g x,∃k,tg1 (c y) (bU a vs1)=some k/\tt1 M k=.ok (p x y)/\(p x y=true->te M k=.ok (f x y)))->
  iJ tg tt it1 tg1 vs1 tt1 te M ρ (d.map e)=.ok (d.flatMap λx=>((g x).filter (p x)).map (f x))
 |[],_=>rfl
 |x::d,h=>by
  let⟨a,l,m,n,o,q⟩:=h x avl
  have t:=Lf e g c p f d λy s=>h y (avk _ s);have hc:=gq (tg:=tg1) (tt:=tt1) (te:=te) (M:=M) (ρ:=bU a vs1) c (p x) (f x) (g x) q;rw[avj,iJ,l]
  show((zP (tt M a)).bind λb=>if b=true then Out.when (Cj a) ((zP (it1 M a)).bind λes=>(cJ tg1 tt1 te M (bU a vs1) es).bind λr1=>(iJ tg tt it1 tg1 vs1 tt1 te M ρ (d.map e)).bind λr=>Out.ok (r1++r)) else iJ tg tt it1 tg1 vs1 tt1 te M ρ (d.map e))=_
  rw[m,aaL,Out.Bj,awy rfl,n,Out.Y0,o,aaL,Out.Bj,hc,Out.Bj,t,Out.Bj,List.flatMap_cons]
def RQ(M:Mo)(x:ListInt)(h:x.length<=1000):rJ M [aH x]=if cQ x then .ok .none else .exc ⟨"BadEar",[]⟩:=by have:=ZW M x h;cases a:cQ x<;>simp[rJ,Ml,this,a]
def pairD(p:Rw×Rw):Dat:=.tuple [Ear.rD p.1,Ear.rD p.2]
def nO(T:List Rw)(a:Int):List (Rw×Rw):=(T.mapIdx λi r=>(i,r)).flatMap λx=>((T.drop (x.1+1)).filter λs=>!(x.2.1==s.1)&&decide (qX x.2.2 s.2<=a)).map λs=>(x.2,s)
def ac4(T:List Rw)(a:Int):(nO T a).length<=T.length*T.length:=by
 unfold nO;rw[List.length_flatMap];have b:∀(l:List (Nat×Rw)),(l.map λx=>(((T.drop (x.1+1)).filter λs=>!(x.2.1==s.1)&&decide (qX x.2.2 s.2<=a)).map λs=>(x.2,s)).length).sum<=l.length*T.length:=by
  intro l
  induction l with
  |nil=>simp
  |cons x l c=>
   rw[avj,List.sum_cons,avu,Nat.add_mul,Nat.one_mul];have:(((T.drop (x.1+1)).filter λs=>!(x.2.1==s.1)&&decide (qX x.2.2 s.2<=a)).map λs=>(x.2,s)).length<=T.length:=by rw[avs];refine avH (avD _ _) ?_;rw[awd];omega
   omega
 have:=b (T.mapIdx λi r=>(i,r));rw[List.length_mapIdx]at this;exact this
def ac0(M:Mo)(R:List Rw)(a:Int)(g:uF R)(h:R.eraseDups.length<=76):vK M [.list (R.map Ear.rD),.int a]=.ok (.list ((nO (bM R) a).map pairD)):=by
 have e:=N6 M R h;have d:(bM R).length<=76:=by rw[rF];exact h
 have c:∀r∈bM R,r.2.length=6:=λr m=>g r (m7.mp m);generalize bM R=T at e d c;have j:vC 0 (T.map Ear.rD)=(T.mapIdx λi r=>(i,r)).map λ(x:Nat×Rw)=>PyData.tuple [.int x.1,Ear.rD x.2]:=by unfold vC;apply avO;intro i;simp;cases T[i]?<;>simp
 have b:=Lf (tg:=aX [3,4]) (tg1:=au 5) (tt:=gQ) (it1:=cH (RW (2) (kZ (aK cY (3) #[1])) uW)) (vs1:=[5]) (tt1:=mX (dR (aK Ae (4)[0]! (5)[0]!)) (fH (aQ sY #[(4)[1]!,(5)[1]!,(1:)]))) (te:=bh #[(4:),(5:)]) (M:=M) (ρ:=[#[.list (R.map Ear.rD)],#[.int a],#[.list (T.map Ear.rD)],none,none,none])
  (λ(x:Nat×Rw)=>PyData.tuple [.int x.1,Ear.rD x.2]) (λx=>T.drop (x.1+1)) Ear.rD (λx s=>!(x.2.1==s.1)&&decide (qX x.2.2 s.2<=a)) (λx s=>pairD (x.2,s)) (T.mapIdx λi r=>(i,r)) λx o=>⟨[#[.list (R.map Ear.rD)],#[.int a],#[.list (T.map Ear.rD)],#[.int x.1],#[Ear.rD x.2],none],by simp,rfl,rfl,by
   have:=TY (T.map Ear.rD) (x.1+1);simp at this |-
   rw[this],λs n=>⟨[#[.list (R.map Ear.rD)],#[.int a],#[.list (T.map Ear.rD)],#[.int x.1],#[Ear.rD x.2],#[Ear.rD s]],by simp,by
   let⟨i,l,rfl⟩:=List.mem_mapIdx.mp o
   have y:=c _ (av2 l);have z:=c s (List.mem_of_mem_drop n);have:=Yg M (T[i]).2 s.2 a #[] #[];by_cases p:(T[i]).1=s.1<;>simp[Ear.rD,Ear.dT,this,p],λ_=>by simp[pairD]⟩⟩
 have f:((T.mapIdx λi r=>(i,r)).flatMap λx=>((T.drop (x.1+1)).filter λs=>!(x.2.1==s.1)&&decide (qX x.2.2 s.2<=a)).map λs=>pairD (x.2,s))=(nO T a).map pairD:=by unfold nO;rw[List.map_flatMap];congr 1;funext x;rw[avK];rfl
 rw[f]at b;have hc:(nO T a).length<=50000:=by have:=ac4 T a;have:T.length*T.length<=76*76:=Nat.mul_le_mul d d;omega
 simp[vK,Lp,e];rw[j];simp[b,hc]
def hdD(x:ListInt×Int):Dat:=.tuple [aH x.1,.int x.2]
def P0(d l:Int):Int:=(if 9<d+l then 9 else d+l)+1
def Eu(d l:Int):ListInt:=(List.range (P0 d l-d).toNat).map λ(i:Nat)=>d+(i:Int)
def stepT(d:Int)(H:List (ListInt×Int)):List (ListInt×Int):=H.flatMap λx=>(Eu d x.2).map λcut=>(x.1++[cut],x.2-(cut-d))
structure R8(k:Nat)(H:List (ListInt×Int)):Prop where
 len:H.length<=4^k
 left:∀x∈H,0<=x.2/\x.2<=3
 hd:∀x∈H,x.1.length=k/\∀y∈x.1,0<=y/\y<=9
def afR{d l:Int}(a:0<=l/\l<=3):(Eu d l).length<=4:=by
 unfold Eu P0;simp
 split<;>omega
def Y9{d l y:Int}(h:y∈Eu d l):d<=y/\y<=d+l/\y<=9:=by
 unfold Eu P0 at h;let⟨i,a,rfl⟩:=avr.mp h
 rw[List.mem_range]at a;split at a<;>omega
def YT{k:Nat}{H:List (ListInt×Int)}{d:Int}(i:R8 k H)(n:0<=d/\d<=9):R8 (k+1) (stepT d H):=by
 refine⟨?_,λx a=>?_,λx a=>?_⟩
 .have g:∀l:List (ListInt×Int),(∀x∈l,0<=x.2/\x.2<=3)->(stepT d l).length<=l.length*4:=by
   intro l
   induction l with
   |nil=>intro _;simp[stepT]
   |cons x l m=>
    intro h;have f:=m λy b=>h y (avk _ b);have j:=afR (d:=d) (h x avl);unfold stepT at f |-
    rw[List.flatMap_cons,avP,avs,avu];omega
  have:=g H i.left;have:=i.len;rw[Nat.pow_succ];omega
 .unfold stepT at a;let⟨y,b,a⟩:=List.mem_flatMap.mp a
  let⟨c,hc,rfl⟩:=avr.mp a
  have:=Y9 hc;have:=i.left y b;show 0<=y.2-(c-d)/\y.2-(c-d)<=3;omega
 .unfold stepT at a;let⟨y,b,a⟩:=List.mem_flatMap.mp a
  let⟨c,hc,rfl⟩:=avr.mp a
  have:=Y9 hc;let⟨f,j⟩:=i.hd y b
  refine⟨by simp[f],λz e=>?_⟩;rcases avz.mp e with e|e
  .exact j z e
  .rw[avp.mp e];omega
def agQ(M:Mo)(e m:Option Cell)(f:Cj [e,m]=true){k:Nat}{H:List (ListInt×Int)}{d:Int}(i:R8 k H)(hk:k<=5)(o:0<=d/\d<=9):Fw M [e,m,#[.list (H.map hdD)],#[.int d],none,none,none]=.next [e,m,#[.list ((stepT d H).map hdD)],#[.int d],none,none,none] M:=by
 have a:=Lf (tg:=aX [4,5]) (tg1:=au 6) (tt:=gQ) (it1:=JT (3) (aK cY (aK xM (aK cY (3) (5)) (qC cM)) #[1])) (vs1:=[6]) (tt1:=gQ) (te:=bh #[aK cY (4) (bh #[(6:),]),aK qU (5) (aK qU (6) (3))]) (M:=M) (ρ:=[e,m,#[.list (H.map hdD)],#[.int d],none,none,none])
  hdD (λx=>Eu d x.2) PyData.int (λ_ _=>true) (λx c=>hdD (x.1++[c],x.2-(c-d))) H λx j=>⟨[e,m,#[.list (H.map hdD)],#[.int d],#[aH x.1],#[.int x.2],none],by simp[hdD],rfl,by
   simp[Cj]at f |-
   exact f,by
   have g:=i.left x j;have p:P0 d x.2<=100000/\-100000<=P0 d x.2/\d<=100000/\-100000<=d:=by unfold P0;split<;>omega
   have l:jF d (P0 d x.2-d).toNat=(Eu d x.2).map PyData.int:=by unfold jF Eu;rw[avK];rfl
   have b:(if 9<d+x.2 then(9:Int) else d+x.2)+1=P0 d x.2:=rfl;simp[cM,b,l,p],λc hc=>⟨[e,m,#[.list (H.map hdD)],#[.int d],#[aH x.1],#[.int x.2],#[.int c]],by simp,rfl,λ_=>by
   have q:=(i.hd x j).1;have n:x.1.length+1<=100000:=#[];simp[hdD,n]⟩⟩
 have b:(H.flatMap λx=>((Eu d x.2).filter λ_=>true).map λc=>hdD (x.1++[c],x.2-(c-d)))=(stepT d H).map hdD:=by unfold stepT;rw[List.map_flatMap];congr 1;funext x;rw[List.filter_eq_self.mpr (λ_ _=>rfl),avK];rfl
 rw[b]at a;have g:(stepT d H).length<=50000:=by have:=(YT i o).len;have:4^(k+1)<=4^6:=Nat.pow_le_pow_right #[()] #[];omega
 simp[Fw,a,g]
theorem Oz(M:Mo)(e m:Option Cell)(g:Cj [e,m]=true):∀(a:ListInt) (k:Nat) (H:List (ListInt×Int)) (o:Option Cell),R8 k H->k+a.length<=6->(∀d∈a,0<=d/\d<=9)->
  (∃b,fO (au 3) Fw (a.map PyData.int) M [e,m,#[.list (H.map hdD)],o,none,none,none]=.next [e,m,#[.list ((a.foldl (λH d=>stepT d H) H).map hdD)],b,none,none,none] M)/\R8 (k+a.length) (a.foldl (λH d=>stepT d H) H)
 |[],k,H,o,i,_,_=>⟨⟨o,rfl⟩,i⟩
 |d::a,k,H,o,i,hk,f=>by
  rw[avu]at hk;have c:=f d avl;let⟨⟨b,n⟩,l⟩:=Oz M e m g a (k+1) (stepT d H) #[.int d] (YT i c) #[] λy j=>f y (avk _ j)
  refine⟨⟨b,?_⟩,?_⟩
  .rw[avj,eU (Z1:=[e,m,#[.list (H.map hdD)],#[.int d],none,none,none]) (by simp) (agQ M e m g i #[] c),n];rfl
  .rw[avu,show k+(a.length+1)=k+1+a.length by omega];exact l
def Ho(b:ListInt)(a:Int):List ListInt:=(b.foldl (λH d=>stepT d H) [([],a)]).map (·.1)
def ahq{a:Int}(c:0<=a/\a<=3):R8 0 [([],a)]:=⟨by simp,λx b=>by rw[avp.mp b];exact c,λx b=>by rw[avp.mp b];simp⟩
def Uh{b:ListInt}{a:Int}(c:cQ b=true)(f:0<=a/\a<=3):R8 6 (b.foldl (λH d=>stepT d H) [([],a)]):=by unfold cQ at c;rw[avh,awu,avx]at c;have:=(Oz [] none none rfl b 0 [([],a)] none (ahq f) #[] λd e=>by simpa using c.2 d e).2;rw[c.1]at this;exact this
def akm(M:Mo)(b:ListInt)(a:Int)(j:cQ b=true)(m:0<=a/\a<=3):Nq M [aH b,.int a]=.ok (.list ((Ho b a).map aH)):=by
 have c:=j;unfold cQ at c;rw[avh,awu,avx]at c;let⟨⟨n,i⟩,_⟩:=Oz M #[aH b] #[.int a] rfl b 0 [([],a)] none (ahq m) #[] λd p=>by simpa using c.2 d p
 have l:=Uh j m;generalize o:b.foldl (λH d=>stepT d H) [([],a)]=H at i l;have r:=eZ (tg:=aX [4,5]) (te:=zE 4) (M:=M) (ρ:=[#[aH b],#[.int a],#[.list (H.map hdD)],n,none,none,none]) hdD (λx=>aH x.1) H λx _=>⟨[#[aH b],#[.int a],#[.list (H.map hdD)],n,#[aH x.1],#[.int x.2],none],by simp[hdD],by simp⟩;have q:H.length<=50000:=by have:=l.len;have:(4:Nat)^6=4096:=#[()];omega
 have g:fO (au 3) Fw (b.map PyData.int) M [#[aH b],#[.int a],#[.list [.tuple [.tuple [],.int a]]],none,none,none,none]=_:=i;have e:∀f:Option Cell,cJ (aX [4,5]) gQ (4:) M [#[aH b],#[.int a],#[.list (H.map hdD)],f,none,none,none] (H.map hdD)=.ok (H.map λx=>aH x.1):=λf=>eZ (tg:=aX [4,5]) (te:=zE 4) (M:=M) (ρ:=[#[aH b],#[.int a],#[.list (H.map hdD)],f,none,none,none]) hdD (λx=>aH x.1) H λx _=>⟨[#[aH b],#[.int a],#[.list (H.map hdD)],f,#[aH x.1],#[.int x.2],none],by simp[hdD],by simp⟩;simp[Nq,ab7,g,e,q,Ho,o]
def Tp(b:ListInt)(a:Int):List ListInt:=(Ho b a).filter λe=>pB b e==a
def Zb{b:ListInt}{a:Int}(g:cQ b=true)(i:0<=a/\a<=3){x:ListInt}(h:x∈Ho b a):cQ x=true:=by
 let⟨y,j,rfl⟩:=avr.mp h
 let⟨c,e⟩:=(Uh g i).hd y j
 unfold cQ;rw[avh,awu,avx];exact⟨c,λd f=>by simpa using e d f⟩
def agZ{b:ListInt}{a:Int}(c:cQ b=true)(d:0<=a/\a<=3):(Ho b a).length<=4096:=by unfold Ho;rw[avs];exact(Uh c d).len
def acg(M:Mo)(b:ListInt)(a:Int)(c:cQ b=true)(g:0<=a/\a<=3):wJ M [aH b,.int a]=.ok (.list ((Tp b a).map aH)):=by
 have i:=akm M b a c g;have l:=agZ c g;have j:b.length<=1000:=by unfold cQ at c;rw[avh,awu]at c;omega
 have f:=gq (tg:=au 2) (tt:=#[(aQ oZ #[(0:),(2:)])=(1)]) (te:=zE 2) (M:=M) (ρ:=[#[aH b],#[.int a],none]) aH (λe=>pB b e==a) aH (Ho b a) λx _=>⟨[#[aH b],#[.int a],#[aH x]],by simp,by
  have:=K6 M b x j;simp[this],λ_=>by simp⟩
 have d:(Ho b a).length<=50000:=#[];simp[wJ,IK,i,f,d,Tp]
def Ep(R:List Rw)(a:Int)(e:ListInt):Bool:=!(R.any λr=>decide (qX e r.2<=a))
def aaH(l:List Bool):S9 (.list (l.map PyData.bool))=.ok (.bool (l.any id)):=by
 show(match sJ (l.map PyData.bool) with
  |some a=>Out.ok (PyData.bool (a.any id))
  |none=>.bad)=_
 rw[CV]
def ae8(M:Mo)(R:List Rw)(a:Int)(f:uF R)(g:R.length<=50000)(mk:ListInt)(x:Int)(e:ListInt)(j:e.length=6) :
  j7 M [#[aH mk],#[.int x],#[.list (R.map Ear.rD)],#[.int a],#[aH e],none,none]=if Ep R a e then .ret (aH e) M else .next [#[aH mk],#[.int x],#[.list (R.map Ear.rD)],#[.int a],#[aH e],none,none] M:=by
 have c:=eZ (tg:=aX [5,6]) (te:=aQ sY #[(4:),(6:),(3:)]) (M:=M) (ρ:=[#[aH mk],#[.int x],#[.list (R.map Ear.rD)],#[.int a],#[aH e],none,none]) Ear.rD (λr=>.bool (decide (qX e r.2<=a))) R λr i=>⟨[#[aH mk],#[.int x],#[.list (R.map Ear.rD)],#[.int a],#[aH e],#[.int r.1],#[aH r.2]],by simp[Ear.rD,Ear.dT],by
  have:=Yg M e r.2 a #[] (by rw[f r i];decide);simp[this]⟩
 have b:=aaH (R.map λr=>decide (qX e r.2<=a));rw[avK]at b;simp![avG,awl]at b;cases d:Ep R a e<;>simp[j7,c,g,b]<;>simp[Ep]at d<;>simpa using d
theorem Wf(M:Mo)(R:List Rw)(a:Int)(d:uF R)(i:R.length<=50000)(mk:ListInt)(x:Int):∀(b:List ListInt) (o:Option Cell),(∀e∈b,e.length=6)->
  match b.find? (Ep R a) with
   |some e=>fO (au 4) j7 (b.map aH) M [#[aH mk],#[.int x],#[.list (R.map Ear.rD)],#[.int a],o,none,none]=.ret (aH e) M
   |none=>∃j,fO (au 4) j7 (b.map aH) M [#[aH mk],#[.int x],#[.list (R.map Ear.rD)],#[.int a],o,none,none]=.next j M
 |[],o,_=>⟨_,rfl⟩
 |e::b,o,f=>by
  have c:=ae8 M R a d i mk x e (f e avl);have n:=Wf M R a d i mk x b #[aH e] λy m=>f y (avk _ m);rw[List.find?_cons];cases g:Ep R a e with
  |true=>
   rw[g,awy rfl]at c;show fO _ _ _ _ _=_;rw[avj,fO];simp[c]
  |false=>
   rw[g,awz #[()]]at c;have l:fO (au 4) j7 ((e::b).map aH) M [#[aH mk],#[.int x],#[.list (R.map Ear.rD)],#[.int a],o,none,none]=fO (au 4) j7 (b.map aH) M [#[aH mk],#[.int x],#[.list (R.map Ear.rD)],#[.int a],#[aH e],none,none]:=by rw[avj,eU (by simp) c]
   rw[l];exact n
def aae(M:Mo)(b:ListInt)(a:Int)(R:List Rw)(c:Int)(g:cQ b=true)(j:0<=a/\a<=3)(k:uF R)(l:R.length<=50000):qN M [aH b,.int a,.list (R.map Ear.rD),.int c]=match (Tp b a).find? (Ep R c) with
  |some e=>.ok (aH e)
  |none=>.exc ⟨"NoneFree",[]⟩:=by
 have f:=acg M b a g j;have d:=Wf M R c k l b a (Tp b a) none λe h=>by
  have:=Zb g j (avF.mp h).1;unfold cQ at this;rw[avh,awu]at this;exact this.1
 cases i:(Tp b a).find? (Ep R c) with
 |some e=>
  rw[i]at d;simp[qN,zY,f,d]
 |none=>
  rw[i]at d;let⟨m,d⟩:=d
  simp[qN,zY,f,d]
@[simp]theorem arp (L:Lay) (c:aF):(aP L c).cls="Commons":=rfl
def any_keys(y:Int)(l:ListInt):((l.map λo=>(PyData.int o,PyData.bool true)).any λp=>PyData.eqv p.1 (.int y))=decide (y∈l):=by
 have:=any_ints y l;rw[awl]at this |-
 exact this
section
variable{M:Mo}{L:Lay}{c:aF}(a:At M L c)
include a
theorem lU(o:Int):jM M [ob L.c,.int o]=if o∈c.own then .ok .none else .exc ⟨"NoOwner",[]⟩:=by
 have hc:=a.hc;have hk:=any_keys o c.own;simp![awl,avG]at hk;by_cases h:o∈c.own
 .rw[decide_eq_true h]at hk;rw[awy h];simp[jM,mF,hc,aP,avG,hk];rw[awz (λz=>z o h rfl)]
 .rw[decide_eq_false h]at hk;rw[awz h];simp[jM,mF,hc,aP,avG,hk];have d:∀x:Int,x∈c.own->¬x=o:=λx b e=>h (e ▸ b);rw[awy d]
theorem yE(i:dD c)(x:Int):qW M [ob L.c,.int x]=if Vg c x then .ok (.int (roomOf c x)) else .exc ⟨"NoGround",[]⟩:=by
 have hc:=a.hc;let⟨n,m,d⟩:=a.hg
 have b:=al2 a i x;by_cases h:Vg c x
 .rw[awy h]at b |-
  simp[qW,vP,hc,aP,d,dh,uD,b]
 .rw[awz h]at b |-
  simp[qW,vP,hc,aP,d,dh,uD,b]
theorem xJ(i:dD c)(x:Int):lE M [ob L.c,.int x]=if Vg c x then .ok (lI (bf c x)) else .exc ⟨"NoGround",[]⟩:=by
 have hc:=a.hc;let⟨n,m,d⟩:=a.hg
 have b:=wH a i x;by_cases h:Vg c x
 .rw[awy h]at b |-
  simp[lE,pU,hc,aP,d,dh,bx,b]
 .rw[awz h]at b |-
  simp[lE,pU,hc,aP,d,dh,bx,b]
theorem agh:rR M [ob L.c]=.ok (lI c.own):=by have hc:=a.hc;simp[rR,yh,hc,aP,avG]
theorem tD(few:c.held.length<=50000)(o g:Int):mK M [ob L.c,.int o,.int g]=if bR c o g=[] then .exc ⟨"NoRight",[]⟩ else .ok .none:=by have hc:=a.hc;have d:=a.hr;have b:=acv a few o g;by_cases h:bR c o g=[]<;>simp[mK,rZ,hc,aP,d,mY,uh,b,h]
theorem Eb(few:c.held.length<=50000)(o g:Int){mk:ListInt}{r:List ListInt}(h:bR c o g=mk::r):mU M [ob L.c,.int o,.int g]=.ok (aH mk):=by have hc:=a.hc;have d:=a.hr;have b:=KY a few o g;rw[h]at b;simp[mU,rW,hc,aP,d,mY,cG,b]
end
def inR(c:aF)(a:ListInt):List Rw:=(c.held.filter λr=>decide (r.2.1∈a)).map λr=>(r.1,r.2.2)
def abq(lo:Int)(x:Nat×Nat×fJ):Bool:=x.2.2.sd.due.isSome&&!(((x.1:Int)+1)==lo)
def Ur(L:Lay)(c:aF)(lo:Int)(a:ListInt):List Rw:=(((bV L c).filter λx=>decide (x.2.2.sd.g∈a)&&x.2.2.sd.al).filter (abq lo)).map λx=>(x.2.2.sd.o,x.2.2.sd.due.getD [])
def fU(L:Lay)(c:aF)(lo x:Int):List Rw:=inR c (bf c x)++Ur L c lo (bf c x)
section
variable{M:Mo}{L:Lay}{c:aF}(a:At M L c)
include a
theorem Hh(i:dD c)(few:c.held.length<=20000)(b:c.bs.length<=20000)(lo x:Int)(p:(fU L c lo x).eraseDups.length<=76):jd M [ob L.c,.int lo,.int x]=if Vg c x then .ok (.list ((bM (fU L c lo x)).map Ear.rD)) else .exc ⟨"NoGround",[]⟩:=by
 have hc:=a.hc;have t:=a.hr;let⟨n,B⟩:=a.hh
 have f:=xJ a i x;by_cases h:Vg c x
 .rw[awy h]at f |-
  have A:=Lq a (by omega:c.bs.length<=50000) (bf c x);have l:=Z5 a (by omega:c.held.length<=50000) (bf c x);have m:=N6 M (fU L c lo x) p;have C:((bV L c).filter λy=>decide (y.2.2.sd.g∈bf c x)&&y.2.2.sd.al).length<=20000:=avH (avD _ _) (by rw[a.len'];exact b);have s:((bV L c).filter λy=>decide (y.2.2.sd.g∈bf c x)&&y.2.2.sd.al).length<=50000:=#[];have d:=gq (tg:=aX [5,6]) (tt:=mX (dR (yK true .none (aY "due" (6)))) (dR (aK Ae (5) (1)))) (te:=bh #[gA "owner" (6),gA "due" (6)]) (M:=M) (ρ:=[#[ob L.c],#[.int lo],#[.int x],#[lI (bf c x)],none,none,none]) nb (abq lo) (λy=>Ear.rD (y.2.2.sd.o,y.2.2.sd.due.getD [])) ((bV L c).filter λy=>decide (y.2.2.sd.g∈bf c x)&&y.2.2.sd.al) λy u=>⟨[#[ob L.c],#[.int lo],#[.int x],#[lI (bf c x)],none,#[.int ((y.1:Int)+1)],#[ob y.2.1]],by simp[nb],by
   let⟨D,q⟩:=a.hb' (avF.mp u).1
   cases j:y.2.2.sd.due<;>simp[q,iB,j,oN,abq,nQ],λhp=>by
   let⟨D,q⟩:=a.hb' (avF.mp u).1
   cases j:y.2.2.sd.due with
   |none=>simp[abq,j]at hp
   |some e=>simp[q,iB,j,oN,Ear.rD,Ear.dT]⟩
  have v:(c.held.filter λr=>decide (r.2.1∈bf c x)).map (λr=>Ear.rD (r.1,r.2.2))=(inR c (bf c x)).map Ear.rD:=by unfold inR;rw[avK];rfl
  have z:(((bV L c).filter λy=>decide (y.2.2.sd.g∈bf c x)&&y.2.2.sd.al).filter (abq lo)).map (λy=>Ear.rD (y.2.2.sd.o,y.2.2.sd.due.getD []))=(Ur L c lo (bf c x)).map Ear.rD:=by unfold Ur;rw[avK];rfl
  rw[v]at l;rw[z]at d;have I:(inR c (bf c x)).length<=20000:=by unfold inR;rw[avs];exact avH (avD _ _) few
  have J:(Ur L c lo (bf c x)).length<=20000:=by unfold Ur;rw[avs];exact avH (avD _ _) C
  have E:(inR c (bf c x)).length+(Ur L c lo (bf c x)).length<=100000:=#[];unfold fU at m |-
  rw[avN]at m;simp[jd,kY,hc,aP,bF,f,B,dI,fG,A,t,mY,sG,l];simp[d,s,E,m,hc,aP,t,mY,l]
 .rw[awz h]at f |-
  simp[jd,kY,hc,aP,bF,f]
end
def xO(b:fJ):Dat:=.tuple [.int b.sd.o,.int b.sd.g,oN b.sd.due,aH b.sd.ear,.bool b.sd.al,.int b.mo,.tuple (b.fi.dat::b.en.map En.dat)]
def akh{M:Mo}{h n:Nat}{b:fJ}(a:M[h]?=some (iB n b)):yX M [ob h]=.ok (xO b):=by have c:=aaI a;simp[yX,FW,a,nH,c];simp[iB,Sd.dat,xO]
def Hz(c:aF)(k:Nat):Dat:=.tuple [.int (X5 c ((k:Int)+1)),aH (bf c ((k:Int)+1))]
def mD(c:aF):Dat:=.tuple [lI c.own,.list ((List.range c.al.length).map (Hz c)),.list (c.held.map iK),.list (c.bs.map xO)]
section
variable{M:Mo}{L:Lay}{c:aF}(a:At M L c)
include a
theorem ajZ(i:dD c)(few:c.held.length<=20000)(e:c.bs.length<=20000):j9 M [ob L.c]=.ok (mD c):=by
 have hc:=a.hc;have z:=a.hr;let⟨n,m,o⟩:=a.hg
 let⟨R,y⟩:=a.hh
 have t:=adA a;have u:=agh a;have v:=adq a (by omega:c.held.length<=50000);have N:=i.few;have C:=eZ (tg:=au 3) (te:=bh #[aD eG (aY "grounds" (0)) #[(3:),],dG lX (aD bF (0) #[(3:),])]) (M:=M) (ρ:=[#[ob L.c],none,none,none,none]) (λ(k:Nat)=>PyData.int (1+(k:Int))) (Hz c) (List.range c.al.length) λk hk=>⟨[#[ob L.c],none,none,#[.int ((k:Int)+1)],none],by simp[Int.add_comm],by
  rw[List.mem_range]at hk;have A:Vg c ((k:Int)+1):=by constructor<;>omega
  have f:=Qa a ((k:Int)+1);have g:=xJ a i ((k:Int)+1);rw[awy A]at f g;simp[hc,aP,o,dh,eG,bF,f,g,Hz]⟩
 have O:=a.len';have p:=λ(q:Option Cell)=>eZ (tg:=au 4) (te:=aD xq (4) bZ) (M:=M) (ρ:=[#[ob L.c],q,none,none,none]) (λ(x:Nat×Nat×fJ)=>ob x.2.1) (λx=>xO x.2.2) (bV L c) λx B=>⟨[#[ob L.c],q,none,none,#[ob x.2.1]],by simp,by
  let⟨Q,l⟩:=a.hb' B
  have:=akh l;simp[l,xq,this]⟩
 have r:(bV L c).map (λx=>ob x.2.1)=L.bs.map ob:=by
  unfold bV;apply avO;intro j;simp![avy,av3];by_cases b:j<L.bs.length
  .have d:(L.bs.zip c.bs)[j]?=some (L.bs[j],c.bs[j]'(by rw[<-a.len];exact b)):=by
    rw[av7];exact⟨avi b,avi _⟩
   rw[d,avi b];rfl
  .rw[avJ (by omega:L.bs.length<=j),avJ (by rw[List.length_zip];omega)];rfl
 have s:(bV L c).map (λx=>xO x.2.2)=c.bs.map xO:=by
  unfold bV;apply avO;intro j;simp![avy,av3];by_cases b:j<c.bs.length
  .have d:(L.bs.zip c.bs)[j]?=some (L.bs[j]'(by rw[a.len];exact b),c.bs[j]):=by
    rw[av7];exact⟨avi _,avi b⟩
   rw[d,avi b];rfl
  .rw[avJ (by omega:c.bs.length<=j),avJ (by rw[List.length_zip];omega)];rfl
 simp![r,s]at p;have r1:jF 1 c.al.length=(List.range c.al.length).map λ(k:Nat)=>PyData.int (1+(k:Int)):=rfl;have F:(c.al.length:Int)+1<=100000:=#[];have G : -100000<=(c.al.length:Int)+1:=#[];have H:c.al.length<=50000:=#[];have I:L.bs.length<=50000:=by rw[a.len];omega
 simp[j9,Am,hc,aP,o,dh,fB,t,F,G,r1,C,H];simp[hc,aP,y,dI,z,mY,p,I,wu,uP,u,v,mD]
end
section
variable{M:Mo}{L:Lay}{c:aF}(a:At M L c)
include a
theorem tM(i:dD c)(few:c.held.length<=20000)(b:c.bs.length<=20000)(x:Int)(e:(fU L c 0 x).eraseDups.length<=76):lA M [ob L.c,.int x]=if Vg c x then .ok (.list ((bM (fU L c 0 x)).map Ear.rD)) else .exc ⟨"NoGround",[]⟩:=by
 have hc:=a.hc;have d:=Hh a i few b 0 x e;by_cases h:Vg c x
 .rw[awy h]at d |-
  simp[lA,pC,hc,dw,d]
 .rw[awz h]at d |-
  simp[lA,pC,hc,dw,d]
def amg(o:Int)(e:ListInt)(R:List Rw)(b:Int):Out Dat:=match DW o e R b with
 |[]=>.ok .none
 |r::_=>.exc ⟨"Clash",[("ear",aH (jD e r.2)),("others",Ear.rD r),("ones",Ear.rD (o,e))]⟩
omit a in
theorem ahY{T:List Rw}(h:Ear.Zk T):T.Nodup:=by
 unfold Ear.Zk at h;unfold List.Nodup;exact h.imp λ{x y} z e=>by
  subst e;exact List.lt_irrefl _ z
theorem Nt(m:∀o∈c.own,o<=c.count)(few:c.own.length<=20000):∃d,iY M [ob L.c]=.ok (.int (c.count+1)) d/\At d L { c with count:=c.count+1,own:=c.own++[c.count+1] }:=by
 have hc:=a.hc;have l:∀i,(M.set L.c i)[L.c]?=some i:=λi=>by rw[aW hc,awy rfl]
 have hk:=any_keys (c.count+1) c.own;have f:¬(c.count+1)∈c.own:=λz=>by have:=m _ z;omega
 rw[decide_eq_false f]at hk;have n:∀x∈c.own,¬x=c.count+1:=λx b e=>f (e ▸ b);have g:c.own.length<100000:=#[];refine⟨_,?_,a.setC⟩;simp![awl,avG]at hk;have j:(c.own.any λx=>x==c.count+1)=false:=by rw[List.any_eq_false];intro x b;simpa using n x b
 simp[iY,ug,hc,aP,l,jk,g,avG,j]
end
def aaY{c:Type}[BEq c][LawfulBEq c](l:List c):l.eraseDups.length<=l.length:=by
 induction d:l.length using Nat.strongRecOn generalizing l with
 |_ n e=>
  cases l with
  |nil=>simp
  |cons a r=>
   rw[List.eraseDups_cons];simp![avu]at d |-
   have f:(r.filter λb=>!b==a).length<=r.length:=avD _ _;have:=e _ #[] (r.filter λb=>!b==a) rfl;omega
def aaM{S:List Rw}(h:S.eraseDups.length<=76):(bM S).eraseDups.length<=76:=avH (aaY _) (by rw[rF];exact h)
def yM{S:List Rw}(h:uF S):uF (bM S):=λr a=>h r (m7.mp a)
section
variable{M:Mo}{L:Lay}{c:aF}(a:At M L c)
include a
theorem Z0(i:dD c)(few:c.held.length<=20000)(b:c.bs.length<=20000)(o x:Int)(e:ListInt)(l:e.length=6)(m:Vg c x)(d:(fU L c 0 x).eraseDups.length<=76)(k:uF (fU L c 0 x)):iy M [ob L.c,.int o,aH e,.int x]=amg o e (bM (fU L c 0 x)) (roomOf c x):=by
 have hc:=a.hc;have g:=tM a i few b x d;have h:=yE a i x;rw[awy m]at g h;have f:=Ry M o e (bM (fU L c 0 x)) (roomOf c x) l (yM k) (aaM d);unfold amg;cases j:DW o e (bM (fU L c 0 x)) (roomOf c x) with
 |nil=>
  rw[j]at f;simp[iy,mO,hc,bK,bL,g,h,f]
 |cons r n=>
  rw[j]at f;simp[iy,mO,hc,bK,bL,g,h,f]
end
section
variable{M:Mo}{L:Lay}{c:aF}(a:At M L c)
include a
def KR(L:Lay)(c:aF)(x y:Int):List Rw:=bM (fU L c 0 x)++bM (fU L c 0 y)
def yj(c:aF)(x y:Int):Int:=if roomOf c y>roomOf c x then roomOf c y else roomOf c x
theorem acX(i:dD c)(few:c.held.length<=20000)(b:c.bs.length<=20000)(x y:Int)(s:Vg c x)(t:Vg c y)(f:(fU L c 0 x).eraseDups.length<=76)(g:(fU L c 0 y).eraseDups.length<=76)(p:(KR L c x y).eraseDups.length<=76)(n:uF (fU L c 0 x))(o:uF (fU L c 0 y)):lB M [ob L.c,.int x,.int y]=.ok (.list ((nO (bM (KR L c x y)) (yj c x y)).map pairD)):=by
 have hc:=a.hc;have l:=tM a i few b x f;have m:=tM a i few b y g;have r1:=yE a i x;have j:=yE a i y;rw[awy s]at l r1;rw[awy t]at m j;have q:uF (KR L c x y):=λr d=>by
  rcases avz.mp d with d|d
  .exact yM n r d
  .exact yM o r d
 have k:=ac0 M (KR L c x y) (yj c x y) q p;have v:(bM (fU L c 0 x)).length<=76:=by rw[rF];exact f
 have z:(bM (fU L c 0 y)).length<=76:=by rw[rF];exact g
 have u:(bM (fU L c 0 x)).length+(bM (fU L c 0 y)).length<=100000:=#[];have e:vK M [.list ((bM (fU L c 0 x)).map Ear.rD++(bM (fU L c 0 y)).map Ear.rD),.int (if roomOf c y>roomOf c x then roomOf c y else roomOf c x)]=.ok (.list ((nO (bM (KR L c x y)) (yj c x y)).map pairD)):=by rw[<-avN];exact k
 simp[lB,uX,hc,bK,bL,l,m,r1,j,u];simp at e;exact e ▸ (by simp[e])
end
def aeZ(c:aF)(lo:Int)(a:ListInt):List Rw:=((c.bs.mapIdx λi b=>(i,b)).filter λx=>(x.2.sd.due.isSome&&!(((x.1:Int)+1)==lo))&&(decide (x.2.sd.g∈a)&&x.2.sd.al)).map λx=>(x.2.sd.o,x.2.sd.due.getD [])
def dN(c:aF)(lo x:Int):List Rw:=inR c (bf c x)++aeZ c lo (bf c x)
def Hu{M:Mo}{L:Lay}{c:aF}(a:At M L c):(bV L c).map (λx=>(x.1,x.2.2))=c.bs.mapIdx λi b=>(i,b):=by
 unfold bV;apply avO;intro j;simp![avy,av3];by_cases d:j<c.bs.length
 .have e:(L.bs.zip c.bs)[j]?=some (L.bs[j]'(by rw[a.len];exact d),c.bs[j]):=by
   rw[av7];exact⟨avi _,avi d⟩
  rw[e,avi d];rfl
 .rw[avJ (by omega:c.bs.length<=j),avJ (by rw[List.length_zip];omega)];rfl
def iT{M:Mo}{L:Lay}{c:aF}(a:At M L c)(lo x:Int):fU L c lo x=dN c lo x:=by unfold fU dN Ur aeZ;rw[<-Hu a,List.filter_map,avK,awi];rfl
inductive aq where
 |owner|ground (x:Int)|enrol (o g:Int) (m:ListInt)|leave (o g:Int)|bring (o g:Int) (e:ListInt)|bear (k:Int)|cut (k:Int)|tear (k p:Int)|sell (k o:Int)|move (k g:Int)|die (k:Int)|BK (x y:Int)|part (x:Int)|pass (e h:Int)|heir (e g x:Int)
def aq.dat:aq->Dat
 |.owner=>.tuple [.str "owner"]
 |.ground x=>.tuple [.str "ground",.int x]
 |.enrol o g m=>.tuple [.str "enrol",.int o,.int g,aH m]
 |.leave o g=>.tuple [.str "leave",.int o,.int g]
 |.bring o g m=>.tuple [.str "bring",.int o,.int g,aH m]
 |.bear k=>.tuple [.str "bear",.int k]
 |.cut k=>.tuple [.str "cut",.int k]
 |.tear k p=>.tuple [.str "tear",.int k,.int p]
 |.sell k o=>.tuple [.str "sell",.int k,.int o]
 |.move k g=>.tuple [.str "move",.int k,.int g]
 |.die k=>.tuple [.str "die",.int k]
 |.BK x y=>.tuple [.str "unite",.int x,.int y]
 |.part x=>.tuple [.str "part",.int x]
 |.pass e h=>.tuple [.str "pass",.int e,.int h]
 |.heir e g x=>.tuple [.str "heir",.int e,.int g,.int x]
inductive Res where
 |ok (d:Dat) (c:aF)|no (x:cZ)
def qL(o:Int)(e:ListInt)(r:Rw):cZ:=⟨"Clash",[("ear",aH (jD e r.2)),("others",Ear.rD r),("ones",Ear.rD (o,e))]⟩
def firstM(c:aF)(o g:Int):ListInt:=(bR c o g).headD []
def Ag(o:Int)(e:ListInt)(R:List Rw)(a:Int)(r:Res):Res:=match DW o e (bM R) a with
 |[]=>r
 |x::_=>.no (qL o e x)
def LC(c:aF)(x y:Int):List Rw:=bM (dN c 0 x)++bM (dN c 0 y)
def uz(c:aF)(x:Int):ListInt:=(bf c x).filter λy=>!(y==x)
def VP(c:aF)(e:Int):ListInt:=((c.bs.mapIdx λi b=>(i,b)).filter λx=>(x.2.sd.o==e)&&x.2.sd.al).map λx=>(x.1:Int)+1
def aao(o g:Int)(b:fJ):Bool:=(decide (b.sd.g∈[g])&&b.sd.al)&&(b.sd.o==o)
def yg(c:aF)(k:Int)(f:fJ->Res):Res:=match bk c k with
 |none=>.no ⟨"NoBeast",[]⟩
 |some b=>if b.sd.al=true then f b else .no ⟨"Dead",[]⟩
def markB(c:aF)(k:Int)(f:fJ->ListInt->Res):Res:=yg c k λb=>match b.sd.due with
 |none=>.no ⟨"Unmarked",[]⟩
 |some e=>f b e
def Fe(c:aF)(k o g:Int):aF:=qD (λx=>Cg k x&&x.sd.al) (.followed o g) c
def tY(c:aF)(o:Int)(r:Res):Res:=if o∈c.own then r else .no ⟨"NoOwner",[]⟩
def yL(c:aF)(g:Int)(r:Res):Res:=if Vg c g then r else .no ⟨"NoGround",[]⟩
def Lk(e:ListInt)(r:Res):Res:=if cQ e=true then r else .no ⟨"BadEar",[]⟩
def ou(c:aF)(o g:Int)(r:Res):Res:=if bR c o g=[] then .no ⟨"NoRight",[]⟩ else r
def bT(c:aF):aq->Res
 |.owner=>.ok (.int (c.count+1)) { c with count:=c.count+1,own:=c.own++[c.count+1] }
 |.ground x=>if 0<=x/\x<=9 then .ok (.int (c.al.length+1)) { c with al:=c.al++[x],ci:=c.ci++[[(c.al.length:Int)+1]] } else .no ⟨"BadAllowance",[]⟩
 |.enrol o g m=>tY c o<|yL c g<|Lk m<|if m=[0,0,0,0,0,0] then .no ⟨"Bare",[]⟩ else if m∈bR c o g then .no ⟨"HasRight",[]⟩ else Ag o m (dN c 0 g) (roomOf c g) (.ok .none { c with held:=c.held++[(o,g,m)] })
 |.leave o g=>tY c o<|yL c g<|ou c o g<|if c.bs.any (aao o g)=true then .no ⟨"StillThere",[]⟩ else .ok (.list ((bR c o g).map aH)) { c with held:=dropped c o g }
 |.bring o g e=>tY c o<|yL c g<|Lk e<|ou c o g<|.ok (.int (c.bs.length+1)) { c with bs:=c.bs++[Dz (.brought o g e)] }
 |.bear k=>markB c k λb _=>.ok (.int (c.bs.length+1)) { c with bs:=c.bs++[Dz (.born k b.sd.o b.sd.g)] }
 | .cut k=>yg c k λb=>Ag b.sd.o (jD b.sd.ear (firstM c b.sd.o b.sd.g)) (dN c 0 b.sd.g) (roomOf c b.sd.g) (.ok (aH (jD b.sd.ear (firstM c b.sd.o b.sd.g))) (iw c (k-1).toNat (.cut (jD b.sd.ear (firstM c b.sd.o b.sd.g)))))
 |.tear k p=>yg c k λb=>if 0<=p/\p<6 then(if 9<=b.sd.ear.getD p.toNat 0 then .no ⟨"Deepest",[]⟩ else .ok (aH (yV b.sd.ear p.toNat)) (iw c (k-1).toNat (.torn p.toNat))) else .no ⟨"NoPlace",[]⟩
 |.sell k o=>markB c k λb _=>tY c o<|if b.sd.o=o then .no ⟨"SameOwner",[]⟩ else ou c o b.sd.g<|Ag o (jD b.sd.ear (firstM c o b.sd.g)) (dN c k b.sd.g) (roomOf c b.sd.g) (.ok (aH (jD b.sd.ear (firstM c o b.sd.g))) (Fe (iw c (k-1).toNat (.sold o (jD b.sd.ear (firstM c o b.sd.g)))) k o b.sd.g))
 |.move k g=>markB c k λb e=>yL c g<|if b.sd.g=g then .no ⟨"SameGround",[]⟩ else ou c b.sd.o g<|Ag b.sd.o e (dN c 0 g) (roomOf c g) (.ok (.int b.sd.g) (Fe (iw c (k-1).toNat (.moved g)) k b.sd.o g))
 |.die k=>yg c k λ_=>.ok .none (iw c (k-1).toNat .died)
 |.BK x y=>yL c y<|yL c x<|if y∈bf c x then .no ⟨"Together",[]⟩ else match nO (bM (LC c x y)) (yj c x y) with
  |p::_=>.no (qL p.1.1 p.1.2 p.2)
  |[]=>.ok (lI (sortI (bf c x++bf c y))) { c with ci:=encl c.ci (sortI (bf c x++bf c y)) }
 |.part x=>yL c x<|if uz c x=[] then .no ⟨"Alone",[]⟩ else .ok (lI (uz c x)) { c with ci:=encl (encl c.ci [x]) (uz c x) }
 |.pass e h=>tY c e<|tY c h<|if e=h then .no ⟨"SameOwner",[]⟩ else .ok (lI (VP c e)) { qD (λb=>(b.sd.o==e)&&b.sd.al) (.passed h) c with own:=c.own.filter (λo=>!(o==e)),held:=handed c e h }
 | .heir e g x=>tY c e<|yL c g<|if 1<=x/\x<=3 then ou c e g (match (Tp (firstM c e g) x).find? (Ep (bM (dN c 0 g)) (roomOf c g)) with
  |some mk=>.ok (.tuple [.int (c.count+1),aH mk]) { c with count:=c.count+1,own:=c.own++[c.count+1],held:=c.held++[(c.count+1,g,mk)] }
  |none=>.no ⟨"NoneFree",[]⟩) else .no ⟨"BadExtra",[]⟩
structure Inv(n s:Nat)(c:aF):Prop where
 gr:dD c
 al:c.al.length<=n
 cnt:0<=c.count/\c.count<=n
 own:∀o∈c.own,1<=o/\o<=c.count
 Tw:c.own.Nodup
 ownL:c.own.length<=n
 held:c.held.Nodup
 hL:c.held.length+c.bs.length<=s
 hE:∀r∈c.held,r.1∈c.own/\Vg c r.2.1/\cQ r.2.2=true
 ear:∀b∈c.bs,cQ b.sd.ear=true
 due:∀b∈c.bs,∀e,b.sd.due=some e->cQ e=true
 en:∀b∈c.bs,b.en.length<=2*n
 rt:∀b∈c.bs,b.sd.al=true->∃m,(b.sd.o,b.sd.g,m)∈c.held
def gD{x:ListInt}(h:cQ x=true):x.length=6:=by unfold cQ at h;simp at h;exact h.1
theorem Gm{b:Type}[BEq b][LawfulBEq b]:∀{l S:List b},l.Nodup->(∀x∈l,x∈S)->l.length<=S.length
 |[],_,_,_=>by simp
 |x::l,S,a,h=>by
  rw[awp]at a;have c:=h x avl;have:=Gm (l:=l) (S:=S.erase x) a.2 λy d=>by
   have:y≠x:=λz=>a.1 (z ▸ d);exact(List.mem_erase_of_ne this).mpr (h y (avk _ d))
  rw[List.length_erase_of_mem c]at this;have:=List.length_pos_of_mem c;rw[avu];omega
def Rg(c:aF):List Rw:=c.held.map (λr=>(r.1,r.2.2))++c.bs.map λb=>(b.sd.o,b.sd.due.getD [])
def aeH{c:aF}{a:ListInt}{r:Rw}(h:r∈inR c a):∃g,(r.1,g,r.2)∈c.held/\g∈a:=by
 unfold inR at h;let⟨x,b,rfl⟩:=avr.mp h
 let⟨d,e⟩:=avF.mp b
 exact⟨x.2.1,d,by simpa using e⟩
def abR{c:aF}{lo:Int}{a:ListInt}{r:Rw}(h:r∈aeZ c lo a):∃(i:Nat) (b:fJ),c.bs[i]?=some b/\b.sd.o=r.1/\b.sd.due=some r.2/\b.sd.al=true/\b.sd.g∈a/\(i:Int)+1≠lo:=by
 unfold aeZ at h;let⟨x,f,rfl⟩:=avr.mp h
 let⟨j,d⟩:=avF.mp f
 let⟨i,q,rfl⟩:=List.mem_mapIdx.mp j
 simp![avh,awu,avB,beq_eq_false_iff_ne]at d;let⟨⟨k,l⟩,m,n⟩:=d
 refine⟨i,c.bs[i],avi q,rfl,?_,n,m,l⟩;cases p:c.bs[i].sd.due with
 |none=>simp[p]at k
 |some e=>rfl
def kW{c:aF}{lo x:Int}{r:Rw}(h:r∈dN c lo x):r∈Rg c:=by
 unfold Rg;rcases avz.mp h with h|h
 .let⟨g,a,_⟩:=aeH h
  exact avQ _ (avr.mpr ⟨_,a,rfl⟩)
 .let⟨i,b,a,d,e,_⟩:=abR h
  refine avZ _ (avr.mpr ⟨b,avo a,?_⟩);rw[d,e];rfl
section
variable{n s:Nat}{c:aF}(I:Inv n s c)
include I
theorem Inv.few{R:List Rw}(h:∀r∈R,r∈Rg c):R.eraseDups.length<=s:=by
 have a:=Gm (l:=bM R) (S:=Rg c) (ahY (acf R)) λr hr=>h r (m7.mp hr);rw[rF]at a;have:(Rg c).length=c.held.length+c.bs.length:=by simp[Rg]
 have:=I.hL;omega
theorem Inv.Qc{lo x:Int}:uF (dN c lo x):=λr hr=>by
 rcases avz.mp hr with h|h
 .let⟨g,a,_⟩:=aeH h
  exact gD (I.hE _ a).2.2
 .let⟨i,b,a,e,d,_⟩:=abR h
  exact gD (I.due b (avo a) _ d)
theorem Inv.bi:Ot (2*n) c:=⟨λb hb=>gD (I.ear b hb),I.en⟩
theorem Inv.mk1{o g:Int}(h:bR c o g≠[]):∃r,bR c o g=firstM c o g::r/\cQ (firstM c o g)=true:=by
 cases a:bR c o g with
 |nil=>exact absurd a h
 |cons m r=>
  refine⟨r,by simp[firstM,a],?_⟩;have:m∈bR c o g:=by rw[a];exact avl
  unfold bR at this;let⟨x,b,rfl⟩:=avr.mp this
  have e:firstM c o g=x.2.2:=by simp[firstM,a]
  rw[e];exact(I.hE x (avF.mp b).1).2.2
end
def Ie{c:aF}{o g:Int}{m:ListInt}:m∈bR c o g↔(o,g,m)∈c.held:=by
 unfold bR;rw[avr];constructor
 .rintro⟨⟨x,y,z⟩,h,rfl⟩;let⟨b,a⟩:=avF.mp h
  simp at a;let⟨rfl,rfl⟩:=a
  exact b
 .intro h;exact⟨_,avF.mpr ⟨h,by simp⟩,rfl⟩
def Ax{c:aF}{o g:Int}:bR c o g≠[]↔∃m,(o,g,m)∈c.held:=by
 constructor
 .intro h;let⟨m,a⟩:=List.exists_mem_of_ne_nil _ h
  exact⟨m,Ie.mp a⟩
 .rintro⟨m,a⟩ z;have:=Ie.mpr a;rw[z]at this;cases this
def Hl{x y:ListInt}(c:cQ x=true)(e:cQ y=true):cQ (jD x y)=true:=by
 have h:=gD c;have i:=gD e;unfold cQ at *;simp![avh,awu,avx]at *;refine⟨by simp[jD];omega,λd a=>?_⟩;unfold jD at a;let⟨p,b,rfl⟩:=avr.mp a
 have f:=c.2 p.1 (List.of_mem_zip b).1;have g:=e.2 p.2 (List.of_mem_zip b).2
 split<;>omega
def Fj(n:Nat)(x:ListInt):okd (n+1) (aH x)=true:=by show okd (n+1) (.tuple (x.map PyData.int))=true;rw[okd];exact YZ n x
def akl(x y:ListInt):yD (aH x) (aH y)=.ok (.bool (decide (x=y))):=by
 show(Out.when (okd 12 (aH x)&&okd 12 (aH y)) (.ok (PyData.eqv (aH x) (aH y)))).bind _=_
 rw[Fj 11,Fj 11,abo,Ck];rfl
def al4(neg:Bool)(m:ListInt)(a:List ListInt):inD neg (aH m) (.list (a.map aH))=.ok (.bool (neg ^^ decide (m∈a))):=by
 have e:mW 12 (a.map aH)=true:=Av.mpr λd c=>by
  let⟨x,_,rfl⟩:=avr.mp c
  exact Fj 11 x
 have f:((a.map aH).any λz=>PyData.eqv z (aH m))=decide (m∈a):=by
  induction a with
  |nil=>simp
  |cons x a g=>
   have b:mW 12 (a.map aH)=true:=Av.mpr λd c=>by
    let⟨x,_,rfl⟩:=avr.mp c
    exact Fj 11 x
   rw[avj,awc,g b,abo,Ck];by_cases h:x=m
   .simp[h]
   .have:¬m=x:=λz=>h z.symm;simp[h,this]
 show(Out.when (okd 12 (aH m)&&mW 12 (a.map aH)) (.ok ((a.map aH).any λz=>PyData.eqv z (aH m)))).bind _=_
 rw[e,f,Fj 11];rfl
def Sp(M:Mo)(L:Lay)(o:aR Dat):Res->Prop
 |.ok d b=>∃a bs,o=.ok d a/\At a { L with bs:=bs } b
 |.no x=>o=.exc x M
section
variable{M:Mo}{L:Lay}{c:aF}(a:At M L c){n s:Nat}(I:Inv n s c)(hs:s<=76)(hn:n<=199)
include a I hn
theorem alr:Sp M L (iY M [ob L.c]) (bT c .owner):=by
 let⟨b,d,e⟩:=Nt a (λo f=>(I.own o f).2) (by have:=I.ownL;omega)
 exact⟨b,L.bs,d,e⟩
theorem ais(x:Int):Sp M L (iG M [ob L.c,.int x]) (bT c (.ground x)):=by
 have hc:=a.hc;let⟨n,m,d⟩:=a.hg
 have g:=I.al;have b:=Z6 a I.gr #[] x;simp![bT];by_cases h:0<=x/\x<=9
 .rw[awy h]at b |-
  let⟨e,b,f⟩:=b
  exact⟨e,L.bs,by simp[iG,mH,hc,aP,d,dh,lK,b],f⟩
 .rw[awz h]at b |-
  show _=_;simp[iG,mH,hc,aP,d,dh,lK,b]
include hs
omit hn
theorem aa8(o x:Int)(e:ListInt)(d:e.length=6)(g:Vg c x):iy M [ob L.c,.int o,aH e,.int x]=match DW o e (bM (dN c 0 x)) (roomOf c x) with
  |[]=>.ok .none
  |r::_=>.exc (qL o e r):=by
 have i:=I.hL;have b:=I.few (R:=dN c 0 x) λr f=>kW f;have:=Z0 a I.gr #[] #[] o x e d g (by rw[iT a];omega) (by rw[iT a];exact I.Qc);rw[iT a]at this;exact this
theorem akj(o g:Int)(m:ListInt)(E:m.length<=1000):Sp M L (eE M [ob L.c,.int o,.int g,aH m]) (bT c (.enrol o g m)):=by
 have hc:=a.hc;have y:=a.hr;let⟨H,G,j⟩:=a.hg
 have F:=I.hL;have b:=lU a o;have d:=yH a g;have e:=RQ M m E;have x:=KY a #[] o g;simp![bT,tY,yL,Lk,Ag];by_cases A:o∈c.own;rotate_left
 .rw[awz A]at b |-
  show _=_;simp[eE,gM,hc,aP,ao,b]
 rw[awy A]at b |-
 by_cases u:Vg c g;rotate_left
 .rw[awz u]at d |-
  show _=_;simp[eE,gM,hc,aP,ao,b,j,dh,aA,d]
 rw[awy u]at d |-
 by_cases v:cQ m=true;rotate_left
 .rw[awz v]at e |-
  show _=_;simp[eE,gM,hc,aP,ao,b,j,dh,aA,d,e]
 rw[awy v]at e |-
 have i:yD (.tuple (m.map PyData.int)) (.tuple [.int 0,.int 0,.int 0,.int 0,.int 0,.int 0])=_:=akl m [0,0,0,0,0,0];by_cases p:m=[0,0,0,0,0,0]
 .rw[awy p];rw[decide_eq_true p]at i;show _=_;simp[eE,gM,hc,aP,ao,b,j,dh,aA,d,e,jO];simp[i]
 rw[awz p];rw[decide_eq_false p]at i;have f:=al4 false m (bR c o g);by_cases l:m∈bR c o g
 .rw[awy l];rw[decide_eq_true l]at f;simp at f;show _=_;simp[eE,gM,hc,aP,ao,b,j,dh,aA,d,e,jO,i,y,mY,cG,x,f]
 rw[awz l];rw[decide_eq_false l]at f;simp at f;have q:=aa8 a I hs o g m (gD v) u;cases B:DW o m (bM (dN c 0 g)) (roomOf c g) with
 |cons r J=>
  rw[B]at q;show _=_;simp[eE,gM,hc,aP,ao,b,j,dh,aA,d,e,jO,i,y,mY,cG,x,f,bY,q]
 |nil=>
  rw[B]at q;have t:=OD a #[] o g m;rw[awz λz=>l (Ie.mpr z)]at t;let⟨C,t,D⟩:=t
  refine⟨C,L.bs,?_,D⟩;simp[eE,gM,hc,aP,ao,b,j,dh,aA,d,e,jO,i,y,mY,cG,x,f,bY,q,iZ,t]
end
@[simp]def avb (n:Nat) (b:fJ):List.lookup ("owner" : Str) (iB n b).fs=#[.int b.sd.o]:=by simp[iB]
@[simp]def avd (n:Nat) (b:fJ):List.lookup ("ground" : Str) (iB n b).fs=#[.int b.sd.g]:=by simp[iB]
@[simp]def ava (n:Nat) (b:fJ):List.lookup ("due" : Str) (iB n b).fs=#[oN b.sd.due]:=by simp[iB]
@[simp]def avc (n:Nat) (b:fJ):List.lookup ("ear" : Str) (iB n b).fs=#[aH b.sd.ear]:=by simp[iB]
@[simp]def auV (n:Nat) (b:fJ):List.lookup ("alive" : Str) (iB n b).fs=#[.bool b.sd.al]:=by simp[iB]
section
variable{M:Mo}{L:Lay}{c:aF}(a:At M L c){n s:Nat}(I:Inv n s c)(hs:s<=76)
include a I hs
theorem alI(o g:Int):Sp M L (gG M [ob L.c,.int o,.int g]) (bT c (.leave o g)):=by
 have hc:=a.hc;have D:=a.hr;let⟨H,G,t⟩:=a.hg
 let⟨J,z⟩:=a.hh
 have F:=I.hL;have d:=lU a o;have f:=yH a g;have m:=tD a #[] o g;simp![bT,tY,yL,ou];by_cases v:o∈c.own;rotate_left
 .rw[awz v]at d |-
  show _=_;simp[gG,jK,hc,aP,ao,d]
 rw[awy v]at d |-
 by_cases p:Vg c g;rotate_left
 .rw[awz p]at f |-
  show _=_;simp[gG,jK,hc,aP,ao,d,t,dh,aA,f]
 rw[awy p]at f |-
 by_cases l:bR c o g=[]
 .rw[awy l]at m |-
  show _=_;simp[gG,jK,hc,aP,ao,d,t,dh,aA,f,aO,m]
 rw[awz l]at m |-
 have q:qH M [ob L.h,.list [.int g]]=_:=Lq a #[] [g];have b:=eZ (tg:=aX [3,4]) (te:=aK yD (aY "owner" (4)) (1)) (M:=M) (ρ:=[#[ob L.c],#[.int o],#[.int g],none,none]) nb (λx=>.bool (x.2.2.sd.o==o)) ((bV L c).filter λx=>decide (x.2.2.sd.g∈[g])&&x.2.2.sd.al) λx E=>⟨[#[ob L.c],#[.int o],#[.int g],#[.int ((x.1:Int)+1)],#[ob x.2.1]],by simp[nb],by
  let⟨n,C⟩:=a.hb' (avF.mp E).1
  simp[C,iB]⟩
 have u:((bV L c).filter λx=>decide (x.2.2.sd.g∈[g])&&x.2.2.sd.al).length<=50000:=avH (avD _ _) (by rw[a.len'];omega);have j:S9 (.list (((bV L c).filter λx=>decide (x.2.2.sd.g∈[g])&&x.2.2.sd.al).map λx=>PyData.bool (x.2.2.sd.o==o)))=.ok (.bool (c.bs.any (aao o g))):=by
  have e:(((bV L c).filter λx=>decide (x.2.2.sd.g∈[g])&&x.2.2.sd.al).map λx=>PyData.bool (x.2.2.sd.o==o))=(((bV L c).filter λx=>decide (x.2.2.sd.g∈[g])&&x.2.2.sd.al).map λx=>(x.2.2.sd.o==o)).map PyData.bool:=by rw[avK];rfl
  rw[e,aaH,awl,List.any_filter];have p:=Hu a;have l:(bV L c).map (λx=>x.2.2)=c.bs:=by
   have:(bV L c).map (λx=>x.2.2)=((bV L c).map (λx=>(x.1,x.2.2))).map (·.2):=by rw[avK];rfl
   rw[this,p];apply avO;intro i;simp;cases c.bs[i]?<;>rfl
  conv=>rhs;rw[<-l]
  rw[awl];rfl
 cases y:c.bs.any (aao o g) with
 |true=>
  rw[y]at j;show _=_;simp[gG,jK,hc,aP,ao,d,t,dh,aA,f,aO,m,z,dI,fG];simp at q b j u;simp[q,b,u,j]
 |false=>
  rw[y]at j;have r:=aku a #[] I.held o g;rw[awz l]at r;let⟨A,r,B⟩:=r
  refine⟨A,L.bs,?_,B⟩;simp[gG,jK,hc,aP,ao,d,t,dh,aA,f,aO,m,z,dI,fG];simp at q b j u;simp[q,b,u,j,hc,aP,D,mY,Ar,r]
theorem akB(o g:Int)(m:ListInt)(x:m.length<=1000):Sp M L (gK M [ob L.c,.int o,.int g,aH m]) (bT c (.bring o g m)):=by
 have hc:=a.hc;have z:=a.hr;let⟨B,A,i⟩:=a.hg
 let⟨C,v⟩:=a.hh
 have y:=I.hL;have b:=lU a o;have d:=yH a g;have e:=RQ M m x;have f:=tD a #[] o g;simp![bT,tY,yL,Lk,ou];by_cases j:o∈c.own;rotate_left
 .rw[awz j]at b |-
  show _=_;simp[gK,jR,hc,aP,ao,b]
 rw[awy j]at b |-
 by_cases l:Vg c g;rotate_left
 .rw[awz l]at d |-
  show _=_;simp[gK,jR,hc,aP,ao,b,i,dh,aA,d]
 rw[awy l]at d |-
 by_cases p:cQ m=true;rotate_left
 .rw[awz p]at e |-
  show _=_;simp[gK,jR,hc,aP,ao,b,i,dh,aA,d,e]
 rw[awy p]at e |-
 by_cases q:bR c o g=[]
 .rw[awy q]at f |-
  show _=_;simp[gK,jR,hc,aP,ao,b,i,dh,aA,d,e,aO,f]
 rw[awz q]at f |-
 let⟨t,h,r,u⟩:=Oe a #[] (.brought o g m) #[]
 refine⟨t,L.bs++[h],?_,u⟩;simp[Fi.dat]at r;simp[gK,jR,hc,aP,ao,b,i,dh,aA,d,e,aO,f,v,dI,jV,r]
theorem aou(k:Int):Sp M L (jG M [ob L.c,.int k]) (bT c (.bear k)):=by
 have hc:=a.hc;let⟨t,f⟩:=a.hh
 have r:=I.hL;have d:=Pj a #[] k;simp![bT,markB,yg];cases hk:bk c k with
 |none=>
  rw[hk]at d;show _=_;simp[jG,nu,hc,aP,f,dI,aZ,d]
 |some b=>
  rw[hk]at d;let⟨_,_,_,_,u,q⟩:=tG a hk
  show Sp M L _ (if b.sd.al=true then _ else _);cases i:b.sd.al with
  |false=>
   simp[i]at d;show _=_;simp[jG,nu,hc,aP,f,dI,aZ,d]
  |true=>
   simp[i]at d;cases j:b.sd.due with
   |none=>
    simp[j]at d;show _=_;simp[jG,nu,hc,aP,f,dI,aZ,d]
   |some e=>
    simp[j]at d;simp![if_true];let⟨m,h,l,p⟩:=Oe a #[] (.born k b.sd.o b.sd.g) #[]
    refine⟨m,L.bs++[h],?_,p⟩;simp[Fi.dat]at l;simp[jG,nu,hc,aP,f,dI,aZ,d,q,iB,jV,l]
theorem aqo(k:Int)(r:n<=1000):Sp M L (lO M [ob L.c,.int k]) (bT c (.die k)):=by
 have hc:=a.hc;let⟨t,g⟩:=a.hh
 have q:=I.hL;have d:=Hr a #[] k;simp![bT,yg];cases hk:bk c k with
 |none=>
  rw[hk]at d;show _=_;simp[lO,sS,hc,aP,g,dI,bD,d]
 |some b=>
  rw[hk]at d;let⟨_,_,o,j,p,m⟩:=tG a hk
  show Sp M L _ (if b.sd.al=true then _ else _);cases i:b.sd.al with
  |false=>
   simp[i]at d;show _=_;simp[lO,sS,hc,aP,g,dI,bD,d]
  |true=>
   simp[i]at d;have f:=avo j;simp![if_true];have l:=uL m .died (by rw[gD (I.ear b f)];decide) (by have:=I.en b f;omega);refine⟨_,L.bs,?_,Br (n:=p) (e:=.died) a o j⟩;simp[En.dat]at l;simp[lO,sS,hc,aP,g,dI,bD,d,m,bG,l,sW]
theorem amj(k p:Int)(F:n<=1000):Sp M L (fY M [ob L.c,.int k,.int p]) (bT c (.tear k p)):=by
 have hc:=a.hc;let⟨H,j⟩:=a.hh
 have E:=I.hL;have d:=Hr a #[] k;simp![bT,yg];cases hk:bk c k with
 |none=>
  rw[hk]at d;show _=_;simp[fY,jx,hc,aP,j,dI,bD,d]
 |some b=>
  rw[hk]at d;let⟨_,_,y,u,C,o⟩:=tG a hk
  show Sp M L _ (if b.sd.al=true then _ else _);cases t:b.sd.al with
  |false=>
   simp[t]at d;show _=_;simp[fY,jx,hc,aP,j,dI,bD,d]
  |true=>
   simp[t]at d;have m:=avo u;have D:=gD (I.ear b m);simp![if_true];by_cases r:0<=p/\p<6
   .rw[awy r];obtain⟨q,rfl⟩:∃q:Nat,p=q:=⟨p.toNat,#[]⟩;have G:q<6:=#[];have g:q<b.sd.ear.length:=#[];have l:(q:Int)<6:=#[];have A:b.sd.ear[q]?.getD 0=b.sd.ear[q]:=by simp[g]
    simp![Int.toNat_natCast,List.getD_eq_getElem?_getD,A];have v:=uL o (.torn q) #[] (by have:=I.en b m;omega);by_cases f:9<=b.sd.ear[q]
    .rw[awy f];show _=_;simp[fY,jx,hc,aP,j,dI,bD,d,o,iB,dO,l,cM,g,f]
    .rw[awz f];refine⟨_,L.bs,?_,Br (n:=C) (e:=.torn q) a y u⟩;simp[En.dat]at v;have B:∀i,(M.set (Pr.hk L k) i)[Pr.hk L k]?=some i:=λi=>by rw[aW o,awy rfl]
     simp[fY,jx,hc,aP,j,dI,bD,d,o,dO,l,cM,bG,v,B,g,f,sW,go]
   .rw[awz r];show _=_;by_cases f:0<=p
    .have x:¬p<6:=λz=>r ⟨f,z⟩;simp[fY,jx,hc,aP,j,dI,bD,d,dO,f,x]
    .simp[fY,jx,hc,aP,j,dI,bD,d,dO,f]
end
def Inv.alive{n s:Nat}{c:aF}(I:Inv n s c){b:fJ}(h:b∈c.bs)(d:b.sd.al=true):bR c b.sd.o b.sd.g≠[]/\Vg c b.sd.g/\b.sd.o∈c.own:=by
 let⟨m,a⟩:=I.rt b h d
 exact⟨Ax.mpr ⟨m,a⟩,(I.hE _ a).2.1,(I.hE _ a).1⟩
section
variable{M:Mo}{L:Lay}{c:aF}(a:At M L c){n s:Nat}(I:Inv n s c)(hs:s<=76)(hn:n<=1000)
include a I hs hn
theorem aqM(k:Int):Sp M L (jW M [ob L.c,.int k]) (bT c (.cut k)):=by
 have hc:=a.hc;let⟨G,j⟩:=a.hh
 have F:=I.hL;have f:=Hr a #[] k;simp![bT,yg,Ag];cases hk:bk c k with
 |none=>
  rw[hk]at f;show _=_;simp[jW,oW,hc,aP,j,dI,bD,f]
 |some b=>
  rw[hk]at f;let⟨_,_,y,t,z,p⟩:=tG a hk
  show Sp M L _ (if b.sd.al=true then _ else _);cases l:b.sd.al with
  |false=>
   simp[l]at f;show _=_;simp[jW,oW,hc,aP,j,dI,bD,f]
  |true=>
   simp[l]at f;simp![if_true];have d:=avo t;let⟨A,B,H⟩:=I.alive d l
   let⟨r,C,D⟩:=I.mk1 A
   have E:=gD (I.ear b d);have v:=Eb a #[] _ _ C;have m:=Ma M b.sd.ear (firstM c b.sd.o b.sd.g) #[];have x:=gD (Hl (I.ear b d) D);generalize jD b.sd.ear (firstM c b.sd.o b.sd.g)=e at m x |-
   have i:=aa8 a I hs b.sd.o b.sd.g e x B;cases q:DW b.sd.o e (bM (dN c 0 b.sd.g)) (roomOf c b.sd.g) with
   |cons r J=>
    rw[q]at i;show _=_;simp[jW,oW,hc,aP,j,dI,bD,f,p,iB,bW,v,m,bY,i]
   |nil=>
    rw[q]at i;have u:=uL p (.cut e) #[] (by have:=I.en b d;omega);refine⟨_,L.bs,?_,Br (n:=z) (e:=.cut e) a y t⟩;simp[En.dat]at u;simp[jW,oW,hc,aP,j,dI,bD,f,p,bW,bG,u,bY,v,m,i,sW]
theorem anZ(x:Int):Sp M L (j8 M [ob L.c,.int x]) (bT c (.part x)):=by
 have hc:=a.hc;let⟨k,j,d⟩:=a.hg
 have b:=aho a I.gr x;have h:(bf c x).filter (λy=>!(y==x))=uz c x:=rfl;rw[h]at b;simp![bT,yL];by_cases e:Vg c x
 .rw[awy e]at b |-
  by_cases f:uz c x=[]
  .rw[awy f]at b |-
   show _=_;simp[j8,qJ,hc,aP,d,dh,pN,b]
  .rw[awz f]at b |-
   let⟨g,b,i⟩:=b
   refine⟨g,L.bs,?_,i⟩;simp[j8,qJ,hc,aP,d,dh,pN,b]
 .rw[awz e]at b |-
  show _=_;simp[j8,qJ,hc,aP,d,dh,pN,b]
theorem aj4(x y:Int)(d:Vg c x)(f:Vg c y):lB M [ob L.c,.int x,.int y]=.ok (.list ((nO (bM (LC c x y)) (yj c x y)).map pairD)):=by
 have l:=I.hL;have g:=I.few (R:=dN c 0 x) λr b=>kW b;have i:=I.few (R:=dN c 0 y) λr b=>kW b;have j:=I.few (R:=LC c x y) λr b=>by
  rcases avz.mp b with h|h
  .exact kW (m7.mp h)
  .exact kW (m7.mp h)
 have e:KR L c x y=LC c x y:=by unfold KR LC;rw[iT a,iT a]
 have:=acX a I.gr #[] #[] x y d f (by rw[iT a];omega) (by rw[iT a];omega) (by rw[e];omega) (by rw[iT a];exact I.Qc) (by rw[iT a];exact I.Qc);rw[e]at this;exact this
theorem akT(x y:Int):Sp M L (gH M [ob L.c,.int x,.int y]) (bT c (.BK x y)):=by
 have hc:=a.hc;let⟨D,C,f⟩:=a.hg
 have b:=yH a y;have d:=xJ a I.gr x;simp![bT,yL];by_cases g:Vg c y;rotate_left
 .rw[awz g]at b |-
  show _=_;simp[gH,jL,hc,aP,f,dh,aA,b]
 rw[awy g]at b |-
 by_cases j:Vg c x;rotate_left
 .rw[awz j]at d |-
  show _=_;simp[gH,jL,hc,aP,f,dh,aA,b,bF,d]
 rw[awy j]at d |-
 have e:=J8 false y (bf c x);have l:=afy a I.gr x y j g;by_cases k:y∈bf c x
 .rw[awy k];rw[decide_eq_true k]at e;show _=_;simp[gH,jL,hc,aP,f,dh,aA,b,bF,d,e]
 rw[awz k]at l |-
 rw[decide_eq_false k]at e;have m:=aj4 a I hs hn x y j g;have v:∀p∈nO (bM (LC c x y)) (yj c x y),p.1.2.length=6:=λp o=>by
  unfold nO at o;let⟨q,B,o⟩:=List.mem_flatMap.mp o
  let⟨r,_,rfl⟩:=avr.mp o
  let⟨i,z,rfl⟩:=List.mem_mapIdx.mp B
  have A:=m7.mp (av2 z);rcases avz.mp A with h|h
  .exact I.Qc _ (m7.mp h)
  .exact I.Qc _ (m7.mp h)
 cases u:nO (bM (LC c x y)) (yj c x y) with
 |cons p E=>
  rw[u]at m v;have t:=Ma M p.1.2 p.2.2 (by have:=v p avl;omega);show _=_;simp[gH,jL,hc,aP,f,dh,aA,b,bF,d,e,oJ,m];simp[pairD,Ear.rD,Ear.dT,t,qL]
 |nil=>
  rw[u]at m;let⟨w,l,t⟩:=l
  refine⟨w,L.bs,?_,t⟩;simp[gH,jL,hc,aP,f,dh,aA,b,bF,d,e,oJ,m,yx,l]
theorem amU(e g x:Int):Sp M L (cV M [ob L.c,.int e,.int g,.int x]) (bT c (.heir e g x)):=by
 have hc:=a.hc;have G:=a.hr;let⟨X,W,l⟩:=a.hg
 have U:=I.hL;have b:=lU a e;have f:=yH a g;have m:=tD a #[] e g;simp![bT,tY,yL,ou];by_cases D:e∈c.own;rotate_left
 .rw[awz D]at b |-
  show _=_;simp[cV,dZ,hc,aP,ao,b]
 rw[awy D]at b |-
 by_cases p:Vg c g;rotate_left
 .rw[awz p]at f |-
  show _=_;simp[cV,dZ,hc,aP,ao,b,l,dh,aA,f]
 rw[awy p]at f |-
 by_cases q:1<=x/\x<=3;rotate_left
 .rw[awz q];show _=_;by_cases i:1<=x
  .have j:¬x<=3:=λz=>q ⟨i,z⟩;simp[cV,dZ,hc,aP,ao,b,l,dh,aA,f,jE,lH,i,j]
  .simp[cV,dZ,hc,aP,ao,b,l,dh,aA,f,jE,lH,i]
 rw[awy q];let⟨i,j⟩:=q
 by_cases v:bR c e g=[]
 .rw[awy v]at m |-
  show _=_;simp[cV,dZ,hc,aP,ao,b,l,dh,aA,f,jE,lH,i,j,aO,m]
 rw[awz v]at m |-
 let⟨r,O,Q⟩:=I.mk1 v
 have F:=Eb a #[] _ _ O;have S:=I.few (R:=dN c 0 g) λr G=>kW G;have y:=tM a I.gr #[] #[] g (by rw[iT a];omega);rw[awy p,iT a]at y;have A:=yE a I.gr g;rw[awy p]at A;have d:=aae M (firstM c e g) x (bM (dN c 0 g)) (roomOf c g) Q ⟨#[],j⟩ (yM I.Qc) (by rw[rF];omega);cases E:(Tp (firstM c e g) x).find? (Ep (bM (dN c 0 g)) (roomOf c g)) with
 |none=>
  rw[E]at d;show _=_;simp[cV,dZ,hc,aP,ao,b,l,dh,aA,f,jE,lH,i,j,aO,m,bW,F,bK,y,bL,A,d]
 |some mk=>
  rw[E]at d;let⟨M1,N,u⟩:=Nt a (λo J=>(I.own o J).2) (by have:=I.ownL;omega)
  have t:=OD u (by show c.held.length<=50000;omega) (c.count+1) g mk;rw[awz (λz=>by
   have:=(I.own _ (I.hE _ z).1).2;simp at this
   omega)]at t
  let⟨M2,t,H⟩:=t
  have B:=u.hc;have C:=u.hr;refine⟨M2,L.bs,?_,H⟩;simp[cV,dZ,hc,aP,ao,b,l,dh,aA,f,jE,lH,i,j,aO,m,bW,F,bK,y,bL,A,d,iD,N];simp[B,aP,C,mY,iZ,t]
end
section
variable{M:Mo}{L:Lay}{c:aF}(a:At M L c){n s:Nat}(I:Inv n s c)(hs:s<=76)(hn:n<=1000)
include a I hs hn
theorem ank(k o:Int):Sp M L (dU M [ob L.c,.int k,.int o]) (bT c (.sell k o)):=by
 have hc:=a.hc;let⟨n2,j⟩:=a.hh
 have hL:=I.hL;have d:=Pj a #[] k;have m:=lU a o;simp![bT,markB,yg,Ag,tY,ou];cases hk:bk c k with
 |none=>
  rw[hk]at d;show _=_;simp[dU,fX,hc,aP,j,dI,aZ,d]
 |some b=>
  rw[hk]at d;let⟨Y,Z,W,C,n3,v⟩:=tG a hk
  show Sp M L _ (if b.sd.al=true then _ else _);cases A:b.sd.al with
  |false=>
   simp[A]at d;show _=_;simp[dU,fX,hc,aP,j,dI,aZ,d]
  |true=>
   simp[A]at d;simp![if_true];cases H:b.sd.due with
   |none=>
    simp[H]at d;show _=_;simp[dU,fX,hc,aP,j,dI,aZ,d]
   |some e0=>
    simp[H]at d;show Sp M L _ (if o∈c.own then _ else _);by_cases J:o∈c.own;rotate_left
    .rw[awz J]at m |-
     show _=_;simp[dU,fX,hc,aP,j,dI,aZ,d,ao,m]
    rw[awy J]at m |-
    by_cases p:b.sd.o=o
    .rw[awy p];show _=_;simp[dU,fX,hc,aP,j,dI,aZ,d,ao,m,v,p]
    rw[awz p];have u:=tD a #[] o b.sd.g;by_cases B:bR c o b.sd.g=[]
    .rw[awy B]at u |-
     show _=_;simp[dU,fX,hc,aP,j,dI,aZ,d,ao,m,v,p,aO,u]
    rw[awz B]at u |-
    have i:=avo C;let⟨q1,Q,q3⟩:=I.alive i A
    let⟨r,q4,q5⟩:=I.mk1 B
    have h6:=gD (I.ear b i);have O:=Eb a #[] _ _ q4;have D:=Ma M b.sd.ear (firstM c o b.sd.g) #[];have G:=gD (Hl (I.ear b i) q5);generalize jD b.sd.ear (firstM c o b.sd.g)=e at D G |-
    have f1:=I.few (R:=dN c k b.sd.g) λr X=>kW X;have E:=Hh a I.gr #[] #[] k b.sd.g (by rw[iT a];omega);rw[awy Q,iT a]at E;have l:=yE a I.gr b.sd.g;rw[awy Q]at l;have f:=Ry M o e (bM (dN c k b.sd.g)) (roomOf c b.sd.g) G (yM I.Qc) (aaM #[]);cases N:DW o e (bM (dN c k b.sd.g)) (roomOf c b.sd.g) with
    |cons r rs=>
     rw[N]at f;show _=_;simp[dU,fX,hc,aP,j,dI,aZ,d,ao,m,v,p,aO,u,bW,O,D,dw,E,bL,l,f,qL]
    |nil=>
     rw[N]at f;have q:=uL v (.sold o e) #[] (by have:=I.en b i;omega);have z:=Br (n:=n3) (e:=.sold o e) a W C;have F:bk (iw c (k-1).toNat (.sold o e)) k=some (sW b (.sold o e)):=by unfold bk;rw[awy ⟨Y,by simpa [iw] using Z⟩,Ay,awy rfl,C];rfl
     let⟨S,t,U⟩:=Jg z (by simp[iw];omega) (I.bi.step _ _ G) #[] k F
     have x:=z.hc;let⟨n4,y⟩:=z.hh
     refine⟨S,L.bs,?_,U⟩;simp[En.dat]at q;simp![sW]at t x y;simp[dU,fX,hc,aP,j,dI,aZ,d,ao,m,v,p,aO,u,bW,O,D,dw,E,bL,l,f,bG,q];simp[x,aP,y,dI,iW,t]
theorem amQ(k g:Int):Sp M L (dW M [ob L.c,.int k,.int g]) (bT c (.move k g)):=by
 have hc:=a.hc;let⟨Y,i⟩:=a.hh
 let⟨n5,X,y⟩:=a.hg
 have W:=I.hL;have d:=Pj a #[] k;have j:=yH a g;simp![bT,markB,yg,Ag,yL,ou];cases hk:bk c k with
 |none=>
  rw[hk]at d;show _=_;simp[dW,fW,hc,aP,i,dI,aZ,d]
 |some b=>
  rw[hk]at d;let⟨O,Q,N,C,R,v⟩:=tG a hk
  show Sp M L _ (if b.sd.al=true then _ else _);cases E:b.sd.al with
  |false=>
   simp[E]at d;show _=_;simp[dW,fW,hc,aP,i,dI,aZ,d]
  |true=>
   simp[E]at d;simp![if_true];cases p:b.sd.due with
   |none=>
    simp[p]at d;show _=_;simp[dW,fW,hc,aP,i,dI,aZ,d]
   |some e=>
    simp[p]at d;show Sp M L _ (if Vg c g then _ else _);by_cases B:Vg c g;rotate_left
    .rw[awz B]at j |-
     show _=_;simp[dW,fW,hc,aP,i,dI,aZ,d,y,dh,aA,j]
    rw[awy B]at j |-
    by_cases m:b.sd.g=g
    .rw[awy m];show _=_;simp[dW,fW,hc,aP,i,dI,aZ,d,y,dh,aA,j,v,m]
    rw[awz m];have u:=tD a #[] b.sd.o g;by_cases F:bR c b.sd.o g=[]
    .rw[awy F]at u |-
     show _=_;simp[dW,fW,hc,aP,i,dI,aZ,d,y,dh,aA,j,v,m,aO,u]
    rw[awz F]at u |-
    have l:=avo C;have U:=gD (I.ear b l);have S:=gD (I.due b l e p);have f:=aa8 a I hs b.sd.o g e S B;cases G:DW b.sd.o e (bM (dN c 0 g)) (roomOf c g) with
    |cons r rs=>
     rw[G]at f;show _=_;simp[dW,fW,hc,aP,i,dI,aZ,d,y,dh,aA,j,v,m,aO,u,p,oN,bY,f]
    |nil=>
     rw[G]at f;have q:=uL v (.moved g) #[] (by have:=I.en b l;omega);have A:=Br (n:=R) (e:=.moved g) a N C;have D:bk (iw c (k-1).toNat (.moved g)) k=some (sW b (.moved g)):=by unfold bk;rw[awy ⟨O,by simpa [iw] using Q⟩,Ay,awy rfl,C];rfl
     let⟨H,t,J⟩:=Jg A (by simp[iw];omega) (I.bi.step _ _ awr) #[] k D
     have x:=A.hc;let⟨Z,z⟩:=A.hh
     refine⟨H,L.bs,?_,J⟩;simp[En.dat]at q;simp![sW]at t x z;simp[dW,fW,hc,aP,i,dI,aZ,d,y,dh,aA,j,v,m,aO,u,p,oN,bY,f,bG,q];simp[x,aP,z,dI,iW,t]
theorem an9(e h:Int):Sp M L (gj M [ob L.c,.int e,.int h]) (bT c (.pass e h)):=by
 have hc:=a.hc;have hr:=a.hr;have hL:=I.hL;have j:=lU a e;have l:=lU a h;simp![bT,tY];by_cases v:e∈c.own;rotate_left
 .rw[awz v]at j |-
  show _=_;simp[gj,jT,hc,aP,ao,j]
 rw[awy v]at j |-
 by_cases O:h∈c.own;rotate_left
 .rw[awz O]at l |-
  show _=_;simp[gj,jT,hc,aP,ao,j,l]
 rw[awy O]at l |-
 by_cases t:e=h
 .rw[awy t];show _=_;simp[gj,jT,hc,aP,ao,j,l,t]
 rw[awz t];let⟨M1,h3,d⟩:=acN a #[] e h
 have F:=d.hc;let⟨n1,G⟩:=d.hh
 have C:=aiR d (by show c.bs.length<=50000;omega) e;have z:bV L { c with held:=handed c e h }=bV L c:=rfl;rw[z]at C;generalize u:((bV L c).filter λx=>(x.2.2.sd.o==e)&&x.2.2.sd.al)=X at C;have hXl:X.length<=1000:=by rw[<-u];exact avH (avD _ _) (by rw[a.len'];omega)
 have b:Ot (2*n) { c with held:=handed c e h }:=⟨I.bi.ear,I.bi.en⟩;let⟨Z',M2,Z,g2,B⟩:=S7 (tg:=aX [4,5]) (body:=uo) (λN=>∃x y,N=[#[ob L.c],#[.int e],#[.int h],#[.list (X.map nb)],x,y])
  (λi r=>Ot (2*n+i) r/\r.bs.length=c.bs.length) (.passed h) L 1000 X M1 { c with held:=handed c e h } [#[ob L.c],#[.int e],#[.int h],#[.list (X.map nb)],none,none] 0 #[] d ⟨b,rfl⟩ ⟨none,none,rfl⟩ (λM1 r N x i hi d p1 q1 Q=>by
   let⟨b,R⟩:=p1
   let⟨x0,y0,rfl⟩:=q1
   rw[<-u]at Q;let⟨S,z2⟩:=CP (avF.mp Q).1
   have J:x.1<r.bs.length:=by rw[R];exact(avf.mp z2).1
   have U:=avi J;let⟨nx,m⟩:=d.hb _ _ _ S U
   have q:=av2 J;have E:=uL m (.passed h) (by rw[b.ear _ q];decide) (by have:=b.en _ q;omega);refine⟨[#[ob L.c],#[.int e],#[.int h],#[.list (X.map nb)],#[.int ((x.1:Int)+1)],#[ob x.2.1]],[#[ob L.c],#[.int e],#[.int h],#[.list (X.map nb)],#[.int ((x.1:Int)+1)],#[ob x.2.1]],_,by simp[nb],?_,⟨_,_,rfl⟩,Br (n:=nx) d S U,b.step _ _ awr,by simp[iw,R]⟩;have E:nJ M1 [ob x.2.1,.tuple [.str "passed",.int h]]=_:=E
   simp[uo,m,bG,E,sW])
 let⟨x0,y0,rfl⟩:=g2
 have g4:wz X (.passed h) { c with held:=handed c e h }=qD (λx=>(x.sd.o==e)&&x.sd.al) (.passed h) { c with held:=handed c e h }:=by rw[<-u];exact Y8 d (λx=>(x.sd.o==e)&&x.sd.al) (.passed h)
 rw[g4]at B;have f:=B.hc;have J:∀i,(M2.set L.c i)[L.c]?=some i:=λi=>by rw[aW f,awy rfl]
 have hk:=any_keys e c.own;rw[decide_eq_true v]at hk;have hf:((c.own.map λo=>(PyData.int o,PyData.bool true)).filter λp=>!PyData.eqv p.1 (.int e))=(c.own.filter λo=>!(o==e)).map λo=>(PyData.int o,PyData.bool true):=by rw[List.filter_map];congr 1
 have W:=B.setC (n:=c.count) (own:=c.own.filter λo=>!(o==e));refine⟨_,L.bs,?_,W⟩;have g:=eZ (tg:=aX [4,5]) (te:=zE 4) (M:=M2.set L.c (aP L { qD (λx=>(x.sd.o==e)&&x.sd.al) (.passed h) { c with held:=handed c e h } with count:=c.count,own:=c.own.filter λo=>!(o==e) })) (ρ:=[#[ob L.c],#[.int e],#[.int h],#[.list (X.map nb)],none,none]) nb (λx=>.int ((x.1:Int)+1)) X λx _=>⟨[#[ob L.c],#[.int e],#[.int h],#[.list (X.map nb)],#[.int ((x.1:Int)+1)],#[ob x.2.1]],by simp[nb],by simp⟩;have A:(VP c e).map PyData.int=X.map λx=>.int ((x.1:Int)+1):=by unfold VP;rw[<-Hu a,List.filter_map,avK,avK,<-u];rfl
 have A:lI (VP c e)=.list (X.map λx=>.int ((x.1:Int)+1)):=congrArg PyData.list A;have D:X.length<=50000:=#[];have Y:c.own.length<=100000:=by have:=I.ownL;omega
 rw[A];simp[gj,jT,hc,aP,ao,j,l,t,hr,mY,tV,h3];simp[F,aP,G,dI,DK,C,Z];simp![qD]at f g |-
 have H:(c.own.any ((λp=>PyData.eqv p.1 (.int e)) ∘ λo=>(PyData.int o,PyData.bool true)))=true:=by rw[<-awl];exact hk
 simp[f,aP,Y];rw[H,hf];simp![aP]at g;simp[g,D]
end
def dD.same{c a:aF}(i:dD c)(b:a.al=c.al)(d:a.ci=c.ci):dD a:=by cases c;cases a;simp at b d;subst b d;exact⟨i.len,i.few,i.al,i.mem,i.own,i.up,i.one⟩
def dD.lt{c:aF}(i:dD c){k:Nat}{l:ListInt}(h:c.ci[k]?=some l):k<c.al.length:=by rw[<-i.len];exact(avf.mp h).1
def dD.add{c:aF}(i:dD c)(m:c.al.length<200){x:Int}(g:0<=x/\x<=9):dD { c with al:=c.al++[x],ci:=c.ci++[[(c.al.length:Int)+1]] }:=by
 have a:∀(k:Nat) (l:ListInt),(c.ci++[[(c.al.length:Int)+1]])[k]?=some l->(c.ci[k]?=some l/\k<c.al.length)\/(k=c.al.length/\l=[(c.al.length:Int)+1]):=λk l h=>by
  by_cases hk:k<c.ci.length
  .rw[avq hk]at h;exact .inl ⟨h,i.lt h⟩
  .rw[avv #[]]at h;have d:k-c.ci.length=0:=by
    have:=(avf.mp h).1;simp at this;omega
   rw[d]at h;simp at h;exact .inr ⟨by have:=i.len;omega,h.symm⟩
 refine⟨by simp[i.len],by simp;omega,λy b=>?_,λk l h y b=>?_,λk l h=>?_,λk l h=>?_,λk j l h f=>?_⟩
 .rcases avz.mp b with b|b
  .exact i.al y b
  .rw[avp.mp b];exact g
 .show 1<=y/\y<=((c.al++[x]).length:Int);rw[avP,List.length_singleton];rcases a k l h with⟨h,_⟩|⟨_,rfl⟩
  .have:=i.mem k l h y b;omega
  .rw[avp.mp b];omega
 .rcases a k l h with⟨h,_⟩|⟨rfl,rfl⟩
  .exact i.own k l h
  .simp
 .rcases a k l h with⟨h,_⟩|⟨rfl,rfl⟩
  .exact i.up k l h
  .simp
 .show(c.ci++[[(c.al.length:Int)+1]])[j]?=some l
  rcases a k l h with⟨h,_⟩|⟨rfl,rfl⟩
  .have e:=i.one k j l h f;rw[avq (avf.mp e).1];exact e
  .have:j=c.al.length:=by
    rw[avp]at f;omega
   rw[this,<-i.len];simp
theorem aa7(l:ListInt):∀(s:ListInt) (a:List ListInt) (k:Nat),(∀y∈s,1<=y)->(s.foldl (λs y=>s.set (y-1).toNat l) a)[k]?=if ((k:Int)+1∈s)/\k<a.length then some l else a[k]?
 |[],a,k,_=>by simp
 |y::s,a,k,h=>by
  rw[awh,aa7 l s _ k λz f=>h z (avk _ f),avC];have g:=h y avl;by_cases b:(k:Int)+1∈s/\k<a.length
  .rw[awy b,awy ⟨avk _ b.1,b.2⟩]
  .rw[awz b,av5];by_cases d:(y-1).toNat=k
   .rw[awy d];have e:(k:Int)+1=y:=#[];by_cases c:k<a.length
    .rw[awy #[],awy ⟨by rw[e];exact avl,c⟩]
    .rw[awz #[],awz (λz=>c z.2),avJ #[]]
   .rw[awz d,awz];rintro⟨z,c⟩;rcases avw.mp z with z|z
    .omega
    .exact b ⟨z,c⟩
def Uk(a:List ListInt)(l:ListInt)(k:Nat)(h:∀y∈l,1<=y):(encl a l)[k]?=if ((k:Int)+1∈l)/\k<a.length then some l else a[k]?:=aa7 l l a k h
def dD.again{c:aF}(i:dD c){ci:List ListInt}(hl:ci.length=c.ci.length)(P:ListInt->Prop)
  (a:∀(k:Nat) (l:ListInt),ci[k]?=some l->(P l/\(k:Int)+1∈l)\/c.ci[k]?=some l)
  (d:∀l,P l->l.Pairwise (· < ·)/\∀y∈l,Vg c y/\ci[(y-1).toNat]?=some l)
  (m:∀(k j:Nat) (l:ListInt),ci[k]?=some l->c.ci[k]?=some l->c.ci[j]?=some l->(k:Int)+1∈l->¬P l->ci[j]?=some l):dD { c with ci:=ci }:=by
 refine⟨by show ci.length=_;rw[hl,i.len],i.few,i.al,λk l h y f=>?_,λk l h=>?_,λk l h=>?_,λk j l h e=>?_⟩
 .rcases a k l h with⟨p,_⟩|h
  .exact((d l p).2 y f).1
  .exact i.mem k l h y f
 .rcases a k l h with⟨_,p⟩|h
  .exact p
  .exact i.own k l h
 .rcases a k l h with⟨p,_⟩|h
  .exact(d l p).1
  .exact i.up k l h
 .show ci[j]?=some l;have g:P l->ci[j]?=some l:=λp=>by
   have:=((d l p).2 _ e).2
   rwa [show((j:Int)+1-1).toNat=j by omega]at this
  rcases a k l h with⟨p,_⟩|b
  .exact g p
  .by_cases p:P l
   .exact g p
   .exact m k j l h b (i.one k j l b e) (i.own k l b) p
def dD.at{c:aF}(i:dD c){x:Int}(h:Vg c x):c.ci[(x-1).toNat]?=some (bf c x):=by
 let⟨k,hk,rfl⟩:=Fx h
 have a:k<c.ci.length:=by rw[i.len];exact hk
 simp[bf,a]
def dD.self{c:aF}(i:dD c){x:Int}(h:Vg c x):x∈bf c x:=by
 have:=i.own _ _ (i.at h)
 rwa [show(((x-1).toNat:Nat):Int)+1=x by omega]at this
def dD.eq{c:aF}(i:dD c){x y:Int}(h:Vg c x)(a:y∈bf c x):bf c y=bf c x:=by have v:=i.mem _ _ (i.at h) y a;have:=i.one _ (y-1).toNat _ (i.at h) (by rw[show(((y-1).toNat:Nat):Int)+1=y by omega];exact a);rw[i.at v]at this;exact avA this
def ahL{l:ListInt}{i:Int}:i∈sortI l↔i∈l:=by unfold sortI;rw[List.mem_mergeSort]
def ahV{l:ListInt}(h:l.Nodup):(sortI l).Pairwise (· < ·):=by unfold sortI;have d:=av9 (le:=λa b:Int=>decide (a<=b)) (λa b c i j=>by rw[awu]at *;omega) (λa b=>by rw[awb,awu,awu];omega) l;have g:(l.mergeSort λa b=>decide (a<=b)).Nodup:=(awf _ _).nodup_iff.mpr h;refine List.Pairwise.imp₂ (λa b e f=>?_) d g;rw[awu]at e;have:a≠b:=f;omega
def dD.BK{c:aF}(i:dD c){x y:Int}(g:Vg c x)(f:Vg c y)(B:y∉bf c x):dD { c with ci:=encl c.ci (sortI (bf c x++bf c y)) }:=by
 generalize r:sortI (bf c x++bf c y)=S;have mem:∀z,z∈S↔z∈bf c x\/z∈bf c y:=λz=>by rw[<-r,ahL,avz]
 have m:∀z∈S,Vg c z:=λz d=>by
  rcases(mem z).mp d with h|h
  .exact i.mem _ _ (i.at g) z h
  .exact i.mem _ _ (i.at f) z h
 have up:S.Pairwise (· < ·):=by rw[<-r];refine ahV ?_;rw[av4];have nd:∀{l:ListInt},l.Pairwise (· < ·)->l.Nodup:=λh=>h.imp λ{a b} z e=>#[];refine⟨nd (i.up _ _ (i.at g)),nd (i.up _ _ (i.at f)),λa A b hb e=>?_⟩;subst e;have t:=i.eq g A;have o:=i.eq f hb;rw[t]at o;exact B (o ▸ i.self f)
 have get:=λk=>Uk c.ci S k λz d=>(m z d).1;refine i.again (P:=λl=>l=S) (by unfold encl;rw[Bg]) (λk l h=>?_) (λl hl=>?_) (λk j l h u s hk C=>?_)
 .rw[get]at h;left
  .next z=>
   cases h;exact .inl ⟨rfl,z.1⟩
  .exact .inr h
 .subst hl;refine⟨up,λz d=>⟨m z d,?_⟩⟩;have v:=m z d;have e:(((z-1).toNat:Nat):Int)+1=z:=#[];rw[get,e,awy ⟨d,by rw[i.len];omega⟩]
 .rw[get];by_cases z:(j:Int)+1∈S/\j<c.ci.length
  .exfalso;have v:=m _ z.1;have p:bf c ((j:Int)+1)=l:=by
    have:=i.at v;rw[show((j:Int)+1-1).toNat=j by omega,s]at this;exact(avA this).symm
   have n:(k:Int)+1∈S:=by
    rw[mem];rcases(mem _).mp z.1 with q|q
    .exact .inl (by rw[<-i.eq g q,p];exact hk)
    .exact .inr (by rw[<-i.eq f q,p];exact hk)
   rw[get,awy ⟨n,(avf.mp u).1⟩]at h;exact C (avA h).symm
  .rw[awz z];exact s
def dD.part{c:aF}(i:dD c){x:Int}(d:Vg c x):dD { c with ci:=encl (encl c.ci [x]) (uz c x) }:=by
 have mem:∀z,z∈uz c x↔z∈bf c x/\z≠x:=λz=>by
  unfold uz;rw[avF];simp
 have g:∀z∈uz c x,Vg c z:=λz a=>i.mem _ _ (i.at d) z ((mem z).mp a).1;have l1:(encl c.ci [x]).length=c.ci.length:=by unfold encl;rw[Bg]
 have get:∀k:Nat,(encl (encl c.ci [x]) (uz c x))[k]?=if ((k:Int)+1∈uz c x)/\k<c.ci.length then some (uz c x) else if ((k:Int)+1=x)/\k<c.ci.length then some [x] else c.ci[k]?:=λk=>by
  rw[Uk _ _ _ λz a=>(g z a).1,l1,Uk _ _ _ λz a=>by rw[avp.mp a];exact d.1];simp![avp]
 refine i.again (P:=λl=>l=uz c x/\l≠[]\/l=[x]) (by unfold encl;rw[Bg,Bg]) (λk l h=>?_) (λl hl=>?_) (λk j l h n o hk p=>?_)
 .rw[get]at h;left
  .next z=>
   cases h;exact .inl ⟨.inl ⟨rfl,List.ne_nil_of_mem z.1⟩,z.1⟩
  .left
   .next z=>
    cases h;exact .inl ⟨.inr rfl,by rw[z.1];simp⟩
   .exact .inr h
 .rcases hl with⟨rfl,_⟩|rfl
  .refine⟨(i.up _ _ (i.at d)).filter _,λz a=>⟨g z a,?_⟩⟩;have v:=g z a;have e:(((z-1).toNat:Nat):Int)+1=z:=#[];rw[get,e,awy ⟨a,by rw[i.len];omega⟩]
  .refine⟨by simp,λz a=>?_⟩;rw[avp.mp a];refine⟨d,?_⟩;have e:(((x-1).toNat:Nat):Int)+1=x:=#[];rw[get,e,awz (λz=>((mem x).mp z.1).2 rfl),awy ⟨rfl,by rw[i.len];omega⟩]
 .have f:∀m:Nat,c.ci[m]?=some l->(m:Int)+1∈bf c x->l=bf c x:=λm s q=>by
   have v:=i.mem _ _ (i.at d) _ q;have:=i.at v;rw[show((m:Int)+1-1).toNat=m by omega,s,i.eq d q]at this;exact avA this
  have out:(k:Int)+1∉bf c x:=λq=>by
   rw[get]at h;by_cases e:(k:Int)+1=x
   .rw[awz (λz=>((mem _).mp z.1).2 e),awy ⟨e,(avf.mp n).1⟩]at h;exact p (.inr (avA h).symm)
   .rw[awy ⟨(mem _).mpr ⟨q,e⟩,(avf.mp n).1⟩]at h;have r:=(avA h).symm;exact p (.inl ⟨r,λz=>by rw[z]at hk;cases hk⟩)
  have b:(j:Int)+1∉bf c x:=λq=>out (f j o q ▸ hk);have t:¬((j:Int)+1∈uz c x/\j<c.ci.length):=λz=>b ((mem _).mp z.1).1;have u:¬((j:Int)+1=x/\j<c.ci.length):=λz=>b (by rw[z.1];exact i.self d);rw[get,awz t,awz u];exact o
def Good(a:List Row3)(s:Sd):Prop:=cQ s.ear=true/\(∀e,s.due=some e->cQ e=true)/\(s.al=true->∃m,(s.o,s.g,m)∈a)
structure Ux(m:Nat)(c:aF):Prop where
 g:∀b∈c.bs,Good c.held b.sd
 en:∀b∈c.bs,b.en.length<=m
def Inv.bok{n s:Nat}{c:aF}(I:Inv n s c):Ux (2*n) c:=⟨λb hb=>⟨I.ear b hb,I.due b hb,I.rt b hb⟩,I.en⟩
def abL{c:aF}{i:Nat}{e:En}{b:fJ}(h:b∈(iw c i e).bs):b∈c.bs\/∃a,c.bs[i]?=some a/\b=sW a e:=by
 let⟨j,d⟩:=List.mem_iff_getElem?.mp h
 rw[Ay]at d;split at d
 .next z=>
  subst z;let⟨a,f,g⟩:=avU.mp d
  exact .inr ⟨a,f,g.symm⟩
 .exact .inl (avo d)
def Ux.one{m:Nat}{c:aF}(B:Ux m c){i:Nat}{e:En}(h:∀b,c.bs[i]?=some b->Good c.held (go b.sd e)):Ux (m+1) (iw c i e):=by
 refine⟨λb hb=>?_,λb hb=>?_⟩
 .rcases abL hb with a|⟨d,a,rfl⟩
  .exact B.g b a
  .exact h d a
 .rcases abL hb with a|⟨d,a,rfl⟩
  .have:=B.en b a;omega
  .have:=B.en d (avo a);simp[sW];omega
def Ux.many{m:Nat}{c:aF}(B:Ux m c){p:fJ->Bool}{e:En}(h:∀b∈c.bs,p b=true->Good c.held (go b.sd e)):Ux (m+1) (qD p e c):=by
 refine⟨λb hb=>?_,λb hb=>?_⟩
 .let⟨a,d,rfl⟩:=avr.mp hb
  cases f:p a with
  |true=>
   rw[awy rfl];exact h a d f
  |false=>
   rw[awz (by simp)];exact B.g a d
 .let⟨a,d,rfl⟩:=avr.mp hb
  have:=B.en a d;cases f:p a<;>simp[sW]<;>omega
def Good.mono{held a:List Row3}{s:Sd}(g:Good held s)(h:∀r∈held,r∈a):Good a s:=⟨g.1,g.2.1,λz=>by
 let⟨m,b⟩:=g.2.2 z
 exact⟨m,h _ b⟩⟩
def Inv.of{n s d i:Nat}{c a:aF}(I:Inv n s c)(j:n<=d)(gr:dD a)(f:a.al.length<=d)(h:a.count=c.count)(e:a.own=c.own)(hd:a.held.Nodup)(hL:a.held.length+a.bs.length<=i)(hE:∀r∈a.held,r.1∈a.own/\Vg a r.2.1/\cQ r.2.2=true)(B:Ux (2*d) a):Inv d i a:=
 ⟨gr,f,by have:=I.cnt;rw[h];omega,by rw[h,e];exact I.own,by rw[e];exact I.Tw,by have:=I.ownL;rw[e];omega,hd,hL,hE,λb hb=>(B.g b hb).1,λb hb=>(B.g b hb).2.1,B.en,λb hb=>(B.g b hb).2.2⟩
def ae3{x:ListInt}{p:Nat}(h:cQ x=true)(c:¬9<=x.getD p 0):cQ (yV x p)=true:=by
 unfold cQ at *;simp![avh,awu,avx]at *;refine⟨by rw[afv];exact h.1,λd a=>?_⟩;unfold yV at a;let⟨i,b,rfl⟩:=List.mem_mapIdx.mp a
 have:=h.2 _ (av2 b);split
 .next e=>
  subst e;have:x.getD i 0=x[i]:=by simp[b]
  omega
 .exact this
theorem Ub{r:Row3}:∀(l a:List Row3),r∈l.foldl Iu a↔r∈a\/r∈l
 |[],a=>by simp
 |x::l,a=>by
  rw[awh,Ub l];unfold Iu;split
  .next h=>
   constructor
   .rintro(z|z)
    .exact .inl z
    .exact .inr (avk _ z)
   .rintro(z|z)
    .exact .inl z
    .rcases avw.mp z with rfl|z
     .exact .inl h
     .exact .inr z
  .simp[or_assoc]
theorem Uw:∀(l c:List Row3),c.Nodup->(l.foldl Iu c).Nodup
 |[],c,h=>h
 |x::l,c,h=>by
  rw[awh];refine Uw l _ ?_;unfold Iu;split
  .exact h
  .next z=>
   rw[av4];exact⟨h,by simp,λa d b f e=>z (by rw[avp.mp f]at e;exact e ▸ d)⟩
theorem abu:∀(l a:List Row3),(l.foldl Iu a).length<=a.length+l.length
 |[],a=>by simp
 |x::l,a=>by
  rw[awh];refine avH (abu l _) ?_;unfold Iu
  split<;>simp<;>omega
def cost:aq->Nat
 |.enrol ..=>1
 |.bring ..=>1
 |.bear ..=>1
 |.heir ..=>1
 |_=>0
def Ra{o a:Int}{e:ListInt}{R:List Rw}{x:Res}{d:Dat}{b:aF}(h:Ag o e R a x=.ok d b):x=.ok d b:=by
 unfold Ag at h;left
 .exact h
 .cases h
def Bu{c:aF}{o:Int}{x:Res}{d:Dat}{a:aF}(h:tY c o x=.ok d a):o∈c.own/\x=.ok d a:=by
 unfold tY at h;left
 .next z=>exact⟨z,h⟩
 .cases h
def Dr{c:aF}{g:Int}{x:Res}{d:Dat}{a:aF}(h:yL c g x=.ok d a):Vg c g/\x=.ok d a:=by
 unfold yL at h;left
 .next z=>exact⟨z,h⟩
 .cases h
def aeI{e:ListInt}{x:Res}{d:Dat}{a:aF}(h:Lk e x=.ok d a):cQ e=true/\x=.ok d a:=by
 unfold Lk at h;left
 .next z=>exact⟨z,h⟩
 .cases h
def Cr{c:aF}{o g:Int}{x:Res}{d:Dat}{a:aF}(h:ou c o g x=.ok d a):bR c o g≠[]/\x=.ok d a:=by
 unfold ou at h;left
 .cases h
 .next z=>exact⟨z,h⟩
def Ri{c:aF}{k:Int}{f:fJ->Res}{d:Dat}{a:aF}(h:yg c k f=.ok d a):∃b,bk c k=some b/\b.sd.al=true/\f b=.ok d a:=by
 unfold yg at h;left
 .cases h
 .next b e=>
  left
  .next z=>exact⟨b,e,z,h⟩
  .cases h
def TQ{c:aF}{k:Int}{f:fJ->ListInt->Res}{d:Dat}{g:aF}(h:markB c k f=.ok d g):∃b e,bk c k=some b/\b.sd.al=true/\b.sd.due=some e/\f b e=.ok d g:=by
 let⟨b,i,j,a⟩:=Ri h
 split at a
 .cases a
 .next e l=>exact⟨b,e,i,j,l,a⟩
def zq{p:Prop}[Decidable p]{x:cZ}{y:Res}{d:Dat}{a:aF}(h:(if p then .no x else y)=Res.ok d a):¬p/\y=.ok d a:=by
 left
 .cases h
 .next z=>exact⟨z,h⟩
def WQ{p:Prop}[Decidable p]{x:cZ}{y:Res}{d:Dat}{a:aF}(h:(if p then y else .no x)=Res.ok d a):p/\y=.ok d a:=by
 left
 .next z=>exact⟨z,h⟩
 .cases h
def uJ{c:aF}{k:Int}{b:fJ}(h:bk c k=some b):c.bs[(k-1).toNat]?=some b/\1<=k/\k<=c.bs.length:=by
 unfold bk at h;left
 .next z=>exact⟨h,z⟩
 .cases h
def U0(c:aF)(k o g:Int):(Fe c k o g).bs.length=c.bs.length:=by simp[Fe,qD]
def GJ(c:aF)(i:Nat)(e:En):(iw c i e).bs.length=c.bs.length:=by simp[iw]
def ado{n s:Nat}{c c':aF}{d:aq}{r:Dat}(I:Inv n s c)(hn:c.al.length<=199)(h:bT c d=.ok r c'):Inv (n+1) (s+cost d) c':=by
 have L0:=I.hL;have A0:=I.al;have C0:=I.cnt;have O0:=I.ownL;have C:Ux (2*(n+1)) c:=⟨I.bok.g,λb f=>by have:=I.en b f;omega⟩;cases d with
 |owner=>
  cases h;refine⟨I.gr.same rfl rfl,by show c.al.length<=_;omega,⟨by show 0<=c.count+1;omega,by show c.count+1<=((n+1:Nat):Int);omega⟩,λo E=>?_,?_,by simp;omega,I.held,by simp[cost];omega,λr t=>?_,I.ear,I.due,C.en,I.rt⟩
  .show 1<=o/\o<=c.count+1;rcases avz.mp E with E|E
   .have:=I.own o E;omega
   .rw[avp.mp E];omega
  .rw[av4];refine⟨I.Tw,by simp,λa J b f e=>?_⟩;rw[avp.mp f]at e;have:=I.own a J;omega
  .let⟨l,u,D⟩:=I.hE r t
   exact⟨avQ _ l,u,D⟩
 |ground x=>
  let⟨hx,h⟩:=WQ h
  cases h;refine I.of #[] (I.gr.add #[] hx) (by simp;omega) rfl rfl I.held (by simp[cost];omega) (λr t=>?_) ⟨C.g,C.en⟩;let⟨l,u,D⟩:=I.hE r t
  refine⟨l,?_,D⟩;show 1<=_/\_<=((c.al++[x]).length:Int);rw[avP];have:=u.2;exact⟨u.1,#[]⟩
 |enrol o g m=>
  let⟨l,h⟩:=Bu h
  let⟨u,h⟩:=Dr h
  let⟨D,h⟩:=aeI h
  let⟨H,h⟩:=zq h
  let⟨Y,h⟩:=zq h
  have h:=Ra h;cases h;refine I.of #[] (I.gr.same rfl rfl) (by show c.al.length<=_;omega) rfl rfl ?_ (by simp[cost];omega) (λr t=>?_) ⟨λb f=>(C.g b f).mono λr t=>avQ _ t,C.en⟩
  .rw[av4];refine⟨I.held,by simp,λa J b f e=>?_⟩;rw[avp.mp f]at e;exact Y (Ie.mpr (e ▸ J))
  .rcases avz.mp t with t|t
   .exact I.hE r t
   .rw[avp.mp t];exact⟨l,u,D⟩
 |leave o g=>
  let⟨l,h⟩:=Bu h
  let⟨u,h⟩:=Dr h
  let⟨D,h⟩:=Cr h
  let⟨H,h⟩:=zq h
  cases h;have sub:∀r∈dropped c o g,r∈c.held:=λr t=>(avF.mp t).1;have ln:(dropped c o g).length<=c.held.length:=avD _ _;refine I.of #[] (I.gr.same rfl rfl) (by show c.al.length<=_;omega) rfl rfl (I.held.filter _) (by simp[cost];omega) (λr t=>I.hE r (sub r t)) ⟨λb f=>⟨(C.g b f).1,(C.g b f).2.1,λv=>?_⟩,C.en⟩;let⟨m,A⟩:=(C.g b f).2.2 v
  refine⟨m,avF.mpr ⟨A,?_⟩⟩;simp![avB,Bool.and_eq_false_iff,beq_eq_false_iff_ne];by_cases e:b.sd.o=o/\b.sd.g=g
  .exfalso;refine H (List.any_eq_true.mpr ⟨b,f,?_⟩);simp[aao,v,e.1,e.2]
  .by_cases e1:b.sd.o=o
   .exact .inr λz=>e ⟨e1,z⟩
   .exact .inl e1
 |bring o g e=>
  let⟨l,h⟩:=Bu h
  let⟨u,h⟩:=Dr h
  let⟨D,h⟩:=aeI h
  let⟨H,h⟩:=Cr h
  cases h;refine I.of #[] (I.gr.same rfl rfl) (by show c.al.length<=_;omega) rfl rfl I.held (by simp[cost];omega) I.hE ⟨λb f=>?_,λb f=>?_⟩
  .rcases avz.mp f with f|f
   .exact C.g b f
   .rw[avp.mp f];exact⟨D,λe z=>(by cases z),λ_=>Ax.mp H⟩
  .rcases avz.mp f with f|f
   .exact C.en b f
   .rw[avp.mp f];simp[Dz]
 |bear k=>
  let⟨j,e0,l,u,D,h⟩:=TQ h
  cases h;refine I.of #[] (I.gr.same rfl rfl) (by show c.al.length<=_;omega) rfl rfl I.held (by simp[cost];omega) I.hE ⟨λb f=>?_,λb f=>?_⟩
  .rcases avz.mp f with f|f
   .exact C.g b f
   .rw[avp.mp f];exact⟨(by decide:cQ [0,0,0,0,0,0]=true),λe z=>(by cases z),λ_=>(C.g j (avo (uJ l).1)).2.2 u⟩
  .rcases avz.mp f with f|f
   .exact C.en b f
   .rw[avp.mp f];simp[Dz]
 |cut k=>
  let⟨j,l,u,h⟩:=Ri h
  have h:=Ra h;cases h;have A:=avo (uJ l).1;let⟨r,q4,W⟩:=I.mk1 (I.alive A u).1
  have N:=Hl (I.ear j A) W;generalize jD j.sd.ear (firstM c j.sd.o j.sd.g)=e at N |-
  have B:=I.bok.one (i:=(k-1).toNat) (e:=.cut e) λb f=>by
   rw[(uJ l).1]at f;cases f;exact⟨N,λe z=>(by cases z;exact N),λ_=>I.rt j A u⟩
  exact I.of #[] (I.gr.same rfl rfl) (by show c.al.length<=_;omega) rfl rfl I.held (by rw[GJ];simp[cost,iw];omega) I.hE ⟨B.g,λb f=>by have:=B.en b f;omega⟩
 |tear k p=>
  let⟨j,l,u,h⟩:=Ri h
  let⟨D,h⟩:=WQ h
  let⟨H,h⟩:=zq h
  cases h;have A:=avo (uJ l).1;have B:=I.bok.one (i:=(k-1).toNat) (e:=.torn p.toNat) λb f=>by
   rw[(uJ l).1]at f;cases f;exact⟨ae3 (I.ear j A) H,I.due j A,I.rt j A⟩
  exact I.of #[] (I.gr.same rfl rfl) (by show c.al.length<=_;omega) rfl rfl I.held (by rw[GJ];simp[cost,iw];omega) I.hE ⟨B.g,λb f=>by have:=B.en b f;omega⟩
 |die k=>
  let⟨j,l,u,h⟩:=Ri h
  cases h;have A:=avo (uJ l).1;have B:=I.bok.one (i:=(k-1).toNat) (e:=.died) λb f=>by
   rw[(uJ l).1]at f;cases f;exact⟨I.ear j A,I.due j A,λz=>by cases z⟩
  exact I.of #[] (I.gr.same rfl rfl) (by show c.al.length<=_;omega) rfl rfl I.held (by rw[GJ];simp[cost,iw];omega) I.hE ⟨B.g,λb f=>by have:=B.en b f;omega⟩
 |sell k o=>
  let⟨j,e0,l,u,D,h⟩:=TQ h
  let⟨H,h⟩:=Bu h
  let⟨Y,h⟩:=zq h
  let⟨O,h⟩:=Cr h
  have h:=Ra h;cases h;have A:=avo (uJ l).1;let⟨r,q4,W⟩:=I.mk1 O
  have N:=Hl (I.ear j A) W;generalize jD j.sd.ear (firstM c o j.sd.g)=e at N |-
  have B:=I.bok.one (i:=(k-1).toNat) (e:=.sold o e) λb f=>by
   rw[(uJ l).1]at f;cases f;exact⟨N,λe z=>(by cases z;exact N),λ_=>Ax.mp O⟩
  have R:=B.many (p:=λx=>Cg k x&&x.sd.al) (e:=.followed o j.sd.g) λb f _=>⟨(B.g b f).1,(B.g b f).2.1,λ_=>Ax.mp O⟩;exact I.of #[] (I.gr.same rfl rfl) (by show c.al.length<=_;omega) rfl rfl I.held (by rw[U0,GJ];simp[cost,iw,Fe,qD];omega) I.hE ⟨R.g,λb f=>by have:=R.en b f;omega⟩
 |move k g=>
  let⟨j,e0,l,u,D,h⟩:=TQ h
  let⟨H,h⟩:=Dr h
  let⟨Y,h⟩:=zq h
  let⟨O,h⟩:=Cr h
  have h:=Ra h;cases h;have A:=avo (uJ l).1;have B:=I.bok.one (i:=(k-1).toNat) (e:=.moved g) λb f=>by
   rw[(uJ l).1]at f;cases f;exact⟨I.ear j A,I.due j A,λ_=>Ax.mp O⟩
  have R:=B.many (p:=λx=>Cg k x&&x.sd.al) (e:=.followed j.sd.o g) λb f _=>⟨(B.g b f).1,(B.g b f).2.1,λ_=>Ax.mp O⟩;exact I.of #[] (I.gr.same rfl rfl) (by show c.al.length<=_;omega) rfl rfl I.held (by rw[U0,GJ];simp[cost,iw,Fe,qD];omega) I.hE ⟨R.g,λb f=>by have:=R.en b f;omega⟩
 |BK x y=>
  let⟨l,h⟩:=Dr h
  let⟨u,h⟩:=Dr h
  let⟨D,h⟩:=zq h
  left
  .cases h
  .cases h;exact I.of #[] (I.gr.BK u l D) (by show c.al.length<=_;omega) rfl rfl I.held (by show c.held.length+c.bs.length<=_;omega) I.hE ⟨C.g,C.en⟩
 |part x=>
  let⟨l,h⟩:=Dr h
  let⟨D,h⟩:=zq h
  cases h;exact I.of #[] (I.gr.part l) (by show c.al.length<=_;omega) rfl rfl I.held (by show c.held.length+c.bs.length<=_;omega) I.hE ⟨C.g,C.en⟩
 |pass e F=>
  let⟨l,h⟩:=Bu h
  let⟨u,h⟩:=Bu h
  let⟨D,h⟩:=zq h
  cases h;have S:∀r∈c.held,Ez e F r∈handed c e F:=λr t=>(Ub _ _).mpr (.inr (avr.mpr ⟨r,t,rfl⟩));have U:∀r∈handed c e F,∃Q∈c.held,Ez e F Q=r:=λr t=>by
   rcases(Ub _ _).mp t with z|z
   .cases z
   .let⟨Q,X,z2⟩:=avr.mp z
    exact⟨Q,X,z2⟩
  have hl:(handed c e F).length<=c.held.length:=by have:=abu (c.held.map (Ez e F)) [];simpa [handed] using this
  have ow:∀o,o∈c.own.filter (λo=>!(o==e))↔o∈c.own/\o≠e:=λo=>by
   rw[avF];simp
  have g:∀b∈(qD (λb=>(b.sd.o==e)&&b.sd.al) (.passed F) c).bs,Good (handed c e F) b.sd:=λb f=>by
   let⟨j,L,rfl⟩:=avr.mp f
   have G:=C.g j L;cases M:((j.sd.o==e)&&j.sd.al) with
   |true=>
    simp![M,if_true];refine⟨G.1,G.2.1,λv=>?_⟩;let⟨m,A⟩:=G.2.2 v
    have:=S _ A;simp at M;rw[M.1]at this;exact⟨m,by simpa [Ez,sW,go] using this⟩
   |false=>
    simp![M];refine⟨G.1,G.2.1,λv=>?_⟩;let⟨m,A⟩:=G.2.2 v
    have:=S _ A;have v:j.sd.al=true:=v;rw[v]at M;simp at M;exact⟨m,by simpa [Ez,M] using this⟩
  have en:∀b∈(qD (λb=>(b.sd.o==e)&&b.sd.al) (.passed F) c).bs,b.en.length<=2*(n+1):=λb f=>by
   let⟨j,L,rfl⟩:=avr.mp f
   have:=I.en j L
   dsimp only
   split
   .simp[sW];omega
   .omega
  refine⟨I.gr.same rfl rfl,by show c.al.length<=_;omega,⟨C0.1,by show c.count<=_;omega⟩,λo E=>I.own o ((ow o).mp E).1,I.Tw.filter _,?_,Uw _ _ (by simp),?_,λr t=>?_,λb f=>(g b f).1,λb f=>(g b f).2.1,en,λb f=>(g b f).2.2⟩
  .show(c.own.filter _).length<=_
   have:=avD (λo=>!(o==e)) c.own;omega
  .show(handed c e F).length+(qD _ _ c).bs.length<=_
   simp[qD];omega
  .let⟨Q,X,rfl⟩:=U r t
   let⟨q1,q2,q3⟩:=I.hE Q X
   refine⟨(ow _).mpr ?_,q2,q3⟩;unfold Ez;by_cases z:Q.1=e
   .simp![z,if_true];exact⟨u,λq=>D q.symm⟩
   .simp![z,if_false];exact⟨q1,z⟩
 |heir e g x=>
  let⟨l,h⟩:=Bu h
  let⟨u,h⟩:=Dr h
  let⟨D,h⟩:=WQ h
  let⟨H,h⟩:=Cr h
  left
  .next mk hmk=>
   cases h;let⟨r,q4,W⟩:=I.mk1 H
   have Z:cQ mk=true:=Zb W ⟨#[],D.2⟩ (avF.mp (List.mem_of_find?_eq_some hmk)).1;refine⟨I.gr.same rfl rfl,by show c.al.length<=_;omega,⟨by show 0<=c.count+1;omega,by show c.count+1<=((n+1:Nat):Int);omega⟩,λo E=>?_,?_,by simp;omega,?_,by simp[cost];omega,λr t=>?_,I.ear,I.due,C.en,λb f v=>?_⟩
   .show 1<=o/\o<=c.count+1;rcases avz.mp E with E|E
    .have:=I.own o E;omega
    .rw[avp.mp E];omega
   .rw[av4];refine⟨I.Tw,by simp,λa J b f e=>?_⟩;rw[avp.mp f]at e;have:=I.own a J;omega
   .rw[av4];refine⟨I.held,by simp,λa J b f e=>?_⟩;rw[avp.mp f]at e;have:=I.own _ (I.hE a J).1;rw[e]at this;simp at this;omega
   .rcases avz.mp t with t|t
    .let⟨X,z2,z3⟩:=I.hE r t
     exact⟨avQ _ X,z2,z3⟩
    .rw[avp.mp t];exact⟨avZ _ (by simp),u,Z⟩
   .let⟨m,A⟩:=I.rt b f v
    exact⟨m,avQ _ A⟩
  .cases h
def aio{n s:Nat}{c a:aF}{d:aq}{r:Dat}(I:Inv n s c)(b:n<=199)(h:bT c d=.ok r a):Inv (n+1) (s+cost d) a:=ado I (avH I.al b) h
def nB(x:Int):Bool:=decide (0<=x)&&decide (x<=999999999)
def ZD(x:Int):Bool:=decide (0<=x)&&decide (x<=5)
def oA(M:Mo)(x:Int):jg M [.str "number",.int x]=.ok (.bool (nB x)):=by by_cases h:0<=x<;>simp[jg,wC,pQ,dO,Az,Dy,h,nB]
def jw(M:Mo)(x:Int):jg M [.str "place",.int x]=.ok (.bool (ZD x)):=by by_cases h:0<=x<;>simp[jg,wC,pQ,dO,Az,Dy,h,ZD]
def agW(M:Mo)(x:ListInt)(h:x.length<=1000):jg M [.str "ear",aH x]=.ok (.bool (cQ x)):=by have:=ZW M x h;simp[jg,wC,Az,Dy,this]
def eV:aq->Bool
 |.owner=>true
 |.ground x=>nB x
 |.enrol o g m=>nB o&&nB g&&cQ m
 |.leave o g=>nB o&&nB g
 |.bring o g m=>nB o&&nB g&&cQ m
 |.bear k=>nB k
 |.cut k=>nB k
 |.tear k p=>nB k&&ZD p
 |.sell k o=>nB k&&nB o
 |.move k g=>nB k&&nB g
 |.die k=>nB k
 |.BK x y=>nB x&&nB y
 |.part x=>nB x
 |.pass e h=>nB e&&nB h
 |.heir e g x=>nB e&&nB g&&nB x
def ji:aq->Prop
 |.enrol _ _ m=>m.length<=1000
 |.bring _ _ m=>m.length<=1000
 |_=>True
def jr(M:Mo)(w:Str)(T:List (Str×Dat×Bool))(hk:(vN rH).lookup w=some (.tuple (T.map λt=>.str t.1)))(m:T.length<=10)(g:∀t∈T,jg M [.str t.1,t.2.1]=.ok (.bool t.2.2)):zM M [.tuple (.str w::T.map λt=>t.2.1)]=.ok (.bool (T.all λt=>t.2.2)):=by
 have i:Rf.cutD (PyData.str w::T.map λt=>t.2.1) (some 1) none=T.map λt=>t.2.1:=TY _ 1;have l:tZ (T.map λt=>PyData.str t.1) (T.map λt=>t.2.1)=T.map λt=>.tuple [.str t.1,t.2.1]:=by unfold tZ;rw[List.zipWith_map_left,List.zipWith_map_right,List.zipWith_self]
 have c:=eZ (tg:=aX [3,4]) (te:=aQ jg #[(3:),(4:)]) (M:=M) (ρ:=[#[.tuple (.str w::T.map λt=>t.2.1)],#[.tuple (T.map λt=>.str t.1)],#[.tuple (T.map λt=>t.2.1)],none,none]) (λ(t:Str×Dat×Bool)=>PyData.tuple [.str t.1,t.2.1]) (λt=>.bool t.2.2) T λt j=>⟨[#[.tuple (.str w::T.map λt=>t.2.1)],#[.tuple (T.map λt=>.str t.1)],#[.tuple (T.map λt=>t.2.1)],#[.str t.1],#[t.2.1]],by simp,by simp[g t j]⟩;have f:Mh (.list (T.map λt=>PyData.bool t.2.2))=.ok (.bool (T.all λt=>t.2.2)):=by
  have e:(T.map λt=>PyData.bool t.2.2)=(T.map λt=>t.2.2).map PyData.bool:=by rw[avK];rfl
  rw[e]
  show(match sJ _ with
   |some d=>Out.ok (PyData.bool (d.all id))
   |none=>.bad)=_
  rw[CV];simp[List.all_map,avG]
 have a:T.length<=50000:=#[];have b:¬(T.length:Int)+1=0:=#[];simp[zM,abZ,hk,i,l,c,a,f,b]
def aen(M:Mo)(d:aq)(a:ji d):zM M [d.dat]=.ok (.bool (eV d)):=by
 cases d with
 |owner=>simpa [eV,aq.dat,Bool.and_assoc] using jr M "owner" [] (by rfl) (by simp) (by simp[oA,jw])
 |ground x=>simpa [eV,aq.dat,Bool.and_assoc] using jr M "ground" [("number",.int x,nB x)] (by rfl) (by simp) (by simp[oA,jw])
 |enrol o g m=>simpa [eV,aq.dat,Bool.and_assoc] using jr M "enrol" [("number",.int o,nB o),("number",.int g,nB g),("ear",aH m,cQ m)] (by rfl) (by simp) (by simp[oA,jw,agW M m a])
 |leave o g=>simpa [eV,aq.dat,Bool.and_assoc] using jr M "leave" [("number",.int o,nB o),("number",.int g,nB g)] (by rfl) (by simp) (by simp[oA,jw])
 |bring o g m=>simpa [eV,aq.dat,Bool.and_assoc] using jr M "bring" [("number",.int o,nB o),("number",.int g,nB g),("ear",aH m,cQ m)] (by rfl) (by simp) (by simp[oA,jw,agW M m a])
 |bear k=>simpa [eV,aq.dat,Bool.and_assoc] using jr M "bear" [("number",.int k,nB k)] (by rfl) (by simp) (by simp[oA,jw])
 |cut k=>simpa [eV,aq.dat,Bool.and_assoc] using jr M "cut" [("number",.int k,nB k)] (by rfl) (by simp) (by simp[oA,jw])
 |tear k p=>simpa [eV,aq.dat,Bool.and_assoc] using jr M "tear" [("number",.int k,nB k),("place",.int p,ZD p)] (by rfl) (by simp) (by simp[oA,jw])
 |sell k o=>simpa [eV,aq.dat,Bool.and_assoc] using jr M "sell" [("number",.int k,nB k),("number",.int o,nB o)] (by rfl) (by simp) (by simp[oA,jw])
 |move k g=>simpa [eV,aq.dat,Bool.and_assoc] using jr M "move" [("number",.int k,nB k),("number",.int g,nB g)] (by rfl) (by simp) (by simp[oA,jw])
 |die k=>simpa [eV,aq.dat,Bool.and_assoc] using jr M "die" [("number",.int k,nB k)] (by rfl) (by simp) (by simp[oA,jw])
 |BK x y=>simpa [eV,aq.dat,Bool.and_assoc] using jr M "unite" [("number",.int x,nB x),("number",.int y,nB y)] (by rfl) (by simp) (by simp[oA,jw])
 |part x=>simpa [eV,aq.dat,Bool.and_assoc] using jr M "part" [("number",.int x,nB x)] (by rfl) (by simp) (by simp[oA,jw])
 |pass e h=>simpa [eV,aq.dat,Bool.and_assoc] using jr M "pass" [("number",.int e,nB e),("number",.int h,nB h)] (by rfl) (by simp) (by simp[oA,jw])
 |heir e g x=>simpa [eV,aq.dat,Bool.and_assoc] using jr M "heir" [("number",.int e,nB e),("number",.int g,nB g),("number",.int x,nB x)] (by rfl) (by simp) (by simp[oA,jw])
def kh{M:Mo}{L:Lay}{o a:aR Dat}{r:Res}(h:Sp M L o r)(e:a=o):Sp M L a r:=e ▸ h
section
variable{M:Mo}{L:Lay}{c:aF}(a:At M L c){n s:Nat}(I:Inv n s c)(hs:s<=76)(hn:n<=199)
include a I hs hn
theorem aqB(d:aq)(f:ji d)(i:eV d=true):Sp M L (bO M [ob L.c,d.dat]) (bT c d):=by
 have hc:=a.hc;have b:=aen M d f;rw[i]at b;cases d with
 |owner=>
  simp![aq.dat]at b |-
  refine kh (alr a I hn) ?_;simp[bO,cU,b,hc,aP,iD];cases iY M _<;>rfl
 |ground x=>
  simp![aq.dat]at b |-
  refine kh (ais a I hn x) ?_;simp[bO,cU,b,hc,aP,qO];cases iG M _<;>rfl
 |enrol o g m=>
  simp![aq.dat]at b |-
  refine kh (akj a I hs o g m f) ?_;simp[bO,cU,b,hc,aP,yu];cases eE M _<;>rfl
 |leave o g=>
  simp![aq.dat]at b |-
  refine kh (alI a I hs o g) ?_;simp[bO,cU,b,hc,aP,yq];cases gG M _<;>rfl
 |bring o g m=>
  simp![aq.dat]at b |-
  refine kh (akB a I hs o g m f) ?_;simp[bO,cU,b,hc,aP,yd];cases gK M _<;>rfl
 |bear k=>
  simp![aq.dat]at b |-
  refine kh (aou a I hs k) ?_;simp[bO,cU,b,hc,aP,zX];cases jG M _<;>rfl
 |cut k=>
  simp![aq.dat]at b |-
  refine kh (aqM a I hs #[] k) ?_;simp[bO,cU,b,hc,aP,Bx];cases jW M _<;>rfl
 |tear k p=>
  simp![aq.dat]at b |-
  refine kh (amj a I hs k p #[]) ?_;simp[bO,cU,b,hc,aP,yS];cases fY M _<;>rfl
 |sell k o=>
  simp![aq.dat]at b |-
  refine kh (ank a I hs #[] k o) ?_;simp[bO,cU,b,hc,aP,zA];cases dU M _<;>rfl
 |move k g=>
  simp![aq.dat]at b |-
  refine kh (amQ a I hs #[] k g) ?_;simp[bO,cU,b,hc,aP,yZ];cases dW M _<;>rfl
 |die k=>
  simp![aq.dat]at b |-
  refine kh (aqo a I hs k #[]) ?_;simp[bO,cU,b,hc,aP,Aq];cases lO M _<;>rfl
 |BK x y=>
  simp![aq.dat]at b |-
  refine kh (akT a I hs #[] x y) ?_;simp[bO,cU,b,hc,aP,xY];cases gH M _<;>rfl
 |part x=>
  simp![aq.dat]at b |-
  refine kh (anZ a I hs #[] x) ?_;simp[bO,cU,b,hc,aP,zW];cases j8 M _<;>rfl
 |pass e h=>
  simp![aq.dat]at b |-
  refine kh (an9 a I hs #[] e h) ?_;simp[bO,cU,b,hc,aP,uV];cases gj M _<;>rfl
 |heir e g x=>
  simp![aq.dat]at b |-
  refine kh (amU a I hs #[] e g x) ?_;simp[bO,cU,b,hc,aP,tX];cases cV M _<;>rfl
end
def Uv{c:aF}{d:aq}{x:cZ}(h:bT c d=.no x):nM.lookup x.cls=some true:=by cases d<;>simp![bT,tY,yL,Lk,ou,Ag,yg,markB,qL]at h<;>(repeat' split at h)<;>cases h<;>simp[nM]
def Qt(f:Int):Int:=if f=9 then -1 else if f=8 then 3 else if f=7 then 2 else if f=6 then 1 else if f=5 then 1 else 0
def QS(d f:Int):Int:=SN 0 (if d+Qt f<9 then d+Qt f else 9)
def U3(x f:ListInt):ListInt:=(x.zip f).map λp=>QS p.1 p.2
def ahv(M:Mo)(b c:Option Cell)(a:List Dat)(d f:Int)(j:Option Cell)(o:0<=f/\f<10)(p:a.length<1000):∃i,Tf M [b,c,some (.mut a),#[.int d],#[.int f],j]=.next [b,c,some (.mut (a++[.int (QS d f)])),#[.int d],#[.int f],i] M:=by
 have e:a.length<100000:=#[];have g:∀k:Nat,k<10->([0,0,0,0,0,1,1,2,3,-1]:ListInt)[k]?=some (Qt k):=#[()];obtain⟨k,rfl⟩:∃k:Nat,f=k:=⟨f.toNat,#[]⟩;have hk:=g k #[];have l:atI (([0,0,0,0,0,1,1,2,3,-1]:ListInt).map PyData.int) (k:Int)=some (.int (Qt k)):=atI_nat (by rw[avy,hk];rfl);refine⟨#[.int (Qt k)],?_⟩;have m:aV (au 5) (gOf (bh #[#[0],#[0],#[0],#[0],#[0],#[1],#[1],#[2],#[3],dG Um #[1]])[(4)]!) M [b,c,some (.mut a),#[.int d],#[.int k],j]=.next [b,c,some (.mut a),#[.int d],#[.int k],#[.int (Qt k)]] M:=by
  show(((match atI (([0,0,0,0,0,1,1,2,3,-1]:ListInt).map PyData.int) (k:Int) with
   |some d=>Out.ok d
   |none=>.bad).at M).then _ λd n=>_)=_
  rw[l];rfl
 show %[_|_] _ _=_;rw[anz,m];simp[e,QS,SN]
theorem ZK(M:Mo)(f g:Option Cell):∀(c:List (Int×Int)) (a:List Dat) (i j d:Option Cell),(∀p∈c,0<=p.2/\p.2<10)->a.length+c.length<=500->∃l m b,fO (aX [3,4]) Tf (c.map pD) M [f,g,some (.mut a),i,j,d]=.next [f,g,some (.mut (a++c.map λp=>.int (QS p.1 p.2))),l,m,b] M
 |[],a,i,j,d,_,_=>⟨i,j,d,by simp[fO]⟩
 |p::c,a,i,j,d,h,n=>by
  rw[avu]at n;let⟨b,e⟩:=ahv M f g a p.1 p.2 d (h p avl) #[]
  let⟨s,t,u,r⟩:=ZK M f g c (a++[.int (QS p.1 p.2)]) #[.int p.1] #[.int p.2] b (λq o=>h q (avk _ o)) (by simp;omega)
  refine⟨s,t,u,?_⟩;rw[avj,eU (Z1:=[f,g,some (.mut a),#[.int p.1],#[.int p.2],d]) (by simp[pD]) e,r];simp
def akA(M:Mo)(x f:ListInt)(c:x.length<=100)(a:∀d∈f,0<=d/\d<10):Ol M [aH x,lI f]=.ok (aH (U3 x f)):=by
 let⟨g,i,j,e⟩:=ZK M #[aH x] #[lI f] (x.zip f) [] none none none (λp b=>a _ (List.of_mem_zip b).2) (by simp;omega)
 simp[Ol,abC,Gj,e,U3]
def Je(f:ListInt)(m:Int)(x:ListInt):ListInt:=if m<4 then U3 x f else BR f m
def afc(M:Mo)(x f:ListInt)(m:Int)(g:x.length<=100)(e:f.length<=1000)(c:∀d∈f,0<=d/\d<10):yO M [lI f,.int m,aH x]=.ok (aH (Je f m x)):=by have a:=akA M x f g c;have b:=Zg M f m e;unfold Je;by_cases h:m<4<;>simp[yO,Pg,h,a,b]
def ahz{x f:ListInt}(e:x.length=6)(b:f.length=6):cQ (U3 x f)=true:=by
 refine adT (by simp[U3];omega) λd a=>?_;let⟨p,c,rfl⟩:=avr.mp a
 unfold QS SN
 split<;>split<;>omega
def afm{f x:ListInt}{m:Int}(c:x.length=6)(a:f.length=6)(b:∀d∈f,0<=d/\d<10):cQ (Je f m x)=true:=by
 unfold Je;split
 .exact ahz c a
 .refine adT ?_ (ajj b);unfold BR;split
  .simpa using a
  .split
   .simpa using a
   .exact a
def lG(f a:Int)(b:Bool):Int:=if b then 1+f%(if a>1 then a else 1) else f%(a+2)
def abO(M:Mo)(f a:Int)(b:Bool)(e:0<=a):jZ M [.int f,.int a,.bool b]=.ok (.int (lG f a b)):=by
 have c:0<a+2:=#[];have d:0<(if 1<a then a else 1):=by split<;>omega
 cases b
 .simp[jZ,aav,lG,c]
 .simp[jZ,aav,lG,d]
def Fo{f a:Int}{sure:Bool}(c:0<=f/\f<=1000)(g:0<=a):nB (lG f a sure)=true:=by
 unfold lG nB;have b:∀m:Int,0<m->0<=f%m/\f%m<=f:=λm h=>⟨Int.emod_nonneg _ #[],by
  have d:=Int.mul_ediv_add_emod f m;have e:=Int.mul_nonneg (by omega:0<=m) (Int.ediv_nonneg c.1 (by omega:0<=m))
  omega⟩
 simp![avh,awu];cases sure
 .have:=b (a+2) #[];simp;omega
 .have:=b (if a>1 then a else 1) (by split<;>omega);simp![if_true];omega
abbrev dd(M:Mo)(w:Str)(one b:Int)(p a:ListInt)(c d e:Int):Out Dat:=gJ M [.str w,.int one,.int b,lI p,.tuple [.int c,.int d,.int e],aH a]
def eX(p:ListInt):Bool:=!(p.getD 6 0==9)
def KC(p a:ListInt):ListInt:=Je (p.drop 8) (p.getD 7 0) a
def grT(f:Int):Int:=if f=9 then 8 else if f=8 then 7 else if f=7 then 6 else if f=6 then 5 else if f=5 then 1 else if f=4 then 0 else f
def Jj(p a:ListInt):ListInt:=if p.getD 7 0<6 then[0,0,0,0,0,0] else KC p a
structure Pts(p base:ListInt):Prop where
 len:p.length=14
 dig:∀d∈p,0<=d/\d<10
 base:base.length=6
def apK{p:ListInt}(h:p.length=14):∃a b c d e f g i j k l m n o:Int,p=[a,b,c,d,e,f,g,i,j,k,l,m,n,o]:=by
 match p,h with
 |[a,b,c,d,e,f,g,i,j,k,l,m,n,o],_=>exact⟨a,b,c,d,e,f,g,i,j,k,l,m,n,o,rfl⟩
def Pts.mark{p base:ListInt}(P:Pts p base):cQ (KC p base)=true:=afm P.base (by rw[awd,P.len]) λd hd=>P.dig d (List.mem_of_mem_drop hd)
def Pts.bring{p base:ListInt}(P:Pts p base):cQ (Jj p base)=true:=by
 unfold Jj;split
 .decide
 .exact P.mark
section
variable(M:Mo){p base:ListInt}(P:Pts p base)(one two n0 n1 n2:Int)(h0:0<=n0)(h1:0<=n1)(h2:0<=n2)
include P h0 h1 h2
theorem ai0 :
  dd M "owner" one two p base n0 n1 n2=.ok (aq.dat (.owner))/\
  dd M "ground" one two p base n0 n1 n2=.ok (aq.dat (.ground (grT (p.getD 7 0)+4*(if eX p then 0 else 1))))/\
  dd M "enrol" one two p base n0 n1 n2=.ok (aq.dat (.enrol (lG one n0 (eX p)) (lG two n1 (eX p)) (KC p base)))/\
  dd M "bring" one two p base n0 n1 n2=.ok (aq.dat (.bring (lG one n0 (eX p)) (lG two n1 (eX p)) (Jj p base)))/\
  dd M "leave" one two p base n0 n1 n2=.ok (aq.dat (.leave (lG one n0 (eX p)) (lG two n1 (eX p))))/\
  dd M "heir" one two p base n0 n1 n2=.ok (aq.dat (.heir (lG one n0 (eX p)) (lG two n1 (eX p)) (p.getD 7 0%4)))/\
  dd M "pass" one two p base n0 n1 n2=.ok (aq.dat (.pass (lG one n0 (eX p)) (lG two n0 (eX p))))/\
  dd M "unite" one two p base n0 n1 n2=.ok (aq.dat (.BK (lG one n1 (eX p)) (lG two n1 (eX p))))/\
  dd M "part" one two p base n0 n1 n2=.ok (aq.dat (.part (lG one n1 (eX p))))/\
  dd M "tear" one two p base n0 n1 n2=.ok (aq.dat (.tear (lG one n2 (eX p)) (p.getD 7 0%6)))/\
  dd M "sell" one two p base n0 n1 n2=.ok (aq.dat (.sell (lG one n2 (eX p)) (lG two n0 (eX p))))/\
  dd M "move" one two p base n0 n1 n2=.ok (aq.dat (.move (lG one n2 (eX p)) (lG two n1 (eX p))))/\
  dd M "bear" one two p base n0 n1 n2=.ok (aq.dat (.bear (lG one n2 (eX p))))/\
  dd M "cut" one two p base n0 n1 n2=.ok (aq.dat (.cut (lG one n2 (eX p))))/\
  dd M "die" one two p base n0 n1 n2=.ok (aq.dat (.die (lG one n2 (eX p)))):=by
 have g:=afc M base (p.drop 8) (p.getD 7 0) (by rw[P.base];decide) (by rw[awd,P.len];decide) λd x=>P.dig d (List.mem_of_mem_drop x);have b:=λf=>abO M f n0 (eX p) h0;have c:=λf=>abO M f n1 (eX p) h1;have e:=λf=>abO M f n2 (eX p) h2;have x:=P.dig;have m:Jj p base=if p.getD 7 0<6 then[0,0,0,0,0,0] else KC p base:=rfl
 have v:KC p base=Je (p.drop 8) (p.getD 7 0) base:=rfl;have a:eX p=!(p.getD 6 0==9):=rfl;let⟨J,L,N,O,Q,R,E,n,y,A,q,r,s,t,rfl⟩:=apK P.len
 generalize u:[J,L,N,O,Q,R,E,n,y,A,q,r,s,t]=p at *;have F:p.getD 6 0=E:=by rw[<-u];rfl
 have B:p.getD 7 0=n:=by rw[<-u];rfl
 have G:p.drop 8=[y,A,q,r,s,t]:=by rw[<-u];rfl
 have H:=x n (by rw[<-u];simp);rw[B,G]at g v;rw[B]at m;rw[F]at a;simp![B];generalize eX p=I at *;generalize KC p base=mk at *;generalize Jj p base=br at *;have i:Rf.cutD (p.map PyData.int) (some 8) (some 14)=[PyData.int y,.int A,.int q,.int r,.int s,.int t]:=by rw[<-u];rfl
 have j:atI (p.map PyData.int) 7=some (.int n):=by rw[<-u];rfl
 have l:atI (p.map PyData.int) 6=some (.int E):=by rw[<-u];rfl
 have g:yO M [.list [PyData.int y,.int A,.int q,.int r,.int s,.int t],.int n,aH base]=.ok (aH mk):=by rw[v];exact g
 have D:∀k:Nat,k<10->([0,1,2,3,0,1,5,6,7,8]:ListInt)[k]?=some (grT k):=#[()];have hk:atI (([0,1,2,3,0,1,5,6,7,8]:ListInt).map PyData.int) n=some (.int (grT n)):=by obtain⟨k,rfl⟩:∃k:Nat,n=k:=⟨n.toNat,#[]⟩;exact atI_nat (by rw[avy,D k #[]];rfl)
 simp at hk;have C:∀z,decide (CMul 4 z)=true:=λz=>afD #[()];clear u x P;refine⟨?_,?_,?_,?_,?_,?_,?_,?_,?_,?_,?_,?_,?_,?_,?_⟩
 .simp[dd,gJ,j6,i,j,l,g,<-a,b,c,e,aq.dat]
 .cases I<;>simp[dd,gJ,j6,i,j,l,g,<-a,hk,C,Rf.intD,aq.dat]
 .simp[dd,gJ,j6,i,j,l,g,<-a,b,c,e,aq.dat]
 .by_cases o:n<6
  .rw[awy o]at m;simp[dd,gJ,j6,i,j,l,g,<-a,b,c,e,aq.dat,o,m]
  .rw[awz o]at m;simp[dd,gJ,j6,i,j,l,g,<-a,b,c,e,aq.dat,o,m]
 .simp[dd,gJ,j6,i,j,l,g,<-a,b,c,e,aq.dat]
 .simp[dd,gJ,j6,i,j,l,g,<-a,b,c,e,aq.dat]
 .simp[dd,gJ,j6,i,j,l,g,<-a,b,c,e,aq.dat]
 .simp[dd,gJ,j6,i,j,l,g,<-a,b,c,e,aq.dat]
 .simp[dd,gJ,j6,i,j,l,g,<-a,b,c,e,aq.dat]
 .simp[dd,gJ,j6,i,j,l,g,<-a,b,c,e,aq.dat]
 .simp[dd,gJ,j6,i,j,l,g,<-a,b,c,e,aq.dat]
 .simp[dd,gJ,j6,i,j,l,g,<-a,b,c,e,aq.dat]
 .simp[dd,gJ,j6,i,j,l,g,<-a,b,c,e,aq.dat]
 .simp[dd,gJ,j6,i,j,l,g,<-a,b,c,e,aq.dat]
 .simp[dd,gJ,j6,i,j,l,g,<-a,b,c,e,aq.dat]
theorem abY{w:Str}(hw:w∈(["owner","ground","enrol","bring","leave","heir","pass","unite","part","tear","sell","move","bear","cut","die"]:List Str))(i:0<=one/\one<=1000)(j:0<=two/\two<=1000):∃d:aq,gJ M [.str w,.int one,.int two,lI p,.tuple [.int n0,.int n1,.int n2],aH base]=.ok d.dat/\eV d=true/\ji d:=by
 have l:=Fo (f:=one) (sure:=eX p) i h0;have m:=Fo (f:=one) (sure:=eX p) i h1;have n:=Fo (f:=one) (sure:=eX p) i h2;have o:=Fo (f:=two) (sure:=eX p) j h0;have q:=Fo (f:=two) (sure:=eX p) j h1;have r:=Fo (f:=two) (sure:=eX p) j h2;have s:=P.mark;have t:=P.bring;have J:(KC p base).length<=1000:=by rw[gD s];decide
 have L:(Jj p base).length<=1000:=by rw[gD t];decide
 have I:0<=p.getD 7 0/\p.getD 7 0<10:=P.dig _ (by
  have:=P.len;rw[List.getD_eq_getElem?_getD,avi #[]];exact av2 _)
 have F:nB (p.getD 7 0%4)=true:=by unfold nB;simp![avh,awu];omega
 have G:ZD (p.getD 7 0%6)=true:=by unfold ZD;simp![avh,awu];omega
 have H:nB (grT (p.getD 7 0)+4*(if eX p then 0 else 1))=true:=by
  unfold nB grT;simp![avh,awu]
  split<;>(repeat' split)<;>omega
 simp![avw,avL,or_false]at hw;let⟨u,v,x,y,z,A,B,C,D,E,a,b,c,e,g⟩:=ai0 M P one two n0 n1 n2 h0 h1 h2
 rcases hw with rfl|rfl|rfl|rfl|rfl|rfl|rfl|rfl|rfl|rfl|rfl|rfl|rfl|rfl|rfl
 all_goals first
  | exact⟨_,v,H,by first | trivial | assumption⟩
  | exact⟨_,by first | exact u | exact x | exact y | exact z | exact A | exact B | exact C | exact D | exact E | exact a | exact b | exact c | exact e | exact g,by simp[eV,l,m,n,o,q,r,s,t,F,G,-List.getD_eq_getElem?_getD],by first | trivial | assumption⟩
end
abbrev words:List Str:=["owner","ground","enrol","bring","leave","heir","pass","unite","part","tear","sell","move","bear","cut","die"]
def Zt:List Str:=["tear","cut","bring","sell","move","enrol","bear","tear","cut","sell","move","unite","part","heir","pass","die","leave","ground","owner","enrol","tear","sell","bring","bear","cut"]
def ak1(M:Mo)(f:Int):∃w∈words,yN M [.int f]=.ok (.str w):=by
 have d:0<=f%25/\f%25<25:=#[];obtain⟨k,hk⟩:∃k:Nat,f%25=k:=⟨(f%25).toNat,#[]⟩;have b:k<Zt.length:=by show k<25;omega
 have a:atI (Zt.map PyData.str) (k:Int)=some (.str Zt[k]):=atI_nat (by rw[avy,avi b];rfl);have c:∀w∈Zt,w∈words:=by simp[Zt]
 refine⟨Zt[k],c _ (av2 b),?_⟩;generalize Zt[k]=z at a;simp[Zt]at a;simp[yN,Oh,hk,a]
def zG(h:Int):List (Str×Int×Int):=if h%8=7 then[] else[("ground",0,0),("owner",0,0),("owner",0,0),("enrol",0,0),("enrol",1,0),("bring",0,0),("cut",0,0),("bring",1,0),("cut",1,0),("ground",0,0),("enrol",0,1)]
def LQ(r:Str×Int×Int):Dat:=.tuple [.str r.1,.int r.2.1,.int r.2.2]
def agl(M:Mo)(h:Int):wA M [.int h]=.ok (.list ((zG h).map LQ)):=by unfold zG;by_cases e:h%8=7<;>simp[wA,IV,e,LQ]
def ake{h:Int}:∀r∈zG h,r.1∈words/\(0<=r.2.1/\r.2.1<=1000)/\0<=r.2.2/\r.2.2<=1000:=by
 unfold zG;split
 .simp
 .simp
def Inv.mono{n s d e:Nat}{c:aF}(I:Inv n s c)(a:n<=d)(f:s<=e):Inv d e c:=
 I.of a I.gr (avH I.al a) rfl rfl I.held (avH I.hL f) I.hE ⟨I.bok.g,λb hb=>by have:=I.en b hb;omega⟩
def akE(d:aq):cost d<=1:=by cases d<;>simp[cost]
def arS:Inv 0 0 ⟨0,[],[],[],[],[]⟩:=⟨⟨rfl,by simp,by simp,by simp,by simp,by simp,by simp⟩,by simp,by simp,by simp,by simp,by simp,by simp,by simp,by simp,by simp,by simp,by simp,by simp⟩
def ajY(x:Int){base:ListInt}(h:base.length=6):Pts (rowOf x 14 10) base:=⟨adS ..,agH #[()] _ _,h⟩
def Kc(x:Int)(k:Nat)(h:k<14):atI ((rowOf x 14 10).map PyData.int) (k:Int)=some (.int ((rowOf x 14 10).getD k 0))/\0<=(rowOf x 14 10).getD k 0/\(rowOf x 14 10).getD k 0<=9:=by
 have a:k<(rowOf x 14 10).length:=by rw[adS];exact h
 refine⟨abK _ k a,?_⟩;rw[List.getD_eq_getElem?_getD,avi a];have:=agH #[()] x 14 _ (av2 a);simp;omega
def DR:aF:=⟨0,[],[],[],[],[]⟩
def L0:Lay:=⟨0,2,5,7,[],[]⟩
def Oc(n:Nat)(x:ListInt):lk (n+1) (aH x)=true:=by show lk (n+1) (.tuple (x.map PyData.int))=true;rw[lk];exact aco n x
def apq(n:Nat)(x:Option ListInt):lk (n+1) (oN x)=true:=by
 cases x with
 |none=>rw[oN,lk]
 |some e=>exact Oc n e
def apJ(n:Nat)(f:Fi):lk (n+2) f.dat=true:=by cases f<;>simp[Fi.dat,lk,rC]
def apH(n:Nat)(e:En):lk (n+2) e.dat=true:=by cases e<;>simp[En.dat,lk,rC]
def akX(n:Nat)(b:fJ):lk (n+4) (xO b)=true:=by
 have a:rC (n+2) (b.en.map En.dat)=true:=oO.mpr λd g=>by
  let⟨e,_,rfl⟩:=avr.mp g
  exact apH n e
 have c:=apJ n b.fi;have f:=apq (n+2) b.sd.due;simp[xO,lk,rC,a,c,f]
def akQ(c:aF):lk 9 (mD c)=true:=by
 have b:∀n,rC (n+2) ((List.range c.al.length).map (Hz c))=true:=λn=>oO.mpr λd a=>by
  let⟨e,_,rfl⟩:=avr.mp a
  simp[Hz,lk,rC]
 have f:∀n,rC (n+2) (c.held.map iK)=true:=λn=>oO.mpr λd a=>by
  let⟨e,_,rfl⟩:=avr.mp a
  simp[iK,lk,rC]
 have g:∀n,rC (n+4) (c.bs.map xO)=true:=λn=>oO.mpr λd a=>by
  let⟨e,_,rfl⟩:=avr.mp a
  exact akX n e
 simp[mD,lk,rC,b,f,g]
def ZP(M:Mo)(c:aF):cR 10 M [mD c,mD c]=.ok (.bool true):=vL M 9 _ (akQ c)
def aek{M:Mo}{L:Lay}{c:aF}{n s:Nat}(a:At M L c)(I:Inv n s c)(b:s<=1000):j9 M [ob L.c]=.ok (mD c):=by have:=I.hL;exact ajZ a I.gr #[] #[]
def aj9(l:ListInt)(lo a:Option Int):Rf.cutD (l.map PyData.int) lo a=(Rf.cutD l lo a).map PyData.int:=by unfold Rf.cutD;rw[avs,List.map_take,List.map_drop]
def W8{c:Type}(l:List c)(a b:Nat)(h:a<=b):(Rf.cutD l (some (a:Int)) (some (b:Int))).length<=b-a:=by unfold Rf.cutD;rw[HT.sIx_nat,HT.sIx_nat,List.length_take];omega
def Qz(e:ListInt)(R:List Rw)(a:Int):ListInt:=Cp ((R.filter λr=>BL r.2 e&&decide (pB r.2 e<=a)).map (·.1))
def agp(M:Mo)(x y:ListInt)(h:x.length<=1000):Bw M [aH x,aH y]=.ok (.bool (BL x y)):=by
 have b:=eZ (tg:=aX [2,3]) (te:=aK qd (2) (3)) (M:=M) (ρ:=[#[aH x],#[aH y],none,none]) pD (λp=>.bool (decide (p.1<=p.2))) (x.zip y) λp _=>⟨[#[aH x],#[aH y],#[.int p.1],#[.int p.2]],by simp[pD],by simp⟩;have a:min x.length y.length<=50000:=#[];have d:Mh (.list ((x.zip y).map λp=>PyData.bool (decide (p.1<=p.2))))=.ok (.bool (BL x y)):=by
  have:=CV ((x.zip y).map λp=>decide (p.1<=p.2));rw[avK]at this
  show(match sJ ((x.zip y).map λp=>PyData.bool (decide (p.1<=p.2))) with
   |some c=>Out.ok (PyData.bool (c.all id))
   |none=>.bad)=_
  have this:sJ ((x.zip y).map λp=>PyData.bool (decide (p.1<=p.2)))=_:=this;rw[this];simp[BL,List.all_map,avG]
 simp[Bw,Tn,Gj,b,a,d]
def acF(M:Mo)(e:ListInt)(R:List Rw)(a:Int)(o:e.length<=1000)(g:uF R)(p:R.length<=1000):tK M [aH e,.list (R.map Ear.rD),.int a]=.ok (aH (Qz e R a)):=by
 have f:=gq (tg:=aX [3,4]) (tt:=mX (fH (aQ Bw #[(4:),(0:)])) (dR (aK qd (aQ oZ #[(4:),(0:)]) (2)))) (te:=zE 3) (M:=M) (ρ:=[#[aH e],#[.list (R.map Ear.rD)],#[.int a],none,none]) Ear.rD (λr=>BL r.2 e&&decide (pB r.2 e<=a)) (λr=>.int r.1) R λr j=>by
  have b:=agp M r.2 e (by rw[g r j];decide);have l:=K6 M r.2 e (by rw[g r j];decide);have m:(aX [3,4]) (Ear.rD r) [#[aH e],#[.list (R.map Ear.rD)],#[.int a],none,none]=some [#[aH e],#[.list (R.map Ear.rD)],#[.int a],#[.int r.1],#[aH r.2]]:=rfl;refine⟨_,m,?_,λ_=>by simp⟩;cases i:BL r.2 e with
  |true=>
   rw[i]at b;simp[b,l]
  |false=>
   rw[i]at b;simp[b]
 have n:intsOf ((R.filter λr=>BL r.2 e&&decide (pB r.2 e<=a)).map λr=>PyData.int r.1)=some ((R.filter λr=>BL r.2 e&&decide (pB r.2 e<=a)).map (·.1)):=by have:=mV ((R.filter λr=>BL r.2 e&&decide (pB r.2 e<=a)).map (·.1));rw[avK]at this;exact this
 have c:(R.filter λr=>BL r.2 e&&decide (pB r.2 e<=a)).length<=4000:=avH (avD _ _) #[];have d:R.length<=50000:=#[];simp[tK,Iz,f,n,c,d,Qz]
def pW(c:aF)(x:Int)(p:Nat×fJ):Dat:=.tuple [.int ((p.1:Int)+1),aH p.2.sd.ear,match p.2.sd.due with
 |none=>.none
 |some _=>aH (Qz p.2.sd.ear (bM (dN c 0 x)) (roomOf c x))]
def vJ(c:aF)(x:Int):List (Nat×fJ):=(c.bs.mapIdx λi b=>(i,b)).filter λp=>decide (p.2.sd.g∈bf c x)&&p.2.sd.al
def Yy{M:Mo}{L:Lay}{n s:Nat}{c:aF}(a:At M L c)(I:Inv n s c)(D:s<=76)(x:Int)(l:Vg c x):fL M [ob L.c,.int x]=.ok (.list ((vJ c x).map (pW c x))):=by
 have F:=I.hL;have hc:=a.hc;let⟨G,z⟩:=a.hh
 have m:=tM a I.gr #[] #[] x (by rw[iT a];exact avH (I.few λr j=>kW j) D);rw[awy l,iT a]at m;have o:=yE a I.gr x;rw[awy l]at o;have q:=xJ a I.gr x;rw[awy l]at q;have v:=Lq a #[] (bf c x);have i:(bM (dN c 0 x)).length<=1000:=by rw[rF];exact avH (I.few λr j=>kW j) #[]
 have f:=eZ (tg:=aX [4,5]) (te:=bh #[(4:),gA "ear" (5),Om (dR (yK false .none (aY "due" (5)))) (qC .none) (aQ tK #[gA "ear" (5),(2:),(3:)])]) (M:=M) (ρ:=[#[ob L.c],#[.int x],#[.list ((bM (dN c 0 x)).map Ear.rD)],#[.int (roomOf c x)],none,none]) nb (λp=>pW c x (p.1,p.2.2)) ((bV L c).filter λx_1=>decide (x_1.2.2.sd.g∈bf c x)&&x_1.2.2.sd.al) λp C=>by
  let⟨b,_⟩:=avF.mp C
  let⟨E,t⟩:=a.hb' b
  have y:=gD (I.ear _ (avo (CP b).2));refine⟨[#[ob L.c],#[.int x],#[.list ((bM (dN c 0 x)).map Ear.rD)],#[.int (roomOf c x)],#[.int ((p.1:Int)+1)],#[ob p.2.1]],by simp[nb],?_⟩;have B:=acF M p.2.2.sd.ear (bM (dN c 0 x)) (roomOf c x) #[] (yM I.Qc) i;cases u:p.2.2.sd.due with
  |none=>simp[t,u,oN,nQ,pW]
  |some d=>simp[t,u,oN,nQ,pW,B]
 have e:((bV L c).filter λx_1=>decide (x_1.2.2.sd.g∈bf c x)&&x_1.2.2.sd.al).map (λp=>pW c x (p.1,p.2.2))=(vJ c x).map (pW c x):=by unfold vJ;rw[<-Hu a,List.filter_map,avK];rfl
 rw[e]at f;have A:((bV L c).filter λx_1=>decide (x_1.2.2.sd.g∈bf c x)&&x_1.2.2.sd.al).length<=50000:=avH (avD _ _) (by rw[a.len'];omega);simp[fL,rP,hc,aP,bK,bL,bF,fG,m,o,q,z,dI,v,f,A]
def amH(M:Mo)(x:Int):∃y,Rh M [.int x]=.ok (.int y):=by
 have a:decide (CPow 10 30)=true:=decide_eq_true ⟨#[()],#[()],#[()]⟩;by_cases h:x<0
 .exact⟨_,by simp[Rh,aan,a,h];rfl⟩
 .exact⟨_,by simp[Rh,aan,a,h];rfl⟩
def Kv:SF:=
 (ak (bJ #[(9)=#["owner"]] (KN 12 #[1]) aM)
 (ak (bJ #[(9)=#["ground"]] (KN 13 #[1]) aM)
 (ak (bJ (Qh #[(9)=#["bring"]] #[(9)=#["bear"]]) (KN 14 #[1]) aM)
 (aV (au 2) (gOf (bh #[(12:),(13:),(14:)]))))))
def wj(o g b:Int):Dat:=.tuple [.int o,.int g,.int b]
def aa6(M:Mo)(w:Str)(o g b:Int)(e:0<=o)(d:0<=g)(j:0<=b)(r s A t u v x y z a c:Option Cell):∃l i f:Int,(0<=l/\0<=i/\0<=f)/\Kv M [r,s,A,t,u,v,x,y,z,#[.str w],a,c,#[.int o],#[.int g],#[.int b]]=.next [r,s,#[wj l i f],t,u,v,x,y,z,#[.str w],a,c,#[.int l],#[.int i],#[.int f]] M:=by
 by_cases m:w="owner"
 .subst m;exact⟨o+1,g,b,⟨#[],d,j⟩,by simp[Kv,wj]⟩
 by_cases n:w="ground"
 .subst n;exact⟨o,g+1,b,⟨e,#[],j⟩,by simp[Kv,wj]⟩
 by_cases p:w="bring"
 .subst p;exact⟨o,g,b+1,⟨e,d,#[]⟩,by simp[Kv,wj]⟩
 by_cases q:w="bear"
 .subst q;exact⟨o,g,b+1,⟨e,d,#[]⟩,by simp[Kv,wj]⟩
 exact⟨o,g,b,⟨e,d,j⟩,by simp[Kv,wj,m,n,p,q]⟩
def agB(M:Mo)(A:Option Cell)(a:Int)(base:ListInt)(hb:base.length=6)(i:Nat)(x o g b:Int)(y:0<=o)(v:0<=g)(j:0<=b)(c:List Dat)(hl:c.length<1000)(x8 x9 I J L N O:Option Cell) :
  ∃(d:aq) (n m l:Int) (y8 y9 Q R S U W:Option Cell),(eV d=true/\ji d)/\(0<=n/\0<=m/\0<=l)/\
   Gz M [A,#[.int a],#[wj o g b],#[aH base],#[.list ((zG a).map LQ)],some (.mut c),#[.int i],#[.int x],x8,x9,I,J,L,N,O] =
    .next [A,#[.int a],#[wj n m l],#[aH base],#[.list ((zG a).map LQ)],some (.mut (c++[d.dat])),#[.int i],#[.int x],y8,y9,Q,R,S,U,W] M:=by
 have X:Cq M [.int x,.int 14,.int 10]=.ok (lI (rowOf x 14 10)):=agd M x 14 10 #[()] #[()] #[()];have P:=ajY x hb;let⟨D,q0,q0'⟩:=Kc x 0 #[()]
 let⟨r1,q1,q1'⟩:=Kc x 1 #[()]
 let⟨E,q2,q2'⟩:=Kc x 2 #[()]
 let⟨F,q3,q3'⟩:=Kc x 3 #[()]
 let⟨G,q4,q4'⟩:=Kc x 4 #[()]
 let⟨H,q5,q5'⟩:=Kc x 5 #[()]
 generalize rowOf x 14 10=p at *;generalize p.getD 0 0=d0 at *;generalize p.getD 1 0=d1 at *;generalize p.getD 2 0=t at *;generalize p.getD 3 0=d3 at *;generalize p.getD 4 0=u at *;generalize p.getD 5 0=d5 at *;let⟨w,hw,Y⟩:=ak1 M (d0*10+d1)
 have hm:∀z,decide (CMul z 10)=true:=λz=>mul_r #[()];have s:c.length<100000:=#[];simp![Int.natCast_zero,Int.natCast_one,show((2:Nat):Int)=2 from rfl,show((3:Nat):Int)=3 from rfl,show((4:Nat):Int)=4 from rfl,show((5:Nat):Int)=5 from rfl]at D r1 E F G H;have e:Gz=(ak (aV (au 8) (gOf (aQ Cq #[(7:),#[14],#[10]])))
  (ak (aV (au 9) (gOf (aQ yN #[aK cY (aK yw (8)[0]! #[10]) (8)[1]!,])))
  (ak (aV (au 10) (gOf (aK cY (aK yw (8)[2]! #[10]) (8)[3]!)))
  (ak (aV (au 11) (gOf (aK cY (aK yw (8)[4]! #[10]) (8)[5]!)))
  (ak (bJ (dR (aK Qn (6) (dG iQ (4)))) (aV (aX [9,10,11]) (gOf (4)[(6)]!)) aM)
  (ak (aV (aX [12,13,14]) (gOf (2:)))
  (ak (Lh 5 (aQ gJ #[(9:),(10:),(11:),(8:),(2:),(3:)]))
  Kv))))))):=rfl
 rw[e];by_cases Z:i<(zG a).length
 .have q:(i:Int)<(zG a).length:=#[];have gg:=avi Z;let⟨b1,b2,b3⟩:=ake _ (av2 Z)
  generalize (zG a)[i]=bb at *;let⟨d,f,B,C⟩:=abY M P bb.2.1 bb.2.2 o g b y v j b1 b2 b3
  let⟨n,m,l,pos,r⟩:=aa6 M bb.1 o g b y v j A #[.int a] #[wj o g b] #[aH base] #[.list ((zG a).map LQ)] (some (.mut (c++[d.dat]))) #[.int i] #[.int x] #[lI p] #[.int bb.2.1] #[.int bb.2.2]
  refine⟨d,n,m,l,#[lI p],#[.str bb.1],#[.int bb.2.1],#[.int bb.2.2],#[.int n],#[.int m],#[.int l],⟨B,C⟩,pos,?_⟩;have f:gJ M [.str bb.1,.int bb.2.1,.int bb.2.2,lI p,wj o g b,aH base]=.ok d.dat:=f;unfold wj at f r |-
  simp[X,D,r1,E,F,G,H,hm,Y,q,gg];simp[LQ,f,s];exact r
 .have q:¬(i:Int)<(zG a).length:=#[];let⟨d,f,B,C⟩:=abY M P (t*10+d3) (u*10+d5) o g b y v j hw #[] #[]
  let⟨n,m,l,pos,r⟩:=aa6 M w o g b y v j A #[.int a] #[wj o g b] #[aH base] #[.list ((zG a).map LQ)] (some (.mut (c++[d.dat]))) #[.int i] #[.int x] #[lI p] #[.int (t*10+d3)] #[.int (u*10+d5)]
  refine⟨d,n,m,l,#[lI p],#[.str w],#[.int (t*10+d3)],#[.int (u*10+d5)],#[.int n],#[.int m],#[.int l],⟨B,C⟩,pos,?_⟩;have f:gJ M [.str w,.int (t*10+d3),.int (u*10+d5),lI p,wj o g b,aH base]=.ok d.dat:=f;unfold wj at f r |-
  simp[X,D,r1,E,F,G,H,hm,Y,q];simp[f,s];exact r
theorem YH(M:Mo)(u:Option Cell)(a:Int)(base:ListInt)(E:base.length=6):∀(s:List (Nat×Int)) (o g b:Int) (c:List Dat) (x y p r f i j l m:Option Cell),0<=o->0<=g->0<=b->c.length+s.length<=900->
  ∃(n:List aq) (t:Rf.Env),n.length=s.length/\(∀d∈n,eV d=true/\ji d)/\t[5]?=some (some (Cell.mut (c++n.map aq.dat)))/\t.length=15/\fO (aX [6,7]) Gz (s.map λq=>PyData.tuple [.int q.1,.int q.2]) M [u,#[.int a],#[wj o g b],#[aH base],#[.list ((zG a).map LQ)],some (.mut c),x,y,p,r,f,i,j,l,m]=.next t M
 |[],o,g,b,c,x,y,p,r,f,i,j,l,m,_,_,_,_=>⟨[],_,rfl,λ_ h=>(nomatch h),by simp,rfl,rfl⟩
 |q::s,o,g,b,c,x,y,p,r,f,i,j,l,m,O,L,v,N=>by
  rw[avu]at N;let⟨d,Q,G,F,W,X,z,A,B,C,D,H,⟨R,S,U⟩,I⟩:=agB M u a base E q.1 q.2 o g b O L v c #[] p r f i j l m
  let⟨n,t,Y,Z,z3,z4,z5⟩:=YH M u a base E s Q G F (c++[d.dat]) #[.int q.1] #[.int q.2] W X z A B C D R S U (by rw[avP,List.length_singleton];omega)
  refine⟨d::n,t,by rw[avu,Y,avu],λe J=>(avw.mp J).elim (λk=>by rw[k];exact H) (Z e),by rw[z3,List.append_assoc];rfl,z4,?_⟩;rw[avj,eU (Z1:=[u,#[.int a],#[wj o g b],#[aH base],#[.list ((zG a).map LQ)],some (.mut c),#[.int q.1],#[.int q.2],p,r,f,i,j,l,m]) (by simp) I];exact z5
def af9(a:ListInt):vC 0 (a.map PyData.int)=(a.mapIdx λi x=>(i,x)).map λ(q:Nat×Int)=>PyData.tuple [.int q.1,.int q.2]:=by unfold vC;apply avO;intro i;simp;cases a[i]?<;>simp
def alu(M:Mo)(a:ListInt)(C:a.length<=100)(b:Int):∃c:List aq,c.length=a.length/\(∀d∈c,eV d=true/\ji d)/\Ji M [lI a,.int b]=.ok (.list (c.map aq.dat)):=by
 have o:=af3 (b/512);have m:=aoY M (b/512);have n:=agl M b;have p:∀z,decide (CDiv z 512)=true:=λz=>decide_eq_true ⟨#[()],#[()]⟩;have e:=af9 a;let⟨c,B,l,y,g,A,j⟩:=YH M #[lI a] b (Vz (b/512)) o (a.mapIdx λi x=>(i,x)) 0 0 0 [] none none none none none none none none none (Int.le_refl 0) (Int.le_refl 0) (Int.le_refl 0) (by simp;omega)
 rw[List.length_mapIdx]at l;refine⟨c,l,y,?_⟩
 match B,A with
 |[r0,r1,D,E,F,v,G,H,I,J,q,r,s,t,u],_=>
  have g:some v=some (some (Cell.mut (c.map aq.dat))):=g;cases g;have j:fO (aX [6,7]) Gz _ M [_,_,#[.tuple [.int 0,.int 0,.int 0]],_,_,_,_,_,_,_,_,_,_,_,_]=_:=j;have f:c.length<=100000:=#[];simp[Ji,acC,p,m,n,e,j,f]
def Lay.hs(L:Lay):List Nat:=L.c::L.g::L.r::L.h::L.bs
def At.keep{M d:Mo}{L:Lay}{c:aF}(a:At M L c)(h:∀x∈L.hs,d[x]?=M[x]?)
  (j:jo d=true)
  : At d { L with fr:=[] } c:=by
 have hb:∀x∈L.bs,d[x]?=M[x]?:=λx q=>h x (by simp[Lay.hs,q]);let⟨n,m,hg⟩:=a.hg
 let⟨k,hh⟩:=a.hh
 exact⟨(h L.c (by simp[Lay.hs])).trans a.hc,⟨n,m,(h L.g (by simp[Lay.hs])).trans hg⟩,(h L.r (by simp[Lay.hs])).trans a.hr,⟨k,(h L.h (by simp[Lay.hs])).trans hh⟩,a.len,λi x b f l=>by
  let⟨n,e⟩:=a.hb i x b f l
  exact⟨n,(hb x (avo f)).trans e⟩,a.nd,λp o=>(nomatch o)
  ,j
  ⟩
def At.has{M:Mo}{L:Lay}{c:aF}(a:At M L c):∀x∈L.hs,∃i,M[x]?=some i:=λx b=>by
 unfold Lay.hs at b;simp![avw]at b;rcases b with rfl|rfl|rfl|rfl|b
 .exact⟨_,a.hc⟩
 .let⟨_,_,h⟩:=a.hg
  exact⟨_,h⟩
 .exact⟨_,a.hr⟩
 .let⟨_,h⟩:=a.hh
  exact⟨_,h⟩
 .let⟨i,d⟩:=List.mem_iff_getElem?.mp b
  let⟨hl,_⟩:=avf.mp d
  rw[a.len]at hl;let⟨_,h⟩:=a.hb i x _ d (avi hl)
  exact⟨_,h⟩
def Nu{a:Type}(M l:List a)(k:Nat):(M++l)[M.length+k]?=l[k]?:=by rw[avv #[],Nat.add_sub_cancel_left]
def adK{a:Type}(M l:List a):(M++l)[M.length]?=l[0]?:=Nu M l 0
def afN{a:Type}(M l:List a)(k:Nat)(x:a):(M++l).set (M.length+k) x=M++l.set k x:=by rw[List.set_append_right _ _ #[],Nat.add_sub_cancel_left]
def alG{a:Type}(M l:List a)(x:a):(M++l).set M.length x=M++l.set 0 x:=afN M l 0 x
def newT(n:Nat):Mo:=[⟨"Commons",[("owner_count",.dat (.int 0)),("holders",.dic false []),("grounds",.dat (ob (n+2))),("rights",.dat (ob (n+5))),("herd",.dat (ob (n+7)))]⟩,⟨"",[]⟩,⟨"Grounds",[("allowances",.lst (n+3) []),("circles",.lst (n+4) [])]⟩,⟨"",[]⟩,⟨"",[]⟩,⟨"Rights",[("held",.dic true [])]⟩,⟨"",[]⟩,⟨"Herd",[("beasts",.lst (n+8) [])]⟩,⟨"",[]⟩]
def akH(M:Mo):fu (M++[⟨"Commons",[]⟩]) [ob M.length]=.ok .none (M++newT M.length):=by simp[fu,Ak,jk,vq,Bv,wW,DN,BZ,Iv,Nu,adK,afN,alG,newT]
def anj{M:Mo}(h:jo M=true):jo (M++newT M.length)=true:=by
 unfold jo at h |-
 rw[List.all_append,h];simp[newT,Dg]
def Xp(M:Mo)
  (h:jo M=true)
  : ∃a L,L.c=M.length/\L.fr=[]/\fu (M++[⟨"Commons",[]⟩]) [ob M.length]=.ok .none a/\At a L DR/\(∀x∈L.hs,M.length<=x)/\∀x,x<M.length->a[x]?=M[x]?:=by
 refine⟨_,⟨M.length,M.length+2,M.length+5,M.length+7,[],[]⟩,rfl,rfl,akH M,⟨adK ..,⟨M.length+3,M.length+4,Nu ..⟩,Nu ..,⟨M.length+8,Nu ..⟩,rfl,λi h b z _=>(nomatch z),?_,λp e=>(nomatch e)
  ,anj h
  ⟩,λx d=>?_,λx d=>avq d⟩
 .simp
 .simp[Lay.hs]at d;omega
def fD(m n:Nat)(a:List aq):Inst:=⟨"Book",[("commons",.dat (ob m)),("kept",.lst n (a.map aq.dat))]⟩
def ajl{M:Mo}{L:Lay}{n s:Nat}{c:aF}(a:At M L c)(I:Inv n s c)(w:s<=76)(u:n<=199)(d:aq)(q:ji d)(t:eV d=true) :
  (∃r k f l,bT c d=.ok r k/\l.c=L.c/\bO M [ob L.c,d.dat]=.ok r f/\At f l k/\∀x i,M[x]?=some i->x∉L.hs->f[x]?=some i/\x∉l.hs)\/∃x,bT c d=.no x/\bO M [ob L.c,d.dat]=.exc x M:=by
 have o:At M { L with fr:=((List.range M.length).filter λx=>decide (x∉L.hs)).map λx=>(x,M[x]?.getD ⟨"",[]⟩) } c:=⟨a.hc,a.hg,a.hr,a.hh,a.len,a.hb,a.nd,λp v=>by
  let⟨x,j,rfl⟩:=avr.mp v
  rw[avF,List.mem_range]at j;exact⟨by rw[avi j.1];rfl,awv j.2⟩
  ,a.lf
  ⟩
 have h:=aqB o I w u d q t;cases g:bT c d with
 |no x=>
  rw[g]at h;exact .inr ⟨x,rfl,h⟩
 |ok r k=>
  rw[g]at h;let⟨f,bs,e,b⟩:=h
  refine .inl ⟨r,k,f,{ L with bs:=bs,fr:=[] },rfl,rfl,e,b.keep (λ_ _=>rfl)
   b.lf
   ,λx i m j=>?_⟩
  have:=b.fr (x,M[x]?.getD ⟨"",[]⟩) (avr.mpr ⟨x,avF.mpr ⟨List.mem_range.mpr (avf.mp m).1,decide_eq_true j⟩,rfl⟩)
  rw[m]at this;exact this
def runC:aF->List aq->Option aF
 |c,[]=>some c
 |c,d::ds=>match bT c d with
  |.ok _ a=>runC a ds
  |.no _=>none
theorem SM:∀(a b:List aq) (c:aF),runC c (a++b)=(runC c a).bind λe=>runC e b
 |[],_,_=>rfl
 |d::a,b,c=>by
  rw[List.cons_append,runC,runC];cases bT c d with
  |ok r e=>exact SM a b e
  |no x=>rfl
def costs(a:List aq):Nat:=(a.map cost).sum
def pA(a b:List aq):costs (a++b)=costs a+costs b:=by simp[costs]
theorem adB:∀(a:List aq) (n s:Nat) (c b:aF),Inv n s c->n+a.length<=199->runC c a=some b->Inv (n+a.length) (s+costs a) b
 |[],n,s,c,b,I,_,h=>by
  cases h;exact I
 |d::a,n,s,c,b,I,g,h=>by
  rw[avu]at g |-
  rw[runC]at h;left
  .next r f e=>
   have:=adB a (n+1) (s+cost d) f b (aio I #[] e) #[] h;rw[show n+(a.length+1)=n+1+a.length by omega,show s+costs (d::a)=s+cost d+costs a by simp[costs];omega];exact this
  .cases h
structure Kept(ds:List aq)(c:aF):Prop where
 run:runC DR ds=some c
 ok:∀d∈ds,eV d=true/\ji d
 len:ds.length<=196
 cst:costs ds<=75
def Kept.inv{a:List aq}{c:aF}(k:Kept a c):Inv a.length (costs a) c:=by
 have:=adB a 0 0 DR c arS (by have:=k.len;omega) k.run
 rwa [Nat.zero_add,Nat.zero_add]at this
theorem Kept.take{b:List aq}{c:aF}(k:Kept b c)(j:Nat):∃a,Kept (b.take j) a:=by have h:=k.run;have e:=List.take_append_drop j b;rw[<-e,SM]at h;obtain⟨a,f,_⟩;have hc:=congrArg costs e;rw[pA]at hc;exact⟨a,f,λd hd=>k.ok d (avY hd),by have:=k.len;rw[List.length_take];omega,by have:=k.cst;omega⟩
def Kept.add{b:List aq}{c a:aF}{r:Dat}(k:Kept b c)(d:aq)(hd:eV d=true/\ji d)(h:bT c d=.ok r a)(f:b.length<=195)(g:costs b+cost d<=75):Kept (b++[d]) a:=⟨by
 rw[SM,k.run]
 show(match bT c d with
  |.ok _ a=>runC a []
  |.no _=>none)=_
 rw[h]
 rfl,λe i=>(avz.mp i).elim (k.ok e) λz=>avp.mp z ▸ hd,by simpa using f,by
 rw[pA];simpa [costs] using g⟩
def ae9:Kept [] DR:=⟨rfl,λ_ z=>(nomatch z),by simp,by simp[costs]⟩
structure Bk(M:Mo)(b n:Nat)(L:Lay)(ds:List aq)(c:aF):Prop where
 a:At M L c
 hb:M[b]?=some (fD L.c n ds)
 nb:b∉L.hs
 k:Kept ds c
def yI(d:aq):lf d.dat=true:=by cases d<;>simp[aq.dat,wN]
def akV(m n:Nat)(a:List aq):uE (fD m n a)=true:=by simp[uE,Dg,fD,jH yI]
def Xr{M:Mo}{b n:Nat}{L:Lay}{e:List aq}{c:aF}(B:Bk M b n L e c)(d:aq)(o:eV d=true/\ji d)(C:e.length<=195)(D:costs e+cost d<=75) :
  (∃r g l f,bT c d=.ok r g/\ni M [ob b,d.dat]=.ok r l/\Bk l b n f (e++[d]) g/\∀x i,M[x]?=some i->x≠b->x∉L.hs->l[x]?=some i/\x∉f.hs)\/∃x,bT c d=.no x/\ni M [ob b,d.dat]=.exc x M:=by
 have hk:=B.k.cst;have I:=B.k.len;have y:=B.a.hc;have v:=B.hb;rcases ajl B.a B.k.inv #[] #[] d o.2 o.1 with⟨r,g,M1,f,j,m,A,q,s⟩|⟨x,j,m⟩
 .let⟨t,u⟩:=s b _ B.hb B.nb
  refine .inl ⟨r,g,M1.set b (fD f.c n (e++[d])),{ f with fr:=[] },j,?_,⟨q.keep (λx p=>avm λ(z:b=x)=>u (z ▸ p))
   (uZ q.lf (akV ..))
   ,avt (avf.mp t).1,u,B.k.add d o j C D⟩,λx i E p F=>?_⟩
  .simp[ni,Ht,v,fD,xg,y,aP,A,t,m,show e.length<100000 by omega]
  .let⟨G,H⟩:=s x i E F
   exact⟨by rw[avm (Ne.symm p)];exact G,H⟩
 .exact .inr ⟨x,j,by simp[ni,Ht,v,fD,xg,y,aP,m]⟩
def Cd(x:cZ):Dat:=match Bp.lookup x.cls with
 |some true=>.tuple ((["ones","others","ear"]:List Str).map λf=>(x.fs.lookup f).getD .none)
 |_=>.none
def outF:Res->Dat
 |.ok r _=>.tuple [.list [],r]
 |.no x=>.tuple [.list (((rE x.cls).getD []).map .bool),Cd x]
def kind_all:(nM.all λp=>(rE p.1).any λbs=>decide (0<bs.length))=true:=#[[]]
def kinds{c:aF}{d:aq}{x:cZ}(h:bT c d=.no x):∃a,rE x.cls=some a/\0<a.length:=by
 have b:=avx.mp kind_all _ (o9 (Uv h));let⟨a,e,f⟩:=PySem.W.any_some b
 exact⟨a,e,awv f⟩
def ael{c:aF}{d:aq}{x:cZ}(h:bT c d=.no x):Bp.lookup x.cls=some false\/∃o e r,x=qL o e r:=by cases d<;>simp![bT,tY,yL,Lk,ou,Ag,yg,markB]at h<;>(repeat' split at h)<;>cases h<;>first | exact .inr ⟨_,_,_,rfl⟩ | exact .inl rfl
def alp{c:aF}{d:aq}{x:cZ}(h:bT c d=.no x):lk 8 (Cd x)=true:=by
 unfold Cd;rcases ael h with e|⟨o,e,r,rfl⟩
 .rw[e];rfl
 .rw[show Bp.lookup (qL o e r).cls=some true from rfl];simp[qL,lk,rC,Ear.rD,Ear.dT,List.lookup]
def aoW{c b:aF}{d:aq}{r:Dat}(h:bT c d=.ok r b):lk 8 r=true:=by
 have a:∀x,lk 7 (aH x)=true:=Oc 6;have e:∀l:List ListInt,lk 8 (.list (l.map aH))=true:=λl=>by
  rw[lk];exact oO.mpr λd f=>by
   let⟨x,_,rfl⟩:=avr.mp f
   exact a x
 cases d<;>simp![bT,tY,yL,Lk,ou,Ag,yg,markB]at h<;>(repeat' split at h)<;>cases h<;>first | exact Oc 7 _ | (show lk 8 (.list (_:ListInt).map PyData.int)=true;rw[lk];exact aco 7 _) | exact e _ | rfl | (rw[lk,rC,rC,rC,a];rfl)
def ahN(c:aF)(d:aq):lk 9 (outF (bT c d))=true:=by
 cases h:bT c d with
 |ok r e=>
  have:=aoW h;simp[outF,lk,rC,this]
 |no x=>
  have:rC 7 (((rE x.cls).getD []).map PyData.bool)=true:=oO.mpr λz a=>by
   let⟨b,_,rfl⟩:=avr.mp a
   rfl
  simp[outF,lk,rC,this,alp h]
section
variable{M M':Mo}{o:Nat}{i:Inst}{m:Mo->List Dat->aR Dat}{d r:Dat}(hM:M[o]?=some i)(ht:cW.lookup i.cls=some (.g 2 m))
include hM ht
theorem acz(h:m M [ob o,d]=.ok r M'):qR M [ob o,d]=.ok (.tuple [.list [],r]) M':=by simp[qR,Jz,hM,ht,h]
theorem ab2{c:aF}{e:aq}{x:cZ}(a:bT c e=.no x)(h:m M [ob o,d]=.exc x M):qR M [ob o,d]=.ok (outF (.no x)) M:=by
 let⟨n,b,p⟩:=kinds a
 have k:=Uv a;rcases ael a with q|⟨o,e,r,rfl⟩
 .simp[qR,Jz,hM,ht,h,k,q,vA,Gn,
   b,outF,Cd]
 .have l:∀r,lf (Ear.rD r)=true:=λr=>by simp[Ear.rD,Ear.dT]
  have f:Ld "Clash" (qL o e r) ["ones","others","ear"]=some [Ear.rD (o,e),Ear.rD r,aH (jD e r.2)]:=by simp[Ld,XJ,qL,List.lookup,l]
  have j:Cd (qL o e r)=.tuple [Ear.rD (o,e),Ear.rD r,aH (jD e r.2)]:=rfl;simp[qR,Jz,hM,ht,h,vA,Gn,
   b,outF,f,j,show Bp.lookup (qL o e r).cls=some true from rfl]
theorem ah9(h:m M [ob o,d]=.ok r M'):qF M [ob o,d]=.ok (.tuple [.str "",r]) M':=by simp[qF,QC,hM,ht,h]
theorem ah2{c:aF}{e:aq}{x:cZ}(a:bT c e=.no x)(h:m M [ob o,d]=.exc x M):qF M [ob o,d]=.ok (.tuple [.str "refused",.none]) M:=by simp[qF,QC,hM,ht,h,Uv a,vA,Gn]
end
theorem Q9{m n:Nat}{a:List aq}:cW.lookup (fD m n a).cls=some (.g 2 ni):=rfl
theorem ag1{L:Lay}{c:aF}:cW.lookup (aP L c).cls=some (.g 2 bO):=rfl
def num_S{i:Int}(h:0<=i)(a:i<=999999999):decide (i.natAbs.log2<1920)=true/\(Str.ofString (toString i)).length<=9:=by
 let⟨n,rfl⟩:=Int.eq_ofNat_of_zero_le h
 refine⟨decide_eq_true ?_,?_⟩
 .have:(n:Int).natAbs.log2<=n:=Nat.log2_le_self _;have:n<2^1920:=Nat.lt_of_le_of_lt (show n<=999999999 by omega) #[()];by_cases e:n=0
  .subst e;decide
  .exact(Nat.log2_lt e).mpr this
 .rw[PySem.ofString_length];exact(Nat.length_repr_le_iff (n:=n) (k:=9) #[()]).mpr #[]
def aib(x:Str)(a:List Str):(Txt.join x a).length<=(a.map λy=>y.length).sum+a.length*x.length:=by
 show(Builtin.Str.glued x a).length<=_
 rw[StrLaws.glued_eq_join]
 induction a with
 |nil=>
  simp[Str.join];rfl
 |cons y a b=>cases a with
  |nil=>simp[Str.join]
  |cons z c=>
   rw[Str.join,PySem.strLen_append,PySem.strLen_append,avj,List.sum_cons,avu,Nat.succ_mul]
   .omega
   .exact λh=>nomatch h
def alw(a:List Str):strsOf (a.map PyData.str)=some a:=by
 induction a with
 |nil=>rfl
 |cons w a b=>simp[strsOf,b]
def T7(x:Str)(a:List Str)(n B:Nat)(d:a.length<=n)(c:∀w∈a,w.length<=B)(h:n*(B+x.length)<=16777216):BJ x (.list (a.map PyData.str))=.ok (.str (Txt.join x a))/\(Txt.join x a).length<=n*(B+x.length):=by
 have s:∀l:List Str,(∀w∈l,w.length<=B)->(l.map λy=>y.length).sum<=l.length*B:=λl=>by
  induction l with
  |nil=>simp
  |cons w l e=>
   intro b;have:=e λw hw=>b w (avk _ hw);have:=b w avl;rw[avj,List.sum_cons,avu,Nat.succ_mul];omega
 have g:=s a c;have i:=aib x a;have f:a.length*(B+x.length)<=n*(B+x.length):=Nat.mul_le_mul_right _ d;rw[Nat.mul_add]at f;refine⟨?_,#[]⟩;simp![BJ,alw];rw[decide_eq_true #[]];rfl
def ajd{l:ListInt}(h:cQ l=true):∀x∈l,0<=x/\x<=999999999:=λx a=>by
 unfold cQ at h;rw[avh]at h;have:=avx.mp h.2 x a;simp at this;omega
def ap6{i:Int}(h:0<=i)(a:i<=999999999):Yh (.int i)=.ok (Str.ofString (toString i)):=by show Out.when (decide (i.natAbs.log2<1920)) (.ok (Str.ofString (toString i)))=_;rw[(num_S h a).1];rfl
def ap4{i:Int}(h:0<=i)(a:i<=999999999):abH (.int i)=.ok (.str (Str.ofString (toString i))):=by show Out.when (decide (i.natAbs.log2<1920)) (.ok (PyData.str (Str.ofString (toString i))))=_;rw[(num_S h a).1];rfl
abbrev Ze:List Str:=["lt","lf","lh","rt","rf","rh"]
def agi(M:Mo){l:ListInt}(h:cQ l=true):∃w:Str,Fd M [aH l]=.ok (.str w)/\w.length<=72:=by
 have t:=gD h;have j:=ajd h;have g:∀p∈Ze.zip l,p.1.length=2:=λp c=>by
  have:=(List.of_mem_zip c).1;simp![avw,avL,or_false]at this;rcases this with e|e|e|e|e|e<;>rw[e]<;>rfl
 have a:=gq (tg:=aX [2,3]) (tt:=dR (aK Ve (3) #[0])) (te:=abB (2) (3)) (M:=M) (ρ:=[#[aH l],none,none,none]) (λp:Str×Int=>PyData.tuple [.str p.1,.int p.2]) (λp=>decide (0<p.2)) (λp=>PyData.str (p.1++Str.ofString (toString p.2))) (Ze.zip l) λp c=>by
  have m:=j _ (List.of_mem_zip c).2;have s:=(num_S m.1 m.2).2;have o:=ap6 m.1 m.2;have g:=g p c;exact⟨[#[aH l],none,#[.str p.1],#[.int p.2]],by simp,by simp,λ_=>by
   generalize Str.ofString (toString p.2)=z at *;have n:Yh (.str p.1)=.ok p.1:=by show Out.when (decide (p.1.length<=100000)) (.ok p.1)=_;rw[decide_eq_true #[]];rfl
   unfold abB;simp[n,o,g,show 2+z.length<=100000 by omega]⟩
 have q:tZ (Ze.map PyData.str) (l.map PyData.int)=(Ze.zip l).map λp=>PyData.tuple [.str p.1,.int p.2]:=by unfold tZ;rw[List.zipWith_map,List.zip_eq_zipWith,List.map_zipWith]
 let⟨f,r⟩:=T7 " " (((Ze.zip l).filter λp=>decide (0<p.2)).map λp=>p.1++Str.ofString (toString p.2)) 6 11 (by
  rw[avs];exact avH (avD _ _) (by rw[List.length_zip];simp;omega)) (λw hw=>by
  let⟨p,d,rfl⟩:=avr.mp hw
  have d:=(avF.mp d).1;have m:=j _ (List.of_mem_zip d).2;have:=(num_S m.1 m.2).2;have:=g p d;rw[PySem.strLen_append]
  omega) #[()]
 rw[avK]at f;have e:(PyData.str ∘ λp:Str×Int=>p.1++Str.ofString (toString p.2))=λp=>PyData.str (p.1++Str.ofString (toString p.2)):=rfl;rw[e]at f;have b:tZ [.str "lt",.str "lf",.str "lh",.str "rt",.str "rf",.str "rh"] (l.map PyData.int)=_:=q
 have i:((Ze.zip l).map λp=>PyData.tuple [.str p.1,.int p.2]).length<=50000:=by rw[avs,List.length_zip];simp;omega
 generalize (Ze.zip l).map (λp=>PyData.tuple [.str p.1,.int p.2])=Z at *;generalize (Ze.zip l).filter (λp=>decide (0<p.2))=F at *;cases F with
 |nil=>
  refine⟨"none",?_,#[()]⟩
  simp[Fd,Qx,dO,wF,b,a,i]
 |cons p F=>
  refine⟨_,?_,r⟩;rw[avj]at f a;generalize F.map (λp=>PyData.str (p.1++Str.ofString (toString p.2)))=F2 at *;generalize Txt.join " " ((p::F).map _)=z at *
  generalize p.1++Str.ofString (toString p.2)=y at *;simp[Fd,Qx,dO,wF,b,a,i,f]
def ao8(M:Mo){x:Int}(h:nB x=true):∃w:Str,cO M [.str "number",.int x]=.ok (.str w)/\w.length<=72:=by simp[nB]at h;have e:=ap4 (i:=x) #[] #[];have:=(num_S (i:=x) #[] #[]).2;generalize Str.ofString (toString x)=z at *;exact⟨z,by simp[cO,rB,e],#[]⟩
def apj(M:Mo){l:ListInt}(h:cQ l=true):∃w:Str,cO M [.str "ear",aH l]=.ok (.str w)/\w.length<=72:=by
 let⟨w,e,hw⟩:=agi M h
 exact⟨w,by simp[cO,rB,e],hw⟩
def aix(M:Mo){x:Int}(h:ZD x=true):∃w:Str,cO M [.str "place",.int x]=.ok (.str w)/\w.length<=72:=by simp[ZD]at h;have q:x=0\/x=1\/x=2\/x=3\/x=4\/x=5:=#[];rcases q with rfl|rfl|rfl|rfl|rfl|rfl<;>exact⟨_,by simp[cO,rB,dO];rfl,#[()]⟩
def ju(M:Mo)(w:Str)(T:LsS Dat)(hw:w.length<=10)(i:zM M [.tuple (.str w::T.map (·.2))]=.ok (.bool true))(hk:(vN rH).lookup w=some (.tuple (T.map λt=>.str t.1)))(o:T.length<=3)(j:∀t∈T,∃z:Str,cO M [.str t.1,t.2]=.ok (.str z)/\z.length<=72):∃z:Str,jX M [.tuple (.str w::T.map (·.2))]=.ok (.str z)/\z.length<=292:=by
 let F:Str×Dat->Str:=λt=>match cO M [.str t.1,t.2] with
  |.ok (.str z)=>z
  |_=>""
 have g:∀t∈T,cO M [.str t.1,t.2]=.ok (.str (F t))/\(F t).length<=72:=λt a=>by
  let⟨z,e,h⟩:=j t a
  have:F t=z:=by
   show(match cO M [.str t.1,t.2] with
    |.ok (.str z)=>z
    |_=>"")=z
   rw[e]
  rw[this];exact⟨e,h⟩
 have l:Rf.cutD (PyData.str w::T.map (·.2)) (some 1) none=T.map (·.2):=TY _ 1;have m:tZ (T.map λt=>PyData.str t.1) (T.map (·.2))=T.map λt=>.tuple [.str t.1,t.2]:=by unfold tZ;rw[List.zipWith_map_left,List.zipWith_map_right,List.zipWith_self]
 have f:=eZ (tg:=aX [2,3]) (te:=aQ cO #[(2:),(3:)]) (M:=M) (ρ:=[#[(.tuple (.str w::T.map (·.2)))],#[.str w],none,none]) (λt:Str×Dat=>PyData.tuple [.str t.1,t.2]) (λt=>PyData.str (F t)) T λt a=>⟨[#[(.tuple (.str w::T.map (·.2)))],#[.str w],#[.str t.1],#[t.2]],by simp,by simp[(g t a).1]⟩;let⟨d,n⟩:=T7 " " (w::T.map F) 4 72 (by simp;omega) (λy c=>by
  rcases avw.mp c with rfl|c
  .omega
  .let⟨t,a,rfl⟩:=avr.mp c
   exact(g t a).2) #[()]
 rw[avj,avK]at d;have b:T.length<=50000:=#[];have e:(PyData.str ∘ F)=λt=>PyData.str (F t):=rfl;rw[e]at d;generalize Txt.join " " (w::T.map F)=y at *
 refine⟨y,?_,n⟩;simp[jX,NK,i,hk,l,m,f,b,show 1+T.length<=100000 by omega,d]
def fm{b:Type}{P:b->Prop}{a:b}{l:List b}(c:P a)(d:∀t∈l,P t):∀t∈a::l,P t:=List.forall_mem_cons.mpr ⟨c,d⟩
def ac8(M:Mo)(d:aq)(h:eV d=true/\ji d):∃z:Str,jX M [d.dat]=.ok (.str z)/\z.length<=292:=by
 have a:=aen M d h.2;have h:=h.1;rw[h]at a;have n:=@ao8 M;have e:=@apj M;have p:=@aix M;have b:∀t∈([]:LsS Dat),∃z:Str,cO M [.str t.1,t.2]=.ok (.str z)/\z.length<=72:=λt c=>nomatch c;cases d<;>simp![eV,avh]at h
 .exact ju M "owner" [] #[()] a (by rfl) (by simp) b
 .exact ju M "ground" [("number",_)] #[()] a (by rfl) (by simp) (fm (n h) b)
 .exact ju M "enrol" [("number",_),("number",_),("ear",_)] #[()] a (by rfl) (by simp) (fm (n h.1.1) (fm (n h.1.2) (fm (e h.2) b)))
 .exact ju M "leave" [("number",_),("number",_)] #[()] a (by rfl) (by simp) (fm (n h.1) (fm (n h.2) b))
 .exact ju M "bring" [("number",_),("number",_),("ear",_)] #[()] a (by rfl) (by simp) (fm (n h.1.1) (fm (n h.1.2) (fm (e h.2) b)))
 .exact ju M "bear" [("number",_)] #[()] a (by rfl) (by simp) (fm (n h) b)
 .exact ju M "cut" [("number",_)] #[()] a (by rfl) (by simp) (fm (n h) b)
 .exact ju M "tear" [("number",_),("place",_)] #[()] a (by rfl) (by simp) (fm (n h.1) (fm (p h.2) b))
 .exact ju M "sell" [("number",_),("number",_)] #[()] a (by rfl) (by simp) (fm (n h.1) (fm (n h.2) b))
 .exact ju M "move" [("number",_),("number",_)] #[()] a (by rfl) (by simp) (fm (n h.1) (fm (n h.2) b))
 .exact ju M "die" [("number",_)] #[()] a (by rfl) (by simp) (fm (n h) b)
 .exact ju M "unite" [("number",_),("number",_)] #[()] a (by rfl) (by simp) (fm (n h.1) (fm (n h.2) b))
 .exact ju M "part" [("number",_)] #[()] a (by rfl) (by simp) (fm (n h) b)
 .exact ju M "pass" [("number",_),("number",_)] #[()] a (by rfl) (by simp) (fm (n h.1) (fm (n h.2) b))
 .exact ju M "heir" [("number",_),("number",_),("number",_)] #[()] a (by rfl) (by simp) (fm (n h.1.1) (fm (n h.1.2) (fm (n h.2) b)))
def rN(M:Mo)(d:aq):Str:=match jX M [d.dat] with
 |.ok (.str z)=>z
 |_=>""
def aaX(M:Mo)(c:Rf.Env)(j:Nat)(i:j<c.length)(a:List aq)(l:a.length<=200)(h:∀d∈a,eV d=true/\ji d):cJ (au j) gQ (aQ jX #[zE j,]) M c (a.map aq.dat)=.ok ((a.map (rN M)).map PyData.str)/\BJ "\n" (.list ((a.map (rN M)).map PyData.str))=.ok (.str (Txt.join "\n" (a.map (rN M)))):=by
 have g:∀d∈a,jX M [d.dat]=.ok (.str (rN M d))/\(rN M d).length<=292:=λd b=>by
  let⟨z,e,h⟩:=ac8 M d (h d b)
  have:rN M d=z:=by rw[rN,e]
  rw[this];exact⟨e,h⟩
 have f:=eZ (tg:=au j) (te:=aQ jX #[zE j,]) (M:=M) (ρ:=c) aq.dat (λd=>PyData.str (rN M d)) a λd b=>⟨c.set j #[d.dat],rfl,by simp[i,(g d b).1]⟩;exact⟨by rw[f,avK];rfl,(T7 "\n" (a.map (rN M)) 200 292 (by simpa using l) (λy m=>by
  let⟨d,b,rfl⟩:=avr.mp m
  exact(g d b).2) #[()]).1⟩
def Qy(c:aF):List (List Dat):=[c.own.map PyData.int,(List.range c.al.length).map (Hz c),c.held.map iK,c.bs.map xO]
theorem ah0(c:aF):mD c=.tuple ((Qy c).map PyData.list):=rfl
def aiC(c:aF):∀x∈Qy c,fZ x=true:=λx a=>by
 have d:∀k,lf (Hz c k)=true:=λk=>by simp[Hz,wN]
 have e:∀b:fJ,lf (xO b)=true:=λb=>by
  have f:=jH ajF b.en;have g:lf (oN b.sd.due)=true:=by cases b.sd.due<;>simp[oN,wN]
  simp[xO,f,g,ajA,wN]
 simp![Qy,avw,avL,or_false]at a;rcases a with rfl|rfl|rfl|rfl
 .exact aiJ _
 .exact jH d _
 .exact jH ajx _
 .exact jH e _
theorem CG{f:SF}{j:Nat}{M:Mo}{E:Option Cell->Rf.Env}{P:Dat->Prop}(h:∀d y,P d->au j d (E y)=some (E #[d])/\f M (E #[d])=.next (E #[d]) M):∀(a:List Dat) (y:Option Cell),(∀d∈a,P d)->∃b,fO (au j) f a M (E y)=.next (E b) M
 |[],y,_=>⟨y,rfl⟩
 |d::a,y,c=>by
  let⟨g,i⟩:=h d y (c d avl)
  let⟨b,m⟩:=CG h a #[d] λe l=>c e (avk _ l)
  exact⟨b,by rw[eU g i,m]⟩
theorem mem_range{a:Int}{k:Nat}{d:Dat}(h:d∈jF a k):∃i:Int,d=.int i/\a<=i/\i<a+k:=by
 unfold jF at h;let⟨i,b,rfl⟩:=avr.mp h
 rw[List.mem_range]at b;exact⟨_,rfl,#[],#[]⟩
def ak3(d:aq):lk 8 d.dat=true:=by have:=Oc;cases d<;>simp[aq.dat,lk,rC,this]
def aaS(a:List aq):lk 9 (.list (a.map aq.dat))=true:=by
 rw[lk];exact oO.mpr λd b=>by
  let⟨x,_,rfl⟩:=avr.mp b
  exact ak3 x
def alN(c:aF)(x:Int):lk 9 (.list ((vJ c x).map (pW c x)))=true:=by
 rw[lk];exact oO.mpr λd b=>by
  let⟨p,_,rfl⟩:=avr.mp b
  have a:∀l,lk 7 (aH l)=true:=Oc 6;have:lk 7 (match p.2.sd.due with
   |none=>PyData.none
   |some _=>aH (Qz p.2.sd.ear (bM (dN c 0 x)) (roomOf c x)))=true:=by
   split
   .rfl
   .exact a _
  simp[pW,lk,rC,a];exact this
section
variable{M:Mo}{b n:Nat}{L:Lay}{ds:List aq}{c:aF}(B:Bk M b n L ds c)
include B
theorem aaE:zK M [ob b]=.ok (.list (ds.map aq.dat)):=by simp[zK,GD,B.hb,fD]
theorem Tj:pY M [ob b]=.ok (mD c):=by have d:=B.a.hc;have:=aek B.a B.k.inv (by have:=B.k.cst;omega);simp[pY,Im,B.hb,fD,zF,d,aP,this]
theorem Vy(x:Int)(e:Vg c x):lQ M [ob b,.int x]=.ok (.list ((vJ c x).map (pW c x))):=by have d:=B.a.hc;have:=Yy B.a B.k.inv (by have:=B.k.cst;omega) x e;simp[lQ,xR,B.hb,fD,ql,d,aP,this]
theorem Py(x:Int)(g:¬Vg c x):tH M [ob b,.int x]=.ok (.bool true):=by
 have e:=B.a.hc;have d:=tM B.a B.k.inv.gr (by have:=B.k.inv.hL;have:=B.k.cst;omega) (by have:=B.k.inv.hL;have:=B.k.cst;omega) x (by rw[iT B.a];exact avH (B.k.inv.few λr f=>kW f) (by have:=B.k.cst;omega));rw[awz g]at d;have:fL M [ob L.c,.int x]=.exc ⟨"NoGround",[]⟩:=by simp[fL,rP,e,aP,bK,d]
 have:lQ M [ob b,.int x]=.exc ⟨"NoGround",[]⟩:=by simp[lQ,xR,B.hb,fD,ql,e,aP,this]
 simp[tH,Ir,B.hb,fD,bB,this,vA,Gn,IW,
  ]
variable{K:Lay}(a2:At M K c)
include a2
theorem ain:j9 M [ob K.c]=.ok (mD c):=aek a2 B.k.inv (by have:=B.k.cst;omega)
theorem aeY(x:Int)(a:Vg c x):fL M [ob K.c,.int x]=.ok (.list ((vJ c x).map (pW c x))):=Yy a2 B.k.inv (by have:=B.k.cst;omega) x a
theorem Tz:Fb M [ob b,ob K.c,.list (ds.map aq.dat)]=.ok (.bool true):=by
 have s:=B.hb;have hk:=a2.hc;have N:=B.a.lf;have Y:=aaE B;have e2:=Tj B;have e3:=ain B a2;have e4:=vL M 9 _ (aaS ds);have e5:=ZP M c;have al:c.al.length<=50000:=by have:=B.k.inv.al;have:=B.k.len;omega
 have u:Fv (mD c) (.int 1)=.ok (.list ((List.range c.al.length).map (Hz c))):=rfl;obtain⟨m,hm,m1,m2,m3⟩:∃m:Int,xM (.int 3) (.int c.al.length)=.ok (.int m)/\m<=3/\m<=c.al.length/\0<=m:=by refine⟨_,rfl,?_,?_,?_⟩<;>split<;>omega
 have g:∀i:Int,0<=i->i<m->lQ M [ob b,.int (i+1)]=.ok (.list ((vJ c (i+1)).map (pW c (i+1))))/\fL M [ob K.c,.int (i+1)]=.ok (.list ((vJ c (i+1)).map (pW c (i+1))))/\cR 10 M [.list ((vJ c (i+1)).map (pW c (i+1))),.list ((vJ c (i+1)).map (pW c (i+1)))]=.ok (.bool true):=λi l o=>⟨Vy B _ ⟨#[],#[]⟩,aeY B a2 _ ⟨#[],#[]⟩,vL M 9 _ (alN c _)⟩;have O:∀d∈jF 0 m.toNat,∃i:Int,d=.int i/\0<=i/\i<m:=λd t=>by
  let⟨i,l,o,h3⟩:=mem_range t
  exact⟨i,l,o,#[]⟩
 let⟨p1,Q⟩:=aaX M [#[ob b],none] 1 (by simp) ds (by have:=B.k.len;omega) B.k.ok
 have p3:=λJ p:Option Cell=>(aaX M [#[ob b],#[ob K.c],#[.list (ds.map aq.dat)],J,p,none,none] 6 (by simp) ds (by have:=B.k.len;omega) B.k.ok).1;have p4:((ds.map (rN M)).map PyData.str).length<=50000:=by have:=B.k.len;simp;omega
 have R:ds.length<=50000:=by have:=B.k.len;omega
 have q0:=Py B 0 (λz=>absurd z.1 #[]);have q1:=Py B (c.al.length+1) (λz=>absurd z.2 #[]);have w2:ab9 (mD c)=some (Qy c):=by rw[ah0];exact aee (aiC c)
 have w3:(Qy c).length<=50000:=by simp[Qy]
 have hD:(ds.map aq.dat).length<=50000:=by simpa using R
 have pg:BX M [ob b]=.ok (.str (Txt.join "\n" (ds.map (rN M)))):=by
  generalize Txt.join "\n" (ds.map (rN M))=W at *
  generalize (ds.map (rN M)).map PyData.str=Z at *;simp[BX,Io,s,fD,p1,Q,R]
 generalize ds.map aq.dat=D at *;have A:=λp q r=>CG (f:=O4) (j:=3) (M:=M) (E:=λy=>[#[ob b],#[ob K.c],#[.list D],y,p,q,r]) (P:=λd=>∃i:Int,d=.int i/\0<=i/\i<m) (λd y ⟨i,e,l,o⟩=>⟨by simp,by
  subst e;let⟨r1,H,I⟩:=g i l o
  generalize (vJ c (i+1)).map (pW c (i+1))=G at *;simp[O4,s,fD,hk,aP,bB,r1,H,I]⟩) (jF 0 m.toNat)
 have F:=λp q r=>CG (f:=Ov) (j:=3) (M:=M) (E:=λy=>[#[ob b],#[ob K.c],#[.list D],y,p,q,r]) (P:=λd=>∃i:Int,d=.int i/\0<=i/\i<m) (λd y ⟨i,e,l,o⟩=>⟨by simp,by
  subst e;let⟨r1,H,I⟩:=g i l o
  generalize (vJ c (i+1)).map (pW c (i+1))=G at *;simp[Ov,s,fD,hk,aP,bB,r1,H,I,N]⟩) (jF 0 m.toNat)
 have C:=λJ q r=>CG (f:=Ow) (j:=4) (M:=M) (E:=λy=>[#[ob b],#[ob K.c],#[.list D],J,y,q,r]) (P:=λd=>tH M [ob b,d]=.ok (.bool true)) (λd y h=>⟨by simp,by simp[Ow,h]⟩) [.int 0,.int (c.al.length+1)];let⟨S,A⟩:=A none none none none O
 let⟨U,C⟩:=C S none none none (λd t=>by
  simp![avw,avL,or_false]at t;rcases t with rfl|rfl
  .exact q0
  .exact q1)
 let⟨y3,F⟩:=F U none none S O
 generalize Txt.join "\n" (ds.map (rN M))=W at *
 generalize (ds.map (rN M)).map PyData.str=Z at *;have lw:cR 10 M [.str W,.str W]=.ok (.bool true):=vL M 9 _ rfl;have lg:iQ (.list ((List.range c.al.length).map (Hz c)))=.ok (.int c.al.length):=by simp
 have hdf:∀X,Xa 7 [] [#[ob b],#[ob K.c],#[.list D],y3,U,none,none] X=true:=λ_=>rfl;have v:m<=100000:=#[];have x : -100000<=m:=#[];generalize (List.range c.al.length).map (Hz c)=GL at *;generalize mD c=LK at *;simp[Fb,Yd,s,fD,hk,aP,fj,bA,FJ,bB,Y,e2,e3,e4,e5,u,hm,lg,v,x,A,C,sWo,N,w2,w3,F,pg,p3,p4,Q,hD,lw]
end
theorem Bk.keep{M d:Mo}{b n:Nat}{L:Lay}{g:List aq}{c:aF}(B:Bk M b n L g c)(h:∀x i,M[x]?=some i->x=b\/x∈L.hs->d[x]?=some i)(f:jo d=true):Bk d b n { L with fr:=[] } g c:=
 ⟨B.a.keep (λx j=>by
  let⟨i,e⟩:=B.a.has x j
  rw[h x i e (.inr j),e]) f,h b _ B.hb (.inl rfl),B.nb,B.k⟩
theorem redo{n b:Nat}(j l:Option Cell):∀(a:List aq) {M:Mo} {L:Lay} {f:List aq} {c o:aF} (p:Option Cell),Bk M b n L f c->runC c a=some o->(∀d∈a,eV d=true/\ji d)->f.length+a.length<=196->costs f+costs a<=75->
  ∃g m u,fO (au 3) DG (a.map aq.dat) M [#[ob b],j,l,p]=.next [#[ob b],j,l,u] g/\Bk g b n m (f++a) o/\∀x i,M[x]?=some i->x≠b->x∉L.hs->g[x]?=some i/\x∉m.hs
 |[],M,L,f,c,o,p,B,h,_,_,_=>by
  cases h;exact⟨M,L,p,rfl,by rw[avV];exact B,λx i s t G=>⟨s,G⟩⟩
 |d::a,M,L,f,c,o,p,B,h,y,s,t=>by
  rw[avu]at s;have t:costs f+(cost d+costs a)<=75:=t;rcases Xr B d (y d avl) #[] #[] with⟨r,W,M1,R,q,C,A,D⟩|⟨x,q,_⟩
  .rw[runC,q]at h;let⟨g,m,u,E,v,F⟩:=redo j l a #[d.dat] A h (λe I=>y e (avk _ I)) (by simp;omega) (by rw[pA];show costs f+(cost d+0)+costs a<=75;omega)
   have H:=B.hb;refine⟨g,m,u,?_,by rw[List.append_assoc]at v;exact v,λx i O z Q=>?_⟩
   .rw[avj,eU (Z1:=[#[ob b],j,l,#[d.dat]]) (Z2:=[#[ob b],j,l,#[d.dat]]) (M2:=M1) (by simp) (by simp[DG,La,H,fD,C])];exact E
   .let⟨J,N⟩:=D x i O z Q
    exact F x i J z N
  .rw[runC,q]at h;cases h
def alf{M:Mo}{b n:Nat}{L:Lay}{a:List aq}{c:aF}(B:Bk M b n L a c)(k:Int)(hk:¬(0<=k/\k<=a.length)):pH M [ob b,.int k]=.ok (.tuple [.str "NoStand",.none]) M:=by
 have d:=B.hb;have:pX M [ob b,.int k]=.exc ⟨"NoStand",[]⟩ M:=by
  by_cases h:0<=k
  .have e:¬k<=a.length:=λz=>hk ⟨h,z⟩;simp[pX,wB,d,fD,h,e]
  .simp[pX,wB,d,fD,h]
 simp[pH,V2,d,fD,zB,this,vA,Gn,KZ,
  ]
def adQ{M:Mo}{b n:Nat}{L:Lay}{g:List aq}{c:aF}(B:Bk M b n L g c)(k:Int)(h0:0<=k)(h1:k<=g.length):∃f t l A,pH M [ob b,.int k]=.ok (.tuple [.str "",.none]) f/\Bk f b t l (g.take k.toNat) A/\∀x i,M[x]?=some i->x≠b->f[x]?=some i/\x∉l.hs:=by
 have C:=B.hb;have bl:=(avf.mp C).1;let⟨M1,y,O,e2,Q,E,s,v⟩:=Xp M B.a.lf
 let⟨A,K⟩:=B.k.take k.toNat
 have p:=(v b bl).trans C;obtain⟨j,rfl⟩:∃j:Nat,k=j:=⟨k.toNat,#[]⟩;have o:=(avf.mp p).1;have F:∀X Y:Inst,(M1.set b X++[Y])[b]?=some X:=λX Y=>by rw[avq (by rw[avC];exact o),avt o]
 have q:Rf.cutD (g.map aq.dat) none (some (j:Int))=(g.take j).map aq.dat:=by rw[SQ,List.map_take]
 have u:b∉y.hs:=λz=>by
  have:=s b z;omega
 have H:∀x∈y.hs,x<M1.length:=λx m=>by
  let⟨i,e⟩:=E.has x m
  exact(avf.mp e).1
 have J:∀X Y:Inst,uE X=true->uE Y=true->Bk ((M1.set b X++[Y]).set b ⟨"Book",[("commons",.dat (ob M.length)),("kept",.lst M1.length [])]⟩) b M1.length { y with fr:=[] } [] DR:=λX Y hX hY=>⟨E.keep (λx m=>by
   have I:b≠x:=λz=>u (z ▸ m);rw[avm I,avq (by rw[avC];exact H x m),avm I])
   (uZ (J9 (uZ E.lf hX) hY) (by simp[uE,Dg]))
  ,by
   rw[avt (by rw[avP,avC];omega)];show _=some (fD y.c M1.length []);rw[O]
   rfl,u,ae9⟩
 have hd:=λd (h:d∈g.take j)=>B.k.ok d (avY h);have hl:=K.len;have hc:=K.cst;have:∃f t l,pX M [ob b,.int j]=.ok .none f/\Bk f b t l (g.take j) A/\∀x i,M[x]?=some i->x≠b->f[x]?=some i/\x∉l.hs:=by
  have N:=J ⟨"Book",[("commons",.dat (ob M.length)),("kept",.lst n (g.map aq.dat))]⟩ ⟨"",[]⟩ (by simp[uE,Dg,jH yI]) (by simp[uE])
  let⟨f,l,y3,W,Z,g3⟩:=redo #[.int j] #[.list ((g.take j).map aq.dat)] (g.take j) none N K.run hd (by simpa using hl) (by simpa [costs] using hc)
  refine⟨f,_,l,?_,Z,λx i m G=>?_⟩
  .generalize (g.take j).map aq.dat=D at *;simp[pX,wB,C,fD,h0,h1,Q,p,jk,F,q,putL];rw[W]
  .have lx:=(avf.mp m).1;have r:=(v x lx).trans m;refine g3 x i ?_ G λz=>?_
   .rw[avm (Ne.symm G),avq (by rw[avC];exact(avf.mp r).1),avm (Ne.symm G)];exact r
   .have:=s x z;omega
 let⟨f,t,l,R,S,U⟩:=this
 exact⟨f,t,l,A,by simp[pH,V2,C,fD,zB,R],S,U⟩
structure Two(M:Mo)(b n:Nat)(L K:Lay)(ds:List aq)(c c2:aF):Prop where
 B:Bk M b n L ds c
 a:At M K c2
 dj:∀x∈K.hs,x∉L.hs
 nb:b∉K.hs
def Two.Vx{M:Mo}{b n:Nat}{L K:Lay}{p v:List aq}{c g:aF}(T:Two M b n L K p c g)(k:Kept v g)(d:aq)(hd:eV d=true/\ji d) :
  (∃r f m q e,bT g d=.ok r f/\e.c=K.c/\bO M [ob K.c,d.dat]=.ok r m/\Two m b n q e p c f)\/∃x,bT g d=.no x/\bO M [ob K.c,d.dat]=.exc x M:=by
 have hk:=k.cst;have hl:=k.len;rcases ajl T.a k.inv #[] #[] d hd.2 hd.1 with⟨r,f,M1,e,s,t,u,o,j⟩|h
 .refine .inl ⟨r,f,M1,{ L with fr:=[] },e,s,t,u,⟨T.B.keep (λx i l h=>?_) o.lf,o,λx l hL=>?_,(j b _ T.B.hb T.nb).2⟩⟩
  .rcases h with rfl|h
   .exact(j x i l T.nb).1
   .exact(j x i l λz=>T.dj x z h).1
  .let⟨i,y⟩:=T.B.a.has x hL
   exact(j x i y λz=>T.dj x z hL).2 l
 .exact .inr h
def Two.book{M:Mo}{b n:Nat}{L K:Lay}{g:List aq}{c p:aF}(T:Two M b n L K g c p)(d:aq)(hd:eV d=true/\ji d)(u:g.length<=195)(v:costs g+cost d<=75) :
  (∃r f o k m,bT c d=.ok r f/\m.c=K.c/\ni M [ob b,d.dat]=.ok r o/\Two o b n k m (g++[d]) f p)\/∃x,bT c d=.no x/\ni M [ob b,d.dat]=.exc x M:=by
 rcases Xr T.B d hd u v with⟨r,f,M1,k,s,t,l,q⟩|h
 .refine .inl ⟨r,f,M1,k,{ K with fr:=[] },s,rfl,t,l,T.a.keep (λx e=>?_) l.a.lf,λx e=>?_,T.nb⟩
  .let⟨i,j⟩:=T.a.has x e
   rw[(q x i j (λz=>T.nb (z ▸ e)) (T.dj x e)).1,j]
  .let⟨i,j⟩:=T.a.has x e
   exact(q x i j (λz=>T.nb (z ▸ e)) (T.dj x e)).2
 .exact .inr h
theorem VG{b n:Nat}{A:List aq}{c:aF}{i j:Nat}(o:i≠j):∀(g l:List aq) {M:Mo} {L K:Lay} {m s:aF} (f:Rf.Env),j<f.length->i<f.length->f[j]?=some #[ob K.c]->Two M b n L K A c m->Kept l m->runC m g=some s->(∀d∈g,eV d=true/\ji d)->l.length+g.length<=196->costs l+costs g<=75->
  ∃q u p y,p.c=K.c/\Two q b n u p A c s/\Uu i (cD cW (Wy j) #[zE i,]) (g.map aq.dat) M f=.next (f.set i y) q
 |[],l,M,L,K,m,s,f,F,z,G,T,k,h,_,_,_=>by
  cases h;exact⟨M,L,K,f[i],rfl,T,by rw[List.set_getElem_self];rfl⟩
 |d::g,l,M,L,K,m,s,f,F,z,G,T,k,h,v,Q,E=>by
  rw[avu]at Q;have E:costs l+(cost d+costs g)<=75:=E;rcases T.Vx k d (v d avl) with⟨r,X,M1,W,H,t,B,J,I⟩|⟨x,t,_⟩
  .rw[runC,t]at h;have U:=k.add d (v d avl) t #[] #[];have C:(f.set i #[d.dat])[j]?=some #[ob K.c]:=by rw[avm o];exact G
   let⟨q,u,p,y,g0,O,D⟩:=VG o g (l++[d]) (K:=H) (f.set i #[d.dat]) (by simpa using F) (by simpa using z) (by rw[B];exact C) I U h (λe R=>v e (avk _ R)) (by simp;omega) (by rw[pA];show costs l+(cost d+0)+costs g<=75;omega)
   have S:=T.a.hc;refine⟨q,u,p,y,g0.trans B,O,?_⟩;rw[List.set_set]at D;rw[avj,Uu];have N:(f.set i #[d.dat])[i]?=some #[d.dat]:=avt z;simp[C,N,S,aP,cW,J];exact D
  .rw[runC,t]at h;cases h
def aiM{b:List Bool}(h:0<b.length):yD (.list (b.map PyData.bool)) (.list [])=.ok (.bool false):=by
 have f:mW 11 (b.map PyData.bool)=true:=Av.mpr λd c=>by
  let⟨w,_,rfl⟩:=avr.mp c
  rfl
 have e:eqB (.list (b.map PyData.bool)) (.list [])=.ok false:=by
  show Out.when (okd 12 (.list (b.map PyData.bool))&&okd 12 (.list [])) (.ok (PyData.eqv (.list (b.map PyData.bool)) (.list [])))=_;rw[okd,okd,f,anb];cases b with
  |nil=>cases h
  |cons a r=>rw[avj,akg];rfl
 unfold yD;rw[e];rfl
theorem e00:yD (.list []) (.list [])=.ok (.bool true):=by rfl
def akY{M:Mo}{b n:Nat}{L K:Lay}{e:List aq}{c:aF}(T:Two M b n L K e c c)(d:aq)(v:eV d=true/\ji d)(H:e.length<=195)(I:costs e+cost d<=75)(J N Y:Option Cell) :
  ∃C O y i q Z,wO M [#[ob b],some (.mut (e.map aq.dat)),J,N,#[ob K.c],#[d.dat],Y]=.next [#[ob b],some (.mut (i.map aq.dat)),J,N,#[ob K.c],#[d.dat],Z] C/\y.c=K.c/\Two C b n O y i q q/\i.length<=e.length+1/\costs i<=costs e+cost d:=by
 have j:=vL M 9 _ (ahN c d);rcases T.Vx T.B.k d v with⟨r,q,M1,L1,K1,g,F,t,E⟩|⟨x,g,t⟩
 .have m:=acz T.a.hc ag1 t;rcases E.book d v H I with⟨X,Q,M2,L2,A,f,G,u,s⟩|⟨x,f,_⟩
  .rw[g]at f;cases f;have o:=acz E.B.hb Q9 u;have j:=vL M2 9 _ (ahN c d);rw[g,outF]at j;have p:=Tz s.B s.a;rw[G,F]at p;refine⟨M2,L2,A,e++[d],q,#[.tuple [.list [],r]],?_,G.trans F,s,by simp,by rw[pA];simp[costs]⟩;rw[avN,show[d].map aq.dat=[d.dat] from rfl]at p |-
   have R:(e.map aq.dat).length<100000:=by simp;omega
   generalize e.map aq.dat=D at *;generalize d.dat=z at *;simp[wO,m,o,j,R,e00,p]
  .rw[g]at f;cases f
 .have m:=ab2 T.a.hc ag1 g t;rcases T.book d v H I with⟨X,Q,M2,L2,A,f,_⟩|⟨x',f,u⟩
  .rw[g]at f;cases f
  .rw[g]at f;cases f;have o:=ab2 T.B.hb Q9 g u;rw[g]at j;have p:=Tz T.B T.a;let⟨l,S,U⟩:=kinds g
   have W:=aiM U;rw[outF,S]at m o j;have m:qR M [ob K.c,d.dat]=.ok (.tuple [.list (l.map PyData.bool),Cd x]) M:=m;have o:qR M [ob b,d.dat]=.ok (.tuple [.list (l.map PyData.bool),Cd x]) M:=o;have j:cR (9+1) M [.tuple [.list (l.map PyData.bool),Cd x],.tuple [.list (l.map PyData.bool),Cd x]]=.ok (.bool true):=j;refine⟨M,L,K,e,c,#[.tuple [.list (l.map PyData.bool),Cd x]],?_,rfl,T,#[],#[]⟩;generalize e.map aq.dat=D at *;generalize d.dat=z at *;generalize l.map PyData.bool=BS at *;simp[wO,m,o,j,p,W]
theorem aeu{b n:Nat}(j l:Option Cell):∀(g:List aq) {M:Mo} {L K:Lay} {f:List aq} {c:aF} (p i:Option Cell),Two M b n L K f c c->(∀d∈g,eV d=true/\ji d)->f.length+g.length<=196->costs f+costs g<=75->
  ∃m r q a o F s,fO (au 5) wO (g.map aq.dat) M [#[ob b],some (.mut (f.map aq.dat)),j,l,#[ob K.c],p,i]=.next [#[ob b],some (.mut (a.map aq.dat)),j,l,#[ob K.c],F,s] m/\Two m b n r q a o o/\a.length<=f.length+g.length/\costs a<=costs f+costs g
 |[],M,L,K,f,c,p,i,T,_,_,_=>⟨M,L,K,f,c,p,i,rfl,T,by simp,by simp[costs]⟩
 |d::g,M,L,K,f,c,p,i,T,u,C,D=>by
  rw[avu]at C |-
  have z:costs (d::g)=cost d+costs g:=rfl;rw[z]at D |-
  let⟨M1,J,I,y,O,s,A,B,v,Q,R⟩:=akY T d (u d avl) #[] #[] j l i
  let⟨m,r,q,a,o,G,H,t,x,S,U⟩:=aeu j l g #[d.dat] s v (λe E=>u e (avk _ E)) #[] #[]
  refine⟨m,r,q,a,o,G,H,?_,x,#[],#[]⟩;rw[avj,eU (Z1:=[#[ob b],some (.mut (f.map aq.dat)),j,l,#[ob K.c],#[d.dat],i]) (by simp) A];rw[B]at t;exact t
def Lw{M:Mo}{b n:Nat}{L:Lay}{e:List aq}{c:aF}(B:Bk M b n L e c){h:Nat}(hh:M[h]?=some (lin (e.map aq.dat)))(hb:h≠b)(k:Int)(h0:0<=k)(h1:k<=e.length)(f:List aq)(hd:∀d∈f,eV d=true/\ji d)(h2:e.length+f.length<=196)(h3:costs e+costs f<=75) :
  ∃I n' Q g X,m9 M [ob b,ob h,.int k,.list (f.map aq.dat)]=.ok (.list (g.map aq.dat)) I/\Bk I b n' Q g X/\g.length<=e.length+f.length/\costs g<=costs e+costs f:=by
 let⟨M1,C,H,N,Z,l,f1⟩:=adQ B k h0 h1
 obtain⟨j,rfl⟩:∃j:Nat,k=j:=⟨k.toNat,#[]⟩;have o:Rf.cutD (e.map aq.dat) none (some (j:Int))=(e.take j).map aq.dat:=by rw[SQ,List.map_take]
 have l:Bk M1 b C H (e.take j) N:=l;have tl:(e.take j).length<=e.length:=by rw[List.length_take];omega
 have tc:costs (e.take j)<=costs e:=by have:=congrArg costs (List.take_append_drop j e);rw[pA]at this;omega
 have E:=l.k.ok;have s:=l.k.run;generalize e.take j=ds1 at *;let⟨p,_⟩:=f1 h _ hh hb
 let⟨M2,K,k1,k2,k3,J,q,r⟩:=Xp M1 l.a.lf
 have v:=(r h (avf.mp p).1).trans p;have U:Two M2 b C { H with fr:=[] } K ds1 N DR:=⟨l.keep (λx i t _=>(r x (avf.mp t).1).trans t) J.lf,J,λx t hL=>by
  let⟨i,hi⟩:=l.a.has x hL
  have:=(avf.mp hi).1;have:=q x t
  omega,λz=>by
  have:=(avf.mp l.hb).1;have:=q b z
  omega⟩
 let⟨M3,L3,K3,y,g0,u,O⟩:=VG (i:=5) (j:=4) #[()] ds1 [] [#[ob b],none,#[.int j],#[.list (f.map aq.dat)],#[ob K.c],none,none] (by simp) (by simp) rfl U ae9 s E (by simp;omega) (by show 0+costs ds1<=75;omega)
 have G:=Tz u.B u.a;let⟨S,R,K4,m,Y,y5,y6,F,W,p2,p3⟩:=aeu #[.int j] #[.list (f.map aq.dat)] f y none u hd #[] #[]
 rw[g0]at F G;refine⟨S,C,R,m,Y,?_,W.B,#[],#[]⟩;have A:cR 10 M1 [.tuple [.str "",.none],.tuple [.str "",.none]]=.ok (.bool true):=vL M1 9 _ rfl
 generalize f.map aq.dat=ES at *;generalize e.map aq.dat=D at *;generalize ds1.map aq.dat=D1 at *;generalize m.map aq.dat=D4 at *;rw[k1]at O F G;simp[m9,N5,Z,A,k3,v,lin,o,O,G,F]
structure Bl(M:Mo)(n:Nat)(L:Lay)(h:Nat)(ds:List aq)(c:aF):Prop where
 B:Bk M 0 n L ds c
 hh:M[h]?=some (lin (ds.map aq.dat))
 h0:h≠0
 hl:h∉L.hs
def afQ(a:List aq):uE (lin (a.map aq.dat))=true:=by simp[uE,Dg,lin,jH yI]
theorem Bk.lin{M:Mo}{n:Nat}{L:Lay}{ds:List aq}{c:aF}(B:Bk M 0 n L ds c):Bl (M++[Rf.lin (ds.map aq.dat)]) n { L with fr:=[] } M.length ds c where
 B:=B.keep (λx i hx _=>by rw[avq (avf.mp hx).1];exact hx) (J9 B.a.lf (afQ ds))
 hh:=by rw[avv (avE _),Nat.sub_self];rfl
 h0:=λz=>by
  have:=(avf.mp B.hb).1;omega
 hl:=λz=>by
  let⟨i,hi⟩:=B.a.has _ z
  have:=(avf.mp hi).1;omega
def ah1(b:Nat)(p:b=0):∃M n L,wD [⟨"Book",[]⟩] [ob b]=.ok .none M/\Bk M b n L [] DR:=by
 let⟨M1,a,t,u,g,f,k,l⟩:=Xp [⟨"Book",[]⟩] (by simp[jo])
 have g:fu [⟨"Book",[]⟩,⟨"Commons",[]⟩] [ob 1]=.ok .none M1:=g
 have o:([⟨"Book",[]⟩]:Mo)[b]?=some ⟨"Book",[]⟩:=by rw[p];rfl
 have m:M1[b]?=some ⟨"Book",[]⟩:=(l b (by simp[p])).trans o
 have q:=(avf.mp m).1;have r:b∉a.hs:=λz=>by
  have:=k b z;simp at this;omega
 have j:∀x∈a.hs,x<M1.length:=λx d=>by
  let⟨i,e⟩:=f.has x d
  exact(avf.mp e).1
 have h:∀X Y:Inst,(M1.set b X++[Y])[b]?=some X:=λX Y=>by rw[avq (by rw[avC];exact q),avt q]
 refine⟨(M1.set b (⟨"Book",[("commons",.dat (ob 1))]⟩:Inst)++[(⟨"",[]⟩:Inst)]).set b (⟨"Book",[("commons",.dat (ob 1)),("kept",.lst M1.length [])]⟩:Inst),M1.length,{ a with fr:=[] },?_,f.keep (λx d=>?_)
  (uZ (J9 (uZ f.lf (by simp[uE,Dg])) (by simp[uE])) (by simp[uE,Dg]))
  ,?_,r,ae9⟩
 .simp[wD,Ja,jk,o,g,m,h,putL]
 .have s:b≠x:=λz=>r (z ▸ d);rw[avm s,avq (by rw[avC];exact j x d),avm s]
 .rw[avt (by rw[avP,avC];omega)];show _=some (fD a.c M1.length []);rw[t];rfl
def VD{M:Mo}{n:Nat}{L:Lay}{h:Nat}{b:List aq}{c:aF}(T:Bl M n L h b c)(d:aq)(u:eV d=true/\ji d)(s:b.length<=195)(t:costs b+cost d<=75) :
  (∃r M1 f g,qF M [ob 0,d.dat]=.ok (.tuple [.str "",r]) M1/\M1[h]?=some (lin (b.map aq.dat))/\Bl (M1.set h (lin (b.map aq.dat++[d.dat]))) n f h (b++[d]) g)\/qF M [ob 0,d.dat]=.ok (.tuple [.str "refused",.none]) M:=by
 rcases Xr T.B d u s t with⟨r,g,M1,f,m,j,l,q⟩|⟨x,m,j⟩
 .let⟨o,p⟩:=q h _ T.hh T.h0 T.hl
  refine .inl ⟨r,M1,{ f with fr:=[] },g,ah9 T.B.hb Q9 j,o,?_⟩;have e:b.map aq.dat++[d.dat]=(b++[d]).map aq.dat:=by rw[avN];rfl
  rw[e];refine⟨l.keep (λx i v k=>?_) (uZ l.a.lf (afQ _)),avt (avf.mp o).1,T.h0,p⟩;rw[avm λz=>?_]
  .exact v
  .rcases k with rfl|k
   .exact T.h0 z
   .exact p (z ▸ k)
 .exact .inr (ah2 T.B.hb Q9 m j)
def aaV(l:List aq)(lo a:Option Int):Rf.cutD (l.map aq.dat) lo a=(Rf.cutD l lo a).map aq.dat:=by unfold Rf.cutD;rw[avs,List.map_take,List.map_drop]
def cut_mem{l:List aq}{lo a:Option Int}{d:aq}(h:d∈Rf.cutD l lo a):d∈l:=List.mem_of_mem_drop (avY h)
def ao3(l:List aq)(lo a:Option Int):(Rf.cutD l lo a).length<=l.length:=by unfold Rf.cutD;rw[List.length_take,awd];omega
def Ua(l:List aq):costs l<=l.length:=by
 induction l with
 |nil=>simp[costs]
 |cons d l a=>
  have:costs (d::l)=cost d+costs l:=rfl;have:=akE d;rw[avu];omega
theorem OJ{n h:Nat}(j l m o p q s a b:Option Cell):∀(i:List aq) {M:Mo} {L:Lay} {g:List aq} {c:aF} (y:Option Cell),Bl M n L h g c->(∀d∈i,eV d=true/\ji d)->g.length+i.length<=195->costs g+costs i<=75->
  ∃t u f v x,fO (au 4) Ba (i.map aq.dat) M [j,#[ob 0],l,#[ob h],y,m,o,p,q,s,a,b]=.next [j,#[ob 0],l,#[ob h],x,m,o,p,q,s,a,b] t/\Bl t n u h f v/\f.length<=g.length+i.length/\costs f<=costs g+costs i
 |[],M,L,g,c,y,T,_,_,_=>⟨M,L,g,c,y,rfl,T,by simp,by simp[costs]⟩
 |d::i,M,L,g,c,y,T,B,N,O=>by
  rw[avu]at N |-
  have J:costs (d::i)=cost d+costs i:=rfl;rw[J]at O |-
  have H:(g.map aq.dat).length<100000:=by simp;omega
  rcases VD T d (B d avl) #[] #[] with⟨r,M1,Q,R,f1,E,I⟩|f1
  .let⟨t,u,f,v,x,A,z,F,G⟩:=OJ j l m o p q s a b i #[d.dat] I (λe C=>B e (avk _ C)) (by simp;omega) (by rw[pA];show costs g+(cost d+0)+costs i<=75;omega)
   refine⟨t,u,f,v,x,?_,z,by simp at F;omega,by rw[pA]at G;have:costs [d]=cost d:=rfl;omega⟩;have st:Ba M [j,#[ob 0],l,#[ob h],#[d.dat],m,o,p,q,s,a,b]=.next [j,#[ob 0],l,#[ob h],#[d.dat],m,o,p,q,s,a,b] (M1.set h (lin (g.map aq.dat++[d.dat]))):=by
    generalize g.map aq.dat=D at H E |-
    simp[Ba,f1,E,lin,H]
   rw[avj,eU (by simp) st];exact A
  .let⟨t,u,f,v,x,A,z,F,G⟩:=OJ j l m o p q s a b i #[d.dat] T (λe C=>B e (avk _ C)) #[] #[]
   refine⟨t,u,f,v,x,?_,z,#[],#[]⟩;have st:Ba M [j,#[ob 0],l,#[ob h],#[d.dat],m,o,p,q,s,a,b]=.next [j,#[ob 0],l,#[ob h],#[d.dat],m,o,p,q,s,a,b] M:=by simp[Ba,f1]
   rw[avj,eU (by simp) st];exact A
def Ds(i:Int):aq:=if i%2=0 then .owner else .ground (i%10)
theorem XR{n h:Nat}(f:Option Cell):∀(j:ListInt) {M:Mo} {L:Lay} {b:List aq} {c:aF} (u l:Option Cell),Bl M n L h b c->b.length+j.length<=195->
  ∃g m a o q s,fO (au 3) oV (j.map PyData.int) M [#[ob 0],#[ob h],f,u,l]=.next [#[ob 0],#[ob h],f,q,s] g/\Bl g n m h a o/\a.length<=b.length+j.length/\costs a<=costs b
 |[],M,L,b,c,u,l,T,_=>⟨M,L,b,c,u,l,rfl,T,by simp,avE _⟩
 |i::j,M,L,b,c,u,l,T,G=>by
  rw[avu]at G |-
  have E:(b.map aq.dat).length<100000:=by simp;omega
  have p:decide (CDiv i 2)=true:=decide_eq_true ⟨#[()],#[()]⟩;have d:decide (CDiv i 10)=true:=decide_eq_true ⟨#[()],#[()]⟩;have H:eV (Ds i)=true/\ji (Ds i):=by
   unfold Ds;split
   .exact⟨rfl,awr⟩
   .exact⟨by simp[eV,nB];omega,awr⟩
  have hc:cost (Ds i)=0:=by
   unfold Ds
   split<;>rfl
  have t:Fv (.tuple [.tuple [.str "owner"],.tuple [.str "ground",.int (i%10)]]) (.int (i%2))=.ok (Ds i).dat:=by
   unfold Ds;rcases(by omega:i%2=0\/i%2=1) with e|e
   .rw[e,awy rfl];rfl
   .rw[e,awz #[()]];rfl
  have hk:=T.B.k.cst;rcases VD T (Ds i) H #[] #[] with⟨r,M1,I,J,f1,y,F⟩|f1
  .let⟨g,m,a,o,q,s,x,v,A,C⟩:=XR f j #[.int i] (some (.dat (Ds i).dat)) F (by simp;omega)
   refine⟨g,m,a,o,q,s,?_,v,by simp at A;omega,by rw[pA]at C;have:costs [Ds i]=cost (Ds i):=rfl;omega⟩;have st:oV M [#[ob 0],#[ob h],f,#[.int i],l]=.next [#[ob 0],#[ob h],f,#[.int i],some (.dat (Ds i).dat)] (M1.set h (lin (b.map aq.dat++[(Ds i).dat]))):=by
    generalize b.map aq.dat=D at E y |-
    generalize (Ds i).dat=z at t f1 |-
    simp[oV,p,d,t,f1,y,lin,E]
   rw[avj,eU (by simp) st];exact x
  .let⟨g,m,a,o,q,s,x,v,A,C⟩:=XR f j #[.int i] (some (.dat (Ds i).dat)) T #[]
   refine⟨g,m,a,o,q,s,?_,v,#[],#[]⟩;have st:oV M [#[ob 0],#[ob h],f,#[.int i],l]=.next [#[ob 0],#[ob h],f,#[.int i],some (.dat (Ds i).dat)] M:=by
    generalize (Ds i).dat=z at t f1 |-
    simp[oV,p,d,t,f1]
   rw[avj,eU (by simp) st];exact x
def ab8{M:Mo}{n h:Nat}{L:Lay}{o:List aq}{c:aF}(T:Bl M n L h o c)(x:Int)(J:o.length<=74) :
  ∃m C r b s,tL M [ob 0,ob h,.int x]=.ok (.list (b.map aq.dat)) m/\Bk m 0 C r b s:=by
 have A:jF 0 120=((List.range 120).map λ(i:Nat)=>(i:Int)).map PyData.int:=by unfold jF;rw[avK];apply List.map_congr_left;intro i _;simp
 let⟨M1,E,a,F,N,O,p,j,u,G⟩:=XR #[.int x] ((List.range 120).map λ(i:Nat)=>(i:Int)) none none T (by simp;omega)
 rw[<-A]at p;simp at u;have hk:=T.B.k.cst;have f:decide (CDiv x 13)=true:=decide_eq_true ⟨#[()],#[()]⟩;have hdl:∀y:Int,decide (CDiv y (a.length+1))=true:=λy=>decide_eq_true ⟨#[],#[]⟩;let⟨M2,D,L2,e,t,l,q,H,I⟩:=Lw j.B j.hh j.h0 (x/13%(a.length+1)) (Int.emod_nonneg _ #[]) (by have:=Int.emod_lt_of_pos (x/13) (show(0:Int)<a.length+1 by omega);omega) [.owner] (λd v=>by rw[avp.mp v];exact⟨rfl,awr⟩) (by simp;omega) (by show costs a+0<=75;omega)
 have z:=j.hh;have l:m9 M1 [ob 0,ob h,.int (x/13%(a.length+1)),.list [.tuple [.str "owner"]]]=_:=l
 refine⟨M2,D,L2,e,t,?_,q⟩;have g:(a.map aq.dat).length=a.length:=by simp
 generalize a.map aq.dat=D1 at *;generalize e.map aq.dat=D2 at *;rw[<-g]at l hdl;simp[tL,Ik,p,z,lin,f,hdl,l]
theorem O6(j:Nat)(b:Rf.Env)(M:Mo)(a:List Dat):afa j b M (.list a)=if fZ a=true then .next (b.set j #[ob M.length]) (M++[lin a]) else .bad:=rfl
def aeJ{M:Mo}{n h:Nat}{L:Lay}{b:List aq}{c:aF}(T:Bl M n L h b c)(g:List aq)(O:∀d∈g,eV d=true/\ji d)(x t:Int)(R:t=0\/t=1)(h1:b.length<=194)(h2:costs b<=73)(A C D E F G q:Option Cell) :
  ∃u W H z i I r,Q7 M [A,#[ob 0],#[.list (g.map aq.dat)],#[ob h],C,D,#[.int x],E,F,G,#[.int t],q]=.next [A,#[ob 0],#[.list (g.map aq.dat)],#[ob z],C,D,#[.int x],E,F,G,#[.int t],r] u/\Bl u W H z i I/\i.length<=b.length+2/\costs i<=costs b+2:=by
 obtain⟨f,X,q2,Y⟩:∃f:List aq,Rf.cutD (g.map aq.dat) (some (t+3)) (some (t+5))=f.map aq.dat/\f.length<=2/\∀d∈f,eV d=true/\ji d:=by
  refine⟨_,aaV g _ _,?_,λd p=>O d (cut_mem p)⟩;rcases R with rfl|rfl
  .exact W8 g 3 5 #[()]
  .exact W8 g 4 6 #[()]
 have qc:=Ua f;have j:decide (CDiv x 11)=true:=decide_eq_true ⟨#[()],#[()]⟩;have o:decide (CDiv x 7)=true:=decide_eq_true ⟨#[()],#[()]⟩;have hdl:∀y:Int,decide (CDiv y (b.length+1))=true:=λy=>decide_eq_true ⟨#[],#[]⟩;let⟨M2,n2,L2,e,J,v,s,Z,g3⟩:=Lw T.B T.hh T.h0 ((x/11+t*(x/7+1))%(b.length+1)) (Int.emod_nonneg _ #[]) (by have:=Int.emod_lt_of_pos (x/11+t*(x/7+1)) (show(0:Int)<b.length+1 by omega);omega) f Y #[] #[]
 have p:∀y,decide (CMul t y)=true:=λy=>afD #[];have N:=T.B.a.lf;have m:=s.a.lf;have Q:=T.hh;have S:fZ (f.map aq.dat)=true:=jH yI f;have U:fZ (e.map aq.dat)=true:=jH yI e;refine⟨_,_,_,_,e,J,#[.int ((x/11+t*(x/7+1))%(b.length+1))],?_,s.lin,#[],#[]⟩;have l:(b.map aq.dat).length=b.length:=by simp
 generalize b.map aq.dat=D1 at *;generalize e.map aq.dat=D2 at *;generalize f.map aq.dat=FS at *;generalize g.map aq.dat=ES at *;rw[<-l]at v hdl |-
 simp[Q7,N,m,Q,lin,nQ,j,o,hdl,p,X,S,v,O6,U]
def aiD(l:ListInt):Iw (l.map PyData.int)=true:=by
 induction l with
 |nil=>rfl
 |cons x l a=>simp[Iw,Jp,a]
def afI(a:List aq):Jp (.list (a.map aq.dat))=true/\Ae (.list (a.map aq.dat)) (.list (a.map aq.dat))=.ok (.bool false):=by
 constructor
 .rw[Jp]
  induction a with
  |nil=>rfl
  |cons d a f=>
   have:Jp d.dat=true:=by cases d<;>simp[aq.dat,Jp,Iw,aiD]
   simp[Iw,this,f]
 .have b:okd 12 (.list (a.map aq.dat))=true:=by
   rw[okd];exact Av.mpr λz c=>by
    let⟨d,_,rfl⟩:=avr.mp c
    have:=λl=>Fj 9 l;cases d<;>simp[aq.dat,okd,mW,this]<;>decide
  have e:eqB (.list (a.map aq.dat)) (.list (a.map aq.dat))=.ok true:=by show Out.when (okd 12 _&&okd 12 _) (.ok (PyData.eqv _ _))=_;rw[b,ajg b];rfl
  unfold Ae;rw[e];rfl
def NZ(M:Mo)(w:Str):cR 10 M [.tuple [.str w,.none],.tuple [.str w,.none]]=.ok (.bool true):=vL M 9 _ rfl
def aby{M:Mo}{n h:Nat}{L:Lay}{f:List aq}{c:aF}(T:Bl M n L h f c):∃a d b,pH M [ob 0,.int 0]=.ok (.tuple [.str "",.none]) a/\a[0]?=some (fD b d [])/\pY a [ob 0]=.ok (mD DR):=by
 let⟨a,d,b,i,e,B,_⟩:=adQ T.B 0 #[] #[]
 have g:=B.k.run;cases g;exact⟨a,d,b.c,e,B.hb,Tj B⟩
def alg{M:Mo}{n h:Nat}{L:Lay}{q:List aq}{c:aF}(T:Bl M n L h q c)(b:List aq)(C:∀d∈b,eV d=true/\ji d)(hl:b.length<=34)(h1:q.length<=34)(h2:costs q<=34)(x k:Int)(W:0<=k)(X:k<=q.length)(r s t u v:Option Cell) :
  ∃A e M2 o F i g l D y f j m E z,Rf.cutD (b.map aq.dat) (some (-5)) none=A/\fZ A=true/\m9 M [ob 0,ob h,.int k,.list A]=.ok (.list e) M2/\jo M2=true/\fZ e=true/\
   fO (au 10) Q7 [.int 0,.int 1] (M2++[lin e]) [r,#[ob 0],#[.list (b.map aq.dat)],#[ob M2.length],s,t,#[.int x],#[.int k],u,v,none,none]=.next [r,#[ob 0],#[.list (b.map aq.dat)],#[ob o],s,t,#[.int x],#[.int k],u,v,F,i] g/\
   (∃xs,g[o]?=some (lin xs))/\jo g=true/\pH g [ob 0,.int 0]=.ok (.tuple [.str "",.none]) l/\l[0]?=some (fD y D [])/\pY l [ob 0]=.ok (mD DR)/\
   tL g [ob 0,ob o,.int x]=.ok (.list f) j/\jo j=true/\fZ f=true/\pH (j++[lin f]) [ob 0,.int 0]=.ok (.tuple [.str "",.none]) m/\m[0]?=some (fD z E [])/\pY m [ob 0]=.ok (mD DR):=by
 have q1:=ao3 b (some (-5)) none;have q2:=Ua (Rf.cutD b (some (-5)) none);let⟨M2,n2,L2,e,c2,S,H,g2,g3⟩:=Lw T.B T.hh T.h0 k W X (Rf.cutD b (some (-5)) none) (λd U=>C d (cut_mem U)) #[] #[]
 let⟨M3,n3,L3,h3,N,c3,i,Q,J,b3,p3⟩:=aeJ H.lin b C x 0 (.inl rfl) #[] #[] r s t #[.int k] u v none
 let⟨g,n4,L4,o,O,c4,G,R,p,b4,p4⟩:=aeJ J b C x 1 (.inr rfl) #[] #[] r s t #[.int k] u v i
 let⟨l,D,y,r1,Y,Z⟩:=aby p
 let⟨j,n5,L5,f,c5,s1,I⟩:=ab8 p x #[]
 let⟨m,E,z,t1,t2,t3⟩:=aby I.lin
 exact⟨_,_,M2,o,#[.int 1],G,g,l,D,y,_,j,m,E,z,aaV b _ _,jH yI _,S,H.a.lf,jH yI _,by
  rw[eU (by simp) Q,eU (by simp) R,aiX],⟨_,p.hh⟩,p.B.a.lf,r1,Y,Z,s1,I.a.lf,jH yI _,t1,t2,t3⟩
def aiL(l:ListInt)(h:l.length<=63):∃M,Ku [] [.list (l.map PyData.int)]=.ok (.bool true) M:=by
 let⟨W,n0,L0,e0,B0⟩:=ah1 0 rfl
 have hl:=W8 l 2 36 #[()];generalize hcl:Rf.cutD l (some ((2:Nat):Int)) (some ((36:Nat):Int))=cells at hl;have p:Rf.cutD (l.map PyData.int) (some 2) (some 36)=cells.map PyData.int:=by rw[aj9];exact congrArg _ hcl
 have n:CT W [lI l,.int 0]=_:=aed W l 0;let⟨U,z1,z2,Z⟩:=alu W cells #[] (if l.getD 0 0<0 then -(l.getD 0 0) else l.getD 0 0)
 have zc:=Ua U;have Bl0:=B0.lin;have t:=B0.a.lf;let⟨M1,L1,c,q,y4,X,S,f2,f3⟩:=OJ #[lI l] #[.list (U.map aq.dat)] none none none none none none none U none Bl0 z2 (by simp;omega) (by show 0+costs U<=75;omega)
 simp at f2 f3;have r:=S.B.hb;have C:=S.hh;have u:=S.B.a.lf;have O:=Tj S.B;have o:CT M1 [lI l,.int 1]=_:=aed M1 l 1;let⟨cy,v⟩:=amH M1 (l.getD 1 0)
 -- the grounds asked
 obtain⟨m,hm,m1,m2,m3⟩:∃m:Int,xM (.int 3) (.int q.al.length)=.ok (.int m)/\m<=3/\m<=q.al.length/\0<=m:=by refine⟨_,rfl,?_,?_,?_⟩<;>split<;>omega
 let⟨y5,l5⟩:=CG (f:=Yq) (j:=5) (M:=M1) (E:=λy=>[#[lI l],#[ob 0],#[.list (U.map aq.dat)],#[ob W.length],y4,y,none,none,none,none,none,none]) (P:=λd=>∃i:Int,d=.int i/\0<=i/\i<m) (λd y ⟨i,e,h1,h2⟩=>⟨by simp,by
  subst e;have g:=Vy S.B (i+1) ⟨#[],#[]⟩;generalize (vJ q (i+1)).map (pW q (i+1))=G at *;simp[Yq,r,fD,bB,g]⟩) (jF 0 m.toNat) none (λd hd=>by
  let⟨i,h1,h2,h3⟩:=mem_range hd
  exact⟨i,h1,h2,#[]⟩)
 have ll0:cR 10=cR 10:=rfl;have N:∀M,cR 10 M [mD DR,.tuple [.list [],.list [],.list [],.list []]]=.ok (.bool true):=λM=>ZP M DR;have d1:=aaE S.B;let⟨Q,R⟩:=afI c
 have lp:=vL [] 9 _ (aaS c);have hln:(c.map aq.dat).length=c.length:=by simp
 have bno:=λk hk=>alf S.B k hk;have bl:=NZ M1;have z:∀y,decide (CDiv y 5)=true:=λy=>decide_eq_true ⟨#[()],#[()]⟩;have A:∀y,decide (CDiv y 8)=true:=λy=>decide_eq_true ⟨#[()],#[()]⟩;have hdl:∀y:Int,decide (CDiv y (c.length+3))=true:=λy=>decide_eq_true ⟨#[],#[]⟩;have hc0:costs []=0:=rfl;have key:=λx k k0 k1 x8=>alg S U z2 #[] #[] #[] x k k0 k1 #[lI l] y4 y5 x8 x8;have D:iQ (.list ((List.range q.al.length).map (Hz q)))=.ok (.int q.al.length):=by simp
 have F:Fv (mD q) (.int 1)=.ok (.list ((List.range q.al.length).map (Hz q))):=rfl;have hh:(PyData.list (l.map PyData.int))=lI l:=rfl;rw[hh];generalize l.getD 1 0=x at *;generalize l.getD 0 0=v0 at *;generalize L:(if v0<0 then -v0 else v0)=hd0 at *;have Z:Ji W [.list (cells.map PyData.int),.int hd0]=_:=Z;have X:fO (au 4) Ba (U.map aq.dat) (W++[lin []]) _=_:=X;have r2:jF 0 2=[.int 0,.int 1]:=rfl;have H:m<=100000:=#[];have I : -100000<=m:=#[];obtain⟨k,s⟩:∃k:Int,x%5=1/\cy=k\/¬x%5=1/\x/5%(((c.map aq.dat).length:Nat)+3)-1=k:=by
  by_cases s:x%5=1
  .exact⟨_,.inl ⟨s,rfl⟩⟩
  .exact⟨_,.inr ⟨s,rfl⟩⟩
 obtain⟨Y,a0,a1,hk2⟩:∃Y:Int,0<=Y/\Y<=c.length/\((0<=k/\k<=((c.map aq.dat).length:Nat))/\k=Y\/(0<=k->¬k<=((c.map aq.dat).length:Nat))/\(((c.map aq.dat).length:Nat):Int)=Y/\pH M1 [ob 0,.int k]=.ok (.tuple [.str "NoStand",.none]) M1):=by
  rw[hln];by_cases hi:0<=k/\k<=c.length
  .exact⟨k,hi.1,hi.2,.inl ⟨hi,rfl⟩⟩
  .exact⟨_,#[],Int.le_refl _,.inr ⟨λa b=>hi ⟨a,b⟩,rfl,bno k hi⟩⟩
 let⟨fs,ds2,M2,h4,y10,y11,M4,M6,n6,L6,ds5,M5,M7,n7,L7,w1,w2,w3,w4,w5,w6,⟨w7,w8⟩,w9,v1,v2,v3,v4,v5,v6,v7,v8,v9⟩:=key x Y a0 a1 #[.list (c.map aq.dat)]
 have bl4:=NZ M6;have bl7:=NZ M7;rw[<-hln]at hdl;generalize c.map aq.dat=D1 at *;generalize U.map aq.dat=ES at *;generalize (List.range q.al.length).map (Hz q)=GL at *;generalize mD q=LK at *;have J:(0:Int)<D1.length+3:=#[];rcases s with⟨s,h6⟩|⟨s,h6⟩<;>rcases hk2 with⟨⟨i1,i2⟩,e2⟩|⟨hno,e2,e3⟩<;>subst e2<;>by_cases h8:x%8=3
 all_goals
  first
   |(refine⟨M7,?_⟩;simp[Ku,Qp,e0,n,p,L,Z,t,X,r,fD,bA,O,F,D,hm,H,I,l5,o,v,z,s,h6,hdl,J,C,lin,fj,d1,u,w1,w2,w3,w4,w5,O6,R,r2,w6,w8,A,nQ,w9,N,Q,lp,bl,h8,i1,i2,v4,v5,v6,v7,bl7,v8,v9];done)
   |(refine⟨M6,?_⟩;simp[Ku,Qp,e0,n,p,L,Z,t,X,r,fD,bA,O,F,D,hm,H,I,l5,o,v,z,s,h6,hdl,J,C,lin,fj,d1,u,w1,w2,w3,w4,w5,O6,R,r2,w6,w8,A,nQ,w9,N,Q,lp,bl,h8,i1,i2,v1,bl4,v2,v3];done)
   |(refine⟨M7,?_⟩;by_cases j1:0<=k<;>simp[Ku,Qp,e0,n,p,L,Z,t,X,r,fD,bA,O,F,D,hm,H,I,l5,o,v,z,s,h6,hdl,J,C,lin,fj,d1,u,w1,w2,w3,w4,w5,O6,R,r2,w6,w8,A,nQ,w9,N,Q,lp,bl,h8,j1,hno,e3,v4,v5,v6,v7,bl7,v8,v9];done)
   |(refine⟨M6,?_⟩;by_cases j1:0<=k<;>simp[Ku,Qp,e0,n,p,L,Z,t,X,r,fD,bA,O,F,D,hm,H,I,l5,o,v,z,s,h6,hdl,J,C,lin,fj,d1,u,w1,w2,w3,w4,w5,O6,R,r2,w6,w8,A,nQ,w9,N,Q,lp,bl,h8,j1,hno,e3,v1,bl4,v2,v3])
end Pr
open PySem PySem.W PySem.Calls PyProof.Rows
set_option maxHeartbeats 0 in
theorem PySem.Challenge.cw_earmarks_k59_whole_back_and_on_holds : PySem.Challenge.rw_earmarks_k59_whole_back_and_on.Holds := by
 w_on;o_law
 refine HandSHeadRun.head_any (r:=OpenLaw.row PySem.Challenge.rw_earmarks_k59_whole_back_and_on) (q:=view (OpenLaw.row PySem.Challenge.rw_earmarks_k59_whole_back_and_on).prog [98]) (H:=Pr.hkE) (ob:=Pr.obE) (M:=40000) (loose:=Pr.nm) (d:=HandSHeadRun.topDef (OpenLaw.row PySem.Challenge.rw_earmarks_k59_whole_back_and_on).prog 98) (kwd:=[]) Pr.aop #[_] (λs=>by kernel_rfl) Pr.run #[_] #[_] #[_] (by rfl) (by first | assumption | decide +kernel) #[[]] ⟨rfl,rfl,rfl,rfl,rfl,#[[]]⟩ ?hw ?hc
 case hw=>w_witness2
 case hc=>
  refine L2.walk_ofE (l:=PySem.Challenge.rw_earmarks_k59_whole_back_and_on) (n:=63) (k:=16) (x:="_law_script") (CX:=L2.CX0) rfl #[()] #[_] ⟨rfl,#[()],#[()]⟩ ?F (λ_ _ _ _ z=>z)
  intro w mg fa h Y G hmg0;let⟨K,KX,c⟩:=Y
  have hmg:mg ("law" : PySem.Str)=some (.ref fa):=by
   have e:(HandSHeadRun.topDef (OpenLaw.row PySem.Challenge.rw_earmarks_k59_whole_back_and_on).prog 98).name=("law" : PySem.Str):=#[_]
   rw[<-e];exact hmg0
  have T:Pr.Top w K mg:=⟨⟨h,KX,G⟩,c⟩;have e:=hmg.symm.trans (T.glo 115);cases e;let⟨fd,F⟩:=T.c.Vc 115
  have b:=L2.FunD.bindsA (ps:=["_law_script"]) F λ_ _ _ _ _ _ us hl=>match us,hl with|[_],_=>rfl
  exact⟨K,fd,λvs H Q _=>Rf.HJ K (Pr.aj w K) 1 Pr.Ku vs H Q λ_ _ _=>False,KX,λs v=>b s [v] rfl,λH a ns hl _ hS=>(Pr.aiL ns hl).elim λ_ z=>Rf.aqF rfl hS z,λbase _ _=>Rf.aeQ (Pr.aqa T F)⟩

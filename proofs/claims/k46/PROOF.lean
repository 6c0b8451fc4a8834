import PyProof.Rows.All
import HandS.ForMost
import HandS.Evl
import HandS.Walk
import HandS.Zip
import HandS.IsInst
import HandS.Style
import HandS.FStr
import HandS.StrSplit
import HandS.RaiseFrom
import HandS.SuiteRaise
import HandS.Strs
import HandS.TupAny
import HandS.Deep
import HandS.WordsExc
import KE.DataMinMax
import KE.DataFind
import KE.SortData
import HandS.SortKw
import HandS.TupSets
import HandS.SetBool
import HandS.DictComp
import HandS.Conv
import KE.KDictKeyed
import HandS.ExcField
import HandS.ExcInit
import HandS.HeadHook4
import HandS.HeadEnd
import HandS.Head2
import HandS.Flow
import KE.GoesEnumKw
import PySem.Challenge.RW_earmarks_k46_looks_tell_the_stand
set_option Elab.async false
set_option linter.all false
set_option maxRecDepth 100000
set_option maxHeartbeats 2000000
def awa:True:=trivial
abbrev awb:=@False.elim
abbrev awc:=@decide_eq_true_eq
abbrev awd:=@of_decide_eq_true
def auT:=@PySem.W.Frag
def auU:=@Bool.and_eq_true
def auV:=@List.getElem?_eq_getElem
def auW:=@Option.bind_eq_some_iff
def auX:=@List.mem_cons_self
def auY:=@List.mem_cons_of_mem
def auZ:=@List.getElem?_eq_some_iff
def au0:=@List.mem_singleton
def au1:=@List.getElem?_set_ne
def au2:=@List.mem_map
def au3:=@List.length_map
def au4:=@List.mem_of_getElem?
def au5:=@List.length_cons
def au6:=@List.length_filter_le
def au7:=@List.mem_cons
def au8:=@List.mem_append
def au9:=@List.getElem?_append_left
def ava:=@List.getElem?_map
def avb:=@Bool.not_eq_true'
def avc:=@List.getElem?_set_self
def avd:=@Nat.le_refl
def ave:=@Nat.le_trans
def avf:=@List.getElem?_append_right
def avh:=@List.map_map
def avi:=@Option.some.inj
def avj:=@List.mem_filter
def avk:=@Function.comp_def
def avl:=@List.all_eq_true
def avm:=@List.not_mem_nil
def avn:=@List.length_set
def avo:=@List.lookup_cons
def avp:=@List.ext_getElem?
def avq:=@Nat.ne_of_lt
def avr:=@Bool.false_eq_true
def avs:=@List.getElem?_eq_none
def avt:=@Array.length_toList
def avu:=@List.drop_eq_getElem_cons
def avv:=@Nat.zero_le
def avw:=@List.all_cons
def avx:=@Array.getElem?_toList
def avy:=@List.append_nil
def avz:=@List.length_append
def avA:=@List.mem_append_left
def avB:=@List.drop_length
def avC:=@List.mem_append_right
def avD:=@List.filter_cons
def avE:=@List.getElem_mem
def avF:=@List.mem_of_mem_take
def avG:=@List.getElem?_mapIdx
def avH:=@List.pairwise_mergeSort
def avI:=@List.nodup_append
def avJ:=@List.length_reverse
def avK:=@Nat.succ.inj
def avL:=@Option.map_eq_some_iff
def avM:=@List.getElem?_zip_eq_some
def avN:=@Bool.or_eq_true
def avO:=@List.nodup_cons
def avP:=@List.foldl_cons
def avQ:=@Nat.lt_succ_of_lt
def avR:=@List.getElem?_set
def avS:=@List.any_cons
def avT:=@List.drop_zero
def avU:=@List.map_nil
def avV:=@List.zip_cons_cons
def avW:=@Bool.eq_iff_iff
def avX:=@List.reverse_cons
def avY:=@List.any_map
def avZ:=@PySem.W.AllAlike.of
def av0:=@List.mergeSort_perm
def av1:=@List.eraseDups_cons
def av2:=@List.filter_eq_self
def av3:=@List.filter_filter
def av4:=@List.Pairwise.imp
def av5:=@List.size_toArray
def av6:=@List.nodup_nil
def av7:=@List.length_drop
def av8:=@Nat.add_sub_cancel'
def av9:=@Nat.add_left_cancel
abbrev LsS (α : Type) := List (PySem.Str × α)
open Lean in
local macro_rules
| `(#[[[]]]) => `($(mkIdent `X).blk $(mkIdent `s) $(mkIdent `H) $(mkIdent `scope) (PySem.compEnvC $(mkIdent `scope) $(mkIdent `cl) $(mkIdent `C) $(mkIdent `X).env) $(mkIdent `fp))
| `(#[]) => `(by omega)
| `(#[_]) => `(by kernel_rfl)
| `(#[()]) => `(by decide)
| `(#[[]]) => `(by decide +kernel)
| `(#[rfl]) => `(by with_unfolding_all rfl)
| `(#[$x]) => `(some (.dat $x))
open Lean in
local macro_rules
| `(tactic| obtain $p:rcasesPatMed) => `(tactic| obtain $p := auW.mp $(mkIdent `h))
open Lean in
local macro_rules
| `(tactic| left) => `(tactic| split at $(mkIdent `h):ident)
open Lean in
def patR : Nat → Term → MacroM (TSyntax `rcasesPat)
| 0, _ => Macro.throwUnsupported
| n+1, p => match p with
  | `(⟨$xs,*⟩) => do
    let ys ← xs.getElems.mapM (patR n)
    `(rcasesPat| ⟨$[$ys],*⟩)
  | `($x:ident) => `(rcasesPat| $x:ident)
  | `(_) => `(rcasesPat| _)
  | _ => Macro.throwUnsupported
open Lean in
local macro_rules
| `(tactic| let ⟨$xs,*⟩ := $e) => do
  let ys ← xs.getElems.mapM (patR 9)
  `(tactic| obtain ⟨$[$ys],*⟩ := $e)
local macro_rules
| `(tactic| simp! [$xs,*] $[$l]?) => `(tactic| simp only [$xs,*] $[$l]?)
namespace Rf
open PySem PySem.Spec PyProof.Rows L2 HandSHeadRun
def awe:=@wpAny_bind
def awf:=@wpAny_pure
def awg:=@if_pos
def awh:=@if_neg
def awi:=@upd_same
def awj:=@eq_of_beq
abbrev Dat:=PyData
abbrev Ft:=List (Str×List Str)
structure Rr(fa:List He.Fa)(fn:List He.DefD)(tb:List He.Tab)(ex:auT->Bool)(w:World)(K:auT):Prop where
 t:He.SaysT fa fn tb w K
 more:ex K=true
def aeF(as:List Addr)(fa:List He.Fa)(fn:List He.DefD)(tb:List He.Tab)(ex:auT->Bool)(g:Addr->Option Obj):He.AlX:=(He.obsT fa fn tb (He.frG g as),ex (He.frG g as))
def ae2(as:List Addr)(fa:List He.Fa)(fn:List He.DefD)(tb:List He.Tab)(ex:auT->Bool):PySem.W.Hook where
 α:=He.AlX
 obs:=λs=>aeF as fa fn tb ex s.heap.get?
 val:=λw=>He.valX fn tb w
 says:=λw h=>∃K:auT,K.In h/\Rr fa fn tb ex w K
 of:=λw s e=>⟨_,He.frG_in,⟨congrArg (λz:He.AlX=>z.1) e,congrArg (λz:He.AlX=>z.2) e⟩⟩
 keeps:=λ_ _ _ ⟨K,hK,c⟩ k=>⟨K,PySem.W.Frag.In.keeps hK k,c⟩
def ajX{as:List Addr}{fa:List He.Fa}{fn:List He.DefD}{tb:List He.Tab}{ex:auT->Bool}{g:Addr->Option Obj}{s:Shared}(h:∀a,g a=s.heap.get? a):aeF as fa fn tb ex g=(ae2 as fa fn tb ex).obs s:=by rw[show g=s.heap.get? from funext h];rfl
def QL(K:auT)(ft:Ft):Bool:=ft.all λp=>(He.Fa.cls p.1).ok K&&p.2.all λf=>(He.Fa.noat p.1 f).ok K
def xmB(K:auT)(xm:List (Str×LsS Bool)):Bool:=xm.all λp=>p.2.all λq=>(He.Fa.exm q.1 p.1 q.2).ok K
def ab3(K:auT)(a:Addr):Bool:=match K.lookup a with
 |some o=>(match o.cls with
  |.type c=>decide (c="tuple")
  |_=>false)&&o.dict.isNone
 |none=>false
def al8(K:auT)(C:Addr):Bool:=(match K.lookup C with
 |some ⟨.type t,_,.cls cd,sl⟩=>decide (t="type")&&(match cd.mro,sl.toList with
  |.ref C'::bm,[_,_,_,_,some (.builtin n),_]=>decide (C'=C)&&(decide (n="ValueError.__new__")&&(!cd.hasDel&&(cd.hasDict&&PySem.HandSPX.refsVE bm)))
  |_,_=>false)
 |_=>false)&&(He.eqO (PySem.W.findIn K (.ref C) "__setattr__") (some (some (.builtin "object.__setattr__")))&&(decide (PySem.W.subIn K (.ref C) (.type "BaseException")=some true)&&(decide (PySem.W.typeIn K (.ref C)=some (.type "type"))&&PySem.W.keepIn K (.ref C))))
def Xo(K:auT)(x:Str)(fs:List Str):Bool:=al8 K (He.ga K x)&&(He.eqO (PySem.W.findIn K (.ref (He.ga K x)) "__init__") (some (some (.ref (He.ma K (He.ga K x) "__init__"))))&&(decide (PySem.W.typeIn K (.ref (He.ma K (He.ga K x) "__init__"))=some (.type "function"))&&(xfB K (He.ga K x)&&fs.all λf=>He.eqO (PySem.W.findIn K (.ref (He.ga K x)) f) (some none))))
def aal(K:auT)(a:Addr)(xs:List Str):Bool:=match K.lookup a with
 |some ⟨.type c,_,.seq its _,_⟩=>decide (c="tuple")&&(decide (its.size<=sizeLine)&&He.relAll (xs.map V.str) its.toList)
 |_=>false
def aiE(K:auT)(x:Str)(kvs:List (Str×List Str)):Bool:=(match K.lookup (He.ga K x) with
 |some ⟨_,_,.dict es _,_⟩=>es.toList.all (λe=>(match e.key with
   |.str y _=>(kvs.map (·.1)).contains y
   |_=>false)&&!e.refKey)
 |_=>false)&&(decide ((kvs.map (·.1)).Nodup)&&kvs.all λq=>match PySem.W.nsIn K (He.ga K x) q.1 with
  |some (some (.ref a))=>aal K a q.2
  |_=>false)
section
open PySem.W PySem.Calls
noncomputable abbrev alH (r:PySem.W.OpenRow) (M:Nat) (w:World) (os:PySem.OsState):Option PySem.W.SharedT:=endF (stepQ (denQ tabQ) r.prog w) M r.prog w os
def aie(r:PySem.W.OpenRow)(q:Program)(as:List Addr)(ex:auT->Bool)(M:Nat)(loose:List Str)(w:World):Prop:=∀os,(alH r M w os).map (λs=>(looksF r.prog (boot_heap w.params) s.abs,HandSHeadRun.seenQ q loose (importedModules r.prog.main.body) (λs=>PySem.W.xlAt q [] s&&PySem.W.recOk r.toRowW.records s) s.abs,ex (He.frG (getT s) as)))=some (true,PySem.W.openGood q loose,true)
def ah8(r:PySem.W.OpenRow)(as:List Addr)(fa:List He.Fa)(fn:List He.DefD)(tb:List He.Tab)(M:Nat)(w:World):Prop:=∀os,(alH r M w os).map (λs=>He.obsT fa fn tb (He.frG (getT s) as))=some (He.valT fn tb w)
def Zj{r:PySem.W.OpenRow}{q:Program}{as:List Addr}{fa:List He.Fa}{fn:List He.DefD}{i:List He.Tab}{e:auT->Bool}{M:Nat}{b:List Str}{w:World}(a:aie r q as e M b w)(c:ah8 r as [] fn i M w)(z:ah8 r as fa [] [] M w):RunEq r q (ae2 as fa fn i e) (λs=>aeF as fa fn i e (getT s)) M b w:=λos=>by
 obtain⟨s,j,f⟩:=Option.map_eq_some_iff.mp (a os);obtain⟨f,g⟩:=Prod.mk.inj f;obtain⟨g,k⟩:=Prod.mk.inj g;have d:=c os;have l:=z os;have h:endF (stepQ (denQ tabQ) r.prog w) M r.prog w os=some s:=j;rw[j,Option.map_some]at d l;have l:=(He.ba (Prod.mk.inj (Prod.mk.inj (Option.some.inj l)).1).1).1
 have o:He.obsT fa fn i (He.frG (getT s) as)=He.valT fn i w:=by
  show ((fa.all (λf=>f.ok _)&&_,_),_)=_
  rw[l];exact Option.some.inj d
 rw[h,Option.map_some];exact congrArg some (Prod.ext f (Prod.ext g (Prod.ext o k)))
end
end Rf
namespace Pr
open PySem PySem.Spec PyProof.Rows L2 Evl Rf
def cO:Dat:=.int 9
def jM:Dat:=.int 1
def lZ:Dat:=.int 3
def iK:Dat:=.int 9
def jy:Dat:=.tuple [.str "lt",.str "lf",.str "lh",.str "rt",.str "rf",.str "rh"]
def jV:Dat:=.tuple [.int 0,.int 0,.int 0,.int 0,.int 0,.int 0]
def qj:Dat:=.int 999999999
def BP:List (Str×List Str):=[("owner",[]),("ground",["number"]),("enrol",["number","number","ear"]),("leave",["number","number"]),("bring",["number","number","ear"]),("bear",["number"]),("cut",["number"]),("tear",["number","place"]),("sell",["number","number"]),("move",["number","number"]),("die",["number"]),("unite",["number","number"]),("part",["number"]),("pass",["number","number"]),("heir",["number","number","number"])]
def lO:Ft:=[("Beast",["story","mother","owner","ground","due","ear","alive"]),("Herd",["beasts"]),("Grounds",["allowances","circles"]),("Rights",["held"]),("Commons",["owner_count","holders","grounds","rights","herd"])]
def oA:LsS Bool:=[("NoOwner",true),("NoGround",true),("NoRight",true),("HasRight",true),("NoneFree",true),("BadExtra",true),("BadAllowance",true),("Clash",true),("BadEar",true),("Bare",true),("StillThere",true),("NoBeast",true),("Dead",true),("Unmarked",true),("Deepest",true),("NoPlace",true),("SameOwner",true),("SameGround",true),("Together",true),("Alone",true),("BadDeed",true)]
def qP:LsS Bool:=[("NoOwner",false),("NoGround",true),("NoRight",false),("HasRight",false),("NoneFree",false),("BadExtra",false),("BadAllowance",false),("Clash",false),("BadEar",false),("Bare",false),("StillThere",false),("NoBeast",false),("Dead",false),("Unmarked",false),("Deepest",false),("NoPlace",false),("SameOwner",false),("SameGround",false),("Together",false),("Alone",false),("BadDeed",false)]
def Lq:LsS Bool:=[("NoOwner",true),("NoGround",false),("NoRight",false),("HasRight",false),("NoneFree",false),("BadExtra",false),("BadAllowance",false),("Clash",false),("BadEar",false),("Bare",false),("StillThere",false),("NoBeast",false),("Dead",false),("Unmarked",false),("Deepest",false),("NoPlace",false),("SameOwner",false),("SameGround",false),("Together",false),("Alone",false),("BadDeed",false)]
def xmH:List (Str×LsS Bool):=[("CommonError",oA),("NoGround",qP),("NoOwner",Lq)]
def dfH:LsS Bool:=[("held",true),("holders",false)]
def ZF:List (Str×List Str):=[("Clash",["ones","others","ear"])]
def aR(i:Nat):Stmt:=PySem.Challenge.pw_earmarks_k46_looks_tell_the_stand.main.body.getD i (.Pass ⟨0,0,0,0⟩)
abbrev Kh:Stmt:=inClass (aR 50) 0
abbrev Np:Stmt:=inClass (aR 55) 0
abbrev R5:Stmt:=inClass (aR 35) 0
abbrev JD:Stmt:=inClass (aR 66) 0
abbrev ago:Stmt:=aR 86
abbrev s_row:Stmt:=aR 68
abbrev aaG:Stmt:=aR 70
abbrev ai8:Stmt:=aR 74
abbrev SJ:Stmt:=aR 87
abbrev YC:Stmt:=aR 88
abbrev yX:Stmt:=inClass (aR 66) 33
abbrev JW:Stmt:=inClass (aR 50) 3
abbrev Nk:Stmt:=inClass (aR 50) 2
abbrev JR:Stmt:=inClass (aR 50) 4
abbrev JB:Stmt:=inClass (aR 55) 3
abbrev CW:Stmt:=inClass (aR 55) 4
abbrev zY:Stmt:=inClass (aR 66) 34
abbrev Ah:Stmt:=inClass (aR 66) 1
abbrev Df:Stmt:=inClass (aR 55) 2
abbrev agM:Stmt:=aR 47
abbrev adq:Stmt:=aR 44
abbrev R9:Stmt:=aR 52
abbrev adS:Stmt:=aR 45
abbrev af4:Stmt:=aR 46
abbrev O6:Stmt:=aR 53
abbrev zV:Stmt:=inClass (aR 66) 35
abbrev Dh:Stmt:=inClass (aR 50) 6
abbrev CG:Stmt:=inClass (aR 66) 19
abbrev aaE:Stmt:=aR 57
abbrev Ef:Stmt:=inClass (aR 35) 5
abbrev Ko:Stmt:=inClass (aR 35) 6
abbrev Ak:Stmt:=inClass (aR 55) 7
abbrev xP:Stmt:=inClass (aR 66) 22
abbrev Cz:Stmt:=inClass (aR 66) 21
abbrev Ao:Stmt:=inClass (aR 50) 5
abbrev KC:Stmt:=inClass (aR 50) 7
abbrev Kv:Stmt:=inClass (aR 66) 18
abbrev Dj:Stmt:=inClass (aR 66) 15
abbrev zF:Stmt:=inClass (aR 50) 1
abbrev Ac:Stmt:=inClass (aR 66) 2
abbrev Zf:Stmt:=aR 58
abbrev aei:Stmt:=aR 43
abbrev Vy:Stmt:=aR 59
abbrev zM:Stmt:=inClass (aR 66) 36
abbrev abN:Stmt:=aR 28
abbrev V4:Stmt:=aR 65
abbrev Hu:Stmt:=inClass (aR 66) 3
abbrev Nq:Stmt:=inClass (aR 55) 5
abbrev Im:Stmt:=inClass (aR 66) 4
abbrev Gm:Stmt:=inClass (aR 34) 1
abbrev acY:Stmt:=aR 30
abbrev Pu:Stmt:=inClass (aR 34) 0
abbrev GJ:Stmt:=inClass (aR 35) 1
abbrev HY:Stmt:=inClass (aR 66) 5
abbrev Qx:Stmt:=inClass (aR 35) 2
abbrev Nb:Stmt:=inClass (aR 35) 3
abbrev Nm:Stmt:=inClass (aR 35) 4
abbrev Ku:Stmt:=inClass (aR 66) 6
abbrev U4:Stmt:=aR 32
abbrev Yx:Stmt:=aR 31
abbrev Nf:Stmt:=inClass (aR 34) 2
abbrev Kg:Stmt:=inClass (aR 34) 3
abbrev NQ:Stmt:=inClass (aR 66) 7
abbrev JV:Stmt:=inClass (aR 66) 8
abbrev NP:Stmt:=inClass (aR 35) 8
abbrev Dc:Stmt:=inClass (aR 35) 9
abbrev JM:Stmt:=inClass (aR 66) 9
abbrev Kz:Stmt:=inClass (aR 66) 10
abbrev Nu:Stmt:=inClass (aR 66) 11
abbrev Wn:Stmt:=aR 60
abbrev CP:Stmt:=inClass (aR 66) 24
abbrev Ec:Stmt:=inClass (aR 50) 10
abbrev Hg:Stmt:=inClass (aR 50) 8
abbrev Hr:Stmt:=inClass (aR 66) 12
abbrev Ky:Stmt:=inClass (aR 50) 9
abbrev Jx:Stmt:=inClass (aR 66) 13
abbrev Di:Stmt:=inClass (aR 55) 6
abbrev Ql:Stmt:=inClass (aR 35) 7
abbrev DR:Stmt:=inClass (aR 66) 14
abbrev Sv:Stmt:=aR 40
abbrev ahp:Stmt:=aR 39
abbrev Pg:Stmt:=inClass (aR 66) 16
abbrev aft:Stmt:=aR 85
abbrev afH:Stmt:=aR 69
abbrev YL:Stmt:=aR 71
abbrev ajF:Stmt:=aR 72
abbrev agC:Stmt:=aR 73
abbrev afD:Stmt:=aR 89
abbrev Qo:Stmt:=inClass (aR 34) 4
abbrev Gx:Stmt:=inClass (aR 66) 17
abbrev DY:Stmt:=inClass (aR 55) 1
abbrev Kr:Stmt:=inClass (aR 66) 32
abbrev KD:Stmt:=inClass (aR 66) 23
abbrev Ow:Stmt:=inClass (aR 35) 10
abbrev Hl:Stmt:=inClass (aR 66) 31
abbrev ab2:Stmt:=aR 42
abbrev Sh:Stmt:=aR 61
abbrev Gf:Stmt:=inClass (aR 66) 26
abbrev HX:Stmt:=inClass (aR 66) 20
abbrev Gg:Stmt:=inClass (aR 66) 29
abbrev Eb:Stmt:=inClass (aR 66) 30
abbrev aha:Stmt:=aR 95
abbrev ac3:Stmt:=aR 96
abbrev adg:Stmt:=aR 78
abbrev VP:Stmt:=aR 79
abbrev ahw:Stmt:=aR 97
abbrev acZ:Stmt:=aR 75
abbrev JL:Stmt:=aR 80
abbrev ajd:Stmt:=aR 76
abbrev ajr:Stmt:=aR 77
abbrev afx:Stmt:=aR 81
abbrev Yz:Stmt:=aR 82
abbrev Wh:Stmt:=aR 83
abbrev YX:Stmt:=aR 84
abbrev afR:Stmt:=aR 92
abbrev aeu:Stmt:=aR 93
abbrev ael:Stmt:=aR 94
abbrev adI:Stmt:=aR 90
abbrev YS:Stmt:=aR 91
abbrev Rp:Stmt:=aR 98
abbrev Qw:Stmt:=inClass (aR 23) 0
abbrev dM(c m q:Str)(s:Stmt):He.DefD:=⟨(c,some m),m,q,defArgs s,defBody s,defScope s,[],[]⟩
abbrev dF(x:Str)(s:Stmt):He.DefD:=⟨(x,none),x,x,defArgs s,defBody s,defScope s,[],[]⟩
def xsH:List Str:=["Grounds","Rights","Herd","Commons","NoOwner","NoGround","NoRight","HasRight","NoneFree","BadExtra","BadAllowance","Clash","BadEar","Bare","StillThere","Beast","NoBeast","Dead","Unmarked","Deepest","NoPlace","SameOwner","SameGround","Together","Alone","BadDeed","CommonError"]
def tbs:List He.Tab:=[(λK=>He.ga K "SHAPES",["owner","ground","enrol","leave","bring","bear","cut","tear","sell","move","die","unite","part","pass","heir"])]
def nm0:List PySem.Str:=["_wall","CommonError","BadEar","Bare","BadAllowance","BadExtra","NoPlace","Deepest","NoOwner","NoGround","NoBeast","NoRight"]
def nm1:List PySem.Str:=["HasRight","StillThere","Dead","Unmarked","SameOwner","SameGround","Together","Alone","NoneFree","BadDeed","Clash","PLACES"]
def nm2:List PySem.Str:=["GREATEST_DEPTH","BARE_EAR","is_ear","begun","gone_on","deepened","Beast","Herd","SHAPES","GREATEST_PART","fits","part_fits"]
def nm3:List PySem.Str:=["deeper","joint","lacks","apart","meet","torn","GREATEST_ALLOWANCE","Grounds","offspring","first_free","Rights","tidied"]
def nm4:List PySem.Str:=["barring","ask_room","clashing","owners_of","FEWEST_EXTRA","MOST_EXTRA","need_ear","Commons","_law_row","_law_near","_law_ear_by","_law_mark_by"]
def nm5:List PySem.Str:=["_law_ref","_law_deed","_law_ear","_law_asked","_law_cut","_law_raw","_law_whole","_law_like","_law_ground_there","_law_once","_law_rows_of","_law_marks_of"]
def nm6:List PySem.Str:=["_law_room_of","_law_done","_law_cell","_law_begun","_law_word_by","_law_play","_law_named","_law_done_so","_law_told","_law_right","_law_turns","_law_list"]
def nm7:List PySem.Str:=["_law_lists","_law_stay"]
def nm:List PySem.Str:=nm0++nm1++nm2++nm3++nm4++nm5++nm6++nm7
def fa0:List He.Fa:=[.mkr "Grounds",.mkr "Rights",.mkr "Herd",.mkr "Commons",.glo "_law_cell",.glo "_law_row",.glo "_law_ear_by",.glo "_law_ear",.glo "_law_begun",.glo "_law_word_by",.meth "Commons" "need_owner",.meth "Grounds" "many"]
def fa1:List He.Fa:=[.meth "Grounds" "has",.meth "Grounds" "need",.meth "Rights" "marks",.meth "Rights" "has_right",.meth "Commons" "need_right",.meth "Commons" "new_owner",.meth "Rights" "add_right",.glo "torn",.glo "lacks",.glo "offspring",.glo "apart",.glo "meet"]
def fa2:List He.Fa:=[.glo "first_free",.meth "Commons" "first_mark",.meth "Grounds" "together",.meth "Commons" "together",.glo "tidied",.meth "Herd" "all_living",.meth "Herd" "grazing",.meth "Rights" "in_grounds",.meth "Commons" "standing_but",.meth "Commons" "standing",.meth "Grounds" "allowance",.meth "Grounds" "room"]
def fa3:List He.Fa:=[.meth "Commons" "room",.meth "Commons" "new_heir",.meth "Grounds" "add_ground",.meth "Commons" "new_ground",.glo "barring",.glo "joint",.glo "ask_room",.meth "Commons" "ask_ground",.glo "is_ear",.glo "need_ear",.meth "Commons" "enrol",.meth "Rights" "drop"]
def fa4:List He.Fa:=[.meth "Commons" "leave",.meth "Beast" "stand_so",.glo "begun",.mkr "Beast",.meth "Herd" "add_beast",.meth "Commons" "bring",.meth "Herd" "known",.meth "Herd" "living",.meth "Herd" "marked",.meth "Commons" "bear",.glo "deepened",.glo "gone_on"]
def fa5:List He.Fa:=[.meth "Beast" "stand",.meth "Beast" "befall",.meth "Commons" "cut",.meth "Commons" "tear",.meth "Herd" "calves",.meth "Herd" "lead_calves",.meth "Commons" "sell",.meth "Commons" "move",.meth "Commons" "die",.glo "clashing",.meth "Commons" "quarrels",.meth "Grounds" "enclose"]
def fa6:List He.Fa:=[.meth "Grounds" "unite",.meth "Commons" "unite",.meth "Grounds" "part",.meth "Commons" "part",.meth "Rights" "hand_over",.meth "Herd" "owned",.meth "Commons" "pass_on",.glo "part_fits",.glo "fits",.meth "Commons" "do",.glo "_law_done",.glo "_law_near"]
def fa7:List He.Fa:=[.glo "_law_mark_by",.glo "_law_ref",.glo "_law_deed",.glo "_law_play",.meth "Beast" "told",.meth "Commons" "owners",.meth "Rights" "all_rows",.meth "Commons" "look",.meth "Commons" "bars",.meth "Herd" "tally",.meth "Commons" "tally",.glo "deeper"]
def fa8:List He.Fa:=[.glo "owners_of",.meth "Commons" "gather",.meth "Commons" "marks",.meth "Commons" "calves",.meth "Commons" "history",.glo "_law_list",.glo "_law_lists",.glo "_law_whole",.glo "_law_like",.glo "_law_stay",.glo "_law_asked",.glo "_law_ground_there"]
def fa9:List He.Fa:=[.glo "_law_cut",.glo "_law_raw",.glo "_law_once",.glo "_law_rows_of",.glo "_law_marks_of",.glo "_law_room_of",.glo "_law_told",.glo "_law_right",.glo "_law_turns",.glo "_law_named",.glo "_law_done_so",.glo "law"]
def ap7:List He.Fa:=[.glo "Grounds",.glo "Rights",.glo "Herd",.glo "Commons",.glo "NoOwner",.exc "NoOwner",.glo "NoGround",.exc "NoGround",.glo "NoRight",.exc "NoRight",.glo "HasRight",.exc "HasRight"]
def aqH:List He.Fa:=[.glo "NoneFree",.exc "NoneFree",.glo "BadExtra",.exc "BadExtra",.glo "BadAllowance",.exc "BadAllowance",.glo "Clash",.glo "BadEar",.exc "BadEar",.glo "Bare",.exc "Bare",.glo "StillThere"]
def aqG:List He.Fa:=[.exc "StillThere",.glo "Beast",.glo "NoBeast",.exc "NoBeast",.glo "Dead",.exc "Dead",.glo "Unmarked",.exc "Unmarked",.glo "Deepest",.exc "Deepest",.glo "NoPlace",.exc "NoPlace"]
def aqg:List He.Fa:=[.glo "SameOwner",.exc "SameOwner",.glo "SameGround",.exc "SameGround",.glo "Together",.exc "Together",.glo "Alone",.exc "Alone",.glo "BadDeed",.exc "BadDeed",.glo "CommonError",.exc "CommonError"]
def ap6:List He.Fa:=[.glo "SHAPES",.int "GREATEST_DEPTH" 9,.int "FEWEST_EXTRA" 1,.int "MOST_EXTRA" 3,.int "GREATEST_ALLOWANCE" 9,.glo "PLACES",.glo "BARE_EAR",.int "GREATEST_PART" 999999999,.free "len",.free "range",.free "abs",.free "tuple"]
def aqL:List He.Fa:=[.free "max",.free "min",.free "sum",.free "zip",.free "any",.free "list",.free "sorted",.free "set",.free "enumerate",.free "all",.free "isinstance",.free "int"]
def aqU:List He.Fa:=[.free "bool",.free "str"]
def fa:List He.Fa:=fa0++fa1++fa2++fa3++fa4++fa5++fa6++fa7++fa8++fa9++ap7++aqH++aqG++aqg++ap6++aqL++aqU
def fn0:List He.DefD:=[dM "Grounds" "__init__" "Grounds.__init__" Kh,dM "Rights" "__init__" "Rights.__init__" Np,dM "Herd" "__init__" "Herd.__init__" R5,dM "Commons" "__init__" "Commons.__init__" JD,dF "_law_cell" ago,dF "_law_row" s_row,dF "_law_ear_by" aaG,dF "_law_ear" ai8,dF "_law_begun" SJ,dF "_law_word_by" YC,dM "Commons" "need_owner" "Commons.need_owner" yX,dM "Grounds" "many" "Grounds.many" JW]
def fn1:List He.DefD:=[dM "Grounds" "has" "Grounds.has" Nk,dM "Grounds" "need" "Grounds.need" JR,dM "Rights" "marks" "Rights.marks" JB,dM "Rights" "has_right" "Rights.has_right" CW,dM "Commons" "need_right" "Commons.need_right" zY,dM "Commons" "new_owner" "Commons.new_owner" Ah,dM "Rights" "add_right" "Rights.add_right" Df,dF "torn" agM,dF "lacks" adq,dF "offspring" R9,dF "apart" adS,dF "meet" af4]
def fn2:List He.DefD:=[dF "first_free" O6,dM "Commons" "first_mark" "Commons.first_mark" zV,dM "Grounds" "together" "Grounds.together" Dh,dM "Commons" "together" "Commons.together" CG,dF "tidied" aaE,dM "Herd" "all_living" "Herd.all_living" Ef,dM "Herd" "grazing" "Herd.grazing" Ko,dM "Rights" "in_grounds" "Rights.in_grounds" Ak,dM "Commons" "standing_but" "Commons.standing_but" xP,dM "Commons" "standing" "Commons.standing" Cz,dM "Grounds" "allowance" "Grounds.allowance" Ao,dM "Grounds" "room" "Grounds.room" KC]
def fn3:List He.DefD:=[dM "Commons" "room" "Commons.room" Kv,dM "Commons" "new_heir" "Commons.new_heir" Dj,dM "Grounds" "add_ground" "Grounds.add_ground" zF,dM "Commons" "new_ground" "Commons.new_ground" Ac,dF "barring" Zf,dF "joint" aei,dF "ask_room" Vy,dM "Commons" "ask_ground" "Commons.ask_ground" zM,dF "is_ear" abN,dF "need_ear" V4,dM "Commons" "enrol" "Commons.enrol" Hu,dM "Rights" "drop" "Rights.drop" Nq]
def fn4:List He.DefD:=[dM "Commons" "leave" "Commons.leave" Im,dM "Beast" "stand_so" "Beast.stand_so" Gm,dF "begun" acY,dM "Beast" "__init__" "Beast.__init__" Pu,dM "Herd" "add_beast" "Herd.add_beast" GJ,dM "Commons" "bring" "Commons.bring" HY,dM "Herd" "known" "Herd.known" Qx,dM "Herd" "living" "Herd.living" Nb,dM "Herd" "marked" "Herd.marked" Nm,dM "Commons" "bear" "Commons.bear" Ku,dF "deepened" U4,dF "gone_on" Yx]
def fn5:List He.DefD:=[dM "Beast" "stand" "Beast.stand" Nf,dM "Beast" "befall" "Beast.befall" Kg,dM "Commons" "cut" "Commons.cut" NQ,dM "Commons" "tear" "Commons.tear" JV,dM "Herd" "calves" "Herd.calves" NP,dM "Herd" "lead_calves" "Herd.lead_calves" Dc,dM "Commons" "sell" "Commons.sell" JM,dM "Commons" "move" "Commons.move" Kz,dM "Commons" "die" "Commons.die" Nu,dF "clashing" Wn,dM "Commons" "quarrels" "Commons.quarrels" CP,dM "Grounds" "enclose" "Grounds.enclose" Ec]
def fn6:List He.DefD:=[dM "Grounds" "unite" "Grounds.unite" Hg,dM "Commons" "unite" "Commons.unite" Hr,dM "Grounds" "part" "Grounds.part" Ky,dM "Commons" "part" "Commons.part" Jx,dM "Rights" "hand_over" "Rights.hand_over" Di,dM "Herd" "owned" "Herd.owned" Ql,dM "Commons" "pass_on" "Commons.pass_on" DR,dF "part_fits" Sv,dF "fits" ahp,dM "Commons" "do" "Commons.do" Pg,dF "_law_done" aft,dF "_law_near" afH]
def fn7:List He.DefD:=[dF "_law_mark_by" YL,dF "_law_ref" ajF,dF "_law_deed" agC,dF "_law_play" afD,dM "Beast" "told" "Beast.told" Qo,dM "Commons" "owners" "Commons.owners" Gx,dM "Rights" "all_rows" "Rights.all_rows" DY,dM "Commons" "look" "Commons.look" Kr,dM "Commons" "bars" "Commons.bars" KD,dM "Herd" "tally" "Herd.tally" Ow,dM "Commons" "tally" "Commons.tally" Hl,dF "deeper" ab2]
def fn8:List He.DefD:=[dF "owners_of" Sh,dM "Commons" "gather" "Commons.gather" Gf,dM "Commons" "marks" "Commons.marks" HX,dM "Commons" "calves" "Commons.calves" Gg,dM "Commons" "history" "Commons.history" Eb,dF "_law_list" aha,dF "_law_lists" ac3,dF "_law_whole" adg,dF "_law_like" VP,dF "_law_stay" ahw,dF "_law_asked" acZ,dF "_law_ground_there" JL]
def fn9:List He.DefD:=[dF "_law_cut" ajd,dF "_law_raw" ajr,dF "_law_once" afx,dF "_law_rows_of" Yz,dF "_law_marks_of" Wh,dF "_law_room_of" YX,dF "_law_told" afR,dF "_law_right" aeu,dF "_law_turns" ael,dF "_law_named" adI,dF "_law_done_so" YS,dF "law" Rp]
def aqZ:List He.DefD:=[dM "Clash" "__init__" "Clash.__init__" Qw]
def fn:List He.DefD:=fn0++fn1++fn2++fn3++fn4++fn5++fn6++fn7++fn8++fn9++aqZ
def exB(K:auT):Bool:=true&&QL K lO&&xmB K xmH&&(ZF.all λp=>xsH.contains p.1&&Xo K p.1 p.2)&&aiE K "SHAPES" BP&&He.tupB K "PLACES" [.str "lt",.str "lf",.str "lh",.str "rt",.str "rf",.str "rh"]&&ab3 K (He.ga K "PLACES")&&He.tupB K "BARE_EAR" [.int 0,.int 0,.int 0,.int 0,.int 0,.int 0]&&ab3 K (He.ga K "BARE_EAR")
def ad0:List Addr:=[3,31,44,56,68,80,92,104,116,128,140,152,164,176,188,200,212,224,236,248,260,272,291,294]
def ad1:List Addr:=[295,300,307,314,319,364,445,450,470,477,482,487,492,499,506,511,594,603,608,668,679,684,691,696]
def ad2:List Addr:=[701,708,965,976,983,988,995,1002,1009,1016,1023,1030,1037,1044,1051,1058,1065,1070,1075,1080,1087,1094,1101,1108]
def ad3:List Addr:=[1115,1122,1129,1136,1143,1150,1157,1162,1167,1174,30,43,55,67,79,91,103,115,127,139,151,163,175,187]
def ad4:List Addr:=[199,211,223,235,247,259,271,290,299,306,313,318,363,444,451,452,453,454,455,456,457,458,459,460]
def ad5:List Addr:=[461,462,463,464,465,469,476,481,486,491,498,505,510,593,602,607,667,678,683,690,695,700,707,964]
def ad6:List Addr:=[975,982,987,994,1001,1008,1015,1022,1029,1036,1043,1050,1057,1064,1069,1074,1079,1086,1093,1100,1107,1114,1121,1128]
def ad7:List Addr:=[1135,1142,1149,1156,1161,1166,1173,29,32,42,54,66,78,90,102,114,126,138,150,162,174,186,198,210]
def ad8:List Addr:=[222,234,246,258,270,288,289,333,340,347,354,361,362,365,366,382,389,396,403,410,415,420,425,430]
def ad9:List Addr:=[437,442,443,446,447,525,532,539,546,553,560,567,572,579,584,591,592,595,596,622,629,636,641,648]
def aqq:List Addr:=[655,660,665,666,669,670,722,729,736,743,748,755,762,769,776,783,790,797,804,811,816,823,830,837]
def aqR:List Addr:=[844,851,858,865,870,877,884,891,896,903,910,915,922,929,934,941,948,955,962,963,966,967,287,332]
def aqO:List Addr:=[339,346,353,360,381,388,395,402,409,414,419,424,429,436,441,524,531,538,545,552,559,566,571,578]
def aq1:List Addr:=[583,590,621,628,635,640,647,654,659,664,721,728,735,742,747,754,761,768,775,782,789,796,803,810]
def aqD:List Addr:=[815,822,829,836,843,850,857,864,869,876,883,890,895,902,909,914,921,928,933,940,947,954,961]
def ad:List Addr:=ad0++ad1++ad2++ad3++ad4++ad5++ad6++ad7++ad8++ad9++aqq++aqR++aqO++aq1++aqD
abbrev R:PySem.W.OpenRow:=PySem.W.OpenLaw.row PySem.Challenge.rw_earmarks_k46_looks_tell_the_stand
abbrev hkE:PySem.W.Hook:=ae2 ad fa fn tbs exB
def obE(s:PySem.W.SharedT):He.AlX:=aeF ad fa fn tbs exB (HandSHeadRun.getT s)
def amM(s:PySem.W.SharedT):obE s=hkE.obs s.abs:=ajX (HandSHeadRun.getT_eq s)
abbrev wR(w:World)(b:Bool):World:=w.withFollow "special-get-raises" b
def ao7(w:World):aie R (PySem.W.view R.prog [98]) ad exB 40000 nm (wR w false):=λos=>by kernel_rfl
def aoO(w:World):ah8 R ad [] fn tbs 40000 (wR w false):=λos=>by kernel_rfl
def zzf(w:World):ah8 R ad fa [] [] 40000 (wR w false):=λos=>by kernel_rfl
def runAt(w:World):aie R (PySem.W.view R.prog [98]) ad exB 40000 nm (wR w true):=λos=>by kernel_rfl
def ao5(w:World):ah8 R ad [] fn tbs 40000 (wR w true):=λos=>by kernel_rfl
def zzt(w:World):ah8 R ad fa [] [] 40000 (wR w true):=λos=>by kernel_rfl
def run(w:World):HandSHeadRun.RunEq R (PySem.W.view R.prog [98]) hkE obE 40000 nm w:=PySem.W.byRow2 "special-get-raises" (P:=λw=>HandSHeadRun.RunEq R (PySem.W.view R.prog [98]) hkE obE 40000 nm w) (λw=>Zj (ao7 w) (aoO w) (zzf w)) (λw=>Zj (runAt w) (ao5 w) (zzt w)) w
end Pr
namespace Ear
open PySem PySem.Spec PyProof.Rows L2 Evl RZ
section
variable{X:Cx}{C:Addr}{bmB:List Value}{B newId initId:String}
def aiM{x:Str}{p pos:Pos}(F:ExcBaseFacts B newId initId bmB)(q:PySem.W.excIn X.K C bmB newId=true)(gC:X.mg x=some (.ref C))(kC:PySem.W.keepIn X.K (.ref C)=true)(r:Raises X (.ref C))(hg:Gl X x)
  (hn:(x==("__debug__" : Str))=false:=by decide):PMk X (.Call (.Name x p) [] [] pos) (λ_ H Q=>Q (.ref C) none H):=by
 intro pins s σ H Q I h;refine wpAny_Call_Name_kw (ld_glob I hg gC ?_ hn);refine PySem.W.callWith_K0 I.kIn kC ?_;show wpAny _ _ (call (.ref C) []) _ _ _;let⟨bm,N,nm,qn,bs,hdct,sn,sub,ab,col,dd,k0,k1,k2,k3,k5,mN,hC,hN,hni,T⟩:=exc_obj I.kIn q
 refine wpAny_call_exc_subT F T hC hN hni (λh' e hm=>?_) (avv _);exact mk_of I hm r h (I.hok.gone hm.new)
end
def exm_one{K:auT}{S:Addr}(h1:PySem.W.subIn K (.ref S) (.type "BaseException")=some true)(h2:PySem.W.isClsIn K S=true)(h3:PySem.W.typeIn K (.ref S)=some (.type "type"))(h4:PySem.W.subIn K (.ref S) (.ref S)=some true) :
  PySem.W.exmOne K (.ref S) (.ref S)=some true:=by
 have e1:(PySem.W.subIn K (.ref S) (.type "BaseException")==some true)=true:=by rw[h1]<;>rfl
 have e2:((PySem.W.clsIn K S).isSome&&PySem.W.typeIn K (.ref S)==some (.type "type"))=true:=by rw[h3,auU];exact⟨h2,rfl⟩
 show(if (PySem.W.subIn K (.ref S) (.type "BaseException")==some true)=true then(if ((PySem.W.clsIn K S).isSome&&PySem.W.typeIn K (.ref S)==some (.type "type"))=true then PySem.W.subIn K (.ref S) (.ref S) else none) else none)=some true
 rw[if_pos e1,if_pos e2];exact h4
def aqP(xs:List Int):Prop:=xs.length=6/\∀x∈xs,0<=x/\x<=9
section
variable{K:auT}{σ:L2.St}{H:Hp}{te tl:TE}{tt:TT}{vs:List Nat}
def EvS(te:TE)(σ:L2.St)(H:Hp)(P:V->Hp->Prop):Prop:=∀H1,Ex H H1->∀Q:VK,(∀v H2,Ex H1 H2->P v H2->Q v H2)->te σ H1 Q
end
section
variable{K:auT}{σ:L2.St}{H H':Hp}{te ta tb:TE}{t:TT}{P R:V->Hp->Prop}{v:V}
def EvS.mono(e:Ex H H')(h:EvS te σ H P):EvS te σ H' P:=λH1 a Q q=>h H1 (e.trans a) Q q
def EvS.imp(h:EvS te σ H P)(k:∀v H',P v H'->R v H'):EvS te σ H R:=λH1 e Q q=>h H1 e Q λv H2 e2 p=>q v H2 e2 (k v H2 p)
end
end Ear
namespace Ear
open PySem PySem.Spec PyProof.Rows L2 Evl RZ
def fZ{α:Type}(R:V->α->Prop)(ws:List V)(L:List α):Prop:=ws.length=L.length/\∀(i:Nat) (v:V) (x:α),ws[i]?=some v->L[i]?=some x->R v x
def fZ.imp{α:Type}{R S:V->α->Prop}{ws:List V}{L:List α}(h:fZ R ws L)(k:∀v x,R v x->S v x):fZ S ws L:=⟨h.1,λi v x a b=>k v x (h.2 i v x a b)⟩
def fZ.nil{α:Type}{R:V->α->Prop}:fZ R [] []:=⟨rfl,λi v x a _=>by simp at a⟩
def fZ.snoc{α:Type}{R:V->α->Prop}{ws:List V}{L:List α}{v:V}{x:α}(h:fZ R ws L)(k:R v x):fZ R (ws++[v]) (L++[x]):=by
 refine⟨by rw[avz,avz,h.1];rfl,λi u y a b=>?_⟩;by_cases hi:i<ws.length
 .rw[au9 hi]at a;rw[au9 (by rw[<-h.1];exact hi)]at b;exact h.2 i u y a b
 .rw[avf #[]]at a;rw[avf (by rw[<-h.1];omega),<-h.1]at b;have hj:i-ws.length=0:=by
   have:=(auZ.mp a).1;simp![au5,List.length_nil]at this;omega
  rw[hj]at a b;cases a;cases b;exact k
def Ma(H:Hp)(v:V)(l:List Int):Prop:=∃h:Addr,v=.ref h/\H h=some (.tup (l.map V.int))
def Ma.mono{H H':Hp}(e:Ex H H'){v:V}{l:List Int}(h:Ma H v l):Ma H' v l:=by
 let⟨a,e1,h1⟩:=h
 exact⟨a,e1,e _ _ h1⟩
theorem Ma.upd{H:Hp}{D:Addr}{acc:List V}{o:HO}(hD:H D=some (.lst acc)){v:V}{l:List Int}(h:Ma H v l):Ma (upd H D o) v l:=by
 let⟨a,e1,h1⟩:=h
 refine⟨a,e1,?_⟩;rw[upd_ne (λz=>by rw[z,hD]at h1;cases h1)];exact h1
abbrev Rw:Type:=Int×List Int
def Rz(H:Hp)(v:V)(r:Rw):Prop:=∃t m:Addr,v=.ref t/\H t=some (.tup [.int r.1,.ref m])/\H m=some (.tup (r.2.map V.int))
def Rz.mono{H H':Hp}(e:Ex H H'){v:V}{r:Rw}(h:Rz H v r):Rz H' v r:=by
 let⟨t,m,e1,h1,h2⟩:=h
 exact⟨t,m,e1,e _ _ h1,e _ _ h2⟩
theorem Rz.upd{H:Hp}{D:Addr}{acc:List V}{o:HO}(hD:H D=some (.lst acc)){v:V}{r:Rw}(h:Rz H v r):Rz (upd H D o) v r:=by
 let⟨t,m,e1,h1,h2⟩:=h
 refine⟨t,m,e1,?_,?_⟩
 .rw[upd_ne (λz=>by rw[z,hD]at h1;cases h1)];exact h1
 .rw[upd_ne (λz=>by rw[z,hD]at h2;cases h2)];exact h2
def aoR(r:Rw):Prop:=1<=r.1/\aqP r.2
structure Tab(R:List Rw):Prop where
 len:R.length<=128
 ok:∀r∈R,aoR r
 few:∃D:List Rw,D.length<=64/\∀r∈R,r∈D
def Tab.sub{R S:List Rw}(h:Tab R)(hs:∀r∈S,r∈R)(hl:S.length<=128):Tab S:=by
 let⟨D,d1,d2⟩:=h.few
 exact⟨hl,λr hr=>h.ok r (hs r hr),D,d1,λr hr=>d2 r (hs r hr)⟩
def fZ.get{α:Type}{R:V->α->Prop}{ws:List V}{L:List α}(h:fZ R ws L){i:Nat}{v:V}(g:ws[i]?=some v):∃x,L[i]?=some x/\R v x:=by
 have hi:=(auZ.mp g).1;have hi':i<L.length:=by rw[<-h.1];exact hi
 exact⟨L[i],auV hi',h.2 i v _ g (auV hi')⟩
def fZ.mem{α:Type}{R:V->α->Prop}{ws:List V}{L:List α}(h:fZ R ws L){v:V}(m:v∈ws):∃x,x∈L/\R v x:=by
 let⟨i,hi,e⟩:=List.getElem_of_mem m
 let⟨x,g,r⟩:=h.get (auZ.mpr ⟨hi,e⟩)
 exact⟨x,au4 g,r⟩
theorem fZ.take{α:Type}{R:V->α->Prop}{ws:List V}{L:List α}(h:fZ R ws L)(n:Nat):fZ R (ws.take n) (L.take n):=by
 refine⟨by rw[List.length_take,List.length_take,h.1],λi v x a b=>?_⟩;rw[List.getElem?_take]at a b;by_cases c:i<n
 .rw[if_pos c]at a b;exact h.2 i v x a b
 .rw[if_neg c]at a;cases a
theorem fZ.drop{α:Type}{R:V->α->Prop}{ws:List V}{L:List α}(h:fZ R ws L)(n:Nat):fZ R (ws.drop n) (L.drop n):=by refine⟨by rw[av7,av7,h.1],λi v x a b=>?_⟩;rw[List.getElem?_drop]at a b;exact h.2 _ v x a b
section
variable{X:Cx}
def aeB(xs:List V)(ds:List PyData)(x:V)(d:PyData):Prop:=∃i:Nat,xs[i]?=some x/\ds[i]?=some d
@[irreducible]def Ls (K:auT):List V->Hp->VK->Prop:=λvs H Q=>∃(a:Addr) (xs:List V) (ds:List PyData),vs=[V.ref a]/\SqL K H a xs/\DpAll K H xs ds/\PySem.W.AllAlike ds/\PySem.W.Sortable ds/\(∀d∈ds,d.depth<=60)/\
 ∀(ys:List V) (p:Addr),fZ (aeB xs ds) ys (ds.mergeSort (PySem.W.dataLe false id))->H p=none->Q (.ref p) (upd H p (.lst ys))
theorem Ui:∀(xs:List V) (ds:List PyData) (its:List Value) (P:Value->PyData->Prop),Vals xs its->PySem.W.EachIs P its ds->
  PySem.W.EachIs (λv d=>∃(i:Nat) (x:V),RelV x v/\xs[i]?=some x/\ds[i]?=some d) its ds
 |[],_,_,_,.nil,.nil=>.nil
 |_::_,[],_,_,.cons _ _,k=>nomatch k
 |x::xs,d::ds,u::us,P,.cons r t,.cons _ k=>.cons ⟨0,x,r,rfl,rfl⟩ ((Ui xs ds us P t k).mono λv d ⟨i,y,a,b,c⟩=>⟨i+1,y,a,b,c⟩)
theorem O9{xs:List V}{ds:List PyData}:∀(out:List Value) (L:List PyData),PySem.W.EachIs (λv d=>∃(i:Nat) (x:V),RelV x v/\xs[i]?=some x/\ds[i]?=some d) out L->∃ys,Vals ys out/\fZ (aeB xs ds) ys L
 |[],[],.nil=>⟨[],.nil,fZ.nil⟩
 |v::out,d::L,.cons ⟨i,x,r,a,b⟩ k=>by
  let⟨ys,h1,h2⟩:=O9 out L k
  refine⟨x::ys,.cons r h1,by rw[au5,au5,h2.1],λj u y g1 g2=>?_⟩;cases j with
  |zero=>
   cases g1;cases g2;exact⟨i,a,b⟩
  |succ j=>exact h2.2 j u y g1 g2
def ae1(hu:X.A.units+65<cLine):CallR X (.builtin "sorted") (Ls X.K):=by
 intro pins s σ H vs us Q I r h;unfold Ls at h;let⟨a,xs,ds,rfl,hs,hd,hal,hk,hz,q⟩:=h
 let⟨u,rfl,ru⟩:=vals1 r
 obtain rfl:u=Value.ref a:=ru
 let⟨its,rv,hl,hsz⟩:=I.list hs
 let⟨as,hr⟩:=Dp.readsAll I ds xs its hd rv
 have er:PySem.W.EachIs (λv d=>∃as,Reads s.heap v (id d) as) its ds:=PySem.W.readsAll_each id (by rw[List.map_id];exact hr);have hn:=SeqAt.ReadsAll.length ds its as hr;have hl2:=rv.length;refine PySem.W.sorted_data (enc:=id) hl.isList (Ui xs ds its _ rv er) er (by rw[List.map_id];exact hal) (by rw[List.map_id];exact hk) #[] (λd m=>?_) λout hlen hout=>?_
 .have:=hz d m;show X.A.units+2+d.depth<cLine;omega
 .let⟨ys,v1,v2⟩:=O9 out _ hout
  let⟨ep,he'⟩:=PyProof.Rows.sortedAll_at s.heap its out.toArray
  have hy:ys.length=ds.length:=by rw[v2.1,List.length_mergeSort]
  refine⟨.ref _,upd H (s.heap.objs.size+1) (.lst ys),I.laid (t':=s.toks) (λ_ _=>PyProof.Rows.sortedAll_old) (Nat.le_succ _) ⟨#[],out,ep,v1,by simpa using he'⟩,rfl,q ys _ v2 (I.hok.fresh (Nat.le_succ _))⟩
end
@[irreducible]def Vw (K:auT):R2:=λx y H Q=>∃d e:PyData,Dp K H x d/\Dp K H y e/\PySem.W.alike d e=true/\d≠.none/\d.depth<=60/\Q (.bl (PySem.W.dataLt d e)) H
def ai1{X:Cx}(hu:X.A.units+65<cLine):OpR X (compareOp .Lt) (Vw X.K):=by
 intro pins s σ H x y v u Q I rx ry h;unfold Vw at h;let⟨d,e,hd,he,ha,hn,hz,q⟩:=h
 let⟨as,r1⟩:=Dp.reads I d x v hd rx
 let⟨bs,r2⟩:=Dp.reads I e y u he ry
 exact PySem.W.lt_data r1 r2 ha hn #[] ⟨.bl _,H,I,rfl,q⟩
def EvR(te:TE)(σ:L2.St)(H:Hp)(P:List V->Hp->Prop):Prop:=∀H1,Ex H H1->∀Q:VK,(∀p H2 us,Ex H1 H2->H2 p=some (.lst us)->P us H2->Q (.ref p) H2)->te σ H1 Q
def EvM(te:TE)(σ:L2.St)(H:Hp)(P:List V->Hp->Prop):Prop:=∀H1,Ex H H1->∀Q:VK,(∀p H2 us,H1 p=none->Ex H1 H2->H2 p=some (.lst us)->P us H2->Q (.ref p) H2)->te σ H1 Q
structure am7{α:Type}(Rel:Hp->V->α->Prop):Prop where
 mono:∀{H H':Hp} {v:V} {x:α},Ex H H'->Rel H v x->Rel H' v x
 upd:∀{H:Hp} {D:Addr} {acc:List V} {o:HO} {v:V} {x:α},H D=some (.lst acc)->Rel H v x->Rel (upd H D o) v x
theorem fZ.mono{α:Type}{Rel:Hp->V->α->Prop}(S:am7 Rel){H H':Hp}(e:Ex H H'){ws:List V}{L:List α}(h:fZ (Rel H) ws L):fZ (Rel H') ws L:=h.imp λ_ _ r=>S.mono e r
theorem fZ.upd{α:Type}{Rel:Hp->V->α->Prop}(S:am7 Rel){H:Hp}{D:Addr}{acc:List V}{o:HO}(hD:H D=some (.lst acc)){ws:List V}{L:List α}(h:fZ (Rel H) ws L):fZ (Rel (upd H D o)) ws L:=h.imp λ_ _ r=>S.upd hD r
section
variable{K:auT}{σ:L2.St}{H:Hp}{te tl:TE}{tt:TT}{vs:List Nat}{α:Type}
def EvM.r{P:List V->Hp->Prop}(h:EvM te σ H P):EvR te σ H P:=λH1 e Q q=>h H1 e Q λp H2 us _ a b c=>q p H2 us a b c
def EvM.imp{P R:List V->Hp->Prop}(h:EvM te σ H P)(k:∀us H',P us H'->R us H'):EvM te σ H R:=λH1 e Q q=>h H1 e Q λp H2 us n a b c=>q p H2 us n a b (k us H2 c)
end
theorem abw:∀a b:List Int,PyData.eqvAll (a.map PyData.int) (b.map PyData.int)=decide (a=b)
 |[],[]=>by rw[avU,PyData.eqvAll];rfl
 |[],y::ys=>by rw[avU,List.map_cons,PyData.eqvAll];rfl
 |x::xs,[]=>by rw[avU,List.map_cons,PyData.eqvAll];rfl
 |x::xs,y::ys=>by
  rw[List.map_cons,List.map_cons,PyData.eqvAll,abw xs ys,PyData.eqv,avW];simp
def dT(l:List Int):PyData:=.tuple (l.map PyData.int)
theorem lay_ints:∀l:List Int,PyData.canLayAll0 (l.map PyData.int)=true/\PyData.depthAll (l.map PyData.int)=0
 |[]=>⟨by rw[avU,PyData.canLayAll0],by rw[avU,PyData.depthAll]⟩
 |x::xs=>by
  have ih:=lay_ints xs;refine⟨?_,?_⟩
  .rw[List.map_cons,PyData.canLayAll0,PyData.canLay0,ih.1];rfl
  .rw[List.map_cons,PyData.depthAll,PyData.depth,ih.2];rfl
def rD(r:Rw):PyData:=.tuple [.int r.1,dT r.2]
def afS(r:Rw):(rD r).canLay0=true/\(rD r).depth=2:=by
 have h:=lay_ints r.2;unfold rD dT;refine⟨?_,?_⟩
 .rw[PyData.canLay0,PyData.canLayAll0,PyData.canLayAll0,PyData.canLayAll0,PyData.canLay0,PyData.canLay0,h.1];rfl
 .rw[PyData.depth,PyData.depthAll,PyData.depthAll,PyData.depthAll,PyData.depth,PyData.depth,h.2];rfl
def rk(r:Rw):List Int:=r.1::r.2
def ahm:PySem.W.rowLt [] []=false:=PyProof.Rows.lex_irrefl _
def akO(l m:List Int):PySem.W.rowLt [dT l] [dT m]=decide (l<m):=by
 have al:PySem.W.alike (dT l) (dT m)=true:=by unfold dT;rw[PySem.W.alike];exact PySem.W.alike_ints l m
 have ev:PyData.eqv (dT l) (dT m)=decide (l=m):=by unfold dT;rw[PyData.eqv,abw]
 have h:PySem.W.rowLt [dT l] [dT m]=if PyData.eqv (dT l) (dT m)=true then PySem.W.rowLt [] [] else PySem.W.dataLt (dT l) (dT m):=PySem.W.dataLt_cons al [] []
 rw[h,ev,ahm];by_cases c:l=m
 .rw[if_pos (decide_eq_true c),c];exact(decide_eq_false (List.lt_irrefl _)).symm
 .rw[if_neg (by rw[awc];exact c)];show PySem.W.dataLt (.tuple (l.map PyData.int)) (.tuple (m.map PyData.int))=_;rw[PySem.W.dataLt_tuple];exact PySem.W.dataLt_ints l m
def acW(x y:Int)(ds es:List PyData)(l m:List Int)(h:PySem.W.rowLt ds es=decide (l<m)):PySem.W.rowLt (.int x::ds) (.int y::es)=decide (x::l<y::m):=by
 have al:PySem.W.alike (.int x) (.int y)=true:=by rw[PySem.W.alike]
 have h2:PySem.W.rowLt (.int x::ds) (.int y::es)=if PyData.eqv (.int x) (.int y)=true then PySem.W.rowLt ds es else PySem.W.dataLt (.int x) (.int y):=PySem.W.dataLt_cons al ds es
 rw[h2,h,PySem.W.dataLt_int,PyData.eqv];by_cases c:x=y
 .subst c;rw[if_pos (by simp),avW,awc,awc,List.cons_lt_cons_iff];constructor
  .exact λk=>Or.inr ⟨rfl,k⟩
  .rintro(k|k)
   .omega
   .exact k.2
 .rw[if_neg (by simpa using c),avW,awc,awc,List.cons_lt_cons_iff];constructor
  .exact Or.inl
  .rintro(k|k)
   .exact k
   .exact absurd k.1 c
def al3(a b:Rw):PySem.W.dataLt (rD a) (rD b)=decide (rk a<rk b):=by unfold rD;rw[PySem.W.dataLt_tuple];exact acW _ _ _ _ _ _ (akO a.2 b.2)
def Yw(a b:Rw):PySem.W.alike (rD a) (rD b)=true:=by unfold rD dT;rw[PySem.W.alike,PySem.W.alikeAll,PySem.W.alikeAll,PySem.W.alike,PySem.W.alike,PySem.W.alike_ints,PySem.W.alikeAll];rfl
theorem fZ.map{α β:Type}{P:V->β->Prop}(f:α->β){ws:List V}{L:List α}(h:fZ (λv x=>P v (f x)) ws L):fZ P ws (L.map f):=by
 refine⟨by rw[au3,h.1],λi v x a b=>?_⟩;rw[ava]at b;let⟨y,hy,e⟩:=avL.mp b
 rw[<-e];exact h.2 i v y a hy
def abQ{a b:Rw}(h:rk a=rk b):a=b:=by unfold rk at h;injection h with h1 h2;exact Prod.ext h1 h2
def Jy(S:List Rw):Prop:=S.Pairwise λa b=>rk a<rk b
theorem ahi:∀{S T:List Rw},Jy S->Jy T->(∀r,r∈S↔r∈T)->S=T
 |[],[],_,_,_=>rfl
 |[],t::T,_,_,h=>absurd ((h t).mpr auX) (by simp)
 |s::S,[],_,_,h=>absurd ((h s).mp auX) (by simp)
 |s::S,t::T,hs,ht,h=>by
  let⟨hs1,hs2⟩:=List.pairwise_cons.mp hs
  let⟨ht1,ht2⟩:=List.pairwise_cons.mp ht
  have e:s=t:=by
   rcases au7.mp ((h s).mp auX) with e|m
   .exact e
   .rcases au7.mp ((h t).mpr auX) with e2|m2
    .exact e2.symm
    .exact absurd (ht1 s m) (List.lt_asymm (hs1 t m2))
  subst e;have hn:∀{L:List Rw},(∀r∈L,rk s<rk r)->s∉L:=λhL m=>List.lt_irrefl _ (hL s m);rw[ahi hs2 ht2 λr=>?_];constructor
  .intro m;rcases au7.mp ((h r).mp (auY _ m)) with e|m2
   .rw[e]at m;exact absurd m (hn hs1)
   .exact m2
  .intro m;rcases au7.mp ((h r).mpr (auY _ m)) with e|m2
   .rw[e]at m;exact absurd m (hn ht1)
   .exact m2
def Qz(a b:Rw):PySem.W.dataLe false rD a b=decide (rk a<=rk b):=by
 show(!PySem.W.dataLt (rD b) (rD a))=_
 rw[al3,avW,avb,decide_eq_false_iff_not,awc];exact List.not_lt
def agV{α β:Type}{R:α->β->Prop}{as cs:List α}(p:as.Perm cs):∀{bs:List β},PySem.W.EachIs R as bs->∃ds,ds.Perm bs/\PySem.W.EachIs R cs ds:=by
 induction p with
 |nil=>
  intro bs h;cases h;exact⟨[],List.Perm.refl _,.nil⟩
 |cons x _ ih=>
  intro bs h;cases h with
  |cons r t=>
   let⟨ds,h1,h2⟩:=ih t
   exact⟨_::ds,h1.cons _,.cons r h2⟩
 |swap x y l=>
  intro bs h;cases h with
  |cons r t=>
   cases t with
   |cons r2 t2=>exact⟨_,List.Perm.swap _ _ _,.cons r2 (.cons r t2)⟩
 |trans _ _ ih1 ih2=>
  intro bs h;let⟨ds,a1,a2⟩:=ih1 h
  let⟨es,b1,b2⟩:=ih2 a2
  exact⟨es,b1.trans a1,b2⟩
section
variable{P:Program}{w:World}{A:Around}{E:Value->Shared->Prop}{s:Shared}
def Sq{β:Type}{a:Addr}{es:Array (Int×Value)}{ep:Nat}{t:SetTable}{enc:β->PyData}{bs:List β}{R:Value->β->Prop}{Q:Value->Shared->Prop}(hh:A.handled=none)(ha:SetAt s.heap a es ep t)(hf:t.fits es.size=true)(hsz:es.size<scanBound)(hr:Ris t.place.toList)
  (hl:w.params.followText "set-order"=true\/t.led=true) (e:PySem.W.EachIs (λv b=>R v b/\∃as,Reads s.heap v (enc b) as) (es.toList.map (·.2)) bs) (hal:PySem.W.AllAlike (bs.map enc)) (hk:PySem.W.Sortable (bs.map enc)) (hu:∀b∈bs,A.units+2+(enc b).depth<cLine)
  (hQ:∀(s':Shared) (p:Addr) (out:List Value) (c:Nat) (cs:List β),(∀b o,s.heap.get? b=some o->s'.heap.get? b=some o)->s'.gens=s.gens->s'.os=s.os->s.heap.objs.size<=p->s'.heap.get? p=some (seqObj "list" out.toArray c)->
   cs.Perm bs->PySem.W.EachIs R out (cs.mergeSort (PySem.W.dataLe false enc))->Q (.ref p) s') :
  wpAny (model P w) A (call (.builtin "sorted") [.ref a]) Q E s:=by
 refine Calls.call_function_entry kind_sorted plain_sorted entry_sorted (args_sorted1 _) ?_;unfold Builtin.«sorted»;refine wpAny_bind (m:=checkCount "sorted" 1 1 _) (wpAny_pure ?_)
 refine wpAny_bind (collect_set (A:=A.in1) hh ha hf hsz hr hl λt1 vals kept grown g1 o1 pm=>?_);let⟨cs,pc,ec⟩:=agV pm.symm e
 have lc:vals.length=cs.length:=ec.length;have lb:cs.length=bs.length:=pc.length_eq;have lz:vals.length<=sizeLine:=by rw[pm.length_eq,au3,avt,sizeLine_eq];unfold scanBound at hsz;omega
 refine wpAny_bind (wpAny_newList ?_ lz);have here:(t1.heap.push (seqObj "list" vals.toArray 0)).get? t1.heap.objs.size=some (seqObj "list" vals.toArray 0):=Heap.get?_push_size _ rfl
 have stays:∀b o,s.heap.get? b=some o->(t1.heap.push (seqObj "list" vals.toArray 0)).get? b=some o:=λb o q=>Heap.get?_push_of_some _ (kept b o q)
 have al:PySem.W.AllAlike (cs.map enc):=λd hd d' hd'=>hal d ((pc.map enc).mem_iff.mp hd) d' ((pc.map enc).mem_iff.mp hd');have sk:PySem.W.Sortable (cs.map enc):=by
  rcases hk with k|k
  .exact .inl λd hd=>k d ((pc.map enc).mem_iff.mp hd)
  .exact .inr λd hd=>k d ((pc.map enc).mem_iff.mp hd)
 refine wpAny_bind (wpAny_holding (PySem.W.list_sort_data (s:={ t1 with heap:=t1.heap.push (seqObj "list" vals.toArray 0) }) (enc:=enc) here (ec.mono λv b h=>h.1) (ec.mono λv b ⟨_,as,r⟩=>⟨as,PySem.W.reads_keeps stays r,λm=>?rd⟩) al sk #[] (λb hb=>?un) λout lo eo=>?fin))
 case rd=>
  let⟨o,q⟩:=PyProof.On.reads_mem_get r _ m
  have hlt:t1.heap.objs.size<s.heap.objs.size:=Heap.lt_size q;exact absurd grown (Nat.not_le_of_lt hlt)
 case fin=>
  let⟨c,hc⟩:=sortedHeap_at (vs:=vals) (out:=out.toArray) here
  refine wpAny_pure ⟨_,rfl,hQ _ t1.heap.objs.size out c cs (λb o q=>?_) g1 o1 grown hc pc eo⟩;have hlt:=Heap.lt_size (kept b o q)
  show(sortedHeap (t1.heap.push (seqObj "list" vals.toArray 0)) t1.heap.objs.size vals out.toArray).get? b=some o
  rw[sortedHeap_old (avq hlt) (by rw[size_push'];exact avQ hlt)];exact stays b o q
 case un=>
  have:=hu b (pc.mem_iff.mp hb);show A.in1.units+1+_<_;have e1:A.in1.units=A.units+1:=rfl;omega
end
@[irreducible]def Rh (w:World):List V->Hp->VK->Prop:=λvs H Q=>∃(a:Addr) (S:Int->Bool) (n:Nat),vs=[V.ref a]/\H a=some (SetO w a S n)/\
 ∀(ns:List Int) (p:Addr),ns.Pairwise (· < ·)->(∀k:Int,k∈ns↔S k=true)->ns.length=n->H p=none->Q (.ref p) (upd H p (.lst (ns.map V.int)))
theorem Za:∀(out:List Value) (ns:List Int),PySem.W.EachIs (λv (k:Int)=>∃tk,v=Value.int k tk) out ns->Vals (ns.map V.int) out
 |[],[],.nil=>.nil
 |_::out,k::ns,.cons ⟨tk,e⟩ t=>by
  subst e;exact .cons ⟨tk,rfl⟩ (Za out ns t)
def ajL{ns:List Int}(h:ns.Pairwise λa b=>(PySem.W.dataLe false (λk:Int=>PyData.int k)) a b=true)(nd:ns.Nodup):ns.Pairwise (· < ·):=by refine List.Pairwise.imp₂ (λa b h1 h2=>?_) h nd;rw[PySem.W.dataLe_int,awc]at h1;omega
section
variable{X:Cx}
def agS(hu:X.A.units+65<cLine)(hc:X.calm=true):CallR X (.builtin "sorted") (Rh X.w):=by
 intro pins s σ H vs us Q I r h;unfold Rh at h;let⟨a,S,n,rfl,ha,q⟩:=h
 let⟨o,es,ep,t,ho,hex,hd,g,nd,hm,hb,hf,hn,hr,hl⟩:=setO_get I ha
 rw[Vals.ref1 r];have ev:∀l:List (Int×Value),(∀e∈l,GoodE e)->PySem.W.EachIs (λv (k:Int)=>(∃tk,v=Value.int k tk)/\∃as,Reads s.heap v (PyData.int k) as) (l.map (·.2)) (l.map keyOf):=by
  intro l
  induction l with
  |nil=>exact λ_=>.nil
  |cons e l ih=>
   intro hg;let⟨k,tk,h1,h2⟩:=hg e auX
   have ek:keyOf e=k:=by unfold keyOf;rw[h1]
   refine .cons ?_ (ih λx hx=>hg x (auY _ hx));rw[ek];exact⟨⟨tk,h1⟩,[],by show Reads s.heap e.2 (PyData.int k) [];rw[h1];exact .int k tk⟩
 refine Sq (enc:=λk:Int=>PyData.int k) (I.ok.hd hc) ⟨o,ho,hex.1,hd⟩ hf hb hr hl (ev es.toList g) (avZ λx y=>by rw[PySem.W.alike]) (PySem.W.Sortable.others λx=>⟨(λz=>by cases z),(λxs z=>by cases z)⟩) (λk _=>by rw[PyData.depth];omega) λs' p out c cs k g' o' hp hg pc eo=>?_;have mp:=av0 cs (PySem.W.dataLe false (λk:Int=>PyData.int k));have ndm:(cs.mergeSort (PySem.W.dataLe false (λk:Int=>PyData.int k))).Nodup:=(mp.trans pc).nodup_iff.mpr nd;have srt:=avH (le:=PySem.W.dataLe false (λk:Int=>PyData.int k)) (λa b c h1 h2=>by rw[PySem.W.dataLe_int,awc]at *;omega) (λa b=>by rw[PySem.W.dataLe_int,avN,awc,awc];omega) cs;generalize cs.mergeSort (PySem.W.dataLe false (λk:Int=>PyData.int k))=ns at mp ndm srt eo;have hv:Vals (ns.map V.int) out:=Za out ns eo;have lns:ns.length=n:=by rw[mp.length_eq,pc.length_eq,au3,avt,hn]
 have hlen:(ns.map V.int).length<=sizeLine:=by rw[au3,lns,<-hn,sizeLine_eq];unfold scanBound at hb;omega
 have hfr:H p=none:=I.hok.fresh hp;have J:Inv X pins σ (upd H p (.lst (ns.map V.int))) { s with heap:=s'.heap,gens:=s'.gens,drawn:=s'.drawn,toks:=s'.toks }:=
  I.call (ch:=[]) (Un.laid k hp hfr) (I.hok.laid k hp ⟨hlen,out,c,hv,hg⟩) (by rw[g'];exact I.bare) (λ_ z=>nomatch z)
 have es':s'={ s with heap:=s'.heap,gens:=s'.gens,drawn:=s'.drawn,toks:=s'.toks }:=by cases s';cases s;cases o';rfl
 rw[es'];exact⟨.ref p,_,J,rfl,q ns p (ajL srt ndm) (λk=>by rw[(mp.trans pc).mem_iff,hm]) lns hfr⟩
def anA(w:World)(D:Addr)(vs:List Nat)(g:TG)(tt:TT)(te:TE)(σ:L2.St)(Nx:Hp->Prop)(x:V)(H:Hp):Prop:=
 g x (wipe σ vs) H λσ2 H2=>wipe σ2 vs=wipe σ vs/\tt σ2 H2 λb H3=>if b=true then te σ2 H3 λy H4=>∃(k:Int) (S:Int->Bool) (n:Nat),y=.int k/\H4 D=some (SetO w D S n)/\n+1<scanBound/\Nx (upd H4 D (SetO w D (λj=>S j || decide (j=k)) (if S k=true then n else n+1))) else Nx H3
def am1(w:World)(wi:TI)(g:TG)(tt:TT)(te:TE)(vs:List Nat):TE:=λσ H Q=>wi σ H λJ H1=>∀D,H1 D=none->∃W:Nat->Nat->Hp->Prop,(∃m,W 0 m (upd H1 D (SetO w D (λ_=>false) 0)))/\
 ∀i m H,W i m H->(J.stop i H/\Q (.ref D) H)\/(J.go i H/\∃Nx:Hp->Prop,(∀H',Nx H'->∃m',m'<m/\W (i+1) m' H')/\∀x H',J.yld i H x H'->anA w D vs g tt te σ Nx x H')
def add_int{pins:List (Addr×Obj)}{σ:L2.St}{H:Hp}{s:Shared}{E:Value->Shared->Prop}{D:Addr}{S:Int->Bool}{n:Nat}{k:Int}{v:Value}{Q:Value->Shared->Prop}(I:Inv X pins σ H s)(hD:H D=some (SetO X.w D S n))(room:n+1<scanBound)(rv:RelV (.int k) v)
  (q:∀t,Inv X pins σ (upd H D (SetO X.w D (λj=>S j || decide (j=k)) (if S k=true then n else n+1))) t->Q .none t):wpAny (model X.prog X.w) X.A (call (.builtin "set.add") [.ref D,v]) Q E s:=by
 let⟨tk,rfl⟩:=rv
 refine setR_add (setO_get I hD) room λh' sb new=>q _ (I.write (e:=D) (t':=s.toks+1) (by rw[hD];trivial) (.inl rfl) (λb u hb hu=>(sb.2 b hb).trans hu) ?_ (setO_new new));have ⟨o,_,_,_,ho,_⟩:=new;exact⟨o,ho⟩
def amc{elt tg iter:Expr}{ifs:List Expr}{scope:Scope}{own:List (PySem.Str×Nat)}{pos:Pos}{wi:TI}{g:TG}{tt:TT}{te:TE}(hc:X.calm=true)(hN:X.N.Nodup)(hi:PI X tg iter wi)(ok:BlkOk X.N X.env.scope scope own)
  (hg:∀(t:Shared) (G:Hp) (C:Addr) (cl:List (PySem.Str×Addr)) (fp:List Addr),PG (X.blk t G scope (compEnvC scope cl C X.env) fp) tg g) (ht:∀(t:Shared) (G:Hp) (C:Addr) (cl:List (PySem.Str×Addr)) (fp:List Addr),PTs (X.blk t G scope (compEnvC scope cl C X.env) fp) ifs tt)
  (he:∀(t:Shared) (G:Hp) (C:Addr) (cl:List (PySem.Str×Addr)) (fp:List Addr),PE (X.blk t G scope (compEnvC scope cl C X.env) fp) elt te) (hs:∀x,foldedSetIterable iter X.env x=pure x:=by intro _;rfl) :
  PE X (.SetComp elt [⟨tg,iter,ifs,0⟩] scope pos) (am1 X.w wi g tt te (own.map (·.2))):=by
 refine⟨λpins s σ H Q I h=>?_⟩;rw[PpSet.eval_SetComp];have cells:∀y∈scope.names,y.2=.free->∃c,X.env.cells.lookup y.1=some c:=λy hy e=>(ok.free y hy e).elim (λk=>I.ok.has _ (.inl k)) (λk=>I.ok.has _ (.inr k));refine wpAny_comprehension_free rfl hs (closure_ok cells) ok.kind (λy hy e=>by rw[ok.uniq y hy,e]) (thn (hi.run pins s σ H _ I h) λ_ _ hx=>thn hx λitv t0 h0=>?_);let⟨it,fp,tn,J,G0,rfl,I0,T,st0,f0,q⟩:=h0
 refine PpSet.newSet_ok (newEnv_comp ?_)
 -- the new set,at D
 obtain⟨D,hD⟩:∃D,D=t0.heap.objs.size:=⟨_,rfl⟩;rw[<-hD];let⟨W,⟨m0,w0⟩,turn⟩:=q D (I0.hok.fresh (Nat.le_of_eq hD.symm))
 obtain⟨ob,hob⟩:∃ob:Obj,ob={ cls:=.type "set",dict:=none,data:=.set (List.toArray []) 0 (.fresh 0 0 (!X.w.params.followText "set-order")) }:=⟨_,rfl⟩
 rw[<-hob];obtain⟨t1,ht1⟩:∃t1:Shared,t1={ t0 with heap:=t0.heap.push ob }:=⟨_,rfl⟩;obtain⟨G1,hG1⟩:∃G1,G1=upd G0 D (SetO X.w D (λ_=>false) 0):=⟨_,rfl⟩;rw[<-hG1]at w0;have grow:∀b o,t0.heap.get? b=some o->t1.heap.get? b=some o:=λb o e=>by rw[ht1];exact Heap.get?_push_of_some _ e
 have I1:Inv X pins σ G1 t1:=by rw[ht1,hG1];refine I0.laid (t':=t0.toks) (λb o e=>Heap.get?_push_of_some _ e) (Nat.le_of_eq hD.symm) ?_;rw[hD,hob];exact setO_new (setR_fresh X.w)
 have small:∀b∈fp,b<t0.heap.objs.size:=λb hb=>by
  let⟨o,e,_⟩:=T.obj _ _ st0 b hb
  exact Heap.lt_size e
 have f1:∀b∈fp,FpOk X pins G1 b/\b<t1.heap.objs.size:=λb hb=>by
  have hlt:=small b hb;refine⟨⟨?_,(f0 b hb).2⟩,by rw[ht1];show b<(t0.heap.push ob).objs.size;rw[Heap.size_push];exact avQ hlt⟩;rw[hG1,upd_ne (by rw[hD];exact avq hlt)];exact(f0 b hb).1
 have st1:tn 0 t1.heap:=T.keep _ _ _ st0 λb _ o e=>grow b o e;have I2:=block_start I1 ok hN f1;have pg:=hg t1 G1 t1.heap.objs.size (cellsFrom (t1.heap.objs.size+1) scope.names (cloFrom X.env.cells scope.names [])) fp;have pt:=ht t1 G1 t1.heap.objs.size (cellsFrom (t1.heap.objs.size+1) scope.names (cloFrom X.env.cells scope.names [])) fp;have pe:=he t1 G1 t1.heap.objs.size (cellsFrom (t1.heap.objs.size+1) scope.names (cloFrom X.env.cells scope.names [])) fp;have none1:∀b∈fp,G1 b=none:=λb hb=>(f1 b hb).1.1;rw[show({ t0 with heap:=t0.heap.push ob }:Shared)=t1 from ht1.symm];obtain⟨ce,hce⟩:∃ce,ce=compEnvC scope (cellsFrom (t1.heap.objs.size+1) scope.names (cloFrom X.env.cells scope.names [])) t1.heap.objs.size X.env:=⟨_,rfl⟩;rw[<-hce]at I2 pg pt pe;have cL:ce.locals=t1.heap.objs.size:=by rw[hce];rfl
 obtain⟨t2,ht2⟩:∃t2:Shared,t2={ t1 with heap:=pushCells (t1.heap.push { cls:=.type "dict",data:=.dict (List.toArray []) }) scope.names }:=⟨_,rfl⟩
 rw[<-ht2]at I2;have st2:tn 0 t2.heap:=T.keep _ _ _ st1 λb _ o e=>by rw[ht2];exact pushCells_keeps _ _ _ _ (Heap.get?_push_of_some _ e)
 have still:∀{σ':L2.St} {G':Hp} {t':Shared},Inv (X.blk t1 G1 scope ce fp) [] σ' G' t'->(∀b∈fp,G' b=none)->∀b∈fp,FpOk (X.blk t1 G1 scope ce fp) [] G' b:=λI' hn b hb=>
  ⟨hn b hb,(I'.ok.exf b hb).1,I'.ok.exfs b hb,.inl hb,λx c e=>(I'.ok.exf b hb).2 x c e,λp hp=>absurd (show p∈([]:List (Addr×Obj))++[] from hp) (by simp)⟩
 have loop:codeAny (model X.prog X.w) X.A (.compLoop (.SetComp elt [⟨tg,iter,ifs,0⟩] scope pos) 0 (.ref it) (.ref D) ce) (compPost (model X.prog X.w) X.A X.xe none (EP X pins σ Q) (.ref D) t1.heap.objs.size) t2:=by
  refine PpSet.compLoopS_any (λn t'=>∃i G',Inv (X.blk t1 G1 scope ce fp) [] (wipe σ (own.map (·.2))) G' t'/\tn i t'.heap/\(∀b∈fp,G' b=none)/\W i n G') ?_ m0 ⟨0,G1,I2,st2,none1,w0⟩;rintro n t3 ⟨i,G3,I3,st3,n3,w3⟩;rcases turn i n G3 w3 with⟨stop,fin⟩|⟨go,Nx,hNx,step⟩
  .refine thnF (T.done (X.blk t1 G1 scope ce fp) rfl rfl rfl hc i [] t3 _ G3 (λ_ _=>False) I3 (still I3 n3) st3 stop) λr t4 ⟨hr,I4⟩=>?_;subst hr;have I5:Inv X pins σ G3 t4:=I1.call' (ch:=fp) I4.os I4.base I4.hok I4.bare λb hb=>⟨(f1 b hb).1.2.2.2.1,(f1 b hb).1.2.1,(f1 b hb).1.2.2.2.2.1,(f1 b hb).1.2.2.2.2.2⟩;have nC:G3 t1.heap.objs.size=none:=by rw[<-cL];exact I4.free
   let⟨m,hn,_⟩:=I4.loc
   have hn':t4.heap.Ns t1.heap.objs.size m:=by rw[<-cL];exact hn
   let⟨a0,a1,_,a3,a4,a5⟩:=I1.fpOk (avd _) nC
   exact⟨m,hn',λh'' sb=>⟨.ref D,G3,I5.turned (t':=t4.toks) (λb o hb e=>(sb.2 b hb).trans e) a0 a1 a3 a4 a5,rfl,fin⟩⟩
  .refine thnF (T.item (X.blk t1 G1 scope ce fp) rfl rfl rfl hc i [] t3 _ G3 (λ_ _=>False) I3 (still I3 n3) st3 go) λr t4 ⟨u,hr,h4⟩=>?_;subst hr;refine thnF h4 λ_ t5 ⟨x,G5,I5,r5,y5,st5,n5⟩=>?_;refine thnF (pg.run _ t5 _ G5 x u _ (I5.pinned (still I5 n5) (T.obj _ _ st5)) r5 (step x G5 y5)) λ_ t6 ⟨σ6,G6,I6,hw6,q6⟩=>?_;refine thnF (pt.run _ t6 σ6 G6 _ I6 q6) λb t7 ⟨G7,I7,q7⟩=>?_;have over:∀{t':Shared} {G':Hp},Inv (X.blk t1 G1 scope ce fp) ([]++pinsAt fp t5.heap) σ6 G' t'->Nx G'->∃m,m<n/\∃i G',Inv (X.blk t1 G1 scope ce fp) [] (wipe σ (own.map (·.2))) G' t'/\tn i t'.heap/\(∀b∈fp,G' b=none)/\W i m G':=λ{t' G'} I' nx=>by
    let⟨m',hm,w'⟩:=hNx G' nx
    have pin:∀b∈fp,∀o,t5.heap.get? b=some o->t'.heap.get? b=some o/\G' b=none:=λb hb o e=>
     let z:=I'.pin (b,o) (avC _ (avC _ (mem_pinsAt hb e)))
     ⟨z.1,z.2.1⟩
    refine⟨m',hm,i+1,G',(I'.unpinned (pins:=[])).weak (by rw[<-hw6,wipe_length]) (λj v e=>?_),T.keep _ _ _ st5 λb hb o e=>(pin b hb o e).1,λb hb=>?_,w'⟩
    .rw[<-hw6]at e;exact(wipe_some e).1
    .let⟨o,e,_⟩:=T.obj _ _ st5 b hb
     exact(pin b hb o e).2
   cases b with
   |false=>
    simp![avr,if_false]at q7 |-
    exact over I7 q7
   |true=>
    simp![if_true]at q7 |-
    refine thnF (pe.run _ t7 σ6 G7 _ I7 q7) λz t8 ⟨yv,G8,I8,r8,k,S,c,ey,hD8,hz8,nx⟩=>?_;subst ey;exact add_int (X:=X.blk t1 G1 scope ce fp) I8 hD8 hz8 r8 λt9 I9=>over I9 nx
 have done:=PpSet.codeAny_compStart_set loop (T.self X.A 0 _ _ _ st2 loop);rw[hce,ht2]at done;exact done
end
section
variable{P:Program}{w:World}{A:Around}{E:Value->Shared->Prop}{s:Shared}
def nk(r:Rw):NestedKey:=.tup [.num r.1,.tup (r.2.map .num)]
theorem abh:∀a b:List Int,a.map NestedKey.num=b.map NestedKey.num->a=b
 |[],[],_=>rfl
 |[],_::_,h=>by cases h
 |_::_,[],h=>by cases h
 |x::a,y::b,h=>by
  rw[List.map_cons,List.map_cons]at h;injection h with h1 h2;injection h1 with h1;rw[h1,abh a b h2]
def afL{a b:Rw}(h:nk a=nk b):a=b:=by unfold nk at h;injection h with h;injection h with h1 h;injection h with h2 _;injection h1 with h1;injection h2 with h2;exact Prod.ext h1 (abh _ _ h2)
theorem Vt:∀l:List Int,NestedKey.depthAll (l.map .num)=0
 |[]=>by rw[avU,NestedKey.depthAll]
 |x::l=>by
  rw[List.map_cons,NestedKey.depthAll,NestedKey.depth,Vt l];rfl
def aiO(r:Rw):(nk r).depth=2:=by unfold nk;rw[NestedKey.depth,NestedKey.depthAll,NestedKey.depthAll,NestedKey.depthAll,NestedKey.depth,NestedKey.depth,Vt];rfl
def pN(P:Program)(w:World):HeapKind P w Rw where
 is:=λh r a=>(nestedKind P w).is h (nk r) a
 hash:=λr=>(nestedKind P w).hash (nk r)
 draws:=λr=>(nestedKind P w).draws (nk r)
 room:=(nestedKind P w).room
 inj:=λhx hy=>afL ((nestedKind P w).inj hx hy)
 keeps:=λx ho hd hs=>(nestedKind P w).keeps x ho hd hs
 pyHash:=λhu hk h=>(nestedKind P w).pyHash hu hk h
 eqBool:=λ{A E s x y a b Q} hu hx hy h=>(nestedKind P w).eqBool hu hx hy (by
  have e:decide (nk x=nk y)=decide (x=y):=by rw[decide_eq_decide];exact⟨afL,λh=>by rw[h]⟩
  rw[e];exact h)
 quiet:=λhk h=>(nestedKind P w).quiet hk h
abbrev RI(h:Heap)(r:Rw)(a:Addr):Prop:=NestedIs h (nk r) (.ref a)/\(nk r).depth<=8
def W6{h h':Heap}{r:Rw}{a:Addr}(x:RI h r a)(k:∀c o,h.get? c=some o->h'.get? c=some o):RI h' r a:=⟨NestedIs.at (λb o _ _ e _=>k b o e) _ _ x.1,x.2⟩
def abq{h h':Heap}{r:Rw}{a d:Addr}{o:Obj}{es:Array (Int×Value)}{ep:Nat}{t:SetTable}(x:RI h r a)(ho:h.get? d=some o)(hd:o.data=.set es ep t)(sb:Heap.SameBut d h h'):RI h' r a:=by
 refine⟨NestedIs.at (λb ob vs n hb hc=>(sb.2 b λe=>?_).trans hb) _ _ x.1,x.2⟩;subst e
 obtain rfl:ob=o:=avi (hb.symm.trans ho)
 rw[hd]at hc;cases hc
def K8{h:Heap}{i:Int}{v:Value}(x:NestedIs h (.num i) v)(n:Nat):ofAClassStatement n v=pure false/\hashByValue n v=pure true:=by
 cases x with
 |bool _=>cases n<;>exact⟨rfl,rfl⟩
 |int _ t=>cases n<;>exact⟨rfl,rfl⟩
theorem abG{h:Heap}:∀(l:List Int) (vs:List Value),NestedAll h (l.map .num) vs->∀v∈vs,∃i,NestedIs h (.num i) v
 |[],_,x,v,hv=>by
  cases x;cases hv
 |i::l,_,x,v,hv=>by
  rw[List.map_cons]at x;cases x with
  |cons x1 x2=>
   rcases au7.mp hv with e|hv
   .exact⟨i,by rw[e];exact x1⟩
   .exact abG l _ x2 v hv
def adf{n:Nat}{a:Addr}{o:Obj}{vs:Array Value}{m:Nat}(ho:s.heap.get? a=some o)(hc:o.cls=.type "tuple")(hd:o.data=.seq vs m)(hq:∀v∈vs.toList,∀(E:Value->Shared->Prop) (Q:Bool->Shared->Prop),Q false s->wpAny (model P w) A (ofAClassStatement n v) Q E s){Q:Bool->Shared->Prop}(q:Q false s) :
  wpAny (model P w) A (ofAClassStatement (n+1) (.ref a)) Q E s:=by
 have hT:s.TypeIs (.ref a) "tuple":=⟨o,ho,hc⟩
 unfold ofAClassStatement;refine wpAny_bind (wpAny_typeOf hT ?_)
 dsimp only
 have eq1:(("tuple" : String)=="tuple")=true:=#[()]
 simp![eq1,if_true,Bool.not_true,avr,if_false]
 try refine wpAny_bind (wpAny_pure ?_)
 try simp![Bool.not_true,avr,if_false]
 refine wpAny_bind (wpAny_seqItems ho hd ?_)
 dsimp only
 refine wpAny_bind ?_;rw[<-Array.forIn_toList];refine wpAny_forIn_list _ (λleft r u=>r.1=none/\u=s/\∀v∈left,v∈vs.toList) _ ?_ ?_ _ _ ⟨rfl,rfl,λv hv=>hv⟩
 .rintro v left r u ⟨hr,rfl,hall⟩;refine wpAny_bind (hq v (hall v auX) _ _ ?_);simp![avr,if_false];exact wpAny_pure ⟨rfl,rfl,λy hy=>hall y (auY _ hy)⟩
 .rintro⟨r1,r2⟩ u ⟨hr,rfl,_⟩;simp only at hr;subst hr;exact wpAny_pure q
def aaz{n:Nat}{a:Addr}{o:Obj}{vs:Array Value}{m:Nat}(ho:s.heap.get? a=some o)(hc:o.cls=.type "tuple")(hd:o.data=.seq vs m)(hq:∀v∈vs.toList,∀(E:Value->Shared->Prop) (Q:Bool->Shared->Prop),Q true s->wpAny (model P w) A (hashByValue n v) Q E s){Q:Bool->Shared->Prop}(q:Q true s) :
  wpAny (model P w) A (hashByValue (n+1) (.ref a)) Q E s:=by
 have hT:s.TypeIs (.ref a) "tuple":=⟨o,ho,hc⟩
 unfold hashByValue;refine wpAny_bind (wpAny_specialOf hT PySem.F.slot_tuple_hash.lookup ?_);show wpAny _ _ (seqItems? (.ref a) >>= _) _ _ s;refine wpAny_bind (wpAny_seqItems ho hd ?_);refine wpAny_bind ?_;show wpAny _ _ (forIn vs _ _) _ _ s;rw[<-Array.forIn_toList];refine wpAny_forIn_list _ (λleft r u=>r.1=none/\u=s/\∀v∈left,v∈vs.toList) _ ?_ ?_ _ _ ⟨rfl,rfl,λv hv=>hv⟩
 .rintro v left r u ⟨hr,rfl,hall⟩;refine wpAny_bind (hq v (hall v auX) _ _ ?_);simp![Bool.not_true,avr,if_false];exact wpAny_pure ⟨rfl,rfl,λy hy=>hall y (auY _ hy)⟩
 .rintro⟨r1,r2⟩ u ⟨hr,rfl,_⟩;simp only at hr;subst hr;exact wpAny_pure q
def Lg{r:Rw}{a:Addr}(x:RI s.heap r a):(∀{Q:Bool->Shared->Prop},Q false s->wpAny (model P w) A (ofAClassStatement 8 (.ref a)) Q E s)/\∀{Q:Bool->Shared->Prop},Q true s->wpAny (model P w) A (hashByValue 8 (.ref a)) Q E s:=by
 let⟨x,_⟩:=x
 unfold nk at x;cases x with
 | @tup _ o vs m _ ho hc hd x=>
  have items:∀v∈vs.toList,(∃i,NestedIs s.heap (.num i) v)\/∃b,v=.ref b/\∃o us k,s.heap.get? b=some o/\o.cls=.type "tuple"/\o.data=.seq us k/\∀u∈us.toList,∃i,NestedIs s.heap (.num i) u:=by
   generalize vs.toList=l at x;cases x with
   |cons x1 x=>
    cases x with
    |cons x2 x=>
     cases x;intro v hv;rcases au7.mp hv with e|hv
     .exact Or.inl ⟨_,by rw[e];exact x1⟩
     .have e:=au0.mp hv;cases x2 with
      |tup k1 k2 k3 k4=>exact Or.inr ⟨_,e,_,_,_,k1,k2,k3,abG _ _ k4⟩
  refine⟨λq=>adf ho hc hd (λv hv E' Q' q'=>?_) q,λq=>aaz ho hc hd (λv hv E' Q' q'=>?_) q⟩
  .rcases items v hv with⟨i,y⟩|⟨b,rfl,o',us,k,k1,k2,k3,k4⟩
   .rw[(K8 y 7).1];exact wpAny_pure q'
   .refine adf k1 k2 k3 (λu hu E2 Q2 q2=>?_) q';let⟨i,y⟩:=k4 u hu
    rw[(K8 y 6).1];exact wpAny_pure q2
  .rcases items v hv with⟨i,y⟩|⟨b,rfl,o',us,k,k1,k2,k3,k4⟩
   .rw[(K8 y 7).2];exact wpAny_pure q'
   .refine aaz k1 k2 k3 (λu hu E2 Q2 q2=>?_) q';let⟨i,y⟩:=k4 u hu
    rw[(K8 y 6).2];exact wpAny_pure q2
end
abbrev Ent:Type:=Addr×Rw
section
variable{P:Program}{w:World}{A:Around}{E:Value->Shared->Prop}{s:Shared}
def ents(hf:Rw->Int)(L:List Ent):List (Int×Value):=L.map λp=>(hf p.2,Value.ref p.1)
structure ug(hf:Rw->Int)(w:World)(h:Heap)(a:Addr)(L:List Ent)(es:Array (Int×Value))(ep:Nat)(t:SetTable):Prop where
 ob:∃o,h.get? a=some o/\o.ExactSet/\o.data=.set es ep t
 en:es.toList=ents hf L
 tab:TabOk t (L.map λp=>hf p.2)
 nd:(L.map Prod.snd).Nodup
 ky:∀p∈L,RI h p.2 p.1
 pl:t.plain=true
 ld:w.params.followText "set-order"=true\/t.led=true
 free:L.length*5<t.mask*3
 few:L.length<=76
variable{hf:Rw->Int}{a:Addr}{L:List Ent}{es:Array (Int×Value)}{ep:Nat}{t:SetTable}
def Av(h:es.toList=ents hf L):es.size=L.length:=by rw[<-avt,h];exact au3 _
def Rb(h:es.toList=ents hf L){i:Nat}{p:Ent}(g:L[i]?=some p):es[i]?=some (hf p.2,Value.ref p.1):=by rw[<-avx,h];unfold ents;rw[ava,g];rfl
def fits_of(h1:t.place.size=es.size)(h2:t.dummies=(List.toArray []))(h3:es.size<=t.mask):t.fits es.size=true:=by unfold SetTable.fits SetTable.fill;rw[h2,auU,beq_iff_eq,awc];exact⟨h1,by show t.place.size+0<=t.mask;omega⟩
theorem ug.fits(R:ug hf w s.heap a L es ep t):t.fits es.size=true:=by have l1:=Av R.en;have l2:=R.tab.sz;rw[au3]at l2;have l3:=R.free;exact fits_of #[] R.tab.dm #[]
def ug.sound(R:ug hf w s.heap a L es ep t):¬t.gaveWay=true:=by unfold SetTable.gaveWay;rw[mask_odd R.tab.mok];decide
def amk{r:Rw}{b:Addr}{Q:Bool->Shared->Prop}(hx:RI s.heap r b){ys:List Value}(hy:∀y∈ys,∃q c,y=Value.ref c/\RI s.heap q c)(q:Q false s):wpAny (model P w) A (searchCouldBeSeen (.ref b) ys) Q E s:=by
 unfold searchCouldBeSeen;refine wpAny_bind ?_;refine wpAny_forIn_list _ (λleft r u=>r.1=none/\u=s/\∀y∈left,∃q c,y=Value.ref c/\RI s.heap q c) _ ?_ ?_ _ _ ⟨rfl,rfl,hy⟩
 .rintro v left r u ⟨hr,rfl,hall⟩;let⟨q',c,rfl,hc⟩:=hall v auX
  have more:∀y∈left,∃q c,y=Value.ref c/\RI u.heap q c:=λy m=>hall y (auY _ m)
  dsimp only
  by_cases hv:(b==c || (carriedByValue (.ref b)&&carriedByValue (.ref c)))=true
  .exact wp_if_pos hv (wpAny_pure ⟨rfl,rfl,more⟩)
  .refine wp_if_neg hv ?_;refine wpAny_bind ((pN P w).quiet hx ?_);simp![Bool.not_true,avr,if_false];refine wpAny_bind ((pN P w).quiet hc ?_);simp![Bool.not_true,avr,if_false];refine wpAny_bind ((Lg hx).1 ?_);simp![avr,if_false];refine wpAny_bind ((Lg hc).1 ?_);simp![avr,if_false];exact wpAny_pure ⟨rfl,rfl,more⟩
 .rintro⟨r1,r2⟩ u ⟨hr,rfl,_⟩;simp only at hr;subst hr;exact wpAny_pure q
abbrev wC(m:Nat)(h:Int)(c:Nat):SetTable.Probe:=nth m (runAt m (SetTable.bits h%(m+1)) (SetTable.bits h)) c
def acA(m:Nat)(h:Int)(c:Nat):(wC m h c).dummy=none:=by
 have all:∀(n:Nat) (p:SetTable.Probe),p.dummy=none->(nth m p n).dummy=none:=by
  intro n
  induction n with
  |zero=>exact λp k=>k
  |succ n ih=>
   intro p k;refine ih (adv m p) ?_;unfold adv
   split<;>exact k
 exact all c _ rfl
def Yv(m:Nat)(h:Int)(c d:Nat):nth m (wC m h c) d=wC m h (c+d):=(nth_add m c _ d).symm
def seek(R:ug hf w s.heap a L es ep t){x:Addr}{r:Rw}(hx:RI s.heap r x){h:Int}(hh:hf r=h)(hu:(pN P w).room A){N:Nat}(hN:N<10*SetTable.turns t.mask)(out:way t.mask (h) N∉t.place.toList)(inn:∀c,c<N->way t.mask (h) c∈t.place.toList){Q:SetFound->Shared->Prop}
  (yes:r∈L.map Prod.snd->Q (.there none) s) (no:r∉L.map Prod.snd->Q (.free (way t.mask (h) N) false) s) :
  ∀(f c:Nat) (st:Option SetTable.Probe),st.getD (t.probeStart (h))=wC t.mask (h) c->c<=N->N-c<f->
   (∀(i:Nat) (p:Ent),L[i]?=some p->p.2=r->∃d,c<=d/\d<N/\t.place.toList[i]?=some (way t.mask (h) d))->
   wpAny (model P w) A (setSearchFrom a (.ref x) (h) true f st) Q E s:=by
 intro f
 induction f with
 |zero=>exact λ_ _ _ _ hfl _=>absurd hfl (Nat.not_lt_zero _)
 |succ f ih=>
  intro c st hst hc hfl left;let⟨o,ho,hex,hd⟩:=R.ob
  rw[setSearchFrom_succ];refine wpAny_bind (wpAny_setState_of ho hd R.fits ?_)
  dsimp only
  refine wp_if_neg R.sound ?_
  try refine wpAny_bind (wpAny_pure ?_)
  have jAt:∀d,(nth t.mask (wC t.mask h c) d).j=way t.mask h (c+d):=λd=>congrArg SetTable.Probe.j (Yv t.mask h c d);have hashOf:∀(i:Nat) (p:Ent),L[i]?=some p->(es[i]?.map (·.1)).getD 0=hf p.2:=λi p g=>by
   rw[Rb R.en g];rfl
  have spec:=go_spec t R.tab.ris R.tab.dm (λi=>(es[i]?.map (·.1)).getD 0) h (10*SetTable.turns t.mask) (N-c) (wC t.mask h c) (acA _ _ _) #[] (λd hdn=>by rw[jAt];exact inn (c+d) #[]) (by rw[jAt,av8 hc];exact out);rcases spec with⟨d,i,hdn,hi,hhi,hno,hpr⟩|⟨hno,hpr⟩
  .have hpr':t.probe (λi=>(es[i]?.map (·.1)).getD 0) h (st.getD (t.probeStart h))=some (.candidate (way t.mask h (c+d)) i (wC t.mask h (c+(d+1)))):=by
    rw[hst,<-jAt,<-Yv];exact hpr
   rw[hpr']
   dsimp only
   rw[jAt]at hi;have hil:i<L.length:=by have k1:=(auZ.mp hi).1;have k2:=R.tab.sz;rw[au3]at k2;rw[avt]at k1;omega
   obtain⟨p,hp⟩:∃p,L[i]?=some p:=⟨_,auV hil⟩;have pm:=au4 hp;have go:wpAny (model P w) A (searchRest a (.ref x) h true f es t (way t.mask h (c+d)) i (wC t.mask h (c+(d+1)))) Q E s:=by
    unfold searchRest;rw[Rb R.en hp]
    dsimp only
    refine wpAny_bind (wpAny_holding ((pN P w).eqBool hu (R.ky p pm) hx ?_));refine wpAny_bind (wpAny_setState_of ho hd R.fits ?_)
    dsimp only
    by_cases same:p.2=r
    .exact wp_if_pos (by simp[same]) (wpAny_pure (yes (au2.mpr ⟨p,pm,same⟩)))
    .refine wp_if_neg (by simp[same]) ?_
     try refine wpAny_bind (wpAny_pure ?_)
     rw[sameMem]
     dsimp only
     have live:t.slot (way t.mask h (c+d))=.live i:=slot_live R.tab.ris hi;simp![if_true,live,Rb R.en hp];refine wpAny_bind (wpAny_isSame_ref_self (wpAny_bind (wpAny_pure ?_)));simp![if_true];refine wp_if_neg (by simp[same]) ?_;refine ih (c+(d+1)) _ rfl #[] #[] λi0 p0 g0 e0=>?_;let⟨d0,a1,a2,a3⟩:=left i0 p0 g0 e0
     refine⟨d0,?_,a2,a3⟩;by_cases c1:d0<c+d
     .exact absurd ((hashOf i0 p0 g0).trans ((congrArg hf e0).trans hh)) (hno (d0-c) i0 #[] (by rw[jAt,av8 a1];exact a3))
     .by_cases c2:d0=c+d
      .rw[c2]at a3;have live0:=slot_live R.tab.ris a3;rw[live]at live0;injection live0 with ei;rw[<-ei,hp]at g0;exact absurd ((congrArg Prod.snd (avi g0)).trans e0) same
      .omega
   by_cases hl:t.led=true
   .refine wp_if_neg (by simp[hl]) ?_
    try refine wpAny_bind (wpAny_pure ?_)
    exact go
   .refine wp_if_pos (by simp[hl]) ?_;refine wpAny_bind (amk hx (λy hy=>?_) ?_)
    .let⟨e,he,ee⟩:=au2.mp hy
     have h1:e∈es/\e.1=h:=by simpa using he
     have h2:e∈es.toList:=by simpa using h1.1
     rw[R.en]at h2;let⟨p2,hp2,e2⟩:=au2.mp h2
     exact⟨p2.2,p2.1,by rw[<-ee,<-e2],R.ky p2 hp2⟩
    .refine wp_if_neg #[()] ?_
     try refine wpAny_bind (wpAny_pure ?_)
     exact go
  .have hpr':t.probe (λi=>(es[i]?.map (·.1)).getD 0) h (st.getD (t.probeStart h))=some (.empty (way t.mask h N) none):=by
    have e2:way t.mask h N=(nth t.mask (wC t.mask h c) (N-c)).j:=by rw[jAt,av8 hc]
    rw[hst,e2];exact hpr
   rw[hpr']
   dsimp only
   refine wpAny_pure (no λhm=>?_);let⟨p0,m0,e0⟩:=au2.mp hm
   let⟨i0,hi0,e1⟩:=List.getElem_of_mem m0
   have g0:L[i0]?=some p0:=by rw[auV hi0,e1]
   let⟨d0,a1,a2,a3⟩:=left i0 p0 g0 e0
   exact hno (d0-c) i0 #[] (by rw[jAt,av8 a1];exact a3) ((hashOf i0 p0 g0).trans ((congrArg hf e0).trans hh))
def look(R:ug hf w s.heap a L es ep t){x:Addr}{r:Rw}(hx:RI s.heap r x)(hu:(pN P w).room A){Q:SetFound->Shared->Prop}(yes:r∈L.map Prod.snd->Q (.there none) s)
  (no:∀N,r∉L.map Prod.snd->way t.mask (hf r) N∉t.place.toList->(∀c,c<N->way t.mask (hf r) c∈t.place.toList)->Q (.free (way t.mask (hf r) N) false) s):wpAny (model P w) A (setSearch a (.ref x) (hf r) true) Q E s:=by
 have hfree:=R.free;let⟨N,hN,out,inn⟩:=R.tab.first (by rw[au3];omega) (hf r)
 have small:N<100000:=by
  have:10*SetTable.turns t.mask<=1420:=by unfold SetTable.turns;rcases R.tab.mok with e|e|e<;>omega
  omega
 unfold setSearch;refine seek R hx rfl hu hN out inn yes (λhn=>no N hn out inn) 100000 0 none rfl (avv _) #[] λi p g e=>?_;have hi:(L.map λp=>hf p.2)[i]?=some (hf r):=by rw[ava,g,<-e];rfl
 have hil:i<t.place.toList.length:=by have k1:=(auZ.mp g).1;have k2:=R.tab.sz;rw[au3]at k2;rw[avt];omega
 let⟨c,hc,ec⟩:=R.tab.before out hi (auV hil)
 exact⟨c,avv _,hc,by rw[auV hil,ec]⟩
end
section
variable{P:Program}{w:World}{A:Around}{E:Value->Shared->Prop}{s:Shared}{hf:Rw->Int}{a:Addr}{L:List Ent}{es:Array (Int×Value)}{ep:Nat}{t:SetTable}
def ahC(L:List Ent)(n:Nat)(x:Addr)(r:Rw):ents hf (L.take n++(x,r)::L.drop n)=(ents hf L).take n++(hf r,Value.ref x)::(ents hf L).drop n:=by unfold ents;rw[List.map_append,List.map_cons,List.map_take,List.map_drop]
def range_all(L:List Ent):(List.range L.length).filterMap (λi=>L[i]?)=L:=by
 have part:∀n,n<=L.length->(List.range n).filterMap (λi=>L[i]?)=L.take n:=by
  intro n
  induction n with
  |zero=>exact λ_=>rfl
  |succ n ih=>
   intro hn;rw[List.range_succ,List.filterMap_append,ih #[],List.take_add_one,auV (show n<L.length by omega)];congr 1;rw[List.filterMap_cons_some (auV (show n<L.length by omega))];rfl
 rw[part _ (avd _),List.take_length]
def agc(h:es.toList=ents hf L){order:Array Nat}(hp:order.toList.Perm (List.range L.length)) :
  ∃M:List Ent,(order.filterMap (es[·]?)).toList=ents hf M/\M.Perm L/\(M.map λp=>hf p.2)=order.toList.map λi=>(es.map (·.1)).getD i 0:=by
 have inside:∀i∈order.toList,i<L.length:=λi hi=>List.mem_range.mp (hp.mem_iff.mp hi);refine⟨order.toList.filterMap (λi=>L[i]?),?_,?_,?_⟩
 .have e1:(order.filterMap (es[·]?)).toList=order.toList.filterMap (λi=>es[i]?):=by
   first | rw[Array.toList_filterMap] | simp
  rw[e1];unfold ents;rw[List.map_filterMap];congr 1;funext i;rw[<-avx,h];unfold ents;rw[ava]
 .have:=hp.filterMap (λi=>L[i]?);rw[range_all]at this;exact this
 .generalize order.toList=l at inside
  induction l with
  |nil=>rfl
  |cons i l ih=>
   have hi:=inside i auX;have e5:(es.map (·.1))[i]?=some (hf (L[i]).2):=by rw[Array.getElem?_map,Rb h (auV hi)];rfl
   rw[List.filterMap_cons_some (auV hi),List.map_cons,List.map_cons,ih λj hj=>inside j (auY _ hj),Array.getD_eq_getD_getElem?,e5];rfl
def apd{o:Obj}(ho:s.heap.get? a=some o)(hex:o.ExactSet)(hd:o.data=.set es ep t)(he:es.toList=ents hf L)(hsz:t.place.size=es.size)(hdm:t.dummies=(List.toArray []))(hfl:es.size<=t.mask)(nd:(L.map Prod.snd).Nodup)(ky:∀p∈L,RI s.heap p.2 p.1)(pl:t.plain=true)
  (ld:w.params.followText "set-order"=true\/t.led=true) (few:L.length<=76) {wanted M:Nat} (hw:SetTable.sizeAbove wanted-1=M) (hM:MaskOk M) (hw2:SetTable.sizeAbove wanted<=128) (hn:L.length*5<M*3) {Q:Unit->Shared->Prop}
  (q:∀h' K es' ep' t',Heap.SameBut a s.heap h'->ug hf w h' a K es' ep' t'->K.Perm L->Q () { s with heap:=h' }):wpAny (model P w) A (setRelay a wanted) Q E s:=by
 have len:=Av he;let⟨t',order,e,hp,T,em,el,epl,ed⟩:=relaid_ok t (hs:=es.map (·.1)) (wanted:=wanted) hw hM (by rw[Array.size_map,len];omega)
 rw[Array.size_map,len]at hp;let⟨K,k1,k2,k3⟩:=agc he hp
 rw[<-k3]at T;have ks:(order.filterMap (es[·]?)).size=es.size:=by rw[Av k1,k2.length_eq,len]
 rw[setRelay_eq];refine wpAny_bind (wpAny_setState_of ho hd (fits_of hsz hdm hfl) ?_)
 dsimp only
 refine wp_if_neg (by rw[sizeLine_eq];omega) ?_
 try refine wpAny_bind (wpAny_pure ?_)
 rw[e]
 dsimp only
 refine wpAny_bind ?_;refine wp_if_neg (by rw[ks];simp) ?_
 try refine wpAny_bind (wpAny_pure ?_)
 refine wpAny_pure ?_
 dsimp only
 refine wpAny_storeSet_of ho hd ?_ (by rw[ks,len,sizeLine_eq];omega);have sb:Heap.SameBut a s.heap (s.heap.update a (Obj.putSet (order.filterMap (es[·]?)) t')):=Heap.SameBut.update ..;refine q _ K (order.filterMap (es[·]?)) (ep+1) t' sb ⟨⟨_,store_at ho hd,⟨hex.1,hex.2.1,hex.2.2⟩,rfl⟩,k1,T,(k2.map Prod.snd).nodup_iff.mpr nd,λp hp=>abq (ky p (k2.mem_iff.mp hp)) ho hd sb,by rw[epl];exact pl,by rw[el];exact ld,?_,by rw[k2.length_eq];exact few⟩ k2;rw[k2.length_eq,em];exact hn
def anr(R:ug hf w s.heap a L es ep t){x:Addr}{r:Rw}(hx:RI s.heap r x)(hu:(pN P w).room A)(hfew:r∉L.map Prod.snd->L.length+1<=76){Q:Bool->Shared->Prop}
  (q:∀b h' K es' ep' t',Heap.SameBut a s.heap h'->ug hf w h' a K es' ep' t'->(r∈L.map Prod.snd->K=L)->(r∉L.map Prod.snd->K.Perm ((x,r)::L))->Q b { s with heap:=h' }):wpAny (model P w) A (setAddHashed a (.ref x) (hf r)) Q E s:=by
 let⟨o,ho,hex,hd⟩:=R.ob
 have len:=Av R.en;have hfree:=R.free;unfold setAddHashed;refine wpAny_holding ?_;rw[show(100000:Nat)=99999+1 from rfl,setAddHashedIn_succ];refine wpAny_bind (wpAny_setState_of ho hd R.fits ?_)
 dsimp only
 refine wp_if_neg (by simp[byScan,Value.scannable]) ?_
 try refine wpAny_bind (wpAny_pure ?_)
 refine wpAny_bind (look R hx hu (λhm=>?_) λN hm out inn=>?_)
 .dsimp only
  exact wpAny_pure (q false s.heap L es ep t (Heap.SameBut.refl a s.heap) R (λ_=>rfl) λz=>absurd hm z)
 have few1:=hfew hm
 dsimp only
 refine wpAny_bind (wpAny_setState_of ho hd R.fits ?_)
 dsimp only
 let⟨q1,q2,q3,q4,q5,q6,q7,q8,q9⟩:=R.tab.put out inn
 have pl1:(t.put (way t.mask (hf r) N)).1.plain=true:=by rw[q6];exact R.pl
 generalize hpt:t.put (way t.mask (hf r) N)=pt at q1 q3 q4 q5 q6 q7 q8 q9 pl1 |-
 let⟨t1,n⟩:=pt
 dsimp only at q1 q3 q4 q5 q6 q7 q8 q9 pl1 |-
 subst q1
 first
  |(refine wpAny_bind ?_;refine wp_if_pos pl1 ?_;refine(Lg hx).2 ?_)
  |refine wp_if_pos pl1 (wpAny_bind ((Lg hx).2 ?_))
 simp![if_true];have ein:(SetTable.insertAt es (SetTable.below t.place (way t.mask (hf r) N)) (hf r,Value.ref x)).toList=ents hf (L.take (SetTable.below t.place (way t.mask (hf r) N))++(x,r)::L.drop (SetTable.below t.place (way t.mask (hf r) N))):=by rw[SetTable.toList_insertAt,ahC,R.en]
 generalize hnn:SetTable.below t.place (way t.mask (hf r) N)=n at q2 q3 ein |-
 have pm:=put_perm L n (x,r);have hs1:(L.take n++(x,r)::L.drop n).map (λp=>hf p.2)=(L.map λp=>hf p.2).take n++hf r::(L.map λp=>hf p.2).drop n:=by rw[List.map_append,List.map_cons,List.map_take,List.map_drop]
 rw[<-hs1]at q3;have nd1:((L.take n++(x,r)::L.drop n).map Prod.snd).Nodup:=by refine(pm.map Prod.snd).nodup_iff.mpr ?_;rw[List.map_cons];exact avO.mpr ⟨hm,R.nd⟩
 have len1:(SetTable.insertAt es n (hf r,Value.ref x)).size=L.length+1:=by rw[Av ein,pm.length_eq];rfl
 generalize SetTable.insertAt es n (hf r,Value.ref x)=es1 at ein len1 |-
 have lenM:(L.take n++(x,r)::L.drop n).length=L.length+1:=pm.length_eq;generalize L.take n++(x,r)::L.drop n=M at pm q3 nd1 ein lenM;refine wpAny_bind (wpAny_storeSet_of ho hd ?_ (by rw[len1,sizeLine_eq];omega));have sb:Heap.SameBut a s.heap (s.heap.update a (Obj.putSet es1 t1)):=Heap.SameBut.update ..;have ho1:=store_at (es':=es1) (t':=t1) ho hd;generalize s.heap.update a (Obj.putSet es1 t1)=h1 at sb ho1 |-
 have ky1:∀p∈M,RI h1 p.2 p.1:=λp hp=>by
  rcases au7.mp (pm.mem_iff.mp hp) with e|m
  .rw[e];exact abq hx ho hd sb
  .exact abq (R.ky p m) ho hd sb
 have ld1:w.params.followText "set-order"=true\/t1.led=true:=by rw[q5];exact R.ld
 have full:t1.tooFull=true↔(L.length+1)*5 ≥ t1.mask*3:=by unfold SetTable.tooFull;rw[awc,q9,au3]
 by_cases hfu:t1.tooFull=true
 .first
   |(refine wpAny_bind ?_;refine wp_if_pos (by simp[hfu]) ?_)
   |(refine wp_if_pos (by simp[hfu]) ?_;refine wpAny_bind ?_)
  have over:=full.mp hfu;rw[len];have psz:t1.place.size=es1.size:=by have:=q3.sz;rw[au3,lenM]at this;rw[this,len1]
  have which:(t.mask=7/\L.length=4)\/(t.mask=31/\L.length=18):=by
   rcases R.tab.mok with e|e|e
   .rw[q4,e]at over;rw[e]at hfree;exact Or.inl ⟨e,#[]⟩
   .rw[q4,e]at over;rw[e]at hfree;exact Or.inr ⟨e,#[]⟩
   .rw[q4,e]at over;omega
  have go:∀m,SetTable.sizeAbove (SetTable.grown (L.length+1))-1=m->MaskOk m->SetTable.sizeAbove (SetTable.grown (L.length+1))<=128->(L.length+1)*5<m*3->
    wpAny (model P w) A (setRelay a (SetTable.grown (L.length+1))) (λ_ u=>wpAny (model P w) A (pure true) Q E u) E { s with heap:=h1 }:=λm g1 g2 g3 g4=>
   apd (s:={ s with heap:=h1 }) ho1 ⟨hex.1,hex.2.1,hex.2.2⟩ rfl ein psz q3.dm (by rw[len1,q4];rcases which with⟨e,e2⟩|⟨e,e2⟩<;>omega) nd1 ky1 pl1 ld1 (by rw[lenM];exact few1) g1 g2 g3 (by rw[lenM];exact g4)
    λh2 K es2 ep2 t2 sb2 R2 pm2=>wpAny_pure (q true h2 K es2 ep2 t2 (sb.trans sb2) R2 (λz=>absurd z hm) λ_=>pm2.trans pm)
  rcases which with⟨_,e2⟩|⟨_,e2⟩
  .exact go 31 (by rw[e2,size_20]) (.inr (.inl rfl)) (by rw[e2,size_20];decide) #[]
  .exact go 127 (by rw[e2,size_76]) (.inr (.inr rfl)) (by rw[e2,size_76];decide) #[]
 .first
   |refine wp_if_neg (by simp[hfu]) ?_
   |(refine wpAny_bind ?_;refine wp_if_neg (by simp[hfu]) ?_;refine wpAny_pure ?_)
  have under:¬(L.length+1)*5 ≥ t1.mask*3:=λz=>hfu (full.mpr z);exact wpAny_pure (q true h1 M es1 (ep+1) t1 sb ⟨⟨_,ho1,⟨hex.1,hex.2.1,hex.2.2⟩,rfl⟩,ein,q3,nd1,ky1,pl1,ld1,by rw[lenM];omega,by rw[lenM];exact few1⟩ (λz=>absurd z hm) λ_=>pm)
end
theorem Gp{α:Type}[DecidableEq α]:∀(l D:List α),l.Nodup->(∀x∈l,x∈D)->l.length<=D.length
 |[],_,_,_=>avv _
 |x::l,D,hn,hs=>by
  let⟨h1,h2⟩:=avO.mp hn
  have mx:=hs x auX;have ih:=Gp l (D.erase x) h2 λy hy=>(List.mem_erase_of_ne (λe=>h1 (by rw[<-e];exact hy))).2 (hs y (auY _ hy));have e:=List.length_erase_of_mem mx;have hp:=List.length_pos_of_mem mx;rw[au5];omega
structure Has(ks:List Ent)(i:Nat)(L:List Ent):Prop where
 sub:∀p∈L,p∈ks.take i
 all:∀p∈ks.take i,p.2∈L.map Prod.snd
def Jb{α:Type}{l:List α}{i:Nat}{x:α}(h:l[i]?=some x):l.take (i+1)=l.take i++[x]:=by rw[List.take_add_one,h];rfl
def Has.next{ks L K:List Ent}{i:Nat}{x:Ent}(g:Has ks i L)(h:ks[i]?=some x)(h1:x.2∈L.map Prod.snd->K=L)(h2:x.2∉L.map Prod.snd->K.Perm (x::L)):Has ks (i+1) K:=by
 by_cases c:x.2∈L.map Prod.snd
 .rw[h1 c];refine⟨λp hp=>?_,λp hp=>?_⟩
  .rw[Jb h];exact avA _ (g.sub p hp)
  .rw[Jb h]at hp;rcases au8.mp hp with m|m
   .exact g.all p m
   .rw[au0.mp m];exact c
 .have pm:=h2 c;refine⟨λp hp=>?_,λp hp=>?_⟩
  .rw[Jb h];rcases au7.mp (pm.mem_iff.mp hp) with e|m
   .exact avC _ (au0.mpr e)
   .exact avA _ (g.sub p m)
  .rw[(pm.map Prod.snd).mem_iff,List.map_cons];rw[Jb h]at hp;rcases au8.mp hp with m|m
   .exact auY _ (g.all p m)
   .rw[au0.mp m];exact auX
def Ck(w:World):Obj:={ cls:=.type "set",dict:=none,data:=.set (List.toArray []) 0 (.fresh 0 0 (!w.params.followText "set-order")) }
section
variable{P:Program}{w:World}{A:Around}{E:Value->Shared->Prop}{s:Shared}{hf:Rw->Int}
def ug.stay{h h':Heap}{a:Addr}{L:List Ent}{es:Array (Int×Value)}{ep:Nat}{t:SetTable}(R:ug hf w h a L es ep t)(ha:∀o,h.get? a=some o->h'.get? a=some o)(hk:∀p∈L,RI h' p.2 p.1):ug hf w h' a L es ep t:=by
 let⟨o,ho,r⟩:=R.ob
 exact⟨⟨o,ha o ho,r⟩,R.en,R.tab,R.nd,hk,R.pl,R.ld,R.free,R.few⟩
def ahI{h:Heap}{a:Addr}(ho:h.get? a=some (Ck w)):ug hf w h a [] (List.toArray []) 0 (.fresh 0 0 (!w.params.followText "set-order")):=by
 refine⟨⟨_,ho,⟨rfl,rfl,rfl⟩,rfl⟩,rfl,⟨List.Pairwise.nil,rfl,rfl,.inl rfl,λx hx=>(by cases hx),λi h j hi=>(by simp at hi)⟩,av6,λp hp=>(by cases hp),rfl,?_,(show 0*5<7*3 by decide),avv _⟩;show _\/(!w.params.followText "set-order")=true
 cases w.params.followText "set-order"
 .exact .inr rfl
 .exact .inl rfl
def aj5(hhf:∀r,(pN P w).hash r=hf r){I:Addr}{fp wr:List Addr}{G:Array GenState->Array GenState->Prop}{n:Nat}{Pv:Nat->Value->Prop}{St:Nat->Shared->Prop}{R:Result->Shared->Prop}(W:WalksS P w A.in1 I fp wr G n Pv St)(S:Addr)(hSf:S∉fp)(ks:List Ent)(hn:n=ks.length)
  (D:List Rw) (hD:D.length<=76) (hkD:∀p∈ks,p.2∈D) (hval:∀i v,Pv i v->∃p,ks[i]?=some p/\v=.ref p.1) (h0:Heap) (hk:∀p∈ks,RI h0 p.2 p.1) (hS0:h0.get? S=none) (hw0:∀b∈wr,h0.get? b=none) (hu:(pN P w).room A.in1) :
  ∀(m i:Nat) (s:Shared),n-i=m->i<=n->St i s->(∀b o,h0.get? b=some o->s.heap.get? b=some o)->(∃L es ep t,ug hf w s.heap S L es ep t/\Has ks i L)->
   (∀u L es ep t,Moved (S::wr) G s u->ug hf w u.heap S L es ep t->Has ks n L->(∀b o,h0.get? b=some o->u.heap.get? b=some o)->R (.ok (.ret .none)) u)->
   codeAny (model P w) A (.builtin "set.update.loop" ⟨[.ref S,.ref I],[]⟩) R s:=by
 have Sw:S∉wr:=λh=>hSf (W.sub _ h);have wS:∀b∈wr,b∈S::wr:=λb hb=>auY _ hb;have old:∀{s u:Shared},Moved wr G s u->(∀b o,h0.get? b=some o->s.heap.get? b=some o)->∀b o,h0.get? b=some o->u.heap.get? b=some o:=λhm hkp b o e=>hm.heap b o (λhb=>by rw[hw0 b hb]at e;cases e) (hkp b o e);intro m
 induction m with
 |zero=>
  intro i s hm0 hi hst hkp ⟨L,es,ep,t,hS,g⟩ hR
  obtain rfl:i=n:=#[]
  refine codeAny_builtin PyProof.Rows.F.entry_set_update_loop ?_;rw[Around.under_plainId PyProof.Rows.F.plain_set_update_loop _];refine wpAny_bind (W.done s _ _ hst λu hm=>?_);have kept:=old hm hkp;exact wpAny_pure (hR u L es ep t (hm.mono wS) (hS.stay (λo e=>hm.heap S o Sw e) λp hp=>W6 (hk p (avF (g.sub p hp))) kept) g kept)
 |succ m ih=>
  intro i s hm0 hi hst hkp ⟨L,es,ep,t,hS,g⟩ hR;have hlt:i<n:=#[];refine codeAny_builtin PyProof.Rows.F.entry_set_update_loop ?_;rw[Around.under_plainId PyProof.Rows.F.plain_set_update_loop _];refine wpAny_bind (W.item i s _ _ hlt hst λv u hP hst' hm=>?_);let⟨p,hp,rfl⟩:=hval i v hP
  have kept:=old hm hkp;have hS':ug hf w u.heap S L es ep t:=hS.stay (λo e=>hm.heap S o Sw e) λq hq=>W6 (hk q (avF (g.sub q hq))) kept;have hx:RI u.heap p.2 p.1:=W6 (hk p (au4 hp)) kept;refine wpAny_bind (wpAny_holding ?_);unfold setAdd;refine wpAny_holding ?_;refine wpAny_bind ((pN P w).pyHash hu hx ?_);rw[hhf];have inD:∀y∈L.map Prod.snd,y∈D:=λy hy=>by
   let⟨q,hq,e⟩:=au2.mp hy
   rw[<-e];exact hkD q (avF (g.sub q hq))
  refine anr (s:={ u with toks:=u.toks+(pN P w).draws p.2 }) hS' hx hu (λhnew=>?_) λb h' K es' ep' t' sb hS2 c1 c2=>?_
  .have:=Gp (p.2::L.map Prod.snd) D (avO.mpr ⟨hnew,hS.nd⟩) λy hy=>by
    rcases au7.mp hy with e|hy
    .rw[e];exact hkD p (au4 hp)
    .exact inD y hy
   rw[au5,au3]at this;omega
  have kept2:∀b o,h0.get? b=some o->h'.get? b=some o:=λb o e=>(sb.2 b (λz=>by rw[z,hS0]at e;cases e)).trans (kept b o e);refine wpAny_pure ⟨plainId_quiet PyProof.Rows.F.plain_set_update_loop _,ih (i+1) _ #[] hlt (W.frame _ u _ _ hst' (Nat.le_add_right _ _) λb hb o e=>?_) kept2 ⟨K,es',ep',t',hS2,g.next hp c1 c2⟩ λv L2 es2 ep2 t2 hm2 hS3 g3 k3=>?_⟩
  .rw[sb.2 b (λh:b=S=>hSf (by rw[<-h];exact hb))];exact e
  .refine hR v L2 es2 ep2 t2 (Moved.trans W.gtrans ((hm.mono wS).then_heap (Nat.le_add_right _ _) λb o hb e=>?_) hm2) hS3 g3 k3;rw[sb.2 b (λh:b=S=>hb (by rw[h];exact auX))];exact e
set_option maxHeartbeats 4000000 in
theorem acO(hhf:∀r,(pN P w).hash r=hf r){l:Addr}{items:Array Value}(ks:List Ent)(D:List Rw)(hD:D.length<=76)(hkD:∀p∈ks,p.2∈D){Q:Value->Shared->Prop}(hh:A.handled=none)(hl:s.heap.IsList l items)(hit:items.toList=ks.map λp=>Value.ref p.1)
  (hk:∀p∈ks,RI s.heap p.2 p.1) (hu:A.units+3+8<cLine)
  (h:∀(h':Heap) (tk:Nat) L es ep t,ug hf w h' s.heap.objs.size L es ep t->Has ks ks.length L->(∀b o,s.heap.get? b=some o->h'.get? b=some o)->Q (.ref s.heap.objs.size) { s with heap:=h',toks:=tk }) :
  wpAny (model P w) A (call (.type "set") [.ref l]) Q E s:=by
 have isz:items.size=ks.length:=by rw[<-avt,hit,au3]
 let⟨cc,tl,hmro⟩:=PySem.F.called_set.mro
 have hmade:=PySem.F.called_set.made;have hsub:=PySem.F.called_set.sub;refine wpAny_call (codeAny_of_tree ?_);show wpAny _ _ (callAny (.type "set") _) _ _ _
 refine wpAny_pure ⟨Code.quiet_builtin _ #[[]],codeAny_builtin PySem.F.entry_type_call ?_⟩;rw[Around.under_plain (weight_type_call_type "set" [.ref l] []) rfl]
 have nt:=PySem.F.called_set.notType;have cr:=PySem.F.called_set.canCreate;have hct:=PySem.F.typeCall_set_1 (.ref l)
 (repeat (any_goals first | assumption | wp_step))
 refine codeAny_mono (code_set_led1 (.ref l) (E:=E) (Q₁:=λv u=>v=.ref s.heap.objs.size/\u={ s with heap:=s.heap.push (Ck w) }) ⟨rfl,rfl⟩) λr u hr=>?_;cases r with
 |error e=>exact hr
 |ok fl=>
  cases fl with
  |ret v=>
   let⟨rfl,rfl⟩:=hr
   have hS:(s.heap.push (Ck w)).get? s.heap.objs.size=some (Ck w):=Heap.get?_push_size _ rfl;have hT:Shared.TypeIs { s with heap:=s.heap.push (Ck w) } (.ref s.heap.objs.size) "set":=⟨_,hS,rfl⟩
   have hli:=PySem.F.called_set.init.lookup;have hbi:=PySem.F.called_set.init.bind (.ref s.heap.objs.size)
   (repeat (any_goals first | assumption | wp_step))
   refine codeAny_mono (codeAny_call_builtin (R:=wants (λr u=>r=.none/\∃h' tk L es ep t,u={ s with heap:=h',toks:=tk }/\ug hf w h' s.heap.objs.size L es ep t/\Has ks ks.length L/\∀b o,s.heap.get? b=some o->h'.get? b=some o) E) PySem.F.called_set.init.plain PySem.F.entry_set_init (check_set_init_1 hT ?_)) λr₂ u₂ hr₂=>?_
   .let⟨ol,hol,hcl,nl,hdl⟩:=hl
    let⟨ocls,odict,odata,oslots⟩:=ol
    simp only at hcl hdl;subst hcl;subst hdl;have hol':(s.heap.push (Ck w)).get? l=some { cls:=.type "list",dict:=odict,data:=.seq items nl,slots:=oslots }:=Heap.get?_push_of_some _ hol
    have sl1:=PySem.F.sub_list_set;have sl2:=PySem.F.sub_list_frozenset;have nd:(Value.type "list"==Value.type "dict")=false:=#[()]
    have hl1:(s.heap.push (Ck w)).IsList l items:=⟨_,hol',rfl,nl,rfl⟩;unfold Builtin.«set.__init__» noKeywords Builtin.Frozenset.updateFrom;generalize hPI:pyIter=PI
    wp_walk
    subst hPI;refine wpAny_pyIter_list hl1 ?_;refine wpAny_bind (wpAny_runValue ?_);have lS:l<s.heap.objs.size:=Heap.lt_size hol;have h3:A.in1.in1.in1.handled=none:=by simp[hh]
    have sz1:(s.heap.push (Ck w)).objs.size=s.heap.objs.size+1:=Heap.size_push ..;have lI:l≠(s.heap.push (Ck w)).objs.size:=by rw[sz1];exact avq (avQ lS)
    have Sf:s.heap.objs.size∉[(s.heap.push (Ck w)).objs.size,l]:=by rw[sz1];simp![au7,avm,or_false,not_or];exact⟨avq (Nat.lt_succ_self _),Nat.ne_of_gt lS⟩
    have hval:∀(i:Nat) (v:Value),items[i]?=some v->∃p,ks[i]?=some p/\v=.ref p.1:=λi v hv=>by
     rw[<-avx,hit,ava]at hv;let⟨p,g1,g2⟩:=avL.mp hv
     exact⟨p,g1,g2.symm⟩
    have fresh:∀b,s.heap.objs.size<=b->s.heap.get? b=none:=λb hb=>by
     cases q:s.heap.get? b with
     |none=>rfl
     |some o=>exact absurd (Heap.lt_size q) (Nat.not_lt_of_le hb)
    refine aj5 hhf ((Walks.list h3 _ l lI items).toS) s.heap.objs.size Sf ks isz D hD hkD hval s.heap hk (fresh _ (avd _)) (λb hb=>fresh b (by rw[au0.mp hb,sz1];exact Nat.le_succ _)) hu (items.size-0) 0 _ #[] (avv _)
     ⟨⟨_,Heap.get?_push_size _ rfl,rfl,rfl⟩,(hl1.push _)⟩ (λb o e=>Heap.get?_push_of_some _ (Heap.get?_push_of_some _ e)) ⟨[],(List.toArray []),0,_,ahI (Heap.get?_push_of_some _ hS),⟨λp hp=>(by cases hp),λp hp=>(by simp at hp)⟩⟩ λu L es ep t hm hS' g' kp=>?_
    let⟨h',g2,d',tk',os'⟩:=u
    have eg:g2=s.gens:=hm.gens;have ed:d'=s.drawn:=hm.drawn;have eo:os'=s.os:=hm.os;subst eg;subst ed;subst eo;refine wpAny_pure ?_;rw[isz]at g';exact wpAny_pure ⟨rfl,h',tk',L,es,ep,t,rfl,hS',g',kp⟩
   .cases r₂ with
    |error e=>exact hr₂
    |ok fl₂=>
     cases fl₂ with
     |ret r=>
      let⟨rfl,h',tk,L,es,ep,t,rfl,hS',g',hk'⟩:=hr₂
      (repeat (any_goals first | assumption | wp_step))
      exact h _ _ _ _ _ _ hS' g' hk'
     |_=>exact hr₂.elim
  |_=>exact hr.elim
end
def aeT(w:World)(h:Heap)(a:Addr)(L:List Ent):Prop:=∃(hf:Rw->Int) (es:Array (Int×Value)) (ep:Nat) (t:SetTable),(∃o,h.get? a=some o/\o.ExactSet/\o.data=.set es ep t)/\es.toList=ents hf L/\t.fits es.size=true/\Ris t.place.toList/\(w.params.followText "set-order"=true\/t.led=true)
def Ro(w:World)(a:Addr)(L:List Ent):HO:=.ext λh=>aeT w h a L
section
variable{X:Cx}
theorem ZD{P:Program}{w:World}{h:Heap}:∀(l:List Int) (us:List Value),Vals (l.map V.int) us->NestedAll h (l.map .num) us
 |[],_,.nil=>.nil
 |i::l,_,.cons r t=>by
  let⟨tk,rfl⟩:=r
  exact .cons (.int i tk) (ZD (P:=P) (w:=w) l _ t)
theorem ZJ:∀{ks:List Ent} {us:List Value},Vals (ks.map λp=>V.ref p.1) us->us=ks.map λp=>Value.ref p.1
 |[],_,.nil=>rfl
 |p::ks,_,.cons r t=>by
  cases r;rw[ZJ t];rfl
theorem YD{L:List Ent}:∀(out:List Value) (M:List Rw),PySem.W.EachIs (λv (r:Rw)=>∃p∈L,v=Value.ref p.1/\r=p.2) out M->∃ys:List V,Vals ys out/\fZ (λv (r:Rw)=>∃p∈L,v=V.ref p.1/\r=p.2) ys M
 |[],[],.nil=>⟨[],.nil,fZ.nil⟩
 |_::out,_::M,.cons ⟨p,hp,e1,e2⟩ k=>by
  let⟨ys,h1,h2⟩:=YD out M k
  subst e1 e2;refine⟨.ref p.1::ys,.cons rfl h1,by rw[au5,au5,h2.1],λj u y g1 g2=>?_⟩;cases j with
  |zero=>
   cases g1;cases g2;exact⟨p,hp,rfl,rfl⟩
  |succ j=>exact h2.2 j u y g1 g2
end
def gF(da dc:Addr):LsS V:=putF ("circles" : Str) (.ref dc) (putF ("allowances" : Str) (.ref da) [])
structure ah3(C:Addr)(H:Hp)(p da dc:Addr)(al:List Int)(ci:List (List Int)):Prop where
 ob:∃dx,H p=some (.ins C dx (gF da dc))
 la:H da=some (.lst (al.map V.int))
 lc:∃us,H dc=some (.lst us)/\fZ (Ma H) us ci
 ne:da≠dc
theorem ah3.mono{C:Addr}{H H':Hp}(e:Ex H H'){p da dc:Addr}{al:List Int}{ci:List (List Int)}(g:ah3 C H p da dc al ci):ah3 C H' p da dc al ci:=by
 let⟨⟨dx,ob⟩,la,⟨us,h1,h2⟩,ne⟩:=g
 exact⟨⟨dx,e _ _ ob⟩,e _ _ la,⟨us,e _ _ h1,h2.imp λ_ _ r=>r.mono e⟩,ne⟩
end Ear
namespace Rf
open PySem PySem.Spec PyProof.Rows L2 Evl
abbrev obj(h:Nat):Dat:=PyData.dict [(PyData.none,PyData.int (Int.ofNat h))]
inductive jF where
 |dat (d:Dat)|lst (n:Nat) (xs:List Dat)|dic (n:Bool) (kvs:List (Dat×Dat))
structure aM where
 f:Str->Option Addr
 fl:Str->List Str
 w:World
instance:CoeFun aM λ_=>Str->Option Addr:=⟨aM.f⟩
structure Inst where
 cls:Str
 fs:List (Str×jF)
abbrev Mo:=List Inst
inductive Cell where
 |dat (d:Dat)|mut (xs:List Dat)
abbrev Env:=List (Option Cell)
structure eX where
 cls:Str
 fs:List (Str×Dat)
inductive Out(α:Type) where
 |ok (a:α)|exc (x:eX)|bad
inductive aZ(α:Type) where
 |ok (a:α) (M:Mo)|exc (x:eX) (M:Mo)|bad
inductive uO where
 |next (Z:Env) (M:Mo)|ret (d:Dat) (M:Mo)|brk (Z:Env) (M:Mo)|cont (Z:Env) (M:Mo)|exc (x:eX) (Z:Env) (M:Mo)|bad
structure Gh where
 tbl:List Addr
 ow:Addr->Option (Nat×Str)
 Lc:Addr->Prop
 Lo:Addr->Prop
def Gh.W(g:Gh)(a:Addr):Prop:=a∈g.tbl\/g.ow a≠none
def Gh.A(g:Gh)(a:Addr):Prop:=g.W a\/g.Lc a\/g.Lo a
def Jr:HO->Prop
 |.tup _=>False
 |.frz _ _=>False
 |_=>True
def aqS(K:auT)(a:Addr)(xs:List V):Prop:=∃(o:Obj) (its:Array Value) (n:Nat),K.lookup a=some o/\o.cls=.type "list"/\o.dict=none/\o.data=.seq its n/\its.size<=sizeLine/\Vals xs its.toList
def Ln(K:auT)(g:Gh)(H:Hp)(a:Addr)(xs:List V):Prop:=(Rd H a (.lst xs)/\¬g.A a)\/aqS K a xs
def Ln.sq{K:auT}{g:Gh}{H:Hp}{a:Addr}{xs:List V}(h:Ln K g H a xs):SqL K H a xs:=h.elim (λz=>.inl z.1) .inr
mutual
inductive Rep(K:auT)(g:Gh)(H:Hp):V->Dat->Prop
 |non:Rep K g H .non .none
 |bl (b:Bool):Rep K g H (.bl b) (.bool b)
 |int (i:Int):Rep K g H (.int i) (.int i)
 |str (x:Str):Rep K g H (.str x) (.str x)
 |tup {a:Addr} {xs:List V} {ds:List Dat}:SqT K H a xs->aF K g H xs ds->Rep K g H (.ref a) (.tuple ds)
 |lst {a:Addr} {xs:List V} {ds:List Dat}:Ln K g H a xs->aF K g H xs ds->Rep K g H (.ref a) (.list ds)
 |obj {a:Addr} {h:Nat}:g.tbl[h]?=some a->Rep K g H (.ref a) (obj h)
inductive aF(K:auT)(g:Gh)(H:Hp):List V->List Dat->Prop
 |nil:aF K g H [] []
 |cons {v:V} {vs:List V} {d:Dat} {ds:List Dat}:Rep K g H v d->aF K g H vs ds->aF K g H (v::vs) (d::ds)
end
structure Kd(g:Gh)(H:Hp):Prop where
 ob:∀a,g.A a->∃o,H a=some o/\Jr o
 lo:∀a,g.Lo a->¬g.W a
 lc:∀a,g.Lc a->¬g.W a/\¬g.Lo a
structure Gr(q:Bool)(g g':Gh)(H H':Hp):Prop where
 keep:∀a o,H a=some o->¬g.W a->¬g.Lo a->H' a=some o
 keepW:q=true->∀a o,H a=some o->g.W a->H' a=some o
 dom:∀a,H' a=none->H a=none
 tbl:∃more,g'.tbl=g.tbl++more
 W:∀a,g.W a->g'.W a
 nW:∀a,g'.W a->g.W a\/H a=none
 qg:q=true->g'.tbl=g.tbl/\g'.ow=g.ow
 Lc:g'.Lc=g.Lc
 Lo:∀a,g.Lo a->g'.Lo a
 nLo:∀a,g'.Lo a->g.Lo a\/H a=none
section
variable{K:auT}{q:Bool}{g g' g2:Gh}{H H' H2:Hp}{v:V}{d:Dat}
def Gr.refl:Gr q g g H H:=⟨λ_ _ h _ _=>h,λ_ _ _ h _=>h,λ_ h=>h,⟨[],by simp⟩,λ_ h=>h,λ_ h=>.inl h,λ_=>⟨rfl,rfl⟩,rfl,λ_ h=>h,λ_ h=>.inl h⟩
def Ge(e:Ex H H'):∀a,H' a=none->H a=none:=λa h=>by
 cases h1:H a with
 |none=>rfl
 |some o=>
  rw[e a o h1]at h;cases h
def Gr.ex(e:Ex H H'):Gr q g g H H':=⟨λa o h _ _=>e a o h,λ_ a o h _=>e a o h,Ge e,⟨[],by simp⟩,λ_ h=>h,λ_ h=>.inl h,λ_=>⟨rfl,rfl⟩,rfl,λ_ h=>h,λ_ h=>.inl h⟩
theorem Gr.trans(a:Gr q g g' H H')(b:Gr q g' g2 H' H2):Gr q g g2 H H2 where
 keep:=λx o h nw nl=>by
  have h1:=a.keep x o h nw nl;refine b.keep x o h1 (λz=>?_) (λz=>?_)
  .rcases a.nW x z with z|z
   .exact nw z
   .rw[h]at z;cases z
  .rcases a.nLo x z with z|z
   .exact nl z
   .rw[h]at z;cases z
 keepW:=λhq x o h w=>b.keepW hq x o (a.keepW hq x o h w) (a.W x w)
 dom:=λx h=>a.dom x (b.dom x h)
 tbl:=by
  let⟨m1,e1⟩:=a.tbl
  let⟨m2,e2⟩:=b.tbl
  exact⟨m1++m2,by rw[e2,e1,List.append_assoc]⟩
 W:=λx h=>b.W x (a.W x h)
 nW:=λx h=>by
  rcases b.nW x h with z|z
  .exact a.nW x z
  .exact .inr (a.dom x z)
 qg:=λhq=>by
  let⟨e1,e2⟩:=a.qg hq
  let⟨f1,f2⟩:=b.qg hq
  exact⟨f1.trans e1,f2.trans e2⟩
 Lc:=b.Lc.trans a.Lc
 Lo:=λx h=>b.Lo x (a.Lo x h)
 nLo:=λx h=>by
  rcases b.nLo x h with z|z
  .exact a.nLo x z
  .exact .inr (a.dom x z)
def Gr.loud(a:Gr q g g' H H'):Gr false g g' H H':=⟨a.keep,(λh=>nomatch h),a.dom,a.tbl,a.W,a.nW,(λh=>nomatch h),a.Lc,a.Lo,a.nLo⟩
def Gr.nA(r:Gr q g g' H H'){a:Addr}{o:HO}(h:H a=some o)(n:¬g.A a):¬g'.A a:=λz=>by
 rcases z with z|z|z
 .rcases r.nW a z with z|z
  .exact n (.inl z)
  .rw[h]at z;cases z
 .rw[r.Lc]at z;exact n (.inr (.inl z))
 .rcases r.nLo a z with z|z
  .exact n (.inr (.inr z))
  .rw[h]at z;cases z
def Gr.rd(r:Gr q g g' H H'){a:Addr}{o:HO}(h:Rd H a o)(n:¬g.A a):Rd H' a o/\¬g'.A a:=by
 rcases h with h|⟨z,h⟩
 .exact⟨.inl (r.keep a _ h (λw=>n (.inl w)) λw=>n (.inr (.inr w))),r.nA h n⟩
 .exact⟨.inr ⟨z,r.keep a _ h (λw=>n (.inl w)) λw=>n (.inr (.inr w))⟩,r.nA h n⟩
theorem Kd.tup(k:Kd g H){a:Addr}{xs:List V}(h:Rd H a (.tup xs)):¬g.A a:=λz=>by
 let⟨o,e,m⟩:=k.ob a z
 rcases h with h|⟨y,h⟩<;>(rw[h]at e;cases e;exact m)
def Gr.sqT(r:Gr q g g' H H')(k:Kd g H){a:Addr}{xs:List V}(h:SqT K H a xs):SqT K H' a xs:=by
 rcases h with h|h
 .exact .inl (r.rd h (k.tup h)).1
 .exact .inr h
def Gr.ls(r:Gr q g g' H H'){a:Addr}{xs:List V}(h:Ln K g H a xs):Ln K g' H' a xs:=by
 rcases h with⟨h,n⟩|h
 .exact .inl (r.rd h n)
 .exact .inr h
def Gr.tb(r:Gr q g g' H H'){h:Nat}{a:Addr}(e:g.tbl[h]?=some a):g'.tbl[h]?=some a:=by
 let⟨m,em⟩:=r.tbl
 rw[em,au9 (auZ.mp e).1];exact e
mutual
theorem Rep.gr(r:Gr q g g' H H')(k:Kd g H):∀{v:V} {d:Dat},Rep K g H v d->Rep K g' H' v d
 |_,_,.non=>.non
 |_,_,.bl b=>.bl b
 |_,_,.int i=>.int i
 |_,_,.str x=>.str x
 |_,_,.tup h t=>.tup (r.sqT k h) (aF.gr r k t)
 |_,_,.lst h t=>.lst (r.ls h) (aF.gr r k t)
 |_,_,.obj h=>.obj (r.tb h)
theorem aF.gr(r:Gr q g g' H H')(k:Kd g H):∀{vs:List V} {ds:List Dat},aF K g H vs ds->aF K g' H' vs ds
 |_,_,.nil=>.nil
 |_,_,.cons h t=>.cons (Rep.gr r k h) (aF.gr r k t)
end
mutual
theorem Rep.less(e:g'.tbl=g.tbl)(n:∀a,g'.A a->g.A a):∀{v:V} {d:Dat},Rep K g H v d->Rep K g' H v d
 |_,_,.non=>.non
 |_,_,.bl b=>.bl b
 |_,_,.int i=>.int i
 |_,_,.str x=>.str x
 |_,_,.tup h t=>.tup h (aF.less e n t)
 |_,_,.lst h t=>.lst (h.elim (λz=>.inl ⟨z.1,λy=>z.2 (n _ y)⟩) .inr) (aF.less e n t)
 |_,_,.obj h=>.obj (by rw[e];exact h)
theorem aF.less(e:g'.tbl=g.tbl)(n:∀a,g'.A a->g.A a):∀{vs:List V} {ds:List Dat},aF K g H vs ds->aF K g' H vs ds
 |_,_,.nil=>.nil
 |_,_,.cons h t=>.cons (Rep.less e n h) (aF.less e n t)
end
mutual
def lf:Dat->Bool
 |.list _=>false
 |.tuple ds=>lfs ds
 |.dict _=>true
 |.none=>true
 |.bool _=>true
 |.int _=>true
 |.str _=>true
def lfs:List Dat->Bool
 |[]=>true
 |d::ds=>lf d&&lfs ds
end
mutual
theorem Rep.free(e:g'.tbl=g.tbl):∀{v:V} {d:Dat},lf d=true->Rep K g H v d->Rep K g' H v d
 |_,_,_,.non=>.non
 |_,_,_,.bl b=>.bl b
 |_,_,_,.int i=>.int i
 |_,_,_,.str x=>.str x
 |_,_,f,.tup h t=>.tup h (aF.free e (by rw[lf]at f;exact f) t)
 |_,_,f,.lst h t=>by rw[lf]at f;cases f
 |_,_,_,.obj h=>.obj (by rw[e];exact h)
theorem aF.free(e:g'.tbl=g.tbl):∀{vs:List V} {ds:List Dat},lfs ds=true->aF K g H vs ds->aF K g' H vs ds
 |_,_,_,.nil=>.nil
 |_,_,f,.cons h t=>.cons (Rep.free e (by rw[lfs,auU]at f;exact f.1) h) (aF.free e (by rw[lfs,auU]at f;exact f.2) t)
end
theorem aF.length:∀{vs:List V} {ds:List Dat},aF K g H vs ds->vs.length=ds.length
 |_,_,.nil=>rfl
 |_,_,.cons _ t=>congrArg (· + 1) t.length
theorem aF.get:∀{vs:List V} {ds:List Dat} {i:Nat} {d:Dat},aF K g H vs ds->ds[i]?=some d->∃v,vs[i]?=some v/\Rep K g H v d
 |_,_,_,_,.nil,e=>by simp at e
 |_,_,0,_,.cons h _,e=>by simp at e;subst e;exact⟨_,rfl,h⟩
 |_,_,i+1,_,.cons _ t,e=>by simpa using t.get (i:=i) (by simpa using e)
theorem aF.get':∀{vs:List V} {ds:List Dat} {i:Nat} {v:V},aF K g H vs ds->vs[i]?=some v->∃d,ds[i]?=some d/\Rep K g H v d
 |_,_,_,_,.nil,e=>by simp at e
 |_,_,0,_,.cons h _,e=>by simp at e;subst e;exact⟨_,rfl,h⟩
 |_,_,i+1,_,.cons _ t,e=>by simpa using t.get' (i:=i) (by simpa using e)
theorem aF.append:∀{vs ws:List V} {ds es:List Dat},aF K g H vs ds->aF K g H ws es->aF K g H (vs++ws) (ds++es)
 |_,_,_,_,.nil,t=>t
 |_,_,_,_,.cons h r,t=>.cons h (r.append t)
theorem aF.take:∀{vs:List V} {ds:List Dat} (n:Nat),aF K g H vs ds->aF K g H (vs.take n) (ds.take n)
 |_,_,0,_=>.nil
 |_,_,_+1,.nil=>.nil
 |_,_,n+1,.cons h t=>.cons h (t.take n)
theorem aF.drop:∀{vs:List V} {ds:List Dat} (n:Nat),aF K g H vs ds->aF K g H (vs.drop n) (ds.drop n)
 |_,_,0,t=>t
 |_,_,_+1,.nil=>.nil
 |_,_,n+1,.cons _ t=>t.drop n
theorem aF.set{v:V}{d:Dat}(r:Rep K g H v d):∀{vs:List V} {ds:List Dat} (i:Nat),aF K g H vs ds->aF K g H (vs.set i v) (ds.set i d)
 |_,_,_,.nil=>.nil
 |_,_,0,.cons _ t=>.cons r t
 |_,_,i+1,.cons h t=>.cons h (t.set r i)
theorem Gr.upd{l:Addr}{o o':HO}(k:Kd g H)(h:H l=some o)(w:(g.W l/\q=false)\/g.Lo l):Gr q g g H (L2.upd H l o') where
 keep:=λa u e nw nl=>by
  rw[upd_ne (λz=>by subst z;exact w.elim (λw=>nw w.1) nl)];exact e
 keepW:=λhq a u e wa=>by
  rcases w with w|w
  .rw[hq]at w;cases w.2
  .rw[upd_ne (λz=>by subst z;exact k.lo _ w wa)];exact e
 dom:=λa e=>by
  by_cases z:a=l
  .subst z;rw[awi]at e;cases e
  .rw[upd_ne z]at e;exact e
 tbl:=⟨[],by simp⟩
 W:=λ_ h=>h
 nW:=λ_ h=>.inl h
 qg:=λ_=>⟨rfl,rfl⟩
 Lc:=rfl
 Lo:=λ_ h=>h
 nLo:=λ_ h=>.inl h
def Kd.ex(k:Kd g H)(e:Ex H H'):Kd g H':=⟨λa z=>let⟨o,h,m⟩:=k.ob a z;⟨o,e a o h,m⟩,k.lo,k.lc⟩
theorem Kd.upd(k:Kd g H){l:Addr}{o:HO}(m:Jr o):Kd g (L2.upd H l o):=⟨λa z=>by
 by_cases e:a=l
 .subst e;exact⟨o,awi,m⟩
 .rw[upd_ne e];exact k.ob a z,k.lo,k.lc⟩
theorem Rep.ex(e:Ex H H')(k:Kd g H)(h:Rep K g H v d):Rep K g H' v d:=h.gr (Gr.ex (q:=true) e) k
theorem aF.ex{vs:List V}{ds:List Dat}(e:Ex H H')(k:Kd g H)(h:aF K g H vs ds):aF K g H' vs ds:=h.gr (Gr.ex (q:=true) e) k
end
def keyD:Key->Dat
 |.inl i=>.int i
 |.inr x=>.str x
def fO(l:Addr)(o:Obj):HO:=.ext λh=>h.get? l=some o
abbrev fM:Type:=NestedKey×Addr×Value
def af0(w:World)(x:fM):DictEntry:=⟨x.1.hash w,.ref x.2.1,x.2.2⟩
structure jR(w:World)(l:Addr)(o:Obj)(xs:List fM):Prop where
 sys:(l==sysModules)=false
 ex:o.ExactDict
 ent:∃es ep,o.data=.dict es ep/\es.toList=xs.map (af0 w)
 nd:(xs.map (·.1)).Nodup
 len:xs.length<=sizeLine
 dep:∀x∈xs,x.1.depth<=8
def iQ(K:auT)(aj:aM)(g:Gh)(H:Hp)(l:Addr):Bool->List (Dat×Dat)->Prop
 |false,kvs=>∃kv:List (Key×V),H l=some (.dK kv)/\kvs.map (·.1)=kv.map (λp=>keyD p.1)/\aF K g H (kv.map (·.2)) (kvs.map (·.2))
 |true,kvs=>∃(o:Obj) (xs:List fM) (vs:List V),H l=some (fO l o)/\jR aj.w l o xs/\kvs.map (·.1)=xs.map (λx=>x.1.data)/\aF K g H (xs.map λx=>V.ref x.2.1) (kvs.map (·.1))/\Vals vs (xs.map (·.2.2))/\aF K g H vs (kvs.map (·.2))
def fj(K:auT)(aj:aM)(g:Gh)(H:Hp)(h:Nat)(f:Str)(v:V):jF->Prop
 |.dat d=>Rep K g H v d
 |.lst n xs=>∃l us,v=.ref l/\H l=some (.lst us)/\g.ow l=some (h,f)/\aF K g H us xs/\g.tbl[n]?=some l
 |.dic n kvs=>∃l,v=.ref l/\g.ow l=some (h,f)/\iQ K aj g H l n kvs
inductive cD(K:auT)(aj:aM)(g:Gh)(H:Hp)(h:Nat):List (Str×V)->List (Str×jF)->Prop
 |nil:cD K aj g H h [] []
 |cons {f:Str} {v:V} {fl:jF} {fs:List (Str×V)} {gs:List (Str×jF)}:fj K aj g H h f v fl->cD K aj g H h fs gs->cD K aj g H h ((f,v)::fs) ((f,fl)::gs)
structure ig(K:auT)(aj:aM)(g:Gh)(H:Hp)(M:Mo):Prop where
 len:g.tbl.length=M.length
 inj:∀(h k:Nat) (a:Addr),g.tbl[h]?=some a->g.tbl[k]?=some a->h=k
 ins:∀(h:Nat) (a:Addr) (i:Inst),g.tbl[h]?=some a->M[h]?=some i->i.cls≠""->∃C dx fs,aj i.cls=some C/\H a=some (.ins C dx fs)/\cD K aj g H h fs i.fs
 nd:∀(h:Nat) (i:Inst),M[h]?=some i->(i.fs.map (·.1)).Nodup
 fd:∀(h:Nat) (i:Inst),M[h]?=some i->∀f∈i.fs.map (·.1),f∈aj.fl i.cls
 tw:∀(h:Nat) (a:Addr) (i:Inst),g.tbl[h]?=some a->M[h]?=some i->i.cls≠""->g.ow a=none
 dm:∀(h:Nat) (i:Inst),M[h]?=some i->i.cls=""->i.fs=[]
 nc:aj ""=none
structure SInv(K:auT)(aj:aM)(σ:L2.St)(H:Hp)(g:Gh)(Z:Env)(M:Mo):Prop where
 kd:Kd g H
 wok:ig K aj g H M
 len:σ.length=Z.length
 dat:∀(i:Nat) (d:Dat),Z[i]?=some #[d]->∃v,σ[i]?=some (some v)/\Rep K g H v d
 own:∀(i:Nat) (xs:List Dat),Z[i]?=some (some (.mut xs))->∃l us,σ[i]?=some (some (.ref l))/\H l=some (.lst us)/\g.Lo l/\aF K g H us xs
 sep:∀(i j:Nat) (xs ys:List Dat) (l:Addr),i≠j->Z[i]?=some (some (.mut xs))->Z[j]?=some (some (.mut ys))->σ[i]?=some (some (.ref l))->σ[j]?≠some (some (.ref l))
section
variable{K:auT}{aj:aM}{q:Bool}{g g' g2:Gh}{H H' H2:Hp}{v:V}{d:Dat}{σ:L2.St}{Z:Env}{M:Mo}
theorem iQ.ex{l:Addr}:∀{n:Bool} {kvs:List (Dat×Dat)} (e:Ex H H') (k:Kd g H) (h:iQ K aj g H l n kvs),iQ K aj g H' l n kvs
 |false,_,e,k,⟨kv,h1,h2,h3⟩=>⟨kv,e _ _ h1,h2,h3.ex e k⟩
 |true,_,e,k,⟨o,xs,vs,h1,h2,h3,h4,h5,h6⟩=>⟨o,xs,vs,e _ _ h1,h2,h3,h4.ex e k,h5,h6.ex e k⟩
theorem fj.ex{h:Nat}{f:Str}(e:Ex H H')(k:Kd g H):∀{fl:jF},fj K aj g H h f v fl->fj K aj g H' h f v fl
 |.dat _,r=>Rep.ex e k r
 |.lst _ _,⟨l,us,h1,h2,h3,h4,h5⟩=>⟨l,us,h1,e _ _ h2,h3,h4.ex e k,h5⟩
 |.dic _ _,⟨l,h1,h2,h3⟩=>⟨l,h1,h2,h3.ex e k⟩
theorem cD.ex{h:Nat}(e:Ex H H')(k:Kd g H):∀{fs:LsS V} {gs:LsS jF},cD K aj g H h fs gs->cD K aj g H' h fs gs
 |_,_,.nil=>.nil
 |_,_,.cons r t=>.cons (fj.ex e k r) (cD.ex e k t)
theorem ig.ex(e:Ex H H')(k:Kd g H)(w:ig K aj g H M):ig K aj g H' M:=⟨w.len,w.inj,λh a i ha hi hc=>by
 let⟨C,dx,fs,c1,c2,c3⟩:=w.ins h a i ha hi hc
 exact⟨C,dx,fs,c1,e _ _ c2,c3.ex e k⟩,w.nd,w.fd,w.tw,w.dm,w.nc⟩
theorem SInv.ex(e:Ex H H')(I:SInv K aj σ H g Z M):SInv K aj σ H' g Z M:=⟨I.kd.ex e,I.wok.ex e I.kd,I.len,λi d h=>by
 let⟨v,h1,h2⟩:=I.dat i d h
 exact⟨v,h1,h2.ex e I.kd⟩,λi xs h=>by
 let⟨l,us,h1,h2,h3,h4⟩:=I.own i xs h
 exact⟨l,us,h1,e _ _ h2,h3,h4.ex e I.kd⟩,I.sep⟩
theorem cD.get{h:Nat}{f:Str}{fl:jF}:∀{fs:LsS V} {gs:LsS jF},cD K aj g H h fs gs->gs.lookup f=some fl->∃v,fs.lookup f=some v/\fj K aj g H h f v fl
 |_,_,.nil,e=>nomatch e
 |_,_,.cons (f:=f') (v:=v) (fl:=fl') r t,e=>by
  rw[avo]at e;rw[avo];cases hb:f==f' with
  |true=>
   rw[hb]at e;cases e;have ef:f=f':=by simpa using hb
   subst ef;exact⟨v,rfl,r⟩
  |false=>
   rw[hb]at e;exact t.get e
theorem cD.no{h:Nat}{f:Str}:∀{fs:LsS V} {gs:LsS jF},cD K aj g H h fs gs->gs.lookup f=none->fs.lookup f=none
 |_,_,.nil,_=>rfl
 |_,_,.cons (f:=f') (v:=v) (fl:=fl') r t,e=>by
  rw[avo]at e;rw[avo];cases hb:f==f' with
  |true=>
   rw[hb]at e;cases e
  |false=>
   rw[hb]at e;exact t.no e
end
def Out.bind{α β:Type}(o:Out α)(k:α->Out β):Out β:=
 match o with
 |.ok a=>k a
 |.exc x=>.exc x
 |.bad=>.bad
def Out.sat{α:Type}(o:Out α)(P:α->Prop)(E:eX->Prop):Prop:=
 match o with
 |.ok a=>P a
 |.exc x=>E x
 |.bad=>False
@[simp]theorem Out.Bl {α β:Type} (a:α) (k:α->Out β):(Out.ok a).bind k=k a:=rfl
@[simp]theorem Out.ai4 {α β:Type} (x:eX) (k:α->Out β):(Out.exc x:Out α).bind k=.exc x:=rfl
@[simp]theorem Out.ahS {α β:Type} (k:α->Out β):(Out.bad:Out α).bind k=.bad:=rfl
def Out.sat.bnd{α β:Type}{o:Out α}{k:α->Out β}{P:β->Prop}{E:eX->Prop}(h:(o.bind k).sat P E):o.sat (λa=>(k a).sat P E) E:=by cases o<;>exact h
def Out.sat.mono{α:Type}{o:Out α}{P P':α->Prop}{E E':eX->Prop}(h:o.sat P E)(hp:∀a,P a->P' a)(he:∀x,E x->E' x):o.sat P' E':=by
 cases o
 .exact hp _ h
 .exact he _ h
 .exact h
def Out.when{α:Type}(b:Bool)(o:Out α):Out α:=if b=true then o else .bad
@[simp]theorem Out.Zt {α:Type} (o:Out α):Out.when true o=o:=rfl
@[simp]theorem Out.apg {α:Type} (o:Out α):Out.when false o=.bad:=rfl
def Out.sat.qR{α:Type}{b:Bool}{o:Out α}{P:α->Prop}{E:eX->Prop}(h:(Out.when b o).sat P E):b=true/\o.sat P E:=by
 cases b
 .exact awb h
 .exact⟨rfl,h⟩
inductive mO(K:auT)(g:Gh)(H:Hp):List (Str×V)->List (Str×Dat)->Prop
 |nil:mO K g H [] []
 |cons {f:Str} {v:V} {d:Dat} {fs:List (Str×V)} {gs:List (Str×Dat)}:Rep K g H v d->mO K g H fs gs->mO K g H ((f,v)::fs) ((f,d)::gs)
def tR(K:auT)(aj:aM)(g:Gh)(H:Hp)(x:eX)(c:Value)(dd:Option Addr):Prop:=
 ∃C,aj x.cls=some C/\c=.ref C/\((x.fs=[]/\dd=none)\/∃a fs,dd=some a/\H a=some (.xd fs)/\mO K g H fs x.fs)
abbrev QF:=Mo->Env->Out Dat
abbrev QT:=Mo->Env->Out Bool
abbrev QA:=Mo->Env->Out (List Dat)
section
variable(K:auT)(aj:aM)(W:WX)
def sG(g:Gh)(H:Hp)(σ:L2.St)(x:eX):Prop:=∀H' c dd,Ex H H'->tR K aj g H' x c dd->W c dd σ H'
def tQ(f:QF):TE:=λσ H Q=>∃g Z M,SInv K aj σ H g Z M/\(f M Z).sat (λd=>∀v H',Ex H H'->Rep K g H' v d->Q v H') (sG K aj W g H σ)
def jx(f:QT):TT:=λσ H Q=>∃g Z M,SInv K aj σ H g Z M/\(f M Z).sat (λb=>∀H',Ex H H'->Q b H') (sG K aj W g H σ)
def R4(f:QA):TA:=λσ H Q=>∃g Z M,SInv K aj σ H g Z M/\(f M Z).sat (λds=>∀vs H',Ex H H'->aF K g H' vs ds->Q vs H') (sG K aj W g H σ)
end
section
variable{K:auT}{aj:aM}{W:WX}{g:Gh}{H H1:Hp}{σ:L2.St}{Z:Env}{M:Mo}
def sG.ex{x:eX}(e:Ex H H1)(h:sG K aj W g H σ x):sG K aj W g H1 σ x:=λH' c dd e' r=>h H' c dd (e.trans e') r
def tQ.go{f:QF}{k:Dat->Prop}{Q:VK}(I:SInv K aj σ H g Z M)(h:(f M Z).sat k (sG K aj W g H σ))(hk:∀d v H',k d->Ex H H'->Rep K g H' v d->Q v H'):tQ K aj W f σ H Q:=
 ⟨g,Z,M,I,h.mono (λd hd v H' e r=>hk d v H' hd e r) λ_ z=>z⟩
def jx.go{f:QT}{k:Bool->Prop}{Q:Bool->Hp->Prop}(I:SInv K aj σ H g Z M)(h:(f M Z).sat k (sG K aj W g H σ))(hk:∀b H',k b->Ex H H'->Q b H'):jx K aj W f σ H Q:=
 ⟨g,Z,M,I,h.mono (λd hd H' e=>hk d H' hd e) λ_ z=>z⟩
def R4.go{f:QA}{k:List Dat->Prop}{Q:List V->Hp->Prop}(I:SInv K aj σ H g Z M)(h:(f M Z).sat k (sG K aj W g H σ))(hk:∀ds vs H',k ds->Ex H H'->aF K g H' vs ds->Q vs H'):R4 K aj W f σ H Q:=
 ⟨g,Z,M,I,h.mono (λd hd v H' e r=>hk d v H' hd e r) λ_ z=>z⟩
end
def QE(aj:aM)(X:Cx)(W:WX)(e:Expr)(f:QF):Prop:=PE X e (tQ X.K aj W f)
def vm(aj:aM)(X:Cx)(W:WX)(e:Expr)(f:QT):Prop:=PT X e (jx X.K aj W f)
def Ja(aj:aM)(X:Cx)(W:WX)(es:List Expr)(f:QA):Prop:=PA X es (R4 X.K aj W f)
def PE.weak{X:Cx}{e:Expr}{t t':TE}(h:PE X e t)(k:∀σ H Q,t' σ H Q->t σ H Q):PE X e t':=⟨λpins s σ H Q I q=>h.run pins s σ H Q I (k σ H Q q)⟩
def PT.weak{X:Cx}{e:Expr}{t t':TT}(h:PT X e t)(k:∀σ H Q,t' σ H Q->t σ H Q):PT X e t':=⟨λpins s σ H Q I q=>h.run pins s σ H Q I (k σ H Q q)⟩
def PA.weak{X:Cx}{e:List Expr}{t t':TA}(h:PA X e t)(k:∀σ H Q,t' σ H Q->t σ H Q):PA X e t':=⟨λpos pins s σ H Q I q=>h.run pos pins s σ H Q I (k σ H Q q)⟩
def BW(i:Nat):QF:=λ_ Z=>match Z[i]? with
 |some #[d]=>.ok d
 |_=>.bad
def qC(d:Dat):QF:=λ_ _=>.ok d
def aK(o:Dat->Dat->Out Dat)(a b:QF):QF:=λM Z=>(a M Z).bind λx=>(b M Z).bind λy=>o x y
def dZ(o:Dat->Out Dat)(a:QF):QF:=λM Z=>(a M Z).bind o
def dD:QA:=λ_ _=>.ok []
def Vp(a:QF)(r:QA):QA:=λM Z=>(a M Z).bind λx=>(r M Z).bind λxs=>.ok (x::xs)
def aP(r:QA):QF:=λM Z=>(r M Z).bind λxs=>Out.when (decide (xs.length<=100000)) (.ok (.tuple xs))
def uV(r:QA):QF:=λM Z=>(r M Z).bind λxs=>Out.when (decide (xs.length<=100000)) (.ok (.list xs))
section
variable{X:Cx}{aj:aM}{W:WX}{a b:Expr}{fa fb:QF}{pos:Pos}
def aoi{i:Nat}{x:Str}(hN:X.N[i]?=some x)(hv:Vis X.env.scope x)(hd:(x==("__debug__" : Str))=false)(hcd:(x==("__classdict__" : Str))=false):QE aj X W (.Name x pos) (BW i):=
 PE.weak (pe_var hN hv hd hcd) λσ H Q ⟨g,Z,M,I,h⟩=>by
  unfold BW at h;left
  .next d e=>
   let⟨v,h1,h2⟩:=I.dat i d e
   exact⟨v,h1,h v H (Ex.refl H) h2⟩
  .exact awb h
def al0{i:Int}{j:Nat}:QE aj X W (.Constant (.int i) j pos) (qC (.int i)):=PE.weak pe_int λσ H Q ⟨g,Z,M,I,h⟩=>h _ H (Ex.refl H) (.int i)
def anL{x:Str}{j:Nat}:QE aj X W (.Constant (.str x) j pos) (qC (.str x)):=PE.weak pe_str λσ H Q ⟨g,Z,M,I,h⟩=>h _ H (Ex.refl H) (.str x)
def aoP{x:Bool}{j:Nat}:QE aj X W (.Constant (.bool x) j pos) (qC (.bool x)):=PE.weak pe_bl λσ H Q ⟨g,Z,M,I,h⟩=>h _ H (Ex.refl H) (.bl x)
def al7{j:Nat}:QE aj X W (.Constant .none j pos) (qC .none):=PE.weak pe_non λσ H Q ⟨g,Z,M,I,h⟩=>h _ H (Ex.refl H) .non
def an9:Ja aj X W [] dD:=PA.weak pa_nil λσ H Q ⟨g,Z,M,I,h⟩=>h [] H (Ex.refl H) .nil
def akh{es:List Expr}{fr:QA}(ha:QE aj X W a fa)(hr:Ja aj X W es fr)(hs:starEach (a::es) X.env=(false,eval a X.env)::starEach es X.env):Ja aj X W (a::es) (Vp fa fr):=
 PA.weak (pa_cons ha hr hs) λσ H Q ⟨g,Z,M,I,h⟩=>by
  refine tQ.go I h.bnd λd v H1 h1 e1 r1=>?_;refine R4.go (I.ex e1) (h1.bnd.mono (λ_ z=>z) λ_ z=>z.ex e1) λds vs H2 h2 e2 r2=>?_;exact h2 (v::vs) H2 (e1.trans e2) (.cons (r1.ex e2 (I.kd.ex e1)) r2)
def amH{es:List Expr}{fr:QA}{k:Nat}(h:Ja aj X W es fr):QE aj X W (.Tuple es k pos) (aP fr):=
 PE.weak (pe_tup h) λσ H Q ⟨g,Z,M,I,h⟩=>by
  refine R4.go I h.bnd λds vs H1 h1 e1 r1=>?_;let⟨hz,h1⟩:=h1.qR
  have hl:vs.length<=100000:=by rw[r1.length];exact awd hz
  refine⟨sz_of hl,λp np=>h1 (.ref p) _ (e1.trans (Ex.new np)) (.tup (st_of awi) (r1.ex (Ex.new np) (I.kd.ex e1)))⟩
def Kd.fresh{g:Gh}{H:Hp}(k:Kd g H){p:Addr}(n:H p=none):¬g.A p:=λz=>by
 let⟨o,e,_⟩:=k.ob p z
 rw[n]at e;cases e
def anN{es:List Expr}{fr:QA}(h:Ja aj X W es fr):QE aj X W (.List es pos) (uV fr):=
 PE.weak (pe_lst h) λσ H Q ⟨g,Z,M,I,h⟩=>by
  refine R4.go I h.bnd λds vs H1 h1 e1 r1=>?_;let⟨hz,h1⟩:=h1.qR
  have hl:vs.length<=100000:=by rw[r1.length];exact awd hz
  refine⟨sz_of hl,λp np=>h1 (.ref p) _ (e1.trans (Ex.new np)) (.lst (.inl ⟨.inl awi,(I.kd.ex e1).fresh np⟩) (r1.ex (Ex.new np) (I.kd.ex e1)))⟩
end
def fu(K:auT)(g:Gh)(H:Hp)(v:V):Dat->Prop
 |.list ds=>∃a us,v=.ref a/\SqL K H a us/\aF K g H us ds
 |d=>Rep K g H v d
section
variable{K:auT}{g:Gh}{H H':Hp}{v:V}{d:Dat}
def Rep.weak(h:Rep K g H v d):fu K g H v d:=by
 cases h with
 |lst a t=>exact⟨_,_,rfl,a.sq,t⟩
 |non=>exact .non
 |bl b=>exact .bl b
 |int i=>exact .int i
 |str x=>exact .str x
 |tup a t=>exact .tup a t
 |obj a=>exact .obj a
theorem fu.ex(e:Ex H H')(k:Kd g H)(h:fu K g H v d):fu K g H' v d:=by
 cases d with
 |list ds=>
  let⟨a,us,h1,h2,h3⟩:=h
  exact⟨a,us,h1,ex_l e h2,h3.ex e k⟩
 |_=>exact Rep.ex e k h
def cC{i:Int}(h:fu K g H v (.int i)):v=.int i:=by cases h;rfl
def lC{x:Str}(h:fu K g H v (.str x)):v=.str x:=by cases h;rfl
def Iv{b:Bool}(h:fu K g H v (.bool b)):v=.bl b:=by cases h;rfl
def KJ(h:fu K g H v .none):v=.non:=by cases h;rfl
def mZ{ds:List Dat}(h:fu K g H v (.tuple ds)):∃a us,v=.ref a/\SqT K H a us/\aF K g H us ds:=by
 cases h with
 |tup a t=>exact⟨_,_,rfl,a,t⟩
def jL{ds:List Dat}(h:fu K g H v (.list ds)):∃a us,v=.ref a/\SqL K H a us/\aF K g H us ds:=h
def Qc{n:Nat}(h:fu K g H v (obj n)):∃a,v=.ref a/\g.tbl[n]?=some a:=by
 cases h with
 |obj a=>exact⟨_,rfl,a⟩
end
section
variable(K:auT)(aj:aM)(W:WX)
def tW(f:QF):TE:=λσ H Q=>∃g Z M,SInv K aj σ H g Z M/\(f M Z).sat (λd=>∀v H',Ex H H'->fu K g H' v d->Q v H') (sG K aj W g H σ)
end
def tW.go{K:auT}{aj:aM}{W:WX}{g:Gh}{H:Hp}{σ:L2.St}{Z:Env}{M:Mo}{f:QF}{k:Dat->Prop}{Q:VK}(I:SInv K aj σ H g Z M)(h:(f M Z).sat k (sG K aj W g H σ))(hk:∀d v H',k d->Ex H H'->fu K g H' v d->Q v H'):tW K aj W f σ H Q:=
 ⟨g,Z,M,I,h.mono (λd hd v H' e r=>hk d v H' hd e r) λ_ z=>z⟩
def QW(aj:aM)(X:Cx)(W:WX)(e:Expr)(f:QF):Prop:=PE X e (tW X.K aj W f)
def QE.w{aj:aM}{X:Cx}{W:WX}{e:Expr}{f:QF}(h:QE aj X W e f):QW aj X W e f:=
 PE.weak h λσ H Q ⟨g,Z,M,I,z⟩=>⟨g,Z,M,I,z.mono (λ_ k v H' e r=>k v H' e r.weak) λ_ y=>y⟩
def Wf(i:Nat):QF:=λ_ Z=>match Z[i]? with
 |some #[d]=>.ok d
 |some (some (.mut xs))=>.ok (.list xs)
 |_=>.bad
def sH(aj:aM)(K:auT)(W:WX)(o:Dat->Dat->Out Dat)(r:R2):Prop:=∀(σ:L2.St) (g:Gh) (H:Hp) (x y:V) (d e:Dat) (Q:VK),Kd g H->fu K g H x d->fu K g H y e->
 (o d e).sat (λz=>∀v H',Ex H H'->Rep K g H' v z->Q v H') (sG K aj W g H σ)->r x y H Q
section
variable{X:Cx}{aj:aM}{W:WX}{a b c:Expr}{fa fb fc:QF}{pos:Pos}
def amJ{i:Nat}{x:Str}(hN:X.N[i]?=some x)(hv:Vis X.env.scope x)(hd:(x==("__debug__" : Str))=false)(hcd:(x==("__classdict__" : Str))=false):QW aj X W (.Name x pos) (Wf i):=
 PE.weak (pe_var hN hv hd hcd) λσ H Q ⟨g,Z,M,I,h⟩=>by
  unfold Wf at h;left
  .next d e=>
   let⟨v,h1,h2⟩:=I.dat i d e
   exact⟨v,h1,h v H (Ex.refl H) h2.weak⟩
  .next xs e=>
   let⟨l,us,h1,h2,h3,h4⟩:=I.own i xs e
   exact⟨.ref l,h1,h _ H (Ex.refl H) ⟨l,us,rfl,sq_of h2,h4⟩⟩
  .exact awb h
def V2{o:Dat->Dat->Out Dat}{r:R2}(ho:sH aj X.K W o r)(σ:L2.St)(H:Hp)(Q:VK)(h:tQ X.K aj W (aK o fa fb) σ H Q):tOp r (tW X.K aj W fa) (tW X.K aj W fb) σ H Q:=by
 let⟨g,Z,M,I,h⟩:=h
 refine tW.go I h.bnd λd v H1 h1 e1 r1=>?_;refine tW.go (I.ex e1) (h1.bnd.mono (λ_ z=>z) λ_ z=>z.ex e1) λd2 v2 H2 h2 e2 r2=>?_;refine ho σ g H2 v v2 d d2 Q ((I.kd.ex e1).ex e2) (r1.ex e2 (I.kd.ex e1)) r2 (h2.mono (λz hz u H' e' r'=>hz u H' ((e1.trans e2).trans e') r') λ_ z=>(z.ex e1).ex e2)
def an8{op:Operator}{r:R2}{o:Dat->Dat->Out Dat}(hr:OpR X (binaryOp op) r)(ho:sH aj X.K W o r)(ha:QW aj X W a fa)(hb:QW aj X W b fb):QE aj X W (.BinOp a op b pos) (aK o fa fb):=
 PE.weak (pe_op hr ha hb) λσ H Q h=>V2 ho σ H Q h
def ake{op:CmpOp}{r:R2}{o:Dat->Dat->Out Dat}(hr:OpR X (compareOp op) r)(ho:sH aj X.K W o r)(ha:QW aj X W a fa)(hb:QW aj X W b fb)(hm:behindInMarks op b=false):QE aj X W (.Compare a [op] [b] pos) (aK o fa fb):=
 PE.weak (pe_cmpR hr ha hb hm) λσ H Q h=>V2 ho σ H Q h
end
instance:DecidableRel CMul:=λi j=>by unfold CMul;infer_instance
instance:DecidableRel CDiv:=λi j=>by unfold CDiv;infer_instance
instance:DecidableRel CPow:=λi j=>by unfold CPow;infer_instance
def dG:Dat->Dat->Out Dat
 |.int i,.int j=>.ok (.int (i+j))
 |.str x,.str y=>Out.when (decide (x.length+y.length<=100000)) (.ok (.str (x++y)))
 |.list xs,.list ys=>Out.when (decide (xs.length+ys.length<=100000)) (.ok (.list (xs++ys)))
 |.tuple xs,.tuple ys=>Out.when (decide (xs.length+ys.length<=100000)) (.ok (.tuple (xs++ys)))
 |_,_=>.bad
def oZ:Dat->Dat->Out Dat
 |.int i,.int j=>.ok (.int (i-j))
 |_,_=>.bad
def yF:Dat->Dat->Out Dat
 |.int i,.int j=>Out.when (decide (CMul i j)) (.ok (.int (i*j)))
 |_,_=>.bad
def DN:Dat->Dat->Out Dat
 |.int i,.int j=>Out.when (decide (CDiv i j)) (.ok (.int (i/j)))
 |_,_=>.bad
def lH:Dat->Dat->Out Dat
 |.int i,.int j=>Out.when (decide (0<j)) (.ok (.int (i%j)))
 |_,_=>.bad
def Ug:Dat->Dat->Out Dat
 |.int i,.int j=>Out.when (decide (CPow i j)) (.ok (.int (i^j.toNat)))
 |_,_=>.bad
def rCatS(K:auT):R2:=λx y H Q=>∃l b xs zs,x=.ref l/\y=.ref b/\SqL K H l xs/\SqL K H b zs/\xs.length+zs.length<=sizeLine/\∀p,H p=none->Q (.ref p) (upd H p (.lst (xs++zs)))
def akD{X:Cx}:OpR X (binaryOp .Add) (rCatS X.K):=by
 intro pins s σ H x y v u Q I rx ry h;let⟨l,b,xs,zs,rfl,rfl,hH,hB,hz,q⟩:=h
 cases rx;cases ry;let⟨its,r,⟨⟨c1,d1,da1,s1⟩,n,e,hc,hd,hs⟩,_⟩:=I.list hH
 let⟨its2,r2,⟨⟨c2,d2,da2,s2⟩,n2,e2,hc2,hd2,hs2⟩,_⟩:=I.list hB
 simp only at hc hd hs hc2 hd2 hs2;subst hc hd hs hc2 hd2 hs2;have l1:=r.length;have l2:=r2.length;have ea:its.toArray++its2.toArray=(its++its2).toArray:=by simp
 refine concat_meets ⟨_,e,rfl⟩ ⟨_,e2,rfl⟩ noFill_list_add seq_list_add PySem.F.slot_list_add PySem.F.entry_list_add (PySem.F.args_list_add_2 _ _) (list_addW l b its.toArray its2.toArray n n2 none none s1 s2 (by rw[av5,av5];omega)) ⟨e,e2,?_⟩;rw[ea];exact⟨.ref _,_,I.lnew (t':=s.toks) (r.append r2) (by rw[avz];omega),rfl,q _ I.fresh⟩
def ajk(K:auT):R2:=λx y H Q=>rI0 (λi j=>.int (i+j)) x y H Q\/(∃i j,x=.str i/\y=.str j/\i.length+j.length<=sizeLine/\Q (.str (i++j)) H)\/rCatS K x y H Q\/rCatA K x y H Q
def ac6{X:Cx}:OpR X (binaryOp .Add) (ajk X.K):=by
 intro pins s σ H x y v u Q I rx ry h;rcases h with h|h|h|h
 .exact op_add pins s σ H x y v u Q I rx ry h
 .exact op_add_str pins s σ H x y v u Q I rx ry h
 .exact akD pins s σ H x y v u Q I rx ry h
 .exact op_catA pins s σ H x y v u Q I rx ry h
section
variable{K:auT}{aj:aM}{W:WX}
def agP:sH aj K W dG (ajk K):=λσ g H x y d e Q k rx ry h=>by
 unfold dG at h;left
 .exact .inl ⟨_,_,cC rx,cC ry,h _ H (Ex.refl H) (.int _)⟩
 .let⟨hz,h⟩:=h.qR
  exact .inr (.inl ⟨_,_,lC rx,lC ry,sz_of (awd hz),h _ H (Ex.refl H) (.str _)⟩)
 .let⟨hz,h⟩:=h.qR
  let⟨l,us,e1,s1,t1⟩:=jL rx
  let⟨l2,us2,e2,s2,t2⟩:=jL ry
  have hl:=awd hz;rw[<-t1.length,<-t2.length]at hl;refine .inr (.inr (.inl ⟨l,l2,us,us2,e1,e2,s1,s2,sz_of hl,λp np=>h _ _ (Ex.new np) (.lst (.inl ⟨.inl awi,k.fresh np⟩) ((t1.append t2).ex (Ex.new np) k))⟩))
 .let⟨hz,h⟩:=h.qR
  let⟨l,us,e1,s1,t1⟩:=mZ rx
  let⟨l2,us2,e2,s2,t2⟩:=mZ ry
  have hl:=awd hz;rw[<-t1.length,<-t2.length]at hl;refine .inr (.inr (.inr ⟨l,l2,us,us2,e1,e2,s1,s2,sz_of hl,λz=>?_,λ_ z=>?_,λ_ _ p np=>h _ _ (Ex.new np) (.tup (st_of awi) ((t1.append t2).ex (Ex.new np) k))⟩))
  .subst z;cases t1;exact h _ H (Ex.refl H) (.tup s2 t2)
  .subst z;cases t2;rw[avy]at h;exact h _ H (Ex.refl H) (.tup s1 t1)
 .exact awb h
def alX:sH aj K W oZ (rI0 λi j=>.int (i-j)):=λσ g H x y d e Q k rx ry h=>by
 unfold oZ at h;left
 .exact⟨_,_,cC rx,cC ry,h _ H (Ex.refl H) (.int _)⟩
 .exact awb h
def anu:sH aj K W yF (rI CMul λi j=>.int (i*j)):=λσ g H x y d e Q k rx ry h=>by
 unfold yF at h;left
 .let⟨hz,h⟩:=h.qR
  exact⟨_,_,cC rx,cC ry,awd hz,h _ H (Ex.refl H) (.int _)⟩
 .exact awb h
def ana:sH aj K W DN (rI CDiv λi j=>.int (i/j)):=λσ g H x y d e Q k rx ry h=>by
 unfold DN at h;left
 .let⟨hz,h⟩:=h.qR
  exact⟨_,_,cC rx,cC ry,awd hz,h _ H (Ex.refl H) (.int _)⟩
 .exact awb h
def aox:sH aj K W lH (rI (λ_ j=>0<j) λi j=>.int (i%j)):=λσ g H x y d e Q k rx ry h=>by
 unfold lH at h;left
 .let⟨hz,h⟩:=h.qR
  exact⟨_,_,cC rx,cC ry,awd hz,h _ H (Ex.refl H) (.int _)⟩
 .exact awb h
def alO:sH aj K W Ug (rI CPow λi j=>.int (i^j.toNat)):=λσ g H x y d e Q k rx ry h=>by
 unfold Ug at h;left
 .let⟨hz,h⟩:=h.qR
  exact⟨_,_,cC rx,cC ry,awd hz,h _ H (Ex.refl H) (.int _)⟩
 .exact awb h
end
mutual
def okd:Nat->Dat->Bool
 |_,.none=>true
 |_,.bool _=>true
 |_,.int _=>true
 |_,.str x=>PyData.strOk x
 |n+1,.list ds=>lX n ds
 |n+1,.tuple ds=>lX n ds
 |0,.list _=>false
 |0,.tuple _=>false
 |_,.dict _=>false
def lX:Nat->List Dat->Bool
 |_,[]=>true
 |n,d::ds=>okd n d&&lX n ds
end
mutual
theorem Xi:∀(n:Nat) (d:Dat),okd n d=true->d.canLay0=true/\d.depth<=n
 |n,.none,_=>⟨by simp[PyData.canLay0],by simp[PyData.depth]⟩
 |n,.bool _,_=>⟨by simp[PyData.canLay0],by simp[PyData.depth]⟩
 |n,.int _,_=>⟨by simp[PyData.canLay0],by simp[PyData.depth]⟩
 |n,.str x,h=>⟨by rw[okd]at h;simp[PyData.canLay0,h],by simp[PyData.depth]⟩
 |n+1,.list ds,h=>by
  rw[okd]at h;let⟨h1,h2⟩:=TY n ds h
  exact⟨by simp[PyData.canLay0,h1],by simp[PyData.depth];omega⟩
 |n+1,.tuple ds,h=>by
  rw[okd]at h;let⟨h1,h2⟩:=TY n ds h
  exact⟨by simp[PyData.canLay0,h1],by simp[PyData.depth];omega⟩
 |0,.list _,h=>by rw[okd]at h;cases h
 |0,.tuple _,h=>by rw[okd]at h;cases h
 |n,.dict _,h=>by rw[okd]at h;cases h
theorem TY:∀(n:Nat) (ds:List Dat),lX n ds=true->PyData.canLayAll0 ds=true/\PyData.depthAll ds<=n
 |n,[],_=>⟨by simp[PyData.canLayAll0],by simp[PyData.depthAll]⟩
 |n,d::ds,h=>by
  rw[lX,auU]at h;let⟨h1,h2⟩:=Xi n d h.1
  let⟨h3,h4⟩:=TY n ds h.2
  exact⟨by simp[PyData.canLayAll0,h1,h3],by simp[PyData.depthAll];omega⟩
end
mutual
theorem Rep.dp{K:auT}{g:Gh}{H:Hp}:∀{n:Nat} {v:V} {d:Dat},okd n d=true->Rep K g H v d->Dp K H v d
 |_,_,_,_,.non=>.non
 |_,_,_,_,.bl b=>.bl b
 |_,_,_,_,.int i=>.int i
 |_,_,_,_,.str x=>.str x
 |n+1,_,_,f,.tup h t=>.tup h (aF.dp (n:=n) (by rw[okd]at f;exact f) t)
 |n+1,_,_,f,.lst h t=>.lst h.sq (aF.dp (n:=n) (by rw[okd]at f;exact f) t)
 |0,_,_,f,.tup h t=>by rw[okd]at f;cases f
 |0,_,_,f,.lst h t=>by rw[okd]at f;cases f
 |_,_,_,f,.obj h=>by rw[okd]at f;cases f
theorem aF.dp{K:auT}{g:Gh}{H:Hp}:∀{n:Nat} {vs:List V} {ds:List Dat},lX n ds=true->aF K g H vs ds->DpAll K H vs ds
 |_,_,_,_,.nil=>.nil
 |n,_,_,f,.cons h t=>.cons (Rep.dp (n:=n) (by rw[lX,auU]at f;exact f.1) h) (aF.dp (n:=n) (by rw[lX,auU]at f;exact f.2) t)
end
theorem fu.dp{K:auT}{g:Gh}{H:Hp}{n:Nat}{v:V}{d:Dat}(f:okd n d=true)(h:fu K g H v d):Dp K H v d:=by
 cases d with
 |list ds=>
  let⟨a,us,rfl,h2,h3⟩:=h
  cases n with
  |zero=>rw[okd]at f;cases f
  |succ n=>
   rw[okd]at f;exact .lst h2 (h3.dp f)
 |_=>exact Rep.dp f h
def Eo{n:Nat}{d:Dat}(h:okd n d=true)(hn:n<=64):SeqAt.shaped d=true:=by
 let⟨h1,h2⟩:=Xi n d h
 unfold SeqAt.shaped;rw[h1,Bool.true_and];exact decide_eq_true (ave h2 hn)
def eqB:Dat->Dat->Out Bool
 |.int i,.int j=>.ok (i==j)
 |.str x,.str y=>.ok (x==y)
 |.bool x,.bool y=>.ok (x==y)
 |.none,.none=>.ok true
 |d,e=>Out.when (okd 12 d&&okd 12 e) (.ok (PyData.eqv d e))
def Eh(d e:Dat):Out Dat:=(eqB d e).bind λb=>.ok (.bool b)
def yP(d e:Dat):Out Dat:=(eqB d e).bind λb=>.ok (.bool (!b))
def aod(K:auT):R2:=λx y H Q=>rEq x y H Q\/rEqD K x y H Q
def amY(K:auT):R2:=λx y H Q=>rNe x y H Q\/rNeD K x y H Q
def amU{X:Cx}(hu:X.A.units+64<cLine):OpR X (compareOp .Eq) (aod X.K):=λpins s σ H x y v u Q I rx ry h=>h.elim (λh=>op_eq pins s σ H x y v u Q I rx ry h) (λh=>op_eqD hu pins s σ H x y v u Q I rx ry h)
def anl{X:Cx}(hu:X.A.units+64<cLine):OpR X (compareOp .NotEq) (amY X.K):=λpins s σ H x y v u Q I rx ry h=>h.elim (λh=>op_ne pins s σ H x y v u Q I rx ry h) (λh=>op_neD hu pins s σ H x y v u Q I rx ry h)
section
variable{K:auT}{aj:aM}{W:WX}{g:Gh}{H:Hp}
def ahx{x y:V}{d e:Dat}{P:Bool->Prop}{E:eX->Prop}(rx:fu K g H x d)(ry:fu K g H y e)(h:(eqB d e).sat P E):(scal x y=true/\P (decide (x=y)))\/(∃d e,Dp K H x d/\Dp K H y e/\SeqAt.shaped d=true/\SeqAt.shaped e=true/\P (PyData.eqv d e)):=by
 unfold eqB at h;left
 .cases cC rx;cases cC ry;rw[dec_int];exact .inl ⟨rfl,h⟩
 .cases lC rx;cases lC ry;rw[dec_str];exact .inl ⟨rfl,h⟩
 .cases Iv rx;cases Iv ry;rw[dec_bl];exact .inl ⟨rfl,h⟩
 .cases KJ rx;cases KJ ry;exact .inl ⟨rfl,h⟩
 .let⟨hz,h⟩:=h.qR
  rw[auU]at hz;exact .inr ⟨_,_,rx.dp hz.1,ry.dp hz.2,Eo hz.1 #[()],Eo hz.2 #[()],h⟩
def aoF:sH aj K W Eh (aod K):=λσ g H x y d e Q k rx ry h=>by
 rcases ahx rx ry h.bnd with⟨h1,h2⟩|⟨d,e,h1,h2,h3,h4,h5⟩
 .exact .inl ⟨h1,h2 _ H (Ex.refl H) (.bl _)⟩
 .exact .inr ⟨d,e,h1,h2,h3,h4,h5 _ H (Ex.refl H) (.bl _)⟩
def ao4:sH aj K W yP (amY K):=λσ g H x y d e Q k rx ry h=>by
 rcases ahx rx ry h.bnd with⟨h1,h2⟩|⟨d,e,h1,h2,h3,h4,h5⟩
 .exact .inl ⟨h1,h2 _ H (Ex.refl H) (.bl _)⟩
 .exact .inr ⟨d,e,h1,h2,h3,h4,h5 _ H (Ex.refl H) (.bl _)⟩
end
def RX:Dat->Dat->Out Dat
 |.int i,.int j=>.ok (.bool (decide (i<j)))
 |.tuple ds,.tuple es=>Out.when (okd 12 (.tuple ds)&&okd 12 (.tuple es)&&PySem.W.alike (.tuple ds) (.tuple es)) (.ok (.bool (PySem.W.dataLt (.tuple ds) (.tuple es))))
 |_,_=>.bad
def sJ:Dat->Dat->Out Dat
 |.int i,.int j=>.ok (.bool (decide (i<=j)))
 |_,_=>.bad
def gtD:Dat->Dat->Out Dat
 |.int i,.int j=>.ok (.bool (decide (j<i)))
 |_,_=>.bad
def geD:Dat->Dat->Out Dat
 |.int i,.int j=>.ok (.bool (decide (j<=i)))
 |_,_=>.bad
def alS(K:auT):R2:=λx y H Q=>rI0 (λi j=>.bl (decide (i<j))) x y H Q\/Ear.Vw K x y H Q
def anR{X:Cx}(hu:X.A.units+65<cLine):OpR X (compareOp .Lt) (alS X.K):=λpins s σ H x y v u Q I rx ry h=>h.elim (λh=>op_lt pins s σ H x y v u Q I rx ry h) (λh=>Ear.ai1 hu pins s σ H x y v u Q I rx ry h)
section
variable{K:auT}{aj:aM}{W:WX}{g:Gh}{H:Hp}
def aoL:sH aj K W RX (alS K):=λσ g H x y d e Q k rx ry h=>by
 unfold RX at h;left
 .exact .inl ⟨_,_,cC rx,cC ry,h _ H (Ex.refl H) (.bl _)⟩
 .let⟨hz,h⟩:=h.qR
  simp![auU]at hz;refine .inr ?_;unfold Ear.Vw;exact⟨_,_,rx.dp hz.1.1,ry.dp hz.1.2,hz.2,(λz=>nomatch z),ave (Xi _ _ hz.1.1).2 #[()],h _ H (Ex.refl H) (.bl _)⟩
 .exact awb h
def apA:sH aj K W sJ (rI0 λi j=>.bl (decide (i<=j))):=λσ g H x y d e Q k rx ry h=>by
 unfold sJ at h;left
 .exact⟨_,_,cC rx,cC ry,h _ H (Ex.refl H) (.bl _)⟩
 .exact awb h
def apc:sH aj K W gtD (rI0 λi j=>.bl (decide (j<i))):=λσ g H x y d e Q k rx ry h=>by
 unfold gtD at h;left
 .exact⟨_,_,cC rx,cC ry,h _ H (Ex.refl H) (.bl _)⟩
 .exact awb h
def aoX:sH aj K W geD (rI0 λi j=>.bl (decide (j<=i))):=λσ g H x y d e Q k rx ry h=>by
 unfold geD at h;left
 .exact⟨_,_,cC rx,cC ry,h _ H (Ex.refl H) (.bl _)⟩
 .exact awb h
end
def iZ(c:Dat):Dat->Bool
 |.none=>match c with
  |.none=>true
  |_=>false
 |.bool b=>match c with
  |.bool b'=>b==b'
  |_=>false
 |_=>false
def scD:Dat->Option V
 |.none=>some .non
 |.bool b=>some (.bl b)
 |_=>none
def adA{K:auT}{g:Gh}{H:Hp}{x:V}{d c:Dat}{v:V}(h:fu K g H x d)(hc:scD c=some v):decide (x=v)=iZ c d:=by
 cases c with
 |none=>
  cases hc;cases d with
  |none=>cases KJ h;rfl
  |bool b=>cases Iv h;rfl
  |int b=>cases cC h;rfl
  |str b=>cases lC h;rfl
  |list b=>let⟨a,us,rfl,_⟩:=jL h;rfl
  |tuple b=>let⟨a,us,rfl,_⟩:=mZ h;rfl
  |dict b=>cases h;rfl
 |bool c=>
  cases hc;cases d with
  |none=>cases KJ h;rfl
  |bool b=>cases Iv h;exact dec_bl
  |int b=>cases cC h;rfl
  |str b=>cases lC h;rfl
  |list b=>let⟨a,us,rfl,_⟩:=jL h;rfl
  |tuple b=>let⟨a,us,rfl,_⟩:=mZ h;rfl
  |dict b=>cases h;rfl
 |_=>cases hc
def aaK(neg:Bool)(v:V):R2:=λx y H Q=>y=v/\Q (.bl (neg ^^ decide (x=v))) H
def agE{x v:V}{u w:Value}(hv:v=.non\/∃b,v=.bl b)(rx:RelV x u)(rv:RelV v w):(u==w)=decide (x=v):=by
 rcases hv with rfl|⟨b,rfl⟩
 .cases rv;exact rx.none_iff
 .cases rv;rw[avW,beq_iff_eq,awc];constructor
  .rintro rfl;cases x with
   |bl c=>cases rx;rfl
   |non=>cases rx
   |ref _=>cases rx
   |ty _=>cases rx
   |_=>let⟨t,z⟩:=rx;cases z
  .rintro rfl;exact rx
def ZL{x v:V}{u w:Value}(hv:v=.non\/∃b,v=.bl b)(rx:RelV x u)(rv:RelV v w):plainIs u w=true:=by rcases hv with rfl | ⟨b,rfl⟩<;>(cases rv;cases x<;>first | (cases rx;rfl) | (let⟨t,rfl⟩:=rx;rfl))
def am2{X:Cx}{v:V}(hv:v=.non\/∃b,v=.bl b):OpR X (compareOp .Is) (aaK false v):=by
 intro pins s σ H x y u w Q I rx ry h;let⟨rfl,q⟩:=h
 refine wpAny_is_plain (ZL hv rx ry) ?_;rw[agE hv rx ry];rw[Bool.false_xor]at q;exact⟨.bl _,H,I,rfl,q⟩
def afZ{X:Cx}{v:V}(hv:v=.non\/∃b,v=.bl b):OpR X (compareOp .IsNot) (aaK true v):=by
 intro pins s σ H x y u w Q I rx ry h;let⟨rfl,q⟩:=h
 refine wpAny_isNot_plain (ZL hv rx ry) ?_;rw[agE hv rx ry];rw[Bool.true_xor]at q;exact⟨.bl _,H,I,rfl,q⟩
def vB(neg:Bool)(c:Dat)(a:QF):QF:=λM Z=>(a M Z).bind λd=>.ok (.bool (neg ^^ iZ c d))
section
variable{X:Cx}{aj:aM}{W:WX}{a b c:Expr}{fa fb fc:QF}{pos:Pos}
def apn{op:CmpOp}{neg:Bool}{d:Dat}{v:V}(hc:scD d=some v)(hr:OpR X (compareOp op) (aaK neg v))(ha:QW aj X W a fa)(hb:PE X b (tC v))(hm:behindInMarks op b=false):QE aj X W (.Compare a [op] [b] pos) (vB neg d fa):=
 PE.weak (pe_cmpR hr ha hb hm) λσ H Q ⟨g,Z,M,I,h⟩=>by
  refine tW.go I h.bnd λe x H1 h1 e1 r1=>?_;refine⟨rfl,?_⟩;rw[adA r1 hc];exact h1 _ H1 e1 (.bl _)
end
def Wr:Dat->Bool
 |.none=>true
 |.bool _=>true
 |.int _=>true
 |.str _=>true
 |_=>false
def inB:Dat->Dat->Out Bool
 |d,.list ds=>Out.when (okd 12 d&&lX 12 ds) (.ok (ds.any λz=>PyData.eqv z d))
 |d,.tuple ds=>Out.when (Wr d&&ds.all Wr) (.ok (ds.any λz=>PyData.eqv z d))
 |.str x,.str z=>match x.cps.toList with
  |[c]=>.ok (decide (c∈z.cps.toList))
  |_=>.bad
 |_,_=>.bad
def inD(neg:Bool)(d e:Dat):Out Dat:=(inB d e).bind λb=>.ok (.bool (neg ^^ b))
section
variable{K:auT}{g:Gh}{H:Hp}
def abC{v:V}{d:Dat}(f:Wr d=true)(h:Rep K g H v d):flatV v=true:=by
 cases h with
 |tup _ _=>cases f
 |lst _ _=>cases f
 |obj _=>cases f
 |_=>rfl
theorem Zq:∀{vs:List V} {ds:List Dat},ds.all Wr=true->aF K g H vs ds->vs.all flatV=true
 |_,_,_,.nil=>rfl
 |_,_,f,.cons h t=>by
  rw[avw,auU]at f;rw[avw,abC f.1 h,Zq f.2 t];rfl
def ako{v w:V}{d e:Dat}(f1:Wr d=true)(f2:Wr e=true)(h1:Rep K g H v d)(h2:Rep K g H w e):eqV v w=PyData.eqv d e:=by
 cases h1 with
 |tup _ _=>cases f1
 |lst _ _=>cases f1
 |obj _=>cases f1
 |non=>cases h2 with
  |tup _ _=>cases f2
  |lst _ _=>cases f2
  |obj _=>cases f2
  |_=>simp[eqV,PyData.eqv]
 |bl b=>cases h2 with
  |tup _ _=>cases f2
  |lst _ _=>cases f2
  |obj _=>cases f2
  |_=>simp[eqV,PyData.eqv]
 |int b=>cases h2 with
  |tup _ _=>cases f2
  |lst _ _=>cases f2
  |obj _=>cases f2
  |_=>simp[eqV,PyData.eqv]
 |str b=>cases h2 with
  |tup _ _=>cases f2
  |lst _ _=>cases f2
  |obj _=>cases f2
  |_=>simp[eqV,PyData.eqv]
theorem aed{w:V}{e:Dat}(f2:Wr e=true)(h2:Rep K g H w e):∀{vs:List V} {ds:List Dat},ds.all Wr=true->aF K g H vs ds->inV w vs=ds.any λz=>PyData.eqv z e
 |_,_,_,.nil=>rfl
 |v::vs,d::ds,f,.cons h t=>by
  rw[avw,auU]at f;have ih:=aed f2 h2 f.2 t;unfold inV at ih |-
  rw[avS,avS,ih,ako f.1 f2 h h2]
def ajS{v:V}{d:Dat}(f:Wr d=true)(h:fu K g H v d):Rep K g H v d:=by
 cases d with
 |list _=>cases f
 |_=>exact h
end
def abu(K:auT)(neg:Bool):R2:=λx y H Q=>(∃d ds,Dp K H x d/\Dp K H y (.list ds)/\SeqAt.shaped d=true/\SeqAt.shaped (.list ds)=true/\Q (.bl (neg ^^ (ds.any λz=>PyData.eqv z d))) H)\/
 (∃p xs,y=.ref p/\(SqL K H p xs\/SqT K H p xs)/\flatV x=true/\xs.all flatV=true/\Q (.bl (neg ^^ inV x xs)) H)\/∃(c:Nat) (z:Str),x=.str ⟨(List.toArray [c])⟩/\y=.str z/\Q (.bl (neg ^^ decide (c∈z.cps.toList))) H
def an7{X:Cx}(hu:X.A.units+65<cLine):OpR X (compareOp .In) (abu X.K false):=λpins s σ H x y v u Q I rx ry h=>by
 unfold abu at h;simp![Bool.false_xor]at h;rcases h with⟨d,ds,h⟩|⟨p,xs,h⟩|h
 .exact op_inD hu pins s σ H x y v u Q I rx ry ⟨d,ds,h⟩
 .exact op_in_seq pins s σ H x y v u Q I rx ry ⟨p,xs,h⟩
 .exact op_in_sign pins s σ H x y v u Q I rx ry h
def agG{X:Cx}(hu:X.A.units+65<cLine):OpR X (compareOp .NotIn) (abu X.K true):=λpins s σ H x y v u Q I rx ry h=>by
 unfold abu at h;simp![Bool.true_xor]at h;rcases h with⟨d,ds,h⟩|⟨p,xs,h⟩|h
 .exact op_notInD hu pins s σ H x y v u Q I rx ry ⟨d,ds,h⟩
 .exact op_notIn_seq pins s σ H x y v u Q I rx ry ⟨p,xs,h⟩
 .exact op_notIn_sign pins s σ H x y v u Q I rx ry h
def aju{K:auT}{aj:aM}{W:WX}{neg:Bool}:sH aj K W (inD neg) (abu K neg):=λσ g H x y d e Q k rx ry h=>by
 replace h:=Out.sat.bnd h
 unfold inB at h;left
 .next ds=>
  let⟨hz,h⟩:=h.qR
  rw[auU]at hz;have e2:okd 13 (.list ds)=true:=by rw[okd];exact hz.2
  exact .inl ⟨_,ds,rx.dp hz.1,ry.dp e2,Eo hz.1 #[()],Eo e2 #[()],h _ H (Ex.refl H) (.bl _)⟩
 .next ds=>
  let⟨hz,h⟩:=h.qR
  rw[auU]at hz;let⟨p,us,rfl,h1,h2⟩:=mZ ry
  have rx':=ajS hz.1 rx;refine .inr (.inl ⟨p,us,rfl,.inr h1,abC hz.1 rx',Zq hz.2 h2,?_⟩);rw[aed hz.1 rx' hz.2 h2];exact h _ H (Ex.refl H) (.bl _)
 .next xs z=>
  left
  .next c e=>
   refine .inr (.inr ⟨c,z,?_,lC ry,h _ H (Ex.refl H) (.bl _)⟩);rw[lC rx];congr 1;have:xs.cps=(List.toArray [c]):=by apply Array.toList_inj.mp;rw[e]
   cases xs;simp only at this;rw[this]
  .exact awb h
 .exact awb h
def Tg:Dat->Out Dat
 |.int i=>.ok (.int (-i))
 |_=>.bad
def Lw:Dat->Out Bool
 |.none=>.ok false
 |.bool b=>.ok b
 |.int i=>.ok (i != 0)
 |.str x=>Out.when (decide (x.length<=100000)) (.ok (!x.cps.toList.isEmpty))
 |.list ds=>.ok (!ds.isEmpty)
 |.tuple ds=>.ok (!ds.isEmpty)
 |_=>.bad
def gQ(a:QF):QT:=λM Z=>(a M Z).bind Lw
def Ea:Dat->Out Bool
 |.bool b=>.ok b
 |_=>.bad
def dW(a:QF):QT:=λM Z=>(a M Z).bind Ea
def jQ(a:QT):QT:=λM Z=>(a M Z).bind λb=>.ok (!b)
def jP(a b:QT):QT:=λM Z=>(a M Z).bind λx=>if x=true then b M Z else .ok false
def FJ(a b:QT):QT:=λM Z=>(a M Z).bind λx=>if x=true then .ok true else b M Z
def Vq(a:QT):QF:=λM Z=>(a M Z).bind λb=>.ok (.bool b)
def J8(t:QT)(a b:QF):QF:=λM Z=>(t M Z).bind λx=>if x=true then a M Z else b M Z
def Wj{K:auT}{g:Gh}{H:Hp}{us:List V}{ds:List Dat}(h:aF K g H us ds):(!ds.isEmpty)=!us.isEmpty:=by cases h<;>rfl
section
variable{X:Cx}{aj:aM}{W:WX}{a b c:Expr}{fa fb fc:QF}{ta tb:QT}{pos:Pos}
def aon(ha:QW aj X W a fa):QE aj X W (.UnaryOp .USub a pos) (dZ Tg fa):=
 PE.weak (pe_un un_neg ha) λσ H Q ⟨g,Z,M,I,h⟩=>by
  refine tW.go I h.bnd λd v H1 h1 e1 r1=>?_;unfold Tg at h1;split at h1
  .exact⟨_,cC r1,h1 _ H1 e1 (.int _)⟩
  .exact awb h1
def amR{g:Gh}{H:Hp}{v:V}{d:Dat}{P:Bool->Prop}{E:eX->Prop}(r:fu X.K g H v d)(h:(Lw d).sat P E):∃k,TruV X.K v H k/\P k:=by
 unfold Lw at h;left
 .cases KJ r;exact⟨_,rfl,h⟩
 .cases Iv r;exact⟨_,rfl,h⟩
 .cases cC r;exact⟨_,rfl,h⟩
 .next x=>
  let⟨hz,h⟩:=h.qR
  cases lC r;refine⟨_,⟨sz_of (awd hz),?_⟩,h⟩;have e:x.length=x.cps.toList.length:=by rw[avt];rfl
  rw[e];cases x.cps.toList with
  |nil=>rfl
  |cons y ys=>
   refine Eq.symm (bne_iff_ne.mpr ?_);simp;omega
 .let⟨p,us,rfl,h1,h2⟩:=jL r
  rw[Wj h2]at h;exact⟨_,.inl ⟨us,h1,rfl⟩,h⟩
 .let⟨p,us,rfl,h1,h2⟩:=mZ r
  rw[Wj h2]at h;exact⟨_,.inr (.inl ⟨us,h1,rfl⟩),h⟩
 .exact awb h
def anO(ha:QW aj X W a fa)(he:∀whole,isTrue a X.env whole=(do let v <-whole;standAt a.pos;holding [v] (truthy v))):vm aj X W a (gQ fa):=
 PT.weak (pt_truth ha he) λσ H Q ⟨g,Z,M,I,h⟩=>by
  refine tW.go I h.bnd λd v H1 h1 e1 r1=>?_;let⟨k,h2,h3⟩:=amR r1 h1
  exact⟨k,h2,h3 H1 e1⟩
def HJ{g:Gh}{H:Hp}{v:V}{d:Dat}{P:Bool->Prop}{E:eX->Prop}(r:fu X.K g H v d)(h:(Ea d).sat P E):∃k,v=.bl k/\P k:=by
 unfold Ea at h;left
 .cases Iv r;exact⟨_,rfl,h⟩
 .exact awb h
def anU{op:CmpOp}{r:R2}{o:Dat->Dat->Out Dat}(hr:OpR X (compareOp op) r)(ho:sH aj X.K W o r)(ha:QW aj X W a fa)(hb:QW aj X W b fb)(hm:behindInMarks op b=false):vm aj X W (.Compare a [op] [b] pos) (dW (aK o fa fb)):=
 PT.weak (pt_cmpR hr ha hb hm) λσ H Q ⟨g,Z,M,I,h⟩=>by
  refine V2 ho σ H _ ⟨g,Z,M,I,h.bnd.mono (λd h1 v H' e' r'=>?_) λ_ z=>z⟩;let⟨k,h2,h3⟩:=HJ r'.weak h1
  exact⟨k,h2,h3 H' e'⟩
def aoI{op:CmpOp}{neg:Bool}{d:Dat}{v:V}(hc:scD d=some v)(hr:OpR X (compareOp op) (aaK neg v))(ha:QW aj X W a fa)(hb:PE X b (tC v))(hm:behindInMarks op b=false):vm aj X W (.Compare a [op] [b] pos) (dW (vB neg d fa)):=
 PT.weak (pt_cmpR hr ha hb hm) λσ H Q ⟨g,Z,M,I,h⟩=>by
  refine tW.go I h.bnd.bnd λe x H1 h1 e1 r1=>?_;refine⟨rfl,_,rfl,?_⟩;rw[adA r1 hc];exact h1 H1 e1
def ami(ha:vm aj X W a ta):vm aj X W (.UnaryOp .Not a pos) (jQ ta):=
 PT.weak (pt_not ha) λσ H Q ⟨g,Z,M,I,h⟩=>jx.go I h.bnd λb H1 h1 e1=>h1 H1 e1
def QWt(aj:aM)(X:Cx)(W:WX)(e:Expr)(f:QT):Prop:=PW X e (jx X.K aj W f)
def PW.weak{X:Cx}{e:Expr}{t t':TT}(h:PW X e t)(k:∀σ H Q,t' σ H Q->t σ H Q):PW X e t':=⟨λwh pins s σ H Q I q=>h.run wh pins s σ H Q I (k σ H Q q)⟩
def anq{rest:List Expr}(ha:vm aj X W a ta)(hb:QWt aj X W (.BoolOp .And (b::rest) pos) tb):QWt aj X W (.BoolOp .And (a::b::rest) pos) (jP ta tb):=
 PW.weak (pw_and ha hb) λσ H Q ⟨g,Z,M,I,h⟩=>by
  refine jx.go I h.bnd λx H1 h1 e1=>?_;cases x with
  |true=>exact⟨g,Z,M,I.ex e1,h1.mono (λb k H' e'=>k H' (e1.trans e')) λ_ z=>z.ex e1⟩
  |false=>exact h1 H1 e1
def apF{rest:List Expr}(ha:vm aj X W a ta)(hb:QWt aj X W (.BoolOp .Or (b::rest) pos) tb):QWt aj X W (.BoolOp .Or (a::b::rest) pos) (FJ ta tb):=
 PW.weak (pw_or ha hb) λσ H Q ⟨g,Z,M,I,h⟩=>by
  refine jx.go I h.bnd λx H1 h1 e1=>?_;cases x with
  |true=>exact h1 H1 e1
  |false=>exact⟨g,Z,M,I.ex e1,h1.mono (λb k H' e'=>k H' (e1.trans e')) λ_ z=>z.ex e1⟩
def Wq(a:QF):QF:=Vq (jQ (dW a))
def Ce(a b:QF):QF:=λM Z=>(a M Z).bind λd=>(Ea d).bind λx=>if x=true then b M Z else .ok (.bool false)
def ail(a b:QF):QF:=λM Z=>(a M Z).bind λd=>(Ea d).bind λx=>if x=true then .ok (.bool true) else b M Z
def alk(ha:QW aj X W a fa):QE aj X W (.UnaryOp .Not a pos) (Wq fa):=
 PE.weak (pe_not ha) λσ H Q ⟨g,Z,M,I,h⟩=>by
  refine tW.go I h.bnd.bnd.bnd λd v H1 h1 e1 r1=>?_;let⟨k,h2,h3⟩:=HJ r1 h1
  exact⟨k,h2,h3 _ H1 e1 (.bl _)⟩
def alg{rest:List Expr}(ha:QE aj X W a fa)(hb:QE aj X W (.BoolOp .And (b::rest) pos) fb):QE aj X W (.BoolOp .And (a::b::rest) pos) (Ce fa fb):=
 PE.weak (pe_and ha hb) λσ H Q ⟨g,Z,M,I,h⟩=>by
  refine tQ.go I h.bnd λd v H1 h1 e1 r1=>?_;let⟨k,h2,h3⟩:=HJ r1.weak h1.bnd
  refine⟨k,h2,?_⟩;cases k with
  |true=>exact⟨g,Z,M,I.ex e1,h3.mono (λb k v' H' e' r'=>k v' H' (e1.trans e') r') λ_ z=>z.ex e1⟩
  |false=>exact h3 _ H1 e1 (.bl false)
def amT{rest:List Expr}(ha:QE aj X W a fa)(hb:QE aj X W (.BoolOp .Or (b::rest) pos) fb):QE aj X W (.BoolOp .Or (a::b::rest) pos) (ail fa fb):=
 PE.weak (pe_or ha hb) λσ H Q ⟨g,Z,M,I,h⟩=>by
  refine tQ.go I h.bnd λd v H1 h1 e1 r1=>?_;let⟨k,h2,h3⟩:=HJ r1.weak h1.bnd
  refine⟨k,h2,?_⟩;cases k with
  |false=>exact⟨g,Z,M,I.ex e1,h3.mono (λb k v' H' e' r'=>k v' H' (e1.trans e') r') λ_ z=>z.ex e1⟩
  |true=>exact h3 _ H1 e1 (.bl true)
def ahJ(hc:vm aj X W c ta)(ha:QE aj X W a fa)(hb:QE aj X W b fb):QE aj X W (.IfExp c a b pos) (J8 ta fa fb):=
 PE.weak (pe_ifExp hc ha hb) λσ H Q ⟨g,Z,M,I,h⟩=>by
  refine jx.go I h.bnd λx H1 h1 e1=>?_;cases x with
  |true=>exact⟨g,Z,M,I.ex e1,h1.mono (λb k v' H' e' r'=>k v' H' (e1.trans e') r') λ_ z=>z.ex e1⟩
  |false=>exact⟨g,Z,M,I.ex e1,h1.mono (λb k v' H' e' r'=>k v' H' (e1.trans e') r') λ_ z=>z.ex e1⟩
def pB(o o':Dat->Dat->Out Dat)(a b c:QF):QT:=λM Z=>(a M Z).bind λx=>(b M Z).bind λy=>(o x y).bind λz=>(Ea z).bind λk=>if k=true then(c M Z).bind λw=>(o' y w).bind Ea else .ok false
def acf{r r':R2}{o o':Dat->Dat->Out Dat}(ho:sH aj X.K W o r)(ho':sH aj X.K W o' r'){σ:L2.St}{H:Hp}{Q:VK}{P:Bool->Hp->Prop}(hP:∀k H',P k H'->Q (.bl k) H')(h:jx X.K aj W (pB o o' fa fb fc) σ H P):tChain r r' (tW X.K aj W fa) (tW X.K aj W fb) (tW X.K aj W fc) σ H Q:=by
 let⟨g,Z,M,I,h⟩:=h
 refine tW.go I h.bnd λd v H1 h1 e1 r1=>?_;have I1:=I.ex e1;refine tW.go I1 (h1.bnd.mono (λ_ z=>z) λ_ z=>z.ex e1) λd2 v2 H2 h2 e2 r2=>?_;have I2:=I1.ex e2;have r1':=r1.ex e2 I1.kd;refine ho σ g H2 v v2 d d2 _ I2.kd r1' r2 (h2.bnd.mono (λz hz u H3 e3 r3=>?_) λ_ z=>(z.ex e1).ex e2);let⟨k,h4,h5⟩:=HJ r3.weak hz.bnd
 refine⟨k,h4,?_⟩;have I3:=I2.ex e3;have e13:=(e1.trans e2).trans e3;cases k with
 |false=>exact hP _ _ (h5 H3 e13)
 |true=>
  refine tW.go I3 (h5.bnd.mono (λ_ z=>z) λ_ z=>z.ex e13) λd4 v4 H4 h6 e4 r4=>?_;refine ho' σ g H4 v2 v4 d2 d4 _ (I3.ex e4).kd ((r2.ex e3 I2.kd).ex e4 I3.kd) r4 (h6.bnd.mono (λz hz u H5 e5 r5=>?_) λ_ z=>(z.ex e13).ex e4);let⟨k,rfl,h8⟩:=HJ r5.weak hz
  exact hP _ _ (h8 H5 ((e13.trans e4).trans e5))
def aiG{op op':CmpOp}{r r':R2}{o o':Dat->Dat->Out Dat}(hr:OpR X (compareOp op) r)(hr':OpR X (compareOp op') r')(ho:sH aj X.K W o r)(ho':sH aj X.K W o' r')(ha:QW aj X W a fa)(hb:QW aj X W b fb)(hc:QW aj X W c fc)(hm:lastMarks [op,op'] [b,c]=false) :
  vm aj X W (.Compare a [op,op'] [b,c] pos) (pB o o' fa fb fc):=
 PT.weak (pt_chain hr hr' ha hb hc hm) λσ H Q h=>acf ho ho' (λk H' z=>⟨k,rfl,z⟩) h
def ahU{op op':CmpOp}{r r':R2}{o o':Dat->Dat->Out Dat}(hr:OpR X (compareOp op) r)(hr':OpR X (compareOp op') r')(ho:sH aj X.K W o r)(ho':sH aj X.K W o' r')(ha:QW aj X W a fa)(hb:QW aj X W b fb)(hc:QW aj X W c fc)(hm:lastMarks [op,op'] [b,c]=false) :
  QE aj X W (.Compare a [op,op'] [b,c] pos) (Vq (pB o o' fa fb fc)):=
 PE.weak (pe_chain hr hr' ha hb hc hm) λσ H Q ⟨g,Z,M,I,h⟩=>acf (P:=λb H1=>Q (.bl b) H1) ho ho' (λk H' z=>z) ⟨g,Z,M,I,h.bnd.mono (λb h1 H' e'=>h1 _ H' e' (.bl b)) λ_ z=>z⟩
end
def zX:Dat->Dat->Out Dat
 |.list ds,.int i=>match atI ds i with
  |some d=>.ok d
  |none=>.bad
 |.tuple ds,.int i=>match atI ds i with
  |some d=>.ok d
  |none=>.bad
 |.str z,.int i=>Out.when (decide (z.length<=100000)) (match atI z.cps.toList i with
  |some c=>.ok (.str ⟨(List.toArray [c])⟩)
  |none=>.bad)
 |_,_=>.bad
def adD{K:auT}{g:Gh}{H:Hp}{us:List V}{ds:List Dat}{i:Int}{d:Dat}(h:aF K g H us ds)(e:atI ds i=some d):∃v,atI us i=some v/\Rep K g H v d:=by
 unfold atI at e |-
 rw[h.length];cases hj:ixN ds.length i with
 |none=>rw[hj]at e;cases e
 |some j=>
  rw[hj]at e;let⟨v,h1,h2⟩:=h.get (i:=j) e
  exact⟨v,h1,h2⟩
def alJ(K:auT):R2:=λx y H Q=>rIxL K x y H Q\/rIxT K x y H Q\/rIxS x y H Q
def ap5{X:Cx}:IxR X (alJ X.K):=λvalue slice pins s σ H x y v u Q I rx ry h hs=>by
 rcases h with h|h|h
 .exact ix_list value slice pins s σ H x y v u Q I rx ry h hs
 .exact ix_tup value slice pins s σ H x y v u Q I rx ry h hs
 .exact ix_str value slice pins s σ H x y v u Q I rx ry h hs
def apu{K:auT}{aj:aM}{W:WX}:sH aj K W zX (alJ K):=λσ g H x y d e Q k rx ry h=>by
 unfold zX at h;left
 .left
  .next z hz=>
   let⟨p,us,rfl,h1,h2⟩:=jL rx
   let⟨v,h3,h4⟩:=adD h2 hz
   exact .inl ⟨p,us,_,v,rfl,cC ry,h1,h3,h v H (Ex.refl H) h4⟩
  .exact awb h
 .left
  .next z hz=>
   let⟨p,us,rfl,h1,h2⟩:=mZ rx
   let⟨v,h3,h4⟩:=adD h2 hz
   exact .inr (.inl ⟨p,us,_,v,rfl,cC ry,h1,h3,h v H (Ex.refl H) h4⟩)
  .exact awb h
 .let⟨hl,h⟩:=h.qR
  left
  .next c hz=>exact .inr (.inr ⟨_,_,c,lC rx,cC ry,sz_of (awd hl),hz,h _ H (Ex.refl H) (.str _)⟩)
  .exact awb h
 .exact awb h
def cutD{α:Type}(xs:List α)(lo hi:Option Int):List α:=(xs.drop (HT.sIx xs.length 0 lo)).take (HT.sIx xs.length xs.length hi-HT.sIx xs.length 0 lo)
abbrev QO:=Mo->Env->Out (Option Int)
def zP:QO:=λ_ _=>.ok none
def DK:Dat->Out Int
 |.int i=>.ok i
 |_=>.bad
def o9(a:QF):QO:=λM Z=>(a M Z).bind λd=>(DK d).bind λi=>.ok (some i)
def slD(d:Dat)(lo hi:Option Int):Out Dat:=
 match d with
 |.list ds=>.ok (.list (cutD ds lo hi))
 |.tuple ds=>.ok (.tuple (cutD ds lo hi))
 |.str z=>Out.when (decide (z.length<=100000)) (.ok (.str (cutS z lo hi)))
 |_=>.bad
def Nr(a:QF)(lo hi:QO):QF:=λM Z=>(a M Z).bind λd=>(lo M Z).bind λl=>(hi M Z).bind λh=>slD d l h
def tQO(K:auT)(aj:aM)(W:WX)(f:QO):TO:=λσ H Q=>∃g Z M,SInv K aj σ H g Z M/\(f M Z).sat (λo=>∀H',Ex H H'->Q o H') (sG K aj W g H σ)
def QOe(aj:aM)(X:Cx)(W:WX)(e:Option Expr)(f:QO):Prop:=PO X e (tQO X.K aj W f)
def al5(K:auT):V->Option Int->Option Int->Hp->VK->Prop:=λx lo hi H Q=>rSlL K x lo hi H Q\/rSlA K x lo hi H Q\/rSlS x lo hi H Q
def aqA{X:Cx}:SlR X (al5 X.K):=λpins s σ H x v vl vu lo hi sl Q I rx hs pl pu h=>by
 rcases h with h|h|h
 .exact sl_list pins s σ H x v vl vu lo hi sl Q I rx hs pl pu h
 .exact sl_tupA pins s σ H x v vl vu lo hi sl Q I rx hs pl pu h
 .exact sl_str pins s σ H x v vl vu lo hi sl Q I rx hs pl pu h
def aoV{K:auT}{g:Gh}{H:Hp}{x:V}{d:Dat}{lo hi:Option Int}{Q:VK}{E:eX->Prop}(k:Kd g H)(rx:fu K g H x d)(h:(slD d lo hi).sat (λz=>∀v H',Ex H H'->Rep K g H' v z->Q v H') E):al5 K x lo hi H Q:=by
 unfold slD at h;have hc:∀{us:List V} {ds:List Dat},aF K g H us ds->aF K g H (cutV us lo hi) (cutD ds lo hi):=λ{us ds} t=>by
  unfold cutV cutD;rw[t.length];exact(t.drop _).take _
 left
 .let⟨p,us,rfl,h1,h2⟩:=jL rx
  exact .inl ⟨p,us,rfl,h1,λq nq=>h _ _ (Ex.new nq) (.lst (.inl ⟨.inl awi,k.fresh nq⟩) ((hc h2).ex (Ex.new nq) k))⟩
 .next ds=>
  let⟨p,us,rfl,h1,h2⟩:=mZ rx
  refine .inr (.inl ⟨p,us,rfl,h1,λz=>?_,λ_ q nq=>h _ _ (Ex.new nq) (.tup (st_of awi) ((hc h2).ex (Ex.new nq) k))⟩);have e:cutD ds lo hi=ds:=by unfold cutD;rw[<-h2.length,z.1,z.2,h2.length];simp
  rw[e]at h;exact h _ H (Ex.refl H) (.tup h1 h2)
 .let⟨hz,h⟩:=h.qR
  exact .inr (.inr ⟨_,lC rx,sz_of (awd hz),h _ H (Ex.refl H) (.str _)⟩)
 .exact awb h
section
variable{X:Cx}{aj:aM}{W:WX}{a b:Expr}{fa fb:QF}{pos p2:Pos}
def apy(ha:QW aj X W a fa)(hb:QW aj X W b fb)(hs:PlainIx b):QE aj X W (.Subscript a b pos) (aK zX fa fb):=
 PE.weak (pe_ix ap5 ha hb hs) λσ H Q h=>V2 apu σ H Q h
def PO.weak{X:Cx}{e:Option Expr}{t t':TO}(h:PO X e t)(k:∀σ H Q,t' σ H Q->t σ H Q):PO X e t':=⟨λpins s σ H Q I q=>h.run pins s σ H Q I (k σ H Q q)⟩
def ajZ:QOe aj X W none zP:=PO.weak po_none λσ H Q ⟨g,Z,M,I,h⟩=>h H (Ex.refl H)
def akI(ha:QW aj X W a fa):QOe aj X W (some a) (o9 fa):=PO.weak (po_some ha) λσ H Q ⟨g,Z,M,I,h⟩=>by
 refine tW.go I h.bnd λd v H1 h1 e1 r1=>?_;have h1:=h1.bnd;unfold DK at h1;split at h1
 .exact⟨_,cC r1,h1 H1 e1⟩
 .exact awb h1
def apm{lo hi:Option Expr}{fl fh:QO}(ha:QW aj X W a fa)(hl:QOe aj X W lo fl)(hh:QOe aj X W hi fh):QE aj X W (.Subscript a (.Slice lo hi none p2) pos) (Nr fa fl fh):=
 PE.weak (pe_slice aqA ha hl hh) λσ H Q ⟨g,Z,M,I,h⟩=>by
  refine tW.go I h.bnd λd v H1 h1 e1 r1=>?_;have I1:=I.ex e1;refine⟨g,Z,M,I1,h1.bnd.mono (λl h2 H2 e2=>?_) λ_ z=>z.ex e1⟩;have I2:=I1.ex e2;refine⟨g,Z,M,I2,h2.bnd.mono (λu h3 H3 e3=>?_) λ_ z=>(z.ex e1).ex e2⟩;exact aoV (I2.ex e3).kd ((r1.ex e2 I1.kd).ex e3 I2.kd) (h3.mono (λz hz v' H' e' r'=>hz v' H' (((e1.trans e2).trans e3).trans e') r') λ_ z=>z)
end
def Nz(aj:aM)(K:auT)(W:WX)(o:Dat->Out Dat)(r:List V->Hp->VK->Prop):Prop:=∀(σ:L2.St) (g:Gh) (H:Hp) (x:V) (d:Dat) (Q:VK),Kd g H->fu K g H x d->
 (o d).sat (λz=>∀v H',Ex H H'->Rep K g H' v z->Q v H') (sG K aj W g H σ)->r [x] H Q
def Fn2(aj:aM)(K:auT)(W:WX)(o:Dat->Dat->Out Dat)(r:List V->Hp->VK->Prop):Prop:=∀(σ:L2.St) (g:Gh) (H:Hp) (x y:V) (d e:Dat) (Q:VK),Kd g H->fu K g H x d->fu K g H y e->
 (o d e).sat (λz=>∀v H',Ex H H'->Rep K g H' v z->Q v H') (sG K aj W g H σ)->r [x,y] H Q
def BV(f:Value)(x:Str):Prop:=bootBuiltins x=some f/\x≠"__name__"/\(x==("__debug__" : Str))=false
def nst:Expr->Bool
 |.Starred _ _=>false
 |_=>true
section
variable{X:Cx}{aj:aM}{W:WX}{a b c:Expr}{fa fb fc:QF}{pos p:Pos}{x:Str}
def bZ{env:PySem.Env}{a:Expr}(h:nst a=true)(es:List Expr):starEach (a::es) env=(false,eval a env)::starEach es env:=by cases a<;>first | rfl | cases h
theorem star_any{env:PySem.Env}{pos:Pos}:∀(es:List Expr),es.all nst=true->(backTo pos (starEach es env)).any (·.1)=false
 |[],_=>#[rfl]
 |a::es,h=>by
  rw[avw,auU]at h;rw[bZ h.1];have ih:=star_any (env:=env) (pos:=pos) es h.2;unfold backTo at ih |-
  rw[List.map_cons,avS,ih];rfl
def ajy{f:Value}{id:String}{r:List V->Hp->VK->Prop}{o:Dat->Out Dat}(hf:f=.builtin id\/f=.type id)(hc:CallR X f r)(ho:Nz aj X.K W o r)(hg:Gl X x)(hm:X.mg x=none)(hv:BV f x)(ha:QW aj X W a fa)(hs:nst a=true):QE aj X W (.Call (.Name x p) [a] [] pos) (dZ o fa):=by
 have h1:=pa_cons ha pa_nil (bZ hs []);have key:PE X (.Call (.Name x p) [a] [] pos) (tCB r (tCons (tW X.K aj W fa) tNil)):=by
  rcases hf with rfl|rfl
  .exact pe_callB hc hg hm hv.1 h1 hv.2.1 hv.2.2 (bZ hs []) #[rfl]
  .exact pe_callTy hc hg hm hv.1 h1 hv.2.1 hv.2.2 (bZ hs []) #[rfl]
 refine PE.weak key λσ H Q ⟨g,Z,M,I,h⟩=>?_;refine tW.go I h.bnd λd v H1 h1 e1 r1=>?_;exact ho σ g H1 v d Q (I.kd.ex e1) r1 (h1.mono (λz hz u H' e' r'=>hz u H' (e1.trans e') r') λ_ z=>z.ex e1)
def apD{f:Value}{id:String}{r:List V->Hp->VK->Prop}{o:Dat->Dat->Out Dat}(hf:f=.builtin id\/f=.type id)(hc:CallR X f r)(ho:Fn2 aj X.K W o r)(hg:Gl X x)(hm:X.mg x=none)(hv:BV f x)(ha:QW aj X W a fa)(hb:QW aj X W b fb)(hs:nst a=true)(hs2:nst b=true):QE aj X W (.Call (.Name x p) [a,b] [] pos) (aK o fa fb):=by
 have h1:=pa_cons ha (pa_cons hb pa_nil (bZ hs2 [])) (bZ hs [b]);have key:PE X (.Call (.Name x p) [a,b] [] pos) (tCB r (tCons (tW X.K aj W fa) (tCons (tW X.K aj W fb) tNil))):=by
  rcases hf with rfl|rfl
  .exact pe_callB hc hg hm hv.1 h1 hv.2.1 hv.2.2 (bZ hs [b]) (star_any [b] (by simp[hs2]))
  .exact pe_callTy hc hg hm hv.1 h1 hv.2.1 hv.2.2 (bZ hs [b]) (star_any [b] (by simp[hs2]))
 refine PE.weak key λσ H Q ⟨g,Z,M,I,h⟩=>?_;refine tW.go I h.bnd λd v H1 h1 e1 r1=>?_;have I1:=I.ex e1;refine tW.go I1 (h1.bnd.mono (λ_ z=>z) λ_ z=>z.ex e1) λd2 v2 H2 h2 e2 r2=>?_;exact ho σ g H2 v v2 d d2 Q (I1.ex e2).kd (r1.ex e2 I1.kd) r2 (h2.mono (λz hz u H' e' r'=>hz u H' ((e1.trans e2).trans e') r') λ_ z=>(z.ex e1).ex e2)
end
def pA:Dat->Out Dat
 |.list ds=>.ok (.int ds.length)
 |.tuple ds=>.ok (.int ds.length)
 |.str x=>Out.when (decide (x.length<=100000)) (.ok (.int x.length))
 |_=>.bad
def X8:Dat->Out Dat
 |.int i=>.ok (.int (if i<0 then -i else i))
 |_=>.bad
def yq:Dat->Dat->Out Dat
 |.int i,.int j=>.ok (.int (if j>i then j else i))
 |_,_=>.bad
def Es:Dat->Dat->Out Dat
 |.int i,.int j=>.ok (.int (if j<i then j else i))
 |_,_=>.bad
def intsOf:List Dat->Option (List Int)
 |[]=>some []
 |.int i::r=>(intsOf r).map (i::·)
 |_::_=>none
def qY:List Dat->Option (List Bool)
 |[]=>some []
 |.bool i::r=>(qY r).map (i::·)
 |_::_=>none
theorem M6{K:auT}{g:Gh}{H:Hp}:∀{us:List V} {ds:List Dat} {ns:List Int},aF K g H us ds->intsOf ds=some ns->us=ns.map V.int
 |_,_,ns,.nil,e=>by cases e;rfl
 |_,_,ns,.cons (d:=d) (ds:=ds) h t,e=>by
  cases d with
  |int i=>
   rw[intsOf]at e;cases hr:intsOf ds with
   |none=>rw[hr]at e;cases e
   |some r=>
    rw[hr]at e;cases e;cases h;rw[M6 t hr];rfl
  |_=>cases e
theorem QJ{K:auT}{g:Gh}{H:Hp}:∀{us:List V} {ds:List Dat} {ns:List Bool},aF K g H us ds->qY ds=some ns->us=ns.map V.bl
 |_,_,ns,.nil,e=>by cases e;rfl
 |_,_,ns,.cons (d:=d) (ds:=ds) h t,e=>by
  cases d with
  |bool i=>
   rw[qY]at e;cases hr:qY ds with
   |none=>rw[hr]at e;cases e
   |some r=>
    rw[hr]at e;cases e;cases h;rw[QJ t hr];rfl
  |_=>cases e
@[simp]def ni (ns:List Int):intsOf (ns.map PyData.int)=some ns:=by
 induction ns with
 |nil=>rfl
 |cons n ns ih=>rw[List.map_cons,intsOf,ih];rfl
@[simp]def yR (ns:List Bool):qY (ns.map PyData.bool)=some ns:=by
 induction ns with
 |nil=>rfl
 |cons n ns ih=>rw[List.map_cons,qY,ih];rfl
def acn:Dat->Out Dat
 |.list ds=>match intsOf ds with
  |some ns=>.ok (.int ns.sum)
  |none=>.bad
 |_=>.bad
def Jv:Int->List Int->Int
 |m,[]=>m
 |m,n::ns=>Jv (if n>m then n else m) ns
theorem Zv:∀(ns:List Int) (m:Int),(Jv m ns∈m::ns)/\∀y∈m::ns,y<=Jv m ns
 |[],m=>⟨by simp[Jv],λy h=>by simp at h;subst h;exact Int.le_refl _⟩
 |n::ns,m=>by
  let⟨h1,h2⟩:=Zv ns (if n>m then n else m)
  have hm:m<=(if n>m then n else m):=by split<;>omega
  have hn:n<=(if n>m then n else m):=by split<;>omega
  have h3:=h2 _ auX;refine⟨?_,λy hy=>?_⟩
  .show Jv (if n>m then n else m) ns∈_;rcases au7.mp h1 with e|e
   .rw[e];split
    .exact auY _ auX
    .exact auX
   .exact auY _ (auY _ e)
  .show y<=Jv (if n>m then n else m) ns;rcases au7.mp hy with e|hy
   .omega
   .rcases au7.mp hy with e|hy
    .omega
    .exact h2 y (auY _ hy)
def maxD:Dat->Out Dat
 |.list ds=>match intsOf ds with
  |some (n::ns)=>.ok (.int (Jv n ns))
  |_=>.bad
 |_=>.bad
def FW:Dat->Out Dat
 |.list ds=>match qY ds with
  |some bs=>.ok (.bool (bs.all id))
  |none=>.bad
 |_=>.bad
def Uh:Dat->Out Dat
 |.list ds=>match qY ds with
  |some bs=>.ok (.bool (bs.any id))
  |none=>.bad
 |_=>.bad
def m9:Dat->Out Dat
 |.list ds=>.ok (.tuple ds)
 |.tuple ds=>.ok (.tuple ds)
 |_=>.bad
def zL:Dat->Out Dat
 |.list ds=>.ok (.list ds)
 |.tuple ds=>.ok (.list ds)
 |_=>.bad
def intD:Dat->Out Dat
 |.int i=>.ok (.int i)
 |.bool k=>.ok (.int (if k then 1 else 0))
 |.str x=>Out.when (decide (x.length<=640)) (match PySem.intText? x with
  |some n=>.ok (.int n)
  |none=>.bad)
 |_=>.bad
def ajx(K:auT):List V->Hp->VK->Prop:=λxs H Q=>(∃p ys,xs=[.ref p]/\(SqL K H p ys\/SqT K H p ys)/\Q (.int ys.length) H)\/∃z,xs=[.str z]/\z.length<=sizeLine/\Q (.int z.length) H
def anQ{X:Cx}:CallR X (.builtin "len") (ajx X.K):=λpins s σ H xs us Q I r h=>h.elim (λh=>call_len_seq pins s σ H xs us Q I r h) λh=>call_len_str pins s σ H xs us Q I r h
def ai9:List V->Hp->VK->Prop:=λxs H Q=>((∃i,xs=[.int i]/\Q (.int i) H)\/∃k,xs=[.bl k]/\Q (.int (if k then 1 else 0)) H)\/∃a n,xs=[.str a]/\PySem.intText? a=some n/\a.length<=640/\Q (.int n) H
def anj{X:Cx}:CallR X (.type "int") ai9:=λpins s σ H xs us Q I r h=>h.elim (λh=>call_int1 pins s σ H xs us Q I r h) λh=>call_int_str pins s σ H xs us Q I r h
section
variable{K:auT}{aj:aM}{W:WX}
def an5:Nz aj K W pA (ajx K):=λσ g H x d Q k rx h=>by
 unfold pA at h;left
 .let⟨p,us,rfl,h1,h2⟩:=jL rx
  rw[<-h2.length]at h;exact .inl ⟨p,us,rfl,.inl h1,h _ H (Ex.refl H) (.int _)⟩
 .let⟨p,us,rfl,h1,h2⟩:=mZ rx
  rw[<-h2.length]at h;exact .inl ⟨p,us,rfl,.inr h1,h _ H (Ex.refl H) (.int _)⟩
 .let⟨hz,h⟩:=h.qR
  cases lC rx;exact .inr ⟨_,rfl,sz_of (awd hz),h _ H (Ex.refl H) (.int _)⟩
 .exact awb h
def alM:Nz aj K W X8 (λxs H Q=>∃i,xs=[.int i]/\Q (.int (if i<0 then -i else i)) H):=λσ g H x d Q k rx h=>by
 unfold X8 at h;left
 .cases cC rx;exact⟨_,rfl,h _ H (Ex.refl H) (.int _)⟩
 .exact awb h
def ak1:Fn2 aj K W yq (λxs H Q=>∃i j,xs=[.int i,.int j]/\Q (.int (if j>i then j else i)) H):=λσ g H x y d e Q k rx ry h=>by
 unfold yq at h;left
 .cases cC rx;cases cC ry;exact⟨_,_,rfl,h _ H (Ex.refl H) (.int _)⟩
 .exact awb h
def ajR:Fn2 aj K W Es (λxs H Q=>∃i j,xs=[.int i,.int j]/\Q (.int (if j<i then j else i)) H):=λσ g H x y d e Q k rx ry h=>by
 unfold Es at h;left
 .cases cC rx;cases cC ry;exact⟨_,_,rfl,h _ H (Ex.refl H) (.int _)⟩
 .exact awb h
def alD:Nz aj K W acn (rSum K):=λσ g H x d Q k rx h=>by
 unfold acn at h;left
 .left
  .next ns e=>
   let⟨p,us,rfl,h1,h2⟩:=jL rx
   have:=M6 h2 e;subst this;exact⟨p,ns,rfl,h1,h _ H (Ex.refl H) (.int _)⟩
  .exact awb h
 .exact awb h
def ank:Nz aj K W maxD (rMax K):=λσ g H x d Q k rx h=>by
 unfold maxD at h;left
 .left
  .next n ns e=>
   let⟨p,us,rfl,h1,h2⟩:=jL rx
   have:=M6 h2 e;subst this;let⟨m1,m2⟩:=Zv ns n
   refine⟨p,n::ns,rfl,h1,by simp,λm hm hy=>?_⟩;have e2:m=Jv n ns:=Int.le_antisymm (m2 m hm) (hy _ m1);rw[e2];exact h _ H (Ex.refl H) (.int _)
  .exact awb h
 .exact awb h
def alU:Nz aj K W FW (rAll K):=λσ g H x d Q k rx h=>by
 unfold FW at h;left
 .left
  .next ns e=>
   let⟨p,us,rfl,h1,h2⟩:=jL rx
   have:=QJ h2 e;subst this;exact⟨p,ns,rfl,h1,h _ H (Ex.refl H) (.bl _)⟩
  .exact awb h
 .exact awb h
def aor:Nz aj K W Uh (rAny K):=λσ g H x d Q k rx h=>by
 unfold Uh at h;left
 .left
  .next ns e=>
   let⟨p,us,rfl,h1,h2⟩:=jL rx
   have:=QJ h2 e;subst this;exact⟨p,ns,rfl,h1,h _ H (Ex.refl H) (.bl _)⟩
  .exact awb h
 .exact awb h
def aib:Nz aj K W m9 (λxs H Q=>∃p ys,xs=[.ref p]/\((SqL K H p ys/\∀l,H l=none->Q (.ref l) (upd H l (.tup ys)))\/(SqT K H p ys/\Q (.ref p) H))):=λσ g H x d Q k rx h=>by
 unfold m9 at h;left
 .let⟨p,us,rfl,h1,h2⟩:=jL rx
  exact⟨p,us,rfl,.inl ⟨h1,λl nl=>h _ _ (Ex.new nl) (.tup (st_of awi) (h2.ex (Ex.new nl) k))⟩⟩
 .let⟨p,us,rfl,h1,h2⟩:=mZ rx
  exact⟨p,us,rfl,.inr ⟨h1,h _ H (Ex.refl H) (.tup h1 h2)⟩⟩
 .exact awb h
def akt:Nz aj K W zL (λxs H Q=>∃p ys,xs=[.ref p]/\(SqL K H p ys\/SqT K H p ys)/\∀l,H l=none->Q (.ref l) (upd H l (.lst ys))):=λσ g H x d Q k rx h=>by
 unfold zL at h;left
 .let⟨p,us,rfl,h1,h2⟩:=jL rx
  exact⟨p,us,rfl,.inl h1,λl nl=>h _ _ (Ex.new nl) (.lst (.inl ⟨.inl awi,k.fresh nl⟩) (h2.ex (Ex.new nl) k))⟩
 .let⟨p,us,rfl,h1,h2⟩:=mZ rx
  exact⟨p,us,rfl,.inr h1,λl nl=>h _ _ (Ex.new nl) (.lst (.inl ⟨.inl awi,k.fresh nl⟩) (h2.ex (Ex.new nl) k))⟩
 .exact awb h
def anK:Nz aj K W intD ai9:=λσ g H x d Q k rx h=>by
 unfold intD at h;left
 .cases cC rx;exact .inl (.inl ⟨_,rfl,h _ H (Ex.refl H) (.int _)⟩)
 .cases Iv rx;exact .inl (.inr ⟨_,rfl,h _ H (Ex.refl H) (.int _)⟩)
 .let⟨hz,h⟩:=h.qR
  left
  .next n e=>
   cases lC rx;exact .inr ⟨_,n,rfl,e,awd hz,h _ H (Ex.refl H) (.int _)⟩
  .exact awb h
 .exact awb h
end
inductive Od where
 |int|bool|str|tuple|list
def Od.name:Od->String
 |.int=>"int"
 |.bool=>"bool"
 |.str=>"str"
 |.tuple=>"tuple"
 |.list=>"list"
def DQ(t:Od):Dat->Option Bool
 |.none=>some false
 |.int _=>some (match t with
  |.int=>true
  |_=>false)
 |.bool _=>some (match t with
  |.int=>true
  |.bool=>true
  |_=>false)
 |.str _=>some (match t with
  |.str=>true
  |_=>false)
 |.tuple _=>some (match t with
  |.tuple=>true
  |_=>false)
 |.list _=>some (match t with
  |.list=>true
  |_=>false)
 |.dict _=>none
def Bs(t:Od)(d:Dat):Out Dat:=match DQ t d with
 |some b=>.ok (.bool b)
 |none=>.bad
def aiI:Dat->String
 |.none=>"NoneType"
 |.int _=>"int"
 |.bool _=>"bool"
 |.str _=>"str"
 |.tuple _=>"tuple"
 |.list _=>"list"
 |.dict _=>"dict"
def aof{K:auT}{H:Hp}{a:Addr}{xs:List V}(h:SqL K H a xs):TyX K H (.ref a) (.type "list"):=by
 rcases h with(h|⟨o,h⟩)|⟨o,its,n,h1,h2,_⟩
 .exact .base (.lst h)
 .exact .base (.frz h)
 .exact .kList h1 h2
def amh{K:auT}{H:Hp}{a:Addr}{xs:List V}(h:SqT K H a xs):TyX K H (.ref a) (.type "tuple"):=by
 rcases h with(h|⟨o,h⟩)|⟨o,its,n,h1,h2,_⟩
 .exact .base (.tup h)
 .exact .fTuple h
 .exact .kTuple h1 h2
def apw{K:auT}{g:Gh}{H:Hp}{x:V}{d:Dat}(h:fu K g H x d)(hd:∀kv,d≠.dict kv):TyX K H x (.type (aiI d)):=by
 cases d with
 |none=>cases KJ h;exact .base .non
 |bool b=>cases Iv h;exact .base (.bl _)
 |int b=>cases cC h;exact .base (.int _)
 |str b=>cases lC h;exact .base (.str _)
 |list b=>let⟨a,us,rfl,h1,_⟩:=jL h;exact aof h1
 |tuple b=>let⟨a,us,rfl,h1,_⟩:=mZ h;exact amh h1
 |dict kv=>exact absurd rfl (hd kv)
def aj0{K:auT}{t:Od}{d:Dat}{b:Bool}(h:DQ t d=some b):PySem.W.kitOne K (.type (aiI d)) (.type t.name)=some b/\∀kv,d≠.dict kv:=by
 cases d with
 |dict kv=>cases h
 |_=>cases t<;>cases h<;>exact⟨kit_ty (by dsimp only[aiI,Od.name];decide +kernel),λ_ z=>nomatch z⟩
def Ab(t:Od)(a:QF):QF:=dZ (Bs t) a
section
variable{X:Cx}{aj:aM}{W:WX}{a b:Expr}{fa:QF}{pos p p2:Pos}{x y:Str}
def amF{t:Od}(hg:Gl X x)(hm:X.mg x=none)(hv:BV (.builtin "isinstance") x)(hg2:Gl X y)(hm2:X.mg y=none)(hv2:BV (.type t.name) y)(ha:QW aj X W a fa)(hs:nst a=true):QE aj X W (.Call (.Name x p) [a,.Name y p2] [] pos) (Ab t fa):=by
 have hb:PE X (.Name y p2) (tC (.ty t.name)):=pe_bltn hg2 hm2 hv2.1 rfl hv2.2.1 hv2.2.2;have h1:=pa_cons ha (pa_cons hb pa_nil (bZ (a:=.Name y p2) rfl [])) (bZ hs [.Name y p2]);have key:=pe_callB (pos:=pos) (p:=p) call_isi hg hm hv.1 h1 hv.2.1 hv.2.2 (bZ hs [.Name y p2]) (star_any [.Name y p2] rfl);refine PE.weak key λσ H Q ⟨g,Z,M,I,h⟩=>?_;refine tW.go I h.bnd λd v H1 h1 e1 r1=>?_;unfold Bs at h1;split at h1
 .next bb e=>
  let⟨k1,k2⟩:=aj0 (K:=X.K) e
  exact⟨v,_,_,_,bb,rfl,.ty _,apw r1 k2,k1,h1 _ H1 e1 (.bl _)⟩
 .exact awb h1
end
inductive Src where
 |lst (a:Addr)|tup (a:Addr)|str (x:Str)
def chars(x:Str):List V:=x.cps.toList.map λc=>V.str ⟨(List.toArray [c])⟩
def Src.sq(K:auT)(H:Hp)(us:List V):Src->Prop
 |.lst a=>SqL K H a us
 |.tup a=>SqT K H a us
 |.str x=>us=chars x
def Src.it(h:Heap)(i:Addr)(n:Nat):Src->Prop
 |.lst a=>h.IsListIter i a n
 |.tup a=>h.IsTupleIter i a n
 |.str x=>∃t,h.IsStrIter i (strIterType x) x t n
def Src.ad:Src->List Addr
 |.lst a=>[a]
 |.tup a=>[a]
 |.str _=>[]
section
variable{X:Cx}{pins:List (Addr×Obj)}{σ:L2.St}{H:Hp}{s:Shared}
def Src.inj{S:Src}{us ws:List V}(I:L2.Inv X pins σ H s)(h:S.sq X.K H us)(h':S.sq X.K H ws):us=ws:=by
 cases S with
 |lst a=>exact I.list_inj h h'
 |tup a=>exact I.tuple_inj h h'
 |str x=>exact Eq.trans h (Eq.symm h')
def Src.draws{S:Src}{us:List V}{i:Addr}{n:Nat}(I:L2.Inv X pins σ H s)(hA:X.A.handled=none)(hs:S.sq X.K H us)(hi:S.it s.heap i n)(hne:∀a∈S.ad,a≠i) :
  ∃(P:Nat->Value->Prop) (St:Nat->Heap->Prop),Draws X.prog X.w X.A.in1 i (i::S.ad) us.length P St/\St n s.heap/\(∀m h,St m h->S.it h i m)/\∀(m:Nat) (v:Value) (x:V),P m v->us[m]?=some x->RelV x v:=by
 cases S with
 |lst a=>
  let⟨its,rv,p,hz⟩:=I.list hs
  have hl:=rv.length;have D:=Draws.list (prog:=X.prog) (w:=X.w) (A:=X.A.in1) hA i a (hne a (by simp[Src.ad])) its.toArray;rw[av5,<-hl]at D;refine⟨_,_,D,⟨hi,p.isList⟩,λm h z=>z.1,λm v x hv hx=>?_⟩;let⟨u,hu,ru⟩:=rv.get hx
  have:v=u:=avi (hv.symm.trans (by simpa using hu));rw[this];exact ru
 |tup a=>
  let⟨its,rv,p,hz⟩:=I.tuple hs
  have hl:=rv.length;have D:=Draws.tuple (prog:=X.prog) (w:=X.w) (A:=X.A.in1) hA i a (hne a (by simp[Src.ad])) its.toArray;rw[av5,<-hl]at D;refine⟨_,_,D,⟨hi,p⟩,λm h z=>z.1,λm v x hv hx=>?_⟩;let⟨u,hu,ru⟩:=rv.get hx
  have:v=u:=avi (hv.symm.trans (by simpa using hu));rw[this];exact ru
 |str x=>
  let⟨t,hi⟩:=hi
  have hl:us.length=x.cps.size:=by rw[show us=chars x from hs];unfold chars;rw[au3,avt]
  have D:=Draws.text (prog:=X.prog) (w:=X.w) (A:=X.A.in1) hA i x t;rw[<-hl]at D;refine⟨_,_,D,hi,λm h z=>⟨t,z⟩,λm v y hv hy=>?_⟩;let⟨c,u,hc,rfl⟩:=hv
  rw[show us=chars x from hs]at hy;unfold chars at hy;rw[ava,avx,hc]at hy;cases hy;exact⟨u,rfl⟩
def Src.QZ{S:Src}{h:Heap}{i:Addr}{n:Nat}(hi:S.it h i n):∃o,h.get? i=some o/\∀v,o.data≠.cell v:=by
 cases S with
 |lst a=>let⟨o,e,_,d⟩:=hi;exact⟨o,e,λv q=>by rw[d]at q;cases q⟩
 |tup a=>let⟨o,e,_,d⟩:=hi;exact⟨o,e,λv q=>by rw[d]at q;cases q⟩
 |str x=>let⟨t,o,e,_,d⟩:=hi;exact⟨o,e,λv q=>by rw[d]at q;cases q⟩
def Src.RD{S:Src}{h h':Heap}{i:Addr}{n:Nat}(hi:S.it h i n)(k:∀o,h.get? i=some o->h'.get? i=some o):S.it h' i n:=by
 cases S with
 |lst a=>exact hi.at k
 |tup a=>exact hi.at k
 |str x=>let⟨t,o,e,r⟩:=hi;exact⟨t,o,k o e,r⟩
end
def ItE(K:auT)(S:Src)(k₀:Int):It:=
 ⟨λi H=>∃(us:List V) (x:V),S.sq K H us/\us[i]?=some x,λi H v H'=>∃T x,v=.ref T/\H T=none/\H'=upd H T (.tup [.int (k₀+(i:Int)),x])/\∀us,S.sq K H us->us[i]?=some x,λi H=>∃us:List V,S.sq K H us/\us.length=i⟩
def apo{P:Program}{w:World}{K:auT}{elts:List Expr}{kk:Nat}{tpos:Pos}(S:Src)(e i0:Addr)(k₀:Int)(hne:e≠i0)(ha:∀a∈S.ad,e≠a/\a≠i0) :
  Turn P w K (.Tuple elts kk tpos) (ItE K S k₀) [e,i0] e (λi h=>(∃old,IsEnum h e i0 (k₀+(i:Int)) old)/\S.it h i0 i) where
 mem:=by simp
 obj:=λi h st b hb=>by
  let⟨⟨old,he⟩,hi⟩:=st
  have e':b=e\/b=i0:=by simpa using hb
  rcases e' with z|z
  .rw[z];exact⟨_,he,λv q=>nomatch q⟩
  .rw[z];exact Src.QZ hi
 keep:=λi h h' st k=>let⟨⟨old,he⟩,hi⟩:=st;⟨⟨old,k e (by simp) _ he⟩,Src.RD hi λo q=>k i0 (by simp) o q⟩
 item:=by
  intro X hP hw hK hc i pins s σ H E I hf st hg;subst hP hw hK;let⟨⟨old,he⟩,hit⟩:=st
  let⟨us,x,hq,hx⟩:=hg
  let⟨PP,St,D,st0,stI,rel⟩:=Src.draws I (I.ok.hd hc) hq hit λa z=>(ha a z).2
  have hel:e<s.heap.objs.size:=Heap.lt_size he;have hil:i0<s.heap.objs.size:=by let⟨_,q,_⟩:=Src.QZ hit;exact Heap.lt_size q
  have hin:i<us.length:=(auZ.mp hx).1;refine wpAny_pyNext_enum_itemC D he st0 hin hne (λz=>?_) λv h' tk hP ho hst' hT hsz hk=>?_
  .rcases au7.mp z with z|z
   .exact hne z
   .exact(ha e z).1 rfl
  have ru:=rel i v x hP hx;refine⟨_,rfl,wpAny_letOwnedTupleGo_enum (s:={ s with heap:=h',toks:=tk+1 }) ho λh'' he' sb=>?_⟩;have hT2:h''.get? s.heap.objs.size=some { cls:=.type "tuple",data:=.seq (List.toArray [.int (k₀+(i:Int)) tk,v]) }:=(sb.2 _ (Nat.ne_of_gt hel)).trans hT
  have new:ObjOk X.prog X.w (upd H s.heap.objs.size (.tup [.int (k₀+(i:Int)),x])) h'' s.heap.objs.size (.tup [.int (k₀+(i:Int)),x]):=
   ⟨by show 2<=sizeLine;decide,[.int (k₀+(i:Int)) tk,v],.cons ⟨_,rfl⟩ (.cons ru .nil),⟨_,hT2,rfl,_,rfl⟩⟩
  have I1:L2.Inv X pins σ (upd H s.heap.objs.size (.tup [.int (k₀+(i:Int)),x])) { s with heap:=h'',toks:=tk+1 }:=
   I.turnedNew (ch:=[e,i0]) (λb ob hb q=>(sb.2 b (λz=>hb (by simp[z]))).trans (hk b ob (λz=>hb (by simp[z])) (λz=>hb (by simp[z])) q)) hf (avd _) new
  refine⟨.ref s.heap.objs.size,_,I1,rfl,⟨_,x,rfl,I.hok.fresh (avd _),rfl,λys hy=>by rw[Src.inj I hy hq];exact hx⟩,⟨⟨v,?_⟩,Src.RD (stI _ _ hst') λo q=>(sb.2 i0 (Ne.symm hne)).trans q⟩,λb hb=>?_⟩
  .have e1:k₀+((i+1:Nat):Int)=k₀+(i:Int)+1:=#[];rw[e1];exact he'
  .have hb':b<s.heap.objs.size:=by
    have e':b=e\/b=i0:=by simpa using hb
    rcases e' with z|z
    .rw[z];exact hel
    .rw[z];exact hil
   rw[upd_ne (avq hb')];exact(hf b hb).1
 done:=by
  intro X hP hw hK hc i pins s σ H E I hf st hg;subst hP hw hK;let⟨⟨old,he⟩,hit⟩:=st
  let⟨us,hq,hx⟩:=hg
  let⟨PP,St,D,st0,stI,rel⟩:=Src.draws I (I.ok.hd hc) hq hit λa z=>(ha a z).2
  let⟨f0,f1,f2,f3,f4,f5⟩:=hf i0 (by simp)
  rw[<-hx]at st0;exact wpAny_pyNext_enum_endD D he st0 λh' eb=>⟨rfl,I.turned (t':=s.toks) (λb o hb q=>eb b o hb q) f0 f1 f3 f4 f5⟩
 self:=λA i s Q E st h=>let⟨⟨_,he⟩,_⟩:=st;wpAny_pyIter_enum he h
def Src.begins{X:Cx}{pins:List (Addr×Obj)}{σ:L2.St}{H:Hp}{s:Shared}{S:Src}{us:List V}{x:V}{v:Value}(I:L2.Inv X pins σ H s)(hs:S.sq X.K H us)(hx:(∃a,x=.ref a/\S.ad=[a]/\(S=.lst a\/S=.tup a))\/∃y,S=.str y/\x=.str y)(r:RelV x v) :
  ∃(o:Obj) (B:Heap->Prop),Begins v o B/\B s.heap/\(∀h i,h.get? i=some o->S.it h i 0)/\∀a∈S.ad,a<s.heap.objs.size:=by
 rcases hx with⟨a,rfl,ha,h|h⟩|⟨y,h,rfl⟩
 .subst h;cases r;let⟨its,rv,p,_⟩:=I.list hs
  let⟨o1,ho1,_⟩:=id p.isList
  refine⟨_,_,begins_list a its.toArray,p.isList,λh i e=>⟨_,e,rfl,rfl⟩,λb hb=>?_⟩;rw[ha]at hb;rw[au0.mp hb];exact Heap.lt_size ho1
 .subst h;cases r;let⟨its,rv,p,_⟩:=I.tuple hs
  let⟨o1,ho1,_⟩:=id p
  refine⟨_,_,begins_tuple a its.toArray,p,λh i e=>⟨_,e,rfl,rfl⟩,λb hb=>?_⟩;rw[ha]at hb;rw[au0.mp hb];exact Heap.lt_size ho1
 .subst h;let⟨t,rfl⟩:=r
  exact⟨_,_,begins_text y t,awa,λh i e=>⟨t,_,e,rfl,rfl⟩,λb hb=>nomatch hb⟩
def srcOf(x:V)(S:Src):Prop:=(∃a,x=.ref a/\S.ad=[a]/\(S=.lst a\/S=.tup a))\/∃y,S=.str y/\x=.str y
def iEn(K:auT)(ta:TA)(k₀:Int):TI:=λσ H R=>ta σ H λvs H1=>∃x S us,vs=[x]/\srcOf x S/\S.sq K H1 us/\R (ItE K S k₀) H1
section
variable{X:Cx}{a b:Expr}{ta tb:TA}{p pos tpos:Pos}{elts:List Expr}{kk:Nat}
def ams{pins:List (Addr×Obj)}{σ:L2.St}{H:Hp}{s:Shared}(I:L2.Inv X pins σ H s):∀b∈[s.heap.objs.size+1,s.heap.objs.size],FpOk X pins H b:=λb hb=>by
 have e':b=s.heap.objs.size+1\/b=s.heap.objs.size:=by simpa using hb
 have hle:s.heap.objs.size<=b:=by
  rcases e' with z|z
  .rw[z];exact Nat.le_add_right _ _
  .rw[z];exact avd _
 exact I.fpOk hle (I.hok.fresh hle)
def ajf{pins:List (Addr×Obj)}{σ:L2.St}{H:Hp}{s:Shared}{S:Src}{us:List V}{x:V}{v:Value}{o:Obj}{k₀:Int}{R:It->Hp->Prop}{h':Heap}(I:L2.Inv X pins σ H s)(hlt:∀a∈S.ad,a<s.heap.objs.size)(hit:∀h i,h.get? i=some o->S.it h i 0)
  (he:IsEnum h' (s.heap.objs.size+1) s.heap.objs.size k₀ .none) (ho:h'.get? s.heap.objs.size=some o) (hk:∀b o,s.heap.get? b=some o->h'.get? b=some o) (q:R (ItE X.K S k₀) H) :
  wpAny (model X.prog X.w) X.A (pyIter (.ref (s.heap.objs.size+1))) (PIE X pins σ (.Tuple elts kk tpos) R) X.xe { s with heap:=h' }:=by
 refine wpAny_pyIter_enum he ?_;have I2:L2.Inv X pins σ H { s with heap:=h' }:=I.kept (t':=s.toks) hk;refine⟨s.heap.objs.size+1,[s.heap.objs.size+1,s.heap.objs.size],_,_,H,rfl,I2,apo S (s.heap.objs.size+1) s.heap.objs.size k₀ (Nat.succ_ne_self _) (λa z=>?_),⟨⟨.none,?_⟩,hit _ _ ho⟩,ams I,q⟩
 .have:=hlt a z;exact⟨Nat.ne_of_gt (avQ this),avq this⟩
 .rw[show k₀+((0:Nat):Int)=k₀ by simp];exact he
def aiL{v:Value}{o:Obj}{B:Heap->Prop}(hB:Begins v o B) :
  Meets (Builtin.«enumerate.__new__» ⟨[.type "enumerate",v],[]⟩) (λ_ R s=>B s.heap/\
   R (.ok (.ret (.ref (s.heap.push o).objs.size))) { s with heap:=(s.heap.push o).push { cls:=.type "enumerate",data:=.fields (List.toArray [.none,.bool false,.ref s.heap.objs.size,rawInt 0,.none,.none]) } }):=
 .of_wp λprog w A R s hh=>by
  let⟨hp,gs,dr,tk,os⟩:=s
  let⟨hb,hr⟩:=hh
  have hsub:=sub_enumerate;have qi:∀{A':Around} {E:Value->Shared->Prop} {Q:Value->Shared->Prop},Q (.ref hp.objs.size) ⟨hp.push o,gs,dr,tk,os⟩->wpAny (model prog w) A' (pyIter v) Q E ⟨hp,gs,dr,tk,os⟩:=λz=>hB.iter prog w _ _ ⟨hp,gs,dr,tk,os⟩ _ hb z
  wp_walk using qi
  refine wpAny_stack_any λst=>awf ?_;split
  .next c _ _ _ _ _=>
   cases(c==Value.type "enumerate")<;>(wp_walk using qi;exact⟨_,rfl,hr⟩)
  .wp_walk using qi
   exact⟨_,rfl,hr⟩
def agI{prog:Program}{w:World}{A:Around}{E:Value->Shared->Prop}{s:Shared}{v:Value}{o:Obj}{B:Heap->Prop}{Q:Value->Shared->Prop}(hB:Begins v o B)(hb:B s.heap)
  (h:∀h',IsEnum h' (s.heap.objs.size+1) s.heap.objs.size 0 .none->h'.get? s.heap.objs.size=some o->(∀b o,s.heap.get? b=some o->h'.get? b=some o)->Q (.ref (s.heap.objs.size+1)) { s with heap:=h' }) :
  wpAny (model prog w) A (call (.type "enumerate") [v]) Q E s:=by
 refine callType_new F.called_enumerate #[()] (F.typeCall_enumerate_1 _) (F.newCall_enumerate_1 _) (λob=>F.args_object_init_2 ob _) F.entry_enumerate_new (aiL hB) ⟨hb,?_⟩;have hz:(s.heap.push o).objs.size=s.heap.objs.size+1:=Heap.size_push ..;have he:=Heap.get?_push_size (s.heap.push o) (o:={ cls:=.type "enumerate",data:=.fields (List.toArray [.none,.bool false,.ref s.heap.objs.size,rawInt 0,.none,.none]) }) rfl
 show _/\_;rw[hz]at he |-
 exact⟨⟨_,he,rfl⟩,h _ he (Heap.get?_push_of_some _ (Heap.get?_push_size _ hB.free)) λb u z=>Heap.get?_push_of_some _ (Heap.get?_push_of_some _ z)⟩
def apv(hg:Gl X "enumerate")(hm:X.mg "enumerate"=none)(ha:PA X [a] ta)(hs:nst a=true):PI X (.Tuple elts kk tpos) (.Call (.Name "enumerate" p) [a] [] pos) (iEn X.K ta 0):=by
 refine⟨λpins s σ H R I h=>?_⟩;refine Call_ (ld_blt I hg hm boot_enumerate (PyProof.Rows.callWith_type1 (thn (ha.run pos pins s σ H _ I h) λus s1 ⟨vs,H1,I1,r1,x,S,us',ev,hx,hq,q⟩=>?_) (bZ hs []) #[rfl]));subst ev;let⟨v,rfl,r⟩:=vals1 r1
 let⟨o,B,hB,hb,hit,hlt⟩:=Src.begins I1 hq hx r
 exact agI hB hb λh' he ho hk=>ajf (x:=x) (v:=v) (us:=us') I1 hlt hit he ho hk q
def ags{M:Model}{A:Around}{E:Value->Shared->Prop}{s:Shared}{pos:Pos}{T:String}{args:List (Bool×Sem Value)}{kws:List (Option Str×Sem Value)}{Q:Value->Shared->Prop}(h1:args.any (·.1)=false)(h2:kws.any (·.1.isNone)=false)
  (h:wpAny M A (evalArgs (.type T) true args kws) (λz s₁=>wpAny M A (call (.type T) z.pos z.kw) Q E s₁) E s):wpAny M A (callWith pos (.type T) [] args kws) Q E s:=by
 unfold callWith;refine awe (wpAny_holding (wpAny_mono h (λz s₁ hz=>awe (wpAny_standAt ?_)) λ_ _ y=>y));rw[h1,h2];refine awe (awf ?_);exact awe (wpAny_mono hz (λr s₂ hr=>awe (wpAny_holding (wpAny_point (awf hr)))) λ_ _ y=>y)
def ama{k₀:Int}{j:Nat}{kp kp2:Pos}(hk0 : -(2^63)<=k₀)(hk1:k₀<2^63)(hg:Gl X "enumerate")(hm:X.mg "enumerate"=none)(ha:PA X [a] ta)(hs:nst a=true) :
  PI X (.Tuple elts kk tpos) (.Call (.Name "enumerate" p) [a] [⟨some "start",.Constant (.int k₀) j kp,kp2⟩] pos) (iEn X.K ta k₀):=by
 refine⟨λpins s σ H R I h=>?_⟩;have hpk:PK X [⟨some "start",.Constant (.int k₀) j kp,kp2⟩] (tCons (tC (.int k₀)) tNil):=pk_cons pe_int pk_nil
 refine wpAny_Call_Name_kw (ld_blt I hg hm boot_enumerate (ags (star_any [a] (by simp[hs])) #[rfl] ?_));refine PyProof.Rows.evalArgs_kw2 #[rfl] (thn (ha.run pos pins s σ H _ I h) λus s1 ⟨vs,H1,I1,r1,x,S,us',ev,hx,hq,q⟩=>?_) (by first | (rw[bZ hs];done) | (rw[bZ hs];rfl) | rw[bZ hs]);refine thn (hpk.run pos pins s1 σ H1 (λzs H2=>zs=[.int k₀]/\H2=H1) I1 ⟨rfl,rfl⟩) λws s2 ⟨zs,H2,I2,r2,e1,e2⟩=>?_;subst ev e1 e2;let⟨v,rfl,r⟩:=vals1 r1
 let⟨w,rfl,t,rfl⟩:=vals1 r2
 let⟨o,B,hB,hb,hit,hlt⟩:=Src.begins I2 hq hx r
 exact enum_begins_start hB hb hk0 hk1 λh' he ho _ hk=>ajf (x:=x) (v:=v) (us:=us') I2 hlt hit he ho hk q
def ItZ(K:auT)(S T:Src):It:=
 ⟨λi H=>∃(us ws:List V) (x y:V),S.sq K H us/\T.sq K H ws/\us[i]?=some x/\ws[i]?=some y,λi H v H'=>∃U x y,v=.ref U/\H U=none/\H'=upd H U (.tup [x,y])/\(∀us,S.sq K H us->us[i]?=some x)/\∀ws,T.sq K H ws->ws[i]?=some y,
  λi H=>∃us ws:List V,S.sq K H us/\T.sq K H ws/\i=min us.length ws.length⟩
def apI{P:Program}{w:World}{K:auT}{S T:Src}{N:Addr}(h1:∀a∈S.ad,a<N)(h2:∀a∈T.ad,a<N) :
  Turn P w K (.Tuple elts kk tpos) (ItZ K S T) [N+4,N+2,N+3,N,N+1] (N+4) (λn h=>IsZip h (N+4) (N+2) (N+3) .none/\IsPair h (N+2) (.ref N) (.ref (N+1))/\(∃x y,IsPair h (N+3) x y)/\S.it h N n/\T.it h (N+1) n) where
 mem:=by simp
 obj:=λn h q c hc=>by
  let⟨gz,gI,⟨x,y,gO⟩,i1,i2⟩:=q
  simp![au7,avm,or_false]at hc;rcases hc with rfl|rfl|rfl|rfl|rfl
  .exact⟨_,gz,λv q=>nomatch q⟩
  .exact⟨_,gI,λv q=>nomatch q⟩
  .exact⟨_,gO,λv q=>nomatch q⟩
  .exact Src.QZ i1
  .exact Src.QZ i2
 keep:=λn h h' q k=>by
  let⟨gz,gI,⟨x,y,gO⟩,i1,i2⟩:=q
  exact⟨k _ (by simp) _ gz,k _ (by simp) _ gI,⟨x,y,k _ (by simp) _ gO⟩,Src.RD i1 λo e=>k _ (by simp) o e,Src.RD i2 λo e=>k _ (by simp) o e⟩
 item:=by
  intro X hP hw hK hc n pins s σ H E I hf q hg;subst hP hw hK;let⟨gz,gI,⟨x0,y0,gO⟩,i1,i2⟩:=q
  let⟨us,ws,x,y,qx,qy,hx,hy⟩:=hg
  let⟨P1,St1,D1,st1,b1,rel1⟩:=Src.draws I (I.ok.hd hc) qx i1 λa z=>avq (h1 a z)
  let⟨P2,St2,D2,st2,b2,rel2⟩:=Src.draws I (I.ok.hd hc) qy i2 λa z=>avq (avQ (h2 a z))
  have hzl:N+4<s.heap.objs.size:=Heap.lt_size gz;refine wpAny_pyNext_zipD2_item (zip_sep2 h1 h2) D1 D2 gz gI gO st1 st2 (auZ.mp hx).1 (auZ.mp hy).1 λv1 v2 h' tk p1 p2 z' o' s1 s2 hT hsz hk=>?_;refine⟨_,rfl,wpAny_letOwnedTupleGo_zip (s:={ s with heap:=h',toks:=tk }) z' λh'' z'' sb=>?_⟩;have hT2:=(sb.2 _ (Nat.ne_of_gt hzl)).trans hT;have new:ObjOk X.prog X.w (upd H s.heap.objs.size (.tup [x,y])) h'' s.heap.objs.size (.tup [x,y]):=⟨by show 2<=sizeLine;decide,[v1,v2],.cons (rel1 n v1 x p1 hx) (.cons (rel2 n v2 y p2 hy) .nil),⟨_,hT2,rfl,_,rfl⟩⟩;have I1:L2.Inv X pins σ (upd H s.heap.objs.size (.tup [x,y])) { s with heap:=h'',toks:=tk }:=by refine I.turnedNew (t':=tk) (ch:=[N+4,N+2,N+3,N,N+1]) (λc o hb e=>?_) hf (avd _) new;simp![au7,avm,or_false,not_or]at hb;exact(sb.2 c hb.1).trans (hk c o hb.1 hb.2.2.1 hb.2.2.2.1 hb.2.2.2.2 e)
  have ne4:∀k,k≠4->N+k≠N+4:=λk hk z=>hk (av9 z);refine⟨.ref s.heap.objs.size,_,I1,rfl,⟨_,x,y,rfl,I.hok.fresh (avd _),rfl,λl hl=>by rw[Src.inj I hl qx];exact hx,λl hl=>by rw[Src.inj I hl qy];exact hy⟩,⟨z'',?_,⟨v1,v2,?_⟩,?_,?_⟩,λc hcm=>?_⟩
  .exact(sb.2 _ (ne4 2 #[()])).trans (hk _ _ (ne4 2 #[()]) (λz=>absurd (av9 z) #[()]) (λz=>absurd (av9 (z.trans (Nat.add_zero N).symm)) #[()]) (λz=>absurd (av9 z) #[()]) gI)
  .exact(sb.2 _ (ne4 3 #[()])).trans o'
  .exact Src.RD (b1 _ _ s1) λo e=>(sb.2 _ (ne4 0 #[()])).trans e
  .exact Src.RD (b2 _ _ s2) λo e=>(sb.2 _ (ne4 1 #[()])).trans e
  .have hlt:c<s.heap.objs.size:=by
    simp![au7,avm,or_false]at hcm;rcases hcm with rfl|rfl|rfl|rfl|rfl
    .exact hzl
    .exact Heap.lt_size gI
    .exact Heap.lt_size gO
    .let⟨_,e1,_⟩:=Src.QZ i1
     exact Heap.lt_size e1
    .let⟨_,e2,_⟩:=Src.QZ i2
     exact Heap.lt_size e2
   rw[upd_ne (avq hlt)];exact(hf c hcm).1
 done:=by
  intro X hP hw hK hc n pins s σ H E I hf q hg;subst hP hw hK;let⟨gz,gI,⟨x0,y0,gO⟩,i1,i2⟩:=q
  let⟨us,ws,qx,qy,hn⟩:=hg
  let⟨P1,St1,D1,st1,b1,rel1⟩:=Src.draws I (I.ok.hd hc) qx i1 λa z=>avq (h1 a z)
  let⟨P2,St2,D2,st2,b2,rel2⟩:=Src.draws I (I.ok.hd hc) qy i2 λa z=>avq (avQ (h2 a z))
  refine wpAny_pyNext_zipD2_end (zip_sep2 h1 h2) D1 D2 gz gI gO st1 st2 #[] #[] #[] λh' tk hk=>⟨rfl,?_⟩;refine I.turnedL (t':=tk) (ch:=[N+4,N+2,N+3,N,N+1]) (λc o hb e=>?_) hf;simp![au7,avm,or_false,not_or]at hb;exact hk c o hb.1 hb.2.2.1 hb.2.2.2.1 hb.2.2.2.2 e
 self:=λA n s Q E q h=>wpAny_pyIter_zip q.1 h
def iZp(K:auT)(ta:TA):TI:=λσ H R=>ta σ H λvs H1=>∃x y S T us ws,vs=[x,y]/\srcOf x S/\srcOf y T/\S.sq K H1 us/\T.sq K H1 ws/\R (ItZ K S T) H1
def apE(hg:Gl X "zip")(hm:X.mg "zip"=none)(ha:PA X [a,b] ta)(hs:nst a=true)(hs2:nst b=true):PI X (.Tuple elts kk tpos) (.Call (.Name "zip" p) [a,b] [] pos) (iZp X.K ta):=by
 refine⟨λpins s σ H R I h=>?_⟩;refine Call_ (ld_blt I hg hm PyProof.Rows.boot_zip (PyProof.Rows.callWith_type1 (thn (ha.run pos pins s σ H _ I h) λus s1 ⟨vs,H1,I1,r1,x,y,S,T,us',ws',ev,hx,hy,hq,hq2,q⟩=>?_) (bZ hs [b]) (star_any [b] (by simp[hs2]))));subst ev;let⟨v1,v2,rfl,rv1,rv2⟩:=vals2 r1
 let⟨o1,B1,hB1,hb1,hit1,hlt1⟩:=Src.begins I1 hq hx rv1
 let⟨o2,B2,hB2,hb2,hit2,hlt2⟩:=Src.begins I1 hq2 hy rv2
 refine zip_begins2 hB1 hB2 hb1 hb2 λh' hz hTI hTO e1 e2 hsz hk=>wpAny_pyIter_zip hz ?_;have I2:L2.Inv X pins σ H1 { s1 with heap:=h' }:=I1.kept (t':=s1.toks) hk;refine⟨s1.heap.objs.size+4,_,_,_,H1,rfl,I2,apI hlt1 hlt2,⟨hz,hTI,⟨_,_,hTO⟩,hit1 _ _ e1,hit2 _ _ e2⟩,λc hcm=>?_,q⟩;have hle:s1.heap.objs.size<=c:=by simp![au7,avm,or_false]at hcm;rcases hcm with rfl | rfl | rfl | rfl | rfl<;>first | exact avd _ | exact Nat.le_add_right _ _
 exact I1.fpOk hle (I1.hok.fresh hle)
end
section
variable{K:auT}{aj:aM}{q:Bool}{g g':Gh}{H H':Hp}{v:V}{d:Dat}{σ:L2.St}{Z:Env}{M:Mo}
theorem iQ.up{l:Addr}:∀{n:Bool} {kvs:List (Dat×Dat)} (r:Gr true g g' H H') (e:Ex H H') (k:Kd g H) (h:iQ K aj g H l n kvs),iQ K aj g' H' l n kvs
 |false,_,r,e,k,⟨kv,h1,h2,h3⟩=>⟨kv,e _ _ h1,h2,h3.gr r k⟩
 |true,_,r,e,k,⟨o,xs,vs,h1,h2,h3,h4,h5,h6⟩=>⟨o,xs,vs,e _ _ h1,h2,h3,h4.gr r k,h5,h6.gr r k⟩
theorem fj.up{h:Nat}{f:Str}(r:Gr true g g' H H')(e:Ex H H')(k:Kd g H):∀{fl:jF},fj K aj g H h f v fl->fj K aj g' H' h f v fl
 |.dat _,z=>Rep.gr r k z
 |.lst _ _,⟨l,us,h1,h2,h3,h4,h5⟩=>⟨l,us,h1,e _ _ h2,by rw[(r.qg rfl).2];exact h3,h4.gr r k,r.tb h5⟩
 |.dic _ _,⟨l,h1,h2,h3⟩=>⟨l,h1,by rw[(r.qg rfl).2];exact h2,h3.up r e k⟩
theorem cD.up{h:Nat}(r:Gr true g g' H H')(e:Ex H H')(k:Kd g H):∀{fs:LsS V} {gs:LsS jF},cD K aj g H h fs gs->cD K aj g' H' h fs gs
 |_,_,.nil=>.nil
 |_,_,.cons z t=>.cons (fj.up r e k z) (cD.up r e k t)
theorem ig.up(r:Gr true g g' H H')(e:Ex H H')(k:Kd g H)(w:ig K aj g H M):ig K aj g' H' M where
 len:=by rw[(r.qg rfl).1];exact w.len
 inj:=by rw[(r.qg rfl).1];exact w.inj
 ins:=λh a i ha hi hc=>by
  rw[(r.qg rfl).1]at ha;let⟨C,dx,fs,c1,c2,c3⟩:=w.ins h a i ha hi hc
  exact⟨C,dx,fs,c1,e _ _ c2,c3.up r e k⟩
 nd:=w.nd
 fd:=w.fd
 tw:=by rw[(r.qg rfl).1,(r.qg rfl).2];exact w.tw
 dm:=w.dm
 nc:=w.nc
theorem SInv.up(r:Gr true g g' H H')(e:Ex H H')(k':Kd g' H')(I:SInv K aj σ H g Z M):SInv K aj σ H' g' Z M where
 kd:=k'
 wok:=I.wok.up r e I.kd
 len:=I.len
 dat:=λi d h=>by
  let⟨v,h1,h2⟩:=I.dat i d h
  exact⟨v,h1,h2.gr r I.kd⟩
 own:=λi xs h=>by
  let⟨l,us,h1,h2,h3,h4⟩:=I.own i xs h
  exact⟨l,us,h1,e _ _ h2,r.Lo l h3,h4.gr r I.kd⟩
 sep:=I.sep
def Gh.add(g:Gh)(D:Addr):Gh:={ g with Lo:=λa=>g.Lo a\/a=D }
def Gh.zN{D:Addr}(n:H D=none)(e:Ex H H'):Gr true g (g.add D) H H' where
 keep:=λa o h _ _=>e a o h
 keepW:=λ_ a o h _=>e a o h
 dom:=Ge e
 tbl:=⟨[],by simp[Gh.add]⟩
 W:=λ_ h=>h
 nW:=λ_ h=>.inl h
 qg:=λ_=>⟨rfl,rfl⟩
 Lc:=rfl
 Lo:=λ_ h=>.inl h
 nLo:=λa h=>h.elim .inl λz=>.inr (by rw[z];exact n)
def Gh.amm{D:Addr}{o:HO}(k:Kd g H)(n:H D=none)(e:Ex H H')(hD:H' D=some o)(m:Jr o):Kd (g.add D) H' where
 ob:=λa z=>by
  rcases z with z|z|z|z
  .let⟨o,h,m⟩:=k.ob a (.inl z);exact⟨o,e a o h,m⟩
  .let⟨o,h,m⟩:=k.ob a (.inr (.inl z));exact⟨o,e a o h,m⟩
  .let⟨o,h,m⟩:=k.ob a (.inr (.inr z));exact⟨o,e a o h,m⟩
  .rw[z];exact⟨o,hD,m⟩
 lo:=λa z=>by
  rcases z with z|z
  .exact k.lo a z
  .intro w;subst z;exact k.fresh n (.inl w)
 lc:=λa z=>⟨(k.lc a z).1,λy=>y.elim (k.lc a z).2 λy=>by subst y;exact k.fresh n (.inr (.inl z))⟩
theorem SInv.add{D:Addr}{o:HO}(I:SInv K aj σ H g Z M)(n:H D=none)(e:Ex H H')(hD:H' D=some o)(m:Jr o):SInv K aj σ H' (g.add D) Z M:=
 I.up (Gh.zN n e) e (Gh.amm I.kd n e hD m)
theorem SInv.set{j:Nat}(I:SInv K aj σ H g Z M)(r:Rep K g H v d):SInv K aj (σ.set j (some v)) H g (Z.set j #[d]) M where
 kd:=I.kd
 wok:=I.wok
 len:=by rw[avn,avn];exact I.len
 dat:=λi e h=>by
  by_cases z:j=i
  .subst z;have hj:j<Z.length:=by
    have:=(auZ.mp h).1;rw[avn]at this;exact this
   rw[avc hj]at h;cases h;exact⟨v,by rw[avc (by rw[I.len];exact hj)],r⟩
  .rw[au1 z]at h;let⟨u,h1,h2⟩:=I.dat i e h
   exact⟨u,by rw[au1 z];exact h1,h2⟩
 own:=λi xs h=>by
  by_cases z:j=i
  .subst z;have hj:j<Z.length:=by
    have:=(auZ.mp h).1;rw[avn]at this;exact this
   rw[avc hj]at h;cases h
  .rw[au1 z]at h;let⟨l,us,h1,h2⟩:=I.own i xs h
   exact⟨l,us,by rw[au1 z];exact h1,h2⟩
 sep:=λi k xs ys l ne h1 h2 h3=>by
  have nj:∀{i:Nat} {xs:List Dat},(Z.set j #[d])[i]?=some (some (.mut xs))->j≠i:=λ{i xs} h z=>by
   subst z;have hj:j<Z.length:=by have:=(auZ.mp h).1;rw[avn]at this;exact this
   rw[avc hj]at h;cases h
  have n1:=nj h1;have n2:=nj h2;rw[au1 n1]at h1 h3;rw[au1 n2]at h2;rw[au1 n2];exact I.sep i k xs ys l ne h1 h2 h3
def SInv.forget{j:Nat}(I:SInv K aj σ H g Z M):SInv K aj (σ.set j none) H g (Z.set j none) M where
 kd:=I.kd
 wok:=I.wok
 len:=by rw[avn,avn];exact I.len
 dat:=λi e h=>by
  by_cases z:j=i
  .subst z;have hj:j<Z.length:=by
    have:=(auZ.mp h).1;rw[avn]at this;exact this
   rw[avc hj]at h;cases h
  .rw[au1 z]at h |-
   exact I.dat i e h
 own:=λi xs h=>by
  by_cases z:j=i
  .subst z;have hj:j<Z.length:=by
    have:=(auZ.mp h).1;rw[avn]at this;exact this
   rw[avc hj]at h;cases h
  .rw[au1 z]at h |-
   exact I.own i xs h
 sep:=λi k xs ys l ne h1 h2 h3=>by
  have nj:∀{i:Nat} {xs:List Dat},(Z.set j none)[i]?=some (some (.mut xs))->j≠i:=λ{i xs} h z=>by
   subst z;have hj:j<Z.length:=by have:=(auZ.mp h).1;rw[avn]at this;exact this
   rw[avc hj]at h;cases h
  have n1:=nj h1;have n2:=nj h2;rw[au1 n1]at h1 h3;rw[au1 n2]at h2;rw[au1 n2];exact I.sep i k xs ys l ne h1 h2 h3
def bM(Z:Env):List Nat->Env
 |[]=>Z
 |j::js=>(bM Z js).set j none
theorem SInv.wipe(I:SInv K aj σ H g Z M):∀vs:List Nat,SInv K aj (L2.wipe σ vs) H g (bM Z vs) M
 |[]=>I
 |j::js=>(SInv.wipe I js).forget
end
abbrev dY:=Dat->Env->Option Env
def aq(j:Nat):dY:=λd Z=>some (Z.set j #[d])
def rP:List Nat->List Dat->Env->Option Env
 |[],[],Z=>some Z
 |j::js,d::ds,Z=>rP js ds (Z.set j #[d])
 |_,_,_=>none
def aX(js:List Nat):dY:=λd Z=>match d with
 |.tuple ds=>rP js ds Z
 |_=>none
def sets(σ:L2.St):List Nat->List V->L2.St
 |j::js,v::vs=>sets (σ.set j (some v)) js vs
 |_,_=>σ
def xJ(K:auT)(aj:aM)(js:List Nat)(f:dY):TG:=λv σ H Q=>∃g Z M d Z',SInv K aj σ H g Z M/\Rep K g H v d/\f d Z=some Z'/\∀vs,SInv K aj (sets σ js vs) H g Z' M->Q (sets σ js vs) H
def QG(aj:aM)(X:Cx)(tg:Expr)(js:List Nat)(f:dY):Prop:=PG X tg (xJ X.K aj js f)
def PG.weak{X:Cx}{e:Expr}{t t':TG}(h:PG X e t)(k:∀v σ H Q,t' v σ H Q->t v σ H Q):PG X e t':=⟨λpins s σ H v u Q I r q=>h.run pins s σ H v u Q I r (k v σ H Q q)⟩
section
variable{X:Cx}{aj:aM}{pos:Pos}
def Ru{j:Nat}{x:Str}(hN:X.N.Nodup)(hi:X.N[j]?=some x)(hx:Loc X.env.scope x)(hf:X.fn x=true\/X.env.scope.names.lookup x=some .local):QG aj X (.Name x pos) [j] (aq j):=
 PG.weak (pg_name hN hi hx hf) λv σ H Q ⟨g,Z,M,d,Z',I,r,e,q⟩=>by
  cases e;exact q [v] (I.set r)
def V5(X:Cx):List Expr->List Nat->Prop
 |[],[]=>True
 |.Name x _::es,j::js=>X.N[j]?=some x/\Loc X.env.scope x/\(X.fn x=true\/X.env.scope.names.lookup x=some .local)/\V5 X es js
 |_,_=>False
def ah7{es:List Expr}{js:List Nat}(h:V5 X es js):(assignEach es X.env).length=js.length/\(assignEach es X.env).findIdx? (·.1)=none:=by
 induction es generalizing js with
 |nil=>
  cases js with
  |nil=>exact⟨#[rfl],#[rfl]⟩
  |cons j js=>exact awb h
 |cons e es ih=>
  cases js with
  |nil=>cases e<;>exact awb h
  |cons j js=>
   cases e with
   |Name x p=>
    let⟨h1,h2⟩:=ih h.2.2.2
    have e1:assignEach (.Name x p::es) X.env=(false,assign (.Name x p) X.env)::assignEach es X.env:=#[rfl];rw[e1];refine⟨by simp[h1],?_⟩;rw[List.findIdx?_cons,h2];rfl
   |_=>exact awb h
def gNs(js:List Nat):TGs:=λvs σ H Q=>vs.length=js.length/\Q (sets σ js vs) H
theorem YF(hN:X.N.Nodup):∀{es:List Expr} {js:List Nat},V5 X es js->PGs X es (gNs js)
 |[],[],_=>⟨λpins s σ H vs us Q I r h=>by
  let⟨e,h⟩:=h
  have:vs=[]:=List.length_eq_zero_iff.mp e;subst this;exact pgs_nil.run pins s σ H [] us Q I r ⟨rfl,h⟩⟩
 |.Name x p::es,j::js,h=>by
  have hp:=pgs_cons (pg_name (pos:=p) hN h.1 h.2.1 h.2.2.1) (YF hN h.2.2.2) #[rfl];refine⟨λpins s σ H vs us Q I r hq=>?_⟩;let⟨e,hq⟩:=hq
  cases vs with
  |nil=>cases e
  |cons v vs=>exact hp.run pins s σ H (v::vs) us Q I r ⟨v,vs,rfl,avK e,hq⟩
 |[],_::_,h=>awb h
 |.Name _ _::_,[],h=>awb h
theorem Lj{K:auT}{g:Gh}{H:Hp}{M:Mo}:∀{js:List Nat} {ds:List Dat} {vs:List V} {σ:L2.St} {Z Z':Env},SInv K aj σ H g Z M->aF K g H vs ds->rP js ds Z=some Z'->vs.length=js.length/\SInv K aj (sets σ js vs) H g Z' M
 |[],_,_,_,_,_,I,.nil,e=>by cases e;exact⟨rfl,I⟩
 |[],_,_,_,_,_,I,.cons _ _,e=>by cases e
 |j::js,_,_,_,_,_,I,.nil,e=>by cases e
 |j::js,_,_,_,_,_,I,.cons r t,e=>by
  let⟨h1,h2⟩:=Lj (js:=js) (I.set (j:=j) r) t e
  exact⟨by simp[h1],h2⟩
def ahs{es:List Expr}{js:List Nat}{k:Nat}(hc:X.calm=true)(hN:X.N.Nodup)(h:V5 X es js):QG aj X (.Tuple es k pos) js (aX js):=by
 let⟨h1,h2⟩:=ah7 h
 refine PG.weak (pg_tup (n:=js.length) hc (YF hN h) h1 h2) λv σ H Q ⟨g,Z,M,d,Z',I,r,e,q⟩=>?_;unfold aX at e;split at e
 .let⟨a,us,rfl,s1,t1⟩:=mZ r.weak
  let⟨l1,I1⟩:=Lj I t1 e
  exact⟨a,us,rfl,s1,l1,l1,q us I1⟩
 .cases e
theorem vC:∀(js:List Nat) (vs:List V) (σ:L2.St) (ws:List Nat),(∀j∈js,j∈ws)->L2.wipe (sets σ js vs) ws=L2.wipe σ ws
 |[],_,_,_,_=>by unfold sets;rfl
 |_::_,[],_,_,_=>by unfold sets;rfl
 |j::js,v::vs,σ,ws,h=>by
  show L2.wipe (sets (σ.set j (some v)) js vs) ws=_;rw[vC js vs _ ws λk hk=>h k (auY _ hk)];have hj:j∈ws:=h j auX;have key:∀(ws:List Nat) (σ:L2.St),j∈ws->L2.wipe (σ.set j (some v)) ws=L2.wipe σ ws:=by
   intro ws
   induction ws with
   |nil=>intro σ z;cases z
   |cons k ws ih=>
    intro σ z
    show(L2.wipe (σ.set j (some v)) ws).set k none=(L2.wipe σ ws).set k none
    by_cases hk:j∈ws
    .rw[ih σ hk]
    .have e:j=k:=by
      rcases au7.mp z with z|z
      .exact z
      .exact absurd z hk
     subst e;have comm:∀(ws:List Nat),j∉ws->L2.wipe (σ.set j (some v)) ws=(L2.wipe σ ws).set j (some v):=by
      intro ws
      induction ws with
      |nil=>intro _;rfl
      |cons m ws ih2=>
       intro hm
       show(L2.wipe (σ.set j (some v)) ws).set m none=((L2.wipe σ ws).set m none).set j (some v)
       rw[ih2 λz=>hm (auY _ z),List.set_comm _ _ (λz=>hm (by rw[z];exact auX))]
     rw[comm ws hk,List.set_set]
  exact key ws σ hj
end
structure Jw(K:auT)(J:It)(C:Gh->Hp->Prop)(ds:List Dat):Prop where
 go:∀g i H,C g H->i<ds.length->J.go i H
 yld:∀g i H x H' d,Kd g H->C g H->ds[i]?=some d->J.yld i H x H'->Ex H H'/\Rep K g H' x d
 stop:∀g i H,C g H->i=ds.length->J.stop i H
 ex:∀g H H',Kd g H->C g H->Ex H H'->C g H'
 add:∀g g' H H',Kd g H->C g H->Gr true g g' H H'->Ex H H'->C g' H'
def aeK(C:Gh->Hp->Prop):Prop:=∀q g g' H H',Kd g H->C g H->Gr q g g' H H'->C g' H'
abbrev IF:=Mo->Env->Out (List Dat)
def tI(K:auT)(aj:aM)(W:WX)(firm:Bool)(f:IF):TI:=λσ H R=>∃g Z M,SInv K aj σ H g Z M/\(f M Z).sat (λds=>∀J C H',Ex H H'->Jw K J C ds->C g H'->(firm=true->aeK C)->R J H') (sG K aj W g H σ)
def QI(aj:aM)(X:Cx)(W:WX)(firm:Bool)(tg e:Expr)(f:IF):Prop:=PI X tg e (tI X.K aj W firm f)
def ab0(x:Str):List Dat:=x.cps.toList.map λc=>.str ⟨(List.toArray [c])⟩
def oY:Dat->Out (List Dat)
 |.list ds=>.ok ds
 |.tuple ds=>.ok ds
 |.str x=>.ok (ab0 x)
 |_=>.bad
def bQ(a:QF):IF:=λM Z=>(a M Z).bind oY
def Src.cw(K:auT)(S:Src)(ds:List Dat)(g:Gh)(H:Hp):Prop:=∃us,S.sq K H us/\aF K g H us ds
def Src.cf(K:auT)(S:Src)(ds:List Dat)(g:Gh)(H:Hp):Prop:=∃us,(match S with
 |.lst a=>Ln K g H a us
 |.tup a=>SqT K H a us
 |.str x=>us=chars x)/\aF K g H us ds
section
variable{K:auT}{g g':Gh}{H H':Hp}{ds es:List Dat}{S T:Src}
def Src.aoK{us:List V}(e:Ex H H')(h:S.sq K H us):S.sq K H' us:=by
 cases S with
 |lst a=>exact ex_l e h
 |tup a=>exact ex_t e h
 |str x=>exact h
def Src.afk(h:S.cf K ds g H):S.cw K ds g H:=by
 let⟨us,h1,h2⟩:=h
 refine⟨us,?_,h2⟩;cases S with
 |lst a=>exact Ln.sq h1
 |tup a=>exact h1
 |str x=>exact h1
def Src.wI:aeK (S.cf K ds):=λq g g' H H' k ⟨us,h1,h2⟩ r=>by
 refine⟨us,?_,h2.gr r k⟩;cases S with
 |lst a=>exact r.ls h1
 |tup a=>exact r.sqT k h1
 |str x=>exact h1
def Src.Qi(k:Kd g H)(h:S.cw K ds g H)(r:Gr true g g' H H')(e:Ex H H'):S.cw K ds g' H':=by
 let⟨us,h1,h2⟩:=h
 exact⟨us,Src.aoK e h1,h2.gr r k⟩
def Src.aav(k:Kd g H)(h:S.cw K ds g H)(e:Ex H H'):S.cw K ds g H':=Src.Qi k h (Gr.ex e) e
end
section
variable{K:auT}{ds es:List Dat}{S T:Src}
def ItS(K:auT):Src->It
 |.lst a=>Itl K a
 |.tup a=>Itt K a
 |.str x=>Its x
def Il{g:Gh}{H:Hp}(x:Str):aF K g H (chars x) (ab0 x):=by
 unfold chars ab0
 induction x.cps.toList with
 |nil=>exact .nil
 |cons c cs ih=>exact .cons (.str _) ih
def Jw.of{J:It}{C C':Gh->Hp->Prop}(w:Jw K J C ds)(h:∀g H,C' g H->C g H)(e:∀g H H',Kd g H->C' g H->Ex H H'->C' g H')(a:∀g g' H H',Kd g H->C' g H->Gr true g g' H H'->Ex H H'->C' g' H'):Jw K J C' ds where
 go:=λg i H c hi=>w.go g i H (h g H c) hi
 yld:=λg i H x H' d k c e y=>w.yld g i H x H' d k (h g H c) e y
 stop:=λg i H c e=>w.stop g i H (h g H c) e
 ex:=e
 add:=a
def XM:Jw K (ItS K S) (S.cw K ds) ds where
 go:=λg i H ⟨us,h1,h2⟩ hi=>by
  have hx:us[i]?=some (us[i]'(by rw[h2.length];exact hi)):=auV _;cases S with
  |lst a=>exact⟨us,_,h1,hx⟩
  |tup a=>exact⟨us,_,h1,hx⟩
  |str x=>
   show i<x.cps.size;have:=h2.length;rw[show us=chars x from h1]at this;unfold chars at this;rw[au3,avt]at this;omega
 yld:=λg i H x H' d k ⟨us,h1,h2⟩ e y=>by
  let⟨v,hv,rv⟩:=h2.get e
  cases S with
  |lst a=>
   let⟨rfl,y⟩:=y
   have:x=v:=avi ((y us h1).symm.trans hv);rw[this];exact⟨Ex.refl _,rv⟩
  |tup a=>
   let⟨rfl,y⟩:=y
   have:x=v:=avi ((y us h1).symm.trans hv);rw[this];exact⟨Ex.refl _,rv⟩
  |str z=>
   let⟨rfl,c,hc,rfl⟩:=y
   rw[show us=chars z from h1]at hv;unfold chars at hv;rw[ava,avx,hc]at hv;cases hv;exact⟨Ex.refl _,rv⟩
 stop:=λg i H ⟨us,h1,h2⟩ e=>by
  have hl:=h2.length;cases S with
  |lst a=>exact⟨us,h1,#[]⟩
  |tup a=>exact⟨us,h1,#[]⟩
  |str x=>
   show x.cps.size<=i;rw[show us=chars x from h1]at hl;unfold chars at hl;rw[au3,avt]at hl;omega
 ex:=λg H H' k h e=>Src.aav k h e
 add:=λg g' H H' k h r e=>Src.Qi k h r e
def qU(k₀:Int)(ds:List Dat):List Dat:=ds.mapIdx λi d=>.tuple [.int (k₀+(i:Int)),d]
def aiT{k₀:Int}:Jw K (ItE K S k₀) (S.cw K ds) (qU k₀ ds) where
 go:=λg i H ⟨us,h1,h2⟩ hi=>by
  have hl:i<us.length:=by rw[h2.length];unfold qU at hi;rw[List.length_mapIdx]at hi;exact hi
  exact⟨us,us[i],h1,auV hl⟩
 yld:=λg i H x H' d k ⟨us,h1,h2⟩ e y=>by
  unfold qU at e;rw[avG]at e;cases hd:ds[i]? with
  |none=>rw[hd]at e;cases e
  |some d0=>
   rw[hd]at e;cases e;let⟨v,hv,rv⟩:=h2.get hd
   let⟨T,x0,rfl,nT,rfl,y⟩:=y
   have:x0=v:=avi ((y us h1).symm.trans hv);subst this;exact⟨Ex.new nT,.tup (st_of awi) (.cons (.int _) (.cons (rv.ex (Ex.new nT) k) .nil))⟩
 stop:=λg i H ⟨us,h1,h2⟩ e=>by
  unfold qU at e;rw[List.length_mapIdx,<-h2.length]at e;exact⟨us,h1,e.symm⟩
 ex:=λg H H' k h e=>Src.aav k h e
 add:=λg g' H H' k h r e=>Src.Qi k h r e
def zK(ds es:List Dat):List Dat:=List.zipWith (λd e=>.tuple [d,e]) ds es
def adp:Jw K (ItZ K S T) (λg H=>S.cw K ds g H/\T.cw K es g H) (zK ds es) where
 go:=λg i H ⟨⟨us,h1,h2⟩,⟨ws,h3,h4⟩⟩ hi=>by
  unfold zK at hi;rw[List.length_zipWith,<-h2.length,<-h4.length]at hi;exact⟨us,ws,us[i],ws[i],h1,h3,auV #[],auV #[]⟩
 yld:=λg i H x H' d k ⟨⟨us,h1,h2⟩,⟨ws,h3,h4⟩⟩ e y=>by
  unfold zK at e;rw[List.getElem?_zipWith]at e;cases hd:ds[i]? with
  |none=>rw[hd]at e;cases e
  |some d0=>
   cases he:es[i]? with
   |none=>rw[hd,he]at e;cases e
   |some e0=>
    rw[hd,he]at e;cases e;let⟨v,hv,rv⟩:=h2.get hd
    let⟨u,hu,ru⟩:=h4.get he
    let⟨U,x0,y0,rfl,nU,rfl,y1,y2⟩:=y
    have:x0=v:=avi ((y1 us h1).symm.trans hv);subst this;have:y0=u:=avi ((y2 ws h3).symm.trans hu);subst this;exact⟨Ex.new nU,.tup (st_of awi) (.cons (rv.ex (Ex.new nU) k) (.cons (ru.ex (Ex.new nU) k) .nil))⟩
 stop:=λg i H ⟨⟨us,h1,h2⟩,⟨ws,h3,h4⟩⟩ e=>by
  unfold zK at e;rw[List.length_zipWith,<-h2.length,<-h4.length]at e;exact⟨us,ws,h1,h3,e⟩
 ex:=λg H H' k h e=>⟨Src.aav k h.1 e,Src.aav k h.2 e⟩
 add:=λg g' H H' k h r e=>⟨Src.Qi k h.1 r e,Src.Qi k h.2 r e⟩
def iw(lo:Int)(n:Nat):List Dat:=(List.range n).map λ(i:Nat)=>.int (lo+(i:Int))
def Y5{lo:Int}{n:Nat}:Jw K (Itr lo n) (λ_ _=>True) (iw lo n) where
 go:=λg i H _ hi=>by
  unfold iw at hi;rw[au3,List.length_range]at hi;exact hi
 yld:=λg i H x H' d k _ e y=>by
  let⟨rfl,rfl⟩:=y
  unfold iw at e;rw[ava]at e;cases hr:(List.range n)[i]? with
  |none=>rw[hr]at e;cases e
  |some j=>
   rw[hr]at e;cases e;have:j=i:=by
    let⟨h1,h2⟩:=auZ.mp hr
    rw[List.getElem_range]at h2;exact h2.symm
   subst this;exact⟨Ex.refl _,.int _⟩
 stop:=λg i H _ e=>by
  unfold iw at e;rw[au3,List.length_range]at e;show n<=i;omega
 ex:=λ_ _ _ _ _ _=>trivial
 add:=λ_ _ _ _ _ _ _ _=>trivial
end
section
variable{X:Cx}{aj:aM}{W:WX}{tg a b:Expr}{fa fb:QF}{pos p tpos:Pos}{elts:List Expr}{kk:Nat}
def Rx{K:auT}{g:Gh}{H:Hp}{v:V}{d:Dat}{ds:List Dat}{firm:Bool}(r:if firm=true then Rep K g H v d else fu K g H v d)(h:oY d=.ok ds):∃S,srcOf v S/\S.cw K ds g H/\(firm=true->S.cf K ds g H):=by
 have rw:fu K g H v d:=by
  cases firm with
  |true=>exact Rep.weak r
  |false=>exact r
 cases d with
 |list es=>
  cases h;let⟨l,us,rfl,h1,h2⟩:=jL rw
  refine⟨.lst l,.inl ⟨l,rfl,rfl,.inl rfl⟩,⟨us,h1,h2⟩,λz=>?_⟩;subst z;have r:Rep K g H (.ref l) (.list ds):=r;cases r with
  |lst h3 h4=>exact⟨_,h3,h4⟩
 |tuple es=>
  cases h;let⟨l,us,rfl,h1,h2⟩:=mZ rw
  exact⟨.tup l,.inl ⟨l,rfl,rfl,.inr rfl⟩,⟨us,h1,h2⟩,λ_=>⟨us,h1,h2⟩⟩
 |str x=>
  cases h;cases lC rw;exact⟨.str x,.inr ⟨x,rfl,rfl⟩,⟨_,rfl,Il x⟩,λ_=>⟨_,rfl,Il x⟩⟩
 |_=>cases h
def tF(K:auT)(aj:aM)(W:WX)(firm:Bool)(f:QF):TE:=if firm=true then tQ K aj W f else tW K aj W f
def QF'(aj:aM)(X:Cx)(W:WX)(firm:Bool)(e:Expr)(f:QF):Prop:=PE X e (tF X.K aj W firm f)
theorem tF.go{K:auT}{firm:Bool}{g:Gh}{H:Hp}{σ:L2.St}{Z:Env}{M:Mo}{f:QF}{k:Dat->Prop}{Q:VK}(I:SInv K aj σ H g Z M)(h:(f M Z).sat k (sG K aj W g H σ))(hk:∀d v H',k d->Ex H H'->(if firm=true then Rep K g H' v d else fu K g H' v d)->Q v H'):tF K aj W firm f σ H Q:=by
 cases firm with
 |true=>exact tQ.go I h hk
 |false=>exact tW.go I h hk
def aoS{K:auT}{firm:Bool}{g:Gh}{H H':Hp}{v:V}{d:Dat}(e:Ex H H')(k:Kd g H)(r:if firm=true then Rep K g H v d else fu K g H v d):if firm=true then Rep K g H' v d else fu K g H' v d:=by
 cases firm with
 |true=>exact Rep.ex e k r
 |false=>exact fu.ex e k r
def wf{K:auT}{S:Src}{firm:Bool}{J:It}{ds es:List Dat}{R:It->Hp->Prop}{g:Gh}{H H1:Hp}(h:∀J C H',Ex H H'->Jw K J C ds->C g H'->(firm=true->aeK C)->R J H')(e1:Ex H H1)(w:Jw K J (S.cw K es) ds)(hw:S.cw K es g H1)(hf:firm=true->S.cf K es g H1):R J H1:=by
 cases firm with
 |true=>exact h J (S.cf K es) H1 e1 (w.of (λ_ _ z=>Src.afk z) (λg H H' k c e=>Src.wI true g g H H' k c (Gr.ex e)) λg g' H H' k c r e=>Src.wI true g g' H H' k c r) (hf rfl) λ_=>Src.wI
 |false=>exact h J (S.cw K es) H1 e1 w hw λz=>nomatch z
def abF{firm:Bool}(ha:QF' aj X W firm a fa):QI aj X W firm tg a (bQ fa):=by
 refine⟨λpins s σ H R I h=>?_⟩;let⟨g,Z,M,SI,hs⟩:=h
 have hs:=hs.bnd;have fin:∀(S:Src) (x:V) (H1:Hp) (ds:List Dat),(∀J C H',Ex H H'->Jw X.K J C ds->C g H'->(firm=true->aeK C)->R J H')->Ex H H1->S.cw X.K ds g H1->(firm=true->S.cf X.K ds g H1)->R (ItS X.K S) H1:=λS x H1 ds h e1 hw hf=>wf h e1 XM hw hf;cases hfa:fa M Z with
 |bad=>rw[hfa]at hs;exact awb hs
 |exc x=>
  rw[hfa]at hs;exact(pi_list ha).run pins s σ H R I (tF.go (k:=λ_=>False) SI (by rw[hfa];exact hs) λd v H' z=>awb z)
 |ok d=>
  rw[hfa]at hs;cases d with
  |list ds=>
   refine(pi_list ha).run pins s σ H R I (tF.go (k:=λz=>z=.list ds) SI (by rw[hfa];rfl) λd v H' z e1 r=>?_);subst z;let⟨S,hS,hw,hf⟩:=Rx (firm:=firm) r (ds:=ds) rfl
   have rw:fu X.K g H' v (.list ds):=by
    cases firm with
    |true=>exact Rep.weak r
    |false=>exact r
   let⟨l,us,rfl,h1,h2⟩:=jL rw
   refine⟨l,rfl,⟨us,h1⟩,?_⟩;rcases hS with⟨a',e,ha',hl|ht⟩|⟨y,_,e⟩
   .cases e;subst hl;exact fin (.lst l) (.ref l) H' ds hs e1 hw hf
   .cases e;subst ht;refine wf (S:=.lst l) hs e1 (XM (S:=.lst l)) ⟨us,h1,h2⟩ λz=>?_;subst z;have r:Rep X.K g H' (.ref l) (.list ds):=r;cases r with
    |lst h3 h4=>exact⟨_,h3,h4⟩
   .cases e
  |tuple ds=>
   refine(pi_tup ha).run pins s σ H R I (tF.go (k:=λz=>z=.tuple ds) SI (by rw[hfa];rfl) λd v H' z e1 r=>?_);subst z;have rw:fu X.K g H' v (.tuple ds):=by
    cases firm with
    |true=>exact Rep.weak r
    |false=>exact r
   let⟨l,us,rfl,h1,h2⟩:=mZ rw
   exact⟨l,rfl,⟨us,h1⟩,fin (.tup l) (.ref l) H' ds hs e1 ⟨us,h1,h2⟩ λ_=>⟨us,h1,h2⟩⟩
  |str x=>
   refine(pi_str ha).run pins s σ H R I (tF.go (k:=λz=>z=.str x) SI (by rw[hfa];rfl) λd v H' z e1 r=>?_);subst z;have rw:fu X.K g H' v (.str x):=by
    cases firm with
    |true=>exact Rep.weak r
    |false=>exact r
   cases lC rw;exact⟨x,rfl,fin (.str x) (.str x) H' _ hs e1 ⟨_,rfl,Il x⟩ λ_=>⟨_,rfl,Il x⟩⟩
  |_=>exact awb hs
def BZ(a:QF):IF:=λM Z=>(a M Z).bind λd=>(DK d).bind λn=>Out.when (decide (n<=100000/\-100000<=n)) (.ok (iw 0 n.toNat))
def yK(a b:QF):IF:=λM Z=>(a M Z).bind λd=>(b M Z).bind λe=>(DK d).bind λlo=>(DK e).bind λn=>Out.when (decide (n<=100000/\-100000<=n/\lo<=100000/\-100000<=lo)) (.ok (iw lo (n-lo).toNat))
def zf(k₀:Int)(a:QF):IF:=λM Z=>(a M Z).bind λd=>(oY d).bind λds=>.ok (qU k₀ ds)
def MJ(a b:QF):IF:=λM Z=>(a M Z).bind λd=>(b M Z).bind λe=>(oY d).bind λds=>(oY e).bind λes=>.ok (zK ds es)
def ahj{firm:Bool}(hg:Gl X "range")(hm:X.mg "range"=none)(ha:QW aj X W a fa)(hs:nst a=true):QI aj X W firm tg (.Call (.Name "range" p) [a] [] pos) (BZ fa):=by
 refine⟨λpins s σ H R I h=>?_⟩;refine(pi_range1 hg hm (pa_cons ha pa_nil (bZ hs [])) (bZ hs [])).run pins s σ H R I ?_;let⟨g,Z,M,SI,h⟩:=h
 refine tW.go SI h.bnd λd v H1 h1 e1 r1=>?_;have h1:=h1.bnd;unfold DK at h1;split at h1
 .let⟨hz,h1⟩:=h1.qR
  have hz:=awd hz;cases cC r1;exact⟨_,rfl,#[],#[],h1 _ _ H1 e1 Y5 awa λ_=>λ_ _ _ _ _ _ _ _=>trivial⟩
 .exact awb h1
def ahr{firm:Bool}(hg:Gl X "range")(hm:X.mg "range"=none)(ha:QW aj X W a fa)(hb:QW aj X W b fb)(hs:nst a=true)(hs2:nst b=true):QI aj X W firm tg (.Call (.Name "range" p) [a,b] [] pos) (yK fa fb):=by
 refine⟨λpins s σ H R I h=>?_⟩;refine(pi_range2 hg hm (pa_cons ha (pa_cons hb pa_nil (bZ hs2 [])) (bZ hs [b])) (by rw[bZ hs,bZ hs2];rfl) (bZ hs2 [])).run pins s σ H R I ?_;let⟨g,Z,M,SI,h⟩:=h
 refine tW.go SI h.bnd λd v H1 h1 e1 r1=>?_;refine tW.go (SI.ex e1) (h1.bnd.mono (λ_ z=>z) λ_ z=>z.ex e1) λd2 v2 H2 h2 e2 r2=>?_;have h2:=h2.bnd;unfold DK at h2;split at h2
 .have h2:=Out.sat.bnd h2;split at h2
  .let⟨hz,h2⟩:=Out.sat.qR h2
   have hz:=awd hz;cases cC r1;cases cC r2;exact⟨_,_,rfl,⟨#[],#[],#[],#[]⟩,h2 _ _ H2 (e1.trans e2) Y5 awa λ_=>λ_ _ _ _ _ _ _ _=>trivial⟩
  .exact awb h2
 .exact awb h2
def aji{firm:Bool}{k₀:Int}(σ:L2.St)(H:Hp)(R:It->Hp->Prop)(h:tI X.K aj W firm (zf k₀ fa) σ H R):iEn X.K (tCons (tF X.K aj W firm fa) tNil) k₀ σ H R:=by
 let⟨g,Z,M,SI,h⟩:=h
 refine tF.go SI h.bnd λd v H1 h1 e1 r1=>?_;cases hd:oY d with
 |bad=>rw[hd]at h1;exact awb h1
 |exc x=>cases d<;>cases hd
 |ok ds=>
  rw[hd]at h1;let⟨S,hS,hw,hf⟩:=Rx r1 hd
  exact⟨v,S,_,rfl,hS,hw.choose_spec.1,wf h1 e1 aiT hw hf⟩
def akG{firm:Bool}(hg:Gl X "enumerate")(hm:X.mg "enumerate"=none)(ha:QF' aj X W firm a fa)(hs:nst a=true):QI aj X W firm (.Tuple elts kk tpos) (.Call (.Name "enumerate" p) [a] [] pos) (zf 0 fa):=
 ⟨λpins s σ H R I h=>(apv hg hm (pa_cons ha pa_nil (bZ hs [])) hs).run pins s σ H R I (aji σ H R h)⟩
def aiJ{firm:Bool}{k₀:Int}{j:Nat}{kp kp2:Pos}(hk0 : -(2^63)<=k₀)(hk1:k₀<2^63)(hg:Gl X "enumerate")(hm:X.mg "enumerate"=none)(ha:QF' aj X W firm a fa)(hs:nst a=true):QI aj X W firm (.Tuple elts kk tpos) (.Call (.Name "enumerate" p) [a] [⟨some "start",.Constant (.int k₀) j kp,kp2⟩] pos) (zf k₀ fa):=
 ⟨λpins s σ H R I h=>(ama hk0 hk1 hg hm (pa_cons ha pa_nil (bZ hs [])) hs).run pins s σ H R I (aji σ H R h)⟩
def ane{firm:Bool}(hg:Gl X "zip")(hm:X.mg "zip"=none)(ha:QF' aj X W firm a fa)(hb:QF' aj X W firm b fb)(hs:nst a=true)(hs2:nst b=true):QI aj X W firm (.Tuple elts kk tpos) (.Call (.Name "zip" p) [a,b] [] pos) (MJ fa fb):=by
 refine⟨λpins s σ H R I h=>(apE hg hm (pa_cons ha (pa_cons hb pa_nil (bZ hs2 [])) (bZ hs [b])) hs hs2).run pins s σ H R I ?_⟩;let⟨g,Z,M,SI,h⟩:=h
 refine tF.go SI h.bnd λd v H1 h1 e1 r1=>?_;refine tF.go (SI.ex e1) (h1.bnd.mono (λ_ z=>z) λ_ z=>z.ex e1) λd2 v2 H2 h2 e2 r2=>?_;cases hd:oY d with
 |bad=>rw[hd]at h2;exact awb h2
 |exc x=>cases d<;>cases hd
 |ok ds=>
  cases he:oY d2 with
  |bad=>rw[hd,he]at h2;exact awb h2
  |exc x=>cases d2<;>cases he
  |ok es=>
   rw[hd,he]at h2;let⟨S,hS,hw,hf⟩:=Rx (aoS e2 (SI.ex e1).kd r1) hd
   let⟨T,hT,hw2,hf2⟩:=Rx r2 he
   refine⟨v,v2,S,T,_,_,rfl,hS,hT,hw.choose_spec.1,hw2.choose_spec.1,?_⟩;cases firm with
   |true=>exact h2 _ (λg H=>S.cf X.K ds g H/\T.cf X.K es g H) H2 (e1.trans e2) (adp.of (λ_ _ z=>⟨Src.afk z.1,Src.afk z.2⟩) (λg H H' k c e=>⟨Src.wI true g g H H' k c.1 (Gr.ex e),Src.wI true g g H H' k c.2 (Gr.ex e)⟩) λg g' H H' k c r e=>⟨Src.wI true g g' H H' k c.1 r,Src.wI true g g' H H' k c.2 r⟩) ⟨hf rfl,hf2 rfl⟩ λ_=>λq g g' H H' k c r=>⟨Src.wI q g g' H H' k c.1 r,Src.wI q g g' H H' k c.2 r⟩
   |false=>exact h2 _ _ H2 (e1.trans e2) adp ⟨hw,hw2⟩ λz=>nomatch z
end
def WF:WX:=λ_ _ _ _=>False
def zq{α:Type}:Out α->Out α
 |.ok a=>.ok a
 |_=>.bad
@[simp]theorem ab1 {α:Type} (a:α):zq (.ok a)=.ok a:=rfl
def yO{α:Type}{o:Out α}{P:α->Prop}{E E':eX->Prop}(h:(zq o).sat P E):o.sat P E':=by
 cases o
 .exact h
 .exact awb h
 .exact h
def cI(tg:dY)(tt:QT)(te:QF)(M:Mo)(Z:Env):List Dat->Out (List Dat)
 |[]=>.ok []
 |d::ds=>match tg d Z with
  |none=>.bad
  |some Z1=>(zq (tt M Z1)).bind λb=>if b=true then(zq (te M Z1)).bind λy=>(cI tg tt te M Z ds).bind λr=>.ok (y::r) else cI tg tt te M Z ds
def dR(it:IF)(tg:dY)(vs:List Nat)(tt:QT)(te:QF):QF:=λM Z=>(it M Z).bind λds=>Out.when (decide (ds.length<=50000)) ((cI tg tt te M (bM Z vs) ds).bind λr=>.ok (.list r))
def fJ:QT:=λ_ _=>.ok true
def tFr(K:auT)(aj:aM)(W:WX)(f:IF):TE:=λσ H Q=>∃g Z M,SInv K aj σ H g Z M/\(f M Z).sat (λxs=>∀l us H',H l=none->Ex H H'->H' l=some (.lst us)->aF K (g.add l) H' us xs->Q (.ref l) H') (sG K aj W g H σ)
def xM(it:IF)(tg:dY)(vs:List Nat)(tt:QT)(te:QF):IF:=λM Z=>(it M Z).bind λds=>Out.when (decide (ds.length<=50000)) (cI tg tt te M (bM Z vs) ds)
section
variable{K:auT}{aj:aM}{W:WX}
def UW{g:Gh}{H:Hp}{D:Addr}{o o':HO}{vs:List V}{ds:List Dat}(k:Kd g H)(h:H D=some o)(l:g.Lo D)(r:aF K g H vs ds):aF K g (upd H D o') vs ds:=r.gr (Gr.upd (q:=true) k h (.inr l)) k
def akQ{g:Gh}{H:Hp}{D:Addr}{o o':HO}{v:V}{d:Dat}(k:Kd g H)(h:H D=some o)(l:g.Lo D)(r:Rep K g H v d):Rep K g (upd H D o') v d:=r.gr (Gr.upd (q:=true) k h (.inr l)) k
theorem nY{tg:dY}{tt:QT}{te:QF}{M:Mo}{Z:Env}:∀{ds:List Dat} {x:eX},cI tg tt te M Z ds≠.exc x
 |[],_,h=>nomatch h
 |d::ds,x,h=>by
  rw[cI]at h;left
  .cases h
  .next Z1 e=>
   cases h1:tt M Z1 with
   |bad=>rw[h1]at h;cases h
   |exc y=>rw[h1]at h;cases h
   |ok b=>
    rw[h1]at h;cases b with
    |false=>exact nY h
    |true=>
     have h:((zq (te M Z1)).bind λy=>(cI tg tt te M Z ds).bind λr=>Out.ok (y::r))=.exc x:=h;cases h2:te M Z1 with
     |bad=>rw[h2]at h;cases h
     |exc y=>rw[h2]at h;cases h
     |ok y=>
      rw[h2]at h;cases h3:cI tg tt te M Z ds with
      |bad=>rw[h3]at h;cases h
      |exc z=>exact nY h3
      |ok r=>rw[h3]at h;cases h
theorem Um(σ:L2.St)(i:Nat):∀vs:List Nat,(L2.wipe σ vs)[i]?=if i∈vs then(σ[i]?).map (λ_=>none) else σ[i]?
 |[]=>by simp[L2.wipe]
 |v::vs=>by
  show((L2.wipe σ vs).set v none)[i]?=_
  by_cases h:v=i
  .subst h;by_cases hl:v<σ.length
   .rw[avc (by rw[wipe_length];exact hl),awg auX,auV hl];rfl
   .have h1:σ[v]?=none:=List.getElem?_eq_none_iff.mpr #[];rw[awg auX,h1,List.getElem?_eq_none_iff.mpr (by rw[avn,wipe_length];omega)];rfl
  .rw[au1 h,Um σ i vs];have:i∈v::vs↔i∈vs:=⟨λz=>by
    rcases au7.mp z with z|z
    .exact absurd z.symm h
    .exact z,auY _⟩
   simp![this]
def yN(σ:L2.St)(vs:List Nat):L2.wipe (L2.wipe σ vs) vs=L2.wipe σ vs:=by
 apply avp;intro i;rw[Um (L2.wipe σ vs) i vs,Um σ i vs];split
 .cases σ[i]?<;>rfl
 .rfl
def aaT{it:IF}{tg:dY}{js vs:List Nat}{tt:QT}{te:QF}(hj:∀j∈js,j∈vs)(σ:L2.St)(H:Hp)(Q:VK)(h:tFr K aj W (xM it tg vs tt te) σ H Q) :
  tLc (tI K aj W false it) (xJ K aj js tg) (jx K aj WF tt) (tQ K aj WF te) vs σ H Q:=by
 let⟨g,Z,M,I,h⟩:=h
 refine⟨g,Z,M,I,h.bnd.mono (λds hk J C H1 e1 w c _ D nD=>?_) λ_ z=>z⟩;let⟨hz,hk⟩:=hk.qR
 have hlen:=awd hz;obtain⟨total,htot,hQ⟩:∃total,cI tg tt te M (bM Z vs) ds=.ok total/\∀l us H',H l=none->Ex H H'->H' l=some (.lst us)->aF K (g.add l) H' us total->Q (.ref l) H':=by
  cases hc:cI tg tt te M (bM Z vs) ds with
  |bad=>rw[hc]at hk;exact awb hk
  |exc x=>exact absurd hc nY
  |ok total=>
   rw[hc]at hk;exact⟨total,rfl,hk⟩
 have I1:=(I.ex e1).wipe vs;have kD:∀{Ha:Hp} {us:List V},Ex H1 Ha->Ha D=some (.lst us)->SInv K aj (L2.wipe σ vs) Ha (g.add D) (bM Z vs) M:=λea hu=>I1.add nD ea hu awa
 let Pv:Nat->Hp->Prop:=λi Ha=>Ex H1 Ha/\i<=ds.length/\∃us ys,Ha D=some (.lst us)/\aF K (g.add D) Ha us ys/\ys.length<=i/\(cI tg tt te M (bM Z vs) (ds.drop i)).sat (λr=>total=ys++r) λ_=>False
 refine⟨λi m Ha=>m=ds.length-i/\Pv i Ha,⟨ds.length,rfl,Ex.new nD,avv _,[],[],awi,.nil,avd _,?_⟩,?_⟩
 .rw[avT,htot];rfl
 .rintro i m Ha ⟨rfl,ea,hi,us,ys,hu,hU,hy,hs⟩;have Ia:=kD ea hu;have Ca:=w.add g (g.add D) H1 Ha (I.kd.ex e1) c (Gh.zN nD ea) ea;by_cases hlt:i<ds.length
  .refine .inr ⟨w.go _ i Ha Ca hlt,Pv (i+1),λH' p=>⟨ds.length-(i+1),#[],rfl,p⟩,λx H' y=>?_⟩;have hd:ds[i]?=some ds[i]:=auV hlt;let⟨e2,rx⟩:=w.yld _ i Ha x H' _ Ia.kd Ca hd y
   have I2:=Ia.ex e2;rw[avu hlt,cI]at hs;split at hs
   .exact awb hs
   .next Z1 he=>
    refine⟨g.add D,_,M,_,Z1,I2,rx,he,λws I3=>⟨vC js ws _ vs hj |>.trans (yN σ vs),?_⟩⟩;refine jx.go I3 (yO hs.bnd) λb H3 hb e3=>?_;have I4:=I3.ex e3;have hu3:=e3 _ _ (e2 _ _ hu);have hU3:=(hU.ex e2 Ia.kd).ex e3 I2.kd;cases b with
    |false=>
     have hb:(cI tg tt te M (bM Z vs) (ds.drop (i+1))).sat (λr=>total=ys++r) λ_=>False:=hb;exact⟨(ea.trans e2).trans e3,hlt,us,ys,hu3,hU3,Nat.le_succ_of_le hy,hb⟩
    |true=>
     have hb:((zq (te M Z1)).bind λy=>(cI tg tt te M (bM Z vs) (ds.drop (i+1))).bind λr=>Out.ok (y::r)).sat (λr=>total=ys++r) λ_=>False:=hb;refine tQ.go I4 (yO hb.bnd) λy v H4 hyv e4 ry=>?_;have I5:=I4.ex e4;have hu4:=e4 _ _ hu3;have hU4:=hU3.ex e4 I4.kd;have lD:(g.add D).Lo D:=.inr rfl;refine⟨us,hu4,sz_lt (by rw[hU.length];omega),Ex.mut (((ea.trans e2).trans e3).trans e4) nD,hlt,us++[v],ys++[y],awi,?_,by simp;omega,hyv.bnd.mono (λr hr=>?_) λ_ z=>z⟩
     .exact UW I5.kd hu4 lD (hU4.append (.cons ry .nil))
     .have hr:total=ys++y::r:=hr;rw[hr];simp
  .have e:i=ds.length:=#[];refine .inl ⟨w.stop _ i Ha Ca e,?_⟩;rw[e,avB]at hs;have hs:total=ys++[]:=hs;rw[avy]at hs;subst hs;exact hQ D us Ha (Ge e1 D nD) (e1.trans ea) hu hU
def ajw{it:IF}{tg:dY}{js vs:List Nat}{tt:QT}{te:QF}(hj:∀j∈js,j∈vs)(σ:L2.St)(H:Hp)(Q:VK)(h:tQ K aj W (dR it tg vs tt te) σ H Q) :
  tLc (tI K aj W false it) (xJ K aj js tg) (jx K aj WF tt) (tQ K aj WF te) vs σ H Q:=by
 let⟨g,Z,M,I,h⟩:=h
 refine aaT hj σ H Q ⟨g,Z,M,I,?_⟩;unfold xM;unfold dR at h;cases hi:it M Z with
 |bad=>rw[hi]at h;exact awb h
 |exc x=>rw[hi]at h;exact h
 |ok ds=>
  rw[hi]at h;let⟨hz,h⟩:=Out.sat.qR h
  have h:=h.bnd
  show(Out.when (decide (ds.length<=50000)) (cI tg tt te M (bM Z vs) ds)).sat _ _
  rw[hz,Out.Zt];exact h.mono (λxs z l us H' n e hl r=>z _ H' e (.lst (.inl ⟨.inl hl,I.kd.fresh n⟩) (aF.less (g:=g.add l) (g':=g) rfl (λa z=>z.elim .inl λz=>.inr (z.elim .inl λz=>.inr (.inl z))) r))) λ_ z=>z
end
section
variable{X:Cx}{aj:aM}{W:WX}{elt tg iter:Expr}{pos p tpos:Pos}
def ang{X:Cx}:Takes X WF:=λu s' ⟨a,B,sI,pins,σ,H,cls,d,e,I,nb,up,sky,na,os,ag,w⟩=>awb w
def apj{scope:Scope}{own:LsS Nat}{it:IF}{tgf:dY}{js:List Nat}{tt:QT}{te:QF}{ifs:List Expr}(hc:X.calm=true)(hN:X.N.Nodup)(hi:QI aj X W false tg iter it)(ok:blkC X.N X.env.scope scope own=true)(hj:∀j∈js,j∈own.map (·.2))
  (hg:∀s H C cl fp,QG aj #[[[]]] tg js tgf)
  (ht:∀s H C cl fp,PTs #[[[]]] ifs (jx X.K aj WF tt))
  (he:∀s H C cl fp,QE aj #[[[]]] WF elt te) (hs:∀x,foldedSetIterable iter X.env x=pure x) :
  QE aj X W (.ListComp elt [⟨tg,iter,ifs,0⟩] scope pos) (dR it tgf (own.map (·.2)) tt te):=
 PE.weak (pe_lc (g:=xJ X.K aj js tgf) (tt:=jx X.K aj WF tt) (te:=tQ X.K aj WF te) hc hN hi (blkOk_by ok) (λs H C cl fp=>hg s H C cl fp) ht (λs H C cl fp=>he s H C cl fp) hs) λσ H Q h=>ajw hj σ H Q h
def apq{scope:Scope}{own:LsS Nat}{it:IF}{tgf:dY}{js:List Nat}{tt:QT}{te:QF}{ifs:List Expr}(hc:X.calm=true)(hN:X.N.Nodup)(hi:QI aj X W false tg iter it)(ok:blkC X.N X.env.scope scope own=true)(hj:∀j∈js,j∈own.map (·.2))
  (hg:∀s H C cl fp,QG aj #[[[]]] tg js tgf)
  (ht:∀s H C cl fp,PTs #[[[]]] ifs (jx X.K aj WF tt))
  (he:∀s H C cl fp,QE aj #[[[]]] WF elt te) (hs:∀x,foldedSetIterable iter X.env x=pure x) :
  PE X (.ListComp elt [⟨tg,iter,ifs,0⟩] scope pos) (tFr X.K aj W (xM it tgf (own.map (·.2)) tt te)):=
 PE.weak (pe_lc (g:=xJ X.K aj js tgf) (tt:=jx X.K aj WF tt) (te:=tQ X.K aj WF te) hc hN hi (blkOk_by ok) (λs H C cl fp=>hg s H C cl fp) ht (λs H C cl fp=>he s H C cl fp) hs) λσ H Q h=>aaT hj σ H Q h
end
def aZ.sat{α:Type}(o:aZ α)(P:α->Mo->Prop)(E:eX->Mo->Prop):Prop:=
 match o with
 |.ok a M=>P a M
 |.exc x M=>E x M
 |.bad=>False
def aZ.bind{α β:Type}(o:aZ α)(k:α->Mo->aZ β):aZ β:=
 match o with
 |.ok a M=>k a M
 |.exc x M=>.exc x M
 |.bad=>.bad
@[simp]theorem aZ.Bl {α β:Type} (a:α) (M:Mo) (k:α->Mo->aZ β):(aZ.ok a M).bind k=k a M:=rfl
@[simp]theorem aZ.ai4 {α β:Type} (x:eX) (M:Mo) (k:α->Mo->aZ β):(aZ.exc x M:aZ α).bind k=.exc x M:=rfl
@[simp]theorem aZ.ahS {α β:Type} (k:α->Mo->aZ β):(aZ.bad:aZ α).bind k=.bad:=rfl
def aZ.sat.bnd{α β:Type}{o:aZ α}{k:α->Mo->aZ β}{P:β->Mo->Prop}{E:eX->Mo->Prop}(h:(o.bind k).sat P E):o.sat (λa M=>(k a M).sat P E) E:=by cases o<;>exact h
def aZ.sat.mono{α:Type}{o:aZ α}{P P':α->Mo->Prop}{E E':eX->Mo->Prop}(h:o.sat P E)(hp:∀a M,P a M->P' a M)(he:∀x M,E x M->E' x M):o.sat P' E':=by
 cases o
 .exact hp _ _ h
 .exact he _ _ h
 .exact h
def Out.at{α:Type}(o:Out α)(M:Mo):aZ α:=
 match o with
 |.ok a=>.ok a M
 |.exc x=>.exc x M
 |.bad=>.bad
@[simp]theorem Out.aeC {α:Type} (a:α) (M:Mo):(Out.ok a).at M=.ok a M:=rfl
@[simp]theorem Out.anF {α:Type} (x:eX) (M:Mo):(Out.exc x:Out α).at M=.exc x M:=rfl
@[simp]theorem Out.amL {α:Type} (M:Mo):(Out.bad:Out α).at M=.bad:=rfl
def Out.jH{α:Type}{o:Out α}{M:Mo}{P:α->Mo->Prop}{E:eX->Mo->Prop}(h:(o.at M).sat P E):o.sat (λa=>P a M) λx=>E x M:=by cases o<;>exact h
abbrev GF:=Mo->Env->aZ Dat
abbrev GT:=Mo->Env->aZ Bool
def uO.sat(o:uO)(nx:Env->Mo->Prop)(rt:Dat->Mo->Prop)(bk ct:Env->Mo->Prop)(ex:eX->Env->Mo->Prop):Prop:=
 match o with
 |.next Z M=>nx Z M
 |.ret d M=>rt d M
 |.brk Z M=>bk Z M
 |.cont Z M=>ct Z M
 |.exc x Z M=>ex x Z M
 |.bad=>False
def uO.sat.mono{o:uO}{nx nx':Env->Mo->Prop}{rt rt':Dat->Mo->Prop}{bk bk' ct ct':Env->Mo->Prop}{ex ex':eX->Env->Mo->Prop}(h:o.sat nx rt bk ct ex)(h1:∀Z M,nx Z M->nx' Z M)(h2:∀d M,rt d M->rt' d M)(h3:∀Z M,bk Z M->bk' Z M)(h4:∀Z M,ct Z M->ct' Z M)(h5:∀x Z M,ex x Z M->ex' x Z M):o.sat nx' rt' bk' ct' ex':=by
 cases o
 .exact h1 _ _ h
 .exact h2 _ _ h
 .exact h3 _ _ h
 .exact h4 _ _ h
 .exact h5 _ _ _ h
 .exact h
abbrev SF:=Mo->Env->uO
def Gh.fr(g:Gh):Gh:={ g with Lo:=λ_=>False }
section
variable(K:auT)(aj:aM)(W:WX)(q:Bool)
def gE(g:Gh)(H:Hp)(σ:L2.St)(Z:Env)(x:eX)(M':Mo):Prop:=∀H' g' c dd,Gr q g g' H H'->SInv K aj σ H' g' Z M'->tR K aj g' H' x c dd->W c dd σ H'
def tE(f:GF):TE:=λσ H Q=>∃g Z M,SInv K aj σ H g Z M/\(f M Z).sat (λd M'=>∀v H' g',Gr q g g' H H'->SInv K aj σ H' g' Z M'->Rep K g' H' v d->Q v H') (gE K aj W q g H σ Z)
def tET(f:GT):TT:=λσ H Q=>∃g Z M,SInv K aj σ H g Z M/\(f M Z).sat (λb M'=>∀H' g',Gr q g g' H H'->SInv K aj σ H' g' Z M'->Q b H') (gE K aj W q g H σ Z)
def sN(k:L2.St->Hp->Prop)(g:Gh)(H:Hp)(Z':Env)(M':Mo):Prop:=∀σ' H' g',Gr q g g' H H'->SInv K aj σ' H' g' Z' M'->k σ' H'
def sR(k:VK)(g:Gh)(H:Hp)(d:Dat)(M':Mo):Prop:=∀v H' g',Gr q g g' H H'->Kd g'.fr H'->ig K aj g'.fr H' M'->Rep K g'.fr H' v d->k v H'
def sX(g:Gh)(H:Hp)(x:eX)(Z':Env)(M':Mo):Prop:=∀σ' H' g' c dd,Gr q g g' H H'->SInv K aj σ' H' g' Z' M'->tR K aj g'.fr H' x c dd->W c dd σ' H'
def tS(f:SF):TS:=λD σ H=>∃g Z M,SInv K aj σ H g Z M/\(f M Z).sat (sN K aj q D.nx g H) (sR K aj q D.rt g H) (sN K aj q D.bk g H) (sN K aj q D.ct g H) (sX K aj W q g H)
end
section
variable{K:auT}{aj:aM}{W:WX}{q:Bool}{g g1:Gh}{H H1:Hp}{σ:L2.St}{Z:Env}{M:Mo}
def gE.gr{x:eX}{M':Mo}(r:Gr q g g1 H H1)(h:gE K aj W q g H σ Z x M'):gE K aj W q g1 H1 σ Z x M':=λH' g' c dd r' I z=>h H' g' c dd (r.trans r') I z
def sN.gr{k:L2.St->Hp->Prop}{Z':Env}{M':Mo}(r:Gr q g g1 H H1)(h:sN K aj q k g H Z' M'):sN K aj q k g1 H1 Z' M':=λσ' H' g' r' I=>h σ' H' g' (r.trans r') I
def sR.gr{k:VK}{d:Dat}{M':Mo}(r:Gr q g g1 H H1)(h:sR K aj q k g H d M'):sR K aj q k g1 H1 d M':=λv H' g' r' I z y=>h v H' g' (r.trans r') I z y
def sX.gr{x:eX}{Z':Env}{M':Mo}(r:Gr q g g1 H H1)(h:sX K aj W q g H x Z' M'):sX K aj W q g1 H1 x Z' M':=λσ' H' g' c dd r' I z=>h σ' H' g' c dd (r.trans r') I z
def tE.go{f:GF}{k:Dat->Mo->Prop}{Q:VK}(I:SInv K aj σ H g Z M)(h:(f M Z).sat k (gE K aj W q g H σ Z))(hk:∀d M' v H' g',k d M'->Gr q g g' H H'->SInv K aj σ H' g' Z M'->Rep K g' H' v d->Q v H'):tE K aj W q f σ H Q:=
 ⟨g,Z,M,I,h.mono (λd M' hd v H' g' e I' r=>hk d M' v H' g' hd e I' r) λ_ _ z=>z⟩
def tET.go{f:GT}{k:Bool->Mo->Prop}{Q:Bool->Hp->Prop}(I:SInv K aj σ H g Z M)(h:(f M Z).sat k (gE K aj W q g H σ Z))(hk:∀b M' H' g',k b M'->Gr q g g' H H'->SInv K aj σ H' g' Z M'->Q b H'):tET K aj W q f σ H Q:=
 ⟨g,Z,M,I,h.mono (λd M' hd H' g' e I'=>hk d M' H' g' hd e I') λ_ _ z=>z⟩
def tS.go{f:SF}{D:Ends}(I:SInv K aj σ H1 g1 Z M)(r:Gr q g g1 H H1)(h:(f M Z).sat (sN K aj q D.nx g H) (sR K aj q D.rt g H) (sN K aj q D.bk g H) (sN K aj q D.ct g H) (sX K aj W q g H)):tS K aj W q f D σ H1:=
 ⟨g1,Z,M,I,h.mono (λ_ _ z=>z.gr r) (λ_ _ z=>z.gr r) (λ_ _ z=>z.gr r) (λ_ _ z=>z.gr r) (λ_ _ _ z=>z.gr r)⟩
theorem mO.less{g':Gh}{fs:LsS V}{gs:LsS Dat}(e:g'.tbl=g.tbl)(n:∀a,g'.A a->g.A a)(h:mO K g H fs gs):mO K g' H fs gs:=by
 induction h with
 |nil=>exact .nil
 |cons r _ ih=>exact .cons (r.less e n) ih
theorem tR.less{g':Gh}{x:eX}{c:Value}{dd:Option Addr}(e:g'.tbl=g.tbl)(n:∀a,g'.A a->g.A a)(h:tR K aj g H x c dd):tR K aj g' H x c dd:=by
 let⟨C,h1,h2,h3⟩:=h
 refine⟨C,h1,h2,h3.imp id λ⟨a,fs,e1,e2,e3⟩=>⟨a,fs,e1,e2,e3.less e n⟩⟩
def yQ(g:Gh):∀a,g.fr.A a->g.A a:=λa z=>z.elim .inl λz=>.inr (z.elim .inl λz=>awb z)
theorem Rep.fr{v:V}{d:Dat}(h:Rep K g H v d):Rep K g.fr H v d:=Rep.less (g:=g) (g':=g.fr) rfl (yQ g) h
theorem aF.fr{v:List V}{d:List Dat}(h:aF K g H v d):aF K g.fr H v d:=aF.less (g:=g) (g':=g.fr) rfl (yQ g) h
theorem tR.fr{x:eX}{c:Value}{dd:Option Addr}(h:tR K aj g H x c dd):tR K aj g.fr H x c dd:=tR.less (g:=g) (g':=g.fr) rfl (yQ g) h
end
def GE(aj:aM)(X:Cx)(W:WX)(q:Bool)(e:Expr)(f:GF):Prop:=PE X e (tE X.K aj W q f)
def GTe(aj:aM)(X:Cx)(W:WX)(q:Bool)(e:Expr)(f:GT):Prop:=PT X e (tET X.K aj W q f)
def SE(aj:aM)(X:Cx)(W:WX)(q:Bool)(s:Stmt)(f:SF):Prop:=PS X s (tS X.K aj W q f)
def Hh(aj:aM)(X:Cx)(W:WX)(q:Bool)(s:List Stmt)(f:SF):Prop:=PSs X s (tS X.K aj W q f)
def PS.weak{X:Cx}{e:Stmt}{t t':TS}(h:PS X e t)(k:∀D σ H,t' D σ H->t D σ H):PS X e t':=⟨λpins s σ H D I z=>h.run pins s σ H D I (k D σ H z)⟩
def PSs.weak{X:Cx}{e:List Stmt}{t t':TS}(h:PSs X e t)(k:∀D σ H,t' D σ H->t D σ H):PSs X e t':=⟨λpins s σ H D I z=>h.run pins s σ H D I (k D σ H z)⟩
def gOf(f:QF):GF:=λM Z=>(f M Z).at M
def aiv(f:QT):GT:=λM Z=>(f M Z).at M
section
variable{X:Cx}{aj:aM}{W:WX}{q:Bool}{a b e:Expr}{pos:Pos}
def ajB{f:QF}(h:QE aj X W e f):GE aj X W q e (gOf f):=PE.weak h λσ H Q ⟨g,Z,M,I,z⟩=>
 ⟨g,Z,M,I,(Out.jH z).mono (λd k v H' e r=>k v H' g (Gr.ex e) (I.ex e) r) λx k H' c dd e r=>k H' g c dd (Gr.ex e) (I.ex e) r⟩
def aph{f:QT}(h:vm aj X W e f):GTe aj X W q e (aiv f):=PT.weak h λσ H Q ⟨g,Z,M,I,z⟩=>
 ⟨g,Z,M,I,(Out.jH z).mono (λd k H' e=>k H' g (Gr.ex e) (I.ex e)) λx k H' c dd e r=>k H' g c dd (Gr.ex e) (I.ex e) r⟩
def aG:SF:=λM Z=>.next Z M
def ak(f k:SF):SF:=λM Z=>match f M Z with
 |.next Z' M'=>k M' Z'
 |o=>o
def anw:Hh aj X W q [] aG:=PSs.weak pss_nil λD σ H ⟨g,Z,M,I,z⟩=>z σ H g .refl I
def anz{s:Stmt}{f:SF}(h:SE aj X W q s f):Hh aj X W q [s] f:=pss_one h
def ajV{s:Stmt}{ss:List Stmt}{f k:SF}(h:SE aj X W q s f)(hs:Hh aj X W q ss k):Hh aj X W q (s::ss) (ak f k):=by
 refine PSs.weak (pss_cons h hs) λD σ H ⟨g,Z,M,I,z⟩=>?_;refine⟨g,Z,M,I,?_⟩;unfold ak at z;cases hf:f M Z with
 |next Z' M'=>
  rw[hf]at z;exact λσ' H' g' r I'=>tS.go I' r z
 |ret d M'=>rw[hf]at z;exact z
 |brk Z' M'=>rw[hf]at z;exact z
 |cont Z' M'=>rw[hf]at z;exact z
 |exc x Z' M'=>rw[hf]at z;exact z
 |bad=>rw[hf]at z;exact z
def aZ.then{α:Type}(o:aZ α)(Z:Env)(k:α->Mo->uO):uO:=
 match o with
 |.ok a M=>k a M
 |.exc x M=>.exc x Z M
 |.bad=>.bad
@[simp]theorem aZ.Xc {α:Type} (a:α) (M:Mo) (Z:Env) (k:α->Mo->uO):(aZ.ok a M).then Z k=k a M:=rfl
@[simp]theorem aZ.aiY {α:Type} (x:eX) (M:Mo) (Z:Env) (k:α->Mo->uO):(aZ.exc x M:aZ α).then Z k=.exc x Z M:=rfl
@[simp]theorem aZ.ahO {α:Type} (Z:Env) (k:α->Mo->uO):(aZ.bad:aZ α).then Z k=.bad:=rfl
def dI{α:Type}{K:auT}{g:Gh}{H:Hp}{σ:L2.St}{Z:Env}{o:aZ α}{k:α->Mo->uO}{nx bk ct:Env->Mo->Prop}{rt:Dat->Mo->Prop}(h:(o.then Z k).sat nx rt bk ct (sX K aj W q g H)):o.sat (λa M=>(k a M).sat nx rt bk ct (sX K aj W q g H)) (gE K aj W q g H σ Z):=by
 cases o with
 |ok a M=>exact h
 |exc x M=>exact λH' g' c dd r I z=>h σ H' g' c dd r I z.fr
 |bad=>exact h
def aV(tg:dY)(f:GF):SF:=λM Z=>(f M Z).then Z λd M'=>match tg d Z with
 |some Z'=>.next Z' M'
 |none=>.bad
def abK{tg:Expr}{js:List Nat}{tf:dY}{f:GF}(he:GE aj X W q e f)(hg:QG aj X tg js tf)(hs:swapsWithSole [tg] e pos.line X.env=pure false)(hw:swappedStores [tg] e X.env=pure none)(h1:(assignEach [tg] X.env).map (·.2)=[assign tg X.env]):SE aj X W q (.Assign [tg] e pos) (aV tf f):=by
 refine PS.weak (ps_asg he hg hs hw h1) λD σ H ⟨g,Z,M,I,z⟩=>?_;refine tE.go I (dI (σ:=σ) z) λd M' v H' g' k r I' rv=>?_;split at k
 .next Z' e'=>exact⟨g',Z,M',d,Z',I',rv,e',λvs I2=>k _ H' g' r I2⟩
 .exact awb k
def bR(f:GF):SF:=λM Z=>(f M Z).then Z λ_ M'=>.next Z M'
def Yq{f:GF}(he:GE aj X W q e f)(hs:swapsWith e none pos.line X.env=pure false):SE aj X W q (.Expr e pos) (bR f):=by refine PS.weak (ps_expr he hs) λD σ H ⟨g,Z,M,I,z⟩=>?_;exact tE.go I (dI (σ:=σ) z) λd M' v H' g' k r I' rv=>k σ H' g' r I'
end
def WD:Cell->Cell
 |.mut xs=>.dat (.list xs)
 |c=>c
def uW(Z:Env):Env:=Z.map λo=>o.map WD
section
variable{K:auT}{aj:aM}{W:WX}{q:Bool}{g:Gh}{H:Hp}{σ:L2.St}{Z:Env}{M:Mo}
theorem iQ.less{g':Gh}{l:Addr}(e:g'.tbl=g.tbl)(n:∀a,g'.A a->g.A a):∀{b:Bool} {kvs:List (Dat×Dat)},iQ K aj g H l b kvs->iQ K aj g' H l b kvs
 |false,_,⟨kv,h1,h2,h3⟩=>⟨kv,h1,h2,h3.less e n⟩
 |true,_,⟨o,xs,vs,h1,h2,h3,h4,h5,h6⟩=>⟨o,xs,vs,h1,h2,h3,h4.less e n,h5,h6.less e n⟩
theorem fj.less{g':Gh}{h:Nat}{f:Str}{v:V}(e:g'.tbl=g.tbl)(e2:g'.ow=g.ow)(n:∀a,g'.A a->g.A a):∀{fl:jF},fj K aj g H h f v fl->fj K aj g' H h f v fl
 |.dat _,z=>Rep.less e n z
 |.lst _ _,⟨l,us,h1,h2,h3,h4,h5⟩=>⟨l,us,h1,h2,by rw[e2];exact h3,h4.less e n,by rw[e];exact h5⟩
 |.dic _ _,⟨l,h1,h2,h3⟩=>⟨l,h1,by rw[e2];exact h2,h3.less e n⟩
theorem cD.less{g':Gh}{h:Nat}(e:g'.tbl=g.tbl)(e2:g'.ow=g.ow)(n:∀a,g'.A a->g.A a):∀{fs:LsS V} {gs:LsS jF},cD K aj g H h fs gs->cD K aj g' H h fs gs
 |_,_,.nil=>.nil
 |_,_,.cons z t=>.cons (fj.less e e2 n z) (cD.less e e2 n t)
theorem ig.less{g':Gh}(e:g'.tbl=g.tbl)(e2:g'.ow=g.ow)(n:∀a,g'.A a->g.A a)(w:ig K aj g H M):ig K aj g' H M where
 len:=by rw[e];exact w.len
 inj:=by rw[e];exact w.inj
 ins:=λh a i ha hi hc=>by
  rw[e]at ha;let⟨C,dx,fs,c1,c2,c3⟩:=w.ins h a i ha hi hc
  exact⟨C,dx,fs,c1,c2,c3.less e e2 n⟩
 nd:=w.nd
 fd:=w.fd
 tw:=by rw[e,e2];exact w.tw
 dm:=w.dm
 nc:=w.nc
def T6{i:Nat}{c:Cell}(h:(uW Z)[i]?=some (some c)):∃c',Z[i]?=some (some c')/\c=WD c':=by
 unfold uW at h;rw[ava]at h;cases hr:Z[i]? with
 |none=>rw[hr]at h;cases h
 |some o=>
  rw[hr]at h;cases o with
  |none=>cases h
  |some c'=>
   cases h;exact⟨c',rfl,rfl⟩
theorem SInv.uW(I:SInv K aj σ H g Z M):SInv K aj σ H g.fr (uW Z) M where
 kd:=⟨λa z=>I.kd.ob a (yQ g a z),λa z=>awb z,λa z=>⟨(I.kd.lc a z).1,λy=>y⟩⟩
 wok:=ig.less (g:=g) (g':=g.fr) rfl rfl (yQ g) I.wok
 len:=by unfold Rf.uW;rw[au3];exact I.len
 dat:=λi d h=>by
  let⟨c,h1,h2⟩:=T6 h
  cases c with
  |dat d'=>
   cases h2;let⟨v,e1,e2⟩:=I.dat i _ h1
   exact⟨v,e1,e2.fr⟩
  | «mut» xs=>
   cases h2;let⟨l,us,e1,e2,e3,e4⟩:=I.own i _ h1
   refine⟨_,e1,.lst (.inl ⟨.inl e2,λz=>?_⟩) e4.fr⟩;rcases z with z|z|z
   .exact I.kd.lo l e3 z
   .exact(I.kd.lc l z).2 e3
   .exact z
 own:=λi xs h=>by
  let⟨c,h1,h2⟩:=T6 h
  cases c<;>cases h2
 sep:=λi j xs ys l ne h1=>by
  let⟨c,h1,h2⟩:=T6 h1
  cases c<;>cases h2
end
section
variable{K:auT}{aj:aM}{W:WX}{q:Bool}{g g':Gh}{H H':Hp}{σ:L2.St}{Z:Env}{M:Mo}
theorem Kd.fr(k:Kd g H):Kd g.fr H:=⟨λa z=>k.ob a (yQ g a z),λa z=>awb z,λa z=>⟨(k.lc a z).1,λy=>y⟩⟩
theorem ig.fr(w:ig K aj g H M):ig K aj g.fr H M:=ig.less (g:=g) (g':=g.fr) rfl rfl (yQ g) w
def bD{α:Type}{l:List (Option α)}{j i:Nat}{c:α}{o:Option α}(h:(l.set j o)[i]?=some (some c)):(j=i/\o=some c/\j<l.length)\/(j≠i/\l[i]?=some (some c)):=by
 by_cases z:j=i
 .subst z;have hj:j<l.length:=by
   have:=(auZ.mp h).1;rw[avn]at this;exact this
  rw[avc hj]at h;exact .inl ⟨rfl,avi h,hj⟩
 .rw[au1 z]at h;exact .inr ⟨z,h⟩
def SInv.alx{j:Nat}{l:Addr}{us:List V}{xs:List Dat}(I:SInv K aj σ H g Z M)(n:H l=none)(e:Ex H H')(hl:H' l=some (.lst us))(r:aF K (g.add l) H' us xs):SInv K aj (σ.set j (some (.ref l))) H' (g.add l) (Z.set j (some (.mut xs))) M:=by
 have I1:=I.add n e hl awa;have nl:∀(i:Nat) (ys:List Dat),Z[i]?=some (some (.mut ys))->σ[i]?≠some (some (.ref l)):=λi ys h z=>by
  let⟨l',us',h1,h2,_⟩:=I.own i ys h
  rw[z]at h1;cases h1;rw[n]at h2;cases h2
 refine⟨I1.kd,I1.wok,by rw[avn,avn];exact I.len,λi d h=>?_,λi ys h=>?_,λi k ys zs a ne h1 h2 h3 h4=>?_⟩
 .rcases bD h with⟨_,h,_⟩|⟨ne,h⟩
  .cases h
  .rw[au1 ne];exact I1.dat i d h
 .rcases bD h with⟨rfl,h,hj⟩|⟨ne,h⟩
  .cases h;exact⟨l,us,by rw[avc (by rw[I.len];exact hj)],hl,.inr rfl,r⟩
  .rw[au1 ne];exact I1.own i ys h
 .rcases bD h1 with⟨rfl,h1,hj⟩|⟨n1,h1⟩
  .rcases bD h2 with⟨rfl,h2,_⟩|⟨n2,h2⟩
   .exact ne rfl
   .rw[avc (by rw[I.len];exact hj)]at h3;cases h3;rw[au1 n2]at h4;exact nl k zs h2 h4
  .rcases bD h2 with⟨rfl,h2,hj⟩|⟨n2,h2⟩
   .rw[avc (by rw[I.len];exact hj)]at h4;cases h4;rw[au1 n1]at h3;exact nl i ys h1 h3
   .rw[au1 n1]at h3;rw[au1 n2]at h4;exact I.sep i k ys zs a ne h1 h2 h3 h4
def fj.loc{l:Addr}{o o':HO}{h:Nat}{f:Str}{v:V}(k:Kd g H)(hl:H l=some o)(lo:g.Lo l):∀{fl:jF},fj K aj g H h f v fl->fj K aj g (upd H l o') h f v fl:=λ{fl} z=>by
 have r:Gr true g g H (upd H l o'):=Gr.upd k hl (.inr lo);cases fl with
 |dat d=>exact Rep.gr r k z
 |lst n xs=>
  let⟨a,ws,h1,h2,h3,h4,h5⟩:=z
  exact⟨a,ws,h1,by rw[upd_ne (λz=>by subst z;exact k.lo _ lo (.inr (by rw[h3];exact λz=>nomatch z)))];exact h2,h3,h4.gr r k,h5⟩
 |dic n kvs=>
  let⟨a,h1,h2,h3⟩:=z
  have na:a≠l:=λz=>by subst z;exact k.lo _ lo (.inr (by rw[h2];exact λz=>nomatch z))
  refine⟨a,h1,h2,?_⟩;cases n with
  |false=>
   let⟨kv,h3,h4,h5⟩:=h3
   exact⟨kv,by rw[upd_ne na];exact h3,h4,h5.gr r k⟩
  |true=>
   let⟨o,xs,vs,h3,h4,h5,h6,h7,h8⟩:=h3
   exact⟨o,xs,vs,by rw[upd_ne na];exact h3,h4,h5,h6.gr r k,h7,h8.gr r k⟩
theorem cD.loc{l:Addr}{o o':HO}{h:Nat}(k:Kd g H)(hl:H l=some o)(lo:g.Lo l):∀{fs:LsS V} {gs:LsS jF},cD K aj g H h fs gs->cD K aj g (upd H l o') h fs gs
 |_,_,.nil=>.nil
 |_,_,.cons z t=>.cons (fj.loc k hl lo z) (cD.loc k hl lo t)
theorem ig.loc{l:Addr}{o o':HO}(k:Kd g H)(hl:H l=some o)(lo:g.Lo l)(w:ig K aj g H M):ig K aj g (upd H l o') M where
 len:=w.len
 inj:=w.inj
 ins:=λh a i ha hi hc=>by
  let⟨C,dx,fs,c1,c2,c3⟩:=w.ins h a i ha hi hc
  exact⟨C,dx,fs,c1,by rw[upd_ne (λz=>by subst z;exact k.lo _ lo (.inl (au4 ha)))];exact c2,c3.loc k hl lo⟩
 nd:=w.nd
 fd:=w.fd
 tw:=w.tw
 dm:=w.dm
 nc:=w.nc
def SInv.change{j:Nat}{xs ys:List Dat}(I:SInv K aj σ H g Z M)(hj:Z[j]?=some (some (.mut xs))):∃l us,σ[j]?=some (some (.ref l))/\H l=some (.lst us)/\g.Lo l/\aF K g H us xs/\∀us',aF K g H us' ys->SInv K aj σ (upd H l (.lst us')) g (Z.set j (some (.mut ys))) M:=by
 let⟨l,us,h1,h2,h3,h4⟩:=I.own j xs hj
 refine⟨l,us,h1,h2,h3,h4,λus' r=>?_⟩;have gr:Gr true g g H (upd H l (.lst us')):=Gr.upd I.kd h2 (.inr h3);refine⟨I.kd.upd awa,I.wok.loc I.kd h2 h3,by rw[avn];exact I.len,λi d h=>?_,λi zs h=>?_,λi k zs ws a ne e1 e2 e3 e4=>?_⟩
 .rcases bD h with⟨_,h,_⟩|⟨ne,h⟩
  .cases h
  .let⟨v,e1,e2⟩:=I.dat i d h
   exact⟨v,e1,e2.gr gr I.kd⟩
 .rcases bD h with⟨rfl,h,_⟩|⟨ne,h⟩
  .cases h;exact⟨l,us',h1,awi,h3,r.gr gr I.kd⟩
  .let⟨l',ws,e1,e2,e3,e4⟩:=I.own i zs h
   have nl:l'≠l:=λz=>by
    subst z;exact I.sep i j zs xs l' (Ne.symm ne) h hj e1 h1
   exact⟨l',ws,e1,by rw[upd_ne nl];exact e2,e3,e4.gr gr I.kd⟩
 .have k1:∃xs,Z[i]?=some (some (.mut xs)):=by
   rcases bD e1 with⟨rfl,_,_⟩|⟨_,h⟩
   .exact⟨xs,hj⟩
   .exact⟨zs,h⟩
  have k2:∃xs,Z[k]?=some (some (.mut xs)):=by
   rcases bD e2 with⟨rfl,_,_⟩|⟨_,h⟩
   .exact⟨xs,hj⟩
   .exact⟨ws,h⟩
  let⟨x1,k1⟩:=k1
  let⟨x2,k2⟩:=k2
  exact I.sep i k x1 x2 a ne k1 k2 e3 e4
end
section
variable{X:Cx}{aj:aM}{W:WX}{q:Bool}{a b e:Expr}{pos:Pos}
def aJ(f:QF):SF:=λM Z=>((f M (uW Z)).at M).then Z λd M'=>.ret d M'
def cR(f:GF):SF:=λM Z=>(f M Z).then Z λd M'=>.ret d M'
def anS{f:QF}(he:QE aj X W e f):SE aj X W q (.Return (some e) pos) (aJ f):=by
 refine PS.weak (ps_ret he) λD σ H ⟨g,Z,M,I,z⟩=>?_;refine⟨g.fr,uW Z,M,I.uW,?_⟩;unfold aJ at z;cases hf:f M (uW Z) with
 |ok d=>
  rw[hf]at z;exact λv H' e r=>z v H' g (Gr.ex e) (I.ex e).kd.fr (I.ex e).wok.fr r
 |exc x=>
  rw[hf]at z;exact λH' c dd e r=>z σ H' g c dd (Gr.ex e) (I.ex e) r
 |bad=>rw[hf]at z;exact awb z
def akl{f:GF}(he:GE aj X W q e f):SE aj X W q (.Return (some e) pos) (cR f):=by refine PS.weak (ps_ret he) λD σ H ⟨g,Z,M,I,z⟩=>?_;exact tE.go I (dI (σ:=σ) z) λd M' v H' g' k r I' rv=>k v H' g' r I'.kd.fr I'.wok.fr rv.fr
def bh(t:QT)(f k:SF):SF:=λM Z=>((t M (uW Z)).at M).then Z λc M'=>if c=true then f M' Z else k M' Z
def aqe(t:GT)(f k:SF):SF:=λM Z=>(t M Z).then Z λc M'=>if c=true then f M' Z else k M' Z
def aoY{c:Expr}{s1 s2:List Stmt}{t:QT}{f k:SF}(hc:vm aj X W c t)(h1:Hh aj X W q s1 f)(h2:Hh aj X W q s2 k):SE aj X W q (.If c s1 s2 pos) (bh t f k):=by
 refine PS.weak (ps_if hc h1 h2) λD σ H ⟨g,Z,M,I,z⟩=>?_;refine⟨g.fr,uW Z,M,I.uW,?_⟩;unfold bh at z;cases hf:t M (uW Z) with
 |ok d=>
  rw[hf]at z;intro H' e;cases d with
  |true=>exact tS.go (I.ex e) (Gr.ex e) z
  |false=>exact tS.go (I.ex e) (Gr.ex e) z
 |exc x=>
  rw[hf]at z;exact λH' c dd e r=>z σ H' g c dd (Gr.ex e) (I.ex e) r
 |bad=>rw[hf]at z;exact awb z
def eY(tg:dY)(body:SF):List Dat->Mo->Env->uO
 |[],M,Z=>.next Z M
 |d::ds,M,Z=>match tg d Z with
  |none=>.bad
  |some Z1=>match body M Z1 with
   |.next Z2 M2=>eY tg body ds M2 Z2
   |.cont Z2 M2=>eY tg body ds M2 Z2
   |.brk Z2 M2=>.next Z2 M2
   |.ret d M2=>.ret d M2
   |.exc x Z2 M2=>.exc x Z2 M2
   |.bad=>.bad
def mX(it:IF)(tg:dY)(body:SF):SF:=λM Z=>((it M Z).at M).then Z λds M'=>eY tg body ds M' Z
def aly{tg iter:Expr}{body:List Stmt}{it:IF}{js:List Nat}{tf:dY}{f:SF}(hp:PassesOwn (model X.prog X.w) X.A X.env X.xe)(hc:X.calm=true)(hi:QI aj X W true tg iter it)(hg:QG aj X tg js tf)(hb:Hh aj X W q body f)(hs:∀x,foldedSetIterable iter X.env x=pure x) :
  SE aj X W q (.For tg iter body [] pos) (mX it tf f):=by
 refine PS.weak (ps_for hp hc hi hg hb hs) λD σ H ⟨g,Z,M,I,z⟩=>?_;refine⟨g,Z,M,I,?_⟩;unfold mX at z;cases hf:it M Z with
 |exc x=>
  rw[hf]at z;exact λH' c dd e r=>z σ H' g c dd (Gr.ex e) (I.ex e) r.fr
 |bad=>rw[hf]at z;exact awb z
 |ok ds=>
  rw[hf]at z;intro J C H1 e1 w c1 firm;have firm:=firm rfl;have z:(eY tf f ds M Z).sat (sN X.K aj q D.nx g H) (sR X.K aj q D.rt g H) (sN X.K aj q D.bk g H) (sN X.K aj q D.ct g H) (sX X.K aj W q g H):=z
  let Pv:Nat->L2.St->Hp->Prop:=λi σi Hi=>i<=ds.length/\∃gi ρi Mi,Gr q g gi H Hi/\SInv X.K aj σi Hi gi ρi Mi/\C gi Hi/\(eY tf f (ds.drop i) Mi ρi).sat (sN X.K aj q D.nx g H) (sR X.K aj q D.rt g H) (sN X.K aj q D.bk g H) (sN X.K aj q D.ct g H) (sX X.K aj W q g H)
  refine⟨λi m σi Hi=>m=ds.length-i/\Pv i σi Hi,⟨ds.length,rfl,avv _,g,Z,M,Gr.ex e1,I.ex e1,c1,by rw[avT];exact z⟩,?_⟩;rintro i m σi Hi ⟨rfl,hi,gi,ρi,Mi,ri,Ii,Ci,zi⟩;by_cases hlt:i<ds.length
  .refine .inr ⟨w.go _ i Hi Ci hlt,Pv (i+1),λσ' H' p=>⟨ds.length-(i+1),#[],rfl,p⟩,λx H' y=>?_⟩;have hd:ds[i]?=some ds[i]:=auV hlt;let⟨e2,rx⟩:=w.yld _ i Hi x H' _ Ii.kd Ci hd y
   rw[avu hlt,eY]at zi;split at zi
   .exact awb zi
   .next Z1 he=>
    have I2:=Ii.ex e2;refine⟨gi,ρi,Mi,_,Z1,I2,rx,he,λvs I3=>⟨gi,Z1,Mi,I3,?_⟩⟩;have r2:=ri.trans (Gr.ex e2);cases hb':f Mi Z1 with
    |next Z2 M2=>
     rw[hb']at zi;exact λσ' H2 g2 r I'=>⟨hlt,g2,Z2,M2,r2.trans r,I',firm q gi g2 H' H2 I2.kd (w.ex _ _ _ Ii.kd Ci e2) r,zi⟩
    |cont Z2 M2=>
     rw[hb']at zi;exact λσ' H2 g2 r I'=>⟨hlt,g2,Z2,M2,r2.trans r,I',firm q gi g2 H' H2 I2.kd (w.ex _ _ _ Ii.kd Ci e2) r,zi⟩
    |brk Z2 M2=>
     rw[hb']at zi;exact sN.gr r2 zi
    |ret d M2=>
     rw[hb']at zi;exact sR.gr r2 zi
    |exc x Z2 M2=>
     rw[hb']at zi;exact sX.gr r2 zi
    |bad=>rw[hb']at zi;exact awb zi
  .have e:i=ds.length:=#[];refine .inl ⟨w.stop _ i Hi Ci e,?_⟩;rw[e,avB]at zi;exact zi σi Hi gi ri Ii
def Jk(j:Nat)(f:QF):SF:=λM Z=>match Z[j]? with
 |some #[.int i]=>((f M Z).at M).then Z λd M'=>match d with
  |.int k=>.next (Z.set j #[.int (i+k)]) M'
  |_=>.bad
 |_=>.bad
def anI{j:Nat}{x:Str}{f:QF}{pos':Pos}(hN:X.N.Nodup)(hi:X.N[j]?=some x)(hx:Loc X.env.scope x)(hf:X.fn x=true\/X.env.scope.names.lookup x=some .local)(he:QE aj X W e f):SE aj X W q (.AugAssign (.Name x pos') .Add e pos) (Jk j f):=by
 refine PS.weak (ps_aug hN hi hx he ip_add hf) λD σ H ⟨g,Z,M,I,z⟩=>?_;unfold Jk at z;split at z
 .next i hj=>
  let⟨v,h1,h2⟩:=I.dat j _ hj
  cases h2;refine⟨.int i,h1,⟨g,Z,M,I,?_⟩⟩;cases hf':f M Z with
  |exc x=>rw[hf']at z;exact λH' c dd e r=>z σ H' g c dd (Gr.ex e) (I.ex e) r.fr
  |bad=>rw[hf']at z;exact awb z
  |ok d=>
   rw[hf']at z;intro u H' e r;cases d with
   |int k=>
    cases r;exact⟨i,k,rfl,rfl,z _ H' g (Gr.ex e) ((I.ex e).set (.int _))⟩
   |_=>exact awb z
 .exact awb z
def FE(aj:aM)(X:Cx)(W:WX)(e:Expr)(f:IF):Prop:=PE X e (tFr X.K aj W f)
def zJ(j:Nat)(f:IF):SF:=λM Z=>((f M Z).at M).then Z λxs M'=>.next (Z.set j (some (.mut xs))) M'
def ahv{j:Nat}{f:IF}(D:Ends)(σ:L2.St)(H:Hp)(h:tS X.K aj W q (zJ j f) D σ H):tAsg (tFr X.K aj W f) (gName j) D σ H:=by
 let⟨g,Z,M,I,z⟩:=h
 refine⟨g,Z,M,I,?_⟩;unfold zJ at z;cases hf:f M Z with
 |exc x=>rw[hf]at z;exact λH' c dd e r=>z σ H' g c dd (Gr.ex e) (I.ex e) r.fr
 |bad=>rw[hf]at z;exact awb z
 |ok xs=>
  rw[hf]at z;intro l us H' n e hl r;have gr:Gr true g (g.add l) H H':=Gh.zN n e;refine z _ H' (g.add l) ?_ (I.alx n e hl r);cases q with
  |true=>exact gr
  |false=>exact gr.loud
def ahA{j:Nat}{x:Str}{f:IF}{pos':Pos}(hN:X.N.Nodup)(hi:X.N[j]?=some x)(hx:Loc X.env.scope x)(hf:X.fn x=true\/X.env.scope.names.lookup x=some .local)(he:FE aj X W e f)(hs:swapsWith e (some (.Name x pos')) pos.line X.env=pure false):SE aj X W q (.Assign [.Name x pos'] e pos) (zJ j f):=
 PS.weak (ps_set hN hi hx he hs hf) λD σ H h=>ahv D σ H h
def Nh(f:QA):IF:=λM Z=>(f M Z).bind λxs=>Out.when (decide (xs.length<=100000)) (.ok xs)
def aiP{K:auT}{g:Gh}{H:Hp}{l:Addr}{vs:List V}{ds:List Dat}(k:Kd g H)(n:H l=none)(r:aF K g H vs ds){o:HO}:aF K (g.add l) (upd H l o) vs ds:=r.gr (Gh.zN n (Ex.new n)) k
def anE{es:List Expr}{fr:QA}(h:Ja aj X W es fr):FE aj X W (.List es pos) (Nh fr):=
 PE.weak (pe_lst h) λσ H Q ⟨g,Z,M,I,h⟩=>by
  refine R4.go I h.bnd λds vs H1 h1 e1 r1=>?_;let⟨hz,h1⟩:=h1.qR
  have hl:vs.length<=100000:=by rw[r1.length];exact awd hz
  exact⟨sz_of hl,λp np=>h1 p vs _ (Ge e1 p np) (e1.trans (Ex.new np)) awi (aiP (I.kd.ex e1) np r1)⟩
def aau:Dat->Out (List Dat)
 |.list ds=>.ok ds
 |.tuple ds=>.ok ds
 |_=>.bad
def aif(f:QF):IF:=λM Z=>(f M Z).bind aau
def baseOk:Expr->Bool
 |.Call (.Name _ _) _ _ _=>false
 |_=>true
def mJ{o:Expr}{m:Str}{env:PySem.Env}{w:Sem Value}(h:baseOk o=true):attributeBase o m env w=w:=by
 cases o with
 | Call f as ks p=>cases f<;>first | rfl | cases h
 |_=>rfl
theorem Ud{env:PySem.Env}{pos:Pos}:∀(es:List Expr),es.all nst=true->(backTo pos (starEach es env)).all (λx=>!x.1)=true
 |[],_=>#[rfl]
 |a::es,h=>by
  rw[avw,auU]at h;rw[bZ h.1];have ih:=Ud (env:=env) (pos:=pos) es h.2;unfold backTo at ih |-
  rw[List.map_cons,avw,ih];rfl
def few{env:PySem.Env}{pos:Pos}{es:List Expr}(h:es.all nst=true)(hl:es.length<30):((backTo pos (starEach es env)).all (λx=>!x.1)&&(backToKw pos (keywordEach [] env)).all (λx=>x.1.isSome)&&decide (es.length+([]:List Keyword).length+(if ([]:List Keyword).isEmpty then 0 else 1)<30))=true:=by rw[Ud es h];have:(backToKw pos (keywordEach [] env)).all (λx=>x.1.isSome)=true:=#[rfl];rw[this];simpa using hl
def Jq(j:Nat)(f:QF):SF:=λM Z=>match Z[j]? with
 |some (some (.mut xs))=>((f M Z).at M).then Z λd M'=>if xs.length<100000 then .next (Z.set j (some (.mut (xs++[d])))) M' else .bad
 |_=>.bad
def amG{j:Nat}{x:Str}{f:QF}{p apos:Pos}{epos:Pos}(hN:X.N[j]?=some x)(hv:Vis X.env.scope x)(hd:(x==("__debug__" : Str))=false)(hcd:(x==("__classdict__" : Str))=false)(he:QE aj X W e f)(hs:nst e=true)
  (hl:(apos.endLine==pos.line)=true):SE aj X W q (.Expr (.Call (.Attribute (.Name x p) "append" apos) [e] [] pos) epos) (Jq j f):=by
 have h0:=pe_var (X:=X) (pos:=p) hN hv hd hcd;have h1:=pa_cons he pa_nil (bZ hs []);have key:=pe_bm (X:=X) (cpos:=pos) (apos:=apos) PySem.F.plainAttrs_list PySem.F.slot_list_append PySem.F.type_list_append mt_append h0 h1 (mJ rfl) (few (by simp[hs]) (by simp)) hl (bZ hs []) #[rfl];refine PS.weak (ps_expr key #[rfl]) λD σ H ⟨g,Z,M,I,z⟩=>?_;unfold Jq at z;split at z
 .next xs hj=>
  let⟨l,us,e1,e2,e3,e4⟩:=I.own j xs hj
  refine⟨.ref l,e1,.inl ⟨rfl,us,sq_of e2⟩,⟨g,Z,M,I,?_⟩⟩;cases hf:f M Z with
  |exc x=>rw[hf]at z;exact λH' c dd e r=>z σ H' g c dd (Gr.ex e) (I.ex e) r.fr
  |bad=>rw[hf]at z;exact awb z
  |ok d=>
   rw[hf]at z;intro v H' e r;have z:(if xs.length<100000 then uO.next (Z.set j (some (.mut (xs++[d])))) M else .bad).sat (sN X.K aj q D.nx g H) (sR X.K aj q D.rt g H) (sN X.K aj q D.bk g H) (sN X.K aj q D.ct g H) (sX X.K aj W q g H):=z;split at z
   .next hlen=>
    have I1:=I.ex e;let⟨l',us',f1,f2,f3,f4,f5⟩:=I1.change (ys:=xs++[d]) hj
    rw[e1]at f1;cases f1;rw[e _ _ e2]at f2;cases f2;refine⟨l,us,v,rfl,rfl,e _ _ e2,sz_lt (by rw[e4.length];exact hlen),?_⟩;exact z _ _ g ((Gr.ex e).trans (Gr.upd I1.kd (e _ _ e2) (.inr f3))) (f5 _ (f4.append (.cons r .nil)))
   .exact awb z
 .exact awb z
def Wt(j:Nat)(fi f:QF):SF:=λM Z=>match Z[j]? with
 |some (some (.mut xs))=>((f M Z).at M).then Z λd M'=>((fi M' Z).at M').then Z λi M2=>match i with
  |.int k=>match ixN xs.length k with
   |some n=>.next (Z.set j (some (.mut (xs.set n d)))) M2
   |none=>.bad
  |_=>.bad
 |_=>.bad
def aj1{j:Nat}{x:Str}{i:Expr}{f fi:QF}{p spos:Pos}(hN:X.N[j]?=some x)(hv:Vis X.env.scope x)(hd:(x==("__debug__" : Str))=false)(hcd:(x==("__classdict__" : Str))=false)(he:QE aj X W e f)(hi:QE aj X W i fi)
  (ha:∀v,assign (.Subscript (.Name x p) i spos) X.env v=(do
   let ov <-holding [v] (eval (.Name x p) X.env)
   let iv <-holding [v,ov] (eval i X.env)
   standAt spos
   holding [v,ov,iv] (setItem ov iv v)
   release [v,ov,iv] []))
  (hs:swapsWithSole [.Subscript (.Name x p) i spos] e pos.line X.env=pure false) (h1:(assignEach [.Subscript (.Name x p) i spos] X.env).map (·.2)=[assign (.Subscript (.Name x p) i spos) X.env]):SE aj X W q (.Assign [.Subscript (.Name x p) i spos] e pos) (Wt j fi f):=by
 have h0:=pe_var (X:=X) (pos:=p) hN hv hd hcd;refine PS.weak (ps_asg he (pg_sub h0 hi set_list ha) hs #[rfl] h1) λD σ H ⟨g,Z,M,I,z⟩=>?_;unfold Wt at z;split at z
 .next xs hj=>
  refine⟨g,Z,M,I,?_⟩;cases hf:f M Z with
  |exc x=>rw[hf]at z;exact λH' c dd e r=>z σ H' g c dd (Gr.ex e) (I.ex e) r.fr
  |bad=>rw[hf]at z;exact awb z
  |ok d=>
   rw[hf]at z;intro v H1 e1 r1;have I1:=I.ex e1;let⟨l,us,f1,f2,f3,f4⟩:=I1.own j xs hj
   refine⟨.ref l,f1,⟨g,Z,M,I1,?_⟩⟩;cases hfi:fi M Z with
   |exc x=>
    simp![Out.aeC,aZ.Xc,hfi,Out.anF,aZ.aiY]at z;exact λH' c dd e r=>z σ H' g c dd ((Gr.ex e1).trans (Gr.ex e)) (I1.ex e) r.fr
   |bad=>
    simp![Out.aeC,aZ.Xc,hfi,Out.amL,aZ.ahO]at z;exact awb z
   |ok k=>
    simp![Out.aeC,aZ.Xc,hfi]at z;intro w H2 e2 r2;cases k with
    |int k=>
     simp only at z;split at z
     .next n hn=>
      have I2:=I1.ex e2;let⟨l',us',k1,k2,k3,k4,k5⟩:=I2.change (ys:=xs.set n d) hj
      rw[f1]at k1;cases k1;rw[e2 _ _ f2]at k2;cases k2;cases r2;refine⟨l,us,k,n,rfl,rfl,e2 _ _ f2,by rw[f4.length];exact hn,?_⟩;exact z _ _ g (((Gr.ex e1).trans (Gr.ex e2)).trans (Gr.upd I2.kd (e2 _ _ f2) (.inr k3))) (k5 _ (k4.set (r1.ex e2 I1.kd) n))
     .exact awb z
    |_=>exact awb z
 .exact awb z
end
structure Gc(g g':Gh)(H H':Hp):Prop where
 keep:∀a o,H a=some o->¬g.W a->H' a=some o
 dom:∀a,H' a=none->H a=none
 tbl:∃more,g'.tbl=g.tbl++more
 W:∀a,g.W a->g'.W a
 nW:∀a,g'.W a->g.W a\/H a=none
 Lc:g'.Lc=g.Lc
 Lo:g'.Lo=g.Lo
def Ze(K:auT)(aj:aM)(n:Nat)(m:Mo->List Dat->Out Dat):Sp:=λvs H Q E=>vs.length=n/\∃g M ds,Kd g H/\ig K aj g H M/\aF K g H vs ds/\
 (m M ds).sat (λd=>∀v H',Ex H H'->Rep K g H' v d->Q v H') λx=>∀H' c dd,Ex H H'->tR K aj g H' x c dd->E c dd H'
def Nv(K:auT)(aj:aM)(n:Nat)(m:Mo->List Dat->aZ Dat):Sp:=λvs H Q E=>vs.length=n/\∃g M ds,Kd g H/\ig K aj g H M/\aF K g H vs ds/\
 (m M ds).sat (λd M'=>∀v H' g',Gc g g' H H'->Kd g' H'->ig K aj g' H' M'->Rep K g' H' v d->Q v H') λx M'=>∀H' g' c dd,Gc g g' H H'->Kd g' H'->ig K aj g' H' M'->tR K aj g' H' x c dd->E c dd H'
section
variable{K:auT}{aj:aM}{W:WX}{g g':Gh}{H H':Hp}{σ:L2.St}{Z:Env}{M M':Mo}
def Gc.gr(r:Gc g g' H H'):Gr false g g' H H':=⟨λa o h n _=>r.keep a o h n,(λz=>nomatch z),r.dom,r.tbl,r.W,r.nW,(λz=>nomatch z),r.Lc,λa h=>by rw[r.Lo];exact h,λa h=>by rw[r.Lo]at h;exact .inl h⟩
def SInv.call(r:Gc g g' H H')(k':Kd g' H')(w':ig K aj g' H' M')(I:SInv K aj σ H g Z M):SInv K aj σ H' g' Z M' where
 kd:=k'
 wok:=w'
 len:=I.len
 dat:=λi d h=>by
  let⟨v,h1,h2⟩:=I.dat i d h
  exact⟨v,h1,h2.gr r.gr I.kd⟩
 own:=λi xs h=>by
  let⟨l,us,h1,h2,h3,h4⟩:=I.own i xs h
  exact⟨l,us,h1,r.keep _ _ h2 (I.kd.lo l h3),by rw[r.Lo];exact h3,h4.gr r.gr I.kd⟩
 sep:=I.sep
def Gh.in(g:Gh):Gh:={ g with Lc:=λa=>g.Lc a\/g.Lo a,Lo:=λ_=>False }
def abL(g:Gh)(a:Addr):g.in.A a↔g.A a:=by
 constructor
 .rintro(z|(z|z)|z)
  .exact .inl z
  .exact .inr (.inl z)
  .exact .inr (.inr z)
  .exact awb z
 .rintro(z|z|z)
  .exact .inl z
  .exact .inr (.inl (.inl z))
  .exact .inr (.inl (.inr z))
theorem Kd.in(k:Kd g H):Kd g.in H:=⟨λa z=>k.ob a ((abL g a).mp z),λa z=>awb z,λa z=>⟨z.elim (λz=>(k.lc a z).1) (λz=>k.lo a z),λy=>y⟩⟩
def ini(n:Nat)(ds:List Dat):Env:=ds.map (λd=>#[d])++List.replicate (n-ds.length) none
def ac5{N:List Str}{vs:List V}{ds:List Dat}(k:Kd g H)(w:ig K aj g H M)(r:aF K g H vs ds):SInv K aj (start N vs) H g (ini N.length ds) M where
 kd:=k
 wok:=w
 len:=by unfold L2.start ini;rw[avz,avz,au3,au3,List.length_replicate,List.length_replicate,r.length]
 dat:=λi d h=>by
  unfold ini at h;unfold L2.start;by_cases hi:i<ds.length
  .rw[au9 (by rw[au3];exact hi),ava]at h;cases hd:ds[i]? with
   |none=>rw[hd]at h;cases h
   |some d'=>
    rw[hd]at h;cases h;let⟨v,h1,h2⟩:=r.get hd
    refine⟨v,?_,h2⟩;rw[au9 (by rw[au3,r.length];exact hi),ava,h1];rfl
  .rw[avf (by rw[au3];omega)]at h;rw[List.getElem?_replicate]at h
   left<;>cases h
 own:=λi xs h=>by
  unfold ini at h;by_cases hi:i<ds.length
  .rw[au9 (by rw[au3];exact hi),ava]at h;cases hd:ds[i]? with
   |none=>rw[hd]at h;cases h
   |some d'=>rw[hd]at h;cases h
  .rw[avf (by rw[au3];omega)]at h;rw[List.getElem?_replicate]at h
   left<;>cases h
 sep:=λi j xs ys l ne h=>by
  unfold ini at h;by_cases hi:i<ds.length
  .rw[au9 (by rw[au3];exact hi),ava]at h;cases hd:ds[i]? with
   |none=>rw[hd]at h;cases h
   |some d'=>rw[hd]at h;cases h
  .rw[avf (by rw[au3];omega)]at h;rw[List.getElem?_replicate]at h
   left<;>cases h
end
def mQ(n:Nat)(body:SF):Mo->List Dat->Out Dat:=λM ds=>match body M (ini n ds) with
 |.ret d _=>.ok d
 |.next _ _=>.ok .none
 |.exc x _ _=>.exc x
 |_=>.bad
def mG(n:Nat)(body:SF):Mo->List Dat->aZ Dat:=λM ds=>match body M (ini n ds) with
 |.ret d M'=>.ok d M'
 |.next _ M'=>.ok .none M'
 |.exc x _ M'=>.exc x M'
 |_=>.bad
section
variable{P:Program}{w:World}{K:auT}{mg:Str->Option Value}{base:Heap}{aj:aM}
def ahN(E:XK):WX:=λc d _ H=>E c d H
def Rep.same{g g':Gh}{H:Hp}{v:V}{d:Dat}(e:g'.tbl=g.tbl)(n:∀a,g'.A a↔g.A a)(h:Rep K g H v d):Rep K g' H v d:=h.less e λa z=>(n a).mp z
def aeQ{g g':Gh}{H H':Hp}(r:Gr true g.in g' H H'):Ex H H':=λa o h=>by
 by_cases w:g.W a
 .exact r.keepW rfl a o h w
 .exact r.keep a o h w λz=>z
def amf{q:Bool}{g g':Gh}{H H':Hp}(r:Gr q g.in g' H H')(a:Addr):g'.fr.A a↔(g'.W a\/g.Lc a\/g.Lo a):=by
 have hl:g'.Lc=g.in.Lc:=r.Lc;constructor
 .rintro(z|z|z)
  .exact .inl z
  .have z:g'.Lc a:=z;rw[hl]at z;exact .inr z
  .exact awb z
 .rintro(z|z)
  .exact .inl z
  .refine .inr (.inl ?_);show g'.Lc a;rw[hl];exact z
def Fun.okC{C:CXT}{x qual:Str}{st:Stmt}{f:Addr}{fd:FuncData}{N ps:List Str}{k:Nat}{sp:Sp}(F:Fun K x qual st f fd)(S:FnScope N ps (defScope st))(len:∀vs H Q E,sp vs H Q E->vs.length=ps.length)
  (hbody:∀(cdv:Value) (A:Around) (outer:List PySem.Env) (s:Shared) (H:Hp) (vs:List V) (Q:VK) (E:XK),Room k (A.deeper (envOfC qual (defScope st) s.heap.objs.size f cdv))->sp vs H Q E->
   ∃t,PSs (cxOf C P w K mg base N qual (defScope st) f cdv A outer s H E) (defBody st) t/\t { nx:=λ_ H'=>Q .non H',rt:=Q } (start N vs) H):FnOk P w K mg base C (k+1) f fd ps sp:=by
 let⟨oc,od,kV,doc,pm,an,cdv,ct,osl,rfl,lk,hcd⟩:=F.ex
 exact fn_of lk hcd S len λA outer s H vs Q E hr hsp=>hbody cdv A outer s H vs Q E hr hsp
def ap8{C:CXT}{x qual:Str}{st:Stmt}{f:Addr}{fd:FuncData}{N ps:List Str}{k:Nat}{body:SF}(F:Fun K x qual st f fd)(S:FnScope N ps (defScope st))
  (hb:∀(cdv:Value) (A:Around) (outer:List PySem.Env) (s:Shared) (H:Hp) (E:XK),Room k (A.deeper (envOfC qual (defScope st) s.heap.objs.size f cdv))->Hh aj (cxOf C P w K mg base N qual (defScope st) f cdv A outer s H E) (ahN E) true (defBody st) body) :
  FnOk P w K mg base C (k+1) f fd ps (Ze K aj ps.length (mQ N.length body)):=by
 refine Fun.okC F S (λvs H Q E h=>h.1) (λcdv A outer s H vs Q E hr h=>⟨_,hb cdv A outer s H E hr,?_⟩);let⟨hl,g,M,ds,kd,wk,rs,h⟩:=h
 have wk':ig K aj g.in H M:=ig.less (g:=g) (g':=g.in) rfl rfl (λa z=>(abL g a).mp z) wk;refine⟨g.in,ini N.length ds,M,ac5 kd.in wk' (aF.less (g:=g) (g':=g.in) rfl (λa z=>(abL g a).mp z) rs),?_⟩;have back:∀{g':Gh} {H':Hp},Gr true g.in g' H H'->∀a,g.A a↔g'.fr.A a:=λ{g' H'} r a=>by
  rw[amf r a];have e:=(r.qg rfl);have ew:g'.W a↔g.W a:=by unfold Gh.W;rw[e.1,e.2];rfl
  unfold Gh.A;rw[ew]
 unfold mQ at h;cases hf:body M (ini N.length ds) with
 |next Z' M'=>
  rw[hf]at h;exact λσ' H' g' r I'=>h _ H' (aeQ r) .non
 |ret d M'=>
  rw[hf]at h;exact λv H' g' r k' w' rv=>h v H' (aeQ r) (Rep.same (g:=g'.fr) (g':=g) (r.qg rfl).1.symm (back r) rv)
 |exc x Z' M'=>
  rw[hf]at h;exact λσ' H' g' c dd r I' rx=>h H' c dd (aeQ r) (tR.less (g:=g'.fr) (g':=g) (r.qg rfl).1.symm (λa z=>(back r a).mp z) rx)
 |brk Z' M'=>rw[hf]at h;exact awb h
 |cont Z' M'=>rw[hf]at h;exact awb h
 |bad=>rw[hf]at h;exact awb h
def aqo{x qual:Str}{st:Stmt}{f:Addr}{fd:FuncData}{N ps:List Str}{k:Nat}{body:SF}(F:Fun K x qual st f fd)(S:FnScope N ps (defScope st))
  (hb:∀(cdv:Value) (A:Around) (outer:List PySem.Env) (s:Shared) (H:Hp) (E:XK),Room k (A.deeper (envOfC qual (defScope st) s.heap.objs.size f cdv))->Hh aj (cxOf (L2.CX P w) P w K mg base N qual (defScope st) f cdv A outer s H E) (ahN E) false (defBody st) body) :
  FnOk P w K mg base (L2.CX P w) (k+1) f fd ps (Nv K aj ps.length (mG N.length body)):=by
 refine F.okX S (λvs H Q E h=>h.1) (λcdv A outer s H vs Q E hr h=>⟨_,hb cdv A outer s H E hr,?_⟩);let⟨hl,g,M,ds,kd,wk,rs,h⟩:=h
 have wk':ig K aj g.in H M:=ig.less (g:=g) (g':=g.in) rfl rfl (λa z=>(abL g a).mp z) wk;refine⟨g.in,ini N.length ds,M,ac5 kd.in wk' (aF.less (g:=g) (g':=g.in) rfl (λa z=>(abL g a).mp z) rs),?_⟩
 let gb:Gh->Gh:=λg'=>{ tbl:=g'.tbl,ow:=g'.ow,Lc:=g.Lc,Lo:=g.Lo }
 have gc:∀{g':Gh} {H':Hp},Gr false g.in g' H H'->Gc g (gb g') H H':=λ{g' H'} r=>⟨λa o h n=>r.keep a o h n λz=>z,r.dom,r.tbl,r.W,r.nW,rfl,rfl⟩;have eA:∀{g':Gh} {H':Hp},Gr false g.in g' H H'->∀a,(gb g').A a↔g'.fr.A a:=λ{g' H'} r a=>by
  rw[amf r a];exact Iff.rfl
 have kk:∀{g':Gh} {H':Hp},Gr false g.in g' H H'->Kd g'.fr H'->Kd (gb g') H':=λ{g' H'} r k'=>by
  have nw:∀a,(g.Lc a\/g.Lo a)->¬g'.W a:=λa z y=>by
   have:g'.fr.Lc a:=by show g'.Lc a;rw[show g'.Lc=g.in.Lc from r.Lc];exact z
   exact(k'.lc a this).1 y
  exact⟨λa z=>k'.ob a ((eA r a).mp z),λa z=>nw a (.inr z),λa z=>⟨nw a (.inl z),(kd.lc a z).2⟩⟩
 unfold mG at h;cases hf:body M (ini N.length ds) with
 |next Z' M'=>
  rw[hf]at h;exact λσ' H' g' r I'=>h _ H' (gb g') (gc r) (kk r I'.kd.fr) (ig.less (g:=g'.fr) (g':=gb g') rfl rfl (λa z=>(eA r a).mp z) I'.wok.fr) .non
 |ret d M'=>
  rw[hf]at h;exact λv H' g' r k' w' rv=>h v H' (gb g') (gc r) (kk r k') (ig.less (g:=g'.fr) (g':=gb g') rfl rfl (λa z=>(eA r a).mp z) w') (Rep.same (g:=g'.fr) (g':=gb g') rfl (eA r) rv)
 |exc x Z' M'=>
  rw[hf]at h;exact λσ' H' g' c dd r I' rx=>h H' (gb g') c dd (gc r) (kk r I'.kd.fr) (ig.less (g:=g'.fr) (g':=gb g') rfl rfl (λa z=>(eA r a).mp z) I'.wok.fr) (tR.less (g:=g'.fr) (g':=gb g') rfl (λa z=>(eA r a).mp z) rx)
 |brk Z' M'=>rw[hf]at h;exact awb h
 |cont Z' M'=>rw[hf]at h;exact awb h
 |bad=>rw[hf]at h;exact awb h
end
def aN(m:Mo->List Dat->Out Dat)(as:QA):QF:=λM Z=>(as M Z).bind λds=>m M ds
section
variable{X:Cx}{aj:aM}{W:WX}{q:Bool}{a b e:Expr}{es:List Expr}{pos p:Pos}{x:Str}{k:Nat}{f:Addr}{fd:FuncData}{ps:List Str}
def akR{C:CXT}{m:Mo->List Dat->Out Dat}{as:QA}(tk:∀σ,PassesAt C X σ (WE W σ))(F:FnOk X.prog X.w X.K X.mg X.base C k f fd ps (Ze X.K aj ps.length m))(hr:Room k X.A)(hg:Gl X x)(hm:X.mg x=some (.ref f))(hk:PySem.W.keepIn X.K (.ref f)=true)(hb:Binds X.K fd ps [])
  (ha:Ja aj X W (e::es) as) (hl:(e::es).length=ps.length) (hd:(x==("__debug__" : Str))=false) (hs:(e::es).all nst=true) (hn:∀M Z ds,as M Z=.ok ds->ds.length=(e::es).length):QE aj X W (.Call (.Name x p) (e::es) [] pos) (aN m as):=by
 have hs':=hs;rw[avw,auU]at hs';refine PE.weak (pe_callS (E:=λσ=>WE W σ) F hr hg hm hk hb tk ha hd (bZ hs'.1 es) (star_any es hs'.2)) λσ H Q ⟨g,Z,M,I,h⟩=>?_;refine⟨g,Z,M,I,?_⟩;have h:=h.bnd;cases has:as M Z with
 |exc x=>rw[has]at h;exact h
 |bad=>rw[has]at h;exact h
 |ok ds=>
  rw[has]at h;have h:(m M ds).sat (λd=>∀v H',Ex H H'->Rep X.K g H' v d->Q v H') (sG X.K aj W g H σ):=h;intro vs H1 e1 r1;refine⟨by rw[r1.length,hn M Z ds has];exact hl,g,M,ds,I.kd.ex e1,I.wok.ex e1 I.kd,r1,h.mono (λd k v H' e' r'=>k v H' (e1.trans e') r') λx k H' c dd e' r'=>k H' c dd (e1.trans e') r'⟩
end
def aiW{n:Nat}(h:n<=16001):n<=sizeLine:=ave h #[()]
def apJ{prog:Program}{w:World}{A:Around}{E:Value->Shared->Prop}{s:Shared}{l:Addr}{v0:Value}{vs:List Value}{Q:List Value->Shared->Prop}(hh:A.handled=none)(hl:s.heap.IsList l (v0::vs).toArray\/IsTup s.heap l (v0::vs).toArray)(hz:vs.length<=16000)
  (h:∀(h₂:Heap) (tk:Nat),(∀b o,s.heap.get? b=some o->h₂.get? b=some o)->Q [v0,.ref h₂.objs.size] { s with heap:=h₂.push { cls:=.type "list",data:=.seq vs.toArray },toks:=tk }):wpAny (model prog w) A (unpackItems (.ref l) 2 (some 1)) Q E s:=by
 have hll:l<s.heap.objs.size:=by rcases hl with⟨o,ho,_⟩|⟨o,ho,_⟩<;>exact Heap.lt_size ho
 have hlt:l≠s.heap.objs.size:=avq hll;have hsz:(v0::vs).toArray.size=vs.length+1:=by simp
 have hb:(v0::vs).toArray.size<=sizeLine:=aiW (by rw[hsz];omega);have hd:(v0::vs).toArray.toList.drop 1=vs:=by simp
 have ht:((v0::vs).toArray.toList.drop 0).take 1=[v0]:=by simp
 have fin:∀(h₂:Heap) (tk:Nat),(∀b o,b≠s.heap.objs.size->s.heap.get? b=some o->h₂.get? b=some o)->wpAny (model prog w) A (newList vs >>= λd=>pure ([v0]++[d]++[])) Q E { s with heap:=h₂,toks:=tk }:=λh₂ tk k=>by
  refine awe (wpAny_newObj_type (awf ?_) (aiW (by simp;omega)));exact h h₂ tk λb o e=>k b o (avq (Heap.lt_size e)) e
 unfold unpackItems;refine awe ?_;unfold notIterableAtAll;rcases hl with hl|hl
 .refine awe (wpAny_specialOf hl.typeIs slot_list_iter.lookup (awf ?_));simp![avr,if_false];refine awe (wpAny_holding (wpAny_pyIter_list hl ?_));refine awe (wpAny_holding (PySem.W.kun_draw hlt 1 0 _ _ ⟨_,Heap.get?_push_size _ rfl,rfl,rfl⟩ (hl.push _) (by rw[hsz];omega) λh₁ i1 b1=>?_));have hl₁:=(hl.push _).extBut b1.extBut hlt;let⟨oi,hoi,_⟩:=id i1
  let⟨ol,hol,_⟩:=id hl₁
  rw[ht];refine awe (wpAny_holding (PySem.W.kun_collect (s:={ s with heap:=h₁ }) (T:="list_iterator") (.inr (.inr (.inl rfl))) (Walks.list (A:=A.in1) hh s.heap.objs.size l hlt (v0::vs).toArray) (λj u st=>st.1.typeIs) (k:=1) (by rw[hsz];omega) ⟨i1,hl₁⟩ (Heap.lt_size hoi) (Heap.lt_size hol) (λh₂ tk hk=>?_) hb))
  rw[hd];show wpAny _ _ (if vs.length<0 then _ else newList (vs.take (vs.length-0)) >>= λd=>pure ([v0]++[d]++vs.drop (vs.length-0))) _ _ _;rw[awh (Nat.not_lt_zero _),Nat.sub_zero,List.take_length,avB];exact fin h₂ tk λb o ne e=>hk b o ne (b1.extBut b o ne (Heap.get?_push_of_some _ e))
 .refine awe (wpAny_specialOf hl.typeIs slot_tuple_iter.lookup (awf ?_));simp![avr,if_false];refine awe (wpAny_holding (iter_tuple hl ?_));refine awe (wpAny_holding (draw_tuple hlt 1 0 _ _ ⟨_,Heap.get?_push_size _ rfl,rfl,rfl⟩ (hl.push _) (by rw[hsz];omega) λh₁ i1 b1=>?_));have hl₁:IsTup h₁ l (v0::vs).toArray:=(hl.push _).extBut b1.extBut hlt;let⟨oi,hoi,_⟩:=id i1
  let⟨ol,hol,_⟩:=id hl₁
  rw[ht];refine awe (wpAny_holding (PySem.W.kun_collect (s:={ s with heap:=h₁ }) (T:="tuple_iterator") (.inr (.inr (.inr rfl))) (Walks.tuple (A:=A.in1) hh s.heap.objs.size l hlt (v0::vs).toArray) (λj u st=>st.1.typeIs) (k:=1) (by rw[hsz];omega) ⟨i1,hl₁⟩ (Heap.lt_size hoi) (Heap.lt_size hol) (λh₂ tk hk=>?_) hb))
  rw[hd];show wpAny _ _ (if vs.length<0 then _ else newList (vs.take (vs.length-0)) >>= λd=>pure ([v0]++[d]++vs.drop (vs.length-0))) _ _ _;rw[awh (Nat.not_lt_zero _),Nat.sub_zero,List.take_length,avB];exact fin h₂ tk λb o ne e=>hk b o ne (b1.extBut b o ne (Heap.get?_push_of_some _ e))
def ajs(K:auT)(i j:Nat):TG:=λv σ H Q=>∃a v0 us,v=.ref a/\(SqL K H a (v0::us)\/SqT K H a (v0::us))/\us.length<=16000/\∀D,H D=none->Q ((σ.set i (some v0)).set j (some (.ref D))) (upd H D (.lst us))
def Xf(X:Cx)(j:Nat)(x:Str):Prop:=X.N[j]?=some x/\Loc X.env.scope x/\(X.fn x=true\/X.env.scope.names.lookup x=some .local)
def ak5{X:Cx}{i j k:Nat}{x y:Str}{px py ps pos:Pos}(hc:X.calm=true)(hN:X.N.Nodup)(hx:Xf X i x)(hy:Xf X j y):PG X (.Tuple [.Name x px,.Starred (.Name y py) ps] k pos) (ajs X.K i j):=by
 refine⟨λpins s σ H v u Q I r h=>?_⟩;let⟨a,v0,us,rfl,hq,hz,q⟩:=h
 cases r;have e1:assign (.Tuple [.Name x px,.Starred (.Name y py) ps] k pos) X.env (.ref a)=(do standAt pos;unpack (.ref a) (assignEach [.Name x px,.Starred (.Name y py) ps] X.env)):=#[rfl];have e2:assignEach [.Name x px,.Starred (.Name y py) ps] X.env=[(false,assign (.Name x px) X.env),(true,assign (.Name y py) X.env)]:=#[rfl];rw[e1,e2];refine awe (wpAny_standAt ?_);unfold unpack;obtain⟨w0,ws,hlw,rv0,rvs⟩:∃w0 ws,(s.heap.IsList a (w0::ws).toArray\/IsTup s.heap a (w0::ws).toArray)/\RelV v0 w0/\Vals us ws:=by
  rcases hq with hq|hq
  .let⟨its,rv,p,_⟩:=I.list hq
   cases rv with
   |cons r t=>exact⟨_,_,.inl p.isList,r,t⟩
  .let⟨its,rv,p,_⟩:=I.tuple hq
   cases rv with
   |cons r t=>exact⟨_,_,.inr p,r,t⟩
 refine awe (wpAny_holding (apJ (I.ok.hd hc) hlw (by rw[<-rvs.length];exact hz) λh₂ tk hk=>?_));have I2:L2.Inv X pins σ H { s with heap:=h₂,toks:=tk }:=I.kept (t':=tk) hk;have I3:=I2.lnew (t':=tk) rvs (aiW #[]);refine assignInOrder_cons (wpAny_assign_Name (store_ok I3 hN hx.1 hx.2.1 rv0 (λs4 I4=>?_) hx.2.2));refine assignInOrder_cons (wpAny_assign_Name (store_ok I4 hN hy.1 hy.2.1 (v:=.ref h₂.objs.size) rfl (λs5 I5=>assignInOrder_nil ?_) hy.2.2));exact⟨_,_,I5,q _ I2.fresh⟩
section
variable{X:Cx}{aj:aM}{W:WX}{q:Bool}{e:Expr}{pos:Pos}
def aah(i j:Nat)(f:GF):SF:=λM Z=>(f M Z).then Z λd M'=>match d with
 |.list (d0::ds)=>if ds.length<=16000 then .next ((Z.set i #[d0]).set j #[.list ds]) M' else .bad
 |.tuple (d0::ds)=>if ds.length<=16000 then .next ((Z.set i #[d0]).set j #[.list ds]) M' else .bad
 |_=>.bad
def ajP{i j k:Nat}{x y:Str}{px py ps tp:Pos}{f:GF}(hc:X.calm=true)(hN:X.N.Nodup)(hx:Xf X i x)(hy:Xf X j y)(he:GE aj X W q e f)(hs:swapsWithSole [.Tuple [.Name x px,.Starred (.Name y py) ps] k tp] e pos.line X.env=pure false)(hw:swappedStores [.Tuple [.Name x px,.Starred (.Name y py) ps] k tp] e X.env=pure none) :
  SE aj X W q (.Assign [.Tuple [.Name x px,.Starred (.Name y py) ps] k tp] e pos) (aah i j f):=by
 refine PS.weak (ps_asg he (ak5 hc hN hx hy) hs hw #[rfl]) λD σ H ⟨g,Z,M,I,z⟩=>?_;refine tE.go I (dI (σ:=σ) z) λd M' v H' g' kk r I' rv=>?_;have fin:∀{a:Addr} {v0:V} {us:List V} {d0:Dat} {ds:List Dat},v=.ref a->(SqL X.K H' a (v0::us)\/SqT X.K H' a (v0::us))->Rep X.K g' H' v0 d0->aF X.K g' H' us ds->(if ds.length<=16000 then uO.next ((Z.set i #[d0]).set j #[.list ds]) M' else .bad).sat (sN X.K aj q D.nx g H) (sR X.K aj q D.rt g H) (sN X.K aj q D.bk g H) (sN X.K aj q D.ct g H) (sX X.K aj W q g H)->ajs X.K i j v σ H' D.nx:=λ{a v0 us d0 ds} ev hq r0 rs kk=>by
  split at kk
  .next hz=>
   refine⟨a,v0,us,ev,hq,by rw[rs.length];exact hz,λp np=>?_⟩;have e1:=Ex.new (o:=.lst us) np;have I2:=I'.ex e1;refine kk _ _ g' (r.trans (Gr.ex e1)) ((I2.set (r0.ex e1 I'.kd)).set (.lst (.inl ⟨.inl awi,I'.kd.fresh np⟩) (rs.ex e1 I'.kd)))
  .exact awb kk
 split at kk
 .let⟨a,us,ev,s1,t1⟩:=jL rv.weak
  cases t1 with
  |cons r0 rs=>exact fin ev (.inl s1) r0 rs kk
 .let⟨a,us,ev,s1,t1⟩:=mZ rv.weak
  cases t1 with
  |cons r0 rs=>exact fin ev (.inr s1) r0 rs kk
 .exact awb kk
def Wv(i j:Nat)(f:GF):SF:=λM Z=>(f M Z).then Z λd M'=>.next ((Z.set i #[d]).set j #[d]) M'
def akq{i j:Nat}{x y:Str}{px py:Pos}{f:GF}(hN:X.N.Nodup)(hx:Xf X i x)(hy:Xf X j y)(he:GE aj X W q e f)(hw:swappedStores [.Name x px,.Name y py] e X.env=pure none):SE aj X W q (.Assign [.Name x px,.Name y py] e pos) (Wv i j f):=by refine PS.weak (ps_asg2 he (pg_name hN hx.1 hx.2.1 hx.2.2) (pg_name hN hy.1 hy.2.1 hy.2.2) #[rfl] hw) λD σ H ⟨g,Z,M,I,z⟩=>?_;exact tE.go I (dI (σ:=σ) z) λd M' v H' g' kk r I' rv=>kk _ H' g' r ((I'.set rv).set rv)
theorem Ws{pins:List (Addr×Obj)}{H:Hp}{Q:Unit->Shared->Prop}(hN:X.N.Nodup):∀{xs:List Str} {js:List Nat} {vs:List V} {us:List Value} {σ:L2.St} {s:Shared},xs.length=js.length->Vals vs us->us.length=js.length->(∀(n:Nat) (x:Str) (j:Nat),xs[n]?=some x->js[n]?=some j->X.N[j]?=some x/\X.env.scope.names.lookup x=some .local)->L2.Inv X pins σ H s->
  (∀s',L2.Inv X pins (sets σ js vs) H s'->Q () s')->wpAny (model X.prog X.w) X.A (assignInOrder (xs.map λn=>bindName X.env n) us) Q X.xe s
 |[],[],_,[],σ,s,_,.nil,_,_,I,h=>assignInOrder_nil (h s I)
 |[],[],_,_::_,_,_,_,_,e,_,_,_=>nomatch e
 |[],_::_,_,_,_,_,e,_,_,_,_,_=>nomatch e
 |_::_,[],_,_,_,_,e,_,_,_,_,_=>nomatch e
 |x::xs,j::js,_,[],_,_,_,.nil,e,_,_,_=>nomatch e
 |x::xs,j::js,_,_::_,σ,s,e1,.cons r t,e2,hn,I,h=>by
  let⟨h1,h2⟩:=hn 0 x j rfl rfl
  refine assignInOrder_cons (wpAny_bindName (store_ok I hN h1 (.inl h2) r (λs2 I2=>?_) (.inr h2)));exact Ws hN (avK e1) t (avK e2) (λn x j a b=>hn (n+1) x j a b) I2 h
def acv(σ:L2.St):∀(js:List Nat) (vs:List V) (ks:List Nat) (ws:List V),js.length=vs.length->sets σ (js++ks) (vs++ws)=sets (sets σ js vs) ks ws:=by
 intro js
 induction js generalizing σ with
 |nil=>
  intro vs ks ws e;cases vs with
  |nil=>rfl
  |cons v vs=>cases e
 |cons j js ih=>
  intro vs ks ws e;cases vs with
  |nil=>cases e
  |cons v vs=>exact ih (σ.set j (some v)) vs ks ws (avK e)
theorem Yt(j:Nat)(v:V):∀(js:List Nat) (vs:List V) (σ:L2.St),j∉js->(sets σ js vs).set j (some v)=sets (σ.set j (some v)) js vs
 |[],_,_,_=>by unfold sets;rfl
 |_::_,[],_,_=>by unfold sets;rfl
 |k::js,w::vs,σ,h=>by
  show(sets (σ.set k (some w)) js vs).set j (some v)=sets ((σ.set j (some v)).set k (some w)) js vs
  rw[Yt j v js vs _ λz=>h (auY _ z),List.set_comm _ _ (λz=>h (by rw[z];exact auX))]
theorem aa6:∀(js:List Nat) (vs:List V) (σ:L2.St),js.Nodup->js.length=vs.length->sets σ js.reverse vs.reverse=sets σ js vs
 |[],[],_,_,_=>rfl
 |[],_::_,_,_,e=>nomatch e
 |_::_,[],_,_,e=>nomatch e
 |j::js,v::vs,σ,nd,e=>by
  rw[avO]at nd;rw[avX,avX,acv _ _ _ _ _ (by rw[avJ,avJ];exact avK e),aa6 js vs σ nd.2 (avK e)]
  show(sets σ js vs).set j (some v)=sets (σ.set j (some v)) js vs
  exact Yt j v js vs σ nd.1
def vals_rev{vs:List V}{us:List Value}(r:Vals vs us):Vals vs.reverse us.reverse:=by
 induction r with
 |nil=>exact .nil
 |cons h t ih=>
  rw[avX,avX];exact Vals.append ih (.cons h .nil)
def tPN(js:List Nat)(ta:TA):TS:=λD σ H=>ta σ H λvs H1=>vs.length=js.length/\D.nx (sets σ js vs) H1
def ao8{ts es:List Expr}{xs:List Str}{js:List Nat}{ta:TA}{kt k2:Nat}{pt p2:Pos}(hc:X.calm=true)(hN:X.N.Nodup)(hnd:js.Nodup)(hl:xs.length=js.length)(h3:js.length<=3)(hn:∀(n:Nat) (x:Str) (j:Nat),xs[n]?=some x->js[n]?=some j->X.N[j]?=some x/\X.env.scope.names.lookup x=some .local)(ha:PA X es ta)
  (hw:swappedStores [.Tuple ts kt pt] (.Tuple es k2 p2) X.env=pure (some xs)) (hs:swapsWithSole [.Tuple ts kt pt] (.Tuple es k2 p2) pos.line X.env=pure false):PS X (.Assign [.Tuple ts kt pt] (.Tuple es k2 p2) pos) (tPN js ta):=by
 refine⟨λpins s σ H D I h=>?_⟩;rw[exec_Assign_arm];refine awe (wpAny_standAt ?_);rw[hs];refine awe (awf ?_);rw[awh #[()]];refine awe (Tuple_ (thn (ha.run _ pins s σ H _ I h) λus s1 ⟨vs,H1,I1,r1,e1,q1⟩=>?_));have hu:us.length=js.length:=by rw[<-r1.length];exact e1
 refine wpAny_newObj_type ?_ (ave (by simp;omega) (show 3<=sizeLine by decide));have I2:L2.Inv X pins σ H1 { s1 with heap:=s1.heap.push { cls:=.type "tuple",data:=.seq us.toArray } }:=I1.kept (t':=s1.toks) λb o z=>Heap.get?_push_of_some _ z
 rw[hw];refine awe (awf ?_);show wpAny (model X.prog X.w) X.A (do rule "assign.swapped-stores";let items <-unpackItems (.ref s1.heap.objs.size) xs.length none;assignInOrder (xs.reverse.map λn=>bindName X.env n) items.reverse;pure Flow.next) _ _ _
 have hz:us.toArray.size=xs.length:=by rw[av5,hu,hl]
 have hup:=λ{Q:List Value->Shared->Prop} hQ=>unpackItems_tuple (prog:=X.prog) (w:=X.w) (A:=X.A) (E:=X.xe) (s:={ s1 with heap:=s1.heap.push { cls:=.type "tuple",data:=.seq us.toArray } }) (items:=us.toArray) (Q:=Q) (I.ok.hd hc) (IsTup.new s1.heap _) hQ
 rw[hz]at hup;refine awe (wpAny_rule (awe (hup λh' hx'=>?_)));have I3:=I2.kept (h':=h') (t':=s1.toks) λb o z=>hx' b o (avq (Heap.lt_size z)) z;refine awe (Ws hN (js:=js.reverse) (vs:=vs.reverse) (by rw[avJ,avJ];exact hl) (vals_rev r1) (by rw[avJ,avJ];exact hu) (λn x j a b=>?_) I3 λs4 I4=>awf ?_)
 .have n1:=(auZ.mp a).1;have n2:=(auZ.mp b).1;rw[avJ]at n1 n2;rw[List.getElem?_reverse n1]at a;rw[List.getElem?_reverse n2,<-hl]at b;exact hn _ x j a b
 .rw[aa6 js vs σ hnd e1.symm]at I4;exact⟨_,H1,I4,q1⟩
def sPN(js:List Nat)(as:QA):SF:=λM Z=>((as M Z).at M).then Z λds M'=>match rP js ds Z with
 |some Z'=>.next Z' M'
 |none=>.bad
def aoU{ts es:List Expr}{xs:List Str}{js:List Nat}{as:QA}{kt k2:Nat}{pt p2:Pos}(hc:X.calm=true)(hN:X.N.Nodup)(hnd:js.Nodup)(hl:xs.length=js.length)(h3:js.length<=3)(hn:∀(n:Nat) (x:Str) (j:Nat),xs[n]?=some x->js[n]?=some j->X.N[j]?=some x/\X.env.scope.names.lookup x=some .local)(ha:Ja aj X W es as)
  (hw:swappedStores [.Tuple ts kt pt] (.Tuple es k2 p2) X.env=pure (some xs)) (hs:swapsWithSole [.Tuple ts kt pt] (.Tuple es k2 p2) pos.line X.env=pure false):SE aj X W q (.Assign [.Tuple ts kt pt] (.Tuple es k2 p2) pos) (sPN js as):=by
 refine PS.weak (ao8 hc hN hnd hl h3 hn ha hw hs) λD σ H ⟨g,Z,M,I,z⟩=>?_;refine⟨g,Z,M,I,?_⟩;unfold sPN at z;cases hf:as M Z with
 |exc x=>rw[hf]at z;exact λH' c dd e r=>z σ H' g c dd (Gr.ex e) (I.ex e) r.fr
 |bad=>rw[hf]at z;exact awb z
 |ok ds=>
  rw[hf]at z;intro vs H' e r;have z:(match rP js ds Z with
   |some Z'=>uO.next Z' M
   |none=>.bad).sat (sN X.K aj q D.nx g H) (sR X.K aj q D.rt g H) (sN X.K aj q D.bk g H) (sN X.K aj q D.ct g H) (sX X.K aj W q g H):=z
  split at z
  .next Z' e'=>
   let⟨l1,I1⟩:=Lj (I.ex e) r e'
   exact⟨l1,z _ H' g (Gr.ex e) I1⟩
  .exact awb z
def aob{j:Nat}{y:Str}{py:Pos}{elt tg iter:Expr}{cpos:Pos}{scope:Scope}{own:LsS Nat}{it:IF}{tgf:dY}{js:List Nat}{tt:QT}{te:QF}{ifs:List Expr}(hc:X.calm=true)(hN:X.N.Nodup)(hy:X.N[j]?=some y)(hyl:X.env.scope.names.lookup y=some .local)
  (hsw:swapsWith (.ListComp elt [⟨tg,iter,ifs,0⟩] scope cpos) (some (.Name y py)) pos.line X.env=pure true) (hi:QI aj X W false tg iter it) (ok:blkC X.N X.env.scope scope own=true) (hj:∀j∈js,j∈own.map (·.2))
  (hg:∀s H C cl fp,QG aj #[[[]]] tg js tgf)
  (ht:∀s H C cl fp,PTs #[[[]]] ifs (jx X.K aj WF tt))
  (he:∀s H C cl fp,QE aj #[[[]]] WF elt te) (hs:∀x,foldedSetIterable iter X.env x=pure x) :
  SE aj X W q (.Assign [.Name y py] (.ListComp elt [⟨tg,iter,ifs,0⟩] scope cpos) pos) (aV (aq j) (gOf (dR it tgf (own.map (·.2)) tt te))):=by
 refine PS.weak (ps_setLc (g:=xJ X.K aj js tgf) (tt:=jx X.K aj WF tt) (te:=tQ X.K aj WF te) hc hN hy hyl hsw hi (blkOk_by ok) (λs H C cl fp=>hg s H C cl fp) ht (λs H C cl fp=>he s H C cl fp) hs) λD σ H ⟨g,Z,M,I,z⟩=>?_;refine ajw hj σ H _ ⟨g,Z,M,I,(Out.jH (dI (σ:=σ) z)).mono (λd kk v H' e r=>?_) λx kk H' c dd e r=>kk H' g c dd (Gr.ex e) (I.ex e) r⟩;exact kk _ H' g (Gr.ex e) ((I.ex e).set r)
end
inductive GV where
 |con (d:Dat)
 |fq (n:Nat) (m:Mo->List Dat->Out Dat)
 |fg (n:Nat) (m:Mo->List Dat->aZ Dat)
 |dic (kvs:List (Str×Dat))
 |exc
 |exi (fs:List Str)
 |cls (n:Nat) (m:Mo->List Dat->aZ Dat)
def GV.soft:GV->Bool
 |.con _=>false
 |.dic _=>false
 |.exc=>false
 |_=>true
inductive MV where
 |q (n:Nat) (m:Mo->List Dat->Out Dat)
 |g (n:Nat) (m:Mo->List Dat->aZ Dat)
def FQ(P:Program)(w:World)(K:auT)(mg:Str->Option Value)(base:Heap)(aj:aM)(k:Nat)(f:Addr)(n:Nat)(m:Mo->List Dat->Out Dat):Prop:=
 ∃(fd:FuncData) (ps:List Str) (j:Nat),j<=k/\ps.length=n/\Binds K fd ps []/\FnOk P w K mg base (L2.CX P w) j f fd ps (Ze K aj ps.length m)
def FG(P:Program)(w:World)(K:auT)(mg:Str->Option Value)(base:Heap)(aj:aM)(k:Nat)(f:Addr)(n:Nat)(m:Mo->List Dat->aZ Dat):Prop:=
 ∃(fd:FuncData) (ps:List Str) (j:Nat),j<=k/\ps.length=n/\Binds K fd ps []/\FnOk P w K mg base (L2.CX P w) j f fd ps (Nv K aj ps.length m)
def j5(K:auT)(aj:aM):Prop:=∀c C f,aj c=some C->f∈aj.fl c->Cls K C/\NoAttr K C f
def Gq(P:Program)(w:World)(K:auT)(mg:Str->Option Value)(base:Heap)(aj:aM)(k:Nat)(c m:Str)(v:MV):Prop:=
 ∃C f,aj c=some C/\Cls K C/\Meth K C m f/\m∉aj.fl c/\match v with
  |.q n mm=>FQ P w K mg base aj k f n mm
  |.g n mm=>FG P w K mg base aj k f n mm
def ahW(C:Addr)(fs:List Str):Sp:=λvs H Q _=>∃(a:Addr) (xs:List V),vs=.ref a::xs/\xs.length=fs.length/\H a=some (exo a C none)/\
 ∀(dx:Addr) (H':Hp),H dx=none->(∀b o,b≠a->H b=some o->H' b=some o)->(∀b,H' b=none->H b=none)->H' a=some (exo a C (some dx))->H' dx=some (exd dx (fs.zip xs).reverse)->Q .non H'
def afl(w:World)(K:auT)(a:Addr)(kvs:LsS Dat):Prop:=∃(es:Array DictEntry) (n:Nat),KDict K w a es n/\(kvs.map (·.1)).Nodup/\
 ∀x:Str,match kvs.lookup x with
  |some d=>∃v u,PySem.W.nsIn K a x=some (some u)/\RelV v u/\∀g H,Rep K g H v d
  |none=>PySem.W.nsIn K a x=some none
def pH(P:Program)(w:World)(K:auT)(mg:Str->Option Value)(base:Heap)(aj:aM)(k:Nat)(x:Str):GV->Prop
 |.con d=>∃v u,mg x=some u/\RelV v u/\(∀g H,Rep K g H v d)/\∀a ds,v=.ref a->d=.tuple ds->∃o,K.lookup a=some o/\o.cls=.type "tuple"/\o.dict=none
 |.fq n m=>∃f,mg x=some (.ref f)/\PySem.W.keepIn K (.ref f)=true/\FQ P w K mg base aj k f n m
 |.fg n m=>∃f,mg x=some (.ref f)/\PySem.W.keepIn K (.ref f)=true/\FG P w K mg base aj k f n m
 |.dic kvs=>∃a,mg x=some (.ref a)/\afl w K a kvs
 |.exc=>∃C,mg x=some (.ref C)/\aj x=some C/\PySem.W.excIn K C He.veBase "ValueError.__new__"=true/\PySem.W.keepIn K (.ref C)=true/\PySem.W.subIn K (.ref C) (.type "BaseException")=some true/\PySem.W.typeIn K (.ref C)=some (.type "type")
 |.exi fs=>∃(C fI:Addr) (fd:FuncData) (ps:List Str),mg x=some (.ref C)/\aj x=some C/\OexC K C/\PySem.W.findIn K (.ref C) "__init__"=some (some (.ref fI))/\PySem.W.typeIn K (.ref fI)=some (.type "function")/\2<=k/\ps.length=fs.length+1/\Binds K fd ps []/\FnOk P w K mg base CX0 1 fI fd ps (ahW C fs)
 |.cls n m=>∃(C f:Addr) (fd:FuncData) (ps:List Str) (j:Nat),mg x=some (.ref C)/\aj x=some C/\Cls K C/\Mk K C f/\j+1<=k/\ps.length=n+1/\Binds K fd ps []/\FnOk P w K mg base (L2.CX P w) j f fd ps (Nv K aj ps.length m)
def aeH(K:auT)(aj:aM)(y:Str)(tk:Str->Option Bool):Prop:=∀x b C,tk x=some b->aj x=some C->∀D,aj y=some D->PySem.W.exmOne K (.ref C) (.ref D)=some b
def putL(f:Str)(x:jF):LsS jF->LsS jF
 |[]=>[(f,x)]
 |(g,y)::r=>if g=f then(g,x)::r else(g,y)::putL f x r
def Inst.put(i:Inst)(f:Str)(x:jF):Inst:=⟨i.cls,putL f x i.fs⟩
theorem LQ(f:Str)(x:jF):∀gs:LsS jF,(putL f x gs).map (·.1)=if f∈gs.map (·.1) then gs.map (·.1) else gs.map (·.1)++[f]
 |[]=>by simp[putL]
 |(g,y)::r=>by
  have ih:=LQ f x r;rw[putL];by_cases e:g=f
  .subst e;simp
  .rw[awh e,List.map_cons,ih];by_cases h:f∈r.map (·.1)
   .rw[awg h,awg (by simp[h])];rfl
   .rw[awh h,awh (by
     rw[List.map_cons,au7]
     rintro(z|z)
     .exact e z.symm
     .exact h z)]
    rfl
def ae7{f:Str}{x:jF}{gs:LsS jF}(h:(gs.map (·.1)).Nodup):((putL f x gs).map (·.1)).Nodup:=by
 rw[LQ];split
 .exact h
 .next n=>
  rw[avI];refine⟨h,by simp,λa ha b hb e=>?_⟩;subst e;rw[au0]at hb;subst hb;exact n ha
theorem Pa{f:Str}{v:V}:∀{fs:LsS V},fs.lookup f=some v->putF f v fs=fs
 |[],h=>nomatch h
 |(g,y)::r,h=>by
  rw[avo]at h;rw[show putF f v ((g,y)::r)=(if g=f then(g,v)::r else(g,y)::putF f v r) from rfl];by_cases e:g=f
  .subst e;simp at h;rw[awg rfl,h]
  .have ne:(f==g)=false:=by simpa using λz=>e z.symm
   rw[ne]at h;rw[awh e,Pa h]
section
variable{K:auT}{aj:aM}{W:WX}{g g':Gh}{H H':Hp}{σ:L2.St}{Z:Env}{M:Mo}{h:Nat}{f:Str}{v:V}{fl:jF}
theorem cD.put(hk:∀f' v' fl',f'≠f->fj K aj g H h f' v' fl'->fj K aj g' H' h f' v' fl')(new:fj K aj g' H' h f v fl):∀{fs:LsS V} {gs:LsS jF},cD K aj g H h fs gs->(gs.map (·.1)).Nodup->cD K aj g' H' h (putF f v fs) (putL f fl gs)
 |_,_,.nil,_=>.cons new .nil
 |_,_,.cons (f:=f') (v:=v') (fl:=fl') (fs:=fs) (gs:=gs) z t,nd=>by
  rw[show putF f v ((f',v')::fs)=(if f'=f then(f',v)::fs else(f',v')::putF f v fs) from rfl,putL];rw[List.map_cons,avO]at nd;by_cases e:f'=f
  .subst e;rw[awg rfl,awg rfl];refine .cons new ?_;have go:∀{fs:LsS V} {gs:LsS jF},cD K aj g H h fs gs->f'∉gs.map (·.1)->cD K aj g' H' h fs gs:=λ{fs gs} t=>by
    induction t with
    |nil=>exact λ_=>.nil
    |cons z _ ih=>
     intro n;rw[List.map_cons,au7,not_or]at n;exact .cons (hk _ _ _ (λq=>n.1 q.symm) z) (ih n.2)
   exact go t nd.1
  .rw[awh e,awh e];exact .cons (hk _ _ _ e z) (cD.put hk new t nd.2)
structure Chg(M:Mo)(g g':Gh)(H H':Hp)(h:Nat)(f:Str):Prop where
 gc:Gc g g' H H'
 kd:Kd g' H'
 tbl:g'.tbl=g.tbl
 ow:∀a p,g.ow a=some p->g'.ow a=some p
 oth:∀a p,g.ow a=some p->p≠(h,f)->H' a=H a
 ins:∀(k:Nat) (a:Addr) (i:Inst),g.tbl[k]?=some a->M[k]?=some i->i.cls≠""->k≠h->H' a=H a
 nt:∀(k:Nat) (a:Addr) (i:Inst),g.tbl[k]?=some a->M[k]?=some i->i.cls≠""->∀p,g'.ow a≠some p
theorem iQ.chg{l:Addr}(r:Gr false g g' H H')(k:Kd g H)(e:H' l=H l):∀{n:Bool} {kvs:List (Dat×Dat)},iQ K aj g H l n kvs->iQ K aj g' H' l n kvs
 |false,_,⟨kv,h1,h2,h3⟩=>⟨kv,e.trans h1,h2,h3.gr r k⟩
 |true,_,⟨o,xs,vs,h1,h2,h3,h4,h5,h6⟩=>⟨o,xs,vs,e.trans h1,h2,h3,h4.gr r k,h5,h6.gr r k⟩
theorem fj.chg(c:Chg M g g' H H' h f)(k:Kd g H){h':Nat}{f':Str}{v':V}(ne:(h',f')≠(h,f)):∀{fl':jF},fj K aj g H h' f' v' fl'->fj K aj g' H' h' f' v' fl'
 |.dat _,z=>Rep.gr c.gc.gr k z
 |.lst _ _,⟨l,us,h1,h2,h3,h4,h5⟩=>⟨l,us,h1,(c.oth l _ h3 ne).trans h2,c.ow l _ h3,h4.gr c.gc.gr k,c.gc.gr.tb h5⟩
 |.dic _ _,⟨l,h1,h2,h3⟩=>⟨l,h1,c.ow l _ h2,h3.chg c.gc.gr k (c.oth l _ h2 ne)⟩
theorem ig.chg(w:ig K aj g H M)(k:Kd g H)(c:Chg M g g' H H' h f){a:Addr}{i:Inst}(ha:g.tbl[h]?=some a)(hi:M[h]?=some i)(hne:i.cls≠"")(hf:f∈aj.fl i.cls){C dx:Addr}{fs:LsS V}(hC:aj i.cls=some C)(R:cD K aj g H h fs i.fs)
  (e':H' a=some (.ins C dx (putF f v fs))) (new:fj K aj g' H' h f v fl):ig K aj g' H' (M.set h (i.put f fl)) where
 len:=by rw[c.tbl,avn];exact w.len
 inj:=by rw[c.tbl];exact w.inj
 ins:=λh' a' i' ha' hi' hc'=>by
  rw[c.tbl]at ha';by_cases z:h'=h
  .subst z;rw[ha]at ha';cases ha';rw[avc (auZ.mp hi).1]at hi';cases hi';exact⟨C,dx,_,hC,e',R.put (λf' v' fl' ne z=>z.chg c k λq=>ne (congrArg Prod.snd q)) new (w.nd _ i hi)⟩
  .rw[au1 (Ne.symm z)]at hi';let⟨C',dx',fs',c1,c2,c3⟩:=w.ins h' a' i' ha' hi' hc'
   refine⟨C',dx',fs',c1,(c.ins h' a' i' ha' hi' hc' z).trans c2,?_⟩;have go:∀{fs:LsS V} {gs:LsS jF},cD K aj g H h' fs gs->cD K aj g' H' h' fs gs:=λ{fs gs} t=>by
    induction t with
    |nil=>exact .nil
    |cons y _ ih=>exact .cons (y.chg c k λq=>z (congrArg Prod.fst q)) ih
   exact go c3
 nd:=λh' i' hi'=>by
  by_cases z:h'=h
  .subst z;rw[avc (auZ.mp hi).1]at hi';cases hi';exact ae7 (w.nd _ i hi)
  .rw[au1 (Ne.symm z)]at hi';exact w.nd h' i' hi'
 fd:=λh' i' hi' f' hf'=>by
  by_cases z:h'=h
  .subst z;rw[avc (auZ.mp hi).1]at hi';cases hi';have hf':f'∈(putL f fl i.fs).map (·.1):=hf';rw[LQ]at hf';split at hf'
   .exact w.fd _ i hi f' hf'
   .rcases au8.mp hf' with y|y
    .exact w.fd _ i hi f' y
    .rw[au0]at y;rw[y];exact hf
  .rw[au1 (Ne.symm z)]at hi';exact w.fd h' i' hi' f' hf'
 tw:=λk' a' i' ha' hi' hc'=>by
  rw[c.tbl]at ha';have:∃i0,M[k']?=some i0/\i0.cls≠"":=by
   by_cases z:k'=h
   .subst z;exact⟨i,hi,hne⟩
   .rw[au1 (Ne.symm z)]at hi';exact⟨i',hi',hc'⟩
  let⟨i0,m1,m2⟩:=this
  cases hz:g'.ow a' with
  |none=>rfl
  |some p=>exact absurd hz (c.nt k' a' i0 ha' m1 m2 p)
 dm:=λh' i' hi' hc'=>by
  by_cases z:h'=h
  .subst z;rw[avc (auZ.mp hi).1]at hi';cases hi';exact absurd hc' hne
  .rw[au1 (Ne.symm z)]at hi';exact w.dm h' i' hi' hc'
 nc:=w.nc
def aoA{a:Addr}(ha:g.tbl[h]?=some a):g.W a:=.inl (au4 ha)
def XS(k:Kd g H)(w:ig K aj g H M){a:Addr}{i:Inst}(ha:g.tbl[h]?=some a)(hi:M[h]?=some i)(hc:i.cls≠""){C dx:Addr}{fs':LsS V}:Chg M g g H (upd H a (.ins C dx fs')) h f where
 gc:=⟨λb o hb n=>by rw[upd_ne (λz=>by subst z;exact n (aoA ha))];exact hb,λb hb=>by
  by_cases z:b=a
  .subst z;rw[awi]at hb;cases hb
  .rw[upd_ne z]at hb;exact hb,⟨[],by simp⟩,λ_ z=>z,λ_ z=>.inl z,rfl,rfl⟩
 kd:=k.upd awa
 tbl:=rfl
 ow:=λ_ _ z=>z
 oth:=λb p hb _=>upd_ne λz=>by
  subst z;rw[w.tw h _ i ha hi hc]at hb;cases hb
 ins:=λj b i' hb _ _ ne=>upd_ne λz=>by
  subst z;exact ne (w.inj _ _ _ hb ha)
 nt:=λj b i' hb hj hcj p z=>by
  rw[w.tw j b i' hb hj hcj]at z;cases z
def Gh.own(g:Gh)(l:Addr)(h:Nat)(f:Str):Gh:={ g with ow:=λb=>if b=l then some (h,f) else g.ow b }
def apB{l a:Addr}(hl:l∈g.tbl):(g.own l h f).W a↔g.W a:=by
 constructor
 .rintro(z|z)
  .exact .inl z
  .by_cases y:a=l
   .subst y;exact .inl hl
   .have z:(if a=l then some (h,f) else g.ow a)≠none:=z;rw[awh y]at z;exact .inr z
 .rintro(z|z)
  .exact .inl z
  .refine .inr ?_
   show(if a=l then some (h,f) else g.ow a)≠none
   split
   .exact λq=>nomatch q
   .exact z
def W0(k:Kd g H)(w:ig K aj g H M){a l:Addr}{n:Nat}{i:Inst}(ha:g.tbl[h]?=some a)(hi:M[h]?=some i)(hc:i.cls≠"")(hl:g.tbl[n]?=some l)(hn:M[n]?=some ⟨"",[]⟩)(nl:g.ow l=none){C dx:Addr}{fs':LsS V}:Chg M g (g.own l h f) H (upd H a (.ins C dx fs')) h f:=by
 have W':∀{b:Addr},(g.own l h f).W b↔g.W b:=λ{b}=>apB (au4 hl);have d:=XS (f:=f) (C:=C) (dx:=dx) (fs':=fs') k w ha hi hc;refine⟨⟨d.gc.keep,d.gc.dom,⟨[],by simp[Gh.own]⟩,λb z=>W'.mpr z,λb z=>.inl (W'.mp z),rfl,rfl⟩,⟨λb z=>d.kd.ob b ?_,λb z y=>d.kd.lo b z (W'.mp y),λb z=>⟨λy=>(d.kd.lc b z).1 (W'.mp y),(d.kd.lc b z).2⟩⟩,rfl,λb p z=>?_,d.oth,d.ins,λj b i' hb hj hcj p z=>?_⟩
 .rcases z with z|z|z
  .exact .inl (W'.mp z)
  .exact .inr (.inl z)
  .exact .inr (.inr z)
 .show(if b=l then some (h,f) else g.ow b)=some p
  rw[awh (λy=>by subst y;rw[nl]at z;cases z)];exact z
 .have z:(if b=l then some (h,f) else g.ow b)=some p:=z;by_cases y:b=l
  .subst y;cases w.inj _ _ _ hb hl;rw[hn]at hj;cases hj;exact hcj rfl
  .rw[awh y,w.tw j b i' hb hj hcj]at z;cases z
def agz(k:Kd g H)(w:ig K aj g H M){l:Addr}{o':HO}(ho:g.ow l=some (h,f))(mo:Jr o'):Chg M g g H (upd H l o') h f where
 gc:=⟨λb u hb n=>by rw[upd_ne (λz=>by subst z;exact n (.inr (by rw[ho];exact λy=>nomatch y)))];exact hb,λb hb=>by
  by_cases z:b=l
  .subst z;rw[awi]at hb;cases hb
  .rw[upd_ne z]at hb;exact hb,⟨[],by simp⟩,λ_ z=>z,λ_ z=>.inl z,rfl,rfl⟩
 kd:=k.upd mo
 tbl:=rfl
 ow:=λ_ _ z=>z
 oth:=λb p hb ne=>upd_ne λz=>by
  subst z;rw[ho]at hb;exact ne (avi hb).symm
 ins:=λj b i' hb hj hcj ne=>upd_ne λz=>by
  subst z;rw[w.tw j _ i' hb hj hcj]at ho;cases ho
 nt:=λj b i' hb hj hcj p z=>by
  rw[w.tw j b i' hb hj hcj]at z;cases z
def cD.len{fs:LsS V}{gs:LsS jF}(t:cD K aj g H h fs gs):fs.length=gs.length:=by
 induction t with
 |nil=>rfl
 |cons _ _ ih=>simp[ih]
end
def Pn(M:Mo)(f:Str):Dat->Option jF
 |.dict [(.none,.int (.ofNat h))]=>(M[h]?).bind λi=>i.fs.lookup f
 |_=>none
def fD(f:Str)(o:QF):QF:=λM Z=>(o M Z).bind λd=>match Pn M f d with
 | #[x]=>.ok x
 |_=>.bad
def bf(f:Str)(o:QF):QF:=λM Z=>(o M Z).bind λd=>match Pn M f d with
 | #[x]=>.ok x
 |some (.lst _ xs)=>.ok (.list xs)
 |_=>.bad
def af2{M:Mo}{f:Str}{d:Dat}{fl:jF}(h:Pn M f d=some fl):∃n i,d=obj n/\M[n]?=some i/\i.fs.lookup f=some fl:=by
 unfold Pn at h;left
 .next n=>
  obtain⟨i,h1,h2⟩;exact⟨n,i,rfl,h1,h2⟩
 .cases h
theorem lookup_mem{f:Str}{fl:jF}:∀{gs:LsS jF},gs.lookup f=some fl->f∈gs.map (·.1)
 |[],h=>nomatch h
 |(g,y)::r,h=>by
  rw[avo]at h;cases hb:f==g with
  |true=>rw[awj hb];simp
  |false=>
   rw[hb]at h;exact auY _ (lookup_mem h)
section
variable{K:auT}{aj:aM}{g:Gh}{H:Hp}{M:Mo}
def acd(co:j5 K aj)(w:ig K aj g H M){f:Str}{d:Dat}{fl:jF}{v:V}(h:Pn M f d=some fl)(r:fu K g H v d):∃n i a C dx fs u,d=obj n/\M[n]?=some i/\i.fs.lookup f=some fl/\g.tbl[n]?=some a/\v=.ref a/\aj i.cls=some C/\H a=some (.ins C dx fs)/\cD K aj g H n fs i.fs/\Cls K C/\NoAttr K C f/\fs.lookup f=some u/\fj K aj g H n f u fl:=by
 let⟨n,i,rfl,h1,h2⟩:=af2 h
 let⟨a,rfl,ha⟩:=Qc r
 have hc:i.cls≠"":=λz=>by
  rw[w.dm n i h1 z]at h2;cases h2
 let⟨C,dx,fs,c1,c2,c3⟩:=w.ins n a i ha h1 hc
 let⟨u,l1,l2⟩:=c3.get h2
 let⟨k1,k2⟩:=co i.cls C f c1 (w.fd n i h1 f (lookup_mem h2))
 exact⟨n,i,a,C,dx,fs,u,rfl,h1,h2,ha,rfl,c1,c2,c3,k1,k2,l1,l2⟩
end
section
variable{X:Cx}{aj:aM}{W:WX}{o e:Expr}{es:List Expr}{fo:QF}{f m:Str}{pos apos:Pos}
def aoy(co:j5 X.K aj)(ho:QW aj X W o fo)(hb:baseOk o=true):QE aj X W (.Attribute o f pos) (fD f fo):=
 PE.weak (pe_fld ho (mJ hb)) λσ H Q ⟨g,Z,M,I,h⟩=>by
  refine tW.go I h.bnd λd v H1 h1 e1 r1=>?_;split at h1
  .next x hx=>
   let⟨n,i,a,C,dx,fs,u,_,_,_,_,rfl,_,c2,_,k1,k2,l1,l2⟩:=acd co (I.ex e1).wok hx r1
   exact⟨a,C,dx,fs,u,rfl,c2,k1,k2,l1,h1 u H1 e1 l2⟩
  .exact awb h1
def amK(co:j5 X.K aj)(ho:QW aj X W o fo)(hb:baseOk o=true):QW aj X W (.Attribute o f pos) (bf f fo):=
 PE.weak (pe_fld ho (mJ hb)) λσ H Q ⟨g,Z,M,I,h⟩=>by
  refine tW.go I h.bnd λd v H1 h1 e1 r1=>?_;split at h1
  .next x hx=>
   let⟨n,i,a,C,dx,fs,u,_,_,_,_,rfl,_,c2,_,k1,k2,l1,l2⟩:=acd co (I.ex e1).wok hx r1
   exact⟨a,C,dx,fs,u,rfl,c2,k1,k2,l1,h1 u H1 e1 (Rep.weak l2)⟩
  .next xs hx=>
   let⟨n,i,a,C,dx,fs,u,_,_,_,_,rfl,_,c2,_,k1,k2,l1,l,us,rfl,s1,s2,s3,_⟩:=acd co (I.ex e1).wok hx r1
   exact⟨a,C,dx,fs,_,rfl,c2,k1,k2,l1,h1 _ H1 e1 ⟨l,us,rfl,sq_of s1,s3⟩⟩
  .exact awb h1
def U9(X:Cx)(W:WX)(m:Str)(ta:TE)(t:TA):TE:=λσ H Q=>ta σ H λx H1=>∃(a C dx:Addr) (fs:LsS V) (f:Addr) (fd:FuncData) (ps:List Str) (sp:Sp) (k:Nat),x=.ref a/\H1 a=some (.ins C dx fs)/\fs.lookup m=none/\Cls X.K C/\Meth X.K C m f/\Room k X.A/\Binds X.K fd ps []/\
 FnOk X.prog X.w X.K X.mg X.base (L2.CX X.prog X.w) k f fd ps sp/\t σ H1 λvs H2=>sp (x::vs) H2 Q (WE W σ)
def ZG{M:Model}{A:Around}{E:Value->Shared->Prop}{s:Shared}{env:PySem.Env}{args:List Expr}{Q:Value->Shared->Prop}(hbase:baseOk o=true)(hs:args.all nst=true)(hz:args.length<30)(hl:(apos.endLine==pos.line)=true)
  (h:wpAny M A (eval o env) (λov s₁=>∀pl:Sem Bool,wpAny M A (getMethod ov m pl) (λfx s₂=>wpAny M A (callWith pos fx.1 fx.2 (backTo pos (starEach args env)) (backToKw pos (keywordEach [] env))) Q E s₂) E s₁) E s) :
  wpAny M A (eval (.Call (.Attribute o m apos) args [] pos) env) Q E s:=by
 have hform:methodCallForm (args.length+([]:List Keyword).length) (backTo pos (starEach args env)) (backToKw pos (keywordEach [] env))=true:=few hs hz;have hpos:methodCallPos true o env apos pos=pure pos:=by unfold methodCallPos;simp[hl]
 rw[arm_eval_Call,mJ hbase];refine awe (wpAny_mono h (λov s₁ h₁=>?_) λ_ _ e=>e);refine awe (wpAny_standAt ?_);unfold methodCall;rw[hform];refine awe (wpAny_holding ?_);refine wpAny_mono (h₁ _) (λfx s₂ h₂=>?_) λ_ _ e=>e;exact awe (wpAny_of_eq hpos h₂)
def ab9{ta:TE}{t:TA}(tk:Takes X W)(ho:PE X o ta)(ha:PA X (e::es) t)(hb:baseOk o=true)(hs:(e::es).all nst=true)(hl:(apos.endLine==pos.line)=true)(hz:(e::es).length<30):PE X (.Call (.Attribute o m apos) (e::es) [] pos) (U9 X W m ta t):=by have hs':=hs;rw[avw,auU]at hs';refine⟨λpins s σ H Q I h=>?_⟩;refine ZG hb hs hz hl (thn (ho.run pins s σ H _ I h) λu s1 ⟨x,G,J,rx,a,C,dx,fs,f,fd,ps,sp,k,ex,ea,l,c,hm,hr,hB,F,q⟩ pl=>?_);subst ex;cases rx;refine getmeth_ok J ea c hm l ?_;refine PySem.W.callWith_K (first:=[.ref a]) (h₀:=X.base) I.ok.mod.kin hm.kp (thn (ha.run pos pins s1 σ G _ J q) λus s2 ⟨vs,G2,J2,r,q2⟩=>⟨J2.kIn,?_⟩) (bZ hs'.1 es) (star_any es hs'.2);exact run_fnS (us:=.ref a::us) (vs:=.ref a::vs) F hr hB (passAt tk σ) J2 (.cons rfl r) q2
def Zk{ta:TE}(tk:Takes X W)(ho:PE X o ta)(hb:baseOk o=true)(hl:(apos.endLine==pos.line)=true):PE X (.Call (.Attribute o m apos) [] [] pos) (U9 X W m ta tNil):=by refine⟨λpins s σ H Q I h=>?_⟩;refine ZG hb rfl #[()] hl (thn (ho.run pins s σ H _ I h) λu s1 ⟨x,G,J,rx,a,C,dx,fs,f,fd,ps,sp,k,ex,ea,l,c,hm,hr,hB,F,q⟩ pl=>?_);subst ex;cases rx;refine getmeth_ok J ea c hm l ?_;exact PySem.W.callWith_K0 (first:=[.ref a]) J.kIn hm.kp (run_fnS (us:=[.ref a]) (vs:=[.ref a]) F hr hB (passAt tk σ) J (.cons rfl .nil) q)
def Hq(tb:List (Str×MV))(M:Mo):Dat->Option MV
 |.dict [(.none,.int (.ofNat h))]=>(M[h]?).bind λi=>tb.lookup i.cls
 |_=>none
def aC(tb:List (Str×MV))(o:QF)(as:QA):QF:=λM Z=>(o M Z).bind λd=>match Hq tb M d with
 |some (.q _ m)=>(as M Z).bind λds=>m M (d::ds)
 |_=>.bad
def bO(tb:List (Str×MV))(o:QF)(as:QA):GF:=λM Z=>((o M Z).at M).bind λd _=>match Hq tb M d with
 |some (.q _ m)=>((as M Z).at M).bind λds _=>(m M (d::ds)).at M
 |some (.g _ m)=>((as M Z).at M).bind λds _=>m M (d::ds)
 |none=>.bad
def M8(X:Cx)(aj:aM)(k:Nat)(m:Str)(n:Nat)(tb:List (Str×MV)):Prop:=∀c v,tb.lookup c=some v->Gq X.prog X.w X.K X.mg X.base aj k c m v/\match v with
  |.q j _=>j=n
  |.g j _=>j=n
def M8.cls{k n:Nat}{tb:List (Str×MV)}(T:M8 X aj k m n tb):∀c v,tb.lookup c=some v->aj c≠none:=λc v h z=>by
 let⟨⟨C,f,c1,_⟩,_⟩:=T c v h
 rw[z]at c1;cases c1
def WR{K:auT}{g:Gh}{H:Hp}{M:Mo}{tb:List (Str×MV)}{d:Dat}{v:V}{mv:MV}(ht:∀c v,tb.lookup c=some v->aj c≠none)(w:ig K aj g H M)(h:Hq tb M d=some mv)(r:fu K g H v d):∃n i a C dx fs,d=obj n/\M[n]?=some i/\tb.lookup i.cls=some mv/\g.tbl[n]?=some a/\v=.ref a/\aj i.cls=some C/\H a=some (.ins C dx fs)/\cD K aj g H n fs i.fs:=by
 unfold Hq at h;left
 .next n=>
  obtain⟨i,h1,h2⟩;let⟨a,rfl,ha⟩:=Qc r
  let⟨C,dx,fs,c1,c2,c3⟩:=w.ins n a i ha h1 λz=>ht _ _ h2 (by rw[z];exact w.nc)
  exact⟨n,i,a,C,dx,fs,rfl,h1,h2,ha,rfl,c1,c2,c3⟩
 .cases h
def abA{K:auT}{g:Gh}{H:Hp}{M:Mo}{n:Nat}{i:Inst}{fs:LsS V}(w:ig K aj g H M)(hi:M[n]?=some i)(R:cD K aj g H n fs i.fs)(h:m∉aj.fl i.cls):fs.lookup m=none:=by
 refine R.no ?_;cases hl:i.fs.lookup m with
 |none=>rfl
 |some x=>exact absurd (w.fd n i hi m (lookup_mem hl)) h
def ag8{tb:List (Str×MV)}{as:QA}{n k:Nat}{t:TA}(hr:Room k X.A)(T:M8 X aj k m n tb)(hn:∀M Z ds,as M Z=.ok ds->ds.length+1=n)(ht:∀σ H Q,R4 X.K aj W as σ H Q->t σ H Q)(σ:L2.St)(H:Hp)(Q:VK)(h:tQ X.K aj W (aC tb fo as) σ H Q):U9 X W m (tW X.K aj W fo) t σ H Q:=by
 let⟨g,Z,M,I,h⟩:=h
 refine tW.go I h.bnd λd v H1 h1 e1 r1=>?_;have I1:=I.ex e1;split at h1
 .next j mm hmv=>
  let⟨hd,i,a,C,dx,fs,rfl,hi,hl,ha,rfl,c1,c2,c3⟩:=WR T.cls I1.wok hmv r1
  let⟨⟨C',f,cc,cl,me,nf,fd,ps,j',hj,hp,hB,F⟩,en⟩:=T _ _ hl
  have en:j=n:=en;rw[c1]at cc;cases cc;refine⟨a,C,dx,fs,f,fd,ps,_,j',rfl,c2,abA I1.wok hi c3 nf,cl,me,hr.mono hj,hB,F,ht σ H1 _ ⟨g,Z,M,I1,?_⟩⟩;have h2:=h1.bnd;cases has:as M Z with
  |exc x=>rw[has]at h2;exact sG.ex e1 h2
  |bad=>rw[has]at h2;exact awb h2
  |ok ds=>
   rw[has]at h2;intro vs H2 e2 r2;refine⟨by rw[hp,en,<-hn M Z ds has,au5,r2.length],g,M,obj hd::ds,(I1.ex e2).kd,(I1.ex e2).wok,.cons (.obj ha) r2,?_⟩;exact Out.sat.mono h2 (λd k v H' e' r'=>k v H' ((e1.trans e2).trans e') r') λx k H' c dd e' r'=>k H' c dd ((e1.trans e2).trans e') r'
 .exact awb h1
def akY{tb:List (Str×MV)}{as:QA}{k:Nat}(tk:Takes X W)(hr:Room k X.A)(T:M8 X aj k m ((e::es).length+1) tb)(ho:QW aj X W o fo)(ha:Ja aj X W (e::es) as)(hn:∀M Z ds,as M Z=.ok ds->ds.length=(e::es).length)(hb:baseOk o=true)(hs:(e::es).all nst=true)(hl:(apos.endLine==pos.line)=true)(hz:(e::es).length<30) :
  QE aj X W (.Call (.Attribute o m apos) (e::es) [] pos) (aC tb fo as):=
 PE.weak (ab9 tk ho ha hb hs hl hz) λσ H Q h=>ag8 hr T (λM Z ds z=>by rw[hn M Z ds z]) (λ_ _ _ z=>z) σ H Q h
def aij{tb:List (Str×MV)}{k:Nat}(tk:Takes X W)(hr:Room k X.A)(T:M8 X aj k m 1 tb)(ho:QW aj X W o fo)(hb:baseOk o=true)(hl:(apos.endLine==pos.line)=true) :
  QE aj X W (.Call (.Attribute o m apos) [] [] pos) (aC tb fo dD):=
 PE.weak (Zk tk ho hb hl) λσ H Q h=>ag8 hr T (λM Z ds z=>by cases z;rfl) (λσ H Q ⟨g,Z,M,I,z⟩=>z [] H (Ex.refl H) .nil) σ H Q h
def agW{tb:List (Str×MV)}{as:QA}{n k:Nat}{t:TA}(hr:Room k X.A)(T:M8 X aj k m n tb)(hn:∀M Z ds,as M Z=.ok ds->ds.length+1=n)(ht:∀σ H Q,R4 X.K aj W as σ H Q->t σ H Q)(σ:L2.St)(H:Hp)(Q:VK)(h:tE X.K aj W false (bO tb fo as) σ H Q):U9 X W m (tW X.K aj W fo) t σ H Q:=by
 let⟨g,Z,M,I,h⟩:=h
 have quiet:∀{x:eX},gE X.K aj W false g H σ Z x M->sG X.K aj W g H σ x:=λ{x} z H' c dd e r=>z H' g c dd (Gr.ex e) (I.ex e) r;have h:=h.bnd;refine⟨g,Z,M,I,?_⟩;cases ho:fo M Z with
 |exc x=>rw[ho]at h;exact quiet h
 |bad=>rw[ho]at h;exact awb h
 |ok d=>
  rw[ho]at h;intro v H1 e1 r1;have I1:=I.ex e1;have h:(match Hq tb M d with
   |some (.q _ m)=>((as M Z).at M).bind λds _=>(m M (d::ds)).at M
   |some (.g _ m)=>((as M Z).at M).bind λds _=>m M (d::ds)
   |none=>.bad).sat (λd M'=>∀v H' g',Gr false g g' H H'->SInv X.K aj σ H' g' Z M'->Rep X.K g' H' v d->Q v H') (gE X.K aj W false g H σ Z):=h
  left
  .next j mm hmv=>
   let⟨hd,i,a,C,dx,fs,rfl,hi,hl,ha,rfl,c1,c2,c3⟩:=WR T.cls I1.wok hmv r1
   let⟨⟨C',f,cc,cl,me,nf,fd,ps,j',hj,hp,hB,F⟩,en⟩:=T _ _ hl
   have en:j=n:=en;rw[c1]at cc;cases cc;refine⟨a,C,dx,fs,f,fd,ps,_,j',rfl,c2,abA I1.wok hi c3 nf,cl,me,hr.mono hj,hB,F,ht σ H1 _ ⟨g,Z,M,I1,?_⟩⟩;have h2:=h.bnd;cases has:as M Z with
   |exc x=>rw[has]at h2;exact sG.ex e1 (quiet h2)
   |bad=>rw[has]at h2;exact awb h2
   |ok ds=>
    rw[has]at h2;intro vs H2 e2 r2;have e12:=e1.trans e2;refine⟨by rw[hp,en,<-hn M Z ds has,au5,r2.length],g,M,obj hd::ds,(I1.ex e2).kd,(I1.ex e2).wok,.cons (.obj ha) r2,?_⟩;exact Out.sat.mono (Out.jH h2) (λd k v H' e' r'=>k v H' g (Gr.ex (e12.trans e')) (I.ex (e12.trans e')) r') λx k H' c dd e' r'=>k H' g c dd (Gr.ex (e12.trans e')) (I.ex (e12.trans e')) r'
  .next j mm hmv=>
   let⟨hd,i,a,C,dx,fs,rfl,hi,hl,ha,rfl,c1,c2,c3⟩:=WR T.cls I1.wok hmv r1
   let⟨⟨C',f,cc,cl,me,nf,fd,ps,j',hj,hp,hB,F⟩,en⟩:=T _ _ hl
   have en:j=n:=en;rw[c1]at cc;cases cc;refine⟨a,C,dx,fs,f,fd,ps,_,j',rfl,c2,abA I1.wok hi c3 nf,cl,me,hr.mono hj,hB,F,ht σ H1 _ ⟨g,Z,M,I1,?_⟩⟩;have h2:=h.bnd;cases has:as M Z with
   |exc x=>rw[has]at h2;exact sG.ex e1 (quiet h2)
   |bad=>rw[has]at h2;exact awb h2
   |ok ds=>
    rw[has]at h2;intro vs H2 e2 r2;have e12:=e1.trans e2;refine⟨by rw[hp,en,<-hn M Z ds has,au5,r2.length],g,M,obj hd::ds,(I1.ex e2).kd,(I1.ex e2).wok,.cons (.obj ha) r2,?_⟩;exact aZ.sat.mono h2 (λd M' k v H' g' c kd wk r'=>k v H' g' ((Gr.ex e12).trans c.gr) ((I.ex e12).call c kd wk) r') λx M' k H' g' cc dd c kd wk r'=>k H' g' cc dd ((Gr.ex e12).trans c.gr) ((I.ex e12).call c kd wk) r'
  .exact awb h
def alj{tb:List (Str×MV)}{as:QA}{k:Nat}(tk:Takes X W)(hr:Room k X.A)(T:M8 X aj k m ((e::es).length+1) tb)(ho:QW aj X W o fo)(ha:Ja aj X W (e::es) as)(hn:∀M Z ds,as M Z=.ok ds->ds.length=(e::es).length)(hb:baseOk o=true)(hs:(e::es).all nst=true)(hl:(apos.endLine==pos.line)=true)(hz:(e::es).length<30) :
  GE aj X W false (.Call (.Attribute o m apos) (e::es) [] pos) (bO tb fo as):=
 PE.weak (ab9 tk ho ha hb hs hl hz) λσ H Q h=>agW hr T (λM Z ds z=>by rw[hn M Z ds z]) (λ_ _ _ z=>z) σ H Q h
def ahV{tb:List (Str×MV)}{k:Nat}(tk:Takes X W)(hr:Room k X.A)(T:M8 X aj k m 1 tb)(ho:QW aj X W o fo)(hb:baseOk o=true)(hl:(apos.endLine==pos.line)=true) :
  GE aj X W false (.Call (.Attribute o m apos) [] [] pos) (bO tb fo dD):=
 PE.weak (Zk tk ho hb hl) λσ H Q h=>agW hr T (λM Z ds z=>by cases z;rfl) (λσ H Q ⟨g,Z,M,I,z⟩=>z [] H (Ex.refl H) .nil) σ H Q h
end
def fL(x:Str):SF:=λM Z=>.exc ⟨x,[]⟩ Z M
def Ey(x:Str)(fs:List Str)(as:QA):SF:=λM Z=>((as M Z).at M).then Z λds M'=>.exc ⟨x,(fs.zip ds).reverse⟩ Z M'
section
variable{X:Cx}{aj:aM}{W:WX}{q:Bool}{x:Str}{pos p p1:Pos}{k:Nat}
def aiw(hc:X.calm=true)(tk:Takes X W)(hg:Gl X x)(hd:(x==("__debug__" : Str))=false)(g:pH X.prog X.w X.K X.mg X.base aj k x .exc):SE aj X W q (.Raise (some (.Call (.Name x p) [] [] p1)) none pos) (fL x):=by
 let⟨C,g1,g2,g3,g4,g5,g6⟩:=g
 exact PS.weak (ps_raise hc tk (Ear.aiM PySem.F.excBase_ValueError g3 g1 g4 (raises_own g5 g6) hg hd)) λD σ H ⟨g,Z,M,I,z⟩=>z σ H g (.ref C) none Gr.refl I ⟨C,g2,rfl,.inl ⟨rfl,rfl⟩⟩
theorem mO.gr{K:auT}{g g':Gh}{H H':Hp}{q:Bool}(r:Gr q g g' H H')(k:Kd g H){fs:LsS V}{gs:LsS Dat}(h:mO K g H fs gs):mO K g' H' fs gs:=by
 induction h with
 |nil=>exact .nil
 |cons z _ ih=>exact .cons (z.gr r k) ih
def mO.snoc{K:auT}{g:Gh}{H:Hp}{f:Str}{v:V}{d:Dat}(z:Rep K g H v d){fs:LsS V}{gs:LsS Dat}(h:mO K g H fs gs):mO K g H (fs++[(f,v)]) (gs++[(f,d)]):=by
 induction h with
 |nil=>exact .cons z .nil
 |cons y _ ih=>exact .cons y ih
theorem afw{K:auT}{g:Gh}{H:Hp}:∀{fs:List Str} {vs:List V} {ds:List Dat},aF K g H vs ds->mO K g H (fs.zip vs).reverse (fs.zip ds).reverse
 |[],_,_,_=>.nil
 |_::_,_,_,.nil=>.nil
 |f::fs,_,_,.cons z t=>by
  rw[avV,avV,avX,avX];exact(afw t).snoc z
def ahk{e:Expr}{es:List Expr}{fs:List Str}{as:QA}(hc:X.calm=true)(tk:Takes X W)(hr:Room k X.A)(hg:Gl X x)(hd:(x==("__debug__" : Str))=false)(g:pH X.prog X.w X.K X.mg X.base aj k x (.exi fs))(ha:Ja aj X W (e::es) as)
  (hs:(e::es).all nst=true) (hn:∀M Z ds,as M Z=.ok ds->ds.length=fs.length) (hz:fs.length<=1000):SE aj X W q (.Raise (some (.Call (.Name x p) (e::es) [] p1)) none pos) (Ey x fs as):=by
 let⟨C,fI,fd,ps,g1,g2,g3,g4,g5,hk,hp,hB,F⟩:=g
 have hs':=hs;rw[avw,auU]at hs';refine PS.weak (ps_raise hc tk (pmk_oex g3 g4 g5 F (hr.mono hk) hB .nil pass0 hg g1 ha hd (bZ hs'.1 es) (star_any es hs'.2))) λD σ H ⟨g,Z,M,I,z⟩=>?_;refine⟨g,Z,M,I,?_⟩;unfold Ey at z;cases has:as M Z with
 |exc y=>rw[has]at z;exact λH' c dd e r=>z σ H' g c dd (Gr.ex e) (I.ex e) r.fr
 |bad=>rw[has]at z;exact awb z
 |ok ds=>
  rw[has]at z;intro vs H1 e1 r1;have hl:vs.length=fs.length:=by rw[r1.length,hn M Z ds has]
  refine⟨#[],λa na=>⟨a,vs++[],rfl,by simpa using hl,awi,λdx H' nd kp dm ha' hd'=>?_⟩⟩;have ne:dx≠a:=λz=>by
   subst z;rw[awi]at nd;cases nd
  rw[upd_ne ne]at nd;refine⟨rfl,dx,_,ha',hd',nd,?_⟩;have kp':∀b o,H1 b=some o->(upd (del H' a) dx (.xd (fs.zip (vs++[])).reverse)) b=some o:=λb o hb=>by
   have nb:b≠a:=λz=>by subst z;rw[na]at hb;cases hb
   have nd':b≠dx:=λz=>by subst z;rw[nd]at hb;cases hb
   rw[upd_ne nd',del_ne nb];exact kp b o nb (by rw[upd_ne nb];exact hb)
  have ex:Ex H1 (upd (del H' a) dx (.xd (fs.zip (vs++[])).reverse)):=λb o hb=>kp' b o hb;have I1:=I.ex e1;refine z σ _ g (.ref C) (some dx) (Gr.ex (e1.trans ex)) (I1.ex ex) ⟨C,g2,rfl,.inr ⟨dx,_,rfl,awi,?_⟩⟩;rw[avy];have:=(afw (fs:=fs) r1).gr (Gr.ex (q:=true) ex) I1.kd;rw[avy]at this;exact mO.less (g:=g) (g':=g.fr) rfl (yQ g) this
end
section
variable{P:Program}{w:World}{K:auT}{mg:Str->Option Value}{base:Heap}{C f:Addr}{fd:FuncData}{qual:Str}{st:Stmt}
def vis_par{N ps:List Str}{sc:Scope}(S:FnScope N ps sc){y:Str}(h:y∈ps):Vis sc y:=(S.par y h).elim (λz=>.inl z) λz=>.inr (.inl z)
def ahq{s a1 a2 a3 f1 f2 f3:Str}{p1 p2 p3 p4 p5 p6 p7 p8 p9 p10 p11 p12:Pos}(F:L2.Fun K "__init__" qual st f fd)(S:FnScope [s,a1,a2,a3] [s,a1,a2,a3] (defScope st))(T:OexC K C)
  (hb:defBody st=[.Assign [.Attribute (.Name s p1) f1 p2] (.Name a1 p3) p4,.Assign [.Attribute (.Name s p5) f2 p6] (.Name a2 p7) p8,.Assign [.Attribute (.Name s p9) f3 p10] (.Name a3 p11) p12])
  (dz:∀y∈[s,a1,a2,a3],(y==("__debug__" : Str))=false/\(y==("__classdict__" : Str))=false) (n1:PySem.W.findIn K (.ref C) f1=some none) (n2:PySem.W.findIn K (.ref C) f2=some none) (n3:PySem.W.findIn K (.ref C) f3=some none) :
  FnOk P w K mg base CX0 1 f fd [s,a1,a2,a3] (ahW C [f1,f2,f3]):=by
 refine F.ok S (λvs H Q E h=>?_) (λcdv A outer s0 H vs Q E hr h=>?_)
 .let⟨a,xs,rfl,hl,_⟩:=h
  simp[hl]
 .let⟨a,xs,rfl,hl,ha,q⟩:=h
  match xs,hl with
  |[x,y,z],_=>
  rw[hb];have v0:=vis_par S (y:=s) (by simp);have v1:=vis_par S (y:=a1) (by simp);have v2:=vis_par S (y:=a2) (by simp);have v3:=vis_par S (y:=a3) (by simp);let⟨c0,k0⟩:=dz s (by simp)
  let⟨c1,k1⟩:=dz a1 (by simp)
  let⟨c2,k2⟩:=dz a2 (by simp)
  let⟨c3,k3⟩:=dz a3 (by simp)
  refine⟨_,pss_cons (ps_ost (pe_var (i:=0) rfl v0 c0 k0) (pe_var (i:=1) rfl v1 c1 k1)) (pss_cons (ps_ost (pe_var (i:=0) rfl v0 c0 k0) (pe_var (i:=2) rfl v2 c2 k2)) (pss_one (ps_ost (pe_var (i:=0) rfl v0 c0 k0) (pe_var (i:=3) rfl v3 c3 k3)))),?_⟩;refine⟨_,rfl,_,rfl,a,C,rfl,T,n1,.inl ⟨ha,λdx nd ne=>?_⟩⟩;refine⟨_,rfl,_,rfl,a,C,rfl,T,n2,.inr ⟨dx,[(f1,x)],awi,(by rw[upd_ne ne];exact awi),(show 1<=900 by decide),?_⟩⟩;refine⟨_,rfl,_,rfl,a,C,rfl,T,n3,.inr ⟨dx,_,(by rw[upd_ne ne.symm];exact awi),awi,(show 2<=900 by decide),?_⟩⟩;refine q dx _ nd (λb o hb hB=>?_) (λb hB=>?_) (by rw[upd_ne ne.symm,upd_ne ne.symm];exact awi) awi
  .have hbd:b≠dx:=ne_of_none hB nd;rw[upd_ne hbd,upd_ne hbd,upd_ne hb,upd_ne hbd];exact hB
  .by_cases e:b=dx
   .rw[e];exact nd
   .by_cases e2:b=a
    .subst e2;rw[upd_ne e,upd_ne e,awi]at hB;cases hB
    .rw[upd_ne e,upd_ne e,upd_ne e2,upd_ne e]at hB;exact hB
end
structure Cl where
 c:Value
 nm:Option Nat
 ts:Addr->Value->Option Addr->TS
def aqX(D:Ends)(i:Nat):Ends:={ nx:=λτ G=>D.nx (τ.set i none) G,rt:=D.rt,bk:=λτ G=>D.bk (τ.set i none) G,ct:=λτ G=>D.ct (τ.set i none) G }
def abg(K:auT)(Wo:WX)(D:Ends):List Cl->WX
 |[]=>Wo
 |l::r=>λcls d τ G=>∃b,PySem.W.exmOne K cls l.c=some b/\(b=true->∀a,G a=none->(match l.nm with
   |none=>l.ts a cls d D τ G
   |some i=>l.ts a cls d (aqX D i) (τ.set i (some (.ref a))) G))/\(b=false->abg K Wo D r cls d τ G)
inductive Ek(X:Cx):List ExceptHandler->List Cl->Prop
 |nil:Ek X [] []
 |one {x:Str} {l:Cl} {s0:Stmt} {su:List Stmt} {np cp:Pos} {hds:List ExceptHandler} {ls:List Cl} (hc:Names X x l.c) (hn:l.nm=none)
   (hsu:∀(a:Addr) (oe:Obj) (cls:Value) (d:Option Addr) (pn:List (Addr×Obj)),Zc cls d oe->(∃vs,oe.data=.fields vs)->PSs (X.suite a ((a,oe)::pn)) (s0::su) (l.ts a cls d)) (r:Ek X hds ls) :
   Ek X (.ExceptHandler (some (.Name x np)) none (s0::su) cp::hds) (l::ls)
 |as {x n:Str} {i:Nat} {l:Cl} {s0:Stmt} {su:List Stmt} {np cp:Pos} {hds:List ExceptHandler} {ls:List Cl} (hc:Names X x l.c) (hn:l.nm=some i) (hi:X.N[i]?=some n) (hl:X.env.kindOf n=some .local)
   (hsu:∀(a:Addr) (oe:Obj) (cls:Value) (d:Option Addr) (pn:List (Addr×Obj)),Zc cls d oe->(∃vs,oe.data=.fields vs)->PSs (X.suite a ((a,oe)::pn)) (s0::su) (l.ts a cls d)) (r:Ek X hds ls) :
   Ek X (.ExceptHandler (some (.Name x np)) (some n) (s0::su) cp::hds) (l::ls)
section
variable{X:Cx}{body:List Stmt}{h0:ExceptHandler}{hds:List ExceptHandler}{ls:List Cl}{pos:Pos}{tb:WX->TS}{Wo:WX}
def aj6(hs:X.stack=X.env::X.outer)(hf:X.env.frame=some X.env.locals)(hN:X.N.Nodup)(tk:Takes X Wo)
  (hb:∀(W:WX) (pn:List (Addr×Obj)) (xe:Value->Shared->Prop),Takes (X.tr pn xe) W->PassesOwn (model X.prog X.w) X.A X.env xe->PSs (X.tr pn xe) body (tb W))
  (hh:Ek X (h0::hds) ls):PS X (.Try body (h0::hds) [] [] pos) (λD σ H=>tb (abg X.K Wo D ls) D σ H):=by
 constructor;intro pins s σ H D I h;have ok:=I.ok;have frm:X.A.frames=some (X.env::X.outer):=by rw[ok.frames,hs]
 have run:=(hb (abg X.K Wo D ls) (X.pn++pins) (λe t₁=>wpAny (model X.prog X.w) X.A (noteFrame e X.env) (λ_ t₂=>wpAny (model X.prog X.w) X.A (setFlight e none) (λ_ t₃=>wpAny (model X.prog X.w) X.A (handleBy e X.env (h0::hds)) (SP X pins D) X.xe t₃) X.xe t₂) X.xe t₁) (λu t xx=>by
  let⟨a,B,sI,pins2,τ,G,cls,d,rfl,J2,nb,up,sky,na,os,ag,w⟩:=xx
  have J:Inv X pins τ G sI:=J2.ofTry ok;have sky2:Sky B (X.env::X.outer) a (Zc cls d) X.env.locals t.heap:=by rw[<-hs];exact sky
  show wpAny (model X.prog X.w) X.A (noteFrame (.ref a) X.env) _ _ _;refine Sky.land Zc.steady frm hf sky2 ?_;intro h3 fl3 up3;have J3:Inv X pins τ G { t with heap:=h3 }:=J.landed nb fl3.1 (up.trans up3) os ag;let⟨oe3,vs3,he3,hz3,hd3⟩:=fl3.there
  have notF:a∉frs (X.env::X.outer):=λhm=>by
   let⟨_,o,eo,hnf⟩:=Heap.FunFrames.mem fl3.2.2.1 hm
   rw[he3]at eo;cases eo;exact hnf _ hd3
  have nL:a≠X.env.locals:=λz=>notF (List.mem_filterMap.mpr ⟨X.env,auX,(by rw[hf,z])⟩);have nF:a∉X.fs:=λhm=>by
   let⟨e,he,q⟩:=List.mem_filterMap.mp hm
   exact notF (List.mem_filterMap.mpr ⟨e,auY _ he,q⟩)
  have S3:=J3.suite he3 hd3 na nL nF;have look:PySem.W.Looks (model X.prog X.w) h3 (typeOf (.ref a)) cls:=λA Q E s k q=>wpAny_typeOf_ref (k _ _ he3) (by rw[hz3.1];exact q);have named:∀{x:Str} {c:Value} {np:Pos} {Q:Value->Shared->Prop} {E:Value->Shared->Prop},Names X x c->Q c { t with heap:=h3 }->wpAny (model X.prog X.w) (X.A.mark (some (.ref a))) (eval (.Name x np) X.env) Q E { t with heap:=h3 }:=by
   intro x c np Q E hc q;let⟨hg,hdb,hm⟩:=hc
   rcases hm with hm|⟨hm,hv,hnn⟩
   .exact ld_glob (X:=X.suite a ((a,oe3)::(X.pn++pins))) S3 hg hm q hdb
   .exact ld_blt (X:=X.suite a ((a,oe3)::(X.pn++pins))) S3 hg hm hv q hnn hdb
  have all:∀{hds2:List ExceptHandler} {ls2:List Cl},Ek X hds2 ls2->abg X.K Wo D ls2 cls d τ G->wpAny (model X.prog X.w) X.A (handleBy (.ref a) X.env hds2) (SP X pins D) X.xe { t with heap:=h3 }:=by
   intro hds2 ls2 hk
   induction hk with
   |nil=>
    intro w;refine wpAny_handleBy_nil ?_;let⟨k1,k2,k3,oe,vs,T,oT,ts2,he,hz,hd,h1,hr⟩:=id fl3
    unfold PySem.passOn;refine awe (wpAny_field he hd h1 ?_);have nT:¬((Value.ref T==Value.none)=true):=by simp
    rw[awh nT];have fin:wpAny (model X.prog X.w) X.A (setFlight (.ref a) X.env.frame) (λ_ s4=>wpAny (model X.prog X.w) X.A (throw (.ref a):Sem Flow) (SP X pins D) X.xe s4) X.xe { t with heap:=h3 }:=by rw[hf];refine HandSPX.setFlight_upZ fl3 ?_;intro h4 hh4 up4;refine wpAny_throw (tk _ _ ?_);exact⟨a,B,sI,pins,τ,G,cls,d,rfl,J,nb,(up.trans up3).trans up4,.inr (.inr (by rw[hs];exact hh4)),na,os,ag,w⟩
    first
     |exact awe (awf (awe fin))
     |exact awe fin
   | @one x l s0 su np cp hds3 ls3 hc hn hsu r ih=>
    intro w;let⟨b,hb1,yes,no⟩:=w
    rw[hn]at yes;have LM:=PySem.W.exm_one (M:=model X.prog X.w) J3.kIn look hb1;refine wpAny_handleBy_cons (codeAny_handlers_test ?_) (by intro q;cases q);refine named hc (LM.here ?_);cases b with
    |false=>exact ih (no rfl)
    |true=>
     refine codeAny_handlers_suite ?_;refine HandSPX.lands_againZ fl3 ?_;intro h4 fl4 up4;have J4:Inv X pins τ G { t with heap:=h4 }:=J.landed nb fl4.1 ((up.trans up3).trans up4) os ag;let⟨oe4,vs4,he4,hz4,hd4⟩:=fl4.there
     have S4:=J4.suite he4 hd4 na nL nF;refine wpAny_mono ((hsu a oe4 cls d (X.pn++pins) hz4 ⟨_,hd4⟩).run [] _ _ G _ S4 (yes rfl a na)) ?_ (λ_ _ z=>awb z);intro f s6 sp6;cases f with
     |ret u=>
      let⟨v6,τ6,G6,S6,r6,q6⟩:=sp6
      exact⟨_,_,_,S6.unsuite ok,r6,q6⟩
     |next=>
      let⟨τ6,G6,S6,q6⟩:=sp6
      exact⟨_,_,S6.unsuite ok,q6⟩
     |brk=>
      let⟨τ6,G6,S6,q6⟩:=sp6
      exact⟨_,_,S6.unsuite ok,q6⟩
     |cont=>
      let⟨τ6,G6,S6,q6⟩:=sp6
      exact⟨_,_,S6.unsuite ok,q6⟩
   | @as x n i l s0 su np cp hds3 ls3 hc hn hi hl hsu r ih=>
    intro w;let⟨b,hb1,yes,no⟩:=w
    rw[hn]at yes;have LM:=PySem.W.exm_one (M:=model X.prog X.w) J3.kIn look hb1;refine wpAny_handleBy_cons (codeAny_handlers_test ?_) (by intro q;cases q);refine named hc (LM.here ?_);cases b with
    |false=>exact ih (no rfl)
    |true=>
     refine codeAny_handlers_suite_as ?_;refine HandSPX.lands_againZ fl3 ?_;intro h4 fl4 up4;have J4:Inv X pins τ G { t with heap:=h4 }:=J.landed nb fl4.1 ((up.trans up3).trans up4) os ag;let⟨oe4,vs4,he4,hz4,hd4⟩:=fl4.there
     have S4:=J4.suite he4 hd4 na nL nF;refine store_ok (X:=X.suite a ((a,oe4)::(X.pn++pins))) (v:=.ref a) S4 hN hi (.inl hl) rfl ?_ (.inr hl);intro s5 S5;refine wpAny_mono ((hsu a oe4 cls d (X.pn++pins) hz4 ⟨_,hd4⟩).run [] s5 _ G _ S5 (yes rfl a na)) ?_ (λ_ _ z=>awb z);intro f s6 sp6;have bye:∀{τ6:L2.St} {G6:Hp} {Q:Shared->Prop},Inv (X.suite a ((a,oe4)::(X.pn++pins))) [] τ6 G6 s6->(∀s7,Inv X pins (τ6.set i none) G6 s7->Q s7)->
       wpAny (model X.prog X.w) X.A (do bindName X.env n .none;unbindBehindTheSuite X.env n cp) (λ_ s7=>Q s7) X.xe s6:=λS6 hq=>gone_ok (S6.unsuite ok) hN hi hl hq
     cases f with
     |ret u=>
      let⟨v6,τ6,G6,S6,r6,q6⟩:=sp6
      exact bye S6 λs7 J7=>⟨_,_,_,J7,r6,q6⟩
     |next=>
      let⟨τ6,G6,S6,q6⟩:=sp6
      exact bye S6 λs7 J7=>⟨_,_,J7,q6⟩
     |brk=>
      let⟨τ6,G6,S6,q6⟩:=sp6
      exact bye S6 λs7 J7=>⟨_,_,J7,q6⟩
     |cont=>
      let⟨τ6,G6,S6,q6⟩:=sp6
      exact bye S6 λs7 J7=>⟨_,_,J7,q6⟩
  exact all hh w) PassesOwn.looking).run [] s σ H D (I.toTry _) h
 refine wpAny_Try_except (wpAny_mono run ?_ (λ_ _ z=>z));intro f s1 sp1;cases f with
 |ret u=>
  let⟨v,τ,G,J2,r,q⟩:=sp1
  exact⟨v,τ,G,J2.ofTry ok,r,q⟩
 |next=>
  let⟨τ,G,J2,q⟩:=sp1
  exact wpAny_execs_nil ⟨τ,G,J2.ofTry ok,q⟩
 |brk=>
  let⟨τ,G,J2,q⟩:=sp1
  exact⟨τ,G,J2.ofTry ok,q⟩
 |cont=>
  let⟨τ,G,J2,q⟩:=sp1
  exact⟨τ,G,J2.ofTry ok,q⟩
end
inductive Ih where
 |con (d:Dat)|fld (f:Str)|flds (fs:List Str)
def abW(y:Str)(x:eX)(f:Str):Option Dat:=match x.cls==y with
 |true=>(x.fs.lookup f).bind λd=>match lf d with
  |true=>some d
  |false=>none
 |false=>none
def Vb(y:Str)(x:eX):List Str->Option (List Dat)
 |[]=>some []
 |f::fs=>(abW y x f).bind λd=>(Vb y x fs).bind λds=>some (d::ds)
def ab5(y:Str)(x:eX):Ih->Option Dat
 |.con d=>some d
 |.fld f=>abW y x f
 |.flds fs=>(Vb y x fs).bind λds=>some (.tuple ds)
def HD(y:Str)(x:eX):List (Nat×Ih)->Env->Option Env
 |[],Z=>some Z
 |(j,e)::r,Z=>(ab5 y x e).bind λd=>HD y x r (Z.set j #[d])
structure Hd where
 y:Str
 tk:Str->Option Bool
 nm:Option Nat
 st:List (Nat×Ih)
def W3(Z:Env):Option Nat->Env
 |none=>Z
 |some i=>Z.set i none
def ae6(Z:Env):Option Nat->Bool
 |none=>true
 |some i=>decide (i<Z.length)
def hdl:List Hd->eX->Env->Mo->uO
 |[],x,Z,M=>.exc x Z M
 |h::r,x,Z,M=>match h.tk x.cls with
  |some true=>match ae6 Z h.nm with
   |true=>match HD h.y x h.st (W3 Z h.nm) with
    |some Z2=>.next (W3 Z2 h.nm) M
    |none=>.bad
   |false=>.bad
  |some false=>hdl r x Z M
  |none=>.bad
def Ux(f:SF)(hs:List Hd):SF:=λM Z=>match f M Z with
 |.exc x Z' M'=>hdl hs x Z' M'
 |o=>o
structure XIn(K:auT)(aj:aM)(σ:L2.St)(H:Hp)(g:Gh)(Z:Env)(M:Mo)(x:eX)(a:Addr)(cls:Value)(d:Option Addr)(i:Option Nat):Prop where
 inv:SInv K aj σ H g Z M
 xr:tR K aj g.fr H x cls d
 sl:∀j,i=some j->σ[j]?=some (some (.ref a))
section
variable(K:auT)(aj:aM)(a:Addr)(cls:Value)(d:Option Addr)(i:Option Nat)
def tU(f:eX->Option Dat):TE:=λσ H Q=>∃g Z M x z,XIn K aj σ H g Z M x a cls d i/\f x=some z/\∀v H',Ex H H'->Rep K g H' v z->Q v H'
def tUA(f:eX->Option (List Dat)):TA:=λσ H Q=>∃g Z M x z,XIn K aj σ H g Z M x a cls d i/\f x=some z/\∀v H',Ex H H'->aF K g H' v z->Q v H'
def tSu(y:Str)(st:List (Nat×Ih)):TS:=λD σ H=>∃g Z M x Z2,XIn K aj σ H g Z M x a cls d i/\HD y x st Z=some Z2/\(∀p∈st,i≠some p.1)/\∀σ' H',Ex H H'->SInv K aj σ' H' g Z2 M->D.nx σ' H'
end
section
variable{K:auT}{aj:aM}{a:Addr}{cls:Value}{d:Option Addr}{i:Option Nat}{σ:L2.St}{H H':Hp}{g:Gh}{Z:Env}{M:Mo}{x:eX}
theorem mO.ex{fs:LsS V}{gs:LsS Dat}(e:Ex H H')(k:Kd g H)(h:mO K g H fs gs):mO K g H' fs gs:=h.gr (Gr.ex (q:=true) e) k
theorem tR.ex{c:Value}{dd:Option Addr}(e:Ex H H')(k:Kd g H)(h:tR K aj g H x c dd):tR K aj g H' x c dd:=by
 let⟨C,h1,h2,h3⟩:=h
 exact⟨C,h1,h2,h3.imp id λ⟨b,fs,e1,e2,e3⟩=>⟨b,fs,e1,e _ _ e2,e3.ex e k⟩⟩
theorem XIn.ex(e:Ex H H')(h:XIn K aj σ H g Z M x a cls d i):XIn K aj σ H' g Z M x a cls d i:=⟨h.inv.ex e,h.xr.ex e h.inv.kd.fr,h.sl⟩
def mO.get{f:Str}{z:Dat}{fs:LsS V}{gs:LsS Dat}(h:mO K g H fs gs)(e:gs.lookup f=some z):∃v,fs.lookup f=some v/\Rep K g H v z:=by
 induction h with
 |nil=>cases e
 | @cons f' v d' _ _ r _ ih=>
  rw[avo]at e;rw[avo];cases hb:f==f' with
  |true=>
   rw[hb]at e;cases e;exact⟨v,rfl,r⟩
  |false=>
   rw[hb]at e;exact ih e
end
section
variable{X:Cx}{aj:aM}{a C:Addr}{oe:Obj}{cls:Value}{d:Option Addr}{pn:List (Addr×Obj)}{y n:Str}{pos p:Pos}{j:Nat}
def af5{e:Expr}{z:Dat}{i:Option Nat}{t:TE}(h:PE (X.suite a ((a,oe)::pn)) e t)(ht:∀σ H Q,tU X.K aj a cls d i (λ_=>some z) σ H Q->t σ H Q):PE (X.suite a ((a,oe)::pn)) e (tU X.K aj a cls d i λ_=>some z):=PE.weak h ht
def ahz{f:Str}(hC:aj y=some C)(T:XfC X.K C)(hno:PySem.W.findIn X.K (.ref C) f=some none)(hz:Zc cls d oe)(hf:∃vs,oe.data=.fields vs)(hN:X.N[j]?=some n)(hv:Vis X.env.scope n)(hd:(n==("__debug__" : Str))=false)(hcd:(n==("__classdict__" : Str))=false) :
  PE (X.suite a ((a,oe)::pn)) (.Attribute (.Name n p) f pos) (tU X.K aj a cls d (some j) λx=>abW y x f):=by
 refine PE.weak (pe_xf T hno hz hf (pe_var (i:=j) (X:=X.suite a ((a,oe)::pn)) hN hv hd hcd)) λσ H Q ⟨g,Z,M,x,z,I,e,k⟩=>?_;have e:abW y x f=some z:=e;unfold abW at e;split at e
 .next ey=>
  let⟨z',l,e⟩:=auW.mp e
  split at e
  .next hl=>
   cases e;let⟨C',c1,c2,c3⟩:=I.xr
   rw[awj ey,hC]at c1;cases c1;rcases c3 with⟨c3,_⟩|⟨b,fs,c3,c4,c5⟩
   .rw[c3]at l;cases l
   .let⟨v,l1,l2⟩:=c5.get l
    exact⟨.ref a,I.sl j rfl,rfl,c2,b,fs,v,c3,c4,l1,k v H (Ex.refl H) (Rep.free (g:=g.fr) (g':=g) rfl hl l2)⟩
  .cases e
 .cases e
def af9{i:Option Nat}:PA (X.suite a ((a,oe)::pn)) [] (tUA X.K aj a cls d i λ_=>some []):=PA.weak pa_nil λσ H Q ⟨g,Z,M,x,z,I,e,k⟩=>by
 cases e;exact k [] H (Ex.refl H) .nil
def akm{e:Expr}{es:List Expr}{i:Option Nat}{f:eX->Option Dat}{fr:eX->Option (List Dat)}(h:PE (X.suite a ((a,oe)::pn)) e (tU X.K aj a cls d i f))(hr:PA (X.suite a ((a,oe)::pn)) es (tUA X.K aj a cls d i fr))(hs:nst e=true) :
  PA (X.suite a ((a,oe)::pn)) (e::es) (tUA X.K aj a cls d i λx=>(f x).bind λz=>(fr x).bind λzs=>some (z::zs)):=by
 refine PA.weak (pa_cons h hr (bZ hs es)) λσ H Q ⟨g,Z,M,x,z,I,e,k⟩=>?_;let⟨z1,e1,e⟩:=auW.mp e
 let⟨z2,e2,e⟩:=auW.mp e
 cases e;exact⟨g,Z,M,x,z1,I,e1,λv H1 x1 r1=>⟨g,Z,M,x,z2,I.ex x1,e2,λvs H2 x2 r2=>k (v::vs) H2 (x1.trans x2) (.cons (r1.ex x2 (I.ex x1).inv.kd) r2)⟩⟩
def ahe{es:List Expr}{kk:Nat}{i:Option Nat}{fr:eX->Option (List Dat)}(hr:PA (X.suite a ((a,oe)::pn)) es (tUA X.K aj a cls d i fr))(hn:∀x zs,fr x=some zs->zs.length<=100000):PE (X.suite a ((a,oe)::pn)) (.Tuple es kk pos) (tU X.K aj a cls d i λx=>(fr x).bind λzs=>some (.tuple zs)):=by
 refine PE.weak (pe_tup hr) λσ H Q ⟨g,Z,M,x,z,I,e,k⟩=>?_;let⟨zs,e1,e⟩:=auW.mp e
 cases e;refine⟨g,Z,M,x,zs,I,e1,λvs H1 x1 r1=>⟨sz_of (by rw[r1.length];exact hn x zs e1),λp np=>?_⟩⟩;exact k (.ref p) _ (x1.trans (Ex.new np)) (.tup (st_of awi) (r1.ex (Ex.new np) (I.ex x1).inv.kd))
theorem Zy{x:eX}:∀{fs:List Str} {zs:List Dat},Vb y x fs=some zs->zs.length=fs.length
 |[],zs,h=>by cases h;rfl
 |f::fs,zs,h=>by
  rw[Vb]at h;obtain⟨z1,e1,h⟩;obtain⟨z2,e2,h⟩;cases h;simp[Zy e2]
def amS{i:Option Nat}{se:Ih}{st:List (Nat×Ih)}{D D':Ends}{σ:L2.St}{H:Hp}(h:tSu X.K aj a cls d i y ((j,se)::st) D σ H)(nx:∀σ' H',tSu X.K aj a cls d i y st D σ' H'->D'.nx σ' H') :
  tAsg (tU X.K aj a cls d i λx=>ab5 y x se) (gName j) D' σ H:=by
 let⟨g,Z,M,x,Z2,I,e,nj,k⟩:=h
 rw[HD]at e;let⟨z,e1,e⟩:=auW.mp e
 refine⟨g,Z,M,x,z,I,e1,λv H' x1 r1=>nx _ _ ⟨g,Z.set j #[z],M,x,Z2,⟨(I.ex x1).inv.set r1,(I.ex x1).xr,λjj hj=>?_⟩,e,λp hp=>nj p (auY _ hp),λσ' H2 x2 I2=>k σ' H2 (x1.trans x2) I2⟩⟩;have ne:j≠jj:=λz=>nj (j,se) auX (by rw[hj,z]);rw[au1 ne];exact I.sl jj hj
def an1{i:Option Nat}{D:Ends}{σ:L2.St}{H:Hp}(h:tSu X.K aj a cls d i y [] D σ H):D.nx σ H:=by
 let⟨g,Z,M,x,Z2,I,e,nj,k⟩:=h
 cases e;exact k σ H (Ex.refl H) I.inv
end
def aqQ(K:auT)(aj:aM)(h:Hd)(l:Cl):Prop:=(∃D,aj h.y=some D/\l.c=.ref D)/\aeH K aj h.y h.tk/\l.nm=h.nm/\(l.ts=λa cls d=>tSu K aj a cls d h.nm h.y h.st)/\∀p∈h.st,h.nm≠some p.1
inductive J5(K:auT)(aj:aM):List Hd->List Cl->Prop
 |nil:J5 K aj [] []
 |cons {h:Hd} {l:Cl} {hs:List Hd} {ls:List Cl} (o:aqQ K aj h l) (r:J5 K aj hs ls):J5 K aj (h::hs) (l::ls)
def SInv.off{K:auT}{aj:aM}{σ:L2.St}{H:Hp}{g:Gh}{Z:Env}{M:Mo}(I:SInv K aj σ H g Z M)(i:Nat)(v:Option V):SInv K aj (σ.set i v) H g (Z.set i none) M:=by
 have I2:=I.forget (j:=i);refine⟨I2.kd,I2.wok,by rw[avn,avn];exact I.len,λj d h=>?_,λj xs h=>?_,λj k xs ys l ne h1 h2 h3=>?_⟩
 .by_cases e:j=i
  .subst e;rw[avR]at h
   left<;>first | (left<;>cases h) | (exact absurd rfl ‹¬_›)
  .let⟨v',a1,a2⟩:=I2.dat j d h
   rw[au1 (Ne.symm e)]at a1;exact⟨v',by rw[au1 (Ne.symm e)];exact a1,a2⟩
 .by_cases e:j=i
  .subst e;rw[avR]at h
   left<;>first | (left<;>cases h) | (exact absurd rfl ‹¬_›)
  .let⟨l,us,a1,a2⟩:=I2.own j xs h
   rw[au1 (Ne.symm e)]at a1;exact⟨l,us,by rw[au1 (Ne.symm e)];exact a1,a2⟩
 .have n1:j≠i:=λz=>by
   subst z;rw[avR]at h1;split at h1<;>first | (split at h1<;>cases h1) | (exact absurd rfl ‹¬_›)
  have n2:k≠i:=λz=>by
   subst z;rw[avR]at h2;split at h2<;>first | (split at h2<;>cases h2) | (exact absurd rfl ‹¬_›)
  rw[au1 (Ne.symm n1)]at h1 h3;rw[au1 (Ne.symm n2)]at h2 |-
  exact I.sep j k xs ys l ne h1 h2 h3
section
variable{X:Cx}{aj:aM}{W:WX}{q:Bool}{body:List Stmt}{h0:ExceptHandler}{hds:List ExceptHandler}{hs:List Hd}{ls:List Cl}{pos:Pos}{f:SF}
def am9{D:Ends}{g g':Gh}{H H':Hp}{σ':L2.St}{Z':Env}{M':Mo}{x:eX}{c:Value}{dd:Option Addr}(ha:J5 X.K aj hs ls)(r:Gr q g g' H H')(I:SInv X.K aj σ' H' g' Z' M')(xr:tR X.K aj g'.fr H' x c dd)
  (z:(hdl hs x Z' M').sat (sN X.K aj q D.nx g H) (sR X.K aj q D.rt g H) (sN X.K aj q D.bk g H) (sN X.K aj q D.ct g H) (sX X.K aj W q g H)):abg X.K W D ls c dd σ' H':=by
 induction ha with
 |nil=>exact z σ' H' g' c dd r I xr
 | @cons h l hs ls o _ ih=>
  let⟨⟨D0,o1,o2⟩,o3,o4,o5,o6⟩:=o
  rw[hdl]at z;let⟨C,c1,c2,c3⟩:=id xr
  split at z
  .next ht=>
   refine⟨true,by rw[c2,o2];exact o3 _ _ _ ht c1 _ o1,λ_ a na=>?_,λy=>nomatch y⟩;rw[o4,o5];split at z
   .next hm=>
    split at z
    .next Z2 hr=>
     cases hnm:h.nm with
     |none=>
      rw[hnm]at hr z o6;exact⟨g',Z',M',x,Z2,⟨I,xr,λj hj=>nomatch hj⟩,hr,o6,λσ2 H2 e2 I2=>z σ2 H2 g' (r.trans (Gr.ex e2)) I2⟩
     |some i=>
      rw[hnm]at hr z o6 hm;refine⟨g',Z'.set i none,M',x,Z2,⟨I.off i _,xr,λj hj=>?_⟩,hr,o6,λσ2 H2 e2 I2=>z _ H2 g' (r.trans (Gr.ex e2)) (I2.off i none)⟩;cases hj;have hl:i<Z'.length:=awd hm;rw[avc (by rw[I.len];exact hl)]
    .exact awb z
   .exact awb z
  .next ht=>exact⟨false,by rw[c2,o2];exact o3 _ _ _ ht c1 _ o1,(λy=>nomatch y),λ_=>ih z⟩
  .exact awb z
def am4(st:X.stack=X.env::X.outer)(hf:X.env.frame=some X.env.locals)(hN:X.N.Nodup)(tk:Takes X W)
  (hb:∀(W':WX) (pn:List (Addr×Obj)) (xe:Value->Shared->Prop),Takes (X.tr pn xe) W'->PassesOwn (model X.prog X.w) X.A X.env xe->Hh aj (X.tr pn xe) W' q body f)
  (hh:Ek X (h0::hds) ls) (ha:J5 X.K aj hs ls):SE aj X W q (.Try body (h0::hds) [] [] pos) (Ux f hs):=by
 refine PS.weak (aj6 (tb:=λW'=>tS X.K aj W' q f) st hf hN tk (λW' pn xe t p=>hb W' pn xe t p) hh) λD σ H ⟨g,Z,M,I,z⟩=>?_;refine⟨g,Z,M,I,?_⟩;unfold Ux at z;cases hfm:f M Z with
 |next Z' M'=>rw[hfm]at z;exact z
 |ret d M'=>rw[hfm]at z;exact z
 |brk Z' M'=>rw[hfm]at z;exact z
 |cont Z' M'=>rw[hfm]at z;exact z
 |bad=>rw[hfm]at z;exact z
 |exc x Z' M'=>
  rw[hfm]at z;exact λσ' H' g' c dd r I' xr=>am9 ha r I' xr z
end
section
variable{K:auT}{aj:aM}{W:WX}{g g':Gh}{H H':Hp}{σ:L2.St}{Z:Env}{M:Mo}
theorem iQ.grow{l:Addr}(r:Gr false g g' H H')(e:Ex H H')(k:Kd g H):∀{n:Bool} {kvs:List (Dat×Dat)},iQ K aj g H l n kvs->iQ K aj g' H' l n kvs
 |false,_,⟨kv,h1,h2,h3⟩=>⟨kv,e _ _ h1,h2,h3.gr r k⟩
 |true,_,⟨o,xs,vs,h1,h2,h3,h4,h5,h6⟩=>⟨o,xs,vs,e _ _ h1,h2,h3,h4.gr r k,h5,h6.gr r k⟩
theorem fj.grow{h:Nat}{f:Str}{v:V}(r:Gr false g g' H H')(e:Ex H H')(o:g'.ow=g.ow)(k:Kd g H):∀{fl:jF},fj K aj g H h f v fl->fj K aj g' H' h f v fl
 |.dat _,z=>Rep.gr r k z
 |.lst _ _,⟨l,us,h1,h2,h3,h4,h5⟩=>⟨l,us,h1,e _ _ h2,by rw[o];exact h3,h4.gr r k,r.tb h5⟩
 |.dic _ _,⟨l,h1,h2,h3⟩=>⟨l,h1,by rw[o];exact h2,h3.grow r e k⟩
theorem cD.grow{h:Nat}(r:Gr false g g' H H')(e:Ex H H')(o:g'.ow=g.ow)(k:Kd g H){fs:LsS V}{gs:LsS jF}(t:cD K aj g H h fs gs):cD K aj g' H' h fs gs:=by
 induction t with
 |nil=>exact .nil
 |cons z _ ih=>exact .cons (z.grow r e o k) ih
def Gh.push(g:Gh)(x:Addr):Gh:={ g with tbl:=g.tbl++[x] }
def aaO{x a:Addr}(z:(g.push x).A a):g.A a\/a=x:=by
 rcases z with(z|z)|z|z
 .rcases au8.mp z with z|z
  .exact .inl (.inl (.inl z))
  .exact .inr (au0.mp z)
 .exact .inl (.inl (.inr z))
 .exact .inl (.inr (.inl z))
 .exact .inl (.inr (.inr z))
def abm{x a:Addr}(z:(g.push x).W a):g.W a\/a=x:=by
 rcases z with z|z
 .rcases au8.mp z with z|z
  .exact .inl (.inl z)
  .exact .inr (au0.mp z)
 .exact .inl (.inr z)
def Xn{x:Addr}(e:Ex H H')(nx:H x=none):Gr false g (g.push x) H H' where
 keep:=λa o h _ _=>e a o h
 keepW:=λz=>nomatch z
 dom:=Ge e
 tbl:=⟨[x],rfl⟩
 W:=λa z=>z.elim (λz=>.inl (avA _ z)) .inr
 nW:=λa z=>(abm z).imp id λz=>by rw[z];exact nx
 qg:=λz=>nomatch z
 Lc:=rfl
 Lo:=λ_ z=>z
 nLo:=λ_ z=>.inl z
def aep{x:Addr}{o:HO}(k:Kd g H)(e:Ex H H')(nx:H x=none)(hx:H' x=some o)(m:Jr o):Kd (g.push x) H' where
 ob:=λa z=>by
  rcases aaO z with z|rfl
  .let⟨u,h1,h2⟩:=k.ob a z
   exact⟨u,e _ _ h1,h2⟩
  .exact⟨o,hx,m⟩
 lo:=λa z y=>by
  rcases abm y with y|rfl
  .exact k.lo a z y
  .let⟨u,h1,_⟩:=k.ob a (.inr (.inr z))
   rw[nx]at h1;cases h1
 lc:=λa z=>by
  refine⟨λy=>?_,(k.lc a z).2⟩;rcases abm y with y|rfl
  .exact(k.lc a z).1 y
  .let⟨u,h1,_⟩:=k.ob a (.inr (.inl z))
   rw[nx]at h1;cases h1
def abv{x:Addr}{c:Str}(k:Kd g H)(w:ig K aj g H M)(e:Ex H H')(nx:H x=none)(hx:c=""\/∃C dx,aj c=some C/\H' x=some (.ins C dx [])):ig K aj (g.push x) H' (M++[⟨c,[]⟩]):=by
 have gt:∀{h:Nat} {a:Addr},(g.push x).tbl[h]?=some a->(g.tbl[h]?=some a)\/(h=M.length/\a=x):=λ{h a} z=>by
  have z:(g.tbl++[x])[h]?=some a:=z;by_cases hl:h<g.tbl.length
  .rw[au9 hl]at z;exact .inl z
  .rw[avf #[]]at z;have:=(auZ.mp z).1;simp at this;have e0:h-g.tbl.length=0:=#[];rw[e0]at z;cases z;exact .inr ⟨by rw[<-w.len];omega,rfl⟩
 have nin:∀{h:Nat},¬g.tbl[h]?=some x:=λ{h} z=>by
  let⟨u,h1,_⟩:=k.ob x (.inl (.inl (au4 z)))
  rw[nx]at h1;cases h1
 have ex:∀{h:Nat} {i:Inst},(M++[(⟨c,[]⟩:Inst)])[h]?=some i->M[h]?=some i\/i=⟨c,[]⟩:=λ{h i} h1=>by
  by_cases hl:h<M.length
  .rw[au9 hl]at h1;exact .inl h1
  .rw[avf #[]]at h1;exact .inr (au0.mp (au4 h1))
 refine⟨by show(g.tbl++[x]).length=_;simp[w.len],λh j a h1 h2=>?_,λh a i h1 h2 hcn=>?_,λh i h1=>?_,λh i h1=>?_,λh a i h1 h2 hcn=>?_,λh i h1 hcn=>?_,w.nc⟩
 .rcases gt h1 with z1|⟨z1,rfl⟩
  .rcases gt h2 with z2|⟨z2,rfl⟩
   .exact w.inj h j a z1 z2
   .exact absurd z1 nin
  .rcases gt h2 with z2|⟨z2,_⟩
   .exact absurd z2 nin
   .omega
 .rcases gt h1 with z1|⟨rfl,rfl⟩
  .have hl:h<M.length:=by rw[<-w.len];exact(auZ.mp z1).1
   rw[au9 hl]at h2;let⟨C',dx',fs,c1,c2,c3⟩:=w.ins h a i z1 h2 hcn
   exact⟨C',dx',fs,c1,e _ _ c2,c3.grow (Xn e nx) e rfl k⟩
  .rw[avf (avd _),Nat.sub_self]at h2;cases h2;rcases hx with rfl|⟨C,dx,hc,hx⟩
   .exact absurd rfl hcn
   .exact⟨C,dx,[],hc,hx,.nil⟩
 .rcases ex h1 with h1|rfl
  .exact w.nd h i h1
  .exact av6
 .rcases ex h1 with h1|rfl
  .exact w.fd h i h1
  .exact λf hf=>absurd hf avm
 .rcases gt h1 with z1|⟨_,rfl⟩
  .have hl:h<M.length:=by rw[<-w.len];exact(auZ.mp z1).1
   rw[au9 hl]at h2;exact w.tw h a i z1 h2 hcn
  .cases hz:g.ow a with
   |none=>exact hz
   |some p=>
    let⟨u,h2,_⟩:=k.ob a (.inl (.inr (by rw[hz];exact λy=>nomatch y)))
    rw[nx]at h2;cases h2
 .rcases ex h1 with h1|rfl
  .exact w.dm h i h1 hcn
  .rfl
def SInv.grow{M':Mo}(r:Gr false g g' H H')(e:Ex H H')(lo:g'.Lo=g.Lo)(k':Kd g' H')(w':ig K aj g' H' M')(I:SInv K aj σ H g Z M):SInv K aj σ H' g' Z M' where
 kd:=k'
 wok:=w'
 len:=I.len
 dat:=λi d h=>by
  let⟨v,h1,h2⟩:=I.dat i d h
  exact⟨v,h1,h2.gr r I.kd⟩
 own:=λi xs h=>by
  let⟨l,us,h1,h2,h3,h4⟩:=I.own i xs h
  exact⟨l,us,h1,e _ _ h2,by rw[lo];exact h3,h4.gr r I.kd⟩
 sep:=I.sep
end
def aeV{P:Program}{w:World}{K:auT}{mg:Str->Option Value}{base:Heap}{k:Nat}{f:Addr}{fd:FuncData}{ps:List Str}{sp:Sp}(F:FnOk P w K mg base (L2.CX P w) k f fd ps sp):FnOk P w K mg base L2.CX0 k f fd ps λvs H Q _=>sp vs H Q λ_ _ _=>False:=
 ⟨λvs H Q E h=>F.len vs H Q _ h,λA outer s H args us vs Q E hr he hb hv h=>codeAny_mono (F.run A outer s H args us vs Q _ hr he hb hv h) λr s' z=>by
  unfold CR at z |-
  split at z
  .exact z
  .exact z
  .let⟨a,B,H',cls,d,_,_,_,_,_,_,_,y⟩:=z
   exact awb y⟩
def Dm(x:Str)(m:Mo->List Dat->aZ Dat)(as:QA):GF:=λM Z=>((as M Z).at M).bind λds _=>match m (M++[⟨x,[]⟩]) (obj M.length::ds) with
 |.ok .none M'=>.ok (obj M.length) M'
 |_=>.bad
section
variable{X:Cx}{aj:aM}{W:WX}{x:Str}{pos p:Pos}{k n:Nat}{m:Mo->List Dat->aZ Dat}{as:QA}{t:TA}{e:Expr}{es:List Expr}
def af3{C f:Addr}{fd:FuncData}{ps:List Str}(hc:aj x=some C)(hp:ps.length=n+1)(hn:∀M Z ds,as M Z=.ok ds->ds.length=n)(ht:∀σ H Q,R4 X.K aj W as σ H Q->t σ H Q)(σ:L2.St)(H:Hp)(Q:VK)(h:tE X.K aj W false (Dm x m as) σ H Q) :
  tMake C (λvs H Q _=>Nv X.K aj ps.length m vs H Q λ_ _ _=>False) [] (λ_ _ _=>False) t σ H Q:=by
 let⟨g,Z,M,I,h⟩:=h
 unfold Dm at h;have h:=h.bnd;refine ht σ H _ ⟨g,Z,M,I,?_⟩;cases has:as M Z with
 |exc x=>rw[has]at h;exact λH' c dd e r=>h H' g c dd (Gr.ex e) (I.ex e) r
 |bad=>rw[has]at h;exact awb h
 |ok ds=>
  rw[has]at h;intro vs H1 e1 r1 y dx ny ndx ne;have I1:=I.ex e1;have e2:Ex H1 (upd (upd H1 dx (.own y)) y (.ins C dx [])):=by refine(Ex.new ndx).trans (Ex.new ?_);rw[upd_ne ne.symm];exact ny
  have hy:upd (upd H1 dx (.own y)) y (.ins C dx []) y=some (.ins C dx []):=awi;have gr:=Xn (g:=g) e2 ny;have kd:=aep I1.kd e2 ny hy awa;have wk:=abv (c:=x) I1.kd I1.wok e2 ny (.inr ⟨C,dx,hc,hy⟩);have I2:=I1.grow gr e2 rfl kd wk;have hb:(g.push y).tbl[M.length]?=some y:=by
   show(g.tbl++[y])[M.length]?=_
   rw[<-I1.wok.len,avf (avd _),Nat.sub_self];rfl
  refine⟨by rw[avy,au5,r1.length,hn M Z ds has,hp],g.push y,M++[⟨x,[]⟩],obj M.length::ds,kd,wk,.cons (.obj hb) (by rw[avy];exact r1.gr gr I1.kd),?_⟩;have h:aZ.sat (match m (M++[(⟨x,[]⟩:Inst)]) (obj M.length::ds) with
   |.ok .none M'=>aZ.ok (obj M.length) M'
   |_=>.bad) (λd M'=>∀v H' g',Gr false g g' H H'->SInv X.K aj σ H' g' Z M'->Rep X.K g' H' v d->Q v H') (gE X.K aj W false g H σ Z):=h
  cases hm:m (M++[⟨x,[]⟩]) (obj M.length::ds) with
  |bad=>rw[hm]at h;exact awb h
  |exc z M'=>rw[hm]at h;exact awb h
  |ok d M'=>
   rw[hm]at h;cases d with
   |none=>exact λv H' g' c k' w' r'=>⟨by cases r';rfl,h (.ref y) H' g' (((Gr.ex e1).trans gr).trans c.gr) (I2.call c k' w') (.obj (c.gr.tb hb))⟩
   |_=>exact awb h
def am0(hr:Room k X.A)(g:pH X.prog X.w X.K X.mg X.base aj k x (.cls n m))(hg:Gl X x)(hd:(x==("__debug__" : Str))=false)(ha:Ja aj X W (e::es) as)(hs:(e::es).all nst=true)(hn:∀M Z ds,as M Z=.ok ds->ds.length=n) :
  GE aj X W false (.Call (.Name x p) (e::es) [] pos) (Dm x m as):=by
 let⟨C,f,fd,ps,j,g1,g2,_,g3,hj,hp,hB,F⟩:=g
 have hs':=hs;rw[avw,auU]at hs';exact PE.weak (pe_make (E:=λ_ _ _=>False) g3 (aeV F) (hr.mono hj) hg g1 hB .nil pass0 ha hd (bZ hs'.1 es) (star_any es hs'.2)) λσ H Q h=>af3 (f:=f) (fd:=fd) g2 hp hn (λ_ _ _ z=>z) σ H Q h
def als(hr:Room k X.A)(g:pH X.prog X.w X.K X.mg X.base aj k x (.cls 0 m))(hg:Gl X x)(hd:(x==("__debug__" : Str))=false):GE aj X W false (.Call (.Name x p) [] [] pos) (Dm x m dD):=by
 let⟨C,f,fd,ps,j,g1,g2,_,g3,hj,hp,hB,F⟩:=g
 exact PE.weak (pe_make0 (E:=λ_ _ _=>False) g3 (aeV F) (hr.mono hj) hg g1 hB .nil pass0 hd) λσ H Q h=>af3 (f:=f) (fd:=fd) (as:=dD) g2 hp (λM Z ds z=>by cases z;rfl) (λσ H Q ⟨g,Z,M,I,z⟩=>z [] H (Ex.refl H) .nil) σ H Q h
end
def yj(m:Mo->List Dat->aZ Dat)(as:QA):GF:=λM Z=>((as M Z).at M).bind λds _=>m M ds
section
variable{X:Cx}{aj:aM}{W:WX}{e:Expr}{es:List Expr}{pos p:Pos}{x:Str}{k:Nat}{f:Addr}{fd:FuncData}{ps:List Str}
def akr{m:Mo->List Dat->aZ Dat}{as:QA}(tk:Takes X W)(F:FnOk X.prog X.w X.K X.mg X.base (L2.CX X.prog X.w) k f fd ps (Nv X.K aj ps.length m))(hr:Room k X.A)(hg:Gl X x)(hm:X.mg x=some (.ref f))(hk:PySem.W.keepIn X.K (.ref f)=true)(hb:Binds X.K fd ps [])
  (ha:Ja aj X W (e::es) as) (hl:(e::es).length=ps.length) (hd:(x==("__debug__" : Str))=false) (hs:(e::es).all nst=true) (hn:∀M Z ds,as M Z=.ok ds->ds.length=(e::es).length):GE aj X W false (.Call (.Name x p) (e::es) [] pos) (yj m as):=by
 have hs':=hs;rw[avw,auU]at hs';refine PE.weak (pe_callS (E:=λσ=>WE W σ) F hr hg hm hk hb (λσ=>passAt tk σ) ha hd (bZ hs'.1 es) (star_any es hs'.2)) λσ H Q ⟨g,Z,M,I,h⟩=>?_;refine⟨g,Z,M,I,?_⟩;have h:=h.bnd;cases has:as M Z with
 |exc x=>rw[has]at h;exact λH' c dd e r=>h H' g c dd (Gr.ex e) (I.ex e) r
 |bad=>rw[has]at h;exact awb h
 |ok ds=>
  rw[has]at h;have h:(m M ds).sat (λd M'=>∀v H' g',Gr false g g' H H'->SInv X.K aj σ H' g' Z M'->Rep X.K g' H' v d->Q v H') (gE X.K aj W false g H σ Z):=h;intro vs H1 e1 r1;exact⟨by rw[r1.length,hn M Z ds has];exact hl,g,M,ds,I.kd.ex e1,I.wok.ex e1 I.kd,r1,h.mono (λd M' kk v H' g' c k' w' r'=>kk v H' g' ((Gr.ex e1).trans c.gr) ((I.ex e1).call c k' w') r') λx M' kk H' g' cc dd c k' w' r'=>kk H' g' cc dd ((Gr.ex e1).trans c.gr) ((I.ex e1).call c k' w') r'⟩
end
def Ft.has(ft:Ft)(c f:Str):Bool:=match ft.lookup c with
 |some fs=>fs.contains f
 |none=>false
def Oj(ft:Ft)(aj:aM):Prop:=∀c f,ft.has c f=true->f∈aj.fl c
def unH:Dat->Option Nat
 |.dict [(.none,.int (.ofNat h))]=>some h
 |_=>none
def aiQ{d:Dat}{h:Nat}(e:unH d=some h):d=obj h:=by
 unfold unH at e;split at e
 .cases e;rfl
 .cases e
def lQ(M:Mo)(d:Dat):Option (Nat×Inst):=(unH d).bind λh=>(M[h]?).bind λi=>match i.cls=="" with
 |true=>none
 |false=>some (h,i)
def Mf{M:Mo}{d:Dat}{h:Nat}{i:Inst}(e:lQ M d=some (h,i)):d=obj h/\M[h]?=some i/\i.cls≠"":=by
 unfold lQ at e;let⟨h',e1,e⟩:=auW.mp e
 let⟨i',e2,e⟩:=auW.mp e
 split at e
 .cases e
 .next hc=>
  cases e;exact⟨aiQ e1,e2,λz=>by rw[z]at hc;cases hc⟩
def wV(ft:Ft)(o:QF)(f:Str)(e:GF):SF:=λM Z=>(e M Z).then Z λd M1=>((o M1 Z).at M1).then Z λod M2=>match lQ M2 od with
 |some (h,i)=>match ft.has i.cls f&&decide (i.fs.length<100) with
  |true=>.next Z (M2.set h (i.put f (.dat d)))
  |false=>.bad
 |none=>.bad
def SInv.chg{K:auT}{aj:aM}{σ:L2.St}{H H':Hp}{g g':Gh}{Z:Env}{M M':Mo}{h:Nat}{f:Str}(I:SInv K aj σ H g Z M)(c:Chg M g g' H H' h f)(w:ig K aj g' H' M'):SInv K aj σ H' g' Z M':=I.call c.gc c.kd w
section
variable{X:Cx}{aj:aM}{W:WX}{o e:Expr}{f:Str}{pos pos':Pos}{ft:Ft}{fo:QF}
def Km{K:auT}{g:Gh}{H:Hp}{M:Mo}{d:Dat}{v:V}{h:Nat}{i:Inst}(co:j5 K aj)(fk:Oj ft aj)(w:ig K aj g H M)(r:fu K g H v d)(hi:lQ M d=some (h,i))(hf:ft.has i.cls f=true):∃a C dx fs,d=obj h/\M[h]?=some i/\i.cls≠""/\g.tbl[h]?=some a/\v=.ref a/\aj i.cls=some C/\H a=some (.ins C dx fs)/\cD K aj g H h fs i.fs/\Cls K C/\NoAttr K C f/\f∈aj.fl i.cls:=by
 let⟨rfl,h1,h2⟩:=Mf hi
 let⟨a,rfl,ha⟩:=Qc r
 let⟨C,dx,fs,c1,c2,c3⟩:=w.ins h a i ha h1 h2
 have hfl:=fk _ _ hf;let⟨k1,k2⟩:=co i.cls C f c1 hfl
 exact⟨a,C,dx,fs,rfl,h1,h2,ha,rfl,c1,c2,c3,k1,k2,hfl⟩
def ajW{fe:GF}(co:j5 X.K aj)(fk:Oj ft aj)(ho:QW aj X W o fo)(he:GE aj X W false e fe)(hs:swapsWith e (some (.Attribute o f pos')) pos.line X.env=pure false):SE aj X W false (.Assign [.Attribute o f pos'] e pos) (wV ft fo f fe):=by
 refine PS.weak (ps_fld ho he hs) λD σ H ⟨g,Z,M,I,z⟩=>?_;refine tE.go I (dI (σ:=σ) z) λd M1 v H1 g1 k1 r1 I1 rv=>?_;refine tW.go I1 (k:=λod=>((match lQ M1 od with
  |some (h,i)=>match ft.has i.cls f&&decide (i.fs.length<100) with
   |true=>uO.next Z (M1.set h (i.put f (.dat d)))
   |false=>.bad
  |none=>.bad).sat (sN X.K aj false D.nx g H) (sR X.K aj false D.rt g H) (sN X.K aj false D.bk g H) (sN X.K aj false D.ct g H) (sX X.K aj W false g H))) ?_ λod u H2 k2 e2 ru=>?_
 .have k1:=Out.jH (dI (σ:=σ) k1);exact k1.mono (λ_ y=>y) λx y H' c dd ex rx=>y H' g1 c dd (r1.trans (Gr.ex ex)) (I1.ex ex) rx
 .have I2:=I1.ex e2;split at k2
  .next h i hi=>
   split at k2
   .next hb=>
    rw[auU]at hb;let⟨a,C,dx,fs,_,m1,m2,ha,rfl,c1,c2,c3,c4,c5,c6⟩:=Km co fk I2.wok ru hi hb.1
    refine⟨a,C,dx,fs,rfl,c2,c4,c5,?_,?_⟩
    .have:=awd hb.2;rw[c3.len];omega
    .have ch:=XS (f:=f) (C:=C) (dx:=dx) (fs':=putF f v fs) I2.kd I2.wok ha m1 m2;have w':=I2.wok.chg I2.kd ch ha m1 m2 c6 c1 c3 awi (fl:=.dat d) (show Rep X.K g1 _ v d from(rv.ex e2 I1.kd).gr ch.gc.gr I2.kd);exact k2 σ _ g1 ((r1.trans (Gr.ex e2)).trans ch.gc.gr) (I2.chg ch w')
   .exact awb k2
  .exact awb k2
end
mutual
theorem Rep.mv{K:auT}{g g':Gh}{H:Hp}(tb:∀(h:Nat) (a:Addr),g.tbl[h]?=some a->g'.tbl[h]?=some a)(n:∀a,g'.A a->g.A a):∀{v:V} {d:Dat},Rep K g H v d->Rep K g' H v d
 |_,_,.non=>.non
 |_,_,.bl b=>.bl b
 |_,_,.int i=>.int i
 |_,_,.str x=>.str x
 |_,_,.tup h t=>.tup h (aF.mv tb n t)
 |_,_,.lst h t=>.lst (h.elim (λz=>.inl ⟨z.1,λy=>z.2 (n _ y)⟩) .inr) (aF.mv tb n t)
 |_,_,.obj h=>.obj (tb _ _ h)
theorem aF.mv{K:auT}{g g':Gh}{H:Hp}(tb:∀(h:Nat) (a:Addr),g.tbl[h]?=some a->g'.tbl[h]?=some a)(n:∀a,g'.A a->g.A a):∀{vs:List V} {ds:List Dat},aF K g H vs ds->aF K g' H vs ds
 |_,_,.nil=>.nil
 |_,_,.cons h t=>.cons (Rep.mv tb n h) (aF.mv tb n t)
end
def Hw(ft:Ft)(o:QF)(f:Str)(e:IF):SF:=λM Z=>((e M Z).at M).then Z λxs M0=>((o (M0++[⟨"",[]⟩]) Z).at (M0++[⟨"",[]⟩])).then Z λod M2=>match lQ M2 od with
 |some (h,i)=>match ft.has i.cls f&&decide (i.fs.length<100) with
  |true=>.next Z (M2.set h (i.put f (.lst M0.length xs)))
  |false=>.bad
 |none=>.bad
def OD{K:auT}{aj:aM}{σ:L2.St}{H H':Hp}{g:Gh}{Z:Env}{M:Mo}{l:Addr}{o:HO}(I:SInv K aj σ H g Z M)(nl:H l=none)(e:Ex H H')(hl:H' l=some o)(m:Jr o):Gr false g (g.push l) H H'/\SInv K aj σ H' (g.push l) Z (M++[⟨"",[]⟩])/\(g.push l).tbl[M.length]?=some l/\(g.push l).ow l=none/\(M++[(⟨"",[]⟩:Inst)])[M.length]?=some ⟨"",[]⟩:=by
 have gr:=Xn (g:=g) e nl;have kd:=aep I.kd e nl hl m;have wk:=abv (c:="") I.kd I.wok e nl (.inl rfl)
 refine⟨gr,I.grow gr e rfl kd wk,?_,?_,?_⟩
 .show(g.tbl++[l])[M.length]?=_
  rw[<-I.wok.len,avf (avd _),Nat.sub_self];rfl
 .cases hz:g.ow l with
  |none=>exact hz
  |some p=>
   let⟨u,h1,_⟩:=I.kd.ob l (.inl (.inr (by rw[hz];exact λy=>nomatch y)))
   rw[nl]at h1;cases h1
 .rw[avf (avd _),Nat.sub_self];rfl
section
variable{X:Cx}{aj:aM}{W:WX}{o e:Expr}{f:Str}{pos pos' p1 apos epos spos:Pos}{ft:Ft}{fo:QF}
def alf{fe:IF}(co:j5 X.K aj)(fk:Oj ft aj)(ho:QW aj X W o fo)(he:FE aj X W e fe)(hs:swapsWith e (some (.Attribute o f pos')) pos.line X.env=pure false):SE aj X W false (.Assign [.Attribute o f pos'] e pos) (Hw ft fo f fe):=by
 refine PS.weak (ps_fld ho he hs) λD σ H ⟨g,Z,M,I,z⟩=>?_;refine⟨g,Z,M,I,?_⟩;unfold Hw at z;cases hf:fe M Z with
 |exc x=>rw[hf]at z;exact λH' c dd e r=>z σ H' g c dd (Gr.ex e) (I.ex e) r.fr
 |bad=>rw[hf]at z;exact awb z
 |ok xs=>
  rw[hf]at z;intro l us H1 nl e1 hl rs;let⟨gr,I1,tb,ow,mm⟩:=OD I nl e1 hl awa
  have rs1:aF X.K (g.push l) H1 us xs:=aF.mv (g:=g.add l) (g':=g.push l) (λh a z=>gr.tb (g:=g) z) (λa z=>by
   rcases aaO z with z|rfl
   .rcases z with z|z|z
    .exact .inl z
    .exact .inr (.inl z)
    .exact .inr (.inr (show g.Lo a\/a=l from Or.inl z))
   .exact .inr (.inr (show g.Lo a\/a=a from Or.inr rfl))) rs
  have z:(((fo (M++[⟨"",[]⟩]) Z).at (M++[⟨"",[]⟩])).then Z λod M2=>match lQ M2 od with
   |some (h,i)=>match ft.has i.cls f&&decide (i.fs.length<100) with
    |true=>.next Z (M2.set h (i.put f (.lst M.length xs)))
    |false=>.bad
   |none=>.bad).sat (sN X.K aj false D.nx g H) (sR X.K aj false D.rt g H) (sN X.K aj false D.bk g H) (sN X.K aj false D.ct g H) (sX X.K aj W false g H):=z
  have k1:=Out.jH (dI (σ:=σ) z);refine tW.go I1 (k1.mono (λ_ y=>y) λx y H' c dd ex rx=>y H' _ c dd (gr.trans (Gr.ex ex)) (I1.ex ex) rx) λod u H2 k2 e2 ru=>?_;have I2:=I1.ex e2;split at k2
  .next h i hi=>
   split at k2
   .next hb=>
    rw[auU]at hb;let⟨a,C,dx,fs,_,m1,m2,ha,rfl,c1,c2,c3,c4,c5,c6⟩:=Km co fk I2.wok ru hi hb.1
    have nla:l≠a:=λz=>by
     subst z;cases I2.wok.inj _ _ _ ha tb;rw[mm]at m1;cases m1;exact m2 rfl
    refine⟨a,C,dx,fs,rfl,c2,c4,c5,?_,?_⟩
    .have:=awd hb.2;rw[c3.len];omega
    .have ch:=W0 (f:=f) (C:=C) (dx:=dx) (fs':=putF f (.ref l) fs) I2.kd I2.wok ha m1 m2 tb mm ow;have w':=I2.wok.chg I2.kd ch ha m1 m2 c6 c1 c3 awi (v:=.ref l) (fl:=.lst M.length xs) ⟨l,us,rfl,by rw[upd_ne nla];exact e2 _ _ hl,awg rfl,(rs1.ex e2 I1.kd).gr ch.gc.gr I2.kd,ch.gc.gr.tb tb⟩;exact k2 σ _ _ ((gr.trans (Gr.ex e2)).trans ch.gc.gr) (I2.chg ch w')
   .exact awb k2
  .exact awb k2
def Je(M:Mo)(f:Str)(d:Dat):Option (Nat×Inst×Nat×List Dat):=(lQ M d).bind λp=>match p.2.fs.lookup f with
 |some (.lst n xs)=>some (p.1,p.2,n,xs)
 |_=>none
def Xl{K:auT}{g:Gh}{H:Hp}{M:Mo}{d:Dat}{v:V}{h n:Nat}{i:Inst}{xs:List Dat}(co:j5 K aj)(w:ig K aj g H M)(r:fu K g H v d)(hi:Je M f d=some (h,i,n,xs)) :
  ∃a C dx fs l us,d=obj h/\M[h]?=some i/\i.cls≠""/\i.fs.lookup f=some (.lst n xs)/\g.tbl[h]?=some a/\v=.ref a/\aj i.cls=some C/\H a=some (.ins C dx fs)/\cD K aj g H h fs i.fs/\Cls K C/\NoAttr K C f/\f∈aj.fl i.cls/\fs.lookup f=some (.ref l)/\H l=some (.lst us)/\g.ow l=some (h,f)/\aF K g H us xs/\g.tbl[n]?=some l:=by
 unfold Je at hi;let⟨⟨h',i'⟩,h1,hi⟩:=auW.mp hi
 split at hi
 .next n' xs' hl=>
  cases hi;let⟨rfl,m1,m2⟩:=Mf h1
  let⟨a,rfl,ha⟩:=Qc r
  let⟨C,dx,fs,c1,c2,c3⟩:=w.ins _ a _ ha m1 m2
  have hfl:=w.fd _ _ m1 f (lookup_mem hl);let⟨k1,k2⟩:=co _ C f c1 hfl
  let⟨u,l1,l,us,rfl,l3,l4,l5,l6⟩:=c3.get hl
  exact⟨a,C,dx,fs,l,us,rfl,m1,m2,hl,ha,rfl,c1,c2,c3,k1,k2,hfl,l1,l3,l4,l5,l6⟩
 .cases hi
def adY{K:auT}{σ:L2.St}{Z:Env}{g:Gh}{H:Hp}{M:Mo}{h n:Nat}{i:Inst}{ys:List Dat}{a C dx l:Addr}{fs:LsS V}{us':List V}(I:SInv K aj σ H g Z M)(m1:M[h]?=some i)(m2:i.cls≠"")(ha:g.tbl[h]?=some a)(c1:aj i.cls=some C)(c2:H a=some (.ins C dx fs))(c3:cD K aj g H h fs i.fs)(hfl:f∈aj.fl i.cls)(l1:fs.lookup f=some (.ref l))(l4:g.ow l=some (h,f))(l6:g.tbl[n]?=some l)(rs:aF K g H us' ys) :
  Gr false g g H (upd H l (.lst us'))/\SInv K aj σ (upd H l (.lst us')) g Z (M.set h (i.put f (.lst n ys))):=by
 have ch:=agz (o':=.lst us') I.kd I.wok l4 awa;have nla:a≠l:=λz=>by
  subst z;rw[I.wok.tw h a i ha m1 m2]at l4;cases l4
 have w':=I.wok.chg I.kd ch ha m1 m2 hfl c1 (dx:=dx) c3 (v:=.ref l) (fl:=.lst n ys) (by rw[upd_ne nla,Pa l1];exact c2) ⟨l,us',rfl,awi,l4,rs.gr ch.gc.gr I.kd,l6⟩;exact⟨ch.gc.gr,I.chg ch w'⟩
def IW(f:Str)(o:QF)(e:GF):SF:=λM Z=>((o M Z).at M).then Z λod M0=>match Je M0 f od with
 |some (_,_,n,_)=>(e M0 Z).then Z λd M1=>match Je M1 f od with
  |some (h,i,n',xs)=>match n==n'&&decide (xs.length<100000) with
   |true=>.next Z (M1.set h (i.put f (.lst n (xs++[d]))))
   |false=>.bad
  |none=>.bad
 |none=>.bad
def ajJ{fe:GF}(co:j5 X.K aj)(ho:QW aj X W o fo)(hb:baseOk o=true)(he:GE aj X W false e fe)(hs:nst e=true)(hl:(apos.endLine==pos.line)=true) :
  SE aj X W false (.Expr (.Call (.Attribute (.Attribute o f p1) "append" apos) [e] [] pos) epos) (IW f fo fe):=by
 have h0:=pe_fld (X:=X) (pos:=p1) (f:=f) ho (mJ hb);have h1:=pa_cons he pa_nil (bZ hs []);have key:=pe_bm (X:=X) (cpos:=pos) (apos:=apos) PySem.F.plainAttrs_list PySem.F.slot_list_append PySem.F.type_list_append mt_append h0 h1 (mJ rfl) (few (by simp[hs]) (by simp)) hl (bZ hs []) #[rfl];refine PS.weak (ps_expr key #[rfl]) λD σ H ⟨g,Z,M,I,z⟩=>?_;unfold IW at z;have k1:=Out.jH (dI (σ:=σ) z);refine tW.go I (k1.mono (λ_ y=>y) λx y H' c dd ex rx=>y H' _ c dd (Gr.ex ex) (I.ex ex) rx) λod u H1 k2 e1 ru=>?_;have I1:=I.ex e1;split at k2
 .next h0' i0 n xs0 hi=>
  let⟨a,C,dx,fs,l,us,rfl,m1,m2,ml,ha,rfl,c1,c2,c3,c4,c5,c6,l1,l3,l4,l5,l6⟩:=Xl co I1.wok ru hi
  refine⟨a,C,dx,fs,.ref l,rfl,c2,c4,c5,l1,.inl ⟨rfl,us,sq_of l3⟩,?_⟩;refine tE.go I1 ((dI (σ:=σ) k2).mono (λ_ _ y=>y) λx M' y=>y.gr (Gr.ex e1)) λd M1 v H2 g2 k3 r2 I2 rv=>?_;split at k3
  .next h i n' xs hi2=>
   split at k3
   .next hg=>
    rw[auU]at hg;cases awj hg.1;have ru2:fu X.K g2 H2 (.ref a) (obj h0'):=Rep.weak (.obj (r2.tb ha));let⟨a',C',dx',fs',l',us',eh,n1,n2,nl,hb',ea,d1,d2,d3,d4,d5,d6,p1,p3,p4,p5,p6⟩:=Xl co I2.wok ru2 hi2
    cases ea;have el:l'=l:=avi (p6.symm.trans (r2.tb l6));subst el;let⟨gr,I3⟩:=adY (us':=us'++[v]) (ys:=xs++[d]) I2 n1 n2 hb' d1 d2 d3 d6 p1 p4 p6 (p5.append (.cons rv .nil))
    refine⟨l',us',v,rfl,rfl,p3,sz_lt (by rw[p5.length];exact awd hg.2),?_⟩;exact k3 σ _ g2 (((Gr.ex e1).trans r2).trans gr) I3
   .exact awb k3
  .exact awb k3
 .exact awb k2
def Vr(f:Str)(o fi e:QF):SF:=λM Z=>((e M Z).at M).then Z λd _=>((o M Z).at M).then Z λod _=>match Je M f od with
 |some (h,i,n,xs)=>((fi M Z).at M).then Z λk _=>match k with
  |.int k=>match ixN xs.length k with
   |some j=>.next Z (M.set h (i.put f (.lst n (xs.set j d))))
   |none=>.bad
  |_=>.bad
 |none=>.bad
def akZ{i:Expr}{fi fe:QF}(co:j5 X.K aj)(ho:QW aj X W o fo)(hb:baseOk o=true)(he:QE aj X W e fe)(hi:QE aj X W i fi)
  (ha:∀v,assign (.Subscript (.Attribute o f p1) i spos) X.env v=(do
   let ov <-holding [v] (eval (.Attribute o f p1) X.env)
   let iv <-holding [v,ov] (eval i X.env)
   standAt spos
   holding [v,ov,iv] (setItem ov iv v)
   release [v,ov,iv] []))
  (hs:swapsWithSole [.Subscript (.Attribute o f p1) i spos] e pos.line X.env=pure false) (h1:(assignEach [.Subscript (.Attribute o f p1) i spos] X.env).map (·.2)=[assign (.Subscript (.Attribute o f p1) i spos) X.env]):SE aj X W false (.Assign [.Subscript (.Attribute o f p1) i spos] e pos) (Vr f fo fi fe):=by
 have h0:=pe_fld (X:=X) (pos:=p1) (f:=f) ho (mJ hb);refine PS.weak (ps_asg he (pg_sub h0 hi set_list ha) hs #[rfl] h1) λD σ H ⟨g,Z,M,I,z⟩=>?_;unfold Vr at z;have k1:=Out.jH (dI (σ:=σ) z);refine tQ.go I (k1.mono (λ_ y=>y) λx y H' c dd ex rx=>y H' _ c dd (Gr.ex ex) (I.ex ex) rx) λd v H1 k2 e1 rv=>?_;have I1:=I.ex e1;have k2:=Out.jH (dI (σ:=σ) k2);refine tW.go I1 (k2.mono (λ_ y=>y) λx y H' c dd ex rx=>y H' _ c dd ((Gr.ex e1).trans (Gr.ex ex)) (I1.ex ex) rx) λod u H2 k3 e2 ru=>?_;have I2:=I1.ex e2;have e12:=e1.trans e2;split at k3
 .next h i' n xs hl=>
  let⟨a,C,dx,fs,l,us,rfl,m1,m2,ml,ha',rfl,c1,c2,c3,c4,c5,c6,l1,l3,l4,l5,l6⟩:=Xl co I2.wok ru hl
  refine⟨a,C,dx,fs,.ref l,rfl,c2,c4,c5,l1,?_⟩;have k3:=Out.jH (dI (σ:=σ) k3);refine tQ.go I2 (k3.mono (λ_ y=>y) λx y H' c dd ex rx=>y H' _ c dd ((Gr.ex e12).trans (Gr.ex ex)) (I2.ex ex) rx) λk w H3 k4 e3 rw'=>?_;have I3:=I2.ex e3;cases k with
  |int k=>
   simp only at k4;split at k4
   .next j hj=>
    cases rw';let⟨gr,I4⟩:=adY (us':=us.set j v) (ys:=xs.set j d) I3 m1 m2 ha' c1 (e3 _ _ c2) (c3.ex e3 I2.kd) c6 l1 l4 l6 (((l5.ex e3 I2.kd).set ((rv.ex e2 I1.kd).ex e3 I2.kd) j))
    refine⟨l,us,k,j,rfl,rfl,e3 _ _ l3,by rw[l5.length];exact hj,?_⟩;exact k4 σ _ g ((Gr.ex (e12.trans e3)).trans gr) I4
   .exact awb k4
  |_=>exact awb k4
 .exact awb k3
def Wm(ft:Ft)(f:Str)(o e:QF):SF:=λM Z=>((o M Z).at M).then Z λod _=>match lQ M od with
 |some (h,i)=>match i.fs.lookup f,ft.has i.cls f&&decide (i.fs.length<100) with
  | #[.int a],true=>((e M Z).at M).then Z λd _=>match d with
   |.int b=>.next Z (M.set h (i.put f (.dat (.int (a+b)))))
   |_=>.bad
  |_,_=>.bad
 |none=>.bad
def ai5:InOp X .Add (λx y H Q=>∃i j,x=.int i/\y=.int j/\Q (.int (i+j)) H):=by
 intro pins s σ H x y u v Q I rx ry h;let⟨i,j,rfl,rfl,q⟩:=h
 exact iop_add pins s σ H _ _ u v Q I rx ry ⟨i,j,rfl,rfl,q⟩
def akX{fe:QF}{tpos:Pos}(co:j5 X.K aj)(fk:Oj ft aj)(ho:QW aj X W o fo)(he:QE aj X W e fe):SE aj X W false (.AugAssign (.Attribute o f tpos) .Add e pos) (Wm ft f fo fe):=by
 refine PS.weak (ps_fldaug ho he ai5) λD σ H ⟨g,Z,M,I,z⟩=>?_;unfold Wm at z;have k1:=Out.jH (dI (σ:=σ) z);refine tW.go I (k1.mono (λ_ y=>y) λx y H' c dd ex rx=>y H' _ c dd (Gr.ex ex) (I.ex ex) rx) λod u H1 k2 e1 ru=>?_;have I1:=I.ex e1;split at k2
 .next h i hi=>
  split at k2
  .next b hlk hb=>
   rw[auU]at hb;let⟨a,C,dx,fs,_,m1,m2,ha,rfl,c1,c2,c3,c4,c5,c6⟩:=Km co fk I1.wok ru hi hb.1
   let⟨v,l1,l2⟩:=c3.get hlk
   refine⟨a,C,dx,fs,v,rfl,c2,c4,c5,l1,?_⟩;have k2:=Out.jH (dI (σ:=σ) k2);refine tQ.go I1 (k2.mono (λ_ y=>y) λx y H' c dd ex rx=>y H' _ c dd ((Gr.ex e1).trans (Gr.ex ex)) (I1.ex ex) rx) λd w H2 k3 e2 rd=>?_;have I2:=I1.ex e2;cases d with
   |int j=>
    cases rd;have l2:Rep X.K g H1 v (.int b):=l2;cases l2;refine⟨b,j,rfl,rfl,dx,fs,e2 _ _ c2,?_,?_⟩
    .have:=awd hb.2;rw[c3.len];omega
    .have ch:=XS (f:=f) (C:=C) (dx:=dx) (fs':=putF f (.int (b+j)) fs) I2.kd I2.wok ha m1 m2;have w':=I2.wok.chg I2.kd ch ha m1 m2 c6 c1 (c3.ex e2 I1.kd) awi (v:=.int (b+j)) (fl:=.dat (.int (b+j))) (show Rep X.K g _ _ _ from .int _);exact k3 σ _ g ((Gr.ex (e1.trans e2)).trans ch.gc.gr) (I2.chg ch w')
   |_=>exact awb k3
  .exact awb k2
 .exact awb k2
end
mutual
def nO:Dat->Option NestedKey
 |.none=>some .none
 |.int i=>some (.num i)
 |.str x=>some (.text x)
 |.tuple ds=>(yZ ds).map .tup
 |.bool _=>none
 |.list _=>none
 |.dict _=>none
def yZ:List Dat->Option (List NestedKey)
 |[]=>some []
 |d::ds=>(nO d).bind λk=>(yZ ds).bind λks=>some (k::ks)
end
mutual
theorem qJ:∀{d:Dat} {k:NestedKey},nO d=some k->k.data=d
 |.none,_,h=>by cases h;rfl
 |.int i,_,h=>by cases h;rfl
 |.str x,_,h=>by cases h;rfl
 |.tuple ds,_,h=>by
  rw[nO,avL]at h;let⟨ks,h1,rfl⟩:=h
  rw[NestedKey.data,WK h1]
theorem WK:∀{ds:List Dat} {ks:List NestedKey},yZ ds=some ks->NestedKey.datas ks=ds
 |[],_,h=>by cases h;rfl
 |d::ds,_,h=>by
  rw[yZ]at h;obtain⟨k,h1,h⟩;obtain⟨ks,h2,h⟩;cases h;rw[NestedKey.datas,qJ h1,WK h2]
end
mutual
theorem ac1:∀a b:NestedKey,PyData.eqv a.data b.data=NestedKey.beq a b
 |.none,.none=>by simp[NestedKey.data,PyData.eqv,NestedKey.beq]
 |.none,.num _=>by simp[NestedKey.data,PyData.eqv,NestedKey.beq]
 |.none,.text _=>by simp[NestedKey.data,PyData.eqv,NestedKey.beq]
 |.none,.tup _=>by simp[NestedKey.data,PyData.eqv,NestedKey.beq]
 |.num _,.none=>by simp[NestedKey.data,PyData.eqv,NestedKey.beq]
 |.num a,.num b=>by simp[NestedKey.data,PyData.eqv,NestedKey.beq];rfl
 |.num _,.text _=>by simp[NestedKey.data,PyData.eqv,NestedKey.beq]
 |.num _,.tup _=>by simp[NestedKey.data,PyData.eqv,NestedKey.beq]
 |.text _,.none=>by simp[NestedKey.data,PyData.eqv,NestedKey.beq]
 |.text _,.num _=>by simp[NestedKey.data,PyData.eqv,NestedKey.beq]
 |.text a,.text b=>by simp[NestedKey.data,PyData.eqv,NestedKey.beq];rfl
 |.text _,.tup _=>by simp[NestedKey.data,PyData.eqv,NestedKey.beq]
 |.tup _,.none=>by simp[NestedKey.data,PyData.eqv,NestedKey.beq]
 |.tup _,.num _=>by simp[NestedKey.data,PyData.eqv,NestedKey.beq]
 |.tup _,.text _=>by simp[NestedKey.data,PyData.eqv,NestedKey.beq]
 |.tup as,.tup bs=>by
  rw[NestedKey.data,NestedKey.data,PyData.eqv,NestedKey.beq];exact acj as bs
theorem acj:∀as bs:List NestedKey,PyData.eqvAll (NestedKey.datas as) (NestedKey.datas bs)=NestedKey.beqAll as bs
 |[],[]=>by simp[NestedKey.datas,PyData.eqvAll,NestedKey.beqAll]
 |[],_::_=>by simp[NestedKey.datas,PyData.eqvAll,NestedKey.beqAll]
 |_::_,[]=>by simp[NestedKey.datas,PyData.eqvAll,NestedKey.beqAll]
 |a::as,b::bs=>by
  rw[NestedKey.datas,NestedKey.datas,PyData.eqvAll,NestedKey.beqAll,ac1 a b,acj as bs]
end
def Fb(a b:NestedKey):PyData.eqv a.data b.data=decide (a=b):=by rw[ac1,NestedKey.decide_eq]
section
variable{X:Cx}{pins:List (Addr×Obj)}{σ:L2.St}{H:Hp}{s:Shared}{g:Gh}
mutual
theorem key_is(I:L2.Inv X pins σ H s):∀{v:V} {d:Dat} {k:NestedKey} {u:Value},Rep X.K g H v d->nO d=some k->RelV v u->NestedIs s.heap k u
 |_,_,_,u,.non,e,r=>by
  cases e
  obtain rfl:u=.none:=r
  exact .none
 |_,_,_,_,.int i,e,r=>by
  cases e;let⟨t,rfl⟩:=r
  exact .int i t
 |_,_,_,_,.str x,e,r=>by
  cases e;let⟨t,rfl⟩:=r
  exact .text x t
 |_,_,_,u,.tup (a:=a) h t,e,r=>by
  rw[nO,avL]at e;let⟨ks,h1,rfl⟩:=e
  obtain rfl:u=.ref a:=r
  let⟨its,r1,⟨o,e1,c1,n,d1⟩,_⟩:=I.tuple h
  exact .tup e1 c1 d1 (by simpa using aem I t h1 r1)
 |_,_,_,_,.bl b,e,r=>by cases e
 |_,_,_,_,.lst _ _,e,r=>by cases e
 |_,_,_,_,.obj _,e,r=>by cases e
theorem aem(I:L2.Inv X pins σ H s):∀{vs:List V} {ds:List Dat} {ks:List NestedKey} {us:List Value},aF X.K g H vs ds->yZ ds=some ks->Vals vs us->NestedAll s.heap ks us
 |_,_,_,_,.nil,e,r=>by
  cases e;cases r;exact .nil
 |_,_,_,_,.cons h t,e,r=>by
  rw[yZ]at e;let⟨k,h1,e⟩:=auW.mp e
  let⟨ks,h2,e⟩:=auW.mp e
  cases e;cases r with
  |cons r1 r2=>exact .cons (key_is I h h1 r1) (aem I t h2 r2)
end
end
mutual
theorem aee:∀k:NestedKey,nO k.data=some k
 |.none=>rfl
 |.num _=>rfl
 |.text _=>rfl
 |.tup ks=>by rw[NestedKey.data,nO,aaV ks];rfl
theorem aaV:∀ks:List NestedKey,yZ (NestedKey.datas ks)=some ks
 |[]=>rfl
 |k::ks=>by rw[NestedKey.datas,yZ,aee k,aaV ks];rfl
end
def dhas:Bool->List (Dat×Dat)->Dat->Out Bool
 |false,kvs,.int i=>.ok (kvs.any λp=>PyData.eqv p.1 (.int i))
 |true,kvs,.tuple ds=>match nO (.tuple ds) with
  |some k=>match decide (k.depth<=8) with
   |true=>.ok (kvs.any λp=>PyData.eqv p.1 (.tuple ds))
   |false=>.bad
  |none=>.bad
 |_,_,_=>.bad
def Bf(M:Mo)(f:Str)(d:Dat):Option (Nat×Inst×Bool×List (Dat×Dat)):=(lQ M d).bind λp=>match p.2.fs.lookup f with
 |some (.dic b kvs)=>some (p.1,p.2,b,kvs)
 |_=>none
section
variable{aj:aM}{f:Str}
def KQ{K:auT}{g:Gh}{H:Hp}{M:Mo}{d:Dat}{v:V}{h:Nat}{i:Inst}{b:Bool}{kvs:List (Dat×Dat)}(co:j5 K aj)(w:ig K aj g H M)(r:fu K g H v d)(hi:Bf M f d=some (h,i,b,kvs)) :
  ∃a C dx fs l,d=obj h/\M[h]?=some i/\i.cls≠""/\i.fs.lookup f=some (.dic b kvs)/\g.tbl[h]?=some a/\v=.ref a/\aj i.cls=some C/\H a=some (.ins C dx fs)/\cD K aj g H h fs i.fs/\Cls K C/\NoAttr K C f/\f∈aj.fl i.cls/\fs.lookup f=some (.ref l)/\g.ow l=some (h,f)/\iQ K aj g H l b kvs:=by
 unfold Bf at hi;let⟨⟨h',i'⟩,h1,hi⟩:=auW.mp hi
 split at hi
 .next b' kvs' hl=>
  cases hi;let⟨rfl,m1,m2⟩:=Mf h1
  let⟨a,rfl,ha⟩:=Qc r
  let⟨C,dx,fs,c1,c2,c3⟩:=w.ins _ a _ ha m1 m2
  have hfl:=w.fd _ _ m1 f (lookup_mem hl);let⟨k1,k2⟩:=co _ C f c1 hfl
  let⟨u,l1,l,rfl,l3,l4⟩:=c3.get hl
  exact⟨a,C,dx,fs,l,rfl,m1,m2,hl,ha,rfl,c1,c2,c3,k1,k2,hfl,l1,l3,l4⟩
 .cases hi
end
def X3{kv:List (Key×V)}{i:Int}:∀{kvs:List (Dat×Dat)},kvs.map (·.1)=kv.map (λp=>keyD p.1)->(kvs.any λp=>PyData.eqv p.1 (.int i))=(valV kv (Sum.inl i)).isSome:=by
 induction kv with
 |nil=>
  intro kvs e;cases kvs with
  |nil=>rfl
  |cons _ _=>cases e
 |cons p r ih=>
  intro kvs e;cases kvs with
  |nil=>cases e
  |cons q t=>
   simp![List.map_cons,List.cons.injEq]at e;rw[avS,ih e.2,e.1];by_cases h:p.1=Sum.inl i
   .rw[valV_pos h,h];simp[keyD,PyData.eqv]
   .rw[valV_neg h];have:PyData.eqv (keyD p.1) (.int i)=false:=by
     cases hp:p.1 with
     |inl j=>
      have:j≠i:=λz=>h (by rw[hp,z]);simp[keyD,PyData.eqv,this]
     |inr x=>simp[keyD,PyData.eqv]
    rw[this,Bool.false_or]
def vK{xs:List fM}{k:NestedKey}:∀{kvs:List (Dat×Dat)},kvs.map (·.1)=xs.map (λx=>x.1.data)->(kvs.any λp=>PyData.eqv p.1 k.data)=(atKey xs k).isSome:=by
 induction xs with
 |nil=>
  intro kvs e;cases kvs with
  |nil=>rfl
  |cons _ _=>cases e
 |cons p r ih=>
  intro kvs e;cases kvs with
  |nil=>cases e
  |cons q t=>
   simp![List.map_cons,List.cons.injEq]at e;rw[avS,ih e.2,e.1,Fb];unfold atKey;rw[List.find?_cons];cases hd:decide (p.1=k) with
   |true=>rfl
   |false=>rfl
def Cd{X:Cx}{pins:List (Addr×Obj)}{σ:L2.St}{H:Hp}{s:Shared}{g:Gh}{l:Addr}{o:Obj}{xs:List fM}{ks:List Dat}(I:L2.Inv X pins σ H s)(h1:H l=some (fO l o))(h2:jR X.w l o xs)(h3:ks=xs.map λx=>x.1.data)(h4:aF X.K g H (xs.map λx=>V.ref x.2.1) ks) :
  s.heap.DictOfH (nestedKind X.prog X.w) l xs:=by
 let⟨z1,_,_⟩:=(show ObjOk X.prog X.w H s.heap l (fO l o) from I.hok l _ h1)
 let⟨es,ep,e1,e2⟩:=h2.ent
 refine⟨o,es,ep,z1,h2.ex,e1,e2,λx hx=>?_,h2.nd⟩;refine⟨?_,h2.dep x hx⟩;let⟨n,hn⟩:=List.mem_iff_getElem?.mp hx
 let⟨d,hd1,hd2⟩:=h4.get' (i:=n) (v:=V.ref x.2.1) (by rw[ava,hn];rfl)
 rw[h3,ava,hn]at hd1;cases hd1;exact key_is I hd2 (aee x.1) rfl
def rInD(X:Cx)(neg:Bool):R2:=λx y H Q=>(∃l kv i,y=.ref l/\H l=some (.dK kv)/\x=.int i/\Q (.bl (neg ^^ (valV kv (Sum.inl i)).isSome)) H)\/
 ∃(l:Addr) (o:Obj) (xs:List fM) (g:Gh) (d:Dat) (b:Addr) (k:NestedKey),y=.ref l/\H l=some (fO l o)/\jR X.w l o xs/\aF X.K g H (xs.map λx=>V.ref x.2.1) (xs.map λx=>x.1.data)/\x=.ref b/\Rep X.K g H x d/\nO d=some k/\k.depth<=8/\Q (.bl (neg ^^ (atKey xs k).isSome)) H
section
variable{X:Cx}
def op_inD(hu:X.A.units+64<cLine):OpR X (compareOp .In) (rInD X false):=by
 intro pins s σ H x y v u Q I rx ry h;rcases h with⟨l,kv,i,rfl,hl,rfl,q⟩|⟨l,o,xs,g,d,b,k,rfl,h1,h2,h3,rfl,h4,h5,h6,q⟩
 .obtain rfl:u=Value.ref l:=ry
  exact d_in #[] I (DGet.k (k:=Sum.inl i) hl) rx λs' I'=>⟨.bl _,H,I',rfl,by simpa using q⟩
 .obtain rfl:u=Value.ref l:=ry
  obtain rfl:v=Value.ref b:=rx
  refine wpAny_in_heap (knd:=nestedKind X.prog X.w) (k:=k) (show X.A.in1.units+8<cLine by show X.A.units+1+8<cLine;omega) ⟨key_is I h4 h5 rfl,h6⟩ h2.sys (Cd I h1 h2 rfl h3) ?_;exact⟨.bl _,H,I.tok _,rfl,by simpa using q⟩
def op_notInD(hu:X.A.units+64<cLine):OpR X (compareOp .NotIn) (rInD X true):=by
 intro pins s σ H x y v u Q I rx ry h;rcases h with⟨l,kv,i,rfl,hl,rfl,q⟩|⟨l,o,xs,g,d,b,k,rfl,h1,h2,h3,rfl,h4,h5,h6,q⟩
 .obtain rfl:u=Value.ref l:=ry
  exact d_notIn #[] I (DGet.k (k:=Sum.inl i) hl) rx λs' I'=>⟨.bl _,H,I',rfl,by simpa using q⟩
 .obtain rfl:u=Value.ref l:=ry
  obtain rfl:v=Value.ref b:=rx
  refine notIn_keyed (knd:=nestedKind X.prog X.w) (k:=k) (show X.A.in1.units+8<cLine by show X.A.units+1+8<cLine;omega) ⟨key_is I h4 h5 rfl,h6⟩ h2.sys ⟨xs,Cd I h1 h2 rfl h3,rfl⟩ ?_;rw[valueAt_pairsH,Option.isSome_map];exact⟨.bl _,H,I.tok _,rfl,by simpa using q⟩
end
def Tv(neg:Bool)(f:Str)(k o:QF):QF:=λM Z=>(k M Z).bind λd=>(o M Z).bind λod=>match Bf M f od with
 |some (_,_,b,kvs)=>(dhas b kvs d).bind λr=>.ok (.bool (neg ^^ r))
 |none=>.bad
section
variable{X:Cx}{aj:aM}{W:WX}{o k:Expr}{f:Str}{pos p1:Pos}{fo fk:QF}{neg:Bool}{op:CmpOp}
def ajc(co:j5 X.K aj)(hw:aj.w=X.w)(σ:L2.St)(H:Hp)(Q:VK)(h:tQ X.K aj W (Tv neg f fk fo) σ H Q):tOp (rInD X neg) (tQ X.K aj W fk) (tFld X.K (tW X.K aj W fo) f) σ H Q:=by
 let⟨g,Z,M,I,h⟩:=h
 refine tQ.go I h.bnd λd v H1 h1 e1 r1=>?_;have I1:=I.ex e1;refine tW.go I1 (h1.bnd.mono (λ_ z=>z) λ_ z=>z.ex e1) λod u H2 h2 e2 r2=>?_;have I2:=I1.ex e2;split at h2
 .next hh i b kvs hd=>
  let⟨a,C,dx,fs,l,rfl,m1,m2,ml,ha,rfl,c1,c2,c3,c4,c5,c6,l1,l2,l3⟩:=KQ co I2.wok r2 hd
  refine⟨a,C,dx,fs,.ref l,rfl,c2,c4,c5,l1,?_⟩;have r1':=r1.ex e2 I1.kd;unfold dhas at h2;split at h2
  .next i'=>
   let⟨kv,k1,k2,k3⟩:=l3
   cases r1';refine .inl ⟨l,kv,i',rfl,k1,rfl,?_⟩;rw[X3 k2]at h2;exact h2 _ H2 (e1.trans e2) (.bl _)
  .next ds=>
   split at h2
   .next kk hk=>
    split at h2
    .next hdep=>
     let⟨o',xs,vs,k1,k2,k3,k4,k5,k6⟩:=l3
     have ek:=qJ hk;rw[<-ek,vK k3]at h2;rw[k3]at k4;rw[hw]at k2;cases r1' with
     | @tup b us _ hs ht=>exact .inr ⟨l,o',xs,g,_,b,kk,rfl,k1,k2,k4,rfl,.tup hs ht,hk,awd hdep,h2 _ H2 (e1.trans e2) (.bl _)⟩
    .exact awb h2
   .exact awb h2
  .exact awb h2
 .exact awb h2
def alY(co:j5 X.K aj)(hw:aj.w=X.w)(hr:OpR X (compareOp op) (rInD X neg))(hk:QE aj X W k fk)(ho:QW aj X W o fo)(hb:baseOk o=true):QE aj X W (.Compare k [op] [.Attribute o f p1] pos) (Tv neg f fk fo):=
 PE.weak (pe_cmpR hr hk (pe_fld ho (mJ hb)) (by cases op<;>rfl)) λσ H Q h=>ajc co hw σ H Q h
end
def DPx(X:Cx)(H:Hp)(a:Addr)(y v:V)(R:Hp->Prop):Prop:=(∃kvs i,H a=some (.dK kvs)/\y=.int i/\kvs.length<sizeLine/\R (upd H a (.dK (putK kvs (Sum.inl i) v))))\/
 ∃(o:Obj) (xs:List fM) (g:Gh) (d:Dat) (b:Addr) (k:NestedKey),H a=some (fO a o)/\jR X.w a o xs/\aF X.K g H (xs.map λx=>V.ref x.2.1) (xs.map λx=>x.1.data)/\y=.ref b/\Rep X.K g H y d/\nO d=some k/\k.depth<=8/\xs.length<sizeLine/\∀(o':Obj) (u:Value),RelV v u->jR X.w a o' (storedH xs k b u)->R (upd H a (fO a o'))
def QH{P:Program}{w:World}{H:Hp}{h:Heap}{l:Addr}{o:Obj}(e:h.get? l=some o):ObjOk P w H h l (fO l o):=⟨e,⟨o,e⟩,λ_ _ e1 k=>k _ e1⟩
def acJ{xs:List fM}{k:NestedKey}{b:Addr}{u:Value}:(storedH xs k b u).map (·.1)=if (atKey xs k).isSome then xs.map (·.1) else xs.map (·.1)++[k]:=by
 unfold storedH;split
 .rw[avh];refine List.map_congr_left λx _=>?_
  show(putAt k u x).1=x.1
  unfold putAt
  split<;>rfl
 .simp
def Vo{xs:List fM}{k:NestedKey}{b:Addr}{u:Value}:(storedH xs k b u).length<=xs.length+1:=by
 unfold storedH
 split<;>simp
def Vk{xs:List fM}{k:NestedKey}{b:Addr}{u:Value}(h:∀x∈xs,x.1.depth<=8)(hk:k.depth<=8):∀x∈storedH xs k b u,x.1.depth<=8:=λx hx=>by
 have:x.1∈(storedH xs k b u).map (·.1):=au2.mpr ⟨x,hx,rfl⟩;rw[acJ]at this;have old:∀{z:NestedKey},z∈xs.map (·.1)->z.depth<=8:=λ{z} m=>by
  let⟨y,hy,rfl⟩:=au2.mp m
  exact h y hy
 split at this
 .exact old this
 .rcases au8.mp this with z|z
  .exact old z
  .rw[au0.mp z];exact hk
section
variable{X:Cx}{o i value:Expr}{td ty tv:TE}{pos pos':Pos}
def aqF(X:Cx)(td ty tv:TE):TS:=λD σ H=>tv σ H λv H1=>td σ H1 λx H2=>ty σ H2 λy H3=>∃a,x=.ref a/\DPx X H3 a y v λH4=>D.nx σ H4
def abn(hu:X.A.units+64<cLine)(ho:PE X o td)(hi:PE X i ty)(hv:PE X value tv)(hs:swapsWith value (some (.Subscript o i pos')) pos.line X.env=pure false):PS X (.Assign [.Subscript o i pos'] value pos) (aqF X td ty tv):=by
 refine⟨λpins s σ H D I h=>?_⟩;refine wpAny_Assign_Subscript (thn (hv.run pins s σ H _ I h) λr s1 ⟨v,H1,I1,rv,q1⟩=>thn (ho.run pins s1 σ H1 _ I1 q1) λu s2 ⟨x,H2,I2,rx,q2⟩=>thn (hi.run pins s2 σ H2 _ I2 q2) λiv s3 ⟨y,H3,I3,ry,a,ex,q3⟩=>?_) hs;subst ex
 obtain rfl:u=Value.ref a:=rx
 rcases q3 with⟨kvs,j,h1,rfl,hl,q⟩|⟨ob,xs,g,d,b,k,h1,h2,h3,rfl,h4,h5,h6,hl,q⟩
 .exact d_setItem #[] I3 (DPut.k (k:=Sum.inl j) h1 hl) ry rv λs4 I4=>⟨σ,_,I4,q⟩
 .obtain rfl:iv=Value.ref b:=ry
  refine wpAny_setItem_heap (knd:=nestedKind X.prog X.w) (k:=k) (hsz:=Nat.le_of_lt hl) (show X.A.in1.units+8<cLine by show X.A.units+1+8<cLine;omega) ⟨key_is I3 h4 h5 rfl,h6⟩ (Cd I3 h1 h2 rfl h3) λh' dd hs'=>?_;let⟨o',es,ep,g1,g2,g3,g4,g5,g6⟩:=dd
  have nd:jR X.w a o' (storedH xs k b r):=⟨h2.sys,g2,⟨es,ep,g3,g4⟩,g6,by have:=Vo (xs:=xs) (k:=k) (b:=b) (u:=r);omega,Vk h2.dep h6⟩;exact⟨σ,_,d_write I3 (by rw[h1];exact True.intro) hs' ⟨o',g1⟩ (QH g1),q o' r rv nd⟩
end
def aF.back{K:auT}{g:Gh}{H:Hp}{vs:List V}{ds:List Dat}{v:V}{d:Dat}(h:aF K g H vs ds)(r:Rep K g H v d):aF K g H (vs++[v]) (ds++[d]):=h.append (.cons r .nil)
def Q9{K:auT}{aj:aM}{f:Str}{σ:L2.St}{Z:Env}{g:Gh}{H:Hp}{M:Mo}{h:Nat}{i:Inst}{b:Bool}{kvs':List (Dat×Dat)}{a C dx l:Addr}{fs:LsS V}{o':HO}(I:SInv K aj σ H g Z M)(m1:M[h]?=some i)(m2:i.cls≠"")(ha:g.tbl[h]?=some a)(c1:aj i.cls=some C)(c2:H a=some (.ins C dx fs))(c3:cD K aj g H h fs i.fs)(hfl:f∈aj.fl i.cls)(l1:fs.lookup f=some (.ref l))(l4:g.ow l=some (h,f))(mu:Jr o')
  (new:Gr false g g H (upd H l o')->iQ K aj g (upd H l o') l b kvs'):Gr false g g H (upd H l o')/\SInv K aj σ (upd H l o') g Z (M.set h (i.put f (.dic b kvs'))):=by
 have ch:=agz (o':=o') I.kd I.wok l4 mu;have nla:a≠l:=λz=>by
  subst z;rw[I.wok.tw h a i ha m1 m2]at l4;cases l4
 have w':=I.wok.chg I.kd ch ha m1 m2 hfl c1 (dx:=dx) c3 (v:=.ref l) (fl:=.dic b kvs') (by rw[upd_ne nla,Pa l1];exact c2) ⟨l,rfl,l4,new ch.gc.gr⟩;exact⟨ch.gc.gr,I.chg ch w'⟩
def Q7(f:Str)(o k e:QF):SF:=λM Z=>((e M Z).at M).then Z λv _=>((o M Z).at M).then Z λod _=>match Bf M f od with
 |some (h,i,b,kvs)=>((k M Z).at M).then Z λd _=>match dhas b kvs d,decide (kvs.length<100000) with
  |.ok false,true=>.next Z (M.set h (i.put f (.dic b (kvs++[(d,v)]))))
  |_,_=>.bad
 |none=>.bad
def Rv(f:Str)(o k:QF):SF:=λM Z=>((o M Z).at M).then Z λod _=>match Bf M f od with
 |some (h,i,b,kvs)=>((k M Z).at M).then Z λd _=>match dhas b kvs d,decide (kvs.length<=100000) with
  |.ok true,true=>.next Z (M.set h (i.put f (.dic b (kvs.filter λp=>!PyData.eqv p.1 d))))
  |_,_=>.bad
 |none=>.bad
def Xw{kvs:List (Dat×Dat)}{b r:Bool}{d:Dat}(h:dhas b kvs d=.ok r):(kvs.any λp=>PyData.eqv p.1 d)=r/\((b=false/\∃i,d=.int i)\/(b=true/\∃ds k,d=.tuple ds/\nO d=some k/\k.depth<=8)):=by
 unfold dhas at h;left
 .next i=>
  cases h;exact⟨rfl,.inl ⟨rfl,i,rfl⟩⟩
 .next ds=>
  left
  .next k hk=>
   left
   .next hd=>
    cases h;exact⟨rfl,.inr ⟨rfl,ds,k,rfl,hk,awd hd⟩⟩
   .cases h
  .cases h
 .cases h
section
variable{X:Cx}{aj:aM}{W:WX}{o e i:Expr}{f:Str}{pos pos' p1:Pos}{fo fe fk:QF}
def akF(co:j5 X.K aj)(hw:aj.w=X.w)(hu:X.A.units+64<cLine)(ho:QW aj X W o fo)(hb:baseOk o=true)(hk:QE aj X W i fk)(he:QE aj X W e fe)(hs:swapsWith e (some (.Subscript (.Attribute o f p1) i pos')) pos.line X.env=pure false) :
  SE aj X W false (.Assign [.Subscript (.Attribute o f p1) i pos'] e pos) (Q7 f fo fk fe):=by
 refine PS.weak (abn hu (pe_fld ho (mJ hb)) hk he hs) λD σ H ⟨g,Z,M,I,z⟩=>?_;unfold Q7 at z;have k1:=Out.jH (dI (σ:=σ) z);refine tQ.go I (k1.mono (λ_ y=>y) λx y H' c dd ex rx=>y H' _ c dd (Gr.ex ex) (I.ex ex) rx) λd v H1 k2 e1 rv=>?_;have I1:=I.ex e1;have k2:=Out.jH (dI (σ:=σ) k2);refine tW.go I1 (k2.mono (λ_ y=>y) λx y H' c dd ex rx=>y H' _ c dd ((Gr.ex e1).trans (Gr.ex ex)) (I1.ex ex) rx) λod u H2 k3 e2 ru=>?_;have I2:=I1.ex e2;have e12:=e1.trans e2;split at k3
 .next h i' b kvs hl=>
  let⟨a,C,dx,fs,l,rfl,m1,m2,ml,ha,rfl,c1,c2,c3,c4,c5,c6,l1,l2,l3⟩:=KQ co I2.wok ru hl
  refine⟨a,C,dx,fs,.ref l,rfl,c2,c4,c5,l1,?_⟩;have k3:=Out.jH (dI (σ:=σ) k3);refine tQ.go I2 (k3.mono (λ_ y=>y) λx y H' c dd ex rx=>y H' _ c dd ((Gr.ex e12).trans (Gr.ex ex)) (I2.ex ex) rx) λkd w H3 k4 e3 rk=>?_;have I3:=I2.ex e3;have l3':=l3.ex e3 I2.kd;have rv3:=(rv.ex e2 I1.kd).ex e3 I2.kd;refine⟨l,rfl,?_⟩;split at k4
  .next hh hz=>
   let⟨ha2,hcase⟩:=Xw hh
   have hz:=awd hz;rcases hcase with⟨rfl,j,rfl⟩|⟨rfl,ds,kk,rfl,hkk,hdep⟩
   .let⟨kv,q1,q2,q3⟩:=l3'
    cases rk;have hlen:kv.length=kvs.length:=by have:=congrArg List.length q2;simpa using this.symm
    rw[X3 q2]at ha2;have hn:valV kv (Sum.inl j)=none:=by
     cases hv:valV kv (Sum.inl j) with
     |none=>rfl
     |some _=>rw[hv]at ha2;cases ha2
    refine .inl ⟨kv,j,q1,rfl,sz_lt (by rw[hlen];exact hz),?_⟩;rw[putK_new v hn];let⟨gr,I4⟩:=Q9 (b:=false) (kvs':=kvs++[(.int j,d)]) (o':=.dK (kv++[(Sum.inl j,v)])) I3 m1 m2 ha c1 (e3 _ _ c2) (c3.ex e3 I2.kd) c6 l1 l2 awa λgr=>⟨_,awi,by simp[q2,keyD],by
     rw[List.map_append,List.map_append];exact(q3.gr gr I3.kd).back (rv3.gr gr I3.kd)⟩
    exact k4 σ _ g ((Gr.ex (e12.trans e3)).trans gr) I4
   .let⟨o',xs,vs,q1,q2,q3,q4,q5,q6⟩:=l3'
    have hlen:xs.length=kvs.length:=by have:=congrArg List.length q3;simpa using this.symm
    have ek:=qJ hkk;rw[<-ek,vK q3]at ha2;have hn:atKey xs kk=none:=by
     cases hv:atKey xs kk with
     |none=>rfl
     |some _=>rw[hv]at ha2;cases ha2
    have q4':=q4;rw[q3]at q4';rw[hw]at q2;cases rk with
    | @tup bb us _ hs' ht=>
     refine .inr ⟨o',xs,g,_,bb,kk,q1,q2,q4',rfl,.tup hs' ht,hkk,hdep,sz_lt (by rw[hlen];exact hz),λo2 u2 ru2 nd=>?_⟩;rw[storedH_new hn]at nd;let⟨gr,I4⟩:=Q9 (b:=true) (kvs':=kvs++[(.tuple ds,d)]) (o':=fO l o2) I3 m1 m2 ha c1 (e3 _ _ c2) (c3.ex e3 I2.kd) c6 l1 l2 awa λgr=>⟨o2,xs++[(kk,bb,u2)],vs++[v],awi,by rw[hw];exact nd,by simp[q3,ek],by
      rw[List.map_append,List.map_append];exact(q4.gr gr I3.kd).back ((Rep.tup hs' ht).gr gr I3.kd),by
      rw[List.map_append];exact q5.append (.cons ru2 .nil),by
      rw[List.map_append];exact(q6.gr gr I3.kd).back (rv3.gr gr I3.kd)⟩
     exact k4 σ _ g ((Gr.ex (e12.trans e3)).trans gr) I4
  .exact awb k4
 .exact awb k3
end
section
variable{X:Cx}{o i:Expr}{td ty:TE}{pos tpos:Pos}
def aqd(X:Cx)(td ty:TE):TS:=λD σ H=>td σ H λx H2=>ty σ H2 λy H3=>∃a,x=.ref a/\((∃kvs i,H3 a=some (.dK kvs)/\y=.int i/\(valV kvs (Sum.inl i)).isSome=true/\D.nx σ (upd H3 a (.dK (dropK kvs (Sum.inl i)))))\/
 ∃(o:Obj) (xs:List fM) (g:Gh) (d:Dat) (b:Addr) (k:NestedKey),H3 a=some (fO a o)/\jR X.w a o xs/\aF X.K g H3 (xs.map λx=>V.ref x.2.1) (xs.map λx=>x.1.data)/\y=.ref b/\Rep X.K g H3 y d/\nO d=some k/\k.depth<=8/\(atKey xs k).isSome=true/\∀(o':Obj),jR X.w a o' (withoutH xs k)->D.nx σ (upd H3 a (fO a o')))
def ah9(hu:X.A.units+64<cLine)(ho:PE X o td)(hi:PE X i ty):PS X (.Delete [.Subscript o i tpos] pos) (aqd X td ty):=by
 refine⟨λpins s σ H D I h=>?_⟩;refine wpAny_Delete (wpAny_deleteEach_cons (wpAny_delete_Subscript (thn (ho.run pins s σ H _ I h) λu s1 ⟨x,H1,I1,rx,q1⟩=>thn (hi.run pins s1 σ H1 _ I1 q1) λiv s2 ⟨y,H2,I2,ry,a,ex,q2⟩=>?_)));subst ex
 obtain rfl:u=Value.ref a:=rx
 rcases q2 with⟨kvs,j,h1,rfl,hl,q⟩|⟨ob,xs,g,d,b,k,h1,h2,h3,rfl,h4,h5,h6,hl,q⟩
 .exact d_delItem (k:=Sum.inl j) I2 h1 ry hl λs3 I3=>wpAny_deleteEach_nil ⟨σ,_,I3,q⟩
 .obtain rfl:iv=Value.ref b:=ry
  let⟨p,hp⟩:=Option.isSome_iff_exists.mp hl
  refine wpAny_delItem_heap (knd:=nestedKind X.prog X.w) (k:=k) (hsz:=h2.len) (show X.A.in1.units+8<cLine by show X.A.units+1+8<cLine;omega) ⟨key_is I2 h4 h5 rfl,h6⟩ h2.sys (Cd I2 h1 h2 rfl h3) hp λh' dd hs'=>?_;let⟨o',es,ep,g1,g2,g3,g4,g5,g6⟩:=dd
  have nd:jR X.w a o' (withoutH xs k):=⟨h2.sys,g2,⟨es,ep,g3,g4⟩,g6,ave (au6 _ _) h2.len,λx hx=>h2.dep x (avj.mp hx).1⟩;exact wpAny_deleteEach_nil ⟨σ,_,d_write I2 (by rw[h1];exact True.intro) hs' ⟨o',g1⟩ (QH g1),q o' nd⟩
end
theorem S7{α β:Type}(f:α->β)(c:α->Bool):∀l:List α,(((l.map f).zip l).filter λp=>c p.2).map (·.1)=(l.filter c).map f
 |[]=>rfl
 |a::l=>by
  rw[List.map_cons,avV,avD,avD];cases c a
  .exact S7 f c l
  .simp![if_true,List.map_cons,S7 f c l]
theorem aja{K:auT}{g:Gh}{H:Hp}(kk:NestedKey):∀{xs:List fM} {vs:List V} {kvs:List (Dat×Dat)},kvs.map (·.1)=xs.map (λx=>x.1.data)->aF K g H (xs.map λx=>V.ref x.2.1) (kvs.map (·.1))->Vals vs (xs.map (·.2.2))->aF K g H vs (kvs.map (·.2))->
  ∃vs',(kvs.filter λp=>!PyData.eqv p.1 kk.data).map (·.1)=(withoutH xs kk).map (λx=>x.1.data)/\aF K g H ((withoutH xs kk).map λx=>V.ref x.2.1) ((kvs.filter λp=>!PyData.eqv p.1 kk.data).map (·.1))/\Vals vs' ((withoutH xs kk).map (·.2.2))/\aF K g H vs' ((kvs.filter λp=>!PyData.eqv p.1 kk.data).map (·.2))
 |[],_,[],_,_,.nil,_=>⟨[],rfl,.nil,.nil,.nil⟩
 |[],_,_::_,h,_,_,_=>by cases h
 |_::_,_,[],h,_,_,_=>by cases h
 |x::xs,_,q::qs,h1,.cons r1 t1,.cons w1 w2,.cons r2 t2=>by
  simp![List.map_cons,List.cons.injEq]at h1;let⟨vs',i1,i2,i3,i4⟩:=aja kk h1.2 t1 w2 t2
  have hq:(!PyData.eqv q.1 kk.data)=decide (x.1≠kk):=by rw[h1.1,Fb];by_cases hz:x.1=kk<;>simp[hz]
  unfold withoutH;rw[avD,avD,hq];cases hb:decide (x.1≠kk) with
  |true=>exact⟨_::vs',by simp![if_true,List.map_cons,h1.1];exact congrArg _ i1,by simp![if_true,List.map_cons];exact .cons r1 i2,by simp![if_true,List.map_cons];exact .cons w1 i3,by simp![if_true,List.map_cons];exact .cons r2 i4⟩
  |false=>
   simp![avr,if_false];exact⟨vs',i1,i2,i3,i4⟩
theorem aow{K:auT}{g:Gh}{H:Hp}{α:Type}(c:α->Bool)(key:α->Dat)(dd:Dat->Bool):∀{vs:List V} {kvs:List (Dat×Dat)} {xs:List α},(∀x∈xs,c x=dd (key x))->kvs.map (·.1)=xs.map key->vs.length=xs.length->aF K g H vs (kvs.map (·.2))->
  (kvs.filter λp=>dd p.1).map (·.1)=(xs.filter c).map key/\aF K g H (((vs.zip xs).filter λp=>c p.2).map (·.1)) ((kvs.filter λp=>dd p.1).map (·.2))
 |[],[],[],_,_,_,_=>⟨rfl,.nil⟩
 |[],[],_::_,_,h,_,_=>by cases h
 |[],_::_,_,_,_,_,h=>by cases h
 |_::_,[],_,_,_,_,h=>by cases h
 |_::_,_::_,[],_,h,_,_=>by cases h
 |u::us,q::qs,x::xs,hc,hk,hl,.cons h t=>by
  simp![List.map_cons,List.cons.injEq]at hk;have hq:=hc x auX;rw[<-hk.1]at hq;let⟨i1,i2⟩:=aow c key dd (λy hy=>hc y (auY _ hy)) hk.2 (avK hl) t
  rw[avV,avD,avD,avD,hq];cases hb:dd q.1 with
  |true=>exact⟨by simp![if_true,List.map_cons,i1,hk.1],by simp![if_true,List.map_cons];exact .cons h i2⟩
  |false=>exact⟨by simpa using i1,by simpa using i2⟩
section
variable{X:Cx}{aj:aM}{W:WX}{o i:Expr}{f:Str}{pos tpos p1:Pos}{fo fk:QF}
def ak3(co:j5 X.K aj)(hw:aj.w=X.w)(hu:X.A.units+64<cLine)(ho:QW aj X W o fo)(hb:baseOk o=true)(hk:QE aj X W i fk):SE aj X W false (.Delete [.Subscript (.Attribute o f p1) i tpos] pos) (Rv f fo fk):=by
 refine PS.weak (ah9 hu (pe_fld ho (mJ hb)) hk) λD σ H ⟨g,Z,M,I,z⟩=>?_;unfold Rv at z;have k2:=Out.jH (dI (σ:=σ) z);refine tW.go I (k2.mono (λ_ y=>y) λx y H' c dd ex rx=>y H' _ c dd (Gr.ex ex) (I.ex ex) rx) λod u H2 k3 e2 ru=>?_;have I2:=I.ex e2;split at k3
 .next h i' b kvs hl=>
  let⟨a,C,dx,fs,l,rfl,m1,m2,ml,ha,rfl,c1,c2,c3,c4,c5,c6,l1,l2,l3⟩:=KQ co I2.wok ru hl
  refine⟨a,C,dx,fs,.ref l,rfl,c2,c4,c5,l1,?_⟩;have k3:=Out.jH (dI (σ:=σ) k3);refine tQ.go I2 (k3.mono (λ_ y=>y) λx y H' c dd ex rx=>y H' _ c dd ((Gr.ex e2).trans (Gr.ex ex)) (I2.ex ex) rx) λkd w H3 k4 e3 rk=>?_;have I3:=I2.ex e3;have l3':=l3.ex e3 I2.kd;refine⟨l,rfl,?_⟩;split at k4
  .next hh hz=>
   let⟨ha2,hcase⟩:=Xw hh
   rcases hcase with⟨rfl,j,rfl⟩|⟨rfl,ds,kk,rfl,hkk,hdep⟩
   .let⟨kv,q1,q2,q3⟩:=l3'
    cases rk;rw[X3 q2]at ha2;refine .inl ⟨kv,j,q1,rfl,ha2,?_⟩;have hf:=λ(H':Hp)(r:aF X.K g H' (kv.map (·.2)) (kvs.map (·.2)))=>aow (K:=X.K) (g:=g) (H:=H') (λp:Key×V=>decide (p.1≠Sum.inl j)) (λp=>keyD p.1) (λz=>!PyData.eqv z (.int j)) (vs:=kv.map (·.2)) (kvs:=kvs) (xs:=kv) (λx _=>by
     cases hx:x.1 with
     |inl z=>by_cases hz:z=j<;>simp[keyD,PyData.eqv,hz]
     |inr z=>simp[keyD,PyData.eqv]) q2 (by simp) r
    have ez:(((kv.map (·.2)).zip kv).filter λp=>decide (p.2.1≠Sum.inl j)).map (·.1)=(dropK kv (Sum.inl j)).map (·.2):=S7 (·.2) (λp:Key×V=>decide (p.1≠Sum.inl j)) kv;let⟨gr,I4⟩:=Q9 (b:=false) (kvs':=kvs.filter λp=>!PyData.eqv p.1 (.int j)) (o':=.dK (dropK kv (Sum.inl j))) I3 m1 m2 ha c1 (e3 _ _ c2) (c3.ex e3 I2.kd) c6 l1 l2 awa λgr=>⟨_,awi,(hf _ (q3.gr gr I3.kd)).1,by
     rw[<-ez];exact(hf _ (q3.gr gr I3.kd)).2⟩
    exact k4 σ _ g ((Gr.ex (e2.trans e3)).trans gr) I4
   .let⟨o',xs,vs,q1,q2,q3,q4,q5,q6⟩:=l3'
    have ek:=qJ hkk;rw[<-ek,vK q3]at ha2;rw[hw]at q2;have q4':=q4;rw[q3]at q4';cases rk with
    | @tup bb us _ hs' ht=>
     refine .inr ⟨o',xs,g,_,bb,kk,q1,q2,q4',rfl,.tup hs' ht,hkk,hdep,ha2,λo2 nd=>?_⟩;let⟨gr,I4⟩:=Q9 (b:=true) (kvs':=kvs.filter λp=>!PyData.eqv p.1 (.tuple ds)) (o':=fO l o2) I3 m1 m2 ha c1 (e3 _ _ c2) (c3.ex e3 I2.kd) c6 l1 l2 awa λgr=>by
      let⟨vs',i1,i2,i3,i4⟩:=aja kk q3 (q4.gr gr I3.kd) q5 (q6.gr gr I3.kd)
      rw[ek]at i1 i2 i4;exact⟨o2,withoutH xs kk,vs',awi,by rw[hw];exact nd,i1,i2,i3,i4⟩
     exact k4 σ _ g ((Gr.ex (e2.trans e3)).trans gr) I4
  .exact awb k4
 .exact awb k3
end
def ItD(l:Addr)(o:Obj)(xs:List fM):It:=
 ⟨λi H=>H l=some (fO l o)/\i<xs.length,λi H x H'=>H'=H/\∃e,xs[i]?=some e/\x=.ref e.2.1,λi H=>H l=some (fO l o)/\xs.length<=i⟩
def pin_at{X:Cx}{pins:List (Addr×Obj)}{σ:L2.St}{H:Hp}{s:Shared}{l:Addr}{o:Obj}(I:L2.Inv X pins σ H s)(h:H l=some (fO l o)):s.heap.get? l=some o:=(show ObjOk X.prog X.w H s.heap l (fO l o) from I.hok l _ h).1
theorem jR.at{w:World}{l:Addr}{o:Obj}{xs:List fM}{es:Array DictEntry}{ep:Nat}(n:jR w l o xs)(h:o.data=.dict es ep):es.size=xs.length/\∀(i:Nat) (e:fM),xs[i]?=some e->∃en,es[i]?=some en/\en.key=.ref e.2.1:=by
 let⟨es',ep',h1,h2⟩:=n.ent
 rw[h]at h1;cases h1;refine⟨?_,λi e hi=>⟨af0 w e,?_,rfl⟩⟩
 .have:=congrArg List.length h2;simpa using this
 .rw[<-avx,h2,ava,hi];rfl
def aoW{P:Program}{w:World}{K:auT}{tg:Expr}{l:Addr}{o:Obj}{xs:List fM}{es:Array DictEntry}{ep:Nat}(it:Addr)(n:jR w l o xs)(hod:o.data=.dict es ep):Turn P w K tg (ItD l o xs) [it] it (λi h=>h.IsKeyIter it l i xs.length ep) where
 mem:=au0.mpr rfl
 obj:=λi h st b hb=>by
  cases au0.mp hb;let⟨oi,e,c,dd⟩:=st
  refine⟨oi,e,λv z=>?_⟩;rw[dd]at z;cases z
 keep:=λi h h' st k=>st.at (k it (au0.mpr rfl))
 item:=by
  intro X hP hw hK hc i pins s σ H E I hf st hg;subst hP hw hK;let⟨g0,g1,g2,g3,g4,g5⟩:=hf it (au0.mpr rfl)
  let⟨sz,ent⟩:=n.at hod
  have hlt:i<xs.length:=hg.2;have hx:xs[i]?=some xs[i]:=auV hlt;let⟨en,e1,e2⟩:=ent i _ hx
  refine next_key_item st (pin_at I hg.1) hod sz e1 ?_;intro h' st' sb;have J:L2.Inv X pins σ H { s with heap:=h' }:=I.turned (t':=s.toks) (λb ob hb e=>(sb.2 b hb).trans e) g0 g1 g3 g4 g5;let⟨oi,a1,a2,a3⟩:=id st'
  exact⟨en.key,rfl,go_of (s:={ s with heap:=h' }) a1 a2 a3 #[()] ⟨.ref xs[i].2.1,H,J,e2,⟨rfl,_,hx,rfl⟩,st',λb hb=>(hf b hb).1⟩⟩
 done:=by
  intro X hP hw hK hc i pins s σ H E I hf st hg;subst hP hw hK;let⟨g0,g1,g2,g3,g4,g5⟩:=hf it (au0.mpr rfl)
  exact next_key_end (I.ok.hd hc) st (pin_at I hg.1) hod (n.at hod).1 hg.2 λh' eb=>⟨rfl,I.turned (t':=s.toks) (λb ob hb e=>eb b ob hb e) g0 g1 g3 g4 g5⟩
 self:=λA i s Q E st h=>by
  refine wpAny_pyIter_slot st.typeIs PySem.F.slot_dict_keyiterator_iter (wpAny_call_entry PySem.F.slot_dict_keyiterator_iter st.typeIs PySem.F.entry_dict_keyiterator_iter ?_ (PySem.F.args_dict_keyiterator_iter_1 _));exact awf ⟨_,rfl,"dict_keyiterator",_,st.typeIs,PySem.F.slot_dict_keyiterator_next.lookup,h⟩
def aqC(X:Cx)(td:TE):TI:=λσ H R=>td σ H λx H1=>∃l o xs,x=.ref l/\H1 l=some (fO l o)/\jR X.w l o xs/\R (ItD l o xs) H1
def alW{X:Cx}{tg e:Expr}{td:TE}(he:PE X e td):PI X tg e (aqC X td):=by
 constructor;intro pins s σ H R I h;refine thn (he.run pins s σ H _ I h) ?_;rintro u s1 ⟨x,H1,I1,rx,l,o,xs,rfl,hl,n,q⟩
 obtain rfl:u=Value.ref l:=rx
 let⟨es,ep,hd,_⟩:=n.ent
 refine iter_keys n.sys (pin_at I1 hl) n.ex hd (pi_one (tk:=s1.toks) I1 _ (aoW _ n hd) ⟨_,Heap.get?_push_size _ rfl,rfl,?_⟩ q);rw[(n.at hd).1]<;>rfl
def akP{K:auT}{aj:aM}{l:Addr}{o:Obj}{xs:List fM}{ks:List Dat}:Jw K (ItD l o xs) (λg H=>H l=some (fO l o)/\aF K g H (xs.map λx=>V.ref x.2.1) ks) ks where
 go:=λg i H c hi=>⟨c.1,by have:=c.2.length;simp at this;omega⟩
 yld:=λg i H x H' d k c e y=>by
  let⟨rfl,en,h1,rfl⟩:=y
  let⟨v,h2,h3⟩:=c.2.get e
  rw[ava,h1]at h2;cases h2;exact⟨Ex.refl _,h3⟩
 stop:=λg i H c e=>⟨c.1,by have:=c.2.length;simp at this;omega⟩
 ex:=λg H H' k c e=>⟨e _ _ c.1,c.2.ex e k⟩
 add:=λg g' H H' k c r e=>⟨e _ _ c.1,c.2.gr r k⟩
def GD(f:Str)(o:QF):IF:=λM Z=>(o M Z).bind λod=>match Bf M f od with
 |some (_,_,true,kvs)=>.ok (kvs.map (·.1))
 |_=>.bad
def Fw(f:Str)(o:QF):QF:=λM Z=>(o M Z).bind λod=>match Bf M f od with
 |some (_,_,_,kvs)=>.ok (.list (kvs.map (·.1)))
 |none=>.bad
section
variable{X:Cx}{aj:aM}{W:WX}{o tg:Expr}{f:Str}{pos p p1:Pos}{fo:QF}
def ai3(co:j5 X.K aj)(hw:aj.w=X.w)(ho:QW aj X W o fo)(hb:baseOk o=true):QI aj X W false tg (.Attribute o f p1) (GD f fo):=by
 have h0:=alW (tg:=tg) (pe_fld (X:=X) (pos:=p1) (f:=f) ho (mJ hb));refine⟨λpins s σ H R I h=>h0.run pins s σ H R I ?_⟩;let⟨g,Z,M,J,h⟩:=h
 unfold GD at h;refine tW.go J h.bnd λod u H1 k2 e1 ru=>?_;have J1:=J.ex e1;split at k2
 .next h i kvs hl=>
  let⟨a,C,dx,fs,l,rfl,m1,m2,ml,ha,rfl,c1,c2,c3,c4,c5,c6,l1,l2,o',xs,vs,q1,q2,q3,q4,q5,q6⟩:=KQ co J1.wok ru hl
  rw[hw]at q2;exact⟨a,C,dx,fs,.ref l,rfl,c2,c4,c5,l1,l,o',xs,rfl,q1,q2,k2 _ _ H1 e1 (akP (aj:=aj)) ⟨q1,q4⟩ λz=>nomatch z⟩
 .exact awb k2
end
def aiK{P:Program}{w:World}{A:Around}{l I:Addr}{o:Obj}{xs:List fM}{es:Array DictEntry}{ep:Nat}(hh:A.handled=none)(hne:l≠I)(n:jR w l o xs)(hd:o.data=.dict es ep):Walks P w A I [I,l] [I] xs.length (λi v=>∃e,xs[i]?=some e/\v=Value.ref e.2.1) (λi h=>h.IsKeyIter I l i xs.length ep/\h.get? l=some o) where
 sub:=λb hb=>by simp at hb;simp[hb]
 frame:=λi h h' st k=>⟨st.1.at (k I (by simp)),k l (by simp) o st.2⟩
 item:=λi s Q E hi st hQ=>by
  let⟨sz,ent⟩:=n.at hd
  have hx:xs[i]?=some xs[i]:=auV hi;let⟨en,e1,e2⟩:=ent i _ hx
  refine next_key_item st.1 st.2 hd sz e1 ?_;intro h' st' sb;exact hQ en.key h' s.toks ⟨_,hx,e2⟩ ⟨st',(sb.2 l hne).trans st.2⟩ λb ob hb e=>(sb.2 b λz=>hb (by simp[z])).trans e
 done:=λs Q E st hQ=>next_key_end hh st.1 st.2 hd (n.at hd).1 (avd _) λh' eb=>hQ h' s.toks λb ob hb e=>eb b ob (λz=>hb (by simp[z])) e
 self:=λi s Q E st hQ=>wpAny_pyIter_keyiter st.1 hQ
def aej{P:Program}{w:World}{l:Addr}{o:Obj}{xs:List fM}(n:jR w l o xs):PySem.W.KdlSrc P w "dict" l l xs.length (λi v=>∃e,xs[i]?=some e/\v=Value.ref e.2.1) (λh=>h.get? l=some o) where
 type:=λs e=>⟨o,e,n.ex.1⟩
 there:=λh e=>⟨Heap.lt_size e,Heap.lt_size e⟩
 keep:=λh h' e k=>k l (.inl rfl) o e
 notList:=#[()]
 notTuple:=#[()]
 hint:=λA E s Q e hq=>PySem.W.kdl_hint_dict ⟨o,e,n.ex.1⟩ hq
 iter:=λA s hh e=>by
  let⟨es,ep,hd,_⟩:=n.ent
  refine⟨_,_,λE Q hq=>iter_keys n.sys e n.ex hd hq,aiK hh (avq (Heap.lt_size e)) n hd,⟨_,Heap.get?_push_size _ rfl,rfl,?_⟩,Heap.get?_push_of_some _ e⟩;rw[(n.at hd).1]<;>rfl
def agA(X:Cx):List V->Hp->VK->Prop:=λxs H Q=>(∃p kvs,xs=[.ref p]/\H p=some (.dK kvs)/\∀q,H q=none->Q (.ref q) (upd H q (.lst (kvs.map λkv=>kV kv.1))))\/∃p o es,xs=[.ref p]/\H p=some (fO p o)/\jR X.w p o es/\∀q,H q=none->Q (.ref q) (upd H q (.lst (es.map λe=>V.ref e.2.1)))
def afe{X:Cx}(hc:X.calm=true):CallR X (.type "list") (agA X):=by
 intro pins s σ H xs us Q I r h;rcases h with h|⟨p,o,es,rfl,hp,n,q⟩
 .exact call_list_dK hc pins s σ H xs us Q I r h
 .let⟨u,rfl,rx⟩:=vals1 r
  obtain rfl:u=Value.ref p:=rx
  refine PySem.W.kdl_call (aej n) (I.ok.hd hc) (pin_at I hp) n.len ?_;intro h' tk acc c' keep hS hacc;have el:acc.toList.length=es.length:=by rw[avt];exact hacc.1
  refine⟨.ref s.heap.objs.size,upd H s.heap.objs.size (.lst (es.map λe=>V.ref e.2.1)),I.laid keep (avd _) (show ObjOk X.prog X.w _ _ _ (.lst (es.map λe=>V.ref e.2.1)) from⟨by rw[au3];exact n.len,acc.toList,c',?_,?_⟩),rfl,q _ (I.hok.fresh (avd _))⟩
  .refine vals_of_at (by rw[au3,el]) λj x w h1 h2=>?_;let⟨e,he,rfl⟩:=hacc.2 j w (by rw[<-avx];exact h2)
   rw[ava,he]at h1;cases h1;rfl
  .rw[Array.toArray_toList];exact hS
section
variable{X:Cx}{aj:aM}{W:WX}{o e:Expr}{f:Str}{pos p p1 pos':Pos}{fo:QF}
theorem abk{K:auT}{g:Gh}{H:Hp}:∀{kv:List (Key×V)} {kvs:List (Dat×Dat)},kvs.map (·.1)=kv.map (λp=>keyD p.1)->aF K g H (kv.map λp=>kV p.1) (kvs.map (·.1))
 |[],[],_=>.nil
 |[],_::_,h=>by cases h
 |_::_,[],h=>by cases h
 |a::kv,b::kvs,h=>by
  simp![List.map_cons,List.cons.injEq]at h;rw[List.map_cons,List.map_cons,h.1];refine .cons ?_ (abk h.2);cases a.1 with
  |inl i=>exact .int i
  |inr x=>exact .str x
def aiS(co:j5 X.K aj)(hw:aj.w=X.w)(σ:L2.St)(H:Hp)(Q:VK)(h:tQ X.K aj W (Fw f fo) σ H Q):tFld X.K (tW X.K aj W fo) f σ H λx H1=>agA X [x] H1 Q:=by
 let⟨g,Z,M,J,h⟩:=h
 unfold Fw at h;refine tW.go J h.bnd λod u H1 k2 e1 ru=>?_;have J1:=J.ex e1;split at k2
 .next h i b kvs hl=>
  let⟨a,C,dx,fs,l,rfl,m1,m2,ml,ha,rfl,c1,c2,c3,c4,c5,c6,l1,l2,l3⟩:=KQ co J1.wok ru hl
  refine⟨a,C,dx,fs,.ref l,rfl,c2,c4,c5,l1,?_⟩;cases b with
  |false=>
   let⟨kv,q1,q2,q3⟩:=l3
   exact .inl ⟨l,kv,rfl,q1,λq nq=>k2 (.ref q) _ (e1.trans (Ex.new nq)) (.lst (.inl ⟨.inl awi,J1.kd.fresh nq⟩) (abk q2))⟩
  |true=>
   let⟨o',xs,vs,q1,q2,q3,q4,q5,q6⟩:=l3
   rw[hw]at q2;exact .inr ⟨l,o',xs,rfl,q1,q2,λq nq=>k2 (.ref q) _ (e1.trans (Ex.new nq)) (.lst (.inl ⟨.inl awi,J1.kd.fresh nq⟩) (q4.ex (Ex.new nq) J1.kd))⟩
 .exact awb k2
def ahL(co:j5 X.K aj)(hw:aj.w=X.w)(hc:X.calm=true)(hg:Gl X "list")(hm:X.mg "list"=none)(ho:QW aj X W o fo)(hb:baseOk o=true):QE aj X W (.Call (.Name "list" p) [.Attribute o f p1] [] pos) (Fw f fo):=by
 have h1:=pa_cons (pe_fld (X:=X) (pos:=p1) (f:=f) ho (mJ hb)) pa_nil (bZ rfl []);have hv:BV (.type "list") "list":=⟨#[[]],#[()],#[()]⟩
 refine PE.weak (pe_callTy (pos:=pos) (p:=p) (afe hc) hg hm hv.1 h1 hv.2.1 hv.2.2 (bZ rfl []) #[rfl]) λσ H Q h=>?_;exact aiS co hw σ H Q h
def QV(ft:Ft)(o:QF)(f:Str)(b:Bool):SF:=λM Z=>((o (M++[⟨"",[]⟩]) Z).at (M++[⟨"",[]⟩])).then Z λod M2=>match lQ M2 od with
 |some (h,i)=>match ft.has i.cls f&&decide (i.fs.length<100) with
  |true=>.next Z (M2.set h (i.put f (.dic b [])))
  |false=>.bad
 |none=>.bad
def apf(X:Cx)(b:Bool):TE:=λ_ H Q=>∀p,H p=none->match b with
 |false=>Q (.ref p) (upd H p (.dK []))
 |true=>∀o,jR X.w p o []->Q (.ref p) (upd H p (fO p o))
def ac7{b:Bool}:PE X (.Dict [] [] pos) (apf X b):=by
 cases b with
 |false=>exact PE.weak pe_dnewK λσ H Q h p np=>h p np
 |true=>
  refine⟨λpins s σ H Q I h=>wpAny_Dict_empty ?_⟩;have hz:(s.heap.push { cls:=.type "dict",data:=.dict (List.toArray []) }).get? s.heap.objs.size=some { cls:=.type "dict",data:=.dict (List.toArray []) }:=Heap.get?_push_size _ rfl
  have hs:(s.heap.objs.size==sysModules)=false:=beq_eq_false_iff_ne.mpr (Ne.symm (avq I.big));exact⟨.ref s.heap.objs.size,_,I.laid (a:=s.heap.objs.size) (o:=fO s.heap.objs.size _) (t':=s.toks) (λ_ _ q=>Heap.get?_push_of_some _ q) (avd _) (QH hz),rfl,h _ (I.hok.fresh (avd _)) _ ⟨hs,⟨rfl,rfl,rfl⟩,⟨(List.toArray []),0,rfl,rfl⟩,av6,avv _,λx hx=>absurd hx avm⟩⟩
def akg{ft:Ft}{b:Bool}(co:j5 X.K aj)(fk:Oj ft aj)(hw:aj.w=X.w)(ho:QW aj X W o fo)(hs:swapsWith (.Dict [] [] p) (some (.Attribute o f pos')) pos.line X.env=pure false):SE aj X W false (.Assign [.Attribute o f pos'] (.Dict [] [] p) pos) (QV ft fo f b):=by
 refine PS.weak (ps_fld ho (ac7 (b:=b)) hs) λD σ H ⟨g,Z,M,I,z⟩=>?_;have core:∀(l:Addr) (ob:HO),H l=none->Jr ob->(∀(g':Gh) (H':Hp),H' l=some ob->iQ X.K aj g' H' l b [])->tW X.K aj W fo σ (upd H l ob) (λx H2=>∃a C dx fs,x=.ref a/\H2 a=some (.ins C dx fs)/\Cls X.K C/\NoAttr X.K C f/\fs.length<1000/\D.nx σ (upd H2 a (.ins C dx (putF f (.ref l) fs)))):=by
  intro l ob nl mu at';let⟨gr,I1,tb,ow,mm⟩:=OD I nl (Ex.new nl) awi mu
  unfold QV at z;have k1:=Out.jH (dI (σ:=σ) z);refine tW.go I1 (k1.mono (λ_ y=>y) λx y H' c dd ex rx=>y H' _ c dd (gr.trans (Gr.ex ex)) (I1.ex ex) rx) λod u H2 k2 e2 ru=>?_;have I2:=I1.ex e2;split at k2
  .next h i hi=>
   split at k2
   .next hb=>
    rw[auU]at hb;let⟨a,C,dx,fs,_,m1,m2,ha,rfl,c1,c2,c3,c4,c5,c6⟩:=Km co fk I2.wok ru hi hb.1
    have nla:l≠a:=λz=>by
     subst z;cases I2.wok.inj _ _ _ ha tb;rw[mm]at m1;cases m1;exact m2 rfl
    refine⟨a,C,dx,fs,rfl,c2,c4,c5,?_,?_⟩
    .have:=awd hb.2;rw[c3.len];omega
    .have ch:=W0 (f:=f) (C:=C) (dx:=dx) (fs':=putF f (.ref l) fs) I2.kd I2.wok ha m1 m2 tb mm ow;have w':=I2.wok.chg I2.kd ch ha m1 m2 c6 c1 c3 awi (v:=.ref l) (fl:=.dic b []) ⟨l,rfl,awg rfl,at' _ _ (by rw[upd_ne nla];exact e2 _ _ awi)⟩;exact k2 σ _ _ ((gr.trans (Gr.ex e2)).trans ch.gc.gr) (I2.chg ch w')
   .exact awb k2
  .exact awb k2
 intro l nl;cases b with
 |false=>exact core l _ nl awa λg' H' h=>⟨[],h,rfl,.nil⟩
 |true=>exact λob nd=>core l _ nl awa λg' H' h=>⟨ob,[],[],h,by rw[hw];exact nd,rfl,.nil,.nil,.nil⟩
end
def anG(X:Cx)(D:Addr)(vs:List Nat)(g:TG)(tk:TE)(σ:L2.St)(Nx:Hp->Prop)(x:V)(H:Hp):Prop:=
 g x (L2.wipe σ vs) H λσ2 H2=>L2.wipe σ2 vs=L2.wipe σ vs/\tk σ2 H2 λy H4=>∃(o:Obj) (xs:List fM) (gg:Gh) (d:Dat) (b:Addr) (k:NestedKey),y=.ref b/\H4 D=some (fO D o)/\jR X.w D o xs/\aF X.K gg H4 (xs.map λx=>V.ref x.2.1) (xs.map λx=>x.1.data)/\Rep X.K gg H4 y d/\nO d=some k/\k.depth<=8/\xs.length<sizeLine/\
  ∀o',jR X.w D o' (storedH xs k b (.bool true))->Nx (upd H4 D (fO D o'))
def anp(X:Cx)(wi:TI)(g:TG)(tk:TE)(vs:List Nat):TE:=λσ H Q=>wi σ H λJ H1=>∀D,H1 D=none->∃W:Nat->Nat->Hp->Prop,(∃m,∀o,jR X.w D o []->W 0 m (upd H1 D (fO D o)))/\
 ∀i m H,W i m H->(J.stop i H/\Q (.ref D) H)\/(J.go i H/\∃Nx:Hp->Prop,(∀H',Nx H'->∃m',m'<m/\W (i+1) m' H')/\∀x H',J.yld i H x H'->anG X D vs g tk σ Nx x H')
section
variable{X:Cx}
def ain{pins:List (Addr×Obj)}{σ:L2.St}{H:Hp}{s:Shared}{E:Value->Shared->Prop}{D b:Addr}{o:Obj}{xs:List fM}{gg:Gh}{d:Dat}{k:NestedKey}{u:Value}{Q:Unit->Shared->Prop}(hu:X.A.units+64<cLine)(I:L2.Inv X pins σ H s)(hD:H D=some (fO D o))(n:jR X.w D o xs)(hr:aF X.K gg H (xs.map λx=>V.ref x.2.1) (xs.map λx=>x.1.data))(hk:Rep X.K gg H (.ref b) d)(hd:nO d=some k)(h8:k.depth<=8)(hz:xs.length<sizeLine)(ru:RelV (.bl true) u)
  (q:∀s' o',jR X.w D o' (storedH xs k b (.bool true))->L2.Inv X pins σ (upd H D (fO D o')) s'->Q () s'):wpAny (model X.prog X.w) X.A (dictSet D (.ref b) u) Q E s:=by
 obtain rfl:u=.bool true:=ru
 refine wpAny_dictSet_heap (knd:=nestedKind X.prog X.w) (k:=k) (hsz:=Nat.le_of_lt hz) (show X.A.units+8<cLine by omega) ⟨key_is I hk hd rfl,h8⟩ (Cd I hD n rfl hr) ?_;intro h' dd hs';let⟨o',es,ep,g1,g2,g3,g4,g5,g6⟩:=dd
 have nd:jR X.w D o' (storedH xs k b (.bool true)):=⟨n.sys,g2,⟨es,ep,g3,g4⟩,g6,by have:=Vo (xs:=xs) (k:=k) (b:=b) (u:=.bool true);omega,Vk n.dep h8⟩;exact q _ o' nd (d_write I (by rw[hD];exact True.intro) hs' ⟨o',g1⟩ (QH g1))
def amt{kx tg iter:Expr}{scope:Scope}{own:List (PySem.Str×Nat)}{pos vp:Pos}{vj:Nat}{wi:TI}{g:TG}{tk:TE}(hc:X.calm=true)(hN:X.N.Nodup)(hu:X.A.units+64<cLine)(hi:PI X tg iter wi)(ok:BlkOk X.N X.env.scope scope own)
  (hg:∀(t:Shared) (G:Hp) (C:Addr) (cl:List (PySem.Str×Addr)) (fp:List Addr),PG (X.blk t G scope (compEnvC scope cl C X.env) fp) tg g)
  (hk:∀(t:Shared) (G:Hp) (C:Addr) (cl:List (PySem.Str×Addr)) (fp:List Addr),PE (X.blk t G scope (compEnvC scope cl C X.env) fp) kx tk) (hs:∀x,foldedSetIterable iter X.env x=pure x) :
  PE X (.DictComp kx (.Constant (.bool true) vj vp) [⟨tg,iter,[],0⟩] scope pos) (anp X wi g tk (own.map (·.2))):=by
 refine⟨λpins s σ H Q I h=>?_⟩;rw[arm_eval_DictComp];have cells:∀y∈scope.names,y.2=.free->∃c,X.env.cells.lookup y.1=some c:=λy hy e=>(ok.free y hy e).elim (λk=>I.ok.has _ (.inl k)) (λk=>I.ok.has _ (.inr k));refine wpAny_comprehension_free rfl hs (closure_ok cells) ok.kind (λy hy e=>by rw[ok.uniq y hy,e]) (thn (hi.run pins s σ H _ I h) λ_ _ hx=>thn hx λitv t0 h0=>?_);let⟨it,fp,tn,J,G0,rfl,I0,T,st0,f0,q⟩:=h0
 refine wpAny_newObj_type (newEnv_comp ?_)
 -- the new dict,at D
 obtain⟨D,hD⟩:∃D,D=t0.heap.objs.size:=⟨_,rfl⟩;rw[<-hD];let⟨W,⟨m0,w00⟩,turn⟩:=q D (I0.hok.fresh (Nat.le_of_eq hD.symm))
 obtain⟨ob,hob⟩:∃ob:Obj,ob={ cls:=.type "dict",data:=.dict (List.toArray []) }:=⟨_,rfl⟩
 have nd0:jR X.w D ob []:=by rw[hob];exact⟨by rw[hD];exact beq_eq_false_iff_ne.mpr (Ne.symm (avq I0.big)),⟨rfl,rfl,rfl⟩,⟨(List.toArray []),0,rfl,rfl⟩,av6,avv _,λx hx=>absurd hx avm⟩
 have w0:=w00 ob nd0;rw[<-hob];obtain⟨t1,ht1⟩:∃t1:Shared,t1={ t0 with heap:=t0.heap.push ob }:=⟨_,rfl⟩;obtain⟨G1,hG1⟩:∃G1,G1=upd G0 D (fO D ob):=⟨_,rfl⟩;rw[<-hG1]at w0;have grow:∀b o,t0.heap.get? b=some o->t1.heap.get? b=some o:=λb o e=>by rw[ht1];exact Heap.get?_push_of_some _ e
 have I1:L2.Inv X pins σ G1 t1:=by rw[ht1,hG1];refine I0.laid (t':=t0.toks) (λb o e=>Heap.get?_push_of_some _ e) (Nat.le_of_eq hD.symm) (QH ?_);rw[hD];exact Heap.get?_push_size _ (by rw[hob];rfl)
 have small:∀b∈fp,b<t0.heap.objs.size:=λb hb=>by
  let⟨o,e,_⟩:=T.obj _ _ st0 b hb
  exact Heap.lt_size e
 have f1:∀b∈fp,FpOk X pins G1 b/\b<t1.heap.objs.size:=λb hb=>by
  have hlt:=small b hb;refine⟨⟨?_,(f0 b hb).2⟩,by rw[ht1];show b<(t0.heap.push ob).objs.size;rw[Heap.size_push];exact avQ hlt⟩;rw[hG1,upd_ne (by rw[hD];exact avq hlt)];exact(f0 b hb).1
 have st1:tn 0 t1.heap:=T.keep _ _ _ st0 λb _ o e=>grow b o e;have I2:=block_start I1 ok hN f1;have pg:=hg t1 G1 t1.heap.objs.size (cellsFrom (t1.heap.objs.size+1) scope.names (cloFrom X.env.cells scope.names [])) fp;have pk:=hk t1 G1 t1.heap.objs.size (cellsFrom (t1.heap.objs.size+1) scope.names (cloFrom X.env.cells scope.names [])) fp;have none1:∀b∈fp,G1 b=none:=λb hb=>(f1 b hb).1.1;rw[show({ t0 with heap:=t0.heap.push ob }:Shared)=t1 from ht1.symm];obtain⟨ce,hce⟩:∃ce,ce=compEnvC scope (cellsFrom (t1.heap.objs.size+1) scope.names (cloFrom X.env.cells scope.names [])) t1.heap.objs.size X.env:=⟨_,rfl⟩;rw[<-hce]at I2 pg pk;have cL:ce.locals=t1.heap.objs.size:=by rw[hce];rfl
 obtain⟨t2,ht2⟩:∃t2:Shared,t2={ t1 with heap:=pushCells (t1.heap.push { cls:=.type "dict",data:=.dict (List.toArray []) }) scope.names }:=⟨_,rfl⟩
 rw[<-ht2]at I2;have st2:tn 0 t2.heap:=T.keep _ _ _ st1 λb _ o e=>by rw[ht2];exact pushCells_keeps _ _ _ _ (Heap.get?_push_of_some _ e)
 have still:∀{σ':L2.St} {G':Hp} {t':Shared},L2.Inv (X.blk t1 G1 scope ce fp) [] σ' G' t'->(∀b∈fp,G' b=none)->∀b∈fp,FpOk (X.blk t1 G1 scope ce fp) [] G' b:=λI' hn b hb=>
  ⟨hn b hb,(I'.ok.exf b hb).1,I'.ok.exfs b hb,.inl hb,λx c e=>(I'.ok.exf b hb).2 x c e,λp hp=>absurd (show p∈([]:List (Addr×Obj))++[] from hp) (by simp)⟩
 have pt:PTs (X.blk t1 G1 scope ce fp) [] tYes:=pts_nil;have pv:PE (X.blk t1 G1 scope ce fp) (.Constant (.bool true) vj vp) (tC (.bl true)):=pe_bl;have loop:codeAny (model X.prog X.w) X.A (.compLoop (.DictComp kx (.Constant (.bool true) vj vp) [⟨tg,iter,[],0⟩] scope pos) 0 (.ref it) (.ref D) ce) (compPost (model X.prog X.w) X.A X.xe none (EP X pins σ Q) (.ref D) t1.heap.objs.size) t2:=by
  refine compLoop_anyD (λn t'=>∃i G',L2.Inv (X.blk t1 G1 scope ce fp) [] (L2.wipe σ (own.map (·.2))) G' t'/\tn i t'.heap/\(∀b∈fp,G' b=none)/\W i n G') ?_ m0 ⟨0,G1,I2,st2,none1,w0⟩;rintro n t3 ⟨i,G3,I3,st3,n3,w3⟩;rcases turn i n G3 w3 with⟨stop,fin⟩|⟨go,Nx,hNx,step⟩
  .refine thnF (T.done (X.blk t1 G1 scope ce fp) rfl rfl rfl hc i [] t3 _ G3 (λ_ _=>False) I3 (still I3 n3) st3 stop) λr t4 ⟨hr,I4⟩=>?_;subst hr;have I5:L2.Inv X pins σ G3 t4:=I1.call' (ch:=fp) I4.os I4.base I4.hok I4.bare λb hb=>⟨(f1 b hb).1.2.2.2.1,(f1 b hb).1.2.1,(f1 b hb).1.2.2.2.2.1,(f1 b hb).1.2.2.2.2.2⟩;have nC:G3 t1.heap.objs.size=none:=by rw[<-cL];exact I4.free
   let⟨m,hn,_⟩:=I4.loc
   have hn':t4.heap.Ns t1.heap.objs.size m:=by rw[<-cL];exact hn
   let⟨a0,a1,_,a3,a4,a5⟩:=I1.fpOk (avd _) nC
   exact⟨m,hn',λh'' sb=>⟨.ref D,G3,I5.turned (t':=t4.toks) (λb o hb e=>(sb.2 b hb).trans e) a0 a1 a3 a4 a5,rfl,fin⟩⟩
  .refine thnF (T.item (X.blk t1 G1 scope ce fp) rfl rfl rfl hc i [] t3 _ G3 (λ_ _=>False) I3 (still I3 n3) st3 go) λr t4 ⟨u,hr,h4⟩=>?_;subst hr;refine thnF h4 λ_ t5 ⟨x,G5,I5,r5,y5,st5,n5⟩=>?_;refine thnF (pg.run _ t5 _ G5 x u _ (I5.pinned (still I5 n5) (T.obj _ _ st5)) r5 (step x G5 y5)) λ_ t6 ⟨σ6,G6,I6,hw6,q6⟩=>?_;refine thnF (pt.run _ t6 σ6 G6 (λb G=>b=true/\G=G6) I6 ⟨rfl,rfl⟩) λb t7 ⟨G7,I7,hb7,hG7⟩=>?_;subst hb7 hG7;have over:∀{t':Shared} {G':Hp},L2.Inv (X.blk t1 G1 scope ce fp) ([]++pinsAt fp t5.heap) σ6 G' t'->Nx G'->∃m,m<n/\∃i G',L2.Inv (X.blk t1 G1 scope ce fp) [] (L2.wipe σ (own.map (·.2))) G' t'/\tn i t'.heap/\(∀b∈fp,G' b=none)/\W i m G':=λ{t' G'} I' nx=>by
    let⟨m',hm,w'⟩:=hNx G' nx
    have pin:∀b∈fp,∀o,t5.heap.get? b=some o->t'.heap.get? b=some o/\G' b=none:=λb hb o e=>
     let z:=I'.pin (b,o) (avC _ (avC _ (mem_pinsAt hb e)))
     ⟨z.1,z.2.1⟩
    refine⟨m',hm,i+1,G',(I'.unpinned (pins:=[])).weak (by rw[<-hw6,wipe_length]) (λj v e=>?_),T.keep _ _ _ st5 λb hb o e=>(pin b hb o e).1,λb hb=>?_,w'⟩
    .rw[<-hw6]at e;exact(wipe_some e).1
    .let⟨o,e,_⟩:=T.obj _ _ st5 b hb
     exact(pin b hb o e).2
   simp![if_true];refine thnF (pk.run _ t7 σ6 _ _ I7 q6) λz t8 ⟨yv,G8,I8,r8,o8,xs8,g8,d8,b8,k8,ey,hD8,n8,hr8,hk8,hd8,h88,hz8,nx⟩=>?_;subst ey
   obtain rfl:z=Value.ref b8:=r8
   refine thnF (pv.run _ t8 σ6 G8 (λv G=>v=.bl true/\G=G8) I8 ⟨rfl,rfl⟩) λz2 t9 ⟨y9,G9,I9,r9,hv9,hG9⟩=>?_;subst hv9 hG9;exact ain (X:=X.blk t1 G1 scope ce fp) hu I9 hD8 n8 hr8 hk8 hd8 h88 hz8 r9 λs' o' nd I10=>over I10 (nx o' nd)
 have done:=codeAny_compStart_dict loop (T.self X.A 0 _ _ _ st2 loop);rw[hce,ht2]at done;subst hob;exact done
end
def Jd(tg:dY)(tk:QF)(M:Mo)(Z:Env):List Dat->List (Dat×Dat)->Out (List (Dat×Dat))
 |[],acc=>.ok acc
 |d::ds,acc=>match tg d Z with
  |none=>.bad
  |some Z1=>(zq (tk M Z1)).bind λkd=>(dhas true acc kd).bind λr=>Jd tg tk M Z ds (match r with
   |true=>acc
   |false=>acc++[(kd,.bool true)])
def qDc(it:IF)(tg:dY)(vs:List Nat)(tk:QF):Mo->Env->Out (List (Dat×Dat)):=λM Z=>(it M Z).bind λds=>Out.when (decide (ds.length<=50000)) (Jd tg tk M (bM Z vs) ds [])
def anP(K:auT)(aj:aM)(W:WX)(f:Mo->Env->Out (List (Dat×Dat))):TE:=λσ H Q=>∃g Z M,SInv K aj σ H g Z M/\(f M Z).sat (λkvs=>∀l o H',H l=none->Ex H H'->H' l=some (fO l o)->iQ K aj (g.add l) H' l true kvs->Q (.ref l) H') (sG K aj W g H σ)
section
variable{X:Cx}{aj:aM}{W:WX}
theorem YM{tg:dY}{tk:QF}{M:Mo}{Z:Env}:∀{ds:List Dat} {acc:List (Dat×Dat)} {x:eX},Jd tg tk M Z ds acc≠.exc x
 |[],_,_,h=>nomatch h
 |d::ds,acc,x,h=>by
  rw[Jd]at h;left
  .cases h
  .next Z1 e=>
   cases h1:tk M Z1 with
   |bad=>rw[h1]at h;cases h
   |exc y=>rw[h1]at h;cases h
   |ok kd=>
    rw[h1]at h;have h:((dhas true acc kd).bind λr=>Jd tg tk M Z ds (match r with
     |true=>acc
     |false=>acc++[(kd,.bool true)]))=.exc x:=h
    cases h2:dhas true acc kd with
    |bad=>rw[h2]at h;cases h
    |exc y=>
     unfold dhas at h2;split at h2
     .cases h2
     .split at h2
      .split at h2<;>cases h2
      .cases h2
     .cases h2
    |ok r=>
     rw[h2]at h;exact YM h
def ai0{xs:List fM}{k:NestedKey}(h:∀x∈xs,x.2.2=.bool true):xs.map (putAt k (.bool true))=xs:=by
 have:∀x∈xs,putAt k (.bool true) x=x:=λx hx=>by
  unfold putAt;split
  .let⟨a,b,c⟩:=x
   have:c=.bool true:=h _ hx;rw[this]
  .rfl
 calc xs.map (putAt k (.bool true))=xs.map id:=List.map_congr_left this
  _=xs:=List.map_id xs
theorem aeb:∀{xs:List fM},(∀x∈xs,x.2.2=.bool true)->Vals (List.replicate xs.length (.bl true)) (xs.map (·.2.2))
 |[],_=>.nil
 |x::xs,h=>by
  rw[au5,List.replicate_succ,List.map_cons,h x auX];exact .cons rfl (aeb λy hy=>h y (auY _ hy))
theorem adJ{K:auT}{g:Gh}{H:Hp}:∀{kvs:List (Dat×Dat)} {n:Nat},n=kvs.length->(∀p∈kvs,p.2=.bool true)->aF K g H (List.replicate n (.bl true)) (kvs.map (·.2))
 |[],_,h,_=>by subst h;exact .nil
 |p::kvs,_,e,h=>by
  subst e;rw[au5,List.replicate_succ,List.map_cons,h p auX];exact .cons (.bl true) (adJ rfl λy hy=>h y (auY _ hy))
def apC{it:IF}{tg:dY}{js vs:List Nat}{tk:QF}(hw:aj.w=X.w)(hj:∀j∈js,j∈vs)(σ:L2.St)(H:Hp)(Q:VK)(h:anP X.K aj W (qDc it tg vs tk) σ H Q) :
  anp X (tI X.K aj W false it) (xJ X.K aj js tg) (tQ X.K aj WF tk) vs σ H Q:=by
 let⟨g,Z,M,I,h⟩:=h
 refine⟨g,Z,M,I,h.bnd.mono (λds hk J C H1 e1 w c _ D nD=>?_) λ_ z=>z⟩;let⟨hz,hk⟩:=hk.qR
 have hlen:=awd hz;obtain⟨total,htot,hQ⟩:∃total,Jd tg tk M (bM Z vs) ds []=.ok total/\∀l o H',H l=none->Ex H H'->H' l=some (fO l o)->iQ X.K aj (g.add l) H' l true total->Q (.ref l) H':=by
  cases hc:Jd tg tk M (bM Z vs) ds [] with
  |bad=>rw[hc]at hk;exact awb hk
  |exc x=>exact absurd hc YM
  |ok total=>
   rw[hc]at hk;exact⟨total,rfl,hk⟩
 have I1:=(I.ex e1).wipe vs;have kD:∀{Ha:Hp} {o:Obj},Ex H1 Ha->Ha D=some (fO D o)->SInv X.K aj (L2.wipe σ vs) Ha (g.add D) (bM Z vs) M:=λea hu=>I1.add nD ea hu awa
 let Pv:Nat->Hp->Prop:=λi Ha=>Ex H1 Ha/\i<=ds.length/\∃o xs acc,Ha D=some (fO D o)/\jR X.w D o xs/\acc.map (·.1)=xs.map (λx=>x.1.data)/\aF X.K (g.add D) Ha (xs.map λx=>V.ref x.2.1) (acc.map (·.1))/\(∀x∈xs,x.2.2=.bool true)/\(∀p∈acc,p.2=.bool true)/\acc.length<=i/\Jd tg tk M (bM Z vs) (ds.drop i) acc=.ok total
 refine⟨λi m Ha=>m=ds.length-i/\Pv i Ha,⟨ds.length,λo n0=>⟨rfl,Ex.new nD,avv _,o,[],[],awi,n0,rfl,.nil,λx hx=>absurd hx avm,λx hx=>absurd hx avm,avd _,by rw[avT];exact htot⟩⟩,?_⟩;rintro i m Ha ⟨rfl,ea,hi,o,xs,acc,hu,nd,hK,hR,hT,hA,hy,hs⟩;have Ia:=kD ea hu;have Ca:=w.add g (g.add D) H1 Ha (I.kd.ex e1) c (Gh.zN nD ea) ea;have lxs:xs.length=acc.length:=by have:=congrArg List.length hK;simpa using this.symm
 by_cases hlt:i<ds.length
 .refine .inr ⟨w.go _ i Ha Ca hlt,Pv (i+1),λH' p=>⟨ds.length-(i+1),#[],rfl,p⟩,λx H' y=>?_⟩;have hd:ds[i]?=some ds[i]:=auV hlt;let⟨e2,rx⟩:=w.yld _ i Ha x H' _ Ia.kd Ca hd y
  have I2:=Ia.ex e2;rw[avu hlt,Jd]at hs;split at hs
  .cases hs
  .next Z1 he=>
   refine⟨g.add D,_,M,_,Z1,I2,rx,he,λws I3=>⟨vC js ws _ vs hj |>.trans (yN σ vs),?_⟩⟩;cases htk:tk M Z1 with
   |bad=>rw[htk]at hs;cases hs
   |exc z=>rw[htk]at hs;cases hs
   |ok kd=>
    rw[htk]at hs;have hs:((dhas true acc kd).bind λr=>Jd tg tk M (bM Z vs) (ds.drop (i+1)) (match r with
     |true=>acc
     |false=>acc++[(kd,.bool true)]))=.ok total:=hs
    refine⟨g.add D,Z1,M,I3,?_⟩;rw[htk];intro v H4 e4 ry;have I4:=I3.ex e4;have hu4:=e4 _ _ (e2 _ _ hu);have hR4:=(hR.ex e2 Ia.kd).ex e4 I2.kd;cases hh:dhas true acc kd with
    |bad=>rw[hh]at hs;cases hs
    |exc z=>rw[hh]at hs;cases hs
    |ok r=>
     rw[hh]at hs;let⟨ha2,hcase⟩:=Xw hh
     rcases hcase with⟨z,_⟩|⟨_,dd,kk,rfl,hkk,hdep⟩
     .cases z
     .have ek:=qJ hkk;rw[<-ek,vK hK]at ha2;have hRx:=hR4;rw[hK]at hRx;cases ry with
      | @tup bb us _ hs' ht=>
       refine⟨o,xs,g.add D,_,bb,kk,rfl,hu4,nd,hRx,.tup hs' ht,hkk,hdep,sz_lt #[],λo' nd'=>?_⟩;have eD:Ex H1 (upd H4 D (fO D o')):=Ex.mut ((ea.trans e2).trans e4) nD;have lD:(g.add D).Lo D:=.inr rfl;have up:Gr true (g.add D) (g.add D) H4 (upd H4 D (fO D o')):=Gr.upd I4.kd hu4 (.inr lD);cases r with
       |true=>
        let⟨q,hq⟩:=Option.isSome_iff_exists.mp ha2
        rw[storedH_old hq,ai0 hT]at nd';exact⟨eD,hlt,o',xs,acc,awi,nd',hK,hR4.gr up I4.kd,hT,hA,#[],hs⟩
       |false=>
        have hn:atKey xs kk=none:=by
         cases hv:atKey xs kk with
         |none=>rfl
         |some _=>rw[hv]at ha2;cases ha2
        rw[storedH_new hn]at nd';have hs:Jd tg tk M (bM Z vs) (ds.drop (i+1)) (acc++[(.tuple dd,.bool true)])=.ok total:=hs;refine⟨eD,hlt,o',xs++[(kk,bb,.bool true)],acc++[(.tuple dd,.bool true)],awi,nd',by simp[hK,ek],?_,?_,?_,by simp;omega,hs⟩
        .rw[List.map_append,List.map_append];exact(hR4.gr up I4.kd).back ((Rep.tup hs' ht).gr up I4.kd)
        .intro x hx;rcases au8.mp hx with z|z
         .exact hT x z
         .rw[au0.mp z]
        .intro x hx;rcases au8.mp hx with z|z
         .exact hA x z
         .rw[au0.mp z]
 .have e:i=ds.length:=#[];refine .inl ⟨w.stop _ i Ha Ca e,?_⟩;rw[e,avB]at hs;cases hs;exact hQ D o Ha (Ge e1 D nD) (e1.trans ea) hu ⟨o,xs,List.replicate xs.length (.bl true),hu,by rw[hw];exact nd,hK,hR,aeb hT,adJ lxs hA⟩
def V6(ft:Ft)(o:QF)(f:Str)(e:Mo->Env->Out (List (Dat×Dat))):SF:=λM Z=>((e M Z).at M).then Z λkvs _=>((o (M++[⟨"",[]⟩]) Z).at (M++[⟨"",[]⟩])).then Z λod M2=>match lQ M2 od with
 |some (h,i)=>match ft.has i.cls f&&decide (i.fs.length<100) with
  |true=>.next Z (M2.set h (i.put f (.dic true kvs)))
  |false=>.bad
 |none=>.bad
end
def ab7{K:auT}{g:Gh}{H:Hp}{l:Addr}{vs:List V}{ds:List Dat}(h:aF K (g.add l) H vs ds):aF K (g.push l) H vs ds:=aF.mv (g:=g.add l) (g':=g.push l) (λh a z=>by
  have z:g.tbl[h]?=some a:=z
  show(g.tbl++[l])[h]?=some a
  rw[au9 (auZ.mp z).1];exact z) (λa z=>by
  rcases aaO z with z|rfl
  .rcases z with z|z|z
   .exact .inl z
   .exact .inr (.inl z)
   .exact .inr (.inr (show g.Lo a\/a=l from Or.inl z))
  .exact .inr (.inr (show g.Lo a\/a=a from Or.inr rfl))) h
section
variable{X:Cx}{aj:aM}{W:WX}{o e:Expr}{f:Str}{pos pos':Pos}{ft:Ft}{fo:QF}
def ajN{fe:Mo->Env->Out (List (Dat×Dat))}{te:TE}(co:j5 X.K aj)(fk:Oj ft aj)(ho:QW aj X W o fo)(he:PE X e te)(hte:∀σ H Q,anP X.K aj W fe σ H Q->te σ H Q)(hs:swapsWith e (some (.Attribute o f pos')) pos.line X.env=pure false):SE aj X W false (.Assign [.Attribute o f pos'] e pos) (V6 ft fo f fe):=by
 refine PS.weak (ps_fld ho he hs) λD σ H ⟨g,Z,M,I,z⟩=>hte σ H _ ⟨g,Z,M,I,?_⟩;unfold V6 at z;cases hf:fe M Z with
 |exc x=>rw[hf]at z;exact λH' c dd e r=>z σ H' g c dd (Gr.ex e) (I.ex e) r.fr
 |bad=>rw[hf]at z;exact awb z
 |ok kvs=>
  rw[hf]at z;intro l ob H1 nl e1 hl dic;let⟨gr,I1,tb,ow,mm⟩:=OD I nl e1 hl awa
  have dic1:iQ X.K aj (g.push l) H1 l true kvs:=by
   let⟨o',xs,vs,q1,q2,q3,q4,q5,q6⟩:=dic
   exact⟨o',xs,vs,q1,q2,q3,ab7 q4,q5,ab7 q6⟩
  have z:(((fo (M++[⟨"",[]⟩]) Z).at (M++[⟨"",[]⟩])).then Z λod M2=>match lQ M2 od with
   |some (h,i)=>match ft.has i.cls f&&decide (i.fs.length<100) with
    |true=>.next Z (M2.set h (i.put f (.dic true kvs)))
    |false=>.bad
   |none=>.bad).sat (sN X.K aj false D.nx g H) (sR X.K aj false D.rt g H) (sN X.K aj false D.bk g H) (sN X.K aj false D.ct g H) (sX X.K aj W false g H):=z
  have k1:=Out.jH (dI (σ:=σ) z);refine tW.go I1 (k1.mono (λ_ y=>y) λx y H' c dd ex rx=>y H' _ c dd (gr.trans (Gr.ex ex)) (I1.ex ex) rx) λod u H2 k2 e2 ru=>?_;have I2:=I1.ex e2;split at k2
  .next h i hi=>
   split at k2
   .next hb=>
    rw[auU]at hb;let⟨a,C,dx,fs,_,m1,m2,ha,rfl,c1,c2,c3,c4,c5,c6⟩:=Km co fk I2.wok ru hi hb.1
    have nla:l≠a:=λz=>by
     subst z;cases I2.wok.inj _ _ _ ha tb;rw[mm]at m1;cases m1;exact m2 rfl
    refine⟨a,C,dx,fs,rfl,c2,c4,c5,?_,?_⟩
    .have:=awd hb.2;rw[c3.len];omega
    .have ch:=W0 (f:=f) (C:=C) (dx:=dx) (fs':=putF f (.ref l) fs) I2.kd I2.wok ha m1 m2 tb mm ow;have w':=I2.wok.chg I2.kd ch ha m1 m2 c6 c1 c3 awi (v:=.ref l) (fl:=.dic true kvs) ⟨l,rfl,awg rfl,iQ.chg ch.gc.gr I2.kd (upd_ne nla) (dic1.ex e2 I1.kd)⟩;exact k2 σ _ _ ((gr.trans (Gr.ex e2)).trans ch.gc.gr) (I2.chg ch w')
   .exact awb k2
  .exact awb k2
end
end Rf
namespace Ear
open PySem PySem.Spec PyProof.Rows L2 Evl RZ
abbrev Af(K:auT)(H:Hp)(v:V)(r:Rw):Prop:=Dp K H v (rD r)
@[irreducible]def QM (K:auT) (w:World):List V->Hp->VK->Prop:=λvs H Q=>∃(l:Addr) (ws:List V) (R D:List Rw),vs=[V.ref l]/\SqL K H l ws/\fZ (Af K H) ws R/\D.length<=76/\(∀r∈R,r∈D)/\
 ∀(p:Addr) (L:List Ent),H p=none->(∀e∈L,Af K H (.ref e.1) e.2)->(L.map Prod.snd).Nodup->(∀r,r∈L.map Prod.snd↔r∈R)->L.length<=76->Q (.ref p) (upd H p (Ro w p L))
@[irreducible]def Uz (K:auT) (w:World):List V->Hp->VK->Prop:=λvs H Q=>∃(a:Addr) (L:List Ent),vs=[V.ref a]/\H a=some (Ro w a L)/\(∀e∈L,Af K H (.ref e.1) e.2)/\(L.map Prod.snd).Nodup/\L.length<=76/\
 ∀(ys:List V) (M:List Rw) (p:Addr),fZ (Af K H) ys M->Jy M->(∀r,r∈M↔r∈L.map Prod.snd)->H p=none->Q (.ref p) (upd H p (.lst ys))
section
variable{X:Cx}
def ahM{pins:List (Addr×Obj)}{σ:L2.St}{H:Hp}{s:Shared}(I:Inv X pins σ H s){t:Addr}{r:Rw}(h:Af X.K H (.ref t) r):RI s.heap r t:=by
 refine⟨?_,by rw[aiO];decide⟩;unfold Af rD dT at h;cases h with
 |tup h1 t1=>
  cases t1 with
  |cons a1 t1=>
   cases t1 with
   |cons a2 t1=>
    cases t1;cases a1;cases a2 with
    |tup h2 t2=>
     let⟨us,rv,⟨o,ho,hc,n,hd⟩,_⟩:=I.tuple h1
     let⟨us2,rv2,⟨o2,ho2,hc2,n2,hd2⟩,_⟩:=I.tuple h2
     refine .tup ho hc hd ?_;cases rv with
     |cons r1 rv=>
      cases rv with
      |cons r2 rv=>
       cases rv;let⟨tk,rfl⟩:=r1
       cases r2;have e:∀{vs:List V} {l:List Int},DpAll X.K H vs (l.map PyData.int)->vs=l.map V.int:=by
        intro vs l
        induction l generalizing vs with
        |nil=>intro z;cases z;rfl
        |cons i l ih=>
         intro z;cases z with
         |cons b1 b2=>
          cases b1;rw[ih b2];rfl
       rw[e t2]at rv2;exact .cons (.int r.1 tk) (.cons (.tup ho2 hc2 hd2 (by simpa using ZD (P:=X.prog) (w:=X.w) r.2 us2 rv2)) .nil)
theorem Vs{K:auT}{H:Hp}:∀(ws:List V) (R:List Rw),fZ (Af K H) ws R->∃ks:List Ent,ws=(ks.map λp=>V.ref p.1)/\ks.map Prod.snd=R/\∀p∈ks,Af K H (.ref p.1) p.2
 |[],[],_=>⟨[],rfl,rfl,by simp⟩
 |[],_::_,h=>nomatch h.1
 |_::_,[],h=>nomatch h.1
 |v::ws,r::R,h=>by
  let⟨ks,e1,e2,e3⟩:=Vs ws R ⟨avK h.1,λi v x a b=>h.2 (i+1) v x a b⟩
  have hr:Af K H v r:=h.2 0 v r rfl rfl;have ev:∃t,v=.ref t:=by
   have z:=hr;unfold Af rD at z;cases z with
   |tup _ _=>exact⟨_,rfl⟩
  let⟨t,rfl⟩:=ev
  refine⟨(t,r)::ks,by rw[List.map_cons,<-e1],by rw[List.map_cons,e2],λp hp=>?_⟩;rcases au7.mp hp with e|hp
  .rw[e];exact hr
  .exact e3 p hp
def acK(hu:X.A.units+65<cLine)(hc:X.calm=true):CallR X (.type "set") (QM X.K X.w):=by
 intro pins s σ H vs us Q I r h;unfold QM at h;let⟨l,ws,R,D,rfl,hl,hA,hD,hRD,q⟩:=h
 rw[Vals.ref1 r];let⟨ks,e1,e2,e3⟩:=Vs ws R hA
 let⟨its,rv,pl,hz⟩:=I.list hl
 rw[e1]at rv;have mem:∀p∈ks,p.2∈R:=λp hp=>by
  rw[<-e2];exact au2.mpr ⟨p,hp,rfl⟩
 have hn:H s.heap.objs.size=none:=I.hok.fresh (avd _);refine acO (P:=X.prog) (w:=X.w) (hf:=λr=>(pN X.prog X.w).hash r) (λ_=>rfl) ks D hD (λp hp=>hRD _ (mem p hp)) (I.ok.hd hc) pl.isList (by simpa using ZJ rv) (λp hp=>ahM I (e3 p hp)) #[] λh' tk L es ep t S g k=>?_;have fitL:t.fits es.size=true:=ug.fits (s:={ s with heap:=h',toks:=tk }) S;have new:ObjOk X.prog X.w (upd H s.heap.objs.size (Ro X.w s.heap.objs.size L)) h' s.heap.objs.size (Ro X.w s.heap.objs.size L):=by
  let⟨o,ho,hr⟩:=S.ob
  refine⟨⟨_,es,ep,t,S.ob,S.en,fitL,S.tab.ris,S.ld⟩,⟨o,ho⟩,λh1 h2 z k2=>?_⟩;let⟨hf2,es2,ep2,t2,⟨o2,ho2,hr2⟩,rest⟩:=(show aeT X.w h1 s.heap.objs.size L from z)
  exact⟨hf2,es2,ep2,t2,⟨o2,k2 o2 ho2,hr2⟩,rest⟩
 refine⟨.ref s.heap.objs.size,upd H s.heap.objs.size (Ro X.w s.heap.objs.size L),I.laid (t':=tk) k (avd _) new,rfl,q _ L hn (λe he=>e3 e (avF (g.sub e he))) S.nd (λr=>⟨λm=>?_,λm=>?_⟩) S.few⟩
 .let⟨e,he,e5⟩:=au2.mp m
  rw[<-e5];exact mem e (avF (g.sub e he))
 .rw[<-e2]at m;let⟨p,hp,e5⟩:=au2.mp m
  rw[<-e5];exact g.all p (by rw[List.take_length];exact hp)
def aeX(hu:X.A.units+65<cLine)(hc:X.calm=true):CallR X (.builtin "sorted") (Uz X.K X.w):=by
 intro pins s σ H vs us Q I r h;unfold Uz at h;let⟨a,L,rfl,ha,hL,nd,few,q⟩:=h
 rw[Vals.ref1 r];obtain⟨hf,es,ep,t,⟨o,ho,hex,hd⟩,en,fit,ris,led⟩:aeT X.w s.heap a L:=(I.hok a _ ha).1;have len:=Av en;have ev:∀K:List Ent,(∀p∈K,p∈L)->PySem.W.EachIs (λv (r:Rw)=>(∃p∈L,v=Value.ref p.1/\r=p.2)/\∃as,Reads s.heap v (rD r) as) ((ents hf K).map (·.2)) (K.map Prod.snd):=by
  intro K
  induction K with
  |nil=>exact λ_=>.nil
  |cons p K ih=>
   intro hK;have hp:=hK p auX;exact .cons ⟨⟨p,hp,rfl,rfl⟩,Dp.reads I (rD p.2) (.ref p.1) (.ref p.1) (hL p hp) rfl⟩ (ih λx hx=>hK x (auY _ hx))
 refine Sq (enc:=rD) (bs:=L.map Prod.snd) (I.ok.hd hc) ⟨o,ho,hex.1,hd⟩ fit (by unfold scanBound;omega) ris led (by rw[en];exact ev L λp hp=>hp) (avZ Yw) (PySem.W.Sortable.tuples λb=>⟨_,_,rfl⟩) (λb _=>by rw[(afS b).2];omega) λs' p out c cs k g' o' hp hg pc eo=>?_;have mp:=av0 cs (PySem.W.dataLe false rD);have ndm:(cs.mergeSort (PySem.W.dataLe false rD)).Nodup:=(mp.trans pc).nodup_iff.mpr nd;have srt:=avH (le:=PySem.W.dataLe false rD) (λa b c k1 k2=>by rw[Qz,awc]at *;exact List.le_trans k1 k2) (λa b=>by rw[Qz,Qz,avN,awc,awc];exact List.le_total _ _) cs;generalize cs.mergeSort (PySem.W.dataLe false rD)=M at mp ndm srt eo;let⟨ys,v1,v2⟩:=YD out M eo
 have up:Jy M:=by
  refine List.Pairwise.imp₂ (λa b h1 h2=>?_) srt ndm;rw[Qz,awc]at h1;by_cases c:rk a<rk b
  .exact c
  .exact absurd (abQ (List.le_antisymm h1 (List.not_lt.mp c))) h2
 have hfr:H p=none:=I.hok.fresh hp;have hlen:ys.length<=sizeLine:=by rw[v2.1,mp.length_eq,pc.length_eq,au3,sizeLine_eq];omega
 have J:Inv X pins σ (upd H p (.lst ys)) { s with heap:=s'.heap,gens:=s'.gens,drawn:=s'.drawn,toks:=s'.toks }:=
  I.call (ch:=[]) (Un.laid k hp hfr) (I.hok.laid k hp ⟨hlen,out,c,v1,hg⟩) (by rw[g'];exact I.bare) (λ_ z=>nomatch z)
 have es':s'={ s with heap:=s'.heap,gens:=s'.gens,drawn:=s'.drawn,toks:=s'.toks }:=by cases s';cases s;cases o';rfl
 rw[es'];refine⟨.ref p,_,J,rfl,q ys M p (v2.imp λv r ⟨e,he,h1,h2⟩=>?_) up (λr=>(mp.trans pc).mem_iff) hfr⟩;subst h1 h2;exact hL e he
end
end Ear
namespace Rf
open PySem PySem.Spec PyProof.Rows L2 Evl
def afn:Dat->Option Ear.Rw
 |.tuple [.int o,.tuple ds]=>(intsOf ds).map λl=>(o,l)
 |_=>none
def Jc:List Dat->Option (List Ear.Rw)
 |[]=>some []
 |d::ds=>(afn d).bind λr=>(Jc ds).bind λrs=>some (r::rs)
theorem Ik:∀{ds:List Dat} {l:List Int},intsOf ds=some l->ds=l.map PyData.int
 |[],l,h=>by cases h;rfl
 |.int i::ds,l,h=>by
  rw[intsOf,avL]at h;let⟨r,h1,rfl⟩:=h
  rw[Ik h1];rfl
 |.none::_,_,h=>by cases h
 |.bool _::_,_,h=>by cases h
 |.str _::_,_,h=>by cases h
 |.list _::_,_,h=>by cases h
 |.tuple _::_,_,h=>by cases h
 |.dict _::_,_,h=>by cases h
def alr{d:Dat}{r:Ear.Rw}(h:afn d=some r):d=Ear.rD r:=by
 unfold afn at h;left
 .next o ds=>
  rw[avL]at h;let⟨l,h1,rfl⟩:=h
  rw[Ik h1];rfl
 .cases h
theorem UL:∀{ds:List Dat} {rs:List Ear.Rw},Jc ds=some rs->ds=rs.map Ear.rD
 |[],_,h=>by cases h;rfl
 |d::ds,_,h=>by
  rw[Jc]at h;obtain⟨r,h1,h⟩;obtain⟨rs,h2,h⟩;cases h;rw[alr h1,UL h2];rfl
def sV(R:List Ear.Rw):List Ear.Rw:=R.mergeSort λa b=>decide (Ear.rk a<=Ear.rk b)
def sortI(l:List Int):List Int:=l.mergeSort λa b=>decide (a<=b)
def bG(R:List Ear.Rw):List Ear.Rw:=sV R.eraseDups
def Cr(l:List Int):List Int:=sortI l.eraseDups
def abr:∀(n:Nat) (l:List Int),lX n (l.map PyData.int)=true:=λn l=>by
 induction l with
 |nil=>rfl
 |cons i l ih=>simp[lX,okd,ih]
def P0(n:Nat)(r:Ear.Rw):okd (n+2) (Ear.rD r)=true:=by unfold Ear.rD Ear.dT;simp[okd,lX,abr]
def ac4(n:Nat)(R:List Ear.Rw):lX (n+2) (R.map Ear.rD)=true:=by
 induction R with
 |nil=>rfl
 |cons r R ih=>simp[lX,P0,ih]
def pD(p:Int×Int):Dat:=.tuple [.int p.1,.int p.2]
def prs:List Dat->Option (List (Int×Int))
 |[]=>some []
 |.tuple [.int a,.int b]::r=>(prs r).bind λl=>some ((a,b)::l)
 |_::_=>none
theorem aho:∀{ds:List Dat} {l:List (Int×Int)},prs ds=some l->ds=l.map pD
 |[],l,h=>by
  cases h;rfl
 |d::ds,l,h=>by
  unfold prs at h;left
  .next e=>cases e
  .next a b r e=>
   cases e;obtain⟨l',h1,h⟩;cases h;rw[List.map_cons,<-aho h1];rfl
  .cases h
def leP(p q:Int×Int):Bool:=decide (p.1<q.1\/(p.1=q.1/\p.2<=q.2))
def Q6(l:List (Int×Int)):List (Int×Int):=l.mergeSort leP
def ah2(n:Nat)(l:List (Int×Int)):lX (n+1) (l.map pD)=true:=by
 induction l with
 |nil=>simp[lX]
 |cons p l ih=>simp[lX,okd,pD,ih]
def zH:Dat->Out Dat
 |.list ds=>match intsOf ds with
  |some l=>.ok (.list ((sortI l).map PyData.int))
  |none=>match Jc ds with
   |some R=>.ok (.list ((sV R).map Ear.rD))
   |none=>.bad
 |_=>.bad
def Ve:Dat->Out Dat
 |.list ds=>match Jc ds with
  |some R=>match decide (R.eraseDups.length<=76) with
   |true=>.ok (.list ((bG R).map Ear.rD))
   |false=>.bad
  |none=>.bad
 |_=>.bad
def Oa{β:Type}{enc:β->Dat}{le:β->β->Bool}(h:∀a b,PySem.W.dataLe false id (enc a) (enc b)=le a b)(l:List β):(l.map enc).mergeSort (PySem.W.dataLe false id)=(l.mergeSort le).map enc:=by rw[List.map_mergeSort (r:=le) (s:=PySem.W.dataLe false id) (λa _ b _=>(h a b).symm)]
def yg{α:Type}[BEq α][LawfulBEq α]{l:List α}{x:α}:x∈l.eraseDups↔x∈l:=by
 induction hn:l.length using Nat.strongRecOn generalizing l with
 |_ n ih=>
  cases l with
  |nil=>simp
  |cons a r=>
   rw[av1];simp![au5]at hn;have hl:(r.filter λb=>!b==a).length<=r.length:=au6 _ _;rw[au7,ih _ #[] rfl,avj,au7];constructor
   .rintro(h|h)
    .exact .inl h
    .exact .inr h.1
   .rintro(h|h)
    .exact .inl h
    .by_cases e:x=a
     .exact .inl e
     .exact .inr ⟨h,by simpa using e⟩
def HW{α:Type}[BEq α][LawfulBEq α]{l:List α}:l.eraseDups.Nodup:=by
 induction hn:l.length using Nat.strongRecOn generalizing l with
 |_ n ih=>
  cases l with
  |nil=>simp
  |cons a r=>
   rw[av1];simp![au5]at hn;have hl:(r.filter λb=>!b==a).length<=r.length:=au6 _ _;refine avO.mpr ⟨λh=>?_,ih _ #[] rfl⟩;rw[yg,avj]at h;simpa using h.2
def lV{R:List Ear.Rw}{r:Ear.Rw}:r∈bG R↔r∈R:=by unfold bG sV;rw[List.mem_mergeSort,yg]
def Tq(R:List Ear.Rw):Ear.Jy (bG R):=by
 unfold Ear.Jy bG sV;have srt:=avH (le:=λa b:Ear.Rw=>decide (Ear.rk a<=Ear.rk b)) (λa b c k1 k2=>by rw[awc]at *;exact List.le_trans k1 k2) (λa b=>by rw[avN,awc,awc];exact List.le_total _ _) R.eraseDups;have nd:(R.eraseDups.mergeSort λa b=>decide (Ear.rk a<=Ear.rk b)).Nodup:=(av0 _ _).nodup_iff.mpr HW;refine List.Pairwise.imp₂ (λa b h1 h2=>?_) srt nd;rw[awc]at h1;by_cases c:Ear.rk a<Ear.rk b
 .exact c
 .exact absurd (Ear.abQ (List.le_antisymm h1 (List.not_lt.mp c))) h2
def agR{l:List Int}{i:Int}:i∈Cr l↔i∈l:=by unfold Cr sortI;rw[List.mem_mergeSort,yg]
def aio(l:List Int):(Cr l).Pairwise (· < ·):=by unfold Cr sortI;have srt:=avH (le:=λa b:Int=>decide (a<=b)) (λa b c k1 k2=>by rw[awc]at *;omega) (λa b=>by rw[avN,awc,awc];omega) l.eraseDups;have nd:(l.eraseDups.mergeSort λa b=>decide (a<=b)).Nodup:=(av0 _ _).nodup_iff.mpr HW;refine List.Pairwise.imp₂ (λa b h1 h2=>?_) srt nd;rw[awc]at h1;have:a≠b:=h2;omega
section
variable{K:auT}{g:Gh}{H:Hp}
theorem Lr{xs:List V}{ds:List Dat}(h:aF K g H xs ds):∀{ys:List V} {es:List Dat},Ear.fZ (Ear.aeB xs ds) ys es->aF K g H ys es
 |[],[],_=>.nil
 |[],_::_,z=>nomatch z.1
 |_::_,[],z=>nomatch z.1
 |y::ys,e::es,z=>by
  let⟨i,h1,h2⟩:=z.2 0 y e rfl rfl
  let⟨d,h3,h4⟩:=h.get' h1
  rw[h2]at h3;cases h3;exact .cons h4 (Lr h ⟨avK z.1,λi v x a b=>z.2 (i+1) v x a b⟩)
end
section
variable{X:Cx}{aj:aM}{W:WX}{a:Expr}{fa:QF}{p p2 pos pos2:Pos}
def alh:Nz aj X.K W zH (Ear.Ls X.K):=λσ g H x d Q k rx h=>by
 unfold zH at h;left
 .next ds=>
  let⟨l,us,rfl,h1,h2⟩:=jL rx
  unfold Ear.Ls;left
  .next ns hn=>
   have e:=Ik hn;subst e;refine⟨l,us,ns.map PyData.int,rfl,h1,h2.dp (n:=12) (abr 12 ns),avZ (λa b=>by simp[PySem.W.alike]),PySem.W.Sortable.others (λb=>⟨(λz=>nomatch z),λxs z=>nomatch z⟩),λd hd=>by
    let⟨i,_,rfl⟩:=au2.mp hd
    simp[PyData.depth],λys q hy nq=>?_⟩
   have hs:=Oa (enc:=PyData.int) (le:=λa b:Int=>decide (a<=b)) (λa b=>congrFun (congrFun (PySem.W.dataLe_int (λk:Int=>k)) a) b) ns;rw[hs]at hy;exact h (.ref q) _ (Ex.new nq) (.lst (.inl ⟨.inl awi,k.fresh nq⟩) ((Lr h2 hy).ex (Ex.new nq) k))
  .left
   .next R hR=>
    have e:=UL hR;subst e;refine⟨l,us,R.map Ear.rD,rfl,h1,h2.dp (n:=12) (ac4 10 R),avZ Ear.Yw,PySem.W.Sortable.tuples (λb=>⟨_,_,rfl⟩),λd hd=>by
     let⟨i,_,rfl⟩:=au2.mp hd
     rw[(Ear.afS i).2]
     decide,λys q hy nq=>?_⟩
    .have hs:=Oa (enc:=Ear.rD) (le:=λa b:Ear.Rw=>decide (Ear.rk a<=Ear.rk b)) (λa b=>by rw[<-Ear.Qz];rfl) R;rw[hs]at hy;exact h (.ref q) _ (Ex.new nq) (.lst (.inl ⟨.inl awi,k.fresh nq⟩) ((Lr h2 hy).ex (Ex.new nq) k))
   .exact awb h
 .exact awb h
def ajU(hu:X.A.units+65<cLine)(hg:Gl X "sorted")(hm:X.mg "sorted"=none)(ha:QW aj X W a fa)(hs:nst a=true):QE aj X W (.Call (.Name "sorted" p) [a] [] pos) (dZ zH fa):=
 ajy (.inl rfl) (Ear.ae1 hu) alh hg hm ⟨#[[]],#[()],#[()]⟩ ha hs
theorem adt{K:auT}{g:Gh}{H:Hp}:∀{vs:List V} {l:List Int},DpAll K H vs (l.map PyData.int)->aF K g H vs (l.map PyData.int)
 |_,[],.nil=>.nil
 |_,_::_,.cons (.int i) t=>.cons (.int i) (adt t)
def afJ{K:auT}{g:Gh}{H:Hp}{v:V}{r:Ear.Rw}(h:Ear.Af K H v r):Rep K g H v (Ear.rD r):=by
 unfold Ear.Af Ear.rD at h;cases h with
 |tup h1 t1=>
  cases t1 with
  |cons a1 t1=>
   cases a1;cases t1 with
   |cons a2 t2=>
    cases t2;cases a2 with
    |tup h2 t3=>exact .tup h1 (.cons (.int _) (.cons (.tup h2 (adt t3)) .nil))
theorem Yu{K:auT}{g:Gh}{H:Hp}:∀{vs:List V} {R:List Ear.Rw},aF K g H vs (R.map Ear.rD)->Ear.fZ (Ear.Af K H) vs R
 |_,[],.nil=>⟨rfl,λi v x a b=>by simp at a⟩
 |_,r::R,.cons h t=>by
  have ih:=Yu t;refine⟨congrArg (· + 1) ih.1,λi v x a b=>?_⟩;cases i with
  |zero=>
   simp at a b;subst a b;exact h.dp (n:=12) (P0 10 _)
  |succ i=>exact ih.2 i v x (by simpa using a) (by simpa using b)
theorem Y9{K:auT}{g:Gh}{H:Hp}:∀{vs:List V} {R:List Ear.Rw},Ear.fZ (Ear.Af K H) vs R->aF K g H vs (R.map Ear.rD)
 |[],[],_=>.nil
 |[],_::_,h=>nomatch h.1
 |_::_,[],h=>nomatch h.1
 |v::vs,r::R,h=>.cons (afJ (h.2 0 v r rfl rfl)) (Y9 ⟨avK h.1,λi v x a b=>h.2 (i+1) v x a b⟩)
def aks(hu:X.A.units+65<cLine)(hc:X.calm=true)(hg:Gl X "sorted")(hm:X.mg "sorted"=none)(hg2:Gl X "set")(hm2:X.mg "set"=none)(ha:QW aj X W a fa)(hs:nst a=true):QE aj X W (.Call (.Name "sorted" p) [.Call (.Name "set" p2) [a] [] pos2] [] pos) (dZ Ve fa):=by
 have h0:=pa_cons ha pa_nil (bZ hs []);have h1:PE X (.Call (.Name "set" p2) [a] [] pos2) _:=pe_callTy (Ear.acK hu hc) hg2 hm2 #[[]] h0 #[()] #[()] (bZ hs []) #[rfl]
 have h2:=pa_cons h1 pa_nil (bZ rfl []);refine PE.weak (pe_callB (p:=p) (pos:=pos) (Ear.aeX hu hc) hg hm #[[]] h2 #[()] #[()] (bZ rfl []) #[rfl]) λσ H Q ⟨g,Z,M,I,h⟩=>?_;refine tW.go I h.bnd λd v H1 h1 e1 r1=>?_;have I1:=I.ex e1;unfold Ve at h1;split at h1
 .next ds=>
  split at h1
  .next R hR=>
   split at h1
   .next hd=>
    have e:=UL hR;subst e;let⟨l,us,rfl,s1,s2⟩:=jL r1
    unfold Ear.QM;refine⟨l,us,R,R.eraseDups,rfl,s1,Yu s2,awd hd,λr hr=>yg.mpr hr,λq L nq hL nd mem few=>?_⟩;have eq:Ex H1 (upd H1 q (Ear.Ro X.w q L)):=Ex.new nq;unfold Ear.Uz;refine⟨q,L,rfl,awi,λe he=>?_,nd,few,λys S z hy up ms nz=>?_⟩
    .exact(Rep.ex eq I1.kd (afJ (g:=g) (hL e he))).dp (n:=12) (P0 10 _)
    .have hS:S=bG R:=Ear.ahi up (Tq R) λr=>by rw[ms,mem,lV]
     subst hS;have I2:=I1.ex eq;exact h1 (.ref z) _ ((e1.trans eq).trans (Ex.new nz)) (.lst (.inl ⟨.inl awi,I2.kd.fresh nz⟩) ((Y9 hy).ex (Ex.new nz) I2.kd))
   .exact awb h1
  .exact awb h1
 .exact awb h1
def Ez(it:IF)(tg:dY)(vs:List Nat)(tt:QT)(te:QF):QF:=λM Z=>(xM it tg vs tt te M Z).bind λds=>match intsOf ds with
 |some l=>Out.when (decide (l.length<=4000)) (.ok (.list ((Cr l).map PyData.int)))
 |none=>.bad
theorem Wg{K:auT}{g:Gh}{H:Hp}:∀ns:List Int,aF K g H (ns.map V.int) (ns.map PyData.int)
 |[]=>.nil
 |n::ns=>.cons (.int n) (Wg ns)
def akd{S T:List Int}(hs:S.Pairwise (· < ·))(ht:T.Pairwise (· < ·))(h:∀i,i∈S↔i∈T):S=T:=by
 induction S generalizing T with
 |nil=>
  cases T with
  |nil=>rfl
  |cons t T=>exact absurd ((h t).mpr auX) avm
 |cons s S ih=>
  cases T with
  |nil=>exact absurd ((h s).mp auX) avm
  |cons t T=>
   rw[List.pairwise_cons]at hs ht;have e:s=t:=by
    rcases au7.mp ((h s).mp auX) with e|e
    .exact e
    .rcases au7.mp ((h t).mpr auX) with e2|e2
     .exact e2.symm
     .have:=ht.1 s e;have:=hs.1 t e2;omega
   subst e;rw[ih hs.2 ht.2 λi=>?_];constructor
   .intro hi;rcases au7.mp ((h i).mp (auY _ hi)) with e|e
    .have:=hs.1 i hi;omega
    .exact e
   .intro hi;rcases au7.mp ((h i).mpr (auY _ hi)) with e|e
    .have:=ht.1 i hi;omega
    .exact e
def afi{a b:List Dat}{l:List Int}(h:intsOf (a++b)=some l):∃x y,intsOf a=some x/\intsOf b=some y/\l=x++y:=by
 have e:=Ik h;let⟨x,y,rfl,h1,h2⟩:=List.append_eq_map_iff.mp e
 exact⟨x,y,by rw[<-h1,ni],by rw[<-h2,ni],rfl⟩
def ao9{it:IF}{tg:dY}{js vs:List Nat}{tt:QT}{te:QF}(hj:∀j∈js,j∈vs)(σ:L2.St)(H:Hp)(Q:VK)(h:tQ X.K aj W (Ez it tg vs tt te) σ H Q) :
  tCB (Ear.Rh X.w) (tCons (Ear.am1 X.w (tI X.K aj W false it) (xJ X.K aj js tg) (jx X.K aj WF tt) (tQ X.K aj WF te) vs) tNil) σ H Q:=by
 let⟨g,Z,M,I,h⟩:=h
 unfold Ez xM at h;have h:=h.bnd;refine⟨g,Z,M,I,h.bnd.mono (λds hk J C H1 e1 w c _ D nD=>?_) λ_ z=>z⟩;let⟨hz,hk⟩:=hk.qR
 have hlen:=awd hz;obtain⟨total,htot,hk⟩:∃total,cI tg tt te M (bM Z vs) ds=.ok total/\(match intsOf total with
   |some l=>Out.when (decide (l.length<=4000)) (Out.ok (PyData.list ((Cr l).map PyData.int)))
   |none=>Out.bad).sat (λd=>∀v H',Ex H H'->Rep X.K g H' v d->Q v H') (sG X.K aj W g H σ):=by
  cases hc:cI tg tt te M (bM Z vs) ds with
  |bad=>rw[hc]at hk;exact awb hk
  |exc x=>exact absurd hc nY
  |ok total=>
   rw[hc]at hk;exact⟨total,rfl,hk⟩
 split at hk
 .next nums hnums=>
  let⟨hz2,hk⟩:=Out.sat.qR hk
  have hlen2:=awd hz2;have I1:=(I.ex e1).wipe vs;have kD:∀{Ha:Hp} {S:Int->Bool} {n:Nat},Ex H1 Ha->Ha D=some (SetO X.w D S n)->SInv X.K aj (L2.wipe σ vs) Ha (g.add D) (bM Z vs) M:=λea hu=>I1.add nD ea hu awa
  let Pv:Nat->Hp->Prop:=λi Ha=>Ex H1 Ha/\i<=ds.length/\∃(S:Int->Bool) (n:Nat) (ys:List Int),Ha D=some (SetO X.w D S n)/\(∀j,S j=true↔j∈ys)/\n<=ys.length/\(cI tg tt te M (bM Z vs) (ds.drop i)).sat (λr=>total=ys.map PyData.int++r) λ_=>False
  refine⟨λi m Ha=>m=ds.length-i/\Pv i Ha,⟨ds.length,rfl,Ex.new nD,avv _,_,0,[],awi,λj=>by simp,avd _,?_⟩,?_⟩
  .rw[avT,htot];rfl
  .rintro i m Ha ⟨rfl,ea,hi,S,n,ys,hu,hS,hn,hs⟩;have Ia:=kD ea hu;have Ca:=w.add g (g.add D) H1 Ha (I.kd.ex e1) c (Gh.zN nD ea) ea;by_cases hlt:i<ds.length
   .refine .inr ⟨w.go _ i Ha Ca hlt,Pv (i+1),λH' p=>⟨ds.length-(i+1),#[],rfl,p⟩,λx H' y=>?_⟩;have hd:ds[i]?=some ds[i]:=auV hlt;let⟨e2,rx⟩:=w.yld _ i Ha x H' _ Ia.kd Ca hd y
    have I2:=Ia.ex e2;rw[avu hlt,cI]at hs;split at hs
    .exact awb hs
    .next Z1 he=>
     refine⟨g.add D,_,M,_,Z1,I2,rx,he,λws I3=>⟨vC js ws _ vs hj |>.trans (yN σ vs),?_⟩⟩;refine jx.go I3 (yO hs.bnd) λb H3 hb e3=>?_;have I4:=I3.ex e3;have hu3:=e3 _ _ (e2 _ _ hu);cases b with
     |false=>
      have hb:(cI tg tt te M (bM Z vs) (ds.drop (i+1))).sat (λr=>total=ys.map PyData.int++r) λ_=>False:=hb;exact⟨(ea.trans e2).trans e3,hlt,S,n,ys,hu3,hS,hn,hb⟩
     |true=>
      have hb:((zq (te M Z1)).bind λy=>(cI tg tt te M (bM Z vs) (ds.drop (i+1))).bind λr=>Out.ok (y::r)).sat (λr=>total=ys.map PyData.int++r) λ_=>False:=hb;refine tQ.go I4 (yO hb.bnd) λy v H4 hyv e4 ry=>?_;have hu4:=e4 _ _ hu3;obtain⟨r,hr,ht⟩:∃r,cI tg tt te M (bM Z vs) (ds.drop (i+1))=.ok r/\total=ys.map PyData.int++y::r:=by
       cases hc:cI tg tt te M (bM Z vs) (ds.drop (i+1)) with
       |bad=>rw[hc]at hyv;exact awb hyv
       |exc x=>exact absurd hc nY
       |ok r=>
        rw[hc]at hyv;exact⟨r,rfl,hyv⟩
      rw[ht]at hnums;let⟨xl,yl,q1,q2,q3⟩:=afi hnums
      cases y with
      |int kk=>
       cases ry;have hyl:ys.length<nums.length:=by
        rw[ni]at q1
        obtain rfl:ys=xl:=avi q1
        rw[intsOf,avL]at q2;let⟨z,_,rfl⟩:=q2
        rw[q3];simp
       refine⟨kk,S,n,rfl,hu4,by unfold scanBound;omega,Ex.mut (((ea.trans e2).trans e3).trans e4) nD,hlt,_,_,ys++[kk],awi,λj=>?_,?_,?_⟩
       .simp[hS]
       .split<;>simp<;>omega
       .rw[hr];show total=_;rw[ht];simp
      |_=>cases q2
   .have e:i=ds.length:=#[];refine .inl ⟨w.stop _ i Ha Ca e,?_⟩;rw[e,avB]at hs;have hs:total=ys.map PyData.int++[]:=hs;rw[avy]at hs;rw[hs,ni]at hnums
    obtain rfl:ys=nums:=avi hnums
    unfold Ear.Rh;refine⟨D,S,n,rfl,hu,λns z up mem _ nz=>?_⟩;have hns:ns=Cr ys:=akd up (aio ys) λj=>by rw[mem,hS,agR]
    subst hns;have ex:=(e1.trans ea).trans (Ex.new (o:=.lst ((Cr ys).map V.int)) nz);have kk:=(I.ex (e1.trans ea)).kd;exact hk (.ref z) _ ex (.lst (.inl ⟨.inl awi,kk.fresh nz⟩) (Wg _))
 .exact awb hk
def agb{elt tg iter:Expr}{ifs:List Expr}{scope:Scope}{own:LsS Nat}{it:IF}{tgf:dY}{js:List Nat}{tt:QT}{te:QF}(hu:X.A.units+65<cLine)(hc:X.calm=true)(hN:X.N.Nodup)(hg0:Gl X "sorted")(hm:X.mg "sorted"=none)(hi:QI aj X W false tg iter it)(ok:blkC X.N X.env.scope scope own=true)(hj:∀j∈js,j∈own.map (·.2))
  (hg:∀s H C cl fp,QG aj #[[[]]] tg js tgf)
  (ht:∀s H C cl fp,PTs #[[[]]] ifs (jx X.K aj WF tt))
  (he:∀s H C cl fp,QE aj #[[[]]] WF elt te) (hs:∀x,foldedSetIterable iter X.env x=pure x) :
  QE aj X W (.Call (.Name "sorted" p) [.SetComp elt [⟨tg,iter,ifs,0⟩] scope pos2] [] pos) (Ez it tgf (own.map (·.2)) tt te):=by
 have h1:=Ear.amc (pos:=pos2) (g:=xJ X.K aj js tgf) (tt:=jx X.K aj WF tt) (te:=tQ X.K aj WF te) hc hN hi (blkOk_by ok) (λs H C cl fp=>hg s H C cl fp) ht (λs H C cl fp=>he s H C cl fp) hs;have h2:=pa_cons h1 pa_nil (bZ rfl []);exact PE.weak (pe_callB (p:=p) (pos:=pos) (Ear.agS hu hc) hg0 hm #[[]] h2 #[()] #[()] (bZ rfl []) #[rfl]) λσ H Q h=>ao9 hj σ H Q h
end
def Cg(Z:Env):Bool:=Z.all λo=>match o with
 |some (.mut _)=>false
 |_=>true
def abZ{Z:Env}(h:Cg Z=true){i:Nat}{xs:List Dat}:Z[i]?≠some (some (.mut xs)):=λz=>by
 have:=avl.mp h _ (au4 z);cases this
theorem SInv.loc{K:auT}{aj:aM}{σ:L2.St}{H:Hp}{g:Gh}{Z:Env}{M:Mo}{D:Addr}{us us':List V}(I:SInv K aj σ H g Z M)(n:Cg Z=true)(hD:H D=some (.lst us))(lo:g.Lo D):SInv K aj σ (upd H D (.lst us')) g Z M where
 kd:=I.kd.upd awa
 wok:=I.wok.loc I.kd hD lo
 len:=I.len
 dat:=λi d h=>by
  let⟨v,h1,h2⟩:=I.dat i d h
  exact⟨v,h1,akQ I.kd hD lo h2⟩
 own:=λi xs h=>absurd h (abZ n)
 sep:=λi j xs ys l ne h1=>absurd h1 (abZ n)
def iW(tg:dY)(tt:QT)(it1:IF)(tg1:dY)(vs1:List Nat)(tt1:QT)(te:QF)(M:Mo)(Z:Env):List Dat->Out (List Dat)
 |[]=>.ok []
 |d::ds=>match tg d Z with
  |none=>.bad
  |some Z1=>(zq (tt M Z1)).bind λb=>if b=true then Out.when (Cg Z1) ((zq (it1 M Z1)).bind λes=>(cI tg1 tt1 te M (bM Z1 vs1) es).bind λr1=>(iW tg tt it1 tg1 vs1 tt1 te M Z ds).bind λr=>.ok (r1++r)) else iW tg tt it1 tg1 vs1 tt1 te M Z ds
def adu(it:IF)(tg:dY)(vs:List Nat)(tt:QT)(it1:IF)(tg1:dY)(vs1:List Nat)(tt1:QT)(te:QF):IF:=λM Z=>(it M Z).bind λds=>(iW tg tt it1 tg1 vs1 tt1 te M (bM Z vs) ds).bind λr=>Out.when (decide (r.length<=50000)) (.ok r)
def Gv(it:IF)(tg:dY)(vs:List Nat)(tt:QT)(it1:IF)(tg1:dY)(vs1:List Nat)(tt1:QT)(te:QF):QF:=λM Z=>(adu it tg vs tt it1 tg1 vs1 tt1 te M Z).bind λr=>.ok (.list r)
theorem zm{tg tg1:dY}{tt tt1:QT}{te:QF}{it1:IF}{vs1:List Nat}{M:Mo}{Z:Env}:∀{ds:List Dat} {x:eX},iW tg tt it1 tg1 vs1 tt1 te M Z ds≠.exc x
 |[],_,h=>nomatch h
 |d::ds,x,h=>by
  rw[iW]at h;left
  .cases h
  .next Z1 e=>
   cases h1:tt M Z1 with
   |bad=>rw[h1]at h;cases h
   |exc y=>rw[h1]at h;cases h
   |ok b=>
    rw[h1]at h;cases b with
    |false=>exact zm (ds:=ds) (x:=x) h
    |true=>
     cases hn:Cg Z1 with
     |false=>rw[hn]at h;cases h
     |true=>
      rw[hn]at h;cases h2:it1 M Z1 with
      |bad=>rw[h2]at h;cases h
      |exc y=>rw[h2]at h;cases h
      |ok es=>
       rw[h2]at h;have h:((cI tg1 tt1 te M (bM Z1 vs1) es).bind λr1=>(iW tg tt it1 tg1 vs1 tt1 te M Z ds).bind λr=>Out.ok (r1++r))=.exc x:=h;cases h3:cI tg1 tt1 te M (bM Z1 vs1) es with
       |bad=>rw[h3]at h;cases h
       |exc y=>exact absurd h3 nY
       |ok r1=>
        rw[h3]at h;have h:((iW tg tt it1 tg1 vs1 tt1 te M Z ds).bind λr=>Out.ok (r1++r))=.exc x:=h;cases h4:iW tg tt it1 tg1 vs1 tt1 te M Z ds with
        |bad=>rw[h4]at h;cases h
        |exc y=>exact absurd h4 zm
        |ok r=>rw[h4]at h;cases h
section
variable{K:auT}{aj:aM}{W:WX}
def akM{it it1:IF}{tg tg1:dY}{js vs js1 vs1:List Nat}{tt tt1:QT}{te:QF}(hj:∀j∈js,j∈vs)(hj1:∀j∈js1,j∈vs1)(σ:L2.St)(H:Hp)(Q:VK)(h:tFr K aj W (adu it tg vs tt it1 tg1 vs1 tt1 te) σ H Q) :
  tLc2 (tI K aj W false it) (xJ K aj js tg) (jx K aj WF tt) (tI K aj WF true it1) (xJ K aj js1 tg1) (jx K aj WF tt1) (tQ K aj WF te) vs vs1 σ H Q:=by
 let⟨g,Z,M,I,h⟩:=h
 refine⟨g,Z,M,I,h.bnd.mono (λds hk J C H1 e1 w c _ D nD=>?_) λ_ z=>z⟩;obtain⟨total,htot,hlen,hQ⟩:∃total,iW tg tt it1 tg1 vs1 tt1 te M (bM Z vs) ds=.ok total/\total.length<=50000/\∀l us H',H l=none->Ex H H'->H' l=some (.lst us)->aF K (g.add l) H' us total->Q (.ref l) H':=by
  cases hc:iW tg tt it1 tg1 vs1 tt1 te M (bM Z vs) ds with
  |bad=>rw[hc]at hk;exact awb hk
  |exc x=>exact absurd hc zm
  |ok total=>
   rw[hc]at hk;let⟨hz,hk⟩:=Out.sat.qR hk
   exact⟨total,rfl,awd hz,hk⟩
 have I1:=(I.ex e1).wipe vs;have kD:∀{Ha:Hp} {us:List V},Ex H1 Ha->Ha D=some (.lst us)->SInv K aj (L2.wipe σ vs) Ha (g.add D) (bM Z vs) M:=λea hu=>I1.add nD ea hu awa;have lD:(g.add D).Lo D:=.inr rfl
 let Pv:Nat->Hp->Prop:=λi Ha=>Ex H1 Ha/\i<=ds.length/\∃us ys,Ha D=some (.lst us)/\aF K (g.add D) Ha us ys/\(iW tg tt it1 tg1 vs1 tt1 te M (bM Z vs) (ds.drop i)).sat (λr=>total=ys++r) λ_=>False
 refine⟨λi m Ha=>m=ds.length-i/\Pv i Ha,⟨ds.length,rfl,Ex.new nD,avv _,[],[],awi,.nil,?_⟩,?_⟩
 .rw[avT,htot];rfl
 .rintro i m Ha ⟨rfl,ea,hi,us,ys,hu,hU,hs⟩;have Ia:=kD ea hu;have Ca:=w.add g (g.add D) H1 Ha (I.kd.ex e1) c (Gh.zN nD ea) ea;by_cases hlt:i<ds.length
  .refine .inr ⟨w.go _ i Ha Ca hlt,Pv (i+1),λH' p=>⟨ds.length-(i+1),#[],rfl,p⟩,λx H' y=>?_⟩;have hd:ds[i]?=some ds[i]:=auV hlt;let⟨e2,rx⟩:=w.yld _ i Ha x H' _ Ia.kd Ca hd y
   have I2:=Ia.ex e2;rw[avu hlt,iW]at hs;split at hs
   .exact awb hs
   .next Z1 he=>
    refine⟨g.add D,_,M,_,Z1,I2,rx,he,λws I3=>⟨vC js ws _ vs hj |>.trans (yN σ vs),?_⟩⟩;refine jx.go I3 (yO hs.bnd) λb H3 hb e3=>?_;have I4:=I3.ex e3;have hu3:=e3 _ _ (e2 _ _ hu);have hU3:=(hU.ex e2 Ia.kd).ex e3 I2.kd;cases b with
    |false=>
     have hb:(iW tg tt it1 tg1 vs1 tt1 te M (bM Z vs) (ds.drop (i+1))).sat (λr=>total=ys++r) λ_=>False:=hb;exact⟨(ea.trans e2).trans e3,hlt,us,ys,hu3,hU3,hb⟩
    |true=>
     have hb:(Out.when (Cg Z1) ((zq (it1 M Z1)).bind λes=>(cI tg1 tt1 te M (bM Z1 vs1) es).bind λr1=>(iW tg tt it1 tg1 vs1 tt1 te M (bM Z vs) (ds.drop (i+1))).bind λr=>Out.ok (r1++r))).sat (λr=>total=ys++r) λ_=>False:=hb;let⟨nm,hb⟩:=hb.qR
     refine⟨g.add D,Z1,M,I4,(yO (E':=sG K aj WF (g.add D) H3 _) hb.bnd).mono (λes hk1 J1 C1 H4 e4 w1 c1 fm=>?_) λ_ z=>z⟩;have fm:=fm rfl
     -- all that is added by this walk
     obtain⟨r1,r2,hr1,hr2,ht⟩:∃r1 r2,cI tg1 tt1 te M (bM Z1 vs1) es=.ok r1/\iW tg tt it1 tg1 vs1 tt1 te M (bM Z vs) (ds.drop (i+1))=.ok r2/\total=ys++(r1++r2):=by
      cases q1:cI tg1 tt1 te M (bM Z1 vs1) es with
      |bad=>rw[q1]at hk1;exact awb hk1
      |exc y=>exact absurd q1 nY
      |ok r1=>
       rw[q1]at hk1;have hk1:((iW tg tt it1 tg1 vs1 tt1 te M (bM Z vs) (ds.drop (i+1))).bind λr=>Out.ok (r1++r)).sat (λr=>total=ys++r) λ_=>False:=hk1;cases q2:iW tg tt it1 tg1 vs1 tt1 te M (bM Z vs) (ds.drop (i+1)) with
       |bad=>rw[q2]at hk1;exact awb hk1
       |exc y=>exact absurd q2 zm
       |ok r2=>
        rw[q2]at hk1;exact⟨r1,r2,rfl,rfl,hk1⟩
     let P1:Nat->Hp->Prop:=λj Hb=>Ex H1 Hb/\SInv K aj (sets (L2.wipe σ vs) js ws) Hb (g.add D) Z1 M/\C1 (g.add D) Hb/\j<=es.length/\∃us' zs,Hb D=some (.lst us')/\aF K (g.add D) Hb us' (ys++zs)/\(cI tg1 tt1 te M (bM Z1 vs1) (es.drop j)).sat (λr=>r1=zs++r) λ_=>False
     refine⟨λj m Hb=>m=es.length-j/\P1 j Hb,⟨es.length,rfl,((ea.trans e2).trans e3).trans e4,I4.ex e4,c1,avv _,us,[],e4 _ _ hu3,by rw[avy];exact hU3.ex e4 I4.kd,?_⟩,?_⟩
     .rw[avT,hr1];rfl
     .rintro j m Hb ⟨rfl,fb,Ib,Cb,hjl,us',zs,hub,hUb,hsb⟩;by_cases hlj:j<es.length
      .refine .inr ⟨w1.go _ j Hb Cb hlj,P1 (j+1),λH' p=>⟨es.length-(j+1),#[],rfl,p⟩,λx H' y=>?_⟩;have hdj:es[j]?=some es[j]:=auV hlj;let⟨f2,rx⟩:=w1.yld _ j Hb x H' _ Ib.kd Cb hdj y
       have J2:=(Ib.ex f2).wipe vs1;rw[avu hlj,cI]at hsb;split at hsb
       .exact awb hsb
       .next Z2 he1=>
        refine⟨g.add D,_,M,_,Z2,J2,rx,he1,λws1 J3=>⟨vC js1 ws1 _ vs1 hj1 |>.trans (yN _ vs1),?_⟩⟩;refine jx.go J3 (yO hsb.bnd) λb H6 hb6 e6=>?_;have f26:=f2.trans e6;have hu6:=f26 _ _ hub;have hU6:=hUb.ex f26 Ib.kd;cases b with
        |false=>
         have hb6:(cI tg1 tt1 te M (bM Z1 vs1) (es.drop (j+1))).sat (λr=>r1=zs++r) λ_=>False:=hb6;exact⟨fb.trans f26,Ib.ex f26,w1.ex _ _ _ Ib.kd Cb f26,hlj,us',zs,hu6,hU6,hb6⟩
        |true=>
         have hb6:((zq (te M Z2)).bind λy=>(cI tg1 tt1 te M (bM Z1 vs1) (es.drop (j+1))).bind λr=>Out.ok (y::r)).sat (λr=>r1=zs++r) λ_=>False:=hb6;refine tQ.go (J3.ex e6) (yO hb6.bnd) λy v H7 hyv e7 ry=>?_;have f27:=f26.trans e7;have Ib7:=Ib.ex f27;have hu7:=f27 _ _ hub;have hU7:=hUb.ex f27 Ib.kd;have hyv:=hyv.bnd;have hr:∃r,cI tg1 tt1 te M (bM Z1 vs1) (es.drop (j+1))=.ok r/\r1=zs++y::r:=by
          cases q1:cI tg1 tt1 te M (bM Z1 vs1) (es.drop (j+1)) with
          |bad=>rw[q1]at hyv;exact awb hyv
          |exc y=>exact absurd q1 nY
          |ok r=>
           rw[q1]at hyv;exact⟨r,rfl,hyv⟩
         let⟨r,hr,hr1'⟩:=hr
         have hll:us'.length<50000:=by
          rw[hUb.length];rw[ht,hr1']at hlen;simp at hlen |-
          omega
         refine⟨us',hu7,sz_lt (Nat.lt_trans hll #[()]),Ex.mut (fb.trans f27) nD,Ib7.loc nm hu7 lD,fm true _ _ _ _ Ib7.kd (w1.ex _ _ _ Ib.kd Cb f27) (Gr.upd Ib7.kd hu7 (.inr lD)),hlj,us'++[v],zs++[y],awi,?_,?_⟩
         .rw[<-List.append_assoc];exact UW Ib7.kd hu7 lD (hU7.append (.cons ry .nil))
         .rw[hr];show r1=_;rw[hr1'];simp
      .have e:j=es.length:=#[];refine .inl ⟨w1.stop _ j Hb Cb e,?_⟩;rw[e,avB]at hsb;have hsb:r1=zs++[]:=hsb;rw[avy]at hsb;subst hsb;refine⟨fb,hlt,us',ys++r1,hub,hUb,?_⟩;rw[hr2];show total=_;rw[ht,List.append_assoc]
  .have e:i=ds.length:=#[];refine .inl ⟨w.stop _ i Ha Ca e,?_⟩;rw[e,avB]at hs;have hs:total=ys++[]:=hs;rw[avy]at hs;subst hs;exact hQ D us Ha (Ge e1 D nD) (e1.trans ea) hu hU
def ag7{it it1:IF}{tg tg1:dY}{js vs js1 vs1:List Nat}{tt tt1:QT}{te:QF}(hj:∀j∈js,j∈vs)(hj1:∀j∈js1,j∈vs1)(σ:L2.St)(H:Hp)(Q:VK)(h:tQ K aj W (Gv it tg vs tt it1 tg1 vs1 tt1 te) σ H Q) :
  tLc2 (tI K aj W false it) (xJ K aj js tg) (jx K aj WF tt) (tI K aj WF true it1) (xJ K aj js1 tg1) (jx K aj WF tt1) (tQ K aj WF te) vs vs1 σ H Q:=by
 let⟨g,Z,M,I,h⟩:=h
 refine akM hj hj1 σ H Q ⟨g,Z,M,I,h.bnd.mono (λxs hk l us H' nl e hl r=>?_) λ_ z=>z⟩;refine hk (.ref l) H' e (.lst (.inl ⟨.inl hl,λz=>?_⟩) (aF.less (g:=g.add l) (g':=g) rfl (λa z=>?_) r))
 .exact I.kd.fresh nl z
 .rcases z with z|z|z
  .exact .inl z
  .exact .inr (.inl z)
  .exact .inr (.inr (.inl z))
end
section
variable{X:Cx}{aj:aM}{W:WX}{q:Bool}{elt tg iter tg1 iter1:Expr}{ifs ifs1:List Expr}{scope:Scope}{own:LsS Nat}{it it1:IF}{tgf tgf1:dY}{js js1 vs1:List Nat}{tt tt1:QT}{te:QF}{pos cpos:Pos}
def alv(hc:X.calm=true)(hN:X.N.Nodup)(hi:QI aj X W false tg iter it)(ok:blkC X.N X.env.scope scope own=true)(hv:∀i∈vs1,i∈own.map (·.2))(hj:∀j∈js,j∈own.map (·.2))(hj1:∀j∈js1,j∈vs1)
  (hg:∀s H C cl fp,QG aj #[[[]]] tg js tgf)
  (ht:∀s H C cl fp,PTs #[[[]]] ifs (jx X.K aj WF tt))
  (hi1:∀s H C cl fp,QI aj #[[[]]] WF true tg1 iter1 it1)
  (hg1:∀s H C cl fp,QG aj #[[[]]] tg1 js1 tgf1)
  (ht1:∀s H C cl fp,PTs #[[[]]] ifs1 (jx X.K aj WF tt1))
  (he:∀s H C cl fp,QE aj #[[[]]] WF elt te) (hs:∀x,foldedSetIterable iter X.env x=pure x) (hs1:∀env x,foldedSetIterable iter1 env x=pure x) :
  QE aj X W (.ListComp elt [⟨tg,iter,ifs,0⟩,⟨tg1,iter1,ifs1,0⟩] scope pos) (Gv it tgf (own.map (·.2)) tt it1 tgf1 vs1 tt1 te):=
 PE.weak (pe_lc2 (g:=xJ X.K aj js tgf) (tt:=jx X.K aj WF tt) (wi1:=tI X.K aj WF true it1) (g1:=xJ X.K aj js1 tgf1) (tt1:=jx X.K aj WF tt1) (te:=tQ X.K aj WF te) hc hN hi (blkOk_by ok) hv (λs H C cl fp=>hg s H C cl fp) ht (λs H C cl fp=>hi1 s H C cl fp) (λs H C cl fp=>hg1 s H C cl fp) ht1 (λs H C cl fp=>he s H C cl fp) hs hs1) λσ H Q h=>ag7 hj hj1 σ H Q h
def aki{j:Nat}{y:Str}{py:Pos}(hc:X.calm=true)(hN:X.N.Nodup)(hy:X.N[j]?=some y)(hyl:X.env.scope.names.lookup y=some .local)(hsw:swapsWith (.ListComp elt [⟨tg,iter,ifs,0⟩,⟨tg1,iter1,ifs1,0⟩] scope cpos) (some (.Name y py)) pos.line X.env=pure true)
  (hi:QI aj X W false tg iter it) (ok:blkC X.N X.env.scope scope own=true) (hv:∀i∈vs1,i∈own.map (·.2)) (hj:∀j∈js,j∈own.map (·.2)) (hj1:∀j∈js1,j∈vs1)
  (hg:∀s H C cl fp,QG aj #[[[]]] tg js tgf)
  (ht:∀s H C cl fp,PTs #[[[]]] ifs (jx X.K aj WF tt))
  (hi1:∀s H C cl fp,QI aj #[[[]]] WF true tg1 iter1 it1)
  (hg1:∀s H C cl fp,QG aj #[[[]]] tg1 js1 tgf1)
  (ht1:∀s H C cl fp,PTs #[[[]]] ifs1 (jx X.K aj WF tt1))
  (he:∀s H C cl fp,QE aj #[[[]]] WF elt te) (hs:∀x,foldedSetIterable iter X.env x=pure x) (hs1:∀env x,foldedSetIterable iter1 env x=pure x) :
  SE aj X W q (.Assign [.Name y py] (.ListComp elt [⟨tg,iter,ifs,0⟩,⟨tg1,iter1,ifs1,0⟩] scope cpos) pos) (aV (aq j) (gOf (Gv it tgf (own.map (·.2)) tt it1 tgf1 vs1 tt1 te))):=by
 refine PS.weak (ps_setLc2 (g:=xJ X.K aj js tgf) (tt:=jx X.K aj WF tt) (wi1:=tI X.K aj WF true it1) (g1:=xJ X.K aj js1 tgf1) (tt1:=jx X.K aj WF tt1) (te:=tQ X.K aj WF te) hc hN hy hyl hsw hi (blkOk_by ok) hv (λs H C cl fp=>hg s H C cl fp) ht (λs H C cl fp=>hi1 s H C cl fp) (λs H C cl fp=>hg1 s H C cl fp) ht1 (λs H C cl fp=>he s H C cl fp) hs hs1) λD σ H ⟨g,Z,M,I,z⟩=>?_;refine ag7 hj hj1 σ H _ ⟨g,Z,M,I,(Out.jH (dI (σ:=σ) z)).mono (λd kk v H' e r=>?_) λx kk H' c dd e r=>kk H' g c dd (Gr.ex e) (I.ex e) r⟩;exact kk _ H' g (Gr.ex e) ((I.ex e).set r)
end
def W4(neg:Bool)(kvs:LsS Dat)(k:QF):QF:=λM Z=>(k M Z).bind λd=>match d with
 |.str x=>.ok (.bool (neg ^^ (kvs.lookup x).isSome))
 |_=>.bad
def afh(kvs:LsS Dat)(k:QF):QF:=λM Z=>(k M Z).bind λd=>match d with
 |.str x=>match kvs.lookup x with
  |some y=>.ok y
  |none=>.bad
 |_=>.bad
section
variable{X:Cx}{aj:aM}{W:WX}{a:Expr}{fa:QF}{x:Str}{p pos:Pos}{kvs:LsS Dat}{k:Nat}
def agj{neg:Bool}{d:Addr}(D:afl X.w X.K d kvs)(σ:L2.St)(H:Hp)(Q:VK)(h:tQ X.K aj W (W4 neg kvs fa) σ H Q) :
  tOp (λx y H Q=>∃(z:Str) (r:Option Value),x=.str z/\y=.ref d/\PySem.W.nsIn X.K d z=some r/\Q (.bl (neg ^^ r.isSome)) H) (tW X.K aj W fa) (tC (.ref d)) σ H Q:=by
 let⟨g,Z,M,I,h⟩:=h
 refine tW.go I h.bnd λe v H1 h1 e1 r1=>?_;split at h1
 .next z=>
  cases lC r1;let⟨es,n,_,_,hl⟩:=D
  have hz:=hl z;cases hk:kvs.lookup z with
  |none=>
   rw[hk]at hz h1;exact⟨z,none,rfl,rfl,hz,h1 _ H1 e1 (.bl _)⟩
  |some d'=>
   rw[hk]at hz h1;let⟨v,u,h2,_⟩:=hz
   exact⟨z,some u,rfl,rfl,h2,h1 _ H1 e1 (.bl _)⟩
 .exact awb h1
def opG{neg:Bool}{op:CmpOp}{d:Addr}(_:Room k X.A)(hn:(op=.In/\neg=false)\/(op=.NotIn/\neg=true))(D:afl X.w X.K d kvs):OpR X (compareOp op) (λx y H Q=>∃(z:Str) (r:Option Value),x=.str z/\y=.ref d/\PySem.W.nsIn X.K d z=some r/\Q (.bl (neg ^^ r.isSome)) H):=by
 let⟨es,n,D,_⟩:=D
 rcases hn with⟨rfl,rfl⟩|⟨rfl,rfl⟩
 .have:=op_in_kd (X:=X) D;simpa only[Bool.false_xor] using this
 .have:=op_notIn_kd (X:=X) D;simpa only[Bool.true_xor] using this
def amZ{neg:Bool}{op:CmpOp}(hr:Room k X.A)(hn:(op=.In/\neg=false)\/(op=.NotIn/\neg=true))(g:pH X.prog X.w X.K X.mg X.base aj k x (.dic kvs))(hg:Gl X x)(hd:(x==("__debug__" : Str))=false)(ha:QW aj X W a fa):QE aj X W (.Compare a [op] [.Name x p] pos) (W4 neg kvs fa)/\vm aj X W (.Compare a [op] [.Name x p] pos) (dW (W4 neg kvs fa)):=by
 let⟨d,hm,D⟩:=g
 have hb:PE X (.Name x p) (tC (.ref d)):=pe_glob hg hm rfl hd;refine⟨PE.weak (pe_cmpR (opG hr hn D) ha hb (by cases op<;>rfl)) λσ H Q h=>agj D σ H Q h,PT.weak (pt_cmpR (opG hr hn D) ha hb (by cases op<;>rfl)) λσ H Q ⟨g,Z,M,I,h⟩=>?_⟩;refine agj D σ H _ ⟨g,Z,M,I,h.bnd.mono (λd h1 v H' e' r'=>?_) λ_ z=>z⟩;let⟨k,h2,h3⟩:=HJ r'.weak h1
 exact⟨k,h2,h3 H' e'⟩
def anC(g:pH X.prog X.w X.K X.mg X.base aj k x (.dic kvs))(hg:Gl X x)(hd:(x==("__debug__" : Str))=false)(ha:QW aj X W a fa)(hp:PlainIx a):QE aj X W (.Subscript (.Name x p) a pos) (afh kvs fa):=by
 let⟨d,hm,es,n,D,_,hl⟩:=g
 have hb:PE X (.Name x p) (tC (.ref d)):=pe_glob hg hm rfl hd;refine PE.weak (pe_ix ix_kdict hb ha hp) λσ H Q ⟨g,Z,M,I,h⟩=>?_;refine tW.go I h.bnd λe v H1 h1 e1 r1=>?_;split at h1
 .next z=>
  cases lC r1;have hz:=hl z;split at h1
  .next y hk=>
   rw[hk]at hz;let⟨v,u,h2,h3,h4⟩:=hz
   exact⟨d,z,v,rfl,rfl,⟨es,n,u,D.at_,D.lit,h2,h3⟩,h1 v H1 e1 (h4 g H1)⟩
  .exact awb h1
 .exact awb h1
end
section
variable{prog:Program}{w:World}{A:Around}{E:Value->Shared->Prop}{s:Shared}
def acu{l:Addr}{o:Obj}{es:List fM}{ds:List PyData}{Q:Value->Shared->Prop}(n:jR w l o es)(hh:A.handled=none)(hl:s.heap.get? l=some o)
  (er:PySem.W.EachIs (λv d=>∃as,Reads s.heap v d as) (es.map λe=>Value.ref e.2.1) ds) (hal:PySem.W.AllAlike ds) (hk:PySem.W.Sortable ds) (hu:∀d,d∈ds->A.units+2+d.depth<cLine) {R:Value->PyData->Prop} (e:PySem.W.EachIs R (es.map λe=>Value.ref e.2.1) ds)
  (h:∀(h1 h2:Heap) (tk:Nat) (out:List Value) (n:Nat),(∀b ob,s.heap.get? b=some ob->h1.get? b=some ob)->(∀b ob,h1.get? b=some ob->h2.get? b=some ob)->h2.get? h1.objs.size=some (seqObj "list" out.toArray n)->out.length=ds.length->
   PySem.W.EachIs R out (ds.mergeSort (PySem.W.dataLe false id))->Q (.ref h1.objs.size) { s with heap:=h2,toks:=tk }) :
  wpAny (model prog w) A (call (.builtin "sorted") [.ref l]) Q E s:=by
 refine call_function_entry_kw kind_sorted plain_sorted entry_sorted (args_sorted1 _) ?_;unfold Builtin.«sorted»;refine awe (m:=checkCount "sorted" 1 1 _) (awf ?_)
 refine awe (PySem.W.kdu_collect (A:=A.in1) (aej n) hh hl n.len λh' tk acc keep hacc=>?_);have el:acc.toList.length=es.length:=by rw[avt];exact hacc.1
 have ea:acc.toList=es.map λe=>Value.ref e.2.1:=by
  refine List.ext_getElem (by rw[el,au3]) λj h1 h2=>?_;let⟨e,he,hv⟩:=hacc.2 j acc.toList[j] (by rw[<-avx];exact auV h1)
  rw[hv,List.getElem_map];have hj:j<es.length:=by rw[<-el];exact h1
  rw[auV hj]at he;cases he;rfl
 rw[ea];have hL:(es.map λe=>Value.ref e.2.1).length<=sizeLine:=by rw[au3];exact n.len
 generalize (es.map λe=>Value.ref e.2.1)=vs at er e hL;refine awe (wpAny_newList ?_ hL);have hoL:(h'.push (seqObj "list" vs.toArray 0)).get? h'.objs.size=some (seqObj "list" vs.toArray 0):=Heap.get?_push_size _ rfl
 have old:∀b ob,h'.get? b=some ob->(h'.push (seqObj "list" vs.toArray 0)).get? b=some ob:=λb ob z=>Heap.get?_push_of_some _ z
 show wpAny _ _ _ _ _ { s with heap:=h'.push (seqObj "list" vs.toArray 0),toks:=tk }
 have er':PySem.W.EachIs (λv d=>∃as,Reads (PySem.W.sortingHeap (h'.push (seqObj "list" vs.toArray 0)) h'.objs.size vs) v (id d) as) vs ds:=er.mono λ_ _ ⟨as,r⟩=>⟨as,PyProof.Rows.Reads.keeps (λb ob z=>PySem.W.sortingHeap_old (avq (Heap.lt_size (keep b ob z))) (old b ob (keep b ob z))) r⟩
 have S:=PySem.W.SortsAt.data (prog:=prog) (w:=w) (A:=A.in1.in1) (s:={ s with heap:=PySem.W.sortingHeap (h'.push (seqObj "list" vs.toArray 0)) h'.objs.size vs,toks:=tk }) er' hal hk hu
 have hv:=PySem.W.sortVals_data (enc:=id) false e er' (by rw[List.map_id];exact hal);rw[List.map_id]at hv;have hlen:=PySem.W.sortVals_length (κ:=PySem.W.dataKind (PySem.W.sortingHeap (h'.push (seqObj "list" vs.toArray 0)) h'.objs.size vs) ds) false (ks:=vs) (vs:=vs) rfl
 let⟨n1,at1⟩:=sortedHeap_at (out:=(PySem.W.sortVals (PySem.W.dataKind (PySem.W.sortingHeap (h'.push (seqObj "list" vs.toArray 0)) h'.objs.size vs) ds) false vs vs).toArray) hoL
 have fin:=h h' _ tk _ n1 keep (λb ob z=>by
  rw[sortedHeap_old (avq (Heap.lt_size z)) (Heap.lt_size (old b ob z))];exact old b ob z) at1 (by rw[hlen];exact e.length) hv
 refine awe (wpAny_holding (wpAny_call_entry_kw slot_list_sort ⟨_,hoL,rfl⟩ entry_list_sort ?body (args_list_sort _)))
 case body=>
  show wpAny (model prog w) A.in1.in1 (Builtin.«list.sort» ⟨[.ref h'.objs.size],[]⟩) _ _ _;exact PySem.W.list_sort_vals (s:={ s with heap:=h'.push (seqObj "list" vs.toArray 0),toks:=tk }) hoL S hL ⟨_,rfl,awf ⟨_,rfl,fin⟩⟩
end
def aom(X:Cx):List V->Hp->VK->Prop:=λvs H Q=>∃(l:Addr) (o:Obj) (es:List fM) (ds:List PyData),vs=[V.ref l]/\H l=some (fO l o)/\jR X.w l o es/\DpAll X.K H (es.map λe=>V.ref e.2.1) ds/\PySem.W.AllAlike ds/\PySem.W.Sortable ds/\(∀d∈ds,d.depth<=60)/\
 ∀(ys:List V) (p:Addr),Ear.fZ (Ear.aeB (es.map λe=>V.ref e.2.1) ds) ys (ds.mergeSort (PySem.W.dataLe false id))->H p=none->Q (.ref p) (upd H p (.lst ys))
def vals_refs(es:List fM):Vals (es.map λe=>V.ref e.2.1) (es.map λe=>Value.ref e.2.1):=by
 induction es with
 |nil=>exact .nil
 |cons e es ih=>exact .cons rfl ih
def afc{X:Cx}(hu:X.A.units+65<cLine)(hc:X.calm=true):CallR X (.builtin "sorted") (aom X):=by
 intro pins s σ H vs us Q I r h;let⟨l,o,es,ds,rfl,hl,n,hd,hal,hk,hz,q⟩:=h
 let⟨u,rfl,ru⟩:=vals1 r
 obtain rfl:u=Value.ref l:=ru
 have rv:=vals_refs es;let⟨as,hr⟩:=Dp.readsAll I ds _ _ hd rv
 have er:PySem.W.EachIs (λv d=>∃as,Reads s.heap v (id d) as) (es.map λe=>Value.ref e.2.1) ds:=PySem.W.readsAll_each id (by rw[List.map_id];exact hr);have hn:=SeqAt.ReadsAll.length ds _ as hr;refine acu n (I.ok.hd hc) (pin_at I hl) er hal hk (λd m=>?_) (Ear.Ui _ ds _ _ rv er) λh1 h2 tk out nn k1 k2 at2 hlen hout=>?_
 .have:=hz d m;omega
 .let⟨ys,v1,v2⟩:=Ear.O9 out _ hout
  have hy:ys.length=ds.length:=by rw[v2.1,List.length_mergeSort]
  have hlen2:ds.length=es.length:=by rw[<-hn,au3]
  have I1:L2.Inv X pins σ H { s with heap:=h1,toks:=tk }:=I.kept k1;refine⟨.ref _,upd H h1.objs.size (.lst ys),I1.laid (t':=tk) k2 (avd _) ⟨by have:=n.len;omega,out,nn,v1,by simpa using at2⟩,rfl,q ys _ v2 (I1.hok.fresh (avd _))⟩
def Ae:List fM->List V->NestedKey->Option V
 |x::xs,v::vs,k=>if x.1=k then some v else Ae xs vs k
 |_,_,_=>none
theorem adX{k:NestedKey}{z:V}{r:Value}(rz:RelV z r):∀{xs:List fM} {vs:List V},Vals vs (xs.map (·.2.2))->RelV ((Ae xs vs k).getD z) ((valueAt (pairsH xs) k).getD r)
 |[],_,.nil=>rz
 |x::xs,_,.cons (a:=v) (l₁:=vs) r1 r2=>by
  by_cases h:x.1=k
  .have e1:Ae (x::xs) (v::vs) k=some v:=awg h;have e2:valueAt (pairsH (x::xs)) k=some x.2.2:=by simp[pairsH,valueAt,h]
   rw[e1,e2];exact r1
  .have e1:Ae (x::xs) (v::vs) k=Ae xs vs k:=awh h;have e2:valueAt (pairsH (x::xs)) k=valueAt (pairsH xs) k:=by simp[pairsH,valueAt,h]
   rw[e1,e2];exact adX rz r2
def aou(X:Cx)(td ty tx:TE):TE:=λσ H Q=>td σ H λx H1=>∃l o xs,x=.ref l/\H1 l=some (fO l o)/\jR X.w l o xs/\ty σ H1 λy H2=>tx σ H2 λz H3=>∃(g:Gh) (d:Dat) (b:Addr) (k:NestedKey) (vs:List V),H3 l=some (fO l o)/\aF X.K g H3 (xs.map λx=>V.ref x.2.1) (xs.map λx=>x.1.data)/\y=.ref b/\Rep X.K g H3 y d/\nO d=some k/\k.depth<=8/\Vals vs (xs.map (·.2.2))/\Q ((Ae xs vs k).getD z) H3
section
variable{X:Cx}{o e f:Expr}{apos cpos:Pos}{td ty tx:TE}
def aik(hu:X.A.units+64<cLine)(ho:PE X o td)(he:PE X e ty)(hf:PE X f tx)(m:M2 X o "get" apos e f cpos):PE X (.Call (.Attribute o "get" apos) [e,f] [] cpos) (aou X td ty tx):=by
 refine⟨λpins s σ H Q I h=>?_⟩;refine wpAny_Call_method m.base m.few m.line PySem.F.plainAttrs_dict PySem.F.slot_dict_get PySem.F.type_dict_get (thn (ho.run pins s σ H _ I h) λu s1 ⟨x,H1,I1,rx,l,ob,xs,ex,h1,n,q1⟩=>?_);subst ex
 obtain rfl:u=Value.ref l:=rx
 refine⟨⟨ob,pin_at I1 h1,n.ex.1⟩,λb q=>?_,?_⟩
 .cases q;exact⟨ob,pin_at I1 h1,n.ex.2.1⟩
 rw[m.trees];refine Calls.callWith_builtin rfl (Calls.evalArgs_plain (Calls.spliced_cons (thn (he.run pins s1 σ H1 _ I1 q1) λiv s2 ⟨y,H2,I2,ry,q2⟩=>
  Calls.spliced_cons (thn (hf.run pins s2 σ H2 _ I2 q2) λfv s3 ⟨z,H3,I3,rz,g,d,b,k,vs,k1,k2,k3,k4,k5,k6,k7,q3⟩=>Calls.spliced_nil ?_))))
 subst k3
 obtain rfl:iv=Value.ref b:=ry
 refine getOr_keyed (knd:=nestedKind X.prog X.w) (k:=k) (show _+8<cLine by show X.A.units+1+8<cLine;omega) ⟨key_is I3 k4 k5 rfl,k6⟩ n.sys ⟨xs,Cd I3 k1 n rfl k2,rfl⟩ ?_;exact⟨_,H3,I3.tok _,adX rz k7,q3⟩
end
def SInv.ao1{K:auT}{aj:aM}{σ:L2.St}{H:Hp}{g:Gh}{Z:Env}{M:Mo}{l:Addr}{o o':HO}(I:SInv K aj σ H g Z M)(hl:H l=some o)(mu:Jr o')(lo:g.Lo l)(nl:∀us,o≠.lst us):SInv K aj σ (upd H l o') g Z M:=by
 have gr:Gr true g g H (upd H l o'):=Gr.upd I.kd hl (.inr lo);refine⟨I.kd.upd mu,I.wok.loc I.kd hl lo,I.len,λi d h=>?_,λi zs h=>?_,I.sep⟩
 .let⟨v,e1,e2⟩:=I.dat i d h
  exact⟨v,e1,e2.gr gr I.kd⟩
 .let⟨l',ws,e1,e2,e3,e4⟩:=I.own i zs h
  have ne:l'≠l:=λz=>by
   subst z;rw[hl]at e2;cases e2;exact nl ws rfl
  exact⟨l',ws,e1,by rw[upd_ne ne];exact e2,e3,e4.gr gr I.kd⟩
structure xO(K:auT)(aj:aM)(j:Nat)(l:Addr)(σ:L2.St)(H:Hp)(g:Gh)(Z:Env)(M:Mo)(kvs:List (Dat×Dat)):Prop where
 inv:SInv K aj σ H g Z M
 nj:Z[j]?=some none
 sj:σ[j]?=some (some (.ref l))
 lo:g.Lo l
 dic:iQ K aj g H l true kvs
section
variable{K:auT}{aj:aM}{j l:Nat}{σ:L2.St}{H H':Hp}{g:Gh}{Z:Env}{M:Mo}{kvs:List (Dat×Dat)}
theorem xO.ex(e:Ex H H')(I:xO K aj j l σ H g Z M kvs):xO K aj j l σ H' g Z M kvs:=⟨I.inv.ex e,I.nj,I.sj,I.lo,I.dic.ex e I.inv.kd⟩
theorem xO.set{k:Nat}{v:V}{d:Dat}(I:xO K aj j l σ H g Z M kvs)(n:k≠j)(r:Rep K g H v d):xO K aj j l (σ.set k (some v)) H g (Z.set k #[d]) M kvs:=
 ⟨I.inv.set r,by rw[au1 n];exact I.nj,by rw[au1 n];exact I.sj,I.lo,I.dic⟩
theorem FP(j:Nat):∀(js:List Nat) (vs:List V) (σ:L2.St),j∉js->(sets σ js vs)[j]?=σ[j]?
 |[],_,_,_=>by unfold sets;rfl
 |_::_,[],_,_=>by unfold sets;rfl
 |k::js,v::vs,σ,h=>by
  show(sets (σ.set k (some v)) js vs)[j]?=_
  rw[FP j js vs _ λz=>h (auY _ z),au1 λz=>h (by rw[z];exact auX)]
end
def Ye(kvs:List (Dat×Dat))(d z:Dat):Dat:=match kvs.find? λp=>PyData.eqv p.1 d with
 |some p=>p.2
 |none=>z
def putN(kvs:List (Dat×Dat))(d v:Dat):List (Dat×Dat):=match kvs.any λp=>PyData.eqv p.1 d with
 |true=>kvs.map λp=>if PyData.eqv p.1 d=true then(p.1,v) else p
 |false=>kvs++[(d,v)]
theorem aaR{K:auT}{g:Gh}{H:Hp}{k:NestedKey}{z:V}{dz:Dat}(rz:Rep K g H z dz):∀{xs:List fM} {vs:List V} {kvs:List (Dat×Dat)},kvs.map (·.1)=xs.map (λx=>x.1.data)->aF K g H vs (kvs.map (·.2))->Rep K g H ((Ae xs vs k).getD z) (Ye kvs k.data dz)
 |[],vs,[],_,_=>by
  have e:Ae [] vs k=none:=by unfold Ae;rfl
  rw[e];exact rz
 |[],_,_::_,e,_=>by cases e
 |_::_,_,[],e,_=>by cases e
 |x::xs,vs,p::kvs,e,r=>by
  simp![List.map_cons,List.cons.injEq]at e r;cases r with
  | @cons v vs _ _ r1 r2=>
   have ih:=aaR (k:=k) rz e.2 r2;unfold Ye at ih |-
   rw[List.find?_cons,e.1,Fb];by_cases h:x.1=k
   .rw[show Ae (x::xs) (v::vs) k=some v from awg h,decide_eq_true h];exact r1
   .rw[show Ae (x::xs) (v::vs) k=Ae xs vs k from awh h,decide_eq_false h];exact ih
def ahR{xs:List fM}{k:NestedKey}{b:Addr}{u:Value}{kvs:List (Dat×Dat)}{v:Dat}(e:kvs.map (·.1)=xs.map λx=>x.1.data):(putN kvs k.data v).map (·.1)=(storedH xs k b u).map λx=>x.1.data:=by
 have ha:=vK (k:=k) e;unfold putN storedH;rw[ha];cases hk:(atKey xs k).isSome with
 |true=>
  rw[awg (by simpa using hk),avh,avh];have e1:(λp:Dat×Dat=>(if PyData.eqv p.1 k.data=true then(p.1,v) else p).1)=λp=>p.1:=by
   funext p
   split<;>rfl
  have e2:(λx:fM=>(putAt k u x).1.data)=λx=>x.1.data:=by
   funext x;unfold putAt
   split<;>rfl
  show kvs.map (λp:Dat×Dat=>(if PyData.eqv p.1 k.data=true then(p.1,v) else p).1)=xs.map λx:fM=>(putAt k u x).1.data;rw[e1,e2,e]
 |false=>
  rw[awh (by simp)];simp[e]
def aiA{xs:List fM}{k:NestedKey}{b:Addr}{u:Value}{v:V}(ru:RelV v u):∀{vs:List V},Vals vs (xs.map (·.2.2))->∃ws,Vals ws ((storedH xs k b u).map (·.2.2))/\∀{K:auT} {g:Gh} {H:Hp} {kvs:List (Dat×Dat)} {d:Dat},kvs.map (·.1)=xs.map (λx=>x.1.data)->aF K g H vs (kvs.map (·.2))->Rep K g H v d->aF K g H ws ((putN kvs k.data d).map (·.2)):=by
 intro vs hv;cases hk:(atKey xs k).isSome with
 |false=>
  refine⟨vs++[v],?_,λ{K g H kvs d} e r rv=>?_⟩
  .unfold storedH;rw[hk,awh (by simp),List.map_append];exact hv.append (.cons ru .nil)
  .unfold putN;rw[vK e,hk,List.map_append];exact r.back rv
 |true=>
  have key:∀{xs:List fM} {vs:List V},Vals vs (xs.map (·.2.2))->∃ws,Vals ws ((xs.map (putAt k u)).map (·.2.2))/\∀{K:auT} {g:Gh} {H:Hp} {kvs:List (Dat×Dat)} {d:Dat},kvs.map (·.1)=xs.map (λx=>x.1.data)->aF K g H vs (kvs.map (·.2))->Rep K g H v d->aF K g H ws ((kvs.map λp=>if PyData.eqv p.1 k.data=true then(p.1,d) else p).map (·.2)):=by
   intro xs
   induction xs with
   |nil=>
    intro vs h;refine⟨[],.nil,λ{K g H kvs d} e r rv=>?_⟩;cases kvs with
    |nil=>exact .nil
    |cons _ _=>cases e
   |cons x xs ih=>
    intro vs h;cases h with
    | @cons w _ vs _ h1 h2=>
     let⟨ws,i1,i2⟩:=ih h2
     by_cases hx:x.1=k
     .refine⟨v::ws,?_,λ{K g H kvs d} e r rv=>?_⟩
      .have:(putAt k u x).2.2=u:=by simp[putAt,hx]
       rw[List.map_cons,List.map_cons,this];exact .cons ru i1
      .cases kvs with
       |nil=>cases e
       |cons p kvs=>
        simp![List.map_cons,List.cons.injEq]at e r |-
        cases r with
        |cons r1 r2=>
         rw[e.1,Fb,decide_eq_true hx,awg rfl];exact .cons rv (i2 e.2 r2 rv)
     .refine⟨w::ws,?_,λ{K g H kvs d} e r rv=>?_⟩
      .have:(putAt k u x).2.2=x.2.2:=by simp[putAt,hx]
       rw[List.map_cons,List.map_cons,this];exact .cons h1 i1
      .cases kvs with
       |nil=>cases e
       |cons p kvs=>
        simp![List.map_cons,List.cons.injEq]at e r |-
        cases r with
        |cons r1 r2=>
         rw[e.1,Fb,decide_eq_false hx,awh (by simp)];exact .cons r1 (i2 e.2 r2 rv)
  let⟨ws,i1,i2⟩:=key hv
  refine⟨ws,?_,λ{K g H kvs d} e r rv=>?_⟩
  .unfold storedH;rw[hk,awg rfl];exact i1
  .unfold putN;rw[vK e,hk];exact i2 e r rv
def aiU{K:auT}{g:Gh}{H:Hp}{xs:List fM}{k:NestedKey}{b:Addr}{u:Value}{kvs:List (Dat×Dat)}{v:Dat}(e:kvs.map (·.1)=xs.map λx=>x.1.data)(r:aF K g H (xs.map λx=>V.ref x.2.1) (kvs.map (·.1)))(rb:Rep K g H (.ref b) k.data):aF K g H ((storedH xs k b u).map λx=>V.ref x.2.1) ((putN kvs k.data v).map (·.1)):=by
 have ha:=vK (k:=k) e;unfold putN storedH;rw[ha];cases hk:(atKey xs k).isSome with
 |true=>
  rw[awg rfl,avh,avh];have e1:(λp:Dat×Dat=>(if PyData.eqv p.1 k.data=true then(p.1,v) else p).1)=λp=>p.1:=by
   funext p
   split<;>rfl
  have e2:(λx:fM=>V.ref (putAt k u x).2.1)=λx=>V.ref x.2.1:=by
   funext x;unfold putAt
   split<;>rfl
  show aF K g H (xs.map λx:fM=>V.ref (putAt k u x).2.1) (kvs.map (λp:Dat×Dat=>(if PyData.eqv p.1 k.data=true then(p.1,v) else p).1));rw[e1,e2];exact r
 |false=>
  rw[awh (by simp),List.map_append,List.map_append];exact r.back rb
def xO.put{K:auT}{aj:aM}{j l:Nat}{σ:L2.St}{H:Hp}{g:Gh}{Z:Env}{M:Mo}{kvs:List (Dat×Dat)}(I:xO K aj j l σ H g Z M kvs){o o2:Obj}{xs:List fM}{vs:List V}(h1:H l=some (fO l o))(h3:kvs.map (·.1)=xs.map λx=>x.1.data)(h4:aF K g H (xs.map λx=>V.ref x.2.1) (kvs.map (·.1)))(h5:Vals vs (xs.map (·.2.2)))(h6:aF K g H vs (kvs.map (·.2)))
  {b:Addr} {k:NestedKey} {v:V} {d:Dat} {u:Value} (rb:Rep K g H (.ref b) k.data) (rv:Rep K g H v d) (ru:RelV v u) (nd:jR aj.w l o2 (storedH xs k b u)):xO K aj j l σ (upd H l (fO l o2)) g Z M (putN kvs k.data d):=by
 have gr:Gr true g g H (upd H l (fO l o2)):=Gr.upd I.inv.kd h1 (.inr I.lo);let⟨ws,w1,w2⟩:=aiA (b:=b) (k:=k) ru h5
 refine⟨I.inv.ao1 h1 awa I.lo (λus z=>nomatch z),I.nj,I.sj,I.lo,o2,_,ws,awi,nd,ahR h3,(aiU h3 h4 rb).gr gr I.inv.kd,w1,(w2 h3 h6 rv).gr gr I.inv.kd⟩
abbrev KV:=List (Dat×Dat)
abbrev Am:=KV->Mo->Env->Option (KV×Env)
def NK(l:Addr)(H H':Hp):Prop:=∀a o,a≠l->H a=some o->H' a=some o
def NK.of{l:Addr}{H H':Hp}(e:Ex H H'):NK l H H':=λa o _ h=>e a o h
def NK.trans{l:Addr}{H H1 H2:Hp}(e:NK l H H1)(e2:NK l H1 H2):NK l H H2:=λa o n h=>e2 a o n (e a o n h)
theorem NK.upd{l:Addr}{H:Hp}{o:HO}:NK l H (upd H l o):=λa o n h=>by rw[upd_ne n];exact h
def tD(K:auT)(aj:aM)(j:Nat)(f:Am):TS:=λD σ H=>∃g Z M l kvs r,xO K aj j l σ H g Z M kvs/\f kvs M Z=some r/\∀σ' H',NK l H H'->xO K aj j l σ' H' g r.2 M r.1->D.nx σ' H'
def Ua(fe:QF)(tf:dY):Am:=λkvs M Z=>match fe M Z with
 |.ok d=>(tf d Z).bind λZ'=>some (kvs,Z')
 |_=>none
def T5(fk fz:QF)(tf:dY):Am:=λkvs M Z=>match fk M Z,fz M Z with
 |.ok d,.ok z=>(nO d).bind λk=>match d with
  |.tuple _=>if k.depth<=8 then(tf (Ye kvs d z) Z).bind λZ'=>some (kvs,Z') else none
  |_=>none
 |_,_=>none
def Ut(fk fe:QF):Am:=λkvs M Z=>match fe M Z,fk M Z with
 |.ok v,.ok d=>(nO d).bind λk=>match d with
  |.tuple _=>if k.depth<=8/\kvs.length<100000 then some (putN kvs d v,Z) else none
  |_=>none
 |_,_=>none
def Pb(f f2:Am):Am:=λkvs M Z=>(f kvs M Z).bind λr=>f2 r.1 M r.2
def Keeps(j:Nat)(tf:dY):Prop:=∀d Z Z',tf d Z=some Z'->Z[j]?=some none->Z'[j]?=some none
section
variable{X:Cx}{aj:aM}{W:WX}{j:Nat}{x:Str}{p apos pos pos' cpos:Pos}{tg e k z:Expr}{fe fk fz:QF}{tf:dY}{js:List Nat}
def amB(he:QE aj X W e fe)(hg:QG aj X tg js tf)(nj:j∉js)(ht:Keeps j tf)(hs:swapsWithSole [tg] e pos.line X.env=pure false)(hw:swappedStores [tg] e X.env=pure none)(h1:(assignEach [tg] X.env).map (·.2)=[assign tg X.env]):PS X (.Assign [tg] e pos) (tD X.K aj j (Ua fe tf)):=by
 refine PS.weak (ps_asg he hg hs hw h1) λD σ H ⟨g,Z,M,l,kvs,r,I,e,kk⟩=>?_;unfold Ua at e;split at e
 .next d hf=>
  let⟨Z',hr,e⟩:=auW.mp e
  cases e;refine tQ.go I.inv (k:=λd'=>d'=d) (by rw[hf];exact rfl) λd' v H1 hd e1 r1=>?_;subst hd;have I1:=I.ex e1;exact⟨g,Z,M,d',Z',I1.inv,r1,hr,λvs I3=>kk _ _ (.of e1) ⟨I3,ht _ _ _ hr I.nj,by rw[FP j js vs σ nj];exact I1.sj,I1.lo,I1.dic⟩⟩
 .cases e
def aov(hu:X.A.units+64<cLine)(hcw:aj.w=X.w)(hn:X.N[j]?=some x)(hv:Vis X.env.scope x)(hd:(x==("__debug__" : Str))=false)(hcd:(x==("__classdict__" : Str))=false)(hk:QE aj X W k fk)(hz:QE aj X W z fz)(m:M2 X (.Name x p) "get" apos k z cpos)(hg:QG aj X tg js tf)(nj:j∉js)(ht:Keeps j tf)
  (hs:swapsWithSole [tg] (.Call (.Attribute (.Name x p) "get" apos) [k,z] [] cpos) pos.line X.env=pure false) (hw:swappedStores [tg] (.Call (.Attribute (.Name x p) "get" apos) [k,z] [] cpos) X.env=pure none) (h1:(assignEach [tg] X.env).map (·.2)=[assign tg X.env]) :
  PS X (.Assign [tg] (.Call (.Attribute (.Name x p) "get" apos) [k,z] [] cpos) pos) (tD X.K aj j (T5 fk fz tf)):=by
 refine PS.weak (ps_asg (aik hu (pe_var hn hv hd hcd) hk hz m) hg hs hw h1) λD σ H ⟨g,Z,M,l,kvs,r,I,e,kk⟩=>?_;unfold T5 at e;split at e
 .next d zd hf hfz=>
  let⟨nk,hnk,e⟩:=auW.mp e
  split at e
  .next ds _=>
   split at e
   .next h8=>
    let⟨Z',hr,e⟩:=auW.mp e
    cases e;let⟨o,xs,vs,q1,q2,q3,q4,q5,q6⟩:=id I.dic
    rw[hcw]at q2;refine⟨.ref l,I.sj,l,o,xs,rfl,q1,q2,?_⟩;refine tQ.go I.inv (k:=λd'=>d'=.tuple ds) (by rw[hf];exact rfl) λd' y H1 hd' e1 r1=>?_;subst hd';have I1:=I.ex e1;refine tQ.go I1.inv (k:=λd'=>d'=zd) (by rw[hfz];exact rfl) λd' zv H2 hd' e2 r2=>?_;subst hd';have I2:=I1.ex e2;have e12:=e1.trans e2;have q4':=q4.ex e12 I.inv.kd;have q6':=q6.ex e12 I.inv.kd;have q4k:=q4';rw[q3]at q4k;have ry:=r1.ex e2 I1.inv.kd;cases ry with
    | @tup b us _ hs' ht'=>
     refine⟨g,.tuple ds,b,nk,vs,e12 _ _ q1,q4k,rfl,.tup hs' ht',hnk,h8,q5,?_⟩;have rr:=aaR (k:=nk) r2 q3 q6';rw[qJ hnk]at rr;exact⟨g,Z,M,_,Z',I2.inv,rr,hr,λvs I3=>kk _ _ (.of e12) ⟨I3,ht _ _ _ hr I.nj,by rw[FP j js vs σ nj];exact I2.sj,I2.lo,I2.dic⟩⟩
   .cases e
  .cases e
 .cases e
def an3(hu:X.A.units+64<cLine)(hcw:aj.w=X.w)(hn:X.N[j]?=some x)(hv:Vis X.env.scope x)(hd:(x==("__debug__" : Str))=false)(hcd:(x==("__classdict__" : Str))=false)(hk:QE aj X W k fk)(he:QE aj X W e fe)(hs:swapsWith e (some (.Subscript (.Name x p) k pos')) pos.line X.env=pure false) :
  PS X (.Assign [.Subscript (.Name x p) k pos'] e pos) (tD X.K aj j (Ut fk fe)):=by
 refine PS.weak (abn hu (pe_var hn hv hd hcd) hk he hs) λD σ H ⟨g,Z,M,l,kvs,r,I,e,kk⟩=>?_;unfold Ut at e;split at e
 .next v d hfe hfk=>
  let⟨nk,hnk,e⟩:=auW.mp e
  split at e
  .next ds _=>
   split at e
   .next h8=>
    cases e;refine tQ.go I.inv (k:=λd'=>d'=v) (by rw[hfe];exact rfl) λd' vv H1 hd' e1 rv=>?_;subst hd';have I1:=I.ex e1;refine⟨.ref l,I.sj,?_⟩;refine tQ.go I1.inv (k:=λd'=>d'=.tuple ds) (by rw[hfk];exact rfl) λd2 y H2 hd' e2 ry=>?_;subst hd';have I2:=I1.ex e2;have e12:=e1.trans e2;let⟨o,xs,vs,q1,q2,q3,q4,q5,q6⟩:=id I2.dic
    have q4k:=q4;rw[q3]at q4k;have hlen:xs.length=kvs.length:=by have:=congrArg List.length q3;simpa using this.symm
    cases ry with
    | @tup b us _ hs' ht'=>
     refine⟨l,rfl,.inr ⟨o,xs,g,.tuple ds,b,nk,q1,by rw[<-hcw];exact q2,q4k,rfl,.tup hs' ht',hnk,h8.1,sz_lt (by rw[hlen];exact h8.2),λo2 u2 ru2 nd=>?_⟩⟩;rw[<-hcw]at nd;have I3:=I2.put q1 q3 q4 q5 q6 (k:=nk) (b:=b) (d:=d') (v:=vv) (u:=u2) (by rw[qJ hnk];exact .tup hs' ht') (rv.ex e2 I1.inv.kd) ru2 nd;rw[qJ hnk]at I3;exact kk _ _ ((NK.of e12).trans .upd) I3
   .cases e
  .cases e
 .cases e
end
def QX(tf:dY)(f:Am):List Dat->Am
 |[],kvs,_,Z=>some (kvs,Z)
 |d::ds,kvs,M,Z=>(tf d Z).bind λZ1=>(f kvs M Z1).bind λr=>QX tf f ds r.1 M r.2
def UJ(it:IF)(tf:dY)(f:Am):Am:=λkvs M Z=>match it M Z with
 |.ok ds=>QX tf f ds kvs M Z
 |_=>none
def xO.gr{K:auT}{aj:aM}{j l:Nat}{σ σ':L2.St}{H H':Hp}{g:Gh}{Z Z':Env}{M:Mo}{kvs kvs':KV}(I:xO K aj j l σ H g Z M kvs)(I':xO K aj j l σ' H' g Z' M kvs')(e:NK l H H'):Gr true g g H H' where
 keep:=λa o h _ nl=>e a o (λz=>nl (z ▸ I.lo)) h
 keepW:=λ_ a o h w=>e a o (λz=>I.inv.kd.lo _ I.lo (z ▸ w)) h
 dom:=λa h=>by
  cases ha:H a with
  |none=>rfl
  |some o=>
   exfalso;by_cases z:a=l
   .subst z;let⟨o,_,_,q,_⟩:=I'.dic
    rw[h]at q;cases q
   .rw[e a o z ha]at h;cases h
 tbl:=⟨[],by simp⟩
 W:=λ_ h=>h
 nW:=λ_ h=>.inl h
 qg:=λ_=>⟨rfl,rfl⟩
 Lc:=rfl
 Lo:=λ_ h=>h
 nLo:=λ_ h=>.inl h
section
variable{X:Cx}{aj:aM}{W:WX}{j:Nat}{x:Str}{p pos:Pos}{tg iter:Expr}{body:List Stmt}{it:IF}{tf:dY}{js:List Nat}{f f2:Am}
def ak7{s:Stmt}(h:PS X s (tD X.K aj j f)):PSs X [s] (tD X.K aj j f):=pss_one h
def ahQ{s:Stmt}{ss:List Stmt}(h:PS X s (tD X.K aj j f))(hs:PSs X ss (tD X.K aj j f2)):PSs X (s::ss) (tD X.K aj j (Pb f f2)):=
 PSs.weak (pss_cons h hs) λD σ H ⟨g,Z,M,l,kvs,r,I,e,kk⟩=>by
  let⟨r1,e1,e2⟩:=auW.mp e
  exact⟨g,Z,M,l,kvs,r1,I,e1,λσ' H' x' I'=>⟨g,r1.2,M,l,r1.1,r,I',e2,λσ2 H2 x2 I2=>kk _ _ (x'.trans x2) I2⟩⟩
def ani(hp:PassesOwn (model X.prog X.w) X.A X.env X.xe)(hc:X.calm=true)(hi:QI aj X W true tg iter it)(hg:QG aj X tg js tf)(nj:j∉js)(ht:Keeps j tf)(hb:PSs X body (tD X.K aj j f))(hs:∀x,foldedSetIterable iter X.env x=pure x) :
  PS X (.For tg iter body [] pos) (tD X.K aj j (UJ it tf f)):=by
 refine PS.weak (ps_for hp hc hi hg hb hs) λD σ H ⟨g,Z,M,l,kvs,r,I,e,kk⟩=>?_;unfold UJ at e;split at e
 .next ds hit=>
  refine⟨g,Z,M,I.inv,?_⟩;rw[hit];intro J C H1 e1 w c1 firm;have firm:=firm rfl
  let Pv:Nat->L2.St->Hp->Prop:=λi σi Hi=>i<=ds.length/\∃ρi kvi,NK l H Hi/\xO X.K aj j l σi Hi g ρi M kvi/\C g Hi/\QX tf f (ds.drop i) kvi M ρi=some r
  refine⟨λi m σi Hi=>m=ds.length-i/\Pv i σi Hi,⟨ds.length,rfl,avv _,Z,kvs,.of e1,I.ex e1,c1,by rw[avT];exact e⟩,?_⟩;rintro i m σi Hi ⟨rfl,hi,ρi,kvi,xi,Ii,Ci,zi⟩;by_cases hlt:i<ds.length
  .refine .inr ⟨w.go _ i Hi Ci hlt,Pv (i+1),λσ' H' p=>⟨ds.length-(i+1),#[],rfl,p⟩,λx H' y=>?_⟩;have hd:ds[i]?=some ds[i]:=auV hlt;let⟨e2,rx⟩:=w.yld _ i Hi x H' _ Ii.inv.kd Ci hd y
   rw[avu hlt,QX]at zi;let⟨Z1,he,zi⟩:=auW.mp zi
   let⟨r1,hf,zi⟩:=auW.mp zi
   have I2:=Ii.ex e2;refine⟨g,ρi,M,_,Z1,I2.inv,rx,he,λvs I3=>?_⟩;have I4:xO X.K aj j l (sets σi js vs) H' g Z1 M kvi:=⟨I3,ht _ _ _ he Ii.nj,by rw[FP j js vs σi nj];exact I2.sj,I2.lo,I2.dic⟩;exact⟨g,Z1,M,l,kvi,r1,I4,hf,λσ' H2 x2 I5=>⟨hlt,r1.2,r1.1,(xi.trans (.of e2)).trans x2,I5,firm true g g H' H2 I2.inv.kd (w.ex _ _ _ Ii.inv.kd Ci e2) (I4.gr I5 x2),zi⟩⟩
  .have e:i=ds.length:=#[];refine .inl ⟨w.stop _ i Hi Ci e,?_⟩;rw[e,avB]at zi;cases zi;exact kk σi Hi xi Ii
 .cases e
end
theorem aax{k:NestedKey}{v:V}:∀{xs:List fM} {vs:List V},Vals vs (xs.map (·.2.2))->Ae xs vs k=some v->∃u,valueAt (pairsH xs) k=some u/\RelV v u
 |[],_,.nil,e=>by
  unfold Ae at e;cases e
 |x::xs,_,.cons (a:=w) (l₁:=vs) r1 r2,e=>by
  by_cases h:x.1=k
  .have e1:Ae (x::xs) (w::vs) k=some w:=awg h;rw[e1]at e;cases e;exact⟨x.2.2,by simp[pairsH,valueAt,h],r1⟩
  .have e1:Ae (x::xs) (w::vs) k=Ae xs vs k:=awh h;rw[e1]at e;let⟨u,u1,u2⟩:=aax r2 e
   exact⟨u,by rw[<-u1];simp[pairsH,valueAt,h],u2⟩
def aqk(X:Cx):R2:=λx y H Q=>∃(l:Addr) (o:Obj) (xs:List fM) (g:Gh) (d:Dat) (b:Addr) (k:NestedKey) (vs:List V) (v:V),x=.ref l/\H l=some (fO l o)/\jR X.w l o xs/\aF X.K g H (xs.map λx=>V.ref x.2.1) (xs.map λx=>x.1.data)/\y=.ref b/\Rep X.K g H y d/\nO d=some k/\k.depth<=8/\Vals vs (xs.map (·.2.2))/\Ae xs vs k=some v/\Q v H
def ak4{X:Cx}(hu:X.A.units+64<cLine):IxR X (aqk X):=by
 intro value slice pins s σ H x y v u Q I rx ry h hs;let⟨l,o,xs,g,d,b,k,vs,w,rfl,h1,h2,h3,rfl,h4,h5,h6,h7,h8,q⟩:=h
 obtain rfl:v=Value.ref l:=rx
 obtain rfl:u=Value.ref b:=ry
 let⟨z,z1,z2⟩:=aax h7 h8
 exact tail_any ⟨o,pin_at I h1,h2.ex.1⟩ PySem.F.slot_dict_getitem.lookup (getItem_keyed (knd:=nestedKind X.prog X.w) (k:=k) (show _+8<cLine by show X.A.units+1+8<cLine;omega) ⟨key_is I h4 h5 rfl,h6⟩ ⟨xs,Cd I h1 h2 rfl h3,rfl⟩ z1 ⟨w,H,I.tok _,z2,q⟩) hs
def Rk(kvs:KV)(d:Dat):Option Dat:=(kvs.find? λp=>PyData.eqv p.1 d).bind λp=>some p.2
theorem Zr{K:auT}{g:Gh}{H:Hp}{k:NestedKey}{dv:Dat}:∀{xs:List fM} {vs:List V} {kvs:KV},kvs.map (·.1)=xs.map (λx=>x.1.data)->aF K g H vs (kvs.map (·.2))->Rk kvs k.data=some dv->∃v,Ae xs vs k=some v/\Rep K g H v dv
 |[],vs,[],_,_,e=>by cases e
 |[],_,_::_,e,_,_=>by cases e
 |_::_,_,[],e,_,_=>by cases e
 |x::xs,vs,p::kvs,e,r,hf=>by
  simp![List.map_cons,List.cons.injEq]at e r;cases r with
  | @cons v vs _ _ r1 r2=>
   unfold Rk at hf;rw[List.find?_cons,e.1,Fb]at hf;by_cases h:x.1=k
   .rw[decide_eq_true h]at hf;cases hf;exact⟨v,awg h,r1⟩
   .rw[decide_eq_false h]at hf;let⟨v',i1,i2⟩:=Zr (k:=k) e.2 r2 hf
    exact⟨v',by rw[<-i1];exact awh h,i2⟩
abbrev DEF:=KV->Mo->Env->Option Dat
def Ig(K:auT)(aj:aM)(j:Nat)(f:DEF):TE:=λσ H Q=>∃g Z M l kvs d,xO K aj j l σ H g Z M kvs/\f kvs M Z=some d/\∀v H',Ex H H'->Rep K g H' v d->Q v H'
def JC(f:QF):DEF:=λ_ M Z=>match f M Z with
 |.ok d=>some d
 |_=>none
def Qh(f:DEF):DEF:=λkvs M Z=>(f kvs M Z).bind λd=>(nO d).bind λk=>match d with
 |.tuple _=>if k.depth<=8 then Rk kvs d else none
 |_=>none
def IK(f f2:DEF):DEF:=λkvs M Z=>(f kvs M Z).bind λd=>(f2 kvs M Z).bind λe=>match dG d e with
 |.ok z=>some z
 |_=>none
section
variable{X:Cx}{aj:aM}{W:WX}{j:Nat}{x:Str}{p pos:Pos}{e e2:Expr}{f:QF}{fe fe2:DEF}
def amr(h:QE aj X W e f):PE X e (Ig X.K aj j (JC f)):=PE.weak h λσ H Q ⟨g,Z,M,l,kvs,d,I,hd,k⟩=>by
 unfold JC at hd;split at hd
 .next z hf=>
  cases hd;exact tQ.go I.inv (k:=λd'=>d'=d) (by rw[hf];exact rfl) λd' v H1 he e1 r1=>k v H1 e1 (he ▸ r1)
 .cases hd
def apk(hu:X.A.units+64<cLine)(hcw:aj.w=X.w)(hn:X.N[j]?=some x)(hv:Vis X.env.scope x)(hd:(x==("__debug__" : Str))=false)(hcd:(x==("__classdict__" : Str))=false)(he:PE X e (Ig X.K aj j fe))(hp:PlainIx e):PE X (.Subscript (.Name x p) e pos) (Ig X.K aj j (Qh fe)):=by
 refine PE.weak (pe_ix (ak4 hu) (pe_var hn hv hd hcd) he hp) λσ H Q ⟨g,Z,M,l,kvs,d,I,hf,k⟩=>?_;unfold Qh at hf;let⟨dk,f1,hf⟩:=auW.mp hf
 let⟨nk,f2,hf⟩:=auW.mp hf
 split at hf
 .next ds _=>
  split at hf
  .next h8=>
   refine⟨.ref l,I.sj,g,Z,M,l,kvs,_,I,f1,λy H1 e1 ry=>?_⟩;have I1:=I.ex e1;let⟨o,xs,vs,q1,q2,q3,q4,q5,q6⟩:=id I1.dic
   have q4k:=q4;rw[q3]at q4k;rw[<-qJ f2]at hf;let⟨v,v1,v2⟩:=Zr q3 q6 hf
   cases ry with
   | @tup b us _ hs' ht'=>exact⟨l,o,xs,g,.tuple ds,b,nk,vs,v,rfl,q1,by rw[<-hcw];exact q2,q4k,rfl,.tup hs' ht',f2,h8,q5,v1,k v H1 e1 v2⟩
  .cases hf
 .cases hf
def amo(ha:PE X e (Ig X.K aj j fe))(hb:PE X e2 (Ig X.K aj j fe2)):PE X (.BinOp e .Add e2 pos) (Ig X.K aj j (IK fe fe2)):=by
 refine PE.weak (pe_op ac6 ha hb) λσ H Q ⟨g,Z,M,l,kvs,d,I,hf,k⟩=>?_;unfold IK at hf;let⟨d1,f1,hf⟩:=auW.mp hf
 let⟨d2,f2,hf⟩:=auW.mp hf
 split at hf
 .next z hz=>
  cases hf;refine⟨g,Z,M,l,kvs,d1,I,f1,λv H1 e1 r1=>⟨g,Z,M,l,kvs,d2,I.ex e1,f2,λv2 H2 e2 r2=>?_⟩⟩;refine agP (aj:=aj) (W:=WF) σ g H2 v v2 d1 d2 Q (I.inv.kd.ex (e1.trans e2)) (r1.ex e2 (I.inv.kd.ex e1)).weak r2.weak ?_;rw[hz];exact λu H3 e3 r3=>k u H3 ((e1.trans e2).trans e3) r3
 .cases hf
end
def Gu:DEF:=λkvs _ _=>(prs (kvs.map (·.1))).bind λl=>some (.list ((Q6 l).map pD))
section
variable{X:Cx}{aj:aM}{W:WX}{j:Nat}{x y:Str}{p p1 pos:Pos}
def akk(hu:X.A.units+65<cLine)(hc:X.calm=true)(hg:Gl X "sorted")(hm:X.mg "sorted"=none)(hcw:aj.w=X.w)(hn:X.N[j]?=some x)(hv:Vis X.env.scope x)(hd:(x==("__debug__" : Str))=false)(hcd:(x==("__classdict__" : Str))=false) :
  PE X (.Call (.Name "sorted" p) [.Name x p1] [] pos) (Ig X.K aj j Gu):=by
 have h1:=pa_cons (pe_var (pos:=p1) hn hv hd hcd) pa_nil (bZ (env:=X.env) (a:=.Name x p1) rfl []);have hv2:BV (.builtin "sorted") "sorted":=⟨#[[]],#[()],#[()]⟩
 refine PE.weak (pe_callB (afc hu hc) hg hm hv2.1 h1 hv2.2.1 hv2.2.2 (bZ rfl []) #[rfl]) λσ H Q ⟨g,Z,M,l,kvs,d,I,hf,k⟩=>?_;unfold Gu at hf;let⟨ps,f1,hf⟩:=auW.mp hf
 cases hf;have e:=aho f1;let⟨o,xs,vs,q1,q2,q3,q4,q5,q6⟩:=id I.dic
 rw[hcw]at q2;rw[e]at q4;refine⟨.ref l,I.sj,l,o,xs,ps.map pD,rfl,q1,q2,q4.dp (n:=12) (ah2 11 ps),avZ (λa b=>by simp[pD,PySem.W.alike,PySem.W.alikeAll]),PySem.W.Sortable.tuples (λb=>⟨_,_,rfl⟩),λd hd=>?_,λys q hy nq=>?_⟩
 .let⟨i,_,rfl⟩:=au2.mp hd
  simp[pD,PyData.depth,PyData.depthAll]
 .have hs:=Oa (enc:=pD) (le:=leP) (λa b=>congrFun (congrFun (PySem.W.dataLe_ii (λp:Int×Int=>p.1) (λp:Int×Int=>p.2)) a) b) ps;rw[hs]at hy;exact k (.ref q) _ (Ex.new nq) (.lst (.inl ⟨.inl awi,I.inv.kd.fresh nq⟩) ((Lr q4 hy).ex (Ex.new nq) I.inv.kd))
end
def tID(K:auT)(aj:aM)(j:Nat)(f:DEF):TI:=λσ H R=>∃g Z M l kvs ds,xO K aj j l σ H g Z M kvs/\f kvs M Z=some (.list ds)/\∀J C H',Ex H H'->Jw K J C ds->C g H'->R J H'
def Rg(tf:dY)(fe:DEF)(kvs:KV)(M:Mo)(Z:Env):List Dat->Option (List Dat)
 |[]=>some []
 |d::ds=>(tf d Z).bind λZ1=>(fe kvs M Z1).bind λy=>(Rg tf fe kvs M Z ds).bind λr=>some (y::r)
def Qy(fi:DEF)(tf:dY)(vs:List Nat)(fe:DEF):DEF:=λkvs M Z=>(fi kvs M Z).bind λd=>match d with
 |.list ds=>if ds.length<=50000 then(Rg tf fe kvs M (bM Z vs) ds).bind λys=>some (.list ys) else none
 |_=>none
theorem Y6{j:Nat}:∀(vs:List Nat) (Z:Env),j∉vs->(bM Z vs)[j]?=Z[j]?
 |[],_,_=>rfl
 |v::vs,Z,h=>by
  show((bM Z vs).set v none)[j]?=_
  rw[au1 λz=>h (by rw[z];exact auX),Y6 vs Z λz=>h (auY _ z)]
theorem Y4{j:Nat}:∀(vs:List Nat) (σ:L2.St),j∉vs->(L2.wipe σ vs)[j]?=σ[j]?
 |[],_,_=>rfl
 |v::vs,σ,h=>by
  show((L2.wipe σ vs).set v none)[j]?=_
  rw[au1 λz=>h (by rw[z];exact auX),Y4 vs σ λz=>h (auY _ z)]
def iQ.apl{K:auT}{aj:aM}{g g':Gh}{H H':Hp}{l:Addr}{kvs:KV}(k:Kd g H)(e:Ex H H')(r:Gr true g g' H H')(h:iQ K aj g H l true kvs):iQ K aj g' H' l true kvs:=by
 let⟨o,xs,vs,h3,h4,h5,h6,h7,h8⟩:=h
 exact⟨o,xs,vs,e _ _ h3,h4,h5,h6.gr r k,h7,h8.gr r k⟩
section
variable{X:Cx}{aj:aM}{W:WX}{j:Nat}{tg iter elt:Expr}{pos:Pos}{fi fe:DEF}{tf:dY}
def ali(he:PE X iter (Ig X.K aj j fi)):PI X tg iter (tID X.K aj j fi):=⟨λpins s σ H R I h=>by
 let⟨g,Z,M,l,kvs,ds,J,hf,k⟩:=h
 refine(pi_list he).run pins s σ H R I ⟨g,Z,M,l,kvs,.list ds,J,hf,λv H1 e1 r1=>?_⟩;cases r1 with
 | @lst a us _ h t=>exact⟨a,rfl,⟨us,Ln.sq h⟩,k _ _ H1 e1 (XM (S:=.lst a)) ⟨us,Ln.sq h,t⟩⟩⟩
def amQ{js vs:List Nat}(hj:∀i∈js,i∈vs)(nj:j∉vs)(ht:Keeps j tf){K:auT}(σ:L2.St)(H:Hp)(Q:VK)(h:Ig K aj j (Qy fi tf vs fe) σ H Q) :
  tLc (tID K aj j fi) (xJ K aj js tf) (jx K aj WF fJ) (Ig K aj j fe) vs σ H Q:=by
 let⟨g,Z,M,l,kvs,d,I,hf,hQ⟩:=h
 unfold Qy at hf;let⟨di,f1,hf⟩:=auW.mp hf
 cases di with
 |list ds=>
  dsimp only at hf
  split at hf
  .next hlen=>
   let⟨total,htot,hf⟩:=auW.mp hf
   cases hf;refine⟨g,Z,M,l,kvs,ds,I,f1,λJ C H1 e1 w c D nD=>?_⟩;have I0:=I.ex e1;have njs:j∉js:=λz=>nj (hj j z);have kD:∀{Ha:Hp} {us:List V},Ex H1 Ha->Ha D=some (.lst us)->xO K aj j l (L2.wipe σ vs) Ha (g.add D) (bM Z vs) M kvs:=λea hu=>⟨(I0.inv.wipe vs).add nD ea hu awa,by rw[Y6 vs Z nj];exact I0.nj,by rw[Y4 vs σ nj];exact I0.sj,.inl I0.lo,I0.dic.apl I0.inv.kd ea (Gh.zN nD ea)⟩
   let Pv:Nat->Hp->Prop:=λi Ha=>Ex H1 Ha/\i<=ds.length/\∃us ys r,Ha D=some (.lst us)/\aF K (g.add D) Ha us ys/\ys.length<=i/\Rg tf fe kvs M (bM Z vs) (ds.drop i)=some r/\total=ys++r
   refine⟨λi m Ha=>m=ds.length-i/\Pv i Ha,⟨ds.length,rfl,Ex.new nD,avv _,[],[],total,awi,.nil,avd _,by rw[avT];exact htot,rfl⟩,?_⟩;rintro i m Ha ⟨rfl,ea,hi,us,ys,r,hu,hU,hy,hs,hr⟩;have Ia:=kD ea hu;have Ca:=w.add g (g.add D) H1 Ha I0.inv.kd c (Gh.zN nD ea) ea;by_cases hlt:i<ds.length
   .refine .inr ⟨w.go _ i Ha Ca hlt,Pv (i+1),λH' p=>⟨ds.length-(i+1),#[],rfl,p⟩,λx H' y=>?_⟩;have hd:ds[i]?=some ds[i]:=auV hlt;let⟨e2,rx⟩:=w.yld _ i Ha x H' _ Ia.inv.kd Ca hd y
    rw[avu hlt,Rg]at hs;let⟨Z1,he,hs⟩:=auW.mp hs
    let⟨z,hz,hs⟩:=auW.mp hs
    let⟨r',hs3,hs2⟩:=auW.mp hs
    cases hs2;have I2:=Ia.ex e2;refine⟨g.add D,_,M,_,Z1,I2.inv,rx,he,λws I3=>⟨vC js ws _ vs hj |>.trans (yN σ vs),?_⟩⟩;have I4:xO K aj j l (sets (L2.wipe σ vs) js ws) H' (g.add D) Z1 M kvs:=⟨I3,ht _ _ _ he Ia.nj,by rw[FP j js ws _ njs];exact I2.sj,I2.lo,I2.dic⟩;refine jx.go I3 (k:=λb=>b=true) rfl λb H3 hb e3=>?_;subst hb;rw[awg rfl];refine⟨g.add D,Z1,M,l,kvs,z,I4.ex e3,hz,λv H4 e4 ry=>?_⟩;have e234:=(e2.trans e3).trans e4;have hu4:=e234 _ _ hu;have hU4:=hU.ex e234 Ia.inv.kd;have I5:=(I4.ex e3).ex e4;exact⟨us,hu4,sz_lt (by rw[hU.length];omega),Ex.mut ((((ea.trans e2).trans e3).trans e4)) nD,hlt,us++[v],ys++[z],r',awi,UW I5.inv.kd hu4 (.inr rfl) (hU4.append (.cons ry .nil)),by simp;omega,hs3,by rw[hr];simp⟩
   .have e:i=ds.length:=#[];refine .inl ⟨w.stop _ i Ha Ca e,?_⟩;rw[e,avB]at hs;cases hs;rw[avy]at hr;subst hr;exact hQ (.ref D) Ha (e1.trans ea) (.lst (.inl ⟨.inl hu,I0.inv.kd.fresh nD⟩) (aF.less (g:=g.add D) (g':=g) rfl (λa z=>z.elim .inl λz=>.inr (z.elim .inl λz=>.inr (.inl z))) hU))
  .cases hf
 |_=>cases hf
end
def M4(j:Nat)(f:Am)(fr:DEF):SF:=λM Z=>match decide (j<Z.length) with
 |true=>match (f [] M (Z.set j none)).bind λr=>fr r.1 M r.2 with
  |some d=>.ret d M
  |none=>.bad
 |false=>.bad
section
variable{X:Cx}{aj:aM}{W:WX}{q:Bool}{j:Nat}{x:Str}{p1 p2 p3 p4:Pos}{s:Stmt}{e:Expr}{f:Am}{fr:DEF}
def aiq(hcw:aj.w=X.w)(hN:X.N.Nodup)(hn:X.N[j]?=some x)(hx:Loc X.env.scope x)(hfn:X.fn x=true\/X.env.scope.names.lookup x=some .local)(hs:PS X s (tD X.K aj j f))(hr:PE X e (Ig X.K aj j fr)) :
  Hh aj X W q [.Assign [.Name x p1] (.Dict [] [] p2) p3,s,.Return (some e) p4] (M4 j f fr):=by
 refine PSs.weak (pss_cons (ps_asg (ac7 (b:=true)) (pg_name hN hn hx hfn) #[rfl] #[rfl] #[rfl]) (pss_cons hs (pss_one (ps_ret hr)))) λD σ H ⟨g,Z,M,I,z⟩=>?_;unfold M4 at z;split at z
 .next hj=>
  have hj:=awd hj;split at z
  .next d hd=>
   let⟨r,h1,h2⟩:=auW.mp hd
   intro l nl o nd;have e0:Ex H (upd H l (fO l o)):=Ex.new nl;have I0:xO X.K aj j l (σ.set j (some (.ref l))) (upd H l (fO l o)) (g.add l) (Z.set j none) M []:=by
    refine⟨((I.add nl e0 awi awa).off j _),?_,?_,.inr rfl,o,[],[],awi,by rw[hcw];exact nd,rfl,.nil,.nil,.nil⟩
    .rw[avc hj]
    .rw[avc (by rw[I.len];exact hj)]
   refine⟨g.add l,_,M,l,[],r,I0,h1,λσ2 H2 x2 I2=>⟨g.add l,r.2,M,l,r.1,d,I2,h2,λv H3 e3 rv=>?_⟩⟩;have ex:Ex H H3:=λa ob ha=>by
    have na:a≠l:=λz=>by
     subst z;rw[nl]at ha;cases ha
    exact e3 _ _ (x2 a ob na (e0 _ _ ha))
   have If:=I.ex ex;exact z v H3 g (Gr.ex ex) If.kd.fr If.wok.fr (Rep.less (g:=g.add l) (g':=g.fr) rfl (λa z=>z.elim .inl λz=>.inr (z.elim .inl λz=>awb z)) rv)
  .exact awb z
 .exact awb z
end
structure Hs where
 Ms:List (Str×List (Str×MV))
 ft:Ft
 xm:List (Str×List (Str×Bool))
 df:List (Str×Bool)
 xf:List (Str×List Str)
structure W8(P:Program)(w:World)(K:auT)(mg:Str->Option Value)(base:Heap)(aj:aM)(k:Nat)(h:Hs):Prop where
 ms:∀m tb,h.Ms.lookup m=some tb->∀c v,tb.lookup c=some v->Gq P w K mg base aj k c m v
 fk:Oj h.ft aj
 co:j5 K aj
 hw:aj.w=w
 xm:∀y tab,h.xm.lookup y=some tab->(∃D,aj y=some D)/\aeH K aj y λx=>tab.lookup x
 xf:∀y fs,h.xf.lookup y=some fs->∃C,aj y=some C/\XfC K C/\∀f∈fs,PySem.W.findIn K (.ref C) f=some none
structure Tc where
 N:List Str
 sc:Scope
 G:List (Str×GV)
 B:List Str
 hs:Hs
 ml:List Str
 top:Bool
structure Amb(aj:aM)(c:Tc)(X:Cx)(W:WX)(k:Nat):Prop where
 hN:X.N=c.N
 hs:X.env.scope=c.sc
 calm:X.calm=true
 nd:X.N.Nodup
 tk:Takes X W
 rm:Room k X.A
 gl:∀x v,c.G.lookup x=some v->pH X.prog X.w X.K X.mg X.base aj k x v
 bl:∀x,x∈c.B->X.mg x=none
 fn:c.top=true->∀x,X.fn x=true
 hk:W8 X.prog X.w X.K X.mg X.base aj k c.hs
def Amb.tw{aj:aM}{c:Tc}{X:Cx}{W:WX}{k:Nat}(a:Amb aj c X W k){x:Str}{v:GV}(h:c.G.lookup x=some v)(hv:v.soft=true):Takes X W:=
 a.tk
def Amb.tm{aj:aM}{c:Tc}{X:Cx}{W:WX}{k:Nat}(a:Amb aj c X W k){m:Str}{tb:List (Str×MV)}(h:c.hs.Ms.lookup m=some tb):Takes X W:=
 a.tk
def gd{α:Type}(b:Bool)(o:Option α):Option α:=match b with
 |true=>o
 |false=>none
def aU{α:Type}{b:Bool}{o:Option α}{x:α}:gd b o=some x↔b=true/\o=some x:=by
 cases b
 .exact⟨λh=>(nomatch h),λh=>(nomatch h.1)⟩
 .exact⟨λh=>⟨rfl,h⟩,λh=>h.2⟩
def idx:List Str->Str->Option Nat
 |[],_=>none
 |y::ys,x=>match y==x with
  |true=>some 0
  |false=>(idx ys x).map (· + 1)
theorem JN:∀{N:List Str} {x:Str} {i:Nat},idx N x=some i->N[i]?=some x
 |[],_,_,h=>nomatch h
 |y::ys,x,i,h=>by
  rw[idx]at h;left
  .next e=>
   cases h;rw[List.getElem?_cons_zero,awj e]
  .rw[avL]at h;let⟨j,h1,rfl⟩:=h
   rw[List.getElem?_cons_succ];exact JN h1
def ai6(sc:Scope)(x:Str):Bool:=match sc.names.lookup x with
 |some .local=>true
 |some .cell=>true
 |some .free=>true
 |_=>false
def akV{sc:Scope}{x:Str}(h:ai6 sc x=true):Vis sc x:=by
 unfold ai6 at h;unfold Vis;left
 .next e=>exact .inl e
 .next e=>exact .inr (.inl e)
 .next e=>exact .inr (.inr e)
 .cases h
def JG(x:Str):Bool:=(x==("__debug__" : Str)) || (x==("__classdict__" : Str))
def wg{x:Str}(h:JG x=false):(x==("__debug__" : Str))=false/\(x==("__classdict__" : Str))=false:=by unfold JG at h;rw[Bool.or_eq_false_iff]at h;exact h
def KH(sc:Scope)(x:Str):Bool:=match sc.names.lookup x with
 |some .globalImplicit=>true
 |_=>false
def uI(c:Tc)(x:Str):Option Nat:=gd (ai6 c.sc x&&!JG x) (idx c.N x)
def aok(c:Tc)(x:Str):Bool:=match c.sc.names.lookup x with
 |some .local=>true
 |some .cell=>c.top
 |_=>false
def vh(c:Tc)(x:Str):Option Nat:=gd (aok c x) (idx c.N x)
section
variable{aj:aM}{c:Tc}{X:Cx}{W:WX}{k:Nat}{x:Str}{i:Nat}
def wj(a:Amb aj c X W k)(h:KH c.sc x=true):Gl X x:=by
 unfold KH at h;unfold Gl PySem.Env.kindOf;rw[a.hs];left
 .assumption
 .cases h
def qG(a:Amb aj c X W k)(h:uI c x=some i):X.N[i]?=some x/\Vis X.env.scope x/\(x==("__debug__" : Str))=false/\(x==("__classdict__" : Str))=false:=by
 let⟨h1,h2⟩:=aU.mp h
 rw[auU]at h1;let⟨d1,d2⟩:=wg (by simpa using h1.2)
 exact⟨by rw[a.hN];exact JN h2,by rw[a.hs];exact akV h1.1,d1,d2⟩
def lM(a:Amb aj c X W k)(h:vh c x=some i):X.N[i]?=some x/\L2.Loc X.env.scope x/\(X.fn x=true\/X.env.scope.names.lookup x=some .local):=by
 let⟨h1,h2⟩:=aU.mp h
 unfold aok at h1;refine⟨by rw[a.hN];exact JN h2,?_⟩;rw[a.hs];unfold L2.Loc;split at h1
 .next e=>exact⟨.inl e,.inr e⟩
 .next e=>exact⟨.inr e,.inl (a.fn h1 x)⟩
 .cases h1
def vA(c:Tc)(x y:Str):Bool:=(x==y)&&(KH c.sc x&&c.B.contains x)
def oN{y:Str}(a:Amb aj c X W k)(h:vA c x y=true):x=y/\Gl X x/\X.mg x=none:=by unfold vA at h;rw[auU,auU]at h;exact⟨awj h.1,wj a h.2.1,a.bl x (by simpa using h.2.2)⟩
end
def yG:Expr->Bool
 |.Set _ _ _=>true
 |_=>false
def Gi{b:Expr}{op:CmpOp}(h:yG b=false):behindInMarks op b=false:=by cases b<;>first | rfl | cases h
def YQ{b c:Expr}{op op':CmpOp}(h:yG c=false):lastMarks [op,op'] [b,c]=false:=Gi h
def oM{e:Expr}{env:PySem.Env}(h:yG e=false):∀x,foldedSetIterable e env x=pure x:=λx=>by
 cases e<;>first | rfl | cases h
def Ou:Expr->Bool
 |.Slice _ _ _ _=>true
 |_=>false
def an2:Operator->Option (Dat->Dat->Out Dat)
 |.Add=>some dG
 |.Sub=>some oZ
 |.Mult=>some yF
 |.FloorDiv=>some DN
 |.Mod=>some lH
 |.Pow=>some Ug
 |_=>none
def Tp:CmpOp->Option (Dat->Dat->Out Dat)
 |.Eq=>some Eh
 |.NotEq=>some yP
 |.Lt=>some RX
 |.LtE=>some sJ
 |.Gt=>some gtD
 |.GtE=>some geD
 |.In=>some (inD false)
 |.NotIn=>some (inD true)
 |_=>none
def ajI{op:Operator}{o:Dat->Dat->Out Dat}(h:an2 op=some o)(X:Cx)(aj:aM)(W:WX):∃r,OpR X (binaryOp op) r/\sH aj X.K W o r:=by
 cases op<;>cases h
 .exact⟨_,ac6,agP⟩
 .exact⟨_,op_sub,alX⟩
 .exact⟨_,op_mul,anu⟩
 .exact⟨_,op_mod,aox⟩
 .exact⟨_,op_pow,alO⟩
 .exact⟨_,op_fdiv,ana⟩
def Fg{op:CmpOp}{o:Dat->Dat->Out Dat}(h:Tp op=some o){X:Cx}{k:Nat}(hr:Room k X.A)(aj:aM)(W:WX):∃r,OpR X (compareOp op) r/\sH aj X.K W o r:=by
 have h65:X.A.units+65<cLine:=by have:=hr.un;omega
 cases op<;>cases h
 .exact⟨_,amU hr.units,aoF⟩
 .exact⟨_,anl hr.units,ao4⟩
 .exact⟨_,anR h65,aoL⟩
 .exact⟨_,op_le,apA⟩
 .exact⟨_,op_gt,apc⟩
 .exact⟨_,op_ge,aoX⟩
 .exact⟨_,an7 h65,aju⟩
 .exact⟨_,agG h65,aju⟩
def Yg:Expr->Option Dat
 |.Constant .none _ _=>some .none
 |.Constant (.bool b) _ _=>some (.bool b)
 |_=>none
def adh{e:Expr}{d:Dat}{X:Cx}(h:Yg e=some d):∃v,scD d=some v/\(v=.non\/∃b,v=.bl b)/\PE X e (tC v):=by
 unfold Yg at h;left
 .cases h;exact⟨_,rfl,.inl rfl,pe_non⟩
 .cases h;exact⟨_,rfl,.inr ⟨_,rfl⟩,pe_bl⟩
 .cases h
def isN:CmpOp->Option Bool
 |.Is=>some false
 |.IsNot=>some true
 |_=>none
def af8{op:CmpOp}{neg:Bool}{v:V}{X:Cx}(h:isN op=some neg)(hv:v=.non\/∃b,v=.bl b):OpR X (compareOp op) (aaK neg v):=by
 cases op<;>cases h
 .exact am2 hv
 .exact afZ hv
def b1D(x:Str):Option (Dat->Out Dat):=
 if x=="len" then some pA else if x=="abs" then some X8 else if x=="sum" then some acn else if x=="max" then some maxD else if x=="all" then some FW else if x=="any" then some Uh
 else if x=="tuple" then some m9 else if x=="list" then some zL else if x=="int" then some intD else
 none
def b2D(x:Str):Option (Dat->Dat->Out Dat):=if x=="max" then some yq else if x=="min" then some Es else none
def amD{x:Str}{o:Dat->Out Dat}{X:Cx}(hc:X.calm=true)(h:b1D x=some o)(aj:aM)(W:WX):∃(f:Value) (id:String) (r:List V->Hp->VK->Prop),(f=.builtin id\/f=.type id)/\CallR X f r/\Nz aj X.K W o r/\BV f x:=by
 unfold b1D at h;left
 .next e=>cases h;cases awj e;exact⟨_,_,_,.inl rfl,anQ,an5,#[[]],#[()],#[()]⟩
 left
 .next e=>cases h;cases awj e;exact⟨_,_,_,.inl rfl,call_abs,alM,#[[]],#[()],#[()]⟩
 left
 .next e=>cases h;cases awj e;exact⟨_,_,_,.inl rfl,cr_sum hc,alD,#[[]],#[()],#[()]⟩
 left
 .next e=>cases h;cases awj e;exact⟨_,_,_,.inl rfl,cr_max hc,ank,#[[]],#[()],#[()]⟩
 left
 .next e=>cases h;cases awj e;exact⟨_,_,_,.inl rfl,cr_all hc,alU,#[[]],#[()],#[()]⟩
 left
 .next e=>cases h;cases awj e;exact⟨_,_,_,.inl rfl,cr_any hc,aor,#[[]],#[()],#[()]⟩
 left
 .next e=>cases h;cases awj e;exact⟨_,_,_,.inr rfl,call_tuple_of,aib,#[[]],#[()],#[()]⟩
 left
 .next e=>cases h;cases awj e;exact⟨_,_,_,.inr rfl,call_list_of,akt,#[[]],#[()],#[()]⟩
 left
 .next e=>cases h;cases awj e;exact⟨_,_,_,.inr rfl,anj,anK,#[[]],#[()],#[()]⟩
 .cases h
def anx{x:Str}{o:Dat->Dat->Out Dat}{X:Cx}(hc:X.calm=true)(h:b2D x=some o)(aj:aM)(W:WX):∃(f:Value) (id:String) (r:List V->Hp->VK->Prop),(f=.builtin id\/f=.type id)/\CallR X f r/\Fn2 aj X.K W o r/\BV f x:=by
 unfold b2D at h;left
 .next e=>cases h;cases awj e;exact⟨_,_,_,.inl rfl,call_max2 hc,ak1,#[[]],#[()],#[()]⟩
 left
 .next e=>cases h;cases awj e;exact⟨_,_,_,.inl rfl,call_min2 hc,ajR,#[[]],#[()],#[()]⟩
 .cases h
def tyN(x:Str):Option Od:=if x=="int" then some .int else if x=="bool" then some .bool else if x=="str" then some .str else if x=="tuple" then some .tuple else if x=="list" then some .list else none
def amE{x:Str}{t:Od}(h:tyN x=some t):BV (.type t.name) x:=by
 unfold tyN at h;left
 .next e=>cases h;cases awj e;exact⟨#[[]],#[()],#[()]⟩
 left
 .next e=>cases h;cases awj e;exact⟨#[[]],#[()],#[()]⟩
 left
 .next e=>cases h;cases awj e;exact⟨#[[]],#[()],#[()]⟩
 left
 .next e=>cases h;cases awj e;exact⟨#[[]],#[()],#[()]⟩
 left
 .next e=>cases h;cases awj e;exact⟨#[[]],#[()],#[()]⟩
 .cases h
structure Tr where
 E:Tc->Expr->Option QF
 W:Tc->Expr->Option QF
 T:Tc->Expr->Option QT
 I:Tc->Bool->Expr->Expr->Option IF
structure Tr.Ok(t:Tr):Prop where
 oe:∀{aj:aM} {c:Tc} {X:Cx} {W:WX} {k:Nat},Amb aj c X W k->∀{e:Expr} {f:QF},t.E c e=some f->QE aj X W e f
 ow:∀{aj:aM} {c:Tc} {X:Cx} {W:WX} {k:Nat},Amb aj c X W k->∀{e:Expr} {f:QF},t.W c e=some f->QW aj X W e f
 ot:∀{aj:aM} {c:Tc} {X:Cx} {W:WX} {k:Nat},Amb aj c X W k->∀{e:Expr} {f:QT},t.T c e=some f->vm aj X W e f
 oi:∀{aj:aM} {c:Tc} {X:Cx} {W:WX} {k:Nat},Amb aj c X W k->∀{firm:Bool} {tg e:Expr} {f:IF},t.I c firm tg e=some f->QI aj X W firm tg e f
def Kc(t:Tr)(c:Tc):List Expr->Option QA
 |[]=>some dD
 |a::es=>gd (nst a) ((t.E c a).bind λfa=>(Kc t c es).bind λfr=>some (Vp fa fr))
section
variable{aj:aM}{c:Tc}{X:Cx}{W:WX}{k:Nat}{t:Tr}
theorem vH(o:t.Ok)(a:Amb aj c X W k):∀{es:List Expr} {f:QA},Kc t c es=some f->Ja aj X W es f/\es.all nst=true/\∀M Z ds,f M Z=.ok ds->ds.length=es.length
 |[],f,h=>by
  cases h;exact⟨an9,rfl,λM Z ds e=>by cases e;rfl⟩
 |e::es,f,h=>by
  rw[Kc,aU]at h;let⟨hs,h⟩:=h
  obtain⟨fa,h1,h⟩;obtain⟨fr,h2,h⟩;cases h;let⟨i1,i2,i3⟩:=vH o a h2
  refine⟨akh (o.oe a h1) i1 (bZ hs es),by simp[hs,i2],λM Z ds e=>?_⟩;unfold Vp at e;cases hf:fa M Z with
  |ok d=>
   rw[hf]at e;cases hr:fr M Z with
   |ok dr=>
    rw[hr]at e;cases e;simp[i3 M Z dr hr]
   |exc y=>rw[hr]at e;cases e
   |bad=>rw[hr]at e;cases e
  |exc y=>rw[hf]at e;cases e
  |bad=>rw[hf]at e;cases e
end
def trO(t:Tr)(c:Tc):Option Expr->Option QO
 |none=>some zP
 |some a=>(t.W c a).bind λfa=>some (o9 fa)
def agD{aj:aM}{c:Tc}{X:Cx}{W:WX}{k:Nat}{t:Tr}(o:t.Ok)(a:Amb aj c X W k){e:Option Expr}{f:QO}(h:trO t c e=some f):QOe aj X W e f:=by
 cases e with
 |none=>cases h;exact ajZ
 |some e=>
  obtain⟨fa,h1,h⟩;cases h;exact akI (o.ow a h1)
def abJ(c:Tc):List Expr->Option (List Nat)
 |[]=>some []
 |.Name x _::es=>(vh c x).bind λi=>(abJ c es).bind λjs=>some (i::js)
 |_::_=>none
def G4(c:Tc):Expr->Option (List Nat×dY)
 |.Name x _=>(vh c x).bind λi=>some ([i],aq i)
 |.Tuple es _ _=>(abJ c es).bind λjs=>some (js,aX js)
 |_=>none
theorem WW{aj:aM}{c:Tc}{X:Cx}{W:WX}{k:Nat}(a:Amb aj c X W k):∀{es:List Expr} {js:List Nat},abJ c es=some js->V5 X es js
 |[],js,h=>by cases h;trivial
 |.Name x p::es,js,h=>by
  rw[abJ]at h;obtain⟨i,h1,h⟩;obtain⟨r,h2,h⟩;cases h;let⟨s1,s2,s3⟩:=lM a h1
  exact⟨s1,s2,s3,WW a h2⟩
def qL{aj:aM}{c:Tc}{X:Cx}{W:WX}{k:Nat}(a:Amb aj c X W k){e:Expr}{js:List Nat}{f:dY}(h:G4 c e=some (js,f)):QG aj X e js f:=by
 unfold G4 at h;left
 .obtain⟨i,h1,h⟩;cases h;let⟨s1,s2,s3⟩:=lM a h1
  exact Ru a.nd s1 s2 s3
 .obtain⟨js',h1,h⟩;cases h;exact ahs a.calm a.nd (WW a h1)
 .cases h
def Tc.inn(c:Tc)(scope:Scope):Tc:={ c with sc:=relS scope c.sc,top:=false }
theorem Amb.inn{aj:aM}{c:Tc}{X:Cx}{W:WX}{k:Nat}(a:Amb aj c X W k)(scope:Scope)(s:Shared)(H:Hp)(C:Addr)(cl:LsS Addr)(fp:List Addr):Amb aj (c.inn scope) #[[[]]] WF k where
 hN:=a.hN
 hs:=by show relS scope X.env.scope=relS scope c.sc;rw[a.hs]
 calm:=a.calm
 nd:=a.nd
 tk:=ang
 rm:=a.rm
 gl:=a.gl
 bl:=a.bl
 fn:=λz=>nomatch z
 hk:=a.hk
def Uj:List Expr->List Nat->LsS Nat
 |.Name x _::es,j::js=>(x,j)::Uj es js
 |_,_=>[]
def lg:Expr->List Nat->LsS Nat
 |.Name x _,[j]=>[(x,j)]
 |.Tuple es _ _,js=>Uj es js
 |_,_=>[]
def K9(js vs:List Nat):Bool:=js.all λj=>vs.contains j
def oK{js vs:List Nat}(h:K9 js vs=true):∀j∈js,j∈vs:=λj hj=>by
 have:=avl.mp h j hj;simpa using this
def S8(t:Tr)(c:Tc):List Expr->Option QT
 |[]=>some fJ
 |[a]=>t.T c a
 |_=>none
def PTs.weak{X:Cx}{e:List Expr}{t t':TT}(h:PTs X e t)(k:∀σ H Q,t' σ H Q->t σ H Q):PTs X e t':=⟨λpins s σ H Q I q=>h.run pins s σ H Q I (k σ H Q q)⟩
def uM{aj:aM}{c:Tc}{X:Cx}{W:WX}{k:Nat}{t:Tr}(o:t.Ok)(a:Amb aj c X W k){ifs:List Expr}{f:QT}(h:S8 t c ifs=some f):PTs X ifs (jx X.K aj W f):=by
 unfold S8 at h;left
 .cases h;exact PTs.weak pts_nil λσ H Q ⟨g,Z,M,I,z⟩=>z H (Ex.refl H)
 .exact pts_one (o.ot a h)
 .cases h
def aay(t:Tr)(c:Tc)(elt tg iter:Expr)(ifs:List Expr)(scope:Scope):Option QF:=
 (t.I c false tg iter).bind λit=>(G4 (c.inn scope) tg).bind λjt=>(S8 t (c.inn scope) ifs).bind λtt=>(t.E (c.inn scope) elt).bind λte=>
  gd (blkC c.N c.sc scope (lg tg jt.1)&&(K9 jt.1 ((lg tg jt.1).map (·.2))&&!yG iter)) (some (dR it jt.2 ((lg tg jt.1).map (·.2)) tt te))
def adZ{aj:aM}{c:Tc}{X:Cx}{W:WX}{k:Nat}{t:Tr}(o:t.Ok)(a:Amb aj c X W k){elt tg iter:Expr}{ifs:List Expr}{scope:Scope}{pos:Pos}{f:QF}(h:aay t c elt tg iter ifs scope=some f):QE aj X W (.ListComp elt [⟨tg,iter,ifs,0⟩] scope pos) f:=by
 unfold aay at h;obtain⟨it,h1,h⟩;obtain⟨⟨js,tf⟩,h2,h⟩;obtain⟨tt,h3,h⟩;obtain⟨te,h4,h⟩;let⟨hb,h⟩:=aU.mp h
 cases h;simp![auU,avb]at hb;let⟨b1,b2,b3⟩:=hb
 exact apj a.calm a.nd (o.oi a h1) (by rw[a.hN,a.hs];exact b1) (oK b2) (λs H C cl fp=>qL (a.inn scope s H C cl fp) h2) (λs H C cl fp=>uM o (a.inn scope s H C cl fp) h3) (λs H C cl fp=>o.oe (a.inn scope s H C cl fp) h4) (oM b3)
def aaC(t:Tr)(c:Tc)(x:Str)(e:Expr)(es:List Expr):Option QF:=match c.G.lookup x with
 |some (.fq n m)=>(Kc t c (e::es)).bind λas=>gd (KH c.sc x&&(!JG x&&decide ((e::es).length=n))) (some (aN m as))
 |some _=>none
 |none=>match es with
  |[]=>(b1D x).bind λo=>(t.W c e).bind λfa=>gd (vA c x x&&nst e) (some (dZ o fa))
  |[.Name y p]=>match x=="isinstance" with
   |true=>(tyN y).bind λty=>(t.W c e).bind λfa=>gd (vA c x x&&(vA c y y&&nst e)) (some (Ab ty fa))
   |false=>(b2D x).bind λo=>(t.W c e).bind λfa=>(t.W c (.Name y p)).bind λfb=>gd (vA c x x&&nst e) (some (aK o fa fb))
  |[e2]=>(b2D x).bind λo=>(t.W c e).bind λfa=>(t.W c e2).bind λfb=>gd (vA c x x&&(nst e&&nst e2)) (some (aK o fa fb))
  |_=>none
def agU{aj:aM}{c:Tc}{X:Cx}{W:WX}{k:Nat}{x:Str}{o:Dat->Dat->Out Dat}{a b:Expr}{fa fb:QF}{p pos:Pos}(am:Amb aj c X W k)(h:b2D x=some o)(hg:vA c x x=true)(ha:QW aj X W a fa)(hb:QW aj X W b fb)(hs:nst a=true)(hs2:nst b=true):QE aj X W (.Call (.Name x p) [a,b] [] pos) (aK o fa fb):=by
 let⟨f,id,r,hf,hc,ho,hv⟩:=anx am.calm h aj W
 let⟨_,hg,hm⟩:=oN am hg
 exact apD hf hc ho hg hm hv ha hb hs hs2
def agd{aj:aM}{c:Tc}{X:Cx}{W:WX}{k:Nat}{t:Tr}(o:t.Ok)(a:Amb aj c X W k){x:Str}{e:Expr}{es:List Expr}{p pos:Pos}{f:QF}(h:aaC t c x e es=some f):QE aj X W (.Call (.Name x p) (e::es) [] pos) f:=by
 unfold aaC at h;left
 .next n m hl=>
  obtain⟨as,h1,h⟩;let⟨hb,h⟩:=aU.mp h
  cases h;simp![auU,avb,awc]at hb;let⟨b1,b2,b3⟩:=hb
  let⟨fa,hm,hk,fd,ps,j,hj,hp,hB,F⟩:=a.gl x _ hl
  let⟨i1,i2,i3⟩:=vH o a h1
  exact akR (passAt (a.tw hl rfl)) F (a.rm.mono hj) (wj a b1) hm hk hB i1 (b3.trans hp.symm) (wg b2).1 i2 i3
 .cases h
 .left
  .obtain⟨o1,h1,h⟩;obtain⟨fa,h2,h⟩;let⟨hb,h⟩:=aU.mp h
   cases h;rw[auU]at hb;let⟨f,id,r,hf,hc,ho,hv⟩:=amD a.calm h1 aj W
   let⟨_,hg,hm⟩:=oN a hb.1
   exact ajy hf hc ho hg hm hv (o.ow a h2) hb.2
  .left
   .next ex=>
    obtain⟨ty,h1,h⟩;obtain⟨fa,h2,h⟩;let⟨hb,h⟩:=aU.mp h
    cases h;simp![auU]at hb;let⟨b1,b2,b3⟩:=hb
    let⟨_,hg,hm⟩:=oN a b1
    let⟨_,hg2,hm2⟩:=oN a b2
    cases awj ex;exact amF hg hm ⟨#[[]],#[()],#[()]⟩ hg2 hm2 (amE h1) (o.ow a h2) b3
   .obtain⟨o1,h1,h⟩;obtain⟨fa,h2,h⟩;obtain⟨fb,h3,h⟩;let⟨hb,h⟩:=aU.mp h
    cases h;rw[auU]at hb;exact agU a h1 hb.1 (o.ow a h2) (o.ow a h3) hb.2 rfl
  .obtain⟨o1,h1,h⟩;obtain⟨fa,h2,h⟩;obtain⟨fb,h3,h⟩;let⟨hb,h⟩:=aU.mp h
   cases h;simp![auU]at hb;exact agU a h1 hb.1 (o.ow a h2) (o.ow a h3) hb.2.1 hb.2.2
  .cases h
def stE(t:Tr)(c:Tc):Expr->Option QF
 |.Name x _=>(match uI c x with
  |some i=>some (BW i)
  |none=>match c.G.lookup x with
   |some (.con d)=>gd (KH c.sc x&&!JG x) (some (qC d))
   |_=>none)
 |.Constant (.int i) _ _=>some (qC (.int i))
 |.Constant (.str x) _ _=>some (qC (.str x))
 |.Constant (.bool x) _ _=>some (qC (.bool x))
 |.Constant .none _ _=>some (qC .none)
 |.BinOp a op b _=>(an2 op).bind λo=>(t.W c a).bind λfa=>(t.W c b).bind λfb=>some (aK o fa fb)
 |.UnaryOp .USub a _=>(t.W c a).bind λfa=>some (dZ Tg fa)
 |.UnaryOp .Not a _=>(t.W c a).bind λfa=>some (Wq fa)
 |.BoolOp _ [a] _=>t.E c a
 |.BoolOp .And (a::b::r) p=>(t.E c a).bind λfa=>(t.E c (.BoolOp .And (b::r) p)).bind λfb=>some (Ce fa fb)
 |.BoolOp .Or (a::b::r) p=>(t.E c a).bind λfa=>(t.E c (.BoolOp .Or (b::r) p)).bind λfb=>some (ail fa fb)
 |.Compare a [op] [b] _=>(match isN op with
  |some neg=>(Yg b).bind λd=>(t.W c a).bind λfa=>some (vB neg d fa)
  |none=>(Tp op).bind λo=>(t.W c a).bind λfa=>(t.W c b).bind λfb=>gd (!yG b) (some (aK o fa fb)))
 |.Compare a [op,op'] [b,b2] _=>(Tp op).bind λo=>(Tp op').bind λo'=>(t.W c a).bind λfa=>(t.W c b).bind λfb=>(t.W c b2).bind λfc=>gd (!yG b2) (some (Vq (pB o o' fa fb fc)))
 |.IfExp d a b _=>(t.T c d).bind λta=>(t.E c a).bind λfa=>(t.E c b).bind λfb=>some (J8 ta fa fb)
 |.Tuple es _ _=>(Kc t c es).bind λfr=>some (aP fr)
 |.List es _=>(Kc t c es).bind λfr=>some (uV fr)
 |.Subscript a b _=>(match b with
  |.Slice lo hi none _=>(t.W c a).bind λfa=>(trO t c lo).bind λfl=>(trO t c hi).bind λfh=>some (Nr fa fl fh)
  |b=>gd (!Ou b) ((t.W c a).bind λfa=>(t.W c b).bind λfb=>some (aK zX fa fb)))
 |.ListComp elt [⟨tg,iter,ifs,0⟩] scope _=>aay t c elt tg iter ifs scope
 |.Call (.Name x _) (e::es) [] _=>aaC t c x e es
 |_=>none
def stW(t:Tr)(c:Tc):Expr->Option QF
 |.Name x p=>(match uI c x with
  |some i=>some (Wf i)
  |none=>t.E c (.Name x p))
 |e=>t.E c e
def valT:Expr->Bool
 |.UnaryOp .Not _ _=>false
 |.BoolOp _ _ _=>false
 |.IfExp _ _ _ _=>false
 |.Compare _ _ _ _=>false
 |_=>true
def aj2{e:Expr}{env:PySem.Env}(h:valT e=true):∀whole,isTrue e env whole=(do let v <-whole;standAt e.pos;holding [v] (truthy v)):=λwhole=>by
 cases e with
 | UnaryOp o a p=>cases o<;>first | (with_unfolding_all rfl) | cases h
 |BoolOp _ _ _=>cases h
 |IfExp _ _ _ _=>cases h
 |Compare _ _ _ _=>cases h
 |_=>with_unfolding_all rfl
def stT(t:Tr)(c:Tc):Expr->Option QT
 |.UnaryOp .Not a _=>(t.T c a).bind λta=>some (jQ ta)
 |.BoolOp _ [a] _=>t.T c a
 |.BoolOp .And (a::b::r) p=>(t.T c a).bind λta=>(t.T c (.BoolOp .And (b::r) p)).bind λtb=>some (jP ta tb)
 |.BoolOp .Or (a::b::r) p=>(t.T c a).bind λta=>(t.T c (.BoolOp .Or (b::r) p)).bind λtb=>some (FJ ta tb)
 |.Compare a [op] [b] _=>(match isN op with
  |some neg=>(Yg b).bind λd=>(t.W c a).bind λfa=>some (dW (vB neg d fa))
  |none=>(Tp op).bind λo=>(t.W c a).bind λfa=>(t.W c b).bind λfb=>gd (!yG b) (some (dW (aK o fa fb))))
 |.Compare a [op,op'] [b,b2] _=>(Tp op).bind λo=>(Tp op').bind λo'=>(t.W c a).bind λfa=>(t.W c b).bind λfb=>(t.W c b2).bind λfc=>gd (!yG b2) (some (pB o o' fa fb fc))
 |e=>gd (valT e) ((t.W c e).bind λfa=>some (gQ fa))
def trF(t:Tr)(c:Tc)(firm:Bool)(e:Expr):Option QF:=match firm with
 |true=>t.E c e
 |false=>t.W c e
def isTup:Expr->Bool
 |.Tuple _ _ _=>true
 |_=>false
def stI(t:Tr)(c:Tc)(firm:Bool)(tg:Expr):Expr->Option IF
 |.Call (.Name x p) [a] [] pos=>(match vA c x "range" with
  |true=>(t.W c a).bind λfa=>gd (nst a) (some (BZ fa))
  |false=>match vA c x "enumerate" with
   |true=>(trF t c firm a).bind λfa=>gd (nst a&&isTup tg) (some (zf 0 fa))
   |false=>(trF t c firm (.Call (.Name x p) [a] [] pos)).bind λfa=>some (bQ fa))
 |.Call (.Name x p) [a,b] [] pos=>(match vA c x "range" with
  |true=>(t.W c a).bind λfa=>(t.W c b).bind λfb=>gd (nst a&&nst b) (some (yK fa fb))
  |false=>match vA c x "zip" with
   |true=>(trF t c firm a).bind λfa=>(trF t c firm b).bind λfb=>gd (nst a&&(nst b&&isTup tg)) (some (MJ fa fb))
   |false=>(trF t c firm (.Call (.Name x p) [a,b] [] pos)).bind λfa=>some (bQ fa))
 |.Call (.Name x p) [a] [⟨some kw,.Constant (.int i) j kp,kp2⟩] pos=>gd (vA c x "enumerate"&&(kw=="start"&&(decide (-(2^63)<=i/\i<2^63)&&(nst a&&isTup tg)))) ((trF t c firm a).bind λfa=>some (zf i fa))
 |e=>(trF t c firm e).bind λfa=>some (bQ fa)
def TJ{b:Expr}(h:(!Ou b)=true):PlainIx b:=λv i=>by
 cases b<;>first | rfl | cases h
section
variable{aj:aM}{c:Tc}{X:Cx}{W:WX}{k:Nat}{t:Tr}
def alK(o:t.Ok)(a:Amb aj c X W k){e:Expr}{f:QF}(h:stE t c e=some f):QE aj X W e f:=by
 unfold stE at h;left
 .left
  .next i hi=>
   cases h;let⟨s1,s2,s3,s4⟩:=qG a hi
   exact aoi s1 s2 s3 s4
  .left
   .next d hl=>
    let⟨hb,h⟩:=aU.mp h
    cases h;simp![auU,avb]at hb;let⟨v,u,h1,h2,h3,_⟩:=a.gl _ _ hl
    exact PE.weak (pe_glob (wj a hb.1) h1 h2 (wg hb.2).1) λσ H Q ⟨g,Z,M,I,z⟩=>z v H (Ex.refl H) (h3 g H)
   .cases h
 .cases h;exact al0
 .cases h;exact anL
 .cases h;exact aoP
 .cases h;exact al7
 .obtain⟨op,h1,h⟩;obtain⟨fa,h2,h⟩;obtain⟨fb,h3,h⟩;cases h;let⟨r,r1,r2⟩:=ajI h1 X aj W
  exact an8 r1 r2 (o.ow a h2) (o.ow a h3)
 .obtain⟨fa,h2,h⟩;cases h;exact aon (o.ow a h2)
 .obtain⟨fa,h2,h⟩;cases h;exact alk (o.ow a h2)
 .exact pe_one (o.oe a h)
 .obtain⟨fa,h2,h⟩;obtain⟨fb,h3,h⟩;cases h;exact alg (o.oe a h2) (o.oe a h3)
 .obtain⟨fa,h2,h⟩;obtain⟨fb,h3,h⟩;cases h;exact amT (o.oe a h2) (o.oe a h3)
 .left
  .next neg hn=>
   obtain⟨d,h1,h⟩;obtain⟨fa,h2,h⟩;cases h;let⟨v,v1,v2,v3⟩:=adh (X:=X) h1
   refine apn v1 (af8 hn v2) (o.ow a h2) v3 (Gi ?_);unfold Yg at h1;split at h1<;>first | rfl | cases h1
  .obtain⟨op,h1,h⟩;obtain⟨fa,h2,h⟩;obtain⟨fb,h3,h⟩;let⟨hb,h⟩:=aU.mp h
   cases h;let⟨r,r1,r2⟩:=Fg h1 a.rm aj W
   exact ake r1 r2 (o.ow a h2) (o.ow a h3) (Gi (by simpa using hb))
 .obtain⟨op,h1,h⟩;obtain⟨op',h1',h⟩;obtain⟨fa,h2,h⟩;obtain⟨fb,h3,h⟩;obtain⟨fc,h4,h⟩;let⟨hb,h⟩:=aU.mp h
  cases h;let⟨r,r1,r2⟩:=Fg h1 a.rm aj W
  let⟨r',r1',r2'⟩:=Fg h1' a.rm aj W
  exact ahU r1 r1' r2 r2' (o.ow a h2) (o.ow a h3) (o.ow a h4) (YQ (by simpa using hb))
 .obtain⟨ta,h1,h⟩;obtain⟨fa,h2,h⟩;obtain⟨fb,h3,h⟩;cases h;exact ahJ (o.ot a h1) (o.oe a h2) (o.oe a h3)
 .obtain⟨fr,h1,h⟩;cases h;exact amH (vH o a h1).1
 .obtain⟨fr,h1,h⟩;cases h;exact anN (vH o a h1).1
 .left
  .obtain⟨fa,h1,h⟩;obtain⟨fl,h2,h⟩;obtain⟨fh,h3,h⟩;cases h;exact apm (o.ow a h1) (agD o a h2) (agD o a h3)
  .let⟨hb,h⟩:=aU.mp h
   obtain⟨fa,h1,h⟩;obtain⟨fb,h2,h⟩;cases h;exact apy (o.ow a h1) (o.ow a h2) (TJ hb)
 .exact adZ o a h
 .exact agd o a h
 .cases h
def anc(o:t.Ok)(a:Amb aj c X W k){e:Expr}{f:QF}(h:stW t c e=some f):QW aj X W e f:=by
 unfold stW at h;left
 .left
  .next i hi=>
   cases h;let⟨s1,s2,s3,s4⟩:=qG a hi
   exact amJ s1 s2 s3 s4
  .exact(o.oe a h).w
 .exact(o.oe a h).w
def ame{a b:Expr}{rest:List Expr}{ta tb:QT}{pos:Pos}(ha:vm aj X W a ta)(hb:vm aj X W (.BoolOp .And (b::rest) pos) tb):vm aj X W (.BoolOp .And (a::b::rest) pos) (jP ta tb):=by have hb':QWt aj X W (.BoolOp .And (b::rest) pos) tb:=⟨λwh pins s σ H Q I q=>hb.run pins s σ H Q I q⟩;exact PW.pt (anq ha hb')
def apa{a b:Expr}{rest:List Expr}{ta tb:QT}{pos:Pos}(ha:vm aj X W a ta)(hb:vm aj X W (.BoolOp .Or (b::rest) pos) tb):vm aj X W (.BoolOp .Or (a::b::rest) pos) (FJ ta tb):=by have hb':QWt aj X W (.BoolOp .Or (b::rest) pos) tb:=⟨λwh pins s σ H Q I q=>hb.run pins s σ H Q I q⟩;exact PW.pt (apF ha hb')
def anW(o:t.Ok)(a:Amb aj c X W k){e:Expr}{f:QT}(h:stT t c e=some f):vm aj X W e f:=by
 unfold stT at h;left
 .obtain⟨ta,h1,h⟩;cases h;exact ami (o.ot a h1)
 .next op _ _=>
  cases op
  .exact PW.pt (pw_and1 (o.ot a h))
  .exact PW.pt (pw_or1 (o.ot a h))
 .obtain⟨ta,h1,h⟩;obtain⟨tb,h2,h⟩;cases h;exact ame (o.ot a h1) (o.ot a h2)
 .obtain⟨ta,h1,h⟩;obtain⟨tb,h2,h⟩;cases h;exact apa (o.ot a h1) (o.ot a h2)
 .left
  .next neg hn=>
   obtain⟨d,h1,h⟩;obtain⟨fa,h2,h⟩;cases h;let⟨v,v1,v2,v3⟩:=adh (X:=X) h1
   refine aoI v1 (af8 hn v2) (o.ow a h2) v3 (Gi ?_);unfold Yg at h1;split at h1<;>first | rfl | cases h1
  .obtain⟨op,h1,h⟩;obtain⟨fa,h2,h⟩;obtain⟨fb,h3,h⟩;let⟨hb,h⟩:=aU.mp h
   cases h;let⟨r,r1,r2⟩:=Fg h1 a.rm aj W
   exact anU r1 r2 (o.ow a h2) (o.ow a h3) (Gi (by simpa using hb))
 .obtain⟨op,h1,h⟩;obtain⟨op',h1',h⟩;obtain⟨fa,h2,h⟩;obtain⟨fb,h3,h⟩;obtain⟨fc,h4,h⟩;let⟨hb,h⟩:=aU.mp h
  cases h;let⟨r,r1,r2⟩:=Fg h1 a.rm aj W
  let⟨r',r1',r2'⟩:=Fg h1' a.rm aj W
  exact aiG r1 r1' r2 r2' (o.ow a h2) (o.ow a h3) (o.ow a h4) (YQ (by simpa using hb))
 .let⟨hv,h⟩:=aU.mp h
  obtain⟨fa,h1,h⟩;cases h;exact anO (o.ow a h1) (aj2 hv)
def Gj(o:t.Ok)(a:Amb aj c X W k){firm:Bool}{e:Expr}{f:QF}(h:trF t c firm e=some f):QF' aj X W firm e f:=by
 cases firm
 .exact o.ow a h
 .exact o.oe a h
def Ul{e:Expr}(h:isTup e=true):∃es j p,e=.Tuple es j p:=by cases e<;>first | exact⟨_,_,_,rfl⟩ | cases h
def alR(o:t.Ok)(a:Amb aj c X W k){firm:Bool}{tg e:Expr}{f:IF}(h:stI t c firm tg e=some f):QI aj X W firm tg e f:=by
 unfold stI at h;left
 .left
  .next hb=>
   obtain⟨fa,h1,h⟩;let⟨hs,h⟩:=aU.mp h
   cases h;let⟨rfl,hg,hm⟩:=oN a hb
   exact ahj hg hm (o.ow a h1) hs
  .left
   .next hb=>
    obtain⟨fa,h1,h⟩;let⟨hs,h⟩:=aU.mp h
    cases h;let⟨rfl,hg,hm⟩:=oN a hb
    rw[auU]at hs;let⟨es,j,p,rfl⟩:=Ul hs.2
    exact akG hg hm (Gj o a h1) hs.1
   .obtain⟨fa,h1,h⟩;cases h;exact abF (Gj o a h1)
 .left
  .next hb=>
   obtain⟨fa,h1,h⟩;obtain⟨fb,h2,h⟩;let⟨hs,h⟩:=aU.mp h
   cases h;let⟨rfl,hg,hm⟩:=oN a hb
   rw[auU]at hs;exact ahr hg hm (o.ow a h1) (o.ow a h2) hs.1 hs.2
  .left
   .next hb=>
    obtain⟨fa,h1,h⟩;obtain⟨fb,h2,h⟩;let⟨hs,h⟩:=aU.mp h
    cases h;let⟨rfl,hg,hm⟩:=oN a hb
    simp![auU]at hs;let⟨es,j,p,rfl⟩:=Ul hs.2.2
    exact ane hg hm (Gj o a h1) (Gj o a h2) hs.1 hs.2.1
   .obtain⟨fa,h1,h⟩;cases h;exact abF (Gj o a h1)
 .let⟨hs,h⟩:=aU.mp h
  obtain⟨fa,h1,h⟩;cases h;simp![auU,awc]at hs;let⟨hb,hk,hi,hn,ht⟩:=hs
  let⟨rfl,hg,hm⟩:=oN a hb
  cases awj hk;let⟨es,j,p,rfl⟩:=Ul ht
  exact aiJ hi.1 hi.2 hg hm (Gj o a h1) hn
 .obtain⟨fa,h1,h⟩;cases h;exact abF (Gj o a h1)
end
def MV.n:MV->Nat
 |.q n _=>n
 |.g n _=>n
def MV.qt:MV->Bool
 |.q _ _=>true
 |.g _ _=>false
def tbN(tb:List (Str×MV))(n:Nat):Bool:=tb.all λp=>p.2.n==n
def tbQ(tb:List (Str×MV)):Bool:=tb.all λp=>p.2.qt
theorem sO{α:Type}{c:Str}{v:α}:∀{tb:List (Str×α)},tb.lookup c=some v->(c,v)∈tb
 |[],h=>nomatch h
 |(y,u)::r,h=>by
  rw[avo]at h;left
  .next e=>
   cases h;rw[awj e];exact auX
  .exact auY _ (sO h)
section
variable{aj:aM}{c:Tc}{X:Cx}{W:WX}{k:Nat}{t:Tr}
def aar(a:Amb aj c X W k){m:Str}{n:Nat}{tb:List (Str×MV)}(h:c.hs.Ms.lookup m=some tb)(hn:tbN tb n=true):M8 X aj k m n tb:=λy v hv=>by
 refine⟨a.hk.ms m tb h y v hv,?_⟩;have:=avl.mp hn _ (sO hv);cases v<;>exact awj this
def aaF(t:Tr)(c:Tc)(o:Expr)(m:Str)(es:List Expr)(apos pos:Pos):Option QF:=
 (c.hs.Ms.lookup m).bind λtb=>(t.W c o).bind λfo=>(Kc t c es).bind λas=>
  gd (tbQ tb&&(tbN tb (es.length+1)&&(baseOk o&&(decide (es.length<30)&&(apos.endLine==pos.line))))) (some (aC tb fo as))
def agn(o:t.Ok)(a:Amb aj c X W k){b:Expr}{m:Str}{es:List Expr}{apos pos:Pos}{f:QF}(h:aaF t c b m es apos pos=some f):QE aj X W (.Call (.Attribute b m apos) es [] pos) f:=by
 unfold aaF at h;obtain⟨tb,h1,h⟩;obtain⟨fo,h2,h⟩;obtain⟨as,h3,h⟩;let⟨hb,h⟩:=aU.mp h
 cases h;simp![auU,awc]at hb;let⟨_,b2,b3,b4,b5⟩:=hb
 let⟨i1,i2,i3⟩:=vH o a h3
 cases es with
 |nil=>
  cases h3;exact aij (a.tm h1) a.rm (aar a h1 b2) (o.ow a h2) b3 b5
 |cons e es=>exact akY (a.tm h1) a.rm (aar a h1 b2) (o.ow a h2) i1 i3 b3 i2 b5 b4
def inN:CmpOp->Option Bool
 |.In=>some false
 |.NotIn=>some true
 |_=>none
def agr{op:CmpOp}{neg:Bool}(hr:Room k X.A)(h:inN op=some neg):OpR X (compareOp op) (rInD X neg):=by
 have h65:X.A.units+64<cLine:=by have:=hr.un;omega
 cases op<;>cases h
 .exact op_inD h65
 .exact op_notInD h65
def afj(t:Tr)(c:Tc)(e:Expr)(op:CmpOp)(o:Expr)(f:Str):Option QF:=
 (inN op).bind λneg=>(c.hs.df.lookup f).bind λ_=>(t.E c e).bind λfe=>(t.W c o).bind λfo=>gd (baseOk o) (some (Tv neg f fe fo))
def alZ{o e:Expr}{f:Str}{p1 pos:Pos}{fo fk:QF}{neg:Bool}{op:CmpOp}(co:j5 X.K aj)(hw:aj.w=X.w)(hr:OpR X (compareOp op) (rInD X neg))(hk:QE aj X W e fk)(ho:QW aj X W o fo)(hb:baseOk o=true):vm aj X W (.Compare e [op] [.Attribute o f p1] pos) (dW (Tv neg f fk fo)):=
 PT.weak (pt_cmpR hr hk (pe_fld ho (mJ hb)) (by cases op<;>rfl)) λσ H Q ⟨g,Z,M,I,h⟩=>by
  refine ajc co hw σ H _ ⟨g,Z,M,I,h.bnd.mono (λd h1 v H' e' r'=>?_) λ_ z=>z⟩;let⟨k,h2,h3⟩:=HJ r'.weak h1
  exact⟨k,h2,h3 H' e'⟩
def ade(o:t.Ok)(a:Amb aj c X W k){e b:Expr}{op:CmpOp}{m:Str}{p1 pos:Pos}{f:QF}(h:afj t c e op b m=some f):QE aj X W (.Compare e [op] [.Attribute b m p1] pos) f/\vm aj X W (.Compare e [op] [.Attribute b m p1] pos) (dW f):=by
 unfold afj at h;obtain⟨neg,h1,h⟩;obtain⟨_,_,h⟩;obtain⟨fe,h2,h⟩;obtain⟨fo,h3,h⟩;let⟨hb,h⟩:=aU.mp h
 cases h;exact⟨alY a.hk.co a.hk.hw (agr a.rm h1) (o.oe a h2) (o.ow a h3) hb,alZ a.hk.co a.hk.hw (agr a.rm h1) (o.oe a h2) (o.ow a h3) hb⟩
def aas(t:Tr)(c:Tc)(e:Expr)(op:CmpOp)(x:Str):Option QF:=
 (inN op).bind λneg=>match c.G.lookup x with
  |some (.dic kvs)=>(t.W c e).bind λfe=>gd (KH c.sc x&&!JG x) (some (W4 neg kvs fe))
  |_=>none
def abD(o:t.Ok)(a:Amb aj c X W k){e:Expr}{op:CmpOp}{x:Str}{p1 pos:Pos}{f:QF}(h:aas t c e op x=some f):QE aj X W (.Compare e [op] [.Name x p1] pos) f/\vm aj X W (.Compare e [op] [.Name x p1] pos) (dW f):=by
 unfold aas at h;obtain⟨neg,h1,h⟩;left
 .next kvs hl=>
  obtain⟨fe,h2,h⟩;let⟨hb,h⟩:=aU.mp h
  cases h;simp![auU,avb]at hb;refine amZ a.rm ?_ (a.gl x _ hl) (wj a hb.1) (wg hb.2).1 (o.ow a h2);cases op<;>cases h1
  .exact .inl ⟨rfl,rfl⟩
  .exact .inr ⟨rfl,rfl⟩
 .cases h
def aaN(t:Tr)(c:Tc):Expr->Option QF
 |.Call (.Name y _) [b] [] _=>(match vA c y "set" with
  |true=>(t.W c b).bind λfb=>gd (nst b) (some (dZ Ve fb))
  |false=>(t.W c (.Call (.Name y ⟨0,0,0,0⟩) [b] [] ⟨0,0,0,0⟩)).bind λ_=>none)
 |.SetComp elt [⟨tg,iter,ifs,0⟩] scope _=>(t.I c false tg iter).bind λit=>(G4 (c.inn scope) tg).bind λjt=>(S8 t (c.inn scope) ifs).bind λtt=>(t.E (c.inn scope) elt).bind λte=>
  gd (blkC c.N c.sc scope (lg tg jt.1)&&(K9 jt.1 ((lg tg jt.1).map (·.2))&&!yG iter)) (some (Ez it jt.2 ((lg tg jt.1).map (·.2)) tt te))
 |e=>(t.W c e).bind λfe=>gd (nst e) (some (dZ zH fe))
def aeI(a:Amb aj c X W k):X.A.units+65<cLine:=by have:=a.rm.un;omega
def agX(o:t.Ok)(a:Amb aj c X W k)(hg:Gl X "sorted")(hm:X.mg "sorted"=none){e:Expr}{p pos:Pos}{f:QF}(h:aaN t c e=some f):QE aj X W (.Call (.Name "sorted" p) [e] [] pos) f:=by
 unfold aaN at h;left
 .left
  .next hb=>
   obtain⟨fb,h1,h⟩;let⟨hn,h⟩:=aU.mp h
   cases h;let⟨rfl,hg2,hm2⟩:=oN a hb
   exact aks (aeI a) a.calm hg hm hg2 hm2 (o.ow a h1) hn
  .obtain⟨_,_,h⟩;cases h
 .obtain⟨it,h1,h⟩;obtain⟨⟨js,tf⟩,h2,h⟩;obtain⟨tt,h3,h⟩;obtain⟨te,h4,h⟩;let⟨hb,h⟩:=aU.mp h
  cases h;simp![auU,avb]at hb;let⟨b1,b2,b3⟩:=hb
  exact agb (aeI a) a.calm a.nd hg hm (o.oi a h1) (by rw[a.hN,a.hs];exact b1) (oK b2) (λs H C cl fp=>qL (a.inn _ s H C cl fp) h2) (λs H C cl fp=>uM o (a.inn _ s H C cl fp) h3) (λs H C cl fp=>o.oe (a.inn _ s H C cl fp) h4) (oM b3)
 .obtain⟨fe,h1,h⟩;let⟨hn,h⟩:=aU.mp h
  cases h;exact ajU (aeI a) hg hm (o.ow a h1) hn
def Vd(t:Tr)(c:Tc)(elt tg iter:Expr)(ifs:List Expr)(tg1 iter1:Expr)(ifs1:List Expr)(scope:Scope):Option QF:=
 (t.I c false tg iter).bind λit=>(G4 (c.inn scope) tg).bind λjt=>(S8 t (c.inn scope) ifs).bind λtt=>(t.I (c.inn scope) true tg1 iter1).bind λit1=>(G4 (c.inn scope) tg1).bind λjt1=>(S8 t (c.inn scope) ifs1).bind λtt1=>(t.E (c.inn scope) elt).bind λte=>
  gd (blkC c.N c.sc scope (lg tg jt.1++lg tg1 jt1.1)&&(K9 ((lg tg1 jt1.1).map (·.2)) ((lg tg jt.1++lg tg1 jt1.1).map (·.2))&&(K9 jt.1 ((lg tg jt.1++lg tg1 jt1.1).map (·.2))&&(K9 jt1.1 ((lg tg1 jt1.1).map (·.2))&&(!yG iter&&!yG iter1)))))
   (some (Gv it jt.2 ((lg tg jt.1++lg tg1 jt1.1).map (·.2)) tt it1 jt1.2 ((lg tg1 jt1.1).map (·.2)) tt1 te))
def aiy(o:t.Ok)(a:Amb aj c X W k){elt tg iter tg1 iter1:Expr}{ifs ifs1:List Expr}{scope:Scope}{pos:Pos}{f:QF}(h:Vd t c elt tg iter ifs tg1 iter1 ifs1 scope=some f):QE aj X W (.ListComp elt [⟨tg,iter,ifs,0⟩,⟨tg1,iter1,ifs1,0⟩] scope pos) f:=by
 unfold Vd at h;obtain⟨it,h1,h⟩;obtain⟨⟨js,tf⟩,h2,h⟩;obtain⟨tt,h3,h⟩;obtain⟨it1,h4,h⟩;obtain⟨⟨js1,tf1⟩,h5,h⟩;obtain⟨tt1,h6,h⟩;obtain⟨te,h7,h⟩;let⟨hb,h⟩:=aU.mp h
 cases h;simp![auU,avb]at hb;let⟨b1,b2,b3,b4,b5,b6⟩:=hb
 exact alv a.calm a.nd (o.oi a h1) (by rw[a.hN,a.hs];exact b1) (oK b2) (oK b3) (oK b4) (λs H C cl fp=>qL (a.inn _ s H C cl fp) h2) (λs H C cl fp=>uM o (a.inn _ s H C cl fp) h3) (λs H C cl fp=>o.oi (a.inn _ s H C cl fp) h4) (λs H C cl fp=>qL (a.inn _ s H C cl fp) h5) (λs H C cl fp=>uM o (a.inn _ s H C cl fp) h6) (λs H C cl fp=>o.oe (a.inn _ s H C cl fp) h7) (oM b5) (λenv=>oM b6)
def els{α:Type}(a b:Option α):Option α:=match a with
 |some x=>some x
 |none=>b
def vM{α:Type}{a b:Option α}{x:α}(h:els a b=some x):a=some x\/b=some x:=by
 cases a with
 |none=>exact .inr h
 |some y=>exact .inl h
def xE0(t:Tr)(c:Tc):Expr->Option QF
 |.Attribute o f _=>gd (baseOk o) ((t.W c o).bind λfo=>some (fD f fo))
 |.Call (.Attribute o m apos) es [] pos=>aaF t c o m es apos pos
 |.Compare e [op] [.Attribute o f _] _=>afj t c e op o f
 |.Compare e [op] [.Name x _] _=>aas t c e op x
 |.Subscript (.Name x _) e _=>(match c.G.lookup x with
  |some (.dic kvs)=>(t.W c e).bind λfe=>gd (KH c.sc x&&(!JG x&&!Ou e)) (some (afh kvs fe))
  |_=>none)
 |.ListComp elt [⟨tg,iter,ifs,0⟩,⟨tg1,iter1,ifs1,0⟩] scope _=>Vd t c elt tg iter ifs tg1 iter1 ifs1 scope
 |.Call (.Name x _) [e] [] _=>(match vA c x "sorted" with
  |true=>aaN t c e
  |false=>match vA c x "list",e with
   |true,.Attribute o f _=>(c.hs.df.lookup f).bind λ_=>(t.W c o).bind λfo=>gd (baseOk o) (some (Fw f fo))
   |_,_=>none)
 |_=>none
def alG(o:t.Ok)(a:Amb aj c X W k){e:Expr}{f:QF}(h:xE0 t c e=some f):QE aj X W e f:=by
 unfold xE0 at h;left
 .let⟨hb,h⟩:=aU.mp h
  obtain⟨fo,h1,h⟩;cases h;exact aoy a.hk.co (o.ow a h1) hb
 .exact agn o a h
 .exact(ade o a h).1
 .exact(abD o a h).1
 .left
  .next kvs hl=>
   obtain⟨fe,h1,h⟩;let⟨hb,h⟩:=aU.mp h
   cases h;simp![auU]at hb;exact anC (a.gl _ _ hl) (wj a hb.1) (wg (by simpa using hb.2.1)).1 (o.ow a h1) (TJ hb.2.2)
  .cases h
 .exact aiy o a h
 .left
  .next hb=>
   let⟨rfl,hg,hm⟩:=oN a hb
   exact agX o a hg hm h
  .left
   .next hb=>
    obtain⟨_,_,h⟩;obtain⟨fo,h1,h⟩;let⟨hb2,h⟩:=aU.mp h
    cases h;let⟨rfl,hg,hm⟩:=oN a hb
    exact ahL a.hk.co a.hk.hw a.calm hg hm (o.ow a h1) hb2
   .cases h
 .cases h
def xE1(t:Tr)(c:Tc)(e:Expr):Option QF:=xE0 t c e
def al4(o:t.Ok)(a:Amb aj c X W k){e:Expr}{f:QF}(h:xE1 t c e=some f):QE aj X W e f:=alG o a h
def xE(t:Tr)(c:Tc)(e:Expr):Option QF:=xE1 t c e
def apt(o:t.Ok)(a:Amb aj c X W k){e:Expr}{f:QF}(h:xE t c e=some f):QE aj X W e f:=al4 o a h
def xW(t:Tr)(c:Tc):Expr->Option QF
 |.Attribute o f _=>gd (baseOk o) ((t.W c o).bind λfo=>some (bf f fo))
 |_=>none
def aoM(o:t.Ok)(a:Amb aj c X W k){e:Expr}{f:QF}(h:xW t c e=some f):QW aj X W e f:=by
 unfold xW at h;left
 .let⟨hb,h⟩:=aU.mp h
  obtain⟨fo,h1,h⟩;cases h;exact amK a.hk.co (o.ow a h1) hb
 .cases h
def xT(t:Tr)(c:Tc):Expr->Option QT
 |.Compare e [op] [.Attribute o f _] _=>(afj t c e op o f).bind λg=>some (dW g)
 |.Compare e [op] [.Name x _] _=>(aas t c e op x).bind λg=>some (dW g)
 |_=>none
def ao2(o:t.Ok)(a:Amb aj c X W k){e:Expr}{f:QT}(h:xT t c e=some f):vm aj X W e f:=by
 unfold xT at h;left
 .obtain⟨g,h1,h⟩;cases h;exact(ade o a h1).2
 .obtain⟨g,h1,h⟩;cases h;exact(abD o a h1).2
 .cases h
def xI(t:Tr)(c:Tc)(firm:Bool):Expr->Option IF
 |.Attribute o f _=>(match firm with
  |true=>none
  |false=>(c.hs.df.lookup f).bind λ_=>gd (baseOk o) ((t.W c o).bind λfo=>some (GD f fo)))
 |_=>none
def apH(o:t.Ok)(a:Amb aj c X W k){firm:Bool}{tg e:Expr}{f:IF}(h:xI t c firm e=some f):QI aj X W firm tg e f:=by
 unfold xI at h;left
 .left
  .cases h
  .obtain⟨_,_,h⟩;let⟨hb,h⟩:=aU.mp h
   obtain⟨fo,h1,h⟩;cases h;exact ai3 a.hk.co a.hk.hw (o.ow a h1) hb
 .cases h
def xtE(t:Tr)(c:Tc)(e:Expr):Option QF:=els (xE t c e) (stE t c e)
def xtW(t:Tr)(c:Tc)(e:Expr):Option QF:=els (xW t c e) (stW t c e)
def xtT(t:Tr)(c:Tc)(e:Expr):Option QT:=els (xT t c e) (stT t c e)
def xtI(t:Tr)(c:Tc)(firm:Bool)(tg e:Expr):Option IF:=els (xI t c firm e) (stI t c firm tg e)
end
structure tH(aj:aM)(c:Tc)(X:Cx)(W:WX)(k:Nat):Prop extends Amb aj c X W k where
 ps:PassesOwn (model X.prog X.w) X.A X.env X.xe
 st:X.stack=X.env::X.outer
 fr:X.env.frame=some X.env.locals
 kf:X.env.scope.kind=.function
structure Ts where
 G:Tc->Expr->Option GF
 H:Tc->Expr->Option GT
 S:Tc->Stmt->Option SF
 B:Tc->List Stmt->Option SF
structure Ts.Ok(s:Ts)(q:Bool):Prop where
 og:∀{aj:aM} {c:Tc} {X:Cx} {W:WX} {k:Nat},tH aj c X W k->∀{e:Expr} {f:GF},s.G c e=some f->GE aj X W q e f
 oh:∀{aj:aM} {c:Tc} {X:Cx} {W:WX} {k:Nat},tH aj c X W k->∀{e:Expr} {f:GT},s.H c e=some f->GTe aj X W q e f
 os:∀{aj:aM} {c:Tc} {X:Cx} {W:WX} {k:Nat},tH aj c X W k->∀{e:Stmt} {f:SF},s.S c e=some f->SE aj X W q e f
 ob:∀{aj:aM} {c:Tc} {X:Cx} {W:WX} {k:Nat},tH aj c X W k->∀{e:List Stmt} {f:SF},s.B c e=some f->Hh aj X W q e f
def DP:Expr->Bool
 |.ListComp _ _ _ _=>true
 |.SetComp _ _ _ _=>true
 |.DictComp _ _ _ _ _=>true
 |_=>false
def KN{e:Expr}{tg:Option Expr}{l:Nat}{env:PySem.Env}(h:DP e=false):swapsWith e tg l env=pure false:=by cases e<;>first | rfl | cases h
def aeM:Expr->Bool
 |.Tuple _ _ _=>true
 |_=>false
def swB(sc:Scope)(v:Expr)(scope:Scope)(x:Str)(p:Pos):Bool:=(match sc.names.lookup x with
 |some .local=>true
 |_=>false)&&(p.line==v.pos.line&&!(scope.names.any λ(n,k)=>n==x&&(k==.local || k==.cell)))
def VN{X:Cx}{elt:Expr}{gens:List Comprehension}{scope:Scope}{pos p:Pos}{x:Str}{l:Nat}(hk:X.env.scope.kind=.function)(h:swB X.env.scope (.ListComp elt gens scope pos) scope x p=true):X.env.scope.names.lookup x=some .local/\swapsWith (.ListComp elt gens scope pos) (some (.Name x p)) l X.env=pure true:=by
 unfold swB at h;simp![auU]at h;let⟨h1,h2,h3⟩:=h
 have e1:X.env.scope.names.lookup x=some .local:=by
  split at h1
  .assumption
  .cases h1
 refine⟨e1,?_⟩;have eb:X.env.blockKind=.function:=by unfold PySem.Env.blockKind;rw[hk];rfl
 unfold swapsWith
 show(pure (X.env.blockKind==.function&&X.env.kindOf x==some .local&&p.line==(Expr.ListComp elt gens scope pos).pos.line&&!(scope.names.any λ(n,k)=>n==x&&(k==.local || k==.cell))):Sem Bool)=pure true
 rw[eb,h2,h3];unfold PySem.Env.kindOf;rw[e1];rfl
def ahg{X:Cx}{elt:Expr}{gens:List Comprehension}{scope:Scope}{pos p:Pos}{x:Str}{l:Nat}(h:(p.line==(Expr.ListComp elt gens scope pos).pos.line)=false):swapsWith (.ListComp elt gens scope pos) (some (.Name x p)) l X.env=pure false:=by
 unfold swapsWith
 show(pure (X.env.blockKind==.function&&X.env.kindOf x==some .local&&p.line==(Expr.ListComp elt gens scope pos).pos.line&&!(scope.names.any λ(n,k)=>n==x&&(k==.local || k==.cell))):Sem Bool)=pure false
 rw[h,Bool.and_false,Bool.false_and]
def trN(t:Tr)(c:Tc):Expr->Option IF
 |.List es _=>(Kc t c es).bind λfr=>some (Nh fr)
 |_=>none
def afY{aj:aM}{c:Tc}{X:Cx}{W:WX}{k:Nat}{t:Tr}(o:t.Ok)(a:Amb aj c X W k){e:Expr}{f:IF}(h:trN t c e=some f):FE aj X W e f/\DP e=false:=by
 unfold trN at h;left
 .obtain⟨fr,h1,h⟩;cases h;exact⟨anE (vH o a h1).1,rfl⟩
 .cases h
def X4(c:Tc):List Str->Option (List Nat)
 |[]=>some []
 |x::xs=>(match c.sc.names.lookup x with
  |some .local=>(idx c.N x).bind λi=>(X4 c xs).bind λjs=>some (i::js)
  |_=>none)
theorem adx{aj:aM}{c:Tc}{X:Cx}{W:WX}{k:Nat}(a:Amb aj c X W k):∀{xs:List Str} {js:List Nat},X4 c xs=some js->xs.length=js.length/\∀(n:Nat) (x:Str) (j:Nat),xs[n]?=some x->js[n]?=some j->X.N[j]?=some x/\X.env.scope.names.lookup x=some .local
 |[],js,h=>by
  cases h;exact⟨rfl,λn x j e=>by simp at e⟩
 |x::xs,js,h=>by
  rw[X4]at h;left
  .next e=>
   obtain⟨i,h1,h⟩;obtain⟨r,h2,h⟩;cases h;let⟨i1,i2⟩:=adx a h2
   refine⟨by simp[i1],λn y j e1 e2=>?_⟩;cases n with
   |zero=>
    simp at e1 e2;subst e1 e2;exact⟨by rw[a.hN];exact JN h1,by rw[a.hs];exact e⟩
   |succ n=>exact i2 n y j (by simpa using e1) (by simpa using e2)
  .cases h
def nmE:Expr->Option (Str×Nat)
 |.Name x p=>some (x,p.line)
 |_=>none
def XJ:List Expr->Option (LsS Nat)
 |[]=>some []
 |e::es=>(nmE e).bind λx=>(XJ es).bind λr=>some (x::r)
def pnB(c:Tc)(ts vs:List Expr):Option (List Nat):=
 (XJ ts).bind λnls=>gd ((ts.length==2 || ts.length==3)&&(vs.length==ts.length&&(vs.all nst&&(nls.all (λp=>p.2==((ts.head?.map (·.pos.line)).getD 0))&&((nls.map (·.1)).eraseDups.length==nls.length&&(!(vs.all (foldedForSure 8))&&!(vs.all (constantsAlone 8)))))))) (X4 c (nls.map (·.1)))
theorem aco:∀{ts:List Expr} {nls:LsS Nat},XJ ts=some nls->nls.length=ts.length
 |[],_,h=>by cases h;rfl
 |e::es,_,h=>by
  rw[XJ]at h;obtain⟨x,h1,h⟩;obtain⟨r,h2,h⟩;cases h;simp[aco h2]
theorem Vm{sc:Scope}{l:Nat}:∀{ts:List Expr} {nls:LsS Nat},XJ ts=some nls->nls.all (λp=>p.2==l)=true->(∀x∈nls.map (·.1),sc.names.lookup x=some .local)->
  (ts.filterMap λe=>match e with
  |.Name id pos=>if sc.names.lookup id==some .local&&pos.line==l then some id else none
  |_=>none)=nls.map (·.1)
 |[],_,h,_,_=>by cases h;rfl
 |e::es,_,h,hl,hk=>by
  rw[XJ]at h;obtain⟨x,h1,h⟩;obtain⟨r,h2,h⟩;cases h;rw[avw,auU]at hl;have ih:=Vm (sc:=sc) h2 hl.2 λy hy=>hk y (auY _ hy);cases e with
  |Name y p=>
   cases h1;have e1:=hk y auX;have e2:(if sc.names.lookup y==some .local&&p.line==l then some y else none)=some y:=by rw[e1,show(p.line==l)=true from hl.1];rfl
   simp![List.filterMap_cons,e2,ih,List.map_cons]
  |_=>cases h1
def N7:∀(n:Nat) (l:List Str),l.length=n->l.eraseDups.length=l.length->l.Nodup:=by
 intro n
 induction n using Nat.strongRecOn with
 |_ n ih=>
  intro l hn h;cases l with
  |nil=>exact av6
  |cons a r=>
   rw[av1]at h;simp![au5]at h hn;have h1:(r.filter λb=>!b==a).length<=r.length:=au6 _ _;have h2:∀l:List Str,l.eraseDups.length<=l.length:=by
    intro l
    induction hm:l.length using Nat.strongRecOn generalizing l with
    |_ m ihm=>
     cases l with
     |nil=>simp
     |cons x xs=>
      rw[av1];simp![au5]at hm |-
      have z:(xs.filter λb=>!b==x).length<=xs.length:=au6 _ _;have:=ihm _ #[] (xs.filter λb=>!b==x) rfl;omega
   have h3:=h2 (r.filter λb=>!b==a);have e1:(r.filter λb=>!b==a).length=r.length:=#[];have e2:(r.filter λb=>!b==a)=r:=av2.mpr (List.length_filter_eq_length_iff.mp e1);rw[e2]at h;rw[avO];refine⟨λz=>?_,ih r.length #[] r rfl #[]⟩;have:=av2.mp e2 a z;simp at this
theorem adQ{aj:aM}{c:Tc}{X:Cx}{W:WX}{k:Nat}(a:Amb aj c X W k):∀{xs:List Str} {js:List Nat},X4 c xs=some js->xs.Nodup->js.Nodup/\∀j∈js,∃x∈xs,X.N[j]?=some x
 |[],js,h,_=>by
  cases h;exact⟨av6,λj hj=>by simp at hj⟩
 |x::xs,js,h,nd=>by
  rw[X4]at h;rw[avO]at nd;left
  .next e=>
   obtain⟨i,h1,h⟩;obtain⟨r,h2,h⟩;cases h;let⟨i1,i2⟩:=adQ a h2 nd.2
   have hi:X.N[i]?=some x:=by rw[a.hN];exact JN h1
   refine⟨avO.mpr ⟨λz=>?_,i1⟩,λj hj=>?_⟩
   .let⟨y,hy,e2⟩:=i2 i z
    rw[hi]at e2;cases e2;exact nd.1 hy
   .rcases au7.mp hj with rfl|hj
    .exact⟨x,auX,hi⟩
    .let⟨y,hy,e2⟩:=i2 j hj
     exact⟨y,auY _ hy,e2⟩
  .cases h
def alp{vs:List Expr}(h:vs.all nst=true):(vs.any λe=>match e with
  |.Starred _ _=>true
  |_=>false)=false:=by
 induction vs with
 |nil=>rfl
 |cons v vs ih=>
  rw[avw,auU]at h;rw[avS,ih h.2,Bool.or_false];cases v<;>first | rfl | cases h.1
def anY{aj:aM}{c:Tc}{X:Cx}{W:WX}{k:Nat}(a:tH aj c X W k){ts vs:List Expr}{js:List Nat}{kt k2:Nat}{pt p2:Pos}(h:pnB c ts vs=some js) :
  ∃xs:List Str,xs.length=js.length/\js.length<=3/\js.Nodup/\(∀(n:Nat) (x:Str) (j:Nat),xs[n]?=some x->js[n]?=some j->X.N[j]?=some x/\X.env.scope.names.lookup x=some .local)/\swappedStores [.Tuple ts kt pt] (.Tuple vs k2 p2) X.env=pure (some xs):=by
 unfold pnB at h;obtain⟨nls,h1,h⟩;let⟨hb,h⟩:=aU.mp h
 simp![auU,avb]at hb;let⟨b1,b2,b3,b4,b5,b6,b7⟩:=hb
 have l1:=aco h1;let⟨i1,i2⟩:=adx a.toAmb h
 have nd:=N7 _ _ rfl (by rw[au3];exact awj b5);let⟨d1,d2⟩:=adQ a.toAmb h nd
 have hloc:∀x∈nls.map (·.1),X.env.scope.names.lookup x=some .local:=λx hx=>by
  let⟨n,hn,e⟩:=List.mem_iff_getElem.mp hx
  have hj:n<js.length:=by rw[<-i1];exact hn
  exact(i2 n x js[n] (by rw[auV hn,e]) (auV hj)).2
 have hf:=Vm (sc:=X.env.scope) h1 b4 hloc;have h3:ts.length=2\/ts.length=3:=by rw[avN]at b1;exact b1.imp awj awj
 refine⟨nls.map (·.1),i1,?_,d1,i2,?_⟩
 .rw[<-i1,au3,l1];omega
 .have eb:X.env.blockKind=.function:=by
   unfold PySem.Env.blockKind;rw[a.kf];rfl
  unfold swappedStores;have e1:(!(ts.length==2 || ts.length==3) || vs.length != ts.length || X.env.blockKind != .function)=false:=by rw[b1,eb,awj b2];simp
  have e2:=alp b3;have e3:(nls.map (·.1)).length=ts.length:=by rw[au3,l1]
  have e4:((nls.map (·.1)).length != ts.length || (nls.map (·.1)).eraseDups.length != (nls.map (·.1)).length)=false:=by rw[e3,awj b5,l1];simp
  simp![e1,avr,if_false];generalize hA:List.filterMap (β:=Str) _ ts=A;have eA:A=nls.map (·.1):=hA.symm.trans hf;subst eA;split
  .next z=>exact absurd (z.symm.trans e2) #[()]
  .rw[e4,b6,b7];rfl
section
variable{X:Cx}{aj:aM}{W:WX}{q:Bool}{e:Expr}{pos:Pos}
def alN{j:Nat}{y:Str}{py:Pos}{elt tg iter:Expr}{cpos:Pos}{scope:Scope}{own:LsS Nat}{it:IF}{tgf:dY}{js:List Nat}{tt:QT}{te:QF}{ifs:List Expr}(hc:X.calm=true)(hN:X.N.Nodup)(hy:X.N[j]?=some y)(hyl:X.env.scope.names.lookup y=some .local)
  (hsw:swapsWith (.ListComp elt [⟨tg,iter,ifs,0⟩] scope cpos) (some (.Name y py)) pos.line X.env=pure true) (hi:QI aj X W false tg iter it) (ok:blkC X.N X.env.scope scope own=true) (hj:∀j∈js,j∈own.map (·.2))
  (hg:∀s H C cl fp,QG aj #[[[]]] tg js tgf)
  (ht:∀s H C cl fp,PTs #[[[]]] ifs (jx X.K aj WF tt))
  (he:∀s H C cl fp,QE aj #[[[]]] WF elt te) (hs:∀x,foldedSetIterable iter X.env x=pure x) :
  SE aj X W q (.Assign [.Name y py] (.ListComp elt [⟨tg,iter,ifs,0⟩] scope cpos) pos) (zJ j (xM it tgf (own.map (·.2)) tt te)):=by
 refine PS.weak (ps_setLc (g:=xJ X.K aj js tgf) (tt:=jx X.K aj WF tt) (te:=tQ X.K aj WF te) hc hN hy hyl hsw hi (blkOk_by ok) (λs H C cl fp=>hg s H C cl fp) ht (λs H C cl fp=>he s H C cl fp) hs) λD σ H h=>?_;exact aaT hj σ H _ (ahv D σ H h)
end
def ajb(t:Tr)(c:Tc)(elt tg iter:Expr)(ifs:List Expr)(scope:Scope):Option IF:=
 (t.I c false tg iter).bind λit=>(G4 (c.inn scope) tg).bind λjt=>(S8 t (c.inn scope) ifs).bind λtt=>(t.E (c.inn scope) elt).bind λte=>
  gd (blkC c.N c.sc scope (lg tg jt.1)&&(K9 jt.1 ((lg tg jt.1).map (·.2))&&!yG iter)) (some (xM it jt.2 ((lg tg jt.1).map (·.2)) tt te))
def WY(t:Tr)(c:Tc)(x:Str)(p:Pos)(elt tg iter:Expr)(ifs:List Expr)(scope:Scope)(cpos:Pos):Option SF:=
 (vh c x).bind λj=>gd (swB c.sc (.ListComp elt [⟨tg,iter,ifs,0⟩] scope cpos) scope x p || !(p.line==(Expr.ListComp elt [⟨tg,iter,ifs,0⟩] scope cpos).pos.line))
  (match c.ml.contains x with
  |true=>(ajb t c elt tg iter ifs scope).bind λf=>some (zJ j f)
  |false=>(aay t c elt tg iter ifs scope).bind λf=>some (aV (aq j) (gOf f)))
section
variable{aj:aM}{c:Tc}{X:Cx}{W:WX}{k:Nat}{t:Tr}{q:Bool}
def afa(o:t.Ok)(a:tH aj c X W k){x:Str}{p cpos pos:Pos}{elt tg iter:Expr}{ifs:List Expr}{scope:Scope}{f:SF}(h:WY t c x p elt tg iter ifs scope cpos=some f):SE aj X W q (.Assign [.Name x p] (.ListComp elt [⟨tg,iter,ifs,0⟩] scope cpos) pos) f:=by
 unfold WY at h;obtain⟨j,hj,h⟩;let⟨hsw,h⟩:=aU.mp h
 let⟨s1,s2,s3⟩:=lM a.toAmb hj
 rw[avN]at hsw;left
 .obtain⟨f1,h1,h⟩;cases h;unfold ajb at h1;let⟨it,h2,h1⟩:=auW.mp h1
  let⟨⟨js,tf⟩,h3,h1⟩:=auW.mp h1
  let⟨tt,h4,h1⟩:=auW.mp h1
  let⟨te,h5,h1⟩:=auW.mp h1
  let⟨hb,h1⟩:=aU.mp h1
  cases h1;simp![auU,avb]at hb;let⟨b1,b2,b3⟩:=hb
  rcases hsw with hsw|hsw
  .rw[<-a.hs]at hsw;let⟨l1,l2⟩:=VN (l:=pos.line) a.kf hsw
   exact alN a.calm a.nd s1 l1 l2 (o.oi a.toAmb h2) (by rw[a.hN,a.hs];exact b1) (oK b2) (λs H C cl fp=>qL (a.toAmb.inn scope s H C cl fp) h3) (λs H C cl fp=>uM o (a.toAmb.inn scope s H C cl fp) h4) (λs H C cl fp=>o.oe (a.toAmb.inn scope s H C cl fp) h5) (oM b3)
  .exact ahA a.nd s1 s2 s3 (apq a.calm a.nd (o.oi a.toAmb h2) (by rw[a.hN,a.hs];exact b1) (oK b2) (λs H C cl fp=>qL (a.toAmb.inn scope s H C cl fp) h3) (λs H C cl fp=>uM o (a.toAmb.inn scope s H C cl fp) h4) (λs H C cl fp=>o.oe (a.toAmb.inn scope s H C cl fp) h5) (oM b3)) (ahg (by simpa using hsw))
 .obtain⟨f1,h1,h⟩;cases h;rcases hsw with hsw|hsw
  .rw[<-a.hs]at hsw;let⟨l1,l2⟩:=VN (l:=pos.line) a.kf hsw
   unfold aay at h1;let⟨it,h2,h1⟩:=auW.mp h1
   let⟨⟨js,tf⟩,h3,h1⟩:=auW.mp h1
   let⟨tt,h4,h1⟩:=auW.mp h1
   let⟨te,h5,h1⟩:=auW.mp h1
   let⟨hb,h1⟩:=aU.mp h1
   cases h1;simp![auU,avb]at hb;let⟨b1,b2,b3⟩:=hb
   exact aob a.calm a.nd s1 l1 l2 (o.oi a.toAmb h2) (by rw[a.hN,a.hs];exact b1) (oK b2) (λs H C cl fp=>qL (a.toAmb.inn scope s H C cl fp) h3) (λs H C cl fp=>uM o (a.toAmb.inn scope s H C cl fp) h4) (λs H C cl fp=>o.oe (a.toAmb.inn scope s H C cl fp) h5) (oM b3)
  .exact abK (ajB (adZ o a.toAmb h1)) (Ru a.nd s1 s2 s3) (ahg (l:=pos.line) (by simpa using hsw)) #[rfl] #[rfl]
end
def wO{tg e:Expr}{l:Nat}{env:PySem.Env}(h:DP e=false):swapsWithSole [tg] e l env=pure false:=KN h
def akA{x:Str}{p spos:Pos}{i:Expr}{env:PySem.Env}(h:Ou i=false):∀v,assign (.Subscript (.Name x p) i spos) env v=(do
   let ov <-holding [v] (eval (.Name x p) env)
   let iv <-holding [v,ov] (eval i env)
   standAt spos
   holding [v,ov,iv] (setItem ov iv v)
   release [v,ov,iv] []):=λv=>by
 cases i<;>first | (with_unfolding_all rfl) | cases h
def aeO(t:Tr)(s:Ts)(c:Tc):Expr->Expr->Option SF
 |.Name x p,.ListComp elt [⟨tg,iter,ifs,0⟩] scope cpos=>WY t c x p elt tg iter ifs scope cpos
 |.Name x _,e=>(vh c x).bind λj=>match c.ml.contains x with
  |true=>(trN t c e).bind λf=>some (zJ j f)
  |false=>gd (!DP e) ((s.G c e).bind λf=>some (aV (aq j) f))
 |.Tuple [.Name x _,.Starred (.Name y _) _] _ _,e=>(vh c x).bind λi=>(vh c y).bind λj=>gd (!DP e&&!aeM e) ((s.G c e).bind λf=>some (aah i j f))
 |.Tuple ts _ _,.Tuple vs _ _=>(pnB c ts vs).bind λjs=>(Kc t c vs).bind λf=>some (sPN js f)
 |.Tuple ts _ _,e=>(abJ c ts).bind λjs=>gd (!DP e&&!aeM e) ((s.G c e).bind λf=>some (aV (aX js) f))
 |.Subscript (.Name x _) i _,e=>(uI c x).bind λj=>gd (c.ml.contains x&&(!DP e&&!Ou i)) ((t.E c e).bind λf=>(t.E c i).bind λfi=>some (Wt j fi f))
 |_,_=>none
def Ld{tg e:Expr}{env:PySem.Env}(h:aeM e=false):swappedStores [tg] e env=pure none:=by cases tg<;>first | rfl | (cases e<;>first | rfl | cases h)
section
variable{aj:aM}{c:Tc}{X:Cx}{W:WX}{k:Nat}{t:Tr}{s:Ts}{q:Bool}
def ai2(o:t.Ok)(os:s.Ok q)(a:tH aj c X W k){tg e:Expr}{pos:Pos}{f:SF}(h:aeO t s c tg e=some f):SE aj X W q (.Assign [tg] e pos) f:=by
 unfold aeO at h;left
 .exact afa o a h
 .obtain⟨j,hj,h⟩;let⟨s1,s2,s3⟩:=lM a.toAmb hj
  left
  .obtain⟨f1,h1,h⟩;cases h;let⟨i1,i2⟩:=afY o a.toAmb h1
   exact ahA a.nd s1 s2 s3 i1 (KN i2)
  .let⟨hc,h⟩:=aU.mp h
   obtain⟨f1,h1,h⟩;cases h;exact abK (os.og a h1) (Ru a.nd s1 s2 s3) (wO (by simpa using hc)) #[rfl] #[rfl]
 .obtain⟨i,hi,h⟩;obtain⟨j,hj,h⟩;let⟨hc,h⟩:=aU.mp h
  obtain⟨f1,h1,h⟩;cases h;simp![auU,avb]at hc;exact ajP a.calm a.nd (lM a.toAmb hi) (lM a.toAmb hj) (os.og a h1) (wO hc.1) (Ld hc.2)
 .obtain⟨js,hj,h⟩;obtain⟨f1,h1,h⟩;cases h;let⟨xs,p1,p2,p3,p4,p5⟩:=anY a hj
  exact aoU a.calm a.nd p3 p1 p2 p4 (vH o a.toAmb h1).1 p5 (wO rfl)
 .obtain⟨js,hj,h⟩;let⟨hc,h⟩:=aU.mp h
  obtain⟨f1,h1,h⟩;cases h;simp![auU,avb]at hc;exact abK (os.og a h1) (ahs a.calm a.nd (WW a.toAmb hj)) (wO hc.1) (Ld hc.2) #[rfl]
 .obtain⟨j,hj,h⟩;let⟨hc,h⟩:=aU.mp h
  obtain⟨f1,h1,h⟩;obtain⟨fi,h2,h⟩;cases h;simp![auU,avb]at hc;let⟨s1,s2,s3,s4⟩:=qG a.toAmb hj
  exact aj1 s1 s2 s3 s4 (o.oe a.toAmb h1) (o.oe a.toAmb h2) (akA hc.2.2) (wO hc.2.1) #[rfl]
 .cases h
end
def ae0(s:Ts)(c:Tc):List Stmt->Option SF
 |[]=>some aG
 |[a]=>s.S c a
 |a::b::r=>(s.S c a).bind λf=>(s.B c (b::r)).bind λg=>some (ak f g)
def stS(t:Tr)(s:Ts)(c:Tc):Stmt->Option SF
 |.Assign [tg] e _=>aeO t s c tg e
 |.Assign [.Name x _,.Name y _] e _=>(vh c x).bind λi=>(vh c y).bind λj=>gd (!aeM e) ((s.G c e).bind λf=>some (Wv i j f))
 |.AugAssign (.Name x _) .Add e _=>(vh c x).bind λj=>(t.E c e).bind λf=>some (Jk j f)
 |.Expr (.Call (.Attribute (.Name x _) m apos) [e] [] pos) _=>(uI c x).bind λj=>gd (m=="append"&&(c.ml.contains x&&(nst e&&(apos.endLine==pos.line)))) ((t.E c e).bind λf=>some (Jq j f))
 |.Return (some e) _=>(match t.E c e with
  |some f=>some (aJ f)
  |none=>(s.G c e).bind λf=>some (cR f))
 |.If d s1 s2 _=>(s.B c s1).bind λf=>(s.B c s2).bind λg=>(t.T c d).bind λtd=>some (bh td f g)
 |.For tg iter body [] _=>(t.I c true tg iter).bind λit=>(G4 c tg).bind λjt=>(s.B c body).bind λf=>gd (!yG iter) (some (mX it jt.2 f))
 |_=>none
section
variable{aj:aM}{c:Tc}{X:Cx}{W:WX}{k:Nat}{t:Tr}{s:Ts}{q:Bool}
def aia(os:s.Ok q)(a:tH aj c X W k){b:List Stmt}{f:SF}(h:ae0 s c b=some f):Hh aj X W q b f:=by
 unfold ae0 at h;left
 .cases h;exact anw
 .exact anz (os.os a h)
 .obtain⟨f1,h1,h⟩;obtain⟨f2,h2,h⟩;cases h;exact ajV (os.os a h1) (os.ob a h2)
def ano(o:t.Ok)(os:s.Ok q)(a:tH aj c X W k){st:Stmt}{f:SF}(h:stS t s c st=some f):SE aj X W q st f:=by
 unfold stS at h;left
 .exact ai2 o os a h
 .obtain⟨i,hi,h⟩;obtain⟨j,hj,h⟩;let⟨hc,h⟩:=aU.mp h
  obtain⟨f1,h1,h⟩;cases h;exact akq a.nd (lM a.toAmb hi) (lM a.toAmb hj) (os.og a h1) #[rfl]
 .obtain⟨j,hj,h⟩;obtain⟨f1,h1,h⟩;cases h;let⟨s1,s2,s3⟩:=lM a.toAmb hj
  exact anI a.nd s1 s2 s3 (o.oe a.toAmb h1)
 .obtain⟨j,hj,h⟩;let⟨hc,h⟩:=aU.mp h
  obtain⟨f1,h1,h⟩;cases h;simp![auU]at hc;cases awj hc.1;let⟨s1,s2,s3,s4⟩:=qG a.toAmb hj
  exact amG s1 s2 s3 s4 (o.oe a.toAmb h1) hc.2.2.1 hc.2.2.2
 .left
  .next f1 h1=>
   cases h;exact anS (o.oe a.toAmb h1)
  .obtain⟨f1,h1,h⟩;cases h;exact akl (os.og a h1)
 .obtain⟨f1,h1,h⟩;obtain⟨f2,h2,h⟩;obtain⟨td,h3,h⟩;cases h;exact aoY (o.ot a.toAmb h3) (os.ob a h1) (os.ob a h2)
 .obtain⟨it,h1,h⟩;obtain⟨⟨js,tf⟩,h2,h⟩;obtain⟨f1,h3,h⟩;let⟨hc,h⟩:=aU.mp h
  cases h;exact aly a.ps a.calm (o.oi a.toAmb h1) (qL a.toAmb h2) (os.ob a h3) (oM (by simpa using hc))
 .cases h
end
abbrev GA:=Mo->Env->aZ (List Dat)
def al2(a:GF)(r:GA):GA:=λM Z=>(a M Z).bind λd M1=>(r M1 Z).bind λds M2=>.ok (d::ds) M2
def alF(m:Mo->List Dat->aZ Dat)(as:GA):GF:=λM Z=>(as M Z).bind λds M1=>m M1 ds
def amb(m:Mo->List Dat->Out Dat)(as:GA):GF:=λM Z=>(as M Z).bind λds M1=>(m M1 ds).at M1
section
variable{X:Cx}{aj:aM}{W:WX}{q:Bool}{a b e:Expr}{es:List Expr}{pos p:Pos}
variable{x:Str}{k:Nat}{f:Addr}{fd:FuncData}{ps:List Str}
def aoE(a:GT):GT:=λM Z=>(a M Z).bind λb M1=>.ok (!b) M1
def ao0(a b:GT):GT:=λM Z=>(a M Z).bind λx M1=>if x=true then b M1 Z else .ok false M1
def aqn(a b:GT):GT:=λM Z=>(a M Z).bind λx M1=>if x=true then .ok true M1 else b M1 Z
def aoQ(a:GF):GT:=λM Z=>(a M Z).bind λd M1=>(Lw d).at M1
end
section
variable{aj:aM}{c:Tc}{X:Cx}{W:WX}{k:Nat}{t:Tr}{s:Ts}{q:Bool}
def xG(t:Tr)(s:Ts)(c:Tc):Expr->Option GF
 |.Call (.Name x _) [] [] _=>(match c.G.lookup x with
  |some (.cls 0 m)=>gd (KH c.sc x&&!JG x) (some (Dm x m dD))
  |_=>none)
 |.Call (.Name x _) (e::es) [] _=>(match c.G.lookup x with
  |some (.fg n m)=>gd (KH c.sc x&&(!JG x&&decide ((e::es).length=n))) ((Kc t c (e::es)).bind λas=>some (yj m as))
  |some (.cls n m)=>gd (KH c.sc x&&(!JG x&&decide ((e::es).length=n))) ((Kc t c (e::es)).bind λas=>some (Dm x m as))
  |_=>none)
 |.Call (.Attribute o m apos) es [] pos=>(c.hs.Ms.lookup m).bind λtb=>(t.W c o).bind λfo=>(Kc t c es).bind λas=>
  gd (tbN tb (es.length+1)&&(baseOk o&&(decide (es.length<30)&&(apos.endLine==pos.line)))) (some (bO tb fo as))
 |_=>none
def apG(o:t.Ok)(os:s.Ok false)(a:tH aj c X W k){e:Expr}{f:GF}(h:xG t s c e=some f):GE aj X W false e f:=by
 unfold xG at h;left
 .left
  .next m hl=>
   let⟨hb,h⟩:=aU.mp h
   cases h;simp![auU,avb]at hb;exact als a.rm (a.gl _ _ hl) (wj a.toAmb hb.1) (wg hb.2).1
  .cases h
 .left
  .next n m hl=>
   let⟨hb,h⟩:=aU.mp h
   simp![auU,avb,awc]at hb;let⟨b1,b2,b3⟩:=hb
   let⟨fa,hm,hk,fd,ps,j,hj,hp,hB,F⟩:=a.gl _ _ hl
   obtain⟨as,h1,h⟩;cases h;let⟨i1,i2,i3⟩:=vH o a.toAmb h1
   exact akr (a.tw hl rfl) F (a.rm.mono hj) (wj a.toAmb b1) hm hk hB i1 (b3.trans hp.symm) (wg b2).1 i2 i3
  .next n m hl=>
   let⟨hb,h⟩:=aU.mp h
   simp![auU,avb,awc]at hb;let⟨b1,b2,b3⟩:=hb
   obtain⟨as,h1,h⟩;cases h;let⟨i1,i2,i3⟩:=vH o a.toAmb h1
   exact am0 a.rm (a.gl _ _ hl) (wj a.toAmb b1) (wg b2).1 i1 i2 (λM Z ds z=>by rw[i3 M Z ds z];exact b3)
  .cases h
 .next b m apos es pos=>
  obtain⟨tb,h1,h⟩;obtain⟨fo,h2,h⟩;obtain⟨as,h3,h⟩;let⟨hb,h⟩:=aU.mp h
  cases h;simp![auU,awc]at hb;let⟨b2,b3,b4,b5⟩:=hb
  let⟨i1,i2,i3⟩:=vH o a.toAmb h3
  cases es with
  |nil=>
   cases h3;exact ahV (a.tm h1) a.rm (aar a.toAmb h1 b2) (o.ow a.toAmb h2) b3 b5
  |cons e es=>exact alj (a.tm h1) a.rm (aar a.toAmb h1 b2) (o.ow a.toAmb h2) i1 i3 b3 i2 b5 b4
 .cases h
def Lf{e o:Expr}{f:Str}{p:Pos}{l:Nat}{env:PySem.Env}:swapsWith e (some (.Attribute o f p)) l env=pure false:=by cases e<;>rfl
def abd{e o:Expr}{i:Expr}{p:Pos}{l:Nat}{env:PySem.Env}:swapsWith e (some (.Subscript o i p)) l env=pure false:=by cases e<;>rfl
def aii{o:Expr}{f:Str}{p spos:Pos}{i:Expr}{env:PySem.Env}(h:Ou i=false):∀v,assign (.Subscript (.Attribute o f p) i spos) env v=(do
   let ov <-holding [v] (eval (.Attribute o f p) env)
   let iv <-holding [v,ov] (eval i env)
   standAt spos
   holding [v,ov,iv] (setItem ov iv v)
   release [v,ov,iv] []):=λv=>by
 cases i<;>first | (with_unfolding_all rfl) | cases h
def anM(t:Tr)(c:Tc)(kx tg iter:Expr)(scope:Scope):Option (Mo->Env->Out (List (Dat×Dat))):=
 (t.I c false tg iter).bind λit=>(G4 (c.inn scope) tg).bind λjt=>(t.E (c.inn scope) kx).bind λte=>
  gd (blkC c.N c.sc scope (lg tg jt.1)&&(K9 jt.1 ((lg tg jt.1).map (·.2))&&!yG iter)) (some (qDc it jt.2 ((lg tg jt.1).map (·.2)) te))
def Xb(a:Amb aj c X W k):X.A.units+64<cLine:=by have:=a.rm.un;omega
def ahF(t:Tr)(s:Ts)(c:Tc)(o:Expr)(f:Str):Expr->Option SF
 |.Dict [] [] _=>(t.W c o).bind λfo=>(c.hs.df.lookup f).bind λb=>some (QV c.hs.ft fo f b)
 |.DictComp kx (.Constant (.bool true) _ _) [⟨tg,iter,[],0⟩] scope _=>(t.W c o).bind λfo=>(anM t c kx tg iter scope).bind λfe=>some (V6 c.hs.ft fo f fe)
 |.List es p=>(t.W c o).bind λfo=>(trN t c (.List es p)).bind λfe=>some (Hw c.hs.ft fo f fe)
 |e=>gd (!DP e) ((t.W c o).bind λfo=>(s.G c e).bind λfe=>some (wV c.hs.ft fo f fe))
def ajY(ot:t.Ok)(os:s.Ok false)(a:tH aj c X W k){o e:Expr}{f:Str}{p pos:Pos}{sf:SF}(h:ahF t s c o f e=some sf):SE aj X W false (.Assign [.Attribute o f p] e pos) sf:=by
 have hk:=a.hk;unfold ahF at h;left
 .obtain⟨fo,h1,h⟩;obtain⟨b,h2,h⟩;cases h;exact akg hk.co hk.fk hk.hw (ot.ow a.toAmb h1) Lf
 .obtain⟨fo,h1,h⟩;obtain⟨fe,h2,h⟩;cases h;unfold anM at h2;let⟨it,i1,h2⟩:=auW.mp h2
  let⟨⟨js,tf⟩,i2,h2⟩:=auW.mp h2
  let⟨te,i3,h2⟩:=auW.mp h2
  let⟨hb,h2⟩:=aU.mp h2
  cases h2;simp![auU,avb]at hb;let⟨b1,b2,b3⟩:=hb
  exact ajN hk.co hk.fk (ot.ow a.toAmb h1) (amt (g:=xJ X.K aj js tf) (tk:=tQ X.K aj WF te) a.calm a.nd (Xb a.toAmb) (ot.oi a.toAmb i1) (blkOk_by (by rw[a.hN,a.hs];exact b1)) (λs H C cl fp=>qL (a.toAmb.inn _ s H C cl fp) i2) (λs H C cl fp=>ot.oe (a.toAmb.inn _ s H C cl fp) i3) (oM b3)) (λσ H Q z=>apC hk.hw (oK b2) σ H Q z) Lf
 .obtain⟨fo,h1,h⟩;obtain⟨fe,h2,h⟩;cases h;exact alf hk.co hk.fk (ot.ow a.toAmb h1) (afY ot a.toAmb h2).1 Lf
 .let⟨hc,h⟩:=aU.mp h
  obtain⟨fo,h1,h⟩;obtain⟨fe,h2,h⟩;cases h;exact ajW hk.co hk.fk (ot.ow a.toAmb h1) (os.og a h2) Lf
def abz(n:Str):List Expr->Option (List Str)
 |[]=>some []
 |.Attribute (.Name m _) f _::es=>gd (m==n) ((abz n es).bind λfs=>some (f::fs))
 |_=>none
def ae5(nm:Option Str):Expr->Option Ih
 |.Constant (.str x) _ _=>some (.con (.str x))
 |.Constant .none _ _=>some (.con .none)
 |.Tuple [] _ _=>some (.con (.tuple []))
 |.Attribute (.Name m _) f _=>nm.bind λn=>gd (m==n) (some (.fld f))
 |.Tuple es _ _=>nm.bind λn=>(abz n es).bind λfs=>some (.flds fs)
 |_=>none
def Ih.fs:Ih->List Str
 |.con _=>[]
 |.fld f=>[f]
 |.flds fs=>fs
def ae3(c:Tc)(nm:Option Str):List Stmt->Option (List (Nat×Ih))
 |[]=>some []
 |.Assign [.Name x _] e _::r=>(vh c x).bind λj=>(ae5 nm e).bind λse=>(ae3 c nm r).bind λst=>some ((j,se)::st)
 |_=>none
def XQ(c:Tc):Option Str->Option (Option Nat)
 |none=>some none
 |some n=>(uI c n).bind λi=>match c.sc.names.lookup n with
  |some .local=>some (some i)
  |_=>none
def aoj(c:Tc):ExceptHandler->Option Hd
 |.ExceptHandler (some (.Name y _)) nm (s0::su) _=>(c.hs.xm.lookup y).bind λtab=>(XQ c nm).bind λi=>(ae3 c nm (s0::su)).bind λst=>
  (match c.G.lookup y with
  |some .exc=>some true
  |some (.exi _)=>some true
  |_=>none).bind λ_=>
  gd (KH c.sc y&&(!JG y&&(st.all (λp=>match i with
   |some j=>!(j==p.1)
   |none=>true)&&st.all (λp=>p.2.fs.all (λf=>((c.hs.xf.lookup y).getD []).contains f)&&decide (p.2.fs.length<=100))))) (some ⟨y,λx=>tab.lookup x,i,st⟩)
 |_=>none
def Vl(c:Tc):List ExceptHandler->Option (List Hd)
 |[]=>some []
 |h::hs=>(aoj c h).bind λd=>(Vl c hs).bind λds=>some (d::ds)
theorem adK{y n:Str}{C:Addr}{a:Addr}{oe:Obj}{cls:Value}{d:Option Addr}{pn:List (Addr×Obj)}{j:Nat}{fl:List Str}(hC:aj y=some C)(T:XfC X.K C)(hno:∀f∈fl,PySem.W.findIn X.K (.ref C) f=some none)(hz:Zc cls d oe)(hf:∃vs,oe.data=.fields vs)(hN:X.N[j]?=some n)(hv:Vis X.env.scope n)(hd:(n==("__debug__" : Str))=false)(hcd:(n==("__classdict__" : Str))=false) :
  ∀{es:List Expr} {fs:List Str},abz n es=some fs->(∀f∈fs,f∈fl)->PA (X.suite a ((a,oe)::pn)) es (tUA X.K aj a cls d (some j) λx=>Vb y x fs)
 |[],fs,h,_=>by
  cases h;exact af9
 |.Attribute (.Name m p) f p2::es,fs,h,hs=>by
  rw[abz]at h;let⟨hm,h⟩:=aU.mp h
  obtain⟨fr,h1,h⟩;cases h;cases awj hm;exact akm (ahz hC T (hno f (hs f auX)) hz hf hN hv hd hcd) (adK hC T hno hz hf hN hv hd hcd h1 λf hf=>hs f (auY _ hf)) rfl
def akL{y:Str}{nm:Option Str}{i:Option Nat}{a:Addr}{oe:Obj}{cls:Value}{d:Option Addr}{pn:List (Addr×Obj)}{e:Expr}{se:Ih}(am:Amb aj c X W k)(hi:XQ c nm=some i)(hy:(c.hs.xf.lookup y).getD []=fl)(hfl:∀f∈se.fs,f∈fl)(hl:se.fs.length<=100)(hz:Zc cls d oe)(hf:∃vs,oe.data=.fields vs)(h:ae5 nm e=some se) :
  PE (X.suite a ((a,oe)::pn)) e (tU X.K aj a cls d i λx=>ab5 y x se):=by
 have fld:∀n j,nm=some n->i=some j->X.N[j]?=some n/\Vis X.env.scope n/\(n==("__debug__" : Str))=false/\(n==("__classdict__" : Str))=false:=λn j e1 e2=>by
  subst e1 e2;unfold XQ at hi;let⟨j',h1,hi⟩:=auW.mp hi
  split at hi
  .cases hi;exact qG am h1
  .cases hi
 have hsome:∀n,nm=some n->∃j,i=some j:=λn e1=>by
  subst e1;unfold XQ at hi;let⟨j',h1,hi⟩:=auW.mp hi
  split at hi
  .cases hi;exact⟨_,rfl⟩
  .cases hi
 have hxf:fl≠[]->∃C,aj y=some C/\XfC X.K C/\∀f∈fl,PySem.W.findIn X.K (.ref C) f=some none:=λne=>by
  cases hx:c.hs.xf.lookup y with
  |none=>
   rw[hx]at hy;exact absurd hy.symm ne
  |some l=>
   rw[hx]at hy;cases hy;exact am.hk.xf y _ hx
 unfold ae5 at h;left
 .cases h;exact af5 pe_str λσ H Q ⟨g,Z,M,x,z,I,e,kk⟩=>by
   cases e;exact kk _ H (Ex.refl H) (.str _)
 .cases h;exact af5 pe_non λσ H Q ⟨g,Z,M,x,z,I,e,kk⟩=>by
   cases e;exact kk _ H (Ex.refl H) .non
 .cases h;exact PE.weak (ahe (aj:=aj) (cls:=cls) (d:=d) (i:=i) af9 λx zs e=>by cases e;exact avv _) λσ H Q z=>z
 .obtain⟨n,e1,h⟩;let⟨hm,h⟩:=aU.mp h
  cases h;cases awj hm;let⟨j,rfl⟩:=hsome _ e1
  let⟨f1,f2,f3,f4⟩:=fld _ j e1 rfl
  let⟨C,c1,c2,c3⟩:=hxf (List.ne_nil_of_mem (hfl _ (au0.mpr rfl)))
  exact ahz c1 c2 (c3 _ (hfl _ (au0.mpr rfl))) hz hf f1 f2 f3 f4
 .next es _ _ hne=>
  obtain⟨n,e1,h⟩;obtain⟨fs,e2,h⟩;cases h;let⟨j,rfl⟩:=hsome _ e1
  let⟨f1,f2,f3,f4⟩:=fld _ j e1 rfl
  have hfs:fs≠[]:=λz=>by
   subst z
   match es,e2 with
   |[],_=>exact hne rfl
   |.Attribute (.Name m _) f _::es,e2=>
    rw[abz]at e2;let⟨_,e2⟩:=aU.mp e2
    let⟨_,_,e2⟩:=auW.mp e2
    cases e2
  have hfn:fl≠[]:=by
   cases fs with
   |nil=>exact absurd rfl hfs
   |cons f r=>exact List.ne_nil_of_mem (hfl f auX)
  let⟨C,c1,c2,c3⟩:=hxf hfn
  exact ahe (adK c1 c2 c3 hz hf f1 f2 f3 f4 e2 hfl) λx zs e=>by
   have:=Zy e;have hl:fs.length<=100:=hl;omega
 .cases h
theorem Xg{y:Str}{nm:Option Str}{i:Option Nat}{a:Addr}{oe:Obj}{cls:Value}{d:Option Addr}{pn:List (Addr×Obj)}{fl:List Str}(am:Amb aj c X W k)(hi:XQ c nm=some i)(hy:(c.hs.xf.lookup y).getD []=fl)(hz:Zc cls d oe)(hf:∃vs,oe.data=.fields vs) :
  ∀{ss:List Stmt} {st:List (Nat×Ih)},ae3 c nm ss=some st->(∀p∈st,(∀f∈p.2.fs,f∈fl)/\p.2.fs.length<=100)->PSs (X.suite a ((a,oe)::pn)) ss (tSu X.K aj a cls d i y st)
 |[],st,h,_=>by
  cases h;exact PSs.weak pss_nil λD σ H z=>an1 z
 |.Assign [.Name x p] e p2::r,st,h,hs=>by
  rw[ae3]at h;obtain⟨j,h1,h⟩;obtain⟨se,h2,h⟩;obtain⟨st',h3,h⟩;cases h;let⟨s1,s2,s3⟩:=lM am h1
  let⟨u1,u2⟩:=hs (j,se) auX
  have he:=akL (a:=a) (pn:=pn) am hi hy u1 u2 hz hf h2;have hne:DP e=false/\swappedStores [.Name x p] e X.env=pure none:=by unfold ae5 at h2;split at h2<;>first | exact⟨rfl,rfl⟩ | cases h2
  refine PSs.weak (pss_cons (ps_asg he (pg_name (X:=X.suite a ((a,oe)::pn)) am.nd s1 s2 s3) (wO hne.1) hne.2 #[rfl]) (Xg am hi hy hz hf h3 λp hp=>hs p (auY _ hp))) λD σ H z=>?_;exact amS z λσ' H' z'=>z'
def aqI(aj:aM)(K:auT)(h:Hd)(D:Addr):Cl:=⟨.ref D,h.nm,λa cls d=>tSu K aj a cls d h.nm h.y h.st⟩
theorem aby(am:Amb aj c X W k):∀{hds:List ExceptHandler} {hs:List Hd},Vl c hds=some hs->∃ls,Ek X hds ls/\J5 X.K aj hs ls
 |[],hs,h=>by
  cases h;exact⟨[],.nil,.nil⟩
 |h0::hds,hs,h=>by
  rw[Vl]at h;obtain⟨d,h1,h⟩;obtain⟨ds,h2,h⟩;cases h;let⟨ls,i1,i2⟩:=aby am h2
  unfold aoj at h1;split at h1
  .next y np nm s0 su cp=>
   let⟨tab,j1,h1⟩:=auW.mp h1
   let⟨i,j2,h1⟩:=auW.mp h1
   let⟨st,j3,h1⟩:=auW.mp h1
   let⟨_,j4,h1⟩:=auW.mp h1
   let⟨hb,h1⟩:=aU.mp h1
   cases h1;simp![auU,avb]at hb;let⟨b1,b2,b3,b4⟩:=hb
   let⟨⟨D,hD⟩,hx⟩:=am.hk.xm y tab j1
   have hm:X.mg y=some (.ref D):=by
    split at j4
    .next hl=>
     let⟨C,g1,g2,_⟩:=am.gl y _ hl
     rw[hD]at g2;cases g2;exact g1
    .next hl=>
     let⟨C,fI,fd,ps,g1,g2,_⟩:=am.gl y _ hl
     rw[hD]at g2;cases g2;exact g1
    .cases j4
   have hnames:Names X y (.ref D):=⟨wj am b1,(wg b2).1,.inl hm⟩;have hst:∀p∈st,(∀f∈p.2.fs,f∈(c.hs.xf.lookup y).getD [])/\p.2.fs.length<=100:=λp hp=>by
    have:=avl.mp b4 p hp;rw[auU,awc]at this;exact⟨λf hf=>by simpa using avl.mp this.1 f hf,this.2⟩
   have hnj:∀p∈st,i≠some p.1:=λp hp z=>by
    subst z;have:=avl.mp b3 p hp;simp at this
   refine⟨aqI aj X.K ⟨y,λx=>tab.lookup x,i,st⟩ D::ls,?_,.cons ⟨⟨D,hD,rfl⟩,hx,rfl,rfl,hnj⟩ i2⟩;cases nm with
   |none=>
    cases j2;exact .one hnames rfl (λa oe cls d pn hz hf=>Xg am rfl rfl hz hf j3 hst) i1
   |some n=>
    have j2':=j2;unfold XQ at j2;let⟨i',s1,j2⟩:=auW.mp j2
    split at j2
    .next hloc=>
     cases j2;refine .as hnames rfl (qG am s1).1 ?_ (λa oe cls d pn hz hf=>Xg am j2' rfl hz hf j3 hst) i1;unfold PySem.Env.kindOf;rw[am.hs];exact hloc
    .cases j2
  .cases h1
def ahP(a:Amb aj c X W k){h:ExceptHandler}{hds:List ExceptHandler}{hs:List Hd}(z:Vl c (h::hds)=some hs):Takes X W:=
 a.tk
theorem tH.tr(a:tH aj c X W k){W':WX}{pn:List (Addr×Obj)}{xe:Value->Shared->Prop}(t:Takes (X.tr pn xe) W')(p:PassesOwn (model X.prog X.w) X.A X.env xe):tH aj c (X.tr pn xe) W' k where
 hN:=a.hN
 hs:=a.hs
 calm:=a.calm
 nd:=a.nd
 tk:=t
 rm:=a.rm
 gl:=a.gl
 bl:=a.bl
 fn:=a.fn
 hk:=a.hk
 ps:=p
 st:=a.st
 fr:=a.fr
 kf:=a.kf
def xS(q:Bool)(t:Tr)(s:Ts)(c:Tc):Stmt->Option SF
 |.Raise (some (.Call (.Name x _) [] [] _)) none _=>(match c.G.lookup x with
  |some .exc=>gd (KH c.sc x&&!JG x) (some (fL x))
  |_=>none)
 |.Raise (some (.Call (.Name x _) (e::es) [] _)) none _=>(match c.G.lookup x with
  |some (.exi fs)=>(Kc t c (e::es)).bind λas=>gd (KH c.sc x&&(!JG x&&(decide ((e::es).length=fs.length)&&decide (fs.length<=1000)))) (some (Ey x fs as))
  |_=>none)
 |.Try body (h::hds) [] [] _=>(s.B c body).bind λf=>(Vl c (h::hds)).bind λhs=>some (Ux f hs)
 |.Pass _=>some aG
 |.Expr (.Call (.Attribute (.Attribute o f p1) m apos) [e] [] pos) epos=>(match q with
  |true=>(s.G c (.Call (.Attribute (.Attribute o f p1) m apos) [e] [] pos)).bind λf=>some (bR f)
  |false=>match m=="append" with
   |true=>gd (baseOk o&&(nst e&&(apos.endLine==pos.line))) ((t.W c o).bind λfo=>(s.G c e).bind λfe=>some (IW f fo fe))
   |false=>(s.G c (.Call (.Attribute (.Attribute o f p1) m apos) [e] [] pos)).bind λf=>some (bR f))
 |.Expr e _=>gd (!DP e) ((s.G c e).bind λf=>some (bR f))
 |.Assign [.Name x p] (.ListComp elt [⟨tg,iter,ifs,0⟩,⟨tg1,iter1,ifs1,0⟩] scope cpos) _=>(vh c x).bind λj=>
  gd (swB c.sc (.ListComp elt [⟨tg,iter,ifs,0⟩,⟨tg1,iter1,ifs1,0⟩] scope cpos) scope x p&&!c.ml.contains x) ((Vd t c elt tg iter ifs tg1 iter1 ifs1 scope).bind λf=>some (aV (aq j) (gOf f)))
 |.Assign [.Attribute o f _] e _=>(match q with
  |true=>none
  |false=>ahF t s c o f e)
 |.Assign [.Subscript (.Attribute o f _) i _] e _=>(match q with
  |true=>none
  |false=>gd (baseOk o&&(!Ou i&&!DP e)) ((t.W c o).bind λfo=>(t.E c i).bind λfi=>(t.E c e).bind λfe=>match c.hs.df.lookup f with
   |some _=>some (Q7 f fo fi fe)
   |none=>some (Vr f fo fi fe)))
 |.AugAssign (.Attribute o f _) .Add e _=>(match q with
  |true=>none
  |false=>(t.W c o).bind λfo=>(t.E c e).bind λfe=>some (Wm c.hs.ft f fo fe))
 |.Delete [.Subscript (.Attribute o f _) i _] _=>(match q with
  |true=>none
  |false=>gd (baseOk o) ((t.W c o).bind λfo=>(t.E c i).bind λfi=>some (Rv f fo fi)))
 |_=>none
def apx(o:t.Ok)(os:s.Ok q)(a:tH aj c X W k){st:Stmt}{f:SF}(h:xS q t s c st=some f):SE aj X W q st f:=by
 have hk:=a.hk;unfold xS at h;left
 .left
  .next hl=>
   let⟨hb,h⟩:=aU.mp h
   cases h;simp![auU,avb]at hb;exact aiw a.calm a.tk (wj a.toAmb hb.1) (wg hb.2).1 (a.gl _ _ hl)
  .cases h
 .left
  .next fs hl=>
   obtain⟨as,h1,h⟩;let⟨hb,h⟩:=aU.mp h
   cases h;simp![auU,avb,awc]at hb;let⟨b1,b2,b3,b4⟩:=hb
   let⟨i1,i2,i3⟩:=vH o a.toAmb h1
   exact ahk a.calm (a.tw hl rfl) a.rm (wj a.toAmb b1) (wg b2).1 (a.gl _ _ hl) i1 i2 (λM Z ds z=>by rw[i3 M Z ds z];exact b3) b4
  .cases h
 .obtain⟨f1,h1,h⟩;obtain⟨hs,h2,h⟩;cases h;let⟨ls,i1,i2⟩:=aby a.toAmb h2
  exact am4 a.st a.fr a.nd (ahP a.toAmb h2) (λW' pn xe t p=>os.ob (a.tr t p) h1) i1 i2
 .cases h;exact PS.weak ps_pass λD σ H ⟨g,Z,M,I,z⟩=>z σ H g .refl I
 .left
  .obtain⟨f1,h1,h⟩;cases h;exact Yq (os.og a h1) (KN rfl)
  .left
   .next hm=>
    let⟨hb,h⟩:=aU.mp h
    obtain⟨fo,h1,h⟩;obtain⟨fe,h2,h⟩;cases h;simp![auU]at hb;cases awj hm;exact ajJ hk.co (o.ow a.toAmb h1) hb.1 (os.og a h2) hb.2.1 hb.2.2
   .obtain⟨f1,h1,h⟩;cases h;exact Yq (os.og a h1) (KN rfl)
 .let⟨hb,h⟩:=aU.mp h
  obtain⟨f1,h1,h⟩;cases h;exact Yq (os.og a h1) (KN (by simpa using hb))
 .obtain⟨j,hj,h⟩;let⟨hsw,h⟩:=aU.mp h
  rw[auU]at hsw;obtain⟨f1,h1,h⟩;cases h;let⟨s1,s2,s3⟩:=lM a.toAmb hj
  have hsw:=hsw.1;rw[<-a.hs]at hsw;have l1:=(VN (l:=0) a.kf hsw).1;have l2:=λl=>(VN (l:=l) a.kf hsw).2;clear h;unfold Vd at h1;let⟨it,g1,h⟩:=auW.mp h1
  obtain⟨⟨js,tf⟩,h2,h⟩;obtain⟨tt,h3,h⟩;obtain⟨it1,h4,h⟩;obtain⟨⟨js1,tf1⟩,h5,h⟩;obtain⟨tt1,h6,h⟩;obtain⟨te,h7,h⟩;let⟨hb,h⟩:=aU.mp h
  cases h;simp![auU,avb]at hb;let⟨b1,b2,b3,b4,b5,b6⟩:=hb
  have am:=a.toAmb;exact aki a.calm a.nd s1 l1 (l2 _) (o.oi am g1) (by rw[a.hN,a.hs];exact b1) (oK b2) (oK b3) (oK b4) (λs H C cl fp=>qL (am.inn _ s H C cl fp) h2) (λs H C cl fp=>uM o (am.inn _ s H C cl fp) h3) (λs H C cl fp=>o.oi (am.inn _ s H C cl fp) h4) (λs H C cl fp=>qL (am.inn _ s H C cl fp) h5) (λs H C cl fp=>uM o (am.inn _ s H C cl fp) h6) (λs H C cl fp=>o.oe (am.inn _ s H C cl fp) h7) (oM b5) (λenv=>oM b6)
 .left
  .cases h
  .exact ajY o os a h
 .left
  .cases h
  .let⟨hb,h⟩:=aU.mp h
   obtain⟨fo,h1,h⟩;obtain⟨fi,h2,h⟩;obtain⟨fe,h3,h⟩;simp![auU,avb]at hb;let⟨b1,b2,b3⟩:=hb
   left
   .cases h;exact akF hk.co hk.hw (Xb a.toAmb) (o.ow a.toAmb h1) b1 (o.oe a.toAmb h2) (o.oe a.toAmb h3) abd
   .cases h;exact akZ hk.co (o.ow a.toAmb h1) b1 (o.oe a.toAmb h3) (o.oe a.toAmb h2) (aii b2) (wO b3) #[rfl]
 .left
  .cases h
  .obtain⟨fo,h1,h⟩;obtain⟨fe,h2,h⟩;cases h;exact akX hk.co hk.fk (o.ow a.toAmb h1) (o.oe a.toAmb h2)
 .left
  .cases h
  .let⟨hb,h⟩:=aU.mp h
   obtain⟨fo,h1,h⟩;obtain⟨fi,h2,h⟩;cases h;exact ak3 hk.co hk.hw (Xb a.toAmb) (o.ow a.toAmb h1) hb (o.oe a.toAmb h2)
 .cases h
end
def Ww{i j:Nat}(h:i≠j):Keeps j (aq i):=λd Z Z' e z=>by
 cases e;rw[au1 h];exact z
theorem Sy{j:Nat}:∀(js:List Nat) (ds:List Dat) (Z Z':Env),j∉js->rP js ds Z=some Z'->Z[j]?=some none->Z'[j]?=some none
 |[],[],Z,Z',_,e,z=>by
  cases e;exact z
 |[],_::_,_,_,_,e,_=>by cases e
 |_::_,[],_,_,_,e,_=>by cases e
 |i::js,d::ds,Z,Z',n,e,z=>Sy js ds (Z.set i #[d]) Z' (λy=>n (auY _ y)) e (by rw[au1 λy=>n (by rw[y];exact auX)];exact z)
def O7{c:Tc}{e:Expr}{js:List Nat}{tf:dY}{j:Nat}(h:G4 c e=some (js,tf))(n:j∉js):Keeps j tf:=by
 unfold G4 at h;left
 .obtain⟨i,h1,h⟩;cases h;exact Ww λz=>n (by rw[z];exact auX)
 .obtain⟨js',h1,h⟩;cases h;intro d Z Z' e z;unfold aX at e;split at e
  .exact Sy _ _ _ _ n e z
  .cases e
 .cases h
def ais{c:Tc}{e:Expr}{jt:List Nat×dY}{env:PySem.Env}(h:G4 c e=some jt):(assignEach [e] env).map (·.2)=[assign e env]:=by cases e<;>first | (with_unfolding_all rfl) | cases h
def xSD(t:Tr)(c:Tc)(x:Str)(j:Nat):Stmt->Option Am
 |.Assign [.Subscript (.Name y _) i _] e _=>gd (y==x) ((t.E c i).bind λfk=>(t.E c e).bind λfe=>some (Ut fk fe))
 |.Assign [.Tuple ts tk tp] (.Call (.Attribute (.Name y _) m apos) [k,z] [] cpos) _=>gd (y==x&&(m=="get"&&(nst k&&(nst z&&apos.endLine==cpos.line)))) ((G4 c (.Tuple ts tk tp)).bind λjt=>gd (!jt.1.contains j) ((t.E c k).bind λfk=>(t.E c z).bind λfz=>some (T5 fk fz jt.2)))
 |.Assign [.Name y _] e _=>(vh c y).bind λi=>gd (!(i==j)&&!DP e) ((t.E c e).bind λfe=>some (Ua fe (aq i)))
 |_=>none
def aeJ(t:Tr)(c:Tc)(x:Str)(j:Nat):List Stmt->Option Am
 |[]=>none
 |[s]=>xSD t c x j s
 |s::ss=>(xSD t c x j s).bind λf=>(aeJ t c x j ss).bind λf2=>some (Pb f f2)
def xDI(t:Tr)(c:Tc)(x:Str):Expr->Option DEF
 |.Subscript (.Name y _) e _=>gd (y==x&&!Ou e) ((t.E c e).bind λf=>some (Qh (JC f)))
 |e=>(t.E c e).bind λf=>some (JC f)
def xDE(t:Tr)(c:Tc)(x:Str):Expr->Option DEF
 |.BinOp a .Add b _=>(xDI t c x a).bind λf=>(xDI t c x b).bind λf2=>some (IK f f2)
 |_=>none
def aic(t:Tr)(c:Tc):List Stmt->Option SF
 |[.Assign [.Name x _] (.Dict [] [] _) _,.For tg iter body [] _,.Return (some (.ListComp elt [⟨tg2,.Call (.Name y _) [.Name z _] [] _,[],0⟩] scope _)) _]=>
  (vh c x).bind λj=>(uI c x).bind λj2=>(t.I c true tg iter).bind λit=>(G4 c tg).bind λjt=>(aeJ t c x j body).bind λf=>
  (G4 (c.inn scope) tg2).bind λjt2=>(uI (c.inn scope) x).bind λj3=>(xDE t (c.inn scope) x elt).bind λfe=>
  gd (j2==j&&(j3==j&&(z==x&&(vA c y "sorted"&&(!jt.1.contains j&&(!yG iter&&(blkC c.N c.sc scope (lg tg2 jt2.1)&&(K9 jt2.1 ((lg tg2 jt2.1).map (·.2))&&!((lg tg2 jt2.1).map (·.2)).contains j))))))))
   (some (M4 j (UJ it jt.2 f) (Qy Gu jt2.2 ((lg tg2 jt2.1).map (·.2)) fe)))
 |_=>none
section
variable{aj:aM}{c:Tc}{X:Cx}{W:WX}{k:Nat}{t:Tr}{x:Str}{j:Nat}
def afB(o:t.Ok)(a:tH aj c X W k)(hj:uI c x=some j){st:Stmt}{f:Am}(h:xSD t c x j st=some f):PS X st (tD X.K aj j f):=by
 let⟨s1,s2,s3,s4⟩:=qG a.toAmb hj
 unfold xSD at h;left
 .let⟨hb,h⟩:=aU.mp h
  obtain⟨fk,h1,h⟩;obtain⟨fe,h2,h⟩;cases h;cases awj hb;exact an3 (Xb a.toAmb) a.hk.hw s1 s2 s3 s4 (o.oe a.toAmb h1) (o.oe a.toAmb h2) abd
 .next kx z cp _=>
  let⟨hb,h⟩:=aU.mp h
  obtain⟨jt,h0,h⟩;let⟨hn,h⟩:=aU.mp h
  obtain⟨fk,h1,h⟩;obtain⟨fz,h2,h⟩;cases h;simp![auU]at hb;let⟨b1,b2,b3,b4,b5⟩:=hb
  cases awj b1;cases awj b2;have nj:j∉jt.1:=by simpa using hn
  refine aov (Xb a.toAmb) a.hk.hw s1 s2 s3 s4 (o.oe a.toAmb h1) (o.oe a.toAmb h2) ⟨mJ rfl,?_,b5,?_⟩ (qL a.toAmb h0) nj (O7 h0 nj) (wO rfl) (Ld rfl) (ais h0)
  .rw[Ud _ (by simp[b3,b4])];rfl
  .rw[bZ b3,bZ b4];rfl
 .obtain⟨i,hi,h⟩;let⟨hb,h⟩:=aU.mp h
  obtain⟨fe,h1,h⟩;cases h;simp![auU,avb,beq_eq_false_iff_ne]at hb;let⟨n1,n2,n3⟩:=lM a.toAmb hi
  exact amB (o.oe a.toAmb h1) (Ru a.nd n1 n2 n3) (by simpa using λz=>hb.1 z.symm) (Ww hb.1) (wO hb.2) #[rfl] #[rfl]
 .cases h
theorem adB(o:t.Ok)(a:tH aj c X W k)(hj:uI c x=some j):∀{ss:List Stmt} {f:Am},aeJ t c x j ss=some f->PSs X ss (tD X.K aj j f)
 |[],f,h=>by cases h
 |[s],f,h=>ak7 (afB o a hj h)
 |s::s2::ss,f,h=>by
  unfold aeJ at h;obtain⟨f1,h1,h⟩;obtain⟨f2,h2,h⟩;cases h;exact ahQ (afB o a hj h1) (adB o a hj h2)
def afz(o:t.Ok)(a:Amb aj c X W k)(hj:uI c x=some j){e:Expr}{f:DEF}(h:xDI t c x e=some f):PE X e (Ig X.K aj j f):=by
 let⟨s1,s2,s3,s4⟩:=qG a hj
 unfold xDI at h;left
 .let⟨hb,h⟩:=aU.mp h
  obtain⟨fe,h1,h⟩;cases h;rw[auU]at hb;cases awj hb.1;exact apk (Xb a) a.hk.hw s1 s2 s3 s4 (amr (o.oe a h1)) (TJ hb.2)
 .obtain⟨fe,h1,h⟩;cases h;exact amr (o.oe a h1)
def amI(o:t.Ok)(a:Amb aj c X W k)(hj:uI c x=some j){e:Expr}{f:DEF}(h:xDE t c x e=some f):PE X e (Ig X.K aj j f):=by
 unfold xDE at h;left
 .obtain⟨f1,h1,h⟩;obtain⟨f2,h2,h⟩;cases h;exact amo (afz o a hj h1) (afz o a hj h2)
 .cases h
def akf(o:t.Ok)(a:tH aj c X W k){q:Bool}{ss:List Stmt}{f:SF}(h:aic t c ss=some f):Hh aj X W q ss f:=by
 unfold aic at h;left
 .next x _ _ _ tg iter body _ elt tg2 y _ z _ _ scope _ _=>
  obtain⟨j,h1,h⟩;obtain⟨j2,h2,h⟩;obtain⟨it,h3,h⟩;obtain⟨jt,h4,h⟩;obtain⟨fb,h5,h⟩;obtain⟨jt2,h6,h⟩;obtain⟨j3,h7,h⟩;obtain⟨fe,h8,h⟩;let⟨hb,h⟩:=aU.mp h
  cases h;simp![auU,avb]at hb;let⟨b1,b2,b3,b4,b5,b6,b7,b8,b9⟩:=hb
  cases awj b1;cases awj b2;cases awj b3;let⟨rfl,g1,g2⟩:=oN a.toAmb b4
  let⟨n1,n2,n3⟩:=lM a.toAmb h1
  let⟨s1,s2,s3,s4⟩:=qG a.toAmb h2
  have nj:j∉jt.1:=by simpa using b5
  have nv:j∉(lg tg2 jt2.1).map (·.2):=by simpa using b9
  have hj:=oK b8;refine aiq a.hk.hw a.nd n1 n2 n3 (ani a.ps a.calm (o.oi a.toAmb h3) (qL a.toAmb h4) nj (O7 h4 nj) (adB o a h2 h5) (oM b6)) ?_;exact PE.weak (pe_lc (g:=xJ X.K aj jt2.1 jt2.2) (tt:=jx X.K aj WF fJ) (te:=Ig X.K aj j fe) a.calm a.nd (ali (akk (aeI a.toAmb) a.calm g1 g2 a.hk.hw s1 s2 s3 s4)) (blkOk_by (by rw[a.hN,a.hs];exact b7))
   (λs H C cl fp=>qL (a.toAmb.inn scope s H C cl fp) h6) (λs H C cl fp=>uM (ifs:=[]) o (a.toAmb.inn scope s H C cl fp) rfl) (λs H C cl fp=>amI o (a.toAmb.inn scope s H C cl fp) h7 h8) (oM rfl)) λσ H Q h=>amQ hj nv (O7 h6 λz=>nv (hj _ z)) σ H Q h
 .cases h
end
def tr0:Tr:=⟨λ_ _=>none,λ_ _=>none,λ_ _=>none,λ_ _ _ _=>none⟩
def aos(t:Tr):Tr:=⟨xtE t,xtW t,xtT t,xtI t⟩
def tr:Nat->Tr
 |0=>tr0
 |n+1=>aos (tr n)
theorem zQ:∀n,(tr n).Ok
 |0=>⟨λ_=>(by intro _ _ h;cases h),λ_=>(by intro _ _ h;cases h),λ_=>(by intro _ _ h;cases h),λ_=>(by intros;rename_i h;cases h)⟩
 |n+1=>⟨λa=>(by intro _ _ h;exact(vM h).elim (apt (zQ n) a) (alK (zQ n) a)),λa=>(by intro _ _ h;exact(vM h).elim (aoM (zQ n) a) (anc (zQ n) a)),λa=>(by intro _ _ h;exact(vM h).elim (ao2 (zQ n) a) (anW (zQ n) a)),λa=>(by intro _ _ _ _ h;exact(vM h).elim (apH (zQ n) a) (alR (zQ n) a))⟩
def ts0:Ts:=⟨λ_ _=>none,λ_ _=>none,λ_ _=>none,λ_ _=>none⟩
def ldG(q:Bool)(t:Tr)(s:Ts)(c:Tc)(e:Expr):Option GF:=match q with
 |true=>none
 |false=>xG t s c e
def ldH(_:Bool)(_:Ts)(_:Tc)(_:Expr):Option GT:=none
def anb(q:Bool)(t:Tr)(s:Ts):Ts:=⟨λc e=>els ((t.E c e).bind λf=>some (gOf f)) (ldG q t s c e),λc e=>els ((t.T c e).bind λf=>some (aiv f)) (ldH q s c e),λc e=>els (stS t s c e) (xS q t s c e),ae0 s⟩
def ts(q:Bool)(t:Tr):Nat->Ts
 |0=>ts0
 |n+1=>anb q t (ts q t n)
theorem QS{t:Tr}(o:t.Ok)(q:Bool):∀n,(ts q t n).Ok q
 |0=>⟨λ_=>(by intro _ _ h;cases h),λ_=>(by intro _ _ h;cases h),λ_=>(by intro _ _ h;cases h),λ_=>(by intros;rename_i h;cases h)⟩
 |n+1=>⟨λa=>by
   intro _ _ h;rcases vM h with h|h
   .obtain⟨f,h1,h⟩;cases h;exact ajB (o.oe a.toAmb h1)
   .cases q with
    |true=>cases h
    |false=>exact apG o (QS o false n) a h,λa=>by
   intro _ _ h;rcases vM h with h|h
   .obtain⟨f,h1,h⟩;cases h;exact aph (o.ot a.toAmb h1)
   ·(cases h),λa=>by
   intro _ _ h;rcases vM h with h|h
   .exact ano o (QS o q n) a h
   .exact apx o (QS o q n) a h,λa=>by
   intro _ _ h;exact aia (QS o q n) a h⟩
def rd(c:Tc)(b:List Stmt):Option SF:=els (aic (tr 40) c b) ((ts true (tr 40) 60).B c b)
def rdG(c:Tc)(b:List Stmt):Option SF:=(ts false (tr 40) 60).B c b
def Gy(P:Program)(w:World)(K:auT)(mg:Str->Option Value)(base:Heap)(aj:aM)(k:Nat):LsS GV->Prop
 |[]=>True
 |(x,v)::r=>pH P w K mg base aj k x v/\Gy P w K mg base aj k r
def Gn(mg:Str->Option Value):List Str->Prop
 |[]=>True
 |x::r=>mg x=none/\Gn mg r
section
variable{P:Program}{w:World}{K:auT}{mg:Str->Option Value}{base:Heap}{aj:aM}{k:Nat}
theorem Gy.get:∀{G:LsS GV},Gy P w K mg base aj k G->∀x v,G.lookup x=some v->pH P w K mg base aj k x v
 |[],_,x,v,h=>nomatch h
 |(y,u)::r,g,x,v,h=>by
  rw[avo]at h;left
  .next e=>
   cases h;rw[awj e];exact g.1
  .exact g.2.get x v h
theorem Gn.get:∀{B:List Str},Gn mg B->∀x,x∈B->mg x=none
 |[],_,x,h=>nomatch h
 |y::r,g,x,h=>by
  rcases au7.mp h with rfl|h
  .exact g.1
  .exact g.2.get x h
def abV{qual:Str}{st:Stmt}{f:Addr}{N ps ml B:List Str}{G:LsS GV}{Ms:Hs}(S:FnScope N ps (defScope st))(g:Gy P w K mg base aj k G)(b:Gn mg B)(hh:W8 P w K mg base aj k Ms)
  (cdv:Value) (A:Around) (outer:List PySem.Env) (s:Shared) (H:Hp) (E:XK) (hr:Room k (A.deeper (envOfC qual (defScope st) s.heap.objs.size f cdv))) :
  tH aj ⟨N,defScope st,G,B,Ms,ml,true⟩ (cxOf (L2.CX P w) P w K mg base N qual (defScope st) f cdv A outer s H E) (ahN E) k where
 hN:=rfl
 hs:=rfl
 calm:=rfl
 nd:=S.nd
 tk:=takes_of rfl rfl rfl rfl
 rm:=hr
 gl:=g.get
 bl:=b.get
 fn:=λ_ _=>rfl
 hk:=hh
 ps:=passes_of rfl
 st:=rfl
 fr:=rfl
 kf:=S.kind
def abS{x qual:Str}{st:Stmt}{f:Addr}{fd:FuncData}{N ps ml B:List Str}{G:LsS GV}{Ms:Hs}{body:SF}(F:Fun K x qual st f fd)(S:FnScope N ps (defScope st))(g:Gy P w K mg base aj k G)(b:Gn mg B)(hh:W8 P w K mg base aj k Ms)
  (h:rd ⟨N,defScope st,G,B,Ms,ml,true⟩ (defBody st)=some body):FnOk P w K mg base (L2.CX P w) (k+1) f fd ps (Ze K aj ps.length (mQ N.length body)):=
 ap8 F S λcdv A outer s H E hr=>(vM h).elim (akf (zQ 40) (abV S g b hh cdv A outer s H E hr)) ((QS (zQ 40) true 60).ob (abV S g b hh cdv A outer s H E hr))
def V7{x qual:Str}{st:Stmt}{f:Addr}{fd:FuncData}{N ps ml B:List Str}{G:LsS GV}{Ms:Hs}{body:SF}(F:Fun K x qual st f fd)(S:FnScope N ps (defScope st))(g:Gy P w K mg base aj k G)(b:Gn mg B)(hh:W8 P w K mg base aj k Ms)
  (h:rdG ⟨N,defScope st,G,B,Ms,ml,true⟩ (defBody st)=some body):FnOk P w K mg base (L2.CX P w) (k+1) f fd ps (Nv K aj ps.length (mG N.length body)):=
 aqo F S λcdv A outer s H E hr=>(QS (zQ 40) false 60).ob (abV S g b hh cdv A outer s H E hr) h
def amC{f:Addr}{fd:FuncData}{ps:List Str}{j:Nat}:FnOk P w K mg base (L2.CX P w) j f fd ps (Ze K aj ps.length λ_ _=>.bad):=
 ⟨λvs H Q E h=>h.1,λA outer s H args us vs Q E _ _ _ _ h=>by
  let⟨_,g,M,ds,_,_,_,z⟩:=h
  exact awb z⟩
def aiD{x:Str}{f:Addr}{fd:FuncData}{ps:List Str}{j:Nat}{m:Mo->List Dat->Out Dat}(hj:j<=k)(hg:mg x=some (.ref f))(hk:PySem.W.keepIn K (.ref f)=true)(hB:Binds K fd ps [])(F:FnOk P w K mg base (L2.CX P w) j f fd ps (Ze K aj ps.length m)):pH P w K mg base aj k x (.fq ps.length m):=
 ⟨f,hg,hk,fd,ps,j,hj,rfl,hB,F⟩
def Ov{x:Str}{i:Int}{t:Tok}(h:mg x=some (.int i t)):pH P w K mg base aj k x (.con (.int i)):=⟨.int i,_,h,⟨t,rfl⟩,λ_ _=>.int i,λ_ _ z=>nomatch z⟩
theorem Zo{g:Gh}{H:Hp}:∀{vs:List V} {ds:List Dat},(vs.zip ds).all (λp=>match p with
  |(.int i,.int j)=>decide (i=j)
  |(.str x,.str y)=>decide (x=y)
  |_=>false)=true->vs.length=ds.length->aF K g H vs ds
 |[],[],_,_=>.nil
 |[],_::_,_,h=>nomatch h
 |_::_,[],_,h=>nomatch h
 |v::vs,d::ds,h,hl=>by
  rw[avV,avw,auU]at h;refine .cons ?_ (Zo h.2 (avK hl));have h1:=h.1;split at h1
  .next e=>cases e;cases awd h1;exact .int _
  .next e=>cases e;cases awd h1;exact .str _
  .cases h1
def ald{a:Addr}(h:ab3 K a=true):∃o,K.lookup a=some o/\o.cls=.type "tuple"/\o.dict=none:=by
 unfold ab3 at h;left
 .next o e=>
  rw[auU]at h;refine⟨o,e,?_,Option.isNone_iff_eq_none.mp h.2⟩;have h1:=h.1;split at h1
  .next c ec=>rw[ec,awd h1]
  .cases h1
 .cases h
def afQ{x:Str}{a:Addr}{vs:List V}{ds:List Dat}(h:mg x=some (.ref a))(q:∀H:Hp,SqT K H a vs)(hf:(vs.zip ds).all (λp=>match p with
  |(.int i,.int j)=>decide (i=j)
  |(.str x,.str y)=>decide (x=y)
  |_=>false)=true) (hl:vs.length=ds.length) (hn:ab3 K a=true):pH P w K mg base aj k x (.con (.tuple ds)):=⟨.ref a,_,h,rfl,λ_ H=>.tup (q H) (Zo hf hl),λb _ e _=>by cases e;exact ald hn⟩
end
open PySem PySem.Spec PyProof.Rows L2
section
variable{fa:List He.Fa}{fn:List He.DefD}{tb:List He.Tab}{ex:auT->Bool}{w:World}{K:auT}
def Rr.qT(c:Rr fa fn tb ex w K)(i:Nat){f:He.Fa}(h:fa[i]?=some f:=by rfl):f.ok K=true:=c.t.d.fact i h
def Rr.Ys(c:Rr fa fn tb ex w K)(i:Nat){d:He.DefD}(h:fn[i]?=some d:=by rfl):∃fd,FunD K d.name d.qual d.params d.body d.scope (d.dvs K) (d.kws K) (He.fAd K d.at_) fd:=c.t.d.def_ i h
def Iz{x qual:Str}{st:Stmt}{f:Addr}{fd:FuncData}(F:FunD K x qual (defArgs st) (defBody st) (defScope st) [] [] f fd):L2.Fun K x qual st f fd:=by
 let⟨oc,od,dV,kV,doc,pm,an,cdv,ct,osl,e,l,c,hd,_⟩:=F.ex
 rcases hd with⟨_,z⟩|⟨z,_⟩
 .cases z;exact⟨⟨oc,od,kV,doc,pm,an,cdv,ct,osl,e,l,c⟩,F.kp⟩
 .exact absurd rfl z
end
def g0:Gh:=⟨[],λ_=>none,λ_=>False,λ_=>False⟩
def an6(a:Addr):¬g0.A a:=λz=>by
 rcases z with(z|z)|z|z
 .cases z
 .exact z rfl
 .exact z
 .exact z
def aps{H:Hp}:Kd g0 H:=⟨λa z=>absurd z (an6 a),λa z=>awb z,λa z=>awb z⟩
def aop{K:auT}{aj:aM}{H:Hp}(nc:aj ""=none):ig K aj g0 H []:=⟨rfl,λh k a e=>(by cases h<;>cases e),λh a i e=>(by cases h<;>cases e),λh i e=>(by cases h<;>cases e),λh i e=>(by cases h<;>cases e),λh a i e=>(by cases h<;>cases e),λh i e=>(by cases h<;>cases e),nc⟩
theorem Zi{K:auT}{g:Gh}{H:Hp}:∀ns:List Int,aF K g H (ns.map V.int) (ns.map PyData.int)
 |[]=>.nil
 |n::ns=>.cons (.int n) (Zi ns)
def anD{K:auT}{H:Hp}{a:Addr}{ns:List Int}(hS:SqL K H a (ns.map V.int)):aF K g0 H [.ref a] [.list (ns.map PyData.int)]:=by
 refine .cons (.lst ?_ (Zi ns)) .nil;rcases hS with h|h
 .exact .inl ⟨h,an6 a⟩
 .exact .inr h
def ape{K:auT}{aj:aM}(nc:aj ""=none){m:Mo->List Dat->aZ Dat}{H:Hp}{a:Addr}{ns:List Int}{M:Mo}(hS:SqL K H a (ns.map V.int))(h:m [] [.list (ns.map PyData.int)]=.ok (.bool true) M):Nv K aj 1 m [.ref a] H (λv _=>v=.bl true) λ_ _ _=>False:=
 ⟨rfl,g0,[],[.list (ns.map PyData.int)],aps,aop nc,anD hS,by
  rw[h];exact λv H' g' _ _ _ r=>by cases r;rfl⟩
section
variable{K:auT}{h:Heap}{mg:Str->Option Value}{w:World}
def qF(w:World)(K:auT)(xs:List Str)(ft:Ft):aM:=⟨λx=>match xs.contains x with
 |true=>some (He.ga K x)
 |false=>none,λc=>(ft.lookup c).getD [],w⟩
def Uy{xs:List Str}{ft:Ft}{x:Str}{C:Addr}(e:qF w K xs ft x=some C):C=He.ga K x:=by
 have e:(match xs.contains x with
  |true=>some (He.ga K x)
  |false=>none)=some C:=e
 split at e
 .exact(avi e).symm
 .cases e
def GZ{xs:List Str}{ft:Ft}{x:Str}(e:xs.contains x=true):qF w K xs ft x=some (He.ga K x):=by
 show(match xs.contains x with
  |true=>some (He.ga K x)
  |false=>none)=_
 rw[e]
def acp{ft:Ft}(hb:QL K ft=true){c:Str}{fs:List Str}(hl:ft.lookup c=some fs):Cls K (He.ga K c)/\∀f∈fs,NoAttr K (He.ga K c) f:=by
 let⟨h1,h2⟩:=He.ba (avl.mp hb _ (sO hl))
 exact⟨He.cls_ok h1,λf hf=>He.noat_ok (avl.mp h2 f hf)⟩
def afW{xs:List Str}{ft:Ft}(hb:QL K ft=true):j5 K (qF w K xs ft):=λc C f e hf=>by
 have e:=Uy e;subst e;have hf:f∈(ft.lookup c).getD []:=hf;cases hl:ft.lookup c with
 |none=>rw[hl]at hf;cases hf
 |some fs=>
  rw[hl]at hf;let⟨h1,h2⟩:=acp hb hl
  exact⟨h1,h2 f hf⟩
def ait{xs:List Str}{ft:Ft}:Oj ft (qF w K xs ft):=λc f e=>by
 unfold Ft.has at e;show f∈(ft.lookup c).getD [];split at e
 .next fs hl=>
  rw[hl];simpa using e
 .cases e
def xmN(xs:List Str)(xm:List (Str×LsS Bool)):Bool:=xm.all λp=>xs.contains p.1
def aoJ{xs:List Str}{ft:Ft}{xm:List (Str×LsS Bool)}(hb:xmB K xm=true)(hn:xmN xs xm=true)(y:Str)(tab:LsS Bool)(hl:xm.lookup y=some tab):(∃D,qF w K xs ft y=some D)/\aeH K (qF w K xs ft) y λx=>tab.lookup x:=by refine⟨⟨_,GZ (avl.mp hn _ (sO hl))⟩,λx b C e1 e2 D e3=>?_⟩;rw[Uy e2,Uy e3];exact He.exm_ok (avl.mp (avl.mp hb _ (sO hl)) _ (sO e1))
def ala{C:Addr}(hb:al8 K C=true):OexC K C:=by
 let⟨h1,h2⟩:=He.ba hb
 let⟨h2,h3⟩:=He.ba h2
 let⟨h3,h4⟩:=He.ba h3
 let⟨h4,h5⟩:=He.ba h4
 refine⟨?_,He.eqO_ok h2,awd h3,awd h4,h5⟩;split at h1
 .next t dd cd sl hl=>
  let⟨t1,h1⟩:=He.ba h1
  split at h1
  .next C' bm k0 k1 k2 k3 n k5 e1 e2=>
   let⟨a1,h1⟩:=He.ba h1
   let⟨a2,h1⟩:=He.ba h1
   let⟨a3,h1⟩:=He.ba h1
   let⟨a4,a5⟩:=He.ba h1
   have q1:=awd t1;have q2:=awd a1;have q3:=awd a2;have q4:cd.hasDel=false:=by simpa using a3
   have q5:sl=(List.toArray [k0,k1,k2,k3,some (.builtin n),k5]):=by rw[<-Array.toList_inj];exact e2
   let⟨nm,bs,mro,ns,qn,hd,sn,sub,ab,col,hdel⟩:=cd
   have e1:mro=.ref C'::bm:=e1;have q4:hdel=false:=q4;have a4:hd=true:=a4;subst q1 q2 q3 q4 q5 e1 a4;exact⟨nm,qn,ns,bs,bm,sn,sub,ab,col,dd,k0,k1,k2,k3,k5,hl,a5⟩
  .cases h1
 .cases h1
def Xy{x:Str}{fs:List Str}(hb:Xo K x fs=true):OexC K (He.ga K x)/\PySem.W.findIn K (.ref (He.ga K x)) "__init__"=some (some (.ref (He.ma K (He.ga K x) "__init__")))/\PySem.W.typeIn K (.ref (He.ma K (He.ga K x) "__init__"))=some (.type "function")/\XfC K (He.ga K x)/\∀f∈fs,PySem.W.findIn K (.ref (He.ga K x)) f=some none:=by
 let⟨h1,h2⟩:=He.ba hb
 let⟨h2,h3⟩:=He.ba h2
 let⟨h3,h4⟩:=He.ba h3
 let⟨h4,h5⟩:=He.ba h4
 exact⟨ala h1,He.eqO_ok h2,awd h3,xfB_ok h4,λf hf=>He.eqO_ok (avl.mp h5 f hf)⟩
def ah4{a:Addr}{xs:List Str}(hb:aal K a xs=true)(H:Hp):SqT K H a (xs.map V.str):=by
 unfold aal at hb;split at hb
 .next c d its n sl hl=>
  let⟨h1,h2⟩:=He.ba hb
  let⟨h3,h4⟩:=He.ba h2
  have q1:=awd h1;subst q1;exact .inr ⟨_,its,n,hl,rfl,rfl,awd h3,He.relAll_ok h4⟩
 .cases hb
def Cq(kvs:List (Str×List Str)):LsS Dat:=kvs.map λq=>(q.1,.tuple (q.2.map PyData.str))
theorem YG{g:Gh}{H:Hp}:∀xs:List Str,aF K g H (xs.map V.str) (xs.map PyData.str)
 |[]=>.nil
 |x::xs=>.cons (.str x) (YG xs)
theorem Wi{y:Str}:∀{kvs:List (Str×List Str)},(Cq kvs).lookup y=(kvs.lookup y).map λxs=>PyData.tuple (xs.map PyData.str)
 |[]=>rfl
 |(z,xs)::r=>by
  show List.lookup y ((z,PyData.tuple (xs.map PyData.str))::Cq r)=_;rw[avo,avo];split
  .rfl
  .exact Wi
theorem look_none{α:Type}{y:Str}:∀{kvs:List (Str×α)},kvs.lookup y=none->y∉kvs.map (·.1)
 |[],_=>by simp
 |(z,a)::r,h=>by
  rw[avo]at h;left
  .cases h
  .next hn=>
   rw[List.map_cons,au7]
   rintro(e|e)
   .subst e;simp at hn
   .exact look_none h e
def aj7{x:Str}{kvs:List (Str×List Str)}(hb:aiE K x kvs=true)(hk:∃es n,KDict K w (He.ga K x) es n):afl w K (He.ga K x) (Cq kvs):=by
 let⟨h1,h2⟩:=He.ba hb
 let⟨h2,h3⟩:=He.ba h2
 let⟨es,n,D⟩:=hk
 rw[D.at_]at h1;refine⟨es,n,D,?_,λy=>?_⟩
 .unfold Cq;rw[avh];exact awd h2
 .rw[Wi];cases hl:kvs.lookup y with
  |some xs=>
   have h4:=avl.mp h3 _ (sO hl);show ∃v u,PySem.W.nsIn K (He.ga K x) y=some (some u)/\RelV v u/\∀g H,Rep K g H v (.tuple (xs.map PyData.str));have h4:(match PySem.W.nsIn K (He.ga K x) y with
    |some (some (.ref a))=>aal K a xs
    |_=>false)=true:=h4
   split at h4
   .next a he=>exact⟨.ref a,.ref a,he,rfl,λg H=>.tup (ah4 h4 H) (YG xs)⟩
   .cases h4
  |none=>
   show PySem.W.nsIn K (He.ga K x) y=some none;have ny:=look_none hl;unfold PySem.W.nsIn;rw[D.at_];have h1:es.toList.all (λe=>(match e.key with
    |.str y _=>(kvs.map (·.1)).contains y
    |_=>false)&&!e.refKey)=true:=h1
   have f1:es.toList.find? (·.key.isStr y)=none:=by
    rw[List.find?_eq_none];intro e he z;let⟨a1,a2⟩:=He.ba (avl.mp h1 e he)
    split at a1
    .next y' tk hy=>
     rw[hy]at z;have z:(y'==y)=true:=z;have e':=awj z;subst e';exact ny (by simpa using a1)
    .cases a1
   have f2:es.toList.any (·.refKey)=false:=by
    rw[List.any_eq_false];intro e he z;let⟨a1,a2⟩:=He.ba (avl.mp h1 e he)
    rw[z]at a2;cases a2
   show(match es.toList.find? (·.key.isStr y) with
    |some e=>some (some e.val)
    |none=>if es.toList.any (·.refKey) then none else some none)=some none
   rw[f1,f2];rfl
end
section
variable{P:Program}{w:World}{K:auT}{mg:Str->Option Value}{base:Heap}{k:Nat}{xs:List Str}{ft:Ft}
def aaj(P:Program)(w:World)(K:auT)(mg:Str->Option Value)(base:Heap)(aj:aM)(k:Nat)(m:Str):List (Str×MV)->Prop
 |[]=>True
 |(c,v)::r=>Gq P w K mg base aj k c m v/\aaj P w K mg base aj k m r
def Jh(P:Program)(w:World)(K:auT)(mg:Str->Option Value)(base:Heap)(aj:aM)(k:Nat):List (Str×List (Str×MV))->Prop
 |[]=>True
 |(m,tb)::r=>aaj P w K mg base aj k m tb/\Jh P w K mg base aj k r
theorem aaj.get{aj:aM}{m:Str}:∀{tb:List (Str×MV)},aaj P w K mg base aj k m tb->∀c v,tb.lookup c=some v->Gq P w K mg base aj k c m v
 |[],_,c,v,h=>nomatch h
 |(y,u)::r,g,c,v,h=>by
  rw[avo]at h;left
  .next e=>
   cases h;rw[awj e];exact g.1
  .exact g.2.get c v h
theorem Jh.get{aj:aM}:∀{Ms:List (Str×List (Str×MV))},Jh P w K mg base aj k Ms->∀m tb,Ms.lookup m=some tb->∀c v,tb.lookup c=some v->Gq P w K mg base aj k c m v
 |[],_,m,tb,h=>nomatch h
 |(y,u)::r,g,m,tb,h=>by
  rw[avo]at h;left
  .next e=>
   cases h;rw[awj e];exact g.1.get
  .exact g.2.get m tb h
def aqu{aj:aM}{x:Str}{f:Addr}{fd:FuncData}{ps:List Str}{j:Nat}{m:Mo->List Dat->aZ Dat}(hj:j<=k)(hg:mg x=some (.ref f))(hk:PySem.W.keepIn K (.ref f)=true)(hB:Binds K fd ps [])(F:FnOk P w K mg base (L2.CX P w) j f fd ps (Nv K aj ps.length m)):pH P w K mg base aj k x (.fg ps.length m):=
 ⟨f,hg,hk,fd,ps,j,hj,rfl,hB,F⟩
def jm{x:Str}(hn:xs.contains x=true)(hg:mg x=some (.ref (He.ga K x)))(he:(He.Fa.exc x).ok K=true):pH P w K mg base (qF w K xs ft) k x .exc:=by
 let⟨h1,h2,h3,h4⟩:=He.exc_ok he
 exact⟨_,hg,GZ hn,h1,h2,h3,h4⟩
def aoa{x:Str}{fd:FuncData}{ps:List Str}{j n:Nat}{m:Mo->List Dat->aZ Dat}(hj:j+1<=k)(hn:xs.contains x=true)(hg:mg x=some (.ref (He.ga K x)))(hc:Cls K (He.ga K x))(hm:(He.Fa.mkr x).ok K=true)(hp:ps.length=n+1)(hB:Binds K fd ps [])
  (F:FnOk P w K mg base (L2.CX P w) j (He.ma K (He.ga K x) "__init__") fd ps (Nv K (qF w K xs ft) ps.length m)):pH P w K mg base (qF w K xs ft) k x (.cls n m):=
 ⟨_,_,fd,ps,j,hg,GZ hn,hc,He.mkr_ok hm,hj,hp,hB,F⟩
def alT{aj:aM}{x:Str}{kvs:List (Str×List Str)}(hg:mg x=some (.ref (He.ga K x)))(hb:aiE K x kvs=true)(hk:∃es n,KDict K w (He.ga K x) es n):pH P w K mg base aj k x (.dic (Cq kvs)):=⟨_,hg,aj7 hb hk⟩
def alA{x:Str}{fs:List Str}{fd:FuncData}{ps:List Str}(h2:2<=k)(hn:xs.contains x=true)(hg:mg x=some (.ref (He.ga K x)))(ho:Xo K x fs=true)(hp:ps.length=fs.length+1)(hB:Binds K fd ps [])(F:FnOk P w K mg base CX0 1 (He.ma K (He.ga K x) "__init__") fd ps (ahW (He.ga K x) fs)):pH P w K mg base (qF w K xs ft) k x (.exi fs):=by
 let⟨h1,h3,h4,_,_⟩:=Xy ho
 exact⟨_,_,fd,ps,hg,GZ hn,h1,h3,h4,h2,hp,hB,F⟩
def ajm{m:Str}{l:List Str}(hf:l.contains m=false)(z:m∈l):False:=by rw[List.contains_iff_mem.mpr z]at hf;cases hf
def aqM{c m:Str}{fd:FuncData}{ps:List Str}{j:Nat}{mm:Mo->List Dat->Out Dat}(hj:j<=k)(hn:xs.contains c=true)(hc:Cls K (He.ga K c))(hm:(He.Fa.meth c m).ok K=true)(hf:((ft.lookup c).getD []).contains m=false)(hB:Binds K fd ps [])(F:FnOk P w K mg base (L2.CX P w) j (He.ma K (He.ga K c) m) fd ps (Ze K (qF w K xs ft) ps.length mm)):Gq P w K mg base (qF w K xs ft) k c m (.q ps.length mm):=
 ⟨_,_,GZ hn,hc,He.meth_ok hm,(λz=>ajm hf z),fd,ps,j,hj,rfl,hB,F⟩
def aqy{c m:Str}{fd:FuncData}{ps:List Str}{j:Nat}{mm:Mo->List Dat->aZ Dat}(hj:j<=k)(hn:xs.contains c=true)(hc:Cls K (He.ga K c))(hm:(He.Fa.meth c m).ok K=true)(hf:((ft.lookup c).getD []).contains m=false)(hB:Binds K fd ps [])(F:FnOk P w K mg base (L2.CX P w) j (He.ma K (He.ga K c) m) fd ps (Nv K (qF w K xs ft) ps.length mm)):Gq P w K mg base (qF w K xs ft) k c m (.g ps.length mm):=
 ⟨_,_,GZ hn,hc,He.meth_ok hm,(λz=>ajm hf z),fd,ps,j,hj,rfl,hB,F⟩
def aoN{Ms:List (Str×List (Str×MV))}{xm:List (Str×LsS Bool)}{df:LsS Bool}{xf:List (Str×List Str)}(hm:Jh P w K mg base (qF w K xs ft) k Ms)(hb:QL K ft=true)(hx:xmB K xm=true)(hn:xmN xs xm=true)(hf:(xf.all λp=>xs.contains p.1&&Xo K p.1 p.2)=true):W8 P w K mg base (qF w K xs ft) k ⟨Ms,ft,xm,df,xf⟩ where
 ms:=hm.get
 fk:=ait
 co:=afW hb
 hw:=rfl
 xm:=aoJ hx hn
 xf:=λy fs hl=>by
  let⟨h1,h2⟩:=He.ba (avl.mp hf _ (sO hl))
  let⟨_,_,_,h3,h4⟩:=Xy h2
  exact⟨_,GZ h1,h3,h4⟩
end
abbrev lI(l:List Int):Dat:=.list (l.map PyData.int)
abbrev aH(l:List Int):Dat:=.tuple (l.map PyData.int)
def fG{tg:dY}{body:SF}{d:Dat}{ds:List Dat}{M M2:Mo}{Z Z1 Z2:Env}(h1:tg d Z=some Z1)(h2:body M Z1=.next Z2 M2):eY tg body (d::ds) M Z=eY tg body ds M2 Z2:=by
 rw[eY,h1]
 show(match body M Z1 with
   |.next Z2 M2=>eY tg body ds M2 Z2
   |.cont Z2 M2=>eY tg body ds M2 Z2
   |.brk Z2 M2=>.next Z2 M2
   |.ret d M2=>.ret d M2
   |.exc x Z2 M2=>.exc x Z2 M2
   |.bad=>.bad)=_
 rw[h2]
theorem gj{α:Type}{tg:dY}{tt:QT}{te:QF}{M:Mo}{Z:Env}(ds:α->Dat)(p:α->Bool)(f:α->Dat):∀(xs:List α),(∀x∈xs,∃Z1,tg (ds x) Z=some Z1/\tt M Z1=.ok (p x)/\(p x=true->te M Z1=.ok (f x)))->cI tg tt te M Z (xs.map ds)=.ok ((xs.filter p).map f)
 |[],_=>rfl
 |x::xs,h=>by
  let⟨Z1,h1,h2,h3⟩:=h x auX
  have ih:=gj ds p f xs λy hy=>h y (auY _ hy);rw[List.map_cons,cI,h1]
  show((zq (tt M Z1)).bind λb=>if b=true then(zq (te M Z1)).bind λy=>(cI tg tt te M Z (xs.map ds)).bind λr=>.ok (y::r) else cI tg tt te M Z (xs.map ds))=_
  rw[h2,ih];cases hp:p x with
  |true=>
   show(if true=true then(zq (te M Z1)).bind λy=>(Out.ok ((xs.filter p).map f)).bind λr=>.ok (y::r) else Out.ok ((xs.filter p).map f))=_
   rw[h3 hp,awg rfl,List.filter_cons_of_pos hp];rfl
  |false=>
   show(if false=true then(zq (te M Z1)).bind λy=>(Out.ok ((xs.filter p).map f)).bind λr=>.ok (y::r) else Out.ok ((xs.filter p).map f))=_
   rw[awh #[()],List.filter_cons_of_neg (by rw[hp];decide)]
def dw{α:Type}{tg:dY}{te:QF}{M:Mo}{Z:Env}(ds:α->Dat)(f:α->Dat)(xs:List α)(h:∀x∈xs,∃Z1,tg (ds x) Z=some Z1/\te M Z1=.ok (f x)):cI tg fJ te M Z (xs.map ds)=.ok (xs.map f):=by
 have:=gj (tt:=fJ) ds (λ_=>true) f xs λx hx=>by
  let⟨Z1,h1,h2⟩:=h x hx
  exact⟨Z1,h1,rfl,λ_=>h2⟩
 rw[this,av2.mpr (λ_ _=>rfl)]
def ajj{i j:Int}(h : -(2^64)<i/\i<2^64):decide (CMul i j)=true:=decide_eq_true (.inl h)
def mul_r{i j:Int}(h : -(2^64)<j/\j<2^64):decide (CMul i j)=true:=decide_eq_true (.inr h)
section
variable(M:Mo)(Z:Env)
@[simp]theorem aoe (f k:SF):ak f k M Z=match f M Z with
 |.next Z' M'=>k M' Z'
 |o=>o:=rfl
@[simp]theorem aq7:aG M Z=.next Z M:=rfl
@[simp]theorem asT (tg:dY) (f:GF):aV tg f M Z=(f M Z).then Z λd M'=>match tg d Z with
 |some Z'=>.next Z' M'
 |none=>.bad:=rfl
@[simp]theorem arN (i j:Nat) (f:GF):Wv i j f M Z=(f M Z).then Z λd M'=>.next ((Z.set i #[d]).set j #[d]) M':=rfl
@[simp]theorem ev_if (t:QT) (f k:SF):bh t f k M Z=((t M (uW Z)).at M).then Z λc M'=>if c=true then f M' Z else k M' Z:=rfl
@[simp]theorem atl (f:QF):aJ f M Z=((f M (uW Z)).at M).then Z λd M'=>.ret d M':=rfl
@[simp]theorem atc (it:IF) (tg:dY) (body:SF):mX it tg body M Z=((it M Z).at M).then Z λds M'=>eY tg body ds M' Z:=rfl
@[simp]theorem ati (j:Nat) (f:IF):zJ j f M Z=((f M Z).at M).then Z λxs M'=>.next (Z.set j (some (.mut xs))) M':=rfl
@[simp]theorem arl (f:GF):bR f M Z=(f M Z).then Z λ_ M'=>.next Z M':=rfl
@[simp]theorem aue (j:Nat) (f:QF):Jq j f M Z=match Z[j]? with
 |some (some (.mut xs))=>((f M Z).at M).then Z λd M'=>if xs.length<100000 then .next (Z.set j (some (.mut (xs++[d])))) M' else .bad
 |_=>.bad:=rfl
@[simp]theorem ard (j:Nat) (fi f:QF):Wt j fi f M Z=match Z[j]? with
 |some (some (.mut xs))=>((f M Z).at M).then Z λd M'=>((fi M' Z).at M').then Z λi M2=>match i with
  |.int k=>match ixN xs.length k with
   |some n=>.next (Z.set j (some (.mut (xs.set n d)))) M2
   |none=>.bad
  |_=>.bad
 |_=>.bad:=rfl
@[simp]theorem asN (j:Nat) (f:QF):Jk j f M Z=match Z[j]? with
 |some #[.int i]=>((f M Z).at M).then Z λd M'=>match d with
  |.int k=>.next (Z.set j #[.int (i+k)]) M'
  |_=>.bad
 |_=>.bad:=rfl
@[simp]theorem arF (i j:Nat) (f:GF):aah i j f M Z=(f M Z).then Z λd M'=>match d with
 |.list (d0::ds)=>if ds.length<=16000 then .next ((Z.set i #[d0]).set j #[.list ds]) M' else .bad
 |.tuple (d0::ds)=>if ds.length<=16000 then .next ((Z.set i #[d0]).set j #[.list ds]) M' else .bad
 |_=>.bad:=rfl
@[simp]theorem auu (js:List Nat) (as:QA):sPN js as M Z=((as M Z).at M).then Z λds M'=>match rP js ds Z with
 |some Z'=>.next Z' M'
 |none=>.bad:=rfl
@[simp]theorem aso (f:QF):gOf f M Z=(f M Z).at M:=rfl
@[simp]theorem ev_op (o:Dat->Dat->Out Dat) (a b:QF):aK o a b M Z=(a M Z).bind λx=>(b M Z).bind λy=>o x y:=rfl
@[simp]theorem ev_un (o:Dat->Out Dat) (a:QF):dZ o a M Z=(a M Z).bind o:=rfl
@[simp]theorem ev_c (d:Dat):qC d M Z=.ok d:=rfl
@[simp]theorem ev_var (i:Nat):BW i M Z=match Z[i]? with
 |some #[d]=>.ok d
 |_=>.bad:=rfl
@[simp]theorem arv (i:Nat):Wf i M Z=match Z[i]? with
 |some #[d]=>.ok d
 |some (some (.mut xs))=>.ok (.list xs)
 |_=>.bad:=rfl
@[simp]theorem at8:dD M Z=.ok []:=rfl
@[simp]theorem ari (a:QF) (r:QA):Vp a r M Z=(a M Z).bind λx=>(r M Z).bind λxs=>.ok (x::xs):=rfl
@[simp]theorem asI (r:QA):aP r M Z=(r M Z).bind λxs=>Out.when (decide (xs.length<=100000)) (.ok (.tuple xs)):=rfl
@[simp]theorem atq (r:QA):uV r M Z=(r M Z).bind λxs=>Out.when (decide (xs.length<=100000)) (.ok (.list xs)):=rfl
@[simp]theorem aun (a:QF):gQ a M Z=(a M Z).bind Lw:=rfl
@[simp]theorem auG (a:QF):dW a M Z=(a M Z).bind Ea:=rfl
@[simp]theorem arq (a:QT):jQ a M Z=(a M Z).bind λb=>.ok (!b):=rfl
@[simp]theorem arV (a b:QT):jP a b M Z=(a M Z).bind λx=>if x=true then b M Z else .ok false:=rfl
@[simp]theorem atz (a b:QT):FJ a b M Z=(a M Z).bind λx=>if x=true then .ok true else b M Z:=rfl
@[simp]theorem auD (a:QT):Vq a M Z=(a M Z).bind λb=>.ok (.bool b):=rfl
@[simp]theorem asQ (t:QT) (a b:QF):J8 t a b M Z=(t M Z).bind λx=>if x=true then a M Z else b M Z:=rfl
@[simp]theorem ev_is (neg:Bool) (c:Dat) (a:QF):vB neg c a M Z=(a M Z).bind λd=>.ok (.bool (neg ^^ iZ c d)):=rfl
@[simp]def ev_notV (a:QF):Wq a M Z=((a M Z).bind Ea).bind λb=>.ok (.bool (!b)):=by
 show(((a M Z).bind Ea).bind λb=>Out.ok (!b)).bind (λb=>Out.ok (PyData.bool b))=_
 cases a M Z with
 |ok d=>cases h:Ea d<;>simp[Out.bind,h]
 |exc x=>rfl
 |bad=>rfl
@[simp]theorem ev_andV (a b:QF):Ce a b M Z=(a M Z).bind λd=>(Ea d).bind λx=>if x=true then b M Z else .ok (.bool false):=rfl
@[simp]theorem ev_orV (a b:QF):ail a b M Z=(a M Z).bind λd=>(Ea d).bind λx=>if x=true then .ok (.bool true) else b M Z:=rfl
@[simp]theorem aqJ (o o':Dat->Dat->Out Dat) (a b c:QF):pB o o' a b c M Z=(a M Z).bind λx=>(b M Z).bind λy=>(o x y).bind λz=>(Ea z).bind λk=>if k=true then(c M Z).bind λw=>(o' y w).bind Ea else .ok false:=rfl
@[simp]theorem atv (t:Od) (a:QF):Ab t a M Z=(a M Z).bind (Bs t):=rfl
@[simp]theorem auy (a:QF) (lo hi:QO):Nr a lo hi M Z=(a M Z).bind λd=>(lo M Z).bind λl=>(hi M Z).bind λh=>slD d l h:=rfl
@[simp]theorem auM:zP M Z=.ok none:=rfl
@[simp]theorem auL (a:QF):o9 a M Z=(a M Z).bind λd=>(DK d).bind λi=>.ok (some i):=rfl
@[simp]theorem ev_call (m:Mo->List Dat->Out Dat) (as:QA):aN m as M Z=(as M Z).bind λds=>m M ds:=rfl
@[simp]theorem aqz (a:QF):bQ a M Z=(a M Z).bind oY:=rfl
@[simp]theorem apY (a:QF):BZ a M Z=(a M Z).bind λd=>(DK d).bind λn=>Out.when (decide (n<=100000/\-100000<=n)) (.ok (iw 0 n.toNat)):=rfl
@[simp]theorem ar0 (k₀:Int) (a:QF):zf k₀ a M Z=(a M Z).bind λd=>(oY d).bind λds=>.ok (qU k₀ ds):=rfl
@[simp]theorem atM (a b:QF):MJ a b M Z=(a M Z).bind λd=>(b M Z).bind λe=>(oY d).bind λds=>(oY e).bind λes=>.ok (zK ds es):=rfl
@[simp]theorem arK (it:IF) (tg:dY) (vs:List Nat) (tt:QT) (te:QF):dR it tg vs tt te M Z=(it M Z).bind λds=>Out.when (decide (ds.length<=50000)) ((cI tg tt te M (bM Z vs) ds).bind λr=>.ok (.list r)):=rfl
@[simp]theorem aqB (it:IF) (tg:dY) (vs:List Nat) (tt:QT) (te:QF):xM it tg vs tt te M Z=(it M Z).bind λds=>Out.when (decide (ds.length<=50000)) (cI tg tt te M (bM Z vs) ds):=rfl
@[simp]theorem as3 (f:QA):Nh f M Z=(f M Z).bind λxs=>Out.when (decide (xs.length<=100000)) (.ok xs):=rfl
@[simp]theorem aoz (f:QF):aif f M Z=(f M Z).bind aau:=rfl
@[simp]theorem apZ (j:Nat) (d:Dat):aq j d Z=some (Z.set j #[d]):=rfl
@[simp]theorem aqt (js:List Nat) (ds:List Dat):aX js (.tuple ds) Z=rP js ds Z:=rfl
@[simp]theorem aoT (n:Nat) (b:SF) (ds:List Dat):mQ n b M ds=match b M (ini n ds) with
 |.ret d _=>.ok d
 |.next _ _=>.ok .none
 |.exc x _ _=>.exc x
 |_=>.bad:=rfl
@[simp]theorem auv (n:Nat) (b:SF) (ds:List Dat):mG n b M ds=match b M (ini n ds) with
 |.ret d M'=>.ok d M'
 |.next _ M'=>.ok .none M'
 |.exc x _ M'=>.exc x M'
 |_=>.bad:=rfl
end
section
variable(i j:Int)(ds es:List Dat)(b c:Bool)(x y:Str)
@[simp]theorem arT:dG (.int i) (.int j)=.ok (.int (i+j)):=rfl
@[simp]theorem aq6:dG (.list ds) (.list es)=Out.when (decide (ds.length+es.length<=100000)) (.ok (.list (ds++es))):=rfl
@[simp]theorem arB:dG (.tuple ds) (.tuple es)=Out.when (decide (ds.length+es.length<=100000)) (.ok (.tuple (ds++es))):=rfl
@[simp]theorem aus:oZ (.int i) (.int j)=.ok (.int (i-j)):=rfl
@[simp]theorem asy:yF (.int i) (.int j)=Out.when (decide (CMul i j)) (.ok (.int (i*j))):=rfl
@[simp]theorem asl:DN (.int i) (.int j)=Out.when (decide (CDiv i j)) (.ok (.int (i/j))):=rfl
@[simp]theorem asZ:lH (.int i) (.int j)=Out.when (decide (0<j)) (.ok (.int (i%j))):=rfl
@[simp]theorem as6:Ug (.int i) (.int j)=Out.when (decide (CPow i j)) (.ok (.int (i^j.toNat))):=rfl
@[simp]theorem auz:RX (.int i) (.int j)=.ok (.bool (decide (i<j))):=rfl
@[simp]theorem auF:sJ (.int i) (.int j)=.ok (.bool (decide (i<=j))):=rfl
@[simp]theorem auH:gtD (.int i) (.int j)=.ok (.bool (decide (j<i))):=rfl
@[simp]theorem auA:geD (.int i) (.int j)=.ok (.bool (decide (j<=i))):=rfl
@[simp]theorem auk:Eh (.int i) (.int j)=.ok (.bool (i==j)):=rfl
@[simp]theorem atg:Eh (.str x) (.str y)=.ok (.bool (x==y)):=rfl
@[simp]theorem atG:Eh (.bool b) (.bool c)=.ok (.bool (b==c)):=rfl
@[simp]theorem asw:yP (.int i) (.int j)=.ok (.bool (!(i==j))):=rfl
@[simp]theorem atm:yP (.str x) (.str y)=.ok (.bool (!(x==y))):=rfl
@[simp]theorem atO:Tg (.int i)=.ok (.int (-i)):=rfl
@[simp]theorem arh:Lw (.bool b)=.ok b:=rfl
@[simp]theorem arw:Lw (.list ds)=.ok (!ds.isEmpty):=rfl
@[simp]theorem arC:Lw (.tuple ds)=.ok (!ds.isEmpty):=rfl
@[simp]theorem auo:Ea (.bool b)=.ok b:=rfl
@[simp]theorem aro:pA (.list ds)=.ok (.int ds.length):=rfl
@[simp]theorem arX:pA (.tuple ds)=.ok (.int ds.length):=rfl
@[simp]theorem as7:X8 (.int i)=.ok (.int (if i<0 then -i else i)):=rfl
@[simp]theorem ev_max2:yq (.int i) (.int j)=.ok (.int (if j>i then j else i)):=rfl
@[simp]theorem arb:Es (.int i) (.int j)=.ok (.int (if j<i then j else i)):=rfl
@[simp]theorem ar5:zX (.list ds) (.int i)=match atI ds i with
  |some d=>.ok d
  |none=>.bad:=rfl
@[simp]theorem ar3:zX (.tuple ds) (.int i)=match atI ds i with
  |some d=>.ok d
  |none=>.bad:=rfl
@[simp]theorem aq5:DK (.int i)=.ok i:=rfl
@[simp]theorem atp (lo hi:Option Int):slD (.list ds) lo hi=.ok (.list (cutD ds lo hi)):=rfl
@[simp]theorem atN (lo hi:Option Int):slD (.tuple ds) lo hi=.ok (.tuple (cutD ds lo hi)):=rfl
@[simp]theorem arz:m9 (.list ds)=.ok (.tuple ds):=rfl
@[simp]theorem aq9:m9 (.tuple ds)=.ok (.tuple ds):=rfl
@[simp]theorem aqW:zL (.list ds)=.ok (.list ds):=rfl
@[simp]theorem aqT:zL (.tuple ds)=.ok (.list ds):=rfl
@[simp]theorem ate:aau (.list ds)=.ok ds:=rfl
@[simp]theorem asp:aau (.tuple ds)=.ok ds:=rfl
@[simp]theorem asW:oY (.list ds)=.ok ds:=rfl
@[simp]theorem atf:oY (.tuple ds)=.ok ds:=rfl
@[simp]theorem arR (o:Option Cell) (Z:Env):uW (o::Z)=o.map WD::uW Z:=rfl
@[simp]theorem aql:uW []=[]:=rfl
@[simp]theorem aqv (d:Dat):WD (.dat d)=.dat d:=rfl
@[simp]theorem aqs (ds:List Dat):WD (.mut ds)=.dat (.list ds):=rfl
@[simp]theorem arZ (Z:Env):rP [] [] Z=some Z:=rfl
@[simp]theorem arE (j:Nat) (js:List Nat) (d:Dat) (Z:Env):rP (j::js) (d::ds) Z=rP js ds (Z.set j #[d]):=rfl
@[simp]theorem aqN (Z:Env):bM Z []=Z:=rfl
@[simp]theorem ap9 (Z:Env) (j:Nat) (js:List Nat):bM Z (j::js)=(bM Z js).set j none:=rfl
@[simp]def apM {α:Type} (a:α) (l:List α):atI (a::l) 0=some a:=atI_nat (j:=0) rfl
@[simp]theorem arY (n:Nat):ini n ds=ds.map (λd=>#[d])++List.replicate (n-ds.length) none:=rfl
end
def adU{a b:String}:Str.ofString a=Str.ofString b↔a=b:=by
 constructor
 .intro h;rw[Str.ofString_eq_toList,Str.ofString_eq_toList]at h;have h1:a.toList.map Char.toNat=b.toList.map Char.toNat:=by simpa using h
  have h2:a.toList=b.toList:=by
   refine List.map_inj_right (f:=Char.toNat) (λx y e=>?_) |>.mp h1
   exact Char.ext (UInt32.toNat_inj.mp e)
  exact String.toList_inj.mp h2
 .rintro rfl;rfl
@[simp]def atu (a b:String):(Str.ofString a=Str.ofString b)=(a=b):=propext adU
@[simp]def arL (a b:String):(Str.ofString a==Str.ofString b)=decide (a=b):=by rw[avW];simp[adU]
@[simp]def auI {α:Type} (a b:α) (l:List α):atI (a::b::l) 1=some b:=atI_nat (j:=1) rfl
@[simp]def auB {α:Type} (a b c:α) (l:List α):atI (a::b::c::l) 2=some c:=atI_nat (j:=2) rfl
@[simp]def auE {α:Type} (a b c d:α) (l:List α):atI (a::b::c::d::l) 3=some d:=atI_nat (j:=3) rfl
@[simp]def aut {α:Type} (a b c d e:α) (l:List α):atI (a::b::c::d::e::l) 4=some e:=atI_nat (j:=4) rfl
@[simp]def auJ {α:Type} (a b c d e f:α) (l:List α):atI (a::b::c::d::e::f::l) 5=some f:=atI_nat (j:=5) rfl
@[simp]def auC {α:Type} (a b c d e f g:α) (l:List α):atI (a::b::c::d::e::f::g::l) 6=some g:=atI_nat (j:=6) rfl
@[simp]def aqf (s:String):PyData.strOk (Str.ofString s)=true:=by
 rw[Str.ofString_eq_toList];unfold PyData.strOk;simp![Array.all_eq_true,awc];intro i h;simp![List.getElem_toArray,List.getElem_map];have:=s.toList[i]'(by simpa using h) |>.valid
 rcases this with z|⟨_,z⟩
 .show(s.toList[i]'(by simpa using h)).val.toNat<_
  omega
 .show(s.toList[i]'(by simpa using h)).val.toNat<_
  omega
section
variable(i j:Int)(x y:Str)(d e:Dat)(ds es:List Dat)(b c:Bool)
@[simp]def aa8:PyData.eqv (.int i) (.int j)=(i==j):=by simp[PyData.eqv]
@[simp]def asj:PyData.eqv (.str x) (.str y)=(x==y):=by simp[PyData.eqv]
@[simp]def atD:PyData.eqv (.bool b) (.bool c)=(b==c):=by simp[PyData.eqv]
@[simp]def atH:PyData.eqv .none .none=true:=by simp[PyData.eqv]
@[simp]def abl:PyData.eqv (.tuple ds) (.tuple es)=PyData.eqvAll ds es:=by simp[PyData.eqv]
@[simp]def aog:PyData.eqv (.list ds) (.list es)=PyData.eqvAll ds es:=by simp[PyData.eqv]
@[simp]def atX:PyData.eqv (.tuple ds) .none=false:=by simp[PyData.eqv]
@[simp]def aur:PyData.eqv .none (.tuple ds)=false:=by simp[PyData.eqv]
@[simp]def at3:PyData.eqv (.str x) (.int i)=false:=by simp[PyData.eqv]
@[simp]def atL:PyData.eqv (.int i) (.str x)=false:=by simp[PyData.eqv]
@[simp]def alq:PyData.eqvAll [] []=true:=by simp[PyData.eqvAll]
@[simp]def arU:PyData.eqvAll [] (d::ds)=false:=by simp[PyData.eqvAll]
@[simp]def ak0:PyData.eqvAll (d::ds) []=false:=by simp[PyData.eqvAll]
@[simp]def acX:PyData.eqvAll (d::ds) (e::es)=(PyData.eqv d e&&PyData.eqvAll ds es):=by simp[PyData.eqvAll]
end
@[simp]theorem Cp:∀l m:List Int,PyData.eqvAll (l.map PyData.int) (m.map PyData.int)=decide (l=m)
 |[],[]=>by simp
 |[],_::_=>by simp
 |_::_,[]=>by simp
 |a::l,b::m=>by
  rw[List.map_cons,List.map_cons,acX,Cp l m,aa8];by_cases h:a=b<;>by_cases h2:l=m<;>simp[h,h2]
theorem KZ{n:Nat}:∀{ds:List Dat},lX n ds=true↔∀d∈ds,okd n d=true
 |[]=>by simp[lX]
 |d::ds=>by simp[lX,KZ (ds:=ds)]
@[simp]def aj4 (n:Nat) (i:Int):okd n (.int i)=true:=by simp[okd]
@[simp]def YH (n:Nat) (l:List Int):lX n (l.map PyData.int)=true:=KZ.mpr λd h=>by
 let⟨i,_,rfl⟩:=au2.mp h
 simp
def ob(h:Nat):Dat:=obj h
section
variable(M:Mo)(Z:Env)(h:Nat)(f:Str)
@[simp]theorem arj:Pn M f (ob h)=(M[h]?).bind λi=>i.fs.lookup f:=rfl
@[simp]theorem aq2 (tb:List (Str×MV)):Hq tb M (ob h)=(M[h]?).bind λi=>tb.lookup i.cls:=rfl
@[simp]theorem aaP:lQ M (ob h)=(M[h]?).bind λi=>match i.cls=="" with
 |true=>none
 |false=>some (h,i):=rfl
@[simp]theorem asf (o:QF):fD f o M Z=(o M Z).bind λd=>match Pn M f d with
 | #[x]=>.ok x
 |_=>.bad:=rfl
@[simp]theorem arA (o:QF):bf f o M Z=(o M Z).bind λd=>match Pn M f d with
 | #[x]=>.ok x
 |some (.lst _ xs)=>.ok (.list xs)
 |_=>.bad:=rfl
@[simp]theorem aq8 (tb:List (Str×MV)) (o:QF) (as:QA):aC tb o as M Z=(o M Z).bind λd=>match Hq tb M d with
 |some (.q _ m)=>(as M Z).bind λds=>m M (d::ds)
 |_=>.bad:=rfl
@[simp]theorem aqa (tb:List (Str×MV)) (o:QF) (as:QA):bO tb o as M Z=((o M Z).at M).bind λd _=>match Hq tb M d with
 |some (.q _ m)=>((as M Z).at M).bind λds _=>(m M (d::ds)).at M
 |some (.g _ m)=>((as M Z).at M).bind λds _=>m M (d::ds)
 |none=>.bad:=rfl
@[simp]theorem arD (x:Str) (m:Mo->List Dat->aZ Dat) (as:QA):Dm x m as M Z=((as M Z).at M).bind λds _=>match m (M++[⟨x,[]⟩]) (ob M.length::ds) with
 |.ok .none M'=>.ok (ob M.length) M'
 |_=>.bad:=rfl
@[simp]theorem aqm (m:Mo->List Dat->aZ Dat) (as:QA):yj m as M Z=((as M Z).at M).bind λds _=>m M ds:=rfl
@[simp]theorem apR (m:Mo->List Dat->aZ Dat) (as:GA):alF m as M Z=(as M Z).bind λds M1=>m M1 ds:=rfl
@[simp]theorem apQ (m:Mo->List Dat->Out Dat) (as:GA):amb m as M Z=(as M Z).bind λds M1=>(m M1 ds).at M1:=rfl
@[simp]theorem apP (a:GF) (r:GA):al2 a r M Z=(a M Z).bind λd M1=>(r M1 Z).bind λds M2=>.ok (d::ds) M2:=rfl
@[simp]theorem aq4 (t:QT):aiv t M Z=(t M Z).at M:=rfl
@[simp]theorem ap4 (a:GT):aoE a M Z=(a M Z).bind λb M1=>.ok (!b) M1:=rfl
@[simp]theorem aqx (a b:GT):ao0 a b M Z=(a M Z).bind λx M1=>if x=true then b M1 Z else .ok false M1:=rfl
@[simp]theorem aq3 (a b:GT):aqn a b M Z=(a M Z).bind λx M1=>if x=true then .ok true M1 else b M1 Z:=rfl
@[simp]theorem aqb (a:GF):aoQ a M Z=(a M Z).bind λd M1=>(Lw d).at M1:=rfl
@[simp]theorem aqi (x:Str):fL x M Z=.exc ⟨x,[]⟩ Z M:=rfl
@[simp]theorem apU (x:Str) (fs:List Str) (as:QA):Ey x fs as M Z=((as M Z).at M).then Z λds M'=>.exc ⟨x,(fs.zip ds).reverse⟩ Z M':=rfl
@[simp]theorem atV (b:SF) (hs:List Hd):Ux b hs M Z=match b M Z with
 |.exc x Z' M'=>hdl hs x Z' M'
 |o=>o:=rfl
@[simp]theorem arP (x:eX):hdl [] x Z M=.exc x Z M:=rfl
@[simp]theorem arx (h:Hd) (r:List Hd) (x:eX):hdl (h::r) x Z M=match h.tk x.cls with
  |some true=>match ae6 Z h.nm with
   |true=>match HD h.y x h.st (W3 Z h.nm) with
    |some Z2=>.next (W3 Z2 h.nm) M
    |none=>.bad
   |false=>.bad
  |some false=>hdl r x Z M
  |none=>.bad:=rfl
@[simp]theorem arI:W3 Z none=Z:=rfl
@[simp]theorem arp (i:Nat):W3 Z (some i)=Z.set i none:=rfl
@[simp]theorem aqr:ae6 Z none=true:=rfl
@[simp]theorem aqc (i:Nat):ae6 Z (some i)=decide (i<Z.length):=rfl
@[simp]theorem asS (y:Str) (x:eX):HD y x [] Z=some Z:=rfl
@[simp]theorem at9 (y:Str) (x:eX) (j:Nat) (e:Ih) (r:List (Nat×Ih)):HD y x ((j,e)::r) Z=(ab5 y x e).bind λd=>HD y x r (Z.set j #[d]):=rfl
@[simp]theorem atr (y:Str) (x:eX) (d:Dat):ab5 y x (.con d)=some d:=rfl
@[simp]theorem arQ (g:GF):cR g M Z=(g M Z).then Z λd M'=>.ret d M':=rfl
@[simp]theorem asH (t:GT) (f k:SF):aqe t f k M Z=(t M Z).then Z λc M'=>if c=true then f M' Z else k M' Z:=rfl
@[simp]theorem apS (a b:QF):yK a b M Z=(a M Z).bind λd=>(b M Z).bind λe=>(DK d).bind λlo=>(DK e).bind λn=>Out.when (decide (n<=100000/\-100000<=n/\lo<=100000/\-100000<=lo)) (.ok (iw lo (n-lo).toNat)):=rfl
@[simp]theorem arG (ft:Ft) (o:QF) (e:GF):wV ft o f e M Z=(e M Z).then Z λd M1=>((o M1 Z).at M1).then Z λod M2=>match lQ M2 od with
 |some (h,i)=>match ft.has i.cls f&&decide (i.fs.length<100) with
  |true=>.next Z (M2.set h (i.put f (.dat d)))
  |false=>.bad
 |none=>.bad:=rfl
@[simp]theorem ars (ft:Ft) (o:QF) (e:IF):Hw ft o f e M Z=((e M Z).at M).then Z λxs M0=>((o (M0++[⟨"",[]⟩]) Z).at (M0++[⟨"",[]⟩])).then Z λod M2=>match lQ M2 od with
 |some (h,i)=>match ft.has i.cls f&&decide (i.fs.length<100) with
  |true=>.next Z (M2.set h (i.put f (.lst M0.length xs)))
  |false=>.bad
 |none=>.bad:=rfl
@[simp]theorem arO (ft:Ft) (o:QF) (b:Bool):QV ft o f b M Z=((o (M++[⟨"",[]⟩]) Z).at (M++[⟨"",[]⟩])).then Z λod M2=>match lQ M2 od with
 |some (h,i)=>match ft.has i.cls f&&decide (i.fs.length<100) with
  |true=>.next Z (M2.set h (i.put f (.dic b [])))
  |false=>.bad
 |none=>.bad:=rfl
@[simp]theorem arn (ft:Ft) (o:QF) (e:Mo->Env->Out (List (Dat×Dat))):V6 ft o f e M Z=((e M Z).at M).then Z λkvs _=>((o (M++[⟨"",[]⟩]) Z).at (M++[⟨"",[]⟩])).then Z λod M2=>match lQ M2 od with
 |some (h,i)=>match ft.has i.cls f&&decide (i.fs.length<100) with
  |true=>.next Z (M2.set h (i.put f (.dic true kvs)))
  |false=>.bad
 |none=>.bad:=rfl
@[simp]theorem arf (o:QF) (e:GF):IW f o e M Z=((o M Z).at M).then Z λod M0=>match Je M0 f od with
 |some (_,_,n,_)=>(e M0 Z).then Z λd M1=>match Je M1 f od with
  |some (h,i,n',xs)=>match n==n'&&decide (xs.length<100000) with
   |true=>.next Z (M1.set h (i.put f (.lst n (xs++[d]))))
   |false=>.bad
  |none=>.bad
 |none=>.bad:=rfl
@[simp]theorem arW (o fi e:QF):Vr f o fi e M Z=((e M Z).at M).then Z λd _=>((o M Z).at M).then Z λod _=>match Je M f od with
 |some (h,i,n,xs)=>((fi M Z).at M).then Z λk _=>match k with
  |.int k=>match ixN xs.length k with
   |some j=>.next Z (M.set h (i.put f (.lst n (xs.set j d))))
   |none=>.bad
  |_=>.bad
 |none=>.bad:=rfl
@[simp]theorem arH (ft:Ft) (o e:QF):Wm ft f o e M Z=((o M Z).at M).then Z λod _=>match lQ M od with
 |some (h,i)=>match i.fs.lookup f,ft.has i.cls f&&decide (i.fs.length<100) with
  | #[.int a],true=>((e M Z).at M).then Z λd _=>match d with
   |.int b=>.next Z (M.set h (i.put f (.dat (.int (a+b)))))
   |_=>.bad
  |_,_=>.bad
 |none=>.bad:=rfl
theorem akC(d:Dat):Je M f d=(lQ M d).bind λp=>match p.2.fs.lookup f with
 |some (.lst n xs)=>some (p.1,p.2,n,xs)
 |_=>none:=rfl
@[simp]def arS:Je M f (ob h)=(M[h]?).bind λi=>match i.cls=="" with
 |true=>none
 |false=>match i.fs.lookup f with
  |some (.lst n xs)=>some (h,i,n,xs)
  |_=>none:=by
 rw[akC,aaP];cases M[h]? with
 |none=>rfl
 |some i=>
  show(match i.cls=="" with
   |true=>none
   |false=>some (h,i)).bind _=(match i.cls=="" with
   |true=>none
   |false=>_)
  cases i.cls==""<;>rfl
@[simp]theorem arJ (i:Inst) (x:jF):i.put f x=⟨i.cls,putL f x i.fs⟩:=rfl
@[simp]theorem auw (x:jF):putL f x []=[(f,x)]:=rfl
@[simp]theorem auK (x y:jF) (g:Str) (r:LsS jF):putL f x ((g,y)::r)=if g=f then(g,x)::r else(g,y)::putL f x r:=rfl
@[simp]theorem arM (ft:Ft) (c:Str):Ft.has ft c f=match ft.lookup c with
 |some fs=>fs.contains f
 |none=>false:=rfl
@[simp]def ara:Bf M f (ob h)=(M[h]?).bind λi=>match i.cls=="" with
 |true=>none
 |false=>match i.fs.lookup f with
  |some (.dic b kvs)=>some (h,i,b,kvs)
  |_=>none:=by
 show(lQ M (ob h)).bind _=_
 rw[aaP];cases M[h]? with
 |none=>rfl
 |some i=>
  show(match i.cls=="" with
   |true=>none
   |false=>some (h,i)).bind _=(match i.cls=="" with
   |true=>none
   |false=>_)
  cases i.cls==""<;>rfl
@[simp]theorem at6 (neg:Bool) (k o:QF):Tv neg f k o M Z=(k M Z).bind λd=>(o M Z).bind λod=>match Bf M f od with
 |some (_,_,b,kvs)=>(dhas b kvs d).bind λr=>.ok (.bool (neg ^^ r))
 |none=>.bad:=rfl
@[simp]theorem ark (o k e:QF):Q7 f o k e M Z=((e M Z).at M).then Z λv _=>((o M Z).at M).then Z λod _=>match Bf M f od with
 |some (h,i,b,kvs)=>((k M Z).at M).then Z λd _=>match dhas b kvs d,decide (kvs.length<100000) with
  |.ok false,true=>.next Z (M.set h (i.put f (.dic b (kvs++[(d,v)]))))
  |_,_=>.bad
 |none=>.bad:=rfl
@[simp]theorem aru (o k:QF):Rv f o k M Z=((o M Z).at M).then Z λod _=>match Bf M f od with
 |some (h,i,b,kvs)=>((k M Z).at M).then Z λd _=>match dhas b kvs d,decide (kvs.length<=100000) with
  |.ok true,true=>.next Z (M.set h (i.put f (.dic b (kvs.filter λp=>!PyData.eqv p.1 d))))
  |_,_=>.bad
 |none=>.bad:=rfl
@[simp]theorem aqE (o:QF):GD f o M Z=(o M Z).bind λod=>match Bf M f od with
 |some (_,_,true,kvs)=>.ok (kvs.map (·.1))
 |_=>.bad:=rfl
@[simp]theorem aqp (o:QF):Fw f o M Z=(o M Z).bind λod=>match Bf M f od with
 |some (_,_,_,kvs)=>.ok (.list (kvs.map (·.1)))
 |none=>.bad:=rfl
@[simp]theorem auN (it:IF) (tg:dY) (vs:List Nat) (tk:QF):qDc it tg vs tk M Z=(it M Z).bind λds=>Out.when (decide (ds.length<=50000)) (Jd tg tk M (bM Z vs) ds []):=rfl
@[simp]theorem aqw (kvs:List (Dat×Dat)) (i:Int):dhas false kvs (.int i)=.ok (kvs.any λp=>PyData.eqv p.1 (.int i)):=rfl
@[simp]theorem aud (neg:Bool) (kvs:LsS Dat) (k:QF):W4 neg kvs k M Z=(k M Z).bind λd=>match d with
 |.str x=>.ok (.bool (neg ^^ (kvs.lookup x).isSome))
 |_=>.bad:=rfl
@[simp]theorem asn (kvs:LsS Dat) (k:QF):afh kvs k M Z=(k M Z).bind λd=>match d with
 |.str x=>match kvs.lookup x with
  |some y=>.ok y
  |none=>.bad
 |_=>.bad:=rfl
@[simp]theorem aqY (it:IF) (tg:dY) (vs:List Nat) (tt:QT) (it1:IF) (tg1:dY) (vs1:List Nat) (tt1:QT) (te:QF):Gv it tg vs tt it1 tg1 vs1 tt1 te M Z=((it M Z).bind λds=>(iW tg tt it1 tg1 vs1 tt1 te M (bM Z vs) ds).bind λr=>Out.when (decide (r.length<=50000)) (.ok r)).bind λr=>.ok (.list r):=rfl
@[simp]theorem apV (it:IF) (tg:dY) (vs:List Nat) (tt:QT) (te:QF):Ez it tg vs tt te M Z=((it M Z).bind λds=>Out.when (decide (ds.length<=50000)) (cI tg tt te M (bM Z vs) ds)).bind λds=>match intsOf ds with
 |some l=>Out.when (decide (l.length<=4000)) (.ok (.list ((Cr l).map PyData.int)))
 |none=>.bad:=rfl
@[simp]def apT {α:Type} (k g:Str) (y:α) (r:List (Str×α)):List.lookup k ((g,y)::r)=if k=g then some y else List.lookup k r:=by
 rw[avo];by_cases e:k=g
 .subst e;simp
 .have:(k==g)=false:=by simpa using e
  rw[this,awh e]
end
end Rf
namespace Pr
open PySem PySem.Spec PyProof.Rows L2 Evl Rf
abbrev TabMV := List (Str × MV)
abbrev ListInt := List Int
open Lean in
local macro_rules
| `(#[$n:num]) => `(qC (.int $n))
| `(#[$n:str]) => `(qC (.str $n))
| `(#[$x = $y]) => `(dW (aK Eh $x $y))
| `(#[$xs,*]) => do
  if xs.elemsAndSeps.size<2 then Macro.throwUnsupported
  let mut r ← `(dD)
  for x in xs.getElems.reverse do r ← `(Vp $x $r)
  return r
open Lean in
local macro_rules
| `(%[$xs,*|$r]) => do
  let mut r := r
  for x in xs.getElems.reverse do r ← `(ak $x $r)
  return r
local macro_rules
| `($x[$n:num]!) => `(aK zX $x (qC (.int $n)))
| `($x[$n]!) => `(aK zX $x $n)
local macro_rules
| `(($n:num)) => `(Wf $n)
| `(($n:num:)) => `(BW $n)
def Bg:SF:=
 (ak (Hw lO (0) "allowances" (Nh dD))
 (Hw lO (0) "circles" (Nh dD)))
def wB:=mG 1 Bg
def Ds:SF:=
 (QV lO (0) "held" true)
def yc:=mG 1 Ds
def Jt:SF:=
 (Hw lO (0) "beasts" (Nh dD))
def Cj:=mG 1 Jt
def Bp:SF:=
 (ak (wV lO (0) "owner_count" (gOf #[0]))
 (ak (QV lO (0) "holders" false)
 (ak (wV lO (0) "grounds" (Dm "Grounds" wB dD))
 (ak (wV lO (0) "rights" (Dm "Rights" yc dD))
 (wV lO (0) "herd" (Dm "Herd" Cj dD))))))
def rM:=mG 1 Bp
def aaB:SF:=
 (ak (bh (dW (aK RX (1) (dZ pA (0)))) (aJ (0)[(1)]!) aG)
 (aJ #[0]))
def Dg:=mQ 2 aaB
def Yk:SF:=
 (ak (aV (aq 5) (gOf (aK lH (aK dG (aK dG (aK yF (5) #[48271]) (aK yF #[9973] (4))) #[11]) #[2147483647])))
 (Jq 3 (aK lH (aK DN (5) #[1021]) (2))))
def Yb:SF:=
 (ak (Jq 3 (aK lH (0) (2)))
 (aV (aq 0) (gOf (aK DN (0) (2)))))
def aeA:SF:=
 (ak (zJ 3 (Nh dD))
 (ak (aV (aq 0) (gOf (dZ X8 (0))))
 (ak (bh (dW (aK geD (0) (aK Ug #[10] #[18]))) (ak (mX (BZ (1)) (aq 4) Yb)
 (aJ (3:))) aG)
 (ak (aV (aq 5) (gOf (aK lH (aK yF (aK dG (aK lH (0) #[1000003]) #[17]) #[69621]) #[2147483647])))
 (ak (mX (BZ (1)) (aq 4) Yk)
 (aJ (3:)))))))
def tY:=mQ 6 aeA
def TQ:SF:=
 (ak (bh #[(aK lH (1) #[4])=#[1]] (aJ (dZ m9 (dR (bQ (0)) (aq 2) [2] fJ (aK yq #[0] (aK oZ (2) #[7]))))) aG)
 (ak (bh #[(aK lH (1) #[4])=#[2]] (aJ (dZ m9 (dR (bQ (0)) (aq 2) [2] fJ (aK lH (2) #[3])))) aG)
 (aJ (dZ m9 (0)))))
def vL:=mQ 3 TQ
def aeU:SF:=
 (ak (aV (aq 1) (gOf (aN tY #[(0:),#[7],#[10]])))
 (aJ (aN vL #[Nr (1) zP (o9 #[6]),(1)[6]!])))
def Mp:=mQ 2 aeU
def Jl:SF:=
 (ak (bh #[(aK lH (0) #[8])=#[7]] (aJ (uV dD)) aG)
 (ak (aV (aq 1) (gOf (uV #[aP #[#["ground"],#[0],#[0]],aP #[#["owner"],#[0],#[0]],aP #[#["owner"],#[0],#[0]],aP #[#["enrol"],#[0],#[0]],aP #[#["enrol"],#[1],#[0]]])))
 (ak (aV (aq 1) (gOf (aK dG (1) (uV #[aP #[#["bring"],#[0],#[0]],aP #[#["cut"],#[0],#[0]],aP #[#["bring"],#[1],#[0]],aP #[#["cut"],#[1],#[0]],aP #[#["ground"],#[0],#[0]],aP #[#["enrol"],#[0],#[1]]]))))
 (aJ (1:)))))
def xU:=mQ 2 Jl
def Ox:SF:=
 (ak (aV (aq 1) (gOf (uV #[#["tear"],#["cut"],#["bring"],#["sell"],#["move"],#["enrol"],#["bear"],#["tear"],#["cut"],#["sell"],#["move"],#["unite"],#["part"]])))
 (ak (aV (aq 1) (gOf (aK dG (1) (uV #[#["heir"],#["pass"],#["die"],#["leave"],#["ground"],#["owner"],#["enrol"],#["tear"],#["sell"],#["bring"],#["bear"],#["cut"]]))))
 (aJ (1)[aK lH (0) #[25]]!)))
def vX:=mQ 2 Ox
def nM:SF:=
 (bh (dW (Tv true "holders" (1:) (0))) (fL "NoOwner") aG)
def kE:=mQ 2 nM
def wH:SF:=
 (aJ (dZ pA (bf "allowances" (0))))
def rZ:=mQ 1 wH
def fW:TabMV:=[("Grounds",.q 1 rZ)]
def Dq:SF:=
 (aJ (Vq (pB sJ sJ #[1] (1) (aC fW (0) dD))))
def yu:=mQ 2 Dq
def Bo:TabMV:=[("Grounds",.q 2 yu)]
def Bw:SF:=
 (bh (jQ (gQ (aC Bo (0) #[(1:),]))) (fL "NoGround") aG)
def wN:=mQ 2 Bw
def Ay:SF:=
 (aJ (dR (GD "held" (0)) (aX [3,4,5]) [3,4,5] (jP #[(3)=(1)] #[(4)=(2)]) (5:)))
def rA:=mQ 6 Ay
def bU:TabMV:=[("Rights",.q 3 rA)]
def v7:SF:=
 (aJ (aK gtD (dZ pA (aC bU (0) #[(1:),(2:)])) #[0]))
def ql:=mQ 3 v7
def uU:TabMV:=[("Rights",.q 3 ql)]
def sY:SF:=
 (bh (jQ (gQ (aC uU (bf "rights" (0)) #[(1:),(2:)]))) (fL "NoRight") aG)
def nu:=mQ 3 sY
def uX:SF:=
 (ak (Wm lO "owner_count" (0) #[1])
 (ak (Q7 "holders" (0) (fD "owner_count" (0)) (qC (.bool true)))
 (aJ (fD "owner_count" (0)))))
def gU:=mG 1 uX
def pY:SF:=
 (ak (aV (aq 4) (gOf (aP #[(1:),(2:),(3:)])))
 (ak (bh (dW (Tv false "held" (4:) (0))) (fL "HasRight") aG)
 (Q7 "held" (0) (4:) (qC (.bool true)))))
def jC:=mG 5 pY
def Gz:SF:=
 (aV (aq 2) (gOf (Gv (bQ (2)) (aX [4,5]) [4,5,6] fJ (yK (3) (aK dG (aK Es (aK dG (3) (5)) (qC cO)) #[1])) (aq 6) [6] fJ (aP #[aK dG (4) (aP #[(6:),]),aK oZ (5) (aK oZ (6) (3))]))))
def aaA:SF:=
 (ak (aV (aq 2) (gOf (uV #[aP #[aP dD,(1:)],])))
 (ak (mX (bQ (0:)) (aq 3) Gz)
 (aJ (dR (bQ (2)) (aX [4,5]) [4,5] fJ (4:)))))
def Pj:=mQ 7 aaA
def Yh:SF:=
 (aJ (dZ acn (dR (MJ (0) (1)) (aX [2,3]) [2,3] (dW (aK gtD (3) (2))) (aK oZ (3) (2)))))
def pU:=mQ 4 Yh
def Jf:SF:=
 (aJ (dR (bQ (aN Pj #[(0:),(1:)])) (aq 2) [2] #[(aN pU #[(0:),(2:)])=(1)] (2:)))
def xV:=mQ 3 Jf
def Xe:SF:=
 (aJ (aK yq (aN pU #[(0:),(1:)]) (aN pU #[(1:),(0:)])))
def KR:=mQ 2 Xe
def ab6:SF:=
 (aJ (aK sJ (aN KR #[(0:),(1:)]) (2)))
def uF:=mQ 3 ab6
def lJ:SF:=
 (bh (jQ (gQ (dZ Uh (dR (bQ (2)) (aX [5,6]) [5,6] fJ (aN uF #[(4:),(6:),(3:)]))))) (aJ (4:)) aG)
def yW:SF:=
 (ak (mX (bQ (aN xV #[(0:),(1:)])) (aq 4) lJ)
 (fL "NoneFree"))
def rC:=mQ 7 yW
def tG:SF:=
 (aJ (aC bU (bf "rights" (0)) #[(1:),(2:)])[0]!)
def nH:=mQ 3 tG
def au:TabMV:=[("Grounds",.q 2 wN)]
def qp:SF:=
 (ak (bR (gOf (aC au (0) #[(1:),])))
 (aJ (dZ zL (bf "circles" (0))[aK oZ (1) #[1]]!)))
def jO:=mQ 2 qp
def bA:TabMV:=[("Grounds",.q 2 jO)]
def qK:SF:=
 (aJ (aC bA (bf "grounds" (0)) #[(1:),]))
def jJ:=mQ 2 qK
def Tj:SF:=
 (aJ (dZ Ve (0)))
def tZ:=mQ 1 Tj
def xq:SF:=
 (aJ (dR (zf 1 (bf "beasts" (0))) (aX [1,2]) [1,2] (gQ (bf "alive" (2))) (aP #[(1:),(2:)])))
def qX:=mQ 3 xq
def bT:TabMV:=[("Herd",.q 1 qX)]
def BK:SF:=
 (aJ (dR (bQ (aC bT (0) dD)) (aX [2,3]) [2,3] (dW (aK (inD false) (bf "ground" (3)) (1))) (aP #[(2:),(3:)])))
def rB:=mQ 4 BK
def uQ:SF:=
 (aJ (dR (GD "held" (0)) (aX [2,3,4]) [2,3,4] (dW (aK (inD false) (3) (1))) (aP #[(2:),(4:)])))
def pC:=mQ 5 uQ
def tO:TabMV:=[("Rights",.q 2 pC)]
def fQ:TabMV:=[("Herd",.q 2 rB)]
def bJ:TabMV:=[("Commons",.q 2 jJ)]
def lU:SF:=
 (ak (aV (aq 3) (gOf (aC bJ (0) #[(2:),])))
 (ak (aV (aq 4) (gOf (dR (bQ (aC fQ (bf "herd" (0)) #[(3:),])) (aX [5,6]) [5,6] (jP (dW (vB true .none (bf "due" (6)))) (dW (aK yP (5) (1)))) (aP #[fD "owner" (6),fD "due" (6)]))))
 (aJ (aN tZ #[aK dG (aC tO (bf "rights" (0)) #[(3:),]) (4),]))))
def jo:=mQ 7 lU
def cZ:TabMV:=[("Commons",.q 3 jo)]
def qO:SF:=
 (aJ (aC cZ (0) #[#[0],(1:)]))
def lY:=mQ 2 qO
def pG:SF:=
 (ak (bR (gOf (aC au (0) #[(1:),])))
 (aJ (bf "allowances" (0))[aK oZ (1) #[1]]!))
def lF:=mQ 2 pG
def eV:TabMV:=[("Grounds",.q 2 lF)]
def wz:SF:=
 (aJ (dZ maxD (dR (bQ (aC bA (0) #[(1:),])) (aq 2) [2] fJ (aC eV (0) #[(2:),]))))
def oO:=mQ 3 wz
def u6:TabMV:=[("Grounds",.q 2 oO)]
def wA:SF:=
 (aJ (aC u6 (bf "grounds" (0)) #[(1:),]))
def oU:=mQ 2 wA
def ji:TabMV:=[("Rights",.g 4 jC)]
def dH:TabMV:=[("Commons",.g 1 gU)]
def bH:TabMV:=[("Commons",.q 2 oU)]
def aQ:TabMV:=[("Commons",.q 2 lY)]
def bV:TabMV:=[("Commons",.q 3 nH)]
def aO:TabMV:=[("Commons",.q 3 nu)]
def ao:TabMV:=[("Commons",.q 2 kE)]
def eU:SF:=
 (ak (bR (gOf (aC ao (0) #[(1:),])))
 (ak (bR (gOf (aC au (bf "grounds" (0)) #[(2:),])))
 (ak (bh (jQ (pB sJ sJ (qC jM) (3) (qC lZ))) (fL "BadExtra") aG)
 (ak (bR (gOf (aC aO (0) #[(1:),(2:)])))
 (ak (aV (aq 4) (gOf (aN rC #[aC bV (0) #[(1:),(2:)],(3:),aC aQ (0) #[(2:),],aC bH (0) #[(2:),]])))
 (ak (aV (aq 5) (bO dH (0) dD))
 (ak (bR (bO ji (bf "rights" (0)) #[(5:),(2:),(4:)]))
 (aJ (aP #[(5:),(4:)])))))))))
def cG:=mG 6 eU
def j7:SF:=
 (ak (bh (jQ (pB sJ sJ #[0] (1) (qC iK))) (fL "BadAllowance") aG)
 (ak (IW "allowances" (0) (gOf (1:)))
 (ak (IW "circles" (0) (gOf (aP #[aC fW (0) dD,])))
 (aJ (aC fW (0) dD)))))
def gD:=mG 2 j7
def mH:TabMV:=[("Grounds",.g 2 gD)]
def nQ:SF:=
 (cR (bO mH (bf "grounds" (0)) #[(1:),]))
def gG:=mG 2 nQ
def Oi:SF:=
 (aJ (dR (bQ (aN tZ #[(2:),])) (aX [4,5]) [4,5] (jP (dW (aK yP (4) (0))) (gQ (aN uF #[(1:),(5:),(3:)]))) (aP #[(4:),(5:)])))
def wu:=mQ 6 Oi
def Yd:SF:=
 (aJ (dZ m9 (dR (MJ (0) (1)) (aX [2,3]) [2,3] fJ (aK yq (2) (3)))))
def rE:=mQ 4 Yd
def Et:SF:=
 (ak (aV (aq 4) (gOf (aN wu #[(0:),(1:),(2:),(3:)])))
 (bh (gQ (4)) (ak (aV (aX [5,6]) (gOf (4)[0]!))
 (Ey "Clash" ["ones","others","ear"] #[aP #[(0:),(1:)],aP #[(5:),(6:)],aN rE #[(1:),(6:)]])) aG))
def qm:=mQ 7 Et
def nJ:SF:=
 (bR (gOf (aN qm #[(1:),(2:),aC aQ (0) #[(3:),],aC bH (0) #[(3:),]])))
def iH:=mQ 4 nJ
def LR:SF:=
 (aJ (Ce (aK Eh (dZ pA (0)) (dZ pA (qC jy))) (dZ FW (dR (bQ (0)) (aq 1) [1] fJ (Vq (pB sJ sJ #[0] (1) (qC cO)))))))
def vP:=mQ 2 LR
def Lz:SF:=
 (bh (jQ (gQ (aN vP #[(0:),]))) (fL "BadEar") aG)
def nR:=mQ 1 Lz
def bW:TabMV:=[("Commons",.q 4 iH)]
def gY:SF:=
 (ak (bR (gOf (aC ao (0) #[(1:),])))
 (ak (bR (gOf (aC au (bf "grounds" (0)) #[(2:),])))
 (ak (bR (gOf (aN nR #[(3:),])))
 (ak (bh #[(3)=(qC jV)] (fL "Bare") aG)
 (ak (bh (dW (aK (inD false) (3) (aC bU (bf "rights" (0)) #[(1:),(2:)]))) (fL "HasRight") aG)
 (ak (bR (gOf (aC bW (0) #[(1:),(3:),(2:)])))
 (bR (bO ji (bf "rights" (0)) #[(1:),(2:),(3:)]))))))))
def dU:=mG 4 gY
def zB:SF:=
 (Rv "held" (0) (aP #[(1:),(2:),(4:)]))
def xZ:SF:=
 (ak (aV (aq 3) (gOf (aC bU (0) #[(1:),(2:)])))
 (ak (bh (jQ (gQ (3))) (fL "NoRight") aG)
 (ak (mX (bQ (3:)) (aq 4) zB)
 (aJ (3:)))))
def pW:=mG 5 xZ
def Ba:TabMV:=[("Rights",.g 3 pW)]
def jW:SF:=
 (ak (bR (gOf (aC ao (0) #[(1:),])))
 (ak (bR (gOf (aC au (bf "grounds" (0)) #[(2:),])))
 (ak (bR (gOf (aC aO (0) #[(1:),(2:)])))
 (ak (bh (gQ (dZ Uh (dR (bQ (aC fQ (bf "herd" (0)) #[uV #[(2:),],])) (aX [3,4]) [3,4] fJ (aK Eh (bf "owner" (4)) (1))))) (fL "StillThere") aG)
 (cR (bO Ba (bf "rights" (0)) #[(1:),(2:)]))))))
def fU:=mG 5 jW
def uf:SF:=
 (ak (aV (aX [2,3,4,5,6]) (gOf (1:)))
 (ak (wV lO (0) "owner" (gOf (2:)))
 (ak (wV lO (0) "ground" (gOf (3:)))
 (ak (wV lO (0) "due" (gOf (4:)))
 (ak (wV lO (0) "ear" (gOf (5:)))
 (wV lO (0) "alive" (gOf (6:))))))))
def oW:=mG 7 uf
def Rm:SF:=
 (ak (bh #[(0)[0]! = #["born"]] (ak (aV (aX [1,2,3,4]) (gOf (0:)))
 (aJ (aP #[(3:),(4:),qC .none,qC jV,qC (.bool true)]))) aG)
 (ak (aV (aX [1,3,4,5]) (gOf (0:)))
 (aJ (aP #[(3:),(4:),qC .none,(5:),qC (.bool true)]))))
def Fe:=mQ 6 Rm
def kW:TabMV:=[("Beast",.g 2 oW)]
def Fl:SF:=
 (ak (Hw lO (0) "story" (Nh #[(1:),]))
 (ak (wV lO (0) "mother" (gOf (J8 #[(1)[0]! = #["born"]] (1)[1]! #[0])))
 (bR (bO kW (0) #[aN Fe #[(1:),],]))))
def vo:=mG 2 Fl
def yE:SF:=
 (ak (IW "beasts" (0) (Dm "Beast" vo #[(1:),]))
 (aJ (dZ pA (bf "beasts" (0)))))
def tL:=mG 2 yE
def kY:TabMV:=[("Herd",.g 2 tL)]
def j8:SF:=
 (ak (bR (gOf (aC ao (0) #[(1:),])))
 (ak (bR (gOf (aC au (bf "grounds" (0)) #[(2:),])))
 (ak (bR (gOf (aN nR #[(3:),])))
 (ak (bR (gOf (aC aO (0) #[(1:),(2:)])))
 (cR (bO kY (bf "herd" (0)) #[aP #[#["brought"],(1:),(2:),(3:)],]))))))
def fX:=mG 4 j8
def vY:SF:=
 (ak (bh (jQ (pB sJ sJ #[1] (1) (dZ pA (bf "beasts" (0))))) (fL "NoBeast") aG)
 (aJ (bf "beasts" (0))[aK oZ (1) #[1]]!))
def lW:=mQ 2 vY
def dX:TabMV:=[("Herd",.q 2 lW)]
def xX:SF:=
 (ak (aV (aq 2) (gOf (aC dX (0) #[(1:),])))
 (ak (bh (jQ (gQ (bf "alive" (2)))) (fL "Dead") aG)
 (aJ (2:))))
def uw:=mQ 3 xX
def bB:TabMV:=[("Herd",.q 2 uw)]
def uH:SF:=
 (ak (aV (aq 2) (gOf (aC bB (0) #[(1:),])))
 (ak (bh (dW (vB false .none (bf "due" (2)))) (fL "Unmarked") aG)
 (aJ (2:))))
def pP:=mQ 3 uH
def bx:TabMV:=[("Herd",.q 2 pP)]
def oH:SF:=
 (ak (aV (aq 2) (gOf (aC bx (bf "herd" (0)) #[(1:),])))
 (cR (bO kY (bf "herd" (0)) #[aP #[#["born"],(1:),fD "owner" (2),fD "ground" (2)],])))
def iT:=mG 3 oH
def Mz:SF:=
 (aJ (dZ m9 (dR (zf 0 (0)) (aX [2,3]) [2,3] fJ (J8 #[(2)=(1)] (aK dG (3) #[1]) (3:)))))
def zR:=mQ 4 Mz
def QK:SF:=
 (ak (aV (aX [2,3,4,5,6]) (gOf (0:)))
 (ak (aV (aq 7) (gOf (1)[0]!))
 (ak (bh #[(7)=#["cut"]] (Wv 4 5 (gOf (1)[1]!)) (bh #[(7)=#["torn"]] (aV (aq 5) (gOf (aN zR #[(5:),(1)[1]!]))) (bh #[(7)=#["sold"]] (ak (aV (aq 2) (gOf (1)[1]!))
 (Wv 4 5 (gOf (1)[2]!))) (bh #[(7)=#["moved"]] (aV (aq 3) (gOf (1)[1]!)) (bh #[(7)=#["followed"]] (ak (aV (aq 2) (gOf (1)[1]!))
 (aV (aq 3) (gOf (1)[2]!))) (bh #[(7)=#["passed"]] (aV (aq 2) (gOf (1)[1]!)) (bh #[(7)=#["died"]] (aV (aq 6) (gOf (qC (.bool false)))) aG)))))))
 (aJ (aP #[(2:),(3:),(4:),(5:),(6:)])))))
def CZ:=mQ 8 QK
def Du:SF:=
 (aJ (aP #[fD "owner" (0),fD "ground" (0),fD "due" (0),fD "ear" (0),fD "alive" (0)]))
def yr:=mQ 1 Du
def oR:TabMV:=[("Beast",.q 1 yr)]
def Bv:SF:=
 (ak (IW "story" (0) (gOf (1:)))
 (bR (bO kW (0) #[aN CZ #[aC oR (0) dD,(1:)],])))
def oE:=mG 2 Bv
def bL:TabMV:=[("Beast",.g 2 oE)]
def pO:SF:=
 (ak (aV (aq 2) (gOf (aC bB (bf "herd" (0)) #[(1:),])))
 (ak (aV (aq 3) (gOf (aN rE #[fD "ear" (2),aC bV (0) #[fD "owner" (2),fD "ground" (2)]])))
 (ak (bR (gOf (aC bW (0) #[fD "owner" (2),(3:),fD "ground" (2)])))
 (ak (bR (bO bL (2) #[aP #[#["cut"],(3:)],]))
 (aJ (3:))))))
def jw:=mG 4 pO
def jE:SF:=
 (ak (aV (aq 3) (gOf (aC bB (bf "herd" (0)) #[(1:),])))
 (ak (bh (jQ (pB sJ RX #[0] (2) (dZ pA (qC jy)))) (fL "NoPlace") aG)
 (ak (bh (dW (aK geD (bf "ear" (3))[(2)]! (qC cO))) (fL "Deepest") aG)
 (ak (bR (bO bL (3) #[aP #[#["torn"],(2:)],]))
 (aJ (fD "ear" (3)))))))
def fP:=mG 4 jE
def yt:SF:=
 (ak (bR (gOf (aC dX (0) #[(1:),])))
 (aJ (dR (bQ (aC bT (0) dD)) (aX [2,3]) [2,3] (jP #[(bf "mother" (3))=(1)] (dW (vB false .none (bf "due" (3))))) (aP #[(2:),(3:)]))))
def pQ:=mQ 4 yt
def oV:TabMV:=[("Herd",.q 2 pQ)]
def tK:SF:=
 (bR (bO bL (4) #[aP #[#["followed"],fD "owner" (2),fD "ground" (2)],]))
def vZ:SF:=
 (ak (aV (aq 2) (gOf (aC dX (0) #[(1:),])))
 (mX (bQ (aC oV (0) #[(1:),])) (aX [3,4]) tK))
def qI:=mG 5 vZ
def jd:TabMV:=[("Herd",.g 2 qI)]
def gK:SF:=
 (ak (aV (aq 3) (gOf (aC bx (bf "herd" (0)) #[(1:),])))
 (ak (bR (gOf (aC ao (0) #[(2:),])))
 (ak (bh #[(bf "owner" (3))=(2)] (fL "SameOwner") aG)
 (ak (bR (gOf (aC aO (0) #[(2:),fD "ground" (3)])))
 (ak (aV (aq 4) (gOf (aN rE #[fD "ear" (3),aC bV (0) #[(2:),fD "ground" (3)]])))
 (ak (bR (gOf (aN qm #[(2:),(4:),aC cZ (0) #[(1:),fD "ground" (3)],aC bH (0) #[fD "ground" (3),]])))
 (ak (bR (bO bL (3) #[aP #[#["sold"],(2:),(4:)],]))
 (ak (bR (bO jd (bf "herd" (0)) #[(1:),]))
 (aJ (4:))))))))))
def dO:=mG 5 gK
def gM:SF:=
 (ak (aV (aq 3) (gOf (aC bx (bf "herd" (0)) #[(1:),])))
 (ak (bR (gOf (aC au (bf "grounds" (0)) #[(2:),])))
 (ak (aV (aq 4) (gOf (fD "ground" (3))))
 (ak (bh #[(4)=(2)] (fL "SameGround") aG)
 (ak (bR (gOf (aC aO (0) #[fD "owner" (3),(2:)])))
 (ak (bR (gOf (aC bW (0) #[fD "owner" (3),fD "due" (3),(2:)])))
 (ak (bR (bO bL (3) #[aP #[#["moved"],(2:)],]))
 (ak (bR (bO jd (bf "herd" (0)) #[(1:),]))
 (aJ (4:))))))))))
def dN:=mG 5 gM
def ux:SF:=
 (bR (bO bL (aC bB (bf "herd" (0)) #[(1:),]) #[aP #[#["died"],],]))
def kZ:=mG 2 ux
def LC:SF:=
 (ak (aV (aq 2) (gOf (aN tZ #[(0:),])))
 (aJ (Gv (zf 0 (2)) (aX [3,4]) [3,4,5] fJ (bQ (Nr (2) (o9 (aK dG (3) #[1])) zP)) (aq 5) [5] (jP (dW (aK yP (4)[0]! (5)[0]!)) (gQ (aN uF #[(4)[1]!,(5)[1]!,(1:)]))) (aP #[(4:),(5:)]))))
def wD:=mQ 6 LC
def vR:SF:=
 (ak (aV (aq 3) (gOf (aK yq (aC bH (0) #[(1:),]) (aC bH (0) #[(2:),]))))
 (aJ (aN wD #[aK dG (aC aQ (0) #[(1:),]) (aC aQ (0) #[(2:),]),(3:)])))
def mj:=mQ 4 vR
def uR:SF:=
 (Vr "circles" (0) (aK oZ (3) #[1]) (2:))
def wY:SF:=
 (ak (aV (aq 2) (gOf (dZ m9 (1))))
 (ak (mX (bQ (1:)) (aq 3) uR)
 (aJ (1:))))
def m7:=mG 4 wY
def iD:TabMV:=[("Grounds",.g 2 m7)]
def uZ:SF:=
 (ak (aV (aq 3) (gOf (aC bA (0) #[(1:),])))
 (ak (aV (aq 4) (gOf (aC bA (0) #[(2:),])))
 (ak (bh (dW (aK (inD false) (2) (3))) (fL "Together") aG)
 (cR (bO iD (0) #[dZ zH (aK dG (3) (4)),])))))
def jZ:=mG 5 uZ
def yH:TabMV:=[("Grounds",.g 3 jZ)]
def gR:TabMV:=[("Commons",.q 3 mj)]
def jY:SF:=
 (ak (bR (gOf (aC au (bf "grounds" (0)) #[(2:),])))
 (ak (bh (dW (aK (inD false) (2) (aC bJ (0) #[(1:),]))) (fL "Together") aG)
 (ak (aV (aq 3) (gOf (aC gR (0) #[(1:),(2:)])))
 (ak (bh (gQ (3)) (ak (aV (aX [4,5]) (gOf (3)[0]!))
 (Ey "Clash" ["ones","others","ear"] #[(4:),(5:),aN rE #[(4)[1]!,(5)[1]!]])) aG)
 (cR (bO yH (bf "grounds" (0)) #[(1:),(2:)]))))))
def eZ:=mG 6 jY
def rG:SF:=
 (ak (aV (aq 2) (gOf (dR (bQ (aC bA (0) #[(1:),])) (aq 3) [3] (dW (aK yP (3) (1))) (3:))))
 (ak (bh (jQ (gQ (2))) (fL "Alone") aG)
 (ak (bR (bO iD (0) #[uV #[(1:),],]))
 (cR (bO iD (0) #[(2:),])))))
def iJ:=mG 4 rG
def qM:TabMV:=[("Grounds",.g 2 iJ)]
def rW:SF:=
 (cR (bO qM (bf "grounds" (0)) #[(1:),]))
def iI:=mG 2 rW
def vJ:SF:=
 (V6 lO (0) "held" (qDc (GD "held" (0)) (aX [3,4,5]) [3,4,5] (aP #[J8 #[(3)=(1)] (2:) (3:),(4:),(5:)])))
def qb:=mG 6 vJ
def FT:SF:=
 (aJ (dR (bQ (aC bT (0) dD)) (aX [2,3]) [2,3] #[(bf "owner" (3))=(1)] (aP #[(2:),(3:)])))
def zU:=mQ 4 FT
def DG:TabMV:=[("Herd",.q 2 zU)]
def uN:TabMV:=[("Rights",.g 3 qb)]
def uP:SF:=
 (bR (bO bL (5) #[aP #[#["passed"],(2:)],]))
def kJ:SF:=
 (ak (bR (gOf (aC ao (0) #[(1:),])))
 (ak (bR (gOf (aC ao (0) #[(2:),])))
 (ak (bh #[(1)=(2)] (fL "SameOwner") aG)
 (ak (bR (bO uN (bf "rights" (0)) #[(1:),(2:)]))
 (ak (aV (aq 3) (gOf (aC DG (bf "herd" (0)) #[(1:),])))
 (ak (mX (bQ (3:)) (aX [4,5]) uP)
 (ak (Rv "holders" (0) (1:))
 (aJ (dR (bQ (3)) (aX [4,5]) [4,5] fJ (4:))))))))))
def fH:=mG 6 kJ
def xR:SF:=
 (ak (bh #[(0)=#["ear"]] (aJ (Ce (Ab .tuple (1)) (aN vP #[(1:),]))) aG)
 (ak (aV (aq 2) (gOf (J8 #[(0)=#["place"]] (aK oZ (dZ pA (qC jy)) #[1]) (qC qj))))
 (aJ (Ce (Ab .int (1)) (Vq (pB sJ sJ #[0] (1) (2)))))))
def jk:=mQ 3 xR
def aaI:SF:=
 (ak (bh (FJ #[(dZ pA (0))=#[0]] (dW (W4 true (Cq BP) (0)[0]!))) (aJ (qC (.bool false))) aG)
 (ak (aV (aq 1) (gOf (afh (Cq BP) (0)[0]!)))
 (ak (aV (aq 2) (gOf (Nr (0) (o9 #[1]) zP)))
 (aJ (Ce (aK Eh (dZ pA (2)) (dZ pA (1))) (dZ FW (dR (MJ (1) (2)) (aX [3,4]) [3,4] fJ (aN jk #[(3:),(4:)]))))))))
def Kl:=mQ 5 aaI
def jf:TabMV:=[("Commons",.g 4 cG)]
def jN:TabMV:=[("Commons",.g 3 fH)]
def yU:TabMV:=[("Commons",.g 2 iI)]
def yJ:TabMV:=[("Commons",.g 3 eZ)]
def oF:TabMV:=[("Commons",.g 2 kZ)]
def mF:TabMV:=[("Commons",.g 3 dN)]
def mV:TabMV:=[("Commons",.g 3 dO)]
def mU:TabMV:=[("Commons",.g 3 fP)]
def oJ:TabMV:=[("Commons",.g 2 jw)]
def mW:TabMV:=[("Commons",.g 2 iT)]
def lN:TabMV:=[("Commons",.g 4 fX)]
def lG:TabMV:=[("Commons",.g 3 fU)]
def lK:TabMV:=[("Commons",.g 4 dU)]
def iz:TabMV:=[("Commons",.g 2 gG)]
def cM:SF:=
 (ak (bh (jQ (gQ (aN Kl #[(1:),]))) (fL "BadDeed") aG)
 (ak (aah 2 3 (gOf (1:)))
 (ak (bh #[(2)=#["owner"]] (cR (bO dH (0) dD)) aG)
 (ak (bh #[(2)=#["ground"]] (cR (bO iz (0) #[(3)[0]!,])) aG)
 (ak (bh #[(2)=#["enrol"]] (cR (bO lK (0) #[(3)[0]!,(3)[1]!,(3)[2]!])) aG)
 (ak (bh #[(2)=#["leave"]] (cR (bO lG (0) #[(3)[0]!,(3)[1]!])) aG)
 (ak (bh #[(2)=#["bring"]] (cR (bO lN (0) #[(3)[0]!,(3)[1]!,(3)[2]!])) aG)
 (ak (bh #[(2)=#["bear"]] (cR (bO mW (0) #[(3)[0]!,])) aG)
 (ak (bh #[(2)=#["cut"]] (cR (bO oJ (0) #[(3)[0]!,])) aG)
 (ak (bh #[(2)=#["tear"]] (cR (bO mU (0) #[(3)[0]!,(3)[1]!])) aG)
 (ak (bh #[(2)=#["sell"]] (cR (bO mV (0) #[(3)[0]!,(3)[1]!])) aG)
 (ak (bh #[(2)=#["move"]] (cR (bO mF (0) #[(3)[0]!,(3)[1]!])) aG)
 (ak (bh #[(2)=#["die"]] (cR (bO oF (0) #[(3)[0]!,])) aG)
 (ak (bh #[(2)=#["unite"]] (cR (bO yJ (0) #[(3)[0]!,(3)[1]!])) aG)
 (ak (bh #[(2)=#["part"]] (cR (bO yU (0) #[(3)[0]!,])) aG)
 (ak (bh #[(2)=#["pass"]] (cR (bO jN (0) #[(3)[0]!,(3)[1]!])) aG)
 (cR (bO jf (0) #[(3)[0]!,(3)[1]!,(3)[2]!]))))))))))))))))))
def cA:=mG 4 cM
def eO:TabMV:=[("Commons",.g 2 cA)]
def yV:SF:=
 (ak (aV (aq 3) (gOf (qC .none)))
 (ak (Ux (aV (aq 3) (bO eO (0) #[(1:),])) [⟨"CommonError",λx=>oA.lookup x,none,[(3,(.con .none))]⟩])
 (ak (bh (dW (vB false .none (3))) (aJ (2:)) aG)
 (ak (aV (aX [4,5,6]) (gOf (2:)))
 (ak (bh (FJ #[(1)[0]! = #["owner"]] #[(1)[0]! = #["heir"]]) (Jk 4 #[1]) aG)
 (ak (bh #[(1)[0]! = #["ground"]] (Jk 5 #[1]) aG)
 (ak (bh (FJ #[(1)[0]! = #["bring"]] #[(1)[0]! = #["bear"]]) (Jk 6 #[1]) aG)
 (aJ (aP #[(4:),(5:),(6:)])))))))))
def iY:=mG 7 yV
def Tw:SF:=
 (ak (aV (aq 5) (gOf (aP #[#[0],#[0],#[0],#[0],#[0],#[1],#[1],#[2],#[3],dZ Tg #[1]])[(4)]!))
 (Jq 2 (aK yq #[0] (aK Es #[9] (aK dG (3) (5))))))
def ace:SF:=
 (ak (zJ 2 (Nh dD))
 (ak (mX (MJ (0:) (1:)) (aX [3,4]) Tw)
 (aJ (dZ m9 (2)))))
def Om:=mQ 6 ace
def O5:SF:=
 (ak (bh (dW (aK RX (1) #[4])) (aJ (aN Om #[(2:),(0:)])) aG)
 (aJ (aN vL #[(0:),(1:)])))
def yL:=mQ 3 O5
def aan:SF:=
 (ak (bh (gQ (2)) (aJ (aK dG #[1] (aK lH (0) (aK yq #[1] (1))))) aG)
 (aJ (aK lH (0) (aK dG (1) #[2]))))
def lu:=mQ 3 aan
def lE:SF:=
 (ak (aV (aq 6) (gOf (aK yP (3)[6]! #[9])))
 (ak (aV (aq 7) (gOf (aN yL #[Nr (3) (o9 #[8]) (o9 #[14]),(3)[7]!,(5:)])))
 (ak (bh #[(0)=#["owner"]] (aJ (aP #[#["owner"],])) aG)
 (ak (bh #[(0)=#["ground"]] (aJ (aP #[#["ground"],aK dG (aP #[#[0],#[1],#[2],#[3],#[0],#[1],#[5],#[6],#[7],#[8]])[(3)[7]!]! (aK yF #[4] (dZ intD (Wq (6))))])) aG)
 (ak (bh (jP #[(0)=#["bring"]] (dW (aK RX (3)[7]! #[6]))) (aV (aq 7) (gOf (aP #[#[0],#[0],#[0],#[0],#[0],#[0]]))) aG)
 (ak (bh (FJ #[(0)=#["enrol"]] #[(0)=#["bring"]]) (aJ (aP #[(0:),aN lu #[(1:),(4)[0]!,(6:)],aN lu #[(2:),(4)[1]!,(6:)],(7:)])) aG)
 (ak (bh #[(0)=#["leave"]] (aJ (aP #[(0:),aN lu #[(1:),(4)[0]!,(6:)],aN lu #[(2:),(4)[1]!,(6:)]])) aG)
 (ak (bh #[(0)=#["heir"]] (aJ (aP #[(0:),aN lu #[(1:),(4)[0]!,(6:)],aN lu #[(2:),(4)[1]!,(6:)],aK lH (3)[7]! #[4]])) aG)
 (ak (bh #[(0)=#["pass"]] (aJ (aP #[(0:),aN lu #[(1:),(4)[0]!,(6:)],aN lu #[(2:),(4)[0]!,(6:)]])) aG)
 (ak (bh #[(0)=#["unite"]] (aJ (aP #[(0:),aN lu #[(1:),(4)[1]!,(6:)],aN lu #[(2:),(4)[1]!,(6:)]])) aG)
 (ak (bh #[(0)=#["part"]] (aJ (aP #[(0:),aN lu #[(1:),(4)[1]!,(6:)]])) aG)
 (ak (bh #[(0)=#["tear"]] (aJ (aP #[(0:),aN lu #[(1:),(4)[2]!,(6:)],aK lH (3)[7]! #[6]])) aG)
 (ak (bh #[(0)=#["sell"]] (aJ (aP #[(0:),aN lu #[(1:),(4)[2]!,(6:)],aN lu #[(2:),(4)[0]!,(6:)]])) aG)
 (ak (bh #[(0)=#["move"]] (aJ (aP #[(0:),aN lu #[(1:),(4)[2]!,(6:)],aN lu #[(2:),(4)[1]!,(6:)]])) aG)
 (aJ (aP #[(0:),aN lu #[(1:),(4)[2]!,(6:)]]))))))))))))))))
def gJ:=mQ 8 lE
def Mh:SF:=
 (ak (aV (aq 3) (yj iY #[(0:),aP #[#["bring"],#[1],#[1],aP #[#[0],#[0],#[0],#[0],#[0],#[0]]],(3:)]))
 (aV (aq 3) (yj iY #[(0:),aP #[#["cut"],(3)[2]!],(3:)])))
def GP:SF:=
 (ak (aV (aq 8) (gOf (aN tY #[(7:),#[14],#[10]])))
 (ak (aV (aq 9) (gOf (aN vX #[aK dG (aK yF (8)[0]! #[10]) (8)[1]!,])))
 (ak (aV (aq 10) (gOf (aK dG (aK yF (8)[2]! #[10]) (8)[3]!)))
 (ak (aV (aq 11) (gOf (aK dG (aK yF (8)[4]! #[10]) (8)[5]!)))
 (ak (bh (dW (aK RX (6) (dZ pA (5)))) (aV (aX [9,10,11]) (gOf (5)[(6)]!)) aG)
 (aV (aq 3) (yj iY #[(0:),aN gJ #[(9:),(10:),(11:),(8:),(3:),(4:)],(3:)])))))))
def VD:SF:=
 (ak (aV (aq 3) (gOf (aP #[#[0],#[0],#[0]])))
 (ak (aV (aq 4) (gOf (aN Mp #[aK DN (2) #[512],])))
 (ak (aV (aq 5) (gOf (aN xU #[(2:),])))
 (ak (mX (zf 0 (1:)) (aX [6,7]) GP)
 (ak (bh #[(aK lH (aK DN (2) #[8]) #[8])=#[1]] (mX (BZ (aK yF (aK lH (aK DN (2) #[64]) #[8]) #[4])) (aq 12) Mh) aG)
 (aJ (3:)))))))
def Jz:=mG 13 VD
def Fx:SF:=
 (aJ (aK dG (aC oR (0) dD) (aP #[fD "mother" (0),dZ m9 (bf "story" (0))])))
def zp:=mQ 1 Fx
def yD:SF:=
 (aJ (Fw "holders" (0)))
def tM:=mQ 1 yD
def wX:SF:=
 (aJ (Fw "held" (0)))
def qW:=mQ 1 wX
def v8:TabMV:=[("Rights",.q 1 qW)]
def cP:TabMV:=[("Commons",.q 1 tM)]
def yh:TabMV:=[("Beast",.q 1 zp)]
def Br:SF:=
 (ak (aV (aq 1) (gOf (dR (yK #[1] (aK dG (aC fW (bf "grounds" (0)) dD) #[1])) (aq 3) [3] fJ (aP #[aC eV (bf "grounds" (0)) #[(3:),],dZ m9 (aC bJ (0) #[(3:),])]))))
 (ak (aV (aq 2) (gOf (dR (bQ (bf "beasts" (bf "herd" (0)))) (aq 4) [4] fJ (aC yh (4) dD))))
 (aJ (aP #[aC cP (0) dD,(1:),aC v8 (bf "rights" (0)) dD,(2:)]))))
def rK:=mQ 5 Br
def BJ:SF:=
 (ak (bR (gOf (aC ao (0) #[(1:),])))
 (ak (bR (gOf (aC au (bf "grounds" (0)) #[(2:),])))
 (ak (bR (gOf (aN nR #[(3:),])))
 (aJ (aN wu #[(1:),(3:),aC aQ (0) #[(2:),],aC bH (0) #[(2:),]])))))
def wM:=mQ 4 BJ
def FZ:SF:=
 (M4 1 (UJ (bQ (aC bT (0) dD)) (aX [2,3]) (Pb (Ua (aP #[fD "owner" (3),fD "ground" (3)]) (aq 4)) (Pb (T5 (4:) (aP #[#[0],#[0]]) (aX [5,6])) (Ut (4:) (J8 (dW (vB false .none (bf "due" (3)))) (aP #[(5:),aK dG (6) #[1]]) (aP #[aK dG (5) #[1],(6:)])))))) (Qy Gu (aq 4) [4] (IK (JC (4:)) (Qh (JC (4:))))))
def v9:=mQ 7 FZ
def Dt:TabMV:=[("Herd",.q 1 v9)]
def zG:SF:=
 (aJ (aC Dt (bf "herd" (0)) dD))
def u9:=mQ 1 zG
def Uv:SF:=
 (aJ (dZ FW (dR (MJ (0) (1)) (aX [2,3]) [2,3] fJ (aK sJ (2) (3)))))
def Bb:=mQ 4 Uv
def Ju:SF:=
 (aJ (dZ m9 (Ez (bQ (1)) (aX [3,4]) [3,4] (jP (gQ (aN Bb #[(4:),(0:)])) (dW (aK sJ (aN pU #[(4:),(0:)]) (2)))) (3:))))
def uJ:=mQ 5 Ju
def yC:SF:=
 (ak (aV (aq 2) (gOf (aC aQ (0) #[(1:),])))
 (ak (aV (aq 3) (gOf (aC bH (0) #[(1:),])))
 (aJ (dR (bQ (aC fQ (bf "herd" (0)) #[aC bJ (0) #[(1:),],])) (aX [4,5]) [4,5] fJ (aP #[(4:),fD "ear" (5),J8 (dW (vB false .none (bf "due" (5)))) (qC .none) (aN uJ #[fD "ear" (5),(2:),(3:)])])))))
def sW:=mQ 6 yC
def qD:SF:=
 (ak (bR (gOf (aC ao (0) #[(1:),])))
 (ak (bR (gOf (aC au (bf "grounds" (0)) #[(2:),])))
 (aJ (aC bU (bf "rights" (0)) #[(1:),(2:)]))))
def mK:=mQ 3 qD
def yw:SF:=
 (aJ (dR (bQ (aC oV (bf "herd" (0)) #[(1:),])) (aX [2,3]) [2,3] fJ (2:)))
def tV:=mQ 4 yw
def w6:SF:=
 (aJ (dZ zL (bf "story" (aC dX (bf "herd" (0)) #[(1:),]))))
def qZ:=mQ 2 w6
def zu:TabMV:=[("Commons",.q 4 wM)]
def vU:TabMV:=[("Commons",.q 2 qZ)]
def qQ:TabMV:=[("Herd",.q 2 pQ),("Commons",.q 2 tV)]
def dh:TabMV:=[("Rights",.q 3 rA),("Commons",.q 3 mK)]
def wZ:TabMV:=[("Commons",.q 2 sW)]
def cV:TabMV:=[("Grounds",.q 2 jO),("Commons",.q 2 jJ)]
def rR:TabMV:=[("Herd",.q 1 v9),("Commons",.q 1 u9)]
def uz:SF:=
 (ak (bh #[(1)=#[0]] (aJ (aC cP (0) dD)) aG)
 (ak (bh #[(1)=#[1]] (aJ (aC rR (0) dD)) aG)
 (ak (bh #[(1)=#[2]] (aJ (aC cV (0) #[(2:),])) aG)
 (ak (bh #[(1)=#[3]] (aJ (aC aQ (0) #[(2:),])) aG)
 (ak (bh #[(1)=#[4]] (aJ (aC wZ (0) #[(2:),])) aG)
 (ak (bh #[(1)=#[5]] (aJ (aC dh (0) #[(3:),(2:)])) aG)
 (ak (bh #[(1)=#[6]] (aJ (aC qQ (0) #[(2:),])) aG)
 (ak (bh #[(1)=#[7]] (aJ (aC vU (0) #[(2:),])) aG)
 (ak (bh #[(1)=#[8]] (aJ (aC gR (0) #[(2:),(3:)])) aG)
 (aJ (aC zu (0) #[(3:),(2:),aP #[#[0],#[0],#[0],#[0],#[0],#[1]]])))))))))))
def qN:=mQ 4 uz
def fV:TabMV:=[("Commons",.q 1 rK)]
def Qp:SF:=
 (ak (aV (aq 8) (gOf (aN qN #[(0:),(5:),(6:),(7:)])))
 (Jq 2 (aP #[(8:),dZ zL (8)])))
def Qv:SF:=
 (aV (aq 3) (gOf (aK dG (3) (uV #[aP #[#[6],(4:),#[0]],aP #[#[7],(4:),#[0]]]))))
def CJ:SF:=
 (ak (aV (aq 3) (gOf (aK dG (3) (uV #[aP #[#[2],(4:),#[0]],aP #[#[3],(4:),#[0]],aP #[#[4],(4:),#[0]],aP #[#[8],#[1],(4:)]]))))
 (ak (aV (aq 3) (gOf (aK dG (3) (dR (bQ (Nr (1)[0]! zP (o9 #[3]))) (aq 9) [9] fJ (aP #[#[5],(4:),(9:)])))))
 (aV (aq 3) (gOf (aK dG (3) (dR (bQ (Nr (1)[0]! zP (o9 #[2]))) (aq 9) [9] fJ (aP #[#[9],(4:),(9:)])))))))
def Yi:SF:=
 (ak (aV (aq 1) (gOf (aC fV (0) dD)))
 (ak (zJ 2 (xM (bQ (1)) (aq 8) [8] fJ (aP #[(8:),dZ zL (8)])))
 (ak (aV (aq 3) (gOf (uV #[aP #[#[0],#[0],#[0]],aP #[#[1],#[0],#[0]]])))
 (ak (mX (yK #[1] (aK dG #[1] (aK Es #[4] (dZ pA (1)[1]!)))) (aq 4) CJ)
 (ak (mX (yK #[1] (aK dG #[1] (aK Es #[4] (dZ pA (1)[3]!)))) (aq 4) Qv)
 (ak (mX (bQ (3:)) (aX [5,6,7]) Qp)
 (aJ (2:))))))))
def Bt:=mQ 10 Yi
def XR:SF:=
 (aJ (Ce (Ab .int (0)) (Wq (Ab .bool (0)))))
def Kw:=mQ 1 XR
def T7(r:Mo->List Dat->Out Dat):SF:=
 (bh (jQ (gQ (aN r #[(2:),(3:)]))) (aJ (qC (.bool false))) aG)
def Ke(r:Mo->List Dat->Out Dat):SF:=
 (ak (bh (dW (vB false .none (1))) (aJ (vB false .none (0))) aG)
 (ak (bh (dW (vB false (.bool true) (1))) (aJ (vB false (.bool true) (0))) aG)
 (ak (bh (dW (vB false (.bool false) (1))) (aJ (vB false (.bool false) (0))) aG)
 (ak (bh (gQ (Ab .int (1))) (aJ (Ce (aN Kw #[(0:),]) (aK Eh (0) (1)))) aG)
 (ak (bh (gQ (Ab .str (1))) (aJ (Ce (Ab .str (0)) (aK Eh (0) (1)))) aG)
 (ak (bh (jP (gQ (Ab .tuple (1))) (jQ (gQ (Ab .tuple (0))))) (aJ (qC (.bool false))) aG)
 (ak (bh (jP (gQ (Ab .list (1))) (jQ (gQ (Ab .list (0))))) (aJ (qC (.bool false))) aG)
 (ak (bh (dW (aK yP (dZ pA (0)) (dZ pA (1)))) (aJ (qC (.bool false))) aG)
 (ak (mX (MJ (0:) (1:)) (aX [2,3]) (T7 r))
 (aJ (qC (.bool true))))))))))))
def jD:Nat->Mo->List Dat->Out Dat
 |0=>λ_ _=>.bad
 |n+1=>mQ 4 (Ke (jD n))
def Mj:SF:=
 (bR (yj iY #[(0:),(2:),aP #[#[0],#[0],#[0]]]))
def aaY:SF:=
 (ak (aV (aq 1) (gOf (aN Bt #[(0:),])))
 (ak (bR (gOf (aN Bt #[(0:),])))
 (ak (bR (bO eO (0) #[aP #[#["owner"],],]))
 (ak (bR (bO eO (0) #[aP #[#["ground"],#[3]],]))
 (ak (mX (bQ (uV #[aP #[#["cut"],#[1]],aP #[#["tear"],#[1],#[2]],aP #[#["unite"],#[1],#[2]],aP #[#["pass"],#[1],#[2]],aP #[#["die"],#[1]]])) (aq 2) Mj)
 (ak (bR (gOf (aN Bt #[(0:),])))
 (aJ (dZ FW (dR (bQ (1)) (aX [3,4]) [3,4] fJ (aN (jD 10) #[(3:),(4:)]))))))))))
def Ot:=mG 5 aaY
def XC:SF:=
 (ak (aV (aq 4) (gOf (aN tY #[(1:),#[14],#[10]])))
 (aJ (aN gJ #[(0:),aK dG (aK yF (4)[2]! #[10]) (4)[3]!,aK dG (aK yF (4)[4]! #[10]) (4)[5]!,(4:),(2:),aN Mp #[aK DN (3) #[512],]])))
def wU:=mQ 5 XC
def Bm:SF:=
 (aJ (Vq (pB sJ sJ #[1] (1) (dZ pA (0)[1]!))))
def sE:=mQ 2 Bm
def aai:SF:=
 (ak (bh (dW (aK RX (0) #[0])) (aJ (aK oZ #[0] (aK lH (aK oZ #[0] (0)) (aK Ug #[10] #[30])))) aG)
 (aJ (aK lH (0) (aK Ug #[10] #[30]))))
def Q8:=mQ 1 aai
def aat:SF:=
 (ak (bh #[(aK lH (1) #[13])=(2)] (aJ (aN Q8 #[aK DN (1) #[13],])) aG)
 (aJ (0:)))
def Mq:=mQ 3 aat
def BR:SF:=
 (bh (FJ #[(1)=(uV dD)] (dW (aK yP (1)[dZ Tg #[1]]! (2)))) (Jq 1 (2:)) aG)
def abB:SF:=
 (ak (zJ 1 (Nh dD))
 (ak (mX (bQ (dZ zH (0))) (aq 2) BR)
 (aJ (1:))))
def QD:=mQ 3 abB
def ou:SF:=
 (bh (jP (gQ (5)[4]!) (jP (dW (vB true .none (5)[2]!)) (jP (dW (aK (inD false) (5)[1]! (1))) (dW (aK yP (aK dG (4) #[1]) (2)))))) (Jq 3 (aP #[(5)[0]!,(5)[2]!])) aG)
def O2:SF:=
 (ak (zJ 3 (xM (bQ (0)[2]!) (aX [6,7,8]) [6,7,8] (dW (aK (inD false) (7) (1))) (aP #[(6:),(8:)])))
 (ak (mX (zf 0 (0)[3]!) (aX [4,5]) ou)
 (aJ (aN QD #[(3:),]))))
def Cy:=mQ 9 O2
def La:SF:=
 (aJ (dR (bQ (0)[2]!) (aq 3) [3] (jP #[(3)[0]! = (1)] #[(3)[1]! = (2)]) (3)[2]!))
def za:=mQ 4 La
def Og:SF:=
 (aJ (dZ maxD (dR (bQ (0)[1]![aK oZ (1) #[1]]![1]!) (aq 2) [2] fJ (0)[1]![aK oZ (2) #[1]]![0]!)))
def Cv:=mQ 3 Og
def lA:TabMV:=[("Grounds",.q 2 oO),("Commons",.q 2 oU)]
def vq:SF:=
 (ak (aV (aq 4) (gOf #[""]))
 (ak (aV (aq 5) (gOf (qC .none)))
 (ak (Ux (bh #[(3)=#[0]] (aV (aq 5) (gOf (aC lA (0) #[(2:),]))) (bh #[(3)=#[1]] (aV (aq 5) (gOf (aC cV (0) #[(2:),]))) (bh #[(3)=#[2]] (aV (aq 5) (gOf (aC aQ (0) #[(2:),]))) (aV (aq 5) (gOf (aC dh (0) #[(1:),(2:)])))))) [⟨"NoGround",λx=>qP.lookup x,none,[(4,(.con (.str "NoGround")))]⟩,⟨"NoOwner",λx=>Lq.lookup x,none,[(4,(.con (.str "NoOwner")))]⟩])
 (aJ (aP #[(4:),(5:)])))))
def rF:=mQ 6 vq
def O4:SF:=
 (bh (jQ (gQ (aN (jD 10) #[aN rF #[(0:),(5:),(6:),(12:)],(8)[(12)]!]))) (aJ (qC (.bool false))) aG)
def Ew:SF:=
 (ak (aV (aq 4) (gOf (aN wU #[#["leave"],(1:),(2:),(3:)])))
 (ak (sPN [5,6] #[aN Mq #[(4)[1]!,(1:),#[3]],aN Mq #[(4)[2]!,(1:),#[4]]])
 (ak (aV (aq 7) (gOf (aC fV (0) dD)))
 (ak (bh (jQ (gQ (aN (jD 10) #[aC cP (0) dD,(7)[0]!]))) (aJ (qC (.bool false))) aG)
 (ak (zJ 8 (Nh #[aP #[#["NoGround"],qC .none],aP #[#["NoGround"],qC .none],aP #[#["NoGround"],qC .none],aP #[#["NoGround"],qC .none]]))
 (ak (bh (gQ (aN sE #[(7:),(6:)])) (ak (aV (aq 9) (gOf (dZ zL (7)[1]![aK oZ (6) #[1]]![1]!)))
 (ak (aV (aq 10) (gOf (aN Cy #[(7:),(9:),#[0]])))
 (ak (aV (aq 11) (gOf (aN za #[(7:),(5:),(6:)])))
 (zJ 8 (Nh #[aP #[#[""],aN Cv #[(7:),(6:)]],aP #[#[""],(9:)],aP #[#[""],(10:)],aP #[#[""],(11:)]]))))) aG)
 (ak (bh (dW (aK (inD true) (5) (7)[0]!)) (Wt 8 #[3] (aP #[#["NoOwner"],qC .none])) aG)
 (ak (mX (BZ #[4]) (aq 12) O4)
 (aJ (aN (jD 10) #[aC fV (0) dD,(7:)]))))))))))
def uL:=mQ 13 Ew
def Py:SF:=
 (bh (jQ (gQ (aN uL #[(0:),(4:),(2:),(3:)]))) (aJ (qC (.bool false))) aG)
def Yc:SF:=
 (ak (mX (bQ (uV #[(1:),aK dG (aK DN (1) #[7]) #[1],(1:)])) (aq 4) Py)
 (aJ (qC (.bool true))))
def Fd:=mQ 5 Yc
def pK:TabMV:=[("Grounds",.g 2 iJ),("Commons",.g 2 iI)]
def oX:TabMV:=[("Grounds",.g 3 jZ),("Commons",.g 3 eZ)]
def jK:SF:=
 (ak (aV (aq 2) (gOf (1)[0]!))
 (ak (bh #[(2)=#["owner"]] (cR (bO dH (0) dD)) aG)
 (ak (bh #[(2)=#["ground"]] (cR (bO iz (0) #[(1)[1]!,])) aG)
 (ak (bh #[(2)=#["enrol"]] (cR (bO lK (0) #[(1)[1]!,(1)[2]!,(1)[3]!])) aG)
 (ak (bh #[(2)=#["leave"]] (cR (bO lG (0) #[(1)[1]!,(1)[2]!])) aG)
 (ak (bh #[(2)=#["bring"]] (cR (bO lN (0) #[(1)[1]!,(1)[2]!,(1)[3]!])) aG)
 (ak (bh #[(2)=#["bear"]] (cR (bO mW (0) #[(1)[1]!,])) aG)
 (ak (bh #[(2)=#["cut"]] (cR (bO oJ (0) #[(1)[1]!,])) aG)
 (ak (bh #[(2)=#["tear"]] (cR (bO mU (0) #[(1)[1]!,(1)[2]!])) aG)
 (ak (bh #[(2)=#["sell"]] (cR (bO mV (0) #[(1)[1]!,(1)[2]!])) aG)
 (ak (bh #[(2)=#["move"]] (cR (bO mF (0) #[(1)[1]!,(1)[2]!])) aG)
 (ak (bh #[(2)=#["die"]] (cR (bO oF (0) #[(1)[1]!,])) aG)
 (ak (bh #[(2)=#["unite"]] (cR (bO oX (0) #[(1)[1]!,(1)[2]!])) aG)
 (ak (bh #[(2)=#["part"]] (cR (bO pK (0) #[(1)[1]!,])) aG)
 (ak (bh #[(2)=#["pass"]] (cR (bO jN (0) #[(1)[1]!,(1)[2]!])) aG)
 (cR (bO jf (0) #[(1)[1]!,(1)[2]!,(1)[3]!])))))))))))))))))
def iV:=mG 3 jK
def vW:SF:=
 (ak (bh #[(aK lH (3) #[2])=#[0]] (cR (yj iY #[(0:),(1:),(2:)])) aG)
 (ak (aV (aq 4) (gOf (qC .none)))
 (ak (Ux (aV (aq 4) (yj iV #[(0:),(1:)])) [⟨"CommonError",λx=>oA.lookup x,none,[(4,(.con .none))]⟩])
 (ak (bh (dW (vB false .none (4))) (aJ (2:)) aG)
 (ak (aV (aX [5,6,7]) (gOf (2:)))
 (ak (bh (FJ #[(1)[0]! = #["owner"]] #[(1)[0]! = #["heir"]]) (Jk 5 #[1]) aG)
 (ak (bh #[(1)[0]! = #["ground"]] (Jk 6 #[1]) aG)
 (ak (bh (FJ #[(1)[0]! = #["bring"]] #[(1)[0]! = #["bear"]]) (Jk 7 #[1]) aG)
 (aJ (aP #[(5:),(6:),(7:)]))))))))))
def pZ:=mG 8 vW
def Kf:SF:=
 (ak (aV (aq 7) (gOf (aN tY #[(6:),#[14],#[10]])))
 (ak (aV (aq 8) (gOf (aN vX #[aK dG (aK yF (7)[0]! #[10]) (7)[1]!,])))
 (ak (bh #[(aK lH (7)[12]! #[3])=#[1]] (aV (aq 8) (gOf (uV #[#["part"],#["unite"],#["leave"],#["pass"],#["heir"]])[aK lH (7)[11]! #[5]]!)) aG)
 (ak (aV (aq 5) (yj pZ #[(1:),aN wU #[(8:),(6:),(5:),(2:)],(5:),(7)[13]!]))
 (bh (jQ (gQ (aN Fd #[(1:),(3:),(4:),(2:)]))) (aJ (qC (.bool false))) aG)))))
def aeL:SF:=
 (ak (aV (aq 1) (Dm "Commons" rM dD))
 (ak (aV (aq 2) (gOf (dZ X8 (aN Dg #[(0:),#[0]]))))
 (ak (aV (aq 3) (gOf (aN Dg #[(0:),#[1]])))
 (ak (aV (aq 4) (yj Jz #[(1:),Nr (0) (o9 #[6]) (o9 #[44]),(2:)]))
 (ak (bh (jQ (gQ (aN Fd #[(1:),(3:),(4:),(2:)]))) (aJ (qC (.bool false))) aG)
 (ak (aV (aq 5) (gOf (4:)))
 (ak (mX (bQ (Nr (0) (o9 #[2]) (o9 #[6]))) (aq 6) Kf)
 (cR (yj Ot #[(1:),])))))))))
def aag:=mG 9 aeL
def ZV:FnScope ["self","ones","others","ear"] ["self","ones","others","ear"] (defScope Qw):=⟨rfl,rfl,rfl,#[[]],rfl,#[[]],#[[]]⟩
abbrev rX(N:List Str)(s:Stmt)(G:List (Str×GV))(B:List Str)(Ms:List (Str×TabMV))(ml:List Str):Option SF:=rd ⟨N,defScope s,G,B,⟨Ms,lO,xmH,dfH,ZF⟩,ml,true⟩ (defBody s)
abbrev rY(N:List Str)(s:Stmt)(G:List (Str×GV))(B:List Str)(Ms:List (Str×TabMV))(ml:List Str):Option SF:=rdG ⟨N,defScope s,G,B,⟨Ms,lO,xmH,dfH,ZF⟩,ml,true⟩ (defBody s)
def ak2:FnScope ["_law_found","_law_due","_law_one","_law_other"] ["_law_found","_law_due"] (defScope VP):=⟨rfl,rfl,rfl,#[[]],rfl,#[[]],#[[]]⟩
def amA:FnScope ["_law_script","_law_house","_law_head","_law_cell_here","_law_first","_law_counts","_law_more","_law_parts","_law_word"] ["_law_script"] (defScope Rp):=⟨rfl,rfl,rfl,#[[]],rfl,#[[]],#[[]]⟩
def Xd:rY ["self"] Kh [] [] [] []=some Bg:=#[_]
def ZW:rY ["self"] Np [] [] [] []=some Ds:=#[_]
def acI:rY ["self"] R5 [] [] [] []=some Jt:=#[_]
def Xq:rY ["self"] JD [("Herd",.cls 0 Cj),("Rights",.cls 0 yc),("Grounds",.cls 0 wB)] [] [] []=some Bp:=#[_]
def amy:rX ["_law_script","_law_k"] ago [] ["len"] [] []=some aaB:=#[_]
def aoC:rX ["_law_cell_here","_law_many","_law_base","_law_found","_law_k","_law_turn"] s_row [] ["range","abs"] [] ["_law_found"]=some aeA:=#[_]
def aiV:rX ["_law_figures","_law_mode","_law_figure"] aaG [] ["tuple","max"] [] []=some TQ:=#[_]
def aoH:rX ["_law_cell_here","_law_figures"] ai8 [("_law_ear_by",.fq 2 vL),("_law_row",.fq 3 tY)] [] [] []=some aeU:=#[_]
def acU:rX ["_law_head","_law_rows"] SJ [] [] [] []=some Jl:=#[_]
def ahh:rX ["_law_figure","_law_some"] YC [] [] [] []=some Ox:=#[_]
def Lp:rX ["self","owner"] yX [("NoOwner",.exc)] [] [] []=some nM:=#[_]
def Xx:rX ["self"] JW [] ["len"] [] []=some wH:=#[_]
def aad:rX ["self","ground"] Nk [] [] [("many",fW)] []=some Dq:=#[_]
def WQ:rX ["self","ground"] JR [("NoGround",.exc)] [] [("has",Bo)] []=some Bw:=#[_]
def WM:rX ["self","owner","ground","holder","where","mark"] JB [] [] [] []=some Ay:=#[_]
def Ol:rX ["self","owner","ground"] CW [] ["len"] [("marks",bU)] []=some v7:=#[_]
def K6:rX ["self","owner","ground"] zY [("NoRight",.exc)] [] [("has_right",uU)] []=some sY:=#[_]
def N5:rY ["self"] Ah [] [] [] []=some uX:=#[_]
def Qq:rY ["self","owner","ground","mark","row"] Df [("HasRight",.exc)] [] [] []=some pY:=#[_]
def al6:rX ["ear","many","heads","depth","head","left","cut"] agM [("GREATEST_DEPTH",.con cO)] ["range","min"] [] []=some aaA:=#[_]
def akE:rX ["one","other","here","there"] adq [] ["sum","zip"] [] []=some Yh:=#[_]
def acy:rX ["mark","extra","ear"] R9 [("lacks",.fq 2 pU),("torn",.fq 2 Pj)] [] [] []=some Jf:=#[_]
def aj3:rX ["one","other"] adS [("lacks",.fq 2 pU)] ["max"] [] []=some Xe:=#[_]
def amx:rX ["one","other","room"] af4 [("apart",.fq 2 KR)] [] [] []=some ab6:=#[_]
def aa4:rX ["mark","extra","rows","room","ear","owner","taken"] O6 [("NoneFree",.exc),("offspring",.fq 2 xV),("meet",.fq 3 uF)] ["any"] [] []=some yW:=#[_]
def Mx:rX ["self","owner","ground"] zV [] [] [("marks",bU)] []=some tG:=#[_]
def Pq:rX ["self","ground"] Dh [] ["list"] [("need",au)] []=some qp:=#[_]
def QC:rX ["self","ground"] CG [] [] [("together",bA)] []=some qK:=#[_]
def aiu:rX ["rows"] aaE [] ["sorted","set"] [] []=some Tj:=#[_]
def RP:rX ["self","number","beast"] Ef [] ["enumerate"] [] []=some xq:=#[_]
def XD:rX ["self","grounds","number","beast"] Ko [] [] [("all_living",bT)] []=some BK:=#[_]
def NZ:rX ["self","grounds","owner","ground","mark"] Ak [] [] [] []=some uQ:=#[_]
def Jg:rX ["self","left_out","ground","near","due","number","beast"] xP [("tidied",.fq 1 tZ)] [] [("in_grounds",tO),("grazing",fQ),("together",bJ)] []=some lU:=#[_]
def Oe:rX ["self","ground"] Cz [] [] [("standing_but",cZ)] []=some qO:=#[_]
def N6:rX ["self","ground"] Ao [] [] [("need",au)] []=some pG:=#[_]
def Xu:rX ["self","ground","near"] KC [] ["max"] [("together",bA),("allowance",eV)] []=some wz:=#[_]
def Xm:rX ["self","ground"] Kv [] [] [("room",u6)] []=some wA:=#[_]
def Qu:rY ["self","elder","ground","extra","mark","heir"] Dj [("first_free",.fq 4 rC),("BadExtra",.exc),("FEWEST_EXTRA",.con jM),("MOST_EXTRA",.con lZ)] [] [("add_right",ji),("new_owner",dH),("room",bH),("standing",aQ),("first_mark",bV),("need_right",aO),("need",au),("need_owner",ao)] []=some eU:=#[_]
def MN:rY ["self","allowance"] zF [("BadAllowance",.exc),("GREATEST_ALLOWANCE",.con iK)] [] [("many",fW)] []=some j7:=#[_]
def Mr:rY ["self","allowance"] Ac [] [] [("add_ground",mH)] []=some nQ:=#[_]
def agQ:rX ["owner","ear","rows","room","holder","mark"] Zf [("meet",.fq 3 uF),("tidied",.fq 1 tZ)] [] [] []=some Oi:=#[_]
def akU:rX ["one","other","here","there"] aei [] ["tuple","zip","max"] [] []=some Yd:=#[_]
def afb:rX ["owner","ear","rows","room","bars","holder","mark"] Vy [("Clash",.exi ["ones","others","ear"]),("joint",.fq 2 rE),("barring",.fq 4 wu)] [] [] []=some Et:=#[_]
def M5:rX ["self","owner","ear","ground"] zM [("ask_room",.fq 4 qm)] [] [("room",bH),("standing",aQ)] []=some nJ:=#[_]
def aiR:rX ["parts","depth"] abN [("GREATEST_DEPTH",.con cO),("PLACES",.con jy)] ["all","len"] [] []=some LR:=#[_]
def aex:rX ["parts"] V4 [("BadEar",.exc),("is_ear",.fq 1 vP)] [] [] []=some Lz:=#[_]
def U6:rY ["self","owner","ground","mark"] Hu [("HasRight",.exc),("Bare",.exc),("BARE_EAR",.con jV),("need_ear",.fq 1 nR)] [] [("add_right",ji),("ask_ground",bW),("marks",bU),("need",au),("need_owner",ao)] []=some gY:=#[_]
def aac:rY ["self","owner","ground","gone","mark"] Nq [("NoRight",.exc)] [] [("marks",bU)] []=some xZ:=#[_]
def Vv:rY ["self","owner","ground","number","beast"] Im [("StillThere",.exc)] ["any"] [("drop",Ba),("grazing",fQ),("need_right",aO),("need",au),("need_owner",ao)] []=some jW:=#[_]
def TV:rY ["self","stand","owner","ground","due","ear","alive"] Gm [] [] [] []=some uf:=#[_]
def ajO:rX ["first","word","mother","owner","ground","ear"] acY [("BARE_EAR",.con jV)] [] [] []=some Rm:=#[_]
def aa5:rY ["self","first"] Pu [("begun",.fq 1 Fe)] [] [("stand_so",kW)] []=some Fl:=#[_]
def Uc:rY ["self","first"] GJ [("Beast",.cls 1 vo)] ["len"] [] []=some yE:=#[_]
def Wk:rY ["self","owner","ground","ear"] HY [("need_ear",.fq 1 nR)] [] [("add_beast",kY),("need_right",aO),("need",au),("need_owner",ao)] []=some j8:=#[_]
def aa7:rX ["self","number"] Qx [("NoBeast",.exc)] ["len"] [] []=some vY:=#[_]
def aae:rX ["self","number","beast"] Nb [("Dead",.exc)] [] [("known",dX)] []=some xX:=#[_]
def Z9:rX ["self","number","beast"] Nm [("Unmarked",.exc)] [] [("living",bB)] []=some uH:=#[_]
def Xp:rY ["self","mother","cow"] Ku [] [] [("add_beast",kY),("marked",bx)] []=some oH:=#[_]
def afg:rX ["ear","place","at","depth"] U4 [] ["tuple","enumerate"] [] []=some Mz:=#[_]
def afX:rX ["stand","event","owner","ground","due","ear","alive","word"] Yx [("deepened",.fq 2 zR)] [] [] []=some QK:=#[_]
def Z5:rX ["self"] Nf [] [] [] []=some Du:=#[_]
def Yj:rY ["self","event"] Kg [("gone_on",.fq 2 CZ)] [] [("stand_so",kW),("stand",oR)] []=some Bv:=#[_]
def Z4:rY ["self","beast","found","due"] NQ [("joint",.fq 2 rE)] [] [("befall",bL),("ask_ground",bW),("first_mark",bV),("living",bB)] []=some pO:=#[_]
def Xr:rY ["self","beast","place","found"] JV [("Deepest",.exc),("GREATEST_DEPTH",.con cO),("NoPlace",.exc),("PLACES",.con jy)] ["len"] [("befall",bL),("living",bB)] []=some jE:=#[_]
def ZR:rX ["self","mother","number","beast"] NP [] [] [("all_living",bT),("known",dX)] []=some yt:=#[_]
def Oo:rY ["self","mother","beast","number","calf"] Dc [] [] [("calves",oV),("befall",bL),("known",dX)] []=some vZ:=#[_]
def X6:rY ["self","beast","buyer","found","due"] JM [("ask_room",.fq 4 qm),("joint",.fq 2 rE),("SameOwner",.exc)] [] [("lead_calves",jd),("befall",bL),("room",bH),("standing_but",cZ),("first_mark",bV),("need_right",aO),("need_owner",ao),("marked",bx)] []=some gK:=#[_]
def W9:rY ["self","beast","ground","found","left"] Kz [("SameGround",.exc)] [] [("lead_calves",jd),("befall",bL),("ask_ground",bW),("need_right",aO),("need",au),("marked",bx)] []=some gM:=#[_]
def Z7:rY ["self","beast"] Nu [] [] [("befall",bL),("living",bB)] []=some ux:=#[_]
def aeR:rX ["rows","room","tidy","at","row","greater"] Wn [("meet",.fq 3 uF),("tidied",.fq 1 tZ)] ["enumerate"] [] []=some LC:=#[_]
def PN:rX ["self","ground","other","room"] CP [("clashing",.fq 2 wD)] ["max"] [("standing",aQ),("room",bH)] []=some vR:=#[_]
def RL:rY ["self","grounds","circle","ground"] Ec [] ["tuple"] [] []=some wY:=#[_]
def Vu:rY ["self","ground","other","ones","others"] Hg [("Together",.exc)] ["sorted"] [("enclose",iD),("together",bA)] []=some uZ:=#[_]
def Vn:rY ["self","ground","other","pairs","row","greater"] Hr [("Clash",.exi ["ones","others","ear"]),("joint",.fq 2 rE),("Together",.exc)] [] [("unite",yH),("quarrels",gR),("together",bJ),("need",au)] []=some jY:=#[_]
def Xk:rY ["self","ground","left","near"] Ky [("Alone",.exc)] [] [("enclose",iD),("together",bA)] []=some rG:=#[_]
def Yp:rY ["self","ground"] Jx [] [] [("part",qM)] []=some rW:=#[_]
def Qe:rY ["self","elder","heir","owner","ground","mark"] Di [] [] [] []=some vJ:=#[_]
def abb:rX ["self","owner","number","beast"] Ql [] [] [("all_living",bT)] []=some FT:=#[_]
def RG:rY ["self","elder","heir","passed","number","beast"] DR [("SameOwner",.exc)] [] [("befall",bL),("owned",DG),("hand_over",uN),("need_owner",ao)] []=some kJ:=#[_]
def acP:rX ["kind","part","greatest"] Sv [("PLACES",.con jy),("GREATEST_PART",.con qj),("is_ear",.fq 1 vP)] ["isinstance","int","len","tuple"] [] []=some xR:=#[_]
def alz:rX ["deed","shape","parts","kind","part"] ahp [("part_fits",.fq 2 jk),("SHAPES",.dic (Cq BP))] ["all","zip","len"] [] []=some aaI:=#[_]
def abR:rY ["self","deed","word","parts"] Pg [("BadDeed",.exc),("fits",.fq 1 Kl)] [] [("new_heir",jf),("pass_on",jN),("part",yU),("unite",yJ),("die",oF),("move",mF),("sell",mV),("tear",mU),("cut",oJ),("bear",mW),("bring",lN),("leave",lG),("enrol",lK),("new_ground",iz),("new_owner",dH)] []=some cM:=#[_]
def alV:rY ["_law_house","_law_deed_here","_law_counts","_law_told_here","_law_owners","_law_grounds","_law_beasts"] aft [("CommonError",.exc)] [] [("do",eO)] []=some yV:=#[_]
def amu:rX ["_law_ear_here","_law_figures","_law_found","_law_depth","_law_figure","_law_more"] afH [] ["tuple","zip","max","min"] [] ["_law_found"]=some ace:=#[_]
def ahn:rX ["_law_figures","_law_mode","_law_base"] YL [("_law_ear_by",.fq 2 vL),("_law_near",.fq 2 Om)] [] [] []=some O5:=#[_]
def aoZ:rX ["_law_figure","_law_many","_law_sure"] ajF [] ["max"] [] []=some aan:=#[_]
def amj:rX ["_law_word","_law_one","_law_two","_law_parts","_law_counts","_law_base","_law_sure","_law_mark"] agC [("_law_ref",.fq 3 lu),("_law_mark_by",.fq 3 yL)] ["int"] [] []=some lE:=#[_]
def aoc:rY ["_law_house","_law_cells","_law_head","_law_counts","_law_base","_law_begun_here","_law_at","_law_cell_here","_law_parts","_law_word","_law_one","_law_two","_law_k"] afD [("_law_done",.fg 3 iY),("_law_deed",.fq 6 gJ),("_law_word_by",.fq 1 vX),("_law_row",.fq 3 tY),("_law_begun",.fq 1 xU),("_law_ear",.fq 1 Mp)] ["range","enumerate","len"] [] []=some VD:=#[_]
def abM:rX ["self"] Qo [] ["tuple"] [("stand",oR)] []=some Fx:=#[_]
def Tf:rX ["self"] Gx [] ["list"] [] []=some yD:=#[_]
def RJ:rX ["self"] DY [] ["list"] [] []=some wX:=#[_]
def Xa:rX ["self","grounds","beasts","ground","beast"] Kr [] ["range","tuple"] [("all_rows",v8),("owners",cP),("told",yh),("many",fW),("together",bJ),("allowance",eV)] []=some Br:=#[_]
def XF:rX ["self","owner","ground","ear"] KD [("barring",.fq 4 wu),("need_ear",.fq 1 nR)] [] [("room",bH),("standing",aQ),("need",au),("need_owner",ao)] []=some BJ:=#[_]
def abj:rX ["self","counts","number","beast","spot","cut","uncut"] Ow [] ["sorted"] [("all_living",bT)] []=some FZ:=#[_]
def U8:rX ["self"] Hl [] [] [("tally",Dt)] []=some zG:=#[_]
def aiF:rX ["shallow","deep","low","high"] ab2 [] ["all","zip"] [] []=some Uv:=#[_]
def acs:rX ["ear","rows","room","holder","mark"] Sh [("lacks",.fq 2 pU),("deeper",.fq 2 Bb)] ["tuple","sorted"] [] []=some Ju:=#[_]
def Uu:rX ["self","ground","rows","room","number","beast"] Gf [("owners_of",.fq 3 uJ)] [] [("grazing",fQ),("together",bJ),("room",bH),("standing",aQ)] []=some yC:=#[_]
def VF:rX ["self","owner","ground"] HX [] [] [("marks",bU),("need",au),("need_owner",ao)] []=some qD:=#[_]
def Ub:rX ["self","beast","number","calf"] Gg [] [] [("calves",oV)] []=some yw:=#[_]
def RK:rX ["self","beast"] Eb [] ["list"] [("known",dX)] []=some w6:=#[_]
def al9:rX ["_law_house","_law_way","_law_one","_law_other"] aha [] [] [("bars",zu),("quarrels",gR),("history",vU),("calves",qQ),("marks",dh),("gather",wZ),("standing",aQ),("together",cV),("tally",rR),("owners",cP)] []=some uz:=#[_]
def aj9:rX ["_law_house","_law_stand","_law_kept","_law_asked_here","_law_at","_law_way","_law_one","_law_other","_law_row_here","_law_owner"] ac3 [("_law_list",.fq 4 qN)] ["list","range","min","len"] [("look",fV)] ["_law_kept"]=some Yi:=#[_]
def akb:rX ["_law_found"] adg [] ["isinstance","bool","int"] [] []=some XR:=#[_]
def aoo(r:Mo->List Dat->Out Dat):rd ⟨["_law_found","_law_due","_law_one","_law_other"],defScope VP,[("_law_like",.fq 2 r),("_law_whole",.fq 1 Kw)],["zip","len","isinstance","list","tuple","str","int"],⟨[],lO,xmH,dfH,ZF⟩,[],true⟩ (defBody VP)=some (Ke r):=#[_]
def anf:rY ["_law_house","_law_told_here","_law_deed_here","_law_row_here","_law_copy"] ahw [("_law_like",.fq 2 (jD 10)),("_law_lists",.fq 1 Bt),("_law_done",.fg 3 iY)] ["all"] [("do",eO)] []=some aaY:=#[_]
def ajG:rX ["_law_word","_law_cell_here","_law_counts","_law_head","_law_parts"] acZ [("_law_deed",.fq 6 gJ),("_law_ear",.fq 1 Mp),("_law_row",.fq 3 tY)] [] [] []=some XC:=#[_]
def WT:rX ["_law_stand","_law_ground"] JL [] ["len"] [] []=some Bm:=#[_]
def apb:rX ["_law_cell_here"] ajd [] [] [] []=some aai:=#[_]
def apr:rX ["_law_value","_law_cell_here","_law_turn"] ajr [("_law_cut",.fq 1 Q8)] [] [] []=some aat:=#[_]
def aol:rX ["_law_rows","_law_found","_law_row_here"] afx [] ["sorted"] [] ["_law_found"]=some abB:=#[_]
def ahc:rX ["_law_stand","_law_grounds","_law_but","_law_rows","_law_at","_law_beast","_law_owner","_law_ground","_law_mark"] Yz [("_law_once",.fq 1 QD)] ["enumerate"] [] ["_law_rows"]=some O2:=#[_]
def aeN:rX ["_law_stand","_law_owner","_law_ground","_law_row_here"] Wh [] [] [] []=some La:=#[_]
def ahb:rX ["_law_stand","_law_ground","_law_one"] YX [] ["max"] [] []=some Og:=#[_]
def alB:rX ["_law_house","_law_owner","_law_ground","_law_way","_law_word","_law_told_here"] afR [("NoGround",.exc),("NoOwner",.exc)] [] [("room",lA),("together",cV),("standing",aQ),("marks",dh)] []=some vq:=#[_]
def akH:rX ["_law_house","_law_cell_here","_law_counts","_law_head","_law_deed_here","_law_owner","_law_ground","_law_stand","_law_due","_law_together","_law_rows","_law_marks","_law_way"] aeu [("_law_like",.fq 2 (jD 10)),("_law_told",.fq 4 rF),("_law_room_of",.fq 2 Cv),("_law_marks_of",.fq 3 za),("_law_rows_of",.fq 3 Cy),("_law_ground_there",.fq 2 sE),("_law_raw",.fq 3 Mq),("_law_asked",.fq 4 wU)] ["range","list"] [("look",fV),("owners",cP)] ["_law_due"]=some Ew:=#[_]
def akT:rX ["_law_house","_law_cell_here","_law_first","_law_head","_law_asked_here"] ael [("_law_right",.fq 4 uL)] [] [] []=some Yc:=#[_]
def akS:rY ["_law_house","_law_deed_here","_law_word"] adI [] [] [("new_heir",jf),("pass_on",jN),("part",pK),("unite",oX),("die",oF),("move",mF),("sell",mV),("tear",mU),("cut",oJ),("bear",mW),("bring",lN),("leave",lG),("enrol",lK),("new_ground",iz),("new_owner",dH)] []=some jK:=#[_]
def agl:rY ["_law_house","_law_deed_here","_law_counts","_law_way","_law_told_here","_law_owners","_law_grounds","_law_beasts"] YS [("_law_named",.fg 2 iV),("CommonError",.exc),("_law_done",.fg 3 iY)] [] [] []=some vW:=#[_]
def aoD:rY ["_law_script","_law_house","_law_head","_law_cell_here","_law_first","_law_counts","_law_more","_law_parts","_law_word"] Rp [("_law_stay",.fg 1 Ot),("_law_turns",.fq 4 Fd),("_law_done_so",.fg 4 pZ),("_law_asked",.fq 4 wU),("_law_word_by",.fq 1 vX),("_law_row",.fq 3 tY),("_law_play",.fg 3 Jz),("_law_cell",.fq 2 Dg),("Commons",.cls 0 rM)] ["abs"] [] []=some aeL:=#[_]
structure Top(w:World)(K:auT)(mg:Str->Option Value):Prop where
 ex:∃h:Heap,K.In h/\h.Ns mainGlobals mg
 c:Rr fa fn tbs exB w K
abbrev aj(w:World)(K:auT):aM:=qF w K xsH lO
open Lean in
local macro_rules
| `(#[$n:num,$s:str,$v]) => `((($(mkIdent `hk) : $n ≤ $(mkIdent `k) := by omega) → pH $(mkIdent `P) $(mkIdent `w) $(mkIdent `K) $(mkIdent `mg) $(mkIdent `base) (aj $(mkIdent `w) $(mkIdent `K)) $(mkIdent `k) $s $v))
| `(#[$n:num,$s:str,$m:str,$v]) => `((($(mkIdent `hk) : $n ≤ $(mkIdent `k) := by omega) → Gq $(mkIdent `P) $(mkIdent `w) $(mkIdent `K) $(mkIdent `mg) $(mkIdent `base) (aj $(mkIdent `w) $(mkIdent `K)) $(mkIdent `k) $s $m $v))
| `(#[$s:str,$v]) => `(pH $(mkIdent `P) $(mkIdent `w) $(mkIdent `K) $(mkIdent `mg) $(mkIdent `base) (aj $(mkIdent `w) $(mkIdent `K)) $(mkIdent `k) $s $v)
| `(#[$s:str,$m:str,$v]) => `(Gq $(mkIdent `P) $(mkIdent `w) $(mkIdent `K) $(mkIdent `mg) $(mkIdent `base) (aj $(mkIdent `w) $(mkIdent `K)) $(mkIdent `k) $s $m $v)
section
variable{P:Program}{w:World}{K:auT}{mg:Str->Option Value}{base:Heap}{k:Nat}(T:Top w K mg)
include T
theorem Top.glo(i:Nat){x:Str}(h:fa[i]?=some (.glo x):=by rfl):mg x=some (.ref (He.ga K x)):=by
 let⟨_,X,G⟩:=T.ex
 exact He.glo_ok X G (T.c.qT i h)
theorem Top.free(i:Nat){x:Str}(h:fa[i]?=some (.free x):=by rfl):mg x=none:=by
 let⟨_,X,G⟩:=T.ex
 exact He.free_ok X G (T.c.qT i h)
theorem Top.int(i:Nat){x:Str}{j:Int}(h:fa[i]?=some (.int x j):=by rfl):∃t,mg x=some (.int j t):=by
 let⟨_,X,G⟩:=T.ex
 exact He.int_ok X G (T.c.qT i h)
theorem Top.str(i:Nat){x j:Str}(h:fa[i]?=some (.str x j):=by rfl):∃t,mg x=some (.str j t):=by
 let⟨_,X,G⟩:=T.ex
 exact He.str_ok X G (T.c.qT i h)
theorem yx:#["GREATEST_DEPTH",.con cO]:=by
 let⟨t,h⟩:=T.int 169
 exact Ov h
theorem X5:#["FEWEST_EXTRA",.con jM]:=by
 let⟨t,h⟩:=T.int 170
 exact Ov h
theorem aa3:#["MOST_EXTRA",.con lZ]:=by
 let⟨t,h⟩:=T.int 171
 exact Ov h
theorem Ly:#["GREATEST_ALLOWANCE",.con iK]:=by
 let⟨t,h⟩:=T.int 172
 exact Ov h
theorem Tz:#["PLACES",.con jy]:=afQ (T.glo 173) (λH=>He.tupB_ok ((He.ba (He.ba (He.ba (He.ba T.c.more).1).1).1).2) H) rfl rfl ((He.ba (He.ba (He.ba T.c.more).1).1).2)
theorem Wy:#["BARE_EAR",.con jV]:=afQ (T.glo 174) (λH=>He.tupB_ok ((He.ba (He.ba T.c.more).1).2) H) rfl rfl ((He.ba T.c.more).2)
theorem Wu:#["GREATEST_PART",.con qj]:=by
 let⟨t,h⟩:=T.int 175
 exact Ov h
theorem ahG:#["SHAPES",.dic (Cq BP)]:=alT (T.glo 168) (He.ba (He.ba (He.ba (He.ba (He.ba T.c.more).1).1).1).1).2 (T.c.t.tab 0)
theorem Zx:#["NoOwner",.exc]:=jm (by rfl) (T.glo 124) (T.c.qT 125)
theorem U5:#["NoGround",.exc]:=jm (by rfl) (T.glo 126) (T.c.qT 127)
theorem YT:#["NoRight",.exc]:=jm (by rfl) (T.glo 128) (T.c.qT 129)
theorem Vj:#["HasRight",.exc]:=jm (by rfl) (T.glo 130) (T.c.qT 131)
theorem ae9:#["NoneFree",.exc]:=jm (by rfl) (T.glo 132) (T.c.qT 133)
theorem aez:#["BadExtra",.exc]:=jm (by rfl) (T.glo 134) (T.c.qT 135)
theorem Yo:#["BadAllowance",.exc]:=jm (by rfl) (T.glo 136) (T.c.qT 137)
theorem ah5:#["BadEar",.exc]:=jm (by rfl) (T.glo 139) (T.c.qT 140)
theorem amN:#["Bare",.exc]:=jm (by rfl) (T.glo 141) (T.c.qT 142)
theorem aaw:#["StillThere",.exc]:=jm (by rfl) (T.glo 143) (T.c.qT 144)
theorem ag0:#["NoBeast",.exc]:=jm (by rfl) (T.glo 146) (T.c.qT 147)
theorem an0:#["Dead",.exc]:=jm (by rfl) (T.glo 148) (T.c.qT 149)
theorem aeY:#["Unmarked",.exc]:=jm (by rfl) (T.glo 150) (T.c.qT 151)
theorem ahl:#["Deepest",.exc]:=jm (by rfl) (T.glo 152) (T.c.qT 153)
theorem afP:#["NoPlace",.exc]:=jm (by rfl) (T.glo 154) (T.c.qT 155)
theorem RW:#["SameOwner",.exc]:=jm (by rfl) (T.glo 156) (T.c.qT 157)
theorem abP:#["SameGround",.exc]:=jm (by rfl) (T.glo 158) (T.c.qT 159)
theorem Vc:#["Together",.exc]:=jm (by rfl) (T.glo 160) (T.c.qT 161)
theorem alo:#["Alone",.exc]:=jm (by rfl) (T.glo 162) (T.c.qT 163)
theorem agm:#["BadDeed",.exc]:=jm (by rfl) (T.glo 164) (T.c.qT 165)
theorem Nt:#["CommonError",.exc]:=jm (by rfl) (T.glo 166) (T.c.qT 167)
theorem Top.ajC:QL K lO=true:=(He.ba (He.ba (He.ba (He.ba (He.ba (He.ba (He.ba (He.ba T.c.more).1).1).1).1).1).1).1).2
theorem Top.xf:(ZF.all λp=>xsH.contains p.1&&Xo K p.1 p.2)=true:=(He.ba (He.ba (He.ba (He.ba (He.ba (He.ba T.c.more).1).1).1).1).1).2
theorem Top.hs{Ms:List (Str×TabMV)}(h:Jh P w K mg base (aj w K) k Ms):W8 P w K mg base (aj w K) k ⟨Ms,lO,xmH,dfH,ZF⟩:=aoN h T.ajC (He.ba (He.ba (He.ba (He.ba (He.ba (He.ba (He.ba T.c.more).1).1).1).1).1).1).2 (by rfl) T.xf
theorem Top.cls{c:Str}{fs:List Str}(h:lO.lookup c=some fs:=by rfl):Cls K (He.ga K c):=(acp T.ajC h).1
local macro_rules | `(tactic| nofun)=>`(tactic| first | (exact λ_ _ _ _ _ _ us hl=>match us,hl with | [_],_=>rfl) | (exact λ_ _ _ _ _ _ us hl=>match us,hl with | [_,_],_=>rfl) | (exact λ_ _ _ _ _ _ us hl=>match us,hl with | [_,_,_],_=>rfl) | (exact λ_ _ _ _ _ _ us hl=>match us,hl with | [_,_,_,_],_=>rfl) | (exact λ_ _ _ _ _ _ us hl=>match us,hl with | [_,_,_,_,_],_=>rfl) | (exact λ_ _ _ _ _ _ us hl=>match us,hl with | [_,_,_,_,_,_],_=>rfl) | (exact λ_ _ _ _ _ _ us hl=>match us,hl with | [_,_,_,_,_,_,_],_=>rfl) | (exact λ_ _ _ _ _ _ us hl=>match us,hl with | [_,_,_,_,_,_,_,_],_=>rfl))
theorem vQ(i j:Nat){x:Str}{k0:Nat}(hk:k0+1<=k){st:Stmt}{N ps ml B:List Str}{G:LsS GV}{Ms:List (Str×TabMV)}{body:SF}(h:rX N st G B Ms ml=some body)(g:Gy P w K mg base (aj w K) k0 G)(b:Gn mg B)(ms:Jh P w K mg base (aj w K) k0 Ms)(hi:fn[i]?=some (dF x st):=by rfl)(hj:fa[j]?=some (.glo x):=by rfl)(S:FnScope N ps (defScope st):=by exact⟨rfl,rfl,rfl,#[[]],rfl,#[[]],#[[]]⟩)(hb:∀(kV doc pm:Value) (an:Option Addr) (cdv ct:Value) (us:List Value),us.length=ps.length->bindArgs (PySem.W.fnOf x x (defArgs st) (defBody st) (defScope st) .none kV doc pm an cdv ct) ⟨us,[]⟩=pure (ps.zip us):=by nofun):pH P w K mg base (aj w K) k x (.fq ps.length (mQ N.length body)):=by
 let⟨fd,F⟩:=T.c.Ys i hi
 exact aiD hk (T.glo j hj) F.kp (FunD.bindsN (ps:=ps) F hb) (abS (Iz F) S g b (T.hs ms) h)
theorem wQ(i j:Nat){c m q:Str}{k0:Nat}(hk:k0+1<=k){st:Stmt}{N ps ml B:List Str}{G:LsS GV}{Ms:List (Str×TabMV)}{body:SF}(h:rX N st G B Ms ml=some body)(g:Gy P w K mg base (aj w K) k0 G)(b:Gn mg B)(ms:Jh P w K mg base (aj w K) k0 Ms)(hi:fn[i]?=some (dM c m q st):=by rfl)(hj:fa[j]?=some (.meth c m):=by rfl)(hx:xsH.contains c=true:=by rfl){fs:List Str}(hc:lO.lookup c=some fs:=by rfl)(hf:((lO.lookup c).getD []).contains m=false:=by rfl)(S:FnScope N ps (defScope st):=by exact⟨rfl,rfl,rfl,#[[]],rfl,#[[]],#[[]]⟩)(hb:∀(kV doc pm:Value) (an:Option Addr) (cdv ct:Value) (us:List Value),us.length=ps.length->bindArgs (PySem.W.fnOf m q (defArgs st) (defBody st) (defScope st) .none kV doc pm an cdv ct) ⟨us,[]⟩=pure (ps.zip us):=by nofun):Gq P w K mg base (aj w K) k c m (.q ps.length (mQ N.length body)):=by
 let⟨fd,F⟩:=T.c.Ys i hi
 exact aqM hk hx (T.cls hc) (T.c.qT j hj) hf (FunD.bindsN (ps:=ps) F hb) (abS (Iz F) S g b (T.hs ms) h)
theorem vG(i j:Nat){x:Str}{k0:Nat}(hk:k0+1<=k){st:Stmt}{N ps ml B:List Str}{G:LsS GV}{Ms:List (Str×TabMV)}{body:SF}(h:rY N st G B Ms ml=some body)(g:Gy P w K mg base (aj w K) k0 G)(b:Gn mg B)(ms:Jh P w K mg base (aj w K) k0 Ms)(hi:fn[i]?=some (dF x st):=by rfl)(hj:fa[j]?=some (.glo x):=by rfl)(S:FnScope N ps (defScope st):=by exact⟨rfl,rfl,rfl,#[[]],rfl,#[[]],#[[]]⟩)(hb:∀(kV doc pm:Value) (an:Option Addr) (cdv ct:Value) (us:List Value),us.length=ps.length->bindArgs (PySem.W.fnOf x x (defArgs st) (defBody st) (defScope st) .none kV doc pm an cdv ct) ⟨us,[]⟩=pure (ps.zip us):=by nofun):pH P w K mg base (aj w K) k x (.fg ps.length (mG N.length body)):=by
 let⟨fd,F⟩:=T.c.Ys i hi
 exact aqu hk (T.glo j hj) F.kp (FunD.bindsN (ps:=ps) F hb) (V7 (Iz F) S g b (T.hs ms) h)
theorem wG(i j:Nat){c m q:Str}{k0:Nat}(hk:k0+1<=k){st:Stmt}{N ps ml B:List Str}{G:LsS GV}{Ms:List (Str×TabMV)}{body:SF}(h:rY N st G B Ms ml=some body)(g:Gy P w K mg base (aj w K) k0 G)(b:Gn mg B)(ms:Jh P w K mg base (aj w K) k0 Ms)(hi:fn[i]?=some (dM c m q st):=by rfl)(hj:fa[j]?=some (.meth c m):=by rfl)(hx:xsH.contains c=true:=by rfl){fs:List Str}(hc:lO.lookup c=some fs:=by rfl)(hf:((lO.lookup c).getD []).contains m=false:=by rfl)(S:FnScope N ps (defScope st):=by exact⟨rfl,rfl,rfl,#[[]],rfl,#[[]],#[[]]⟩)(hb:∀(kV doc pm:Value) (an:Option Addr) (cdv ct:Value) (us:List Value),us.length=ps.length->bindArgs (PySem.W.fnOf m q (defArgs st) (defBody st) (defScope st) .none kV doc pm an cdv ct) ⟨us,[]⟩=pure (ps.zip us):=by nofun):Gq P w K mg base (aj w K) k c m (.g ps.length (mG N.length body)):=by
 let⟨fd,F⟩:=T.c.Ys i hi
 exact aqy hk hx (T.cls hc) (T.c.qT j hj) hf (FunD.bindsN (ps:=ps) F hb) (V7 (Iz F) S g b (T.hs ms) h)
theorem vI(i j l:Nat){c q:Str}{n:Nat}{k0:Nat}{st:Stmt}{N ps ml B:List Str}{G:LsS GV}{Ms:List (Str×TabMV)}{body:SF}(h:rY N st G B Ms ml=some body)(g:Gy P w K mg base (aj w K) k0 G)(b:Gn mg B)(ms:Jh P w K mg base (aj w K) k0 Ms)(hk:k0+1+1<=k)(hi:fn[i]?=some (dM c "__init__" q st):=by rfl)(hj:fa[j]?=some (.mkr c):=by rfl)(hg:fa[l]?=some (.glo c):=by rfl)(hx:xsH.contains c=true:=by rfl){fs:List Str}(hc:lO.lookup c=some fs:=by rfl)(hp:ps.length=n+1:=by rfl)(S:FnScope N ps (defScope st):=by exact⟨rfl,rfl,rfl,#[[]],rfl,#[[]],#[[]]⟩)(hb:∀(kV doc pm:Value) (an:Option Addr) (cdv ct:Value) (us:List Value),us.length=ps.length->bindArgs (PySem.W.fnOf "__init__" q (defArgs st) (defBody st) (defScope st) .none kV doc pm an cdv ct) ⟨us,[]⟩=pure (ps.zip us):=by nofun):pH P w K mg base (aj w K) k c (.cls n (mG N.length body)):=by
 let⟨fd,F⟩:=T.c.Ys i hi
 exact aoa hk hx (T.glo l hg) (T.cls hc) (T.c.qT j hj) hp (FunD.bindsN (ps:=ps) F hb) (V7 (Iz F) S g b (T.hs ms) h)
theorem adC(hk:2<=k):#["Clash",.exi ["ones","others","ear"]]:=by
 have ho:Xo K "Clash" ["ones","others","ear"]=true:=(He.ba (avl.mp T.xf _ (show(("Clash" : Str),(["ones","others","ear"]:List Str))∈ZF by simp[ZF]))).2
 let⟨o1,o2,o3,o4,o5⟩:=Xy ho
 let⟨fd,F⟩:=T.c.Ys 120
 have b:=FunD.bindsN (ps:=["self","ones","others","ear"]) F λ_ _ _ _ _ _ us hl=>match us,hl with|[_,_,_,_],_=>rfl
 exact alA hk (by rfl) (T.glo 138) ho rfl b (ahq (Iz F) ZV o1 (by rfl) #[()] (o5 _ #[()]) (o5 _ #[()]) (o5 _ #[()]))
theorem afN:#[2,"Grounds",.cls 0 wB]:=λhk=>vI T 0 0 120 (ps:=["self"]) Xd awa awa awa hk
theorem aiX:#[2,"Rights",.cls 0 yc]:=λhk=>vI T 1 1 121 (ps:=["self"]) ZW awa awa awa hk
theorem amd:#[2,"Herd",.cls 0 Cj]:=λhk=>vI T 2 2 122 (ps:=["self"]) acI awa awa awa hk
theorem agH:#[4,"Commons",.cls 0 rM]:=λhk=>vI T 3 3 123 (ps:=["self"]) Xq ⟨amd T,aiX T,afN T,awa⟩ awa awa hk
theorem aoh:#[1,"_law_cell",.fq 2 Dg]:=λhk=>vQ T 4 4 hk (ps:=["_law_script","_law_k"]) amy awa ⟨T.free 176,awa⟩ awa
theorem aao:#[1,"_law_row",.fq 3 tY]:=λhk=>vQ T 5 5 hk (ps:=["_law_cell_here","_law_many","_law_base"]) aoC awa ⟨T.free 177,T.free 178,awa⟩ awa
theorem abE:#[1,"_law_ear_by",.fq 2 vL]:=λhk=>vQ T 6 6 hk (ps:=["_law_figures","_law_mode"]) aiV awa ⟨T.free 179,T.free 180,awa⟩ awa
theorem ajq:#[2,"_law_ear",.fq 1 Mp]:=λhk=>vQ T 7 7 hk (ps:=["_law_cell_here"]) aoH ⟨abE T,aao T,awa⟩ awa awa
theorem acT:#[1,"_law_begun",.fq 1 xU]:=λhk=>vQ T 8 8 hk (ps:=["_law_head"]) acU awa awa awa
theorem ZP:#[1,"_law_word_by",.fq 1 vX]:=λhk=>vQ T 9 9 hk (ps:=["_law_figure"]) ahh awa awa awa
theorem eG:#[1,"Commons","need_owner",.q 2 kE]:=λhk=>wQ T 10 10 hk (ps:=["self","owner"]) Lp ⟨Zx T,awa⟩ awa awa
theorem yS:#[1,"Grounds","many",.q 1 rZ]:=λhk=>wQ T 11 11 hk (ps:=["self"]) Xx awa ⟨T.free 176,awa⟩ awa
theorem Xz:#[2,"Grounds","has",.q 2 yu]:=λhk=>wQ T 12 12 hk (ps:=["self","ground"]) aad awa awa ⟨⟨yS T,awa⟩,awa⟩
theorem fY:#[3,"Grounds","need",.q 2 wN]:=λhk=>wQ T 13 13 hk (ps:=["self","ground"]) WQ ⟨U5 T,awa⟩ awa ⟨⟨Xz T,awa⟩,awa⟩
theorem kh:#[1,"Rights","marks",.q 3 rA]:=λhk=>wQ T 14 14 hk (ps:=["self","owner","ground"]) WM awa awa awa
theorem N8:#[2,"Rights","has_right",.q 3 ql]:=λhk=>wQ T 15 15 hk (ps:=["self","owner","ground"]) Ol awa ⟨T.free 176,awa⟩ ⟨⟨kh T,awa⟩,awa⟩
theorem jG:#[3,"Commons","need_right",.q 3 nu]:=λhk=>wQ T 16 16 hk (ps:=["self","owner","ground"]) K6 ⟨YT T,awa⟩ awa ⟨⟨N8 T,awa⟩,awa⟩
theorem tX:#[1,"Commons","new_owner",.g 1 gU]:=λhk=>wG T 17 17 hk (ps:=["self"]) N5 awa awa awa
theorem Aj:#[1,"Rights","add_right",.g 4 jC]:=λhk=>wG T 18 18 hk (ps:=["self","owner","ground","mark"]) Qq ⟨Vj T,awa⟩ awa awa
theorem am3:#[1,"torn",.fq 2 Pj]:=λhk=>vQ T 19 19 hk (ps:=["ear","many"]) al6 ⟨yx T,awa⟩ ⟨T.free 177,T.free 181,awa⟩ awa
theorem Xv:#[1,"lacks",.fq 2 pU]:=λhk=>vQ T 20 20 hk (ps:=["one","other"]) akE awa ⟨T.free 182,T.free 183,awa⟩ awa
theorem acS:#[2,"offspring",.fq 2 xV]:=λhk=>vQ T 21 21 hk (ps:=["mark","extra"]) acy ⟨Xv T,am3 T,awa⟩ awa awa
theorem ajT:#[2,"apart",.fq 2 KR]:=λhk=>vQ T 22 22 hk (ps:=["one","other"]) aj3 ⟨Xv T,awa⟩ ⟨T.free 180,awa⟩ awa
theorem aaH:#[3,"meet",.fq 3 uF]:=λhk=>vQ T 23 23 hk (ps:=["one","other","room"]) amx ⟨ajT T,awa⟩ awa awa
theorem aa1:#[4,"first_free",.fq 4 rC]:=λhk=>vQ T 24 24 hk (ps:=["mark","extra","rows","room"]) aa4 ⟨ae9 T,acS T,aaH T,awa⟩ ⟨T.free 184,awa⟩ awa
theorem rH:#[2,"Commons","first_mark",.q 3 nH]:=λhk=>wQ T 25 25 hk (ps:=["self","owner","ground"]) Mx awa awa ⟨⟨kh T,awa⟩,awa⟩
theorem jh:#[4,"Grounds","together",.q 2 jO]:=λhk=>wQ T 26 26 hk (ps:=["self","ground"]) Pq awa ⟨T.free 185,awa⟩ ⟨⟨fY T,awa⟩,awa⟩
theorem jg:#[5,"Commons","together",.q 2 jJ]:=λhk=>wQ T 27 27 hk (ps:=["self","ground"]) QC awa awa ⟨⟨jh T,awa⟩,awa⟩
theorem Us:#[1,"tidied",.fq 1 tZ]:=λhk=>vQ T 28 28 hk (ps:=["rows"]) aiu awa ⟨T.free 186,T.free 187,awa⟩ awa
theorem qw:#[1,"Herd","all_living",.q 1 qX]:=λhk=>wQ T 29 29 hk (ps:=["self"]) RP awa ⟨T.free 188,awa⟩ awa
theorem zA:#[2,"Herd","grazing",.q 2 rB]:=λhk=>wQ T 30 30 hk (ps:=["self","grounds"]) XD awa awa ⟨⟨qw T,awa⟩,awa⟩
theorem Mg:#[1,"Rights","in_grounds",.q 2 pC]:=λhk=>wQ T 31 31 hk (ps:=["self","grounds"]) NZ awa awa awa
theorem wW:#[6,"Commons","standing_but",.q 3 jo]:=λhk=>wQ T 32 32 hk (ps:=["self","left_out","ground"]) Jg ⟨Us T,awa⟩ awa ⟨⟨Mg T,awa⟩,⟨zA T,awa⟩,⟨jg T,awa⟩,awa⟩
theorem gW:#[7,"Commons","standing",.q 2 lY]:=λhk=>wQ T 33 33 hk (ps:=["self","ground"]) Oe awa awa ⟨⟨wW T,awa⟩,awa⟩
theorem Aa:#[4,"Grounds","allowance",.q 2 lF]:=λhk=>wQ T 34 34 hk (ps:=["self","ground"]) N6 awa awa ⟨⟨fY T,awa⟩,awa⟩
theorem Ir:#[5,"Grounds","room",.q 2 oO]:=λhk=>wQ T 35 35 hk (ps:=["self","ground"]) Xu awa ⟨T.free 180,awa⟩ ⟨⟨jh T,awa⟩,⟨Aa T,awa⟩,awa⟩
theorem jX:#[6,"Commons","room",.q 2 oU]:=λhk=>wQ T 36 36 hk (ps:=["self","ground"]) Xm awa awa ⟨⟨Ir T,awa⟩,awa⟩
theorem Ai:#[8,"Commons","new_heir",.g 4 cG]:=λhk=>wG T 37 37 hk (ps:=["self","elder","ground","extra"]) Qu ⟨aa1 T,aez T,X5 T,aa3 T,awa⟩ awa ⟨⟨Aj T,awa⟩,⟨tX T,awa⟩,⟨jX T,awa⟩,⟨gW T,awa⟩,⟨rH T,awa⟩,⟨jG T,awa⟩,⟨fY T,awa⟩,⟨eG T,awa⟩,awa⟩
theorem JQ:#[2,"Grounds","add_ground",.g 2 gD]:=λhk=>wG T 38 38 hk (ps:=["self","allowance"]) MN ⟨Yo T,Ly T,awa⟩ awa ⟨⟨yS T,awa⟩,awa⟩
theorem yM:#[3,"Commons","new_ground",.g 2 gG]:=λhk=>wG T 39 39 hk (ps:=["self","allowance"]) Mr awa awa ⟨⟨JQ T,awa⟩,awa⟩
theorem Yy:#[4,"barring",.fq 4 wu]:=λhk=>vQ T 40 40 hk (ps:=["owner","ear","rows","room"]) agQ ⟨aaH T,Us T,awa⟩ awa awa
theorem Q5:#[1,"joint",.fq 2 rE]:=λhk=>vQ T 41 41 hk (ps:=["one","other"]) akU awa ⟨T.free 179,T.free 183,T.free 180,awa⟩ awa
theorem VG:#[5,"ask_room",.fq 4 qm]:=λhk=>vQ T 42 42 hk (ps:=["owner","ear","rows","room"]) afb ⟨adC T #[()],Q5 T,Yy T,awa⟩ awa awa
theorem rJ:#[8,"Commons","ask_ground",.q 4 iH]:=λhk=>wQ T 43 43 hk (ps:=["self","owner","ear","ground"]) M5 ⟨VG T,awa⟩ awa ⟨⟨jX T,awa⟩,⟨gW T,awa⟩,awa⟩
theorem abf:#[1,"is_ear",.fq 1 vP]:=λhk=>vQ T 44 44 hk (ps:=["parts"]) aiR ⟨yx T,Tz T,awa⟩ ⟨T.free 189,T.free 176,awa⟩ awa
theorem LK:#[2,"need_ear",.fq 1 nR]:=λhk=>vQ T 45 45 hk (ps:=["parts"]) aex ⟨ah5 T,abf T,awa⟩ awa awa
theorem GX:#[9,"Commons","enrol",.g 4 dU]:=λhk=>wG T 46 46 hk (ps:=["self","owner","ground","mark"]) U6 ⟨Vj T,amN T,Wy T,LK T,awa⟩ awa ⟨⟨Aj T,awa⟩,⟨rJ T,awa⟩,⟨kh T,awa⟩,⟨fY T,awa⟩,⟨eG T,awa⟩,awa⟩
theorem Xj:#[2,"Rights","drop",.g 3 pW]:=λhk=>wG T 47 47 hk (ps:=["self","owner","ground"]) aac ⟨YT T,awa⟩ awa ⟨⟨kh T,awa⟩,awa⟩
theorem Gk:#[4,"Commons","leave",.g 3 fU]:=λhk=>wG T 48 48 hk (ps:=["self","owner","ground"]) Vv ⟨aaw T,awa⟩ ⟨T.free 184,awa⟩ ⟨⟨Xj T,awa⟩,⟨zA T,awa⟩,⟨jG T,awa⟩,⟨fY T,awa⟩,⟨eG T,awa⟩,awa⟩
theorem Ed:#[1,"Beast","stand_so",.g 2 oW]:=λhk=>wG T 49 49 hk (ps:=["self","stand"]) TV awa awa awa
theorem akN:#[1,"begun",.fq 1 Fe]:=λhk=>vQ T 50 50 hk (ps:=["first"]) ajO ⟨Wy T,awa⟩ awa awa
theorem ajM:#[3,"Beast",.cls 1 vo]:=λhk=>vI T 51 51 145 (ps:=["self","first"]) aa5 ⟨akN T,awa⟩ awa ⟨⟨Ed T,awa⟩,awa⟩ hk
theorem DW:#[4,"Herd","add_beast",.g 2 tL]:=λhk=>wG T 52 52 hk (ps:=["self","first"]) Uc ⟨ajM T,awa⟩ ⟨T.free 176,awa⟩ awa
theorem Hf:#[5,"Commons","bring",.g 4 fX]:=λhk=>wG T 53 53 hk (ps:=["self","owner","ground","ear"]) Wk ⟨LK T,awa⟩ awa ⟨⟨DW T,awa⟩,⟨jG T,awa⟩,⟨fY T,awa⟩,⟨eG T,awa⟩,awa⟩
theorem yd:#[1,"Herd","known",.q 2 lW]:=λhk=>wQ T 54 54 hk (ps:=["self","number"]) aa7 ⟨ag0 T,awa⟩ ⟨T.free 176,awa⟩ awa
theorem wF:#[2,"Herd","living",.q 2 uw]:=λhk=>wQ T 55 55 hk (ps:=["self","number"]) aae ⟨an0 T,awa⟩ awa ⟨⟨yd T,awa⟩,awa⟩
theorem BX:#[3,"Herd","marked",.q 2 pP]:=λhk=>wQ T 56 56 hk (ps:=["self","number"]) Z9 ⟨aeY T,awa⟩ awa ⟨⟨wF T,awa⟩,awa⟩
theorem Hv:#[5,"Commons","bear",.g 2 iT]:=λhk=>wG T 57 57 hk (ps:=["self","mother"]) Xp awa awa ⟨⟨DW T,awa⟩,⟨BX T,awa⟩,awa⟩
theorem aeZ:#[1,"deepened",.fq 2 zR]:=λhk=>vQ T 58 58 hk (ps:=["ear","place"]) afg awa ⟨T.free 179,T.free 188,awa⟩ awa
theorem aga:#[2,"gone_on",.fq 2 CZ]:=λhk=>vQ T 59 59 hk (ps:=["stand","event"]) afX ⟨aeZ T,awa⟩ awa awa
theorem JH:#[1,"Beast","stand",.q 1 yr]:=λhk=>wQ T 60 60 hk (ps:=["self"]) Z5 awa awa awa
theorem j6:#[3,"Beast","befall",.g 2 oE]:=λhk=>wG T 61 61 hk (ps:=["self","event"]) Yj ⟨aga T,awa⟩ awa ⟨⟨Ed T,awa⟩,⟨JH T,awa⟩,awa⟩
theorem Ks:#[9,"Commons","cut",.g 2 jw]:=λhk=>wG T 62 62 hk (ps:=["self","beast"]) Z4 ⟨Q5 T,awa⟩ awa ⟨⟨j6 T,awa⟩,⟨rJ T,awa⟩,⟨rH T,awa⟩,⟨wF T,awa⟩,awa⟩
theorem Ij:#[4,"Commons","tear",.g 3 fP]:=λhk=>wG T 63 63 hk (ps:=["self","beast","place"]) Xr ⟨ahl T,yx T,afP T,Tz T,awa⟩ ⟨T.free 176,awa⟩ ⟨⟨j6 T,awa⟩,⟨wF T,awa⟩,awa⟩
theorem Bu:#[2,"Herd","calves",.q 2 pQ]:=λhk=>wQ T 64 64 hk (ps:=["self","mother"]) ZR awa awa ⟨⟨qw T,awa⟩,⟨yd T,awa⟩,awa⟩
theorem Aq:#[4,"Herd","lead_calves",.g 2 qI]:=λhk=>wG T 65 65 hk (ps:=["self","mother"]) Oo awa awa ⟨⟨Bu T,awa⟩,⟨j6 T,awa⟩,⟨yd T,awa⟩,awa⟩
theorem HF:#[7,"Commons","sell",.g 3 dO]:=λhk=>wG T 66 66 hk (ps:=["self","beast","buyer"]) X6 ⟨VG T,Q5 T,RW T,awa⟩ awa ⟨⟨Aq T,awa⟩,⟨j6 T,awa⟩,⟨jX T,awa⟩,⟨wW T,awa⟩,⟨rH T,awa⟩,⟨jG T,awa⟩,⟨eG T,awa⟩,⟨BX T,awa⟩,awa⟩
theorem HS:#[9,"Commons","move",.g 3 dN]:=λhk=>wG T 67 67 hk (ps:=["self","beast","ground"]) W9 ⟨abP T,awa⟩ awa ⟨⟨Aq T,awa⟩,⟨j6 T,awa⟩,⟨rJ T,awa⟩,⟨jG T,awa⟩,⟨fY T,awa⟩,⟨BX T,awa⟩,awa⟩
theorem JZ:#[4,"Commons","die",.g 2 kZ]:=λhk=>wG T 68 68 hk (ps:=["self","beast"]) Z7 awa awa ⟨⟨j6 T,awa⟩,⟨wF T,awa⟩,awa⟩
theorem aeP:#[4,"clashing",.fq 2 wD]:=λhk=>vQ T 69 69 hk (ps:=["rows","room"]) aeR ⟨aaH T,Us T,awa⟩ ⟨T.free 188,awa⟩ awa
theorem Ar:#[8,"Commons","quarrels",.q 3 mj]:=λhk=>wQ T 70 70 hk (ps:=["self","ground","other"]) PN ⟨aeP T,awa⟩ ⟨T.free 180,awa⟩ ⟨⟨gW T,awa⟩,⟨jX T,awa⟩,awa⟩
theorem CT:#[1,"Grounds","enclose",.g 2 m7]:=λhk=>wG T 71 71 hk (ps:=["self","grounds"]) RL awa ⟨T.free 179,awa⟩ awa
theorem Fv:#[5,"Grounds","unite",.g 3 jZ]:=λhk=>wG T 72 72 hk (ps:=["self","ground","other"]) Vu ⟨Vc T,awa⟩ ⟨T.free 186,awa⟩ ⟨⟨CT T,awa⟩,⟨jh T,awa⟩,awa⟩
theorem Fo:#[9,"Commons","unite",.g 3 eZ]:=λhk=>wG T 73 73 hk (ps:=["self","ground","other"]) Vn ⟨adC T #[()],Q5 T,Vc T,awa⟩ awa ⟨⟨Fv T,awa⟩,⟨Ar T,awa⟩,⟨jg T,awa⟩,⟨fY T,awa⟩,awa⟩
theorem IV:#[5,"Grounds","part",.g 2 iJ]:=λhk=>wG T 74 74 hk (ps:=["self","ground"]) Xk ⟨alo T,awa⟩ awa ⟨⟨CT T,awa⟩,⟨jh T,awa⟩,awa⟩
theorem Ie:#[6,"Commons","part",.g 2 iI]:=λhk=>wG T 75 75 hk (ps:=["self","ground"]) Yp awa awa ⟨⟨IV T,awa⟩,awa⟩
theorem NT:#[1,"Rights","hand_over",.g 3 qb]:=λhk=>wG T 76 76 hk (ps:=["self","elder","heir"]) Qe awa awa awa
theorem ZX:#[2,"Herd","owned",.q 2 zU]:=λhk=>wQ T 77 77 hk (ps:=["self","owner"]) abb awa awa ⟨⟨qw T,awa⟩,awa⟩
theorem CK:#[4,"Commons","pass_on",.g 3 fH]:=λhk=>wG T 78 78 hk (ps:=["self","elder","heir"]) RG ⟨RW T,awa⟩ awa ⟨⟨j6 T,awa⟩,⟨ZX T,awa⟩,⟨NT T,awa⟩,⟨eG T,awa⟩,awa⟩
theorem acN:#[2,"part_fits",.fq 2 jk]:=λhk=>vQ T 79 79 hk (ps:=["kind","part"]) acP ⟨Tz T,Wu T,abf T,awa⟩ ⟨T.free 190,T.free 191,T.free 176,T.free 179,awa⟩ awa
theorem amP:#[3,"fits",.fq 1 Kl]:=λhk=>vQ T 80 80 hk (ps:=["deed"]) alz ⟨acN T,ahG T,awa⟩ ⟨T.free 189,T.free 183,T.free 176,awa⟩ awa
theorem M9:#[10,"Commons","do",.g 2 cA]:=λhk=>wG T 81 81 hk (ps:=["self","deed"]) abR ⟨agm T,amP T,awa⟩ awa ⟨⟨Ai T,awa⟩,⟨CK T,awa⟩,⟨Ie T,awa⟩,⟨Fo T,awa⟩,⟨JZ T,awa⟩,⟨HS T,awa⟩,⟨HF T,awa⟩,⟨Ij T,awa⟩,⟨Ks T,awa⟩,⟨Hv T,awa⟩,⟨Hf T,awa⟩,⟨Gk T,awa⟩,⟨GX T,awa⟩,⟨yM T,awa⟩,⟨tX T,awa⟩,awa⟩
theorem abX:#[11,"_law_done",.fg 3 iY]:=λhk=>vG T 82 82 hk (ps:=["_law_house","_law_deed_here","_law_counts"]) alV ⟨Nt T,awa⟩ awa ⟨⟨M9 T,awa⟩,awa⟩
theorem al1:#[1,"_law_near",.fq 2 Om]:=λhk=>vQ T 83 83 hk (ps:=["_law_ear_here","_law_figures"]) amu awa ⟨T.free 179,T.free 183,T.free 180,T.free 181,awa⟩ awa
theorem agy:#[2,"_law_mark_by",.fq 3 yL]:=λhk=>vQ T 84 84 hk (ps:=["_law_figures","_law_mode","_law_base"]) ahn ⟨abE T,al1 T,awa⟩ awa awa
theorem ao6:#[1,"_law_ref",.fq 3 lu]:=λhk=>vQ T 85 85 hk (ps:=["_law_figure","_law_many","_law_sure"]) aoZ awa ⟨T.free 180,awa⟩ awa
theorem ahB:#[3,"_law_deed",.fq 6 gJ]:=λhk=>vQ T 86 86 hk (ps:=["_law_word","_law_one","_law_two","_law_parts","_law_counts","_law_base"]) amj ⟨ao6 T,agy T,awa⟩ ⟨T.free 191,awa⟩ awa
theorem amn:#[12,"_law_play",.fg 3 Jz]:=λhk=>vG T 87 87 hk (ps:=["_law_house","_law_cells","_law_head"]) aoc ⟨abX T,ahB T,ZP T,aao T,acT T,ajq T,awa⟩ ⟨T.free 177,T.free 188,T.free 176,awa⟩ awa
theorem aaf:#[2,"Beast","told",.q 1 zp]:=λhk=>wQ T 88 88 hk (ps:=["self"]) abM awa ⟨T.free 179,awa⟩ ⟨⟨JH T,awa⟩,awa⟩
theorem xg:#[1,"Commons","owners",.q 1 tM]:=λhk=>wQ T 89 89 hk (ps:=["self"]) Tf awa ⟨T.free 185,awa⟩ awa
theorem PL:#[1,"Rights","all_rows",.q 1 qW]:=λhk=>wQ T 90 90 hk (ps:=["self"]) RJ awa ⟨T.free 185,awa⟩ awa
theorem Hz:#[6,"Commons","look",.q 1 rK]:=λhk=>wQ T 91 91 hk (ps:=["self"]) Xa awa ⟨T.free 177,T.free 179,awa⟩ ⟨⟨PL T,awa⟩,⟨xg T,awa⟩,⟨aaf T,awa⟩,⟨yS T,awa⟩,⟨jg T,awa⟩,⟨Aa T,awa⟩,awa⟩
theorem Wz:#[8,"Commons","bars",.q 4 wM]:=λhk=>wQ T 92 92 hk (ps:=["self","owner","ground","ear"]) XF ⟨Yy T,LK T,awa⟩ awa ⟨⟨jX T,awa⟩,⟨gW T,awa⟩,⟨fY T,awa⟩,⟨eG T,awa⟩,awa⟩
theorem Ny:#[2,"Herd","tally",.q 1 v9]:=λhk=>wQ T 93 93 hk (ps:=["self"]) abj awa ⟨T.free 186,awa⟩ ⟨⟨qw T,awa⟩,awa⟩
theorem U3:#[3,"Commons","tally",.q 1 u9]:=λhk=>wQ T 94 94 hk (ps:=["self"]) U8 awa awa ⟨⟨Ny T,awa⟩,awa⟩
theorem aiN:#[1,"deeper",.fq 2 Bb]:=λhk=>vQ T 95 95 hk (ps:=["shallow","deep"]) aiF awa ⟨T.free 189,T.free 183,awa⟩ awa
theorem acH:#[2,"owners_of",.fq 3 uJ]:=λhk=>vQ T 96 96 hk (ps:=["ear","rows","room"]) acs ⟨Xv T,aiN T,awa⟩ ⟨T.free 179,T.free 186,awa⟩ awa
theorem RN:#[8,"Commons","gather",.q 2 sW]:=λhk=>wQ T 97 97 hk (ps:=["self","ground"]) Uu ⟨acH T,awa⟩ awa ⟨⟨zA T,awa⟩,⟨jg T,awa⟩,⟨jX T,awa⟩,⟨gW T,awa⟩,awa⟩
theorem Fy:#[4,"Commons","marks",.q 3 mK]:=λhk=>wQ T 98 98 hk (ps:=["self","owner","ground"]) VF awa awa ⟨⟨kh T,awa⟩,⟨fY T,awa⟩,⟨eG T,awa⟩,awa⟩
theorem RM:#[3,"Commons","calves",.q 2 tV]:=λhk=>wQ T 99 99 hk (ps:=["self","beast"]) Ub awa awa ⟨⟨Bu T,awa⟩,awa⟩
theorem Qg:#[2,"Commons","history",.q 2 qZ]:=λhk=>wQ T 100 100 hk (ps:=["self","beast"]) RK awa ⟨T.free 185,awa⟩ ⟨⟨yd T,awa⟩,awa⟩
theorem aot:#[9,"_law_list",.fq 4 qN]:=λhk=>vQ T 101 101 hk (ps:=["_law_house","_law_way","_law_one","_law_other"]) al9 awa awa ⟨⟨Wz T,awa⟩,⟨Ar T,awa⟩,⟨Qg T,awa⟩,⟨Bu T,RM T,awa⟩,⟨kh T,Fy T,awa⟩,⟨RN T,awa⟩,⟨gW T,awa⟩,⟨jh T,jg T,awa⟩,⟨Ny T,U3 T,awa⟩,⟨xg T,awa⟩,awa⟩
theorem ak9:#[10,"_law_lists",.fq 1 Bt]:=λhk=>vQ T 102 102 hk (ps:=["_law_house"]) aj9 ⟨aot T,awa⟩ ⟨T.free 185,T.free 177,T.free 181,T.free 176,awa⟩ ⟨⟨Hz T,awa⟩,awa⟩
theorem akK:#[1,"_law_whole",.fq 1 Kw]:=λhk=>vQ T 103 103 hk (ps:=["_law_found"]) akb awa ⟨T.free 190,T.free 192,T.free 191,awa⟩ awa
theorem agO:#[12,"_law_like",.fq 2 (jD 10)]:=λhk=>by
 let⟨fd,F⟩:=T.c.Ys 104
 have b:=FunD.bindsN (ps:=["_law_found","_law_due"]) F λ_ _ _ _ _ _ us hl=>match us,hl with|[_,_],_=>rfl
 have key:∀j:Nat,FnOk P w K mg base (L2.CX P w) (2+j) (He.ga K "_law_like") fd ["_law_found","_law_due"] (Ze K (aj w K) 2 (jD j)):=by
  intro j
  induction j with
  |zero=>exact amC
  |succ j ih'=>
   have ih:∀{k:Nat},2+j<=k->#["_law_like",.fq 2 (jD j)]:=λhk=>aiD hk (T.glo 104) F.kp (b) ih'
   refine abS (k:=2+j) (Iz F) ak2 ?_ ?_ ?_ (aoo (jD j))
   .exact⟨ih (avd _),akK T,awa⟩
   .exact⟨T.free 183,T.free 176,T.free 190,T.free 185,T.free 179,T.free 193,T.free 191,awa⟩
   .exact T.hs awa
 exact aiD hk (T.glo 104) F.kp (b) (key 10)
theorem alI:#[13,"_law_stay",.fg 1 Ot]:=λhk=>vG T 105 105 hk (ps:=["_law_house"]) anf ⟨agO T,ak9 T,abX T,awa⟩ ⟨T.free 189,awa⟩ ⟨⟨M9 T,awa⟩,awa⟩
theorem aer:#[4,"_law_asked",.fq 4 wU]:=λhk=>vQ T 106 106 hk (ps:=["_law_word","_law_cell_here","_law_counts","_law_head"]) ajG ⟨ahB T,ajq T,aao T,awa⟩ awa awa
theorem W7:#[1,"_law_ground_there",.fq 2 sE]:=λhk=>vQ T 107 107 hk (ps:=["_law_stand","_law_ground"]) WT awa ⟨T.free 176,awa⟩ awa
theorem v_cut:#[1,"_law_cut",.fq 1 Q8]:=λhk=>vQ T 108 108 hk (ps:=["_law_cell_here"]) apb awa awa awa
theorem apz:#[2,"_law_raw",.fq 3 Mq]:=λhk=>vQ T 109 109 hk (ps:=["_law_value","_law_cell_here","_law_turn"]) apr ⟨v_cut T,awa⟩ awa awa
theorem am8:#[1,"_law_once",.fq 1 QD]:=λhk=>vQ T 110 110 hk (ps:=["_law_rows"]) aol awa ⟨T.free 186,awa⟩ awa
theorem agg:#[2,"_law_rows_of",.fq 3 Cy]:=λhk=>vQ T 111 111 hk (ps:=["_law_stand","_law_grounds","_law_but"]) ahc ⟨am8 T,awa⟩ ⟨T.free 188,awa⟩ awa
theorem aeE:#[1,"_law_marks_of",.fq 3 za]:=λhk=>vQ T 112 112 hk (ps:=["_law_stand","_law_owner","_law_ground"]) aeN awa awa awa
theorem agF:#[1,"_law_room_of",.fq 2 Cv]:=λhk=>vQ T 113 113 hk (ps:=["_law_stand","_law_ground"]) ahb awa ⟨T.free 180,awa⟩ awa
theorem am6:#[8,"_law_told",.fq 4 rF]:=λhk=>vQ T 114 114 hk (ps:=["_law_house","_law_owner","_law_ground","_law_way"]) alB ⟨U5 T,Zx T,awa⟩ awa ⟨⟨Ir T,jX T,awa⟩,⟨jh T,jg T,awa⟩,⟨gW T,awa⟩,⟨kh T,Fy T,awa⟩,awa⟩
theorem v_right:#[13,"_law_right",.fq 4 uL]:=λhk=>vQ T 115 115 hk (ps:=["_law_house","_law_cell_here","_law_counts","_law_head"]) akH ⟨agO T,am6 T,agF T,aeE T,agg T,W7 T,apz T,aer T,awa⟩ ⟨T.free 177,T.free 185,awa⟩ ⟨⟨Hz T,awa⟩,⟨xg T,awa⟩,awa⟩
theorem aln:#[14,"_law_turns",.fq 4 Fd]:=λhk=>vQ T 116 116 hk (ps:=["_law_house","_law_cell_here","_law_first","_law_head"]) akT ⟨v_right T,awa⟩ awa awa
theorem alu:#[10,"_law_named",.fg 2 iV]:=λhk=>vG T 117 117 hk (ps:=["_law_house","_law_deed_here"]) akS awa awa ⟨⟨Ai T,awa⟩,⟨CK T,awa⟩,⟨IV T,Ie T,awa⟩,⟨Fv T,Fo T,awa⟩,⟨JZ T,awa⟩,⟨HS T,awa⟩,⟨HF T,awa⟩,⟨Ij T,awa⟩,⟨Ks T,awa⟩,⟨Hv T,awa⟩,⟨Hf T,awa⟩,⟨Gk T,awa⟩,⟨GX T,awa⟩,⟨yM T,awa⟩,⟨tX T,awa⟩,awa⟩
theorem af7:#[12,"_law_done_so",.fg 4 pZ]:=λhk=>vG T 118 118 hk (ps:=["_law_house","_law_deed_here","_law_counts","_law_way"]) agl ⟨alu T,Nt T,abX T,awa⟩ awa awa
theorem aoB{fd:FuncData}(F:FunD K "law" "law" (defArgs Rp) (defBody Rp) (defScope Rp) [] [] (He.ga K "law") fd):FnOk P w K mg base (L2.CX P w) 15 (He.ga K "law") fd ["_law_script"] (Nv K (aj w K) 1 aag):=by
 refine V7 (k:=14) (Iz F) amA ?_ ?_ ?_ aoD
 .exact⟨alI T,aln T,af7 T,aer T,ZP T,aao T,amn T,aoh T,agH T,awa⟩
 .exact⟨T.free 178,awa⟩
 .exact T.hs awa
end
def digs(b:Int):Nat->Int->ListInt
 |0,_=>[]
 |n+1,c=>c%b::digs b n (c/b)
def R8(b:Int):Nat->Int->Int->ListInt
 |0,_,_=>[]
 |n+1,k,t=>((t*48271+9973*k+11)%2147483647/1021%b)::R8 b n (k+1) ((t*48271+9973*k+11)%2147483647)
def Dr(c:Int):Int:=if c<0 then -c else c
def rowOf(c:Int)(n:Nat)(b:Int):ListInt:=if 10^18<=Dr c then digs b n (Dr c) else R8 b n 0 ((Dr c%1000003+17)*69621%2147483647)
theorem ab4(b:Int):∀n c,(digs b n c).length=n
 |0,_=>rfl
 |n+1,c=>by simp[digs,ab4 b n]
theorem aen(b:Int):∀n k t,(R8 b n k t).length=n
 |0,_,_=>rfl
 |n+1,k,t=>by simp[R8,aen b n]
theorem adG{b:Int}(hb:0<b):∀n c,∀x∈digs b n c,0<=x/\x<b
 |0,_,x,h=>by simp[digs]at h
 |n+1,c,x,h=>by
  rcases au7.mp h with rfl|h
  .exact⟨Int.emod_nonneg _ #[],Int.emod_lt_of_pos _ hb⟩
  .exact adG hb n _ x h
theorem afs{b:Int}(hb:0<b):∀n k t,∀x∈R8 b n k t,0<=x/\x<b
 |0,_,_,x,h=>by simp[R8]at h
 |n+1,k,t,x,h=>by
  rcases au7.mp h with rfl|h
  .exact⟨Int.emod_nonneg _ #[],Int.emod_lt_of_pos _ hb⟩
  .exact afs hb n _ _ x h
@[simp]def ado (c:Int) (n:Nat) (b:Int):(rowOf c n b).length=n:=by
 unfold rowOf;split
 .exact ab4 ..
 .exact aen ..
def ag1{b:Int}(hb:0<b)(c:Int)(n:Nat):∀x∈rowOf c n b,0<=x/\x<b:=by
 unfold rowOf;split
 .exact adG hb _ _
 .exact afs hb _ _ _
@[simp]def aes (M:Mo) (ns:ListInt) (k:Nat):Dg M [lI ns,.int k]=.ok (.int (ns.getD k 0)):=by
 unfold Dg aaB;by_cases h:k<ns.length
 .simp[h,atI,ixN]
 .simp[h]
theorem abT(M:Mo)(b:Int)(hb:0<b)(hb2:b<1073741824):∀(n k:Nat) (c:Int) (x1:Option Cell) (acc:List Dat) (x4 x5:Option Cell),acc.length+n<100000->∃c' x4',eY (aq 4) Yb ((List.range' k n).map λ(i:Nat)=>PyData.int (i:Int)) M [#[.int c],x1,#[.int b],some (.mut acc),x4,x5]=.next [c',x1,#[.int b],some (.mut (acc++(digs b n c).map .int)),x4',x5] M
 |0,k,c,x1,acc,x4,x5,_=>⟨#[.int c],x4,by simp[eY,digs]⟩
 |n+1,k,c,x1,acc,x4,x5,hl=>by
  let⟨c',x4',ih⟩:=abT M b hb hb2 n (k+1) (c/b) x1 (acc++[.int (c%b)]) #[.int k] x5 (by simp;omega)
  refine⟨c',x4',?_⟩;have h1:decide (CDiv c b)=true:=decide_eq_true ⟨hb,hb2⟩;have hl:acc.length<100000:=#[];rw[List.range'_succ,List.map_cons,fG (Z1:=[#[.int c],x1,#[.int b],some (.mut acc),#[.int k],x5]) (by simp) (Z2:=[#[.int (c/b)],x1,#[.int b],some (.mut (acc++[.int (c%b)])),#[.int k],x5]) (M2:=M) (by simp[Yb,h1,hb,hl])];rw[ih];simp[digs]
theorem adT(M:Mo)(b:Int)(hb:0<b):∀(n k:Nat) (t:Int) (x0 x1:Option Cell) (acc:List Dat) (x4:Option Cell),acc.length+n<100000->∃x4' x5',eY (aq 4) Yk ((List.range' k n).map λ(i:Nat)=>PyData.int (i:Int)) M [x0,x1,#[.int b],some (.mut acc),x4,#[.int t]]=.next [x0,x1,#[.int b],some (.mut (acc++(R8 b n k t).map .int)),x4',x5'] M
 |0,k,t,x0,x1,acc,x4,_=>⟨x4,#[.int t],by simp[eY,R8]⟩
 |n+1,k,t,x0,x1,acc,x4,hl=>by
  let⟨x4',x5',ih⟩:=adT M b hb n (k+1) ((t*48271+9973*k+11)%2147483647) x0 x1 (acc++[.int ((t*48271+9973*k+11)%2147483647/1021%b)]) #[.int k] (by simp;omega)
  refine⟨x4',x5',?_⟩;have h1:decide (CMul t 48271)=true:=mul_r #[()];have h2:decide (CMul 9973 (k:Int))=true:=ajj #[()];have h3:∀x,decide (CDiv x 1021)=true:=λx=>decide_eq_true ⟨#[()],#[()]⟩;have hl:acc.length<100000:=#[];rw[List.range'_succ,List.map_cons,fG (Z1:=[x0,x1,#[.int b],some (.mut acc),#[.int k],#[.int t]]) (by simp) (Z2:=[x0,x1,#[.int b],some (.mut (acc++[.int ((t*48271+9973*k+11)%2147483647/1021%b)])),#[.int k],#[.int ((t*48271+9973*k+11)%2147483647)]]) (M2:=M) (by simp[Yk,h1,h2,h3,hb,hl])];rw[ih];simp[R8]
def VL(n:Nat):iw 0 n=(List.range' 0 n).map λ(i:Nat)=>PyData.int (i:Int):=by unfold iw;rw[List.range_eq_range'];simp
def VR(M:Mo)(c:Int)(n:Nat)(b:Int)(hb:0<b)(hb2:b<1073741824)(hn:n<=1000):tY M [.int c,.int n,.int b]=.ok (lI (rowOf c n b)):=by
 unfold tY aeA;have hp:decide (CPow 10 18)=true:=decide_eq_true ⟨#[()],#[()],#[()]⟩;have hn1:(n:Int)<=100000:=#[];have hn2 : -100000<=(n:Int):=#[];have hm:∀x,decide (CMul x 69621)=true:=λx=>mul_r #[()];have ea:(if c<0 then -c else c)=Dr c:=rfl;by_cases h:10^18<=Dr c
 .let⟨c',x4',e⟩:=abT M b hb hb2 n 0 (Dr c) #[.int n] [] none none (by simp;omega)
  have e2:rowOf c n b=digs b n (Dr c):=awg h;have h':(1000000000000000000:Int)<=Dr c:=by simpa using h
  simp[hp,ea,h',hn1,hn2,VL,e,e2]
 .let⟨x4',x5',e⟩:=adT M b hb n 0 ((Dr c%1000003+17)*69621%2147483647) #[.int (Dr c)] #[.int n] [] none (by simp;omega)
  have e2:rowOf c n b=R8 b n 0 ((Dr c%1000003+17)*69621%2147483647):=awh h;have h':¬(1000000000000000000:Int)<=Dr c:=by simpa using h
  have e':=e;simp[hp,ea,h',hn1,hn2,hm,VL]at e |-
  rw[e];simp[e2]
def T8(i j:Int):Int:=if j>i then j else i
def Cu(l:ListInt)(m:Int):ListInt:=if m%4=1 then l.map λf=>T8 0 (f-7) else if m%4=2 then l.map λf=>f%3 else l
def YB(M:Mo)(l:ListInt)(m:Int)(hl:l.length<=1000):vL M [lI l,.int m]=.ok (aH (Cu l m)):=by
 unfold vL TQ;have hl':l.length<=50000:=#[];have c1:=dw (tg:=aq 2) (te:=aK yq #[0] (aK oZ (2) #[7])) (M:=M) (Z:=[#[lI l],#[.int m],none]) PyData.int (λf=>.int (T8 0 (f-7))) l λx _=>⟨_,rfl,by simp[T8]⟩;have c2:=dw (tg:=aq 2) (te:=aK lH (2) #[3]) (M:=M) (Z:=[#[lI l],#[.int m],none]) PyData.int (λf=>.int (f%3)) l λx _=>⟨_,rfl,by simp⟩;by_cases h1:m%4=1
 .simp[h1,hl',c1,Cu,avk]
 .by_cases h2:m%4=2
  .simp[h2,hl',c2,Cu,avk]
  .simp[h1,h2,Cu]
def MP(c:Int):ListInt:=Cu ((rowOf c 7 10).take 6) ((rowOf c 7 10).getD 6 0)
def T9{α:Type}(l:List α)(n:Nat):Rf.cutD l none (some (n:Int))=l.take n:=by unfold Rf.cutD;rw[HT.sIx_nat];simp[HT.sIx]
def aaW{α:Type}(l:List α)(n:Nat):Rf.cutD l (some (n:Int)) none=l.drop n:=by
 unfold Rf.cutD;rw[HT.sIx_nat];simp[HT.sIx];by_cases h:n<=l.length
 .rw[Nat.min_eq_left h];exact List.take_of_length_le (by simp)
 .rw[Nat.min_eq_right #[],List.drop_eq_nil_of_le #[],List.drop_eq_nil_of_le #[]];simp
def acg(l:ListInt)(n:Nat)(h:n<l.length):atI (l.map PyData.int) (n:Int)=some (.int (l.getD n 0)):=atI_nat (by simp[h])
def afq(M:Mo)(c:Int):Mp M [.int c]=.ok (aH (MP c)):=by
 unfold Mp aeU;have h1:tY M [.int c,.int 7,.int 10]=.ok (.list ((rowOf c 7 10).map .int)):=VR M c 7 10 #[()] #[()] #[()];have h2:Rf.cutD ((rowOf c 7 10).map PyData.int) none (some 6)=((rowOf c 7 10).take 6).map PyData.int:=by rw[show(6:Int)=((6:Nat):Int) from rfl,T9,List.map_take]
 have h3:atI ((rowOf c 7 10).map PyData.int) 6=some (.int ((rowOf c 7 10).getD 6 0)):=acg _ 6 (by simp);have h4:vL M [.list (((rowOf c 7 10).take 6).map .int),.int ((rowOf c 7 10).getD 6 0)]=.ok (.tuple ((MP c).map .int)):=YB M _ _ (by simp);generalize (rowOf c 7 10).getD 6 0=z at h3 h4;generalize ((rowOf c 7 10).take 6).map PyData.int=y at h2 h4;simp[h1,h2,h3,h4]
def Px(c:Int):(MP c).length=6:=by
 unfold MP Cu;split
 .simp
 .split<;>simp
def ahZ{l:ListInt}{m:Int}(h:∀x∈l,0<=x/\x<10):∀x∈Cu l m,0<=x/\x<10:=by
 unfold Cu T8;split
 .intro x hx;let⟨y,hy,rfl⟩:=au2.mp hx
  have:=h y hy
  split<;>omega
 .split
  .intro x hx;let⟨y,hy,rfl⟩:=au2.mp hx
   have:=h y hy;omega
  .exact h
mutual
def lk:Nat->Dat->Bool
 |_,.none=>true
 |_,.bool _=>true
 |_,.int _=>true
 |_,.str _=>true
 |n+1,.list ds=>jU n ds
 |n+1,.tuple ds=>jU n ds
 |0,.list _=>false
 |0,.tuple _=>false
 |_,.dict _=>false
def jU:Nat->List Dat->Bool
 |_,[]=>true
 |n,d::ds=>lk n d&&jU n ds
end
theorem iU{n:Nat}:∀{ds:List Dat},jU n ds=true↔∀d∈ds,lk n d=true
 |[]=>by simp[jU]
 |d::ds=>by simp[jU,iU (ds:=ds)]
@[simp]def aiZ (n:Nat) (l:ListInt):jU n (l.map PyData.int)=true:=iU.mpr λd h=>by
 let⟨i,_,rfl⟩:=au2.mp h
 simp[lk]
def ZK(M:Mo)(i:Int):Kw M [.int i]=.ok (.bool true):=by unfold Kw XR;simp[Bs,DQ]
def zip_self(ds:List Dat):zK ds ds=ds.map λd=>.tuple [d,d]:=by unfold zK;rw[List.zipWith_self]
theorem Ph(M:Mo)(r:Mo->List Dat->Out Dat)(x0 x1:Option Cell):∀(ds:List Dat) (x2 x3:Option Cell),(∀d∈ds,r M [d,d]=.ok (.bool true))->∃x2' x3',eY (aX [2,3]) (T7 r) (ds.map λd=>PyData.tuple [d,d]) M [x0,x1,x2,x3]=.next [x0,x1,x2',x3'] M
 |[],x2,x3,_=>⟨x2,x3,rfl⟩
 |d::ds,x2,x3,h=>by
  let⟨x2',x3',ih⟩:=Ph M r x0 x1 ds #[d] #[d] λd hd=>h d (auY _ hd)
  refine⟨x2',x3',?_⟩;have hd:=h d auX;rw[List.map_cons,fG (Z1:=[x0,x1,#[d],#[d]]) (by simp) (Z2:=[x0,x1,#[d],#[d]]) (M2:=M) (by simp[T7,hd])];exact ih
def RB(M:Mo):∀(n:Nat) (d:Dat),lk n d=true->jD (n+1) M [d,d]=.ok (.bool true):=by
 intro n
 induction n with
 |zero=>
  intro d h;show mQ 4 (Ke (jD 0)) M [d,d]=_;unfold Ke;cases d with
  |none=>simp[iZ]
  |bool b=>cases b<;>simp[iZ]
  |int i=>simp[iZ,Bs,DQ,ZK]
  |str x=>simp[iZ,Bs,DQ]
  |list ds=>simp[lk]at h
  |tuple ds=>simp[lk]at h
  |dict kv=>simp[lk]at h
 |succ n ih=>
  intro d h;show mQ 4 (Ke (jD (n+1))) M [d,d]=_;unfold Ke;cases d with
  |none=>simp[iZ]
  |bool b=>cases b<;>simp[iZ]
  |int i=>simp[iZ,Bs,DQ,ZK]
  |str x=>simp[iZ,Bs,DQ]
  |list ds=>
   rw[lk,iU]at h;let⟨x2',x3',e⟩:=Ph M (jD (n+1)) #[.list ds] #[.list ds] ds none none λd hd=>ih d (h d hd)
   simp[iZ,Bs,DQ,zip_self,e]
  |tuple ds=>
   rw[lk,iU]at h;let⟨x2',x3',e⟩:=Ph M (jD (n+1)) #[.tuple ds] #[.tuple ds] ds none none λd hd=>ih d (h d hd)
   simp[iZ,Bs,DQ,zip_self,e]
  |dict kv=>simp[lk]at h
inductive En where
 |torn (p:Nat)|cut (e:ListInt)|sold (o:Int) (e:ListInt)|moved (g:Int)|followed (o g:Int)|passed (o:Int)|died
def En.dat:En->Dat
 |.torn p=>.tuple [.str "torn",.int p]
 |.cut e=>.tuple [.str "cut",aH e]
 |.sold o e=>.tuple [.str "sold",.int o,aH e]
 |.moved g=>.tuple [.str "moved",.int g]
 |.followed o g=>.tuple [.str "followed",.int o,.int g]
 |.passed o=>.tuple [.str "passed",.int o]
 |.died=>.tuple [.str "died"]
inductive Fi where
 |brought (o g:Int) (e:ListInt)|born (m o g:Int)
def Fi.dat:Fi->Dat
 |.brought o g e=>.tuple [.str "brought",.int o,.int g,aH e]
 |.born m o g=>.tuple [.str "born",.int m,.int o,.int g]
structure Sd where
 o:Int
 g:Int
 due:Option ListInt
 ear:ListInt
 al:Bool
def mY:Option ListInt->Dat
 |none=>.none
 |some e=>aH e
def Sd.dat(s:Sd):Dat:=.tuple [.int s.o,.int s.g,mY s.due,aH s.ear,.bool s.al]
def Ag(l:ListInt)(p:Nat):ListInt:=l.mapIdx λi x=>if i=p then x+1 else x
def go(s:Sd):En->Sd
 |.torn p=>{ s with ear:=Ag s.ear p }
 |.cut e=>{ s with due:=some e,ear:=e }
 |.sold o e=>{ s with o:=o,due:=some e,ear:=e }
 |.moved g=>{ s with g:=g }
 |.followed o g=>{ s with o:=o,g:=g }
 |.passed o=>{ s with o:=o }
 |.died=>{ s with al:=false }
def beg:Fi->Sd
 |.brought o g e=>⟨o,g,none,e,true⟩
 |.born _ o g=>⟨o,g,none,[0,0,0,0,0,0],true⟩
def ah0(M:Mo)(f:Fi):Fe M [f.dat]=.ok (beg f).dat:=by cases f<;>simp[Fe,Rm,Fi.dat,beg,Sd.dat,mY,jV]
def acQ(M:Mo)(l:ListInt)(p:Nat)(hl:l.length<=1000):zR M [aH l,.int p]=.ok (aH (Ag l p)):=by
 unfold zR Mz;have c:qU 0 (l.map PyData.int)=(l.mapIdx λi x=>(i,x)).map λ(q:Nat×Int)=>PyData.tuple [.int q.1,.int q.2]:=by unfold qU;rw[List.mapIdx_eq_mapIdx_iff.mpr (λi h=>rfl)];apply avp;intro i;simp;cases l[i]?<;>simp
 have c2:=dw (tg:=aX [2,3]) (te:=J8 #[(2)=(1)] (aK dG (3) #[1]) (3:)) (M:=M) (Z:=[#[aH l],#[.int p],none,none]) (λ(q:Nat×Int)=>PyData.tuple [.int q.1,.int q.2]) (λq=>.int (if q.1=p then q.2+1 else q.2)) (l.mapIdx λi x=>(i,x)) λx _=>⟨[#[aH l],#[.int p],#[.int x.1],#[.int x.2]],by simp,by
  by_cases h:x.1=p
  .simp[h]
  .have h':¬((x.1:Int)=p):=#[];simp[h,h']⟩
 have hl':l.length<=50000:=#[];simp[c,c2,hl',Ag];apply avp;intro i;simp;cases l[i]?<;>simp
def aeD(l:ListInt)(p:Nat):(Ag l p).length=l.length:=by simp[Ag]
def gone_ok(M:Mo)(s:Sd)(e:En)(hl:s.ear.length<=1000):CZ M [s.dat,e.dat]=.ok (go s e).dat:=by have h:=λp=>acQ M s.ear p hl;cases e<;>simp[CZ,QK,En.dat,go,Sd.dat,mY,h]
abbrev Row3:=Int×Int×ListInt
def gq(r:Row3):Dat:=.tuple [.int r.1,.int r.2.1,aH r.2.2]
structure cW where
 fi:Fi
 en:List En
 mo:Int
 sd:Sd
structure aD where
 count:Int
 own:ListInt
 al:ListInt
 ci:List ListInt
 held:List Row3
 bs:List cW
structure Lay where
 c:Nat
 g:Nat
 r:Nat
 h:Nat
 bs:List Nat
 fr:List (Nat×Inst)
def aA(L:Lay)(c:aD):Inst:=⟨"Commons",[("owner_count",.dat (.int c.count)),("holders",.dic false (c.own.map λo=>(.int o,.bool true))),("grounds",.dat (ob L.g)),("rights",.dat (ob L.r)),("herd",.dat (ob L.h))]⟩
def cX(n m:Nat)(c:aD):Inst:=⟨"Grounds",[("allowances",.lst n (c.al.map PyData.int)),("circles",.lst m (c.ci.map aH))]⟩
def pq(c:aD):Inst:=⟨"Rights",[("held",.dic true (c.held.map λr=>(gq r,.bool true)))]⟩
def dJ(n:Nat)(L:Lay):Inst:=⟨"Herd",[("beasts",.lst n (L.bs.map ob))]⟩
def iB(n:Nat)(b:cW):Inst:=⟨"Beast",[("story",.lst n (b.fi.dat::b.en.map En.dat)),("mother",.dat (.int b.mo)),("owner",.dat (.int b.sd.o)),("ground",.dat (.int b.sd.g)),("due",.dat (mY b.sd.due)),("ear",.dat (aH b.sd.ear)),("alive",.dat (.bool b.sd.al))]⟩
structure At(M:Mo)(L:Lay)(c:aD):Prop where
 hc:M[L.c]?=some (aA L c)
 hg:∃n m,M[L.g]?=some (cX n m c)
 hr:M[L.r]?=some (pq c)
 hh:∃n,M[L.h]?=some (dJ n L)
 len:L.bs.length=c.bs.length
 hb:∀(i h:Nat) (b:cW),L.bs[i]?=some h->c.bs[i]?=some b->∃n,M[h]?=some (iB n b)
 nd:(L.c::L.g::L.r::L.h::L.bs).Nodup
 fr:∀p∈L.fr,M[p.1]?=some p.2/\p.1∉L.c::L.g::L.r::L.h::L.bs
section
variable{M:Mo}{L:Lay}{c:aD}(a:At M L c)
include a
theorem ada:rZ M [ob L.g]=.ok (.int c.al.length):=by
 let⟨n,m,hg⟩:=a.hg
 simp[rZ,wH,hg,cX]
theorem alw(g:Int):yu M [ob L.g,.int g]=.ok (.bool (decide (1<=g/\g<=c.al.length))):=by
 let⟨n,m,hg⟩:=a.hg
 have:=ada a;by_cases h:1<=g<;>simp[yu,Dq,hg,cX,this,fW,h]
end
@[simp]def aiB {α:Type} (l:List α) (n:Nat):atI l (n:Int)=l[n]?:=by
 cases h:l[n]? with
 |some a=>exact atI_nat h
 |none=>
  have hl:=List.getElem?_eq_none_iff.mp h;unfold atI ixN;rw[awg #[],awh #[]];rfl
abbrev Vg(c:aD)(x:Int):Prop:=1<=x/\x<=c.al.length
def CV{c:aD}{x:Int}(h:Vg c x):∃k:Nat,k<c.al.length/\x=(k:Int)+1:=⟨(x-1).toNat,#[],#[]⟩
structure dB(c:aD):Prop where
 len:c.ci.length=c.al.length
 few:c.al.length<=200
 al:∀x∈c.al,0<=x/\x<=9
 mem:∀(k:Nat) (l:ListInt),c.ci[k]?=some l->∀y∈l,Vg c y
 own:∀(k:Nat) (l:ListInt),c.ci[k]?=some l->(k:Int)+1∈l
 up:∀(k:Nat) (l:ListInt),c.ci[k]?=some l->l.Pairwise (· < ·)
 one:∀(k j:Nat) (l:ListInt),c.ci[k]?=some l->(j:Int)+1∈l->c.ci[j]?=some l
def aY(c:aD)(x:Int):ListInt:=(c.ci[(x-1).toNat]?).getD []
def Mu(c:aD)(x:Int):Int:=(c.al[(x-1).toNat]?).getD 0
def anJ:ListInt->Int
 |[]=>0
 |n::ns=>Jv n ns
def roomOf(c:aD)(x:Int):Int:=anJ ((aY c x).map (Mu c))
theorem afV:∀{l:ListInt} {lo hi:Int},l.Pairwise (· < ·)->(∀y∈l,lo<=y/\y<=hi)->(l.length:Int)<=max 0 (hi-lo+1)
 |[],_,_,_,_=>by simp;omega
 |x::l,lo,hi,h,hb=>by
  rw[List.pairwise_cons]at h;have:=afV (lo:=x+1) (hi:=hi) h.2 λy hy=>⟨by have:=h.1 y hy;omega,(hb y (auY _ hy)).2⟩;have:=hb x auX;simp;omega
def maxD_ints{l:ListInt}(h:l≠[]):maxD (.list (l.map PyData.int))=.ok (.int (anJ l)):=by
 cases l with
 |nil=>exact absurd rfl h
 |cons n ns=>
  show(match intsOf ((n::ns).map PyData.int) with
   |some (n::ns)=>Out.ok (PyData.int (Jv n ns))
   |_=>Out.bad)=_
  rw[ni];rfl
def dB.clen{c:aD}(i:dB c){k:Nat}{l:ListInt}(h:c.ci[k]?=some l):l.length<=200:=by have:=afV (lo:=1) (hi:=c.al.length) (i.up k l h) λy hy=>i.mem k l h y hy;have:=i.few;omega
section
variable{M:Mo}{L:Lay}{c:aD}(a:At M L c)
include a
theorem uK(x:Int):wN M [ob L.g,.int x]=if Vg c x then .ok .none else .exc ⟨"NoGround",[]⟩:=by
 let⟨n,m,hg⟩:=a.hg
 have:=alw a x;by_cases h:Vg c x<;>simp[wN,Bw,hg,cX,this,Bo,h]
theorem Qs(x:Int):lF M [ob L.g,.int x]=if Vg c x then .ok (.int (Mu c x)) else .exc ⟨"NoGround",[]⟩:=by
 let⟨n,m,hg⟩:=a.hg
 have hn:=uK a x;by_cases h:Vg c x
 .let⟨k,hk,rfl⟩:=CV h
  rw[awg h]at hn |-
  simp[lF,pG,hg,cX,hn,au,Mu,hk]
 .rw[awh h]at hn |-
  simp[lF,pG,hg,cX,hn,au]
theorem xQ(i:dB c)(x:Int):jO M [ob L.g,.int x]=if Vg c x then .ok (lI (aY c x)) else .exc ⟨"NoGround",[]⟩:=by
 let⟨n,m,hg⟩:=a.hg
 have hn:=uK a x;by_cases h:Vg c x
 .let⟨k,hk,rfl⟩:=CV h
  have hk':k<c.ci.length:=by rw[i.len];exact hk
  rw[awg h]at hn |-
  simp[jO,qp,hg,cX,hn,au,aY,hk']
 .rw[awh h]at hn |-
  simp[jO,qp,hg,cX,hn,au]
theorem akn(i:dB c)(x:Int):oO M [ob L.g,.int x]=if Vg c x then .ok (.int (roomOf c x)) else .exc ⟨"NoGround",[]⟩:=by
 let⟨n,m,hg⟩:=a.hg
 have hn:=xQ a i x;by_cases h:Vg c x
 .rw[awg h]at hn |-
  let⟨k,hk,rfl⟩:=CV h
  have hk':k<c.ci.length:=by rw[i.len];exact hk
  have hc:c.ci[k]?=some (aY c ((k:Int)+1)):=by simp[aY,hk']
  unfold roomOf;generalize aY c ((k:Int)+1)=l at hc hn |-
  have hl:l.length<=50000:=by have:=i.clen hc;omega
  have hne:l.map (Mu c)≠[]:=λz=>by
   have:=i.own k l hc;rw[List.map_eq_nil_iff.mp z]at this;cases this
  have key:=dw (tg:=aq 2) (te:=aC eV (0) #[(2:),]) (M:=M) (Z:=[#[ob L.g],#[.int ((k:Int)+1)],none]) PyData.int (λy=>.int (Mu c y)) l λy hy=>⟨[#[ob L.g],#[.int ((k:Int)+1)],#[.int y]],by simp,by
   have:=Qs a y;rw[awg (i.mem k l hc y hy)]at this;simp[hg,cX,eV,this]⟩
  simp[oO,wz,hg,cX,hn,bA,key,hl];have:=maxD_ints hne;rw[avh]at this;simp[avk]at this |-
  simp[this]
 .rw[awh h]at hn |-
  simp[oO,wz,hg,cX,hn,bA]
end
def bD{M:Mo}{h k:Nat}{i j:Inst}(hm:M[h]?=some j):(M.set h i)[k]?=if h=k then some i else M[k]?:=by
 have hl:h<M.length:=(auZ.mp hm).1;rw[avR];by_cases e:h=k
 .subst e;rw[awg rfl,awg hl,awg rfl]
 .rw[awh e,awh e]
def At.neq{M:Mo}{L:Lay}{c:aD}(a:At M L c):L.c≠L.g/\L.c≠L.r/\L.c≠L.h/\L.g≠L.r/\L.g≠L.h/\L.r≠L.h/\(∀x∈L.bs,L.c≠x/\L.g≠x/\L.r≠x/\L.h≠x)/\L.bs.Nodup:=by
 have nd:=a.nd;simp![avO,au7,not_or]at nd;let⟨⟨n1,n2,n3,n4⟩,⟨n5,n6,n7⟩,⟨n8,n9⟩,n10,n11⟩:=nd
 exact⟨n1,n2,n3,n5,n6,n8,λx hx=>⟨λz=>n4 (z ▸ hx),λz=>n7 (z ▸ hx),λz=>n9 (z ▸ hx),λz=>n10 (z ▸ hx)⟩,n11⟩
def At.frS{M:Mo}{L:Lay}{c:aD}(a:At M L c){h:Nat}{i j:Inst}(hm:M[h]?=some j)(hh:h∈L.c::L.g::L.r::L.h::L.bs):∀p∈L.fr,(M.set h i)[p.1]?=some p.2/\p.1∉L.c::L.g::L.r::L.h::L.bs:=λp hp=>by
 let⟨h1,h2⟩:=a.fr p hp
 refine⟨?_,h2⟩;rw[bD hm,awh (λ(z:h=p.1)=>h2 (z ▸ hh))];exact h1
def At.setG{M:Mo}{L:Lay}{c:aD}(a:At M L c){al:ListInt}{ci:List ListInt}{n m:Nat}:At (M.set L.g (cX n m { c with al:=al,ci:=ci })) L { c with al:=al,ci:=ci }:=by
 let⟨n',m',hg⟩:=a.hg
 let⟨e1,e2,e3,e4,e5,e6,e7,e8⟩:=a.neq
 have e1':=Ne.symm e1;refine⟨?_,⟨n,m,?_⟩,?_,?_,a.len,λi h b h1 h2=>?_,a.nd,a.frS hg (by simp)⟩
 .rw[bD hg,awh e1'];exact a.hc
 .rw[bD hg,awg rfl]
 .rw[bD hg,awh e4];exact a.hr
 .rw[bD hg,awh e5];exact a.hh
 .rw[bD hg,awh (e7 h (au4 h1)).2.1];exact a.hb i h b h1 h2
def At.aiz{M:Mo}{L:Lay}{c:aD}(a:At M L c){held:List Row3}:At (M.set L.r (pq { c with held:=held })) L { c with held:=held }:=by
 let⟨e1,e2,e3,e4,e5,e6,e7,e8⟩:=a.neq
 have e2':=Ne.symm e2;have e4':=Ne.symm e4;have hr:=a.hr;refine⟨?_,?_,?_,?_,a.len,λi h b h1 h2=>?_,a.nd,a.frS hr (by simp)⟩
 .rw[bD hr,awh e2'];exact a.hc
 .rw[bD hr,awh e4'];exact a.hg
 .rw[bD hr,awg rfl]
 .rw[bD hr,awh e6];exact a.hh
 .rw[bD hr,awh (e7 h (au4 h1)).2.2.1];exact a.hb i h b h1 h2
def At.setC{M:Mo}{L:Lay}{c:aD}(a:At M L c){n:Int}{own:ListInt}:At (M.set L.c (aA L { c with count:=n,own:=own })) L { c with count:=n,own:=own }:=by
 let⟨e1,e2,e3,e4,e5,e6,e7,e8⟩:=a.neq
 have hc:=a.hc;refine⟨?_,?_,?_,?_,a.len,λi h b h1 h2=>?_,a.nd,a.frS hc (by simp)⟩
 .rw[bD hc,awg rfl]
 .rw[bD hc,awh e1];exact a.hg
 .rw[bD hc,awh e2];exact a.hr
 .rw[bD hc,awh e3];exact a.hh
 .rw[bD hc,awh (e7 h (au4 h1)).1];exact a.hb i h b h1 h2
def At.setB{M:Mo}{L:Lay}{c:aD}(a:At M L c){k h n:Nat}{b':cW}(hk:L.bs[k]?=some h):At (M.set h (iB n b')) L { c with bs:=c.bs.set k b' }:=by
 let⟨e1,e2,e3,e4,e5,e6,e7,e8⟩:=a.neq
 have hl:k<c.bs.length:=by rw[<-a.len];exact(auZ.mp hk).1
 let⟨n0,hb⟩:=a.hb k h _ hk (auV hl)
 let⟨q1,q2,q3,q4⟩:=e7 h (au4 hk)
 refine⟨?_,?_,?_,?_,by simp[a.len],λi h2 b h3 h4=>?_,a.nd,a.frS hb (by simp[au4 hk])⟩
 .rw[bD hb,awh (Ne.symm q1)];exact a.hc
 .rw[bD hb,awh (Ne.symm q2)];exact a.hg
 .rw[bD hb,awh (Ne.symm q3)];exact a.hr
 .rw[bD hb,awh (Ne.symm q4)];exact a.hh
 .by_cases e:i=k
  .subst e;rw[hk]at h3;cases h3;have h4:(c.bs.set i b')[i]?=some b:=h4;rw[avc hl]at h4;cases h4;exact⟨n,by rw[bD hb,awg rfl]⟩
  .have h4:(c.bs.set k b')[i]?=some b:=h4;rw[au1 (Ne.symm e)]at h4;have ne:h≠h2:=λz=>by
    subst z;exact e ((List.getElem?_inj (auZ.mp h3).1 e8).mp (h3.trans hk.symm))
   rw[bD hb,awh ne];exact a.hb i h2 b h3 h4
def At.aqK{M:Mo}{L:Lay}{c:aD}(a:At M L c){M2:Mo}{h n n2:Nat}{b:cW}(hh:M.length<=h)(hM:∀k,k<M.length->M2[k]?=M[k]?)(hb:M2[h]?=some (iB n b)):At (M2.set L.h (dJ n2 { L with bs:=L.bs++[h] })) { L with bs:=L.bs++[h] } { c with bs:=c.bs++[b] }:=by
 let⟨e1,e2,e3,e4,e5,e6,e7,e8⟩:=a.neq
 have lt:∀{k:Nat} {i:Inst},M[k]?=some i->k<M.length:=λz=>(auZ.mp z).1;let⟨n0,m0,hg⟩:=a.hg
 let⟨n1,hh1⟩:=a.hh
 have l1:=lt a.hc;have l2:=lt hg;have l3:=lt a.hr;have l4:=lt hh1;have lb:∀x∈L.bs,x<M.length:=λx hx=>by
  let⟨i,hi,e⟩:=List.mem_iff_getElem.mp hx
  let⟨n',z⟩:=a.hb i x _ (by rw[auV hi,e]) (auV (by rw[<-a.len];exact hi))
  exact lt z
 have g4:M2[L.h]?=some (dJ n1 L):=by rw[hM _ l4];exact hh1
 refine⟨?_,⟨n0,m0,?_⟩,?_,⟨n2,?_⟩,by simp[a.len],λi h2 b2 h3 h4=>?_,?_,λp hp=>?_⟩
 .show(M2.set L.h _)[L.c]?=_
  rw[bD g4,awh (Ne.symm e3),hM _ l1];exact a.hc
 .show(M2.set L.h _)[L.g]?=_
  rw[bD g4,awh (Ne.symm e5),hM _ l2];exact hg
 .show(M2.set L.h _)[L.r]?=_
  rw[bD g4,awh (Ne.symm e6),hM _ l3];exact a.hr
 .show(M2.set L.h _)[L.h]?=_
  rw[bD g4,awg rfl]
 .have h3:(L.bs++[h])[i]?=some h2:=h3;have h4:(c.bs++[b])[i]?=some b2:=h4;by_cases hi:i<L.bs.length
  .rw[au9 hi]at h3;rw[au9 (by rw[<-a.len];exact hi)]at h4;have m:=au4 h3;rw[bD g4,awh (e7 h2 m).2.2.2,hM _ (lb h2 m)];exact a.hb i h2 b2 h3 h4
  .rw[avf #[]]at h3;rw[avf (by rw[<-a.len];omega),<-a.len]at h4;have e0:i-L.bs.length=0:=by
    have:=(auZ.mp h3).1;simp at this;omega
   rw[e0]at h3 h4;cases h3;cases h4;exact⟨n,by rw[bD g4,awh #[]];exact hb⟩
 .have nd:=a.nd
  show(L.c::L.g::L.r::L.h::(L.bs++[h])).Nodup
  have:(L.c::L.g::L.r::L.h::(L.bs++[h]))=(L.c::L.g::L.r::L.h::L.bs)++[h]:=by simp
  rw[this,avI];refine⟨nd,by simp,λx hx y hy=>?_⟩;rw[au0.mp hy];rcases au7.mp hx with rfl|hx
  .omega
  rcases au7.mp hx with rfl|hx
  .omega
  rcases au7.mp hx with rfl|hx
  .omega
  rcases au7.mp hx with rfl|hx
  .omega
  have:=lb x hx;omega
 .let⟨h1,h2⟩:=a.fr p hp
  have hl:=lt h1;refine⟨?_,?_⟩
  .show(M2.set L.h _)[p.1]?=_
   rw[bD g4,awh (λ(z:L.h=p.1)=>h2 (by simp[<-z])),hM _ hl];exact h1
  .show p.1∉L.c::L.g::L.r::L.h::(L.bs++[h]);intro z;have:p.1∈(L.c::L.g::L.r::L.h::L.bs)++[h]:=by simpa using z
   rcases au8.mp this with z|z
   .exact h2 z
   .rw[au0]at z;omega
section
variable{M:Mo}{L:Lay}{c:aD}(a:At M L c)
include a
theorem Z6(i:dB c)(hf:c.al.length<200)(x:Int):if 0<=x/\x<=9 then ∃M',gD M [ob L.g,.int x]=.ok (.int (c.al.length+1)) M'/\At M' L { c with al:=c.al++[x],ci:=c.ci++[[(c.al.length:Int)+1]] } else gD M [ob L.g,.int x]=.exc ⟨"BadAllowance",[]⟩ M:=by
 let⟨n,m,hg⟩:=a.hg
 have hl:∀i,(M.set L.g i)[L.g]?=some i:=λi=>by rw[bD hg,awg rfl]
 by_cases h:0<=x/\x<=9
 .rw[awg h];refine⟨_,?_,a.setG (n:=n) (m:=m)⟩;have h2:c.ci.length<100000:=by rw[i.len];omega
  have h3:c.al.length<100000:=#[];simp[gD,j7,rZ,wH,fW,hg,cX,hl,h,iK,h2,h3];rfl
 .rw[awh h];have:decide (0<=x)=true->decide (x<=9)=false:=by simp;omega
  by_cases h0:0<=x
  .have h9:¬x<=9:=#[];simp[gD,j7,iK,h0,h9]
  .simp[gD,j7,iK,h0]
end
def encl(ci:List ListInt)(l:ListInt):List ListInt:=l.foldl (λs y=>s.set (y-1).toNat l) ci
theorem Bc(l:ListInt):∀(k:ListInt) (ci:List ListInt),(k.foldl (λs y=>s.set (y-1).toNat l) ci).length=ci.length
 |[],_=>rfl
 |y::k,ci=>by rw[avP,Bc l k];simp
@[simp]def aqj (n k:Nat):ixN n (k:Int)=if k<n then some k else none:=by
 unfold ixN;rw[awg #[]];by_cases h:k<n
 .rw[awg #[],awg h];simp
 .rw[awh #[],awh h]
section
variable{M:Mo}{L:Lay}{c:aD}{n m:Nat}(hg:M[L.g]?=some (cX n m c))
include hg
theorem Zu(l:ListInt):∀(k:ListInt) (s:List ListInt) (o:Option Cell),(∀y∈k,1<=y/\y<=s.length)->
  ∃o',eY (aq 3) uR (k.map PyData.int) (M.set L.g (cX n m { c with ci:=s })) [#[ob L.g],#[lI l],#[aH l],o]=.next [#[ob L.g],#[lI l],#[aH l],o'] (M.set L.g (cX n m { c with ci:=k.foldl (λs y=>s.set (y-1).toNat l) s }))
 |[],s,o,_=>⟨o,rfl⟩
 |y::k,s,o,h=>by
  have hl:∀i,(M.set L.g i)[L.g]?=some i:=λi=>by rw[bD hg,awg rfl]
  obtain⟨j,hj,rfl⟩:∃j:Nat,j<s.length/\y=(j:Int)+1:=⟨(y-1).toNat,by have:=h y auX;omega,by have:=h y auX;omega⟩;let⟨o',ih⟩:=Zu l k (s.set j l) #[.int ((j:Int)+1)] λz hz=>by
   have:=h z (auY _ hz);simpa using this
  refine⟨o',?_⟩;rw[List.map_cons,fG (Z1:=[#[ob L.g],#[lI l],#[aH l],#[.int ((j:Int)+1)]]) (M2:=M.set L.g (cX n m { c with ci:=s.set j l })) (Z2:=[#[ob L.g],#[lI l],#[aH l],#[.int ((j:Int)+1)]]) (by simp) (by simp[uR,hl,cX,hj,List.map_set]),ih];simp
end
def abU{M:Mo}{h:Nat}{i:Inst}(e:M[h]?=some i):M.set h i=M:=by
 apply avp;intro k;rw[bD e];split
 .next z=>rw[<-z,e]
 .rfl
section
variable{M:Mo}{L:Lay}{c:aD}(a:At M L c)
include a
theorem MK(l:ListInt)(h:∀y∈l,1<=y/\y<=c.ci.length):∃M',m7 M [ob L.g,lI l]=.ok (lI l) M'/\At M' L { c with ci:=encl c.ci l }:=by
 let⟨n,m,hg⟩:=a.hg
 let⟨o',key⟩:=Zu hg l l c.ci none h
 have e:(cX n m { c with ci:=c.ci })=cX n m c:=rfl;rw[e,abU hg]at key;refine⟨_,?_,a.setG (n:=n) (m:=m) (al:=c.al)⟩;simp[m7,wY,key,encl]
end
def any_ints(y:Int)(l:ListInt):((l.map PyData.int).any λd=>PyData.eqv d (.int y))=decide (y∈l):=by
 induction l with
 |nil=>simp
 |cons x l ih=>
  rw[List.map_cons,avS,ih,aa8];by_cases h:x=y
  .simp[h]
  .have:¬y=x:=λz=>h z.symm;simp[h,this]
def Bh(neg:Bool)(y:Int)(l:ListInt):inD neg (.int y) (lI l)=.ok (.bool (neg ^^ decide (y∈l))):=by
 show(Out.when (okd 12 (.int y)&&lX 12 (l.map PyData.int)) (.ok ((l.map PyData.int).any λz=>PyData.eqv z (.int y)))).bind _=_
 rw[any_ints,aj4,YH];rfl
section
variable{M:Mo}{L:Lay}{c:aD}(a:At M L c)
include a
theorem aeW(i:dB c)(x y:Int)(hx:Vg c x)(hy:Vg c y):if y∈aY c x then jZ M [ob L.g,.int x,.int y]=.exc ⟨"Together",[]⟩ M else
  ∃M',jZ M [ob L.g,.int x,.int y]=.ok (lI (sortI (aY c x++aY c y))) M'/\At M' L { c with ci:=encl c.ci (sortI (aY c x++aY c y)) }:=by
 have t1:=xQ a i x;have t2:=xQ a i y;rw[awg hx]at t1;rw[awg hy]at t2;let⟨n,m,hg⟩:=a.hg
 have hcx:c.ci[(x-1).toNat]?=some (aY c x):=by
  let⟨k,hk,rfl⟩:=CV hx
  have hk':k<c.ci.length:=by rw[i.len];exact hk
  simp[aY,hk']
 have hcy:c.ci[(y-1).toNat]?=some (aY c y):=by
  let⟨k,hk,rfl⟩:=CV hy
  have hk':k<c.ci.length:=by rw[i.len];exact hk
  simp[aY,hk']
 by_cases h:y∈aY c x
 .rw[awg h];simp[jZ,uZ,hg,cX,bA,t1,t2,Bh,h]
 .rw[awh h];have hm:∀z∈sortI (aY c x++aY c y),1<=z/\z<=c.ci.length:=λz hz=>by
   unfold sortI at hz;rw[List.mem_mergeSort,au8]at hz;rw[i.len];rcases hz with hz|hz
   .exact i.mem _ _ hcx z hz
   .exact i.mem _ _ hcy z hz
  let⟨M',h1,h2⟩:=MK a _ hm
  refine⟨M',?_,h2⟩;have l1:=i.clen hcx;have l2:=i.clen hcy;have hs:zH (lI (aY c x++aY c y))=.ok (lI (sortI (aY c x++aY c y))):=by
   show(match intsOf ((aY c x++aY c y).map PyData.int) with
    |some l=>Out.ok (PyData.list ((sortI l).map PyData.int))
    |none=>_)=_
   rw[ni]
  have hz:(aY c x).length+(aY c y).length<=100000:=#[];have hs:zH (.list ((aY c x).map PyData.int++(aY c y).map PyData.int))=.ok (lI (sortI (aY c x++aY c y))):=by rw[<-List.map_append];exact hs
  simp[jZ,uZ,hg,cX,bA,iD,t1,t2,Bh,h,hz,hs,h1]
theorem agv(i:dB c)(x:Int):if Vg c x then(if (aY c x).filter (λy=>!(y==x))=[] then iJ M [ob L.g,.int x]=.exc ⟨"Alone",[]⟩ M else
  ∃M',iJ M [ob L.g,.int x]=.ok (lI ((aY c x).filter (λy=>!(y==x)))) M'/\At M' L { c with ci:=encl (encl c.ci [x]) ((aY c x).filter (λy=>!(y==x))) }) else iJ M [ob L.g,.int x]=.exc ⟨"NoGround",[]⟩ M:=by
 have t1:=xQ a i x;let⟨n,m,hg⟩:=a.hg
 by_cases hx:Vg c x
 .rw[awg hx]at t1 |-
  have hcx:c.ci[(x-1).toNat]?=some (aY c x):=by
   let⟨k,hk,rfl⟩:=CV hx
   have hk':k<c.ci.length:=by rw[i.len];exact hk
   simp[aY,hk']
  have hl:(aY c x).length<=50000:=by have:=i.clen hcx;omega
  have key:=gj (tg:=aq 3) (tt:=dW (aK yP (3) (1))) (te:=BW 3) (M:=M) (Z:=[#[ob L.g],#[.int x],none,none]) PyData.int (λy=>!(y==x)) PyData.int (aY c x) λy _=>⟨[#[ob L.g],#[.int x],none,#[.int y]],by simp,by simp,λ_=>by simp⟩;by_cases he:(aY c x).filter (λy=>!(y==x))=[]
  .rw[awg he];rw[he]at key;simp![avU]at key;simp[iJ,rG,hg,cX,bA,t1,key,hl]
  .rw[awh he];generalize hL:(aY c x).filter (λy=>!(y==x))=left at he key;have hm:∀z∈left,1<=z/\z<=(encl c.ci [x]).length:=λz hz=>by
    rw[<-hL,avj]at hz;unfold encl;rw[Bc,i.len];exact i.mem _ _ hcx z hz.1
   let⟨M1,h1,a1⟩:=MK a [x] (λz hz=>by rw[au0.mp hz,i.len];exact hx)
   let⟨M2,h2,a2⟩:=MK a1 left hm
   refine⟨M2,?_,a2⟩;let⟨n1,m1,hg1⟩:=a1.hg
   have h1:m7 M [ob L.g,.list [.int x]]=.ok (.list [.int x]) M1:=h1;have he':left.isEmpty=false:=by cases left with
    |nil=>exact absurd rfl he
    |cons _ _=>rfl
   simp[iJ,rG,hg,hg1,cX,bA,iD,t1,key,hl,h1,h2,he']
 .rw[awh hx]at t1 |-
  simp[iJ,rG,hg,cX,bA,t1]
end
def aky(o g:Int)(m:ListInt)(o' g':Int)(m':ListInt):PyData.eqv (gq (o,g,m)) (gq (o',g',m'))=decide ((o,g,m)=(o',g',m')):=by simp![gq,abl,acX,aa8,Cp,alq,Bool.and_true];by_cases h1:o=o'<;>by_cases h2:g=g'<;>by_cases h3:m=m'<;>simp[h1,h2,h3]
def ag6(r s:Row3):PyData.eqv (gq r) (gq s)=decide (r=s):=aky _ _ _ _ _ _
theorem Zg:∀l:ListInt,yZ (l.map PyData.int)=some (l.map NestedKey.num)
 |[]=>rfl
 |i::l=>by rw[List.map_cons,yZ,Zg l];rfl
def amv(r:Row3):nO (gq r)=some (.tup [.num r.1,.num r.2.1,.tup (r.2.2.map .num)]):=by simp[gq,nO,yZ,Zg]
theorem depth_ints:∀l:ListInt,NestedKey.depthAll (l.map NestedKey.num)<=1
 |[]=>by simp[NestedKey.depthAll]
 |i::l=>by
  have:=depth_ints l;simp[NestedKey.depthAll,NestedKey.depth];omega
def XH(kvs:List (Dat×Dat))(r:Row3):dhas true kvs (gq r)=.ok (kvs.any λp=>PyData.eqv p.1 (gq r)):=by
 have hk:=amv r;have hd:NestedKey.depth (.tup [.num r.1,.num r.2.1,.tup (r.2.2.map .num)])<=8:=by have:=depth_ints r.2.2;simp[NestedKey.depth,NestedKey.depthAll];omega
 show(match nO (gq r) with
  |some k=>match decide (k.depth<=8) with
   |true=>Out.ok (kvs.any λp=>PyData.eqv p.1 (gq r))
   |false=>.bad
  |none=>.bad)=_
 rw[hk]
 show(match decide (NestedKey.depth (.tup [.num r.1,.num r.2.1,.tup (r.2.2.map .num)])<=8) with
   |true=>Out.ok (kvs.any λp=>PyData.eqv p.1 (gq r))
   |false=>.bad)=_
 rw[decide_eq_true hd]
def abx(held:List Row3)(r:Row3):((held.map λr=>(gq r,PyData.bool true)).any λp=>PyData.eqv p.1 (gq r))=decide (r∈held):=by
 induction held with
 |nil=>simp
 |cons s held ih=>
  rw[List.map_cons,avS,ih,ag6];by_cases h:s=r
  .simp[h]
  .have:¬r=s:=λz=>h z.symm;simp[h,this]
def bF(c:aD)(o g:Int):List ListInt:=(c.held.filter λr=>(r.1==o)&&(r.2.1==g)).map λr=>r.2.2
section
variable{M:Mo}{L:Lay}{c:aD}(a:At M L c)(few:c.held.length<=50000)
include a few
theorem Fj(o g:Int):rA M [ob L.r,.int o,.int g]=.ok (.list ((bF c o g).map aH)):=by
 have hr:=a.hr;have key:=gj (tg:=aX [3,4,5]) (tt:=jP #[(3)=(1)] #[(4)=(2)]) (te:=BW 5) (M:=M) (Z:=[#[ob L.r],#[.int o],#[.int g],none,none,none]) gq (λr=>(r.1==o)&&(r.2.1==g)) (λr=>aH r.2.2) c.held λr _=>⟨[#[ob L.r],#[.int o],#[.int g],#[.int r.1],#[.int r.2.1],#[aH r.2.2]],by simp[gq],by
  by_cases h:r.1=o<;>simp[h],λ_=>by simp⟩
 have e:(c.held.map λr=>(gq r,PyData.bool true)).map (·.1)=c.held.map gq:=by simp
 simp[rA,Ay,hr,pq,bF];simp[avk,key,few]
theorem abH(o g:Int):ql M [ob L.r,.int o,.int g]=.ok (.bool (decide (bF c o g≠[]))):=by have hr:=a.hr;have h:=Fj a few o g;simp[ql,v7,hr,pq,bU,h,List.length_pos_iff]
theorem Z8(near:ListInt):pC M [ob L.r,lI near]=.ok (.list ((c.held.filter λr=>decide (r.2.1∈near)).map λr=>Ear.rD (r.1,r.2.2))):=by have hr:=a.hr;have key:=gj (tg:=aX [2,3,4]) (tt:=dW (aK (inD false) (3) (1))) (te:=aP #[(2:),(4:)]) (M:=M) (Z:=[#[ob L.r],#[lI near],none,none,none]) gq (λr=>decide (r.2.1∈near)) (λr=>Ear.rD (r.1,r.2.2)) c.held λr _=>⟨[#[ob L.r],#[lI near],#[.int r.1],#[.int r.2.1],#[aH r.2.2]],by simp[gq],by simp[Bh],λ_=>by simp[Ear.rD,Ear.dT]⟩;simp[pC,uQ,hr,pq];simp[avk,key,few]
theorem acL:qW M [ob L.r]=.ok (.list (c.held.map gq)):=by have hr:=a.hr;simp[qW,wX,hr,pq,avk]
theorem Qm(o g:Int)(m:ListInt):if (o,g,m)∈c.held then jC M [ob L.r,.int o,.int g,aH m]=.exc ⟨"HasRight",[]⟩ M else
  ∃M',jC M [ob L.r,.int o,.int g,aH m]=.ok .none M'/\At M' L { c with held:=c.held++[(o,g,m)] }:=by
 have hr:=a.hr;have h1:=XH (c.held.map λr=>(gq r,PyData.bool true)) (o,g,m);rw[abx]at h1;simp![gq]at h1;have f2:c.held.length<100000:=#[];by_cases h:(o,g,m)∈c.held
 .rw[awg h];simp[h]at h1;simp[jC,pY,hr,pq,gq,h1]
 .rw[awh h];refine⟨_,?_,a.aiz⟩;simp[h]at h1;simp[jC,pY,hr,pq,gq,h1,f2]
end
def afI(held:List Row3)(r:Row3):((held.map λr=>(gq r,PyData.bool true)).filter λp=>!PyData.eqv p.1 (gq r))=(held.filter λs=>decide (s≠r)).map λr=>(gq r,PyData.bool true):=by
 induction held with
 |nil=>rfl
 |cons s held ih=>
  simp![List.map_cons,avD,ag6,ih];by_cases h:s=r<;>simp[h]
def aak(o g:Int)(k:List ListInt)(s:List Row3):List Row3:=k.foldl (λs mk=>s.filter λr=>decide (r≠(o,g,mk))) s
section
variable{M:Mo}{L:Lay}{c:aD}(hr:M[L.r]?=some (pq c))
include hr
theorem Y0(o g:Int)(all:List ListInt):∀(k:List ListInt) (s:List Row3) (x:Option Cell),k.Nodup->(∀mk∈k,(o,g,mk)∈s)->s.length<=50000->
  ∃x',eY (aq 4) zB (k.map aH) (M.set L.r (pq { c with held:=s })) [#[ob L.r],#[.int o],#[.int g],#[.list (all.map aH)],x]=.next [#[ob L.r],#[.int o],#[.int g],#[.list (all.map aH)],x'] (M.set L.r (pq { c with held:=aak o g k s }))
 |[],s,x,_,_,_=>⟨x,rfl⟩
 |mk::k,s,x,nd,h,hf=>by
  have hl:∀i,(M.set L.r i)[L.r]?=some i:=λi=>by rw[bD hr,awg rfl]
  rw[avO]at nd;have h1:=XH (s.map λr=>(gq r,PyData.bool true)) (o,g,mk);rw[abx,decide_eq_true (h mk auX)]at h1;have h2:=afI s (o,g,mk);have f2:s.length<=100000:=#[];let⟨x',ih⟩:=Y0 o g all k (s.filter λr=>decide (r≠(o,g,mk))) #[aH mk] nd.2 (λz hz=>by
   rw[avj];refine⟨h z (auY _ hz),decide_eq_true λe=>?_⟩;have:z=mk:=by simpa using e
   exact nd.1 (this ▸ hz)) (ave (au6 _ _) hf)
  refine⟨x',?_⟩;rw[List.map_cons,fG (Z1:=[#[ob L.r],#[.int o],#[.int g],#[.list (all.map aH)],#[aH mk]]) (M2:=M.set L.r (pq { c with held:=s.filter λr=>decide (r≠(o,g,mk)) })) (Z2:=[#[ob L.r],#[.int o],#[.int g],#[.list (all.map aH)],#[aH mk]]) (by simp) ?_,ih]
  .rfl
  .have h1':dhas true (s.map λr=>(gq r,PyData.bool true)) (.tuple [.int o,.int g,aH mk])=.ok true:=h1;have h2':((s.map λr=>(gq r,PyData.bool true)).filter λp=>!PyData.eqv p.1 (.tuple [.int o,.int g,aH mk]))=(s.filter λs=>decide (s≠(o,g,mk))).map λr=>(gq r,PyData.bool true):=h2;simp[zB,hl,pq,h1',f2];rw[h2'];simp
end
theorem aa0(o g:Int):∀(k:List ListInt) (s:List Row3),aak o g k s=s.filter λr=>decide (∀mk∈k,r≠(o,g,mk))
 |[],s=>(av2.mpr (by simp)).symm
 |mk::k,s=>by
  show aak o g k (s.filter _)=_;rw[aa0 o g k,av3];congr 1;funext r;by_cases h1:r=(o,g,mk)<;>simp[h1]
def dropped(c:aD)(o g:Int):List Row3:=c.held.filter λr=>!((r.1==o)&&(r.2.1==g))
def aey(c:aD)(o g:Int):aak o g (bF c o g) c.held=dropped c o g:=by
 rw[aa0];unfold dropped;refine List.filter_congr λr hr=>?_;let⟨x,y,z⟩:=r
 by_cases h:x=o/\y=g
 .let⟨rfl,rfl⟩:=h
  have:z∈bF c x y:=by unfold bF;rw[au2];exact⟨(x,y,z),by rw[avj];exact⟨hr,by simp⟩,rfl⟩
  simp;exact this
 .have e:(!((x==o)&&(y==g)))=true:=by
   by_cases h1:x=o<;>by_cases h2:y=g<;>simp_all
  have e2:∀mk∈bF c o g,(x,y,z)≠(o,g,mk):=λmk _ z=>by
   simp at z;exact h ⟨z.1,z.2.1⟩
  rw[e,decide_eq_true e2]
def acM{c:aD}(h:c.held.Nodup)(o g:Int):(bF c o g).Nodup:=by
 unfold bF;have h1:(c.held.filter λr=>(r.1==o)&&(r.2.1==g)).Nodup:=h.filter _;unfold List.Nodup at h1 |-
 rw[List.pairwise_map];refine List.Pairwise.imp_of_mem (λ{r s} hr hs ne e=>ne ?_) h1;rw[avj]at hr hs;let⟨r1,r2,r3⟩:=r
 let⟨s1,s2,s3⟩:=s
 have:=hr.2;have:=hs.2;simp at *;let⟨rfl,rfl⟩:=hr.2
 let⟨rfl,rfl⟩:=hs.2
 exact⟨rfl,rfl,e⟩
section
variable{M:Mo}{L:Lay}{c:aD}(a:At M L c)(few:c.held.length<=50000)(nd:c.held.Nodup)
include a few nd
theorem ajQ(o g:Int):if bF c o g=[] then pW M [ob L.r,.int o,.int g]=.exc ⟨"NoRight",[]⟩ M else
  ∃M',pW M [ob L.r,.int o,.int g]=.ok (.list ((bF c o g).map aH)) M'/\At M' L { c with held:=dropped c o g }:=by
 have hr:=a.hr;have h1:=Fj a few o g;by_cases h:bF c o g=[]
 .rw[awg h];rw[h]at h1;simp[pW,xZ,hr,pq,bU,h1]
 .rw[awh h];let⟨x',key⟩:=Y0 hr o g (bF c o g) (bF c o g) c.held none (acM nd o g) (λmk hm=>by
   unfold bF at hm;rw[au2]at hm;let⟨⟨r1,r2,r3⟩,h3,rfl⟩:=hm
   rw[avj]at h3;have:=h3.2;simp at this;let⟨rfl,rfl⟩:=this
   exact h3.1) few
  have e:(pq { c with held:=c.held })=pq c:=rfl;rw[e,abU hr,aey]at key;refine⟨_,?_,a.aiz⟩;have he:(bF c o g).isEmpty=false:=by
   cases hm:bF c o g with
   |nil=>exact absurd hm h
   |cons _ _=>rfl
  simp[pW,xZ,hr,pq,bU,h1,he];simp[key];rfl
end
def Jm(acc:List Row3)(r:Row3):List Row3:=if r∈acc then acc else acc++[r]
def Eu(e h:Int)(r:Row3):Row3:=(if r.1=e then h else r.1,r.2.1,r.2.2)
def handed(c:aD)(e h:Int):List Row3:=(c.held.map (Eu e h)).foldl Jm []
theorem adN{tg:dY}{tk:QF}{M:Mo}{Z:Rf.Env}(f:Row3->Row3):∀(xs acc:List Row3),(∀x∈xs,∃Z1,tg (gq x) Z=some Z1/\tk M Z1=.ok (gq (f x)))->Jd tg tk M Z (xs.map gq) (acc.map λr=>(gq r,PyData.bool true))=.ok (((xs.map f).foldl Jm acc).map λr=>(gq r,PyData.bool true))
 |[],acc,_=>rfl
 |x::xs,acc,h=>by
  let⟨Z1,h1,h2⟩:=h x auX
  rw[List.map_cons,Jd,h1]
  show((zq (tk M Z1)).bind λkd=>(dhas true _ kd).bind λr=>_)=_
  rw[h2,ab1,Out.Bl,XH,abx,Out.Bl,List.map_cons,avP];have ih:=adN f xs (Jm acc (f x)) λy hy=>h y (auY _ hy);unfold Jm at ih |-
  by_cases hm:f x∈acc
  .rw[awg hm]at ih |-
   rw[decide_eq_true hm];exact ih
  .rw[awh hm]at ih |-
   rw[decide_eq_false hm];rw[List.map_append]at ih;exact ih
section
variable{M:Mo}{L:Lay}{c:aD}(a:At M L c)(few:c.held.length<=50000)
include a few
theorem aaZ(e h:Int):∃M',qb M [ob L.r,.int e,.int h]=.ok .none M'/\At M' L { c with held:=handed c e h }:=by
 have hr:=a.hr;have hl:L.r<M.length:=(auZ.mp hr).1;have hr2:(M++[(⟨"",[]⟩:Inst)])[L.r]?=some (pq c):=by rw[au9 hl];exact hr
 have key:=adN (tg:=aX [3,4,5]) (tk:=aP #[J8 #[(3)=(1)] (2:) (3:),(4:),(5:)]) (M:=M) (Z:=[#[ob L.r],#[.int e],#[.int h],none,none,none]) (Eu e h) c.held [] λr _=>⟨[#[ob L.r],#[.int e],#[.int h],#[.int r.1],#[.int r.2.1],#[aH r.2.2]],by simp[gq],by
  by_cases z:r.1=e<;>simp[z,Eu,gq]⟩
 have ex:At (M++[⟨"",[]⟩]) L c:=by
  have lt:∀{k:Nat} {i:Inst},M[k]?=some i->(M++[(⟨"",[]⟩:Inst)])[k]?=some i:=λz=>by rw[au9 (auZ.mp z).1];exact z
  let⟨n,m,hg⟩:=a.hg
  let⟨n1,hh⟩:=a.hh
  exact⟨lt a.hc,⟨n,m,lt hg⟩,lt a.hr,⟨n1,lt hh⟩,a.len,λi h b h1 h2=>by
   let⟨n2,z⟩:=a.hb i h b h1 h2
   exact⟨n2,lt z⟩,a.nd,λp hp=>⟨lt (a.fr p hp).1,(a.fr p hp).2⟩⟩
 refine⟨_,?_,ex.aiz⟩;simp![avU]at key;simp[qb,vJ,hr,hr2,pq,lO];simp[avk,key,few,handed]
end
@[simp]theorem auf (n:Nat) (b:cW):(iB n b).cls="Beast":=rfl
def acV{M:Mo}{h n:Nat}{b:cW}(hb:M[h]?=some (iB n b))(s:Sd):oW M [ob h,s.dat]=.ok .none (M.set h (iB n { b with sd:=s })):=by
 have hl:∀i,(M.set h i)[h]?=some i:=λi=>by rw[bD hb,awg rfl]
 simp[oW,uf,Sd.dat,hb,iB,hl,lO]
def abt{M:Mo}{h n:Nat}{b:cW}(hb:M[h]?=some (iB n b)):yr M [ob h]=.ok b.sd.dat:=by simp[yr,Du,Sd.dat,hb,iB]
def vN{M:Mo}{h n:Nat}{b:cW}(hb:M[h]?=some (iB n b))(e:En)(he:b.sd.ear.length<=1000)(hf:b.en.length<=50000):oE M [ob h,e.dat]=.ok .none (M.set h (iB n { b with en:=b.en++[e],sd:=go b.sd e })):=by
 have hl:∀i,(M.set h i)[h]?=some i:=λi=>by rw[bD hb,awg rfl]
 have h1:(M.set h (iB n { b with en:=b.en++[e] }))[h]?=some (iB n { b with en:=b.en++[e] }):=hl _;have h2:=abt h1;have h3:=gone_ok (M.set h (iB n { b with en:=b.en++[e] })) b.sd e he;have h4:=acV h1 (go b.sd e);have h5:b.en.length+1<100000:=#[];have e1:M.set h ⟨"Beast",[("story",.lst n (b.fi.dat::(b.en.map En.dat++[e.dat]))),("mother",.dat (.int b.mo)),("owner",.dat (.int b.sd.o)),("ground",.dat (.int b.sd.g)),("due",.dat (mY b.sd.due)),("ear",.dat (aH b.sd.ear)),("alive",.dat (.bool b.sd.al))]⟩=M.set h (iB n { b with en:=b.en++[e] }):=by simp[iB]
 simp[oE,Bv,hb,iB,h5];rw[e1];simp[h1,oR,kW,h2,h3,h4];simp[iB]
def amV:Fi->Int
 |.born m _ _=>m
 |_=>0
def Jj(f:Fi):cW:=⟨f,[],amV f,beg f⟩
def akB(M:Mo)(f:Fi):vo (M++[⟨"Beast",[]⟩]) [ob M.length,f.dat]=.ok .none (M++[iB (M.length+1) (Jj f),⟨"",[]⟩]):=by
 have hbeg:=λM=>ah0 M f;have hg:∀i (r:List Inst),(M++i::r)[M.length]?=some i:=λi r=>by simp
 have hs:∀i j (r:List Inst),(M++i::r).set M.length j=M++j::r:=λi j r=>by simp
 cases f<;>simp[vo,Fl,Fi.dat,hg,hs,lO,oW,uf,kW,Fe,Rm,jV,iB,Jj,amV,beg,mY,Fi.dat]
def bK(L:Lay)(c:aD):List (Nat×Nat×cW):=(L.bs.zip c.bs).mapIdx λi p=>(i,p.1,p.2)
def nb(x:Nat×Nat×cW):Dat:=.tuple [.int ((x.1:Int)+1),ob x.2.1]
def Dk{L:Lay}{c:aD}{x:Nat×Nat×cW}(h:x∈bK L c):L.bs[x.1]?=some x.2.1/\c.bs[x.1]?=some x.2.2:=by
 unfold bK at h;let⟨i,hi,e⟩:=List.mem_mapIdx.mp h
 have hz:=auV hi;rw[avM]at hz;subst e;exact hz
def At.hb'{M:Mo}{L:Lay}{c:aD}(a:At M L c){x:Nat×Nat×cW}(h:x∈bK L c):∃n,M[x.2.1]?=some (iB n x.2.2):=by
 let⟨h1,h2⟩:=Dk h
 exact a.hb _ _ _ h1 h2
def At.len'{M:Mo}{L:Lay}{c:aD}(a:At M L c):(bK L c).length=c.bs.length:=by unfold bK;simp[a.len]
def At.enum{M:Mo}{L:Lay}{c:aD}(a:At M L c):qU 1 (L.bs.map ob)=(bK L c).map nb:=by
 unfold qU bK;apply avp;intro i;simp![avG,ava];by_cases hi:i<L.bs.length
 .have hi2:i<c.bs.length:=by rw[<-a.len];exact hi
  have hz:(L.bs.zip c.bs)[i]?=some (L.bs[i],c.bs[i]):=by rw[avM];exact⟨auV hi,auV hi2⟩
  rw[hz];simp[hi,nb,Int.add_comm]
 .have hi2:¬i<c.bs.length:=by rw[<-a.len];exact hi
  have:(L.bs.zip c.bs)[i]?=none:=by rw[List.getElem?_eq_none_iff,List.length_zip];omega
  simp[avs (by omega:L.bs.length<=i),this]
section
variable{M:Mo}{L:Lay}{c:aD}(a:At M L c)(few:c.bs.length<=50000)
include a few
theorem xY:qX M [ob L.h]=.ok (.list (((bK L c).filter λx=>x.2.2.sd.al).map nb)):=by
 let⟨n,hh⟩:=a.hh
 have hl:=a.len';have he:=a.enum;have key:=gj (tg:=aX [1,2]) (tt:=gQ (bf "alive" (2))) (te:=aP #[(1:),(2:)]) (M:=M) (Z:=[#[ob L.h],none,none]) nb (λx=>x.2.2.sd.al) nb (bK L c) λx hx=>⟨[#[ob L.h],#[.int ((x.1:Int)+1)],#[ob x.2.1]],by simp[nb],by
  let⟨n,hb⟩:=a.hb' hx
  simp[hb,iB],λ_=>by simp[nb]⟩
 simp[qX,xq,hh,dJ];rw[he];simp[key,hl,few]
theorem Lh(near:ListInt):rB M [ob L.h,lI near]=.ok (.list (((bK L c).filter λx=>decide (x.2.2.sd.g∈near)&&x.2.2.sd.al).map nb)):=by
 let⟨n,hh⟩:=a.hh
 have h1:=xY a few;have hl:((bK L c).filter λx=>x.2.2.sd.al).length<=50000:=ave (au6 _ _) (by rw[a.len'];exact few);have key:=gj (tg:=aX [2,3]) (tt:=dW (aK (inD false) (bf "ground" (3)) (1))) (te:=aP #[(2:),(3:)]) (M:=M) (Z:=[#[ob L.h],#[lI near],none,none]) nb (λx=>decide (x.2.2.sd.g∈near)) nb ((bK L c).filter λx=>x.2.2.sd.al) λx hx=>⟨[#[ob L.h],#[lI near],#[.int ((x.1:Int)+1)],#[ob x.2.1]],by simp[nb],by
  let⟨n,hb⟩:=a.hb' (avj.mp hx).1
  simp[hb,iB,Bh],λ_=>by simp[nb]⟩
 rw[av3]at key;simp[rB,BK,hh,dJ,bT,h1,key,hl]
theorem ahH(o:Int):zU M [ob L.h,.int o]=.ok (.list (((bK L c).filter λx=>(x.2.2.sd.o==o)&&x.2.2.sd.al).map nb)):=by
 let⟨n,hh⟩:=a.hh
 have h1:=xY a few;have hl:((bK L c).filter λx=>x.2.2.sd.al).length<=50000:=ave (au6 _ _) (by rw[a.len'];exact few);have key:=gj (tg:=aX [2,3]) (tt:=#[(bf "owner" (3))=(1)]) (te:=aP #[(2:),(3:)]) (M:=M) (Z:=[#[ob L.h],#[.int o],none,none]) nb (λx=>x.2.2.sd.o==o) nb ((bK L c).filter λx=>x.2.2.sd.al) λx hx=>⟨[#[ob L.h],#[.int o],#[.int ((x.1:Int)+1)],#[ob x.2.1]],by simp[nb],by
  let⟨n,hb⟩:=a.hb' (avj.mp hx).1
  simp[hb,iB],λ_=>by simp[nb]⟩
 rw[av3]at key;simp[zU,FT,hh,dJ,bT,h1,key,hl]
theorem abO(k:Int):lW M [ob L.h,.int k]=if 1<=k/\k<=c.bs.length then .ok (ob ((L.bs[(k-1).toNat]?).getD 0)) else .exc ⟨"NoBeast",[]⟩:=by
 let⟨n,hh⟩:=a.hh
 have hlen:(L.bs.length:Int)=c.bs.length:=by rw[a.len]
 by_cases h:1<=k/\k<=c.bs.length
 .rw[awg h];obtain⟨j,rfl⟩:∃j:Nat,k=(j:Int)+1:=⟨(k-1).toNat,#[]⟩;have hj:j<L.bs.length:=by have:=a.len;omega
  have h1:(1:Int)<=j+1:=#[];have h2:(j:Int)+1<=L.bs.length:=#[];simp[lW,vY,hh,dJ,h1,h2,hj]
 .rw[awh h];by_cases h1:1<=k
  .have h2:¬k<=L.bs.length:=#[];simp[lW,vY,hh,dJ,h1,h2]
  .simp[lW,vY,hh,dJ,h1]
end
def bk(c:aD)(k:Int):Option cW:=if 1<=k/\k<=c.bs.length then c.bs[(k-1).toNat]? else none
def hk(L:Lay)(k:Int):Nat:=(L.bs[(k-1).toNat]?).getD 0
def uD(b:cW)(e:En):cW:={ b with en:=b.en++[e],sd:=go b.sd e }
def iG(c:aD)(i:Nat)(e:En):aD:={ c with bs:=c.bs.modify i λb=>uD b e }
def rO{M:Mo}{L:Lay}{c:aD}(a:At M L c){k:Int}{b:cW}(h:bk c k=some b):1<=k/\k<=c.bs.length/\L.bs[(k-1).toNat]?=some (hk L k)/\c.bs[(k-1).toNat]?=some b/\∃n,M[hk L k]?=some (iB n b):=by
 unfold bk at h;left
 .next hh=>
  have hl:(k-1).toNat<L.bs.length:=by have:=a.len;omega
  have e:L.bs[(k-1).toNat]?=some (hk L k):=by unfold hk;rw[auV hl];rfl
  exact⟨hh.1,hh.2,e,h,a.hb _ _ _ e h⟩
 .cases h
def akj{c:aD}{k:Int}(h:bk c k=none):¬(1<=k/\k<=c.bs.length):=λz=>by
 unfold bk at h;rw[awg z,List.getElem?_eq_none_iff]at h;omega
section
variable{M:Mo}{L:Lay}{c:aD}(a:At M L c)(few:c.bs.length<=50000)
include a few
theorem Em{k:Int}{b:cW}(h:bk c k=some b):lW M [ob L.h,.int k]=.ok (ob (hk L k)):=by
 let⟨h1,h2,_⟩:=rO a h
 rw[abO a few,awg ⟨h1,h2⟩];rfl
theorem U7{k:Int}(h:bk c k=none):lW M [ob L.h,.int k]=.exc ⟨"NoBeast",[]⟩:=by rw[abO a few,awh (akj h)]
theorem Hj(k:Int):uw M [ob L.h,.int k]=match bk c k with
  |none=>.exc ⟨"NoBeast",[]⟩
  |some b=>if b.sd.al then .ok (ob (hk L k)) else .exc ⟨"Dead",[]⟩:=by
 let⟨n,hh⟩:=a.hh
 cases h:bk c k with
 |none=>
  have h1:=U7 a few h;simp[uw,xX,hh,dJ,dX,h1]
 |some b=>
  have h1:=Em a few h;let⟨_,_,_,_,n',hb⟩:=rO a h
  cases h2:b.sd.al<;>simp[uw,xX,hh,dJ,dX,h1,hb,iB,h2]
theorem PB(k:Int):pP M [ob L.h,.int k]=match bk c k with
  |none=>.exc ⟨"NoBeast",[]⟩
  |some b=>if b.sd.al then(if b.sd.due=none then .exc ⟨"Unmarked",[]⟩ else .ok (ob (hk L k))) else .exc ⟨"Dead",[]⟩:=by
 let⟨n,hh⟩:=a.hh
 have h0:=Hj a few k;cases h:bk c k with
 |none=>
  rw[h]at h0;simp[pP,uH,hh,dJ,bB,h0]
 |some b=>
  rw[h]at h0;let⟨_,_,_,_,n',hb⟩:=rO a h
  cases h2:b.sd.al with
  |false=>
   simp[h2]at h0;simp[pP,uH,hh,dJ,bB,h0,h2]
  |true=>
   simp[h2]at h0;cases h3:b.sd.due<;>simp[pP,uH,hh,dJ,bB,h0,hb,iB,h2,h3,mY,iZ]
def vf(k:Int)(b:cW):Bool:=(b.mo==k)&&b.sd.due.isNone
theorem Y7(k:Int):pQ M [ob L.h,.int k]=match bk c k with
  |none=>.exc ⟨"NoBeast",[]⟩
  |some _=>.ok (.list (((bK L c).filter λx=>vf k x.2.2&&x.2.2.sd.al).map nb)):=by
 let⟨n,hh⟩:=a.hh
 have h1:=xY a few;have hl:((bK L c).filter λx=>x.2.2.sd.al).length<=50000:=ave (au6 _ _) (by rw[a.len'];exact few);have key:=gj (tg:=aX [2,3]) (tt:=jP #[(bf "mother" (3))=(1)] (dW (vB false .none (bf "due" (3))))) (te:=aP #[(2:),(3:)]) (M:=M) (Z:=[#[ob L.h],#[.int k],none,none]) nb (λx=>vf k x.2.2) nb ((bK L c).filter λx=>x.2.2.sd.al) λx hx=>⟨[#[ob L.h],#[.int k],#[.int ((x.1:Int)+1)],#[ob x.2.1]],by simp[nb],by
  let⟨n,hb⟩:=a.hb' (avj.mp hx).1
  by_cases h2:x.2.2.mo=k<;>cases h3:x.2.2.sd.due<;>simp[hb,iB,vf,h2,h3,mY,iZ],λ_=>by simp[nb]⟩
 rw[av3]at key;cases h:bk c k with
 |none=>
  have h2:=U7 a few h;simp[pQ,yt,hh,dJ,dX,h2]
 |some b=>
  have h2:=Em a few h;simp[pQ,yt,hh,dJ,dX,bT,h1,h2,key,hl]
theorem Qn(f:Fi)(hf:c.bs.length<50000):∃M' h,tL M [ob L.h,f.dat]=.ok (.int (c.bs.length+1)) M'/\At M' { L with bs:=L.bs++[h] } { c with bs:=c.bs++[Jj f] }:=by
 let⟨n,hh⟩:=a.hh
 have hl:L.h<M.length:=(auZ.mp hh).1;have hi:=akB M f;have hh2:(M++[iB (M.length+1) (Jj f),⟨"",[]⟩])[L.h]?=some (dJ n L):=by rw[au9 hl];exact hh
 have hs:∀i,((M++[iB (M.length+1) (Jj f),(⟨"",[]⟩:Inst)]).set L.h i)[L.h]?=some i:=λi=>by rw[bD hh2,awg rfl]
 have hz:c.bs.length<100000:=#[];refine⟨_,M.length,?_,a.aqK (M2:=M++[iB (M.length+1) (Jj f),⟨"",[]⟩]) (n:=M.length+1) (n2:=n) (avd _) (λk hk=>by rw[au9 hk]) (by simp)⟩
 simp[tL,yE,hh,dJ,hi,hh2,hs,hz,a.len]
end
def Bx{M:Mo}{L:Lay}{c:aD}(a:At M L c){i h n:Nat}{b:cW}{e:En}(h1:L.bs[i]?=some h)(h2:c.bs[i]?=some b):At (M.set h (iB n (uD b e))) L (iG c i e):=by
 have:=a.setB (n:=n) (b':=uD b e) h1;have hm:c.bs.modify i (λb=>uD b e)=c.bs.set i (uD b e):=by
  apply avp;intro j;rw[List.getElem?_modify,avR];by_cases hj:i=j
  .subst hj;have hl:=(auZ.mp h2).1;simp[hl,h2];have:=(auZ.mp h2).2;rw[this]
  .simp[hj]
 unfold iG;rw[hm];exact this
def Ax(c:aD)(i j:Nat)(e:En):(iG c i e).bs[j]?=if i=j then(c.bs[j]?).map λb=>uD b e else c.bs[j]?:=by unfold iG;simp![List.getElem?_modify];by_cases h:i=j<;>simp[h]
def xK(xs:List (Nat×Nat×cW))(e:En)(c:aD):aD:=xs.foldl (λc x=>iG c x.1 e) c
theorem U0{tg:dY}{body:SF}(Q:Rf.Env->Prop)(P:Nat->aD->Prop)(e:En)(L:Lay)(T:Nat):∀(xs:List (Nat×Nat×cW)) (M:Mo) (c:aD) (Z:Rf.Env) (i:Nat),i+xs.length<=T->At M L c->P i c->Q Z->
  (∀M c Z x i,i<T->At M L c->P i c->Q Z->x∈xs->∃Z1 Z2 M2,tg (nb x) Z=some Z1/\body M Z1=.next Z2 M2/\Q Z2/\At M2 L (iG c x.1 e)/\P (i+1) (iG c x.1 e))->
  ∃Z' M',eY tg body (xs.map nb) M Z=.next Z' M'/\Q Z'/\At M' L (xK xs e c)
 |[],M,c,Z,i,_,a,p,q,_=>⟨Z,M,rfl,q,a⟩
 |x::xs,M,c,Z,i,hT,a,p,q,h=>by
  rw[au5]at hT;let⟨Z1,Z2,M2,h1,h2,h3,h4,h5⟩:=h M c Z x i #[] a p q auX
  let⟨Z',M',g1,g2,g3⟩:=U0 Q P e L T xs M2 _ Z2 (i+1) #[] h4 h5 h3 λM c Z y i hi a p q hy=>h M c Z y i hi a p q (auY _ hy)
  exact⟨Z',M',by rw[List.map_cons,fG h1 h2];exact g1,g2,g3⟩
structure Qt(n:Nat)(c:aD):Prop where
 ear:∀b∈c.bs,b.sd.ear.length=6
 en:∀b∈c.bs,b.en.length<=n
def an4(s:Sd)(e:En)(he:s.ear.length=6)(h2:match e with|.cut l=>l.length=6|.sold _ l=>l.length=6|_=>True):(go s e).ear.length=6:=by cases e<;>simp_all [go,Ag]
theorem V8(e:En):∀(xs:List (Nat×Nat×cW)) (c:aD) (j:Nat),(xs.map (·.1)).Nodup->(xK xs e c).bs[j]?=if j∈xs.map (·.1) then(c.bs[j]?).map λb=>uD b e else c.bs[j]?
 |[],c,j,_=>by simp[xK]
 |x::xs,c,j,nd=>by
  rw[List.map_cons,avO]at nd
  show(xK xs e (iG c x.1 e)).bs[j]?=_
  rw[V8 e xs _ j nd.2,Ax];by_cases h1:x.1=j
  .subst h1;rw[awh nd.1,awg rfl,awg (by simp)]
  .rw[awh h1];by_cases h2:j∈xs.map (·.1)
   .rw[awg h2,awg (by rw[List.map_cons];exact auY _ h2)]
   .rw[awh h2,awh (by
     rw[List.map_cons,au7]
     rintro(z|z)
     .exact h1 z.symm
     .exact h2 z)]
theorem Ss(e:En):∀(xs:List (Nat×Nat×cW)) (c:aD),(xK xs e c)={ c with bs:=(xK xs e c).bs }
 |[],_=>rfl
 |x::xs,c=>by
  show xK xs e (iG c x.1 e)={ c with bs:=(xK xs e (iG c x.1 e)).bs };rw[Ss e xs];rfl
def afU{L:Lay}{c:aD}(p:Nat×Nat×cW->Bool):(((bK L c).filter p).map (·.1)).Nodup:=by
 have h:((bK L c).map (·.1)).Nodup:=by
  have e:(bK L c).map (·.1)=List.range (L.bs.zip c.bs).length:=by
   unfold bK;apply avp;intro i;simp![ava,avG];by_cases hi:i<(L.bs.zip c.bs).length
   .rw[auV hi,List.getElem?_range hi];rfl
   .rw[avs (by omega:(L.bs.zip c.bs).length<=i),avs (by rw[List.length_range];omega:(List.range (L.bs.zip c.bs).length).length<=i)];rfl
  rw[e];exact List.nodup_range
 exact h.sublist (List.Sublist.map _ List.filter_sublist)
def qu(p:cW->Bool)(e:En)(c:aD):aD:={ c with bs:=c.bs.map λb=>if p b then uD b e else b }
def Zd{M:Mo}{L:Lay}{c:aD}(a:At M L c)(p:cW->Bool)(e:En):xK ((bK L c).filter λx=>p x.2.2) e c=qu p e c:=by
 rw[Ss];unfold qu;congr 1;apply avp;intro j;rw[V8 _ _ _ _ (afU _),ava];by_cases hj:j<c.bs.length
 .have hb:=auV hj;rw[hb];have hl:j<L.bs.length:=by rw[a.len];exact hj
  have mem:(j,L.bs[j],c.bs[j])∈bK L c:=by unfold bK;rw[List.mem_mapIdx];refine⟨j,by simp;omega,by simp⟩
  by_cases hp:p c.bs[j]=true
  .have:j∈((bK L c).filter λx=>p x.2.2).map (·.1):=au2.mpr ⟨_,avj.mpr ⟨mem,hp⟩,rfl⟩;rw[awg this];simp[hp]
  .have:j∉((bK L c).filter λx=>p x.2.2).map (·.1):=λz=>by
    let⟨x,h1,h2⟩:=au2.mp z
    let⟨h3,h4⟩:=avj.mp h1
    let⟨_,h5⟩:=Dk h3
    rw[h2,hb]at h5;rw[<-avi h5]at h4;exact hp h4
   rw[awh this];simp[hp]
 .rw[avs (by omega:c.bs.length<=j)];simp
def Qt.step{n:Nat}{c:aD}(bi:Qt n c)(i:Nat)(e:En)(h2:match e with|.cut l=>l.length=6|.sold _ l=>l.length=6|_=>True):Qt (n+1) (iG c i e):=by
 have key:∀b∈(iG c i e).bs,b∈c.bs\/∃b0∈c.bs,b=uD b0 e:=λb hb=>by
  let⟨j,hj⟩:=List.mem_iff_getElem?.mp hb
  rw[Ax]at hj;split at hj
  .let⟨b0,h3,h4⟩:=avL.mp hj
   exact .inr ⟨b0,au4 h3,h4.symm⟩
  .exact .inl (au4 hj)
 refine⟨λb hb=>?_,λb hb=>?_⟩
 .rcases key b hb with h|⟨b0,h,rfl⟩
  .exact bi.ear b h
  .exact an4 _ _ (bi.ear b0 h) h2
 .rcases key b hb with h|⟨b0,h,rfl⟩
  .have:=bi.en b h;omega
  .have:=bi.en b0 h;simp[uD];omega
section
variable{M:Mo}{L:Lay}{c:aD}(a:At M L c)(few:c.bs.length<=1000){n:Nat}(bi:Qt n c)(hn:n<=40000)
include a few bi hn
theorem Ka(k:Int){b:cW}(hk':bk c k=some b):∃M',qI M [ob L.h,.int k]=.ok .none M'/\At M' L (qu (λx=>vf k x&&x.sd.al) (.followed b.sd.o b.sd.g) c):=by
 let⟨m,hh⟩:=a.hh
 have few2:c.bs.length<=50000:=#[];have h1:=Em a few2 hk';have h2:=Y7 a few2 k;rw[hk']at h2;let⟨k1,k2,k3,k4,k5⟩:=rO a hk'
 have hlen:((bK L c).filter λx=>vf k x.2.2&&x.2.2.sd.al).length<=1000:=ave (au6 _ _) (by rw[a.len'];exact few);let⟨Z',M',g1,g2,g3⟩:=U0 (tg:=aX [3,4]) (body:=tK) (λZ=>∃x y,Z=[#[ob L.h],#[.int k],#[ob (hk L k)],x,y])
  (λi c1=>(∃b1,c1.bs[(k-1).toNat]?=some b1/\b1.sd.o=b.sd.o/\b1.sd.g=b.sd.g)/\Qt (n+i) c1/\c1.bs.length=c.bs.length) (.followed b.sd.o b.sd.g) L 1000 ((bK L c).filter λx=>vf k x.2.2&&x.2.2.sd.al) M c [#[ob L.h],#[.int k],#[ob (hk L k)],none,none] 0 #[] a ⟨⟨b,k4,rfl,rfl⟩,bi,rfl⟩ ⟨none,none,rfl⟩ (λM1 c1 Z x i hi a1 p1 q1 hx=>by
   let⟨⟨bm,m1,m2,m3⟩,bi1,l1⟩:=p1
   let⟨x0,y0,rfl⟩:=q1
   let⟨nm,hm⟩:=a1.hb _ _ _ k3 m1
   let⟨e1,e2⟩:=Dk (avj.mp hx).1
   have hl:x.1<c1.bs.length:=by rw[l1];exact(auZ.mp e2).1
   have e3:=auV hl;let⟨nx,hx1⟩:=a1.hb _ _ _ e1 e3
   have mem:=avE hl;have hb:=vN hx1 (.followed b.sd.o b.sd.g) (by rw[bi1.ear _ mem];decide) (by have:=bi1.en _ mem;omega);refine⟨[#[ob L.h],#[.int k],#[ob (hk L k)],#[.int ((x.1:Int)+1)],#[ob x.2.1]],[#[ob L.h],#[.int k],#[ob (hk L k)],#[.int ((x.1:Int)+1)],#[ob x.2.1]],_,by simp[nb],?_,⟨_,_,rfl⟩,Bx (n:=nx) a1 e1 e3,?_,bi1.step _ _ awa,by simp[iG,l1]⟩
   .have hb:oE M1 [ob x.2.1,.tuple [.str "followed",.int b.sd.o,.int b.sd.g]]=_:=hb
    simp[tK,hx1,hm,bL];simp[iB]at hb |-
    simp[m2,m3,hb,uD]
   .rw[Ax,m1];by_cases z:x.1=(k-1).toNat
    .exact⟨uD bm (.followed b.sd.o b.sd.g),by rw[awg z];rfl,rfl,rfl⟩
    .exact⟨bm,by rw[awh z],m2,m3⟩)
 rw[Zd a (λx=>vf k x&&x.sd.al)]at g3;refine⟨M',?_,g3⟩;simp[qI,vZ,hh,dJ,dX,oV,h1,h2,g1]
end
def pD(p:Int×Int):Dat:=.tuple [.int p.1,.int p.2]
theorem Fq:∀(x y:ListInt),zK (x.map PyData.int) (y.map PyData.int)=(x.zip y).map pD
 |[],_=>by simp[zK]
 |_::_,[]=>by simp[zK]
 |a::x,b::y=>by
  have:=Fq x y;unfold zK at this |-
  rw[List.map_cons,List.map_cons,List.zipWith_cons_cons,this,avV,List.map_cons];rfl
def Cm(x y:ListInt):Bool:=(x.zip y).all λp=>decide (p.1<=p.2)
def qH(x y:ListInt):Int:=(((x.zip y).filter λp=>decide (p.1<p.2)).map λp=>p.2-p.1).sum
def rN(x y:ListInt):Int:=if qH y x>qH x y then qH y x else qH x y
def lB(x y:ListInt):ListInt:=(x.zip y).map λp=>if p.2>p.1 then p.2 else p.1
def ale(x y:ListInt)(h:x.length<=1000):(x.zip y).length<=50000:=by rw[List.length_zip];omega
def ahf(l:ListInt):acn (.list (l.map PyData.int))=.ok (.int l.sum):=by
 show(match intsOf (l.map PyData.int) with
  |some ns=>Out.ok (PyData.int ns.sum)
  |none=>.bad)=_
 rw[ni]
def MF(M:Mo)(x y:ListInt)(h:x.length<=1000):pU M [aH x,aH y]=.ok (.int (qH x y)):=by have key:=gj (tg:=aX [2,3]) (tt:=dW (aK gtD (3) (2))) (te:=aK oZ (3) (2)) (M:=M) (Z:=[#[aH x],#[aH y],none,none]) pD (λp=>decide (p.1<p.2)) (λp=>.int (p.2-p.1)) (x.zip y) λp _=>⟨[#[aH x],#[aH y],#[.int p.1],#[.int p.2]],by simp[pD],by simp,λ_=>by simp⟩;have hz:=ale x y h;have hs:=ahf (((x.zip y).filter λp=>decide (p.1<p.2)).map λp=>p.2-p.1);rw[avh]at hs;have hz2:min x.length y.length<=50000:=#[];simp[pU,Yh,Fq,key,hz2];simp[avk]at hs;simp[hs,qH]
def aiH(M:Mo)(x y:ListInt)(h:x.length<=1000)(h2:y.length<=1000):KR M [aH x,aH y]=.ok (.int (rN x y)):=by simp[KR,Xe,MF M x y h,MF M y x h2,rN]
def X7(M:Mo)(x y:ListInt)(r:Int)(h:x.length<=1000)(h2:y.length<=1000):uF M [aH x,aH y,.int r]=.ok (.bool (decide (rN x y<=r))):=by simp[uF,ab6,aiH M x y h h2]
def KY(M:Mo)(x y:ListInt)(h:x.length<=1000):rE M [aH x,aH y]=.ok (aH (lB x y)):=by have key:=dw (tg:=aX [2,3]) (te:=aK yq (2) (3)) (M:=M) (Z:=[#[aH x],#[aH y],none,none]) pD (λp=>.int (if p.2>p.1 then p.2 else p.1)) (x.zip y) λp _=>⟨[#[aH x],#[aH y],#[.int p.1],#[.int p.2]],by simp[pD],by simp⟩;have hz2:min x.length y.length<=50000:=#[];simp[rE,Yd,Fq,key,hz2,lB]
abbrev Rw:=Ear.Rw
theorem Oq:∀R:List Rw,Jc (R.map Ear.rD)=some R
 |[]=>rfl
 |r::R=>by
  rw[List.map_cons,Jc,Oq R];have:afn (Ear.rD r)=some r:=by
   unfold Ear.rD Ear.dT
   show(intsOf (r.2.map PyData.int)).map _=_
   rw[ni];rfl
  rw[this];rfl
def OJ(M:Mo)(R:List Rw)(h:R.eraseDups.length<=76):tZ M [.list (R.map Ear.rD)]=.ok (.list ((bG R).map Ear.rD)):=by
 have:Ve (.list (R.map Ear.rD))=.ok (.list ((bG R).map Ear.rD)):=by
  show(match Jc (R.map Ear.rD) with
   |some R=>match decide (R.eraseDups.length<=76) with
    |true=>Out.ok (PyData.list ((bG R).map Ear.rD))
    |false=>.bad
   |none=>.bad)=_
  rw[Oq]
  show(match decide (R.eraseDups.length<=76) with
    |true=>Out.ok (PyData.list ((bG R).map Ear.rD))
    |false=>.bad)=_
  rw[decide_eq_true h]
 simp[tZ,Tj,this]
def sU(R:List Rw):(bG R).length=R.eraseDups.length:=by unfold bG sV;rw[List.length_mergeSort]
def Bq(o:Int)(e:ListInt)(R:List Rw)(room:Int):List Rw:=(bG R).filter λr=>!(r.1==o)&&decide (rN e r.2<=room)
def u5(R:List Rw):Prop:=∀r∈R,r.2.length=6
def V3(M:Mo)(o:Int)(e:ListInt)(R:List Rw)(room:Int)(he:e.length=6)(hR:u5 R)(h:R.eraseDups.length<=76):wu M [.int o,aH e,.list (R.map Ear.rD),.int room]=.ok (.list ((Bq o e R room).map Ear.rD)):=by
 have ht:=OJ M R h;have hl:(bG R).length<=50000:=by rw[sU];omega
 have key:=gj (tg:=aX [4,5]) (tt:=jP (dW (aK yP (4) (0))) (gQ (aN uF #[(1:),(5:),(3:)]))) (te:=aP #[(4:),(5:)]) (M:=M) (Z:=[#[.int o],#[aH e],#[.list (R.map Ear.rD)],#[.int room],none,none]) Ear.rD (λr=>!(r.1==o)&&decide (rN e r.2<=room)) Ear.rD (bG R) λr hr=>⟨[#[.int o],#[aH e],#[.list (R.map Ear.rD)],#[.int room],#[.int r.1],#[aH r.2]],by simp[Ear.rD,Ear.dT],by
  have:=X7 M e r.2 room #[] (by rw[hR r (lV.mp hr)];decide);by_cases hz:r.1=o<;>simp[this,hz],λ_=>by simp[Ear.rD,Ear.dT]⟩
 simp[wu,Oi,ht,key,hl,Bq]
def R7(M:Mo)(o:Int)(e:ListInt)(R:List Rw)(room:Int)(he:e.length=6)(hR:u5 R)(h:R.eraseDups.length<=76):qm M [.int o,aH e,.list (R.map Ear.rD),.int room]=match Bq o e R room with
  |[]=>.ok .none
  |r::_=>.exc ⟨"Clash",[("ear",aH (lB e r.2)),("others",Ear.rD r),("ones",Ear.rD (o,e))]⟩:=by
 have hb:=V3 M o e R room he hR h;cases hx:Bq o e R room with
 |nil=>
  rw[hx]at hb;simp[qm,Et,hb]
 |cons r rs=>
  rw[hx]at hb;have hj:=KY M e r.2 #[];simp[qm,Et,hb];simp[Ear.rD,Ear.dT,hj]
def cY(x:ListInt):Bool:=decide (x.length=6)&&x.all λd=>decide (0<=d)&&decide (d<=9)
def yR(l:List Bool):qY (l.map PyData.bool)=some l:=by
 induction l with
 |nil=>rfl
 |cons b l ih=>rw[List.map_cons,qY,ih];rfl
def ZM(M:Mo)(x:ListInt)(h:x.length<=1000):vP M [aH x]=.ok (.bool (cY x)):=by
 have key:=dw (tg:=aq 1) (te:=Vq (pB sJ sJ #[0] (1) (qC cO))) (M:=M) (Z:=[#[aH x],none]) PyData.int (λd=>.bool (decide (0<=d)&&decide (d<=9))) x λd _=>⟨[#[aH x],#[.int d]],by simp,by
  by_cases h0:0<=d<;>simp[h0,cO]⟩
 have ha:FW (.list (x.map λd=>PyData.bool (decide (0<=d)&&decide (d<=9))))=.ok (.bool (x.all λd=>decide (0<=d)&&decide (d<=9))):=by
  have e:(x.map λd=>PyData.bool (decide (0<=d)&&decide (d<=9)))=(x.map λd=>decide (0<=d)&&decide (d<=9)).map PyData.bool:=by rw[avh];rfl
  rw[e]
  show(match qY _ with
   |some bs=>Out.ok (PyData.bool (bs.all id))
   |none=>.bad)=_
  rw[yR];simp[List.all_map,avk]
 have hl:x.length<=50000:=#[];by_cases h6:x.length=6
 .have h6':((x.length:Int)==6)=true:=by simp[h6]
  simp[vP,LR,jy,key,hl,ha,cY,h6]
 .have h6':¬(x.length:Int)=6:=#[];simp[vP,LR,jy,cY,h6,h6']
def adb{x:ListInt}(h:x.length=6)(h2:∀d∈x,0<=d/\d<10):cY x=true:=by unfold cY;simp![auU,awc,avl];refine⟨h,λd hd=>?_⟩;have:=h2 d hd;omega
theorem Le{α β:Type}{tg tg1:dY}{tt tt1:QT}{it1:IF}{vs1:List Nat}{te:QF}{M:Mo}{Z:Rf.Env}(ds:α->Dat)(ys:α->List β)(ds1:β->Dat)(p:α->β->Bool)(f:α->β->Dat):∀(xs:List α),(∀x∈xs,∃Z1,tg (ds x) Z=some Z1/\tt M Z1=.ok true/\Cg Z1=true/\it1 M Z1=.ok ((ys x).map ds1)/\∀y∈ys x,∃Z2,tg1 (ds1 y) (bM Z1 vs1)=some Z2/\tt1 M Z2=.ok (p x y)/\(p x y=true->te M Z2=.ok (f x y)))->
  iW tg tt it1 tg1 vs1 tt1 te M Z (xs.map ds)=.ok (xs.flatMap λx=>((ys x).filter (p x)).map (f x))
 |[],_=>rfl
 |x::xs,h=>by
  let⟨Z1,h1,h2,h3,h4,h5⟩:=h x auX
  have ih:=Le ds ys ds1 p f xs λy hy=>h y (auY _ hy);have hc:=gj (tg:=tg1) (tt:=tt1) (te:=te) (M:=M) (Z:=bM Z1 vs1) ds1 (p x) (f x) (ys x) h5;rw[List.map_cons,iW,h1]
  show((zq (tt M Z1)).bind λb=>if b=true then Out.when (Cg Z1) ((zq (it1 M Z1)).bind λes=>(cI tg1 tt1 te M (bM Z1 vs1) es).bind λr1=>(iW tg tt it1 tg1 vs1 tt1 te M Z (xs.map ds)).bind λr=>Out.ok (r1++r)) else iW tg tt it1 tg1 vs1 tt1 te M Z (xs.map ds))=_
  rw[h2,ab1,Out.Bl,awg rfl,h3,Out.Zt,h4,ab1,Out.Bl,hc,Out.Bl,ih,Out.Bl,List.flatMap_cons]
def Jp(M:Mo)(x:ListInt)(h:x.length<=1000):nR M [aH x]=if cY x then .ok .none else .exc ⟨"BadEar",[]⟩:=by have:=ZM M x h;cases hb:cY x<;>simp[nR,Lz,this,hb]
def pairD(p:Rw×Rw):Dat:=.tuple [Ear.rD p.1,Ear.rD p.2]
def oG(T:List Rw)(room:Int):List (Rw×Rw):=(T.mapIdx λi r=>(i,r)).flatMap λx=>((T.drop (x.1+1)).filter λs=>!(x.2.1==s.1)&&decide (rN x.2.2 s.2<=room)).map λs=>(x.2,s)
def acF(T:List Rw)(room:Int):(oG T room).length<=T.length*T.length:=by
 unfold oG;rw[List.length_flatMap];have key:∀(l:List (Nat×Rw)),(l.map λx=>(((T.drop (x.1+1)).filter λs=>!(x.2.1==s.1)&&decide (rN x.2.2 s.2<=room)).map λs=>(x.2,s)).length).sum<=l.length*T.length:=by
  intro l
  induction l with
  |nil=>simp
  |cons x l ih=>
   rw[List.map_cons,List.sum_cons,au5,Nat.add_mul,Nat.one_mul];have:(((T.drop (x.1+1)).filter λs=>!(x.2.1==s.1)&&decide (rN x.2.2 s.2<=room)).map λs=>(x.2,s)).length<=T.length:=by rw[au3];refine ave (au6 _ _) ?_;rw[av7];omega
   omega
 have:=key (T.mapIdx λi r=>(i,r));rw[List.length_mapIdx]at this;exact this
def acC(M:Mo)(R:List Rw)(room:Int)(hR:u5 R)(h:R.eraseDups.length<=76):wD M [.list (R.map Ear.rD),.int room]=.ok (.list ((oG (bG R) room).map pairD)):=by
 have ht:=OJ M R h;have hl:(bG R).length<=76:=by rw[sU];exact h
 have hE:∀r∈bG R,r.2.length=6:=λr hr=>hR r (lV.mp hr);generalize bG R=T at ht hl hE;have he:qU 0 (T.map Ear.rD)=(T.mapIdx λi r=>(i,r)).map λ(x:Nat×Rw)=>PyData.tuple [.int x.1,Ear.rD x.2]:=by unfold qU;apply avp;intro i;simp;cases T[i]?<;>simp
 have key:=Le (tg:=aX [3,4]) (tg1:=aq 5) (tt:=fJ) (it1:=bQ (Nr (2) (o9 (aK dG (3) #[1])) zP)) (vs1:=[5]) (tt1:=jP (dW (aK yP (4)[0]! (5)[0]!)) (gQ (aN uF #[(4)[1]!,(5)[1]!,(1:)]))) (te:=aP #[(4:),(5:)]) (M:=M) (Z:=[#[.list (R.map Ear.rD)],#[.int room],#[.list (T.map Ear.rD)],none,none,none])
  (λ(x:Nat×Rw)=>PyData.tuple [.int x.1,Ear.rD x.2]) (λx=>T.drop (x.1+1)) Ear.rD (λx s=>!(x.2.1==s.1)&&decide (rN x.2.2 s.2<=room)) (λx s=>pairD (x.2,s)) (T.mapIdx λi r=>(i,r)) λx hx=>⟨[#[.list (R.map Ear.rD)],#[.int room],#[.list (T.map Ear.rD)],#[.int x.1],#[Ear.rD x.2],none],by simp,rfl,rfl,by
   have:=aaW (T.map Ear.rD) (x.1+1);simp at this |-
   rw[this],λs hs=>⟨[#[.list (R.map Ear.rD)],#[.int room],#[.list (T.map Ear.rD)],#[.int x.1],#[Ear.rD x.2],#[Ear.rD s]],by simp,by
   let⟨i,hi,rfl⟩:=List.mem_mapIdx.mp hx
   have h1:=hE _ (avE hi);have h2:=hE s (List.mem_of_mem_drop hs);have:=X7 M (T[i]).2 s.2 room #[] #[];by_cases hz:(T[i]).1=s.1<;>simp[Ear.rD,Ear.dT,this,hz],λ_=>by simp[pairD]⟩⟩
 have e2:((T.mapIdx λi r=>(i,r)).flatMap λx=>((T.drop (x.1+1)).filter λs=>!(x.2.1==s.1)&&decide (rN x.2.2 s.2<=room)).map λs=>pairD (x.2,s))=(oG T room).map pairD:=by unfold oG;rw[List.map_flatMap];congr 1;funext x;rw[avh];rfl
 rw[e2]at key;have hc:(oG T room).length<=50000:=by have:=acF T room;have:T.length*T.length<=76*76:=Nat.mul_le_mul hl hl;omega
 simp[wD,LC,ht];rw[he];simp[key,hc]
def hdD(x:ListInt×Int):Dat:=.tuple [aH x.1,.int x.2]
def Pk(d l:Int):Int:=(if 9<d+l then 9 else d+l)+1
def El(d l:Int):ListInt:=(List.range (Pk d l-d).toNat).map λ(i:Nat)=>d+(i:Int)
def stepT(d:Int)(H:List (ListInt×Int)):List (ListInt×Int):=H.flatMap λx=>(El d x.2).map λcut=>(x.1++[cut],x.2-(cut-d))
structure TX(k:Nat)(H:List (ListInt×Int)):Prop where
 len:H.length<=4^k
 left:∀x∈H,0<=x.2/\x.2<=3
 hd:∀x∈H,x.1.length=k/\∀y∈x.1,0<=y/\y<=9
def af6{d l:Int}(hl:0<=l/\l<=3):(El d l).length<=4:=by
 unfold El Pk;simp
 split<;>omega
def Zb{d l y:Int}(h:y∈El d l):d<=y/\y<=d+l/\y<=9:=by
 unfold El Pk at h;let⟨i,hi,rfl⟩:=au2.mp h
 rw[List.mem_range]at hi;split at hi<;>omega
def YK{k:Nat}{H:List (ListInt×Int)}{d:Int}(i:TX k H)(hd:0<=d/\d<=9):TX (k+1) (stepT d H):=by
 refine⟨?_,λx hx=>?_,λx hx=>?_⟩
 .have key:∀l:List (ListInt×Int),(∀x∈l,0<=x.2/\x.2<=3)->(stepT d l).length<=l.length*4:=by
   intro l
   induction l with
   |nil=>intro _;simp[stepT]
   |cons x l ih=>
    intro h;have h1:=ih λy hy=>h y (auY _ hy);have h2:=af6 (d:=d) (h x auX);unfold stepT at h1 |-
    rw[List.flatMap_cons,avz,au3,au5];omega
  have:=key H i.left;have:=i.len;rw[Nat.pow_succ];omega
 .unfold stepT at hx;let⟨y,hy,hx⟩:=List.mem_flatMap.mp hx
  let⟨c,hc,rfl⟩:=au2.mp hx
  have:=Zb hc;have:=i.left y hy;show 0<=y.2-(c-d)/\y.2-(c-d)<=3;omega
 .unfold stepT at hx;let⟨y,hy,hx⟩:=List.mem_flatMap.mp hx
  let⟨c,hc,rfl⟩:=au2.mp hx
  have:=Zb hc;let⟨h1,h2⟩:=i.hd y hy
  refine⟨by simp[h1],λz hz=>?_⟩;rcases au8.mp hz with hz|hz
  .exact h2 z hz
  .rw[au0.mp hz];omega
def afT(M:Mo)(e m:Option Cell)(he:Cg [e,m]=true){k:Nat}{H:List (ListInt×Int)}{d:Int}(i:TX k H)(hk:k<=5)(hd:0<=d/\d<=9):Gz M [e,m,#[.list (H.map hdD)],#[.int d],none,none,none]=.next [e,m,#[.list ((stepT d H).map hdD)],#[.int d],none,none,none] M:=by
 have key:=Le (tg:=aX [4,5]) (tg1:=aq 6) (tt:=fJ) (it1:=yK (3) (aK dG (aK Es (aK dG (3) (5)) (qC cO)) #[1])) (vs1:=[6]) (tt1:=fJ) (te:=aP #[aK dG (4) (aP #[(6:),]),aK oZ (5) (aK oZ (6) (3))]) (M:=M) (Z:=[e,m,#[.list (H.map hdD)],#[.int d],none,none,none])
  hdD (λx=>El d x.2) PyData.int (λ_ _=>true) (λx c=>hdD (x.1++[c],x.2-(c-d))) H λx hx=>⟨[e,m,#[.list (H.map hdD)],#[.int d],#[aH x.1],#[.int x.2],none],by simp[hdD],rfl,by
   simp[Cg]at he |-
   exact he,by
   have hl:=i.left x hx;have hz:Pk d x.2<=100000/\-100000<=Pk d x.2/\d<=100000/\-100000<=d:=by unfold Pk;split<;>omega
   have e1:iw d (Pk d x.2-d).toNat=(El d x.2).map PyData.int:=by unfold iw El;rw[avh];rfl
   have e2:(if 9<d+x.2 then(9:Int) else d+x.2)+1=Pk d x.2:=rfl;simp[cO,e2,e1,hz],λc hc=>⟨[e,m,#[.list (H.map hdD)],#[.int d],#[aH x.1],#[.int x.2],#[.int c]],by simp,rfl,λ_=>by
   have h1:=(i.hd x hx).1;have h2:x.1.length+1<=100000:=#[];simp[hdD,h2]⟩⟩
 have e2:(H.flatMap λx=>((El d x.2).filter λ_=>true).map λc=>hdD (x.1++[c],x.2-(c-d)))=(stepT d H).map hdD:=by unfold stepT;rw[List.map_flatMap];congr 1;funext x;rw[av2.mpr (λ_ _=>rfl),avh];rfl
 rw[e2]at key;have hl:(stepT d H).length<=50000:=by have:=(YK i hd).len;have:4^(k+1)<=4^6:=Nat.pow_le_pow_right #[()] #[];omega
 simp[Gz,key,hl]
theorem O8(M:Mo)(e m:Option Cell)(he:Cg [e,m]=true):∀(ear:ListInt) (k:Nat) (H:List (ListInt×Int)) (o:Option Cell),TX k H->k+ear.length<=6->(∀d∈ear,0<=d/\d<=9)->
  (∃o',eY (aq 3) Gz (ear.map PyData.int) M [e,m,#[.list (H.map hdD)],o,none,none,none]=.next [e,m,#[.list ((ear.foldl (λH d=>stepT d H) H).map hdD)],o',none,none,none] M)/\TX (k+ear.length) (ear.foldl (λH d=>stepT d H) H)
 |[],k,H,o,i,_,_=>⟨⟨o,rfl⟩,i⟩
 |d::ear,k,H,o,i,hk,hd=>by
  rw[au5]at hk;have h1:=hd d auX;let⟨⟨o',ih⟩,i2⟩:=O8 M e m he ear (k+1) (stepT d H) #[.int d] (YK i h1) #[] λy hy=>hd y (auY _ hy)
  refine⟨⟨o',?_⟩,?_⟩
  .rw[List.map_cons,fG (Z1:=[e,m,#[.list (H.map hdD)],#[.int d],none,none,none]) (by simp) (afT M e m he i #[] h1),ih];rfl
  .rw[au5,show k+(ear.length+1)=k+1+ear.length by omega];exact i2
def Io(ear:ListInt)(many:Int):List ListInt:=(ear.foldl (λH d=>stepT d H) [([],many)]).map (·.1)
def ag5{many:Int}(hm:0<=many/\many<=3):TX 0 [([],many)]:=⟨by simp,λx hx=>by rw[au0.mp hx];exact hm,λx hx=>by rw[au0.mp hx];simp⟩
def Tn{ear:ListInt}{many:Int}(he:cY ear=true)(hm:0<=many/\many<=3):TX 6 (ear.foldl (λH d=>stepT d H) [([],many)]):=by unfold cY at he;rw[auU,awc,avl]at he;have:=(O8 [] none none rfl ear 0 [([],many)] none (ag5 hm) #[] λd hd=>by simpa using he.2 d hd).2;rw[he.1]at this;exact this
def ak6(M:Mo)(ear:ListInt)(many:Int)(he:cY ear=true)(hm:0<=many/\many<=3):Pj M [aH ear,.int many]=.ok (.list ((Io ear many).map aH)):=by
 have he':=he;unfold cY at he';rw[auU,awc,avl]at he';let⟨⟨o',h1⟩,_⟩:=O8 M #[aH ear] #[.int many] rfl ear 0 [([],many)] none (ag5 hm) #[] λd hd=>by simpa using he'.2 d hd
 have hi:=Tn he hm;generalize hH:ear.foldl (λH d=>stepT d H) [([],many)]=H at h1 hi;have key:=dw (tg:=aX [4,5]) (te:=BW 4) (M:=M) (Z:=[#[aH ear],#[.int many],#[.list (H.map hdD)],o',none,none,none]) hdD (λx=>aH x.1) H λx _=>⟨[#[aH ear],#[.int many],#[.list (H.map hdD)],o',#[aH x.1],#[.int x.2],none],by simp[hdD],by simp⟩;have hl:H.length<=50000:=by have:=hi.len;have:(4:Nat)^6=4096:=#[()];omega
 have h1':eY (aq 3) Gz (ear.map PyData.int) M [#[aH ear],#[.int many],#[.list [.tuple [.tuple [],.int many]]],none,none,none,none]=_:=h1;have key2:∀o2:Option Cell,cI (aX [4,5]) fJ (4:) M [#[aH ear],#[.int many],#[.list (H.map hdD)],o2,none,none,none] (H.map hdD)=.ok (H.map λx=>aH x.1):=λo2=>dw (tg:=aX [4,5]) (te:=BW 4) (M:=M) (Z:=[#[aH ear],#[.int many],#[.list (H.map hdD)],o2,none,none,none]) hdD (λx=>aH x.1) H λx _=>⟨[#[aH ear],#[.int many],#[.list (H.map hdD)],o2,#[aH x.1],#[.int x.2],none],by simp[hdD],by simp⟩;simp[Pj,aaA,h1',key2,hl,Io,hH]
def Ue(mark:ListInt)(extra:Int):List ListInt:=(Io mark extra).filter λe=>qH mark e==extra
def Zz{ear:ListInt}{many:Int}(he:cY ear=true)(hm:0<=many/\many<=3){x:ListInt}(h:x∈Io ear many):cY x=true:=by
 let⟨y,hy,rfl⟩:=au2.mp h
 let⟨h1,h2⟩:=(Tn he hm).hd y hy
 unfold cY;rw[auU,awc,avl];exact⟨h1,λd hd=>by simpa using h2 d hd⟩
def afF{ear:ListInt}{many:Int}(he:cY ear=true)(hm:0<=many/\many<=3):(Io ear many).length<=4096:=by unfold Io;rw[au3];exact(Tn he hm).len
def ab8(M:Mo)(mark:ListInt)(extra:Int)(he:cY mark=true)(hm:0<=extra/\extra<=3):xV M [aH mark,.int extra]=.ok (.list ((Ue mark extra).map aH)):=by
 have h1:=ak6 M mark extra he hm;have hl:=afF he hm;have h6:mark.length<=1000:=by unfold cY at he;rw[auU,awc]at he;omega
 have key:=gj (tg:=aq 2) (tt:=#[(aN pU #[(0:),(2:)])=(1)]) (te:=BW 2) (M:=M) (Z:=[#[aH mark],#[.int extra],none]) aH (λe=>qH mark e==extra) aH (Io mark extra) λx _=>⟨[#[aH mark],#[.int extra],#[aH x]],by simp,by
  have:=MF M mark x h6;simp[this],λ_=>by simp⟩
 have hl2:(Io mark extra).length<=50000:=#[];simp[xV,Jf,h1,key,hl2,Ue]
def Ep(R:List Rw)(room:Int)(e:ListInt):Bool:=!(R.any λr=>decide (rN e r.2<=room))
def aaS(l:List Bool):Uh (.list (l.map PyData.bool))=.ok (.bool (l.any id)):=by
 show(match qY (l.map PyData.bool) with
  |some bs=>Out.ok (PyData.bool (bs.any id))
  |none=>.bad)=_
 rw[yR]
def aeS(M:Mo)(R:List Rw)(room:Int)(hR:u5 R)(hl:R.length<=50000)(mk:ListInt)(x:Int)(e:ListInt)(he:e.length=6) :
  lJ M [#[aH mk],#[.int x],#[.list (R.map Ear.rD)],#[.int room],#[aH e],none,none]=if Ep R room e then .ret (aH e) M else .next [#[aH mk],#[.int x],#[.list (R.map Ear.rD)],#[.int room],#[aH e],none,none] M:=by
 have key:=dw (tg:=aX [5,6]) (te:=aN uF #[(4:),(6:),(3:)]) (M:=M) (Z:=[#[aH mk],#[.int x],#[.list (R.map Ear.rD)],#[.int room],#[aH e],none,none]) Ear.rD (λr=>.bool (decide (rN e r.2<=room))) R λr hr=>⟨[#[aH mk],#[.int x],#[.list (R.map Ear.rD)],#[.int room],#[aH e],#[.int r.1],#[aH r.2]],by simp[Ear.rD,Ear.dT],by
  have:=X7 M e r.2 room #[] (by rw[hR r hr];decide);simp[this]⟩
 have ha:=aaS (R.map λr=>decide (rN e r.2<=room));rw[avh]at ha;simp![avk,avY]at ha;cases hf:Ep R room e<;>simp[lJ,key,hl,ha]<;>simp[Ep]at hf<;>simpa using hf
theorem Wc(M:Mo)(R:List Rw)(room:Int)(hR:u5 R)(hl:R.length<=50000)(mk:ListInt)(x:Int):∀(es:List ListInt) (o:Option Cell),(∀e∈es,e.length=6)->
  match es.find? (Ep R room) with
   |some e=>eY (aq 4) lJ (es.map aH) M [#[aH mk],#[.int x],#[.list (R.map Ear.rD)],#[.int room],o,none,none]=.ret (aH e) M
   |none=>∃Z',eY (aq 4) lJ (es.map aH) M [#[aH mk],#[.int x],#[.list (R.map Ear.rD)],#[.int room],o,none,none]=.next Z' M
 |[],o,_=>⟨_,rfl⟩
 |e::es,o,he=>by
  have h1:=aeS M R room hR hl mk x e (he e auX);have ih:=Wc M R room hR hl mk x es #[aH e] λy hy=>he y (auY _ hy);rw[List.find?_cons];cases hf:Ep R room e with
  |true=>
   rw[hf,awg rfl]at h1;show eY _ _ _ _ _=_;rw[List.map_cons,eY];simp[h1]
  |false=>
   rw[hf,awh #[()]]at h1;have e1:eY (aq 4) lJ ((e::es).map aH) M [#[aH mk],#[.int x],#[.list (R.map Ear.rD)],#[.int room],o,none,none]=eY (aq 4) lJ (es.map aH) M [#[aH mk],#[.int x],#[.list (R.map Ear.rD)],#[.int room],#[aH e],none,none]:=by rw[List.map_cons,fG (by simp) h1]
   rw[e1];exact ih
def ZS(M:Mo)(mark:ListInt)(extra:Int)(R:List Rw)(room:Int)(he:cY mark=true)(hm:0<=extra/\extra<=3)(hR:u5 R)(hl:R.length<=50000):rC M [aH mark,.int extra,.list (R.map Ear.rD),.int room]=match (Ue mark extra).find? (Ep R room) with
  |some e=>.ok (aH e)
  |none=>.exc ⟨"NoneFree",[]⟩:=by
 have h1:=ab8 M mark extra he hm;have h2:=Wc M R room hR hl mark extra (Ue mark extra) none λe h=>by
  have:=Zz he hm (avj.mp h).1;unfold cY at this;rw[auU,awc]at this;exact this.1
 cases hf:(Ue mark extra).find? (Ep R room) with
 |some e=>
  rw[hf]at h2;simp[rC,yW,h1,h2]
 |none=>
  rw[hf]at h2;let⟨Z',h2⟩:=h2
  simp[rC,yW,h1,h2]
@[simp]theorem aq0 (L:Lay) (c:aD):(aA L c).cls="Commons":=rfl
def any_keys(y:Int)(l:ListInt):((l.map λo=>(PyData.int o,PyData.bool true)).any λp=>PyData.eqv p.1 (.int y))=decide (y∈l):=by
 have:=any_ints y l;rw[avY]at this |-
 exact this
section
variable{M:Mo}{L:Lay}{c:aD}(a:At M L c)
include a
theorem ju(o:Int):kE M [ob L.c,.int o]=if o∈c.own then .ok .none else .exc ⟨"NoOwner",[]⟩:=by
 have hc:=a.hc;have hk:=any_keys o c.own;simp![avY,avk]at hk;by_cases h:o∈c.own
 .rw[decide_eq_true h]at hk;rw[awg h];simp[kE,nM,hc,aA,avk,hk];rw[awh (λz=>z o h rfl)]
 .rw[decide_eq_false h]at hk;rw[awh h];simp[kE,nM,hc,aA,avk,hk];have hz:∀x:Int,x∈c.own->¬x=o:=λx hx e=>h (e ▸ hx);rw[awg hz]
theorem sS(i:dB c)(x:Int):oU M [ob L.c,.int x]=if Vg c x then .ok (.int (roomOf c x)) else .exc ⟨"NoGround",[]⟩:=by
 have hc:=a.hc;let⟨n,m,hg⟩:=a.hg
 have h1:=akn a i x;by_cases h:Vg c x
 .rw[awg h]at h1 |-
  simp[oU,wA,hc,aA,hg,cX,u6,h1]
 .rw[awh h]at h1 |-
  simp[oU,wA,hc,aA,hg,cX,u6,h1]
theorem pX(i:dB c)(x:Int):jJ M [ob L.c,.int x]=if Vg c x then .ok (lI (aY c x)) else .exc ⟨"NoGround",[]⟩:=by
 have hc:=a.hc;let⟨n,m,hg⟩:=a.hg
 have h1:=xQ a i x;by_cases h:Vg c x
 .rw[awg h]at h1 |-
  simp[jJ,qK,hc,aA,hg,cX,bA,h1]
 .rw[awh h]at h1 |-
  simp[jJ,qK,hc,aA,hg,cX,bA,h1]
theorem Oh:tM M [ob L.c]=.ok (lI c.own):=by have hc:=a.hc;simp[tM,yD,hc,aA,avk]
theorem uo(few:c.held.length<=50000)(o g:Int):nu M [ob L.c,.int o,.int g]=if bF c o g=[] then .exc ⟨"NoRight",[]⟩ else .ok .none:=by have hc:=a.hc;have hr:=a.hr;have h1:=abH a few o g;by_cases h:bF c o g=[]<;>simp[nu,sY,hc,aA,hr,pq,uU,h1,h]
theorem Dy(few:c.held.length<=50000)(o g:Int){mk:ListInt}{r:List ListInt}(h:bF c o g=mk::r):nH M [ob L.c,.int o,.int g]=.ok (aH mk):=by have hc:=a.hc;have hr:=a.hr;have h1:=Fj a few o g;rw[h]at h1;simp[nH,tG,hc,aA,hr,pq,bU,h1]
end
def inR(c:aD)(near:ListInt):List Rw:=(c.held.filter λr=>decide (r.2.1∈near)).map λr=>(r.1,r.2.2)
def aci(lo:Int)(x:Nat×Nat×cW):Bool:=x.2.2.sd.due.isSome&&!(((x.1:Int)+1)==lo)
def Uq(L:Lay)(c:aD)(lo:Int)(near:ListInt):List Rw:=(((bK L c).filter λx=>decide (x.2.2.sd.g∈near)&&x.2.2.sd.al).filter (aci lo)).map λx=>(x.2.2.sd.o,x.2.2.sd.due.getD [])
def gH(L:Lay)(c:aD)(lo x:Int):List Rw:=inR c (aY c x)++Uq L c lo (aY c x)
section
variable{M:Mo}{L:Lay}{c:aD}(a:At M L c)
include a
theorem Iu(i:dB c)(few:c.held.length<=20000)(fewb:c.bs.length<=20000)(lo x:Int)(h76:(gH L c lo x).eraseDups.length<=76):jo M [ob L.c,.int lo,.int x]=if Vg c x then .ok (.list ((bG (gH L c lo x)).map Ear.rD)) else .exc ⟨"NoGround",[]⟩:=by
 have hc:=a.hc;have hr:=a.hr;let⟨n,hh⟩:=a.hh
 have h1:=pX a i x;by_cases h:Vg c x
 .rw[awg h]at h1 |-
  have h2:=Lh a (by omega:c.bs.length<=50000) (aY c x);have h3:=Z8 a (by omega:c.held.length<=50000) (aY c x);have h4:=OJ M (gH L c lo x) h76;have hl:((bK L c).filter λy=>decide (y.2.2.sd.g∈aY c x)&&y.2.2.sd.al).length<=20000:=ave (au6 _ _) (by rw[a.len'];exact fewb);have hl2:((bK L c).filter λy=>decide (y.2.2.sd.g∈aY c x)&&y.2.2.sd.al).length<=50000:=#[];have key:=gj (tg:=aX [5,6]) (tt:=jP (dW (vB true .none (bf "due" (6)))) (dW (aK yP (5) (1)))) (te:=aP #[fD "owner" (6),fD "due" (6)]) (M:=M) (Z:=[#[ob L.c],#[.int lo],#[.int x],#[lI (aY c x)],none,none,none]) nb (aci lo) (λy=>Ear.rD (y.2.2.sd.o,y.2.2.sd.due.getD [])) ((bK L c).filter λy=>decide (y.2.2.sd.g∈aY c x)&&y.2.2.sd.al) λy hy=>⟨[#[ob L.c],#[.int lo],#[.int x],#[lI (aY c x)],none,#[.int ((y.1:Int)+1)],#[ob y.2.1]],by simp[nb],by
   let⟨n',hb⟩:=a.hb' (avj.mp hy).1
   cases hd:y.2.2.sd.due<;>simp[hb,iB,hd,mY,aci,iZ],λhp=>by
   let⟨n',hb⟩:=a.hb' (avj.mp hy).1
   cases hd:y.2.2.sd.due with
   |none=>simp[aci,hd]at hp
   |some e=>simp[hb,iB,hd,mY,Ear.rD,Ear.dT]⟩
  have e1:(c.held.filter λr=>decide (r.2.1∈aY c x)).map (λr=>Ear.rD (r.1,r.2.2))=(inR c (aY c x)).map Ear.rD:=by unfold inR;rw[avh];rfl
  have e2:(((bK L c).filter λy=>decide (y.2.2.sd.g∈aY c x)&&y.2.2.sd.al).filter (aci lo)).map (λy=>Ear.rD (y.2.2.sd.o,y.2.2.sd.due.getD []))=(Uq L c lo (aY c x)).map Ear.rD:=by unfold Uq;rw[avh];rfl
  rw[e1]at h3;rw[e2]at key;have z1:(inR c (aY c x)).length<=20000:=by unfold inR;rw[au3];exact ave (au6 _ _) few
  have z2:(Uq L c lo (aY c x)).length<=20000:=by unfold Uq;rw[au3];exact ave (au6 _ _) hl
  have z3:(inR c (aY c x)).length+(Uq L c lo (aY c x)).length<=100000:=#[];unfold gH at h4 |-
  rw[List.map_append]at h4;simp[jo,lU,hc,aA,bJ,h1,hh,dJ,fQ,h2,hr,pq,tO,h3];simp[key,hl2,z3,h4,hc,aA,hr,pq,h3]
 .rw[awh h]at h1 |-
  simp[jo,lU,hc,aA,bJ,h1]
end
def jc(b:cW):Dat:=.tuple [.int b.sd.o,.int b.sd.g,mY b.sd.due,aH b.sd.ear,.bool b.sd.al,.int b.mo,.tuple (b.fi.dat::b.en.map En.dat)]
def alc{M:Mo}{h n:Nat}{b:cW}(hb:M[h]?=some (iB n b)):zp M [ob h]=.ok (jc b):=by have h1:=abt hb;simp[zp,Fx,hb,oR,h1];simp[iB,Sd.dat,jc]
def Oc(c:aD)(k:Nat):Dat:=.tuple [.int (Mu c ((k:Int)+1)),aH (aY c ((k:Int)+1))]
def cQ(c:aD):Dat:=.tuple [lI c.own,.list ((List.range c.al.length).map (Oc c)),.list (c.held.map gq),.list (c.bs.map jc)]
section
variable{M:Mo}{L:Lay}{c:aD}(a:At M L c)
include a
theorem akp(i:dB c)(few:c.held.length<=20000)(fewb:c.bs.length<=20000):rK M [ob L.c]=.ok (cQ c):=by
 have hc:=a.hc;have hr:=a.hr;let⟨n,m,hg⟩:=a.hg
 let⟨n1,hh⟩:=a.hh
 have h1:=ada a;have h2:=Oh a;have h3:=acL a (by omega:c.held.length<=50000);have hf:=i.few;have k1:=dw (tg:=aq 3) (te:=aP #[aC eV (bf "grounds" (0)) #[(3:),],dZ m9 (aC bJ (0) #[(3:),])]) (M:=M) (Z:=[#[ob L.c],none,none,none,none]) (λ(k:Nat)=>PyData.int (1+(k:Int))) (Oc c) (List.range c.al.length) λk hk=>⟨[#[ob L.c],none,none,#[.int ((k:Int)+1)],none],by simp[Int.add_comm],by
  rw[List.mem_range]at hk;have hv:Vg c ((k:Int)+1):=by constructor<;>omega
  have g1:=Qs a ((k:Int)+1);have g2:=pX a i ((k:Int)+1);rw[awg hv]at g1 g2;simp[hc,aA,hg,cX,eV,bJ,g1,g2,Oc]⟩
 have hl:=a.len';have k2:=λ(o1:Option Cell)=>dw (tg:=aq 4) (te:=aC yh (4) dD) (M:=M) (Z:=[#[ob L.c],o1,none,none,none]) (λ(x:Nat×Nat×cW)=>ob x.2.1) (λx=>jc x.2.2) (bK L c) λx hx=>⟨[#[ob L.c],o1,none,none,#[ob x.2.1]],by simp,by
  let⟨n',hb⟩:=a.hb' hx
  have:=alc hb;simp[hb,yh,this]⟩
 have e1:(bK L c).map (λx=>ob x.2.1)=L.bs.map ob:=by
  unfold bK;apply avp;intro j;simp![ava,avG];by_cases hj:j<L.bs.length
  .have hz:(L.bs.zip c.bs)[j]?=some (L.bs[j],c.bs[j]'(by rw[<-a.len];exact hj)):=by
    rw[avM];exact⟨auV hj,auV _⟩
   rw[hz,auV hj];rfl
  .rw[avs (by omega:L.bs.length<=j),avs (by rw[List.length_zip];omega)];rfl
 have e2:(bK L c).map (λx=>jc x.2.2)=c.bs.map jc:=by
  unfold bK;apply avp;intro j;simp![ava,avG];by_cases hj:j<c.bs.length
  .have hz:(L.bs.zip c.bs)[j]?=some (L.bs[j]'(by rw[a.len];exact hj),c.bs[j]):=by
    rw[avM];exact⟨auV _,auV hj⟩
   rw[hz,auV hj];rfl
  .rw[avs (by omega:c.bs.length<=j),avs (by rw[List.length_zip];omega)];rfl
 simp![e1,e2]at k2;have r1:iw 1 c.al.length=(List.range c.al.length).map λ(k:Nat)=>PyData.int (1+(k:Int)):=rfl;have z1:(c.al.length:Int)+1<=100000:=#[];have z2 : -100000<=(c.al.length:Int)+1:=#[];have z3:c.al.length<=50000:=#[];have z4:L.bs.length<=50000:=by rw[a.len];omega
 simp[rK,Br,hc,aA,hg,cX,fW,h1,z1,z2,r1,k1,z3];simp[hc,aA,hh,dJ,hr,pq,k2,z4,cP,v8,h2,h3,cQ]
end
section
variable{M:Mo}{L:Lay}{c:aD}(a:At M L c)
include a
theorem nZ(i:dB c)(few:c.held.length<=20000)(fewb:c.bs.length<=20000)(x:Int)(h76:(gH L c 0 x).eraseDups.length<=76):lY M [ob L.c,.int x]=if Vg c x then .ok (.list ((bG (gH L c 0 x)).map Ear.rD)) else .exc ⟨"NoGround",[]⟩:=by
 have hc:=a.hc;have h1:=Iu a i few fewb 0 x h76;by_cases h:Vg c x
 .rw[awg h]at h1 |-
  simp[lY,qO,hc,cZ,h1]
 .rw[awh h]at h1 |-
  simp[lY,qO,hc,cZ,h1]
def alE(o:Int)(e:ListInt)(R:List Rw)(room:Int):Out Dat:=match Bq o e R room with
 |[]=>.ok .none
 |r::_=>.exc ⟨"Clash",[("ear",aH (lB e r.2)),("others",Ear.rD r),("ones",Ear.rD (o,e))]⟩
omit a in
theorem ahY{T:List Rw}(h:Ear.Jy T):T.Nodup:=by
 unfold Ear.Jy at h;unfold List.Nodup;exact h.imp λ{x y} z e=>by
  subst e;exact List.lt_irrefl _ z
theorem Oz(ho:∀o∈c.own,o<=c.count)(few:c.own.length<=20000):∃M',gU M [ob L.c]=.ok (.int (c.count+1)) M'/\At M' L { c with count:=c.count+1,own:=c.own++[c.count+1] }:=by
 have hc:=a.hc;have hl:∀i,(M.set L.c i)[L.c]?=some i:=λi=>by rw[bD hc,awg rfl]
 have hk:=any_keys (c.count+1) c.own;have hn:¬(c.count+1)∈c.own:=λz=>by have:=ho _ z;omega
 rw[decide_eq_false hn]at hk;have hz:∀x∈c.own,¬x=c.count+1:=λx hx e=>hn (e ▸ hx);have f2:c.own.length<100000:=#[];refine⟨_,?_,a.setC⟩;simp![avY,avk]at hk;have hd:(c.own.any λx=>x==c.count+1)=false:=by rw[List.any_eq_false];intro x hx;simpa using hz x hx
 simp[gU,uX,hc,aA,hl,lO,f2,avk,hd]
end
def aaJ{α:Type}[BEq α][LawfulBEq α](l:List α):l.eraseDups.length<=l.length:=by
 induction hn:l.length using Nat.strongRecOn generalizing l with
 |_ n ih=>
  cases l with
  |nil=>simp
  |cons a r=>
   rw[av1];simp![au5]at hn |-
   have hl:(r.filter λb=>!b==a).length<=r.length:=au6 _ _;have:=ih _ #[] (r.filter λb=>!b==a) rfl;omega
def TF{S:List Rw}(h:S.eraseDups.length<=76):(bG S).eraseDups.length<=76:=ave (aaJ _) (by rw[sU];exact h)
def vD{S:List Rw}(h:u5 S):u5 (bG S):=λr hr=>h r (lV.mp hr)
section
variable{M:Mo}{L:Lay}{c:aD}(a:At M L c)
include a
theorem Z0(i:dB c)(few:c.held.length<=20000)(fewb:c.bs.length<=20000)(o x:Int)(e:ListInt)(he:e.length=6)(hv:Vg c x)(h76:(gH L c 0 x).eraseDups.length<=76)(hE:u5 (gH L c 0 x)):iH M [ob L.c,.int o,aH e,.int x]=alE o e (bG (gH L c 0 x)) (roomOf c x):=by
 have hc:=a.hc;have h1:=nZ a i few fewb x h76;have h2:=sS a i x;rw[awg hv]at h1 h2;have h3:=R7 M o e (bG (gH L c 0 x)) (roomOf c x) he (vD hE) (TF h76);unfold alE;cases hb:Bq o e (bG (gH L c 0 x)) (roomOf c x) with
 |nil=>
  rw[hb]at h3;simp[iH,nJ,hc,aQ,bH,h1,h2,h3]
 |cons r rs=>
  rw[hb]at h3;simp[iH,nJ,hc,aQ,bH,h1,h2,h3]
end
section
variable{M:Mo}{L:Lay}{c:aD}(a:At M L c)
include a
def Ml(L:Lay)(c:aD)(x y:Int):List Rw:=bG (gH L c 0 x)++bG (gH L c 0 y)
def yI(c:aD)(x y:Int):Int:=if roomOf c y>roomOf c x then roomOf c y else roomOf c x
theorem acG(i:dB c)(few:c.held.length<=20000)(fewb:c.bs.length<=20000)(x y:Int)(hx:Vg c x)(hy:Vg c y)(h1:(gH L c 0 x).eraseDups.length<=76)(h2:(gH L c 0 y).eraseDups.length<=76)(h3:(Ml L c x y).eraseDups.length<=76)(e1:u5 (gH L c 0 x))(e2:u5 (gH L c 0 y)):mj M [ob L.c,.int x,.int y]=.ok (.list ((oG (bG (Ml L c x y)) (yI c x y)).map pairD)):=by
 have hc:=a.hc;have s1:=nZ a i few fewb x h1;have s2:=nZ a i few fewb y h2;have r1:=sS a i x;have r2:=sS a i y;rw[awg hx]at s1 r1;rw[awg hy]at s2 r2;have hE:u5 (Ml L c x y):=λr hr=>by
  rcases au8.mp hr with hr|hr
  .exact vD e1 r hr
  .exact vD e2 r hr
 have k:=acC M (Ml L c x y) (yI c x y) hE h3;have l1:(bG (gH L c 0 x)).length<=76:=by rw[sU];exact h1
 have l2:(bG (gH L c 0 y)).length<=76:=by rw[sU];exact h2
 have l3:(bG (gH L c 0 x)).length+(bG (gH L c 0 y)).length<=100000:=#[];have k':wD M [.list ((bG (gH L c 0 x)).map Ear.rD++(bG (gH L c 0 y)).map Ear.rD),.int (if roomOf c y>roomOf c x then roomOf c y else roomOf c x)]=.ok (.list ((oG (bG (Ml L c x y)) (yI c x y)).map pairD)):=by rw[<-List.map_append];exact k
 simp[mj,vR,hc,aQ,bH,s1,s2,r1,r2,l3];simp at k';exact k' ▸ (by simp[k'])
end
def Jo(c:aD)(lo:Int)(near:ListInt):List Rw:=((c.bs.mapIdx λi b=>(i,b)).filter λx=>(x.2.sd.due.isSome&&!(((x.1:Int)+1)==lo))&&(decide (x.2.sd.g∈near)&&x.2.sd.al)).map λx=>(x.2.sd.o,x.2.sd.due.getD [])
def cH(c:aD)(lo x:Int):List Rw:=inR c (aY c x)++Jo c lo (aY c x)
def CN{M:Mo}{L:Lay}{c:aD}(a:At M L c):(bK L c).map (λx=>(x.1,x.2.2))=c.bs.mapIdx λi b=>(i,b):=by
 unfold bK;apply avp;intro j;simp![ava,avG];by_cases hj:j<c.bs.length
 .have hz:(L.bs.zip c.bs)[j]?=some (L.bs[j]'(by rw[a.len];exact hj),c.bs[j]):=by
   rw[avM];exact⟨auV _,auV hj⟩
  rw[hz,auV hj];rfl
 .rw[avs (by omega:c.bs.length<=j),avs (by rw[List.length_zip];omega)];rfl
def fK{M:Mo}{L:Lay}{c:aD}(a:At M L c)(lo x:Int):gH L c lo x=cH c lo x:=by unfold gH cH Uq Jo;rw[<-CN a,List.filter_map,avh,av3];rfl
inductive aW where
 |owner|ground (x:Int)|enrol (o g:Int) (m:ListInt)|leave (o g:Int)|bring (o g:Int) (e:ListInt)|bear (k:Int)|cut (k:Int)|tear (k p:Int)|sell (k o:Int)|move (k g:Int)|die (k:Int)|wJ (x y:Int)|part (x:Int)|pass (e h:Int)|heir (e g x:Int)
def aW.dat:aW->Dat
 |.owner=>.tuple [.str "owner"]
 |.ground x=>.tuple [.str "ground",.int x]
 |.enrol o g m=>.tuple [.str "enrol",.int o,.int g,aH m]
 |.leave o g=>.tuple [.str "leave",.int o,.int g]
 |.bring o g m=>.tuple [.str "bring",.int o,.int g,aH m]
 |.bear k=>.tuple [.str "bear",.int k]
 |.cut k=>.tuple [.str "cut",.int k]
 |.tear k p=>.tuple [.str "tear",.int k,.int p]
 |.sell k o=>.tuple [.str "sell",.int k,.int o]
 |.move k g=>.tuple [.str "move",.int k,.int g]
 |.die k=>.tuple [.str "die",.int k]
 |.wJ x y=>.tuple [.str "unite",.int x,.int y]
 |.part x=>.tuple [.str "part",.int x]
 |.pass e h=>.tuple [.str "pass",.int e,.int h]
 |.heir e g x=>.tuple [.str "heir",.int e,.int g,.int x]
inductive Res where
 |ok (d:Dat) (c:aD)|no (x:eX)
def JX(o:Int)(e:ListInt)(r:Rw):eX:=⟨"Clash",[("ear",aH (lB e r.2)),("others",Ear.rD r),("ones",Ear.rD (o,e))]⟩
def firstM(c:aD)(o g:Int):ListInt:=(bF c o g).headD []
def Dz(o:Int)(e:ListInt)(R:List Rw)(room:Int)(r:Res):Res:=match Bq o e (bG R) room with
 |[]=>r
 |x::_=>.no (JX o e x)
def K7(c:aD)(x y:Int):List Rw:=bG (cH c 0 x)++bG (cH c 0 y)
def uY(c:aD)(x:Int):ListInt:=(aY c x).filter λy=>!(y==x)
def Wb(c:aD)(e:Int):ListInt:=((c.bs.mapIdx λi b=>(i,b)).filter λx=>(x.2.sd.o==e)&&x.2.sd.al).map λx=>(x.1:Int)+1
def aaq(o g:Int)(b:cW):Bool:=(decide (b.sd.g∈[g])&&b.sd.al)&&(b.sd.o==o)
def zW(c:aD)(k:Int)(f:cW->Res):Res:=match bk c k with
 |none=>.no ⟨"NoBeast",[]⟩
 |some b=>if b.sd.al=true then f b else .no ⟨"Dead",[]⟩
def markB(c:aD)(k:Int)(f:cW->ListInt->Res):Res:=zW c k λb=>match b.sd.due with
 |none=>.no ⟨"Unmarked",[]⟩
 |some e=>f b e
def BL(c:aD)(k o g:Int):aD:=qu (λx=>vf k x&&x.sd.al) (.followed o g) c
def vO(c:aD)(o:Int)(r:Res):Res:=if o∈c.own then r else .no ⟨"NoOwner",[]⟩
def Ad(c:aD)(g:Int)(r:Res):Res:=if Vg c g then r else .no ⟨"NoGround",[]⟩
def Qa(e:ListInt)(r:Res):Res:=if cY e=true then r else .no ⟨"BadEar",[]⟩
def qd(c:aD)(o g:Int)(r:Res):Res:=if bF c o g=[] then .no ⟨"NoRight",[]⟩ else r
def cJ(c:aD):aW->Res
 |.owner=>.ok (.int (c.count+1)) { c with count:=c.count+1,own:=c.own++[c.count+1] }
 |.ground x=>if 0<=x/\x<=9 then .ok (.int (c.al.length+1)) { c with al:=c.al++[x],ci:=c.ci++[[(c.al.length:Int)+1]] } else .no ⟨"BadAllowance",[]⟩
 |.enrol o g m=>vO c o<|Ad c g<|Qa m<|if m=[0,0,0,0,0,0] then .no ⟨"Bare",[]⟩ else if m∈bF c o g then .no ⟨"HasRight",[]⟩ else Dz o m (cH c 0 g) (roomOf c g) (.ok .none { c with held:=c.held++[(o,g,m)] })
 |.leave o g=>vO c o<|Ad c g<|qd c o g<|if c.bs.any (aaq o g)=true then .no ⟨"StillThere",[]⟩ else .ok (.list ((bF c o g).map aH)) { c with held:=dropped c o g }
 |.bring o g e=>vO c o<|Ad c g<|Qa e<|qd c o g<|.ok (.int (c.bs.length+1)) { c with bs:=c.bs++[Jj (.brought o g e)] }
 |.bear k=>markB c k λb _=>.ok (.int (c.bs.length+1)) { c with bs:=c.bs++[Jj (.born k b.sd.o b.sd.g)] }
 | .cut k=>zW c k λb=>Dz b.sd.o (lB b.sd.ear (firstM c b.sd.o b.sd.g)) (cH c 0 b.sd.g) (roomOf c b.sd.g) (.ok (aH (lB b.sd.ear (firstM c b.sd.o b.sd.g))) (iG c (k-1).toNat (.cut (lB b.sd.ear (firstM c b.sd.o b.sd.g)))))
 |.tear k p=>zW c k λb=>if 0<=p/\p<6 then(if 9<=b.sd.ear.getD p.toNat 0 then .no ⟨"Deepest",[]⟩ else .ok (aH (Ag b.sd.ear p.toNat)) (iG c (k-1).toNat (.torn p.toNat))) else .no ⟨"NoPlace",[]⟩
 |.sell k o=>markB c k λb _=>vO c o<|if b.sd.o=o then .no ⟨"SameOwner",[]⟩ else qd c o b.sd.g<|Dz o (lB b.sd.ear (firstM c o b.sd.g)) (cH c k b.sd.g) (roomOf c b.sd.g) (.ok (aH (lB b.sd.ear (firstM c o b.sd.g))) (BL (iG c (k-1).toNat (.sold o (lB b.sd.ear (firstM c o b.sd.g)))) k o b.sd.g))
 |.move k g=>markB c k λb e=>Ad c g<|if b.sd.g=g then .no ⟨"SameGround",[]⟩ else qd c b.sd.o g<|Dz b.sd.o e (cH c 0 g) (roomOf c g) (.ok (.int b.sd.g) (BL (iG c (k-1).toNat (.moved g)) k b.sd.o g))
 |.die k=>zW c k λ_=>.ok .none (iG c (k-1).toNat .died)
 |.wJ x y=>Ad c y<|Ad c x<|if y∈aY c x then .no ⟨"Together",[]⟩ else match oG (bG (K7 c x y)) (yI c x y) with
  |p::_=>.no (JX p.1.1 p.1.2 p.2)
  |[]=>.ok (lI (sortI (aY c x++aY c y))) { c with ci:=encl c.ci (sortI (aY c x++aY c y)) }
 |.part x=>Ad c x<|if uY c x=[] then .no ⟨"Alone",[]⟩ else .ok (lI (uY c x)) { c with ci:=encl (encl c.ci [x]) (uY c x) }
 |.pass e h=>vO c e<|vO c h<|if e=h then .no ⟨"SameOwner",[]⟩ else .ok (lI (Wb c e)) { qu (λb=>(b.sd.o==e)&&b.sd.al) (.passed h) c with own:=c.own.filter (λo=>!(o==e)),held:=handed c e h }
 | .heir e g x=>vO c e<|Ad c g<|if 1<=x/\x<=3 then qd c e g (match (Ue (firstM c e g) x).find? (Ep (bG (cH c 0 g)) (roomOf c g)) with
  |some mk=>.ok (.tuple [.int (c.count+1),aH mk]) { c with count:=c.count+1,own:=c.own++[c.count+1],held:=c.held++[(c.count+1,g,mk)] }
  |none=>.no ⟨"NoneFree",[]⟩) else .no ⟨"BadExtra",[]⟩
structure Inv(n s:Nat)(c:aD):Prop where
 gr:dB c
 al:c.al.length<=n
 cnt:0<=c.count/\c.count<=n
 own:∀o∈c.own,1<=o/\o<=c.count
 Uj:c.own.Nodup
 ownL:c.own.length<=n
 held:c.held.Nodup
 hL:c.held.length+c.bs.length<=s
 hE:∀r∈c.held,r.1∈c.own/\Vg c r.2.1/\cY r.2.2=true
 ear:∀b∈c.bs,cY b.sd.ear=true
 due:∀b∈c.bs,∀e,b.sd.due=some e->cY e=true
 en:∀b∈c.bs,b.en.length<=2*n
 rt:∀b∈c.bs,b.sd.al=true->∃m,(b.sd.o,b.sd.g,m)∈c.held
def gA{x:ListInt}(h:cY x=true):x.length=6:=by unfold cY at h;simp at h;exact h.1
theorem Gp{α:Type}[BEq α][LawfulBEq α]:∀{l S:List α},l.Nodup->(∀x∈l,x∈S)->l.length<=S.length
 |[],_,_,_=>by simp
 |x::l,S,nd,h=>by
  rw[avO]at nd;have hx:=h x auX;have:=Gp (l:=l) (S:=S.erase x) nd.2 λy hy=>by
   have:y≠x:=λz=>nd.1 (z ▸ hy);exact(List.mem_erase_of_ne this).mpr (h y (auY _ hy))
  rw[List.length_erase_of_mem hx]at this;have:=List.length_pos_of_mem hx;rw[au5];omega
def Ry(c:aD):List Rw:=c.held.map (λr=>(r.1,r.2.2))++c.bs.map λb=>(b.sd.o,b.sd.due.getD [])
def aeg{c:aD}{near:ListInt}{r:Rw}(h:r∈inR c near):∃g,(r.1,g,r.2)∈c.held/\g∈near:=by
 unfold inR at h;let⟨x,h1,rfl⟩:=au2.mp h
 let⟨h2,h3⟩:=avj.mp h1
 exact⟨x.2.1,h2,by simpa using h3⟩
def aaX{c:aD}{lo:Int}{near:ListInt}{r:Rw}(h:r∈Jo c lo near):∃(i:Nat) (b:cW),c.bs[i]?=some b/\b.sd.o=r.1/\b.sd.due=some r.2/\b.sd.al=true/\b.sd.g∈near/\(i:Int)+1≠lo:=by
 unfold Jo at h;let⟨x,h1,rfl⟩:=au2.mp h
 let⟨h2,h3⟩:=avj.mp h1
 let⟨i,hi,rfl⟩:=List.mem_mapIdx.mp h2
 simp![auU,awc,avb,beq_eq_false_iff_ne]at h3;let⟨⟨h4,h5⟩,h6,h7⟩:=h3
 refine⟨i,c.bs[i],auV hi,rfl,?_,h7,h6,h5⟩;cases hd:c.bs[i].sd.due with
 |none=>simp[hd]at h4
 |some e=>rfl
def jr{c:aD}{lo x:Int}{r:Rw}(h:r∈cH c lo x):r∈Ry c:=by
 unfold Ry;rcases au8.mp h with h|h
 .let⟨g,h1,_⟩:=aeg h
  exact avA _ (au2.mpr ⟨_,h1,rfl⟩)
 .let⟨i,b,h1,h2,h3,_⟩:=aaX h
  refine avC _ (au2.mpr ⟨b,au4 h1,?_⟩);rw[h2,h3];rfl
section
variable{n s:Nat}{c:aD}(I:Inv n s c)
include I
theorem Inv.few{R:List Rw}(h:∀r∈R,r∈Ry c):R.eraseDups.length<=s:=by
 have h1:=Gp (l:=bG R) (S:=Ry c) (ahY (Tq R)) λr hr=>h r (lV.mp hr);rw[sU]at h1;have:(Ry c).length=c.held.length+c.bs.length:=by simp[Ry]
 have:=I.hL;omega
theorem Inv.Mv{lo x:Int}:u5 (cH c lo x):=λr hr=>by
 rcases au8.mp hr with h|h
 .let⟨g,h1,_⟩:=aeg h
  exact gA (I.hE _ h1).2.2
 .let⟨i,b,h1,h2,h3,_⟩:=aaX h
  exact gA (I.due b (au4 h1) _ h3)
theorem Inv.bi:Qt (2*n) c:=⟨λb hb=>gA (I.ear b hb),I.en⟩
theorem Inv.mk1{o g:Int}(h:bF c o g≠[]):∃r,bF c o g=firstM c o g::r/\cY (firstM c o g)=true:=by
 cases hm:bF c o g with
 |nil=>exact absurd hm h
 |cons m r=>
  refine⟨r,by simp[firstM,hm],?_⟩;have:m∈bF c o g:=by rw[hm];exact auX
  unfold bF at this;let⟨x,h1,rfl⟩:=au2.mp this
  have e:firstM c o g=x.2.2:=by simp[firstM,hm]
  rw[e];exact(I.hE x (avj.mp h1).1).2.2
end
def Ht{c:aD}{o g:Int}{m:ListInt}:m∈bF c o g↔(o,g,m)∈c.held:=by
 unfold bF;rw[au2];constructor
 .rintro⟨⟨x,y,z⟩,h,rfl⟩;let⟨h1,h2⟩:=avj.mp h
  simp at h2;let⟨rfl,rfl⟩:=h2
  exact h1
 .intro h;exact⟨_,avj.mpr ⟨h,by simp⟩,rfl⟩
def Az{c:aD}{o g:Int}:bF c o g≠[]↔∃m,(o,g,m)∈c.held:=by
 constructor
 .intro h;let⟨m,hm⟩:=List.exists_mem_of_ne_nil _ h
  exact⟨m,Ht.mp hm⟩
 .rintro⟨m,hm⟩ z;have:=Ht.mpr hm;rw[z]at this;cases this
def Ho{x y:ListInt}(hx:cY x=true)(hy:cY y=true):cY (lB x y)=true:=by
 have lx:=gA hx;have ly:=gA hy;unfold cY at *;simp![auU,awc,avl]at *;refine⟨by simp[lB];omega,λd hd=>?_⟩;unfold lB at hd;let⟨p,hp,rfl⟩:=au2.mp hd
 have h1:=hx.2 p.1 (List.of_mem_zip hp).1;have h2:=hy.2 p.2 (List.of_mem_zip hp).2
 split<;>omega
def JF(n:Nat)(x:ListInt):okd (n+1) (aH x)=true:=by show okd (n+1) (.tuple (x.map PyData.int))=true;rw[okd];exact YH n x
def akJ(x y:ListInt):Eh (aH x) (aH y)=.ok (.bool (decide (x=y))):=by
 show(Out.when (okd 12 (aH x)&&okd 12 (aH y)) (.ok (PyData.eqv (aH x) (aH y)))).bind _=_
 rw[JF 11,JF 11,abl,Cp];rfl
def aku(neg:Bool)(m:ListInt)(ms:List ListInt):inD neg (aH m) (.list (ms.map aH))=.ok (.bool (neg ^^ decide (m∈ms))):=by
 have h1:lX 12 (ms.map aH)=true:=KZ.mpr λd hd=>by
  let⟨x,_,rfl⟩:=au2.mp hd
  exact JF 11 x
 have h2:((ms.map aH).any λz=>PyData.eqv z (aH m))=decide (m∈ms):=by
  induction ms with
  |nil=>simp
  |cons x ms ih=>
   have h1':lX 12 (ms.map aH)=true:=KZ.mpr λd hd=>by
    let⟨x,_,rfl⟩:=au2.mp hd
    exact JF 11 x
   rw[List.map_cons,avS,ih h1',abl,Cp];by_cases h:x=m
   .simp[h]
   .have:¬m=x:=λz=>h z.symm;simp[h,this]
 show(Out.when (okd 12 (aH m)&&lX 12 (ms.map aH)) (.ok ((ms.map aH).any λz=>PyData.eqv z (aH m)))).bind _=_
 rw[h1,h2,JF 11];rfl
def Sp(M:Mo)(L:Lay)(o:aZ Dat):Res->Prop
 |.ok d c'=>∃M' bs,o=.ok d M'/\At M' { L with bs:=bs } c'
 |.no x=>o=.exc x M
section
variable{M:Mo}{L:Lay}{c:aD}(a:At M L c){n s:Nat}(I:Inv n s c)(hs:s<=76)(hn:n<=199)
include a I hn
theorem adV:Sp M L (gU M [ob L.c]) (cJ c .owner):=by
 let⟨M',h1,h2⟩:=Oz a (λo ho=>(I.own o ho).2) (by have:=I.ownL;omega)
 exact⟨M',L.bs,h1,h2⟩
theorem ach(x:Int):Sp M L (gG M [ob L.c,.int x]) (cJ c (.ground x)):=by
 have hc:=a.hc;let⟨n,m,hg⟩:=a.hg
 have hl:=I.al;have h1:=Z6 a I.gr #[] x;simp![cJ];by_cases h:0<=x/\x<=9
 .rw[awg h]at h1 |-
  let⟨M',h1,h2⟩:=h1
  exact⟨M',L.bs,by simp[gG,nQ,hc,aA,hg,cX,mH,h1],h2⟩
 .rw[awh h]at h1 |-
  show _=_;simp[gG,nQ,hc,aA,hg,cX,mH,h1]
include hs
omit hn
theorem aaM(o x:Int)(e:ListInt)(he:e.length=6)(hv:Vg c x):iH M [ob L.c,.int o,aH e,.int x]=match Bq o e (bG (cH c 0 x)) (roomOf c x) with
  |[]=>.ok .none
  |r::_=>.exc (JX o e r):=by
 have h1:=I.hL;have h76:=I.few (R:=cH c 0 x) λr hr=>jr hr;have:=Z0 a I.gr #[] #[] o x e he hv (by rw[fK a];omega) (by rw[fK a];exact I.Mv);rw[fK a]at this;exact this
theorem ac2(o g:Int)(m:ListInt)(hm:m.length<=1000):Sp M L (dU M [ob L.c,.int o,.int g,aH m]) (cJ c (.enrol o g m)):=by
 have hc:=a.hc;have hr:=a.hr;let⟨n1,m1,hg⟩:=a.hg
 have hL:=I.hL;have h1:=ju a o;have h2:=uK a g;have h3:=Jp M m hm;have h4:=Fj a #[] o g;simp![cJ,vO,Ad,Qa,Dz];by_cases e1:o∈c.own;rotate_left
 .rw[awh e1]at h1 |-
  show _=_;simp[dU,gY,hc,aA,ao,h1]
 rw[awg e1]at h1 |-
 by_cases e2:Vg c g;rotate_left
 .rw[awh e2]at h2 |-
  show _=_;simp[dU,gY,hc,aA,ao,h1,hg,cX,au,h2]
 rw[awg e2]at h2 |-
 by_cases e3:cY m=true;rotate_left
 .rw[awh e3]at h3 |-
  show _=_;simp[dU,gY,hc,aA,ao,h1,hg,cX,au,h2,h3]
 rw[awg e3]at h3 |-
 have h5:Eh (.tuple (m.map PyData.int)) (.tuple [.int 0,.int 0,.int 0,.int 0,.int 0,.int 0])=_:=akJ m [0,0,0,0,0,0];by_cases e4:m=[0,0,0,0,0,0]
 .rw[awg e4];rw[decide_eq_true e4]at h5;show _=_;simp[dU,gY,hc,aA,ao,h1,hg,cX,au,h2,h3,jV];simp[h5]
 rw[awh e4];rw[decide_eq_false e4]at h5;have h6:=aku false m (bF c o g);by_cases e5:m∈bF c o g
 .rw[awg e5];rw[decide_eq_true e5]at h6;simp at h6;show _=_;simp[dU,gY,hc,aA,ao,h1,hg,cX,au,h2,h3,jV,h5,hr,pq,bU,h4,h6]
 rw[awh e5];rw[decide_eq_false e5]at h6;simp at h6;have h7:=aaM a I hs o g m (gA e3) e2;cases e6:Bq o m (bG (cH c 0 g)) (roomOf c g) with
 |cons r rs=>
  rw[e6]at h7;show _=_;simp[dU,gY,hc,aA,ao,h1,hg,cX,au,h2,h3,jV,h5,hr,pq,bU,h4,h6,bW,h7]
 |nil=>
  rw[e6]at h7;have h8:=Qm a #[] o g m;rw[awh λz=>e5 (Ht.mpr z)]at h8;let⟨M',h8,h9⟩:=h8
  refine⟨M',L.bs,?_,h9⟩;simp[dU,gY,hc,aA,ao,h1,hg,cX,au,h2,h3,jV,h5,hr,pq,bU,h4,h6,bW,h7,ji,h8]
end
@[simp]def auP (n:Nat) (b:cW):List.lookup ("owner" : Str) (iB n b).fs=#[.int b.sd.o]:=by simp[iB]
@[simp]def auS (n:Nat) (b:cW):List.lookup ("ground" : Str) (iB n b).fs=#[.int b.sd.g]:=by simp[iB]
@[simp]def auQ (n:Nat) (b:cW):List.lookup ("due" : Str) (iB n b).fs=#[mY b.sd.due]:=by simp[iB]
@[simp]def auR (n:Nat) (b:cW):List.lookup ("ear" : Str) (iB n b).fs=#[aH b.sd.ear]:=by simp[iB]
@[simp]def auO (n:Nat) (b:cW):List.lookup ("alive" : Str) (iB n b).fs=#[.bool b.sd.al]:=by simp[iB]
section
variable{M:Mo}{L:Lay}{c:aD}(a:At M L c){n s:Nat}(I:Inv n s c)(hs:s<=76)
include a I hs
theorem aec(o g:Int):Sp M L (fU M [ob L.c,.int o,.int g]) (cJ c (.leave o g)):=by
 have hc:=a.hc;have hr:=a.hr;let⟨n1,m1,hg⟩:=a.hg
 let⟨n2,hh⟩:=a.hh
 have hL:=I.hL;have h1:=ju a o;have h2:=uK a g;have h3:=uo a #[] o g;simp![cJ,vO,Ad,qd];by_cases e1:o∈c.own;rotate_left
 .rw[awh e1]at h1 |-
  show _=_;simp[fU,jW,hc,aA,ao,h1]
 rw[awg e1]at h1 |-
 by_cases e2:Vg c g;rotate_left
 .rw[awh e2]at h2 |-
  show _=_;simp[fU,jW,hc,aA,ao,h1,hg,cX,au,h2]
 rw[awg e2]at h2 |-
 by_cases e3:bF c o g=[]
 .rw[awg e3]at h3 |-
  show _=_;simp[fU,jW,hc,aA,ao,h1,hg,cX,au,h2,aO,h3]
 rw[awh e3]at h3 |-
 have h4:rB M [ob L.h,.list [.int g]]=_:=Lh a #[] [g];have key:=dw (tg:=aX [3,4]) (te:=aK Eh (bf "owner" (4)) (1)) (M:=M) (Z:=[#[ob L.c],#[.int o],#[.int g],none,none]) nb (λx=>.bool (x.2.2.sd.o==o)) ((bK L c).filter λx=>decide (x.2.2.sd.g∈[g])&&x.2.2.sd.al) λx hx=>⟨[#[ob L.c],#[.int o],#[.int g],#[.int ((x.1:Int)+1)],#[ob x.2.1]],by simp[nb],by
  let⟨n,hb⟩:=a.hb' (avj.mp hx).1
  simp[hb,iB]⟩
 have hl:((bK L c).filter λx=>decide (x.2.2.sd.g∈[g])&&x.2.2.sd.al).length<=50000:=ave (au6 _ _) (by rw[a.len'];omega);have h5:Uh (.list (((bK L c).filter λx=>decide (x.2.2.sd.g∈[g])&&x.2.2.sd.al).map λx=>PyData.bool (x.2.2.sd.o==o)))=.ok (.bool (c.bs.any (aaq o g))):=by
  have e:(((bK L c).filter λx=>decide (x.2.2.sd.g∈[g])&&x.2.2.sd.al).map λx=>PyData.bool (x.2.2.sd.o==o))=(((bK L c).filter λx=>decide (x.2.2.sd.g∈[g])&&x.2.2.sd.al).map λx=>(x.2.2.sd.o==o)).map PyData.bool:=by rw[avh];rfl
  rw[e,aaS,avY,List.any_filter];have e2:=CN a;have e3:(bK L c).map (λx=>x.2.2)=c.bs:=by
   have:(bK L c).map (λx=>x.2.2)=((bK L c).map (λx=>(x.1,x.2.2))).map (·.2):=by rw[avh];rfl
   rw[this,e2];apply avp;intro i;simp;cases c.bs[i]?<;>rfl
  conv=>rhs;rw[<-e3]
  rw[avY];rfl
 cases e4:c.bs.any (aaq o g) with
 |true=>
  rw[e4]at h5;show _=_;simp[fU,jW,hc,aA,ao,h1,hg,cX,au,h2,aO,h3,hh,dJ,fQ];simp at h4 key h5 hl;simp[h4,key,hl,h5]
 |false=>
  rw[e4]at h5;have h6:=ajQ a #[] I.held o g;rw[awh e3]at h6;let⟨M',h6,h7⟩:=h6
  refine⟨M',L.bs,?_,h7⟩;simp[fU,jW,hc,aA,ao,h1,hg,cX,au,h2,aO,h3,hh,dJ,fQ];simp at h4 key h5 hl;simp[h4,key,hl,h5,hc,aA,hr,pq,Ba,h6]
theorem ac8(o g:Int)(m:ListInt)(hm:m.length<=1000):Sp M L (fX M [ob L.c,.int o,.int g,aH m]) (cJ c (.bring o g m)):=by
 have hc:=a.hc;have hr:=a.hr;let⟨n1,m1,hg⟩:=a.hg
 let⟨n2,hh⟩:=a.hh
 have hL:=I.hL;have h1:=ju a o;have h2:=uK a g;have h3:=Jp M m hm;have h4:=uo a #[] o g;simp![cJ,vO,Ad,Qa,qd];by_cases e1:o∈c.own;rotate_left
 .rw[awh e1]at h1 |-
  show _=_;simp[fX,j8,hc,aA,ao,h1]
 rw[awg e1]at h1 |-
 by_cases e2:Vg c g;rotate_left
 .rw[awh e2]at h2 |-
  show _=_;simp[fX,j8,hc,aA,ao,h1,hg,cX,au,h2]
 rw[awg e2]at h2 |-
 by_cases e3:cY m=true;rotate_left
 .rw[awh e3]at h3 |-
  show _=_;simp[fX,j8,hc,aA,ao,h1,hg,cX,au,h2,h3]
 rw[awg e3]at h3 |-
 by_cases e4:bF c o g=[]
 .rw[awg e4]at h4 |-
  show _=_;simp[fX,j8,hc,aA,ao,h1,hg,cX,au,h2,h3,aO,h4]
 rw[awh e4]at h4 |-
 let⟨M',h,h5,h6⟩:=Qn a #[] (.brought o g m) #[]
 refine⟨M',L.bs++[h],?_,h6⟩;simp[Fi.dat]at h5;simp[fX,j8,hc,aA,ao,h1,hg,cX,au,h2,h3,aO,h4,hh,dJ,kY,h5]
theorem agT(k:Int):Sp M L (iT M [ob L.c,.int k]) (cJ c (.bear k)):=by
 have hc:=a.hc;let⟨n2,hh⟩:=a.hh
 have hL:=I.hL;have h1:=PB a #[] k;simp![cJ,markB,zW];cases hk:bk c k with
 |none=>
  rw[hk]at h1;show _=_;simp[iT,oH,hc,aA,hh,dJ,bx,h1]
 |some b=>
  rw[hk]at h1;let⟨_,_,_,_,n3,hb⟩:=rO a hk
  show Sp M L _ (if b.sd.al=true then _ else _);cases e1:b.sd.al with
  |false=>
   simp[e1]at h1;show _=_;simp[iT,oH,hc,aA,hh,dJ,bx,h1]
  |true=>
   simp[e1]at h1;cases e2:b.sd.due with
   |none=>
    simp[e2]at h1;show _=_;simp[iT,oH,hc,aA,hh,dJ,bx,h1]
   |some e=>
    simp[e2]at h1;simp![if_true];let⟨M',h,h5,h6⟩:=Qn a #[] (.born k b.sd.o b.sd.g) #[]
    refine⟨M',L.bs++[h],?_,h6⟩;simp[Fi.dat]at h5;simp[iT,oH,hc,aA,hh,dJ,bx,h1,hb,iB,kY,h5]
theorem ajp(k:Int)(hn:n<=1000):Sp M L (kZ M [ob L.c,.int k]) (cJ c (.die k)):=by
 have hc:=a.hc;let⟨n2,hh⟩:=a.hh
 have hL:=I.hL;have h1:=Hj a #[] k;simp![cJ,zW];cases hk:bk c k with
 |none=>
  rw[hk]at h1;show _=_;simp[kZ,ux,hc,aA,hh,dJ,bB,h1]
 |some b=>
  rw[hk]at h1;let⟨_,_,h3,h4,n3,hb⟩:=rO a hk
  show Sp M L _ (if b.sd.al=true then _ else _);cases e1:b.sd.al with
  |false=>
   simp[e1]at h1;show _=_;simp[kZ,ux,hc,aA,hh,dJ,bB,h1]
  |true=>
   simp[e1]at h1;have mem:=au4 h4;simp![if_true];have h5:=vN hb .died (by rw[gA (I.ear b mem)];decide) (by have:=I.en b mem;omega);refine⟨_,L.bs,?_,Bx (n:=n3) (e:=.died) a h3 h4⟩;simp[En.dat]at h5;simp[kZ,ux,hc,aA,hh,dJ,bB,h1,hb,bL,h5,uD]
theorem afr(k p:Int)(hn:n<=1000):Sp M L (fP M [ob L.c,.int k,.int p]) (cJ c (.tear k p)):=by
 have hc:=a.hc;let⟨n2,hh⟩:=a.hh
 have hL:=I.hL;have h1:=Hj a #[] k;simp![cJ,zW];cases hk:bk c k with
 |none=>
  rw[hk]at h1;show _=_;simp[fP,jE,hc,aA,hh,dJ,bB,h1]
 |some b=>
  rw[hk]at h1;let⟨_,_,h3,h4,n3,hb⟩:=rO a hk
  show Sp M L _ (if b.sd.al=true then _ else _);cases e1:b.sd.al with
  |false=>
   simp[e1]at h1;show _=_;simp[fP,jE,hc,aA,hh,dJ,bB,h1]
  |true=>
   simp[e1]at h1;have mem:=au4 h4;have h6:=gA (I.ear b mem);simp![if_true];by_cases e2:0<=p/\p<6
   .rw[awg e2];obtain⟨q,rfl⟩:∃q:Nat,p=q:=⟨p.toNat,#[]⟩;have hq:q<6:=#[];have hq2:q<b.sd.ear.length:=#[];have hq3:(q:Int)<6:=#[];have h7:b.sd.ear[q]?.getD 0=b.sd.ear[q]:=by simp[hq2]
    simp![Int.toNat_natCast,List.getD_eq_getElem?_getD,h7];have h5:=vN hb (.torn q) #[] (by have:=I.en b mem;omega);by_cases e3:9<=b.sd.ear[q]
    .rw[awg e3];show _=_;simp[fP,jE,hc,aA,hh,dJ,bB,h1,hb,iB,jy,hq3,cO,hq2,e3]
    .rw[awh e3];refine⟨_,L.bs,?_,Bx (n:=n3) (e:=.torn q) a h3 h4⟩;simp[En.dat]at h5;have hl:∀i,(M.set (Pr.hk L k) i)[Pr.hk L k]?=some i:=λi=>by rw[bD hb,awg rfl]
     simp[fP,jE,hc,aA,hh,dJ,bB,h1,hb,jy,hq3,cO,bL,h5,hl,hq2,e3,uD,go]
   .rw[awh e2];show _=_;by_cases e3:0<=p
    .have e4:¬p<6:=λz=>e2 ⟨e3,z⟩;simp[fP,jE,hc,aA,hh,dJ,bB,h1,jy,e3,e4]
    .simp[fP,jE,hc,aA,hh,dJ,bB,h1,jy,e3]
end
def Inv.alive{n s:Nat}{c:aD}(I:Inv n s c){b:cW}(h:b∈c.bs)(h2:b.sd.al=true):bF c b.sd.o b.sd.g≠[]/\Vg c b.sd.g/\b.sd.o∈c.own:=by
 let⟨m,hm⟩:=I.rt b h h2
 exact⟨Az.mpr ⟨m,hm⟩,(I.hE _ hm).2.1,(I.hE _ hm).1⟩
section
variable{M:Mo}{L:Lay}{c:aD}(a:At M L c){n s:Nat}(I:Inv n s c)(hs:s<=76)(hn:n<=1000)
include a I hs hn
theorem ajv(k:Int):Sp M L (jw M [ob L.c,.int k]) (cJ c (.cut k)):=by
 have hc:=a.hc;let⟨n2,hh⟩:=a.hh
 have hL:=I.hL;have h1:=Hj a #[] k;simp![cJ,zW,Dz];cases hk:bk c k with
 |none=>
  rw[hk]at h1;show _=_;simp[jw,pO,hc,aA,hh,dJ,bB,h1]
 |some b=>
  rw[hk]at h1;let⟨_,_,h3,h4,n3,hb⟩:=rO a hk
  show Sp M L _ (if b.sd.al=true then _ else _);cases e1:b.sd.al with
  |false=>
   simp[e1]at h1;show _=_;simp[jw,pO,hc,aA,hh,dJ,bB,h1]
  |true=>
   simp[e1]at h1;simp![if_true];have mem:=au4 h4;let⟨q1,q2,q3⟩:=I.alive mem e1
   let⟨r,q4,q5⟩:=I.mk1 q1
   have h6:=gA (I.ear b mem);have h7:=Dy a #[] _ _ q4;have h8:=KY M b.sd.ear (firstM c b.sd.o b.sd.g) #[];have q6:=gA (Ho (I.ear b mem) q5);generalize lB b.sd.ear (firstM c b.sd.o b.sd.g)=e at h8 q6 |-
   have h9:=aaM a I hs b.sd.o b.sd.g e q6 q2;cases e2:Bq b.sd.o e (bG (cH c 0 b.sd.g)) (roomOf c b.sd.g) with
   |cons r rs=>
    rw[e2]at h9;show _=_;simp[jw,pO,hc,aA,hh,dJ,bB,h1,hb,iB,bV,h7,h8,bW,h9]
   |nil=>
    rw[e2]at h9;have h5:=vN hb (.cut e) #[] (by have:=I.en b mem;omega);refine⟨_,L.bs,?_,Bx (n:=n3) (e:=.cut e) a h3 h4⟩;simp[En.dat]at h5;simp[jw,pO,hc,aA,hh,dJ,bB,h1,hb,bV,bL,h5,bW,h7,h8,h9,uD]
theorem agw(x:Int):Sp M L (iI M [ob L.c,.int x]) (cJ c (.part x)):=by
 have hc:=a.hc;let⟨n1,m1,hg⟩:=a.hg
 have h1:=agv a I.gr x;have e0:(aY c x).filter (λy=>!(y==x))=uY c x:=rfl;rw[e0]at h1;simp![cJ,Ad];by_cases e1:Vg c x
 .rw[awg e1]at h1 |-
  by_cases e2:uY c x=[]
  .rw[awg e2]at h1 |-
   show _=_;simp[iI,rW,hc,aA,hg,cX,qM,h1]
  .rw[awh e2]at h1 |-
   let⟨M',h1,h2⟩:=h1
   refine⟨M',L.bs,?_,h2⟩;simp[iI,rW,hc,aA,hg,cX,qM,h1]
 .rw[awh e1]at h1 |-
  show _=_;simp[iI,rW,hc,aA,hg,cX,qM,h1]
theorem adn(x y:Int)(hx:Vg c x)(hy:Vg c y):mj M [ob L.c,.int x,.int y]=.ok (.list ((oG (bG (K7 c x y)) (yI c x y)).map pairD)):=by
 have h1:=I.hL;have f1:=I.few (R:=cH c 0 x) λr hr=>jr hr;have f2:=I.few (R:=cH c 0 y) λr hr=>jr hr;have f3:=I.few (R:=K7 c x y) λr hr=>by
  rcases au8.mp hr with h|h
  .exact jr (lV.mp h)
  .exact jr (lV.mp h)
 have e:Ml L c x y=K7 c x y:=by unfold Ml K7;rw[fK a,fK a]
 have:=acG a I.gr #[] #[] x y hx hy (by rw[fK a];omega) (by rw[fK a];omega) (by rw[e];omega) (by rw[fK a];exact I.Mv) (by rw[fK a];exact I.Mv);rw[e]at this;exact this
theorem ac9(x y:Int):Sp M L (eZ M [ob L.c,.int x,.int y]) (cJ c (.wJ x y)):=by
 have hc:=a.hc;let⟨n1,m1,hg⟩:=a.hg
 have h1:=uK a y;have h2:=pX a I.gr x;simp![cJ,Ad];by_cases e1:Vg c y;rotate_left
 .rw[awh e1]at h1 |-
  show _=_;simp[eZ,jY,hc,aA,hg,cX,au,h1]
 rw[awg e1]at h1 |-
 by_cases e2:Vg c x;rotate_left
 .rw[awh e2]at h2 |-
  show _=_;simp[eZ,jY,hc,aA,hg,cX,au,h1,bJ,h2]
 rw[awg e2]at h2 |-
 have h3:=Bh false y (aY c x);have h4:=aeW a I.gr x y e2 e1;by_cases e3:y∈aY c x
 .rw[awg e3];rw[decide_eq_true e3]at h3;show _=_;simp[eZ,jY,hc,aA,hg,cX,au,h1,bJ,h2,h3]
 rw[awh e3]at h4 |-
 rw[decide_eq_false e3]at h3;have h5:=adn a I hs hn x y e2 e1;have h6:∀p∈oG (bG (K7 c x y)) (yI c x y),p.1.2.length=6:=λp hp=>by
  unfold oG at hp;let⟨q,hq,hp⟩:=List.mem_flatMap.mp hp
  let⟨r,_,rfl⟩:=au2.mp hp
  let⟨i,hi,rfl⟩:=List.mem_mapIdx.mp hq
  have hm:=lV.mp (avE hi);rcases au8.mp hm with h|h
  .exact I.Mv _ (lV.mp h)
  .exact I.Mv _ (lV.mp h)
 cases e4:oG (bG (K7 c x y)) (yI c x y) with
 |cons p ps=>
  rw[e4]at h5 h6;have h7:=KY M p.1.2 p.2.2 (by have:=h6 p auX;omega);show _=_;simp[eZ,jY,hc,aA,hg,cX,au,h1,bJ,h2,h3,gR,h5];simp[pairD,Ear.rD,Ear.dT,h7,JX]
 |nil=>
  rw[e4]at h5;let⟨M',h4,h7⟩:=h4
  refine⟨M',L.bs,?_,h7⟩;simp[eZ,jY,hc,aA,hg,cX,au,h1,bJ,h2,h3,gR,h5,yH,h4]
theorem afM(e g x:Int):Sp M L (cG M [ob L.c,.int e,.int g,.int x]) (cJ c (.heir e g x)):=by
 have hc:=a.hc;have hr:=a.hr;let⟨n1,m1,hg⟩:=a.hg
 have hL:=I.hL;have h1:=ju a e;have h2:=uK a g;have h3:=uo a #[] e g;simp![cJ,vO,Ad,qd];by_cases e1:e∈c.own;rotate_left
 .rw[awh e1]at h1 |-
  show _=_;simp[cG,eU,hc,aA,ao,h1]
 rw[awg e1]at h1 |-
 by_cases e2:Vg c g;rotate_left
 .rw[awh e2]at h2 |-
  show _=_;simp[cG,eU,hc,aA,ao,h1,hg,cX,au,h2]
 rw[awg e2]at h2 |-
 by_cases e3:1<=x/\x<=3;rotate_left
 .rw[awh e3];show _=_;by_cases e4:1<=x
  .have e5:¬x<=3:=λz=>e3 ⟨e4,z⟩;simp[cG,eU,hc,aA,ao,h1,hg,cX,au,h2,jM,lZ,e4,e5]
  .simp[cG,eU,hc,aA,ao,h1,hg,cX,au,h2,jM,lZ,e4]
 rw[awg e3];let⟨e4,e5⟩:=e3
 by_cases e6:bF c e g=[]
 .rw[awg e6]at h3 |-
  show _=_;simp[cG,eU,hc,aA,ao,h1,hg,cX,au,h2,jM,lZ,e4,e5,aO,h3]
 rw[awh e6]at h3 |-
 let⟨r,q4,q5⟩:=I.mk1 e6
 have h7:=Dy a #[] _ _ q4;have f1:=I.few (R:=cH c 0 g) λr hr=>jr hr;have h8:=nZ a I.gr #[] #[] g (by rw[fK a];omega);rw[awg e2,fK a]at h8;have h9:=sS a I.gr g;rw[awg e2]at h9;have h10:=ZS M (firstM c e g) x (bG (cH c 0 g)) (roomOf c g) q5 ⟨#[],e5⟩ (vD I.Mv) (by rw[sU];omega);cases e7:(Ue (firstM c e g) x).find? (Ep (bG (cH c 0 g)) (roomOf c g)) with
 |none=>
  rw[e7]at h10;show _=_;simp[cG,eU,hc,aA,ao,h1,hg,cX,au,h2,jM,lZ,e4,e5,aO,h3,bV,h7,aQ,h8,bH,h9,h10]
 |some mk=>
  rw[e7]at h10;let⟨M1,k1,a1⟩:=Oz a (λo ho=>(I.own o ho).2) (by have:=I.ownL;omega)
  have k2:=Qm a1 (by show c.held.length<=50000;omega) (c.count+1) g mk;rw[awh (λz=>by
   have:=(I.own _ (I.hE _ z).1).2;simp at this
   omega)]at k2
  let⟨M2,k2,a2⟩:=k2
  have hc1:=a1.hc;have hr1:=a1.hr;refine⟨M2,L.bs,?_,a2⟩;simp[cG,eU,hc,aA,ao,h1,hg,cX,au,h2,jM,lZ,e4,e5,aO,h3,bV,h7,aQ,h8,bH,h9,h10,dH,k1];simp[hc1,aA,hr1,pq,ji,k2]
end
section
variable{M:Mo}{L:Lay}{c:aD}(a:At M L c){n s:Nat}(I:Inv n s c)(hs:s<=76)(hn:n<=1000)
include a I hs hn
theorem ag3(k o:Int):Sp M L (dO M [ob L.c,.int k,.int o]) (cJ c (.sell k o)):=by
 have hc:=a.hc;let⟨n2,hh⟩:=a.hh
 have hL:=I.hL;have h1:=PB a #[] k;have h2:=ju a o;simp![cJ,markB,zW,Dz,vO,qd];cases hk:bk c k with
 |none=>
  rw[hk]at h1;show _=_;simp[dO,gK,hc,aA,hh,dJ,bx,h1]
 |some b=>
  rw[hk]at h1;let⟨k1,k2,h3,h4,n3,hb⟩:=rO a hk
  show Sp M L _ (if b.sd.al=true then _ else _);cases e1:b.sd.al with
  |false=>
   simp[e1]at h1;show _=_;simp[dO,gK,hc,aA,hh,dJ,bx,h1]
  |true=>
   simp[e1]at h1;simp![if_true];cases e2:b.sd.due with
   |none=>
    simp[e2]at h1;show _=_;simp[dO,gK,hc,aA,hh,dJ,bx,h1]
   |some e0=>
    simp[e2]at h1;show Sp M L _ (if o∈c.own then _ else _);by_cases e3:o∈c.own;rotate_left
    .rw[awh e3]at h2 |-
     show _=_;simp[dO,gK,hc,aA,hh,dJ,bx,h1,ao,h2]
    rw[awg e3]at h2 |-
    by_cases e4:b.sd.o=o
    .rw[awg e4];show _=_;simp[dO,gK,hc,aA,hh,dJ,bx,h1,ao,h2,hb,e4]
    rw[awh e4];have h5:=uo a #[] o b.sd.g;by_cases e5:bF c o b.sd.g=[]
    .rw[awg e5]at h5 |-
     show _=_;simp[dO,gK,hc,aA,hh,dJ,bx,h1,ao,h2,hb,e4,aO,h5]
    rw[awh e5]at h5 |-
    have mem:=au4 h4;let⟨q1,q2,q3⟩:=I.alive mem e1
    let⟨r,q4,q5⟩:=I.mk1 e5
    have h6:=gA (I.ear b mem);have h7:=Dy a #[] _ _ q4;have h8:=KY M b.sd.ear (firstM c o b.sd.g) #[];have q6:=gA (Ho (I.ear b mem) q5);generalize lB b.sd.ear (firstM c o b.sd.g)=e at h8 q6 |-
    have f1:=I.few (R:=cH c k b.sd.g) λr hr=>jr hr;have h9:=Iu a I.gr #[] #[] k b.sd.g (by rw[fK a];omega);rw[awg q2,fK a]at h9;have h10:=sS a I.gr b.sd.g;rw[awg q2]at h10;have h11:=R7 M o e (bG (cH c k b.sd.g)) (roomOf c b.sd.g) q6 (vD I.Mv) (TF #[]);cases e6:Bq o e (bG (cH c k b.sd.g)) (roomOf c b.sd.g) with
    |cons r rs=>
     rw[e6]at h11;show _=_;simp[dO,gK,hc,aA,hh,dJ,bx,h1,ao,h2,hb,e4,aO,h5,bV,h7,h8,cZ,h9,bH,h10,h11,JX]
    |nil=>
     rw[e6]at h11;have h12:=vN hb (.sold o e) #[] (by have:=I.en b mem;omega);have a1:=Bx (n:=n3) (e:=.sold o e) a h3 h4;have hk2:bk (iG c (k-1).toNat (.sold o e)) k=some (uD b (.sold o e)):=by unfold bk;rw[awg ⟨k1,by simpa [iG] using k2⟩,Ax,awg rfl,h4];rfl
     let⟨M',h13,a2⟩:=Ka a1 (by simp[iG];omega) (I.bi.step _ _ q6) #[] k hk2
     have hc1:=a1.hc;let⟨n4,hh1⟩:=a1.hh
     refine⟨M',L.bs,?_,a2⟩;simp[En.dat]at h12;simp![uD]at h13 hc1 hh1;simp[dO,gK,hc,aA,hh,dJ,bx,h1,ao,h2,hb,e4,aO,h5,bV,h7,h8,cZ,h9,bH,h10,h11,bL,h12];simp[hc1,aA,hh1,dJ,jd,h13]
theorem agh(k g:Int):Sp M L (dN M [ob L.c,.int k,.int g]) (cJ c (.move k g)):=by
 have hc:=a.hc;let⟨n2,hh⟩:=a.hh
 let⟨n5,m5,hg⟩:=a.hg
 have hL:=I.hL;have h1:=PB a #[] k;have h2:=uK a g;simp![cJ,markB,zW,Dz,Ad,qd];cases hk:bk c k with
 |none=>
  rw[hk]at h1;show _=_;simp[dN,gM,hc,aA,hh,dJ,bx,h1]
 |some b=>
  rw[hk]at h1;let⟨k1,k2,h3,h4,n3,hb⟩:=rO a hk
  show Sp M L _ (if b.sd.al=true then _ else _);cases e1:b.sd.al with
  |false=>
   simp[e1]at h1;show _=_;simp[dN,gM,hc,aA,hh,dJ,bx,h1]
  |true=>
   simp[e1]at h1;simp![if_true];cases e2:b.sd.due with
   |none=>
    simp[e2]at h1;show _=_;simp[dN,gM,hc,aA,hh,dJ,bx,h1]
   |some e=>
    simp[e2]at h1;show Sp M L _ (if Vg c g then _ else _);by_cases e3:Vg c g;rotate_left
    .rw[awh e3]at h2 |-
     show _=_;simp[dN,gM,hc,aA,hh,dJ,bx,h1,hg,cX,au,h2]
    rw[awg e3]at h2 |-
    by_cases e4:b.sd.g=g
    .rw[awg e4];show _=_;simp[dN,gM,hc,aA,hh,dJ,bx,h1,hg,cX,au,h2,hb,e4]
    rw[awh e4];have h5:=uo a #[] b.sd.o g;by_cases e5:bF c b.sd.o g=[]
    .rw[awg e5]at h5 |-
     show _=_;simp[dN,gM,hc,aA,hh,dJ,bx,h1,hg,cX,au,h2,hb,e4,aO,h5]
    rw[awh e5]at h5 |-
    have mem:=au4 h4;have h6:=gA (I.ear b mem);have q6:=gA (I.due b mem e e2);have h11:=aaM a I hs b.sd.o g e q6 e3;cases e6:Bq b.sd.o e (bG (cH c 0 g)) (roomOf c g) with
    |cons r rs=>
     rw[e6]at h11;show _=_;simp[dN,gM,hc,aA,hh,dJ,bx,h1,hg,cX,au,h2,hb,e4,aO,h5,e2,mY,bW,h11]
    |nil=>
     rw[e6]at h11;have h12:=vN hb (.moved g) #[] (by have:=I.en b mem;omega);have a1:=Bx (n:=n3) (e:=.moved g) a h3 h4;have hk2:bk (iG c (k-1).toNat (.moved g)) k=some (uD b (.moved g)):=by unfold bk;rw[awg ⟨k1,by simpa [iG] using k2⟩,Ax,awg rfl,h4];rfl
     let⟨M',h13,a2⟩:=Ka a1 (by simp[iG];omega) (I.bi.step _ _ awa) #[] k hk2
     have hc1:=a1.hc;let⟨n4,hh1⟩:=a1.hh
     refine⟨M',L.bs,?_,a2⟩;simp[En.dat]at h12;simp![uD]at h13 hc1 hh1;simp[dN,gM,hc,aA,hh,dJ,bx,h1,hg,cX,au,h2,hb,e4,aO,h5,e2,mY,bW,h11,bL,h12];simp[hc1,aA,hh1,dJ,jd,h13]
theorem ahy(e h:Int):Sp M L (fH M [ob L.c,.int e,.int h]) (cJ c (.pass e h)):=by
 have hc:=a.hc;have hr:=a.hr;have hL:=I.hL;have h1:=ju a e;have h2:=ju a h;simp![cJ,vO];by_cases e1:e∈c.own;rotate_left
 .rw[awh e1]at h1 |-
  show _=_;simp[fH,kJ,hc,aA,ao,h1]
 rw[awg e1]at h1 |-
 by_cases e2:h∈c.own;rotate_left
 .rw[awh e2]at h2 |-
  show _=_;simp[fH,kJ,hc,aA,ao,h1,h2]
 rw[awg e2]at h2 |-
 by_cases e3:e=h
 .rw[awg e3];show _=_;simp[fH,kJ,hc,aA,ao,h1,h2,e3]
 rw[awh e3];let⟨M1,h3,a1⟩:=aaZ a #[] e h
 have hc1:=a1.hc;let⟨n1,hh1⟩:=a1.hh
 have h4:=ahH a1 (by show c.bs.length<=50000;omega) e;have ehd:bK L { c with held:=handed c e h }=bK L c:=rfl;rw[ehd]at h4;generalize hX:((bK L c).filter λx=>(x.2.2.sd.o==e)&&x.2.2.sd.al)=X at h4;have hXl:X.length<=1000:=by rw[<-hX];exact ave (au6 _ _) (by rw[a.len'];omega)
 have bi1:Qt (2*n) { c with held:=handed c e h }:=⟨I.bi.ear,I.bi.en⟩;let⟨Z',M2,g1,g2,g3⟩:=U0 (tg:=aX [4,5]) (body:=uP) (λZ=>∃x y,Z=[#[ob L.c],#[.int e],#[.int h],#[.list (X.map nb)],x,y])
  (λi c1=>Qt (2*n+i) c1/\c1.bs.length=c.bs.length) (.passed h) L 1000 X M1 { c with held:=handed c e h } [#[ob L.c],#[.int e],#[.int h],#[.list (X.map nb)],none,none] 0 #[] a1 ⟨bi1,rfl⟩ ⟨none,none,rfl⟩ (λM1 c1 Z x i hi a1 p1 q1 hx=>by
   let⟨bi1,l1⟩:=p1
   let⟨x0,y0,rfl⟩:=q1
   rw[<-hX]at hx;let⟨z1,z2⟩:=Dk (avj.mp hx).1
   have hl:x.1<c1.bs.length:=by rw[l1];exact(auZ.mp z2).1
   have z3:=auV hl;let⟨nx,hx1⟩:=a1.hb _ _ _ z1 z3
   have mem:=avE hl;have hb:=vN hx1 (.passed h) (by rw[bi1.ear _ mem];decide) (by have:=bi1.en _ mem;omega);refine⟨[#[ob L.c],#[.int e],#[.int h],#[.list (X.map nb)],#[.int ((x.1:Int)+1)],#[ob x.2.1]],[#[ob L.c],#[.int e],#[.int h],#[.list (X.map nb)],#[.int ((x.1:Int)+1)],#[ob x.2.1]],_,by simp[nb],?_,⟨_,_,rfl⟩,Bx (n:=nx) a1 z1 z3,bi1.step _ _ awa,by simp[iG,l1]⟩;have hb:oE M1 [ob x.2.1,.tuple [.str "passed",.int h]]=_:=hb
   simp[uP,hx1,bL,hb,uD])
 let⟨x0,y0,rfl⟩:=g2
 have g4:xK X (.passed h) { c with held:=handed c e h }=qu (λx=>(x.sd.o==e)&&x.sd.al) (.passed h) { c with held:=handed c e h }:=by rw[<-hX];exact Zd a1 (λx=>(x.sd.o==e)&&x.sd.al) (.passed h)
 rw[g4]at g3;have hc2:=g3.hc;have hl:∀i,(M2.set L.c i)[L.c]?=some i:=λi=>by rw[bD hc2,awg rfl]
 have hk:=any_keys e c.own;rw[decide_eq_true e1]at hk;have hf:((c.own.map λo=>(PyData.int o,PyData.bool true)).filter λp=>!PyData.eqv p.1 (.int e))=(c.own.filter λo=>!(o==e)).map λo=>(PyData.int o,PyData.bool true):=by rw[List.filter_map];congr 1
 have a3:=g3.setC (n:=c.count) (own:=c.own.filter λo=>!(o==e));refine⟨_,L.bs,?_,a3⟩;have key:=dw (tg:=aX [4,5]) (te:=BW 4) (M:=M2.set L.c (aA L { qu (λx=>(x.sd.o==e)&&x.sd.al) (.passed h) { c with held:=handed c e h } with count:=c.count,own:=c.own.filter λo=>!(o==e) })) (Z:=[#[ob L.c],#[.int e],#[.int h],#[.list (X.map nb)],none,none]) nb (λx=>.int ((x.1:Int)+1)) X λx _=>⟨[#[ob L.c],#[.int e],#[.int h],#[.list (X.map nb)],#[.int ((x.1:Int)+1)],#[ob x.2.1]],by simp[nb],by simp⟩;have eo:(Wb c e).map PyData.int=X.map λx=>.int ((x.1:Int)+1):=by unfold Wb;rw[<-CN a,List.filter_map,avh,avh,<-hX];rfl
 have eo:lI (Wb c e)=.list (X.map λx=>.int ((x.1:Int)+1)):=congrArg PyData.list eo;have hX2:X.length<=50000:=#[];have f2:c.own.length<=100000:=by have:=I.ownL;omega
 rw[eo];simp[fH,kJ,hc,aA,ao,h1,h2,e3,hr,pq,uN,h3];simp[hc1,aA,hh1,dJ,DG,h4,g1];simp![qu]at hc2 key |-
 have hk':(c.own.any ((λp=>PyData.eqv p.1 (.int e)) ∘ λo=>(PyData.int o,PyData.bool true)))=true:=by rw[<-avY];exact hk
 simp[hc2,aA,f2];rw[hk',hf];simp![aA]at key;simp[key,hX2]
end
def dB.same{c c':aD}(i:dB c)(h1:c'.al=c.al)(h2:c'.ci=c.ci):dB c':=by cases c;cases c';simp at h1 h2;subst h1 h2;exact⟨i.len,i.few,i.al,i.mem,i.own,i.up,i.one⟩
def dB.lt{c:aD}(i:dB c){k:Nat}{l:ListInt}(h:c.ci[k]?=some l):k<c.al.length:=by rw[<-i.len];exact(auZ.mp h).1
def dB.add{c:aD}(i:dB c)(hf:c.al.length<200){x:Int}(hx:0<=x/\x<=9):dB { c with al:=c.al++[x],ci:=c.ci++[[(c.al.length:Int)+1]] }:=by
 have key:∀(k:Nat) (l:ListInt),(c.ci++[[(c.al.length:Int)+1]])[k]?=some l->(c.ci[k]?=some l/\k<c.al.length)\/(k=c.al.length/\l=[(c.al.length:Int)+1]):=λk l h=>by
  by_cases hk:k<c.ci.length
  .rw[au9 hk]at h;exact .inl ⟨h,i.lt h⟩
  .rw[avf #[]]at h;have hk2:k-c.ci.length=0:=by
    have:=(auZ.mp h).1;simp at this;omega
   rw[hk2]at h;simp at h;exact .inr ⟨by have:=i.len;omega,h.symm⟩
 refine⟨by simp[i.len],by simp;omega,λy hy=>?_,λk l h y hy=>?_,λk l h=>?_,λk l h=>?_,λk j l h hj=>?_⟩
 .rcases au8.mp hy with hy|hy
  .exact i.al y hy
  .rw[au0.mp hy];exact hx
 .show 1<=y/\y<=((c.al++[x]).length:Int);rw[avz,List.length_singleton];rcases key k l h with⟨h,_⟩|⟨_,rfl⟩
  .have:=i.mem k l h y hy;omega
  .rw[au0.mp hy];omega
 .rcases key k l h with⟨h,_⟩|⟨rfl,rfl⟩
  .exact i.own k l h
  .simp
 .rcases key k l h with⟨h,_⟩|⟨rfl,rfl⟩
  .exact i.up k l h
  .simp
 .show(c.ci++[[(c.al.length:Int)+1]])[j]?=some l
  rcases key k l h with⟨h,_⟩|⟨rfl,rfl⟩
  .have h2:=i.one k j l h hj;rw[au9 (auZ.mp h2).1];exact h2
  .have:j=c.al.length:=by
    rw[au0]at hj;omega
   rw[this,<-i.len];simp
theorem aaU(l:ListInt):∀(s:ListInt) (ci:List ListInt) (k:Nat),(∀y∈s,1<=y)->(s.foldl (λs y=>s.set (y-1).toNat l) ci)[k]?=if ((k:Int)+1∈s)/\k<ci.length then some l else ci[k]?
 |[],ci,k,_=>by simp
 |y::s,ci,k,h=>by
  rw[avP,aaU l s _ k λz hz=>h z (auY _ hz),avn];have hy:=h y auX;by_cases h1:(k:Int)+1∈s/\k<ci.length
  .rw[awg h1,awg ⟨auY _ h1.1,h1.2⟩]
  .rw[awh h1,avR];by_cases h2:(y-1).toNat=k
   .rw[awg h2];have e:(k:Int)+1=y:=#[];by_cases h3:k<ci.length
    .rw[awg #[],awg ⟨by rw[e];exact auX,h3⟩]
    .rw[awh #[],awh (λz=>h3 z.2),avs #[]]
   .rw[awh h2,awh];rintro⟨z,h3⟩;rcases au7.mp z with z|z
    .omega
    .exact h1 ⟨z,h3⟩
def Tt(ci:List ListInt)(l:ListInt)(k:Nat)(h:∀y∈l,1<=y):(encl ci l)[k]?=if ((k:Int)+1∈l)/\k<ci.length then some l else ci[k]?:=aaU l l ci k h
def dB.again{c:aD}(i:dB c){ci:List ListInt}(hl:ci.length=c.ci.length)(P:ListInt->Prop)
  (h1:∀(k:Nat) (l:ListInt),ci[k]?=some l->(P l/\(k:Int)+1∈l)\/c.ci[k]?=some l)
  (h2:∀l,P l->l.Pairwise (· < ·)/\∀y∈l,Vg c y/\ci[(y-1).toNat]?=some l)
  (h3:∀(k j:Nat) (l:ListInt),ci[k]?=some l->c.ci[k]?=some l->c.ci[j]?=some l->(k:Int)+1∈l->¬P l->ci[j]?=some l):dB { c with ci:=ci }:=by
 refine⟨by show ci.length=_;rw[hl,i.len],i.few,i.al,λk l h y hy=>?_,λk l h=>?_,λk l h=>?_,λk j l h hj=>?_⟩
 .rcases h1 k l h with⟨p,_⟩|h
  .exact((h2 l p).2 y hy).1
  .exact i.mem k l h y hy
 .rcases h1 k l h with⟨_,p⟩|h
  .exact p
  .exact i.own k l h
 .rcases h1 k l h with⟨p,_⟩|h
  .exact(h2 l p).1
  .exact i.up k l h
 .show ci[j]?=some l;have pj:P l->ci[j]?=some l:=λp=>by
   have:=((h2 l p).2 _ hj).2
   rwa [show((j:Int)+1-1).toNat=j by omega]at this
  rcases h1 k l h with⟨p,_⟩|h'
  .exact pj p
  .by_cases p:P l
   .exact pj p
   .exact h3 k j l h h' (i.one k j l h' hj) (i.own k l h') p
def dB.at{c:aD}(i:dB c){x:Int}(h:Vg c x):c.ci[(x-1).toNat]?=some (aY c x):=by
 let⟨k,hk,rfl⟩:=CV h
 have hk':k<c.ci.length:=by rw[i.len];exact hk
 simp[aY,hk']
def dB.self{c:aD}(i:dB c){x:Int}(h:Vg c x):x∈aY c x:=by
 have:=i.own _ _ (i.at h)
 rwa [show(((x-1).toNat:Nat):Int)+1=x by omega]at this
def dB.eq{c:aD}(i:dB c){x y:Int}(h:Vg c x)(hy:y∈aY c x):aY c y=aY c x:=by have v:=i.mem _ _ (i.at h) y hy;have:=i.one _ (y-1).toNat _ (i.at h) (by rw[show(((y-1).toNat:Nat):Int)+1=y by omega];exact hy);rw[i.at v]at this;exact avi this
def agZ{l:ListInt}{i:Int}:i∈sortI l↔i∈l:=by unfold sortI;rw[List.mem_mergeSort]
def aix{l:ListInt}(h:l.Nodup):(sortI l).Pairwise (· < ·):=by unfold sortI;have srt:=avH (le:=λa b:Int=>decide (a<=b)) (λa b c k1 k2=>by rw[awc]at *;omega) (λa b=>by rw[avN,awc,awc];omega) l;have nd:(l.mergeSort λa b=>decide (a<=b)).Nodup:=(av0 _ _).nodup_iff.mpr h;refine List.Pairwise.imp₂ (λa b h1 h2=>?_) srt nd;rw[awc]at h1;have:a≠b:=h2;omega
def dB.wJ{c:aD}(i:dB c){x y:Int}(hx:Vg c x)(hy:Vg c y)(hn:y∉aY c x):dB { c with ci:=encl c.ci (sortI (aY c x++aY c y)) }:=by
 generalize hS:sortI (aY c x++aY c y)=S;have mem:∀z,z∈S↔z∈aY c x\/z∈aY c y:=λz=>by rw[<-hS,agZ,au8]
 have vg:∀z∈S,Vg c z:=λz hz=>by
  rcases(mem z).mp hz with h|h
  .exact i.mem _ _ (i.at hx) z h
  .exact i.mem _ _ (i.at hy) z h
 have up:S.Pairwise (· < ·):=by rw[<-hS];refine aix ?_;rw[avI];have nd:∀{l:ListInt},l.Pairwise (· < ·)->l.Nodup:=λh=>h.imp λ{a b} z e=>#[];refine⟨nd (i.up _ _ (i.at hx)),nd (i.up _ _ (i.at hy)),λa ha b hb e=>?_⟩;subst e;have e1:=i.eq hx ha;have e2:=i.eq hy hb;rw[e1]at e2;exact hn (e2 ▸ i.self hy)
 have get:=λk=>Tt c.ci S k λz hz=>(vg z hz).1;refine i.again (P:=λl=>l=S) (by unfold encl;rw[Bc]) (λk l h=>?_) (λl hl=>?_) (λk j l h h' hj hk np=>?_)
 .rw[get]at h;left
  .next z=>
   cases h;exact .inl ⟨rfl,z.1⟩
  .exact .inr h
 .subst hl;refine⟨up,λz hz=>⟨vg z hz,?_⟩⟩;have v:=vg z hz;have e:(((z-1).toNat:Nat):Int)+1=z:=#[];rw[get,e,awg ⟨hz,by rw[i.len];omega⟩]
 .rw[get];by_cases z:(j:Int)+1∈S/\j<c.ci.length
  .exfalso;have v:=vg _ z.1;have ej:aY c ((j:Int)+1)=l:=by
    have:=i.at v;rw[show((j:Int)+1-1).toNat=j by omega,hj]at this;exact(avi this).symm
   have hk2:(k:Int)+1∈S:=by
    rw[mem];rcases(mem _).mp z.1 with q|q
    .exact .inl (by rw[<-i.eq hx q,ej];exact hk)
    .exact .inr (by rw[<-i.eq hy q,ej];exact hk)
   rw[get,awg ⟨hk2,(auZ.mp h').1⟩]at h;exact np (avi h).symm
  .rw[awh z];exact hj
def dB.part{c:aD}(i:dB c){x:Int}(hx:Vg c x):dB { c with ci:=encl (encl c.ci [x]) (uY c x) }:=by
 have mem:∀z,z∈uY c x↔z∈aY c x/\z≠x:=λz=>by
  unfold uY;rw[avj];simp
 have vg:∀z∈uY c x,Vg c z:=λz hz=>i.mem _ _ (i.at hx) z ((mem z).mp hz).1;have l1:(encl c.ci [x]).length=c.ci.length:=by unfold encl;rw[Bc]
 have get:∀k:Nat,(encl (encl c.ci [x]) (uY c x))[k]?=if ((k:Int)+1∈uY c x)/\k<c.ci.length then some (uY c x) else if ((k:Int)+1=x)/\k<c.ci.length then some [x] else c.ci[k]?:=λk=>by
  rw[Tt _ _ _ λz hz=>(vg z hz).1,l1,Tt _ _ _ λz hz=>by rw[au0.mp hz];exact hx.1];simp![au0]
 refine i.again (P:=λl=>l=uY c x/\l≠[]\/l=[x]) (by unfold encl;rw[Bc,Bc]) (λk l h=>?_) (λl hl=>?_) (λk j l h h' hj hk np=>?_)
 .rw[get]at h;left
  .next z=>
   cases h;exact .inl ⟨.inl ⟨rfl,List.ne_nil_of_mem z.1⟩,z.1⟩
  .left
   .next z=>
    cases h;exact .inl ⟨.inr rfl,by rw[z.1];simp⟩
   .exact .inr h
 .rcases hl with⟨rfl,_⟩|rfl
  .refine⟨(i.up _ _ (i.at hx)).filter _,λz hz=>⟨vg z hz,?_⟩⟩;have v:=vg z hz;have e:(((z-1).toNat:Nat):Int)+1=z:=#[];rw[get,e,awg ⟨hz,by rw[i.len];omega⟩]
  .refine⟨by simp,λz hz=>?_⟩;rw[au0.mp hz];refine⟨hx,?_⟩;have e:(((x-1).toNat:Nat):Int)+1=x:=#[];rw[get,e,awh (λz=>((mem x).mp z.1).2 rfl),awg ⟨rfl,by rw[i.len];omega⟩]
 .have key:∀m:Nat,c.ci[m]?=some l->(m:Int)+1∈aY c x->l=aY c x:=λm hm q=>by
   have v:=i.mem _ _ (i.at hx) _ q;have:=i.at v;rw[show((m:Int)+1-1).toNat=m by omega,hm,i.eq hx q]at this;exact avi this
  have out:(k:Int)+1∉aY c x:=λq=>by
   rw[get]at h;by_cases e:(k:Int)+1=x
   .rw[awh (λz=>((mem _).mp z.1).2 e),awg ⟨e,(auZ.mp h').1⟩]at h;exact np (.inr (avi h).symm)
   .rw[awg ⟨(mem _).mpr ⟨q,e⟩,(auZ.mp h').1⟩]at h;have e2:=(avi h).symm;exact np (.inl ⟨e2,λz=>by rw[z]at hk;cases hk⟩)
  have outj:(j:Int)+1∉aY c x:=λq=>out (key j hj q ▸ hk);have o1:¬((j:Int)+1∈uY c x/\j<c.ci.length):=λz=>outj ((mem _).mp z.1).1;have o2:¬((j:Int)+1=x/\j<c.ci.length):=λz=>outj (by rw[z.1];exact i.self hx);rw[get,awh o1,awh o2];exact hj
def Good(held:List Row3)(s:Sd):Prop:=cY s.ear=true/\(∀e,s.due=some e->cY e=true)/\(s.al=true->∃m,(s.o,s.g,m)∈held)
structure Vh(m:Nat)(c:aD):Prop where
 g:∀b∈c.bs,Good c.held b.sd
 en:∀b∈c.bs,b.en.length<=m
def Inv.YW{n s:Nat}{c:aD}(I:Inv n s c):Vh (2*n) c:=⟨λb hb=>⟨I.ear b hb,I.due b hb,I.rt b hb⟩,I.en⟩
def abe{c:aD}{i:Nat}{e:En}{b:cW}(h:b∈(iG c i e).bs):b∈c.bs\/∃b0,c.bs[i]?=some b0/\b=uD b0 e:=by
 let⟨j,hj⟩:=List.mem_iff_getElem?.mp h
 rw[Ax]at hj;split at hj
 .next z=>
  subst z;let⟨b0,h3,h4⟩:=avL.mp hj
  exact .inr ⟨b0,h3,h4.symm⟩
 .exact .inl (au4 hj)
def Vh.one{m:Nat}{c:aD}(B:Vh m c){i:Nat}{e:En}(h:∀b,c.bs[i]?=some b->Good c.held (go b.sd e)):Vh (m+1) (iG c i e):=by
 refine⟨λb hb=>?_,λb hb=>?_⟩
 .rcases abe hb with h1|⟨b0,h1,rfl⟩
  .exact B.g b h1
  .exact h b0 h1
 .rcases abe hb with h1|⟨b0,h1,rfl⟩
  .have:=B.en b h1;omega
  .have:=B.en b0 (au4 h1);simp[uD];omega
def Vh.many{m:Nat}{c:aD}(B:Vh m c){p:cW->Bool}{e:En}(h:∀b∈c.bs,p b=true->Good c.held (go b.sd e)):Vh (m+1) (qu p e c):=by
 refine⟨λb hb=>?_,λb hb=>?_⟩
 .let⟨b0,h1,rfl⟩:=au2.mp hb
  cases hp:p b0 with
  |true=>
   rw[awg rfl];exact h b0 h1 hp
  |false=>
   rw[awh (by simp)];exact B.g b0 h1
 .let⟨b0,h1,rfl⟩:=au2.mp hb
  have:=B.en b0 h1;cases hp:p b0<;>simp[uD]<;>omega
def Good.mono{held held':List Row3}{s:Sd}(g:Good held s)(h:∀r∈held,r∈held'):Good held' s:=⟨g.1,g.2.1,λz=>by
 let⟨m,hm⟩:=g.2.2 z
 exact⟨m,h _ hm⟩⟩
def Inv.of{n s n' s':Nat}{c c':aD}(I:Inv n s c)(hn:n<=n')(gr:dB c')(hal:c'.al.length<=n')(ec:c'.count=c.count)(eo:c'.own=c.own)(hd:c'.held.Nodup)(hL:c'.held.length+c'.bs.length<=s')(hE:∀r∈c'.held,r.1∈c'.own/\Vg c' r.2.1/\cY r.2.2=true)(B:Vh (2*n') c'):Inv n' s' c':=
 ⟨gr,hal,by have:=I.cnt;rw[ec];omega,by rw[ec,eo];exact I.own,by rw[eo];exact I.Uj,by have:=I.ownL;rw[eo];omega,hd,hL,hE,λb hb=>(B.g b hb).1,λb hb=>(B.g b hb).2.1,B.en,λb hb=>(B.g b hb).2.2⟩
def afd{x:ListInt}{p:Nat}(h:cY x=true)(h9:¬9<=x.getD p 0):cY (Ag x p)=true:=by
 unfold cY at *;simp![auU,awc,avl]at *;refine⟨by rw[aeD];exact h.1,λd hd=>?_⟩;unfold Ag at hd;let⟨i,hi,rfl⟩:=List.mem_mapIdx.mp hd
 have:=h.2 _ (avE hi);split
 .next e=>
  subst e;have:x.getD i 0=x[i]:=by simp[hi]
  omega
 .exact this
theorem UG{r:Row3}:∀(l acc:List Row3),r∈l.foldl Jm acc↔r∈acc\/r∈l
 |[],acc=>by simp
 |x::l,acc=>by
  rw[avP,UG l];unfold Jm;split
  .next h=>
   constructor
   .rintro(z|z)
    .exact .inl z
    .exact .inr (auY _ z)
   .rintro(z|z)
    .exact .inl z
    .rcases au7.mp z with rfl|z
     .exact .inl h
     .exact .inr z
  .simp[or_assoc]
theorem Vf:∀(l acc:List Row3),acc.Nodup->(l.foldl Jm acc).Nodup
 |[],acc,h=>h
 |x::l,acc,h=>by
  rw[avP];refine Vf l _ ?_;unfold Jm;split
  .exact h
  .next z=>
   rw[avI];exact⟨h,by simp,λa ha b hb e=>z (by rw[au0.mp hb]at e;exact e ▸ ha)⟩
theorem aaD:∀(l acc:List Row3),(l.foldl Jm acc).length<=acc.length+l.length
 |[],acc=>by simp
 |x::l,acc=>by
  rw[avP];refine ave (aaD l _) ?_;unfold Jm
  split<;>simp<;>omega
def cost:aW->Nat
 |.enrol ..=>1
 |.bring ..=>1
 |.bear ..=>1
 |.heir ..=>1
 |_=>0
def Rj{o room:Int}{e:ListInt}{R:List Rw}{x:Res}{d:Dat}{c':aD}(h:Dz o e R room x=.ok d c'):x=.ok d c':=by
 unfold Dz at h;left
 .exact h
 .cases h
def Bj{c:aD}{o:Int}{x:Res}{d:Dat}{c':aD}(h:vO c o x=.ok d c'):o∈c.own/\x=.ok d c':=by
 unfold vO at h;left
 .next z=>exact⟨z,h⟩
 .cases h
def Dd{c:aD}{g:Int}{x:Res}{d:Dat}{c':aD}(h:Ad c g x=.ok d c'):Vg c g/\x=.ok d c':=by
 unfold Ad at h;left
 .next z=>exact⟨z,h⟩
 .cases h
def aea{e:ListInt}{x:Res}{d:Dat}{c':aD}(h:Qa e x=.ok d c'):cY e=true/\x=.ok d c':=by
 unfold Qa at h;left
 .next z=>exact⟨z,h⟩
 .cases h
def CQ{c:aD}{o g:Int}{x:Res}{d:Dat}{c':aD}(h:qd c o g x=.ok d c'):bF c o g≠[]/\x=.ok d c':=by
 unfold qd at h;left
 .cases h
 .next z=>exact⟨z,h⟩
def Rq{c:aD}{k:Int}{f:cW->Res}{d:Dat}{c':aD}(h:zW c k f=.ok d c'):∃b,bk c k=some b/\b.sd.al=true/\f b=.ok d c':=by
 unfold zW at h;left
 .cases h
 .next b hb=>
  left
  .next z=>exact⟨b,hb,z,h⟩
  .cases h
def S9{c:aD}{k:Int}{f:cW->ListInt->Res}{d:Dat}{c':aD}(h:markB c k f=.ok d c'):∃b e,bk c k=some b/\b.sd.al=true/\b.sd.due=some e/\f b e=.ok d c':=by
 let⟨b,h1,h2,h3⟩:=Rq h
 split at h3
 .cases h3
 .next e he=>exact⟨b,e,h1,h2,he,h3⟩
def zE{p:Prop}[Decidable p]{x:eX}{y:Res}{d:Dat}{c':aD}(h:(if p then .no x else y)=Res.ok d c'):¬p/\y=.ok d c':=by
 left
 .cases h
 .next z=>exact⟨z,h⟩
def Yn{p:Prop}[Decidable p]{x:eX}{y:Res}{d:Dat}{c':aD}(h:(if p then y else .no x)=Res.ok d c'):p/\y=.ok d c':=by
 left
 .next z=>exact⟨z,h⟩
 .cases h
def uE{c:aD}{k:Int}{b:cW}(h:bk c k=some b):c.bs[(k-1).toNat]?=some b/\1<=k/\k<=c.bs.length:=by
 unfold bk at h;left
 .next z=>exact⟨h,z⟩
 .cases h
def Vz(c:aD)(k o g:Int):(BL c k o g).bs.length=c.bs.length:=by simp[BL,qu]
def Fp(c:aD)(i:Nat)(e:En):(iG c i e).bs.length=c.bs.length:=by simp[iG]
def acD{n s:Nat}{c c':aD}{d:aW}{r:Dat}(I:Inv n s c)(hn:c.al.length<=199)(h:cJ c d=.ok r c'):Inv (n+1) (s+cost d) c':=by
 have L0:=I.hL;have A0:=I.al;have C0:=I.cnt;have O0:=I.ownL;have up:Vh (2*(n+1)) c:=⟨I.YW.g,λb hb=>by have:=I.en b hb;omega⟩;cases d with
 |owner=>
  cases h;refine⟨I.gr.same rfl rfl,by show c.al.length<=_;omega,⟨by show 0<=c.count+1;omega,by show c.count+1<=((n+1:Nat):Int);omega⟩,λo ho=>?_,?_,by simp;omega,I.held,by simp[cost];omega,λr hr=>?_,I.ear,I.due,up.en,I.rt⟩
  .show 1<=o/\o<=c.count+1;rcases au8.mp ho with ho|ho
   .have:=I.own o ho;omega
   .rw[au0.mp ho];omega
  .rw[avI];refine⟨I.Uj,by simp,λa ha b hb e=>?_⟩;rw[au0.mp hb]at e;have:=I.own a ha;omega
  .let⟨h1,h2,h3⟩:=I.hE r hr
   exact⟨avA _ h1,h2,h3⟩
 |ground x=>
  let⟨hx,h⟩:=Yn h
  cases h;refine I.of #[] (I.gr.add #[] hx) (by simp;omega) rfl rfl I.held (by simp[cost];omega) (λr hr=>?_) ⟨up.g,up.en⟩;let⟨h1,h2,h3⟩:=I.hE r hr
  refine⟨h1,?_,h3⟩;show 1<=_/\_<=((c.al++[x]).length:Int);rw[avz];have:=h2.2;exact⟨h2.1,#[]⟩
 |enrol o g m=>
  let⟨h1,h⟩:=Bj h
  let⟨h2,h⟩:=Dd h
  let⟨h3,h⟩:=aea h
  let⟨h4,h⟩:=zE h
  let⟨h5,h⟩:=zE h
  have h:=Rj h;cases h;refine I.of #[] (I.gr.same rfl rfl) (by show c.al.length<=_;omega) rfl rfl ?_ (by simp[cost];omega) (λr hr=>?_) ⟨λb hb=>(up.g b hb).mono λr hr=>avA _ hr,up.en⟩
  .rw[avI];refine⟨I.held,by simp,λa ha b hb e=>?_⟩;rw[au0.mp hb]at e;exact h5 (Ht.mpr (e ▸ ha))
  .rcases au8.mp hr with hr|hr
   .exact I.hE r hr
   .rw[au0.mp hr];exact⟨h1,h2,h3⟩
 |leave o g=>
  let⟨h1,h⟩:=Bj h
  let⟨h2,h⟩:=Dd h
  let⟨h3,h⟩:=CQ h
  let⟨h4,h⟩:=zE h
  cases h;have sub:∀r∈dropped c o g,r∈c.held:=λr hr=>(avj.mp hr).1;have ln:(dropped c o g).length<=c.held.length:=au6 _ _;refine I.of #[] (I.gr.same rfl rfl) (by show c.al.length<=_;omega) rfl rfl (I.held.filter _) (by simp[cost];omega) (λr hr=>I.hE r (sub r hr)) ⟨λb hb=>⟨(up.g b hb).1,(up.g b hb).2.1,λhal=>?_⟩,up.en⟩;let⟨m,hm⟩:=(up.g b hb).2.2 hal
  refine⟨m,avj.mpr ⟨hm,?_⟩⟩;simp![avb,Bool.and_eq_false_iff,beq_eq_false_iff_ne];by_cases e:b.sd.o=o/\b.sd.g=g
  .exfalso;refine h4 (List.any_eq_true.mpr ⟨b,hb,?_⟩);simp[aaq,hal,e.1,e.2]
  .by_cases e1:b.sd.o=o
   .exact .inr λz=>e ⟨e1,z⟩
   .exact .inl e1
 |bring o g e=>
  let⟨h1,h⟩:=Bj h
  let⟨h2,h⟩:=Dd h
  let⟨h3,h⟩:=aea h
  let⟨h4,h⟩:=CQ h
  cases h;refine I.of #[] (I.gr.same rfl rfl) (by show c.al.length<=_;omega) rfl rfl I.held (by simp[cost];omega) I.hE ⟨λb hb=>?_,λb hb=>?_⟩
  .rcases au8.mp hb with hb|hb
   .exact up.g b hb
   .rw[au0.mp hb];exact⟨h3,λe z=>(by cases z),λ_=>Az.mp h4⟩
  .rcases au8.mp hb with hb|hb
   .exact up.en b hb
   .rw[au0.mp hb];simp[Jj]
 |bear k=>
  let⟨b0,e0,h1,h2,h3,h⟩:=S9 h
  cases h;refine I.of #[] (I.gr.same rfl rfl) (by show c.al.length<=_;omega) rfl rfl I.held (by simp[cost];omega) I.hE ⟨λb hb=>?_,λb hb=>?_⟩
  .rcases au8.mp hb with hb|hb
   .exact up.g b hb
   .rw[au0.mp hb];exact⟨(by decide:cY [0,0,0,0,0,0]=true),λe z=>(by cases z),λ_=>(up.g b0 (au4 (uE h1).1)).2.2 h2⟩
  .rcases au8.mp hb with hb|hb
   .exact up.en b hb
   .rw[au0.mp hb];simp[Jj]
 |cut k=>
  let⟨b0,h1,h2,h⟩:=Rq h
  have h:=Rj h;cases h;have hm:=au4 (uE h1).1;let⟨r,q4,q5⟩:=I.mk1 (I.alive hm h2).1
  have je:=Ho (I.ear b0 hm) q5;generalize lB b0.sd.ear (firstM c b0.sd.o b0.sd.g)=e at je |-
  have B:=I.YW.one (i:=(k-1).toNat) (e:=.cut e) λb hb=>by
   rw[(uE h1).1]at hb;cases hb;exact⟨je,λe z=>(by cases z;exact je),λ_=>I.rt b0 hm h2⟩
  exact I.of #[] (I.gr.same rfl rfl) (by show c.al.length<=_;omega) rfl rfl I.held (by rw[Fp];simp[cost,iG];omega) I.hE ⟨B.g,λb hb=>by have:=B.en b hb;omega⟩
 |tear k p=>
  let⟨b0,h1,h2,h⟩:=Rq h
  let⟨h3,h⟩:=Yn h
  let⟨h4,h⟩:=zE h
  cases h;have hm:=au4 (uE h1).1;have B:=I.YW.one (i:=(k-1).toNat) (e:=.torn p.toNat) λb hb=>by
   rw[(uE h1).1]at hb;cases hb;exact⟨afd (I.ear b0 hm) h4,I.due b0 hm,I.rt b0 hm⟩
  exact I.of #[] (I.gr.same rfl rfl) (by show c.al.length<=_;omega) rfl rfl I.held (by rw[Fp];simp[cost,iG];omega) I.hE ⟨B.g,λb hb=>by have:=B.en b hb;omega⟩
 |die k=>
  let⟨b0,h1,h2,h⟩:=Rq h
  cases h;have hm:=au4 (uE h1).1;have B:=I.YW.one (i:=(k-1).toNat) (e:=.died) λb hb=>by
   rw[(uE h1).1]at hb;cases hb;exact⟨I.ear b0 hm,I.due b0 hm,λz=>by cases z⟩
  exact I.of #[] (I.gr.same rfl rfl) (by show c.al.length<=_;omega) rfl rfl I.held (by rw[Fp];simp[cost,iG];omega) I.hE ⟨B.g,λb hb=>by have:=B.en b hb;omega⟩
 |sell k o=>
  let⟨b0,e0,h1,h2,h3,h⟩:=S9 h
  let⟨h4,h⟩:=Bj h
  let⟨h5,h⟩:=zE h
  let⟨h6,h⟩:=CQ h
  have h:=Rj h;cases h;have hm:=au4 (uE h1).1;let⟨r,q4,q5⟩:=I.mk1 h6
  have je:=Ho (I.ear b0 hm) q5;generalize lB b0.sd.ear (firstM c o b0.sd.g)=e at je |-
  have B:=I.YW.one (i:=(k-1).toNat) (e:=.sold o e) λb hb=>by
   rw[(uE h1).1]at hb;cases hb;exact⟨je,λe z=>(by cases z;exact je),λ_=>Az.mp h6⟩
  have B2:=B.many (p:=λx=>vf k x&&x.sd.al) (e:=.followed o b0.sd.g) λb hb _=>⟨(B.g b hb).1,(B.g b hb).2.1,λ_=>Az.mp h6⟩;exact I.of #[] (I.gr.same rfl rfl) (by show c.al.length<=_;omega) rfl rfl I.held (by rw[Vz,Fp];simp[cost,iG,BL,qu];omega) I.hE ⟨B2.g,λb hb=>by have:=B2.en b hb;omega⟩
 |move k g=>
  let⟨b0,e0,h1,h2,h3,h⟩:=S9 h
  let⟨h4,h⟩:=Dd h
  let⟨h5,h⟩:=zE h
  let⟨h6,h⟩:=CQ h
  have h:=Rj h;cases h;have hm:=au4 (uE h1).1;have B:=I.YW.one (i:=(k-1).toNat) (e:=.moved g) λb hb=>by
   rw[(uE h1).1]at hb;cases hb;exact⟨I.ear b0 hm,I.due b0 hm,λ_=>Az.mp h6⟩
  have B2:=B.many (p:=λx=>vf k x&&x.sd.al) (e:=.followed b0.sd.o g) λb hb _=>⟨(B.g b hb).1,(B.g b hb).2.1,λ_=>Az.mp h6⟩;exact I.of #[] (I.gr.same rfl rfl) (by show c.al.length<=_;omega) rfl rfl I.held (by rw[Vz,Fp];simp[cost,iG,BL,qu];omega) I.hE ⟨B2.g,λb hb=>by have:=B2.en b hb;omega⟩
 |wJ x y=>
  let⟨h1,h⟩:=Dd h
  let⟨h2,h⟩:=Dd h
  let⟨h3,h⟩:=zE h
  left
  .cases h
  .cases h;exact I.of #[] (I.gr.wJ h2 h1 h3) (by show c.al.length<=_;omega) rfl rfl I.held (by show c.held.length+c.bs.length<=_;omega) I.hE ⟨up.g,up.en⟩
 |part x=>
  let⟨h1,h⟩:=Dd h
  let⟨h3,h⟩:=zE h
  cases h;exact I.of #[] (I.gr.part h1) (by show c.al.length<=_;omega) rfl rfl I.held (by show c.held.length+c.bs.length<=_;omega) I.hE ⟨up.g,up.en⟩
 |pass e h'=>
  let⟨h1,h⟩:=Bj h
  let⟨h2,h⟩:=Bj h
  let⟨h3,h⟩:=zE h
  cases h;have hin:∀r∈c.held,Eu e h' r∈handed c e h':=λr hr=>(UG _ _).mpr (.inr (au2.mpr ⟨r,hr,rfl⟩));have hout:∀r∈handed c e h',∃r0∈c.held,Eu e h' r0=r:=λr hr=>by
   rcases(UG _ _).mp hr with z|z
   .cases z
   .let⟨r0,z1,z2⟩:=au2.mp z
    exact⟨r0,z1,z2⟩
  have hl:(handed c e h').length<=c.held.length:=by have:=aaD (c.held.map (Eu e h')) [];simpa [handed] using this
  have ow:∀o,o∈c.own.filter (λo=>!(o==e))↔o∈c.own/\o≠e:=λo=>by
   rw[avj];simp
  have g:∀b∈(qu (λb=>(b.sd.o==e)&&b.sd.al) (.passed h') c).bs,Good (handed c e h') b.sd:=λb hb=>by
   let⟨b0,hb0,rfl⟩:=au2.mp hb
   have G:=up.g b0 hb0;cases hp:((b0.sd.o==e)&&b0.sd.al) with
   |true=>
    simp![hp,if_true];refine⟨G.1,G.2.1,λhal=>?_⟩;let⟨m,hm⟩:=G.2.2 hal
    have:=hin _ hm;simp at hp;rw[hp.1]at this;exact⟨m,by simpa [Eu,uD,go] using this⟩
   |false=>
    simp![hp];refine⟨G.1,G.2.1,λhal=>?_⟩;let⟨m,hm⟩:=G.2.2 hal
    have:=hin _ hm;have hal:b0.sd.al=true:=hal;rw[hal]at hp;simp at hp;exact⟨m,by simpa [Eu,hp] using this⟩
  have en:∀b∈(qu (λb=>(b.sd.o==e)&&b.sd.al) (.passed h') c).bs,b.en.length<=2*(n+1):=λb hb=>by
   let⟨b0,hb0,rfl⟩:=au2.mp hb
   have:=I.en b0 hb0
   dsimp only
   split
   .simp[uD];omega
   .omega
  refine⟨I.gr.same rfl rfl,by show c.al.length<=_;omega,⟨C0.1,by show c.count<=_;omega⟩,λo ho=>I.own o ((ow o).mp ho).1,I.Uj.filter _,?_,Vf _ _ (by simp),?_,λr hr=>?_,λb hb=>(g b hb).1,λb hb=>(g b hb).2.1,en,λb hb=>(g b hb).2.2⟩
  .show(c.own.filter _).length<=_
   have:=au6 (λo=>!(o==e)) c.own;omega
  .show(handed c e h').length+(qu _ _ c).bs.length<=_
   simp[qu];omega
  .let⟨r0,z1,rfl⟩:=hout r hr
   let⟨q1,q2,q3⟩:=I.hE r0 z1
   refine⟨(ow _).mpr ?_,q2,q3⟩;unfold Eu;by_cases z:r0.1=e
   .simp![z,if_true];exact⟨h2,λq=>h3 q.symm⟩
   .simp![z,if_false];exact⟨q1,z⟩
 |heir e g x=>
  let⟨h1,h⟩:=Bj h
  let⟨h2,h⟩:=Dd h
  let⟨h3,h⟩:=Yn h
  let⟨h4,h⟩:=CQ h
  left
  .next mk hmk=>
   cases h;let⟨r,q4,q5⟩:=I.mk1 h4
   have hme:cY mk=true:=Zz q5 ⟨#[],h3.2⟩ (avj.mp (List.mem_of_find?_eq_some hmk)).1;refine⟨I.gr.same rfl rfl,by show c.al.length<=_;omega,⟨by show 0<=c.count+1;omega,by show c.count+1<=((n+1:Nat):Int);omega⟩,λo ho=>?_,?_,by simp;omega,?_,by simp[cost];omega,λr hr=>?_,I.ear,I.due,up.en,λb hb hal=>?_⟩
   .show 1<=o/\o<=c.count+1;rcases au8.mp ho with ho|ho
    .have:=I.own o ho;omega
    .rw[au0.mp ho];omega
   .rw[avI];refine⟨I.Uj,by simp,λa ha b hb e=>?_⟩;rw[au0.mp hb]at e;have:=I.own a ha;omega
   .rw[avI];refine⟨I.held,by simp,λa ha b hb e=>?_⟩;rw[au0.mp hb]at e;have:=I.own _ (I.hE a ha).1;rw[e]at this;simp at this;omega
   .rcases au8.mp hr with hr|hr
    .let⟨z1,z2,z3⟩:=I.hE r hr
     exact⟨avA _ z1,z2,z3⟩
    .rw[au0.mp hr];exact⟨avC _ (by simp),h2,hme⟩
   .let⟨m,hm⟩:=I.rt b hb hal
    exact⟨m,avA _ hm⟩
  .cases h
def SQ{n s:Nat}{c c':aD}{d:aW}{r:Dat}(I:Inv n s c)(hn:n<=199)(h:cJ c d=.ok r c'):Inv (n+1) (s+cost d) c':=acD I (ave I.al hn) h
def nB(x:Int):Bool:=decide (0<=x)&&decide (x<=999999999)
def plB(x:Int):Bool:=decide (0<=x)&&decide (x<=5)
def o7(M:Mo)(x:Int):jk M [.str "number",.int x]=.ok (.bool (nB x)):=by by_cases h:0<=x<;>simp[jk,xR,qj,jy,Bs,DQ,h,nB]
def jB(M:Mo)(x:Int):jk M [.str "place",.int x]=.ok (.bool (plB x)):=by by_cases h:0<=x<;>simp[jk,xR,qj,jy,Bs,DQ,h,plB]
def afE(M:Mo)(x:ListInt)(h:x.length<=1000):jk M [.str "ear",aH x]=.ok (.bool (cY x)):=by have:=ZM M x h;simp[jk,xR,Bs,DQ,this]
def jT:aW->Bool
 |.owner=>true
 |.ground x=>nB x
 |.enrol o g m=>nB o&&nB g&&cY m
 |.leave o g=>nB o&&nB g
 |.bring o g m=>nB o&&nB g&&cY m
 |.bear k=>nB k
 |.cut k=>nB k
 |.tear k p=>nB k&&plB p
 |.sell k o=>nB k&&nB o
 |.move k g=>nB k&&nB g
 |.die k=>nB k
 |.wJ x y=>nB x&&nB y
 |.part x=>nB x
 |.pass e h=>nB e&&nB h
 |.heir e g x=>nB e&&nB g&&nB x
def wL:aW->Prop
 |.enrol _ _ m=>m.length<=1000
 |.bring _ _ m=>m.length<=1000
 |_=>True
def jA(M:Mo)(w:Str)(T:List (Str×Dat×Bool))(hk:(Cq BP).lookup w=some (.tuple (T.map λt=>.str t.1)))(hl:T.length<=10)(hp:∀t∈T,jk M [.str t.1,t.2.1]=.ok (.bool t.2.2)):Kl M [.tuple (.str w::T.map λt=>t.2.1)]=.ok (.bool (T.all λt=>t.2.2)):=by
 have hs:Rf.cutD (PyData.str w::T.map λt=>t.2.1) (some 1) none=T.map λt=>t.2.1:=aaW _ 1;have hz:zK (T.map λt=>PyData.str t.1) (T.map λt=>t.2.1)=T.map λt=>.tuple [.str t.1,t.2.1]:=by unfold zK;rw[List.zipWith_map_left,List.zipWith_map_right,List.zipWith_self]
 have key:=dw (tg:=aX [3,4]) (te:=aN jk #[(3:),(4:)]) (M:=M) (Z:=[#[.tuple (.str w::T.map λt=>t.2.1)],#[.tuple (T.map λt=>.str t.1)],#[.tuple (T.map λt=>t.2.1)],none,none]) (λ(t:Str×Dat×Bool)=>PyData.tuple [.str t.1,t.2.1]) (λt=>.bool t.2.2) T λt ht=>⟨[#[.tuple (.str w::T.map λt=>t.2.1)],#[.tuple (T.map λt=>.str t.1)],#[.tuple (T.map λt=>t.2.1)],#[.str t.1],#[t.2.1]],by simp,by simp[hp t ht]⟩;have ha:FW (.list (T.map λt=>PyData.bool t.2.2))=.ok (.bool (T.all λt=>t.2.2)):=by
  have e:(T.map λt=>PyData.bool t.2.2)=(T.map λt=>t.2.2).map PyData.bool:=by rw[avh];rfl
  rw[e]
  show(match qY _ with
   |some bs=>Out.ok (PyData.bool (bs.all id))
   |none=>.bad)=_
  rw[yR];simp[List.all_map,avk]
 have hl2:T.length<=50000:=#[];have hne:¬(T.length:Int)+1=0:=#[];simp[Kl,aaI,hk,hs,hz,key,hl2,ha,hne]
def adz(M:Mo)(d:aW)(hd:wL d):Kl M [d.dat]=.ok (.bool (jT d)):=by
 cases d with
 |owner=>simpa [jT,aW.dat,Bool.and_assoc] using jA M "owner" [] (by rfl) (by simp) (by simp[o7,jB])
 |ground x=>simpa [jT,aW.dat,Bool.and_assoc] using jA M "ground" [("number",.int x,nB x)] (by rfl) (by simp) (by simp[o7,jB])
 |enrol o g m=>simpa [jT,aW.dat,Bool.and_assoc] using jA M "enrol" [("number",.int o,nB o),("number",.int g,nB g),("ear",aH m,cY m)] (by rfl) (by simp) (by simp[o7,jB,afE M m hd])
 |leave o g=>simpa [jT,aW.dat,Bool.and_assoc] using jA M "leave" [("number",.int o,nB o),("number",.int g,nB g)] (by rfl) (by simp) (by simp[o7,jB])
 |bring o g m=>simpa [jT,aW.dat,Bool.and_assoc] using jA M "bring" [("number",.int o,nB o),("number",.int g,nB g),("ear",aH m,cY m)] (by rfl) (by simp) (by simp[o7,jB,afE M m hd])
 |bear k=>simpa [jT,aW.dat,Bool.and_assoc] using jA M "bear" [("number",.int k,nB k)] (by rfl) (by simp) (by simp[o7,jB])
 |cut k=>simpa [jT,aW.dat,Bool.and_assoc] using jA M "cut" [("number",.int k,nB k)] (by rfl) (by simp) (by simp[o7,jB])
 |tear k p=>simpa [jT,aW.dat,Bool.and_assoc] using jA M "tear" [("number",.int k,nB k),("place",.int p,plB p)] (by rfl) (by simp) (by simp[o7,jB])
 |sell k o=>simpa [jT,aW.dat,Bool.and_assoc] using jA M "sell" [("number",.int k,nB k),("number",.int o,nB o)] (by rfl) (by simp) (by simp[o7,jB])
 |move k g=>simpa [jT,aW.dat,Bool.and_assoc] using jA M "move" [("number",.int k,nB k),("number",.int g,nB g)] (by rfl) (by simp) (by simp[o7,jB])
 |die k=>simpa [jT,aW.dat,Bool.and_assoc] using jA M "die" [("number",.int k,nB k)] (by rfl) (by simp) (by simp[o7,jB])
 |wJ x y=>simpa [jT,aW.dat,Bool.and_assoc] using jA M "unite" [("number",.int x,nB x),("number",.int y,nB y)] (by rfl) (by simp) (by simp[o7,jB])
 |part x=>simpa [jT,aW.dat,Bool.and_assoc] using jA M "part" [("number",.int x,nB x)] (by rfl) (by simp) (by simp[o7,jB])
 |pass e h=>simpa [jT,aW.dat,Bool.and_assoc] using jA M "pass" [("number",.int e,nB e),("number",.int h,nB h)] (by rfl) (by simp) (by simp[o7,jB])
 |heir e g x=>simpa [jT,aW.dat,Bool.and_assoc] using jA M "heir" [("number",.int e,nB e),("number",.int g,nB g),("number",.int x,nB x)] (by rfl) (by simp) (by simp[o7,jB])
def cU{M:Mo}{L:Lay}{o o':aZ Dat}{r:Res}(h:Sp M L o r)(e:o'=o):Sp M L o' r:=e ▸ h
section
variable{M:Mo}{L:Lay}{c:aD}(a:At M L c){n s:Nat}(I:Inv n s c)(hs:s<=76)(hn:n<=199)
include a I hs hn
theorem aap(d:aW)(hd:wL d)(hf:jT d=true):Sp M L (cA M [ob L.c,d.dat]) (cJ c d):=by
 have hc:=a.hc;have h0:=adz M d hd;rw[hf]at h0;cases d with
 |owner=>
  simp![aW.dat]at h0 |-
  refine cU (adV a I hn) ?_;simp[cA,cM,h0,hc,aA,dH];cases gU M _<;>rfl
 |ground x=>
  simp![aW.dat]at h0 |-
  refine cU (ach a I hn x) ?_;simp[cA,cM,h0,hc,aA,iz];cases gG M _<;>rfl
 |enrol o g m=>
  simp![aW.dat]at h0 |-
  refine cU (ac2 a I hs o g m hd) ?_;simp[cA,cM,h0,hc,aA,lK];cases dU M _<;>rfl
 |leave o g=>
  simp![aW.dat]at h0 |-
  refine cU (aec a I hs o g) ?_;simp[cA,cM,h0,hc,aA,lG];cases fU M _<;>rfl
 |bring o g m=>
  simp![aW.dat]at h0 |-
  refine cU (ac8 a I hs o g m hd) ?_;simp[cA,cM,h0,hc,aA,lN];cases fX M _<;>rfl
 |bear k=>
  simp![aW.dat]at h0 |-
  refine cU (agT a I hs k) ?_;simp[cA,cM,h0,hc,aA,mW];cases iT M _<;>rfl
 |cut k=>
  simp![aW.dat]at h0 |-
  refine cU (ajv a I hs #[] k) ?_;simp[cA,cM,h0,hc,aA,oJ];cases jw M _<;>rfl
 |tear k p=>
  simp![aW.dat]at h0 |-
  refine cU (afr a I hs k p #[]) ?_;simp[cA,cM,h0,hc,aA,mU];cases fP M _<;>rfl
 |sell k o=>
  simp![aW.dat]at h0 |-
  refine cU (ag3 a I hs #[] k o) ?_;simp[cA,cM,h0,hc,aA,mV];cases dO M _<;>rfl
 |move k g=>
  simp![aW.dat]at h0 |-
  refine cU (agh a I hs #[] k g) ?_;simp[cA,cM,h0,hc,aA,mF];cases dN M _<;>rfl
 |die k=>
  simp![aW.dat]at h0 |-
  refine cU (ajp a I hs k #[]) ?_;simp[cA,cM,h0,hc,aA,oF];cases kZ M _<;>rfl
 |wJ x y=>
  simp![aW.dat]at h0 |-
  refine cU (ac9 a I hs #[] x y) ?_;simp[cA,cM,h0,hc,aA,yJ];cases eZ M _<;>rfl
 |part x=>
  simp![aW.dat]at h0 |-
  refine cU (agw a I hs #[] x) ?_;simp[cA,cM,h0,hc,aA,yU];cases iI M _<;>rfl
 |pass e h=>
  simp![aW.dat]at h0 |-
  refine cU (ahy a I hs #[] e h) ?_;simp[cA,cM,h0,hc,aA,jN];cases fH M _<;>rfl
 |heir e g x=>
  simp![aW.dat]at h0 |-
  refine cU (afM a I hs #[] e g x) ?_;simp[cA,cM,h0,hc,aA,jf];cases cG M _<;>rfl
end
def Td{c:aD}{d:aW}{x:eX}(h:cJ c d=.no x):oA.lookup x.cls=some true:=by cases d<;>simp![cJ,vO,Ad,Qa,qd,Dz,zW,markB,JX]at h<;>(repeat' left)<;>cases h<;>simp[oA]
def Uo:aW->Nat
 |.owner=>1
 |.heir ..=>1
 |_=>0
def VB:aW->Nat
 |.ground _=>1
 |_=>0
def Wx:aW->Nat
 |.bring ..=>1
 |.bear _=>1
 |_=>0
def SM{c c':aD}{d:aW}{r:Dat}(h:cJ c d=.ok r c'):c'.count=c.count+(Uo d:Int)/\c'.al.length=c.al.length+VB d/\c'.bs.length=c.bs.length+Wx d/\(iZ .none r=true->Uo d=0/\VB d=0/\Wx d=0):=by cases d<;>simp![cJ,vO,Ad,Qa,qd,Dz,zW,markB]at h<;>(repeat' left)<;>cases h<;>simp[Uo,VB,Wx,iZ,iG,BL,qu,lI]
def pF(c:aD)(d:aW):aD:=match cJ c d with
 |.ok _ c'=>c'
 |.no _=>c
def bY(c:aD):Dat:=.tuple [.int c.count,.int c.al.length,.int c.bs.length]
section
variable{M:Mo}{L:Lay}{c:aD}(a:At M L c){n s:Nat}(I:Inv n s c)(hs:s<=76)(hn:n<=199)
include I hn
omit hn in
theorem M7(d:aW)(hn:n<=199):Inv (n+1) (s+cost d) (pF c d):=by
 unfold pF;cases h:cJ c d with
 |ok r c'=>exact SQ I hn h
 |no x=>
  have h1:=I.hL;have h2:=I.al;exact I.of #[] I.gr (by show c.al.length<=_;omega) rfl rfl I.held (by show c.held.length+c.bs.length<=_;omega) I.hE ⟨I.YW.g,λb hb=>by have:=I.en b hb;omega⟩
include a hs
theorem adR(d:aW)(hd:wL d)(hf:jT d=true):∃M' bs,iY M [ob L.c,d.dat,bY c]=.ok (bY (pF c d)) M'/\At M' { L with bs:=bs } (pF c d):=by
 have hc:=a.hc;have h0:=aap a I hs hn d hd hf;unfold pF;cases e:cJ c d with
 |no x=>
  rw[e]at h0;have h0:_=_:=h0;have h1:=Td e;exact⟨M,L.bs,by simp[iY,yV,hc,aA,eO,h0,h1,iZ],a⟩
 |ok r c'=>
  rw[e]at h0;let⟨M',bs,h0,h2⟩:=h0
  let⟨q1,q2,q3,q4⟩:=SM e
  refine⟨M',bs,?_,h2⟩;have e1:(c'.al.length:Int)=c.al.length+(VB d:Int):=#[];have e2:(c'.bs.length:Int)=c.bs.length+(Wx d:Int):=#[];cases hr:iZ .none r with
  |true=>
   let⟨z1,z2,z3⟩:=q4 hr
   simp[z1,z2,z3]at q1 e1 e2;simp[iY,yV,hc,aA,eO,h0,hr,bY,q1,e1,e2]
  |false=>
   clear q4 q2 q3 e hf hd;cases d<;>simp[Uo,VB,Wx]at q1 e1 e2<;>simp[iY,yV,hc,aA,eO,h0,hr,bY,q1,e1,e2]<;>simp[aW.dat]
end
def Rc(f:Int):Int:=if f=9 then -1 else if f=8 then 3 else if f=7 then 2 else if f=6 then 1 else if f=5 then 1 else 0
def Ri(d f:Int):Int:=T8 0 (if d+Rc f<9 then d+Rc f else 9)
def VJ(x f:ListInt):ListInt:=(x.zip f).map λp=>Ri p.1 p.2
def agt(M:Mo)(x0 x1:Option Cell)(acc:List Dat)(d f:Int)(x5:Option Cell)(hf:0<=f/\f<10)(hl:acc.length<1000):∃x5',Tw M [x0,x1,some (.mut acc),#[.int d],#[.int f],x5]=.next [x0,x1,some (.mut (acc++[.int (Ri d f)])),#[.int d],#[.int f],x5'] M:=by
 have hl2:acc.length<100000:=#[];have key:∀k:Nat,k<10->([0,0,0,0,0,1,1,2,3,-1]:ListInt)[k]?=some (Rc k):=#[()];obtain⟨k,rfl⟩:∃k:Nat,f=k:=⟨f.toNat,#[]⟩;have hk:=key k #[];have h2:atI (([0,0,0,0,0,1,1,2,3,-1]:ListInt).map PyData.int) (k:Int)=some (.int (Rc k)):=atI_nat (by rw[ava,hk];rfl);refine⟨#[.int (Rc k)],?_⟩;have h3:aV (aq 5) (gOf (aP #[#[0],#[0],#[0],#[0],#[0],#[1],#[1],#[2],#[3],dZ Tg #[1]])[(4)]!) M [x0,x1,some (.mut acc),#[.int d],#[.int k],x5]=.next [x0,x1,some (.mut acc),#[.int d],#[.int k],#[.int (Rc k)]] M:=by
  show(((match atI (([0,0,0,0,0,1,1,2,3,-1]:ListInt).map PyData.int) (k:Int) with
   |some d=>Out.ok d
   |none=>.bad).at M).then _ λd M'=>_)=_
  rw[h2];rfl
 show %[_|_] _ _=_;rw[aoe,h3];simp[hl2,Ri,T8]
theorem ZC(M:Mo)(x0 x1:Option Cell):∀(ps:List (Int×Int)) (acc:List Dat) (x3 x4 x5:Option Cell),(∀p∈ps,0<=p.2/\p.2<10)->acc.length+ps.length<=500->∃x3' x4' x5',eY (aX [3,4]) Tw (ps.map pD) M [x0,x1,some (.mut acc),x3,x4,x5]=.next [x0,x1,some (.mut (acc++ps.map λp=>.int (Ri p.1 p.2))),x3',x4',x5'] M
 |[],acc,x3,x4,x5,_,_=>⟨x3,x4,x5,by simp[eY]⟩
 |p::ps,acc,x3,x4,x5,h,hl=>by
  rw[au5]at hl;let⟨x5',e⟩:=agt M x0 x1 acc p.1 p.2 x5 (h p auX) #[]
  let⟨y3,y4,y5,ih⟩:=ZC M x0 x1 ps (acc++[.int (Ri p.1 p.2)]) #[.int p.1] #[.int p.2] x5' (λq hq=>h q (auY _ hq)) (by simp;omega)
  refine⟨y3,y4,y5,?_⟩;rw[List.map_cons,fG (Z1:=[x0,x1,some (.mut acc),#[.int p.1],#[.int p.2],x5]) (by simp[pD]) e,ih];simp
def akc(M:Mo)(x f:ListInt)(hx:x.length<=100)(hf:∀d∈f,0<=d/\d<10):Om M [aH x,lI f]=.ok (aH (VJ x f)):=by
 let⟨y3,y4,y5,e⟩:=ZC M #[aH x] #[lI f] (x.zip f) [] none none none (λp hp=>hf _ (List.of_mem_zip hp).2) (by simp;omega)
 simp[Om,ace,Fq,e,VJ]
def JT(f:ListInt)(m:Int)(x:ListInt):ListInt:=if m<4 then VJ x f else Cu f m
def afo(M:Mo)(x f:ListInt)(m:Int)(hx:x.length<=100)(hl:f.length<=1000)(hf:∀d∈f,0<=d/\d<10):yL M [lI f,.int m,aH x]=.ok (aH (JT f m x)):=by have h1:=akc M x f hx hf;have h2:=YB M f m hl;unfold JT;by_cases h:m<4<;>simp[yL,O5,h,h1,h2]
def afy{x f:ListInt}(hx:x.length=6)(hf:f.length=6):cY (VJ x f)=true:=by
 refine adb (by simp[VJ];omega) λd hd=>?_;let⟨p,hp,rfl⟩:=au2.mp hd
 unfold Ri T8
 split<;>split<;>omega
def afm{f x:ListInt}{m:Int}(hx:x.length=6)(hl:f.length=6)(hf:∀d∈f,0<=d/\d<10):cY (JT f m x)=true:=by
 unfold JT;split
 .exact afy hx hl
 .refine adb ?_ (ahZ hf);unfold Cu;split
  .simpa using hl
  .split
   .simpa using hl
   .exact hl
def mD(f many:Int)(sure:Bool):Int:=if sure then 1+f%(if many>1 then many else 1) else f%(many+2)
def acr(M:Mo)(f many:Int)(sure:Bool)(hm:0<=many):lu M [.int f,.int many,.bool sure]=.ok (.int (mD f many sure)):=by
 have h2:0<many+2:=#[];have h3:0<(if 1<many then many else 1):=by split<;>omega
 cases sure
 .simp[lu,aan,mD,h2]
 .simp[lu,aan,mD,h3]
def EY{f many:Int}{sure:Bool}(hf:0<=f/\f<=1000)(hm:0<=many):nB (mD f many sure)=true:=by
 unfold mD nB;have key:∀m:Int,0<m->0<=f%m/\f%m<=f:=λm h=>⟨Int.emod_nonneg _ #[],by
  have h1:=Int.mul_ediv_add_emod f m;have h2:=Int.mul_nonneg (by omega:0<=m) (Int.ediv_nonneg hf.1 (by omega:0<=m))
  omega⟩
 simp![auU,awc];cases sure
 .have:=key (many+2) #[];simp;omega
 .have:=key (if many>1 then many else 1) (by split<;>omega);simp![if_true];omega
abbrev dd(M:Mo)(w:Str)(one two:Int)(p base:ListInt)(n0 n1 n2:Int):Out Dat:=gJ M [.str w,.int one,.int two,lI p,.tuple [.int n0,.int n1,.int n2],aH base]
def fB(p:ListInt):Bool:=!(p.getD 6 0==9)
def Lk(p base:ListInt):ListInt:=JT (p.drop 8) (p.getD 7 0) base
def grT(f:Int):Int:=if f=9 then 8 else if f=8 then 7 else if f=7 then 6 else if f=6 then 5 else if f=5 then 1 else if f=4 then 0 else f
def JK(p base:ListInt):ListInt:=if p.getD 7 0<6 then[0,0,0,0,0,0] else Lk p base
structure Pts(p base:ListInt):Prop where
 len:p.length=14
 dig:∀d∈p,0<=d/\d<10
 base:base.length=6
def ao3{p:ListInt}(h:p.length=14):∃a b c d e f g i j k l m n o:Int,p=[a,b,c,d,e,f,g,i,j,k,l,m,n,o]:=by
 match p,h with
 |[a,b,c,d,e,f,g,i,j,k,l,m,n,o],_=>exact⟨a,b,c,d,e,f,g,i,j,k,l,m,n,o,rfl⟩
def Pts.mark{p base:ListInt}(P:Pts p base):cY (Lk p base)=true:=afm P.base (by rw[av7,P.len]) λd hd=>P.dig d (List.mem_of_mem_drop hd)
def Pts.bring{p base:ListInt}(P:Pts p base):cY (JK p base)=true:=by
 unfold JK;split
 .decide
 .exact P.mark
section
variable(M:Mo){p base:ListInt}(P:Pts p base)(one two n0 n1 n2:Int)(h0:0<=n0)(h1:0<=n1)(h2:0<=n2)
include P h0 h1 h2
theorem aaL :
  dd M "owner" one two p base n0 n1 n2=.ok (aW.dat (.owner))/\
  dd M "ground" one two p base n0 n1 n2=.ok (aW.dat (.ground (grT (p.getD 7 0)+4*(if fB p then 0 else 1))))/\
  dd M "enrol" one two p base n0 n1 n2=.ok (aW.dat (.enrol (mD one n0 (fB p)) (mD two n1 (fB p)) (Lk p base)))/\
  dd M "bring" one two p base n0 n1 n2=.ok (aW.dat (.bring (mD one n0 (fB p)) (mD two n1 (fB p)) (JK p base)))/\
  dd M "leave" one two p base n0 n1 n2=.ok (aW.dat (.leave (mD one n0 (fB p)) (mD two n1 (fB p))))/\
  dd M "heir" one two p base n0 n1 n2=.ok (aW.dat (.heir (mD one n0 (fB p)) (mD two n1 (fB p)) (p.getD 7 0%4)))/\
  dd M "pass" one two p base n0 n1 n2=.ok (aW.dat (.pass (mD one n0 (fB p)) (mD two n0 (fB p))))/\
  dd M "unite" one two p base n0 n1 n2=.ok (aW.dat (.wJ (mD one n1 (fB p)) (mD two n1 (fB p))))/\
  dd M "part" one two p base n0 n1 n2=.ok (aW.dat (.part (mD one n1 (fB p))))/\
  dd M "tear" one two p base n0 n1 n2=.ok (aW.dat (.tear (mD one n2 (fB p)) (p.getD 7 0%6)))/\
  dd M "sell" one two p base n0 n1 n2=.ok (aW.dat (.sell (mD one n2 (fB p)) (mD two n0 (fB p))))/\
  dd M "move" one two p base n0 n1 n2=.ok (aW.dat (.move (mD one n2 (fB p)) (mD two n1 (fB p))))/\
  dd M "bear" one two p base n0 n1 n2=.ok (aW.dat (.bear (mD one n2 (fB p))))/\
  dd M "cut" one two p base n0 n1 n2=.ok (aW.dat (.cut (mD one n2 (fB p))))/\
  dd M "die" one two p base n0 n1 n2=.ok (aW.dat (.die (mD one n2 (fB p)))):=by
 have hm:=afo M base (p.drop 8) (p.getD 7 0) (by rw[P.base];decide) (by rw[av7,P.len];decide) λd hd=>P.dig d (List.mem_of_mem_drop hd);have hr0:=λf=>acr M f n0 (fB p) h0;have hr1:=λf=>acr M f n1 (fB p) h1;have hr2:=λf=>acr M f n2 (fB p) h2;have hd:=P.dig;have hbr:JK p base=if p.getD 7 0<6 then[0,0,0,0,0,0] else Lk p base:=rfl
 have hmp:Lk p base=JT (p.drop 8) (p.getD 7 0) base:=rfl;have hsb:fB p=!(p.getD 6 0==9):=rfl;let⟨x0,x1,x2,x3,x4,x5,x6,x7,x8,x9,x10,x11,x12,x13,rfl⟩:=ao3 P.len
 generalize hp:[x0,x1,x2,x3,x4,x5,x6,x7,x8,x9,x10,x11,x12,x13]=p at *;have h6:p.getD 6 0=x6:=by rw[<-hp];rfl
 have h7:p.getD 7 0=x7:=by rw[<-hp];rfl
 have h8:p.drop 8=[x8,x9,x10,x11,x12,x13]:=by rw[<-hp];rfl
 have hx7:=hd x7 (by rw[<-hp];simp);rw[h7,h8]at hm hmp;rw[h7]at hbr;rw[h6]at hsb;simp![h7];generalize fB p=su at *;generalize Lk p base=mk at *;generalize JK p base=br at *;have c1:Rf.cutD (p.map PyData.int) (some 8) (some 14)=[PyData.int x8,.int x9,.int x10,.int x11,.int x12,.int x13]:=by rw[<-hp];rfl
 have c2:atI (p.map PyData.int) 7=some (.int x7):=by rw[<-hp];rfl
 have c3:atI (p.map PyData.int) 6=some (.int x6):=by rw[<-hp];rfl
 have hm:yL M [.list [PyData.int x8,.int x9,.int x10,.int x11,.int x12,.int x13],.int x7,aH base]=.ok (aH mk):=by rw[hmp];exact hm
 have key:∀k:Nat,k<10->([0,1,2,3,0,1,5,6,7,8]:ListInt)[k]?=some (grT k):=#[()];have hk:atI (([0,1,2,3,0,1,5,6,7,8]:ListInt).map PyData.int) x7=some (.int (grT x7)):=by obtain⟨k,rfl⟩:∃k:Nat,x7=k:=⟨x7.toNat,#[]⟩;exact atI_nat (by rw[ava,key k #[]];rfl)
 simp at hk;have hm4:∀z,decide (CMul 4 z)=true:=λz=>ajj #[()];clear hp hd P;refine⟨?_,?_,?_,?_,?_,?_,?_,?_,?_,?_,?_,?_,?_,?_,?_⟩
 .simp[dd,gJ,lE,c1,c2,c3,hm,<-hsb,hr0,hr1,hr2,aW.dat]
 .cases su<;>simp[dd,gJ,lE,c1,c2,c3,hm,<-hsb,hk,hm4,Rf.intD,aW.dat]
 .simp[dd,gJ,lE,c1,c2,c3,hm,<-hsb,hr0,hr1,hr2,aW.dat]
 .by_cases h76:x7<6
  .rw[awg h76]at hbr;simp[dd,gJ,lE,c1,c2,c3,hm,<-hsb,hr0,hr1,hr2,aW.dat,h76,hbr]
  .rw[awh h76]at hbr;simp[dd,gJ,lE,c1,c2,c3,hm,<-hsb,hr0,hr1,hr2,aW.dat,h76,hbr]
 .simp[dd,gJ,lE,c1,c2,c3,hm,<-hsb,hr0,hr1,hr2,aW.dat]
 .simp[dd,gJ,lE,c1,c2,c3,hm,<-hsb,hr0,hr1,hr2,aW.dat]
 .simp[dd,gJ,lE,c1,c2,c3,hm,<-hsb,hr0,hr1,hr2,aW.dat]
 .simp[dd,gJ,lE,c1,c2,c3,hm,<-hsb,hr0,hr1,hr2,aW.dat]
 .simp[dd,gJ,lE,c1,c2,c3,hm,<-hsb,hr0,hr1,hr2,aW.dat]
 .simp[dd,gJ,lE,c1,c2,c3,hm,<-hsb,hr0,hr1,hr2,aW.dat]
 .simp[dd,gJ,lE,c1,c2,c3,hm,<-hsb,hr0,hr1,hr2,aW.dat]
 .simp[dd,gJ,lE,c1,c2,c3,hm,<-hsb,hr0,hr1,hr2,aW.dat]
 .simp[dd,gJ,lE,c1,c2,c3,hm,<-hsb,hr0,hr1,hr2,aW.dat]
 .simp[dd,gJ,lE,c1,c2,c3,hm,<-hsb,hr0,hr1,hr2,aW.dat]
 .simp[dd,gJ,lE,c1,c2,c3,hm,<-hsb,hr0,hr1,hr2,aW.dat]
theorem Ur{w:Str}(hw:w∈(["owner","ground","enrol","bring","leave","heir","pass","unite","part","tear","sell","move","bear","cut","die"]:List Str))(ho:0<=one/\one<=1000)(ht:0<=two/\two<=1000):∃d:aW,gJ M [.str w,.int one,.int two,lI p,.tuple [.int n0,.int n1,.int n2],aH base]=.ok d.dat/\jT d=true/\wL d:=by
 have r10:=EY (f:=one) (sure:=fB p) ho h0;have r11:=EY (f:=one) (sure:=fB p) ho h1;have r12:=EY (f:=one) (sure:=fB p) ho h2;have r20:=EY (f:=two) (sure:=fB p) ht h0;have r21:=EY (f:=two) (sure:=fB p) ht h1;have r22:=EY (f:=two) (sure:=fB p) ht h2;have m1:=P.mark;have m2:=P.bring;have l1:(Lk p base).length<=1000:=by rw[gA m1];decide
 have l2:(JK p base).length<=1000:=by rw[gA m2];decide
 have h7:0<=p.getD 7 0/\p.getD 7 0<10:=P.dig _ (by
  have:=P.len;rw[List.getD_eq_getElem?_getD,auV #[]];exact avE _)
 have q4:nB (p.getD 7 0%4)=true:=by unfold nB;simp![auU,awc];omega
 have q6:plB (p.getD 7 0%6)=true:=by unfold plB;simp![auU,awc];omega
 have qg:nB (grT (p.getD 7 0)+4*(if fB p then 0 else 1))=true:=by
  unfold nB grT;simp![auU,awc]
  split<;>(repeat' split)<;>omega
 simp![au7,avm,or_false]at hw;let⟨d0,d1,d2,d3,d4,d5,d6,d7,d8,d9,d10,d11,d12,d13,d14⟩:=aaL M P one two n0 n1 n2 h0 h1 h2
 rcases hw with rfl|rfl|rfl|rfl|rfl|rfl|rfl|rfl|rfl|rfl|rfl|rfl|rfl|rfl|rfl
 all_goals first
  | exact⟨_,d1,qg,by first | trivial | assumption⟩
  | exact⟨_,by first | exact d0 | exact d2 | exact d3 | exact d4 | exact d5 | exact d6 | exact d7 | exact d8 | exact d9 | exact d10 | exact d11 | exact d12 | exact d13 | exact d14,by simp[jT,r10,r11,r12,r20,r21,r22,m1,m2,q4,q6,-List.getD_eq_getElem?_getD],by first | trivial | assumption⟩
end
abbrev words:List Str:=["owner","ground","enrol","bring","leave","heir","pass","unite","part","tear","sell","move","bear","cut","die"]
def Y8:List Str:=["tear","cut","bring","sell","move","enrol","bear","tear","cut","sell","move","unite","part","heir","pass","die","leave","ground","owner","enrol","tear","sell","bring","bear","cut"]
def adW(M:Mo)(f:Int):∃w∈words,vX M [.int f]=.ok (.str w):=by
 have h1:0<=f%25/\f%25<25:=#[];obtain⟨k,hk⟩:∃k:Nat,f%25=k:=⟨(f%25).toNat,#[]⟩;have hl:k<Y8.length:=by show k<25;omega
 have h2:atI (Y8.map PyData.str) (k:Int)=some (.str Y8[k]):=atI_nat (by rw[ava,auV hl];rfl);have h3:∀w∈Y8,w∈words:=by simp[Y8]
 refine⟨Y8[k],h3 _ (avE hl),?_⟩;generalize Y8[k]=z at h2;simp[Y8]at h2;simp[vX,Ox,hk,h2]
def zj(h:Int):List (Str×Int×Int):=if h%8=7 then[] else[("ground",0,0),("owner",0,0),("owner",0,0),("enrol",0,0),("enrol",1,0),("bring",0,0),("cut",0,0),("bring",1,0),("cut",1,0),("ground",0,0),("enrol",0,1)]
def Mw(r:Str×Int×Int):Dat:=.tuple [.str r.1,.int r.2.1,.int r.2.2]
def agY(M:Mo)(h:Int):xU M [.int h]=.ok (.list ((zj h).map Mw)):=by unfold zj;by_cases e:h%8=7<;>simp[xU,Jl,e,Mw]
def alb{h:Int}:∀r∈zj h,r.1∈words/\(0<=r.2.1/\r.2.1<=1000)/\0<=r.2.2/\r.2.2<=1000:=by
 unfold zj;split
 .simp
 .simp
inductive Rch:Nat->aD->Prop where
 |nil:Rch 0 ⟨0,[],[],[],[],[]⟩
 |step {n:Nat} {c:aD} (d:aW):Rch n c->jT d=true->Rch (n+1) (pF c d)
 |le {n m:Nat} {c:aD}:Rch n c->n<=m->Rch m c
def Inv.mono{n s n' s':Nat}{c:aD}(I:Inv n s c)(h1:n<=n')(h2:s<=s'):Inv n' s' c:=
 I.of h1 I.gr (ave I.al h1) rfl rfl I.held (ave I.hL h2) I.hE ⟨I.YW.g,λb hb=>by have:=I.en b hb;omega⟩
def J9(d:aW):cost d<=1:=by cases d<;>simp[cost]
def aqh:Inv 0 0 ⟨0,[],[],[],[],[]⟩:=⟨⟨rfl,by simp,by simp,by simp,by simp,by simp,by simp⟩,by simp,by simp,by simp,by simp,by simp,by simp,by simp,by simp,by simp,by simp,by simp,by simp⟩
structure Now(M:Mo)(L:Lay)(n s:Nat)(c:aD):Prop where
 at_:At M L c
 inv:Inv n s c
 rch:Rch n c
def Now.done{M:Mo}{L:Lay}{n s:Nat}{c:aD}(N:Now M L n s c)(hs:s<=76)(hn:n<=199)(d:aW)(hd:wL d)(hf:jT d=true):∃M' bs,iY M [ob L.c,d.dat,bY c]=.ok (bY (pF c d)) M'/\Now M' { L with bs:=bs } (n+1) (s+cost d) (pF c d):=by
 let⟨M',bs,h1,h2⟩:=adR N.at_ N.inv hs hn d hd hf
 exact⟨M',bs,h1,h2,M7 N.inv d hn,.step d N.rch hf⟩
def Xh(x:Int){base:ListInt}(h:base.length=6):Pts (rowOf x 14 10) base:=⟨ado ..,ag1 #[()] _ _,h⟩
def j9(x:Int)(k:Nat)(h:k<14):atI ((rowOf x 14 10).map PyData.int) (k:Int)=some (.int ((rowOf x 14 10).getD k 0))/\0<=(rowOf x 14 10).getD k 0/\(rowOf x 14 10).getD k 0<=9:=by
 have hl:k<(rowOf x 14 10).length:=by rw[ado];exact h
 refine⟨acg _ k hl,?_⟩;rw[List.getD_eq_getElem?_getD,auV hl];have:=ag1 #[()] x 14 _ (avE hl);simp;omega
def aht{M:Mo}{L:Lay}{n s:Nat}{c:aD}(N:Now M L n s c)(hs:s<=76)(hn:n<=199)(x1:Option Cell)(head:Int)(base:ListInt)(hb:base.length=6)(i:Nat)(x:Int)(x8 x9 x10 x11 x12:Option Cell) :
  ∃d M' bs y8 y9 y10 y11,jT d=true/\GP M [#[ob L.c],x1,#[.int head],#[bY c],#[aH base],#[.list ((zj head).map Mw)],#[.int i],#[.int x],x8,x9,x10,x11,x12]=.next [#[ob L.c],x1,#[.int head],#[bY (pF c d)],#[aH base],#[.list ((zj head).map Mw)],#[.int i],#[.int x],y8,y9,y10,y11,x12] M'/\Now M' { L with bs:=bs } (n+1) (s+cost d) (pF c d):=by
 have h1:tY M [.int x,.int 14,.int 10]=.ok (lI (rowOf x 14 10)):=VR M x 14 10 #[()] #[()] #[()];have P:=Xh x hb;let⟨r0,q0,q0'⟩:=j9 x 0 #[()]
 let⟨r1,q1,q1'⟩:=j9 x 1 #[()]
 let⟨r2,q2,q2'⟩:=j9 x 2 #[()]
 let⟨r3,q3,q3'⟩:=j9 x 3 #[()]
 let⟨r4,q4,q4'⟩:=j9 x 4 #[()]
 let⟨r5,q5,q5'⟩:=j9 x 5 #[()]
 generalize rowOf x 14 10=p at *;generalize p.getD 0 0=d0 at *;generalize p.getD 1 0=d1 at *;generalize p.getD 2 0=d2 at *;generalize p.getD 3 0=d3 at *;generalize p.getD 4 0=d4 at *;generalize p.getD 5 0=d5 at *;let⟨w,hw,h2⟩:=adW M (d0*10+d1)
 have hm:∀z,decide (CMul z 10)=true:=λz=>mul_r #[()];have c0:=N.inv.cnt.1;simp![Int.natCast_zero,Int.natCast_one,show((2:Nat):Int)=2 from rfl,show((3:Nat):Int)=3 from rfl,show((4:Nat):Int)=4 from rfl,show((5:Nat):Int)=5 from rfl]at r0 r1 r2 r3 r4 r5;by_cases hi:i<(zj head).length
 .have hi':(i:Int)<(zj head).length:=#[];have g:=auV hi;let⟨b1,b2,b3⟩:=alb _ (avE hi)
  generalize (zj head)[i]=b at *;let⟨d,e1,e2,e3⟩:=Ur M P b.2.1 b.2.2 c.count c.al.length c.bs.length c0 #[] #[] b1 b2 b3
  let⟨M',bs,e4,e5⟩:=N.done hs hn d e3 e2
  refine⟨d,M',bs,#[lI p],#[.str b.1],#[.int b.2.1],#[.int b.2.2],e2,?_,e5⟩;have e1:gJ M [.str b.1,.int b.2.1,.int b.2.2,lI p,bY c,aH base]=.ok d.dat:=e1;simp[GP,h1,r0,r1,r2,r3,r4,r5,hm,h2,hi',g];simp[Mw,e1,e4]
 .have hi':¬(i:Int)<(zj head).length:=#[];let⟨d,e1,e2,e3⟩:=Ur M P (d2*10+d3) (d4*10+d5) c.count c.al.length c.bs.length c0 #[] #[] hw #[] #[]
  let⟨M',bs,e4,e5⟩:=N.done hs hn d e3 e2
  refine⟨d,M',bs,#[lI p],#[.str w],#[.int (d2*10+d3)],#[.int (d4*10+d5)],e2,?_,e5⟩;have e1:gJ M [.str w,.int (d2*10+d3),.int (d4*10+d5),lI p,bY c,aH base]=.ok d.dat:=e1;simp[GP,h1,r0,r1,r2,r3,r4,r5,hm,h2,hi'];simp[e1,e4]
theorem Zm(x1:Option Cell)(head:Int)(base:ListInt)(hb:base.length=6)(x12:Option Cell):∀(xs:List (Nat×Int)) (M:Mo) (L:Lay) (n:Nat) (c:aD) (x6 x7 x8 x9 x10 x11:Option Cell),Now M L n n c->n+xs.length<=76->
  ∃c' M' bs y6 y7 y8 y9 y10 y11,eY (aX [6,7]) GP (xs.map λq=>PyData.tuple [.int q.1,.int q.2]) M [#[ob L.c],x1,#[.int head],#[bY c],#[aH base],#[.list ((zj head).map Mw)],x6,x7,x8,x9,x10,x11,x12]=.next [#[ob L.c],x1,#[.int head],#[bY c'],#[aH base],#[.list ((zj head).map Mw)],y6,y7,y8,y9,y10,y11,x12] M'/\Now M' { L with bs:=bs } (n+xs.length) (n+xs.length) c'
 |[],M,L,n,c,x6,x7,x8,x9,x10,x11,N,_=>⟨c,M,L.bs,x6,x7,x8,x9,x10,x11,rfl,N⟩
 |q::xs,M,L,n,c,x6,x7,x8,x9,x10,x11,N,hl=>by
  rw[au5]at hl;let⟨d,M1,bs,y8,y9,y10,y11,h0,h1,N1⟩:=aht N #[] #[] x1 head base hb q.1 q.2 x8 x9 x10 x11 x12
  have N1:Now M1 { L with bs:=bs } (n+1) (n+1) (pF c d):=⟨N1.at_,N1.inv.mono (avd _) (by have:=J9 d;omega),N1.rch⟩;let⟨c',M',bs',z6,z7,z8,z9,z10,z11,h2,N2⟩:=Zm x1 head base hb x12 xs M1 { L with bs:=bs } (n+1) (pF c d) #[.int q.1] #[.int q.2] y8 y9 y10 y11 N1 #[]
  refine⟨c',M',bs',z6,z7,z8,z9,z10,z11,?_,?_⟩
  .rw[List.map_cons,fG (Z1:=[#[ob L.c],x1,#[.int head],#[bY c],#[aH base],#[.list ((zj head).map Mw)],#[.int q.1],#[.int q.2],x8,x9,x10,x11,x12]) (by simp) h1];exact h2
  .rw[au5,show n+(xs.length+1)=n+1+xs.length by omega];exact N2
def ae4{M:Mo}{L:Lay}{n s:Nat}{c:aD}(N:Now M L n s c)(hs:s<=75)(hn:n<=198)(x1 x2 x4 x5 x6 x7 x8 x9 x10 x11 x12:Option Cell) :
  ∃c' M' bs,Mh M [#[ob L.c],x1,x2,#[bY c],x4,x5,x6,x7,x8,x9,x10,x11,x12]=.next [#[ob L.c],x1,x2,#[bY c'],x4,x5,x6,x7,x8,x9,x10,x11,x12] M'/\Now M' { L with bs:=bs } (n+2) (s+1) c':=by
 let⟨M1,bs1,h1,N1⟩:=N.done #[] #[] (.bring 1 1 [0,0,0,0,0,0]) (by simp[wL]) #[()]
 have hl:=N1.inv.hL;have hc:cost (.bring 1 1 [0,0,0,0,0,0])=1:=rfl;generalize pF c (.bring 1 1 [0,0,0,0,0,0])=c1 at *;let⟨M2,bs2,h2,N2⟩:=N1.done #[] #[] (.cut c1.bs.length) awa (by simp![jT,nB,auU,awc];omega)
 refine⟨_,M2,bs2,?_,N2.at_,N2.inv,N2.rch⟩;have h1:iY M [ob L.c,.tuple [.str "bring",.int 1,.int 1,.tuple [.int 0,.int 0,.int 0,.int 0,.int 0,.int 0]],bY c]=.ok (bY c1) M1:=h1
 have h2:iY M1 [ob L.c,.tuple [.str "cut",.int c1.bs.length],bY c1]=_:=h2
 simp[Mh,h1];have e:atI [PyData.int c1.count,.int c1.al.length,.int c1.bs.length] 2=some (.int c1.bs.length):=rfl;simp[bY]at h2 |-
 simp[h2]
theorem V1(x1 x2 x4 x5 x6 x7 x8 x9 x10 x11:Option Cell):∀(xs:List Dat) (M:Mo) (L:Lay) (n s:Nat) (c:aD) (x12:Option Cell),Now M L n s c->n+2*xs.length<=198->s+xs.length<=75->
  ∃c' M' bs y12,eY (aq 12) Mh xs M [#[ob L.c],x1,x2,#[bY c],x4,x5,x6,x7,x8,x9,x10,x11,x12]=.next [#[ob L.c],x1,x2,#[bY c'],x4,x5,x6,x7,x8,x9,x10,x11,y12] M'/\Now M' { L with bs:=bs } (n+2*xs.length) (s+xs.length) c'
 |[],M,L,n,s,c,x12,N,_,_=>⟨c,M,L.bs,x12,rfl,N⟩
 |q::xs,M,L,n,s,c,x12,N,h1,h2=>by
  rw[au5]at h1 h2;let⟨c1,M1,bs1,e1,N1⟩:=ae4 N #[] #[] x1 x2 x4 x5 x6 x7 x8 x9 x10 x11 #[q]
  let⟨c',M',bs',y12,e2,N2⟩:=V1 x1 x2 x4 x5 x6 x7 x8 x9 x10 x11 xs M1 { L with bs:=bs1 } (n+2) (s+1) c1 #[q] N1 #[] #[]
  refine⟨c',M',bs',y12,?_,?_⟩
  .rw[fG (Z1:=[#[ob L.c],x1,x2,#[bY c],x4,x5,x6,x7,x8,x9,x10,x11,#[q]]) (by simp) e1];exact e2
  .rw[au5,show n+2*(xs.length+1)=n+2+2*xs.length by omega,show s+(xs.length+1)=s+1+xs.length by omega];exact N2
def abp:aD:=⟨0,[],[],[],[],[]⟩
def akv{M:Mo}{L:Lay}(a:At M L abp)(cells:ListInt)(hl:cells.length<=43)(head:Int):∃c M' L',L'.c=L.c/\Jz M [ob L.c,lI cells,.int head]=.ok (bY c) M'/\Now M' L' 99 71 c:=by
 have hb:=Px (head/512);have h1:=afq M (head/512);have h2:=agY M head;have N0:Now M L 0 0 abp:=⟨a,aqh,.nil⟩;have hen:qU 0 (cells.map PyData.int)=(cells.mapIdx λi x=>(i,x)).map λ(q:Nat×Int)=>PyData.tuple [.int q.1,.int q.2]:=by unfold qU;apply avp;intro i;simp;cases cells[i]?<;>simp
 let⟨c1,M1,bs1,y6,y7,y8,y9,y10,y11,e1,N1⟩:=Zm #[lI cells] head (MP (head/512)) hb none (cells.mapIdx λi x=>(i,x)) M L 0 abp none none none none none none N0 (by simp;omega)
 simp![List.length_mapIdx,Nat.zero_add]at N1;have hd:∀z,decide (CDiv z 512)=true:=λz=>decide_eq_true ⟨#[()],#[()]⟩;have hd8:∀z,decide (CDiv z 8)=true:=λz=>decide_eq_true ⟨#[()],#[()]⟩;have hd64:∀z,decide (CDiv z 64)=true:=λz=>decide_eq_true ⟨#[()],#[()]⟩;have hm:∀z,decide (CMul z 4)=true:=λz=>mul_r #[()];have z0:bY abp=.tuple [.int 0,.int 0,.int 0]:=rfl;rw[z0]at e1;by_cases hh:head/8%8=1
 .obtain⟨k,hk,hk2⟩:∃k:Nat,head/64%8*4=k/\k<=28:=⟨(head/64%8*4).toNat,#[],#[]⟩;let⟨c2,M2,bs2,y12,e2,N2⟩:=V1 #[lI cells] #[.int head] #[aH (MP (head/512))] #[.list ((zj head).map Mw)] y6 y7 y8 y9 y10 y11 (iw 0 k) M1 { L with bs:=bs1 } cells.length cells.length c1 none N1 (by simp[iw];omega) (by simp[iw];omega)
  refine⟨c2,M2,{ L with bs:=bs2 },rfl,?_,N2.at_,N2.inv.mono (by simp[iw];omega) (by simp[iw];omega),N2.rch.le (by simp[iw];omega)⟩;have k1:(k:Int)<=100000:=#[];have k2 : -100000<=(k:Int):=#[];simp[Jz,VD,hd,h1,h2,hen,e1,hd8,hh,hd64,hm,hk,k1,k2,e2]
 .refine⟨c1,M1,{ L with bs:=bs1 },rfl,?_,N1.at_,N1.inv.mono #[] #[],N1.rch.le #[]⟩;simp[Jz,VD,hd,h1,h2,hen,e1,hd8,hh]
def L0:Lay:=⟨0,2,5,7,[],[]⟩
def aqV:∃M L,L.c=0/\rM [⟨"Commons",[]⟩] [ob 0]=.ok .none M/\At M L abp:=by refine⟨_,L0,rfl,by simp[rM,Bp,lO,wB,Bg,yc,Ds,Cj,Jt];rfl,?_⟩;exact⟨rfl,⟨_,_,rfl⟩,rfl,⟨_,rfl⟩,rfl,λi h b z _=>(by cases z),#[()],λp hp=>(by cases hp)⟩
def anT(n:Nat)(x:ListInt):lk (n+1) (aH x)=true:=by show lk (n+1) (.tuple (x.map PyData.int))=true;rw[lk];exact aiZ n x
def amw(n:Nat)(x:Option ListInt):lk (n+1) (mY x)=true:=by
 cases x with
 |none=>rw[mY,lk]
 |some e=>exact anT n e
def ajl(n:Nat)(f:Fi):lk (n+2) f.dat=true:=by cases f<;>simp[Fi.dat,lk,jU]
def ajn(n:Nat)(e:En):lk (n+2) e.dat=true:=by cases e<;>simp[En.dat,lk,jU]
def adl(n:Nat)(b:cW):lk (n+4) (jc b)=true:=by
 have h1:jU (n+2) (b.en.map En.dat)=true:=iU.mpr λd hd=>by
  let⟨e,_,rfl⟩:=au2.mp hd
  exact ajn n e
 have h2:=ajl n b.fi;have h3:=amw (n+2) b.sd.due;simp[jc,lk,jU,h1,h2,h3]
def ajH(c:aD):lk 9 (cQ c)=true:=by
 have h1:∀n,jU (n+2) ((List.range c.al.length).map (Oc c))=true:=λn=>iU.mpr λd hd=>by
  let⟨e,_,rfl⟩:=au2.mp hd
  simp[Oc,lk,jU]
 have h2:∀n,jU (n+2) (c.held.map gq)=true:=λn=>iU.mpr λd hd=>by
  let⟨e,_,rfl⟩:=au2.mp hd
  simp[gq,lk,jU]
 have h3:∀n,jU (n+4) (c.bs.map jc)=true:=λn=>iU.mpr λd hd=>by
  let⟨e,_,rfl⟩:=au2.mp hd
  exact adl n e
 simp[cQ,lk,jU,h1,h2,h3]
def afK(M:Mo)(c:aD):jD 10 M [cQ c,cQ c]=.ok (.bool true):=RB M 9 _ (ajH c)
def adk{M:Mo}{L:Lay}{c:aD}{n s:Nat}(a:At M L c)(I:Inv n s c)(hs:s<=1000):rK M [ob L.c]=.ok (cQ c):=by have:=I.hL;exact akp a I.gr #[] #[]
def adw(l:ListInt)(lo hi:Option Int):Rf.cutD (l.map PyData.int) lo hi=(Rf.cutD l lo hi).map PyData.int:=by unfold Rf.cutD;rw[au3,List.map_take,List.map_drop]
def aeh{α:Type}(l:List α)(a b:Nat)(h:a<=b):(Rf.cutD l (some (a:Int)) (some (b:Int))).length<=b-a:=by unfold Rf.cutD;rw[HT.sIx_nat,HT.sIx_nat,List.length_take];omega
abbrev Ei:=List ((Int×Int)×(Int×Int))
def rQ(l:Ei):Rf.KV:=l.map λp=>(Rf.pD p.1,Rf.pD p.2)
def xH(l:Ei)(k:Int×Int):Int×Int:=match l.find? λp=>p.1==k with
 |some p=>p.2
 |none=>(0,0)
def Yl(l:Ei)(k v:Int×Int):Ei:=match l.any λp=>p.1==k with
 |true=>l.map λp=>if p.1==k then(p.1,v) else p
 |false=>l++[(k,v)]
def Ji(l:Ei)(b:cW):Ei:=Yl l (b.sd.o,b.sd.g) (if b.sd.due=none then((xH l (b.sd.o,b.sd.g)).1,(xH l (b.sd.o,b.sd.g)).2+1) else((xH l (b.sd.o,b.sd.g)).1+1,(xH l (b.sd.o,b.sd.g)).2))
def Vx(a b:Int×Int):PyData.eqv (Rf.pD a) (Rf.pD b)=(a==b):=by
 let⟨a1,a2⟩:=a
 let⟨b1,b2⟩:=b
 simp[Rf.pD,PyData.eqv,PyData.eqvAll];rfl
def akx(l:Ei)(k:Int×Int):Ye (rQ l) (Rf.pD k) (Rf.pD (0,0))=Rf.pD (xH l k):=by
 unfold Ye xH rQ;rw[List.find?_map];have e:((λp:Dat×Dat=>PyData.eqv p.1 (Rf.pD k)) ∘ λp:(Int×Int)×(Int×Int)=>(Rf.pD p.1,Rf.pD p.2))=λp=>p.1==k:=by funext p;exact Vx _ _
 rw[e];cases l.find? λp=>p.1==k<;>rfl
def anH(l:Ei)(k:Int×Int):((rQ l).any λp=>PyData.eqv p.1 (Rf.pD k))=l.any λp=>p.1==k:=by unfold rQ;rw[avY];congr 1;funext p;exact Vx _ _
def ajK(l:Ei)(k v:Int×Int):putN (rQ l) (Rf.pD k) (Rf.pD v)=rQ (Yl l k v):=by
 unfold putN Yl;rw[anH];cases l.any λp=>p.1==k with
 |true=>
  unfold rQ;rw[avh,avh];refine List.map_congr_left λp _=>?_
  show(if PyData.eqv (Rf.pD p.1) (Rf.pD k)=true then(Rf.pD p.1,Rf.pD v) else(Rf.pD p.1,Rf.pD p.2))=_
  rw[Vx];by_cases hk:p.1=k<;>simp[hk]
 |false=>simp[rQ]
def aaQ(l:Ei)(k v:Int×Int):(Yl l k v).length<=l.length+1:=by
 unfold Yl
 split<;>simp
def agp(k:Int×Int):(NestedKey.tup [.num k.1,.num k.2]).depth<=8:=by simp[NestedKey.depth,NestedKey.depthAll]
def akz(l:List (Int×Int)):prs (l.map Rf.pD)=some l:=by
 induction l with
 |nil=>rfl
 |cons p l ih=>
  show(prs (l.map Rf.pD)).bind _=_
  rw[ih];rfl
def Uw:Am:=(Pb (Ua (aP #[fD "owner" (3),fD "ground" (3)]) (aq 4)) (Pb (T5 (4:) (aP #[#[0],#[0]]) (aX [5,6])) (Ut (4:) (J8 (dW (vB false .none (bf "due" (3)))) (aP #[(5:),aK dG (6) #[1]]) (aP #[aK dG (5) #[1],(6:)])))))
def ahT{M:Mo}{h n:Nat}{b:cW}(hb:M[h]?=some (iB n b))(l:Ei)(hl:l.length<100000)(x0 x2 x4 x5 x6:Option Cell):∃y4 y5 y6,Uw (rQ l) M [x0,none,x2,#[ob h],x4,x5,x6]=some (rQ (Ji l b),[x0,none,x2,#[ob h],y4,y5,y6]):=by
 have g1:Ye (rQ l) (.tuple [.int b.sd.o,.int b.sd.g]) (.tuple [.int 0,.int 0])=.tuple [.int (xH l (b.sd.o,b.sd.g)).1,.int (xH l (b.sd.o,b.sd.g)).2]:=akx l (b.sd.o,b.sd.g);have g2:∀c u:Int,putN (rQ l) (.tuple [.int b.sd.o,.int b.sd.g]) (.tuple [.int c,.int u])=rQ (Yl l (b.sd.o,b.sd.g) (c,u)):=λc u=>ajK l (b.sd.o,b.sd.g) (c,u);have k1:nO (.tuple [.int b.sd.o,.int b.sd.g])=some (.tup [.num b.sd.o,.num b.sd.g]):=rfl;have k2:(NestedKey.tup [.num b.sd.o,.num b.sd.g]).depth<=8:=agp (b.sd.o,b.sd.g);have k3:(rQ l).length<100000:=by unfold rQ;rw[au3];exact hl
 refine⟨#[.tuple [.int b.sd.o,.int b.sd.g]],#[.int (xH l (b.sd.o,b.sd.g)).1],#[.int (xH l (b.sd.o,b.sd.g)).2],?_⟩;unfold Ji;cases hd:b.sd.due with
 |none=>simp[Uw,Pb,Ua,T5,Ut,hb,iB,hd,mY,iZ,k1,k2,k3,g1,g2]
 |some e=>simp[Uw,Pb,Ua,T5,Ut,hb,iB,hd,mY,iZ,k1,k2,k3,g1,g2]
theorem acq{M:Mo}(x0:Option Cell):∀(xs:List (Nat×Nat×cW)) (l:Ei) (x2 x3 x4 x5 x6:Option Cell),(∀x∈xs,∃n,M[x.2.1]?=some (iB n x.2.2))->l.length+xs.length<100000->∃y2 y3 y4 y5 y6,QX (aX [2,3]) Uw (xs.map nb) (rQ l) M [x0,none,x2,x3,x4,x5,x6]=some (rQ ((xs.map λx=>x.2.2).foldl Ji l),[x0,none,y2,y3,y4,y5,y6])
 |[],l,x2,x3,x4,x5,x6,_,_=>⟨x2,x3,x4,x5,x6,rfl⟩
 |x::xs,l,x2,x3,x4,x5,x6,h,hl=>by
  let⟨n,hb⟩:=h x auX
  rw[au5]at hl;let⟨y4,y5,y6,e⟩:=ahT hb l #[] x0 #[.int ((x.1:Int)+1)] x4 x5 x6
  have hp:(Ji l x.2.2).length<=l.length+1:=aaQ _ _ _;let⟨z2,z3,z4,z5,z6,ih⟩:=acq x0 xs (Ji l x.2.2) #[.int ((x.1:Int)+1)] #[ob x.2.1] y4 y5 y6 (λy hy=>h y (auY _ hy)) #[]
  refine⟨z2,z3,z4,z5,z6,?_⟩;rw[List.map_cons,QX];have e1:aX [2,3] (nb x) [x0,none,x2,x3,x4,x5,x6]=some [x0,none,#[.int ((x.1:Int)+1)],#[ob x.2.1],x4,x5,x6]:=by simp[nb]
  rw[e1]
  show(Uw (rQ l) M _).bind _=_
  rw[e];exact ih
def uG(bs:List cW):Ei:=bs.foldl Ji []
def abo(l:Ei)(k:Int×Int):Dat:=.tuple [.int k.1,.int k.2,.int (xH l k).1,.int (xH l k).2]
def tallyD(bs:List cW):Dat:=.list ((Q6 ((uG bs).map (·.1))).map (abo (uG bs)))
theorem adM{M:Mo}{Z:Rf.Env}(l:Ei)(h4:4<Z.length):∀ks:List (Int×Int),(∀k∈ks,k∈l.map (·.1))->Rg (aq 4) (IK (JC (4:)) (Qh (JC (4:)))) (rQ l) M Z (ks.map Rf.pD)=some (ks.map (abo l))
 |[],_=>rfl
 |k::ks,h=>by
  have ih:=adM (M:=M) (Z:=Z) l h4 ks λk hk=>h k (auY _ hk);have hf:Rk (rQ l) (Rf.pD k)=some (Rf.pD (xH l k)):=by
   unfold Rk xH rQ;rw[List.find?_map];have e:((λp:Dat×Dat=>PyData.eqv p.1 (Rf.pD k)) ∘ λp:(Int×Int)×(Int×Int)=>(Rf.pD p.1,Rf.pD p.2))=λp=>p.1==k:=by funext p;exact Vx _ _
   rw[e];cases hz:l.find? λp=>p.1==k with
   |some p=>rfl
   |none=>
    exfalso;let⟨p,hp,hk⟩:=au2.mp (h k auX)
    have:=List.find?_eq_none.mp hz p hp;simp[hk]at this
  have hf':Rk (rQ l) (.tuple [.int k.1,.int k.2])=some (.tuple [.int (xH l k).1,.int (xH l k).2]):=hf;have k1:nO (.tuple [.int k.1,.int k.2])=some (.tup [.num k.1,.num k.2]):=rfl;have k2:=agp k;rw[List.map_cons,Rg,ih];simp[Rf.pD,IK,JC,Qh,h4,hf',k1,k2,abo]
def aip{M:Mo}{L:Lay}{c:aD}(a:At M L c)(few:c.bs.length<=1000):v9 M [ob L.h]=.ok (tallyD (c.bs.filter λb=>b.sd.al)):=by
 have h1:=xY a #[];have hin:∀x∈(bK L c).filter λx=>x.2.2.sd.al,∃n,M[x.2.1]?=some (iB n x.2.2):=λx hx=>a.hb' (avj.mp hx).1;have hfew:((bK L c).filter λx=>x.2.2.sd.al).length<=1000:=by have:=au6 (λx=>x.2.2.sd.al) (bK L c);rw[a.len']at this;omega
 have hbs:((bK L c).filter λx=>x.2.2.sd.al).map (λx=>x.2.2)=c.bs.filter λb=>b.sd.al:=by
  have e:(bK L c).map (λx=>x.2.2)=c.bs:=by
   apply List.ext_getElem
   .simp[bK,a.len]
   .intro i h1 h2;simp[bK]
  rw[<-e,List.filter_map];rfl
 let⟨y2,y3,y4,y5,y6,h2⟩:=acq (M:=M) #[ob L.h] ((bK L c).filter λx=>x.2.2.sd.al) [] none none none none none hin (by simp;omega)
 rw[hbs]at h2;have h3:prs ((rQ (uG (c.bs.filter λb=>b.sd.al))).map (·.1))=some ((uG (c.bs.filter λb=>b.sd.al)).map (·.1)):=by
  have:(rQ (uG (c.bs.filter λb=>b.sd.al))).map (·.1)=((uG (c.bs.filter λb=>b.sd.al)).map (·.1)).map Rf.pD:=by simp[rQ]
  rw[this,akz]
 have h5:=adM (M:=M) (Z:=bM [#[ob L.h],none,y2,y3,y4,y5,y6] [4]) (uG (c.bs.filter λb=>b.sd.al)) (by simp) (Q6 ((uG (c.bs.filter λb=>b.sd.al)).map (·.1))) λk hk=>by
  unfold Q6 at hk;exact List.mem_mergeSort.mp hk
 have hlen:∀(xs:List cW) (l:Ei),(xs.foldl Ji l).length<=l.length+xs.length:=by
  intro xs
  induction xs with
  |nil=>intro l;exact avd _
  |cons b xs ih=>
   intro l;have h1:=ih (Ji l b);have h2:(Ji l b).length<=l.length+1:=aaQ _ _ _;rw[avP,au5];omega
 have hl:=hlen (c.bs.filter λb=>b.sd.al) [];have hl2:=au6 (λb:cW=>b.sd.al) c.bs;have hit:bQ (aC bT (0) dD) M [#[ob L.h],none,none,none,none,none,none]=.ok (((bK L c).filter λx=>x.2.2.sd.al).map nb):=by
  let⟨n,hh⟩:=a.hh
  simp[bT,h1,hh,dJ]
 have hfor:UJ (bQ (aC bT (0) dD)) (aX [2,3]) Uw [] M [#[ob L.h],none,none,none,none,none,none]=some (rQ (uG (c.bs.filter λb=>b.sd.al)),[#[ob L.h],none,y2,y3,y4,y5,y6]):=by unfold UJ;rw[hit];exact h2
 have hret:Qy Gu (aq 4) [4] (IK (JC (4:)) (Qh (JC (4:)))) (rQ (uG (c.bs.filter λb=>b.sd.al))) M [#[ob L.h],none,y2,y3,y4,y5,y6]=some (tallyD (c.bs.filter λb=>b.sd.al)):=by
  unfold Qy Gu;rw[h3]
  show(if _ then _ else _)=_
  rw[awg (by rw[au3];unfold Q6;rw[List.length_mergeSort,au3];show(List.foldl Ji [] _).length<=_;simp at hl;omega),h5];rfl
 have hb:FZ=M4 1 (UJ (bQ (aC bT (0) dD)) (aX [2,3]) Uw) (Qy Gu (aq 4) [4] (IK (JC (4:)) (Qh (JC (4:))))):=rfl;simp![v9,hb,aoT]
 show(match M4 1 _ _ M [#[ob L.h],none,none,none,none,none,none] with
  |.ret d _=>Out.ok d
  |.next _ _=>.ok .none
  |.exc x _ _=>.exc x
  |_=>.bad)=_
 unfold M4;have hset:([#[ob L.h],none,none,none,none,none,none]:Rf.Env).set 1 none=[#[ob L.h],none,none,none,none,none,none]:=rfl;rw[hset,hfor]
 show(match (match decide (1<7) with|true=>(match Qy _ _ _ _ _ M _ with|some d=>uO.ret d M|none=>.bad)|false=>.bad) with
  |.ret d _=>Out.ok d
  |.next _ _=>.ok .none
  |.exc x _ _=>.exc x
  |_=>.bad)=_
 rw[hret];rfl
section
variable{M:Mo}{L:Lay}{c:aD}(a:At M L c){n s:Nat}(I:Inv n s c)(hs:s<=76)(hn:n<=199)
include a I hs hn
theorem ah6(d:aW)(hd:wL d):Sp M L (iV M [ob L.c,d.dat]) (cJ c d):=by
 have hc:=a.hc;cases d with
 |owner=>
  refine cU (adV a I hn) ?_;simp![aW.dat];simp[iV,jK,hc,aA,dH];cases gU M _<;>rfl
 |ground x=>
  refine cU (ach a I hn x) ?_;simp![aW.dat];simp[iV,jK,hc,aA,iz];cases gG M _<;>rfl
 |enrol o g m=>
  refine cU (ac2 a I hs o g m hd) ?_;simp![aW.dat];simp[iV,jK,hc,aA,lK];cases dU M _<;>rfl
 |leave o g=>
  refine cU (aec a I hs o g) ?_;simp![aW.dat];simp[iV,jK,hc,aA,lG];cases fU M _<;>rfl
 |bring o g m=>
  refine cU (ac8 a I hs o g m hd) ?_;simp![aW.dat];simp[iV,jK,hc,aA,lN];cases fX M _<;>rfl
 |bear k=>
  refine cU (agT a I hs k) ?_;simp![aW.dat];simp[iV,jK,hc,aA,mW];cases iT M _<;>rfl
 |cut k=>
  refine cU (ajv a I hs #[] k) ?_;simp![aW.dat];simp[iV,jK,hc,aA,oJ];cases jw M _<;>rfl
 |tear k p=>
  refine cU (afr a I hs k p #[]) ?_;simp![aW.dat];simp[iV,jK,hc,aA,mU];cases fP M _<;>rfl
 |sell k o=>
  refine cU (ag3 a I hs #[] k o) ?_;simp![aW.dat];simp[iV,jK,hc,aA,mV];cases dO M _<;>rfl
 |move k g=>
  refine cU (agh a I hs #[] k g) ?_;simp![aW.dat];simp[iV,jK,hc,aA,mF];cases dN M _<;>rfl
 |die k=>
  refine cU (ajp a I hs k #[]) ?_;simp![aW.dat];simp[iV,jK,hc,aA,oF];cases kZ M _<;>rfl
 |wJ x y=>
  refine cU (ac9 a I hs #[] x y) ?_;simp![aW.dat];simp[iV,jK,hc,aA,oX];cases eZ M _<;>rfl
 |part x=>
  refine cU (agw a I hs #[] x) ?_;simp![aW.dat];simp[iV,jK,hc,aA,pK];cases iI M _<;>rfl
 |pass e h=>
  refine cU (ahy a I hs #[] e h) ?_;simp![aW.dat];simp[iV,jK,hc,aA,jN];cases fH M _<;>rfl
 |heir e g x=>
  refine cU (afM a I hs #[] e g x) ?_;simp![aW.dat];simp[iV,jK,hc,aA,jf];cases cG M _<;>rfl
end
def ahD{M:Mo}{L:Lay}{c:aD}(a:At M L c)(d:aW)(hd:wL d)(hf:jT d=false):iY M [ob L.c,d.dat,bY c]=.ok (bY c) M:=by
 have hc:=a.hc;have h0:=adz M d hd;rw[hf]at h0;have h1:cA M [ob L.c,d.dat]=.exc ⟨"BadDeed",[]⟩ M:=by simp[cA,cM,h0]
 simp[iY,yV,hc,aA,eO,h1,iZ,oA]
def Va{M:Mo}{L:Lay}{n s:Nat}{c:aD}(a:At M L c)(I:Inv n s c)(hs:s<=76)(hn:n<=199)(d:aW)(hd:wL d)(w:Int):∃M' bs c',pZ M [ob L.c,d.dat,bY c,.int w]=.ok (bY c') M'/\At M' { L with bs:=bs } c'/\Inv (n+1) (s+cost d) c':=by
 by_cases hw:w%2=0
 .cases hf:jT d with
  |true=>
   let⟨M',bs,h1,h2⟩:=adR a I hs hn d hd hf
   exact⟨M',bs,pF c d,by simp[pZ,vW,hw,h1],h2,M7 I d hn⟩
  |false=>
   have h1:=ahD a d hd hf;exact⟨M,L.bs,c,by simp[pZ,vW,hw,h1],a,I.mono #[] #[]⟩
 .have h0:=ah6 a I hs hn d hd;have i2:=M7 I d hn;unfold pF at i2;have e0:bY c=.tuple [.int c.count,.int c.al.length,.int c.bs.length]:=rfl;cases e:cJ c d with
  |no x=>
   rw[e]at h0 i2;have h0:_=_:=h0;have h1:=Td e;refine⟨M,L.bs,c,?_,a,i2⟩;simp[pZ,vW,hw,h0,h1,iZ]
  |ok r c'=>
   rw[e]at h0 i2;let⟨M',bs,h0,h2⟩:=h0
   let⟨q1,q2,q3,q4⟩:=SM e
   refine⟨M',bs,c',?_,h2,i2⟩;have e1:(c'.al.length:Int)=c.al.length+(VB d:Int):=#[];have e2:(c'.bs.length:Int)=c.bs.length+(Wx d:Int):=#[];cases hr:iZ .none r with
   |true=>
    let⟨z1,z2,z3⟩:=q4 hr
    simp[z1,z2,z3]at q1 e1 e2;simp[pZ,vW,hw,h0,hr,bY,q1,e1,e2]
   |false=>
    clear q4 q2 q3 e i2 hd;cases d<;>simp[Uo,VB,Wx]at q1 e1 e2<;>simp[aW.dat]at h0<;>simp[pZ,vW,hw,h0,hr,bY,q1,e1,e2,aW.dat]
def anB(M:Mo)(x:Int):∃y,Q8 M [.int x]=.ok (.int y):=by
 have hp:decide (CPow 10 30)=true:=decide_eq_true ⟨#[()],#[()],#[()]⟩;by_cases h:x<0
 .exact⟨_,by simp[Q8,aai,hp,h];rfl⟩
 .exact⟨_,by simp[Q8,aai,hp,h];rfl⟩
def afO(M:Mo)(v x t:Int):∃y,Mq M [.int v,.int x,.int t]=.ok (.int y):=by
 let⟨y,h⟩:=anB M (x/13)
 have hd:∀z,decide (CDiv z 13)=true:=λz=>decide_eq_true ⟨#[()],#[()]⟩;by_cases e:x%13=t
 .exact⟨y,by simp[Mq,aat,e,hd,h]⟩
 .exact⟨v,by simp[Mq,aat,e]⟩
@[simp]theorem atJ (c:aD):zX (cQ c) (.int 0)=.ok (lI c.own):=rfl
@[simp]theorem asq (c:aD):zX (cQ c) (.int 1)=.ok (.list ((List.range c.al.length).map (Oc c))):=rfl
@[simp]theorem auj (c:aD):zX (cQ c) (.int 2)=.ok (.list (c.held.map gq)):=rfl
@[simp]theorem atn (c:aD):zX (cQ c) (.int 3)=.ok (.list (c.bs.map jc)):=rfl
def eq_nil(xs:List Dat)(h:lX 11 xs=true):Eh (.list xs) (.list [])=.ok (.bool xs.isEmpty)/\yP (.list xs) (.list [])=.ok (.bool (!xs.isEmpty)):=by
 have e:eqB (.list xs) (.list [])=.ok xs.isEmpty:=by
  show Out.when (okd 12 (.list xs)&&okd 12 (.list [])) (.ok (PyData.eqv (.list xs) (.list [])))=_;rw[okd,okd,h,aog];cases xs with
  |nil=>rfl
  |cons a r=>rw[ak0];rfl
 exact⟨by unfold Eh;rw[e];rfl,by unfold yP;rw[e];rfl⟩
def aa9(M:Mo)(w:Str)(x head n0 n1 n2:Int){d:Dat}(h:dd M w ((rowOf x 14 10).getD 2 0*10+(rowOf x 14 10).getD 3 0) ((rowOf x 14 10).getD 4 0*10+(rowOf x 14 10).getD 5 0) (rowOf x 14 10) (MP (head/512)) n0 n1 n2=.ok d):wU M [.str w,.int x,.tuple [.int n0,.int n1,.int n2],.int head]=.ok d:=by
 have h1:tY M [.int x,.int 14,.int 10]=.ok (lI (rowOf x 14 10)):=VR M x 14 10 #[()] #[()] #[()];have h2:=afq M (head/512);let⟨r2,_⟩:=j9 x 2 #[()]
 let⟨r3,_⟩:=j9 x 3 #[()]
 let⟨r4,_⟩:=j9 x 4 #[()]
 let⟨r5,_⟩:=j9 x 5 #[()]
 generalize rowOf x 14 10=p at *;generalize p.getD 2 0=d2 at *;generalize p.getD 3 0=d3 at *;generalize p.getD 4 0=d4 at *;generalize p.getD 5 0=d5 at *;have hm:∀z,decide (CMul z 10)=true:=λz=>mul_r #[()];have hd:∀z,decide (CDiv z 512)=true:=λz=>decide_eq_true ⟨#[()],#[()]⟩;simp![show((2:Nat):Int)=2 from rfl,show((3:Nat):Int)=3 from rfl,show((4:Nat):Int)=4 from rfl,show((5:Nat):Int)=5 from rfl]at r2 r3 r4 r5;unfold dd at h;simp[wU,XC,h1,h2,r2,r3,r4,r5,hm,hd,h]
def YJ(M:Mo)(c:aD)(hc:0<=c.count){w:Str}(hw:w∈words)(x head:Int):∃d:aW,wU M [.str w,.int x,bY c,.int head]=.ok d.dat/\jT d=true/\wL d:=by
 have P:=Xh x (Px (head/512));let⟨_,q2,q2'⟩:=j9 x 2 #[()]
 let⟨_,q3,q3'⟩:=j9 x 3 #[()]
 let⟨_,q4,q4'⟩:=j9 x 4 #[()]
 let⟨_,q5,q5'⟩:=j9 x 5 #[()]
 let⟨d,h1,h2,h3⟩:=Ur M P ((rowOf x 14 10).getD 2 0*10+(rowOf x 14 10).getD 3 0) ((rowOf x 14 10).getD 4 0*10+(rowOf x 14 10).getD 5 0) c.count c.al.length c.bs.length hc #[] #[] hw #[] #[]
 exact⟨d,aa9 M w x head _ _ _ h1,h2,h3⟩
def alm(z:Int):∃w∈words,atI [PyData.str "part",.str "unite",.str "leave",.str "pass",.str "heir"] (z%5)=some (.str w):=by
 have h:z%5=0\/z%5=1\/z%5=2\/z%5=3\/z%5=4:=#[];rcases h with h|h|h|h|h<;>rw[h]
 .exact⟨"part",by simp,rfl⟩
 .exact⟨"unite",by simp,rfl⟩
 .exact⟨"leave",by simp,rfl⟩
 .exact⟨"pass",by simp,rfl⟩
 .exact⟨"heir",by simp,rfl⟩
section
variable{c0:aD}{head:Int}(R:∀{M:Mo} {L:Lay} {n s:Nat} {c:aD},L.c=0->At M L c->Inv n s c->s<=76->n<=199->∀x:Int,uL M [ob 0,.int x,bY c0,.int head]=.ok (.bool true))
include R
theorem Uk{M:Mo}{L:Lay}{n s:Nat}{c:aD}(hL:L.c=0)(a:At M L c)(I:Inv n s c)(hs:s<=76)(hn:n<=199)(x:Int):Fd M [ob 0,.int x,bY c0,.int head]=.ok (.bool true):=by
 have hd7:∀z,decide (CDiv z 7)=true:=λz=>decide_eq_true ⟨#[()],#[()]⟩;have one:∀y:Int,Py M [#[ob 0],#[.int x],#[bY c0],#[.int head],#[.int y]]=.next [#[ob 0],#[.int x],#[bY c0],#[.int head],#[.int y]] M:=λy=>by
  have h1:=R hL a I hs hn y;generalize bY c0=k at *;simp[Py,h1]
 generalize bY c0=k at *;simp[Fd,Yc,hd7,one,eY]
end
def Vi(M:Mo)(c:aD)(g:Int):sE M [cQ c,.int g]=.ok (.bool (decide (Vg c g))):=by by_cases h:1<=g<;>simp[sE,Bm,h,Vg]
def acz(M:Mo)(c:aD)(hf:c.held.length<=50000)(o g:Int):za M [cQ c,.int o,.int g]=.ok (.list ((bF c o g).map aH)):=by
 have key:=gj (tg:=aq 3) (tt:=jP #[(3)[0]! = (1)] #[(3)[1]! = (2)]) (te:=(3)[2]!) (M:=M) (Z:=[#[cQ c],#[.int o],#[.int g],none]) gq (λr=>(r.1==o)&&(r.2.1==g)) (λr=>aH r.2.2) c.held λr _=>⟨[#[cQ c],#[.int o],#[.int g],#[gq r]],by simp,by
  by_cases h:r.1=o<;>simp[gq,h],λ_=>by simp[gq]⟩
 simp[za,La,key,hf,bF]
@[simp]theorem atk (b:cW):zX (jc b) (.int 0)=.ok (.int b.sd.o):=rfl
@[simp]theorem atY (b:cW):zX (jc b) (.int 1)=.ok (.int b.sd.g):=rfl
@[simp]theorem at7 (b:cW):zX (jc b) (.int 2)=.ok (mY b.sd.due):=rfl
@[simp]theorem aum (b:cW):zX (jc b) (.int 3)=.ok (aH b.sd.ear):=rfl
@[simp]theorem aul (b:cW):zX (jc b) (.int 4)=.ok (.bool b.sd.al):=rfl
@[simp]theorem asv (b:cW):zX (jc b) (.int 5)=.ok (.int b.mo):=rfl
@[simp]theorem asr (b:cW):zX (jc b) (.int 6)=.ok (.tuple (b.fi.dat::b.en.map En.dat)):=rfl
def aew{c:aD}{x:Int}(h:Vg c x):atI ((List.range c.al.length).map (Oc c)) (x-1)=some (.tuple [.int (Mu c x),aH (aY c x)]):=by
 let⟨k,hk,rfl⟩:=CV h
 rw[show(k:Int)+1-1=(k:Int) by omega,aiB];simp[hk,Oc]
def ae8(M:Mo)(c:aD)(i:dB c)(x:Int)(h:Vg c x):Cv M [cQ c,.int x]=.ok (.int (roomOf c x)):=by
 have h1:=aew h;have hc:=i.at h;have hl:(aY c x).length<=50000:=by have:=i.clen hc;omega
 have hne:(aY c x).map (Mu c)≠[]:=λz=>by
  have:=i.self h;rw[List.map_eq_nil_iff.mp z]at this;cases this
 have key:=dw (tg:=aq 2) (te:=(0)[1]![aK oZ (2) #[1]]![0]!) (M:=M) (Z:=[#[cQ c],#[.int x],none]) PyData.int (λy=>.int (Mu c y)) (aY c x) λy hy=>⟨[#[cQ c],#[.int x],#[.int y]],by simp,by
  have:=aew (i.mem _ _ hc y hy);simp[this]⟩
 have hm:=maxD_ints hne;rw[avh]at hm;simp[avk]at hm;simp[Cv,Og,h1,key,hl,hm,roomOf]
theorem up_eq:∀{S T:List Rw},Ear.Jy S->Ear.Jy T->(∀r,r∈S↔r∈T)->S=T
 |[],[],_,_,_=>rfl
 |[],t::T,_,_,m=>by have:=(m t).mpr auX;cases this
 |s::S,[],_,_,m=>by have:=(m s).mp auX;cases this
 |s::S,t::T,hs,ht,m=>by
  have hs':=List.pairwise_cons.mp hs;have ht':=List.pairwise_cons.mp ht;have e:s=t:=by
   rcases au7.mp ((m s).mp auX) with h1|h1
   .exact h1
   rcases au7.mp ((m t).mpr auX) with h2|h2
   .exact h2.symm
   exact absurd (List.lt_trans (ht'.1 s h1) (hs'.1 t h2)) (List.lt_irrefl _)
  subst e;congr 1;refine up_eq hs'.2 ht'.2 λr=>⟨λh=>?_,λh=>?_⟩
  .rcases au7.mp ((m r).mp (auY _ h)) with z|z
   .subst z;exact absurd (hs'.1 _ h) (List.lt_irrefl _)
   .exact z
  .rcases au7.mp ((m r).mpr (auY _ h)) with z|z
   .subst z;exact absurd (ht'.1 _ h) (List.lt_irrefl _)
   .exact z
def alQ(r s:Rw):yP (Ear.rD r) (Ear.rD s)=.ok (.bool (!decide (r=s))):=by
 have e:PyData.eqv (Ear.rD r) (Ear.rD s)=decide (r=s):=by rw[avW];simp[Ear.rD,Ear.dT,Prod.ext_iff]
 have:eqB (Ear.rD r) (Ear.rD s)=.ok (decide (r=s)):=by show Out.when (okd 12 (Ear.rD r)&&okd 12 (Ear.rD s)) (.ok (PyData.eqv (Ear.rD r) (Ear.rD s)))=_;rw[P0 10,P0 10,e];rfl
 unfold yP;rw[this];rfl
def atI_last{α:Type}(l:List α)(a:α):atI (l++[a]) (-1)=some a:=by unfold atI ixN;have:(-1+((l.length:Int)+1)).toNat=l.length:=#[];have h2:(1:Int)<=l.length+1:=#[];simp[this,h2]
def uh(acc:List Rw)(r:Rw):List Rw:=if acc.getLast?=some r then acc else acc++[r]
def agN(M:Mo)(x0:Option Cell)(acc:List Rw)(r:Rw)(h:acc.length<=5000):BR M [x0,some (.mut (acc.map Ear.rD)),#[Ear.rD r]]=.next [x0,some (.mut ((uh acc r).map Ear.rD)),#[Ear.rD r]] M:=by
 have h1:=(eq_nil (acc.map Ear.rD) (ac4 9 acc)).1;have h0:acc.length<100000:=#[];rcases List.eq_nil_or_concat acc with rfl|⟨l,a,rfl⟩
 .simp at h1;simp[BR,h1,uh]
 .have h2:((l++[a]).map Ear.rD).isEmpty=false:=by simp
  rw[List.concat_eq_append]at *;rw[h2]at h1;rw[List.map_append]at h1 |-
  have h3:=alQ a r;have h4:=atI_last (l.map Ear.rD) (Ear.rD a);simp at h0;by_cases e:a=r
  .subst e;simp at h1 h4 h3;simp[BR,h1,h4,h3,uh]
  .simp[e]at h1 h4 h3;simp[BR,h1,h4,h3,uh,e,h0]
theorem ZQ(M:Mo)(x0:Option Cell):∀(R acc:List Rw) (x2:Option Cell),acc.length+R.length<=5000->∃y2,eY (aq 2) BR (R.map Ear.rD) M [x0,some (.mut (acc.map Ear.rD)),x2]=.next [x0,some (.mut ((R.foldl uh acc).map Ear.rD)),y2] M
 |[],acc,x2,_=>⟨x2,rfl⟩
 |r::R,acc,x2,h=>by
  rw[au5]at h;have hl:(uh acc r).length<=acc.length+1:=by
   unfold uh
   split<;>simp
  let⟨y2,h2⟩:=ZQ M x0 R (uh acc r) #[Ear.rD r] #[]
  exact⟨y2,by rw[List.map_cons,fG (Z1:=[x0,some (.mut (acc.map Ear.rD)),#[Ear.rD r]]) (by simp) (agN M x0 acc r #[])];exact h2⟩
theorem Ym:∀(R acc:List Rw),Ear.Jy acc->R.Pairwise (λa b=>Ear.rk a<=Ear.rk b)->(∀a∈acc,∀r∈R,Ear.rk a<=Ear.rk r)->Ear.Jy (R.foldl uh acc)/\∀x,x∈R.foldl uh acc↔x∈acc\/x∈R
 |[],acc,ha,_,_=>⟨ha,by simp⟩
 |r::R,acc,ha,hR,hb=>by
  have hR':=List.pairwise_cons.mp hR;rw[avP];by_cases e:acc.getLast?=some r
  .have e1:uh acc r=acc:=by rw[uh,awg e]
   rw[e1];let⟨k1,k2⟩:=Ym R acc ha hR'.2 λa m x hx=>hb a m x (auY _ hx)
   have mr:r∈acc:=List.mem_of_getLast? e;refine⟨k1,λx=>?_⟩;rw[k2,au7];constructor
   .rintro(h|h)
    .exact .inl h
    .exact .inr (.inr h)
   .rintro(h|h|h)
    .exact .inl h
    .subst h;exact .inl mr
    .exact .inr h
  .have e1:uh acc r=acc++[r]:=by rw[uh,awh e]
   rw[e1];have hup:Ear.Jy (acc++[r]):=by
    rcases List.eq_nil_or_concat acc with rfl|⟨l,a,rfl⟩
    .exact List.pairwise_singleton _ _
    .rw[List.concat_eq_append]at *;have ne:a≠r:=λz=>e (by simp[z]);have lt:Ear.rk a<Ear.rk r:=by
      have:=hb a (by simp) r auX;by_cases c:Ear.rk a<Ear.rk r
      .exact c
      .exact absurd (Ear.abQ (List.le_antisymm this (List.not_lt.mp c))) ne
     refine List.pairwise_append.mpr ⟨ha,List.pairwise_singleton _ _,λx hx y hy=>?_⟩;rw[au0.mp hy];rcases au8.mp hx with hx|hx
     .exact List.lt_trans ((List.pairwise_append.mp ha).2.2 x hx a (by simp)) lt
     .rw[au0.mp hx];exact lt
   let⟨k1,k2⟩:=Ym R (acc++[r]) hup hR'.2 λa m x hx=>by
    rcases au8.mp m with m|m
    .exact hb a m x (auY _ hx)
    .rw[au0.mp m];exact hR'.1 x hx
   refine⟨k1,λx=>?_⟩;rw[k2,au8,au0,au7,or_assoc]
def ahE(R:List Rw):(sV R).Pairwise λa b=>Ear.rk a<=Ear.rk b:=by unfold sV;have srt:=avH (le:=λa b:Ear.Rw=>decide (Ear.rk a<=Ear.rk b)) (λa b c k1 k2=>by rw[awc]at *;exact List.le_trans k1 k2) (λa b=>by rw[avN,awc,awc];exact List.le_total _ _) R;exact srt.imp λh=>by simpa using h
def afp(R:List Rw):zH (.list (R.map Ear.rD))=.ok (.list ((sV R).map Ear.rD)):=by
 cases R with
 |nil=>simp[zH,intsOf,sortI,sV]
 |cons r R=>
  have h1:intsOf ((r::R).map Ear.rD)=none:=by simp[intsOf,Ear.rD]
  simp[zH,h1,Oq,-List.map_cons]
def akW(M:Mo)(R:List Rw)(h:R.length<=5000):QD M [.list (R.map Ear.rD)]=.ok (.list ((bG R).map Ear.rD)):=by
 have hl:(sV R).length=R.length:=by simp[sV]
 let⟨y2,h1⟩:=ZQ M #[.list (R.map Ear.rD)] (sV R) [] none (by simp;omega)
 have h2:=Ym (sV R) [] List.Pairwise.nil (ahE R) (by simp);have e:(sV R).foldl uh []=bG R:=up_eq h2.1 (Tq R) λx=>by
  rw[h2.2,lV];simp[sV]
 rw[e]at h1;simp![avU]at h1;simp[QD,abB,afp,h1]
def afG(M:Mo)(x0 x2:Option Cell)(x6 x7 x8:Option Cell)(nD:Dat)(near:ListInt)(hn:∀y,inD false (.int y) nD=.ok (.bool (decide (y∈near))))(lo:Int)(acc:List Rw)(i:Int)(b:cW)(h:acc.length<=5000) :
  ou M [x0,#[nD],#[.int lo],some (.mut (acc.map Ear.rD)),#[.int i],#[jc b],x6,x7,x8]=.next [x0,#[nD],#[.int lo],some (.mut ((acc++if (b.sd.due.isSome&&!((i+1)==lo))&&(decide (b.sd.g∈near)&&b.sd.al) then[(b.sd.o,b.sd.due.getD [])] else[]).map Ear.rD)),#[.int i],#[jc b],x6,x7,x8] M:=by
 have h0:acc.length<100000:=#[];have h1:=hn b.sd.g;cases e1:b.sd.al with
 |false=>simp[ou,e1]
 |true=>
  cases e2:b.sd.due with
  |none=>simp[ou,e1,e2,mY,iZ]
  |some e=>
   by_cases e3:b.sd.g∈near
   .by_cases e4:i+1=lo
    .simp[ou,e1,e2,mY,iZ,h1,e3,e4]
    .simp[ou,e1,e2,mY,iZ,h1,e3,e4,h0,Ear.rD,Ear.dT]
   .simp[ou,e1,e2,mY,iZ,h1,e3]
theorem Zw(M:Mo)(x0:Option Cell)(x6 x7 x8:Option Cell)(nD:Dat)(near:ListInt)(hn:∀y,inD false (.int y) nD=.ok (.bool (decide (y∈near))))(lo:Int):∀(xs:List (Nat×cW)) (acc:List Rw) (x4 x5:Option Cell),acc.length+xs.length<=5000->∃y4 y5,
  eY (aX [4,5]) ou (xs.map λx=>.tuple [.int (x.1:Int),jc x.2]) M [x0,#[nD],#[.int lo],some (.mut (acc.map Ear.rD)),x4,x5,x6,x7,x8]=.next [x0,#[nD],#[.int lo],some (.mut ((acc++((xs.filter λx=>(x.2.sd.due.isSome&&!(((x.1:Int)+1)==lo))&&(decide (x.2.sd.g∈near)&&x.2.sd.al)).map λx=>(x.2.sd.o,x.2.sd.due.getD []))).map Ear.rD)),y4,y5,x6,x7,x8] M
 |[],acc,x4,x5,_=>⟨x4,x5,by simp[eY]⟩
 |x::xs,acc,x4,x5,h=>by
  rw[au5]at h;have hs:=afG M x0 #[.int lo] x6 x7 x8 nD near hn lo acc (x.1:Int) x.2 #[];generalize hz:(if (x.2.sd.due.isSome&&!(((x.1:Int)+1)==lo))&&(decide (x.2.sd.g∈near)&&x.2.sd.al) then[(x.2.sd.o,x.2.sd.due.getD [])] else[])=z at hs;have hl:z.length<=1:=by rw[<-hz];split<;>simp
  let⟨y4,y5,h2⟩:=Zw M x0 x6 x7 x8 nD near hn lo xs (acc++z) #[.int x.1] #[jc x.2] (by rw[avz];omega)
  refine⟨y4,y5,?_⟩;rw[List.map_cons,fG (Z1:=[x0,#[nD],#[.int lo],some (.mut (acc.map Ear.rD)),#[.int x.1],#[jc x.2],x6,x7,x8]) (by simp) hs,h2,<-hz];congr 6;rw[avD]
  split<;>simp
def agk(c:aD):qU 0 (c.bs.map jc)=(c.bs.mapIdx λi b=>(i,b)).map λx=>.tuple [.int (x.1:Int),jc x.2]:=by unfold qU;apply avp;intro j;simp![ava,avG];cases c.bs[j]?<;>simp
def aeG(M:Mo)(c:aD)(hh:c.held.length<=2000)(hb:c.bs.length<=2000)(nD:Dat)(near:ListInt)(hn:∀y,inD false (.int y) nD=.ok (.bool (decide (y∈near))))(lo:Int):Cy M [cQ c,nD,.int lo]=.ok (.list ((bG (inR c near++Jo c lo near)).map Ear.rD)):=by
 have k1:=gj (tg:=aX [6,7,8]) (tt:=dW (aK (inD false) (7) (1))) (te:=aP #[(6:),(8:)]) (M:=M) (Z:=[#[cQ c],#[nD],#[.int lo],none,none,none,none,none,none]) gq (λr=>decide (r.2.1∈near)) (λr=>Ear.rD (r.1,r.2.2)) c.held λr _=>⟨[#[cQ c],#[nD],#[.int lo],none,none,none,#[.int r.1],#[.int r.2.1],#[aH r.2.2]],by simp[gq],by simp[hn],λ_=>by simp[Ear.rD,Ear.dT]⟩;have e1:((c.held.filter λr=>decide (r.2.1∈near)).map λr=>Ear.rD (r.1,r.2.2))=(inR c near).map Ear.rD:=by simp[inR,avk]
 rw[e1]at k1;have l1:(inR c near).length<=2000:=by unfold inR;rw[au3];exact ave (au6 _ _) hh
 let⟨y4,y5,k2⟩:=Zw M #[cQ c] none none none nD near hn lo (c.bs.mapIdx λi b=>(i,b)) (inR c near) none none (by simp;omega)
 rw[<-agk]at k2;have e2:((c.bs.mapIdx λi b=>(i,b)).filter λx=>(x.2.sd.due.isSome&&!(((x.1:Int)+1)==lo))&&(decide (x.2.sd.g∈near)&&x.2.sd.al)).map (λx=>(x.2.sd.o,x.2.sd.due.getD []))=Jo c lo near:=rfl;rw[e2]at k2;have l2:(Jo c lo near).length<=2000:=by unfold Jo;rw[au3];exact ave (au6 _ _) (by simp;omega)
 have k3:=akW M (inR c near++Jo c lo near) (by simp;omega);have h5:c.held.length<=50000:=#[];simp[-List.map_append,Cy,O2,k1,h5,k2,k3]
def Rwl(c:aD)(lo g:Int)(r:Rw):Prop:=(r.1,g,r.2)∈c.held\/∃(i:Nat) (b:cW),c.bs[i]?=some b/\b.sd.al=true/\b.sd.due=some r.2/\b.sd.o=r.1/\b.sd.g=g/\(i:Int)+1≠lo
def Rwl.all{c:aD}{lo g:Int}{r:Rw}(h:Rwl c lo g r):Rwl c 0 g r:=h.imp id λ⟨i,b,h1,h2,h3,h4,h5,_⟩=>⟨i,b,h1,h2,h3,h4,h5,#[]⟩
def acB(M:Mo)(c:aD)(hc:0<=c.count)(x head:Int):∃a b,wU M [.str "leave",.int x,bY c,.int head]=.ok (.tuple [.str "leave",.int a,.int b]):=by
 have P:=Xh x (Px (head/512));let⟨_,_,_,_,d4,_⟩:=aaL M P ((rowOf x 14 10).getD 2 0*10+(rowOf x 14 10).getD 3 0) ((rowOf x 14 10).getD 4 0*10+(rowOf x 14 10).getD 5 0) c.count c.al.length c.bs.length hc #[] #[]
 exact⟨_,_,aa9 M _ x head _ _ _ d4⟩
def eE(c:aD)(o g:Int):Int->Dat
 |0=>if Vg c g then .tuple [.str "",.int (roomOf c g)] else .tuple [.str "NoGround",.none]
 |1=>if Vg c g then .tuple [.str "",lI (aY c g)] else .tuple [.str "NoGround",.none]
 |2=>if Vg c g then .tuple [.str "",.list ((bG (cH c 0 g)).map Ear.rD)] else .tuple [.str "NoGround",.none]
 |_=>if o∈c.own then(if Vg c g then .tuple [.str "",.list ((bF c o g).map aH)] else .tuple [.str "NoGround",.none]) else .tuple [.str "NoOwner",.none]
section
variable{M:Mo}{L:Lay}{n s:Nat}{c:aD}(hL:L.c=0)(a:At M L c)(I:Inv n s c)(hs:s<=76)
include hL a I hs
theorem VH(o g:Int):mK M [ob 0,.int o,.int g]=if o∈c.own then(if Vg c g then .ok (.list ((bF c o g).map aH)) else .exc ⟨"NoGround",[]⟩) else .exc ⟨"NoOwner",[]⟩:=by
 have hc:=a.hc;have h1:=ju a o;have h2:=uK a g;have f0:=I.hL;have h3:=Fj a #[] o g;let⟨n1,m1,hg⟩:=a.hg
 have hr:=a.hr;rw[hL]at hc h1;by_cases q:o∈c.own
 .rw[awg q]at h1 |-
  by_cases v:Vg c g
  .rw[awg v]at h2 |-
   simp[mK,qD,hc,aA,ao,h1,au,hg,cX,h2,bU,hr,pq,h3]
  .rw[awh v]at h2 |-
   simp[mK,qD,hc,aA,ao,h1,au,hg,cX,h2]
 .rw[awh q]at h1 |-
  simp[mK,qD,hc,aA,ao,h1]
theorem amg(o g:Int)(w:Int)(hw:w=0\/w=1\/w=2\/w=3):rF M [ob 0,.int o,.int g,.int w]=.ok (eE c o g w):=by
 have hc:=a.hc;have f0:=I.hL;have h0:=sS a I.gr g;have h1:=pX a I.gr g;have h2:=nZ a I.gr #[] #[] g (by rw[fK a];exact ave (I.few λr hr=>jr hr) hs);rw[fK a]at h2;have h3:=VH hL a I hs o g;rw[hL]at hc h0 h1 h2;rcases hw with rfl|rfl|rfl|rfl
 .by_cases v:Vg c g
  .rw[awg v]at h0;simp[rF,vq,hc,aA,lA,h0,eE,v]
  .rw[awh v]at h0;simp[rF,vq,hc,aA,lA,h0,eE,v,qP]
 .by_cases v:Vg c g
  .rw[awg v]at h1;simp[rF,vq,hc,aA,cV,h1,eE,v]
  .rw[awh v]at h1;simp[rF,vq,hc,aA,cV,h1,eE,v,qP]
 .by_cases v:Vg c g
  .rw[awg v]at h2;simp[rF,vq,hc,aA,aQ,h2,eE,v]
  .rw[awh v]at h2;simp[rF,vq,hc,aA,aQ,h2,eE,v,qP]
 .by_cases q:o∈c.own
  .rw[awg q]at h3;by_cases v:Vg c g
   .rw[awg v]at h3;simp[rF,vq,hc,aA,dh,h3,eE,v,q]
   .rw[awh v]at h3;simp[rF,vq,hc,aA,dh,h3,eE,v,q,qP]
  .rw[awh q]at h3;simp[rF,vq,hc,aA,dh,h3,eE,q,qP,Lq]
end
def ak8(c:aD)(o g w:Int):lk 9 (eE c o g w)=true:=by
 have hr:∀r:Rw,lk 7 (Ear.rD r)=true:=λr=>by simp[Ear.rD,Ear.dT,lk,jU]
 have hR:∀R:List Rw,jU 7 (R.map Ear.rD)=true:=λR=>iU.mpr λd hd=>by
  let⟨r,_,rfl⟩:=au2.mp hd
  exact hr r
 have hm:∀l:List ListInt,jU 7 (l.map aH)=true:=λl=>iU.mpr λd hd=>by
  let⟨r,_,rfl⟩:=au2.mp hd
  simp[lk]
 unfold eE
 split<;>(split<;>first | (split<;>simp[lk,jU,hm]) | simp[lk,jU,hR,hm])
def Yr{c0:aD}{head:Int}(h0:0<=c0.count){M:Mo}{L:Lay}{n s:Nat}{c:aD}(hL:L.c=0)(a:At M L c)(I:Inv n s c)(hs:s<=76)(hn:n<=199)(x:Int):uL M [ob 0,.int x,bY c0,.int head]=.ok (.bool true):=by
 have f0:=I.hL;let⟨a1,b1,q1⟩:=acB M c0 h0 x head
 let⟨o,q2⟩:=afO M a1 x 3
 let⟨g,q3⟩:=afO M b1 x 4
 have l1:=adk a I #[];have l2:=Oh a;have hc:=a.hc;rw[hL]at l1 l2 hc;have k0:jD 10 M [lI c.own,lI c.own]=.ok (.bool true):=RB M 9 _ (by simp[lk]);have k2:=afK M c;have x4:ixN 4 3=some 3:=rfl;have h2:=Vi M c g;have i1:=Bh true o c.own;have t:=λw hw=>amg hL a I hs o g w hw;have kt:=λw=>RB M 9 _ (ak8 c o g w);have loop:∀x4 x9 x10 x11 x12:Option Cell,eY (aq 12) O4 (iw 0 4) M [#[ob 0],#[.int x],#[bY c0],#[.int head],x4,#[.int o],#[.int g],#[cQ c],some (.mut [eE c o g 0,eE c o g 1,eE c o g 2,eE c o g 3]),x9,x10,x11,x12]=.next [#[ob 0],#[.int x],#[bY c0],#[.int head],x4,#[.int o],#[.int g],#[cQ c],some (.mut [eE c o g 0,eE c o g 1,eE c o g 2,eE c o g 3]),x9,x10,x11,#[.int 3]] M:=by intro x4 x9 x10 x11 x12;have r4:iw 0 4=[.int 0,.int 1,.int 2,.int 3]:=rfl;have t0:=t 0 (.inl rfl);have t1:=t 1 (.inr (.inl rfl));have t2:=t 2 (.inr (.inr (.inl rfl)));have t3:=t 3 (.inr (.inr (.inr rfl)));have u0:=kt 0;have u1:=kt 1;have u2:=kt 2;have u3:=kt 3;rw[r4];generalize eE c o g 0=d0 at *;generalize eE c o g 1=d1 at *;generalize eE c o g 2=d2 at *;generalize eE c o g 3=d3 at *;generalize bY c0=k at *;simp[eY,O4,t0,t1,t2,t3,u0,u1,u2,u3]
 by_cases v:Vg c g
 .rw[decide_eq_true v]at h2;have hci:=I.gr.at v;have r1:=aew v;have r2:=aeG M c #[] #[] (lI (aY c g)) (aY c g) (λy=>by have:=Bh false y (aY c g);simpa using this) 0;have es:inR c (aY c g)++Jo c 0 (aY c g)=cH c 0 g:=rfl;rw[es]at r2;have r3:=ae8 M c I.gr g v;have r5:=acz M c #[] o g;by_cases q:o∈c.own
  .rw[decide_eq_true q]at i1;have e0:eE c o g 0=.tuple [.str "",.int (roomOf c g)]:=awg v
   have e1:eE c o g 1=.tuple [.str "",lI (aY c g)]:=awg v
   have e2:eE c o g 2=.tuple [.str "",.list ((bG (cH c 0 g)).map Ear.rD)]:=awg v
   have e3:eE c o g 3=.tuple [.str "",.list ((bF c o g).map aH)]:=by show(if _ then(if _ then _ else _) else _)=_;rw[awg q,awg v]
   rw[e0,e1,e2,e3]at loop;generalize (bG (cH c 0 g)).map Ear.rD=T at *;generalize (bF c o g).map aH=G at *;generalize bY c0=k at *;simp![uL,Ew];simp[q1,q2,q3,hc,aA,fV,l1,cP,l2,k0,h2,r1,r2,r3,r5,i1,x4,loop,k2]
  .rw[decide_eq_false q]at i1;have e0:eE c o g 0=.tuple [.str "",.int (roomOf c g)]:=awg v
   have e1:eE c o g 1=.tuple [.str "",lI (aY c g)]:=awg v
   have e2:eE c o g 2=.tuple [.str "",.list ((bG (cH c 0 g)).map Ear.rD)]:=awg v
   have e3:eE c o g 3=.tuple [.str "NoOwner",.none]:=awh q
   rw[e0,e1,e2,e3]at loop;generalize (bG (cH c 0 g)).map Ear.rD=T at *;generalize (bF c o g).map aH=G at *;generalize bY c0=k at *;simp![uL,Ew];simp[q1,q2,q3,hc,aA,fV,l1,cP,l2,k0,h2,r1,r2,r3,r5,i1,x4,loop,k2]
 .rw[decide_eq_false v]at h2;have e0:eE c o g 0=.tuple [.str "NoGround",.none]:=awh v
  have e1:eE c o g 1=.tuple [.str "NoGround",.none]:=awh v
  have e2:eE c o g 2=.tuple [.str "NoGround",.none]:=awh v
  by_cases q:o∈c.own
  .rw[decide_eq_true q]at i1;have e3:eE c o g 3=.tuple [.str "NoGround",.none]:=by show(if _ then(if _ then _ else _) else _)=_;rw[awg q,awh v]
   rw[e0,e1,e2,e3]at loop;generalize bY c0=k at *;simp![uL,Ew];simp[q1,q2,q3,hc,aA,fV,l1,cP,l2,k0,h2,i1,x4,loop,k2]
  .rw[decide_eq_false q]at i1;have e3:eE c o g 3=.tuple [.str "NoOwner",.none]:=awh q
   rw[e0,e1,e2,e3]at loop;generalize bY c0=k at *;simp![uL,Ew];simp[q1,q2,q3,hc,aA,fV,l1,cP,l2,k0,h2,i1,x4,loop,k2]
def WL(e:ListInt)(R:List Rw)(room:Int):ListInt:=Cr ((R.filter λr=>Cm r.2 e&&decide (qH r.2 e<=room)).map (·.1))
def agf(M:Mo)(x y:ListInt)(h:x.length<=1000):Bb M [aH x,aH y]=.ok (.bool (Cm x y)):=by
 have key:=dw (tg:=aX [2,3]) (te:=aK sJ (2) (3)) (M:=M) (Z:=[#[aH x],#[aH y],none,none]) pD (λp=>.bool (decide (p.1<=p.2))) (x.zip y) λp _=>⟨[#[aH x],#[aH y],#[.int p.1],#[.int p.2]],by simp[pD],by simp⟩;have hz2:min x.length y.length<=50000:=#[];have hb:FW (.list ((x.zip y).map λp=>PyData.bool (decide (p.1<=p.2))))=.ok (.bool (Cm x y)):=by
  have:=yR ((x.zip y).map λp=>decide (p.1<=p.2));rw[avh]at this
  show(match qY ((x.zip y).map λp=>PyData.bool (decide (p.1<=p.2))) with
   |some bs=>Out.ok (PyData.bool (bs.all id))
   |none=>.bad)=_
  have this:qY ((x.zip y).map λp=>PyData.bool (decide (p.1<=p.2)))=_:=this;rw[this];simp[Cm,List.all_map,avk]
 simp[Bb,Uv,Fq,key,hz2,hb]
def abY(M:Mo)(e:ListInt)(R:List Rw)(room:Int)(he:e.length<=1000)(hR:u5 R)(hl:R.length<=1000):uJ M [aH e,.list (R.map Ear.rD),.int room]=.ok (aH (WL e R room)):=by
 have key:=gj (tg:=aX [3,4]) (tt:=jP (gQ (aN Bb #[(4:),(0:)])) (dW (aK sJ (aN pU #[(4:),(0:)]) (2)))) (te:=BW 3) (M:=M) (Z:=[#[aH e],#[.list (R.map Ear.rD)],#[.int room],none,none]) Ear.rD (λr=>Cm r.2 e&&decide (qH r.2 e<=room)) (λr=>.int r.1) R λr hr=>by
  have h1:=agf M r.2 e (by rw[hR r hr];decide);have h2:=MF M r.2 e (by rw[hR r hr];decide);have hd:(aX [3,4]) (Ear.rD r) [#[aH e],#[.list (R.map Ear.rD)],#[.int room],none,none]=some [#[aH e],#[.list (R.map Ear.rD)],#[.int room],#[.int r.1],#[aH r.2]]:=rfl;refine⟨_,hd,?_,λ_=>by simp⟩;cases hq:Cm r.2 e with
  |true=>
   rw[hq]at h1;simp[h1,h2]
  |false=>
   rw[hq]at h1;simp[h1]
 have hi:intsOf ((R.filter λr=>Cm r.2 e&&decide (qH r.2 e<=room)).map λr=>PyData.int r.1)=some ((R.filter λr=>Cm r.2 e&&decide (qH r.2 e<=room)).map (·.1)):=by have:=ni ((R.filter λr=>Cm r.2 e&&decide (qH r.2 e<=room)).map (·.1));rw[avh]at this;exact this
 have hl2:(R.filter λr=>Cm r.2 e&&decide (qH r.2 e<=room)).length<=4000:=ave (au6 _ _) #[];have hl3:R.length<=50000:=#[];simp[uJ,Ju,key,hi,hl2,hl3,WL]
def Ip(c:aD)(x:Int)(p:Nat×cW):Dat:=.tuple [.int ((p.1:Int)+1),aH p.2.sd.ear,match p.2.sd.due with
 |none=>.none
 |some _=>aH (WL p.2.sd.ear (bG (cH c 0 x)) (roomOf c x))]
def aam(c:aD)(x:Int):List (Nat×cW):=(c.bs.mapIdx λi b=>(i,b)).filter λp=>decide (p.2.sd.g∈aY c x)&&p.2.sd.al
def agL{M:Mo}{L:Lay}{n s:Nat}{c:aD}(a:At M L c)(I:Inv n s c)(hs:s<=76)(x:Int)(hx:Vg c x):sW M [ob L.c,.int x]=.ok (.list ((aam c x).map (Ip c x))):=by
 have f0:=I.hL;have hc:=a.hc;let⟨nh,hh⟩:=a.hh
 have h3:=nZ a I.gr #[] #[] x (by rw[fK a];exact ave (I.few λr hr=>jr hr) hs);rw[awg hx,fK a]at h3;have h4:=sS a I.gr x;rw[awg hx]at h4;have h5:=pX a I.gr x;rw[awg hx]at h5;have h6:=Lh a #[] (aY c x);have hlT:(bG (cH c 0 x)).length<=1000:=by rw[sU];exact ave (I.few λr hr=>jr hr) #[]
 have key:=dw (tg:=aX [4,5]) (te:=aP #[(4:),fD "ear" (5),J8 (dW (vB false .none (bf "due" (5)))) (qC .none) (aN uJ #[fD "ear" (5),(2:),(3:)])]) (M:=M) (Z:=[#[ob L.c],#[.int x],#[.list ((bG (cH c 0 x)).map Ear.rD)],#[.int (roomOf c x)],none,none]) nb (λp=>Ip c x (p.1,p.2.2)) ((bK L c).filter λx_1=>decide (x_1.2.2.sd.g∈aY c x)&&x_1.2.2.sd.al) λp hp=>by
  let⟨hp1,_⟩:=avj.mp hp
  let⟨nb',hb⟩:=a.hb' hp1
  have hel:=gA (I.ear _ (au4 (Dk hp1).2));refine⟨[#[ob L.c],#[.int x],#[.list ((bG (cH c 0 x)).map Ear.rD)],#[.int (roomOf c x)],#[.int ((p.1:Int)+1)],#[ob p.2.1]],by simp[nb],?_⟩;have ho:=abY M p.2.2.sd.ear (bG (cH c 0 x)) (roomOf c x) #[] (vD I.Mv) hlT;cases hd:p.2.2.sd.due with
  |none=>simp[hb,hd,mY,iZ,Ip]
  |some d=>simp[hb,hd,mY,iZ,Ip,ho]
 have e:((bK L c).filter λx_1=>decide (x_1.2.2.sd.g∈aY c x)&&x_1.2.2.sd.al).map (λp=>Ip c x (p.1,p.2.2))=(aam c x).map (Ip c x):=by unfold aam;rw[<-CN a,List.filter_map,avh];rfl
 rw[e]at key;have hl:((bK L c).filter λx_1=>decide (x_1.2.2.sd.g∈aY c x)&&x_1.2.2.sd.al).length<=50000:=ave (au6 _ _) (by rw[a.len'];omega);simp[sW,yC,hc,aA,aQ,bH,bJ,fQ,h3,h4,h5,hh,dJ,h6,key,hl]
def acw{M:Mo}{L:Lay}{n s:Nat}{c:aD}(hL:L.c=0)(a:At M L c)(I:Inv n s c)(hs:s<=76)(hn:n<=400){k:Int}{b:cW}(hk:bk c k=some b):qZ M [ob 0,.int k]=.ok (.list (b.fi.dat::b.en.map En.dat)):=by
 have f0:=I.hL;have hc:=a.hc;let⟨nh,hh⟩:=a.hh
 have h1:=Em a #[] hk;let⟨hb1,hb2,hb3⟩:=uE hk
 let⟨_,_,_,_,nb',hM⟩:=rO a hk
 have he:=I.en _ (au4 hb1);have hl:b.en.length<=99998:=#[];rw[hL]at hc;simp[qZ,w6,hc,aA,hh,dJ,dX,h1,hM,iB,hl]
def Ra(c:aD)(k:Int):ListInt:=((c.bs.mapIdx λi b=>(i,b)).filter λx=>vf k x.2&&x.2.sd.al).map λx=>(x.1:Int)+1
def acE{M:Mo}{L:Lay}{n s:Nat}{c:aD}(hL:L.c=0)(a:At M L c)(I:Inv n s c)(hs:s<=76){k:Int}{b:cW}(hk:bk c k=some b):tV M [ob 0,.int k]=.ok (lI (Ra c k)):=by
 have f0:=I.hL;have hc:=a.hc;let⟨nh,hh⟩:=a.hh
 rw[hL]at hc;have h3:=Y7 a #[] k;rw[hk]at h3;have hl2:((bK L c).filter λx=>vf k x.2.2&&x.2.2.sd.al).length<=50000:=ave (au6 _ _) (by rw[a.len'];omega);have e:Ra c k=((bK L c).filter λx=>vf k x.2.2&&x.2.2.sd.al).map λx=>(x.1:Int)+1:=by unfold Ra;rw[<-CN a,List.filter_map,avh];rfl
 rw[e];generalize ((bK L c).filter λx=>vf k x.2.2&&x.2.2.sd.al)=T at h3 hl2;have key2:=dw (tg:=aX [2,3]) (te:=BW 2) (M:=M) (Z:=[#[ob 0],#[.int k],none,none]) nb (λx=>.int ((x.1:Int)+1)) T λx hx=>⟨[#[ob 0],#[.int k],#[.int ((x.1:Int)+1)],#[ob x.2.1]],by simp[nb],by simp⟩;have e:T.map (λx=>PyData.int ((x.1:Int)+1))=(T.map λx=>(x.1:Int)+1).map PyData.int:=by simp
 show _=Out.ok (PyData.list _);rw[<-e];simp[tV,yw,hc,aA,hh,dJ,oV,h3,key2,hl2]
def ah1{M:Mo}{L:Lay}{n s:Nat}{c:aD}(hL:L.c=0)(a:At M L c)(I:Inv n s c)(hs:s<=76)(o g:Int)(e:ListInt)(q0:o∈c.own)(v:Vg c g)(q:cY e=true):wM M [ob 0,.int o,.int g,aH e]=.ok (.list ((Bq o e (bG (cH c 0 g)) (roomOf c g)).map Ear.rD)):=by
 have f0:=I.hL;have hc:=a.hc;let⟨n1,m1,hg⟩:=a.hg
 have h0:=ju a o;have h1:=uK a g;have h2:=Jp M e (by rw[gA q];decide);rw[hL]at hc h0;rw[awg q0]at h0;rw[awg v]at h1;rw[awg q]at h2;have f1:=I.few (R:=cH c 0 g) λr hr=>jr hr;have h3:=nZ a I.gr #[] #[] g (by rw[fK a];exact ave f1 hs);rw[awg v,fK a]at h3;have h4:=sS a I.gr g;rw[awg v]at h4;have h5:=V3 M o e (bG (cH c 0 g)) (roomOf c g) (gA q) (vD I.Mv) (TF (ave f1 hs));rw[hL]at h3 h4;simp[wM,BJ,hc,aA,ao,h0,hg,cX,au,h1,h2,aQ,h3,bH,h4,h5]
def Ask(c:aD)(w x y:Int):Prop:=w=0\/w=1\/(w=2/\Vg c x)\/(w=3/\Vg c x)\/(w=4/\Vg c x)\/(w=5/\Vg c x/\y∈c.own)\/(w=6/\∃b,bk c x=some b)\/(w=7/\∃b,bk c x=some b)\/(w=8/\Vg c x/\Vg c y)\/(w=9/\Vg c x/\y∈c.own)
def aiC{M:Mo}{L:Lay}{n s:Nat}{c:aD}(hL:L.c=0)(a:At M L c)(I:Inv n s c)(hs:s<=76)(hn:n<=400){w x y:Int}(h:Ask c w x y):∃ds,qN M [ob 0,.int w,.int x,.int y]=.ok (.list ds)/\jU 7 ds=true:=by
 have f0:=I.hL;have hc:=a.hc;let⟨nh,hh⟩:=a.hh
 rw[hL]at hc;have lR:∀R:List Rw,jU 7 (R.map Ear.rD)=true:=λR=>iU.mpr λd hd=>by
  let⟨r,_,rfl⟩:=au2.mp hd
  simp[Ear.rD,Ear.dT,lk,jU]
 rcases h with rfl|rfl|⟨rfl,v⟩|⟨rfl,v⟩|⟨rfl,v⟩|⟨rfl,v,q⟩|⟨rfl,b,hk⟩|⟨rfl,b,hk⟩|⟨rfl,v,v2⟩|⟨rfl,v,q⟩
 .have h1:=Oh a;rw[hL]at h1;exact⟨c.own.map PyData.int,by simp[qN,uz,hc,aA,cP,h1],by simp⟩
 .have h1:=aip a #[];have h2:u9 M [ob 0]=.ok (tallyD (c.bs.filter λb=>b.sd.al)):=by
   simp[u9,zG,hc,aA,hh,dJ,Dt,h1]
  refine⟨(Q6 ((uG (c.bs.filter λb=>b.sd.al)).map (·.1))).map (abo (uG (c.bs.filter λb=>b.sd.al))),?_,iU.mpr λd hd=>?_⟩
  .show _=Out.ok (tallyD _);generalize tallyD (c.bs.filter λb=>b.sd.al)=T at *;simp[qN,uz,hc,aA,rR,h2]
  .let⟨r,_,rfl⟩:=au2.mp hd
   simp[abo,lk,jU]
 .have h1:=pX a I.gr x;rw[awg v,hL]at h1;exact⟨(aY c x).map PyData.int,by simp[qN,uz,hc,aA,cV,h1],by simp⟩
 .have h1:=nZ a I.gr #[] #[] x (by rw[fK a];exact ave (I.few λr hr=>jr hr) hs);rw[awg v,hL]at h1;exact⟨_,by simp[qN,uz,hc,aA,aQ,h1];rfl,lR _⟩
 .have h1:=agL a I hs x v;rw[hL]at h1;refine⟨(aam c x).map (Ip c x),by simp[qN,uz,hc,aA,wZ,h1],iU.mpr λd hd=>?_⟩;let⟨p,_,rfl⟩:=au2.mp hd
  unfold Ip;cases p.2.sd.due<;>simp[lk,jU]
 .have h1:=VH hL a I hs y x;rw[awg q,awg v]at h1;refine⟨(bF c y x).map aH,by simp[qN,uz,hc,aA,dh,h1],iU.mpr λd hd=>?_⟩;let⟨p,_,rfl⟩:=au2.mp hd
  simp[lk]
 .have h1:=acE hL a I hs hk;exact⟨(Ra c x).map PyData.int,by simp[qN,uz,hc,aA,qQ,h1],by simp⟩
 .have h1:=acw hL a I hs hn hk;refine⟨b.fi.dat::b.en.map En.dat,by simp[qN,uz,hc,aA,vU,h1],?_⟩;rw[jU,ajl 5,Bool.true_and,iU];intro d hd;let⟨e,_,rfl⟩:=au2.mp hd
  exact ajn 5 e
 .have h1:=adn a I hs #[] x y v v2;rw[hL]at h1;refine⟨_,by simp[qN,uz,hc,aA,gR,h1];rfl,iU.mpr λd hd=>?_⟩;let⟨p,_,rfl⟩:=au2.mp hd
  simp[pairD,lk,jU,Ear.rD,Ear.dT]
 .have h1:=ah1 hL a I hs y x [0,0,0,0,0,1] q v #[()];have e:aH [0,0,0,0,0,1]=.tuple [.int 0,.int 0,.int 0,.int 0,.int 0,.int 1]:=rfl;rw[e]at h1;refine⟨_,by simp[qN,uz,hc,aA,zu,h1];rfl,lR _⟩
abbrev Tri:=Int×Int×Int
def iy(t:Tri):Dat:=.tuple [.int t.1,.int t.2.1,.int t.2.2]
def Asks(c:aD)(l:List Tri):Prop:=∀t∈l,Ask c t.1 t.2.1 t.2.2
def Iw(c:aD)(k:Int):List Tri:=[(2,k,0),(3,k,0),(4,k,0),(8,1,k)]++(c.own.take 3).map (λo=>(5,k,o))++(c.own.take 2).map (λo=>(9,k,o))
def ahK{c:aD}{k:Int}(v1:Vg c 1)(v:Vg c k):Asks c (Iw c k):=by
 intro t ht;unfold Iw at ht;simp![au8,au7,avm,or_false,au2]at ht;unfold Ask;rcases ht with((rfl|rfl|rfl|rfl)|⟨o,ho,rfl⟩)|⟨o,ho,rfl⟩
 .simp;exact v
 .simp;exact v
 .simp;exact v
 .simp;exact⟨v1,v⟩
 .simp[avF ho];exact v
 .simp[avF ho];exact v
def agx(c:aD)(k:Int):(Iw c k).length<=9:=by unfold Iw;simp;omega
def acR(M:Mo)(c:aD)(as:List Tri)(hl:as.length<=1000)(k:Int)(x2 x5 x6 x7 x8 x9:Option Cell):CJ M [#[ob 0],#[cQ c],x2,#[.list (as.map iy)],#[.int k],x5,x6,x7,x8,x9]=.next [#[ob 0],#[cQ c],x2,#[.list ((as++Iw c k).map iy)],#[.int k],x5,x6,x7,x8,x9] M:=by
 have c3:Rf.cutD (c.own.map PyData.int) none (some 3)=(c.own.take 3).map PyData.int:=by rw[show(3:Int)=((3:Nat):Int) from rfl,T9,List.map_take]
 have c2:Rf.cutD (c.own.map PyData.int) none (some 2)=(c.own.take 2).map PyData.int:=by rw[show(2:Int)=((2:Nat):Int) from rfl,T9,List.map_take]
 have k3:=λx3=>dw (tg:=aq 9) (te:=aP #[#[5],(4:),(9:)]) (M:=M) (Z:=[#[ob 0],#[cQ c],x2,x3,#[.int k],x5,x6,x7,x8,none]) PyData.int (λo=>iy (5,k,o)) (c.own.take 3) λo _=>⟨[#[ob 0],#[cQ c],x2,x3,#[.int k],x5,x6,x7,x8,#[.int o]],by simp,by simp[iy]⟩;have k2:=λx3=>dw (tg:=aq 9) (te:=aP #[#[9],(4:),(9:)]) (M:=M) (Z:=[#[ob 0],#[cQ c],x2,x3,#[.int k],x5,x6,x7,x8,none]) PyData.int (λo=>iy (9,k,o)) (c.own.take 2) λo _=>⟨[#[ob 0],#[cQ c],x2,x3,#[.int k],x5,x6,x7,x8,#[.int o]],by simp,by simp[iy]⟩;have l3:(c.own.take 3).length<=3:=by simp;omega
 have l2:(c.own.take 2).length<=2:=by simp;omega
 have g0:as.length+4<=100000:=#[];have g1:as.length+4+(c.own.take 3).length<=100000:=#[];have g2:as.length+4+(c.own.take 3).length+(c.own.take 2).length<=100000:=#[];have g3:as.length+((c.own.take 3).length+1+1+1+1)<=100000:=#[];have g4:as.length+((c.own.take 3).length+1+1+1+1)+(c.own.take 2).length<=100000:=#[];have h3:(c.own.take 3).length<=50000:=#[];have h2:(c.own.take 2).length<=50000:=#[];have e:(as++Iw c k).map iy=as.map iy++[iy (2,k,0),iy (3,k,0),iy (4,k,0),iy (8,1,k)]++(c.own.take 3).map (λo=>iy (5,k,o))++(c.own.take 2).map (λo=>iy (9,k,o)):=by simp[Iw];rfl
 rw[e];generalize c.own.take 3=o3 at *;generalize c.own.take 2=o2 at *;have d2:(PyData.tuple [.int 2,.int k,.int 0])=iy (2,k,0):=rfl;have d3:(PyData.tuple [.int 3,.int k,.int 0])=iy (3,k,0):=rfl;have d4:(PyData.tuple [.int 4,.int k,.int 0])=iy (4,k,0):=rfl;have d8:(PyData.tuple [.int 8,.int 1,.int k])=iy (8,1,k):=rfl;simp[CJ,c3,c2,k3,k2,h3,h2,g0,g1,g2,g3,g4,d2,d3,d4,d8]
theorem R6(M:Mo)(c:aD)(v1:Vg c 1)(x2 x5 x6 x7 x8 x9:Option Cell):∀(ks:ListInt) (as:List Tri) (x4:Option Cell),(∀k∈ks,Vg c k)->Asks c as->as.length+9*ks.length<=1000->∃bs y4,bs.length<=as.length+9*ks.length/\Asks c bs/\eY (aq 4) CJ (ks.map PyData.int) M [#[ob 0],#[cQ c],x2,#[.list (as.map iy)],x4,x5,x6,x7,x8,x9]=.next [#[ob 0],#[cQ c],x2,#[.list (bs.map iy)],y4,x5,x6,x7,x8,x9] M
 |[],as,x4,_,ha,_=>⟨as,x4,by simp,ha,rfl⟩
 |k::ks,as,x4,hk,ha,hl=>by
  rw[au5]at hl;have hm:=agx c k;let⟨bs,y4,h1,h2,h3⟩:=R6 M c v1 x2 x5 x6 x7 x8 x9 ks (as++Iw c k) #[.int k] (λz hz=>hk z (auY _ hz)) (λt ht=>by
   rcases au8.mp ht with ht|ht
   .exact ha t ht
   .exact ahK v1 (hk k auX) t ht) (by simp;omega)
  refine⟨bs,y4,by simp at h1 |-;omega,h2,?_⟩;rw[List.map_cons,fG (Z1:=[#[ob 0],#[cQ c],x2,#[.list (as.map iy)],#[.int k],x5,x6,x7,x8,x9]) (by simp) (acR M c as #[] k x2 x5 x6 x7 x8 x9)];exact h3
def Bn(c:aD)(k:Int):Prop:=∃b,bk c k=some b
theorem RQ(M:Mo)(c:aD)(x2 x5 x6 x7 x8 x9:Option Cell):∀(ks:ListInt) (as:List Tri) (x4:Option Cell),(∀k∈ks,Bn c k)->Asks c as->as.length+2*ks.length<=1000->∃bs y4,bs.length<=as.length+2*ks.length/\Asks c bs/\eY (aq 4) Qv (ks.map PyData.int) M [#[ob 0],#[cQ c],x2,#[.list (as.map iy)],x4,x5,x6,x7,x8,x9]=.next [#[ob 0],#[cQ c],x2,#[.list (bs.map iy)],y4,x5,x6,x7,x8,x9] M
 |[],as,x4,_,ha,_=>⟨as,x4,by simp,ha,rfl⟩
 |k::ks,as,x4,hk,ha,hl=>by
  rw[au5]at hl;let⟨bs,y4,h1,h2,h3⟩:=RQ M c x2 x5 x6 x7 x8 x9 ks (as++[(6,k,0),(7,k,0)]) #[.int k] (λz hz=>hk z (auY _ hz)) (λt ht=>by
   have hb:=hk k auX;rcases au8.mp ht with ht|ht
   .exact ha t ht
   .simp![au7,avm,or_false]at ht;unfold Ask;rcases ht with rfl|rfl
    .simp;exact hb
    .simp;exact hb) (by simp;omega)
  refine⟨bs,y4,by simp at h1 |-;omega,h2,?_⟩;have g0:as.length+2<=100000:=#[];have d6:(PyData.tuple [.int 6,.int k,.int 0])=iy (6,k,0):=rfl;have d7:(PyData.tuple [.int 7,.int k,.int 0])=iy (7,k,0):=rfl;rw[List.map_cons,fG (Z1:=[#[ob 0],#[cQ c],x2,#[.list (as.map iy)],#[.int k],x5,x6,x7,x8,x9]) (by simp) (Z2:=[#[ob 0],#[cQ c],x2,#[.list ((as++[(6,k,0),(7,k,0)]).map iy)],#[.int k],x5,x6,x7,x8,x9]) (M2:=M) (by simp[Qv,g0,d6,d7])];exact h3
def pJ(d:Dat):Dat:=.tuple [d,d]
def Wd(d:Dat):Prop:=∃ds,d=.list ds/\jU 7 ds=true
theorem SN{M:Mo}{L:Lay}{n s:Nat}{c:aD}(hL:L.c=0)(a:At M L c)(I:Inv n s c)(hs:s<=76)(hn:n<=400)(x1 x3 x4 x9:Option Cell):∀(as:List Tri) (kept:List Dat) (x5 x6 x7 x8:Option Cell),Asks c as->(∀d∈kept,Wd d)->kept.length+as.length<=5000->∃(kept':List Dat) (y5 y6 y7 y8:Option Cell),(∀d∈kept',Wd d)/\kept'.length<=kept.length+as.length/\eY (aX [5,6,7]) Qp (as.map iy) M [#[ob 0],x1,some (.mut (kept.map pJ)),x3,x4,x5,x6,x7,x8,x9]=.next [#[ob 0],x1,some (.mut (kept'.map pJ)),x3,x4,y5,y6,y7,y8,x9] M
 |[],kept,x5,x6,x7,x8,_,hk,_=>⟨kept,x5,x6,x7,x8,hk,by simp,rfl⟩
 |t::as,kept,x5,x6,x7,x8,ha,hk,hl=>by
  rw[au5]at hl;let⟨ds,h1,h2⟩:=aiC hL a I hs hn (ha t auX)
  let⟨kept',y5,y6,y7,y8,e1,e2,e3⟩:=SN hL a I hs hn x1 x3 x4 x9 as (kept++[PyData.list ds]) #[.int t.1] #[.int t.2.1] #[.int t.2.2] #[.list ds] (λz hz=>ha z (auY _ hz)) (λd hd=>by
   rcases au8.mp hd with hd|hd
   .exact hk d hd
   .rw[au0.mp hd];exact⟨ds,rfl,h2⟩) (by simp;omega)
  refine⟨kept',y5,y6,y7,y8,e1,by simp at e2 |-;omega,?_⟩;have g0:kept.length<100000:=#[];rw[List.map_cons,fG (Z1:=[#[ob 0],x1,some (.mut (kept.map pJ)),x3,x4,#[.int t.1],#[.int t.2.1],#[.int t.2.2],x8,x9]) (by simp[iy]) (Z2:=[#[ob 0],x1,some (.mut ((kept++[PyData.list ds]).map pJ)),x3,x4,#[.int t.1],#[.int t.2.1],#[.int t.2.2],#[.list ds],x9]) (M2:=M) (by simp[Qp,h1,g0,pJ])];exact e3
def ahu(n:Nat):iw 1 n=((List.range n).map λi:Nat=>(i:Int)+1).map PyData.int:=by unfold iw;rw[avh];refine List.map_congr_left λi _=>?_;show PyData.int (1+(i:Int))=PyData.int ((i:Int)+1);rw[Int.add_comm]
def YZ{M:Mo}{L:Lay}{n s:Nat}{c:aD}(hL:L.c=0)(a:At M L c)(I:Inv n s c)(hs:s<=76)(hn:n<=400):∃kept:List Dat,(∀d∈kept,Wd d)/\kept.length<=1000/\Bt M [ob 0]=.ok (.list (kept.map pJ)):=by
 have l1:=adk a I #[];have hc:=a.hc;rw[hL]at l1 hc;have p1:∀n,jU (n+2) ((List.range c.al.length).map (Oc c))=true:=λn=>iU.mpr λd hd=>by
  let⟨e,_,rfl⟩:=au2.mp hd
  simp[Oc,lk,jU]
 have p2:∀n,jU (n+2) (c.held.map gq)=true:=λn=>iU.mpr λd hd=>by
  let⟨e,_,rfl⟩:=au2.mp hd
  simp[gq,lk,jU]
 have p3:∀n,jU (n+4) (c.bs.map jc)=true:=λn=>iU.mpr λd hd=>by
  let⟨e,_,rfl⟩:=au2.mp hd
  exact adl n e
 let rows:List Dat:=[lI c.own,.list ((List.range c.al.length).map (Oc c)),.list (c.held.map gq),.list (c.bs.map jc)]
 have hrows:∀d∈rows,Wd d:=by
  intro d hd;simp![rows,au7,avm,or_false]at hd;rcases hd with rfl|rfl|rfl|rfl
  .exact⟨_,rfl,by simp⟩
  .exact⟨_,rfl,p1 5⟩
  .exact⟨_,rfl,p2 5⟩
  .exact⟨_,rfl,p3 3⟩
 have hit:oY (cQ c)=.ok rows:=rfl;have key:=dw (tg:=aq 8) (te:=aP #[(8:),dZ zL (8)]) (M:=M) (Z:=[#[ob 0],#[cQ c],none,none,none,none,none,none,none,none]) (λd:Dat=>d) pJ rows λd hd=>⟨[#[ob 0],#[cQ c],none,none,none,none,none,none,#[d],none],by simp,by
  let⟨ds,rfl,_⟩:=hrows d hd
  simp[pJ]⟩
 rw[List.map_id']at key;have hrl:rows.length<=50000:=by simp[rows]
 have hrl4:rows.length=4:=rfl;obtain⟨N1,hN1,hN1b⟩:∃N1:Nat,(if (c.al.length:Int)<4 then(c.al.length:Int) else 4)=(N1:Int)/\N1<=4/\N1<=c.al.length:=by
  by_cases q:(c.al.length:Int)<4
  .exact⟨c.al.length,awg q,#[],#[]⟩
  .exact⟨4,awh q,#[],#[]⟩
 obtain⟨N2,hN2,hN2b⟩:∃N2:Nat,(if (c.bs.length:Int)<4 then(c.bs.length:Int) else 4)=(N2:Int)/\N2<=4/\N2<=c.bs.length:=by
  by_cases q:(c.bs.length:Int)<4
  .exact⟨c.bs.length,awg q,#[],#[]⟩
  .exact⟨4,awh q,#[],#[]⟩
 have t1:((1:Int)+(N1:Int)-1).toNat=N1:=#[];have t2:((1:Int)+(N2:Int)-1).toNat=N2:=#[];have as0:Asks c [(0,0,0),(1,0,0)]:=by intro t ht;simp![au7,avm,or_false]at ht;unfold Ask;rcases ht with rfl|rfl<;>simp
 have s1:∃bs y4,bs.length<=38/\Asks c bs/\eY (aq 4) CJ (iw 1 N1) M [#[ob 0],#[cQ c],some (.mut (rows.map pJ)),#[.list (List.map iy [(0,0,0),(1,0,0)])],none,none,none,none,none,none]=.next [#[ob 0],#[cQ c],some (.mut (rows.map pJ)),#[.list (bs.map iy)],y4,none,none,none,none,none] M:=by
  by_cases z:N1=0
  .subst z;exact⟨_,none,by simp,as0,rfl⟩
  .let⟨bs,y4,h1,h2,h3⟩:=R6 M c ⟨#[],#[]⟩ (some (.mut (rows.map pJ))) none none none none none ((List.range N1).map λi:Nat=>(i:Int)+1) [(0,0,0),(1,0,0)] none (λk hk=>by
    let⟨i,hi,rfl⟩:=au2.mp hk
    have:=List.mem_range.mp hi;exact⟨#[],#[]⟩) as0 (by simp;omega)
   rw[<-ahu]at h3;exact⟨bs,y4,by simp at h1;omega,h2,h3⟩
 let⟨b1,y4,hb1,ha1,f1⟩:=s1
 let⟨b2,z4,hb2,ha2,f2⟩:=RQ M c (some (.mut (rows.map pJ))) none none none none none ((List.range N2).map λi:Nat=>(i:Int)+1) b1 y4 (λk hk=>by
  let⟨i,hi,rfl⟩:=au2.mp hk
  have hi:=List.mem_range.mp hi;refine⟨c.bs[i]'#[],?_⟩;unfold bk;rw[awg ⟨#[],#[]⟩,show((i:Int)+1-1).toNat=i by omega];exact auV _) ha1 (by simp;omega)
 rw[<-ahu]at f2;let⟨kept,y5,y6,y7,y8,hk1,hk2,f3⟩:=SN hL a I hs hn #[cQ c] #[.list (b2.map iy)] z4 none b2 rows none none none none ha2 hrows (by simp at hb2;omega)
 refine⟨kept,hk1,by simp at hb2;omega,?_⟩;have e0:(PyData.list [.tuple [.int 0,.int 0,.int 0],.tuple [.int 1,.int 0,.int 0]])=.list (List.map iy [(0,0,0),(1,0,0)]):=rfl;have n1:((1:Int)+(N1:Int))<=100000:=#[];have n2:(-100000:Int)<=1+(N1:Int):=#[];have n3:((1:Int)+(N2:Int))<=100000:=#[];have n4:(-100000:Int)<=1+(N2:Int):=#[];generalize List.map iy [(0,0,0),(1,0,0)]=A0 at *;generalize rows.map pJ=R0 at *;generalize b1.map iy=A1 at *;generalize b2.map iy=A2 at *;generalize kept.map pJ=K0 at *;simp[Bt,Yi,hc,aA,fV,l1,hit,key,hrl,e0,hN1,hN2,n1,n2,n3,n4,t1,t2,f1,f2,f3]
mutual
theorem aoG:∀(n:Nat) (d:Dat),lk n d=true->lk (n+1) d=true
 |_,.none,_=>by simp[lk]
 |_,.bool _,_=>by simp[lk]
 |_,.int _,_=>by simp[lk]
 |_,.str _,_=>by simp[lk]
 |0,.list _,h=>by simp[lk]at h
 |0,.tuple _,h=>by simp[lk]at h
 |n+1,.list ds,h=>by
  rw[lk]at h |-
  exact V9 n ds h
 |n+1,.tuple ds,h=>by
  rw[lk]at h |-
  exact V9 n ds h
 |_,.dict _,h=>by simp[lk]at h
theorem V9:∀(n:Nat) (ds:List Dat),jU n ds=true->jU (n+1) ds=true
 |_,[],_=>by simp[jU]
 |n,d::ds,h=>by
  rw[jU,auU]at h;rw[jU,auU];exact⟨aoG n d h.1,V9 n ds h.2⟩
end
def agK{M:Mo}{L:Lay}{n s:Nat}{c:aD}(a:At M L c)(I:Inv n s c)(hs:s<=76)(hn:n<=199)(d:aW)(hd:wL d)(hf:jT d=true):∃M' bs r,iY M [ob L.c,d.dat,.tuple [.int 0,.int 0,.int 0]]=.ok r M'/\At M' { L with bs:=bs } (pF c d):=by
 have hc:=a.hc;have h0:=aap a I hs hn d hd hf;unfold pF;cases e:cJ c d with
 |no x=>
  rw[e]at h0;have h0:_=_:=h0;have h1:=Td e;exact⟨M,L.bs,.tuple [.int 0,.int 0,.int 0],by simp[iY,yV,hc,aA,eO,h0,h1,iZ],a⟩
 |ok r c'=>
  rw[e]at h0;let⟨M',bs,h0,h2⟩:=h0
  cases hr:iZ .none r with
  |true=>exact⟨M',bs,.tuple [.int 0,.int 0,.int 0],by simp[iY,yV,hc,aA,eO,h0,hr],h2⟩
  |false=>
   refine⟨M',bs,.tuple [.int (Uo d),.int (VB d),.int (Wx d)],?_,h2⟩;clear e hf hd;cases d<;>simp[iY,yV,hc,aA,eO,h0,hr,Uo,VB,Wx]<;>simp[aW.dat]
def agJ{M:Mo}{L:Lay}{n s:Nat}{c:aD}(hL:L.c=0)(a:At M L c)(I:Inv n s c)(hs:s<=76)(hn:n<=199)(d:aW)(hd:wL d)(hf:jT d=true)(hc:cost d=0)(x1 x2 x3 x4:Option Cell):∃M' L' c',L'.c=0/\At M' L' c'/\Inv (n+1) s c'/\Mj M [#[ob 0],x1,#[d.dat],x3,x4]=.next [#[ob 0],x1,#[d.dat],x3,x4] M':=by
 let⟨M',bs,r,h1,h2⟩:=agK a I hs hn d hd hf
 rw[hL]at h1;have I2:=M7 (s:=s) I d hn;rw[hc]at I2;refine⟨M',{ L with bs:=bs },pF c d,hL,h2,I2,?_⟩;generalize d.dat=D at *;simp[Mj,h1]
theorem Zh(x1 x3 x4:Option Cell):∀(ds:List aW) {M:Mo} {L:Lay} {n s:Nat} {c:aD},L.c=0->At M L c->Inv n s c->s<=76->n+ds.length<=199->(∀d∈ds,wL d/\jT d=true/\cost d=0)->∀x2,∃M' L' c' y2,L'.c=0/\At M' L' c'/\Inv (n+ds.length) s c'/\eY (aq 2) Mj (ds.map aW.dat) M [#[ob 0],x1,x2,x3,x4]=.next [#[ob 0],x1,y2,x3,x4] M'
 |[],M,L,n,s,c,hL,a,I,hs,hn,hd,x2=>⟨M,L,c,x2,hL,a,I,rfl⟩
 |d::ds,M,L,n,s,c,hL,a,I,hs,hn,hd,x2=>by
  rw[au5]at hn;let⟨d1,d2,d3⟩:=hd d auX
  let⟨M1,L1,c1,hL1,a1,I1,e1⟩:=agJ hL a I hs #[] d d1 d2 d3 x1 x2 x3 x4
  let⟨M2,L2,c2,y2,hL2,a2,I2,e2⟩:=Zh x1 x3 x4 ds hL1 a1 I1 hs #[] (λz hz=>hd z (auY _ hz)) #[d.dat]
  refine⟨M2,L2,c2,y2,hL2,a2,?_,?_⟩
  .rw[au5,show n+(ds.length+1)=n+1+ds.length by omega];exact I2
  .rw[List.map_cons,fG (Z1:=[#[ob 0],x1,#[d.dat],x3,x4]) (by simp) e1];exact e2
def aj8{M:Mo}{L:Lay}{n s:Nat}{c:aD}(hL:L.c=0)(a:At M L c)(I:Inv n s c)(hs:s<=76)(hn:n<=190):∃M',Ot M [ob 0]=.ok (.bool true) M':=by
 let⟨k0,hk0,hk1,q0⟩:=YZ hL a I hs #[]
 have o1:=aap a I hs #[] .owner awa rfl;let⟨M1,bs1,o1,a1⟩:=o1
 have I1:=SQ I #[] (rfl:cJ c .owner=_);have o2:=aap a1 I1 hs #[] (.ground 3) awa rfl;have e2:∀c:aD,cJ c (.ground 3)=.ok (.int (c.al.length+1)) { c with al:=c.al++[3],ci:=c.ci++[[(c.al.length:Int)+1]] }:=λc=>by
  simp[cJ]
 rw[e2]at o2;let⟨M2,bs2,o2,a2⟩:=o2
 have I2:=SQ I1 #[] (e2 _);rw[hL]at o1;have hL1:({ L with bs:=bs1 }:Lay).c=0:=hL;rw[hL1]at o2;have hL2:({ ({ L with bs:=bs1 }:Lay) with bs:=bs2 }:Lay).c=0:=hL;let⟨M3,L3,c3,y2,hL3,a3,I3,e3⟩:=Zh #[.list (k0.map pJ)] none none [.cut 1,.tear 1 2,.wJ 1 2,.pass 1 2,.die 1] hL2 a2 I2 hs (by simp;omega) (by
  intro d hd;simp![au7,avm,or_false]at hd;rcases hd with rfl|rfl|rfl|rfl|rfl<;>exact⟨awa,rfl,rfl⟩) none
 let⟨k3,_,_,q3⟩:=YZ hL3 a3 I3 hs (by simp;omega)
 have key:=λy2:Option Cell=>dw (tg:=aX [3,4]) (te:=aN (jD 10) #[(3:),(4:)]) (M:=M3) (Z:=[#[ob 0],#[.list (k0.map pJ)],y2,none,none]) pJ (λ_=>PyData.bool true) k0 λd hd=>⟨[#[ob 0],#[.list (k0.map pJ)],y2,#[d],#[d]],by simp[pJ],by
  let⟨ds,rfl,h7⟩:=hk0 d hd
  have h8:jD 10 M3 [.list ds,.list ds]=.ok (.bool true):=RB M3 9 _ (by rw[lk];exact V9 7 ds h7);simp[h8]⟩
 have ha:FW (.list (k0.map λ_=>PyData.bool true))=.ok (.bool true):=by
  have e:(k0.map λ_=>PyData.bool true)=(k0.map λ_=>true).map PyData.bool:=by rw[avh];rfl
  rw[e]
  show(match qY _ with
   |some bs=>Out.ok (PyData.bool (bs.all id))
   |none=>.bad)=_
  rw[yR];simp
 have hl:k0.length<=50000:=#[];have hc0:=a.hc;have hc1:=a1.hc;rw[hL]at hc0;rw[hL1]at hc1;have d1:aW.owner.dat=.tuple [.str "owner"]:=rfl
 have d2:(aW.ground 3).dat=.tuple [.str "ground",.int 3]:=rfl
 have dl:List.map aW.dat [.cut 1,.tear 1 2,.wJ 1 2,.pass 1 2,.die 1]=[.tuple [.str "cut",.int 1],.tuple [.str "tear",.int 1,.int 2],.tuple [.str "unite",.int 1,.int 2],.tuple [.str "pass",.int 1,.int 2],.tuple [.str "die",.int 1]]:=rfl
 rw[d1]at o1;rw[d2]at o2;rw[dl]at e3;have hkl:(k0.map pJ).length<=50000:=by rw[au3];exact hl
 generalize k0.map pJ=K0 at *;generalize k3.map pJ=K3 at *;refine⟨M3,?_⟩;simp[Ot,aaY,q0,hc0,aA,eO,o1,hc1,o2,e3,q3,key,hkl,ha]
section
variable{c0:aD}{head:Int}(R:∀{M:Mo} {L:Lay} {n s:Nat} {c:aD},L.c=0->At M L c->Inv n s c->s<=76->n<=199->∀x:Int,uL M [ob 0,.int x,bY c0,.int head]=.ok (.bool true))
include R
theorem R3{ns0:Option Cell}(x:Int)(x9:Option Cell):∀(xs:ListInt) {M:Mo} {L:Lay} {n s:Nat} {c:aD} (_:L.c=0) (_:At M L c) (_:Inv n s c) (_:s+xs.length<=76) (_:n+xs.length<=190) (x6 x7 x8:Option Cell),∃y5 y6 y7 y8 M' L' n' s' c',L'.c=0/\At M' L' c'/\Inv n' s' c'/\s'<=76/\n'<=190/\eY (aq 6) Kf (xs.map PyData.int) M [ns0,#[ob 0],#[.int head],#[.int x],#[bY c0],#[bY c],x6,x7,x8]=.next [ns0,#[ob 0],#[.int head],#[.int x],#[bY c0],y5,y6,y7,y8] M'
 |[],M,L,n,s,c,hL,a,I,hs,hn,x6,x7,x8=>⟨#[bY c],x6,x7,x8,M,L,n,s,c,hL,a,I,by simpa using hs,by simpa using hn,rfl⟩
 |y::xs,M,L,n,s,c,hL,a,I,hs,hn,x6,x7,x8=>by
  rw[au5]at hs hn;have h1:tY M [.int y,.int 14,.int 10]=.ok (lI (rowOf y 14 10)):=VR M y 14 10 #[()] #[()] #[()];let⟨r0,q0⟩:=j9 y 0 #[()]
  let⟨r1,q1⟩:=j9 y 1 #[()]
  let⟨r11,q11⟩:=j9 y 11 #[()]
  let⟨r12,q12⟩:=j9 y 12 #[()]
  let⟨r13,q13⟩:=j9 y 13 #[()]
  have hm:∀z,decide (CMul z 10)=true:=λz=>mul_r #[()];let⟨w1,hw1,h2⟩:=adW M ((rowOf y 14 10).getD 0 0*10+(rowOf y 14 10).getD 1 0)
  let⟨w2,hw2,h3⟩:=alm ((rowOf y 14 10).getD 11 0)
  generalize rowOf y 14 10=p at *;generalize p.getD 0 0=d0 at *;generalize p.getD 1 0=d1 at *;generalize p.getD 11 0=d11 at *;generalize p.getD 12 0=d12 at *;generalize p.getD 13 0=d13 at *;simp![Int.natCast_zero,Int.natCast_one,show((11:Nat):Int)=11 from rfl,show((12:Nat):Int)=12 from rfl,show((13:Nat):Int)=13 from rfl]at r0 r1 r11 r12 r13;have step:∃M1 bs c1 ρ8,Kf M [ns0,#[ob 0],#[.int head],#[.int x],#[bY c0],#[bY c],#[.int y],x7,x8]=.next [ns0,#[ob 0],#[.int head],#[.int x],#[bY c0],#[bY c1],#[.int y],#[lI p],ρ8] M1/\At M1 { L with bs:=bs } c1/\Inv (n+1) (s+1) c1:=by
   by_cases hq:d12%3=1
   .let⟨d,h4,h5,h6⟩:=YJ M c I.cnt.1 hw2 y head
    let⟨M1,bs,c1,h7,a1,I1⟩:=Va a I #[] #[] d h6 d13
    have h8:=Uk R (L:={ L with bs:=bs }) hL a1 (I1.mono (avd _) (by have:=J9 d;omega):Inv (n+1) (s+1) c1) #[] #[] x;rw[hL]at h7;refine⟨M1,bs,c1,#[.str w2],?_,a1,I1.mono (avd _) (by have:=J9 d;omega)⟩;generalize bY c0=k0 at *;generalize bY c1=k1 at *;generalize bY c=k at *;simp[Kf,h1,r0,r1,hm,h2,r12,hq,r11,h3,h4,r13,h7,h8]
   .let⟨d,h4,h5,h6⟩:=YJ M c I.cnt.1 hw1 y head
    let⟨M1,bs,c1,h7,a1,I1⟩:=Va a I #[] #[] d h6 d13
    have h8:=Uk R (L:={ L with bs:=bs }) hL a1 (I1.mono (avd _) (by have:=J9 d;omega):Inv (n+1) (s+1) c1) #[] #[] x;rw[hL]at h7;refine⟨M1,bs,c1,#[.str w1],?_,a1,I1.mono (avd _) (by have:=J9 d;omega)⟩;generalize bY c0=k0 at *;generalize bY c1=k1 at *;generalize bY c=k at *;simp[Kf,h1,r0,r1,hm,h2,r12,hq,h4,r13,h7,h8]
  let⟨M1,bs,c1,y8,e1,a1,I1⟩:=step
  let⟨z5,z6,z7,z8,M',L',n',s',c',w1,w2,w3,w4,w5,e2⟩:=R3 x x9 xs (L:={ L with bs:=bs }) hL a1 I1 #[] #[] #[.int y] #[lI p] y8
  exact⟨z5,z6,z7,z8,M',L',n',s',c',w1,w2,w3,w4,w5,by rw[List.map_cons,fG (Z1:=[ns0,#[ob 0],#[.int head],#[.int x],#[bY c0],#[bY c],#[.int y],x7,x8]) (by simp) e1];exact e2⟩
end
def ahX(ns:ListInt)(h:ns.length<=63):∃M,aag [] [.list (ns.map PyData.int)]=.ok (.bool true) M:=by
 let⟨M0,L,hL,h0,a0⟩:=aqV
 have cell0:Dg M0 [lI ns,.int 0]=_:=aes M0 ns 0;have cell1:Dg M0 [lI ns,.int 1]=_:=aes M0 ns 1;have hl:=aeh ns 6 44 #[()];generalize hcl:Rf.cutD ns (some ((6:Nat):Int)) (some ((44:Nat):Int))=cells at hl;have hcl2:Rf.cutD (ns.map PyData.int) (some 6) (some 44)=cells.map PyData.int:=by rw[adw];exact congrArg _ hcl
 have hl4:=aeh ns 2 6 #[()];generalize hml:Rf.cutD ns (some ((2:Nat):Int)) (some ((6:Nat):Int))=more at hl4;have hml2:Rf.cutD (ns.map PyData.int) (some 2) (some 6)=more.map PyData.int:=by rw[adw];exact congrArg _ hml
 let⟨c,M1,L1,hL1,h1,N1⟩:=akv a0 cells #[] (if ns.getD 0 0<0 then -(ns.getD 0 0) else ns.getD 0 0)
 generalize hhd:(if ns.getD 0 0<0 then -(ns.getD 0 0) else ns.getD 0 0)=hd at *;generalize ns.getD 0 0=z0 at *;generalize ns.getD 1 0=z1 at *;have I:=N1.inv;have hL1:=hL1.trans hL;have t1:=Uk (λhL a I hs hn x=>Yr (head:=hd) N1.inv.cnt.1 hL a I hs hn x) hL1 N1.at_ I #[()] #[()] z1;let⟨z5,z6,z7,z8,M2,L2,n2,s2,c2,w1,w2,w3,w4,w5,h2⟩:=R3 (λhL a I hs hn x=>Yr (head:=hd) N1.inv.cnt.1 hL a I hs hn x) (ns0:=#[lI ns]) z1 none more hL1 N1.at_ I #[] #[] none none none
 rw[hL]at h1;let⟨M3,h3⟩:=aj8 w1 w2 w3 w4 w5
 refine⟨M3,?_⟩;generalize bY c=k at *;simp[aag,aeL,h0,cell0,cell1,hcl2,hml2,hhd,h1,t1,h2,h3]
end Pr
open PySem PySem.W PySem.Calls PyProof.Rows
set_option maxHeartbeats 0 in
theorem PySem.Challenge.cw_earmarks_k46_looks_tell_the_stand_holds : PySem.Challenge.rw_earmarks_k46_looks_tell_the_stand.Holds := by
 w_on;o_law
 refine HandSHeadRun.head_any (r:=OpenLaw.row PySem.Challenge.rw_earmarks_k46_looks_tell_the_stand) (q:=view (OpenLaw.row PySem.Challenge.rw_earmarks_k46_looks_tell_the_stand).prog [98]) (H:=Pr.hkE) (ob:=Pr.obE) (M:=40000) (loose:=Pr.nm) (d:=HandSHeadRun.topDef (OpenLaw.row PySem.Challenge.rw_earmarks_k46_looks_tell_the_stand).prog 98) (kwd:=[]) Pr.amM #[_] (λs=>by kernel_rfl) Pr.run #[_] #[_] #[_] (by rfl) (by first | assumption | decide +kernel) #[[]] ⟨rfl,rfl,rfl,rfl,rfl,#[[]]⟩ ?hw ?hc
 case hw=>w_witness2
 case hc=>
  refine L2.walk_ofE (l:=PySem.Challenge.rw_earmarks_k46_looks_tell_the_stand) (n:=63) (k:=15) (x:="_law_script") (CX:=L2.CX0) rfl #[()] #[_] ⟨rfl,#[()],#[()]⟩ ?F (λ_ _ _ _ z=>z)
  intro w mg fa h Y G hmg0;let⟨K,KX,c⟩:=Y
  have hmg:mg ("law" : PySem.Str)=some (.ref fa):=by
   have e:(HandSHeadRun.topDef (OpenLaw.row PySem.Challenge.rw_earmarks_k46_looks_tell_the_stand).prog 98).name=("law" : PySem.Str):=#[_]
   rw[<-e];exact hmg0
  have T:Pr.Top w K mg:=⟨⟨h,KX,G⟩,c⟩;have e:=hmg.symm.trans (T.glo 119);cases e;let⟨fd,F⟩:=T.c.Ys 119
  have b:=L2.FunD.bindsA (ps:=["_law_script"]) F λ_ _ _ _ _ _ us hl=>match us,hl with|[_],_=>rfl
  exact⟨K,fd,λvs H Q _=>Rf.Nv K (Pr.aj w K) 1 Pr.aag vs H Q λ_ _ _=>False,KX,λs v=>b s [v] rfl,λH a ns hl _ hS=>(Pr.ahX ns hl).elim λ_ z=>Rf.ape rfl hS z,λbase _ _=>Rf.aeV (Pr.aoB T F)⟩

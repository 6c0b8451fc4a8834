import PyProof.Rows.All
import HandS.ForMost
import HandS.Evl
import HandS.Walk
import HandS.Zip
import HandS.IsInst
import HandS.Style
import HandS.FStr
import HandS.StrSplit
import HandS.RaiseFrom
import HandS.SuiteRaise
import HandS.Strs
import HandS.TupAny
import HandS.Deep
import HandS.WordsExc
import KE.DataMinMax
import KE.DataFind
import KE.SortData
import HandS.SortKw
import HandS.TupSets
import HandS.SetBool
import HandS.DictComp
import HandS.Conv
import KE.KDictKeyed
import HandS.ExcField
import HandS.ExcInit
import HandS.HeadHook4
import HandS.HeadEnd
import HandS.Head2
import HandS.Flow
import KE.GoesEnumKw
import PySem.Challenge.RW_earmarks_k29_deeds_written
set_option Elab.async false
set_option linter.all false
set_option maxRecDepth 100000
set_option maxHeartbeats 2000000
def agm:True:=trivial
abbrev agn:=@False.elim
abbrev ago:=@decide_eq_true_eq
abbrev agp:=@of_decide_eq_true
def afq:=@Option.bind_eq_some_iff
def afr:=@PySem.W.Frag
def afs:=@Bool.and_eq_true
def aft:=@List.map_cons
def afu:=@List.mem_cons_of_mem
def afv:=@List.mem_cons_self
def afw:=@List.getElem?_eq_some_iff
def afx:=@List.getElem?_eq_getElem
def afy:=@List.length_map
def afz:=@List.getElem?_set_ne
def afA:=@List.length_cons
def afB:=@Bool.not_eq_true'
def afC:=@List.all_eq_true
def afD:=@List.mem_cons
def afE:=@List.getElem?_set_self
def afF:=@List.lookup_cons
def afG:=@List.mem_map
def afH:=@List.getElem?_append_left
def afI:=@List.getElem?_map
def afJ:=@List.mem_singleton
def afK:=@List.mem_of_getElem?
def afL:=@List.getElem?_append_right
def afM:=@List.length_set
def afN:=@Nat.le_refl
def afO:=@Bool.false_eq_true
def afP:=@List.zip_cons_cons
def afQ:=@Array.length_toList
def afR:=@Option.some.inj
def afS:=@List.not_mem_nil
def afT:=@List.map_map
def afU:=@Nat.zero_le
def afV:=@List.mem_append
def afW:=@List.all_cons
def afX:=@Nat.ne_of_lt
def afY:=@List.map_append
def afZ:=@List.length_append
def af0:=@List.append_nil
def af2:=@List.drop_eq_getElem_cons
def af3:=@Array.getElem?_toList
def af4:=@List.mem_of_mem_take
def af5:=@Option.map_eq_some_iff
def af6:=@List.filter_cons
def af7:=@List.drop_zero
def af8:=@List.drop_length
def af9:=@Bool.eq_iff_iff
def aga:=@Nat.lt_succ_of_lt
def agb:=@List.mem_filter
def agc:=@Bool.or_eq_true
def agd:=@List.getElem?_set
def agf:=@List.length_filter_le
def agg:=@List.any_cons
def agh:=@Nat.add_sub_cancel'
def agi:=@Nat.add_left_cancel
def agj:=@List.map_nil
def agk:=@Nat.succ.inj
def agl:=@List.nodup_cons
namespace Rf
open PySem PySem.Spec PyProof.Rows L2 HandSHeadRun
def agq:=@wpAny_bind
def agr:=@wpAny_pure
def ags:=@if_pos
def agt:=@if_neg
def agu:=@upd_same
def agv:=@eq_of_beq
abbrev Dat:=PyData
abbrev Ft:=List (Str×List Str)
structure uM(fa:List He.Fa)(fn:List He.DefD)(tb:List He.Tab)(ex:afr->Bool)(w:World)(K:afr):Prop where
 t:He.SaysT fa fn tb w K
 more:ex K=true
def Ka(as:List Addr)(fa:List He.Fa)(fn:List He.DefD)(tb:List He.Tab)(ex:afr->Bool)(g:Addr->Option Obj):He.AlX:=(He.obsT fa fn tb (He.frG g as),ex (He.frG g as))
def JV(as:List Addr)(fa:List He.Fa)(fn:List He.DefD)(tb:List He.Tab)(ex:afr->Bool):PySem.W.Hook where
 α:=He.AlX
 obs:=λs=>Ka as fa fn tb ex s.heap.get?
 val:=λw=>He.valX fn tb w
 says:=λw h=>∃K:afr,K.In h/\uM fa fn tb ex w K
 of:=λw s e=>⟨_,He.frG_in,⟨congrArg (λz:He.AlX=>z.1) e,congrArg (λz:He.AlX=>z.2) e⟩⟩
 keeps:=λ_ _ _ ⟨K,hK,c⟩ k=>⟨K,PySem.W.Frag.In.keeps hK k,c⟩
theorem U5{as:List Addr}{fa:List He.Fa}{fn:List He.DefD}{tb:List He.Tab}{ex:afr->Bool}{g:Addr->Option Obj}{s:Shared}(h:∀a,g a=s.heap.get? a):Ka as fa fn tb ex g=(JV as fa fn tb ex).obs s:=by rw[show g=s.heap.get? from funext h];rfl
def rZ(K:afr)(ft:Ft):Bool:=ft.all λp=>(He.Fa.cls p.1).ok K&&p.2.all λf=>(He.Fa.noat p.1 f).ok K
def W6(K:afr)(xm:List (Str×List (Str×Bool))):Bool:=xm.all λp=>p.2.all λq=>(He.Fa.exm q.1 p.1 q.2).ok K
def Fp(K:afr)(a:Addr):Bool:=match K.lookup a with
 |some o=>(match o.cls with
  |.type c=>decide (c="tuple")
  |_=>false)&&o.dict.isNone
 |none=>false
def Zz(K:afr)(C:Addr):Bool:=(match K.lookup C with
 |some ⟨.type t,_,.cls cd,sl⟩=>decide (t="type")&&(match cd.mro,sl.toList with
  |.ref C'::bm,[_,_,_,_,some (.builtin n),_]=>decide (C'=C)&&(decide (n="ValueError.__new__")&&(!cd.hasDel&&(cd.hasDict&&PySem.HandSPX.refsVE bm)))
  |_,_=>false)
 |_=>false)&&(He.eqO (PySem.W.findIn K (.ref C) "__setattr__") (some (some (.builtin "object.__setattr__")))&&(decide (PySem.W.subIn K (.ref C) (.type "BaseException")=some true)&&(decide (PySem.W.typeIn K (.ref C)=some (.type "type"))&&PySem.W.keepIn K (.ref C))))
def Lh(K:afr)(x:Str)(fs:List Str):Bool:=Zz K (He.ga K x)&&(He.eqO (PySem.W.findIn K (.ref (He.ga K x)) "__init__") (some (some (.ref (He.ma K (He.ga K x) "__init__"))))&&(decide (PySem.W.typeIn K (.ref (He.ma K (He.ga K x) "__init__"))=some (.type "function"))&&(xfB K (He.ga K x)&&fs.all λf=>He.eqO (PySem.W.findIn K (.ref (He.ga K x)) f) (some none))))
def Cj(K:afr)(a:Addr)(xs:List Str):Bool:=match K.lookup a with
 |some ⟨.type c,_,.seq its _,_⟩=>decide (c="tuple")&&(decide (its.size<=sizeLine)&&He.relAll (xs.map V.str) its.toList)
 |_=>false
def Qv(K:afr)(x:Str)(kvs:List (Str×List Str)):Bool:=(match K.lookup (He.ga K x) with
 |some ⟨_,_,.dict es _,_⟩=>es.toList.all (λe=>(match e.key with
   |.str y _=>(kvs.map (·.1)).contains y
   |_=>false)&&!e.refKey)
 |_=>false)&&(decide ((kvs.map (·.1)).Nodup)&&kvs.all λq=>match PySem.W.nsIn K (He.ga K x) q.1 with
  |some (some (.ref a))=>Cj K a q.2
  |_=>false)
section
open PySem.W PySem.Calls
noncomputable abbrev aam (r:PySem.W.OpenRow) (M:Nat) (w:World) (os:PySem.OsState):Option PySem.W.SharedT:=endF (stepQ (denQ tabQ) r.prog w) M r.prog w os
def Qt(r:PySem.W.OpenRow)(q:Program)(as:List Addr)(ex:afr->Bool)(M:Nat)(loose:List Str)(w:World):Prop:=∀os,(aam r M w os).map (λs=>(looksF r.prog (boot_heap w.params) s.abs,HandSHeadRun.seenQ q loose (importedModules r.prog.main.body) (λs=>PySem.W.xlAt q [] s&&PySem.W.recOk r.toRowW.records s) s.abs,ex (He.frG (getT s) as)))=some (true,PySem.W.openGood q loose,true)
def SN(r:PySem.W.OpenRow)(as:List Addr)(fa:List He.Fa)(fn:List He.DefD)(tb:List He.Tab)(M:Nat)(w:World):Prop:=∀os,(aam r M w os).map (λs=>He.obsT fa fn tb (He.frG (getT s) as))=some (He.valT fn tb w)
theorem Bp{r:PySem.W.OpenRow}{q:Program}{as:List Addr}{fa:List He.Fa}{fn:List He.DefD}{tb:List He.Tab}{ex:afr->Bool}{M:Nat}{loose:List Str}{w:World}
  (a:Qt r q as ex M loose w) (c:SN r as fa fn tb M w):RunEq r q (JV as fa fn tb ex) (λs=>Ka as fa fn tb ex (getT s)) M loose w:=λos=>by
 obtain⟨s,hs,h1⟩:=af5.mp (a os);obtain⟨h1,h2⟩:=Prod.mk.inj h1;obtain⟨h2,h4⟩:=Prod.mk.inj h2;have h3:=c os;have hs':endF (stepQ (denQ tabQ) r.prog w) M r.prog w os=some s:=hs;rw[hs,Option.map_some]at h3;have h3:=afR h3;rw[hs',Option.map_some];exact congrArg some (Prod.ext h1 (Prod.ext h2 (Prod.ext h3 h4)))
end
end Rf
namespace Pr
open PySem PySem.Spec PyProof.Rows L2 Evl Rf
def fH:Dat:=.int 9
def bf:Dat:=.tuple [.str "lt",.str "lf",.str "lh",.str "rt",.str "rf",.str "rh"]
def bM:Dat:=.int 999999999
def cY:List (Str×List Str):=[("owner",[]),("ground",["number"]),("enrol",["number","number","ear"]),("leave",["number","number"]),("bring",["number","number","ear"]),("bear",["number"]),("cut",["number"]),("tear",["number","place"]),("sell",["number","number"]),("move",["number","number"]),("die",["number"]),("unite",["number","number"]),("part",["number"]),("pass",["number","number"]),("heir",["number","number","number"])]
def gq:Dat:=.str "none"
def fQ:Dat:=.str "0123456789"
def gA:Dat:=.int 9
def lg:Dat:=.str "123456789"
def jB:Dat:=.tuple [.int 0,.int 0,.int 0,.int 0,.int 0,.int 0]
def EY:Ft:=[]
def qG:List (Str×Bool):=[("BadDeed",true),("BadLine",false),("BadEar",false)]
def Ae:List (Str×Bool):=[("BadDeed",false),("BadLine",false),("BadEar",true)]
def TJ:List (Str×List (Str×Bool)):=[("BadDeed",qG),("BadEar",Ae)]
def Z6:List (Str×Bool):=[]
def Mx:List (Str×List Str):=[]
def cW(i:Nat):Stmt:=PySem.Challenge.pw_earmarks_k29_deeds_written.main.body.getD i (.Pass ⟨0,0,0,0⟩)
abbrev O5:Stmt:=cW 30
abbrev s_row:Stmt:=cW 31
abbrev Gu:Stmt:=cW 32
abbrev Ui:Stmt:=cW 33
abbrev Jf:Stmt:=cW 34
abbrev wH:Stmt:=cW 43
abbrev Pq:Stmt:=cW 44
abbrev N6:Stmt:=cW 39
abbrev TY:Stmt:=cW 37
abbrev Du:Stmt:=cW 38
abbrev rG:Stmt:=cW 40
abbrev Ik:Stmt:=cW 35
abbrev wU:Stmt:=cW 41
abbrev Jd:Stmt:=cW 42
abbrev w6:Stmt:=cW 36
abbrev Fl:Stmt:=cW 11
abbrev vB:Stmt:=cW 21
abbrev N5:Stmt:=cW 20
abbrev JF:Stmt:=cW 12
abbrev qd:Stmt:=cW 23
abbrev Bb:Stmt:=cW 22
abbrev BJ:Stmt:=cW 45
abbrev rF:Stmt:=cW 28
abbrev wX:Stmt:=cW 14
abbrev wN:Stmt:=cW 13
abbrev oN:Stmt:=cW 26
abbrev tM:Stmt:=cW 27
abbrev vm:Stmt:=cW 25
abbrev vC:Stmt:=cW 24
abbrev uL:Stmt:=cW 46
abbrev dF(x:Str)(s:Stmt):He.DefD:=⟨(x,none),x,x,defArgs s,defBody s,defScope s,[],[]⟩
def WY:List Str:=["BadDeed","BadLine","BadEar"]
def Qi:List He.Tab:=[(λK=>He.ga K "SHAPES",["owner","ground","enrol","leave","bring","bear","cut","tear","sell","move","die","unite","part","pass","heir"])]
def nm0:List PySem.Str:=["CommonError","BadEar","BadDeed","BadLine","PLACES","GREATEST_DEPTH","BARE_EAR","BARE_WORD","FIGURES_ears","is_ear","shown","read_ear"]
def nm1:List PySem.Str:=["read_cut","SHAPES","GREATEST_PART","MOST_FIGURES","FIGURES_deeds","fits","part_fits","written","part_written","read_deed","read_part","read_ear_part"]
def nm2:List PySem.Str:=["read_place","read_number","_law_cell","_law_row","_law_ear_by","_law_ear","_law_tuple","_law_whole","_law_like","_law_cut","_law_spoilt","_law_word"]
def nm3:List PySem.Str:=["_law_spoilt_deed","_law_ear_kind","_law_fault","_law_ear_text","_law_line","_law_refused"]
def nm:List PySem.Str:=nm0++nm1++nm2++nm3
def fa0:List He.Fa:=[.glo "_law_cell",.glo "_law_row",.glo "_law_ear_by",.glo "_law_ear",.glo "_law_tuple",.glo "_law_ear_text",.glo "_law_line",.glo "_law_word",.glo "_law_cut",.glo "_law_spoilt",.glo "_law_spoilt_deed",.glo "_law_whole"]
def fa1:List He.Fa:=[.glo "_law_ear_kind",.glo "_law_fault",.glo "_law_like",.glo "is_ear",.glo "part_fits",.glo "fits",.glo "shown",.glo "part_written",.glo "written",.glo "_law_refused",.glo "read_number",.glo "read_cut"]
def fa2:List He.Fa:=[.glo "read_ear",.glo "read_ear_part",.glo "read_place",.glo "read_part",.glo "read_deed",.glo "law",.glo "BadDeed",.exc "BadDeed",.glo "BadLine",.exc "BadLine",.glo "BadEar",.exc "BadEar"]
def fa3:List He.Fa:=[.glo "SHAPES",.int "GREATEST_DEPTH" 9,.glo "PLACES",.int "GREATEST_PART" 999999999,.str "BARE_WORD" "none",.str "FIGURES_deeds" "0123456789",.int "MOST_FIGURES" 9,.str "FIGURES_ears" "123456789",.glo "BARE_EAR",.free "len",.free "range",.free "abs"]
def fa4:List He.Fa:=[.free "tuple",.free "max",.free "enumerate",.free "zip",.free "str",.free "isinstance",.free "bool",.free "int",.free "list",.free "all",.free "any"]
def fa:List He.Fa:=fa0++fa1++fa2++fa3++fa4
def fn0:List He.DefD:=[dF "_law_cell" O5,dF "_law_row" s_row,dF "_law_ear_by" Gu,dF "_law_ear" Ui,dF "_law_tuple" Jf,dF "_law_ear_text" wH,dF "_law_line" Pq,dF "_law_word" N6,dF "_law_cut" TY,dF "_law_spoilt" Du,dF "_law_spoilt_deed" rG,dF "_law_whole" Ik]
def fn1:List He.DefD:=[dF "_law_ear_kind" wU,dF "_law_fault" Jd,dF "_law_like" w6,dF "is_ear" Fl,dF "part_fits" vB,dF "fits" N5,dF "shown" JF,dF "part_written" qd,dF "written" Bb,dF "_law_refused" BJ,dF "read_number" rF,dF "read_cut" wX]
def fn2:List He.DefD:=[dF "read_ear" wN,dF "read_ear_part" oN,dF "read_place" tM,dF "read_part" vm,dF "read_deed" vC,dF "law" uL]
def fn:List He.DefD:=fn0++fn1++fn2
def Nv(K:afr):Bool:=true&&rZ K EY&&W6 K TJ&&(Mx.all λp=>WY.contains p.1&&Lh K p.1 p.2)&&Qv K "SHAPES" cY&&He.tupB K "PLACES" [.str "lt",.str "lf",.str "lh",.str "rt",.str "rf",.str "rh"]&&Fp K (He.ga K "PLACES")&&He.tupB K "BARE_EAR" [.int 0,.int 0,.int 0,.int 0,.int 0,.int 0]&&Fp K (He.ga K "BARE_EAR")
def ad0:List Addr:=[3,24,37,49,61,64,65,70,75,82,89,90,110,117,122,129,134,141,148,155,160,167,174,179]
def ad1:List Addr:=[186,193,200,207,214,221,226,233,240,247,252,259,266,273,23,36,48,60,69,74,81,88,91,92]
def ad2:List Addr:=[93,94,95,96,97,98,99,100,101,102,103,104,105,109,116,121,128,133,140,147,154,159,166,173]
def ad3:List Addr:=[178,185,192,199,206,213,220,225,232,239,246,251,258,265,272,22,25,35,47,59]
def ad:List Addr:=ad0++ad1++ad2++ad3
abbrev R:PySem.W.OpenRow:=PySem.W.OpenLaw.row PySem.Challenge.rw_earmarks_k29_deeds_written
abbrev Ue:PySem.W.Hook:=JV ad fa fn Qi Nv
def Uk(s:PySem.W.SharedT):He.AlX:=Ka ad fa fn Qi Nv (HandSHeadRun.getT s)
theorem X3(s:PySem.W.SharedT):Uk s=Ue.obs s.abs:=U5 (HandSHeadRun.getT_eq s)
abbrev wR(w:World)(b:Bool):World:=w.withFollow "special-get-raises" b
theorem abk(w:World):Qt R (PySem.W.view R.prog [46]) ad Nv 40000 nm (wR w false):=by
 intro os
 kernel_rfl
theorem abx(w:World):SN R ad fa fn Qi 40000 (wR w false):=by
 intro os
 kernel_rfl
theorem runAt(w:World):Qt R (PySem.W.view R.prog [46]) ad Nv 40000 nm (wR w true):=by
 intro os
 kernel_rfl
theorem aaP(w:World):SN R ad fa fn Qi 40000 (wR w true):=by
 intro os
 kernel_rfl
theorem run(w:World):HandSHeadRun.RunEq R (PySem.W.view R.prog [46]) Ue Uk 40000 nm w:=PySem.W.byRow2 "special-get-raises" (P:=λw=>HandSHeadRun.RunEq R (PySem.W.view R.prog [46]) Ue Uk 40000 nm w) (λw=>Bp (abk w) (abx w)) (λw=>Bp (runAt w) (aaP w)) w
end Pr
namespace Ear
open PySem PySem.Spec PyProof.Rows L2 Evl RZ
section
variable{X:Cx}{C:Addr}{bmB:List Value}{B newId initId:String}
theorem QZ{x:Str}{p pos:Pos}(F:ExcBaseFacts B newId initId bmB)(q:PySem.W.excIn X.K C bmB newId=true)(gC:X.mg x=some (.ref C))(kC:PySem.W.keepIn X.K (.ref C)=true)(r:Raises X (.ref C))(hg:Gl X x)
  (hn:(x==("__debug__" : Str))=false:=by decide):PMk X (.Call (.Name x p) [] [] pos) (λ_ H Q=>Q (.ref C) none H):=by
 intro pins s σ H Q I h;refine wpAny_Call_Name_kw (ld_glob I hg gC ?_ hn);refine PySem.W.callWith_K0 I.kIn kC ?_;show wpAny _ _ (call (.ref C) []) _ _ _;obtain⟨bm,N,nm,qn,bs,hdct,sn,sub,ab,col,dd,k0,k1,k2,k3,k5,mN,hC,hN,hni,T⟩:=exc_obj I.kIn q;refine wpAny_call_exc_subT F T hC hN hni (λh' e hm=>?_) (afU _);exact mk_of I hm r h (I.hok.gone hm.new)
end
theorem exm_one{K:afr}{S:Addr}(h1:PySem.W.subIn K (.ref S) (.type "BaseException")=some true)(h2:PySem.W.isClsIn K S=true)(h3:PySem.W.typeIn K (.ref S)=some (.type "type"))(h4:PySem.W.subIn K (.ref S) (.ref S)=some true) :
  PySem.W.exmOne K (.ref S) (.ref S)=some true:=by
 have e1:(PySem.W.subIn K (.ref S) (.type "BaseException")==some true)=true:=by rw[h1]<;>rfl
 have e2:((PySem.W.clsIn K S).isSome&&PySem.W.typeIn K (.ref S)==some (.type "type"))=true:=by rw[h3,afs];exact⟨h2,rfl⟩
 show(if (PySem.W.subIn K (.ref S) (.type "BaseException")==some true)=true then(if ((PySem.W.clsIn K S).isSome&&PySem.W.typeIn K (.ref S)==some (.type "type"))=true then PySem.W.subIn K (.ref S) (.ref S) else none) else none)=some true
 rw[if_pos e1,if_pos e2];exact h4
def jX(xs:List Int):Prop:=xs.length=6/\∀x∈xs,0<=x/\x<=9
section
variable{K:afr}{σ:L2.St}{H:Hp}{te tl:TE}{tt:TT}{vs:List Nat}
def Jr(te:TE)(σ:L2.St)(H:Hp)(P:V->Hp->Prop):Prop:=∀H1,Ex H H1->∀Q:VK,(∀v H2,Ex H1 H2->P v H2->Q v H2)->te σ H1 Q
end
section
variable{K:afr}{σ:L2.St}{H H':Hp}{te ta tb:TE}{t:TT}{P R:V->Hp->Prop}{v:V}
theorem Jr.mono(e:Ex H H')(h:Jr te σ H P):Jr te σ H' P:=λH1 a Q q=>h H1 (e.trans a) Q q
theorem Jr.imp(h:Jr te σ H P)(k:∀v H',P v H'->R v H'):Jr te σ H R:=λH1 e Q q=>h H1 e Q λv H2 e2 p=>q v H2 e2 (k v H2 p)
end
theorem six{xs:List Int}(h:jX xs):∃a b c d e f:Int,xs=[a,b,c,d,e,f]/\(0<=a/\a<=9)/\(0<=b/\b<=9)/\(0<=c/\c<=9)/\(0<=d/\d<=9)/\(0<=e/\e<=9)/\0<=f/\f<=9:=by
 obtain⟨hl,hb⟩:=h
 match xs,hl with
 |[a,b,c,d,e,f],_=>exact⟨a,b,c,d,e,f,rfl,hb a (by simp),hb b (by simp),hb c (by simp),hb d (by simp),hb e (by simp),hb f (by simp)⟩
end Ear
namespace Ear
open PySem PySem.Spec PyProof.Rows L2 Evl RZ
def bU{α:Type}(R:V->α->Prop)(ws:List V)(L:List α):Prop:=ws.length=L.length/\∀(i:Nat) (v:V) (x:α),ws[i]?=some v->L[i]?=some x->R v x
theorem bU.imp{α:Type}{R S:V->α->Prop}{ws:List V}{L:List α}(h:bU R ws L)(k:∀v x,R v x->S v x):bU S ws L:=⟨h.1,λi v x a b=>k v x (h.2 i v x a b)⟩
theorem bU.nil{α:Type}{R:V->α->Prop}:bU R [] []:=⟨rfl,λi v x a _=>by simp at a⟩
theorem bU.snoc{α:Type}{R:V->α->Prop}{ws:List V}{L:List α}{v:V}{x:α}(h:bU R ws L)(k:R v x):bU R (ws++[v]) (L++[x]):=by
 refine⟨by rw[afZ,afZ,h.1];rfl,λi u y a b=>?_⟩;by_cases hi:i<ws.length
 .rw[afH hi]at a;rw[afH (by rw[<-h.1];exact hi)]at b;exact h.2 i u y a b
 .rw[afL (by omega)]at a;rw[afL (by rw[<-h.1];omega),<-h.1]at b;have hj:i-ws.length=0:=by
   have:=(afw.mp a).1;simp only[afA,List.length_nil]at this;omega
  rw[hj]at a b;cases a;cases b;exact k
def qO(H:Hp)(v:V)(l:List Int):Prop:=∃h:Addr,v=.ref h/\H h=some (.tup (l.map V.int))
theorem qO.mono{H H':Hp}(e:Ex H H'){v:V}{l:List Int}(h:qO H v l):qO H' v l:=by obtain⟨a,e1,h1⟩:=h;exact⟨a,e1,e _ _ h1⟩
theorem qO.upd{H:Hp}{D:Addr}{acc:List V}{o:HO}(hD:H D=some (.lst acc)){v:V}{l:List Int}(h:qO H v l):qO (upd H D o) v l:=by obtain⟨a,e1,h1⟩:=h;refine⟨a,e1,?_⟩;rw[upd_ne (λz=>by rw[z,hD]at h1;cases h1)];exact h1
abbrev Rw:Type:=Int×List Int
def uR(H:Hp)(v:V)(r:Rw):Prop:=∃t m:Addr,v=.ref t/\H t=some (.tup [.int r.1,.ref m])/\H m=some (.tup (r.2.map V.int))
theorem uR.mono{H H':Hp}(e:Ex H H'){v:V}{r:Rw}(h:uR H v r):uR H' v r:=by obtain⟨t,m,e1,h1,h2⟩:=h;exact⟨t,m,e1,e _ _ h1,e _ _ h2⟩
theorem uR.upd{H:Hp}{D:Addr}{acc:List V}{o:HO}(hD:H D=some (.lst acc)){v:V}{r:Rw}(h:uR H v r):uR (upd H D o) v r:=by
 obtain⟨t,m,e1,h1,h2⟩:=h;refine⟨t,m,e1,?_,?_⟩
 .rw[upd_ne (λz=>by rw[z,hD]at h1;cases h1)];exact h1
 .rw[upd_ne (λz=>by rw[z,hD]at h2;cases h2)];exact h2
def aa2(r:Rw):Prop:=1<=r.1/\jX r.2
structure Tab(R:List Rw):Prop where
 len:R.length<=128
 ok:∀r∈R,aa2 r
 few:∃D:List Rw,D.length<=64/\∀r∈R,r∈D
theorem Tab.sub{R S:List Rw}(h:Tab R)(hs:∀r∈S,r∈R)(hl:S.length<=128):Tab S:=by obtain⟨D,d1,d2⟩:=h.few;exact⟨hl,λr hr=>h.ok r (hs r hr),D,d1,λr hr=>d2 r (hs r hr)⟩
theorem bU.get{α:Type}{R:V->α->Prop}{ws:List V}{L:List α}(h:bU R ws L){i:Nat}{v:V}(g:ws[i]?=some v):∃x,L[i]?=some x/\R v x:=by
 have hi:=(afw.mp g).1;have hi':i<L.length:=by rw[<-h.1];exact hi
 exact⟨L[i],afx hi',h.2 i v _ g (afx hi')⟩
theorem bU.mem{α:Type}{R:V->α->Prop}{ws:List V}{L:List α}(h:bU R ws L){v:V}(m:v∈ws):∃x,x∈L/\R v x:=by obtain⟨i,hi,e⟩:=List.getElem_of_mem m;obtain⟨x,g,r⟩:=h.get (afw.mpr ⟨hi,e⟩);exact⟨x,afK g,r⟩
theorem bU.take{α:Type}{R:V->α->Prop}{ws:List V}{L:List α}(h:bU R ws L)(n:Nat):bU R (ws.take n) (L.take n):=by
 refine⟨by rw[List.length_take,List.length_take,h.1],λi v x a b=>?_⟩;rw[List.getElem?_take]at a b;by_cases c:i<n
 .rw[if_pos c]at a b;exact h.2 i v x a b
 .rw[if_neg c]at a;cases a
theorem bU.drop{α:Type}{R:V->α->Prop}{ws:List V}{L:List α}(h:bU R ws L)(n:Nat):bU R (ws.drop n) (L.drop n):=by refine⟨by rw[List.length_drop,List.length_drop,h.1],λi v x a b=>?_⟩;rw[List.getElem?_drop]at a b;exact h.2 _ v x a b
section
variable{X:Cx}
def Rb(xs:List V)(ds:List PyData)(x:V)(d:PyData):Prop:=∃i:Nat,xs[i]?=some x/\ds[i]?=some d
@[irreducible]def rE (K:afr):List V->Hp->VK->Prop:=λvs H Q=>∃(a:Addr) (xs:List V) (ds:List PyData),vs=[V.ref a]/\SqL K H a xs/\DpAll K H xs ds/\PySem.W.AllAlike ds/\PySem.W.Sortable ds/\(∀d∈ds,d.depth<=60)/\
 ∀(ys:List V) (p:Addr),bU (Rb xs ds) ys (ds.mergeSort (PySem.W.dataLe false id))->H p=none->Q (.ref p) (upd H p (.lst ys))
theorem Dm:∀(xs:List V) (ds:List PyData) (its:List Value) (P:Value->PyData->Prop),Vals xs its->PySem.W.EachIs P its ds->
  PySem.W.EachIs (λv d=>∃(i:Nat) (x:V),RelV x v/\xs[i]?=some x/\ds[i]?=some d) its ds
 |[],_,_,_,.nil,.nil=>.nil
 |_::_,[],_,_,.cons _ _,k=>nomatch k
 |x::xs,d::ds,u::us,P,.cons r t,.cons _ k=>.cons ⟨0,x,r,rfl,rfl⟩ ((Dm xs ds us P t k).mono λv d ⟨i,y,a,b,c⟩=>⟨i+1,y,a,b,c⟩)
theorem Ag{xs:List V}{ds:List PyData}:∀(out:List Value) (L:List PyData),PySem.W.EachIs (λv d=>∃(i:Nat) (x:V),RelV x v/\xs[i]?=some x/\ds[i]?=some d) out L->∃ys,Vals ys out/\bU (Rb xs ds) ys L
 |[],[],.nil=>⟨[],.nil,bU.nil⟩
 |v::out,d::L,.cons ⟨i,x,r,a,b⟩ k=>by
  obtain⟨ys,h1,h2⟩:=Ag out L k;refine⟨x::ys,.cons r h1,by rw[afA,afA,h2.1],λj u y g1 g2=>?_⟩;cases j with
  |zero=>
   cases g1;cases g2;exact⟨i,a,b⟩
  |succ j=>exact h2.2 j u y g1 g2
theorem KY(hu:X.A.units+65<cLine):CallR X (.builtin "sorted") (rE X.K):=by
 intro pins s σ H vs us Q I r h;unfold rE at h;obtain⟨a,xs,ds,rfl,hs,hd,hal,hk,hz,q⟩:=h;obtain⟨u,rfl,ru⟩:=vals1 r
 obtain rfl:u=Value.ref a:=ru
 obtain⟨its,rv,hl,hsz⟩:=I.list hs;obtain⟨as,hr⟩:=Dp.readsAll I ds xs its hd rv;have er:PySem.W.EachIs (λv d=>∃as,Reads s.heap v (id d) as) its ds:=PySem.W.readsAll_each id (by rw[List.map_id];exact hr);have hn:=SeqAt.ReadsAll.length ds its as hr;have hl2:=rv.length;refine PySem.W.sorted_data (enc:=id) hl.isList (Dm xs ds its _ rv er) er (by rw[List.map_id];exact hal) (by rw[List.map_id];exact hk) (by omega) (λd m=>?_) λout hlen hout=>?_
 .have:=hz d m;show X.A.units+2+d.depth<cLine;omega
 .obtain⟨ys,v1,v2⟩:=Ag out _ hout;obtain⟨ep,he'⟩:=PyProof.Rows.sortedAll_at s.heap its out.toArray;have hy:ys.length=ds.length:=by
   rw[v2.1,List.length_mergeSort]
  refine⟨.ref _,upd H (s.heap.objs.size+1) (.lst ys),I.laid (t':=s.toks) (λ_ _=>PyProof.Rows.sortedAll_old) (Nat.le_succ _) ⟨by omega,out,ep,v1,by simpa using he'⟩,rfl,q ys _ v2 (I.hok.fresh (Nat.le_succ _))⟩
end
@[irreducible]def yh (K:afr):R2:=λx y H Q=>∃d e:PyData,Dp K H x d/\Dp K H y e/\PySem.W.alike d e=true/\d≠.none/\d.depth<=60/\Q (.bl (PySem.W.dataLt d e)) H
theorem RN{X:Cx}(hu:X.A.units+65<cLine):OpR X (compareOp .Lt) (yh X.K):=by intro pins s σ H x y v u Q I rx ry h;unfold yh at h;obtain⟨d,e,hd,he,ha,hn,hz,q⟩:=h;obtain⟨as,r1⟩:=Dp.reads I d x v hd rx;obtain⟨bs,r2⟩:=Dp.reads I e y u he ry;exact PySem.W.lt_data r1 r2 ha hn (by omega) ⟨.bl _,H,I,rfl,q⟩
def ZC(te:TE)(σ:L2.St)(H:Hp)(P:List V->Hp->Prop):Prop:=∀H1,Ex H H1->∀Q:VK,(∀p H2 us,H1 p=none->Ex H1 H2->H2 p=some (.lst us)->P us H2->Q (.ref p) H2)->te σ H1 Q
structure Yn{α:Type}(Rel:Hp->V->α->Prop):Prop where
 mono:∀{H H':Hp} {v:V} {x:α},Ex H H'->Rel H v x->Rel H' v x
 upd:∀{H:Hp} {D:Addr} {acc:List V} {o:HO} {v:V} {x:α},H D=some (.lst acc)->Rel H v x->Rel (upd H D o) v x
theorem bU.mono{α:Type}{Rel:Hp->V->α->Prop}(S:Yn Rel){H H':Hp}(e:Ex H H'){ws:List V}{L:List α}(h:bU (Rel H) ws L):bU (Rel H') ws L:=h.imp λ_ _ r=>S.mono e r
theorem bU.upd{α:Type}{Rel:Hp->V->α->Prop}(S:Yn Rel){H:Hp}{D:Addr}{acc:List V}{o:HO}(hD:H D=some (.lst acc)){ws:List V}{L:List α}(h:bU (Rel H) ws L):bU (Rel (upd H D o)) ws L:=h.imp λ_ _ r=>S.upd hD r
section
variable{K:afr}{σ:L2.St}{H:Hp}{te tl:TE}{tt:TT}{vs:List Nat}{α:Type}
theorem ZC.imp{P R:List V->Hp->Prop}(h:ZC te σ H P)(k:∀us H',P us H'->R us H'):ZC te σ H R:=λH1 e Q q=>h H1 e Q λp H2 us n a b c=>q p H2 us n a b (k us H2 c)
end
theorem FW:∀a b:List Int,PyData.eqvAll (a.map PyData.int) (b.map PyData.int)=decide (a=b)
 |[],[]=>by rw[agj,PyData.eqvAll];rfl
 |[],y::ys=>by rw[agj,aft,PyData.eqvAll];rfl
 |x::xs,[]=>by rw[agj,aft,PyData.eqvAll];rfl
 |x::xs,y::ys=>by
  rw[aft,aft,PyData.eqvAll,FW xs ys,PyData.eqv,af9];simp
def dT(l:List Int):PyData:=.tuple (l.map PyData.int)
theorem lay_ints:∀l:List Int,PyData.canLayAll0 (l.map PyData.int)=true/\PyData.depthAll (l.map PyData.int)=0
 |[]=>⟨by rw[agj,PyData.canLayAll0],by rw[agj,PyData.depthAll]⟩
 |x::xs=>by
  have ih:=lay_ints xs;refine⟨?_,?_⟩
  .rw[aft,PyData.canLayAll0,PyData.canLay0,ih.1];rfl
  .rw[aft,PyData.depthAll,PyData.depth,ih.2];rfl
def rD(r:Rw):PyData:=.tuple [.int r.1,dT r.2]
theorem Mz(r:Rw):(rD r).canLay0=true/\(rD r).depth=2:=by
 have h:=lay_ints r.2;unfold rD dT;refine⟨?_,?_⟩
 .rw[PyData.canLay0,PyData.canLayAll0,PyData.canLayAll0,PyData.canLayAll0,PyData.canLay0,PyData.canLay0,h.1];rfl
 .rw[PyData.depth,PyData.depthAll,PyData.depthAll,PyData.depthAll,PyData.depth,PyData.depth,h.2];rfl
def rk(r:Rw):List Int:=r.1::r.2
theorem MN:PySem.W.rowLt [] []=false:=PyProof.Rows.lex_irrefl _
theorem UJ(l m:List Int):PySem.W.rowLt [dT l] [dT m]=decide (l<m):=by
 have al:PySem.W.alike (dT l) (dT m)=true:=by unfold dT;rw[PySem.W.alike];exact PySem.W.alike_ints l m
 have ev:PyData.eqv (dT l) (dT m)=decide (l=m):=by unfold dT;rw[PyData.eqv,FW]
 have h:PySem.W.rowLt [dT l] [dT m]=if PyData.eqv (dT l) (dT m)=true then PySem.W.rowLt [] [] else PySem.W.dataLt (dT l) (dT m):=PySem.W.dataLt_cons al [] []
 rw[h,ev,MN];by_cases c:l=m
 .rw[if_pos (decide_eq_true c),c];exact(decide_eq_false (List.lt_irrefl _)).symm
 .rw[if_neg (by rw[ago];exact c)];show PySem.W.dataLt (.tuple (l.map PyData.int)) (.tuple (m.map PyData.int))=_;rw[PySem.W.dataLt_tuple];exact PySem.W.dataLt_ints l m
theorem Hl(x y:Int)(ds es:List PyData)(l m:List Int)(h:PySem.W.rowLt ds es=decide (l<m)):PySem.W.rowLt (.int x::ds) (.int y::es)=decide (x::l<y::m):=by
 have al:PySem.W.alike (.int x) (.int y)=true:=by rw[PySem.W.alike]
 have h2:PySem.W.rowLt (.int x::ds) (.int y::es)=if PyData.eqv (.int x) (.int y)=true then PySem.W.rowLt ds es else PySem.W.dataLt (.int x) (.int y):=PySem.W.dataLt_cons al ds es
 rw[h2,h,PySem.W.dataLt_int,PyData.eqv];by_cases c:x=y
 .subst c;rw[if_pos (by simp),af9,ago,ago,List.cons_lt_cons_iff];constructor
  .exact λk=>Or.inr ⟨rfl,k⟩
  .rintro(k|k)
   .omega
   .exact k.2
 .rw[if_neg (by simpa using c),af9,ago,ago,List.cons_lt_cons_iff];constructor
  .exact Or.inl
  .rintro(k|k)
   .exact k
   .exact absurd k.1 c
theorem aaj(a b:Rw):PySem.W.dataLt (rD a) (rD b)=decide (rk a<rk b):=by unfold rD;rw[PySem.W.dataLt_tuple];exact Hl _ _ _ _ _ _ (UJ a.2 b.2)
theorem Bj(a b:Rw):PySem.W.alike (rD a) (rD b)=true:=by unfold rD dT;rw[PySem.W.alike,PySem.W.alikeAll,PySem.W.alikeAll,PySem.W.alike,PySem.W.alike,PySem.W.alike_ints,PySem.W.alikeAll];rfl
theorem bU.map{α β:Type}{P:V->β->Prop}(f:α->β){ws:List V}{L:List α}(h:bU (λv x=>P v (f x)) ws L):bU P ws (L.map f):=by refine⟨by rw[afy,h.1],λi v x a b=>?_⟩;rw[afI]at b;obtain⟨y,hy,e⟩:=af5.mp b;rw[<-e];exact h.2 i v y a hy
theorem Ph{a b:Rw}(h:rk a=rk b):a=b:=by unfold rk at h;injection h with h1 h2;exact Prod.ext h1 h2
def Jz(S:List Rw):Prop:=S.Pairwise λa b=>rk a<rk b
theorem Mr:∀{S T:List Rw},Jz S->Jz T->(∀r,r∈S↔r∈T)->S=T
 |[],[],_,_,_=>rfl
 |[],t::T,_,_,h=>absurd ((h t).mpr afv) (by simp)
 |s::S,[],_,_,h=>absurd ((h s).mp afv) (by simp)
 |s::S,t::T,hs,ht,h=>by
  obtain⟨hs1,hs2⟩:=List.pairwise_cons.mp hs;obtain⟨ht1,ht2⟩:=List.pairwise_cons.mp ht;have e:s=t:=by
   rcases afD.mp ((h s).mp afv) with e|m
   .exact e
   .rcases afD.mp ((h t).mpr afv) with e2|m2
    .exact e2.symm
    .exact absurd (ht1 s m) (List.lt_asymm (hs1 t m2))
  subst e;have hn:∀{L:List Rw},(∀r∈L,rk s<rk r)->s∉L:=λhL m=>List.lt_irrefl _ (hL s m);rw[Mr hs2 ht2 λr=>?_];constructor
  .intro m;rcases afD.mp ((h r).mp (afu _ m)) with e|m2
   .rw[e]at m;exact absurd m (hn hs1)
   .exact m2
  .intro m;rcases afD.mp ((h r).mpr (afu _ m)) with e|m2
   .rw[e]at m;exact absurd m (hn ht1)
   .exact m2
theorem ug(a b:Rw):PySem.W.dataLe false rD a b=decide (rk a<=rk b):=by
 show(!PySem.W.dataLt (rD b) (rD a))=_
 rw[aaj,af9,afB,decide_eq_false_iff_not,ago];exact List.not_lt
theorem Pj{α β:Type}{R:α->β->Prop}{as cs:List α}(p:as.Perm cs):∀{bs:List β},PySem.W.EachIs R as bs->∃ds,ds.Perm bs/\PySem.W.EachIs R cs ds:=by
 induction p with
 |nil=>
  intro bs h;cases h;exact⟨[],List.Perm.refl _,.nil⟩
 |cons x _ ih=>
  intro bs h;cases h with
  |cons r t=>
   obtain⟨ds,h1,h2⟩:=ih t;exact⟨_::ds,h1.cons _,.cons r h2⟩
 |swap x y l=>
  intro bs h;cases h with
  |cons r t=>
   cases t with
   |cons r2 t2=>exact⟨_,List.Perm.swap _ _ _,.cons r2 (.cons r t2)⟩
 |trans _ _ ih1 ih2=>
  intro bs h;obtain⟨ds,a1,a2⟩:=ih1 h;obtain⟨es,b1,b2⟩:=ih2 a2;exact⟨es,b1.trans a1,b2⟩
section
variable{P:Program}{w:World}{A:Around}{E:Value->Shared->Prop}{s:Shared}
theorem HS{β:Type}{a:Addr}{es:Array (Int×Value)}{ep:Nat}{t:SetTable}{enc:β->PyData}{bs:List β}{R:Value->β->Prop}{Q:Value->Shared->Prop}(hh:A.handled=none)(ha:SetAt s.heap a es ep t)(hf:t.fits es.size=true)(hsz:es.size<scanBound)(hr:Ris t.place.toList)
  (hl:w.params.followText "set-order"=true\/t.led=true) (e:PySem.W.EachIs (λv b=>R v b/\∃as,Reads s.heap v (enc b) as) (es.toList.map (·.2)) bs) (hal:PySem.W.AllAlike (bs.map enc)) (hk:PySem.W.Sortable (bs.map enc)) (hu:∀b∈bs,A.units+2+(enc b).depth<cLine)
  (hQ:∀(s':Shared) (p:Addr) (out:List Value) (c:Nat) (cs:List β),(∀b o,s.heap.get? b=some o->s'.heap.get? b=some o)->s'.gens=s.gens->s'.os=s.os->s.heap.objs.size<=p->s'.heap.get? p=some (seqObj "list" out.toArray c)->
   cs.Perm bs->PySem.W.EachIs R out (cs.mergeSort (PySem.W.dataLe false enc))->Q (.ref p) s') :
  wpAny (model P w) A (call (.builtin "sorted") [.ref a]) Q E s:=by
 refine Calls.call_function_entry kind_sorted plain_sorted entry_sorted (args_sorted1 _) ?_;unfold Builtin.«sorted»;refine wpAny_bind (m:=checkCount "sorted" 1 1 _) (wpAny_pure ?_)
 refine wpAny_bind (collect_set (A:=A.in1) hh ha hf hsz hr hl λt1 vals kept grown g1 o1 pm=>?_);obtain⟨cs,pc,ec⟩:=Pj pm.symm e;have lc:vals.length=cs.length:=ec.length;have lb:cs.length=bs.length:=pc.length_eq;have lz:vals.length<=sizeLine:=by rw[pm.length_eq,afy,afQ,sizeLine_eq];unfold scanBound at hsz;omega
 refine wpAny_bind (wpAny_newList ?_ lz);have here:(t1.heap.push (seqObj "list" vals.toArray 0)).get? t1.heap.objs.size=some (seqObj "list" vals.toArray 0):=Heap.get?_push_size _ rfl
 have stays:∀b o,s.heap.get? b=some o->(t1.heap.push (seqObj "list" vals.toArray 0)).get? b=some o:=λb o q=>Heap.get?_push_of_some _ (kept b o q)
 have al:PySem.W.AllAlike (cs.map enc):=λd hd d' hd'=>hal d ((pc.map enc).mem_iff.mp hd) d' ((pc.map enc).mem_iff.mp hd');have sk:PySem.W.Sortable (cs.map enc):=by
  rcases hk with k|k
  .exact .inl λd hd=>k d ((pc.map enc).mem_iff.mp hd)
  .exact .inr λd hd=>k d ((pc.map enc).mem_iff.mp hd)
 refine wpAny_bind (wpAny_holding (PySem.W.list_sort_data (s:={ t1 with heap:=t1.heap.push (seqObj "list" vals.toArray 0) }) (enc:=enc) here (ec.mono λv b h=>h.1) (ec.mono λv b ⟨_,as,r⟩=>⟨as,PySem.W.reads_keeps stays r,λm=>?rd⟩) al sk (by omega) (λb hb=>?un) λout lo eo=>?fin))
 case rd=>
  obtain⟨o,q⟩:=PyProof.On.reads_mem_get r _ m;have hlt:t1.heap.objs.size<s.heap.objs.size:=Heap.lt_size q;exact absurd grown (Nat.not_le_of_lt hlt)
 case fin=>
  obtain⟨c,hc⟩:=sortedHeap_at (vs:=vals) (out:=out.toArray) here;refine wpAny_pure ⟨_,rfl,hQ _ t1.heap.objs.size out c cs (λb o q=>?_) g1 o1 grown hc pc eo⟩;have hlt:=Heap.lt_size (kept b o q)
  show(sortedHeap (t1.heap.push (seqObj "list" vals.toArray 0)) t1.heap.objs.size vals out.toArray).get? b=some o
  rw[sortedHeap_old (afX hlt) (by rw[size_push'];exact aga hlt)];exact stays b o q
 case un=>
  have:=hu b (pc.mem_iff.mp hb);show A.in1.units+1+_<_;have e1:A.in1.units=A.units+1:=rfl;omega
def nk(r:Rw):NestedKey:=.tup [.num r.1,.tup (r.2.map .num)]
theorem Dg:∀a b:List Int,a.map NestedKey.num=b.map NestedKey.num->a=b
 |[],[],_=>rfl
 |[],_::_,h=>by cases h
 |_::_,[],h=>by cases h
 |x::a,y::b,h=>by
  rw[aft,aft]at h;injection h with h1 h2;injection h1 with h1;rw[h1,Dg a b h2]
theorem Ly{a b:Rw}(h:nk a=nk b):a=b:=by unfold nk at h;injection h with h;injection h with h1 h;injection h with h2 _;injection h1 with h1;injection h2 with h2;exact Prod.ext h1 (Dg _ _ h2)
theorem xV:∀l:List Int,NestedKey.depthAll (l.map .num)=0
 |[]=>by rw[agj,NestedKey.depthAll]
 |x::l=>by
  rw[aft,NestedKey.depthAll,NestedKey.depth,xV l];rfl
theorem Qy(r:Rw):(nk r).depth=2:=by unfold nk;rw[NestedKey.depth,NestedKey.depthAll,NestedKey.depthAll,NestedKey.depthAll,NestedKey.depth,NestedKey.depth,xV];rfl
def fL(P:Program)(w:World):HeapKind P w Rw where
 is:=λh r a=>(nestedKind P w).is h (nk r) a
 hash:=λr=>(nestedKind P w).hash (nk r)
 draws:=λr=>(nestedKind P w).draws (nk r)
 room:=(nestedKind P w).room
 inj:=λhx hy=>Ly ((nestedKind P w).inj hx hy)
 keeps:=λx ho hd hs=>(nestedKind P w).keeps x ho hd hs
 pyHash:=λhu hk h=>(nestedKind P w).pyHash hu hk h
 eqBool:=λ{A E s x y a b Q} hu hx hy h=>(nestedKind P w).eqBool hu hx hy (by
  have e:decide (nk x=nk y)=decide (x=y):=by rw[decide_eq_decide];exact⟨Ly,λh=>by rw[h]⟩
  rw[e];exact h)
 quiet:=λhk h=>(nestedKind P w).quiet hk h
abbrev RI(h:Heap)(r:Rw)(a:Addr):Prop:=NestedIs h (nk r) (.ref a)/\(nk r).depth<=8
theorem zE{h h':Heap}{r:Rw}{a:Addr}(x:RI h r a)(k:∀c o,h.get? c=some o->h'.get? c=some o):RI h' r a:=⟨NestedIs.at (λb o _ _ e _=>k b o e) _ _ x.1,x.2⟩
theorem Gy{h h':Heap}{r:Rw}{a d:Addr}{o:Obj}{es:Array (Int×Value)}{ep:Nat}{t:SetTable}(x:RI h r a)(ho:h.get? d=some o)(hd:o.data=.set es ep t)(sb:Heap.SameBut d h h'):RI h' r a:=by
 refine⟨NestedIs.at (λb ob vs n hb hc=>(sb.2 b λe=>?_).trans hb) _ _ x.1,x.2⟩;subst e
 obtain rfl:ob=o:=afR (hb.symm.trans ho)
 rw[hd]at hc;cases hc
theorem rB{h:Heap}{i:Int}{v:Value}(x:NestedIs h (.num i) v)(n:Nat):ofAClassStatement n v=pure false/\hashByValue n v=pure true:=by
 cases x with
 |bool _=>cases n<;>exact⟨rfl,rfl⟩
 |int _ t=>cases n<;>exact⟨rfl,rfl⟩
theorem Dj{h:Heap}:∀(l:List Int) (vs:List Value),NestedAll h (l.map .num) vs->∀v∈vs,∃i,NestedIs h (.num i) v
 |[],_,x,v,hv=>by
  cases x;cases hv
 |i::l,_,x,v,hv=>by
  rw[aft]at x;cases x with
  |cons x1 x2=>
   rcases afD.mp hv with e|hv
   .exact⟨i,by rw[e];exact x1⟩
   .exact Dj l _ x2 v hv
theorem Jj{n:Nat}{a:Addr}{o:Obj}{vs:Array Value}{m:Nat}(ho:s.heap.get? a=some o)(hc:o.cls=.type "tuple")(hd:o.data=.seq vs m)(hq:∀v∈vs.toList,∀(E:Value->Shared->Prop) (Q:Bool->Shared->Prop),Q false s->wpAny (model P w) A (ofAClassStatement n v) Q E s){Q:Bool->Shared->Prop}(q:Q false s) :
  wpAny (model P w) A (ofAClassStatement (n+1) (.ref a)) Q E s:=by
 have hT:s.TypeIs (.ref a) "tuple":=⟨o,ho,hc⟩
 unfold ofAClassStatement;refine wpAny_bind (wpAny_typeOf hT ?_)
 dsimp only
 have eq1:(("tuple" : String)=="tuple")=true:=by decide
 simp only[eq1,if_true,Bool.not_true,afO,if_false]
 try refine wpAny_bind (wpAny_pure ?_)
 try simp only[Bool.not_true,afO,if_false]
 refine wpAny_bind (wpAny_seqItems ho hd ?_)
 dsimp only
 refine wpAny_bind ?_;rw[<-Array.forIn_toList];refine wpAny_forIn_list _ (λleft r u=>r.1=none/\u=s/\∀v∈left,v∈vs.toList) _ ?_ ?_ _ _ ⟨rfl,rfl,λv hv=>hv⟩
 .rintro v left r u ⟨hr,rfl,hall⟩;refine wpAny_bind (hq v (hall v afv) _ _ ?_);simp only[afO,if_false];exact wpAny_pure ⟨rfl,rfl,λy hy=>hall y (afu _ hy)⟩
 .rintro⟨r1,r2⟩ u ⟨hr,rfl,_⟩;simp only at hr;subst hr;exact wpAny_pure q
theorem Et{n:Nat}{a:Addr}{o:Obj}{vs:Array Value}{m:Nat}(ho:s.heap.get? a=some o)(hc:o.cls=.type "tuple")(hd:o.data=.seq vs m)(hq:∀v∈vs.toList,∀(E:Value->Shared->Prop) (Q:Bool->Shared->Prop),Q true s->wpAny (model P w) A (hashByValue n v) Q E s){Q:Bool->Shared->Prop}(q:Q true s) :
  wpAny (model P w) A (hashByValue (n+1) (.ref a)) Q E s:=by
 have hT:s.TypeIs (.ref a) "tuple":=⟨o,ho,hc⟩
 unfold hashByValue;refine wpAny_bind (wpAny_specialOf hT PySem.F.slot_tuple_hash.lookup ?_);show wpAny _ _ (seqItems? (.ref a) >>= _) _ _ s;refine wpAny_bind (wpAny_seqItems ho hd ?_);refine wpAny_bind ?_;show wpAny _ _ (forIn vs _ _) _ _ s;rw[<-Array.forIn_toList];refine wpAny_forIn_list _ (λleft r u=>r.1=none/\u=s/\∀v∈left,v∈vs.toList) _ ?_ ?_ _ _ ⟨rfl,rfl,λv hv=>hv⟩
 .rintro v left r u ⟨hr,rfl,hall⟩;refine wpAny_bind (hq v (hall v afv) _ _ ?_);simp only[Bool.not_true,afO,if_false];exact wpAny_pure ⟨rfl,rfl,λy hy=>hall y (afu _ hy)⟩
 .rintro⟨r1,r2⟩ u ⟨hr,rfl,_⟩;simp only at hr;subst hr;exact wpAny_pure q
theorem qW{r:Rw}{a:Addr}(x:RI s.heap r a):(∀{Q:Bool->Shared->Prop},Q false s->wpAny (model P w) A (ofAClassStatement 8 (.ref a)) Q E s)/\∀{Q:Bool->Shared->Prop},Q true s->wpAny (model P w) A (hashByValue 8 (.ref a)) Q E s:=by
 obtain⟨x,_⟩:=x;unfold nk at x;cases x with
 | @tup _ o vs m _ ho hc hd x=>
  have items:∀v∈vs.toList,(∃i,NestedIs s.heap (.num i) v)\/∃b,v=.ref b/\∃o us k,s.heap.get? b=some o/\o.cls=.type "tuple"/\o.data=.seq us k/\∀u∈us.toList,∃i,NestedIs s.heap (.num i) u:=by
   generalize vs.toList=l at x;cases x with
   |cons x1 x=>
    cases x with
    |cons x2 x=>
     cases x;intro v hv;rcases afD.mp hv with e|hv
     .exact Or.inl ⟨_,by rw[e];exact x1⟩
     .have e:=afJ.mp hv;cases x2 with
      |tup k1 k2 k3 k4=>exact Or.inr ⟨_,e,_,_,_,k1,k2,k3,Dj _ _ k4⟩
  refine⟨λq=>Jj ho hc hd (λv hv E' Q' q'=>?_) q,λq=>Et ho hc hd (λv hv E' Q' q'=>?_) q⟩
  .rcases items v hv with⟨i,y⟩|⟨b,rfl,o',us,k,k1,k2,k3,k4⟩
   .rw[(rB y 7).1];exact wpAny_pure q'
   .refine Jj k1 k2 k3 (λu hu E2 Q2 q2=>?_) q';obtain⟨i,y⟩:=k4 u hu;rw[(rB y 6).1];exact wpAny_pure q2
  .rcases items v hv with⟨i,y⟩|⟨b,rfl,o',us,k,k1,k2,k3,k4⟩
   .rw[(rB y 7).2];exact wpAny_pure q'
   .refine Et k1 k2 k3 (λu hu E2 Q2 q2=>?_) q';obtain⟨i,y⟩:=k4 u hu;rw[(rB y 6).2];exact wpAny_pure q2
end
abbrev Ent:Type:=Addr×Rw
section
variable{P:Program}{w:World}{A:Around}{E:Value->Shared->Prop}{s:Shared}
def ents(hf:Rw->Int)(L:List Ent):List (Int×Value):=L.map λp=>(hf p.2,Value.ref p.1)
structure iy(hf:Rw->Int)(w:World)(h:Heap)(a:Addr)(L:List Ent)(es:Array (Int×Value))(ep:Nat)(t:SetTable):Prop where
 ob:∃o,h.get? a=some o/\o.ExactSet/\o.data=.set es ep t
 en:es.toList=ents hf L
 tab:TabOk t (L.map λp=>hf p.2)
 nd:(L.map Prod.snd).Nodup
 ky:∀p∈L,RI h p.2 p.1
 pl:t.plain=true
 ld:w.params.followText "set-order"=true\/t.led=true
 free:L.length*5<t.mask*3
 few:L.length<=76
variable{hf:Rw->Int}{a:Addr}{L:List Ent}{es:Array (Int×Value)}{ep:Nat}{t:SetTable}
theorem lB(h:es.toList=ents hf L):es.size=L.length:=by rw[<-afQ,h];exact afy _
theorem vh(h:es.toList=ents hf L){i:Nat}{p:Ent}(g:L[i]?=some p):es[i]?=some (hf p.2,Value.ref p.1):=by rw[<-af3,h];unfold ents;rw[afI,g];rfl
theorem fits_of(h1:t.place.size=es.size)(h2:t.dummies=#[])(h3:es.size<=t.mask):t.fits es.size=true:=by unfold SetTable.fits SetTable.fill;rw[h2,afs,beq_iff_eq,ago];exact⟨h1,by show t.place.size+0<=t.mask;omega⟩
theorem iy.fits(R:iy hf w s.heap a L es ep t):t.fits es.size=true:=by have l1:=lB R.en;have l2:=R.tab.sz;rw[afy]at l2;have l3:=R.free;exact fits_of (by omega) R.tab.dm (by omega)
theorem iy.sound(R:iy hf w s.heap a L es ep t):¬t.gaveWay=true:=by unfold SetTable.gaveWay;rw[mask_odd R.tab.mok];decide
theorem W9{r:Rw}{b:Addr}{Q:Bool->Shared->Prop}(hx:RI s.heap r b){ys:List Value}(hy:∀y∈ys,∃q c,y=Value.ref c/\RI s.heap q c)(q:Q false s):wpAny (model P w) A (searchCouldBeSeen (.ref b) ys) Q E s:=by
 unfold searchCouldBeSeen;refine wpAny_bind ?_;refine wpAny_forIn_list _ (λleft r u=>r.1=none/\u=s/\∀y∈left,∃q c,y=Value.ref c/\RI s.heap q c) _ ?_ ?_ _ _ ⟨rfl,rfl,hy⟩
 .rintro v left r u ⟨hr,rfl,hall⟩;obtain⟨q',c,rfl,hc⟩:=hall v afv;have more:∀y∈left,∃q c,y=Value.ref c/\RI u.heap q c:=λy m=>hall y (afu _ m)
  dsimp only
  by_cases hv:(b==c || (carriedByValue (.ref b)&&carriedByValue (.ref c)))=true
  .exact wp_if_pos hv (wpAny_pure ⟨rfl,rfl,more⟩)
  .refine wp_if_neg hv ?_;refine wpAny_bind ((fL P w).quiet hx ?_);simp only[Bool.not_true,afO,if_false];refine wpAny_bind ((fL P w).quiet hc ?_);simp only[Bool.not_true,afO,if_false];refine wpAny_bind ((qW hx).1 ?_);simp only[afO,if_false];refine wpAny_bind ((qW hc).1 ?_);simp only[afO,if_false];exact wpAny_pure ⟨rfl,rfl,more⟩
 .rintro⟨r1,r2⟩ u ⟨hr,rfl,_⟩;simp only at hr;subst hr;exact wpAny_pure q
abbrev jw(m:Nat)(h:Int)(c:Nat):SetTable.Probe:=nth m (runAt m (SetTable.bits h%(m+1)) (SetTable.bits h)) c
theorem Ht(m:Nat)(h:Int)(c:Nat):(jw m h c).dummy=none:=by
 have all:∀(n:Nat) (p:SetTable.Probe),p.dummy=none->(nth m p n).dummy=none:=by
  intro n
  induction n with
  |zero=>exact λp k=>k
  |succ n ih=>
   intro p k;refine ih (adv m p) ?_;unfold adv
   split<;>exact k
 exact all c _ rfl
theorem Aj(m:Nat)(h:Int)(c d:Nat):nth m (jw m h c) d=jw m h (c+d):=(nth_add m c _ d).symm
theorem seek(R:iy hf w s.heap a L es ep t){x:Addr}{r:Rw}(hx:RI s.heap r x){h:Int}(hh:hf r=h)(hu:(fL P w).room A){N:Nat}(hN:N<10*SetTable.turns t.mask)(out:way t.mask (h) N∉t.place.toList)(inn:∀c,c<N->way t.mask (h) c∈t.place.toList){Q:SetFound->Shared->Prop}
  (yes:r∈L.map Prod.snd->Q (.there none) s) (no:r∉L.map Prod.snd->Q (.free (way t.mask (h) N) false) s) :
  ∀(f c:Nat) (st:Option SetTable.Probe),st.getD (t.probeStart (h))=jw t.mask (h) c->c<=N->N-c<f->
   (∀(i:Nat) (p:Ent),L[i]?=some p->p.2=r->∃d,c<=d/\d<N/\t.place.toList[i]?=some (way t.mask (h) d))->
   wpAny (model P w) A (setSearchFrom a (.ref x) (h) true f st) Q E s:=by
 intro f
 induction f with
 |zero=>exact λ_ _ _ _ hfl _=>absurd hfl (Nat.not_lt_zero _)
 |succ f ih=>
  intro c st hst hc hfl left;obtain⟨o,ho,hex,hd⟩:=R.ob;rw[setSearchFrom_succ];refine wpAny_bind (wpAny_setState_of ho hd R.fits ?_)
  dsimp only
  refine wp_if_neg R.sound ?_
  try refine wpAny_bind (wpAny_pure ?_)
  have jAt:∀d,(nth t.mask (jw t.mask h c) d).j=way t.mask h (c+d):=λd=>congrArg SetTable.Probe.j (Aj t.mask h c d);have hashOf:∀(i:Nat) (p:Ent),L[i]?=some p->(es[i]?.map (·.1)).getD 0=hf p.2:=λi p g=>by
   rw[vh R.en g];rfl
  have spec:=go_spec t R.tab.ris R.tab.dm (λi=>(es[i]?.map (·.1)).getD 0) h (10*SetTable.turns t.mask) (N-c) (jw t.mask h c) (Ht _ _ _) (by omega) (λd hdn=>by rw[jAt];exact inn (c+d) (by omega)) (by rw[jAt,agh hc];exact out);rcases spec with⟨d,i,hdn,hi,hhi,hno,hpr⟩|⟨hno,hpr⟩
  .have hpr':t.probe (λi=>(es[i]?.map (·.1)).getD 0) h (st.getD (t.probeStart h))=some (.candidate (way t.mask h (c+d)) i (jw t.mask h (c+(d+1)))):=by
    rw[hst,<-jAt,<-Aj];exact hpr
   rw[hpr']
   dsimp only
   rw[jAt]at hi;have hil:i<L.length:=by have k1:=(afw.mp hi).1;have k2:=R.tab.sz;rw[afy]at k2;rw[afQ]at k1;omega
   obtain⟨p,hp⟩:∃p,L[i]?=some p:=⟨_,afx hil⟩;have pm:=afK hp;have go:wpAny (model P w) A (searchRest a (.ref x) h true f es t (way t.mask h (c+d)) i (jw t.mask h (c+(d+1)))) Q E s:=by
    unfold searchRest;rw[vh R.en hp]
    dsimp only
    refine wpAny_bind (wpAny_holding ((fL P w).eqBool hu (R.ky p pm) hx ?_));refine wpAny_bind (wpAny_setState_of ho hd R.fits ?_)
    dsimp only
    by_cases same:p.2=r
    .exact wp_if_pos (by simp[same]) (wpAny_pure (yes (afG.mpr ⟨p,pm,same⟩)))
    .refine wp_if_neg (by simp[same]) ?_
     try refine wpAny_bind (wpAny_pure ?_)
     rw[sameMem]
     dsimp only
     have live:t.slot (way t.mask h (c+d))=.live i:=slot_live R.tab.ris hi;simp only[if_true,live,vh R.en hp];refine wpAny_bind (wpAny_isSame_ref_self (wpAny_bind (wpAny_pure ?_)));simp only[if_true];refine wp_if_neg (by simp[same]) ?_;refine ih (c+(d+1)) _ rfl (by omega) (by omega) λi0 p0 g0 e0=>?_;obtain⟨d0,a1,a2,a3⟩:=left i0 p0 g0 e0;refine⟨d0,?_,a2,a3⟩;by_cases c1:d0<c+d
     .exact absurd ((hashOf i0 p0 g0).trans ((congrArg hf e0).trans hh)) (hno (d0-c) i0 (by omega) (by rw[jAt,agh a1];exact a3))
     .by_cases c2:d0=c+d
      .rw[c2]at a3;have live0:=slot_live R.tab.ris a3;rw[live]at live0;injection live0 with ei;rw[<-ei,hp]at g0;exact absurd ((congrArg Prod.snd (afR g0)).trans e0) same
      .omega
   by_cases hl:t.led=true
   .refine wp_if_neg (by simp[hl]) ?_
    try refine wpAny_bind (wpAny_pure ?_)
    exact go
   .refine wp_if_pos (by simp[hl]) ?_;refine wpAny_bind (W9 hx (λy hy=>?_) ?_)
    .obtain⟨e,he,ee⟩:=afG.mp hy;have h1:e∈es/\e.1=h:=by simpa using he
     have h2:e∈es.toList:=by simpa using h1.1
     rw[R.en]at h2;obtain⟨p2,hp2,e2⟩:=afG.mp h2;exact⟨p2.2,p2.1,by rw[<-ee,<-e2],R.ky p2 hp2⟩
    .refine wp_if_neg (by decide) ?_
     try refine wpAny_bind (wpAny_pure ?_)
     exact go
  .have hpr':t.probe (λi=>(es[i]?.map (·.1)).getD 0) h (st.getD (t.probeStart h))=some (.empty (way t.mask h N) none):=by
    have e2:way t.mask h N=(nth t.mask (jw t.mask h c) (N-c)).j:=by rw[jAt,agh hc]
    rw[hst,e2];exact hpr
   rw[hpr']
   dsimp only
   refine wpAny_pure (no λhm=>?_);obtain⟨p0,m0,e0⟩:=afG.mp hm;obtain⟨i0,hi0,e1⟩:=List.getElem_of_mem m0;have g0:L[i0]?=some p0:=by rw[afx hi0,e1]
   obtain⟨d0,a1,a2,a3⟩:=left i0 p0 g0 e0;exact hno (d0-c) i0 (by omega) (by rw[jAt,agh a1];exact a3) ((hashOf i0 p0 g0).trans ((congrArg hf e0).trans hh))
theorem look(R:iy hf w s.heap a L es ep t){x:Addr}{r:Rw}(hx:RI s.heap r x)(hu:(fL P w).room A){Q:SetFound->Shared->Prop}(yes:r∈L.map Prod.snd->Q (.there none) s)
  (no:∀N,r∉L.map Prod.snd->way t.mask (hf r) N∉t.place.toList->(∀c,c<N->way t.mask (hf r) c∈t.place.toList)->Q (.free (way t.mask (hf r) N) false) s):wpAny (model P w) A (setSearch a (.ref x) (hf r) true) Q E s:=by
 have hfree:=R.free;obtain⟨N,hN,out,inn⟩:=R.tab.first (by rw[afy];omega) (hf r);have small:N<100000:=by
  have:10*SetTable.turns t.mask<=1420:=by unfold SetTable.turns;rcases R.tab.mok with e|e|e<;>omega
  omega
 unfold setSearch;refine seek R hx rfl hu hN out inn yes (λhn=>no N hn out inn) 100000 0 none rfl (afU _) (by omega) λi p g e=>?_;have hi:(L.map λp=>hf p.2)[i]?=some (hf r):=by rw[afI,g,<-e];rfl
 have hil:i<t.place.toList.length:=by have k1:=(afw.mp g).1;have k2:=R.tab.sz;rw[afy]at k2;rw[afQ];omega
 obtain⟨c,hc,ec⟩:=R.tab.before out hi (afx hil);exact⟨c,afU _,hc,by rw[afx hil,ec]⟩
end
section
variable{P:Program}{w:World}{A:Around}{E:Value->Shared->Prop}{s:Shared}{hf:Rw->Int}{a:Addr}{L:List Ent}{es:Array (Int×Value)}{ep:Nat}{t:SetTable}
theorem QS(L:List Ent)(n:Nat)(x:Addr)(r:Rw):ents hf (L.take n++(x,r)::L.drop n)=(ents hf L).take n++(hf r,Value.ref x)::(ents hf L).drop n:=by unfold ents;rw[afY,aft,List.map_take,List.map_drop]
theorem range_all(L:List Ent):(List.range L.length).filterMap (λi=>L[i]?)=L:=by
 have part:∀n,n<=L.length->(List.range n).filterMap (λi=>L[i]?)=L.take n:=by
  intro n
  induction n with
  |zero=>exact λ_=>rfl
  |succ n ih=>
   intro hn;rw[List.range_succ,List.filterMap_append,ih (by omega),List.take_add_one,afx (show n<L.length by omega)];congr 1;rw[List.filterMap_cons_some (afx (show n<L.length by omega))];rfl
 rw[part _ (afN _),List.take_length]
theorem Om(h:es.toList=ents hf L){order:Array Nat}(hp:order.toList.Perm (List.range L.length)) :
  ∃M:List Ent,(order.filterMap (es[·]?)).toList=ents hf M/\M.Perm L/\(M.map λp=>hf p.2)=order.toList.map λi=>(es.map (·.1)).getD i 0:=by
 have inside:∀i∈order.toList,i<L.length:=λi hi=>List.mem_range.mp (hp.mem_iff.mp hi);refine⟨order.toList.filterMap (λi=>L[i]?),?_,?_,?_⟩
 .have e1:(order.filterMap (es[·]?)).toList=order.toList.filterMap (λi=>es[i]?):=by
   first | rw[Array.toList_filterMap] | simp
  rw[e1];unfold ents;rw[List.map_filterMap];congr 1;funext i;rw[<-af3,h];unfold ents;rw[afI]
 .have:=hp.filterMap (λi=>L[i]?);rw[range_all]at this;exact this
 .generalize order.toList=l at inside
  induction l with
  |nil=>rfl
  |cons i l ih=>
   have hi:=inside i afv;have e5:(es.map (·.1))[i]?=some (hf (L[i]).2):=by rw[Array.getElem?_map,vh h (afx hi)];rfl
   rw[List.filterMap_cons_some (afx hi),aft,aft,ih λj hj=>inside j (afu _ hj),Array.getD_eq_getD_getElem?,e5];rfl
theorem aax{o:Obj}(ho:s.heap.get? a=some o)(hex:o.ExactSet)(hd:o.data=.set es ep t)(he:es.toList=ents hf L)(hsz:t.place.size=es.size)(hdm:t.dummies=#[])(hfl:es.size<=t.mask)(nd:(L.map Prod.snd).Nodup)(ky:∀p∈L,RI s.heap p.2 p.1)(pl:t.plain=true)
  (ld:w.params.followText "set-order"=true\/t.led=true) (few:L.length<=76) {wanted M:Nat} (hw:SetTable.sizeAbove wanted-1=M) (hM:MaskOk M) (hw2:SetTable.sizeAbove wanted<=128) (hn:L.length*5<M*3) {Q:Unit->Shared->Prop}
  (q:∀h' K es' ep' t',Heap.SameBut a s.heap h'->iy hf w h' a K es' ep' t'->K.Perm L->Q () { s with heap:=h' }):wpAny (model P w) A (setRelay a wanted) Q E s:=by
 have len:=lB he;obtain⟨t',order,e,hp,T,em,el,epl,ed⟩:=relaid_ok t (hs:=es.map (·.1)) (wanted:=wanted) hw hM (by rw[Array.size_map,len];omega);rw[Array.size_map,len]at hp;obtain⟨K,k1,k2,k3⟩:=Om he hp;rw[<-k3]at T;have ks:(order.filterMap (es[·]?)).size=es.size:=by rw[lB k1,k2.length_eq,len]
 rw[setRelay_eq];refine wpAny_bind (wpAny_setState_of ho hd (fits_of hsz hdm hfl) ?_)
 dsimp only
 refine wp_if_neg (by rw[sizeLine_eq];omega) ?_
 try refine wpAny_bind (wpAny_pure ?_)
 rw[e]
 dsimp only
 refine wpAny_bind ?_;refine wp_if_neg (by rw[ks];simp) ?_
 try refine wpAny_bind (wpAny_pure ?_)
 refine wpAny_pure ?_
 dsimp only
 refine wpAny_storeSet_of ho hd ?_ (by rw[ks,len,sizeLine_eq];omega);have sb:Heap.SameBut a s.heap (s.heap.update a (Obj.putSet (order.filterMap (es[·]?)) t')):=Heap.SameBut.update ..;refine q _ K (order.filterMap (es[·]?)) (ep+1) t' sb ⟨⟨_,store_at ho hd,⟨hex.1,hex.2.1,hex.2.2⟩,rfl⟩,k1,T,(k2.map Prod.snd).nodup_iff.mpr nd,λp hp=>Gy (ky p (k2.mem_iff.mp hp)) ho hd sb,by rw[epl];exact pl,by rw[el];exact ld,?_,by rw[k2.length_eq];exact few⟩ k2;rw[k2.length_eq,em];exact hn
theorem Y8(R:iy hf w s.heap a L es ep t){x:Addr}{r:Rw}(hx:RI s.heap r x)(hu:(fL P w).room A)(hfew:r∉L.map Prod.snd->L.length+1<=76){Q:Bool->Shared->Prop}
  (q:∀b h' K es' ep' t',Heap.SameBut a s.heap h'->iy hf w h' a K es' ep' t'->(r∈L.map Prod.snd->K=L)->(r∉L.map Prod.snd->K.Perm ((x,r)::L))->Q b { s with heap:=h' }):wpAny (model P w) A (setAddHashed a (.ref x) (hf r)) Q E s:=by
 obtain⟨o,ho,hex,hd⟩:=R.ob;have len:=lB R.en;have hfree:=R.free;unfold setAddHashed;refine wpAny_holding ?_;rw[show(100000:Nat)=99999+1 from rfl,setAddHashedIn_succ];refine wpAny_bind (wpAny_setState_of ho hd R.fits ?_)
 dsimp only
 refine wp_if_neg (by simp[byScan,Value.scannable]) ?_
 try refine wpAny_bind (wpAny_pure ?_)
 refine wpAny_bind (look R hx hu (λhm=>?_) λN hm out inn=>?_)
 .dsimp only
  exact wpAny_pure (q false s.heap L es ep t (Heap.SameBut.refl a s.heap) R (λ_=>rfl) λz=>absurd hm z)
 have few1:=hfew hm
 dsimp only
 refine wpAny_bind (wpAny_setState_of ho hd R.fits ?_)
 dsimp only
 obtain⟨q1,q2,q3,q4,q5,q6,q7,q8,q9⟩:=R.tab.put out inn;have pl1:(t.put (way t.mask (hf r) N)).1.plain=true:=by rw[q6];exact R.pl
 generalize hpt:t.put (way t.mask (hf r) N)=pt at q1 q3 q4 q5 q6 q7 q8 q9 pl1 |-
 obtain⟨t1,n⟩:=pt
 dsimp only at q1 q3 q4 q5 q6 q7 q8 q9 pl1 |-
 subst q1
 first
  |(refine wpAny_bind ?_;refine wp_if_pos pl1 ?_;refine(qW hx).2 ?_)
  |refine wp_if_pos pl1 (wpAny_bind ((qW hx).2 ?_))
 simp only[if_true];have ein:(SetTable.insertAt es (SetTable.below t.place (way t.mask (hf r) N)) (hf r,Value.ref x)).toList=ents hf (L.take (SetTable.below t.place (way t.mask (hf r) N))++(x,r)::L.drop (SetTable.below t.place (way t.mask (hf r) N))):=by rw[SetTable.toList_insertAt,QS,R.en]
 generalize hnn:SetTable.below t.place (way t.mask (hf r) N)=n at q2 q3 ein |-
 have pm:=put_perm L n (x,r);have hs1:(L.take n++(x,r)::L.drop n).map (λp=>hf p.2)=(L.map λp=>hf p.2).take n++hf r::(L.map λp=>hf p.2).drop n:=by rw[afY,aft,List.map_take,List.map_drop]
 rw[<-hs1]at q3;have nd1:((L.take n++(x,r)::L.drop n).map Prod.snd).Nodup:=by refine(pm.map Prod.snd).nodup_iff.mpr ?_;rw[aft];exact agl.mpr ⟨hm,R.nd⟩
 have len1:(SetTable.insertAt es n (hf r,Value.ref x)).size=L.length+1:=by rw[lB ein,pm.length_eq];rfl
 generalize SetTable.insertAt es n (hf r,Value.ref x)=es1 at ein len1 |-
 have lenM:(L.take n++(x,r)::L.drop n).length=L.length+1:=pm.length_eq;generalize L.take n++(x,r)::L.drop n=M at pm q3 nd1 ein lenM;refine wpAny_bind (wpAny_storeSet_of ho hd ?_ (by rw[len1,sizeLine_eq];omega));have sb:Heap.SameBut a s.heap (s.heap.update a (Obj.putSet es1 t1)):=Heap.SameBut.update ..;have ho1:=store_at (es':=es1) (t':=t1) ho hd;generalize s.heap.update a (Obj.putSet es1 t1)=h1 at sb ho1 |-
 have ky1:∀p∈M,RI h1 p.2 p.1:=λp hp=>by
  rcases afD.mp (pm.mem_iff.mp hp) with e|m
  .rw[e];exact Gy hx ho hd sb
  .exact Gy (R.ky p m) ho hd sb
 have ld1:w.params.followText "set-order"=true\/t1.led=true:=by rw[q5];exact R.ld
 have full:t1.tooFull=true↔(L.length+1)*5 ≥ t1.mask*3:=by unfold SetTable.tooFull;rw[ago,q9,afy]
 by_cases hfu:t1.tooFull=true
 .first
   |(refine wpAny_bind ?_;refine wp_if_pos (by simp[hfu]) ?_)
   |(refine wp_if_pos (by simp[hfu]) ?_;refine wpAny_bind ?_)
  have over:=full.mp hfu;rw[len];have psz:t1.place.size=es1.size:=by have:=q3.sz;rw[afy,lenM]at this;rw[this,len1]
  have which:(t.mask=7/\L.length=4)\/(t.mask=31/\L.length=18):=by
   rcases R.tab.mok with e|e|e
   .rw[q4,e]at over;rw[e]at hfree;exact Or.inl ⟨e,by omega⟩
   .rw[q4,e]at over;rw[e]at hfree;exact Or.inr ⟨e,by omega⟩
   .rw[q4,e]at over;omega
  have go:∀m,SetTable.sizeAbove (SetTable.grown (L.length+1))-1=m->MaskOk m->SetTable.sizeAbove (SetTable.grown (L.length+1))<=128->(L.length+1)*5<m*3->
    wpAny (model P w) A (setRelay a (SetTable.grown (L.length+1))) (λ_ u=>wpAny (model P w) A (pure true) Q E u) E { s with heap:=h1 }:=λm g1 g2 g3 g4=>
   aax (s:={ s with heap:=h1 }) ho1 ⟨hex.1,hex.2.1,hex.2.2⟩ rfl ein psz q3.dm (by rw[len1,q4];rcases which with⟨e,e2⟩|⟨e,e2⟩<;>omega) nd1 ky1 pl1 ld1 (by rw[lenM];exact few1) g1 g2 g3 (by rw[lenM];exact g4)
    λh2 K es2 ep2 t2 sb2 R2 pm2=>wpAny_pure (q true h2 K es2 ep2 t2 (sb.trans sb2) R2 (λz=>absurd z hm) λ_=>pm2.trans pm)
  rcases which with⟨_,e2⟩|⟨_,e2⟩
  .exact go 31 (by rw[e2,size_20]) (.inr (.inl rfl)) (by rw[e2,size_20];decide) (by omega)
  .exact go 127 (by rw[e2,size_76]) (.inr (.inr rfl)) (by rw[e2,size_76];decide) (by omega)
 .first
   |refine wp_if_neg (by simp[hfu]) ?_
   |(refine wpAny_bind ?_;refine wp_if_neg (by simp[hfu]) ?_;refine wpAny_pure ?_)
  have under:¬(L.length+1)*5 ≥ t1.mask*3:=λz=>hfu (full.mpr z);exact wpAny_pure (q true h1 M es1 (ep+1) t1 sb ⟨⟨_,ho1,⟨hex.1,hex.2.1,hex.2.2⟩,rfl⟩,ein,q3,nd1,ky1,pl1,ld1,by rw[lenM];omega,by rw[lenM];exact few1⟩ (λz=>absurd z hm) λ_=>pm)
end
theorem Gz{α:Type}[DecidableEq α]:∀(l D:List α),l.Nodup->(∀x∈l,x∈D)->l.length<=D.length
 |[],_,_,_=>afU _
 |x::l,D,hn,hs=>by
  obtain⟨h1,h2⟩:=agl.mp hn;have mx:=hs x afv;have ih:=Gz l (D.erase x) h2 λy hy=>(List.mem_erase_of_ne (λe=>h1 (by rw[<-e];exact hy))).2 (hs y (afu _ hy));have e:=List.length_erase_of_mem mx;have hp:=List.length_pos_of_mem mx;rw[afA];omega
structure Has(ks:List Ent)(i:Nat)(L:List Ent):Prop where
 sub:∀p∈L,p∈ks.take i
 all:∀p∈ks.take i,p.2∈L.map Prod.snd
theorem oR{α:Type}{l:List α}{i:Nat}{x:α}(h:l[i]?=some x):l.take (i+1)=l.take i++[x]:=by rw[List.take_add_one,h];rfl
theorem Has.next{ks L K:List Ent}{i:Nat}{x:Ent}(g:Has ks i L)(h:ks[i]?=some x)(h1:x.2∈L.map Prod.snd->K=L)(h2:x.2∉L.map Prod.snd->K.Perm (x::L)):Has ks (i+1) K:=by
 by_cases c:x.2∈L.map Prod.snd
 .rw[h1 c];refine⟨λp hp=>?_,λp hp=>?_⟩
  .rw[oR h];exact List.mem_append_left _ (g.sub p hp)
  .rw[oR h]at hp;rcases afV.mp hp with m|m
   .exact g.all p m
   .rw[afJ.mp m];exact c
 .have pm:=h2 c;refine⟨λp hp=>?_,λp hp=>?_⟩
  .rw[oR h];rcases afD.mp (pm.mem_iff.mp hp) with e|m
   .exact List.mem_append_right _ (afJ.mpr e)
   .exact List.mem_append_left _ (g.sub p m)
  .rw[(pm.map Prod.snd).mem_iff,aft];rw[oR h]at hp;rcases afV.mp hp with m|m
   .exact afu _ (g.all p m)
   .rw[afJ.mp m];exact afv
def lJ(w:World):Obj:={ cls:=.type "set",dict:=none,data:=.set #[] 0 (.fresh 0 0 (!w.params.followText "set-order")) }
section
variable{P:Program}{w:World}{A:Around}{E:Value->Shared->Prop}{s:Shared}{hf:Rw->Int}
theorem iy.stay{h h':Heap}{a:Addr}{L:List Ent}{es:Array (Int×Value)}{ep:Nat}{t:SetTable}(R:iy hf w h a L es ep t)(ha:∀o,h.get? a=some o->h'.get? a=some o)(hk:∀p∈L,RI h' p.2 p.1):iy hf w h' a L es ep t:=by obtain⟨o,ho,r⟩:=R.ob;exact⟨⟨o,ha o ho,r⟩,R.en,R.tab,R.nd,hk,R.pl,R.ld,R.free,R.few⟩
theorem Rq{h:Heap}{a:Addr}(ho:h.get? a=some (lJ w)):iy hf w h a [] #[] 0 (.fresh 0 0 (!w.params.followText "set-order")):=by
 refine⟨⟨_,ho,⟨rfl,rfl,rfl⟩,rfl⟩,rfl,⟨List.Pairwise.nil,rfl,rfl,.inl rfl,λx hx=>(by cases hx),λi h j hi=>(by simp at hi)⟩,List.nodup_nil,λp hp=>(by cases hp),rfl,?_,(show 0*5<7*3 by decide),afU _⟩;show _\/(!w.params.followText "set-order")=true
 cases w.params.followText "set-order"
 .exact .inr rfl
 .exact .inl rfl
theorem Wq(hhf:∀r,(fL P w).hash r=hf r){I:Addr}{fp wr:List Addr}{G:Array GenState->Array GenState->Prop}{n:Nat}{Pv:Nat->Value->Prop}{St:Nat->Shared->Prop}{R:Result->Shared->Prop}(W:WalksS P w A.in1 I fp wr G n Pv St)(S:Addr)(hSf:S∉fp)(ks:List Ent)(hn:n=ks.length)
  (D:List Rw) (hD:D.length<=76) (hkD:∀p∈ks,p.2∈D) (hval:∀i v,Pv i v->∃p,ks[i]?=some p/\v=.ref p.1) (h0:Heap) (hk:∀p∈ks,RI h0 p.2 p.1) (hS0:h0.get? S=none) (hw0:∀b∈wr,h0.get? b=none) (hu:(fL P w).room A.in1) :
  ∀(m i:Nat) (s:Shared),n-i=m->i<=n->St i s->(∀b o,h0.get? b=some o->s.heap.get? b=some o)->(∃L es ep t,iy hf w s.heap S L es ep t/\Has ks i L)->
   (∀u L es ep t,Moved (S::wr) G s u->iy hf w u.heap S L es ep t->Has ks n L->(∀b o,h0.get? b=some o->u.heap.get? b=some o)->R (.ok (.ret .none)) u)->
   codeAny (model P w) A (.builtin "set.update.loop" ⟨[.ref S,.ref I],[]⟩) R s:=by
 have Sw:S∉wr:=λh=>hSf (W.sub _ h);have wS:∀b∈wr,b∈S::wr:=λb hb=>afu _ hb;have old:∀{s u:Shared},Moved wr G s u->(∀b o,h0.get? b=some o->s.heap.get? b=some o)->∀b o,h0.get? b=some o->u.heap.get? b=some o:=λhm hkp b o e=>hm.heap b o (λhb=>by rw[hw0 b hb]at e;cases e) (hkp b o e);intro m
 induction m with
 |zero=>
  intro i s hm0 hi hst hkp ⟨L,es,ep,t,hS,g⟩ hR
  obtain rfl:i=n:=by omega
  refine codeAny_builtin PyProof.Rows.F.entry_set_update_loop ?_;rw[Around.under_plainId PyProof.Rows.F.plain_set_update_loop _];refine wpAny_bind (W.done s _ _ hst λu hm=>?_);have kept:=old hm hkp;exact wpAny_pure (hR u L es ep t (hm.mono wS) (hS.stay (λo e=>hm.heap S o Sw e) λp hp=>zE (hk p (af4 (g.sub p hp))) kept) g kept)
 |succ m ih=>
  intro i s hm0 hi hst hkp ⟨L,es,ep,t,hS,g⟩ hR;have hlt:i<n:=by omega
  refine codeAny_builtin PyProof.Rows.F.entry_set_update_loop ?_;rw[Around.under_plainId PyProof.Rows.F.plain_set_update_loop _];refine wpAny_bind (W.item i s _ _ hlt hst λv u hP hst' hm=>?_);obtain⟨p,hp,rfl⟩:=hval i v hP;have kept:=old hm hkp;have hS':iy hf w u.heap S L es ep t:=hS.stay (λo e=>hm.heap S o Sw e) λq hq=>zE (hk q (af4 (g.sub q hq))) kept;have hx:RI u.heap p.2 p.1:=zE (hk p (afK hp)) kept;refine wpAny_bind (wpAny_holding ?_);unfold setAdd;refine wpAny_holding ?_;refine wpAny_bind ((fL P w).pyHash hu hx ?_);rw[hhf];have inD:∀y∈L.map Prod.snd,y∈D:=λy hy=>by
   obtain⟨q,hq,e⟩:=afG.mp hy;rw[<-e];exact hkD q (af4 (g.sub q hq))
  refine Y8 (s:={ u with toks:=u.toks+(fL P w).draws p.2 }) hS' hx hu (λhnew=>?_) λb h' K es' ep' t' sb hS2 c1 c2=>?_
  .have:=Gz (p.2::L.map Prod.snd) D (agl.mpr ⟨hnew,hS.nd⟩) λy hy=>by
    rcases afD.mp hy with e|hy
    .rw[e];exact hkD p (afK hp)
    .exact inD y hy
   rw[afA,afy]at this;omega
  have kept2:∀b o,h0.get? b=some o->h'.get? b=some o:=λb o e=>(sb.2 b (λz=>by rw[z,hS0]at e;cases e)).trans (kept b o e);refine wpAny_pure ⟨plainId_quiet PyProof.Rows.F.plain_set_update_loop _,ih (i+1) _ (by omega) hlt (W.frame _ u _ _ hst' (Nat.le_add_right _ _) λb hb o e=>?_) kept2 ⟨K,es',ep',t',hS2,g.next hp c1 c2⟩ λv L2 es2 ep2 t2 hm2 hS3 g3 k3=>?_⟩
  .rw[sb.2 b (λh:b=S=>hSf (by rw[<-h];exact hb))];exact e
  .refine hR v L2 es2 ep2 t2 (Moved.trans W.gtrans ((hm.mono wS).then_heap (Nat.le_add_right _ _) λb o hb e=>?_) hm2) hS3 g3 k3;rw[sb.2 b (λh:b=S=>hb (by rw[h];exact afv))];exact e
set_option maxHeartbeats 4000000 in
theorem Hv(hhf:∀r,(fL P w).hash r=hf r){l:Addr}{items:Array Value}(ks:List Ent)(D:List Rw)(hD:D.length<=76)(hkD:∀p∈ks,p.2∈D){Q:Value->Shared->Prop}(hh:A.handled=none)(hl:s.heap.IsList l items)(hit:items.toList=ks.map λp=>Value.ref p.1)
  (hk:∀p∈ks,RI s.heap p.2 p.1) (hu:A.units+3+8<cLine)
  (h:∀(h':Heap) (tk:Nat) L es ep t,iy hf w h' s.heap.objs.size L es ep t->Has ks ks.length L->(∀b o,s.heap.get? b=some o->h'.get? b=some o)->Q (.ref s.heap.objs.size) { s with heap:=h',toks:=tk }) :
  wpAny (model P w) A (call (.type "set") [.ref l]) Q E s:=by
 have isz:items.size=ks.length:=by rw[<-afQ,hit,afy]
 obtain⟨cc,tl,hmro⟩:=PySem.F.called_set.mro;have hmade:=PySem.F.called_set.made;have hsub:=PySem.F.called_set.sub;refine wpAny_call (codeAny_of_tree ?_);show wpAny _ _ (callAny (.type "set") _) _ _ _
 refine wpAny_pure ⟨Code.quiet_builtin _ (by decide +kernel),codeAny_builtin PySem.F.entry_type_call ?_⟩;rw[Around.under_plain (weight_type_call_type "set" [.ref l] []) rfl]
 have nt:=PySem.F.called_set.notType;have cr:=PySem.F.called_set.canCreate;have hct:=PySem.F.typeCall_set_1 (.ref l)
 (repeat (any_goals first | assumption | wp_step))
 refine codeAny_mono (code_set_led1 (.ref l) (E:=E) (Q₁:=λv u=>v=.ref s.heap.objs.size/\u={ s with heap:=s.heap.push (lJ w) }) ⟨rfl,rfl⟩) λr u hr=>?_;cases r with
 |error e=>exact hr
 |ok fl=>
  cases fl with
  |ret v=>
   obtain⟨rfl,rfl⟩:=hr;have hS:(s.heap.push (lJ w)).get? s.heap.objs.size=some (lJ w):=Heap.get?_push_size _ rfl;have hT:Shared.TypeIs { s with heap:=s.heap.push (lJ w) } (.ref s.heap.objs.size) "set":=⟨_,hS,rfl⟩
   have hli:=PySem.F.called_set.init.lookup;have hbi:=PySem.F.called_set.init.bind (.ref s.heap.objs.size)
   (repeat (any_goals first | assumption | wp_step))
   refine codeAny_mono (codeAny_call_builtin (R:=wants (λr u=>r=.none/\∃h' tk L es ep t,u={ s with heap:=h',toks:=tk }/\iy hf w h' s.heap.objs.size L es ep t/\Has ks ks.length L/\∀b o,s.heap.get? b=some o->h'.get? b=some o) E) PySem.F.called_set.init.plain PySem.F.entry_set_init (check_set_init_1 hT ?_)) λr₂ u₂ hr₂=>?_
   .obtain⟨ol,hol,hcl,nl,hdl⟩:=hl;obtain⟨ocls,odict,odata,oslots⟩:=ol;simp only at hcl hdl;subst hcl;subst hdl;have hol':(s.heap.push (lJ w)).get? l=some { cls:=.type "list",dict:=odict,data:=.seq items nl,slots:=oslots }:=Heap.get?_push_of_some _ hol
    have sl1:=PySem.F.sub_list_set;have sl2:=PySem.F.sub_list_frozenset;have nd:(Value.type "list"==Value.type "dict")=false:=by decide
    have hl1:(s.heap.push (lJ w)).IsList l items:=⟨_,hol',rfl,nl,rfl⟩;unfold Builtin.«set.__init__» noKeywords Builtin.Frozenset.updateFrom;generalize hPI:pyIter=PI
    wp_walk
    subst hPI;refine wpAny_pyIter_list hl1 ?_;refine wpAny_bind (wpAny_runValue ?_);have lS:l<s.heap.objs.size:=Heap.lt_size hol;have h3:A.in1.in1.in1.handled=none:=by simp[hh]
    have sz1:(s.heap.push (lJ w)).objs.size=s.heap.objs.size+1:=Heap.size_push ..;have lI:l≠(s.heap.push (lJ w)).objs.size:=by rw[sz1];exact afX (aga lS)
    have Sf:s.heap.objs.size∉[(s.heap.push (lJ w)).objs.size,l]:=by rw[sz1];simp only[afD,afS,or_false,not_or];exact⟨afX (Nat.lt_succ_self _),Nat.ne_of_gt lS⟩
    have hval:∀(i:Nat) (v:Value),items[i]?=some v->∃p,ks[i]?=some p/\v=.ref p.1:=λi v hv=>by
     rw[<-af3,hit,afI]at hv;obtain⟨p,g1,g2⟩:=af5.mp hv;exact⟨p,g1,g2.symm⟩
    have fresh:∀b,s.heap.objs.size<=b->s.heap.get? b=none:=λb hb=>by
     cases q:s.heap.get? b with
     |none=>rfl
     |some o=>exact absurd (Heap.lt_size q) (Nat.not_lt_of_le hb)
    refine Wq hhf ((Walks.list h3 _ l lI items).toS) s.heap.objs.size Sf ks isz D hD hkD hval s.heap hk (fresh _ (afN _)) (λb hb=>fresh b (by rw[afJ.mp hb,sz1];exact Nat.le_succ _)) hu (items.size-0) 0 _ (by omega) (afU _)
     ⟨⟨_,Heap.get?_push_size _ rfl,rfl,rfl⟩,(hl1.push _)⟩ (λb o e=>Heap.get?_push_of_some _ (Heap.get?_push_of_some _ e)) ⟨[],#[],0,_,Rq (Heap.get?_push_of_some _ hS),⟨λp hp=>(by cases hp),λp hp=>(by simp at hp)⟩⟩ λu L es ep t hm hS' g' kp=>?_
    obtain⟨h',g2,d',tk',os'⟩:=u;have eg:g2=s.gens:=hm.gens;have ed:d'=s.drawn:=hm.drawn;have eo:os'=s.os:=hm.os;subst eg;subst ed;subst eo;refine wpAny_pure ?_;rw[isz]at g';exact wpAny_pure ⟨rfl,h',tk',L,es,ep,t,rfl,hS',g',kp⟩
   .cases r₂ with
    |error e=>exact hr₂
    |ok fl₂=>
     cases fl₂ with
     |ret r=>
      obtain⟨rfl,h',tk,L,es,ep,t,rfl,hS',g',hk'⟩:=hr₂
      (repeat (any_goals first | assumption | wp_step))
      exact h _ _ _ _ _ _ hS' g' hk'
     |_=>exact hr₂.elim
  |_=>exact hr.elim
end
def KD(w:World)(h:Heap)(a:Addr)(L:List Ent):Prop:=∃(hf:Rw->Int) (es:Array (Int×Value)) (ep:Nat) (t:SetTable),(∃o,h.get? a=some o/\o.ExactSet/\o.data=.set es ep t)/\es.toList=ents hf L/\t.fits es.size=true/\Ris t.place.toList/\(w.params.followText "set-order"=true\/t.led=true)
def uQ(w:World)(a:Addr)(L:List Ent):HO:=.ext λh=>KD w h a L
section
variable{X:Cx}
theorem Bf{P:Program}{w:World}{h:Heap}:∀(l:List Int) (us:List Value),Vals (l.map V.int) us->NestedAll h (l.map .num) us
 |[],_,.nil=>.nil
 |i::l,_,.cons r t=>by
  obtain⟨tk,rfl⟩:=r;exact .cons (.int i tk) (Bf (P:=P) (w:=w) l _ t)
theorem BK:∀{ks:List Ent} {us:List Value},Vals (ks.map λp=>V.ref p.1) us->us=ks.map λp=>Value.ref p.1
 |[],_,.nil=>rfl
 |p::ks,_,.cons r t=>by
  cases r;rw[BK t];rfl
theorem Aa{L:List Ent}:∀(out:List Value) (M:List Rw),PySem.W.EachIs (λv (r:Rw)=>∃p∈L,v=Value.ref p.1/\r=p.2) out M->∃ys:List V,Vals ys out/\bU (λv (r:Rw)=>∃p∈L,v=V.ref p.1/\r=p.2) ys M
 |[],[],.nil=>⟨[],.nil,bU.nil⟩
 |_::out,_::M,.cons ⟨p,hp,e1,e2⟩ k=>by
  obtain⟨ys,h1,h2⟩:=Aa out M k;subst e1 e2;refine⟨.ref p.1::ys,.cons rfl h1,by rw[afA,afA,h2.1],λj u y g1 g2=>?_⟩;cases j with
  |zero=>
   cases g1;cases g2;exact⟨p,hp,rfl,rfl⟩
  |succ j=>exact h2.2 j u y g1 g2
end
def gF(da dc:Addr):List (Str×V):=putF ("circles" : Str) (.ref dc) (putF ("allowances" : Str) (.ref da) [])
structure Qu(C:Addr)(H:Hp)(p da dc:Addr)(al:List Int)(ci:List (List Int)):Prop where
 ob:∃dx,H p=some (.ins C dx (gF da dc))
 la:H da=some (.lst (al.map V.int))
 lc:∃us,H dc=some (.lst us)/\bU (qO H) us ci
 ne:da≠dc
theorem Qu.mono{C:Addr}{H H':Hp}(e:Ex H H'){p da dc:Addr}{al:List Int}{ci:List (List Int)}(g:Qu C H p da dc al ci):Qu C H' p da dc al ci:=by obtain⟨⟨dx,ob⟩,la,⟨us,h1,h2⟩,ne⟩:=g;exact⟨⟨dx,e _ _ ob⟩,e _ _ la,⟨us,e _ _ h1,h2.imp λ_ _ r=>r.mono e⟩,ne⟩
end Ear
namespace Rf
open PySem PySem.Spec PyProof.Rows L2 Evl
abbrev obj(h:Nat):Dat:=PyData.dict [(PyData.none,PyData.int (Int.ofNat h))]
inductive cQ where
 |dat (d:Dat)|lst (n:Nat) (xs:List Dat)|dic (n:Bool) (kvs:List (Dat×Dat))
structure aA where
 f:Str->Option Addr
 fl:Str->List Str
 w:World
instance:CoeFun aA λ_=>Str->Option Addr:=⟨aA.f⟩
structure Inst where
 cls:Str
 fs:List (Str×cQ)
abbrev Mo:=List Inst
inductive Cell where
 |dat (d:Dat)|mut (xs:List Dat)
abbrev Env:=List (Option Cell)
structure bL where
 cls:Str
 fs:List (Str×Dat)
inductive Out(α:Type) where
 |ok (a:α)|exc (x:bL)|bad
inductive aV(α:Type) where
 |ok (a:α) (M:Mo)|exc (x:bL) (M:Mo)|bad
inductive ig where
 |next (ρ:Env) (M:Mo)|ret (d:Dat) (M:Mo)|brk (ρ:Env) (M:Mo)|cont (ρ:Env) (M:Mo)|exc (x:bL) (ρ:Env) (M:Mo)|bad
structure Gh where
 tbl:List Addr
 ow:Addr->Option (Nat×Str)
 Lc:Addr->Prop
 Lo:Addr->Prop
def Gh.W(g:Gh)(a:Addr):Prop:=a∈g.tbl\/g.ow a≠none
def Gh.A(g:Gh)(a:Addr):Prop:=g.W a\/g.Lc a\/g.Lo a
def qU:HO->Prop
 |.tup _=>False
 |.frz _ _=>False
 |_=>True
def abX(K:afr)(a:Addr)(xs:List V):Prop:=∃(o:Obj) (its:Array Value) (n:Nat),K.lookup a=some o/\o.cls=.type "list"/\o.dict=none/\o.data=.seq its n/\its.size<=sizeLine/\Vals xs its.toList
def vW(K:afr)(g:Gh)(H:Hp)(a:Addr)(xs:List V):Prop:=(Rd H a (.lst xs)/\¬g.A a)\/abX K a xs
theorem vW.sq{K:afr}{g:Gh}{H:Hp}{a:Addr}{xs:List V}(h:vW K g H a xs):SqL K H a xs:=h.elim (λz=>.inl z.1) .inr
mutual
inductive Rep(K:afr)(g:Gh)(H:Hp):V->Dat->Prop
 |non:Rep K g H .non .none
 |bl (b:Bool):Rep K g H (.bl b) (.bool b)
 |int (i:Int):Rep K g H (.int i) (.int i)
 |str (x:Str):Rep K g H (.str x) (.str x)
 |tup {a:Addr} {xs:List V} {ds:List Dat}:SqT K H a xs->au K g H xs ds->Rep K g H (.ref a) (.tuple ds)
 |lst {a:Addr} {xs:List V} {ds:List Dat}:vW K g H a xs->au K g H xs ds->Rep K g H (.ref a) (.list ds)
 |obj {a:Addr} {h:Nat}:g.tbl[h]?=some a->Rep K g H (.ref a) (obj h)
inductive au(K:afr)(g:Gh)(H:Hp):List V->List Dat->Prop
 |nil:au K g H [] []
 |cons {v:V} {vs:List V} {d:Dat} {ds:List Dat}:Rep K g H v d->au K g H vs ds->au K g H (v::vs) (d::ds)
end
structure Kd(g:Gh)(H:Hp):Prop where
 ob:∀a,g.A a->∃o,H a=some o/\qU o
 lo:∀a,g.Lo a->¬g.W a
 lc:∀a,g.Lc a->¬g.W a/\¬g.Lo a
structure Gr(q:Bool)(g g':Gh)(H H':Hp):Prop where
 keep:∀a o,H a=some o->¬g.W a->¬g.Lo a->H' a=some o
 keepW:q=true->∀a o,H a=some o->g.W a->H' a=some o
 dom:∀a,H' a=none->H a=none
 tbl:∃more,g'.tbl=g.tbl++more
 W:∀a,g.W a->g'.W a
 nW:∀a,g'.W a->g.W a\/H a=none
 qg:q=true->g'.tbl=g.tbl/\g'.ow=g.ow
 Lc:g'.Lc=g.Lc
 Lo:∀a,g.Lo a->g'.Lo a
 nLo:∀a,g'.Lo a->g.Lo a\/H a=none
section
variable{K:afr}{q:Bool}{g g' g2:Gh}{H H' H2:Hp}{v:V}{d:Dat}
theorem Gr.refl:Gr q g g H H:=⟨λ_ _ h _ _=>h,λ_ _ _ h _=>h,λ_ h=>h,⟨[],by simp⟩,λ_ h=>h,λ_ h=>.inl h,λ_=>⟨rfl,rfl⟩,rfl,λ_ h=>h,λ_ h=>.inl h⟩
theorem j7(e:Ex H H'):∀a,H' a=none->H a=none:=λa h=>by
 cases h1:H a with
 |none=>rfl
 |some o=>
  rw[e a o h1]at h;cases h
theorem Gr.ex(e:Ex H H'):Gr q g g H H':=⟨λa o h _ _=>e a o h,λ_ a o h _=>e a o h,j7 e,⟨[],by simp⟩,λ_ h=>h,λ_ h=>.inl h,λ_=>⟨rfl,rfl⟩,rfl,λ_ h=>h,λ_ h=>.inl h⟩
theorem Gr.trans(a:Gr q g g' H H')(b:Gr q g' g2 H' H2):Gr q g g2 H H2 where
 keep:=λx o h nw nl=>by
  have h1:=a.keep x o h nw nl;refine b.keep x o h1 (λz=>?_) (λz=>?_)
  .rcases a.nW x z with z|z
   .exact nw z
   .rw[h]at z;cases z
  .rcases a.nLo x z with z|z
   .exact nl z
   .rw[h]at z;cases z
 keepW:=λhq x o h w=>b.keepW hq x o (a.keepW hq x o h w) (a.W x w)
 dom:=λx h=>a.dom x (b.dom x h)
 tbl:=by obtain⟨m1,e1⟩:=a.tbl;obtain⟨m2,e2⟩:=b.tbl;exact⟨m1++m2,by rw[e2,e1,List.append_assoc]⟩
 W:=λx h=>b.W x (a.W x h)
 nW:=λx h=>by
  rcases b.nW x h with z|z
  .exact a.nW x z
  .exact .inr (a.dom x z)
 qg:=λhq=>by
  obtain⟨e1,e2⟩:=a.qg hq;obtain⟨f1,f2⟩:=b.qg hq;exact⟨f1.trans e1,f2.trans e2⟩
 Lc:=b.Lc.trans a.Lc
 Lo:=λx h=>b.Lo x (a.Lo x h)
 nLo:=λx h=>by
  rcases b.nLo x h with z|z
  .exact a.nLo x z
  .exact .inr (a.dom x z)
theorem Gr.loud(a:Gr q g g' H H'):Gr false g g' H H':=⟨a.keep,(λh=>nomatch h),a.dom,a.tbl,a.W,a.nW,(λh=>nomatch h),a.Lc,a.Lo,a.nLo⟩
theorem Gr.nA(r:Gr q g g' H H'){a:Addr}{o:HO}(h:H a=some o)(n:¬g.A a):¬g'.A a:=λz=>by
 rcases z with z|z|z
 .rcases r.nW a z with z|z
  .exact n (.inl z)
  .rw[h]at z;cases z
 .rw[r.Lc]at z;exact n (.inr (.inl z))
 .rcases r.nLo a z with z|z
  .exact n (.inr (.inr z))
  .rw[h]at z;cases z
theorem Gr.rd(r:Gr q g g' H H'){a:Addr}{o:HO}(h:Rd H a o)(n:¬g.A a):Rd H' a o/\¬g'.A a:=by
 rcases h with h|⟨z,h⟩
 .exact⟨.inl (r.keep a _ h (λw=>n (.inl w)) λw=>n (.inr (.inr w))),r.nA h n⟩
 .exact⟨.inr ⟨z,r.keep a _ h (λw=>n (.inl w)) λw=>n (.inr (.inr w))⟩,r.nA h n⟩
theorem Kd.tup(k:Kd g H){a:Addr}{xs:List V}(h:Rd H a (.tup xs)):¬g.A a:=λz=>by
 obtain⟨o,e,m⟩:=k.ob a z;rcases h with h|⟨y,h⟩<;>(rw[h]at e;cases e;exact m)
theorem Gr.sqT(r:Gr q g g' H H')(k:Kd g H){a:Addr}{xs:List V}(h:SqT K H a xs):SqT K H' a xs:=by
 rcases h with h|h
 .exact .inl (r.rd h (k.tup h)).1
 .exact .inr h
theorem Gr.ls(r:Gr q g g' H H'){a:Addr}{xs:List V}(h:vW K g H a xs):vW K g' H' a xs:=by
 rcases h with⟨h,n⟩|h
 .exact .inl (r.rd h n)
 .exact .inr h
theorem Gr.tb(r:Gr q g g' H H'){h:Nat}{a:Addr}(e:g.tbl[h]?=some a):g'.tbl[h]?=some a:=by obtain⟨m,em⟩:=r.tbl;rw[em,afH (afw.mp e).1];exact e
mutual
theorem Rep.gr(r:Gr q g g' H H')(k:Kd g H):∀{v:V} {d:Dat},Rep K g H v d->Rep K g' H' v d
 |_,_,.non=>.non
 |_,_,.bl b=>.bl b
 |_,_,.int i=>.int i
 |_,_,.str x=>.str x
 |_,_,.tup h t=>.tup (r.sqT k h) (au.gr r k t)
 |_,_,.lst h t=>.lst (r.ls h) (au.gr r k t)
 |_,_,.obj h=>.obj (r.tb h)
theorem au.gr(r:Gr q g g' H H')(k:Kd g H):∀{vs:List V} {ds:List Dat},au K g H vs ds->au K g' H' vs ds
 |_,_,.nil=>.nil
 |_,_,.cons h t=>.cons (Rep.gr r k h) (au.gr r k t)
end
mutual
theorem Rep.less(e:g'.tbl=g.tbl)(n:∀a,g'.A a->g.A a):∀{v:V} {d:Dat},Rep K g H v d->Rep K g' H v d
 |_,_,.non=>.non
 |_,_,.bl b=>.bl b
 |_,_,.int i=>.int i
 |_,_,.str x=>.str x
 |_,_,.tup h t=>.tup h (au.less e n t)
 |_,_,.lst h t=>.lst (h.elim (λz=>.inl ⟨z.1,λy=>z.2 (n _ y)⟩) .inr) (au.less e n t)
 |_,_,.obj h=>.obj (by rw[e];exact h)
theorem au.less(e:g'.tbl=g.tbl)(n:∀a,g'.A a->g.A a):∀{vs:List V} {ds:List Dat},au K g H vs ds->au K g' H vs ds
 |_,_,.nil=>.nil
 |_,_,.cons h t=>.cons (Rep.less e n h) (au.less e n t)
end
mutual
def lf:Dat->Bool
 |.list _=>false
 |.tuple ds=>Mf ds
 |.dict _=>true
 |.none=>true
 |.bool _=>true
 |.int _=>true
 |.str _=>true
def Mf:List Dat->Bool
 |[]=>true
 |d::ds=>lf d&&Mf ds
end
mutual
theorem Rep.free(e:g'.tbl=g.tbl):∀{v:V} {d:Dat},lf d=true->Rep K g H v d->Rep K g' H v d
 |_,_,_,.non=>.non
 |_,_,_,.bl b=>.bl b
 |_,_,_,.int i=>.int i
 |_,_,_,.str x=>.str x
 |_,_,f,.tup h t=>.tup h (au.free e (by rw[lf]at f;exact f) t)
 |_,_,f,.lst h t=>by rw[lf]at f;cases f
 |_,_,_,.obj h=>.obj (by rw[e];exact h)
theorem au.free(e:g'.tbl=g.tbl):∀{vs:List V} {ds:List Dat},Mf ds=true->au K g H vs ds->au K g' H vs ds
 |_,_,_,.nil=>.nil
 |_,_,f,.cons h t=>.cons (Rep.free e (by rw[Mf,afs]at f;exact f.1) h) (au.free e (by rw[Mf,afs]at f;exact f.2) t)
end
theorem au.length:∀{vs:List V} {ds:List Dat},au K g H vs ds->vs.length=ds.length
 |_,_,.nil=>rfl
 |_,_,.cons _ t=>congrArg (· + 1) t.length
theorem au.get:∀{vs:List V} {ds:List Dat} {i:Nat} {d:Dat},au K g H vs ds->ds[i]?=some d->∃v,vs[i]?=some v/\Rep K g H v d
 |_,_,_,_,.nil,e=>by simp at e
 |_,_,0,_,.cons h _,e=>by simp at e;subst e;exact⟨_,rfl,h⟩
 |_,_,i+1,_,.cons _ t,e=>by simpa using t.get (i:=i) (by simpa using e)
theorem au.get':∀{vs:List V} {ds:List Dat} {i:Nat} {v:V},au K g H vs ds->vs[i]?=some v->∃d,ds[i]?=some d/\Rep K g H v d
 |_,_,_,_,.nil,e=>by simp at e
 |_,_,0,_,.cons h _,e=>by simp at e;subst e;exact⟨_,rfl,h⟩
 |_,_,i+1,_,.cons _ t,e=>by simpa using t.get' (i:=i) (by simpa using e)
theorem au.append:∀{vs ws:List V} {ds es:List Dat},au K g H vs ds->au K g H ws es->au K g H (vs++ws) (ds++es)
 |_,_,_,_,.nil,t=>t
 |_,_,_,_,.cons h r,t=>.cons h (r.append t)
theorem au.take:∀{vs:List V} {ds:List Dat} (n:Nat),au K g H vs ds->au K g H (vs.take n) (ds.take n)
 |_,_,0,_=>.nil
 |_,_,_+1,.nil=>.nil
 |_,_,n+1,.cons h t=>.cons h (t.take n)
theorem au.drop:∀{vs:List V} {ds:List Dat} (n:Nat),au K g H vs ds->au K g H (vs.drop n) (ds.drop n)
 |_,_,0,t=>t
 |_,_,_+1,.nil=>.nil
 |_,_,n+1,.cons _ t=>t.drop n
theorem au.set{v:V}{d:Dat}(r:Rep K g H v d):∀{vs:List V} {ds:List Dat} (i:Nat),au K g H vs ds->au K g H (vs.set i v) (ds.set i d)
 |_,_,_,.nil=>.nil
 |_,_,0,.cons _ t=>.cons r t
 |_,_,i+1,.cons h t=>.cons h (t.set r i)
theorem Gr.upd{l:Addr}{o o':HO}(k:Kd g H)(h:H l=some o)(w:(g.W l/\q=false)\/g.Lo l):Gr q g g H (L2.upd H l o') where
 keep:=λa u e nw nl=>by
  rw[upd_ne (λz=>by subst z;exact w.elim (λw=>nw w.1) nl)];exact e
 keepW:=λhq a u e wa=>by
  rcases w with w|w
  .rw[hq]at w;cases w.2
  .rw[upd_ne (λz=>by subst z;exact k.lo _ w wa)];exact e
 dom:=λa e=>by
  by_cases z:a=l
  .subst z;rw[agu]at e;cases e
  .rw[upd_ne z]at e;exact e
 tbl:=⟨[],by simp⟩
 W:=λ_ h=>h
 nW:=λ_ h=>.inl h
 qg:=λ_=>⟨rfl,rfl⟩
 Lc:=rfl
 Lo:=λ_ h=>h
 nLo:=λ_ h=>.inl h
theorem Kd.ex(k:Kd g H)(e:Ex H H'):Kd g H':=⟨λa z=>let⟨o,h,m⟩:=k.ob a z;⟨o,e a o h,m⟩,k.lo,k.lc⟩
theorem Kd.upd(k:Kd g H){l:Addr}{o:HO}(m:qU o):Kd g (L2.upd H l o):=⟨λa z=>by
 by_cases e:a=l
 .subst e;exact⟨o,agu,m⟩
 .rw[upd_ne e];exact k.ob a z,k.lo,k.lc⟩
theorem Rep.ex(e:Ex H H')(k:Kd g H)(h:Rep K g H v d):Rep K g H' v d:=h.gr (Gr.ex (q:=true) e) k
theorem au.ex{vs:List V}{ds:List Dat}(e:Ex H H')(k:Kd g H)(h:au K g H vs ds):au K g H' vs ds:=h.gr (Gr.ex (q:=true) e) k
end
def keyD:Key->Dat
 |.inl i=>.int i
 |.inr x=>.str x
def cH(l:Addr)(o:Obj):HO:=.ext λh=>h.get? l=some o
abbrev fD:Type:=NestedKey×Addr×Value
def MP(w:World)(x:fD):DictEntry:=⟨x.1.hash w,.ref x.2.1,x.2.2⟩
structure eE(w:World)(l:Addr)(o:Obj)(xs:List fD):Prop where
 sys:(l==sysModules)=false
 ex:o.ExactDict
 ent:∃es ep,o.data=.dict es ep/\es.toList=xs.map (MP w)
 nd:(xs.map (·.1)).Nodup
 len:xs.length<=sizeLine
 dep:∀x∈xs,x.1.depth<=8
def dB(K:afr)(aj:aA)(g:Gh)(H:Hp)(l:Addr):Bool->List (Dat×Dat)->Prop
 |false,kvs=>∃kv:List (Key×V),H l=some (.dK kv)/\kvs.map (·.1)=kv.map (λp=>keyD p.1)/\au K g H (kv.map (·.2)) (kvs.map (·.2))
 |true,kvs=>∃(o:Obj) (xs:List fD) (vs:List V),H l=some (cH l o)/\eE aj.w l o xs/\kvs.map (·.1)=xs.map (λx=>x.1.data)/\au K g H (xs.map λx=>V.ref x.2.1) (kvs.map (·.1))/\Vals vs (xs.map (·.2.2))/\au K g H vs (kvs.map (·.2))
def bH(K:afr)(aj:aA)(g:Gh)(H:Hp)(h:Nat)(f:Str)(v:V):cQ->Prop
 |.dat d=>Rep K g H v d
 |.lst n xs=>∃l us,v=.ref l/\H l=some (.lst us)/\g.ow l=some (h,f)/\au K g H us xs/\g.tbl[n]?=some l
 |.dic n kvs=>∃l,v=.ref l/\g.ow l=some (h,f)/\dB K aj g H l n kvs
inductive aW(K:afr)(aj:aA)(g:Gh)(H:Hp)(h:Nat):List (Str×V)->List (Str×cQ)->Prop
 |nil:aW K aj g H h [] []
 |cons {f:Str} {v:V} {fl:cQ} {fs:List (Str×V)} {gs:List (Str×cQ)}:bH K aj g H h f v fl->aW K aj g H h fs gs->aW K aj g H h ((f,v)::fs) ((f,fl)::gs)
structure cG(K:afr)(aj:aA)(g:Gh)(H:Hp)(M:Mo):Prop where
 len:g.tbl.length=M.length
 inj:∀(h k:Nat) (a:Addr),g.tbl[h]?=some a->g.tbl[k]?=some a->h=k
 ins:∀(h:Nat) (a:Addr) (i:Inst),g.tbl[h]?=some a->M[h]?=some i->i.cls≠""->∃C dx fs,aj i.cls=some C/\H a=some (.ins C dx fs)/\aW K aj g H h fs i.fs
 nd:∀(h:Nat) (i:Inst),M[h]?=some i->(i.fs.map (·.1)).Nodup
 fd:∀(h:Nat) (i:Inst),M[h]?=some i->∀f∈i.fs.map (·.1),f∈aj.fl i.cls
 tw:∀(h:Nat) (a:Addr) (i:Inst),g.tbl[h]?=some a->M[h]?=some i->i.cls≠""->g.ow a=none
 dm:∀(h:Nat) (i:Inst),M[h]?=some i->i.cls=""->i.fs=[]
 nc:aj ""=none
structure SInv(K:afr)(aj:aA)(σ:L2.St)(H:Hp)(g:Gh)(ρ:Env)(M:Mo):Prop where
 kd:Kd g H
 wok:cG K aj g H M
 len:σ.length=ρ.length
 dat:∀(i:Nat) (d:Dat),ρ[i]?=some (some (.dat d))->∃v,σ[i]?=some (some v)/\Rep K g H v d
 own:∀(i:Nat) (xs:List Dat),ρ[i]?=some (some (.mut xs))->∃l us,σ[i]?=some (some (.ref l))/\H l=some (.lst us)/\g.Lo l/\au K g H us xs
 sep:∀(i j:Nat) (xs ys:List Dat) (l:Addr),i≠j->ρ[i]?=some (some (.mut xs))->ρ[j]?=some (some (.mut ys))->σ[i]?=some (some (.ref l))->σ[j]?≠some (some (.ref l))
section
variable{K:afr}{aj:aA}{q:Bool}{g g' g2:Gh}{H H' H2:Hp}{v:V}{d:Dat}{σ:L2.St}{ρ:Env}{M:Mo}
theorem dB.ex{l:Addr}:∀{n:Bool} {kvs:List (Dat×Dat)} (e:Ex H H') (k:Kd g H) (h:dB K aj g H l n kvs),dB K aj g H' l n kvs
 |false,_,e,k,⟨kv,h1,h2,h3⟩=>⟨kv,e _ _ h1,h2,h3.ex e k⟩
 |true,_,e,k,⟨o,xs,vs,h1,h2,h3,h4,h5,h6⟩=>⟨o,xs,vs,e _ _ h1,h2,h3,h4.ex e k,h5,h6.ex e k⟩
theorem bH.ex{h:Nat}{f:Str}(e:Ex H H')(k:Kd g H):∀{fl:cQ},bH K aj g H h f v fl->bH K aj g H' h f v fl
 |.dat _,r=>Rep.ex e k r
 |.lst _ _,⟨l,us,h1,h2,h3,h4,h5⟩=>⟨l,us,h1,e _ _ h2,h3,h4.ex e k,h5⟩
 |.dic _ _,⟨l,h1,h2,h3⟩=>⟨l,h1,h2,h3.ex e k⟩
theorem aW.ex{h:Nat}(e:Ex H H')(k:Kd g H):∀{fs:List (Str×V)} {gs:List (Str×cQ)},aW K aj g H h fs gs->aW K aj g H' h fs gs
 |_,_,.nil=>.nil
 |_,_,.cons r t=>.cons (bH.ex e k r) (aW.ex e k t)
theorem cG.ex(e:Ex H H')(k:Kd g H)(w:cG K aj g H M):cG K aj g H' M:=⟨w.len,w.inj,λh a i ha hi hc=>by
 obtain⟨C,dx,fs,c1,c2,c3⟩:=w.ins h a i ha hi hc;exact⟨C,dx,fs,c1,e _ _ c2,c3.ex e k⟩,w.nd,w.fd,w.tw,w.dm,w.nc⟩
theorem SInv.ex(e:Ex H H')(I:SInv K aj σ H g ρ M):SInv K aj σ H' g ρ M:=⟨I.kd.ex e,I.wok.ex e I.kd,I.len,λi d h=>by
 obtain⟨v,h1,h2⟩:=I.dat i d h;exact⟨v,h1,h2.ex e I.kd⟩,λi xs h=>by
 obtain⟨l,us,h1,h2,h3,h4⟩:=I.own i xs h;exact⟨l,us,h1,e _ _ h2,h3,h4.ex e I.kd⟩,I.sep⟩
theorem aW.get{h:Nat}{f:Str}{fl:cQ}:∀{fs:List (Str×V)} {gs:List (Str×cQ)},aW K aj g H h fs gs->gs.lookup f=some fl->∃v,fs.lookup f=some v/\bH K aj g H h f v fl
 |_,_,.nil,e=>nomatch e
 |_,_,.cons (f:=f') (v:=v) (fl:=fl') r t,e=>by
  rw[afF]at e;rw[afF];cases hb:f==f' with
  |true=>
   rw[hb]at e;cases e;have ef:f=f':=by simpa using hb
   subst ef;exact⟨v,rfl,r⟩
  |false=>
   rw[hb]at e;exact t.get e
theorem aW.no{h:Nat}{f:Str}:∀{fs:List (Str×V)} {gs:List (Str×cQ)},aW K aj g H h fs gs->gs.lookup f=none->fs.lookup f=none
 |_,_,.nil,_=>rfl
 |_,_,.cons (f:=f') (v:=v) (fl:=fl') r t,e=>by
  rw[afF]at e;rw[afF];cases hb:f==f' with
  |true=>
   rw[hb]at e;cases e
  |false=>
   rw[hb]at e;exact t.no e
end
def Out.bind{α β:Type}(o:Out α)(k:α->Out β):Out β:=
 match o with
 |.ok a=>k a
 |.exc x=>.exc x
 |.bad=>.bad
def Out.sat{α:Type}(o:Out α)(P:α->Prop)(E:bL->Prop):Prop:=
 match o with
 |.ok a=>P a
 |.exc x=>E x
 |.bad=>False
@[simp]theorem Out.VL {α β:Type} (a:α) (k:α->Out β):(Out.ok a).bind k=k a:=rfl
@[simp]theorem Out.SM {α β:Type} (x:bL) (k:α->Out β):(Out.exc x:Out α).bind k=.exc x:=rfl
@[simp]theorem Out.RM {α β:Type} (k:α->Out β):(Out.bad:Out α).bind k=.bad:=rfl
theorem Out.sat.bnd{α β:Type}{o:Out α}{k:α->Out β}{P:β->Prop}{E:bL->Prop}(h:(o.bind k).sat P E):o.sat (λa=>(k a).sat P E) E:=by cases o<;>exact h
theorem Out.sat.mono{α:Type}{o:Out α}{P P':α->Prop}{E E':bL->Prop}(h:o.sat P E)(hp:∀a,P a->P' a)(he:∀x,E x->E' x):o.sat P' E':=by
 cases o
 .exact hp _ h
 .exact he _ h
 .exact h
def Out.when{α:Type}(b:Bool)(o:Out α):Out α:=if b=true then o else .bad
@[simp]theorem Out.Mv {α:Type} (o:Out α):Out.when true o=o:=rfl
@[simp]theorem Out.aat {α:Type} (o:Out α):Out.when false o=.bad:=rfl
theorem Out.sat.dI{α:Type}{b:Bool}{o:Out α}{P:α->Prop}{E:bL->Prop}(h:(Out.when b o).sat P E):b=true/\o.sat P E:=by
 cases b
 .exact agn h
 .exact⟨rfl,h⟩
inductive d7(K:afr)(g:Gh)(H:Hp):List (Str×V)->List (Str×Dat)->Prop
 |nil:d7 K g H [] []
 |cons {f:Str} {v:V} {d:Dat} {fs:List (Str×V)} {gs:List (Str×Dat)}:Rep K g H v d->d7 K g H fs gs->d7 K g H ((f,v)::fs) ((f,d)::gs)
def iQ(K:afr)(aj:aA)(g:Gh)(H:Hp)(x:bL)(c:Value)(dd:Option Addr):Prop:=
 ∃C,aj x.cls=some C/\c=.ref C/\((x.fs=[]/\dd=none)\/∃a fs,dd=some a/\H a=some (.xd fs)/\d7 K g H fs x.fs)
abbrev QF:=Mo->Env->Out Dat
abbrev QT:=Mo->Env->Out Bool
abbrev QA:=Mo->Env->Out (List Dat)
section
variable(K:afr)(aj:aA)(W:WX)
def gR(g:Gh)(H:Hp)(σ:L2.St)(x:bL):Prop:=∀H' c dd,Ex H H'->iQ K aj g H' x c dd->W c dd σ H'
def tQ(f:QF):TE:=λσ H Q=>∃g ρ M,SInv K aj σ H g ρ M/\(f M ρ).sat (λd=>∀v H',Ex H H'->Rep K g H' v d->Q v H') (gR K aj W g H σ)
def dY(f:QT):TT:=λσ H Q=>∃g ρ M,SInv K aj σ H g ρ M/\(f M ρ).sat (λb=>∀H',Ex H H'->Q b H') (gR K aj W g H σ)
def vA(f:QA):TA:=λσ H Q=>∃g ρ M,SInv K aj σ H g ρ M/\(f M ρ).sat (λds=>∀vs H',Ex H H'->au K g H' vs ds->Q vs H') (gR K aj W g H σ)
end
section
variable{K:afr}{aj:aA}{W:WX}{g:Gh}{H H1:Hp}{σ:L2.St}{ρ:Env}{M:Mo}
theorem gR.ex{x:bL}(e:Ex H H1)(h:gR K aj W g H σ x):gR K aj W g H1 σ x:=λH' c dd e' r=>h H' c dd (e.trans e') r
theorem tQ.go{f:QF}{k:Dat->Prop}{Q:VK}(I:SInv K aj σ H g ρ M)(h:(f M ρ).sat k (gR K aj W g H σ))(hk:∀d v H',k d->Ex H H'->Rep K g H' v d->Q v H'):tQ K aj W f σ H Q:=
 ⟨g,ρ,M,I,h.mono (λd hd v H' e r=>hk d v H' hd e r) λ_ z=>z⟩
theorem dY.go{f:QT}{k:Bool->Prop}{Q:Bool->Hp->Prop}(I:SInv K aj σ H g ρ M)(h:(f M ρ).sat k (gR K aj W g H σ))(hk:∀b H',k b->Ex H H'->Q b H'):dY K aj W f σ H Q:=
 ⟨g,ρ,M,I,h.mono (λd hd H' e=>hk d H' hd e) λ_ z=>z⟩
theorem vA.go{f:QA}{k:List Dat->Prop}{Q:List V->Hp->Prop}(I:SInv K aj σ H g ρ M)(h:(f M ρ).sat k (gR K aj W g H σ))(hk:∀ds vs H',k ds->Ex H H'->au K g H' vs ds->Q vs H'):vA K aj W f σ H Q:=
 ⟨g,ρ,M,I,h.mono (λd hd v H' e r=>hk d v H' hd e r) λ_ z=>z⟩
end
def QE(aj:aA)(X:Cx)(W:WX)(e:Expr)(f:QF):Prop:=PE X e (tQ X.K aj W f)
def iT(aj:aA)(X:Cx)(W:WX)(e:Expr)(f:QT):Prop:=PT X e (dY X.K aj W f)
def pN(aj:aA)(X:Cx)(W:WX)(es:List Expr)(f:QA):Prop:=PA X es (vA X.K aj W f)
theorem PE.weak{X:Cx}{e:Expr}{t t':TE}(h:PE X e t)(k:∀σ H Q,t' σ H Q->t σ H Q):PE X e t':=⟨λpins s σ H Q I q=>h.run pins s σ H Q I (k σ H Q q)⟩
theorem PT.weak{X:Cx}{e:Expr}{t t':TT}(h:PT X e t)(k:∀σ H Q,t' σ H Q->t σ H Q):PT X e t':=⟨λpins s σ H Q I q=>h.run pins s σ H Q I (k σ H Q q)⟩
theorem PA.weak{X:Cx}{e:List Expr}{t t':TA}(h:PA X e t)(k:∀σ H Q,t' σ H Q->t σ H Q):PA X e t':=⟨λpos pins s σ H Q I q=>h.run pos pins s σ H Q I (k σ H Q q)⟩
def aK(i:Nat):QF:=λ_ ρ=>match ρ[i]? with
 |some (some (.dat d))=>.ok d
 |_=>.bad
def qC(d:Dat):QF:=λ_ _=>.ok d
def aq(o:Dat->Dat->Out Dat)(a b:QF):QF:=λM ρ=>(a M ρ).bind λx=>(b M ρ).bind λy=>o x y
def bW(o:Dat->Out Dat)(a:QF):QF:=λM ρ=>(a M ρ).bind o
def aG:QA:=λ_ _=>.ok []
def ao(a:QF)(r:QA):QA:=λM ρ=>(a M ρ).bind λx=>(r M ρ).bind λxs=>.ok (x::xs)
def eY(r:QA):QF:=λM ρ=>(r M ρ).bind λxs=>Out.when (decide (xs.length<=100000)) (.ok (.tuple xs))
def lY(r:QA):QF:=λM ρ=>(r M ρ).bind λxs=>Out.when (decide (xs.length<=100000)) (.ok (.list xs))
section
variable{X:Cx}{aj:aA}{W:WX}{a b:Expr}{fa fb:QF}{pos:Pos}
theorem Oq{i:Nat}{x:Str}(hN:X.N[i]?=some x)(hv:Vis X.env.scope x)(hd:(x==("__debug__" : Str))=false)(hcd:(x==("__classdict__" : Str))=false):QE aj X W (.Name x pos) (aK i):=
 PE.weak (pe_var hN hv hd hcd) λσ H Q ⟨g,ρ,M,I,h⟩=>by
  unfold aK at h;split at h
  .next d e=>
   obtain⟨v,h1,h2⟩:=I.dat i d e;exact⟨v,h1,h v H (Ex.refl H) h2⟩
  .exact agn h
theorem Z4{i:Int}{j:Nat}:QE aj X W (.Constant (.int i) j pos) (qC (.int i)):=PE.weak pe_int λσ H Q ⟨g,ρ,M,I,h⟩=>h _ H (Ex.refl H) (.int i)
theorem Xn{x:Str}{j:Nat}:QE aj X W (.Constant (.str x) j pos) (qC (.str x)):=PE.weak pe_str λσ H Q ⟨g,ρ,M,I,h⟩=>h _ H (Ex.refl H) (.str x)
theorem aaz{x:Bool}{j:Nat}:QE aj X W (.Constant (.bool x) j pos) (qC (.bool x)):=PE.weak pe_bl λσ H Q ⟨g,ρ,M,I,h⟩=>h _ H (Ex.refl H) (.bl x)
theorem YL{j:Nat}:QE aj X W (.Constant .none j pos) (qC .none):=PE.weak pe_non λσ H Q ⟨g,ρ,M,I,h⟩=>h _ H (Ex.refl H) .non
theorem LK:pN aj X W [] aG:=PA.weak pa_nil λσ H Q ⟨g,ρ,M,I,h⟩=>h [] H (Ex.refl H) .nil
theorem Jl{es:List Expr}{fr:QA}(ha:QE aj X W a fa)(hr:pN aj X W es fr)(hs:starEach (a::es) X.env=(false,eval a X.env)::starEach es X.env):pN aj X W (a::es) (ao fa fr):=
 PA.weak (pa_cons ha hr hs) λσ H Q ⟨g,ρ,M,I,h⟩=>by
  refine tQ.go I h.bnd λd v H1 h1 e1 r1=>?_;refine vA.go (I.ex e1) (h1.bnd.mono (λ_ z=>z) λ_ z=>z.ex e1) λds vs H2 h2 e2 r2=>?_;exact h2 (v::vs) H2 (e1.trans e2) (.cons (r1.ex e2 (I.kd.ex e1)) r2)
theorem Ye{es:List Expr}{fr:QA}{k:Nat}(h:pN aj X W es fr):QE aj X W (.Tuple es k pos) (eY fr):=
 PE.weak (pe_tup h) λσ H Q ⟨g,ρ,M,I,h⟩=>by
  refine vA.go I h.bnd λds vs H1 h1 e1 r1=>?_;obtain⟨hz,h1⟩:=h1.dI;have hl:vs.length<=100000:=by rw[r1.length];exact agp hz
  refine⟨sz_of hl,λp np=>h1 (.ref p) _ (e1.trans (Ex.new np)) (.tup (st_of agu) (r1.ex (Ex.new np) (I.kd.ex e1)))⟩
theorem Kd.fresh{g:Gh}{H:Hp}(k:Kd g H){p:Addr}(n:H p=none):¬g.A p:=λz=>by
 obtain⟨o,e,_⟩:=k.ob p z;rw[n]at e;cases e
theorem Xi{es:List Expr}{fr:QA}(h:pN aj X W es fr):QE aj X W (.List es pos) (lY fr):=
 PE.weak (pe_lst h) λσ H Q ⟨g,ρ,M,I,h⟩=>by
  refine vA.go I h.bnd λds vs H1 h1 e1 r1=>?_;obtain⟨hz,h1⟩:=h1.dI;have hl:vs.length<=100000:=by rw[r1.length];exact agp hz
  refine⟨sz_of hl,λp np=>h1 (.ref p) _ (e1.trans (Ex.new np)) (.lst (.inl ⟨.inl agu,(I.kd.ex e1).fresh np⟩) (r1.ex (Ex.new np) (I.kd.ex e1)))⟩
end
def bF(K:afr)(g:Gh)(H:Hp)(v:V):Dat->Prop
 |.list ds=>∃a us,v=.ref a/\SqL K H a us/\au K g H us ds
 |d=>Rep K g H v d
section
variable{K:afr}{g:Gh}{H H':Hp}{v:V}{d:Dat}
theorem Rep.weak(h:Rep K g H v d):bF K g H v d:=by
 cases h with
 |lst a t=>exact⟨_,_,rfl,a.sq,t⟩
 |non=>exact .non
 |bl b=>exact .bl b
 |int i=>exact .int i
 |str x=>exact .str x
 |tup a t=>exact .tup a t
 |obj a=>exact .obj a
theorem bF.ex(e:Ex H H')(k:Kd g H)(h:bF K g H v d):bF K g H' v d:=by
 cases d with
 |list ds=>
  obtain⟨a,us,h1,h2,h3⟩:=h;exact⟨a,us,h1,ex_l e h2,h3.ex e k⟩
 |_=>exact Rep.ex e k h
theorem aP{i:Int}(h:bF K g H v (.int i)):v=.int i:=by cases h;rfl
theorem bR{x:Str}(h:bF K g H v (.str x)):v=.str x:=by cases h;rfl
theorem oV{b:Bool}(h:bF K g H v (.bool b)):v=.bl b:=by cases h;rfl
theorem qw(h:bF K g H v .none):v=.non:=by cases h;rfl
theorem dG{ds:List Dat}(h:bF K g H v (.tuple ds)):∃a us,v=.ref a/\SqT K H a us/\au K g H us ds:=by
 cases h with
 |tup a t=>exact⟨_,_,rfl,a,t⟩
theorem bZ{ds:List Dat}(h:bF K g H v (.list ds)):∃a us,v=.ref a/\SqL K H a us/\au K g H us ds:=h
theorem uz{n:Nat}(h:bF K g H v (obj n)):∃a,v=.ref a/\g.tbl[n]?=some a:=by
 cases h with
 |obj a=>exact⟨_,rfl,a⟩
end
section
variable(K:afr)(aj:aA)(W:WX)
def tW(f:QF):TE:=λσ H Q=>∃g ρ M,SInv K aj σ H g ρ M/\(f M ρ).sat (λd=>∀v H',Ex H H'->bF K g H' v d->Q v H') (gR K aj W g H σ)
end
theorem tW.go{K:afr}{aj:aA}{W:WX}{g:Gh}{H:Hp}{σ:L2.St}{ρ:Env}{M:Mo}{f:QF}{k:Dat->Prop}{Q:VK}(I:SInv K aj σ H g ρ M)(h:(f M ρ).sat k (gR K aj W g H σ))(hk:∀d v H',k d->Ex H H'->bF K g H' v d->Q v H'):tW K aj W f σ H Q:=
 ⟨g,ρ,M,I,h.mono (λd hd v H' e r=>hk d v H' hd e r) λ_ z=>z⟩
def QW(aj:aA)(X:Cx)(W:WX)(e:Expr)(f:QF):Prop:=PE X e (tW X.K aj W f)
theorem QE.w{aj:aA}{X:Cx}{W:WX}{e:Expr}{f:QF}(h:QE aj X W e f):QW aj X W e f:=
 PE.weak h λσ H Q ⟨g,ρ,M,I,z⟩=>⟨g,ρ,M,I,z.mono (λ_ k v H' e r=>k v H' e r.weak) λ_ y=>y⟩
def ak(i:Nat):QF:=λ_ ρ=>match ρ[i]? with
 |some (some (.dat d))=>.ok d
 |some (some (.mut xs))=>.ok (.list xs)
 |_=>.bad
def gK(aj:aA)(K:afr)(W:WX)(o:Dat->Dat->Out Dat)(r:R2):Prop:=∀(σ:L2.St) (g:Gh) (H:Hp) (x y:V) (d e:Dat) (Q:VK),Kd g H->bF K g H x d->bF K g H y e->
 (o d e).sat (λz=>∀v H',Ex H H'->Rep K g H' v z->Q v H') (gR K aj W g H σ)->r x y H Q
section
variable{X:Cx}{aj:aA}{W:WX}{a b c:Expr}{fa fb fc:QF}{pos:Pos}
theorem Y6{i:Nat}{x:Str}(hN:X.N[i]?=some x)(hv:Vis X.env.scope x)(hd:(x==("__debug__" : Str))=false)(hcd:(x==("__classdict__" : Str))=false):QW aj X W (.Name x pos) (ak i):=
 PE.weak (pe_var hN hv hd hcd) λσ H Q ⟨g,ρ,M,I,h⟩=>by
  unfold ak at h;split at h
  .next d e=>
   obtain⟨v,h1,h2⟩:=I.dat i d e;exact⟨v,h1,h v H (Ex.refl H) h2.weak⟩
  .next xs e=>
   obtain⟨l,us,h1,h2,h3,h4⟩:=I.own i xs e;exact⟨.ref l,h1,h _ H (Ex.refl H) ⟨l,us,rfl,sq_of h2,h4⟩⟩
  .exact agn h
theorem xK{o:Dat->Dat->Out Dat}{r:R2}(ho:gK aj X.K W o r)(σ:L2.St)(H:Hp)(Q:VK)(h:tQ X.K aj W (aq o fa fb) σ H Q):tOp r (tW X.K aj W fa) (tW X.K aj W fb) σ H Q:=by obtain⟨g,ρ,M,I,h⟩:=h;refine tW.go I h.bnd λd v H1 h1 e1 r1=>?_;refine tW.go (I.ex e1) (h1.bnd.mono (λ_ z=>z) λ_ z=>z.ex e1) λd2 v2 H2 h2 e2 r2=>?_;refine ho σ g H2 v v2 d d2 Q ((I.kd.ex e1).ex e2) (r1.ex e2 (I.kd.ex e1)) r2 (h2.mono (λz hz u H' e' r'=>hz u H' ((e1.trans e2).trans e') r') λ_ z=>(z.ex e1).ex e2)
theorem aak{op:Operator}{r:R2}{o:Dat->Dat->Out Dat}(hr:OpR X (binaryOp op) r)(ho:gK aj X.K W o r)(ha:QW aj X W a fa)(hb:QW aj X W b fb):QE aj X W (.BinOp a op b pos) (aq o fa fb):=
 PE.weak (pe_op hr ha hb) λσ H Q h=>xK ho σ H Q h
theorem Us{op:CmpOp}{r:R2}{o:Dat->Dat->Out Dat}(hr:OpR X (compareOp op) r)(ho:gK aj X.K W o r)(ha:QW aj X W a fa)(hb:QW aj X W b fb)(hm:behindInMarks op b=false):QE aj X W (.Compare a [op] [b] pos) (aq o fa fb):=
 PE.weak (pe_cmpR hr ha hb hm) λσ H Q h=>xK ho σ H Q h
end
instance:DecidableRel CMul:=λi j=>by unfold CMul;infer_instance
instance:DecidableRel CDiv:=λi j=>by unfold CDiv;infer_instance
instance:DecidableRel CPow:=λi j=>by unfold CPow;infer_instance
def aO:Dat->Dat->Out Dat
 |.int i,.int j=>.ok (.int (i+j))
 |.str x,.str y=>Out.when (decide (x.length+y.length<=100000)) (.ok (.str (x++y)))
 |.list xs,.list ys=>Out.when (decide (xs.length+ys.length<=100000)) (.ok (.list (xs++ys)))
 |.tuple xs,.tuple ys=>Out.when (decide (xs.length+ys.length<=100000)) (.ok (.tuple (xs++ys)))
 |_,_=>.bad
def j9:Dat->Dat->Out Dat
 |.int i,.int j=>.ok (.int (i-j))
 |_,_=>.bad
def vH:Dat->Dat->Out Dat
 |.int i,.int j=>Out.when (decide (CMul i j)) (.ok (.int (i*j)))
 |_,_=>.bad
def pD:Dat->Dat->Out Dat
 |.int i,.int j=>Out.when (decide (CDiv i j)) (.ok (.int (i/j)))
 |_,_=>.bad
def dJ:Dat->Dat->Out Dat
 |.int i,.int j=>Out.when (decide (0<j)) (.ok (.int (i%j)))
 |_,_=>.bad
def vX:Dat->Dat->Out Dat
 |.int i,.int j=>Out.when (decide (CPow i j)) (.ok (.int (i^j.toNat)))
 |_,_=>.bad
def rCatS(K:afr):R2:=λx y H Q=>∃l b xs zs,x=.ref l/\y=.ref b/\SqL K H l xs/\SqL K H b zs/\xs.length+zs.length<=sizeLine/\∀p,H p=none->Q (.ref p) (upd H p (.lst (xs++zs)))
theorem U0{X:Cx}:OpR X (binaryOp .Add) (rCatS X.K):=by
 intro pins s σ H x y v u Q I rx ry h;obtain⟨l,b,xs,zs,rfl,rfl,hH,hB,hz,q⟩:=h;cases rx;cases ry;obtain⟨its,r,⟨⟨c1,d1,da1,s1⟩,n,e,hc,hd,hs⟩,_⟩:=I.list hH;obtain⟨its2,r2,⟨⟨c2,d2,da2,s2⟩,n2,e2,hc2,hd2,hs2⟩,_⟩:=I.list hB;simp only at hc hd hs hc2 hd2 hs2;subst hc hd hs hc2 hd2 hs2;have l1:=r.length;have l2:=r2.length;have ea:its.toArray++its2.toArray=(its++its2).toArray:=by simp
 refine concat_meets ⟨_,e,rfl⟩ ⟨_,e2,rfl⟩ noFill_list_add seq_list_add PySem.F.slot_list_add PySem.F.entry_list_add (PySem.F.args_list_add_2 _ _) (list_addW l b its.toArray its2.toArray n n2 none none s1 s2 (by rw[List.size_toArray,List.size_toArray];omega)) ⟨e,e2,?_⟩;rw[ea];exact⟨.ref _,_,I.lnew (t':=s.toks) (r.append r2) (by rw[afZ];omega),rfl,q _ I.fresh⟩
def Tw(K:afr):R2:=λx y H Q=>rI0 (λi j=>.int (i+j)) x y H Q\/(∃i j,x=.str i/\y=.str j/\i.length+j.length<=sizeLine/\Q (.str (i++j)) H)\/rCatS K x y H Q\/rCatA K x y H Q
theorem Ut{X:Cx}:OpR X (binaryOp .Add) (Tw X.K):=by
 intro pins s σ H x y v u Q I rx ry h;rcases h with h|h|h|h
 .exact op_add pins s σ H x y v u Q I rx ry h
 .exact op_add_str pins s σ H x y v u Q I rx ry h
 .exact U0 pins s σ H x y v u Q I rx ry h
 .exact op_catA pins s σ H x y v u Q I rx ry h
section
variable{K:afr}{aj:aA}{W:WX}
theorem Z9:gK aj K W aO (Tw K):=λσ g H x y d e Q k rx ry h=>by
 unfold aO at h;split at h
 .exact .inl ⟨_,_,aP rx,aP ry,h _ H (Ex.refl H) (.int _)⟩
 .obtain⟨hz,h⟩:=h.dI;exact .inr (.inl ⟨_,_,bR rx,bR ry,sz_of (agp hz),h _ H (Ex.refl H) (.str _)⟩)
 .obtain⟨hz,h⟩:=h.dI;obtain⟨l,us,e1,s1,t1⟩:=bZ rx;obtain⟨l2,us2,e2,s2,t2⟩:=bZ ry;have hl:=agp hz;rw[<-t1.length,<-t2.length]at hl;refine .inr (.inr (.inl ⟨l,l2,us,us2,e1,e2,s1,s2,sz_of hl,λp np=>h _ _ (Ex.new np) (.lst (.inl ⟨.inl agu,k.fresh np⟩) ((t1.append t2).ex (Ex.new np) k))⟩))
 .obtain⟨hz,h⟩:=h.dI;obtain⟨l,us,e1,s1,t1⟩:=dG rx;obtain⟨l2,us2,e2,s2,t2⟩:=dG ry;have hl:=agp hz;rw[<-t1.length,<-t2.length]at hl;refine .inr (.inr (.inr ⟨l,l2,us,us2,e1,e2,s1,s2,sz_of hl,λz=>?_,λ_ z=>?_,λ_ _ p np=>h _ _ (Ex.new np) (.tup (st_of agu) ((t1.append t2).ex (Ex.new np) k))⟩))
  .subst z;cases t1;exact h _ H (Ex.refl H) (.tup s2 t2)
  .subst z;cases t2;rw[af0]at h;exact h _ H (Ex.refl H) (.tup s1 t1)
 .exact agn h
theorem ZJ:gK aj K W j9 (rI0 λi j=>.int (i-j)):=λσ g H x y d e Q k rx ry h=>by
 unfold j9 at h;split at h
 .exact⟨_,_,aP rx,aP ry,h _ H (Ex.refl H) (.int _)⟩
 .exact agn h
theorem Xo:gK aj K W vH (rI CMul λi j=>.int (i*j)):=λσ g H x y d e Q k rx ry h=>by
 unfold vH at h;split at h
 .obtain⟨hz,h⟩:=h.dI;exact⟨_,_,aP rx,aP ry,agp hz,h _ H (Ex.refl H) (.int _)⟩
 .exact agn h
theorem Xr:gK aj K W pD (rI CDiv λi j=>.int (i/j)):=λσ g H x y d e Q k rx ry h=>by
 unfold pD at h;split at h
 .obtain⟨hz,h⟩:=h.dI;exact⟨_,_,aP rx,aP ry,agp hz,h _ H (Ex.refl H) (.int _)⟩
 .exact agn h
theorem Y9:gK aj K W dJ (rI (λ_ j=>0<j) λi j=>.int (i%j)):=λσ g H x y d e Q k rx ry h=>by
 unfold dJ at h;split at h
 .obtain⟨hz,h⟩:=h.dI;exact⟨_,_,aP rx,aP ry,agp hz,h _ H (Ex.refl H) (.int _)⟩
 .exact agn h
theorem ZP:gK aj K W vX (rI CPow λi j=>.int (i^j.toNat)):=λσ g H x y d e Q k rx ry h=>by
 unfold vX at h;split at h
 .obtain⟨hz,h⟩:=h.dI;exact⟨_,_,aP rx,aP ry,agp hz,h _ H (Ex.refl H) (.int _)⟩
 .exact agn h
end
mutual
def okd:Nat->Dat->Bool
 |_,.none=>true
 |_,.bool _=>true
 |_,.int _=>true
 |_,.str x=>PyData.strOk x
 |n+1,.list ds=>fZ n ds
 |n+1,.tuple ds=>fZ n ds
 |0,.list _=>false
 |0,.tuple _=>false
 |_,.dict _=>false
def fZ:Nat->List Dat->Bool
 |_,[]=>true
 |n,d::ds=>okd n d&&fZ n ds
end
mutual
theorem yL:∀(n:Nat) (d:Dat),okd n d=true->d.canLay0=true/\d.depth<=n
 |n,.none,_=>⟨by simp[PyData.canLay0],by simp[PyData.depth]⟩
 |n,.bool _,_=>⟨by simp[PyData.canLay0],by simp[PyData.depth]⟩
 |n,.int _,_=>⟨by simp[PyData.canLay0],by simp[PyData.depth]⟩
 |n,.str x,h=>⟨by rw[okd]at h;simp[PyData.canLay0,h],by simp[PyData.depth]⟩
 |n+1,.list ds,h=>by
  rw[okd]at h;obtain⟨h1,h2⟩:=wF n ds h;exact⟨by simp[PyData.canLay0,h1],by simp[PyData.depth];omega⟩
 |n+1,.tuple ds,h=>by
  rw[okd]at h;obtain⟨h1,h2⟩:=wF n ds h;exact⟨by simp[PyData.canLay0,h1],by simp[PyData.depth];omega⟩
 |0,.list _,h=>by rw[okd]at h;cases h
 |0,.tuple _,h=>by rw[okd]at h;cases h
 |n,.dict _,h=>by rw[okd]at h;cases h
theorem wF:∀(n:Nat) (ds:List Dat),fZ n ds=true->PyData.canLayAll0 ds=true/\PyData.depthAll ds<=n
 |n,[],_=>⟨by simp[PyData.canLayAll0],by simp[PyData.depthAll]⟩
 |n,d::ds,h=>by
  rw[fZ,afs]at h;obtain⟨h1,h2⟩:=yL n d h.1;obtain⟨h3,h4⟩:=wF n ds h.2;exact⟨by simp[PyData.canLayAll0,h1,h3],by simp[PyData.depthAll];omega⟩
end
mutual
theorem Rep.dp{K:afr}{g:Gh}{H:Hp}:∀{n:Nat} {v:V} {d:Dat},okd n d=true->Rep K g H v d->Dp K H v d
 |_,_,_,_,.non=>.non
 |_,_,_,_,.bl b=>.bl b
 |_,_,_,_,.int i=>.int i
 |_,_,_,_,.str x=>.str x
 |n+1,_,_,f,.tup h t=>.tup h (au.dp (n:=n) (by rw[okd]at f;exact f) t)
 |n+1,_,_,f,.lst h t=>.lst h.sq (au.dp (n:=n) (by rw[okd]at f;exact f) t)
 |0,_,_,f,.tup h t=>by rw[okd]at f;cases f
 |0,_,_,f,.lst h t=>by rw[okd]at f;cases f
 |_,_,_,f,.obj h=>by rw[okd]at f;cases f
theorem au.dp{K:afr}{g:Gh}{H:Hp}:∀{n:Nat} {vs:List V} {ds:List Dat},fZ n ds=true->au K g H vs ds->DpAll K H vs ds
 |_,_,_,_,.nil=>.nil
 |n,_,_,f,.cons h t=>.cons (Rep.dp (n:=n) (by rw[fZ,afs]at f;exact f.1) h) (au.dp (n:=n) (by rw[fZ,afs]at f;exact f.2) t)
end
theorem bF.dp{K:afr}{g:Gh}{H:Hp}{n:Nat}{v:V}{d:Dat}(f:okd n d=true)(h:bF K g H v d):Dp K H v d:=by
 cases d with
 |list ds=>
  obtain⟨a,us,rfl,h2,h3⟩:=h;cases n with
  |zero=>rw[okd]at f;cases f
  |succ n=>
   rw[okd]at f;exact .lst h2 (h3.dp f)
 |_=>exact Rep.dp f h
theorem mO{n:Nat}{d:Dat}(h:okd n d=true)(hn:n<=64):SeqAt.shaped d=true:=by obtain⟨h1,h2⟩:=yL n d h;unfold SeqAt.shaped;rw[h1,Bool.true_and];exact decide_eq_true (Nat.le_trans h2 hn)
def eqB:Dat->Dat->Out Bool
 |.int i,.int j=>.ok (i==j)
 |.str x,.str y=>.ok (x==y)
 |.bool x,.bool y=>.ok (x==y)
 |.none,.none=>.ok true
 |d,e=>Out.when (okd 12 d&&okd 12 e) (.ok (PyData.eqv d e))
def bV(d e:Dat):Out Dat:=(eqB d e).bind λb=>.ok (.bool b)
def pZ(d e:Dat):Out Dat:=(eqB d e).bind λb=>.ok (.bool (!b))
def Xy(K:afr):R2:=λx y H Q=>rEq x y H Q\/rEqD K x y H Q
def Xg(K:afr):R2:=λx y H Q=>rNe x y H Q\/rNeD K x y H Q
theorem ZG{X:Cx}(hu:X.A.units+64<cLine):OpR X (compareOp .Eq) (Xy X.K):=λpins s σ H x y v u Q I rx ry h=>h.elim (λh=>op_eq pins s σ H x y v u Q I rx ry h) (λh=>op_eqD hu pins s σ H x y v u Q I rx ry h)
theorem YF{X:Cx}(hu:X.A.units+64<cLine):OpR X (compareOp .NotEq) (Xg X.K):=λpins s σ H x y v u Q I rx ry h=>h.elim (λh=>op_ne pins s σ H x y v u Q I rx ry h) (λh=>op_neD hu pins s σ H x y v u Q I rx ry h)
section
variable{K:afr}{aj:aA}{W:WX}{g:Gh}{H:Hp}
theorem Mw{x y:V}{d e:Dat}{P:Bool->Prop}{E:bL->Prop}(rx:bF K g H x d)(ry:bF K g H y e)(h:(eqB d e).sat P E):(scal x y=true/\P (decide (x=y)))\/(∃d e,Dp K H x d/\Dp K H y e/\SeqAt.shaped d=true/\SeqAt.shaped e=true/\P (PyData.eqv d e)):=by
 unfold eqB at h;split at h
 .cases aP rx;cases aP ry;rw[dec_int];exact .inl ⟨rfl,h⟩
 .cases bR rx;cases bR ry;rw[dec_str];exact .inl ⟨rfl,h⟩
 .cases oV rx;cases oV ry;rw[dec_bl];exact .inl ⟨rfl,h⟩
 .cases qw rx;cases qw ry;exact .inl ⟨rfl,h⟩
 .obtain⟨hz,h⟩:=h.dI;rw[afs]at hz;exact .inr ⟨_,_,rx.dp hz.1,ry.dp hz.2,mO hz.1 (by decide),mO hz.2 (by decide),h⟩
theorem aaK:gK aj K W bV (Xy K):=λσ g H x y d e Q k rx ry h=>by
 rcases Mw rx ry h.bnd with⟨h1,h2⟩|⟨d,e,h1,h2,h3,h4,h5⟩
 .exact .inl ⟨h1,h2 _ H (Ex.refl H) (.bl _)⟩
 .exact .inr ⟨d,e,h1,h2,h3,h4,h5 _ H (Ex.refl H) (.bl _)⟩
theorem aaV:gK aj K W pZ (Xg K):=λσ g H x y d e Q k rx ry h=>by
 rcases Mw rx ry h.bnd with⟨h1,h2⟩|⟨d,e,h1,h2,h3,h4,h5⟩
 .exact .inl ⟨h1,h2 _ H (Ex.refl H) (.bl _)⟩
 .exact .inr ⟨d,e,h1,h2,h3,h4,h5 _ H (Ex.refl H) (.bl _)⟩
end
def Jx:Dat->Dat->Out Dat
 |.int i,.int j=>.ok (.bool (decide (i<j)))
 |.tuple ds,.tuple es=>Out.when (okd 12 (.tuple ds)&&okd 12 (.tuple es)&&PySem.W.alike (.tuple ds) (.tuple es)) (.ok (.bool (PySem.W.dataLt (.tuple ds) (.tuple es))))
 |_,_=>.bad
def j8:Dat->Dat->Out Dat
 |.int i,.int j=>.ok (.bool (decide (i<=j)))
 |_,_=>.bad
def yE:Dat->Dat->Out Dat
 |.int i,.int j=>.ok (.bool (decide (j<i)))
 |_,_=>.bad
def Oi:Dat->Dat->Out Dat
 |.int i,.int j=>.ok (.bool (decide (j<=i)))
 |_,_=>.bad
def Xx(K:afr):R2:=λx y H Q=>rI0 (λi j=>.bl (decide (i<j))) x y H Q\/Ear.yh K x y H Q
theorem WT{X:Cx}(hu:X.A.units+65<cLine):OpR X (compareOp .Lt) (Xx X.K):=λpins s σ H x y v u Q I rx ry h=>h.elim (λh=>op_lt pins s σ H x y v u Q I rx ry h) (λh=>Ear.RN hu pins s σ H x y v u Q I rx ry h)
section
variable{K:afr}{aj:aA}{W:WX}{g:Gh}{H:Hp}
theorem aby:gK aj K W Jx (Xx K):=λσ g H x y d e Q k rx ry h=>by
 unfold Jx at h;split at h
 .exact .inl ⟨_,_,aP rx,aP ry,h _ H (Ex.refl H) (.bl _)⟩
 .obtain⟨hz,h⟩:=h.dI;simp only[afs]at hz;refine .inr ?_;unfold Ear.yh;exact⟨_,_,rx.dp hz.1.1,ry.dp hz.1.2,hz.2,(λz=>nomatch z),Nat.le_trans (yL _ _ hz.1.1).2 (by decide),h _ H (Ex.refl H) (.bl _)⟩
 .exact agn h
theorem aaC:gK aj K W j8 (rI0 λi j=>.bl (decide (i<=j))):=λσ g H x y d e Q k rx ry h=>by
 unfold j8 at h;split at h
 .exact⟨_,_,aP rx,aP ry,h _ H (Ex.refl H) (.bl _)⟩
 .exact agn h
theorem abf:gK aj K W yE (rI0 λi j=>.bl (decide (j<i))):=λσ g H x y d e Q k rx ry h=>by
 unfold yE at h;split at h
 .exact⟨_,_,aP rx,aP ry,h _ H (Ex.refl H) (.bl _)⟩
 .exact agn h
theorem aa9:gK aj K W Oi (rI0 λi j=>.bl (decide (j<=i))):=λσ g H x y d e Q k rx ry h=>by
 unfold Oi at h;split at h
 .exact⟨_,_,aP rx,aP ry,h _ H (Ex.refl H) (.bl _)⟩
 .exact agn h
end
def kJ(c:Dat):Dat->Bool
 |.none=>match c with
  |.none=>true
  |_=>false
 |.bool b=>match c with
  |.bool b'=>b==b'
  |_=>false
 |_=>false
def T8:Dat->Option V
 |.none=>some .non
 |.bool b=>some (.bl b)
 |_=>none
theorem Jh{K:afr}{g:Gh}{H:Hp}{x:V}{d c:Dat}{v:V}(h:bF K g H x d)(hc:T8 c=some v):decide (x=v)=kJ c d:=by
 cases c with
 |none=>
  cases hc;cases d with
  |none=>cases qw h;rfl
  |bool b=>cases oV h;rfl
  |int b=>cases aP h;rfl
  |str b=>cases bR h;rfl
  |list b=>obtain⟨a,us,rfl,_⟩:=bZ h;rfl
  |tuple b=>obtain⟨a,us,rfl,_⟩:=dG h;rfl
  |dict b=>cases h;rfl
 |bool c=>
  cases hc;cases d with
  |none=>cases qw h;rfl
  |bool b=>cases oV h;exact dec_bl
  |int b=>cases aP h;rfl
  |str b=>cases bR h;rfl
  |list b=>obtain⟨a,us,rfl,_⟩:=bZ h;rfl
  |tuple b=>obtain⟨a,us,rfl,_⟩:=dG h;rfl
  |dict b=>cases h;rfl
 |_=>cases hc
def Gv(neg:Bool)(v:V):R2:=λx y H Q=>y=v/\Q (.bl (neg ^^ decide (x=v))) H
theorem LC{x v:V}{u w:Value}(hv:v=.non\/∃b,v=.bl b)(rx:RelV x u)(rv:RelV v w):(u==w)=decide (x=v):=by
 rcases hv with rfl|⟨b,rfl⟩
 .cases rv;exact rx.none_iff
 .cases rv;rw[af9,beq_iff_eq,ago];constructor
  .rintro rfl;cases x with
   |bl c=>cases rx;rfl
   |non=>cases rx
   |ref _=>cases rx
   |ty _=>cases rx
   |_=>obtain⟨t,z⟩:=rx;cases z
  .rintro rfl;exact rx
theorem Ac{x v:V}{u w:Value}(hv:v=.non\/∃b,v=.bl b)(rx:RelV x u)(rv:RelV v w):plainIs u w=true:=by rcases hv with rfl | ⟨b,rfl⟩<;>(cases rv;cases x<;>first | (cases rx;rfl) | (obtain⟨t,rfl⟩:=rx;rfl))
theorem Yu{X:Cx}{v:V}(hv:v=.non\/∃b,v=.bl b):OpR X (compareOp .Is) (Gv false v):=by intro pins s σ H x y u w Q I rx ry h;obtain⟨rfl,q⟩:=h;refine wpAny_is_plain (Ac hv rx ry) ?_;rw[LC hv rx ry];rw[Bool.false_xor]at q;exact⟨.bl _,H,I,rfl,q⟩
theorem Oh{X:Cx}{v:V}(hv:v=.non\/∃b,v=.bl b):OpR X (compareOp .IsNot) (Gv true v):=by intro pins s σ H x y u w Q I rx ry h;obtain⟨rfl,q⟩:=h;refine wpAny_isNot_plain (Ac hv rx ry) ?_;rw[LC hv rx ry];rw[Bool.true_xor]at q;exact⟨.bl _,H,I,rfl,q⟩
def uf(neg:Bool)(c:Dat)(a:QF):QF:=λM ρ=>(a M ρ).bind λd=>.ok (.bool (neg ^^ kJ c d))
section
variable{X:Cx}{aj:aA}{W:WX}{a b c:Expr}{fa fb fc:QF}{pos:Pos}
theorem aa0{op:CmpOp}{neg:Bool}{d:Dat}{v:V}(hc:T8 d=some v)(hr:OpR X (compareOp op) (Gv neg v))(ha:QW aj X W a fa)(hb:PE X b (tC v))(hm:behindInMarks op b=false):QE aj X W (.Compare a [op] [b] pos) (uf neg d fa):=
 PE.weak (pe_cmpR hr ha hb hm) λσ H Q ⟨g,ρ,M,I,h⟩=>by
  refine tW.go I h.bnd λe x H1 h1 e1 r1=>?_;refine⟨rfl,?_⟩;rw[Jh r1 hc];exact h1 _ H1 e1 (.bl _)
end
def pO:Dat->Bool
 |.none=>true
 |.bool _=>true
 |.int _=>true
 |.str _=>true
 |_=>false
def inB:Dat->Dat->Out Bool
 |d,.list ds=>Out.when (okd 12 d&&fZ 12 ds) (.ok (ds.any λz=>PyData.eqv z d))
 |d,.tuple ds=>Out.when (pO d&&ds.all pO) (.ok (ds.any λz=>PyData.eqv z d))
 |.str x,.str z=>match x.cps.toList with
  |[c]=>.ok (decide (c∈z.cps.toList))
  |_=>.bad
 |_,_=>.bad
def inD(neg:Bool)(d e:Dat):Out Dat:=(inB d e).bind λb=>.ok (.bool (neg ^^ b))
section
variable{K:afr}{g:Gh}{H:Hp}
theorem v7{v:V}{d:Dat}(f:pO d=true)(h:Rep K g H v d):flatV v=true:=by
 cases h with
 |tup _ _=>cases f
 |lst _ _=>cases f
 |obj _=>cases f
 |_=>rfl
theorem tL:∀{vs:List V} {ds:List Dat},ds.all pO=true->au K g H vs ds->vs.all flatV=true
 |_,_,_,.nil=>rfl
 |_,_,f,.cons h t=>by
  rw[afW,afs]at f;rw[afW,v7 f.1 h,tL f.2 t];rfl
theorem yQ{v w:V}{d e:Dat}(f1:pO d=true)(f2:pO e=true)(h1:Rep K g H v d)(h2:Rep K g H w e):eqV v w=PyData.eqv d e:=by
 cases h1 with
 |tup _ _=>cases f1
 |lst _ _=>cases f1
 |obj _=>cases f1
 |non=>cases h2 with
  |tup _ _=>cases f2
  |lst _ _=>cases f2
  |obj _=>cases f2
  |_=>simp[eqV,PyData.eqv]
 |bl b=>cases h2 with
  |tup _ _=>cases f2
  |lst _ _=>cases f2
  |obj _=>cases f2
  |_=>simp[eqV,PyData.eqv]
 |int b=>cases h2 with
  |tup _ _=>cases f2
  |lst _ _=>cases f2
  |obj _=>cases f2
  |_=>simp[eqV,PyData.eqv]
 |str b=>cases h2 with
  |tup _ _=>cases f2
  |lst _ _=>cases f2
  |obj _=>cases f2
  |_=>simp[eqV,PyData.eqv]
theorem JG{w:V}{e:Dat}(f2:pO e=true)(h2:Rep K g H w e):∀{vs:List V} {ds:List Dat},ds.all pO=true->au K g H vs ds->inV w vs=ds.any λz=>PyData.eqv z e
 |_,_,_,.nil=>rfl
 |v::vs,d::ds,f,.cons h t=>by
  rw[afW,afs]at f;have ih:=JG f2 h2 f.2 t;unfold inV at ih |-
  rw[agg,agg,ih,yQ f.1 f2 h h2]
theorem JK{v:V}{d:Dat}(f:pO d=true)(h:bF K g H v d):Rep K g H v d:=by
 cases d with
 |list _=>cases f
 |_=>exact h
end
def Eh(K:afr)(neg:Bool):R2:=λx y H Q=>(∃d ds,Dp K H x d/\Dp K H y (.list ds)/\SeqAt.shaped d=true/\SeqAt.shaped (.list ds)=true/\Q (.bl (neg ^^ (ds.any λz=>PyData.eqv z d))) H)\/
 (∃p xs,y=.ref p/\(SqL K H p xs\/SqT K H p xs)/\flatV x=true/\xs.all flatV=true/\Q (.bl (neg ^^ inV x xs)) H)\/∃(c:Nat) (z:Str),x=.str ⟨#[c]⟩/\y=.str z/\Q (.bl (neg ^^ decide (c∈z.cps.toList))) H
theorem ZV{X:Cx}(hu:X.A.units+65<cLine):OpR X (compareOp .In) (Eh X.K false):=λpins s σ H x y v u Q I rx ry h=>by
 unfold Eh at h;simp only[Bool.false_xor]at h;rcases h with⟨d,ds,h⟩|⟨p,xs,h⟩|h
 .exact op_inD hu pins s σ H x y v u Q I rx ry ⟨d,ds,h⟩
 .exact op_in_seq pins s σ H x y v u Q I rx ry ⟨p,xs,h⟩
 .exact op_in_sign pins s σ H x y v u Q I rx ry h
theorem Ml{X:Cx}(hu:X.A.units+65<cLine):OpR X (compareOp .NotIn) (Eh X.K true):=λpins s σ H x y v u Q I rx ry h=>by
 unfold Eh at h;simp only[Bool.true_xor]at h;rcases h with⟨d,ds,h⟩|⟨p,xs,h⟩|h
 .exact op_notInD hu pins s σ H x y v u Q I rx ry ⟨d,ds,h⟩
 .exact op_notIn_seq pins s σ H x y v u Q I rx ry ⟨p,xs,h⟩
 .exact op_notIn_sign pins s σ H x y v u Q I rx ry h
theorem T9{K:afr}{aj:aA}{W:WX}{neg:Bool}:gK aj K W (inD neg) (Eh K neg):=λσ g H x y d e Q k rx ry h=>by
 replace h:=Out.sat.bnd h
 unfold inB at h;split at h
 .next ds=>
  obtain⟨hz,h⟩:=h.dI;rw[afs]at hz;have e2:okd 13 (.list ds)=true:=by rw[okd];exact hz.2
  exact .inl ⟨_,ds,rx.dp hz.1,ry.dp e2,mO hz.1 (by decide),mO e2 (by decide),h _ H (Ex.refl H) (.bl _)⟩
 .next ds=>
  obtain⟨hz,h⟩:=h.dI;rw[afs]at hz;obtain⟨p,us,rfl,h1,h2⟩:=dG ry;have rx':=JK hz.1 rx;refine .inr (.inl ⟨p,us,rfl,.inr h1,v7 hz.1 rx',tL hz.2 h2,?_⟩);rw[JG hz.1 rx' hz.2 h2];exact h _ H (Ex.refl H) (.bl _)
 .next xs z=>
  split at h
  .next c e=>
   refine .inr (.inr ⟨c,z,?_,bR ry,h _ H (Ex.refl H) (.bl _)⟩);rw[bR rx];congr 1;have:xs.cps=#[c]:=by apply Array.toList_inj.mp;rw[e]
   cases xs;simp only at this;rw[this]
  .exact agn h
 .exact agn h
def Gj:Dat->Out Dat
 |.int i=>.ok (.int (-i))
 |_=>.bad
def qT:Dat->Out Bool
 |.none=>.ok false
 |.bool b=>.ok b
 |.int i=>.ok (i != 0)
 |.str x=>Out.when (decide (x.length<=100000)) (.ok (!x.cps.toList.isEmpty))
 |.list ds=>.ok (!ds.isEmpty)
 |.tuple ds=>.ok (!ds.isEmpty)
 |_=>.bad
def dZ(a:QF):QT:=λM ρ=>(a M ρ).bind qT
def mj:Dat->Out Bool
 |.bool b=>.ok b
 |_=>.bad
def aZ(a:QF):QT:=λM ρ=>(a M ρ).bind mj
def dw(a:QT):QT:=λM ρ=>(a M ρ).bind λb=>.ok (!b)
def jA(a b:QT):QT:=λM ρ=>(a M ρ).bind λx=>if x=true then b M ρ else .ok false
def jL(a b:QT):QT:=λM ρ=>(a M ρ).bind λx=>if x=true then .ok true else b M ρ
def Dq(a:QT):QF:=λM ρ=>(a M ρ).bind λb=>.ok (.bool b)
def Oc(t:QT)(a b:QF):QF:=λM ρ=>(t M ρ).bind λx=>if x=true then a M ρ else b M ρ
theorem yx{K:afr}{g:Gh}{H:Hp}{us:List V}{ds:List Dat}(h:au K g H us ds):(!ds.isEmpty)=!us.isEmpty:=by cases h<;>rfl
section
variable{X:Cx}{aj:aA}{W:WX}{a b c:Expr}{fa fb fc:QF}{ta tb:QT}{pos:Pos}
theorem aad(ha:QW aj X W a fa):QE aj X W (.UnaryOp .USub a pos) (bW Gj fa):=
 PE.weak (pe_un un_neg ha) λσ H Q ⟨g,ρ,M,I,h⟩=>by
  refine tW.go I h.bnd λd v H1 h1 e1 r1=>?_;unfold Gj at h1;split at h1
  .exact⟨_,aP r1,h1 _ H1 e1 (.int _)⟩
  .exact agn h1
theorem aag{g:Gh}{H:Hp}{v:V}{d:Dat}{P:Bool->Prop}{E:bL->Prop}(r:bF X.K g H v d)(h:(qT d).sat P E):∃k,TruV X.K v H k/\P k:=by
 unfold qT at h;split at h
 .cases qw r;exact⟨_,rfl,h⟩
 .cases oV r;exact⟨_,rfl,h⟩
 .cases aP r;exact⟨_,rfl,h⟩
 .next x=>
  obtain⟨hz,h⟩:=h.dI;cases bR r;refine⟨_,⟨sz_of (agp hz),?_⟩,h⟩;have e:x.length=x.cps.toList.length:=by rw[afQ];rfl
  rw[e];cases x.cps.toList with
  |nil=>rfl
  |cons y ys=>
   refine Eq.symm (bne_iff_ne.mpr ?_);simp;omega
 .obtain⟨p,us,rfl,h1,h2⟩:=bZ r;rw[yx h2]at h;exact⟨_,.inl ⟨us,h1,rfl⟩,h⟩
 .obtain⟨p,us,rfl,h1,h2⟩:=dG r;rw[yx h2]at h;exact⟨_,.inr (.inl ⟨us,h1,rfl⟩),h⟩
 .exact agn h
theorem YK(ha:QW aj X W a fa)(he:∀whole,isTrue a X.env whole=(do let v <-whole;standAt a.pos;holding [v] (truthy v))):iT aj X W a (dZ fa):=
 PT.weak (pt_truth ha he) λσ H Q ⟨g,ρ,M,I,h⟩=>by
  refine tW.go I h.bnd λd v H1 h1 e1 r1=>?_;obtain⟨k,h2,h3⟩:=aag r1 h1;exact⟨k,h2,h3 H1 e1⟩
theorem oW{g:Gh}{H:Hp}{v:V}{d:Dat}{P:Bool->Prop}{E:bL->Prop}(r:bF X.K g H v d)(h:(mj d).sat P E):∃k,v=.bl k/\P k:=by
 unfold mj at h;split at h
 .cases oV r;exact⟨_,rfl,h⟩
 .exact agn h
theorem Yv{op:CmpOp}{r:R2}{o:Dat->Dat->Out Dat}(hr:OpR X (compareOp op) r)(ho:gK aj X.K W o r)(ha:QW aj X W a fa)(hb:QW aj X W b fb)(hm:behindInMarks op b=false):iT aj X W (.Compare a [op] [b] pos) (aZ (aq o fa fb)):=
 PT.weak (pt_cmpR hr ha hb hm) λσ H Q ⟨g,ρ,M,I,h⟩=>by
  refine xK ho σ H _ ⟨g,ρ,M,I,h.bnd.mono (λd h1 v H' e' r'=>?_) λ_ z=>z⟩;obtain⟨k,h2,h3⟩:=oW r'.weak h1;exact⟨k,h2,h3 H' e'⟩
theorem abr{op:CmpOp}{neg:Bool}{d:Dat}{v:V}(hc:T8 d=some v)(hr:OpR X (compareOp op) (Gv neg v))(ha:QW aj X W a fa)(hb:PE X b (tC v))(hm:behindInMarks op b=false):iT aj X W (.Compare a [op] [b] pos) (aZ (uf neg d fa)):=
 PT.weak (pt_cmpR hr ha hb hm) λσ H Q ⟨g,ρ,M,I,h⟩=>by
  refine tW.go I h.bnd.bnd λe x H1 h1 e1 r1=>?_;refine⟨rfl,_,rfl,?_⟩;rw[Jh r1 hc];exact h1 H1 e1
theorem Zf(ha:iT aj X W a ta):iT aj X W (.UnaryOp .Not a pos) (dw ta):=
 PT.weak (pt_not ha) λσ H Q ⟨g,ρ,M,I,h⟩=>dY.go I h.bnd λb H1 h1 e1=>h1 H1 e1
def Jp(aj:aA)(X:Cx)(W:WX)(e:Expr)(f:QT):Prop:=PW X e (dY X.K aj W f)
theorem PW.weak{X:Cx}{e:Expr}{t t':TT}(h:PW X e t)(k:∀σ H Q,t' σ H Q->t σ H Q):PW X e t':=⟨λwh pins s σ H Q I q=>h.run wh pins s σ H Q I (k σ H Q q)⟩
theorem Yg{rest:List Expr}(ha:iT aj X W a ta)(hb:Jp aj X W (.BoolOp .And (b::rest) pos) tb):Jp aj X W (.BoolOp .And (a::b::rest) pos) (jA ta tb):=
 PW.weak (pw_and ha hb) λσ H Q ⟨g,ρ,M,I,h⟩=>by
  refine dY.go I h.bnd λx H1 h1 e1=>?_;cases x with
  |true=>exact⟨g,ρ,M,I.ex e1,h1.mono (λb k H' e'=>k H' (e1.trans e')) λ_ z=>z.ex e1⟩
  |false=>exact h1 H1 e1
theorem aaZ{rest:List Expr}(ha:iT aj X W a ta)(hb:Jp aj X W (.BoolOp .Or (b::rest) pos) tb):Jp aj X W (.BoolOp .Or (a::b::rest) pos) (jL ta tb):=
 PW.weak (pw_or ha hb) λσ H Q ⟨g,ρ,M,I,h⟩=>by
  refine dY.go I h.bnd λx H1 h1 e1=>?_;cases x with
  |true=>exact h1 H1 e1
  |false=>exact⟨g,ρ,M,I.ex e1,h1.mono (λb k H' e'=>k H' (e1.trans e')) λ_ z=>z.ex e1⟩
def Cp(a:QF):QF:=Dq (dw (aZ a))
def lH(a b:QF):QF:=λM ρ=>(a M ρ).bind λd=>(mj d).bind λx=>if x=true then b M ρ else .ok (.bool false)
def Q5(a b:QF):QF:=λM ρ=>(a M ρ).bind λd=>(mj d).bind λx=>if x=true then .ok (.bool true) else b M ρ
theorem Wy(ha:QW aj X W a fa):QE aj X W (.UnaryOp .Not a pos) (Cp fa):=
 PE.weak (pe_not ha) λσ H Q ⟨g,ρ,M,I,h⟩=>by
  refine tW.go I h.bnd.bnd.bnd λd v H1 h1 e1 r1=>?_;obtain⟨k,h2,h3⟩:=oW r1 h1;exact⟨k,h2,h3 _ H1 e1 (.bl _)⟩
theorem Wx{rest:List Expr}(ha:QE aj X W a fa)(hb:QE aj X W (.BoolOp .And (b::rest) pos) fb):QE aj X W (.BoolOp .And (a::b::rest) pos) (lH fa fb):=
 PE.weak (pe_and ha hb) λσ H Q ⟨g,ρ,M,I,h⟩=>by
  refine tQ.go I h.bnd λd v H1 h1 e1 r1=>?_;obtain⟨k,h2,h3⟩:=oW r1.weak h1.bnd;refine⟨k,h2,?_⟩;cases k with
  |true=>exact⟨g,ρ,M,I.ex e1,h3.mono (λb k v' H' e' r'=>k v' H' (e1.trans e') r') λ_ z=>z.ex e1⟩
  |false=>exact h3 _ H1 e1 (.bl false)
theorem Z7{rest:List Expr}(ha:QE aj X W a fa)(hb:QE aj X W (.BoolOp .Or (b::rest) pos) fb):QE aj X W (.BoolOp .Or (a::b::rest) pos) (Q5 fa fb):=
 PE.weak (pe_or ha hb) λσ H Q ⟨g,ρ,M,I,h⟩=>by
  refine tQ.go I h.bnd λd v H1 h1 e1 r1=>?_;obtain⟨k,h2,h3⟩:=oW r1.weak h1.bnd;refine⟨k,h2,?_⟩;cases k with
  |false=>exact⟨g,ρ,M,I.ex e1,h3.mono (λb k v' H' e' r'=>k v' H' (e1.trans e') r') λ_ z=>z.ex e1⟩
  |true=>exact h3 _ H1 e1 (.bl true)
theorem Ss(hc:iT aj X W c ta)(ha:QE aj X W a fa)(hb:QE aj X W b fb):QE aj X W (.IfExp c a b pos) (Oc ta fa fb):=
 PE.weak (pe_ifExp hc ha hb) λσ H Q ⟨g,ρ,M,I,h⟩=>by
  refine dY.go I h.bnd λx H1 h1 e1=>?_;cases x with
  |true=>exact⟨g,ρ,M,I.ex e1,h1.mono (λb k v' H' e' r'=>k v' H' (e1.trans e') r') λ_ z=>z.ex e1⟩
  |false=>exact⟨g,ρ,M,I.ex e1,h1.mono (λb k v' H' e' r'=>k v' H' (e1.trans e') r') λ_ z=>z.ex e1⟩
def gD(o o':Dat->Dat->Out Dat)(a b c:QF):QT:=λM ρ=>(a M ρ).bind λx=>(b M ρ).bind λy=>(o x y).bind λz=>(mj z).bind λk=>if k=true then(c M ρ).bind λw=>(o' y w).bind mj else .ok false
theorem Ed{r r':R2}{o o':Dat->Dat->Out Dat}(ho:gK aj X.K W o r)(ho':gK aj X.K W o' r'){σ:L2.St}{H:Hp}{Q:VK}{P:Bool->Hp->Prop}(hP:∀k H',P k H'->Q (.bl k) H')(h:dY X.K aj W (gD o o' fa fb fc) σ H P):tChain r r' (tW X.K aj W fa) (tW X.K aj W fb) (tW X.K aj W fc) σ H Q:=by
 obtain⟨g,ρ,M,I,h⟩:=h;refine tW.go I h.bnd λd v H1 h1 e1 r1=>?_;have I1:=I.ex e1;refine tW.go I1 (h1.bnd.mono (λ_ z=>z) λ_ z=>z.ex e1) λd2 v2 H2 h2 e2 r2=>?_;have I2:=I1.ex e2;have r1':=r1.ex e2 I1.kd;refine ho σ g H2 v v2 d d2 _ I2.kd r1' r2 (h2.bnd.mono (λz hz u H3 e3 r3=>?_) λ_ z=>(z.ex e1).ex e2);obtain⟨k,h4,h5⟩:=oW r3.weak hz.bnd;refine⟨k,h4,?_⟩;have I3:=I2.ex e3;have e13:=(e1.trans e2).trans e3;cases k with
 |false=>exact hP _ _ (h5 H3 e13)
 |true=>
  refine tW.go I3 (h5.bnd.mono (λ_ z=>z) λ_ z=>z.ex e13) λd4 v4 H4 h6 e4 r4=>?_;refine ho' σ g H4 v2 v4 d2 d4 _ (I3.ex e4).kd ((r2.ex e3 I2.kd).ex e4 I3.kd) r4 (h6.bnd.mono (λz hz u H5 e5 r5=>?_) λ_ z=>(z.ex e13).ex e4);obtain⟨k,rfl,h8⟩:=oW r5.weak hz;exact hP _ _ (h8 H5 ((e13.trans e4).trans e5))
theorem QK{op op':CmpOp}{r r':R2}{o o':Dat->Dat->Out Dat}(hr:OpR X (compareOp op) r)(hr':OpR X (compareOp op') r')(ho:gK aj X.K W o r)(ho':gK aj X.K W o' r')(ha:QW aj X W a fa)(hb:QW aj X W b fb)(hc:QW aj X W c fc)(hm:lastMarks [op,op'] [b,c]=false) :
  iT aj X W (.Compare a [op,op'] [b,c] pos) (gD o o' fa fb fc):=
 PT.weak (pt_chain hr hr' ha hb hc hm) λσ H Q h=>Ed ho ho' (λk H' z=>⟨k,rfl,z⟩) h
theorem S9{op op':CmpOp}{r r':R2}{o o':Dat->Dat->Out Dat}(hr:OpR X (compareOp op) r)(hr':OpR X (compareOp op') r')(ho:gK aj X.K W o r)(ho':gK aj X.K W o' r')(ha:QW aj X W a fa)(hb:QW aj X W b fb)(hc:QW aj X W c fc)(hm:lastMarks [op,op'] [b,c]=false) :
  QE aj X W (.Compare a [op,op'] [b,c] pos) (Dq (gD o o' fa fb fc)):=
 PE.weak (pe_chain hr hr' ha hb hc hm) λσ H Q ⟨g,ρ,M,I,h⟩=>Ed (P:=λb H1=>Q (.bl b) H1) ho ho' (λk H' z=>z) ⟨g,ρ,M,I,h.bnd.mono (λb h1 H' e'=>h1 _ H' e' (.bl b)) λ_ z=>z⟩
end
def dM:Dat->Dat->Out Dat
 |.list ds,.int i=>match atI ds i with
  |some d=>.ok d
  |none=>.bad
 |.tuple ds,.int i=>match atI ds i with
  |some d=>.ok d
  |none=>.bad
 |.str z,.int i=>Out.when (decide (z.length<=100000)) (match atI z.cps.toList i with
  |some c=>.ok (.str ⟨#[c]⟩)
  |none=>.bad)
 |_,_=>.bad
theorem Ju{K:afr}{g:Gh}{H:Hp}{us:List V}{ds:List Dat}{i:Int}{d:Dat}(h:au K g H us ds)(e:atI ds i=some d):∃v,atI us i=some v/\Rep K g H v d:=by
 unfold atI at e |-
 rw[h.length];cases hj:ixN ds.length i with
 |none=>rw[hj]at e;cases e
 |some j=>
  rw[hj]at e;obtain⟨v,h1,h2⟩:=h.get (i:=j) e;exact⟨v,h1,h2⟩
def ZX(K:afr):R2:=λx y H Q=>rIxL K x y H Q\/rIxT K x y H Q\/rIxS x y H Q
theorem acy{X:Cx}:IxR X (ZX X.K):=λvalue slice pins s σ H x y v u Q I rx ry h hs=>by
 rcases h with h|h|h
 .exact ix_list value slice pins s σ H x y v u Q I rx ry h hs
 .exact ix_tup value slice pins s σ H x y v u Q I rx ry h hs
 .exact ix_str value slice pins s σ H x y v u Q I rx ry h hs
theorem aaE{K:afr}{aj:aA}{W:WX}:gK aj K W dM (ZX K):=λσ g H x y d e Q k rx ry h=>by
 unfold dM at h;split at h
 .split at h
  .next z hz=>
   obtain⟨p,us,rfl,h1,h2⟩:=bZ rx;obtain⟨v,h3,h4⟩:=Ju h2 hz;exact .inl ⟨p,us,_,v,rfl,aP ry,h1,h3,h v H (Ex.refl H) h4⟩
  .exact agn h
 .split at h
  .next z hz=>
   obtain⟨p,us,rfl,h1,h2⟩:=dG rx;obtain⟨v,h3,h4⟩:=Ju h2 hz;exact .inr (.inl ⟨p,us,_,v,rfl,aP ry,h1,h3,h v H (Ex.refl H) h4⟩)
  .exact agn h
 .obtain⟨hl,h⟩:=h.dI;split at h
  .next c hz=>exact .inr (.inr ⟨_,_,c,bR rx,aP ry,sz_of (agp hl),hz,h _ H (Ex.refl H) (.str _)⟩)
  .exact agn h
 .exact agn h
def cutD{α:Type}(xs:List α)(lo hi:Option Int):List α:=(xs.drop (HT.sIx xs.length 0 lo)).take (HT.sIx xs.length xs.length hi-HT.sIx xs.length 0 lo)
abbrev QO:=Mo->Env->Out (Option Int)
def bB:QO:=λ_ _=>.ok none
def lV:Dat->Out Int
 |.int i=>.ok i
 |_=>.bad
def bD(a:QF):QO:=λM ρ=>(a M ρ).bind λd=>(lV d).bind λi=>.ok (some i)
def JB(d:Dat)(lo hi:Option Int):Out Dat:=
 match d with
 |.list ds=>.ok (.list (cutD ds lo hi))
 |.tuple ds=>.ok (.tuple (cutD ds lo hi))
 |.str z=>Out.when (decide (z.length<=100000)) (.ok (.str (cutS z lo hi)))
 |_=>.bad
def eZ(a:QF)(lo hi:QO):QF:=λM ρ=>(a M ρ).bind λd=>(lo M ρ).bind λl=>(hi M ρ).bind λh=>JB d l h
def tQO(K:afr)(aj:aA)(W:WX)(f:QO):TO:=λσ H Q=>∃g ρ M,SInv K aj σ H g ρ M/\(f M ρ).sat (λo=>∀H',Ex H H'->Q o H') (gR K aj W g H σ)
def O7(aj:aA)(X:Cx)(W:WX)(e:Option Expr)(f:QO):Prop:=PO X e (tQO X.K aj W f)
def Y7(K:afr):V->Option Int->Option Int->Hp->VK->Prop:=λx lo hi H Q=>rSlL K x lo hi H Q\/rSlA K x lo hi H Q\/rSlS x lo hi H Q
theorem abS{X:Cx}:SlR X (Y7 X.K):=λpins s σ H x v vl vu lo hi sl Q I rx hs pl pu h=>by
 rcases h with h|h|h
 .exact sl_list pins s σ H x v vl vu lo hi sl Q I rx hs pl pu h
 .exact sl_tupA pins s σ H x v vl vu lo hi sl Q I rx hs pl pu h
 .exact sl_str pins s σ H x v vl vu lo hi sl Q I rx hs pl pu h
theorem aa7{K:afr}{g:Gh}{H:Hp}{x:V}{d:Dat}{lo hi:Option Int}{Q:VK}{E:bL->Prop}(k:Kd g H)(rx:bF K g H x d)(h:(JB d lo hi).sat (λz=>∀v H',Ex H H'->Rep K g H' v z->Q v H') E):Y7 K x lo hi H Q:=by
 unfold JB at h;have hc:∀{us:List V} {ds:List Dat},au K g H us ds->au K g H (cutV us lo hi) (cutD ds lo hi):=λ{us ds} t=>by
  unfold cutV cutD;rw[t.length];exact(t.drop _).take _
 split at h
 .obtain⟨p,us,rfl,h1,h2⟩:=bZ rx;exact .inl ⟨p,us,rfl,h1,λq nq=>h _ _ (Ex.new nq) (.lst (.inl ⟨.inl agu,k.fresh nq⟩) ((hc h2).ex (Ex.new nq) k))⟩
 .next ds=>
  obtain⟨p,us,rfl,h1,h2⟩:=dG rx;refine .inr (.inl ⟨p,us,rfl,h1,λz=>?_,λ_ q nq=>h _ _ (Ex.new nq) (.tup (st_of agu) ((hc h2).ex (Ex.new nq) k))⟩);have e:cutD ds lo hi=ds:=by unfold cutD;rw[<-h2.length,z.1,z.2,h2.length];simp
  rw[e]at h;exact h _ H (Ex.refl H) (.tup h1 h2)
 .obtain⟨hz,h⟩:=h.dI;exact .inr (.inr ⟨_,bR rx,sz_of (agp hz),h _ H (Ex.refl H) (.str _)⟩)
 .exact agn h
section
variable{X:Cx}{aj:aA}{W:WX}{a b:Expr}{fa fb:QF}{pos p2:Pos}
theorem aaL(ha:QW aj X W a fa)(hb:QW aj X W b fb)(hs:PlainIx b):QE aj X W (.Subscript a b pos) (aq dM fa fb):=
 PE.weak (pe_ix acy ha hb hs) λσ H Q h=>xK aaE σ H Q h
theorem PO.weak{X:Cx}{e:Option Expr}{t t':TO}(h:PO X e t)(k:∀σ H Q,t' σ H Q->t σ H Q):PO X e t':=⟨λpins s σ H Q I q=>h.run pins s σ H Q I (k σ H Q q)⟩
theorem Vj:O7 aj X W none bB:=PO.weak po_none λσ H Q ⟨g,ρ,M,I,h⟩=>h H (Ex.refl H)
theorem Wm(ha:QW aj X W a fa):O7 aj X W (some a) (bD fa):=PO.weak (po_some ha) λσ H Q ⟨g,ρ,M,I,h⟩=>by
 refine tW.go I h.bnd λd v H1 h1 e1 r1=>?_;have h1:=h1.bnd;unfold lV at h1;split at h1
 .exact⟨_,aP r1,h1 H1 e1⟩
 .exact agn h1
theorem abb{lo hi:Option Expr}{fl fh:QO}(ha:QW aj X W a fa)(hl:O7 aj X W lo fl)(hh:O7 aj X W hi fh):QE aj X W (.Subscript a (.Slice lo hi none p2) pos) (eZ fa fl fh):=
 PE.weak (pe_slice abS ha hl hh) λσ H Q ⟨g,ρ,M,I,h⟩=>by
  refine tW.go I h.bnd λd v H1 h1 e1 r1=>?_;have I1:=I.ex e1;refine⟨g,ρ,M,I1,h1.bnd.mono (λl h2 H2 e2=>?_) λ_ z=>z.ex e1⟩;have I2:=I1.ex e2;refine⟨g,ρ,M,I2,h2.bnd.mono (λu h3 H3 e3=>?_) λ_ z=>(z.ex e1).ex e2⟩;exact aa7 (I2.ex e3).kd ((r1.ex e2 I1.kd).ex e3 I2.kd) (h3.mono (λz hz v' H' e' r'=>hz v' H' (((e1.trans e2).trans e3).trans e') r') λ_ z=>z)
end
def qp(aj:aA)(K:afr)(W:WX)(o:Dat->Out Dat)(r:List V->Hp->VK->Prop):Prop:=∀(σ:L2.St) (g:Gh) (H:Hp) (x:V) (d:Dat) (Q:VK),Kd g H->bF K g H x d->
 (o d).sat (λz=>∀v H',Ex H H'->Rep K g H' v z->Q v H') (gR K aj W g H σ)->r [x] H Q
def Uh(aj:aA)(K:afr)(W:WX)(o:Dat->Dat->Out Dat)(r:List V->Hp->VK->Prop):Prop:=∀(σ:L2.St) (g:Gh) (H:Hp) (x y:V) (d e:Dat) (Q:VK),Kd g H->bF K g H x d->bF K g H y e->
 (o d e).sat (λz=>∀v H',Ex H H'->Rep K g H' v z->Q v H') (gR K aj W g H σ)->r [x,y] H Q
def BV(f:Value)(x:Str):Prop:=bootBuiltins x=some f/\x≠"__name__"/\(x==("__debug__" : Str))=false
def nst:Expr->Bool
 |.Starred _ _=>false
 |_=>true
section
variable{X:Cx}{aj:aA}{W:WX}{a b c:Expr}{fa fb fc:QF}{pos p:Pos}{x:Str}
theorem aM{env:PySem.Env}{a:Expr}(h:nst a=true)(es:List Expr):starEach (a::es) env=(false,eval a env)::starEach es env:=by cases a<;>first | rfl | cases h
theorem star_any{env:PySem.Env}{pos:Pos}:∀(es:List Expr),es.all nst=true->(backTo pos (starEach es env)).any (·.1)=false
 |[],_=>by with_unfolding_all rfl
 |a::es,h=>by
  rw[afW,afs]at h;rw[aM h.1];have ih:=star_any (env:=env) (pos:=pos) es h.2;unfold backTo at ih |-
  rw[aft,agg,ih];rfl
theorem T7{f:Value}{id:String}{r:List V->Hp->VK->Prop}{o:Dat->Out Dat}(hf:f=.builtin id\/f=.type id)(hc:CallR X f r)(ho:qp aj X.K W o r)(hg:Gl X x)(hm:X.mg x=none)(hv:BV f x)(ha:QW aj X W a fa)(hs:nst a=true):QE aj X W (.Call (.Name x p) [a] [] pos) (bW o fa):=by
 have h1:=pa_cons ha pa_nil (aM hs []);have key:PE X (.Call (.Name x p) [a] [] pos) (tCB r (tCons (tW X.K aj W fa) tNil)):=by
  rcases hf with rfl|rfl
  .exact pe_callB hc hg hm hv.1 h1 hv.2.1 hv.2.2 (aM hs []) (by with_unfolding_all rfl)
  .exact pe_callTy hc hg hm hv.1 h1 hv.2.1 hv.2.2 (aM hs []) (by with_unfolding_all rfl)
 refine PE.weak key λσ H Q ⟨g,ρ,M,I,h⟩=>?_;refine tW.go I h.bnd λd v H1 h1 e1 r1=>?_;exact ho σ g H1 v d Q (I.kd.ex e1) r1 (h1.mono (λz hz u H' e' r'=>hz u H' (e1.trans e') r') λ_ z=>z.ex e1)
theorem aa4{f:Value}{id:String}{r:List V->Hp->VK->Prop}{o:Dat->Dat->Out Dat}(hf:f=.builtin id\/f=.type id)(hc:CallR X f r)(ho:Uh aj X.K W o r)(hg:Gl X x)(hm:X.mg x=none)(hv:BV f x)(ha:QW aj X W a fa)(hb:QW aj X W b fb)(hs:nst a=true)(hs2:nst b=true):QE aj X W (.Call (.Name x p) [a,b] [] pos) (aq o fa fb):=by
 have h1:=pa_cons ha (pa_cons hb pa_nil (aM hs2 [])) (aM hs [b]);have key:PE X (.Call (.Name x p) [a,b] [] pos) (tCB r (tCons (tW X.K aj W fa) (tCons (tW X.K aj W fb) tNil))):=by
  rcases hf with rfl|rfl
  .exact pe_callB hc hg hm hv.1 h1 hv.2.1 hv.2.2 (aM hs [b]) (star_any [b] (by simp[hs2]))
  .exact pe_callTy hc hg hm hv.1 h1 hv.2.1 hv.2.2 (aM hs [b]) (star_any [b] (by simp[hs2]))
 refine PE.weak key λσ H Q ⟨g,ρ,M,I,h⟩=>?_;refine tW.go I h.bnd λd v H1 h1 e1 r1=>?_;have I1:=I.ex e1;refine tW.go I1 (h1.bnd.mono (λ_ z=>z) λ_ z=>z.ex e1) λd2 v2 H2 h2 e2 r2=>?_;exact ho σ g H2 v v2 d d2 Q (I1.ex e2).kd (r1.ex e2 I1.kd) r2 (h2.mono (λz hz u H' e' r'=>hz u H' ((e1.trans e2).trans e') r') λ_ z=>(z.ex e1).ex e2)
end
def dh:Dat->Out Dat
 |.list ds=>.ok (.int ds.length)
 |.tuple ds=>.ok (.int ds.length)
 |.str x=>Out.when (decide (x.length<=100000)) (.ok (.int x.length))
 |_=>.bad
def yV:Dat->Out Dat
 |.int i=>.ok (.int (if i<0 then -i else i))
 |_=>.bad
def uY:Dat->Dat->Out Dat
 |.int i,.int j=>.ok (.int (if j>i then j else i))
 |_,_=>.bad
def Cr:Dat->Dat->Out Dat
 |.int i,.int j=>.ok (.int (if j<i then j else i))
 |_,_=>.bad
def intsOf:List Dat->Option (List Int)
 |[]=>some []
 |.int i::r=>(intsOf r).map (i::·)
 |_::_=>none
def jk:List Dat->Option (List Bool)
 |[]=>some []
 |.bool i::r=>(jk r).map (i::·)
 |_::_=>none
theorem qI{K:afr}{g:Gh}{H:Hp}:∀{us:List V} {ds:List Dat} {ns:List Int},au K g H us ds->intsOf ds=some ns->us=ns.map V.int
 |_,_,ns,.nil,e=>by cases e;rfl
 |_,_,ns,.cons (d:=d) (ds:=ds) h t,e=>by
  cases d with
  |int i=>
   rw[intsOf]at e;cases hr:intsOf ds with
   |none=>rw[hr]at e;cases e
   |some r=>
    rw[hr]at e;cases e;cases h;rw[qI t hr];rfl
  |_=>cases e
theorem sV{K:afr}{g:Gh}{H:Hp}:∀{us:List V} {ds:List Dat} {ns:List Bool},au K g H us ds->jk ds=some ns->us=ns.map V.bl
 |_,_,ns,.nil,e=>by cases e;rfl
 |_,_,ns,.cons (d:=d) (ds:=ds) h t,e=>by
  cases d with
  |bool i=>
   rw[jk]at e;cases hr:jk ds with
   |none=>rw[hr]at e;cases e
   |some r=>
    rw[hr]at e;cases e;cases h;rw[sV t hr];rfl
  |_=>cases e
@[simp]theorem aaI (ns:List Int):intsOf (ns.map PyData.int)=some ns:=by
 induction ns with
 |nil=>rfl
 |cons n ns ih=>rw[aft,intsOf,ih];rfl
@[simp]theorem oO (ns:List Bool):jk (ns.map PyData.bool)=some ns:=by
 induction ns with
 |nil=>rfl
 |cons n ns ih=>rw[aft,jk,ih];rfl
def Ri:Dat->Out Dat
 |.list ds=>match intsOf ds with
  |some ns=>.ok (.int ns.sum)
  |none=>.bad
 |_=>.bad
def tR:Int->List Int->Int
 |m,[]=>m
 |m,n::ns=>tR (if n>m then n else m) ns
theorem Af:∀(ns:List Int) (m:Int),(tR m ns∈m::ns)/\∀y∈m::ns,y<=tR m ns
 |[],m=>⟨by simp[tR],λy h=>by simp at h;subst h;exact Int.le_refl _⟩
 |n::ns,m=>by
  obtain⟨h1,h2⟩:=Af ns (if n>m then n else m);have hm:m<=(if n>m then n else m):=by split<;>omega
  have hn:n<=(if n>m then n else m):=by split<;>omega
  have h3:=h2 _ afv;refine⟨?_,λy hy=>?_⟩
  .show tR (if n>m then n else m) ns∈_;rcases afD.mp h1 with e|e
   .rw[e];split
    .exact afu _ afv
    .exact afv
   .exact afu _ (afu _ e)
  .show y<=tR (if n>m then n else m) ns;rcases afD.mp hy with e|hy
   .omega
   .rcases afD.mp hy with e|hy
    .omega
    .exact h2 y (afu _ hy)
def maxD:Dat->Out Dat
 |.list ds=>match intsOf ds with
  |some (n::ns)=>.ok (.int (tR n ns))
  |_=>.bad
 |_=>.bad
def vD:Dat->Out Dat
 |.list ds=>match jk ds with
  |some bs=>.ok (.bool (bs.all id))
  |none=>.bad
 |_=>.bad
def FT:Dat->Out Dat
 |.list ds=>match jk ds with
  |some bs=>.ok (.bool (bs.any id))
  |none=>.bad
 |_=>.bad
def jd:Dat->Out Dat
 |.list ds=>.ok (.tuple ds)
 |.tuple ds=>.ok (.tuple ds)
 |_=>.bad
def wM:Dat->Out Dat
 |.list ds=>.ok (.list ds)
 |.tuple ds=>.ok (.list ds)
 |_=>.bad
def intD:Dat->Out Dat
 |.int i=>.ok (.int i)
 |.bool k=>.ok (.int (if k then 1 else 0))
 |.str x=>Out.when (decide (x.length<=640)) (match PySem.intText? x with
  |some n=>.ok (.int n)
  |none=>.bad)
 |_=>.bad
def qX:Dat->Out Dat
 |.int i=>Out.when (decide (i.natAbs.log2<1920)) (.ok (.str (toString i)))
 |_=>.bad
def Tq(K:afr):List V->Hp->VK->Prop:=λxs H Q=>(∃p ys,xs=[.ref p]/\(SqL K H p ys\/SqT K H p ys)/\Q (.int ys.length) H)\/∃z,xs=[.str z]/\z.length<=sizeLine/\Q (.int z.length) H
theorem YT{X:Cx}:CallR X (.builtin "len") (Tq X.K):=λpins s σ H xs us Q I r h=>h.elim (λh=>call_len_seq pins s σ H xs us Q I r h) λh=>call_len_str pins s σ H xs us Q I r h
def Uc:List V->Hp->VK->Prop:=λxs H Q=>((∃i,xs=[.int i]/\Q (.int i) H)\/∃k,xs=[.bl k]/\Q (.int (if k then 1 else 0)) H)\/∃a n,xs=[.str a]/\PySem.intText? a=some n/\a.length<=640/\Q (.int n) H
theorem ZQ{X:Cx}:CallR X (.type "int") Uc:=λpins s σ H xs us Q I r h=>h.elim (λh=>call_int1 pins s σ H xs us Q I r h) λh=>call_int_str pins s σ H xs us Q I r h
section
variable{K:afr}{aj:aA}{W:WX}
theorem Xw:qp aj K W dh (Tq K):=λσ g H x d Q k rx h=>by
 unfold dh at h;split at h
 .obtain⟨p,us,rfl,h1,h2⟩:=bZ rx;rw[<-h2.length]at h;exact .inl ⟨p,us,rfl,.inl h1,h _ H (Ex.refl H) (.int _)⟩
 .obtain⟨p,us,rfl,h1,h2⟩:=dG rx;rw[<-h2.length]at h;exact .inl ⟨p,us,rfl,.inr h1,h _ H (Ex.refl H) (.int _)⟩
 .obtain⟨hz,h⟩:=h.dI;cases bR rx;exact .inr ⟨_,rfl,sz_of (agp hz),h _ H (Ex.refl H) (.int _)⟩
 .exact agn h
theorem aaq:qp aj K W yV (λxs H Q=>∃i,xs=[.int i]/\Q (.int (if i<0 then -i else i)) H):=λσ g H x d Q k rx h=>by
 unfold yV at h;split at h
 .cases aP rx;exact⟨_,rfl,h _ H (Ex.refl H) (.int _)⟩
 .exact agn h
theorem Vv:Uh aj K W uY (λxs H Q=>∃i j,xs=[.int i,.int j]/\Q (.int (if j>i then j else i)) H):=λσ g H x y d e Q k rx ry h=>by
 unfold uY at h;split at h
 .cases aP rx;cases aP ry;exact⟨_,_,rfl,h _ H (Ex.refl H) (.int _)⟩
 .exact agn h
theorem VP:Uh aj K W Cr (λxs H Q=>∃i j,xs=[.int i,.int j]/\Q (.int (if j<i then j else i)) H):=λσ g H x y d e Q k rx ry h=>by
 unfold Cr at h;split at h
 .cases aP rx;cases aP ry;exact⟨_,_,rfl,h _ H (Ex.refl H) (.int _)⟩
 .exact agn h
theorem Yr:qp aj K W Ri (rSum K):=λσ g H x d Q k rx h=>by
 unfold Ri at h;split at h
 .split at h
  .next ns e=>
   obtain⟨p,us,rfl,h1,h2⟩:=bZ rx;have:=qI h2 e;subst this;exact⟨p,ns,rfl,h1,h _ H (Ex.refl H) (.int _)⟩
  .exact agn h
 .exact agn h
theorem YW:qp aj K W maxD (rMax K):=λσ g H x d Q k rx h=>by
 unfold maxD at h;split at h
 .split at h
  .next n ns e=>
   obtain⟨p,us,rfl,h1,h2⟩:=bZ rx;have:=qI h2 e;subst this;obtain⟨m1,m2⟩:=Af ns n;refine⟨p,n::ns,rfl,h1,by simp,λm hm hy=>?_⟩;have e2:m=tR n ns:=Int.le_antisymm (m2 m hm) (hy _ m1);rw[e2];exact h _ H (Ex.refl H) (.int _)
  .exact agn h
 .exact agn h
theorem Xu:qp aj K W vD (rAll K):=λσ g H x d Q k rx h=>by
 unfold vD at h;split at h
 .split at h
  .next ns e=>
   obtain⟨p,us,rfl,h1,h2⟩:=bZ rx;have:=sV h2 e;subst this;exact⟨p,ns,rfl,h1,h _ H (Ex.refl H) (.bl _)⟩
  .exact agn h
 .exact agn h
theorem YQ:qp aj K W FT (rAny K):=λσ g H x d Q k rx h=>by
 unfold FT at h;split at h
 .split at h
  .next ns e=>
   obtain⟨p,us,rfl,h1,h2⟩:=bZ rx;have:=sV h2 e;subst this;exact⟨p,ns,rfl,h1,h _ H (Ex.refl H) (.bl _)⟩
  .exact agn h
 .exact agn h
theorem Rv:qp aj K W jd (λxs H Q=>∃p ys,xs=[.ref p]/\((SqL K H p ys/\∀l,H l=none->Q (.ref l) (upd H l (.tup ys)))\/(SqT K H p ys/\Q (.ref p) H))):=λσ g H x d Q k rx h=>by
 unfold jd at h;split at h
 .obtain⟨p,us,rfl,h1,h2⟩:=bZ rx;exact⟨p,us,rfl,.inl ⟨h1,λl nl=>h _ _ (Ex.new nl) (.tup (st_of agu) (h2.ex (Ex.new nl) k))⟩⟩
 .obtain⟨p,us,rfl,h1,h2⟩:=dG rx;exact⟨p,us,rfl,.inr ⟨h1,h _ H (Ex.refl H) (.tup h1 h2)⟩⟩
 .exact agn h
theorem Vu:qp aj K W wM (λxs H Q=>∃p ys,xs=[.ref p]/\(SqL K H p ys\/SqT K H p ys)/\∀l,H l=none->Q (.ref l) (upd H l (.lst ys))):=λσ g H x d Q k rx h=>by
 unfold wM at h;split at h
 .obtain⟨p,us,rfl,h1,h2⟩:=bZ rx;exact⟨p,us,rfl,.inl h1,λl nl=>h _ _ (Ex.new nl) (.lst (.inl ⟨.inl agu,k.fresh nl⟩) (h2.ex (Ex.new nl) k))⟩
 .obtain⟨p,us,rfl,h1,h2⟩:=dG rx;exact⟨p,us,rfl,.inr h1,λl nl=>h _ _ (Ex.new nl) (.lst (.inl ⟨.inl agu,k.fresh nl⟩) (h2.ex (Ex.new nl) k))⟩
 .exact agn h
theorem Y5:qp aj K W intD Uc:=λσ g H x d Q k rx h=>by
 unfold intD at h;split at h
 .cases aP rx;exact .inl (.inl ⟨_,rfl,h _ H (Ex.refl H) (.int _)⟩)
 .cases oV rx;exact .inl (.inr ⟨_,rfl,h _ H (Ex.refl H) (.int _)⟩)
 .obtain⟨hz,h⟩:=h.dI;split at h
  .next n e=>
   cases bR rx;exact .inr ⟨_,n,rfl,e,agp hz,h _ H (Ex.refl H) (.int _)⟩
  .exact agn h
 .exact agn h
theorem Ys:qp aj K W qX (λxs H Q=>∃i,xs=[.int i]/\i.natAbs.log2<1920/\Q (.str (toString i)) H):=λσ g H x d Q k rx h=>by
 unfold qX at h;split at h
 .obtain⟨hz,h⟩:=h.dI;cases aP rx;exact⟨_,rfl,agp hz,h _ H (Ex.refl H) (.str _)⟩
 .exact agn h
end
inductive uo where
 |int|bool|str|tuple|list
def uo.name:uo->String
 |.int=>"int"
 |.bool=>"bool"
 |.str=>"str"
 |.tuple=>"tuple"
 |.list=>"list"
def eG(t:uo):Dat->Option Bool
 |.none=>some false
 |.int _=>some (match t with
  |.int=>true
  |_=>false)
 |.bool _=>some (match t with
  |.int=>true
  |.bool=>true
  |_=>false)
 |.str _=>some (match t with
  |.str=>true
  |_=>false)
 |.tuple _=>some (match t with
  |.tuple=>true
  |_=>false)
 |.list _=>some (match t with
  |.list=>true
  |_=>false)
 |.dict _=>none
def cD(t:uo)(d:Dat):Out Dat:=match eG t d with
 |some b=>.ok (.bool b)
 |none=>.bad
def Sd:Dat->String
 |.none=>"NoneType"
 |.int _=>"int"
 |.bool _=>"bool"
 |.str _=>"str"
 |.tuple _=>"tuple"
 |.list _=>"list"
 |.dict _=>"dict"
theorem Xh{K:afr}{H:Hp}{a:Addr}{xs:List V}(h:SqL K H a xs):TyX K H (.ref a) (.type "list"):=by
 rcases h with(h|⟨o,h⟩)|⟨o,its,n,h1,h2,_⟩
 .exact .base (.lst h)
 .exact .base (.frz h)
 .exact .kList h1 h2
theorem ZK{K:afr}{H:Hp}{a:Addr}{xs:List V}(h:SqT K H a xs):TyX K H (.ref a) (.type "tuple"):=by
 rcases h with(h|⟨o,h⟩)|⟨o,its,n,h1,h2,_⟩
 .exact .base (.tup h)
 .exact .fTuple h
 .exact .kTuple h1 h2
theorem aau{K:afr}{g:Gh}{H:Hp}{x:V}{d:Dat}(h:bF K g H x d)(hd:∀kv,d≠.dict kv):TyX K H x (.type (Sd d)):=by
 cases d with
 |none=>cases qw h;exact .base .non
 |bool b=>cases oV h;exact .base (.bl _)
 |int b=>cases aP h;exact .base (.int _)
 |str b=>cases bR h;exact .base (.str _)
 |list b=>obtain⟨a,us,rfl,h1,_⟩:=bZ h;exact Xh h1
 |tuple b=>obtain⟨a,us,rfl,h1,_⟩:=dG h;exact ZK h1
 |dict kv=>exact absurd rfl (hd kv)
theorem Wz{K:afr}{t:uo}{d:Dat}{b:Bool}(h:eG t d=some b):PySem.W.kitOne K (.type (Sd d)) (.type t.name)=some b/\∀kv,d≠.dict kv:=by
 cases d with
 |dict kv=>cases h
 |_=>cases t<;>cases h<;>exact⟨kit_ty (by dsimp only[Sd,uo.name];decide +kernel),λ_ z=>nomatch z⟩
def iK(t:uo)(a:QF):QF:=bW (cD t) a
section
variable{X:Cx}{aj:aA}{W:WX}{a b:Expr}{fa:QF}{pos p p2:Pos}{x y:Str}
theorem Xb{t:uo}(hg:Gl X x)(hm:X.mg x=none)(hv:BV (.builtin "isinstance") x)(hg2:Gl X y)(hm2:X.mg y=none)(hv2:BV (.type t.name) y)(ha:QW aj X W a fa)(hs:nst a=true):QE aj X W (.Call (.Name x p) [a,.Name y p2] [] pos) (iK t fa):=by
 have hb:PE X (.Name y p2) (tC (.ty t.name)):=pe_bltn hg2 hm2 hv2.1 rfl hv2.2.1 hv2.2.2;have h1:=pa_cons ha (pa_cons hb pa_nil (aM (a:=.Name y p2) rfl [])) (aM hs [.Name y p2]);have key:=pe_callB (pos:=pos) (p:=p) call_isi hg hm hv.1 h1 hv.2.1 hv.2.2 (aM hs [.Name y p2]) (star_any [.Name y p2] rfl);refine PE.weak key λσ H Q ⟨g,ρ,M,I,h⟩=>?_;refine tW.go I h.bnd λd v H1 h1 e1 r1=>?_;unfold cD at h1;split at h1
 .next bb e=>
  obtain⟨k1,k2⟩:=Wz (K:=X.K) e;exact⟨v,_,_,_,bb,rfl,.ty _,aau r1 k2,k1,h1 _ H1 e1 (.bl _)⟩
 .exact agn h1
end
inductive Src where
 |lst (a:Addr)|tup (a:Addr)|str (x:Str)
def chars(x:Str):List V:=x.cps.toList.map λc=>V.str ⟨#[c]⟩
def Src.sq(K:afr)(H:Hp)(us:List V):Src->Prop
 |.lst a=>SqL K H a us
 |.tup a=>SqT K H a us
 |.str x=>us=chars x
def Src.it(h:Heap)(i:Addr)(n:Nat):Src->Prop
 |.lst a=>h.IsListIter i a n
 |.tup a=>h.IsTupleIter i a n
 |.str x=>∃t,h.IsStrIter i (strIterType x) x t n
def Src.ad:Src->List Addr
 |.lst a=>[a]
 |.tup a=>[a]
 |.str _=>[]
section
variable{X:Cx}{pins:List (Addr×Obj)}{σ:L2.St}{H:Hp}{s:Shared}
theorem Src.inj{S:Src}{us ws:List V}(I:L2.Inv X pins σ H s)(h:S.sq X.K H us)(h':S.sq X.K H ws):us=ws:=by
 cases S with
 |lst a=>exact I.list_inj h h'
 |tup a=>exact I.tuple_inj h h'
 |str x=>exact Eq.trans h (Eq.symm h')
theorem Src.draws{S:Src}{us:List V}{i:Addr}{n:Nat}(I:L2.Inv X pins σ H s)(hA:X.A.handled=none)(hs:S.sq X.K H us)(hi:S.it s.heap i n)(hne:∀a∈S.ad,a≠i) :
  ∃(P:Nat->Value->Prop) (St:Nat->Heap->Prop),Draws X.prog X.w X.A.in1 i (i::S.ad) us.length P St/\St n s.heap/\(∀m h,St m h->S.it h i m)/\∀(m:Nat) (v:Value) (x:V),P m v->us[m]?=some x->RelV x v:=by
 cases S with
 |lst a=>
  obtain⟨its,rv,p,hz⟩:=I.list hs;have hl:=rv.length;have D:=Draws.list (prog:=X.prog) (w:=X.w) (A:=X.A.in1) hA i a (hne a (by simp[Src.ad])) its.toArray;rw[List.size_toArray,<-hl]at D;refine⟨_,_,D,⟨hi,p.isList⟩,λm h z=>z.1,λm v x hv hx=>?_⟩;obtain⟨u,hu,ru⟩:=rv.get hx;have:v=u:=afR (hv.symm.trans (by simpa using hu));rw[this];exact ru
 |tup a=>
  obtain⟨its,rv,p,hz⟩:=I.tuple hs;have hl:=rv.length;have D:=Draws.tuple (prog:=X.prog) (w:=X.w) (A:=X.A.in1) hA i a (hne a (by simp[Src.ad])) its.toArray;rw[List.size_toArray,<-hl]at D;refine⟨_,_,D,⟨hi,p⟩,λm h z=>z.1,λm v x hv hx=>?_⟩;obtain⟨u,hu,ru⟩:=rv.get hx;have:v=u:=afR (hv.symm.trans (by simpa using hu));rw[this];exact ru
 |str x=>
  obtain⟨t,hi⟩:=hi;have hl:us.length=x.cps.size:=by rw[show us=chars x from hs];unfold chars;rw[afy,afQ]
  have D:=Draws.text (prog:=X.prog) (w:=X.w) (A:=X.A.in1) hA i x t;rw[<-hl]at D;refine⟨_,_,D,hi,λm h z=>⟨t,z⟩,λm v y hv hy=>?_⟩;obtain⟨c,u,hc,rfl⟩:=hv;rw[show us=chars x from hs]at hy;unfold chars at hy;rw[afI,af3,hc]at hy;cases hy;exact⟨u,rfl⟩
theorem Src.vf{S:Src}{h:Heap}{i:Addr}{n:Nat}(hi:S.it h i n):∃o,h.get? i=some o/\∀v,o.data≠.cell v:=by
 cases S with
 |lst a=>obtain⟨o,e,_,d⟩:=hi;exact⟨o,e,λv q=>by rw[d]at q;cases q⟩
 |tup a=>obtain⟨o,e,_,d⟩:=hi;exact⟨o,e,λv q=>by rw[d]at q;cases q⟩
 |str x=>obtain⟨t,o,e,_,d⟩:=hi;exact⟨o,e,λv q=>by rw[d]at q;cases q⟩
theorem Src.uV{S:Src}{h h':Heap}{i:Addr}{n:Nat}(hi:S.it h i n)(k:∀o,h.get? i=some o->h'.get? i=some o):S.it h' i n:=by
 cases S with
 |lst a=>exact hi.at k
 |tup a=>exact hi.at k
 |str x=>obtain⟨t,o,e,r⟩:=hi;exact⟨t,o,k o e,r⟩
end
def ItE(K:afr)(S:Src)(k₀:Int):It:=
 ⟨λi H=>∃(us:List V) (x:V),S.sq K H us/\us[i]?=some x,λi H v H'=>∃T x,v=.ref T/\H T=none/\H'=upd H T (.tup [.int (k₀+(i:Int)),x])/\∀us,S.sq K H us->us[i]?=some x,λi H=>∃us:List V,S.sq K H us/\us.length=i⟩
theorem abn{P:Program}{w:World}{K:afr}{elts:List Expr}{kk:Nat}{tpos:Pos}(S:Src)(e i0:Addr)(k₀:Int)(hne:e≠i0)(ha:∀a∈S.ad,e≠a/\a≠i0) :
  Turn P w K (.Tuple elts kk tpos) (ItE K S k₀) [e,i0] e (λi h=>(∃old,IsEnum h e i0 (k₀+(i:Int)) old)/\S.it h i0 i) where
 mem:=by simp
 obj:=λi h st b hb=>by
  obtain⟨⟨old,he⟩,hi⟩:=st;have e':b=e\/b=i0:=by simpa using hb
  rcases e' with z|z
  .rw[z];exact⟨_,he,λv q=>nomatch q⟩
  .rw[z];exact Src.vf hi
 keep:=λi h h' st k=>let⟨⟨old,he⟩,hi⟩:=st;⟨⟨old,k e (by simp) _ he⟩,Src.uV hi λo q=>k i0 (by simp) o q⟩
 item:=by
  intro X hP hw hK hc i pins s σ H E I hf st hg;subst hP hw hK;obtain⟨⟨old,he⟩,hit⟩:=st;obtain⟨us,x,hq,hx⟩:=hg;obtain⟨PP,St,D,st0,stI,rel⟩:=Src.draws I (I.ok.hd hc) hq hit λa z=>(ha a z).2;have hel:e<s.heap.objs.size:=Heap.lt_size he;have hil:i0<s.heap.objs.size:=by obtain⟨_,q,_⟩:=Src.vf hit;exact Heap.lt_size q
  have hin:i<us.length:=(afw.mp hx).1;refine wpAny_pyNext_enum_itemC D he st0 hin hne (λz=>?_) λv h' tk hP ho hst' hT hsz hk=>?_
  .rcases afD.mp z with z|z
   .exact hne z
   .exact(ha e z).1 rfl
  have ru:=rel i v x hP hx;refine⟨_,rfl,wpAny_letOwnedTupleGo_enum (s:={ s with heap:=h',toks:=tk+1 }) ho λh'' he' sb=>?_⟩;have hT2:h''.get? s.heap.objs.size=some { cls:=.type "tuple",data:=.seq #[.int (k₀+(i:Int)) tk,v] }:=(sb.2 _ (Nat.ne_of_gt hel)).trans hT
  have new:ObjOk X.prog X.w (upd H s.heap.objs.size (.tup [.int (k₀+(i:Int)),x])) h'' s.heap.objs.size (.tup [.int (k₀+(i:Int)),x]):=
   ⟨by show 2<=sizeLine;decide,[.int (k₀+(i:Int)) tk,v],.cons ⟨_,rfl⟩ (.cons ru .nil),⟨_,hT2,rfl,_,rfl⟩⟩
  have I1:L2.Inv X pins σ (upd H s.heap.objs.size (.tup [.int (k₀+(i:Int)),x])) { s with heap:=h'',toks:=tk+1 }:=
   I.turnedNew (ch:=[e,i0]) (λb ob hb q=>(sb.2 b (λz=>hb (by simp[z]))).trans (hk b ob (λz=>hb (by simp[z])) (λz=>hb (by simp[z])) q)) hf (afN _) new
  refine⟨.ref s.heap.objs.size,_,I1,rfl,⟨_,x,rfl,I.hok.fresh (afN _),rfl,λys hy=>by rw[Src.inj I hy hq];exact hx⟩,⟨⟨v,?_⟩,Src.uV (stI _ _ hst') λo q=>(sb.2 i0 (Ne.symm hne)).trans q⟩,λb hb=>?_⟩
  .have e1:k₀+((i+1:Nat):Int)=k₀+(i:Int)+1:=by omega
   rw[e1];exact he'
  .have hb':b<s.heap.objs.size:=by
    have e':b=e\/b=i0:=by simpa using hb
    rcases e' with z|z
    .rw[z];exact hel
    .rw[z];exact hil
   rw[upd_ne (afX hb')];exact(hf b hb).1
 done:=by intro X hP hw hK hc i pins s σ H E I hf st hg;subst hP hw hK;obtain⟨⟨old,he⟩,hit⟩:=st;obtain⟨us,hq,hx⟩:=hg;obtain⟨PP,St,D,st0,stI,rel⟩:=Src.draws I (I.ok.hd hc) hq hit λa z=>(ha a z).2;obtain⟨f0,f1,f2,f3,f4,f5⟩:=hf i0 (by simp);rw[<-hx]at st0;exact wpAny_pyNext_enum_endD D he st0 λh' eb=>⟨rfl,I.turned (t':=s.toks) (λb o hb q=>eb b o hb q) f0 f1 f3 f4 f5⟩
 self:=λA i s Q E st h=>let⟨⟨_,he⟩,_⟩:=st;wpAny_pyIter_enum he h
theorem Src.begins{X:Cx}{pins:List (Addr×Obj)}{σ:L2.St}{H:Hp}{s:Shared}{S:Src}{us:List V}{x:V}{v:Value}(I:L2.Inv X pins σ H s)(hs:S.sq X.K H us)(hx:(∃a,x=.ref a/\S.ad=[a]/\(S=.lst a\/S=.tup a))\/∃y,S=.str y/\x=.str y)(r:RelV x v) :
  ∃(o:Obj) (B:Heap->Prop),Begins v o B/\B s.heap/\(∀h i,h.get? i=some o->S.it h i 0)/\∀a∈S.ad,a<s.heap.objs.size:=by
 rcases hx with⟨a,rfl,ha,h|h⟩|⟨y,h,rfl⟩
 .subst h;cases r;obtain⟨its,rv,p,_⟩:=I.list hs;obtain⟨o1,ho1,_⟩:=id p.isList;refine⟨_,_,begins_list a its.toArray,p.isList,λh i e=>⟨_,e,rfl,rfl⟩,λb hb=>?_⟩;rw[ha]at hb;rw[afJ.mp hb];exact Heap.lt_size ho1
 .subst h;cases r;obtain⟨its,rv,p,_⟩:=I.tuple hs;obtain⟨o1,ho1,_⟩:=id p;refine⟨_,_,begins_tuple a its.toArray,p,λh i e=>⟨_,e,rfl,rfl⟩,λb hb=>?_⟩;rw[ha]at hb;rw[afJ.mp hb];exact Heap.lt_size ho1
 .subst h;obtain⟨t,rfl⟩:=r;exact⟨_,_,begins_text y t,agm,λh i e=>⟨t,_,e,rfl,rfl⟩,λb hb=>nomatch hb⟩
def srcOf(x:V)(S:Src):Prop:=(∃a,x=.ref a/\S.ad=[a]/\(S=.lst a\/S=.tup a))\/∃y,S=.str y/\x=.str y
def Yq(K:afr)(ta:TA)(k₀:Int):TI:=λσ H R=>ta σ H λvs H1=>∃x S us,vs=[x]/\srcOf x S/\S.sq K H1 us/\R (ItE K S k₀) H1
section
variable{X:Cx}{a b:Expr}{ta tb:TA}{p pos tpos:Pos}{elts:List Expr}{kk:Nat}
theorem Yw{pins:List (Addr×Obj)}{σ:L2.St}{H:Hp}{s:Shared}(I:L2.Inv X pins σ H s):∀b∈[s.heap.objs.size+1,s.heap.objs.size],FpOk X pins H b:=λb hb=>by
 have e':b=s.heap.objs.size+1\/b=s.heap.objs.size:=by simpa using hb
 have hle:s.heap.objs.size<=b:=by
  rcases e' with z|z
  .rw[z];exact Nat.le_add_right _ _
  .rw[z];exact afN _
 exact I.fpOk hle (I.hok.fresh hle)
theorem Tz{pins:List (Addr×Obj)}{σ:L2.St}{H:Hp}{s:Shared}{S:Src}{us:List V}{x:V}{v:Value}{o:Obj}{k₀:Int}{R:It->Hp->Prop}{h':Heap}(I:L2.Inv X pins σ H s)(hlt:∀a∈S.ad,a<s.heap.objs.size)(hit:∀h i,h.get? i=some o->S.it h i 0)
  (he:IsEnum h' (s.heap.objs.size+1) s.heap.objs.size k₀ .none) (ho:h'.get? s.heap.objs.size=some o) (hk:∀b o,s.heap.get? b=some o->h'.get? b=some o) (q:R (ItE X.K S k₀) H) :
  wpAny (model X.prog X.w) X.A (pyIter (.ref (s.heap.objs.size+1))) (PIE X pins σ (.Tuple elts kk tpos) R) X.xe { s with heap:=h' }:=by
 refine wpAny_pyIter_enum he ?_;have I2:L2.Inv X pins σ H { s with heap:=h' }:=I.kept (t':=s.toks) hk;refine⟨s.heap.objs.size+1,[s.heap.objs.size+1,s.heap.objs.size],_,_,H,rfl,I2,abn S (s.heap.objs.size+1) s.heap.objs.size k₀ (Nat.succ_ne_self _) (λa z=>?_),⟨⟨.none,?_⟩,hit _ _ ho⟩,Yw I,q⟩
 .have:=hlt a z;exact⟨Nat.ne_of_gt (aga this),afX this⟩
 .rw[show k₀+((0:Nat):Int)=k₀ by simp];exact he
theorem Rk{v:Value}{o:Obj}{B:Heap->Prop}(hB:Begins v o B) :
  Meets (Builtin.«enumerate.__new__» ⟨[.type "enumerate",v],[]⟩) (λ_ R s=>B s.heap/\
   R (.ok (.ret (.ref (s.heap.push o).objs.size))) { s with heap:=(s.heap.push o).push { cls:=.type "enumerate",data:=.fields #[.none,.bool false,.ref s.heap.objs.size,rawInt 0,.none,.none] } }):=
 .of_wp λprog w A R s hh=>by
  obtain⟨hp,gs,dr,tk,os⟩:=s;obtain⟨hb,hr⟩:=hh;have hsub:=sub_enumerate;have qi:∀{A':Around} {E:Value->Shared->Prop} {Q:Value->Shared->Prop},Q (.ref hp.objs.size) ⟨hp.push o,gs,dr,tk,os⟩->wpAny (model prog w) A' (pyIter v) Q E ⟨hp,gs,dr,tk,os⟩:=λz=>hB.iter prog w _ _ ⟨hp,gs,dr,tk,os⟩ _ hb z
  wp_walk using qi
  refine wpAny_stack_any λst=>agr ?_;split
  .next c _ _ _ _ _=>
   cases(c==Value.type "enumerate")<;>(wp_walk using qi;exact⟨_,rfl,hr⟩)
  .wp_walk using qi
   exact⟨_,rfl,hr⟩
theorem MK{prog:Program}{w:World}{A:Around}{E:Value->Shared->Prop}{s:Shared}{v:Value}{o:Obj}{B:Heap->Prop}{Q:Value->Shared->Prop}(hB:Begins v o B)(hb:B s.heap)
  (h:∀h',IsEnum h' (s.heap.objs.size+1) s.heap.objs.size 0 .none->h'.get? s.heap.objs.size=some o->(∀b o,s.heap.get? b=some o->h'.get? b=some o)->Q (.ref (s.heap.objs.size+1)) { s with heap:=h' }) :
  wpAny (model prog w) A (call (.type "enumerate") [v]) Q E s:=by
 refine callType_new F.called_enumerate (by decide) (F.typeCall_enumerate_1 _) (F.newCall_enumerate_1 _) (λob=>F.args_object_init_2 ob _) F.entry_enumerate_new (Rk hB) ⟨hb,?_⟩;have hz:(s.heap.push o).objs.size=s.heap.objs.size+1:=Heap.size_push ..;have he:=Heap.get?_push_size (s.heap.push o) (o:={ cls:=.type "enumerate",data:=.fields #[.none,.bool false,.ref s.heap.objs.size,rawInt 0,.none,.none] }) rfl
 show _/\_;rw[hz]at he |-
 exact⟨⟨_,he,rfl⟩,h _ he (Heap.get?_push_of_some _ (Heap.get?_push_size _ hB.free)) λb u z=>Heap.get?_push_of_some _ (Heap.get?_push_of_some _ z)⟩
theorem aa5(hg:Gl X "enumerate")(hm:X.mg "enumerate"=none)(ha:PA X [a] ta)(hs:nst a=true):PI X (.Tuple elts kk tpos) (.Call (.Name "enumerate" p) [a] [] pos) (Yq X.K ta 0):=by refine⟨λpins s σ H R I h=>?_⟩;refine Call_ (ld_blt I hg hm boot_enumerate (PyProof.Rows.callWith_type1 (thn (ha.run pos pins s σ H _ I h) λus s1 ⟨vs,H1,I1,r1,x,S,us',ev,hx,hq,q⟩=>?_) (aM hs []) (by with_unfolding_all rfl)));subst ev;obtain⟨v,rfl,r⟩:=vals1 r1;obtain⟨o,B,hB,hb,hit,hlt⟩:=Src.begins I1 hq hx r;exact MK hB hb λh' he ho hk=>Tz (x:=x) (v:=v) (us:=us') I1 hlt hit he ho hk q
theorem Nz{M:Model}{A:Around}{E:Value->Shared->Prop}{s:Shared}{pos:Pos}{T:String}{args:List (Bool×Sem Value)}{kws:List (Option Str×Sem Value)}{Q:Value->Shared->Prop}(h1:args.any (·.1)=false)(h2:kws.any (·.1.isNone)=false)
  (h:wpAny M A (evalArgs (.type T) true args kws) (λz s₁=>wpAny M A (call (.type T) z.pos z.kw) Q E s₁) E s):wpAny M A (callWith pos (.type T) [] args kws) Q E s:=by
 unfold callWith;refine agq (wpAny_holding (wpAny_mono h (λz s₁ hz=>agq (wpAny_standAt ?_)) λ_ _ y=>y));rw[h1,h2];refine agq (agr ?_);exact agq (wpAny_mono hz (λr s₂ hr=>agq (wpAny_holding (wpAny_point (agr hr)))) λ_ _ y=>y)
theorem XD{k₀:Int}{j:Nat}{kp kp2:Pos}(hk0 : -(2^63)<=k₀)(hk1:k₀<2^63)(hg:Gl X "enumerate")(hm:X.mg "enumerate"=none)(ha:PA X [a] ta)(hs:nst a=true) :
  PI X (.Tuple elts kk tpos) (.Call (.Name "enumerate" p) [a] [⟨some "start",.Constant (.int k₀) j kp,kp2⟩] pos) (Yq X.K ta k₀):=by
 refine⟨λpins s σ H R I h=>?_⟩;have hpk:PK X [⟨some "start",.Constant (.int k₀) j kp,kp2⟩] (tCons (tC (.int k₀)) tNil):=pk_cons pe_int pk_nil
 refine wpAny_Call_Name_kw (ld_blt I hg hm boot_enumerate (Nz (star_any [a] (by simp[hs])) (by with_unfolding_all rfl) ?_));refine PyProof.Rows.evalArgs_kw2 (by with_unfolding_all rfl) (thn (ha.run pos pins s σ H _ I h) λus s1 ⟨vs,H1,I1,r1,x,S,us',ev,hx,hq,q⟩=>?_) (by first | (rw[aM hs];done) | (rw[aM hs];rfl) | rw[aM hs]);refine thn (hpk.run pos pins s1 σ H1 (λzs H2=>zs=[.int k₀]/\H2=H1) I1 ⟨rfl,rfl⟩) λws s2 ⟨zs,H2,I2,r2,e1,e2⟩=>?_;subst ev e1 e2;obtain⟨v,rfl,r⟩:=vals1 r1;obtain⟨w,rfl,t,rfl⟩:=vals1 r2;obtain⟨o,B,hB,hb,hit,hlt⟩:=Src.begins I2 hq hx r;exact enum_begins_start hB hb hk0 hk1 λh' he ho _ hk=>Tz (x:=x) (v:=v) (us:=us') I2 hlt hit he ho hk q
def Yj(K:afr)(S T:Src):It:=
 ⟨λi H=>∃(us ws:List V) (x y:V),S.sq K H us/\T.sq K H ws/\us[i]?=some x/\ws[i]?=some y,λi H v H'=>∃U x y,v=.ref U/\H U=none/\H'=upd H U (.tup [x,y])/\(∀us,S.sq K H us->us[i]?=some x)/\∀ws,T.sq K H ws->ws[i]?=some y,
  λi H=>∃us ws:List V,S.sq K H us/\T.sq K H ws/\i=min us.length ws.length⟩
theorem aaU{P:Program}{w:World}{K:afr}{S T:Src}{N:Addr}(h1:∀a∈S.ad,a<N)(h2:∀a∈T.ad,a<N) :
  Turn P w K (.Tuple elts kk tpos) (Yj K S T) [N+4,N+2,N+3,N,N+1] (N+4) (λn h=>IsZip h (N+4) (N+2) (N+3) .none/\IsPair h (N+2) (.ref N) (.ref (N+1))/\(∃x y,IsPair h (N+3) x y)/\S.it h N n/\T.it h (N+1) n) where
 mem:=by simp
 obj:=λn h q c hc=>by
  obtain⟨gz,gI,⟨x,y,gO⟩,i1,i2⟩:=q;simp only[afD,afS,or_false]at hc;rcases hc with rfl|rfl|rfl|rfl|rfl
  .exact⟨_,gz,λv q=>nomatch q⟩
  .exact⟨_,gI,λv q=>nomatch q⟩
  .exact⟨_,gO,λv q=>nomatch q⟩
  .exact Src.vf i1
  .exact Src.vf i2
 keep:=λn h h' q k=>by
  obtain⟨gz,gI,⟨x,y,gO⟩,i1,i2⟩:=q;exact⟨k _ (by simp) _ gz,k _ (by simp) _ gI,⟨x,y,k _ (by simp) _ gO⟩,Src.uV i1 λo e=>k _ (by simp) o e,Src.uV i2 λo e=>k _ (by simp) o e⟩
 item:=by
  intro X hP hw hK hc n pins s σ H E I hf q hg;subst hP hw hK;obtain⟨gz,gI,⟨x0,y0,gO⟩,i1,i2⟩:=q;obtain⟨us,ws,x,y,qx,qy,hx,hy⟩:=hg;obtain⟨P1,St1,D1,st1,b1,rel1⟩:=Src.draws I (I.ok.hd hc) qx i1 λa z=>afX (h1 a z);obtain⟨P2,St2,D2,st2,b2,rel2⟩:=Src.draws I (I.ok.hd hc) qy i2 λa z=>afX (aga (h2 a z));have hzl:N+4<s.heap.objs.size:=Heap.lt_size gz;refine wpAny_pyNext_zipD2_item (zip_sep2 h1 h2) D1 D2 gz gI gO st1 st2 (afw.mp hx).1 (afw.mp hy).1 λv1 v2 h' tk p1 p2 z' o' s1 s2 hT hsz hk=>?_;refine⟨_,rfl,wpAny_letOwnedTupleGo_zip (s:={ s with heap:=h',toks:=tk }) z' λh'' z'' sb=>?_⟩;have hT2:=(sb.2 _ (Nat.ne_of_gt hzl)).trans hT;have new:ObjOk X.prog X.w (upd H s.heap.objs.size (.tup [x,y])) h'' s.heap.objs.size (.tup [x,y]):=⟨by show 2<=sizeLine;decide,[v1,v2],.cons (rel1 n v1 x p1 hx) (.cons (rel2 n v2 y p2 hy) .nil),⟨_,hT2,rfl,_,rfl⟩⟩;have I1:L2.Inv X pins σ (upd H s.heap.objs.size (.tup [x,y])) { s with heap:=h'',toks:=tk }:=by refine I.turnedNew (t':=tk) (ch:=[N+4,N+2,N+3,N,N+1]) (λc o hb e=>?_) hf (afN _) new;simp only[afD,afS,or_false,not_or]at hb;exact(sb.2 c hb.1).trans (hk c o hb.1 hb.2.2.1 hb.2.2.2.1 hb.2.2.2.2 e)
  have ne4:∀k,k≠4->N+k≠N+4:=λk hk z=>hk (agi z);refine⟨.ref s.heap.objs.size,_,I1,rfl,⟨_,x,y,rfl,I.hok.fresh (afN _),rfl,λl hl=>by rw[Src.inj I hl qx];exact hx,λl hl=>by rw[Src.inj I hl qy];exact hy⟩,⟨z'',?_,⟨v1,v2,?_⟩,?_,?_⟩,λc hcm=>?_⟩
  .exact(sb.2 _ (ne4 2 (by decide))).trans (hk _ _ (ne4 2 (by decide)) (λz=>absurd (agi z) (by decide)) (λz=>absurd (agi (z.trans (Nat.add_zero N).symm)) (by decide)) (λz=>absurd (agi z) (by decide)) gI)
  .exact(sb.2 _ (ne4 3 (by decide))).trans o'
  .exact Src.uV (b1 _ _ s1) λo e=>(sb.2 _ (ne4 0 (by decide))).trans e
  .exact Src.uV (b2 _ _ s2) λo e=>(sb.2 _ (ne4 1 (by decide))).trans e
  .have hlt:c<s.heap.objs.size:=by
    simp only[afD,afS,or_false]at hcm;rcases hcm with rfl|rfl|rfl|rfl|rfl
    .exact hzl
    .exact Heap.lt_size gI
    .exact Heap.lt_size gO
    .obtain⟨_,e1,_⟩:=Src.vf i1;exact Heap.lt_size e1
    .obtain⟨_,e2,_⟩:=Src.vf i2;exact Heap.lt_size e2
   rw[upd_ne (afX hlt)];exact(hf c hcm).1
 done:=by intro X hP hw hK hc n pins s σ H E I hf q hg;subst hP hw hK;obtain⟨gz,gI,⟨x0,y0,gO⟩,i1,i2⟩:=q;obtain⟨us,ws,qx,qy,hn⟩:=hg;obtain⟨P1,St1,D1,st1,b1,rel1⟩:=Src.draws I (I.ok.hd hc) qx i1 λa z=>afX (h1 a z);obtain⟨P2,St2,D2,st2,b2,rel2⟩:=Src.draws I (I.ok.hd hc) qy i2 λa z=>afX (aga (h2 a z));refine wpAny_pyNext_zipD2_end (zip_sep2 h1 h2) D1 D2 gz gI gO st1 st2 (by omega) (by omega) (by omega) λh' tk hk=>⟨rfl,?_⟩;refine I.turnedL (t':=tk) (ch:=[N+4,N+2,N+3,N,N+1]) (λc o hb e=>?_) hf;simp only[afD,afS,or_false,not_or]at hb;exact hk c o hb.1 hb.2.2.1 hb.2.2.2.1 hb.2.2.2.2 e
 self:=λA n s Q E q h=>wpAny_pyIter_zip q.1 h
def iZp(K:afr)(ta:TA):TI:=λσ H R=>ta σ H λvs H1=>∃x y S T us ws,vs=[x,y]/\srcOf x S/\srcOf y T/\S.sq K H1 us/\T.sq K H1 ws/\R (Yj K S T) H1
theorem aaY(hg:Gl X "zip")(hm:X.mg "zip"=none)(ha:PA X [a,b] ta)(hs:nst a=true)(hs2:nst b=true):PI X (.Tuple elts kk tpos) (.Call (.Name "zip" p) [a,b] [] pos) (iZp X.K ta):=by
 refine⟨λpins s σ H R I h=>?_⟩;refine Call_ (ld_blt I hg hm PyProof.Rows.boot_zip (PyProof.Rows.callWith_type1 (thn (ha.run pos pins s σ H _ I h) λus s1 ⟨vs,H1,I1,r1,x,y,S,T,us',ws',ev,hx,hy,hq,hq2,q⟩=>?_) (aM hs [b]) (star_any [b] (by simp[hs2]))));subst ev;obtain⟨v1,v2,rfl,rv1,rv2⟩:=vals2 r1;obtain⟨o1,B1,hB1,hb1,hit1,hlt1⟩:=Src.begins I1 hq hx rv1;obtain⟨o2,B2,hB2,hb2,hit2,hlt2⟩:=Src.begins I1 hq2 hy rv2;refine zip_begins2 hB1 hB2 hb1 hb2 λh' hz hTI hTO e1 e2 hsz hk=>wpAny_pyIter_zip hz ?_;have I2:L2.Inv X pins σ H1 { s1 with heap:=h' }:=I1.kept (t':=s1.toks) hk;refine⟨s1.heap.objs.size+4,_,_,_,H1,rfl,I2,aaU hlt1 hlt2,⟨hz,hTI,⟨_,_,hTO⟩,hit1 _ _ e1,hit2 _ _ e2⟩,λc hcm=>?_,q⟩;have hle:s1.heap.objs.size<=c:=by simp only[afD,afS,or_false]at hcm;rcases hcm with rfl | rfl | rfl | rfl | rfl<;>first | exact afN _ | exact Nat.le_add_right _ _
 exact I1.fpOk hle (I1.hok.fresh hle)
end
section
variable{K:afr}{aj:aA}{q:Bool}{g g':Gh}{H H':Hp}{v:V}{d:Dat}{σ:L2.St}{ρ:Env}{M:Mo}
theorem dB.up{l:Addr}:∀{n:Bool} {kvs:List (Dat×Dat)} (r:Gr true g g' H H') (e:Ex H H') (k:Kd g H) (h:dB K aj g H l n kvs),dB K aj g' H' l n kvs
 |false,_,r,e,k,⟨kv,h1,h2,h3⟩=>⟨kv,e _ _ h1,h2,h3.gr r k⟩
 |true,_,r,e,k,⟨o,xs,vs,h1,h2,h3,h4,h5,h6⟩=>⟨o,xs,vs,e _ _ h1,h2,h3,h4.gr r k,h5,h6.gr r k⟩
theorem bH.up{h:Nat}{f:Str}(r:Gr true g g' H H')(e:Ex H H')(k:Kd g H):∀{fl:cQ},bH K aj g H h f v fl->bH K aj g' H' h f v fl
 |.dat _,z=>Rep.gr r k z
 |.lst _ _,⟨l,us,h1,h2,h3,h4,h5⟩=>⟨l,us,h1,e _ _ h2,by rw[(r.qg rfl).2];exact h3,h4.gr r k,r.tb h5⟩
 |.dic _ _,⟨l,h1,h2,h3⟩=>⟨l,h1,by rw[(r.qg rfl).2];exact h2,h3.up r e k⟩
theorem aW.up{h:Nat}(r:Gr true g g' H H')(e:Ex H H')(k:Kd g H):∀{fs:List (Str×V)} {gs:List (Str×cQ)},aW K aj g H h fs gs->aW K aj g' H' h fs gs
 |_,_,.nil=>.nil
 |_,_,.cons z t=>.cons (bH.up r e k z) (aW.up r e k t)
theorem cG.up(r:Gr true g g' H H')(e:Ex H H')(k:Kd g H)(w:cG K aj g H M):cG K aj g' H' M where
 len:=by rw[(r.qg rfl).1];exact w.len
 inj:=by rw[(r.qg rfl).1];exact w.inj
 ins:=λh a i ha hi hc=>by
  rw[(r.qg rfl).1]at ha;obtain⟨C,dx,fs,c1,c2,c3⟩:=w.ins h a i ha hi hc;exact⟨C,dx,fs,c1,e _ _ c2,c3.up r e k⟩
 nd:=w.nd
 fd:=w.fd
 tw:=by rw[(r.qg rfl).1,(r.qg rfl).2];exact w.tw
 dm:=w.dm
 nc:=w.nc
theorem SInv.up(r:Gr true g g' H H')(e:Ex H H')(k':Kd g' H')(I:SInv K aj σ H g ρ M):SInv K aj σ H' g' ρ M where
 kd:=k'
 wok:=I.wok.up r e I.kd
 len:=I.len
 dat:=λi d h=>by
  obtain⟨v,h1,h2⟩:=I.dat i d h;exact⟨v,h1,h2.gr r I.kd⟩
 own:=λi xs h=>by
  obtain⟨l,us,h1,h2,h3,h4⟩:=I.own i xs h;exact⟨l,us,h1,e _ _ h2,r.Lo l h3,h4.gr r I.kd⟩
 sep:=I.sep
def Gh.add(g:Gh)(D:Addr):Gh:={ g with Lo:=λa=>g.Lo a\/a=D }
theorem Gh.pJ{D:Addr}(n:H D=none)(e:Ex H H'):Gr true g (g.add D) H H' where
 keep:=λa o h _ _=>e a o h
 keepW:=λ_ a o h _=>e a o h
 dom:=j7 e
 tbl:=⟨[],by simp[Gh.add]⟩
 W:=λ_ h=>h
 nW:=λ_ h=>.inl h
 qg:=λ_=>⟨rfl,rfl⟩
 Lc:=rfl
 Lo:=λ_ h=>.inl h
 nLo:=λa h=>h.elim .inl λz=>.inr (by rw[z];exact n)
theorem Gh.ZD{D:Addr}{o:HO}(k:Kd g H)(n:H D=none)(e:Ex H H')(hD:H' D=some o)(m:qU o):Kd (g.add D) H' where
 ob:=λa z=>by
  rcases z with z|z|z|z
  .obtain⟨o,h,m⟩:=k.ob a (.inl z);exact⟨o,e a o h,m⟩
  .obtain⟨o,h,m⟩:=k.ob a (.inr (.inl z));exact⟨o,e a o h,m⟩
  .obtain⟨o,h,m⟩:=k.ob a (.inr (.inr z));exact⟨o,e a o h,m⟩
  .rw[z];exact⟨o,hD,m⟩
 lo:=λa z=>by
  rcases z with z|z
  .exact k.lo a z
  .intro w;subst z;exact k.fresh n (.inl w)
 lc:=λa z=>⟨(k.lc a z).1,λy=>y.elim (k.lc a z).2 λy=>by subst y;exact k.fresh n (.inr (.inl z))⟩
theorem SInv.add{D:Addr}{o:HO}(I:SInv K aj σ H g ρ M)(n:H D=none)(e:Ex H H')(hD:H' D=some o)(m:qU o):SInv K aj σ H' (g.add D) ρ M:=
 I.up (Gh.pJ n e) e (Gh.ZD I.kd n e hD m)
theorem SInv.set{j:Nat}(I:SInv K aj σ H g ρ M)(r:Rep K g H v d):SInv K aj (σ.set j (some v)) H g (ρ.set j (some (.dat d))) M where
 kd:=I.kd
 wok:=I.wok
 len:=by rw[afM,afM];exact I.len
 dat:=λi e h=>by
  by_cases z:j=i
  .subst z;have hj:j<ρ.length:=by
    have:=(afw.mp h).1;rw[afM]at this;exact this
   rw[afE hj]at h;cases h;exact⟨v,by rw[afE (by rw[I.len];exact hj)],r⟩
  .rw[afz z]at h;obtain⟨u,h1,h2⟩:=I.dat i e h;exact⟨u,by rw[afz z];exact h1,h2⟩
 own:=λi xs h=>by
  by_cases z:j=i
  .subst z;have hj:j<ρ.length:=by
    have:=(afw.mp h).1;rw[afM]at this;exact this
   rw[afE hj]at h;cases h
  .rw[afz z]at h;obtain⟨l,us,h1,h2⟩:=I.own i xs h;exact⟨l,us,by rw[afz z];exact h1,h2⟩
 sep:=λi k xs ys l ne h1 h2 h3=>by
  have nj:∀{i:Nat} {xs:List Dat},(ρ.set j (some (.dat d)))[i]?=some (some (.mut xs))->j≠i:=λ{i xs} h z=>by
   subst z;have hj:j<ρ.length:=by have:=(afw.mp h).1;rw[afM]at this;exact this
   rw[afE hj]at h;cases h
  have n1:=nj h1;have n2:=nj h2;rw[afz n1]at h1 h3;rw[afz n2]at h2;rw[afz n2];exact I.sep i k xs ys l ne h1 h2 h3
theorem SInv.forget{j:Nat}(I:SInv K aj σ H g ρ M):SInv K aj (σ.set j none) H g (ρ.set j none) M where
 kd:=I.kd
 wok:=I.wok
 len:=by rw[afM,afM];exact I.len
 dat:=λi e h=>by
  by_cases z:j=i
  .subst z;have hj:j<ρ.length:=by
    have:=(afw.mp h).1;rw[afM]at this;exact this
   rw[afE hj]at h;cases h
  .rw[afz z]at h |-
   exact I.dat i e h
 own:=λi xs h=>by
  by_cases z:j=i
  .subst z;have hj:j<ρ.length:=by
    have:=(afw.mp h).1;rw[afM]at this;exact this
   rw[afE hj]at h;cases h
  .rw[afz z]at h |-
   exact I.own i xs h
 sep:=λi k xs ys l ne h1 h2 h3=>by
  have nj:∀{i:Nat} {xs:List Dat},(ρ.set j none)[i]?=some (some (.mut xs))->j≠i:=λ{i xs} h z=>by
   subst z;have hj:j<ρ.length:=by have:=(afw.mp h).1;rw[afM]at this;exact this
   rw[afE hj]at h;cases h
  have n1:=nj h1;have n2:=nj h2;rw[afz n1]at h1 h3;rw[afz n2]at h2;rw[afz n2];exact I.sep i k xs ys l ne h1 h2 h3
def aU(ρ:Env):List Nat->Env
 |[]=>ρ
 |j::js=>(aU ρ js).set j none
theorem SInv.wipe(I:SInv K aj σ H g ρ M):∀vs:List Nat,SInv K aj (L2.wipe σ vs) H g (aU ρ vs) M
 |[]=>I
 |j::js=>(SInv.wipe I js).forget
end
abbrev bY:=Dat->Env->Option Env
def aD(j:Nat):bY:=λd ρ=>some (ρ.set j (some (.dat d)))
def jy:List Nat->List Dat->Env->Option Env
 |[],[],ρ=>some ρ
 |j::js,d::ds,ρ=>jy js ds (ρ.set j (some (.dat d)))
 |_,_,_=>none
def cC(js:List Nat):bY:=λd ρ=>match d with
 |.tuple ds=>jy js ds ρ
 |_=>none
def sets(σ:L2.St):List Nat->List V->L2.St
 |j::js,v::vs=>sets (σ.set j (some v)) js vs
 |_,_=>σ
def lO(K:afr)(aj:aA)(js:List Nat)(f:bY):TG:=λv σ H Q=>∃g ρ M d Z',SInv K aj σ H g ρ M/\Rep K g H v d/\f d ρ=some Z'/\∀vs,SInv K aj (sets σ js vs) H g Z' M->Q (sets σ js vs) H
def QG(aj:aA)(X:Cx)(tg:Expr)(js:List Nat)(f:bY):Prop:=PG X tg (lO X.K aj js f)
theorem PG.weak{X:Cx}{e:Expr}{t t':TG}(h:PG X e t)(k:∀v σ H Q,t' v σ H Q->t v σ H Q):PG X e t':=⟨λpins s σ H v u Q I r q=>h.run pins s σ H v u Q I r (k v σ H Q q)⟩
section
variable{X:Cx}{aj:aA}{pos:Pos}
theorem yK{j:Nat}{x:Str}(hN:X.N.Nodup)(hi:X.N[j]?=some x)(hx:Loc X.env.scope x)(hf:X.fn x=true\/X.env.scope.names.lookup x=some .local):QG aj X (.Name x pos) [j] (aD j):=
 PG.weak (pg_name hN hi hx hf) λv σ H Q ⟨g,ρ,M,d,Z',I,r,e,q⟩=>by
  cases e;exact q [v] (I.set r)
def yw(X:Cx):List Expr->List Nat->Prop
 |[],[]=>True
 |.Name x _::es,j::js=>X.N[j]?=some x/\Loc X.env.scope x/\(X.fn x=true\/X.env.scope.names.lookup x=some .local)/\yw X es js
 |_,_=>False
theorem Rz{es:List Expr}{js:List Nat}(h:yw X es js):(assignEach es X.env).length=js.length/\(assignEach es X.env).findIdx? (·.1)=none:=by
 induction es generalizing js with
 |nil=>
  cases js with
  |nil=>exact⟨by with_unfolding_all rfl,by with_unfolding_all rfl⟩
  |cons j js=>exact agn h
 |cons e es ih=>
  cases js with
  |nil=>cases e<;>exact agn h
  |cons j js=>
   cases e with
   |Name x p=>
    obtain⟨h1,h2⟩:=ih h.2.2.2;have e1:assignEach (.Name x p::es) X.env=(false,assign (.Name x p) X.env)::assignEach es X.env:=by with_unfolding_all rfl
    rw[e1];refine⟨by simp[h1],?_⟩;rw[List.findIdx?_cons,h2];rfl
   |_=>exact agn h
def gNs(js:List Nat):TGs:=λvs σ H Q=>vs.length=js.length/\Q (sets σ js vs) H
theorem z8(hN:X.N.Nodup):∀{es:List Expr} {js:List Nat},yw X es js->PGs X es (gNs js)
 |[],[],_=>⟨λpins s σ H vs us Q I r h=>by
  obtain⟨e,h⟩:=h;have:vs=[]:=List.length_eq_zero_iff.mp e;subst this;exact pgs_nil.run pins s σ H [] us Q I r ⟨rfl,h⟩⟩
 |.Name x p::es,j::js,h=>by
  have hp:=pgs_cons (pg_name (pos:=p) hN h.1 h.2.1 h.2.2.1) (z8 hN h.2.2.2) (by with_unfolding_all rfl);refine⟨λpins s σ H vs us Q I r hq=>?_⟩;obtain⟨e,hq⟩:=hq;cases vs with
  |nil=>cases e
  |cons v vs=>exact hp.run pins s σ H (v::vs) us Q I r ⟨v,vs,rfl,agk e,hq⟩
 |[],_::_,h=>agn h
 |.Name _ _::_,[],h=>agn h
theorem yC{K:afr}{g:Gh}{H:Hp}{M:Mo}:∀{js:List Nat} {ds:List Dat} {vs:List V} {σ:L2.St} {ρ Z':Env},SInv K aj σ H g ρ M->au K g H vs ds->jy js ds ρ=some Z'->vs.length=js.length/\SInv K aj (sets σ js vs) H g Z' M
 |[],_,_,_,_,_,I,.nil,e=>by cases e;exact⟨rfl,I⟩
 |[],_,_,_,_,_,I,.cons _ _,e=>by cases e
 |j::js,_,_,_,_,_,I,.nil,e=>by cases e
 |j::js,_,_,_,_,_,I,.cons r t,e=>by
  obtain⟨h1,h2⟩:=yC (js:=js) (I.set (j:=j) r) t e;exact⟨by simp[h1],h2⟩
theorem Mq{es:List Expr}{js:List Nat}{k:Nat}(hc:X.calm=true)(hN:X.N.Nodup)(h:yw X es js):QG aj X (.Tuple es k pos) js (cC js):=by
 obtain⟨h1,h2⟩:=Rz h;refine PG.weak (pg_tup (n:=js.length) hc (z8 hN h) h1 h2) λv σ H Q ⟨g,ρ,M,d,Z',I,r,e,q⟩=>?_;unfold cC at e;split at e
 .obtain⟨a,us,rfl,s1,t1⟩:=dG r.weak;obtain⟨l1,I1⟩:=yC I t1 e;exact⟨a,us,rfl,s1,l1,l1,q us I1⟩
 .cases e
theorem lK:∀(js:List Nat) (vs:List V) (σ:L2.St) (ws:List Nat),(∀j∈js,j∈ws)->L2.wipe (sets σ js vs) ws=L2.wipe σ ws
 |[],_,_,_,_=>by unfold sets;rfl
 |_::_,[],_,_,_=>by unfold sets;rfl
 |j::js,v::vs,σ,ws,h=>by
  show L2.wipe (sets (σ.set j (some v)) js vs) ws=_;rw[lK js vs _ ws λk hk=>h k (afu _ hk)];have hj:j∈ws:=h j afv;have key:∀(ws:List Nat) (σ:L2.St),j∈ws->L2.wipe (σ.set j (some v)) ws=L2.wipe σ ws:=by
   intro ws
   induction ws with
   |nil=>intro σ z;cases z
   |cons k ws ih=>
    intro σ z
    show(L2.wipe (σ.set j (some v)) ws).set k none=(L2.wipe σ ws).set k none
    by_cases hk:j∈ws
    .rw[ih σ hk]
    .have e:j=k:=by
      rcases afD.mp z with z|z
      .exact z
      .exact absurd z hk
     subst e;have comm:∀(ws:List Nat),j∉ws->L2.wipe (σ.set j (some v)) ws=(L2.wipe σ ws).set j (some v):=by
      intro ws
      induction ws with
      |nil=>intro _;rfl
      |cons m ws ih2=>
       intro hm
       show(L2.wipe (σ.set j (some v)) ws).set m none=((L2.wipe σ ws).set m none).set j (some v)
       rw[ih2 λz=>hm (afu _ z),List.set_comm _ _ (λz=>hm (by rw[z];exact afv))]
     rw[comm ws hk,List.set_set]
  exact key ws σ hj
end
structure rM(K:afr)(J:It)(C:Gh->Hp->Prop)(ds:List Dat):Prop where
 go:∀g i H,C g H->i<ds.length->J.go i H
 yld:∀g i H x H' d,Kd g H->C g H->ds[i]?=some d->J.yld i H x H'->Ex H H'/\Rep K g H' x d
 stop:∀g i H,C g H->i=ds.length->J.stop i H
 ex:∀g H H',Kd g H->C g H->Ex H H'->C g H'
 add:∀g g' H H',Kd g H->C g H->Gr true g g' H H'->Ex H H'->C g' H'
def J9(C:Gh->Hp->Prop):Prop:=∀q g g' H H',Kd g H->C g H->Gr q g g' H H'->C g' H'
abbrev IF:=Mo->Env->Out (List Dat)
def tI(K:afr)(aj:aA)(W:WX)(firm:Bool)(f:IF):TI:=λσ H R=>∃g ρ M,SInv K aj σ H g ρ M/\(f M ρ).sat (λds=>∀J C H',Ex H H'->rM K J C ds->C g H'->(firm=true->J9 C)->R J H') (gR K aj W g H σ)
def QI(aj:aA)(X:Cx)(W:WX)(firm:Bool)(tg e:Expr)(f:IF):Prop:=PI X tg e (tI X.K aj W firm f)
def iW(x:Str):List Dat:=x.cps.toList.map λc=>.str ⟨#[c]⟩
def cZ:Dat->Out (List Dat)
 |.list ds=>.ok ds
 |.tuple ds=>.ok ds
 |.str x=>.ok (iW x)
 |_=>.bad
def iH(a:QF):IF:=λM ρ=>(a M ρ).bind cZ
def Src.cw(K:afr)(S:Src)(ds:List Dat)(g:Gh)(H:Hp):Prop:=∃us,S.sq K H us/\au K g H us ds
def Src.cf(K:afr)(S:Src)(ds:List Dat)(g:Gh)(H:Hp):Prop:=∃us,(match S with
 |.lst a=>vW K g H a us
 |.tup a=>SqT K H a us
 |.str x=>us=chars x)/\au K g H us ds
section
variable{K:afr}{g g':Gh}{H H':Hp}{ds es:List Dat}{S T:Src}
theorem Src.abl{us:List V}(e:Ex H H')(h:S.sq K H us):S.sq K H' us:=by
 cases S with
 |lst a=>exact ex_l e h
 |tup a=>exact ex_t e h
 |str x=>exact h
theorem Src.Lj(h:S.cf K ds g H):S.cw K ds g H:=by
 obtain⟨us,h1,h2⟩:=h;refine⟨us,?_,h2⟩;cases S with
 |lst a=>exact vW.sq h1
 |tup a=>exact h1
 |str x=>exact h1
theorem Src.jo:J9 (S.cf K ds):=λq g g' H H' k ⟨us,h1,h2⟩ r=>by
 refine⟨us,?_,h2.gr r k⟩;cases S with
 |lst a=>exact r.ls h1
 |tup a=>exact r.sqT k h1
 |str x=>exact h1
theorem Src.sG(k:Kd g H)(h:S.cw K ds g H)(r:Gr true g g' H H')(e:Ex H H'):S.cw K ds g' H':=by obtain⟨us,h1,h2⟩:=h;exact⟨us,Src.abl e h1,h2.gr r k⟩
theorem Src.CP(k:Kd g H)(h:S.cw K ds g H)(e:Ex H H'):S.cw K ds g H':=Src.sG k h (Gr.ex e) e
end
section
variable{K:afr}{ds es:List Dat}{S T:Src}
def ItS(K:afr):Src->It
 |.lst a=>Itl K a
 |.tup a=>Itt K a
 |.str x=>Its x
theorem oX{g:Gh}{H:Hp}(x:Str):au K g H (chars x) (iW x):=by
 unfold chars iW
 induction x.cps.toList with
 |nil=>exact .nil
 |cons c cs ih=>exact .cons (.str _) ih
theorem rM.of{J:It}{C C':Gh->Hp->Prop}(w:rM K J C ds)(h:∀g H,C' g H->C g H)(e:∀g H H',Kd g H->C' g H->Ex H H'->C' g H')(a:∀g g' H H',Kd g H->C' g H->Gr true g g' H H'->Ex H H'->C' g' H'):rM K J C' ds where
 go:=λg i H c hi=>w.go g i H (h g H c) hi
 yld:=λg i H x H' d k c e y=>w.yld g i H x H' d k (h g H c) e y
 stop:=λg i H c e=>w.stop g i H (h g H c) e
 ex:=e
 add:=a
theorem Ie:rM K (ItS K S) (S.cw K ds) ds where
 go:=λg i H ⟨us,h1,h2⟩ hi=>by
  have hx:us[i]?=some (us[i]'(by rw[h2.length];exact hi)):=afx _;cases S with
  |lst a=>exact⟨us,_,h1,hx⟩
  |tup a=>exact⟨us,_,h1,hx⟩
  |str x=>
   show i<x.cps.size;have:=h2.length;rw[show us=chars x from h1]at this;unfold chars at this;rw[afy,afQ]at this;omega
 yld:=λg i H x H' d k ⟨us,h1,h2⟩ e y=>by
  obtain⟨v,hv,rv⟩:=h2.get e;cases S with
  |lst a=>
   obtain⟨rfl,y⟩:=y;have:x=v:=afR ((y us h1).symm.trans hv);rw[this];exact⟨Ex.refl _,rv⟩
  |tup a=>
   obtain⟨rfl,y⟩:=y;have:x=v:=afR ((y us h1).symm.trans hv);rw[this];exact⟨Ex.refl _,rv⟩
  |str z=>
   obtain⟨rfl,c,hc,rfl⟩:=y;rw[show us=chars z from h1]at hv;unfold chars at hv;rw[afI,af3,hc]at hv;cases hv;exact⟨Ex.refl _,rv⟩
 stop:=λg i H ⟨us,h1,h2⟩ e=>by
  have hl:=h2.length;cases S with
  |lst a=>exact⟨us,h1,by omega⟩
  |tup a=>exact⟨us,h1,by omega⟩
  |str x=>
   show x.cps.size<=i;rw[show us=chars x from h1]at hl;unfold chars at hl;rw[afy,afQ]at hl;omega
 ex:=λg H H' k h e=>Src.CP k h e
 add:=λg g' H H' k h r e=>Src.sG k h r e
def gU(k₀:Int)(ds:List Dat):List Dat:=ds.mapIdx λi d=>.tuple [.int (k₀+(i:Int)),d]
theorem Ru{k₀:Int}:rM K (ItE K S k₀) (S.cw K ds) (gU k₀ ds) where
 go:=λg i H ⟨us,h1,h2⟩ hi=>by
  have hl:i<us.length:=by rw[h2.length];unfold gU at hi;rw[List.length_mapIdx]at hi;exact hi
  exact⟨us,us[i],h1,afx hl⟩
 yld:=λg i H x H' d k ⟨us,h1,h2⟩ e y=>by
  unfold gU at e;rw[List.getElem?_mapIdx]at e;cases hd:ds[i]? with
  |none=>rw[hd]at e;cases e
  |some d0=>
   rw[hd]at e;cases e;obtain⟨v,hv,rv⟩:=h2.get hd;obtain⟨T,x0,rfl,nT,rfl,y⟩:=y;have:x0=v:=afR ((y us h1).symm.trans hv);subst this;exact⟨Ex.new nT,.tup (st_of agu) (.cons (.int _) (.cons (rv.ex (Ex.new nT) k) .nil))⟩
 stop:=λg i H ⟨us,h1,h2⟩ e=>by
  unfold gU at e;rw[List.length_mapIdx,<-h2.length]at e;exact⟨us,h1,e.symm⟩
 ex:=λg H H' k h e=>Src.CP k h e
 add:=λg g' H H' k h r e=>Src.sG k h r e
def dD(ds es:List Dat):List Dat:=List.zipWith (λd e=>.tuple [d,e]) ds es
theorem JQ:rM K (Yj K S T) (λg H=>S.cw K ds g H/\T.cw K es g H) (dD ds es) where
 go:=λg i H ⟨⟨us,h1,h2⟩,⟨ws,h3,h4⟩⟩ hi=>by
  unfold dD at hi;rw[List.length_zipWith,<-h2.length,<-h4.length]at hi;exact⟨us,ws,us[i],ws[i],h1,h3,afx (by omega),afx (by omega)⟩
 yld:=λg i H x H' d k ⟨⟨us,h1,h2⟩,⟨ws,h3,h4⟩⟩ e y=>by
  unfold dD at e;rw[List.getElem?_zipWith]at e;cases hd:ds[i]? with
  |none=>rw[hd]at e;cases e
  |some d0=>
   cases he:es[i]? with
   |none=>rw[hd,he]at e;cases e
   |some e0=>
    rw[hd,he]at e;cases e;obtain⟨v,hv,rv⟩:=h2.get hd;obtain⟨u,hu,ru⟩:=h4.get he;obtain⟨U,x0,y0,rfl,nU,rfl,y1,y2⟩:=y;have:x0=v:=afR ((y1 us h1).symm.trans hv);subst this;have:y0=u:=afR ((y2 ws h3).symm.trans hu);subst this;exact⟨Ex.new nU,.tup (st_of agu) (.cons (rv.ex (Ex.new nU) k) (.cons (ru.ex (Ex.new nU) k) .nil))⟩
 stop:=λg i H ⟨⟨us,h1,h2⟩,⟨ws,h3,h4⟩⟩ e=>by
  unfold dD at e;rw[List.length_zipWith,<-h2.length,<-h4.length]at e;exact⟨us,ws,h1,h3,e⟩
 ex:=λg H H' k h e=>⟨Src.CP k h.1 e,Src.CP k h.2 e⟩
 add:=λg g' H H' k h r e=>⟨Src.sG k h.1 r e,Src.sG k h.2 r e⟩
def iG(lo:Int)(n:Nat):List Dat:=(List.range n).map λ(i:Nat)=>.int (lo+(i:Int))
theorem Aq{lo:Int}{n:Nat}:rM K (Itr lo n) (λ_ _=>True) (iG lo n) where
 go:=λg i H _ hi=>by
  unfold iG at hi;rw[afy,List.length_range]at hi;exact hi
 yld:=λg i H x H' d k _ e y=>by
  obtain⟨rfl,rfl⟩:=y;unfold iG at e;rw[afI]at e;cases hr:(List.range n)[i]? with
  |none=>rw[hr]at e;cases e
  |some j=>
   rw[hr]at e;cases e;have:j=i:=by obtain⟨h1,h2⟩:=afw.mp hr;rw[List.getElem_range]at h2;exact h2.symm
   subst this;exact⟨Ex.refl _,.int _⟩
 stop:=λg i H _ e=>by
  unfold iG at e;rw[afy,List.length_range]at e;show n<=i;omega
 ex:=λ_ _ _ _ _ _=>trivial
 add:=λ_ _ _ _ _ _ _ _=>trivial
end
section
variable{X:Cx}{aj:aA}{W:WX}{tg a b:Expr}{fa fb:QF}{pos p tpos:Pos}{elts:List Expr}{kk:Nat}
theorem u6{K:afr}{g:Gh}{H:Hp}{v:V}{d:Dat}{ds:List Dat}{firm:Bool}(r:if firm=true then Rep K g H v d else bF K g H v d)(h:cZ d=.ok ds):∃S,srcOf v S/\S.cw K ds g H/\(firm=true->S.cf K ds g H):=by
 have rw:bF K g H v d:=by
  cases firm with
  |true=>exact Rep.weak r
  |false=>exact r
 cases d with
 |list es=>
  cases h;obtain⟨l,us,rfl,h1,h2⟩:=bZ rw;refine⟨.lst l,.inl ⟨l,rfl,rfl,.inl rfl⟩,⟨us,h1,h2⟩,λz=>?_⟩;subst z;have r:Rep K g H (.ref l) (.list ds):=r;cases r with
  |lst h3 h4=>exact⟨_,h3,h4⟩
 |tuple es=>
  cases h;obtain⟨l,us,rfl,h1,h2⟩:=dG rw;exact⟨.tup l,.inl ⟨l,rfl,rfl,.inr rfl⟩,⟨us,h1,h2⟩,λ_=>⟨us,h1,h2⟩⟩
 |str x=>
  cases h;cases bR rw;exact⟨.str x,.inr ⟨x,rfl,rfl⟩,⟨_,rfl,oX x⟩,λ_=>⟨_,rfl,oX x⟩⟩
 |_=>cases h
def tF(K:afr)(aj:aA)(W:WX)(firm:Bool)(f:QF):TE:=if firm=true then tQ K aj W f else tW K aj W f
def Jy(aj:aA)(X:Cx)(W:WX)(firm:Bool)(e:Expr)(f:QF):Prop:=PE X e (tF X.K aj W firm f)
theorem tF.go{K:afr}{firm:Bool}{g:Gh}{H:Hp}{σ:L2.St}{ρ:Env}{M:Mo}{f:QF}{k:Dat->Prop}{Q:VK}(I:SInv K aj σ H g ρ M)(h:(f M ρ).sat k (gR K aj W g H σ))(hk:∀d v H',k d->Ex H H'->(if firm=true then Rep K g H' v d else bF K g H' v d)->Q v H'):tF K aj W firm f σ H Q:=by
 cases firm with
 |true=>exact tQ.go I h hk
 |false=>exact tW.go I h hk
theorem aaJ{K:afr}{firm:Bool}{g:Gh}{H H':Hp}{v:V}{d:Dat}(e:Ex H H')(k:Kd g H)(r:if firm=true then Rep K g H v d else bF K g H v d):if firm=true then Rep K g H' v d else bF K g H' v d:=by
 cases firm with
 |true=>exact Rep.ex e k r
 |false=>exact bF.ex e k r
theorem wf{K:afr}{S:Src}{firm:Bool}{J:It}{ds es:List Dat}{R:It->Hp->Prop}{g:Gh}{H H1:Hp}(h:∀J C H',Ex H H'->rM K J C ds->C g H'->(firm=true->J9 C)->R J H')(e1:Ex H H1)(w:rM K J (S.cw K es) ds)(hw:S.cw K es g H1)(hf:firm=true->S.cf K es g H1):R J H1:=by
 cases firm with
 |true=>exact h J (S.cf K es) H1 e1 (w.of (λ_ _ z=>Src.Lj z) (λg H H' k c e=>Src.jo true g g H H' k c (Gr.ex e)) λg g' H H' k c r e=>Src.jo true g g' H H' k c r) (hf rfl) λ_=>Src.jo
 |false=>exact h J (S.cw K es) H1 e1 w hw λz=>nomatch z
theorem Ei{firm:Bool}(ha:Jy aj X W firm a fa):QI aj X W firm tg a (iH fa):=by
 refine⟨λpins s σ H R I h=>?_⟩;obtain⟨g,ρ,M,SI,hs⟩:=h;have hs:=hs.bnd;have fin:∀(S:Src) (x:V) (H1:Hp) (ds:List Dat),(∀J C H',Ex H H'->rM X.K J C ds->C g H'->(firm=true->J9 C)->R J H')->Ex H H1->S.cw X.K ds g H1->(firm=true->S.cf X.K ds g H1)->R (ItS X.K S) H1:=λS x H1 ds h e1 hw hf=>wf h e1 Ie hw hf;cases hfa:fa M ρ with
 |bad=>rw[hfa]at hs;exact agn hs
 |exc x=>
  rw[hfa]at hs;exact(pi_list ha).run pins s σ H R I (tF.go (k:=λ_=>False) SI (by rw[hfa];exact hs) λd v H' z=>agn z)
 |ok d=>
  rw[hfa]at hs;cases d with
  |list ds=>
   refine(pi_list ha).run pins s σ H R I (tF.go (k:=λz=>z=.list ds) SI (by rw[hfa];rfl) λd v H' z e1 r=>?_);subst z;obtain⟨S,hS,hw,hf⟩:=u6 (firm:=firm) r (ds:=ds) rfl;have rw:bF X.K g H' v (.list ds):=by
    cases firm with
    |true=>exact Rep.weak r
    |false=>exact r
   obtain⟨l,us,rfl,h1,h2⟩:=bZ rw;refine⟨l,rfl,⟨us,h1⟩,?_⟩;rcases hS with⟨a',e,ha',hl|ht⟩|⟨y,_,e⟩
   .cases e;subst hl;exact fin (.lst l) (.ref l) H' ds hs e1 hw hf
   .cases e;subst ht;refine wf (S:=.lst l) hs e1 (Ie (S:=.lst l)) ⟨us,h1,h2⟩ λz=>?_;subst z;have r:Rep X.K g H' (.ref l) (.list ds):=r;cases r with
    |lst h3 h4=>exact⟨_,h3,h4⟩
   .cases e
  |tuple ds=>
   refine(pi_tup ha).run pins s σ H R I (tF.go (k:=λz=>z=.tuple ds) SI (by rw[hfa];rfl) λd v H' z e1 r=>?_);subst z;have rw:bF X.K g H' v (.tuple ds):=by
    cases firm with
    |true=>exact Rep.weak r
    |false=>exact r
   obtain⟨l,us,rfl,h1,h2⟩:=dG rw;exact⟨l,rfl,⟨us,h1⟩,fin (.tup l) (.ref l) H' ds hs e1 ⟨us,h1,h2⟩ λ_=>⟨us,h1,h2⟩⟩
  |str x=>
   refine(pi_str ha).run pins s σ H R I (tF.go (k:=λz=>z=.str x) SI (by rw[hfa];rfl) λd v H' z e1 r=>?_);subst z;have rw:bF X.K g H' v (.str x):=by
    cases firm with
    |true=>exact Rep.weak r
    |false=>exact r
   cases bR rw;exact⟨x,rfl,fin (.str x) (.str x) H' _ hs e1 ⟨_,rfl,oX x⟩ λ_=>⟨_,rfl,oX x⟩⟩
  |_=>exact agn hs
def m7(a:QF):IF:=λM ρ=>(a M ρ).bind λd=>(lV d).bind λn=>Out.when (decide (n<=100000/\-100000<=n)) (.ok (iG 0 n.toNat))
def zX(a b:QF):IF:=λM ρ=>(a M ρ).bind λd=>(b M ρ).bind λe=>(lV d).bind λlo=>(lV e).bind λn=>Out.when (decide (n<=100000/\-100000<=n/\lo<=100000/\-100000<=lo)) (.ok (iG lo (n-lo).toNat))
def o9(k₀:Int)(a:QF):IF:=λM ρ=>(a M ρ).bind λd=>(cZ d).bind λds=>.ok (gU k₀ ds)
def pF(a b:QF):IF:=λM ρ=>(a M ρ).bind λd=>(b M ρ).bind λe=>(cZ d).bind λds=>(cZ e).bind λes=>.ok (dD ds es)
theorem Ox{firm:Bool}(hg:Gl X "range")(hm:X.mg "range"=none)(ha:QW aj X W a fa)(hs:nst a=true):QI aj X W firm tg (.Call (.Name "range" p) [a] [] pos) (m7 fa):=by
 refine⟨λpins s σ H R I h=>?_⟩;refine(pi_range1 hg hm (pa_cons ha pa_nil (aM hs [])) (aM hs [])).run pins s σ H R I ?_;obtain⟨g,ρ,M,SI,h⟩:=h;refine tW.go SI h.bnd λd v H1 h1 e1 r1=>?_;have h1:=h1.bnd;unfold lV at h1;split at h1
 .obtain⟨hz,h1⟩:=h1.dI;have hz:=agp hz;cases aP r1;exact⟨_,rfl,by omega,by omega,h1 _ _ H1 e1 Aq agm λ_=>λ_ _ _ _ _ _ _ _=>trivial⟩
 .exact agn h1
theorem Nm{firm:Bool}(hg:Gl X "range")(hm:X.mg "range"=none)(ha:QW aj X W a fa)(hb:QW aj X W b fb)(hs:nst a=true)(hs2:nst b=true):QI aj X W firm tg (.Call (.Name "range" p) [a,b] [] pos) (zX fa fb):=by
 refine⟨λpins s σ H R I h=>?_⟩;refine(pi_range2 hg hm (pa_cons ha (pa_cons hb pa_nil (aM hs2 [])) (aM hs [b])) (by rw[aM hs,aM hs2];rfl) (aM hs2 [])).run pins s σ H R I ?_;obtain⟨g,ρ,M,SI,h⟩:=h;refine tW.go SI h.bnd λd v H1 h1 e1 r1=>?_;refine tW.go (SI.ex e1) (h1.bnd.mono (λ_ z=>z) λ_ z=>z.ex e1) λd2 v2 H2 h2 e2 r2=>?_;have h2:=h2.bnd;unfold lV at h2;split at h2
 .have h2:=Out.sat.bnd h2;split at h2
  .obtain⟨hz,h2⟩:=Out.sat.dI h2;have hz:=agp hz;cases aP r1;cases aP r2;exact⟨_,_,rfl,⟨by omega,by omega,by omega,by omega⟩,h2 _ _ H2 (e1.trans e2) Aq agm λ_=>λ_ _ _ _ _ _ _ _=>trivial⟩
  .exact agn h2
 .exact agn h2
theorem Tp{firm:Bool}{k₀:Int}(σ:L2.St)(H:Hp)(R:It->Hp->Prop)(h:tI X.K aj W firm (o9 k₀ fa) σ H R):Yq X.K (tCons (tF X.K aj W firm fa) tNil) k₀ σ H R:=by
 obtain⟨g,ρ,M,SI,h⟩:=h;refine tF.go SI h.bnd λd v H1 h1 e1 r1=>?_;cases hd:cZ d with
 |bad=>rw[hd]at h1;exact agn h1
 |exc x=>cases d<;>cases hd
 |ok ds=>
  rw[hd]at h1;obtain⟨S,hS,hw,hf⟩:=u6 r1 hd;exact⟨v,S,_,rfl,hS,hw.choose_spec.1,wf h1 e1 Ru hw hf⟩
theorem Vl{firm:Bool}(hg:Gl X "enumerate")(hm:X.mg "enumerate"=none)(ha:Jy aj X W firm a fa)(hs:nst a=true):QI aj X W firm (.Tuple elts kk tpos) (.Call (.Name "enumerate" p) [a] [] pos) (o9 0 fa):=
 ⟨λpins s σ H R I h=>(aa5 hg hm (pa_cons ha pa_nil (aM hs [])) hs).run pins s σ H R I (Tp σ H R h)⟩
theorem Q9{firm:Bool}{k₀:Int}{j:Nat}{kp kp2:Pos}(hk0 : -(2^63)<=k₀)(hk1:k₀<2^63)(hg:Gl X "enumerate")(hm:X.mg "enumerate"=none)(ha:Jy aj X W firm a fa)(hs:nst a=true):QI aj X W firm (.Tuple elts kk tpos) (.Call (.Name "enumerate" p) [a] [⟨some "start",.Constant (.int k₀) j kp,kp2⟩] pos) (o9 k₀ fa):=
 ⟨λpins s σ H R I h=>(XD hk0 hk1 hg hm (pa_cons ha pa_nil (aM hs [])) hs).run pins s σ H R I (Tp σ H R h)⟩
theorem W0{firm:Bool}(hg:Gl X "zip")(hm:X.mg "zip"=none)(ha:Jy aj X W firm a fa)(hb:Jy aj X W firm b fb)(hs:nst a=true)(hs2:nst b=true):QI aj X W firm (.Tuple elts kk tpos) (.Call (.Name "zip" p) [a,b] [] pos) (pF fa fb):=by
 refine⟨λpins s σ H R I h=>(aaY hg hm (pa_cons ha (pa_cons hb pa_nil (aM hs2 [])) (aM hs [b])) hs hs2).run pins s σ H R I ?_⟩;obtain⟨g,ρ,M,SI,h⟩:=h;refine tF.go SI h.bnd λd v H1 h1 e1 r1=>?_;refine tF.go (SI.ex e1) (h1.bnd.mono (λ_ z=>z) λ_ z=>z.ex e1) λd2 v2 H2 h2 e2 r2=>?_;cases hd:cZ d with
 |bad=>rw[hd]at h2;exact agn h2
 |exc x=>cases d<;>cases hd
 |ok ds=>
  cases he:cZ d2 with
  |bad=>rw[hd,he]at h2;exact agn h2
  |exc x=>cases d2<;>cases he
  |ok es=>
   rw[hd,he]at h2;obtain⟨S,hS,hw,hf⟩:=u6 (aaJ e2 (SI.ex e1).kd r1) hd;obtain⟨T,hT,hw2,hf2⟩:=u6 r2 he;refine⟨v,v2,S,T,_,_,rfl,hS,hT,hw.choose_spec.1,hw2.choose_spec.1,?_⟩;cases firm with
   |true=>exact h2 _ (λg H=>S.cf X.K ds g H/\T.cf X.K es g H) H2 (e1.trans e2) (JQ.of (λ_ _ z=>⟨Src.Lj z.1,Src.Lj z.2⟩) (λg H H' k c e=>⟨Src.jo true g g H H' k c.1 (Gr.ex e),Src.jo true g g H H' k c.2 (Gr.ex e)⟩) λg g' H H' k c r e=>⟨Src.jo true g g' H H' k c.1 r,Src.jo true g g' H H' k c.2 r⟩) ⟨hf rfl,hf2 rfl⟩ λ_=>λq g g' H H' k c r=>⟨Src.jo q g g' H H' k c.1 r,Src.jo q g g' H H' k c.2 r⟩
   |false=>exact h2 _ _ H2 (e1.trans e2) JQ ⟨hw,hw2⟩ λz=>nomatch z
end
def WF:WX:=λ_ _ _ _=>False
def nO{α:Type}:Out α->Out α
 |.ok a=>.ok a
 |_=>.bad
@[simp]theorem aeJ {α:Type} (a:α):nO (.ok a)=.ok a:=rfl
theorem mW{α:Type}{o:Out α}{P:α->Prop}{E E':bL->Prop}(h:(nO o).sat P E):o.sat P E':=by
 cases o
 .exact h
 .exact agn h
 .exact h
def bG(tg:bY)(tt:QT)(te:QF)(M:Mo)(ρ:Env):List Dat->Out (List Dat)
 |[]=>.ok []
 |d::ds=>match tg d ρ with
  |none=>.bad
  |some Z1=>(nO (tt M Z1)).bind λb=>if b=true then(nO (te M Z1)).bind λy=>(bG tg tt te M ρ ds).bind λr=>.ok (y::r) else bG tg tt te M ρ ds
def fU(it:IF)(tg:bY)(vs:List Nat)(tt:QT)(te:QF):QF:=λM ρ=>(it M ρ).bind λds=>Out.when (decide (ds.length<=50000)) ((bG tg tt te M (aU ρ vs) ds).bind λr=>.ok (.list r))
def jK:QT:=λ_ _=>.ok true
def Pu(K:afr)(aj:aA)(W:WX)(f:IF):TE:=λσ H Q=>∃g ρ M,SInv K aj σ H g ρ M/\(f M ρ).sat (λxs=>∀l us H',H l=none->Ex H H'->H' l=some (.lst us)->au K (g.add l) H' us xs->Q (.ref l) H') (gR K aj W g H σ)
def nu(it:IF)(tg:bY)(vs:List Nat)(tt:QT)(te:QF):IF:=λM ρ=>(it M ρ).bind λds=>Out.when (decide (ds.length<=50000)) (bG tg tt te M (aU ρ vs) ds)
section
variable{K:afr}{aj:aA}{W:WX}
theorem DG{g:Gh}{H:Hp}{D:Addr}{o o':HO}{vs:List V}{ds:List Dat}(k:Kd g H)(h:H D=some o)(l:g.Lo D)(r:au K g H vs ds):au K g (upd H D o') vs ds:=r.gr (Gr.upd (q:=true) k h (.inr l)) k
theorem Ve{g:Gh}{H:Hp}{D:Addr}{o o':HO}{v:V}{d:Dat}(k:Kd g H)(h:H D=some o)(l:g.Lo D)(r:Rep K g H v d):Rep K g (upd H D o') v d:=r.gr (Gr.upd (q:=true) k h (.inr l)) k
theorem iJ{tg:bY}{tt:QT}{te:QF}{M:Mo}{ρ:Env}:∀{ds:List Dat} {x:bL},bG tg tt te M ρ ds≠.exc x
 |[],_,h=>nomatch h
 |d::ds,x,h=>by
  rw[bG]at h;split at h
  .cases h
  .next Z1 e=>
   cases h1:tt M Z1 with
   |bad=>rw[h1]at h;cases h
   |exc y=>rw[h1]at h;cases h
   |ok b=>
    rw[h1]at h;cases b with
    |false=>exact iJ h
    |true=>
     have h:((nO (te M Z1)).bind λy=>(bG tg tt te M ρ ds).bind λr=>Out.ok (y::r))=.exc x:=h;cases h2:te M Z1 with
     |bad=>rw[h2]at h;cases h
     |exc y=>rw[h2]at h;cases h
     |ok y=>
      rw[h2]at h;cases h3:bG tg tt te M ρ ds with
      |bad=>rw[h3]at h;cases h
      |exc z=>exact iJ h3
      |ok r=>rw[h3]at h;cases h
theorem wA(σ:L2.St)(i:Nat):∀vs:List Nat,(L2.wipe σ vs)[i]?=if i∈vs then(σ[i]?).map (λ_=>none) else σ[i]?
 |[]=>by simp[L2.wipe]
 |v::vs=>by
  show((L2.wipe σ vs).set v none)[i]?=_
  by_cases h:v=i
  .subst h;by_cases hl:v<σ.length
   .rw[afE (by rw[wipe_length];exact hl),ags afv,afx hl];rfl
   .have h1:σ[v]?=none:=List.getElem?_eq_none_iff.mpr (by omega);rw[ags afv,h1,List.getElem?_eq_none_iff.mpr (by rw[afM,wipe_length];omega)];rfl
  .rw[afz h,wA σ i vs];have:i∈v::vs↔i∈vs:=⟨λz=>by
    rcases afD.mp z with z|z
    .exact absurd z.symm h
    .exact z,afu _⟩
   simp only[this]
theorem pq(σ:L2.St)(vs:List Nat):L2.wipe (L2.wipe σ vs) vs=L2.wipe σ vs:=by
 apply List.ext_getElem?;intro i;rw[wA (L2.wipe σ vs) i vs,wA σ i vs];split
 .cases σ[i]?<;>rfl
 .rfl
theorem Fq{it:IF}{tg:bY}{js vs:List Nat}{tt:QT}{te:QF}(hj:∀j∈js,j∈vs)(σ:L2.St)(H:Hp)(Q:VK)(h:Pu K aj W (nu it tg vs tt te) σ H Q) :
  tLc (tI K aj W false it) (lO K aj js tg) (dY K aj WF tt) (tQ K aj WF te) vs σ H Q:=by
 obtain⟨g,ρ,M,I,h⟩:=h;refine⟨g,ρ,M,I,h.bnd.mono (λds hk J C H1 e1 w c _ D nD=>?_) λ_ z=>z⟩;obtain⟨hz,hk⟩:=hk.dI;have hlen:=agp hz;obtain⟨total,htot,hQ⟩:∃total,bG tg tt te M (aU ρ vs) ds=.ok total/\∀l us H',H l=none->Ex H H'->H' l=some (.lst us)->au K (g.add l) H' us total->Q (.ref l) H':=by
  cases hc:bG tg tt te M (aU ρ vs) ds with
  |bad=>rw[hc]at hk;exact agn hk
  |exc x=>exact absurd hc iJ
  |ok total=>
   rw[hc]at hk;exact⟨total,rfl,hk⟩
 have I1:=(I.ex e1).wipe vs;have kD:∀{Ha:Hp} {us:List V},Ex H1 Ha->Ha D=some (.lst us)->SInv K aj (L2.wipe σ vs) Ha (g.add D) (aU ρ vs) M:=λea hu=>I1.add nD ea hu agm
 let Pv:Nat->Hp->Prop:=λi Ha=>Ex H1 Ha/\i<=ds.length/\∃us ys,Ha D=some (.lst us)/\au K (g.add D) Ha us ys/\ys.length<=i/\(bG tg tt te M (aU ρ vs) (ds.drop i)).sat (λr=>total=ys++r) λ_=>False
 refine⟨λi m Ha=>m=ds.length-i/\Pv i Ha,⟨ds.length,rfl,Ex.new nD,afU _,[],[],agu,.nil,afN _,?_⟩,?_⟩
 .rw[af7,htot];rfl
 .rintro i m Ha ⟨rfl,ea,hi,us,ys,hu,hU,hy,hs⟩;have Ia:=kD ea hu;have Ca:=w.add g (g.add D) H1 Ha (I.kd.ex e1) c (Gh.pJ nD ea) ea;by_cases hlt:i<ds.length
  .refine .inr ⟨w.go _ i Ha Ca hlt,Pv (i+1),λH' p=>⟨ds.length-(i+1),by omega,rfl,p⟩,λx H' y=>?_⟩;have hd:ds[i]?=some ds[i]:=afx hlt;obtain⟨e2,rx⟩:=w.yld _ i Ha x H' _ Ia.kd Ca hd y;have I2:=Ia.ex e2;rw[af2 hlt,bG]at hs;split at hs
   .exact agn hs
   .next Z1 he=>
    refine⟨g.add D,_,M,_,Z1,I2,rx,he,λws I3=>⟨lK js ws _ vs hj |>.trans (pq σ vs),?_⟩⟩;refine dY.go I3 (mW hs.bnd) λb H3 hb e3=>?_;have I4:=I3.ex e3;have hu3:=e3 _ _ (e2 _ _ hu);have hU3:=(hU.ex e2 Ia.kd).ex e3 I2.kd;cases b with
    |false=>
     have hb:(bG tg tt te M (aU ρ vs) (ds.drop (i+1))).sat (λr=>total=ys++r) λ_=>False:=hb;exact⟨(ea.trans e2).trans e3,hlt,us,ys,hu3,hU3,Nat.le_succ_of_le hy,hb⟩
    |true=>
     have hb:((nO (te M Z1)).bind λy=>(bG tg tt te M (aU ρ vs) (ds.drop (i+1))).bind λr=>Out.ok (y::r)).sat (λr=>total=ys++r) λ_=>False:=hb;refine tQ.go I4 (mW hb.bnd) λy v H4 hyv e4 ry=>?_;have I5:=I4.ex e4;have hu4:=e4 _ _ hu3;have hU4:=hU3.ex e4 I4.kd;have lD:(g.add D).Lo D:=.inr rfl;refine⟨us,hu4,sz_lt (by rw[hU.length];omega),Ex.mut (((ea.trans e2).trans e3).trans e4) nD,hlt,us++[v],ys++[y],agu,?_,by simp;omega,hyv.bnd.mono (λr hr=>?_) λ_ z=>z⟩
     .exact DG I5.kd hu4 lD (hU4.append (.cons ry .nil))
     .have hr:total=ys++y::r:=hr;rw[hr];simp
  .have e:i=ds.length:=by omega
   refine .inl ⟨w.stop _ i Ha Ca e,?_⟩;rw[e,af8]at hs;have hs:total=ys++[]:=hs;rw[af0]at hs;subst hs;exact hQ D us Ha (j7 e1 D nD) (e1.trans ea) hu hU
theorem Uj{it:IF}{tg:bY}{js vs:List Nat}{tt:QT}{te:QF}(hj:∀j∈js,j∈vs)(σ:L2.St)(H:Hp)(Q:VK)(h:tQ K aj W (fU it tg vs tt te) σ H Q) :
  tLc (tI K aj W false it) (lO K aj js tg) (dY K aj WF tt) (tQ K aj WF te) vs σ H Q:=by
 obtain⟨g,ρ,M,I,h⟩:=h;refine Fq hj σ H Q ⟨g,ρ,M,I,?_⟩;unfold nu;unfold fU at h;cases hi:it M ρ with
 |bad=>rw[hi]at h;exact agn h
 |exc x=>rw[hi]at h;exact h
 |ok ds=>
  rw[hi]at h;obtain⟨hz,h⟩:=Out.sat.dI h;have h:=h.bnd
  show(Out.when (decide (ds.length<=50000)) (bG tg tt te M (aU ρ vs) ds)).sat _ _
  rw[hz,Out.Mv];exact h.mono (λxs z l us H' n e hl r=>z _ H' e (.lst (.inl ⟨.inl hl,I.kd.fresh n⟩) (au.less (g:=g.add l) (g':=g) rfl (λa z=>z.elim .inl λz=>.inr (z.elim .inl λz=>.inr (.inl z))) r))) λ_ z=>z
end
section
variable{X:Cx}{aj:aA}{W:WX}{elt tg iter:Expr}{pos p tpos:Pos}
theorem ZR{X:Cx}:Takes X WF:=λu s' ⟨a,B,sI,pins,σ,H,cls,d,e,I,nb,up,sky,na,os,ag,w⟩=>agn w
theorem aaW{scope:Scope}{own:List (Str×Nat)}{it:IF}{tgf:bY}{js:List Nat}{tt:QT}{te:QF}{ifs:List Expr}(hc:X.calm=true)(hN:X.N.Nodup)(hi:QI aj X W false tg iter it)(ok:blkC X.N X.env.scope scope own=true)(hj:∀j∈js,j∈own.map (·.2))
  (hg:∀(s:Shared) (H:Hp) (C:Addr) (cl:List (Str×Addr)) (fp:List Addr),QG aj (X.blk s H scope (compEnvC scope cl C X.env) fp) tg js tgf)
  (ht:∀(s:Shared) (H:Hp) (C:Addr) (cl:List (Str×Addr)) (fp:List Addr),PTs (X.blk s H scope (compEnvC scope cl C X.env) fp) ifs (dY X.K aj WF tt))
  (he:∀(s:Shared) (H:Hp) (C:Addr) (cl:List (Str×Addr)) (fp:List Addr),QE aj (X.blk s H scope (compEnvC scope cl C X.env) fp) WF elt te) (hs:∀x,foldedSetIterable iter X.env x=pure x) :
  QE aj X W (.ListComp elt [⟨tg,iter,ifs,0⟩] scope pos) (fU it tgf (own.map (·.2)) tt te):=
 PE.weak (pe_lc (g:=lO X.K aj js tgf) (tt:=dY X.K aj WF tt) (te:=tQ X.K aj WF te) hc hN hi (blkOk_by ok) (λs H C cl fp=>hg s H C cl fp) ht (λs H C cl fp=>he s H C cl fp) hs) λσ H Q h=>Uj hj σ H Q h
theorem abw{scope:Scope}{own:List (Str×Nat)}{it:IF}{tgf:bY}{js:List Nat}{tt:QT}{te:QF}{ifs:List Expr}(hc:X.calm=true)(hN:X.N.Nodup)(hi:QI aj X W false tg iter it)(ok:blkC X.N X.env.scope scope own=true)(hj:∀j∈js,j∈own.map (·.2))
  (hg:∀(s:Shared) (H:Hp) (C:Addr) (cl:List (Str×Addr)) (fp:List Addr),QG aj (X.blk s H scope (compEnvC scope cl C X.env) fp) tg js tgf)
  (ht:∀(s:Shared) (H:Hp) (C:Addr) (cl:List (Str×Addr)) (fp:List Addr),PTs (X.blk s H scope (compEnvC scope cl C X.env) fp) ifs (dY X.K aj WF tt))
  (he:∀(s:Shared) (H:Hp) (C:Addr) (cl:List (Str×Addr)) (fp:List Addr),QE aj (X.blk s H scope (compEnvC scope cl C X.env) fp) WF elt te) (hs:∀x,foldedSetIterable iter X.env x=pure x) :
  PE X (.ListComp elt [⟨tg,iter,ifs,0⟩] scope pos) (Pu X.K aj W (nu it tgf (own.map (·.2)) tt te)):=
 PE.weak (pe_lc (g:=lO X.K aj js tgf) (tt:=dY X.K aj WF tt) (te:=tQ X.K aj WF te) hc hN hi (blkOk_by ok) (λs H C cl fp=>hg s H C cl fp) ht (λs H C cl fp=>he s H C cl fp) hs) λσ H Q h=>Fq hj σ H Q h
end
def aV.sat{α:Type}(o:aV α)(P:α->Mo->Prop)(E:bL->Mo->Prop):Prop:=
 match o with
 |.ok a M=>P a M
 |.exc x M=>E x M
 |.bad=>False
def aV.bind{α β:Type}(o:aV α)(k:α->Mo->aV β):aV β:=
 match o with
 |.ok a M=>k a M
 |.exc x M=>.exc x M
 |.bad=>.bad
@[simp]theorem aV.VL {α β:Type} (a:α) (M:Mo) (k:α->Mo->aV β):(aV.ok a M).bind k=k a M:=rfl
@[simp]theorem aV.SM {α β:Type} (x:bL) (M:Mo) (k:α->Mo->aV β):(aV.exc x M:aV α).bind k=.exc x M:=rfl
@[simp]theorem aV.RM {α β:Type} (k:α->Mo->aV β):(aV.bad:aV α).bind k=.bad:=rfl
theorem aV.sat.bnd{α β:Type}{o:aV α}{k:α->Mo->aV β}{P:β->Mo->Prop}{E:bL->Mo->Prop}(h:(o.bind k).sat P E):o.sat (λa M=>(k a M).sat P E) E:=by cases o<;>exact h
theorem aV.sat.mono{α:Type}{o:aV α}{P P':α->Mo->Prop}{E E':bL->Mo->Prop}(h:o.sat P E)(hp:∀a M,P a M->P' a M)(he:∀x M,E x M->E' x M):o.sat P' E':=by
 cases o
 .exact hp _ _ h
 .exact he _ _ h
 .exact h
def Out.at{α:Type}(o:Out α)(M:Mo):aV α:=
 match o with
 |.ok a=>.ok a M
 |.exc x=>.exc x M
 |.bad=>.bad
@[simp]theorem Out.Lg {α:Type} (a:α) (M:Mo):(Out.ok a).at M=.ok a M:=rfl
@[simp]theorem Out.Yk {α:Type} (x:bL) (M:Mo):(Out.exc x:Out α).at M=.exc x M:=rfl
@[simp]theorem Out.Zo {α:Type} (M:Mo):(Out.bad:Out α).at M=.bad:=rfl
theorem Out.cP{α:Type}{o:Out α}{M:Mo}{P:α->Mo->Prop}{E:bL->Mo->Prop}(h:(o.at M).sat P E):o.sat (λa=>P a M) λx=>E x M:=by cases o<;>exact h
abbrev GF:=Mo->Env->aV Dat
abbrev GT:=Mo->Env->aV Bool
def ig.sat(o:ig)(nx:Env->Mo->Prop)(rt:Dat->Mo->Prop)(bk ct:Env->Mo->Prop)(ex:bL->Env->Mo->Prop):Prop:=
 match o with
 |.next ρ M=>nx ρ M
 |.ret d M=>rt d M
 |.brk ρ M=>bk ρ M
 |.cont ρ M=>ct ρ M
 |.exc x ρ M=>ex x ρ M
 |.bad=>False
theorem ig.sat.mono{o:ig}{nx nx':Env->Mo->Prop}{rt rt':Dat->Mo->Prop}{bk bk' ct ct':Env->Mo->Prop}{ex ex':bL->Env->Mo->Prop}(h:o.sat nx rt bk ct ex)(h1:∀ρ M,nx ρ M->nx' ρ M)(h2:∀d M,rt d M->rt' d M)(h3:∀ρ M,bk ρ M->bk' ρ M)(h4:∀ρ M,ct ρ M->ct' ρ M)(h5:∀x ρ M,ex x ρ M->ex' x ρ M):o.sat nx' rt' bk' ct' ex':=by
 cases o
 .exact h1 _ _ h
 .exact h2 _ _ h
 .exact h3 _ _ h
 .exact h4 _ _ h
 .exact h5 _ _ _ h
 .exact h
abbrev SF:=Mo->Env->ig
def Gh.fr(g:Gh):Gh:={ g with Lo:=λ_=>False }
section
variable(K:afr)(aj:aA)(W:WX)(q:Bool)
def gE(g:Gh)(H:Hp)(σ:L2.St)(ρ:Env)(x:bL)(M':Mo):Prop:=∀H' g' c dd,Gr q g g' H H'->SInv K aj σ H' g' ρ M'->iQ K aj g' H' x c dd->W c dd σ H'
def tE(f:GF):TE:=λσ H Q=>∃g ρ M,SInv K aj σ H g ρ M/\(f M ρ).sat (λd M'=>∀v H' g',Gr q g g' H H'->SInv K aj σ H' g' ρ M'->Rep K g' H' v d->Q v H') (gE K aj W q g H σ ρ)
def ZF(f:GT):TT:=λσ H Q=>∃g ρ M,SInv K aj σ H g ρ M/\(f M ρ).sat (λb M'=>∀H' g',Gr q g g' H H'->SInv K aj σ H' g' ρ M'->Q b H') (gE K aj W q g H σ ρ)
def sN(k:L2.St->Hp->Prop)(g:Gh)(H:Hp)(Z':Env)(M':Mo):Prop:=∀σ' H' g',Gr q g g' H H'->SInv K aj σ' H' g' Z' M'->k σ' H'
def sR(k:VK)(g:Gh)(H:Hp)(d:Dat)(M':Mo):Prop:=∀v H' g',Gr q g g' H H'->Kd g'.fr H'->cG K aj g'.fr H' M'->Rep K g'.fr H' v d->k v H'
def sX(g:Gh)(H:Hp)(x:bL)(Z':Env)(M':Mo):Prop:=∀σ' H' g' c dd,Gr q g g' H H'->SInv K aj σ' H' g' Z' M'->iQ K aj g'.fr H' x c dd->W c dd σ' H'
def tS(f:SF):TS:=λD σ H=>∃g ρ M,SInv K aj σ H g ρ M/\(f M ρ).sat (sN K aj q D.nx g H) (sR K aj q D.rt g H) (sN K aj q D.bk g H) (sN K aj q D.ct g H) (sX K aj W q g H)
end
section
variable{K:afr}{aj:aA}{W:WX}{q:Bool}{g g1:Gh}{H H1:Hp}{σ:L2.St}{ρ:Env}{M:Mo}
theorem gE.gr{x:bL}{M':Mo}(r:Gr q g g1 H H1)(h:gE K aj W q g H σ ρ x M'):gE K aj W q g1 H1 σ ρ x M':=λH' g' c dd r' I z=>h H' g' c dd (r.trans r') I z
theorem sN.gr{k:L2.St->Hp->Prop}{Z':Env}{M':Mo}(r:Gr q g g1 H H1)(h:sN K aj q k g H Z' M'):sN K aj q k g1 H1 Z' M':=λσ' H' g' r' I=>h σ' H' g' (r.trans r') I
theorem sR.gr{k:VK}{d:Dat}{M':Mo}(r:Gr q g g1 H H1)(h:sR K aj q k g H d M'):sR K aj q k g1 H1 d M':=λv H' g' r' I z y=>h v H' g' (r.trans r') I z y
theorem sX.gr{x:bL}{Z':Env}{M':Mo}(r:Gr q g g1 H H1)(h:sX K aj W q g H x Z' M'):sX K aj W q g1 H1 x Z' M':=λσ' H' g' c dd r' I z=>h σ' H' g' c dd (r.trans r') I z
theorem tE.go{f:GF}{k:Dat->Mo->Prop}{Q:VK}(I:SInv K aj σ H g ρ M)(h:(f M ρ).sat k (gE K aj W q g H σ ρ))(hk:∀d M' v H' g',k d M'->Gr q g g' H H'->SInv K aj σ H' g' ρ M'->Rep K g' H' v d->Q v H'):tE K aj W q f σ H Q:=
 ⟨g,ρ,M,I,h.mono (λd M' hd v H' g' e I' r=>hk d M' v H' g' hd e I' r) λ_ _ z=>z⟩
theorem ZF.go{f:GT}{k:Bool->Mo->Prop}{Q:Bool->Hp->Prop}(I:SInv K aj σ H g ρ M)(h:(f M ρ).sat k (gE K aj W q g H σ ρ))(hk:∀b M' H' g',k b M'->Gr q g g' H H'->SInv K aj σ H' g' ρ M'->Q b H'):ZF K aj W q f σ H Q:=
 ⟨g,ρ,M,I,h.mono (λd M' hd H' g' e I'=>hk d M' H' g' hd e I') λ_ _ z=>z⟩
theorem tS.go{f:SF}{D:Ends}(I:SInv K aj σ H1 g1 ρ M)(r:Gr q g g1 H H1)(h:(f M ρ).sat (sN K aj q D.nx g H) (sR K aj q D.rt g H) (sN K aj q D.bk g H) (sN K aj q D.ct g H) (sX K aj W q g H)):tS K aj W q f D σ H1:=
 ⟨g1,ρ,M,I,h.mono (λ_ _ z=>z.gr r) (λ_ _ z=>z.gr r) (λ_ _ z=>z.gr r) (λ_ _ z=>z.gr r) (λ_ _ _ z=>z.gr r)⟩
theorem d7.less{g':Gh}{fs:List (Str×V)}{gs:List (Str×Dat)}(e:g'.tbl=g.tbl)(n:∀a,g'.A a->g.A a)(h:d7 K g H fs gs):d7 K g' H fs gs:=by
 induction h with
 |nil=>exact .nil
 |cons r _ ih=>exact .cons (r.less e n) ih
theorem iQ.less{g':Gh}{x:bL}{c:Value}{dd:Option Addr}(e:g'.tbl=g.tbl)(n:∀a,g'.A a->g.A a)(h:iQ K aj g H x c dd):iQ K aj g' H x c dd:=by obtain⟨C,h1,h2,h3⟩:=h;refine⟨C,h1,h2,h3.imp id λ⟨a,fs,e1,e2,e3⟩=>⟨a,fs,e1,e2,e3.less e n⟩⟩
theorem jR(g:Gh):∀a,g.fr.A a->g.A a:=λa z=>z.elim .inl λz=>.inr (z.elim .inl λz=>agn z)
theorem Rep.fr{v:V}{d:Dat}(h:Rep K g H v d):Rep K g.fr H v d:=Rep.less (g:=g) (g':=g.fr) rfl (jR g) h
theorem au.fr{v:List V}{d:List Dat}(h:au K g H v d):au K g.fr H v d:=au.less (g:=g) (g':=g.fr) rfl (jR g) h
theorem iQ.fr{x:bL}{c:Value}{dd:Option Addr}(h:iQ K aj g H x c dd):iQ K aj g.fr H x c dd:=iQ.less (g:=g) (g':=g.fr) rfl (jR g) h
end
def GE(aj:aA)(X:Cx)(W:WX)(q:Bool)(e:Expr)(f:GF):Prop:=PE X e (tE X.K aj W q f)
def GTe(aj:aA)(X:Cx)(W:WX)(q:Bool)(e:Expr)(f:GT):Prop:=PT X e (ZF X.K aj W q f)
def SE(aj:aA)(X:Cx)(W:WX)(q:Bool)(s:Stmt)(f:SF):Prop:=PS X s (tS X.K aj W q f)
def rK(aj:aA)(X:Cx)(W:WX)(q:Bool)(s:List Stmt)(f:SF):Prop:=PSs X s (tS X.K aj W q f)
theorem PS.weak{X:Cx}{e:Stmt}{t t':TS}(h:PS X e t)(k:∀D σ H,t' D σ H->t D σ H):PS X e t':=⟨λpins s σ H D I z=>h.run pins s σ H D I (k D σ H z)⟩
theorem PSs.weak{X:Cx}{e:List Stmt}{t t':TS}(h:PSs X e t)(k:∀D σ H,t' D σ H->t D σ H):PSs X e t':=⟨λpins s σ H D I z=>h.run pins s σ H D I (k D σ H z)⟩
def gOf(f:QF):GF:=λM ρ=>(f M ρ).at M
def RP(f:QT):GT:=λM ρ=>(f M ρ).at M
section
variable{X:Cx}{aj:aA}{W:WX}{q:Bool}{a b e:Expr}{pos:Pos}
theorem Ud{f:QF}(h:QE aj X W e f):GE aj X W q e (gOf f):=PE.weak h λσ H Q ⟨g,ρ,M,I,z⟩=>
 ⟨g,ρ,M,I,(Out.cP z).mono (λd k v H' e r=>k v H' g (Gr.ex e) (I.ex e) r) λx k H' c dd e r=>k H' g c dd (Gr.ex e) (I.ex e) r⟩
theorem abq{f:QT}(h:iT aj X W e f):GTe aj X W q e (RP f):=PT.weak h λσ H Q ⟨g,ρ,M,I,z⟩=>
 ⟨g,ρ,M,I,(Out.cP z).mono (λd k H' e=>k H' g (Gr.ex e) (I.ex e)) λx k H' c dd e r=>k H' g c dd (Gr.ex e) (I.ex e) r⟩
def aH:SF:=λM ρ=>.next ρ M
def aF(f k:SF):SF:=λM ρ=>match f M ρ with
 |.next Z' M'=>k M' Z'
 |o=>o
theorem YB:rK aj X W q [] aH:=PSs.weak pss_nil λD σ H ⟨g,ρ,M,I,z⟩=>z σ H g .refl I
theorem GP{s:Stmt}{f:SF}(h:SE aj X W q s f):rK aj X W q [s] f:=pss_one h
theorem WR{s:Stmt}{ss:List Stmt}{f k:SF}(h:SE aj X W q s f)(hs:rK aj X W q ss k):rK aj X W q (s::ss) (aF f k):=by
 refine PSs.weak (pss_cons h hs) λD σ H ⟨g,ρ,M,I,z⟩=>?_;refine⟨g,ρ,M,I,?_⟩;unfold aF at z;cases hf:f M ρ with
 |next Z' M'=>
  rw[hf]at z;exact λσ' H' g' r I'=>tS.go I' r z
 |ret d M'=>rw[hf]at z;exact z
 |brk Z' M'=>rw[hf]at z;exact z
 |cont Z' M'=>rw[hf]at z;exact z
 |exc x Z' M'=>rw[hf]at z;exact z
 |bad=>rw[hf]at z;exact z
def aV.then{α:Type}(o:aV α)(ρ:Env)(k:α->Mo->ig):ig:=
 match o with
 |.ok a M=>k a M
 |.exc x M=>.exc x ρ M
 |.bad=>.bad
@[simp]theorem aV.zf {α:Type} (a:α) (M:Mo) (ρ:Env) (k:α->Mo->ig):(aV.ok a M).then ρ k=k a M:=rfl
@[simp]theorem aV.R6 {α:Type} (x:bL) (M:Mo) (ρ:Env) (k:α->Mo->ig):(aV.exc x M:aV α).then ρ k=.exc x ρ M:=rfl
@[simp]theorem aV.RW {α:Type} (ρ:Env) (k:α->Mo->ig):(aV.bad:aV α).then ρ k=.bad:=rfl
theorem bA{α:Type}{K:afr}{g:Gh}{H:Hp}{σ:L2.St}{ρ:Env}{o:aV α}{k:α->Mo->ig}{nx bk ct:Env->Mo->Prop}{rt:Dat->Mo->Prop}(h:(o.then ρ k).sat nx rt bk ct (sX K aj W q g H)):o.sat (λa M=>(k a M).sat nx rt bk ct (sX K aj W q g H)) (gE K aj W q g H σ ρ):=by
 cases o with
 |ok a M=>exact h
 |exc x M=>exact λH' g' c dd r I z=>h σ H' g' c dd r I z.fr
 |bad=>exact h
def aY(tg:bY)(f:GF):SF:=λM ρ=>(f M ρ).then ρ λd M'=>match tg d ρ with
 |some Z'=>.next Z' M'
 |none=>.bad
theorem Fo{tg:Expr}{js:List Nat}{tf:bY}{f:GF}(he:GE aj X W q e f)(hg:QG aj X tg js tf)(hs:swapsWithSole [tg] e pos.line X.env=pure false)(hw:swappedStores [tg] e X.env=pure none)(h1:(assignEach [tg] X.env).map (·.2)=[assign tg X.env]):SE aj X W q (.Assign [tg] e pos) (aY tf f):=by
 refine PS.weak (ps_asg he hg hs hw h1) λD σ H ⟨g,ρ,M,I,z⟩=>?_;refine tE.go I (bA (σ:=σ) z) λd M' v H' g' k r I' rv=>?_;split at k
 .next Z' e'=>exact⟨g',ρ,M',d,Z',I',rv,e',λvs I2=>k _ H' g' r I2⟩
 .exact agn k
def uU(f:GF):SF:=λM ρ=>(f M ρ).then ρ λ_ M'=>.next ρ M'
theorem zP{f:GF}(he:GE aj X W q e f)(hs:swapsWith e none pos.line X.env=pure false):SE aj X W q (.Expr e pos) (uU f):=by refine PS.weak (ps_expr he hs) λD σ H ⟨g,ρ,M,I,z⟩=>?_;exact tE.go I (bA (σ:=σ) z) λd M' v H' g' k r I' rv=>k σ H' g' r I'
end
def xJ:Cell->Cell
 |.mut xs=>.dat (.list xs)
 |c=>c
def gj(ρ:Env):Env:=ρ.map λo=>o.map xJ
section
variable{K:afr}{aj:aA}{W:WX}{q:Bool}{g:Gh}{H:Hp}{σ:L2.St}{ρ:Env}{M:Mo}
theorem dB.less{g':Gh}{l:Addr}(e:g'.tbl=g.tbl)(n:∀a,g'.A a->g.A a):∀{b:Bool} {kvs:List (Dat×Dat)},dB K aj g H l b kvs->dB K aj g' H l b kvs
 |false,_,⟨kv,h1,h2,h3⟩=>⟨kv,h1,h2,h3.less e n⟩
 |true,_,⟨o,xs,vs,h1,h2,h3,h4,h5,h6⟩=>⟨o,xs,vs,h1,h2,h3,h4.less e n,h5,h6.less e n⟩
theorem bH.less{g':Gh}{h:Nat}{f:Str}{v:V}(e:g'.tbl=g.tbl)(e2:g'.ow=g.ow)(n:∀a,g'.A a->g.A a):∀{fl:cQ},bH K aj g H h f v fl->bH K aj g' H h f v fl
 |.dat _,z=>Rep.less e n z
 |.lst _ _,⟨l,us,h1,h2,h3,h4,h5⟩=>⟨l,us,h1,h2,by rw[e2];exact h3,h4.less e n,by rw[e];exact h5⟩
 |.dic _ _,⟨l,h1,h2,h3⟩=>⟨l,h1,by rw[e2];exact h2,h3.less e n⟩
theorem aW.less{g':Gh}{h:Nat}(e:g'.tbl=g.tbl)(e2:g'.ow=g.ow)(n:∀a,g'.A a->g.A a):∀{fs:List (Str×V)} {gs:List (Str×cQ)},aW K aj g H h fs gs->aW K aj g' H h fs gs
 |_,_,.nil=>.nil
 |_,_,.cons z t=>.cons (bH.less e e2 n z) (aW.less e e2 n t)
theorem cG.less{g':Gh}(e:g'.tbl=g.tbl)(e2:g'.ow=g.ow)(n:∀a,g'.A a->g.A a)(w:cG K aj g H M):cG K aj g' H M where
 len:=by rw[e];exact w.len
 inj:=by rw[e];exact w.inj
 ins:=λh a i ha hi hc=>by
  rw[e]at ha;obtain⟨C,dx,fs,c1,c2,c3⟩:=w.ins h a i ha hi hc;exact⟨C,dx,fs,c1,c2,c3.less e e2 n⟩
 nd:=w.nd
 fd:=w.fd
 tw:=by rw[e,e2];exact w.tw
 dm:=w.dm
 nc:=w.nc
theorem vR{i:Nat}{c:Cell}(h:(gj ρ)[i]?=some (some c)):∃c',ρ[i]?=some (some c')/\c=xJ c':=by
 unfold gj at h;rw[afI]at h;cases hr:ρ[i]? with
 |none=>rw[hr]at h;cases h
 |some o=>
  rw[hr]at h;cases o with
  |none=>cases h
  |some c'=>
   cases h;exact⟨c',rfl,rfl⟩
theorem SInv.gj(I:SInv K aj σ H g ρ M):SInv K aj σ H g.fr (gj ρ) M where
 kd:=⟨λa z=>I.kd.ob a (jR g a z),λa z=>agn z,λa z=>⟨(I.kd.lc a z).1,λy=>y⟩⟩
 wok:=cG.less (g:=g) (g':=g.fr) rfl rfl (jR g) I.wok
 len:=by unfold Rf.gj;rw[afy];exact I.len
 dat:=λi d h=>by
  obtain⟨c,h1,h2⟩:=vR h;cases c with
  |dat d'=>
   cases h2;obtain⟨v,e1,e2⟩:=I.dat i _ h1;exact⟨v,e1,e2.fr⟩
  | «mut» xs=>
   cases h2;obtain⟨l,us,e1,e2,e3,e4⟩:=I.own i _ h1;refine⟨_,e1,.lst (.inl ⟨.inl e2,λz=>?_⟩) e4.fr⟩;rcases z with z|z|z
   .exact I.kd.lo l e3 z
   .exact(I.kd.lc l z).2 e3
   .exact z
 own:=λi xs h=>by
  obtain⟨c,h1,h2⟩:=vR h;cases c<;>cases h2
 sep:=λi j xs ys l ne h1=>by
  obtain⟨c,h1,h2⟩:=vR h1;cases c<;>cases h2
end
section
variable{K:afr}{aj:aA}{W:WX}{q:Bool}{g g':Gh}{H H':Hp}{σ:L2.St}{ρ:Env}{M:Mo}
theorem Kd.fr(k:Kd g H):Kd g.fr H:=⟨λa z=>k.ob a (jR g a z),λa z=>agn z,λa z=>⟨(k.lc a z).1,λy=>y⟩⟩
theorem cG.fr(w:cG K aj g H M):cG K aj g.fr H M:=cG.less (g:=g) (g':=g.fr) rfl rfl (jR g) w
theorem jm{α:Type}{l:List (Option α)}{j i:Nat}{c:α}{o:Option α}(h:(l.set j o)[i]?=some (some c)):(j=i/\o=some c/\j<l.length)\/(j≠i/\l[i]?=some (some c)):=by
 by_cases z:j=i
 .subst z;have hj:j<l.length:=by
   have:=(afw.mp h).1;rw[afM]at this;exact this
  rw[afE hj]at h;exact .inl ⟨rfl,afR h,hj⟩
 .rw[afz z]at h;exact .inr ⟨z,h⟩
theorem SInv.Xl{j:Nat}{l:Addr}{us:List V}{xs:List Dat}(I:SInv K aj σ H g ρ M)(n:H l=none)(e:Ex H H')(hl:H' l=some (.lst us))(r:au K (g.add l) H' us xs):SInv K aj (σ.set j (some (.ref l))) H' (g.add l) (ρ.set j (some (.mut xs))) M:=by
 have I1:=I.add n e hl agm;have nl:∀(i:Nat) (ys:List Dat),ρ[i]?=some (some (.mut ys))->σ[i]?≠some (some (.ref l)):=λi ys h z=>by
  obtain⟨l',us',h1,h2,_⟩:=I.own i ys h;rw[z]at h1;cases h1;rw[n]at h2;cases h2
 refine⟨I1.kd,I1.wok,by rw[afM,afM];exact I.len,λi d h=>?_,λi ys h=>?_,λi k ys zs a ne h1 h2 h3 h4=>?_⟩
 .rcases jm h with⟨_,h,_⟩|⟨ne,h⟩
  .cases h
  .rw[afz ne];exact I1.dat i d h
 .rcases jm h with⟨rfl,h,hj⟩|⟨ne,h⟩
  .cases h;exact⟨l,us,by rw[afE (by rw[I.len];exact hj)],hl,.inr rfl,r⟩
  .rw[afz ne];exact I1.own i ys h
 .rcases jm h1 with⟨rfl,h1,hj⟩|⟨n1,h1⟩
  .rcases jm h2 with⟨rfl,h2,_⟩|⟨n2,h2⟩
   .exact ne rfl
   .rw[afE (by rw[I.len];exact hj)]at h3;cases h3;rw[afz n2]at h4;exact nl k zs h2 h4
  .rcases jm h2 with⟨rfl,h2,hj⟩|⟨n2,h2⟩
   .rw[afE (by rw[I.len];exact hj)]at h4;cases h4;rw[afz n1]at h3;exact nl i ys h1 h3
   .rw[afz n1]at h3;rw[afz n2]at h4;exact I.sep i k ys zs a ne h1 h2 h3 h4
theorem bH.loc{l:Addr}{o o':HO}{h:Nat}{f:Str}{v:V}(k:Kd g H)(hl:H l=some o)(lo:g.Lo l):∀{fl:cQ},bH K aj g H h f v fl->bH K aj g (upd H l o') h f v fl:=λ{fl} z=>by
 have r:Gr true g g H (upd H l o'):=Gr.upd k hl (.inr lo);cases fl with
 |dat d=>exact Rep.gr r k z
 |lst n xs=>
  obtain⟨a,ws,h1,h2,h3,h4,h5⟩:=z;exact⟨a,ws,h1,by rw[upd_ne (λz=>by subst z;exact k.lo _ lo (.inr (by rw[h3];exact λz=>nomatch z)))];exact h2,h3,h4.gr r k,h5⟩
 |dic n kvs=>
  obtain⟨a,h1,h2,h3⟩:=z;have na:a≠l:=λz=>by subst z;exact k.lo _ lo (.inr (by rw[h2];exact λz=>nomatch z))
  refine⟨a,h1,h2,?_⟩;cases n with
  |false=>
   obtain⟨kv,h3,h4,h5⟩:=h3;exact⟨kv,by rw[upd_ne na];exact h3,h4,h5.gr r k⟩
  |true=>
   obtain⟨o,xs,vs,h3,h4,h5,h6,h7,h8⟩:=h3;exact⟨o,xs,vs,by rw[upd_ne na];exact h3,h4,h5,h6.gr r k,h7,h8.gr r k⟩
theorem aW.loc{l:Addr}{o o':HO}{h:Nat}(k:Kd g H)(hl:H l=some o)(lo:g.Lo l):∀{fs:List (Str×V)} {gs:List (Str×cQ)},aW K aj g H h fs gs->aW K aj g (upd H l o') h fs gs
 |_,_,.nil=>.nil
 |_,_,.cons z t=>.cons (bH.loc k hl lo z) (aW.loc k hl lo t)
theorem cG.loc{l:Addr}{o o':HO}(k:Kd g H)(hl:H l=some o)(lo:g.Lo l)(w:cG K aj g H M):cG K aj g (upd H l o') M where
 len:=w.len
 inj:=w.inj
 ins:=λh a i ha hi hc=>by
  obtain⟨C,dx,fs,c1,c2,c3⟩:=w.ins h a i ha hi hc;exact⟨C,dx,fs,c1,by rw[upd_ne (λz=>by subst z;exact k.lo _ lo (.inl (afK ha)))];exact c2,c3.loc k hl lo⟩
 nd:=w.nd
 fd:=w.fd
 tw:=w.tw
 dm:=w.dm
 nc:=w.nc
theorem SInv.change{j:Nat}{xs ys:List Dat}(I:SInv K aj σ H g ρ M)(hj:ρ[j]?=some (some (.mut xs))):∃l us,σ[j]?=some (some (.ref l))/\H l=some (.lst us)/\g.Lo l/\au K g H us xs/\∀us',au K g H us' ys->SInv K aj σ (upd H l (.lst us')) g (ρ.set j (some (.mut ys))) M:=by
 obtain⟨l,us,h1,h2,h3,h4⟩:=I.own j xs hj;refine⟨l,us,h1,h2,h3,h4,λus' r=>?_⟩;have gr:Gr true g g H (upd H l (.lst us')):=Gr.upd I.kd h2 (.inr h3);refine⟨I.kd.upd agm,I.wok.loc I.kd h2 h3,by rw[afM];exact I.len,λi d h=>?_,λi zs h=>?_,λi k zs ws a ne e1 e2 e3 e4=>?_⟩
 .rcases jm h with⟨_,h,_⟩|⟨ne,h⟩
  .cases h
  .obtain⟨v,e1,e2⟩:=I.dat i d h;exact⟨v,e1,e2.gr gr I.kd⟩
 .rcases jm h with⟨rfl,h,_⟩|⟨ne,h⟩
  .cases h;exact⟨l,us',h1,agu,h3,r.gr gr I.kd⟩
  .obtain⟨l',ws,e1,e2,e3,e4⟩:=I.own i zs h;have nl:l'≠l:=λz=>by
    subst z;exact I.sep i j zs xs l' (Ne.symm ne) h hj e1 h1
   exact⟨l',ws,e1,by rw[upd_ne nl];exact e2,e3,e4.gr gr I.kd⟩
 .have k1:∃xs,ρ[i]?=some (some (.mut xs)):=by
   rcases jm e1 with⟨rfl,_,_⟩|⟨_,h⟩
   .exact⟨xs,hj⟩
   .exact⟨zs,h⟩
  have k2:∃xs,ρ[k]?=some (some (.mut xs)):=by
   rcases jm e2 with⟨rfl,_,_⟩|⟨_,h⟩
   .exact⟨xs,hj⟩
   .exact⟨ws,h⟩
  obtain⟨x1,k1⟩:=k1;obtain⟨x2,k2⟩:=k2;exact I.sep i k x1 x2 a ne k1 k2 e3 e4
end
section
variable{X:Cx}{aj:aA}{W:WX}{q:Bool}{a b e:Expr}{pos:Pos}
def aJ(f:QF):SF:=λM ρ=>((f M (gj ρ)).at M).then ρ λd M'=>.ret d M'
def Lk(f:GF):SF:=λM ρ=>(f M ρ).then ρ λd M'=>.ret d M'
theorem O6{f:QF}(he:QE aj X W e f):SE aj X W q (.Return (some e) pos) (aJ f):=by
 refine PS.weak (ps_ret he) λD σ H ⟨g,ρ,M,I,z⟩=>?_;refine⟨g.fr,gj ρ,M,I.gj,?_⟩;unfold aJ at z;cases hf:f M (gj ρ) with
 |ok d=>
  rw[hf]at z;exact λv H' e r=>z v H' g (Gr.ex e) (I.ex e).kd.fr (I.ex e).wok.fr r
 |exc x=>
  rw[hf]at z;exact λH' c dd e r=>z σ H' g c dd (Gr.ex e) (I.ex e) r
 |bad=>rw[hf]at z;exact agn z
theorem Uu{f:GF}(he:GE aj X W q e f):SE aj X W q (.Return (some e) pos) (Lk f):=by refine PS.weak (ps_ret he) λD σ H ⟨g,ρ,M,I,z⟩=>?_;exact tE.go I (bA (σ:=σ) z) λd M' v H' g' k r I' rv=>k v H' g' r I'.kd.fr I'.wok.fr rv.fr
def bx(t:QT)(f k:SF):SF:=λM ρ=>((t M (gj ρ)).at M).then ρ λc M'=>if c=true then f M' ρ else k M' ρ
def acs(t:GT)(f k:SF):SF:=λM ρ=>(t M ρ).then ρ λc M'=>if c=true then f M' ρ else k M' ρ
theorem aaQ{c:Expr}{s1 s2:List Stmt}{t:QT}{f k:SF}(hc:iT aj X W c t)(h1:rK aj X W q s1 f)(h2:rK aj X W q s2 k):SE aj X W q (.If c s1 s2 pos) (bx t f k):=by
 refine PS.weak (ps_if hc h1 h2) λD σ H ⟨g,ρ,M,I,z⟩=>?_;refine⟨g.fr,gj ρ,M,I.gj,?_⟩;unfold bx at z;cases hf:t M (gj ρ) with
 |ok d=>
  rw[hf]at z;intro H' e;cases d with
  |true=>exact tS.go (I.ex e) (Gr.ex e) z
  |false=>exact tS.go (I.ex e) (Gr.ex e) z
 |exc x=>
  rw[hf]at z;exact λH' c dd e r=>z σ H' g c dd (Gr.ex e) (I.ex e) r
 |bad=>rw[hf]at z;exact agn z
def cM(tg:bY)(body:SF):List Dat->Mo->Env->ig
 |[],M,ρ=>.next ρ M
 |d::ds,M,ρ=>match tg d ρ with
  |none=>.bad
  |some Z1=>match body M Z1 with
   |.next Z2 M2=>cM tg body ds M2 Z2
   |.cont Z2 M2=>cM tg body ds M2 Z2
   |.brk Z2 M2=>.next Z2 M2
   |.ret d M2=>.ret d M2
   |.exc x Z2 M2=>.exc x Z2 M2
   |.bad=>.bad
def lW(it:IF)(tg:bY)(body:SF):SF:=λM ρ=>((it M ρ).at M).then ρ λds M'=>cM tg body ds M' ρ
theorem Xa{tg iter:Expr}{body:List Stmt}{it:IF}{js:List Nat}{tf:bY}{f:SF}(hp:PassesOwn (model X.prog X.w) X.A X.env X.xe)(hc:X.calm=true)(hi:QI aj X W true tg iter it)(hg:QG aj X tg js tf)(hb:rK aj X W q body f)(hs:∀x,foldedSetIterable iter X.env x=pure x) :
  SE aj X W q (.For tg iter body [] pos) (lW it tf f):=by
 refine PS.weak (ps_for hp hc hi hg hb hs) λD σ H ⟨g,ρ,M,I,z⟩=>?_;refine⟨g,ρ,M,I,?_⟩;unfold lW at z;cases hf:it M ρ with
 |exc x=>
  rw[hf]at z;exact λH' c dd e r=>z σ H' g c dd (Gr.ex e) (I.ex e) r.fr
 |bad=>rw[hf]at z;exact agn z
 |ok ds=>
  rw[hf]at z;intro J C H1 e1 w c1 firm;have firm:=firm rfl;have z:(cM tf f ds M ρ).sat (sN X.K aj q D.nx g H) (sR X.K aj q D.rt g H) (sN X.K aj q D.bk g H) (sN X.K aj q D.ct g H) (sX X.K aj W q g H):=z
  let Pv:Nat->L2.St->Hp->Prop:=λi σi Hi=>i<=ds.length/\∃gi ρi Mi,Gr q g gi H Hi/\SInv X.K aj σi Hi gi ρi Mi/\C gi Hi/\(cM tf f (ds.drop i) Mi ρi).sat (sN X.K aj q D.nx g H) (sR X.K aj q D.rt g H) (sN X.K aj q D.bk g H) (sN X.K aj q D.ct g H) (sX X.K aj W q g H)
  refine⟨λi m σi Hi=>m=ds.length-i/\Pv i σi Hi,⟨ds.length,rfl,afU _,g,ρ,M,Gr.ex e1,I.ex e1,c1,by rw[af7];exact z⟩,?_⟩;rintro i m σi Hi ⟨rfl,hi,gi,ρi,Mi,ri,Ii,Ci,zi⟩;by_cases hlt:i<ds.length
  .refine .inr ⟨w.go _ i Hi Ci hlt,Pv (i+1),λσ' H' p=>⟨ds.length-(i+1),by omega,rfl,p⟩,λx H' y=>?_⟩;have hd:ds[i]?=some ds[i]:=afx hlt;obtain⟨e2,rx⟩:=w.yld _ i Hi x H' _ Ii.kd Ci hd y;rw[af2 hlt,cM]at zi;split at zi
   .exact agn zi
   .next Z1 he=>
    have I2:=Ii.ex e2;refine⟨gi,ρi,Mi,_,Z1,I2,rx,he,λvs I3=>⟨gi,Z1,Mi,I3,?_⟩⟩;have r2:=ri.trans (Gr.ex e2);cases hb':f Mi Z1 with
    |next Z2 M2=>
     rw[hb']at zi;exact λσ' H2 g2 r I'=>⟨hlt,g2,Z2,M2,r2.trans r,I',firm q gi g2 H' H2 I2.kd (w.ex _ _ _ Ii.kd Ci e2) r,zi⟩
    |cont Z2 M2=>
     rw[hb']at zi;exact λσ' H2 g2 r I'=>⟨hlt,g2,Z2,M2,r2.trans r,I',firm q gi g2 H' H2 I2.kd (w.ex _ _ _ Ii.kd Ci e2) r,zi⟩
    |brk Z2 M2=>
     rw[hb']at zi;exact sN.gr r2 zi
    |ret d M2=>
     rw[hb']at zi;exact sR.gr r2 zi
    |exc x Z2 M2=>
     rw[hb']at zi;exact sX.gr r2 zi
    |bad=>rw[hb']at zi;exact agn zi
  .have e:i=ds.length:=by omega
   refine .inl ⟨w.stop _ i Hi Ci e,?_⟩;rw[e,af8]at zi;exact zi σi Hi gi ri Ii
def KR(j:Nat)(f:QF):SF:=λM ρ=>match ρ[j]? with
 |some (some (.dat (.int i)))=>((f M ρ).at M).then ρ λd M'=>match d with
  |.int k=>.next (ρ.set j (some (.dat (.int (i+k))))) M'
  |_=>.bad
 |_=>.bad
theorem ZM{j:Nat}{x:Str}{f:QF}{pos':Pos}(hN:X.N.Nodup)(hi:X.N[j]?=some x)(hx:Loc X.env.scope x)(hf:X.fn x=true\/X.env.scope.names.lookup x=some .local)(he:QE aj X W e f):SE aj X W q (.AugAssign (.Name x pos') .Add e pos) (KR j f):=by
 refine PS.weak (ps_aug hN hi hx he ip_add hf) λD σ H ⟨g,ρ,M,I,z⟩=>?_;unfold KR at z;split at z
 .next i hj=>
  obtain⟨v,h1,h2⟩:=I.dat j _ hj;cases h2;refine⟨.int i,h1,⟨g,ρ,M,I,?_⟩⟩;cases hf':f M ρ with
  |exc x=>rw[hf']at z;exact λH' c dd e r=>z σ H' g c dd (Gr.ex e) (I.ex e) r.fr
  |bad=>rw[hf']at z;exact agn z
  |ok d=>
   rw[hf']at z;intro u H' e r;cases d with
   |int k=>
    cases r;exact⟨i,k,rfl,rfl,z _ H' g (Gr.ex e) ((I.ex e).set (.int _))⟩
   |_=>exact agn z
 .exact agn z
def FE(aj:aA)(X:Cx)(W:WX)(e:Expr)(f:IF):Prop:=PE X e (Pu X.K aj W f)
def pA(j:Nat)(f:IF):SF:=λM ρ=>((f M ρ).at M).then ρ λxs M'=>.next (ρ.set j (some (.mut xs))) M'
theorem Ls{j:Nat}{f:IF}(D:Ends)(σ:L2.St)(H:Hp)(h:tS X.K aj W q (pA j f) D σ H):tAsg (Pu X.K aj W f) (gName j) D σ H:=by
 obtain⟨g,ρ,M,I,z⟩:=h;refine⟨g,ρ,M,I,?_⟩;unfold pA at z;cases hf:f M ρ with
 |exc x=>rw[hf]at z;exact λH' c dd e r=>z σ H' g c dd (Gr.ex e) (I.ex e) r.fr
 |bad=>rw[hf]at z;exact agn z
 |ok xs=>
  rw[hf]at z;intro l us H' n e hl r;have gr:Gr true g (g.add l) H H':=Gh.pJ n e;refine z _ H' (g.add l) ?_ (I.Xl n e hl r);cases q with
  |true=>exact gr
  |false=>exact gr.loud
theorem Oj{j:Nat}{x:Str}{f:IF}{pos':Pos}(hN:X.N.Nodup)(hi:X.N[j]?=some x)(hx:Loc X.env.scope x)(hf:X.fn x=true\/X.env.scope.names.lookup x=some .local)(he:FE aj X W e f)(hs:swapsWith e (some (.Name x pos')) pos.line X.env=pure false):SE aj X W q (.Assign [.Name x pos'] e pos) (pA j f):=
 PS.weak (ps_set hN hi hx he hs hf) λD σ H h=>Ls D σ H h
def Nu(f:QA):IF:=λM ρ=>(f M ρ).bind λxs=>Out.when (decide (xs.length<=100000)) (.ok xs)
theorem vO{K:afr}{g:Gh}{H:Hp}{l:Addr}{vs:List V}{ds:List Dat}(k:Kd g H)(n:H l=none)(r:au K g H vs ds){o:HO}:au K (g.add l) (upd H l o) vs ds:=r.gr (Gh.pJ n (Ex.new n)) k
theorem aac{es:List Expr}{fr:QA}(h:pN aj X W es fr):FE aj X W (.List es pos) (Nu fr):=
 PE.weak (pe_lst h) λσ H Q ⟨g,ρ,M,I,h⟩=>by
  refine vA.go I h.bnd λds vs H1 h1 e1 r1=>?_;obtain⟨hz,h1⟩:=h1.dI;have hl:vs.length<=100000:=by rw[r1.length];exact agp hz
  exact⟨sz_of hl,λp np=>h1 p vs _ (j7 e1 p np) (e1.trans (Ex.new np)) agu (vO (I.kd.ex e1) np r1)⟩
def vg:Dat->Out (List Dat)
 |.list ds=>.ok ds
 |.tuple ds=>.ok ds
 |_=>.bad
def rC(f:QF):IF:=λM ρ=>(f M ρ).bind vg
theorem VN{f:QF}{p:Pos}(hg:Gl X "list")(hm:X.mg "list"=none)(hv:BV (.type "list") "list")(ha:QW aj X W a f)(hs:nst a=true):FE aj X W (.Call (.Name "list" p) [a] [] pos) (rC f):=by
 have h1:=pa_cons ha pa_nil (aM hs []);refine PE.weak (pe_callTy (pos:=pos) (p:=p) call_list_of hg hm hv.1 h1 hv.2.1 hv.2.2 (aM hs []) (by with_unfolding_all rfl)) λσ H Q ⟨g,ρ,M,I,h⟩=>?_;refine tW.go I h.bnd λd v H1 h1 e1 r1=>?_;unfold vg at h1;split at h1
 .obtain⟨p,us,rfl,s1,t1⟩:=bZ r1;exact⟨p,us,rfl,.inl s1,λl nl=>h1 l us _ (j7 e1 l nl) (e1.trans (Ex.new nl)) agu (vO (I.kd.ex e1) nl t1)⟩
 .obtain⟨p,us,rfl,s1,t1⟩:=dG r1;exact⟨p,us,rfl,.inr s1,λl nl=>h1 l us _ (j7 e1 l nl) (e1.trans (Ex.new nl)) agu (vO (I.kd.ex e1) nl t1)⟩
 .exact agn h1
def baseOk:Expr->Bool
 |.Call (.Name _ _) _ _ _=>false
 |_=>true
theorem cA{o:Expr}{m:Str}{env:PySem.Env}{w:Sem Value}(h:baseOk o=true):attributeBase o m env w=w:=by
 cases o with
 | Call f as ks p=>cases f<;>first | rfl | cases h
 |_=>rfl
theorem nM{env:PySem.Env}{pos:Pos}:∀(es:List Expr),es.all nst=true->(backTo pos (starEach es env)).all (λx=>!x.1)=true
 |[],_=>by with_unfolding_all rfl
 |a::es,h=>by
  rw[afW,afs]at h;rw[aM h.1];have ih:=nM (env:=env) (pos:=pos) es h.2;unfold backTo at ih |-
  rw[aft,afW,ih];rfl
theorem few{env:PySem.Env}{pos:Pos}{es:List Expr}(h:es.all nst=true)(hl:es.length<30):((backTo pos (starEach es env)).all (λx=>!x.1)&&(backToKw pos (keywordEach [] env)).all (λx=>x.1.isSome)&&decide (es.length+([]:List Keyword).length+(if ([]:List Keyword).isEmpty then 0 else 1)<30))=true:=by
 rw[nM es h];have:(backToKw pos (keywordEach [] env)).all (λx=>x.1.isSome)=true:=by with_unfolding_all rfl
 rw[this];simpa using hl
def pB(j:Nat)(f:QF):SF:=λM ρ=>match ρ[j]? with
 |some (some (.mut xs))=>((f M ρ).at M).then ρ λd M'=>if xs.length<100000 then .next (ρ.set j (some (.mut (xs++[d])))) M' else .bad
 |_=>.bad
theorem aal{j:Nat}{x:Str}{f:QF}{p apos:Pos}{epos:Pos}(hN:X.N[j]?=some x)(hv:Vis X.env.scope x)(hd:(x==("__debug__" : Str))=false)(hcd:(x==("__classdict__" : Str))=false)(he:QE aj X W e f)(hs:nst e=true)
  (hl:(apos.endLine==pos.line)=true):SE aj X W q (.Expr (.Call (.Attribute (.Name x p) "append" apos) [e] [] pos) epos) (pB j f):=by
 have h0:=pe_var (X:=X) (pos:=p) hN hv hd hcd;have h1:=pa_cons he pa_nil (aM hs []);have key:=pe_bm (X:=X) (cpos:=pos) (apos:=apos) PySem.F.plainAttrs_list PySem.F.slot_list_append PySem.F.type_list_append mt_append h0 h1 (cA rfl) (few (by simp[hs]) (by simp)) hl (aM hs []) (by with_unfolding_all rfl);refine PS.weak (ps_expr key (by with_unfolding_all rfl)) λD σ H ⟨g,ρ,M,I,z⟩=>?_;unfold pB at z;split at z
 .next xs hj=>
  obtain⟨l,us,e1,e2,e3,e4⟩:=I.own j xs hj;refine⟨.ref l,e1,.inl ⟨rfl,us,sq_of e2⟩,⟨g,ρ,M,I,?_⟩⟩;cases hf:f M ρ with
  |exc x=>rw[hf]at z;exact λH' c dd e r=>z σ H' g c dd (Gr.ex e) (I.ex e) r.fr
  |bad=>rw[hf]at z;exact agn z
  |ok d=>
   rw[hf]at z;intro v H' e r;have z:(if xs.length<100000 then ig.next (ρ.set j (some (.mut (xs++[d])))) M else .bad).sat (sN X.K aj q D.nx g H) (sR X.K aj q D.rt g H) (sN X.K aj q D.bk g H) (sN X.K aj q D.ct g H) (sX X.K aj W q g H):=z;split at z
   .next hlen=>
    have I1:=I.ex e;obtain⟨l',us',f1,f2,f3,f4,f5⟩:=I1.change (ys:=xs++[d]) hj;rw[e1]at f1;cases f1;rw[e _ _ e2]at f2;cases f2;refine⟨l,us,v,rfl,rfl,e _ _ e2,sz_lt (by rw[e4.length];exact hlen),?_⟩;exact z _ _ g ((Gr.ex e).trans (Gr.upd I1.kd (e _ _ e2) (.inr f3))) (f5 _ (f4.append (.cons r .nil)))
   .exact agn z
 .exact agn z
def wW(j:Nat)(fi f:QF):SF:=λM ρ=>match ρ[j]? with
 |some (some (.mut xs))=>((f M ρ).at M).then ρ λd M'=>((fi M' ρ).at M').then ρ λi M2=>match i with
  |.int k=>match ixN xs.length k with
   |some n=>.next (ρ.set j (some (.mut (xs.set n d)))) M2
   |none=>.bad
  |_=>.bad
 |_=>.bad
theorem Uq{j:Nat}{x:Str}{i:Expr}{f fi:QF}{p spos:Pos}(hN:X.N[j]?=some x)(hv:Vis X.env.scope x)(hd:(x==("__debug__" : Str))=false)(hcd:(x==("__classdict__" : Str))=false)(he:QE aj X W e f)(hi:QE aj X W i fi)
  (ha:∀v,assign (.Subscript (.Name x p) i spos) X.env v=(do
   let ov <-holding [v] (eval (.Name x p) X.env)
   let iv <-holding [v,ov] (eval i X.env)
   standAt spos
   holding [v,ov,iv] (setItem ov iv v)
   release [v,ov,iv] []))
  (hs:swapsWithSole [.Subscript (.Name x p) i spos] e pos.line X.env=pure false) (h1:(assignEach [.Subscript (.Name x p) i spos] X.env).map (·.2)=[assign (.Subscript (.Name x p) i spos) X.env]):SE aj X W q (.Assign [.Subscript (.Name x p) i spos] e pos) (wW j fi f):=by
 have h0:=pe_var (X:=X) (pos:=p) hN hv hd hcd;refine PS.weak (ps_asg he (pg_sub h0 hi set_list ha) hs (by with_unfolding_all rfl) h1) λD σ H ⟨g,ρ,M,I,z⟩=>?_;unfold wW at z;split at z
 .next xs hj=>
  refine⟨g,ρ,M,I,?_⟩;cases hf:f M ρ with
  |exc x=>rw[hf]at z;exact λH' c dd e r=>z σ H' g c dd (Gr.ex e) (I.ex e) r.fr
  |bad=>rw[hf]at z;exact agn z
  |ok d=>
   rw[hf]at z;intro v H1 e1 r1;have I1:=I.ex e1;obtain⟨l,us,f1,f2,f3,f4⟩:=I1.own j xs hj;refine⟨.ref l,f1,⟨g,ρ,M,I1,?_⟩⟩;cases hfi:fi M ρ with
   |exc x=>
    simp only[Out.Lg,aV.zf,hfi,Out.Yk,aV.R6]at z;exact λH' c dd e r=>z σ H' g c dd ((Gr.ex e1).trans (Gr.ex e)) (I1.ex e) r.fr
   |bad=>
    simp only[Out.Lg,aV.zf,hfi,Out.Zo,aV.RW]at z;exact agn z
   |ok k=>
    simp only[Out.Lg,aV.zf,hfi]at z;intro w H2 e2 r2;cases k with
    |int k=>
     simp only at z;split at z
     .next n hn=>
      have I2:=I1.ex e2;obtain⟨l',us',k1,k2,k3,k4,k5⟩:=I2.change (ys:=xs.set n d) hj;rw[f1]at k1;cases k1;rw[e2 _ _ f2]at k2;cases k2;cases r2;refine⟨l,us,k,n,rfl,rfl,e2 _ _ f2,by rw[f4.length];exact hn,?_⟩;exact z _ _ g (((Gr.ex e1).trans (Gr.ex e2)).trans (Gr.upd I2.kd (e2 _ _ f2) (.inr k3))) (k5 _ (k4.set (r1.ex e2 I1.kd) n))
     .exact agn z
    |_=>exact agn z
 .exact agn z
end
structure Gc(g g':Gh)(H H':Hp):Prop where
 keep:∀a o,H a=some o->¬g.W a->H' a=some o
 dom:∀a,H' a=none->H a=none
 tbl:∃more,g'.tbl=g.tbl++more
 W:∀a,g.W a->g'.W a
 nW:∀a,g'.W a->g.W a\/H a=none
 Lc:g'.Lc=g.Lc
 Lo:g'.Lo=g.Lo
def ql(K:afr)(aj:aA)(n:Nat)(m:Mo->List Dat->Out Dat):Sp:=λvs H Q E=>vs.length=n/\∃g M ds,Kd g H/\cG K aj g H M/\au K g H vs ds/\
 (m M ds).sat (λd=>∀v H',Ex H H'->Rep K g H' v d->Q v H') λx=>∀H' c dd,Ex H H'->iQ K aj g H' x c dd->E c dd H'
def Um(K:afr)(aj:aA)(n:Nat)(m:Mo->List Dat->aV Dat):Sp:=λvs H Q E=>vs.length=n/\∃g M ds,Kd g H/\cG K aj g H M/\au K g H vs ds/\
 (m M ds).sat (λd M'=>∀v H' g',Gc g g' H H'->Kd g' H'->cG K aj g' H' M'->Rep K g' H' v d->Q v H') λx M'=>∀H' g' c dd,Gc g g' H H'->Kd g' H'->cG K aj g' H' M'->iQ K aj g' H' x c dd->E c dd H'
section
variable{K:afr}{aj:aA}{W:WX}{g g':Gh}{H H':Hp}{σ:L2.St}{ρ:Env}{M M':Mo}
theorem Gc.gr(r:Gc g g' H H'):Gr false g g' H H':=⟨λa o h n _=>r.keep a o h n,(λz=>nomatch z),r.dom,r.tbl,r.W,r.nW,(λz=>nomatch z),r.Lc,λa h=>by rw[r.Lo];exact h,λa h=>by rw[r.Lo]at h;exact .inl h⟩
theorem SInv.call(r:Gc g g' H H')(k':Kd g' H')(w':cG K aj g' H' M')(I:SInv K aj σ H g ρ M):SInv K aj σ H' g' ρ M' where
 kd:=k'
 wok:=w'
 len:=I.len
 dat:=λi d h=>by
  obtain⟨v,h1,h2⟩:=I.dat i d h;exact⟨v,h1,h2.gr r.gr I.kd⟩
 own:=λi xs h=>by
  obtain⟨l,us,h1,h2,h3,h4⟩:=I.own i xs h;exact⟨l,us,h1,r.keep _ _ h2 (I.kd.lo l h3),by rw[r.Lo];exact h3,h4.gr r.gr I.kd⟩
 sep:=I.sep
def Gh.in(g:Gh):Gh:={ g with Lc:=λa=>g.Lc a\/g.Lo a,Lo:=λ_=>False }
theorem Td(g:Gh)(a:Addr):g.in.A a↔g.A a:=by
 constructor
 .rintro(z|(z|z)|z)
  .exact .inl z
  .exact .inr (.inl z)
  .exact .inr (.inr z)
  .exact agn z
 .rintro(z|z|z)
  .exact .inl z
  .exact .inr (.inl (.inl z))
  .exact .inr (.inl (.inr z))
theorem Kd.in(k:Kd g H):Kd g.in H:=⟨λa z=>k.ob a ((Td g a).mp z),λa z=>agn z,λa z=>⟨z.elim (λz=>(k.lc a z).1) (λz=>k.lo a z),λy=>y⟩⟩
def ini(n:Nat)(ds:List Dat):Env:=ds.map (λd=>some (.dat d))++List.replicate (n-ds.length) none
theorem V4{N:List Str}{vs:List V}{ds:List Dat}(k:Kd g H)(w:cG K aj g H M)(r:au K g H vs ds):SInv K aj (start N vs) H g (ini N.length ds) M where
 kd:=k
 wok:=w
 len:=by unfold L2.start ini;rw[afZ,afZ,afy,afy,List.length_replicate,List.length_replicate,r.length]
 dat:=λi d h=>by
  unfold ini at h;unfold L2.start;by_cases hi:i<ds.length
  .rw[afH (by rw[afy];exact hi),afI]at h;cases hd:ds[i]? with
   |none=>rw[hd]at h;cases h
   |some d'=>
    rw[hd]at h;cases h;obtain⟨v,h1,h2⟩:=r.get hd;refine⟨v,?_,h2⟩;rw[afH (by rw[afy,r.length];exact hi),afI,h1];rfl
  .rw[afL (by rw[afy];omega)]at h;rw[List.getElem?_replicate]at h;split at h<;>cases h
 own:=λi xs h=>by
  unfold ini at h;by_cases hi:i<ds.length
  .rw[afH (by rw[afy];exact hi),afI]at h;cases hd:ds[i]? with
   |none=>rw[hd]at h;cases h
   |some d'=>rw[hd]at h;cases h
  .rw[afL (by rw[afy];omega)]at h;rw[List.getElem?_replicate]at h;split at h<;>cases h
 sep:=λi j xs ys l ne h=>by
  unfold ini at h;by_cases hi:i<ds.length
  .rw[afH (by rw[afy];exact hi),afI]at h;cases hd:ds[i]? with
   |none=>rw[hd]at h;cases h
   |some d'=>rw[hd]at h;cases h
  .rw[afL (by rw[afy];omega)]at h;rw[List.getElem?_replicate]at h;split at h<;>cases h
end
def mQ(n:Nat)(body:SF):Mo->List Dat->Out Dat:=λM ds=>match body M (ini n ds) with
 |.ret d _=>.ok d
 |.next _ _=>.ok .none
 |.exc x _ _=>.exc x
 |_=>.bad
def mG(n:Nat)(body:SF):Mo->List Dat->aV Dat:=λM ds=>match body M (ini n ds) with
 |.ret d M'=>.ok d M'
 |.next _ M'=>.ok .none M'
 |.exc x _ M'=>.exc x M'
 |_=>.bad
section
variable{P:Program}{w:World}{K:afr}{mg:Str->Option Value}{base:Heap}{aj:aA}
def RJ(E:XK):WX:=λc d _ H=>E c d H
theorem Rep.same{g g':Gh}{H:Hp}{v:V}{d:Dat}(e:g'.tbl=g.tbl)(n:∀a,g'.A a↔g.A a)(h:Rep K g H v d):Rep K g' H v d:=h.less e λa z=>(n a).mp z
theorem Kz{g g':Gh}{H H':Hp}(r:Gr true g.in g' H H'):Ex H H':=λa o h=>by
 by_cases w:g.W a
 .exact r.keepW rfl a o h w
 .exact r.keep a o h w λz=>z
theorem ab7{q:Bool}{g g':Gh}{H H':Hp}(r:Gr q g.in g' H H')(a:Addr):g'.fr.A a↔(g'.W a\/g.Lc a\/g.Lo a):=by
 have hl:g'.Lc=g.in.Lc:=r.Lc;constructor
 .rintro(z|z|z)
  .exact .inl z
  .have z:g'.Lc a:=z;rw[hl]at z;exact .inr z
  .exact agn z
 .rintro(z|z)
  .exact .inl z
  .refine .inr (.inl ?_);show g'.Lc a;rw[hl];exact z
theorem Fun.okC{C:CXT}{x qual:Str}{st:Stmt}{f:Addr}{fd:FuncData}{N ps:List Str}{k:Nat}{sp:Sp}(F:Fun K x qual st f fd)(S:FnScope N ps (defScope st))(len:∀vs H Q E,sp vs H Q E->vs.length=ps.length)
  (hbody:∀(cdv:Value) (A:Around) (outer:List PySem.Env) (s:Shared) (H:Hp) (vs:List V) (Q:VK) (E:XK),Room k (A.deeper (envOfC qual (defScope st) s.heap.objs.size f cdv))->sp vs H Q E->
   ∃t,PSs (cxOf C P w K mg base N qual (defScope st) f cdv A outer s H E) (defBody st) t/\t { nx:=λ_ H'=>Q .non H',rt:=Q } (start N vs) H):FnOk P w K mg base C (k+1) f fd ps sp:=by
 obtain⟨oc,od,kV,doc,pm,an,cdv,ct,osl,rfl,lk,hcd⟩:=F.ex;exact fn_of lk hcd S len λA outer s H vs Q E hr hsp=>hbody cdv A outer s H vs Q E hr hsp
theorem X4{C:CXT}{x qual:Str}{st:Stmt}{f:Addr}{fd:FuncData}{N ps:List Str}{k:Nat}{body:SF}(F:Fun K x qual st f fd)(S:FnScope N ps (defScope st))
  (hb:∀(cdv:Value) (A:Around) (outer:List PySem.Env) (s:Shared) (H:Hp) (E:XK),Room k (A.deeper (envOfC qual (defScope st) s.heap.objs.size f cdv))->rK aj (cxOf C P w K mg base N qual (defScope st) f cdv A outer s H E) (RJ E) true (defBody st) body) :
  FnOk P w K mg base C (k+1) f fd ps (ql K aj ps.length (mQ N.length body)):=by
 refine Fun.okC F S (λvs H Q E h=>h.1) (λcdv A outer s H vs Q E hr h=>⟨_,hb cdv A outer s H E hr,?_⟩);obtain⟨hl,g,M,ds,kd,wk,rs,h⟩:=h;have wk':cG K aj g.in H M:=cG.less (g:=g) (g':=g.in) rfl rfl (λa z=>(Td g a).mp z) wk;refine⟨g.in,ini N.length ds,M,V4 kd.in wk' (au.less (g:=g) (g':=g.in) rfl (λa z=>(Td g a).mp z) rs),?_⟩;have back:∀{g':Gh} {H':Hp},Gr true g.in g' H H'->∀a,g.A a↔g'.fr.A a:=λ{g' H'} r a=>by
  rw[ab7 r a];have e:=(r.qg rfl);have ew:g'.W a↔g.W a:=by unfold Gh.W;rw[e.1,e.2];rfl
  unfold Gh.A;rw[ew]
 unfold mQ at h;cases hf:body M (ini N.length ds) with
 |next Z' M'=>
  rw[hf]at h;exact λσ' H' g' r I'=>h _ H' (Kz r) .non
 |ret d M'=>
  rw[hf]at h;exact λv H' g' r k' w' rv=>h v H' (Kz r) (Rep.same (g:=g'.fr) (g':=g) (r.qg rfl).1.symm (back r) rv)
 |exc x Z' M'=>
  rw[hf]at h;exact λσ' H' g' c dd r I' rx=>h H' c dd (Kz r) (iQ.less (g:=g'.fr) (g':=g) (r.qg rfl).1.symm (λa z=>(back r a).mp z) rx)
 |brk Z' M'=>rw[hf]at h;exact agn h
 |cont Z' M'=>rw[hf]at h;exact agn h
 |bad=>rw[hf]at h;exact agn h
end
def aN(m:Mo->List Dat->Out Dat)(as:QA):QF:=λM ρ=>(as M ρ).bind λds=>m M ds
section
variable{X:Cx}{aj:aA}{W:WX}{q:Bool}{a b e:Expr}{es:List Expr}{pos p:Pos}{x:Str}{k:Nat}{f:Addr}{fd:FuncData}{ps:List Str}
theorem zA{C:CXT}{m:Mo->List Dat->Out Dat}{as:QA}(tk:∀σ,PassesAt C X σ (WE W σ))(F:FnOk X.prog X.w X.K X.mg X.base C k f fd ps (ql X.K aj ps.length m))(hr:Room k X.A)(hg:Gl X x)(hm:X.mg x=some (.ref f))(hk:PySem.W.keepIn X.K (.ref f)=true)(hb:Binds X.K fd ps [])
  (ha:pN aj X W (e::es) as) (hl:(e::es).length=ps.length) (hd:(x==("__debug__" : Str))=false) (hs:(e::es).all nst=true) (hn:∀M ρ ds,as M ρ=.ok ds->ds.length=(e::es).length):QE aj X W (.Call (.Name x p) (e::es) [] pos) (aN m as):=by
 have hs':=hs;rw[afW,afs]at hs';refine PE.weak (pe_callS (E:=λσ=>WE W σ) F hr hg hm hk hb tk ha hd (aM hs'.1 es) (star_any es hs'.2)) λσ H Q ⟨g,ρ,M,I,h⟩=>?_;refine⟨g,ρ,M,I,?_⟩;have h:=h.bnd;cases has:as M ρ with
 |exc x=>rw[has]at h;exact h
 |bad=>rw[has]at h;exact h
 |ok ds=>
  rw[has]at h;have h:(m M ds).sat (λd=>∀v H',Ex H H'->Rep X.K g H' v d->Q v H') (gR X.K aj W g H σ):=h;intro vs H1 e1 r1;refine⟨by rw[r1.length,hn M ρ ds has];exact hl,g,M,ds,I.kd.ex e1,I.wok.ex e1 I.kd,r1,h.mono (λd k v H' e' r'=>k v H' (e1.trans e') r') λx k H' c dd e' r'=>k H' c dd (e1.trans e') r'⟩
end
theorem Rj{n:Nat}(h:n<=16001):n<=sizeLine:=Nat.le_trans h (by decide)
theorem aaD{prog:Program}{w:World}{A:Around}{E:Value->Shared->Prop}{s:Shared}{l:Addr}{v0:Value}{vs:List Value}{Q:List Value->Shared->Prop}(hh:A.handled=none)(hl:s.heap.IsList l (v0::vs).toArray\/IsTup s.heap l (v0::vs).toArray)(hz:vs.length<=16000)
  (h:∀(h₂:Heap) (tk:Nat),(∀b o,s.heap.get? b=some o->h₂.get? b=some o)->Q [v0,.ref h₂.objs.size] { s with heap:=h₂.push { cls:=.type "list",data:=.seq vs.toArray },toks:=tk }):wpAny (model prog w) A (unpackItems (.ref l) 2 (some 1)) Q E s:=by
 have hll:l<s.heap.objs.size:=by rcases hl with⟨o,ho,_⟩|⟨o,ho,_⟩<;>exact Heap.lt_size ho
 have hlt:l≠s.heap.objs.size:=afX hll;have hsz:(v0::vs).toArray.size=vs.length+1:=by simp
 have hb:(v0::vs).toArray.size<=sizeLine:=Rj (by rw[hsz];omega);have hd:(v0::vs).toArray.toList.drop 1=vs:=by simp
 have ht:((v0::vs).toArray.toList.drop 0).take 1=[v0]:=by simp
 have fin:∀(h₂:Heap) (tk:Nat),(∀b o,b≠s.heap.objs.size->s.heap.get? b=some o->h₂.get? b=some o)->wpAny (model prog w) A (newList vs >>= λd=>pure ([v0]++[d]++[])) Q E { s with heap:=h₂,toks:=tk }:=λh₂ tk k=>by
  refine agq (wpAny_newObj_type (agr ?_) (Rj (by simp;omega)));exact h h₂ tk λb o e=>k b o (afX (Heap.lt_size e)) e
 unfold unpackItems;refine agq ?_;unfold notIterableAtAll;rcases hl with hl|hl
 .refine agq (wpAny_specialOf hl.typeIs slot_list_iter.lookup (agr ?_));simp only[afO,if_false];refine agq (wpAny_holding (wpAny_pyIter_list hl ?_));refine agq (wpAny_holding (PySem.W.kun_draw hlt 1 0 _ _ ⟨_,Heap.get?_push_size _ rfl,rfl,rfl⟩ (hl.push _) (by rw[hsz];omega) λh₁ i1 b1=>?_));have hl₁:=(hl.push _).extBut b1.extBut hlt;obtain⟨oi,hoi,_⟩:=id i1;obtain⟨ol,hol,_⟩:=id hl₁;rw[ht];refine agq (wpAny_holding (PySem.W.kun_collect (s:={ s with heap:=h₁ }) (T:="list_iterator") (.inr (.inr (.inl rfl))) (Walks.list (A:=A.in1) hh s.heap.objs.size l hlt (v0::vs).toArray) (λj u st=>st.1.typeIs) (k:=1) (by rw[hsz];omega) ⟨i1,hl₁⟩ (Heap.lt_size hoi) (Heap.lt_size hol) (λh₂ tk hk=>?_) hb))
  rw[hd];show wpAny _ _ (if vs.length<0 then _ else newList (vs.take (vs.length-0)) >>= λd=>pure ([v0]++[d]++vs.drop (vs.length-0))) _ _ _;rw[agt (Nat.not_lt_zero _),Nat.sub_zero,List.take_length,af8];exact fin h₂ tk λb o ne e=>hk b o ne (b1.extBut b o ne (Heap.get?_push_of_some _ e))
 .refine agq (wpAny_specialOf hl.typeIs slot_tuple_iter.lookup (agr ?_));simp only[afO,if_false];refine agq (wpAny_holding (iter_tuple hl ?_));refine agq (wpAny_holding (draw_tuple hlt 1 0 _ _ ⟨_,Heap.get?_push_size _ rfl,rfl,rfl⟩ (hl.push _) (by rw[hsz];omega) λh₁ i1 b1=>?_));have hl₁:IsTup h₁ l (v0::vs).toArray:=(hl.push _).extBut b1.extBut hlt;obtain⟨oi,hoi,_⟩:=id i1;obtain⟨ol,hol,_⟩:=id hl₁;rw[ht];refine agq (wpAny_holding (PySem.W.kun_collect (s:={ s with heap:=h₁ }) (T:="tuple_iterator") (.inr (.inr (.inr rfl))) (Walks.tuple (A:=A.in1) hh s.heap.objs.size l hlt (v0::vs).toArray) (λj u st=>st.1.typeIs) (k:=1) (by rw[hsz];omega) ⟨i1,hl₁⟩ (Heap.lt_size hoi) (Heap.lt_size hol) (λh₂ tk hk=>?_) hb))
  rw[hd];show wpAny _ _ (if vs.length<0 then _ else newList (vs.take (vs.length-0)) >>= λd=>pure ([v0]++[d]++vs.drop (vs.length-0))) _ _ _;rw[agt (Nat.not_lt_zero _),Nat.sub_zero,List.take_length,af8];exact fin h₂ tk λb o ne e=>hk b o ne (b1.extBut b o ne (Heap.get?_push_of_some _ e))
def Tv(K:afr)(i j:Nat):TG:=λv σ H Q=>∃a v0 us,v=.ref a/\(SqL K H a (v0::us)\/SqT K H a (v0::us))/\us.length<=16000/\∀D,H D=none->Q ((σ.set i (some v0)).set j (some (.ref D))) (upd H D (.lst us))
def yS(X:Cx)(j:Nat)(x:Str):Prop:=X.N[j]?=some x/\Loc X.env.scope x/\(X.fn x=true\/X.env.scope.names.lookup x=some .local)
theorem Wi{X:Cx}{i j k:Nat}{x y:Str}{px py ps pos:Pos}(hc:X.calm=true)(hN:X.N.Nodup)(hx:yS X i x)(hy:yS X j y):PG X (.Tuple [.Name x px,.Starred (.Name y py) ps] k pos) (Tv X.K i j):=by
 refine⟨λpins s σ H v u Q I r h=>?_⟩;obtain⟨a,v0,us,rfl,hq,hz,q⟩:=h;cases r;have e1:assign (.Tuple [.Name x px,.Starred (.Name y py) ps] k pos) X.env (.ref a)=(do standAt pos;unpack (.ref a) (assignEach [.Name x px,.Starred (.Name y py) ps] X.env)):=by with_unfolding_all rfl
 have e2:assignEach [.Name x px,.Starred (.Name y py) ps] X.env=[(false,assign (.Name x px) X.env),(true,assign (.Name y py) X.env)]:=by with_unfolding_all rfl
 rw[e1,e2];refine agq (wpAny_standAt ?_);unfold unpack;obtain⟨w0,ws,hlw,rv0,rvs⟩:∃w0 ws,(s.heap.IsList a (w0::ws).toArray\/IsTup s.heap a (w0::ws).toArray)/\RelV v0 w0/\Vals us ws:=by
  rcases hq with hq|hq
  .obtain⟨its,rv,p,_⟩:=I.list hq;cases rv with
   |cons r t=>exact⟨_,_,.inl p.isList,r,t⟩
  .obtain⟨its,rv,p,_⟩:=I.tuple hq;cases rv with
   |cons r t=>exact⟨_,_,.inr p,r,t⟩
 refine agq (wpAny_holding (aaD (I.ok.hd hc) hlw (by rw[<-rvs.length];exact hz) λh₂ tk hk=>?_));have I2:L2.Inv X pins σ H { s with heap:=h₂,toks:=tk }:=I.kept (t':=tk) hk;have I3:=I2.lnew (t':=tk) rvs (Rj (by omega));refine assignInOrder_cons (wpAny_assign_Name (store_ok I3 hN hx.1 hx.2.1 rv0 (λs4 I4=>?_) hx.2.2));refine assignInOrder_cons (wpAny_assign_Name (store_ok I4 hN hy.1 hy.2.1 (v:=.ref h₂.objs.size) rfl (λs5 I5=>assignInOrder_nil ?_) hy.2.2));exact⟨_,_,I5,q _ I2.fresh⟩
section
variable{X:Cx}{aj:aA}{W:WX}{q:Bool}{e:Expr}{pos:Pos}
def Cd(i j:Nat)(f:GF):SF:=λM ρ=>(f M ρ).then ρ λd M'=>match d with
 |.list (d0::ds)=>if ds.length<=16000 then .next ((ρ.set i (some (.dat d0))).set j (some (.dat (.list ds)))) M' else .bad
 |.tuple (d0::ds)=>if ds.length<=16000 then .next ((ρ.set i (some (.dat d0))).set j (some (.dat (.list ds)))) M' else .bad
 |_=>.bad
theorem VJ{i j k:Nat}{x y:Str}{px py ps tp:Pos}{f:GF}(hc:X.calm=true)(hN:X.N.Nodup)(hx:yS X i x)(hy:yS X j y)(he:GE aj X W q e f)(hs:swapsWithSole [.Tuple [.Name x px,.Starred (.Name y py) ps] k tp] e pos.line X.env=pure false)(hw:swappedStores [.Tuple [.Name x px,.Starred (.Name y py) ps] k tp] e X.env=pure none) :
  SE aj X W q (.Assign [.Tuple [.Name x px,.Starred (.Name y py) ps] k tp] e pos) (Cd i j f):=by
 refine PS.weak (ps_asg he (Wi hc hN hx hy) hs hw (by with_unfolding_all rfl)) λD σ H ⟨g,ρ,M,I,z⟩=>?_;refine tE.go I (bA (σ:=σ) z) λd M' v H' g' kk r I' rv=>?_;have fin:∀{a:Addr} {v0:V} {us:List V} {d0:Dat} {ds:List Dat},v=.ref a->(SqL X.K H' a (v0::us)\/SqT X.K H' a (v0::us))->Rep X.K g' H' v0 d0->au X.K g' H' us ds->(if ds.length<=16000 then ig.next ((ρ.set i (some (.dat d0))).set j (some (.dat (.list ds)))) M' else .bad).sat (sN X.K aj q D.nx g H) (sR X.K aj q D.rt g H) (sN X.K aj q D.bk g H) (sN X.K aj q D.ct g H) (sX X.K aj W q g H)->Tv X.K i j v σ H' D.nx:=λ{a v0 us d0 ds} ev hq r0 rs kk=>by
  split at kk
  .next hz=>
   refine⟨a,v0,us,ev,hq,by rw[rs.length];exact hz,λp np=>?_⟩;have e1:=Ex.new (o:=.lst us) np;have I2:=I'.ex e1;refine kk _ _ g' (r.trans (Gr.ex e1)) ((I2.set (r0.ex e1 I'.kd)).set (.lst (.inl ⟨.inl agu,I'.kd.fresh np⟩) (rs.ex e1 I'.kd)))
  .exact agn kk
 split at kk
 .obtain⟨a,us,ev,s1,t1⟩:=bZ rv.weak;cases t1 with
  |cons r0 rs=>exact fin ev (.inl s1) r0 rs kk
 .obtain⟨a,us,ev,s1,t1⟩:=dG rv.weak;cases t1 with
  |cons r0 rs=>exact fin ev (.inr s1) r0 rs kk
 .exact agn kk
def Kg(i j:Nat)(f:GF):SF:=λM ρ=>(f M ρ).then ρ λd M'=>.next ((ρ.set i (some (.dat d))).set j (some (.dat d))) M'
theorem Vg{i j:Nat}{x y:Str}{px py:Pos}{f:GF}(hN:X.N.Nodup)(hx:yS X i x)(hy:yS X j y)(he:GE aj X W q e f)(hw:swappedStores [.Name x px,.Name y py] e X.env=pure none):SE aj X W q (.Assign [.Name x px,.Name y py] e pos) (Kg i j f):=by refine PS.weak (ps_asg2 he (pg_name hN hx.1 hx.2.1 hx.2.2) (pg_name hN hy.1 hy.2.1 hy.2.2) (by with_unfolding_all rfl) hw) λD σ H ⟨g,ρ,M,I,z⟩=>?_;exact tE.go I (bA (σ:=σ) z) λd M' v H' g' kk r I' rv=>kk _ H' g' r ((I'.set rv).set rv)
def sPN(js:List Nat)(as:QA):SF:=λM ρ=>((as M ρ).at M).then ρ λds M'=>match jy js ds ρ with
 |some Z'=>.next Z' M'
 |none=>.bad
theorem Zx{j:Nat}{y:Str}{py:Pos}{elt tg iter:Expr}{cpos:Pos}{scope:Scope}{own:List (Str×Nat)}{it:IF}{tgf:bY}{js:List Nat}{tt:QT}{te:QF}{ifs:List Expr}(hc:X.calm=true)(hN:X.N.Nodup)(hy:X.N[j]?=some y)(hyl:X.env.scope.names.lookup y=some .local)
  (hsw:swapsWith (.ListComp elt [⟨tg,iter,ifs,0⟩] scope cpos) (some (.Name y py)) pos.line X.env=pure true) (hi:QI aj X W false tg iter it) (ok:blkC X.N X.env.scope scope own=true) (hj:∀j∈js,j∈own.map (·.2))
  (hg:∀(s:Shared) (H:Hp) (C:Addr) (cl:List (Str×Addr)) (fp:List Addr),QG aj (X.blk s H scope (compEnvC scope cl C X.env) fp) tg js tgf)
  (ht:∀(s:Shared) (H:Hp) (C:Addr) (cl:List (Str×Addr)) (fp:List Addr),PTs (X.blk s H scope (compEnvC scope cl C X.env) fp) ifs (dY X.K aj WF tt))
  (he:∀(s:Shared) (H:Hp) (C:Addr) (cl:List (Str×Addr)) (fp:List Addr),QE aj (X.blk s H scope (compEnvC scope cl C X.env) fp) WF elt te) (hs:∀x,foldedSetIterable iter X.env x=pure x) :
  SE aj X W q (.Assign [.Name y py] (.ListComp elt [⟨tg,iter,ifs,0⟩] scope cpos) pos) (aY (aD j) (gOf (fU it tgf (own.map (·.2)) tt te))):=by
 refine PS.weak (ps_setLc (g:=lO X.K aj js tgf) (tt:=dY X.K aj WF tt) (te:=tQ X.K aj WF te) hc hN hy hyl hsw hi (blkOk_by ok) (λs H C cl fp=>hg s H C cl fp) ht (λs H C cl fp=>he s H C cl fp) hs) λD σ H ⟨g,ρ,M,I,z⟩=>?_;refine Uj hj σ H _ ⟨g,ρ,M,I,(Out.cP (bA (σ:=σ) z)).mono (λd kk v H' e r=>?_) λx kk H' c dd e r=>kk H' g c dd (Gr.ex e) (I.ex e) r⟩;exact kk _ H' g (Gr.ex e) ((I.ex e).set r)
end
inductive GV where
 |con (d:Dat)
 |fq (n:Nat) (m:Mo->List Dat->Out Dat)
 |fg (n:Nat) (m:Mo->List Dat->aV Dat)
 |dic (kvs:List (Str×Dat))
 |exc
 |exi (fs:List Str)
 |cls (n:Nat) (m:Mo->List Dat->aV Dat)
 |fqN (n:Nat) (m:Mo->List Dat->Out Dat)
def GV.soft:GV->Bool
 |.con _=>false
 |.dic _=>false
 |.exc=>false
 |.fqN _ _=>false
 |_=>true
inductive MV where
 |q (n:Nat) (m:Mo->List Dat->Out Dat)
 |g (n:Nat) (m:Mo->List Dat->aV Dat)
def FQ(P:Program)(w:World)(K:afr)(mg:Str->Option Value)(base:Heap)(aj:aA)(k:Nat)(f:Addr)(n:Nat)(m:Mo->List Dat->Out Dat):Prop:=
 ∃(fd:FuncData) (ps:List Str) (j:Nat),j<=k/\ps.length=n/\Binds K fd ps []/\FnOk P w K mg base (L2.CX P w) j f fd ps (ql K aj ps.length m)
def FG(P:Program)(w:World)(K:afr)(mg:Str->Option Value)(base:Heap)(aj:aA)(k:Nat)(f:Addr)(n:Nat)(m:Mo->List Dat->aV Dat):Prop:=
 ∃(fd:FuncData) (ps:List Str) (j:Nat),j<=k/\ps.length=n/\Binds K fd ps []/\FnOk P w K mg base (L2.CX P w) j f fd ps (Um K aj ps.length m)
def cV(K:afr)(aj:aA):Prop:=∀c C f,aj c=some C->f∈aj.fl c->Cls K C/\NoAttr K C f
def FJ(P:Program)(w:World)(K:afr)(mg:Str->Option Value)(base:Heap)(aj:aA)(k:Nat)(c m:Str)(v:MV):Prop:=
 ∃C f,aj c=some C/\Cls K C/\Meth K C m f/\m∉aj.fl c/\match v with
  |.q n mm=>FQ P w K mg base aj k f n mm
  |.g n mm=>FG P w K mg base aj k f n mm
def ab4(C:Addr)(fs:List Str):Sp:=λvs H Q _=>∃(a:Addr) (xs:List V),vs=.ref a::xs/\xs.length=fs.length/\H a=some (exo a C none)/\
 ∀(dx:Addr) (H':Hp),H dx=none->(∀b o,b≠a->H b=some o->H' b=some o)->(∀b,H' b=none->H b=none)->H' a=some (exo a C (some dx))->H' dx=some (exd dx (fs.zip xs).reverse)->Q .non H'
def Lp(w:World)(K:afr)(a:Addr)(kvs:List (Str×Dat)):Prop:=∃(es:Array DictEntry) (n:Nat),KDict K w a es n/\(kvs.map (·.1)).Nodup/\
 ∀x:Str,match kvs.lookup x with
  |some d=>∃v u,PySem.W.nsIn K a x=some (some u)/\RelV v u/\∀g H,Rep K g H v d
  |none=>PySem.W.nsIn K a x=some none
def aQ(P:Program)(w:World)(K:afr)(mg:Str->Option Value)(base:Heap)(aj:aA)(k:Nat)(x:Str):GV->Prop
 |.con d=>∃v u,mg x=some u/\RelV v u/\(∀g H,Rep K g H v d)/\∀a ds,v=.ref a->d=.tuple ds->∃o,K.lookup a=some o/\o.cls=.type "tuple"/\o.dict=none
 |.fq n m=>∃f,mg x=some (.ref f)/\PySem.W.keepIn K (.ref f)=true/\FQ P w K mg base aj k f n m
 |.fg n m=>∃f,mg x=some (.ref f)/\PySem.W.keepIn K (.ref f)=true/\FG P w K mg base aj k f n m
 |.dic kvs=>∃a,mg x=some (.ref a)/\Lp w K a kvs
 |.exc=>∃C,mg x=some (.ref C)/\aj x=some C/\PySem.W.excIn K C He.veBase "ValueError.__new__"=true/\PySem.W.keepIn K (.ref C)=true/\PySem.W.subIn K (.ref C) (.type "BaseException")=some true/\PySem.W.typeIn K (.ref C)=some (.type "type")
 |.exi fs=>∃(C fI:Addr) (fd:FuncData) (ps:List Str),mg x=some (.ref C)/\aj x=some C/\OexC K C/\PySem.W.findIn K (.ref C) "__init__"=some (some (.ref fI))/\PySem.W.typeIn K (.ref fI)=some (.type "function")/\2<=k/\ps.length=fs.length+1/\Binds K fd ps []/\FnOk P w K mg base CX0 1 fI fd ps (ab4 C fs)
 |.cls n m=>∃(C f:Addr) (fd:FuncData) (ps:List Str) (j:Nat),mg x=some (.ref C)/\aj x=some C/\Cls K C/\Mk K C f/\j+1<=k/\ps.length=n+1/\Binds K fd ps []/\FnOk P w K mg base (L2.CX P w) j f fd ps (Um K aj ps.length m)
 |.fqN n m=>∃f,mg x=some (.ref f)/\PySem.W.keepIn K (.ref f)=true/\∃(fd:FuncData) (ps:List Str) (j:Nat),j<=k/\ps.length=n/\Binds K fd ps []/\FnOk P w K mg base (L2N.CX P w) j f fd ps (ql K aj ps.length m)
def Ku(K:afr)(aj:aA)(y:Str)(tk:Str->Option Bool):Prop:=∀x b C,tk x=some b->aj x=some C->∀D,aj y=some D->PySem.W.exmOne K (.ref C) (.ref D)=some b
def putL(f:Str)(x:cQ):List (Str×cQ)->List (Str×cQ)
 |[]=>[(f,x)]
 |(g,y)::r=>if g=f then(g,x)::r else(g,y)::putL f x r
def Inst.put(i:Inst)(f:Str)(x:cQ):Inst:=⟨i.cls,putL f x i.fs⟩
theorem qZ(f:Str)(x:cQ):∀gs:List (Str×cQ),(putL f x gs).map (·.1)=if f∈gs.map (·.1) then gs.map (·.1) else gs.map (·.1)++[f]
 |[]=>by simp[putL]
 |(g,y)::r=>by
  have ih:=qZ f x r;rw[putL];by_cases e:g=f
  .subst e;simp
  .rw[agt e,aft,ih];by_cases h:f∈r.map (·.1)
   .rw[ags h,ags (by simp[h])];rfl
   .rw[agt h,agt (by
     rw[aft,afD]
     rintro(z|z)
     .exact e z.symm
     .exact h z)]
    rfl
theorem KJ{f:Str}{x:cQ}{gs:List (Str×cQ)}(h:(gs.map (·.1)).Nodup):((putL f x gs).map (·.1)).Nodup:=by
 rw[qZ];split
 .exact h
 .next n=>
  rw[List.nodup_append];refine⟨h,by simp,λa ha b hb e=>?_⟩;subst e;rw[afJ]at hb;subst hb;exact n ha
theorem rQ{f:Str}{v:V}:∀{fs:List (Str×V)},fs.lookup f=some v->putF f v fs=fs
 |[],h=>nomatch h
 |(g,y)::r,h=>by
  rw[afF]at h;rw[show putF f v ((g,y)::r)=(if g=f then(g,v)::r else(g,y)::putF f v r) from rfl];by_cases e:g=f
  .subst e;simp at h;rw[ags rfl,h]
  .have ne:(f==g)=false:=by simpa using λz=>e z.symm
   rw[ne]at h;rw[agt e,rQ h]
section
variable{K:afr}{aj:aA}{W:WX}{g g':Gh}{H H':Hp}{σ:L2.St}{ρ:Env}{M:Mo}{h:Nat}{f:Str}{v:V}{fl:cQ}
theorem aW.put(hk:∀f' v' fl',f'≠f->bH K aj g H h f' v' fl'->bH K aj g' H' h f' v' fl')(new:bH K aj g' H' h f v fl):∀{fs:List (Str×V)} {gs:List (Str×cQ)},aW K aj g H h fs gs->(gs.map (·.1)).Nodup->aW K aj g' H' h (putF f v fs) (putL f fl gs)
 |_,_,.nil,_=>.cons new .nil
 |_,_,.cons (f:=f') (v:=v') (fl:=fl') (fs:=fs) (gs:=gs) z t,nd=>by
  rw[show putF f v ((f',v')::fs)=(if f'=f then(f',v)::fs else(f',v')::putF f v fs) from rfl,putL];rw[aft,agl]at nd;by_cases e:f'=f
  .subst e;rw[ags rfl,ags rfl];refine .cons new ?_;have go:∀{fs:List (Str×V)} {gs:List (Str×cQ)},aW K aj g H h fs gs->f'∉gs.map (·.1)->aW K aj g' H' h fs gs:=λ{fs gs} t=>by
    induction t with
    |nil=>exact λ_=>.nil
    |cons z _ ih=>
     intro n;rw[aft,afD,not_or]at n;exact .cons (hk _ _ _ (λq=>n.1 q.symm) z) (ih n.2)
   exact go t nd.1
  .rw[agt e,agt e];exact .cons (hk _ _ _ e z) (aW.put hk new t nd.2)
structure IW(M:Mo)(g g':Gh)(H H':Hp)(h:Nat)(f:Str):Prop where
 gc:Gc g g' H H'
 kd:Kd g' H'
 tbl:g'.tbl=g.tbl
 ow:∀a p,g.ow a=some p->g'.ow a=some p
 oth:∀a p,g.ow a=some p->p≠(h,f)->H' a=H a
 ins:∀(k:Nat) (a:Addr) (i:Inst),g.tbl[k]?=some a->M[k]?=some i->i.cls≠""->k≠h->H' a=H a
 nt:∀(k:Nat) (a:Addr) (i:Inst),g.tbl[k]?=some a->M[k]?=some i->i.cls≠""->∀p,g'.ow a≠some p
theorem dB.chg{l:Addr}(r:Gr false g g' H H')(k:Kd g H)(e:H' l=H l):∀{n:Bool} {kvs:List (Dat×Dat)},dB K aj g H l n kvs->dB K aj g' H' l n kvs
 |false,_,⟨kv,h1,h2,h3⟩=>⟨kv,e.trans h1,h2,h3.gr r k⟩
 |true,_,⟨o,xs,vs,h1,h2,h3,h4,h5,h6⟩=>⟨o,xs,vs,e.trans h1,h2,h3,h4.gr r k,h5,h6.gr r k⟩
theorem bH.chg(c:IW M g g' H H' h f)(k:Kd g H){h':Nat}{f':Str}{v':V}(ne:(h',f')≠(h,f)):∀{fl':cQ},bH K aj g H h' f' v' fl'->bH K aj g' H' h' f' v' fl'
 |.dat _,z=>Rep.gr c.gc.gr k z
 |.lst _ _,⟨l,us,h1,h2,h3,h4,h5⟩=>⟨l,us,h1,(c.oth l _ h3 ne).trans h2,c.ow l _ h3,h4.gr c.gc.gr k,c.gc.gr.tb h5⟩
 |.dic _ _,⟨l,h1,h2,h3⟩=>⟨l,h1,c.ow l _ h2,h3.chg c.gc.gr k (c.oth l _ h2 ne)⟩
theorem cG.chg(w:cG K aj g H M)(k:Kd g H)(c:IW M g g' H H' h f){a:Addr}{i:Inst}(ha:g.tbl[h]?=some a)(hi:M[h]?=some i)(hne:i.cls≠"")(hf:f∈aj.fl i.cls){C dx:Addr}{fs:List (Str×V)}(hC:aj i.cls=some C)(R:aW K aj g H h fs i.fs)
  (e':H' a=some (.ins C dx (putF f v fs))) (new:bH K aj g' H' h f v fl):cG K aj g' H' (M.set h (i.put f fl)) where
 len:=by rw[c.tbl,afM];exact w.len
 inj:=by rw[c.tbl];exact w.inj
 ins:=λh' a' i' ha' hi' hc'=>by
  rw[c.tbl]at ha';by_cases z:h'=h
  .subst z;rw[ha]at ha';cases ha';rw[afE (afw.mp hi).1]at hi';cases hi';exact⟨C,dx,_,hC,e',R.put (λf' v' fl' ne z=>z.chg c k λq=>ne (congrArg Prod.snd q)) new (w.nd _ i hi)⟩
  .rw[afz (Ne.symm z)]at hi';obtain⟨C',dx',fs',c1,c2,c3⟩:=w.ins h' a' i' ha' hi' hc';refine⟨C',dx',fs',c1,(c.ins h' a' i' ha' hi' hc' z).trans c2,?_⟩;have go:∀{fs:List (Str×V)} {gs:List (Str×cQ)},aW K aj g H h' fs gs->aW K aj g' H' h' fs gs:=λ{fs gs} t=>by
    induction t with
    |nil=>exact .nil
    |cons y _ ih=>exact .cons (y.chg c k λq=>z (congrArg Prod.fst q)) ih
   exact go c3
 nd:=λh' i' hi'=>by
  by_cases z:h'=h
  .subst z;rw[afE (afw.mp hi).1]at hi';cases hi';exact KJ (w.nd _ i hi)
  .rw[afz (Ne.symm z)]at hi';exact w.nd h' i' hi'
 fd:=λh' i' hi' f' hf'=>by
  by_cases z:h'=h
  .subst z;rw[afE (afw.mp hi).1]at hi';cases hi';have hf':f'∈(putL f fl i.fs).map (·.1):=hf';rw[qZ]at hf';split at hf'
   .exact w.fd _ i hi f' hf'
   .rcases afV.mp hf' with y|y
    .exact w.fd _ i hi f' y
    .rw[afJ]at y;rw[y];exact hf
  .rw[afz (Ne.symm z)]at hi';exact w.fd h' i' hi' f' hf'
 tw:=λk' a' i' ha' hi' hc'=>by
  rw[c.tbl]at ha';have:∃i0,M[k']?=some i0/\i0.cls≠"":=by
   by_cases z:k'=h
   .subst z;exact⟨i,hi,hne⟩
   .rw[afz (Ne.symm z)]at hi';exact⟨i',hi',hc'⟩
  obtain⟨i0,m1,m2⟩:=this;cases hz:g'.ow a' with
  |none=>rfl
  |some p=>exact absurd hz (c.nt k' a' i0 ha' m1 m2 p)
 dm:=λh' i' hi' hc'=>by
  by_cases z:h'=h
  .subst z;rw[afE (afw.mp hi).1]at hi';cases hi';exact absurd hc' hne
  .rw[afz (Ne.symm z)]at hi';exact w.dm h' i' hi' hc'
 nc:=w.nc
theorem aaN{a:Addr}(ha:g.tbl[h]?=some a):g.W a:=.inl (afK ha)
theorem zq(k:Kd g H)(w:cG K aj g H M){a:Addr}{i:Inst}(ha:g.tbl[h]?=some a)(hi:M[h]?=some i)(hc:i.cls≠""){C dx:Addr}{fs':List (Str×V)}:IW M g g H (upd H a (.ins C dx fs')) h f where
 gc:=⟨λb o hb n=>by rw[upd_ne (λz=>by subst z;exact n (aaN ha))];exact hb,λb hb=>by
  by_cases z:b=a
  .subst z;rw[agu]at hb;cases hb
  .rw[upd_ne z]at hb;exact hb,⟨[],by simp⟩,λ_ z=>z,λ_ z=>.inl z,rfl,rfl⟩
 kd:=k.upd agm
 tbl:=rfl
 ow:=λ_ _ z=>z
 oth:=λb p hb _=>upd_ne λz=>by
  subst z;rw[w.tw h _ i ha hi hc]at hb;cases hb
 ins:=λj b i' hb _ _ ne=>upd_ne λz=>by
  subst z;exact ne (w.inj _ _ _ hb ha)
 nt:=λj b i' hb hj hcj p z=>by
  rw[w.tw j b i' hb hj hcj]at z;cases z
def Gh.own(g:Gh)(l:Addr)(h:Nat)(f:Str):Gh:={ g with ow:=λb=>if b=l then some (h,f) else g.ow b }
theorem aaM{l a:Addr}(hl:l∈g.tbl):(g.own l h f).W a↔g.W a:=by
 constructor
 .rintro(z|z)
  .exact .inl z
  .by_cases y:a=l
   .subst y;exact .inl hl
   .have z:(if a=l then some (h,f) else g.ow a)≠none:=z;rw[agt y]at z;exact .inr z
 .rintro(z|z)
  .exact .inl z
  .refine .inr ?_
   show(if a=l then some (h,f) else g.ow a)≠none
   split
   .exact λq=>nomatch q
   .exact z
theorem zm(k:Kd g H)(w:cG K aj g H M){a l:Addr}{n:Nat}{i:Inst}(ha:g.tbl[h]?=some a)(hi:M[h]?=some i)(hc:i.cls≠"")(hl:g.tbl[n]?=some l)(hn:M[n]?=some ⟨"",[]⟩)(nl:g.ow l=none){C dx:Addr}{fs':List (Str×V)}:IW M g (g.own l h f) H (upd H a (.ins C dx fs')) h f:=by
 have W':∀{b:Addr},(g.own l h f).W b↔g.W b:=λ{b}=>aaM (afK hl);have d:=zq (f:=f) (C:=C) (dx:=dx) (fs':=fs') k w ha hi hc;refine⟨⟨d.gc.keep,d.gc.dom,⟨[],by simp[Gh.own]⟩,λb z=>W'.mpr z,λb z=>.inl (W'.mp z),rfl,rfl⟩,⟨λb z=>d.kd.ob b ?_,λb z y=>d.kd.lo b z (W'.mp y),λb z=>⟨λy=>(d.kd.lc b z).1 (W'.mp y),(d.kd.lc b z).2⟩⟩,rfl,λb p z=>?_,d.oth,d.ins,λj b i' hb hj hcj p z=>?_⟩
 .rcases z with z|z|z
  .exact .inl (W'.mp z)
  .exact .inr (.inl z)
  .exact .inr (.inr z)
 .show(if b=l then some (h,f) else g.ow b)=some p
  rw[agt (λy=>by subst y;rw[nl]at z;cases z)];exact z
 .have z:(if b=l then some (h,f) else g.ow b)=some p:=z;by_cases y:b=l
  .subst y;cases w.inj _ _ _ hb hl;rw[hn]at hj;cases hj;exact hcj rfl
  .rw[agt y,w.tw j b i' hb hj hcj]at z;cases z
theorem NT(k:Kd g H)(w:cG K aj g H M){l:Addr}{o':HO}(ho:g.ow l=some (h,f))(mo:qU o'):IW M g g H (upd H l o') h f where
 gc:=⟨λb u hb n=>by rw[upd_ne (λz=>by subst z;exact n (.inr (by rw[ho];exact λy=>nomatch y)))];exact hb,λb hb=>by
  by_cases z:b=l
  .subst z;rw[agu]at hb;cases hb
  .rw[upd_ne z]at hb;exact hb,⟨[],by simp⟩,λ_ z=>z,λ_ z=>.inl z,rfl,rfl⟩
 kd:=k.upd mo
 tbl:=rfl
 ow:=λ_ _ z=>z
 oth:=λb p hb ne=>upd_ne λz=>by
  subst z;rw[ho]at hb;exact ne (afR hb).symm
 ins:=λj b i' hb hj hcj ne=>upd_ne λz=>by
  subst z;rw[w.tw j _ i' hb hj hcj]at ho;cases ho
 nt:=λj b i' hb hj hcj p z=>by
  rw[w.tw j b i' hb hj hcj]at z;cases z
theorem aW.len{fs:List (Str×V)}{gs:List (Str×cQ)}(t:aW K aj g H h fs gs):fs.length=gs.length:=by
 induction t with
 |nil=>rfl
 |cons _ _ ih=>simp[ih]
end
def tV(M:Mo)(f:Str):Dat->Option cQ
 |.dict [(.none,.int (.ofNat h))]=>(M[h]?).bind λi=>i.fs.lookup f
 |_=>none
def Q7(f:Str)(o:QF):QF:=λM ρ=>(o M ρ).bind λd=>match tV M f d with
 |some (.dat x)=>.ok x
 |_=>.bad
def Kf(f:Str)(o:QF):QF:=λM ρ=>(o M ρ).bind λd=>match tV M f d with
 |some (.dat x)=>.ok x
 |some (.lst _ xs)=>.ok (.list xs)
 |_=>.bad
theorem Lw{M:Mo}{f:Str}{d:Dat}{fl:cQ}(h:tV M f d=some fl):∃n i,d=obj n/\M[n]?=some i/\i.fs.lookup f=some fl:=by
 unfold tV at h;split at h
 .next n=>
  obtain⟨i,h1,h2⟩:=afq.mp h;exact⟨n,i,rfl,h1,h2⟩
 .cases h
theorem lookup_mem{f:Str}{fl:cQ}:∀{gs:List (Str×cQ)},gs.lookup f=some fl->f∈gs.map (·.1)
 |[],h=>nomatch h
 |(g,y)::r,h=>by
  rw[afF]at h;cases hb:f==g with
  |true=>rw[agv hb];simp
  |false=>
   rw[hb]at h;exact afu _ (lookup_mem h)
section
variable{K:afr}{aj:aA}{g:Gh}{H:Hp}{M:Mo}
theorem GJ(co:cV K aj)(w:cG K aj g H M){f:Str}{d:Dat}{fl:cQ}{v:V}(h:tV M f d=some fl)(r:bF K g H v d):∃n i a C dx fs u,d=obj n/\M[n]?=some i/\i.fs.lookup f=some fl/\g.tbl[n]?=some a/\v=.ref a/\aj i.cls=some C/\H a=some (.ins C dx fs)/\aW K aj g H n fs i.fs/\Cls K C/\NoAttr K C f/\fs.lookup f=some u/\bH K aj g H n f u fl:=by
 obtain⟨n,i,rfl,h1,h2⟩:=Lw h;obtain⟨a,rfl,ha⟩:=uz r;have hc:i.cls≠"":=λz=>by
  rw[w.dm n i h1 z]at h2;cases h2
 obtain⟨C,dx,fs,c1,c2,c3⟩:=w.ins n a i ha h1 hc;obtain⟨u,l1,l2⟩:=c3.get h2;obtain⟨k1,k2⟩:=co i.cls C f c1 (w.fd n i h1 f (lookup_mem h2));exact⟨n,i,a,C,dx,fs,u,rfl,h1,h2,ha,rfl,c1,c2,c3,k1,k2,l1,l2⟩
end
section
variable{X:Cx}{aj:aA}{W:WX}{o e:Expr}{es:List Expr}{fo:QF}{f m:Str}{pos apos:Pos}
theorem ZS(co:cV X.K aj)(ho:QW aj X W o fo)(hb:baseOk o=true):QE aj X W (.Attribute o f pos) (Q7 f fo):=
 PE.weak (pe_fld ho (cA hb)) λσ H Q ⟨g,ρ,M,I,h⟩=>by
  refine tW.go I h.bnd λd v H1 h1 e1 r1=>?_;split at h1
  .next x hx=>
   obtain⟨n,i,a,C,dx,fs,u,_,_,_,_,rfl,_,c2,_,k1,k2,l1,l2⟩:=GJ co (I.ex e1).wok hx r1;exact⟨a,C,dx,fs,u,rfl,c2,k1,k2,l1,h1 u H1 e1 l2⟩
  .exact agn h1
theorem Yh(co:cV X.K aj)(ho:QW aj X W o fo)(hb:baseOk o=true):QW aj X W (.Attribute o f pos) (Kf f fo):=
 PE.weak (pe_fld ho (cA hb)) λσ H Q ⟨g,ρ,M,I,h⟩=>by
  refine tW.go I h.bnd λd v H1 h1 e1 r1=>?_;split at h1
  .next x hx=>
   obtain⟨n,i,a,C,dx,fs,u,_,_,_,_,rfl,_,c2,_,k1,k2,l1,l2⟩:=GJ co (I.ex e1).wok hx r1;exact⟨a,C,dx,fs,u,rfl,c2,k1,k2,l1,h1 u H1 e1 (Rep.weak l2)⟩
  .next xs hx=>
   obtain⟨n,i,a,C,dx,fs,u,_,_,_,_,rfl,_,c2,_,k1,k2,l1,l,us,rfl,s1,s2,s3,_⟩:=GJ co (I.ex e1).wok hx r1;exact⟨a,C,dx,fs,_,rfl,c2,k1,k2,l1,h1 _ H1 e1 ⟨l,us,rfl,sq_of s1,s3⟩⟩
  .exact agn h1
def yu(X:Cx)(W:WX)(m:Str)(ta:TE)(t:TA):TE:=λσ H Q=>ta σ H λx H1=>∃(a C dx:Addr) (fs:List (Str×V)) (f:Addr) (fd:FuncData) (ps:List Str) (sp:Sp) (k:Nat),x=.ref a/\H1 a=some (.ins C dx fs)/\fs.lookup m=none/\Cls X.K C/\Meth X.K C m f/\Room k X.A/\Binds X.K fd ps []/\
 FnOk X.prog X.w X.K X.mg X.base (L2.CX X.prog X.w) k f fd ps sp/\t σ H1 λvs H2=>sp (x::vs) H2 Q (WE W σ)
theorem Bc{M:Model}{A:Around}{E:Value->Shared->Prop}{s:Shared}{env:PySem.Env}{args:List Expr}{Q:Value->Shared->Prop}(hbase:baseOk o=true)(hs:args.all nst=true)(hz:args.length<30)(hl:(apos.endLine==pos.line)=true)
  (h:wpAny M A (eval o env) (λov s₁=>∀pl:Sem Bool,wpAny M A (getMethod ov m pl) (λfx s₂=>wpAny M A (callWith pos fx.1 fx.2 (backTo pos (starEach args env)) (backToKw pos (keywordEach [] env))) Q E s₂) E s₁) E s) :
  wpAny M A (eval (.Call (.Attribute o m apos) args [] pos) env) Q E s:=by
 have hform:methodCallForm (args.length+([]:List Keyword).length) (backTo pos (starEach args env)) (backToKw pos (keywordEach [] env))=true:=few hs hz;have hpos:methodCallPos true o env apos pos=pure pos:=by unfold methodCallPos;simp[hl]
 rw[arm_eval_Call,cA hbase];refine agq (wpAny_mono h (λov s₁ h₁=>?_) λ_ _ e=>e);refine agq (wpAny_standAt ?_);unfold methodCall;rw[hform];refine agq (wpAny_holding ?_);refine wpAny_mono (h₁ _) (λfx s₂ h₂=>?_) λ_ _ e=>e;exact agq (wpAny_of_eq hpos h₂)
theorem Fx{ta:TE}{t:TA}(tk:Takes X W)(ho:PE X o ta)(ha:PA X (e::es) t)(hb:baseOk o=true)(hs:(e::es).all nst=true)(hl:(apos.endLine==pos.line)=true)(hz:(e::es).length<30):PE X (.Call (.Attribute o m apos) (e::es) [] pos) (yu X W m ta t):=by have hs':=hs;rw[afW,afs]at hs';refine⟨λpins s σ H Q I h=>?_⟩;refine Bc hb hs hz hl (thn (ho.run pins s σ H _ I h) λu s1 ⟨x,G,J,rx,a,C,dx,fs,f,fd,ps,sp,k,ex,ea,l,c,hm,hr,hB,F,q⟩ pl=>?_);subst ex;cases rx;refine getmeth_ok J ea c hm l ?_;refine PySem.W.callWith_K (first:=[.ref a]) (h₀:=X.base) I.ok.mod.kin hm.kp (thn (ha.run pos pins s1 σ G _ J q) λus s2 ⟨vs,G2,J2,r,q2⟩=>⟨J2.kIn,?_⟩) (aM hs'.1 es) (star_any es hs'.2);exact run_fnS (us:=.ref a::us) (vs:=.ref a::vs) F hr hB (passAt tk σ) J2 (.cons rfl r) q2
theorem Az{ta:TE}(tk:Takes X W)(ho:PE X o ta)(hb:baseOk o=true)(hl:(apos.endLine==pos.line)=true):PE X (.Call (.Attribute o m apos) [] [] pos) (yu X W m ta tNil):=by refine⟨λpins s σ H Q I h=>?_⟩;refine Bc hb rfl (by decide) hl (thn (ho.run pins s σ H _ I h) λu s1 ⟨x,G,J,rx,a,C,dx,fs,f,fd,ps,sp,k,ex,ea,l,c,hm,hr,hB,F,q⟩ pl=>?_);subst ex;cases rx;refine getmeth_ok J ea c hm l ?_;exact PySem.W.callWith_K0 (first:=[.ref a]) J.kIn hm.kp (run_fnS (us:=[.ref a]) (vs:=[.ref a]) F hr hB (passAt tk σ) J (.cons rfl .nil) q)
def oZ(tb:List (Str×MV))(M:Mo):Dat->Option MV
 |.dict [(.none,.int (.ofNat h))]=>(M[h]?).bind λi=>tb.lookup i.cls
 |_=>none
def xZ(tb:List (Str×MV))(o:QF)(as:QA):QF:=λM ρ=>(o M ρ).bind λd=>match oZ tb M d with
 |some (.q _ m)=>(as M ρ).bind λds=>m M (d::ds)
 |_=>.bad
def xQ(tb:List (Str×MV))(o:QF)(as:QA):GF:=λM ρ=>((o M ρ).at M).bind λd _=>match oZ tb M d with
 |some (.q _ m)=>((as M ρ).at M).bind λds _=>(m M (d::ds)).at M
 |some (.g _ m)=>((as M ρ).at M).bind λds _=>m M (d::ds)
 |none=>.bad
def qY(X:Cx)(aj:aA)(k:Nat)(m:Str)(n:Nat)(tb:List (Str×MV)):Prop:=∀c v,tb.lookup c=some v->FJ X.prog X.w X.K X.mg X.base aj k c m v/\match v with
  |.q j _=>j=n
  |.g j _=>j=n
theorem qY.cls{k n:Nat}{tb:List (Str×MV)}(T:qY X aj k m n tb):∀c v,tb.lookup c=some v->aj c≠none:=λc v h z=>by
 obtain⟨⟨C,f,c1,_⟩,_⟩:=T c v h;rw[z]at c1;cases c1
theorem zJ{K:afr}{g:Gh}{H:Hp}{M:Mo}{tb:List (Str×MV)}{d:Dat}{v:V}{mv:MV}(ht:∀c v,tb.lookup c=some v->aj c≠none)(w:cG K aj g H M)(h:oZ tb M d=some mv)(r:bF K g H v d):∃n i a C dx fs,d=obj n/\M[n]?=some i/\tb.lookup i.cls=some mv/\g.tbl[n]?=some a/\v=.ref a/\aj i.cls=some C/\H a=some (.ins C dx fs)/\aW K aj g H n fs i.fs:=by
 unfold oZ at h;split at h
 .next n=>
  obtain⟨i,h1,h2⟩:=afq.mp h;obtain⟨a,rfl,ha⟩:=uz r;obtain⟨C,dx,fs,c1,c2,c3⟩:=w.ins n a i ha h1 λz=>ht _ _ h2 (by rw[z];exact w.nc);exact⟨n,i,a,C,dx,fs,rfl,h1,h2,ha,rfl,c1,c2,c3⟩
 .cases h
theorem Fw{K:afr}{g:Gh}{H:Hp}{M:Mo}{n:Nat}{i:Inst}{fs:List (Str×V)}(w:cG K aj g H M)(hi:M[n]?=some i)(R:aW K aj g H n fs i.fs)(h:m∉aj.fl i.cls):fs.lookup m=none:=by
 refine R.no ?_;cases hl:i.fs.lookup m with
 |none=>rfl
 |some x=>exact absurd (w.fd n i hi m (lookup_mem hl)) h
theorem Og{tb:List (Str×MV)}{as:QA}{n k:Nat}{t:TA}(hr:Room k X.A)(T:qY X aj k m n tb)(hn:∀M ρ ds,as M ρ=.ok ds->ds.length+1=n)(ht:∀σ H Q,vA X.K aj W as σ H Q->t σ H Q)(σ:L2.St)(H:Hp)(Q:VK)(h:tQ X.K aj W (xZ tb fo as) σ H Q):yu X W m (tW X.K aj W fo) t σ H Q:=by
 obtain⟨g,ρ,M,I,h⟩:=h;refine tW.go I h.bnd λd v H1 h1 e1 r1=>?_;have I1:=I.ex e1;split at h1
 .next j mm hmv=>
  obtain⟨hd,i,a,C,dx,fs,rfl,hi,hl,ha,rfl,c1,c2,c3⟩:=zJ T.cls I1.wok hmv r1;obtain⟨⟨C',f,cc,cl,me,nf,fd,ps,j',hj,hp,hB,F⟩,en⟩:=T _ _ hl;have en:j=n:=en;rw[c1]at cc;cases cc;refine⟨a,C,dx,fs,f,fd,ps,_,j',rfl,c2,Fw I1.wok hi c3 nf,cl,me,hr.mono hj,hB,F,ht σ H1 _ ⟨g,ρ,M,I1,?_⟩⟩;have h2:=h1.bnd;cases has:as M ρ with
  |exc x=>rw[has]at h2;exact gR.ex e1 h2
  |bad=>rw[has]at h2;exact agn h2
  |ok ds=>
   rw[has]at h2;intro vs H2 e2 r2;refine⟨by rw[hp,en,<-hn M ρ ds has,afA,r2.length],g,M,obj hd::ds,(I1.ex e2).kd,(I1.ex e2).wok,.cons (.obj ha) r2,?_⟩;exact Out.sat.mono h2 (λd k v H' e' r'=>k v H' ((e1.trans e2).trans e') r') λx k H' c dd e' r'=>k H' c dd ((e1.trans e2).trans e') r'
 .exact agn h1
theorem Wv{tb:List (Str×MV)}{as:QA}{k:Nat}(tk:Takes X W)(hr:Room k X.A)(T:qY X aj k m ((e::es).length+1) tb)(ho:QW aj X W o fo)(ha:pN aj X W (e::es) as)(hn:∀M ρ ds,as M ρ=.ok ds->ds.length=(e::es).length)(hb:baseOk o=true)(hs:(e::es).all nst=true)(hl:(apos.endLine==pos.line)=true)(hz:(e::es).length<30) :
  QE aj X W (.Call (.Attribute o m apos) (e::es) [] pos) (xZ tb fo as):=
 PE.weak (Fx tk ho ha hb hs hl hz) λσ H Q h=>Og hr T (λM ρ ds z=>by rw[hn M ρ ds z]) (λ_ _ _ z=>z) σ H Q h
theorem SQ{tb:List (Str×MV)}{k:Nat}(tk:Takes X W)(hr:Room k X.A)(T:qY X aj k m 1 tb)(ho:QW aj X W o fo)(hb:baseOk o=true)(hl:(apos.endLine==pos.line)=true) :
  QE aj X W (.Call (.Attribute o m apos) [] [] pos) (xZ tb fo aG):=
 PE.weak (Az tk ho hb hl) λσ H Q h=>Og hr T (λM ρ ds z=>by cases z;rfl) (λσ H Q ⟨g,ρ,M,I,z⟩=>z [] H (Ex.refl H) .nil) σ H Q h
theorem O4{tb:List (Str×MV)}{as:QA}{n k:Nat}{t:TA}(hr:Room k X.A)(T:qY X aj k m n tb)(hn:∀M ρ ds,as M ρ=.ok ds->ds.length+1=n)(ht:∀σ H Q,vA X.K aj W as σ H Q->t σ H Q)(σ:L2.St)(H:Hp)(Q:VK)(h:tE X.K aj W false (xQ tb fo as) σ H Q):yu X W m (tW X.K aj W fo) t σ H Q:=by
 obtain⟨g,ρ,M,I,h⟩:=h;have quiet:∀{x:bL},gE X.K aj W false g H σ ρ x M->gR X.K aj W g H σ x:=λ{x} z H' c dd e r=>z H' g c dd (Gr.ex e) (I.ex e) r;have h:=h.bnd;refine⟨g,ρ,M,I,?_⟩;cases ho:fo M ρ with
 |exc x=>rw[ho]at h;exact quiet h
 |bad=>rw[ho]at h;exact agn h
 |ok d=>
  rw[ho]at h;intro v H1 e1 r1;have I1:=I.ex e1;have h:(match oZ tb M d with
   |some (.q _ m)=>((as M ρ).at M).bind λds _=>(m M (d::ds)).at M
   |some (.g _ m)=>((as M ρ).at M).bind λds _=>m M (d::ds)
   |none=>.bad).sat (λd M'=>∀v H' g',Gr false g g' H H'->SInv X.K aj σ H' g' ρ M'->Rep X.K g' H' v d->Q v H') (gE X.K aj W false g H σ ρ):=h
  split at h
  .next j mm hmv=>
   obtain⟨hd,i,a,C,dx,fs,rfl,hi,hl,ha,rfl,c1,c2,c3⟩:=zJ T.cls I1.wok hmv r1;obtain⟨⟨C',f,cc,cl,me,nf,fd,ps,j',hj,hp,hB,F⟩,en⟩:=T _ _ hl;have en:j=n:=en;rw[c1]at cc;cases cc;refine⟨a,C,dx,fs,f,fd,ps,_,j',rfl,c2,Fw I1.wok hi c3 nf,cl,me,hr.mono hj,hB,F,ht σ H1 _ ⟨g,ρ,M,I1,?_⟩⟩;have h2:=h.bnd;cases has:as M ρ with
   |exc x=>rw[has]at h2;exact gR.ex e1 (quiet h2)
   |bad=>rw[has]at h2;exact agn h2
   |ok ds=>
    rw[has]at h2;intro vs H2 e2 r2;have e12:=e1.trans e2;refine⟨by rw[hp,en,<-hn M ρ ds has,afA,r2.length],g,M,obj hd::ds,(I1.ex e2).kd,(I1.ex e2).wok,.cons (.obj ha) r2,?_⟩;exact Out.sat.mono (Out.cP h2) (λd k v H' e' r'=>k v H' g (Gr.ex (e12.trans e')) (I.ex (e12.trans e')) r') λx k H' c dd e' r'=>k H' g c dd (Gr.ex (e12.trans e')) (I.ex (e12.trans e')) r'
  .next j mm hmv=>
   obtain⟨hd,i,a,C,dx,fs,rfl,hi,hl,ha,rfl,c1,c2,c3⟩:=zJ T.cls I1.wok hmv r1;obtain⟨⟨C',f,cc,cl,me,nf,fd,ps,j',hj,hp,hB,F⟩,en⟩:=T _ _ hl;have en:j=n:=en;rw[c1]at cc;cases cc;refine⟨a,C,dx,fs,f,fd,ps,_,j',rfl,c2,Fw I1.wok hi c3 nf,cl,me,hr.mono hj,hB,F,ht σ H1 _ ⟨g,ρ,M,I1,?_⟩⟩;have h2:=h.bnd;cases has:as M ρ with
   |exc x=>rw[has]at h2;exact gR.ex e1 (quiet h2)
   |bad=>rw[has]at h2;exact agn h2
   |ok ds=>
    rw[has]at h2;intro vs H2 e2 r2;have e12:=e1.trans e2;refine⟨by rw[hp,en,<-hn M ρ ds has,afA,r2.length],g,M,obj hd::ds,(I1.ex e2).kd,(I1.ex e2).wok,.cons (.obj ha) r2,?_⟩;exact aV.sat.mono h2 (λd M' k v H' g' c kd wk r'=>k v H' g' ((Gr.ex e12).trans c.gr) ((I.ex e12).call c kd wk) r') λx M' k H' g' cc dd c kd wk r'=>k H' g' cc dd ((Gr.ex e12).trans c.gr) ((I.ex e12).call c kd wk) r'
  .exact agn h
theorem Wd{tb:List (Str×MV)}{as:QA}{k:Nat}(tk:Takes X W)(hr:Room k X.A)(T:qY X aj k m ((e::es).length+1) tb)(ho:QW aj X W o fo)(ha:pN aj X W (e::es) as)(hn:∀M ρ ds,as M ρ=.ok ds->ds.length=(e::es).length)(hb:baseOk o=true)(hs:(e::es).all nst=true)(hl:(apos.endLine==pos.line)=true)(hz:(e::es).length<30) :
  GE aj X W false (.Call (.Attribute o m apos) (e::es) [] pos) (xQ tb fo as):=
 PE.weak (Fx tk ho ha hb hs hl hz) λσ H Q h=>O4 hr T (λM ρ ds z=>by rw[hn M ρ ds z]) (λ_ _ _ z=>z) σ H Q h
theorem Tg{tb:List (Str×MV)}{k:Nat}(tk:Takes X W)(hr:Room k X.A)(T:qY X aj k m 1 tb)(ho:QW aj X W o fo)(hb:baseOk o=true)(hl:(apos.endLine==pos.line)=true) :
  GE aj X W false (.Call (.Attribute o m apos) [] [] pos) (xQ tb fo aG):=
 PE.weak (Az tk ho hb hl) λσ H Q h=>O4 hr T (λM ρ ds z=>by cases z;rfl) (λσ H Q ⟨g,ρ,M,I,z⟩=>z [] H (Ex.refl H) .nil) σ H Q h
end
def iD(x:Str):SF:=λM ρ=>.exc ⟨x,[]⟩ ρ M
def u5(x:Str)(fs:List Str)(as:QA):SF:=λM ρ=>((as M ρ).at M).then ρ λds M'=>.exc ⟨x,(fs.zip ds).reverse⟩ ρ M'
section
variable{X:Cx}{aj:aA}{W:WX}{q:Bool}{x:Str}{pos p p1:Pos}{k:Nat}
theorem QJ(hc:X.calm=true)(tk:Takes X W)(hg:Gl X x)(hd:(x==("__debug__" : Str))=false)(g:aQ X.prog X.w X.K X.mg X.base aj k x .exc):SE aj X W q (.Raise (some (.Call (.Name x p) [] [] p1)) none pos) (iD x):=by obtain⟨C,g1,g2,g3,g4,g5,g6⟩:=g;exact PS.weak (ps_raise hc tk (Ear.QZ PySem.F.excBase_ValueError g3 g1 g4 (raises_own g5 g6) hg hd)) λD σ H ⟨g,ρ,M,I,z⟩=>z σ H g (.ref C) none Gr.refl I ⟨C,g2,rfl,.inl ⟨rfl,rfl⟩⟩
theorem Bh{X:Cx}{x:Str}{C:Addr}{p pos:Pos}{bmB:List Value}{B newId initId:String}(F:ExcBaseFacts B newId initId bmB)(q:PySem.W.excIn X.K C bmB newId=true)(gC:X.mg x=some (.ref C))(kC:PySem.W.keepIn X.K (.ref C)=true)(r:Raises X (.ref C))(hg:Gl X x)
  (hn:(x==("__debug__" : Str))=false):L2H.PMk5 X (.Call (.Name x p) [] [] pos) (λ_ H Q=>Q (.ref C) none H):=by
 intro pins s σ H Q I h;refine wpAny_Call_Name_kw (ld_glob I hg gC ?_ hn);refine PySem.W.callWith_K0 I.kIn kC ?_;show wpAny _ _ (call (.ref C) []) _ _ _;obtain⟨bm,N,nm,qn,bs,hdct,sn,sub,ab,col,dd,k0,k1,k2,k3,k5,mN,hC,hN,hni,T⟩:=exc_obj I.kIn q;refine wpAny_call_exc_subT F T hC hN hni (λh' e hm=>?_) (afU _);exact L2H.mk_of5 I hm r h (I.hok.gone hm.new)
theorem Nr(hc:X.calm=true)(tk:L2N.Takes X W)(hg:Gl X x)(hd:(x==("__debug__" : Str))=false)(g:aQ X.prog X.w X.K X.mg X.base aj k x .exc):SE aj X W q (.Raise (some (.Call (.Name x p) [] [] p1)) none pos) (iD x):=by obtain⟨C,g1,g2,g3,g4,g5,g6⟩:=g;exact PS.weak (L2N.ps_raise hc tk (Bh PySem.F.excBase_ValueError g3 g1 g4 (raises_own g5 g6) hg hd).pmk) λD σ H ⟨g,ρ,M,I,z⟩=>z σ H g (.ref C) none Gr.refl I ⟨C,g2,rfl,.inl ⟨rfl,rfl⟩⟩
theorem d7.gr{K:afr}{g g':Gh}{H H':Hp}{q:Bool}(r:Gr q g g' H H')(k:Kd g H){fs:List (Str×V)}{gs:List (Str×Dat)}(h:d7 K g H fs gs):d7 K g' H' fs gs:=by
 induction h with
 |nil=>exact .nil
 |cons z _ ih=>exact .cons (z.gr r k) ih
theorem d7.snoc{K:afr}{g:Gh}{H:Hp}{f:Str}{v:V}{d:Dat}(z:Rep K g H v d){fs:List (Str×V)}{gs:List (Str×Dat)}(h:d7 K g H fs gs):d7 K g H (fs++[(f,v)]) (gs++[(f,d)]):=by
 induction h with
 |nil=>exact .cons z .nil
 |cons y _ ih=>exact .cons y ih
theorem Lz{K:afr}{g:Gh}{H:Hp}:∀{fs:List Str} {vs:List V} {ds:List Dat},au K g H vs ds->d7 K g H (fs.zip vs).reverse (fs.zip ds).reverse
 |[],_,_,_=>.nil
 |_::_,_,_,.nil=>.nil
 |f::fs,_,_,.cons z t=>by
  rw[afP,afP,List.reverse_cons,List.reverse_cons];exact(Lz t).snoc z
theorem Ql{e:Expr}{es:List Expr}{fs:List Str}{as:QA}(hc:X.calm=true)(tk:Takes X W)(hr:Room k X.A)(hg:Gl X x)(hd:(x==("__debug__" : Str))=false)(g:aQ X.prog X.w X.K X.mg X.base aj k x (.exi fs))(ha:pN aj X W (e::es) as)
  (hs:(e::es).all nst=true) (hn:∀M ρ ds,as M ρ=.ok ds->ds.length=fs.length) (hz:fs.length<=1000):SE aj X W q (.Raise (some (.Call (.Name x p) (e::es) [] p1)) none pos) (u5 x fs as):=by
 obtain⟨C,fI,fd,ps,g1,g2,g3,g4,g5,hk,hp,hB,F⟩:=g;have hs':=hs;rw[afW,afs]at hs';refine PS.weak (ps_raise hc tk (pmk_oex g3 g4 g5 F (hr.mono hk) hB .nil pass0 hg g1 ha hd (aM hs'.1 es) (star_any es hs'.2))) λD σ H ⟨g,ρ,M,I,z⟩=>?_;refine⟨g,ρ,M,I,?_⟩;unfold u5 at z;cases has:as M ρ with
 |exc y=>rw[has]at z;exact λH' c dd e r=>z σ H' g c dd (Gr.ex e) (I.ex e) r.fr
 |bad=>rw[has]at z;exact agn z
 |ok ds=>
  rw[has]at z;intro vs H1 e1 r1;have hl:vs.length=fs.length:=by rw[r1.length,hn M ρ ds has]
  refine⟨by omega,λa na=>⟨a,vs++[],rfl,by simpa using hl,agu,λdx H' nd kp dm ha' hd'=>?_⟩⟩;have ne:dx≠a:=λz=>by
   subst z;rw[agu]at nd;cases nd
  rw[upd_ne ne]at nd;refine⟨rfl,dx,_,ha',hd',nd,?_⟩;have kp':∀b o,H1 b=some o->(upd (del H' a) dx (.xd (fs.zip (vs++[])).reverse)) b=some o:=λb o hb=>by
   have nb:b≠a:=λz=>by subst z;rw[na]at hb;cases hb
   have nd':b≠dx:=λz=>by subst z;rw[nd]at hb;cases hb
   rw[upd_ne nd',del_ne nb];exact kp b o nb (by rw[upd_ne nb];exact hb)
  have ex:Ex H1 (upd (del H' a) dx (.xd (fs.zip (vs++[])).reverse)):=λb o hb=>kp' b o hb;have I1:=I.ex e1;refine z σ _ g (.ref C) (some dx) (Gr.ex (e1.trans ex)) (I1.ex ex) ⟨C,g2,rfl,.inr ⟨dx,_,rfl,agu,?_⟩⟩;rw[af0];have:=(Lz (fs:=fs) r1).gr (Gr.ex (q:=true) ex) I1.kd;rw[af0]at this;exact d7.less (g:=g) (g':=g.fr) rfl (jR g) this
end
structure Cl where
 c:Value
 nm:Option Nat
 ts:Addr->Value->Option Addr->TS
def acv(D:Ends)(i:Nat):Ends:={ nx:=λτ G=>D.nx (τ.set i none) G,rt:=D.rt,bk:=λτ G=>D.bk (τ.set i none) G,ct:=λτ G=>D.ct (τ.set i none) G }
def Dh(K:afr)(Wo:WX)(D:Ends):List Cl->WX
 |[]=>Wo
 |l::r=>λcls d τ G=>∃b,PySem.W.exmOne K cls l.c=some b/\(b=true->∀a,G a=none->(match l.nm with
   |none=>l.ts a cls d D τ G
   |some i=>l.ts a cls d (acv D i) (τ.set i (some (.ref a))) G))/\(b=false->Dh K Wo D r cls d τ G)
inductive mD(X:Cx):List ExceptHandler->List Cl->Prop
 |nil:mD X [] []
 |one {x:Str} {l:Cl} {s0:Stmt} {su:List Stmt} {np cp:Pos} {hds:List ExceptHandler} {ls:List Cl} (hc:Names X x l.c) (hn:l.nm=none)
   (hsu:∀(a:Addr) (oe:Obj) (cls:Value) (d:Option Addr) (pn:List (Addr×Obj)),Zc cls d oe->(∃vs,oe.data=.fields vs)->PSs (X.suite a ((a,oe)::pn)) (s0::su) (l.ts a cls d)) (r:mD X hds ls) :
   mD X (.ExceptHandler (some (.Name x np)) none (s0::su) cp::hds) (l::ls)
 |as {x n:Str} {i:Nat} {l:Cl} {s0:Stmt} {su:List Stmt} {np cp:Pos} {hds:List ExceptHandler} {ls:List Cl} (hc:Names X x l.c) (hn:l.nm=some i) (hi:X.N[i]?=some n) (hl:X.env.kindOf n=some .local)
   (hsu:∀(a:Addr) (oe:Obj) (cls:Value) (d:Option Addr) (pn:List (Addr×Obj)),Zc cls d oe->(∃vs,oe.data=.fields vs)->PSs (X.suite a ((a,oe)::pn)) (s0::su) (l.ts a cls d)) (r:mD X hds ls) :
   mD X (.ExceptHandler (some (.Name x np)) (some n) (s0::su) cp::hds) (l::ls)
section
variable{X:Cx}{body:List Stmt}{h0:ExceptHandler}{hds:List ExceptHandler}{ls:List Cl}{pos:Pos}{tb:WX->TS}{Wo:WX}
theorem Ux(hs:X.stack=X.env::X.outer)(hf:X.env.frame=some X.env.locals)(hN:X.N.Nodup)(tk:Takes X Wo)
  (hb:∀(W:WX) (pn:List (Addr×Obj)) (xe:Value->Shared->Prop),Takes (X.tr pn xe) W->PassesOwn (model X.prog X.w) X.A X.env xe->PSs (X.tr pn xe) body (tb W))
  (hh:mD X (h0::hds) ls):PS X (.Try body (h0::hds) [] [] pos) (λD σ H=>tb (Dh X.K Wo D ls) D σ H):=by
 constructor;intro pins s σ H D I h;have ok:=I.ok;have frm:X.A.frames=some (X.env::X.outer):=by rw[ok.frames,hs]
 have run:=(hb (Dh X.K Wo D ls) (X.pn++pins) (λe t₁=>wpAny (model X.prog X.w) X.A (noteFrame e X.env) (λ_ t₂=>wpAny (model X.prog X.w) X.A (setFlight e none) (λ_ t₃=>wpAny (model X.prog X.w) X.A (handleBy e X.env (h0::hds)) (SP X pins D) X.xe t₃) X.xe t₂) X.xe t₁) (λu t xx=>by
  obtain⟨a,B,sI,pins2,τ,G,cls,d,rfl,J2,nb,up,sky,na,os,ag,w⟩:=xx;have J:Inv X pins τ G sI:=J2.ofTry ok;have sky2:Sky B (X.env::X.outer) a (Zc cls d) X.env.locals t.heap:=by rw[<-hs];exact sky
  show wpAny (model X.prog X.w) X.A (noteFrame (.ref a) X.env) _ _ _;refine Sky.land Zc.steady frm hf sky2 ?_;intro h3 fl3 up3;have J3:Inv X pins τ G { t with heap:=h3 }:=J.landed nb fl3.1 (up.trans up3) os ag;obtain⟨oe3,vs3,he3,hz3,hd3⟩:=fl3.there;have notF:a∉frs (X.env::X.outer):=λhm=>by
   obtain⟨_,o,eo,hnf⟩:=Heap.FunFrames.mem fl3.2.2.1 hm;rw[he3]at eo;cases eo;exact hnf _ hd3
  have nL:a≠X.env.locals:=λz=>notF (List.mem_filterMap.mpr ⟨X.env,afv,(by rw[hf,z])⟩);have nF:a∉X.fs:=λhm=>by
   obtain⟨e,he,q⟩:=List.mem_filterMap.mp hm;exact notF (List.mem_filterMap.mpr ⟨e,afu _ he,q⟩)
  have S3:=J3.suite he3 hd3 na nL nF;have look:PySem.W.Looks (model X.prog X.w) h3 (typeOf (.ref a)) cls:=λA Q E s k q=>wpAny_typeOf_ref (k _ _ he3) (by rw[hz3.1];exact q);have named:∀{x:Str} {c:Value} {np:Pos} {Q:Value->Shared->Prop} {E:Value->Shared->Prop},Names X x c->Q c { t with heap:=h3 }->wpAny (model X.prog X.w) (X.A.mark (some (.ref a))) (eval (.Name x np) X.env) Q E { t with heap:=h3 }:=by
   intro x c np Q E hc q;obtain⟨hg,hdb,hm⟩:=hc;rcases hm with hm|⟨hm,hv,hnn⟩
   .exact ld_glob (X:=X.suite a ((a,oe3)::(X.pn++pins))) S3 hg hm q hdb
   .exact ld_blt (X:=X.suite a ((a,oe3)::(X.pn++pins))) S3 hg hm hv q hnn hdb
  have all:∀{hds2:List ExceptHandler} {ls2:List Cl},mD X hds2 ls2->Dh X.K Wo D ls2 cls d τ G->wpAny (model X.prog X.w) X.A (handleBy (.ref a) X.env hds2) (SP X pins D) X.xe { t with heap:=h3 }:=by
   intro hds2 ls2 hk
   induction hk with
   |nil=>
    intro w;refine wpAny_handleBy_nil ?_;obtain⟨k1,k2,k3,oe,vs,T,oT,ts2,he,hz,hd,h1,hr⟩:=id fl3;unfold PySem.passOn;refine agq (wpAny_field he hd h1 ?_);have nT:¬((Value.ref T==Value.none)=true):=by simp
    rw[agt nT];have fin:wpAny (model X.prog X.w) X.A (setFlight (.ref a) X.env.frame) (λ_ s4=>wpAny (model X.prog X.w) X.A (throw (.ref a):Sem Flow) (SP X pins D) X.xe s4) X.xe { t with heap:=h3 }:=by rw[hf];refine HandSPX.setFlight_upZ fl3 ?_;intro h4 hh4 up4;refine wpAny_throw (tk _ _ ?_);exact⟨a,B,sI,pins,τ,G,cls,d,rfl,J,nb,(up.trans up3).trans up4,.inr (.inr (by rw[hs];exact hh4)),na,os,ag,w⟩
    first
     |exact agq (agr (agq fin))
     |exact agq fin
   | @one x l s0 su np cp hds3 ls3 hc hn hsu r ih=>
    intro w;obtain⟨b,hb1,yes,no⟩:=w;rw[hn]at yes;have LM:=PySem.W.exm_one (M:=model X.prog X.w) J3.kIn look hb1;refine wpAny_handleBy_cons (codeAny_handlers_test ?_) (by intro q;cases q);refine named hc (LM.here ?_);cases b with
    |false=>exact ih (no rfl)
    |true=>
     refine codeAny_handlers_suite ?_;refine HandSPX.lands_againZ fl3 ?_;intro h4 fl4 up4;have J4:Inv X pins τ G { t with heap:=h4 }:=J.landed nb fl4.1 ((up.trans up3).trans up4) os ag;obtain⟨oe4,vs4,he4,hz4,hd4⟩:=fl4.there;have S4:=J4.suite he4 hd4 na nL nF;refine wpAny_mono ((hsu a oe4 cls d (X.pn++pins) hz4 ⟨_,hd4⟩).run [] _ _ G _ S4 (yes rfl a na)) ?_ (λ_ _ z=>agn z);intro f s6 sp6;cases f with
     |ret u=>
      obtain⟨v6,τ6,G6,S6,r6,q6⟩:=sp6;exact⟨_,_,_,S6.unsuite ok,r6,q6⟩
     |next=>
      obtain⟨τ6,G6,S6,q6⟩:=sp6;exact⟨_,_,S6.unsuite ok,q6⟩
     |brk=>
      obtain⟨τ6,G6,S6,q6⟩:=sp6;exact⟨_,_,S6.unsuite ok,q6⟩
     |cont=>
      obtain⟨τ6,G6,S6,q6⟩:=sp6;exact⟨_,_,S6.unsuite ok,q6⟩
   | @as x n i l s0 su np cp hds3 ls3 hc hn hi hl hsu r ih=>
    intro w;obtain⟨b,hb1,yes,no⟩:=w;rw[hn]at yes;have LM:=PySem.W.exm_one (M:=model X.prog X.w) J3.kIn look hb1;refine wpAny_handleBy_cons (codeAny_handlers_test ?_) (by intro q;cases q);refine named hc (LM.here ?_);cases b with
    |false=>exact ih (no rfl)
    |true=>
     refine codeAny_handlers_suite_as ?_;refine HandSPX.lands_againZ fl3 ?_;intro h4 fl4 up4;have J4:Inv X pins τ G { t with heap:=h4 }:=J.landed nb fl4.1 ((up.trans up3).trans up4) os ag;obtain⟨oe4,vs4,he4,hz4,hd4⟩:=fl4.there;have S4:=J4.suite he4 hd4 na nL nF;refine store_ok (X:=X.suite a ((a,oe4)::(X.pn++pins))) (v:=.ref a) S4 hN hi (.inl hl) rfl ?_ (.inr hl);intro s5 S5;refine wpAny_mono ((hsu a oe4 cls d (X.pn++pins) hz4 ⟨_,hd4⟩).run [] s5 _ G _ S5 (yes rfl a na)) ?_ (λ_ _ z=>agn z);intro f s6 sp6;have bye:∀{τ6:L2.St} {G6:Hp} {Q:Shared->Prop},Inv (X.suite a ((a,oe4)::(X.pn++pins))) [] τ6 G6 s6->(∀s7,Inv X pins (τ6.set i none) G6 s7->Q s7)->
       wpAny (model X.prog X.w) X.A (do bindName X.env n .none;unbindBehindTheSuite X.env n cp) (λ_ s7=>Q s7) X.xe s6:=λS6 hq=>gone_ok (S6.unsuite ok) hN hi hl hq
     cases f with
     |ret u=>
      obtain⟨v6,τ6,G6,S6,r6,q6⟩:=sp6;exact bye S6 λs7 J7=>⟨_,_,_,J7,r6,q6⟩
     |next=>
      obtain⟨τ6,G6,S6,q6⟩:=sp6;exact bye S6 λs7 J7=>⟨_,_,J7,q6⟩
     |brk=>
      obtain⟨τ6,G6,S6,q6⟩:=sp6;exact bye S6 λs7 J7=>⟨_,_,J7,q6⟩
     |cont=>
      obtain⟨τ6,G6,S6,q6⟩:=sp6;exact bye S6 λs7 J7=>⟨_,_,J7,q6⟩
  exact all hh w) PassesOwn.looking).run [] s σ H D (I.toTry _) h
 refine wpAny_Try_except (wpAny_mono run ?_ (λ_ _ z=>z));intro f s1 sp1;cases f with
 |ret u=>
  obtain⟨v,τ,G,J2,r,q⟩:=sp1;exact⟨v,τ,G,J2.ofTry ok,r,q⟩
 |next=>
  obtain⟨τ,G,J2,q⟩:=sp1;exact wpAny_execs_nil ⟨τ,G,J2.ofTry ok,q⟩
 |brk=>
  obtain⟨τ,G,J2,q⟩:=sp1;exact⟨τ,G,J2.ofTry ok,q⟩
 |cont=>
  obtain⟨τ,G,J2,q⟩:=sp1;exact⟨τ,G,J2.ofTry ok,q⟩
end
inductive oK where
 |con (d:Dat)|fld (f:Str)|flds (fs:List Str)
def Em(y:Str)(x:bL)(f:Str):Option Dat:=match x.cls==y with
 |true=>(x.fs.lookup f).bind λd=>match lf d with
  |true=>some d
  |false=>none
 |false=>none
def yt(y:Str)(x:bL):List Str->Option (List Dat)
 |[]=>some []
 |f::fs=>(Em y x f).bind λd=>(yt y x fs).bind λds=>some (d::ds)
def Fb(y:Str)(x:bL):oK->Option Dat
 |.con d=>some d
 |.fld f=>Em y x f
 |.flds fs=>(yt y x fs).bind λds=>some (.tuple ds)
def oU(y:Str)(x:bL):List (Nat×oK)->Env->Option Env
 |[],ρ=>some ρ
 |(j,e)::r,ρ=>(Fb y x e).bind λd=>oU y x r (ρ.set j (some (.dat d)))
structure Hd where
 y:Str
 tk:Str->Option Bool
 nm:Option Nat
 st:List (Nat×oK)
def zU(ρ:Env):Option Nat->Env
 |none=>ρ
 |some i=>ρ.set i none
def KN(ρ:Env):Option Nat->Bool
 |none=>true
 |some i=>decide (i<ρ.length)
def hdl:List Hd->bL->Env->Mo->ig
 |[],x,ρ,M=>.exc x ρ M
 |h::r,x,ρ,M=>match h.tk x.cls with
  |some true=>match KN ρ h.nm with
   |true=>match oU h.y x h.st (zU ρ h.nm) with
    |some Z2=>.next (zU Z2 h.nm) M
    |none=>.bad
   |false=>.bad
  |some false=>hdl r x ρ M
  |none=>.bad
def Hf(f:SF)(hs:List Hd):SF:=λM ρ=>match f M ρ with
 |.exc x Z' M'=>hdl hs x Z' M'
 |o=>o
structure Jb(K:afr)(aj:aA)(σ:L2.St)(H:Hp)(g:Gh)(ρ:Env)(M:Mo)(x:bL)(a:Addr)(cls:Value)(d:Option Addr)(i:Option Nat):Prop where
 inv:SInv K aj σ H g ρ M
 xr:iQ K aj g.fr H x cls d
 sl:∀j,i=some j->σ[j]?=some (some (.ref a))
section
variable(K:afr)(aj:aA)(a:Addr)(cls:Value)(d:Option Addr)(i:Option Nat)
def tU(f:bL->Option Dat):TE:=λσ H Q=>∃g ρ M x z,Jb K aj σ H g ρ M x a cls d i/\f x=some z/\∀v H',Ex H H'->Rep K g H' v z->Q v H'
def Pk(f:bL->Option (List Dat)):TA:=λσ H Q=>∃g ρ M x z,Jb K aj σ H g ρ M x a cls d i/\f x=some z/\∀v H',Ex H H'->au K g H' v z->Q v H'
def Ij(y:Str)(st:List (Nat×oK)):TS:=λD σ H=>∃g ρ M x Z2,Jb K aj σ H g ρ M x a cls d i/\oU y x st ρ=some Z2/\(∀p∈st,i≠some p.1)/\∀σ' H',Ex H H'->SInv K aj σ' H' g Z2 M->D.nx σ' H'
end
section
variable{K:afr}{aj:aA}{a:Addr}{cls:Value}{d:Option Addr}{i:Option Nat}{σ:L2.St}{H H':Hp}{g:Gh}{ρ:Env}{M:Mo}{x:bL}
theorem d7.ex{fs:List (Str×V)}{gs:List (Str×Dat)}(e:Ex H H')(k:Kd g H)(h:d7 K g H fs gs):d7 K g H' fs gs:=h.gr (Gr.ex (q:=true) e) k
theorem iQ.ex{c:Value}{dd:Option Addr}(e:Ex H H')(k:Kd g H)(h:iQ K aj g H x c dd):iQ K aj g H' x c dd:=by obtain⟨C,h1,h2,h3⟩:=h;exact⟨C,h1,h2,h3.imp id λ⟨b,fs,e1,e2,e3⟩=>⟨b,fs,e1,e _ _ e2,e3.ex e k⟩⟩
theorem Jb.ex(e:Ex H H')(h:Jb K aj σ H g ρ M x a cls d i):Jb K aj σ H' g ρ M x a cls d i:=⟨h.inv.ex e,h.xr.ex e h.inv.kd.fr,h.sl⟩
theorem d7.get{f:Str}{z:Dat}{fs:List (Str×V)}{gs:List (Str×Dat)}(h:d7 K g H fs gs)(e:gs.lookup f=some z):∃v,fs.lookup f=some v/\Rep K g H v z:=by
 induction h with
 |nil=>cases e
 | @cons f' v d' _ _ r _ ih=>
  rw[afF]at e;rw[afF];cases hb:f==f' with
  |true=>
   rw[hb]at e;cases e;exact⟨v,rfl,r⟩
  |false=>
   rw[hb]at e;exact ih e
end
section
variable{X:Cx}{aj:aA}{a C:Addr}{oe:Obj}{cls:Value}{d:Option Addr}{pn:List (Addr×Obj)}{y n:Str}{pos p:Pos}{j:Nat}
theorem O9{e:Expr}{z:Dat}{i:Option Nat}{t:TE}(h:PE (X.suite a ((a,oe)::pn)) e t)(ht:∀σ H Q,tU X.K aj a cls d i (λ_=>some z) σ H Q->t σ H Q):PE (X.suite a ((a,oe)::pn)) e (tU X.K aj a cls d i λ_=>some z):=PE.weak h ht
theorem M7{f:Str}(hC:aj y=some C)(T:XfC X.K C)(hno:PySem.W.findIn X.K (.ref C) f=some none)(hz:Zc cls d oe)(hf:∃vs,oe.data=.fields vs)(hN:X.N[j]?=some n)(hv:Vis X.env.scope n)(hd:(n==("__debug__" : Str))=false)(hcd:(n==("__classdict__" : Str))=false) :
  PE (X.suite a ((a,oe)::pn)) (.Attribute (.Name n p) f pos) (tU X.K aj a cls d (some j) λx=>Em y x f):=by
 refine PE.weak (pe_xf T hno hz hf (pe_var (i:=j) (X:=X.suite a ((a,oe)::pn)) hN hv hd hcd)) λσ H Q ⟨g,ρ,M,x,z,I,e,k⟩=>?_;have e:Em y x f=some z:=e;unfold Em at e;split at e
 .next ey=>
  obtain⟨z',l,e⟩:=afq.mp e;split at e
  .next hl=>
   cases e;obtain⟨C',c1,c2,c3⟩:=I.xr;rw[agv ey,hC]at c1;cases c1;rcases c3 with⟨c3,_⟩|⟨b,fs,c3,c4,c5⟩
   .rw[c3]at l;cases l
   .obtain⟨v,l1,l2⟩:=c5.get l;exact⟨.ref a,I.sl j rfl,rfl,c2,b,fs,v,c3,c4,l1,k v H (Ex.refl H) (Rep.free (g:=g.fr) (g':=g) rfl hl l2)⟩
  .cases e
 .cases e
theorem NK{i:Option Nat}:PA (X.suite a ((a,oe)::pn)) [] (Pk X.K aj a cls d i λ_=>some []):=PA.weak pa_nil λσ H Q ⟨g,ρ,M,x,z,I,e,k⟩=>by
 cases e;exact k [] H (Ex.refl H) .nil
theorem Uz{e:Expr}{es:List Expr}{i:Option Nat}{f:bL->Option Dat}{fr:bL->Option (List Dat)}(h:PE (X.suite a ((a,oe)::pn)) e (tU X.K aj a cls d i f))(hr:PA (X.suite a ((a,oe)::pn)) es (Pk X.K aj a cls d i fr))(hs:nst e=true) :
  PA (X.suite a ((a,oe)::pn)) (e::es) (Pk X.K aj a cls d i λx=>(f x).bind λz=>(fr x).bind λzs=>some (z::zs)):=by
 refine PA.weak (pa_cons h hr (aM hs es)) λσ H Q ⟨g,ρ,M,x,z,I,e,k⟩=>?_;obtain⟨z1,e1,e⟩:=afq.mp e;obtain⟨z2,e2,e⟩:=afq.mp e;cases e;exact⟨g,ρ,M,x,z1,I,e1,λv H1 x1 r1=>⟨g,ρ,M,x,z2,I.ex x1,e2,λvs H2 x2 r2=>k (v::vs) H2 (x1.trans x2) (.cons (r1.ex x2 (I.ex x1).inv.kd) r2)⟩⟩
theorem O2{es:List Expr}{kk:Nat}{i:Option Nat}{fr:bL->Option (List Dat)}(hr:PA (X.suite a ((a,oe)::pn)) es (Pk X.K aj a cls d i fr))(hn:∀x zs,fr x=some zs->zs.length<=100000):PE (X.suite a ((a,oe)::pn)) (.Tuple es kk pos) (tU X.K aj a cls d i λx=>(fr x).bind λzs=>some (.tuple zs)):=by refine PE.weak (pe_tup hr) λσ H Q ⟨g,ρ,M,x,z,I,e,k⟩=>?_;obtain⟨zs,e1,e⟩:=afq.mp e;cases e;refine⟨g,ρ,M,x,zs,I,e1,λvs H1 x1 r1=>⟨sz_of (by rw[r1.length];exact hn x zs e1),λp np=>?_⟩⟩;exact k (.ref p) _ (x1.trans (Ex.new np)) (.tup (st_of agu) (r1.ex (Ex.new np) (I.ex x1).inv.kd))
theorem Br{x:bL}:∀{fs:List Str} {zs:List Dat},yt y x fs=some zs->zs.length=fs.length
 |[],zs,h=>by cases h;rfl
 |f::fs,zs,h=>by
  rw[yt]at h;obtain⟨z1,e1,h⟩:=afq.mp h;obtain⟨z2,e2,h⟩:=afq.mp h;cases h;simp[Br e2]
theorem Xq{i:Option Nat}{se:oK}{st:List (Nat×oK)}{D D':Ends}{σ:L2.St}{H:Hp}(h:Ij X.K aj a cls d i y ((j,se)::st) D σ H)(nx:∀σ' H',Ij X.K aj a cls d i y st D σ' H'->D'.nx σ' H') :
  tAsg (tU X.K aj a cls d i λx=>Fb y x se) (gName j) D' σ H:=by
 obtain⟨g,ρ,M,x,Z2,I,e,nj,k⟩:=h;rw[oU]at e;obtain⟨z,e1,e⟩:=afq.mp e;refine⟨g,ρ,M,x,z,I,e1,λv H' x1 r1=>nx _ _ ⟨g,ρ.set j (some (.dat z)),M,x,Z2,⟨(I.ex x1).inv.set r1,(I.ex x1).xr,λjj hj=>?_⟩,e,λp hp=>nj p (afu _ hp),λσ' H2 x2 I2=>k σ' H2 (x1.trans x2) I2⟩⟩;have ne:j≠jj:=λz=>nj (j,se) afv (by rw[hj,z]);rw[afz ne];exact I.sl jj hj
theorem Y0{i:Option Nat}{D:Ends}{σ:L2.St}{H:Hp}(h:Ij X.K aj a cls d i y [] D σ H):D.nx σ H:=by obtain⟨g,ρ,M,x,Z2,I,e,nj,k⟩:=h;cases e;exact k σ H (Ex.refl H) I.inv
end
def abR(K:afr)(aj:aA)(h:Hd)(l:Cl):Prop:=(∃D,aj h.y=some D/\l.c=.ref D)/\Ku K aj h.y h.tk/\l.nm=h.nm/\(l.ts=λa cls d=>Ij K aj a cls d h.nm h.y h.st)/\∀p∈h.st,h.nm≠some p.1
inductive pP(K:afr)(aj:aA):List Hd->List Cl->Prop
 |nil:pP K aj [] []
 |cons {h:Hd} {l:Cl} {hs:List Hd} {ls:List Cl} (o:abR K aj h l) (r:pP K aj hs ls):pP K aj (h::hs) (l::ls)
theorem SInv.off{K:afr}{aj:aA}{σ:L2.St}{H:Hp}{g:Gh}{ρ:Env}{M:Mo}(I:SInv K aj σ H g ρ M)(i:Nat)(v:Option V):SInv K aj (σ.set i v) H g (ρ.set i none) M:=by
 have I2:=I.forget (j:=i);refine⟨I2.kd,I2.wok,by rw[afM,afM];exact I.len,λj d h=>?_,λj xs h=>?_,λj k xs ys l ne h1 h2 h3=>?_⟩
 .by_cases e:j=i
  .subst e;rw[agd]at h;split at h<;>first | (split at h<;>cases h) | (exact absurd rfl ‹¬_›)
  .obtain⟨v',a1,a2⟩:=I2.dat j d h;rw[afz (Ne.symm e)]at a1;exact⟨v',by rw[afz (Ne.symm e)];exact a1,a2⟩
 .by_cases e:j=i
  .subst e;rw[agd]at h;split at h<;>first | (split at h<;>cases h) | (exact absurd rfl ‹¬_›)
  .obtain⟨l,us,a1,a2⟩:=I2.own j xs h;rw[afz (Ne.symm e)]at a1;exact⟨l,us,by rw[afz (Ne.symm e)];exact a1,a2⟩
 .have n1:j≠i:=λz=>by
   subst z;rw[agd]at h1;split at h1<;>first | (split at h1<;>cases h1) | (exact absurd rfl ‹¬_›)
  have n2:k≠i:=λz=>by
   subst z;rw[agd]at h2;split at h2<;>first | (split at h2<;>cases h2) | (exact absurd rfl ‹¬_›)
  rw[afz (Ne.symm n1)]at h1 h3;rw[afz (Ne.symm n2)]at h2 |-
  exact I.sep j k xs ys l ne h1 h2 h3
section
variable{X:Cx}{aj:aA}{W:WX}{q:Bool}{body:List Stmt}{h0:ExceptHandler}{hds:List ExceptHandler}{hs:List Hd}{ls:List Cl}{pos:Pos}{f:SF}
theorem XQ{D:Ends}{g g':Gh}{H H':Hp}{σ':L2.St}{Z':Env}{M':Mo}{x:bL}{c:Value}{dd:Option Addr}(ha:pP X.K aj hs ls)(r:Gr q g g' H H')(I:SInv X.K aj σ' H' g' Z' M')(xr:iQ X.K aj g'.fr H' x c dd)
  (z:(hdl hs x Z' M').sat (sN X.K aj q D.nx g H) (sR X.K aj q D.rt g H) (sN X.K aj q D.bk g H) (sN X.K aj q D.ct g H) (sX X.K aj W q g H)):Dh X.K W D ls c dd σ' H':=by
 induction ha with
 |nil=>exact z σ' H' g' c dd r I xr
 | @cons h l hs ls o _ ih=>
  obtain⟨⟨D0,o1,o2⟩,o3,o4,o5,o6⟩:=o;rw[hdl]at z;obtain⟨C,c1,c2,c3⟩:=id xr;split at z
  .next ht=>
   refine⟨true,by rw[c2,o2];exact o3 _ _ _ ht c1 _ o1,λ_ a na=>?_,λy=>nomatch y⟩;rw[o4,o5];split at z
   .next hm=>
    split at z
    .next Z2 hr=>
     cases hnm:h.nm with
     |none=>
      rw[hnm]at hr z o6;exact⟨g',Z',M',x,Z2,⟨I,xr,λj hj=>nomatch hj⟩,hr,o6,λσ2 H2 e2 I2=>z σ2 H2 g' (r.trans (Gr.ex e2)) I2⟩
     |some i=>
      rw[hnm]at hr z o6 hm;refine⟨g',Z'.set i none,M',x,Z2,⟨I.off i _,xr,λj hj=>?_⟩,hr,o6,λσ2 H2 e2 I2=>z _ H2 g' (r.trans (Gr.ex e2)) (I2.off i none)⟩;cases hj;have hl:i<Z'.length:=agp hm;rw[afE (by rw[I.len];exact hl)]
    .exact agn z
   .exact agn z
  .next ht=>exact⟨false,by rw[c2,o2];exact o3 _ _ _ ht c1 _ o1,(λy=>nomatch y),λ_=>ih z⟩
  .exact agn z
theorem Xz(st:X.stack=X.env::X.outer)(hf:X.env.frame=some X.env.locals)(hN:X.N.Nodup)(tk:Takes X W)
  (hb:∀(W':WX) (pn:List (Addr×Obj)) (xe:Value->Shared->Prop),Takes (X.tr pn xe) W'->PassesOwn (model X.prog X.w) X.A X.env xe->rK aj (X.tr pn xe) W' q body f)
  (hh:mD X (h0::hds) ls) (ha:pP X.K aj hs ls):SE aj X W q (.Try body (h0::hds) [] [] pos) (Hf f hs):=by
 refine PS.weak (Ux (tb:=λW'=>tS X.K aj W' q f) st hf hN tk (λW' pn xe t p=>hb W' pn xe t p) hh) λD σ H ⟨g,ρ,M,I,z⟩=>?_;refine⟨g,ρ,M,I,?_⟩;unfold Hf at z;cases hfm:f M ρ with
 |next Z' M'=>rw[hfm]at z;exact z
 |ret d M'=>rw[hfm]at z;exact z
 |brk Z' M'=>rw[hfm]at z;exact z
 |cont Z' M'=>rw[hfm]at z;exact z
 |bad=>rw[hfm]at z;exact z
 |exc x Z' M'=>
  rw[hfm]at z;exact λσ' H' g' c dd r I' xr=>XQ ha r I' xr z
end
section
variable{K:afr}{aj:aA}{W:WX}{g g':Gh}{H H':Hp}{σ:L2.St}{ρ:Env}{M:Mo}
theorem dB.grow{l:Addr}(r:Gr false g g' H H')(e:Ex H H')(k:Kd g H):∀{n:Bool} {kvs:List (Dat×Dat)},dB K aj g H l n kvs->dB K aj g' H' l n kvs
 |false,_,⟨kv,h1,h2,h3⟩=>⟨kv,e _ _ h1,h2,h3.gr r k⟩
 |true,_,⟨o,xs,vs,h1,h2,h3,h4,h5,h6⟩=>⟨o,xs,vs,e _ _ h1,h2,h3,h4.gr r k,h5,h6.gr r k⟩
theorem bH.grow{h:Nat}{f:Str}{v:V}(r:Gr false g g' H H')(e:Ex H H')(o:g'.ow=g.ow)(k:Kd g H):∀{fl:cQ},bH K aj g H h f v fl->bH K aj g' H' h f v fl
 |.dat _,z=>Rep.gr r k z
 |.lst _ _,⟨l,us,h1,h2,h3,h4,h5⟩=>⟨l,us,h1,e _ _ h2,by rw[o];exact h3,h4.gr r k,r.tb h5⟩
 |.dic _ _,⟨l,h1,h2,h3⟩=>⟨l,h1,by rw[o];exact h2,h3.grow r e k⟩
theorem aW.grow{h:Nat}(r:Gr false g g' H H')(e:Ex H H')(o:g'.ow=g.ow)(k:Kd g H){fs:List (Str×V)}{gs:List (Str×cQ)}(t:aW K aj g H h fs gs):aW K aj g' H' h fs gs:=by
 induction t with
 |nil=>exact .nil
 |cons z _ ih=>exact .cons (z.grow r e o k) ih
def Gh.push(g:Gh)(x:Addr):Gh:={ g with tbl:=g.tbl++[x] }
theorem DN{x a:Addr}(z:(g.push x).A a):g.A a\/a=x:=by
 rcases z with(z|z)|z|z
 .rcases afV.mp z with z|z
  .exact .inl (.inl (.inl z))
  .exact .inr (afJ.mp z)
 .exact .inl (.inl (.inr z))
 .exact .inl (.inr (.inl z))
 .exact .inl (.inr (.inr z))
theorem Dc{x a:Addr}(z:(g.push x).W a):g.W a\/a=x:=by
 rcases z with z|z
 .rcases afV.mp z with z|z
  .exact .inl (.inl z)
  .exact .inr (afJ.mp z)
 .exact .inl (.inr z)
theorem yI{x:Addr}(e:Ex H H')(nx:H x=none):Gr false g (g.push x) H H' where
 keep:=λa o h _ _=>e a o h
 keepW:=λz=>nomatch z
 dom:=j7 e
 tbl:=⟨[x],rfl⟩
 W:=λa z=>z.elim (λz=>.inl (List.mem_append_left _ z)) .inr
 nW:=λa z=>(Dc z).imp id λz=>by rw[z];exact nx
 qg:=λz=>nomatch z
 Lc:=rfl
 Lo:=λ_ z=>z
 nLo:=λ_ z=>.inl z
theorem JC{x:Addr}{o:HO}(k:Kd g H)(e:Ex H H')(nx:H x=none)(hx:H' x=some o)(m:qU o):Kd (g.push x) H' where
 ob:=λa z=>by
  rcases DN z with z|rfl
  .obtain⟨u,h1,h2⟩:=k.ob a z;exact⟨u,e _ _ h1,h2⟩
  .exact⟨o,hx,m⟩
 lo:=λa z y=>by
  rcases Dc y with y|rfl
  .exact k.lo a z y
  .obtain⟨u,h1,_⟩:=k.ob a (.inr (.inr z));rw[nx]at h1;cases h1
 lc:=λa z=>by
  refine⟨λy=>?_,(k.lc a z).2⟩;rcases Dc y with y|rfl
  .exact(k.lc a z).1 y
  .obtain⟨u,h1,_⟩:=k.ob a (.inr (.inl z));rw[nx]at h1;cases h1
theorem Gn{x:Addr}{c:Str}(k:Kd g H)(w:cG K aj g H M)(e:Ex H H')(nx:H x=none)(hx:c=""\/∃C dx,aj c=some C/\H' x=some (.ins C dx [])):cG K aj (g.push x) H' (M++[⟨c,[]⟩]):=by
 have gt:∀{h:Nat} {a:Addr},(g.push x).tbl[h]?=some a->(g.tbl[h]?=some a)\/(h=M.length/\a=x):=λ{h a} z=>by
  have z:(g.tbl++[x])[h]?=some a:=z;by_cases hl:h<g.tbl.length
  .rw[afH hl]at z;exact .inl z
  .rw[afL (by omega)]at z;have:=(afw.mp z).1;simp at this;have e0:h-g.tbl.length=0:=by omega
   rw[e0]at z;cases z;exact .inr ⟨by rw[<-w.len];omega,rfl⟩
 have nin:∀{h:Nat},¬g.tbl[h]?=some x:=λ{h} z=>by
  obtain⟨u,h1,_⟩:=k.ob x (.inl (.inl (afK z)));rw[nx]at h1;cases h1
 have ex:∀{h:Nat} {i:Inst},(M++[(⟨c,[]⟩:Inst)])[h]?=some i->M[h]?=some i\/i=⟨c,[]⟩:=λ{h i} h1=>by
  by_cases hl:h<M.length
  .rw[afH hl]at h1;exact .inl h1
  .rw[afL (by omega)]at h1;exact .inr (afJ.mp (afK h1))
 refine⟨by show(g.tbl++[x]).length=_;simp[w.len],λh j a h1 h2=>?_,λh a i h1 h2 hcn=>?_,λh i h1=>?_,λh i h1=>?_,λh a i h1 h2 hcn=>?_,λh i h1 hcn=>?_,w.nc⟩
 .rcases gt h1 with z1|⟨z1,rfl⟩
  .rcases gt h2 with z2|⟨z2,rfl⟩
   .exact w.inj h j a z1 z2
   .exact absurd z1 nin
  .rcases gt h2 with z2|⟨z2,_⟩
   .exact absurd z2 nin
   .omega
 .rcases gt h1 with z1|⟨rfl,rfl⟩
  .have hl:h<M.length:=by rw[<-w.len];exact(afw.mp z1).1
   rw[afH hl]at h2;obtain⟨C',dx',fs,c1,c2,c3⟩:=w.ins h a i z1 h2 hcn;exact⟨C',dx',fs,c1,e _ _ c2,c3.grow (yI e nx) e rfl k⟩
  .rw[afL (afN _),Nat.sub_self]at h2;cases h2;rcases hx with rfl|⟨C,dx,hc,hx⟩
   .exact absurd rfl hcn
   .exact⟨C,dx,[],hc,hx,.nil⟩
 .rcases ex h1 with h1|rfl
  .exact w.nd h i h1
  .exact List.nodup_nil
 .rcases ex h1 with h1|rfl
  .exact w.fd h i h1
  .exact λf hf=>absurd hf afS
 .rcases gt h1 with z1|⟨_,rfl⟩
  .have hl:h<M.length:=by rw[<-w.len];exact(afw.mp z1).1
   rw[afH hl]at h2;exact w.tw h a i z1 h2 hcn
  .cases hz:g.ow a with
   |none=>exact hz
   |some p=>
    obtain⟨u,h2,_⟩:=k.ob a (.inl (.inr (by rw[hz];exact λy=>nomatch y)));rw[nx]at h2;cases h2
 .rcases ex h1 with h1|rfl
  .exact w.dm h i h1 hcn
  .rfl
theorem SInv.grow{M':Mo}(r:Gr false g g' H H')(e:Ex H H')(lo:g'.Lo=g.Lo)(k':Kd g' H')(w':cG K aj g' H' M')(I:SInv K aj σ H g ρ M):SInv K aj σ H' g' ρ M' where
 kd:=k'
 wok:=w'
 len:=I.len
 dat:=λi d h=>by
  obtain⟨v,h1,h2⟩:=I.dat i d h;exact⟨v,h1,h2.gr r I.kd⟩
 own:=λi xs h=>by
  obtain⟨l,us,h1,h2,h3,h4⟩:=I.own i xs h;exact⟨l,us,h1,e _ _ h2,by rw[lo];exact h3,h4.gr r I.kd⟩
 sep:=I.sep
end
theorem JW{P:Program}{w:World}{K:afr}{mg:Str->Option Value}{base:Heap}{k:Nat}{f:Addr}{fd:FuncData}{ps:List Str}{sp:Sp}(F:FnOk P w K mg base (L2.CX P w) k f fd ps sp):FnOk P w K mg base L2.CX0 k f fd ps λvs H Q _=>sp vs H Q λ_ _ _=>False:=
 ⟨λvs H Q E h=>F.len vs H Q _ h,λA outer s H args us vs Q E hr he hb hv h=>codeAny_mono (F.run A outer s H args us vs Q _ hr he hb hv h) λr s' z=>by
  unfold CR at z |-
  split at z
  .exact z
  .exact z
  .obtain⟨a,B,H',cls,d,_,_,_,_,_,_,_,y⟩:=z;exact agn y⟩
def wz(x:Str)(m:Mo->List Dat->aV Dat)(as:QA):GF:=λM ρ=>((as M ρ).at M).bind λds _=>match m (M++[⟨x,[]⟩]) (obj M.length::ds) with
 |.ok .none M'=>.ok (obj M.length) M'
 |_=>.bad
section
variable{X:Cx}{aj:aA}{W:WX}{x:Str}{pos p:Pos}{k n:Nat}{m:Mo->List Dat->aV Dat}{as:QA}{t:TA}{e:Expr}{es:List Expr}
theorem Oz{C f:Addr}{fd:FuncData}{ps:List Str}(hc:aj x=some C)(hp:ps.length=n+1)(hn:∀M ρ ds,as M ρ=.ok ds->ds.length=n)(ht:∀σ H Q,vA X.K aj W as σ H Q->t σ H Q)(σ:L2.St)(H:Hp)(Q:VK)(h:tE X.K aj W false (wz x m as) σ H Q) :
  tMake C (λvs H Q _=>Um X.K aj ps.length m vs H Q λ_ _ _=>False) [] (λ_ _ _=>False) t σ H Q:=by
 obtain⟨g,ρ,M,I,h⟩:=h;unfold wz at h;have h:=h.bnd;refine ht σ H _ ⟨g,ρ,M,I,?_⟩;cases has:as M ρ with
 |exc x=>rw[has]at h;exact λH' c dd e r=>h H' g c dd (Gr.ex e) (I.ex e) r
 |bad=>rw[has]at h;exact agn h
 |ok ds=>
  rw[has]at h;intro vs H1 e1 r1 y dx ny ndx ne;have I1:=I.ex e1;have e2:Ex H1 (upd (upd H1 dx (.own y)) y (.ins C dx [])):=by refine(Ex.new ndx).trans (Ex.new ?_);rw[upd_ne ne.symm];exact ny
  have hy:upd (upd H1 dx (.own y)) y (.ins C dx []) y=some (.ins C dx []):=agu;have gr:=yI (g:=g) e2 ny;have kd:=JC I1.kd e2 ny hy agm;have wk:=Gn (c:=x) I1.kd I1.wok e2 ny (.inr ⟨C,dx,hc,hy⟩);have I2:=I1.grow gr e2 rfl kd wk;have hb:(g.push y).tbl[M.length]?=some y:=by
   show(g.tbl++[y])[M.length]?=_
   rw[<-I1.wok.len,afL (afN _),Nat.sub_self];rfl
  refine⟨by rw[af0,afA,r1.length,hn M ρ ds has,hp],g.push y,M++[⟨x,[]⟩],obj M.length::ds,kd,wk,.cons (.obj hb) (by rw[af0];exact r1.gr gr I1.kd),?_⟩;have h:aV.sat (match m (M++[(⟨x,[]⟩:Inst)]) (obj M.length::ds) with
   |.ok .none M'=>aV.ok (obj M.length) M'
   |_=>.bad) (λd M'=>∀v H' g',Gr false g g' H H'->SInv X.K aj σ H' g' ρ M'->Rep X.K g' H' v d->Q v H') (gE X.K aj W false g H σ ρ):=h
  cases hm:m (M++[⟨x,[]⟩]) (obj M.length::ds) with
  |bad=>rw[hm]at h;exact agn h
  |exc z M'=>rw[hm]at h;exact agn h
  |ok d M'=>
   rw[hm]at h;cases d with
   |none=>exact λv H' g' c k' w' r'=>⟨by cases r';rfl,h (.ref y) H' g' (((Gr.ex e1).trans gr).trans c.gr) (I2.call c k' w') (.obj (c.gr.tb hb))⟩
   |_=>exact agn h
theorem W8(hr:Room k X.A)(g:aQ X.prog X.w X.K X.mg X.base aj k x (.cls n m))(hg:Gl X x)(hd:(x==("__debug__" : Str))=false)(ha:pN aj X W (e::es) as)(hs:(e::es).all nst=true)(hn:∀M ρ ds,as M ρ=.ok ds->ds.length=n) :
  GE aj X W false (.Call (.Name x p) (e::es) [] pos) (wz x m as):=by
 obtain⟨C,f,fd,ps,j,g1,g2,_,g3,hj,hp,hB,F⟩:=g;have hs':=hs;rw[afW,afs]at hs';exact PE.weak (pe_make (E:=λ_ _ _=>False) g3 (JW F) (hr.mono hj) hg g1 hB .nil pass0 ha hd (aM hs'.1 es) (star_any es hs'.2)) λσ H Q h=>Oz (f:=f) (fd:=fd) g2 hp hn (λ_ _ _ z=>z) σ H Q h
theorem Wb(hr:Room k X.A)(g:aQ X.prog X.w X.K X.mg X.base aj k x (.cls 0 m))(hg:Gl X x)(hd:(x==("__debug__" : Str))=false):GE aj X W false (.Call (.Name x p) [] [] pos) (wz x m aG):=by obtain⟨C,f,fd,ps,j,g1,g2,_,g3,hj,hp,hB,F⟩:=g;exact PE.weak (pe_make0 (E:=λ_ _ _=>False) g3 (JW F) (hr.mono hj) hg g1 hB .nil pass0 hd) λσ H Q h=>Oz (f:=f) (fd:=fd) (as:=aG) g2 hp (λM ρ ds z=>by cases z;rfl) (λσ H Q ⟨g,ρ,M,I,z⟩=>z [] H (Ex.refl H) .nil) σ H Q h
end
def KC(m:Mo->List Dat->aV Dat)(as:QA):GF:=λM ρ=>((as M ρ).at M).bind λds _=>m M ds
section
variable{X:Cx}{aj:aA}{W:WX}{e:Expr}{es:List Expr}{pos p:Pos}{x:Str}{k:Nat}{f:Addr}{fd:FuncData}{ps:List Str}
theorem Vx{m:Mo->List Dat->aV Dat}{as:QA}(tk:Takes X W)(F:FnOk X.prog X.w X.K X.mg X.base (L2.CX X.prog X.w) k f fd ps (Um X.K aj ps.length m))(hr:Room k X.A)(hg:Gl X x)(hm:X.mg x=some (.ref f))(hk:PySem.W.keepIn X.K (.ref f)=true)(hb:Binds X.K fd ps [])
  (ha:pN aj X W (e::es) as) (hl:(e::es).length=ps.length) (hd:(x==("__debug__" : Str))=false) (hs:(e::es).all nst=true) (hn:∀M ρ ds,as M ρ=.ok ds->ds.length=(e::es).length):GE aj X W false (.Call (.Name x p) (e::es) [] pos) (KC m as):=by
 have hs':=hs;rw[afW,afs]at hs';refine PE.weak (pe_callS (E:=λσ=>WE W σ) F hr hg hm hk hb (λσ=>passAt tk σ) ha hd (aM hs'.1 es) (star_any es hs'.2)) λσ H Q ⟨g,ρ,M,I,h⟩=>?_;refine⟨g,ρ,M,I,?_⟩;have h:=h.bnd;cases has:as M ρ with
 |exc x=>rw[has]at h;exact λH' c dd e r=>h H' g c dd (Gr.ex e) (I.ex e) r
 |bad=>rw[has]at h;exact agn h
 |ok ds=>
  rw[has]at h;have h:(m M ds).sat (λd M'=>∀v H' g',Gr false g g' H H'->SInv X.K aj σ H' g' ρ M'->Rep X.K g' H' v d->Q v H') (gE X.K aj W false g H σ ρ):=h;intro vs H1 e1 r1;exact⟨by rw[r1.length,hn M ρ ds has];exact hl,g,M,ds,I.kd.ex e1,I.wok.ex e1 I.kd,r1,h.mono (λd M' kk v H' g' c k' w' r'=>kk v H' g' ((Gr.ex e1).trans c.gr) ((I.ex e1).call c k' w') r') λx M' kk H' g' cc dd c k' w' r'=>kk H' g' cc dd ((Gr.ex e1).trans c.gr) ((I.ex e1).call c k' w') r'⟩
end
def Ft.has(ft:Ft)(c f:Str):Bool:=match ft.lookup c with
 |some fs=>fs.contains f
 |none=>false
def tX(ft:Ft)(aj:aA):Prop:=∀c f,ft.has c f=true->f∈aj.fl c
def XJ:Dat->Option Nat
 |.dict [(.none,.int (.ofNat h))]=>some h
 |_=>none
theorem Qn{d:Dat}{h:Nat}(e:XJ d=some h):d=obj h:=by
 unfold XJ at e;split at e
 .cases e;rfl
 .cases e
def dO(M:Mo)(d:Dat):Option (Nat×Inst):=(XJ d).bind λh=>(M[h]?).bind λi=>match i.cls=="" with
 |true=>none
 |false=>some (h,i)
theorem qN{M:Mo}{d:Dat}{h:Nat}{i:Inst}(e:dO M d=some (h,i)):d=obj h/\M[h]?=some i/\i.cls≠"":=by
 unfold dO at e;obtain⟨h',e1,e⟩:=afq.mp e;obtain⟨i',e2,e⟩:=afq.mp e;split at e
 .cases e
 .next hc=>
  cases e;exact⟨Qn e1,e2,λz=>by rw[z]at hc;cases hc⟩
def Km(ft:Ft)(o:QF)(f:Str)(e:GF):SF:=λM ρ=>(e M ρ).then ρ λd M1=>((o M1 ρ).at M1).then ρ λod M2=>match dO M2 od with
 |some (h,i)=>match ft.has i.cls f&&decide (i.fs.length<100) with
  |true=>.next ρ (M2.set h (i.put f (.dat d)))
  |false=>.bad
 |none=>.bad
theorem SInv.chg{K:afr}{aj:aA}{σ:L2.St}{H H':Hp}{g g':Gh}{ρ:Env}{M M':Mo}{h:Nat}{f:Str}(I:SInv K aj σ H g ρ M)(c:IW M g g' H H' h f)(w:cG K aj g' H' M'):SInv K aj σ H' g' ρ M':=I.call c.gc c.kd w
section
variable{X:Cx}{aj:aA}{W:WX}{o e:Expr}{f:Str}{pos pos':Pos}{ft:Ft}{fo:QF}
theorem qu{K:afr}{g:Gh}{H:Hp}{M:Mo}{d:Dat}{v:V}{h:Nat}{i:Inst}(co:cV K aj)(fk:tX ft aj)(w:cG K aj g H M)(r:bF K g H v d)(hi:dO M d=some (h,i))(hf:ft.has i.cls f=true):∃a C dx fs,d=obj h/\M[h]?=some i/\i.cls≠""/\g.tbl[h]?=some a/\v=.ref a/\aj i.cls=some C/\H a=some (.ins C dx fs)/\aW K aj g H h fs i.fs/\Cls K C/\NoAttr K C f/\f∈aj.fl i.cls:=by obtain⟨rfl,h1,h2⟩:=qN hi;obtain⟨a,rfl,ha⟩:=uz r;obtain⟨C,dx,fs,c1,c2,c3⟩:=w.ins h a i ha h1 h2;have hfl:=fk _ _ hf;obtain⟨k1,k2⟩:=co i.cls C f c1 hfl;exact⟨a,C,dx,fs,rfl,h1,h2,ha,rfl,c1,c2,c3,k1,k2,hfl⟩
theorem Wh{fe:GF}(co:cV X.K aj)(fk:tX ft aj)(ho:QW aj X W o fo)(he:GE aj X W false e fe)(hs:swapsWith e (some (.Attribute o f pos')) pos.line X.env=pure false):SE aj X W false (.Assign [.Attribute o f pos'] e pos) (Km ft fo f fe):=by
 refine PS.weak (ps_fld ho he hs) λD σ H ⟨g,ρ,M,I,z⟩=>?_;refine tE.go I (bA (σ:=σ) z) λd M1 v H1 g1 k1 r1 I1 rv=>?_;refine tW.go I1 (k:=λod=>((match dO M1 od with
  |some (h,i)=>match ft.has i.cls f&&decide (i.fs.length<100) with
   |true=>ig.next ρ (M1.set h (i.put f (.dat d)))
   |false=>.bad
  |none=>.bad).sat (sN X.K aj false D.nx g H) (sR X.K aj false D.rt g H) (sN X.K aj false D.bk g H) (sN X.K aj false D.ct g H) (sX X.K aj W false g H))) ?_ λod u H2 k2 e2 ru=>?_
 .have k1:=Out.cP (bA (σ:=σ) k1);exact k1.mono (λ_ y=>y) λx y H' c dd ex rx=>y H' g1 c dd (r1.trans (Gr.ex ex)) (I1.ex ex) rx
 .have I2:=I1.ex e2;split at k2
  .next h i hi=>
   split at k2
   .next hb=>
    rw[afs]at hb;obtain⟨a,C,dx,fs,_,m1,m2,ha,rfl,c1,c2,c3,c4,c5,c6⟩:=qu co fk I2.wok ru hi hb.1;refine⟨a,C,dx,fs,rfl,c2,c4,c5,?_,?_⟩
    .have:=agp hb.2;rw[c3.len];omega
    .have ch:=zq (f:=f) (C:=C) (dx:=dx) (fs':=putF f v fs) I2.kd I2.wok ha m1 m2;have w':=I2.wok.chg I2.kd ch ha m1 m2 c6 c1 c3 agu (fl:=.dat d) (show Rep X.K g1 _ v d from(rv.ex e2 I1.kd).gr ch.gc.gr I2.kd);exact k2 σ _ g1 ((r1.trans (Gr.ex e2)).trans ch.gc.gr) (I2.chg ch w')
   .exact agn k2
  .exact agn k2
end
mutual
theorem Rep.mv{K:afr}{g g':Gh}{H:Hp}(tb:∀(h:Nat) (a:Addr),g.tbl[h]?=some a->g'.tbl[h]?=some a)(n:∀a,g'.A a->g.A a):∀{v:V} {d:Dat},Rep K g H v d->Rep K g' H v d
 |_,_,.non=>.non
 |_,_,.bl b=>.bl b
 |_,_,.int i=>.int i
 |_,_,.str x=>.str x
 |_,_,.tup h t=>.tup h (au.mv tb n t)
 |_,_,.lst h t=>.lst (h.elim (λz=>.inl ⟨z.1,λy=>z.2 (n _ y)⟩) .inr) (au.mv tb n t)
 |_,_,.obj h=>.obj (tb _ _ h)
theorem au.mv{K:afr}{g g':Gh}{H:Hp}(tb:∀(h:Nat) (a:Addr),g.tbl[h]?=some a->g'.tbl[h]?=some a)(n:∀a,g'.A a->g.A a):∀{vs:List V} {ds:List Dat},au K g H vs ds->au K g' H vs ds
 |_,_,.nil=>.nil
 |_,_,.cons h t=>.cons (Rep.mv tb n h) (au.mv tb n t)
end
def Ce(ft:Ft)(o:QF)(f:Str)(e:IF):SF:=λM ρ=>((e M ρ).at M).then ρ λxs M0=>((o (M0++[⟨"",[]⟩]) ρ).at (M0++[⟨"",[]⟩])).then ρ λod M2=>match dO M2 od with
 |some (h,i)=>match ft.has i.cls f&&decide (i.fs.length<100) with
  |true=>.next ρ (M2.set h (i.put f (.lst M0.length xs)))
  |false=>.bad
 |none=>.bad
theorem uw{K:afr}{aj:aA}{σ:L2.St}{H H':Hp}{g:Gh}{ρ:Env}{M:Mo}{l:Addr}{o:HO}(I:SInv K aj σ H g ρ M)(nl:H l=none)(e:Ex H H')(hl:H' l=some o)(m:qU o):Gr false g (g.push l) H H'/\SInv K aj σ H' (g.push l) ρ (M++[⟨"",[]⟩])/\(g.push l).tbl[M.length]?=some l/\(g.push l).ow l=none/\(M++[(⟨"",[]⟩:Inst)])[M.length]?=some ⟨"",[]⟩:=by
 have gr:=yI (g:=g) e nl;have kd:=JC I.kd e nl hl m;have wk:=Gn (c:="") I.kd I.wok e nl (.inl rfl)
 refine⟨gr,I.grow gr e rfl kd wk,?_,?_,?_⟩
 .show(g.tbl++[l])[M.length]?=_
  rw[<-I.wok.len,afL (afN _),Nat.sub_self];rfl
 .cases hz:g.ow l with
  |none=>exact hz
  |some p=>
   obtain⟨u,h1,_⟩:=I.kd.ob l (.inl (.inr (by rw[hz];exact λy=>nomatch y)));rw[nl]at h1;cases h1
 .rw[afL (afN _),Nat.sub_self];rfl
section
variable{X:Cx}{aj:aA}{W:WX}{o e:Expr}{f:Str}{pos pos' p1 apos epos spos:Pos}{ft:Ft}{fo:QF}
theorem WD{fe:IF}(co:cV X.K aj)(fk:tX ft aj)(ho:QW aj X W o fo)(he:FE aj X W e fe)(hs:swapsWith e (some (.Attribute o f pos')) pos.line X.env=pure false):SE aj X W false (.Assign [.Attribute o f pos'] e pos) (Ce ft fo f fe):=by
 refine PS.weak (ps_fld ho he hs) λD σ H ⟨g,ρ,M,I,z⟩=>?_;refine⟨g,ρ,M,I,?_⟩;unfold Ce at z;cases hf:fe M ρ with
 |exc x=>rw[hf]at z;exact λH' c dd e r=>z σ H' g c dd (Gr.ex e) (I.ex e) r.fr
 |bad=>rw[hf]at z;exact agn z
 |ok xs=>
  rw[hf]at z;intro l us H1 nl e1 hl rs;obtain⟨gr,I1,tb,ow,mm⟩:=uw I nl e1 hl agm;have rs1:au X.K (g.push l) H1 us xs:=au.mv (g:=g.add l) (g':=g.push l) (λh a z=>gr.tb (g:=g) z) (λa z=>by
   rcases DN z with z|rfl
   .rcases z with z|z|z
    .exact .inl z
    .exact .inr (.inl z)
    .exact .inr (.inr (show g.Lo a\/a=l from Or.inl z))
   .exact .inr (.inr (show g.Lo a\/a=a from Or.inr rfl))) rs
  have z:(((fo (M++[⟨"",[]⟩]) ρ).at (M++[⟨"",[]⟩])).then ρ λod M2=>match dO M2 od with
   |some (h,i)=>match ft.has i.cls f&&decide (i.fs.length<100) with
    |true=>.next ρ (M2.set h (i.put f (.lst M.length xs)))
    |false=>.bad
   |none=>.bad).sat (sN X.K aj false D.nx g H) (sR X.K aj false D.rt g H) (sN X.K aj false D.bk g H) (sN X.K aj false D.ct g H) (sX X.K aj W false g H):=z
  have k1:=Out.cP (bA (σ:=σ) z);refine tW.go I1 (k1.mono (λ_ y=>y) λx y H' c dd ex rx=>y H' _ c dd (gr.trans (Gr.ex ex)) (I1.ex ex) rx) λod u H2 k2 e2 ru=>?_;have I2:=I1.ex e2;split at k2
  .next h i hi=>
   split at k2
   .next hb=>
    rw[afs]at hb;obtain⟨a,C,dx,fs,_,m1,m2,ha,rfl,c1,c2,c3,c4,c5,c6⟩:=qu co fk I2.wok ru hi hb.1;have nla:l≠a:=λz=>by
     subst z;cases I2.wok.inj _ _ _ ha tb;rw[mm]at m1;cases m1;exact m2 rfl
    refine⟨a,C,dx,fs,rfl,c2,c4,c5,?_,?_⟩
    .have:=agp hb.2;rw[c3.len];omega
    .have ch:=zm (f:=f) (C:=C) (dx:=dx) (fs':=putF f (.ref l) fs) I2.kd I2.wok ha m1 m2 tb mm ow;have w':=I2.wok.chg I2.kd ch ha m1 m2 c6 c1 c3 agu (v:=.ref l) (fl:=.lst M.length xs) ⟨l,us,rfl,by rw[upd_ne nla];exact e2 _ _ hl,ags rfl,(rs1.ex e2 I1.kd).gr ch.gc.gr I2.kd,ch.gc.gr.tb tb⟩;exact k2 σ _ _ ((gr.trans (Gr.ex e2)).trans ch.gc.gr) (I2.chg ch w')
   .exact agn k2
  .exact agn k2
def pC(M:Mo)(f:Str)(d:Dat):Option (Nat×Inst×Nat×List Dat):=(dO M d).bind λp=>match p.2.fs.lookup f with
 |some (.lst n xs)=>some (p.1,p.2,n,xs)
 |_=>none
theorem zp{K:afr}{g:Gh}{H:Hp}{M:Mo}{d:Dat}{v:V}{h n:Nat}{i:Inst}{xs:List Dat}(co:cV K aj)(w:cG K aj g H M)(r:bF K g H v d)(hi:pC M f d=some (h,i,n,xs)) :
  ∃a C dx fs l us,d=obj h/\M[h]?=some i/\i.cls≠""/\i.fs.lookup f=some (.lst n xs)/\g.tbl[h]?=some a/\v=.ref a/\aj i.cls=some C/\H a=some (.ins C dx fs)/\aW K aj g H h fs i.fs/\Cls K C/\NoAttr K C f/\f∈aj.fl i.cls/\fs.lookup f=some (.ref l)/\H l=some (.lst us)/\g.ow l=some (h,f)/\au K g H us xs/\g.tbl[n]?=some l:=by
 unfold pC at hi;obtain⟨⟨h',i'⟩,h1,hi⟩:=afq.mp hi;split at hi
 .next n' xs' hl=>
  cases hi;obtain⟨rfl,m1,m2⟩:=qN h1;obtain⟨a,rfl,ha⟩:=uz r;obtain⟨C,dx,fs,c1,c2,c3⟩:=w.ins _ a _ ha m1 m2;have hfl:=w.fd _ _ m1 f (lookup_mem hl);obtain⟨k1,k2⟩:=co _ C f c1 hfl;obtain⟨u,l1,l,us,rfl,l3,l4,l5,l6⟩:=c3.get hl;exact⟨a,C,dx,fs,l,us,rfl,m1,m2,hl,ha,rfl,c1,c2,c3,k1,k2,hfl,l1,l3,l4,l5,l6⟩
 .cases hi
theorem JL{K:afr}{σ:L2.St}{ρ:Env}{g:Gh}{H:Hp}{M:Mo}{h n:Nat}{i:Inst}{ys:List Dat}{a C dx l:Addr}{fs:List (Str×V)}{us':List V}(I:SInv K aj σ H g ρ M)(m1:M[h]?=some i)(m2:i.cls≠"")(ha:g.tbl[h]?=some a)(c1:aj i.cls=some C)(c2:H a=some (.ins C dx fs))(c3:aW K aj g H h fs i.fs)(hfl:f∈aj.fl i.cls)(l1:fs.lookup f=some (.ref l))(l4:g.ow l=some (h,f))(l6:g.tbl[n]?=some l)(rs:au K g H us' ys) :
  Gr false g g H (upd H l (.lst us'))/\SInv K aj σ (upd H l (.lst us')) g ρ (M.set h (i.put f (.lst n ys))):=by
 have ch:=NT (o':=.lst us') I.kd I.wok l4 agm;have nla:a≠l:=λz=>by
  subst z;rw[I.wok.tw h a i ha m1 m2]at l4;cases l4
 have w':=I.wok.chg I.kd ch ha m1 m2 hfl c1 (dx:=dx) c3 (v:=.ref l) (fl:=.lst n ys) (by rw[upd_ne nla,rQ l1];exact c2) ⟨l,us',rfl,agu,l4,rs.gr ch.gc.gr I.kd,l6⟩;exact⟨ch.gc.gr,I.chg ch w'⟩
def Cu(f:Str)(o:QF)(e:GF):SF:=λM ρ=>((o M ρ).at M).then ρ λod M0=>match pC M0 f od with
 |some (_,_,n,_)=>(e M0 ρ).then ρ λd M1=>match pC M1 f od with
  |some (h,i,n',xs)=>match n==n'&&decide (xs.length<100000) with
   |true=>.next ρ (M1.set h (i.put f (.lst n (xs++[d]))))
   |false=>.bad
  |none=>.bad
 |none=>.bad
theorem Uv{fe:GF}(co:cV X.K aj)(ho:QW aj X W o fo)(hb:baseOk o=true)(he:GE aj X W false e fe)(hs:nst e=true)(hl:(apos.endLine==pos.line)=true) :
  SE aj X W false (.Expr (.Call (.Attribute (.Attribute o f p1) "append" apos) [e] [] pos) epos) (Cu f fo fe):=by
 have h0:=pe_fld (X:=X) (pos:=p1) (f:=f) ho (cA hb);have h1:=pa_cons he pa_nil (aM hs []);have key:=pe_bm (X:=X) (cpos:=pos) (apos:=apos) PySem.F.plainAttrs_list PySem.F.slot_list_append PySem.F.type_list_append mt_append h0 h1 (cA rfl) (few (by simp[hs]) (by simp)) hl (aM hs []) (by with_unfolding_all rfl);refine PS.weak (ps_expr key (by with_unfolding_all rfl)) λD σ H ⟨g,ρ,M,I,z⟩=>?_;unfold Cu at z;have k1:=Out.cP (bA (σ:=σ) z);refine tW.go I (k1.mono (λ_ y=>y) λx y H' c dd ex rx=>y H' _ c dd (Gr.ex ex) (I.ex ex) rx) λod u H1 k2 e1 ru=>?_;have I1:=I.ex e1;split at k2
 .next h0' i0 n xs0 hi=>
  obtain⟨a,C,dx,fs,l,us,rfl,m1,m2,ml,ha,rfl,c1,c2,c3,c4,c5,c6,l1,l3,l4,l5,l6⟩:=zp co I1.wok ru hi;refine⟨a,C,dx,fs,.ref l,rfl,c2,c4,c5,l1,.inl ⟨rfl,us,sq_of l3⟩,?_⟩;refine tE.go I1 ((bA (σ:=σ) k2).mono (λ_ _ y=>y) λx M' y=>y.gr (Gr.ex e1)) λd M1 v H2 g2 k3 r2 I2 rv=>?_;split at k3
  .next h i n' xs hi2=>
   split at k3
   .next hg=>
    rw[afs]at hg;cases agv hg.1;have ru2:bF X.K g2 H2 (.ref a) (obj h0'):=Rep.weak (.obj (r2.tb ha));obtain⟨a',C',dx',fs',l',us',eh,n1,n2,nl,hb',ea,d1,d2,d3,d4,d5,d6,p1,p3,p4,p5,p6⟩:=zp co I2.wok ru2 hi2;cases ea;have el:l'=l:=afR (p6.symm.trans (r2.tb l6));subst el;obtain⟨gr,I3⟩:=JL (us':=us'++[v]) (ys:=xs++[d]) I2 n1 n2 hb' d1 d2 d3 d6 p1 p4 p6 (p5.append (.cons rv .nil));refine⟨l',us',v,rfl,rfl,p3,sz_lt (by rw[p5.length];exact agp hg.2),?_⟩;exact k3 σ _ g2 (((Gr.ex e1).trans r2).trans gr) I3
   .exact agn k3
  .exact agn k3
 .exact agn k2
def CW(f:Str)(o fi e:QF):SF:=λM ρ=>((e M ρ).at M).then ρ λd _=>((o M ρ).at M).then ρ λod _=>match pC M f od with
 |some (h,i,n,xs)=>((fi M ρ).at M).then ρ λk _=>match k with
  |.int k=>match ixN xs.length k with
   |some j=>.next ρ (M.set h (i.put f (.lst n (xs.set j d))))
   |none=>.bad
  |_=>.bad
 |none=>.bad
theorem VF{i:Expr}{fi fe:QF}(co:cV X.K aj)(ho:QW aj X W o fo)(hb:baseOk o=true)(he:QE aj X W e fe)(hi:QE aj X W i fi)
  (ha:∀v,assign (.Subscript (.Attribute o f p1) i spos) X.env v=(do
   let ov <-holding [v] (eval (.Attribute o f p1) X.env)
   let iv <-holding [v,ov] (eval i X.env)
   standAt spos
   holding [v,ov,iv] (setItem ov iv v)
   release [v,ov,iv] []))
  (hs:swapsWithSole [.Subscript (.Attribute o f p1) i spos] e pos.line X.env=pure false) (h1:(assignEach [.Subscript (.Attribute o f p1) i spos] X.env).map (·.2)=[assign (.Subscript (.Attribute o f p1) i spos) X.env]):SE aj X W false (.Assign [.Subscript (.Attribute o f p1) i spos] e pos) (CW f fo fi fe):=by
 have h0:=pe_fld (X:=X) (pos:=p1) (f:=f) ho (cA hb);refine PS.weak (ps_asg he (pg_sub h0 hi set_list ha) hs (by with_unfolding_all rfl) h1) λD σ H ⟨g,ρ,M,I,z⟩=>?_;unfold CW at z;have k1:=Out.cP (bA (σ:=σ) z);refine tQ.go I (k1.mono (λ_ y=>y) λx y H' c dd ex rx=>y H' _ c dd (Gr.ex ex) (I.ex ex) rx) λd v H1 k2 e1 rv=>?_;have I1:=I.ex e1;have k2:=Out.cP (bA (σ:=σ) k2);refine tW.go I1 (k2.mono (λ_ y=>y) λx y H' c dd ex rx=>y H' _ c dd ((Gr.ex e1).trans (Gr.ex ex)) (I1.ex ex) rx) λod u H2 k3 e2 ru=>?_;have I2:=I1.ex e2;have e12:=e1.trans e2;split at k3
 .next h i' n xs hl=>
  obtain⟨a,C,dx,fs,l,us,rfl,m1,m2,ml,ha',rfl,c1,c2,c3,c4,c5,c6,l1,l3,l4,l5,l6⟩:=zp co I2.wok ru hl;refine⟨a,C,dx,fs,.ref l,rfl,c2,c4,c5,l1,?_⟩;have k3:=Out.cP (bA (σ:=σ) k3);refine tQ.go I2 (k3.mono (λ_ y=>y) λx y H' c dd ex rx=>y H' _ c dd ((Gr.ex e12).trans (Gr.ex ex)) (I2.ex ex) rx) λk w H3 k4 e3 rw'=>?_;have I3:=I2.ex e3;cases k with
  |int k=>
   simp only at k4;split at k4
   .next j hj=>
    cases rw';obtain⟨gr,I4⟩:=JL (us':=us.set j v) (ys:=xs.set j d) I3 m1 m2 ha' c1 (e3 _ _ c2) (c3.ex e3 I2.kd) c6 l1 l4 l6 (((l5.ex e3 I2.kd).set ((rv.ex e2 I1.kd).ex e3 I2.kd) j));refine⟨l,us,k,j,rfl,rfl,e3 _ _ l3,by rw[l5.length];exact hj,?_⟩;exact k4 σ _ g ((Gr.ex (e12.trans e3)).trans gr) I4
   .exact agn k4
  |_=>exact agn k4
 .exact agn k3
def Cy(ft:Ft)(f:Str)(o e:QF):SF:=λM ρ=>((o M ρ).at M).then ρ λod _=>match dO M od with
 |some (h,i)=>match i.fs.lookup f,ft.has i.cls f&&decide (i.fs.length<100) with
  |some (.dat (.int a)),true=>((e M ρ).at M).then ρ λd _=>match d with
   |.int b=>.next ρ (M.set h (i.put f (.dat (.int (a+b)))))
   |_=>.bad
  |_,_=>.bad
 |none=>.bad
theorem R3:InOp X .Add (λx y H Q=>∃i j,x=.int i/\y=.int j/\Q (.int (i+j)) H):=by intro pins s σ H x y u v Q I rx ry h;obtain⟨i,j,rfl,rfl,q⟩:=h;exact iop_add pins s σ H _ _ u v Q I rx ry ⟨i,j,rfl,rfl,q⟩
theorem Ww{fe:QF}{tpos:Pos}(co:cV X.K aj)(fk:tX ft aj)(ho:QW aj X W o fo)(he:QE aj X W e fe):SE aj X W false (.AugAssign (.Attribute o f tpos) .Add e pos) (Cy ft f fo fe):=by
 refine PS.weak (ps_fldaug ho he R3) λD σ H ⟨g,ρ,M,I,z⟩=>?_;unfold Cy at z;have k1:=Out.cP (bA (σ:=σ) z);refine tW.go I (k1.mono (λ_ y=>y) λx y H' c dd ex rx=>y H' _ c dd (Gr.ex ex) (I.ex ex) rx) λod u H1 k2 e1 ru=>?_;have I1:=I.ex e1;split at k2
 .next h i hi=>
  split at k2
  .next b hlk hb=>
   rw[afs]at hb;obtain⟨a,C,dx,fs,_,m1,m2,ha,rfl,c1,c2,c3,c4,c5,c6⟩:=qu co fk I1.wok ru hi hb.1;obtain⟨v,l1,l2⟩:=c3.get hlk;refine⟨a,C,dx,fs,v,rfl,c2,c4,c5,l1,?_⟩;have k2:=Out.cP (bA (σ:=σ) k2);refine tQ.go I1 (k2.mono (λ_ y=>y) λx y H' c dd ex rx=>y H' _ c dd ((Gr.ex e1).trans (Gr.ex ex)) (I1.ex ex) rx) λd w H2 k3 e2 rd=>?_;have I2:=I1.ex e2;cases d with
   |int j=>
    cases rd;have l2:Rep X.K g H1 v (.int b):=l2;cases l2;refine⟨b,j,rfl,rfl,dx,fs,e2 _ _ c2,?_,?_⟩
    .have:=agp hb.2;rw[c3.len];omega
    .have ch:=zq (f:=f) (C:=C) (dx:=dx) (fs':=putF f (.int (b+j)) fs) I2.kd I2.wok ha m1 m2;have w':=I2.wok.chg I2.kd ch ha m1 m2 c6 c1 (c3.ex e2 I1.kd) agu (v:=.int (b+j)) (fl:=.dat (.int (b+j))) (show Rep X.K g _ _ _ from .int _);exact k3 σ _ g ((Gr.ex (e1.trans e2)).trans ch.gc.gr) (I2.chg ch w')
   |_=>exact agn k3
  .exact agn k2
 .exact agn k2
end
mutual
def jC:Dat->Option NestedKey
 |.none=>some .none
 |.int i=>some (.num i)
 |.str x=>some (.text x)
 |.tuple ds=>(jG ds).map .tup
 |.bool _=>none
 |.list _=>none
 |.dict _=>none
def jG:List Dat->Option (List NestedKey)
 |[]=>some []
 |d::ds=>(jC d).bind λk=>(jG ds).bind λks=>some (k::ks)
end
mutual
theorem lU:∀{d:Dat} {k:NestedKey},jC d=some k->k.data=d
 |.none,_,h=>by cases h;rfl
 |.int i,_,h=>by cases h;rfl
 |.str x,_,h=>by cases h;rfl
 |.tuple ds,_,h=>by
  rw[jC,af5]at h;obtain⟨ks,h1,rfl⟩:=h;rw[NestedKey.data,xR h1]
theorem xR:∀{ds:List Dat} {ks:List NestedKey},jG ds=some ks->NestedKey.datas ks=ds
 |[],_,h=>by cases h;rfl
 |d::ds,_,h=>by
  rw[jG]at h;obtain⟨k,h1,h⟩:=afq.mp h;obtain⟨ks,h2,h⟩:=afq.mp h;cases h;rw[NestedKey.datas,lU h1,xR h2]
end
mutual
theorem Jw:∀a b:NestedKey,PyData.eqv a.data b.data=NestedKey.beq a b
 |.none,.none=>by simp[NestedKey.data,PyData.eqv,NestedKey.beq]
 |.none,.num _=>by simp[NestedKey.data,PyData.eqv,NestedKey.beq]
 |.none,.text _=>by simp[NestedKey.data,PyData.eqv,NestedKey.beq]
 |.none,.tup _=>by simp[NestedKey.data,PyData.eqv,NestedKey.beq]
 |.num _,.none=>by simp[NestedKey.data,PyData.eqv,NestedKey.beq]
 |.num a,.num b=>by simp[NestedKey.data,PyData.eqv,NestedKey.beq];rfl
 |.num _,.text _=>by simp[NestedKey.data,PyData.eqv,NestedKey.beq]
 |.num _,.tup _=>by simp[NestedKey.data,PyData.eqv,NestedKey.beq]
 |.text _,.none=>by simp[NestedKey.data,PyData.eqv,NestedKey.beq]
 |.text _,.num _=>by simp[NestedKey.data,PyData.eqv,NestedKey.beq]
 |.text a,.text b=>by simp[NestedKey.data,PyData.eqv,NestedKey.beq];rfl
 |.text _,.tup _=>by simp[NestedKey.data,PyData.eqv,NestedKey.beq]
 |.tup _,.none=>by simp[NestedKey.data,PyData.eqv,NestedKey.beq]
 |.tup _,.num _=>by simp[NestedKey.data,PyData.eqv,NestedKey.beq]
 |.tup _,.text _=>by simp[NestedKey.data,PyData.eqv,NestedKey.beq]
 |.tup as,.tup bs=>by
  rw[NestedKey.data,NestedKey.data,PyData.eqv,NestedKey.beq];exact DW as bs
theorem DW:∀as bs:List NestedKey,PyData.eqvAll (NestedKey.datas as) (NestedKey.datas bs)=NestedKey.beqAll as bs
 |[],[]=>by simp[NestedKey.datas,PyData.eqvAll,NestedKey.beqAll]
 |[],_::_=>by simp[NestedKey.datas,PyData.eqvAll,NestedKey.beqAll]
 |_::_,[]=>by simp[NestedKey.datas,PyData.eqvAll,NestedKey.beqAll]
 |a::as,b::bs=>by
  rw[NestedKey.datas,NestedKey.datas,PyData.eqvAll,NestedKey.beqAll,Jw a b,DW as bs]
end
theorem Ja(a b:NestedKey):PyData.eqv a.data b.data=decide (a=b):=by rw[Jw,NestedKey.decide_eq]
section
variable{X:Cx}{pins:List (Addr×Obj)}{σ:L2.St}{H:Hp}{s:Shared}{g:Gh}
mutual
theorem key_is(I:L2.Inv X pins σ H s):∀{v:V} {d:Dat} {k:NestedKey} {u:Value},Rep X.K g H v d->jC d=some k->RelV v u->NestedIs s.heap k u
 |_,_,_,u,.non,e,r=>by
  cases e
  obtain rfl:u=.none:=r
  exact .none
 |_,_,_,_,.int i,e,r=>by
  cases e;obtain⟨t,rfl⟩:=r;exact .int i t
 |_,_,_,_,.str x,e,r=>by
  cases e;obtain⟨t,rfl⟩:=r;exact .text x t
 |_,_,_,u,.tup (a:=a) h t,e,r=>by
  rw[jC,af5]at e;obtain⟨ks,h1,rfl⟩:=e
  obtain rfl:u=.ref a:=r
  obtain⟨its,r1,⟨o,e1,c1,n,d1⟩,_⟩:=I.tuple h;exact .tup e1 c1 d1 (by simpa using Jt I t h1 r1)
 |_,_,_,_,.bl b,e,r=>by cases e
 |_,_,_,_,.lst _ _,e,r=>by cases e
 |_,_,_,_,.obj _,e,r=>by cases e
theorem Jt(I:L2.Inv X pins σ H s):∀{vs:List V} {ds:List Dat} {ks:List NestedKey} {us:List Value},au X.K g H vs ds->jG ds=some ks->Vals vs us->NestedAll s.heap ks us
 |_,_,_,_,.nil,e,r=>by
  cases e;cases r;exact .nil
 |_,_,_,_,.cons h t,e,r=>by
  rw[jG]at e;obtain⟨k,h1,e⟩:=afq.mp e;obtain⟨ks,h2,e⟩:=afq.mp e;cases e;cases r with
  |cons r1 r2=>exact .cons (key_is I h h1 r1) (Jt I t h2 r2)
end
end
mutual
theorem Ip:∀k:NestedKey,jC k.data=some k
 |.none=>rfl
 |.num _=>rfl
 |.text _=>rfl
 |.tup ks=>by rw[NestedKey.data,jC,Ez ks];rfl
theorem Ez:∀ks:List NestedKey,jG (NestedKey.datas ks)=some ks
 |[]=>rfl
 |k::ks=>by rw[NestedKey.datas,jG,Ip k,Ez ks];rfl
end
def dhas:Bool->List (Dat×Dat)->Dat->Out Bool
 |false,kvs,.int i=>.ok (kvs.any λp=>PyData.eqv p.1 (.int i))
 |true,kvs,.tuple ds=>match jC (.tuple ds) with
  |some k=>match decide (k.depth<=8) with
   |true=>.ok (kvs.any λp=>PyData.eqv p.1 (.tuple ds))
   |false=>.bad
  |none=>.bad
 |_,_,_=>.bad
def lC(M:Mo)(f:Str)(d:Dat):Option (Nat×Inst×Bool×List (Dat×Dat)):=(dO M d).bind λp=>match p.2.fs.lookup f with
 |some (.dic b kvs)=>some (p.1,p.2,b,kvs)
 |_=>none
section
variable{aj:aA}{f:Str}
theorem pX{K:afr}{g:Gh}{H:Hp}{M:Mo}{d:Dat}{v:V}{h:Nat}{i:Inst}{b:Bool}{kvs:List (Dat×Dat)}(co:cV K aj)(w:cG K aj g H M)(r:bF K g H v d)(hi:lC M f d=some (h,i,b,kvs)) :
  ∃a C dx fs l,d=obj h/\M[h]?=some i/\i.cls≠""/\i.fs.lookup f=some (.dic b kvs)/\g.tbl[h]?=some a/\v=.ref a/\aj i.cls=some C/\H a=some (.ins C dx fs)/\aW K aj g H h fs i.fs/\Cls K C/\NoAttr K C f/\f∈aj.fl i.cls/\fs.lookup f=some (.ref l)/\g.ow l=some (h,f)/\dB K aj g H l b kvs:=by
 unfold lC at hi;obtain⟨⟨h',i'⟩,h1,hi⟩:=afq.mp hi;split at hi
 .next b' kvs' hl=>
  cases hi;obtain⟨rfl,m1,m2⟩:=qN h1;obtain⟨a,rfl,ha⟩:=uz r;obtain⟨C,dx,fs,c1,c2,c3⟩:=w.ins _ a _ ha m1 m2;have hfl:=w.fd _ _ m1 f (lookup_mem hl);obtain⟨k1,k2⟩:=co _ C f c1 hfl;obtain⟨u,l1,l,rfl,l3,l4⟩:=c3.get hl;exact⟨a,C,dx,fs,l,rfl,m1,m2,hl,ha,rfl,c1,c2,c3,k1,k2,hfl,l1,l3,l4⟩
 .cases hi
end
theorem zY{kv:List (Key×V)}{i:Int}:∀{kvs:List (Dat×Dat)},kvs.map (·.1)=kv.map (λp=>keyD p.1)->(kvs.any λp=>PyData.eqv p.1 (.int i))=(valV kv (Sum.inl i)).isSome:=by
 induction kv with
 |nil=>
  intro kvs e;cases kvs with
  |nil=>rfl
  |cons _ _=>cases e
 |cons p r ih=>
  intro kvs e;cases kvs with
  |nil=>cases e
  |cons q t=>
   simp only[aft,List.cons.injEq]at e;rw[agg,ih e.2,e.1];by_cases h:p.1=Sum.inl i
   .rw[valV_pos h,h];simp[keyD,PyData.eqv]
   .rw[valV_neg h];have:PyData.eqv (keyD p.1) (.int i)=false:=by
     cases hp:p.1 with
     |inl j=>
      have:j≠i:=λz=>h (by rw[hp,z]);simp[keyD,PyData.eqv,this]
     |inr x=>simp[keyD,PyData.eqv]
    rw[this,Bool.false_or]
theorem qH{xs:List fD}{k:NestedKey}:∀{kvs:List (Dat×Dat)},kvs.map (·.1)=xs.map (λx=>x.1.data)->(kvs.any λp=>PyData.eqv p.1 k.data)=(atKey xs k).isSome:=by
 induction xs with
 |nil=>
  intro kvs e;cases kvs with
  |nil=>rfl
  |cons _ _=>cases e
 |cons p r ih=>
  intro kvs e;cases kvs with
  |nil=>cases e
  |cons q t=>
   simp only[aft,List.cons.injEq]at e;rw[agg,ih e.2,e.1,Ja];unfold atKey;rw[List.find?_cons];cases hd:decide (p.1=k) with
   |true=>rfl
   |false=>rfl
theorem qm{X:Cx}{pins:List (Addr×Obj)}{σ:L2.St}{H:Hp}{s:Shared}{g:Gh}{l:Addr}{o:Obj}{xs:List fD}{ks:List Dat}(I:L2.Inv X pins σ H s)(h1:H l=some (cH l o))(h2:eE X.w l o xs)(h3:ks=xs.map λx=>x.1.data)(h4:au X.K g H (xs.map λx=>V.ref x.2.1) ks) :
  s.heap.DictOfH (nestedKind X.prog X.w) l xs:=by
 obtain⟨z1,_,_⟩:=(show ObjOk X.prog X.w H s.heap l (cH l o) from I.hok l _ h1);obtain⟨es,ep,e1,e2⟩:=h2.ent;refine⟨o,es,ep,z1,h2.ex,e1,e2,λx hx=>?_,h2.nd⟩;refine⟨?_,h2.dep x hx⟩;obtain⟨n,hn⟩:=List.mem_iff_getElem?.mp hx;obtain⟨d,hd1,hd2⟩:=h4.get' (i:=n) (v:=V.ref x.2.1) (by rw[afI,hn];rfl);rw[h3,afI,hn]at hd1;cases hd1;exact key_is I hd2 (Ip x.1) rfl
def rInD(X:Cx)(neg:Bool):R2:=λx y H Q=>(∃l kv i,y=.ref l/\H l=some (.dK kv)/\x=.int i/\Q (.bl (neg ^^ (valV kv (Sum.inl i)).isSome)) H)\/
 ∃(l:Addr) (o:Obj) (xs:List fD) (g:Gh) (d:Dat) (b:Addr) (k:NestedKey),y=.ref l/\H l=some (cH l o)/\eE X.w l o xs/\au X.K g H (xs.map λx=>V.ref x.2.1) (xs.map λx=>x.1.data)/\x=.ref b/\Rep X.K g H x d/\jC d=some k/\k.depth<=8/\Q (.bl (neg ^^ (atKey xs k).isSome)) H
section
variable{X:Cx}
theorem op_inD(hu:X.A.units+64<cLine):OpR X (compareOp .In) (rInD X false):=by
 intro pins s σ H x y v u Q I rx ry h;rcases h with⟨l,kv,i,rfl,hl,rfl,q⟩|⟨l,o,xs,g,d,b,k,rfl,h1,h2,h3,rfl,h4,h5,h6,q⟩
 .obtain rfl:u=Value.ref l:=ry
  exact d_in (by omega) I (DGet.k (k:=Sum.inl i) hl) rx λs' I'=>⟨.bl _,H,I',rfl,by simpa using q⟩
 .obtain rfl:u=Value.ref l:=ry
  obtain rfl:v=Value.ref b:=rx
  refine wpAny_in_heap (knd:=nestedKind X.prog X.w) (k:=k) (show X.A.in1.units+8<cLine by show X.A.units+1+8<cLine;omega) ⟨key_is I h4 h5 rfl,h6⟩ h2.sys (qm I h1 h2 rfl h3) ?_;exact⟨.bl _,H,I.tok _,rfl,by simpa using q⟩
theorem op_notInD(hu:X.A.units+64<cLine):OpR X (compareOp .NotIn) (rInD X true):=by
 intro pins s σ H x y v u Q I rx ry h;rcases h with⟨l,kv,i,rfl,hl,rfl,q⟩|⟨l,o,xs,g,d,b,k,rfl,h1,h2,h3,rfl,h4,h5,h6,q⟩
 .obtain rfl:u=Value.ref l:=ry
  exact d_notIn (by omega) I (DGet.k (k:=Sum.inl i) hl) rx λs' I'=>⟨.bl _,H,I',rfl,by simpa using q⟩
 .obtain rfl:u=Value.ref l:=ry
  obtain rfl:v=Value.ref b:=rx
  refine notIn_keyed (knd:=nestedKind X.prog X.w) (k:=k) (show X.A.in1.units+8<cLine by show X.A.units+1+8<cLine;omega) ⟨key_is I h4 h5 rfl,h6⟩ h2.sys ⟨xs,qm I h1 h2 rfl h3,rfl⟩ ?_;rw[valueAt_pairsH,Option.isSome_map];exact⟨.bl _,H,I.tok _,rfl,by simpa using q⟩
end
def Dr(neg:Bool)(f:Str)(k o:QF):QF:=λM ρ=>(k M ρ).bind λd=>(o M ρ).bind λod=>match lC M f od with
 |some (_,_,b,kvs)=>(dhas b kvs d).bind λr=>.ok (.bool (neg ^^ r))
 |none=>.bad
section
variable{X:Cx}{aj:aA}{W:WX}{o k:Expr}{f:Str}{pos p1:Pos}{fo fk:QF}{neg:Bool}{op:CmpOp}
theorem T6(co:cV X.K aj)(hw:aj.w=X.w)(σ:L2.St)(H:Hp)(Q:VK)(h:tQ X.K aj W (Dr neg f fk fo) σ H Q):tOp (rInD X neg) (tQ X.K aj W fk) (tFld X.K (tW X.K aj W fo) f) σ H Q:=by
 obtain⟨g,ρ,M,I,h⟩:=h;refine tQ.go I h.bnd λd v H1 h1 e1 r1=>?_;have I1:=I.ex e1;refine tW.go I1 (h1.bnd.mono (λ_ z=>z) λ_ z=>z.ex e1) λod u H2 h2 e2 r2=>?_;have I2:=I1.ex e2;split at h2
 .next hh i b kvs hd=>
  obtain⟨a,C,dx,fs,l,rfl,m1,m2,ml,ha,rfl,c1,c2,c3,c4,c5,c6,l1,l2,l3⟩:=pX co I2.wok r2 hd;refine⟨a,C,dx,fs,.ref l,rfl,c2,c4,c5,l1,?_⟩;have r1':=r1.ex e2 I1.kd;unfold dhas at h2;split at h2
  .next i'=>
   obtain⟨kv,k1,k2,k3⟩:=l3;cases r1';refine .inl ⟨l,kv,i',rfl,k1,rfl,?_⟩;rw[zY k2]at h2;exact h2 _ H2 (e1.trans e2) (.bl _)
  .next ds=>
   split at h2
   .next kk hk=>
    split at h2
    .next hdep=>
     obtain⟨o',xs,vs,k1,k2,k3,k4,k5,k6⟩:=l3;have ek:=lU hk;rw[<-ek,qH k3]at h2;rw[k3]at k4;rw[hw]at k2;cases r1' with
     | @tup b us _ hs ht=>exact .inr ⟨l,o',xs,g,_,b,kk,rfl,k1,k2,k4,rfl,.tup hs ht,hk,agp hdep,h2 _ H2 (e1.trans e2) (.bl _)⟩
    .exact agn h2
   .exact agn h2
  .exact agn h2
 .exact agn h2
theorem YH(co:cV X.K aj)(hw:aj.w=X.w)(hr:OpR X (compareOp op) (rInD X neg))(hk:QE aj X W k fk)(ho:QW aj X W o fo)(hb:baseOk o=true):QE aj X W (.Compare k [op] [.Attribute o f p1] pos) (Dr neg f fk fo):=
 PE.weak (pe_cmpR hr hk (pe_fld ho (cA hb)) (by cases op<;>rfl)) λσ H Q h=>T6 co hw σ H Q h
end
def DPx(X:Cx)(H:Hp)(a:Addr)(y v:V)(R:Hp->Prop):Prop:=(∃kvs i,H a=some (.dK kvs)/\y=.int i/\kvs.length<sizeLine/\R (upd H a (.dK (putK kvs (Sum.inl i) v))))\/
 ∃(o:Obj) (xs:List fD) (g:Gh) (d:Dat) (b:Addr) (k:NestedKey),H a=some (cH a o)/\eE X.w a o xs/\au X.K g H (xs.map λx=>V.ref x.2.1) (xs.map λx=>x.1.data)/\y=.ref b/\Rep X.K g H y d/\jC d=some k/\k.depth<=8/\xs.length<sizeLine/\∀(o':Obj) (u:Value),RelV v u->eE X.w a o' (storedH xs k b u)->R (upd H a (cH a o'))
theorem tK{P:Program}{w:World}{H:Hp}{h:Heap}{l:Addr}{o:Obj}(e:h.get? l=some o):ObjOk P w H h l (cH l o):=⟨e,⟨o,e⟩,λ_ _ e1 k=>k _ e1⟩
theorem Hg{xs:List fD}{k:NestedKey}{b:Addr}{u:Value}:(storedH xs k b u).map (·.1)=if (atKey xs k).isSome then xs.map (·.1) else xs.map (·.1)++[k]:=by
 unfold storedH;split
 .rw[afT];refine List.map_congr_left λx _=>?_
  show(putAt k u x).1=x.1
  unfold putAt
  split<;>rfl
 .simp
theorem wQ{xs:List fD}{k:NestedKey}{b:Addr}{u:Value}:(storedH xs k b u).length<=xs.length+1:=by
 unfold storedH
 split<;>simp
theorem yc{xs:List fD}{k:NestedKey}{b:Addr}{u:Value}(h:∀x∈xs,x.1.depth<=8)(hk:k.depth<=8):∀x∈storedH xs k b u,x.1.depth<=8:=λx hx=>by
 have:x.1∈(storedH xs k b u).map (·.1):=afG.mpr ⟨x,hx,rfl⟩;rw[Hg]at this;have old:∀{z:NestedKey},z∈xs.map (·.1)->z.depth<=8:=λ{z} m=>by
  obtain⟨y,hy,rfl⟩:=afG.mp m;exact h y hy
 split at this
 .exact old this
 .rcases afV.mp this with z|z
  .exact old z
  .rw[afJ.mp z];exact hk
section
variable{X:Cx}{o i value:Expr}{td ty tv:TE}{pos pos':Pos}
def abV(X:Cx)(td ty tv:TE):TS:=λD σ H=>tv σ H λv H1=>td σ H1 λx H2=>ty σ H2 λy H3=>∃a,x=.ref a/\DPx X H3 a y v λH4=>D.nx σ H4
theorem Tf(hu:X.A.units+64<cLine)(ho:PE X o td)(hi:PE X i ty)(hv:PE X value tv)(hs:swapsWith value (some (.Subscript o i pos')) pos.line X.env=pure false):PS X (.Assign [.Subscript o i pos'] value pos) (abV X td ty tv):=by
 refine⟨λpins s σ H D I h=>?_⟩;refine wpAny_Assign_Subscript (thn (hv.run pins s σ H _ I h) λr s1 ⟨v,H1,I1,rv,q1⟩=>thn (ho.run pins s1 σ H1 _ I1 q1) λu s2 ⟨x,H2,I2,rx,q2⟩=>thn (hi.run pins s2 σ H2 _ I2 q2) λiv s3 ⟨y,H3,I3,ry,a,ex,q3⟩=>?_) hs;subst ex
 obtain rfl:u=Value.ref a:=rx
 rcases q3 with⟨kvs,j,h1,rfl,hl,q⟩|⟨ob,xs,g,d,b,k,h1,h2,h3,rfl,h4,h5,h6,hl,q⟩
 .exact d_setItem (by omega) I3 (DPut.k (k:=Sum.inl j) h1 hl) ry rv λs4 I4=>⟨σ,_,I4,q⟩
 .obtain rfl:iv=Value.ref b:=ry
  refine wpAny_setItem_heap (knd:=nestedKind X.prog X.w) (k:=k) (hsz:=Nat.le_of_lt hl) (show X.A.in1.units+8<cLine by show X.A.units+1+8<cLine;omega) ⟨key_is I3 h4 h5 rfl,h6⟩ (qm I3 h1 h2 rfl h3) λh' dd hs'=>?_;obtain⟨o',es,ep,g1,g2,g3,g4,g5,g6⟩:=dd;have nd:eE X.w a o' (storedH xs k b r):=⟨h2.sys,g2,⟨es,ep,g3,g4⟩,g6,by have:=wQ (xs:=xs) (k:=k) (b:=b) (u:=r);omega,yc h2.dep h6⟩;exact⟨σ,_,d_write I3 (by rw[h1];exact True.intro) hs' ⟨o',g1⟩ (tK g1),q o' r rv nd⟩
end
theorem au.back{K:afr}{g:Gh}{H:Hp}{vs:List V}{ds:List Dat}{v:V}{d:Dat}(h:au K g H vs ds)(r:Rep K g H v d):au K g H (vs++[v]) (ds++[d]):=h.append (.cons r .nil)
theorem u9{K:afr}{aj:aA}{f:Str}{σ:L2.St}{ρ:Env}{g:Gh}{H:Hp}{M:Mo}{h:Nat}{i:Inst}{b:Bool}{kvs':List (Dat×Dat)}{a C dx l:Addr}{fs:List (Str×V)}{o':HO}(I:SInv K aj σ H g ρ M)(m1:M[h]?=some i)(m2:i.cls≠"")(ha:g.tbl[h]?=some a)(c1:aj i.cls=some C)(c2:H a=some (.ins C dx fs))(c3:aW K aj g H h fs i.fs)(hfl:f∈aj.fl i.cls)(l1:fs.lookup f=some (.ref l))(l4:g.ow l=some (h,f))(mu:qU o')
  (new:Gr false g g H (upd H l o')->dB K aj g (upd H l o') l b kvs'):Gr false g g H (upd H l o')/\SInv K aj σ (upd H l o') g ρ (M.set h (i.put f (.dic b kvs'))):=by
 have ch:=NT (o':=o') I.kd I.wok l4 mu;have nla:a≠l:=λz=>by
  subst z;rw[I.wok.tw h a i ha m1 m2]at l4;cases l4
 have w':=I.wok.chg I.kd ch ha m1 m2 hfl c1 (dx:=dx) c3 (v:=.ref l) (fl:=.dic b kvs') (by rw[upd_ne nla,rQ l1];exact c2) ⟨l,rfl,l4,new ch.gc.gr⟩;exact⟨ch.gc.gr,I.chg ch w'⟩
def Cv(f:Str)(o k e:QF):SF:=λM ρ=>((e M ρ).at M).then ρ λv _=>((o M ρ).at M).then ρ λod _=>match lC M f od with
 |some (h,i,b,kvs)=>((k M ρ).at M).then ρ λd _=>match dhas b kvs d,decide (kvs.length<100000) with
  |.ok false,true=>.next ρ (M.set h (i.put f (.dic b (kvs++[(d,v)]))))
  |_,_=>.bad
 |none=>.bad
def CQ(f:Str)(o k:QF):SF:=λM ρ=>((o M ρ).at M).then ρ λod _=>match lC M f od with
 |some (h,i,b,kvs)=>((k M ρ).at M).then ρ λd _=>match dhas b kvs d,decide (kvs.length<=100000) with
  |.ok true,true=>.next ρ (M.set h (i.put f (.dic b (kvs.filter λp=>!PyData.eqv p.1 d))))
  |_,_=>.bad
 |none=>.bad
theorem yZ{kvs:List (Dat×Dat)}{b r:Bool}{d:Dat}(h:dhas b kvs d=.ok r):(kvs.any λp=>PyData.eqv p.1 d)=r/\((b=false/\∃i,d=.int i)\/(b=true/\∃ds k,d=.tuple ds/\jC d=some k/\k.depth<=8)):=by
 unfold dhas at h;split at h
 .next i=>
  cases h;exact⟨rfl,.inl ⟨rfl,i,rfl⟩⟩
 .next ds=>
  split at h
  .next k hk=>
   split at h
   .next hd=>
    cases h;exact⟨rfl,.inr ⟨rfl,ds,k,rfl,hk,agp hd⟩⟩
   .cases h
  .cases h
 .cases h
section
variable{X:Cx}{aj:aA}{W:WX}{o e i:Expr}{f:Str}{pos pos' p1:Pos}{fo fe fk:QF}
theorem Uw(co:cV X.K aj)(hw:aj.w=X.w)(hu:X.A.units+64<cLine)(ho:QW aj X W o fo)(hb:baseOk o=true)(hk:QE aj X W i fk)(he:QE aj X W e fe)(hs:swapsWith e (some (.Subscript (.Attribute o f p1) i pos')) pos.line X.env=pure false) :
  SE aj X W false (.Assign [.Subscript (.Attribute o f p1) i pos'] e pos) (Cv f fo fk fe):=by
 refine PS.weak (Tf hu (pe_fld ho (cA hb)) hk he hs) λD σ H ⟨g,ρ,M,I,z⟩=>?_;unfold Cv at z;have k1:=Out.cP (bA (σ:=σ) z);refine tQ.go I (k1.mono (λ_ y=>y) λx y H' c dd ex rx=>y H' _ c dd (Gr.ex ex) (I.ex ex) rx) λd v H1 k2 e1 rv=>?_;have I1:=I.ex e1;have k2:=Out.cP (bA (σ:=σ) k2);refine tW.go I1 (k2.mono (λ_ y=>y) λx y H' c dd ex rx=>y H' _ c dd ((Gr.ex e1).trans (Gr.ex ex)) (I1.ex ex) rx) λod u H2 k3 e2 ru=>?_;have I2:=I1.ex e2;have e12:=e1.trans e2;split at k3
 .next h i' b kvs hl=>
  obtain⟨a,C,dx,fs,l,rfl,m1,m2,ml,ha,rfl,c1,c2,c3,c4,c5,c6,l1,l2,l3⟩:=pX co I2.wok ru hl;refine⟨a,C,dx,fs,.ref l,rfl,c2,c4,c5,l1,?_⟩;have k3:=Out.cP (bA (σ:=σ) k3);refine tQ.go I2 (k3.mono (λ_ y=>y) λx y H' c dd ex rx=>y H' _ c dd ((Gr.ex e12).trans (Gr.ex ex)) (I2.ex ex) rx) λkd w H3 k4 e3 rk=>?_;have I3:=I2.ex e3;have l3':=l3.ex e3 I2.kd;have rv3:=(rv.ex e2 I1.kd).ex e3 I2.kd;refine⟨l,rfl,?_⟩;split at k4
  .next hh hz=>
   obtain⟨ha2,hcase⟩:=yZ hh;have hz:=agp hz;rcases hcase with⟨rfl,j,rfl⟩|⟨rfl,ds,kk,rfl,hkk,hdep⟩
   .obtain⟨kv,q1,q2,q3⟩:=l3';cases rk;have hlen:kv.length=kvs.length:=by
     have:=congrArg List.length q2;simpa using this.symm
    rw[zY q2]at ha2;have hn:valV kv (Sum.inl j)=none:=by
     cases hv:valV kv (Sum.inl j) with
     |none=>rfl
     |some _=>rw[hv]at ha2;cases ha2
    refine .inl ⟨kv,j,q1,rfl,sz_lt (by rw[hlen];exact hz),?_⟩;rw[putK_new v hn];obtain⟨gr,I4⟩:=u9 (b:=false) (kvs':=kvs++[(.int j,d)]) (o':=.dK (kv++[(Sum.inl j,v)])) I3 m1 m2 ha c1 (e3 _ _ c2) (c3.ex e3 I2.kd) c6 l1 l2 agm λgr=>⟨_,agu,by simp[q2,keyD],by
     rw[afY,afY];exact(q3.gr gr I3.kd).back (rv3.gr gr I3.kd)⟩
    exact k4 σ _ g ((Gr.ex (e12.trans e3)).trans gr) I4
   .obtain⟨o',xs,vs,q1,q2,q3,q4,q5,q6⟩:=l3';have hlen:xs.length=kvs.length:=by
     have:=congrArg List.length q3;simpa using this.symm
    have ek:=lU hkk;rw[<-ek,qH q3]at ha2;have hn:atKey xs kk=none:=by
     cases hv:atKey xs kk with
     |none=>rfl
     |some _=>rw[hv]at ha2;cases ha2
    have q4':=q4;rw[q3]at q4';rw[hw]at q2;cases rk with
    | @tup bb us _ hs' ht=>
     refine .inr ⟨o',xs,g,_,bb,kk,q1,q2,q4',rfl,.tup hs' ht,hkk,hdep,sz_lt (by rw[hlen];exact hz),λo2 u2 ru2 nd=>?_⟩;rw[storedH_new hn]at nd;obtain⟨gr,I4⟩:=u9 (b:=true) (kvs':=kvs++[(.tuple ds,d)]) (o':=cH l o2) I3 m1 m2 ha c1 (e3 _ _ c2) (c3.ex e3 I2.kd) c6 l1 l2 agm λgr=>⟨o2,xs++[(kk,bb,u2)],vs++[v],agu,by rw[hw];exact nd,by simp[q3,ek],by
      rw[afY,afY];exact(q4.gr gr I3.kd).back ((Rep.tup hs' ht).gr gr I3.kd),by
      rw[afY];exact q5.append (.cons ru2 .nil),by
      rw[afY];exact(q6.gr gr I3.kd).back (rv3.gr gr I3.kd)⟩
     exact k4 σ _ g ((Gr.ex (e12.trans e3)).trans gr) I4
  .exact agn k4
 .exact agn k3
end
section
variable{X:Cx}{o i:Expr}{td ty:TE}{pos tpos:Pos}
def abP(X:Cx)(td ty:TE):TS:=λD σ H=>td σ H λx H2=>ty σ H2 λy H3=>∃a,x=.ref a/\((∃kvs i,H3 a=some (.dK kvs)/\y=.int i/\(valV kvs (Sum.inl i)).isSome=true/\D.nx σ (upd H3 a (.dK (dropK kvs (Sum.inl i)))))\/
 ∃(o:Obj) (xs:List fD) (g:Gh) (d:Dat) (b:Addr) (k:NestedKey),H3 a=some (cH a o)/\eE X.w a o xs/\au X.K g H3 (xs.map λx=>V.ref x.2.1) (xs.map λx=>x.1.data)/\y=.ref b/\Rep X.K g H3 y d/\jC d=some k/\k.depth<=8/\(atKey xs k).isSome=true/\∀(o':Obj),eE X.w a o' (withoutH xs k)->D.nx σ (upd H3 a (cH a o')))
theorem Sy(hu:X.A.units+64<cLine)(ho:PE X o td)(hi:PE X i ty):PS X (.Delete [.Subscript o i tpos] pos) (abP X td ty):=by
 refine⟨λpins s σ H D I h=>?_⟩;refine wpAny_Delete (wpAny_deleteEach_cons (wpAny_delete_Subscript (thn (ho.run pins s σ H _ I h) λu s1 ⟨x,H1,I1,rx,q1⟩=>thn (hi.run pins s1 σ H1 _ I1 q1) λiv s2 ⟨y,H2,I2,ry,a,ex,q2⟩=>?_)));subst ex
 obtain rfl:u=Value.ref a:=rx
 rcases q2 with⟨kvs,j,h1,rfl,hl,q⟩|⟨ob,xs,g,d,b,k,h1,h2,h3,rfl,h4,h5,h6,hl,q⟩
 .exact d_delItem (k:=Sum.inl j) I2 h1 ry hl λs3 I3=>wpAny_deleteEach_nil ⟨σ,_,I3,q⟩
 .obtain rfl:iv=Value.ref b:=ry
  obtain⟨p,hp⟩:=Option.isSome_iff_exists.mp hl;refine wpAny_delItem_heap (knd:=nestedKind X.prog X.w) (k:=k) (hsz:=h2.len) (show X.A.in1.units+8<cLine by show X.A.units+1+8<cLine;omega) ⟨key_is I2 h4 h5 rfl,h6⟩ h2.sys (qm I2 h1 h2 rfl h3) hp λh' dd hs'=>?_;obtain⟨o',es,ep,g1,g2,g3,g4,g5,g6⟩:=dd;have nd:eE X.w a o' (withoutH xs k):=⟨h2.sys,g2,⟨es,ep,g3,g4⟩,g6,Nat.le_trans (agf _ _) h2.len,λx hx=>h2.dep x (agb.mp hx).1⟩;exact wpAny_deleteEach_nil ⟨σ,_,d_write I2 (by rw[h1];exact True.intro) hs' ⟨o',g1⟩ (tK g1),q o' nd⟩
end
theorem vG{α β:Type}(f:α->β)(c:α->Bool):∀l:List α,(((l.map f).zip l).filter λp=>c p.2).map (·.1)=(l.filter c).map f
 |[]=>rfl
 |a::l=>by
  rw[aft,afP,af6,af6];cases c a
  .exact vG f c l
  .simp only[if_true,aft,vG f c l]
theorem Ug{K:afr}{g:Gh}{H:Hp}(kk:NestedKey):∀{xs:List fD} {vs:List V} {kvs:List (Dat×Dat)},kvs.map (·.1)=xs.map (λx=>x.1.data)->au K g H (xs.map λx=>V.ref x.2.1) (kvs.map (·.1))->Vals vs (xs.map (·.2.2))->au K g H vs (kvs.map (·.2))->
  ∃vs',(kvs.filter λp=>!PyData.eqv p.1 kk.data).map (·.1)=(withoutH xs kk).map (λx=>x.1.data)/\au K g H ((withoutH xs kk).map λx=>V.ref x.2.1) ((kvs.filter λp=>!PyData.eqv p.1 kk.data).map (·.1))/\Vals vs' ((withoutH xs kk).map (·.2.2))/\au K g H vs' ((kvs.filter λp=>!PyData.eqv p.1 kk.data).map (·.2))
 |[],_,[],_,_,.nil,_=>⟨[],rfl,.nil,.nil,.nil⟩
 |[],_,_::_,h,_,_,_=>by cases h
 |_::_,_,[],h,_,_,_=>by cases h
 |x::xs,_,q::qs,h1,.cons r1 t1,.cons w1 w2,.cons r2 t2=>by
  simp only[aft,List.cons.injEq]at h1;obtain⟨vs',i1,i2,i3,i4⟩:=Ug kk h1.2 t1 w2 t2;have hq:(!PyData.eqv q.1 kk.data)=decide (x.1≠kk):=by rw[h1.1,Ja];by_cases hz:x.1=kk<;>simp[hz]
  unfold withoutH;rw[af6,af6,hq];cases hb:decide (x.1≠kk) with
  |true=>exact⟨_::vs',by simp only[if_true,aft,h1.1];exact congrArg _ i1,by simp only[if_true,aft];exact .cons r1 i2,by simp only[if_true,aft];exact .cons w1 i3,by simp only[if_true,aft];exact .cons r2 i4⟩
  |false=>
   simp only[afO,if_false];exact⟨vs',i1,i2,i3,i4⟩
theorem aaf{K:afr}{g:Gh}{H:Hp}{α:Type}(c:α->Bool)(key:α->Dat)(dd:Dat->Bool):∀{vs:List V} {kvs:List (Dat×Dat)} {xs:List α},(∀x∈xs,c x=dd (key x))->kvs.map (·.1)=xs.map key->vs.length=xs.length->au K g H vs (kvs.map (·.2))->
  (kvs.filter λp=>dd p.1).map (·.1)=(xs.filter c).map key/\au K g H (((vs.zip xs).filter λp=>c p.2).map (·.1)) ((kvs.filter λp=>dd p.1).map (·.2))
 |[],[],[],_,_,_,_=>⟨rfl,.nil⟩
 |[],[],_::_,_,h,_,_=>by cases h
 |[],_::_,_,_,_,_,h=>by cases h
 |_::_,[],_,_,_,_,h=>by cases h
 |_::_,_::_,[],_,h,_,_=>by cases h
 |u::us,q::qs,x::xs,hc,hk,hl,.cons h t=>by
  simp only[aft,List.cons.injEq]at hk;have hq:=hc x afv;rw[<-hk.1]at hq;obtain⟨i1,i2⟩:=aaf c key dd (λy hy=>hc y (afu _ hy)) hk.2 (agk hl) t;rw[afP,af6,af6,af6,hq];cases hb:dd q.1 with
  |true=>exact⟨by simp only[if_true,aft,i1,hk.1],by simp only[if_true,aft];exact .cons h i2⟩
  |false=>exact⟨by simpa using i1,by simpa using i2⟩
section
variable{X:Cx}{aj:aA}{W:WX}{o i:Expr}{f:Str}{pos tpos p1:Pos}{fo fk:QF}
theorem V2(co:cV X.K aj)(hw:aj.w=X.w)(hu:X.A.units+64<cLine)(ho:QW aj X W o fo)(hb:baseOk o=true)(hk:QE aj X W i fk):SE aj X W false (.Delete [.Subscript (.Attribute o f p1) i tpos] pos) (CQ f fo fk):=by
 refine PS.weak (Sy hu (pe_fld ho (cA hb)) hk) λD σ H ⟨g,ρ,M,I,z⟩=>?_;unfold CQ at z;have k2:=Out.cP (bA (σ:=σ) z);refine tW.go I (k2.mono (λ_ y=>y) λx y H' c dd ex rx=>y H' _ c dd (Gr.ex ex) (I.ex ex) rx) λod u H2 k3 e2 ru=>?_;have I2:=I.ex e2;split at k3
 .next h i' b kvs hl=>
  obtain⟨a,C,dx,fs,l,rfl,m1,m2,ml,ha,rfl,c1,c2,c3,c4,c5,c6,l1,l2,l3⟩:=pX co I2.wok ru hl;refine⟨a,C,dx,fs,.ref l,rfl,c2,c4,c5,l1,?_⟩;have k3:=Out.cP (bA (σ:=σ) k3);refine tQ.go I2 (k3.mono (λ_ y=>y) λx y H' c dd ex rx=>y H' _ c dd ((Gr.ex e2).trans (Gr.ex ex)) (I2.ex ex) rx) λkd w H3 k4 e3 rk=>?_;have I3:=I2.ex e3;have l3':=l3.ex e3 I2.kd;refine⟨l,rfl,?_⟩;split at k4
  .next hh hz=>
   obtain⟨ha2,hcase⟩:=yZ hh;rcases hcase with⟨rfl,j,rfl⟩|⟨rfl,ds,kk,rfl,hkk,hdep⟩
   .obtain⟨kv,q1,q2,q3⟩:=l3';cases rk;rw[zY q2]at ha2;refine .inl ⟨kv,j,q1,rfl,ha2,?_⟩;have hf:=λ(H':Hp)(r:au X.K g H' (kv.map (·.2)) (kvs.map (·.2)))=>aaf (K:=X.K) (g:=g) (H:=H') (λp:Key×V=>decide (p.1≠Sum.inl j)) (λp=>keyD p.1) (λz=>!PyData.eqv z (.int j)) (vs:=kv.map (·.2)) (kvs:=kvs) (xs:=kv) (λx _=>by
     cases hx:x.1 with
     |inl z=>by_cases hz:z=j<;>simp[keyD,PyData.eqv,hz]
     |inr z=>simp[keyD,PyData.eqv]) q2 (by simp) r
    have ez:(((kv.map (·.2)).zip kv).filter λp=>decide (p.2.1≠Sum.inl j)).map (·.1)=(dropK kv (Sum.inl j)).map (·.2):=vG (·.2) (λp:Key×V=>decide (p.1≠Sum.inl j)) kv;obtain⟨gr,I4⟩:=u9 (b:=false) (kvs':=kvs.filter λp=>!PyData.eqv p.1 (.int j)) (o':=.dK (dropK kv (Sum.inl j))) I3 m1 m2 ha c1 (e3 _ _ c2) (c3.ex e3 I2.kd) c6 l1 l2 agm λgr=>⟨_,agu,(hf _ (q3.gr gr I3.kd)).1,by
     rw[<-ez];exact(hf _ (q3.gr gr I3.kd)).2⟩
    exact k4 σ _ g ((Gr.ex (e2.trans e3)).trans gr) I4
   .obtain⟨o',xs,vs,q1,q2,q3,q4,q5,q6⟩:=l3';have ek:=lU hkk;rw[<-ek,qH q3]at ha2;rw[hw]at q2;have q4':=q4;rw[q3]at q4';cases rk with
    | @tup bb us _ hs' ht=>
     refine .inr ⟨o',xs,g,_,bb,kk,q1,q2,q4',rfl,.tup hs' ht,hkk,hdep,ha2,λo2 nd=>?_⟩;obtain⟨gr,I4⟩:=u9 (b:=true) (kvs':=kvs.filter λp=>!PyData.eqv p.1 (.tuple ds)) (o':=cH l o2) I3 m1 m2 ha c1 (e3 _ _ c2) (c3.ex e3 I2.kd) c6 l1 l2 agm λgr=>by
      obtain⟨vs',i1,i2,i3,i4⟩:=Ug kk q3 (q4.gr gr I3.kd) q5 (q6.gr gr I3.kd);rw[ek]at i1 i2 i4;exact⟨o2,withoutH xs kk,vs',agu,by rw[hw];exact nd,i1,i2,i3,i4⟩
     exact k4 σ _ g ((Gr.ex (e2.trans e3)).trans gr) I4
  .exact agn k4
 .exact agn k3
end
def X5(l:Addr)(o:Obj)(xs:List fD):It:=
 ⟨λi H=>H l=some (cH l o)/\i<xs.length,λi H x H'=>H'=H/\∃e,xs[i]?=some e/\x=.ref e.2.1,λi H=>H l=some (cH l o)/\xs.length<=i⟩
theorem pin_at{X:Cx}{pins:List (Addr×Obj)}{σ:L2.St}{H:Hp}{s:Shared}{l:Addr}{o:Obj}(I:L2.Inv X pins σ H s)(h:H l=some (cH l o)):s.heap.get? l=some o:=(show ObjOk X.prog X.w H s.heap l (cH l o) from I.hok l _ h).1
theorem eE.at{w:World}{l:Addr}{o:Obj}{xs:List fD}{es:Array DictEntry}{ep:Nat}(n:eE w l o xs)(h:o.data=.dict es ep):es.size=xs.length/\∀(i:Nat) (e:fD),xs[i]?=some e->∃en,es[i]?=some en/\en.key=.ref e.2.1:=by
 obtain⟨es',ep',h1,h2⟩:=n.ent;rw[h]at h1;cases h1;refine⟨?_,λi e hi=>⟨MP w e,?_,rfl⟩⟩
 .have:=congrArg List.length h2;simpa using this
 .rw[<-af3,h2,afI,hi];rfl
theorem aaw{P:Program}{w:World}{K:afr}{tg:Expr}{l:Addr}{o:Obj}{xs:List fD}{es:Array DictEntry}{ep:Nat}(it:Addr)(n:eE w l o xs)(hod:o.data=.dict es ep):Turn P w K tg (X5 l o xs) [it] it (λi h=>h.IsKeyIter it l i xs.length ep) where
 mem:=afJ.mpr rfl
 obj:=λi h st b hb=>by
  cases afJ.mp hb;obtain⟨oi,e,c,dd⟩:=st;refine⟨oi,e,λv z=>?_⟩;rw[dd]at z;cases z
 keep:=λi h h' st k=>st.at (k it (afJ.mpr rfl))
 item:=by intro X hP hw hK hc i pins s σ H E I hf st hg;subst hP hw hK;obtain⟨g0,g1,g2,g3,g4,g5⟩:=hf it (afJ.mpr rfl);obtain⟨sz,ent⟩:=n.at hod;have hlt:i<xs.length:=hg.2;have hx:xs[i]?=some xs[i]:=afx hlt;obtain⟨en,e1,e2⟩:=ent i _ hx;refine next_key_item st (pin_at I hg.1) hod sz e1 ?_;intro h' st' sb;have J:L2.Inv X pins σ H { s with heap:=h' }:=I.turned (t':=s.toks) (λb ob hb e=>(sb.2 b hb).trans e) g0 g1 g3 g4 g5;obtain⟨oi,a1,a2,a3⟩:=id st';exact⟨en.key,rfl,go_of (s:={ s with heap:=h' }) a1 a2 a3 (by decide) ⟨.ref xs[i].2.1,H,J,e2,⟨rfl,_,hx,rfl⟩,st',λb hb=>(hf b hb).1⟩⟩
 done:=by intro X hP hw hK hc i pins s σ H E I hf st hg;subst hP hw hK;obtain⟨g0,g1,g2,g3,g4,g5⟩:=hf it (afJ.mpr rfl);exact next_key_end (I.ok.hd hc) st (pin_at I hg.1) hod (n.at hod).1 hg.2 λh' eb=>⟨rfl,I.turned (t':=s.toks) (λb ob hb e=>eb b ob hb e) g0 g1 g3 g4 g5⟩
 self:=λA i s Q E st h=>by
  refine wpAny_pyIter_slot st.typeIs PySem.F.slot_dict_keyiterator_iter (wpAny_call_entry PySem.F.slot_dict_keyiterator_iter st.typeIs PySem.F.entry_dict_keyiterator_iter ?_ (PySem.F.args_dict_keyiterator_iter_1 _));exact agr ⟨_,rfl,"dict_keyiterator",_,st.typeIs,PySem.F.slot_dict_keyiterator_next.lookup,h⟩
def acg(X:Cx)(td:TE):TI:=λσ H R=>td σ H λx H1=>∃l o xs,x=.ref l/\H1 l=some (cH l o)/\eE X.w l o xs/\R (X5 l o xs) H1
theorem XM{X:Cx}{tg e:Expr}{td:TE}(he:PE X e td):PI X tg e (acg X td):=by
 constructor;intro pins s σ H R I h;refine thn (he.run pins s σ H _ I h) ?_;rintro u s1 ⟨x,H1,I1,rx,l,o,xs,rfl,hl,n,q⟩
 obtain rfl:u=Value.ref l:=rx
 obtain⟨es,ep,hd,_⟩:=n.ent;refine iter_keys n.sys (pin_at I1 hl) n.ex hd (pi_one (tk:=s1.toks) I1 _ (aaw _ n hd) ⟨_,Heap.get?_push_size _ rfl,rfl,?_⟩ q);rw[(n.at hd).1]<;>rfl
theorem Wn{K:afr}{aj:aA}{l:Addr}{o:Obj}{xs:List fD}{ks:List Dat}:rM K (X5 l o xs) (λg H=>H l=some (cH l o)/\au K g H (xs.map λx=>V.ref x.2.1) ks) ks where
 go:=λg i H c hi=>⟨c.1,by have:=c.2.length;simp at this;omega⟩
 yld:=λg i H x H' d k c e y=>by
  obtain⟨rfl,en,h1,rfl⟩:=y;obtain⟨v,h2,h3⟩:=c.2.get e;rw[afI,h1]at h2;cases h2;exact⟨Ex.refl _,h3⟩
 stop:=λg i H c e=>⟨c.1,by have:=c.2.length;simp at this;omega⟩
 ex:=λg H H' k c e=>⟨e _ _ c.1,c.2.ex e k⟩
 add:=λg g' H H' k c r e=>⟨e _ _ c.1,c.2.gr r k⟩
def wO(f:Str)(o:QF):IF:=λM ρ=>(o M ρ).bind λod=>match lC M f od with
 |some (_,_,true,kvs)=>.ok (kvs.map (·.1))
 |_=>.bad
def sW(f:Str)(o:QF):QF:=λM ρ=>(o M ρ).bind λod=>match lC M f od with
 |some (_,_,_,kvs)=>.ok (.list (kvs.map (·.1)))
 |none=>.bad
section
variable{X:Cx}{aj:aA}{W:WX}{o tg:Expr}{f:Str}{pos p p1:Pos}{fo:QF}
theorem Qp(co:cV X.K aj)(hw:aj.w=X.w)(ho:QW aj X W o fo)(hb:baseOk o=true):QI aj X W false tg (.Attribute o f p1) (wO f fo):=by
 have h0:=XM (tg:=tg) (pe_fld (X:=X) (pos:=p1) (f:=f) ho (cA hb));refine⟨λpins s σ H R I h=>h0.run pins s σ H R I ?_⟩;obtain⟨g,ρ,M,J,h⟩:=h;unfold wO at h;refine tW.go J h.bnd λod u H1 k2 e1 ru=>?_;have J1:=J.ex e1;split at k2
 .next h i kvs hl=>
  obtain⟨a,C,dx,fs,l,rfl,m1,m2,ml,ha,rfl,c1,c2,c3,c4,c5,c6,l1,l2,o',xs,vs,q1,q2,q3,q4,q5,q6⟩:=pX co J1.wok ru hl;rw[hw]at q2;exact⟨a,C,dx,fs,.ref l,rfl,c2,c4,c5,l1,l,o',xs,rfl,q1,q2,k2 _ _ H1 e1 (Wn (aj:=aj)) ⟨q1,q4⟩ λz=>nomatch z⟩
 .exact agn k2
end
theorem RD{P:Program}{w:World}{A:Around}{l I:Addr}{o:Obj}{xs:List fD}{es:Array DictEntry}{ep:Nat}(hh:A.handled=none)(hne:l≠I)(n:eE w l o xs)(hd:o.data=.dict es ep):Walks P w A I [I,l] [I] xs.length (λi v=>∃e,xs[i]?=some e/\v=Value.ref e.2.1) (λi h=>h.IsKeyIter I l i xs.length ep/\h.get? l=some o) where
 sub:=λb hb=>by simp at hb;simp[hb]
 frame:=λi h h' st k=>⟨st.1.at (k I (by simp)),k l (by simp) o st.2⟩
 item:=λi s Q E hi st hQ=>by
  obtain⟨sz,ent⟩:=n.at hd;have hx:xs[i]?=some xs[i]:=afx hi;obtain⟨en,e1,e2⟩:=ent i _ hx;refine next_key_item st.1 st.2 hd sz e1 ?_;intro h' st' sb;exact hQ en.key h' s.toks ⟨_,hx,e2⟩ ⟨st',(sb.2 l hne).trans st.2⟩ λb ob hb e=>(sb.2 b λz=>hb (by simp[z])).trans e
 done:=λs Q E st hQ=>next_key_end hh st.1 st.2 hd (n.at hd).1 (afN _) λh' eb=>hQ h' s.toks λb ob hb e=>eb b ob (λz=>hb (by simp[z])) e
 self:=λi s Q E st hQ=>wpAny_pyIter_keyiter st.1 hQ
theorem Ws{P:Program}{w:World}{l:Addr}{o:Obj}{xs:List fD}(n:eE w l o xs):PySem.W.KdlSrc P w "dict" l l xs.length (λi v=>∃e,xs[i]?=some e/\v=Value.ref e.2.1) (λh=>h.get? l=some o) where
 type:=λs e=>⟨o,e,n.ex.1⟩
 there:=λh e=>⟨Heap.lt_size e,Heap.lt_size e⟩
 keep:=λh h' e k=>k l (.inl rfl) o e
 notList:=by decide
 notTuple:=by decide
 hint:=λA E s Q e hq=>PySem.W.kdl_hint_dict ⟨o,e,n.ex.1⟩ hq
 iter:=λA s hh e=>by
  obtain⟨es,ep,hd,_⟩:=n.ent;refine⟨_,_,λE Q hq=>iter_keys n.sys e n.ex hd hq,RD hh (afX (Heap.lt_size e)) n hd,⟨_,Heap.get?_push_size _ rfl,rfl,?_⟩,Heap.get?_push_of_some _ e⟩;rw[(n.at hd).1]<;>rfl
def Ny(X:Cx):List V->Hp->VK->Prop:=λxs H Q=>(∃p kvs,xs=[.ref p]/\H p=some (.dK kvs)/\∀q,H q=none->Q (.ref q) (upd H q (.lst (kvs.map λkv=>kV kv.1))))\/∃p o es,xs=[.ref p]/\H p=some (cH p o)/\eE X.w p o es/\∀q,H q=none->Q (.ref q) (upd H q (.lst (es.map λe=>V.ref e.2.1)))
theorem Ld{X:Cx}(hc:X.calm=true):CallR X (.type "list") (Ny X):=by
 intro pins s σ H xs us Q I r h;rcases h with h|⟨p,o,es,rfl,hp,n,q⟩
 .exact call_list_dK hc pins s σ H xs us Q I r h
 .obtain⟨u,rfl,rx⟩:=vals1 r
  obtain rfl:u=Value.ref p:=rx
  refine PySem.W.kdl_call (Ws n) (I.ok.hd hc) (pin_at I hp) n.len ?_;intro h' tk acc c' keep hS hacc;have el:acc.toList.length=es.length:=by rw[afQ];exact hacc.1
  refine⟨.ref s.heap.objs.size,upd H s.heap.objs.size (.lst (es.map λe=>V.ref e.2.1)),I.laid keep (afN _) (show ObjOk X.prog X.w _ _ _ (.lst (es.map λe=>V.ref e.2.1)) from⟨by rw[afy];exact n.len,acc.toList,c',?_,?_⟩),rfl,q _ (I.hok.fresh (afN _))⟩
  .refine vals_of_at (by rw[afy,el]) λj x w h1 h2=>?_;obtain⟨e,he,rfl⟩:=hacc.2 j w (by rw[<-af3];exact h2);rw[afI,he]at h1;cases h1;rfl
  .rw[Array.toArray_toList];exact hS
section
variable{X:Cx}{aj:aA}{W:WX}{o e:Expr}{f:Str}{pos p p1 pos':Pos}{fo:QF}
theorem Eo{K:afr}{g:Gh}{H:Hp}:∀{kv:List (Key×V)} {kvs:List (Dat×Dat)},kvs.map (·.1)=kv.map (λp=>keyD p.1)->au K g H (kv.map λp=>kV p.1) (kvs.map (·.1))
 |[],[],_=>.nil
 |[],_::_,h=>by cases h
 |_::_,[],h=>by cases h
 |a::kv,b::kvs,h=>by
  simp only[aft,List.cons.injEq]at h;rw[aft,aft,h.1];refine .cons ?_ (Eo h.2);cases a.1 with
  |inl i=>exact .int i
  |inr x=>exact .str x
theorem QD(co:cV X.K aj)(hw:aj.w=X.w)(σ:L2.St)(H:Hp)(Q:VK)(h:tQ X.K aj W (sW f fo) σ H Q):tFld X.K (tW X.K aj W fo) f σ H λx H1=>Ny X [x] H1 Q:=by
 obtain⟨g,ρ,M,J,h⟩:=h;unfold sW at h;refine tW.go J h.bnd λod u H1 k2 e1 ru=>?_;have J1:=J.ex e1;split at k2
 .next h i b kvs hl=>
  obtain⟨a,C,dx,fs,l,rfl,m1,m2,ml,ha,rfl,c1,c2,c3,c4,c5,c6,l1,l2,l3⟩:=pX co J1.wok ru hl;refine⟨a,C,dx,fs,.ref l,rfl,c2,c4,c5,l1,?_⟩;cases b with
  |false=>
   obtain⟨kv,q1,q2,q3⟩:=l3;exact .inl ⟨l,kv,rfl,q1,λq nq=>k2 (.ref q) _ (e1.trans (Ex.new nq)) (.lst (.inl ⟨.inl agu,J1.kd.fresh nq⟩) (Eo q2))⟩
  |true=>
   obtain⟨o',xs,vs,q1,q2,q3,q4,q5,q6⟩:=l3;rw[hw]at q2;exact .inr ⟨l,o',xs,rfl,q1,q2,λq nq=>k2 (.ref q) _ (e1.trans (Ex.new nq)) (.lst (.inl ⟨.inl agu,J1.kd.fresh nq⟩) (q4.ex (Ex.new nq) J1.kd))⟩
 .exact agn k2
theorem S8(co:cV X.K aj)(hw:aj.w=X.w)(hc:X.calm=true)(hg:Gl X "list")(hm:X.mg "list"=none)(ho:QW aj X W o fo)(hb:baseOk o=true):QE aj X W (.Call (.Name "list" p) [.Attribute o f p1] [] pos) (sW f fo):=by
 have h1:=pa_cons (pe_fld (X:=X) (pos:=p1) (f:=f) ho (cA hb)) pa_nil (aM rfl []);have hv:BV (.type "list") "list":=⟨by decide +kernel,by decide,by decide⟩
 refine PE.weak (pe_callTy (pos:=pos) (p:=p) (Ld hc) hg hm hv.1 h1 hv.2.1 hv.2.2 (aM rfl []) (by with_unfolding_all rfl)) λσ H Q h=>?_;exact QD co hw σ H Q h
def Cz(ft:Ft)(o:QF)(f:Str)(b:Bool):SF:=λM ρ=>((o (M++[⟨"",[]⟩]) ρ).at (M++[⟨"",[]⟩])).then ρ λod M2=>match dO M2 od with
 |some (h,i)=>match ft.has i.cls f&&decide (i.fs.length<100) with
  |true=>.next ρ (M2.set h (i.put f (.dic b [])))
  |false=>.bad
 |none=>.bad
def abd(X:Cx)(b:Bool):TE:=λ_ H Q=>∀p,H p=none->match b with
 |false=>Q (.ref p) (upd H p (.dK []))
 |true=>∀o,eE X.w p o []->Q (.ref p) (upd H p (cH p o))
theorem Wt{b:Bool}:PE X (.Dict [] [] pos) (abd X b):=by
 cases b with
 |false=>exact PE.weak pe_dnewK λσ H Q h p np=>h p np
 |true=>
  refine⟨λpins s σ H Q I h=>wpAny_Dict_empty ?_⟩;have hz:(s.heap.push { cls:=.type "dict",data:=.dict #[] }).get? s.heap.objs.size=some { cls:=.type "dict",data:=.dict #[] }:=Heap.get?_push_size _ rfl
  have hs:(s.heap.objs.size==sysModules)=false:=beq_eq_false_iff_ne.mpr (Ne.symm (afX I.big));exact⟨.ref s.heap.objs.size,_,I.laid (a:=s.heap.objs.size) (o:=cH s.heap.objs.size _) (t':=s.toks) (λ_ _ q=>Heap.get?_push_of_some _ q) (afN _) (tK hz),rfl,h _ (I.hok.fresh (afN _)) _ ⟨hs,⟨rfl,rfl,rfl⟩,⟨#[],0,rfl,rfl⟩,List.nodup_nil,afU _,λx hx=>absurd hx afS⟩⟩
theorem Vy{ft:Ft}{b:Bool}(co:cV X.K aj)(fk:tX ft aj)(hw:aj.w=X.w)(ho:QW aj X W o fo)(hs:swapsWith (.Dict [] [] p) (some (.Attribute o f pos')) pos.line X.env=pure false):SE aj X W false (.Assign [.Attribute o f pos'] (.Dict [] [] p) pos) (Cz ft fo f b):=by
 refine PS.weak (ps_fld ho (Wt (b:=b)) hs) λD σ H ⟨g,ρ,M,I,z⟩=>?_;have core:∀(l:Addr) (ob:HO),H l=none->qU ob->(∀(g':Gh) (H':Hp),H' l=some ob->dB X.K aj g' H' l b [])->tW X.K aj W fo σ (upd H l ob) (λx H2=>∃a C dx fs,x=.ref a/\H2 a=some (.ins C dx fs)/\Cls X.K C/\NoAttr X.K C f/\fs.length<1000/\D.nx σ (upd H2 a (.ins C dx (putF f (.ref l) fs)))):=by
  intro l ob nl mu at';obtain⟨gr,I1,tb,ow,mm⟩:=uw I nl (Ex.new nl) agu mu;unfold Cz at z;have k1:=Out.cP (bA (σ:=σ) z);refine tW.go I1 (k1.mono (λ_ y=>y) λx y H' c dd ex rx=>y H' _ c dd (gr.trans (Gr.ex ex)) (I1.ex ex) rx) λod u H2 k2 e2 ru=>?_;have I2:=I1.ex e2;split at k2
  .next h i hi=>
   split at k2
   .next hb=>
    rw[afs]at hb;obtain⟨a,C,dx,fs,_,m1,m2,ha,rfl,c1,c2,c3,c4,c5,c6⟩:=qu co fk I2.wok ru hi hb.1;have nla:l≠a:=λz=>by
     subst z;cases I2.wok.inj _ _ _ ha tb;rw[mm]at m1;cases m1;exact m2 rfl
    refine⟨a,C,dx,fs,rfl,c2,c4,c5,?_,?_⟩
    .have:=agp hb.2;rw[c3.len];omega
    .have ch:=zm (f:=f) (C:=C) (dx:=dx) (fs':=putF f (.ref l) fs) I2.kd I2.wok ha m1 m2 tb mm ow;have w':=I2.wok.chg I2.kd ch ha m1 m2 c6 c1 c3 agu (v:=.ref l) (fl:=.dic b []) ⟨l,rfl,ags rfl,at' _ _ (by rw[upd_ne nla];exact e2 _ _ agu)⟩;exact k2 σ _ _ ((gr.trans (Gr.ex e2)).trans ch.gc.gr) (I2.chg ch w')
   .exact agn k2
  .exact agn k2
 intro l nl;cases b with
 |false=>exact core l _ nl agm λg' H' h=>⟨[],h,rfl,.nil⟩
 |true=>exact λob nd=>core l _ nl agm λg' H' h=>⟨ob,[],[],h,by rw[hw];exact nd,rfl,.nil,.nil,.nil⟩
end
def Xc(X:Cx)(D:Addr)(vs:List Nat)(g:TG)(tk:TE)(σ:L2.St)(Nx:Hp->Prop)(x:V)(H:Hp):Prop:=
 g x (L2.wipe σ vs) H λσ2 H2=>L2.wipe σ2 vs=L2.wipe σ vs/\tk σ2 H2 λy H4=>∃(o:Obj) (xs:List fD) (gg:Gh) (d:Dat) (b:Addr) (k:NestedKey),y=.ref b/\H4 D=some (cH D o)/\eE X.w D o xs/\au X.K gg H4 (xs.map λx=>V.ref x.2.1) (xs.map λx=>x.1.data)/\Rep X.K gg H4 y d/\jC d=some k/\k.depth<=8/\xs.length<sizeLine/\
  ∀o',eE X.w D o' (storedH xs k b (.bool true))->Nx (upd H4 D (cH D o'))
def Yp(X:Cx)(wi:TI)(g:TG)(tk:TE)(vs:List Nat):TE:=λσ H Q=>wi σ H λJ H1=>∀D,H1 D=none->∃W:Nat->Nat->Hp->Prop,(∃m,∀o,eE X.w D o []->W 0 m (upd H1 D (cH D o)))/\
 ∀i m H,W i m H->(J.stop i H/\Q (.ref D) H)\/(J.go i H/\∃Nx:Hp->Prop,(∀H',Nx H'->∃m',m'<m/\W (i+1) m' H')/\∀x H',J.yld i H x H'->Xc X D vs g tk σ Nx x H')
section
variable{X:Cx}
theorem Sq{pins:List (Addr×Obj)}{σ:L2.St}{H:Hp}{s:Shared}{E:Value->Shared->Prop}{D b:Addr}{o:Obj}{xs:List fD}{gg:Gh}{d:Dat}{k:NestedKey}{u:Value}{Q:Unit->Shared->Prop}(hu:X.A.units+64<cLine)(I:L2.Inv X pins σ H s)(hD:H D=some (cH D o))(n:eE X.w D o xs)(hr:au X.K gg H (xs.map λx=>V.ref x.2.1) (xs.map λx=>x.1.data))(hk:Rep X.K gg H (.ref b) d)(hd:jC d=some k)(h8:k.depth<=8)(hz:xs.length<sizeLine)(ru:RelV (.bl true) u)
  (q:∀s' o',eE X.w D o' (storedH xs k b (.bool true))->L2.Inv X pins σ (upd H D (cH D o')) s'->Q () s'):wpAny (model X.prog X.w) X.A (dictSet D (.ref b) u) Q E s:=by
 obtain rfl:u=.bool true:=ru
 refine wpAny_dictSet_heap (knd:=nestedKind X.prog X.w) (k:=k) (hsz:=Nat.le_of_lt hz) (show X.A.units+8<cLine by omega) ⟨key_is I hk hd rfl,h8⟩ (qm I hD n rfl hr) ?_;intro h' dd hs';obtain⟨o',es,ep,g1,g2,g3,g4,g5,g6⟩:=dd;have nd:eE X.w D o' (storedH xs k b (.bool true)):=⟨n.sys,g2,⟨es,ep,g3,g4⟩,g6,by have:=wQ (xs:=xs) (k:=k) (b:=b) (u:=.bool true);omega,yc n.dep h8⟩;exact q _ o' nd (d_write I (by rw[hD];exact True.intro) hs' ⟨o',g1⟩ (tK g1))
theorem YX{kx tg iter:Expr}{scope:Scope}{own:List (PySem.Str×Nat)}{pos vp:Pos}{vj:Nat}{wi:TI}{g:TG}{tk:TE}(hc:X.calm=true)(hN:X.N.Nodup)(hu:X.A.units+64<cLine)(hi:PI X tg iter wi)(ok:BlkOk X.N X.env.scope scope own)
  (hg:∀(t:Shared) (G:Hp) (C:Addr) (cl:List (PySem.Str×Addr)) (fp:List Addr),PG (X.blk t G scope (compEnvC scope cl C X.env) fp) tg g)
  (hk:∀(t:Shared) (G:Hp) (C:Addr) (cl:List (PySem.Str×Addr)) (fp:List Addr),PE (X.blk t G scope (compEnvC scope cl C X.env) fp) kx tk) (hs:∀x,foldedSetIterable iter X.env x=pure x) :
  PE X (.DictComp kx (.Constant (.bool true) vj vp) [⟨tg,iter,[],0⟩] scope pos) (Yp X wi g tk (own.map (·.2))):=by
 refine⟨λpins s σ H Q I h=>?_⟩;rw[arm_eval_DictComp];have cells:∀y∈scope.names,y.2=.free->∃c,X.env.cells.lookup y.1=some c:=λy hy e=>(ok.free y hy e).elim (λk=>I.ok.has _ (.inl k)) (λk=>I.ok.has _ (.inr k));refine wpAny_comprehension_free rfl hs (closure_ok cells) ok.kind (λy hy e=>by rw[ok.uniq y hy,e]) (thn (hi.run pins s σ H _ I h) λ_ _ hx=>thn hx λitv t0 h0=>?_);obtain⟨it,fp,tn,J,G0,rfl,I0,T,st0,f0,q⟩:=h0;refine wpAny_newObj_type (newEnv_comp ?_)
 -- the new dict,at D
 obtain⟨D,hD⟩:∃D,D=t0.heap.objs.size:=⟨_,rfl⟩;rw[<-hD];obtain⟨W,⟨m0,w00⟩,turn⟩:=q D (I0.hok.fresh (Nat.le_of_eq hD.symm));obtain⟨ob,hob⟩:∃ob:Obj,ob={ cls:=.type "dict",data:=.dict #[] }:=⟨_,rfl⟩
 have nd0:eE X.w D ob []:=by rw[hob];exact⟨by rw[hD];exact beq_eq_false_iff_ne.mpr (Ne.symm (afX I0.big)),⟨rfl,rfl,rfl⟩,⟨#[],0,rfl,rfl⟩,List.nodup_nil,afU _,λx hx=>absurd hx afS⟩
 have w0:=w00 ob nd0;rw[<-hob];obtain⟨t1,ht1⟩:∃t1:Shared,t1={ t0 with heap:=t0.heap.push ob }:=⟨_,rfl⟩;obtain⟨G1,hG1⟩:∃G1,G1=upd G0 D (cH D ob):=⟨_,rfl⟩;rw[<-hG1]at w0;have grow:∀b o,t0.heap.get? b=some o->t1.heap.get? b=some o:=λb o e=>by rw[ht1];exact Heap.get?_push_of_some _ e
 have I1:L2.Inv X pins σ G1 t1:=by rw[ht1,hG1];refine I0.laid (t':=t0.toks) (λb o e=>Heap.get?_push_of_some _ e) (Nat.le_of_eq hD.symm) (tK ?_);rw[hD];exact Heap.get?_push_size _ (by rw[hob];rfl)
 have small:∀b∈fp,b<t0.heap.objs.size:=λb hb=>by
  obtain⟨o,e,_⟩:=T.obj _ _ st0 b hb;exact Heap.lt_size e
 have f1:∀b∈fp,FpOk X pins G1 b/\b<t1.heap.objs.size:=λb hb=>by
  have hlt:=small b hb;refine⟨⟨?_,(f0 b hb).2⟩,by rw[ht1];show b<(t0.heap.push ob).objs.size;rw[Heap.size_push];exact aga hlt⟩;rw[hG1,upd_ne (by rw[hD];exact afX hlt)];exact(f0 b hb).1
 have st1:tn 0 t1.heap:=T.keep _ _ _ st0 λb _ o e=>grow b o e;have I2:=block_start I1 ok hN f1;have pg:=hg t1 G1 t1.heap.objs.size (cellsFrom (t1.heap.objs.size+1) scope.names (cloFrom X.env.cells scope.names [])) fp;have pk:=hk t1 G1 t1.heap.objs.size (cellsFrom (t1.heap.objs.size+1) scope.names (cloFrom X.env.cells scope.names [])) fp;have none1:∀b∈fp,G1 b=none:=λb hb=>(f1 b hb).1.1;rw[show({ t0 with heap:=t0.heap.push ob }:Shared)=t1 from ht1.symm];obtain⟨ce,hce⟩:∃ce,ce=compEnvC scope (cellsFrom (t1.heap.objs.size+1) scope.names (cloFrom X.env.cells scope.names [])) t1.heap.objs.size X.env:=⟨_,rfl⟩;rw[<-hce]at I2 pg pk;have cL:ce.locals=t1.heap.objs.size:=by rw[hce];rfl
 obtain⟨t2,ht2⟩:∃t2:Shared,t2={ t1 with heap:=pushCells (t1.heap.push { cls:=.type "dict",data:=.dict #[] }) scope.names }:=⟨_,rfl⟩
 rw[<-ht2]at I2;have st2:tn 0 t2.heap:=T.keep _ _ _ st1 λb _ o e=>by rw[ht2];exact pushCells_keeps _ _ _ _ (Heap.get?_push_of_some _ e)
 have still:∀{σ':L2.St} {G':Hp} {t':Shared},L2.Inv (X.blk t1 G1 scope ce fp) [] σ' G' t'->(∀b∈fp,G' b=none)->∀b∈fp,FpOk (X.blk t1 G1 scope ce fp) [] G' b:=λI' hn b hb=>
  ⟨hn b hb,(I'.ok.exf b hb).1,I'.ok.exfs b hb,.inl hb,λx c e=>(I'.ok.exf b hb).2 x c e,λp hp=>absurd (show p∈([]:List (Addr×Obj))++[] from hp) (by simp)⟩
 have pt:PTs (X.blk t1 G1 scope ce fp) [] tYes:=pts_nil;have pv:PE (X.blk t1 G1 scope ce fp) (.Constant (.bool true) vj vp) (tC (.bl true)):=pe_bl;have loop:codeAny (model X.prog X.w) X.A (.compLoop (.DictComp kx (.Constant (.bool true) vj vp) [⟨tg,iter,[],0⟩] scope pos) 0 (.ref it) (.ref D) ce) (compPost (model X.prog X.w) X.A X.xe none (EP X pins σ Q) (.ref D) t1.heap.objs.size) t2:=by
  refine compLoop_anyD (λn t'=>∃i G',L2.Inv (X.blk t1 G1 scope ce fp) [] (L2.wipe σ (own.map (·.2))) G' t'/\tn i t'.heap/\(∀b∈fp,G' b=none)/\W i n G') ?_ m0 ⟨0,G1,I2,st2,none1,w0⟩;rintro n t3 ⟨i,G3,I3,st3,n3,w3⟩;rcases turn i n G3 w3 with⟨stop,fin⟩|⟨go,Nx,hNx,step⟩
  .refine thnF (T.done (X.blk t1 G1 scope ce fp) rfl rfl rfl hc i [] t3 _ G3 (λ_ _=>False) I3 (still I3 n3) st3 stop) λr t4 ⟨hr,I4⟩=>?_;subst hr;have I5:L2.Inv X pins σ G3 t4:=I1.call' (ch:=fp) I4.os I4.base I4.hok I4.bare λb hb=>⟨(f1 b hb).1.2.2.2.1,(f1 b hb).1.2.1,(f1 b hb).1.2.2.2.2.1,(f1 b hb).1.2.2.2.2.2⟩;have nC:G3 t1.heap.objs.size=none:=by rw[<-cL];exact I4.free
   obtain⟨m,hn,_⟩:=I4.loc;have hn':t4.heap.Ns t1.heap.objs.size m:=by rw[<-cL];exact hn
   obtain⟨a0,a1,_,a3,a4,a5⟩:=I1.fpOk (afN _) nC;exact⟨m,hn',λh'' sb=>⟨.ref D,G3,I5.turned (t':=t4.toks) (λb o hb e=>(sb.2 b hb).trans e) a0 a1 a3 a4 a5,rfl,fin⟩⟩
  .refine thnF (T.item (X.blk t1 G1 scope ce fp) rfl rfl rfl hc i [] t3 _ G3 (λ_ _=>False) I3 (still I3 n3) st3 go) λr t4 ⟨u,hr,h4⟩=>?_;subst hr;refine thnF h4 λ_ t5 ⟨x,G5,I5,r5,y5,st5,n5⟩=>?_;refine thnF (pg.run _ t5 _ G5 x u _ (I5.pinned (still I5 n5) (T.obj _ _ st5)) r5 (step x G5 y5)) λ_ t6 ⟨σ6,G6,I6,hw6,q6⟩=>?_;refine thnF (pt.run _ t6 σ6 G6 (λb G=>b=true/\G=G6) I6 ⟨rfl,rfl⟩) λb t7 ⟨G7,I7,hb7,hG7⟩=>?_;subst hb7 hG7;have over:∀{t':Shared} {G':Hp},L2.Inv (X.blk t1 G1 scope ce fp) ([]++pinsAt fp t5.heap) σ6 G' t'->Nx G'->∃m,m<n/\∃i G',L2.Inv (X.blk t1 G1 scope ce fp) [] (L2.wipe σ (own.map (·.2))) G' t'/\tn i t'.heap/\(∀b∈fp,G' b=none)/\W i m G':=λ{t' G'} I' nx=>by
    obtain⟨m',hm,w'⟩:=hNx G' nx;have pin:∀b∈fp,∀o,t5.heap.get? b=some o->t'.heap.get? b=some o/\G' b=none:=λb hb o e=>
     let z:=I'.pin (b,o) (List.mem_append_right _ (List.mem_append_right _ (mem_pinsAt hb e)))
     ⟨z.1,z.2.1⟩
    refine⟨m',hm,i+1,G',(I'.unpinned (pins:=[])).weak (by rw[<-hw6,wipe_length]) (λj v e=>?_),T.keep _ _ _ st5 λb hb o e=>(pin b hb o e).1,λb hb=>?_,w'⟩
    .rw[<-hw6]at e;exact(wipe_some e).1
    .obtain⟨o,e,_⟩:=T.obj _ _ st5 b hb;exact(pin b hb o e).2
   simp only[if_true];refine thnF (pk.run _ t7 σ6 _ _ I7 q6) λz t8 ⟨yv,G8,I8,r8,o8,xs8,g8,d8,b8,k8,ey,hD8,n8,hr8,hk8,hd8,h88,hz8,nx⟩=>?_;subst ey
   obtain rfl:z=Value.ref b8:=r8
   refine thnF (pv.run _ t8 σ6 G8 (λv G=>v=.bl true/\G=G8) I8 ⟨rfl,rfl⟩) λz2 t9 ⟨y9,G9,I9,r9,hv9,hG9⟩=>?_;subst hv9 hG9;exact Sq (X:=X.blk t1 G1 scope ce fp) hu I9 hD8 n8 hr8 hk8 hd8 h88 hz8 r9 λs' o' nd I10=>over I10 (nx o' nd)
 have done:=codeAny_compStart_dict loop (T.self X.A 0 _ _ _ st2 loop);rw[hce,ht2]at done;subst hob;exact done
end
def rJ(tg:bY)(tk:QF)(M:Mo)(ρ:Env):List Dat->List (Dat×Dat)->Out (List (Dat×Dat))
 |[],acc=>.ok acc
 |d::ds,acc=>match tg d ρ with
  |none=>.bad
  |some Z1=>(nO (tk M Z1)).bind λkd=>(dhas true acc kd).bind λr=>rJ tg tk M ρ ds (match r with
   |true=>acc
   |false=>acc++[(kd,.bool true)])
def Z5(it:IF)(tg:bY)(vs:List Nat)(tk:QF):Mo->Env->Out (List (Dat×Dat)):=λM ρ=>(it M ρ).bind λds=>Out.when (decide (ds.length<=50000)) (rJ tg tk M (aU ρ vs) ds [])
def Yz(K:afr)(aj:aA)(W:WX)(f:Mo->Env->Out (List (Dat×Dat))):TE:=λσ H Q=>∃g ρ M,SInv K aj σ H g ρ M/\(f M ρ).sat (λkvs=>∀l o H',H l=none->Ex H H'->H' l=some (cH l o)->dB K aj (g.add l) H' l true kvs->Q (.ref l) H') (gR K aj W g H σ)
section
variable{X:Cx}{aj:aA}{W:WX}
theorem Am{tg:bY}{tk:QF}{M:Mo}{ρ:Env}:∀{ds:List Dat} {acc:List (Dat×Dat)} {x:bL},rJ tg tk M ρ ds acc≠.exc x
 |[],_,_,h=>nomatch h
 |d::ds,acc,x,h=>by
  rw[rJ]at h;split at h
  .cases h
  .next Z1 e=>
   cases h1:tk M Z1 with
   |bad=>rw[h1]at h;cases h
   |exc y=>rw[h1]at h;cases h
   |ok kd=>
    rw[h1]at h;have h:((dhas true acc kd).bind λr=>rJ tg tk M ρ ds (match r with
     |true=>acc
     |false=>acc++[(kd,.bool true)]))=.exc x:=h
    cases h2:dhas true acc kd with
    |bad=>rw[h2]at h;cases h
    |exc y=>
     unfold dhas at h2;split at h2
     .cases h2
     .split at h2
      .split at h2<;>cases h2
      .cases h2
     .cases h2
    |ok r=>
     rw[h2]at h;exact Am h
theorem Qw{xs:List fD}{k:NestedKey}(h:∀x∈xs,x.2.2=.bool true):xs.map (putAt k (.bool true))=xs:=by
 have:∀x∈xs,putAt k (.bool true) x=x:=λx hx=>by
  unfold putAt;split
  .obtain⟨a,b,c⟩:=x;have:c=.bool true:=h _ hx;rw[this]
  .rfl
 calc xs.map (putAt k (.bool true))=xs.map id:=List.map_congr_left this
  _=xs:=List.map_id xs
theorem Jq:∀{xs:List fD},(∀x∈xs,x.2.2=.bool true)->Vals (List.replicate xs.length (.bl true)) (xs.map (·.2.2))
 |[],_=>.nil
 |x::xs,h=>by
  rw[afA,List.replicate_succ,aft,h x afv];exact .cons rfl (Jq λy hy=>h y (afu _ hy))
theorem Jm{K:afr}{g:Gh}{H:Hp}:∀{kvs:List (Dat×Dat)} {n:Nat},n=kvs.length->(∀p∈kvs,p.2=.bool true)->au K g H (List.replicate n (.bl true)) (kvs.map (·.2))
 |[],_,h,_=>by subst h;exact .nil
 |p::kvs,_,e,h=>by
  subst e;rw[afA,List.replicate_succ,aft,h p afv];exact .cons (.bl true) (Jm rfl λy hy=>h y (afu _ hy))
theorem abh{it:IF}{tg:bY}{js vs:List Nat}{tk:QF}(hw:aj.w=X.w)(hj:∀j∈js,j∈vs)(σ:L2.St)(H:Hp)(Q:VK)(h:Yz X.K aj W (Z5 it tg vs tk) σ H Q) :
  Yp X (tI X.K aj W false it) (lO X.K aj js tg) (tQ X.K aj WF tk) vs σ H Q:=by
 obtain⟨g,ρ,M,I,h⟩:=h;refine⟨g,ρ,M,I,h.bnd.mono (λds hk J C H1 e1 w c _ D nD=>?_) λ_ z=>z⟩;obtain⟨hz,hk⟩:=hk.dI;have hlen:=agp hz;obtain⟨total,htot,hQ⟩:∃total,rJ tg tk M (aU ρ vs) ds []=.ok total/\∀l o H',H l=none->Ex H H'->H' l=some (cH l o)->dB X.K aj (g.add l) H' l true total->Q (.ref l) H':=by
  cases hc:rJ tg tk M (aU ρ vs) ds [] with
  |bad=>rw[hc]at hk;exact agn hk
  |exc x=>exact absurd hc Am
  |ok total=>
   rw[hc]at hk;exact⟨total,rfl,hk⟩
 have I1:=(I.ex e1).wipe vs;have kD:∀{Ha:Hp} {o:Obj},Ex H1 Ha->Ha D=some (cH D o)->SInv X.K aj (L2.wipe σ vs) Ha (g.add D) (aU ρ vs) M:=λea hu=>I1.add nD ea hu agm
 let Pv:Nat->Hp->Prop:=λi Ha=>Ex H1 Ha/\i<=ds.length/\∃o xs acc,Ha D=some (cH D o)/\eE X.w D o xs/\acc.map (·.1)=xs.map (λx=>x.1.data)/\au X.K (g.add D) Ha (xs.map λx=>V.ref x.2.1) (acc.map (·.1))/\(∀x∈xs,x.2.2=.bool true)/\(∀p∈acc,p.2=.bool true)/\acc.length<=i/\rJ tg tk M (aU ρ vs) (ds.drop i) acc=.ok total
 refine⟨λi m Ha=>m=ds.length-i/\Pv i Ha,⟨ds.length,λo n0=>⟨rfl,Ex.new nD,afU _,o,[],[],agu,n0,rfl,.nil,λx hx=>absurd hx afS,λx hx=>absurd hx afS,afN _,by rw[af7];exact htot⟩⟩,?_⟩;rintro i m Ha ⟨rfl,ea,hi,o,xs,acc,hu,nd,hK,hR,hT,hA,hy,hs⟩;have Ia:=kD ea hu;have Ca:=w.add g (g.add D) H1 Ha (I.kd.ex e1) c (Gh.pJ nD ea) ea;have lxs:xs.length=acc.length:=by have:=congrArg List.length hK;simpa using this.symm
 by_cases hlt:i<ds.length
 .refine .inr ⟨w.go _ i Ha Ca hlt,Pv (i+1),λH' p=>⟨ds.length-(i+1),by omega,rfl,p⟩,λx H' y=>?_⟩;have hd:ds[i]?=some ds[i]:=afx hlt;obtain⟨e2,rx⟩:=w.yld _ i Ha x H' _ Ia.kd Ca hd y;have I2:=Ia.ex e2;rw[af2 hlt,rJ]at hs;split at hs
  .cases hs
  .next Z1 he=>
   refine⟨g.add D,_,M,_,Z1,I2,rx,he,λws I3=>⟨lK js ws _ vs hj |>.trans (pq σ vs),?_⟩⟩;cases htk:tk M Z1 with
   |bad=>rw[htk]at hs;cases hs
   |exc z=>rw[htk]at hs;cases hs
   |ok kd=>
    rw[htk]at hs;have hs:((dhas true acc kd).bind λr=>rJ tg tk M (aU ρ vs) (ds.drop (i+1)) (match r with
     |true=>acc
     |false=>acc++[(kd,.bool true)]))=.ok total:=hs
    refine⟨g.add D,Z1,M,I3,?_⟩;rw[htk];intro v H4 e4 ry;have I4:=I3.ex e4;have hu4:=e4 _ _ (e2 _ _ hu);have hR4:=(hR.ex e2 Ia.kd).ex e4 I2.kd;cases hh:dhas true acc kd with
    |bad=>rw[hh]at hs;cases hs
    |exc z=>rw[hh]at hs;cases hs
    |ok r=>
     rw[hh]at hs;obtain⟨ha2,hcase⟩:=yZ hh;rcases hcase with⟨z,_⟩|⟨_,dd,kk,rfl,hkk,hdep⟩
     .cases z
     .have ek:=lU hkk;rw[<-ek,qH hK]at ha2;have hRx:=hR4;rw[hK]at hRx;cases ry with
      | @tup bb us _ hs' ht=>
       refine⟨o,xs,g.add D,_,bb,kk,rfl,hu4,nd,hRx,.tup hs' ht,hkk,hdep,sz_lt (by omega),λo' nd'=>?_⟩;have eD:Ex H1 (upd H4 D (cH D o')):=Ex.mut ((ea.trans e2).trans e4) nD;have lD:(g.add D).Lo D:=.inr rfl;have up:Gr true (g.add D) (g.add D) H4 (upd H4 D (cH D o')):=Gr.upd I4.kd hu4 (.inr lD);cases r with
       |true=>
        obtain⟨q,hq⟩:=Option.isSome_iff_exists.mp ha2;rw[storedH_old hq,Qw hT]at nd';exact⟨eD,hlt,o',xs,acc,agu,nd',hK,hR4.gr up I4.kd,hT,hA,by omega,hs⟩
       |false=>
        have hn:atKey xs kk=none:=by
         cases hv:atKey xs kk with
         |none=>rfl
         |some _=>rw[hv]at ha2;cases ha2
        rw[storedH_new hn]at nd';have hs:rJ tg tk M (aU ρ vs) (ds.drop (i+1)) (acc++[(.tuple dd,.bool true)])=.ok total:=hs;refine⟨eD,hlt,o',xs++[(kk,bb,.bool true)],acc++[(.tuple dd,.bool true)],agu,nd',by simp[hK,ek],?_,?_,?_,by simp;omega,hs⟩
        .rw[afY,afY];exact(hR4.gr up I4.kd).back ((Rep.tup hs' ht).gr up I4.kd)
        .intro x hx;rcases afV.mp hx with z|z
         .exact hT x z
         .rw[afJ.mp z]
        .intro x hx;rcases afV.mp hx with z|z
         .exact hA x z
         .rw[afJ.mp z]
 .have e:i=ds.length:=by omega
  refine .inl ⟨w.stop _ i Ha Ca e,?_⟩;rw[e,af8]at hs;cases hs;exact hQ D o Ha (j7 e1 D nD) (e1.trans ea) hu ⟨o,xs,List.replicate xs.length (.bl true),hu,by rw[hw];exact nd,hK,hR,Jq hT,Jm lxs hA⟩
def Cg(ft:Ft)(o:QF)(f:Str)(e:Mo->Env->Out (List (Dat×Dat))):SF:=λM ρ=>((e M ρ).at M).then ρ λkvs _=>((o (M++[⟨"",[]⟩]) ρ).at (M++[⟨"",[]⟩])).then ρ λod M2=>match dO M2 od with
 |some (h,i)=>match ft.has i.cls f&&decide (i.fs.length<100) with
  |true=>.next ρ (M2.set h (i.put f (.dic true kvs)))
  |false=>.bad
 |none=>.bad
end
theorem Eu{K:afr}{g:Gh}{H:Hp}{l:Addr}{vs:List V}{ds:List Dat}(h:au K (g.add l) H vs ds):au K (g.push l) H vs ds:=au.mv (g:=g.add l) (g':=g.push l) (λh a z=>by
  have z:g.tbl[h]?=some a:=z
  show(g.tbl++[l])[h]?=some a
  rw[afH (afw.mp z).1];exact z) (λa z=>by
  rcases DN z with z|rfl
  .rcases z with z|z|z
   .exact .inl z
   .exact .inr (.inl z)
   .exact .inr (.inr (show g.Lo a\/a=l from Or.inl z))
  .exact .inr (.inr (show g.Lo a\/a=a from Or.inr rfl))) h
section
variable{X:Cx}{aj:aA}{W:WX}{o e:Expr}{f:Str}{pos pos':Pos}{ft:Ft}{fo:QF}
theorem Vq{fe:Mo->Env->Out (List (Dat×Dat))}{te:TE}(co:cV X.K aj)(fk:tX ft aj)(ho:QW aj X W o fo)(he:PE X e te)(hte:∀σ H Q,Yz X.K aj W fe σ H Q->te σ H Q)(hs:swapsWith e (some (.Attribute o f pos')) pos.line X.env=pure false):SE aj X W false (.Assign [.Attribute o f pos'] e pos) (Cg ft fo f fe):=by
 refine PS.weak (ps_fld ho he hs) λD σ H ⟨g,ρ,M,I,z⟩=>hte σ H _ ⟨g,ρ,M,I,?_⟩;unfold Cg at z;cases hf:fe M ρ with
 |exc x=>rw[hf]at z;exact λH' c dd e r=>z σ H' g c dd (Gr.ex e) (I.ex e) r.fr
 |bad=>rw[hf]at z;exact agn z
 |ok kvs=>
  rw[hf]at z;intro l ob H1 nl e1 hl dic;obtain⟨gr,I1,tb,ow,mm⟩:=uw I nl e1 hl agm;have dic1:dB X.K aj (g.push l) H1 l true kvs:=by obtain⟨o',xs,vs,q1,q2,q3,q4,q5,q6⟩:=dic;exact⟨o',xs,vs,q1,q2,q3,Eu q4,q5,Eu q6⟩
  have z:(((fo (M++[⟨"",[]⟩]) ρ).at (M++[⟨"",[]⟩])).then ρ λod M2=>match dO M2 od with
   |some (h,i)=>match ft.has i.cls f&&decide (i.fs.length<100) with
    |true=>.next ρ (M2.set h (i.put f (.dic true kvs)))
    |false=>.bad
   |none=>.bad).sat (sN X.K aj false D.nx g H) (sR X.K aj false D.rt g H) (sN X.K aj false D.bk g H) (sN X.K aj false D.ct g H) (sX X.K aj W false g H):=z
  have k1:=Out.cP (bA (σ:=σ) z);refine tW.go I1 (k1.mono (λ_ y=>y) λx y H' c dd ex rx=>y H' _ c dd (gr.trans (Gr.ex ex)) (I1.ex ex) rx) λod u H2 k2 e2 ru=>?_;have I2:=I1.ex e2;split at k2
  .next h i hi=>
   split at k2
   .next hb=>
    rw[afs]at hb;obtain⟨a,C,dx,fs,_,m1,m2,ha,rfl,c1,c2,c3,c4,c5,c6⟩:=qu co fk I2.wok ru hi hb.1;have nla:l≠a:=λz=>by
     subst z;cases I2.wok.inj _ _ _ ha tb;rw[mm]at m1;cases m1;exact m2 rfl
    refine⟨a,C,dx,fs,rfl,c2,c4,c5,?_,?_⟩
    .have:=agp hb.2;rw[c3.len];omega
    .have ch:=zm (f:=f) (C:=C) (dx:=dx) (fs':=putF f (.ref l) fs) I2.kd I2.wok ha m1 m2 tb mm ow;have w':=I2.wok.chg I2.kd ch ha m1 m2 c6 c1 c3 agu (v:=.ref l) (fl:=.dic true kvs) ⟨l,rfl,ags rfl,dB.chg ch.gc.gr I2.kd (upd_ne nla) (dic1.ex e2 I1.kd)⟩;exact k2 σ _ _ ((gr.trans (Gr.ex e2)).trans ch.gc.gr) (I2.chg ch w')
   .exact agn k2
  .exact agn k2
end
end Rf
namespace Ear
open PySem PySem.Spec PyProof.Rows L2 Evl RZ
abbrev j6(K:afr)(H:Hp)(v:V)(r:Rw):Prop:=Dp K H v (rD r)
@[irreducible]def rP (K:afr) (w:World):List V->Hp->VK->Prop:=λvs H Q=>∃(l:Addr) (ws:List V) (R D:List Rw),vs=[V.ref l]/\SqL K H l ws/\bU (j6 K H) ws R/\D.length<=76/\(∀r∈R,r∈D)/\
 ∀(p:Addr) (L:List Ent),H p=none->(∀e∈L,j6 K H (.ref e.1) e.2)->(L.map Prod.snd).Nodup->(∀r,r∈L.map Prod.snd↔r∈R)->L.length<=76->Q (.ref p) (upd H p (uQ w p L))
@[irreducible]def vU (K:afr) (w:World):List V->Hp->VK->Prop:=λvs H Q=>∃(a:Addr) (L:List Ent),vs=[V.ref a]/\H a=some (uQ w a L)/\(∀e∈L,j6 K H (.ref e.1) e.2)/\(L.map Prod.snd).Nodup/\L.length<=76/\
 ∀(ys:List V) (M:List Rw) (p:Addr),bU (j6 K H) ys M->Jz M->(∀r,r∈M↔r∈L.map Prod.snd)->H p=none->Q (.ref p) (upd H p (.lst ys))
section
variable{X:Cx}
theorem SJ{pins:List (Addr×Obj)}{σ:L2.St}{H:Hp}{s:Shared}(I:Inv X pins σ H s){t:Addr}{r:Rw}(h:j6 X.K H (.ref t) r):RI s.heap r t:=by
 refine⟨?_,by rw[Qy];decide⟩;unfold j6 rD dT at h;cases h with
 |tup h1 t1=>
  cases t1 with
  |cons a1 t1=>
   cases t1 with
   |cons a2 t1=>
    cases t1;cases a1;cases a2 with
    |tup h2 t2=>
     obtain⟨us,rv,⟨o,ho,hc,n,hd⟩,_⟩:=I.tuple h1;obtain⟨us2,rv2,⟨o2,ho2,hc2,n2,hd2⟩,_⟩:=I.tuple h2;refine .tup ho hc hd ?_;cases rv with
     |cons r1 rv=>
      cases rv with
      |cons r2 rv=>
       cases rv;obtain⟨tk,rfl⟩:=r1;cases r2;have e:∀{vs:List V} {l:List Int},DpAll X.K H vs (l.map PyData.int)->vs=l.map V.int:=by
        intro vs l
        induction l generalizing vs with
        |nil=>intro z;cases z;rfl
        |cons i l ih=>
         intro z;cases z with
         |cons b1 b2=>
          cases b1;rw[ih b2];rfl
       rw[e t2]at rv2;exact .cons (.int r.1 tk) (.cons (.tup ho2 hc2 hd2 (by simpa using Bf (P:=X.prog) (w:=X.w) r.2 us2 rv2)) .nil)
theorem yg{K:afr}{H:Hp}:∀(ws:List V) (R:List Rw),bU (j6 K H) ws R->∃ks:List Ent,ws=(ks.map λp=>V.ref p.1)/\ks.map Prod.snd=R/\∀p∈ks,j6 K H (.ref p.1) p.2
 |[],[],_=>⟨[],rfl,rfl,by simp⟩
 |[],_::_,h=>nomatch h.1
 |_::_,[],h=>nomatch h.1
 |v::ws,r::R,h=>by
  obtain⟨ks,e1,e2,e3⟩:=yg ws R ⟨agk h.1,λi v x a b=>h.2 (i+1) v x a b⟩;have hr:j6 K H v r:=h.2 0 v r rfl rfl;have ev:∃t,v=.ref t:=by
   have z:=hr;unfold j6 rD at z;cases z with
   |tup _ _=>exact⟨_,rfl⟩
  obtain⟨t,rfl⟩:=ev;refine⟨(t,r)::ks,by rw[aft,<-e1],by rw[aft,e2],λp hp=>?_⟩;rcases afD.mp hp with e|hp
  .rw[e];exact hr
  .exact e3 p hp
theorem HJ(hu:X.A.units+65<cLine)(hc:X.calm=true):CallR X (.type "set") (rP X.K X.w):=by
 intro pins s σ H vs us Q I r h;unfold rP at h;obtain⟨l,ws,R,D,rfl,hl,hA,hD,hRD,q⟩:=h;rw[Vals.ref1 r];obtain⟨ks,e1,e2,e3⟩:=yg ws R hA;obtain⟨its,rv,pl,hz⟩:=I.list hl;rw[e1]at rv;have mem:∀p∈ks,p.2∈R:=λp hp=>by
  rw[<-e2];exact afG.mpr ⟨p,hp,rfl⟩
 have hn:H s.heap.objs.size=none:=I.hok.fresh (afN _);refine Hv (P:=X.prog) (w:=X.w) (hf:=λr=>(fL X.prog X.w).hash r) (λ_=>rfl) ks D hD (λp hp=>hRD _ (mem p hp)) (I.ok.hd hc) pl.isList (by simpa using BK rv) (λp hp=>SJ I (e3 p hp)) (by omega) λh' tk L es ep t S g k=>?_;have fitL:t.fits es.size=true:=iy.fits (s:={ s with heap:=h',toks:=tk }) S;have new:ObjOk X.prog X.w (upd H s.heap.objs.size (uQ X.w s.heap.objs.size L)) h' s.heap.objs.size (uQ X.w s.heap.objs.size L):=by obtain⟨o,ho,hr⟩:=S.ob;refine⟨⟨_,es,ep,t,S.ob,S.en,fitL,S.tab.ris,S.ld⟩,⟨o,ho⟩,λh1 h2 z k2=>?_⟩;obtain⟨hf2,es2,ep2,t2,⟨o2,ho2,hr2⟩,rest⟩:=(show KD X.w h1 s.heap.objs.size L from z);exact⟨hf2,es2,ep2,t2,⟨o2,k2 o2 ho2,hr2⟩,rest⟩
 refine⟨.ref s.heap.objs.size,upd H s.heap.objs.size (uQ X.w s.heap.objs.size L),I.laid (t':=tk) k (afN _) new,rfl,q _ L hn (λe he=>e3 e (af4 (g.sub e he))) S.nd (λr=>⟨λm=>?_,λm=>?_⟩) S.few⟩
 .obtain⟨e,he,e5⟩:=afG.mp m;rw[<-e5];exact mem e (af4 (g.sub e he))
 .rw[<-e2]at m;obtain⟨p,hp,e5⟩:=afG.mp m;rw[<-e5];exact g.all p (by rw[List.take_length];exact hp)
theorem La(hu:X.A.units+65<cLine)(hc:X.calm=true):CallR X (.builtin "sorted") (vU X.K X.w):=by
 intro pins s σ H vs us Q I r h;unfold vU at h;obtain⟨a,L,rfl,ha,hL,nd,few,q⟩:=h;rw[Vals.ref1 r];obtain⟨hf,es,ep,t,⟨o,ho,hex,hd⟩,en,fit,ris,led⟩:KD X.w s.heap a L:=(I.hok a _ ha).1;have len:=lB en;have ev:∀K:List Ent,(∀p∈K,p∈L)->PySem.W.EachIs (λv (r:Rw)=>(∃p∈L,v=Value.ref p.1/\r=p.2)/\∃as,Reads s.heap v (rD r) as) ((ents hf K).map (·.2)) (K.map Prod.snd):=by
  intro K
  induction K with
  |nil=>exact λ_=>.nil
  |cons p K ih=>
   intro hK;have hp:=hK p afv;exact .cons ⟨⟨p,hp,rfl,rfl⟩,Dp.reads I (rD p.2) (.ref p.1) (.ref p.1) (hL p hp) rfl⟩ (ih λx hx=>hK x (afu _ hx))
 refine HS (enc:=rD) (bs:=L.map Prod.snd) (I.ok.hd hc) ⟨o,ho,hex.1,hd⟩ fit (by unfold scanBound;omega) ris led (by rw[en];exact ev L λp hp=>hp) (PySem.W.AllAlike.of Bj) (PySem.W.Sortable.tuples λb=>⟨_,_,rfl⟩) (λb _=>by rw[(Mz b).2];omega) λs' p out c cs k g' o' hp hg pc eo=>?_;have mp:=List.mergeSort_perm cs (PySem.W.dataLe false rD);have ndm:(cs.mergeSort (PySem.W.dataLe false rD)).Nodup:=(mp.trans pc).nodup_iff.mpr nd;have srt:=List.pairwise_mergeSort (le:=PySem.W.dataLe false rD) (λa b c k1 k2=>by rw[ug,ago]at *;exact List.le_trans k1 k2) (λa b=>by rw[ug,ug,agc,ago,ago];exact List.le_total _ _) cs;generalize cs.mergeSort (PySem.W.dataLe false rD)=M at mp ndm srt eo;obtain⟨ys,v1,v2⟩:=Aa out M eo;have up:Jz M:=by
  refine List.Pairwise.imp₂ (λa b h1 h2=>?_) srt ndm;rw[ug,ago]at h1;by_cases c:rk a<rk b
  .exact c
  .exact absurd (Ph (List.le_antisymm h1 (List.not_lt.mp c))) h2
 have hfr:H p=none:=I.hok.fresh hp;have hlen:ys.length<=sizeLine:=by rw[v2.1,mp.length_eq,pc.length_eq,afy,sizeLine_eq];omega
 have J:Inv X pins σ (upd H p (.lst ys)) { s with heap:=s'.heap,gens:=s'.gens,drawn:=s'.drawn,toks:=s'.toks }:=
  I.call (ch:=[]) (Un.laid k hp hfr) (I.hok.laid k hp ⟨hlen,out,c,v1,hg⟩) (by rw[g'];exact I.bare) (λ_ z=>nomatch z)
 have es':s'={ s with heap:=s'.heap,gens:=s'.gens,drawn:=s'.drawn,toks:=s'.toks }:=by cases s';cases s;cases o';rfl
 rw[es'];refine⟨.ref p,_,J,rfl,q ys M p (v2.imp λv r ⟨e,he,h1,h2⟩=>?_) up (λr=>(mp.trans pc).mem_iff) hfr⟩;subst h1 h2;exact hL e he
end
end Ear
namespace Rf
open PySem PySem.Spec PyProof.Rows L2 Evl
def Rp:Dat->Option Ear.Rw
 |.tuple [.int o,.tuple ds]=>(intsOf ds).map λl=>(o,l)
 |_=>none
def yG:List Dat->Option (List Ear.Rw)
 |[]=>some []
 |d::ds=>(Rp d).bind λr=>(yG ds).bind λrs=>some (r::rs)
theorem rY:∀{ds:List Dat} {l:List Int},intsOf ds=some l->ds=l.map PyData.int
 |[],l,h=>by cases h;rfl
 |.int i::ds,l,h=>by
  rw[intsOf,af5]at h;obtain⟨r,h1,rfl⟩:=h;rw[rY h1];rfl
 |.none::_,_,h=>by cases h
 |.bool _::_,_,h=>by cases h
 |.str _::_,_,h=>by cases h
 |.list _::_,_,h=>by cases h
 |.tuple _::_,_,h=>by cases h
 |.dict _::_,_,h=>by cases h
theorem WL{d:Dat}{r:Ear.Rw}(h:Rp d=some r):d=Ear.rD r:=by
 unfold Rp at h;split at h
 .next o ds=>
  rw[af5]at h;obtain⟨l,h1,rfl⟩:=h;rw[rY h1];rfl
 .cases h
theorem vI:∀{ds:List Dat} {rs:List Ear.Rw},yG ds=some rs->ds=rs.map Ear.rD
 |[],_,h=>by cases h;rfl
 |d::ds,_,h=>by
  rw[yG]at h;obtain⟨r,h1,h⟩:=afq.mp h;obtain⟨rs,h2,h⟩:=afq.mp h;cases h;rw[WL h1,vI h2];rfl
def CG(R:List Ear.Rw):List Ear.Rw:=R.mergeSort λa b=>decide (Ear.rk a<=Ear.rk b)
def sortI(l:List Int):List Int:=l.mergeSort λa b=>decide (a<=b)
def uG(R:List Ear.Rw):List Ear.Rw:=CG R.eraseDups
def Tn(l:List Int):List Int:=sortI l.eraseDups
theorem Dt:∀(n:Nat) (l:List Int),fZ n (l.map PyData.int)=true:=λn l=>by
 induction l with
 |nil=>rfl
 |cons i l ih=>simp[fZ,okd,ih]
theorem En(n:Nat)(r:Ear.Rw):okd (n+2) (Ear.rD r)=true:=by unfold Ear.rD Ear.dT;simp[okd,fZ,Dt]
theorem VD(n:Nat)(R:List Ear.Rw):fZ (n+2) (R.map Ear.rD)=true:=by
 induction R with
 |nil=>rfl
 |cons r R ih=>simp[fZ,En,ih]
def CZ:Dat->Out Dat
 |.list ds=>match intsOf ds with
  |some l=>.ok (.list ((sortI l).map PyData.int))
  |none=>match yG ds with
   |some R=>.ok (.list ((CG R).map Ear.rD))
   |none=>.bad
 |_=>.bad
def Ln:Dat->Out Dat
 |.list ds=>match yG ds with
  |some R=>match decide (R.eraseDups.length<=76) with
   |true=>.ok (.list ((uG R).map Ear.rD))
   |false=>.bad
  |none=>.bad
 |_=>.bad
theorem Bu{β:Type}{enc:β->Dat}{le:β->β->Bool}(h:∀a b,PySem.W.dataLe false id (enc a) (enc b)=le a b)(l:List β):(l.map enc).mergeSort (PySem.W.dataLe false id)=(l.mergeSort le).map enc:=by rw[List.map_mergeSort (r:=le) (s:=PySem.W.dataLe false id) (λa _ b _=>(h a b).symm)]
theorem lZ{α:Type}[BEq α][LawfulBEq α]{l:List α}{x:α}:x∈l.eraseDups↔x∈l:=by
 induction hn:l.length using Nat.strongRecOn generalizing l with
 |_ n ih=>
  cases l with
  |nil=>simp
  |cons a r=>
   rw[List.eraseDups_cons];simp only[afA]at hn;have hl:(r.filter λb=>!b==a).length<=r.length:=agf _ _;rw[afD,ih _ (by omega) rfl,agb,afD];constructor
   .rintro(h|h)
    .exact .inl h
    .exact .inr h.1
   .rintro(h|h)
    .exact .inl h
    .by_cases e:x=a
     .exact .inl e
     .exact .inr ⟨h,by simpa using e⟩
theorem xU{α:Type}[BEq α][LawfulBEq α]{l:List α}:l.eraseDups.Nodup:=by
 induction hn:l.length using Nat.strongRecOn generalizing l with
 |_ n ih=>
  cases l with
  |nil=>simp
  |cons a r=>
   rw[List.eraseDups_cons];simp only[afA]at hn;have hl:(r.filter λb=>!b==a).length<=r.length:=agf _ _;refine agl.mpr ⟨λh=>?_,ih _ (by omega) rfl⟩;rw[lZ,agb]at h;simpa using h.2
theorem M4{R:List Ear.Rw}{r:Ear.Rw}:r∈uG R↔r∈R:=by unfold uG CG;rw[List.mem_mergeSort,lZ]
theorem Rh(R:List Ear.Rw):Ear.Jz (uG R):=by
 unfold Ear.Jz uG CG;have srt:=List.pairwise_mergeSort (le:=λa b:Ear.Rw=>decide (Ear.rk a<=Ear.rk b)) (λa b c k1 k2=>by rw[ago]at *;exact List.le_trans k1 k2) (λa b=>by rw[agc,ago,ago];exact List.le_total _ _) R.eraseDups;have nd:(R.eraseDups.mergeSort λa b=>decide (Ear.rk a<=Ear.rk b)).Nodup:=(List.mergeSort_perm _ _).nodup_iff.mpr xU;refine List.Pairwise.imp₂ (λa b h1 h2=>?_) srt nd;rw[ago]at h1;by_cases c:Ear.rk a<Ear.rk b
 .exact c
 .exact absurd (Ear.Ph (List.le_antisymm h1 (List.not_lt.mp c))) h2
section
variable{K:afr}{g:Gh}{H:Hp}
theorem wj{xs:List V}{ds:List Dat}(h:au K g H xs ds):∀{ys:List V} {es:List Dat},Ear.bU (Ear.Rb xs ds) ys es->au K g H ys es
 |[],[],_=>.nil
 |[],_::_,z=>nomatch z.1
 |_::_,[],z=>nomatch z.1
 |y::ys,e::es,z=>by
  obtain⟨i,h1,h2⟩:=z.2 0 y e rfl rfl;obtain⟨d,h3,h4⟩:=h.get' h1;rw[h2]at h3;cases h3;exact .cons h4 (wj h ⟨agk z.1,λi v x a b=>z.2 (i+1) v x a b⟩)
end
section
variable{X:Cx}{aj:aA}{W:WX}{a:Expr}{fa:QF}{p p2 pos pos2:Pos}
theorem Vh:qp aj X.K W CZ (Ear.rE X.K):=λσ g H x d Q k rx h=>by
 unfold CZ at h;split at h
 .next ds=>
  obtain⟨l,us,rfl,h1,h2⟩:=bZ rx;unfold Ear.rE;split at h
  .next ns hn=>
   have e:=rY hn;subst e;refine⟨l,us,ns.map PyData.int,rfl,h1,h2.dp (n:=12) (Dt 12 ns),PySem.W.AllAlike.of (λa b=>by simp[PySem.W.alike]),PySem.W.Sortable.others (λb=>⟨(λz=>nomatch z),λxs z=>nomatch z⟩),λd hd=>by
    obtain⟨i,_,rfl⟩:=afG.mp hd;simp[PyData.depth],λys q hy nq=>?_⟩
   have hs:=Bu (enc:=PyData.int) (le:=λa b:Int=>decide (a<=b)) (λa b=>congrFun (congrFun (PySem.W.dataLe_int (λk:Int=>k)) a) b) ns;rw[hs]at hy;exact h (.ref q) _ (Ex.new nq) (.lst (.inl ⟨.inl agu,k.fresh nq⟩) ((wj h2 hy).ex (Ex.new nq) k))
  .split at h
   .next R hR=>
    have e:=vI hR;subst e;refine⟨l,us,R.map Ear.rD,rfl,h1,h2.dp (n:=12) (VD 10 R),PySem.W.AllAlike.of Ear.Bj,PySem.W.Sortable.tuples (λb=>⟨_,_,rfl⟩),λd hd=>by
     obtain⟨i,_,rfl⟩:=afG.mp hd;rw[(Ear.Mz i).2]
     decide,λys q hy nq=>?_⟩
    .have hs:=Bu (enc:=Ear.rD) (le:=λa b:Ear.Rw=>decide (Ear.rk a<=Ear.rk b)) (λa b=>by rw[<-Ear.ug];rfl) R;rw[hs]at hy;exact h (.ref q) _ (Ex.new nq) (.lst (.inl ⟨.inl agu,k.fresh nq⟩) ((wj h2 hy).ex (Ex.new nq) k))
   .exact agn h
 .exact agn h
theorem Wk(hu:X.A.units+65<cLine)(hg:Gl X "sorted")(hm:X.mg "sorted"=none)(ha:QW aj X W a fa)(hs:nst a=true):QE aj X W (.Call (.Name "sorted" p) [a] [] pos) (bW CZ fa):=
 T7 (.inl rfl) (Ear.KY hu) Vh hg hm ⟨by decide +kernel,by decide,by decide⟩ ha hs
theorem Iv{K:afr}{g:Gh}{H:Hp}:∀{vs:List V} {l:List Int},DpAll K H vs (l.map PyData.int)->au K g H vs (l.map PyData.int)
 |_,[],.nil=>.nil
 |_,_::_,.cons (.int i) t=>.cons (.int i) (Iv t)
theorem Oa{K:afr}{g:Gh}{H:Hp}{v:V}{r:Ear.Rw}(h:Ear.j6 K H v r):Rep K g H v (Ear.rD r):=by
 unfold Ear.j6 Ear.rD at h;cases h with
 |tup h1 t1=>
  cases t1 with
  |cons a1 t1=>
   cases a1;cases t1 with
   |cons a2 t2=>
    cases t2;cases a2 with
    |tup h2 t3=>exact .tup h1 (.cons (.int _) (.cons (.tup h2 (Iv t3)) .nil))
theorem Ao{K:afr}{g:Gh}{H:Hp}:∀{vs:List V} {R:List Ear.Rw},au K g H vs (R.map Ear.rD)->Ear.bU (Ear.j6 K H) vs R
 |_,[],.nil=>⟨rfl,λi v x a b=>by simp at a⟩
 |_,r::R,.cons h t=>by
  have ih:=Ao t;refine⟨congrArg (· + 1) ih.1,λi v x a b=>?_⟩;cases i with
  |zero=>
   simp at a b;subst a b;exact h.dp (n:=12) (En 10 _)
  |succ i=>exact ih.2 i v x (by simpa using a) (by simpa using b)
theorem Bm{K:afr}{g:Gh}{H:Hp}:∀{vs:List V} {R:List Ear.Rw},Ear.bU (Ear.j6 K H) vs R->au K g H vs (R.map Ear.rD)
 |[],[],_=>.nil
 |[],_::_,h=>nomatch h.1
 |_::_,[],h=>nomatch h.1
 |v::vs,r::R,h=>.cons (Oa (h.2 0 v r rfl rfl)) (Bm ⟨agk h.1,λi v x a b=>h.2 (i+1) v x a b⟩)
theorem Vd(hu:X.A.units+65<cLine)(hc:X.calm=true)(hg:Gl X "sorted")(hm:X.mg "sorted"=none)(hg2:Gl X "set")(hm2:X.mg "set"=none)(ha:QW aj X W a fa)(hs:nst a=true):QE aj X W (.Call (.Name "sorted" p) [.Call (.Name "set" p2) [a] [] pos2] [] pos) (bW Ln fa):=by
 have h0:=pa_cons ha pa_nil (aM hs []);have h1:PE X (.Call (.Name "set" p2) [a] [] pos2) _:=pe_callTy (Ear.HJ hu hc) hg2 hm2 (by decide +kernel) h0 (by decide) (by decide) (aM hs []) (by with_unfolding_all rfl)
 have h2:=pa_cons h1 pa_nil (aM rfl []);refine PE.weak (pe_callB (p:=p) (pos:=pos) (Ear.La hu hc) hg hm (by decide +kernel) h2 (by decide) (by decide) (aM rfl []) (by with_unfolding_all rfl)) λσ H Q ⟨g,ρ,M,I,h⟩=>?_;refine tW.go I h.bnd λd v H1 h1 e1 r1=>?_;have I1:=I.ex e1;unfold Ln at h1;split at h1
 .next ds=>
  split at h1
  .next R hR=>
   split at h1
   .next hd=>
    have e:=vI hR;subst e;obtain⟨l,us,rfl,s1,s2⟩:=bZ r1;unfold Ear.rP;refine⟨l,us,R,R.eraseDups,rfl,s1,Ao s2,agp hd,λr hr=>lZ.mpr hr,λq L nq hL nd mem few=>?_⟩;have eq:Ex H1 (upd H1 q (Ear.uQ X.w q L)):=Ex.new nq;unfold Ear.vU;refine⟨q,L,rfl,agu,λe he=>?_,nd,few,λys S z hy up ms nz=>?_⟩
    .exact(Rep.ex eq I1.kd (Oa (g:=g) (hL e he))).dp (n:=12) (En 10 _)
    .have hS:S=uG R:=Ear.Mr up (Rh R) λr=>by rw[ms,mem,M4]
     subst hS;have I2:=I1.ex eq;exact h1 (.ref z) _ ((e1.trans eq).trans (Ex.new nz)) (.lst (.inl ⟨.inl agu,I2.kd.fresh nz⟩) ((Bm hy).ex (Ex.new nz) I2.kd))
   .exact agn h1
  .exact agn h1
 .exact agn h1
def U9(it:IF)(tg:bY)(vs:List Nat)(tt:QT)(te:QF):QF:=λM ρ=>(nu it tg vs tt te M ρ).bind λds=>match intsOf ds with
 |some l=>Out.when (decide (l.length<=4000)) (.ok (.list ((Tn l).map PyData.int)))
 |none=>.bad
end
def wI(ρ:Env):Bool:=ρ.all λo=>match o with
 |some (.mut _)=>false
 |_=>true
theorem Gf{ρ:Env}(h:wI ρ=true){i:Nat}{xs:List Dat}:ρ[i]?≠some (some (.mut xs)):=λz=>by
 have:=afC.mp h _ (afK z);cases this
theorem SInv.loc{K:afr}{aj:aA}{σ:L2.St}{H:Hp}{g:Gh}{ρ:Env}{M:Mo}{D:Addr}{us us':List V}(I:SInv K aj σ H g ρ M)(n:wI ρ=true)(hD:H D=some (.lst us))(lo:g.Lo D):SInv K aj σ (upd H D (.lst us')) g ρ M where
 kd:=I.kd.upd agm
 wok:=I.wok.loc I.kd hD lo
 len:=I.len
 dat:=λi d h=>by
  obtain⟨v,h1,h2⟩:=I.dat i d h;exact⟨v,h1,Ve I.kd hD lo h2⟩
 own:=λi xs h=>absurd h (Gf n)
 sep:=λi j xs ys l ne h1=>absurd h1 (Gf n)
def dH(tg:bY)(tt:QT)(it1:IF)(tg1:bY)(vs1:List Nat)(tt1:QT)(te:QF)(M:Mo)(ρ:Env):List Dat->Out (List Dat)
 |[]=>.ok []
 |d::ds=>match tg d ρ with
  |none=>.bad
  |some Z1=>(nO (tt M Z1)).bind λb=>if b=true then Out.when (wI Z1) ((nO (it1 M Z1)).bind λes=>(bG tg1 tt1 te M (aU Z1 vs1) es).bind λr1=>(dH tg tt it1 tg1 vs1 tt1 te M ρ ds).bind λr=>.ok (r1++r)) else dH tg tt it1 tg1 vs1 tt1 te M ρ ds
def Iz(it:IF)(tg:bY)(vs:List Nat)(tt:QT)(it1:IF)(tg1:bY)(vs1:List Nat)(tt1:QT)(te:QF):IF:=λM ρ=>(it M ρ).bind λds=>(dH tg tt it1 tg1 vs1 tt1 te M (aU ρ vs) ds).bind λr=>Out.when (decide (r.length<=50000)) (.ok r)
def tZ(it:IF)(tg:bY)(vs:List Nat)(tt:QT)(it1:IF)(tg1:bY)(vs1:List Nat)(tt1:QT)(te:QF):QF:=λM ρ=>(Iz it tg vs tt it1 tg1 vs1 tt1 te M ρ).bind λr=>.ok (.list r)
theorem jZ{tg tg1:bY}{tt tt1:QT}{te:QF}{it1:IF}{vs1:List Nat}{M:Mo}{ρ:Env}:∀{ds:List Dat} {x:bL},dH tg tt it1 tg1 vs1 tt1 te M ρ ds≠.exc x
 |[],_,h=>nomatch h
 |d::ds,x,h=>by
  rw[dH]at h;split at h
  .cases h
  .next Z1 e=>
   cases h1:tt M Z1 with
   |bad=>rw[h1]at h;cases h
   |exc y=>rw[h1]at h;cases h
   |ok b=>
    rw[h1]at h;cases b with
    |false=>exact jZ (ds:=ds) (x:=x) h
    |true=>
     cases hn:wI Z1 with
     |false=>rw[hn]at h;cases h
     |true=>
      rw[hn]at h;cases h2:it1 M Z1 with
      |bad=>rw[h2]at h;cases h
      |exc y=>rw[h2]at h;cases h
      |ok es=>
       rw[h2]at h;have h:((bG tg1 tt1 te M (aU Z1 vs1) es).bind λr1=>(dH tg tt it1 tg1 vs1 tt1 te M ρ ds).bind λr=>Out.ok (r1++r))=.exc x:=h;cases h3:bG tg1 tt1 te M (aU Z1 vs1) es with
       |bad=>rw[h3]at h;cases h
       |exc y=>exact absurd h3 iJ
       |ok r1=>
        rw[h3]at h;have h:((dH tg tt it1 tg1 vs1 tt1 te M ρ ds).bind λr=>Out.ok (r1++r))=.exc x:=h;cases h4:dH tg tt it1 tg1 vs1 tt1 te M ρ ds with
        |bad=>rw[h4]at h;cases h
        |exc y=>exact absurd h4 jZ
        |ok r=>rw[h4]at h;cases h
section
variable{K:afr}{aj:aA}{W:WX}
theorem V1{it it1:IF}{tg tg1:bY}{js vs js1 vs1:List Nat}{tt tt1:QT}{te:QF}(hj:∀j∈js,j∈vs)(hj1:∀j∈js1,j∈vs1)(σ:L2.St)(H:Hp)(Q:VK)(h:Pu K aj W (Iz it tg vs tt it1 tg1 vs1 tt1 te) σ H Q) :
  tLc2 (tI K aj W false it) (lO K aj js tg) (dY K aj WF tt) (tI K aj WF true it1) (lO K aj js1 tg1) (dY K aj WF tt1) (tQ K aj WF te) vs vs1 σ H Q:=by
 obtain⟨g,ρ,M,I,h⟩:=h;refine⟨g,ρ,M,I,h.bnd.mono (λds hk J C H1 e1 w c _ D nD=>?_) λ_ z=>z⟩;obtain⟨total,htot,hlen,hQ⟩:∃total,dH tg tt it1 tg1 vs1 tt1 te M (aU ρ vs) ds=.ok total/\total.length<=50000/\∀l us H',H l=none->Ex H H'->H' l=some (.lst us)->au K (g.add l) H' us total->Q (.ref l) H':=by
  cases hc:dH tg tt it1 tg1 vs1 tt1 te M (aU ρ vs) ds with
  |bad=>rw[hc]at hk;exact agn hk
  |exc x=>exact absurd hc jZ
  |ok total=>
   rw[hc]at hk;obtain⟨hz,hk⟩:=Out.sat.dI hk;exact⟨total,rfl,agp hz,hk⟩
 have I1:=(I.ex e1).wipe vs;have kD:∀{Ha:Hp} {us:List V},Ex H1 Ha->Ha D=some (.lst us)->SInv K aj (L2.wipe σ vs) Ha (g.add D) (aU ρ vs) M:=λea hu=>I1.add nD ea hu agm;have lD:(g.add D).Lo D:=.inr rfl
 let Pv:Nat->Hp->Prop:=λi Ha=>Ex H1 Ha/\i<=ds.length/\∃us ys,Ha D=some (.lst us)/\au K (g.add D) Ha us ys/\(dH tg tt it1 tg1 vs1 tt1 te M (aU ρ vs) (ds.drop i)).sat (λr=>total=ys++r) λ_=>False
 refine⟨λi m Ha=>m=ds.length-i/\Pv i Ha,⟨ds.length,rfl,Ex.new nD,afU _,[],[],agu,.nil,?_⟩,?_⟩
 .rw[af7,htot];rfl
 .rintro i m Ha ⟨rfl,ea,hi,us,ys,hu,hU,hs⟩;have Ia:=kD ea hu;have Ca:=w.add g (g.add D) H1 Ha (I.kd.ex e1) c (Gh.pJ nD ea) ea;by_cases hlt:i<ds.length
  .refine .inr ⟨w.go _ i Ha Ca hlt,Pv (i+1),λH' p=>⟨ds.length-(i+1),by omega,rfl,p⟩,λx H' y=>?_⟩;have hd:ds[i]?=some ds[i]:=afx hlt;obtain⟨e2,rx⟩:=w.yld _ i Ha x H' _ Ia.kd Ca hd y;have I2:=Ia.ex e2;rw[af2 hlt,dH]at hs;split at hs
   .exact agn hs
   .next Z1 he=>
    refine⟨g.add D,_,M,_,Z1,I2,rx,he,λws I3=>⟨lK js ws _ vs hj |>.trans (pq σ vs),?_⟩⟩;refine dY.go I3 (mW hs.bnd) λb H3 hb e3=>?_;have I4:=I3.ex e3;have hu3:=e3 _ _ (e2 _ _ hu);have hU3:=(hU.ex e2 Ia.kd).ex e3 I2.kd;cases b with
    |false=>
     have hb:(dH tg tt it1 tg1 vs1 tt1 te M (aU ρ vs) (ds.drop (i+1))).sat (λr=>total=ys++r) λ_=>False:=hb;exact⟨(ea.trans e2).trans e3,hlt,us,ys,hu3,hU3,hb⟩
    |true=>
     have hb:(Out.when (wI Z1) ((nO (it1 M Z1)).bind λes=>(bG tg1 tt1 te M (aU Z1 vs1) es).bind λr1=>(dH tg tt it1 tg1 vs1 tt1 te M (aU ρ vs) (ds.drop (i+1))).bind λr=>Out.ok (r1++r))).sat (λr=>total=ys++r) λ_=>False:=hb;obtain⟨nm,hb⟩:=hb.dI;refine⟨g.add D,Z1,M,I4,(mW (E':=gR K aj WF (g.add D) H3 _) hb.bnd).mono (λes hk1 J1 C1 H4 e4 w1 c1 fm=>?_) λ_ z=>z⟩;have fm:=fm rfl
     -- all that is added by this walk
     obtain⟨r1,r2,hr1,hr2,ht⟩:∃r1 r2,bG tg1 tt1 te M (aU Z1 vs1) es=.ok r1/\dH tg tt it1 tg1 vs1 tt1 te M (aU ρ vs) (ds.drop (i+1))=.ok r2/\total=ys++(r1++r2):=by
      cases q1:bG tg1 tt1 te M (aU Z1 vs1) es with
      |bad=>rw[q1]at hk1;exact agn hk1
      |exc y=>exact absurd q1 iJ
      |ok r1=>
       rw[q1]at hk1;have hk1:((dH tg tt it1 tg1 vs1 tt1 te M (aU ρ vs) (ds.drop (i+1))).bind λr=>Out.ok (r1++r)).sat (λr=>total=ys++r) λ_=>False:=hk1;cases q2:dH tg tt it1 tg1 vs1 tt1 te M (aU ρ vs) (ds.drop (i+1)) with
       |bad=>rw[q2]at hk1;exact agn hk1
       |exc y=>exact absurd q2 jZ
       |ok r2=>
        rw[q2]at hk1;exact⟨r1,r2,rfl,rfl,hk1⟩
     let P1:Nat->Hp->Prop:=λj Hb=>Ex H1 Hb/\SInv K aj (sets (L2.wipe σ vs) js ws) Hb (g.add D) Z1 M/\C1 (g.add D) Hb/\j<=es.length/\∃us' zs,Hb D=some (.lst us')/\au K (g.add D) Hb us' (ys++zs)/\(bG tg1 tt1 te M (aU Z1 vs1) (es.drop j)).sat (λr=>r1=zs++r) λ_=>False
     refine⟨λj m Hb=>m=es.length-j/\P1 j Hb,⟨es.length,rfl,((ea.trans e2).trans e3).trans e4,I4.ex e4,c1,afU _,us,[],e4 _ _ hu3,by rw[af0];exact hU3.ex e4 I4.kd,?_⟩,?_⟩
     .rw[af7,hr1];rfl
     .rintro j m Hb ⟨rfl,fb,Ib,Cb,hjl,us',zs,hub,hUb,hsb⟩;by_cases hlj:j<es.length
      .refine .inr ⟨w1.go _ j Hb Cb hlj,P1 (j+1),λH' p=>⟨es.length-(j+1),by omega,rfl,p⟩,λx H' y=>?_⟩;have hdj:es[j]?=some es[j]:=afx hlj;obtain⟨f2,rx⟩:=w1.yld _ j Hb x H' _ Ib.kd Cb hdj y;have J2:=(Ib.ex f2).wipe vs1;rw[af2 hlj,bG]at hsb;split at hsb
       .exact agn hsb
       .next Z2 he1=>
        refine⟨g.add D,_,M,_,Z2,J2,rx,he1,λws1 J3=>⟨lK js1 ws1 _ vs1 hj1 |>.trans (pq _ vs1),?_⟩⟩;refine dY.go J3 (mW hsb.bnd) λb H6 hb6 e6=>?_;have f26:=f2.trans e6;have hu6:=f26 _ _ hub;have hU6:=hUb.ex f26 Ib.kd;cases b with
        |false=>
         have hb6:(bG tg1 tt1 te M (aU Z1 vs1) (es.drop (j+1))).sat (λr=>r1=zs++r) λ_=>False:=hb6;exact⟨fb.trans f26,Ib.ex f26,w1.ex _ _ _ Ib.kd Cb f26,hlj,us',zs,hu6,hU6,hb6⟩
        |true=>
         have hb6:((nO (te M Z2)).bind λy=>(bG tg1 tt1 te M (aU Z1 vs1) (es.drop (j+1))).bind λr=>Out.ok (y::r)).sat (λr=>r1=zs++r) λ_=>False:=hb6;refine tQ.go (J3.ex e6) (mW hb6.bnd) λy v H7 hyv e7 ry=>?_;have f27:=f26.trans e7;have Ib7:=Ib.ex f27;have hu7:=f27 _ _ hub;have hU7:=hUb.ex f27 Ib.kd;have hyv:=hyv.bnd;have hr:∃r,bG tg1 tt1 te M (aU Z1 vs1) (es.drop (j+1))=.ok r/\r1=zs++y::r:=by
          cases q1:bG tg1 tt1 te M (aU Z1 vs1) (es.drop (j+1)) with
          |bad=>rw[q1]at hyv;exact agn hyv
          |exc y=>exact absurd q1 iJ
          |ok r=>
           rw[q1]at hyv;exact⟨r,rfl,hyv⟩
         obtain⟨r,hr,hr1'⟩:=hr;have hll:us'.length<50000:=by
          rw[hUb.length];rw[ht,hr1']at hlen;simp at hlen |-
          omega
         refine⟨us',hu7,sz_lt (Nat.lt_trans hll (by decide)),Ex.mut (fb.trans f27) nD,Ib7.loc nm hu7 lD,fm true _ _ _ _ Ib7.kd (w1.ex _ _ _ Ib.kd Cb f27) (Gr.upd Ib7.kd hu7 (.inr lD)),hlj,us'++[v],zs++[y],agu,?_,?_⟩
         .rw[<-List.append_assoc];exact DG Ib7.kd hu7 lD (hU7.append (.cons ry .nil))
         .rw[hr];show r1=_;rw[hr1'];simp
      .have e:j=es.length:=by omega
       refine .inl ⟨w1.stop _ j Hb Cb e,?_⟩;rw[e,af8]at hsb;have hsb:r1=zs++[]:=hsb;rw[af0]at hsb;subst hsb;refine⟨fb,hlt,us',ys++r1,hub,hUb,?_⟩;rw[hr2];show total=_;rw[ht,List.append_assoc]
  .have e:i=ds.length:=by omega
   refine .inl ⟨w.stop _ i Ha Ca e,?_⟩;rw[e,af8]at hs;have hs:total=ys++[]:=hs;rw[af0]at hs;subst hs;exact hQ D us Ha (j7 e1 D nD) (e1.trans ea) hu hU
theorem Py{it it1:IF}{tg tg1:bY}{js vs js1 vs1:List Nat}{tt tt1:QT}{te:QF}(hj:∀j∈js,j∈vs)(hj1:∀j∈js1,j∈vs1)(σ:L2.St)(H:Hp)(Q:VK)(h:tQ K aj W (tZ it tg vs tt it1 tg1 vs1 tt1 te) σ H Q) :
  tLc2 (tI K aj W false it) (lO K aj js tg) (dY K aj WF tt) (tI K aj WF true it1) (lO K aj js1 tg1) (dY K aj WF tt1) (tQ K aj WF te) vs vs1 σ H Q:=by
 obtain⟨g,ρ,M,I,h⟩:=h;refine V1 hj hj1 σ H Q ⟨g,ρ,M,I,h.bnd.mono (λxs hk l us H' nl e hl r=>?_) λ_ z=>z⟩;refine hk (.ref l) H' e (.lst (.inl ⟨.inl hl,λz=>?_⟩) (au.less (g:=g.add l) (g':=g) rfl (λa z=>?_) r))
 .exact I.kd.fresh nl z
 .rcases z with z|z|z
  .exact .inl z
  .exact .inr (.inl z)
  .exact .inr (.inr (.inl z))
end
section
variable{X:Cx}{aj:aA}{W:WX}{q:Bool}{elt tg iter tg1 iter1:Expr}{ifs ifs1:List Expr}{scope:Scope}{own:List (Str×Nat)}{it it1:IF}{tgf tgf1:bY}{js js1 vs1:List Nat}{tt tt1:QT}{te:QF}{pos cpos:Pos}
theorem Z0(hc:X.calm=true)(hN:X.N.Nodup)(hi:QI aj X W false tg iter it)(ok:blkC X.N X.env.scope scope own=true)(hv:∀i∈vs1,i∈own.map (·.2))(hj:∀j∈js,j∈own.map (·.2))(hj1:∀j∈js1,j∈vs1)
  (hg:∀(s:Shared) (H:Hp) (C:Addr) (cl:List (Str×Addr)) (fp:List Addr),QG aj (X.blk s H scope (compEnvC scope cl C X.env) fp) tg js tgf)
  (ht:∀(s:Shared) (H:Hp) (C:Addr) (cl:List (Str×Addr)) (fp:List Addr),PTs (X.blk s H scope (compEnvC scope cl C X.env) fp) ifs (dY X.K aj WF tt))
  (hi1:∀(s:Shared) (H:Hp) (C:Addr) (cl:List (Str×Addr)) (fp:List Addr),QI aj (X.blk s H scope (compEnvC scope cl C X.env) fp) WF true tg1 iter1 it1)
  (hg1:∀(s:Shared) (H:Hp) (C:Addr) (cl:List (Str×Addr)) (fp:List Addr),QG aj (X.blk s H scope (compEnvC scope cl C X.env) fp) tg1 js1 tgf1)
  (ht1:∀(s:Shared) (H:Hp) (C:Addr) (cl:List (Str×Addr)) (fp:List Addr),PTs (X.blk s H scope (compEnvC scope cl C X.env) fp) ifs1 (dY X.K aj WF tt1))
  (he:∀(s:Shared) (H:Hp) (C:Addr) (cl:List (Str×Addr)) (fp:List Addr),QE aj (X.blk s H scope (compEnvC scope cl C X.env) fp) WF elt te) (hs:∀x,foldedSetIterable iter X.env x=pure x) (hs1:∀env x,foldedSetIterable iter1 env x=pure x) :
  QE aj X W (.ListComp elt [⟨tg,iter,ifs,0⟩,⟨tg1,iter1,ifs1,0⟩] scope pos) (tZ it tgf (own.map (·.2)) tt it1 tgf1 vs1 tt1 te):=
 PE.weak (pe_lc2 (g:=lO X.K aj js tgf) (tt:=dY X.K aj WF tt) (wi1:=tI X.K aj WF true it1) (g1:=lO X.K aj js1 tgf1) (tt1:=dY X.K aj WF tt1) (te:=tQ X.K aj WF te) hc hN hi (blkOk_by ok) hv (λs H C cl fp=>hg s H C cl fp) ht (λs H C cl fp=>hi1 s H C cl fp) (λs H C cl fp=>hg1 s H C cl fp) ht1 (λs H C cl fp=>he s H C cl fp) hs hs1) λσ H Q h=>Py hj hj1 σ H Q h
theorem WQ{j:Nat}{y:Str}{py:Pos}(hc:X.calm=true)(hN:X.N.Nodup)(hy:X.N[j]?=some y)(hyl:X.env.scope.names.lookup y=some .local)(hsw:swapsWith (.ListComp elt [⟨tg,iter,ifs,0⟩,⟨tg1,iter1,ifs1,0⟩] scope cpos) (some (.Name y py)) pos.line X.env=pure true)
  (hi:QI aj X W false tg iter it) (ok:blkC X.N X.env.scope scope own=true) (hv:∀i∈vs1,i∈own.map (·.2)) (hj:∀j∈js,j∈own.map (·.2)) (hj1:∀j∈js1,j∈vs1)
  (hg:∀(s:Shared) (H:Hp) (C:Addr) (cl:List (Str×Addr)) (fp:List Addr),QG aj (X.blk s H scope (compEnvC scope cl C X.env) fp) tg js tgf)
  (ht:∀(s:Shared) (H:Hp) (C:Addr) (cl:List (Str×Addr)) (fp:List Addr),PTs (X.blk s H scope (compEnvC scope cl C X.env) fp) ifs (dY X.K aj WF tt))
  (hi1:∀(s:Shared) (H:Hp) (C:Addr) (cl:List (Str×Addr)) (fp:List Addr),QI aj (X.blk s H scope (compEnvC scope cl C X.env) fp) WF true tg1 iter1 it1)
  (hg1:∀(s:Shared) (H:Hp) (C:Addr) (cl:List (Str×Addr)) (fp:List Addr),QG aj (X.blk s H scope (compEnvC scope cl C X.env) fp) tg1 js1 tgf1)
  (ht1:∀(s:Shared) (H:Hp) (C:Addr) (cl:List (Str×Addr)) (fp:List Addr),PTs (X.blk s H scope (compEnvC scope cl C X.env) fp) ifs1 (dY X.K aj WF tt1))
  (he:∀(s:Shared) (H:Hp) (C:Addr) (cl:List (Str×Addr)) (fp:List Addr),QE aj (X.blk s H scope (compEnvC scope cl C X.env) fp) WF elt te) (hs:∀x,foldedSetIterable iter X.env x=pure x) (hs1:∀env x,foldedSetIterable iter1 env x=pure x) :
  SE aj X W q (.Assign [.Name y py] (.ListComp elt [⟨tg,iter,ifs,0⟩,⟨tg1,iter1,ifs1,0⟩] scope cpos) pos) (aY (aD j) (gOf (tZ it tgf (own.map (·.2)) tt it1 tgf1 vs1 tt1 te))):=by
 refine PS.weak (ps_setLc2 (g:=lO X.K aj js tgf) (tt:=dY X.K aj WF tt) (wi1:=tI X.K aj WF true it1) (g1:=lO X.K aj js1 tgf1) (tt1:=dY X.K aj WF tt1) (te:=tQ X.K aj WF te) hc hN hy hyl hsw hi (blkOk_by ok) hv (λs H C cl fp=>hg s H C cl fp) ht (λs H C cl fp=>hi1 s H C cl fp) (λs H C cl fp=>hg1 s H C cl fp) ht1 (λs H C cl fp=>he s H C cl fp) hs hs1) λD σ H ⟨g,ρ,M,I,z⟩=>?_;refine Py hj hj1 σ H _ ⟨g,ρ,M,I,(Out.cP (bA (σ:=σ) z)).mono (λd kk v H' e r=>?_) λx kk H' c dd e r=>kk H' g c dd (Gr.ex e) (I.ex e) r⟩;exact kk _ H' g (Gr.ex e) ((I.ex e).set r)
end
section
variable{prog:Program}{w:World}{A:Around}{E:Value->Shared->Prop}{s:Shared}
theorem Qe{a:Addr}{k:NestedKey}{stored:List Value}{Q:Bool->Shared->Prop}(hk:NestedIs s.heap k (.ref a))(h8:k.depth<=8)(hst:∀v∈stored,∃x t,v=Value.str x t)(h:Q false s):wpAny (model prog w) A (tableMayTell (.ref a) stored) Q E s:=by
 unfold tableMayTell;split
 .exact agr h
 .refine agq (quiet_key k _ 8 s hk h8 _ _ _ ?_);simp only[Bool.not_true,afO,if_false];refine agq ?_;refine wpAny_forIn_list _ (λrest r s'=>s'=s/\r=(none,())/\∀v∈rest,∃x t,v=Value.str x t) _ ?_ ?_ _ _ ⟨rfl,rfl,hst⟩
  .rintro x rest r s' ⟨rfl,rfl,hr⟩;obtain⟨y,t,rfl⟩:=hr x afv;refine agq (QuietAt.byValue (n:=8) rfl _ _ _ ?_);simp only[Bool.not_true,afO,if_false];exact agr ⟨rfl,rfl,λv hv=>hr v (afu _ hv)⟩
  .rintro r s' ⟨rfl,rfl,_⟩;exact agr h
theorem Lr{d a:Addr}{o:Obj}{es:Array DictEntry}{ep:Nat}{ks:List NestedKey}{Q:Option Nat->Shared->Prop}(hu:A.units+8<cLine)(hk:NestedIs s.heap (.tup ks) (.ref a))(h8:(NestedKey.tup ks).depth<=8)
  (ho:s.heap.get? d=some o) (hd:o.data=.dict es ep) (he:∀e∈es,∃x t,e.key=Value.str x t) (h:Q none s):wpAny (model prog w) A (dictFind d (.ref a) ((NestedKey.tup ks).hash w)) Q E s:=by
 have hany:¬(es.any λe=>e.key==Value.ref a&&e.hash != (NestedKey.tup ks).hash w)=true:=by rw[<-Array.any_toList,List.any_eq_true];rintro⟨e,hin,hc⟩;obtain⟨x,t,hx⟩:=he e (Array.mem_toList_iff.mp hin);rw[hx]at hc;simp at hc
 have hst:∀v∈(placesWithHash es.size (λi=>es[i]?.map (·.hash)) ((NestedKey.tup ks).hash w)).filterMap (λi=>es[i]?.map (·.key)),∃x t,v=Value.str x t:=by
  intro v hv;obtain⟨i,_,hi⟩:=List.mem_filterMap.mp hv;cases hei:es[i]? with
  |none=>rw[hei]at hi;cases hi
  |some e=>
   rw[hei]at hi
   obtain rfl:e.key=v:=by simpa using hi
   exact he e (Array.mem_of_getElem? hei)
 unfold dictFind
 try with_reducible refine wpAny_holding ?_
 refine agq (wpAny_dictEntries ho hd ?_)
 dsimp only
 rw[agt (show ¬((Value.ref a::(placesWithHash es.size (λi=>es[i]?.map (·.hash)) ((NestedKey.tup ks).hash w)).filterMap (λi=>es[i]?.map (·.key))).all carriedByValue)=true by simp[carriedByValue])];rw[agt hany];by_cases hone:(((placesWithHash es.size (λi=>es[i]?.map (·.hash)) ((NestedKey.tup ks).hash w)).filterMap (λi=>es[i]?.map (·.key)))==[Value.ref a])=true <;>
 (first | rw[ags hone] | rw[agt hone])<;>(first | refine agq (agr ?_) | refine agq (Qe hk h8 hst ?_))<;>(
  rw[agt (by simp)];refine agq ?_;refine wpAny_forIn_list _ (λ_ b s'=>s'=s/\b=(none,none)) _ ?_ ?_ _ _ ⟨rfl,rfl⟩
  .rintro x rest b s' ⟨rfl,rfl⟩;cases hex:es[x]? with
   |none=>exact agr ⟨rfl,rfl⟩
   |some e=>
    obtain⟨y,t,hy⟩:=he e (Array.mem_of_getElem? hex)
    dsimp only
    by_cases hh:(e.hash==(NestedKey.tup ks).hash w)=true
    .rw[ags hh,hy];refine agq (wpAny_dictEpoch ho hd (agq (eqAt_key (.text y) (.tup ks) _ _ _ _ (.text y t) hk (by have:(NestedKey.text y).depth=0:=rfl;omega) _ _ _ _ (agq (wpAny_dictEpoch ho hd ?_)))));rw[agt (by simp)];simp only[NestedKey.beq,afO,if_false];refine agq (wpAny_rule ?_)
     first | rw[agt (by simp)] | skip
     first
      |exact agr ⟨rfl,rfl⟩
      |exact agq (agr (agr ⟨rfl,rfl⟩))
    .rw[agt hh];exact agr ⟨rfl,rfl⟩
  .rintro b s' ⟨rfl,rfl⟩;exact agr h)
theorem O8{d a:Addr}{o:Obj}{es:Array DictEntry}{ep:Nat}{ks:List NestedKey}{Q:Option Value->Shared->Prop}(hu:A.units+8<cLine)(hk:NestedIs s.heap (.tup ks) (.ref a))(h8:(NestedKey.tup ks).depth<=8)
  (ho:s.heap.get? d=some o) (hd:o.data=.dict es ep) (he:∀e∈es,∃x t,e.key=Value.str x t) (h:Q none { s with toks:=s.toks+(NestedKey.tup ks).draws }):wpAny (model prog w) A (dictGet d (.ref a)) Q E s:=by
 unfold dictGet
 try with_reducible refine wpAny_holding ?_
 refine agq (pyHash_key _ _ _ _ _ hk (by omega) (agq (Lr (s:={ s with toks:=s.toks+(NestedKey.tup ks).draws }) hu hk h8 ho hd he ?_)));exact agr h
theorem pU{d a:Addr}{o:Obj}{es:Array DictEntry}{ep:Nat}{ks:List NestedKey}{Q:Bool->Shared->Prop}(hu:A.in1.units+8<cLine)(hk:NestedIs s.heap (.tup ks) (.ref a))(h8:(NestedKey.tup ks).depth<=8)(hs:(d==sysModules)=false)
  (ho:s.heap.get? d=some o) (hc:o.cls=.type "dict") (hd:o.data=.dict es ep) (he:∀e∈es,∃x t,e.key=Value.str x t) (h:Q false { s with toks:=s.toks+(NestedKey.tup ks).draws }):wpAny (model prog w) A (contains (.ref d) (.ref a)) Q E s:=by
 have hT:s.TypeIs (.ref d) "dict":=⟨o,ho,hc⟩
 unfold contains
 try with_reducible refine wpAny_holding ?_
 refine agq (wpAny_specialOf hT PySem.F.slot_dict_contains.lookup ?_);show wpAny _ _ (if (some (Value.builtin "dict.__contains__")==some Value.none)=true then _ else _) _ E s
 rw[agt (by rw[beq_builtin_none];exact Bool.false_ne_true)];refine agq (wpAny_callSpecialUnlessNone?_slot (name:=Str.ofString "__contains__") hT PySem.F.slot_dict_contains
  (wpAny_call_entry PySem.F.slot_dict_contains hT PySem.F.entry_dict_contains ?_ (args_dict_contains _ _)))
 show wpAny _ _ (dictGet d (.ref a) >>= _) _ _ s;refine agq (O8 hu hk h8 ho hd he ?_);show wpAny _ _ (Builtin.Dict.pendingKey? d (.ref a) >>= _) _ _ _;exact agq (wpAny_pendingKey_other hs (agr ⟨_,rfl,wpAny_truthy_bool h⟩))
end
def TV(X:Cx)(d:Addr)(neg:Bool):R2:=λx y H Q=>y=.ref d/\((∃(z:Str) (r:Option Value),x=.str z/\PySem.W.nsIn X.K d z=some r/\Q (.bl (neg ^^ r.isSome)) H)\/(∃i,x=.int i/\Q (.bl neg) H)\/
 ∃(g:Gh) (dd:Dat) (b:Addr) (ks:List NestedKey),x=.ref b/\Rep X.K g H x dd/\jC dd=some (.tup ks)/\(NestedKey.tup ks).depth<=8/\Q (.bl neg) H)
section
variable{X:Cx}{d:Addr}{es:Array DictEntry}{n:Nat}
theorem PB{pins:List (Addr×Obj)}{σ:L2.St}{H:Hp}{s:Shared}(D:KDict X.K X.w d es n)(I:L2.Inv X pins σ H s):s.heap.MapOf (mixKind X.prog X.w) d (λk=>findBy keyIs es k):=
 ⟨_,es,n,I.kIn _ _ D.at_,⟨rfl,rfl,rfl⟩,rfl,λe he=>by
  obtain⟨x,t,e1,e2⟩:=D.lit.all e (Array.mem_toList_iff.mpr he);exact⟨.inr x,by rw[e1];exact keyIs_str x t,e2⟩,λ_=>rfl⟩
theorem DK(D:KDict X.K X.w d es n)(i:Int):findBy keyIs es (.inl i)=none:=by unfold findBy;rw[Option.map_eq_none_iff,Array.find?_eq_none];intro e he;obtain⟨x,t,e1,_⟩:=D.lit.all e (Array.mem_toList_iff.mpr he);rw[e1];exact λz=>by cases z
theorem IK(D:KDict X.K X.w d es n):∀e∈es,∃x t,e.key=Value.str x t:=λe he=>by
 obtain⟨x,t,e1,_⟩:=D.lit.all e (Array.mem_toList_iff.mpr he);exact⟨x,t,e1⟩
theorem WK(hu:X.A.units+64<cLine)(D:KDict X.K X.w d es n):OpR X (compareOp .In) (TV X d false):=by
 intro pins s σ H x y v u Q I rx ry h;obtain⟨rfl,h⟩:=h;rcases h with⟨z,r,rfl,e,q⟩|⟨i,rfl,q⟩|⟨g,dd,b,ks,rfl,hr,hk,h8,q⟩
 .exact op_in_kd D pins s σ H _ _ v u Q I rx ry ⟨z,r,rfl,rfl,e,by simpa using q⟩
 .obtain⟨t,rfl⟩:=rx;cases ry;refine wpAny_in_of (knd:=mixKind X.prog X.w) (k:=.inl i) (keyIs_int i t) D.low (PB D I) ?_;rw[DK D];exact⟨.bl false,H,I.tok _,rfl,q⟩
 .obtain rfl:v=Value.ref b:=rx
  cases ry;show wpAny _ _ (do return Value.bool (<-contains (.ref d) (.ref b))) _ _ s;exact agq (pU (show X.A.units+1+8<cLine by omega) (key_is I hr hk rfl) h8 D.low (I.kIn _ _ D.at_) rfl rfl (IK D) (agr ⟨.bl false,H,I.tok _,rfl,q⟩))
theorem J8(hu:X.A.units+64<cLine)(D:KDict X.K X.w d es n):OpR X (compareOp .NotIn) (TV X d true):=by
 intro pins s σ H x y v u Q I rx ry h;obtain⟨rfl,h⟩:=h;rcases h with⟨z,r,rfl,e,q⟩|⟨i,rfl,q⟩|⟨g,dd,b,ks,rfl,hr,hk,h8,q⟩
 .exact op_notIn_kd D pins s σ H _ _ v u Q I rx ry ⟨z,r,rfl,rfl,e,by simpa using q⟩
 .obtain⟨t,rfl⟩:=rx;cases ry;refine wpAny_notIn_of (knd:=mixKind X.prog X.w) (k:=.inl i) (keyIs_int i t) D.low (PB D I) ?_;rw[DK D];exact⟨.bl true,H,I.tok _,rfl,q⟩
 .obtain rfl:v=Value.ref b:=rx
  cases ry;show wpAny _ _ (do return Value.bool (!(<-contains (.ref d) (.ref b)))) _ _ s;exact agq (pU (show X.A.units+1+8<cLine by omega) (key_is I hr hk rfl) h8 D.low (I.kIn _ _ D.at_) rfl rfl (IK D) (agr ⟨.bl true,H,I.tok _,rfl,q⟩))
end
def wC(neg:Bool)(kvs:List (Str×Dat))(k:QF):QF:=λM ρ=>(k M ρ).bind λd=>match d with
 |.str x=>.ok (.bool (neg ^^ (kvs.lookup x).isSome))
 |.int _=>.ok (.bool neg)
 |.tuple ds=>(match jG ds with
  |some ks=>Out.when (decide ((NestedKey.tup ks).depth<=8)) (.ok (.bool neg))
  |none=>.bad)
 |_=>.bad
def zR(kvs:List (Str×Dat))(k:QF):QF:=λM ρ=>(k M ρ).bind λd=>match d with
 |.str x=>match kvs.lookup x with
  |some y=>.ok y
  |none=>.bad
 |_=>.bad
section
variable{X:Cx}{aj:aA}{W:WX}{a:Expr}{fa:QF}{x:Str}{p pos:Pos}{kvs:List (Str×Dat)}{k:Nat}
theorem PL{neg:Bool}{d:Addr}(D:Lp X.w X.K d kvs)(σ:L2.St)(H:Hp)(Q:VK)(h:tQ X.K aj W (wC neg kvs fa) σ H Q):tOp (TV X d neg) (tW X.K aj W fa) (tC (.ref d)) σ H Q:=by
 obtain⟨g,ρ,M,I,h⟩:=h;refine tW.go I h.bnd λe v H1 h1 e1 r1=>?_;split at h1
 .next z=>
  cases bR r1;obtain⟨es,n,_,_,hl⟩:=D;have hz:=hl z;cases hk:kvs.lookup z with
  |none=>
   rw[hk]at hz h1;exact⟨rfl,.inl ⟨z,none,rfl,hz,h1 _ H1 e1 (.bl _)⟩⟩
  |some d'=>
   rw[hk]at hz h1;obtain⟨v,u,h2,_⟩:=hz;exact⟨rfl,.inl ⟨z,some u,rfl,h2,h1 _ H1 e1 (.bl _)⟩⟩
 .exact⟨rfl,.inr (.inl ⟨_,aP r1,h1 _ H1 e1 (.bl _)⟩)⟩
 .next ds=>
  split at h1
  .next ks hk=>
   obtain⟨h8,h1⟩:=h1.dI;obtain⟨p,us,rfl,q1,q2⟩:=dG r1;exact⟨rfl,.inr (.inr ⟨g,.tuple ds,p,ks,rfl,.tup q1 q2,by rw[jC,hk];rfl,agp h8,h1 _ H1 e1 (.bl _)⟩)⟩
  .exact agn h1
 .exact agn h1
theorem opG{neg:Bool}{op:CmpOp}{d:Addr}(hr:Room k X.A)(hn:(op=.In/\neg=false)\/(op=.NotIn/\neg=true))(D:Lp X.w X.K d kvs):OpR X (compareOp op) (TV X d neg):=by
 obtain⟨es,n,D,_⟩:=D;have hu:X.A.units+64<cLine:=by have:=hr.un;omega
 rcases hn with⟨rfl,rfl⟩|⟨rfl,rfl⟩
 .exact WK hu D
 .exact J8 hu D
theorem Ym{neg:Bool}{op:CmpOp}(hr:Room k X.A)(hn:(op=.In/\neg=false)\/(op=.NotIn/\neg=true))(g:aQ X.prog X.w X.K X.mg X.base aj k x (.dic kvs))(hg:Gl X x)(hd:(x==("__debug__" : Str))=false)(ha:QW aj X W a fa):QE aj X W (.Compare a [op] [.Name x p] pos) (wC neg kvs fa)/\iT aj X W (.Compare a [op] [.Name x p] pos) (aZ (wC neg kvs fa)):=by obtain⟨d,hm,D⟩:=g;have hb:PE X (.Name x p) (tC (.ref d)):=pe_glob hg hm rfl hd;refine⟨PE.weak (pe_cmpR (opG hr hn D) ha hb (by cases op<;>rfl)) λσ H Q h=>PL D σ H Q h,PT.weak (pt_cmpR (opG hr hn D) ha hb (by cases op<;>rfl)) λσ H Q ⟨g,ρ,M,I,h⟩=>?_⟩;refine PL D σ H _ ⟨g,ρ,M,I,h.bnd.mono (λd h1 v H' e' r'=>?_) λ_ z=>z⟩;obtain⟨k,h2,h3⟩:=oW r'.weak h1;exact⟨k,h2,h3 H' e'⟩
theorem Zv(g:aQ X.prog X.w X.K X.mg X.base aj k x (.dic kvs))(hg:Gl X x)(hd:(x==("__debug__" : Str))=false)(ha:QW aj X W a fa)(hp:PlainIx a):QE aj X W (.Subscript (.Name x p) a pos) (zR kvs fa):=by
 obtain⟨d,hm,es,n,D,_,hl⟩:=g;have hb:PE X (.Name x p) (tC (.ref d)):=pe_glob hg hm rfl hd;refine PE.weak (pe_ix ix_kdict hb ha hp) λσ H Q ⟨g,ρ,M,I,h⟩=>?_;refine tW.go I h.bnd λe v H1 h1 e1 r1=>?_;split at h1
 .next z=>
  cases bR r1;have hz:=hl z;split at h1
  .next y hk=>
   rw[hk]at hz;obtain⟨v,u,h2,h3,h4⟩:=hz;exact⟨d,z,v,rfl,rfl,⟨es,n,u,D.at_,D.lit,h2,h3⟩,h1 v H1 e1 (h4 g H1)⟩
  .exact agn h1
 .exact agn h1
end
structure Hs where
 Ms:List (Str×List (Str×MV))
 ft:Ft
 xm:List (Str×List (Str×Bool))
 df:List (Str×Bool)
 xf:List (Str×List Str)
structure sU(P:Program)(w:World)(K:afr)(mg:Str->Option Value)(base:Heap)(aj:aA)(k:Nat)(h:Hs):Prop where
 ms:∀m tb,h.Ms.lookup m=some tb->∀c v,tb.lookup c=some v->FJ P w K mg base aj k c m v
 fk:tX h.ft aj
 co:cV K aj
 hw:aj.w=w
 xm:∀y tab,h.xm.lookup y=some tab->(∃D,aj y=some D)/\Ku K aj y λx=>tab.lookup x
 xf:∀y fs,h.xf.lookup y=some fs->∃C,aj y=some C/\XfC K C/\∀f∈fs,PySem.W.findIn K (.ref C) f=some none
structure Tc where
 N:List Str
 sc:Scope
 G:List (Str×GV)
 B:List Str
 hs:Hs
 ml:List Str
 top:Bool
def ach(c:Tc):Prop:=(∀x v,c.G.lookup x=some v->v.soft=false)/\c.hs=⟨[],[],[],[],[]⟩
structure Amb(aj:aA)(c:Tc)(X:Cx)(W:WX)(k:Nat):Prop where
 hN:X.N=c.N
 hs:X.env.scope=c.sc
 calm:X.calm=true
 nd:X.N.Nodup
 tk:Takes X W\/(L2N.Takes X W/\ach c)
 rm:Room k X.A
 gl:∀x v,c.G.lookup x=some v->aQ X.prog X.w X.K X.mg X.base aj k x v
 bl:∀x,x∈c.B->X.mg x=none
 fn:c.top=true->∀x,X.fn x=true
 hk:sU X.prog X.w X.K X.mg X.base aj k c.hs
theorem Amb.tw{aj:aA}{c:Tc}{X:Cx}{W:WX}{k:Nat}(a:Amb aj c X W k){x:Str}{v:GV}(h:c.G.lookup x=some v)(hv:v.soft=true):Takes X W:=
 a.tk.elim id λz=>by
  rw[z.2.1 x v h]at hv;cases hv
theorem Amb.tm{aj:aA}{c:Tc}{X:Cx}{W:WX}{k:Nat}(a:Amb aj c X W k){m:Str}{tb:List (Str×MV)}(h:c.hs.Ms.lookup m=some tb):Takes X W:=
 a.tk.elim id λz=>by
  rw[z.2.2]at h;cases h
def gd{α:Type}(b:Bool)(o:Option α):Option α:=match b with
 |true=>o
 |false=>none
theorem aC{α:Type}{b:Bool}{o:Option α}{x:α}:gd b o=some x↔b=true/\o=some x:=by
 cases b
 .exact⟨λh=>(nomatch h),λh=>(nomatch h.1)⟩
 .exact⟨λh=>⟨rfl,h⟩,λh=>h.2⟩
def idx:List Str->Str->Option Nat
 |[],_=>none
 |y::ys,x=>match y==x with
  |true=>some 0
  |false=>(idx ys x).map (· + 1)
theorem zW:∀{N:List Str} {x:Str} {i:Nat},idx N x=some i->N[i]?=some x
 |[],_,_,h=>nomatch h
 |y::ys,x,i,h=>by
  rw[idx]at h;split at h
  .next e=>
   cases h;rw[List.getElem?_cons_zero,agv e]
  .rw[af5]at h;obtain⟨j,h1,rfl⟩:=h;rw[List.getElem?_cons_succ];exact zW h1
def RG(sc:Scope)(x:Str):Bool:=match sc.names.lookup x with
 |some .local=>true
 |some .cell=>true
 |some .free=>true
 |_=>false
theorem Wf{sc:Scope}{x:Str}(h:RG sc x=true):Vis sc x:=by
 unfold RG at h;unfold Vis;split at h
 .next e=>exact .inl e
 .next e=>exact .inr (.inl e)
 .next e=>exact .inr (.inr e)
 .cases h
def kh(x:Str):Bool:=(x==("__debug__" : Str)) || (x==("__classdict__" : Str))
theorem dU{x:Str}(h:kh x=false):(x==("__debug__" : Str))=false/\(x==("__classdict__" : Str))=false:=by unfold kh at h;rw[Bool.or_eq_false_iff]at h;exact h
def kE(sc:Scope)(x:Str):Bool:=match sc.names.lookup x with
 |some .globalImplicit=>true
 |_=>false
def nR(c:Tc)(x:Str):Option Nat:=gd (RG c.sc x&&!kh x) (idx c.N x)
def Zr(c:Tc)(x:Str):Bool:=match c.sc.names.lookup x with
 |some .local=>true
 |some .cell=>c.top
 |_=>false
def jH(c:Tc)(x:Str):Option Nat:=gd (Zr c x) (idx c.N x)
section
variable{aj:aA}{c:Tc}{X:Cx}{W:WX}{k:Nat}{x:Str}{i:Nat}
theorem dR(a:Amb aj c X W k)(h:kE c.sc x=true):Gl X x:=by
 unfold kE at h;unfold Gl PySem.Env.kindOf;rw[a.hs];split at h
 .assumption
 .cases h
theorem jc(a:Amb aj c X W k)(h:nR c x=some i):X.N[i]?=some x/\Vis X.env.scope x/\(x==("__debug__" : Str))=false/\(x==("__classdict__" : Str))=false:=by obtain⟨h1,h2⟩:=aC.mp h;rw[afs]at h1;obtain⟨d1,d2⟩:=dU (by simpa using h1.2);exact⟨by rw[a.hN];exact zW h2,by rw[a.hs];exact Wf h1.1,d1,d2⟩
theorem fB(a:Amb aj c X W k)(h:jH c x=some i):X.N[i]?=some x/\L2.Loc X.env.scope x/\(X.fn x=true\/X.env.scope.names.lookup x=some .local):=by
 obtain⟨h1,h2⟩:=aC.mp h;unfold Zr at h1;refine⟨by rw[a.hN];exact zW h2,?_⟩;rw[a.hs];unfold L2.Loc;split at h1
 .next e=>exact⟨.inl e,.inr e⟩
 .next e=>exact⟨.inr e,.inl (a.fn h1 x)⟩
 .cases h1
def iZ(c:Tc)(x y:Str):Bool:=(x==y)&&(kE c.sc x&&c.B.contains x)
theorem fu{y:Str}(a:Amb aj c X W k)(h:iZ c x y=true):x=y/\Gl X x/\X.mg x=none:=by unfold iZ at h;rw[afs,afs]at h;exact⟨agv h.1,dR a h.2.1,a.bl x (by simpa using h.2.2)⟩
end
def kY:Expr->Bool
 |.Set _ _ _=>true
 |_=>false
theorem nY{b:Expr}{op:CmpOp}(h:kY b=false):behindInMarks op b=false:=by cases b<;>first | rfl | cases h
theorem z9{b c:Expr}{op op':CmpOp}(h:kY c=false):lastMarks [op,op'] [b,c]=false:=nY h
theorem iI{e:Expr}{env:PySem.Env}(h:kY e=false):∀x,foldedSetIterable e env x=pure x:=λx=>by
 cases e<;>first | rfl | cases h
def v9:Expr->Bool
 |.Slice _ _ _ _=>true
 |_=>false
def Xf:Operator->Option (Dat->Dat->Out Dat)
 |.Add=>some aO
 |.Sub=>some j9
 |.Mult=>some vH
 |.FloorDiv=>some pD
 |.Mod=>some dJ
 |.Pow=>some vX
 |_=>none
def vP:CmpOp->Option (Dat->Dat->Out Dat)
 |.Eq=>some bV
 |.NotEq=>some pZ
 |.Lt=>some Jx
 |.LtE=>some j8
 |.Gt=>some yE
 |.GtE=>some Oi
 |.In=>some (inD false)
 |.NotIn=>some (inD true)
 |_=>none
theorem U8{op:Operator}{o:Dat->Dat->Out Dat}(h:Xf op=some o)(X:Cx)(aj:aA)(W:WX):∃r,OpR X (binaryOp op) r/\gK aj X.K W o r:=by
 cases op<;>cases h
 .exact⟨_,Ut,Z9⟩
 .exact⟨_,op_sub,ZJ⟩
 .exact⟨_,op_mul,Xo⟩
 .exact⟨_,op_mod,Y9⟩
 .exact⟨_,op_pow,ZP⟩
 .exact⟨_,op_fdiv,Xr⟩
theorem mY{op:CmpOp}{o:Dat->Dat->Out Dat}(h:vP op=some o){X:Cx}{k:Nat}(hr:Room k X.A)(aj:aA)(W:WX):∃r,OpR X (compareOp op) r/\gK aj X.K W o r:=by
 have h65:X.A.units+65<cLine:=by have:=hr.un;omega
 cases op<;>cases h
 .exact⟨_,ZG hr.units,aaK⟩
 .exact⟨_,YF hr.units,aaV⟩
 .exact⟨_,WT h65,aby⟩
 .exact⟨_,op_le,aaC⟩
 .exact⟨_,op_gt,abf⟩
 .exact⟨_,op_ge,aa9⟩
 .exact⟨_,ZV h65,T9⟩
 .exact⟨_,Ml h65,T9⟩
def yP:Expr->Option Dat
 |.Constant .none _ _=>some .none
 |.Constant (.bool b) _ _=>some (.bool b)
 |_=>none
theorem Je{e:Expr}{d:Dat}{X:Cx}(h:yP e=some d):∃v,T8 d=some v/\(v=.non\/∃b,v=.bl b)/\PE X e (tC v):=by
 unfold yP at h;split at h
 .cases h;exact⟨_,rfl,.inl rfl,pe_non⟩
 .cases h;exact⟨_,rfl,.inr ⟨_,rfl⟩,pe_bl⟩
 .cases h
def WW:CmpOp->Option Bool
 |.Is=>some false
 |.IsNot=>some true
 |_=>none
theorem Mg{op:CmpOp}{neg:Bool}{v:V}{X:Cx}(h:WW op=some neg)(hv:v=.non\/∃b,v=.bl b):OpR X (compareOp op) (Gv neg v):=by
 cases op<;>cases h
 .exact Yu hv
 .exact Oh hv
def Xk(x:Str):Option (Dat->Out Dat):=
 if x=="len" then some dh else if x=="abs" then some yV else if x=="sum" then some Ri else if x=="max" then some maxD else if x=="all" then some vD else if x=="any" then some FT
 else if x=="tuple" then some jd else if x=="list" then some wM else if x=="int" then some intD else
 if x=="str" then some qX else
 none
def Nf(x:Str):Option (Dat->Dat->Out Dat):=if x=="max" then some uY else if x=="min" then some Cr else none
theorem Yd{x:Str}{o:Dat->Out Dat}{X:Cx}(hc:X.calm=true)(h:Xk x=some o)(aj:aA)(W:WX):∃(f:Value) (id:String) (r:List V->Hp->VK->Prop),(f=.builtin id\/f=.type id)/\CallR X f r/\qp aj X.K W o r/\BV f x:=by
 unfold Xk at h;split at h
 .next e=>cases h;cases agv e;exact⟨_,_,_,.inl rfl,YT,Xw,by decide +kernel,by decide,by decide⟩
 split at h
 .next e=>cases h;cases agv e;exact⟨_,_,_,.inl rfl,call_abs,aaq,by decide +kernel,by decide,by decide⟩
 split at h
 .next e=>cases h;cases agv e;exact⟨_,_,_,.inl rfl,cr_sum hc,Yr,by decide +kernel,by decide,by decide⟩
 split at h
 .next e=>cases h;cases agv e;exact⟨_,_,_,.inl rfl,cr_max hc,YW,by decide +kernel,by decide,by decide⟩
 split at h
 .next e=>cases h;cases agv e;exact⟨_,_,_,.inl rfl,cr_all hc,Xu,by decide +kernel,by decide,by decide⟩
 split at h
 .next e=>cases h;cases agv e;exact⟨_,_,_,.inl rfl,cr_any hc,YQ,by decide +kernel,by decide,by decide⟩
 split at h
 .next e=>cases h;cases agv e;exact⟨_,_,_,.inr rfl,call_tuple_of,Rv,by decide +kernel,by decide,by decide⟩
 split at h
 .next e=>cases h;cases agv e;exact⟨_,_,_,.inr rfl,call_list_of,Vu,by decide +kernel,by decide,by decide⟩
 split at h
 .next e=>cases h;cases agv e;exact⟨_,_,_,.inr rfl,ZQ,Y5,by decide +kernel,by decide,by decide⟩
 split at h
 .next e=>cases h;cases agv e;exact⟨_,_,_,.inr rfl,call_str_int,Ys,by decide +kernel,by decide,by decide⟩
 .cases h
theorem Xv{x:Str}{o:Dat->Dat->Out Dat}{X:Cx}(hc:X.calm=true)(h:Nf x=some o)(aj:aA)(W:WX):∃(f:Value) (id:String) (r:List V->Hp->VK->Prop),(f=.builtin id\/f=.type id)/\CallR X f r/\Uh aj X.K W o r/\BV f x:=by
 unfold Nf at h;split at h
 .next e=>cases h;cases agv e;exact⟨_,_,_,.inl rfl,call_max2 hc,Vv,by decide +kernel,by decide,by decide⟩
 split at h
 .next e=>cases h;cases agv e;exact⟨_,_,_,.inl rfl,call_min2 hc,VP,by decide +kernel,by decide,by decide⟩
 .cases h
def W4(x:Str):Option uo:=if x=="int" then some .int else if x=="bool" then some .bool else if x=="str" then some .str else if x=="tuple" then some .tuple else if x=="list" then some .list else none
theorem Zq{x:Str}{t:uo}(h:W4 x=some t):BV (.type t.name) x:=by
 unfold W4 at h;split at h
 .next e=>cases h;cases agv e;exact⟨by decide +kernel,by decide,by decide⟩
 split at h
 .next e=>cases h;cases agv e;exact⟨by decide +kernel,by decide,by decide⟩
 split at h
 .next e=>cases h;cases agv e;exact⟨by decide +kernel,by decide,by decide⟩
 split at h
 .next e=>cases h;cases agv e;exact⟨by decide +kernel,by decide,by decide⟩
 split at h
 .next e=>cases h;cases agv e;exact⟨by decide +kernel,by decide,by decide⟩
 .cases h
structure Tr where
 E:Tc->Expr->Option QF
 W:Tc->Expr->Option QF
 T:Tc->Expr->Option QT
 I:Tc->Bool->Expr->Expr->Option IF
structure Tr.Ok(t:Tr):Prop where
 oe:∀{aj:aA} {c:Tc} {X:Cx} {W:WX} {k:Nat},Amb aj c X W k->∀{e:Expr} {f:QF},t.E c e=some f->QE aj X W e f
 ow:∀{aj:aA} {c:Tc} {X:Cx} {W:WX} {k:Nat},Amb aj c X W k->∀{e:Expr} {f:QF},t.W c e=some f->QW aj X W e f
 ot:∀{aj:aA} {c:Tc} {X:Cx} {W:WX} {k:Nat},Amb aj c X W k->∀{e:Expr} {f:QT},t.T c e=some f->iT aj X W e f
 oi:∀{aj:aA} {c:Tc} {X:Cx} {W:WX} {k:Nat},Amb aj c X W k->∀{firm:Bool} {tg e:Expr} {f:IF},t.I c firm tg e=some f->QI aj X W firm tg e f
def pK(t:Tr)(c:Tc):List Expr->Option QA
 |[]=>some aG
 |a::es=>gd (nst a) ((t.E c a).bind λfa=>(pK t c es).bind λfr=>some (ao fa fr))
section
variable{aj:aA}{c:Tc}{X:Cx}{W:WX}{k:Nat}{t:Tr}
theorem iU(o:t.Ok)(a:Amb aj c X W k):∀{es:List Expr} {f:QA},pK t c es=some f->pN aj X W es f/\es.all nst=true/\∀M ρ ds,f M ρ=.ok ds->ds.length=es.length
 |[],f,h=>by
  cases h;exact⟨LK,rfl,λM ρ ds e=>by cases e;rfl⟩
 |e::es,f,h=>by
  rw[pK,aC]at h;obtain⟨hs,h⟩:=h;obtain⟨fa,h1,h⟩:=afq.mp h;obtain⟨fr,h2,h⟩:=afq.mp h;cases h;obtain⟨i1,i2,i3⟩:=iU o a h2;refine⟨Jl (o.oe a h1) i1 (aM hs es),by simp[hs,i2],λM ρ ds e=>?_⟩;unfold ao at e;cases hf:fa M ρ with
  |ok d=>
   rw[hf]at e;cases hr:fr M ρ with
   |ok dr=>
    rw[hr]at e;cases e;simp[i3 M ρ dr hr]
   |exc y=>rw[hr]at e;cases e
   |bad=>rw[hr]at e;cases e
  |exc y=>rw[hf]at e;cases e
  |bad=>rw[hf]at e;cases e
end
def Yl(t:Tr)(c:Tc):Option Expr->Option QO
 |none=>some bB
 |some a=>(t.W c a).bind λfa=>some (bD fa)
theorem Mp{aj:aA}{c:Tc}{X:Cx}{W:WX}{k:Nat}{t:Tr}(o:t.Ok)(a:Amb aj c X W k){e:Option Expr}{f:QO}(h:Yl t c e=some f):O7 aj X W e f:=by
 cases e with
 |none=>cases h;exact Vj
 |some e=>
  obtain⟨fa,h1,h⟩:=afq.mp h;cases h;exact Wm (o.ow a h1)
def Fv(c:Tc):List Expr->Option (List Nat)
 |[]=>some []
 |.Name x _::es=>(jH c x).bind λi=>(Fv c es).bind λjs=>some (i::js)
 |_::_=>none
def Ah(c:Tc):Expr->Option (List Nat×bY)
 |.Name x _=>(jH c x).bind λi=>some ([i],aD i)
 |.Tuple es _ _=>(Fv c es).bind λjs=>some (js,cC js)
 |_=>none
theorem yR{aj:aA}{c:Tc}{X:Cx}{W:WX}{k:Nat}(a:Amb aj c X W k):∀{es:List Expr} {js:List Nat},Fv c es=some js->yw X es js
 |[],js,h=>by cases h;trivial
 |.Name x p::es,js,h=>by
  rw[Fv]at h;obtain⟨i,h1,h⟩:=afq.mp h;obtain⟨r,h2,h⟩:=afq.mp h;cases h;obtain⟨s1,s2,s3⟩:=fB a h1;exact⟨s1,s2,s3,yR a h2⟩
theorem jF{aj:aA}{c:Tc}{X:Cx}{W:WX}{k:Nat}(a:Amb aj c X W k){e:Expr}{js:List Nat}{f:bY}(h:Ah c e=some (js,f)):QG aj X e js f:=by
 unfold Ah at h;split at h
 .obtain⟨i,h1,h⟩:=afq.mp h;cases h;obtain⟨s1,s2,s3⟩:=fB a h1;exact yK a.nd s1 s2 s3
 .obtain⟨js',h1,h⟩:=afq.mp h;cases h;exact Mq a.calm a.nd (yR a h1)
 .cases h
def Tc.inn(c:Tc)(scope:Scope):Tc:={ c with sc:=relS scope c.sc,top:=false }
theorem Amb.inn{aj:aA}{c:Tc}{X:Cx}{W:WX}{k:Nat}(a:Amb aj c X W k)(scope:Scope)(s:Shared)(H:Hp)(C:Addr)(cl:List (Str×Addr))(fp:List Addr):Amb aj (c.inn scope) (X.blk s H scope (compEnvC scope cl C X.env) fp) WF k where
 hN:=a.hN
 hs:=by show relS scope X.env.scope=relS scope c.sc;rw[a.hs]
 calm:=a.calm
 nd:=a.nd
 tk:=.inl ZR
 rm:=a.rm
 gl:=a.gl
 bl:=a.bl
 fn:=λz=>nomatch z
 hk:=a.hk
def YD:List Expr->List Nat->List (Str×Nat)
 |.Name x _::es,j::js=>(x,j)::YD es js
 |_,_=>[]
def gH:Expr->List Nat->List (Str×Nat)
 |.Name x _,[j]=>[(x,j)]
 |.Tuple es _ _,js=>YD es js
 |_,_=>[]
def wg(js vs:List Nat):Bool:=js.all λj=>vs.contains j
theorem gG{js vs:List Nat}(h:wg js vs=true):∀j∈js,j∈vs:=λj hj=>by
 have:=afC.mp h j hj;simpa using this
def zM(t:Tr)(c:Tc):List Expr->Option QT
 |[]=>some jK
 |[a]=>t.T c a
 |_=>none
theorem PTs.weak{X:Cx}{e:List Expr}{t t':TT}(h:PTs X e t)(k:∀σ H Q,t' σ H Q->t σ H Q):PTs X e t':=⟨λpins s σ H Q I q=>h.run pins s σ H Q I (k σ H Q q)⟩
theorem jM{aj:aA}{c:Tc}{X:Cx}{W:WX}{k:Nat}{t:Tr}(o:t.Ok)(a:Amb aj c X W k){ifs:List Expr}{f:QT}(h:zM t c ifs=some f):PTs X ifs (dY X.K aj W f):=by
 unfold zM at h;split at h
 .cases h;exact PTs.weak pts_nil λσ H Q ⟨g,ρ,M,I,z⟩=>z H (Ex.refl H)
 .exact pts_one (o.ot a h)
 .cases h
def FZ(t:Tr)(c:Tc)(elt tg iter:Expr)(ifs:List Expr)(scope:Scope):Option QF:=
 (t.I c false tg iter).bind λit=>(Ah (c.inn scope) tg).bind λjt=>(zM t (c.inn scope) ifs).bind λtt=>(t.E (c.inn scope) elt).bind λte=>
  gd (blkC c.N c.sc scope (gH tg jt.1)&&(wg jt.1 ((gH tg jt.1).map (·.2))&&!kY iter)) (some (fU it jt.2 ((gH tg jt.1).map (·.2)) tt te))
theorem Jv{aj:aA}{c:Tc}{X:Cx}{W:WX}{k:Nat}{t:Tr}(o:t.Ok)(a:Amb aj c X W k){elt tg iter:Expr}{ifs:List Expr}{scope:Scope}{pos:Pos}{f:QF}(h:FZ t c elt tg iter ifs scope=some f):QE aj X W (.ListComp elt [⟨tg,iter,ifs,0⟩] scope pos) f:=by unfold FZ at h;obtain⟨it,h1,h⟩:=afq.mp h;obtain⟨⟨js,tf⟩,h2,h⟩:=afq.mp h;obtain⟨tt,h3,h⟩:=afq.mp h;obtain⟨te,h4,h⟩:=afq.mp h;obtain⟨hb,h⟩:=aC.mp h;cases h;simp only[afs,afB]at hb;obtain⟨b1,b2,b3⟩:=hb;exact aaW a.calm a.nd (o.oi a h1) (by rw[a.hN,a.hs];exact b1) (gG b2) (λs H C cl fp=>jF (a.inn scope s H C cl fp) h2) (λs H C cl fp=>jM o (a.inn scope s H C cl fp) h3) (λs H C cl fp=>o.oe (a.inn scope s H C cl fp) h4) (iI b3)
theorem aaR{X:Cx}{W:WX}(tk:Takes X W\/L2N.Takes X W)(σ:L2.St):PassesAt (L2N.CX X.prog X.w) X σ (WE W σ):=tk.elim
 (λtk a b c e s' I ⟨a1,B,H',cls,d,e1,fl,r⟩=>passAt tk σ a b c e s' I ⟨a1,B,H',cls,d,e1,L2H.flyingZ_imp (λ_ z=>z.zc) fl,r⟩) λtk=>L2N.passAt tk σ
def Gk(t:Tr)(c:Tc)(x:Str)(e:Expr)(es:List Expr):Option QF:=match c.G.lookup x with
 |some (.fq n m)=>(pK t c (e::es)).bind λas=>gd (kE c.sc x&&(!kh x&&decide ((e::es).length=n))) (some (aN m as))
 |some (.fqN n m)=>(pK t c (e::es)).bind λas=>gd (kE c.sc x&&(!kh x&&decide ((e::es).length=n))) (some (aN m as))
 |some _=>none
 |none=>match es with
  |[]=>(Xk x).bind λo=>(t.W c e).bind λfa=>gd (iZ c x x&&nst e) (some (bW o fa))
  |[.Name y p]=>match x=="isinstance" with
   |true=>(W4 y).bind λty=>(t.W c e).bind λfa=>gd (iZ c x x&&(iZ c y y&&nst e)) (some (iK ty fa))
   |false=>(Nf x).bind λo=>(t.W c e).bind λfa=>(t.W c (.Name y p)).bind λfb=>gd (iZ c x x&&nst e) (some (aq o fa fb))
  |[e2]=>(Nf x).bind λo=>(t.W c e).bind λfa=>(t.W c e2).bind λfb=>gd (iZ c x x&&(nst e&&nst e2)) (some (aq o fa fb))
  |_=>none
theorem MJ{aj:aA}{c:Tc}{X:Cx}{W:WX}{k:Nat}{x:Str}{o:Dat->Dat->Out Dat}{a b:Expr}{fa fb:QF}{p pos:Pos}(am:Amb aj c X W k)(h:Nf x=some o)(hg:iZ c x x=true)(ha:QW aj X W a fa)(hb:QW aj X W b fb)(hs:nst a=true)(hs2:nst b=true):QE aj X W (.Call (.Name x p) [a,b] [] pos) (aq o fa fb):=by obtain⟨f,id,r,hf,hc,ho,hv⟩:=Xv am.calm h aj W;obtain⟨_,hg,hm⟩:=fu am hg;exact aa4 hf hc ho hg hm hv ha hb hs hs2
theorem Ov{aj:aA}{c:Tc}{X:Cx}{W:WX}{k:Nat}{t:Tr}(o:t.Ok)(a:Amb aj c X W k){x:Str}{e:Expr}{es:List Expr}{p pos:Pos}{f:QF}(h:Gk t c x e es=some f):QE aj X W (.Call (.Name x p) (e::es) [] pos) f:=by
 unfold Gk at h;split at h
 .next n m hl=>
  obtain⟨as,h1,h⟩:=afq.mp h;obtain⟨hb,h⟩:=aC.mp h;cases h;simp only[afs,afB,ago]at hb;obtain⟨b1,b2,b3⟩:=hb;obtain⟨fa,hm,hk,fd,ps,j,hj,hp,hB,F⟩:=a.gl x _ hl;obtain⟨i1,i2,i3⟩:=iU o a h1;exact zA (passAt (a.tw hl rfl)) F (a.rm.mono hj) (dR a b1) hm hk hB i1 (b3.trans hp.symm) (dU b2).1 i2 i3
 .next n m hl=>
  obtain⟨as,h1,h⟩:=afq.mp h;obtain⟨hb,h⟩:=aC.mp h;cases h;simp only[afs,afB,ago]at hb;obtain⟨b1,b2,b3⟩:=hb;obtain⟨fa,hm,hk,fd,ps,j,hj,hp,hB,F⟩:=a.gl x _ hl;obtain⟨i1,i2,i3⟩:=iU o a h1;exact zA (aaR (a.tk.imp id (·.1))) F (a.rm.mono hj) (dR a b1) hm hk hB i1 (b3.trans hp.symm) (dU b2).1 i2 i3
 .cases h
 .split at h
  .obtain⟨o1,h1,h⟩:=afq.mp h;obtain⟨fa,h2,h⟩:=afq.mp h;obtain⟨hb,h⟩:=aC.mp h;cases h;rw[afs]at hb;obtain⟨f,id,r,hf,hc,ho,hv⟩:=Yd a.calm h1 aj W;obtain⟨_,hg,hm⟩:=fu a hb.1;exact T7 hf hc ho hg hm hv (o.ow a h2) hb.2
  .split at h
   .next ex=>
    obtain⟨ty,h1,h⟩:=afq.mp h;obtain⟨fa,h2,h⟩:=afq.mp h;obtain⟨hb,h⟩:=aC.mp h;cases h;simp only[afs]at hb;obtain⟨b1,b2,b3⟩:=hb;obtain⟨_,hg,hm⟩:=fu a b1;obtain⟨_,hg2,hm2⟩:=fu a b2;cases agv ex;exact Xb hg hm ⟨by decide +kernel,by decide,by decide⟩ hg2 hm2 (Zq h1) (o.ow a h2) b3
   .obtain⟨o1,h1,h⟩:=afq.mp h;obtain⟨fa,h2,h⟩:=afq.mp h;obtain⟨fb,h3,h⟩:=afq.mp h;obtain⟨hb,h⟩:=aC.mp h;cases h;rw[afs]at hb;exact MJ a h1 hb.1 (o.ow a h2) (o.ow a h3) hb.2 rfl
  .obtain⟨o1,h1,h⟩:=afq.mp h;obtain⟨fa,h2,h⟩:=afq.mp h;obtain⟨fb,h3,h⟩:=afq.mp h;obtain⟨hb,h⟩:=aC.mp h;cases h;simp only[afs]at hb;exact MJ a h1 hb.1 (o.ow a h2) (o.ow a h3) hb.2.1 hb.2.2
  .cases h
def stE(t:Tr)(c:Tc):Expr->Option QF
 |.Name x _=>(match nR c x with
  |some i=>some (aK i)
  |none=>match c.G.lookup x with
   |some (.con d)=>gd (kE c.sc x&&!kh x) (some (qC d))
   |_=>none)
 |.Constant (.int i) _ _=>some (qC (.int i))
 |.Constant (.str x) _ _=>some (qC (.str x))
 |.Constant (.bool x) _ _=>some (qC (.bool x))
 |.Constant .none _ _=>some (qC .none)
 |.BinOp a op b _=>(Xf op).bind λo=>(t.W c a).bind λfa=>(t.W c b).bind λfb=>some (aq o fa fb)
 |.UnaryOp .USub a _=>(t.W c a).bind λfa=>some (bW Gj fa)
 |.UnaryOp .Not a _=>(t.W c a).bind λfa=>some (Cp fa)
 |.BoolOp _ [a] _=>t.E c a
 |.BoolOp .And (a::b::r) p=>(t.E c a).bind λfa=>(t.E c (.BoolOp .And (b::r) p)).bind λfb=>some (lH fa fb)
 |.BoolOp .Or (a::b::r) p=>(t.E c a).bind λfa=>(t.E c (.BoolOp .Or (b::r) p)).bind λfb=>some (Q5 fa fb)
 |.Compare a [op] [b] _=>(match WW op with
  |some neg=>(yP b).bind λd=>(t.W c a).bind λfa=>some (uf neg d fa)
  |none=>(vP op).bind λo=>(t.W c a).bind λfa=>(t.W c b).bind λfb=>gd (!kY b) (some (aq o fa fb)))
 |.Compare a [op,op'] [b,b2] _=>(vP op).bind λo=>(vP op').bind λo'=>(t.W c a).bind λfa=>(t.W c b).bind λfb=>(t.W c b2).bind λfc=>gd (!kY b2) (some (Dq (gD o o' fa fb fc)))
 |.IfExp d a b _=>(t.T c d).bind λta=>(t.E c a).bind λfa=>(t.E c b).bind λfb=>some (Oc ta fa fb)
 |.Tuple es _ _=>(pK t c es).bind λfr=>some (eY fr)
 |.List es _=>(pK t c es).bind λfr=>some (lY fr)
 |.Subscript a b _=>(match b with
  |.Slice lo hi none _=>(t.W c a).bind λfa=>(Yl t c lo).bind λfl=>(Yl t c hi).bind λfh=>some (eZ fa fl fh)
  |b=>gd (!v9 b) ((t.W c a).bind λfa=>(t.W c b).bind λfb=>some (aq dM fa fb)))
 |.ListComp elt [⟨tg,iter,ifs,0⟩] scope _=>FZ t c elt tg iter ifs scope
 |.Call (.Name x _) (e::es) [] _=>Gk t c x e es
 |_=>none
def stW(t:Tr)(c:Tc):Expr->Option QF
 |.Name x p=>(match nR c x with
  |some i=>some (ak i)
  |none=>t.E c (.Name x p))
 |e=>t.E c e
def valT:Expr->Bool
 |.UnaryOp .Not _ _=>false
 |.BoolOp _ _ _=>false
 |.IfExp _ _ _ _=>false
 |.Compare _ _ _ _=>false
 |_=>true
theorem Vw{e:Expr}{env:PySem.Env}(h:valT e=true):∀whole,isTrue e env whole=(do let v <-whole;standAt e.pos;holding [v] (truthy v)):=λwhole=>by
 cases e with
 | UnaryOp o a p=>cases o<;>first | (with_unfolding_all rfl) | cases h
 |BoolOp _ _ _=>cases h
 |IfExp _ _ _ _=>cases h
 |Compare _ _ _ _=>cases h
 |_=>with_unfolding_all rfl
def Xe(t:Tr)(c:Tc):Expr->Option QT
 |.UnaryOp .Not a _=>(t.T c a).bind λta=>some (dw ta)
 |.BoolOp _ [a] _=>t.T c a
 |.BoolOp .And (a::b::r) p=>(t.T c a).bind λta=>(t.T c (.BoolOp .And (b::r) p)).bind λtb=>some (jA ta tb)
 |.BoolOp .Or (a::b::r) p=>(t.T c a).bind λta=>(t.T c (.BoolOp .Or (b::r) p)).bind λtb=>some (jL ta tb)
 |.Compare a [op] [b] _=>(match WW op with
  |some neg=>(yP b).bind λd=>(t.W c a).bind λfa=>some (aZ (uf neg d fa))
  |none=>(vP op).bind λo=>(t.W c a).bind λfa=>(t.W c b).bind λfb=>gd (!kY b) (some (aZ (aq o fa fb))))
 |.Compare a [op,op'] [b,b2] _=>(vP op).bind λo=>(vP op').bind λo'=>(t.W c a).bind λfa=>(t.W c b).bind λfb=>(t.W c b2).bind λfc=>gd (!kY b2) (some (gD o o' fa fb fc))
 |e=>gd (valT e) ((t.W c e).bind λfa=>some (dZ fa))
def trF(t:Tr)(c:Tc)(firm:Bool)(e:Expr):Option QF:=match firm with
 |true=>t.E c e
 |false=>t.W c e
def isTup:Expr->Bool
 |.Tuple _ _ _=>true
 |_=>false
def stI(t:Tr)(c:Tc)(firm:Bool)(tg:Expr):Expr->Option IF
 |.Call (.Name x p) [a] [] pos=>(match iZ c x "range" with
  |true=>(t.W c a).bind λfa=>gd (nst a) (some (m7 fa))
  |false=>match iZ c x "enumerate" with
   |true=>(trF t c firm a).bind λfa=>gd (nst a&&isTup tg) (some (o9 0 fa))
   |false=>(trF t c firm (.Call (.Name x p) [a] [] pos)).bind λfa=>some (iH fa))
 |.Call (.Name x p) [a,b] [] pos=>(match iZ c x "range" with
  |true=>(t.W c a).bind λfa=>(t.W c b).bind λfb=>gd (nst a&&nst b) (some (zX fa fb))
  |false=>match iZ c x "zip" with
   |true=>(trF t c firm a).bind λfa=>(trF t c firm b).bind λfb=>gd (nst a&&(nst b&&isTup tg)) (some (pF fa fb))
   |false=>(trF t c firm (.Call (.Name x p) [a,b] [] pos)).bind λfa=>some (iH fa))
 |.Call (.Name x p) [a] [⟨some kw,.Constant (.int i) j kp,kp2⟩] pos=>gd (iZ c x "enumerate"&&(kw=="start"&&(decide (-(2^63)<=i/\i<2^63)&&(nst a&&isTup tg)))) ((trF t c firm a).bind λfa=>some (o9 i fa))
 |e=>(trF t c firm e).bind λfa=>some (iH fa)
theorem Fj{b:Expr}(h:(!v9 b)=true):PlainIx b:=λv i=>by
 cases b<;>first | rfl | cases h
section
variable{aj:aA}{c:Tc}{X:Cx}{W:WX}{k:Nat}{t:Tr}
theorem X6(o:t.Ok)(a:Amb aj c X W k){e:Expr}{f:QF}(h:stE t c e=some f):QE aj X W e f:=by
 unfold stE at h;split at h
 .split at h
  .next i hi=>
   cases h;obtain⟨s1,s2,s3,s4⟩:=jc a hi;exact Oq s1 s2 s3 s4
  .split at h
   .next d hl=>
    obtain⟨hb,h⟩:=aC.mp h;cases h;simp only[afs,afB]at hb;obtain⟨v,u,h1,h2,h3,_⟩:=a.gl _ _ hl;exact PE.weak (pe_glob (dR a hb.1) h1 h2 (dU hb.2).1) λσ H Q ⟨g,ρ,M,I,z⟩=>z v H (Ex.refl H) (h3 g H)
   .cases h
 .cases h;exact Z4
 .cases h;exact Xn
 .cases h;exact aaz
 .cases h;exact YL
 .obtain⟨op,h1,h⟩:=afq.mp h;obtain⟨fa,h2,h⟩:=afq.mp h;obtain⟨fb,h3,h⟩:=afq.mp h;cases h;obtain⟨r,r1,r2⟩:=U8 h1 X aj W;exact aak r1 r2 (o.ow a h2) (o.ow a h3)
 .obtain⟨fa,h2,h⟩:=afq.mp h;cases h;exact aad (o.ow a h2)
 .obtain⟨fa,h2,h⟩:=afq.mp h;cases h;exact Wy (o.ow a h2)
 .exact pe_one (o.oe a h)
 .obtain⟨fa,h2,h⟩:=afq.mp h;obtain⟨fb,h3,h⟩:=afq.mp h;cases h;exact Wx (o.oe a h2) (o.oe a h3)
 .obtain⟨fa,h2,h⟩:=afq.mp h;obtain⟨fb,h3,h⟩:=afq.mp h;cases h;exact Z7 (o.oe a h2) (o.oe a h3)
 .split at h
  .next neg hn=>
   obtain⟨d,h1,h⟩:=afq.mp h;obtain⟨fa,h2,h⟩:=afq.mp h;cases h;obtain⟨v,v1,v2,v3⟩:=Je (X:=X) h1;refine aa0 v1 (Mg hn v2) (o.ow a h2) v3 (nY ?_);unfold yP at h1;split at h1<;>first | rfl | cases h1
  .obtain⟨op,h1,h⟩:=afq.mp h;obtain⟨fa,h2,h⟩:=afq.mp h;obtain⟨fb,h3,h⟩:=afq.mp h;obtain⟨hb,h⟩:=aC.mp h;cases h;obtain⟨r,r1,r2⟩:=mY h1 a.rm aj W;exact Us r1 r2 (o.ow a h2) (o.ow a h3) (nY (by simpa using hb))
 .obtain⟨op,h1,h⟩:=afq.mp h;obtain⟨op',h1',h⟩:=afq.mp h;obtain⟨fa,h2,h⟩:=afq.mp h;obtain⟨fb,h3,h⟩:=afq.mp h;obtain⟨fc,h4,h⟩:=afq.mp h;obtain⟨hb,h⟩:=aC.mp h;cases h;obtain⟨r,r1,r2⟩:=mY h1 a.rm aj W;obtain⟨r',r1',r2'⟩:=mY h1' a.rm aj W;exact S9 r1 r1' r2 r2' (o.ow a h2) (o.ow a h3) (o.ow a h4) (z9 (by simpa using hb))
 .obtain⟨ta,h1,h⟩:=afq.mp h;obtain⟨fa,h2,h⟩:=afq.mp h;obtain⟨fb,h3,h⟩:=afq.mp h;cases h;exact Ss (o.ot a h1) (o.oe a h2) (o.oe a h3)
 .obtain⟨fr,h1,h⟩:=afq.mp h;cases h;exact Ye (iU o a h1).1
 .obtain⟨fr,h1,h⟩:=afq.mp h;cases h;exact Xi (iU o a h1).1
 .split at h
  .obtain⟨fa,h1,h⟩:=afq.mp h;obtain⟨fl,h2,h⟩:=afq.mp h;obtain⟨fh,h3,h⟩:=afq.mp h;cases h;exact abb (o.ow a h1) (Mp o a h2) (Mp o a h3)
  .obtain⟨hb,h⟩:=aC.mp h;obtain⟨fa,h1,h⟩:=afq.mp h;obtain⟨fb,h2,h⟩:=afq.mp h;cases h;exact aaL (o.ow a h1) (o.ow a h2) (Fj hb)
 .exact Jv o a h
 .exact Ov o a h
 .cases h
theorem Za(o:t.Ok)(a:Amb aj c X W k){e:Expr}{f:QF}(h:stW t c e=some f):QW aj X W e f:=by
 unfold stW at h;split at h
 .split at h
  .next i hi=>
   cases h;obtain⟨s1,s2,s3,s4⟩:=jc a hi;exact Y6 s1 s2 s3 s4
  .exact(o.oe a h).w
 .exact(o.oe a h).w
theorem Ze{a b:Expr}{rest:List Expr}{ta tb:QT}{pos:Pos}(ha:iT aj X W a ta)(hb:iT aj X W (.BoolOp .And (b::rest) pos) tb):iT aj X W (.BoolOp .And (a::b::rest) pos) (jA ta tb):=by have hb':Jp aj X W (.BoolOp .And (b::rest) pos) tb:=⟨λwh pins s σ H Q I q=>hb.run pins s σ H Q I q⟩;exact PW.pt (Yg ha hb')
theorem aaF{a b:Expr}{rest:List Expr}{ta tb:QT}{pos:Pos}(ha:iT aj X W a ta)(hb:iT aj X W (.BoolOp .Or (b::rest) pos) tb):iT aj X W (.BoolOp .Or (a::b::rest) pos) (jL ta tb):=by have hb':Jp aj X W (.BoolOp .Or (b::rest) pos) tb:=⟨λwh pins s σ H Q I q=>hb.run pins s σ H Q I q⟩;exact PW.pt (aaZ ha hb')
theorem XS(o:t.Ok)(a:Amb aj c X W k){e:Expr}{f:QT}(h:Xe t c e=some f):iT aj X W e f:=by
 unfold Xe at h;split at h
 .obtain⟨ta,h1,h⟩:=afq.mp h;cases h;exact Zf (o.ot a h1)
 .next op _ _=>
  cases op
  .exact PW.pt (pw_and1 (o.ot a h))
  .exact PW.pt (pw_or1 (o.ot a h))
 .obtain⟨ta,h1,h⟩:=afq.mp h;obtain⟨tb,h2,h⟩:=afq.mp h;cases h;exact Ze (o.ot a h1) (o.ot a h2)
 .obtain⟨ta,h1,h⟩:=afq.mp h;obtain⟨tb,h2,h⟩:=afq.mp h;cases h;exact aaF (o.ot a h1) (o.ot a h2)
 .split at h
  .next neg hn=>
   obtain⟨d,h1,h⟩:=afq.mp h;obtain⟨fa,h2,h⟩:=afq.mp h;cases h;obtain⟨v,v1,v2,v3⟩:=Je (X:=X) h1;refine abr v1 (Mg hn v2) (o.ow a h2) v3 (nY ?_);unfold yP at h1;split at h1<;>first | rfl | cases h1
  .obtain⟨op,h1,h⟩:=afq.mp h;obtain⟨fa,h2,h⟩:=afq.mp h;obtain⟨fb,h3,h⟩:=afq.mp h;obtain⟨hb,h⟩:=aC.mp h;cases h;obtain⟨r,r1,r2⟩:=mY h1 a.rm aj W;exact Yv r1 r2 (o.ow a h2) (o.ow a h3) (nY (by simpa using hb))
 .obtain⟨op,h1,h⟩:=afq.mp h;obtain⟨op',h1',h⟩:=afq.mp h;obtain⟨fa,h2,h⟩:=afq.mp h;obtain⟨fb,h3,h⟩:=afq.mp h;obtain⟨fc,h4,h⟩:=afq.mp h;obtain⟨hb,h⟩:=aC.mp h;cases h;obtain⟨r,r1,r2⟩:=mY h1 a.rm aj W;obtain⟨r',r1',r2'⟩:=mY h1' a.rm aj W;exact QK r1 r1' r2 r2' (o.ow a h2) (o.ow a h3) (o.ow a h4) (z9 (by simpa using hb))
 .obtain⟨hv,h⟩:=aC.mp h;obtain⟨fa,h1,h⟩:=afq.mp h;cases h;exact YK (o.ow a h1) (Vw hv)
theorem oA(o:t.Ok)(a:Amb aj c X W k){firm:Bool}{e:Expr}{f:QF}(h:trF t c firm e=some f):Jy aj X W firm e f:=by
 cases firm
 .exact o.ow a h
 .exact o.oe a h
theorem wB{e:Expr}(h:isTup e=true):∃es j p,e=.Tuple es j p:=by cases e<;>first | exact⟨_,_,_,rfl⟩ | cases h
theorem Z8(o:t.Ok)(a:Amb aj c X W k){firm:Bool}{tg e:Expr}{f:IF}(h:stI t c firm tg e=some f):QI aj X W firm tg e f:=by
 unfold stI at h;split at h
 .split at h
  .next hb=>
   obtain⟨fa,h1,h⟩:=afq.mp h;obtain⟨hs,h⟩:=aC.mp h;cases h;obtain⟨rfl,hg,hm⟩:=fu a hb;exact Ox hg hm (o.ow a h1) hs
  .split at h
   .next hb=>
    obtain⟨fa,h1,h⟩:=afq.mp h;obtain⟨hs,h⟩:=aC.mp h;cases h;obtain⟨rfl,hg,hm⟩:=fu a hb;rw[afs]at hs;obtain⟨es,j,p,rfl⟩:=wB hs.2;exact Vl hg hm (oA o a h1) hs.1
   .obtain⟨fa,h1,h⟩:=afq.mp h;cases h;exact Ei (oA o a h1)
 .split at h
  .next hb=>
   obtain⟨fa,h1,h⟩:=afq.mp h;obtain⟨fb,h2,h⟩:=afq.mp h;obtain⟨hs,h⟩:=aC.mp h;cases h;obtain⟨rfl,hg,hm⟩:=fu a hb;rw[afs]at hs;exact Nm hg hm (o.ow a h1) (o.ow a h2) hs.1 hs.2
  .split at h
   .next hb=>
    obtain⟨fa,h1,h⟩:=afq.mp h;obtain⟨fb,h2,h⟩:=afq.mp h;obtain⟨hs,h⟩:=aC.mp h;cases h;obtain⟨rfl,hg,hm⟩:=fu a hb;simp only[afs]at hs;obtain⟨es,j,p,rfl⟩:=wB hs.2.2;exact W0 hg hm (oA o a h1) (oA o a h2) hs.1 hs.2.1
   .obtain⟨fa,h1,h⟩:=afq.mp h;cases h;exact Ei (oA o a h1)
 .obtain⟨hs,h⟩:=aC.mp h;obtain⟨fa,h1,h⟩:=afq.mp h;cases h;simp only[afs,ago]at hs;obtain⟨hb,hk,hi,hn,ht⟩:=hs;obtain⟨rfl,hg,hm⟩:=fu a hb;cases agv hk;obtain⟨es,j,p,rfl⟩:=wB ht;exact Q9 hi.1 hi.2 hg hm (oA o a h1) hn
 .obtain⟨fa,h1,h⟩:=afq.mp h;cases h;exact Ei (oA o a h1)
end
def strsOf:List Dat->Option (List Str)
 |[]=>some []
 |.str x::r=>(strsOf r).map (x::·)
 |_::_=>none
theorem qQ{K:afr}{g:Gh}{H:Hp}:∀{us:List V} {ds:List Dat} {ns:List Str},au K g H us ds->strsOf ds=some ns->us=ns.map V.str
 |_,_,ns,.nil,e=>by cases e;rfl
 |_,_,ns,.cons (d:=d) (ds:=ds) h t,e=>by
  cases d with
  |str i=>
   rw[strsOf]at e;cases hr:strsOf ds with
   |none=>rw[hr]at e;cases e
   |some r=>
    rw[hr]at e;cases e;cases h;rw[qQ t hr];rfl
  |_=>cases e
theorem BL{K:afr}{g:Gh}{H:Hp}:∀ys:List Str,au K g H (ys.map V.str) (ys.map PyData.str)
 |[]=>.nil
 |y::ys=>.cons (.str y) (BL ys)
def jU(o:Str->Dat->Out Dat)(a b:QF):QF:=λM ρ=>(a M ρ).bind λx=>match x with
 |.str z=>(b M ρ).bind (o z)
 |_=>.bad
def GZ(o:Str->Dat->Dat->Out Dat)(a b c:QF):QF:=λM ρ=>(a M ρ).bind λx=>match x with
 |.str z=>(b M ρ).bind λy=>(c M ρ).bind (o z y)
 |_=>.bad
def Im(o:List Dat->Dat->Out Dat)(a b:QF):QF:=λM ρ=>(a M ρ).bind λx=>match x with
 |.list ds=>(b M ρ).bind (o ds)
 |_=>.bad
def j5(x:Str):Dat->Out Dat
 |.list ds=>match strsOf ds with
  |some ys=>Out.when (decide ((ys.map λy=>y.length).sum+ys.length*x.length<=16777216)) (.ok (.str (Txt.join x ys)))
  |none=>.bad
 |_=>.bad
def rR(x:Str):Dat->Out Dat
 |.str y=>Out.when (!(y.length==0)&&decide (x.length+2<=100000)) (.ok (.list ((Txt.split x y).map .str)))
 |_=>.bad
def yD(x:Str):Dat->Out Dat
 |.str y=>Out.when (!(y.length==0)&&decide (x.length<=100000)) (.ok (.tuple [.str (Txt.partition x y).1,.str (Txt.partition x y).2.1,.str (Txt.partition x y).2.2]))
 |_=>.bad
def pY(x:Str):Dat->Dat->Out Dat
 |.str y,.int k=>Out.when (!(y.length==0)&&(decide (-100000<=k)&&(decide (k<=100000)&&decide (x.length+2<=100000)))) (.ok (.list ((Txt.splitMax x y k).map .str)))
 |_,_=>.bad
def lN(ds:List Dat)(d:Dat):Out Dat:=Out.when (pO d&&ds.all pO) (match ds.findIdx? λz=>PyData.eqv z d with
 |some j=>.ok (.int (j:Nat))
 |none=>.bad)
def zB(ds:List Dat)(d:Dat):Out Dat:=match strsOf ds,d with
 |some ys,.str z=>(match ys.findIdx? λy=>y==z with
  |some j=>.ok (.int (j:Nat))
  |none=>.bad)
 |_,_=>.bad
section
variable{X:Cx}{aj:aA}{W:WX}{a b c:Expr}{fa fb fc:QF}{pos apos:Pos}{k:Nat}
theorem K6{e:Expr}{r:V->List V->Hp->VK->Prop}{o:Str->Dat->Out Dat}(key:PE X e (tM1 r (tW X.K aj W fa) (tW X.K aj W fb)))
  (ho:∀(σ:L2.St) (g:Gh) (H:Hp) (z:Str) (y:V) (d:Dat) (Q:VK),Kd g H->bF X.K g H y d->(o z d).sat (λt=>∀v H',Ex H H'->Rep X.K g H' v t->Q v H') (gR X.K aj W g H σ)->r (.str z) [y] H Q):QE aj X W e (jU o fa fb):=
 PE.weak key λσ H Q ⟨g,ρ,M,I,h⟩=>by
  refine tW.go I h.bnd λd v H1 h1 e1 r1=>?_;have I1:=I.ex e1;cases d with
  |str z=>
   refine⟨⟨z,bR r1⟩,?_⟩;refine tW.go I1 (h1.bnd.mono (λ_ z=>z) λ_ z=>z.ex e1) λd2 v2 H2 h2 e2 r2=>?_;rw[bR r1];exact ho σ g H2 z v2 d2 Q (I1.ex e2).kd r2 (h2.mono (λt ht u H' e' r'=>ht u H' ((e1.trans e2).trans e') r') λ_ z=>(z.ex e1).ex e2)
  |_=>exact agn h1
theorem Uy(ha:QW aj X W a fa)(hb:QW aj X W b fb)(hs:nst b=true)(hbs:baseOk a=true)(hl:(apos.endLine==pos.line)=true):QE aj X W (.Call (.Attribute a "join" apos) [b] [] pos) (jU j5 fa fb):=
 K6 (pe_join ha hb (aM hs []) (cA hbs) hl) λσ g H z y d Q kd r h=>by
  unfold j5 at h;split at h
  .next ds=>
   split at h
   .next ys hy=>
    obtain⟨hz,h⟩:=h.dI;obtain⟨p,us,rfl,h1,h2⟩:=bZ r;have:=qQ h2 hy;subst this;exact⟨z,p,ys,rfl,rfl,.inl h1,agp hz,h _ H (Ex.refl H) (.str _)⟩
   .exact agn h
  .exact agn h
theorem Ew{g:Gh}{H:Hp}{ys:List Str}{Q:VK}(kd:Kd g H)(h:∀v H',Ex H H'->Rep X.K g H' v (.list (ys.map .str))->Q v H'):rNewStrs ys H Q:=λp np=>h _ _ (Ex.new np) (.lst (.inl ⟨.inl agu,kd.fresh np⟩) (BL ys))
theorem R4(ha:QW aj X W a fa)(hb:QW aj X W b fb)(hs:nst b=true)(hbs:baseOk a=true)(hl:(apos.endLine==pos.line)=true):QE aj X W (.Call (.Attribute a "split" apos) [b] [] pos) (jU rR fa fb):=
 K6 (pe_split ha hb (aM hs []) (cA hbs) hl) λσ g H z y d Q kd r h=>by
  unfold rR at h;split at h
  .next w=>
   obtain⟨hz,h⟩:=h.dI;simp only[afs,afB,ago]at hz;cases bR r;exact⟨z,w,rfl,rfl,hz.1,sz_of hz.2,Ew kd h⟩
  .exact agn h
theorem Vk(ha:QW aj X W a fa)(hb:QW aj X W b fb)(hs:nst b=true)(hbs:baseOk a=true)(hl:(apos.endLine==pos.line)=true):QE aj X W (.Call (.Attribute a "partition" apos) [b] [] pos) (jU yD fa fb):=
 K6 (pe_partition ha hb (aM hs []) (cA hbs) hl) λσ g H z y d Q kd r h=>by
  unfold yD at h;split at h
  .next w=>
   obtain⟨hz,h⟩:=h.dI;simp only[afs,afB,ago]at hz;cases bR r;exact⟨z,w,rfl,rfl,hz.1,sz_of hz.2,λp np=>h _ _ (Ex.new np) (.tup (st_of agu) (.cons (.str _) (.cons (.str _) (.cons (.str _) .nil))))⟩
  .exact agn h
theorem N7(ha:QW aj X W a fa)(hb:QW aj X W b fb)(hc:QW aj X W c fc)(hs:[b,c].all nst=true)(hbs:baseOk a=true)(hl:(apos.endLine==pos.line)=true):QE aj X W (.Call (.Attribute a "split" apos) [b,c] [] pos) (GZ pY fa fb fc):=by
 have hs2:=hs;simp only[afW,List.all_nil,Bool.and_true,afs]at hs2;refine PE.weak (pe_bm (T:="str") PySem.F.plainAttrs_str PySem.F.slot_str_split PySem.F.type_str_split mt_splitMax ha (pa_cons hb (pa_cons hc pa_nil (aM hs2.2 [])) (aM hs2.1 [c])) (cA hbs) ?_ hl (aM hs2.1 [c]) (star_any [c] (by simp[hs2.2]))) λσ H Q ⟨g,ρ,M,I,h⟩=>?_
 .rw[nM _ hs];rfl
 .refine tW.go I h.bnd λd v H1 h1 e1 r1=>?_;have I1:=I.ex e1;cases d with
  |str z=>
   rw[bR r1];refine⟨rfl,?_⟩;refine tW.go I1 (h1.bnd.mono (λ_ z=>z) λ_ z=>z.ex e1) λd2 v2 H2 h2 e2 r2=>?_;have I2:=I1.ex e2;refine tW.go I2 (h2.bnd.mono (λ_ z=>z) λ_ z=>(z.ex e1).ex e2) λd3 v3 H3 h3 e3 r3=>?_;unfold pY at h3;split at h3
   .next y k=>
    obtain⟨hz,h3⟩:=h3.dI;simp only[afs,afB,ago]at hz;cases bR r2;cases aP r3;exact⟨z,y,k,rfl,rfl,hz.1,by omega,by omega,sz_of hz.2.2.2,Ew (I2.ex e3).kd λv H' e' r'=>h3 v H' (((e1.trans e2).trans e3).trans e') r'⟩
   .exact agn h3
  |_=>exact agn h1
theorem Io{α:Type}{p:α->Bool}{l:List α}{j:Nat}(h:l.findIdx? p=some j):∃z,l[j]?=some z/\p z=true/\∀m z',m<j->l[m]?=some z'->p z'=false:=by
 rw[List.findIdx?_eq_some_iff_getElem]at h;obtain⟨h1,h2,h3⟩:=h;refine⟨l[j],afx h1,h2,λm z' hm e=>?_⟩;have hl:m<l.length:=by omega
 rw[afx hl]at e;cases e;simpa using h3 m hm
theorem Rr(ha:QW aj X W a fa)(hb:QW aj X W b fb)(hs:nst b=true)(hbs:baseOk a=true)(hl:(apos.endLine==pos.line)=true):QE aj X W (.Call (.Attribute a "index" apos) [b] [] pos) (Im lN fa fb):=by
 have hs1:[b].all nst=true:=by simp[hs]
 refine PE.weak (pe_bm (T:="list") PySem.F.plainAttrs_list PySem.F.slot_list_index PySem.F.type_list_index mt_index ha (pa_cons hb pa_nil (aM hs [])) (cA hbs) ?_ hl (aM hs []) (by with_unfolding_all rfl)) λσ H Q ⟨g,ρ,M,I,h⟩=>?_
 .rw[nM _ hs1];rfl
 .refine tW.go I h.bnd λd v H1 h1 e1 r1=>?_;have I1:=I.ex e1;cases d with
  |list ds=>
   obtain⟨p,us,rfl,q1,q2⟩:=bZ r1;refine⟨.inl ⟨rfl,us,q1⟩,?_⟩;refine tW.go I1 (h1.bnd.mono (λ_ z=>z) λ_ z=>z.ex e1) λd2 v2 H2 h2 e2 r2=>?_;unfold lN at h2;obtain⟨hz,h2⟩:=h2.dI;rw[afs]at hz;have q2':=q2.ex e2 I1.kd;have r2':=JK hz.1 r2;split at h2
   .next j hj=>
    obtain⟨z,z1,z2,z3⟩:=Io hj;obtain⟨u,u1,u2⟩:=q2'.get z1;have fz:∀{m:Nat} {z:Dat},ds[m]?=some z->pO z=true:=λ{m z} e=>afC.mp hz.2 z (afK e);refine⟨p,us,v2,j,u,rfl,rfl,ex_l e2 q1,v7 hz.1 r2',tL hz.2 q2',u1,?_,λm z' hm e=>?_,h2 _ H2 (e1.trans e2) (.int _)⟩
    .rw[yQ (fz z1) hz.1 u2 r2'];exact z2
    .obtain⟨d',k1,k2⟩:=q2'.get' e;rw[yQ (fz k1) hz.1 k2 r2'];exact z3 m d' hm k1
   .exact agn h2
  |_=>exact agn h1
def Ek(ds:List Dat)(b:QF):QF:=λM ρ=>(b M ρ).bind (zB ds)
theorem Oe{x:Str}{p:Pos}{ds:List Dat}(hg:aQ X.prog X.w X.K X.mg X.base aj k x (.con (.tuple ds)))(hx:Gl X x)(hd:(x==("__debug__" : Str))=false)(hb:QW aj X W b fb)(hs:nst b=true)(hl:(apos.endLine==pos.line)=true):QE aj X W (.Call (.Attribute (.Name x p) "index" apos) [b] [] pos) (Ek ds fb):=by
 obtain⟨v,u,g1,g2,g3,g4⟩:=hg;have hs1:[b].all nst=true:=by simp[hs]
 refine PE.weak (pe_bm (T:="tuple") PySem.F.plainAttrs_tuple PySem.F.slot_tuple_index PySem.F.type_tuple_index mt_tup_index (pe_glob hx g1 g2 hd) (pa_cons hb pa_nil (aM hs [])) (cA rfl) ?_ hl (aM hs []) (by with_unfolding_all rfl)) λσ H Q ⟨g,ρ,M,I,h⟩=>?_
 .rw[nM _ hs1];rfl
 .have r0:=g3 g λ_=>none;have rH:=g3 g;cases r0 with
  | @tup l us _ hq hr=>
   rcases hq with hq|hq
   .rcases hq with hq|⟨o,hq⟩<;>cases hq
   .refine⟨.inr (.inl ⟨rfl,g4 l ds rfl rfl⟩),?_⟩;refine tW.go I h.bnd λd2 v2 H2 h2 e2 r2=>?_;unfold zB at h2;split at h2
    .next ys z hy=>
     split at h2
     .next j hj=>
      cases bR r2;obtain⟨y,y1,y2,y3⟩:=Io hj;have:=qQ hr hy;subst this;cases agv y2;refine⟨l,ys,z,j,rfl,rfl,.inr hq,y1,λm hm e=>?_,h2 _ H2 e2 (.int _)⟩;have:=y3 m z hm e;simp at this
     .exact agn h2
    .exact agn h2
def uE:Dat->Out Str
 |.str y=>Out.when (decide (y.length<=100000)) (.ok y)
 |.int i=>Out.when (decide (i.natAbs.log2<1920)) (.ok (Str.ofString (toString i)))
 |_=>.bad
def yU(a b:QF):QF:=λM ρ=>(a M ρ).bind λd=>(uE d).bind λx=>Out.when (decide (x.length<=100000)) ((b M ρ).bind λe=>(uE e).bind λy=>Out.when (decide (x.length+y.length<=100000)) (.ok (.str (x++y))))
theorem Nh{g:Gh}{H:Hp}{v:V}{d:Dat}{P:Str->Prop}{E:bL->Prop}{R:V->Prop}(r:bF X.K g H v d)(h:(uE d).sat P E)(k:∀y,P y->R (.str y)):(∃y:Str,v=.str y/\y.length<=sizeLine/\R (.str y))\/∃i:Int,v=.int i/\i.natAbs.log2<1920/\R (.str (toString i)):=by
 unfold uE at h;split at h
 .next y=>
  obtain⟨hz,h⟩:=h.dI;exact .inl ⟨y,bR r,sz_of (agp hz),k _ h⟩
 .next i=>
  obtain⟨hz,h⟩:=h.dI;exact .inr ⟨i,aP r,agp hz,k _ h⟩
 .exact agn h
theorem aap{p1 p2:Pos}(ha:QW aj X W a fa)(hb:QW aj X W b fb):QE aj X W (.JoinedStr [.FormattedValue a (-1) none p1,.FormattedValue b (-1) none p2] pos) (yU fa fb):=
 PE.weak (pe_joined (.cons (pe_fmt ha) (.cons (pe_fmt hb) .nil))) λσ H Q ⟨g,ρ,M,I,h⟩=>by
  have e0:∀y:Str,Str.empty++y=y:=λy=>by
   apply TL.ext_tl;rw[TL.tl_append];rfl
  refine tW.go I h.bnd λd v H1 h1 e1 r1=>?_;have I1:=I.ex e1;refine Nh (R:=λx=>∃y:Str,x=.str y/\(Str.empty++y).length<=sizeLine/\tJs [tFmt (tW X.K aj W fb)] (Str.empty++y) σ H1 λout H1=>Q (V.str out) H1) r1 h1.bnd λx hx=>?_;obtain⟨hz,hx⟩:=hx.dI;refine⟨x,rfl,by rw[e0];exact sz_of (agp hz),?_⟩;refine tW.go I1 (hx.bnd.mono (λ_ z=>z) λ_ z=>z.ex e1) λd2 v2 H2 h2 e2 r2=>?_;refine Nh (R:=λz=>∃y:Str,z=.str y/\(Str.empty++x++y).length<=sizeLine/\tJs [] (Str.empty++x++y) σ H2 λout H1=>Q (V.str out) H1) r2 h2.bnd λy hy=>?_;obtain⟨hz2,hy⟩:=hy.dI;have hl:(x++y).length=x.length+y.length:=Array.size_append;refine⟨y,rfl,by rw[e0,hl];exact sz_of (agp hz2),?_⟩;rw[e0];exact hy _ H2 (e1.trans e2) (.str _)
end
def YS(m:Str):Option Nat:=if m=="join" then some 0 else if m=="split" then some 1 else if m=="partition" then some 2 else if m=="index" then some 3 else none
def Yo(t:Tr)(c:Tc):Expr->Option QF
 |.Call (.Attribute o m apos) [e] [] pos=>(YS m).bind λn=>(t.W c e).bind λfe=>gd (baseOk o&&(nst e&&(apos.endLine==pos.line))) (match n with
  |0=>(t.W c o).bind λfo=>some (jU j5 fo fe)
  |1=>(t.W c o).bind λfo=>some (jU rR fo fe)
  |2=>(t.W c o).bind λfo=>some (jU yD fo fe)
  |_=>(match o with
   |.Name x _=>(match c.G.lookup x with
    |some (.con (.tuple ds))=>gd (kE c.sc x&&!kh x) (some (Ek ds fe))
    |some _=>none
    |none=>(t.W c o).bind λfo=>some (Im lN fo fe))
   |_=>(t.W c o).bind λfo=>some (Im lN fo fe)))
 |.Call (.Attribute o m apos) [e,e2] [] pos=>(match m=="split" with
  |true=>(t.W c o).bind λfo=>(t.W c e).bind λfe=>(t.W c e2).bind λf2=>gd (baseOk o&&(nst e&&(nst e2&&(apos.endLine==pos.line)))) (some (GZ pY fo fe f2))
  |false=>none)
 |.JoinedStr [.FormattedValue a k1 none _,.FormattedValue b k2 none _] _=>(t.W c a).bind λfa=>(t.W c b).bind λfb=>gd (decide (k1=-1)&&decide (k2=-1)) (some (yU fa fb))
 |_=>none
section
variable{aj:aA}{c:Tc}{X:Cx}{W:WX}{k:Nat}{t:Tr}
theorem YJ{m:Str}{n:Nat}(h:YS m=some n):(m="join"/\n=0)\/(m="split"/\n=1)\/(m="partition"/\n=2)\/(m="index"/\n=3):=by
 unfold YS at h;split at h
 .next e=>cases h;exact .inl ⟨agv e,rfl⟩
 split at h
 .next e=>cases h;exact .inr (.inl ⟨agv e,rfl⟩)
 split at h
 .next e=>cases h;exact .inr (.inr (.inl ⟨agv e,rfl⟩))
 split at h
 .next e=>cases h;exact .inr (.inr (.inr ⟨agv e,rfl⟩))
 .cases h
theorem Zy(o:t.Ok)(a:Amb aj c X W k){e:Expr}{f:QF}(h:Yo t c e=some f):QE aj X W e f:=by
 unfold Yo at h;split at h
 .obtain⟨n,h0,h⟩:=afq.mp h;obtain⟨fe,h1,h⟩:=afq.mp h;obtain⟨hb,h⟩:=aC.mp h;simp only[afs]at hb;obtain⟨b1,b2,b3⟩:=hb;rcases YJ h0 with⟨rfl,rfl⟩|⟨rfl,rfl⟩|⟨rfl,rfl⟩|⟨rfl,rfl⟩
  .obtain⟨fo,h2,h⟩:=afq.mp h;cases h;exact Uy (o.ow a h2) (o.ow a h1) b2 b1 b3
  .obtain⟨fo,h2,h⟩:=afq.mp h;cases h;exact R4 (o.ow a h2) (o.ow a h1) b2 b1 b3
  .obtain⟨fo,h2,h⟩:=afq.mp h;cases h;exact Vk (o.ow a h2) (o.ow a h1) b2 b1 b3
  .have lst:∀{b:Expr} {apos pos:Pos},baseOk b=true->((t.W c b).bind λfo=>some (Im lN fo fe))=some f->(apos.endLine==pos.line)=true->QE aj X W (.Call (.Attribute b "index" apos) [_] [] pos) f:=λ{b apos pos} hb h b3=>by
    obtain⟨fo,h2,h⟩:=afq.mp h;cases h;exact Rr (o.ow a h2) (o.ow a h1) b2 hb b3
   simp only at h;split at h
   .split at h
    .next hl=>
     obtain⟨hg,h⟩:=aC.mp h;cases h;simp only[afs,afB]at hg;exact Oe (a.gl _ _ hl) (dR a hg.1) (dU hg.2).1 (o.ow a h1) b2 b3
    .cases h
    .exact lst b1 h b3
   .exact lst b1 h b3
 .split at h
  .next hm=>
   obtain⟨fo,h1,h⟩:=afq.mp h;obtain⟨fe,h2,h⟩:=afq.mp h;obtain⟨f2,h3,h⟩:=afq.mp h;obtain⟨hb,h⟩:=aC.mp h;cases h;simp only[afs]at hb;cases agv hm;exact N7 (o.ow a h1) (o.ow a h2) (o.ow a h3) (by simp[hb.2.1,hb.2.2.1]) hb.1 hb.2.2.2
  .cases h
 .obtain⟨fa,h1,h⟩:=afq.mp h;obtain⟨fb,h2,h⟩:=afq.mp h;obtain⟨hb,h⟩:=aC.mp h;cases h;simp only[afs,ago]at hb;obtain⟨rfl,rfl⟩:=hb;exact aap (o.ow a h1) (o.ow a h2)
 .cases h
end
def MV.n:MV->Nat
 |.q n _=>n
 |.g n _=>n
def MV.qt:MV->Bool
 |.q _ _=>true
 |.g _ _=>false
def Zk(tb:List (Str×MV))(n:Nat):Bool:=tb.all λp=>p.2.n==n
def tbQ(tb:List (Str×MV)):Bool:=tb.all λp=>p.2.qt
theorem fO{α:Type}{c:Str}{v:α}:∀{tb:List (Str×α)},tb.lookup c=some v->(c,v)∈tb
 |[],h=>nomatch h
 |(y,u)::r,h=>by
  rw[afF]at h;split at h
  .next e=>
   cases h;rw[agv e];exact afv
  .exact afu _ (fO h)
section
variable{aj:aA}{c:Tc}{X:Cx}{W:WX}{k:Nat}{t:Tr}
theorem CT(a:Amb aj c X W k){m:Str}{n:Nat}{tb:List (Str×MV)}(h:c.hs.Ms.lookup m=some tb)(hn:Zk tb n=true):qY X aj k m n tb:=λy v hv=>by
 refine⟨a.hk.ms m tb h y v hv,?_⟩;have:=afC.mp hn _ (fO hv);cases v<;>exact agv this
def DP(t:Tr)(c:Tc)(o:Expr)(m:Str)(es:List Expr)(apos pos:Pos):Option QF:=
 (c.hs.Ms.lookup m).bind λtb=>(t.W c o).bind λfo=>(pK t c es).bind λas=>
  gd (tbQ tb&&(Zk tb (es.length+1)&&(baseOk o&&(decide (es.length<30)&&(apos.endLine==pos.line))))) (some (xZ tb fo as))
theorem Ot(o:t.Ok)(a:Amb aj c X W k){b:Expr}{m:Str}{es:List Expr}{apos pos:Pos}{f:QF}(h:DP t c b m es apos pos=some f):QE aj X W (.Call (.Attribute b m apos) es [] pos) f:=by
 unfold DP at h;obtain⟨tb,h1,h⟩:=afq.mp h;obtain⟨fo,h2,h⟩:=afq.mp h;obtain⟨as,h3,h⟩:=afq.mp h;obtain⟨hb,h⟩:=aC.mp h;cases h;simp only[afs,ago]at hb;obtain⟨_,b2,b3,b4,b5⟩:=hb;obtain⟨i1,i2,i3⟩:=iU o a h3;cases es with
 |nil=>
  cases h3;exact SQ (a.tm h1) a.rm (CT a h1 b2) (o.ow a h2) b3 b5
 |cons e es=>exact Wv (a.tm h1) a.rm (CT a h1 b2) (o.ow a h2) i1 i3 b3 i2 b5 b4
def inN:CmpOp->Option Bool
 |.In=>some false
 |.NotIn=>some true
 |_=>none
theorem Pg{op:CmpOp}{neg:Bool}(hr:Room k X.A)(h:inN op=some neg):OpR X (compareOp op) (rInD X neg):=by
 have h65:X.A.units+64<cLine:=by have:=hr.un;omega
 cases op<;>cases h
 .exact op_inD h65
 .exact op_notInD h65
def KQ(t:Tr)(c:Tc)(e:Expr)(op:CmpOp)(o:Expr)(f:Str):Option QF:=
 (inN op).bind λneg=>(c.hs.df.lookup f).bind λ_=>(t.E c e).bind λfe=>(t.W c o).bind λfo=>gd (baseOk o) (some (Dr neg f fe fo))
theorem Zj{o e:Expr}{f:Str}{p1 pos:Pos}{fo fk:QF}{neg:Bool}{op:CmpOp}(co:cV X.K aj)(hw:aj.w=X.w)(hr:OpR X (compareOp op) (rInD X neg))(hk:QE aj X W e fk)(ho:QW aj X W o fo)(hb:baseOk o=true):iT aj X W (.Compare e [op] [.Attribute o f p1] pos) (aZ (Dr neg f fk fo)):=
 PT.weak (pt_cmpR hr hk (pe_fld ho (cA hb)) (by cases op<;>rfl)) λσ H Q ⟨g,ρ,M,I,h⟩=>by
  refine T6 co hw σ H _ ⟨g,ρ,M,I,h.bnd.mono (λd h1 v H' e' r'=>?_) λ_ z=>z⟩;obtain⟨k,h2,h3⟩:=oW r'.weak h1;exact⟨k,h2,h3 H' e'⟩
theorem IV(o:t.Ok)(a:Amb aj c X W k){e b:Expr}{op:CmpOp}{m:Str}{p1 pos:Pos}{f:QF}(h:KQ t c e op b m=some f):QE aj X W (.Compare e [op] [.Attribute b m p1] pos) f/\iT aj X W (.Compare e [op] [.Attribute b m p1] pos) (aZ f):=by unfold KQ at h;obtain⟨neg,h1,h⟩:=afq.mp h;obtain⟨_,_,h⟩:=afq.mp h;obtain⟨fe,h2,h⟩:=afq.mp h;obtain⟨fo,h3,h⟩:=afq.mp h;obtain⟨hb,h⟩:=aC.mp h;cases h;exact⟨YH a.hk.co a.hk.hw (Pg a.rm h1) (o.oe a h2) (o.ow a h3) hb,Zj a.hk.co a.hk.hw (Pg a.rm h1) (o.oe a h2) (o.ow a h3) hb⟩
def Cq(t:Tr)(c:Tc)(e:Expr)(op:CmpOp)(x:Str):Option QF:=
 (inN op).bind λneg=>match c.G.lookup x with
  |some (.dic kvs)=>(t.W c e).bind λfe=>gd (kE c.sc x&&!kh x) (some (wC neg kvs fe))
  |_=>none
theorem DQ(o:t.Ok)(a:Amb aj c X W k){e:Expr}{op:CmpOp}{x:Str}{p1 pos:Pos}{f:QF}(h:Cq t c e op x=some f):QE aj X W (.Compare e [op] [.Name x p1] pos) f/\iT aj X W (.Compare e [op] [.Name x p1] pos) (aZ f):=by
 unfold Cq at h;obtain⟨neg,h1,h⟩:=afq.mp h;split at h
 .next kvs hl=>
  obtain⟨fe,h2,h⟩:=afq.mp h;obtain⟨hb,h⟩:=aC.mp h;cases h;simp only[afs,afB]at hb;refine Ym a.rm ?_ (a.gl x _ hl) (dR a hb.1) (dU hb.2).1 (o.ow a h2);cases op<;>cases h1
  .exact .inl ⟨rfl,rfl⟩
  .exact .inr ⟨rfl,rfl⟩
 .cases h
def GX(t:Tr)(c:Tc):Expr->Option QF
 |.Call (.Name y _) [b] [] _=>(match iZ c y "set" with
  |true=>(t.W c b).bind λfb=>gd (nst b) (some (bW Ln fb))
  |false=>(t.W c (.Call (.Name y ⟨0,0,0,0⟩) [b] [] ⟨0,0,0,0⟩)).bind λ_=>none)
 |e=>(t.W c e).bind λfe=>gd (nst e) (some (bW CZ fe))
theorem Xp(a:Amb aj c X W k):X.A.units+65<cLine:=by have:=a.rm.un;omega
theorem MF(o:t.Ok)(a:Amb aj c X W k)(hg:Gl X "sorted")(hm:X.mg "sorted"=none){e:Expr}{p pos:Pos}{f:QF}(h:GX t c e=some f):QE aj X W (.Call (.Name "sorted" p) [e] [] pos) f:=by
 unfold GX at h;split at h
 .split at h
  .next hb=>
   obtain⟨fb,h1,h⟩:=afq.mp h;obtain⟨hn,h⟩:=aC.mp h;cases h;obtain⟨rfl,hg2,hm2⟩:=fu a hb;exact Vd (Xp a) a.calm hg hm hg2 hm2 (o.ow a h1) hn
  .obtain⟨_,_,h⟩:=afq.mp h;cases h
 .obtain⟨fe,h1,h⟩:=afq.mp h;obtain⟨hn,h⟩:=aC.mp h;cases h;exact Wk (Xp a) hg hm (o.ow a h1) hn
def wY(t:Tr)(c:Tc)(elt tg iter:Expr)(ifs:List Expr)(tg1 iter1:Expr)(ifs1:List Expr)(scope:Scope):Option QF:=
 (t.I c false tg iter).bind λit=>(Ah (c.inn scope) tg).bind λjt=>(zM t (c.inn scope) ifs).bind λtt=>(t.I (c.inn scope) true tg1 iter1).bind λit1=>(Ah (c.inn scope) tg1).bind λjt1=>(zM t (c.inn scope) ifs1).bind λtt1=>(t.E (c.inn scope) elt).bind λte=>
  gd (blkC c.N c.sc scope (gH tg jt.1++gH tg1 jt1.1)&&(wg ((gH tg1 jt1.1).map (·.2)) ((gH tg jt.1++gH tg1 jt1.1).map (·.2))&&(wg jt.1 ((gH tg jt.1++gH tg1 jt1.1).map (·.2))&&(wg jt1.1 ((gH tg1 jt1.1).map (·.2))&&(!kY iter&&!kY iter1)))))
   (some (tZ it jt.2 ((gH tg jt.1++gH tg1 jt1.1).map (·.2)) tt it1 jt1.2 ((gH tg1 jt1.1).map (·.2)) tt1 te))
theorem Ro(o:t.Ok)(a:Amb aj c X W k){elt tg iter tg1 iter1:Expr}{ifs ifs1:List Expr}{scope:Scope}{pos:Pos}{f:QF}(h:wY t c elt tg iter ifs tg1 iter1 ifs1 scope=some f):QE aj X W (.ListComp elt [⟨tg,iter,ifs,0⟩,⟨tg1,iter1,ifs1,0⟩] scope pos) f:=by unfold wY at h;obtain⟨it,h1,h⟩:=afq.mp h;obtain⟨⟨js,tf⟩,h2,h⟩:=afq.mp h;obtain⟨tt,h3,h⟩:=afq.mp h;obtain⟨it1,h4,h⟩:=afq.mp h;obtain⟨⟨js1,tf1⟩,h5,h⟩:=afq.mp h;obtain⟨tt1,h6,h⟩:=afq.mp h;obtain⟨te,h7,h⟩:=afq.mp h;obtain⟨hb,h⟩:=aC.mp h;cases h;simp only[afs,afB]at hb;obtain⟨b1,b2,b3,b4,b5,b6⟩:=hb;exact Z0 a.calm a.nd (o.oi a h1) (by rw[a.hN,a.hs];exact b1) (gG b2) (gG b3) (gG b4) (λs H C cl fp=>jF (a.inn _ s H C cl fp) h2) (λs H C cl fp=>jM o (a.inn _ s H C cl fp) h3) (λs H C cl fp=>o.oi (a.inn _ s H C cl fp) h4) (λs H C cl fp=>jF (a.inn _ s H C cl fp) h5) (λs H C cl fp=>jM o (a.inn _ s H C cl fp) h6) (λs H C cl fp=>o.oe (a.inn _ s H C cl fp) h7) (iI b5) (λenv=>iI b6)
def els{α:Type}(a b:Option α):Option α:=match a with
 |some x=>some x
 |none=>b
theorem iw{α:Type}{a b:Option α}{x:α}(h:els a b=some x):a=some x\/b=some x:=by
 cases a with
 |none=>exact .inr h
 |some y=>exact .inl h
def xE0(t:Tr)(c:Tc):Expr->Option QF
 |.Attribute o f _=>gd (baseOk o) ((t.W c o).bind λfo=>some (Q7 f fo))
 |.Call (.Attribute o m apos) es [] pos=>DP t c o m es apos pos
 |.Compare e [op] [.Attribute o f _] _=>KQ t c e op o f
 |.Compare e [op] [.Name x _] _=>Cq t c e op x
 |.Subscript (.Name x _) e _=>(match c.G.lookup x with
  |some (.dic kvs)=>(t.W c e).bind λfe=>gd (kE c.sc x&&(!kh x&&!v9 e)) (some (zR kvs fe))
  |_=>none)
 |.ListComp elt [⟨tg,iter,ifs,0⟩,⟨tg1,iter1,ifs1,0⟩] scope _=>wY t c elt tg iter ifs tg1 iter1 ifs1 scope
 |.Call (.Name x _) [e] [] _=>(match iZ c x "sorted" with
  |true=>GX t c e
  |false=>match iZ c x "list",e with
   |true,.Attribute o f _=>(c.hs.df.lookup f).bind λ_=>(t.W c o).bind λfo=>gd (baseOk o) (some (sW f fo))
   |_,_=>none)
 |_=>none
theorem Zu(o:t.Ok)(a:Amb aj c X W k){e:Expr}{f:QF}(h:xE0 t c e=some f):QE aj X W e f:=by
 unfold xE0 at h;split at h
 .obtain⟨hb,h⟩:=aC.mp h;obtain⟨fo,h1,h⟩:=afq.mp h;cases h;exact ZS a.hk.co (o.ow a h1) hb
 .exact Ot o a h
 .exact(IV o a h).1
 .exact(DQ o a h).1
 .split at h
  .next kvs hl=>
   obtain⟨fe,h1,h⟩:=afq.mp h;obtain⟨hb,h⟩:=aC.mp h;cases h;simp only[afs]at hb;exact Zv (a.gl _ _ hl) (dR a hb.1) (dU (by simpa using hb.2.1)).1 (o.ow a h1) (Fj hb.2.2)
  .cases h
 .exact Ro o a h
 .split at h
  .next hb=>
   obtain⟨rfl,hg,hm⟩:=fu a hb;exact MF o a hg hm h
  .split at h
   .next hb=>
    obtain⟨_,_,h⟩:=afq.mp h;obtain⟨fo,h1,h⟩:=afq.mp h;obtain⟨hb2,h⟩:=aC.mp h;cases h;obtain⟨rfl,hg,hm⟩:=fu a hb;exact S8 a.hk.co a.hk.hw a.calm hg hm (o.ow a h1) hb2
   .cases h
 .cases h
def xE1(t:Tr)(c:Tc)(e:Expr):Option QF:=els (Yo t c e) (xE0 t c e)
theorem XR(o:t.Ok)(a:Amb aj c X W k){e:Expr}{f:QF}(h:xE1 t c e=some f):QE aj X W e f:=(iw h).elim (Zy o a) (Zu o a)
def xE(t:Tr)(c:Tc)(e:Expr):Option QF:=xE1 t c e
theorem abu(o:t.Ok)(a:Amb aj c X W k){e:Expr}{f:QF}(h:xE t c e=some f):QE aj X W e f:=XR o a h
def xW(t:Tr)(c:Tc):Expr->Option QF
 |.Attribute o f _=>gd (baseOk o) ((t.W c o).bind λfo=>some (Kf f fo))
 |_=>none
theorem aaH(o:t.Ok)(a:Amb aj c X W k){e:Expr}{f:QF}(h:xW t c e=some f):QW aj X W e f:=by
 unfold xW at h;split at h
 .obtain⟨hb,h⟩:=aC.mp h;obtain⟨fo,h1,h⟩:=afq.mp h;cases h;exact Yh a.hk.co (o.ow a h1) hb
 .cases h
def xT(t:Tr)(c:Tc):Expr->Option QT
 |.Compare e [op] [.Attribute o f _] _=>(KQ t c e op o f).bind λg=>some (aZ g)
 |.Compare e [op] [.Name x _] _=>(Cq t c e op x).bind λg=>some (aZ g)
 |_=>none
theorem abg(o:t.Ok)(a:Amb aj c X W k){e:Expr}{f:QT}(h:xT t c e=some f):iT aj X W e f:=by
 unfold xT at h;split at h
 .obtain⟨g,h1,h⟩:=afq.mp h;cases h;exact(IV o a h1).2
 .obtain⟨g,h1,h⟩:=afq.mp h;cases h;exact(DQ o a h1).2
 .cases h
def xI(t:Tr)(c:Tc)(firm:Bool):Expr->Option IF
 |.Attribute o f _=>(match firm with
  |true=>none
  |false=>(c.hs.df.lookup f).bind λ_=>gd (baseOk o) ((t.W c o).bind λfo=>some (wO f fo)))
 |_=>none
theorem aa3(o:t.Ok)(a:Amb aj c X W k){firm:Bool}{tg e:Expr}{f:IF}(h:xI t c firm e=some f):QI aj X W firm tg e f:=by
 unfold xI at h;split at h
 .split at h
  .cases h
  .obtain⟨_,_,h⟩:=afq.mp h;obtain⟨hb,h⟩:=aC.mp h;obtain⟨fo,h1,h⟩:=afq.mp h;cases h;exact Qp a.hk.co a.hk.hw (o.ow a h1) hb
 .cases h
def xtE(t:Tr)(c:Tc)(e:Expr):Option QF:=els (xE t c e) (stE t c e)
def xtW(t:Tr)(c:Tc)(e:Expr):Option QF:=els (xW t c e) (stW t c e)
def xtT(t:Tr)(c:Tc)(e:Expr):Option QT:=els (xT t c e) (Xe t c e)
def xtI(t:Tr)(c:Tc)(firm:Bool)(tg e:Expr):Option IF:=els (xI t c firm e) (stI t c firm tg e)
end
structure ji(aj:aA)(c:Tc)(X:Cx)(W:WX)(k:Nat):Prop extends Amb aj c X W k where
 ps:PassesOwn (model X.prog X.w) X.A X.env X.xe
 st:X.stack=X.env::X.outer
 fr:X.env.frame=some X.env.locals
 kf:X.env.scope.kind=.function
structure Ts where
 G:Tc->Expr->Option GF
 H:Tc->Expr->Option GT
 S:Tc->Stmt->Option SF
 B:Tc->List Stmt->Option SF
structure Ts.Ok(s:Ts)(q:Bool):Prop where
 og:∀{aj:aA} {c:Tc} {X:Cx} {W:WX} {k:Nat},ji aj c X W k->∀{e:Expr} {f:GF},s.G c e=some f->GE aj X W q e f
 oh:∀{aj:aA} {c:Tc} {X:Cx} {W:WX} {k:Nat},ji aj c X W k->∀{e:Expr} {f:GT},s.H c e=some f->GTe aj X W q e f
 os:∀{aj:aA} {c:Tc} {X:Cx} {W:WX} {k:Nat},ji aj c X W k->∀{e:Stmt} {f:SF},s.S c e=some f->SE aj X W q e f
 ob:∀{aj:aA} {c:Tc} {X:Cx} {W:WX} {k:Nat},ji aj c X W k->∀{e:List Stmt} {f:SF},s.B c e=some f->rK aj X W q e f
def nQ:Expr->Bool
 |.ListComp _ _ _ _=>true
 |.SetComp _ _ _ _=>true
 |.DictComp _ _ _ _ _=>true
 |_=>false
theorem qD{e:Expr}{tg:Option Expr}{l:Nat}{env:PySem.Env}(h:nQ e=false):swapsWith e tg l env=pure false:=by cases e<;>first | rfl | cases h
def Ke:Expr->Bool
 |.Tuple _ _ _=>true
 |_=>false
def Tj(sc:Scope)(v:Expr)(scope:Scope)(x:Str)(p:Pos):Bool:=(match sc.names.lookup x with
 |some .local=>true
 |_=>false)&&(p.line==v.pos.line&&!(scope.names.any λ(n,k)=>n==x&&(k==.local || k==.cell)))
theorem xY{X:Cx}{elt:Expr}{gens:List Comprehension}{scope:Scope}{pos p:Pos}{x:Str}{l:Nat}(hk:X.env.scope.kind=.function)(h:Tj X.env.scope (.ListComp elt gens scope pos) scope x p=true):X.env.scope.names.lookup x=some .local/\swapsWith (.ListComp elt gens scope pos) (some (.Name x p)) l X.env=pure true:=by
 unfold Tj at h;simp only[afs]at h;obtain⟨h1,h2,h3⟩:=h;have e1:X.env.scope.names.lookup x=some .local:=by
  split at h1
  .assumption
  .cases h1
 refine⟨e1,?_⟩;have eb:X.env.blockKind=.function:=by unfold PySem.Env.blockKind;rw[hk];rfl
 unfold swapsWith
 show(pure (X.env.blockKind==.function&&X.env.kindOf x==some .local&&p.line==(Expr.ListComp elt gens scope pos).pos.line&&!(scope.names.any λ(n,k)=>n==x&&(k==.local || k==.cell))):Sem Bool)=pure true
 rw[eb,h2,h3];unfold PySem.Env.kindOf;rw[e1];rfl
def RK(sc:Scope)(v:Expr)(x:Str)(p:Pos):Bool:=!(p.line==v.pos.line) || (match sc.names.lookup x with
 |some .local=>false
 |_=>true)
theorem Nb{X:Cx}{elt:Expr}{gens:List Comprehension}{scope:Scope}{pos p:Pos}{x:Str}{l:Nat}(h:RK X.env.scope (.ListComp elt gens scope pos) x p=true):swapsWith (.ListComp elt gens scope pos) (some (.Name x p)) l X.env=pure false:=by
 unfold swapsWith
 show(pure (X.env.blockKind==.function&&X.env.kindOf x==some .local&&p.line==(Expr.ListComp elt gens scope pos).pos.line&&!(scope.names.any λ(n,k)=>n==x&&(k==.local || k==.cell))):Sem Bool)=pure false
 unfold RK at h;rw[agc,afB]at h;rcases h with h|h
 .rw[h,Bool.and_false,Bool.false_and]
 .have e:(X.env.kindOf x==some .local)=false:=by
   unfold PySem.Env.kindOf;split at h
   .cases h
   .next q=>
    cases hl:X.env.scope.names.lookup x with
    |none=>rfl
    | some y=>cases y<;>first | exact absurd hl q | rfl
  rw[e,Bool.and_false,Bool.false_and,Bool.false_and]
def Ub(t:Tr)(c:Tc):Expr->Option IF
 |.List es _=>(pK t c es).bind λfr=>some (Nu fr)
 |.Call (.Name x _) [a] [] _=>(t.W c a).bind λfa=>gd (iZ c x "list"&&nst a) (some (rC fa))
 |_=>none
theorem M6{aj:aA}{c:Tc}{X:Cx}{W:WX}{k:Nat}{t:Tr}(o:t.Ok)(a:Amb aj c X W k){e:Expr}{f:IF}(h:Ub t c e=some f):FE aj X W e f/\nQ e=false:=by
 unfold Ub at h;split at h
 .obtain⟨fr,h1,h⟩:=afq.mp h;cases h;exact⟨aac (iU o a h1).1,rfl⟩
 .obtain⟨fa,h1,h⟩:=afq.mp h;obtain⟨hb,h⟩:=aC.mp h;cases h;rw[afs]at hb;obtain⟨rfl,hg,hm⟩:=fu a hb.1;exact⟨VN hg hm ⟨by decide +kernel,by decide,by decide⟩ (o.ow a h1) hb.2,rfl⟩
 .cases h
section
variable{X:Cx}{aj:aA}{W:WX}{q:Bool}{e:Expr}{pos:Pos}
theorem Xd{j:Nat}{y:Str}{py:Pos}{elt tg iter:Expr}{cpos:Pos}{scope:Scope}{own:List (Str×Nat)}{it:IF}{tgf:bY}{js:List Nat}{tt:QT}{te:QF}{ifs:List Expr}(hc:X.calm=true)(hN:X.N.Nodup)(hy:X.N[j]?=some y)(hyl:X.env.scope.names.lookup y=some .local)
  (hsw:swapsWith (.ListComp elt [⟨tg,iter,ifs,0⟩] scope cpos) (some (.Name y py)) pos.line X.env=pure true) (hi:QI aj X W false tg iter it) (ok:blkC X.N X.env.scope scope own=true) (hj:∀j∈js,j∈own.map (·.2))
  (hg:∀(s:Shared) (H:Hp) (C:Addr) (cl:List (Str×Addr)) (fp:List Addr),QG aj (X.blk s H scope (compEnvC scope cl C X.env) fp) tg js tgf)
  (ht:∀(s:Shared) (H:Hp) (C:Addr) (cl:List (Str×Addr)) (fp:List Addr),PTs (X.blk s H scope (compEnvC scope cl C X.env) fp) ifs (dY X.K aj WF tt))
  (he:∀(s:Shared) (H:Hp) (C:Addr) (cl:List (Str×Addr)) (fp:List Addr),QE aj (X.blk s H scope (compEnvC scope cl C X.env) fp) WF elt te) (hs:∀x,foldedSetIterable iter X.env x=pure x) :
  SE aj X W q (.Assign [.Name y py] (.ListComp elt [⟨tg,iter,ifs,0⟩] scope cpos) pos) (pA j (nu it tgf (own.map (·.2)) tt te)):=by
 refine PS.weak (ps_setLc (g:=lO X.K aj js tgf) (tt:=dY X.K aj WF tt) (te:=tQ X.K aj WF te) hc hN hy hyl hsw hi (blkOk_by ok) (λs H C cl fp=>hg s H C cl fp) ht (λs H C cl fp=>he s H C cl fp) hs) λD σ H h=>?_;exact Fq hj σ H _ (Ls D σ H h)
end
def Tt(t:Tr)(c:Tc)(elt tg iter:Expr)(ifs:List Expr)(scope:Scope):Option IF:=
 (t.I c false tg iter).bind λit=>(Ah (c.inn scope) tg).bind λjt=>(zM t (c.inn scope) ifs).bind λtt=>(t.E (c.inn scope) elt).bind λte=>
  gd (blkC c.N c.sc scope (gH tg jt.1)&&(wg jt.1 ((gH tg jt.1).map (·.2))&&!kY iter)) (some (nu it jt.2 ((gH tg jt.1).map (·.2)) tt te))
def zK(t:Tr)(c:Tc)(x:Str)(p:Pos)(elt tg iter:Expr)(ifs:List Expr)(scope:Scope)(cpos:Pos):Option SF:=
 (jH c x).bind λj=>gd (Tj c.sc (.ListComp elt [⟨tg,iter,ifs,0⟩] scope cpos) scope x p || RK c.sc (.ListComp elt [⟨tg,iter,ifs,0⟩] scope cpos) x p)
  (match c.ml.contains x with
  |true=>(Tt t c elt tg iter ifs scope).bind λf=>some (pA j f)
  |false=>(FZ t c elt tg iter ifs scope).bind λf=>some (aY (aD j) (gOf f)))
section
variable{aj:aA}{c:Tc}{X:Cx}{W:WX}{k:Nat}{t:Tr}{q:Bool}
theorem JT(o:t.Ok)(a:ji aj c X W k){x:Str}{p cpos pos:Pos}{elt tg iter:Expr}{ifs:List Expr}{scope:Scope}{f:SF}(h:zK t c x p elt tg iter ifs scope cpos=some f):SE aj X W q (.Assign [.Name x p] (.ListComp elt [⟨tg,iter,ifs,0⟩] scope cpos) pos) f:=by
 unfold zK at h;obtain⟨j,hj,h⟩:=afq.mp h;obtain⟨hsw,h⟩:=aC.mp h;obtain⟨s1,s2,s3⟩:=fB a.toAmb hj;rw[agc]at hsw;split at h
 .obtain⟨f1,h1,h⟩:=afq.mp h;cases h;unfold Tt at h1;obtain⟨it,h2,h1⟩:=afq.mp h1;obtain⟨⟨js,tf⟩,h3,h1⟩:=afq.mp h1;obtain⟨tt,h4,h1⟩:=afq.mp h1;obtain⟨te,h5,h1⟩:=afq.mp h1;obtain⟨hb,h1⟩:=aC.mp h1;cases h1;simp only[afs,afB]at hb;obtain⟨b1,b2,b3⟩:=hb;rcases hsw with hsw|hsw
  .rw[<-a.hs]at hsw;obtain⟨l1,l2⟩:=xY (l:=pos.line) a.kf hsw;exact Xd a.calm a.nd s1 l1 l2 (o.oi a.toAmb h2) (by rw[a.hN,a.hs];exact b1) (gG b2) (λs H C cl fp=>jF (a.toAmb.inn scope s H C cl fp) h3) (λs H C cl fp=>jM o (a.toAmb.inn scope s H C cl fp) h4) (λs H C cl fp=>o.oe (a.toAmb.inn scope s H C cl fp) h5) (iI b3)
  .exact Oj a.nd s1 s2 s3 (abw a.calm a.nd (o.oi a.toAmb h2) (by rw[a.hN,a.hs];exact b1) (gG b2) (λs H C cl fp=>jF (a.toAmb.inn scope s H C cl fp) h3) (λs H C cl fp=>jM o (a.toAmb.inn scope s H C cl fp) h4) (λs H C cl fp=>o.oe (a.toAmb.inn scope s H C cl fp) h5) (iI b3)) (Nb (by rw[a.hs];exact hsw))
 .obtain⟨f1,h1,h⟩:=afq.mp h;cases h;rcases hsw with hsw|hsw
  .rw[<-a.hs]at hsw;obtain⟨l1,l2⟩:=xY (l:=pos.line) a.kf hsw;unfold FZ at h1;obtain⟨it,h2,h1⟩:=afq.mp h1;obtain⟨⟨js,tf⟩,h3,h1⟩:=afq.mp h1;obtain⟨tt,h4,h1⟩:=afq.mp h1;obtain⟨te,h5,h1⟩:=afq.mp h1;obtain⟨hb,h1⟩:=aC.mp h1;cases h1;simp only[afs,afB]at hb;obtain⟨b1,b2,b3⟩:=hb;exact Zx a.calm a.nd s1 l1 l2 (o.oi a.toAmb h2) (by rw[a.hN,a.hs];exact b1) (gG b2) (λs H C cl fp=>jF (a.toAmb.inn scope s H C cl fp) h3) (λs H C cl fp=>jM o (a.toAmb.inn scope s H C cl fp) h4) (λs H C cl fp=>o.oe (a.toAmb.inn scope s H C cl fp) h5) (iI b3)
  .exact Fo (Ud (Jv o a.toAmb h1)) (yK a.nd s1 s2 s3) (Nb (l:=pos.line) (by rw[a.hs];exact hsw)) (by with_unfolding_all rfl) (by with_unfolding_all rfl)
end
theorem mX{tg e:Expr}{l:Nat}{env:PySem.Env}(h:nQ e=false):swapsWithSole [tg] e l env=pure false:=qD h
theorem V5{x:Str}{p spos:Pos}{i:Expr}{env:PySem.Env}(h:v9 i=false):∀v,assign (.Subscript (.Name x p) i spos) env v=(do
   let ov <-holding [v] (eval (.Name x p) env)
   let iv <-holding [v,ov] (eval i env)
   standAt spos
   holding [v,ov,iv] (setItem ov iv v)
   release [v,ov,iv] []):=λv=>by
 cases i<;>first | (with_unfolding_all rfl) | cases h
def Kh(t:Tr)(s:Ts)(c:Tc):Expr->Expr->Option SF
 |.Name x p,.ListComp elt [⟨tg,iter,ifs,0⟩] scope cpos=>zK t c x p elt tg iter ifs scope cpos
 |.Name x _,e=>(jH c x).bind λj=>match c.ml.contains x with
  |true=>(Ub t c e).bind λf=>some (pA j f)
  |false=>gd (!nQ e) ((s.G c e).bind λf=>some (aY (aD j) f))
 |.Tuple [.Name x _,.Starred (.Name y _) _] _ _,e=>(jH c x).bind λi=>(jH c y).bind λj=>gd (!nQ e&&!Ke e) ((s.G c e).bind λf=>some (Cd i j f))
 |.Tuple ts _ _,e=>(Fv c ts).bind λjs=>gd (!nQ e&&!Ke e) ((s.G c e).bind λf=>some (aY (cC js) f))
 |.Subscript (.Name x _) i _,e=>(nR c x).bind λj=>gd (c.ml.contains x&&(!nQ e&&!v9 i)) ((t.E c e).bind λf=>(t.E c i).bind λfi=>some (wW j fi f))
 |_,_=>none
theorem yd{tg e:Expr}{env:PySem.Env}(h:Ke e=false):swappedStores [tg] e env=pure none:=by cases tg<;>first | rfl | (cases e<;>first | rfl | cases h)
section
variable{aj:aA}{c:Tc}{X:Cx}{W:WX}{k:Nat}{t:Tr}{s:Ts}{q:Bool}
theorem R9(o:t.Ok)(os:s.Ok q)(a:ji aj c X W k){tg e:Expr}{pos:Pos}{f:SF}(h:Kh t s c tg e=some f):SE aj X W q (.Assign [tg] e pos) f:=by
 unfold Kh at h;split at h
 .exact JT o a h
 .obtain⟨j,hj,h⟩:=afq.mp h;obtain⟨s1,s2,s3⟩:=fB a.toAmb hj;split at h
  .obtain⟨f1,h1,h⟩:=afq.mp h;cases h;obtain⟨i1,i2⟩:=M6 o a.toAmb h1;exact Oj a.nd s1 s2 s3 i1 (qD i2)
  .obtain⟨hc,h⟩:=aC.mp h;obtain⟨f1,h1,h⟩:=afq.mp h;cases h;exact Fo (os.og a h1) (yK a.nd s1 s2 s3) (mX (by simpa using hc)) (by with_unfolding_all rfl) (by with_unfolding_all rfl)
 .obtain⟨i,hi,h⟩:=afq.mp h;obtain⟨j,hj,h⟩:=afq.mp h;obtain⟨hc,h⟩:=aC.mp h;obtain⟨f1,h1,h⟩:=afq.mp h;cases h;simp only[afs,afB]at hc;exact VJ a.calm a.nd (fB a.toAmb hi) (fB a.toAmb hj) (os.og a h1) (mX hc.1) (yd hc.2)
 .obtain⟨js,hj,h⟩:=afq.mp h;obtain⟨hc,h⟩:=aC.mp h;obtain⟨f1,h1,h⟩:=afq.mp h;cases h;simp only[afs,afB]at hc;exact Fo (os.og a h1) (Mq a.calm a.nd (yR a.toAmb hj)) (mX hc.1) (yd hc.2) (by with_unfolding_all rfl)
 .obtain⟨j,hj,h⟩:=afq.mp h;obtain⟨hc,h⟩:=aC.mp h;obtain⟨f1,h1,h⟩:=afq.mp h;obtain⟨fi,h2,h⟩:=afq.mp h;cases h;simp only[afs,afB]at hc;obtain⟨s1,s2,s3,s4⟩:=jc a.toAmb hj;exact Uq s1 s2 s3 s4 (o.oe a.toAmb h1) (o.oe a.toAmb h2) (V5 hc.2.2) (mX hc.2.1) (by with_unfolding_all rfl)
 .cases h
end
def Kr(s:Ts)(c:Tc):List Stmt->Option SF
 |[]=>some aH
 |[a]=>s.S c a
 |a::b::r=>(s.S c a).bind λf=>(s.B c (b::r)).bind λg=>some (aF f g)
def Yy(t:Tr)(s:Ts)(c:Tc):Stmt->Option SF
 |.Assign [tg] e _=>Kh t s c tg e
 |.Assign [.Name x _,.Name y _] e _=>(jH c x).bind λi=>(jH c y).bind λj=>gd (!Ke e) ((s.G c e).bind λf=>some (Kg i j f))
 |.AugAssign (.Name x _) .Add e _=>(jH c x).bind λj=>(t.E c e).bind λf=>some (KR j f)
 |.Expr (.Call (.Attribute (.Name x _) m apos) [e] [] pos) _=>(nR c x).bind λj=>gd (m=="append"&&(c.ml.contains x&&(nst e&&(apos.endLine==pos.line)))) ((t.E c e).bind λf=>some (pB j f))
 |.Return (some e) _=>(match t.E c e with
  |some f=>some (aJ f)
  |none=>(s.G c e).bind λf=>some (Lk f))
 |.If d s1 s2 _=>(s.B c s1).bind λf=>(s.B c s2).bind λg=>(t.T c d).bind λtd=>some (bx td f g)
 |.For tg iter body [] _=>(t.I c true tg iter).bind λit=>(Ah c tg).bind λjt=>(s.B c body).bind λf=>gd (!kY iter) (some (lW it jt.2 f))
 |_=>none
section
variable{aj:aA}{c:Tc}{X:Cx}{W:WX}{k:Nat}{t:Tr}{s:Ts}{q:Bool}
theorem QM(os:s.Ok q)(a:ji aj c X W k){b:List Stmt}{f:SF}(h:Kr s c b=some f):rK aj X W q b f:=by
 unfold Kr at h;split at h
 .cases h;exact YB
 .exact GP (os.os a h)
 .obtain⟨f1,h1,h⟩:=afq.mp h;obtain⟨f2,h2,h⟩:=afq.mp h;cases h;exact WR (os.os a h1) (os.ob a h2)
theorem Y4(o:t.Ok)(os:s.Ok q)(a:ji aj c X W k){st:Stmt}{f:SF}(h:Yy t s c st=some f):SE aj X W q st f:=by
 unfold Yy at h;split at h
 .exact R9 o os a h
 .obtain⟨i,hi,h⟩:=afq.mp h;obtain⟨j,hj,h⟩:=afq.mp h;obtain⟨hc,h⟩:=aC.mp h;obtain⟨f1,h1,h⟩:=afq.mp h;cases h;exact Vg a.nd (fB a.toAmb hi) (fB a.toAmb hj) (os.og a h1) (by with_unfolding_all rfl)
 .obtain⟨j,hj,h⟩:=afq.mp h;obtain⟨f1,h1,h⟩:=afq.mp h;cases h;obtain⟨s1,s2,s3⟩:=fB a.toAmb hj;exact ZM a.nd s1 s2 s3 (o.oe a.toAmb h1)
 .obtain⟨j,hj,h⟩:=afq.mp h;obtain⟨hc,h⟩:=aC.mp h;obtain⟨f1,h1,h⟩:=afq.mp h;cases h;simp only[afs]at hc;cases agv hc.1;obtain⟨s1,s2,s3,s4⟩:=jc a.toAmb hj;exact aal s1 s2 s3 s4 (o.oe a.toAmb h1) hc.2.2.1 hc.2.2.2
 .split at h
  .next f1 h1=>
   cases h;exact O6 (o.oe a.toAmb h1)
  .obtain⟨f1,h1,h⟩:=afq.mp h;cases h;exact Uu (os.og a h1)
 .obtain⟨f1,h1,h⟩:=afq.mp h;obtain⟨f2,h2,h⟩:=afq.mp h;obtain⟨td,h3,h⟩:=afq.mp h;cases h;exact aaQ (o.ot a.toAmb h3) (os.ob a h1) (os.ob a h2)
 .obtain⟨it,h1,h⟩:=afq.mp h;obtain⟨⟨js,tf⟩,h2,h⟩:=afq.mp h;obtain⟨f1,h3,h⟩:=afq.mp h;obtain⟨hc,h⟩:=aC.mp h;cases h;exact Xa a.ps a.calm (o.oi a.toAmb h1) (jF a.toAmb h2) (os.ob a h3) (iI (by simpa using hc))
 .cases h
end
abbrev GA:=Mo->Env->aV (List Dat)
def aah(a:GF)(r:GA):GA:=λM ρ=>(a M ρ).bind λd M1=>(r M1 ρ).bind λds M2=>.ok (d::ds) M2
def YZ(m:Mo->List Dat->aV Dat)(as:GA):GF:=λM ρ=>(as M ρ).bind λds M1=>m M1 ds
def Zd(m:Mo->List Dat->Out Dat)(as:GA):GF:=λM ρ=>(as M ρ).bind λds M1=>(m M1 ds).at M1
section
variable{X:Cx}{aj:aA}{W:WX}{q:Bool}{a b e:Expr}{es:List Expr}{pos p:Pos}
variable{x:Str}{k:Nat}{f:Addr}{fd:FuncData}{ps:List Str}
def aa6(a:GT):GT:=λM ρ=>(a M ρ).bind λb M1=>.ok (!b) M1
def abj(a b:GT):GT:=λM ρ=>(a M ρ).bind λx M1=>if x=true then b M1 ρ else .ok false M1
def acq(a b:GT):GT:=λM ρ=>(a M ρ).bind λx M1=>if x=true then .ok true M1 else b M1 ρ
def aaO(a:GF):GT:=λM ρ=>(a M ρ).bind λd M1=>(qT d).at M1
end
section
variable{aj:aA}{c:Tc}{X:Cx}{W:WX}{k:Nat}{t:Tr}{s:Ts}{q:Bool}
def xG(t:Tr)(s:Ts)(c:Tc):Expr->Option GF
 |.Call (.Name x _) [] [] _=>(match c.G.lookup x with
  |some (.cls 0 m)=>gd (kE c.sc x&&!kh x) (some (wz x m aG))
  |_=>none)
 |.Call (.Name x _) (e::es) [] _=>(match c.G.lookup x with
  |some (.fg n m)=>gd (kE c.sc x&&(!kh x&&decide ((e::es).length=n))) ((pK t c (e::es)).bind λas=>some (KC m as))
  |some (.cls n m)=>gd (kE c.sc x&&(!kh x&&decide ((e::es).length=n))) ((pK t c (e::es)).bind λas=>some (wz x m as))
  |_=>none)
 |.Call (.Attribute o m apos) es [] pos=>(c.hs.Ms.lookup m).bind λtb=>(t.W c o).bind λfo=>(pK t c es).bind λas=>
  gd (Zk tb (es.length+1)&&(baseOk o&&(decide (es.length<30)&&(apos.endLine==pos.line)))) (some (xQ tb fo as))
 |_=>none
theorem abv(o:t.Ok)(os:s.Ok false)(a:ji aj c X W k){e:Expr}{f:GF}(h:xG t s c e=some f):GE aj X W false e f:=by
 unfold xG at h;split at h
 .split at h
  .next m hl=>
   obtain⟨hb,h⟩:=aC.mp h;cases h;simp only[afs,afB]at hb;exact Wb a.rm (a.gl _ _ hl) (dR a.toAmb hb.1) (dU hb.2).1
  .cases h
 .split at h
  .next n m hl=>
   obtain⟨hb,h⟩:=aC.mp h;simp only[afs,afB,ago]at hb;obtain⟨b1,b2,b3⟩:=hb;obtain⟨fa,hm,hk,fd,ps,j,hj,hp,hB,F⟩:=a.gl _ _ hl;obtain⟨as,h1,h⟩:=afq.mp h;cases h;obtain⟨i1,i2,i3⟩:=iU o a.toAmb h1;exact Vx (a.tw hl rfl) F (a.rm.mono hj) (dR a.toAmb b1) hm hk hB i1 (b3.trans hp.symm) (dU b2).1 i2 i3
  .next n m hl=>
   obtain⟨hb,h⟩:=aC.mp h;simp only[afs,afB,ago]at hb;obtain⟨b1,b2,b3⟩:=hb;obtain⟨as,h1,h⟩:=afq.mp h;cases h;obtain⟨i1,i2,i3⟩:=iU o a.toAmb h1;exact W8 a.rm (a.gl _ _ hl) (dR a.toAmb b1) (dU b2).1 i1 i2 (λM ρ ds z=>by rw[i3 M ρ ds z];exact b3)
  .cases h
 .next b m apos es pos=>
  obtain⟨tb,h1,h⟩:=afq.mp h;obtain⟨fo,h2,h⟩:=afq.mp h;obtain⟨as,h3,h⟩:=afq.mp h;obtain⟨hb,h⟩:=aC.mp h;cases h;simp only[afs,ago]at hb;obtain⟨b2,b3,b4,b5⟩:=hb;obtain⟨i1,i2,i3⟩:=iU o a.toAmb h3;cases es with
  |nil=>
   cases h3;exact Tg (a.tm h1) a.rm (CT a.toAmb h1 b2) (o.ow a.toAmb h2) b3 b5
  |cons e es=>exact Wd (a.tm h1) a.rm (CT a.toAmb h1 b2) (o.ow a.toAmb h2) i1 i3 b3 i2 b5 b4
 .cases h
theorem qP{e o:Expr}{f:Str}{p:Pos}{l:Nat}{env:PySem.Env}:swapsWith e (some (.Attribute o f p)) l env=pure false:=by cases e<;>rfl
theorem QL{e o:Expr}{i:Expr}{p:Pos}{l:Nat}{env:PySem.Env}:swapsWith e (some (.Subscript o i p)) l env=pure false:=by cases e<;>rfl
theorem Sh{o:Expr}{f:Str}{p spos:Pos}{i:Expr}{env:PySem.Env}(h:v9 i=false):∀v,assign (.Subscript (.Attribute o f p) i spos) env v=(do
   let ov <-holding [v] (eval (.Attribute o f p) env)
   let iv <-holding [v,ov] (eval i env)
   standAt spos
   holding [v,ov,iv] (setItem ov iv v)
   release [v,ov,iv] []):=λv=>by
 cases i<;>first | (with_unfolding_all rfl) | cases h
def XH(t:Tr)(c:Tc)(kx tg iter:Expr)(scope:Scope):Option (Mo->Env->Out (List (Dat×Dat))):=
 (t.I c false tg iter).bind λit=>(Ah (c.inn scope) tg).bind λjt=>(t.E (c.inn scope) kx).bind λte=>
  gd (blkC c.N c.sc scope (gH tg jt.1)&&(wg jt.1 ((gH tg jt.1).map (·.2))&&!kY iter)) (some (Z5 it jt.2 ((gH tg jt.1).map (·.2)) te))
theorem RX(a:Amb aj c X W k):X.A.units+64<cLine:=by have:=a.rm.un;omega
def Qq(t:Tr)(s:Ts)(c:Tc)(o:Expr)(f:Str):Expr->Option SF
 |.Dict [] [] _=>(t.W c o).bind λfo=>(c.hs.df.lookup f).bind λb=>some (Cz c.hs.ft fo f b)
 |.DictComp kx (.Constant (.bool true) _ _) [⟨tg,iter,[],0⟩] scope _=>(t.W c o).bind λfo=>(XH t c kx tg iter scope).bind λfe=>some (Cg c.hs.ft fo f fe)
 |.List es p=>(t.W c o).bind λfo=>(Ub t c (.List es p)).bind λfe=>some (Ce c.hs.ft fo f fe)
 |e=>gd (!nQ e) ((t.W c o).bind λfo=>(s.G c e).bind λfe=>some (Km c.hs.ft fo f fe))
theorem Vt(ot:t.Ok)(os:s.Ok false)(a:ji aj c X W k){o e:Expr}{f:Str}{p pos:Pos}{sf:SF}(h:Qq t s c o f e=some sf):SE aj X W false (.Assign [.Attribute o f p] e pos) sf:=by
 have hk:=a.hk;unfold Qq at h;split at h
 .obtain⟨fo,h1,h⟩:=afq.mp h;obtain⟨b,h2,h⟩:=afq.mp h;cases h;exact Vy hk.co hk.fk hk.hw (ot.ow a.toAmb h1) qP
 .obtain⟨fo,h1,h⟩:=afq.mp h;obtain⟨fe,h2,h⟩:=afq.mp h;cases h;unfold XH at h2;obtain⟨it,i1,h2⟩:=afq.mp h2;obtain⟨⟨js,tf⟩,i2,h2⟩:=afq.mp h2;obtain⟨te,i3,h2⟩:=afq.mp h2;obtain⟨hb,h2⟩:=aC.mp h2;cases h2;simp only[afs,afB]at hb;obtain⟨b1,b2,b3⟩:=hb;exact Vq hk.co hk.fk (ot.ow a.toAmb h1) (YX (g:=lO X.K aj js tf) (tk:=tQ X.K aj WF te) a.calm a.nd (RX a.toAmb) (ot.oi a.toAmb i1) (blkOk_by (by rw[a.hN,a.hs];exact b1)) (λs H C cl fp=>jF (a.toAmb.inn _ s H C cl fp) i2) (λs H C cl fp=>ot.oe (a.toAmb.inn _ s H C cl fp) i3) (iI b3)) (λσ H Q z=>abh hk.hw (gG b2) σ H Q z) qP
 .obtain⟨fo,h1,h⟩:=afq.mp h;obtain⟨fe,h2,h⟩:=afq.mp h;cases h;exact WD hk.co hk.fk (ot.ow a.toAmb h1) (M6 ot a.toAmb h2).1 qP
 .obtain⟨hc,h⟩:=aC.mp h;obtain⟨fo,h1,h⟩:=afq.mp h;obtain⟨fe,h2,h⟩:=afq.mp h;cases h;exact Wh hk.co hk.fk (ot.ow a.toAmb h1) (os.og a h2) qP
def Dy(n:Str):List Expr->Option (List Str)
 |[]=>some []
 |.Attribute (.Name m _) f _::es=>gd (m==n) ((Dy n es).bind λfs=>some (f::fs))
 |_=>none
def KH(nm:Option Str):Expr->Option oK
 |.Constant (.str x) _ _=>some (.con (.str x))
 |.Constant .none _ _=>some (.con .none)
 |.Tuple [] _ _=>some (.con (.tuple []))
 |.Attribute (.Name m _) f _=>nm.bind λn=>gd (m==n) (some (.fld f))
 |.Tuple es _ _=>nm.bind λn=>(Dy n es).bind λfs=>some (.flds fs)
 |_=>none
def oK.fs:oK->List Str
 |.con _=>[]
 |.fld f=>[f]
 |.flds fs=>fs
def JR(c:Tc)(nm:Option Str):List Stmt->Option (List (Nat×oK))
 |[]=>some []
 |.Assign [.Name x _] e _::r=>(jH c x).bind λj=>(KH nm e).bind λse=>(JR c nm r).bind λst=>some ((j,se)::st)
 |_=>none
def zG(c:Tc):Option Str->Option (Option Nat)
 |none=>some none
 |some n=>(nR c n).bind λi=>match c.sc.names.lookup n with
  |some .local=>some (some i)
  |_=>none
def Rc(c:Tc):ExceptHandler->Option Hd
 |.ExceptHandler (some (.Name y _)) nm (s0::su) _=>(c.hs.xm.lookup y).bind λtab=>(zG c nm).bind λi=>(JR c nm (s0::su)).bind λst=>
  (match c.G.lookup y with
  |some .exc=>some true
  |some (.exi _)=>some true
  |_=>none).bind λ_=>
  gd (kE c.sc y&&(!kh y&&(st.all (λp=>match i with
   |some j=>!(j==p.1)
   |none=>true)&&st.all (λp=>p.2.fs.all (λf=>((c.hs.xf.lookup y).getD []).contains f)&&decide (p.2.fs.length<=100))))) (some ⟨y,λx=>tab.lookup x,i,st⟩)
 |_=>none
def uN(c:Tc):List ExceptHandler->Option (List Hd)
 |[]=>some []
 |h::hs=>(Rc c h).bind λd=>(uN c hs).bind λds=>some (d::ds)
theorem Ih{y n:Str}{C:Addr}{a:Addr}{oe:Obj}{cls:Value}{d:Option Addr}{pn:List (Addr×Obj)}{j:Nat}{fl:List Str}(hC:aj y=some C)(T:XfC X.K C)(hno:∀f∈fl,PySem.W.findIn X.K (.ref C) f=some none)(hz:Zc cls d oe)(hf:∃vs,oe.data=.fields vs)(hN:X.N[j]?=some n)(hv:Vis X.env.scope n)(hd:(n==("__debug__" : Str))=false)(hcd:(n==("__classdict__" : Str))=false) :
  ∀{es:List Expr} {fs:List Str},Dy n es=some fs->(∀f∈fs,f∈fl)->PA (X.suite a ((a,oe)::pn)) es (Pk X.K aj a cls d (some j) λx=>yt y x fs)
 |[],fs,h,_=>by
  cases h;exact NK
 |.Attribute (.Name m p) f p2::es,fs,h,hs=>by
  rw[Dy]at h;obtain⟨hm,h⟩:=aC.mp h;obtain⟨fr,h1,h⟩:=afq.mp h;cases h;cases agv hm;exact Uz (M7 hC T (hno f (hs f afv)) hz hf hN hv hd hcd) (Ih hC T hno hz hf hN hv hd hcd h1 λf hf=>hs f (afu _ hf)) rfl
theorem Wj{y:Str}{nm:Option Str}{i:Option Nat}{a:Addr}{oe:Obj}{cls:Value}{d:Option Addr}{pn:List (Addr×Obj)}{e:Expr}{se:oK}(am:Amb aj c X W k)(hi:zG c nm=some i)(hy:(c.hs.xf.lookup y).getD []=fl)(hfl:∀f∈se.fs,f∈fl)(hl:se.fs.length<=100)(hz:Zc cls d oe)(hf:∃vs,oe.data=.fields vs)(h:KH nm e=some se) :
  PE (X.suite a ((a,oe)::pn)) e (tU X.K aj a cls d i λx=>Fb y x se):=by
 have fld:∀n j,nm=some n->i=some j->X.N[j]?=some n/\Vis X.env.scope n/\(n==("__debug__" : Str))=false/\(n==("__classdict__" : Str))=false:=λn j e1 e2=>by
  subst e1 e2;unfold zG at hi;obtain⟨j',h1,hi⟩:=afq.mp hi;split at hi
  .cases hi;exact jc am h1
  .cases hi
 have hsome:∀n,nm=some n->∃j,i=some j:=λn e1=>by
  subst e1;unfold zG at hi;obtain⟨j',h1,hi⟩:=afq.mp hi;split at hi
  .cases hi;exact⟨_,rfl⟩
  .cases hi
 have hxf:fl≠[]->∃C,aj y=some C/\XfC X.K C/\∀f∈fl,PySem.W.findIn X.K (.ref C) f=some none:=λne=>by
  cases hx:c.hs.xf.lookup y with
  |none=>
   rw[hx]at hy;exact absurd hy.symm ne
  |some l=>
   rw[hx]at hy;cases hy;exact am.hk.xf y _ hx
 unfold KH at h;split at h
 .cases h;exact O9 pe_str λσ H Q ⟨g,ρ,M,x,z,I,e,kk⟩=>by
   cases e;exact kk _ H (Ex.refl H) (.str _)
 .cases h;exact O9 pe_non λσ H Q ⟨g,ρ,M,x,z,I,e,kk⟩=>by
   cases e;exact kk _ H (Ex.refl H) .non
 .cases h;exact PE.weak (O2 (aj:=aj) (cls:=cls) (d:=d) (i:=i) NK λx zs e=>by cases e;exact afU _) λσ H Q z=>z
 .obtain⟨n,e1,h⟩:=afq.mp h;obtain⟨hm,h⟩:=aC.mp h;cases h;cases agv hm;obtain⟨j,rfl⟩:=hsome _ e1;obtain⟨f1,f2,f3,f4⟩:=fld _ j e1 rfl;obtain⟨C,c1,c2,c3⟩:=hxf (List.ne_nil_of_mem (hfl _ (afJ.mpr rfl)));exact M7 c1 c2 (c3 _ (hfl _ (afJ.mpr rfl))) hz hf f1 f2 f3 f4
 .next es _ _ hne=>
  obtain⟨n,e1,h⟩:=afq.mp h;obtain⟨fs,e2,h⟩:=afq.mp h;cases h;obtain⟨j,rfl⟩:=hsome _ e1;obtain⟨f1,f2,f3,f4⟩:=fld _ j e1 rfl;have hfs:fs≠[]:=λz=>by
   subst z
   match es,e2 with
   |[],_=>exact hne rfl
   |.Attribute (.Name m _) f _::es,e2=>
    rw[Dy]at e2;obtain⟨_,e2⟩:=aC.mp e2;obtain⟨_,_,e2⟩:=afq.mp e2;cases e2
  have hfn:fl≠[]:=by
   cases fs with
   |nil=>exact absurd rfl hfs
   |cons f r=>exact List.ne_nil_of_mem (hfl f afv)
  obtain⟨C,c1,c2,c3⟩:=hxf hfn;exact O2 (Ih c1 c2 c3 hz hf f1 f2 f3 f4 e2 hfl) λx zs e=>by
   have:=Br e;have hl:fs.length<=100:=hl;omega
 .cases h
theorem zQ{y:Str}{nm:Option Str}{i:Option Nat}{a:Addr}{oe:Obj}{cls:Value}{d:Option Addr}{pn:List (Addr×Obj)}{fl:List Str}(am:Amb aj c X W k)(hi:zG c nm=some i)(hy:(c.hs.xf.lookup y).getD []=fl)(hz:Zc cls d oe)(hf:∃vs,oe.data=.fields vs) :
  ∀{ss:List Stmt} {st:List (Nat×oK)},JR c nm ss=some st->(∀p∈st,(∀f∈p.2.fs,f∈fl)/\p.2.fs.length<=100)->PSs (X.suite a ((a,oe)::pn)) ss (Ij X.K aj a cls d i y st)
 |[],st,h,_=>by
  cases h;exact PSs.weak pss_nil λD σ H z=>Y0 z
 |.Assign [.Name x p] e p2::r,st,h,hs=>by
  rw[JR]at h;obtain⟨j,h1,h⟩:=afq.mp h;obtain⟨se,h2,h⟩:=afq.mp h;obtain⟨st',h3,h⟩:=afq.mp h;cases h;obtain⟨s1,s2,s3⟩:=fB am h1;obtain⟨u1,u2⟩:=hs (j,se) afv;have he:=Wj (a:=a) (pn:=pn) am hi hy u1 u2 hz hf h2;have hne:nQ e=false/\swappedStores [.Name x p] e X.env=pure none:=by unfold KH at h2;split at h2<;>first | exact⟨rfl,rfl⟩ | cases h2
  refine PSs.weak (pss_cons (ps_asg he (pg_name (X:=X.suite a ((a,oe)::pn)) am.nd s1 s2 s3) (mX hne.1) hne.2 (by with_unfolding_all rfl)) (zQ am hi hy hz hf h3 λp hp=>hs p (afu _ hp))) λD σ H z=>?_;exact Xq z λσ' H' z'=>z'
def acn(aj:aA)(K:afr)(h:Hd)(D:Addr):Cl:=⟨.ref D,h.nm,λa cls d=>Ij K aj a cls d h.nm h.y h.st⟩
theorem Ey(am:Amb aj c X W k):∀{hds:List ExceptHandler} {hs:List Hd},uN c hds=some hs->∃ls,mD X hds ls/\pP X.K aj hs ls
 |[],hs,h=>by
  cases h;exact⟨[],.nil,.nil⟩
 |h0::hds,hs,h=>by
  rw[uN]at h;obtain⟨d,h1,h⟩:=afq.mp h;obtain⟨ds,h2,h⟩:=afq.mp h;cases h;obtain⟨ls,i1,i2⟩:=Ey am h2;unfold Rc at h1;split at h1
  .next y np nm s0 su cp=>
   obtain⟨tab,j1,h1⟩:=afq.mp h1;obtain⟨i,j2,h1⟩:=afq.mp h1;obtain⟨st,j3,h1⟩:=afq.mp h1;obtain⟨_,j4,h1⟩:=afq.mp h1;obtain⟨hb,h1⟩:=aC.mp h1;cases h1;simp only[afs,afB]at hb;obtain⟨b1,b2,b3,b4⟩:=hb;obtain⟨⟨D,hD⟩,hx⟩:=am.hk.xm y tab j1;have hm:X.mg y=some (.ref D):=by
    split at j4
    .next hl=>
     obtain⟨C,g1,g2,_⟩:=am.gl y _ hl;rw[hD]at g2;cases g2;exact g1
    .next hl=>
     obtain⟨C,fI,fd,ps,g1,g2,_⟩:=am.gl y _ hl;rw[hD]at g2;cases g2;exact g1
    .cases j4
   have hnames:Names X y (.ref D):=⟨dR am b1,(dU b2).1,.inl hm⟩;have hst:∀p∈st,(∀f∈p.2.fs,f∈(c.hs.xf.lookup y).getD [])/\p.2.fs.length<=100:=λp hp=>by
    have:=afC.mp b4 p hp;rw[afs,ago]at this;exact⟨λf hf=>by simpa using afC.mp this.1 f hf,this.2⟩
   have hnj:∀p∈st,i≠some p.1:=λp hp z=>by
    subst z;have:=afC.mp b3 p hp;simp at this
   refine⟨acn aj X.K ⟨y,λx=>tab.lookup x,i,st⟩ D::ls,?_,.cons ⟨⟨D,hD,rfl⟩,hx,rfl,rfl,hnj⟩ i2⟩;cases nm with
   |none=>
    cases j2;exact .one hnames rfl (λa oe cls d pn hz hf=>zQ am rfl rfl hz hf j3 hst) i1
   |some n=>
    have j2':=j2;unfold zG at j2;obtain⟨i',s1,j2⟩:=afq.mp j2;split at j2
    .next hloc=>
     cases j2;refine .as hnames rfl (jc am s1).1 ?_ (λa oe cls d pn hz hf=>zQ am j2' rfl hz hf j3 hst) i1;unfold PySem.Env.kindOf;rw[am.hs];exact hloc
    .cases j2
  .cases h1
theorem Q6(a:Amb aj c X W k){h:ExceptHandler}{hds:List ExceptHandler}{hs:List Hd}(z:uN c (h::hds)=some hs):Takes X W:=
 a.tk.elim id λy=>by
  rw[uN]at z;obtain⟨d,h1,_⟩:=afq.mp z;unfold Rc at h1;rw[y.2.2]at h1;split at h1<;>cases h1
theorem ji.tr(a:ji aj c X W k){W':WX}{pn:List (Addr×Obj)}{xe:Value->Shared->Prop}(t:Takes (X.tr pn xe) W')(p:PassesOwn (model X.prog X.w) X.A X.env xe):ji aj c (X.tr pn xe) W' k where
 hN:=a.hN
 hs:=a.hs
 calm:=a.calm
 nd:=a.nd
 tk:=.inl t
 rm:=a.rm
 gl:=a.gl
 bl:=a.bl
 fn:=a.fn
 hk:=a.hk
 ps:=p
 st:=a.st
 fr:=a.fr
 kf:=a.kf
def xS(q:Bool)(t:Tr)(s:Ts)(c:Tc):Stmt->Option SF
 |.Raise (some (.Call (.Name x _) [] [] _)) none _=>(match c.G.lookup x with
  |some .exc=>gd (kE c.sc x&&!kh x) (some (iD x))
  |_=>none)
 |.Raise (some (.Call (.Name x _) (e::es) [] _)) none _=>(match c.G.lookup x with
  |some (.exi fs)=>(pK t c (e::es)).bind λas=>gd (kE c.sc x&&(!kh x&&(decide ((e::es).length=fs.length)&&decide (fs.length<=1000)))) (some (u5 x fs as))
  |_=>none)
 |.Try body (h::hds) [] [] _=>(s.B c body).bind λf=>(uN c (h::hds)).bind λhs=>some (Hf f hs)
 |.Pass _=>some aH
 |.Expr (.Call (.Attribute (.Attribute o f p1) m apos) [e] [] pos) epos=>(match q with
  |true=>(s.G c (.Call (.Attribute (.Attribute o f p1) m apos) [e] [] pos)).bind λf=>some (uU f)
  |false=>match m=="append" with
   |true=>gd (baseOk o&&(nst e&&(apos.endLine==pos.line))) ((t.W c o).bind λfo=>(s.G c e).bind λfe=>some (Cu f fo fe))
   |false=>(s.G c (.Call (.Attribute (.Attribute o f p1) m apos) [e] [] pos)).bind λf=>some (uU f))
 |.Expr e _=>gd (!nQ e) ((s.G c e).bind λf=>some (uU f))
 |.Assign [.Name x p] (.ListComp elt [⟨tg,iter,ifs,0⟩,⟨tg1,iter1,ifs1,0⟩] scope cpos) _=>(jH c x).bind λj=>
  gd (Tj c.sc (.ListComp elt [⟨tg,iter,ifs,0⟩,⟨tg1,iter1,ifs1,0⟩] scope cpos) scope x p&&!c.ml.contains x) ((wY t c elt tg iter ifs tg1 iter1 ifs1 scope).bind λf=>some (aY (aD j) (gOf f)))
 |.Assign [.Attribute o f _] e _=>(match q with
  |true=>none
  |false=>Qq t s c o f e)
 |.Assign [.Subscript (.Attribute o f _) i _] e _=>(match q with
  |true=>none
  |false=>gd (baseOk o&&(!v9 i&&!nQ e)) ((t.W c o).bind λfo=>(t.E c i).bind λfi=>(t.E c e).bind λfe=>match c.hs.df.lookup f with
   |some _=>some (Cv f fo fi fe)
   |none=>some (CW f fo fi fe)))
 |.AugAssign (.Attribute o f _) .Add e _=>(match q with
  |true=>none
  |false=>(t.W c o).bind λfo=>(t.E c e).bind λfe=>some (Cy c.hs.ft f fo fe))
 |.Delete [.Subscript (.Attribute o f _) i _] _=>(match q with
  |true=>none
  |false=>gd (baseOk o) ((t.W c o).bind λfo=>(t.E c i).bind λfi=>some (CQ f fo fi)))
 |_=>none
theorem aaX(o:t.Ok)(os:s.Ok q)(a:ji aj c X W k){st:Stmt}{f:SF}(h:xS q t s c st=some f):SE aj X W q st f:=by
 have hk:=a.hk;unfold xS at h;split at h
 .split at h
  .next hl=>
   obtain⟨hb,h⟩:=aC.mp h;cases h;simp only[afs,afB]at hb;exact a.tk.elim (λtk=>QJ a.calm tk (dR a.toAmb hb.1) (dU hb.2).1 (a.gl _ _ hl)) λz=>Nr a.calm z.1 (dR a.toAmb hb.1) (dU hb.2).1 (a.gl _ _ hl)
  .cases h
 .split at h
  .next fs hl=>
   obtain⟨as,h1,h⟩:=afq.mp h;obtain⟨hb,h⟩:=aC.mp h;cases h;simp only[afs,afB,ago]at hb;obtain⟨b1,b2,b3,b4⟩:=hb;obtain⟨i1,i2,i3⟩:=iU o a.toAmb h1;exact Ql a.calm (a.tw hl rfl) a.rm (dR a.toAmb b1) (dU b2).1 (a.gl _ _ hl) i1 i2 (λM ρ ds z=>by rw[i3 M ρ ds z];exact b3) b4
  .cases h
 .obtain⟨f1,h1,h⟩:=afq.mp h;obtain⟨hs,h2,h⟩:=afq.mp h;cases h;obtain⟨ls,i1,i2⟩:=Ey a.toAmb h2;exact Xz a.st a.fr a.nd (Q6 a.toAmb h2) (λW' pn xe t p=>os.ob (a.tr t p) h1) i1 i2
 .cases h;exact PS.weak ps_pass λD σ H ⟨g,ρ,M,I,z⟩=>z σ H g .refl I
 .split at h
  .obtain⟨f1,h1,h⟩:=afq.mp h;cases h;exact zP (os.og a h1) (qD rfl)
  .split at h
   .next hm=>
    obtain⟨hb,h⟩:=aC.mp h;obtain⟨fo,h1,h⟩:=afq.mp h;obtain⟨fe,h2,h⟩:=afq.mp h;cases h;simp only[afs]at hb;cases agv hm;exact Uv hk.co (o.ow a.toAmb h1) hb.1 (os.og a h2) hb.2.1 hb.2.2
   .obtain⟨f1,h1,h⟩:=afq.mp h;cases h;exact zP (os.og a h1) (qD rfl)
 .obtain⟨hb,h⟩:=aC.mp h;obtain⟨f1,h1,h⟩:=afq.mp h;cases h;exact zP (os.og a h1) (qD (by simpa using hb))
 .obtain⟨j,hj,h⟩:=afq.mp h;obtain⟨hsw,h⟩:=aC.mp h;rw[afs]at hsw;obtain⟨f1,h1,h⟩:=afq.mp h;cases h;obtain⟨s1,s2,s3⟩:=fB a.toAmb hj;have hsw:=hsw.1;rw[<-a.hs]at hsw;have l1:=(xY (l:=0) a.kf hsw).1;have l2:=λl=>(xY (l:=l) a.kf hsw).2;clear h;unfold wY at h1;obtain⟨it,g1,h⟩:=afq.mp h1;obtain⟨⟨js,tf⟩,h2,h⟩:=afq.mp h;obtain⟨tt,h3,h⟩:=afq.mp h;obtain⟨it1,h4,h⟩:=afq.mp h;obtain⟨⟨js1,tf1⟩,h5,h⟩:=afq.mp h;obtain⟨tt1,h6,h⟩:=afq.mp h;obtain⟨te,h7,h⟩:=afq.mp h;obtain⟨hb,h⟩:=aC.mp h;cases h;simp only[afs,afB]at hb;obtain⟨b1,b2,b3,b4,b5,b6⟩:=hb;have am:=a.toAmb;exact WQ a.calm a.nd s1 l1 (l2 _) (o.oi am g1) (by rw[a.hN,a.hs];exact b1) (gG b2) (gG b3) (gG b4) (λs H C cl fp=>jF (am.inn _ s H C cl fp) h2) (λs H C cl fp=>jM o (am.inn _ s H C cl fp) h3) (λs H C cl fp=>o.oi (am.inn _ s H C cl fp) h4) (λs H C cl fp=>jF (am.inn _ s H C cl fp) h5) (λs H C cl fp=>jM o (am.inn _ s H C cl fp) h6) (λs H C cl fp=>o.oe (am.inn _ s H C cl fp) h7) (iI b5) (λenv=>iI b6)
 .split at h
  .cases h
  .exact Vt o os a h
 .split at h
  .cases h
  .obtain⟨hb,h⟩:=aC.mp h;obtain⟨fo,h1,h⟩:=afq.mp h;obtain⟨fi,h2,h⟩:=afq.mp h;obtain⟨fe,h3,h⟩:=afq.mp h;simp only[afs,afB]at hb;obtain⟨b1,b2,b3⟩:=hb;split at h
   .cases h;exact Uw hk.co hk.hw (RX a.toAmb) (o.ow a.toAmb h1) b1 (o.oe a.toAmb h2) (o.oe a.toAmb h3) QL
   .cases h;exact VF hk.co (o.ow a.toAmb h1) b1 (o.oe a.toAmb h3) (o.oe a.toAmb h2) (Sh b2) (mX b3) (by with_unfolding_all rfl)
 .split at h
  .cases h
  .obtain⟨fo,h1,h⟩:=afq.mp h;obtain⟨fe,h2,h⟩:=afq.mp h;cases h;exact Ww hk.co hk.fk (o.ow a.toAmb h1) (o.oe a.toAmb h2)
 .split at h
  .cases h
  .obtain⟨hb,h⟩:=aC.mp h;obtain⟨fo,h1,h⟩:=afq.mp h;obtain⟨fi,h2,h⟩:=afq.mp h;cases h;exact V2 hk.co hk.hw (RX a.toAmb) (o.ow a.toAmb h1) hb (o.oe a.toAmb h2)
 .cases h
end
def tr0:Tr:=⟨λ_ _=>none,λ_ _=>none,λ_ _=>none,λ_ _ _ _=>none⟩
def X7(t:Tr):Tr:=⟨xtE t,xtW t,xtT t,xtI t⟩
def tr:Nat->Tr
 |0=>tr0
 |n+1=>X7 (tr n)
theorem lF:∀n,(tr n).Ok
 |0=>⟨λ_=>(by intro _ _ h;cases h),λ_=>(by intro _ _ h;cases h),λ_=>(by intro _ _ h;cases h),λ_=>(by intros;rename_i h;cases h)⟩
 |n+1=>⟨λa=>(by intro _ _ h;exact(iw h).elim (abu (lF n) a) (X6 (lF n) a)),λa=>(by intro _ _ h;exact(iw h).elim (aaH (lF n) a) (Za (lF n) a)),λa=>(by intro _ _ h;exact(iw h).elim (abg (lF n) a) (XS (lF n) a)),λa=>(by intro _ _ _ _ h;exact(iw h).elim (aa3 (lF n) a) (Z8 (lF n) a))⟩
def ts0:Ts:=⟨λ_ _=>none,λ_ _=>none,λ_ _=>none,λ_ _=>none⟩
def ldG(q:Bool)(t:Tr)(s:Ts)(c:Tc)(e:Expr):Option GF:=match q with
 |true=>none
 |false=>xG t s c e
def ldH(_:Bool)(_:Ts)(_:Tc)(_:Expr):Option GT:=none
def YG(q:Bool)(t:Tr)(s:Ts):Ts:=⟨λc e=>els ((t.E c e).bind λf=>some (gOf f)) (ldG q t s c e),λc e=>els ((t.T c e).bind λf=>some (RP f)) (ldH q s c e),λc e=>els (Yy t s c e) (xS q t s c e),Kr s⟩
def ts(q:Bool)(t:Tr):Nat->Ts
 |0=>ts0
 |n+1=>YG q t (ts q t n)
theorem uH{t:Tr}(o:t.Ok)(q:Bool):∀n,(ts q t n).Ok q
 |0=>⟨λ_=>(by intro _ _ h;cases h),λ_=>(by intro _ _ h;cases h),λ_=>(by intro _ _ h;cases h),λ_=>(by intros;rename_i h;cases h)⟩
 |n+1=>⟨λa=>by
   intro _ _ h;rcases iw h with h|h
   .obtain⟨f,h1,h⟩:=afq.mp h;cases h;exact Ud (o.oe a.toAmb h1)
   .cases q with
    |true=>cases h
    |false=>exact abv o (uH o false n) a h,λa=>by
   intro _ _ h;rcases iw h with h|h
   .obtain⟨f,h1,h⟩:=afq.mp h;cases h;exact abq (o.ot a.toAmb h1)
   ·(cases h),λa=>by
   intro _ _ h;rcases iw h with h|h
   .exact Y4 o (uH o q n) a h
   .exact aaX o (uH o q n) a h,λa=>by
   intro _ _ h;exact QM (uH o q n) a h⟩
def CK(f:QF)(tk:Str->Option Bool)(x:Str):SF:=λM ρ=>match f M (gj ρ) with
 |.ok d=>.ret d M
 |.exc e=>(match tk e.cls with
  |some true=>.exc ⟨x,[]⟩ ρ M
  |some false=>.exc e ρ M
  |none=>.bad)
 |.bad=>.bad
def QV(c:Tc):List Stmt->Option SF
 |[.Try [.Return (some (.Call (.Name f _) [.Name v _] [] _)) _] [.ExceptHandler (some (.Name y _)) none [.Raise (some (.Call (.Name x _) [] [] _)) (some (.Constant .none _ _)) _] _] [] [] _]=>
  (nR c v).bind λj=>(c.hs.xm.lookup y).bind λtab=>match c.G.lookup f,c.G.lookup y,c.G.lookup x with
   |some (.fqN 1 m),some .exc,some .exc=>gd (kE c.sc f&&(!kh f&&(kE c.sc y&&(!kh y&&(kE c.sc x&&!kh x))))) (some (CK (aN m (ao (aK j) aG)) (λz=>tab.lookup z) x))
   |_,_,_=>none
 |_=>none
theorem Vp{aj:aA}{c:Tc}{X:Cx}{W:WX}{k:Nat}{q:Bool}(a:ji aj c X W k)(tk:Takes X W)(hpa:∀hd:Option Value,PassesOwnAt (model X.prog X.w) (X.A.mark hd) X.A X.env X.xe){b:List Stmt}{f:SF}(h:QV c b=some f):rK aj X W q b f:=by
 unfold QV at h;split at h
 .obtain⟨j,hj,h⟩:=afq.mp h;obtain⟨tab,ht,h⟩:=afq.mp h;split at h
  .next m l1 l2 l3=>
   obtain⟨hb,h⟩:=aC.mp h;cases h;simp only[afs,afB]at hb;obtain⟨b1,b2,b3,b4,b5,b6⟩:=hb;obtain⟨fa,hm,hk,fd,ps,j',hj',hp,hB,F⟩:=a.gl _ _ l1;obtain⟨D,g1,g2,_⟩:=a.gl _ _ l2;obtain⟨C,c1,c2,c3,c4,c5,c6⟩:=a.gl _ _ l3;obtain⟨_,hx⟩:=a.hk.xm _ tab ht;obtain⟨s1,s2,s3,s4⟩:=jc a.toAmb hj;refine GP (PS.weak (L2H.ps_try_onlyX (c:=.ref D) (tb:=λW'=>tS X.K aj W' q (aJ (aN m (ao (aK j) aG)))) (ts:=λ_ _ _=>λ_ σ H=>W (.ref C) none σ H) (Wout:=W) a.st a.fr ⟨dR a.toAmb b3,(dU b4).1,.inl g1⟩ hpa tk (λW' pn xe t1 t2 p=>?_) (λad oe cls d pn hz hf tk2 hot=>?_)) λDd σ H ⟨g,ρ,M,I,z⟩=>?_)
   .refine GP (O6 (zA (X:=X.tr pn xe) (L2N.passAt t1) F (a.rm.mono hj') (show Gl X _ from dR a.toAmb b1) hm hk hB (Jl (Oq s1 s2 s3 s4) LK (aM rfl [])) (by rw[hp];rfl) (dU b2).1 rfl λM ρ ds e=>?_));unfold ao aG at e;cases hv:aK j M ρ with
    |ok d=>rw[hv]at e;cases e;rfl
    |exc y=>rw[hv]at e;cases e
    |bad=>rw[hv]at e;cases e
   .exact pss_one (L2H.ps_raiseHN hot tk2 (Bh PySem.F.excBase_ValueError c3 c1 c4 (raises_own c5 c6) (show Gl X _ from dR a.toAmb b5) (dU b6).1))
   .refine⟨g,ρ,M,I,?_⟩;unfold CK at z;unfold aJ;cases hf:aN m (ao (aK j) aG) M (gj ρ) with
    |ok d=>rw[hf]at z;exact z
    |bad=>rw[hf]at z;exact agn z
    |exc e=>
     rw[hf]at z;intro σ' H' g' c0 dd r I' rx;obtain⟨C0,q1,q2,q3⟩:=id rx;cases hl:tab.lookup e.cls with
     |none=>
      dsimp only at z
      rw[hl]at z;exact agn z
     |some b=>
      dsimp only at z
      rw[hl]at z;refine⟨b,by rw[q2];exact hx _ _ _ hl q1 D g2,λhb a na=>?_,λhb=>?_⟩
      .subst hb;exact z σ' H' g' (.ref C) none r I' ⟨C,c2,rfl,.inl ⟨rfl,rfl⟩⟩
      .subst hb;exact z σ' H' g' c0 dd r I' rx
  .cases h
 .cases h
def rd0(c:Tc)(b:List Stmt):Option SF:=(ts true (tr 40) 60).B c b
def rd(c:Tc)(b:List Stmt):Option SF:=els (QV c b) (rd0 c b)
def qJ(P:Program)(w:World)(K:afr)(mg:Str->Option Value)(base:Heap)(aj:aA)(k:Nat):List (Str×GV)->Prop
 |[]=>True
 |(x,v)::r=>aQ P w K mg base aj k x v/\qJ P w K mg base aj k r
def qK(mg:Str->Option Value):List Str->Prop
 |[]=>True
 |x::r=>mg x=none/\qK mg r
section
variable{P:Program}{w:World}{K:afr}{mg:Str->Option Value}{base:Heap}{aj:aA}{k:Nat}
theorem qJ.get:∀{G:List (Str×GV)},qJ P w K mg base aj k G->∀x v,G.lookup x=some v->aQ P w K mg base aj k x v
 |[],_,x,v,h=>nomatch h
 |(y,u)::r,g,x,v,h=>by
  rw[afF]at h;split at h
  .next e=>
   cases h;rw[agv e];exact g.1
  .exact g.2.get x v h
theorem qK.get:∀{B:List Str},qK mg B->∀x,x∈B->mg x=none
 |[],_,x,h=>nomatch h
 |y::r,g,x,h=>by
  rcases afD.mp h with rfl|h
  .exact g.1
  .exact g.2.get x h
theorem Nt{qual:Str}{st:Stmt}{f:Addr}{N ps ml B:List Str}{G:List (Str×GV)}{Ms:Hs}(S:FnScope N ps (defScope st))(g:qJ P w K mg base aj k G)(b:qK mg B)(hh:sU P w K mg base aj k Ms)
  (cdv:Value) (A:Around) (outer:List PySem.Env) (s:Shared) (H:Hp) (E:XK) (hr:Room k (A.deeper (envOfC qual (defScope st) s.heap.objs.size f cdv))) :
  ji aj ⟨N,defScope st,G,B,Ms,ml,true⟩ (cxOf (L2.CX P w) P w K mg base N qual (defScope st) f cdv A outer s H E) (RJ E) k where
 hN:=rfl
 hs:=rfl
 calm:=rfl
 nd:=S.nd
 tk:=.inl (takes_of rfl rfl rfl rfl)
 rm:=hr
 gl:=g.get
 bl:=b.get
 fn:=λ_ _=>rfl
 hk:=hh
 ps:=passes_of rfl
 st:=rfl
 fr:=rfl
 kf:=S.kind
theorem Df{x qual:Str}{st:Stmt}{f:Addr}{fd:FuncData}{N ps ml B:List Str}{G:List (Str×GV)}{Ms:Hs}{body:SF}(F:Fun K x qual st f fd)(S:FnScope N ps (defScope st))(g:qJ P w K mg base aj k G)(b:qK mg B)(hh:sU P w K mg base aj k Ms)
  (h:rd ⟨N,defScope st,G,B,Ms,ml,true⟩ (defBody st)=some body):FnOk P w K mg base (L2.CX P w) (k+1) f fd ps (ql K aj ps.length (mQ N.length body)):=
 X4 F S λcdv A outer s H E hr=>(iw h).elim (Vp (Nt S g b hh cdv A outer s H E hr) (takes_of rfl rfl rfl rfl) (L2H.passesAt_of rfl)) λh=>(uH (lF 40) true 60).ob (Nt S g b hh cdv A outer s H E hr) h
theorem Q8{G:List (Str×GV)}(h:(G.all λp=>!p.2.soft)=true):∀x v,G.lookup x=some v->v.soft=false:=λx v hv=>by
 have:=afC.mp h _ (fO hv);simpa using this
theorem V9{qual:Str}{st:Stmt}{f:Addr}{N ps ml B:List Str}{G:List (Str×GV)}(S:FnScope N ps (defScope st))(g:qJ P w K mg base aj k G)(b:qK mg B)(hg:∀x v,G.lookup x=some v->v.soft=false)(hh:sU P w K mg base aj k ⟨[],[],[],[],[]⟩)
  (cdv:Value) (A:Around) (outer:List PySem.Env) (s:Shared) (H:Hp) (E:XK) (hr:Room k (A.deeper (envOfC qual (defScope st) s.heap.objs.size f cdv))) :
  ji aj ⟨N,defScope st,G,B,⟨[],[],[],[],[]⟩,ml,true⟩ (cxOf (L2N.CX P w) P w K mg base N qual (defScope st) f cdv A outer s H E) (RJ E) k where
 hN:=rfl
 hs:=rfl
 calm:=rfl
 nd:=S.nd
 tk:=.inr ⟨L2N.takes_of rfl rfl rfl rfl,hg,rfl⟩
 rm:=hr
 gl:=g.get
 bl:=b.get
 fn:=λ_ _=>rfl
 hk:=hh
 ps:=passes_of rfl
 st:=rfl
 fr:=rfl
 kf:=S.kind
theorem ZL{x qual:Str}{st:Stmt}{f:Addr}{fd:FuncData}{N ps ml B:List Str}{G:List (Str×GV)}{body:SF}(F:Fun K x qual st f fd)(S:FnScope N ps (defScope st))(g:qJ P w K mg base aj k G)(b:qK mg B)(hg:∀x v,G.lookup x=some v->v.soft=false)(hh:sU P w K mg base aj k ⟨[],[],[],[],[]⟩)
  (h:(ts true (tr 40) 60).B ⟨N,defScope st,G,B,⟨[],[],[],[],[]⟩,ml,true⟩ (defBody st)=some body):FnOk P w K mg base (L2N.CX P w) (k+1) f fd ps (ql K aj ps.length (mQ N.length body)):=
 X4 F S λcdv A outer s H E hr=>(uH (lF 40) true 60).ob (V9 S g b hg hh cdv A outer s H E hr) h
theorem aaT{x:Str}{f:Addr}{fd:FuncData}{ps:List Str}{j:Nat}{m:Mo->List Dat->Out Dat}(hj:j<=k)(hg:mg x=some (.ref f))(hk:PySem.W.keepIn K (.ref f)=true)(hB:Binds K fd ps [])(F:FnOk P w K mg base (L2N.CX P w) j f fd ps (ql K aj ps.length m)):aQ P w K mg base aj k x (.fqN ps.length m):=
 ⟨f,hg,hk,fd,ps,j,hj,rfl,hB,F⟩
theorem Vn(hw:aj.w=w)(co:cV K aj):sU P w K mg base aj k ⟨[],[],[],[],[]⟩:=⟨λm tb h=>(nomatch h),λc f h=>(nomatch h),co,hw,λy tab h=>(nomatch h),λy fs h=>(nomatch h)⟩
theorem Yb{f:Addr}{fd:FuncData}{ps:List Str}{j:Nat}:FnOk P w K mg base (L2.CX P w) j f fd ps (ql K aj ps.length λ_ _=>.bad):=
 ⟨λvs H Q E h=>h.1,λA outer s H args us vs Q E _ _ _ _ h=>by
  obtain⟨_,g,M,ds,_,_,_,z⟩:=h;exact agn z⟩
theorem Qx{x:Str}{f:Addr}{fd:FuncData}{ps:List Str}{j:Nat}{m:Mo->List Dat->Out Dat}(hj:j<=k)(hg:mg x=some (.ref f))(hk:PySem.W.keepIn K (.ref f)=true)(hB:Binds K fd ps [])(F:FnOk P w K mg base (L2.CX P w) j f fd ps (ql K aj ps.length m)):aQ P w K mg base aj k x (.fq ps.length m):=
 ⟨f,hg,hk,fd,ps,j,hj,rfl,hB,F⟩
theorem DY{x:Str}{i:Int}{t:Tok}(h:mg x=some (.int i t)):aQ P w K mg base aj k x (.con (.int i)):=⟨.int i,_,h,⟨t,rfl⟩,λ_ _=>.int i,λ_ _ z=>nomatch z⟩
theorem DR{x z:Str}{t:Tok}(h:mg x=some (.str z t)):aQ P w K mg base aj k x (.con (.str z)):=⟨.str z,_,h,⟨t,rfl⟩,λ_ _=>.str z,λ_ _ z=>nomatch z⟩
theorem Ay{g:Gh}{H:Hp}:∀{vs:List V} {ds:List Dat},(vs.zip ds).all (λp=>match p with
  |(.int i,.int j)=>decide (i=j)
  |(.str x,.str y)=>decide (x=y)
  |_=>false)=true->vs.length=ds.length->au K g H vs ds
 |[],[],_,_=>.nil
 |[],_::_,_,h=>nomatch h
 |_::_,[],_,h=>nomatch h
 |v::vs,d::ds,h,hl=>by
  rw[afP,afW,afs]at h;refine .cons ?_ (Ay h.2 (agk hl));have h1:=h.1;split at h1
  .next e=>cases e;cases agp h1;exact .int _
  .next e=>cases e;cases agp h1;exact .str _
  .cases h1
theorem V8{a:Addr}(h:Fp K a=true):∃o,K.lookup a=some o/\o.cls=.type "tuple"/\o.dict=none:=by
 unfold Fp at h;split at h
 .next o e=>
  rw[afs]at h;refine⟨o,e,?_,Option.isNone_iff_eq_none.mp h.2⟩;have h1:=h.1;split at h1
  .next c ec=>rw[ec,agp h1]
  .cases h1
 .cases h
theorem LR{x:Str}{a:Addr}{vs:List V}{ds:List Dat}(h:mg x=some (.ref a))(q:∀H:Hp,SqT K H a vs)(hf:(vs.zip ds).all (λp=>match p with
  |(.int i,.int j)=>decide (i=j)
  |(.str x,.str y)=>decide (x=y)
  |_=>false)=true) (hl:vs.length=ds.length) (hn:Fp K a=true):aQ P w K mg base aj k x (.con (.tuple ds)):=⟨.ref a,_,h,rfl,λ_ H=>.tup (q H) (Ay hf hl),λb _ e _=>by cases e;exact V8 hn⟩
end
open PySem PySem.Spec PyProof.Rows L2
section
variable{fa:List He.Fa}{fn:List He.DefD}{tb:List He.Tab}{ex:afr->Bool}{w:World}{K:afr}
theorem uM.El(c:uM fa fn tb ex w K)(i:Nat){f:He.Fa}(h:fa[i]?=some f:=by rfl):f.ok K=true:=c.t.d.fact i h
theorem uM.TQ(c:uM fa fn tb ex w K)(i:Nat){d:He.DefD}(h:fn[i]?=some d:=by rfl):∃fd,FunD K d.name d.qual d.params d.body d.scope (d.dvs K) (d.kws K) (He.fAd K d.at_) fd:=c.t.d.def_ i h
theorem Ck{x qual:Str}{st:Stmt}{f:Addr}{fd:FuncData}(F:FunD K x qual (defArgs st) (defBody st) (defScope st) [] [] f fd):L2.Fun K x qual st f fd:=by
 obtain⟨oc,od,dV,kV,doc,pm,an,cdv,ct,osl,e,l,c,hd,_⟩:=F.ex;rcases hd with⟨_,z⟩|⟨z,_⟩
 .cases z;exact⟨⟨oc,od,kV,doc,pm,an,cdv,ct,osl,e,l,c⟩,F.kp⟩
 .exact absurd rfl z
end
def g0:Gh:=⟨[],λ_=>none,λ_=>False,λ_=>False⟩
theorem Zg(a:Addr):¬g0.A a:=λz=>by
 rcases z with(z|z)|z|z
 .cases z
 .exact z rfl
 .exact z
 .exact z
theorem aaG{H:Hp}:Kd g0 H:=⟨λa z=>absurd z (Zg a),λa z=>agn z,λa z=>agn z⟩
theorem Zw{K:afr}{aj:aA}{H:Hp}(nc:aj ""=none):cG K aj g0 H []:=⟨rfl,λh k a e=>(by cases h<;>cases e),λh a i e=>(by cases h<;>cases e),λh i e=>(by cases h<;>cases e),λh i e=>(by cases h<;>cases e),λh a i e=>(by cases h<;>cases e),λh i e=>(by cases h<;>cases e),nc⟩
theorem Bt{K:afr}{g:Gh}{H:Hp}:∀ns:List Int,au K g H (ns.map V.int) (ns.map PyData.int)
 |[]=>.nil
 |n::ns=>.cons (.int n) (Bt ns)
theorem ZW{K:afr}{H:Hp}{a:Addr}{ns:List Int}(hS:SqL K H a (ns.map V.int)):au K g0 H [.ref a] [.list (ns.map PyData.int)]:=by
 refine .cons (.lst ?_ (Bt ns)) .nil;rcases hS with h|h
 .exact .inl ⟨h,Zg a⟩
 .exact .inr h
theorem abp{K:afr}{aj:aA}(nc:aj ""=none){m:Mo->List Dat->Out Dat}{H:Hp}{a:Addr}{ns:List Int}(hS:SqL K H a (ns.map V.int))(h:m [] [.list (ns.map PyData.int)]=.ok (.bool true)):ql K aj 1 m [.ref a] H (λv _=>v=.bl true) λ_ _ _=>False:=
 ⟨rfl,g0,[],[.list (ns.map PyData.int)],aaG,Zw nc,ZW hS,by
  rw[h];exact λv H' _ r=>by cases r;rfl⟩
section
variable{K:afr}{h:Heap}{mg:Str->Option Value}{w:World}
def lG(w:World)(K:afr)(xs:List Str)(ft:Ft):aA:=⟨λx=>match xs.contains x with
 |true=>some (He.ga K x)
 |false=>none,λc=>(ft.lookup c).getD [],w⟩
theorem vK{xs:List Str}{ft:Ft}{x:Str}{C:Addr}(e:lG w K xs ft x=some C):C=He.ga K x:=by
 have e:(match xs.contains x with
  |true=>some (He.ga K x)
  |false=>none)=some C:=e
 split at e
 .exact(afR e).symm
 .cases e
theorem Fe{xs:List Str}{ft:Ft}{x:Str}(e:xs.contains x=true):lG w K xs ft x=some (He.ga K x):=by
 show(match xs.contains x with
  |true=>some (He.ga K x)
  |false=>none)=_
 rw[e]
theorem Ec{ft:Ft}(hb:rZ K ft=true){c:Str}{fs:List Str}(hl:ft.lookup c=some fs):Cls K (He.ga K c)/\∀f∈fs,NoAttr K (He.ga K c) f:=by obtain⟨h1,h2⟩:=He.ba (afC.mp hb _ (fO hl));exact⟨He.cls_ok h1,λf hf=>He.noat_ok (afC.mp h2 f hf)⟩
theorem Mj{xs:List Str}{ft:Ft}(hb:rZ K ft=true):cV K (lG w K xs ft):=λc C f e hf=>by
 have e:=vK e;subst e;have hf:f∈(ft.lookup c).getD []:=hf;cases hl:ft.lookup c with
 |none=>rw[hl]at hf;cases hf
 |some fs=>
  rw[hl]at hf;obtain⟨h1,h2⟩:=Ec hb hl;exact⟨h1,h2 f hf⟩
theorem RL{xs:List Str}{ft:Ft}:tX ft (lG w K xs ft):=λc f e=>by
 unfold Ft.has at e;show f∈(ft.lookup c).getD [];split at e
 .next fs hl=>
  rw[hl];simpa using e
 .cases e
def xmN(xs:List Str)(xm:List (Str×List (Str×Bool))):Bool:=xm.all λp=>xs.contains p.1
theorem abe{xs:List Str}{ft:Ft}{xm:List (Str×List (Str×Bool))}(hb:W6 K xm=true)(hn:xmN xs xm=true)(y:Str)(tab:List (Str×Bool))(hl:xm.lookup y=some tab):(∃D,lG w K xs ft y=some D)/\Ku K (lG w K xs ft) y λx=>tab.lookup x:=by refine⟨⟨_,Fe (afC.mp hn _ (fO hl))⟩,λx b C e1 e2 D e3=>?_⟩;rw[vK e2,vK e3];exact He.exm_ok (afC.mp (afC.mp hb _ (fO hl)) _ (fO e1))
theorem Wu{C:Addr}(hb:Zz K C=true):OexC K C:=by
 obtain⟨h1,h2⟩:=He.ba hb;obtain⟨h2,h3⟩:=He.ba h2;obtain⟨h3,h4⟩:=He.ba h3;obtain⟨h4,h5⟩:=He.ba h4;refine⟨?_,He.eqO_ok h2,agp h3,agp h4,h5⟩;split at h1
 .next t dd cd sl hl=>
  obtain⟨t1,h1⟩:=He.ba h1;split at h1
  .next C' bm k0 k1 k2 k3 n k5 e1 e2=>
   obtain⟨a1,h1⟩:=He.ba h1;obtain⟨a2,h1⟩:=He.ba h1;obtain⟨a3,h1⟩:=He.ba h1;obtain⟨a4,a5⟩:=He.ba h1;have q1:=agp t1;have q2:=agp a1;have q3:=agp a2;have q4:cd.hasDel=false:=by simpa using a3
   have q5:sl=#[k0,k1,k2,k3,some (.builtin n),k5]:=by rw[<-Array.toList_inj];exact e2
   obtain⟨nm,bs,mro,ns,qn,hd,sn,sub,ab,col,hdel⟩:=cd;have e1:mro=.ref C'::bm:=e1;have q4:hdel=false:=q4;have a4:hd=true:=a4;subst q1 q2 q3 q4 q5 e1 a4;exact⟨nm,qn,ns,bs,bm,sn,sub,ab,col,dd,k0,k1,k2,k3,k5,hl,a5⟩
  .cases h1
 .cases h1
theorem Wc{x:Str}{fs:List Str}(hb:Lh K x fs=true):OexC K (He.ga K x)/\PySem.W.findIn K (.ref (He.ga K x)) "__init__"=some (some (.ref (He.ma K (He.ga K x) "__init__")))/\PySem.W.typeIn K (.ref (He.ma K (He.ga K x) "__init__"))=some (.type "function")/\XfC K (He.ga K x)/\∀f∈fs,PySem.W.findIn K (.ref (He.ga K x)) f=some none:=by obtain⟨h1,h2⟩:=He.ba hb;obtain⟨h2,h3⟩:=He.ba h2;obtain⟨h3,h4⟩:=He.ba h3;obtain⟨h4,h5⟩:=He.ba h4;exact⟨Wu h1,He.eqO_ok h2,agp h3,xfB_ok h4,λf hf=>He.eqO_ok (afC.mp h5 f hf)⟩
theorem Qm{a:Addr}{xs:List Str}(hb:Cj K a xs=true)(H:Hp):SqT K H a (xs.map V.str):=by
 unfold Cj at hb;split at hb
 .next c d its n sl hl=>
  obtain⟨h1,h2⟩:=He.ba hb;obtain⟨h3,h4⟩:=He.ba h2;have q1:=agp h1;subst q1;exact .inr ⟨_,its,n,hl,rfl,rfl,agp h3,He.relAll_ok h4⟩
 .cases hb
def fJ(kvs:List (Str×List Str)):List (Str×Dat):=kvs.map λq=>(q.1,.tuple (q.2.map PyData.str))
theorem Bw{g:Gh}{H:Hp}:∀xs:List Str,au K g H (xs.map V.str) (xs.map PyData.str)
 |[]=>.nil
 |x::xs=>.cons (.str x) (Bw xs)
theorem xH{y:Str}:∀{kvs:List (Str×List Str)},(fJ kvs).lookup y=(kvs.lookup y).map λxs=>PyData.tuple (xs.map PyData.str)
 |[]=>rfl
 |(z,xs)::r=>by
  show List.lookup y ((z,PyData.tuple (xs.map PyData.str))::fJ r)=_;rw[afF,afF];split
  .rfl
  .exact xH
theorem look_none{α:Type}{y:Str}:∀{kvs:List (Str×α)},kvs.lookup y=none->y∉kvs.map (·.1)
 |[],_=>by simp
 |(z,a)::r,h=>by
  rw[afF]at h;split at h
  .cases h
  .next hn=>
   rw[aft,afD]
   rintro(e|e)
   .subst e;simp at hn
   .exact look_none h e
theorem UL{x:Str}{kvs:List (Str×List Str)}(hb:Qv K x kvs=true)(hk:∃es n,KDict K w (He.ga K x) es n):Lp w K (He.ga K x) (fJ kvs):=by
 obtain⟨h1,h2⟩:=He.ba hb;obtain⟨h2,h3⟩:=He.ba h2;obtain⟨es,n,D⟩:=hk;rw[D.at_]at h1;refine⟨es,n,D,?_,λy=>?_⟩
 .unfold fJ;rw[afT];exact agp h2
 .rw[xH];cases hl:kvs.lookup y with
  |some xs=>
   have h4:=afC.mp h3 _ (fO hl);show ∃v u,PySem.W.nsIn K (He.ga K x) y=some (some u)/\RelV v u/\∀g H,Rep K g H v (.tuple (xs.map PyData.str));have h4:(match PySem.W.nsIn K (He.ga K x) y with
    |some (some (.ref a))=>Cj K a xs
    |_=>false)=true:=h4
   split at h4
   .next a he=>exact⟨.ref a,.ref a,he,rfl,λg H=>.tup (Qm h4 H) (Bw xs)⟩
   .cases h4
  |none=>
   show PySem.W.nsIn K (He.ga K x) y=some none;have ny:=look_none hl;unfold PySem.W.nsIn;rw[D.at_];have h1:es.toList.all (λe=>(match e.key with
    |.str y _=>(kvs.map (·.1)).contains y
    |_=>false)&&!e.refKey)=true:=h1
   have f1:es.toList.find? (·.key.isStr y)=none:=by
    rw[List.find?_eq_none];intro e he z;obtain⟨a1,a2⟩:=He.ba (afC.mp h1 e he);split at a1
    .next y' tk hy=>
     rw[hy]at z;have z:(y'==y)=true:=z;have e':=agv z;subst e';exact ny (by simpa using a1)
    .cases a1
   have f2:es.toList.any (·.refKey)=false:=by rw[List.any_eq_false];intro e he z;obtain⟨a1,a2⟩:=He.ba (afC.mp h1 e he);rw[z]at a2;cases a2
   show(match es.toList.find? (·.key.isStr y) with
    |some e=>some (some e.val)
    |none=>if es.toList.any (·.refKey) then none else some none)=some none
   rw[f1,f2];rfl
end
section
variable{P:Program}{w:World}{K:afr}{mg:Str->Option Value}{base:Heap}{k:Nat}{xs:List Str}{ft:Ft}
def Cm(P:Program)(w:World)(K:afr)(mg:Str->Option Value)(base:Heap)(aj:aA)(k:Nat)(m:Str):List (Str×MV)->Prop
 |[]=>True
 |(c,v)::r=>FJ P w K mg base aj k c m v/\Cm P w K mg base aj k m r
def zN(P:Program)(w:World)(K:afr)(mg:Str->Option Value)(base:Heap)(aj:aA)(k:Nat):List (Str×List (Str×MV))->Prop
 |[]=>True
 |(m,tb)::r=>Cm P w K mg base aj k m tb/\zN P w K mg base aj k r
theorem Cm.get{aj:aA}{m:Str}:∀{tb:List (Str×MV)},Cm P w K mg base aj k m tb->∀c v,tb.lookup c=some v->FJ P w K mg base aj k c m v
 |[],_,c,v,h=>nomatch h
 |(y,u)::r,g,c,v,h=>by
  rw[afF]at h;split at h
  .next e=>
   cases h;rw[agv e];exact g.1
  .exact g.2.get c v h
theorem zN.get{aj:aA}:∀{Ms:List (Str×List (Str×MV))},zN P w K mg base aj k Ms->∀m tb,Ms.lookup m=some tb->∀c v,tb.lookup c=some v->FJ P w K mg base aj k c m v
 |[],_,m,tb,h=>nomatch h
 |(y,u)::r,g,m,tb,h=>by
  rw[afF]at h;split at h
  .next e=>
   cases h;rw[agv e];exact g.1.get
  .exact g.2.get m tb h
theorem FP{x:Str}(hn:xs.contains x=true)(hg:mg x=some (.ref (He.ga K x)))(he:(He.Fa.exc x).ok K=true):aQ P w K mg base (lG w K xs ft) k x .exc:=by obtain⟨h1,h2,h3,h4⟩:=He.exc_ok he;exact⟨_,hg,Fe hn,h1,h2,h3,h4⟩
theorem Yc{aj:aA}{x:Str}{kvs:List (Str×List Str)}(hg:mg x=some (.ref (He.ga K x)))(hb:Qv K x kvs=true)(hk:∃es n,KDict K w (He.ga K x) es n):aQ P w K mg base aj k x (.dic (fJ kvs)):=⟨_,hg,UL hb hk⟩
theorem abo{Ms:List (Str×List (Str×MV))}{xm:List (Str×List (Str×Bool))}{df:List (Str×Bool)}{xf:List (Str×List Str)}(hm:zN P w K mg base (lG w K xs ft) k Ms)(hb:rZ K ft=true)(hx:W6 K xm=true)(hn:xmN xs xm=true)(hf:(xf.all λp=>xs.contains p.1&&Lh K p.1 p.2)=true):sU P w K mg base (lG w K xs ft) k ⟨Ms,ft,xm,df,xf⟩ where
 ms:=hm.get
 fk:=RL
 co:=Mj hb
 hw:=rfl
 xm:=abe hx hn
 xf:=λy fs hl=>by
  obtain⟨h1,h2⟩:=He.ba (afC.mp hf _ (fO hl));obtain⟨_,_,_,h3,h4⟩:=Wc h2;exact⟨_,Fe h1,h3,h4⟩
end
abbrev lI(l:List Int):Dat:=.list (l.map PyData.int)
abbrev gM(l:List Int):Dat:=.tuple (l.map PyData.int)
theorem gQ{tg:bY}{body:SF}{d:Dat}{ds:List Dat}{M M2:Mo}{ρ Z1 Z2:Env}(h1:tg d ρ=some Z1)(h2:body M Z1=.next Z2 M2):cM tg body (d::ds) M ρ=cM tg body ds M2 Z2:=by
 rw[cM,h1]
 show(match body M Z1 with
   |.next Z2 M2=>cM tg body ds M2 Z2
   |.cont Z2 M2=>cM tg body ds M2 Z2
   |.brk Z2 M2=>.next Z2 M2
   |.ret d M2=>.ret d M2
   |.exc x Z2 M2=>.exc x Z2 M2
   |.bad=>.bad)=_
 rw[h2]
theorem oF{α:Type}{tg:bY}{tt:QT}{te:QF}{M:Mo}{ρ:Env}(ds:α->Dat)(p:α->Bool)(f:α->Dat):∀(xs:List α),(∀x∈xs,∃Z1,tg (ds x) ρ=some Z1/\tt M Z1=.ok (p x)/\(p x=true->te M Z1=.ok (f x)))->bG tg tt te M ρ (xs.map ds)=.ok ((xs.filter p).map f)
 |[],_=>rfl
 |x::xs,h=>by
  obtain⟨Z1,h1,h2,h3⟩:=h x afv;have ih:=oF ds p f xs λy hy=>h y (afu _ hy);rw[aft,bG,h1]
  show((nO (tt M Z1)).bind λb=>if b=true then(nO (te M Z1)).bind λy=>(bG tg tt te M ρ (xs.map ds)).bind λr=>.ok (y::r) else bG tg tt te M ρ (xs.map ds))=_
  rw[h2,ih];cases hp:p x with
  |true=>
   show(if true=true then(nO (te M Z1)).bind λy=>(Out.ok ((xs.filter p).map f)).bind λr=>.ok (y::r) else Out.ok ((xs.filter p).map f))=_
   rw[h3 hp,ags rfl,List.filter_cons_of_pos hp];rfl
  |false=>
   show(if false=true then(nO (te M Z1)).bind λy=>(Out.ok ((xs.filter p).map f)).bind λr=>.ok (y::r) else Out.ok ((xs.filter p).map f))=_
   rw[agt (by decide),List.filter_cons_of_neg (by rw[hp];decide)]
theorem fX{α:Type}{tg:bY}{te:QF}{M:Mo}{ρ:Env}(ds:α->Dat)(f:α->Dat)(xs:List α)(h:∀x∈xs,∃Z1,tg (ds x) ρ=some Z1/\te M Z1=.ok (f x)):bG tg jK te M ρ (xs.map ds)=.ok (xs.map f):=by
 have:=oF (tt:=jK) ds (λ_=>true) f xs λx hx=>by
  obtain⟨Z1,h1,h2⟩:=h x hx;exact⟨Z1,h1,rfl,λ_=>h2⟩
 rw[this,List.filter_eq_self.mpr (λ_ _=>rfl)]
theorem aa8{i j:Int}(h : -(2^64)<i/\i<2^64):decide (CMul i j)=true:=decide_eq_true (.inl h)
theorem mul_r{i j:Int}(h : -(2^64)<j/\j<2^64):decide (CMul i j)=true:=decide_eq_true (.inr h)
section
variable(M:Mo)(ρ:Env)
@[simp]theorem Yx (f k:SF):aF f k M ρ=match f M ρ with
 |.next Z' M'=>k M' Z'
 |o=>o:=rfl
@[simp]theorem adh:aH M ρ=.next ρ M:=rfl
@[simp]theorem Zh (tg:bY) (f:GF):aY tg f M ρ=(f M ρ).then ρ λd M'=>match tg d ρ with
 |some Z'=>.next Z' M'
 |none=>.bad:=rfl
@[simp]theorem adu (i j:Nat) (f:GF):Kg i j f M ρ=(f M ρ).then ρ λd M'=>.next ((ρ.set i (some (.dat d))).set j (some (.dat d))) M':=rfl
@[simp]theorem ade (f:QF) (tk:Str->Option Bool) (x:Str):CK f tk x M ρ=match f M (gj ρ) with
 |.ok d=>.ret d M
 |.exc e=>(match tk e.cls with
  |some true=>.exc ⟨x,[]⟩ ρ M
  |some false=>.exc e ρ M
  |none=>.bad)
 |.bad=>.bad:=rfl
@[simp]theorem ev_if (t:QT) (f k:SF):bx t f k M ρ=((t M (gj ρ)).at M).then ρ λc M'=>if c=true then f M' ρ else k M' ρ:=rfl
@[simp]theorem aeH (f:QF):aJ f M ρ=((f M (gj ρ)).at M).then ρ λd M'=>.ret d M':=rfl
@[simp]theorem aeW (it:IF) (tg:bY) (body:SF):lW it tg body M ρ=((it M ρ).at M).then ρ λds M'=>cM tg body ds M' ρ:=rfl
@[simp]theorem adU (j:Nat) (f:IF):pA j f M ρ=((f M ρ).at M).then ρ λxs M'=>.next (ρ.set j (some (.mut xs))) M':=rfl
@[simp]theorem acH (f:GF):uU f M ρ=(f M ρ).then ρ λ_ M'=>.next ρ M':=rfl
@[simp]theorem adN (j:Nat) (f:QF):pB j f M ρ=match ρ[j]? with
 |some (some (.mut xs))=>((f M ρ).at M).then ρ λd M'=>if xs.length<100000 then .next (ρ.set j (some (.mut (xs++[d])))) M' else .bad
 |_=>.bad:=rfl
@[simp]theorem acE (j:Nat) (fi f:QF):wW j fi f M ρ=match ρ[j]? with
 |some (some (.mut xs))=>((f M ρ).at M).then ρ λd M'=>((fi M' ρ).at M').then ρ λi M2=>match i with
  |.int k=>match ixN xs.length k with
   |some n=>.next (ρ.set j (some (.mut (xs.set n d)))) M2
   |none=>.bad
  |_=>.bad
 |_=>.bad:=rfl
@[simp]theorem aeS (j:Nat) (f:QF):KR j f M ρ=match ρ[j]? with
 |some (some (.dat (.int i)))=>((f M ρ).at M).then ρ λd M'=>match d with
  |.int k=>.next (ρ.set j (some (.dat (.int (i+k))))) M'
  |_=>.bad
 |_=>.bad:=rfl
@[simp]theorem adz (i j:Nat) (f:GF):Cd i j f M ρ=(f M ρ).then ρ λd M'=>match d with
 |.list (d0::ds)=>if ds.length<=16000 then .next ((ρ.set i (some (.dat d0))).set j (some (.dat (.list ds)))) M' else .bad
 |.tuple (d0::ds)=>if ds.length<=16000 then .next ((ρ.set i (some (.dat d0))).set j (some (.dat (.list ds)))) M' else .bad
 |_=>.bad:=rfl
@[simp]theorem afn (js:List Nat) (as:QA):sPN js as M ρ=((as M ρ).at M).then ρ λds M'=>match jy js ds ρ with
 |some Z'=>.next Z' M'
 |none=>.bad:=rfl
@[simp]theorem Xj (f:QF):gOf f M ρ=(f M ρ).at M:=rfl
@[simp]theorem ev_op (o:Dat->Dat->Out Dat) (a b:QF):aq o a b M ρ=(a M ρ).bind λx=>(b M ρ).bind λy=>o x y:=rfl
@[simp]theorem ev_un (o:Dat->Out Dat) (a:QF):bW o a M ρ=(a M ρ).bind o:=rfl
@[simp]theorem ev_c (d:Dat):qC d M ρ=.ok d:=rfl
@[simp]theorem ev_var (i:Nat):aK i M ρ=match ρ[i]? with
 |some (some (.dat d))=>.ok d
 |_=>.bad:=rfl
@[simp]theorem adt (i:Nat):ak i M ρ=match ρ[i]? with
 |some (some (.dat d))=>.ok d
 |some (some (.mut xs))=>.ok (.list xs)
 |_=>.bad:=rfl
@[simp]theorem aeZ:aG M ρ=.ok []:=rfl
@[simp]theorem acJ (a:QF) (r:QA):ao a r M ρ=(a M ρ).bind λx=>(r M ρ).bind λxs=>.ok (x::xs):=rfl
@[simp]theorem aei (r:QA):eY r M ρ=(r M ρ).bind λxs=>Out.when (decide (xs.length<=100000)) (.ok (.tuple xs)):=rfl
@[simp]theorem XF (r:QA):lY r M ρ=(r M ρ).bind λxs=>Out.when (decide (xs.length<=100000)) (.ok (.list xs)):=rfl
@[simp]theorem ae2 (a:QF):dZ a M ρ=(a M ρ).bind qT:=rfl
@[simp]theorem afd (a:QF):aZ a M ρ=(a M ρ).bind mj:=rfl
@[simp]theorem adk (a:QT):dw a M ρ=(a M ρ).bind λb=>.ok (!b):=rfl
@[simp]theorem acB (a b:QT):jA a b M ρ=(a M ρ).bind λx=>if x=true then b M ρ else .ok false:=rfl
@[simp]theorem aeX (a b:QT):jL a b M ρ=(a M ρ).bind λx=>if x=true then .ok true else b M ρ:=rfl
@[simp]theorem afe (a:QT):Dq a M ρ=(a M ρ).bind λb=>.ok (.bool b):=rfl
@[simp]theorem aen (t:QT) (a b:QF):Oc t a b M ρ=(t M ρ).bind λx=>if x=true then a M ρ else b M ρ:=rfl
@[simp]theorem ev_is (neg:Bool) (c:Dat) (a:QF):uf neg c a M ρ=(a M ρ).bind λd=>.ok (.bool (neg ^^ kJ c d)):=rfl
@[simp]theorem ev_notV (a:QF):Cp a M ρ=((a M ρ).bind mj).bind λb=>.ok (.bool (!b)):=by
 show(((a M ρ).bind mj).bind λb=>Out.ok (!b)).bind (λb=>Out.ok (PyData.bool b))=_
 cases a M ρ with
 |ok d=>cases h:mj d<;>simp[Out.bind,h]
 |exc x=>rfl
 |bad=>rfl
@[simp]theorem ev_andV (a b:QF):lH a b M ρ=(a M ρ).bind λd=>(mj d).bind λx=>if x=true then b M ρ else .ok (.bool false):=rfl
@[simp]theorem ev_orV (a b:QF):Q5 a b M ρ=(a M ρ).bind λd=>(mj d).bind λx=>if x=true then .ok (.bool true) else b M ρ:=rfl
@[simp]theorem acp (o o':Dat->Dat->Out Dat) (a b c:QF):gD o o' a b c M ρ=(a M ρ).bind λx=>(b M ρ).bind λy=>(o x y).bind λz=>(mj z).bind λk=>if k=true then(c M ρ).bind λw=>(o' y w).bind mj else .ok false:=rfl
@[simp]theorem ad5 (t:uo) (a:QF):iK t a M ρ=(a M ρ).bind (cD t):=rfl
@[simp]theorem afi (a:QF) (lo hi:QO):eZ a lo hi M ρ=(a M ρ).bind λd=>(lo M ρ).bind λl=>(hi M ρ).bind λh=>JB d l h:=rfl
@[simp]theorem afo:bB M ρ=.ok none:=rfl
@[simp]theorem afm (a:QF):bD a M ρ=(a M ρ).bind λd=>(lV d).bind λi=>.ok (some i):=rfl
@[simp]theorem ev_call (m:Mo->List Dat->Out Dat) (as:QA):aN m as M ρ=(as M ρ).bind λds=>m M ds:=rfl
@[simp]theorem ab1 (a:QF):iH a M ρ=(a M ρ).bind cZ:=rfl
@[simp]theorem abF (a:QF):m7 a M ρ=(a M ρ).bind λd=>(lV d).bind λn=>Out.when (decide (n<=100000/\-100000<=n)) (.ok (iG 0 n.toNat)):=rfl
@[simp]theorem adb (k₀:Int) (a:QF):o9 k₀ a M ρ=(a M ρ).bind λd=>(cZ d).bind λds=>.ok (gU k₀ ds):=rfl
@[simp]theorem ad6 (a b:QF):pF a b M ρ=(a M ρ).bind λd=>(b M ρ).bind λe=>(cZ d).bind λds=>(cZ e).bind λes=>.ok (dD ds es):=rfl
@[simp]theorem ac8 (it:IF) (tg:bY) (vs:List Nat) (tt:QT) (te:QF):fU it tg vs tt te M ρ=(it M ρ).bind λds=>Out.when (decide (ds.length<=50000)) ((bG tg tt te M (aU ρ vs) ds).bind λr=>.ok (.list r)):=rfl
@[simp]theorem abZ (it:IF) (tg:bY) (vs:List Nat) (tt:QT) (te:QF):nu it tg vs tt te M ρ=(it M ρ).bind λds=>Out.when (decide (ds.length<=50000)) (bG tg tt te M (aU ρ vs) ds):=rfl
@[simp]theorem aeb (f:QA):Nu f M ρ=(f M ρ).bind λxs=>Out.when (decide (xs.length<=100000)) (.ok xs):=rfl
@[simp]theorem aar (f:QF):rC f M ρ=(f M ρ).bind vg:=rfl
@[simp]theorem abO (j:Nat) (d:Dat):aD j d ρ=some (ρ.set j (some (.dat d))):=rfl
@[simp]theorem acj (js:List Nat) (ds:List Dat):cC js (.tuple ds) ρ=jy js ds ρ:=rfl
@[simp]theorem aaA (n:Nat) (b:SF) (ds:List Dat):mQ n b M ds=match b M (ini n ds) with
 |.ret d _=>.ok d
 |.next _ _=>.ok .none
 |.exc x _ _=>.exc x
 |_=>.bad:=rfl
@[simp]theorem ae8 (n:Nat) (b:SF) (ds:List Dat):mG n b M ds=match b M (ini n ds) with
 |.ret d M'=>.ok d M'
 |.next _ M'=>.ok .none M'
 |.exc x _ M'=>.exc x M'
 |_=>.bad:=rfl
end
section
variable(i j:Int)(ds es:List Dat)(b c:Bool)(x y:Str)
@[simp]theorem ac9:aO (.int i) (.int j)=.ok (.int (i+j)):=rfl
@[simp]theorem U3:aO (.list ds) (.list es)=Out.when (decide (ds.length+es.length<=100000)) (.ok (.list (ds++es))):=rfl
@[simp]theorem uW:aO (.tuple ds) (.tuple es)=Out.when (decide (ds.length+es.length<=100000)) (.ok (.tuple (ds++es))):=rfl
@[simp]theorem M9:j9 (.int i) (.int j)=.ok (.int (i-j)):=rfl
@[simp]theorem adP:vH (.int i) (.int j)=Out.when (decide (CMul i j)) (.ok (.int (i*j))):=rfl
@[simp]theorem aeu:pD (.int i) (.int j)=Out.when (decide (CDiv i j)) (.ok (.int (i/j))):=rfl
@[simp]theorem aes:dJ (.int i) (.int j)=Out.when (decide (0<j)) (.ok (.int (i%j))):=rfl
@[simp]theorem aez:vX (.int i) (.int j)=Out.when (decide (CPow i j)) (.ok (.int (i^j.toNat))):=rfl
@[simp]theorem ae5:Jx (.int i) (.int j)=.ok (.bool (decide (i<j))):=rfl
@[simp]theorem ae9:j8 (.int i) (.int j)=.ok (.bool (decide (i<=j))):=rfl
@[simp]theorem ae4:yE (.int i) (.int j)=.ok (.bool (decide (j<i))):=rfl
@[simp]theorem afp:Oi (.int i) (.int j)=.ok (.bool (decide (j<=i))):=rfl
@[simp]theorem adW:bV (.int i) (.int j)=.ok (.bool (i==j)):=rfl
@[simp]theorem adT:bV (.str x) (.str y)=.ok (.bool (x==y)):=rfl
@[simp]theorem aem:bV (.bool b) (.bool c)=.ok (.bool (b==c)):=rfl
@[simp]theorem aeA:pZ (.int i) (.int j)=.ok (.bool (!(i==j))):=rfl
@[simp]theorem aev:pZ (.str x) (.str y)=.ok (.bool (!(x==y))):=rfl
@[simp]theorem aeN:Gj (.int i)=.ok (.int (-i)):=rfl
@[simp]theorem ac4:qT (.bool b)=.ok b:=rfl
@[simp]theorem ac3:qT (.list ds)=.ok (!ds.isEmpty):=rfl
@[simp]theorem acN:qT (.tuple ds)=.ok (!ds.isEmpty):=rfl
@[simp]theorem adB:mj (.bool b)=.ok b:=rfl
@[simp]theorem acM:dh (.list ds)=.ok (.int ds.length):=rfl
@[simp]theorem adf:dh (.tuple ds)=.ok (.int ds.length):=rfl
@[simp]theorem aeD:yV (.int i)=.ok (.int (if i<0 then -i else i)):=rfl
@[simp]theorem ev_max2:uY (.int i) (.int j)=.ok (.int (if j>i then j else i)):=rfl
@[simp]theorem acV:Cr (.int i) (.int j)=.ok (.int (if j<i then j else i)):=rfl
@[simp]theorem adL:dM (.list ds) (.int i)=match atI ds i with
  |some d=>.ok d
  |none=>.bad:=rfl
@[simp]theorem aeL:dM (.tuple ds) (.int i)=match atI ds i with
  |some d=>.ok d
  |none=>.bad:=rfl
@[simp]theorem adl:lV (.int i)=.ok i:=rfl
@[simp]theorem aee (lo hi:Option Int):JB (.list ds) lo hi=.ok (.list (cutD ds lo hi)):=rfl
@[simp]theorem adD (lo hi:Option Int):JB (.tuple ds) lo hi=.ok (.tuple (cutD ds lo hi)):=rfl
@[simp]theorem adx:jd (.list ds)=.ok (.tuple ds):=rfl
@[simp]theorem acC:jd (.tuple ds)=.ok (.tuple ds):=rfl
@[simp]theorem acu:wM (.list ds)=.ok (.list ds):=rfl
@[simp]theorem acA:wM (.tuple ds)=.ok (.list ds):=rfl
@[simp]theorem adA:vg (.list ds)=.ok ds:=rfl
@[simp]theorem aeK:vg (.tuple ds)=.ok ds:=rfl
@[simp]theorem ael:cZ (.list ds)=.ok ds:=rfl
@[simp]theorem aeV:cZ (.tuple ds)=.ok ds:=rfl
@[simp]theorem ac5 (o:Option Cell) (ρ:Env):gj (o::ρ)=o.map xJ::gj ρ:=rfl
@[simp]theorem acf:gj []=[]:=rfl
@[simp]theorem acz (d:Dat):xJ (.dat d)=.dat d:=rfl
@[simp]theorem ab9 (ds:List Dat):xJ (.mut ds)=.dat (.list ds):=rfl
@[simp]theorem acZ (ρ:Env):jy [] [] ρ=some ρ:=rfl
@[simp]theorem adq (j:Nat) (js:List Nat) (d:Dat) (ρ:Env):jy (j::js) (d::ds) ρ=jy js ds (ρ.set j (some (.dat d))):=rfl
@[simp]theorem acr (ρ:Env):aU ρ []=ρ:=rfl
@[simp]theorem ab5 (ρ:Env) (j:Nat) (js:List Nat):aU ρ (j::js)=(aU ρ js).set j none:=rfl
@[simp]theorem abJ {α:Type} (a:α) (l:List α):atI (a::l) 0=some a:=atI_nat (j:=0) rfl
@[simp]theorem acO (n:Nat):ini n ds=ds.map (λd=>some (.dat d))++List.replicate (n-ds.length) none:=rfl
end
theorem Jg{a b:String}:Str.ofString a=Str.ofString b↔a=b:=by
 constructor
 .intro h;rw[Str.ofString_eq_toList,Str.ofString_eq_toList]at h;have h1:a.toList.map Char.toNat=b.toList.map Char.toNat:=by simpa using h
  have h2:a.toList=b.toList:=by
   refine List.map_inj_right (f:=Char.toNat) (λx y e=>?_) |>.mp h1
   exact Char.ext (UInt32.toNat_inj.mp e)
  exact String.toList_inj.mp h2
 .rintro rfl;rfl
@[simp]theorem adC (a b:String):(Str.ofString a=Str.ofString b)=(a=b):=propext Jg
@[simp]theorem adw (a b:String):(Str.ofString a==Str.ofString b)=decide (a=b):=by rw[af9];simp[Jg]
@[simp]theorem afk {α:Type} (a b:α) (l:List α):atI (a::b::l) 1=some b:=atI_nat (j:=1) rfl
@[simp]theorem afl {α:Type} (a b c:α) (l:List α):atI (a::b::c::l) 2=some c:=atI_nat (j:=2) rfl
@[simp]theorem afj {α:Type} (a b c d:α) (l:List α):atI (a::b::c::d::l) 3=some d:=atI_nat (j:=3) rfl
@[simp]theorem ae3 {α:Type} (a b c d e:α) (l:List α):atI (a::b::c::d::e::l) 4=some e:=atI_nat (j:=4) rfl
@[simp]theorem afc {α:Type} (a b c d e f:α) (l:List α):atI (a::b::c::d::e::f::l) 5=some f:=atI_nat (j:=5) rfl
@[simp]theorem afg {α:Type} (a b c d e f g:α) (l:List α):atI (a::b::c::d::e::f::g::l) 6=some g:=atI_nat (j:=6) rfl
@[simp]theorem jh (s:String):PyData.strOk (Str.ofString s)=true:=by
 rw[Str.ofString_eq_toList];unfold PyData.strOk;simp only[Array.all_eq_true,ago];intro i h;simp only[List.getElem_toArray,List.getElem_map];have:=s.toList[i]'(by simpa using h) |>.valid
 rcases this with z|⟨_,z⟩
 .show(s.toList[i]'(by simpa using h)).val.toNat<_
  omega
 .show(s.toList[i]'(by simpa using h)).val.toNat<_
  omega
section
variable(i j:Int)(x y:Str)(d e:Dat)(ds es:List Dat)(b c:Bool)
@[simp]theorem W3:PyData.eqv (.int i) (.int j)=(i==j):=by simp[PyData.eqv]
@[simp]theorem Oo:PyData.eqv (.str x) (.str y)=(x==y):=by simp[PyData.eqv]
@[simp]theorem aej:PyData.eqv (.bool b) (.bool c)=(b==c):=by simp[PyData.eqv]
@[simp]theorem adQ:PyData.eqv .none .none=true:=by simp[PyData.eqv]
@[simp]theorem aeh:PyData.eqv (.tuple ds) (.tuple es)=PyData.eqvAll ds es:=by simp[PyData.eqv]
@[simp]theorem YM:PyData.eqv (.list ds) (.list es)=PyData.eqvAll ds es:=by simp[PyData.eqv]
@[simp]theorem ad8:PyData.eqv (.tuple ds) .none=false:=by simp[PyData.eqv]
@[simp]theorem aeM:PyData.eqv .none (.tuple ds)=false:=by simp[PyData.eqv]
@[simp]theorem aec:PyData.eqv (.str x) (.int i)=false:=by simp[PyData.eqv]
@[simp]theorem aex:PyData.eqv (.int i) (.str x)=false:=by simp[PyData.eqv]
@[simp]theorem acS:PyData.eqvAll [] []=true:=by simp[PyData.eqvAll]
@[simp]theorem ady:PyData.eqvAll [] (d::ds)=false:=by simp[PyData.eqvAll]
@[simp]theorem Va:PyData.eqvAll (d::ds) []=false:=by simp[PyData.eqvAll]
@[simp]theorem Vc:PyData.eqvAll (d::ds) (e::es)=(PyData.eqv d e&&PyData.eqvAll ds es):=by simp[PyData.eqvAll]
end
@[simp]theorem Hh:∀l m:List Int,PyData.eqvAll (l.map PyData.int) (m.map PyData.int)=decide (l=m)
 |[],[]=>by simp
 |[],_::_=>by simp
 |_::_,[]=>by simp
 |a::l,b::m=>by
  rw[aft,aft,Vc,Hh l m,W3];by_cases h:a=b<;>by_cases h2:l=m<;>simp[h,h2]
theorem qR{n:Nat}:∀{ds:List Dat},fZ n ds=true↔∀d∈ds,okd n d=true
 |[]=>by simp[fZ]
 |d::ds=>by simp[fZ,qR (ds:=ds)]
@[simp]theorem acD (n:Nat) (i:Int):okd n (.int i)=true:=by simp[okd]
@[simp]theorem abE (n:Nat) (l:List Int):fZ n (l.map PyData.int)=true:=qR.mpr λd h=>by
 obtain⟨i,_,rfl⟩:=afG.mp h;simp
def ob(h:Nat):Dat:=obj h
section
variable(M:Mo)(ρ:Env)(h:Nat)(f:Str)
@[simp]theorem ac0:tV M f (ob h)=(M[h]?).bind λi=>i.fs.lookup f:=rfl
@[simp]theorem aco (tb:List (Str×MV)):oZ tb M (ob h)=(M[h]?).bind λi=>tb.lookup i.cls:=rfl
@[simp]theorem Ds:dO M (ob h)=(M[h]?).bind λi=>match i.cls=="" with
 |true=>none
 |false=>some (h,i):=rfl
@[simp]theorem adG (o:QF):Q7 f o M ρ=(o M ρ).bind λd=>match tV M f d with
 |some (.dat x)=>.ok x
 |_=>.bad:=rfl
@[simp]theorem ado (o:QF):Kf f o M ρ=(o M ρ).bind λd=>match tV M f d with
 |some (.dat x)=>.ok x
 |some (.lst _ xs)=>.ok (.list xs)
 |_=>.bad:=rfl
@[simp]theorem acU (tb:List (Str×MV)) (o:QF) (as:QA):xZ tb o as M ρ=(o M ρ).bind λd=>match oZ tb M d with
 |some (.q _ m)=>(as M ρ).bind λds=>m M (d::ds)
 |_=>.bad:=rfl
@[simp]theorem ab8 (tb:List (Str×MV)) (o:QF) (as:QA):xQ tb o as M ρ=((o M ρ).at M).bind λd _=>match oZ tb M d with
 |some (.q _ m)=>((as M ρ).at M).bind λds _=>(m M (d::ds)).at M
 |some (.g _ m)=>((as M ρ).at M).bind λds _=>m M (d::ds)
 |none=>.bad:=rfl
@[simp]theorem ac2 (x:Str) (m:Mo->List Dat->aV Dat) (as:QA):wz x m as M ρ=((as M ρ).at M).bind λds _=>match m (M++[⟨x,[]⟩]) (ob M.length::ds) with
 |.ok .none M'=>.ok (ob M.length) M'
 |_=>.bad:=rfl
@[simp]theorem ab0 (m:Mo->List Dat->aV Dat) (as:QA):KC m as M ρ=((as M ρ).at M).bind λds _=>m M ds:=rfl
@[simp]theorem abK (m:Mo->List Dat->aV Dat) (as:GA):YZ m as M ρ=(as M ρ).bind λds M1=>m M1 ds:=rfl
@[simp]theorem abM (m:Mo->List Dat->Out Dat) (as:GA):Zd m as M ρ=(as M ρ).bind λds M1=>(m M1 ds).at M1:=rfl
@[simp]theorem abI (a:GF) (r:GA):aah a r M ρ=(a M ρ).bind λd M1=>(r M1 ρ).bind λds M2=>.ok (d::ds) M2:=rfl
@[simp]theorem acY (t:QT):RP t M ρ=(t M ρ).at M:=rfl
@[simp]theorem ace (a:GT):aa6 a M ρ=(a M ρ).bind λb M1=>.ok (!b) M1:=rfl
@[simp]theorem abW (a b:GT):abj a b M ρ=(a M ρ).bind λx M1=>if x=true then b M1 ρ else .ok false M1:=rfl
@[simp]theorem acL (a b:GT):acq a b M ρ=(a M ρ).bind λx M1=>if x=true then .ok true M1 else b M1 ρ:=rfl
@[simp]theorem aci (a:GF):aaO a M ρ=(a M ρ).bind λd M1=>(qT d).at M1:=rfl
@[simp]theorem abU (x:Str):iD x M ρ=.exc ⟨x,[]⟩ ρ M:=rfl
@[simp]theorem abz (x:Str) (fs:List Str) (as:QA):u5 x fs as M ρ=((as M ρ).at M).then ρ λds M'=>.exc ⟨x,(fs.zip ds).reverse⟩ ρ M':=rfl
@[simp]theorem aeQ (b:SF) (hs:List Hd):Hf b hs M ρ=match b M ρ with
 |.exc x Z' M'=>hdl hs x Z' M'
 |o=>o:=rfl
@[simp]theorem acQ (x:bL):hdl [] x ρ M=.exc x ρ M:=rfl
@[simp]theorem acP (h:Hd) (r:List Hd) (x:bL):hdl (h::r) x ρ M=match h.tk x.cls with
  |some true=>match KN ρ h.nm with
   |true=>match oU h.y x h.st (zU ρ h.nm) with
    |some Z2=>.next (zU Z2 h.nm) M
    |none=>.bad
   |false=>.bad
  |some false=>hdl r x ρ M
  |none=>.bad:=rfl
@[simp]theorem ada:zU ρ none=ρ:=rfl
@[simp]theorem adn (i:Nat):zU ρ (some i)=ρ.set i none:=rfl
@[simp]theorem ab6:KN ρ none=true:=rfl
@[simp]theorem acd (i:Nat):KN ρ (some i)=decide (i<ρ.length):=rfl
@[simp]theorem ae0 (y:Str) (x:bL):oU y x [] ρ=some ρ:=rfl
@[simp]theorem adK (y:Str) (x:bL) (j:Nat) (e:oK) (r:List (Nat×oK)):oU y x ((j,e)::r) ρ=(Fb y x e).bind λd=>oU y x r (ρ.set j (some (.dat d))):=rfl
@[simp]theorem aeY (y:Str) (x:bL) (d:Dat):Fb y x (.con d)=some d:=rfl
@[simp]theorem acI (g:GF):Lk g M ρ=(g M ρ).then ρ λd M'=>.ret d M':=rfl
@[simp]theorem aeR (t:GT) (f k:SF):acs t f k M ρ=(t M ρ).then ρ λc M'=>if c=true then f M' ρ else k M' ρ:=rfl
@[simp]theorem abA (a b:QF):zX a b M ρ=(a M ρ).bind λd=>(b M ρ).bind λe=>(lV d).bind λlo=>(lV e).bind λn=>Out.when (decide (n<=100000/\-100000<=n/\lo<=100000/\-100000<=lo)) (.ok (iG lo (n-lo).toNat)):=rfl
@[simp]theorem ac6 (ft:Ft) (o:QF) (e:GF):Km ft o f e M ρ=(e M ρ).then ρ λd M1=>((o M1 ρ).at M1).then ρ λod M2=>match dO M2 od with
 |some (h,i)=>match ft.has i.cls f&&decide (i.fs.length<100) with
  |true=>.next ρ (M2.set h (i.put f (.dat d)))
  |false=>.bad
 |none=>.bad:=rfl
@[simp]theorem acK (ft:Ft) (o:QF) (e:IF):Ce ft o f e M ρ=((e M ρ).at M).then ρ λxs M0=>((o (M0++[⟨"",[]⟩]) ρ).at (M0++[⟨"",[]⟩])).then ρ λod M2=>match dO M2 od with
 |some (h,i)=>match ft.has i.cls f&&decide (i.fs.length<100) with
  |true=>.next ρ (M2.set h (i.put f (.lst M0.length xs)))
  |false=>.bad
 |none=>.bad:=rfl
@[simp]theorem adi (ft:Ft) (o:QF) (b:Bool):Cz ft o f b M ρ=((o (M++[⟨"",[]⟩]) ρ).at (M++[⟨"",[]⟩])).then ρ λod M2=>match dO M2 od with
 |some (h,i)=>match ft.has i.cls f&&decide (i.fs.length<100) with
  |true=>.next ρ (M2.set h (i.put f (.dic b [])))
  |false=>.bad
 |none=>.bad:=rfl
@[simp]theorem adp (ft:Ft) (o:QF) (e:Mo->Env->Out (List (Dat×Dat))):Cg ft o f e M ρ=((e M ρ).at M).then ρ λkvs _=>((o (M++[⟨"",[]⟩]) ρ).at (M++[⟨"",[]⟩])).then ρ λod M2=>match dO M2 od with
 |some (h,i)=>match ft.has i.cls f&&decide (i.fs.length<100) with
  |true=>.next ρ (M2.set h (i.put f (.dic true kvs)))
  |false=>.bad
 |none=>.bad:=rfl
@[simp]theorem acR (o:QF) (e:GF):Cu f o e M ρ=((o M ρ).at M).then ρ λod M0=>match pC M0 f od with
 |some (_,_,n,_)=>(e M0 ρ).then ρ λd M1=>match pC M1 f od with
  |some (h,i,n',xs)=>match n==n'&&decide (xs.length<100000) with
   |true=>.next ρ (M1.set h (i.put f (.lst n (xs++[d]))))
   |false=>.bad
  |none=>.bad
 |none=>.bad:=rfl
@[simp]theorem acF (o fi e:QF):CW f o fi e M ρ=((e M ρ).at M).then ρ λd _=>((o M ρ).at M).then ρ λod _=>match pC M f od with
 |some (h,i,n,xs)=>((fi M ρ).at M).then ρ λk _=>match k with
  |.int k=>match ixN xs.length k with
   |some j=>.next ρ (M.set h (i.put f (.lst n (xs.set j d))))
   |none=>.bad
  |_=>.bad
 |none=>.bad:=rfl
@[simp]theorem adg (ft:Ft) (o e:QF):Cy ft f o e M ρ=((o M ρ).at M).then ρ λod _=>match dO M od with
 |some (h,i)=>match i.fs.lookup f,ft.has i.cls f&&decide (i.fs.length<100) with
  |some (.dat (.int a)),true=>((e M ρ).at M).then ρ λd _=>match d with
   |.int b=>.next ρ (M.set h (i.put f (.dat (.int (a+b)))))
   |_=>.bad
  |_,_=>.bad
 |none=>.bad:=rfl
theorem Vb(d:Dat):pC M f d=(dO M d).bind λp=>match p.2.fs.lookup f with
 |some (.lst n xs)=>some (p.1,p.2,n,xs)
 |_=>none:=rfl
@[simp]theorem ac1:pC M f (ob h)=(M[h]?).bind λi=>match i.cls=="" with
 |true=>none
 |false=>match i.fs.lookup f with
  |some (.lst n xs)=>some (h,i,n,xs)
  |_=>none:=by
 rw[Vb,Ds];cases M[h]? with
 |none=>rfl
 |some i=>
  show(match i.cls=="" with
   |true=>none
   |false=>some (h,i)).bind _=(match i.cls=="" with
   |true=>none
   |false=>_)
  cases i.cls==""<;>rfl
@[simp]theorem acX (i:Inst) (x:cQ):i.put f x=⟨i.cls,putL f x i.fs⟩:=rfl
@[simp]theorem ae6 (x:cQ):putL f x []=[(f,x)]:=rfl
@[simp]theorem ae7 (x y:cQ) (g:Str) (r:List (Str×cQ)):putL f x ((g,y)::r)=if g=f then(g,x)::r else(g,y)::putL f x r:=rfl
@[simp]theorem ac7 (ft:Ft) (c:Str):Ft.has ft c f=match ft.lookup c with
 |some fs=>fs.contains f
 |none=>false:=rfl
@[simp]theorem acT:lC M f (ob h)=(M[h]?).bind λi=>match i.cls=="" with
 |true=>none
 |false=>match i.fs.lookup f with
  |some (.dic b kvs)=>some (h,i,b,kvs)
  |_=>none:=by
 show(dO M (ob h)).bind _=_
 rw[Ds];cases M[h]? with
 |none=>rfl
 |some i=>
  show(match i.cls=="" with
   |true=>none
   |false=>some (h,i)).bind _=(match i.cls=="" with
   |true=>none
   |false=>_)
  cases i.cls==""<;>rfl
@[simp]theorem adH (neg:Bool) (k o:QF):Dr neg f k o M ρ=(k M ρ).bind λd=>(o M ρ).bind λod=>match lC M f od with
 |some (_,_,b,kvs)=>(dhas b kvs d).bind λr=>.ok (.bool (neg ^^ r))
 |none=>.bad:=rfl
@[simp]theorem acW (o k e:QF):Cv f o k e M ρ=((e M ρ).at M).then ρ λv _=>((o M ρ).at M).then ρ λod _=>match lC M f od with
 |some (h,i,b,kvs)=>((k M ρ).at M).then ρ λd _=>match dhas b kvs d,decide (kvs.length<100000) with
  |.ok false,true=>.next ρ (M.set h (i.put f (.dic b (kvs++[(d,v)]))))
  |_,_=>.bad
 |none=>.bad:=rfl
@[simp]theorem acG (o k:QF):CQ f o k M ρ=((o M ρ).at M).then ρ λod _=>match lC M f od with
 |some (h,i,b,kvs)=>((k M ρ).at M).then ρ λd _=>match dhas b kvs d,decide (kvs.length<=100000) with
  |.ok true,true=>.next ρ (M.set h (i.put f (.dic b (kvs.filter λp=>!PyData.eqv p.1 d))))
  |_,_=>.bad
 |none=>.bad:=rfl
@[simp]theorem abT (o:QF):wO f o M ρ=(o M ρ).bind λod=>match lC M f od with
 |some (_,_,true,kvs)=>.ok (kvs.map (·.1))
 |_=>.bad:=rfl
@[simp]theorem ab3 (o:QF):sW f o M ρ=(o M ρ).bind λod=>match lC M f od with
 |some (_,_,_,kvs)=>.ok (.list (kvs.map (·.1)))
 |none=>.bad:=rfl
@[simp]theorem afa (it:IF) (tg:bY) (vs:List Nat) (tk:QF):Z5 it tg vs tk M ρ=(it M ρ).bind λds=>Out.when (decide (ds.length<=50000)) (rJ tg tk M (aU ρ vs) ds []):=rfl
@[simp]theorem ab2 (kvs:List (Dat×Dat)) (i:Int):dhas false kvs (.int i)=.ok (kvs.any λp=>PyData.eqv p.1 (.int i)):=rfl
@[simp]theorem afb (o:Str->Dat->Out Dat) (a b:QF):jU o a b M ρ=(a M ρ).bind λx=>match x with
 |.str z=>(b M ρ).bind (o z)
 |_=>.bad:=rfl
@[simp]theorem adR (o:Str->Dat->Dat->Out Dat) (a b c:QF):GZ o a b c M ρ=(a M ρ).bind λx=>match x with
 |.str z=>(b M ρ).bind λy=>(c M ρ).bind (o z y)
 |_=>.bad:=rfl
@[simp]theorem afh (o:List Dat->Dat->Out Dat) (a b:QF):Im o a b M ρ=(a M ρ).bind λx=>match x with
 |.list ds=>(b M ρ).bind (o ds)
 |_=>.bad:=rfl
@[simp]theorem aeI (ds:List Dat) (b:QF):Ek ds b M ρ=(b M ρ).bind (zB ds):=rfl
@[simp]theorem aeB (a b:QF):yU a b M ρ=(a M ρ).bind λd=>(uE d).bind λx=>Out.when (decide (x.length<=100000)) ((b M ρ).bind λe=>(uE e).bind λy=>Out.when (decide (x.length+y.length<=100000)) (.ok (.str (x++y)))):=rfl
@[simp]theorem adE (neg:Bool) (kvs:List (Str×Dat)) (k:QF):wC neg kvs k M ρ=(k M ρ).bind λd=>match d with
 |.str x=>.ok (.bool (neg ^^ (kvs.lookup x).isSome))
 |.int _=>.ok (.bool neg)
 |.tuple ds=>(match jG ds with
  |some ks=>Out.when (decide ((NestedKey.tup ks).depth<=8)) (.ok (.bool neg))
  |none=>.bad)
 |_=>.bad:=rfl
@[simp]theorem aed (kvs:List (Str×Dat)) (k:QF):zR kvs k M ρ=(k M ρ).bind λd=>match d with
 |.str x=>match kvs.lookup x with
  |some y=>.ok y
  |none=>.bad
 |_=>.bad:=rfl
@[simp]theorem abQ (it:IF) (tg:bY) (vs:List Nat) (tt:QT) (it1:IF) (tg1:bY) (vs1:List Nat) (tt1:QT) (te:QF):tZ it tg vs tt it1 tg1 vs1 tt1 te M ρ=((it M ρ).bind λds=>(dH tg tt it1 tg1 vs1 tt1 te M (aU ρ vs) ds).bind λr=>Out.when (decide (r.length<=50000)) (.ok r)).bind λr=>.ok (.list r):=rfl
@[simp]theorem abH (it:IF) (tg:bY) (vs:List Nat) (tt:QT) (te:QF):U9 it tg vs tt te M ρ=((it M ρ).bind λds=>Out.when (decide (ds.length<=50000)) (bG tg tt te M (aU ρ vs) ds)).bind λds=>match intsOf ds with
 |some l=>Out.when (decide (l.length<=4000)) (.ok (.list ((Tn l).map PyData.int)))
 |none=>.bad:=rfl
@[simp]theorem abL {α:Type} (k g:Str) (y:α) (r:List (Str×α)):List.lookup k ((g,y)::r)=if k=g then some y else List.lookup k r:=by
 rw[afF];by_cases e:k=g
 .subst e;simp
 .have:(k==g)=false:=by simpa using e
  rw[this,agt e]
end
end Rf
namespace Pr
open PySem PySem.Spec PyProof.Rows L2 Evl Rf
def G4:SF:=
 (aF (bx (aZ (aq Jx (ak 1) (bW dh (ak 0)))) (aJ (aq dM (ak 0) (ak 1))) aH)
 (aJ (qC (.int 0))))
def fW:=mQ 2 G4
def zF:SF:=
 (aF (aY (aD 5) (gOf (aq dJ (aq aO (aq aO (aq vH (ak 5) (qC (.int 48271))) (aq vH (qC (.int 9973)) (ak 4))) (qC (.int 11))) (qC (.int 2147483647)))))
 (pB 3 (aq dJ (aq pD (ak 5) (qC (.int 1021))) (ak 2))))
def zH:SF:=
 (aF (pB 3 (aq dJ (ak 0) (ak 2)))
 (aY (aD 0) (gOf (aq pD (ak 0) (ak 2)))))
def K7:SF:=
 (aF (pA 3 (Nu aG))
 (aF (aY (aD 0) (gOf (bW yV (ak 0))))
 (aF (bx (aZ (aq Oi (ak 0) (aq vX (qC (.int 10)) (qC (.int 18))))) (aF (lW (m7 (ak 1)) (aD 4) zH)
 (aJ (aK 3))) aH)
 (aF (aY (aD 5) (gOf (aq dJ (aq vH (aq aO (aq dJ (ak 0) (qC (.int 1000003))) (qC (.int 17))) (qC (.int 69621))) (qC (.int 2147483647)))))
 (aF (lW (m7 (ak 1)) (aD 4) zF)
 (aJ (aK 3)))))))
def mK:=mQ 6 K7
def vJ:SF:=
 (aF (bx (aZ (aq bV (aq dJ (ak 1) (qC (.int 4))) (qC (.int 1)))) (aJ (bW jd (fU (iH (ak 0)) (aD 2) [2] jK (aq uY (qC (.int 0)) (aq j9 (ak 2) (qC (.int 7))))))) aH)
 (aF (bx (aZ (aq bV (aq dJ (ak 1) (qC (.int 4))) (qC (.int 2)))) (aJ (bW jd (fU (iH (ak 0)) (aD 2) [2] jK (aq dJ (ak 2) (qC (.int 3)))))) aH)
 (aJ (bW jd (ak 0)))))
def lE:=mQ 3 vJ
def Kw:SF:=
 (aF (aY (aD 1) (gOf (aN mK (ao (aK 0) (ao (qC (.int 7)) (ao (qC (.int 10)) aG))))))
 (aJ (aN lE (ao (eZ (ak 1) bB (bD (qC (.int 6)))) (ao (aq dM (ak 1) (qC (.int 6))) aG)))))
def qL:=mQ 2 Kw
def jO:SF:=
 (aF (aY (aD 7) (gOf (aN fW (ao (aK 0) (ao (aq aO (qC (.int 1)) (ak 5)) aG)))))
 (bx (aZ (aq bV (ak 6) (qC (.str "e")))) (pB 4 (aN qL (ao (aK 7) aG))) (bx (aZ (aq bV (ak 6) (qC (.str "p")))) (pB 4 (aq dJ (ak 7) (qC (.int 6)))) (bx (aZ (aq bV (aq dJ (ak 7) (qC (.int 5))) (qC (.int 4)))) (pB 4 (aq dJ (aq pD (ak 7) (qC (.int 5))) (qC (.int 1000000000)))) (pB 4 (aq dJ (aq pD (ak 7) (qC (.int 5))) (qC (.int 12))))))))
def yW:SF:=
 (aF (aY (aD 1) (gOf (lY (ao (qC (.str "owner")) (ao (qC (.str "ground")) (ao (qC (.str "enrol")) (ao (qC (.str "leave")) (ao (qC (.str "bring")) (ao (qC (.str "bear")) (ao (qC (.str "cut")) (ao (qC (.str "tear")) (ao (qC (.str "sell")) (ao (qC (.str "move")) (ao (qC (.str "die")) (ao (qC (.str "unite")) aG)))))))))))))))
 (aF (aY (aD 1) (gOf (aq aO (ak 1) (lY (ao (qC (.str "part")) (ao (qC (.str "pass")) (ao (qC (.str "heir")) aG)))))))
 (aF (aY (aD 2) (gOf (lY (ao (qC (.str "")) (ao (qC (.str "n")) (ao (qC (.str "nne")) (ao (qC (.str "nn")) (ao (qC (.str "nne")) (ao (qC (.str "n")) (ao (qC (.str "n")) (ao (qC (.str "np")) (ao (qC (.str "nn")) (ao (qC (.str "nn")) (ao (qC (.str "n")) (ao (qC (.str "nn")) (ao (qC (.str "n")) (ao (qC (.str "nn")) (ao (qC (.str "nnn")) aG))))))))))))))))))
 (aF (aY (aD 3) (gOf (aq dJ (aN fW (ao (aK 0) (ao (qC (.int 0)) aG))) (qC (.int 15)))))
 (aF (pA 4 (Nu (ao (aq dM (ak 1) (ak 3)) aG)))
 (aF (lW (o9 0 (aq dM (ak 2) (ak 3))) (cC [5,6]) jO)
 (aJ (bW jd (ak 4)))))))))
def jQ:=mQ 8 yW
def mU:SF:=
 (aF (aY (aD 1) (gOf (fU (pF (eY (ao (qC (.str "lt")) (ao (qC (.str "lf")) (ao (qC (.str "lh")) (ao (qC (.str "rt")) (ao (qC (.str "rf")) (ao (qC (.str "rh")) aG))))))) (ak 0)) (cC [2,3]) [2,3] jK (aq aO (ak 2) (bW qX (ak 3))))))
 (aF (aY (aD 1) (gOf (fU (m7 (qC (.int 6))) (aD 4) [4] (aZ (aq yE (aq dM (ak 0) (ak 4)) (qC (.int 0)))) (aq dM (ak 1) (ak 4)))))
 (aF (bx (aZ (aq bV (ak 1) (lY aG))) (aJ (qC (.str "none"))) aH)
 (aJ (jU j5 (qC (.str " ")) (ak 1))))))
def jx:=mQ 5 mU
def jf:SF:=
 (bx (dZ (iK .tuple (ak 3))) (aY (aD 1) (gOf (aq aO (aq aO (ak 1) (qC (.str " "))) (aN jx (ao (aK 3) aG))))) (bx (jA (aZ (aq bV (aq dM (ak 0) (qC (.int 0))) (qC (.str "tear")))) (aZ (aq bV (ak 2) (qC (.int 1))))) (aY (aD 1) (gOf (aq aO (aq aO (ak 1) (qC (.str " "))) (aq dM (eY (ao (qC (.str "lt")) (ao (qC (.str "lf")) (ao (qC (.str "lh")) (ao (qC (.str "rt")) (ao (qC (.str "rf")) (ao (qC (.str "rh")) aG))))))) (ak 3))))) (aY (aD 1) (gOf (aq aO (aq aO (ak 1) (qC (.str " "))) (bW qX (ak 3)))))))
def Gq:SF:=
 (aF (aY (aD 1) (gOf (aq dM (ak 0) (qC (.int 0)))))
 (aF (lW (o9 0 (eZ (ak 0) (bD (qC (.int 1))) bB)) (cC [2,3]) jf)
 (aJ (aK 1))))
def ni:=mQ 4 Gq
def Ef:SF:=
 (aF (aY (aD 1) (gOf (qC (.str "abcdefghijklmnopqrstuvwxyz"))))
 (aJ (jU j5 (qC (.str "")) (fU (iH (aN mK (ao (aK 0) (ao (aq aO (qC (.int 3)) (aq dJ (bW yV (ak 0)) (qC (.int 4)))) (ao (qC (.int 26)) aG))))) (aD 2) [2] jK (aq dM (ak 1) (ak 2))))))
def sO:=mQ 3 Ef
def CJ:SF:=
 (aF (bx (aZ (aq Jx (ak 0) (qC (.int 0)))) (aJ (aq j9 (qC (.int 0)) (aq dJ (aq j9 (qC (.int 0)) (ak 0)) (aq vX (qC (.int 10)) (qC (.int 30)))))) aH)
 (aJ (aq dJ (ak 0) (aq vX (qC (.int 10)) (qC (.int 30))))))
def oE:=mQ 1 CJ
def fY:SF:=
 (aF (aY (aD 2) (gOf (aq dJ (ak 1) (qC (.int 17)))))
 (aF (bx (aZ (aq bV (ak 2) (qC (.int 0)))) (aJ (eZ (ak 0) bB (bD (qC (.int 5))))) aH)
 (aF (bx (aZ (aq bV (ak 2) (qC (.int 1)))) (aJ (aq aO (ak 0) (eY (ao (qC (.int 0)) aG)))) aH)
 (aF (bx (aZ (aq bV (ak 2) (qC (.int 2)))) (aJ (aq aO (aq aO (eZ (ak 0) bB (bD (qC (.int 3)))) (eY (ao (qC (.int 10)) aG))) (eZ (ak 0) (bD (qC (.int 4))) bB))) aH)
 (aF (bx (aZ (aq bV (ak 2) (qC (.int 3)))) (aJ (aq aO (eY (ao (aq j9 (qC (.int 0)) (qC (.int 1))) aG)) (eZ (ak 0) (bD (qC (.int 1))) bB))) aH)
 (aF (bx (aZ (aq bV (ak 2) (qC (.int 4)))) (aJ (eY (ao (qC (.int 0)) (ao (qC (.int 0)) (ao (qC (.int 0)) (ao (qC (.int 0)) (ao (qC (.int 0)) (ao (qC (.int 0)) aG)))))))) aH)
 (aF (bx (aZ (aq bV (ak 2) (qC (.int 5)))) (aJ (eY aG)) aH)
 (aF (bx (aZ (aq bV (ak 2) (qC (.int 6)))) (aJ (aq aO (eZ (ak 0) bB (bD (qC (.int 5)))) (eY (ao (aN oE (ao (aK 1) aG)) aG)))) aH)
 (aJ (aK 0))))))))))
def d9:=mQ 3 fY
def bh:SF:=
 (aF (aY (aD 1) (gOf (aN jQ (ao (aK 0) aG))))
 (aF (aY (aD 2) (gOf (aq dJ (aN fW (ao (aK 0) (ao (qC (.int 4)) aG))) (qC (.int 9)))))
 (aF (aY (aD 3) (gOf (aq dJ (aq pD (aN fW (ao (aK 0) (ao (qC (.int 4)) aG))) (qC (.int 9))) (bW dh (ak 1)))))
 (aF (aY (aD 4) (gOf (aN fW (ao (aK 0) (ao (qC (.int 5)) aG)))))
 (aF (bx (aZ (aq bV (ak 2) (qC (.int 1)))) (aY (aD 1) (gOf (aq aO (eZ (ak 1) bB (bD (ak 3))) (eZ (ak 1) (bD (aq aO (ak 3) (qC (.int 1)))) bB)))) aH)
 (aF (bx (aZ (aq bV (ak 2) (qC (.int 2)))) (aY (aD 1) (gOf (aq aO (aq aO (eZ (ak 1) bB (bD (aq aO (ak 3) (qC (.int 1))))) (eY (ao (aq dJ (ak 4) (qC (.int 12))) aG))) (eZ (ak 1) (bD (aq aO (ak 3) (qC (.int 1)))) bB)))) aH)
 (aF (bx (aZ (aq bV (ak 2) (qC (.int 3)))) (aY (aD 1) (gOf (aq aO (eY (ao (aq dM (lY (ao (qC (.str "")) (ao (qC (.str "Cut")) (ao (qC (.str "cut ")) (ao (qC (.str "sale")) (ao (qC (.str "owners")) aG)))))) (aq dJ (ak 4) (qC (.int 5)))) aG)) (eZ (ak 1) (bD (qC (.int 1))) bB)))) aH)
 (aF (bx (aZ (aq bV (ak 2) (qC (.int 4)))) (aY (aD 1) (gOf (aq aO (aq aO (eZ (ak 1) bB (bD (ak 3))) (eY (ao (aN oE (ao (aK 4) aG)) aG))) (eZ (ak 1) (bD (aq aO (ak 3) (qC (.int 1)))) bB)))) aH)
 (aF (bx (aZ (aq bV (ak 2) (qC (.int 5)))) (aY (aD 1) (gOf (aq aO (aq aO (eZ (ak 1) bB (bD (ak 3))) (eY (ao (aN d9 (ao (aN qL (ao (aq pD (ak 4) (qC (.int 17))) aG)) (ao (aK 4) aG))) aG))) (eZ (ak 1) (bD (aq aO (ak 3) (qC (.int 1)))) bB)))) aH)
 (aF (bx (aZ (aq bV (ak 2) (qC (.int 6)))) (aY (aD 1) (gOf (aq aO (aq aO (eZ (ak 1) bB (bD (ak 3))) (eY (ao (aq j9 (qC (.int 1000000000)) (aq dJ (ak 4) (qC (.int 2)))) aG))) (eZ (ak 1) (bD (aq aO (ak 3) (qC (.int 1)))) bB)))) aH)
 (aF (bx (aZ (aq bV (ak 2) (qC (.int 7)))) (aY (aD 1) (gOf (aq aO (aq aO (eZ (ak 1) bB (bD (ak 3))) (eY (ao (qC (.str "cut")) aG))) (eZ (ak 1) (bD (aq aO (ak 3) (qC (.int 1)))) bB)))) aH)
 (aF (bx (aZ (aq bV (ak 2) (qC (.int 8)))) (aY (aD 1) (gOf (aq aO (eY (ao (aN sO (ao (aK 4) aG)) aG)) (eZ (ak 1) (bD (qC (.int 1))) bB)))) aH)
 (aJ (aK 1))))))))))))))
def aX:=mQ 5 bh
def zV:SF:=
 (aJ (lH (iK .int (ak 0)) (Cp (iK .bool (ak 0)))))
def lA:=mQ 1 zV
def fG:SF:=
 (bx (jL (dw (dZ (aN lA (ao (aK 1) aG)))) (dw (gD j8 j8 (qC (.int 0)) (ak 1) (qC (.int 9))))) (aJ (qC (.bool false))) aH)
def gW:SF:=
 (aF (bx (jL (dw (dZ (iK .tuple (ak 0)))) (aZ (aq pZ (bW dh (ak 0)) (qC (.int 6))))) (aJ (qC (.bool false))) aH)
 (aF (lW (iH (aK 0)) (aD 1) fG)
 (aJ (qC (.bool true)))))
def dN:=mQ 2 gW
def dX:SF:=
 (aF (bx (jA (aZ (aq bV (ak 5) (qC (.str "e")))) (dw (dZ (aN dN (ao (aK 4) aG))))) (aJ (qC (.bool true))) aH)
 (aF (bx (jA (aZ (aq pZ (ak 5) (qC (.str "e")))) (dw (dZ (iK .int (ak 4))))) (aJ (qC (.bool true))) aH)
 (aF (bx (jA (aZ (aq bV (ak 5) (qC (.str "n")))) (dw (gD j8 j8 (qC (.int 0)) (ak 4) (qC (.int 999999999))))) (aJ (qC (.bool true))) aH)
 (bx (jA (aZ (aq bV (ak 5) (qC (.str "p")))) (dw (gD j8 j8 (qC (.int 0)) (ak 4) (qC (.int 5))))) (aJ (qC (.bool true))) aH))))
def jr:SF:=
 (aF (bx (jL (aZ (aq bV (bW dh (ak 0)) (qC (.int 0)))) (dw (dZ (iK .str (aq dM (ak 0) (qC (.int 0))))))) (aJ (qC (.bool true))) aH)
 (aF (aY (aD 1) (gOf (lY (ao (qC (.str "owner")) (ao (qC (.str "ground")) (ao (qC (.str "enrol")) (ao (qC (.str "leave")) (ao (qC (.str "bring")) (ao (qC (.str "bear")) (ao (qC (.str "cut")) (ao (qC (.str "tear")) (ao (qC (.str "sell")) (ao (qC (.str "move")) (ao (qC (.str "die")) (ao (qC (.str "unite")) aG)))))))))))))))
 (aF (aY (aD 1) (gOf (aq aO (ak 1) (lY (ao (qC (.str "part")) (ao (qC (.str "pass")) (ao (qC (.str "heir")) aG)))))))
 (aF (aY (aD 2) (gOf (lY (ao (qC (.str "")) (ao (qC (.str "n")) (ao (qC (.str "nne")) (ao (qC (.str "nn")) (ao (qC (.str "nne")) (ao (qC (.str "n")) (ao (qC (.str "n")) (ao (qC (.str "np")) (ao (qC (.str "nn")) (ao (qC (.str "nn")) (ao (qC (.str "n")) (ao (qC (.str "nn")) (ao (qC (.str "n")) (ao (qC (.str "nn")) (ao (qC (.str "nnn")) aG))))))))))))))))))
 (aF (bx (aZ (aq (inD true) (aq dM (ak 0) (qC (.int 0))) (ak 1))) (aJ (qC (.bool true))) aH)
 (aF (aY (aD 3) (gOf (aq dM (ak 2) (Im lN (ak 1) (aq dM (ak 0) (qC (.int 0)))))))
 (aF (bx (aZ (aq pZ (bW dh (ak 3)) (aq j9 (bW dh (ak 0)) (qC (.int 1))))) (aJ (qC (.bool true))) aH)
 (aF (lW (pF (eZ (ak 0) (bD (qC (.int 1))) bB) (aK 3)) (cC [4,5]) dX)
 (aJ (qC (.bool false)))))))))))
def fM:=mQ 6 jr
def wD(r:Mo->List Dat->Out Dat):SF:=
 (bx (dw (dZ (aN r (ao (aK 2) (ao (aK 3) aG))))) (aJ (qC (.bool false))) aH)
def pW(r:Mo->List Dat->Out Dat):SF:=
 (aF (bx (aZ (uf false .none (ak 1))) (aJ (uf false .none (ak 0))) aH)
 (aF (bx (aZ (uf false (.bool true) (ak 1))) (aJ (uf false (.bool true) (ak 0))) aH)
 (aF (bx (aZ (uf false (.bool false) (ak 1))) (aJ (uf false (.bool false) (ak 0))) aH)
 (aF (bx (dZ (iK .int (ak 1))) (aJ (lH (aN lA (ao (aK 0) aG)) (aq bV (ak 0) (ak 1)))) aH)
 (aF (bx (dZ (iK .str (ak 1))) (aJ (lH (iK .str (ak 0)) (aq bV (ak 0) (ak 1)))) aH)
 (aF (bx (jA (dZ (iK .tuple (ak 1))) (dw (dZ (iK .tuple (ak 0))))) (aJ (qC (.bool false))) aH)
 (aF (bx (jA (dZ (iK .list (ak 1))) (dw (dZ (iK .list (ak 0))))) (aJ (qC (.bool false))) aH)
 (aF (bx (aZ (aq pZ (bW dh (ak 0)) (bW dh (ak 1)))) (aJ (qC (.bool false))) aH)
 (aF (lW (pF (aK 0) (aK 1)) (cC [2,3]) (wD r))
 (aJ (qC (.bool true))))))))))))
def eO:Nat->Mo->List Dat->Out Dat
 |0=>λ_ _=>.bad
 |n+1=>mQ 4 (pW (eO n))
def qF:SF:=
 (aJ (lH (aq bV (bW dh (ak 0)) (bW dh (qC bf))) (bW vD (fU (iH (ak 0)) (aD 1) [1] jK (Dq (gD j8 j8 (qC (.int 0)) (ak 1) (qC fH)))))))
def lu:=mQ 2 qF
def cI:SF:=
 (aF (bx (aZ (aq bV (ak 0) (qC (.str "ear")))) (aJ (lH (iK .tuple (ak 1)) (aN lu (ao (aK 1) aG)))) aH)
 (aF (aY (aD 2) (gOf (Oc (aZ (aq bV (ak 0) (qC (.str "place")))) (aq j9 (bW dh (qC bf)) (qC (.int 1))) (qC bM))))
 (aJ (lH (iK .int (ak 1)) (Dq (gD j8 j8 (qC (.int 0)) (ak 1) (ak 2)))))))
def bO:=mQ 3 cI
def lM:SF:=
 (aF (bx (jL (aZ (aq bV (bW dh (ak 0)) (qC (.int 0)))) (aZ (wC true (fJ cY) (aq dM (ak 0) (qC (.int 0)))))) (aJ (qC (.bool false))) aH)
 (aF (aY (aD 1) (gOf (zR (fJ cY) (aq dM (ak 0) (qC (.int 0))))))
 (aF (aY (aD 2) (gOf (eZ (ak 0) (bD (qC (.int 1))) bB)))
 (aJ (lH (aq bV (bW dh (ak 2)) (bW dh (ak 1))) (bW vD (fU (pF (ak 1) (ak 2)) (cC [3,4]) [3,4] jK (aN bO (ao (aK 3) (ao (aK 4) aG))))))))))
def je:=mQ 5 lM
def uJ:SF:=
 (aF (aY (aD 1) (gOf (fU (pF (qC bf) (ak 0)) (cC [2,3]) [2,3] (aZ (aq yE (ak 3) (qC (.int 0)))) (yU (ak 2) (ak 3)))))
 (aJ (Oc (dZ (ak 1)) (jU j5 (qC (.str " ")) (ak 1)) (qC gq))))
def mZ:=mQ 4 uJ
def gJ:SF:=
 (aF (bx (aZ (aq bV (ak 0) (qC (.str "ear")))) (aJ (aN mZ (ao (aK 1) aG))) aH)
 (aF (bx (aZ (aq bV (ak 0) (qC (.str "place")))) (aJ (aq dM (qC bf) (ak 1))) aH)
 (aJ (bW qX (ak 1)))))
def cO:=mQ 2 gJ
def oG:SF:=
 (aF (bx (dw (dZ (aN je (ao (aK 0) aG)))) (iD "BadDeed") aH)
 (aF (aY (aD 1) (gOf (aq dM (ak 0) (qC (.int 0)))))
 (aJ (jU j5 (qC (.str " ")) (aq aO (lY (ao (aK 1) aG)) (fU (pF (zR (fJ cY) (ak 1)) (eZ (ak 0) (bD (qC (.int 1))) bB)) (cC [2,3]) [2,3] jK (aN cO (ao (aK 2) (ao (aK 3) aG)))))))))
def dW:=mQ 4 oG
def oM:SF:=
 (aF (aY (aD 1) (gOf (qC (.str ""))))
 (aF (Hf (uU (gOf (aN dW (ao (aK 0) aG)))) [⟨"BadDeed",λx=>qG.lookup x,none,[(1,(.con (.str "BadDeed")))]⟩])
 (aJ (aq bV (ak 1) (qC (.str "BadDeed"))))))
def bJ:=mQ 2 oM
def jJ:SF:=
 (aF (bx (jL (dw (gD j8 j8 (qC (.int 1)) (bW dh (ak 0)) (qC gA))) (dZ (bW FT (fU (iH (ak 0)) (aD 1) [1] jK (aq (inD true) (ak 1) (qC fQ)))))) (iD "BadLine") aH)
 (aF (bx (jA (aZ (aq bV (aq dM (ak 0) (qC (.int 0))) (qC (.str "0")))) (aZ (aq pZ (ak 0) (qC (.str "0"))))) (iD "BadLine") aH)
 (aJ (bW intD (ak 0)))))
def fK:=mQ 2 jJ
def yj:SF:=
 (aF (bx (jL (aZ (aq pZ (bW dh (ak 0)) (qC (.int 3)))) (jL (aZ (aq (inD true) (eZ (ak 0) bB (bD (qC (.int 2)))) (qC bf))) (aZ (aq (inD true) (aq dM (ak 0) (qC (.int 2))) (qC lg))))) (iD "BadEar") aH)
 (aJ (eY (ao (Ek [.str "lt",.str "lf",.str "lh",.str "rt",.str "rf",.str "rh"] (eZ (ak 0) bB (bD (qC (.int 2))))) (ao (bW intD (aq dM (ak 0) (qC (.int 2)))) aG)))))
def mH:=mQ 1 yj
def nJ:SF:=
 (aF (aY (cC [4,5]) (gOf (aN mH (ao (aK 3) aG))))
 (aF (bx (aZ (aq j8 (ak 4) (ak 2))) (iD "BadEar") aH)
 (aF (wW 1 (aK 4) (aK 5))
 (aY (aD 2) (gOf (aK 4))))))
def mF:SF:=
 (aF (bx (aZ (aq bV (ak 0) (qC gq))) (aJ (qC jB)) aH)
 (aF (pA 1 (rC (qC jB)))
 (aF (aY (aD 2) (gOf (bW Gj (qC (.int 1)))))
 (aF (lW (iH (jU rR (ak 0) (qC (.str " ")))) (aD 3) nJ)
 (aJ (bW jd (ak 1)))))))
def ju:=mQ 6 mF
def jV:SF:=
 (CK (aN ju (ao (aK 0) aG)) (λx=>Ae.lookup x) "BadLine")
def fP:=mQ 1 jV
def sS:SF:=
 (aF (bx (aZ (aq (inD true) (ak 0) (qC bf))) (iD "BadLine") aH)
 (aJ (Ek [.str "lt",.str "lf",.str "lh",.str "rt",.str "rf",.str "rh"] (ak 0))))
def jY:=mQ 1 sS
def jE:SF:=
 (aF (bx (aZ (aq bV (ak 0) (qC (.str "ear")))) (aJ (aN fP (ao (aK 1) aG))) aH)
 (aF (bx (aZ (aq bV (ak 0) (qC (.str "place")))) (aJ (aN jY (ao (aK 1) aG))) aH)
 (aJ (aN fK (ao (aK 1) aG)))))
def fj:=mQ 2 jE
def pH:SF:=
 (aF (aY (aD 1) (gOf (aq dM (jU yD (ak 0) (qC (.str " "))) (qC (.int 0)))))
 (aF (bx (aZ (wC true (fJ cY) (ak 1))) (iD "BadLine") aH)
 (aF (aY (aD 2) (gOf (zR (fJ cY) (ak 1))))
 (aF (Cd 3 4 (gOf (GZ pY (ak 0) (qC (.str " ")) (bW dh (ak 2)))))
 (aF (bx (jL (aZ (aq pZ (ak 3) (ak 1))) (aZ (aq pZ (bW dh (ak 4)) (bW dh (ak 2))))) (iD "BadLine") aH)
 (aJ (aq aO (eY (ao (aK 1) aG)) (bW jd (fU (pF (ak 2) (ak 4)) (cC [5,6]) [5,6] jK (aN fj (ao (aK 5) (ao (aK 6) aG))))))))))))
def jD:=mQ 7 pH
def uF:SF:=
 (aF (aY (aD 1) (gOf (aN jQ (ao (aK 0) aG))))
 (aF (aY (aD 2) (gOf (aN ni (ao (aK 1) aG))))
 (aF (bx (jL (dw (dZ (aN (eO 10) (ao (aN dW (ao (aK 1) aG)) (ao (aK 2) aG))))) (dw (dZ (aN (eO 10) (ao (aN jD (ao (aK 2) aG)) (ao (aK 1) aG)))))) (aJ (qC (.bool false))) aH)
 (aF (bx (jL (dw (dZ (aN bJ (ao (aq aO (ak 1) (eY (ao (qC (.int 0)) aG))) aG)))) (jL (dw (dZ (aN bJ (ao (aq aO (eY (ao (aq aO (aq dM (ak 1) (qC (.int 0))) (qC (.str "s"))) aG)) (eZ (ak 1) (bD (qC (.int 1))) bB)) aG)))) (dw (dZ (aN bJ (ao (eY aG) aG)))))) (aJ (qC (.bool false))) aH)
 (aF (bx (jA (aZ (aq yE (bW dh (ak 1)) (qC (.int 1)))) (dw (dZ (aN bJ (ao (aq aO (aq aO (eZ (ak 1) bB (bD (qC (.int 1)))) (eY (ao (aq j9 (qC (.int 0)) (qC (.int 1))) aG))) (eZ (ak 1) (bD (qC (.int 2))) bB)) aG))))) (aJ (qC (.bool false))) aH)
 (aF (aY (aD 3) (gOf (aN aX (ao (aK 0) aG))))
 (aF (bx (dZ (aN fM (ao (aK 3) aG))) (aJ (aN bJ (ao (aK 3) aG))) aH)
 (aJ (aN (eO 10) (ao (aN dW (ao (aK 3) aG)) (ao (aN ni (ao (aK 3) aG)) aG)))))))))))
def rA:=mQ 4 uF
abbrev rX(N:List Str)(s:Stmt)(G:List (Str×GV))(B:List Str)(Ms:List (Str×List (Str×MV)))(ml:List Str):Option SF:=rd ⟨N,defScope s,G,B,⟨Ms,EY,TJ,Z6,Mx⟩,ml,true⟩ (defBody s)
abbrev rN(N:List Str)(s:Stmt)(G:List (Str×GV))(B:List Str)(ml:List Str):Option SF:=(ts true (tr 40) 60).B ⟨N,defScope s,G,B,⟨[],[],[],[],[]⟩,ml,true⟩ (defBody s)
theorem Uo:FnScope ["_law_found","_law_due","_law_one","_law_other"] ["_law_found","_law_due"] (defScope w6):=⟨rfl,rfl,rfl,by decide +kernel,rfl,by decide +kernel,by decide +kernel⟩
theorem XC:FnScope ["_law_script","_law_deed","_law_line_here","_law_other"] ["_law_script"] (defScope uL):=⟨rfl,rfl,rfl,by decide +kernel,rfl,by decide +kernel,by decide +kernel⟩
theorem Zm:rX ["_law_script","_law_k"] O5 [] ["len"] [] []=some G4:=by kernel_rfl
theorem aaS:rX ["_law_cell_here","_law_many","_law_base","_law_found","_law_k","_law_turn"] s_row [] ["range","abs"] [] ["_law_found"]=some K7:=by kernel_rfl
theorem R7:rX ["_law_figures","_law_mode","_law_figure"] Gu [] ["tuple","max"] [] []=some vJ:=by kernel_rfl
theorem aa1:rX ["_law_cell_here","_law_figures"] Ui [("_law_ear_by",.fq 2 lE),("_law_row",.fq 3 mK)] [] [] []=some Kw:=by kernel_rfl
theorem V3:rX ["_law_script","_law_words","_law_shapes","_law_at","_law_parts","_law_k","_law_shape","_law_cell_here"] Jf [("_law_ear",.fq 1 qL),("_law_cell",.fq 2 fW)] ["tuple","enumerate"] [] ["_law_parts"]=some yW:=by kernel_rfl
theorem J5:rX ["_law_ear_here","_law_some","_law_place","_law_depth","_law_k"] wH [] ["range","zip","str"] [] []=some mU:=by kernel_rfl
theorem Zb:rX ["_law_deed","_law_line_here","_law_at","_law_part"] Pq [("_law_ear_text",.fq 1 jx)] ["enumerate","str","isinstance","tuple"] [] []=some Gq:=by kernel_rfl
theorem aan:rX ["_law_cell_here","_law_signs","_law_figure"] N6 [("_law_row",.fq 3 mK)] ["abs"] [] []=some Ef:=by kernel_rfl
theorem aas:rX ["_law_cell_here"] TY [] [] [] []=some CJ:=by kernel_rfl
theorem Rx:rX ["_law_mark","_law_cell_here","_law_way"] Du [("_law_cut",.fq 1 oE)] [] [] []=some fY:=by kernel_rfl
theorem BZ:rX ["_law_script","_law_deed","_law_way","_law_at","_law_cell_here"] rG [("_law_word",.fq 1 sO),("_law_spoilt",.fq 2 d9),("_law_ear",.fq 1 qL),("_law_cut",.fq 1 oE),("_law_cell",.fq 2 fW),("_law_tuple",.fq 1 jQ)] ["len"] [] []=some bh:=by kernel_rfl
theorem V6:rX ["_law_found"] Ik [] ["isinstance","bool","int"] [] []=some zV:=by kernel_rfl
theorem Kv:rX ["_law_found","_law_depth"] wU [("_law_whole",.fq 1 lA)] ["len","isinstance","tuple"] [] []=some gW:=by kernel_rfl
theorem V7:rX ["_law_deed","_law_words","_law_shapes","_law_shape","_law_part","_law_kind"] Jd [("_law_ear_kind",.fq 1 dN)] ["zip","isinstance","int","len","str"] [] []=some jr:=by kernel_rfl
theorem YC(r:Mo->List Dat->Out Dat):rd ⟨["_law_found","_law_due","_law_one","_law_other"],defScope w6,[("_law_like",.fq 2 r),("_law_whole",.fq 1 lA)],["zip","len","isinstance","list","tuple","str","int"],⟨[],EY,TJ,Z6,Mx⟩,[],true⟩ (defBody w6)=some (pW r):=by kernel_rfl
theorem S7:rX ["parts","depth"] Fl [("GREATEST_DEPTH",.con fH),("PLACES",.con bf)] ["all","len"] [] []=some qF:=by kernel_rfl
theorem Hz:rX ["kind","part","greatest"] vB [("PLACES",.con bf),("GREATEST_PART",.con bM),("is_ear",.fq 1 lu)] ["isinstance","int","len","tuple"] [] []=some cI:=by kernel_rfl
theorem Zi:rX ["deed","shape","parts","kind","part"] N5 [("part_fits",.fq 2 bO),("SHAPES",.dic (fJ cY))] ["all","zip","len"] [] []=some lM:=by kernel_rfl
theorem UG:rX ["ear","words","place","depth"] JF [("BARE_WORD",.con gq),("PLACES",.con bf)] ["zip"] [] []=some uJ:=by kernel_rfl
theorem yX:rX ["kind","part"] qd [("PLACES",.con bf),("shown",.fq 1 mZ)] ["str"] [] []=some gJ:=by kernel_rfl
theorem Ma:rX ["deed","word","kind","part"] Bb [("SHAPES",.dic (fJ cY)),("part_written",.fq 2 cO),("BadDeed",.exc),("fits",.fq 1 je)] ["zip"] [] []=some oG:=by kernel_rfl
theorem Ou:rX ["_law_deed","_law_word_here"] BJ [("written",.fq 1 dW),("BadDeed",.exc)] [] [] []=some oM:=by kernel_rfl
theorem BW:rX ["text","sign"] rF [("BadLine",.exc),("FIGURES_deeds",.con fQ),("MOST_FIGURES",.con gA)] ["int","any","len"] [] []=some jJ:=by kernel_rfl
theorem Ky:rN ["word"] wX [("PLACES",.con bf),("BadEar",.exc),("FIGURES_ears",.con lg)] ["int","len"] []=some yj:=by kernel_rfl
theorem KZ:rN ["text","depths","last","word","place","depth"] wN [("BadEar",.exc),("read_cut",.fqN 1 mH),("BARE_EAR",.con jB),("BARE_WORD",.con gq)] ["tuple","list"] ["depths"]=some mF:=by kernel_rfl
theorem xq:rX ["text"] oN [("read_ear",.fqN 1 ju),("BadEar",.exc),("BadLine",.exc)] [] [] []=some jV:=by kernel_rfl
theorem Ep:rX ["text"] tM [("PLACES",.con bf),("BadLine",.exc)] [] [] []=some sS:=by kernel_rfl
theorem Hu:rX ["kind","text"] vm [("read_number",.fq 1 fK),("read_place",.fq 1 jY),("read_ear_part",.fq 1 fP)] [] [] []=some jE:=by kernel_rfl
theorem Hj:rX ["line","word","shape","head","texts","kind","text"] vC [("read_part",.fq 2 fj),("BadLine",.exc),("SHAPES",.dic (fJ cY))] ["tuple","zip","len"] [] []=some pH:=by kernel_rfl
theorem aaB:rX ["_law_script","_law_deed","_law_line_here","_law_other"] uL [("_law_like",.fq 2 (eO 10)),("_law_line",.fq 1 ni),("written",.fq 1 dW),("_law_refused",.fq 1 bJ),("_law_fault",.fq 1 fM),("_law_spoilt_deed",.fq 1 aX),("read_deed",.fq 1 jD),("_law_tuple",.fq 1 jQ)] ["len"] [] []=some uF:=by kernel_rfl
structure Top(w:World)(K:afr)(mg:Str->Option Value):Prop where
 ex:∃h:Heap,K.In h/\h.Ns mainGlobals mg
 c:uM fa fn Qi Nv w K
abbrev aj(w:World)(K:afr):aA:=lG w K WY EY
section
variable{P:Program}{w:World}{K:afr}{mg:Str->Option Value}{base:Heap}{k:Nat}(T:Top w K mg)
include T
theorem Top.glo(i:Nat){x:Str}(h:fa[i]?=some (.glo x):=by rfl):mg x=some (.ref (He.ga K x)):=by obtain⟨_,X,G⟩:=T.ex;exact He.glo_ok X G (T.c.El i h)
theorem Top.free(i:Nat){x:Str}(h:fa[i]?=some (.free x):=by rfl):mg x=none:=by obtain⟨_,X,G⟩:=T.ex;exact He.free_ok X G (T.c.El i h)
theorem Top.int(i:Nat){x:Str}{j:Int}(h:fa[i]?=some (.int x j):=by rfl):∃t,mg x=some (.int j t):=by obtain⟨_,X,G⟩:=T.ex;exact He.int_ok X G (T.c.El i h)
theorem Top.str(i:Nat){x j:Str}(h:fa[i]?=some (.str x j):=by rfl):∃t,mg x=some (.str j t):=by obtain⟨_,X,G⟩:=T.ex;exact He.str_ok X G (T.c.El i h)
theorem vZ:aQ P w K mg base (aj w K) k "GREATEST_DEPTH" (.con fH):=by obtain⟨t,h⟩:=T.int 37;exact DY h
theorem kZ:aQ P w K mg base (aj w K) k "PLACES" (.con bf):=LR (T.glo 38) (λH=>He.tupB_ok ((He.ba (He.ba (He.ba (He.ba T.c.more).1).1).1).2) H) rfl rfl ((He.ba (He.ba (He.ba T.c.more).1).1).2)
theorem xP:aQ P w K mg base (aj w K) k "GREATEST_PART" (.con bM):=by obtain⟨t,h⟩:=T.int 39;exact DY h
theorem vM:aQ P w K mg base (aj w K) k "SHAPES" (.dic (fJ cY)):=Yc (T.glo 36) (He.ba (He.ba (He.ba (He.ba (He.ba T.c.more).1).1).1).1).2 (T.c.t.tab 0)
theorem vo:aQ P w K mg base (aj w K) k "BARE_WORD" (.con gq):=by obtain⟨t,h⟩:=T.str 40;exact DR h
theorem xM:aQ P w K mg base (aj w K) k "FIGURES_deeds" (.con fQ):=by obtain⟨t,h⟩:=T.str 41;exact DR h
theorem yH:aQ P w K mg base (aj w K) k "MOST_FIGURES" (.con gA):=by obtain⟨t,h⟩:=T.int 42;exact DY h
theorem zj:aQ P w K mg base (aj w K) k "FIGURES_ears" (.con lg):=by obtain⟨t,h⟩:=T.str 43;exact DR h
theorem Ko:aQ P w K mg base (aj w K) k "BARE_EAR" (.con jB):=LR (T.glo 44) (λH=>He.tupB_ok ((He.ba (He.ba T.c.more).1).2) H) rfl rfl ((He.ba T.c.more).2)
theorem Bs:aQ P w K mg base (aj w K) k "BadDeed" .exc:=FP (by rfl) (T.glo 30) (T.c.El 31)
theorem oH:aQ P w K mg base (aj w K) k "BadLine" .exc:=FP (by rfl) (T.glo 32) (T.c.El 33)
theorem wu:aQ P w K mg base (aj w K) k "BadEar" .exc:=FP (by rfl) (T.glo 34) (T.c.El 35)
theorem Top.TF:rZ K EY=true:=(He.ba (He.ba (He.ba (He.ba (He.ba (He.ba (He.ba (He.ba T.c.more).1).1).1).1).1).1).1).2
theorem Top.xf:(Mx.all λp=>WY.contains p.1&&Lh K p.1 p.2)=true:=(He.ba (He.ba (He.ba (He.ba (He.ba (He.ba T.c.more).1).1).1).1).1).2
theorem Top.hs{Ms:List (Str×List (Str×MV))}(h:zN P w K mg base (aj w K) k Ms):sU P w K mg base (aj w K) k ⟨Ms,EY,TJ,Z6,Mx⟩:=abo h T.TF (He.ba (He.ba (He.ba (He.ba (He.ba (He.ba (He.ba T.c.more).1).1).1).1).1).1).2 (by rfl) T.xf
theorem Top.cls{c:Str}{fs:List Str}(h:EY.lookup c=some fs:=by rfl):Cls K (He.ga K c):=(Ec T.TF h).1
local macro_rules | `(tactic| nofun)=>`(tactic| first | (exact λ_ _ _ _ _ _ us hl=>match us,hl with | [_],_=>rfl) | (exact λ_ _ _ _ _ _ us hl=>match us,hl with | [_,_],_=>rfl) | (exact λ_ _ _ _ _ _ us hl=>match us,hl with | [_,_,_],_=>rfl) | (exact λ_ _ _ _ _ _ us hl=>match us,hl with | [_,_,_,_],_=>rfl) | (exact λ_ _ _ _ _ _ us hl=>match us,hl with | [_,_,_,_,_],_=>rfl) | (exact λ_ _ _ _ _ _ us hl=>match us,hl with | [_,_,_,_,_,_],_=>rfl) | (exact λ_ _ _ _ _ _ us hl=>match us,hl with | [_,_,_,_,_,_,_],_=>rfl) | (exact λ_ _ _ _ _ _ us hl=>match us,hl with | [_,_,_,_,_,_,_,_],_=>rfl))
theorem vQ(i j:Nat){x:Str}{k0:Nat}(hk:k0+1<=k){st:Stmt}{N ps ml B:List Str}{G:List (Str×GV)}{Ms:List (Str×List (Str×MV))}{body:SF}(h:rX N st G B Ms ml=some body)(g:qJ P w K mg base (aj w K) k0 G)(b:qK mg B)(ms:zN P w K mg base (aj w K) k0 Ms)(hi:fn[i]?=some (dF x st):=by rfl)(hj:fa[j]?=some (.glo x):=by rfl)(S:FnScope N ps (defScope st):=by exact⟨rfl,rfl,rfl,by decide +kernel,rfl,by decide +kernel,by decide +kernel⟩)(hb:∀(kV doc pm:Value) (an:Option Addr) (cdv ct:Value) (us:List Value),us.length=ps.length->bindArgs (PySem.W.fnOf x x (defArgs st) (defBody st) (defScope st) .none kV doc pm an cdv ct) ⟨us,[]⟩=pure (ps.zip us):=by nofun):aQ P w K mg base (aj w K) k x (.fq ps.length (mQ N.length body)):=by obtain⟨fd,F⟩:=T.c.TQ i hi;exact Qx hk (T.glo j hj) F.kp (FunD.bindsN (ps:=ps) F hb) (Df (Ck F) S g b (T.hs ms) h)
theorem vN(i j:Nat){x:Str}{k0:Nat}(hk:k0+1<=k){st:Stmt}{N ps ml B:List Str}{G:List (Str×GV)}{body:SF}(h:rN N st G B ml=some body)(g:qJ P w K mg base (aj w K) k0 G)(b:qK mg B)(hG:(G.all λp=>!p.2.soft)=true:=by rfl)(hi:fn[i]?=some (dF x st):=by rfl)(hj:fa[j]?=some (.glo x):=by rfl)(S:FnScope N ps (defScope st):=by exact⟨rfl,rfl,rfl,by decide +kernel,rfl,by decide +kernel,by decide +kernel⟩)(hb:∀(kV doc pm:Value) (an:Option Addr) (cdv ct:Value) (us:List Value),us.length=ps.length->bindArgs (PySem.W.fnOf x x (defArgs st) (defBody st) (defScope st) .none kV doc pm an cdv ct) ⟨us,[]⟩=pure (ps.zip us):=by nofun):aQ P w K mg base (aj w K) k x (.fqN ps.length (mQ N.length body)):=by obtain⟨fd,F⟩:=T.c.TQ i hi;exact aaT hk (T.glo j hj) F.kp (FunD.bindsN (ps:=ps) F hb) (ZL (Ck F) S g b (Q8 hG) (Vn rfl (T.hs (P:=P) (base:=base) (k:=k0) (Ms:=[]) agm).co) h)
theorem OJ(hk:1<=k:=by omega):aQ P w K mg base (aj w K) k "_law_cell" (.fq 2 fW):=vQ T 0 0 hk (ps:=["_law_script","_law_k"]) Zm agm ⟨T.free 45,agm⟩ agm
theorem Ua(hk:1<=k:=by omega):aQ P w K mg base (aj w K) k "_law_row" (.fq 3 mK):=vQ T 1 1 hk (ps:=["_law_cell_here","_law_many","_law_base"]) aaS agm ⟨T.free 46,T.free 47,agm⟩ agm
theorem QC(hk:1<=k:=by omega):aQ P w K mg base (aj w K) k "_law_ear_by" (.fq 2 lE):=vQ T 2 2 hk (ps:=["_law_figures","_law_mode"]) R7 agm ⟨T.free 48,T.free 49,agm⟩ agm
theorem T5(hk:2<=k:=by omega):aQ P w K mg base (aj w K) k "_law_ear" (.fq 1 qL):=vQ T 3 3 hk (ps:=["_law_cell_here"]) aa1 ⟨QC T,Ua T,agm⟩ agm agm
theorem Ji(hk:3<=k:=by omega):aQ P w K mg base (aj w K) k "_law_tuple" (.fq 1 jQ):=vQ T 4 4 hk (ps:=["_law_script"]) V3 ⟨T5 T,OJ T,agm⟩ ⟨T.free 48,T.free 50,agm⟩ agm
theorem Ks(hk:1<=k:=by omega):aQ P w K mg base (aj w K) k "_law_ear_text" (.fq 1 jx):=vQ T 5 5 hk (ps:=["_law_ear_here"]) J5 agm ⟨T.free 46,T.free 51,T.free 52,agm⟩ agm
theorem aae(hk:2<=k:=by omega):aQ P w K mg base (aj w K) k "_law_line" (.fq 1 ni):=vQ T 6 6 hk (ps:=["_law_deed"]) Zb ⟨Ks T,agm⟩ ⟨T.free 50,T.free 52,T.free 53,T.free 48,agm⟩ agm
theorem Yt(hk:2<=k:=by omega):aQ P w K mg base (aj w K) k "_law_word" (.fq 1 sO):=vQ T 7 7 hk (ps:=["_law_cell_here"]) aan ⟨Ua T,agm⟩ ⟨T.free 47,agm⟩ agm
theorem v_cut(hk:1<=k:=by omega):aQ P w K mg base (aj w K) k "_law_cut" (.fq 1 oE):=vQ T 8 8 hk (ps:=["_law_cell_here"]) aas agm agm agm
theorem Qz(hk:2<=k:=by omega):aQ P w K mg base (aj w K) k "_law_spoilt" (.fq 2 d9):=vQ T 9 9 hk (ps:=["_law_mark","_law_cell_here"]) Rx ⟨v_cut T,agm⟩ agm agm
theorem BP(hk:4<=k:=by omega):aQ P w K mg base (aj w K) k "_law_spoilt_deed" (.fq 1 aX):=vQ T 10 10 hk (ps:=["_law_script"]) BZ ⟨Yt T,Qz T,T5 T,v_cut T,OJ T,Ji T,agm⟩ ⟨T.free 45,agm⟩ agm
theorem JH(hk:1<=k:=by omega):aQ P w K mg base (aj w K) k "_law_whole" (.fq 1 lA):=vQ T 11 11 hk (ps:=["_law_found"]) V6 agm ⟨T.free 53,T.free 54,T.free 55,agm⟩ agm
theorem K8(hk:2<=k:=by omega):aQ P w K mg base (aj w K) k "_law_ear_kind" (.fq 1 dN):=vQ T 12 12 hk (ps:=["_law_found"]) Kv ⟨JH T,agm⟩ ⟨T.free 45,T.free 53,T.free 48,agm⟩ agm
theorem VG(hk:3<=k:=by omega):aQ P w K mg base (aj w K) k "_law_fault" (.fq 1 fM):=vQ T 13 13 hk (ps:=["_law_deed"]) V7 ⟨K8 T,agm⟩ ⟨T.free 51,T.free 53,T.free 55,T.free 45,T.free 52,agm⟩ agm
theorem X8(hk:12<=k:=by omega):aQ P w K mg base (aj w K) k "_law_like" (.fq 2 (eO 10)):=by
 obtain⟨fd,F⟩:=T.c.TQ 14;have b:=FunD.bindsN (ps:=["_law_found","_law_due"]) F λ_ _ _ _ _ _ us hl=>match us,hl with|[_,_],_=>rfl
 have key:∀j:Nat,FnOk P w K mg base (L2.CX P w) (2+j) (He.ga K "_law_like") fd ["_law_found","_law_due"] (ql K (aj w K) 2 (eO j)):=by
  intro j
  induction j with
  |zero=>exact Yb
  |succ j ih'=>
   have ih:∀{k:Nat},2+j<=k->aQ P w K mg base (aj w K) k "_law_like" (.fq 2 (eO j)):=λhk=>Qx hk (T.glo 14) F.kp (b) ih'
   refine Df (k:=2+j) (Ck F) Uo ?_ ?_ ?_ (YC (eO j))
   .exact⟨ih (afN _),JH T,agm⟩
   .exact⟨T.free 51,T.free 45,T.free 53,T.free 56,T.free 48,T.free 52,T.free 55,agm⟩
   .exact T.hs agm
 exact Qx hk (T.glo 14) F.kp (b) (key 10)
theorem Qs(hk:1<=k:=by omega):aQ P w K mg base (aj w K) k "is_ear" (.fq 1 lu):=vQ T 15 15 hk (ps:=["parts"]) S7 ⟨vZ T,kZ T,agm⟩ ⟨T.free 57,T.free 45,agm⟩ agm
theorem Hq(hk:2<=k:=by omega):aQ P w K mg base (aj w K) k "part_fits" (.fq 2 bO):=vQ T 16 16 hk (ps:=["kind","part"]) Hz ⟨kZ T,xP T,Qs T,agm⟩ ⟨T.free 53,T.free 55,T.free 45,T.free 48,agm⟩ agm
theorem Yi(hk:3<=k:=by omega):aQ P w K mg base (aj w K) k "fits" (.fq 1 je):=vQ T 17 17 hk (ps:=["deed"]) Zi ⟨Hq T,vM T,agm⟩ ⟨T.free 57,T.free 51,T.free 45,agm⟩ agm
theorem Vr(hk:1<=k:=by omega):aQ P w K mg base (aj w K) k "shown" (.fq 1 mZ):=vQ T 18 18 hk (ps:=["ear"]) UG ⟨vo T,kZ T,agm⟩ ⟨T.free 51,agm⟩ agm
theorem za(hk:2<=k:=by omega):aQ P w K mg base (aj w K) k "part_written" (.fq 2 cO):=vQ T 19 19 hk (ps:=["kind","part"]) yX ⟨kZ T,Vr T,agm⟩ ⟨T.free 52,agm⟩ agm
theorem Ad(hk:4<=k:=by omega):aQ P w K mg base (aj w K) k "written" (.fq 1 dW):=vQ T 20 20 hk (ps:=["deed"]) Ma ⟨vM T,za T,Bs T,Yi T,agm⟩ ⟨T.free 51,agm⟩ agm
theorem LQ(hk:5<=k:=by omega):aQ P w K mg base (aj w K) k "_law_refused" (.fq 1 bJ):=vQ T 21 21 hk (ps:=["_law_deed"]) Ou ⟨Ad T,Bs T,agm⟩ agm agm
theorem BX(hk:1<=k:=by omega):aQ P w K mg base (aj w K) k "read_number" (.fq 1 fK):=vQ T 22 22 hk (ps:=["text"]) BW ⟨oH T,xM T,yH T,agm⟩ ⟨T.free 55,T.free 58,T.free 45,agm⟩ agm
theorem Lq(hk:1<=k:=by omega):aQ P w K mg base (aj w K) k "read_cut" (.fqN 1 mH):=vN T 23 23 hk (ps:=["word"]) Ky ⟨kZ T,wu T,zj T,agm⟩ ⟨T.free 55,T.free 45,agm⟩
theorem Le(hk:2<=k:=by omega):aQ P w K mg base (aj w K) k "read_ear" (.fqN 1 ju):=vN T 24 24 hk (ps:=["text"]) KZ ⟨wu T,Lq T,Ko T,vo T,agm⟩ ⟨T.free 48,T.free 56,agm⟩
theorem wL(hk:3<=k:=by omega):aQ P w K mg base (aj w K) k "read_ear_part" (.fq 1 fP):=vQ T 25 25 hk (ps:=["text"]) xq ⟨Le T,wu T,oH T,agm⟩ agm agm
theorem Dz(hk:1<=k:=by omega):aQ P w K mg base (aj w K) k "read_place" (.fq 1 jY):=vQ T 26 26 hk (ps:=["text"]) Ep ⟨kZ T,oH T,agm⟩ agm agm
theorem Hr(hk:4<=k:=by omega):aQ P w K mg base (aj w K) k "read_part" (.fq 2 fj):=vQ T 27 27 hk (ps:=["kind","text"]) Hu ⟨BX T,Dz T,wL T,agm⟩ agm agm
theorem HF(hk:5<=k:=by omega):aQ P w K mg base (aj w K) k "read_deed" (.fq 1 jD):=vQ T 28 28 hk (ps:=["line"]) Hj ⟨Hr T,oH T,vM T,agm⟩ ⟨T.free 48,T.free 51,T.free 45,agm⟩ agm
theorem abt{fd:FuncData}(F:FunD K "law" "law" (defArgs uL) (defBody uL) (defScope uL) [] [] (He.ga K "law") fd):FnOk P w K mg base (L2.CX P w) 13 (He.ga K "law") fd ["_law_script"] (ql K (aj w K) 1 rA):=by
 refine Df (k:=12) (Ck F) XC ?_ ?_ ?_ aaB
 .exact⟨X8 T,aae T,Ad T,LQ T,VG T,BP T,HF T,Ji T,agm⟩
 .exact⟨T.free 45,agm⟩
 .exact T.hs agm
end
def digs(b:Int):Nat->Int->List Int
 |0,_=>[]
 |n+1,c=>c%b::digs b n (c/b)
def vq(b:Int):Nat->Int->Int->List Int
 |0,_,_=>[]
 |n+1,k,t=>((t*48271+9973*k+11)%2147483647/1021%b)::vq b n (k+1) ((t*48271+9973*k+11)%2147483647)
def lX(c:Int):Int:=if c<0 then -c else c
def rowOf(c:Int)(n:Nat)(b:Int):List Int:=if 10^18<=lX c then digs b n (lX c) else vq b n 0 ((lX c%1000003+17)*69621%2147483647)
theorem Fg(b:Int):∀n c,(digs b n c).length=n
 |0,_=>rfl
 |n+1,c=>by simp[digs,Fg b n]
theorem Il(b:Int):∀n k t,(vq b n k t).length=n
 |0,_,_=>rfl
 |n+1,k,t=>by simp[vq,Il b n]
theorem Iu{b:Int}(hb:0<b):∀n c,∀x∈digs b n c,0<=x/\x<b
 |0,_,x,h=>by simp[digs]at h
 |n+1,c,x,h=>by
  rcases afD.mp h with rfl|h
  .exact⟨Int.emod_nonneg _ (by omega),Int.emod_lt_of_pos _ hb⟩
  .exact Iu hb n _ x h
theorem Nq{b:Int}(hb:0<b):∀n k t,∀x∈vq b n k t,0<=x/\x<b
 |0,_,_,x,h=>by simp[vq]at h
 |n+1,k,t,x,h=>by
  rcases afD.mp h with rfl|h
  .exact⟨Int.emod_nonneg _ (by omega),Int.emod_lt_of_pos _ hb⟩
  .exact Nq hb n _ _ x h
@[simp]theorem Vo (c:Int) (n:Nat) (b:Int):(rowOf c n b).length=n:=by
 unfold rowOf;split
 .exact Fg ..
 .exact Il ..
theorem Gi{b:Int}(hb:0<b)(c:Int)(n:Nat):∀x∈rowOf c n b,0<=x/\x<b:=by
 unfold rowOf;split
 .exact Iu hb _ _
 .exact Nq hb _ _ _
@[simp]theorem uI (M:Mo) (ns:List Int) (k:Nat):fW M [lI ns,.int k]=.ok (.int (ns.getD k 0)):=by
 unfold fW G4;by_cases h:k<ns.length
 .simp[h,atI,ixN]
 .simp[h]
theorem Ge(M:Mo)(b:Int)(hb:0<b)(hb2:b<1073741824):∀(n k:Nat) (c:Int) (x1:Option Cell) (acc:List Dat) (x4 x5:Option Cell),acc.length+n<100000->∃c' x4',cM (aD 4) zH ((List.range' k n).map λ(i:Nat)=>PyData.int (i:Int)) M [some (.dat (.int c)),x1,some (.dat (.int b)),some (.mut acc),x4,x5]=.next [c',x1,some (.dat (.int b)),some (.mut (acc++(digs b n c).map .int)),x4',x5] M
 |0,k,c,x1,acc,x4,x5,_=>⟨some (.dat (.int c)),x4,by simp[cM,digs]⟩
 |n+1,k,c,x1,acc,x4,x5,hl=>by
  obtain⟨c',x4',ih⟩:=Ge M b hb hb2 n (k+1) (c/b) x1 (acc++[.int (c%b)]) (some (.dat (.int k))) x5 (by simp;omega);refine⟨c',x4',?_⟩;have h1:decide (CDiv c b)=true:=decide_eq_true ⟨hb,hb2⟩;have hl:acc.length<100000:=by omega
  rw[List.range'_succ,aft,gQ (Z1:=[some (.dat (.int c)),x1,some (.dat (.int b)),some (.mut acc),some (.dat (.int k)),x5]) (by simp) (Z2:=[some (.dat (.int (c/b))),x1,some (.dat (.int b)),some (.mut (acc++[.int (c%b)])),some (.dat (.int k)),x5]) (M2:=M) (by simp[zH,h1,hb,hl])];rw[ih];simp[digs]
theorem Jc(M:Mo)(b:Int)(hb:0<b):∀(n k:Nat) (t:Int) (x0 x1:Option Cell) (acc:List Dat) (x4:Option Cell),acc.length+n<100000->∃x4' x5',cM (aD 4) zF ((List.range' k n).map λ(i:Nat)=>PyData.int (i:Int)) M [x0,x1,some (.dat (.int b)),some (.mut acc),x4,some (.dat (.int t))]=.next [x0,x1,some (.dat (.int b)),some (.mut (acc++(vq b n k t).map .int)),x4',x5'] M
 |0,k,t,x0,x1,acc,x4,_=>⟨x4,some (.dat (.int t)),by simp[cM,vq]⟩
 |n+1,k,t,x0,x1,acc,x4,hl=>by
  obtain⟨x4',x5',ih⟩:=Jc M b hb n (k+1) ((t*48271+9973*k+11)%2147483647) x0 x1 (acc++[.int ((t*48271+9973*k+11)%2147483647/1021%b)]) (some (.dat (.int k))) (by simp;omega);refine⟨x4',x5',?_⟩;have h1:decide (CMul t 48271)=true:=mul_r (by decide);have h2:decide (CMul 9973 (k:Int))=true:=aa8 (by decide);have h3:∀x,decide (CDiv x 1021)=true:=λx=>decide_eq_true ⟨by decide,by decide⟩;have hl:acc.length<100000:=by omega
  rw[List.range'_succ,aft,gQ (Z1:=[x0,x1,some (.dat (.int b)),some (.mut acc),some (.dat (.int k)),some (.dat (.int t))]) (by simp) (Z2:=[x0,x1,some (.dat (.int b)),some (.mut (acc++[.int ((t*48271+9973*k+11)%2147483647/1021%b)])),some (.dat (.int k)),some (.dat (.int ((t*48271+9973*k+11)%2147483647)))]) (M2:=M) (by simp[zF,h1,h2,h3,hb,hl])];rw[ih];simp[vq]
theorem wV(n:Nat):iG 0 n=(List.range' 0 n).map λ(i:Nat)=>PyData.int (i:Int):=by unfold iG;rw[List.range_eq_range'];simp
theorem NQ(M:Mo)(c:Int)(n:Nat)(b:Int)(hb:0<b)(hb2:b<1073741824)(hn:n<=1000):mK M [.int c,.int n,.int b]=.ok (lI (rowOf c n b)):=by
 unfold mK K7;have hp:decide (CPow 10 18)=true:=decide_eq_true ⟨by decide,by decide,by decide⟩;have hn1:(n:Int)<=100000:=by omega
 have hn2 : -100000<=(n:Int):=by omega
 have hm:∀x,decide (CMul x 69621)=true:=λx=>mul_r (by decide);have ea:(if c<0 then -c else c)=lX c:=rfl;by_cases h:10^18<=lX c
 .obtain⟨c',x4',e⟩:=Ge M b hb hb2 n 0 (lX c) (some (.dat (.int n))) [] none none (by simp;omega);have e2:rowOf c n b=digs b n (lX c):=ags h;have h':(1000000000000000000:Int)<=lX c:=by simpa using h
  simp[hp,ea,h',hn1,hn2,wV,e,e2]
 .obtain⟨x4',x5',e⟩:=Jc M b hb n 0 ((lX c%1000003+17)*69621%2147483647) (some (.dat (.int (lX c)))) (some (.dat (.int n))) [] none (by simp;omega);have e2:rowOf c n b=vq b n 0 ((lX c%1000003+17)*69621%2147483647):=agt h;have h':¬(1000000000000000000:Int)<=lX c:=by simpa using h
  have e':=e;simp[hp,ea,h',hn1,hn2,hm,wV]at e |-
  rw[e];simp[e2]
def JX(i j:Int):Int:=if j>i then j else i
def oY(l:List Int)(m:Int):List Int:=if m%4=1 then l.map λf=>JX 0 (f-7) else if m%4=2 then l.map λf=>f%3 else l
theorem Qh(M:Mo)(l:List Int)(m:Int)(hl:l.length<=1000):lE M [lI l,.int m]=.ok (gM (oY l m)):=by
 unfold lE vJ;have hl':l.length<=50000:=by omega
 have c1:=fX (tg:=aD 2) (te:=aq uY (qC (.int 0)) (aq j9 (ak 2) (qC (.int 7)))) (M:=M) (ρ:=[some (.dat (lI l)),some (.dat (.int m)),none]) PyData.int (λf=>.int (JX 0 (f-7))) l λx _=>⟨_,rfl,by simp[JX]⟩;have c2:=fX (tg:=aD 2) (te:=aq dJ (ak 2) (qC (.int 3))) (M:=M) (ρ:=[some (.dat (lI l)),some (.dat (.int m)),none]) PyData.int (λf=>.int (f%3)) l λx _=>⟨_,rfl,by simp⟩;by_cases h1:m%4=1
 .simp[h1,hl',c1,oY,Function.comp_def]
 .by_cases h2:m%4=2
  .simp[h2,hl',c2,oY,Function.comp_def]
  .simp[h1,h2,oY]
def oJ(c:Int):List Int:=oY ((rowOf c 7 10).take 6) ((rowOf c 7 10).getD 6 0)
theorem nH{α:Type}(l:List α)(n:Nat):Rf.cutD l none (some (n:Int))=l.take n:=by unfold Rf.cutD;rw[HT.sIx_nat];simp[HT.sIx]
theorem gY{α:Type}(l:List α)(n:Nat):Rf.cutD l (some (n:Int)) none=l.drop n:=by
 unfold Rf.cutD;rw[HT.sIx_nat];simp[HT.sIx];by_cases h:n<=l.length
 .rw[Nat.min_eq_left h];exact List.take_of_length_le (by simp)
 .rw[Nat.min_eq_right (by omega),List.drop_eq_nil_of_le (by omega),List.drop_eq_nil_of_le (by omega)];simp
theorem Rg(l:List Int)(n:Nat)(h:n<l.length):atI (l.map PyData.int) (n:Int)=some (.int (l.getD n 0)):=atI_nat (by simp[h])
theorem Nk(M:Mo)(c:Int):qL M [.int c]=.ok (gM (oJ c)):=by
 unfold qL Kw;have h1:mK M [.int c,.int 7,.int 10]=.ok (.list ((rowOf c 7 10).map .int)):=NQ M c 7 10 (by decide) (by decide) (by decide);have h2:Rf.cutD ((rowOf c 7 10).map PyData.int) none (some 6)=((rowOf c 7 10).take 6).map PyData.int:=by rw[show(6:Int)=((6:Nat):Int) from rfl,nH,List.map_take]
 have h3:atI ((rowOf c 7 10).map PyData.int) 6=some (.int ((rowOf c 7 10).getD 6 0)):=Rg _ 6 (by simp);have h4:lE M [.list (((rowOf c 7 10).take 6).map .int),.int ((rowOf c 7 10).getD 6 0)]=.ok (.tuple ((oJ c).map .int)):=Qh M _ _ (by simp);generalize (rowOf c 7 10).getD 6 0=z at h3 h4;generalize ((rowOf c 7 10).take 6).map PyData.int=y at h2 h4;simp[h1,h2,h3,h4]
theorem tD(c:Int):(oJ c).length=6:=by
 unfold oJ oY;split
 .simp
 .split<;>simp
theorem R5{l:List Int}{m:Int}(h:∀x∈l,0<=x/\x<10):∀x∈oY l m,0<=x/\x<10:=by
 unfold oY JX;split
 .intro x hx;obtain⟨y,hy,rfl⟩:=afG.mp hx;have:=h y hy
  split<;>omega
 .split
  .intro x hx;obtain⟨y,hy,rfl⟩:=afG.mp hx;have:=h y hy;omega
  .exact h
theorem QH(c:Int):∀x∈oJ c,0<=x/\x<10:=R5 λx hx=>Gi (by decide) c 7 x (af4 hx)
mutual
def lk:Nat->Dat->Bool
 |_,.none=>true
 |_,.bool _=>true
 |_,.int _=>true
 |_,.str _=>true
 |n+1,.list ds=>xg n ds
 |n+1,.tuple ds=>xg n ds
 |0,.list _=>false
 |0,.tuple _=>false
 |_,.dict _=>false
def xg:Nat->List Dat->Bool
 |_,[]=>true
 |n,d::ds=>lk n d&&xg n ds
end
theorem qj{n:Nat}:∀{ds:List Dat},xg n ds=true↔∀d∈ds,lk n d=true
 |[]=>by simp[xg]
 |d::ds=>by simp[xg,qj (ds:=ds)]
@[simp]theorem acw (n:Nat) (l:List Int):xg n (l.map PyData.int)=true:=qj.mpr λd h=>by
 obtain⟨i,_,rfl⟩:=afG.mp h;simp[lk]
theorem sH(M:Mo)(i:Int):lA M [.int i]=.ok (.bool true):=by unfold lA zV;simp[cD,eG]
theorem zip_self(ds:List Dat):dD ds ds=ds.map λd=>.tuple [d,d]:=by unfold dD;rw[List.zipWith_self]
theorem tH(M:Mo)(r:Mo->List Dat->Out Dat)(x0 x1:Option Cell):∀(ds:List Dat) (x2 x3:Option Cell),(∀d∈ds,r M [d,d]=.ok (.bool true))->∃x2' x3',cM (cC [2,3]) (wD r) (ds.map λd=>PyData.tuple [d,d]) M [x0,x1,x2,x3]=.next [x0,x1,x2',x3'] M
 |[],x2,x3,_=>⟨x2,x3,rfl⟩
 |d::ds,x2,x3,h=>by
  obtain⟨x2',x3',ih⟩:=tH M r x0 x1 ds (some (.dat d)) (some (.dat d)) λd hd=>h d (afu _ hd);refine⟨x2',x3',?_⟩;have hd:=h d afv;rw[aft,gQ (Z1:=[x0,x1,some (.dat d),some (.dat d)]) (by simp) (Z2:=[x0,x1,some (.dat d),some (.dat d)]) (M2:=M) (by simp[wD,hd])];exact ih
theorem Vf(M:Mo):∀(n:Nat) (d:Dat),lk n d=true->eO (n+1) M [d,d]=.ok (.bool true):=by
 intro n
 induction n with
 |zero=>
  intro d h;show mQ 4 (pW (eO 0)) M [d,d]=_;unfold pW;cases d with
  |none=>simp[kJ]
  |bool b=>cases b<;>simp[kJ]
  |int i=>simp[kJ,cD,eG,sH]
  |str x=>simp[kJ,cD,eG]
  |list ds=>simp[lk]at h
  |tuple ds=>simp[lk]at h
  |dict kv=>simp[lk]at h
 |succ n ih=>
  intro d h;show mQ 4 (pW (eO (n+1))) M [d,d]=_;unfold pW;cases d with
  |none=>simp[kJ]
  |bool b=>cases b<;>simp[kJ]
  |int i=>simp[kJ,cD,eG,sH]
  |str x=>simp[kJ,cD,eG]
  |list ds=>
   rw[lk,qj]at h;obtain⟨x2',x3',e⟩:=tH M (eO (n+1)) (some (.dat (.list ds))) (some (.dat (.list ds))) ds none none λd hd=>ih d (h d hd);simp[kJ,cD,eG,zip_self,e]
  |tuple ds=>
   rw[lk,qj]at h;obtain⟨x2',x3',e⟩:=tH M (eO (n+1)) (some (.dat (.tuple ds))) (some (.dat (.tuple ds))) ds none none λd hd=>ih d (h d hd);simp[kJ,cD,eG,zip_self,e]
  |dict kv=>simp[lk]at h
def m9(x:List Int):Bool:=decide (x.length=6)&&x.all λd=>decide (0<=d)&&decide (d<=9)
theorem oO(l:List Bool):jk (l.map PyData.bool)=some l:=by
 induction l with
 |nil=>rfl
 |cons b l ih=>rw[aft,jk,ih];rfl
theorem Od(M:Mo)(x:List Int)(h:x.length<=1000):lu M [gM x]=.ok (.bool (m9 x)):=by
 have key:=fX (tg:=aD 1) (te:=Dq (gD j8 j8 (qC (.int 0)) (ak 1) (qC fH))) (M:=M) (ρ:=[some (.dat (gM x)),none]) PyData.int (λd=>.bool (decide (0<=d)&&decide (d<=9))) x λd _=>⟨[some (.dat (gM x)),some (.dat (.int d))],by simp,by
  by_cases h0:0<=d<;>simp[h0,fH]⟩
 have ha:vD (.list (x.map λd=>PyData.bool (decide (0<=d)&&decide (d<=9))))=.ok (.bool (x.all λd=>decide (0<=d)&&decide (d<=9))):=by
  have e:(x.map λd=>PyData.bool (decide (0<=d)&&decide (d<=9)))=(x.map λd=>decide (0<=d)&&decide (d<=9)).map PyData.bool:=by rw[afT];rfl
  rw[e]
  show(match jk _ with
   |some bs=>Out.ok (PyData.bool (bs.all id))
   |none=>.bad)=_
  rw[oO];simp[List.all_map,Function.comp_def]
 have hl:x.length<=50000:=by omega
 by_cases h6:x.length=6
 .have h6':((x.length:Int)==6)=true:=by simp[h6]
  simp[lu,qF,bf,key,hl,ha,m9,h6]
 .have h6':¬(x.length:Int)=6:=by omega
  simp[lu,qF,bf,m9,h6,h6']
theorem Ur{x:List Int}(h:x.length=6)(h2:∀d∈x,0<=d/\d<10):m9 x=true:=by unfold m9;simp only[afs,ago,afC];refine⟨h,λd hd=>?_⟩;have:=h2 d hd;omega
theorem Ol(M:Mo)(x:Int):∃y,oE M [.int x]=.ok (.int y):=by
 have hp:decide (CPow 10 30)=true:=decide_eq_true ⟨by decide,by decide,by decide⟩;by_cases h:x<0
 .exact⟨_,by simp[oE,CJ,hp,h];rfl⟩
 .exact⟨_,by simp[oE,CJ,hp,h];rfl⟩
theorem JM(M:Mo)(x0:Option Cell):∀(l:List Int) (x1:Option Cell),if l.all (λd=>decide (0<=d)&&decide (d<=9))=true then ∃y1,cM (aD 1) fG (l.map PyData.int) M [x0,x1]=.next [x0,y1] M else cM (aD 1) fG (l.map PyData.int) M [x0,x1]=.ret (.bool false) M
 |[],x1=>by
  rw[ags (by simp)];exact⟨x1,rfl⟩
 |d::l,x1=>by
  have hw:=sH M d;have ih:=JM M x0 l (some (.dat (.int d)));by_cases h0:0<=d
  .by_cases h9:d<=9
   .have hb:fG M [x0,some (.dat (.int d))]=.next [x0,some (.dat (.int d))] M:=by simp[fG,hw,h0,h9]
    have e:(d::l).all (λd=>decide (0<=d)&&decide (d<=9))=l.all (λd=>decide (0<=d)&&decide (d<=9)):=by simp[h0,h9]
    rw[e,aft,gQ (Z1:=[x0,some (.dat (.int d))]) (by simp) hb];exact ih
   .rw[agt (by simp[h0,h9]),aft,cM];simp[fG,hw,h0,h9]
  .rw[agt (by simp[h0]),aft,cM];simp[fG,hw,h0]
theorem HY(M:Mo)(x:List Int)(hx:x.length<=1000):dN M [gM x]=.ok (.bool (m9 x)):=by
 have k:=JM M (some (.dat (gM x))) x none;unfold m9;by_cases h6:x.length=6
 .have h6':((x.length:Int)==6)=true:=by simp[h6]
  cases e:x.all (λd=>decide (0<=d)&&decide (d<=9)) with
  |true=>
   rw[e,ags rfl]at k;obtain⟨y1,k⟩:=k;simp[dN,gW,cD,eG,h6,k]
  |false=>
   rw[e,agt (by simp)]at k;simp[dN,gW,cD,eG,h6,k]
 .have h6':¬(x.length:Int)=6:=by omega
  simp[dN,gW,cD,eG,h6,h6']
theorem Px(M:Mo)(m:List Int)(hm:m.length=6)(x:Int):∃e:List Int,e.length<=1000/\d9 M [gM m,.int x]=.ok (gM e):=by
 obtain⟨y,hy⟩:=Ol M x;have c5:Rf.cutD (m.map PyData.int) none (some 5)=(m.take 5).map PyData.int:=by rw[show(5:Int)=((5:Nat):Int) from rfl,nH,List.map_take]
 have c3:Rf.cutD (m.map PyData.int) none (some 3)=(m.take 3).map PyData.int:=by rw[show(3:Int)=((3:Nat):Int) from rfl,nH,List.map_take]
 have c4:Rf.cutD (m.map PyData.int) (some 4) none=(m.drop 4).map PyData.int:=by rw[show(4:Int)=((4:Nat):Int) from rfl,gY,List.map_drop]
 have c1:Rf.cutD (m.map PyData.int) (some 1) none=(m.drop 1).map PyData.int:=by rw[show(1:Int)=((1:Nat):Int) from rfl,gY,List.map_drop]
 by_cases h0:x%17=0
 .exact⟨m.take 5,by simp;omega,by simp[d9,fY,h0,c5]⟩
 by_cases h1:x%17=1
 .exact⟨m++[0],by simp[hm],by simp[d9,fY,h1,hm]⟩
 by_cases h2:x%17=2
 .exact⟨m.take 3++[10]++m.drop 4,by simp;omega,by simp[d9,fY,h2,c3,c4,hm]⟩
 by_cases h3:x%17=3
 .exact⟨[-1]++m.drop 1,by simp;omega,by simp[d9,fY,h3,c1,hm]⟩
 by_cases h4:x%17=4
 .exact⟨[0,0,0,0,0,0],by simp,by simp[d9,fY,h4]⟩
 by_cases h5:x%17=5
 .exact⟨[],by simp,by simp[d9,fY,h5]⟩
 by_cases h6:x%17=6
 .exact⟨m.take 5++[y],by simp;omega,by simp[d9,fY,h6,c5,hy,hm]⟩
 .exact⟨m,by omega,by simp[d9,fY,h0,h1,h2,h3,h4,h5,h6]⟩
inductive Pt where
 |n (i:Int)|e (l:List Int)|s (x:Str)
def Pt.dat:Pt->Dat
 |.n i=>.int i
 |.e l=>gM l
 |.s x=>.str x
def Pt.fine:Pt->Prop
 |.n _=>True
 |.e l=>l.length<=1000
 |.s x=>PyData.strOk x=true
inductive Kn where
 |n|e|p
def Kn.S:Kn->Str
 |.n=>"number"
 |.e=>"ear"
 |.p=>"place"
def Kn.c:Kn->Nat
 |.n=>110
 |.e=>101
 |.p=>112
def Kn.C(k:Kn):Str:=⟨#[k.c]⟩
def bQ:Pt->Kn->Bool
 |.e l,.e=>m9 l
 |.n i,.n=>decide (0<=i)&&decide (i<=999999999)
 |.n i,.p=>decide (0<=i)&&decide (i<=5)
 |_,_=>false
def aR:List (Str×List Kn):=[("owner",[]),("ground",[.n]),("enrol",[.n,.n,.e]),("leave",[.n,.n]),("bring",[.n,.n,.e]),("bear",[.n]),("cut",[.n]),("tear",[.n,.p]),("sell",[.n,.n]),("move",[.n,.n]),("die",[.n]),("unite",[.n,.n]),("part",[.n]),("pass",[.n,.n]),("heir",[.n,.n,.n])]
def eV(ks:List Kn):Str:=⟨(ks.map Kn.c).toArray⟩
def eX(ps:List Pt)(ks:List Kn):Bool:=(ps.zip ks).all λx=>bQ x.1 x.2
def cU:List Pt->Bool
 |.s w::ps=>match aR.lookup w with
  |some ks=>decide (ps.length=ks.length)&&eX ps ks
  |none=>false
 |_=>false
theorem U6(M:Mo)(k:Kn)(p:Pt)(h:p.fine):bO M [.str k.S,p.dat]=.ok (.bool (bQ p k)):=by
 have tt:∀l,cD .tuple (gM l)=.ok (.bool true):=λ_=>rfl;have ti:∀l,cD .int (gM l)=.ok (.bool false):=λ_=>rfl;cases k<;>cases p
 .next i=>by_cases h0:0<=i<;>simp[bO,cI,Kn.S,Pt.dat,bQ,bM,bf,cD,eG,h0]
 .next l=>simp[bO,cI,Kn.S,Pt.dat,bQ,bM,bf,ti]
 .next x=>simp[bO,cI,Kn.S,Pt.dat,bQ,bM,bf,cD,eG]
 .next i=>simp[bO,cI,Kn.S,Pt.dat,bQ,bM,bf,cD,eG]
 .next l=>
  have h1:=Od M l h;simp[bO,cI,Kn.S,Pt.dat,bQ,tt,h1]
 .next x=>simp[bO,cI,Kn.S,Pt.dat,bQ,cD,eG]
 .next i=>by_cases h0:0<=i<;>simp[bO,cI,Kn.S,Pt.dat,bQ,bM,bf,cD,eG,h0]
 .next l=>simp[bO,cI,Kn.S,Pt.dat,bQ,bM,bf,ti]
 .next x=>simp[bO,cI,Kn.S,Pt.dat,bQ,bM,bf,cD,eG]
theorem wJ{α β:Type}(f:α->β)(w:Str):∀l:List (Str×α),(l.map λp=>(p.1,f p.2)).lookup w=(l.lookup w).map f
 |[]=>rfl
 |p::l=>by
  rw[aft,afF,afF];cases w==p.1
  .exact wJ f w l
  .rfl
def shD(ks:List Kn):Dat:=.tuple (ks.map λk=>.str k.S)
theorem sY(w:Str):(fJ cY).lookup w=(aR.lookup w).map shD:=by rw[<-wJ];rfl
theorem zip_parts:∀(ks:List Kn) (ps:List Pt),dD (ks.map λk=>PyData.str k.S) (ps.map Pt.dat)=(ps.zip ks).map λx=>PyData.tuple [.str x.2.S,x.1.dat]
 |[],ps=>by cases ps<;>simp[dD]
 |_::_,[]=>by simp[dD]
 |k::ks,p::ps=>by
  have:=zip_parts ks ps;unfold dD at this |-
  rw[aft,aft,List.zipWith_cons_cons,this,afP,aft]
theorem Bx:∀l:List Int,jG (l.map PyData.int)=some (l.map NestedKey.num)
 |[]=>rfl
 |i::l=>by rw[aft,jG,Bx l];rfl
theorem Fy:∀l:List Int,NestedKey.depthAll (l.map NestedKey.num)=0
 |[]=>rfl
 |i::l=>by rw[aft,NestedKey.depthAll,Fy l];rfl
theorem Vm(l:List Int):(NestedKey.tup (l.map NestedKey.num)).depth<=8:=by rw[NestedKey.depth,Fy];decide
theorem Gx(M:Mo)(ps:List Pt)(hl:ps.length<=100)(h:∀p∈ps,p.fine):je M [.tuple (ps.map Pt.dat)]=.ok (.bool (cU ps)):=by
 cases ps with
 |nil=>simp[je,lM,cU]
 |cons p ps=>
  have hne:¬(ps.length:Int)+1=0:=by omega
  cases p with
  |n i=>simp[je,lM,cU,Pt.dat,hne]
  |e l=>
   have h1:=Vm l;simp[je,lM,cU,Pt.dat,hne,Bx,h1]
  |s w=>
   rw[afA]at hl;have h0:=sY w;cases hk:aR.lookup w with
   |none=>
    rw[hk]at h0;simp[je,lM,cU,Pt.dat,hne,h0,hk]
   |some ks=>
    rw[hk]at h0;have h0:(fJ cY).lookup w=some (.tuple (ks.map λk=>.str k.S)):=h0;have hs:Rf.cutD (PyData.str w::ps.map Pt.dat) (some 1) none=ps.map Pt.dat:=gY _ 1;have key:=fX (tg:=cC [3,4]) (te:=aN bO (ao (aK 3) (ao (aK 4) aG))) (M:=M) (ρ:=[some (.dat (.tuple (.str w::ps.map Pt.dat))),some (.dat (.tuple (ks.map λk=>.str k.S))),some (.dat (.tuple (ps.map Pt.dat))),none,none]) (λ(x:Pt×Kn)=>PyData.tuple [.str x.2.S,x.1.dat]) (λx=>.bool (bQ x.1 x.2)) (ps.zip ks) λx hx=>⟨[some (.dat (.tuple (.str w::ps.map Pt.dat))),some (.dat (.tuple (ks.map λk=>.str k.S))),some (.dat (.tuple (ps.map Pt.dat))),some (.dat (.str x.2.S)),some (.dat x.1.dat)],by simp,by
     have:=U6 M x.2 x.1 (h x.1 (afu _ (List.of_mem_zip hx).1));simp[this]⟩
    have ha:vD (.list ((ps.zip ks).map λx=>PyData.bool (bQ x.1 x.2)))=.ok (.bool (eX ps ks)):=by
     have e:((ps.zip ks).map λx=>PyData.bool (bQ x.1 x.2))=((ps.zip ks).map λx=>bQ x.1 x.2).map PyData.bool:=by rw[afT];rfl
     rw[e]
     show(match jk _ with
      |some bs=>Out.ok (PyData.bool (bs.all id))
      |none=>.bad)=_
     rw[oO];simp[eX,List.all_map,Function.comp_def]
    have hz:=zip_parts ks ps;have hlz:(ps.zip ks).length<=50000:=by rw[List.length_zip];omega
    by_cases hq:ps.length=ks.length
    .have hne2:¬(ks.length:Int)+1=0:=by omega
     have hk5:ks.length<=50000:=by omega
     have ds:(Pt.s w).dat=.str w:=rfl;simp[je,lM,cU,ds,hne,hne2,h0,hk,hs,hq,hz];simp[key,hk5,ha]
    .have hq2:¬(ps.length:Int)=ks.length:=by omega
     simp[je,lM,cU,Pt.dat,hne,h0,hk,hs,hq,hq2]
def iz:List Dat:=aR.map λp=>.str p.1
def uK:List Dat:=aR.map λp=>.str (eV p.2)
theorem nZ:([.str "owner",.str "ground",.str "enrol",.str "leave",.str "bring",.str "bear",.str "cut",.str "tear",.str "sell",.str "move",.str "die",.str "unite",.str "part",.str "pass",.str "heir"]:List Dat)=iz:=by rfl
theorem qb:([.str "",.str "n",.str "nne",.str "nn",.str "nne",.str "n",.str "n",.str "np",.str "nn",.str "nn",.str "n",.str "nn",.str "n",.str "nn",.str "nnn"]:List Dat)=uK:=by rfl
theorem lQ:iz.length<=100000:=by decide
theorem ou:uK.length<=100000:=by decide
theorem Zt(k:Kn):(k.C==("e" : Str))=decide (k.c=101):=by cases k<;>decide +kernel
theorem Xm(k:Kn):(k.C==("p" : Str))=decide (k.c=112):=by cases k<;>decide +kernel
theorem abY(k:Kn):(k.C==("n" : Str))=decide (k.c=110):=by cases k<;>decide +kernel
theorem xO(ks:List Kn):iW (eV ks)=ks.map λk=>.str k.C:=by simp[iW,eV,Kn.C]
theorem Ak(k:Int)(d:Dat)(ds:List Dat):gU k (d::ds)=.tuple [.int k,d]::gU (k+1) ds:=by
 unfold gU;rw[List.mapIdx_cons];congr 1
 .simp
 .apply List.ext_getElem
  .simp
  .intro n h1 h2;simp;omega
def iY(c:Int):Kn->Pt
 |.e=>.e (oJ c)
 |.p=>.n (c%6)
 |.n=>if c%5=4 then .n (c/5%1000000000) else .n (c/5%12)
def partsOf(ns:List Int):Nat->List Kn->List Pt
 |_,[]=>[]
 |j,k::ks=>iY (ns.getD (1+j) 0) k::partsOf ns (j+1) ks
theorem tup_loop(M:Mo)(ns:List Int)(x1 x2 x3:Option Cell):∀(ks:List Kn) (j:Nat) (acc:List Dat) (x5 x6 x7:Option Cell),acc.length+ks.length<100000->∃y5 y6 y7,cM (cC [5,6]) jO (gU (j:Int) (ks.map λk=>.str k.C)) M [some (.dat (lI ns)),x1,x2,x3,some (.mut acc),x5,x6,x7]=.next [some (.dat (lI ns)),x1,x2,x3,some (.mut (acc++(partsOf ns j ks).map Pt.dat)),y5,y6,y7] M
 |[],j,acc,x5,x6,x7,_=>⟨x5,x6,x7,by simp[gU,cM,partsOf]⟩
 |k::ks,j,acc,x5,x6,x7,hl=>by
  have hc:fW M [lI ns,.int (1+(j:Int))]=.ok (.int (ns.getD (1+j) 0)):=by have:=uI M ns (1+j);rw[show((1+j:Nat):Int)=1+(j:Int) by omega]at this;exact this
  have hd:∀z,decide (CDiv z 5)=true:=λz=>decide_eq_true ⟨by decide,by decide⟩;have he:=Nk M (ns.getD (1+j) 0);have ih:=tup_loop M ns x1 x2 x3 ks (j+1) (acc++[(iY (ns.getD (1+j) 0) k).dat]) (some (.dat (.int j))) (some (.dat (.str k.C))) (some (.dat (.int (ns.getD (1+j) 0)))) (by simp at hl |-;omega);obtain⟨y5,y6,y7,ih⟩:=ih;refine⟨y5,y6,y7,?_⟩;have hl2:acc.length<100000:=by simp at hl;omega
  rw[aft,Ak,gQ (Z1:=[some (.dat (lI ns)),x1,x2,x3,some (.mut acc),some (.dat (.int j)),some (.dat (.str k.C)),x7]) (by simp) (Z2:=[some (.dat (lI ns)),x1,x2,x3,some (.mut (acc++[(iY (ns.getD (1+j) 0) k).dat])),some (.dat (.int j)),some (.dat (.str k.C)),some (.dat (.int (ns.getD (1+j) 0)))]) (M2:=M) (by
   generalize ns.getD (1+j) 0=c at hc he;have h1:=Zt k;have h2:=Xm k;cases k with
   |n=>by_cases h4:c%5=4<;>simp[jO,hc,h1,h2,Kn.c,hd,h4,hl2,iY,Pt.dat]
   |e=>simp[jO,hc,h1,h2,Kn.c,he,hl2,iY,Pt.dat]
   |p=>simp[jO,hc,h1,h2,Kn.c,hl2,iY,Pt.dat])]
  rw[show((j:Int)+1)=((j+1:Nat):Int) by omega,ih];simp[partsOf]
theorem sJ(ns:List Int):∀(ks:List Kn) (j:Nat),(partsOf ns j ks).length=ks.length
 |[],_=>rfl
 |_::ks,j=>by simp[partsOf,sJ ns ks (j+1)]
theorem JZ(c:Int):m9 (oJ c)=true:=Ur (tD c) (QH c)
theorem Wr(c:Int)(k:Kn):bQ (iY c k) k=true/\(iY c k).fine:=by
 cases k with
 |n=>
  by_cases h4:c%5=4
  .rw[show iY c .n=.n (c/5%1000000000) from ags h4];exact⟨by simp[bQ];omega,agm⟩
  .rw[show iY c .n=.n (c/5%12) from agt h4];exact⟨by simp[bQ];omega,agm⟩
 |e=>exact⟨JZ c,by show _<=_;rw[tD];decide⟩
 |p=>exact⟨by simp[iY,bQ];omega,agm⟩
theorem vY(ns:List Int):∀(ks:List Kn) (j:Nat),eX (partsOf ns j ks) ks=true/\∀p∈partsOf ns j ks,p.fine
 |[],_=>⟨rfl,λ_ h=>nomatch h⟩
 |k::ks,j=>by
  have h1:=vY ns ks (j+1);have h2:=Wr (ns.getD (1+j) 0) k;refine⟨?_,λp h=>?_⟩
  .have h3:=h1.1;unfold eX at h3 |-
   rw[partsOf,afP,afW,h3,h2.1];rfl
  .rcases afD.mp h with rfl|h
   .exact h2.2
   .exact h1.2 p h
theorem pQ{α β:Type}(l:List α)(f:α->β)(j:Nat)(p:α)(h:l[j]?=some p):atI (l.map f) (j:Int)=some (f p):=atI_nat (by simp[h])
theorem jN:∀p∈aR,aR.lookup p.1=some p.2/\PyData.strOk p.1=true/\p.2.length<=3:=by intro p h;unfold aR at h;simp only[afD,afS,or_false]at h;rcases h with rfl|rfl|rfl|rfl|rfl|rfl|rfl|rfl|rfl|rfl|rfl|rfl|rfl|rfl|rfl<;>exact⟨by rfl,jh _,by decide⟩
theorem Bq(M:Mo)(ns:List Int):∃p∈aR,jQ M [lI ns]=.ok (.tuple ((Pt.s p.1::partsOf ns 0 p.2).map Pt.dat)):=by
 obtain⟨j,hj⟩:∃j:Nat,ns.getD 0 0%15=(j:Int):=⟨(ns.getD 0 0%15).toNat,by omega⟩;have hlt:j<15:=by omega
 obtain⟨p,hp⟩:∃p,aR[j]?=some p:=⟨_,afx (show j<aR.length from hlt)⟩;have hm:p∈aR:=afK hp;refine⟨p,hm,?_⟩;have h1:atI iz (j:Int)=some (.str p.1):=pQ aR (λp=>PyData.str p.1) j p hp;have h2:atI uK (j:Int)=some (.str (eV p.2)):=pQ aR (λp=>PyData.str (eV p.2)) j p hp;have hc:fW M [lI ns,.int 0]=.ok (.int (ns.getD 0 0)):=uI M ns 0;have h3:=(jN p hm).2.2;obtain⟨y5,y6,y7,h4⟩:=tup_loop M ns (some (.dat (.list iz))) (some (.dat (.list uK))) (some (.dat (.int j))) p.2 0 [.str p.1] none none none (by simp;omega);have hi:cZ (.str (eV p.2))=.ok (iW (eV p.2)):=by
  unfold cZ;have:(eV p.2).length<=100000:=by show(List.toArray _).size<=_;simp;omega
  simp[this]
 rw[xO]at hi;have h4':cM (cC [5,6]) jO (gU 0 (p.2.map λk=>.str k.C)) M _=_:=h4;have hpd:(Pt.s p.1).dat=.str p.1:=rfl;simp only[jQ,yW,aaA,Yx,Zh,Xj,XF];have hd0:ns[0]?.getD 0%15=(j:Int):=by simpa using hj
 simp[hd0,nZ,qb,lQ,ou,hc,hj,h1,h2,hi,h4',hpd]
theorem Av(x y:Str)(hx:PyData.strOk x=true)(hy:PyData.strOk y=true):PyData.strOk (x++y)=true:=by
 unfold PyData.strOk at *
 show(x.cps++y.cps).all _=true
 rw[Array.all_append,hx,hy];rfl
theorem yq:∀(ys:List Str),(∀y∈ys,PyData.strOk y=true)->PyData.strOk (Str.join "" ys)=true
 |[],_=>by decide +kernel
 |[y],h=>h y (by simp)
 |y::z::r,h=>by
  show PyData.strOk (y++""++Str.join "" (z::r))=true
  exact Av _ _ (Av _ _ (h y (by simp)) (jh _)) (yq (z::r) λx hx=>h x (afu _ hx))
theorem xX:∀l:List Str,strsOf (l.map PyData.str)=some l
 |[]=>rfl
 |x::l=>by
  rw[aft,strsOf,xX l];rfl
def tY:Str:="abcdefghijklmnopqrstuvwxyz"
theorem Pa:∀f:Nat,f<26->∃c,tY.cps.toList[f]?=some c/\c<1000:=by decide +kernel
theorem RQ(M:Mo)(c:Int):∃x,sO M [.int c]=.ok (.str x)/\PyData.strOk x=true:=by
 obtain⟨n,hn⟩:∃n:Nat,3+(if c<0 then -c else c)%4=(n:Int):=⟨(3+(if c<0 then -c else c)%4).toNat,by omega⟩;have hn7:n<7:=by omega
 have hr:mK M [.int c,.int n,.int 26]=.ok (.list ((rowOf c n 26).map .int)):=NQ M c n 26 (by decide) (by decide) (by omega)
 let lt:Int->Str:=λf=>⟨#[tY.cps.toList.getD f.toNat 97]⟩
 have h1:∀f∈rowOf c n 26,dM (.str tY) (.int f)=.ok (.str (lt f)):=by
  intro f hf;have hb:=Gi (b:=26) (by decide) c n f hf;obtain⟨j,rfl⟩:∃j:Nat,f=(j:Int):=⟨f.toNat,by omega⟩;obtain⟨x,hx,_⟩:=Pa j (by omega);have hl:tY.length<=100000:=by decide +kernel
  simp only[dM];rw[atI_nat hx];have hx':tY.cps[j]?=some x:=by simpa using hx
  simp[hl,lt,hx']
 have h2:∀f∈rowOf c n 26,PyData.strOk (lt f)=true:=by intro f hf;have hb:=Gi (b:=26) (by decide) c n f hf;obtain⟨x,hx,hx2⟩:=Pa f.toNat (by omega);simp[PyData.strOk,lt,List.getD,hx];omega
 have key:=fX (tg:=aD 2) (te:=aq dM (ak 1) (ak 2)) (M:=M) (ρ:=[some (.dat (.int c)),some (.dat (.str tY)),none]) PyData.int (λf=>.str (lt f)) (rowOf c n 26) λf hf=>⟨[some (.dat (.int c)),some (.dat (.str tY)),some (.dat (.int f))],by simp,by simp[h1 f hf]⟩;have e:((rowOf c n 26).map λf=>PyData.str (lt f))=((rowOf c n 26).map lt).map PyData.str:=by simp
 have hs:((((rowOf c n 26).map lt).map λy=>y.length).sum+((rowOf c n 26).map lt).length*("" : Str).length<=16777216):=by
  have h3:∀l:List Int,((l.map lt).map λy=>y.length).sum=l.length:=by
   intro l
   induction l with
   |nil=>rfl
   |cons a l ih=>
    rw[aft,aft,List.sum_cons,ih,show(lt a).length=1 from rfl,afA];omega
  rw[h3,Vo,show("" : Str).length=0 by decide +kernel]
  omega
 have hj:j5 "" (.list ((rowOf c n 26).map λf=>PyData.str (lt f)))=.ok (.str (Str.join "" ((rowOf c n 26).map lt))):=by
  rw[e];unfold j5
  dsimp only
  rw[xX]
  dsimp only
  rw[decide_eq_true hs];show Out.ok (PyData.str (Txt.join _ _))=_;unfold Txt.join;rw[StrLaws.glued_eq_join]
 refine⟨Str.join "" ((rowOf c n 26).map lt),?_,yq _ λy hy=>?_⟩
 .have ha:("abcdefghijklmnopqrstuvwxyz" : Str)=tY:=rfl
  have hn5:n<=50000:=by omega
  simp[sO,Ef,hn,hr,ha,key,hj,hn5]
 .obtain⟨f,hf,rfl⟩:=afG.mp hy;exact h2 f hf
theorem Ax(l:List Pt)(n:Nat):Rf.cutD (l.map Pt.dat) none (some (n:Int))=(l.take n).map Pt.dat:=by rw[nH,List.map_take]
theorem Ai(l:List Pt)(n:Nat):Rf.cutD (l.map Pt.dat) (some (n:Int)) none=(l.drop n).map Pt.dat:=by rw[gY,List.map_drop]
def mV(ps:List Pt):Prop:=ps.length<=100/\∀p∈ps,p.fine
theorem Kl(M:Mo)(ns:List Int):∃ps,mV ps/\aX M [lI ns]=.ok (.tuple (ps.map Pt.dat)):=by
 obtain⟨p,hp,ht⟩:=Bq M ns;have hs:=jN p hp;have hf:=(vY ns p.2 0).2;have hl:=sJ ns p.2 0;generalize hL:(Pt.s p.1::partsOf ns 0 p.2)=L at ht;have hL1:1<=L.length:=by rw[<-hL];simp
 have hL2:L.length<=4:=by rw[<-hL];simp;omega
 have hLf:∀q∈L,q.fine:=by
  rw[<-hL];intro q hq;rcases afD.mp hq with rfl|hq
  .exact hs.2.1
  .exact hf q hq
 have h4:fW M [lI ns,.int 4]=.ok (.int (ns.getD 4 0)):=uI M ns 4;have h5:fW M [lI ns,.int 5]=.ok (.int (ns.getD 5 0)):=uI M ns 5;generalize ns.getD 4 0=a at h4;generalize ns.getD 5 0=c at h5;have hd:∀z,decide (CDiv z 9)=true:=λz=>decide_eq_true ⟨by decide,by decide⟩;have hd17:∀z,decide (CDiv z 17)=true:=λz=>decide_eq_true ⟨by decide,by decide⟩;have hlp:(0:Int)<L.length:=by omega
 have hlq:0<L.length:=by omega
 obtain⟨j,hj⟩:∃j:Nat,a/9%L.length=(j:Int):=by have:=Int.emod_nonneg (a/9) (show(L.length:Int)≠0 by omega);exact⟨(a/9%L.length).toNat,by omega⟩
 have hjl:j<L.length:=by have:=Int.emod_lt_of_pos (a/9) hlp;omega
 have c1:Rf.cutD (L.map Pt.dat) none (some (j:Int))=(L.take j).map Pt.dat:=Ax L j;have c2:Rf.cutD (L.map Pt.dat) (some ((j:Int)+1)) none=(L.drop (j+1)).map Pt.dat:=Ai L (j+1);have c3:Rf.cutD (L.map Pt.dat) none (some ((j:Int)+1))=(L.take (j+1)).map Pt.dat:=Ax L (j+1);have c4:Rf.cutD (L.map Pt.dat) (some 1) none=(L.drop 1).map Pt.dat:=Ai L 1;have ft:∀n,∀q∈L.take n,q.fine:=λn q hq=>hLf q (af4 hq);have fd:∀n,∀q∈L.drop n,q.fine:=λn q hq=>hLf q (List.mem_of_mem_drop hq);have hw:0<=a%9/\a%9<9:=by omega
 have mk:∀(i n:Nat) (q:Pt),q.fine->mV (L.take i++[q]++L.drop n):=by
  intro i n q hq;refine⟨by simp;omega,λr hr=>?_⟩;simp only[afV,afJ]at hr;rcases hr with(hr|rfl)|hr
  .exact ft i r hr
  .exact hq
  .exact fd n r hr
 have mk1:∀(q:Pt),q.fine->mV ([q]++L.drop 1):=by
  intro q hq;refine⟨by simp;omega,λr hr=>?_⟩;simp only[afV,afJ]at hr;rcases hr with rfl|hr
  .exact hq
  .exact fd 1 r hr
 have l1:(L.take j).length<=100:=by simp;omega
 have l2:(L.drop (j+1)).length<=100:=by simp;omega
 obtain⟨y,hy⟩:=Ol M c;obtain⟨x,hx,hx2⟩:=RQ M c;obtain⟨e,he,he2⟩:=Px M (oJ (c/17)) (tD _) c;have hear:=Nk M (c/17);have g1:min j L.length+1<=100000:=by omega
 have g2:min j L.length+1+(L.length-(j+1))<=100000:=by omega
 have g3:min j L.length+(L.length-(j+1))<=100000:=by omega
 have g4:min (j+1) L.length+1<=100000:=by omega
 have g5:min (j+1) L.length+1+(L.length-(j+1))<=100000:=by omega
 have g6:1+(L.length-1)<=100000:=by omega
 have dn:∀i:Int,PyData.int i=(Pt.n i).dat:=λ_=>rfl;have hfold:mV L:=⟨by omega,hLf⟩;have hfd:mV (L.take j++L.drop (j+1)):=by
  refine⟨by simp;omega,λr hr=>?_⟩;rcases afV.mp hr with hr|hr
  .exact ft j r hr
  .exact fd (j+1) r hr
 have w:a%9=0\/a%9=1\/a%9=2\/a%9=3\/a%9=4\/a%9=5\/a%9=6\/a%9=7\/a%9=8:=by omega
 rcases w with w|w|w|w|w|w|w|w|w
 .exact⟨L,hfold,by simp[aX,bh,ht,h4,h5,hd,hlq,hj,w]⟩
 .exact⟨_,hfd,by simp[aX,bh,ht,h4,h5,hd,hlq,hj,w,c1,c2,g3]⟩
 .exact⟨_,mk (j+1) (j+1) (.n (c%12)) agm,by simp[aX,bh,ht,h4,h5,hd,hlq,hj,w,c1,c2,c3,g4,g5,Pt.dat]⟩
 .have w5:c%5=0\/c%5=1\/c%5=2\/c%5=3\/c%5=4:=by omega
  rcases w5 with w5|w5|w5|w5|w5
  .exact⟨_,mk1 (.s "") (jh _),by simp[aX,bh,ht,h4,h5,hd,hlq,hj,w,c4,w5,g6,Pt.dat]⟩
  .exact⟨_,mk1 (.s "Cut") (jh _),by simp[aX,bh,ht,h4,h5,hd,hlq,hj,w,c4,w5,g6,Pt.dat]⟩
  .exact⟨_,mk1 (.s "cut ") (jh _),by simp[aX,bh,ht,h4,h5,hd,hlq,hj,w,c4,w5,g6,Pt.dat]⟩
  .exact⟨_,mk1 (.s "sale") (jh _),by simp[aX,bh,ht,h4,h5,hd,hlq,hj,w,c4,w5,g6,Pt.dat]⟩
  .exact⟨_,mk1 (.s "owners") (jh _),by simp[aX,bh,ht,h4,h5,hd,hlq,hj,w,c4,w5,g6,Pt.dat]⟩
 .exact⟨_,mk j (j+1) (.n y) agm,by simp[aX,bh,ht,h4,h5,hd,hlq,hj,w,c1,c2,g1,g2,hy,Pt.dat]⟩
 .exact⟨_,mk j (j+1) (.e e) he,by simp[aX,bh,ht,h4,h5,hd,hd17,hlq,hj,w,c1,c2,g1,g2,hear,he2,Pt.dat]⟩
 .exact⟨_,mk j (j+1) (.n (1000000000-c%2)) agm,by simp[aX,bh,ht,h4,h5,hd,hlq,hj,w,c1,c2,g1,g2,Pt.dat]⟩
 .exact⟨_,mk j (j+1) (.s "cut") (jh _),by simp[aX,bh,ht,h4,h5,hd,hlq,hj,w,c1,c2,g1,g2,Pt.dat]⟩
 .exact⟨_,mk1 (.s x) hx2,by simp[aX,bh,ht,h4,h5,hd,hlq,hj,w,c4,g6,hx,Pt.dat]⟩
theorem Ho(M:Mo)(p:Pt)(h:p.fine):dN M [p.dat]=.ok (.bool (bQ p .e)):=by
 cases p with
 |n i=>simp[dN,gW,Pt.dat,bQ,cD,eG]
 |e l=>exact HY M l h
 |s x=>simp[dN,gW,Pt.dat,bQ,cD,eG]
theorem Qo(M:Mo)(p:Pt)(k:Kn)(h:p.fine)(x0 x1 x2 x3:Option Cell):dX M [x0,x1,x2,x3,some (.dat p.dat),some (.dat (.str k.C))]=if bQ p k=true then .next [x0,x1,x2,x3,some (.dat p.dat),some (.dat (.str k.C))] M else .ret (.bool true) M:=by
 have h1:=Zt k;have h2:=Xm k;have h3:=abY k;have h4:=Ho M p h;have ti:∀l,cD .int (gM l)=.ok (.bool false):=λ_=>rfl;cases k with
 |e=>cases hb:bQ p .e<;>rw[hb]at h4<;>simp[dX,h1,h2,h3,h4,Kn.c]
 |n=>
  cases p with
  |n i=>by_cases h0:0<=i<;>by_cases h9:i<=999999999<;>simp[dX,h1,h2,h3,Kn.c,Pt.dat,bQ,cD,eG,h0,h9]
  |e l=>simp[dX,h1,h2,h3,Kn.c,Pt.dat,bQ,ti]
  |s x=>simp[dX,h1,h2,h3,Kn.c,Pt.dat,bQ,cD,eG]
 |p=>
  cases p with
  |n i=>by_cases h0:0<=i<;>by_cases h9:i<=5<;>simp[dX,h1,h2,h3,Kn.c,Pt.dat,bQ,cD,eG,h0,h9]
  |e l=>simp[dX,h1,h2,h3,Kn.c,Pt.dat,bQ,ti]
  |s x=>simp[dX,h1,h2,h3,Kn.c,Pt.dat,bQ,cD,eG]
theorem Dk(M:Mo)(x0 x1 x2 x3:Option Cell):∀(l:List (Pt×Kn)) (x4 x5:Option Cell),(∀x∈l,x.1.fine)->if (l.all λx=>bQ x.1 x.2)=true then ∃y4 y5,cM (cC [4,5]) dX (l.map λx=>PyData.tuple [x.1.dat,.str x.2.C]) M [x0,x1,x2,x3,x4,x5]=.next [x0,x1,x2,x3,y4,y5] M else cM (cC [4,5]) dX (l.map λx=>PyData.tuple [x.1.dat,.str x.2.C]) M [x0,x1,x2,x3,x4,x5]=.ret (.bool true) M
 |[],x4,x5,_=>by
  rw[ags (by simp)];exact⟨x4,x5,rfl⟩
 |x::l,x4,x5,h=>by
  have ih:=Dk M x0 x1 x2 x3 l (some (.dat x.1.dat)) (some (.dat (.str x.2.C))) λy hy=>h y (afu _ hy);have hs:=Qo M x.1 x.2 (h x afv) x0 x1 x2 x3;rw[afW,aft];cases hb:bQ x.1 x.2 with
  |true=>
   rw[hb,ags rfl]at hs;rw[Bool.true_and,gQ (Z1:=[x0,x1,x2,x3,some (.dat x.1.dat),some (.dat (.str x.2.C))]) (by simp) hs];exact ih
  |false=>
   rw[hb,agt (by simp)]at hs;rw[Bool.false_and,agt (by simp),cM];simp[hs]
theorem in_words(w:Str):∀l:List (Str×List Kn),((l.map λp=>PyData.str p.1).any λz=>PyData.eqv z (.str w))=(l.lookup w).isSome
 |[]=>rfl
 |p::l=>by
  rw[aft,agg,in_words w l,Oo,afF,BEq.comm];cases w==p.1<;>rfl
theorem Ba(w:Str)(ks:List Kn):∀l:List (Str×List Kn),l.lookup w=some ks->∃j p,(l.map λp=>PyData.str p.1).findIdx? (λz=>PyData.eqv z (.str w))=some j/\l[j]?=some p/\p.2=ks
 |[],h=>nomatch h
 |p::l,h=>by
  rw[afF]at h;rw[aft,List.findIdx?_cons,Oo,BEq.comm];cases hw:w==p.1 with
  |true=>
   rw[hw]at h;cases h;exact⟨0,p,rfl,rfl,rfl⟩
  |false=>
   rw[hw]at h;obtain⟨j,q,h1,h2,h3⟩:=Ba w ks l h;exact⟨j+1,q,by simp[h1],h2,h3⟩
theorem Ow:fZ 12 iz=true:=qR.mpr λd hd=>by
 obtain⟨p,hp,rfl⟩:=afG.mp hd;rw[okd];exact(jN p hp).2.1
theorem Ra:iz.all pO=true:=by rfl
theorem Di:∀(ps:List Pt) (ks:List Kn),dD (ps.map Pt.dat) (ks.map λk=>PyData.str k.C)=(ps.zip ks).map λx=>PyData.tuple [x.1.dat,.str x.2.C]
 |[],ks=>by cases ks<;>simp[dD]
 |_::_,[]=>by simp[dD]
 |p::ps,k::ks=>by
  have:=Di ps ks;unfold dD at this |-
  rw[aft,aft,List.zipWith_cons_cons,this,afP,aft]
theorem Pn(M:Mo)(ps:List Pt)(hf:mV ps):fM M [.tuple (ps.map Pt.dat)]=.ok (.bool (!cU ps)):=by
 cases ps with
 |nil=>simp[fM,jr,cU]
 |cons p ps=>
  have hl:=hf.1;rw[afA]at hl;have hne:¬(ps.length:Int)+1=0:=by omega
  cases p with
  |n i=>simp[fM,jr,cU,Pt.dat,hne,cD,eG]
  |e l=>
   have ts:cD .str (gM l)=.ok (.bool false):=rfl;simp[fM,jr,cU,Pt.dat,hne,ts]
  |s w=>
   have hw:PyData.strOk w=true:=hf.2 _ afv;have ds:(Pt.s w).dat=.str w:=rfl;have h1:inD true (.str w) (.list iz)=.ok (.bool (!(aR.lookup w).isSome)):=by
    have h0:okd 12 (.str w)=true:=hw
    show(Out.when (okd 12 (.str w)&&fZ 12 iz) _).bind _=_
    rw[h0,Ow];show Out.ok (PyData.bool (true ^^ _))=_;rw[show iz=aR.map λp=>PyData.str p.1 from rfl,in_words,Bool.true_xor]
   have ts:cD .str (.str w)=.ok (.bool true):=rfl;cases hk:aR.lookup w with
   |none=>
    rw[hk]at h1;simp only[Option.isSome_none,Bool.not_false]at h1;simp[fM,jr,cU,ds,hne,nZ,qb,lQ,ou,h1,hk,ts]
   |some ks=>
    rw[hk]at h1;simp only[Option.isSome_some,Bool.not_true]at h1;obtain⟨j,p,h2,h3,rfl⟩:=Ba w ks aR hk;have h4:lN iz (.str w)=.ok (.int (j:Nat)):=by unfold lN;rw[Ra,show iz=aR.map λp=>PyData.str p.1 from rfl,h2];rfl
    have h5:atI uK (j:Int)=some (.str (eV p.2)):=pQ aR (λp=>PyData.str (eV p.2)) j p h3;have h6:=(jN p (afK h3)).2.2;have h7:(eV p.2).length=p.2.length:=by
     show(List.toArray _).size=_
     simp
    have h8:dh (.str (eV p.2))=.ok (.int p.2.length):=by
     have h9:p.2.length<=100000:=by omega
     unfold dh;simp[h7,h9]
    have hi:cZ (.str (eV p.2))=.ok (iW (eV p.2)):=by
     unfold cZ;have:(eV p.2).length<=100000:=by omega
     simp[this]
    rw[xO]at hi;have hs:Rf.cutD (PyData.str w::ps.map Pt.dat) (some 1) none=ps.map Pt.dat:=gY _ 1;have hz:=Di ps p.2;have lp:=Dk M (some (.dat (.tuple (.str w::ps.map Pt.dat)))) (some (.dat (.list iz))) (some (.dat (.list uK))) (some (.dat (.str (eV p.2)))) (ps.zip p.2) none none λx hx=>hf.2 x.1 (afu _ (List.of_mem_zip hx).1);by_cases hq:ps.length=p.2.length
    .have hq1:((p.2.length:Int)==(ps.length:Int)+1-1)=true:=by simp;omega
     have hb:eX ps p.2=(ps.zip p.2).all λx=>bQ x.1 x.2:=rfl;have hne2:¬(p.2.length:Int)+1=0:=by omega
     cases hpb:(ps.zip p.2).all λx=>bQ x.1 x.2 with
     |true=>
      rw[hpb,ags rfl]at lp;obtain⟨y4,y5,lp⟩:=lp;rw[hpb]at hb;simp[fM,jr,cU,ds,hne,hne2,nZ,qb,lQ,ou,h1,hk,ts,h4,h5,h8,hq,hi,hs,hz,lp,hb]
     |false=>
      rw[hpb,agt (by simp)]at lp;rw[hpb]at hb;simp[fM,jr,cU,ds,hne,hne2,nZ,qb,lQ,ou,h1,hk,ts,h4,h5,h8,hq,hi,hs,hz,lp,hb]
    .have hq2:¬(p.2.length:Int)=ps.length:=by omega
     simp[fM,jr,cU,ds,hne,nZ,qb,lQ,ou,h1,hk,ts,h4,h5,h8,hq,hq2]
def cX:List (List Nat):=[[108,116],[108,102],[108,104],[114,116],[114,102],[114,104]]
def uO:List Nat:=[110,111,110,101]
def rO:List Int:=[0,0,0,0,0,0]
def uh(w:List Nat):Option Nat:=cX.findIdx? λp=>decide (p=w)
def yF:List Nat->Option (Nat×Int)
 |[a,b,c]=>if 49<=c/\c<=57 then(uh [a,b]).map λk=>(k,(c:Int)-48) else none
 |_=>none
def mJ:List (List Nat)->List Int->Int->Option (List Int)
 |[],dep,_=>some dep
 |w::ws,dep,last=>match yF w with
  |none=>none
  |some (k,d)=>if (k:Int)<=last then none else mJ ws (dep.set k d) (k:Int)
def CN(t:List Nat):Option (List Int):=if t=uO then some rO else mJ (TL.spl [32] 0 [] t) rO (-1)
theorem Bl{w:List Nat}{k:Nat}(h:uh w=some k):cX[k]?=some w/\k<6:=by unfold uh at h;have h1:=List.findIdx?_eq_some_iff_getElem.mp h;obtain⟨hk,he,_⟩:=h1;have e:=agp he;exact⟨by rw[afx hk,e],hk⟩
theorem U4:∀{k:Nat} {w:List Nat},cX[k]?=some w->uh w=some k
 |0,w,h=>by cases h;rfl
 |1,w,h=>by cases h;rfl
 |2,w,h=>by cases h;rfl
 |3,w,h=>by cases h;rfl
 |4,w,h=>by cases h;rfl
 |5,w,h=>by cases h;rfl
 |k+6,w,h=>by simp[cX]at h
theorem tG{k:Nat}{w:List Nat}(h:cX[k]?=some w):∃a b:Nat,w=[a,b]/\a≠32/\b≠32/\a≠110:=by
 match k,h with
 |0,h=>cases h;exact⟨_,_,rfl,by decide,by decide,by decide⟩
 |1,h=>cases h;exact⟨_,_,rfl,by decide,by decide,by decide⟩
 |2,h=>cases h;exact⟨_,_,rfl,by decide,by decide,by decide⟩
 |3,h=>cases h;exact⟨_,_,rfl,by decide,by decide,by decide⟩
 |4,h=>cases h;exact⟨_,_,rfl,by decide,by decide,by decide⟩
 |5,h=>cases h;exact⟨_,_,rfl,by decide,by decide,by decide⟩
 |k+6,h=>simp[cX]at h
theorem aao{k:Nat}{w:List Nat}{d:Int}(h:cX[k]?=some w)(hd:0<d/\d<=9):yF (w++[48+d.toNat])=some (k,d):=by
 obtain⟨a,b,rfl,_⟩:=tG h
 show(if 49<=48+d.toNat/\48+d.toNat<=57 then(uh [a,b]).map λk=>(k,((48+d.toNat:Nat):Int)-48) else none)=_
 rw[ags (by omega),U4 h];show some (k,((48+d.toNat:Nat):Int)-48)=some (k,d);congr 2;omega
theorem Gm{w:List Nat}{k:Nat}{d:Int}(h:yF w=some (k,d)):∃a b c:Nat,w=[a,b,c]/\(49<=c/\c<=57)/\uh [a,b]=some k/\d=(c:Int)-48/\k<6:=by
 match w,h with
 |[a,b,c],h=>
  have h:(if 49<=c/\c<=57 then(uh [a,b]).map λk=>(k,(c:Int)-48) else none)=some (k,d):=h;by_cases hc:49<=c/\c<=57
  .rw[ags hc]at h;cases hp:uh [a,b] with
   |none=>
    rw[hp]at h;cases h
   |some j=>
    rw[hp]at h;cases h;exact⟨a,b,c,rfl,hc,hp,rfl,(Bl hp).2⟩
  .rw[agt hc]at h;cases h
def wZ(ps:List (List Nat))(xs:List Int):List (List Nat):=((ps.zip xs).filter λp=>decide (0<p.2)).map λp=>p.1++[48+p.2.toNat]
theorem Vz(p:List Nat)(ps:List (List Nat))(d:Int)(ds:List Int):wZ (p::ps) (d::ds)=(if 0<d then[p++[48+d.toNat]] else[])++wZ ps ds:=by
 unfold wZ;rw[afP,af6];by_cases h:0<d
 .rw[ags (decide_eq_true h),ags h,aft];rfl
 .rw[agt (by rw[decide_eq_false h];decide),agt h];rfl
def rW:Nat->List Int->List Int->List Int
 |_,[],dep=>dep
 |k,d::ds,dep=>rW (k+1) ds (if 0<d then dep.set k d else dep)
theorem uP:∀(ds:List Int) (k:Nat) (dep:List Int) (last:Int),k+ds.length<=6->(∀d∈ds,0<=d/\d<=9)->last<k->mJ (wZ (cX.drop k) ds) dep last=some (rW k ds dep)
 |[],k,dep,last,_,_,_=>by
  unfold wZ;rw[List.zip_nil_right];rfl
 |d::ds,k,dep,last,hk,hb,hl=>by
  rw[afA]at hk;have h6:k<cX.length:=by show k<6;omega
  have bd:=hb d (by simp);have hb':∀x∈ds,0<=x/\x<=9:=λx hx=>hb x (afu _ hx);rw[af2 h6,Vz];show _=some (rW (k+1) ds (if 0<d then dep.set k d else dep));by_cases h:0<d
  .rw[ags h,ags h];show mJ ((cX[k]++[48+d.toNat])::wZ (cX.drop (k+1)) ds) dep last=_;unfold mJ;rw[aao (afx h6) ⟨h,bd.2⟩]
   show(if (k:Int)<=last then none else mJ (wZ (cX.drop (k+1)) ds) (dep.set k d) (k:Int))=_
   rw[agt (by omega)];exact uP ds (k+1) _ _ (by omega) hb' (by omega)
  .rw[agt h,agt h,List.nil_append];exact uP ds (k+1) _ _ (by omega) hb' (by omega)
theorem kW{d:Int}{dep:List Int}{k:Nat}(hd:0<=d)(h:dep[k]?=some 0):(if 0<d then dep.set k d else dep)=dep.set k d:=by
 by_cases c:0<d
 .rw[ags c]
 .have e:d=0:=by omega
  rw[agt c,e];apply List.ext_getElem?;intro i;rw[agd];by_cases hi:k=i
  .subst hi;have hk:=(afw.mp h).1;rw[ags rfl,ags hk,h]
  .rw[agt hi]
theorem JD{xs:List Int}(h:Ear.jX xs):rW 0 xs rO=xs:=by obtain⟨a,b,c,d,e,f,rfl,ha,hb,hc,hd,he,hf⟩:=Ear.six h;unfold rW rW rW rW rW rW rW rO;rw[kW ha.1 rfl,kW hb.1 rfl,kW hc.1 rfl,kW hd.1 rfl,kW he.1 rfl,kW hf.1 rfl];rfl
def cR(xs:List Int):List Nat:=if wZ cX xs=[] then uO else TL.joinL [32] (wZ cX xs)
theorem VH{ps:List (List Nat)}{xs:List Int}(hp:∀p∈ps,∃k:Nat,cX[k]?=some p)(hb:∀d∈xs,0<=d/\d<=9):∀w∈wZ ps xs,32∉w/\∃c r,w=c::r/\c≠110:=by intro w hw;obtain⟨q,hq,rfl⟩:=afG.mp hw;obtain⟨h1,h2⟩:=agb.mp hq;obtain⟨m1,m2⟩:=List.of_mem_zip h1;obtain⟨k,hk⟩:=hp _ m1;obtain⟨a,b,e,n1,n2,n3⟩:=tG hk;rw[e];have:=hb _ m2;have h3:=agp h2;refine⟨?_,a,_,rfl,n3⟩;simp only[List.cons_append,List.nil_append,afD,afS,or_false,not_or];exact⟨Ne.symm n1,Ne.symm n2,by omega⟩
theorem uD:∀p∈cX,∃k:Nat,cX[k]?=some p:=λp hp=>by
 obtain⟨i,hi,e⟩:=List.getElem_of_mem hp;exact⟨i,by rw[afx hi,e]⟩
theorem NP{w:List Nat}{ws:List (List Nat)}{c:Nat}{r:List Nat}(h:w=c::r):∃r',TL.joinL [32] (w::ws)=c::r':=by
 subst h;cases ws with
 |nil=>exact⟨r,rfl⟩
 |cons v vs=>exact⟨_,rfl⟩
theorem all_zero{xs:List Int}(h:Ear.jX xs)(e:wZ cX xs=[]):xs=rO:=by have r:=uP xs 0 rO (-1) (by rw[h.1];decide) h.2 (by decide);rw[af7,e,JD h]at r;exact(afR r).symm
theorem Np{xs:List Int}(h:Ear.jX xs):CN (cR xs)=some xs:=by
 unfold cR;by_cases e:wZ cX xs=[]
 .rw[ags e];unfold CN;rw[ags rfl,all_zero h e]
 .rw[agt e];have fr:=VH uD h.2;have hn:TL.joinL [32] (wZ cX xs)≠uO:=by
   cases hw:wZ cX xs with
   |nil=>exact absurd hw e
   |cons w ws=>
    obtain⟨_,c,r,ew,nc⟩:=fr w (by rw[hw];simp);obtain⟨r',e'⟩:=NP (ws:=ws) ew;rw[e'];intro z;cases z;exact nc rfl
  unfold CN;rw[agt hn,TL.spl_join e (λw hw=>(fr w hw).1)];have r:=uP xs 0 rO (-1) (by rw[h.1];decide) h.2 (by decide);rw[af7,JD h]at r;exact r
def iV:List Str:=["lt","lf","lh","rt","rf","rh"]
theorem Eb:iV.map TL.tl=cX:=by decide +kernel
theorem P0(a b:Str):(a==b)=decide (TL.tl a=TL.tl b):=by rw[af9,ago,beq_iff_eq];exact⟨λh=>by rw[h],λh=>TL.ext_tl h⟩
theorem yO{d:Int}(h:0<=d/\d<=9):TL.tl (Str.ofString (toString d))=[48+d.toNat]:=by
 have c:d=0\/d=1\/d=2\/d=3\/d=4\/d=5\/d=6\/d=7\/d=8\/d=9:=by omega
 rcases c with rfl|rfl|rfl|rfl|rfl|rfl|rfl|rfl|rfl|rfl<;>decide +kernel
theorem o7:TL.tl (Str.ofString " ")=[32]:=by decide +kernel
theorem Jo:TL.tl (Str.ofString "none")=uO:=by decide +kernel
theorem split_words(z:Str):(Txt.split z (Str.ofString " ")).map TL.tl=TL.spl [32] 0 [] (TL.tl z):=by
 have h:=TL.split_spl z (Str.ofString " ") (by rw[o7];simp) (TL.kind_ok (by decide +kernel))
 rw[o7]at h;exact h
open PySem.StrLaws PySem.Builtin PySem.Builtin.Str in
theorem Gg{s sub:Str}{hi lim:Nat}:∀(l:List Nat) (st:Array Nat×Nat),¬st.fst.size<lim->(forIn l st (occBody s sub hi lim)).run.fst=st.fst
 |[],_,_=>rfl
 |a::l,st,h=>by
  rw[List.forIn_cons];unfold occBody;rw[agt λz=>h z.1.1.1];exact Gg l (st.fst,st.snd) h
open PySem.StrLaws PySem.Builtin PySem.Builtin.Str in
theorem yM{s sub:Str}{hi big:Nat}:∀(l:List Nat) (st:Array Nat×Nat),∃r,(forIn l st (occBody s sub hi big)).run.fst.toList=st.fst.toList++r
 |[],st=>⟨[],(af0 _).symm⟩
 |a::l,st=>by
  rw[List.forIn_cons];unfold occBody;split
  .obtain⟨r,h⟩:=yM (s:=s) (sub:=sub) (hi:=hi) (big:=big) l (st.fst.push a,a+sub.length);refine⟨a::r,?_⟩
   show(forIn l (st.fst.push a,a+sub.length) (occBody s sub hi big)).run.fst.toList=_
   rw[h,Array.toList_push,List.append_assoc];rfl
  .exact yM l (st.fst,st.snd)
open PySem.StrLaws PySem.Builtin PySem.Builtin.Str in
theorem wG{s sub:Str}{hi lim big:Nat}:∀(l:List Nat) (st:Array Nat×Nat),st.fst.size<=lim->st.fst.size+l.length<=big->(forIn l st (occBody s sub hi lim)).run.fst.toList=(forIn l st (occBody s sub hi big)).run.fst.toList.take lim
 |[],st,h,_=>(List.take_of_length_le (by rw[afQ];exact h)).symm
 |a::l,st,h,hb=>by
  rw[afA]at hb;by_cases hl:st.fst.size<lim
  .rw[List.forIn_cons,List.forIn_cons];unfold occBody;by_cases c:(st.snd<=a/\a+sub.length<=hi)/\subAt s sub a=true
   .rw[ags ⟨⟨⟨hl,c.1.1⟩,c.1.2⟩,c.2⟩,ags ⟨⟨⟨by omega,c.1.1⟩,c.1.2⟩,c.2⟩];exact wG l (st.fst.push a,a+sub.length) (by show(st.fst.push a).size<=lim;rw[Array.size_push];omega) (by show(st.fst.push a).size+_<=big;rw[Array.size_push];omega)
   .rw[agt λz=>c ⟨⟨z.1.1.2,z.1.2⟩,z.2⟩,agt λz=>c ⟨⟨z.1.1.2,z.1.2⟩,z.2⟩];exact wG l (st.fst,st.snd) h (by show st.fst.size+_<=big;omega)
  .rw[Gg _ _ hl];obtain⟨r,e⟩:=yM (s:=s) (sub:=sub) (hi:=hi) (big:=big) (a::l) st;rw[e,List.take_append_of_le_length (by rw[afQ];omega),List.take_of_length_le (by rw[afQ];exact h)]
open PySem.StrLaws PySem.Builtin PySem.Builtin.Str in
theorem Vs(x y:Str)(lim:Nat):occurrences x y 0 x.length lim=(occurrences x y 0 x.length (x.length+1)).take lim:=by rw[occ_eq,occ_eq];exact wG _ _ (afU _) (by simp)
theorem jP(w:List Nat)(ws:List (List Nat))(h:ws≠[]):TL.joinL [32] (w::ws)=w++32::TL.joinL [32] ws:=by
 cases ws with
 |nil=>exact absurd rfl h
 |cons v vs=>rfl
open PySem.StrLaws PySem.Builtin PySem.Builtin.Str in
theorem Bg(x:Str):∀(ws:List (List Nat)) (t:List Nat) (cuts:List Nat) (a f:Nat),(∀w∈ws,32∉w)->(TL.tl x).drop a=TL.joinL [32] (ws++[t])->a<=(TL.tl x).length->ChainG x " " x.length a cuts f->(∀k,f<=k->¬At x " " x.length k)->(partsFrom x (Str.length " ") a (cuts.take ws.length)).map TL.tl=ws++[t]
 |[],t,cuts,a,f,_,hd,_,_,_=>by
  show[TL.tl (strSub x a x.length)]=[t]
  rw[TL.tl_strSub_end,hd];rfl
 |w::ws,t,cuts,a,f,hw,hd,ha,hc,hn=>by
  have l1:Str.length " "=1:=by decide +kernel
  have hy:TL.tl " "≠[]:=by rw[o7];simp
  have hlen:=TL.len_tl x;rw[List.cons_append,jP w (ws++[t]) (by simp)]at hd;have hat:∀i,At x " " x.length i↔(TL.tl x)[i]?=some 32:=λi=>by
   rw[TL.at_iff hy,o7];unfold TL.pre;cases e:(TL.tl x).drop i with
   |nil=>
    have:(TL.tl x)[i]?=none:=by
     have:=congrArg List.head? e
     rwa [List.head?_drop]at this
    rw[this];decide
   |cons c r=>
    have:(TL.tl x)[i]?=some c:=by
     have:=congrArg List.head? e
     rwa [List.head?_drop]at this
    rw[this];simp
  have hit:∀j,(TL.tl x)[a+j]?=(w++32::TL.joinL [32] (ws++[t]))[j]?:=λj=>by rw[<-hd,List.getElem?_drop]
  have a1:At x " " x.length (a+w.length):=(hat _).mpr (by rw[hit];simp)
  have a0:∀k,a<=k->k<a+w.length->¬At x " " x.length k:=λk h1 h2 z=>by
   have e:=(hat k).mp z;rw[show k=a+(k-a) by omega,hit,afH (by omega)]at e;exact hw w afv (afK e)
  cases cuts with
  |nil=>
   have e:f=a:=hc;subst e;exact absurd a1 (hn _ (by omega))
  |cons c r=>
   obtain⟨h1,h2,h3,h4⟩:=hc;have ec:c=a+w.length:=by
    rcases Nat.lt_trichotomy c (a+w.length) with z|z|z
    .exact absurd h2 (a0 c h1 z)
    .exact z
    .exact absurd a1 (h3 _ (by omega) z)
   subst ec;have hb:=h2.1;rw[l1]at h4 hb;have d2:(TL.tl x).drop (a+w.length+1)=TL.joinL [32] (ws++[t]):=by rw[show a+w.length+1=a+(w.length+1) by omega,<-List.drop_drop,hd];simp
   have ih:=Bg x ws t r (a+w.length+1) f (λv hv=>hw v (afu _ hv)) d2 (by omega) h4 hn;rw[afA,List.take_succ_cons];show TL.tl (strSub x a (a+w.length))::(partsFrom x (Str.length " ") (a+w.length+Str.length " ") (r.take ws.length)).map TL.tl=_
   rw[l1]at ih |-
   rw[ih,TL.tl_strSub,hd,show a+w.length-a=w.length by omega];simp
open PySem.StrLaws PySem.Builtin PySem.Builtin.Str in
theorem Qa{x:Str}{ws:List (List Nat)}{t:List Nat}(hw:∀w∈ws,32∉w)(h:TL.tl x=TL.joinL [32] (ws++[t])):(Txt.splitMax x " " ((ws.length:Nat):Int)).map TL.tl=ws++[t]:=by
 have hy:TL.tl " "≠[]:=by rw[o7];simp
 obtain⟨f,hc,hn⟩:=occ_tight x " " (by decide +kernel)
 have key:=Bg x ws t _ 0 f hw (by rw[af7];exact h) (afU _) hc hn;have el:limitOf x ((ws.length:Nat):Int)=ws.length:=by unfold limitOf;rw[agt (by omega)];rfl
 have hk:¬strKind x<strKind " ":=TL.kind_ok (by decide +kernel)
 unfold Txt.splitMax;rw[el,Vs];have nilc:(occurrences x " " 0 x.length (x.length+1)).take ws.length=[]->[x].map TL.tl=ws++[t]:=λe=>by
  rw[e]at key;rw[<-key]
  show[TL.tl x]=[TL.tl (strSub x 0 x.length)]
  rw[TL.tl_strSub_end,af7]
 by_cases h1:(decide (x.length<Str.length " ") || decide (strKind x<strKind " "))=true
 .rw[ags h1];have hlt:x.length<Str.length " ":=by
   simp only[agc,ago]at h1;rcases h1 with h|h
   .exact h
   .exact absurd h hk
  refine nilc ?_;cases ho:occurrences x " " 0 x.length (x.length+1) with
  |nil=>exact List.take_nil
  |cons c r=>
   rw[ho]at hc;have:c+Str.length " "<=x.length:=hc.2.1.1
   omega
 .rw[agt h1];by_cases h2:((occurrences x " " 0 x.length (x.length+1)).take ws.length).isEmpty=true
  .rw[ags h2];exact nilc (List.isEmpty_iff.mp h2)
  .rw[agt h2,partsBetween_eq];exact key
abbrev cS(l:List Nat):Str:=⟨l.toArray⟩
theorem CV(x:Str):cS (TL.tl x)=x:=TL.mk_tl x
theorem yr(l:List Nat):TL.tl (cS l)=l:=rfl
theorem jW(l:List Nat):(cS l).length=l.length:=TL.len_tl _
theorem W7(a b:List Nat):cS a++cS b=cS (a++b):=TL.ext_tl (TL.tl_append _ _)
theorem NZ(a b:List Nat):(cS a==cS b)=decide (a=b):=P0 _ _
theorem aay:(" " : Str)=cS [32]:=by decide +kernel
def jg(i:Int):List Nat:=TL.tl (Str.ofString (toString i))
theorem Jk(i:Int):cS (jg i)=Str.ofString (toString i):=TL.mk_tl _
theorem v8(n:Nat):jg (n:Int)=(Nat.toDigits 10 n).map Char.toNat:=PySem.W.KIN.signs_num n
theorem Qg(i:Int):32∉jg i:=PyProof.Rows.int_text_free' 32 ⟨by decide,by decide⟩ i
theorem QX{i:Int}(h:0<=i):∀c∈jg i,48<=c/\c<=57:=by
 obtain⟨n,rfl⟩:=Int.eq_ofNat_of_zero_le h;intro c hc;by_cases q:48<=c/\c<=57
 .exact q
 .by_cases e:c=45
  .subst e;rw[v8]at hc;obtain⟨ch,hch,e⟩:=afG.mp hc;have d:=Nat.isDigit_of_mem_toDigits (b:=10) (n:=n) (by decide) (by decide) hch;simp only[Char.isDigit,afs,ago]at d;have d1:(48:UInt32).toNat<=ch.val.toNat:=d.1;have e2:ch.val.toNat=45:=e;have:(48:UInt32).toNat=48:=rfl;omega
  .exact absurd hc (PyProof.Rows.int_text_free' c ⟨e,by omega⟩ n)
theorem Gp{i:Int}(h:0<=i)(h2:i<=999999999):1<=(jg i).length/\(jg i).length<=9:=by
 obtain⟨n,rfl⟩:=Int.eq_ofNat_of_zero_le h;have e:=(Nat.length_repr_le_iff (n:=n) (k:=9) (by decide)).mpr (by omega);rw[<-String.length_toList,Nat.toList_repr]at e;rw[v8,afy];refine⟨?_,e⟩;cases hd:Nat.toDigits 10 n with
 |nil=>
  have:=PySem.W.KIN.val_back n;have l:=@Nat.length_toDigits_pos 10 n;rw[hd]at l;exact absurd l (by decide)
 |cons c r=>simp
theorem Ry{i:Int}(h:0<=i)(h2:i<=999999999):intText? (cS (jg i))=some i:=by rw[Jk];exact PySem.W.KIN.num_reads h (by omega)
theorem Mh{i:Int}(h:0<=i)(h2:i<=999999999){r:List Nat}(e:jg i=48::r):r=[]:=by
 obtain⟨n,rfl⟩:=Int.eq_ofNat_of_zero_le h;rw[v8]at e;by_cases hn:n<10
 .rw[Nat.toDigits_of_lt_base hn]at e;cases r with
  |nil=>rfl
  |cons a b=>simp at e
 .exfalso;have key:∀m:Nat,0<m->∃c r,Nat.toDigits 10 m=c::r/\c≠'0':=by
   intro m
   induction m using Nat.strongRecOn with
   |_ m ih=>
    intro hm;by_cases h:m<10
    .rw[Nat.toDigits_of_lt_base h];refine⟨_,[],rfl,?_⟩;have:∀d:Nat,d<10->0<d->Nat.digitChar d≠'0':=by decide
     exact this m h hm
    .have t:Nat.toDigits 10 (m/10)++Nat.toDigits 10 (m%10)=Nat.toDigits 10 (10*(m/10)+m%10):=Nat.toDigits_append_toDigits (by decide) (by omega) (Nat.mod_lt m (by decide));rw[Nat.div_add_mod]at t;obtain⟨c,r,e1,e2⟩:=ih (m/10) (by omega) (by omega);rw[<-t,e1];exact⟨c,_,rfl,e2⟩
  obtain⟨c,r',e1,e2⟩:=key n (by omega);rw[e1,aft]at e;have e3:c.toNat=48:=(List.cons.inj e).1;exact e2 (Char.ext (UInt32.toNat_inj.mp e3))
theorem yN{α β:Type}(f:α->Dat)(g:β->Dat):∀(xs:List α) (ys:List β),dD (xs.map f) (ys.map g)=(xs.zip ys).map λp=>PyData.tuple [f p.1,g p.2]
 |[],ys=>by cases ys<;>simp[dD]
 |_::_,[]=>by simp[dD]
 |x::xs,y::ys=>by
  have:=yN f g xs ys;unfold dD at this |-
  rw[aft,aft,List.zipWith_cons_cons,this,afP,aft]
theorem places_eq:([.str "lt",.str "lf",.str "lh",.str "rt",.str "rf",.str "rh"]:List Dat)=iV.map PyData.str:=by rfl
def fV(p:Str×Int):Str:=p.1++Str.ofString (toString p.2)
def cJ(l:List Int):List Str:=((iV.zip l).filter λp=>decide (0<p.2)).map fV
theorem WM(l:List Int):cX.zip l=(iV.zip l).map λp=>(TL.tl p.1,p.2):=by
 rw[<-Eb];have:∀(xs:List Str) (ys:List Int),(xs.map TL.tl).zip ys=(xs.zip ys).map λp=>(TL.tl p.1,p.2):=by
  intro xs
  induction xs with
  |nil=>intro ys;simp
  |cons x xs ih=>
   intro ys;cases ys with
   |nil=>rfl
   |cons y ys=>rw[aft,afP,ih,afP,aft]
 exact this iV l
theorem words_tl{l:List Int}(h:Ear.jX l):(cJ l).map TL.tl=wZ cX l:=by unfold cJ wZ;rw[WM,List.filter_map,afT,afT];refine List.map_congr_left λp hp=>?_;have hm:=(List.of_mem_zip (agb.mp hp).1).2;show TL.tl (p.1++Str.ofString (toString p.2))=TL.tl p.1++[48+p.2.toNat];rw[TL.tl_append,yO (h.2 _ hm)]
theorem pG{l:List Int}(h:Ear.jX l):(cJ l).length<=6/\((cJ l).map λy=>y.length).sum<=18:=by
 have h1:∀ws:List Str,(∀w∈ws,w.length=3)->(ws.map λy=>y.length).sum=3*ws.length:=by
  intro ws
  induction ws with
  |nil=>intro _;rfl
  |cons w ws ih=>
   intro h;rw[aft,List.sum_cons,ih λx hx=>h x (afu _ hx),h w afv,afA];omega
 have h2:∀w∈cJ l,w.length=3:=λw hw=>by
  have:TL.tl w∈wZ cX l:=by rw[<-words_tl h];exact List.mem_map_of_mem hw
  obtain⟨q,hq,e⟩:=afG.mp this;obtain⟨k,hk⟩:=uD _ (List.of_mem_zip (agb.mp hq).1).1;obtain⟨a,b,e2,_⟩:=tG hk;rw[TL.len_tl,<-e,e2];rfl
 have h3:(cJ l).length<=6:=by unfold cJ;rw[afy];refine Nat.le_trans (agf _ _) ?_;rw[List.length_zip];exact Nat.min_le_left _ _
 have:=h1 _ h2;omega
theorem yJ(ws:List Str):TL.tl (Txt.join " " ws)=TL.joinL [32] (ws.map TL.tl):=by rw[TL.join_eq,TL.tl_join,o7]
theorem vL(l:List Int)(h:Ear.jX l):(if (cJ l).isEmpty=true then("none" : Str) else Txt.join " " (cJ l))=cS (cR l):=by
 apply TL.ext_tl;rw[yr];unfold cR;rw[<-words_tl h];cases hw:cJ l with
 |nil=>exact Jo
 |cons w ws=>
  rw[agt (by simp),agt (by simp)];exact yJ _
theorem U7(ws:List Str):strsOf (ws.map PyData.str)=some ws:=by
 induction ws with
 |nil=>rfl
 |cons w ws ih=>simp[strsOf,ih]
theorem zL(ws:List Str)(h:(ws.map λy=>y.length).sum+ws.length<=16777216):j5 " " (.list (ws.map PyData.str))=.ok (.str (Txt.join " " ws)):=by
 have l1:Str.length " "=1:=by decide +kernel
 simp only[j5,U7,l1,Nat.mul_one];rw[decide_eq_true h];rfl
theorem ux{i:Int}(h:0<=i)(h2:i<=999999999):i.natAbs.log2<1920:=by
 by_cases h0:i.natAbs=0
 .rw[h0];decide
 .rw[Nat.log2_lt h0];exact Nat.lt_of_lt_of_le (show i.natAbs<2^30 by omega) (Nat.pow_le_pow_right (by decide) (by decide))
theorem Rm(M:Mo){l:List Int}(h:Ear.jX l):mZ M [gM l]=.ok (.str (cS (cR l))):=by
 have hp:∀p∈iV.zip l,TL.tl p.1∈cX/\(0<=p.2/\p.2<=9):=λp hp=>by
  have m:=List.of_mem_zip hp;refine⟨?_,h.2 _ m.2⟩;rw[<-Eb];exact List.mem_map_of_mem m.1
 have key:=oF (tg:=cC [2,3]) (tt:=aZ (aq yE (ak 3) (qC (.int 0)))) (te:=yU (ak 2) (ak 3)) (M:=M) (ρ:=[some (.dat (gM l)),none,none,none]) (λp:Str×Int=>PyData.tuple [.str p.1,.int p.2]) (λp=>decide (0<p.2)) (λp=>.str (fV p)) (iV.zip l) λp hm=>by
  obtain⟨q1,q2⟩:=hp p hm;have g1:=ux q2.1 (by omega);obtain⟨k,hk⟩:=uD _ q1;obtain⟨a,b,e,_⟩:=tG hk;have n1:p.1.length=2:=by rw[TL.len_tl,e];rfl
  have n2:(Str.ofString (toString p.2)).length=1:=by rw[TL.len_tl,yO q2];rfl
  have f1:uE (.str p.1)=.ok p.1:=by show Out.when (decide (p.1.length<=100000)) (.ok p.1)=_;rw[decide_eq_true (by omega)];rfl
  have f2:uE (.int p.2)=.ok (Str.ofString (toString p.2)):=by show Out.when (decide (p.2.natAbs.log2<1920)) (.ok (Str.ofString (toString p.2)))=_;rw[decide_eq_true g1];rfl
  have ew:fV p=p.1++Str.ofString (toString p.2):=rfl;exact⟨[some (.dat (gM l)),none,some (.dat (.str p.1)),some (.dat (.int p.2))],by simp,by simp,λ_=>by
   rw[ew];generalize Str.ofString (toString p.2)=z at *;unfold yU;simp[f1,f2,n1,n2]⟩
 have hz:dD [.str "lt",.str "lf",.str "lh",.str "rt",.str "rf",.str "rh"] (l.map PyData.int)=(iV.zip l).map λp=>PyData.tuple [.str p.1,.int p.2]:=by rw[places_eq,yN]
 have e:((iV.zip l).filter λp=>decide (0<p.2)).map (λp=>PyData.str (fV p))=(cJ l).map PyData.str:=by unfold cJ;rw[afT];rfl
 rw[e,<-hz]at key;have hs:=pG h;have hj:=zL (cJ l) (by omega);rw[<-vL l h];have h6:l.length=6:=h.1;have hlz:(dD [.str "lt",.str "lf",.str "lh",.str "rt",.str "rf",.str "rh"] (l.map PyData.int)).length<=50000:=by rw[hz,afy,List.length_zip];omega
 cases hw:cJ l with
 |nil=>
  rw[hw]at key;simp[mZ,uJ,bf,key,hlz,gq]
 |cons w ws=>
  rw[hw]at key hj;generalize hD:(w::ws).map PyData.str=D at key hj;have hne:D.isEmpty=false:=by rw[<-hD];rfl
  cases D with
  |nil=>cases hne
  |cons d D=>simp[mZ,uJ,bf,key,hlz,jU,hj]
theorem Ar{l:List Int}(h:Ear.jX l):iV.zip l=(List.range 6).map λk=>(iV.getD k "",l.getD k 0):=by obtain⟨a,b,c,d,e,f,rfl,_⟩:=Ear.six h;rfl
theorem Hw{x:Str}(h:∀c∈TL.tl x,c<1000):PyData.strOk x=true:=by unfold PyData.strOk;rw[<-Array.all_toList,afC];intro c hc;have:=h c hc;simp;omega
theorem VB(ws:List Str)(hs:∀w∈ws,PyData.strOk w=true):bV (.list (ws.map PyData.str)) (.list [])=.ok (.bool ws.isEmpty):=by
 have ho:fZ 11 (ws.map PyData.str)=true:=qR.mpr λd hd=>by
  obtain⟨w,hw,rfl⟩:=afG.mp hd;exact hs w hw
 have e:eqB (.list (ws.map PyData.str)) (.list [])=.ok ws.isEmpty:=by
  show Out.when (okd 12 (.list (ws.map PyData.str))&&okd 12 (.list [])) (.ok (PyData.eqv (.list (ws.map PyData.str)) (.list [])))=_;rw[okd,okd,ho,YM];cases ws with
  |nil=>rfl
  |cons a r=>rw[aft,Va];rfl
 unfold bV;rw[e];rfl
theorem HD(M:Mo){l:List Int}(h:Ear.jX l):jx M [gM l]=.ok (.str (cS (cR l))):=by
 have h6:l.length=6:=h.1;have hz:dD [.str "lt",.str "lf",.str "lh",.str "rt",.str "rf",.str "rh"] (l.map PyData.int)=(iV.zip l).map λp=>PyData.tuple [.str p.1,.int p.2]:=by rw[places_eq,yN]
 have key:=fX (tg:=cC [2,3]) (te:=aq aO (ak 2) (bW qX (ak 3))) (M:=M) (ρ:=[some (.dat (gM l)),none,none,none,none]) (λp:Str×Int=>PyData.tuple [.str p.1,.int p.2]) (λp=>.str (fV p)) (iV.zip l) λp hm=>by
  have m:=List.of_mem_zip hm;have q2:=h.2 _ m.2;have q1:TL.tl p.1∈cX:=by rw[<-Eb];exact List.mem_map_of_mem m.1
  have g1:=ux q2.1 (by omega);obtain⟨k,hk⟩:=uD _ q1;obtain⟨a,b,e,_⟩:=tG hk;have n1:p.1.length=2:=by rw[TL.len_tl,e];rfl
  have n2:(Str.ofString (toString p.2)).length=1:=by rw[TL.len_tl,yO q2];rfl
  have f2:qX (.int p.2)=.ok (.str (Str.ofString (toString p.2))):=by show Out.when (decide (p.2.natAbs.log2<1920)) (.ok (PyData.str (Str.ofString (toString p.2))))=_;rw[decide_eq_true g1];rfl
  have f3:aO (.str p.1) (.str (Str.ofString (toString p.2)))=.ok (.str (fV p)):=by show Out.when (decide (p.1.length+(Str.ofString (toString p.2)).length<=100000)) (.ok (PyData.str (fV p)))=_;rw[decide_eq_true (by omega)];rfl
  exact⟨[some (.dat (gM l)),none,some (.dat (.str p.1)),some (.dat (.int p.2)),none],by simp,by
   generalize Str.ofString (toString p.2)=z at *;generalize fV p=y at *;simp[f2,f3]⟩
 rw[<-hz]at key;have key2:=oF (tg:=aD 4) (tt:=aZ (aq yE (aq dM (ak 0) (ak 4)) (qC (.int 0)))) (te:=aq dM (ak 1) (ak 4)) (M:=M) (ρ:=[some (.dat (gM l)),some (.dat (.list ((iV.zip l).map λp=>PyData.str (fV p)))),none,none,none]) (λk:Nat=>PyData.int (k:Int)) (λk=>decide (0<l.getD k 0)) (λk=>.str (fV (iV.getD k "",l.getD k 0))) (List.range 6) λk hk=>by
  have hk:=List.mem_range.mp hk;have e1:l[k]?=some (l.getD k 0):=by rw[List.getD_eq_getElem?_getD,afx (by omega)];rfl
  have a1:=pQ l PyData.int k _ e1;have a2:atI ((iV.zip l).map λp=>PyData.str (fV p)) (k:Int)=some (.str (fV (iV.getD k "",l.getD k 0))):=by rw[Ar h,afT];exact pQ (List.range 6) ((λp=>PyData.str (fV p)) ∘ λk=>(iV.getD k "",l.getD k 0)) k k (List.getElem?_range hk)
  generalize fV (iV.getD k "",l.getD k 0)=y at *
  generalize l.getD k 0=z at *;generalize (iV.zip l).map (λp=>PyData.str (fV p))=D at *;exact⟨[some (.dat (gM l)),some (.dat (.list D)),none,none,some (.dat (.int (k:Int)))],by simp,by simp[a1],λ_=>by simp[a2]⟩
 have e2:((List.range 6).filter λk=>decide (0<l.getD k 0)).map (λk=>PyData.str (fV (iV.getD k "",l.getD k 0)))=(cJ l).map PyData.str:=by unfold cJ;rw[Ar h,List.filter_map,afT,afT];rfl
 rw[e2]at key2;have er:(List.range 6).map (λk:Nat=>PyData.int (k:Int))=iG 0 6:=by rfl
 rw[er]at key2;have hs:=pG h;have hj:=zL (cJ l) (by omega);have hn:=VB (cJ l) λw hw=>Hw λc hc=>by
  have:TL.tl w∈wZ cX l:=by rw[<-words_tl h];exact List.mem_map_of_mem hw
  obtain⟨q,hq,e⟩:=afG.mp this;have hm:=List.of_mem_zip (agb.mp hq).1;obtain⟨k,hk⟩:=uD _ hm.1;have hb:=h.2 _ hm.2;have:∀w∈cX,∀c∈w,c<1000:=by decide
  rw[<-e]at hc;rcases afV.mp hc with hc|hc
  .exact this _ hm.1 c hc
  .rw[afJ.mp hc];omega
 rw[<-vL l h];have hlz:(dD [.str "lt",.str "lf",.str "lh",.str "rt",.str "rf",.str "rh"] (l.map PyData.int)).length<=50000:=by rw[hz,afy,List.length_zip];omega
 have hr6:(iG 0 6).length<=50000:=by decide
 generalize (iV.zip l).map (λp=>PyData.str (fV p))=D0 at *;generalize hD:(cJ l).map PyData.str=D at *;cases hw:cJ l with
 |nil=>
  rw[hw]at hn;simp[jx,mU,key,hlz,key2,hr6,hn]
 |cons w ws=>
  rw[hw]at hn hj;simp[jx,mU,key,hlz,key2,hr6,hn,jU,hj]
def eU:Pt->Kn->List Nat
 |.n i,.n=>jg i
 |.n i,.p=>cX.getD i.toNat []
 |.e l,_=>cR l
 |_,_=>[]
theorem tO{l:List Int}(h:m9 l=true):Ear.jX l:=by unfold m9 at h;simp only[afs,ago,afC]at h;exact⟨h.1,λx hx=>by have:=h.2 x hx;simpa using this⟩
theorem JN{i:Int}(h:0<=i)(h2:i<=5):atI (iV.map PyData.str) i=some (.str (cS (cX.getD i.toNat []))):=by
 have q:i=0\/i=1\/i=2\/i=3\/i=4\/i=5:=by omega
 rcases q with rfl|rfl|rfl|rfl|rfl|rfl<;>rfl
theorem Ab{l:List Int}(h:Ear.jX l):(cR l).length<=24:=by
 rw[<-yr (cR l),<-vL l h];have hs:=pG h;have key:∀ws:List Str,(TL.joinL [32] (ws.map TL.tl)).length<=(ws.map λy=>y.length).sum+ws.length:=by
  intro ws
  induction ws with
  |nil=>exact afU _
  |cons w ws ih=>
   cases ws with
   |nil=>simp[TL.joinL,TL.len_tl]
   |cons v vs=>
    rw[aft,jP _ _ (by simp),afZ,afA];simp only[aft,List.sum_cons,afA]at ih |-
    have:=TL.len_tl w;omega
 cases hw:cJ l with
 |nil=>decide +kernel
 |cons w ws=>
  rw[agt (by simp),yJ];have:=key (w::ws);rw[hw]at hs;omega
theorem uZ{p:Pt}{k:Kn}(h:bQ p k=true):(eU p k).length<=24:=by
 cases p with
 |n i=>
  cases k with
  |n=>
   simp[bQ]at h;have:=Gp h.1 h.2
   show(jg i).length<=24
   omega
  |e=>cases h
  |p=>
   simp[bQ]at h;have q:i=0\/i=1\/i=2\/i=3\/i=4\/i=5:=by omega
   rcases q with rfl|rfl|rfl|rfl|rfl|rfl<;>decide
 |e l=>
  cases k with
  |e=>exact Ab (tO h)
  |n=>cases h
  |p=>cases h
 |s x=>cases k<;>cases h
theorem TX(x y:List Nat)(h:x.length+y.length<=100000):aO (.str (cS x)) (.str (cS y))=.ok (.str (cS (x++y))):=by show Out.when (decide ((cS x).length+(cS y).length<=100000)) (.ok (PyData.str (cS x++cS y)))=_;rw[jW,jW,decide_eq_true h,W7];rfl
theorem Iw{i:Int}(h:0<=i)(h2:i<=999999999):qX (.int i)=.ok (.str (cS (jg i))):=by rw[Jk];show Out.when (decide (i.natAbs.log2<1920)) (.ok (PyData.str (Str.ofString (toString i))))=_;rw[decide_eq_true (ux h h2)];rfl
theorem Qc(M:Mo)(w:Str)(ds:List Dat)(z:List Nat)(hz:z.length<=1000)(j:Int){p:Pt}{k:Kn}(h:bQ p k=true)(hc:(k.c=112)↔(w="tear"/\j=1)):jf M [some (.dat (.tuple (.str w::ds))),some (.dat (.str (cS z))),some (.dat (.int j)),some (.dat p.dat)]=.next [some (.dat (.tuple (.str w::ds))),some (.dat (.str (cS (z++32::eU p k)))),some (.dat (.int j)),some (.dat p.dat)] M:=by
 have hl:=uZ h;have a1:aO (.str (cS z)) (.str " ")=.ok (.str (cS (z++[32]))):=by rw[aay];exact TX _ _ (by simp;omega)
 have a2:aO (.str (cS (z++[32]))) (.str (cS (eU p k)))=.ok (.str (cS (z++32::eU p k))):=by rw[TX _ _ (by simp;omega),List.append_assoc];rfl
 have tt:∀l,cD .tuple (gM l)=.ok (.bool true):=λ_=>rfl;have ti:∀i,cD .tuple (.int i)=.ok (.bool false):=λ_=>rfl;cases p with
 |n i=>
  cases k with
  |n=>
   simp[bQ]at h;have hs:=Iw h.1 h.2;have a2:aO (.str (cS (z++[32]))) (.str (cS (jg i)))=.ok (.str (cS (z++32::jg i))):=a2;show _=ig.next [_,some (.dat (.str (cS (z++32::jg i)))),_,_] M;generalize jg i=t at *;generalize cS (z++32::t)=R at *;generalize cS t=T at *;have hn:¬(w="tear"/\j=1):=λy=>by have:=hc.mpr y;exact absurd this (by decide)
   by_cases hw:w="tear"
   .have hj:¬j=1:=λy=>hn ⟨hw,y⟩;simp[jf,Pt.dat,ti,hw,hj,a1,hs,a2]
   .simp[jf,Pt.dat,ti,hw,a1,hs,a2]
  |e=>cases h
  |p=>
   simp[bQ]at h;obtain⟨hw,hj⟩:=hc.mp rfl;have hp:=JN h.1 h.2;rw[<-places_eq]at hp;have a2:aO (.str (cS (z++[32]))) (.str (cS (cX.getD i.toNat [])))=.ok (.str (cS (z++32::cX.getD i.toNat []))):=a2;show _=ig.next [_,some (.dat (.str (cS (z++32::cX.getD i.toNat [])))),_,_] M;generalize cX.getD i.toNat []=t at *;generalize cS (z++32::t)=R at *;generalize cS t=T at *;simp[jf,Pt.dat,ti,hw,hj,a1,hp,a2]
 |e l=>
  cases k with
  |e=>
   have he:=HD M (tO h);have a2:aO (.str (cS (z++[32]))) (.str (cS (cR l)))=.ok (.str (cS (z++32::cR l))):=a2;show _=ig.next [_,some (.dat (.str (cS (z++32::cR l)))),_,_] M;generalize cR l=t at *;generalize cS (z++32::t)=R at *;generalize cS t=T at *;simp[jf,Pt.dat,tt,a1,he,a2]
  |n=>cases h
  |p=>cases h
 |s x=>cases k<;>cases h
theorem z7(M:Mo)(w:Str)(ds:List Dat):∀(xs:List (Pt×Kn)) (j:Nat) (z:List Nat) (x2 x3:Option Cell),z.length+30*xs.length<=1000->(∀x∈xs,bQ x.1 x.2=true)->(∀i x,xs[i]?=some x->(x.2.c=112↔(w="tear"/\((j+i:Nat):Int)=1)))->∃y2 y3,
  cM (cC [2,3]) jf (gU (j:Int) (xs.map λx=>x.1.dat)) M [some (.dat (.tuple (.str w::ds))),some (.dat (.str (cS z))),x2,x3]=.next [some (.dat (.tuple (.str w::ds))),some (.dat (.str (cS (xs.foldl (λz x=>z++32::eU x.1 x.2) z)))),y2,y3] M
 |[],j,z,x2,x3,_,_,_=>⟨x2,x3,by simp[gU,cM]⟩
 |x::xs,j,z,x2,x3,hl,hb,hc=>by
  rw[afA]at hl;have b:=hb x afv;have h1:=Qc M w ds z (by omega) (j:Int) b (by have:=hc 0 x rfl;simpa using this);have hl2:=uZ b;obtain⟨y2,y3,ih⟩:=z7 M w ds xs (j+1) (z++32::eU x.1 x.2) (some (.dat (.int j))) (some (.dat x.1.dat)) (by rw[afZ,afA];omega) (λy hy=>hb y (afu _ hy)) λi y hy=>by
   have:=hc (i+1) y hy
   rwa [show j+(i+1)=j+1+i by omega]at this
  refine⟨y2,y3,?_⟩;rw[aft,Ak,gQ (Z1:=[some (.dat (.tuple (.str w::ds))),some (.dat (.str (cS z))),some (.dat (.int j)),some (.dat x.1.dat)]) (by simp) h1,show((j:Int)+1)=((j+1:Nat):Int) by omega,ih];rfl
theorem sE:∀(ts:List (List Nat)) (w:List Nat),TL.joinL [32] (w::ts)=ts.foldl (λz t=>z++32::t) w
 |[],w=>rfl
 |t::ts,w=>by
  rw[List.foldl_cons,<-sE ts,jP w (t::ts) (by simp)];cases ts with
  |nil=>rfl
  |cons v vs=>rw[jP t (v::vs) (by simp),jP _ (v::vs) (by simp),List.append_assoc,List.cons_append]
structure Fd(w:Str)(ks:List Kn)(ps:List Pt):Prop where
 k:aR.lookup w=some ks
 l:ps.length=ks.length
 b:eX ps ks=true
def bK(w:Str)(ks:List Kn)(ps:List Pt):List Nat:=TL.joinL [32] (TL.tl w::(ps.zip ks).map λx=>eU x.1 x.2)
theorem Pb:(aR.all λp=>decide (p.2.length<=3)&&(decide (32∉TL.tl p.1)&&(decide ((TL.tl p.1).length<=10)&&(List.range 3).all λi=>match p.2[i]? with
  |some k=>(k.c==112)==(p.1=="tear"&&i==1)
  |none=>true)))=true:=by decide +kernel
theorem lookup_mem{α:Type}(w:Str)(a:α):∀l:List (Str×α),l.lookup w=some a->(w,a)∈l
 |[],h=>by cases h
 |p::l,h=>by
  rw[afF]at h;split at h
  .next e=>
   cases h;rw[agv e];exact afv
  .exact afu _ (lookup_mem w a l h)
theorem Fd.tab{w:Str}{ks:List Kn}{ps:List Pt}(f:Fd w ks ps):ks.length<=3/\32∉TL.tl w/\(TL.tl w).length<=10/\∀(i:Nat) (k:Kn),ks[i]?=some k->(k.c=112↔(w="tear"/\(i:Int)=1)):=by
 have h:=afC.mp Pb _ (lookup_mem w ks aR f.k);simp only[afs,ago]at h;obtain⟨h1,h2,h3,h4⟩:=h;refine⟨h1,h2,h3,λi k hk=>?_⟩;have hi:i<ks.length:=(afw.mp hk).1;have:=afC.mp h4 i (List.mem_range.mpr (by omega));simp only[hk]at this;have e:=agv this;constructor
 .intro z;rw[z]at e;have e:=e.symm;simp only[beq_self_eq_true,afs,beq_iff_eq]at e;exact⟨e.1,by omega⟩
 .intro z;rw[z.1,show i=1 by omega]at e;simpa using e
theorem Fd.bs{w:Str}{ks:List Kn}{ps:List Pt}(f:Fd w ks ps):∀x∈ps.zip ks,bQ x.1 x.2=true:=λx hx=>afC.mp f.b x hx
theorem uX{α β:Type}:∀(ps:List α) (ks:List β),ps.length=ks.length->(ps.zip ks).map (·.1)=ps
 |[],_,_=>rfl
 |_::_,[],h=>by cases h
 |p::ps,k::ks,h=>by rw[afP,aft,uX ps ks (by simpa using h)]
theorem Ir(M:Mo){w:Str}{ks:List Kn}{ps:List Pt}(f:Fd w ks ps):ni M [.tuple (.str w::ps.map Pt.dat)]=.ok (.str (cS (bK w ks ps))):=by
 obtain⟨t1,t2,t3,t4⟩:=f.tab;have hl:=f.l;obtain⟨y2,y3,lp⟩:=z7 M w (ps.map Pt.dat) (ps.zip ks) 0 (TL.tl w) none none (by rw[List.length_zip];omega) f.bs λi x hx=>by
  have:=List.getElem?_zip_eq_some.mp hx;have:=t4 i x.2 this.2
  rwa [Nat.zero_add]
 have e1:(ps.zip ks).map (λx=>x.1.dat)=ps.map Pt.dat:=by
  have:=congrArg (List.map Pt.dat) (uX ps ks hl)
  rwa [afT]at this
 rw[e1,CV]at lp;have e2:(ps.zip ks).foldl (λz x=>z++32::eU x.1 x.2) (TL.tl w)=bK w ks ps:=by unfold bK;rw[sE,List.foldl_map]
 rw[e2]at lp;have hs:Rf.cutD (PyData.str w::ps.map Pt.dat) (some 1) none=ps.map Pt.dat:=gY _ 1;have lp:cM (cC [2,3]) jf (gU 0 (ps.map Pt.dat)) M [some (.dat (.tuple (.str w::ps.map Pt.dat))),some (.dat (.str w)),none,none]=.next [some (.dat (.tuple (.str w::ps.map Pt.dat))),some (.dat (.str (cS (bK w ks ps)))),y2,y3] M:=lp;generalize cS (bK w ks ps)=R at *;simp[ni,Gq,hs,lp]
theorem abm(M:Mo){p:Pt}{k:Kn}(h:bQ p k=true):cO M [.str k.S,p.dat]=.ok (.str (cS (eU p k))):=by
 cases p with
 |n i=>
  cases k with
  |n=>
   simp[bQ]at h;have hs:=Iw h.1 h.2;simp[cO,gJ,Kn.S,Pt.dat,eU,hs]
  |e=>cases h
  |p=>
   simp[bQ]at h;have hp:=JN h.1 h.2;rw[<-places_eq]at hp;have e:eU (.n i) .p=cX.getD i.toNat []:=rfl;rw[e];generalize cS (cX.getD i.toNat [])=T at *;simp[cO,gJ,Kn.S,Pt.dat,bf,hp]
 |e l=>
  cases k with
  |e=>
   have hs:=Rm M (tO h);simp[cO,gJ,Kn.S,Pt.dat,eU,hs]
  |n=>cases h
  |p=>cases h
 |s x=>cases k<;>cases h
theorem UW{p:Pt}{k:Kn}(h:bQ p k=true):p.fine:=by
 cases p with
 |n i=>trivial
 |e l=>
  cases k with
  |e=>
   have:=(tO h).1;show l.length<=1000;omega
  |n=>cases h
  |p=>cases h
 |s x=>cases k<;>cases h
theorem Fd.fine{w:Str}{ks:List Kn}{ps:List Pt}(f:Fd w ks ps):mV (.s w::ps):=by
 obtain⟨t1,_⟩:=f.tab;have hl:=f.l;refine⟨by rw[afA];omega,λp hp=>?_⟩;rcases afD.mp hp with rfl|hp
 .exact(jN _ (lookup_mem w ks aR f.k)).2.1
 .rw[<-uX ps ks hl]at hp;obtain⟨x,hx,rfl⟩:=afG.mp hp;exact UW (f.bs x hx)
theorem Fd.fit{w:Str}{ks:List Kn}{ps:List Pt}(f:Fd w ks ps):cU (.s w::ps)=true:=by
 show(match aR.lookup w with
  |some ks=>decide (ps.length=ks.length)&&eX ps ks
  |none=>false)=true
 rw[f.k]
 show(decide (ps.length=ks.length)&&eX ps ks)=true
 rw[f.b,decide_eq_true f.l];rfl
theorem Ul:∀{ps:List Pt},cU ps=true->∃w ks qs,ps=.s w::qs/\Fd w ks qs
 |[],h=>by cases h
 |.n _::_,h=>by cases h
 |.e _::_,h=>by cases h
 |.s w::qs,h=>by
  have h:(match aR.lookup w with
   |some ks=>decide (qs.length=ks.length)&&eX qs ks
   |none=>false)=true:=h
  cases hk:aR.lookup w with
  |none=>rw[hk]at h;cases h
  |some ks=>
   rw[hk]at h;have h:(decide (qs.length=ks.length)&&eX qs ks)=true:=h;rw[afs,ago]at h;exact⟨w,ks,qs,rfl,hk,h.1,h.2⟩
def bT(ks:List Kn)(ps:List Pt):List Str:=(ps.zip ks).map λx=>cS (eU x.1 x.2)
theorem N8(w:Str)(ks:List Kn)(ps:List Pt):Txt.join " " (w::bT ks ps)=cS (bK w ks ps):=by apply TL.ext_tl;rw[yJ];show TL.joinL [32] (TL.tl w::(bT ks ps).map TL.tl)=bK w ks ps;unfold bT bK;rw[afT];rfl
theorem Bv{w:Str}{ks:List Kn}{ps:List Pt}(f:Fd w ks ps):(bT ks ps).length=ks.length/\((bT ks ps).map λy=>y.length).sum<=24*ks.length:=by
 have hl:=f.l;have key:∀xs:List (Pt×Kn),(∀x∈xs,bQ x.1 x.2=true)->((xs.map λx=>cS (eU x.1 x.2)).map λy=>y.length).sum<=24*xs.length:=by
  intro xs
  induction xs with
  |nil=>intro _;exact afU _
  |cons x xs ih=>
   intro h;have h1:=ih λy hy=>h y (afu _ hy);have h2:=uZ (h x afv);have h3:=jW (eU x.1 x.2);simp only[aft,List.sum_cons,afA]at h1 |-
   omega
 have h1:=key _ f.bs;have h2:(ps.zip ks).length=ks.length:=by rw[List.length_zip];omega
 unfold bT;rw[afy];exact⟨h2,by omega⟩
theorem qM(M:Mo){w:Str}{ks:List Kn}{ps:List Pt}(f:Fd w ks ps):dW M [.tuple (.str w::ps.map Pt.dat)]=.ok (.str (cS (bK w ks ps))):=by
 obtain⟨t1,t2,t3,t4⟩:=f.tab;have hf:=Gx M (.s w::ps) f.fine.1 f.fine.2;rw[f.fit]at hf;have hf:je M [.tuple (.str w::ps.map Pt.dat)]=.ok (.bool true):=hf;have h0:=sY w;rw[f.k]at h0;have h0:(fJ cY).lookup w=some (.tuple (ks.map λk=>.str k.S)):=h0;have hs:Rf.cutD (PyData.str w::ps.map Pt.dat) (some 1) none=ps.map Pt.dat:=gY _ 1;have key:=fX (tg:=cC [2,3]) (te:=aN cO (ao (aK 2) (ao (aK 3) aG))) (M:=M) (ρ:=[some (.dat (.tuple (.str w::ps.map Pt.dat))),some (.dat (.str w)),none,none]) (λ(x:Pt×Kn)=>PyData.tuple [.str x.2.S,x.1.dat]) (λx=>.str (cS (eU x.1 x.2))) (ps.zip ks) λx hx=>⟨[some (.dat (.tuple (.str w::ps.map Pt.dat))),some (.dat (.str w)),some (.dat (.str x.2.S)),some (.dat x.1.dat)],by simp,by
  have:=abm M (f.bs x hx);simp[this]⟩
 have e1:(ps.zip ks).map (λx=>PyData.str (cS (eU x.1 x.2)))=(bT ks ps).map PyData.str:=by unfold bT;rw[afT];rfl
 rw[e1,<-zip_parts]at key;obtain⟨s1,s2⟩:=Bv f;have hj:=zL (w::bT ks ps) (by
  have:=TL.len_tl w;simp only[aft,List.sum_cons,afA]
  omega)
 rw[N8]at hj;have hl:=f.l;have hz:(dD (ks.map λk=>PyData.str k.S) (ps.map Pt.dat)).length<=50000:=by rw[zip_parts,afy,List.length_zip];omega
 have ha:aO (.list [.str w]) (.list ((bT ks ps).map PyData.str))=.ok (.list ((w::bT ks ps).map PyData.str)):=by show Out.when (decide ([PyData.str w].length+((bT ks ps).map PyData.str).length<=100000)) (.ok (PyData.list ([.str w]++(bT ks ps).map PyData.str)))=_;rw[decide_eq_true (by rw[afy];simp;omega)];rfl
 generalize (bT ks ps).map PyData.str=D at *;generalize (w::bT ks ps).map PyData.str=D2 at *;generalize cS (bK w ks ps)=R at *;simp[-U3,dW,oG,hf,h0,hs,key,hz,ha,jU,hj]
theorem K9(M:Mo){ps:List Pt}(hf:mV ps)(h:cU ps=false):dW M [.tuple (ps.map Pt.dat)]=.exc ⟨"BadDeed",[]⟩:=by have h1:=Gx M ps hf.1 hf.2;rw[h]at h1;simp[dW,oG,h1]
theorem jT(M:Mo){ps:List Pt}(hf:mV ps):bJ M [.tuple (ps.map Pt.dat)]=.ok (.bool (!cU ps)):=by
 cases h:cU ps with
 |false=>
  have h1:=K9 M hf h;simp[bJ,oM,h1,qG]
 |true=>
  obtain⟨w,ks,qs,rfl,f⟩:=Ul h;have h1:=qM M f;have e:(Pt.s w::qs).map Pt.dat=.str w::qs.map Pt.dat:=rfl;rw[e];simp[bJ,oM,h1]
theorem HW(M:Mo){w:Str}{k:Nat}{d:Int}(h:yF (TL.tl w)=some (k,d)):mH M [.str w]=.ok (.tuple [.int (k:Int),.int d]):=by
 obtain⟨a,b,c,e,hc,hp,rfl,hk⟩:=Gm h;have hw:w=cS [a,b,c]:=by rw[<-e,CV]
 have h1:=(Bl hp).1;subst hw;have q:c=49\/c=50\/c=51\/c=52\/c=53\/c=54\/c=55\/c=56\/c=57:=by omega
 have p:k=0\/k=1\/k=2\/k=3\/k=4\/k=5:=by omega
 clear h e hc hp hk;rcases p with rfl|rfl|rfl|rfl|rfl|rfl<;>cases h1<;>rcases q with rfl|rfl|rfl|rfl|rfl|rfl|rfl|rfl|rfl<;>kernel_rfl
theorem Bo(M:Mo)(x0:Option Cell):∀(ws:List Str) (dep res:List Int) (last:Int) (x3 x4 x5:Option Cell),mJ (ws.map TL.tl) dep last=some res->dep.length=6->∃y2 y3 y4 y5,
  cM (aD 3) nJ (ws.map PyData.str) M [x0,some (.mut (dep.map PyData.int)),some (.dat (.int last)),x3,x4,x5]=.next [x0,some (.mut (res.map PyData.int)),y2,y3,y4,y5] M
 |[],dep,res,last,x3,x4,x5,h,_=>by
  cases h;exact⟨_,x3,x4,x5,rfl⟩
 |w::ws,dep,res,last,x3,x4,x5,h,hl=>by
  rw[aft,mJ]at h;cases hc:yF (TL.tl w) with
  |none=>rw[hc]at h;cases h
  |some kd=>
   obtain⟨k,d⟩:=kd;rw[hc]at h;have h:(if (k:Int)<=last then none else mJ (ws.map TL.tl) (dep.set k d) (k:Int))=some res:=h;by_cases q:(k:Int)<=last
   .rw[ags q]at h;cases h
   .rw[agt q]at h;obtain⟨a,b,c,_,_,_,_,k6⟩:=Gm hc;have h1:=HW M hc;obtain⟨y2,y3,y4,y5,ih⟩:=Bo M x0 ws (dep.set k d) res (k:Int) (some (.dat (.str w))) (some (.dat (.int k))) (some (.dat (.int d))) h (by rw[afM];exact hl);refine⟨y2,y3,y4,y5,?_⟩;have hx:ixN 6 (k:Int)=some k:=by
     have p:k=0\/k=1\/k=2\/k=3\/k=4\/k=5:=by omega
     rcases p with rfl|rfl|rfl|rfl|rfl|rfl<;>rfl
    have hm:(dep.set k d).map PyData.int=(dep.map PyData.int).set k (.int d):=List.map_set;rw[hm]at ih;have hlD:(dep.map PyData.int).length=6:=by rw[afy];exact hl
    generalize dep.map PyData.int=D at *;rw[aft,gQ (Z1:=[x0,some (.mut D),some (.dat (.int last)),some (.dat (.str w)),x4,x5]) (by simp) (Z2:=[x0,some (.mut (D.set k (.int d))),some (.dat (.int (k:Int))),some (.dat (.str w)),some (.dat (.int k)),some (.dat (.int d))]) (M2:=M) (by simp[nJ,h1,q,hlD,hx])];exact ih
theorem Vi:jB=gM rO:=by rfl
theorem VR(t:List Nat):bV (.str (cS t)) gq=.ok (.bool (decide (t=uO))):=by
 show Out.ok (PyData.bool (cS t==("none" : Str)))=_
 rw[P0,Jo]
theorem Sv(t:List Nat)(h:t.length<=1000):rR (cS t) (.str " ")=.ok (.list ((Txt.split (cS t) " ").map PyData.str)):=by
 have l1:Str.length " "=1:=by decide +kernel
 show Out.when (!(Str.length " "==0)&&decide ((cS t).length+2<=100000)) _=_
 rw[l1,jW,decide_eq_true (by omega)];rfl
theorem HX(M:Mo){l:List Int}(h:Ear.jX l):ju M [.str (cS (cR l))]=.ok (gM l):=by
 have hr:=Np h;unfold CN at hr;have hq:=VR (cR l);have hlen:=Ab h;by_cases e:cR l=uO
 .rw[ags e]at hr;cases hr;rw[decide_eq_true e]at hq;have hb:=Vi;generalize cS (cR rO)=T at *;simp[ju,mF,hq,hb]
 .rw[agt e]at hr;rw[decide_eq_false e]at hq;have hs:=Sv (cR l) (by omega);have hw:=split_words (cS (cR l));rw[yr]at hw;rw[<-hw]at hr;obtain⟨y2,y3,y4,y5,lp⟩:=Bo M (some (.dat (.str (cS (cR l))))) (Txt.split (cS (cR l)) " ") rO l (-1) none none none hr rfl
  have hb:vg jB=.ok (rO.map PyData.int):=by rfl
  generalize (Txt.split (cS (cR l)) " ").map PyData.str=D at *
  generalize rO.map PyData.int=Z at *;generalize cS (cR l)=T at *;simp[ju,mF,hq,hb,jU,hs,lp]
theorem aav(c:Nat):decide (c∈(Str.ofString "0123456789").cps.toList)=decide (48<=c/\c<=57):=by
 rw[show(Str.ofString "0123456789").cps.toList=[48,49,50,51,52,53,54,55,56,57] by decide +kernel,decide_eq_decide]
 simp only[afD,afS,or_false];omega
theorem zu(M:Mo){i:Int}(h:0<=i)(h2:i<=999999999):fK M [.str (cS (jg i))]=.ok (.int i):=by
 have hd:=QX h;have hn:=Gp h h2;have hi:=Ry h h2;have hz:=@Mh i h h2;generalize jg i=t at *;have key:=fX (tg:=aD 1) (te:=aq (inD true) (ak 1) (qC fQ)) (M:=M) (ρ:=[some (.dat (.str (cS t))),none]) (λc:Nat=>PyData.str ⟨#[c]⟩) (λ_=>.bool false) t λc hc=>⟨[some (.dat (.str (cS t))),some (.dat (.str ⟨#[c]⟩))],by simp,by
  have e:inD true (.str ⟨#[c]⟩) fQ=.ok (.bool false):=by
   show Out.ok (PyData.bool (true ^^ decide (c∈(Str.ofString "0123456789").cps.toList)))=_
   rw[aav,decide_eq_true (hd c hc)];rfl
  simp[e]⟩
 have hch:iW (cS t)=t.map λc=>PyData.str ⟨#[c]⟩:=rfl;rw[<-hch]at key;have ha:FT (.list (t.map λ_=>PyData.bool false))=.ok (.bool false):=by
  have e:(t.map λ_=>PyData.bool false)=(t.map λ_=>false).map PyData.bool:=by rw[afT];rfl
  rw[e]
  show(match jk _ with
   |some bs=>Out.ok (PyData.bool (bs.any id))
   |none=>.bad)=_
  rw[oO];simp
 have hl:dh (.str (cS t))=.ok (.int (t.length:Int)):=by show Out.when (decide ((cS t).length<=100000)) (.ok (PyData.int ((cS t).length:Int)))=_;rw[jW,decide_eq_true (by omega)];rfl
 have hint:Rf.intD (.str (cS t))=.ok (.int i):=by
  show Out.when (decide ((cS t).length<=640)) (match PySem.intText? (cS t) with
   |some n=>Out.ok (PyData.int n)
   |none=>.bad)=_
  rw[hi,jW,decide_eq_true (by omega)];rfl
 have hcl:(iW (cS t)).length<=50000:=by rw[hch,afy];omega
 have h1:(1:Int)<=t.length:=by omega
 have h9:(t.length:Int)<=9:=by omega
 cases t with
 |nil=>simp at hn
 |cons c r=>
  have hx:dM (.str (cS (c::r))) (.int 0)=.ok (.str ⟨#[c]⟩):=by
   show Out.when (decide ((cS (c::r)).length<=100000)) (match atI (c::r) 0 with
    |some c=>Out.ok (PyData.str ⟨#[c]⟩)
    |none=>.bad)=_
   have h0:atI (c::r) (0:Int)=some c:=by simp[atI,ixN]
   rw[jW,decide_eq_true (by omega),h0];rfl
  have hit:cZ (.str (cS (c::r)))=.ok (iW (cS (c::r))):=rfl;have e0:bV (.str ⟨#[c]⟩) (.str "0")=.ok (.bool (decide (c=48))):=by show Out.ok (PyData.bool (cS [c]==cS [48]))=_;rw[NZ];simp
  have e1:pZ (.str (cS (c::r))) (.str "0")=.ok (.bool (!decide (c::r=[48]))):=by show Out.ok (PyData.bool (!(cS (c::r)==cS [48])))=_;rw[NZ]
  have e2:c=48->(!decide (c::r=[48]))=false:=λq=>by
   subst q;rw[hz rfl];rfl
  generalize iW (cS (c::r))=CH at *;generalize (c::r).map (λ_=>PyData.bool false)=FL at *;generalize (!decide (c::r=[48]))=B at *;generalize cS (c::r)=T at *;generalize (⟨#[c]⟩:Str)=S0 at *;generalize ((c::r).length:Int)=LN at *;by_cases q:c=48
  .have e2:=e2 q;subst e2;simp[fK,jJ,hl,gA,h1,h9,hit,key,hcl,ha,hx,e0,q,e1,hint]
  .simp[fK,jJ,hl,gA,h1,h9,hit,key,hcl,ha,hx,e0,q,hint]
theorem BR(M:Mo){i:Int}(h:0<=i)(h2:i<=5):jY M [.str (cS (cX.getD i.toNat []))]=.ok (.int i):=by
 have q:i=0\/i=1\/i=2\/i=3\/i=4\/i=5:=by omega
 rcases q with rfl|rfl|rfl|rfl|rfl|rfl<;>kernel_rfl
theorem GD(M:Mo){p:Pt}{k:Kn}(h:bQ p k=true):fj M [.str k.S,.str (cS (eU p k))]=.ok p.dat:=by
 cases p with
 |n i=>
  cases k with
  |n=>
   simp[bQ]at h;have hs:=zu M h.1 h.2;simp[fj,jE,Kn.S,Pt.dat,eU,hs]
  |e=>cases h
  |p=>
   simp[bQ]at h;have hp:=BR M h.1 h.2;have e:eU (.n i) .p=cX.getD i.toNat []:=rfl;rw[e];generalize cS (cX.getD i.toNat [])=T at *;simp[fj,jE,Kn.S,Pt.dat,hp]
 |e l=>
  cases k with
  |e=>
   have hs:=HX M (tO h);have h2:fP M [.str (cS (cR l))]=.ok (gM l):=by simp[fP,jV,hs]
   simp[fj,jE,Kn.S,Pt.dat,eU,h2]
  |n=>cases h
  |p=>cases h
 |s x=>cases k<;>cases h
theorem Kc:(aR.all λp=>(List.range 3).all λi=>match p.2[i]? with
  |some k=>!(k.c==101) || i+1==p.2.length
  |none=>true)=true:=by decide +kernel
theorem PN{p:Pt}{k:Kn}(h:bQ p k=true)(hk:k.c≠101):32∉eU p k:=by
 cases p with
 |n i=>
  cases k with
  |n=>exact Qg i
  |e=>cases h
  |p=>
   simp[bQ]at h;have q:i=0\/i=1\/i=2\/i=3\/i=4\/i=5:=by omega
   rcases q with rfl|rfl|rfl|rfl|rfl|rfl<;>decide
 |e l=>
  cases k with
  |e=>exact absurd rfl hk
  |n=>cases h
  |p=>cases h
 |s x=>cases k<;>cases h
theorem Fd.free{w:Str}{ks:List Kn}{ps:List Pt}(f:Fd w ks ps):∀i x,(ps.zip ks)[i]?=some x->i+1<ks.length->32∉eU x.1 x.2:=λi x hx hi=>by
 obtain⟨t1,_⟩:=f.tab;have hk:=(List.getElem?_zip_eq_some.mp hx).2;have h:=afC.mp (afC.mp Kc _ (lookup_mem w ks aR f.k)) i (List.mem_range.mpr (by omega));simp only[hk,agc,afB,beq_iff_eq]at h;refine PN (f.bs x (afK hx)) λz=>?_;rcases h with h|h
 .rw[z]at h;cases h
 .omega
theorem Lf{w:Str}{ks:List Kn}{ps:List Pt}(f:Fd w ks ps):Txt.splitMax (cS (bK w ks ps)) " " ((ks.length:Nat):Int)=w::bT ks ps:=by
 obtain⟨t1,t2,t3,t4⟩:=f.tab;have hl:=f.l;have hlen:(ps.zip ks).length=ks.length:=by rw[List.length_zip];omega
 apply TL.map_tl_inj;have e:(w::bT ks ps).map TL.tl=TL.tl w::(ps.zip ks).map λx=>eU x.1 x.2:=by unfold bT;rw[aft,afT];rfl
 rw[e];have hne:(TL.tl w::(ps.zip ks).map λx=>eU x.1 x.2)≠[]:=by simp
 have hW:=List.dropLast_concat_getLast hne;generalize hG:(TL.tl w::(ps.zip ks).map λx=>eU x.1 x.2)=W at *;have hWl:W.length=ks.length+1:=by rw[<-hG,afA,afy,hlen]
 have hfree:∀v∈W.dropLast,32∉v:=λv hv=>by
  obtain⟨i,hi,e⟩:=List.getElem_of_mem hv;rw[List.length_dropLast]at hi;rw[List.getElem_dropLast]at e;have e2:W[i]?=some v:=by rw[afx (by omega),e]
  rw[<-hG]at e2;cases i with
  |zero=>
   cases e2;exact t2
  |succ i=>
   rw[List.getElem?_cons_succ,afI,af5]at e2;obtain⟨x,hx,rfl⟩:=e2;exact f.free i x hx (by omega)
 have key:=Qa (x:=cS (bK w ks ps)) (ws:=W.dropLast) (t:=W.getLast hne) hfree (by
  rw[hW,yr];unfold bK;rw[hG])
 rw[List.length_dropLast,hWl,hW]at key;exact key
theorem Mu{w:Str}{ks:List Kn}{ps:List Pt}(f:Fd w ks ps):(Txt.partition (cS (bK w ks ps)) " ").1=w:=by
 obtain⟨t1,t2,t3,t4⟩:=f.tab;rw[TL.partition_par _ _ (by rw[o7];simp),o7,yr];unfold bK;cases hz:(ps.zip ks).map λx=>eU x.1 x.2 with
 |nil=>
  show(match TL.par [32] [] (TL.tl w) with
   |some (a,b)=>((⟨a.toArray⟩:Str),(" " : Str),(⟨b.toArray⟩:Str))
   |none=>(cS (TL.joinL [32] [TL.tl w]),Str.empty,Str.empty)).1=w
  rw[TL.par_none1 t2];exact CV w
 |cons t ts=>
  rw[jP _ _ (by simp)];have e:TL.par [32] [] (TL.tl w++32::TL.joinL [32] (t::ts))=some ([]++TL.tl w,TL.joinL [32] (t::ts)):=TL.par_part1 (S:=[]) t2;rw[e];exact CV w
theorem Ea{α:Type}(f g:α->Dat):∀l:List α,dD (l.map f) (l.map g)=l.map λx=>PyData.tuple [f x,g x]
 |[]=>rfl
 |x::l=>by
  have:=Ea f g l;unfold dD at this |-
  rw[aft,aft,List.zipWith_cons_cons,this,aft]
theorem Ig{α β:Type}:∀(ps:List α) (ks:List β),ps.length=ks.length->(ps.zip ks).map (·.2)=ks
 |[],[],_=>rfl
 |[],_::_,h=>by cases h
 |_::_,[],h=>by cases h
 |p::ps,k::ks,h=>by rw[afP,aft,Ig ps ks (by simpa using h)]
theorem M8{w:Str}{ks:List Kn}{ps:List Pt}(f:Fd w ks ps):(bK w ks ps).length<=200:=by
 obtain⟨t1,t2,t3,t4⟩:=f.tab;have hl:=f.l;have key:∀(xs:List (Pt×Kn)) (z:List Nat),(∀x∈xs,bQ x.1 x.2=true)->(xs.foldl (λz x=>z++32::eU x.1 x.2) z).length<=z.length+25*xs.length:=by
  intro xs
  induction xs with
  |nil=>intro z _;exact afN _
  |cons x xs ih=>
   intro z h;have h1:=ih (z++32::eU x.1 x.2) λy hy=>h y (afu _ hy);have h2:=uZ (h x afv);rw[afZ,afA]at h1;rw[List.foldl_cons,afA];omega
 have:=key (ps.zip ks) (TL.tl w) f.bs;unfold bK;rw[sE,List.foldl_map];rw[List.length_zip]at this;omega
theorem Es(M:Mo){w:Str}{ks:List Kn}{ps:List Pt}(f:Fd w ks ps):jD M [.str (cS (bK w ks ps))]=.ok (.tuple (.str w::ps.map Pt.dat)):=by
 obtain⟨t1,t2,t3,t4⟩:=f.tab;have hl:=f.l;have l1:Str.length " "=1:=by decide +kernel
 have hlen:=M8 f;have h1:yD (cS (bK w ks ps)) (.str " ")=.ok (.tuple [.str w,.str (Txt.partition (cS (bK w ks ps)) " ").2.1,.str (Txt.partition (cS (bK w ks ps)) " ").2.2]):=by
  show Out.when (!(Str.length " "==0)&&decide ((cS (bK w ks ps)).length<=100000)) (.ok (PyData.tuple [.str (Txt.partition (cS (bK w ks ps)) " ").1,_,_]))=_
  rw[l1,jW,decide_eq_true (by omega),Mu f];rfl
 have h2:pY (cS (bK w ks ps)) (.str " ") (.int (ks.length:Int))=.ok (.list ((w::bT ks ps).map PyData.str)):=by
  show Out.when (!(Str.length " "==0)&&(decide (-100000<=(ks.length:Int))&&(decide ((ks.length:Int)<=100000)&&decide ((cS (bK w ks ps)).length+2<=100000)))) (.ok (PyData.list ((Txt.splitMax (cS (bK w ks ps)) " " (ks.length:Int)).map .str)))=_
  rw[l1,jW,decide_eq_true (show -100000<=(ks.length:Int) by omega),decide_eq_true (show(ks.length:Int)<=100000 by omega),decide_eq_true (show(bK w ks ps).length+2<=100000 by omega),Lf f];rfl
 have h0:=sY w;rw[f.k]at h0;have h0:(fJ cY).lookup w=some (.tuple (ks.map λk=>.str k.S)):=h0;obtain⟨s1,s2⟩:=Bv f;have key:=fX (tg:=cC [5,6]) (te:=aN fj (ao (aK 5) (ao (aK 6) aG))) (M:=M) (ρ:=[some (.dat (.str (cS (bK w ks ps)))),some (.dat (.str w)),some (.dat (.tuple (ks.map λk=>.str k.S))),some (.dat (.str w)),some (.dat (.list ((bT ks ps).map PyData.str))),none,none]) (λx:Pt×Kn=>PyData.tuple [.str x.2.S,.str (cS (eU x.1 x.2))]) (λx=>x.1.dat) (ps.zip ks) λx hx=>⟨[some (.dat (.str (cS (bK w ks ps)))),some (.dat (.str w)),some (.dat (.tuple (ks.map λk=>.str k.S))),some (.dat (.str w)),some (.dat (.list ((bT ks ps).map PyData.str))),some (.dat (.str x.2.S)),some (.dat (.str (cS (eU x.1 x.2))))],by simp,by
  have:=GD M (f.bs x hx);simp[this]⟩
 have e1:(ps.zip ks).map (λx=>x.1.dat)=ps.map Pt.dat:=by
  have:=congrArg (List.map Pt.dat) (uX ps ks hl)
  rwa [afT]at this
 have e2:(ps.zip ks).map (λx=>PyData.str x.2.S)=ks.map λk=>.str k.S:=by
  have:=congrArg (List.map λk:Kn=>PyData.str k.S) (Ig ps ks hl)
  rwa [afT]at this
 have e3:(ps.zip ks).map (λx=>PyData.str (cS (eU x.1 x.2)))=(bT ks ps).map PyData.str:=by unfold bT;rw[afT];rfl
 have ez:=Ea (λx:Pt×Kn=>PyData.str x.2.S) (λx=>PyData.str (cS (eU x.1 x.2))) (ps.zip ks);rw[e2,e3]at ez;rw[e1,<-ez]at key;have hz:(dD (ks.map λk=>PyData.str k.S) ((bT ks ps).map PyData.str)).length<=50000:=by rw[ez,afy,List.length_zip];omega
 have hlt:((bT ks ps).map PyData.str).length=ks.length:=by rw[afy,s1]
 have ht:ks.length<=16000:=by omega
 rw[aft]at h2;have hlp:(ps.map Pt.dat).length<=1000:=by rw[afy];omega
 generalize (bT ks ps).map PyData.str=D at *;generalize (Txt.partition (cS (bK w ks ps)) " ").2.1=P1 at *
 generalize (Txt.partition (cS (bK w ks ps)) " ").2.2=P2 at *
 generalize cS (bK w ks ps)=R at *;have ha:1+ps.length<=100000:=by omega
 simp[jD,pH,jU,GZ,h1,h0,h2,ht,hlt,hz,key,ha]
theorem Wg:(aR.all λp=>(aR.lookup (p.1++"s")).isNone&&PyData.strOk (p.1++"s"))=true:=by decide +kernel
theorem M5{w:Str}{ks:List Kn}{ps:List Pt}(f:Fd w ks ps)(p:Pt):cU (.s w::(ps++[p]))=false:=by
 show(match aR.lookup w with
  |some ks=>decide ((ps++[p]).length=ks.length)&&eX (ps++[p]) ks
  |none=>false)=false
 rw[f.k]
 show(decide ((ps++[p]).length=ks.length)&&eX (ps++[p]) ks)=false
 rw[decide_eq_false (by rw[afZ,f.l];simp)];rfl
theorem R8(ns:List Int)(h:ns.length<=63):rA [] [.list (ns.map PyData.int)]=.ok (.bool true):=by
 obtain⟨p,hp,h1⟩:=Bq [] ns;obtain⟨w,ks⟩:=p;have f:Fd w ks (partsOf ns 0 ks):=⟨(jN _ hp).1,sJ ns ks 0,(vY ns ks 0).1⟩;have h1:jQ [] [lI ns]=.ok (.tuple (.str w::(partsOf ns 0 ks).map Pt.dat)):=h1;generalize partsOf ns 0 ks=ps at *;obtain⟨t1,t2,t3,t4⟩:=f.tab;have hl:=f.l;have ff:=f.fine;have h2:=Ir [] f;have h3:=qM [] f;have h4:=Es [] f;have k1:∀v,lk 9 v=true->eO 10 [] [v,v]=.ok (.bool true):=λv hv=>Vf [] 9 v hv;have hk1:=k1 (.str (cS (bK w ks ps))) rfl;have hk2:=k1 (.tuple (.str w::ps.map Pt.dat)) (by
  show xg 8 _=true;rw[qj];intro d hd;rcases afD.mp hd with rfl|hd
  .rfl
  .obtain⟨q,_,rfl⟩:=afG.mp hd;cases q<;>simp[Pt.dat,lk,xg])
 have hw:=afC.mp Wg _ (lookup_mem w ks aR f.k);rw[afs,Option.isNone_iff_eq_none]at hw
 -- refused: a part more
 have r1:=jT [] (ps:=.s w::(ps++[.n 0])) ⟨by simp;omega,λq hq=>by
  rcases afD.mp hq with rfl|hq
  .exact ff.2 _ afv
  .rcases afV.mp hq with hq|hq
   .exact ff.2 _ (afu _ hq)
   .rw[afJ.mp hq]
    trivial⟩
 rw[M5 f]at r1;have r1:bJ [] [.tuple (.str w::(ps++[Pt.n 0]).map Pt.dat)]=.ok (.bool true):=r1;rw[afY]at r1;have r1:bJ [] [.tuple (.str w::(ps.map Pt.dat++[.int 0]))]=.ok (.bool true):=r1
 -- another word
 have r2:=jT [] (ps:=.s (w++"s")::ps) ⟨ff.1,λq hq=>by
  rcases afD.mp hq with rfl|hq
  .exact hw.2
  .exact ff.2 _ (afu _ hq)⟩
 have e2:cU (.s (w++"s")::ps)=false:=by
  show(match aR.lookup (w++"s") with
   |some ks=>decide (ps.length=ks.length)&&eX ps ks
   |none=>false)=false
  rw[hw.1]
 rw[e2]at r2;have r2:bJ [] [.tuple (.str (w++"s")::ps.map Pt.dat)]=.ok (.bool true):=r2
 have r3:=jT [] (ps:=[]) ⟨by decide,λq hq=>by cases hq⟩;have r3:bJ [] [.tuple []]=.ok (.bool true):=r3
 -- a part below 0
 have r4:∀q qs,ps=q::qs->bJ [] [.tuple (.str w::.int (-1)::qs.map Pt.dat)]=.ok (.bool true):=λq qs e=>by
  subst e;have r:=jT [] (ps:=.s w::.n (-1)::qs) ⟨ff.1,λy hy=>by
   rcases afD.mp hy with rfl|hy
   .exact ff.2 _ afv
   .rcases afD.mp hy with rfl|hy
    .trivial
    .exact ff.2 _ (afu _ (afu _ hy))⟩
  have e3:cU (.s w::.n (-1)::qs)=false:=by
   show(match aR.lookup w with
    |some ks=>decide ((Pt.n (-1)::qs).length=ks.length)&&eX (Pt.n (-1)::qs) ks
    |none=>false)=false
   rw[f.k];cases ks with
   |nil=>simp
   |cons k ks=>
    have:bQ (.n (-1)) k=false:=by cases k<;>rfl
    simp[eX,this]
  rw[e3]at r;exact r
 have r4:∀d D',ps.map Pt.dat=d::D'->bJ [] [.tuple (.str w::.int (-1)::D')]=.ok (.bool true):=λd D' e=>by
  cases ps with
  |nil=>cases e
  |cons q qs=>
   have:=r4 q qs rfl;rw[aft]at e;rw[(List.cons.inj e).2]at this;exact this
 obtain⟨os,hf,g1⟩:=Kl [] ns;have g2:=Pn [] os hf;have g3:=jT [] hf;have a1:aO (.str w) (.str "s")=.ok (.str (w++"s")):=by
  have sl1:Str.length "s"=1:=by decide +kernel
  have:=TL.len_tl w;show Out.when (decide (w.length+Str.length "s"<=100000)) (.ok (PyData.str (w++"s")))=_
  rw[sl1,decide_eq_true (by omega)];rfl
 have c1:Rf.cutD (PyData.str w::ps.map Pt.dat) (some 1) none=ps.map Pt.dat:=gY _ 1;have c2:Rf.cutD (PyData.str w::ps.map Pt.dat) none (some 1)=[.str w]:=nH _ 1;have c3:Rf.cutD (PyData.str w::ps.map Pt.dat) (some 2) none=(ps.map Pt.dat).drop 1:=gY _ 2;have hDl:(ps.map Pt.dat).length<=3:=by rw[afy];omega
 have tail:∃b,fM [] [.tuple (os.map Pt.dat)]=.ok (.bool b)/\(b=true->bJ [] [.tuple (os.map Pt.dat)]=.ok (.bool true))/\(b=false->∃X,dW [] [.tuple (os.map Pt.dat)]=.ok X/\ni [] [.tuple (os.map Pt.dat)]=.ok X/\eO 10 [] [X,X]=.ok (.bool true)):=by
  refine⟨_,g2,λz=>by rw[g3,z],λz=>?_⟩;have hq:cU os=true:=by simpa using z
  obtain⟨w',ks',qs',rfl,f'⟩:=Ul hq;exact⟨_,qM [] f',Ir [] f',k1 (.str (cS (bK w' ks' qs'))) rfl⟩
 obtain⟨b,g2,g3,g4⟩:=tail;have e:(PyData.list (ns.map PyData.int))=lI ns:=rfl;rw[e];have a2:aO (.tuple (.str w::ps.map Pt.dat)) (.tuple [.int 0])=.ok (.tuple (.str w::(ps.map Pt.dat++[.int 0]))):=by show Out.when (decide ((PyData.str w::ps.map Pt.dat).length + [PyData.int 0].length<=100000)) (.ok (PyData.tuple ((.str w::ps.map Pt.dat)++[.int 0])))=_;rw[decide_eq_true (by simp;omega)];rfl
 have a3:aO (.tuple [.str (w++"s")]) (.tuple (ps.map Pt.dat))=.ok (.tuple (.str (w++"s")::ps.map Pt.dat)):=by
  show Out.when (decide ([PyData.str (w++"s")].length+(ps.map Pt.dat).length<=100000)) (.ok (PyData.tuple ([.str (w++"s")]++ps.map Pt.dat)))=_
  rw[decide_eq_true (by simp;omega)];rfl
 have a4:∀D':List Dat,D'.length<=3->aO (.tuple [.str w,.int (-1)]) (.tuple D')=.ok (.tuple (.str w::.int (-1)::D')):=λD' h=>by
  show Out.when (decide ([PyData.str w,.int (-1)].length+D'.length<=100000)) (.ok (PyData.tuple ([.str w,.int (-1)]++D')))=_;rw[decide_eq_true (by simp;omega)];rfl
 have hln:dh (.tuple (.str w::ps.map Pt.dat))=.ok (.int (((ps.map Pt.dat).length:Int)+1)):=by show Out.ok (PyData.int (((PyData.str w::ps.map Pt.dat).length:Nat):Int))=_;rw[afA];rfl
 generalize os.map Pt.dat=OD at *;generalize ps.map Pt.dat=D at *;generalize cS (bK w ks ps)=R at *;generalize w++"s"=ws at *
 generalize hB:bJ [] [.tuple OD]=RB at *;cases D with
 |nil=>
  have r1:bJ [] [.tuple [.str w,.int 0]]=.ok (.bool true):=r1;have a2:aO (.tuple [.str w]) (.tuple [.int 0])=.ok (.tuple [.str w,.int 0]):=rfl;cases b with
  |true=>
   have g3:=g3 rfl;subst g3;simp[-uW,rA,uF,h1,h2,h3,h4,hk1,hk2,a1,a2,a3,r1,r2,r3,c1,hln,g1,g2,hB]
  |false=>
   obtain⟨X,x1,x2,x3⟩:=g4 rfl;simp[-uW,rA,uF,h1,h2,h3,h4,hk1,hk2,a1,a2,a3,r1,r2,r3,c1,hln,g1,g2,x1,x2,x3]
 |cons d D'=>
  have r5:=r4 d D' rfl;have a6:=a4 D' (by rw[afA]at hDl;omega);have hn:(1:Int)<((d::D').length:Int)+1:=by rw[afA];omega
  have c3:Rf.cutD (PyData.str w::d::D') (some 2) none=D':=c3;have a5:aO (.tuple [.str w]) (.tuple [.int (-1)])=.ok (.tuple [.str w,.int (-1)]):=rfl;have hm:j9 (.int 0) (.int 1)=.ok (.int (-1)):=rfl;generalize PyData.int (-1)=m1 at *;generalize ((d::D').length:Int)+1=LN at *;generalize d::D'=D at *;cases b with
  |true=>
   have g3:=g3 rfl;subst g3;simp[-uW,-M9,hm,rA,uF,h1,h2,h3,h4,hk1,hk2,a1,a2,a3,r1,r2,r3,c1,c2,c3,hln,hn,a6,a5,r5,g1,g2,hB]
  |false=>
   obtain⟨X,x1,x2,x3⟩:=g4 rfl;simp[-uW,-M9,hm,rA,uF,h1,h2,h3,h4,hk1,hk2,a1,a2,a3,r1,r2,r3,c1,c2,c3,hln,hn,a6,a5,r5,g1,g2,x1,x2,x3]
end Pr
open PySem PySem.W PySem.Calls PyProof.Rows
set_option maxHeartbeats 0 in
theorem PySem.Challenge.cw_earmarks_k29_deeds_written_holds : PySem.Challenge.rw_earmarks_k29_deeds_written.Holds := by
 w_on;o_law
 refine HandSHeadRun.head_any (r:=OpenLaw.row PySem.Challenge.rw_earmarks_k29_deeds_written) (q:=view (OpenLaw.row PySem.Challenge.rw_earmarks_k29_deeds_written).prog [46]) (H:=Pr.Ue) (ob:=Pr.Uk) (M:=40000) (loose:=Pr.nm) (d:=HandSHeadRun.topDef (OpenLaw.row PySem.Challenge.rw_earmarks_k29_deeds_written).prog 46) (kwd:=[]) Pr.X3 (by kernel_rfl) (λs=>by kernel_rfl) Pr.run (by kernel_rfl) (by kernel_rfl) (by kernel_rfl) (by rfl) (by first | assumption | decide +kernel) (by decide +kernel) ⟨rfl,rfl,rfl,rfl,rfl,by decide +kernel⟩ ?hw ?hc
 case hw=>w_witness2
 case hc=>
  refine L2.walk_ofE (l:=PySem.Challenge.rw_earmarks_k29_deeds_written) (n:=63) (k:=13) (x:="_law_script") (CX:=L2.CX0) rfl (by decide) (by kernel_rfl) ⟨rfl,by decide,by decide⟩ ?F (λ_ _ _ _ z=>z)
  intro w mg fa h Y G hmg0;obtain⟨K,KX,c⟩:=Y;have hmg:mg ("law" : PySem.Str)=some (.ref fa):=by
   have e:(HandSHeadRun.topDef (OpenLaw.row PySem.Challenge.rw_earmarks_k29_deeds_written).prog 46).name=("law" : PySem.Str):=by kernel_rfl
   rw[<-e];exact hmg0
  have T:Pr.Top w K mg:=⟨⟨h,KX,G⟩,c⟩;have e:=hmg.symm.trans (T.glo 29);cases e;obtain⟨fd,F⟩:=T.c.TQ 29;have b:=L2.FunD.bindsA (ps:=["_law_script"]) F λ_ _ _ _ _ _ us hl=>match us,hl with|[_],_=>rfl
  exact⟨K,fd,λvs H Q _=>Rf.ql K (Pr.aj w K) 1 Pr.rA vs H Q λ_ _ _=>False,KX,λs v=>b s [v] rfl,λH a ns hl _ hS=>Rf.abp rfl hS (Pr.R8 ns hl),λbase _ _=>Rf.JW (Pr.abt T F)⟩

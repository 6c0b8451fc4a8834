import PyProof.Rows.All
import HandS.ForMost
import HandS.Evl
import HandS.Walk
import HandS.Zip
import HandS.IsInst
import HandS.Style
import HandS.FStr
import HandS.StrSplit
import HandS.RaiseFrom
import HandS.SuiteRaise
import HandS.Strs
import HandS.TupAny
import HandS.Deep
import HandS.WordsExc
import KE.DataMinMax
import KE.DataFind
import KE.SortData
import HandS.SortKw
import HandS.TupSets
import HandS.SetBool
import HandS.DictComp
import HandS.Conv
import KE.KDictKeyed
import HandS.ExcField
import HandS.ExcInit
import HandS.ExcIs
import HandS.HeadHook4
import HandS.HeadEnd
import HandS.Head2
import HandS.Flow
import KE.GoesEnumKw
import PySem.Challenge.RW_earmarks_k14_rights_kept
set_option Elab.async false
set_option linter.all false
set_option maxRecDepth 100000
set_option maxHeartbeats 2000000
def aek:True:=trivial
abbrev ael:=@False.elim
abbrev aem:=@decide_eq_true_eq
abbrev aen:=@of_decide_eq_true
def ac7:=@Option.bind_eq_some_iff
def ac8:=@PySem.W.Frag
def ac9:=@Bool.and_eq_true
def ada:=@List.map_cons
def adb:=@List.getElem?_eq_some_iff
def ade:=@List.getElem?_set_ne
def adf:=@List.mem_cons_of_mem
def adg:=@List.mem_cons_self
def adh:=@List.getElem?_eq_getElem
def adi:=@List.length_map
def adk:=@List.getElem?_set_self
def adl:=@List.length_cons
def adn:=@Bool.not_eq_true'
def ado:=@List.mem_map
def adp:=@List.getElem?_append_left
def adq:=@List.getElem?_map
def adt:=@List.mem_cons
def adu:=@List.mem_singleton
def adw:=@List.length_set
def adx:=@List.getElem?_append_right
def ady:=@List.all_eq_true
def adz:=@Nat.le_refl
def adA:=@Option.some.inj
def adB:=@List.mem_of_getElem?
def adC:=@Nat.ne_of_lt
def adD:=@Bool.false_eq_true
def adE:=@List.lookup_cons
def adF:=@List.all_cons
def adG:=@Array.length_toList
def adH:=@List.not_mem_nil
def adI:=@List.map_append
def adJ:=@Nat.zero_le
def adK:=@Array.getElem?_toList
def adL:=@List.length_filter_le
def adM:=@List.mem_append
def adN:=@List.append_nil
def adP:=@List.length_reverse
def adQ:=@List.filter_cons
def adR:=@List.drop_eq_getElem_cons
def adS:=@List.mem_of_mem_take
def adT:=@Nat.succ.inj
def adU:=@List.any_cons
def adV:=@List.nodup_nil
def adW:=@List.drop_length
def adX:=@Option.map_eq_some_iff
def adY:=@List.length_append
def adZ:=@Nat.lt_succ_of_lt
def ad3:=@List.reverse_cons
def ad4:=@Function.comp_def
def ad5:=@List.map_nil
def ad6:=@List.filter_eq_self
def ad7:=@Bool.eq_iff_iff
def ad8:=@List.zip_cons_cons
def ad9:=@Bool.or_eq_true
def aea:=@List.mem_filter
def aeb:=@List.size_toArray
def aec:=@List.getElem?_set
def aed:=@Nat.le_trans
def aee:=@List.map_map
def aef:=@Nat.add_sub_cancel'
def aeg:=@List.nodup_cons
def aeh:=@Nat.add_left_cancel
def aei:=@List.eraseDups_cons
def aej:=@List.drop_zero
namespace Rf
open PySem PySem.Spec PyProof.Rows L2 HandSHeadRun
def aeo:=@wpAny_bind
def aep:=@wpAny_pure
def aer:=@if_pos
def aes:=@if_neg
def aeu:=@upd_same
def aev:=@eq_of_beq
abbrev Dat:=PyData
abbrev Ft:=List (Str×List Str)
structure sO(fa:List He.Fa)(fn:List He.DefD)(tb:List He.Tab)(ex:ac8->Bool)(w:World)(K:ac8):Prop where
 t:He.SaysT fa fn tb w K
 more:ex K=true
def Gm(as:List Addr)(fa:List He.Fa)(fn:List He.DefD)(tb:List He.Tab)(ex:ac8->Bool)(g:Addr->Option Obj):He.AlX:=(He.obsT fa fn tb (He.frG g as),ex (He.frG g as))
def GX(as:List Addr)(fa:List He.Fa)(fn:List He.DefD)(tb:List He.Tab)(ex:ac8->Bool):PySem.W.Hook where
 α:=He.AlX
 obs:=λs=>Gm as fa fn tb ex s.heap.get?
 val:=λw=>He.valX fn tb w
 says:=λw h=>∃K:ac8,K.In h/\sO fa fn tb ex w K
 of:=λw s e=>⟨_,He.frG_in,⟨congrArg (λz:He.AlX=>z.1) e,congrArg (λz:He.AlX=>z.2) e⟩⟩
 keeps:=λ_ _ _ ⟨K,hK,c⟩ k=>⟨K,PySem.W.Frag.In.keeps hK k,c⟩
theorem Q9{as:List Addr}{fa:List He.Fa}{fn:List He.DefD}{tb:List He.Tab}{ex:ac8->Bool}{g:Addr->Option Obj}{s:Shared}(h:∀a,g a=s.heap.get? a):Gm as fa fn tb ex g=(GX as fa fn tb ex).obs s:=by rw[show g=s.heap.get? from funext h];rfl
def qX(K:ac8)(ft:Ft):Bool:=ft.all λp=>(He.Fa.cls p.1).ok K&&p.2.all λf=>(He.Fa.noat p.1 f).ok K
def Uh(K:ac8)(xm:List (Str×List (Str×Bool))):Bool:=xm.all λp=>p.2.all λq=>(He.Fa.exm q.1 p.1 q.2).ok K
def U4(K:ac8)(C:Addr):Bool:=(match K.lookup C with
 |some ⟨.type t,_,.cls cd,sl⟩=>decide (t="type")&&(match cd.mro,sl.toList with
  |.ref C'::bm,[_,_,_,_,some (.builtin n),_]=>decide (C'=C)&&(decide (n="ValueError.__new__")&&(!cd.hasDel&&(cd.hasDict&&PySem.HandSPX.refsVE bm)))
  |_,_=>false)
 |_=>false)&&(He.eqO (PySem.W.findIn K (.ref C) "__setattr__") (some (some (.builtin "object.__setattr__")))&&(decide (PySem.W.subIn K (.ref C) (.type "BaseException")=some true)&&(decide (PySem.W.typeIn K (.ref C)=some (.type "type"))&&PySem.W.keepIn K (.ref C))))
def Hw(K:ac8)(x:Str)(fs:List Str):Bool:=U4 K (He.ga K x)&&(He.eqO (PySem.W.findIn K (.ref (He.ga K x)) "__init__") (some (some (.ref (He.ma K (He.ga K x) "__init__"))))&&(decide (PySem.W.typeIn K (.ref (He.ma K (He.ga K x) "__init__"))=some (.type "function"))&&(xfB K (He.ga K x)&&fs.all λf=>He.eqO (PySem.W.findIn K (.ref (He.ga K x)) f) (some none))))
section
open PySem.W PySem.Calls
noncomputable abbrev Ve (r:PySem.W.OpenRow) (M:Nat) (w:World) (os:PySem.OsState):Option PySem.W.SharedT:=endF (stepQ (denQ tabQ) r.prog w) M r.prog w os
def KD(r:PySem.W.OpenRow)(q:Program)(as:List Addr)(ex:ac8->Bool)(M:Nat)(loose:List Str)(w:World):Prop:=∀os,(Ve r M w os).map (λs=>(looksF r.prog (boot_heap w.params) s.abs,HandSHeadRun.seenQ q loose (importedModules r.prog.main.body) (λs=>PySem.W.xlAt q [] s&&PySem.W.recOk r.toRowW.records s) s.abs,ex (He.frG (getT s) as)))=some (true,PySem.W.openGood q loose,true)
def Lk(r:PySem.W.OpenRow)(as:List Addr)(fa:List He.Fa)(fn:List He.DefD)(tb:List He.Tab)(M:Nat)(w:World):Prop:=∀os,(Ve r M w os).map (λs=>He.obsT fa fn tb (He.frG (getT s) as))=some (He.valT fn tb w)
theorem zq{r:PySem.W.OpenRow}{q:Program}{as:List Addr}{fa:List He.Fa}{fn:List He.DefD}{tb:List He.Tab}{ex:ac8->Bool}{M:Nat}{loose:List Str}{w:World}
  (a:KD r q as ex M loose w) (c:Lk r as fa fn tb M w):RunEq r q (GX as fa fn tb ex) (λs=>Gm as fa fn tb ex (getT s)) M loose w:=λos=>by
 obtain⟨s,hs,h1⟩:=adX.mp (a os);obtain⟨h1,h2⟩:=Prod.mk.inj h1;obtain⟨h2,h4⟩:=Prod.mk.inj h2;have h3:=c os;have hs':endF (stepQ (denQ tabQ) r.prog w) M r.prog w os=some s:=hs;rw[hs,Option.map_some]at h3;have h3:=adA h3;rw[hs',Option.map_some];exact congrArg some (Prod.ext h1 (Prod.ext h2 (Prod.ext h3 h4)))
end
end Rf
namespace Pr
open PySem PySem.Spec PyProof.Rows L2 Evl Rf
def jZ:Ft:=[("Rights",["held"])]
def ni:List (Str×Bool):=[("HasRight",true),("NoRight",false)]
def pX:List (Str×Bool):=[("HasRight",false),("NoRight",true)]
def J9:List (Str×List (Str×Bool)):=[("HasRight",ni),("NoRight",pX)]
def Ot:List (Str×Bool):=[("held",true)]
def FP:List (Str×List Str):=[]
def eU(i:Nat):Stmt:=PySem.Challenge.pw_earmarks_k14_rights_kept.main.body.getD i (.Pass ⟨0,0,0,0⟩)
abbrev qj:Stmt:=inClass (eU 5) 0
abbrev s_row:Stmt:=eU 9
abbrev Dg:Stmt:=eU 10
abbrev Oi:Stmt:=eU 11
abbrev FZ:Stmt:=eU 7
abbrev vJ:Stmt:=eU 8
abbrev kZ:Stmt:=inClass (eU 5) 1
abbrev Je:Stmt:=eU 12
abbrev JB:Stmt:=eU 13
abbrev oF:Stmt:=inClass (eU 5) 3
abbrev jx:Stmt:=inClass (eU 5) 7
abbrev Oe:Stmt:=eU 18
abbrev jQ:Stmt:=inClass (eU 5) 2
abbrev Fo:Stmt:=eU 14
abbrev pZ:Stmt:=inClass (eU 5) 5
abbrev yV:Stmt:=eU 15
abbrev Cq:Stmt:=eU 16
abbrev jW:Stmt:=inClass (eU 5) 6
abbrev jT:Stmt:=inClass (eU 5) 4
abbrev Fg:Stmt:=eU 17
abbrev rZ:Stmt:=eU 19
abbrev dM(c m q:Str)(s:Stmt):He.DefD:=⟨(c,some m),m,q,defArgs s,defBody s,defScope s,[],[]⟩
abbrev dF(x:Str)(s:Stmt):He.DefD:=⟨(x,none),x,x,defArgs s,defBody s,defScope s,[],[]⟩
def Fx:List Str:=["Rights","HasRight","NoRight"]
def nm0:List PySem.Str:=["CommonError","NoRight","HasRight","Rights","_law_whole","_law_like","_law_row","_law_ear_by","_law_ear","_law_cell","_law_near","_law_added"]
def nm1:List PySem.Str:=["_law_dropped","_law_handed","_law_right","_law_cut"]
def nm:List PySem.Str:=nm0++nm1
def fa0:List He.Fa:=[.mkr "Rights",.glo "_law_row",.glo "_law_ear_by",.glo "_law_ear",.glo "_law_whole",.glo "_law_like",.meth "Rights" "all_rows",.glo "_law_cell",.glo "_law_near",.meth "Rights" "marks",.meth "Rights" "in_grounds",.glo "_law_cut"]
def fa1:List He.Fa:=[.meth "Rights" "add_right",.glo "_law_added",.meth "Rights" "drop",.glo "_law_dropped",.glo "_law_handed",.meth "Rights" "hand_over",.meth "Rights" "has_right",.glo "_law_right",.glo "law",.glo "Rights",.glo "HasRight",.exc "HasRight"]
def fa2:List He.Fa:=[.glo "NoRight",.exc "NoRight",.free "range",.free "abs",.free "tuple",.free "max",.free "isinstance",.free "bool",.free "int",.free "zip",.free "len",.free "list"]
def fa3:List He.Fa:=[.free "str",.free "min"]
def fa:List He.Fa:=fa0++fa1++fa2++fa3
def fn0:List He.DefD:=[dM "Rights" "__init__" "Rights.__init__" qj,dF "_law_row" s_row,dF "_law_ear_by" Dg,dF "_law_ear" Oi,dF "_law_whole" FZ,dF "_law_like" vJ,dM "Rights" "all_rows" "Rights.all_rows" kZ,dF "_law_cell" Je,dF "_law_near" JB,dM "Rights" "marks" "Rights.marks" oF,dM "Rights" "in_grounds" "Rights.in_grounds" jx,dF "_law_cut" Oe]
def fn1:List He.DefD:=[dM "Rights" "add_right" "Rights.add_right" jQ,dF "_law_added" Fo,dM "Rights" "drop" "Rights.drop" pZ,dF "_law_dropped" yV,dF "_law_handed" Cq,dM "Rights" "hand_over" "Rights.hand_over" jW,dM "Rights" "has_right" "Rights.has_right" jT,dF "_law_right" Fg,dF "law" rZ]
def fn:List He.DefD:=fn0++fn1
def Kw(K:ac8):Bool:=true&&qX K jZ&&Uh K J9&&(FP.all λp=>Fx.contains p.1&&Hw K p.1 p.2)
def ad0:List Addr:=[3,24,37,49,111,122,129,136,141,148,155,162,169,176,183,188,195,200,23,36,48,110,121,128]
def ad1:List Addr:=[135,140,147,154,161,168,175,182,187,194,199,22,25,35,47,65,72,79,84,91,98,103,108,109]
def ad2:List Addr:=[112,113,64,71,78,83,90,97,102,107]
def ad:List Addr:=ad0++ad1++ad2
abbrev R:PySem.W.OpenRow:=PySem.W.OpenLaw.row PySem.Challenge.rw_earmarks_k14_rights_kept
abbrev Ou:PySem.W.Hook:=GX ad fa fn [] Kw
def Oa(s:PySem.W.SharedT):He.AlX:=Gm ad fa fn [] Kw (HandSHeadRun.getT s)
theorem Vg(s:PySem.W.SharedT):Oa s=Ou.obs s.abs:=Q9 (HandSHeadRun.getT_eq s)
abbrev wR(w:World)(b:Bool):World:=w.withFollow "special-get-raises" b
theorem X5(w:World):KD R (PySem.W.view R.prog [19]) ad Kw 40000 nm (wR w false):=by
 intro os
 kernel_rfl
theorem Ym(w:World):Lk R ad fa fn [] 40000 (wR w false):=by
 intro os
 kernel_rfl
theorem runAt(w:World):KD R (PySem.W.view R.prog [19]) ad Kw 40000 nm (wR w true):=by
 intro os
 kernel_rfl
theorem Xm(w:World):Lk R ad fa fn [] 40000 (wR w true):=by
 intro os
 kernel_rfl
theorem run(w:World):HandSHeadRun.RunEq R (PySem.W.view R.prog [19]) Ou Oa 40000 nm w:=PySem.W.byRow2 "special-get-raises" (P:=λw=>HandSHeadRun.RunEq R (PySem.W.view R.prog [19]) Ou Oa 40000 nm w) (λw=>zq (X5 w) (Ym w)) (λw=>zq (runAt w) (Xm w)) w
end Pr
namespace Ear
open PySem PySem.Spec PyProof.Rows L2 Evl RZ
section
variable{X:Cx}{C:Addr}{bmB:List Value}{B newId initId:String}
theorem Lh{x:Str}{p pos:Pos}(F:ExcBaseFacts B newId initId bmB)(q:PySem.W.excIn X.K C bmB newId=true)(gC:X.mg x=some (.ref C))(kC:PySem.W.keepIn X.K (.ref C)=true)(r:Raises X (.ref C))(hg:Gl X x)
  (hn:(x==("__debug__" : Str))=false:=by decide):PMk X (.Call (.Name x p) [] [] pos) (λ_ H Q=>Q (.ref C) none H):=by
 intro pins s σ H Q I h;refine wpAny_Call_Name_kw (ld_glob I hg gC ?_ hn);refine PySem.W.callWith_K0 I.kIn kC ?_;show wpAny _ _ (call (.ref C) []) _ _ _;obtain⟨bm,N,nm,qn,bs,hdct,sn,sub,ab,col,dd,k0,k1,k2,k3,k5,mN,hC,hN,hni,T⟩:=exc_obj I.kIn q;refine wpAny_call_exc_subT F T hC hN hni (λh' e hm=>?_) (adJ _);exact mk_of I hm r h (I.hok.gone hm.new)
end
theorem exm_one{K:ac8}{S:Addr}(h1:PySem.W.subIn K (.ref S) (.type "BaseException")=some true)(h2:PySem.W.isClsIn K S=true)(h3:PySem.W.typeIn K (.ref S)=some (.type "type"))(h4:PySem.W.subIn K (.ref S) (.ref S)=some true) :
  PySem.W.exmOne K (.ref S) (.ref S)=some true:=by
 have e1:(PySem.W.subIn K (.ref S) (.type "BaseException")==some true)=true:=by rw[h1]<;>rfl
 have e2:((PySem.W.clsIn K S).isSome&&PySem.W.typeIn K (.ref S)==some (.type "type"))=true:=by rw[h3,ac9];exact⟨h2,rfl⟩
 show(if (PySem.W.subIn K (.ref S) (.type "BaseException")==some true)=true then(if ((PySem.W.clsIn K S).isSome&&PySem.W.typeIn K (.ref S)==some (.type "type"))=true then PySem.W.subIn K (.ref S) (.ref S) else none) else none)=some true
 rw[if_pos e1,if_pos e2];exact h4
def Zi(xs:List Int):Prop:=xs.length=6/\∀x∈xs,0<=x/\x<=9
section
variable{K:ac8}{σ:L2.St}{H:Hp}{te tl:TE}{tt:TT}{vs:List Nat}
def En(te:TE)(σ:L2.St)(H:Hp)(P:V->Hp->Prop):Prop:=∀H1,Ex H H1->∀Q:VK,(∀v H2,Ex H1 H2->P v H2->Q v H2)->te σ H1 Q
end
section
variable{K:ac8}{σ:L2.St}{H H':Hp}{te ta tb:TE}{t:TT}{P R:V->Hp->Prop}{v:V}
theorem En.mono(e:Ex H H')(h:En te σ H P):En te σ H' P:=λH1 a Q q=>h H1 (e.trans a) Q q
theorem En.imp(h:En te σ H P)(k:∀v H',P v H'->R v H'):En te σ H R:=λH1 e Q q=>h H1 e Q λv H2 e2 p=>q v H2 e2 (k v H2 p)
end
end Ear
namespace Ear
open PySem PySem.Spec PyProof.Rows L2 Evl RZ
def bO{α:Type}(R:V->α->Prop)(ws:List V)(L:List α):Prop:=ws.length=L.length/\∀(i:Nat) (v:V) (x:α),ws[i]?=some v->L[i]?=some x->R v x
theorem bO.imp{α:Type}{R S:V->α->Prop}{ws:List V}{L:List α}(h:bO R ws L)(k:∀v x,R v x->S v x):bO S ws L:=⟨h.1,λi v x a b=>k v x (h.2 i v x a b)⟩
theorem bO.nil{α:Type}{R:V->α->Prop}:bO R [] []:=⟨rfl,λi v x a _=>by simp at a⟩
theorem bO.snoc{α:Type}{R:V->α->Prop}{ws:List V}{L:List α}{v:V}{x:α}(h:bO R ws L)(k:R v x):bO R (ws++[v]) (L++[x]):=by
 refine⟨by rw[adY,adY,h.1];rfl,λi u y a b=>?_⟩;by_cases hi:i<ws.length
 .rw[adp hi]at a;rw[adp (by rw[<-h.1];exact hi)]at b;exact h.2 i u y a b
 .rw[adx (by omega)]at a;rw[adx (by rw[<-h.1];omega),<-h.1]at b;have hj:i-ws.length=0:=by
   have:=(adb.mp a).1;simp only[adl,List.length_nil]at this;omega
  rw[hj]at a b;cases a;cases b;exact k
def pP(H:Hp)(v:V)(l:List Int):Prop:=∃h:Addr,v=.ref h/\H h=some (.tup (l.map V.int))
theorem pP.mono{H H':Hp}(e:Ex H H'){v:V}{l:List Int}(h:pP H v l):pP H' v l:=by obtain⟨a,e1,h1⟩:=h;exact⟨a,e1,e _ _ h1⟩
theorem pP.upd{H:Hp}{D:Addr}{acc:List V}{o:HO}(hD:H D=some (.lst acc)){v:V}{l:List Int}(h:pP H v l):pP (upd H D o) v l:=by obtain⟨a,e1,h1⟩:=h;refine⟨a,e1,?_⟩;rw[upd_ne (λz=>by rw[z,hD]at h1;cases h1)];exact h1
abbrev Rw:Type:=Int×List Int
def sJ(H:Hp)(v:V)(r:Rw):Prop:=∃t m:Addr,v=.ref t/\H t=some (.tup [.int r.1,.ref m])/\H m=some (.tup (r.2.map V.int))
theorem sJ.mono{H H':Hp}(e:Ex H H'){v:V}{r:Rw}(h:sJ H v r):sJ H' v r:=by obtain⟨t,m,e1,h1,h2⟩:=h;exact⟨t,m,e1,e _ _ h1,e _ _ h2⟩
theorem sJ.upd{H:Hp}{D:Addr}{acc:List V}{o:HO}(hD:H D=some (.lst acc)){v:V}{r:Rw}(h:sJ H v r):sJ (upd H D o) v r:=by
 obtain⟨t,m,e1,h1,h2⟩:=h;refine⟨t,m,e1,?_,?_⟩
 .rw[upd_ne (λz=>by rw[z,hD]at h1;cases h1)];exact h1
 .rw[upd_ne (λz=>by rw[z,hD]at h2;cases h2)];exact h2
def Xl(r:Rw):Prop:=1<=r.1/\Zi r.2
structure Tab(R:List Rw):Prop where
 len:R.length<=128
 ok:∀r∈R,Xl r
 few:∃D:List Rw,D.length<=64/\∀r∈R,r∈D
theorem Tab.sub{R S:List Rw}(h:Tab R)(hs:∀r∈S,r∈R)(hl:S.length<=128):Tab S:=by obtain⟨D,d1,d2⟩:=h.few;exact⟨hl,λr hr=>h.ok r (hs r hr),D,d1,λr hr=>d2 r (hs r hr)⟩
theorem bO.get{α:Type}{R:V->α->Prop}{ws:List V}{L:List α}(h:bO R ws L){i:Nat}{v:V}(g:ws[i]?=some v):∃x,L[i]?=some x/\R v x:=by
 have hi:=(adb.mp g).1;have hi':i<L.length:=by rw[<-h.1];exact hi
 exact⟨L[i],adh hi',h.2 i v _ g (adh hi')⟩
theorem bO.mem{α:Type}{R:V->α->Prop}{ws:List V}{L:List α}(h:bO R ws L){v:V}(m:v∈ws):∃x,x∈L/\R v x:=by obtain⟨i,hi,e⟩:=List.getElem_of_mem m;obtain⟨x,g,r⟩:=h.get (adb.mpr ⟨hi,e⟩);exact⟨x,adB g,r⟩
theorem bO.take{α:Type}{R:V->α->Prop}{ws:List V}{L:List α}(h:bO R ws L)(n:Nat):bO R (ws.take n) (L.take n):=by
 refine⟨by rw[List.length_take,List.length_take,h.1],λi v x a b=>?_⟩;rw[List.getElem?_take]at a b;by_cases c:i<n
 .rw[if_pos c]at a b;exact h.2 i v x a b
 .rw[if_neg c]at a;cases a
theorem bO.drop{α:Type}{R:V->α->Prop}{ws:List V}{L:List α}(h:bO R ws L)(n:Nat):bO R (ws.drop n) (L.drop n):=by refine⟨by rw[List.length_drop,List.length_drop,h.1],λi v x a b=>?_⟩;rw[List.getElem?_drop]at a b;exact h.2 _ v x a b
section
variable{X:Cx}
def K6(xs:List V)(ds:List PyData)(x:V)(d:PyData):Prop:=∃i:Nat,xs[i]?=some x/\ds[i]?=some d
@[irreducible]def pU (K:ac8):List V->Hp->VK->Prop:=λvs H Q=>∃(a:Addr) (xs:List V) (ds:List PyData),vs=[V.ref a]/\SqL K H a xs/\DpAll K H xs ds/\PySem.W.AllAlike ds/\PySem.W.Sortable ds/\(∀d∈ds,d.depth<=60)/\
 ∀(ys:List V) (p:Addr),bO (K6 xs ds) ys (ds.mergeSort (PySem.W.dataLe false id))->H p=none->Q (.ref p) (upd H p (.lst ys))
theorem BR:∀(xs:List V) (ds:List PyData) (its:List Value) (P:Value->PyData->Prop),Vals xs its->PySem.W.EachIs P its ds->
  PySem.W.EachIs (λv d=>∃(i:Nat) (x:V),RelV x v/\xs[i]?=some x/\ds[i]?=some d) its ds
 |[],_,_,_,.nil,.nil=>.nil
 |_::_,[],_,_,.cons _ _,k=>nomatch k
 |x::xs,d::ds,u::us,P,.cons r t,.cons _ k=>.cons ⟨0,x,r,rfl,rfl⟩ ((BR xs ds us P t k).mono λv d ⟨i,y,a,b,c⟩=>⟨i+1,y,a,b,c⟩)
theorem yN{xs:List V}{ds:List PyData}:∀(out:List Value) (L:List PyData),PySem.W.EachIs (λv d=>∃(i:Nat) (x:V),RelV x v/\xs[i]?=some x/\ds[i]?=some d) out L->∃ys,Vals ys out/\bO (K6 xs ds) ys L
 |[],[],.nil=>⟨[],.nil,bO.nil⟩
 |v::out,d::L,.cons ⟨i,x,r,a,b⟩ k=>by
  obtain⟨ys,h1,h2⟩:=yN out L k;refine⟨x::ys,.cons r h1,by rw[adl,adl,h2.1],λj u y g1 g2=>?_⟩;cases j with
  |zero=>
   cases g1;cases g2;exact⟨i,a,b⟩
  |succ j=>exact h2.2 j u y g1 g2
theorem Gy(hu:X.A.units+65<cLine):CallR X (.builtin "sorted") (pU X.K):=by
 intro pins s σ H vs us Q I r h;unfold pU at h;obtain⟨a,xs,ds,rfl,hs,hd,hal,hk,hz,q⟩:=h;obtain⟨u,rfl,ru⟩:=vals1 r
 obtain rfl:u=Value.ref a:=ru
 obtain⟨its,rv,hl,hsz⟩:=I.list hs;obtain⟨as,hr⟩:=Dp.readsAll I ds xs its hd rv;have er:PySem.W.EachIs (λv d=>∃as,Reads s.heap v (id d) as) its ds:=PySem.W.readsAll_each id (by rw[List.map_id];exact hr);have hn:=SeqAt.ReadsAll.length ds its as hr;have hl2:=rv.length;refine PySem.W.sorted_data (enc:=id) hl.isList (BR xs ds its _ rv er) er (by rw[List.map_id];exact hal) (by rw[List.map_id];exact hk) (by omega) (λd m=>?_) λout hlen hout=>?_
 .have:=hz d m;show X.A.units+2+d.depth<cLine;omega
 .obtain⟨ys,v1,v2⟩:=yN out _ hout;obtain⟨ep,he'⟩:=PyProof.Rows.sortedAll_at s.heap its out.toArray;have hy:ys.length=ds.length:=by
   rw[v2.1,List.length_mergeSort]
  refine⟨.ref _,upd H (s.heap.objs.size+1) (.lst ys),I.laid (t':=s.toks) (λ_ _=>PyProof.Rows.sortedAll_old) (Nat.le_succ _) ⟨by omega,out,ep,v1,by simpa using he'⟩,rfl,q ys _ v2 (I.hok.fresh (Nat.le_succ _))⟩
end
@[irreducible]def wC (K:ac8):R2:=λx y H Q=>∃d e:PyData,Dp K H x d/\Dp K H y e/\PySem.W.alike d e=true/\d≠.none/\d.depth<=60/\Q (.bl (PySem.W.dataLt d e)) H
theorem Mx{X:Cx}(hu:X.A.units+65<cLine):OpR X (compareOp .Lt) (wC X.K):=by intro pins s σ H x y v u Q I rx ry h;unfold wC at h;obtain⟨d,e,hd,he,ha,hn,hz,q⟩:=h;obtain⟨as,r1⟩:=Dp.reads I d x v hd rx;obtain⟨bs,r2⟩:=Dp.reads I e y u he ry;exact PySem.W.lt_data r1 r2 ha hn (by omega) ⟨.bl _,H,I,rfl,q⟩
def EvR(te:TE)(σ:L2.St)(H:Hp)(P:List V->Hp->Prop):Prop:=∀H1,Ex H H1->∀Q:VK,(∀p H2 us,Ex H1 H2->H2 p=some (.lst us)->P us H2->Q (.ref p) H2)->te σ H1 Q
def JZ(te:TE)(σ:L2.St)(H:Hp)(P:List V->Hp->Prop):Prop:=∀H1,Ex H H1->∀Q:VK,(∀p H2 us,H1 p=none->Ex H1 H2->H2 p=some (.lst us)->P us H2->Q (.ref p) H2)->te σ H1 Q
structure UJ{α:Type}(Rel:Hp->V->α->Prop):Prop where
 mono:∀{H H':Hp} {v:V} {x:α},Ex H H'->Rel H v x->Rel H' v x
 upd:∀{H:Hp} {D:Addr} {acc:List V} {o:HO} {v:V} {x:α},H D=some (.lst acc)->Rel H v x->Rel (upd H D o) v x
theorem bO.mono{α:Type}{Rel:Hp->V->α->Prop}(S:UJ Rel){H H':Hp}(e:Ex H H'){ws:List V}{L:List α}(h:bO (Rel H) ws L):bO (Rel H') ws L:=h.imp λ_ _ r=>S.mono e r
theorem bO.upd{α:Type}{Rel:Hp->V->α->Prop}(S:UJ Rel){H:Hp}{D:Addr}{acc:List V}{o:HO}(hD:H D=some (.lst acc)){ws:List V}{L:List α}(h:bO (Rel H) ws L):bO (Rel (upd H D o)) ws L:=h.imp λ_ _ r=>S.upd hD r
section
variable{K:ac8}{σ:L2.St}{H:Hp}{te tl:TE}{tt:TT}{vs:List Nat}{α:Type}
theorem JZ.r{P:List V->Hp->Prop}(h:JZ te σ H P):EvR te σ H P:=λH1 e Q q=>h H1 e Q λp H2 us _ a b c=>q p H2 us a b c
theorem JZ.imp{P R:List V->Hp->Prop}(h:JZ te σ H P)(k:∀us H',P us H'->R us H'):JZ te σ H R:=λH1 e Q q=>h H1 e Q λp H2 us n a b c=>q p H2 us n a b (k us H2 c)
end
theorem Bu:∀a b:List Int,PyData.eqvAll (a.map PyData.int) (b.map PyData.int)=decide (a=b)
 |[],[]=>by rw[ad5,PyData.eqvAll];rfl
 |[],y::ys=>by rw[ad5,ada,PyData.eqvAll];rfl
 |x::xs,[]=>by rw[ad5,ada,PyData.eqvAll];rfl
 |x::xs,y::ys=>by
  rw[ada,ada,PyData.eqvAll,Bu xs ys,PyData.eqv,ad7];simp
def dT(l:List Int):PyData:=.tuple (l.map PyData.int)
theorem lay_ints:∀l:List Int,PyData.canLayAll0 (l.map PyData.int)=true/\PyData.depthAll (l.map PyData.int)=0
 |[]=>⟨by rw[ad5,PyData.canLayAll0],by rw[ad5,PyData.depthAll]⟩
 |x::xs=>by
  have ih:=lay_ints xs;refine⟨?_,?_⟩
  .rw[ada,PyData.canLayAll0,PyData.canLay0,ih.1];rfl
  .rw[ada,PyData.depthAll,PyData.depth,ih.2];rfl
def rD(r:Rw):PyData:=.tuple [.int r.1,dT r.2]
theorem IW(r:Rw):(rD r).canLay0=true/\(rD r).depth=2:=by
 have h:=lay_ints r.2;unfold rD dT;refine⟨?_,?_⟩
 .rw[PyData.canLay0,PyData.canLayAll0,PyData.canLayAll0,PyData.canLayAll0,PyData.canLay0,PyData.canLay0,h.1];rfl
 .rw[PyData.depth,PyData.depthAll,PyData.depthAll,PyData.depthAll,PyData.depth,PyData.depth,h.2];rfl
def rk(r:Rw):List Int:=r.1::r.2
theorem Jd:PySem.W.rowLt [] []=false:=PyProof.Rows.lex_irrefl _
theorem Qp(l m:List Int):PySem.W.rowLt [dT l] [dT m]=decide (l<m):=by
 have al:PySem.W.alike (dT l) (dT m)=true:=by unfold dT;rw[PySem.W.alike];exact PySem.W.alike_ints l m
 have ev:PyData.eqv (dT l) (dT m)=decide (l=m):=by unfold dT;rw[PyData.eqv,Bu]
 have h:PySem.W.rowLt [dT l] [dT m]=if PyData.eqv (dT l) (dT m)=true then PySem.W.rowLt [] [] else PySem.W.dataLt (dT l) (dT m):=PySem.W.dataLt_cons al [] []
 rw[h,ev,Jd];by_cases c:l=m
 .rw[if_pos (decide_eq_true c),c];exact(decide_eq_false (List.lt_irrefl _)).symm
 .rw[if_neg (by rw[aem];exact c)];show PySem.W.dataLt (.tuple (l.map PyData.int)) (.tuple (m.map PyData.int))=_;rw[PySem.W.dataLt_tuple];exact PySem.W.dataLt_ints l m
theorem Ds(x y:Int)(ds es:List PyData)(l m:List Int)(h:PySem.W.rowLt ds es=decide (l<m)):PySem.W.rowLt (.int x::ds) (.int y::es)=decide (x::l<y::m):=by
 have al:PySem.W.alike (.int x) (.int y)=true:=by rw[PySem.W.alike]
 have h2:PySem.W.rowLt (.int x::ds) (.int y::es)=if PyData.eqv (.int x) (.int y)=true then PySem.W.rowLt ds es else PySem.W.dataLt (.int x) (.int y):=PySem.W.dataLt_cons al ds es
 rw[h2,h,PySem.W.dataLt_int,PyData.eqv];by_cases c:x=y
 .subst c;rw[if_pos (by simp),ad7,aem,aem,List.cons_lt_cons_iff];constructor
  .exact λk=>Or.inr ⟨rfl,k⟩
  .rintro(k|k)
   .omega
   .exact k.2
 .rw[if_neg (by simpa using c),ad7,aem,aem,List.cons_lt_cons_iff];constructor
  .exact Or.inl
  .rintro(k|k)
   .exact k
   .exact absurd k.1 c
theorem V1(a b:Rw):PySem.W.dataLt (rD a) (rD b)=decide (rk a<rk b):=by unfold rD;rw[PySem.W.dataLt_tuple];exact Ds _ _ _ _ _ _ (Qp a.2 b.2)
theorem yZ(a b:Rw):PySem.W.alike (rD a) (rD b)=true:=by unfold rD dT;rw[PySem.W.alike,PySem.W.alikeAll,PySem.W.alikeAll,PySem.W.alike,PySem.W.alike,PySem.W.alike_ints,PySem.W.alikeAll];rfl
theorem bO.map{α β:Type}{P:V->β->Prop}(f:α->β){ws:List V}{L:List α}(h:bO (λv x=>P v (f x)) ws L):bO P ws (L.map f):=by refine⟨by rw[adi,h.1],λi v x a b=>?_⟩;rw[adq]at b;obtain⟨y,hy,e⟩:=adX.mp b;rw[<-e];exact h.2 i v y a hy
theorem JV{a b:Rw}(h:rk a=rk b):a=b:=by unfold rk at h;injection h with h1 h2;exact Prod.ext h1 h2
def Fy(S:List Rw):Prop:=S.Pairwise λa b=>rk a<rk b
theorem Jw:∀{S T:List Rw},Fy S->Fy T->(∀r,r∈S↔r∈T)->S=T
 |[],[],_,_,_=>rfl
 |[],t::T,_,_,h=>absurd ((h t).mpr adg) (by simp)
 |s::S,[],_,_,h=>absurd ((h s).mp adg) (by simp)
 |s::S,t::T,hs,ht,h=>by
  obtain⟨hs1,hs2⟩:=List.pairwise_cons.mp hs;obtain⟨ht1,ht2⟩:=List.pairwise_cons.mp ht;have e:s=t:=by
   rcases adt.mp ((h s).mp adg) with e|m
   .exact e
   .rcases adt.mp ((h t).mpr adg) with e2|m2
    .exact e2.symm
    .exact absurd (ht1 s m) (List.lt_asymm (hs1 t m2))
  subst e;have hn:∀{L:List Rw},(∀r∈L,rk s<rk r)->s∉L:=λhL m=>List.lt_irrefl _ (hL s m);rw[Jw hs2 ht2 λr=>?_];constructor
  .intro m;rcases adt.mp ((h r).mp (adf _ m)) with e|m2
   .rw[e]at m;exact absurd m (hn hs1)
   .exact m2
  .intro m;rcases adt.mp ((h r).mpr (adf _ m)) with e|m2
   .rw[e]at m;exact absurd m (hn ht1)
   .exact m2
theorem qN(a b:Rw):PySem.W.dataLe false rD a b=decide (rk a<=rk b):=by
 show(!PySem.W.dataLt (rD b) (rD a))=_
 rw[V1,ad7,adn,decide_eq_false_iff_not,aem];exact List.not_lt
theorem Kh{α β:Type}{R:α->β->Prop}{as cs:List α}(p:as.Perm cs):∀{bs:List β},PySem.W.EachIs R as bs->∃ds,ds.Perm bs/\PySem.W.EachIs R cs ds:=by
 induction p with
 |nil=>
  intro bs h;cases h;exact⟨[],List.Perm.refl _,.nil⟩
 |cons x _ ih=>
  intro bs h;cases h with
  |cons r t=>
   obtain⟨ds,h1,h2⟩:=ih t;exact⟨_::ds,h1.cons _,.cons r h2⟩
 |swap x y l=>
  intro bs h;cases h with
  |cons r t=>
   cases t with
   |cons r2 t2=>exact⟨_,List.Perm.swap _ _ _,.cons r2 (.cons r t2)⟩
 |trans _ _ ih1 ih2=>
  intro bs h;obtain⟨ds,a1,a2⟩:=ih1 h;obtain⟨es,b1,b2⟩:=ih2 a2;exact⟨es,b1.trans a1,b2⟩
section
variable{P:Program}{w:World}{A:Around}{E:Value->Shared->Prop}{s:Shared}
theorem Dq{β:Type}{a:Addr}{es:Array (Int×Value)}{ep:Nat}{t:SetTable}{enc:β->PyData}{bs:List β}{R:Value->β->Prop}{Q:Value->Shared->Prop}(hh:A.handled=none)(ha:SetAt s.heap a es ep t)(hf:t.fits es.size=true)(hsz:es.size<scanBound)(hr:Ris t.place.toList)
  (hl:w.params.followText "set-order"=true\/t.led=true) (e:PySem.W.EachIs (λv b=>R v b/\∃as,Reads s.heap v (enc b) as) (es.toList.map (·.2)) bs) (hal:PySem.W.AllAlike (bs.map enc)) (hk:PySem.W.Sortable (bs.map enc)) (hu:∀b∈bs,A.units+2+(enc b).depth<cLine)
  (hQ:∀(s':Shared) (p:Addr) (out:List Value) (c:Nat) (cs:List β),(∀b o,s.heap.get? b=some o->s'.heap.get? b=some o)->s'.gens=s.gens->s'.os=s.os->s.heap.objs.size<=p->s'.heap.get? p=some (seqObj "list" out.toArray c)->
   cs.Perm bs->PySem.W.EachIs R out (cs.mergeSort (PySem.W.dataLe false enc))->Q (.ref p) s') :
  wpAny (model P w) A (call (.builtin "sorted") [.ref a]) Q E s:=by
 refine Calls.call_function_entry kind_sorted plain_sorted entry_sorted (args_sorted1 _) ?_;unfold Builtin.«sorted»;refine wpAny_bind (m:=checkCount "sorted" 1 1 _) (wpAny_pure ?_)
 refine wpAny_bind (collect_set (A:=A.in1) hh ha hf hsz hr hl λt1 vals kept grown g1 o1 pm=>?_);obtain⟨cs,pc,ec⟩:=Kh pm.symm e;have lc:vals.length=cs.length:=ec.length;have lb:cs.length=bs.length:=pc.length_eq;have lz:vals.length<=sizeLine:=by rw[pm.length_eq,adi,adG,sizeLine_eq];unfold scanBound at hsz;omega
 refine wpAny_bind (wpAny_newList ?_ lz);have here:(t1.heap.push (seqObj "list" vals.toArray 0)).get? t1.heap.objs.size=some (seqObj "list" vals.toArray 0):=Heap.get?_push_size _ rfl
 have stays:∀b o,s.heap.get? b=some o->(t1.heap.push (seqObj "list" vals.toArray 0)).get? b=some o:=λb o q=>Heap.get?_push_of_some _ (kept b o q)
 have al:PySem.W.AllAlike (cs.map enc):=λd hd d' hd'=>hal d ((pc.map enc).mem_iff.mp hd) d' ((pc.map enc).mem_iff.mp hd');have sk:PySem.W.Sortable (cs.map enc):=by
  rcases hk with k|k
  .exact .inl λd hd=>k d ((pc.map enc).mem_iff.mp hd)
  .exact .inr λd hd=>k d ((pc.map enc).mem_iff.mp hd)
 refine wpAny_bind (wpAny_holding (PySem.W.list_sort_data (s:={ t1 with heap:=t1.heap.push (seqObj "list" vals.toArray 0) }) (enc:=enc) here (ec.mono λv b h=>h.1) (ec.mono λv b ⟨_,as,r⟩=>⟨as,PySem.W.reads_keeps stays r,λm=>?rd⟩) al sk (by omega) (λb hb=>?un) λout lo eo=>?fin))
 case rd=>
  obtain⟨o,q⟩:=PyProof.On.reads_mem_get r _ m;have hlt:t1.heap.objs.size<s.heap.objs.size:=Heap.lt_size q;exact absurd grown (Nat.not_le_of_lt hlt)
 case fin=>
  obtain⟨c,hc⟩:=sortedHeap_at (vs:=vals) (out:=out.toArray) here;refine wpAny_pure ⟨_,rfl,hQ _ t1.heap.objs.size out c cs (λb o q=>?_) g1 o1 grown hc pc eo⟩;have hlt:=Heap.lt_size (kept b o q)
  show(sortedHeap (t1.heap.push (seqObj "list" vals.toArray 0)) t1.heap.objs.size vals out.toArray).get? b=some o
  rw[sortedHeap_old (adC hlt) (by rw[size_push'];exact adZ hlt)];exact stays b o q
 case un=>
  have:=hu b (pc.mem_iff.mp hb);show A.in1.units+1+_<_;have e1:A.in1.units=A.units+1:=rfl;omega
def nk(r:Rw):NestedKey:=.tup [.num r.1,.tup (r.2.map .num)]
theorem CP:∀a b:List Int,a.map NestedKey.num=b.map NestedKey.num->a=b
 |[],[],_=>rfl
 |[],_::_,h=>by cases h
 |_::_,[],h=>by cases h
 |x::a,y::b,h=>by
  rw[ada,ada]at h;injection h with h1 h2;injection h1 with h1;rw[h1,CP a b h2]
theorem Iu{a b:Rw}(h:nk a=nk b):a=b:=by unfold nk at h;injection h with h;injection h with h1 h;injection h with h2 _;injection h1 with h1;injection h2 with h2;exact Prod.ext h1 (CP _ _ h2)
theorem vL:∀l:List Int,NestedKey.depthAll (l.map .num)=0
 |[]=>by rw[ad5,NestedKey.depthAll]
 |x::l=>by
  rw[ada,NestedKey.depthAll,NestedKey.depth,vL l];rfl
theorem Lz(r:Rw):(nk r).depth=2:=by unfold nk;rw[NestedKey.depth,NestedKey.depthAll,NestedKey.depthAll,NestedKey.depthAll,NestedKey.depth,NestedKey.depth,vL];rfl
def dX(P:Program)(w:World):HeapKind P w Rw where
 is:=λh r a=>(nestedKind P w).is h (nk r) a
 hash:=λr=>(nestedKind P w).hash (nk r)
 draws:=λr=>(nestedKind P w).draws (nk r)
 room:=(nestedKind P w).room
 inj:=λhx hy=>Iu ((nestedKind P w).inj hx hy)
 keeps:=λx ho hd hs=>(nestedKind P w).keeps x ho hd hs
 pyHash:=λhu hk h=>(nestedKind P w).pyHash hu hk h
 eqBool:=λ{A E s x y a b Q} hu hx hy h=>(nestedKind P w).eqBool hu hx hy (by
  have e:decide (nk x=nk y)=decide (x=y):=by rw[decide_eq_decide];exact⟨Iu,λh=>by rw[h]⟩
  rw[e];exact h)
 quiet:=λhk h=>(nestedKind P w).quiet hk h
abbrev RI(h:Heap)(r:Rw)(a:Addr):Prop:=NestedIs h (nk r) (.ref a)/\(nk r).depth<=8
theorem xg{h h':Heap}{r:Rw}{a:Addr}(x:RI h r a)(k:∀c o,h.get? c=some o->h'.get? c=some o):RI h' r a:=⟨NestedIs.at (λb o _ _ e _=>k b o e) _ _ x.1,x.2⟩
theorem Bq{h h':Heap}{r:Rw}{a d:Addr}{o:Obj}{es:Array (Int×Value)}{ep:Nat}{t:SetTable}(x:RI h r a)(ho:h.get? d=some o)(hd:o.data=.set es ep t)(sb:Heap.SameBut d h h'):RI h' r a:=by
 refine⟨NestedIs.at (λb ob vs n hb hc=>(sb.2 b λe=>?_).trans hb) _ _ x.1,x.2⟩;subst e
 obtain rfl:ob=o:=adA (hb.symm.trans ho)
 rw[hd]at hc;cases hc
theorem pH{h:Heap}{i:Int}{v:Value}(x:NestedIs h (.num i) v)(n:Nat):ofAClassStatement n v=pure false/\hashByValue n v=pure true:=by
 cases x with
 |bool _=>cases n<;>exact⟨rfl,rfl⟩
 |int _ t=>cases n<;>exact⟨rfl,rfl⟩
theorem BL{h:Heap}:∀(l:List Int) (vs:List Value),NestedAll h (l.map .num) vs->∀v∈vs,∃i,NestedIs h (.num i) v
 |[],_,x,v,hv=>by
  cases x;cases hv
 |i::l,_,x,v,hv=>by
  rw[ada]at x;cases x with
  |cons x1 x2=>
   rcases adt.mp hv with e|hv
   .exact⟨i,by rw[e];exact x1⟩
   .exact BL l _ x2 v hv
theorem Ei{n:Nat}{a:Addr}{o:Obj}{vs:Array Value}{m:Nat}(ho:s.heap.get? a=some o)(hc:o.cls=.type "tuple")(hd:o.data=.seq vs m)(hq:∀v∈vs.toList,∀(E:Value->Shared->Prop) (Q:Bool->Shared->Prop),Q false s->wpAny (model P w) A (ofAClassStatement n v) Q E s){Q:Bool->Shared->Prop}(q:Q false s) :
  wpAny (model P w) A (ofAClassStatement (n+1) (.ref a)) Q E s:=by
 have hT:s.TypeIs (.ref a) "tuple":=⟨o,ho,hc⟩
 unfold ofAClassStatement;refine wpAny_bind (wpAny_typeOf hT ?_)
 dsimp only
 have eq1:(("tuple" : String)=="tuple")=true:=by decide
 simp only[eq1,if_true,Bool.not_true,adD,if_false]
 try refine wpAny_bind (wpAny_pure ?_)
 try simp only[Bool.not_true,adD,if_false]
 refine wpAny_bind (wpAny_seqItems ho hd ?_)
 dsimp only
 refine wpAny_bind ?_;rw[<-Array.forIn_toList];refine wpAny_forIn_list _ (λleft r u=>r.1=none/\u=s/\∀v∈left,v∈vs.toList) _ ?_ ?_ _ _ ⟨rfl,rfl,λv hv=>hv⟩
 .rintro v left r u ⟨hr,rfl,hall⟩;refine wpAny_bind (hq v (hall v adg) _ _ ?_);simp only[adD,if_false];exact wpAny_pure ⟨rfl,rfl,λy hy=>hall y (adf _ hy)⟩
 .rintro⟨r1,r2⟩ u ⟨hr,rfl,_⟩;simp only at hr;subst hr;exact wpAny_pure q
theorem CT{n:Nat}{a:Addr}{o:Obj}{vs:Array Value}{m:Nat}(ho:s.heap.get? a=some o)(hc:o.cls=.type "tuple")(hd:o.data=.seq vs m)(hq:∀v∈vs.toList,∀(E:Value->Shared->Prop) (Q:Bool->Shared->Prop),Q true s->wpAny (model P w) A (hashByValue n v) Q E s){Q:Bool->Shared->Prop}(q:Q true s) :
  wpAny (model P w) A (hashByValue (n+1) (.ref a)) Q E s:=by
 have hT:s.TypeIs (.ref a) "tuple":=⟨o,ho,hc⟩
 unfold hashByValue;refine wpAny_bind (wpAny_specialOf hT PySem.F.slot_tuple_hash.lookup ?_);show wpAny _ _ (seqItems? (.ref a) >>= _) _ _ s;refine wpAny_bind (wpAny_seqItems ho hd ?_);refine wpAny_bind ?_;show wpAny _ _ (forIn vs _ _) _ _ s;rw[<-Array.forIn_toList];refine wpAny_forIn_list _ (λleft r u=>r.1=none/\u=s/\∀v∈left,v∈vs.toList) _ ?_ ?_ _ _ ⟨rfl,rfl,λv hv=>hv⟩
 .rintro v left r u ⟨hr,rfl,hall⟩;refine wpAny_bind (hq v (hall v adg) _ _ ?_);simp only[Bool.not_true,adD,if_false];exact wpAny_pure ⟨rfl,rfl,λy hy=>hall y (adf _ hy)⟩
 .rintro⟨r1,r2⟩ u ⟨hr,rfl,_⟩;simp only at hr;subst hr;exact wpAny_pure q
theorem pY{r:Rw}{a:Addr}(x:RI s.heap r a):(∀{Q:Bool->Shared->Prop},Q false s->wpAny (model P w) A (ofAClassStatement 8 (.ref a)) Q E s)/\∀{Q:Bool->Shared->Prop},Q true s->wpAny (model P w) A (hashByValue 8 (.ref a)) Q E s:=by
 obtain⟨x,_⟩:=x;unfold nk at x;cases x with
 | @tup _ o vs m _ ho hc hd x=>
  have items:∀v∈vs.toList,(∃i,NestedIs s.heap (.num i) v)\/∃b,v=.ref b/\∃o us k,s.heap.get? b=some o/\o.cls=.type "tuple"/\o.data=.seq us k/\∀u∈us.toList,∃i,NestedIs s.heap (.num i) u:=by
   generalize vs.toList=l at x;cases x with
   |cons x1 x=>
    cases x with
    |cons x2 x=>
     cases x;intro v hv;rcases adt.mp hv with e|hv
     .exact Or.inl ⟨_,by rw[e];exact x1⟩
     .have e:=adu.mp hv;cases x2 with
      |tup k1 k2 k3 k4=>exact Or.inr ⟨_,e,_,_,_,k1,k2,k3,BL _ _ k4⟩
  refine⟨λq=>Ei ho hc hd (λv hv E' Q' q'=>?_) q,λq=>CT ho hc hd (λv hv E' Q' q'=>?_) q⟩
  .rcases items v hv with⟨i,y⟩|⟨b,rfl,o',us,k,k1,k2,k3,k4⟩
   .rw[(pH y 7).1];exact wpAny_pure q'
   .refine Ei k1 k2 k3 (λu hu E2 Q2 q2=>?_) q';obtain⟨i,y⟩:=k4 u hu;rw[(pH y 6).1];exact wpAny_pure q2
  .rcases items v hv with⟨i,y⟩|⟨b,rfl,o',us,k,k1,k2,k3,k4⟩
   .rw[(pH y 7).2];exact wpAny_pure q'
   .refine CT k1 k2 k3 (λu hu E2 Q2 q2=>?_) q';obtain⟨i,y⟩:=k4 u hu;rw[(pH y 6).2];exact wpAny_pure q2
end
abbrev Ent:Type:=Addr×Rw
section
variable{P:Program}{w:World}{A:Around}{E:Value->Shared->Prop}{s:Shared}
def ents(hf:Rw->Int)(L:List Ent):List (Int×Value):=L.map λp=>(hf p.2,Value.ref p.1)
structure fK(hf:Rw->Int)(w:World)(h:Heap)(a:Addr)(L:List Ent)(es:Array (Int×Value))(ep:Nat)(t:SetTable):Prop where
 ob:∃o,h.get? a=some o/\o.ExactSet/\o.data=.set es ep t
 en:es.toList=ents hf L
 tab:TabOk t (L.map λp=>hf p.2)
 nd:(L.map Prod.snd).Nodup
 ky:∀p∈L,RI h p.2 p.1
 pl:t.plain=true
 ld:w.params.followText "set-order"=true\/t.led=true
 free:L.length*5<t.mask*3
 few:L.length<=76
variable{hf:Rw->Int}{a:Addr}{L:List Ent}{es:Array (Int×Value)}{ep:Nat}{t:SetTable}
theorem jG(h:es.toList=ents hf L):es.size=L.length:=by rw[<-adG,h];exact adi _
theorem uf(h:es.toList=ents hf L){i:Nat}{p:Ent}(g:L[i]?=some p):es[i]?=some (hf p.2,Value.ref p.1):=by rw[<-adK,h];unfold ents;rw[adq,g];rfl
theorem fits_of(h1:t.place.size=es.size)(h2:t.dummies=#[])(h3:es.size<=t.mask):t.fits es.size=true:=by unfold SetTable.fits SetTable.fill;rw[h2,ac9,beq_iff_eq,aem];exact⟨h1,by show t.place.size+0<=t.mask;omega⟩
theorem fK.fits(R:fK hf w s.heap a L es ep t):t.fits es.size=true:=by have l1:=jG R.en;have l2:=R.tab.sz;rw[adi]at l2;have l3:=R.free;exact fits_of (by omega) R.tab.dm (by omega)
theorem fK.sound(R:fK hf w s.heap a L es ep t):¬t.gaveWay=true:=by unfold SetTable.gaveWay;rw[mask_odd R.tab.mok];decide
theorem Vi{r:Rw}{b:Addr}{Q:Bool->Shared->Prop}(hx:RI s.heap r b){ys:List Value}(hy:∀y∈ys,∃q c,y=Value.ref c/\RI s.heap q c)(q:Q false s):wpAny (model P w) A (searchCouldBeSeen (.ref b) ys) Q E s:=by
 unfold searchCouldBeSeen;refine wpAny_bind ?_;refine wpAny_forIn_list _ (λleft r u=>r.1=none/\u=s/\∀y∈left,∃q c,y=Value.ref c/\RI s.heap q c) _ ?_ ?_ _ _ ⟨rfl,rfl,hy⟩
 .rintro v left r u ⟨hr,rfl,hall⟩;obtain⟨q',c,rfl,hc⟩:=hall v adg;have more:∀y∈left,∃q c,y=Value.ref c/\RI u.heap q c:=λy m=>hall y (adf _ m)
  dsimp only
  by_cases hv:(b==c || (carriedByValue (.ref b)&&carriedByValue (.ref c)))=true
  .exact wp_if_pos hv (wpAny_pure ⟨rfl,rfl,more⟩)
  .refine wp_if_neg hv ?_;refine wpAny_bind ((dX P w).quiet hx ?_);simp only[Bool.not_true,adD,if_false];refine wpAny_bind ((dX P w).quiet hc ?_);simp only[Bool.not_true,adD,if_false];refine wpAny_bind ((pY hx).1 ?_);simp only[adD,if_false];refine wpAny_bind ((pY hc).1 ?_);simp only[adD,if_false];exact wpAny_pure ⟨rfl,rfl,more⟩
 .rintro⟨r1,r2⟩ u ⟨hr,rfl,_⟩;simp only at hr;subst hr;exact wpAny_pure q
abbrev iz(m:Nat)(h:Int)(c:Nat):SetTable.Probe:=nth m (runAt m (SetTable.bits h%(m+1)) (SetTable.bits h)) c
theorem Dr(m:Nat)(h:Int)(c:Nat):(iz m h c).dummy=none:=by
 have all:∀(n:Nat) (p:SetTable.Probe),p.dummy=none->(nth m p n).dummy=none:=by
  intro n
  induction n with
  |zero=>exact λp k=>k
  |succ n ih=>
   intro p k;refine ih (adv m p) ?_;unfold adv
   split<;>exact k
 exact all c _ rfl
theorem yE(m:Nat)(h:Int)(c d:Nat):nth m (iz m h c) d=iz m h (c+d):=(nth_add m c _ d).symm
theorem seek(R:fK hf w s.heap a L es ep t){x:Addr}{r:Rw}(hx:RI s.heap r x){h:Int}(hh:hf r=h)(hu:(dX P w).room A){N:Nat}(hN:N<10*SetTable.turns t.mask)(out:way t.mask (h) N∉t.place.toList)(inn:∀c,c<N->way t.mask (h) c∈t.place.toList){Q:SetFound->Shared->Prop}
  (yes:r∈L.map Prod.snd->Q (.there none) s) (no:r∉L.map Prod.snd->Q (.free (way t.mask (h) N) false) s) :
  ∀(f c:Nat) (st:Option SetTable.Probe),st.getD (t.probeStart (h))=iz t.mask (h) c->c<=N->N-c<f->
   (∀(i:Nat) (p:Ent),L[i]?=some p->p.2=r->∃d,c<=d/\d<N/\t.place.toList[i]?=some (way t.mask (h) d))->
   wpAny (model P w) A (setSearchFrom a (.ref x) (h) true f st) Q E s:=by
 intro f
 induction f with
 |zero=>exact λ_ _ _ _ hfl _=>absurd hfl (Nat.not_lt_zero _)
 |succ f ih=>
  intro c st hst hc hfl left;obtain⟨o,ho,hex,hd⟩:=R.ob;rw[setSearchFrom_succ];refine wpAny_bind (wpAny_setState_of ho hd R.fits ?_)
  dsimp only
  refine wp_if_neg R.sound ?_
  try refine wpAny_bind (wpAny_pure ?_)
  have jAt:∀d,(nth t.mask (iz t.mask h c) d).j=way t.mask h (c+d):=λd=>congrArg SetTable.Probe.j (yE t.mask h c d);have hashOf:∀(i:Nat) (p:Ent),L[i]?=some p->(es[i]?.map (·.1)).getD 0=hf p.2:=λi p g=>by
   rw[uf R.en g];rfl
  have spec:=go_spec t R.tab.ris R.tab.dm (λi=>(es[i]?.map (·.1)).getD 0) h (10*SetTable.turns t.mask) (N-c) (iz t.mask h c) (Dr _ _ _) (by omega) (λd hdn=>by rw[jAt];exact inn (c+d) (by omega)) (by rw[jAt,aef hc];exact out);rcases spec with⟨d,i,hdn,hi,hhi,hno,hpr⟩|⟨hno,hpr⟩
  .have hpr':t.probe (λi=>(es[i]?.map (·.1)).getD 0) h (st.getD (t.probeStart h))=some (.candidate (way t.mask h (c+d)) i (iz t.mask h (c+(d+1)))):=by
    rw[hst,<-jAt,<-yE];exact hpr
   rw[hpr']
   dsimp only
   rw[jAt]at hi;have hil:i<L.length:=by have k1:=(adb.mp hi).1;have k2:=R.tab.sz;rw[adi]at k2;rw[adG]at k1;omega
   obtain⟨p,hp⟩:∃p,L[i]?=some p:=⟨_,adh hil⟩;have pm:=adB hp;have go:wpAny (model P w) A (searchRest a (.ref x) h true f es t (way t.mask h (c+d)) i (iz t.mask h (c+(d+1)))) Q E s:=by
    unfold searchRest;rw[uf R.en hp]
    dsimp only
    refine wpAny_bind (wpAny_holding ((dX P w).eqBool hu (R.ky p pm) hx ?_));refine wpAny_bind (wpAny_setState_of ho hd R.fits ?_)
    dsimp only
    by_cases same:p.2=r
    .exact wp_if_pos (by simp[same]) (wpAny_pure (yes (ado.mpr ⟨p,pm,same⟩)))
    .refine wp_if_neg (by simp[same]) ?_
     try refine wpAny_bind (wpAny_pure ?_)
     rw[sameMem]
     dsimp only
     have live:t.slot (way t.mask h (c+d))=.live i:=slot_live R.tab.ris hi;simp only[if_true,live,uf R.en hp];refine wpAny_bind (wpAny_isSame_ref_self (wpAny_bind (wpAny_pure ?_)));simp only[if_true];refine wp_if_neg (by simp[same]) ?_;refine ih (c+(d+1)) _ rfl (by omega) (by omega) λi0 p0 g0 e0=>?_;obtain⟨d0,a1,a2,a3⟩:=left i0 p0 g0 e0;refine⟨d0,?_,a2,a3⟩;by_cases c1:d0<c+d
     .exact absurd ((hashOf i0 p0 g0).trans ((congrArg hf e0).trans hh)) (hno (d0-c) i0 (by omega) (by rw[jAt,aef a1];exact a3))
     .by_cases c2:d0=c+d
      .rw[c2]at a3;have live0:=slot_live R.tab.ris a3;rw[live]at live0;injection live0 with ei;rw[<-ei,hp]at g0;exact absurd ((congrArg Prod.snd (adA g0)).trans e0) same
      .omega
   by_cases hl:t.led=true
   .refine wp_if_neg (by simp[hl]) ?_
    try refine wpAny_bind (wpAny_pure ?_)
    exact go
   .refine wp_if_pos (by simp[hl]) ?_;refine wpAny_bind (Vi hx (λy hy=>?_) ?_)
    .obtain⟨e,he,ee⟩:=ado.mp hy;have h1:e∈es/\e.1=h:=by simpa using he
     have h2:e∈es.toList:=by simpa using h1.1
     rw[R.en]at h2;obtain⟨p2,hp2,e2⟩:=ado.mp h2;exact⟨p2.2,p2.1,by rw[<-ee,<-e2],R.ky p2 hp2⟩
    .refine wp_if_neg (by decide) ?_
     try refine wpAny_bind (wpAny_pure ?_)
     exact go
  .have hpr':t.probe (λi=>(es[i]?.map (·.1)).getD 0) h (st.getD (t.probeStart h))=some (.empty (way t.mask h N) none):=by
    have e2:way t.mask h N=(nth t.mask (iz t.mask h c) (N-c)).j:=by rw[jAt,aef hc]
    rw[hst,e2];exact hpr
   rw[hpr']
   dsimp only
   refine wpAny_pure (no λhm=>?_);obtain⟨p0,m0,e0⟩:=ado.mp hm;obtain⟨i0,hi0,e1⟩:=List.getElem_of_mem m0;have g0:L[i0]?=some p0:=by rw[adh hi0,e1]
   obtain⟨d0,a1,a2,a3⟩:=left i0 p0 g0 e0;exact hno (d0-c) i0 (by omega) (by rw[jAt,aef a1];exact a3) ((hashOf i0 p0 g0).trans ((congrArg hf e0).trans hh))
theorem look(R:fK hf w s.heap a L es ep t){x:Addr}{r:Rw}(hx:RI s.heap r x)(hu:(dX P w).room A){Q:SetFound->Shared->Prop}(yes:r∈L.map Prod.snd->Q (.there none) s)
  (no:∀N,r∉L.map Prod.snd->way t.mask (hf r) N∉t.place.toList->(∀c,c<N->way t.mask (hf r) c∈t.place.toList)->Q (.free (way t.mask (hf r) N) false) s):wpAny (model P w) A (setSearch a (.ref x) (hf r) true) Q E s:=by
 have hfree:=R.free;obtain⟨N,hN,out,inn⟩:=R.tab.first (by rw[adi];omega) (hf r);have small:N<100000:=by
  have:10*SetTable.turns t.mask<=1420:=by unfold SetTable.turns;rcases R.tab.mok with e|e|e<;>omega
  omega
 unfold setSearch;refine seek R hx rfl hu hN out inn yes (λhn=>no N hn out inn) 100000 0 none rfl (adJ _) (by omega) λi p g e=>?_;have hi:(L.map λp=>hf p.2)[i]?=some (hf r):=by rw[adq,g,<-e];rfl
 have hil:i<t.place.toList.length:=by have k1:=(adb.mp g).1;have k2:=R.tab.sz;rw[adi]at k2;rw[adG];omega
 obtain⟨c,hc,ec⟩:=R.tab.before out hi (adh hil);exact⟨c,adJ _,hc,by rw[adh hil,ec]⟩
end
section
variable{P:Program}{w:World}{A:Around}{E:Value->Shared->Prop}{s:Shared}{hf:Rw->Int}{a:Addr}{L:List Ent}{es:Array (Int×Value)}{ep:Nat}{t:SetTable}
theorem MJ(L:List Ent)(n:Nat)(x:Addr)(r:Rw):ents hf (L.take n++(x,r)::L.drop n)=(ents hf L).take n++(hf r,Value.ref x)::(ents hf L).drop n:=by unfold ents;rw[adI,ada,List.map_take,List.map_drop]
theorem range_all(L:List Ent):(List.range L.length).filterMap (λi=>L[i]?)=L:=by
 have part:∀n,n<=L.length->(List.range n).filterMap (λi=>L[i]?)=L.take n:=by
  intro n
  induction n with
  |zero=>exact λ_=>rfl
  |succ n ih=>
   intro hn;rw[List.range_succ,List.filterMap_append,ih (by omega),List.take_add_one,adh (show n<L.length by omega)];congr 1;rw[List.filterMap_cons_some (adh (show n<L.length by omega))];rfl
 rw[part _ (adz _),List.take_length]
theorem HY(h:es.toList=ents hf L){order:Array Nat}(hp:order.toList.Perm (List.range L.length)) :
  ∃M:List Ent,(order.filterMap (es[·]?)).toList=ents hf M/\M.Perm L/\(M.map λp=>hf p.2)=order.toList.map λi=>(es.map (·.1)).getD i 0:=by
 have inside:∀i∈order.toList,i<L.length:=λi hi=>List.mem_range.mp (hp.mem_iff.mp hi);refine⟨order.toList.filterMap (λi=>L[i]?),?_,?_,?_⟩
 .have e1:(order.filterMap (es[·]?)).toList=order.toList.filterMap (λi=>es[i]?):=by
   first | rw[Array.toList_filterMap] | simp
  rw[e1];unfold ents;rw[List.map_filterMap];congr 1;funext i;rw[<-adK,h];unfold ents;rw[adq]
 .have:=hp.filterMap (λi=>L[i]?);rw[range_all]at this;exact this
 .generalize order.toList=l at inside
  induction l with
  |nil=>rfl
  |cons i l ih=>
   have hi:=inside i adg;have e5:(es.map (·.1))[i]?=some (hf (L[i]).2):=by rw[Array.getElem?_map,uf h (adh hi)];rfl
   rw[List.filterMap_cons_some (adh hi),ada,ada,ih λj hj=>inside j (adf _ hj),Array.getD_eq_getD_getElem?,e5];rfl
theorem XC{o:Obj}(ho:s.heap.get? a=some o)(hex:o.ExactSet)(hd:o.data=.set es ep t)(he:es.toList=ents hf L)(hsz:t.place.size=es.size)(hdm:t.dummies=#[])(hfl:es.size<=t.mask)(nd:(L.map Prod.snd).Nodup)(ky:∀p∈L,RI s.heap p.2 p.1)(pl:t.plain=true)
  (ld:w.params.followText "set-order"=true\/t.led=true) (few:L.length<=76) {wanted M:Nat} (hw:SetTable.sizeAbove wanted-1=M) (hM:MaskOk M) (hw2:SetTable.sizeAbove wanted<=128) (hn:L.length*5<M*3) {Q:Unit->Shared->Prop}
  (q:∀h' K es' ep' t',Heap.SameBut a s.heap h'->fK hf w h' a K es' ep' t'->K.Perm L->Q () { s with heap:=h' }):wpAny (model P w) A (setRelay a wanted) Q E s:=by
 have len:=jG he;obtain⟨t',order,e,hp,T,em,el,epl,ed⟩:=relaid_ok t (hs:=es.map (·.1)) (wanted:=wanted) hw hM (by rw[Array.size_map,len];omega);rw[Array.size_map,len]at hp;obtain⟨K,k1,k2,k3⟩:=HY he hp;rw[<-k3]at T;have ks:(order.filterMap (es[·]?)).size=es.size:=by rw[jG k1,k2.length_eq,len]
 rw[setRelay_eq];refine wpAny_bind (wpAny_setState_of ho hd (fits_of hsz hdm hfl) ?_)
 dsimp only
 refine wp_if_neg (by rw[sizeLine_eq];omega) ?_
 try refine wpAny_bind (wpAny_pure ?_)
 rw[e]
 dsimp only
 refine wpAny_bind ?_;refine wp_if_neg (by rw[ks];simp) ?_
 try refine wpAny_bind (wpAny_pure ?_)
 refine wpAny_pure ?_
 dsimp only
 refine wpAny_storeSet_of ho hd ?_ (by rw[ks,len,sizeLine_eq];omega);have sb:Heap.SameBut a s.heap (s.heap.update a (Obj.putSet (order.filterMap (es[·]?)) t')):=Heap.SameBut.update ..;refine q _ K (order.filterMap (es[·]?)) (ep+1) t' sb ⟨⟨_,store_at ho hd,⟨hex.1,hex.2.1,hex.2.2⟩,rfl⟩,k1,T,(k2.map Prod.snd).nodup_iff.mpr nd,λp hp=>Bq (ky p (k2.mem_iff.mp hp)) ho hd sb,by rw[epl];exact pl,by rw[el];exact ld,?_,by rw[k2.length_eq];exact few⟩ k2;rw[k2.length_eq,em];exact hn
theorem Tp(R:fK hf w s.heap a L es ep t){x:Addr}{r:Rw}(hx:RI s.heap r x)(hu:(dX P w).room A)(hfew:r∉L.map Prod.snd->L.length+1<=76){Q:Bool->Shared->Prop}
  (q:∀b h' K es' ep' t',Heap.SameBut a s.heap h'->fK hf w h' a K es' ep' t'->(r∈L.map Prod.snd->K=L)->(r∉L.map Prod.snd->K.Perm ((x,r)::L))->Q b { s with heap:=h' }):wpAny (model P w) A (setAddHashed a (.ref x) (hf r)) Q E s:=by
 obtain⟨o,ho,hex,hd⟩:=R.ob;have len:=jG R.en;have hfree:=R.free;unfold setAddHashed;refine wpAny_holding ?_;rw[show(100000:Nat)=99999+1 from rfl,setAddHashedIn_succ];refine wpAny_bind (wpAny_setState_of ho hd R.fits ?_)
 dsimp only
 refine wp_if_neg (by simp[byScan,Value.scannable]) ?_
 try refine wpAny_bind (wpAny_pure ?_)
 refine wpAny_bind (look R hx hu (λhm=>?_) λN hm out inn=>?_)
 .dsimp only
  exact wpAny_pure (q false s.heap L es ep t (Heap.SameBut.refl a s.heap) R (λ_=>rfl) λz=>absurd hm z)
 have few1:=hfew hm
 dsimp only
 refine wpAny_bind (wpAny_setState_of ho hd R.fits ?_)
 dsimp only
 obtain⟨q1,q2,q3,q4,q5,q6,q7,q8,q9⟩:=R.tab.put out inn;have pl1:(t.put (way t.mask (hf r) N)).1.plain=true:=by rw[q6];exact R.pl
 generalize hpt:t.put (way t.mask (hf r) N)=pt at q1 q3 q4 q5 q6 q7 q8 q9 pl1 |-
 obtain⟨t1,n⟩:=pt
 dsimp only at q1 q3 q4 q5 q6 q7 q8 q9 pl1 |-
 subst q1
 first
  |(refine wpAny_bind ?_;refine wp_if_pos pl1 ?_;refine(pY hx).2 ?_)
  |refine wp_if_pos pl1 (wpAny_bind ((pY hx).2 ?_))
 simp only[if_true];have ein:(SetTable.insertAt es (SetTable.below t.place (way t.mask (hf r) N)) (hf r,Value.ref x)).toList=ents hf (L.take (SetTable.below t.place (way t.mask (hf r) N))++(x,r)::L.drop (SetTable.below t.place (way t.mask (hf r) N))):=by rw[SetTable.toList_insertAt,MJ,R.en]
 generalize hnn:SetTable.below t.place (way t.mask (hf r) N)=n at q2 q3 ein |-
 have pm:=put_perm L n (x,r);have hs1:(L.take n++(x,r)::L.drop n).map (λp=>hf p.2)=(L.map λp=>hf p.2).take n++hf r::(L.map λp=>hf p.2).drop n:=by rw[adI,ada,List.map_take,List.map_drop]
 rw[<-hs1]at q3;have nd1:((L.take n++(x,r)::L.drop n).map Prod.snd).Nodup:=by refine(pm.map Prod.snd).nodup_iff.mpr ?_;rw[ada];exact aeg.mpr ⟨hm,R.nd⟩
 have len1:(SetTable.insertAt es n (hf r,Value.ref x)).size=L.length+1:=by rw[jG ein,pm.length_eq];rfl
 generalize SetTable.insertAt es n (hf r,Value.ref x)=es1 at ein len1 |-
 have lenM:(L.take n++(x,r)::L.drop n).length=L.length+1:=pm.length_eq;generalize L.take n++(x,r)::L.drop n=M at pm q3 nd1 ein lenM;refine wpAny_bind (wpAny_storeSet_of ho hd ?_ (by rw[len1,sizeLine_eq];omega));have sb:Heap.SameBut a s.heap (s.heap.update a (Obj.putSet es1 t1)):=Heap.SameBut.update ..;have ho1:=store_at (es':=es1) (t':=t1) ho hd;generalize s.heap.update a (Obj.putSet es1 t1)=h1 at sb ho1 |-
 have ky1:∀p∈M,RI h1 p.2 p.1:=λp hp=>by
  rcases adt.mp (pm.mem_iff.mp hp) with e|m
  .rw[e];exact Bq hx ho hd sb
  .exact Bq (R.ky p m) ho hd sb
 have ld1:w.params.followText "set-order"=true\/t1.led=true:=by rw[q5];exact R.ld
 have full:t1.tooFull=true↔(L.length+1)*5 ≥ t1.mask*3:=by unfold SetTable.tooFull;rw[aem,q9,adi]
 by_cases hfu:t1.tooFull=true
 .first
   |(refine wpAny_bind ?_;refine wp_if_pos (by simp[hfu]) ?_)
   |(refine wp_if_pos (by simp[hfu]) ?_;refine wpAny_bind ?_)
  have over:=full.mp hfu;rw[len];have psz:t1.place.size=es1.size:=by have:=q3.sz;rw[adi,lenM]at this;rw[this,len1]
  have which:(t.mask=7/\L.length=4)\/(t.mask=31/\L.length=18):=by
   rcases R.tab.mok with e|e|e
   .rw[q4,e]at over;rw[e]at hfree;exact Or.inl ⟨e,by omega⟩
   .rw[q4,e]at over;rw[e]at hfree;exact Or.inr ⟨e,by omega⟩
   .rw[q4,e]at over;omega
  have go:∀m,SetTable.sizeAbove (SetTable.grown (L.length+1))-1=m->MaskOk m->SetTable.sizeAbove (SetTable.grown (L.length+1))<=128->(L.length+1)*5<m*3->
    wpAny (model P w) A (setRelay a (SetTable.grown (L.length+1))) (λ_ u=>wpAny (model P w) A (pure true) Q E u) E { s with heap:=h1 }:=λm g1 g2 g3 g4=>
   XC (s:={ s with heap:=h1 }) ho1 ⟨hex.1,hex.2.1,hex.2.2⟩ rfl ein psz q3.dm (by rw[len1,q4];rcases which with⟨e,e2⟩|⟨e,e2⟩<;>omega) nd1 ky1 pl1 ld1 (by rw[lenM];exact few1) g1 g2 g3 (by rw[lenM];exact g4)
    λh2 K es2 ep2 t2 sb2 R2 pm2=>wpAny_pure (q true h2 K es2 ep2 t2 (sb.trans sb2) R2 (λz=>absurd z hm) λ_=>pm2.trans pm)
  rcases which with⟨_,e2⟩|⟨_,e2⟩
  .exact go 31 (by rw[e2,size_20]) (.inr (.inl rfl)) (by rw[e2,size_20];decide) (by omega)
  .exact go 127 (by rw[e2,size_76]) (.inr (.inr rfl)) (by rw[e2,size_76];decide) (by omega)
 .first
   |refine wp_if_neg (by simp[hfu]) ?_
   |(refine wpAny_bind ?_;refine wp_if_neg (by simp[hfu]) ?_;refine wpAny_pure ?_)
  have under:¬(L.length+1)*5 ≥ t1.mask*3:=λz=>hfu (full.mpr z);exact wpAny_pure (q true h1 M es1 (ep+1) t1 sb ⟨⟨_,ho1,⟨hex.1,hex.2.1,hex.2.2⟩,rfl⟩,ein,q3,nd1,ky1,pl1,ld1,by rw[lenM];omega,by rw[lenM];exact few1⟩ (λz=>absurd z hm) λ_=>pm)
end
theorem BP{α:Type}[DecidableEq α]:∀(l D:List α),l.Nodup->(∀x∈l,x∈D)->l.length<=D.length
 |[],_,_,_=>adJ _
 |x::l,D,hn,hs=>by
  obtain⟨h1,h2⟩:=aeg.mp hn;have mx:=hs x adg;have ih:=BP l (D.erase x) h2 λy hy=>(List.mem_erase_of_ne (λe=>h1 (by rw[<-e];exact hy))).2 (hs y (adf _ hy));have e:=List.length_erase_of_mem mx;have hp:=List.length_pos_of_mem mx;rw[adl];omega
structure Has(ks:List Ent)(i:Nat)(L:List Ent):Prop where
 sub:∀p∈L,p∈ks.take i
 all:∀p∈ks.take i,p.2∈L.map Prod.snd
theorem mK{α:Type}{l:List α}{i:Nat}{x:α}(h:l[i]?=some x):l.take (i+1)=l.take i++[x]:=by rw[List.take_add_one,h];rfl
theorem Has.next{ks L K:List Ent}{i:Nat}{x:Ent}(g:Has ks i L)(h:ks[i]?=some x)(h1:x.2∈L.map Prod.snd->K=L)(h2:x.2∉L.map Prod.snd->K.Perm (x::L)):Has ks (i+1) K:=by
 by_cases c:x.2∈L.map Prod.snd
 .rw[h1 c];refine⟨λp hp=>?_,λp hp=>?_⟩
  .rw[mK h];exact List.mem_append_left _ (g.sub p hp)
  .rw[mK h]at hp;rcases adM.mp hp with m|m
   .exact g.all p m
   .rw[adu.mp m];exact c
 .have pm:=h2 c;refine⟨λp hp=>?_,λp hp=>?_⟩
  .rw[mK h];rcases adt.mp (pm.mem_iff.mp hp) with e|m
   .exact List.mem_append_right _ (adu.mpr e)
   .exact List.mem_append_left _ (g.sub p m)
  .rw[(pm.map Prod.snd).mem_iff,ada];rw[mK h]at hp;rcases adM.mp hp with m|m
   .exact adf _ (g.all p m)
   .rw[adu.mp m];exact adg
def jN(w:World):Obj:={ cls:=.type "set",dict:=none,data:=.set #[] 0 (.fresh 0 0 (!w.params.followText "set-order")) }
section
variable{P:Program}{w:World}{A:Around}{E:Value->Shared->Prop}{s:Shared}{hf:Rw->Int}
theorem fK.stay{h h':Heap}{a:Addr}{L:List Ent}{es:Array (Int×Value)}{ep:Nat}{t:SetTable}(R:fK hf w h a L es ep t)(ha:∀o,h.get? a=some o->h'.get? a=some o)(hk:∀p∈L,RI h' p.2 p.1):fK hf w h' a L es ep t:=by obtain⟨o,ho,r⟩:=R.ob;exact⟨⟨o,ha o ho,r⟩,R.en,R.tab,R.nd,hk,R.pl,R.ld,R.free,R.few⟩
theorem Nb{h:Heap}{a:Addr}(ho:h.get? a=some (jN w)):fK hf w h a [] #[] 0 (.fresh 0 0 (!w.params.followText "set-order")):=by
 refine⟨⟨_,ho,⟨rfl,rfl,rfl⟩,rfl⟩,rfl,⟨List.Pairwise.nil,rfl,rfl,.inl rfl,λx hx=>(by cases hx),λi h j hi=>(by simp at hi)⟩,adV,λp hp=>(by cases hp),rfl,?_,(show 0*5<7*3 by decide),adJ _⟩;show _\/(!w.params.followText "set-order")=true
 cases w.params.followText "set-order"
 .exact .inr rfl
 .exact .inl rfl
theorem Qs(hhf:∀r,(dX P w).hash r=hf r){I:Addr}{fp wr:List Addr}{G:Array GenState->Array GenState->Prop}{n:Nat}{Pv:Nat->Value->Prop}{St:Nat->Shared->Prop}{R:Result->Shared->Prop}(W:WalksS P w A.in1 I fp wr G n Pv St)(S:Addr)(hSf:S∉fp)(ks:List Ent)(hn:n=ks.length)
  (D:List Rw) (hD:D.length<=76) (hkD:∀p∈ks,p.2∈D) (hval:∀i v,Pv i v->∃p,ks[i]?=some p/\v=.ref p.1) (h0:Heap) (hk:∀p∈ks,RI h0 p.2 p.1) (hS0:h0.get? S=none) (hw0:∀b∈wr,h0.get? b=none) (hu:(dX P w).room A.in1) :
  ∀(m i:Nat) (s:Shared),n-i=m->i<=n->St i s->(∀b o,h0.get? b=some o->s.heap.get? b=some o)->(∃L es ep t,fK hf w s.heap S L es ep t/\Has ks i L)->
   (∀u L es ep t,Moved (S::wr) G s u->fK hf w u.heap S L es ep t->Has ks n L->(∀b o,h0.get? b=some o->u.heap.get? b=some o)->R (.ok (.ret .none)) u)->
   codeAny (model P w) A (.builtin "set.update.loop" ⟨[.ref S,.ref I],[]⟩) R s:=by
 have Sw:S∉wr:=λh=>hSf (W.sub _ h);have wS:∀b∈wr,b∈S::wr:=λb hb=>adf _ hb;have old:∀{s u:Shared},Moved wr G s u->(∀b o,h0.get? b=some o->s.heap.get? b=some o)->∀b o,h0.get? b=some o->u.heap.get? b=some o:=λhm hkp b o e=>hm.heap b o (λhb=>by rw[hw0 b hb]at e;cases e) (hkp b o e);intro m
 induction m with
 |zero=>
  intro i s hm0 hi hst hkp ⟨L,es,ep,t,hS,g⟩ hR
  obtain rfl:i=n:=by omega
  refine codeAny_builtin PyProof.Rows.F.entry_set_update_loop ?_;rw[Around.under_plainId PyProof.Rows.F.plain_set_update_loop _];refine wpAny_bind (W.done s _ _ hst λu hm=>?_);have kept:=old hm hkp;exact wpAny_pure (hR u L es ep t (hm.mono wS) (hS.stay (λo e=>hm.heap S o Sw e) λp hp=>xg (hk p (adS (g.sub p hp))) kept) g kept)
 |succ m ih=>
  intro i s hm0 hi hst hkp ⟨L,es,ep,t,hS,g⟩ hR;have hlt:i<n:=by omega
  refine codeAny_builtin PyProof.Rows.F.entry_set_update_loop ?_;rw[Around.under_plainId PyProof.Rows.F.plain_set_update_loop _];refine wpAny_bind (W.item i s _ _ hlt hst λv u hP hst' hm=>?_);obtain⟨p,hp,rfl⟩:=hval i v hP;have kept:=old hm hkp;have hS':fK hf w u.heap S L es ep t:=hS.stay (λo e=>hm.heap S o Sw e) λq hq=>xg (hk q (adS (g.sub q hq))) kept;have hx:RI u.heap p.2 p.1:=xg (hk p (adB hp)) kept;refine wpAny_bind (wpAny_holding ?_);unfold setAdd;refine wpAny_holding ?_;refine wpAny_bind ((dX P w).pyHash hu hx ?_);rw[hhf];have inD:∀y∈L.map Prod.snd,y∈D:=λy hy=>by
   obtain⟨q,hq,e⟩:=ado.mp hy;rw[<-e];exact hkD q (adS (g.sub q hq))
  refine Tp (s:={ u with toks:=u.toks+(dX P w).draws p.2 }) hS' hx hu (λhnew=>?_) λb h' K es' ep' t' sb hS2 c1 c2=>?_
  .have:=BP (p.2::L.map Prod.snd) D (aeg.mpr ⟨hnew,hS.nd⟩) λy hy=>by
    rcases adt.mp hy with e|hy
    .rw[e];exact hkD p (adB hp)
    .exact inD y hy
   rw[adl,adi]at this;omega
  have kept2:∀b o,h0.get? b=some o->h'.get? b=some o:=λb o e=>(sb.2 b (λz=>by rw[z,hS0]at e;cases e)).trans (kept b o e);refine wpAny_pure ⟨plainId_quiet PyProof.Rows.F.plain_set_update_loop _,ih (i+1) _ (by omega) hlt (W.frame _ u _ _ hst' (Nat.le_add_right _ _) λb hb o e=>?_) kept2 ⟨K,es',ep',t',hS2,g.next hp c1 c2⟩ λv L2 es2 ep2 t2 hm2 hS3 g3 k3=>?_⟩
  .rw[sb.2 b (λh:b=S=>hSf (by rw[<-h];exact hb))];exact e
  .refine hR v L2 es2 ep2 t2 (Moved.trans W.gtrans ((hm.mono wS).then_heap (Nat.le_add_right _ _) λb o hb e=>?_) hm2) hS3 g3 k3;rw[sb.2 b (λh:b=S=>hb (by rw[h];exact adg))];exact e
set_option maxHeartbeats 4000000 in
theorem Dm(hhf:∀r,(dX P w).hash r=hf r){l:Addr}{items:Array Value}(ks:List Ent)(D:List Rw)(hD:D.length<=76)(hkD:∀p∈ks,p.2∈D){Q:Value->Shared->Prop}(hh:A.handled=none)(hl:s.heap.IsList l items)(hit:items.toList=ks.map λp=>Value.ref p.1)
  (hk:∀p∈ks,RI s.heap p.2 p.1) (hu:A.units+3+8<cLine)
  (h:∀(h':Heap) (tk:Nat) L es ep t,fK hf w h' s.heap.objs.size L es ep t->Has ks ks.length L->(∀b o,s.heap.get? b=some o->h'.get? b=some o)->Q (.ref s.heap.objs.size) { s with heap:=h',toks:=tk }) :
  wpAny (model P w) A (call (.type "set") [.ref l]) Q E s:=by
 have isz:items.size=ks.length:=by rw[<-adG,hit,adi]
 obtain⟨cc,tl,hmro⟩:=PySem.F.called_set.mro;have hmade:=PySem.F.called_set.made;have hsub:=PySem.F.called_set.sub;refine wpAny_call (codeAny_of_tree ?_);show wpAny _ _ (callAny (.type "set") _) _ _ _
 refine wpAny_pure ⟨Code.quiet_builtin _ (by decide +kernel),codeAny_builtin PySem.F.entry_type_call ?_⟩;rw[Around.under_plain (weight_type_call_type "set" [.ref l] []) rfl]
 have nt:=PySem.F.called_set.notType;have cr:=PySem.F.called_set.canCreate;have hct:=PySem.F.typeCall_set_1 (.ref l)
 (repeat (any_goals first | assumption | wp_step))
 refine codeAny_mono (code_set_led1 (.ref l) (E:=E) (Q₁:=λv u=>v=.ref s.heap.objs.size/\u={ s with heap:=s.heap.push (jN w) }) ⟨rfl,rfl⟩) λr u hr=>?_;cases r with
 |error e=>exact hr
 |ok fl=>
  cases fl with
  |ret v=>
   obtain⟨rfl,rfl⟩:=hr;have hS:(s.heap.push (jN w)).get? s.heap.objs.size=some (jN w):=Heap.get?_push_size _ rfl;have hT:Shared.TypeIs { s with heap:=s.heap.push (jN w) } (.ref s.heap.objs.size) "set":=⟨_,hS,rfl⟩
   have hli:=PySem.F.called_set.init.lookup;have hbi:=PySem.F.called_set.init.bind (.ref s.heap.objs.size)
   (repeat (any_goals first | assumption | wp_step))
   refine codeAny_mono (codeAny_call_builtin (R:=wants (λr u=>r=.none/\∃h' tk L es ep t,u={ s with heap:=h',toks:=tk }/\fK hf w h' s.heap.objs.size L es ep t/\Has ks ks.length L/\∀b o,s.heap.get? b=some o->h'.get? b=some o) E) PySem.F.called_set.init.plain PySem.F.entry_set_init (check_set_init_1 hT ?_)) λr₂ u₂ hr₂=>?_
   .obtain⟨ol,hol,hcl,nl,hdl⟩:=hl;obtain⟨ocls,odict,odata,oslots⟩:=ol;simp only at hcl hdl;subst hcl;subst hdl;have hol':(s.heap.push (jN w)).get? l=some { cls:=.type "list",dict:=odict,data:=.seq items nl,slots:=oslots }:=Heap.get?_push_of_some _ hol
    have sl1:=PySem.F.sub_list_set;have sl2:=PySem.F.sub_list_frozenset;have nd:(Value.type "list"==Value.type "dict")=false:=by decide
    have hl1:(s.heap.push (jN w)).IsList l items:=⟨_,hol',rfl,nl,rfl⟩;unfold Builtin.«set.__init__» noKeywords Builtin.Frozenset.updateFrom;generalize hPI:pyIter=PI
    wp_walk
    subst hPI;refine wpAny_pyIter_list hl1 ?_;refine wpAny_bind (wpAny_runValue ?_);have lS:l<s.heap.objs.size:=Heap.lt_size hol;have h3:A.in1.in1.in1.handled=none:=by simp[hh]
    have sz1:(s.heap.push (jN w)).objs.size=s.heap.objs.size+1:=Heap.size_push ..;have lI:l≠(s.heap.push (jN w)).objs.size:=by rw[sz1];exact adC (adZ lS)
    have Sf:s.heap.objs.size∉[(s.heap.push (jN w)).objs.size,l]:=by rw[sz1];simp only[adt,adH,or_false,not_or];exact⟨adC (Nat.lt_succ_self _),Nat.ne_of_gt lS⟩
    have hval:∀(i:Nat) (v:Value),items[i]?=some v->∃p,ks[i]?=some p/\v=.ref p.1:=λi v hv=>by
     rw[<-adK,hit,adq]at hv;obtain⟨p,g1,g2⟩:=adX.mp hv;exact⟨p,g1,g2.symm⟩
    have fresh:∀b,s.heap.objs.size<=b->s.heap.get? b=none:=λb hb=>by
     cases q:s.heap.get? b with
     |none=>rfl
     |some o=>exact absurd (Heap.lt_size q) (Nat.not_lt_of_le hb)
    refine Qs hhf ((Walks.list h3 _ l lI items).toS) s.heap.objs.size Sf ks isz D hD hkD hval s.heap hk (fresh _ (adz _)) (λb hb=>fresh b (by rw[adu.mp hb,sz1];exact Nat.le_succ _)) hu (items.size-0) 0 _ (by omega) (adJ _)
     ⟨⟨_,Heap.get?_push_size _ rfl,rfl,rfl⟩,(hl1.push _)⟩ (λb o e=>Heap.get?_push_of_some _ (Heap.get?_push_of_some _ e)) ⟨[],#[],0,_,Nb (Heap.get?_push_of_some _ hS),⟨λp hp=>(by cases hp),λp hp=>(by simp at hp)⟩⟩ λu L es ep t hm hS' g' kp=>?_
    obtain⟨h',g2,d',tk',os'⟩:=u;have eg:g2=s.gens:=hm.gens;have ed:d'=s.drawn:=hm.drawn;have eo:os'=s.os:=hm.os;subst eg;subst ed;subst eo;refine wpAny_pure ?_;rw[isz]at g';exact wpAny_pure ⟨rfl,h',tk',L,es,ep,t,rfl,hS',g',kp⟩
   .cases r₂ with
    |error e=>exact hr₂
    |ok fl₂=>
     cases fl₂ with
     |ret r=>
      obtain⟨rfl,h',tk,L,es,ep,t,rfl,hS',g',hk'⟩:=hr₂
      (repeat (any_goals first | assumption | wp_step))
      exact h _ _ _ _ _ _ hS' g' hk'
     |_=>exact hr₂.elim
  |_=>exact hr.elim
end
def Hl(w:World)(h:Heap)(a:Addr)(L:List Ent):Prop:=∃(hf:Rw->Int) (es:Array (Int×Value)) (ep:Nat) (t:SetTable),(∃o,h.get? a=some o/\o.ExactSet/\o.data=.set es ep t)/\es.toList=ents hf L/\t.fits es.size=true/\Ris t.place.toList/\(w.params.followText "set-order"=true\/t.led=true)
def sG(w:World)(a:Addr)(L:List Ent):HO:=.ext λh=>Hl w h a L
section
variable{X:Cx}
theorem yF{P:Program}{w:World}{h:Heap}:∀(l:List Int) (us:List Value),Vals (l.map V.int) us->NestedAll h (l.map .num) us
 |[],_,.nil=>.nil
 |i::l,_,.cons r t=>by
  obtain⟨tk,rfl⟩:=r;exact .cons (.int i tk) (yF (P:=P) (w:=w) l _ t)
theorem yJ:∀{ks:List Ent} {us:List Value},Vals (ks.map λp=>V.ref p.1) us->us=ks.map λp=>Value.ref p.1
 |[],_,.nil=>rfl
 |p::ks,_,.cons r t=>by
  cases r;rw[yJ t];rfl
theorem yD{L:List Ent}:∀(out:List Value) (M:List Rw),PySem.W.EachIs (λv (r:Rw)=>∃p∈L,v=Value.ref p.1/\r=p.2) out M->∃ys:List V,Vals ys out/\bO (λv (r:Rw)=>∃p∈L,v=V.ref p.1/\r=p.2) ys M
 |[],[],.nil=>⟨[],.nil,bO.nil⟩
 |_::out,_::M,.cons ⟨p,hp,e1,e2⟩ k=>by
  obtain⟨ys,h1,h2⟩:=yD out M k;subst e1 e2;refine⟨.ref p.1::ys,.cons rfl h1,by rw[adl,adl,h2.1],λj u y g1 g2=>?_⟩;cases j with
  |zero=>
   cases g1;cases g2;exact⟨p,hp,rfl,rfl⟩
  |succ j=>exact h2.2 j u y g1 g2
end
def gF(da dc:Addr):List (Str×V):=putF ("circles" : Str) (.ref dc) (putF ("allowances" : Str) (.ref da) [])
structure Nr(C:Addr)(H:Hp)(p da dc:Addr)(al:List Int)(ci:List (List Int)):Prop where
 ob:∃dx,H p=some (.ins C dx (gF da dc))
 la:H da=some (.lst (al.map V.int))
 lc:∃us,H dc=some (.lst us)/\bO (pP H) us ci
 ne:da≠dc
theorem Nr.mono{C:Addr}{H H':Hp}(e:Ex H H'){p da dc:Addr}{al:List Int}{ci:List (List Int)}(g:Nr C H p da dc al ci):Nr C H' p da dc al ci:=by obtain⟨⟨dx,ob⟩,la,⟨us,h1,h2⟩,ne⟩:=g;exact⟨⟨dx,e _ _ ob⟩,e _ _ la,⟨us,e _ _ h1,h2.imp λ_ _ r=>r.mono e⟩,ne⟩
end Ear
namespace Rf
open PySem PySem.Spec PyProof.Rows L2 Evl
abbrev obj(h:Nat):Dat:=PyData.dict [(PyData.none,PyData.int (Int.ofNat h))]
inductive bV where
 |dat (d:Dat)|lst (n:Nat) (xs:List Dat)|dic (n:Bool) (kvs:List (Dat×Dat))
structure aC where
 f:Str->Option Addr
 fl:Str->List Str
 w:World
instance:CoeFun aC λ_=>Str->Option Addr:=⟨aC.f⟩
structure Inst where
 cls:Str
 fs:List (Str×bV)
abbrev Mo:=List Inst
inductive Cell where
 |dat (d:Dat)|mut (xs:List Dat)
abbrev Env:=List (Option Cell)
structure bJ where
 cls:Str
 fs:List (Str×Dat)
inductive Out(α:Type) where
 |ok (a:α)|exc (x:bJ)|bad
inductive aN(α:Type) where
 |ok (a:α) (M:Mo)|exc (x:bJ) (M:Mo)|bad
inductive fX where
 |next (Z:Env) (M:Mo)|ret (d:Dat) (M:Mo)|brk (Z:Env) (M:Mo)|cont (Z:Env) (M:Mo)|exc (x:bJ) (Z:Env) (M:Mo)|bad
structure Gh where
 tbl:List Addr
 ow:Addr->Option (Nat×Str)
 Lc:Addr->Prop
 Lo:Addr->Prop
 kl:Prop
abbrev Gh.tk(g:Gh):List Addr×Prop:=(g.tbl,g.kl)
theorem Gh.qm{g g':Gh}(e:g'.tk=g.tk):g'.tbl=g.tbl:=congrArg Prod.fst e
theorem Gh.kl1{g g':Gh}(e:g'.tk=g.tk):g'.kl=g.kl:=congrArg Prod.snd e
def Gh.W(g:Gh)(a:Addr):Prop:=a∈g.tbl\/g.ow a≠none
def Gh.A(g:Gh)(a:Addr):Prop:=g.W a\/g.Lc a\/g.Lo a
def pW:HO->Prop
 |.tup _=>False
 |.frz _ _=>False
 |_=>True
def Y6(K:ac8)(a:Addr)(xs:List V):Prop:=∃(o:Obj) (its:Array Value) (n:Nat),K.lookup a=some o/\o.cls=.type "list"/\o.dict=none/\o.data=.seq its n/\its.size<=sizeLine/\Vals xs its.toList
def uQ(K:ac8)(g:Gh)(H:Hp)(a:Addr)(xs:List V):Prop:=(H a=some (.lst xs)/\¬g.A a)\/(g.kl/\((Rd H a (.lst xs)/\¬g.A a)\/Y6 K a xs))
theorem uQ.sq{K:ac8}{g:Gh}{H:Hp}{a:Addr}{xs:List V}(h:uQ K g H a xs):SqL K H a xs:=h.elim (λz=>.inl (.inl z.1)) λz=>z.2.elim (λz=>.inl z.1) .inr
mutual
inductive Rep(K:ac8)(g:Gh)(H:Hp):V->Dat->Prop
 |non:Rep K g H .non .none
 |bl (b:Bool):Rep K g H (.bl b) (.bool b)
 |int (i:Int):Rep K g H (.int i) (.int i)
 |str (x:Str):Rep K g H (.str x) (.str x)
 |tup {a:Addr} {xs:List V} {ds:List Dat}:SqT K H a xs->au K g H xs ds->Rep K g H (.ref a) (.tuple ds)
 |lst {a:Addr} {xs:List V} {ds:List Dat}:uQ K g H a xs->au K g H xs ds->Rep K g H (.ref a) (.list ds)
 |obj {a:Addr} {h:Nat}:g.tbl[h]?=some a->Rep K g H (.ref a) (obj h)
inductive au(K:ac8)(g:Gh)(H:Hp):List V->List Dat->Prop
 |nil:au K g H [] []
 |cons {v:V} {vs:List V} {d:Dat} {ds:List Dat}:Rep K g H v d->au K g H vs ds->au K g H (v::vs) (d::ds)
end
structure Kd(g:Gh)(H:Hp):Prop where
 ob:∀a,g.A a->∃o,H a=some o/\pW o
 lo:∀a,g.Lo a->¬g.W a
 lc:∀a,g.Lc a->¬g.W a/\¬g.Lo a
structure Gr(q:Bool)(g g':Gh)(H H':Hp):Prop where
 keep:∀a o,H a=some o->¬g.W a->¬g.Lo a->H' a=some o
 keepW:q=true->∀a o,H a=some o->g.W a->H' a=some o
 dom:∀a,H' a=none->H a=none
 tbl:∃more,g'.tbl=g.tbl++more
 W:∀a,g.W a->g'.W a
 nW:∀a,g'.W a->g.W a\/H a=none
 qg:q=true->g'.tk=g.tk/\g'.ow=g.ow
 Lc:g'.Lc=g.Lc
 Lo:∀a,g.Lo a->g'.Lo a
 nLo:∀a,g'.Lo a->g.Lo a\/H a=none
 kl:g'.kl=g.kl
section
variable{K:ac8}{q:Bool}{g g' g2:Gh}{H H' H2:Hp}{v:V}{d:Dat}
theorem Gr.refl:Gr q g g H H:=⟨λ_ _ h _ _=>h,λ_ _ _ h _=>h,λ_ h=>h,⟨[],by simp⟩,λ_ h=>h,λ_ h=>.inl h,λ_=>⟨rfl,rfl⟩,rfl,λ_ h=>h,λ_ h=>.inl h,rfl⟩
theorem mD(e:Ex H H'):∀a,H' a=none->H a=none:=λa h=>by
 cases h1:H a with
 |none=>rfl
 |some o=>
  rw[e a o h1]at h;cases h
theorem Gr.ex(e:Ex H H'):Gr q g g H H':=⟨λa o h _ _=>e a o h,λ_ a o h _=>e a o h,mD e,⟨[],by simp⟩,λ_ h=>h,λ_ h=>.inl h,λ_=>⟨rfl,rfl⟩,rfl,λ_ h=>h,λ_ h=>.inl h,rfl⟩
theorem Gr.trans(a:Gr q g g' H H')(b:Gr q g' g2 H' H2):Gr q g g2 H H2 where
 keep:=λx o h nw nl=>by
  have h1:=a.keep x o h nw nl;refine b.keep x o h1 (λz=>?_) (λz=>?_)
  .rcases a.nW x z with z|z
   .exact nw z
   .rw[h]at z;cases z
  .rcases a.nLo x z with z|z
   .exact nl z
   .rw[h]at z;cases z
 keepW:=λhq x o h w=>b.keepW hq x o (a.keepW hq x o h w) (a.W x w)
 dom:=λx h=>a.dom x (b.dom x h)
 tbl:=by obtain⟨m1,e1⟩:=a.tbl;obtain⟨m2,e2⟩:=b.tbl;exact⟨m1++m2,by rw[e2,e1,List.append_assoc]⟩
 W:=λx h=>b.W x (a.W x h)
 nW:=λx h=>by
  rcases b.nW x h with z|z
  .exact a.nW x z
  .exact .inr (a.dom x z)
 qg:=λhq=>by
  obtain⟨e1,e2⟩:=a.qg hq;obtain⟨f1,f2⟩:=b.qg hq;exact⟨f1.trans e1,f2.trans e2⟩
 Lc:=b.Lc.trans a.Lc
 Lo:=λx h=>b.Lo x (a.Lo x h)
 nLo:=λx h=>by
  rcases b.nLo x h with z|z
  .exact a.nLo x z
  .exact .inr (a.dom x z)
 kl:=b.kl.trans a.kl
theorem Gr.loud(a:Gr q g g' H H'):Gr false g g' H H':=⟨a.keep,(λh=>nomatch h),a.dom,a.tbl,a.W,a.nW,(λh=>nomatch h),a.Lc,a.Lo,a.nLo,a.kl⟩
theorem Gr.nA(r:Gr q g g' H H'){a:Addr}{o:HO}(h:H a=some o)(n:¬g.A a):¬g'.A a:=λz=>by
 rcases z with z|z|z
 .rcases r.nW a z with z|z
  .exact n (.inl z)
  .rw[h]at z;cases z
 .rw[r.Lc]at z;exact n (.inr (.inl z))
 .rcases r.nLo a z with z|z
  .exact n (.inr (.inr z))
  .rw[h]at z;cases z
theorem Gr.rd(r:Gr q g g' H H'){a:Addr}{o:HO}(h:Rd H a o)(n:¬g.A a):Rd H' a o/\¬g'.A a:=by
 rcases h with h|⟨z,h⟩
 .exact⟨.inl (r.keep a _ h (λw=>n (.inl w)) λw=>n (.inr (.inr w))),r.nA h n⟩
 .exact⟨.inr ⟨z,r.keep a _ h (λw=>n (.inl w)) λw=>n (.inr (.inr w))⟩,r.nA h n⟩
theorem Kd.tup(k:Kd g H){a:Addr}{xs:List V}(h:Rd H a (.tup xs)):¬g.A a:=λz=>by
 obtain⟨o,e,m⟩:=k.ob a z;rcases h with h|⟨y,h⟩<;>(rw[h]at e;cases e;exact m)
theorem Gr.YH(r:Gr q g g' H H')(k:Kd g H){a:Addr}{xs:List V}(h:SqT K H a xs):SqT K H' a xs:=by
 rcases h with h|h
 .exact .inl (r.rd h (k.tup h)).1
 .exact .inr h
theorem Gr.ls(r:Gr q g g' H H'){a:Addr}{xs:List V}(h:uQ K g H a xs):uQ K g' H' a xs:=by
 rcases h with⟨h,n⟩|⟨hk,h⟩
 .exact .inl ⟨r.keep a _ h (λw=>n (.inl w)) λw=>n (.inr (.inr w)),r.nA h n⟩
 .rw[<-r.kl]at hk;exact .inr ⟨hk,h.elim (λ⟨h,n⟩=>.inl (r.rd h n)) .inr⟩
theorem Gr.tb(r:Gr q g g' H H'){h:Nat}{a:Addr}(e:g.tbl[h]?=some a):g'.tbl[h]?=some a:=by obtain⟨m,em⟩:=r.tbl;rw[em,adp (adb.mp e).1];exact e
mutual
theorem Rep.gr(r:Gr q g g' H H')(k:Kd g H):∀{v:V} {d:Dat},Rep K g H v d->Rep K g' H' v d
 |_,_,.non=>.non
 |_,_,.bl b=>.bl b
 |_,_,.int i=>.int i
 |_,_,.str x=>.str x
 |_,_,.tup h t=>.tup (r.YH k h) (au.gr r k t)
 |_,_,.lst h t=>.lst (r.ls h) (au.gr r k t)
 |_,_,.obj h=>.obj (r.tb h)
theorem au.gr(r:Gr q g g' H H')(k:Kd g H):∀{vs:List V} {ds:List Dat},au K g H vs ds->au K g' H' vs ds
 |_,_,.nil=>.nil
 |_,_,.cons h t=>.cons (Rep.gr r k h) (au.gr r k t)
end
mutual
theorem Rep.less(e:g'.tk=g.tk)(n:∀a,g'.A a->g.A a):∀{v:V} {d:Dat},Rep K g H v d->Rep K g' H v d
 |_,_,.non=>.non
 |_,_,.bl b=>.bl b
 |_,_,.int i=>.int i
 |_,_,.str x=>.str x
 |_,_,.tup h t=>.tup h (au.less e n t)
 |_,_,.lst h t=>.lst (h.elim (λz=>.inl ⟨z.1,λy=>z.2 (n _ y)⟩) λz=>.inr ⟨by rw[Gh.kl1 e];exact z.1,z.2.elim (λz=>.inl ⟨z.1,λy=>z.2 (n _ y)⟩) .inr⟩) (au.less e n t)
 |_,_,.obj h=>.obj (by rw[Gh.qm e];exact h)
theorem au.less(e:g'.tk=g.tk)(n:∀a,g'.A a->g.A a):∀{vs:List V} {ds:List Dat},au K g H vs ds->au K g' H vs ds
 |_,_,.nil=>.nil
 |_,_,.cons h t=>.cons (Rep.less e n h) (au.less e n t)
end
mutual
def lf:Dat->Bool
 |.list _=>false
 |.tuple ds=>dJ ds
 |.dict _=>true
 |.none=>true
 |.bool _=>true
 |.int _=>true
 |.str _=>true
def dJ:List Dat->Bool
 |[]=>true
 |d::ds=>lf d&&dJ ds
end
mutual
theorem Rep.free(e:g'.tbl=g.tbl):∀{v:V} {d:Dat},lf d=true->Rep K g H v d->Rep K g' H v d
 |_,_,_,.non=>.non
 |_,_,_,.bl b=>.bl b
 |_,_,_,.int i=>.int i
 |_,_,_,.str x=>.str x
 |_,_,f,.tup h t=>.tup h (au.free e (by rw[lf]at f;exact f) t)
 |_,_,f,.lst h t=>by rw[lf]at f;cases f
 |_,_,_,.obj h=>.obj (by rw[e];exact h)
theorem au.free(e:g'.tbl=g.tbl):∀{vs:List V} {ds:List Dat},dJ ds=true->au K g H vs ds->au K g' H vs ds
 |_,_,_,.nil=>.nil
 |_,_,f,.cons h t=>.cons (Rep.free e (by rw[dJ,ac9]at f;exact f.1) h) (au.free e (by rw[dJ,ac9]at f;exact f.2) t)
end
theorem au.length:∀{vs:List V} {ds:List Dat},au K g H vs ds->vs.length=ds.length
 |_,_,.nil=>rfl
 |_,_,.cons _ t=>congrArg (· + 1) t.length
theorem au.get:∀{vs:List V} {ds:List Dat} {i:Nat} {d:Dat},au K g H vs ds->ds[i]?=some d->∃v,vs[i]?=some v/\Rep K g H v d
 |_,_,_,_,.nil,e=>by simp at e
 |_,_,0,_,.cons h _,e=>by simp at e;subst e;exact⟨_,rfl,h⟩
 |_,_,i+1,_,.cons _ t,e=>by simpa using t.get (i:=i) (by simpa using e)
theorem au.get':∀{vs:List V} {ds:List Dat} {i:Nat} {v:V},au K g H vs ds->vs[i]?=some v->∃d,ds[i]?=some d/\Rep K g H v d
 |_,_,_,_,.nil,e=>by simp at e
 |_,_,0,_,.cons h _,e=>by simp at e;subst e;exact⟨_,rfl,h⟩
 |_,_,i+1,_,.cons _ t,e=>by simpa using t.get' (i:=i) (by simpa using e)
theorem au.append:∀{vs ws:List V} {ds es:List Dat},au K g H vs ds->au K g H ws es->au K g H (vs++ws) (ds++es)
 |_,_,_,_,.nil,t=>t
 |_,_,_,_,.cons h r,t=>.cons h (r.append t)
theorem au.take:∀{vs:List V} {ds:List Dat} (n:Nat),au K g H vs ds->au K g H (vs.take n) (ds.take n)
 |_,_,0,_=>.nil
 |_,_,_+1,.nil=>.nil
 |_,_,n+1,.cons h t=>.cons h (t.take n)
theorem au.drop:∀{vs:List V} {ds:List Dat} (n:Nat),au K g H vs ds->au K g H (vs.drop n) (ds.drop n)
 |_,_,0,t=>t
 |_,_,_+1,.nil=>.nil
 |_,_,n+1,.cons _ t=>t.drop n
theorem au.set{v:V}{d:Dat}(r:Rep K g H v d):∀{vs:List V} {ds:List Dat} (i:Nat),au K g H vs ds->au K g H (vs.set i v) (ds.set i d)
 |_,_,_,.nil=>.nil
 |_,_,0,.cons _ t=>.cons r t
 |_,_,i+1,.cons h t=>.cons h (t.set r i)
theorem Gr.upd{l:Addr}{o o':HO}(k:Kd g H)(h:H l=some o)(w:(g.W l/\q=false)\/g.Lo l):Gr q g g H (L2.upd H l o') where
 keep:=λa u e nw nl=>by
  rw[upd_ne (λz=>by subst z;exact w.elim (λw=>nw w.1) nl)];exact e
 keepW:=λhq a u e wa=>by
  rcases w with w|w
  .rw[hq]at w;cases w.2
  .rw[upd_ne (λz=>by subst z;exact k.lo _ w wa)];exact e
 dom:=λa e=>by
  by_cases z:a=l
  .subst z;rw[aeu]at e;cases e
  .rw[upd_ne z]at e;exact e
 tbl:=⟨[],by simp⟩
 W:=λ_ h=>h
 nW:=λ_ h=>.inl h
 qg:=λ_=>⟨rfl,rfl⟩
 Lc:=rfl
 Lo:=λ_ h=>h
 nLo:=λ_ h=>.inl h
 kl:=rfl
theorem Kd.ex(k:Kd g H)(e:Ex H H'):Kd g H':=⟨λa z=>let⟨o,h,m⟩:=k.ob a z;⟨o,e a o h,m⟩,k.lo,k.lc⟩
theorem Kd.upd(k:Kd g H){l:Addr}{o:HO}(m:pW o):Kd g (L2.upd H l o):=⟨λa z=>by
 by_cases e:a=l
 .subst e;exact⟨o,aeu,m⟩
 .rw[upd_ne e];exact k.ob a z,k.lo,k.lc⟩
theorem Rep.ex(e:Ex H H')(k:Kd g H)(h:Rep K g H v d):Rep K g H' v d:=h.gr (Gr.ex (q:=true) e) k
theorem au.ex{vs:List V}{ds:List Dat}(e:Ex H H')(k:Kd g H)(h:au K g H vs ds):au K g H' vs ds:=h.gr (Gr.ex (q:=true) e) k
end
def keyD:Key->Dat
 |.inl i=>.int i
 |.inr x=>.str x
def bY(l:Addr)(o:Obj):HO:=.ext λh=>h.get? l=some o
abbrev dN:Type:=NestedKey×Addr×Value
def Jk(w:World)(x:dN):DictEntry:=⟨x.1.hash w,.ref x.2.1,x.2.2⟩
structure dw(w:World)(l:Addr)(o:Obj)(xs:List dN):Prop where
 sys:(l==sysModules)=false
 ex:o.ExactDict
 ent:∃es ep,o.data=.dict es ep/\es.toList=xs.map (Jk w)
 nd:(xs.map (·.1)).Nodup
 len:xs.length<=sizeLine
 dep:∀x∈xs,x.1.depth<=8
def bT(K:ac8)(aj:aC)(g:Gh)(H:Hp)(l:Addr):Bool->List (Dat×Dat)->Prop
 |false,kvs=>∃kv:List (Key×V),H l=some (.dK kv)/\kvs.map (·.1)=kv.map (λp=>keyD p.1)/\au K g H (kv.map (·.2)) (kvs.map (·.2))
 |true,kvs=>∃(o:Obj) (xs:List dN) (vs:List V),H l=some (bY l o)/\dw aj.w l o xs/\kvs.map (·.1)=xs.map (λx=>x.1.data)/\au K g H (xs.map λx=>V.ref x.2.1) (kvs.map (·.1))/\Vals vs (xs.map (·.2.2))/\au K g H vs (kvs.map (·.2))
def bh(K:ac8)(aj:aC)(g:Gh)(H:Hp)(h:Nat)(f:Str)(v:V):bV->Prop
 |.dat d=>Rep K g H v d
 |.lst n xs=>∃l us,v=.ref l/\H l=some (.lst us)/\g.ow l=some (h,f)/\au K g H us xs/\g.tbl[n]?=some l
 |.dic n kvs=>∃l,v=.ref l/\g.ow l=some (h,f)/\bT K aj g H l n kvs
inductive aP(K:ac8)(aj:aC)(g:Gh)(H:Hp)(h:Nat):List (Str×V)->List (Str×bV)->Prop
 |nil:aP K aj g H h [] []
 |cons {f:Str} {v:V} {fl:bV} {fs:List (Str×V)} {gs:List (Str×bV)}:bh K aj g H h f v fl->aP K aj g H h fs gs->aP K aj g H h ((f,v)::fs) ((f,fl)::gs)
structure bK(K:ac8)(aj:aC)(g:Gh)(H:Hp)(M:Mo):Prop where
 len:g.tbl.length=M.length
 inj:∀(h k:Nat) (a:Addr),g.tbl[h]?=some a->g.tbl[k]?=some a->h=k
 ins:∀(h:Nat) (a:Addr) (i:Inst),g.tbl[h]?=some a->M[h]?=some i->i.cls≠""->∃C dx fs,aj i.cls=some C/\H a=some (.ins C dx fs)/\aP K aj g H h fs i.fs
 nd:∀(h:Nat) (i:Inst),M[h]?=some i->(i.fs.map (·.1)).Nodup
 fd:∀(h:Nat) (i:Inst),M[h]?=some i->∀f∈i.fs.map (·.1),f∈aj.fl i.cls
 tw:∀(h:Nat) (a:Addr) (i:Inst),g.tbl[h]?=some a->M[h]?=some i->i.cls≠""->g.ow a=none
 dm:∀(h:Nat) (i:Inst),M[h]?=some i->i.cls=""->i.fs=[]
 nc:aj ""=none
structure SInv(K:ac8)(aj:aC)(σ:L2.St)(H:Hp)(g:Gh)(Z:Env)(M:Mo):Prop where
 kd:Kd g H
 wok:bK K aj g H M
 len:σ.length=Z.length
 dat:∀(i:Nat) (d:Dat),Z[i]?=some (some (.dat d))->∃v,σ[i]?=some (some v)/\Rep K g H v d
 own:∀(i:Nat) (xs:List Dat),Z[i]?=some (some (.mut xs))->∃l us,σ[i]?=some (some (.ref l))/\H l=some (.lst us)/\g.Lo l/\au K g H us xs
 sep:∀(i j:Nat) (xs ys:List Dat) (l:Addr),i≠j->Z[i]?=some (some (.mut xs))->Z[j]?=some (some (.mut ys))->σ[i]?=some (some (.ref l))->σ[j]?≠some (some (.ref l))
section
variable{K:ac8}{aj:aC}{q:Bool}{g g' g2:Gh}{H H' H2:Hp}{v:V}{d:Dat}{σ:L2.St}{Z:Env}{M:Mo}
theorem bT.ex{l:Addr}:∀{n:Bool} {kvs:List (Dat×Dat)} (e:Ex H H') (k:Kd g H) (h:bT K aj g H l n kvs),bT K aj g H' l n kvs
 |false,_,e,k,⟨kv,h1,h2,h3⟩=>⟨kv,e _ _ h1,h2,h3.ex e k⟩
 |true,_,e,k,⟨o,xs,vs,h1,h2,h3,h4,h5,h6⟩=>⟨o,xs,vs,e _ _ h1,h2,h3,h4.ex e k,h5,h6.ex e k⟩
theorem bh.ex{h:Nat}{f:Str}(e:Ex H H')(k:Kd g H):∀{fl:bV},bh K aj g H h f v fl->bh K aj g H' h f v fl
 |.dat _,r=>Rep.ex e k r
 |.lst _ _,⟨l,us,h1,h2,h3,h4,h5⟩=>⟨l,us,h1,e _ _ h2,h3,h4.ex e k,h5⟩
 |.dic _ _,⟨l,h1,h2,h3⟩=>⟨l,h1,h2,h3.ex e k⟩
theorem aP.ex{h:Nat}(e:Ex H H')(k:Kd g H):∀{fs:List (Str×V)} {gs:List (Str×bV)},aP K aj g H h fs gs->aP K aj g H' h fs gs
 |_,_,.nil=>.nil
 |_,_,.cons r t=>.cons (bh.ex e k r) (aP.ex e k t)
theorem bK.ex(e:Ex H H')(k:Kd g H)(w:bK K aj g H M):bK K aj g H' M:=⟨w.len,w.inj,λh a i ha hi hc=>by
 obtain⟨C,dx,fs,c1,c2,c3⟩:=w.ins h a i ha hi hc;exact⟨C,dx,fs,c1,e _ _ c2,c3.ex e k⟩,w.nd,w.fd,w.tw,w.dm,w.nc⟩
theorem SInv.ex(e:Ex H H')(I:SInv K aj σ H g Z M):SInv K aj σ H' g Z M:=⟨I.kd.ex e,I.wok.ex e I.kd,I.len,λi d h=>by
 obtain⟨v,h1,h2⟩:=I.dat i d h;exact⟨v,h1,h2.ex e I.kd⟩,λi xs h=>by
 obtain⟨l,us,h1,h2,h3,h4⟩:=I.own i xs h;exact⟨l,us,h1,e _ _ h2,h3,h4.ex e I.kd⟩,I.sep⟩
theorem aP.get{h:Nat}{f:Str}{fl:bV}:∀{fs:List (Str×V)} {gs:List (Str×bV)},aP K aj g H h fs gs->gs.lookup f=some fl->∃v,fs.lookup f=some v/\bh K aj g H h f v fl
 |_,_,.nil,e=>nomatch e
 |_,_,.cons (f:=f') (v:=v) (fl:=fl') r t,e=>by
  rw[adE]at e;rw[adE];cases hb:f==f' with
  |true=>
   rw[hb]at e;cases e;have ef:f=f':=by simpa using hb
   subst ef;exact⟨v,rfl,r⟩
  |false=>
   rw[hb]at e;exact t.get e
theorem aP.no{h:Nat}{f:Str}:∀{fs:List (Str×V)} {gs:List (Str×bV)},aP K aj g H h fs gs->gs.lookup f=none->fs.lookup f=none
 |_,_,.nil,_=>rfl
 |_,_,.cons (f:=f') (v:=v) (fl:=fl') r t,e=>by
  rw[adE]at e;rw[adE];cases hb:f==f' with
  |true=>
   rw[hb]at e;cases e
  |false=>
   rw[hb]at e;exact t.no e
end
def Out.bind{α β:Type}(o:Out α)(k:α->Out β):Out β:=
 match o with
 |.ok a=>k a
 |.exc x=>.exc x
 |.bad=>.bad
def Out.sat{α:Type}(o:Out α)(P:α->Prop)(E:bJ->Prop):Prop:=
 match o with
 |.ok a=>P a
 |.exc x=>E x
 |.bad=>False
@[simp]theorem Out.yc {α β:Type} (a:α) (k:α->Out β):(Out.ok a).bind k=k a:=rfl
@[simp]theorem Out.Nh {α β:Type} (x:bJ) (k:α->Out β):(Out.exc x:Out α).bind k=.exc x:=rfl
@[simp]theorem Out.MN {α β:Type} (k:α->Out β):(Out.bad:Out α).bind k=.bad:=rfl
theorem Out.sat.bnd{α β:Type}{o:Out α}{k:α->Out β}{P:β->Prop}{E:bJ->Prop}(h:(o.bind k).sat P E):o.sat (λa=>(k a).sat P E) E:=by cases o<;>exact h
theorem Out.sat.mono{α:Type}{o:Out α}{P P':α->Prop}{E E':bJ->Prop}(h:o.sat P E)(hp:∀a,P a->P' a)(he:∀x,E x->E' x):o.sat P' E':=by
 cases o
 .exact hp _ h
 .exact he _ h
 .exact h
def Out.when{α:Type}(b:Bool)(o:Out α):Out α:=if b=true then o else .bad
@[simp]theorem Out.Jb {α:Type} (o:Out α):Out.when true o=o:=rfl
@[simp]theorem Out.Yj {α:Type} (o:Out α):Out.when false o=.bad:=rfl
theorem Out.sat.fB{α:Type}{b:Bool}{o:Out α}{P:α->Prop}{E:bJ->Prop}(h:(Out.when b o).sat P E):b=true/\o.sat P E:=by
 cases b
 .exact ael h
 .exact⟨rfl,h⟩
inductive cI(K:ac8)(g:Gh)(H:Hp):List (Str×V)->List (Str×Dat)->Prop
 |nil:cI K g H [] []
 |cons {f:Str} {v:V} {d:Dat} {fs:List (Str×V)} {gs:List (Str×Dat)}:Rep K g H v d->cI K g H fs gs->cI K g H ((f,v)::fs) ((f,d)::gs)
def dG(K:ac8)(aj:aC)(g:Gh)(H:Hp)(x:bJ)(c:Value)(dd:Option Addr):Prop:=
 ∃C,aj x.cls=some C/\c=.ref C/\((x.fs=[]/\dd=none)\/∃a fs,dd=some a/\H a=some (.xd fs)/\cI K g H fs x.fs)
abbrev QF:=Mo->Env->Out Dat
abbrev QT:=Mo->Env->Out Bool
abbrev QA:=Mo->Env->Out (List Dat)
section
variable(K:ac8)(aj:aC)(W:WX)
def fO(g:Gh)(H:Hp)(σ:L2.St)(x:bJ):Prop:=∀H' c dd,Ex H H'->dG K aj g H' x c dd->W c dd σ H'
def tQ(f:QF):TE:=λσ H Q=>∃g Z M,SInv K aj σ H g Z M/\(f M Z).sat (λd=>∀v H',Ex H H'->Rep K g H' v d->Q v H') (fO K aj W g H σ)
def cW(f:QT):TT:=λσ H Q=>∃g Z M,SInv K aj σ H g Z M/\(f M Z).sat (λb=>∀H',Ex H H'->Q b H') (fO K aj W g H σ)
def ux(f:QA):TA:=λσ H Q=>∃g Z M,SInv K aj σ H g Z M/\(f M Z).sat (λds=>∀vs H',Ex H H'->au K g H' vs ds->Q vs H') (fO K aj W g H σ)
end
section
variable{K:ac8}{aj:aC}{W:WX}{g:Gh}{H H1:Hp}{σ:L2.St}{Z:Env}{M:Mo}
theorem fO.ex{x:bJ}(e:Ex H H1)(h:fO K aj W g H σ x):fO K aj W g H1 σ x:=λH' c dd e' r=>h H' c dd (e.trans e') r
theorem tQ.go{f:QF}{k:Dat->Prop}{Q:VK}(I:SInv K aj σ H g Z M)(h:(f M Z).sat k (fO K aj W g H σ))(hk:∀d v H',k d->Ex H H'->Rep K g H' v d->Q v H'):tQ K aj W f σ H Q:=
 ⟨g,Z,M,I,h.mono (λd hd v H' e r=>hk d v H' hd e r) λ_ z=>z⟩
theorem cW.go{f:QT}{k:Bool->Prop}{Q:Bool->Hp->Prop}(I:SInv K aj σ H g Z M)(h:(f M Z).sat k (fO K aj W g H σ))(hk:∀b H',k b->Ex H H'->Q b H'):cW K aj W f σ H Q:=
 ⟨g,Z,M,I,h.mono (λd hd H' e=>hk d H' hd e) λ_ z=>z⟩
theorem ux.go{f:QA}{k:List Dat->Prop}{Q:List V->Hp->Prop}(I:SInv K aj σ H g Z M)(h:(f M Z).sat k (fO K aj W g H σ))(hk:∀ds vs H',k ds->Ex H H'->au K g H' vs ds->Q vs H'):ux K aj W f σ H Q:=
 ⟨g,Z,M,I,h.mono (λd hd v H' e r=>hk d v H' hd e r) λ_ z=>z⟩
end
def QE(aj:aC)(X:Cx)(W:WX)(e:Expr)(f:QF):Prop:=PE X e (tQ X.K aj W f)
def gG(aj:aC)(X:Cx)(W:WX)(e:Expr)(f:QT):Prop:=PT X e (cW X.K aj W f)
def mZ(aj:aC)(X:Cx)(W:WX)(es:List Expr)(f:QA):Prop:=PA X es (ux X.K aj W f)
theorem PE.weak{X:Cx}{e:Expr}{t t':TE}(h:PE X e t)(k:∀σ H Q,t' σ H Q->t σ H Q):PE X e t':=⟨λpins s σ H Q I q=>h.run pins s σ H Q I (k σ H Q q)⟩
theorem PT.weak{X:Cx}{e:Expr}{t t':TT}(h:PT X e t)(k:∀σ H Q,t' σ H Q->t σ H Q):PT X e t':=⟨λpins s σ H Q I q=>h.run pins s σ H Q I (k σ H Q q)⟩
theorem PA.weak{X:Cx}{e:List Expr}{t t':TA}(h:PA X e t)(k:∀σ H Q,t' σ H Q->t σ H Q):PA X e t':=⟨λpos pins s σ H Q I q=>h.run pos pins s σ H Q I (k σ H Q q)⟩
def aq(i:Nat):QF:=λ_ Z=>match Z[i]? with
 |some (some (.dat d))=>.ok d
 |_=>.bad
def qC(d:Dat):QF:=λ_ _=>.ok d
def aA(o:Dat->Dat->Out Dat)(a b:QF):QF:=λM Z=>(a M Z).bind λx=>(b M Z).bind λy=>o x y
def fD(o:Dat->Out Dat)(a:QF):QF:=λM Z=>(a M Z).bind o
def aH:QA:=λ_ _=>.ok []
def ao(a:QF)(r:QA):QA:=λM Z=>(a M Z).bind λx=>(r M Z).bind λxs=>.ok (x::xs)
def dh(r:QA):QF:=λM Z=>(r M Z).bind λxs=>Out.when (decide (xs.length<=100000)) (.ok (.tuple xs))
def ig(r:QA):QF:=λM Z=>(r M Z).bind λxs=>Out.when (decide (xs.length<=100000)) (.ok (.list xs))
section
variable{X:Cx}{aj:aC}{W:WX}{a b:Expr}{fa fb:QF}{pos:Pos}
theorem Vu{i:Nat}{x:Str}(hN:X.N[i]?=some x)(hv:Vis X.env.scope x)(hd:(x==("__debug__" : Str))=false)(hcd:(x==("__classdict__" : Str))=false):QE aj X W (.Name x pos) (aq i):=
 PE.weak (pe_var hN hv hd hcd) λσ H Q ⟨g,Z,M,I,h⟩=>by
  unfold aq at h;split at h
  .next d e=>
   obtain⟨v,h1,h2⟩:=I.dat i d e;exact⟨v,h1,h v H (Ex.refl H) h2⟩
  .exact ael h
theorem SQ{i:Int}{j:Nat}:QE aj X W (.Constant (.int i) j pos) (qC (.int i)):=PE.weak pe_int λσ H Q ⟨g,Z,M,I,h⟩=>h _ H (Ex.refl H) (.int i)
theorem Uw{x:Str}{j:Nat}:QE aj X W (.Constant (.str x) j pos) (qC (.str x)):=PE.weak pe_str λσ H Q ⟨g,Z,M,I,h⟩=>h _ H (Ex.refl H) (.str x)
theorem Xf{x:Bool}{j:Nat}:QE aj X W (.Constant (.bool x) j pos) (qC (.bool x)):=PE.weak pe_bl λσ H Q ⟨g,Z,M,I,h⟩=>h _ H (Ex.refl H) (.bl x)
theorem Vm{j:Nat}:QE aj X W (.Constant .none j pos) (qC .none):=PE.weak pe_non λσ H Q ⟨g,Z,M,I,h⟩=>h _ H (Ex.refl H) .non
theorem Vj:mZ aj X W [] aH:=PA.weak pa_nil λσ H Q ⟨g,Z,M,I,h⟩=>h [] H (Ex.refl H) .nil
theorem Qo{es:List Expr}{fr:QA}(ha:QE aj X W a fa)(hr:mZ aj X W es fr)(hs:starEach (a::es) X.env=(false,eval a X.env)::starEach es X.env):mZ aj X W (a::es) (ao fa fr):=
 PA.weak (pa_cons ha hr hs) λσ H Q ⟨g,Z,M,I,h⟩=>by
  refine tQ.go I h.bnd λd v H1 h1 e1 r1=>?_;refine ux.go (I.ex e1) (h1.bnd.mono (λ_ z=>z) λ_ z=>z.ex e1) λds vs H2 h2 e2 r2=>?_;exact h2 (v::vs) H2 (e1.trans e2) (.cons (r1.ex e2 (I.kd.ex e1)) r2)
theorem T7{es:List Expr}{fr:QA}{k:Nat}(h:mZ aj X W es fr):QE aj X W (.Tuple es k pos) (dh fr):=
 PE.weak (pe_tup h) λσ H Q ⟨g,Z,M,I,h⟩=>by
  refine ux.go I h.bnd λds vs H1 h1 e1 r1=>?_;obtain⟨hz,h1⟩:=h1.fB;have hl:vs.length<=100000:=by rw[r1.length];exact aen hz
  refine⟨sz_of hl,λp np=>h1 (.ref p) _ (e1.trans (Ex.new np)) (.tup (st_of aeu) (r1.ex (Ex.new np) (I.kd.ex e1)))⟩
theorem Kd.fresh{g:Gh}{H:Hp}(k:Kd g H){p:Addr}(n:H p=none):¬g.A p:=λz=>by
 obtain⟨o,e,_⟩:=k.ob p z;rw[n]at e;cases e
theorem U9{es:List Expr}{fr:QA}(h:mZ aj X W es fr):QE aj X W (.List es pos) (ig fr):=
 PE.weak (pe_lst h) λσ H Q ⟨g,Z,M,I,h⟩=>by
  refine ux.go I h.bnd λds vs H1 h1 e1 r1=>?_;obtain⟨hz,h1⟩:=h1.fB;have hl:vs.length<=100000:=by rw[r1.length];exact aen hz
  refine⟨sz_of hl,λp np=>h1 (.ref p) _ (e1.trans (Ex.new np)) (.lst (.inl ⟨aeu,(I.kd.ex e1).fresh np⟩) (r1.ex (Ex.new np) (I.kd.ex e1)))⟩
end
def bB(K:ac8)(g:Gh)(H:Hp)(v:V):Dat->Prop
 |.list ds=>∃a us,v=.ref a/\SqL K H a us/\au K g H us ds
 |d=>Rep K g H v d
section
variable{K:ac8}{g:Gh}{H H':Hp}{v:V}{d:Dat}
theorem Rep.weak(h:Rep K g H v d):bB K g H v d:=by
 cases h with
 |lst a t=>exact⟨_,_,rfl,a.sq,t⟩
 |non=>exact .non
 |bl b=>exact .bl b
 |int i=>exact .int i
 |str x=>exact .str x
 |tup a t=>exact .tup a t
 |obj a=>exact .obj a
theorem bB.ex(e:Ex H H')(k:Kd g H)(h:bB K g H v d):bB K g H' v d:=by
 cases d with
 |list ds=>
  obtain⟨a,us,h1,h2,h3⟩:=h;exact⟨a,us,h1,ex_l e h2,h3.ex e k⟩
 |_=>exact Rep.ex e k h
theorem aQ{i:Int}(h:bB K g H v (.int i)):v=.int i:=by cases h;rfl
theorem cR{x:Str}(h:bB K g H v (.str x)):v=.str x:=by cases h;rfl
theorem mW{b:Bool}(h:bB K g H v (.bool b)):v=.bl b:=by cases h;rfl
theorem oK(h:bB K g H v .none):v=.non:=by cases h;rfl
theorem dD{ds:List Dat}(h:bB K g H v (.tuple ds)):∃a us,v=.ref a/\SqT K H a us/\au K g H us ds:=by
 cases h with
 |tup a t=>exact⟨_,_,rfl,a,t⟩
theorem cD{ds:List Dat}(h:bB K g H v (.list ds)):∃a us,v=.ref a/\SqL K H a us/\au K g H us ds:=h
theorem qL{n:Nat}(h:bB K g H v (obj n)):∃a,v=.ref a/\g.tbl[n]?=some a:=by
 cases h with
 |obj a=>exact⟨_,rfl,a⟩
end
section
variable(K:ac8)(aj:aC)(W:WX)
def tW(f:QF):TE:=λσ H Q=>∃g Z M,SInv K aj σ H g Z M/\(f M Z).sat (λd=>∀v H',Ex H H'->bB K g H' v d->Q v H') (fO K aj W g H σ)
end
theorem tW.go{K:ac8}{aj:aC}{W:WX}{g:Gh}{H:Hp}{σ:L2.St}{Z:Env}{M:Mo}{f:QF}{k:Dat->Prop}{Q:VK}(I:SInv K aj σ H g Z M)(h:(f M Z).sat k (fO K aj W g H σ))(hk:∀d v H',k d->Ex H H'->bB K g H' v d->Q v H'):tW K aj W f σ H Q:=
 ⟨g,Z,M,I,h.mono (λd hd v H' e r=>hk d v H' hd e r) λ_ z=>z⟩
def QW(aj:aC)(X:Cx)(W:WX)(e:Expr)(f:QF):Prop:=PE X e (tW X.K aj W f)
theorem QE.w{aj:aC}{X:Cx}{W:WX}{e:Expr}{f:QF}(h:QE aj X W e f):QW aj X W e f:=
 PE.weak h λσ H Q ⟨g,Z,M,I,z⟩=>⟨g,Z,M,I,z.mono (λ_ k v H' e r=>k v H' e r.weak) λ_ y=>y⟩
def ak(i:Nat):QF:=λ_ Z=>match Z[i]? with
 |some (some (.dat d))=>.ok d
 |some (some (.mut xs))=>.ok (.list xs)
 |_=>.bad
def eV(aj:aC)(K:ac8)(W:WX)(o:Dat->Dat->Out Dat)(r:R2):Prop:=∀(σ:L2.St) (g:Gh) (H:Hp) (x y:V) (d e:Dat) (Q:VK),Kd g H->bB K g H x d->bB K g H y e->
 (o d e).sat (λz=>∀v H',Ex H H'->Rep K g H' v z->Q v H') (fO K aj W g H σ)->r x y H Q
section
variable{X:Cx}{aj:aC}{W:WX}{a b c:Expr}{fa fb fc:QF}{pos:Pos}
theorem Wj{i:Nat}{x:Str}(hN:X.N[i]?=some x)(hv:Vis X.env.scope x)(hd:(x==("__debug__" : Str))=false)(hcd:(x==("__classdict__" : Str))=false):QW aj X W (.Name x pos) (ak i):=
 PE.weak (pe_var hN hv hd hcd) λσ H Q ⟨g,Z,M,I,h⟩=>by
  unfold ak at h;split at h
  .next d e=>
   obtain⟨v,h1,h2⟩:=I.dat i d e;exact⟨v,h1,h v H (Ex.refl H) h2.weak⟩
  .next xs e=>
   obtain⟨l,us,h1,h2,h3,h4⟩:=I.own i xs e;exact⟨.ref l,h1,h _ H (Ex.refl H) ⟨l,us,rfl,sq_of h2,h4⟩⟩
  .exact ael h
theorem vZ{o:Dat->Dat->Out Dat}{r:R2}(ho:eV aj X.K W o r)(σ:L2.St)(H:Hp)(Q:VK)(h:tQ X.K aj W (aA o fa fb) σ H Q):tOp r (tW X.K aj W fa) (tW X.K aj W fb) σ H Q:=by obtain⟨g,Z,M,I,h⟩:=h;refine tW.go I h.bnd λd v H1 h1 e1 r1=>?_;refine tW.go (I.ex e1) (h1.bnd.mono (λ_ z=>z) λ_ z=>z.ex e1) λd2 v2 H2 h2 e2 r2=>?_;refine ho σ g H2 v v2 d d2 Q ((I.kd.ex e1).ex e2) (r1.ex e2 (I.kd.ex e1)) r2 (h2.mono (λz hz u H' e' r'=>hz u H' ((e1.trans e2).trans e') r') λ_ z=>(z.ex e1).ex e2)
theorem Uk{op:Operator}{r:R2}{o:Dat->Dat->Out Dat}(hr:OpR X (binaryOp op) r)(ho:eV aj X.K W o r)(ha:QW aj X W a fa)(hb:QW aj X W b fb):QE aj X W (.BinOp a op b pos) (aA o fa fb):=
 PE.weak (pe_op hr ha hb) λσ H Q h=>vZ ho σ H Q h
theorem RL{op:CmpOp}{r:R2}{o:Dat->Dat->Out Dat}(hr:OpR X (compareOp op) r)(ho:eV aj X.K W o r)(ha:QW aj X W a fa)(hb:QW aj X W b fb)(hm:behindInMarks op b=false):QE aj X W (.Compare a [op] [b] pos) (aA o fa fb):=
 PE.weak (pe_cmpR hr ha hb hm) λσ H Q h=>vZ ho σ H Q h
end
instance:DecidableRel CMul:=λi j=>by unfold CMul;infer_instance
instance:DecidableRel CDiv:=λi j=>by unfold CDiv;infer_instance
instance:DecidableRel CPow:=λi j=>by unfold CPow;infer_instance
def eO:Dat->Dat->Out Dat
 |.int i,.int j=>.ok (.int (i+j))
 |.str x,.str y=>Out.when (decide (x.length+y.length<=100000)) (.ok (.str (x++y)))
 |.list xs,.list ys=>Out.when (decide (xs.length+ys.length<=100000)) (.ok (.list (xs++ys)))
 |.tuple xs,.tuple ys=>Out.when (decide (xs.length+ys.length<=100000)) (.ok (.tuple (xs++ys)))
 |_,_=>.bad
def qU:Dat->Dat->Out Dat
 |.int i,.int j=>.ok (.int (i-j))
 |_,_=>.bad
def uM:Dat->Dat->Out Dat
 |.int i,.int j=>Out.when (decide (CMul i j)) (.ok (.int (i*j)))
 |_,_=>.bad
def o9:Dat->Dat->Out Dat
 |.int i,.int j=>Out.when (decide (CDiv i j)) (.ok (.int (i/j)))
 |_,_=>.bad
def cH:Dat->Dat->Out Dat
 |.int i,.int j=>Out.when (decide (0<j)) (.ok (.int (i%j)))
 |_,_=>.bad
def uz:Dat->Dat->Out Dat
 |.int i,.int j=>Out.when (decide (CPow i j)) (.ok (.int (i^j.toNat)))
 |_,_=>.bad
def rCatS(K:ac8):R2:=λx y H Q=>∃l b xs zs,x=.ref l/\y=.ref b/\SqL K H l xs/\SqL K H b zs/\xs.length+zs.length<=sizeLine/\∀p,H p=none->Q (.ref p) (upd H p (.lst (xs++zs)))
theorem Pk{X:Cx}:OpR X (binaryOp .Add) (rCatS X.K):=by
 intro pins s σ H x y v u Q I rx ry h;obtain⟨l,b,xs,zs,rfl,rfl,hH,hB,hz,q⟩:=h;cases rx;cases ry;obtain⟨its,r,⟨⟨c1,d1,da1,s1⟩,n,e,hc,hd,hs⟩,_⟩:=I.list hH;obtain⟨its2,r2,⟨⟨c2,d2,da2,s2⟩,n2,e2,hc2,hd2,hs2⟩,_⟩:=I.list hB;simp only at hc hd hs hc2 hd2 hs2;subst hc hd hs hc2 hd2 hs2;have l1:=r.length;have l2:=r2.length;have ea:its.toArray++its2.toArray=(its++its2).toArray:=by simp
 refine concat_meets ⟨_,e,rfl⟩ ⟨_,e2,rfl⟩ noFill_list_add seq_list_add PySem.F.slot_list_add PySem.F.entry_list_add (PySem.F.args_list_add_2 _ _) (list_addW l b its.toArray its2.toArray n n2 none none s1 s2 (by rw[aeb,aeb];omega)) ⟨e,e2,?_⟩;rw[ea];exact⟨.ref _,_,I.lnew (t':=s.toks) (r.append r2) (by rw[adY];omega),rfl,q _ I.fresh⟩
def Oq(K:ac8):R2:=λx y H Q=>rI0 (λi j=>.int (i+j)) x y H Q\/(∃i j,x=.str i/\y=.str j/\i.length+j.length<=sizeLine/\Q (.str (i++j)) H)\/rCatS K x y H Q\/rCatA K x y H Q
theorem Pn{X:Cx}:OpR X (binaryOp .Add) (Oq X.K):=by
 intro pins s σ H x y v u Q I rx ry h;rcases h with h|h|h|h
 .exact op_add pins s σ H x y v u Q I rx ry h
 .exact op_add_str pins s σ H x y v u Q I rx ry h
 .exact Pk pins s σ H x y v u Q I rx ry h
 .exact op_catA pins s σ H x y v u Q I rx ry h
section
variable{K:ac8}{aj:aC}{W:WX}
theorem Tw:eV aj K W eO (Oq K):=λσ g H x y d e Q k rx ry h=>by
 unfold eO at h;split at h
 .exact .inl ⟨_,_,aQ rx,aQ ry,h _ H (Ex.refl H) (.int _)⟩
 .obtain⟨hz,h⟩:=h.fB;exact .inr (.inl ⟨_,_,cR rx,cR ry,sz_of (aen hz),h _ H (Ex.refl H) (.str _)⟩)
 .obtain⟨hz,h⟩:=h.fB;obtain⟨l,us,e1,s1,t1⟩:=cD rx;obtain⟨l2,us2,e2,s2,t2⟩:=cD ry;have hl:=aen hz;rw[<-t1.length,<-t2.length]at hl;refine .inr (.inr (.inl ⟨l,l2,us,us2,e1,e2,s1,s2,sz_of hl,λp np=>h _ _ (Ex.new np) (.lst (.inl ⟨aeu,k.fresh np⟩) ((t1.append t2).ex (Ex.new np) k))⟩))
 .obtain⟨hz,h⟩:=h.fB;obtain⟨l,us,e1,s1,t1⟩:=dD rx;obtain⟨l2,us2,e2,s2,t2⟩:=dD ry;have hl:=aen hz;rw[<-t1.length,<-t2.length]at hl;refine .inr (.inr (.inr ⟨l,l2,us,us2,e1,e2,s1,s2,sz_of hl,λz=>?_,λ_ z=>?_,λ_ _ p np=>h _ _ (Ex.new np) (.tup (st_of aeu) ((t1.append t2).ex (Ex.new np) k))⟩))
  .subst z;cases t1;exact h _ H (Ex.refl H) (.tup s2 t2)
  .subst z;cases t2;rw[adN]at h;exact h _ H (Ex.refl H) (.tup s1 t1)
 .exact ael h
theorem Us:eV aj K W qU (rI0 λi j=>.int (i-j)):=λσ g H x y d e Q k rx ry h=>by
 unfold qU at h;split at h
 .exact⟨_,_,aQ rx,aQ ry,h _ H (Ex.refl H) (.int _)⟩
 .exact ael h
theorem VN:eV aj K W uM (rI CMul λi j=>.int (i*j)):=λσ g H x y d e Q k rx ry h=>by
 unfold uM at h;split at h
 .obtain⟨hz,h⟩:=h.fB;exact⟨_,_,aQ rx,aQ ry,aen hz,h _ H (Ex.refl H) (.int _)⟩
 .exact ael h
theorem V6:eV aj K W o9 (rI CDiv λi j=>.int (i/j)):=λσ g H x y d e Q k rx ry h=>by
 unfold o9 at h;split at h
 .obtain⟨hz,h⟩:=h.fB;exact⟨_,_,aQ rx,aQ ry,aen hz,h _ H (Ex.refl H) (.int _)⟩
 .exact ael h
theorem Vl:eV aj K W cH (rI (λ_ j=>0<j) λi j=>.int (i%j)):=λσ g H x y d e Q k rx ry h=>by
 unfold cH at h;split at h
 .obtain⟨hz,h⟩:=h.fB;exact⟨_,_,aQ rx,aQ ry,aen hz,h _ H (Ex.refl H) (.int _)⟩
 .exact ael h
theorem TV:eV aj K W uz (rI CPow λi j=>.int (i^j.toNat)):=λσ g H x y d e Q k rx ry h=>by
 unfold uz at h;split at h
 .obtain⟨hz,h⟩:=h.fB;exact⟨_,_,aQ rx,aQ ry,aen hz,h _ H (Ex.refl H) (.int _)⟩
 .exact ael h
end
mutual
def okd:Nat->Dat->Bool
 |_,.none=>true
 |_,.bool _=>true
 |_,.int _=>true
 |_,.str x=>PyData.strOk x
 |n+1,.list ds=>bQ n ds
 |n+1,.tuple ds=>bQ n ds
 |0,.list _=>false
 |0,.tuple _=>false
 |_,.dict _=>false
def bQ:Nat->List Dat->Bool
 |_,[]=>true
 |n,d::ds=>okd n d&&bQ n ds
end
mutual
theorem tL:∀(n:Nat) (d:Dat),okd n d=true->d.canLay0=true/\d.depth<=n
 |n,.none,_=>⟨by simp[PyData.canLay0],by simp[PyData.depth]⟩
 |n,.bool _,_=>⟨by simp[PyData.canLay0],by simp[PyData.depth]⟩
 |n,.int _,_=>⟨by simp[PyData.canLay0],by simp[PyData.depth]⟩
 |n,.str x,h=>⟨by rw[okd]at h;simp[PyData.canLay0,h],by simp[PyData.depth]⟩
 |n+1,.list ds,h=>by
  rw[okd]at h;obtain⟨h1,h2⟩:=uU n ds h;exact⟨by simp[PyData.canLay0,h1],by simp[PyData.depth];omega⟩
 |n+1,.tuple ds,h=>by
  rw[okd]at h;obtain⟨h1,h2⟩:=uU n ds h;exact⟨by simp[PyData.canLay0,h1],by simp[PyData.depth];omega⟩
 |0,.list _,h=>by rw[okd]at h;cases h
 |0,.tuple _,h=>by rw[okd]at h;cases h
 |n,.dict _,h=>by rw[okd]at h;cases h
theorem uU:∀(n:Nat) (ds:List Dat),bQ n ds=true->PyData.canLayAll0 ds=true/\PyData.depthAll ds<=n
 |n,[],_=>⟨by simp[PyData.canLayAll0],by simp[PyData.depthAll]⟩
 |n,d::ds,h=>by
  rw[bQ,ac9]at h;obtain⟨h1,h2⟩:=tL n d h.1;obtain⟨h3,h4⟩:=uU n ds h.2;exact⟨by simp[PyData.canLayAll0,h1,h3],by simp[PyData.depthAll];omega⟩
end
mutual
theorem Rep.dp{K:ac8}{g:Gh}{H:Hp}:∀{n:Nat} {v:V} {d:Dat},okd n d=true->Rep K g H v d->Dp K H v d
 |_,_,_,_,.non=>.non
 |_,_,_,_,.bl b=>.bl b
 |_,_,_,_,.int i=>.int i
 |_,_,_,_,.str x=>.str x
 |n+1,_,_,f,.tup h t=>.tup h (au.dp (n:=n) (by rw[okd]at f;exact f) t)
 |n+1,_,_,f,.lst h t=>.lst h.sq (au.dp (n:=n) (by rw[okd]at f;exact f) t)
 |0,_,_,f,.tup h t=>by rw[okd]at f;cases f
 |0,_,_,f,.lst h t=>by rw[okd]at f;cases f
 |_,_,_,f,.obj h=>by rw[okd]at f;cases f
theorem au.dp{K:ac8}{g:Gh}{H:Hp}:∀{n:Nat} {vs:List V} {ds:List Dat},bQ n ds=true->au K g H vs ds->DpAll K H vs ds
 |_,_,_,_,.nil=>.nil
 |n,_,_,f,.cons h t=>.cons (Rep.dp (n:=n) (by rw[bQ,ac9]at f;exact f.1) h) (au.dp (n:=n) (by rw[bQ,ac9]at f;exact f.2) t)
end
theorem bB.dp{K:ac8}{g:Gh}{H:Hp}{n:Nat}{v:V}{d:Dat}(f:okd n d=true)(h:bB K g H v d):Dp K H v d:=by
 cases d with
 |list ds=>
  obtain⟨a,us,rfl,h2,h3⟩:=h;cases n with
  |zero=>rw[okd]at f;cases f
  |succ n=>
   rw[okd]at f;exact .lst h2 (h3.dp f)
 |_=>exact Rep.dp f h
theorem lu{n:Nat}{d:Dat}(h:okd n d=true)(hn:n<=64):SeqAt.shaped d=true:=by obtain⟨h1,h2⟩:=tL n d h;unfold SeqAt.shaped;rw[h1,Bool.true_and];exact decide_eq_true (aed h2 hn)
def eqB:Dat->Dat->Out Bool
 |.int i,.int j=>.ok (i==j)
 |.str x,.str y=>.ok (x==y)
 |.bool x,.bool y=>.ok (x==y)
 |.none,.none=>.ok true
 |d,e=>Out.when (okd 12 d&&okd 12 e) (.ok (PyData.eqv d e))
def cP(d e:Dat):Out Dat:=(eqB d e).bind λb=>.ok (.bool b)
def eE(d e:Dat):Out Dat:=(eqB d e).bind λb=>.ok (.bool (!b))
def TJ(K:ac8):R2:=λx y H Q=>rEq x y H Q\/rEqD K x y H Q
def Tf(K:ac8):R2:=λx y H Q=>rNe x y H Q\/rNeD K x y H Q
theorem VD{X:Cx}(hu:X.A.units+64<cLine):OpR X (compareOp .Eq) (TJ X.K):=λpins s σ H x y v u Q I rx ry h=>h.elim (λh=>op_eq pins s σ H x y v u Q I rx ry h) (λh=>op_eqD hu pins s σ H x y v u Q I rx ry h)
theorem S7{X:Cx}(hu:X.A.units+64<cLine):OpR X (compareOp .NotEq) (Tf X.K):=λpins s σ H x y v u Q I rx ry h=>h.elim (λh=>op_ne pins s σ H x y v u Q I rx ry h) (λh=>op_neD hu pins s σ H x y v u Q I rx ry h)
section
variable{K:ac8}{aj:aC}{W:WX}{g:Gh}{H:Hp}
theorem IV{x y:V}{d e:Dat}{P:Bool->Prop}{E:bJ->Prop}(rx:bB K g H x d)(ry:bB K g H y e)(h:(eqB d e).sat P E):(scal x y=true/\P (decide (x=y)))\/(∃d e,Dp K H x d/\Dp K H y e/\SeqAt.shaped d=true/\SeqAt.shaped e=true/\P (PyData.eqv d e)):=by
 unfold eqB at h;split at h
 .cases aQ rx;cases aQ ry;rw[dec_int];exact .inl ⟨rfl,h⟩
 .cases cR rx;cases cR ry;rw[dec_str];exact .inl ⟨rfl,h⟩
 .cases mW rx;cases mW ry;rw[dec_bl];exact .inl ⟨rfl,h⟩
 .cases oK rx;cases oK ry;exact .inl ⟨rfl,h⟩
 .obtain⟨hz,h⟩:=h.fB;rw[ac9]at hz;exact .inr ⟨_,_,rx.dp hz.1,ry.dp hz.2,lu hz.1 (by decide),lu hz.2 (by decide),h⟩
theorem Xk:eV aj K W cP (TJ K):=λσ g H x y d e Q k rx ry h=>by
 rcases IV rx ry h.bnd with⟨h1,h2⟩|⟨d,e,h1,h2,h3,h4,h5⟩
 .exact .inl ⟨h1,h2 _ H (Ex.refl H) (.bl _)⟩
 .exact .inr ⟨d,e,h1,h2,h3,h4,h5 _ H (Ex.refl H) (.bl _)⟩
theorem Ys:eV aj K W eE (Tf K):=λσ g H x y d e Q k rx ry h=>by
 rcases IV rx ry h.bnd with⟨h1,h2⟩|⟨d,e,h1,h2,h3,h4,h5⟩
 .exact .inl ⟨h1,h2 _ H (Ex.refl H) (.bl _)⟩
 .exact .inr ⟨d,e,h1,h2,h3,h4,h5 _ H (Ex.refl H) (.bl _)⟩
end
def zm:Dat->Dat->Out Dat
 |.int i,.int j=>.ok (.bool (decide (i<j)))
 |.tuple ds,.tuple es=>Out.when (okd 12 (.tuple ds)&&okd 12 (.tuple es)&&PySem.W.alike (.tuple ds) (.tuple es)) (.ok (.bool (PySem.W.dataLt (.tuple ds) (.tuple es))))
 |_,_=>.bad
def Ow:Dat->Dat->Out Dat
 |.int i,.int j=>.ok (.bool (decide (i<=j)))
 |_,_=>.bad
def Ky:Dat->Dat->Out Dat
 |.int i,.int j=>.ok (.bool (decide (j<i)))
 |_,_=>.bad
def JR:Dat->Dat->Out Dat
 |.int i,.int j=>.ok (.bool (decide (j<=i)))
 |_,_=>.bad
def Wu(K:ac8):R2:=λx y H Q=>rI0 (λi j=>.bl (decide (i<j))) x y H Q\/Ear.wC K x y H Q
theorem Ue{X:Cx}(hu:X.A.units+65<cLine):OpR X (compareOp .Lt) (Wu X.K):=λpins s σ H x y v u Q I rx ry h=>h.elim (λh=>op_lt pins s σ H x y v u Q I rx ry h) (λh=>Ear.Mx hu pins s σ H x y v u Q I rx ry h)
section
variable{K:ac8}{aj:aC}{W:WX}{g:Gh}{H:Hp}
theorem Xo:eV aj K W zm (Wu K):=λσ g H x y d e Q k rx ry h=>by
 unfold zm at h;split at h
 .exact .inl ⟨_,_,aQ rx,aQ ry,h _ H (Ex.refl H) (.bl _)⟩
 .obtain⟨hz,h⟩:=h.fB;simp only[ac9]at hz;refine .inr ?_;unfold Ear.wC;exact⟨_,_,rx.dp hz.1.1,ry.dp hz.1.2,hz.2,(λz=>nomatch z),aed (tL _ _ hz.1.1).2 (by decide),h _ H (Ex.refl H) (.bl _)⟩
 .exact ael h
theorem Xj:eV aj K W Ow (rI0 λi j=>.bl (decide (i<=j))):=λσ g H x y d e Q k rx ry h=>by
 unfold Ow at h;split at h
 .exact⟨_,_,aQ rx,aQ ry,h _ H (Ex.refl H) (.bl _)⟩
 .exact ael h
theorem Yh:eV aj K W Ky (rI0 λi j=>.bl (decide (j<i))):=λσ g H x y d e Q k rx ry h=>by
 unfold Ky at h;split at h
 .exact⟨_,_,aQ rx,aQ ry,h _ H (Ex.refl H) (.bl _)⟩
 .exact ael h
theorem XD:eV aj K W JR (rI0 λi j=>.bl (decide (j<=i))):=λσ g H x y d e Q k rx ry h=>by
 unfold JR at h;split at h
 .exact⟨_,_,aQ rx,aQ ry,h _ H (Ex.refl H) (.bl _)⟩
 .exact ael h
end
def gq(c:Dat):Dat->Bool
 |.none=>match c with
  |.none=>true
  |_=>false
 |.bool b=>match c with
  |.bool b'=>b==b'
  |_=>false
 |_=>false
def Fj:Dat->Option V
 |.none=>some .non
 |.bool b=>some (.bl b)
 |_=>none
theorem tV{K:ac8}{g:Gh}{H:Hp}{x:V}{d c:Dat}{v:V}(h:bB K g H x d)(hc:Fj c=some v):decide (x=v)=gq c d:=by
 cases c with
 |none=>
  cases hc;cases d with
  |none=>cases oK h;rfl
  |bool b=>cases mW h;rfl
  |int b=>cases aQ h;rfl
  |str b=>cases cR h;rfl
  |list b=>obtain⟨a,us,rfl,_⟩:=cD h;rfl
  |tuple b=>obtain⟨a,us,rfl,_⟩:=dD h;rfl
  |dict b=>cases h;rfl
 |bool c=>
  cases hc;cases d with
  |none=>cases oK h;rfl
  |bool b=>cases mW h;exact dec_bl
  |int b=>cases aQ h;rfl
  |str b=>cases cR h;rfl
  |list b=>obtain⟨a,us,rfl,_⟩:=cD h;rfl
  |tuple b=>obtain⟨a,us,rfl,_⟩:=dD h;rfl
  |dict b=>cases h;rfl
 |_=>cases hc
def uD(neg:Bool)(v:V):R2:=λx y H Q=>y=v/\Q (.bl (neg ^^ decide (x=v))) H
theorem Kl{x v:V}{u w:Value}(hv:v=.non\/∃b,v=.bl b)(rx:RelV x u)(rv:RelV v w):(u==w)=decide (x=v):=by
 rcases hv with rfl|⟨b,rfl⟩
 .cases rv;exact rx.none_iff
 .cases rv;rw[ad7,beq_iff_eq,aem];constructor
  .rintro rfl;cases x with
   |bl c=>cases rx;rfl
   |non=>cases rx
   |ref _=>cases rx
   |ty _=>cases rx
   |_=>obtain⟨t,z⟩:=rx;cases z
  .rintro rfl;exact rx
theorem zj{x v:V}{u w:Value}(hv:v=.non\/∃b,v=.bl b)(rx:RelV x u)(rv:RelV v w):plainIs u w=true:=by rcases hv with rfl | ⟨b,rfl⟩<;>(cases rv;cases x<;>first | (cases rx;rfl) | (obtain⟨t,rfl⟩:=rx;rfl))
theorem Wq{X:Cx}{v:V}(hv:v=.non\/∃b,v=.bl b):OpR X (compareOp .Is) (uD false v):=by intro pins s σ H x y u w Q I rx ry h;obtain⟨rfl,q⟩:=h;refine wpAny_is_plain (zj hv rx ry) ?_;rw[Kl hv rx ry];rw[Bool.false_xor]at q;exact⟨.bl _,H,I,rfl,q⟩
theorem Ih{X:Cx}{v:V}(hv:v=.non\/∃b,v=.bl b):OpR X (compareOp .IsNot) (uD true v):=by intro pins s σ H x y u w Q I rx ry h;obtain⟨rfl,q⟩:=h;refine wpAny_isNot_plain (zj hv rx ry) ?_;rw[Kl hv rx ry];rw[Bool.true_xor]at q;exact⟨.bl _,H,I,rfl,q⟩
def qp(neg:Bool)(c:Dat)(a:QF):QF:=λM Z=>(a M Z).bind λd=>.ok (.bool (neg ^^ gq c d))
section
variable{X:Cx}{aj:aC}{W:WX}{a b c:Expr}{fa fb fc:QF}{pos:Pos}
theorem Yo{op:CmpOp}{neg:Bool}{d:Dat}{v:V}(hc:Fj d=some v)(hr:OpR X (compareOp op) (uD neg v))(ha:QW aj X W a fa)(hb:PE X b (tC v))(hm:behindInMarks op b=false):QE aj X W (.Compare a [op] [b] pos) (qp neg d fa):=
 PE.weak (pe_cmpR hr ha hb hm) λσ H Q ⟨g,Z,M,I,h⟩=>by
  refine tW.go I h.bnd λe x H1 h1 e1 r1=>?_;refine⟨rfl,?_⟩;rw[tV r1 hc];exact h1 _ H1 e1 (.bl _)
end
def v8:Dat->Bool
 |.none=>true
 |.bool _=>true
 |.int _=>true
 |.str _=>true
 |_=>false
def inB:Dat->Dat->Out Bool
 |d,.list ds=>Out.when (okd 12 d&&bQ 12 ds) (.ok (ds.any λz=>PyData.eqv z d))
 |d,.tuple ds=>Out.when (v8 d&&ds.all v8) (.ok (ds.any λz=>PyData.eqv z d))
 |.str x,.str z=>match x.cps.toList with
  |[c]=>.ok (decide (c∈z.cps.toList))
  |_=>.bad
 |_,_=>.bad
def inD(neg:Bool)(d e:Dat):Out Dat:=(inB d e).bind λb=>.ok (.bool (neg ^^ b))
section
variable{K:ac8}{g:Gh}{H:Hp}
theorem CN{v:V}{d:Dat}(f:v8 d=true)(h:Rep K g H v d):flatV v=true:=by
 cases h with
 |tup _ _=>cases f
 |lst _ _=>cases f
 |obj _=>cases f
 |_=>rfl
theorem yG:∀{vs:List V} {ds:List Dat},ds.all v8=true->au K g H vs ds->vs.all flatV=true
 |_,_,_,.nil=>rfl
 |_,_,f,.cons h t=>by
  rw[adF,ac9]at f;rw[adF,CN f.1 h,yG f.2 t];rfl
theorem Rk{v w:V}{d e:Dat}(f1:v8 d=true)(f2:v8 e=true)(h1:Rep K g H v d)(h2:Rep K g H w e):eqV v w=PyData.eqv d e:=by
 cases h1 with
 |tup _ _=>cases f1
 |lst _ _=>cases f1
 |obj _=>cases f1
 |non=>cases h2 with
  |tup _ _=>cases f2
  |lst _ _=>cases f2
  |obj _=>cases f2
  |_=>simp[eqV,PyData.eqv]
 |bl b=>cases h2 with
  |tup _ _=>cases f2
  |lst _ _=>cases f2
  |obj _=>cases f2
  |_=>simp[eqV,PyData.eqv]
 |int b=>cases h2 with
  |tup _ _=>cases f2
  |lst _ _=>cases f2
  |obj _=>cases f2
  |_=>simp[eqV,PyData.eqv]
 |str b=>cases h2 with
  |tup _ _=>cases f2
  |lst _ _=>cases f2
  |obj _=>cases f2
  |_=>simp[eqV,PyData.eqv]
theorem Ek{w:V}{e:Dat}(f2:v8 e=true)(h2:Rep K g H w e):∀{vs:List V} {ds:List Dat},ds.all v8=true->au K g H vs ds->inV w vs=ds.any λz=>PyData.eqv z e
 |_,_,_,.nil=>rfl
 |v::vs,d::ds,f,.cons h t=>by
  rw[adF,ac9]at f;have ih:=Ek f2 h2 f.2 t;unfold inV at ih |-
  rw[adU,adU,ih,Rk f.1 f2 h h2]
theorem RD{v:V}{d:Dat}(f:v8 d=true)(h:bB K g H v d):Rep K g H v d:=by
 cases d with
 |list _=>cases f
 |_=>exact h
end
def CZ(K:ac8)(neg:Bool):R2:=λx y H Q=>(∃d ds,Dp K H x d/\Dp K H y (.list ds)/\SeqAt.shaped d=true/\SeqAt.shaped (.list ds)=true/\Q (.bl (neg ^^ (ds.any λz=>PyData.eqv z d))) H)\/
 (∃p xs,y=.ref p/\(SqL K H p xs\/SqT K H p xs)/\flatV x=true/\xs.all flatV=true/\Q (.bl (neg ^^ inV x xs)) H)\/∃(c:Nat) (z:Str),x=.str ⟨#[c]⟩/\y=.str z/\Q (.bl (neg ^^ decide (c∈z.cps.toList))) H
theorem Vn{X:Cx}(hu:X.A.units+65<cLine):OpR X (compareOp .In) (CZ X.K false):=λpins s σ H x y v u Q I rx ry h=>by
 unfold CZ at h;simp only[Bool.false_xor]at h;rcases h with⟨d,ds,h⟩|⟨p,xs,h⟩|h
 .exact op_inD hu pins s σ H x y v u Q I rx ry ⟨d,ds,h⟩
 .exact op_in_seq pins s σ H x y v u Q I rx ry ⟨p,xs,h⟩
 .exact op_in_sign pins s σ H x y v u Q I rx ry h
theorem Iv{X:Cx}(hu:X.A.units+65<cLine):OpR X (compareOp .NotIn) (CZ X.K true):=λpins s σ H x y v u Q I rx ry h=>by
 unfold CZ at h;simp only[Bool.true_xor]at h;rcases h with⟨d,ds,h⟩|⟨p,xs,h⟩|h
 .exact op_notInD hu pins s σ H x y v u Q I rx ry ⟨d,ds,h⟩
 .exact op_notIn_seq pins s σ H x y v u Q I rx ry ⟨p,xs,h⟩
 .exact op_notIn_sign pins s σ H x y v u Q I rx ry h
theorem Oh{K:ac8}{aj:aC}{W:WX}{neg:Bool}:eV aj K W (inD neg) (CZ K neg):=λσ g H x y d e Q k rx ry h=>by
 replace h:=Out.sat.bnd h
 unfold inB at h;split at h
 .next ds=>
  obtain⟨hz,h⟩:=h.fB;rw[ac9]at hz;have e2:okd 13 (.list ds)=true:=by rw[okd];exact hz.2
  exact .inl ⟨_,ds,rx.dp hz.1,ry.dp e2,lu hz.1 (by decide),lu e2 (by decide),h _ H (Ex.refl H) (.bl _)⟩
 .next ds=>
  obtain⟨hz,h⟩:=h.fB;rw[ac9]at hz;obtain⟨p,us,rfl,h1,h2⟩:=dD ry;have rx':=RD hz.1 rx;refine .inr (.inl ⟨p,us,rfl,.inr h1,CN hz.1 rx',yG hz.2 h2,?_⟩);rw[Ek hz.1 rx' hz.2 h2];exact h _ H (Ex.refl H) (.bl _)
 .next xs z=>
  split at h
  .next c e=>
   refine .inr (.inr ⟨c,z,?_,cR ry,h _ H (Ex.refl H) (.bl _)⟩);rw[cR rx];congr 1;have:xs.cps=#[c]:=by apply Array.toList_inj.mp;rw[e]
   cases xs;simp only at this;rw[this]
  .exact ael h
 .exact ael h
def wN:Dat->Out Dat
 |.int i=>.ok (.int (-i))
 |_=>.bad
def pG:Dat->Out Bool
 |.none=>.ok false
 |.bool b=>.ok b
 |.int i=>.ok (i != 0)
 |.str x=>Out.when (decide (x.length<=100000)) (.ok (!x.cps.toList.isEmpty))
 |.list ds=>.ok (!ds.isEmpty)
 |.tuple ds=>.ok (!ds.isEmpty)
 |_=>.bad
def eZ(a:QF):QT:=λM Z=>(a M Z).bind pG
def jw:Dat->Out Bool
 |.bool b=>.ok b
 |_=>.bad
def aY(a:QF):QT:=λM Z=>(a M Z).bind jw
def d9(a:QT):QT:=λM Z=>(a M Z).bind λb=>.ok (!b)
def iy(a b:QT):QT:=λM Z=>(a M Z).bind λx=>if x=true then b M Z else .ok false
def jf(a b:QT):QT:=λM Z=>(a M Z).bind λx=>if x=true then .ok true else b M Z
def N7(a:QT):QF:=λM Z=>(a M Z).bind λb=>.ok (.bool b)
def Bo(t:QT)(a b:QF):QF:=λM Z=>(t M Z).bind λx=>if x=true then a M Z else b M Z
theorem vf{K:ac8}{g:Gh}{H:Hp}{us:List V}{ds:List Dat}(h:au K g H us ds):(!ds.isEmpty)=!us.isEmpty:=by cases h<;>rfl
section
variable{X:Cx}{aj:aC}{W:WX}{a b c:Expr}{fa fb fc:QF}{ta tb:QT}{pos:Pos}
theorem VP(ha:QW aj X W a fa):QE aj X W (.UnaryOp .USub a pos) (fD wN fa):=
 PE.weak (pe_un un_neg ha) λσ H Q ⟨g,Z,M,I,h⟩=>by
  refine tW.go I h.bnd λd v H1 h1 e1 r1=>?_;unfold wN at h1;split at h1
  .exact⟨_,aQ r1,h1 _ H1 e1 (.int _)⟩
  .exact ael h1
theorem JW{g:Gh}{H:Hp}{v:V}{d:Dat}{P:Bool->Prop}{E:bJ->Prop}(r:bB X.K g H v d)(h:(pG d).sat P E):∃k,TruV X.K v H k/\P k:=by
 unfold pG at h;split at h
 .cases oK r;exact⟨_,rfl,h⟩
 .cases mW r;exact⟨_,rfl,h⟩
 .cases aQ r;exact⟨_,rfl,h⟩
 .next x=>
  obtain⟨hz,h⟩:=h.fB;cases cR r;refine⟨_,⟨sz_of (aen hz),?_⟩,h⟩;have e:x.length=x.cps.toList.length:=by rw[adG];rfl
  rw[e];cases x.cps.toList with
  |nil=>rfl
  |cons y ys=>
   refine Eq.symm (bne_iff_ne.mpr ?_);simp;omega
 .obtain⟨p,us,rfl,h1,h2⟩:=cD r;rw[vf h2]at h;exact⟨_,.inl ⟨us,h1,rfl⟩,h⟩
 .obtain⟨p,us,rfl,h1,h2⟩:=dD r;rw[vf h2]at h;exact⟨_,.inr (.inl ⟨us,h1,rfl⟩),h⟩
 .exact ael h
theorem Sy(ha:QW aj X W a fa)(he:∀whole,isTrue a X.env whole=(do let v <-whole;standAt a.pos;holding [v] (truthy v))):gG aj X W a (eZ fa):=
 PT.weak (pt_truth ha he) λσ H Q ⟨g,Z,M,I,h⟩=>by
  refine tW.go I h.bnd λd v H1 h1 e1 r1=>?_;obtain⟨k,h2,h3⟩:=JW r1 h1;exact⟨k,h2,h3 H1 e1⟩
theorem lH{g:Gh}{H:Hp}{v:V}{d:Dat}{P:Bool->Prop}{E:bJ->Prop}(r:bB X.K g H v d)(h:(jw d).sat P E):∃k,v=.bl k/\P k:=by
 unfold jw at h;split at h
 .cases mW r;exact⟨_,rfl,h⟩
 .exact ael h
theorem Vc{op:CmpOp}{r:R2}{o:Dat->Dat->Out Dat}(hr:OpR X (compareOp op) r)(ho:eV aj X.K W o r)(ha:QW aj X W a fa)(hb:QW aj X W b fb)(hm:behindInMarks op b=false):gG aj X W (.Compare a [op] [b] pos) (aY (aA o fa fb)):=
 PT.weak (pt_cmpR hr ha hb hm) λσ H Q ⟨g,Z,M,I,h⟩=>by
  refine vZ ho σ H _ ⟨g,Z,M,I,h.bnd.mono (λd h1 v H' e' r'=>?_) λ_ z=>z⟩;obtain⟨k,h2,h3⟩:=lH r'.weak h1;exact⟨k,h2,h3 H' e'⟩
theorem Ye{op:CmpOp}{neg:Bool}{d:Dat}{v:V}(hc:Fj d=some v)(hr:OpR X (compareOp op) (uD neg v))(ha:QW aj X W a fa)(hb:PE X b (tC v))(hm:behindInMarks op b=false):gG aj X W (.Compare a [op] [b] pos) (aY (qp neg d fa)):=
 PT.weak (pt_cmpR hr ha hb hm) λσ H Q ⟨g,Z,M,I,h⟩=>by
  refine tW.go I h.bnd.bnd λe x H1 h1 e1 r1=>?_;refine⟨rfl,_,rfl,?_⟩;rw[tV r1 hc];exact h1 H1 e1
theorem Wb(ha:gG aj X W a ta):gG aj X W (.UnaryOp .Not a pos) (d9 ta):=
 PT.weak (pt_not ha) λσ H Q ⟨g,Z,M,I,h⟩=>cW.go I h.bnd λb H1 h1 e1=>h1 H1 e1
def Ge(aj:aC)(X:Cx)(W:WX)(e:Expr)(f:QT):Prop:=PW X e (cW X.K aj W f)
theorem PW.weak{X:Cx}{e:Expr}{t t':TT}(h:PW X e t)(k:∀σ H Q,t' σ H Q->t σ H Q):PW X e t':=⟨λwh pins s σ H Q I q=>h.run wh pins s σ H Q I (k σ H Q q)⟩
theorem VH{rest:List Expr}(ha:gG aj X W a ta)(hb:Ge aj X W (.BoolOp .And (b::rest) pos) tb):Ge aj X W (.BoolOp .And (a::b::rest) pos) (iy ta tb):=
 PW.weak (pw_and ha hb) λσ H Q ⟨g,Z,M,I,h⟩=>by
  refine cW.go I h.bnd λx H1 h1 e1=>?_;cases x with
  |true=>exact⟨g,Z,M,I.ex e1,h1.mono (λb k H' e'=>k H' (e1.trans e')) λ_ z=>z.ex e1⟩
  |false=>exact h1 H1 e1
theorem Xa{rest:List Expr}(ha:gG aj X W a ta)(hb:Ge aj X W (.BoolOp .Or (b::rest) pos) tb):Ge aj X W (.BoolOp .Or (a::b::rest) pos) (jf ta tb):=
 PW.weak (pw_or ha hb) λσ H Q ⟨g,Z,M,I,h⟩=>by
  refine cW.go I h.bnd λx H1 h1 e1=>?_;cases x with
  |true=>exact h1 H1 e1
  |false=>exact⟨g,Z,M,I.ex e1,h1.mono (λb k H' e'=>k H' (e1.trans e')) λ_ z=>z.ex e1⟩
def zQ(a:QF):QF:=N7 (d9 (aY a))
def tZ(a b:QF):QF:=λM Z=>(a M Z).bind λd=>(jw d).bind λx=>if x=true then b M Z else .ok (.bool false)
def Np(a b:QF):QF:=λM Z=>(a M Z).bind λd=>(jw d).bind λx=>if x=true then .ok (.bool true) else b M Z
theorem Pb(ha:QW aj X W a fa):QE aj X W (.UnaryOp .Not a pos) (zQ fa):=
 PE.weak (pe_not ha) λσ H Q ⟨g,Z,M,I,h⟩=>by
  refine tW.go I h.bnd.bnd.bnd λd v H1 h1 e1 r1=>?_;obtain⟨k,h2,h3⟩:=lH r1 h1;exact⟨k,h2,h3 _ H1 e1 (.bl _)⟩
theorem Qe{rest:List Expr}(ha:QE aj X W a fa)(hb:QE aj X W (.BoolOp .And (b::rest) pos) fb):QE aj X W (.BoolOp .And (a::b::rest) pos) (tZ fa fb):=
 PE.weak (pe_and ha hb) λσ H Q ⟨g,Z,M,I,h⟩=>by
  refine tQ.go I h.bnd λd v H1 h1 e1 r1=>?_;obtain⟨k,h2,h3⟩:=lH r1.weak h1.bnd;refine⟨k,h2,?_⟩;cases k with
  |true=>exact⟨g,Z,M,I.ex e1,h3.mono (λb k v' H' e' r'=>k v' H' (e1.trans e') r') λ_ z=>z.ex e1⟩
  |false=>exact h3 _ H1 e1 (.bl false)
theorem V4{rest:List Expr}(ha:QE aj X W a fa)(hb:QE aj X W (.BoolOp .Or (b::rest) pos) fb):QE aj X W (.BoolOp .Or (a::b::rest) pos) (Np fa fb):=
 PE.weak (pe_or ha hb) λσ H Q ⟨g,Z,M,I,h⟩=>by
  refine tQ.go I h.bnd λd v H1 h1 e1 r1=>?_;obtain⟨k,h2,h3⟩:=lH r1.weak h1.bnd;refine⟨k,h2,?_⟩;cases k with
  |false=>exact⟨g,Z,M,I.ex e1,h3.mono (λb k v' H' e' r'=>k v' H' (e1.trans e') r') λ_ z=>z.ex e1⟩
  |true=>exact h3 _ H1 e1 (.bl true)
theorem Mf(hc:gG aj X W c ta)(ha:QE aj X W a fa)(hb:QE aj X W b fb):QE aj X W (.IfExp c a b pos) (Bo ta fa fb):=
 PE.weak (pe_ifExp hc ha hb) λσ H Q ⟨g,Z,M,I,h⟩=>by
  refine cW.go I h.bnd λx H1 h1 e1=>?_;cases x with
  |true=>exact⟨g,Z,M,I.ex e1,h1.mono (λb k v' H' e' r'=>k v' H' (e1.trans e') r') λ_ z=>z.ex e1⟩
  |false=>exact⟨g,Z,M,I.ex e1,h1.mono (λb k v' H' e' r'=>k v' H' (e1.trans e') r') λ_ z=>z.ex e1⟩
def oA(o o':Dat->Dat->Out Dat)(a b c:QF):QT:=λM Z=>(a M Z).bind λx=>(b M Z).bind λy=>(o x y).bind λz=>(jw z).bind λk=>if k=true then(c M Z).bind λw=>(o' y w).bind jw else .ok false
theorem Bc{r r':R2}{o o':Dat->Dat->Out Dat}(ho:eV aj X.K W o r)(ho':eV aj X.K W o' r'){σ:L2.St}{H:Hp}{Q:VK}{P:Bool->Hp->Prop}(hP:∀k H',P k H'->Q (.bl k) H')(h:cW X.K aj W (oA o o' fa fb fc) σ H P):tChain r r' (tW X.K aj W fa) (tW X.K aj W fb) (tW X.K aj W fc) σ H Q:=by
 obtain⟨g,Z,M,I,h⟩:=h;refine tW.go I h.bnd λd v H1 h1 e1 r1=>?_;have I1:=I.ex e1;refine tW.go I1 (h1.bnd.mono (λ_ z=>z) λ_ z=>z.ex e1) λd2 v2 H2 h2 e2 r2=>?_;have I2:=I1.ex e2;have r1':=r1.ex e2 I1.kd;refine ho σ g H2 v v2 d d2 _ I2.kd r1' r2 (h2.bnd.mono (λz hz u H3 e3 r3=>?_) λ_ z=>(z.ex e1).ex e2);obtain⟨k,h4,h5⟩:=lH r3.weak hz.bnd;refine⟨k,h4,?_⟩;have I3:=I2.ex e3;have e13:=(e1.trans e2).trans e3;cases k with
 |false=>exact hP _ _ (h5 H3 e13)
 |true=>
  refine tW.go I3 (h5.bnd.mono (λ_ z=>z) λ_ z=>z.ex e13) λd4 v4 H4 h6 e4 r4=>?_;refine ho' σ g H4 v2 v4 d2 d4 _ (I3.ex e4).kd ((r2.ex e3 I2.kd).ex e4 I3.kd) r4 (h6.bnd.mono (λz hz u H5 e5 r5=>?_) λ_ z=>(z.ex e13).ex e4);obtain⟨k,rfl,h8⟩:=lH r5.weak hz;exact hP _ _ (h8 H5 ((e13.trans e4).trans e5))
theorem M9{op op':CmpOp}{r r':R2}{o o':Dat->Dat->Out Dat}(hr:OpR X (compareOp op) r)(hr':OpR X (compareOp op') r')(ho:eV aj X.K W o r)(ho':eV aj X.K W o' r')(ha:QW aj X W a fa)(hb:QW aj X W b fb)(hc:QW aj X W c fc)(hm:lastMarks [op,op'] [b,c]=false) :
  gG aj X W (.Compare a [op,op'] [b,c] pos) (oA o o' fa fb fc):=
 PT.weak (pt_chain hr hr' ha hb hc hm) λσ H Q h=>Bc ho ho' (λk H' z=>⟨k,rfl,z⟩) h
theorem Ml{op op':CmpOp}{r r':R2}{o o':Dat->Dat->Out Dat}(hr:OpR X (compareOp op) r)(hr':OpR X (compareOp op') r')(ho:eV aj X.K W o r)(ho':eV aj X.K W o' r')(ha:QW aj X W a fa)(hb:QW aj X W b fb)(hc:QW aj X W c fc)(hm:lastMarks [op,op'] [b,c]=false) :
  QE aj X W (.Compare a [op,op'] [b,c] pos) (N7 (oA o o' fa fb fc)):=
 PE.weak (pe_chain hr hr' ha hb hc hm) λσ H Q ⟨g,Z,M,I,h⟩=>Bc (P:=λb H1=>Q (.bl b) H1) ho ho' (λk H' z=>z) ⟨g,Z,M,I,h.bnd.mono (λb h1 H' e'=>h1 _ H' e' (.bl b)) λ_ z=>z⟩
end
def bG:Dat->Dat->Out Dat
 |.list ds,.int i=>match atI ds i with
  |some d=>.ok d
  |none=>.bad
 |.tuple ds,.int i=>match atI ds i with
  |some d=>.ok d
  |none=>.bad
 |.str z,.int i=>Out.when (decide (z.length<=100000)) (match atI z.cps.toList i with
  |some c=>.ok (.str ⟨#[c]⟩)
  |none=>.bad)
 |_,_=>.bad
theorem DN{K:ac8}{g:Gh}{H:Hp}{us:List V}{ds:List Dat}{i:Int}{d:Dat}(h:au K g H us ds)(e:atI ds i=some d):∃v,atI us i=some v/\Rep K g H v d:=by
 unfold atI at e |-
 rw[h.length];cases hj:ixN ds.length i with
 |none=>rw[hj]at e;cases e
 |some j=>
  rw[hj]at e;obtain⟨v,h1,h2⟩:=h.get (i:=j) e;exact⟨v,h1,h2⟩
def RQ(K:ac8):R2:=λx y H Q=>rIxL K x y H Q\/rIxT K x y H Q\/rIxS x y H Q
theorem Zb{X:Cx}:IxR X (RQ X.K):=λvalue slice pins s σ H x y v u Q I rx ry h hs=>by
 rcases h with h|h|h
 .exact ix_list value slice pins s σ H x y v u Q I rx ry h hs
 .exact ix_tup value slice pins s σ H x y v u Q I rx ry h hs
 .exact ix_str value slice pins s σ H x y v u Q I rx ry h hs
theorem Xz{K:ac8}{aj:aC}{W:WX}:eV aj K W bG (RQ K):=λσ g H x y d e Q k rx ry h=>by
 unfold bG at h;split at h
 .split at h
  .next z hz=>
   obtain⟨p,us,rfl,h1,h2⟩:=cD rx;obtain⟨v,h3,h4⟩:=DN h2 hz;exact .inl ⟨p,us,_,v,rfl,aQ ry,h1,h3,h v H (Ex.refl H) h4⟩
  .exact ael h
 .split at h
  .next z hz=>
   obtain⟨p,us,rfl,h1,h2⟩:=dD rx;obtain⟨v,h3,h4⟩:=DN h2 hz;exact .inr (.inl ⟨p,us,_,v,rfl,aQ ry,h1,h3,h v H (Ex.refl H) h4⟩)
  .exact ael h
 .obtain⟨hl,h⟩:=h.fB;split at h
  .next c hz=>exact .inr (.inr ⟨_,_,c,cR rx,aQ ry,sz_of (aen hl),hz,h _ H (Ex.refl H) (.str _)⟩)
  .exact ael h
 .exact ael h
def cutD{α:Type}(xs:List α)(lo hi:Option Int):List α:=(xs.drop (HT.sIx xs.length 0 lo)).take (HT.sIx xs.length xs.length hi-HT.sIx xs.length 0 lo)
abbrev QO:=Mo->Env->Out (Option Int)
def wu:QO:=λ_ _=>.ok none
def j7:Dat->Out Int
 |.int i=>.ok i
 |_=>.bad
def fQ(a:QF):QO:=λM Z=>(a M Z).bind λd=>(j7 d).bind λi=>.ok (some i)
def FW(d:Dat)(lo hi:Option Int):Out Dat:=
 match d with
 |.list ds=>.ok (.list (cutD ds lo hi))
 |.tuple ds=>.ok (.tuple (cutD ds lo hi))
 |.str z=>Out.when (decide (z.length<=100000)) (.ok (.str (cutS z lo hi)))
 |_=>.bad
def yK(a:QF)(lo hi:QO):QF:=λM Z=>(a M Z).bind λd=>(lo M Z).bind λl=>(hi M Z).bind λh=>FW d l h
def tQO(K:ac8)(aj:aC)(W:WX)(f:QO):TO:=λσ H Q=>∃g Z M,SInv K aj σ H g Z M/\(f M Z).sat (λo=>∀H',Ex H H'->Q o H') (fO K aj W g H σ)
def JF(aj:aC)(X:Cx)(W:WX)(e:Option Expr)(f:QO):Prop:=PO X e (tQO X.K aj W f)
def Uy(K:ac8):V->Option Int->Option Int->Hp->VK->Prop:=λx lo hi H Q=>rSlL K x lo hi H Q\/rSlA K x lo hi H Q\/rSlS x lo hi H Q
theorem YW{X:Cx}:SlR X (Uy X.K):=λpins s σ H x v vl vu lo hi sl Q I rx hs pl pu h=>by
 rcases h with h|h|h
 .exact sl_list pins s σ H x v vl vu lo hi sl Q I rx hs pl pu h
 .exact sl_tupA pins s σ H x v vl vu lo hi sl Q I rx hs pl pu h
 .exact sl_str pins s σ H x v vl vu lo hi sl Q I rx hs pl pu h
theorem W9{K:ac8}{g:Gh}{H:Hp}{x:V}{d:Dat}{lo hi:Option Int}{Q:VK}{E:bJ->Prop}(k:Kd g H)(rx:bB K g H x d)(h:(FW d lo hi).sat (λz=>∀v H',Ex H H'->Rep K g H' v z->Q v H') E):Uy K x lo hi H Q:=by
 unfold FW at h;have hc:∀{us:List V} {ds:List Dat},au K g H us ds->au K g H (cutV us lo hi) (cutD ds lo hi):=λ{us ds} t=>by
  unfold cutV cutD;rw[t.length];exact(t.drop _).take _
 split at h
 .obtain⟨p,us,rfl,h1,h2⟩:=cD rx;exact .inl ⟨p,us,rfl,h1,λq nq=>h _ _ (Ex.new nq) (.lst (.inl ⟨aeu,k.fresh nq⟩) ((hc h2).ex (Ex.new nq) k))⟩
 .next ds=>
  obtain⟨p,us,rfl,h1,h2⟩:=dD rx;refine .inr (.inl ⟨p,us,rfl,h1,λz=>?_,λ_ q nq=>h _ _ (Ex.new nq) (.tup (st_of aeu) ((hc h2).ex (Ex.new nq) k))⟩);have e:cutD ds lo hi=ds:=by unfold cutD;rw[<-h2.length,z.1,z.2,h2.length];simp
  rw[e]at h;exact h _ H (Ex.refl H) (.tup h1 h2)
 .obtain⟨hz,h⟩:=h.fB;exact .inr (.inr ⟨_,cR rx,sz_of (aen hz),h _ H (Ex.refl H) (.str _)⟩)
 .exact ael h
section
variable{X:Cx}{aj:aC}{W:WX}{a b:Expr}{fa fb:QF}{pos p2:Pos}
theorem X4(ha:QW aj X W a fa)(hb:QW aj X W b fb)(hs:PlainIx b):QE aj X W (.Subscript a b pos) (aA bG fa fb):=
 PE.weak (pe_ix Zb ha hb hs) λσ H Q h=>vZ Xz σ H Q h
theorem PO.weak{X:Cx}{e:Option Expr}{t t':TO}(h:PO X e t)(k:∀σ H Q,t' σ H Q->t σ H Q):PO X e t':=⟨λpins s σ H Q I q=>h.run pins s σ H Q I (k σ H Q q)⟩
theorem Rq:JF aj X W none wu:=PO.weak po_none λσ H Q ⟨g,Z,M,I,h⟩=>h H (Ex.refl H)
theorem Qg(ha:QW aj X W a fa):JF aj X W (some a) (fQ fa):=PO.weak (po_some ha) λσ H Q ⟨g,Z,M,I,h⟩=>by
 refine tW.go I h.bnd λd v H1 h1 e1 r1=>?_;have h1:=h1.bnd;unfold j7 at h1;split at h1
 .exact⟨_,aQ r1,h1 H1 e1⟩
 .exact ael h1
theorem XH{lo hi:Option Expr}{fl fh:QO}(ha:QW aj X W a fa)(hl:JF aj X W lo fl)(hh:JF aj X W hi fh):QE aj X W (.Subscript a (.Slice lo hi none p2) pos) (yK fa fl fh):=
 PE.weak (pe_slice YW ha hl hh) λσ H Q ⟨g,Z,M,I,h⟩=>by
  refine tW.go I h.bnd λd v H1 h1 e1 r1=>?_;have I1:=I.ex e1;refine⟨g,Z,M,I1,h1.bnd.mono (λl h2 H2 e2=>?_) λ_ z=>z.ex e1⟩;have I2:=I1.ex e2;refine⟨g,Z,M,I2,h2.bnd.mono (λu h3 H3 e3=>?_) λ_ z=>(z.ex e1).ex e2⟩;exact W9 (I2.ex e3).kd ((r1.ex e2 I1.kd).ex e3 I2.kd) (h3.mono (λz hz v' H' e' r'=>hz v' H' (((e1.trans e2).trans e3).trans e') r') λ_ z=>z)
end
def ql(aj:aC)(K:ac8)(W:WX)(o:Dat->Out Dat)(r:List V->Hp->VK->Prop):Prop:=∀(σ:L2.St) (g:Gh) (H:Hp) (x:V) (d:Dat) (Q:VK),Kd g H->bB K g H x d->
 (o d).sat (λz=>∀v H',Ex H H'->Rep K g H' v z->Q v H') (fO K aj W g H σ)->r [x] H Q
def OJ(aj:aC)(K:ac8)(W:WX)(o:Dat->Dat->Out Dat)(r:List V->Hp->VK->Prop):Prop:=∀(σ:L2.St) (g:Gh) (H:Hp) (x y:V) (d e:Dat) (Q:VK),Kd g H->bB K g H x d->bB K g H y e->
 (o d e).sat (λz=>∀v H',Ex H H'->Rep K g H' v z->Q v H') (fO K aj W g H σ)->r [x,y] H Q
def BV(f:Value)(x:Str):Prop:=bootBuiltins x=some f/\x≠"__name__"/\(x==("__debug__" : Str))=false
def nst:Expr->Bool
 |.Starred _ _=>false
 |_=>true
section
variable{X:Cx}{aj:aC}{W:WX}{a b c:Expr}{fa fb fc:QF}{pos p:Pos}{x:Str}
theorem aU{env:PySem.Env}{a:Expr}(h:nst a=true)(es:List Expr):starEach (a::es) env=(false,eval a env)::starEach es env:=by cases a<;>first | rfl | cases h
theorem star_any{env:PySem.Env}{pos:Pos}:∀(es:List Expr),es.all nst=true->(backTo pos (starEach es env)).any (·.1)=false
 |[],_=>by with_unfolding_all rfl
 |a::es,h=>by
  rw[adF,ac9]at h;rw[aU h.1];have ih:=star_any (env:=env) (pos:=pos) es h.2;unfold backTo at ih |-
  rw[ada,adU,ih];rfl
theorem O7{f:Value}{id:String}{r:List V->Hp->VK->Prop}{o:Dat->Out Dat}(hf:f=.builtin id\/f=.type id)(hc:CallR X f r)(ho:ql aj X.K W o r)(hg:Gl X x)(hm:X.mg x=none)(hv:BV f x)(ha:QW aj X W a fa)(hs:nst a=true):QE aj X W (.Call (.Name x p) [a] [] pos) (fD o fa):=by
 have h1:=pa_cons ha pa_nil (aU hs []);have key:PE X (.Call (.Name x p) [a] [] pos) (tCB r (tCons (tW X.K aj W fa) tNil)):=by
  rcases hf with rfl|rfl
  .exact pe_callB hc hg hm hv.1 h1 hv.2.1 hv.2.2 (aU hs []) (by with_unfolding_all rfl)
  .exact pe_callTy hc hg hm hv.1 h1 hv.2.1 hv.2.2 (aU hs []) (by with_unfolding_all rfl)
 refine PE.weak key λσ H Q ⟨g,Z,M,I,h⟩=>?_;refine tW.go I h.bnd λd v H1 h1 e1 r1=>?_;exact ho σ g H1 v d Q (I.kd.ex e1) r1 (h1.mono (λz hz u H' e' r'=>hz u H' (e1.trans e') r') λ_ z=>z.ex e1)
theorem Yp{f:Value}{id:String}{r:List V->Hp->VK->Prop}{o:Dat->Dat->Out Dat}(hf:f=.builtin id\/f=.type id)(hc:CallR X f r)(ho:OJ aj X.K W o r)(hg:Gl X x)(hm:X.mg x=none)(hv:BV f x)(ha:QW aj X W a fa)(hb:QW aj X W b fb)(hs:nst a=true)(hs2:nst b=true):QE aj X W (.Call (.Name x p) [a,b] [] pos) (aA o fa fb):=by
 have h1:=pa_cons ha (pa_cons hb pa_nil (aU hs2 [])) (aU hs [b]);have key:PE X (.Call (.Name x p) [a,b] [] pos) (tCB r (tCons (tW X.K aj W fa) (tCons (tW X.K aj W fb) tNil))):=by
  rcases hf with rfl|rfl
  .exact pe_callB hc hg hm hv.1 h1 hv.2.1 hv.2.2 (aU hs [b]) (star_any [b] (by simp[hs2]))
  .exact pe_callTy hc hg hm hv.1 h1 hv.2.1 hv.2.2 (aU hs [b]) (star_any [b] (by simp[hs2]))
 refine PE.weak key λσ H Q ⟨g,Z,M,I,h⟩=>?_;refine tW.go I h.bnd λd v H1 h1 e1 r1=>?_;have I1:=I.ex e1;refine tW.go I1 (h1.bnd.mono (λ_ z=>z) λ_ z=>z.ex e1) λd2 v2 H2 h2 e2 r2=>?_;exact ho σ g H2 v v2 d d2 Q (I1.ex e2).kd (r1.ex e2 I1.kd) r2 (h2.mono (λz hz u H' e' r'=>hz u H' ((e1.trans e2).trans e') r') λ_ z=>(z.ex e1).ex e2)
end
def pq:Dat->Out Dat
 |.list ds=>.ok (.int ds.length)
 |.tuple ds=>.ok (.int ds.length)
 |.str x=>Out.when (decide (x.length<=100000)) (.ok (.int x.length))
 |_=>.bad
def Ay:Dat->Out Dat
 |.int i=>.ok (.int (if i<0 then -i else i))
 |_=>.bad
def pC:Dat->Dat->Out Dat
 |.int i,.int j=>.ok (.int (if j>i then j else i))
 |_,_=>.bad
def vM:Dat->Dat->Out Dat
 |.int i,.int j=>.ok (.int (if j<i then j else i))
 |_,_=>.bad
def intsOf:List Dat->Option (List Int)
 |[]=>some []
 |.int i::r=>(intsOf r).map (i::·)
 |_::_=>none
def mY:List Dat->Option (List Bool)
 |[]=>some []
 |.bool i::r=>(mY r).map (i::·)
 |_::_=>none
theorem pJ{K:ac8}{g:Gh}{H:Hp}:∀{us:List V} {ds:List Dat} {ns:List Int},au K g H us ds->intsOf ds=some ns->us=ns.map V.int
 |_,_,ns,.nil,e=>by cases e;rfl
 |_,_,ns,.cons (d:=d) (ds:=ds) h t,e=>by
  cases d with
  |int i=>
   rw[intsOf]at e;cases hr:intsOf ds with
   |none=>rw[hr]at e;cases e
   |some r=>
    rw[hr]at e;cases e;cases h;rw[pJ t hr];rfl
  |_=>cases e
theorem rK{K:ac8}{g:Gh}{H:Hp}:∀{us:List V} {ds:List Dat} {ns:List Bool},au K g H us ds->mY ds=some ns->us=ns.map V.bl
 |_,_,ns,.nil,e=>by cases e;rfl
 |_,_,ns,.cons (d:=d) (ds:=ds) h t,e=>by
  cases d with
  |bool i=>
   rw[mY]at e;cases hr:mY ds with
   |none=>rw[hr]at e;cases e
   |some r=>
    rw[hr]at e;cases e;cases h;rw[rK t hr];rfl
  |_=>cases e
@[simp]theorem Yk (ns:List Int):intsOf (ns.map PyData.int)=some ns:=by
 induction ns with
 |nil=>rfl
 |cons n ns ih=>rw[ada,intsOf,ih];rfl
@[simp]theorem YM (ns:List Bool):mY (ns.map PyData.bool)=some ns:=by
 induction ns with
 |nil=>rfl
 |cons n ns ih=>rw[ada,mY,ih];rfl
def Mw:Dat->Out Dat
 |.list ds=>match intsOf ds with
  |some ns=>.ok (.int ns.sum)
  |none=>.bad
 |_=>.bad
def rB:Int->List Int->Int
 |m,[]=>m
 |m,n::ns=>rB (if n>m then n else m) ns
theorem yU:∀(ns:List Int) (m:Int),(rB m ns∈m::ns)/\∀y∈m::ns,y<=rB m ns
 |[],m=>⟨by simp[rB],λy h=>by simp at h;subst h;exact Int.le_refl _⟩
 |n::ns,m=>by
  obtain⟨h1,h2⟩:=yU ns (if n>m then n else m);have hm:m<=(if n>m then n else m):=by split<;>omega
  have hn:n<=(if n>m then n else m):=by split<;>omega
  have h3:=h2 _ adg;refine⟨?_,λy hy=>?_⟩
  .show rB (if n>m then n else m) ns∈_;rcases adt.mp h1 with e|e
   .rw[e];split
    .exact adf _ adg
    .exact adg
   .exact adf _ (adf _ e)
  .show y<=rB (if n>m then n else m) ns;rcases adt.mp hy with e|hy
   .omega
   .rcases adt.mp hy with e|hy
    .omega
    .exact h2 y (adf _ hy)
def maxD:Dat->Out Dat
 |.list ds=>match intsOf ds with
  |some (n::ns)=>.ok (.int (rB n ns))
  |_=>.bad
 |_=>.bad
def Nm:Dat->Out Dat
 |.list ds=>match mY ds with
  |some bs=>.ok (.bool (bs.all id))
  |none=>.bad
 |_=>.bad
def Mg:Dat->Out Dat
 |.list ds=>match mY ds with
  |some bs=>.ok (.bool (bs.any id))
  |none=>.bad
 |_=>.bad
def jo:Dat->Out Dat
 |.list ds=>.ok (.tuple ds)
 |.tuple ds=>.ok (.tuple ds)
 |_=>.bad
def jP:Dat->Out Dat
 |.list ds=>.ok (.list ds)
 |.tuple ds=>.ok (.list ds)
 |_=>.bad
def intD:Dat->Out Dat
 |.int i=>.ok (.int i)
 |.bool k=>.ok (.int (if k then 1 else 0))
 |.str x=>Out.when (decide (x.length<=640)) (match PySem.intText? x with
  |some n=>.ok (.int n)
  |none=>.bad)
 |_=>.bad
def Ol(K:ac8):List V->Hp->VK->Prop:=λxs H Q=>(∃p ys,xs=[.ref p]/\(SqL K H p ys\/SqT K H p ys)/\Q (.int ys.length) H)\/∃z,xs=[.str z]/\z.length<=sizeLine/\Q (.int z.length) H
theorem Ws{X:Cx}:CallR X (.builtin "len") (Ol X.K):=λpins s σ H xs us Q I r h=>h.elim (λh=>call_len_seq pins s σ H xs us Q I r h) λh=>call_len_str pins s σ H xs us Q I r h
def Om:List V->Hp->VK->Prop:=λxs H Q=>((∃i,xs=[.int i]/\Q (.int i) H)\/∃k,xs=[.bl k]/\Q (.int (if k then 1 else 0)) H)\/∃a n,xs=[.str a]/\PySem.intText? a=some n/\a.length<=640/\Q (.int n) H
theorem Tz{X:Cx}:CallR X (.type "int") Om:=λpins s σ H xs us Q I r h=>h.elim (λh=>call_int1 pins s σ H xs us Q I r h) λh=>call_int_str pins s σ H xs us Q I r h
section
variable{K:ac8}{aj:aC}{W:WX}
theorem Ua:ql aj K W pq (Ol K):=λσ g H x d Q k rx h=>by
 unfold pq at h;split at h
 .obtain⟨p,us,rfl,h1,h2⟩:=cD rx;rw[<-h2.length]at h;exact .inl ⟨p,us,rfl,.inl h1,h _ H (Ex.refl H) (.int _)⟩
 .obtain⟨p,us,rfl,h1,h2⟩:=dD rx;rw[<-h2.length]at h;exact .inl ⟨p,us,rfl,.inr h1,h _ H (Ex.refl H) (.int _)⟩
 .obtain⟨hz,h⟩:=h.fB;cases cR rx;exact .inr ⟨_,rfl,sz_of (aen hz),h _ H (Ex.refl H) (.int _)⟩
 .exact ael h
theorem Vs:ql aj K W Ay (λxs H Q=>∃i,xs=[.int i]/\Q (.int (if i<0 then -i else i)) H):=λσ g H x d Q k rx h=>by
 unfold Ay at h;split at h
 .cases aQ rx;exact⟨_,rfl,h _ H (Ex.refl H) (.int _)⟩
 .exact ael h
theorem Ql:OJ aj K W pC (λxs H Q=>∃i j,xs=[.int i,.int j]/\Q (.int (if j>i then j else i)) H):=λσ g H x y d e Q k rx ry h=>by
 unfold pC at h;split at h
 .cases aQ rx;cases aQ ry;exact⟨_,_,rfl,h _ H (Ex.refl H) (.int _)⟩
 .exact ael h
theorem Qy:OJ aj K W vM (λxs H Q=>∃i j,xs=[.int i,.int j]/\Q (.int (if j<i then j else i)) H):=λσ g H x y d e Q k rx ry h=>by
 unfold vM at h;split at h
 .cases aQ rx;cases aQ ry;exact⟨_,_,rfl,h _ H (Ex.refl H) (.int _)⟩
 .exact ael h
theorem Uo:ql aj K W Mw (rSum K):=λσ g H x d Q k rx h=>by
 unfold Mw at h;split at h
 .split at h
  .next ns e=>
   obtain⟨p,us,rfl,h1,h2⟩:=cD rx;have:=pJ h2 e;subst this;exact⟨p,ns,rfl,h1,h _ H (Ex.refl H) (.int _)⟩
  .exact ael h
 .exact ael h
theorem R3:ql aj K W maxD (rMax K):=λσ g H x d Q k rx h=>by
 unfold maxD at h;split at h
 .split at h
  .next n ns e=>
   obtain⟨p,us,rfl,h1,h2⟩:=cD rx;have:=pJ h2 e;subst this;obtain⟨m1,m2⟩:=yU ns n;refine⟨p,n::ns,rfl,h1,by simp,λm hm hy=>?_⟩;have e2:m=rB n ns:=Int.le_antisymm (m2 m hm) (hy _ m1);rw[e2];exact h _ H (Ex.refl H) (.int _)
  .exact ael h
 .exact ael h
theorem TY:ql aj K W Nm (rAll K):=λσ g H x d Q k rx h=>by
 unfold Nm at h;split at h
 .split at h
  .next ns e=>
   obtain⟨p,us,rfl,h1,h2⟩:=cD rx;have:=rK h2 e;subst this;exact⟨p,ns,rfl,h1,h _ H (Ex.refl H) (.bl _)⟩
  .exact ael h
 .exact ael h
theorem Wc:ql aj K W Mg (rAny K):=λσ g H x d Q k rx h=>by
 unfold Mg at h;split at h
 .split at h
  .next ns e=>
   obtain⟨p,us,rfl,h1,h2⟩:=cD rx;have:=rK h2 e;subst this;exact⟨p,ns,rfl,h1,h _ H (Ex.refl H) (.bl _)⟩
  .exact ael h
 .exact ael h
theorem Nk:ql aj K W jo (λxs H Q=>∃p ys,xs=[.ref p]/\((SqL K H p ys/\∀l,H l=none->Q (.ref l) (upd H l (.tup ys)))\/(SqT K H p ys/\Q (.ref p) H))):=λσ g H x d Q k rx h=>by
 unfold jo at h;split at h
 .obtain⟨p,us,rfl,h1,h2⟩:=cD rx;exact⟨p,us,rfl,.inl ⟨h1,λl nl=>h _ _ (Ex.new nl) (.tup (st_of aeu) (h2.ex (Ex.new nl) k))⟩⟩
 .obtain⟨p,us,rfl,h1,h2⟩:=dD rx;exact⟨p,us,rfl,.inr ⟨h1,h _ H (Ex.refl H) (.tup h1 h2)⟩⟩
 .exact ael h
theorem Ru:ql aj K W jP (λxs H Q=>∃p ys,xs=[.ref p]/\(SqL K H p ys\/SqT K H p ys)/\∀l,H l=none->Q (.ref l) (upd H l (.lst ys))):=λσ g H x d Q k rx h=>by
 unfold jP at h;split at h
 .obtain⟨p,us,rfl,h1,h2⟩:=cD rx;exact⟨p,us,rfl,.inl h1,λl nl=>h _ _ (Ex.new nl) (.lst (.inl ⟨aeu,k.fresh nl⟩) (h2.ex (Ex.new nl) k))⟩
 .obtain⟨p,us,rfl,h1,h2⟩:=dD rx;exact⟨p,us,rfl,.inr h1,λl nl=>h _ _ (Ex.new nl) (.lst (.inl ⟨aeu,k.fresh nl⟩) (h2.ex (Ex.new nl) k))⟩
 .exact ael h
theorem VJ:ql aj K W intD Om:=λσ g H x d Q k rx h=>by
 unfold intD at h;split at h
 .cases aQ rx;exact .inl (.inl ⟨_,rfl,h _ H (Ex.refl H) (.int _)⟩)
 .cases mW rx;exact .inl (.inr ⟨_,rfl,h _ H (Ex.refl H) (.int _)⟩)
 .obtain⟨hz,h⟩:=h.fB;split at h
  .next n e=>
   cases cR rx;exact .inr ⟨_,n,rfl,e,aen hz,h _ H (Ex.refl H) (.int _)⟩
  .exact ael h
 .exact ael h
end
inductive qZ where
 |int|bool|str|tuple|list
def qZ.name:qZ->String
 |.int=>"int"
 |.bool=>"bool"
 |.str=>"str"
 |.tuple=>"tuple"
 |.list=>"list"
def pB(t:qZ):Dat->Option Bool
 |.none=>some false
 |.int _=>some (match t with
  |.int=>true
  |_=>false)
 |.bool _=>some (match t with
  |.int=>true
  |.bool=>true
  |_=>false)
 |.str _=>some (match t with
  |.str=>true
  |_=>false)
 |.tuple _=>some (match t with
  |.tuple=>true
  |_=>false)
 |.list _=>some (match t with
  |.list=>true
  |_=>false)
 |.dict _=>none
def nM(t:qZ)(d:Dat):Out Dat:=match pB t d with
 |some b=>.ok (.bool b)
 |none=>.bad
def Ld:Dat->String
 |.none=>"NoneType"
 |.int _=>"int"
 |.bool _=>"bool"
 |.str _=>"str"
 |.tuple _=>"tuple"
 |.list _=>"list"
 |.dict _=>"dict"
theorem U3{K:ac8}{H:Hp}{a:Addr}{xs:List V}(h:SqL K H a xs):TyX K H (.ref a) (.type "list"):=by
 rcases h with(h|⟨o,h⟩)|⟨o,its,n,h1,h2,_⟩
 .exact .base (.lst h)
 .exact .base (.frz h)
 .exact .kList h1 h2
theorem TQ{K:ac8}{H:Hp}{a:Addr}{xs:List V}(h:SqT K H a xs):TyX K H (.ref a) (.type "tuple"):=by
 rcases h with(h|⟨o,h⟩)|⟨o,its,n,h1,h2,_⟩
 .exact .base (.tup h)
 .exact .fTuple h
 .exact .kTuple h1 h2
theorem XQ{K:ac8}{g:Gh}{H:Hp}{x:V}{d:Dat}(h:bB K g H x d)(hd:∀kv,d≠.dict kv):TyX K H x (.type (Ld d)):=by
 cases d with
 |none=>cases oK h;exact .base .non
 |bool b=>cases mW h;exact .base (.bl _)
 |int b=>cases aQ h;exact .base (.int _)
 |str b=>cases cR h;exact .base (.str _)
 |list b=>obtain⟨a,us,rfl,h1,_⟩:=cD h;exact U3 h1
 |tuple b=>obtain⟨a,us,rfl,h1,_⟩:=dD h;exact TQ h1
 |dict kv=>exact absurd rfl (hd kv)
theorem Qc{K:ac8}{t:qZ}{d:Dat}{b:Bool}(h:pB t d=some b):PySem.W.kitOne K (.type (Ld d)) (.type t.name)=some b/\∀kv,d≠.dict kv:=by
 cases d with
 |dict kv=>cases h
 |_=>cases t<;>cases h<;>exact⟨kit_ty (by dsimp only[Ld,qZ.name];decide +kernel),λ_ z=>nomatch z⟩
def kJ(t:qZ)(a:QF):QF:=fD (nM t) a
section
variable{X:Cx}{aj:aC}{W:WX}{a b:Expr}{fa:QF}{pos p p2:Pos}{x y:Str}
theorem Um{t:qZ}(hg:Gl X x)(hm:X.mg x=none)(hv:BV (.builtin "isinstance") x)(hg2:Gl X y)(hm2:X.mg y=none)(hv2:BV (.type t.name) y)(ha:QW aj X W a fa)(hs:nst a=true):QE aj X W (.Call (.Name x p) [a,.Name y p2] [] pos) (kJ t fa):=by
 have hb:PE X (.Name y p2) (tC (.ty t.name)):=pe_bltn hg2 hm2 hv2.1 rfl hv2.2.1 hv2.2.2;have h1:=pa_cons ha (pa_cons hb pa_nil (aU (a:=.Name y p2) rfl [])) (aU hs [.Name y p2]);have key:=pe_callB (pos:=pos) (p:=p) call_isi hg hm hv.1 h1 hv.2.1 hv.2.2 (aU hs [.Name y p2]) (star_any [.Name y p2] rfl);refine PE.weak key λσ H Q ⟨g,Z,M,I,h⟩=>?_;refine tW.go I h.bnd λd v H1 h1 e1 r1=>?_;unfold nM at h1;split at h1
 .next bb e=>
  obtain⟨k1,k2⟩:=Qc (K:=X.K) e;exact⟨v,_,_,_,bb,rfl,.ty _,XQ r1 k2,k1,h1 _ H1 e1 (.bl _)⟩
 .exact ael h1
end
inductive Src where
 |lst (a:Addr)|tup (a:Addr)|str (x:Str)
def chars(x:Str):List V:=x.cps.toList.map λc=>V.str ⟨#[c]⟩
def Src.sq(K:ac8)(H:Hp)(us:List V):Src->Prop
 |.lst a=>SqL K H a us
 |.tup a=>SqT K H a us
 |.str x=>us=chars x
def Src.it(h:Heap)(i:Addr)(n:Nat):Src->Prop
 |.lst a=>h.IsListIter i a n
 |.tup a=>h.IsTupleIter i a n
 |.str x=>∃t,h.IsStrIter i (strIterType x) x t n
def Src.ad:Src->List Addr
 |.lst a=>[a]
 |.tup a=>[a]
 |.str _=>[]
section
variable{X:Cx}{pins:List (Addr×Obj)}{σ:L2.St}{H:Hp}{s:Shared}
theorem Src.inj{S:Src}{us ws:List V}(I:L2.Inv X pins σ H s)(h:S.sq X.K H us)(h':S.sq X.K H ws):us=ws:=by
 cases S with
 |lst a=>exact I.list_inj h h'
 |tup a=>exact I.tuple_inj h h'
 |str x=>exact Eq.trans h (Eq.symm h')
theorem Src.draws{S:Src}{us:List V}{i:Addr}{n:Nat}(I:L2.Inv X pins σ H s)(hA:X.A.handled=none)(hs:S.sq X.K H us)(hi:S.it s.heap i n)(hne:∀a∈S.ad,a≠i) :
  ∃(P:Nat->Value->Prop) (St:Nat->Heap->Prop),Draws X.prog X.w X.A.in1 i (i::S.ad) us.length P St/\St n s.heap/\(∀m h,St m h->S.it h i m)/\∀(m:Nat) (v:Value) (x:V),P m v->us[m]?=some x->RelV x v:=by
 cases S with
 |lst a=>
  obtain⟨its,rv,p,hz⟩:=I.list hs;have hl:=rv.length;have D:=Draws.list (prog:=X.prog) (w:=X.w) (A:=X.A.in1) hA i a (hne a (by simp[Src.ad])) its.toArray;rw[aeb,<-hl]at D;refine⟨_,_,D,⟨hi,p.isList⟩,λm h z=>z.1,λm v x hv hx=>?_⟩;obtain⟨u,hu,ru⟩:=rv.get hx;have:v=u:=adA (hv.symm.trans (by simpa using hu));rw[this];exact ru
 |tup a=>
  obtain⟨its,rv,p,hz⟩:=I.tuple hs;have hl:=rv.length;have D:=Draws.tuple (prog:=X.prog) (w:=X.w) (A:=X.A.in1) hA i a (hne a (by simp[Src.ad])) its.toArray;rw[aeb,<-hl]at D;refine⟨_,_,D,⟨hi,p⟩,λm h z=>z.1,λm v x hv hx=>?_⟩;obtain⟨u,hu,ru⟩:=rv.get hx;have:v=u:=adA (hv.symm.trans (by simpa using hu));rw[this];exact ru
 |str x=>
  obtain⟨t,hi⟩:=hi;have hl:us.length=x.cps.size:=by rw[show us=chars x from hs];unfold chars;rw[adi,adG]
  have D:=Draws.text (prog:=X.prog) (w:=X.w) (A:=X.A.in1) hA i x t;rw[<-hl]at D;refine⟨_,_,D,hi,λm h z=>⟨t,z⟩,λm v y hv hy=>?_⟩;obtain⟨c,u,hc,rfl⟩:=hv;rw[show us=chars x from hs]at hy;unfold chars at hy;rw[adq,adK,hc]at hy;cases hy;exact⟨u,rfl⟩
theorem Src.tY{S:Src}{h:Heap}{i:Addr}{n:Nat}(hi:S.it h i n):∃o,h.get? i=some o/\∀v,o.data≠.cell v:=by
 cases S with
 |lst a=>obtain⟨o,e,_,d⟩:=hi;exact⟨o,e,λv q=>by rw[d]at q;cases q⟩
 |tup a=>obtain⟨o,e,_,d⟩:=hi;exact⟨o,e,λv q=>by rw[d]at q;cases q⟩
 |str x=>obtain⟨t,o,e,_,d⟩:=hi;exact⟨o,e,λv q=>by rw[d]at q;cases q⟩
theorem Src.tG{S:Src}{h h':Heap}{i:Addr}{n:Nat}(hi:S.it h i n)(k:∀o,h.get? i=some o->h'.get? i=some o):S.it h' i n:=by
 cases S with
 |lst a=>exact hi.at k
 |tup a=>exact hi.at k
 |str x=>obtain⟨t,o,e,r⟩:=hi;exact⟨t,o,k o e,r⟩
end
def ItE(K:ac8)(S:Src)(k₀:Int):It:=
 ⟨λi H=>∃(us:List V) (x:V),S.sq K H us/\us[i]?=some x,λi H v H'=>∃T x,v=.ref T/\H T=none/\H'=upd H T (.tup [.int (k₀+(i:Int)),x])/\∀us,S.sq K H us->us[i]?=some x,λi H=>∃us:List V,S.sq K H us/\us.length=i⟩
theorem Xn{P:Program}{w:World}{K:ac8}{elts:List Expr}{kk:Nat}{tpos:Pos}(S:Src)(e i0:Addr)(k₀:Int)(hne:e≠i0)(ha:∀a∈S.ad,e≠a/\a≠i0) :
  Turn P w K (.Tuple elts kk tpos) (ItE K S k₀) [e,i0] e (λi h=>(∃old,IsEnum h e i0 (k₀+(i:Int)) old)/\S.it h i0 i) where
 mem:=by simp
 obj:=λi h st b hb=>by
  obtain⟨⟨old,he⟩,hi⟩:=st;have e':b=e\/b=i0:=by simpa using hb
  rcases e' with z|z
  .rw[z];exact⟨_,he,λv q=>nomatch q⟩
  .rw[z];exact Src.tY hi
 keep:=λi h h' st k=>let⟨⟨old,he⟩,hi⟩:=st;⟨⟨old,k e (by simp) _ he⟩,Src.tG hi λo q=>k i0 (by simp) o q⟩
 item:=by
  intro X hP hw hK hc i pins s σ H E I hf st hg;subst hP hw hK;obtain⟨⟨old,he⟩,hit⟩:=st;obtain⟨us,x,hq,hx⟩:=hg;obtain⟨PP,St,D,st0,stI,rel⟩:=Src.draws I (I.ok.hd hc) hq hit λa z=>(ha a z).2;have hel:e<s.heap.objs.size:=Heap.lt_size he;have hil:i0<s.heap.objs.size:=by obtain⟨_,q,_⟩:=Src.tY hit;exact Heap.lt_size q
  have hin:i<us.length:=(adb.mp hx).1;refine wpAny_pyNext_enum_itemC D he st0 hin hne (λz=>?_) λv h' tk hP ho hst' hT hsz hk=>?_
  .rcases adt.mp z with z|z
   .exact hne z
   .exact(ha e z).1 rfl
  have ru:=rel i v x hP hx;refine⟨_,rfl,wpAny_letOwnedTupleGo_enum (s:={ s with heap:=h',toks:=tk+1 }) ho λh'' he' sb=>?_⟩;have hT2:h''.get? s.heap.objs.size=some { cls:=.type "tuple",data:=.seq #[.int (k₀+(i:Int)) tk,v] }:=(sb.2 _ (Nat.ne_of_gt hel)).trans hT
  have new:ObjOk X.prog X.w (upd H s.heap.objs.size (.tup [.int (k₀+(i:Int)),x])) h'' s.heap.objs.size (.tup [.int (k₀+(i:Int)),x]):=
   ⟨by show 2<=sizeLine;decide,[.int (k₀+(i:Int)) tk,v],.cons ⟨_,rfl⟩ (.cons ru .nil),⟨_,hT2,rfl,_,rfl⟩⟩
  have I1:L2.Inv X pins σ (upd H s.heap.objs.size (.tup [.int (k₀+(i:Int)),x])) { s with heap:=h'',toks:=tk+1 }:=
   I.turnedNew (ch:=[e,i0]) (λb ob hb q=>(sb.2 b (λz=>hb (by simp[z]))).trans (hk b ob (λz=>hb (by simp[z])) (λz=>hb (by simp[z])) q)) hf (adz _) new
  refine⟨.ref s.heap.objs.size,_,I1,rfl,⟨_,x,rfl,I.hok.fresh (adz _),rfl,λys hy=>by rw[Src.inj I hy hq];exact hx⟩,⟨⟨v,?_⟩,Src.tG (stI _ _ hst') λo q=>(sb.2 i0 (Ne.symm hne)).trans q⟩,λb hb=>?_⟩
  .have e1:k₀+((i+1:Nat):Int)=k₀+(i:Int)+1:=by omega
   rw[e1];exact he'
  .have hb':b<s.heap.objs.size:=by
    have e':b=e\/b=i0:=by simpa using hb
    rcases e' with z|z
    .rw[z];exact hel
    .rw[z];exact hil
   rw[upd_ne (adC hb')];exact(hf b hb).1
 done:=by intro X hP hw hK hc i pins s σ H E I hf st hg;subst hP hw hK;obtain⟨⟨old,he⟩,hit⟩:=st;obtain⟨us,hq,hx⟩:=hg;obtain⟨PP,St,D,st0,stI,rel⟩:=Src.draws I (I.ok.hd hc) hq hit λa z=>(ha a z).2;obtain⟨f0,f1,f2,f3,f4,f5⟩:=hf i0 (by simp);rw[<-hx]at st0;exact wpAny_pyNext_enum_endD D he st0 λh' eb=>⟨rfl,I.turned (t':=s.toks) (λb o hb q=>eb b o hb q) f0 f1 f3 f4 f5⟩
 self:=λA i s Q E st h=>let⟨⟨_,he⟩,_⟩:=st;wpAny_pyIter_enum he h
theorem Src.begins{X:Cx}{pins:List (Addr×Obj)}{σ:L2.St}{H:Hp}{s:Shared}{S:Src}{us:List V}{x:V}{v:Value}(I:L2.Inv X pins σ H s)(hs:S.sq X.K H us)(hx:(∃a,x=.ref a/\S.ad=[a]/\(S=.lst a\/S=.tup a))\/∃y,S=.str y/\x=.str y)(r:RelV x v) :
  ∃(o:Obj) (B:Heap->Prop),Begins v o B/\B s.heap/\(∀h i,h.get? i=some o->S.it h i 0)/\∀a∈S.ad,a<s.heap.objs.size:=by
 rcases hx with⟨a,rfl,ha,h|h⟩|⟨y,h,rfl⟩
 .subst h;cases r;obtain⟨its,rv,p,_⟩:=I.list hs;obtain⟨o1,ho1,_⟩:=id p.isList;refine⟨_,_,begins_list a its.toArray,p.isList,λh i e=>⟨_,e,rfl,rfl⟩,λb hb=>?_⟩;rw[ha]at hb;rw[adu.mp hb];exact Heap.lt_size ho1
 .subst h;cases r;obtain⟨its,rv,p,_⟩:=I.tuple hs;obtain⟨o1,ho1,_⟩:=id p;refine⟨_,_,begins_tuple a its.toArray,p,λh i e=>⟨_,e,rfl,rfl⟩,λb hb=>?_⟩;rw[ha]at hb;rw[adu.mp hb];exact Heap.lt_size ho1
 .subst h;obtain⟨t,rfl⟩:=r;exact⟨_,_,begins_text y t,aek,λh i e=>⟨t,_,e,rfl,rfl⟩,λb hb=>nomatch hb⟩
def srcOf(x:V)(S:Src):Prop:=(∃a,x=.ref a/\S.ad=[a]/\(S=.lst a\/S=.tup a))\/∃y,S=.str y/\x=.str y
def V2(K:ac8)(ta:TA)(k₀:Int):TI:=λσ H R=>ta σ H λvs H1=>∃x S us,vs=[x]/\srcOf x S/\S.sq K H1 us/\R (ItE K S k₀) H1
section
variable{X:Cx}{a b:Expr}{ta tb:TA}{p pos tpos:Pos}{elts:List Expr}{kk:Nat}
theorem Ub{pins:List (Addr×Obj)}{σ:L2.St}{H:Hp}{s:Shared}(I:L2.Inv X pins σ H s):∀b∈[s.heap.objs.size+1,s.heap.objs.size],FpOk X pins H b:=λb hb=>by
 have e':b=s.heap.objs.size+1\/b=s.heap.objs.size:=by simpa using hb
 have hle:s.heap.objs.size<=b:=by
  rcases e' with z|z
  .rw[z];exact Nat.le_add_right _ _
  .rw[z];exact adz _
 exact I.fpOk hle (I.hok.fresh hle)
theorem Og{pins:List (Addr×Obj)}{σ:L2.St}{H:Hp}{s:Shared}{S:Src}{us:List V}{x:V}{v:Value}{o:Obj}{k₀:Int}{R:It->Hp->Prop}{h':Heap}(I:L2.Inv X pins σ H s)(hlt:∀a∈S.ad,a<s.heap.objs.size)(hit:∀h i,h.get? i=some o->S.it h i 0)
  (he:IsEnum h' (s.heap.objs.size+1) s.heap.objs.size k₀ .none) (ho:h'.get? s.heap.objs.size=some o) (hk:∀b o,s.heap.get? b=some o->h'.get? b=some o) (q:R (ItE X.K S k₀) H) :
  wpAny (model X.prog X.w) X.A (pyIter (.ref (s.heap.objs.size+1))) (PIE X pins σ (.Tuple elts kk tpos) R) X.xe { s with heap:=h' }:=by
 refine wpAny_pyIter_enum he ?_;have I2:L2.Inv X pins σ H { s with heap:=h' }:=I.kept (t':=s.toks) hk;refine⟨s.heap.objs.size+1,[s.heap.objs.size+1,s.heap.objs.size],_,_,H,rfl,I2,Xn S (s.heap.objs.size+1) s.heap.objs.size k₀ (Nat.succ_ne_self _) (λa z=>?_),⟨⟨.none,?_⟩,hit _ _ ho⟩,Ub I,q⟩
 .have:=hlt a z;exact⟨Nat.ne_of_gt (adZ this),adC this⟩
 .rw[show k₀+((0:Nat):Int)=k₀ by simp];exact he
theorem N6{v:Value}{o:Obj}{B:Heap->Prop}(hB:Begins v o B) :
  Meets (Builtin.«enumerate.__new__» ⟨[.type "enumerate",v],[]⟩) (λ_ R s=>B s.heap/\
   R (.ok (.ret (.ref (s.heap.push o).objs.size))) { s with heap:=(s.heap.push o).push { cls:=.type "enumerate",data:=.fields #[.none,.bool false,.ref s.heap.objs.size,rawInt 0,.none,.none] } }):=
 .of_wp λprog w A R s hh=>by
  obtain⟨hp,gs,dr,tk,os⟩:=s;obtain⟨hb,hr⟩:=hh;have hsub:=sub_enumerate;have qi:∀{A':Around} {E:Value->Shared->Prop} {Q:Value->Shared->Prop},Q (.ref hp.objs.size) ⟨hp.push o,gs,dr,tk,os⟩->wpAny (model prog w) A' (pyIter v) Q E ⟨hp,gs,dr,tk,os⟩:=λz=>hB.iter prog w _ _ ⟨hp,gs,dr,tk,os⟩ _ hb z
  wp_walk using qi
  refine wpAny_stack_any λst=>aep ?_;split
  .next c _ _ _ _ _=>
   cases(c==Value.type "enumerate")<;>(wp_walk using qi;exact⟨_,rfl,hr⟩)
  .wp_walk using qi
   exact⟨_,rfl,hr⟩
theorem Jv{prog:Program}{w:World}{A:Around}{E:Value->Shared->Prop}{s:Shared}{v:Value}{o:Obj}{B:Heap->Prop}{Q:Value->Shared->Prop}(hB:Begins v o B)(hb:B s.heap)
  (h:∀h',IsEnum h' (s.heap.objs.size+1) s.heap.objs.size 0 .none->h'.get? s.heap.objs.size=some o->(∀b o,s.heap.get? b=some o->h'.get? b=some o)->Q (.ref (s.heap.objs.size+1)) { s with heap:=h' }) :
  wpAny (model prog w) A (call (.type "enumerate") [v]) Q E s:=by
 refine callType_new F.called_enumerate (by decide) (F.typeCall_enumerate_1 _) (F.newCall_enumerate_1 _) (λob=>F.args_object_init_2 ob _) F.entry_enumerate_new (N6 hB) ⟨hb,?_⟩;have hz:(s.heap.push o).objs.size=s.heap.objs.size+1:=Heap.size_push ..;have he:=Heap.get?_push_size (s.heap.push o) (o:={ cls:=.type "enumerate",data:=.fields #[.none,.bool false,.ref s.heap.objs.size,rawInt 0,.none,.none] }) rfl
 show _/\_;rw[hz]at he |-
 exact⟨⟨_,he,rfl⟩,h _ he (Heap.get?_push_of_some _ (Heap.get?_push_size _ hB.free)) λb u z=>Heap.get?_push_of_some _ (Heap.get?_push_of_some _ z)⟩
theorem X3(hg:Gl X "enumerate")(hm:X.mg "enumerate"=none)(ha:PA X [a] ta)(hs:nst a=true):PI X (.Tuple elts kk tpos) (.Call (.Name "enumerate" p) [a] [] pos) (V2 X.K ta 0):=by refine⟨λpins s σ H R I h=>?_⟩;refine Call_ (ld_blt I hg hm boot_enumerate (PyProof.Rows.callWith_type1 (thn (ha.run pos pins s σ H _ I h) λus s1 ⟨vs,H1,I1,r1,x,S,us',ev,hx,hq,q⟩=>?_) (aU hs []) (by with_unfolding_all rfl)));subst ev;obtain⟨v,rfl,r⟩:=vals1 r1;obtain⟨o,B,hB,hb,hit,hlt⟩:=Src.begins I1 hq hx r;exact Jv hB hb λh' he ho hk=>Og (x:=x) (v:=v) (us:=us') I1 hlt hit he ho hk q
theorem Jy{M:Model}{A:Around}{E:Value->Shared->Prop}{s:Shared}{pos:Pos}{T:String}{args:List (Bool×Sem Value)}{kws:List (Option Str×Sem Value)}{Q:Value->Shared->Prop}(h1:args.any (·.1)=false)(h2:kws.any (·.1.isNone)=false)
  (h:wpAny M A (evalArgs (.type T) true args kws) (λz s₁=>wpAny M A (call (.type T) z.pos z.kw) Q E s₁) E s):wpAny M A (callWith pos (.type T) [] args kws) Q E s:=by
 unfold callWith;refine aeo (wpAny_holding (wpAny_mono h (λz s₁ hz=>aeo (wpAny_standAt ?_)) λ_ _ y=>y));rw[h1,h2];refine aeo (aep ?_);exact aeo (wpAny_mono hz (λr s₂ hr=>aeo (wpAny_holding (wpAny_point (aep hr)))) λ_ _ y=>y)
theorem T9{k₀:Int}{j:Nat}{kp kp2:Pos}(hk0 : -(2^63)<=k₀)(hk1:k₀<2^63)(hg:Gl X "enumerate")(hm:X.mg "enumerate"=none)(ha:PA X [a] ta)(hs:nst a=true) :
  PI X (.Tuple elts kk tpos) (.Call (.Name "enumerate" p) [a] [⟨some "start",.Constant (.int k₀) j kp,kp2⟩] pos) (V2 X.K ta k₀):=by
 refine⟨λpins s σ H R I h=>?_⟩;have hpk:PK X [⟨some "start",.Constant (.int k₀) j kp,kp2⟩] (tCons (tC (.int k₀)) tNil):=pk_cons pe_int pk_nil
 refine wpAny_Call_Name_kw (ld_blt I hg hm boot_enumerate (Jy (star_any [a] (by simp[hs])) (by with_unfolding_all rfl) ?_));refine PyProof.Rows.evalArgs_kw2 (by with_unfolding_all rfl) (thn (ha.run pos pins s σ H _ I h) λus s1 ⟨vs,H1,I1,r1,x,S,us',ev,hx,hq,q⟩=>?_) (by first | (rw[aU hs];done) | (rw[aU hs];rfl) | rw[aU hs]);refine thn (hpk.run pos pins s1 σ H1 (λzs H2=>zs=[.int k₀]/\H2=H1) I1 ⟨rfl,rfl⟩) λws s2 ⟨zs,H2,I2,r2,e1,e2⟩=>?_;subst ev e1 e2;obtain⟨v,rfl,r⟩:=vals1 r1;obtain⟨w,rfl,t,rfl⟩:=vals1 r2;obtain⟨o,B,hB,hb,hit,hlt⟩:=Src.begins I2 hq hx r;exact enum_begins_start hB hb hk0 hk1 λh' he ho _ hk=>Og (x:=x) (v:=v) (us:=us') I2 hlt hit he ho hk q
def U8(K:ac8)(S T:Src):It:=
 ⟨λi H=>∃(us ws:List V) (x y:V),S.sq K H us/\T.sq K H ws/\us[i]?=some x/\ws[i]?=some y,λi H v H'=>∃U x y,v=.ref U/\H U=none/\H'=upd H U (.tup [x,y])/\(∀us,S.sq K H us->us[i]?=some x)/\∀ws,T.sq K H ws->ws[i]?=some y,
  λi H=>∃us ws:List V,S.sq K H us/\T.sq K H ws/\i=min us.length ws.length⟩
theorem WR{P:Program}{w:World}{K:ac8}{S T:Src}{N:Addr}(h1:∀a∈S.ad,a<N)(h2:∀a∈T.ad,a<N) :
  Turn P w K (.Tuple elts kk tpos) (U8 K S T) [N+4,N+2,N+3,N,N+1] (N+4) (λn h=>IsZip h (N+4) (N+2) (N+3) .none/\IsPair h (N+2) (.ref N) (.ref (N+1))/\(∃x y,IsPair h (N+3) x y)/\S.it h N n/\T.it h (N+1) n) where
 mem:=by simp
 obj:=λn h q c hc=>by
  obtain⟨gz,gI,⟨x,y,gO⟩,i1,i2⟩:=q;simp only[adt,adH,or_false]at hc;rcases hc with rfl|rfl|rfl|rfl|rfl
  .exact⟨_,gz,λv q=>nomatch q⟩
  .exact⟨_,gI,λv q=>nomatch q⟩
  .exact⟨_,gO,λv q=>nomatch q⟩
  .exact Src.tY i1
  .exact Src.tY i2
 keep:=λn h h' q k=>by
  obtain⟨gz,gI,⟨x,y,gO⟩,i1,i2⟩:=q;exact⟨k _ (by simp) _ gz,k _ (by simp) _ gI,⟨x,y,k _ (by simp) _ gO⟩,Src.tG i1 λo e=>k _ (by simp) o e,Src.tG i2 λo e=>k _ (by simp) o e⟩
 item:=by
  intro X hP hw hK hc n pins s σ H E I hf q hg;subst hP hw hK;obtain⟨gz,gI,⟨x0,y0,gO⟩,i1,i2⟩:=q;obtain⟨us,ws,x,y,qx,qy,hx,hy⟩:=hg;obtain⟨P1,St1,D1,st1,b1,rel1⟩:=Src.draws I (I.ok.hd hc) qx i1 λa z=>adC (h1 a z);obtain⟨P2,St2,D2,st2,b2,rel2⟩:=Src.draws I (I.ok.hd hc) qy i2 λa z=>adC (adZ (h2 a z));have hzl:N+4<s.heap.objs.size:=Heap.lt_size gz;refine wpAny_pyNext_zipD2_item (zip_sep2 h1 h2) D1 D2 gz gI gO st1 st2 (adb.mp hx).1 (adb.mp hy).1 λv1 v2 h' tk p1 p2 z' o' s1 s2 hT hsz hk=>?_;refine⟨_,rfl,wpAny_letOwnedTupleGo_zip (s:={ s with heap:=h',toks:=tk }) z' λh'' z'' sb=>?_⟩;have hT2:=(sb.2 _ (Nat.ne_of_gt hzl)).trans hT;have new:ObjOk X.prog X.w (upd H s.heap.objs.size (.tup [x,y])) h'' s.heap.objs.size (.tup [x,y]):=⟨by show 2<=sizeLine;decide,[v1,v2],.cons (rel1 n v1 x p1 hx) (.cons (rel2 n v2 y p2 hy) .nil),⟨_,hT2,rfl,_,rfl⟩⟩;have I1:L2.Inv X pins σ (upd H s.heap.objs.size (.tup [x,y])) { s with heap:=h'',toks:=tk }:=by refine I.turnedNew (t':=tk) (ch:=[N+4,N+2,N+3,N,N+1]) (λc o hb e=>?_) hf (adz _) new;simp only[adt,adH,or_false,not_or]at hb;exact(sb.2 c hb.1).trans (hk c o hb.1 hb.2.2.1 hb.2.2.2.1 hb.2.2.2.2 e)
  have ne4:∀k,k≠4->N+k≠N+4:=λk hk z=>hk (aeh z);refine⟨.ref s.heap.objs.size,_,I1,rfl,⟨_,x,y,rfl,I.hok.fresh (adz _),rfl,λl hl=>by rw[Src.inj I hl qx];exact hx,λl hl=>by rw[Src.inj I hl qy];exact hy⟩,⟨z'',?_,⟨v1,v2,?_⟩,?_,?_⟩,λc hcm=>?_⟩
  .exact(sb.2 _ (ne4 2 (by decide))).trans (hk _ _ (ne4 2 (by decide)) (λz=>absurd (aeh z) (by decide)) (λz=>absurd (aeh (z.trans (Nat.add_zero N).symm)) (by decide)) (λz=>absurd (aeh z) (by decide)) gI)
  .exact(sb.2 _ (ne4 3 (by decide))).trans o'
  .exact Src.tG (b1 _ _ s1) λo e=>(sb.2 _ (ne4 0 (by decide))).trans e
  .exact Src.tG (b2 _ _ s2) λo e=>(sb.2 _ (ne4 1 (by decide))).trans e
  .have hlt:c<s.heap.objs.size:=by
    simp only[adt,adH,or_false]at hcm;rcases hcm with rfl|rfl|rfl|rfl|rfl
    .exact hzl
    .exact Heap.lt_size gI
    .exact Heap.lt_size gO
    .obtain⟨_,e1,_⟩:=Src.tY i1;exact Heap.lt_size e1
    .obtain⟨_,e2,_⟩:=Src.tY i2;exact Heap.lt_size e2
   rw[upd_ne (adC hlt)];exact(hf c hcm).1
 done:=by intro X hP hw hK hc n pins s σ H E I hf q hg;subst hP hw hK;obtain⟨gz,gI,⟨x0,y0,gO⟩,i1,i2⟩:=q;obtain⟨us,ws,qx,qy,hn⟩:=hg;obtain⟨P1,St1,D1,st1,b1,rel1⟩:=Src.draws I (I.ok.hd hc) qx i1 λa z=>adC (h1 a z);obtain⟨P2,St2,D2,st2,b2,rel2⟩:=Src.draws I (I.ok.hd hc) qy i2 λa z=>adC (adZ (h2 a z));refine wpAny_pyNext_zipD2_end (zip_sep2 h1 h2) D1 D2 gz gI gO st1 st2 (by omega) (by omega) (by omega) λh' tk hk=>⟨rfl,?_⟩;refine I.turnedL (t':=tk) (ch:=[N+4,N+2,N+3,N,N+1]) (λc o hb e=>?_) hf;simp only[adt,adH,or_false,not_or]at hb;exact hk c o hb.1 hb.2.2.1 hb.2.2.2.1 hb.2.2.2.2 e
 self:=λA n s Q E q h=>wpAny_pyIter_zip q.1 h
def iZp(K:ac8)(ta:TA):TI:=λσ H R=>ta σ H λvs H1=>∃x y S T us ws,vs=[x,y]/\srcOf x S/\srcOf y T/\S.sq K H1 us/\T.sq K H1 ws/\R (U8 K S T) H1
theorem Yg(hg:Gl X "zip")(hm:X.mg "zip"=none)(ha:PA X [a,b] ta)(hs:nst a=true)(hs2:nst b=true):PI X (.Tuple elts kk tpos) (.Call (.Name "zip" p) [a,b] [] pos) (iZp X.K ta):=by
 refine⟨λpins s σ H R I h=>?_⟩;refine Call_ (ld_blt I hg hm PyProof.Rows.boot_zip (PyProof.Rows.callWith_type1 (thn (ha.run pos pins s σ H _ I h) λus s1 ⟨vs,H1,I1,r1,x,y,S,T,us',ws',ev,hx,hy,hq,hq2,q⟩=>?_) (aU hs [b]) (star_any [b] (by simp[hs2]))));subst ev;obtain⟨v1,v2,rfl,rv1,rv2⟩:=vals2 r1;obtain⟨o1,B1,hB1,hb1,hit1,hlt1⟩:=Src.begins I1 hq hx rv1;obtain⟨o2,B2,hB2,hb2,hit2,hlt2⟩:=Src.begins I1 hq2 hy rv2;refine zip_begins2 hB1 hB2 hb1 hb2 λh' hz hTI hTO e1 e2 hsz hk=>wpAny_pyIter_zip hz ?_;have I2:L2.Inv X pins σ H1 { s1 with heap:=h' }:=I1.kept (t':=s1.toks) hk;refine⟨s1.heap.objs.size+4,_,_,_,H1,rfl,I2,WR hlt1 hlt2,⟨hz,hTI,⟨_,_,hTO⟩,hit1 _ _ e1,hit2 _ _ e2⟩,λc hcm=>?_,q⟩;have hle:s1.heap.objs.size<=c:=by simp only[adt,adH,or_false]at hcm;rcases hcm with rfl | rfl | rfl | rfl | rfl<;>first | exact adz _ | exact Nat.le_add_right _ _
 exact I1.fpOk hle (I1.hok.fresh hle)
end
section
variable{K:ac8}{aj:aC}{q:Bool}{g g':Gh}{H H':Hp}{v:V}{d:Dat}{σ:L2.St}{Z:Env}{M:Mo}
theorem bT.up{l:Addr}:∀{n:Bool} {kvs:List (Dat×Dat)} (r:Gr true g g' H H') (e:Ex H H') (k:Kd g H) (h:bT K aj g H l n kvs),bT K aj g' H' l n kvs
 |false,_,r,e,k,⟨kv,h1,h2,h3⟩=>⟨kv,e _ _ h1,h2,h3.gr r k⟩
 |true,_,r,e,k,⟨o,xs,vs,h1,h2,h3,h4,h5,h6⟩=>⟨o,xs,vs,e _ _ h1,h2,h3,h4.gr r k,h5,h6.gr r k⟩
theorem bh.up{h:Nat}{f:Str}(r:Gr true g g' H H')(e:Ex H H')(k:Kd g H):∀{fl:bV},bh K aj g H h f v fl->bh K aj g' H' h f v fl
 |.dat _,z=>Rep.gr r k z
 |.lst _ _,⟨l,us,h1,h2,h3,h4,h5⟩=>⟨l,us,h1,e _ _ h2,by rw[(r.qg rfl).2];exact h3,h4.gr r k,r.tb h5⟩
 |.dic _ _,⟨l,h1,h2,h3⟩=>⟨l,h1,by rw[(r.qg rfl).2];exact h2,h3.up r e k⟩
theorem aP.up{h:Nat}(r:Gr true g g' H H')(e:Ex H H')(k:Kd g H):∀{fs:List (Str×V)} {gs:List (Str×bV)},aP K aj g H h fs gs->aP K aj g' H' h fs gs
 |_,_,.nil=>.nil
 |_,_,.cons z t=>.cons (bh.up r e k z) (aP.up r e k t)
theorem bK.up(r:Gr true g g' H H')(e:Ex H H')(k:Kd g H)(w:bK K aj g H M):bK K aj g' H' M where
 len:=by rw[Gh.qm (r.qg rfl).1];exact w.len
 inj:=by rw[Gh.qm (r.qg rfl).1];exact w.inj
 ins:=λh a i ha hi hc=>by
  rw[Gh.qm (r.qg rfl).1]at ha;obtain⟨C,dx,fs,c1,c2,c3⟩:=w.ins h a i ha hi hc;exact⟨C,dx,fs,c1,e _ _ c2,c3.up r e k⟩
 nd:=w.nd
 fd:=w.fd
 tw:=by rw[Gh.qm (r.qg rfl).1,(r.qg rfl).2];exact w.tw
 dm:=w.dm
 nc:=w.nc
theorem SInv.up(r:Gr true g g' H H')(e:Ex H H')(k':Kd g' H')(I:SInv K aj σ H g Z M):SInv K aj σ H' g' Z M where
 kd:=k'
 wok:=I.wok.up r e I.kd
 len:=I.len
 dat:=λi d h=>by
  obtain⟨v,h1,h2⟩:=I.dat i d h;exact⟨v,h1,h2.gr r I.kd⟩
 own:=λi xs h=>by
  obtain⟨l,us,h1,h2,h3,h4⟩:=I.own i xs h;exact⟨l,us,h1,e _ _ h2,r.Lo l h3,h4.gr r I.kd⟩
 sep:=I.sep
def Gh.add(g:Gh)(D:Addr):Gh:={ g with Lo:=λa=>g.Lo a\/a=D }
theorem Gh.oO{D:Addr}(n:H D=none)(e:Ex H H'):Gr true g (g.add D) H H' where
 keep:=λa o h _ _=>e a o h
 keepW:=λ_ a o h _=>e a o h
 dom:=mD e
 tbl:=⟨[],by simp[Gh.add]⟩
 W:=λ_ h=>h
 nW:=λ_ h=>.inl h
 qg:=λ_=>⟨rfl,rfl⟩
 Lc:=rfl
 Lo:=λ_ h=>.inl h
 nLo:=λa h=>h.elim .inl λz=>.inr (by rw[z];exact n)
 kl:=rfl
theorem Gh.Tv{D:Addr}{o:HO}(k:Kd g H)(n:H D=none)(e:Ex H H')(hD:H' D=some o)(m:pW o):Kd (g.add D) H' where
 ob:=λa z=>by
  rcases z with z|z|z|z
  .obtain⟨o,h,m⟩:=k.ob a (.inl z);exact⟨o,e a o h,m⟩
  .obtain⟨o,h,m⟩:=k.ob a (.inr (.inl z));exact⟨o,e a o h,m⟩
  .obtain⟨o,h,m⟩:=k.ob a (.inr (.inr z));exact⟨o,e a o h,m⟩
  .rw[z];exact⟨o,hD,m⟩
 lo:=λa z=>by
  rcases z with z|z
  .exact k.lo a z
  .intro w;subst z;exact k.fresh n (.inl w)
 lc:=λa z=>⟨(k.lc a z).1,λy=>y.elim (k.lc a z).2 λy=>by subst y;exact k.fresh n (.inr (.inl z))⟩
theorem SInv.add{D:Addr}{o:HO}(I:SInv K aj σ H g Z M)(n:H D=none)(e:Ex H H')(hD:H' D=some o)(m:pW o):SInv K aj σ H' (g.add D) Z M:=
 I.up (Gh.oO n e) e (Gh.Tv I.kd n e hD m)
theorem SInv.set{j:Nat}(I:SInv K aj σ H g Z M)(r:Rep K g H v d):SInv K aj (σ.set j (some v)) H g (Z.set j (some (.dat d))) M where
 kd:=I.kd
 wok:=I.wok
 len:=by rw[adw,adw];exact I.len
 dat:=λi e h=>by
  by_cases z:j=i
  .subst z;have hj:j<Z.length:=by
    have:=(adb.mp h).1;rw[adw]at this;exact this
   rw[adk hj]at h;cases h;exact⟨v,by rw[adk (by rw[I.len];exact hj)],r⟩
  .rw[ade z]at h;obtain⟨u,h1,h2⟩:=I.dat i e h;exact⟨u,by rw[ade z];exact h1,h2⟩
 own:=λi xs h=>by
  by_cases z:j=i
  .subst z;have hj:j<Z.length:=by
    have:=(adb.mp h).1;rw[adw]at this;exact this
   rw[adk hj]at h;cases h
  .rw[ade z]at h;obtain⟨l,us,h1,h2⟩:=I.own i xs h;exact⟨l,us,by rw[ade z];exact h1,h2⟩
 sep:=λi k xs ys l ne h1 h2 h3=>by
  have nj:∀{i:Nat} {xs:List Dat},(Z.set j (some (.dat d)))[i]?=some (some (.mut xs))->j≠i:=λ{i xs} h z=>by
   subst z;have hj:j<Z.length:=by have:=(adb.mp h).1;rw[adw]at this;exact this
   rw[adk hj]at h;cases h
  have n1:=nj h1;have n2:=nj h2;rw[ade n1]at h1 h3;rw[ade n2]at h2;rw[ade n2];exact I.sep i k xs ys l ne h1 h2 h3
theorem SInv.forget{j:Nat}(I:SInv K aj σ H g Z M):SInv K aj (σ.set j none) H g (Z.set j none) M where
 kd:=I.kd
 wok:=I.wok
 len:=by rw[adw,adw];exact I.len
 dat:=λi e h=>by
  by_cases z:j=i
  .subst z;have hj:j<Z.length:=by
    have:=(adb.mp h).1;rw[adw]at this;exact this
   rw[adk hj]at h;cases h
  .rw[ade z]at h |-
   exact I.dat i e h
 own:=λi xs h=>by
  by_cases z:j=i
  .subst z;have hj:j<Z.length:=by
    have:=(adb.mp h).1;rw[adw]at this;exact this
   rw[adk hj]at h;cases h
  .rw[ade z]at h |-
   exact I.own i xs h
 sep:=λi k xs ys l ne h1 h2 h3=>by
  have nj:∀{i:Nat} {xs:List Dat},(Z.set j none)[i]?=some (some (.mut xs))->j≠i:=λ{i xs} h z=>by
   subst z;have hj:j<Z.length:=by have:=(adb.mp h).1;rw[adw]at this;exact this
   rw[adk hj]at h;cases h
  have n1:=nj h1;have n2:=nj h2;rw[ade n1]at h1 h3;rw[ade n2]at h2;rw[ade n2];exact I.sep i k xs ys l ne h1 h2 h3
def aR(Z:Env):List Nat->Env
 |[]=>Z
 |j::js=>(aR Z js).set j none
theorem SInv.wipe(I:SInv K aj σ H g Z M):∀vs:List Nat,SInv K aj (L2.wipe σ vs) H g (aR Z vs) M
 |[]=>I
 |j::js=>(SInv.wipe I js).forget
end
abbrev bR:=Dat->Env->Option Env
def aG(j:Nat):bR:=λd Z=>some (Z.set j (some (.dat d)))
def fU:List Nat->List Dat->Env->Option Env
 |[],[],Z=>some Z
 |j::js,d::ds,Z=>fU js ds (Z.set j (some (.dat d)))
 |_,_,_=>none
def cA(js:List Nat):bR:=λd Z=>match d with
 |.tuple ds=>fU js ds Z
 |_=>none
def sets(σ:L2.St):List Nat->List V->L2.St
 |j::js,v::vs=>sets (σ.set j (some v)) js vs
 |_,_=>σ
def jY(K:ac8)(aj:aC)(js:List Nat)(f:bR):TG:=λv σ H Q=>∃g Z M d Z',SInv K aj σ H g Z M/\Rep K g H v d/\f d Z=some Z'/\∀vs,SInv K aj (sets σ js vs) H g Z' M->Q (sets σ js vs) H
def QG(aj:aC)(X:Cx)(tg:Expr)(js:List Nat)(f:bR):Prop:=PG X tg (jY X.K aj js f)
theorem PG.weak{X:Cx}{e:Expr}{t t':TG}(h:PG X e t)(k:∀v σ H Q,t' v σ H Q->t v σ H Q):PG X e t':=⟨λpins s σ H v u Q I r q=>h.run pins s σ H v u Q I r (k v σ H Q q)⟩
section
variable{X:Cx}{aj:aC}{pos:Pos}
theorem wZ{j:Nat}{x:Str}(hN:X.N.Nodup)(hi:X.N[j]?=some x)(hx:Loc X.env.scope x)(hf:X.fn x=true\/X.env.scope.names.lookup x=some .local):QG aj X (.Name x pos) [j] (aG j):=
 PG.weak (pg_name hN hi hx hf) λv σ H Q ⟨g,Z,M,d,Z',I,r,e,q⟩=>by
  cases e;exact q [v] (I.set r)
def vO(X:Cx):List Expr->List Nat->Prop
 |[],[]=>True
 |.Name x _::es,j::js=>X.N[j]?=some x/\Loc X.env.scope x/\(X.fn x=true\/X.env.scope.names.lookup x=some .local)/\vO X es js
 |_,_=>False
theorem N5{es:List Expr}{js:List Nat}(h:vO X es js):(assignEach es X.env).length=js.length/\(assignEach es X.env).findIdx? (·.1)=none:=by
 induction es generalizing js with
 |nil=>
  cases js with
  |nil=>exact⟨by with_unfolding_all rfl,by with_unfolding_all rfl⟩
  |cons j js=>exact ael h
 |cons e es ih=>
  cases js with
  |nil=>cases e<;>exact ael h
  |cons j js=>
   cases e with
   |Name x p=>
    obtain⟨h1,h2⟩:=ih h.2.2.2;have e1:assignEach (.Name x p::es) X.env=(false,assign (.Name x p) X.env)::assignEach es X.env:=by with_unfolding_all rfl
    rw[e1];refine⟨by simp[h1],?_⟩;rw[List.findIdx?_cons,h2];rfl
   |_=>exact ael h
def gNs(js:List Nat):TGs:=λvs σ H Q=>vs.length=js.length/\Q (sets σ js vs) H
theorem yr(hN:X.N.Nodup):∀{es:List Expr} {js:List Nat},vO X es js->PGs X es (gNs js)
 |[],[],_=>⟨λpins s σ H vs us Q I r h=>by
  obtain⟨e,h⟩:=h;have:vs=[]:=List.length_eq_zero_iff.mp e;subst this;exact pgs_nil.run pins s σ H [] us Q I r ⟨rfl,h⟩⟩
 |.Name x p::es,j::js,h=>by
  have hp:=pgs_cons (pg_name (pos:=p) hN h.1 h.2.1 h.2.2.1) (yr hN h.2.2.2) (by with_unfolding_all rfl);refine⟨λpins s σ H vs us Q I r hq=>?_⟩;obtain⟨e,hq⟩:=hq;cases vs with
  |nil=>cases e
  |cons v vs=>exact hp.run pins s σ H (v::vs) us Q I r ⟨v,vs,rfl,adT e,hq⟩
 |[],_::_,h=>ael h
 |.Name _ _::_,[],h=>ael h
theorem pA{K:ac8}{g:Gh}{H:Hp}{M:Mo}:∀{js:List Nat} {ds:List Dat} {vs:List V} {σ:L2.St} {Z Z':Env},SInv K aj σ H g Z M->au K g H vs ds->fU js ds Z=some Z'->vs.length=js.length/\SInv K aj (sets σ js vs) H g Z' M
 |[],_,_,_,_,_,I,.nil,e=>by cases e;exact⟨rfl,I⟩
 |[],_,_,_,_,_,I,.cons _ _,e=>by cases e
 |j::js,_,_,_,_,_,I,.nil,e=>by cases e
 |j::js,_,_,_,_,_,I,.cons r t,e=>by
  obtain⟨h1,h2⟩:=pA (js:=js) (I.set (j:=j) r) t e;exact⟨by simp[h1],h2⟩
theorem Cp{es:List Expr}{js:List Nat}{k:Nat}(hc:X.calm=true)(hN:X.N.Nodup)(h:vO X es js):QG aj X (.Tuple es k pos) js (cA js):=by
 obtain⟨h1,h2⟩:=N5 h;refine PG.weak (pg_tup (n:=js.length) hc (yr hN h) h1 h2) λv σ H Q ⟨g,Z,M,d,Z',I,r,e,q⟩=>?_;unfold cA at e;split at e
 .obtain⟨a,us,rfl,s1,t1⟩:=dD r.weak;obtain⟨l1,I1⟩:=pA I t1 e;exact⟨a,us,rfl,s1,l1,l1,q us I1⟩
 .cases e
theorem jU:∀(js:List Nat) (vs:List V) (σ:L2.St) (ws:List Nat),(∀j∈js,j∈ws)->L2.wipe (sets σ js vs) ws=L2.wipe σ ws
 |[],_,_,_,_=>by unfold sets;rfl
 |_::_,[],_,_,_=>by unfold sets;rfl
 |j::js,v::vs,σ,ws,h=>by
  show L2.wipe (sets (σ.set j (some v)) js vs) ws=_;rw[jU js vs _ ws λk hk=>h k (adf _ hk)];have hj:j∈ws:=h j adg;have key:∀(ws:List Nat) (σ:L2.St),j∈ws->L2.wipe (σ.set j (some v)) ws=L2.wipe σ ws:=by
   intro ws
   induction ws with
   |nil=>intro σ z;cases z
   |cons k ws ih=>
    intro σ z
    show(L2.wipe (σ.set j (some v)) ws).set k none=(L2.wipe σ ws).set k none
    by_cases hk:j∈ws
    .rw[ih σ hk]
    .have e:j=k:=by
      rcases adt.mp z with z|z
      .exact z
      .exact absurd z hk
     subst e;have comm:∀(ws:List Nat),j∉ws->L2.wipe (σ.set j (some v)) ws=(L2.wipe σ ws).set j (some v):=by
      intro ws
      induction ws with
      |nil=>intro _;rfl
      |cons m ws ih2=>
       intro hm
       show(L2.wipe (σ.set j (some v)) ws).set m none=((L2.wipe σ ws).set m none).set j (some v)
       rw[ih2 λz=>hm (adf _ z),List.set_comm _ _ (λz=>hm (by rw[z];exact adg))]
     rw[comm ws hk,List.set_set]
  exact key ws σ hj
end
structure qb(K:ac8)(J:It)(C:Gh->Hp->Prop)(ds:List Dat):Prop where
 go:∀g i H,C g H->i<ds.length->J.go i H
 yld:∀g i H x H' d,Kd g H->C g H->ds[i]?=some d->J.yld i H x H'->Ex H H'/\Rep K g H' x d
 stop:∀g i H,C g H->i=ds.length->J.stop i H
 ex:∀g H H',Kd g H->C g H->Ex H H'->C g H'
 add:∀g g' H H',Kd g H->C g H->Gr true g g' H H'->Ex H H'->C g' H'
def Gp(C:Gh->Hp->Prop):Prop:=∀q g g' H H',Kd g H->C g H->Gr q g g' H H'->C g' H'
abbrev IF:=Mo->Env->Out (List Dat)
def tI(K:ac8)(aj:aC)(W:WX)(firm:Bool)(f:IF):TI:=λσ H R=>∃g Z M,SInv K aj σ H g Z M/\(f M Z).sat (λds=>∀J C H',Ex H H'->qb K J C ds->C g H'->(firm=true->Gp C)->R J H') (fO K aj W g H σ)
def QI(aj:aC)(X:Cx)(W:WX)(firm:Bool)(tg e:Expr)(f:IF):Prop:=PI X tg e (tI X.K aj W firm f)
def Br(x:Str):List Dat:=x.cps.toList.map λc=>.str ⟨#[c]⟩
def dZ:Dat->Out (List Dat)
 |.list ds=>.ok ds
 |.tuple ds=>.ok ds
 |.str x=>.ok (Br x)
 |_=>.bad
def cM(a:QF):IF:=λM Z=>(a M Z).bind dZ
def Src.cw(K:ac8)(S:Src)(ds:List Dat)(g:Gh)(H:Hp):Prop:=∃us,S.sq K H us/\au K g H us ds
def Src.cf(K:ac8)(S:Src)(ds:List Dat)(g:Gh)(H:Hp):Prop:=∃us,(match S with
 |.lst a=>uQ K g H a us
 |.tup a=>SqT K H a us
 |.str x=>us=chars x)/\au K g H us ds
section
variable{K:ac8}{g g':Gh}{H H':Hp}{ds es:List Dat}{S T:Src}
theorem Src.X7{us:List V}(e:Ex H H')(h:S.sq K H us):S.sq K H' us:=by
 cases S with
 |lst a=>exact ex_l e h
 |tup a=>exact ex_t e h
 |str x=>exact h
theorem Src.Gv(h:S.cf K ds g H):S.cw K ds g H:=by
 obtain⟨us,h1,h2⟩:=h;refine⟨us,?_,h2⟩;cases S with
 |lst a=>exact uQ.sq h1
 |tup a=>exact h1
 |str x=>exact h1
theorem Src.iG:Gp (S.cf K ds):=λq g g' H H' k ⟨us,h1,h2⟩ r=>by
 refine⟨us,?_,h2.gr r k⟩;cases S with
 |lst a=>exact r.ls h1
 |tup a=>exact r.YH k h1
 |str x=>exact h1
theorem Src.qI(k:Kd g H)(h:S.cw K ds g H)(r:Gr true g g' H H')(e:Ex H H'):S.cw K ds g' H':=by obtain⟨us,h1,h2⟩:=h;exact⟨us,Src.X7 e h1,h2.gr r k⟩
theorem Src.zH(k:Kd g H)(h:S.cw K ds g H)(e:Ex H H'):S.cw K ds g H':=Src.qI k h (Gr.ex e) e
end
section
variable{K:ac8}{ds es:List Dat}{S T:Src}
def Yv(K:ac8):Src->It
 |.lst a=>Itl K a
 |.tup a=>Itt K a
 |.str x=>Its x
theorem mX{g:Gh}{H:Hp}(x:Str):au K g H (chars x) (Br x):=by
 unfold chars Br
 induction x.cps.toList with
 |nil=>exact .nil
 |cons c cs ih=>exact .cons (.str _) ih
theorem qb.of{J:It}{C C':Gh->Hp->Prop}(w:qb K J C ds)(h:∀g H,C' g H->C g H)(e:∀g H H',Kd g H->C' g H->Ex H H'->C' g H')(a:∀g g' H H',Kd g H->C' g H->Gr true g g' H H'->Ex H H'->C' g' H'):qb K J C' ds where
 go:=λg i H c hi=>w.go g i H (h g H c) hi
 yld:=λg i H x H' d k c e y=>w.yld g i H x H' d k (h g H c) e y
 stop:=λg i H c e=>w.stop g i H (h g H c) e
 ex:=e
 add:=a
theorem Ey:qb K (Yv K S) (S.cw K ds) ds where
 go:=λg i H ⟨us,h1,h2⟩ hi=>by
  have hx:us[i]?=some (us[i]'(by rw[h2.length];exact hi)):=adh _;cases S with
  |lst a=>exact⟨us,_,h1,hx⟩
  |tup a=>exact⟨us,_,h1,hx⟩
  |str x=>
   show i<x.cps.size;have:=h2.length;rw[show us=chars x from h1]at this;unfold chars at this;rw[adi,adG]at this;omega
 yld:=λg i H x H' d k ⟨us,h1,h2⟩ e y=>by
  obtain⟨v,hv,rv⟩:=h2.get e;cases S with
  |lst a=>
   obtain⟨rfl,y⟩:=y;have:x=v:=adA ((y us h1).symm.trans hv);rw[this];exact⟨Ex.refl _,rv⟩
  |tup a=>
   obtain⟨rfl,y⟩:=y;have:x=v:=adA ((y us h1).symm.trans hv);rw[this];exact⟨Ex.refl _,rv⟩
  |str z=>
   obtain⟨rfl,c,hc,rfl⟩:=y;rw[show us=chars z from h1]at hv;unfold chars at hv;rw[adq,adK,hc]at hv;cases hv;exact⟨Ex.refl _,rv⟩
 stop:=λg i H ⟨us,h1,h2⟩ e=>by
  have hl:=h2.length;cases S with
  |lst a=>exact⟨us,h1,by omega⟩
  |tup a=>exact⟨us,h1,by omega⟩
  |str x=>
   show x.cps.size<=i;rw[show us=chars x from h1]at hl;unfold chars at hl;rw[adi,adG]at hl;omega
 ex:=λg H H' k h e=>Src.zH k h e
 add:=λg g' H H' k h r e=>Src.qI k h r e
def rP(k₀:Int)(ds:List Dat):List Dat:=ds.mapIdx λi d=>.tuple [.int (k₀+(i:Int)),d]
theorem NZ{k₀:Int}:qb K (ItE K S k₀) (S.cw K ds) (rP k₀ ds) where
 go:=λg i H ⟨us,h1,h2⟩ hi=>by
  have hl:i<us.length:=by rw[h2.length];unfold rP at hi;rw[List.length_mapIdx]at hi;exact hi
  exact⟨us,us[i],h1,adh hl⟩
 yld:=λg i H x H' d k ⟨us,h1,h2⟩ e y=>by
  unfold rP at e;rw[List.getElem?_mapIdx]at e;cases hd:ds[i]? with
  |none=>rw[hd]at e;cases e
  |some d0=>
   rw[hd]at e;cases e;obtain⟨v,hv,rv⟩:=h2.get hd;obtain⟨T,x0,rfl,nT,rfl,y⟩:=y;have:x0=v:=adA ((y us h1).symm.trans hv);subst this;exact⟨Ex.new nT,.tup (st_of aeu) (.cons (.int _) (.cons (rv.ex (Ex.new nT) k) .nil))⟩
 stop:=λg i H ⟨us,h1,h2⟩ e=>by
  unfold rP at e;rw[List.length_mapIdx,<-h2.length]at e;exact⟨us,h1,e.symm⟩
 ex:=λg H H' k h e=>Src.zH k h e
 add:=λg g' H H' k h r e=>Src.qI k h r e
def j9(ds es:List Dat):List Dat:=List.zipWith (λd e=>.tuple [d,e]) ds es
theorem Eo:qb K (U8 K S T) (λg H=>S.cw K ds g H/\T.cw K es g H) (j9 ds es) where
 go:=λg i H ⟨⟨us,h1,h2⟩,⟨ws,h3,h4⟩⟩ hi=>by
  unfold j9 at hi;rw[List.length_zipWith,<-h2.length,<-h4.length]at hi;exact⟨us,ws,us[i],ws[i],h1,h3,adh (by omega),adh (by omega)⟩
 yld:=λg i H x H' d k ⟨⟨us,h1,h2⟩,⟨ws,h3,h4⟩⟩ e y=>by
  unfold j9 at e;rw[List.getElem?_zipWith]at e;cases hd:ds[i]? with
  |none=>rw[hd]at e;cases e
  |some d0=>
   cases he:es[i]? with
   |none=>rw[hd,he]at e;cases e
   |some e0=>
    rw[hd,he]at e;cases e;obtain⟨v,hv,rv⟩:=h2.get hd;obtain⟨u,hu,ru⟩:=h4.get he;obtain⟨U,x0,y0,rfl,nU,rfl,y1,y2⟩:=y;have:x0=v:=adA ((y1 us h1).symm.trans hv);subst this;have:y0=u:=adA ((y2 ws h3).symm.trans hu);subst this;exact⟨Ex.new nU,.tup (st_of aeu) (.cons (rv.ex (Ex.new nU) k) (.cons (ru.ex (Ex.new nU) k) .nil))⟩
 stop:=λg i H ⟨⟨us,h1,h2⟩,⟨ws,h3,h4⟩⟩ e=>by
  unfold j9 at e;rw[List.length_zipWith,<-h2.length,<-h4.length]at e;exact⟨us,ws,h1,h3,e⟩
 ex:=λg H H' k h e=>⟨Src.zH k h.1 e,Src.zH k h.2 e⟩
 add:=λg g' H H' k h r e=>⟨Src.qI k h.1 r e,Src.qI k h.2 r e⟩
def iK(lo:Int)(n:Nat):List Dat:=(List.range n).map λ(i:Nat)=>.int (lo+(i:Int))
theorem yt{lo:Int}{n:Nat}:qb K (Itr lo n) (λ_ _=>True) (iK lo n) where
 go:=λg i H _ hi=>by
  unfold iK at hi;rw[adi,List.length_range]at hi;exact hi
 yld:=λg i H x H' d k _ e y=>by
  obtain⟨rfl,rfl⟩:=y;unfold iK at e;rw[adq]at e;cases hr:(List.range n)[i]? with
  |none=>rw[hr]at e;cases e
  |some j=>
   rw[hr]at e;cases e;have:j=i:=by obtain⟨h1,h2⟩:=adb.mp hr;rw[List.getElem_range]at h2;exact h2.symm
   subst this;exact⟨Ex.refl _,.int _⟩
 stop:=λg i H _ e=>by
  unfold iK at e;rw[adi,List.length_range]at e;show n<=i;omega
 ex:=λ_ _ _ _ _ _=>trivial
 add:=λ_ _ _ _ _ _ _ _=>trivial
end
section
variable{X:Cx}{aj:aC}{W:WX}{tg a b:Expr}{fa fb:QF}{pos p tpos:Pos}{elts:List Expr}{kk:Nat}
theorem sE{K:ac8}{g:Gh}{H:Hp}{v:V}{d:Dat}{ds:List Dat}{firm:Bool}(r:if firm=true then Rep K g H v d else bB K g H v d)(h:dZ d=.ok ds):∃S,srcOf v S/\S.cw K ds g H/\(firm=true->S.cf K ds g H):=by
 have rw:bB K g H v d:=by
  cases firm with
  |true=>exact Rep.weak r
  |false=>exact r
 cases d with
 |list es=>
  cases h;obtain⟨l,us,rfl,h1,h2⟩:=cD rw;refine⟨.lst l,.inl ⟨l,rfl,rfl,.inl rfl⟩,⟨us,h1,h2⟩,λz=>?_⟩;subst z;have r:Rep K g H (.ref l) (.list ds):=r;cases r with
  |lst h3 h4=>exact⟨_,h3,h4⟩
 |tuple es=>
  cases h;obtain⟨l,us,rfl,h1,h2⟩:=dD rw;exact⟨.tup l,.inl ⟨l,rfl,rfl,.inr rfl⟩,⟨us,h1,h2⟩,λ_=>⟨us,h1,h2⟩⟩
 |str x=>
  cases h;cases cR rw;exact⟨.str x,.inr ⟨x,rfl,rfl⟩,⟨_,rfl,mX x⟩,λ_=>⟨_,rfl,mX x⟩⟩
 |_=>cases h
def tF(K:ac8)(aj:aC)(W:WX)(firm:Bool)(f:QF):TE:=if firm=true then tQ K aj W f else tW K aj W f
def Fq(aj:aC)(X:Cx)(W:WX)(firm:Bool)(e:Expr)(f:QF):Prop:=PE X e (tF X.K aj W firm f)
theorem tF.go{K:ac8}{firm:Bool}{g:Gh}{H:Hp}{σ:L2.St}{Z:Env}{M:Mo}{f:QF}{k:Dat->Prop}{Q:VK}(I:SInv K aj σ H g Z M)(h:(f M Z).sat k (fO K aj W g H σ))(hk:∀d v H',k d->Ex H H'->(if firm=true then Rep K g H' v d else bB K g H' v d)->Q v H'):tF K aj W firm f σ H Q:=by
 cases firm with
 |true=>exact tQ.go I h hk
 |false=>exact tW.go I h hk
theorem Yc{K:ac8}{firm:Bool}{g:Gh}{H H':Hp}{v:V}{d:Dat}(e:Ex H H')(k:Kd g H)(r:if firm=true then Rep K g H v d else bB K g H v d):if firm=true then Rep K g H' v d else bB K g H' v d:=by
 cases firm with
 |true=>exact Rep.ex e k r
 |false=>exact bB.ex e k r
theorem wf{K:ac8}{S:Src}{firm:Bool}{J:It}{ds es:List Dat}{R:It->Hp->Prop}{g:Gh}{H H1:Hp}(h:∀J C H',Ex H H'->qb K J C ds->C g H'->(firm=true->Gp C)->R J H')(e1:Ex H H1)(w:qb K J (S.cw K es) ds)(hw:S.cw K es g H1)(hf:firm=true->S.cf K es g H1):R J H1:=by
 cases firm with
 |true=>exact h J (S.cf K es) H1 e1 (w.of (λ_ _ z=>Src.Gv z) (λg H H' k c e=>Src.iG true g g H H' k c (Gr.ex e)) λg g' H H' k c r e=>Src.iG true g g' H H' k c r) (hf rfl) λ_=>Src.iG
 |false=>exact h J (S.cw K es) H1 e1 w hw λz=>nomatch z
theorem Af{firm:Bool}(ha:Fq aj X W firm a fa):QI aj X W firm tg a (cM fa):=by
 refine⟨λpins s σ H R I h=>?_⟩;obtain⟨g,Z,M,SI,hs⟩:=h;have hs:=hs.bnd;have fin:∀(S:Src) (x:V) (H1:Hp) (ds:List Dat),(∀J C H',Ex H H'->qb X.K J C ds->C g H'->(firm=true->Gp C)->R J H')->Ex H H1->S.cw X.K ds g H1->(firm=true->S.cf X.K ds g H1)->R (Yv X.K S) H1:=λS x H1 ds h e1 hw hf=>wf h e1 Ey hw hf;cases hfa:fa M Z with
 |bad=>rw[hfa]at hs;exact ael hs
 |exc x=>
  rw[hfa]at hs;exact(pi_list ha).run pins s σ H R I (tF.go (k:=λ_=>False) SI (by rw[hfa];exact hs) λd v H' z=>ael z)
 |ok d=>
  rw[hfa]at hs;cases d with
  |list ds=>
   refine(pi_list ha).run pins s σ H R I (tF.go (k:=λz=>z=.list ds) SI (by rw[hfa];rfl) λd v H' z e1 r=>?_);subst z;obtain⟨S,hS,hw,hf⟩:=sE (firm:=firm) r (ds:=ds) rfl;have rw:bB X.K g H' v (.list ds):=by
    cases firm with
    |true=>exact Rep.weak r
    |false=>exact r
   obtain⟨l,us,rfl,h1,h2⟩:=cD rw;refine⟨l,rfl,⟨us,h1⟩,?_⟩;rcases hS with⟨a',e,ha',hl|ht⟩|⟨y,_,e⟩
   .cases e;subst hl;exact fin (.lst l) (.ref l) H' ds hs e1 hw hf
   .cases e;subst ht;refine wf (S:=.lst l) hs e1 (Ey (S:=.lst l)) ⟨us,h1,h2⟩ λz=>?_;subst z;have r:Rep X.K g H' (.ref l) (.list ds):=r;cases r with
    |lst h3 h4=>exact⟨_,h3,h4⟩
   .cases e
  |tuple ds=>
   refine(pi_tup ha).run pins s σ H R I (tF.go (k:=λz=>z=.tuple ds) SI (by rw[hfa];rfl) λd v H' z e1 r=>?_);subst z;have rw:bB X.K g H' v (.tuple ds):=by
    cases firm with
    |true=>exact Rep.weak r
    |false=>exact r
   obtain⟨l,us,rfl,h1,h2⟩:=dD rw;exact⟨l,rfl,⟨us,h1⟩,fin (.tup l) (.ref l) H' ds hs e1 ⟨us,h1,h2⟩ λ_=>⟨us,h1,h2⟩⟩
  |str x=>
   refine(pi_str ha).run pins s σ H R I (tF.go (k:=λz=>z=.str x) SI (by rw[hfa];rfl) λd v H' z e1 r=>?_);subst z;have rw:bB X.K g H' v (.str x):=by
    cases firm with
    |true=>exact Rep.weak r
    |false=>exact r
   cases cR rw;exact⟨x,rfl,fin (.str x) (.str x) H' _ hs e1 ⟨_,rfl,mX x⟩ λ_=>⟨_,rfl,mX x⟩⟩
  |_=>exact ael hs
def oJ(a:QF):IF:=λM Z=>(a M Z).bind λd=>(j7 d).bind λn=>Out.when (decide (n<=100000/\-100000<=n)) (.ok (iK 0 n.toNat))
def wU(a b:QF):IF:=λM Z=>(a M Z).bind λd=>(b M Z).bind λe=>(j7 d).bind λlo=>(j7 e).bind λn=>Out.when (decide (n<=100000/\-100000<=n/\lo<=100000/\-100000<=lo)) (.ok (iK lo (n-lo).toNat))
def sS(k₀:Int)(a:QF):IF:=λM Z=>(a M Z).bind λd=>(dZ d).bind λds=>.ok (rP k₀ ds)
def Bv(a b:QF):IF:=λM Z=>(a M Z).bind λd=>(b M Z).bind λe=>(dZ d).bind λds=>(dZ e).bind λes=>.ok (j9 ds es)
theorem JH{firm:Bool}(hg:Gl X "range")(hm:X.mg "range"=none)(ha:QW aj X W a fa)(hs:nst a=true):QI aj X W firm tg (.Call (.Name "range" p) [a] [] pos) (oJ fa):=by
 refine⟨λpins s σ H R I h=>?_⟩;refine(pi_range1 hg hm (pa_cons ha pa_nil (aU hs [])) (aU hs [])).run pins s σ H R I ?_;obtain⟨g,Z,M,SI,h⟩:=h;refine tW.go SI h.bnd λd v H1 h1 e1 r1=>?_;have h1:=h1.bnd;unfold j7 at h1;split at h1
 .obtain⟨hz,h1⟩:=h1.fB;have hz:=aen hz;cases aQ r1;exact⟨_,rfl,by omega,by omega,h1 _ _ H1 e1 yt aek λ_=>λ_ _ _ _ _ _ _ _=>trivial⟩
 .exact ael h1
theorem Ju{firm:Bool}(hg:Gl X "range")(hm:X.mg "range"=none)(ha:QW aj X W a fa)(hb:QW aj X W b fb)(hs:nst a=true)(hs2:nst b=true):QI aj X W firm tg (.Call (.Name "range" p) [a,b] [] pos) (wU fa fb):=by
 refine⟨λpins s σ H R I h=>?_⟩;refine(pi_range2 hg hm (pa_cons ha (pa_cons hb pa_nil (aU hs2 [])) (aU hs [b])) (by rw[aU hs,aU hs2];rfl) (aU hs2 [])).run pins s σ H R I ?_;obtain⟨g,Z,M,SI,h⟩:=h;refine tW.go SI h.bnd λd v H1 h1 e1 r1=>?_;refine tW.go (SI.ex e1) (h1.bnd.mono (λ_ z=>z) λ_ z=>z.ex e1) λd2 v2 H2 h2 e2 r2=>?_;have h2:=h2.bnd;unfold j7 at h2;split at h2
 .have h2:=Out.sat.bnd h2;split at h2
  .obtain⟨hz,h2⟩:=Out.sat.fB h2;have hz:=aen hz;cases aQ r1;cases aQ r2;exact⟨_,_,rfl,⟨by omega,by omega,by omega,by omega⟩,h2 _ _ H2 (e1.trans e2) yt aek λ_=>λ_ _ _ _ _ _ _ _=>trivial⟩
  .exact ael h2
 .exact ael h2
theorem N8{firm:Bool}{k₀:Int}(σ:L2.St)(H:Hp)(R:It->Hp->Prop)(h:tI X.K aj W firm (sS k₀ fa) σ H R):V2 X.K (tCons (tF X.K aj W firm fa) tNil) k₀ σ H R:=by
 obtain⟨g,Z,M,SI,h⟩:=h;refine tF.go SI h.bnd λd v H1 h1 e1 r1=>?_;cases hd:dZ d with
 |bad=>rw[hd]at h1;exact ael h1
 |exc x=>cases d<;>cases hd
 |ok ds=>
  rw[hd]at h1;obtain⟨S,hS,hw,hf⟩:=sE r1 hd;exact⟨v,S,_,rfl,hS,hw.choose_spec.1,wf h1 e1 NZ hw hf⟩
theorem Qv{firm:Bool}(hg:Gl X "enumerate")(hm:X.mg "enumerate"=none)(ha:Fq aj X W firm a fa)(hs:nst a=true):QI aj X W firm (.Tuple elts kk tpos) (.Call (.Name "enumerate" p) [a] [] pos) (sS 0 fa):=
 ⟨λpins s σ H R I h=>(X3 hg hm (pa_cons ha pa_nil (aU hs [])) hs).run pins s σ H R I (N8 σ H R h)⟩
theorem Nt{firm:Bool}{k₀:Int}{j:Nat}{kp kp2:Pos}(hk0 : -(2^63)<=k₀)(hk1:k₀<2^63)(hg:Gl X "enumerate")(hm:X.mg "enumerate"=none)(ha:Fq aj X W firm a fa)(hs:nst a=true):QI aj X W firm (.Tuple elts kk tpos) (.Call (.Name "enumerate" p) [a] [⟨some "start",.Constant (.int k₀) j kp,kp2⟩] pos) (sS k₀ fa):=
 ⟨λpins s σ H R I h=>(T9 hk0 hk1 hg hm (pa_cons ha pa_nil (aU hs [])) hs).run pins s σ H R I (N8 σ H R h)⟩
theorem TF{firm:Bool}(hg:Gl X "zip")(hm:X.mg "zip"=none)(ha:Fq aj X W firm a fa)(hb:Fq aj X W firm b fb)(hs:nst a=true)(hs2:nst b=true):QI aj X W firm (.Tuple elts kk tpos) (.Call (.Name "zip" p) [a,b] [] pos) (Bv fa fb):=by
 refine⟨λpins s σ H R I h=>(Yg hg hm (pa_cons ha (pa_cons hb pa_nil (aU hs2 [])) (aU hs [b])) hs hs2).run pins s σ H R I ?_⟩;obtain⟨g,Z,M,SI,h⟩:=h;refine tF.go SI h.bnd λd v H1 h1 e1 r1=>?_;refine tF.go (SI.ex e1) (h1.bnd.mono (λ_ z=>z) λ_ z=>z.ex e1) λd2 v2 H2 h2 e2 r2=>?_;cases hd:dZ d with
 |bad=>rw[hd]at h2;exact ael h2
 |exc x=>cases d<;>cases hd
 |ok ds=>
  cases he:dZ d2 with
  |bad=>rw[hd,he]at h2;exact ael h2
  |exc x=>cases d2<;>cases he
  |ok es=>
   rw[hd,he]at h2;obtain⟨S,hS,hw,hf⟩:=sE (Yc e2 (SI.ex e1).kd r1) hd;obtain⟨T,hT,hw2,hf2⟩:=sE r2 he;refine⟨v,v2,S,T,_,_,rfl,hS,hT,hw.choose_spec.1,hw2.choose_spec.1,?_⟩;cases firm with
   |true=>exact h2 _ (λg H=>S.cf X.K ds g H/\T.cf X.K es g H) H2 (e1.trans e2) (Eo.of (λ_ _ z=>⟨Src.Gv z.1,Src.Gv z.2⟩) (λg H H' k c e=>⟨Src.iG true g g H H' k c.1 (Gr.ex e),Src.iG true g g H H' k c.2 (Gr.ex e)⟩) λg g' H H' k c r e=>⟨Src.iG true g g' H H' k c.1 r,Src.iG true g g' H H' k c.2 r⟩) ⟨hf rfl,hf2 rfl⟩ λ_=>λq g g' H H' k c r=>⟨Src.iG q g g' H H' k c.1 r,Src.iG q g g' H H' k c.2 r⟩
   |false=>exact h2 _ _ H2 (e1.trans e2) Eo ⟨hw,hw2⟩ λz=>nomatch z
end
def WF:WX:=λ_ _ _ _=>False
def kW{α:Type}:Out α->Out α
 |.ok a=>.ok a
 |_=>.bad
@[simp]theorem S9 {α:Type} (a:α):kW (.ok a)=.ok a:=rfl
theorem lJ{α:Type}{o:Out α}{P:α->Prop}{E E':bJ->Prop}(h:(kW o).sat P E):o.sat P E':=by
 cases o
 .exact h
 .exact ael h
 .exact h
def bA(tg:bR)(tt:QT)(te:QF)(M:Mo)(Z:Env):List Dat->Out (List Dat)
 |[]=>.ok []
 |d::ds=>match tg d Z with
  |none=>.bad
  |some Z1=>(kW (tt M Z1)).bind λb=>if b=true then(kW (te M Z1)).bind λy=>(bA tg tt te M Z ds).bind λr=>.ok (y::r) else bA tg tt te M Z ds
def d7(it:IF)(tg:bR)(vs:List Nat)(tt:QT)(te:QF):QF:=λM Z=>(it M Z).bind λds=>Out.when (decide (ds.length<=50000)) ((bA tg tt te M (aR Z vs) ds).bind λr=>.ok (.list r))
def lg:QT:=λ_ _=>.ok true
def JC(K:ac8)(aj:aC)(W:WX)(f:IF):TE:=λσ H Q=>∃g Z M,SInv K aj σ H g Z M/\(f M Z).sat (λxs=>∀l us H',H l=none->Ex H H'->H' l=some (.lst us)->au K (g.add l) H' us xs->Q (.ref l) H') (fO K aj W g H σ)
def jd(it:IF)(tg:bR)(vs:List Nat)(tt:QT)(te:QF):IF:=λM Z=>(it M Z).bind λds=>Out.when (decide (ds.length<=50000)) (bA tg tt te M (aR Z vs) ds)
section
variable{K:ac8}{aj:aC}{W:WX}
theorem Am{g:Gh}{H:Hp}{D:Addr}{o o':HO}{vs:List V}{ds:List Dat}(k:Kd g H)(h:H D=some o)(l:g.Lo D)(r:au K g H vs ds):au K g (upd H D o') vs ds:=r.gr (Gr.upd (q:=true) k h (.inr l)) k
theorem Qh{g:Gh}{H:Hp}{D:Addr}{o o':HO}{v:V}{d:Dat}(k:Kd g H)(h:H D=some o)(l:g.Lo D)(r:Rep K g H v d):Rep K g (upd H D o') v d:=r.gr (Gr.upd (q:=true) k h (.inr l)) k
theorem fV{tg:bR}{tt:QT}{te:QF}{M:Mo}{Z:Env}:∀{ds:List Dat} {x:bJ},bA tg tt te M Z ds≠.exc x
 |[],_,h=>nomatch h
 |d::ds,x,h=>by
  rw[bA]at h;split at h
  .cases h
  .next Z1 e=>
   cases h1:tt M Z1 with
   |bad=>rw[h1]at h;cases h
   |exc y=>rw[h1]at h;cases h
   |ok b=>
    rw[h1]at h;cases b with
    |false=>exact fV h
    |true=>
     have h:((kW (te M Z1)).bind λy=>(bA tg tt te M Z ds).bind λr=>Out.ok (y::r))=.exc x:=h;cases h2:te M Z1 with
     |bad=>rw[h2]at h;cases h
     |exc y=>rw[h2]at h;cases h
     |ok y=>
      rw[h2]at h;cases h3:bA tg tt te M Z ds with
      |bad=>rw[h3]at h;cases h
      |exc z=>exact fV h3
      |ok r=>rw[h3]at h;cases h
theorem uG(σ:L2.St)(i:Nat):∀vs:List Nat,(L2.wipe σ vs)[i]?=if i∈vs then(σ[i]?).map (λ_=>none) else σ[i]?
 |[]=>by simp[L2.wipe]
 |v::vs=>by
  show((L2.wipe σ vs).set v none)[i]?=_
  by_cases h:v=i
  .subst h;by_cases hl:v<σ.length
   .rw[adk (by rw[wipe_length];exact hl),aer adg,adh hl];rfl
   .have h1:σ[v]?=none:=List.getElem?_eq_none_iff.mpr (by omega);rw[aer adg,h1,List.getElem?_eq_none_iff.mpr (by rw[adw,wipe_length];omega)];rfl
  .rw[ade h,uG σ i vs];have:i∈v::vs↔i∈vs:=⟨λz=>by
    rcases adt.mp z with z|z
    .exact absurd z.symm h
    .exact z,adf _⟩
   simp only[this]
theorem mO(σ:L2.St)(vs:List Nat):L2.wipe (L2.wipe σ vs) vs=L2.wipe σ vs:=by
 apply List.ext_getElem?;intro i;rw[uG (L2.wipe σ vs) i vs,uG σ i vs];split
 .cases σ[i]?<;>rfl
 .rfl
theorem Bt{it:IF}{tg:bR}{js vs:List Nat}{tt:QT}{te:QF}(hj:∀j∈js,j∈vs)(σ:L2.St)(H:Hp)(Q:VK)(h:JC K aj W (jd it tg vs tt te) σ H Q) :
  tLc (tI K aj W false it) (jY K aj js tg) (cW K aj WF tt) (tQ K aj WF te) vs σ H Q:=by
 obtain⟨g,Z,M,I,h⟩:=h;refine⟨g,Z,M,I,h.bnd.mono (λds hk J C H1 e1 w c _ D nD=>?_) λ_ z=>z⟩;obtain⟨hz,hk⟩:=hk.fB;have hlen:=aen hz;obtain⟨total,htot,hQ⟩:∃total,bA tg tt te M (aR Z vs) ds=.ok total/\∀l us H',H l=none->Ex H H'->H' l=some (.lst us)->au K (g.add l) H' us total->Q (.ref l) H':=by
  cases hc:bA tg tt te M (aR Z vs) ds with
  |bad=>rw[hc]at hk;exact ael hk
  |exc x=>exact absurd hc fV
  |ok total=>
   rw[hc]at hk;exact⟨total,rfl,hk⟩
 have I1:=(I.ex e1).wipe vs;have kD:∀{Ha:Hp} {us:List V},Ex H1 Ha->Ha D=some (.lst us)->SInv K aj (L2.wipe σ vs) Ha (g.add D) (aR Z vs) M:=λea hu=>I1.add nD ea hu aek
 let Pv:Nat->Hp->Prop:=λi Ha=>Ex H1 Ha/\i<=ds.length/\∃us ys,Ha D=some (.lst us)/\au K (g.add D) Ha us ys/\ys.length<=i/\(bA tg tt te M (aR Z vs) (ds.drop i)).sat (λr=>total=ys++r) λ_=>False
 refine⟨λi m Ha=>m=ds.length-i/\Pv i Ha,⟨ds.length,rfl,Ex.new nD,adJ _,[],[],aeu,.nil,adz _,?_⟩,?_⟩
 .rw[aej,htot];rfl
 .rintro i m Ha ⟨rfl,ea,hi,us,ys,hu,hU,hy,hs⟩;have Ia:=kD ea hu;have Ca:=w.add g (g.add D) H1 Ha (I.kd.ex e1) c (Gh.oO nD ea) ea;by_cases hlt:i<ds.length
  .refine .inr ⟨w.go _ i Ha Ca hlt,Pv (i+1),λH' p=>⟨ds.length-(i+1),by omega,rfl,p⟩,λx H' y=>?_⟩;have hd:ds[i]?=some ds[i]:=adh hlt;obtain⟨e2,rx⟩:=w.yld _ i Ha x H' _ Ia.kd Ca hd y;have I2:=Ia.ex e2;rw[adR hlt,bA]at hs;split at hs
   .exact ael hs
   .next Z1 he=>
    refine⟨g.add D,_,M,_,Z1,I2,rx,he,λws I3=>⟨jU js ws _ vs hj |>.trans (mO σ vs),?_⟩⟩;refine cW.go I3 (lJ hs.bnd) λb H3 hb e3=>?_;have I4:=I3.ex e3;have hu3:=e3 _ _ (e2 _ _ hu);have hU3:=(hU.ex e2 Ia.kd).ex e3 I2.kd;cases b with
    |false=>
     have hb:(bA tg tt te M (aR Z vs) (ds.drop (i+1))).sat (λr=>total=ys++r) λ_=>False:=hb;exact⟨(ea.trans e2).trans e3,hlt,us,ys,hu3,hU3,Nat.le_succ_of_le hy,hb⟩
    |true=>
     have hb:((kW (te M Z1)).bind λy=>(bA tg tt te M (aR Z vs) (ds.drop (i+1))).bind λr=>Out.ok (y::r)).sat (λr=>total=ys++r) λ_=>False:=hb;refine tQ.go I4 (lJ hb.bnd) λy v H4 hyv e4 ry=>?_;have I5:=I4.ex e4;have hu4:=e4 _ _ hu3;have hU4:=hU3.ex e4 I4.kd;have lD:(g.add D).Lo D:=.inr rfl;refine⟨us,hu4,sz_lt (by rw[hU.length];omega),Ex.mut (((ea.trans e2).trans e3).trans e4) nD,hlt,us++[v],ys++[y],aeu,?_,by simp;omega,hyv.bnd.mono (λr hr=>?_) λ_ z=>z⟩
     .exact Am I5.kd hu4 lD (hU4.append (.cons ry .nil))
     .have hr:total=ys++y::r:=hr;rw[hr];simp
  .have e:i=ds.length:=by omega
   refine .inl ⟨w.stop _ i Ha Ca e,?_⟩;rw[e,adW]at hs;have hs:total=ys++[]:=hs;rw[adN]at hs;subst hs;exact hQ D us Ha (mD e1 D nD) (e1.trans ea) hu hU
theorem O9{it:IF}{tg:bR}{js vs:List Nat}{tt:QT}{te:QF}(hj:∀j∈js,j∈vs)(σ:L2.St)(H:Hp)(Q:VK)(h:tQ K aj W (d7 it tg vs tt te) σ H Q) :
  tLc (tI K aj W false it) (jY K aj js tg) (cW K aj WF tt) (tQ K aj WF te) vs σ H Q:=by
 obtain⟨g,Z,M,I,h⟩:=h;refine Bt hj σ H Q ⟨g,Z,M,I,?_⟩;unfold jd;unfold d7 at h;cases hi:it M Z with
 |bad=>rw[hi]at h;exact ael h
 |exc x=>rw[hi]at h;exact h
 |ok ds=>
  rw[hi]at h;obtain⟨hz,h⟩:=Out.sat.fB h;have h:=h.bnd
  show(Out.when (decide (ds.length<=50000)) (bA tg tt te M (aR Z vs) ds)).sat _ _
  rw[hz,Out.Jb];exact h.mono (λxs z l us H' n e hl r=>z _ H' e (.lst (.inl ⟨hl,I.kd.fresh n⟩) (au.less (g:=g.add l) (g':=g) rfl (λa z=>z.elim .inl λz=>.inr (z.elim .inl λz=>.inr (.inl z))) r))) λ_ z=>z
end
section
variable{X:Cx}{aj:aC}{W:WX}{elt tg iter:Expr}{pos p tpos:Pos}
theorem Ww{X:Cx}:Takes X WF:=λu s' ⟨a,B,sI,pins,σ,H,cls,d,e,I,nb,up,sky,na,os,ag,w⟩=>ael w
theorem XS{scope:Scope}{own:List (Str×Nat)}{it:IF}{tgf:bR}{js:List Nat}{tt:QT}{te:QF}{ifs:List Expr}(hc:X.calm=true)(hN:X.N.Nodup)(hi:QI aj X W false tg iter it)(ok:blkC X.N X.env.scope scope own=true)(hj:∀j∈js,j∈own.map (·.2))
  (hg:∀(s:Shared) (H:Hp) (C:Addr) (cl:List (Str×Addr)) (fp:List Addr),QG aj (X.blk s H scope (compEnvC scope cl C X.env) fp) tg js tgf)
  (ht:∀(s:Shared) (H:Hp) (C:Addr) (cl:List (Str×Addr)) (fp:List Addr),PTs (X.blk s H scope (compEnvC scope cl C X.env) fp) ifs (cW X.K aj WF tt))
  (he:∀(s:Shared) (H:Hp) (C:Addr) (cl:List (Str×Addr)) (fp:List Addr),QE aj (X.blk s H scope (compEnvC scope cl C X.env) fp) WF elt te) (hs:∀x,foldedSetIterable iter X.env x=pure x) :
  QE aj X W (.ListComp elt [⟨tg,iter,ifs,0⟩] scope pos) (d7 it tgf (own.map (·.2)) tt te):=
 PE.weak (pe_lc (g:=jY X.K aj js tgf) (tt:=cW X.K aj WF tt) (te:=tQ X.K aj WF te) hc hN hi (blkOk_by ok) (λs H C cl fp=>hg s H C cl fp) ht (λs H C cl fp=>he s H C cl fp) hs) λσ H Q h=>O9 hj σ H Q h
theorem X6{scope:Scope}{own:List (Str×Nat)}{it:IF}{tgf:bR}{js:List Nat}{tt:QT}{te:QF}{ifs:List Expr}(hc:X.calm=true)(hN:X.N.Nodup)(hi:QI aj X W false tg iter it)(ok:blkC X.N X.env.scope scope own=true)(hj:∀j∈js,j∈own.map (·.2))
  (hg:∀(s:Shared) (H:Hp) (C:Addr) (cl:List (Str×Addr)) (fp:List Addr),QG aj (X.blk s H scope (compEnvC scope cl C X.env) fp) tg js tgf)
  (ht:∀(s:Shared) (H:Hp) (C:Addr) (cl:List (Str×Addr)) (fp:List Addr),PTs (X.blk s H scope (compEnvC scope cl C X.env) fp) ifs (cW X.K aj WF tt))
  (he:∀(s:Shared) (H:Hp) (C:Addr) (cl:List (Str×Addr)) (fp:List Addr),QE aj (X.blk s H scope (compEnvC scope cl C X.env) fp) WF elt te) (hs:∀x,foldedSetIterable iter X.env x=pure x) :
  PE X (.ListComp elt [⟨tg,iter,ifs,0⟩] scope pos) (JC X.K aj W (jd it tgf (own.map (·.2)) tt te)):=
 PE.weak (pe_lc (g:=jY X.K aj js tgf) (tt:=cW X.K aj WF tt) (te:=tQ X.K aj WF te) hc hN hi (blkOk_by ok) (λs H C cl fp=>hg s H C cl fp) ht (λs H C cl fp=>he s H C cl fp) hs) λσ H Q h=>Bt hj σ H Q h
end
def aN.sat{α:Type}(o:aN α)(P:α->Mo->Prop)(E:bJ->Mo->Prop):Prop:=
 match o with
 |.ok a M=>P a M
 |.exc x M=>E x M
 |.bad=>False
def aN.bind{α β:Type}(o:aN α)(k:α->Mo->aN β):aN β:=
 match o with
 |.ok a M=>k a M
 |.exc x M=>.exc x M
 |.bad=>.bad
@[simp]theorem aN.yc {α β:Type} (a:α) (M:Mo) (k:α->Mo->aN β):(aN.ok a M).bind k=k a M:=rfl
@[simp]theorem aN.Nh {α β:Type} (x:bJ) (M:Mo) (k:α->Mo->aN β):(aN.exc x M:aN α).bind k=.exc x M:=rfl
@[simp]theorem aN.MN {α β:Type} (k:α->Mo->aN β):(aN.bad:aN α).bind k=.bad:=rfl
theorem aN.sat.bnd{α β:Type}{o:aN α}{k:α->Mo->aN β}{P:β->Mo->Prop}{E:bJ->Mo->Prop}(h:(o.bind k).sat P E):o.sat (λa M=>(k a M).sat P E) E:=by cases o<;>exact h
theorem aN.sat.mono{α:Type}{o:aN α}{P P':α->Mo->Prop}{E E':bJ->Mo->Prop}(h:o.sat P E)(hp:∀a M,P a M->P' a M)(he:∀x M,E x M->E' x M):o.sat P' E':=by
 cases o
 .exact hp _ _ h
 .exact he _ _ h
 .exact h
def Out.at{α:Type}(o:Out α)(M:Mo):aN α:=
 match o with
 |.ok a=>.ok a M
 |.exc x=>.exc x M
 |.bad=>.bad
@[simp]theorem Out.acZ {α:Type} (a:α) (M:Mo):(Out.ok a).at M=.ok a M:=rfl
@[simp]theorem Out.abV {α:Type} (x:bJ) (M:Mo):(Out.exc x:Out α).at M=.exc x M:=rfl
@[simp]theorem Out.abf {α:Type} (M:Mo):(Out.bad:Out α).at M=.bad:=rfl
theorem Out.bM{α:Type}{o:Out α}{M:Mo}{P:α->Mo->Prop}{E:bJ->Mo->Prop}(h:(o.at M).sat P E):o.sat (λa=>P a M) λx=>E x M:=by cases o<;>exact h
abbrev GF:=Mo->Env->aN Dat
abbrev GT:=Mo->Env->aN Bool
def fX.sat(o:fX)(nx:Env->Mo->Prop)(rt:Dat->Mo->Prop)(bk ct:Env->Mo->Prop)(ex:bJ->Env->Mo->Prop):Prop:=
 match o with
 |.next Z M=>nx Z M
 |.ret d M=>rt d M
 |.brk Z M=>bk Z M
 |.cont Z M=>ct Z M
 |.exc x Z M=>ex x Z M
 |.bad=>False
theorem fX.sat.mono{o:fX}{nx nx':Env->Mo->Prop}{rt rt':Dat->Mo->Prop}{bk bk' ct ct':Env->Mo->Prop}{ex ex':bJ->Env->Mo->Prop}(h:o.sat nx rt bk ct ex)(h1:∀Z M,nx Z M->nx' Z M)(h2:∀d M,rt d M->rt' d M)(h3:∀Z M,bk Z M->bk' Z M)(h4:∀Z M,ct Z M->ct' Z M)(h5:∀x Z M,ex x Z M->ex' x Z M):o.sat nx' rt' bk' ct' ex':=by
 cases o
 .exact h1 _ _ h
 .exact h2 _ _ h
 .exact h3 _ _ h
 .exact h4 _ _ h
 .exact h5 _ _ _ h
 .exact h
abbrev SF:=Mo->Env->fX
def Gh.fr(g:Gh):Gh:={ g with Lo:=λ_=>False }
section
variable(K:ac8)(aj:aC)(W:WX)(q:Bool)
def gE(g:Gh)(H:Hp)(σ:L2.St)(Z:Env)(x:bJ)(M':Mo):Prop:=∀H' g' c dd,Gr q g g' H H'->SInv K aj σ H' g' Z M'->dG K aj g' H' x c dd->W c dd σ H'
def tE(f:GF):TE:=λσ H Q=>∃g Z M,SInv K aj σ H g Z M/\(f M Z).sat (λd M'=>∀v H' g',Gr q g g' H H'->SInv K aj σ H' g' Z M'->Rep K g' H' v d->Q v H') (gE K aj W q g H σ Z)
def wz(f:GT):TT:=λσ H Q=>∃g Z M,SInv K aj σ H g Z M/\(f M Z).sat (λb M'=>∀H' g',Gr q g g' H H'->SInv K aj σ H' g' Z M'->Q b H') (gE K aj W q g H σ Z)
def sN(k:L2.St->Hp->Prop)(g:Gh)(H:Hp)(Z':Env)(M':Mo):Prop:=∀σ' H' g',Gr q g g' H H'->SInv K aj σ' H' g' Z' M'->k σ' H'
def sR(k:VK)(g:Gh)(H:Hp)(d:Dat)(M':Mo):Prop:=∀v H' g',Gr q g g' H H'->Kd g'.fr H'->bK K aj g'.fr H' M'->Rep K g'.fr H' v d->k v H'
def sX(g:Gh)(H:Hp)(x:bJ)(Z':Env)(M':Mo):Prop:=∀σ' H' g' c dd,Gr q g g' H H'->SInv K aj σ' H' g' Z' M'->dG K aj g'.fr H' x c dd->W c dd σ' H'
def tS(f:SF):TS:=λD σ H=>∃g Z M,SInv K aj σ H g Z M/\(f M Z).sat (sN K aj q D.nx g H) (sR K aj q D.rt g H) (sN K aj q D.bk g H) (sN K aj q D.ct g H) (sX K aj W q g H)
end
section
variable{K:ac8}{aj:aC}{W:WX}{q:Bool}{g g1:Gh}{H H1:Hp}{σ:L2.St}{Z:Env}{M:Mo}
theorem gE.gr{x:bJ}{M':Mo}(r:Gr q g g1 H H1)(h:gE K aj W q g H σ Z x M'):gE K aj W q g1 H1 σ Z x M':=λH' g' c dd r' I z=>h H' g' c dd (r.trans r') I z
theorem sN.gr{k:L2.St->Hp->Prop}{Z':Env}{M':Mo}(r:Gr q g g1 H H1)(h:sN K aj q k g H Z' M'):sN K aj q k g1 H1 Z' M':=λσ' H' g' r' I=>h σ' H' g' (r.trans r') I
theorem sR.gr{k:VK}{d:Dat}{M':Mo}(r:Gr q g g1 H H1)(h:sR K aj q k g H d M'):sR K aj q k g1 H1 d M':=λv H' g' r' I z y=>h v H' g' (r.trans r') I z y
theorem sX.gr{x:bJ}{Z':Env}{M':Mo}(r:Gr q g g1 H H1)(h:sX K aj W q g H x Z' M'):sX K aj W q g1 H1 x Z' M':=λσ' H' g' c dd r' I z=>h σ' H' g' c dd (r.trans r') I z
theorem tE.go{f:GF}{k:Dat->Mo->Prop}{Q:VK}(I:SInv K aj σ H g Z M)(h:(f M Z).sat k (gE K aj W q g H σ Z))(hk:∀d M' v H' g',k d M'->Gr q g g' H H'->SInv K aj σ H' g' Z M'->Rep K g' H' v d->Q v H'):tE K aj W q f σ H Q:=
 ⟨g,Z,M,I,h.mono (λd M' hd v H' g' e I' r=>hk d M' v H' g' hd e I' r) λ_ _ z=>z⟩
theorem wz.go{f:GT}{k:Bool->Mo->Prop}{Q:Bool->Hp->Prop}(I:SInv K aj σ H g Z M)(h:(f M Z).sat k (gE K aj W q g H σ Z))(hk:∀b M' H' g',k b M'->Gr q g g' H H'->SInv K aj σ H' g' Z M'->Q b H'):wz K aj W q f σ H Q:=
 ⟨g,Z,M,I,h.mono (λd M' hd H' g' e I'=>hk d M' H' g' hd e I') λ_ _ z=>z⟩
theorem tS.go{f:SF}{D:Ends}(I:SInv K aj σ H1 g1 Z M)(r:Gr q g g1 H H1)(h:(f M Z).sat (sN K aj q D.nx g H) (sR K aj q D.rt g H) (sN K aj q D.bk g H) (sN K aj q D.ct g H) (sX K aj W q g H)):tS K aj W q f D σ H1:=
 ⟨g1,Z,M,I,h.mono (λ_ _ z=>z.gr r) (λ_ _ z=>z.gr r) (λ_ _ z=>z.gr r) (λ_ _ z=>z.gr r) (λ_ _ _ z=>z.gr r)⟩
theorem cI.less{g':Gh}{fs:List (Str×V)}{gs:List (Str×Dat)}(e:g'.tk=g.tk)(n:∀a,g'.A a->g.A a)(h:cI K g H fs gs):cI K g' H fs gs:=by
 induction h with
 |nil=>exact .nil
 |cons r _ ih=>exact .cons (r.less e n) ih
theorem dG.less{g':Gh}{x:bJ}{c:Value}{dd:Option Addr}(e:g'.tk=g.tk)(n:∀a,g'.A a->g.A a)(h:dG K aj g H x c dd):dG K aj g' H x c dd:=by obtain⟨C,h1,h2,h3⟩:=h;refine⟨C,h1,h2,h3.imp id λ⟨a,fs,e1,e2,e3⟩=>⟨a,fs,e1,e2,e3.less e n⟩⟩
theorem iW(g:Gh):∀a,g.fr.A a->g.A a:=λa z=>z.elim .inl λz=>.inr (z.elim .inl λz=>ael z)
theorem Rep.fr{v:V}{d:Dat}(h:Rep K g H v d):Rep K g.fr H v d:=Rep.less (g:=g) (g':=g.fr) rfl (iW g) h
theorem au.fr{v:List V}{d:List Dat}(h:au K g H v d):au K g.fr H v d:=au.less (g:=g) (g':=g.fr) rfl (iW g) h
theorem dG.fr{x:bJ}{c:Value}{dd:Option Addr}(h:dG K aj g H x c dd):dG K aj g.fr H x c dd:=dG.less (g:=g) (g':=g.fr) rfl (iW g) h
end
def GE(aj:aC)(X:Cx)(W:WX)(q:Bool)(e:Expr)(f:GF):Prop:=PE X e (tE X.K aj W q f)
def mj(aj:aC)(X:Cx)(W:WX)(q:Bool)(e:Expr)(f:GT):Prop:=PT X e (wz X.K aj W q f)
def SE(aj:aC)(X:Cx)(W:WX)(q:Bool)(s:Stmt)(f:SF):Prop:=PS X s (tS X.K aj W q f)
def mV(aj:aC)(X:Cx)(W:WX)(q:Bool)(s:List Stmt)(f:SF):Prop:=PSs X s (tS X.K aj W q f)
theorem PS.weak{X:Cx}{e:Stmt}{t t':TS}(h:PS X e t)(k:∀D σ H,t' D σ H->t D σ H):PS X e t':=⟨λpins s σ H D I z=>h.run pins s σ H D I (k D σ H z)⟩
theorem PSs.weak{X:Cx}{e:List Stmt}{t t':TS}(h:PSs X e t)(k:∀D σ H,t' D σ H->t D σ H):PSs X e t':=⟨λpins s σ H D I z=>h.run pins s σ H D I (k D σ H z)⟩
def gOf(f:QF):GF:=λM Z=>(f M Z).at M
def Ln(f:QT):GT:=λM Z=>(f M Z).at M
section
variable{X:Cx}{aj:aC}{W:WX}{q:Bool}{a b e:Expr}{pos:Pos}
theorem Oo{f:QF}(h:QE aj X W e f):GE aj X W q e (gOf f):=PE.weak h λσ H Q ⟨g,Z,M,I,z⟩=>
 ⟨g,Z,M,I,(Out.bM z).mono (λd k v H' e r=>k v H' g (Gr.ex e) (I.ex e) r) λx k H' c dd e r=>k H' g c dd (Gr.ex e) (I.ex e) r⟩
theorem WT{f:QT}(h:gG aj X W e f):mj aj X W q e (Ln f):=PT.weak h λσ H Q ⟨g,Z,M,I,z⟩=>
 ⟨g,Z,M,I,(Out.bM z).mono (λd k H' e=>k H' g (Gr.ex e) (I.ex e)) λx k H' c dd e r=>k H' g c dd (Gr.ex e) (I.ex e) r⟩
def bf:SF:=λM Z=>.next Z M
def aK(f k:SF):SF:=λM Z=>match f M Z with
 |.next Z' M'=>k M' Z'
 |o=>o
theorem Uj:mV aj X W q [] bf:=PSs.weak pss_nil λD σ H ⟨g,Z,M,I,z⟩=>z σ H g .refl I
theorem Tg{s:Stmt}{f:SF}(h:SE aj X W q s f):mV aj X W q [s] f:=pss_one h
theorem Qi{s:Stmt}{ss:List Stmt}{f k:SF}(h:SE aj X W q s f)(hs:mV aj X W q ss k):mV aj X W q (s::ss) (aK f k):=by
 refine PSs.weak (pss_cons h hs) λD σ H ⟨g,Z,M,I,z⟩=>?_;refine⟨g,Z,M,I,?_⟩;unfold aK at z;cases hf:f M Z with
 |next Z' M'=>
  rw[hf]at z;exact λσ' H' g' r I'=>tS.go I' r z
 |ret d M'=>rw[hf]at z;exact z
 |brk Z' M'=>rw[hf]at z;exact z
 |cont Z' M'=>rw[hf]at z;exact z
 |exc x Z' M'=>rw[hf]at z;exact z
 |bad=>rw[hf]at z;exact z
def aN.then{α:Type}(o:aN α)(Z:Env)(k:α->Mo->fX):fX:=
 match o with
 |.ok a M=>k a M
 |.exc x M=>.exc x Z M
 |.bad=>.bad
@[simp]theorem aN.aar {α:Type} (a:α) (M:Mo) (Z:Env) (k:α->Mo->fX):(aN.ok a M).then Z k=k a M:=rfl
@[simp]theorem aN.YZ {α:Type} (x:bJ) (M:Mo) (Z:Env) (k:α->Mo->fX):(aN.exc x M:aN α).then Z k=.exc x Z M:=rfl
@[simp]theorem aN.Zo {α:Type} (Z:Env) (k:α->Mo->fX):(aN.bad:aN α).then Z k=.bad:=rfl
theorem aZ{α:Type}{K:ac8}{g:Gh}{H:Hp}{σ:L2.St}{Z:Env}{o:aN α}{k:α->Mo->fX}{nx bk ct:Env->Mo->Prop}{rt:Dat->Mo->Prop}(h:(o.then Z k).sat nx rt bk ct (sX K aj W q g H)):o.sat (λa M=>(k a M).sat nx rt bk ct (sX K aj W q g H)) (gE K aj W q g H σ Z):=by
 cases o with
 |ok a M=>exact h
 |exc x M=>exact λH' g' c dd r I z=>h σ H' g' c dd r I z.fr
 |bad=>exact h
def aV(tg:bR)(f:GF):SF:=λM Z=>(f M Z).then Z λd M'=>match tg d Z with
 |some Z'=>.next Z' M'
 |none=>.bad
theorem vY{tg:Expr}{js:List Nat}{tf:bR}{f:GF}(he:GE aj X W q e f)(hg:QG aj X tg js tf)(hs:swapsWithSole [tg] e pos.line X.env=pure false)(hw:swappedStores [tg] e X.env=pure none)(h1:(assignEach [tg] X.env).map (·.2)=[assign tg X.env]):SE aj X W q (.Assign [tg] e pos) (aV tf f):=by
 refine PS.weak (ps_asg he hg hs hw h1) λD σ H ⟨g,Z,M,I,z⟩=>?_;refine tE.go I (aZ (σ:=σ) z) λd M' v H' g' k r I' rv=>?_;split at k
 .next Z' e'=>exact⟨g',Z,M',d,Z',I',rv,e',λvs I2=>k _ H' g' r I2⟩
 .exact ael k
def rQ(f:GF):SF:=λM Z=>(f M Z).then Z λ_ M'=>.next Z M'
theorem sH{f:GF}(he:GE aj X W q e f)(hs:swapsWith e none pos.line X.env=pure false):SE aj X W q (.Expr e pos) (rQ f):=by refine PS.weak (ps_expr he hs) λD σ H ⟨g,Z,M,I,z⟩=>?_;exact tE.go I (aZ (σ:=σ) z) λd M' v H' g' k r I' rv=>k σ H' g' r I'
end
def vh:Cell->Cell
 |.mut xs=>.dat (.list xs)
 |c=>c
def gj(Z:Env):Env:=Z.map λo=>o.map vh
section
variable{K:ac8}{aj:aC}{W:WX}{q:Bool}{g:Gh}{H:Hp}{σ:L2.St}{Z:Env}{M:Mo}
theorem bT.less{g':Gh}{l:Addr}(e:g'.tk=g.tk)(n:∀a,g'.A a->g.A a):∀{b:Bool} {kvs:List (Dat×Dat)},bT K aj g H l b kvs->bT K aj g' H l b kvs
 |false,_,⟨kv,h1,h2,h3⟩=>⟨kv,h1,h2,h3.less e n⟩
 |true,_,⟨o,xs,vs,h1,h2,h3,h4,h5,h6⟩=>⟨o,xs,vs,h1,h2,h3,h4.less e n,h5,h6.less e n⟩
theorem bh.less{g':Gh}{h:Nat}{f:Str}{v:V}(e:g'.tk=g.tk)(e2:g'.ow=g.ow)(n:∀a,g'.A a->g.A a):∀{fl:bV},bh K aj g H h f v fl->bh K aj g' H h f v fl
 |.dat _,z=>Rep.less e n z
 |.lst _ _,⟨l,us,h1,h2,h3,h4,h5⟩=>⟨l,us,h1,h2,by rw[e2];exact h3,h4.less e n,by rw[Gh.qm e];exact h5⟩
 |.dic _ _,⟨l,h1,h2,h3⟩=>⟨l,h1,by rw[e2];exact h2,h3.less e n⟩
theorem aP.less{g':Gh}{h:Nat}(e:g'.tk=g.tk)(e2:g'.ow=g.ow)(n:∀a,g'.A a->g.A a):∀{fs:List (Str×V)} {gs:List (Str×bV)},aP K aj g H h fs gs->aP K aj g' H h fs gs
 |_,_,.nil=>.nil
 |_,_,.cons z t=>.cons (bh.less e e2 n z) (aP.less e e2 n t)
theorem bK.less{g':Gh}(e:g'.tk=g.tk)(e2:g'.ow=g.ow)(n:∀a,g'.A a->g.A a)(w:bK K aj g H M):bK K aj g' H M where
 len:=by rw[Gh.qm e];exact w.len
 inj:=by rw[Gh.qm e];exact w.inj
 ins:=λh a i ha hi hc=>by
  rw[Gh.qm e]at ha;obtain⟨C,dx,fs,c1,c2,c3⟩:=w.ins h a i ha hi hc;exact⟨C,dx,fs,c1,c2,c3.less e e2 n⟩
 nd:=w.nd
 fd:=w.fd
 tw:=by rw[Gh.qm e,e2];exact w.tw
 dm:=w.dm
 nc:=w.nc
theorem uX{i:Nat}{c:Cell}(h:(gj Z)[i]?=some (some c)):∃c',Z[i]?=some (some c')/\c=vh c':=by
 unfold gj at h;rw[adq]at h;cases hr:Z[i]? with
 |none=>rw[hr]at h;cases h
 |some o=>
  rw[hr]at h;cases o with
  |none=>cases h
  |some c'=>
   cases h;exact⟨c',rfl,rfl⟩
theorem SInv.gj(I:SInv K aj σ H g Z M):SInv K aj σ H g.fr (gj Z) M where
 kd:=⟨λa z=>I.kd.ob a (iW g a z),λa z=>ael z,λa z=>⟨(I.kd.lc a z).1,λy=>y⟩⟩
 wok:=bK.less (g:=g) (g':=g.fr) rfl rfl (iW g) I.wok
 len:=by unfold Rf.gj;rw[adi];exact I.len
 dat:=λi d h=>by
  obtain⟨c,h1,h2⟩:=uX h;cases c with
  |dat d'=>
   cases h2;obtain⟨v,e1,e2⟩:=I.dat i _ h1;exact⟨v,e1,e2.fr⟩
  | «mut» xs=>
   cases h2;obtain⟨l,us,e1,e2,e3,e4⟩:=I.own i _ h1;refine⟨_,e1,.lst (.inl ⟨e2,λz=>?_⟩) e4.fr⟩;rcases z with z|z|z
   .exact I.kd.lo l e3 z
   .exact(I.kd.lc l z).2 e3
   .exact z
 own:=λi xs h=>by
  obtain⟨c,h1,h2⟩:=uX h;cases c<;>cases h2
 sep:=λi j xs ys l ne h1=>by
  obtain⟨c,h1,h2⟩:=uX h1;cases c<;>cases h2
end
section
variable{K:ac8}{aj:aC}{W:WX}{q:Bool}{g g':Gh}{H H':Hp}{σ:L2.St}{Z:Env}{M:Mo}
theorem Kd.fr(k:Kd g H):Kd g.fr H:=⟨λa z=>k.ob a (iW g a z),λa z=>ael z,λa z=>⟨(k.lc a z).1,λy=>y⟩⟩
theorem bK.fr(w:bK K aj g H M):bK K aj g.fr H M:=bK.less (g:=g) (g':=g.fr) rfl rfl (iW g) w
theorem cG{α:Type}{l:List (Option α)}{j i:Nat}{c:α}{o:Option α}(h:(l.set j o)[i]?=some (some c)):(j=i/\o=some c/\j<l.length)\/(j≠i/\l[i]?=some (some c)):=by
 by_cases z:j=i
 .subst z;have hj:j<l.length:=by
   have:=(adb.mp h).1;rw[adw]at this;exact this
  rw[adk hj]at h;exact .inl ⟨rfl,adA h,hj⟩
 .rw[ade z]at h;exact .inr ⟨z,h⟩
theorem SInv.Wr{j:Nat}{l:Addr}{us:List V}{xs:List Dat}(I:SInv K aj σ H g Z M)(n:H l=none)(e:Ex H H')(hl:H' l=some (.lst us))(r:au K (g.add l) H' us xs):SInv K aj (σ.set j (some (.ref l))) H' (g.add l) (Z.set j (some (.mut xs))) M:=by
 have I1:=I.add n e hl aek;have nl:∀(i:Nat) (ys:List Dat),Z[i]?=some (some (.mut ys))->σ[i]?≠some (some (.ref l)):=λi ys h z=>by
  obtain⟨l',us',h1,h2,_⟩:=I.own i ys h;rw[z]at h1;cases h1;rw[n]at h2;cases h2
 refine⟨I1.kd,I1.wok,by rw[adw,adw];exact I.len,λi d h=>?_,λi ys h=>?_,λi k ys zs a ne h1 h2 h3 h4=>?_⟩
 .rcases cG h with⟨_,h,_⟩|⟨ne,h⟩
  .cases h
  .rw[ade ne];exact I1.dat i d h
 .rcases cG h with⟨rfl,h,hj⟩|⟨ne,h⟩
  .cases h;exact⟨l,us,by rw[adk (by rw[I.len];exact hj)],hl,.inr rfl,r⟩
  .rw[ade ne];exact I1.own i ys h
 .rcases cG h1 with⟨rfl,h1,hj⟩|⟨n1,h1⟩
  .rcases cG h2 with⟨rfl,h2,_⟩|⟨n2,h2⟩
   .exact ne rfl
   .rw[adk (by rw[I.len];exact hj)]at h3;cases h3;rw[ade n2]at h4;exact nl k zs h2 h4
  .rcases cG h2 with⟨rfl,h2,hj⟩|⟨n2,h2⟩
   .rw[adk (by rw[I.len];exact hj)]at h4;cases h4;rw[ade n1]at h3;exact nl i ys h1 h3
   .rw[ade n1]at h3;rw[ade n2]at h4;exact I.sep i k ys zs a ne h1 h2 h3 h4
theorem bh.loc{l:Addr}{o o':HO}{h:Nat}{f:Str}{v:V}(k:Kd g H)(hl:H l=some o)(lo:g.Lo l):∀{fl:bV},bh K aj g H h f v fl->bh K aj g (upd H l o') h f v fl:=λ{fl} z=>by
 have r:Gr true g g H (upd H l o'):=Gr.upd k hl (.inr lo);cases fl with
 |dat d=>exact Rep.gr r k z
 |lst n xs=>
  obtain⟨a,ws,h1,h2,h3,h4,h5⟩:=z;exact⟨a,ws,h1,by rw[upd_ne (λz=>by subst z;exact k.lo _ lo (.inr (by rw[h3];exact λz=>nomatch z)))];exact h2,h3,h4.gr r k,h5⟩
 |dic n kvs=>
  obtain⟨a,h1,h2,h3⟩:=z;have na:a≠l:=λz=>by subst z;exact k.lo _ lo (.inr (by rw[h2];exact λz=>nomatch z))
  refine⟨a,h1,h2,?_⟩;cases n with
  |false=>
   obtain⟨kv,h3,h4,h5⟩:=h3;exact⟨kv,by rw[upd_ne na];exact h3,h4,h5.gr r k⟩
  |true=>
   obtain⟨o,xs,vs,h3,h4,h5,h6,h7,h8⟩:=h3;exact⟨o,xs,vs,by rw[upd_ne na];exact h3,h4,h5,h6.gr r k,h7,h8.gr r k⟩
theorem aP.loc{l:Addr}{o o':HO}{h:Nat}(k:Kd g H)(hl:H l=some o)(lo:g.Lo l):∀{fs:List (Str×V)} {gs:List (Str×bV)},aP K aj g H h fs gs->aP K aj g (upd H l o') h fs gs
 |_,_,.nil=>.nil
 |_,_,.cons z t=>.cons (bh.loc k hl lo z) (aP.loc k hl lo t)
theorem bK.loc{l:Addr}{o o':HO}(k:Kd g H)(hl:H l=some o)(lo:g.Lo l)(w:bK K aj g H M):bK K aj g (upd H l o') M where
 len:=w.len
 inj:=w.inj
 ins:=λh a i ha hi hc=>by
  obtain⟨C,dx,fs,c1,c2,c3⟩:=w.ins h a i ha hi hc;exact⟨C,dx,fs,c1,by rw[upd_ne (λz=>by subst z;exact k.lo _ lo (.inl (adB ha)))];exact c2,c3.loc k hl lo⟩
 nd:=w.nd
 fd:=w.fd
 tw:=w.tw
 dm:=w.dm
 nc:=w.nc
theorem SInv.change{j:Nat}{xs ys:List Dat}(I:SInv K aj σ H g Z M)(hj:Z[j]?=some (some (.mut xs))):∃l us,σ[j]?=some (some (.ref l))/\H l=some (.lst us)/\g.Lo l/\au K g H us xs/\∀us',au K g H us' ys->SInv K aj σ (upd H l (.lst us')) g (Z.set j (some (.mut ys))) M:=by
 obtain⟨l,us,h1,h2,h3,h4⟩:=I.own j xs hj;refine⟨l,us,h1,h2,h3,h4,λus' r=>?_⟩;have gr:Gr true g g H (upd H l (.lst us')):=Gr.upd I.kd h2 (.inr h3);refine⟨I.kd.upd aek,I.wok.loc I.kd h2 h3,by rw[adw];exact I.len,λi d h=>?_,λi zs h=>?_,λi k zs ws a ne e1 e2 e3 e4=>?_⟩
 .rcases cG h with⟨_,h,_⟩|⟨ne,h⟩
  .cases h
  .obtain⟨v,e1,e2⟩:=I.dat i d h;exact⟨v,e1,e2.gr gr I.kd⟩
 .rcases cG h with⟨rfl,h,_⟩|⟨ne,h⟩
  .cases h;exact⟨l,us',h1,aeu,h3,r.gr gr I.kd⟩
  .obtain⟨l',ws,e1,e2,e3,e4⟩:=I.own i zs h;have nl:l'≠l:=λz=>by
    subst z;exact I.sep i j zs xs l' (Ne.symm ne) h hj e1 h1
   exact⟨l',ws,e1,by rw[upd_ne nl];exact e2,e3,e4.gr gr I.kd⟩
 .have k1:∃xs,Z[i]?=some (some (.mut xs)):=by
   rcases cG e1 with⟨rfl,_,_⟩|⟨_,h⟩
   .exact⟨xs,hj⟩
   .exact⟨zs,h⟩
  have k2:∃xs,Z[k]?=some (some (.mut xs)):=by
   rcases cG e2 with⟨rfl,_,_⟩|⟨_,h⟩
   .exact⟨xs,hj⟩
   .exact⟨ws,h⟩
  obtain⟨x1,k1⟩:=k1;obtain⟨x2,k2⟩:=k2;exact I.sep i k x1 x2 a ne k1 k2 e3 e4
end
section
variable{X:Cx}{aj:aC}{W:WX}{q:Bool}{a b e:Expr}{pos:Pos}
def bx(f:QF):SF:=λM Z=>((f M (gj Z)).at M).then Z λd M'=>.ret d M'
def Gi(f:GF):SF:=λM Z=>(f M Z).then Z λd M'=>.ret d M'
theorem SM{f:QF}(he:QE aj X W e f):SE aj X W q (.Return (some e) pos) (bx f):=by
 refine PS.weak (ps_ret he) λD σ H ⟨g,Z,M,I,z⟩=>?_;refine⟨g.fr,gj Z,M,I.gj,?_⟩;unfold bx at z;cases hf:f M (gj Z) with
 |ok d=>
  rw[hf]at z;exact λv H' e r=>z v H' g (Gr.ex e) (I.ex e).kd.fr (I.ex e).wok.fr r
 |exc x=>
  rw[hf]at z;exact λH' c dd e r=>z σ H' g c dd (Gr.ex e) (I.ex e) r
 |bad=>rw[hf]at z;exact ael z
theorem Py{f:GF}(he:GE aj X W q e f):SE aj X W q (.Return (some e) pos) (Gi f):=by refine PS.weak (ps_ret he) λD σ H ⟨g,Z,M,I,z⟩=>?_;exact tE.go I (aZ (σ:=σ) z) λd M' v H' g' k r I' rv=>k v H' g' r I'.kd.fr I'.wok.fr rv.fr
def cC(t:QT)(f k:SF):SF:=λM Z=>((t M (gj Z)).at M).then Z λc M'=>if c=true then f M' Z else k M' Z
def uJ(t:GT)(f k:SF):SF:=λM Z=>(t M Z).then Z λc M'=>if c=true then f M' Z else k M' Z
theorem Yt{c:Expr}{s1 s2:List Stmt}{t:QT}{f k:SF}(hc:gG aj X W c t)(h1:mV aj X W q s1 f)(h2:mV aj X W q s2 k):SE aj X W q (.If c s1 s2 pos) (cC t f k):=by
 refine PS.weak (ps_if hc h1 h2) λD σ H ⟨g,Z,M,I,z⟩=>?_;refine⟨g.fr,gj Z,M,I.gj,?_⟩;unfold cC at z;cases hf:t M (gj Z) with
 |ok d=>
  rw[hf]at z;intro H' e;cases d with
  |true=>exact tS.go (I.ex e) (Gr.ex e) z
  |false=>exact tS.go (I.ex e) (Gr.ex e) z
 |exc x=>
  rw[hf]at z;exact λH' c dd e r=>z σ H' g c dd (Gr.ex e) (I.ex e) r
 |bad=>rw[hf]at z;exact ael z
theorem Ut{c:Expr}{s1 s2:List Stmt}{t:GT}{f k:SF}(hc:mj aj X W q c t)(h1:mV aj X W q s1 f)(h2:mV aj X W q s2 k):SE aj X W q (.If c s1 s2 pos) (uJ t f k):=by
 refine PS.weak (ps_if hc h1 h2) λD σ H ⟨g,Z,M,I,z⟩=>?_;refine wz.go I (aZ (σ:=σ) z) λb M' H' g' kk r I'=>?_;cases b with
 |true=>exact tS.go I' r kk
 |false=>exact tS.go I' r kk
def dI(tg:bR)(body:SF):List Dat->Mo->Env->fX
 |[],M,Z=>.next Z M
 |d::ds,M,Z=>match tg d Z with
  |none=>.bad
  |some Z1=>match body M Z1 with
   |.next Z2 M2=>dI tg body ds M2 Z2
   |.cont Z2 M2=>dI tg body ds M2 Z2
   |.brk Z2 M2=>.next Z2 M2
   |.ret d M2=>.ret d M2
   |.exc x Z2 M2=>.exc x Z2 M2
   |.bad=>.bad
def lW(it:IF)(tg:bR)(body:SF):SF:=λM Z=>((it M Z).at M).then Z λds M'=>dI tg body ds M' Z
theorem WK{tg iter:Expr}{body:List Stmt}{it:IF}{js:List Nat}{tf:bR}{f:SF}(hp:PassesOwn (model X.prog X.w) X.A X.env X.xe)(hc:X.calm=true)(hi:QI aj X W true tg iter it)(hg:QG aj X tg js tf)(hb:mV aj X W q body f)(hs:∀x,foldedSetIterable iter X.env x=pure x) :
  SE aj X W q (.For tg iter body [] pos) (lW it tf f):=by
 refine PS.weak (ps_for hp hc hi hg hb hs) λD σ H ⟨g,Z,M,I,z⟩=>?_;refine⟨g,Z,M,I,?_⟩;unfold lW at z;cases hf:it M Z with
 |exc x=>
  rw[hf]at z;exact λH' c dd e r=>z σ H' g c dd (Gr.ex e) (I.ex e) r.fr
 |bad=>rw[hf]at z;exact ael z
 |ok ds=>
  rw[hf]at z;intro J C H1 e1 w c1 firm;have firm:=firm rfl;have z:(dI tf f ds M Z).sat (sN X.K aj q D.nx g H) (sR X.K aj q D.rt g H) (sN X.K aj q D.bk g H) (sN X.K aj q D.ct g H) (sX X.K aj W q g H):=z
  let Pv:Nat->L2.St->Hp->Prop:=λi σi Hi=>i<=ds.length/\∃gi ρi Mi,Gr q g gi H Hi/\SInv X.K aj σi Hi gi ρi Mi/\C gi Hi/\(dI tf f (ds.drop i) Mi ρi).sat (sN X.K aj q D.nx g H) (sR X.K aj q D.rt g H) (sN X.K aj q D.bk g H) (sN X.K aj q D.ct g H) (sX X.K aj W q g H)
  refine⟨λi m σi Hi=>m=ds.length-i/\Pv i σi Hi,⟨ds.length,rfl,adJ _,g,Z,M,Gr.ex e1,I.ex e1,c1,by rw[aej];exact z⟩,?_⟩;rintro i m σi Hi ⟨rfl,hi,gi,ρi,Mi,ri,Ii,Ci,zi⟩;by_cases hlt:i<ds.length
  .refine .inr ⟨w.go _ i Hi Ci hlt,Pv (i+1),λσ' H' p=>⟨ds.length-(i+1),by omega,rfl,p⟩,λx H' y=>?_⟩;have hd:ds[i]?=some ds[i]:=adh hlt;obtain⟨e2,rx⟩:=w.yld _ i Hi x H' _ Ii.kd Ci hd y;rw[adR hlt,dI]at zi;split at zi
   .exact ael zi
   .next Z1 he=>
    have I2:=Ii.ex e2;refine⟨gi,ρi,Mi,_,Z1,I2,rx,he,λvs I3=>⟨gi,Z1,Mi,I3,?_⟩⟩;have r2:=ri.trans (Gr.ex e2);cases hb':f Mi Z1 with
    |next Z2 M2=>
     rw[hb']at zi;exact λσ' H2 g2 r I'=>⟨hlt,g2,Z2,M2,r2.trans r,I',firm q gi g2 H' H2 I2.kd (w.ex _ _ _ Ii.kd Ci e2) r,zi⟩
    |cont Z2 M2=>
     rw[hb']at zi;exact λσ' H2 g2 r I'=>⟨hlt,g2,Z2,M2,r2.trans r,I',firm q gi g2 H' H2 I2.kd (w.ex _ _ _ Ii.kd Ci e2) r,zi⟩
    |brk Z2 M2=>
     rw[hb']at zi;exact sN.gr r2 zi
    |ret d M2=>
     rw[hb']at zi;exact sR.gr r2 zi
    |exc x Z2 M2=>
     rw[hb']at zi;exact sX.gr r2 zi
    |bad=>rw[hb']at zi;exact ael zi
  .have e:i=ds.length:=by omega
   refine .inl ⟨w.stop _ i Hi Ci e,?_⟩;rw[e,adW]at zi;exact zi σi Hi gi ri Ii
def Ho(j:Nat)(f:QF):SF:=λM Z=>match Z[j]? with
 |some (some (.dat (.int i)))=>((f M Z).at M).then Z λd M'=>match d with
  |.int k=>.next (Z.set j (some (.dat (.int (i+k))))) M'
  |_=>.bad
 |_=>.bad
theorem Ss{j:Nat}{x:Str}{f:QF}{pos':Pos}(hN:X.N.Nodup)(hi:X.N[j]?=some x)(hx:Loc X.env.scope x)(hf:X.fn x=true\/X.env.scope.names.lookup x=some .local)(he:QE aj X W e f):SE aj X W q (.AugAssign (.Name x pos') .Add e pos) (Ho j f):=by
 refine PS.weak (ps_aug hN hi hx he ip_add hf) λD σ H ⟨g,Z,M,I,z⟩=>?_;unfold Ho at z;split at z
 .next i hj=>
  obtain⟨v,h1,h2⟩:=I.dat j _ hj;cases h2;refine⟨.int i,h1,⟨g,Z,M,I,?_⟩⟩;cases hf':f M Z with
  |exc x=>rw[hf']at z;exact λH' c dd e r=>z σ H' g c dd (Gr.ex e) (I.ex e) r.fr
  |bad=>rw[hf']at z;exact ael z
  |ok d=>
   rw[hf']at z;intro u H' e r;cases d with
   |int k=>
    cases r;exact⟨i,k,rfl,rfl,z _ H' g (Gr.ex e) ((I.ex e).set (.int _))⟩
   |_=>exact ael z
 .exact ael z
def FE(aj:aC)(X:Cx)(W:WX)(e:Expr)(f:IF):Prop:=PE X e (JC X.K aj W f)
def jm(j:Nat)(f:IF):SF:=λM Z=>((f M Z).at M).then Z λxs M'=>.next (Z.set j (some (.mut xs))) M'
theorem JK{j:Nat}{f:IF}(D:Ends)(σ:L2.St)(H:Hp)(h:tS X.K aj W q (jm j f) D σ H):tAsg (JC X.K aj W f) (gName j) D σ H:=by
 obtain⟨g,Z,M,I,z⟩:=h;refine⟨g,Z,M,I,?_⟩;unfold jm at z;cases hf:f M Z with
 |exc x=>rw[hf]at z;exact λH' c dd e r=>z σ H' g c dd (Gr.ex e) (I.ex e) r.fr
 |bad=>rw[hf]at z;exact ael z
 |ok xs=>
  rw[hf]at z;intro l us H' n e hl r;have gr:Gr true g (g.add l) H H':=Gh.oO n e;refine z _ H' (g.add l) ?_ (I.Wr n e hl r);cases q with
  |true=>exact gr
  |false=>exact gr.loud
theorem Ip{j:Nat}{x:Str}{f:IF}{pos':Pos}(hN:X.N.Nodup)(hi:X.N[j]?=some x)(hx:Loc X.env.scope x)(hf:X.fn x=true\/X.env.scope.names.lookup x=some .local)(he:FE aj X W e f)(hs:swapsWith e (some (.Name x pos')) pos.line X.env=pure false):SE aj X W q (.Assign [.Name x pos'] e pos) (jm j f):=
 PS.weak (ps_set hN hi hx he hs hf) λD σ H h=>JK D σ H h
def yQ(f:QA):IF:=λM Z=>(f M Z).bind λxs=>Out.when (decide (xs.length<=100000)) (.ok xs)
theorem KH{K:ac8}{g:Gh}{H:Hp}{l:Addr}{vs:List V}{ds:List Dat}(k:Kd g H)(n:H l=none)(r:au K g H vs ds){o:HO}:au K (g.add l) (upd H l o) vs ds:=r.gr (Gh.oO n (Ex.new n)) k
theorem Ui{es:List Expr}{fr:QA}(h:mZ aj X W es fr):FE aj X W (.List es pos) (yQ fr):=
 PE.weak (pe_lst h) λσ H Q ⟨g,Z,M,I,h⟩=>by
  refine ux.go I h.bnd λds vs H1 h1 e1 r1=>?_;obtain⟨hz,h1⟩:=h1.fB;have hl:vs.length<=100000:=by rw[r1.length];exact aen hz
  exact⟨sz_of hl,λp np=>h1 p vs _ (mD e1 p np) (e1.trans (Ex.new np)) aeu (KH (I.kd.ex e1) np r1)⟩
def zL:Dat->Out (List Dat)
 |.list ds=>.ok ds
 |.tuple ds=>.ok ds
 |_=>.bad
def Ma(f:QF):IF:=λM Z=>(f M Z).bind zL
def baseOk:Expr->Bool
 |.Call (.Name _ _) _ _ _=>false
 |_=>true
theorem cU{o:Expr}{m:Str}{env:PySem.Env}{w:Sem Value}(h:baseOk o=true):attributeBase o m env w=w:=by
 cases o with
 | Call f as ks p=>cases f<;>first | rfl | cases h
 |_=>rfl
theorem Dh{env:PySem.Env}{pos:Pos}:∀(es:List Expr),es.all nst=true->(backTo pos (starEach es env)).all (λx=>!x.1)=true
 |[],_=>by with_unfolding_all rfl
 |a::es,h=>by
  rw[adF,ac9]at h;rw[aU h.1];have ih:=Dh (env:=env) (pos:=pos) es h.2;unfold backTo at ih |-
  rw[ada,adF,ih];rfl
theorem few{env:PySem.Env}{pos:Pos}{es:List Expr}(h:es.all nst=true)(hl:es.length<30):((backTo pos (starEach es env)).all (λx=>!x.1)&&(backToKw pos (keywordEach [] env)).all (λx=>x.1.isSome)&&decide (es.length+([]:List Keyword).length+(if ([]:List Keyword).isEmpty then 0 else 1)<30))=true:=by
 rw[Dh es h];have:(backToKw pos (keywordEach [] env)).all (λx=>x.1.isSome)=true:=by with_unfolding_all rfl
 rw[this];simpa using hl
def nu(j:Nat)(f:QF):SF:=λM Z=>match Z[j]? with
 |some (some (.mut xs))=>((f M Z).at M).then Z λd M'=>if xs.length<100000 then .next (Z.set j (some (.mut (xs++[d])))) M' else .bad
 |_=>.bad
theorem U0{j:Nat}{x:Str}{f:QF}{p apos:Pos}{epos:Pos}(hN:X.N[j]?=some x)(hv:Vis X.env.scope x)(hd:(x==("__debug__" : Str))=false)(hcd:(x==("__classdict__" : Str))=false)(he:QE aj X W e f)(hs:nst e=true)
  (hl:(apos.endLine==pos.line)=true):SE aj X W q (.Expr (.Call (.Attribute (.Name x p) "append" apos) [e] [] pos) epos) (nu j f):=by
 have h0:=pe_var (X:=X) (pos:=p) hN hv hd hcd;have h1:=pa_cons he pa_nil (aU hs []);have key:=pe_bm (X:=X) (cpos:=pos) (apos:=apos) PySem.F.plainAttrs_list PySem.F.slot_list_append PySem.F.type_list_append mt_append h0 h1 (cU rfl) (few (by simp[hs]) (by simp)) hl (aU hs []) (by with_unfolding_all rfl);refine PS.weak (ps_expr key (by with_unfolding_all rfl)) λD σ H ⟨g,Z,M,I,z⟩=>?_;unfold nu at z;split at z
 .next xs hj=>
  obtain⟨l,us,e1,e2,e3,e4⟩:=I.own j xs hj;refine⟨.ref l,e1,.inl ⟨rfl,us,sq_of e2⟩,⟨g,Z,M,I,?_⟩⟩;cases hf:f M Z with
  |exc x=>rw[hf]at z;exact λH' c dd e r=>z σ H' g c dd (Gr.ex e) (I.ex e) r.fr
  |bad=>rw[hf]at z;exact ael z
  |ok d=>
   rw[hf]at z;intro v H' e r;have z:(if xs.length<100000 then fX.next (Z.set j (some (.mut (xs++[d])))) M else .bad).sat (sN X.K aj q D.nx g H) (sR X.K aj q D.rt g H) (sN X.K aj q D.bk g H) (sN X.K aj q D.ct g H) (sX X.K aj W q g H):=z;split at z
   .next hlen=>
    have I1:=I.ex e;obtain⟨l',us',f1,f2,f3,f4,f5⟩:=I1.change (ys:=xs++[d]) hj;rw[e1]at f1;cases f1;rw[e _ _ e2]at f2;cases f2;refine⟨l,us,v,rfl,rfl,e _ _ e2,sz_lt (by rw[e4.length];exact hlen),?_⟩;exact z _ _ g ((Gr.ex e).trans (Gr.upd I1.kd (e _ _ e2) (.inr f3))) (f5 _ (f4.append (.cons r .nil)))
   .exact ael z
 .exact ael z
def XR(j:Nat)(fi f:QF):SF:=λM Z=>match Z[j]? with
 |some (some (.mut xs))=>((f M Z).at M).then Z λd M'=>((fi M' Z).at M').then Z λi M2=>match i with
  |.int k=>match ixN xs.length k with
   |some n=>.next (Z.set j (some (.mut (xs.set n d)))) M2
   |none=>.bad
  |_=>.bad
 |_=>.bad
def jR(j:Nat):SF:=λM Z=>match Z[j]? with
 |some (some (.mut _))=>.next (Z.set j (some (.mut []))) M
 |_=>.bad
theorem Nq{j:Nat}{x:Str}{p apos:Pos}{epos:Pos}(hN:X.N[j]?=some x)(hv:Vis X.env.scope x)(hd:(x==("__debug__" : Str))=false)(hcd:(x==("__classdict__" : Str))=false)(hl:(apos.endLine==pos.line)=true) :
  SE aj X W q (.Expr (.Call (.Attribute (.Name x p) "clear" apos) [] [] pos) epos) (jR j):=by
 have h0:=pe_var (X:=X) (pos:=p) hN hv hd hcd;have key:=pe_bm0 (X:=X) (cpos:=pos) (apos:=apos) PySem.F.plainAttrs_list PySem.F.slot_list_clear PySem.F.type_list_clear mt_clear h0 (cU rfl) hl;refine PS.weak (ps_expr key (by with_unfolding_all rfl)) λD σ H ⟨g,Z,M,I,z⟩=>?_;unfold jR at z;split at z
 .next xs hj=>
  obtain⟨l,us,f1,f2,f3,f4,f5⟩:=I.change (ys:=[]) hj;exact⟨.ref l,f1,.inl ⟨rfl,us,sq_of f2⟩,l,us,rfl,rfl,f2,z _ _ g (Gr.upd I.kd f2 (.inr f3)) (f5 [] .nil)⟩
 .exact ael z
end
structure Gc(g g':Gh)(H H':Hp):Prop where
 keep:∀a o,H a=some o->¬g.W a->H' a=some o
 dom:∀a,H' a=none->H a=none
 tbl:∃more,g'.tbl=g.tbl++more
 W:∀a,g.W a->g'.W a
 nW:∀a,g'.W a->g.W a\/H a=none
 Lc:g'.Lc=g.Lc
 Lo:g'.Lo=g.Lo
 kl:g'.kl=g.kl
def yL(K:ac8)(aj:aC)(n:Nat)(m:Mo->List Dat->Out Dat):Sp:=λvs H Q E=>vs.length=n/\∃g M ds,Kd g H/\bK K aj g H M/\au K g H vs ds/\
 (m M ds).sat (λd=>∀v H',Ex H H'->Rep K g H' v d->Q v H') λx=>∀H' c dd,Ex H H'->dG K aj g H' x c dd->E c dd H'
def qd(K:ac8)(aj:aC)(n:Nat)(m:Mo->List Dat->aN Dat):Sp:=λvs H Q E=>vs.length=n/\∃g M ds,Kd g H/\bK K aj g H M/\au K g H vs ds/\
 (m M ds).sat (λd M'=>∀v H' g',Gc g g' H H'->Kd g' H'->bK K aj g' H' M'->Rep K g' H' v d->Q v H') λx M'=>∀H' g' c dd,Gc g g' H H'->Kd g' H'->bK K aj g' H' M'->dG K aj g' H' x c dd->E c dd H'
section
variable{K:ac8}{aj:aC}{W:WX}{g g':Gh}{H H':Hp}{σ:L2.St}{Z:Env}{M M':Mo}
theorem Gc.gr(r:Gc g g' H H'):Gr false g g' H H':=⟨λa o h n _=>r.keep a o h n,(λz=>nomatch z),r.dom,r.tbl,r.W,r.nW,(λz=>nomatch z),r.Lc,λa h=>by rw[r.Lo];exact h,λa h=>by rw[r.Lo]at h;exact .inl h,r.kl⟩
theorem SInv.call(r:Gc g g' H H')(k':Kd g' H')(w':bK K aj g' H' M')(I:SInv K aj σ H g Z M):SInv K aj σ H' g' Z M' where
 kd:=k'
 wok:=w'
 len:=I.len
 dat:=λi d h=>by
  obtain⟨v,h1,h2⟩:=I.dat i d h;exact⟨v,h1,h2.gr r.gr I.kd⟩
 own:=λi xs h=>by
  obtain⟨l,us,h1,h2,h3,h4⟩:=I.own i xs h;exact⟨l,us,h1,r.keep _ _ h2 (I.kd.lo l h3),by rw[r.Lo];exact h3,h4.gr r.gr I.kd⟩
 sep:=I.sep
def Gh.in(g:Gh):Gh:={ g with Lc:=λa=>g.Lc a\/g.Lo a,Lo:=λ_=>False }
theorem Bh(g:Gh)(a:Addr):g.in.A a↔g.A a:=by
 constructor
 .rintro(z|(z|z)|z)
  .exact .inl z
  .exact .inr (.inl z)
  .exact .inr (.inr z)
  .exact ael z
 .rintro(z|z|z)
  .exact .inl z
  .exact .inr (.inl (.inl z))
  .exact .inr (.inl (.inr z))
theorem Kd.in(k:Kd g H):Kd g.in H:=⟨λa z=>k.ob a ((Bh g a).mp z),λa z=>ael z,λa z=>⟨z.elim (λz=>(k.lc a z).1) (λz=>k.lo a z),λy=>y⟩⟩
def ini(n:Nat)(ds:List Dat):Env:=ds.map (λd=>some (.dat d))++List.replicate (n-ds.length) none
theorem Fb{N:List Str}{vs:List V}{ds:List Dat}(k:Kd g H)(w:bK K aj g H M)(r:au K g H vs ds):SInv K aj (start N vs) H g (ini N.length ds) M where
 kd:=k
 wok:=w
 len:=by unfold L2.start ini;rw[adY,adY,adi,adi,List.length_replicate,List.length_replicate,r.length]
 dat:=λi d h=>by
  unfold ini at h;unfold L2.start;by_cases hi:i<ds.length
  .rw[adp (by rw[adi];exact hi),adq]at h;cases hd:ds[i]? with
   |none=>rw[hd]at h;cases h
   |some d'=>
    rw[hd]at h;cases h;obtain⟨v,h1,h2⟩:=r.get hd;refine⟨v,?_,h2⟩;rw[adp (by rw[adi,r.length];exact hi),adq,h1];rfl
  .rw[adx (by rw[adi];omega)]at h;rw[List.getElem?_replicate]at h;split at h<;>cases h
 own:=λi xs h=>by
  unfold ini at h;by_cases hi:i<ds.length
  .rw[adp (by rw[adi];exact hi),adq]at h;cases hd:ds[i]? with
   |none=>rw[hd]at h;cases h
   |some d'=>rw[hd]at h;cases h
  .rw[adx (by rw[adi];omega)]at h;rw[List.getElem?_replicate]at h;split at h<;>cases h
 sep:=λi j xs ys l ne h=>by
  unfold ini at h;by_cases hi:i<ds.length
  .rw[adp (by rw[adi];exact hi),adq]at h;cases hd:ds[i]? with
   |none=>rw[hd]at h;cases h
   |some d'=>rw[hd]at h;cases h
  .rw[adx (by rw[adi];omega)]at h;rw[List.getElem?_replicate]at h;split at h<;>cases h
end
def mQ(n:Nat)(body:SF):Mo->List Dat->Out Dat:=λM ds=>match body M (ini n ds) with
 |.ret d _=>.ok d
 |.next _ _=>.ok .none
 |.exc x _ _=>.exc x
 |_=>.bad
def mG(n:Nat)(body:SF):Mo->List Dat->aN Dat:=λM ds=>match body M (ini n ds) with
 |.ret d M'=>.ok d M'
 |.next _ M'=>.ok .none M'
 |.exc x _ M'=>.exc x M'
 |_=>.bad
section
variable{P:Program}{w:World}{K:ac8}{mg:Str->Option Value}{base:Heap}{aj:aC}
def KR(E:XK):WX:=λc d _ H=>E c d H
theorem Rep.same{g g':Gh}{H:Hp}{v:V}{d:Dat}(e:g'.tk=g.tk)(n:∀a,g'.A a↔g.A a)(h:Rep K g H v d):Rep K g' H v d:=h.less e λa z=>(n a).mp z
theorem Gq{g g':Gh}{H H':Hp}(r:Gr true g.in g' H H'):Ex H H':=λa o h=>by
 by_cases w:g.W a
 .exact r.keepW rfl a o h w
 .exact r.keep a o h w λz=>z
theorem Vb{q:Bool}{g g':Gh}{H H':Hp}(r:Gr q g.in g' H H')(a:Addr):g'.fr.A a↔(g'.W a\/g.Lc a\/g.Lo a):=by
 have hl:g'.Lc=g.in.Lc:=r.Lc;constructor
 .rintro(z|z|z)
  .exact .inl z
  .have z:g'.Lc a:=z;rw[hl]at z;exact .inr z
  .exact ael z
 .rintro(z|z)
  .exact .inl z
  .refine .inr (.inl ?_);show g'.Lc a;rw[hl];exact z
theorem Fun.okC{C:CXT}{x qual:Str}{st:Stmt}{f:Addr}{fd:FuncData}{N ps:List Str}{k:Nat}{sp:Sp}(F:Fun K x qual st f fd)(S:FnScope N ps (defScope st))(len:∀vs H Q E,sp vs H Q E->vs.length=ps.length)
  (hbody:∀(cdv:Value) (A:Around) (outer:List PySem.Env) (s:Shared) (H:Hp) (vs:List V) (Q:VK) (E:XK),Room k (A.deeper (envOfC qual (defScope st) s.heap.objs.size f cdv))->sp vs H Q E->
   ∃t,PSs (cxOf C P w K mg base N qual (defScope st) f cdv A outer s H E) (defBody st) t/\t { nx:=λ_ H'=>Q .non H',rt:=Q } (start N vs) H):FnOk P w K mg base C (k+1) f fd ps sp:=by
 obtain⟨oc,od,kV,doc,pm,an,cdv,ct,osl,rfl,lk,hcd⟩:=F.ex;exact fn_of lk hcd S len λA outer s H vs Q E hr hsp=>hbody cdv A outer s H vs Q E hr hsp
theorem Zm{C:CXT}{x qual:Str}{st:Stmt}{f:Addr}{fd:FuncData}{N ps:List Str}{k:Nat}{body:SF}(F:Fun K x qual st f fd)(S:FnScope N ps (defScope st))
  (hb:∀(cdv:Value) (A:Around) (outer:List PySem.Env) (s:Shared) (H:Hp) (E:XK),Room k (A.deeper (envOfC qual (defScope st) s.heap.objs.size f cdv))->mV aj (cxOf C P w K mg base N qual (defScope st) f cdv A outer s H E) (KR E) true (defBody st) body) :
  FnOk P w K mg base C (k+1) f fd ps (yL K aj ps.length (mQ N.length body)):=by
 refine Fun.okC F S (λvs H Q E h=>h.1) (λcdv A outer s H vs Q E hr h=>⟨_,hb cdv A outer s H E hr,?_⟩);obtain⟨hl,g,M,ds,kd,wk,rs,h⟩:=h;have wk':bK K aj g.in H M:=bK.less (g:=g) (g':=g.in) rfl rfl (λa z=>(Bh g a).mp z) wk;refine⟨g.in,ini N.length ds,M,Fb kd.in wk' (au.less (g:=g) (g':=g.in) rfl (λa z=>(Bh g a).mp z) rs),?_⟩;have back:∀{g':Gh} {H':Hp},Gr true g.in g' H H'->∀a,g.A a↔g'.fr.A a:=λ{g' H'} r a=>by
  rw[Vb r a];have e:=(r.qg rfl);have ew:g'.W a↔g.W a:=by unfold Gh.W;rw[Gh.qm e.1,e.2];rfl
  unfold Gh.A;rw[ew]
 unfold mQ at h;cases hf:body M (ini N.length ds) with
 |next Z' M'=>
  rw[hf]at h;exact λσ' H' g' r I'=>h _ H' (Gq r) .non
 |ret d M'=>
  rw[hf]at h;exact λv H' g' r k' w' rv=>h v H' (Gq r) (Rep.same (g:=g'.fr) (g':=g) (r.qg rfl).1.symm (back r) rv)
 |exc x Z' M'=>
  rw[hf]at h;exact λσ' H' g' c dd r I' rx=>h H' c dd (Gq r) (dG.less (g:=g'.fr) (g':=g) (r.qg rfl).1.symm (λa z=>(back r a).mp z) rx)
 |brk Z' M'=>rw[hf]at h;exact ael h
 |cont Z' M'=>rw[hf]at h;exact ael h
 |bad=>rw[hf]at h;exact ael h
theorem ZM{x qual:Str}{st:Stmt}{f:Addr}{fd:FuncData}{N ps:List Str}{k:Nat}{body:SF}(F:Fun K x qual st f fd)(S:FnScope N ps (defScope st))
  (hb:∀(cdv:Value) (A:Around) (outer:List PySem.Env) (s:Shared) (H:Hp) (E:XK),Room k (A.deeper (envOfC qual (defScope st) s.heap.objs.size f cdv))->mV aj (cxOf (L2.CX P w) P w K mg base N qual (defScope st) f cdv A outer s H E) (KR E) false (defBody st) body) :
  FnOk P w K mg base (L2.CX P w) (k+1) f fd ps (qd K aj ps.length (mG N.length body)):=by
 refine F.okX S (λvs H Q E h=>h.1) (λcdv A outer s H vs Q E hr h=>⟨_,hb cdv A outer s H E hr,?_⟩);obtain⟨hl,g,M,ds,kd,wk,rs,h⟩:=h;have wk':bK K aj g.in H M:=bK.less (g:=g) (g':=g.in) rfl rfl (λa z=>(Bh g a).mp z) wk;refine⟨g.in,ini N.length ds,M,Fb kd.in wk' (au.less (g:=g) (g':=g.in) rfl (λa z=>(Bh g a).mp z) rs),?_⟩
 let gb:Gh->Gh:=λg'=>{ tbl:=g'.tbl,ow:=g'.ow,Lc:=g.Lc,Lo:=g.Lo,kl:=g'.kl }
 have gc:∀{g':Gh} {H':Hp},Gr false g.in g' H H'->Gc g (gb g') H H':=λ{g' H'} r=>⟨λa o h n=>r.keep a o h n λz=>z,r.dom,r.tbl,r.W,r.nW,rfl,rfl,r.kl⟩;have eA:∀{g':Gh} {H':Hp},Gr false g.in g' H H'->∀a,(gb g').A a↔g'.fr.A a:=λ{g' H'} r a=>by
  rw[Vb r a];exact Iff.rfl
 have kk:∀{g':Gh} {H':Hp},Gr false g.in g' H H'->Kd g'.fr H'->Kd (gb g') H':=λ{g' H'} r k'=>by
  have nw:∀a,(g.Lc a\/g.Lo a)->¬g'.W a:=λa z y=>by
   have:g'.fr.Lc a:=by show g'.Lc a;rw[show g'.Lc=g.in.Lc from r.Lc];exact z
   exact(k'.lc a this).1 y
  exact⟨λa z=>k'.ob a ((eA r a).mp z),λa z=>nw a (.inr z),λa z=>⟨nw a (.inl z),(kd.lc a z).2⟩⟩
 unfold mG at h;cases hf:body M (ini N.length ds) with
 |next Z' M'=>
  rw[hf]at h;exact λσ' H' g' r I'=>h _ H' (gb g') (gc r) (kk r I'.kd.fr) (bK.less (g:=g'.fr) (g':=gb g') rfl rfl (λa z=>(eA r a).mp z) I'.wok.fr) .non
 |ret d M'=>
  rw[hf]at h;exact λv H' g' r k' w' rv=>h v H' (gb g') (gc r) (kk r k') (bK.less (g:=g'.fr) (g':=gb g') rfl rfl (λa z=>(eA r a).mp z) w') (Rep.same (g:=g'.fr) (g':=gb g') rfl (eA r) rv)
 |exc x Z' M'=>
  rw[hf]at h;exact λσ' H' g' c dd r I' rx=>h H' (gb g') c dd (gc r) (kk r I'.kd.fr) (bK.less (g:=g'.fr) (g':=gb g') rfl rfl (λa z=>(eA r a).mp z) I'.wok.fr) (dG.less (g:=g'.fr) (g':=gb g') rfl (λa z=>(eA r a).mp z) rx)
 |brk Z' M'=>rw[hf]at h;exact ael h
 |cont Z' M'=>rw[hf]at h;exact ael h
 |bad=>rw[hf]at h;exact ael h
end
def bD(m:Mo->List Dat->Out Dat)(as:QA):QF:=λM Z=>(as M Z).bind λds=>m M ds
section
variable{X:Cx}{aj:aC}{W:WX}{q:Bool}{a b e:Expr}{es:List Expr}{pos p:Pos}{x:Str}{k:Nat}{f:Addr}{fd:FuncData}{ps:List Str}
theorem Rm{C:CXT}{m:Mo->List Dat->Out Dat}{as:QA}(tk:∀σ,PassesAt C X σ (WE W σ))(F:FnOk X.prog X.w X.K X.mg X.base C k f fd ps (yL X.K aj ps.length m))(hr:Room k X.A)(hg:Gl X x)(hm:X.mg x=some (.ref f))(hk:PySem.W.keepIn X.K (.ref f)=true)(hb:Binds X.K fd ps [])
  (ha:mZ aj X W (e::es) as) (hl:(e::es).length=ps.length) (hd:(x==("__debug__" : Str))=false) (hs:(e::es).all nst=true) (hn:∀M Z ds,as M Z=.ok ds->ds.length=(e::es).length):QE aj X W (.Call (.Name x p) (e::es) [] pos) (bD m as):=by
 have hs':=hs;rw[adF,ac9]at hs';refine PE.weak (pe_callS (E:=λσ=>WE W σ) F hr hg hm hk hb tk ha hd (aU hs'.1 es) (star_any es hs'.2)) λσ H Q ⟨g,Z,M,I,h⟩=>?_;refine⟨g,Z,M,I,?_⟩;have h:=h.bnd;cases has:as M Z with
 |exc x=>rw[has]at h;exact h
 |bad=>rw[has]at h;exact h
 |ok ds=>
  rw[has]at h;have h:(m M ds).sat (λd=>∀v H',Ex H H'->Rep X.K g H' v d->Q v H') (fO X.K aj W g H σ):=h;intro vs H1 e1 r1;refine⟨by rw[r1.length,hn M Z ds has];exact hl,g,M,ds,I.kd.ex e1,I.wok.ex e1 I.kd,r1,h.mono (λd k v H' e' r'=>k v H' (e1.trans e') r') λx k H' c dd e' r'=>k H' c dd (e1.trans e') r'⟩
end
theorem KC{n:Nat}(h:n<=16001):n<=sizeLine:=aed h (by decide)
theorem Xh{prog:Program}{w:World}{A:Around}{E:Value->Shared->Prop}{s:Shared}{l:Addr}{v0:Value}{vs:List Value}{Q:List Value->Shared->Prop}(hh:A.handled=none)(hl:s.heap.IsList l (v0::vs).toArray\/IsTup s.heap l (v0::vs).toArray)(hz:vs.length<=16000)
  (h:∀(h₂:Heap) (tk:Nat),(∀b o,s.heap.get? b=some o->h₂.get? b=some o)->Q [v0,.ref h₂.objs.size] { s with heap:=h₂.push { cls:=.type "list",data:=.seq vs.toArray },toks:=tk }):wpAny (model prog w) A (unpackItems (.ref l) 2 (some 1)) Q E s:=by
 have hll:l<s.heap.objs.size:=by rcases hl with⟨o,ho,_⟩|⟨o,ho,_⟩<;>exact Heap.lt_size ho
 have hlt:l≠s.heap.objs.size:=adC hll;have hsz:(v0::vs).toArray.size=vs.length+1:=by simp
 have hb:(v0::vs).toArray.size<=sizeLine:=KC (by rw[hsz];omega);have hd:(v0::vs).toArray.toList.drop 1=vs:=by simp
 have ht:((v0::vs).toArray.toList.drop 0).take 1=[v0]:=by simp
 have fin:∀(h₂:Heap) (tk:Nat),(∀b o,b≠s.heap.objs.size->s.heap.get? b=some o->h₂.get? b=some o)->wpAny (model prog w) A (newList vs >>= λd=>pure ([v0]++[d]++[])) Q E { s with heap:=h₂,toks:=tk }:=λh₂ tk k=>by
  refine aeo (wpAny_newObj_type (aep ?_) (KC (by simp;omega)));exact h h₂ tk λb o e=>k b o (adC (Heap.lt_size e)) e
 unfold unpackItems;refine aeo ?_;unfold notIterableAtAll;rcases hl with hl|hl
 .refine aeo (wpAny_specialOf hl.typeIs slot_list_iter.lookup (aep ?_));simp only[adD,if_false];refine aeo (wpAny_holding (wpAny_pyIter_list hl ?_));refine aeo (wpAny_holding (PySem.W.kun_draw hlt 1 0 _ _ ⟨_,Heap.get?_push_size _ rfl,rfl,rfl⟩ (hl.push _) (by rw[hsz];omega) λh₁ i1 b1=>?_));have hl₁:=(hl.push _).extBut b1.extBut hlt;obtain⟨oi,hoi,_⟩:=id i1;obtain⟨ol,hol,_⟩:=id hl₁;rw[ht];refine aeo (wpAny_holding (PySem.W.kun_collect (s:={ s with heap:=h₁ }) (T:="list_iterator") (.inr (.inr (.inl rfl))) (Walks.list (A:=A.in1) hh s.heap.objs.size l hlt (v0::vs).toArray) (λj u st=>st.1.typeIs) (k:=1) (by rw[hsz];omega) ⟨i1,hl₁⟩ (Heap.lt_size hoi) (Heap.lt_size hol) (λh₂ tk hk=>?_) hb))
  rw[hd];show wpAny _ _ (if vs.length<0 then _ else newList (vs.take (vs.length-0)) >>= λd=>pure ([v0]++[d]++vs.drop (vs.length-0))) _ _ _;rw[aes (Nat.not_lt_zero _),Nat.sub_zero,List.take_length,adW];exact fin h₂ tk λb o ne e=>hk b o ne (b1.extBut b o ne (Heap.get?_push_of_some _ e))
 .refine aeo (wpAny_specialOf hl.typeIs slot_tuple_iter.lookup (aep ?_));simp only[adD,if_false];refine aeo (wpAny_holding (iter_tuple hl ?_));refine aeo (wpAny_holding (draw_tuple hlt 1 0 _ _ ⟨_,Heap.get?_push_size _ rfl,rfl,rfl⟩ (hl.push _) (by rw[hsz];omega) λh₁ i1 b1=>?_));have hl₁:IsTup h₁ l (v0::vs).toArray:=(hl.push _).extBut b1.extBut hlt;obtain⟨oi,hoi,_⟩:=id i1;obtain⟨ol,hol,_⟩:=id hl₁;rw[ht];refine aeo (wpAny_holding (PySem.W.kun_collect (s:={ s with heap:=h₁ }) (T:="tuple_iterator") (.inr (.inr (.inr rfl))) (Walks.tuple (A:=A.in1) hh s.heap.objs.size l hlt (v0::vs).toArray) (λj u st=>st.1.typeIs) (k:=1) (by rw[hsz];omega) ⟨i1,hl₁⟩ (Heap.lt_size hoi) (Heap.lt_size hol) (λh₂ tk hk=>?_) hb))
  rw[hd];show wpAny _ _ (if vs.length<0 then _ else newList (vs.take (vs.length-0)) >>= λd=>pure ([v0]++[d]++vs.drop (vs.length-0))) _ _ _;rw[aes (Nat.not_lt_zero _),Nat.sub_zero,List.take_length,adW];exact fin h₂ tk λb o ne e=>hk b o ne (b1.extBut b o ne (Heap.get?_push_of_some _ e))
def Ov(K:ac8)(i j:Nat):TG:=λv σ H Q=>∃a v0 us,v=.ref a/\(SqL K H a (v0::us)\/SqT K H a (v0::us))/\us.length<=16000/\∀D,H D=none->Q ((σ.set i (some v0)).set j (some (.ref D))) (upd H D (.lst us))
def wY(X:Cx)(j:Nat)(x:Str):Prop:=X.N[j]?=some x/\Loc X.env.scope x/\(X.fn x=true\/X.env.scope.names.lookup x=some .local)
theorem Pg{X:Cx}{i j k:Nat}{x y:Str}{px py ps pos:Pos}(hc:X.calm=true)(hN:X.N.Nodup)(hx:wY X i x)(hy:wY X j y):PG X (.Tuple [.Name x px,.Starred (.Name y py) ps] k pos) (Ov X.K i j):=by
 refine⟨λpins s σ H v u Q I r h=>?_⟩;obtain⟨a,v0,us,rfl,hq,hz,q⟩:=h;cases r;have e1:assign (.Tuple [.Name x px,.Starred (.Name y py) ps] k pos) X.env (.ref a)=(do standAt pos;unpack (.ref a) (assignEach [.Name x px,.Starred (.Name y py) ps] X.env)):=by with_unfolding_all rfl
 have e2:assignEach [.Name x px,.Starred (.Name y py) ps] X.env=[(false,assign (.Name x px) X.env),(true,assign (.Name y py) X.env)]:=by with_unfolding_all rfl
 rw[e1,e2];refine aeo (wpAny_standAt ?_);unfold unpack;obtain⟨w0,ws,hlw,rv0,rvs⟩:∃w0 ws,(s.heap.IsList a (w0::ws).toArray\/IsTup s.heap a (w0::ws).toArray)/\RelV v0 w0/\Vals us ws:=by
  rcases hq with hq|hq
  .obtain⟨its,rv,p,_⟩:=I.list hq;cases rv with
   |cons r t=>exact⟨_,_,.inl p.isList,r,t⟩
  .obtain⟨its,rv,p,_⟩:=I.tuple hq;cases rv with
   |cons r t=>exact⟨_,_,.inr p,r,t⟩
 refine aeo (wpAny_holding (Xh (I.ok.hd hc) hlw (by rw[<-rvs.length];exact hz) λh₂ tk hk=>?_));have I2:L2.Inv X pins σ H { s with heap:=h₂,toks:=tk }:=I.kept (t':=tk) hk;have I3:=I2.lnew (t':=tk) rvs (KC (by omega));refine assignInOrder_cons (wpAny_assign_Name (store_ok I3 hN hx.1 hx.2.1 rv0 (λs4 I4=>?_) hx.2.2));refine assignInOrder_cons (wpAny_assign_Name (store_ok I4 hN hy.1 hy.2.1 (v:=.ref h₂.objs.size) rfl (λs5 I5=>assignInOrder_nil ?_) hy.2.2));exact⟨_,_,I5,q _ I2.fresh⟩
section
variable{X:Cx}{aj:aC}{W:WX}{q:Bool}{e:Expr}{pos:Pos}
def Hr(i j:Nat)(f:GF):SF:=λM Z=>(f M Z).then Z λd M'=>match d with
 |.list (d0::ds)=>if ds.length<=16000 then .next ((Z.set i (some (.dat d0))).set j (some (.dat (.list ds)))) M' else .bad
 |.tuple (d0::ds)=>if ds.length<=16000 then .next ((Z.set i (some (.dat d0))).set j (some (.dat (.list ds)))) M' else .bad
 |_=>.bad
theorem Qa{i j k:Nat}{x y:Str}{px py ps tp:Pos}{f:GF}(hc:X.calm=true)(hN:X.N.Nodup)(hx:wY X i x)(hy:wY X j y)(he:GE aj X W q e f)(hs:swapsWithSole [.Tuple [.Name x px,.Starred (.Name y py) ps] k tp] e pos.line X.env=pure false)(hw:swappedStores [.Tuple [.Name x px,.Starred (.Name y py) ps] k tp] e X.env=pure none) :
  SE aj X W q (.Assign [.Tuple [.Name x px,.Starred (.Name y py) ps] k tp] e pos) (Hr i j f):=by
 refine PS.weak (ps_asg he (Pg hc hN hx hy) hs hw (by with_unfolding_all rfl)) λD σ H ⟨g,Z,M,I,z⟩=>?_;refine tE.go I (aZ (σ:=σ) z) λd M' v H' g' kk r I' rv=>?_;have fin:∀{a:Addr} {v0:V} {us:List V} {d0:Dat} {ds:List Dat},v=.ref a->(SqL X.K H' a (v0::us)\/SqT X.K H' a (v0::us))->Rep X.K g' H' v0 d0->au X.K g' H' us ds->(if ds.length<=16000 then fX.next ((Z.set i (some (.dat d0))).set j (some (.dat (.list ds)))) M' else .bad).sat (sN X.K aj q D.nx g H) (sR X.K aj q D.rt g H) (sN X.K aj q D.bk g H) (sN X.K aj q D.ct g H) (sX X.K aj W q g H)->Ov X.K i j v σ H' D.nx:=λ{a v0 us d0 ds} ev hq r0 rs kk=>by
  split at kk
  .next hz=>
   refine⟨a,v0,us,ev,hq,by rw[rs.length];exact hz,λp np=>?_⟩;have e1:=Ex.new (o:=.lst us) np;have I2:=I'.ex e1;refine kk _ _ g' (r.trans (Gr.ex e1)) ((I2.set (r0.ex e1 I'.kd)).set (.lst (.inl ⟨aeu,I'.kd.fresh np⟩) (rs.ex e1 I'.kd)))
  .exact ael kk
 split at kk
 .obtain⟨a,us,ev,s1,t1⟩:=cD rv.weak;cases t1 with
  |cons r0 rs=>exact fin ev (.inl s1) r0 rs kk
 .obtain⟨a,us,ev,s1,t1⟩:=dD rv.weak;cases t1 with
  |cons r0 rs=>exact fin ev (.inr s1) r0 rs kk
 .exact ael kk
def G4(i j:Nat)(f:GF):SF:=λM Z=>(f M Z).then Z λd M'=>.next ((Z.set i (some (.dat d))).set j (some (.dat d))) M'
theorem RG{i j:Nat}{x y:Str}{px py:Pos}{f:GF}(hN:X.N.Nodup)(hx:wY X i x)(hy:wY X j y)(he:GE aj X W q e f)(hw:swappedStores [.Name x px,.Name y py] e X.env=pure none):SE aj X W q (.Assign [.Name x px,.Name y py] e pos) (G4 i j f):=by refine PS.weak (ps_asg2 he (pg_name hN hx.1 hx.2.1 hx.2.2) (pg_name hN hy.1 hy.2.1 hy.2.2) (by with_unfolding_all rfl) hw) λD σ H ⟨g,Z,M,I,z⟩=>?_;exact tE.go I (aZ (σ:=σ) z) λd M' v H' g' kk r I' rv=>kk _ H' g' r ((I'.set rv).set rv)
theorem vH{pins:List (Addr×Obj)}{H:Hp}{Q:Unit->Shared->Prop}(hN:X.N.Nodup):∀{xs:List Str} {js:List Nat} {vs:List V} {us:List Value} {σ:L2.St} {s:Shared},xs.length=js.length->Vals vs us->us.length=js.length->(∀(n:Nat) (x:Str) (j:Nat),xs[n]?=some x->js[n]?=some j->X.N[j]?=some x/\X.env.scope.names.lookup x=some .local)->L2.Inv X pins σ H s->
  (∀s',L2.Inv X pins (sets σ js vs) H s'->Q () s')->wpAny (model X.prog X.w) X.A (assignInOrder (xs.map λn=>bindName X.env n) us) Q X.xe s
 |[],[],_,[],σ,s,_,.nil,_,_,I,h=>assignInOrder_nil (h s I)
 |[],[],_,_::_,_,_,_,_,e,_,_,_=>nomatch e
 |[],_::_,_,_,_,_,e,_,_,_,_,_=>nomatch e
 |_::_,[],_,_,_,_,e,_,_,_,_,_=>nomatch e
 |x::xs,j::js,_,[],_,_,_,.nil,e,_,_,_=>nomatch e
 |x::xs,j::js,_,_::_,σ,s,e1,.cons r t,e2,hn,I,h=>by
  obtain⟨h1,h2⟩:=hn 0 x j rfl rfl;refine assignInOrder_cons (wpAny_bindName (store_ok I hN h1 (.inl h2) r (λs2 I2=>?_) (.inr h2)));exact vH hN (adT e1) t (adT e2) (λn x j a b=>hn (n+1) x j a b) I2 h
theorem Dt(σ:L2.St):∀(js:List Nat) (vs:List V) (ks:List Nat) (ws:List V),js.length=vs.length->sets σ (js++ks) (vs++ws)=sets (sets σ js vs) ks ws:=by
 intro js
 induction js generalizing σ with
 |nil=>
  intro vs ks ws e;cases vs with
  |nil=>rfl
  |cons v vs=>cases e
 |cons j js ih=>
  intro vs ks ws e;cases vs with
  |nil=>cases e
  |cons v vs=>exact ih (σ.set j (some v)) vs ks ws (adT e)
theorem yX(j:Nat)(v:V):∀(js:List Nat) (vs:List V) (σ:L2.St),j∉js->(sets σ js vs).set j (some v)=sets (σ.set j (some v)) js vs
 |[],_,_,_=>by unfold sets;rfl
 |_::_,[],_,_=>by unfold sets;rfl
 |k::js,w::vs,σ,h=>by
  show(sets (σ.set k (some w)) js vs).set j (some v)=sets ((σ.set j (some v)).set k (some w)) js vs
  rw[yX j v js vs _ λz=>h (adf _ z),List.set_comm _ _ (λz=>h (by rw[z];exact adg))]
theorem Dd:∀(js:List Nat) (vs:List V) (σ:L2.St),js.Nodup->js.length=vs.length->sets σ js.reverse vs.reverse=sets σ js vs
 |[],[],_,_,_=>rfl
 |[],_::_,_,_,e=>nomatch e
 |_::_,[],_,_,e=>nomatch e
 |j::js,v::vs,σ,nd,e=>by
  rw[aeg]at nd;rw[ad3,ad3,Dt _ _ _ _ _ (by rw[adP,adP];exact adT e),Dd js vs σ nd.2 (adT e)]
  show(sets σ js vs).set j (some v)=sets (σ.set j (some v)) js vs
  exact yX j v js vs σ nd.1
theorem vals_rev{vs:List V}{us:List Value}(r:Vals vs us):Vals vs.reverse us.reverse:=by
 induction r with
 |nil=>exact .nil
 |cons h t ih=>
  rw[ad3,ad3];exact Vals.append ih (.cons h .nil)
def tPN(js:List Nat)(ta:TA):TS:=λD σ H=>ta σ H λvs H1=>vs.length=js.length/\D.nx (sets σ js vs) H1
theorem Xp{ts es:List Expr}{xs:List Str}{js:List Nat}{ta:TA}{kt k2:Nat}{pt p2:Pos}(hc:X.calm=true)(hN:X.N.Nodup)(hnd:js.Nodup)(hl:xs.length=js.length)(h3:js.length<=3)(hn:∀(n:Nat) (x:Str) (j:Nat),xs[n]?=some x->js[n]?=some j->X.N[j]?=some x/\X.env.scope.names.lookup x=some .local)(ha:PA X es ta)
  (hw:swappedStores [.Tuple ts kt pt] (.Tuple es k2 p2) X.env=pure (some xs)) (hs:swapsWithSole [.Tuple ts kt pt] (.Tuple es k2 p2) pos.line X.env=pure false):PS X (.Assign [.Tuple ts kt pt] (.Tuple es k2 p2) pos) (tPN js ta):=by
 refine⟨λpins s σ H D I h=>?_⟩;rw[exec_Assign_arm];refine aeo (wpAny_standAt ?_);rw[hs];refine aeo (aep ?_);rw[aes (by decide)];refine aeo (Tuple_ (thn (ha.run _ pins s σ H _ I h) λus s1 ⟨vs,H1,I1,r1,e1,q1⟩=>?_));have hu:us.length=js.length:=by rw[<-r1.length];exact e1
 refine wpAny_newObj_type ?_ (aed (by simp;omega) (show 3<=sizeLine by decide));have I2:L2.Inv X pins σ H1 { s1 with heap:=s1.heap.push { cls:=.type "tuple",data:=.seq us.toArray } }:=I1.kept (t':=s1.toks) λb o z=>Heap.get?_push_of_some _ z
 rw[hw];refine aeo (aep ?_);show wpAny (model X.prog X.w) X.A (do rule "assign.swapped-stores";let items <-unpackItems (.ref s1.heap.objs.size) xs.length none;assignInOrder (xs.reverse.map λn=>bindName X.env n) items.reverse;pure Flow.next) _ _ _
 have hz:us.toArray.size=xs.length:=by rw[aeb,hu,hl]
 have hup:=λ{Q:List Value->Shared->Prop} hQ=>unpackItems_tuple (prog:=X.prog) (w:=X.w) (A:=X.A) (E:=X.xe) (s:={ s1 with heap:=s1.heap.push { cls:=.type "tuple",data:=.seq us.toArray } }) (items:=us.toArray) (Q:=Q) (I.ok.hd hc) (IsTup.new s1.heap _) hQ
 rw[hz]at hup;refine aeo (wpAny_rule (aeo (hup λh' hx'=>?_)));have I3:=I2.kept (h':=h') (t':=s1.toks) λb o z=>hx' b o (adC (Heap.lt_size z)) z;refine aeo (vH hN (js:=js.reverse) (vs:=vs.reverse) (by rw[adP,adP];exact hl) (vals_rev r1) (by rw[adP,adP];exact hu) (λn x j a b=>?_) I3 λs4 I4=>aep ?_)
 .have n1:=(adb.mp a).1;have n2:=(adb.mp b).1;rw[adP]at n1 n2;rw[List.getElem?_reverse n1]at a;rw[List.getElem?_reverse n2,<-hl]at b;exact hn _ x j a b
 .rw[Dd js vs σ hnd e1.symm]at I4;exact⟨_,H1,I4,q1⟩
def Oc(js:List Nat)(as:QA):SF:=λM Z=>((as M Z).at M).then Z λds M'=>match fU js ds Z with
 |some Z'=>.next Z' M'
 |none=>.bad
theorem Xy{ts es:List Expr}{xs:List Str}{js:List Nat}{as:QA}{kt k2:Nat}{pt p2:Pos}(hc:X.calm=true)(hN:X.N.Nodup)(hnd:js.Nodup)(hl:xs.length=js.length)(h3:js.length<=3)(hn:∀(n:Nat) (x:Str) (j:Nat),xs[n]?=some x->js[n]?=some j->X.N[j]?=some x/\X.env.scope.names.lookup x=some .local)(ha:mZ aj X W es as)
  (hw:swappedStores [.Tuple ts kt pt] (.Tuple es k2 p2) X.env=pure (some xs)) (hs:swapsWithSole [.Tuple ts kt pt] (.Tuple es k2 p2) pos.line X.env=pure false):SE aj X W q (.Assign [.Tuple ts kt pt] (.Tuple es k2 p2) pos) (Oc js as):=by
 refine PS.weak (Xp hc hN hnd hl h3 hn ha hw hs) λD σ H ⟨g,Z,M,I,z⟩=>?_;refine⟨g,Z,M,I,?_⟩;unfold Oc at z;cases hf:as M Z with
 |exc x=>rw[hf]at z;exact λH' c dd e r=>z σ H' g c dd (Gr.ex e) (I.ex e) r.fr
 |bad=>rw[hf]at z;exact ael z
 |ok ds=>
  rw[hf]at z;intro vs H' e r;have z:(match fU js ds Z with
   |some Z'=>fX.next Z' M
   |none=>.bad).sat (sN X.K aj q D.nx g H) (sR X.K aj q D.rt g H) (sN X.K aj q D.bk g H) (sN X.K aj q D.ct g H) (sX X.K aj W q g H):=z
  split at z
  .next Z' e'=>
   obtain⟨l1,I1⟩:=pA (I.ex e) r e';exact⟨l1,z _ H' g (Gr.ex e) I1⟩
  .exact ael z
theorem Vk{j:Nat}{y:Str}{py:Pos}{elt tg iter:Expr}{cpos:Pos}{scope:Scope}{own:List (Str×Nat)}{it:IF}{tgf:bR}{js:List Nat}{tt:QT}{te:QF}{ifs:List Expr}(hc:X.calm=true)(hN:X.N.Nodup)(hy:X.N[j]?=some y)(hyl:X.env.scope.names.lookup y=some .local)
  (hsw:swapsWith (.ListComp elt [⟨tg,iter,ifs,0⟩] scope cpos) (some (.Name y py)) pos.line X.env=pure true) (hi:QI aj X W false tg iter it) (ok:blkC X.N X.env.scope scope own=true) (hj:∀j∈js,j∈own.map (·.2))
  (hg:∀(s:Shared) (H:Hp) (C:Addr) (cl:List (Str×Addr)) (fp:List Addr),QG aj (X.blk s H scope (compEnvC scope cl C X.env) fp) tg js tgf)
  (ht:∀(s:Shared) (H:Hp) (C:Addr) (cl:List (Str×Addr)) (fp:List Addr),PTs (X.blk s H scope (compEnvC scope cl C X.env) fp) ifs (cW X.K aj WF tt))
  (he:∀(s:Shared) (H:Hp) (C:Addr) (cl:List (Str×Addr)) (fp:List Addr),QE aj (X.blk s H scope (compEnvC scope cl C X.env) fp) WF elt te) (hs:∀x,foldedSetIterable iter X.env x=pure x) :
  SE aj X W q (.Assign [.Name y py] (.ListComp elt [⟨tg,iter,ifs,0⟩] scope cpos) pos) (aV (aG j) (gOf (d7 it tgf (own.map (·.2)) tt te))):=by
 refine PS.weak (ps_setLc (g:=jY X.K aj js tgf) (tt:=cW X.K aj WF tt) (te:=tQ X.K aj WF te) hc hN hy hyl hsw hi (blkOk_by ok) (λs H C cl fp=>hg s H C cl fp) ht (λs H C cl fp=>he s H C cl fp) hs) λD σ H ⟨g,Z,M,I,z⟩=>?_;refine O9 hj σ H _ ⟨g,Z,M,I,(Out.bM (aZ (σ:=σ) z)).mono (λd kk v H' e r=>?_) λx kk H' c dd e r=>kk H' g c dd (Gr.ex e) (I.ex e) r⟩;exact kk _ H' g (Gr.ex e) ((I.ex e).set r)
end
inductive GV where
 |con (d:Dat)
 |fq (n:Nat) (m:Mo->List Dat->Out Dat)
 |fg (n:Nat) (m:Mo->List Dat->aN Dat)
 |dic (kvs:List (Str×Dat))
 |exc
 |exi (fs:List Str)
 |cls (n:Nat) (m:Mo->List Dat->aN Dat)
def GV.soft:GV->Bool
 |.con _=>false
 |.dic _=>false
 |.exc=>false
 |_=>true
inductive MV where
 |q (n:Nat) (m:Mo->List Dat->Out Dat)
 |g (n:Nat) (m:Mo->List Dat->aN Dat)
def FQ(P:Program)(w:World)(K:ac8)(mg:Str->Option Value)(base:Heap)(aj:aC)(k:Nat)(f:Addr)(n:Nat)(m:Mo->List Dat->Out Dat):Prop:=
 ∃(fd:FuncData) (ps:List Str) (j:Nat),j<=k/\ps.length=n/\Binds K fd ps []/\FnOk P w K mg base (L2.CX P w) j f fd ps (yL K aj ps.length m)
def FG(P:Program)(w:World)(K:ac8)(mg:Str->Option Value)(base:Heap)(aj:aC)(k:Nat)(f:Addr)(n:Nat)(m:Mo->List Dat->aN Dat):Prop:=
 ∃(fd:FuncData) (ps:List Str) (j:Nat),j<=k/\ps.length=n/\Binds K fd ps []/\FnOk P w K mg base (L2.CX P w) j f fd ps (qd K aj ps.length m)
def cJ(K:ac8)(aj:aC):Prop:=∀c C f,aj c=some C->f∈aj.fl c->Cls K C/\NoAttr K C f
def iH(P:Program)(w:World)(K:ac8)(mg:Str->Option Value)(base:Heap)(aj:aC)(k:Nat)(c m:Str)(v:MV):Prop:=
 ∃C f,aj c=some C/\Cls K C/\Meth K C m f/\m∉aj.fl c/\match v with
  |.q n mm=>FQ P w K mg base aj k f n mm
  |.g n mm=>FG P w K mg base aj k f n mm
def ZQ(C:Addr)(fs:List Str):Sp:=λvs H Q _=>∃(a:Addr) (xs:List V),vs=.ref a::xs/\xs.length=fs.length/\H a=some (exo a C none)/\
 ∀(dx:Addr) (H':Hp),H dx=none->(∀b o,b≠a->H b=some o->H' b=some o)->(∀b,H' b=none->H b=none)->H' a=some (exo a C (some dx))->H' dx=some (exd dx (fs.zip xs).reverse)->Q .non H'
def Mh(w:World)(K:ac8)(a:Addr)(kvs:List (Str×Dat)):Prop:=∃(es:Array DictEntry) (n:Nat),KDict K w a es n/\(kvs.map (·.1)).Nodup/\
 ∀x:Str,match kvs.lookup x with
  |some d=>∃v u,PySem.W.nsIn K a x=some (some u)/\RelV v u/\∀g H,Rep K g H v d
  |none=>PySem.W.nsIn K a x=some none
def bW(P:Program)(w:World)(K:ac8)(mg:Str->Option Value)(base:Heap)(aj:aC)(k:Nat)(x:Str):GV->Prop
 |.con d=>∃v u,mg x=some u/\RelV v u/\(∀g H,Rep K g H v d)/\∀a ds,v=.ref a->d=.tuple ds->∃o,K.lookup a=some o/\o.cls=.type "tuple"/\o.dict=none
 |.fq n m=>∃f,mg x=some (.ref f)/\PySem.W.keepIn K (.ref f)=true/\FQ P w K mg base aj k f n m
 |.fg n m=>∃f,mg x=some (.ref f)/\PySem.W.keepIn K (.ref f)=true/\FG P w K mg base aj k f n m
 |.dic kvs=>∃a,mg x=some (.ref a)/\Mh w K a kvs
 |.exc=>∃C,mg x=some (.ref C)/\aj x=some C/\PySem.W.excIn K C He.veBase "ValueError.__new__"=true/\PySem.W.keepIn K (.ref C)=true/\PySem.W.subIn K (.ref C) (.type "BaseException")=some true/\PySem.W.typeIn K (.ref C)=some (.type "type")
 |.exi fs=>∃(C fI:Addr) (fd:FuncData) (ps:List Str),mg x=some (.ref C)/\aj x=some C/\OexC K C/\PySem.W.findIn K (.ref C) "__init__"=some (some (.ref fI))/\PySem.W.typeIn K (.ref fI)=some (.type "function")/\2<=k/\ps.length=fs.length+1/\Binds K fd ps []/\FnOk P w K mg base CX0 1 fI fd ps (ZQ C fs)
 |.cls n m=>∃(C f:Addr) (fd:FuncData) (ps:List Str) (j:Nat),mg x=some (.ref C)/\aj x=some C/\Cls K C/\Mk K C f/\j+1<=k/\ps.length=n+1/\Binds K fd ps []/\FnOk P w K mg base (L2.CX P w) j f fd ps (qd K aj ps.length m)
def Hu(K:ac8)(aj:aC)(y:Str)(tk:Str->Option Bool):Prop:=∀x b C,tk x=some b->aj x=some C->∀D,aj y=some D->PySem.W.exmOne K (.ref C) (.ref D)=some b
def putL(f:Str)(x:bV):List (Str×bV)->List (Str×bV)
 |[]=>[(f,x)]
 |(g,y)::r=>if g=f then(g,x)::r else(g,y)::putL f x r
def Inst.put(i:Inst)(f:Str)(x:bV):Inst:=⟨i.cls,putL f x i.fs⟩
theorem oW(f:Str)(x:bV):∀gs:List (Str×bV),(putL f x gs).map (·.1)=if f∈gs.map (·.1) then gs.map (·.1) else gs.map (·.1)++[f]
 |[]=>by simp[putL]
 |(g,y)::r=>by
  have ih:=oW f x r;rw[putL];by_cases e:g=f
  .subst e;simp
  .rw[aes e,ada,ih];by_cases h:f∈r.map (·.1)
   .rw[aer h,aer (by simp[h])];rfl
   .rw[aes h,aes (by
     rw[ada,adt]
     rintro(z|z)
     .exact e z.symm
     .exact h z)]
    rfl
theorem Hg{f:Str}{x:bV}{gs:List (Str×bV)}(h:(gs.map (·.1)).Nodup):((putL f x gs).map (·.1)).Nodup:=by
 rw[oW];split
 .exact h
 .next n=>
  rw[List.nodup_append];refine⟨h,by simp,λa ha b hb e=>?_⟩;subst e;rw[adu]at hb;subst hb;exact n ha
theorem qQ{f:Str}{v:V}:∀{fs:List (Str×V)},fs.lookup f=some v->putF f v fs=fs
 |[],h=>nomatch h
 |(g,y)::r,h=>by
  rw[adE]at h;rw[show putF f v ((g,y)::r)=(if g=f then(g,v)::r else(g,y)::putF f v r) from rfl];by_cases e:g=f
  .subst e;simp at h;rw[aer rfl,h]
  .have ne:(f==g)=false:=by simpa using λz=>e z.symm
   rw[ne]at h;rw[aes e,qQ h]
section
variable{K:ac8}{aj:aC}{W:WX}{g g':Gh}{H H':Hp}{σ:L2.St}{Z:Env}{M:Mo}{h:Nat}{f:Str}{v:V}{fl:bV}
theorem aP.put(hk:∀f' v' fl',f'≠f->bh K aj g H h f' v' fl'->bh K aj g' H' h f' v' fl')(new:bh K aj g' H' h f v fl):∀{fs:List (Str×V)} {gs:List (Str×bV)},aP K aj g H h fs gs->(gs.map (·.1)).Nodup->aP K aj g' H' h (putF f v fs) (putL f fl gs)
 |_,_,.nil,_=>.cons new .nil
 |_,_,.cons (f:=f') (v:=v') (fl:=fl') (fs:=fs) (gs:=gs) z t,nd=>by
  rw[show putF f v ((f',v')::fs)=(if f'=f then(f',v)::fs else(f',v')::putF f v fs) from rfl,putL];rw[ada,aeg]at nd;by_cases e:f'=f
  .subst e;rw[aer rfl,aer rfl];refine .cons new ?_;have go:∀{fs:List (Str×V)} {gs:List (Str×bV)},aP K aj g H h fs gs->f'∉gs.map (·.1)->aP K aj g' H' h fs gs:=λ{fs gs} t=>by
    induction t with
    |nil=>exact λ_=>.nil
    |cons z _ ih=>
     intro n;rw[ada,adt,not_or]at n;exact .cons (hk _ _ _ (λq=>n.1 q.symm) z) (ih n.2)
   exact go t nd.1
  .rw[aes e,aes e];exact .cons (hk _ _ _ e z) (aP.put hk new t nd.2)
structure Dz(M:Mo)(g g':Gh)(H H':Hp)(h:Nat)(f:Str):Prop where
 gc:Gc g g' H H'
 kd:Kd g' H'
 tbl:g'.tbl=g.tbl
 ow:∀a p,g.ow a=some p->g'.ow a=some p
 oth:∀a p,g.ow a=some p->p≠(h,f)->H' a=H a
 ins:∀(k:Nat) (a:Addr) (i:Inst),g.tbl[k]?=some a->M[k]?=some i->i.cls≠""->k≠h->H' a=H a
 nt:∀(k:Nat) (a:Addr) (i:Inst),g.tbl[k]?=some a->M[k]?=some i->i.cls≠""->∀p,g'.ow a≠some p
theorem bT.chg{l:Addr}(r:Gr false g g' H H')(k:Kd g H)(e:H' l=H l):∀{n:Bool} {kvs:List (Dat×Dat)},bT K aj g H l n kvs->bT K aj g' H' l n kvs
 |false,_,⟨kv,h1,h2,h3⟩=>⟨kv,e.trans h1,h2,h3.gr r k⟩
 |true,_,⟨o,xs,vs,h1,h2,h3,h4,h5,h6⟩=>⟨o,xs,vs,e.trans h1,h2,h3,h4.gr r k,h5,h6.gr r k⟩
theorem bh.chg(c:Dz M g g' H H' h f)(k:Kd g H){h':Nat}{f':Str}{v':V}(ne:(h',f')≠(h,f)):∀{fl':bV},bh K aj g H h' f' v' fl'->bh K aj g' H' h' f' v' fl'
 |.dat _,z=>Rep.gr c.gc.gr k z
 |.lst _ _,⟨l,us,h1,h2,h3,h4,h5⟩=>⟨l,us,h1,(c.oth l _ h3 ne).trans h2,c.ow l _ h3,h4.gr c.gc.gr k,c.gc.gr.tb h5⟩
 |.dic _ _,⟨l,h1,h2,h3⟩=>⟨l,h1,c.ow l _ h2,h3.chg c.gc.gr k (c.oth l _ h2 ne)⟩
theorem bK.chg(w:bK K aj g H M)(k:Kd g H)(c:Dz M g g' H H' h f){a:Addr}{i:Inst}(ha:g.tbl[h]?=some a)(hi:M[h]?=some i)(hne:i.cls≠"")(hf:f∈aj.fl i.cls){C dx:Addr}{fs:List (Str×V)}(hC:aj i.cls=some C)(R:aP K aj g H h fs i.fs)
  (e':H' a=some (.ins C dx (putF f v fs))) (new:bh K aj g' H' h f v fl):bK K aj g' H' (M.set h (i.put f fl)) where
 len:=by rw[c.tbl,adw];exact w.len
 inj:=by rw[c.tbl];exact w.inj
 ins:=λh' a' i' ha' hi' hc'=>by
  rw[c.tbl]at ha';by_cases z:h'=h
  .subst z;rw[ha]at ha';cases ha';rw[adk (adb.mp hi).1]at hi';cases hi';exact⟨C,dx,_,hC,e',R.put (λf' v' fl' ne z=>z.chg c k λq=>ne (congrArg Prod.snd q)) new (w.nd _ i hi)⟩
  .rw[ade (Ne.symm z)]at hi';obtain⟨C',dx',fs',c1,c2,c3⟩:=w.ins h' a' i' ha' hi' hc';refine⟨C',dx',fs',c1,(c.ins h' a' i' ha' hi' hc' z).trans c2,?_⟩;have go:∀{fs:List (Str×V)} {gs:List (Str×bV)},aP K aj g H h' fs gs->aP K aj g' H' h' fs gs:=λ{fs gs} t=>by
    induction t with
    |nil=>exact .nil
    |cons y _ ih=>exact .cons (y.chg c k λq=>z (congrArg Prod.fst q)) ih
   exact go c3
 nd:=λh' i' hi'=>by
  by_cases z:h'=h
  .subst z;rw[adk (adb.mp hi).1]at hi';cases hi';exact Hg (w.nd _ i hi)
  .rw[ade (Ne.symm z)]at hi';exact w.nd h' i' hi'
 fd:=λh' i' hi' f' hf'=>by
  by_cases z:h'=h
  .subst z;rw[adk (adb.mp hi).1]at hi';cases hi';have hf':f'∈(putL f fl i.fs).map (·.1):=hf';rw[oW]at hf';split at hf'
   .exact w.fd _ i hi f' hf'
   .rcases adM.mp hf' with y|y
    .exact w.fd _ i hi f' y
    .rw[adu]at y;rw[y];exact hf
  .rw[ade (Ne.symm z)]at hi';exact w.fd h' i' hi' f' hf'
 tw:=λk' a' i' ha' hi' hc'=>by
  rw[c.tbl]at ha';have:∃i0,M[k']?=some i0/\i0.cls≠"":=by
   by_cases z:k'=h
   .subst z;exact⟨i,hi,hne⟩
   .rw[ade (Ne.symm z)]at hi';exact⟨i',hi',hc'⟩
  obtain⟨i0,m1,m2⟩:=this;cases hz:g'.ow a' with
  |none=>rfl
  |some p=>exact absurd hz (c.nt k' a' i0 ha' m1 m2 p)
 dm:=λh' i' hi' hc'=>by
  by_cases z:h'=h
  .subst z;rw[adk (adb.mp hi).1]at hi';cases hi';exact absurd hc' hne
  .rw[ade (Ne.symm z)]at hi';exact w.dm h' i' hi' hc'
 nc:=w.nc
theorem Xv{a:Addr}(ha:g.tbl[h]?=some a):g.W a:=.inl (adB ha)
theorem yg(k:Kd g H)(w:bK K aj g H M){a:Addr}{i:Inst}(ha:g.tbl[h]?=some a)(hi:M[h]?=some i)(hc:i.cls≠""){C dx:Addr}{fs':List (Str×V)}:Dz M g g H (upd H a (.ins C dx fs')) h f where
 gc:=⟨λb o hb n=>by rw[upd_ne (λz=>by subst z;exact n (Xv ha))];exact hb,λb hb=>by
  by_cases z:b=a
  .subst z;rw[aeu]at hb;cases hb
  .rw[upd_ne z]at hb;exact hb,⟨[],by simp⟩,λ_ z=>z,λ_ z=>.inl z,rfl,rfl,rfl⟩
 kd:=k.upd aek
 tbl:=rfl
 ow:=λ_ _ z=>z
 oth:=λb p hb _=>upd_ne λz=>by
  subst z;rw[w.tw h _ i ha hi hc]at hb;cases hb
 ins:=λj b i' hb _ _ ne=>upd_ne λz=>by
  subst z;exact ne (w.inj _ _ _ hb ha)
 nt:=λj b i' hb hj hcj p z=>by
  rw[w.tw j b i' hb hj hcj]at z;cases z
def Gh.own(g:Gh)(l:Addr)(h:Nat)(f:Str):Gh:={ g with ow:=λb=>if b=l then some (h,f) else g.ow b }
theorem W8{l a:Addr}(hl:l∈g.tbl):(g.own l h f).W a↔g.W a:=by
 constructor
 .rintro(z|z)
  .exact .inl z
  .by_cases y:a=l
   .subst y;exact .inl hl
   .have z:(if a=l then some (h,f) else g.ow a)≠none:=z;rw[aes y]at z;exact .inr z
 .rintro(z|z)
  .exact .inl z
  .refine .inr ?_
   show(if a=l then some (h,f) else g.ow a)≠none
   split
   .exact λq=>nomatch q
   .exact z
theorem xO(k:Kd g H)(w:bK K aj g H M){a l:Addr}{n:Nat}{i:Inst}(ha:g.tbl[h]?=some a)(hi:M[h]?=some i)(hc:i.cls≠"")(hl:g.tbl[n]?=some l)(hn:M[n]?=some ⟨"",[]⟩)(nl:g.ow l=none){C dx:Addr}{fs':List (Str×V)}:Dz M g (g.own l h f) H (upd H a (.ins C dx fs')) h f:=by
 have W':∀{b:Addr},(g.own l h f).W b↔g.W b:=λ{b}=>W8 (adB hl);have d:=yg (f:=f) (C:=C) (dx:=dx) (fs':=fs') k w ha hi hc;refine⟨⟨d.gc.keep,d.gc.dom,⟨[],by simp[Gh.own]⟩,λb z=>W'.mpr z,λb z=>.inl (W'.mp z),rfl,rfl,rfl⟩,⟨λb z=>d.kd.ob b ?_,λb z y=>d.kd.lo b z (W'.mp y),λb z=>⟨λy=>(d.kd.lc b z).1 (W'.mp y),(d.kd.lc b z).2⟩⟩,rfl,λb p z=>?_,d.oth,d.ins,λj b i' hb hj hcj p z=>?_⟩
 .rcases z with z|z|z
  .exact .inl (W'.mp z)
  .exact .inr (.inl z)
  .exact .inr (.inr z)
 .show(if b=l then some (h,f) else g.ow b)=some p
  rw[aes (λy=>by subst y;rw[nl]at z;cases z)];exact z
 .have z:(if b=l then some (h,f) else g.ow b)=some p:=z;by_cases y:b=l
  .subst y;cases w.inj _ _ _ hb hl;rw[hn]at hj;cases hj;exact hcj rfl
  .rw[aes y,w.tw j b i' hb hj hcj]at z;cases z
theorem Ku(k:Kd g H)(w:bK K aj g H M){l:Addr}{o':HO}(ho:g.ow l=some (h,f))(mo:pW o'):Dz M g g H (upd H l o') h f where
 gc:=⟨λb u hb n=>by rw[upd_ne (λz=>by subst z;exact n (.inr (by rw[ho];exact λy=>nomatch y)))];exact hb,λb hb=>by
  by_cases z:b=l
  .subst z;rw[aeu]at hb;cases hb
  .rw[upd_ne z]at hb;exact hb,⟨[],by simp⟩,λ_ z=>z,λ_ z=>.inl z,rfl,rfl,rfl⟩
 kd:=k.upd mo
 tbl:=rfl
 ow:=λ_ _ z=>z
 oth:=λb p hb ne=>upd_ne λz=>by
  subst z;rw[ho]at hb;exact ne (adA hb).symm
 ins:=λj b i' hb hj hcj ne=>upd_ne λz=>by
  subst z;rw[w.tw j _ i' hb hj hcj]at ho;cases ho
 nt:=λj b i' hb hj hcj p z=>by
  rw[w.tw j b i' hb hj hcj]at z;cases z
theorem aP.len{fs:List (Str×V)}{gs:List (Str×bV)}(t:aP K aj g H h fs gs):fs.length=gs.length:=by
 induction t with
 |nil=>rfl
 |cons _ _ ih=>simp[ih]
end
def qK(M:Mo)(f:Str):Dat->Option bV
 |.dict [(.none,.int (.ofNat h))]=>(M[h]?).bind λi=>i.fs.lookup f
 |_=>none
def KQ(f:Str)(o:QF):QF:=λM Z=>(o M Z).bind λd=>match qK M f d with
 |some (.dat x)=>.ok x
 |_=>.bad
def Ht(f:Str)(o:QF):QF:=λM Z=>(o M Z).bind λd=>match qK M f d with
 |some (.dat x)=>.ok x
 |some (.lst _ xs)=>.ok (.list xs)
 |_=>.bad
theorem Ko{M:Mo}{f:Str}{d:Dat}{fl:bV}(h:qK M f d=some fl):∃n i,d=obj n/\M[n]?=some i/\i.fs.lookup f=some fl:=by
 unfold qK at h;split at h
 .next n=>
  obtain⟨i,h1,h2⟩:=ac7.mp h;exact⟨n,i,rfl,h1,h2⟩
 .cases h
theorem lookup_mem{f:Str}{fl:bV}:∀{gs:List (Str×bV)},gs.lookup f=some fl->f∈gs.map (·.1)
 |[],h=>nomatch h
 |(g,y)::r,h=>by
  rw[adE]at h;cases hb:f==g with
  |true=>rw[aev hb];simp
  |false=>
   rw[hb]at h;exact adf _ (lookup_mem h)
section
variable{K:ac8}{aj:aC}{g:Gh}{H:Hp}{M:Mo}
theorem Cy(co:cJ K aj)(w:bK K aj g H M){f:Str}{d:Dat}{fl:bV}{v:V}(h:qK M f d=some fl)(r:bB K g H v d):∃n i a C dx fs u,d=obj n/\M[n]?=some i/\i.fs.lookup f=some fl/\g.tbl[n]?=some a/\v=.ref a/\aj i.cls=some C/\H a=some (.ins C dx fs)/\aP K aj g H n fs i.fs/\Cls K C/\NoAttr K C f/\fs.lookup f=some u/\bh K aj g H n f u fl:=by
 obtain⟨n,i,rfl,h1,h2⟩:=Ko h;obtain⟨a,rfl,ha⟩:=qL r;have hc:i.cls≠"":=λz=>by
  rw[w.dm n i h1 z]at h2;cases h2
 obtain⟨C,dx,fs,c1,c2,c3⟩:=w.ins n a i ha h1 hc;obtain⟨u,l1,l2⟩:=c3.get h2;obtain⟨k1,k2⟩:=co i.cls C f c1 (w.fd n i h1 f (lookup_mem h2));exact⟨n,i,a,C,dx,fs,u,rfl,h1,h2,ha,rfl,c1,c2,c3,k1,k2,l1,l2⟩
end
section
variable{X:Cx}{aj:aC}{W:WX}{o e:Expr}{es:List Expr}{fo:QF}{f m:Str}{pos apos:Pos}
theorem V7(co:cJ X.K aj)(ho:QW aj X W o fo)(hb:baseOk o=true):QE aj X W (.Attribute o f pos) (KQ f fo):=
 PE.weak (pe_fld ho (cU hb)) λσ H Q ⟨g,Z,M,I,h⟩=>by
  refine tW.go I h.bnd λd v H1 h1 e1 r1=>?_;split at h1
  .next x hx=>
   obtain⟨n,i,a,C,dx,fs,u,_,_,_,_,rfl,_,c2,_,k1,k2,l1,l2⟩:=Cy co (I.ex e1).wok hx r1;exact⟨a,C,dx,fs,u,rfl,c2,k1,k2,l1,h1 u H1 e1 l2⟩
  .exact ael h1
theorem RX(co:cJ X.K aj)(ho:QW aj X W o fo)(hb:baseOk o=true):QW aj X W (.Attribute o f pos) (Ht f fo):=
 PE.weak (pe_fld ho (cU hb)) λσ H Q ⟨g,Z,M,I,h⟩=>by
  refine tW.go I h.bnd λd v H1 h1 e1 r1=>?_;split at h1
  .next x hx=>
   obtain⟨n,i,a,C,dx,fs,u,_,_,_,_,rfl,_,c2,_,k1,k2,l1,l2⟩:=Cy co (I.ex e1).wok hx r1;exact⟨a,C,dx,fs,u,rfl,c2,k1,k2,l1,h1 u H1 e1 (Rep.weak l2)⟩
  .next xs hx=>
   obtain⟨n,i,a,C,dx,fs,u,_,_,_,_,rfl,_,c2,_,k1,k2,l1,l,us,rfl,s1,s2,s3,_⟩:=Cy co (I.ex e1).wok hx r1;exact⟨a,C,dx,fs,_,rfl,c2,k1,k2,l1,h1 _ H1 e1 ⟨l,us,rfl,sq_of s1,s3⟩⟩
  .exact ael h1
def vm(X:Cx)(W:WX)(m:Str)(ta:TE)(t:TA):TE:=λσ H Q=>ta σ H λx H1=>∃(a C dx:Addr) (fs:List (Str×V)) (f:Addr) (fd:FuncData) (ps:List Str) (sp:Sp) (k:Nat),x=.ref a/\H1 a=some (.ins C dx fs)/\fs.lookup m=none/\Cls X.K C/\Meth X.K C m f/\Room k X.A/\Binds X.K fd ps []/\
 FnOk X.prog X.w X.K X.mg X.base (L2.CX X.prog X.w) k f fd ps sp/\t σ H1 λvs H2=>sp (x::vs) H2 Q (WE W σ)
theorem za{M:Model}{A:Around}{E:Value->Shared->Prop}{s:Shared}{env:PySem.Env}{args:List Expr}{Q:Value->Shared->Prop}(hbase:baseOk o=true)(hs:args.all nst=true)(hz:args.length<30)(hl:(apos.endLine==pos.line)=true)
  (h:wpAny M A (eval o env) (λov s₁=>∀pl:Sem Bool,wpAny M A (getMethod ov m pl) (λfx s₂=>wpAny M A (callWith pos fx.1 fx.2 (backTo pos (starEach args env)) (backToKw pos (keywordEach [] env))) Q E s₂) E s₁) E s) :
  wpAny M A (eval (.Call (.Attribute o m apos) args [] pos) env) Q E s:=by
 have hform:methodCallForm (args.length+([]:List Keyword).length) (backTo pos (starEach args env)) (backToKw pos (keywordEach [] env))=true:=few hs hz;have hpos:methodCallPos true o env apos pos=pure pos:=by unfold methodCallPos;simp[hl]
 rw[arm_eval_Call,cU hbase];refine aeo (wpAny_mono h (λov s₁ h₁=>?_) λ_ _ e=>e);refine aeo (wpAny_standAt ?_);unfold methodCall;rw[hform];refine aeo (wpAny_holding ?_);refine wpAny_mono (h₁ _) (λfx s₂ h₂=>?_) λ_ _ e=>e;exact aeo (wpAny_of_eq hpos h₂)
theorem Ao{ta:TE}{t:TA}(tk:Takes X W)(ho:PE X o ta)(ha:PA X (e::es) t)(hb:baseOk o=true)(hs:(e::es).all nst=true)(hl:(apos.endLine==pos.line)=true)(hz:(e::es).length<30):PE X (.Call (.Attribute o m apos) (e::es) [] pos) (vm X W m ta t):=by have hs':=hs;rw[adF,ac9]at hs';refine⟨λpins s σ H Q I h=>?_⟩;refine za hb hs hz hl (thn (ho.run pins s σ H _ I h) λu s1 ⟨x,G,J,rx,a,C,dx,fs,f,fd,ps,sp,k,ex,ea,l,c,hm,hr,hB,F,q⟩ pl=>?_);subst ex;cases rx;refine getmeth_ok J ea c hm l ?_;refine PySem.W.callWith_K (first:=[.ref a]) (h₀:=X.base) I.ok.mod.kin hm.kp (thn (ha.run pos pins s1 σ G _ J q) λus s2 ⟨vs,G2,J2,r,q2⟩=>⟨J2.kIn,?_⟩) (aU hs'.1 es) (star_any es hs'.2);exact run_fnS (us:=.ref a::us) (vs:=.ref a::vs) F hr hB (passAt tk σ) J2 (.cons rfl r) q2
theorem yw{ta:TE}(tk:Takes X W)(ho:PE X o ta)(hb:baseOk o=true)(hl:(apos.endLine==pos.line)=true):PE X (.Call (.Attribute o m apos) [] [] pos) (vm X W m ta tNil):=by refine⟨λpins s σ H Q I h=>?_⟩;refine za hb rfl (by decide) hl (thn (ho.run pins s σ H _ I h) λu s1 ⟨x,G,J,rx,a,C,dx,fs,f,fd,ps,sp,k,ex,ea,l,c,hm,hr,hB,F,q⟩ pl=>?_);subst ex;cases rx;refine getmeth_ok J ea c hm l ?_;exact PySem.W.callWith_K0 (first:=[.ref a]) J.kIn hm.kp (run_fnS (us:=[.ref a]) (vs:=[.ref a]) F hr hB (passAt tk σ) J (.cons rfl .nil) q)
def mJ(tb:List (Str×MV))(M:Mo):Dat->Option MV
 |.dict [(.none,.int (.ofNat h))]=>(M[h]?).bind λi=>tb.lookup i.cls
 |_=>none
def bZ(tb:List (Str×MV))(o:QF)(as:QA):QF:=λM Z=>(o M Z).bind λd=>match mJ tb M d with
 |some (.q _ m)=>(as M Z).bind λds=>m M (d::ds)
 |_=>.bad
def lF(tb:List (Str×MV))(o:QF)(as:QA):GF:=λM Z=>((o M Z).at M).bind λd _=>match mJ tb M d with
 |some (.q _ m)=>((as M Z).at M).bind λds _=>(m M (d::ds)).at M
 |some (.g _ m)=>((as M Z).at M).bind λds _=>m M (d::ds)
 |none=>.bad
def pF(X:Cx)(aj:aC)(k:Nat)(m:Str)(n:Nat)(tb:List (Str×MV)):Prop:=∀c v,tb.lookup c=some v->iH X.prog X.w X.K X.mg X.base aj k c m v/\match v with
  |.q j _=>j=n
  |.g j _=>j=n
theorem pF.cls{k n:Nat}{tb:List (Str×MV)}(T:pF X aj k m n tb):∀c v,tb.lookup c=some v->aj c≠none:=λc v h z=>by
 obtain⟨⟨C,f,c1,_⟩,_⟩:=T c v h;rw[z]at c1;cases c1
theorem xJ{K:ac8}{g:Gh}{H:Hp}{M:Mo}{tb:List (Str×MV)}{d:Dat}{v:V}{mv:MV}(ht:∀c v,tb.lookup c=some v->aj c≠none)(w:bK K aj g H M)(h:mJ tb M d=some mv)(r:bB K g H v d):∃n i a C dx fs,d=obj n/\M[n]?=some i/\tb.lookup i.cls=some mv/\g.tbl[n]?=some a/\v=.ref a/\aj i.cls=some C/\H a=some (.ins C dx fs)/\aP K aj g H n fs i.fs:=by
 unfold mJ at h;split at h
 .next n=>
  obtain⟨i,h1,h2⟩:=ac7.mp h;obtain⟨a,rfl,ha⟩:=qL r;obtain⟨C,dx,fs,c1,c2,c3⟩:=w.ins n a i ha h1 λz=>ht _ _ h2 (by rw[z];exact w.nc);exact⟨n,i,a,C,dx,fs,rfl,h1,h2,ha,rfl,c1,c2,c3⟩
 .cases h
theorem Aq{K:ac8}{g:Gh}{H:Hp}{M:Mo}{n:Nat}{i:Inst}{fs:List (Str×V)}(w:bK K aj g H M)(hi:M[n]?=some i)(R:aP K aj g H n fs i.fs)(h:m∉aj.fl i.cls):fs.lookup m=none:=by
 refine R.no ?_;cases hl:i.fs.lookup m with
 |none=>rfl
 |some x=>exact absurd (w.fd n i hi m (lookup_mem hl)) h
theorem Im{tb:List (Str×MV)}{as:QA}{n k:Nat}{t:TA}(hr:Room k X.A)(T:pF X aj k m n tb)(hn:∀M Z ds,as M Z=.ok ds->ds.length+1=n)(ht:∀σ H Q,ux X.K aj W as σ H Q->t σ H Q)(σ:L2.St)(H:Hp)(Q:VK)(h:tQ X.K aj W (bZ tb fo as) σ H Q):vm X W m (tW X.K aj W fo) t σ H Q:=by
 obtain⟨g,Z,M,I,h⟩:=h;refine tW.go I h.bnd λd v H1 h1 e1 r1=>?_;have I1:=I.ex e1;split at h1
 .next j mm hmv=>
  obtain⟨hd,i,a,C,dx,fs,rfl,hi,hl,ha,rfl,c1,c2,c3⟩:=xJ T.cls I1.wok hmv r1;obtain⟨⟨C',f,cc,cl,me,nf,fd,ps,j',hj,hp,hB,F⟩,en⟩:=T _ _ hl;have en:j=n:=en;rw[c1]at cc;cases cc;refine⟨a,C,dx,fs,f,fd,ps,_,j',rfl,c2,Aq I1.wok hi c3 nf,cl,me,hr.mono hj,hB,F,ht σ H1 _ ⟨g,Z,M,I1,?_⟩⟩;have h2:=h1.bnd;cases has:as M Z with
  |exc x=>rw[has]at h2;exact fO.ex e1 h2
  |bad=>rw[has]at h2;exact ael h2
  |ok ds=>
   rw[has]at h2;intro vs H2 e2 r2;refine⟨by rw[hp,en,<-hn M Z ds has,adl,r2.length],g,M,obj hd::ds,(I1.ex e2).kd,(I1.ex e2).wok,.cons (.obj ha) r2,?_⟩;exact Out.sat.mono h2 (λd k v H' e' r'=>k v H' ((e1.trans e2).trans e') r') λx k H' c dd e' r'=>k H' c dd ((e1.trans e2).trans e') r'
 .exact ael h1
theorem Rg{tb:List (Str×MV)}{as:QA}{k:Nat}(tk:Takes X W)(hr:Room k X.A)(T:pF X aj k m ((e::es).length+1) tb)(ho:QW aj X W o fo)(ha:mZ aj X W (e::es) as)(hn:∀M Z ds,as M Z=.ok ds->ds.length=(e::es).length)(hb:baseOk o=true)(hs:(e::es).all nst=true)(hl:(apos.endLine==pos.line)=true)(hz:(e::es).length<30) :
  QE aj X W (.Call (.Attribute o m apos) (e::es) [] pos) (bZ tb fo as):=
 PE.weak (Ao tk ho ha hb hs hl hz) λσ H Q h=>Im hr T (λM Z ds z=>by rw[hn M Z ds z]) (λ_ _ _ z=>z) σ H Q h
theorem MP{tb:List (Str×MV)}{k:Nat}(tk:Takes X W)(hr:Room k X.A)(T:pF X aj k m 1 tb)(ho:QW aj X W o fo)(hb:baseOk o=true)(hl:(apos.endLine==pos.line)=true) :
  QE aj X W (.Call (.Attribute o m apos) [] [] pos) (bZ tb fo aH):=
 PE.weak (yw tk ho hb hl) λσ H Q h=>Im hr T (λM Z ds z=>by cases z;rfl) (λσ H Q ⟨g,Z,M,I,z⟩=>z [] H (Ex.refl H) .nil) σ H Q h
theorem JL{tb:List (Str×MV)}{as:QA}{n k:Nat}{t:TA}(hr:Room k X.A)(T:pF X aj k m n tb)(hn:∀M Z ds,as M Z=.ok ds->ds.length+1=n)(ht:∀σ H Q,ux X.K aj W as σ H Q->t σ H Q)(σ:L2.St)(H:Hp)(Q:VK)(h:tE X.K aj W false (lF tb fo as) σ H Q):vm X W m (tW X.K aj W fo) t σ H Q:=by
 obtain⟨g,Z,M,I,h⟩:=h;have quiet:∀{x:bJ},gE X.K aj W false g H σ Z x M->fO X.K aj W g H σ x:=λ{x} z H' c dd e r=>z H' g c dd (Gr.ex e) (I.ex e) r;have h:=h.bnd;refine⟨g,Z,M,I,?_⟩;cases ho:fo M Z with
 |exc x=>rw[ho]at h;exact quiet h
 |bad=>rw[ho]at h;exact ael h
 |ok d=>
  rw[ho]at h;intro v H1 e1 r1;have I1:=I.ex e1;have h:(match mJ tb M d with
   |some (.q _ m)=>((as M Z).at M).bind λds _=>(m M (d::ds)).at M
   |some (.g _ m)=>((as M Z).at M).bind λds _=>m M (d::ds)
   |none=>.bad).sat (λd M'=>∀v H' g',Gr false g g' H H'->SInv X.K aj σ H' g' Z M'->Rep X.K g' H' v d->Q v H') (gE X.K aj W false g H σ Z):=h
  split at h
  .next j mm hmv=>
   obtain⟨hd,i,a,C,dx,fs,rfl,hi,hl,ha,rfl,c1,c2,c3⟩:=xJ T.cls I1.wok hmv r1;obtain⟨⟨C',f,cc,cl,me,nf,fd,ps,j',hj,hp,hB,F⟩,en⟩:=T _ _ hl;have en:j=n:=en;rw[c1]at cc;cases cc;refine⟨a,C,dx,fs,f,fd,ps,_,j',rfl,c2,Aq I1.wok hi c3 nf,cl,me,hr.mono hj,hB,F,ht σ H1 _ ⟨g,Z,M,I1,?_⟩⟩;have h2:=h.bnd;cases has:as M Z with
   |exc x=>rw[has]at h2;exact fO.ex e1 (quiet h2)
   |bad=>rw[has]at h2;exact ael h2
   |ok ds=>
    rw[has]at h2;intro vs H2 e2 r2;have e12:=e1.trans e2;refine⟨by rw[hp,en,<-hn M Z ds has,adl,r2.length],g,M,obj hd::ds,(I1.ex e2).kd,(I1.ex e2).wok,.cons (.obj ha) r2,?_⟩;exact Out.sat.mono (Out.bM h2) (λd k v H' e' r'=>k v H' g (Gr.ex (e12.trans e')) (I.ex (e12.trans e')) r') λx k H' c dd e' r'=>k H' g c dd (Gr.ex (e12.trans e')) (I.ex (e12.trans e')) r'
  .next j mm hmv=>
   obtain⟨hd,i,a,C,dx,fs,rfl,hi,hl,ha,rfl,c1,c2,c3⟩:=xJ T.cls I1.wok hmv r1;obtain⟨⟨C',f,cc,cl,me,nf,fd,ps,j',hj,hp,hB,F⟩,en⟩:=T _ _ hl;have en:j=n:=en;rw[c1]at cc;cases cc;refine⟨a,C,dx,fs,f,fd,ps,_,j',rfl,c2,Aq I1.wok hi c3 nf,cl,me,hr.mono hj,hB,F,ht σ H1 _ ⟨g,Z,M,I1,?_⟩⟩;have h2:=h.bnd;cases has:as M Z with
   |exc x=>rw[has]at h2;exact fO.ex e1 (quiet h2)
   |bad=>rw[has]at h2;exact ael h2
   |ok ds=>
    rw[has]at h2;intro vs H2 e2 r2;have e12:=e1.trans e2;refine⟨by rw[hp,en,<-hn M Z ds has,adl,r2.length],g,M,obj hd::ds,(I1.ex e2).kd,(I1.ex e2).wok,.cons (.obj ha) r2,?_⟩;exact aN.sat.mono h2 (λd M' k v H' g' c kd wk r'=>k v H' g' ((Gr.ex e12).trans c.gr) ((I.ex e12).call c kd wk) r') λx M' k H' g' cc dd c kd wk r'=>k H' g' cc dd ((Gr.ex e12).trans c.gr) ((I.ex e12).call c kd wk) r'
  .exact ael h
theorem Ra{tb:List (Str×MV)}{as:QA}{k:Nat}(tk:Takes X W)(hr:Room k X.A)(T:pF X aj k m ((e::es).length+1) tb)(ho:QW aj X W o fo)(ha:mZ aj X W (e::es) as)(hn:∀M Z ds,as M Z=.ok ds->ds.length=(e::es).length)(hb:baseOk o=true)(hs:(e::es).all nst=true)(hl:(apos.endLine==pos.line)=true)(hz:(e::es).length<30) :
  GE aj X W false (.Call (.Attribute o m apos) (e::es) [] pos) (lF tb fo as):=
 PE.weak (Ao tk ho ha hb hs hl hz) λσ H Q h=>JL hr T (λM Z ds z=>by rw[hn M Z ds z]) (λ_ _ _ z=>z) σ H Q h
theorem Lw{tb:List (Str×MV)}{k:Nat}(tk:Takes X W)(hr:Room k X.A)(T:pF X aj k m 1 tb)(ho:QW aj X W o fo)(hb:baseOk o=true)(hl:(apos.endLine==pos.line)=true) :
  GE aj X W false (.Call (.Attribute o m apos) [] [] pos) (lF tb fo aH):=
 PE.weak (yw tk ho hb hl) λσ H Q h=>JL hr T (λM Z ds z=>by cases z;rfl) (λσ H Q ⟨g,Z,M,I,z⟩=>z [] H (Ex.refl H) .nil) σ H Q h
end
def qW(x:Str):SF:=λM Z=>.exc ⟨x,[]⟩ Z M
def tK(x:Str)(fs:List Str)(as:QA):SF:=λM Z=>((as M Z).at M).then Z λds M'=>.exc ⟨x,(fs.zip ds).reverse⟩ Z M'
section
variable{X:Cx}{aj:aC}{W:WX}{q:Bool}{x:Str}{pos p p1:Pos}{k:Nat}
theorem K9(hc:X.calm=true)(tk:Takes X W)(hg:Gl X x)(hd:(x==("__debug__" : Str))=false)(g:bW X.prog X.w X.K X.mg X.base aj k x .exc):SE aj X W q (.Raise (some (.Call (.Name x p) [] [] p1)) none pos) (qW x):=by obtain⟨C,g1,g2,g3,g4,g5,g6⟩:=g;exact PS.weak (ps_raise hc tk (Ear.Lh PySem.F.excBase_ValueError g3 g1 g4 (raises_own g5 g6) hg hd)) λD σ H ⟨g,Z,M,I,z⟩=>z σ H g (.ref C) none Gr.refl I ⟨C,g2,rfl,.inl ⟨rfl,rfl⟩⟩
theorem cI.gr{K:ac8}{g g':Gh}{H H':Hp}{q:Bool}(r:Gr q g g' H H')(k:Kd g H){fs:List (Str×V)}{gs:List (Str×Dat)}(h:cI K g H fs gs):cI K g' H' fs gs:=by
 induction h with
 |nil=>exact .nil
 |cons z _ ih=>exact .cons (z.gr r k) ih
theorem cI.snoc{K:ac8}{g:Gh}{H:Hp}{f:Str}{v:V}{d:Dat}(z:Rep K g H v d){fs:List (Str×V)}{gs:List (Str×Dat)}(h:cI K g H fs gs):cI K g H (fs++[(f,v)]) (gs++[(f,d)]):=by
 induction h with
 |nil=>exact .cons z .nil
 |cons y _ ih=>exact .cons y ih
theorem J5{K:ac8}{g:Gh}{H:Hp}:∀{fs:List Str} {vs:List V} {ds:List Dat},au K g H vs ds->cI K g H (fs.zip vs).reverse (fs.zip ds).reverse
 |[],_,_,_=>.nil
 |_::_,_,_,.nil=>.nil
 |f::fs,_,_,.cons z t=>by
  rw[ad8,ad8,ad3,ad3];exact(J5 t).snoc z
theorem Jp{e:Expr}{es:List Expr}{fs:List Str}{as:QA}(hc:X.calm=true)(tk:Takes X W)(hr:Room k X.A)(hg:Gl X x)(hd:(x==("__debug__" : Str))=false)(g:bW X.prog X.w X.K X.mg X.base aj k x (.exi fs))(ha:mZ aj X W (e::es) as)
  (hs:(e::es).all nst=true) (hn:∀M Z ds,as M Z=.ok ds->ds.length=fs.length) (hz:fs.length<=1000):SE aj X W q (.Raise (some (.Call (.Name x p) (e::es) [] p1)) none pos) (tK x fs as):=by
 obtain⟨C,fI,fd,ps,g1,g2,g3,g4,g5,hk,hp,hB,F⟩:=g;have hs':=hs;rw[adF,ac9]at hs';refine PS.weak (ps_raise hc tk (pmk_oex g3 g4 g5 F (hr.mono hk) hB .nil pass0 hg g1 ha hd (aU hs'.1 es) (star_any es hs'.2))) λD σ H ⟨g,Z,M,I,z⟩=>?_;refine⟨g,Z,M,I,?_⟩;unfold tK at z;cases has:as M Z with
 |exc y=>rw[has]at z;exact λH' c dd e r=>z σ H' g c dd (Gr.ex e) (I.ex e) r.fr
 |bad=>rw[has]at z;exact ael z
 |ok ds=>
  rw[has]at z;intro vs H1 e1 r1;have hl:vs.length=fs.length:=by rw[r1.length,hn M Z ds has]
  refine⟨by omega,λa na=>⟨a,vs++[],rfl,by simpa using hl,aeu,λdx H' nd kp dm ha' hd'=>?_⟩⟩;have ne:dx≠a:=λz=>by
   subst z;rw[aeu]at nd;cases nd
  rw[upd_ne ne]at nd;refine⟨rfl,dx,_,ha',hd',nd,?_⟩;have kp':∀b o,H1 b=some o->(upd (del H' a) dx (.xd (fs.zip (vs++[])).reverse)) b=some o:=λb o hb=>by
   have nb:b≠a:=λz=>by subst z;rw[na]at hb;cases hb
   have nd':b≠dx:=λz=>by subst z;rw[nd]at hb;cases hb
   rw[upd_ne nd',del_ne nb];exact kp b o nb (by rw[upd_ne nb];exact hb)
  have ex:Ex H1 (upd (del H' a) dx (.xd (fs.zip (vs++[])).reverse)):=λb o hb=>kp' b o hb;have I1:=I.ex e1;refine z σ _ g (.ref C) (some dx) (Gr.ex (e1.trans ex)) (I1.ex ex) ⟨C,g2,rfl,.inr ⟨dx,_,rfl,aeu,?_⟩⟩;rw[adN];have:=(J5 (fs:=fs) r1).gr (Gr.ex (q:=true) ex) I1.kd;rw[adN]at this;exact cI.less (g:=g) (g':=g.fr) rfl (iW g) this
end
structure Cl where
 c:Value
 nm:Option Nat
 ts:Addr->Value->Option Addr->TS
def Y8(D:Ends)(i:Nat):Ends:={ nx:=λτ G=>D.nx (τ.set i none) G,rt:=D.rt,bk:=λτ G=>D.bk (τ.set i none) G,ct:=λτ G=>D.ct (τ.set i none) G }
def BW(K:ac8)(Wo:WX)(D:Ends):List Cl->WX
 |[]=>Wo
 |l::r=>λcls d τ G=>∃b,PySem.W.exmOne K cls l.c=some b/\(b=true->∀a,G a=none->(match l.nm with
   |none=>l.ts a cls d D τ G
   |some i=>l.ts a cls d (Y8 D i) (τ.set i (some (.ref a))) G))/\(b=false->BW K Wo D r cls d τ G)
inductive lG(X:Cx):List ExceptHandler->List Cl->Prop
 |nil:lG X [] []
 |one {x:Str} {l:Cl} {s0:Stmt} {su:List Stmt} {np cp:Pos} {hds:List ExceptHandler} {ls:List Cl} (hc:Names X x l.c) (hn:l.nm=none)
   (hsu:∀(a:Addr) (oe:Obj) (cls:Value) (d:Option Addr) (pn:List (Addr×Obj)),Zc cls d oe->(∃vs,oe.data=.fields vs)->PSs (X.suite a ((a,oe)::pn)) (s0::su) (l.ts a cls d)) (r:lG X hds ls) :
   lG X (.ExceptHandler (some (.Name x np)) none (s0::su) cp::hds) (l::ls)
 |as {x n:Str} {i:Nat} {l:Cl} {s0:Stmt} {su:List Stmt} {np cp:Pos} {hds:List ExceptHandler} {ls:List Cl} (hc:Names X x l.c) (hn:l.nm=some i) (hi:X.N[i]?=some n) (hl:X.env.kindOf n=some .local)
   (hsu:∀(a:Addr) (oe:Obj) (cls:Value) (d:Option Addr) (pn:List (Addr×Obj)),Zc cls d oe->(∃vs,oe.data=.fields vs)->PSs (X.suite a ((a,oe)::pn)) (s0::su) (l.ts a cls d)) (r:lG X hds ls) :
   lG X (.ExceptHandler (some (.Name x np)) (some n) (s0::su) cp::hds) (l::ls)
section
variable{X:Cx}{body:List Stmt}{h0:ExceptHandler}{hds:List ExceptHandler}{ls:List Cl}{pos:Pos}{tb:WX->TS}{Wo:WX}
theorem P0(hs:X.stack=X.env::X.outer)(hf:X.env.frame=some X.env.locals)(hN:X.N.Nodup)(tk:Takes X Wo)
  (hb:∀(W:WX) (pn:List (Addr×Obj)) (xe:Value->Shared->Prop),Takes (X.tr pn xe) W->PassesOwn (model X.prog X.w) X.A X.env xe->PSs (X.tr pn xe) body (tb W))
  (hh:lG X (h0::hds) ls):PS X (.Try body (h0::hds) [] [] pos) (λD σ H=>tb (BW X.K Wo D ls) D σ H):=by
 constructor;intro pins s σ H D I h;have ok:=I.ok;have frm:X.A.frames=some (X.env::X.outer):=by rw[ok.frames,hs]
 have run:=(hb (BW X.K Wo D ls) (X.pn++pins) (λe t₁=>wpAny (model X.prog X.w) X.A (noteFrame e X.env) (λ_ t₂=>wpAny (model X.prog X.w) X.A (setFlight e none) (λ_ t₃=>wpAny (model X.prog X.w) X.A (handleBy e X.env (h0::hds)) (SP X pins D) X.xe t₃) X.xe t₂) X.xe t₁) (λu t xx=>by
  obtain⟨a,B,sI,pins2,τ,G,cls,d,rfl,J2,nb,up,sky,na,os,ag,w⟩:=xx;have J:Inv X pins τ G sI:=J2.ofTry ok;have sky2:Sky B (X.env::X.outer) a (Zc cls d) X.env.locals t.heap:=by rw[<-hs];exact sky
  show wpAny (model X.prog X.w) X.A (noteFrame (.ref a) X.env) _ _ _;refine Sky.land Zc.steady frm hf sky2 ?_;intro h3 fl3 up3;have J3:Inv X pins τ G { t with heap:=h3 }:=J.landed nb fl3.1 (up.trans up3) os ag;obtain⟨oe3,vs3,he3,hz3,hd3⟩:=fl3.there;have notF:a∉frs (X.env::X.outer):=λhm=>by
   obtain⟨_,o,eo,hnf⟩:=Heap.FunFrames.mem fl3.2.2.1 hm;rw[he3]at eo;cases eo;exact hnf _ hd3
  have nL:a≠X.env.locals:=λz=>notF (List.mem_filterMap.mpr ⟨X.env,adg,(by rw[hf,z])⟩);have nF:a∉X.fs:=λhm=>by
   obtain⟨e,he,q⟩:=List.mem_filterMap.mp hm;exact notF (List.mem_filterMap.mpr ⟨e,adf _ he,q⟩)
  have S3:=J3.suite he3 hd3 na nL nF;have look:PySem.W.Looks (model X.prog X.w) h3 (typeOf (.ref a)) cls:=λA Q E s k q=>wpAny_typeOf_ref (k _ _ he3) (by rw[hz3.1];exact q);have named:∀{x:Str} {c:Value} {np:Pos} {Q:Value->Shared->Prop} {E:Value->Shared->Prop},Names X x c->Q c { t with heap:=h3 }->wpAny (model X.prog X.w) (X.A.mark (some (.ref a))) (eval (.Name x np) X.env) Q E { t with heap:=h3 }:=by
   intro x c np Q E hc q;obtain⟨hg,hdb,hm⟩:=hc;rcases hm with hm|⟨hm,hv,hnn⟩
   .exact ld_glob (X:=X.suite a ((a,oe3)::(X.pn++pins))) S3 hg hm q hdb
   .exact ld_blt (X:=X.suite a ((a,oe3)::(X.pn++pins))) S3 hg hm hv q hnn hdb
  have all:∀{hds2:List ExceptHandler} {ls2:List Cl},lG X hds2 ls2->BW X.K Wo D ls2 cls d τ G->wpAny (model X.prog X.w) X.A (handleBy (.ref a) X.env hds2) (SP X pins D) X.xe { t with heap:=h3 }:=by
   intro hds2 ls2 hk
   induction hk with
   |nil=>
    intro w;refine wpAny_handleBy_nil ?_;obtain⟨k1,k2,k3,oe,vs,T,oT,ts2,he,hz,hd,h1,hr⟩:=id fl3;unfold PySem.passOn;refine aeo (wpAny_field he hd h1 ?_);have nT:¬((Value.ref T==Value.none)=true):=by simp
    rw[aes nT];have fin:wpAny (model X.prog X.w) X.A (setFlight (.ref a) X.env.frame) (λ_ s4=>wpAny (model X.prog X.w) X.A (throw (.ref a):Sem Flow) (SP X pins D) X.xe s4) X.xe { t with heap:=h3 }:=by rw[hf];refine HandSPX.setFlight_upZ fl3 ?_;intro h4 hh4 up4;refine wpAny_throw (tk _ _ ?_);exact⟨a,B,sI,pins,τ,G,cls,d,rfl,J,nb,(up.trans up3).trans up4,.inr (.inr (by rw[hs];exact hh4)),na,os,ag,w⟩
    first
     |exact aeo (aep (aeo fin))
     |exact aeo fin
   | @one x l s0 su np cp hds3 ls3 hc hn hsu r ih=>
    intro w;obtain⟨b,hb1,yes,no⟩:=w;rw[hn]at yes;have LM:=PySem.W.exm_one (M:=model X.prog X.w) J3.kIn look hb1;refine wpAny_handleBy_cons (codeAny_handlers_test ?_) (by intro q;cases q);refine named hc (LM.here ?_);cases b with
    |false=>exact ih (no rfl)
    |true=>
     refine codeAny_handlers_suite ?_;refine HandSPX.lands_againZ fl3 ?_;intro h4 fl4 up4;have J4:Inv X pins τ G { t with heap:=h4 }:=J.landed nb fl4.1 ((up.trans up3).trans up4) os ag;obtain⟨oe4,vs4,he4,hz4,hd4⟩:=fl4.there;have S4:=J4.suite he4 hd4 na nL nF;refine wpAny_mono ((hsu a oe4 cls d (X.pn++pins) hz4 ⟨_,hd4⟩).run [] _ _ G _ S4 (yes rfl a na)) ?_ (λ_ _ z=>ael z);intro f s6 sp6;cases f with
     |ret u=>
      obtain⟨v6,τ6,G6,S6,r6,q6⟩:=sp6;exact⟨_,_,_,S6.unsuite ok,r6,q6⟩
     |next=>
      obtain⟨τ6,G6,S6,q6⟩:=sp6;exact⟨_,_,S6.unsuite ok,q6⟩
     |brk=>
      obtain⟨τ6,G6,S6,q6⟩:=sp6;exact⟨_,_,S6.unsuite ok,q6⟩
     |cont=>
      obtain⟨τ6,G6,S6,q6⟩:=sp6;exact⟨_,_,S6.unsuite ok,q6⟩
   | @as x n i l s0 su np cp hds3 ls3 hc hn hi hl hsu r ih=>
    intro w;obtain⟨b,hb1,yes,no⟩:=w;rw[hn]at yes;have LM:=PySem.W.exm_one (M:=model X.prog X.w) J3.kIn look hb1;refine wpAny_handleBy_cons (codeAny_handlers_test ?_) (by intro q;cases q);refine named hc (LM.here ?_);cases b with
    |false=>exact ih (no rfl)
    |true=>
     refine codeAny_handlers_suite_as ?_;refine HandSPX.lands_againZ fl3 ?_;intro h4 fl4 up4;have J4:Inv X pins τ G { t with heap:=h4 }:=J.landed nb fl4.1 ((up.trans up3).trans up4) os ag;obtain⟨oe4,vs4,he4,hz4,hd4⟩:=fl4.there;have S4:=J4.suite he4 hd4 na nL nF;refine store_ok (X:=X.suite a ((a,oe4)::(X.pn++pins))) (v:=.ref a) S4 hN hi (.inl hl) rfl ?_ (.inr hl);intro s5 S5;refine wpAny_mono ((hsu a oe4 cls d (X.pn++pins) hz4 ⟨_,hd4⟩).run [] s5 _ G _ S5 (yes rfl a na)) ?_ (λ_ _ z=>ael z);intro f s6 sp6;have bye:∀{τ6:L2.St} {G6:Hp} {Q:Shared->Prop},Inv (X.suite a ((a,oe4)::(X.pn++pins))) [] τ6 G6 s6->(∀s7,Inv X pins (τ6.set i none) G6 s7->Q s7)->
       wpAny (model X.prog X.w) X.A (do bindName X.env n .none;unbindBehindTheSuite X.env n cp) (λ_ s7=>Q s7) X.xe s6:=λS6 hq=>gone_ok (S6.unsuite ok) hN hi hl hq
     cases f with
     |ret u=>
      obtain⟨v6,τ6,G6,S6,r6,q6⟩:=sp6;exact bye S6 λs7 J7=>⟨_,_,_,J7,r6,q6⟩
     |next=>
      obtain⟨τ6,G6,S6,q6⟩:=sp6;exact bye S6 λs7 J7=>⟨_,_,J7,q6⟩
     |brk=>
      obtain⟨τ6,G6,S6,q6⟩:=sp6;exact bye S6 λs7 J7=>⟨_,_,J7,q6⟩
     |cont=>
      obtain⟨τ6,G6,S6,q6⟩:=sp6;exact bye S6 λs7 J7=>⟨_,_,J7,q6⟩
  exact all hh w) PassesOwn.looking).run [] s σ H D (I.toTry _) h
 refine wpAny_Try_except (wpAny_mono run ?_ (λ_ _ z=>z));intro f s1 sp1;cases f with
 |ret u=>
  obtain⟨v,τ,G,J2,r,q⟩:=sp1;exact⟨v,τ,G,J2.ofTry ok,r,q⟩
 |next=>
  obtain⟨τ,G,J2,q⟩:=sp1;exact wpAny_execs_nil ⟨τ,G,J2.ofTry ok,q⟩
 |brk=>
  obtain⟨τ,G,J2,q⟩:=sp1;exact⟨τ,G,J2.ofTry ok,q⟩
 |cont=>
  obtain⟨τ,G,J2,q⟩:=sp1;exact⟨τ,G,J2.ofTry ok,q⟩
end
inductive mH where
 |con (d:Dat)|fld (f:Str)|flds (fs:List Str)
def Bb(y:Str)(x:bJ)(f:Str):Option Dat:=match x.cls==y with
 |true=>(x.fs.lookup f).bind λd=>match lf d with
  |true=>some d
  |false=>none
 |false=>none
def vX(y:Str)(x:bJ):List Str->Option (List Dat)
 |[]=>some []
 |f::fs=>(Bb y x f).bind λd=>(vX y x fs).bind λds=>some (d::ds)
def uK(y:Str)(x:bJ):mH->Option Dat
 |.con d=>some d
 |.fld f=>Bb y x f
 |.flds fs=>(vX y x fs).bind λds=>some (.tuple ds)
def jM(y:Str)(x:bJ):List (Nat×mH)->Env->Option Env
 |[],Z=>some Z
 |(j,e)::r,Z=>(uK y x e).bind λd=>jM y x r (Z.set j (some (.dat d)))
structure Hd where
 y:Str
 tk:Str->Option Bool
 nm:Option Nat
 st:List (Nat×mH)
def wJ(Z:Env):Option Nat->Env
 |none=>Z
 |some i=>Z.set i none
def Hf(Z:Env):Option Nat->Bool
 |none=>true
 |some i=>decide (i<Z.length)
def hdl:List Hd->bJ->Env->Mo->fX
 |[],x,Z,M=>.exc x Z M
 |h::r,x,Z,M=>match h.tk x.cls with
  |some true=>match Hf Z h.nm with
   |true=>match jM h.y x h.st (wJ Z h.nm) with
    |some Z2=>.next (wJ Z2 h.nm) M
    |none=>.bad
   |false=>.bad
  |some false=>hdl r x Z M
  |none=>.bad
def wW(f:SF)(hs:List Hd):SF:=λM Z=>match f M Z with
 |.exc x Z' M'=>hdl hs x Z' M'
 |o=>o
structure Et(K:ac8)(aj:aC)(σ:L2.St)(H:Hp)(g:Gh)(Z:Env)(M:Mo)(x:bJ)(a:Addr)(cls:Value)(d:Option Addr)(i:Option Nat):Prop where
 inv:SInv K aj σ H g Z M
 xr:dG K aj g.fr H x cls d
 sl:∀j,i=some j->σ[j]?=some (some (.ref a))
section
variable(K:ac8)(aj:aC)(a:Addr)(cls:Value)(d:Option Addr)(i:Option Nat)
def tU(f:bJ->Option Dat):TE:=λσ H Q=>∃g Z M x z,Et K aj σ H g Z M x a cls d i/\f x=some z/\∀v H',Ex H H'->Rep K g H' v z->Q v H'
def Jq(f:bJ->Option (List Dat)):TA:=λσ H Q=>∃g Z M x z,Et K aj σ H g Z M x a cls d i/\f x=some z/\∀v H',Ex H H'->au K g H' v z->Q v H'
def FT(y:Str)(st:List (Nat×mH)):TS:=λD σ H=>∃g Z M x Z2,Et K aj σ H g Z M x a cls d i/\jM y x st Z=some Z2/\(∀p∈st,i≠some p.1)/\∀σ' H',Ex H H'->SInv K aj σ' H' g Z2 M->D.nx σ' H'
end
section
variable{K:ac8}{aj:aC}{a:Addr}{cls:Value}{d:Option Addr}{i:Option Nat}{σ:L2.St}{H H':Hp}{g:Gh}{Z:Env}{M:Mo}{x:bJ}
theorem cI.ex{fs:List (Str×V)}{gs:List (Str×Dat)}(e:Ex H H')(k:Kd g H)(h:cI K g H fs gs):cI K g H' fs gs:=h.gr (Gr.ex (q:=true) e) k
theorem dG.ex{c:Value}{dd:Option Addr}(e:Ex H H')(k:Kd g H)(h:dG K aj g H x c dd):dG K aj g H' x c dd:=by obtain⟨C,h1,h2,h3⟩:=h;exact⟨C,h1,h2,h3.imp id λ⟨b,fs,e1,e2,e3⟩=>⟨b,fs,e1,e _ _ e2,e3.ex e k⟩⟩
theorem Et.ex(e:Ex H H')(h:Et K aj σ H g Z M x a cls d i):Et K aj σ H' g Z M x a cls d i:=⟨h.inv.ex e,h.xr.ex e h.inv.kd.fr,h.sl⟩
theorem cI.get{f:Str}{z:Dat}{fs:List (Str×V)}{gs:List (Str×Dat)}(h:cI K g H fs gs)(e:gs.lookup f=some z):∃v,fs.lookup f=some v/\Rep K g H v z:=by
 induction h with
 |nil=>cases e
 | @cons f' v d' _ _ r _ ih=>
  rw[adE]at e;rw[adE];cases hb:f==f' with
  |true=>
   rw[hb]at e;cases e;exact⟨v,rfl,r⟩
  |false=>
   rw[hb]at e;exact ih e
end
section
variable{X:Cx}{aj:aC}{a C:Addr}{oe:Obj}{cls:Value}{d:Option Addr}{pn:List (Addr×Obj)}{y n:Str}{pos p:Pos}{j:Nat}
theorem J8{e:Expr}{z:Dat}{i:Option Nat}{t:TE}(h:PE (X.suite a ((a,oe)::pn)) e t)(ht:∀σ H Q,tU X.K aj a cls d i (λ_=>some z) σ H Q->t σ H Q):PE (X.suite a ((a,oe)::pn)) e (tU X.K aj a cls d i λ_=>some z):=PE.weak h ht
theorem Jj{f:Str}(hC:aj y=some C)(T:XfC X.K C)(hno:PySem.W.findIn X.K (.ref C) f=some none)(hz:Zc cls d oe)(hf:∃vs,oe.data=.fields vs)(hN:X.N[j]?=some n)(hv:Vis X.env.scope n)(hd:(n==("__debug__" : Str))=false)(hcd:(n==("__classdict__" : Str))=false) :
  PE (X.suite a ((a,oe)::pn)) (.Attribute (.Name n p) f pos) (tU X.K aj a cls d (some j) λx=>Bb y x f):=by
 refine PE.weak (pe_xf T hno hz hf (pe_var (i:=j) (X:=X.suite a ((a,oe)::pn)) hN hv hd hcd)) λσ H Q ⟨g,Z,M,x,z,I,e,k⟩=>?_;have e:Bb y x f=some z:=e;unfold Bb at e;split at e
 .next ey=>
  obtain⟨z',l,e⟩:=ac7.mp e;split at e
  .next hl=>
   cases e;obtain⟨C',c1,c2,c3⟩:=I.xr;rw[aev ey,hC]at c1;cases c1;rcases c3 with⟨c3,_⟩|⟨b,fs,c3,c4,c5⟩
   .rw[c3]at l;cases l
   .obtain⟨v,l1,l2⟩:=c5.get l;exact⟨.ref a,I.sl j rfl,rfl,c2,b,fs,v,c3,c4,l1,k v H (Ex.refl H) (Rep.free (g:=g.fr) (g':=g) rfl hl l2)⟩
  .cases e
 .cases e
theorem Ke{i:Option Nat}:PA (X.suite a ((a,oe)::pn)) [] (Jq X.K aj a cls d i λ_=>some []):=PA.weak pa_nil λσ H Q ⟨g,Z,M,x,z,I,e,k⟩=>by
 cases e;exact k [] H (Ex.refl H) .nil
theorem Qt{e:Expr}{es:List Expr}{i:Option Nat}{f:bJ->Option Dat}{fr:bJ->Option (List Dat)}(h:PE (X.suite a ((a,oe)::pn)) e (tU X.K aj a cls d i f))(hr:PA (X.suite a ((a,oe)::pn)) es (Jq X.K aj a cls d i fr))(hs:nst e=true) :
  PA (X.suite a ((a,oe)::pn)) (e::es) (Jq X.K aj a cls d i λx=>(f x).bind λz=>(fr x).bind λzs=>some (z::zs)):=by
 refine PA.weak (pa_cons h hr (aU hs es)) λσ H Q ⟨g,Z,M,x,z,I,e,k⟩=>?_;obtain⟨z1,e1,e⟩:=ac7.mp e;obtain⟨z2,e2,e⟩:=ac7.mp e;cases e;exact⟨g,Z,M,x,z1,I,e1,λv H1 x1 r1=>⟨g,Z,M,x,z2,I.ex x1,e2,λvs H2 x2 r2=>k (v::vs) H2 (x1.trans x2) (.cons (r1.ex x2 (I.ex x1).inv.kd) r2)⟩⟩
theorem Ka{es:List Expr}{kk:Nat}{i:Option Nat}{fr:bJ->Option (List Dat)}(hr:PA (X.suite a ((a,oe)::pn)) es (Jq X.K aj a cls d i fr))(hn:∀x zs,fr x=some zs->zs.length<=100000):PE (X.suite a ((a,oe)::pn)) (.Tuple es kk pos) (tU X.K aj a cls d i λx=>(fr x).bind λzs=>some (.tuple zs)):=by refine PE.weak (pe_tup hr) λσ H Q ⟨g,Z,M,x,z,I,e,k⟩=>?_;obtain⟨zs,e1,e⟩:=ac7.mp e;cases e;refine⟨g,Z,M,x,zs,I,e1,λvs H1 x1 r1=>⟨sz_of (by rw[r1.length];exact hn x zs e1),λp np=>?_⟩⟩;exact k (.ref p) _ (x1.trans (Ex.new np)) (.tup (st_of aeu) (r1.ex (Ex.new np) (I.ex x1).inv.kd))
theorem yH{x:bJ}:∀{fs:List Str} {zs:List Dat},vX y x fs=some zs->zs.length=fs.length
 |[],zs,h=>by cases h;rfl
 |f::fs,zs,h=>by
  rw[vX]at h;obtain⟨z1,e1,h⟩:=ac7.mp h;obtain⟨z2,e2,h⟩:=ac7.mp h;cases h;simp[yH e2]
theorem VR{i:Option Nat}{se:mH}{st:List (Nat×mH)}{D D':Ends}{σ:L2.St}{H:Hp}(h:FT X.K aj a cls d i y ((j,se)::st) D σ H)(nx:∀σ' H',FT X.K aj a cls d i y st D σ' H'->D'.nx σ' H') :
  tAsg (tU X.K aj a cls d i λx=>uK y x se) (gName j) D' σ H:=by
 obtain⟨g,Z,M,x,Z2,I,e,nj,k⟩:=h;rw[jM]at e;obtain⟨z,e1,e⟩:=ac7.mp e;refine⟨g,Z,M,x,z,I,e1,λv H' x1 r1=>nx _ _ ⟨g,Z.set j (some (.dat z)),M,x,Z2,⟨(I.ex x1).inv.set r1,(I.ex x1).xr,λjj hj=>?_⟩,e,λp hp=>nj p (adf _ hp),λσ' H2 x2 I2=>k σ' H2 (x1.trans x2) I2⟩⟩;have ne:j≠jj:=λz=>nj (j,se) adg (by rw[hj,z]);rw[ade ne];exact I.sl jj hj
theorem V9{i:Option Nat}{D:Ends}{σ:L2.St}{H:Hp}(h:FT X.K aj a cls d i y [] D σ H):D.nx σ H:=by obtain⟨g,Z,M,x,Z2,I,e,nj,k⟩:=h;cases e;exact k σ H (Ex.refl H) I.inv
end
def Y7(K:ac8)(aj:aC)(h:Hd)(l:Cl):Prop:=(∃D,aj h.y=some D/\l.c=.ref D)/\Hu K aj h.y h.tk/\l.nm=h.nm/\(l.ts=λa cls d=>FT K aj a cls d h.nm h.y h.st)/\∀p∈h.st,h.nm≠some p.1
inductive nQ(K:ac8)(aj:aC):List Hd->List Cl->Prop
 |nil:nQ K aj [] []
 |cons {h:Hd} {l:Cl} {hs:List Hd} {ls:List Cl} (o:Y7 K aj h l) (r:nQ K aj hs ls):nQ K aj (h::hs) (l::ls)
theorem SInv.off{K:ac8}{aj:aC}{σ:L2.St}{H:Hp}{g:Gh}{Z:Env}{M:Mo}(I:SInv K aj σ H g Z M)(i:Nat)(v:Option V):SInv K aj (σ.set i v) H g (Z.set i none) M:=by
 have I2:=I.forget (j:=i);refine⟨I2.kd,I2.wok,by rw[adw,adw];exact I.len,λj d h=>?_,λj xs h=>?_,λj k xs ys l ne h1 h2 h3=>?_⟩
 .by_cases e:j=i
  .subst e;rw[aec]at h;split at h<;>first | (split at h<;>cases h) | (exact absurd rfl ‹¬_›)
  .obtain⟨v',a1,a2⟩:=I2.dat j d h;rw[ade (Ne.symm e)]at a1;exact⟨v',by rw[ade (Ne.symm e)];exact a1,a2⟩
 .by_cases e:j=i
  .subst e;rw[aec]at h;split at h<;>first | (split at h<;>cases h) | (exact absurd rfl ‹¬_›)
  .obtain⟨l,us,a1,a2⟩:=I2.own j xs h;rw[ade (Ne.symm e)]at a1;exact⟨l,us,by rw[ade (Ne.symm e)];exact a1,a2⟩
 .have n1:j≠i:=λz=>by
   subst z;rw[aec]at h1;split at h1<;>first | (split at h1<;>cases h1) | (exact absurd rfl ‹¬_›)
  have n2:k≠i:=λz=>by
   subst z;rw[aec]at h2;split at h2<;>first | (split at h2<;>cases h2) | (exact absurd rfl ‹¬_›)
  rw[ade (Ne.symm n1)]at h1 h3;rw[ade (Ne.symm n2)]at h2 |-
  exact I.sep j k xs ys l ne h1 h2 h3
section
variable{X:Cx}{aj:aC}{W:WX}{q:Bool}{body:List Stmt}{h0:ExceptHandler}{hds:List ExceptHandler}{hs:List Hd}{ls:List Cl}{pos:Pos}{f:SF}
theorem V3{D:Ends}{g g':Gh}{H H':Hp}{σ':L2.St}{Z':Env}{M':Mo}{x:bJ}{c:Value}{dd:Option Addr}(ha:nQ X.K aj hs ls)(r:Gr q g g' H H')(I:SInv X.K aj σ' H' g' Z' M')(xr:dG X.K aj g'.fr H' x c dd)
  (z:(hdl hs x Z' M').sat (sN X.K aj q D.nx g H) (sR X.K aj q D.rt g H) (sN X.K aj q D.bk g H) (sN X.K aj q D.ct g H) (sX X.K aj W q g H)):BW X.K W D ls c dd σ' H':=by
 induction ha with
 |nil=>exact z σ' H' g' c dd r I xr
 | @cons h l hs ls o _ ih=>
  obtain⟨⟨D0,o1,o2⟩,o3,o4,o5,o6⟩:=o;rw[hdl]at z;obtain⟨C,c1,c2,c3⟩:=id xr;split at z
  .next ht=>
   refine⟨true,by rw[c2,o2];exact o3 _ _ _ ht c1 _ o1,λ_ a na=>?_,λy=>nomatch y⟩;rw[o4,o5];split at z
   .next hm=>
    split at z
    .next Z2 hr=>
     cases hnm:h.nm with
     |none=>
      rw[hnm]at hr z o6;exact⟨g',Z',M',x,Z2,⟨I,xr,λj hj=>nomatch hj⟩,hr,o6,λσ2 H2 e2 I2=>z σ2 H2 g' (r.trans (Gr.ex e2)) I2⟩
     |some i=>
      rw[hnm]at hr z o6 hm;refine⟨g',Z'.set i none,M',x,Z2,⟨I.off i _,xr,λj hj=>?_⟩,hr,o6,λσ2 H2 e2 I2=>z _ H2 g' (r.trans (Gr.ex e2)) (I2.off i none)⟩;cases hj;have hl:i<Z'.length:=aen hm;rw[adk (by rw[I.len];exact hl)]
    .exact ael z
   .exact ael z
  .next ht=>exact⟨false,by rw[c2,o2];exact o3 _ _ _ ht c1 _ o1,(λy=>nomatch y),λ_=>ih z⟩
  .exact ael z
theorem Uc(st:X.stack=X.env::X.outer)(hf:X.env.frame=some X.env.locals)(hN:X.N.Nodup)(tk:Takes X W)
  (hb:∀(W':WX) (pn:List (Addr×Obj)) (xe:Value->Shared->Prop),Takes (X.tr pn xe) W'->PassesOwn (model X.prog X.w) X.A X.env xe->mV aj (X.tr pn xe) W' q body f)
  (hh:lG X (h0::hds) ls) (ha:nQ X.K aj hs ls):SE aj X W q (.Try body (h0::hds) [] [] pos) (wW f hs):=by
 refine PS.weak (P0 (tb:=λW'=>tS X.K aj W' q f) st hf hN tk (λW' pn xe t p=>hb W' pn xe t p) hh) λD σ H ⟨g,Z,M,I,z⟩=>?_;refine⟨g,Z,M,I,?_⟩;unfold wW at z;cases hfm:f M Z with
 |next Z' M'=>rw[hfm]at z;exact z
 |ret d M'=>rw[hfm]at z;exact z
 |brk Z' M'=>rw[hfm]at z;exact z
 |cont Z' M'=>rw[hfm]at z;exact z
 |bad=>rw[hfm]at z;exact z
 |exc x Z' M'=>
  rw[hfm]at z;exact λσ' H' g' c dd r I' xr=>V3 ha r I' xr z
end
section
variable{K:ac8}{aj:aC}{W:WX}{g g':Gh}{H H':Hp}{σ:L2.St}{Z:Env}{M:Mo}
theorem bT.grow{l:Addr}(r:Gr false g g' H H')(e:Ex H H')(k:Kd g H):∀{n:Bool} {kvs:List (Dat×Dat)},bT K aj g H l n kvs->bT K aj g' H' l n kvs
 |false,_,⟨kv,h1,h2,h3⟩=>⟨kv,e _ _ h1,h2,h3.gr r k⟩
 |true,_,⟨o,xs,vs,h1,h2,h3,h4,h5,h6⟩=>⟨o,xs,vs,e _ _ h1,h2,h3,h4.gr r k,h5,h6.gr r k⟩
theorem bh.grow{h:Nat}{f:Str}{v:V}(r:Gr false g g' H H')(e:Ex H H')(o:g'.ow=g.ow)(k:Kd g H):∀{fl:bV},bh K aj g H h f v fl->bh K aj g' H' h f v fl
 |.dat _,z=>Rep.gr r k z
 |.lst _ _,⟨l,us,h1,h2,h3,h4,h5⟩=>⟨l,us,h1,e _ _ h2,by rw[o];exact h3,h4.gr r k,r.tb h5⟩
 |.dic _ _,⟨l,h1,h2,h3⟩=>⟨l,h1,by rw[o];exact h2,h3.grow r e k⟩
theorem aP.grow{h:Nat}(r:Gr false g g' H H')(e:Ex H H')(o:g'.ow=g.ow)(k:Kd g H){fs:List (Str×V)}{gs:List (Str×bV)}(t:aP K aj g H h fs gs):aP K aj g' H' h fs gs:=by
 induction t with
 |nil=>exact .nil
 |cons z _ ih=>exact .cons (z.grow r e o k) ih
def Gh.push(g:Gh)(x:Addr):Gh:={ g with tbl:=g.tbl++[x] }
theorem Bj{x a:Addr}(z:(g.push x).A a):g.A a\/a=x:=by
 rcases z with(z|z)|z|z
 .rcases adM.mp z with z|z
  .exact .inl (.inl (.inl z))
  .exact .inr (adu.mp z)
 .exact .inl (.inl (.inr z))
 .exact .inl (.inr (.inl z))
 .exact .inl (.inr (.inr z))
theorem Aa{x a:Addr}(z:(g.push x).W a):g.W a\/a=x:=by
 rcases z with z|z
 .rcases adM.mp z with z|z
  .exact .inl (.inl z)
  .exact .inr (adu.mp z)
 .exact .inl (.inr z)
theorem wI{x:Addr}(e:Ex H H')(nx:H x=none):Gr false g (g.push x) H H' where
 keep:=λa o h _ _=>e a o h
 keepW:=λz=>nomatch z
 dom:=mD e
 tbl:=⟨[x],rfl⟩
 W:=λa z=>z.elim (λz=>.inl (List.mem_append_left _ z)) .inr
 nW:=λa z=>(Aa z).imp id λz=>by rw[z];exact nx
 qg:=λz=>nomatch z
 Lc:=rfl
 Lo:=λ_ z=>z
 nLo:=λ_ z=>.inl z
 kl:=rfl
theorem Fw{x:Addr}{o:HO}(k:Kd g H)(e:Ex H H')(nx:H x=none)(hx:H' x=some o)(m:pW o):Kd (g.push x) H' where
 ob:=λa z=>by
  rcases Bj z with z|rfl
  .obtain⟨u,h1,h2⟩:=k.ob a z;exact⟨u,e _ _ h1,h2⟩
  .exact⟨o,hx,m⟩
 lo:=λa z y=>by
  rcases Aa y with y|rfl
  .exact k.lo a z y
  .obtain⟨u,h1,_⟩:=k.ob a (.inr (.inr z));rw[nx]at h1;cases h1
 lc:=λa z=>by
  refine⟨λy=>?_,(k.lc a z).2⟩;rcases Aa y with y|rfl
  .exact(k.lc a z).1 y
  .obtain⟨u,h1,_⟩:=k.ob a (.inr (.inl z));rw[nx]at h1;cases h1
theorem Ba{x:Addr}{c:Str}(k:Kd g H)(w:bK K aj g H M)(e:Ex H H')(nx:H x=none)(hx:c=""\/∃C dx,aj c=some C/\H' x=some (.ins C dx [])):bK K aj (g.push x) H' (M++[⟨c,[]⟩]):=by
 have gt:∀{h:Nat} {a:Addr},(g.push x).tbl[h]?=some a->(g.tbl[h]?=some a)\/(h=M.length/\a=x):=λ{h a} z=>by
  have z:(g.tbl++[x])[h]?=some a:=z;by_cases hl:h<g.tbl.length
  .rw[adp hl]at z;exact .inl z
  .rw[adx (by omega)]at z;have:=(adb.mp z).1;simp at this;have e0:h-g.tbl.length=0:=by omega
   rw[e0]at z;cases z;exact .inr ⟨by rw[<-w.len];omega,rfl⟩
 have nin:∀{h:Nat},¬g.tbl[h]?=some x:=λ{h} z=>by
  obtain⟨u,h1,_⟩:=k.ob x (.inl (.inl (adB z)));rw[nx]at h1;cases h1
 have ex:∀{h:Nat} {i:Inst},(M++[(⟨c,[]⟩:Inst)])[h]?=some i->M[h]?=some i\/i=⟨c,[]⟩:=λ{h i} h1=>by
  by_cases hl:h<M.length
  .rw[adp hl]at h1;exact .inl h1
  .rw[adx (by omega)]at h1;exact .inr (adu.mp (adB h1))
 refine⟨by show(g.tbl++[x]).length=_;simp[w.len],λh j a h1 h2=>?_,λh a i h1 h2 hcn=>?_,λh i h1=>?_,λh i h1=>?_,λh a i h1 h2 hcn=>?_,λh i h1 hcn=>?_,w.nc⟩
 .rcases gt h1 with z1|⟨z1,rfl⟩
  .rcases gt h2 with z2|⟨z2,rfl⟩
   .exact w.inj h j a z1 z2
   .exact absurd z1 nin
  .rcases gt h2 with z2|⟨z2,_⟩
   .exact absurd z2 nin
   .omega
 .rcases gt h1 with z1|⟨rfl,rfl⟩
  .have hl:h<M.length:=by rw[<-w.len];exact(adb.mp z1).1
   rw[adp hl]at h2;obtain⟨C',dx',fs,c1,c2,c3⟩:=w.ins h a i z1 h2 hcn;exact⟨C',dx',fs,c1,e _ _ c2,c3.grow (wI e nx) e rfl k⟩
  .rw[adx (adz _),Nat.sub_self]at h2;cases h2;rcases hx with rfl|⟨C,dx,hc,hx⟩
   .exact absurd rfl hcn
   .exact⟨C,dx,[],hc,hx,.nil⟩
 .rcases ex h1 with h1|rfl
  .exact w.nd h i h1
  .exact adV
 .rcases ex h1 with h1|rfl
  .exact w.fd h i h1
  .exact λf hf=>absurd hf adH
 .rcases gt h1 with z1|⟨_,rfl⟩
  .have hl:h<M.length:=by rw[<-w.len];exact(adb.mp z1).1
   rw[adp hl]at h2;exact w.tw h a i z1 h2 hcn
  .cases hz:g.ow a with
   |none=>exact hz
   |some p=>
    obtain⟨u,h2,_⟩:=k.ob a (.inl (.inr (by rw[hz];exact λy=>nomatch y)));rw[nx]at h2;cases h2
 .rcases ex h1 with h1|rfl
  .exact w.dm h i h1 hcn
  .rfl
theorem SInv.grow{M':Mo}(r:Gr false g g' H H')(e:Ex H H')(lo:g'.Lo=g.Lo)(k':Kd g' H')(w':bK K aj g' H' M')(I:SInv K aj σ H g Z M):SInv K aj σ H' g' Z M' where
 kd:=k'
 wok:=w'
 len:=I.len
 dat:=λi d h=>by
  obtain⟨v,h1,h2⟩:=I.dat i d h;exact⟨v,h1,h2.gr r I.kd⟩
 own:=λi xs h=>by
  obtain⟨l,us,h1,h2,h3,h4⟩:=I.own i xs h;exact⟨l,us,h1,e _ _ h2,by rw[lo];exact h3,h4.gr r I.kd⟩
 sep:=I.sep
end
theorem HW{P:Program}{w:World}{K:ac8}{mg:Str->Option Value}{base:Heap}{k:Nat}{f:Addr}{fd:FuncData}{ps:List Str}{sp:Sp}(F:FnOk P w K mg base (L2.CX P w) k f fd ps sp):FnOk P w K mg base L2.CX0 k f fd ps λvs H Q _=>sp vs H Q λ_ _ _=>False:=
 ⟨λvs H Q E h=>F.len vs H Q _ h,λA outer s H args us vs Q E hr he hb hv h=>codeAny_mono (F.run A outer s H args us vs Q _ hr he hb hv h) λr s' z=>by
  unfold CR at z |-
  split at z
  .exact z
  .exact z
  .obtain⟨a,B,H',cls,d,_,_,_,_,_,_,_,y⟩:=z;exact ael y⟩
def qJ(x:Str)(m:Mo->List Dat->aN Dat)(as:QA):GF:=λM Z=>((as M Z).at M).bind λds _=>match m (M++[⟨x,[]⟩]) (obj M.length::ds) with
 |.ok .none M'=>.ok (obj M.length) M'
 |_=>.bad
section
variable{X:Cx}{aj:aC}{W:WX}{x:Str}{pos p:Pos}{k n:Nat}{m:Mo->List Dat->aN Dat}{as:QA}{t:TA}{e:Expr}{es:List Expr}
theorem Jc{C f:Addr}{fd:FuncData}{ps:List Str}(hc:aj x=some C)(hp:ps.length=n+1)(hn:∀M Z ds,as M Z=.ok ds->ds.length=n)(ht:∀σ H Q,ux X.K aj W as σ H Q->t σ H Q)(σ:L2.St)(H:Hp)(Q:VK)(h:tE X.K aj W false (qJ x m as) σ H Q) :
  tMake C (λvs H Q _=>qd X.K aj ps.length m vs H Q λ_ _ _=>False) [] (λ_ _ _=>False) t σ H Q:=by
 obtain⟨g,Z,M,I,h⟩:=h;unfold qJ at h;have h:=h.bnd;refine ht σ H _ ⟨g,Z,M,I,?_⟩;cases has:as M Z with
 |exc x=>rw[has]at h;exact λH' c dd e r=>h H' g c dd (Gr.ex e) (I.ex e) r
 |bad=>rw[has]at h;exact ael h
 |ok ds=>
  rw[has]at h;intro vs H1 e1 r1 y dx ny ndx ne;have I1:=I.ex e1;have e2:Ex H1 (upd (upd H1 dx (.own y)) y (.ins C dx [])):=by refine(Ex.new ndx).trans (Ex.new ?_);rw[upd_ne ne.symm];exact ny
  have hy:upd (upd H1 dx (.own y)) y (.ins C dx []) y=some (.ins C dx []):=aeu;have gr:=wI (g:=g) e2 ny;have kd:=Fw I1.kd e2 ny hy aek;have wk:=Ba (c:=x) I1.kd I1.wok e2 ny (.inr ⟨C,dx,hc,hy⟩);have I2:=I1.grow gr e2 rfl kd wk;have hb:(g.push y).tbl[M.length]?=some y:=by
   show(g.tbl++[y])[M.length]?=_
   rw[<-I1.wok.len,adx (adz _),Nat.sub_self];rfl
  refine⟨by rw[adN,adl,r1.length,hn M Z ds has,hp],g.push y,M++[⟨x,[]⟩],obj M.length::ds,kd,wk,.cons (.obj hb) (by rw[adN];exact r1.gr gr I1.kd),?_⟩;have h:aN.sat (match m (M++[(⟨x,[]⟩:Inst)]) (obj M.length::ds) with
   |.ok .none M'=>aN.ok (obj M.length) M'
   |_=>.bad) (λd M'=>∀v H' g',Gr false g g' H H'->SInv X.K aj σ H' g' Z M'->Rep X.K g' H' v d->Q v H') (gE X.K aj W false g H σ Z):=h
  cases hm:m (M++[⟨x,[]⟩]) (obj M.length::ds) with
  |bad=>rw[hm]at h;exact ael h
  |exc z M'=>rw[hm]at h;exact ael h
  |ok d M'=>
   rw[hm]at h;cases d with
   |none=>exact λv H' g' c k' w' r'=>⟨by cases r';rfl,h (.ref y) H' g' (((Gr.ex e1).trans gr).trans c.gr) (I2.call c k' w') (.obj (c.gr.tb hb))⟩
   |_=>exact ael h
theorem Vv(hr:Room k X.A)(g:bW X.prog X.w X.K X.mg X.base aj k x (.cls n m))(hg:Gl X x)(hd:(x==("__debug__" : Str))=false)(ha:mZ aj X W (e::es) as)(hs:(e::es).all nst=true)(hn:∀M Z ds,as M Z=.ok ds->ds.length=n) :
  GE aj X W false (.Call (.Name x p) (e::es) [] pos) (qJ x m as):=by
 obtain⟨C,f,fd,ps,j,g1,g2,_,g3,hj,hp,hB,F⟩:=g;have hs':=hs;rw[adF,ac9]at hs';exact PE.weak (pe_make (E:=λ_ _ _=>False) g3 (HW F) (hr.mono hj) hg g1 hB .nil pass0 ha hd (aU hs'.1 es) (star_any es hs'.2)) λσ H Q h=>Jc (f:=f) (fd:=fd) g2 hp hn (λ_ _ _ z=>z) σ H Q h
theorem RB(hr:Room k X.A)(g:bW X.prog X.w X.K X.mg X.base aj k x (.cls 0 m))(hg:Gl X x)(hd:(x==("__debug__" : Str))=false):GE aj X W false (.Call (.Name x p) [] [] pos) (qJ x m aH):=by obtain⟨C,f,fd,ps,j,g1,g2,_,g3,hj,hp,hB,F⟩:=g;exact PE.weak (pe_make0 (E:=λ_ _ _=>False) g3 (HW F) (hr.mono hj) hg g1 hB .nil pass0 hd) λσ H Q h=>Jc (f:=f) (fd:=fd) (as:=aH) g2 hp (λM Z ds z=>by cases z;rfl) (λσ H Q ⟨g,Z,M,I,z⟩=>z [] H (Ex.refl H) .nil) σ H Q h
end
def pO(m:Mo->List Dat->aN Dat)(as:QA):GF:=λM Z=>((as M Z).at M).bind λds _=>m M ds
section
variable{X:Cx}{aj:aC}{W:WX}{e:Expr}{es:List Expr}{pos p:Pos}{x:Str}{k:Nat}{f:Addr}{fd:FuncData}{ps:List Str}
theorem Qn{m:Mo->List Dat->aN Dat}{as:QA}(tk:Takes X W)(F:FnOk X.prog X.w X.K X.mg X.base (L2.CX X.prog X.w) k f fd ps (qd X.K aj ps.length m))(hr:Room k X.A)(hg:Gl X x)(hm:X.mg x=some (.ref f))(hk:PySem.W.keepIn X.K (.ref f)=true)(hb:Binds X.K fd ps [])
  (ha:mZ aj X W (e::es) as) (hl:(e::es).length=ps.length) (hd:(x==("__debug__" : Str))=false) (hs:(e::es).all nst=true) (hn:∀M Z ds,as M Z=.ok ds->ds.length=(e::es).length):GE aj X W false (.Call (.Name x p) (e::es) [] pos) (pO m as):=by
 have hs':=hs;rw[adF,ac9]at hs';refine PE.weak (pe_callS (E:=λσ=>WE W σ) F hr hg hm hk hb (λσ=>passAt tk σ) ha hd (aU hs'.1 es) (star_any es hs'.2)) λσ H Q ⟨g,Z,M,I,h⟩=>?_;refine⟨g,Z,M,I,?_⟩;have h:=h.bnd;cases has:as M Z with
 |exc x=>rw[has]at h;exact λH' c dd e r=>h H' g c dd (Gr.ex e) (I.ex e) r
 |bad=>rw[has]at h;exact ael h
 |ok ds=>
  rw[has]at h;have h:(m M ds).sat (λd M'=>∀v H' g',Gr false g g' H H'->SInv X.K aj σ H' g' Z M'->Rep X.K g' H' v d->Q v H') (gE X.K aj W false g H σ Z):=h;intro vs H1 e1 r1;exact⟨by rw[r1.length,hn M Z ds has];exact hl,g,M,ds,I.kd.ex e1,I.wok.ex e1 I.kd,r1,h.mono (λd M' kk v H' g' c k' w' r'=>kk v H' g' ((Gr.ex e1).trans c.gr) ((I.ex e1).call c k' w') r') λx M' kk H' g' cc dd c k' w' r'=>kk H' g' cc dd ((Gr.ex e1).trans c.gr) ((I.ex e1).call c k' w') r'⟩
end
def Ft.has(ft:Ft)(c f:Str):Bool:=match ft.lookup c with
 |some fs=>fs.contains f
 |none=>false
def rN(ft:Ft)(aj:aC):Prop:=∀c f,ft.has c f=true->f∈aj.fl c
def Va:Dat->Option Nat
 |.dict [(.none,.int (.ofNat h))]=>some h
 |_=>none
theorem NQ{d:Dat}{h:Nat}(e:Va d=some h):d=obj h:=by
 unfold Va at e;split at e
 .cases e;rfl
 .cases e
def cV(M:Mo)(d:Dat):Option (Nat×Inst):=(Va d).bind λh=>(M[h]?).bind λi=>match i.cls=="" with
 |true=>none
 |false=>some (h,i)
theorem pK{M:Mo}{d:Dat}{h:Nat}{i:Inst}(e:cV M d=some (h,i)):d=obj h/\M[h]?=some i/\i.cls≠"":=by
 unfold cV at e;obtain⟨h',e1,e⟩:=ac7.mp e;obtain⟨i',e2,e⟩:=ac7.mp e;split at e
 .cases e
 .next hc=>
  cases e;exact⟨NQ e1,e2,λz=>by rw[z]at hc;cases hc⟩
def Gx(ft:Ft)(o:QF)(f:Str)(e:GF):SF:=λM Z=>(e M Z).then Z λd M1=>((o M1 Z).at M1).then Z λod M2=>match cV M2 od with
 |some (h,i)=>match ft.has i.cls f&&decide (i.fs.length<100) with
  |true=>.next Z (M2.set h (i.put f (.dat d)))
  |false=>.bad
 |none=>.bad
theorem SInv.chg{K:ac8}{aj:aC}{σ:L2.St}{H H':Hp}{g g':Gh}{Z:Env}{M M':Mo}{h:Nat}{f:Str}(I:SInv K aj σ H g Z M)(c:Dz M g g' H H' h f)(w:bK K aj g' H' M'):SInv K aj σ H' g' Z M':=I.call c.gc c.kd w
section
variable{X:Cx}{aj:aC}{W:WX}{o e:Expr}{f:Str}{pos pos':Pos}{ft:Ft}{fo:QF}
theorem oE{K:ac8}{g:Gh}{H:Hp}{M:Mo}{d:Dat}{v:V}{h:Nat}{i:Inst}(co:cJ K aj)(fk:rN ft aj)(w:bK K aj g H M)(r:bB K g H v d)(hi:cV M d=some (h,i))(hf:ft.has i.cls f=true):∃a C dx fs,d=obj h/\M[h]?=some i/\i.cls≠""/\g.tbl[h]?=some a/\v=.ref a/\aj i.cls=some C/\H a=some (.ins C dx fs)/\aP K aj g H h fs i.fs/\Cls K C/\NoAttr K C f/\f∈aj.fl i.cls:=by obtain⟨rfl,h1,h2⟩:=pK hi;obtain⟨a,rfl,ha⟩:=qL r;obtain⟨C,dx,fs,c1,c2,c3⟩:=w.ins h a i ha h1 h2;have hfl:=fk _ _ hf;obtain⟨k1,k2⟩:=co i.cls C f c1 hfl;exact⟨a,C,dx,fs,rfl,h1,h2,ha,rfl,c1,c2,c3,k1,k2,hfl⟩
theorem Rh{fe:GF}(co:cJ X.K aj)(fk:rN ft aj)(ho:QW aj X W o fo)(he:GE aj X W false e fe)(hs:swapsWith e (some (.Attribute o f pos')) pos.line X.env=pure false):SE aj X W false (.Assign [.Attribute o f pos'] e pos) (Gx ft fo f fe):=by
 refine PS.weak (ps_fld ho he hs) λD σ H ⟨g,Z,M,I,z⟩=>?_;refine tE.go I (aZ (σ:=σ) z) λd M1 v H1 g1 k1 r1 I1 rv=>?_;refine tW.go I1 (k:=λod=>((match cV M1 od with
  |some (h,i)=>match ft.has i.cls f&&decide (i.fs.length<100) with
   |true=>fX.next Z (M1.set h (i.put f (.dat d)))
   |false=>.bad
  |none=>.bad).sat (sN X.K aj false D.nx g H) (sR X.K aj false D.rt g H) (sN X.K aj false D.bk g H) (sN X.K aj false D.ct g H) (sX X.K aj W false g H))) ?_ λod u H2 k2 e2 ru=>?_
 .have k1:=Out.bM (aZ (σ:=σ) k1);exact k1.mono (λ_ y=>y) λx y H' c dd ex rx=>y H' g1 c dd (r1.trans (Gr.ex ex)) (I1.ex ex) rx
 .have I2:=I1.ex e2;split at k2
  .next h i hi=>
   split at k2
   .next hb=>
    rw[ac9]at hb;obtain⟨a,C,dx,fs,_,m1,m2,ha,rfl,c1,c2,c3,c4,c5,c6⟩:=oE co fk I2.wok ru hi hb.1;refine⟨a,C,dx,fs,rfl,c2,c4,c5,?_,?_⟩
    .have:=aen hb.2;rw[c3.len];omega
    .have ch:=yg (f:=f) (C:=C) (dx:=dx) (fs':=putF f v fs) I2.kd I2.wok ha m1 m2;have w':=I2.wok.chg I2.kd ch ha m1 m2 c6 c1 c3 aeu (fl:=.dat d) (show Rep X.K g1 _ v d from(rv.ex e2 I1.kd).gr ch.gc.gr I2.kd);exact k2 σ _ g1 ((r1.trans (Gr.ex e2)).trans ch.gc.gr) (I2.chg ch w')
   .exact ael k2
  .exact ael k2
end
mutual
theorem Rep.mv{K:ac8}{g g':Gh}{H:Hp}(hk:g'.kl=g.kl)(tb:∀(h:Nat) (a:Addr),g.tbl[h]?=some a->g'.tbl[h]?=some a)(n:∀a,g'.A a->g.A a):∀{v:V} {d:Dat},Rep K g H v d->Rep K g' H v d
 |_,_,.non=>.non
 |_,_,.bl b=>.bl b
 |_,_,.int i=>.int i
 |_,_,.str x=>.str x
 |_,_,.tup h t=>.tup h (au.mv hk tb n t)
 |_,_,.lst h t=>.lst (h.elim (λz=>.inl ⟨z.1,λy=>z.2 (n _ y)⟩) λz=>.inr ⟨by rw[hk];exact z.1,z.2.elim (λz=>.inl ⟨z.1,λy=>z.2 (n _ y)⟩) .inr⟩) (au.mv hk tb n t)
 |_,_,.obj h=>.obj (tb _ _ h)
theorem au.mv{K:ac8}{g g':Gh}{H:Hp}(hk:g'.kl=g.kl)(tb:∀(h:Nat) (a:Addr),g.tbl[h]?=some a->g'.tbl[h]?=some a)(n:∀a,g'.A a->g.A a):∀{vs:List V} {ds:List Dat},au K g H vs ds->au K g' H vs ds
 |_,_,.nil=>.nil
 |_,_,.cons h t=>.cons (Rep.mv hk tb n h) (au.mv hk tb n t)
end
def zY(ft:Ft)(o:QF)(f:Str)(e:IF):SF:=λM Z=>((e M Z).at M).then Z λxs M0=>((o (M0++[⟨"",[]⟩]) Z).at (M0++[⟨"",[]⟩])).then Z λod M2=>match cV M2 od with
 |some (h,i)=>match ft.has i.cls f&&decide (i.fs.length<100) with
  |true=>.next Z (M2.set h (i.put f (.lst M0.length xs)))
  |false=>.bad
 |none=>.bad
theorem rA{K:ac8}{aj:aC}{σ:L2.St}{H H':Hp}{g:Gh}{Z:Env}{M:Mo}{l:Addr}{o:HO}(I:SInv K aj σ H g Z M)(nl:H l=none)(e:Ex H H')(hl:H' l=some o)(m:pW o):Gr false g (g.push l) H H'/\SInv K aj σ H' (g.push l) Z (M++[⟨"",[]⟩])/\(g.push l).tbl[M.length]?=some l/\(g.push l).ow l=none/\(M++[(⟨"",[]⟩:Inst)])[M.length]?=some ⟨"",[]⟩:=by
 have gr:=wI (g:=g) e nl;have kd:=Fw I.kd e nl hl m;have wk:=Ba (c:="") I.kd I.wok e nl (.inl rfl)
 refine⟨gr,I.grow gr e rfl kd wk,?_,?_,?_⟩
 .show(g.tbl++[l])[M.length]?=_
  rw[<-I.wok.len,adx (adz _),Nat.sub_self];rfl
 .cases hz:g.ow l with
  |none=>exact hz
  |some p=>
   obtain⟨u,h1,_⟩:=I.kd.ob l (.inl (.inr (by rw[hz];exact λy=>nomatch y)));rw[nl]at h1;cases h1
 .rw[adx (adz _),Nat.sub_self];rfl
section
variable{X:Cx}{aj:aC}{W:WX}{o e:Expr}{f:Str}{pos pos' p1 apos epos spos:Pos}{ft:Ft}{fo:QF}
theorem Ry{fe:IF}(co:cJ X.K aj)(fk:rN ft aj)(ho:QW aj X W o fo)(he:FE aj X W e fe)(hs:swapsWith e (some (.Attribute o f pos')) pos.line X.env=pure false):SE aj X W false (.Assign [.Attribute o f pos'] e pos) (zY ft fo f fe):=by
 refine PS.weak (ps_fld ho he hs) λD σ H ⟨g,Z,M,I,z⟩=>?_;refine⟨g,Z,M,I,?_⟩;unfold zY at z;cases hf:fe M Z with
 |exc x=>rw[hf]at z;exact λH' c dd e r=>z σ H' g c dd (Gr.ex e) (I.ex e) r.fr
 |bad=>rw[hf]at z;exact ael z
 |ok xs=>
  rw[hf]at z;intro l us H1 nl e1 hl rs;obtain⟨gr,I1,tb,ow,mm⟩:=rA I nl e1 hl aek;have rs1:au X.K (g.push l) H1 us xs:=au.mv (g:=g.add l) (g':=g.push l) rfl (λh a z=>gr.tb (g:=g) z) (λa z=>by
   rcases Bj z with z|rfl
   .rcases z with z|z|z
    .exact .inl z
    .exact .inr (.inl z)
    .exact .inr (.inr (show g.Lo a\/a=l from Or.inl z))
   .exact .inr (.inr (show g.Lo a\/a=a from Or.inr rfl))) rs
  have z:(((fo (M++[⟨"",[]⟩]) Z).at (M++[⟨"",[]⟩])).then Z λod M2=>match cV M2 od with
   |some (h,i)=>match ft.has i.cls f&&decide (i.fs.length<100) with
    |true=>.next Z (M2.set h (i.put f (.lst M.length xs)))
    |false=>.bad
   |none=>.bad).sat (sN X.K aj false D.nx g H) (sR X.K aj false D.rt g H) (sN X.K aj false D.bk g H) (sN X.K aj false D.ct g H) (sX X.K aj W false g H):=z
  have k1:=Out.bM (aZ (σ:=σ) z);refine tW.go I1 (k1.mono (λ_ y=>y) λx y H' c dd ex rx=>y H' _ c dd (gr.trans (Gr.ex ex)) (I1.ex ex) rx) λod u H2 k2 e2 ru=>?_;have I2:=I1.ex e2;split at k2
  .next h i hi=>
   split at k2
   .next hb=>
    rw[ac9]at hb;obtain⟨a,C,dx,fs,_,m1,m2,ha,rfl,c1,c2,c3,c4,c5,c6⟩:=oE co fk I2.wok ru hi hb.1;have nla:l≠a:=λz=>by
     subst z;cases I2.wok.inj _ _ _ ha tb;rw[mm]at m1;cases m1;exact m2 rfl
    refine⟨a,C,dx,fs,rfl,c2,c4,c5,?_,?_⟩
    .have:=aen hb.2;rw[c3.len];omega
    .have ch:=xO (f:=f) (C:=C) (dx:=dx) (fs':=putF f (.ref l) fs) I2.kd I2.wok ha m1 m2 tb mm ow;have w':=I2.wok.chg I2.kd ch ha m1 m2 c6 c1 c3 aeu (v:=.ref l) (fl:=.lst M.length xs) ⟨l,us,rfl,by rw[upd_ne nla];exact e2 _ _ hl,aer rfl,(rs1.ex e2 I1.kd).gr ch.gc.gr I2.kd,ch.gc.gr.tb tb⟩;exact k2 σ _ _ ((gr.trans (Gr.ex e2)).trans ch.gc.gr) (I2.chg ch w')
   .exact ael k2
  .exact ael k2
def nH(M:Mo)(f:Str)(d:Dat):Option (Nat×Inst×Nat×List Dat):=(cV M d).bind λp=>match p.2.fs.lookup f with
 |some (.lst n xs)=>some (p.1,p.2,n,xs)
 |_=>none
theorem xQ{K:ac8}{g:Gh}{H:Hp}{M:Mo}{d:Dat}{v:V}{h n:Nat}{i:Inst}{xs:List Dat}(co:cJ K aj)(w:bK K aj g H M)(r:bB K g H v d)(hi:nH M f d=some (h,i,n,xs)) :
  ∃a C dx fs l us,d=obj h/\M[h]?=some i/\i.cls≠""/\i.fs.lookup f=some (.lst n xs)/\g.tbl[h]?=some a/\v=.ref a/\aj i.cls=some C/\H a=some (.ins C dx fs)/\aP K aj g H h fs i.fs/\Cls K C/\NoAttr K C f/\f∈aj.fl i.cls/\fs.lookup f=some (.ref l)/\H l=some (.lst us)/\g.ow l=some (h,f)/\au K g H us xs/\g.tbl[n]?=some l:=by
 unfold nH at hi;obtain⟨⟨h',i'⟩,h1,hi⟩:=ac7.mp hi;split at hi
 .next n' xs' hl=>
  cases hi;obtain⟨rfl,m1,m2⟩:=pK h1;obtain⟨a,rfl,ha⟩:=qL r;obtain⟨C,dx,fs,c1,c2,c3⟩:=w.ins _ a _ ha m1 m2;have hfl:=w.fd _ _ m1 f (lookup_mem hl);obtain⟨k1,k2⟩:=co _ C f c1 hfl;obtain⟨u,l1,l,us,rfl,l3,l4,l5,l6⟩:=c3.get hl;exact⟨a,C,dx,fs,l,us,rfl,m1,m2,hl,ha,rfl,c1,c2,c3,k1,k2,hfl,l1,l3,l4,l5,l6⟩
 .cases hi
theorem FJ{K:ac8}{σ:L2.St}{Z:Env}{g:Gh}{H:Hp}{M:Mo}{h n:Nat}{i:Inst}{ys:List Dat}{a C dx l:Addr}{fs:List (Str×V)}{us':List V}(I:SInv K aj σ H g Z M)(m1:M[h]?=some i)(m2:i.cls≠"")(ha:g.tbl[h]?=some a)(c1:aj i.cls=some C)(c2:H a=some (.ins C dx fs))(c3:aP K aj g H h fs i.fs)(hfl:f∈aj.fl i.cls)(l1:fs.lookup f=some (.ref l))(l4:g.ow l=some (h,f))(l6:g.tbl[n]?=some l)(rs:au K g H us' ys) :
  Gr false g g H (upd H l (.lst us'))/\SInv K aj σ (upd H l (.lst us')) g Z (M.set h (i.put f (.lst n ys))):=by
 have ch:=Ku (o':=.lst us') I.kd I.wok l4 aek;have nla:a≠l:=λz=>by
  subst z;rw[I.wok.tw h a i ha m1 m2]at l4;cases l4
 have w':=I.wok.chg I.kd ch ha m1 m2 hfl c1 (dx:=dx) c3 (v:=.ref l) (fl:=.lst n ys) (by rw[upd_ne nla,qQ l1];exact c2) ⟨l,us',rfl,aeu,l4,rs.gr ch.gc.gr I.kd,l6⟩;exact⟨ch.gc.gr,I.chg ch w'⟩
def zR(f:Str)(o:QF)(e:GF):SF:=λM Z=>((o M Z).at M).then Z λod M0=>match nH M0 f od with
 |some (_,_,n,_)=>(e M0 Z).then Z λd M1=>match nH M1 f od with
  |some (h,i,n',xs)=>match n==n'&&decide (xs.length<100000) with
   |true=>.next Z (M1.set h (i.put f (.lst n (xs++[d]))))
   |false=>.bad
  |none=>.bad
 |none=>.bad
theorem Qz{fe:GF}(co:cJ X.K aj)(ho:QW aj X W o fo)(hb:baseOk o=true)(he:GE aj X W false e fe)(hs:nst e=true)(hl:(apos.endLine==pos.line)=true) :
  SE aj X W false (.Expr (.Call (.Attribute (.Attribute o f p1) "append" apos) [e] [] pos) epos) (zR f fo fe):=by
 have h0:=pe_fld (X:=X) (pos:=p1) (f:=f) ho (cU hb);have h1:=pa_cons he pa_nil (aU hs []);have key:=pe_bm (X:=X) (cpos:=pos) (apos:=apos) PySem.F.plainAttrs_list PySem.F.slot_list_append PySem.F.type_list_append mt_append h0 h1 (cU rfl) (few (by simp[hs]) (by simp)) hl (aU hs []) (by with_unfolding_all rfl);refine PS.weak (ps_expr key (by with_unfolding_all rfl)) λD σ H ⟨g,Z,M,I,z⟩=>?_;unfold zR at z;have k1:=Out.bM (aZ (σ:=σ) z);refine tW.go I (k1.mono (λ_ y=>y) λx y H' c dd ex rx=>y H' _ c dd (Gr.ex ex) (I.ex ex) rx) λod u H1 k2 e1 ru=>?_;have I1:=I.ex e1;split at k2
 .next h0' i0 n xs0 hi=>
  obtain⟨a,C,dx,fs,l,us,rfl,m1,m2,ml,ha,rfl,c1,c2,c3,c4,c5,c6,l1,l3,l4,l5,l6⟩:=xQ co I1.wok ru hi;refine⟨a,C,dx,fs,.ref l,rfl,c2,c4,c5,l1,.inl ⟨rfl,us,sq_of l3⟩,?_⟩;refine tE.go I1 ((aZ (σ:=σ) k2).mono (λ_ _ y=>y) λx M' y=>y.gr (Gr.ex e1)) λd M1 v H2 g2 k3 r2 I2 rv=>?_;split at k3
  .next h i n' xs hi2=>
   split at k3
   .next hg=>
    rw[ac9]at hg;cases aev hg.1;have ru2:bB X.K g2 H2 (.ref a) (obj h0'):=Rep.weak (.obj (r2.tb ha));obtain⟨a',C',dx',fs',l',us',eh,n1,n2,nl,hb',ea,d1,d2,d3,d4,d5,d6,p1,p3,p4,p5,p6⟩:=xQ co I2.wok ru2 hi2;cases ea;have el:l'=l:=adA (p6.symm.trans (r2.tb l6));subst el;obtain⟨gr,I3⟩:=FJ (us':=us'++[v]) (ys:=xs++[d]) I2 n1 n2 hb' d1 d2 d3 d6 p1 p4 p6 (p5.append (.cons rv .nil));refine⟨l',us',v,rfl,rfl,p3,sz_lt (by rw[p5.length];exact aen hg.2),?_⟩;exact k3 σ _ g2 (((Gr.ex e1).trans r2).trans gr) I3
   .exact ael k3
  .exact ael k3
 .exact ael k2
def zP(f:Str)(o fi e:QF):SF:=λM Z=>((e M Z).at M).then Z λd _=>((o M Z).at M).then Z λod _=>match nH M f od with
 |some (h,i,n,xs)=>((fi M Z).at M).then Z λk _=>match k with
  |.int k=>match ixN xs.length k with
   |some j=>.next Z (M.set h (i.put f (.lst n (xs.set j d))))
   |none=>.bad
  |_=>.bad
 |none=>.bad
theorem RN{i:Expr}{fi fe:QF}(co:cJ X.K aj)(ho:QW aj X W o fo)(hb:baseOk o=true)(he:QE aj X W e fe)(hi:QE aj X W i fi)
  (ha:∀v,assign (.Subscript (.Attribute o f p1) i spos) X.env v=(do
   let ov <-holding [v] (eval (.Attribute o f p1) X.env)
   let iv <-holding [v,ov] (eval i X.env)
   standAt spos
   holding [v,ov,iv] (setItem ov iv v)
   release [v,ov,iv] []))
  (hs:swapsWithSole [.Subscript (.Attribute o f p1) i spos] e pos.line X.env=pure false) (h1:(assignEach [.Subscript (.Attribute o f p1) i spos] X.env).map (·.2)=[assign (.Subscript (.Attribute o f p1) i spos) X.env]):SE aj X W false (.Assign [.Subscript (.Attribute o f p1) i spos] e pos) (zP f fo fi fe):=by
 have h0:=pe_fld (X:=X) (pos:=p1) (f:=f) ho (cU hb);refine PS.weak (ps_asg he (pg_sub h0 hi set_list ha) hs (by with_unfolding_all rfl) h1) λD σ H ⟨g,Z,M,I,z⟩=>?_;unfold zP at z;have k1:=Out.bM (aZ (σ:=σ) z);refine tQ.go I (k1.mono (λ_ y=>y) λx y H' c dd ex rx=>y H' _ c dd (Gr.ex ex) (I.ex ex) rx) λd v H1 k2 e1 rv=>?_;have I1:=I.ex e1;have k2:=Out.bM (aZ (σ:=σ) k2);refine tW.go I1 (k2.mono (λ_ y=>y) λx y H' c dd ex rx=>y H' _ c dd ((Gr.ex e1).trans (Gr.ex ex)) (I1.ex ex) rx) λod u H2 k3 e2 ru=>?_;have I2:=I1.ex e2;have e12:=e1.trans e2;split at k3
 .next h i' n xs hl=>
  obtain⟨a,C,dx,fs,l,us,rfl,m1,m2,ml,ha',rfl,c1,c2,c3,c4,c5,c6,l1,l3,l4,l5,l6⟩:=xQ co I2.wok ru hl;refine⟨a,C,dx,fs,.ref l,rfl,c2,c4,c5,l1,?_⟩;have k3:=Out.bM (aZ (σ:=σ) k3);refine tQ.go I2 (k3.mono (λ_ y=>y) λx y H' c dd ex rx=>y H' _ c dd ((Gr.ex e12).trans (Gr.ex ex)) (I2.ex ex) rx) λk w H3 k4 e3 rw'=>?_;have I3:=I2.ex e3;cases k with
  |int k=>
   simp only at k4;split at k4
   .next j hj=>
    cases rw';obtain⟨gr,I4⟩:=FJ (us':=us.set j v) (ys:=xs.set j d) I3 m1 m2 ha' c1 (e3 _ _ c2) (c3.ex e3 I2.kd) c6 l1 l4 l6 (((l5.ex e3 I2.kd).set ((rv.ex e2 I1.kd).ex e3 I2.kd) j));refine⟨l,us,k,j,rfl,rfl,e3 _ _ l3,by rw[l5.length];exact hj,?_⟩;exact k4 σ _ g ((Gr.ex (e12.trans e3)).trans gr) I4
   .exact ael k4
  |_=>exact ael k4
 .exact ael k3
def zJ(ft:Ft)(f:Str)(o e:QF):SF:=λM Z=>((o M Z).at M).then Z λod _=>match cV M od with
 |some (h,i)=>match i.fs.lookup f,ft.has i.cls f&&decide (i.fs.length<100) with
  |some (.dat (.int a)),true=>((e M Z).at M).then Z λd _=>match d with
   |.int b=>.next Z (M.set h (i.put f (.dat (.int (a+b)))))
   |_=>.bad
  |_,_=>.bad
 |none=>.bad
theorem Mr:InOp X .Add (λx y H Q=>∃i j,x=.int i/\y=.int j/\Q (.int (i+j)) H):=by intro pins s σ H x y u v Q I rx ry h;obtain⟨i,j,rfl,rfl,q⟩:=h;exact iop_add pins s σ H _ _ u v Q I rx ry ⟨i,j,rfl,rfl,q⟩
theorem Rx{fe:QF}{tpos:Pos}(co:cJ X.K aj)(fk:rN ft aj)(ho:QW aj X W o fo)(he:QE aj X W e fe):SE aj X W false (.AugAssign (.Attribute o f tpos) .Add e pos) (zJ ft f fo fe):=by
 refine PS.weak (ps_fldaug ho he Mr) λD σ H ⟨g,Z,M,I,z⟩=>?_;unfold zJ at z;have k1:=Out.bM (aZ (σ:=σ) z);refine tW.go I (k1.mono (λ_ y=>y) λx y H' c dd ex rx=>y H' _ c dd (Gr.ex ex) (I.ex ex) rx) λod u H1 k2 e1 ru=>?_;have I1:=I.ex e1;split at k2
 .next h i hi=>
  split at k2
  .next b hlk hb=>
   rw[ac9]at hb;obtain⟨a,C,dx,fs,_,m1,m2,ha,rfl,c1,c2,c3,c4,c5,c6⟩:=oE co fk I1.wok ru hi hb.1;obtain⟨v,l1,l2⟩:=c3.get hlk;refine⟨a,C,dx,fs,v,rfl,c2,c4,c5,l1,?_⟩;have k2:=Out.bM (aZ (σ:=σ) k2);refine tQ.go I1 (k2.mono (λ_ y=>y) λx y H' c dd ex rx=>y H' _ c dd ((Gr.ex e1).trans (Gr.ex ex)) (I1.ex ex) rx) λd w H2 k3 e2 rd=>?_;have I2:=I1.ex e2;cases d with
   |int j=>
    cases rd;have l2:Rep X.K g H1 v (.int b):=l2;cases l2;refine⟨b,j,rfl,rfl,dx,fs,e2 _ _ c2,?_,?_⟩
    .have:=aen hb.2;rw[c3.len];omega
    .have ch:=yg (f:=f) (C:=C) (dx:=dx) (fs':=putF f (.int (b+j)) fs) I2.kd I2.wok ha m1 m2;have w':=I2.wok.chg I2.kd ch ha m1 m2 c6 c1 (c3.ex e2 I1.kd) aeu (v:=.int (b+j)) (fl:=.dat (.int (b+j))) (show Rep X.K g _ _ _ from .int _);exact k3 σ _ g ((Gr.ex (e1.trans e2)).trans ch.gc.gr) (I2.chg ch w')
   |_=>exact ael k3
  .exact ael k2
 .exact ael k2
end
mutual
def gH:Dat->Option NestedKey
 |.none=>some .none
 |.int i=>some (.num i)
 |.str x=>some (.text x)
 |.tuple ds=>(ji ds).map .tup
 |.bool _=>none
 |.list _=>none
 |.dict _=>none
def ji:List Dat->Option (List NestedKey)
 |[]=>some []
 |d::ds=>(gH d).bind λk=>(ji ds).bind λks=>some (k::ks)
end
mutual
theorem jX:∀{d:Dat} {k:NestedKey},gH d=some k->k.data=d
 |.none,_,h=>by cases h;rfl
 |.int i,_,h=>by cases h;rfl
 |.str x,_,h=>by cases h;rfl
 |.tuple ds,_,h=>by
  rw[gH,adX]at h;obtain⟨ks,h1,rfl⟩:=h;rw[NestedKey.data,wj h1]
theorem wj:∀{ds:List Dat} {ks:List NestedKey},ji ds=some ks->NestedKey.datas ks=ds
 |[],_,h=>by cases h;rfl
 |d::ds,_,h=>by
  rw[ji]at h;obtain⟨k,h1,h⟩:=ac7.mp h;obtain⟨ks,h2,h⟩:=ac7.mp h;cases h;rw[NestedKey.datas,jX h1,wj h2]
end
mutual
theorem Ez:∀a b:NestedKey,PyData.eqv a.data b.data=NestedKey.beq a b
 |.none,.none=>by simp[NestedKey.data,PyData.eqv,NestedKey.beq]
 |.none,.num _=>by simp[NestedKey.data,PyData.eqv,NestedKey.beq]
 |.none,.text _=>by simp[NestedKey.data,PyData.eqv,NestedKey.beq]
 |.none,.tup _=>by simp[NestedKey.data,PyData.eqv,NestedKey.beq]
 |.num _,.none=>by simp[NestedKey.data,PyData.eqv,NestedKey.beq]
 |.num a,.num b=>by simp[NestedKey.data,PyData.eqv,NestedKey.beq];rfl
 |.num _,.text _=>by simp[NestedKey.data,PyData.eqv,NestedKey.beq]
 |.num _,.tup _=>by simp[NestedKey.data,PyData.eqv,NestedKey.beq]
 |.text _,.none=>by simp[NestedKey.data,PyData.eqv,NestedKey.beq]
 |.text _,.num _=>by simp[NestedKey.data,PyData.eqv,NestedKey.beq]
 |.text a,.text b=>by simp[NestedKey.data,PyData.eqv,NestedKey.beq];rfl
 |.text _,.tup _=>by simp[NestedKey.data,PyData.eqv,NestedKey.beq]
 |.tup _,.none=>by simp[NestedKey.data,PyData.eqv,NestedKey.beq]
 |.tup _,.num _=>by simp[NestedKey.data,PyData.eqv,NestedKey.beq]
 |.tup _,.text _=>by simp[NestedKey.data,PyData.eqv,NestedKey.beq]
 |.tup as,.tup bs=>by
  rw[NestedKey.data,NestedKey.data,PyData.eqv,NestedKey.beq];exact Ac as bs
theorem Ac:∀as bs:List NestedKey,PyData.eqvAll (NestedKey.datas as) (NestedKey.datas bs)=NestedKey.beqAll as bs
 |[],[]=>by simp[NestedKey.datas,PyData.eqvAll,NestedKey.beqAll]
 |[],_::_=>by simp[NestedKey.datas,PyData.eqvAll,NestedKey.beqAll]
 |_::_,[]=>by simp[NestedKey.datas,PyData.eqvAll,NestedKey.beqAll]
 |a::as,b::bs=>by
  rw[NestedKey.datas,NestedKey.datas,PyData.eqvAll,NestedKey.beqAll,Ez a b,Ac as bs]
end
theorem Ep(a b:NestedKey):PyData.eqv a.data b.data=decide (a=b):=by rw[Ez,NestedKey.decide_eq]
section
variable{X:Cx}{pins:List (Addr×Obj)}{σ:L2.St}{H:Hp}{s:Shared}{g:Gh}
mutual
theorem key_is(I:L2.Inv X pins σ H s):∀{v:V} {d:Dat} {k:NestedKey} {u:Value},Rep X.K g H v d->gH d=some k->RelV v u->NestedIs s.heap k u
 |_,_,_,u,.non,e,r=>by
  cases e
  obtain rfl:u=.none:=r
  exact .none
 |_,_,_,_,.int i,e,r=>by
  cases e;obtain⟨t,rfl⟩:=r;exact .int i t
 |_,_,_,_,.str x,e,r=>by
  cases e;obtain⟨t,rfl⟩:=r;exact .text x t
 |_,_,_,u,.tup (a:=a) h t,e,r=>by
  rw[gH,adX]at e;obtain⟨ks,h1,rfl⟩:=e
  obtain rfl:u=.ref a:=r
  obtain⟨its,r1,⟨o,e1,c1,n,d1⟩,_⟩:=I.tuple h;exact .tup e1 c1 d1 (by simpa using Gf I t h1 r1)
 |_,_,_,_,.bl b,e,r=>by cases e
 |_,_,_,_,.lst _ _,e,r=>by cases e
 |_,_,_,_,.obj _,e,r=>by cases e
theorem Gf(I:L2.Inv X pins σ H s):∀{vs:List V} {ds:List Dat} {ks:List NestedKey} {us:List Value},au X.K g H vs ds->ji ds=some ks->Vals vs us->NestedAll s.heap ks us
 |_,_,_,_,.nil,e,r=>by
  cases e;cases r;exact .nil
 |_,_,_,_,.cons h t,e,r=>by
  rw[ji]at e;obtain⟨k,h1,e⟩:=ac7.mp e;obtain⟨ks,h2,e⟩:=ac7.mp e;cases e;cases r with
  |cons r1 r2=>exact .cons (key_is I h h1 r1) (Gf I t h2 r2)
end
end
mutual
theorem Ec:∀k:NestedKey,gH k.data=some k
 |.none=>rfl
 |.num _=>rfl
 |.text _=>rfl
 |.tup ks=>by rw[NestedKey.data,gH,Cr ks];rfl
theorem Cr:∀ks:List NestedKey,ji (NestedKey.datas ks)=some ks
 |[]=>rfl
 |k::ks=>by rw[NestedKey.datas,ji,Ec k,Cr ks];rfl
end
def dhas:Bool->List (Dat×Dat)->Dat->Out Bool
 |false,kvs,.int i=>.ok (kvs.any λp=>PyData.eqv p.1 (.int i))
 |true,kvs,.tuple ds=>match gH (.tuple ds) with
  |some k=>match decide (k.depth<=8) with
   |true=>.ok (kvs.any λp=>PyData.eqv p.1 (.tuple ds))
   |false=>.bad
  |none=>.bad
 |_,_,_=>.bad
def jK(M:Mo)(f:Str)(d:Dat):Option (Nat×Inst×Bool×List (Dat×Dat)):=(cV M d).bind λp=>match p.2.fs.lookup f with
 |some (.dic b kvs)=>some (p.1,p.2,b,kvs)
 |_=>none
section
variable{aj:aC}{f:Str}
theorem ou{K:ac8}{g:Gh}{H:Hp}{M:Mo}{d:Dat}{v:V}{h:Nat}{i:Inst}{b:Bool}{kvs:List (Dat×Dat)}(co:cJ K aj)(w:bK K aj g H M)(r:bB K g H v d)(hi:jK M f d=some (h,i,b,kvs)) :
  ∃a C dx fs l,d=obj h/\M[h]?=some i/\i.cls≠""/\i.fs.lookup f=some (.dic b kvs)/\g.tbl[h]?=some a/\v=.ref a/\aj i.cls=some C/\H a=some (.ins C dx fs)/\aP K aj g H h fs i.fs/\Cls K C/\NoAttr K C f/\f∈aj.fl i.cls/\fs.lookup f=some (.ref l)/\g.ow l=some (h,f)/\bT K aj g H l b kvs:=by
 unfold jK at hi;obtain⟨⟨h',i'⟩,h1,hi⟩:=ac7.mp hi;split at hi
 .next b' kvs' hl=>
  cases hi;obtain⟨rfl,m1,m2⟩:=pK h1;obtain⟨a,rfl,ha⟩:=qL r;obtain⟨C,dx,fs,c1,c2,c3⟩:=w.ins _ a _ ha m1 m2;have hfl:=w.fd _ _ m1 f (lookup_mem hl);obtain⟨k1,k2⟩:=co _ C f c1 hfl;obtain⟨u,l1,l,rfl,l3,l4⟩:=c3.get hl;exact⟨a,C,dx,fs,l,rfl,m1,m2,hl,ha,rfl,c1,c2,c3,k1,k2,hfl,l1,l3,l4⟩
 .cases hi
end
theorem wV{kv:List (Key×V)}{i:Int}:∀{kvs:List (Dat×Dat)},kvs.map (·.1)=kv.map (λp=>keyD p.1)->(kvs.any λp=>PyData.eqv p.1 (.int i))=(valV kv (Sum.inl i)).isSome:=by
 induction kv with
 |nil=>
  intro kvs e;cases kvs with
  |nil=>rfl
  |cons _ _=>cases e
 |cons p r ih=>
  intro kvs e;cases kvs with
  |nil=>cases e
  |cons q t=>
   simp only[ada,List.cons.injEq]at e;rw[adU,ih e.2,e.1];by_cases h:p.1=Sum.inl i
   .rw[valV_pos h,h];simp[keyD,PyData.eqv]
   .rw[valV_neg h];have:PyData.eqv (keyD p.1) (.int i)=false:=by
     cases hp:p.1 with
     |inl j=>
      have:j≠i:=λz=>h (by rw[hp,z]);simp[keyD,PyData.eqv,this]
     |inr x=>simp[keyD,PyData.eqv]
    rw[this,Bool.false_or]
theorem o7{xs:List dN}{k:NestedKey}:∀{kvs:List (Dat×Dat)},kvs.map (·.1)=xs.map (λx=>x.1.data)->(kvs.any λp=>PyData.eqv p.1 k.data)=(atKey xs k).isSome:=by
 induction xs with
 |nil=>
  intro kvs e;cases kvs with
  |nil=>rfl
  |cons _ _=>cases e
 |cons p r ih=>
  intro kvs e;cases kvs with
  |nil=>cases e
  |cons q t=>
   simp only[ada,List.cons.injEq]at e;rw[adU,ih e.2,e.1,Ep];unfold atKey;rw[List.find?_cons];cases hd:decide (p.1=k) with
   |true=>rfl
   |false=>rfl
theorem oM{X:Cx}{pins:List (Addr×Obj)}{σ:L2.St}{H:Hp}{s:Shared}{g:Gh}{l:Addr}{o:Obj}{xs:List dN}{ks:List Dat}(I:L2.Inv X pins σ H s)(h1:H l=some (bY l o))(h2:dw X.w l o xs)(h3:ks=xs.map λx=>x.1.data)(h4:au X.K g H (xs.map λx=>V.ref x.2.1) ks) :
  s.heap.DictOfH (nestedKind X.prog X.w) l xs:=by
 obtain⟨z1,_,_⟩:=(show ObjOk X.prog X.w H s.heap l (bY l o) from I.hok l _ h1);obtain⟨es,ep,e1,e2⟩:=h2.ent;refine⟨o,es,ep,z1,h2.ex,e1,e2,λx hx=>?_,h2.nd⟩;refine⟨?_,h2.dep x hx⟩;obtain⟨n,hn⟩:=List.mem_iff_getElem?.mp hx;obtain⟨d,hd1,hd2⟩:=h4.get' (i:=n) (v:=V.ref x.2.1) (by rw[adq,hn];rfl);rw[h3,adq,hn]at hd1;cases hd1;exact key_is I hd2 (Ec x.1) rfl
def rInD(X:Cx)(neg:Bool):R2:=λx y H Q=>(∃l kv i,y=.ref l/\H l=some (.dK kv)/\x=.int i/\Q (.bl (neg ^^ (valV kv (Sum.inl i)).isSome)) H)\/
 ∃(l:Addr) (o:Obj) (xs:List dN) (g:Gh) (d:Dat) (b:Addr) (k:NestedKey),y=.ref l/\H l=some (bY l o)/\dw X.w l o xs/\au X.K g H (xs.map λx=>V.ref x.2.1) (xs.map λx=>x.1.data)/\x=.ref b/\Rep X.K g H x d/\gH d=some k/\k.depth<=8/\Q (.bl (neg ^^ (atKey xs k).isSome)) H
section
variable{X:Cx}
theorem op_inD(hu:X.A.units+64<cLine):OpR X (compareOp .In) (rInD X false):=by
 intro pins s σ H x y v u Q I rx ry h;rcases h with⟨l,kv,i,rfl,hl,rfl,q⟩|⟨l,o,xs,g,d,b,k,rfl,h1,h2,h3,rfl,h4,h5,h6,q⟩
 .obtain rfl:u=Value.ref l:=ry
  exact d_in (by omega) I (DGet.k (k:=Sum.inl i) hl) rx λs' I'=>⟨.bl _,H,I',rfl,by simpa using q⟩
 .obtain rfl:u=Value.ref l:=ry
  obtain rfl:v=Value.ref b:=rx
  refine wpAny_in_heap (knd:=nestedKind X.prog X.w) (k:=k) (show X.A.in1.units+8<cLine by show X.A.units+1+8<cLine;omega) ⟨key_is I h4 h5 rfl,h6⟩ h2.sys (oM I h1 h2 rfl h3) ?_;exact⟨.bl _,H,I.tok _,rfl,by simpa using q⟩
theorem op_notInD(hu:X.A.units+64<cLine):OpR X (compareOp .NotIn) (rInD X true):=by
 intro pins s σ H x y v u Q I rx ry h;rcases h with⟨l,kv,i,rfl,hl,rfl,q⟩|⟨l,o,xs,g,d,b,k,rfl,h1,h2,h3,rfl,h4,h5,h6,q⟩
 .obtain rfl:u=Value.ref l:=ry
  exact d_notIn (by omega) I (DGet.k (k:=Sum.inl i) hl) rx λs' I'=>⟨.bl _,H,I',rfl,by simpa using q⟩
 .obtain rfl:u=Value.ref l:=ry
  obtain rfl:v=Value.ref b:=rx
  refine notIn_keyed (knd:=nestedKind X.prog X.w) (k:=k) (show X.A.in1.units+8<cLine by show X.A.units+1+8<cLine;omega) ⟨key_is I h4 h5 rfl,h6⟩ h2.sys ⟨xs,oM I h1 h2 rfl h3,rfl⟩ ?_;rw[valueAt_pairsH,Option.isSome_map];exact⟨.bl _,H,I.tok _,rfl,by simpa using q⟩
end
def yd(neg:Bool)(f:Str)(k o:QF):QF:=λM Z=>(k M Z).bind λd=>(o M Z).bind λod=>match jK M f od with
 |some (_,_,b,kvs)=>(dhas b kvs d).bind λr=>.ok (.bool (neg ^^ r))
 |none=>.bad
section
variable{X:Cx}{aj:aC}{W:WX}{o k:Expr}{f:Str}{pos p1:Pos}{fo fk:QF}{neg:Bool}{op:CmpOp}
theorem Ox(co:cJ X.K aj)(hw:aj.w=X.w)(σ:L2.St)(H:Hp)(Q:VK)(h:tQ X.K aj W (yd neg f fk fo) σ H Q):tOp (rInD X neg) (tQ X.K aj W fk) (tFld X.K (tW X.K aj W fo) f) σ H Q:=by
 obtain⟨g,Z,M,I,h⟩:=h;refine tQ.go I h.bnd λd v H1 h1 e1 r1=>?_;have I1:=I.ex e1;refine tW.go I1 (h1.bnd.mono (λ_ z=>z) λ_ z=>z.ex e1) λod u H2 h2 e2 r2=>?_;have I2:=I1.ex e2;split at h2
 .next hh i b kvs hd=>
  obtain⟨a,C,dx,fs,l,rfl,m1,m2,ml,ha,rfl,c1,c2,c3,c4,c5,c6,l1,l2,l3⟩:=ou co I2.wok r2 hd;refine⟨a,C,dx,fs,.ref l,rfl,c2,c4,c5,l1,?_⟩;have r1':=r1.ex e2 I1.kd;unfold dhas at h2;split at h2
  .next i'=>
   obtain⟨kv,k1,k2,k3⟩:=l3;cases r1';refine .inl ⟨l,kv,i',rfl,k1,rfl,?_⟩;rw[wV k2]at h2;exact h2 _ H2 (e1.trans e2) (.bl _)
  .next ds=>
   split at h2
   .next kk hk=>
    split at h2
    .next hdep=>
     obtain⟨o',xs,vs,k1,k2,k3,k4,k5,k6⟩:=l3;have ek:=jX hk;rw[<-ek,o7 k3]at h2;rw[k3]at k4;rw[hw]at k2;cases r1' with
     | @tup b us _ hs ht=>exact .inr ⟨l,o',xs,g,_,b,kk,rfl,k1,k2,k4,rfl,.tup hs ht,hk,aen hdep,h2 _ H2 (e1.trans e2) (.bl _)⟩
    .exact ael h2
   .exact ael h2
  .exact ael h2
 .exact ael h2
theorem Wn(co:cJ X.K aj)(hw:aj.w=X.w)(hr:OpR X (compareOp op) (rInD X neg))(hk:QE aj X W k fk)(ho:QW aj X W o fo)(hb:baseOk o=true):QE aj X W (.Compare k [op] [.Attribute o f p1] pos) (yd neg f fk fo):=
 PE.weak (pe_cmpR hr hk (pe_fld ho (cU hb)) (by cases op<;>rfl)) λσ H Q h=>Ox co hw σ H Q h
end
def DPx(X:Cx)(H:Hp)(a:Addr)(y v:V)(R:Hp->Prop):Prop:=(∃kvs i,H a=some (.dK kvs)/\y=.int i/\kvs.length<sizeLine/\R (upd H a (.dK (putK kvs (Sum.inl i) v))))\/
 ∃(o:Obj) (xs:List dN) (g:Gh) (d:Dat) (b:Addr) (k:NestedKey),H a=some (bY a o)/\dw X.w a o xs/\au X.K g H (xs.map λx=>V.ref x.2.1) (xs.map λx=>x.1.data)/\y=.ref b/\Rep X.K g H y d/\gH d=some k/\k.depth<=8/\xs.length<sizeLine/\∀(o':Obj) (u:Value),RelV v u->dw X.w a o' (storedH xs k b u)->R (upd H a (bY a o'))
theorem qP{P:Program}{w:World}{H:Hp}{h:Heap}{l:Addr}{o:Obj}(e:h.get? l=some o):ObjOk P w H h l (bY l o):=⟨e,⟨o,e⟩,λ_ _ e1 k=>k _ e1⟩
theorem Dk{xs:List dN}{k:NestedKey}{b:Addr}{u:Value}:(storedH xs k b u).map (·.1)=if (atKey xs k).isSome then xs.map (·.1) else xs.map (·.1)++[k]:=by
 unfold storedH;split
 .rw[aee];refine List.map_congr_left λx _=>?_
  show(putAt k u x).1=x.1
  unfold putAt
  split<;>rfl
 .simp
theorem vq{xs:List dN}{k:NestedKey}{b:Addr}{u:Value}:(storedH xs k b u).length<=xs.length+1:=by
 unfold storedH
 split<;>simp
theorem v7{xs:List dN}{k:NestedKey}{b:Addr}{u:Value}(h:∀x∈xs,x.1.depth<=8)(hk:k.depth<=8):∀x∈storedH xs k b u,x.1.depth<=8:=λx hx=>by
 have:x.1∈(storedH xs k b u).map (·.1):=ado.mpr ⟨x,hx,rfl⟩;rw[Dk]at this;have old:∀{z:NestedKey},z∈xs.map (·.1)->z.depth<=8:=λ{z} m=>by
  obtain⟨y,hy,rfl⟩:=ado.mp m;exact h y hy
 split at this
 .exact old this
 .rcases adM.mp this with z|z
  .exact old z
  .rw[adu.mp z];exact hk
section
variable{X:Cx}{o i value:Expr}{td ty tv:TE}{pos pos':Pos}
def ZF(X:Cx)(td ty tv:TE):TS:=λD σ H=>tv σ H λv H1=>td σ H1 λx H2=>ty σ H2 λy H3=>∃a,x=.ref a/\DPx X H3 a y v λH4=>D.nx σ H4
theorem NT(hu:X.A.units+64<cLine)(ho:PE X o td)(hi:PE X i ty)(hv:PE X value tv)(hs:swapsWith value (some (.Subscript o i pos')) pos.line X.env=pure false):PS X (.Assign [.Subscript o i pos'] value pos) (ZF X td ty tv):=by
 refine⟨λpins s σ H D I h=>?_⟩;refine wpAny_Assign_Subscript (thn (hv.run pins s σ H _ I h) λr s1 ⟨v,H1,I1,rv,q1⟩=>thn (ho.run pins s1 σ H1 _ I1 q1) λu s2 ⟨x,H2,I2,rx,q2⟩=>thn (hi.run pins s2 σ H2 _ I2 q2) λiv s3 ⟨y,H3,I3,ry,a,ex,q3⟩=>?_) hs;subst ex
 obtain rfl:u=Value.ref a:=rx
 rcases q3 with⟨kvs,j,h1,rfl,hl,q⟩|⟨ob,xs,g,d,b,k,h1,h2,h3,rfl,h4,h5,h6,hl,q⟩
 .exact d_setItem (by omega) I3 (DPut.k (k:=Sum.inl j) h1 hl) ry rv λs4 I4=>⟨σ,_,I4,q⟩
 .obtain rfl:iv=Value.ref b:=ry
  refine wpAny_setItem_heap (knd:=nestedKind X.prog X.w) (k:=k) (hsz:=Nat.le_of_lt hl) (show X.A.in1.units+8<cLine by show X.A.units+1+8<cLine;omega) ⟨key_is I3 h4 h5 rfl,h6⟩ (oM I3 h1 h2 rfl h3) λh' dd hs'=>?_;obtain⟨o',es,ep,g1,g2,g3,g4,g5,g6⟩:=dd;have nd:dw X.w a o' (storedH xs k b r):=⟨h2.sys,g2,⟨es,ep,g3,g4⟩,g6,by have:=vq (xs:=xs) (k:=k) (b:=b) (u:=r);omega,v7 h2.dep h6⟩;exact⟨σ,_,d_write I3 (by rw[h1];exact True.intro) hs' ⟨o',g1⟩ (qP g1),q o' r rv nd⟩
end
theorem au.back{K:ac8}{g:Gh}{H:Hp}{vs:List V}{ds:List Dat}{v:V}{d:Dat}(h:au K g H vs ds)(r:Rep K g H v d):au K g H (vs++[v]) (ds++[d]):=h.append (.cons r .nil)
theorem rO{K:ac8}{aj:aC}{f:Str}{σ:L2.St}{Z:Env}{g:Gh}{H:Hp}{M:Mo}{h:Nat}{i:Inst}{b:Bool}{kvs':List (Dat×Dat)}{a C dx l:Addr}{fs:List (Str×V)}{o':HO}(I:SInv K aj σ H g Z M)(m1:M[h]?=some i)(m2:i.cls≠"")(ha:g.tbl[h]?=some a)(c1:aj i.cls=some C)(c2:H a=some (.ins C dx fs))(c3:aP K aj g H h fs i.fs)(hfl:f∈aj.fl i.cls)(l1:fs.lookup f=some (.ref l))(l4:g.ow l=some (h,f))(mu:pW o')
  (new:Gr false g g H (upd H l o')->bT K aj g (upd H l o') l b kvs'):Gr false g g H (upd H l o')/\SInv K aj σ (upd H l o') g Z (M.set h (i.put f (.dic b kvs'))):=by
 have ch:=Ku (o':=o') I.kd I.wok l4 mu;have nla:a≠l:=λz=>by
  subst z;rw[I.wok.tw h a i ha m1 m2]at l4;cases l4
 have w':=I.wok.chg I.kd ch ha m1 m2 hfl c1 (dx:=dx) c3 (v:=.ref l) (fl:=.dic b kvs') (by rw[upd_ne nla,qQ l1];exact c2) ⟨l,rfl,l4,new ch.gc.gr⟩;exact⟨ch.gc.gr,I.chg ch w'⟩
def vA(f:Str)(o k e:QF):SF:=λM Z=>((e M Z).at M).then Z λv _=>((o M Z).at M).then Z λod _=>match jK M f od with
 |some (h,i,b,kvs)=>((k M Z).at M).then Z λd _=>match dhas b kvs d,decide (kvs.length<100000) with
  |.ok false,true=>.next Z (M.set h (i.put f (.dic b (kvs++[(d,v)]))))
  |_,_=>.bad
 |none=>.bad
def wD(f:Str)(o k:QF):SF:=λM Z=>((o M Z).at M).then Z λod _=>match jK M f od with
 |some (h,i,b,kvs)=>((k M Z).at M).then Z λd _=>match dhas b kvs d,decide (kvs.length<=100000) with
  |.ok true,true=>.next Z (M.set h (i.put f (.dic b (kvs.filter λp=>!PyData.eqv p.1 d))))
  |_,_=>.bad
 |none=>.bad
theorem xM{kvs:List (Dat×Dat)}{b r:Bool}{d:Dat}(h:dhas b kvs d=.ok r):(kvs.any λp=>PyData.eqv p.1 d)=r/\((b=false/\∃i,d=.int i)\/(b=true/\∃ds k,d=.tuple ds/\gH d=some k/\k.depth<=8)):=by
 unfold dhas at h;split at h
 .next i=>
  cases h;exact⟨rfl,.inl ⟨rfl,i,rfl⟩⟩
 .next ds=>
  split at h
  .next k hk=>
   split at h
   .next hd=>
    cases h;exact⟨rfl,.inr ⟨rfl,ds,k,rfl,hk,aen hd⟩⟩
   .cases h
  .cases h
 .cases h
section
variable{X:Cx}{aj:aC}{W:WX}{o e i:Expr}{f:Str}{pos pos' p1:Pos}{fo fe fk:QF}
theorem Pa(co:cJ X.K aj)(hw:aj.w=X.w)(hu:X.A.units+64<cLine)(ho:QW aj X W o fo)(hb:baseOk o=true)(hk:QE aj X W i fk)(he:QE aj X W e fe)(hs:swapsWith e (some (.Subscript (.Attribute o f p1) i pos')) pos.line X.env=pure false) :
  SE aj X W false (.Assign [.Subscript (.Attribute o f p1) i pos'] e pos) (vA f fo fk fe):=by
 refine PS.weak (NT hu (pe_fld ho (cU hb)) hk he hs) λD σ H ⟨g,Z,M,I,z⟩=>?_;unfold vA at z;have k1:=Out.bM (aZ (σ:=σ) z);refine tQ.go I (k1.mono (λ_ y=>y) λx y H' c dd ex rx=>y H' _ c dd (Gr.ex ex) (I.ex ex) rx) λd v H1 k2 e1 rv=>?_;have I1:=I.ex e1;have k2:=Out.bM (aZ (σ:=σ) k2);refine tW.go I1 (k2.mono (λ_ y=>y) λx y H' c dd ex rx=>y H' _ c dd ((Gr.ex e1).trans (Gr.ex ex)) (I1.ex ex) rx) λod u H2 k3 e2 ru=>?_;have I2:=I1.ex e2;have e12:=e1.trans e2;split at k3
 .next h i' b kvs hl=>
  obtain⟨a,C,dx,fs,l,rfl,m1,m2,ml,ha,rfl,c1,c2,c3,c4,c5,c6,l1,l2,l3⟩:=ou co I2.wok ru hl;refine⟨a,C,dx,fs,.ref l,rfl,c2,c4,c5,l1,?_⟩;have k3:=Out.bM (aZ (σ:=σ) k3);refine tQ.go I2 (k3.mono (λ_ y=>y) λx y H' c dd ex rx=>y H' _ c dd ((Gr.ex e12).trans (Gr.ex ex)) (I2.ex ex) rx) λkd w H3 k4 e3 rk=>?_;have I3:=I2.ex e3;have l3':=l3.ex e3 I2.kd;have rv3:=(rv.ex e2 I1.kd).ex e3 I2.kd;refine⟨l,rfl,?_⟩;split at k4
  .next hh hz=>
   obtain⟨ha2,hcase⟩:=xM hh;have hz:=aen hz;rcases hcase with⟨rfl,j,rfl⟩|⟨rfl,ds,kk,rfl,hkk,hdep⟩
   .obtain⟨kv,q1,q2,q3⟩:=l3';cases rk;have hlen:kv.length=kvs.length:=by
     have:=congrArg List.length q2;simpa using this.symm
    rw[wV q2]at ha2;have hn:valV kv (Sum.inl j)=none:=by
     cases hv:valV kv (Sum.inl j) with
     |none=>rfl
     |some _=>rw[hv]at ha2;cases ha2
    refine .inl ⟨kv,j,q1,rfl,sz_lt (by rw[hlen];exact hz),?_⟩;rw[putK_new v hn];obtain⟨gr,I4⟩:=rO (b:=false) (kvs':=kvs++[(.int j,d)]) (o':=.dK (kv++[(Sum.inl j,v)])) I3 m1 m2 ha c1 (e3 _ _ c2) (c3.ex e3 I2.kd) c6 l1 l2 aek λgr=>⟨_,aeu,by simp[q2,keyD],by
     rw[adI,adI];exact(q3.gr gr I3.kd).back (rv3.gr gr I3.kd)⟩
    exact k4 σ _ g ((Gr.ex (e12.trans e3)).trans gr) I4
   .obtain⟨o',xs,vs,q1,q2,q3,q4,q5,q6⟩:=l3';have hlen:xs.length=kvs.length:=by
     have:=congrArg List.length q3;simpa using this.symm
    have ek:=jX hkk;rw[<-ek,o7 q3]at ha2;have hn:atKey xs kk=none:=by
     cases hv:atKey xs kk with
     |none=>rfl
     |some _=>rw[hv]at ha2;cases ha2
    have q4':=q4;rw[q3]at q4';rw[hw]at q2;cases rk with
    | @tup bb us _ hs' ht=>
     refine .inr ⟨o',xs,g,_,bb,kk,q1,q2,q4',rfl,.tup hs' ht,hkk,hdep,sz_lt (by rw[hlen];exact hz),λo2 u2 ru2 nd=>?_⟩;rw[storedH_new hn]at nd;obtain⟨gr,I4⟩:=rO (b:=true) (kvs':=kvs++[(.tuple ds,d)]) (o':=bY l o2) I3 m1 m2 ha c1 (e3 _ _ c2) (c3.ex e3 I2.kd) c6 l1 l2 aek λgr=>⟨o2,xs++[(kk,bb,u2)],vs++[v],aeu,by rw[hw];exact nd,by simp[q3,ek],by
      rw[adI,adI];exact(q4.gr gr I3.kd).back ((Rep.tup hs' ht).gr gr I3.kd),by
      rw[adI];exact q5.append (.cons ru2 .nil),by
      rw[adI];exact(q6.gr gr I3.kd).back (rv3.gr gr I3.kd)⟩
     exact k4 σ _ g ((Gr.ex (e12.trans e3)).trans gr) I4
  .exact ael k4
 .exact ael k3
end
section
variable{X:Cx}{o i:Expr}{td ty:TE}{pos tpos:Pos}
def Zv(X:Cx)(td ty:TE):TS:=λD σ H=>td σ H λx H2=>ty σ H2 λy H3=>∃a,x=.ref a/\((∃kvs i,H3 a=some (.dK kvs)/\y=.int i/\(valV kvs (Sum.inl i)).isSome=true/\D.nx σ (upd H3 a (.dK (dropK kvs (Sum.inl i)))))\/
 ∃(o:Obj) (xs:List dN) (g:Gh) (d:Dat) (b:Addr) (k:NestedKey),H3 a=some (bY a o)/\dw X.w a o xs/\au X.K g H3 (xs.map λx=>V.ref x.2.1) (xs.map λx=>x.1.data)/\y=.ref b/\Rep X.K g H3 y d/\gH d=some k/\k.depth<=8/\(atKey xs k).isSome=true/\∀(o':Obj),dw X.w a o' (withoutH xs k)->D.nx σ (upd H3 a (bY a o')))
theorem Kz(hu:X.A.units+64<cLine)(ho:PE X o td)(hi:PE X i ty):PS X (.Delete [.Subscript o i tpos] pos) (Zv X td ty):=by
 refine⟨λpins s σ H D I h=>?_⟩;refine wpAny_Delete (wpAny_deleteEach_cons (wpAny_delete_Subscript (thn (ho.run pins s σ H _ I h) λu s1 ⟨x,H1,I1,rx,q1⟩=>thn (hi.run pins s1 σ H1 _ I1 q1) λiv s2 ⟨y,H2,I2,ry,a,ex,q2⟩=>?_)));subst ex
 obtain rfl:u=Value.ref a:=rx
 rcases q2 with⟨kvs,j,h1,rfl,hl,q⟩|⟨ob,xs,g,d,b,k,h1,h2,h3,rfl,h4,h5,h6,hl,q⟩
 .exact d_delItem (k:=Sum.inl j) I2 h1 ry hl λs3 I3=>wpAny_deleteEach_nil ⟨σ,_,I3,q⟩
 .obtain rfl:iv=Value.ref b:=ry
  obtain⟨p,hp⟩:=Option.isSome_iff_exists.mp hl;refine wpAny_delItem_heap (knd:=nestedKind X.prog X.w) (k:=k) (hsz:=h2.len) (show X.A.in1.units+8<cLine by show X.A.units+1+8<cLine;omega) ⟨key_is I2 h4 h5 rfl,h6⟩ h2.sys (oM I2 h1 h2 rfl h3) hp λh' dd hs'=>?_;obtain⟨o',es,ep,g1,g2,g3,g4,g5,g6⟩:=dd;have nd:dw X.w a o' (withoutH xs k):=⟨h2.sys,g2,⟨es,ep,g3,g4⟩,g6,aed (adL _ _) h2.len,λx hx=>h2.dep x (aea.mp hx).1⟩;exact wpAny_deleteEach_nil ⟨σ,_,d_write I2 (by rw[h1];exact True.intro) hs' ⟨o',g1⟩ (qP g1),q o' nd⟩
end
theorem uW{α β:Type}(f:α->β)(c:α->Bool):∀l:List α,(((l.map f).zip l).filter λp=>c p.2).map (·.1)=(l.filter c).map f
 |[]=>rfl
 |a::l=>by
  rw[ada,ad8,adQ,adQ];cases c a
  .exact uW f c l
  .simp only[if_true,ada,uW f c l]
theorem O8{K:ac8}{g:Gh}{H:Hp}(kk:NestedKey):∀{xs:List dN} {vs:List V} {kvs:List (Dat×Dat)},kvs.map (·.1)=xs.map (λx=>x.1.data)->au K g H (xs.map λx=>V.ref x.2.1) (kvs.map (·.1))->Vals vs (xs.map (·.2.2))->au K g H vs (kvs.map (·.2))->
  ∃vs',(kvs.filter λp=>!PyData.eqv p.1 kk.data).map (·.1)=(withoutH xs kk).map (λx=>x.1.data)/\au K g H ((withoutH xs kk).map λx=>V.ref x.2.1) ((kvs.filter λp=>!PyData.eqv p.1 kk.data).map (·.1))/\Vals vs' ((withoutH xs kk).map (·.2.2))/\au K g H vs' ((kvs.filter λp=>!PyData.eqv p.1 kk.data).map (·.2))
 |[],_,[],_,_,.nil,_=>⟨[],rfl,.nil,.nil,.nil⟩
 |[],_,_::_,h,_,_,_=>by cases h
 |_::_,_,[],h,_,_,_=>by cases h
 |x::xs,_,q::qs,h1,.cons r1 t1,.cons w1 w2,.cons r2 t2=>by
  simp only[ada,List.cons.injEq]at h1;obtain⟨vs',i1,i2,i3,i4⟩:=O8 kk h1.2 t1 w2 t2;have hq:(!PyData.eqv q.1 kk.data)=decide (x.1≠kk):=by rw[h1.1,Ep];by_cases hz:x.1=kk<;>simp[hz]
  unfold withoutH;rw[adQ,adQ,hq];cases hb:decide (x.1≠kk) with
  |true=>exact⟨_::vs',by simp only[if_true,ada,h1.1];exact congrArg _ i1,by simp only[if_true,ada];exact .cons r1 i2,by simp only[if_true,ada];exact .cons w1 i3,by simp only[if_true,ada];exact .cons r2 i4⟩
  |false=>
   simp only[adD,if_false];exact⟨vs',i1,i2,i3,i4⟩
theorem Vf{K:ac8}{g:Gh}{H:Hp}{α:Type}(c:α->Bool)(key:α->Dat)(dd:Dat->Bool):∀{vs:List V} {kvs:List (Dat×Dat)} {xs:List α},(∀x∈xs,c x=dd (key x))->kvs.map (·.1)=xs.map key->vs.length=xs.length->au K g H vs (kvs.map (·.2))->
  (kvs.filter λp=>dd p.1).map (·.1)=(xs.filter c).map key/\au K g H (((vs.zip xs).filter λp=>c p.2).map (·.1)) ((kvs.filter λp=>dd p.1).map (·.2))
 |[],[],[],_,_,_,_=>⟨rfl,.nil⟩
 |[],[],_::_,_,h,_,_=>by cases h
 |[],_::_,_,_,_,_,h=>by cases h
 |_::_,[],_,_,_,_,h=>by cases h
 |_::_,_::_,[],_,h,_,_=>by cases h
 |u::us,q::qs,x::xs,hc,hk,hl,.cons h t=>by
  simp only[ada,List.cons.injEq]at hk;have hq:=hc x adg;rw[<-hk.1]at hq;obtain⟨i1,i2⟩:=Vf c key dd (λy hy=>hc y (adf _ hy)) hk.2 (adT hl) t;rw[ad8,adQ,adQ,adQ,hq];cases hb:dd q.1 with
  |true=>exact⟨by simp only[if_true,ada,i1,hk.1],by simp only[if_true,ada];exact .cons h i2⟩
  |false=>exact⟨by simpa using i1,by simpa using i2⟩
section
variable{X:Cx}{aj:aC}{W:WX}{o i:Expr}{f:Str}{pos tpos p1:Pos}{fo fk:QF}
theorem Qw(co:cJ X.K aj)(hw:aj.w=X.w)(hu:X.A.units+64<cLine)(ho:QW aj X W o fo)(hb:baseOk o=true)(hk:QE aj X W i fk):SE aj X W false (.Delete [.Subscript (.Attribute o f p1) i tpos] pos) (wD f fo fk):=by
 refine PS.weak (Kz hu (pe_fld ho (cU hb)) hk) λD σ H ⟨g,Z,M,I,z⟩=>?_;unfold wD at z;have k2:=Out.bM (aZ (σ:=σ) z);refine tW.go I (k2.mono (λ_ y=>y) λx y H' c dd ex rx=>y H' _ c dd (Gr.ex ex) (I.ex ex) rx) λod u H2 k3 e2 ru=>?_;have I2:=I.ex e2;split at k3
 .next h i' b kvs hl=>
  obtain⟨a,C,dx,fs,l,rfl,m1,m2,ml,ha,rfl,c1,c2,c3,c4,c5,c6,l1,l2,l3⟩:=ou co I2.wok ru hl;refine⟨a,C,dx,fs,.ref l,rfl,c2,c4,c5,l1,?_⟩;have k3:=Out.bM (aZ (σ:=σ) k3);refine tQ.go I2 (k3.mono (λ_ y=>y) λx y H' c dd ex rx=>y H' _ c dd ((Gr.ex e2).trans (Gr.ex ex)) (I2.ex ex) rx) λkd w H3 k4 e3 rk=>?_;have I3:=I2.ex e3;have l3':=l3.ex e3 I2.kd;refine⟨l,rfl,?_⟩;split at k4
  .next hh hz=>
   obtain⟨ha2,hcase⟩:=xM hh;rcases hcase with⟨rfl,j,rfl⟩|⟨rfl,ds,kk,rfl,hkk,hdep⟩
   .obtain⟨kv,q1,q2,q3⟩:=l3';cases rk;rw[wV q2]at ha2;refine .inl ⟨kv,j,q1,rfl,ha2,?_⟩;have hf:=λ(H':Hp)(r:au X.K g H' (kv.map (·.2)) (kvs.map (·.2)))=>Vf (K:=X.K) (g:=g) (H:=H') (λp:Key×V=>decide (p.1≠Sum.inl j)) (λp=>keyD p.1) (λz=>!PyData.eqv z (.int j)) (vs:=kv.map (·.2)) (kvs:=kvs) (xs:=kv) (λx _=>by
     cases hx:x.1 with
     |inl z=>by_cases hz:z=j<;>simp[keyD,PyData.eqv,hz]
     |inr z=>simp[keyD,PyData.eqv]) q2 (by simp) r
    have ez:(((kv.map (·.2)).zip kv).filter λp=>decide (p.2.1≠Sum.inl j)).map (·.1)=(dropK kv (Sum.inl j)).map (·.2):=uW (·.2) (λp:Key×V=>decide (p.1≠Sum.inl j)) kv;obtain⟨gr,I4⟩:=rO (b:=false) (kvs':=kvs.filter λp=>!PyData.eqv p.1 (.int j)) (o':=.dK (dropK kv (Sum.inl j))) I3 m1 m2 ha c1 (e3 _ _ c2) (c3.ex e3 I2.kd) c6 l1 l2 aek λgr=>⟨_,aeu,(hf _ (q3.gr gr I3.kd)).1,by
     rw[<-ez];exact(hf _ (q3.gr gr I3.kd)).2⟩
    exact k4 σ _ g ((Gr.ex (e2.trans e3)).trans gr) I4
   .obtain⟨o',xs,vs,q1,q2,q3,q4,q5,q6⟩:=l3';have ek:=jX hkk;rw[<-ek,o7 q3]at ha2;rw[hw]at q2;have q4':=q4;rw[q3]at q4';cases rk with
    | @tup bb us _ hs' ht=>
     refine .inr ⟨o',xs,g,_,bb,kk,q1,q2,q4',rfl,.tup hs' ht,hkk,hdep,ha2,λo2 nd=>?_⟩;obtain⟨gr,I4⟩:=rO (b:=true) (kvs':=kvs.filter λp=>!PyData.eqv p.1 (.tuple ds)) (o':=bY l o2) I3 m1 m2 ha c1 (e3 _ _ c2) (c3.ex e3 I2.kd) c6 l1 l2 aek λgr=>by
      obtain⟨vs',i1,i2,i3,i4⟩:=O8 kk q3 (q4.gr gr I3.kd) q5 (q6.gr gr I3.kd);rw[ek]at i1 i2 i4;exact⟨o2,withoutH xs kk,vs',aeu,by rw[hw];exact nd,i1,i2,i3,i4⟩
     exact k4 σ _ g ((Gr.ex (e2.trans e3)).trans gr) I4
  .exact ael k4
 .exact ael k3
end
def Vq(l:Addr)(o:Obj)(xs:List dN):It:=
 ⟨λi H=>H l=some (bY l o)/\i<xs.length,λi H x H'=>H'=H/\∃e,xs[i]?=some e/\x=.ref e.2.1,λi H=>H l=some (bY l o)/\xs.length<=i⟩
theorem pin_at{X:Cx}{pins:List (Addr×Obj)}{σ:L2.St}{H:Hp}{s:Shared}{l:Addr}{o:Obj}(I:L2.Inv X pins σ H s)(h:H l=some (bY l o)):s.heap.get? l=some o:=(show ObjOk X.prog X.w H s.heap l (bY l o) from I.hok l _ h).1
theorem dw.at{w:World}{l:Addr}{o:Obj}{xs:List dN}{es:Array DictEntry}{ep:Nat}(n:dw w l o xs)(h:o.data=.dict es ep):es.size=xs.length/\∀(i:Nat) (e:dN),xs[i]?=some e->∃en,es[i]?=some en/\en.key=.ref e.2.1:=by
 obtain⟨es',ep',h1,h2⟩:=n.ent;rw[h]at h1;cases h1;refine⟨?_,λi e hi=>⟨Jk w e,?_,rfl⟩⟩
 .have:=congrArg List.length h2;simpa using this
 .rw[<-adK,h2,adq,hi];rfl
theorem Yn{P:Program}{w:World}{K:ac8}{tg:Expr}{l:Addr}{o:Obj}{xs:List dN}{es:Array DictEntry}{ep:Nat}(it:Addr)(n:dw w l o xs)(hod:o.data=.dict es ep):Turn P w K tg (Vq l o xs) [it] it (λi h=>h.IsKeyIter it l i xs.length ep) where
 mem:=adu.mpr rfl
 obj:=λi h st b hb=>by
  cases adu.mp hb;obtain⟨oi,e,c,dd⟩:=st;refine⟨oi,e,λv z=>?_⟩;rw[dd]at z;cases z
 keep:=λi h h' st k=>st.at (k it (adu.mpr rfl))
 item:=by intro X hP hw hK hc i pins s σ H E I hf st hg;subst hP hw hK;obtain⟨g0,g1,g2,g3,g4,g5⟩:=hf it (adu.mpr rfl);obtain⟨sz,ent⟩:=n.at hod;have hlt:i<xs.length:=hg.2;have hx:xs[i]?=some xs[i]:=adh hlt;obtain⟨en,e1,e2⟩:=ent i _ hx;refine next_key_item st (pin_at I hg.1) hod sz e1 ?_;intro h' st' sb;have J:L2.Inv X pins σ H { s with heap:=h' }:=I.turned (t':=s.toks) (λb ob hb e=>(sb.2 b hb).trans e) g0 g1 g3 g4 g5;obtain⟨oi,a1,a2,a3⟩:=id st';exact⟨en.key,rfl,go_of (s:={ s with heap:=h' }) a1 a2 a3 (by decide) ⟨.ref xs[i].2.1,H,J,e2,⟨rfl,_,hx,rfl⟩,st',λb hb=>(hf b hb).1⟩⟩
 done:=by intro X hP hw hK hc i pins s σ H E I hf st hg;subst hP hw hK;obtain⟨g0,g1,g2,g3,g4,g5⟩:=hf it (adu.mpr rfl);exact next_key_end (I.ok.hd hc) st (pin_at I hg.1) hod (n.at hod).1 hg.2 λh' eb=>⟨rfl,I.turned (t':=s.toks) (λb ob hb e=>eb b ob hb e) g0 g1 g3 g4 g5⟩
 self:=λA i s Q E st h=>by
  refine wpAny_pyIter_slot st.typeIs PySem.F.slot_dict_keyiterator_iter (wpAny_call_entry PySem.F.slot_dict_keyiterator_iter st.typeIs PySem.F.entry_dict_keyiterator_iter ?_ (PySem.F.args_dict_keyiterator_iter_1 _));exact aep ⟨_,rfl,"dict_keyiterator",_,st.typeIs,PySem.F.slot_dict_keyiterator_next.lookup,h⟩
def Zg(X:Cx)(td:TE):TI:=λσ H R=>td σ H λx H1=>∃l o xs,x=.ref l/\H1 l=some (bY l o)/\dw X.w l o xs/\R (Vq l o xs) H1
theorem U7{X:Cx}{tg e:Expr}{td:TE}(he:PE X e td):PI X tg e (Zg X td):=by
 constructor;intro pins s σ H R I h;refine thn (he.run pins s σ H _ I h) ?_;rintro u s1 ⟨x,H1,I1,rx,l,o,xs,rfl,hl,n,q⟩
 obtain rfl:u=Value.ref l:=rx
 obtain⟨es,ep,hd,_⟩:=n.ent;refine iter_keys n.sys (pin_at I1 hl) n.ex hd (pi_one (tk:=s1.toks) I1 _ (Yn _ n hd) ⟨_,Heap.get?_push_size _ rfl,rfl,?_⟩ q);rw[(n.at hd).1]<;>rfl
theorem QJ{K:ac8}{aj:aC}{l:Addr}{o:Obj}{xs:List dN}{ks:List Dat}:qb K (Vq l o xs) (λg H=>H l=some (bY l o)/\au K g H (xs.map λx=>V.ref x.2.1) ks) ks where
 go:=λg i H c hi=>⟨c.1,by have:=c.2.length;simp at this;omega⟩
 yld:=λg i H x H' d k c e y=>by
  obtain⟨rfl,en,h1,rfl⟩:=y;obtain⟨v,h2,h3⟩:=c.2.get e;rw[adq,h1]at h2;cases h2;exact⟨Ex.refl _,h3⟩
 stop:=λg i H c e=>⟨c.1,by have:=c.2.length;simp at this;omega⟩
 ex:=λg H H' k c e=>⟨e _ _ c.1,c.2.ex e k⟩
 add:=λg g' H H' k c r e=>⟨e _ _ c.1,c.2.gr r k⟩
def lZ(f:Str)(o:QF):IF:=λM Z=>(o M Z).bind λod=>match jK M f od with
 |some (_,_,true,kvs)=>.ok (kvs.map (·.1))
 |_=>.bad
def oU(f:Str)(o:QF):QF:=λM Z=>(o M Z).bind λod=>match jK M f od with
 |some (_,_,_,kvs)=>.ok (.list (kvs.map (·.1)))
 |none=>.bad
section
variable{X:Cx}{aj:aC}{W:WX}{o tg:Expr}{f:Str}{pos p p1:Pos}{fo:QF}
theorem Mv(co:cJ X.K aj)(hw:aj.w=X.w)(ho:QW aj X W o fo)(hb:baseOk o=true):QI aj X W false tg (.Attribute o f p1) (lZ f fo):=by
 have h0:=U7 (tg:=tg) (pe_fld (X:=X) (pos:=p1) (f:=f) ho (cU hb));refine⟨λpins s σ H R I h=>h0.run pins s σ H R I ?_⟩;obtain⟨g,Z,M,J,h⟩:=h;unfold lZ at h;refine tW.go J h.bnd λod u H1 k2 e1 ru=>?_;have J1:=J.ex e1;split at k2
 .next h i kvs hl=>
  obtain⟨a,C,dx,fs,l,rfl,m1,m2,ml,ha,rfl,c1,c2,c3,c4,c5,c6,l1,l2,o',xs,vs,q1,q2,q3,q4,q5,q6⟩:=ou co J1.wok ru hl;rw[hw]at q2;exact⟨a,C,dx,fs,.ref l,rfl,c2,c4,c5,l1,l,o',xs,rfl,q1,q2,k2 _ _ H1 e1 (QJ (aj:=aj)) ⟨q1,q4⟩ λz=>nomatch z⟩
 .exact ael k2
end
theorem Mu{P:Program}{w:World}{A:Around}{l I:Addr}{o:Obj}{xs:List dN}{es:Array DictEntry}{ep:Nat}(hh:A.handled=none)(hne:l≠I)(n:dw w l o xs)(hd:o.data=.dict es ep):Walks P w A I [I,l] [I] xs.length (λi v=>∃e,xs[i]?=some e/\v=Value.ref e.2.1) (λi h=>h.IsKeyIter I l i xs.length ep/\h.get? l=some o) where
 sub:=λb hb=>by simp at hb;simp[hb]
 frame:=λi h h' st k=>⟨st.1.at (k I (by simp)),k l (by simp) o st.2⟩
 item:=λi s Q E hi st hQ=>by
  obtain⟨sz,ent⟩:=n.at hd;have hx:xs[i]?=some xs[i]:=adh hi;obtain⟨en,e1,e2⟩:=ent i _ hx;refine next_key_item st.1 st.2 hd sz e1 ?_;intro h' st' sb;exact hQ en.key h' s.toks ⟨_,hx,e2⟩ ⟨st',(sb.2 l hne).trans st.2⟩ λb ob hb e=>(sb.2 b λz=>hb (by simp[z])).trans e
 done:=λs Q E st hQ=>next_key_end hh st.1 st.2 hd (n.at hd).1 (adz _) λh' eb=>hQ h' s.toks λb ob hb e=>eb b ob (λz=>hb (by simp[z])) e
 self:=λi s Q E st hQ=>wpAny_pyIter_keyiter st.1 hQ
theorem PB{P:Program}{w:World}{l:Addr}{o:Obj}{xs:List dN}(n:dw w l o xs):PySem.W.KdlSrc P w "dict" l l xs.length (λi v=>∃e,xs[i]?=some e/\v=Value.ref e.2.1) (λh=>h.get? l=some o) where
 type:=λs e=>⟨o,e,n.ex.1⟩
 there:=λh e=>⟨Heap.lt_size e,Heap.lt_size e⟩
 keep:=λh h' e k=>k l (.inl rfl) o e
 notList:=by decide
 notTuple:=by decide
 hint:=λA E s Q e hq=>PySem.W.kdl_hint_dict ⟨o,e,n.ex.1⟩ hq
 iter:=λA s hh e=>by
  obtain⟨es,ep,hd,_⟩:=n.ent;refine⟨_,_,λE Q hq=>iter_keys n.sys e n.ex hd hq,Mu hh (adC (Heap.lt_size e)) n hd,⟨_,Heap.get?_push_size _ rfl,rfl,?_⟩,Heap.get?_push_of_some _ e⟩;rw[(n.at hd).1]<;>rfl
def Kg(X:Cx):List V->Hp->VK->Prop:=λxs H Q=>(∃p kvs,xs=[.ref p]/\H p=some (.dK kvs)/\∀q,H q=none->Q (.ref q) (upd H q (.lst (kvs.map λkv=>kV kv.1))))\/∃p o es,xs=[.ref p]/\H p=some (bY p o)/\dw X.w p o es/\∀q,H q=none->Q (.ref q) (upd H q (.lst (es.map λe=>V.ref e.2.1)))
theorem Hj{X:Cx}(hc:X.calm=true):CallR X (.type "list") (Kg X):=by
 intro pins s σ H xs us Q I r h;rcases h with h|⟨p,o,es,rfl,hp,n,q⟩
 .exact call_list_dK hc pins s σ H xs us Q I r h
 .obtain⟨u,rfl,rx⟩:=vals1 r
  obtain rfl:u=Value.ref p:=rx
  refine PySem.W.kdl_call (PB n) (I.ok.hd hc) (pin_at I hp) n.len ?_;intro h' tk acc c' keep hS hacc;have el:acc.toList.length=es.length:=by rw[adG];exact hacc.1
  refine⟨.ref s.heap.objs.size,upd H s.heap.objs.size (.lst (es.map λe=>V.ref e.2.1)),I.laid keep (adz _) (show ObjOk X.prog X.w _ _ _ (.lst (es.map λe=>V.ref e.2.1)) from⟨by rw[adi];exact n.len,acc.toList,c',?_,?_⟩),rfl,q _ (I.hok.fresh (adz _))⟩
  .refine vals_of_at (by rw[adi,el]) λj x w h1 h2=>?_;obtain⟨e,he,rfl⟩:=hacc.2 j w (by rw[<-adK];exact h2);rw[adq,he]at h1;cases h1;rfl
  .rw[Array.toArray_toList];exact hS
section
variable{X:Cx}{aj:aC}{W:WX}{o e:Expr}{f:Str}{pos p p1 pos':Pos}{fo:QF}
theorem BK{K:ac8}{g:Gh}{H:Hp}:∀{kv:List (Key×V)} {kvs:List (Dat×Dat)},kvs.map (·.1)=kv.map (λp=>keyD p.1)->au K g H (kv.map λp=>kV p.1) (kvs.map (·.1))
 |[],[],_=>.nil
 |[],_::_,h=>by cases h
 |_::_,[],h=>by cases h
 |a::kv,b::kvs,h=>by
  simp only[ada,List.cons.injEq]at h;rw[ada,ada,h.1];refine .cons ?_ (BK h.2);cases a.1 with
  |inl i=>exact .int i
  |inr x=>exact .str x
theorem NP(co:cJ X.K aj)(hw:aj.w=X.w)(σ:L2.St)(H:Hp)(Q:VK)(h:tQ X.K aj W (oU f fo) σ H Q):tFld X.K (tW X.K aj W fo) f σ H λx H1=>Kg X [x] H1 Q:=by
 obtain⟨g,Z,M,J,h⟩:=h;unfold oU at h;refine tW.go J h.bnd λod u H1 k2 e1 ru=>?_;have J1:=J.ex e1;split at k2
 .next h i b kvs hl=>
  obtain⟨a,C,dx,fs,l,rfl,m1,m2,ml,ha,rfl,c1,c2,c3,c4,c5,c6,l1,l2,l3⟩:=ou co J1.wok ru hl;refine⟨a,C,dx,fs,.ref l,rfl,c2,c4,c5,l1,?_⟩;cases b with
  |false=>
   obtain⟨kv,q1,q2,q3⟩:=l3;exact .inl ⟨l,kv,rfl,q1,λq nq=>k2 (.ref q) _ (e1.trans (Ex.new nq)) (.lst (.inl ⟨aeu,J1.kd.fresh nq⟩) (BK q2))⟩
  |true=>
   obtain⟨o',xs,vs,q1,q2,q3,q4,q5,q6⟩:=l3;rw[hw]at q2;exact .inr ⟨l,o',xs,rfl,q1,q2,λq nq=>k2 (.ref q) _ (e1.trans (Ex.new nq)) (.lst (.inl ⟨aeu,J1.kd.fresh nq⟩) (q4.ex (Ex.new nq) J1.kd))⟩
 .exact ael k2
theorem Ny(co:cJ X.K aj)(hw:aj.w=X.w)(hc:X.calm=true)(hg:Gl X "list")(hm:X.mg "list"=none)(ho:QW aj X W o fo)(hb:baseOk o=true):QE aj X W (.Call (.Name "list" p) [.Attribute o f p1] [] pos) (oU f fo):=by
 have h1:=pa_cons (pe_fld (X:=X) (pos:=p1) (f:=f) ho (cU hb)) pa_nil (aU rfl []);have hv:BV (.type "list") "list":=⟨by decide +kernel,by decide,by decide⟩
 refine PE.weak (pe_callTy (pos:=pos) (p:=p) (Hj hc) hg hm hv.1 h1 hv.2.1 hv.2.2 (aU rfl []) (by with_unfolding_all rfl)) λσ H Q h=>?_;exact NP co hw σ H Q h
def vR(ft:Ft)(o:QF)(f:Str)(b:Bool):SF:=λM Z=>((o (M++[⟨"",[]⟩]) Z).at (M++[⟨"",[]⟩])).then Z λod M2=>match cV M2 od with
 |some (h,i)=>match ft.has i.cls f&&decide (i.fs.length<100) with
  |true=>.next Z (M2.set h (i.put f (.dic b [])))
  |false=>.bad
 |none=>.bad
def W6(X:Cx)(b:Bool):TE:=λ_ H Q=>∀p,H p=none->match b with
 |false=>Q (.ref p) (upd H p (.dK []))
 |true=>∀o,dw X.w p o []->Q (.ref p) (upd H p (bY p o))
theorem Ro{b:Bool}:PE X (.Dict [] [] pos) (W6 X b):=by
 cases b with
 |false=>exact PE.weak pe_dnewK λσ H Q h p np=>h p np
 |true=>
  refine⟨λpins s σ H Q I h=>wpAny_Dict_empty ?_⟩;have hz:(s.heap.push { cls:=.type "dict",data:=.dict #[] }).get? s.heap.objs.size=some { cls:=.type "dict",data:=.dict #[] }:=Heap.get?_push_size _ rfl
  have hs:(s.heap.objs.size==sysModules)=false:=beq_eq_false_iff_ne.mpr (Ne.symm (adC I.big));exact⟨.ref s.heap.objs.size,_,I.laid (a:=s.heap.objs.size) (o:=bY s.heap.objs.size _) (t':=s.toks) (λ_ _ q=>Heap.get?_push_of_some _ q) (adz _) (qP hz),rfl,h _ (I.hok.fresh (adz _)) _ ⟨hs,⟨rfl,rfl,rfl⟩,⟨#[],0,rfl,rfl⟩,adV,adJ _,λx hx=>absurd hx adH⟩⟩
theorem QL{ft:Ft}{b:Bool}(co:cJ X.K aj)(fk:rN ft aj)(hw:aj.w=X.w)(ho:QW aj X W o fo)(hs:swapsWith (.Dict [] [] p) (some (.Attribute o f pos')) pos.line X.env=pure false):SE aj X W false (.Assign [.Attribute o f pos'] (.Dict [] [] p) pos) (vR ft fo f b):=by
 refine PS.weak (ps_fld ho (Ro (b:=b)) hs) λD σ H ⟨g,Z,M,I,z⟩=>?_;have core:∀(l:Addr) (ob:HO),H l=none->pW ob->(∀(g':Gh) (H':Hp),H' l=some ob->bT X.K aj g' H' l b [])->tW X.K aj W fo σ (upd H l ob) (λx H2=>∃a C dx fs,x=.ref a/\H2 a=some (.ins C dx fs)/\Cls X.K C/\NoAttr X.K C f/\fs.length<1000/\D.nx σ (upd H2 a (.ins C dx (putF f (.ref l) fs)))):=by
  intro l ob nl mu at';obtain⟨gr,I1,tb,ow,mm⟩:=rA I nl (Ex.new nl) aeu mu;unfold vR at z;have k1:=Out.bM (aZ (σ:=σ) z);refine tW.go I1 (k1.mono (λ_ y=>y) λx y H' c dd ex rx=>y H' _ c dd (gr.trans (Gr.ex ex)) (I1.ex ex) rx) λod u H2 k2 e2 ru=>?_;have I2:=I1.ex e2;split at k2
  .next h i hi=>
   split at k2
   .next hb=>
    rw[ac9]at hb;obtain⟨a,C,dx,fs,_,m1,m2,ha,rfl,c1,c2,c3,c4,c5,c6⟩:=oE co fk I2.wok ru hi hb.1;have nla:l≠a:=λz=>by
     subst z;cases I2.wok.inj _ _ _ ha tb;rw[mm]at m1;cases m1;exact m2 rfl
    refine⟨a,C,dx,fs,rfl,c2,c4,c5,?_,?_⟩
    .have:=aen hb.2;rw[c3.len];omega
    .have ch:=xO (f:=f) (C:=C) (dx:=dx) (fs':=putF f (.ref l) fs) I2.kd I2.wok ha m1 m2 tb mm ow;have w':=I2.wok.chg I2.kd ch ha m1 m2 c6 c1 c3 aeu (v:=.ref l) (fl:=.dic b []) ⟨l,rfl,aer rfl,at' _ _ (by rw[upd_ne nla];exact e2 _ _ aeu)⟩;exact k2 σ _ _ ((gr.trans (Gr.ex e2)).trans ch.gc.gr) (I2.chg ch w')
   .exact ael k2
  .exact ael k2
 intro l nl;cases b with
 |false=>exact core l _ nl aek λg' H' h=>⟨[],h,rfl,.nil⟩
 |true=>exact λob nd=>core l _ nl aek λg' H' h=>⟨ob,[],[],h,by rw[hw];exact nd,rfl,.nil,.nil,.nil⟩
end
def Wm(X:Cx)(D:Addr)(vs:List Nat)(g:TG)(tk:TE)(σ:L2.St)(Nx:Hp->Prop)(x:V)(H:Hp):Prop:=
 g x (L2.wipe σ vs) H λσ2 H2=>L2.wipe σ2 vs=L2.wipe σ vs/\tk σ2 H2 λy H4=>∃(o:Obj) (xs:List dN) (gg:Gh) (d:Dat) (b:Addr) (k:NestedKey),y=.ref b/\H4 D=some (bY D o)/\dw X.w D o xs/\au X.K gg H4 (xs.map λx=>V.ref x.2.1) (xs.map λx=>x.1.data)/\Rep X.K gg H4 y d/\gH d=some k/\k.depth<=8/\xs.length<sizeLine/\
  ∀o',dw X.w D o' (storedH xs k b (.bool true))->Nx (upd H4 D (bY D o'))
def Tq(X:Cx)(wi:TI)(g:TG)(tk:TE)(vs:List Nat):TE:=λσ H Q=>wi σ H λJ H1=>∀D,H1 D=none->∃W:Nat->Nat->Hp->Prop,(∃m,∀o,dw X.w D o []->W 0 m (upd H1 D (bY D o)))/\
 ∀i m H,W i m H->(J.stop i H/\Q (.ref D) H)\/(J.go i H/\∃Nx:Hp->Prop,(∀H',Nx H'->∃m',m'<m/\W (i+1) m' H')/\∀x H',J.yld i H x H'->Wm X D vs g tk σ Nx x H')
section
variable{X:Cx}
theorem La{pins:List (Addr×Obj)}{σ:L2.St}{H:Hp}{s:Shared}{E:Value->Shared->Prop}{D b:Addr}{o:Obj}{xs:List dN}{gg:Gh}{d:Dat}{k:NestedKey}{u:Value}{Q:Unit->Shared->Prop}(hu:X.A.units+64<cLine)(I:L2.Inv X pins σ H s)(hD:H D=some (bY D o))(n:dw X.w D o xs)(hr:au X.K gg H (xs.map λx=>V.ref x.2.1) (xs.map λx=>x.1.data))(hk:Rep X.K gg H (.ref b) d)(hd:gH d=some k)(h8:k.depth<=8)(hz:xs.length<sizeLine)(ru:RelV (.bl true) u)
  (q:∀s' o',dw X.w D o' (storedH xs k b (.bool true))->L2.Inv X pins σ (upd H D (bY D o')) s'->Q () s'):wpAny (model X.prog X.w) X.A (dictSet D (.ref b) u) Q E s:=by
 obtain rfl:u=.bool true:=ru
 refine wpAny_dictSet_heap (knd:=nestedKind X.prog X.w) (k:=k) (hsz:=Nat.le_of_lt hz) (show X.A.units+8<cLine by omega) ⟨key_is I hk hd rfl,h8⟩ (oM I hD n rfl hr) ?_;intro h' dd hs';obtain⟨o',es,ep,g1,g2,g3,g4,g5,g6⟩:=dd;have nd:dw X.w D o' (storedH xs k b (.bool true)):=⟨n.sys,g2,⟨es,ep,g3,g4⟩,g6,by have:=vq (xs:=xs) (k:=k) (b:=b) (u:=.bool true);omega,v7 n.dep h8⟩;exact q _ o' nd (d_write I (by rw[hD];exact True.intro) hs' ⟨o',g1⟩ (qP g1))
theorem RW{kx tg iter:Expr}{scope:Scope}{own:List (PySem.Str×Nat)}{pos vp:Pos}{vj:Nat}{wi:TI}{g:TG}{tk:TE}(hc:X.calm=true)(hN:X.N.Nodup)(hu:X.A.units+64<cLine)(hi:PI X tg iter wi)(ok:BlkOk X.N X.env.scope scope own)
  (hg:∀(t:Shared) (G:Hp) (C:Addr) (cl:List (PySem.Str×Addr)) (fp:List Addr),PG (X.blk t G scope (compEnvC scope cl C X.env) fp) tg g)
  (hk:∀(t:Shared) (G:Hp) (C:Addr) (cl:List (PySem.Str×Addr)) (fp:List Addr),PE (X.blk t G scope (compEnvC scope cl C X.env) fp) kx tk) (hs:∀x,foldedSetIterable iter X.env x=pure x) :
  PE X (.DictComp kx (.Constant (.bool true) vj vp) [⟨tg,iter,[],0⟩] scope pos) (Tq X wi g tk (own.map (·.2))):=by
 refine⟨λpins s σ H Q I h=>?_⟩;rw[arm_eval_DictComp];have cells:∀y∈scope.names,y.2=.free->∃c,X.env.cells.lookup y.1=some c:=λy hy e=>(ok.free y hy e).elim (λk=>I.ok.has _ (.inl k)) (λk=>I.ok.has _ (.inr k));refine wpAny_comprehension_free rfl hs (closure_ok cells) ok.kind (λy hy e=>by rw[ok.uniq y hy,e]) (thn (hi.run pins s σ H _ I h) λ_ _ hx=>thn hx λitv t0 h0=>?_);obtain⟨it,fp,tn,J,G0,rfl,I0,T,st0,f0,q⟩:=h0;refine wpAny_newObj_type (newEnv_comp ?_)
 -- the new dict,at D
 obtain⟨D,hD⟩:∃D,D=t0.heap.objs.size:=⟨_,rfl⟩;rw[<-hD];obtain⟨W,⟨m0,w00⟩,turn⟩:=q D (I0.hok.fresh (Nat.le_of_eq hD.symm));obtain⟨ob,hob⟩:∃ob:Obj,ob={ cls:=.type "dict",data:=.dict #[] }:=⟨_,rfl⟩
 have nd0:dw X.w D ob []:=by rw[hob];exact⟨by rw[hD];exact beq_eq_false_iff_ne.mpr (Ne.symm (adC I0.big)),⟨rfl,rfl,rfl⟩,⟨#[],0,rfl,rfl⟩,adV,adJ _,λx hx=>absurd hx adH⟩
 have w0:=w00 ob nd0;rw[<-hob];obtain⟨t1,ht1⟩:∃t1:Shared,t1={ t0 with heap:=t0.heap.push ob }:=⟨_,rfl⟩;obtain⟨G1,hG1⟩:∃G1,G1=upd G0 D (bY D ob):=⟨_,rfl⟩;rw[<-hG1]at w0;have grow:∀b o,t0.heap.get? b=some o->t1.heap.get? b=some o:=λb o e=>by rw[ht1];exact Heap.get?_push_of_some _ e
 have I1:L2.Inv X pins σ G1 t1:=by rw[ht1,hG1];refine I0.laid (t':=t0.toks) (λb o e=>Heap.get?_push_of_some _ e) (Nat.le_of_eq hD.symm) (qP ?_);rw[hD];exact Heap.get?_push_size _ (by rw[hob];rfl)
 have small:∀b∈fp,b<t0.heap.objs.size:=λb hb=>by
  obtain⟨o,e,_⟩:=T.obj _ _ st0 b hb;exact Heap.lt_size e
 have f1:∀b∈fp,FpOk X pins G1 b/\b<t1.heap.objs.size:=λb hb=>by
  have hlt:=small b hb;refine⟨⟨?_,(f0 b hb).2⟩,by rw[ht1];show b<(t0.heap.push ob).objs.size;rw[Heap.size_push];exact adZ hlt⟩;rw[hG1,upd_ne (by rw[hD];exact adC hlt)];exact(f0 b hb).1
 have st1:tn 0 t1.heap:=T.keep _ _ _ st0 λb _ o e=>grow b o e;have I2:=block_start I1 ok hN f1;have pg:=hg t1 G1 t1.heap.objs.size (cellsFrom (t1.heap.objs.size+1) scope.names (cloFrom X.env.cells scope.names [])) fp;have pk:=hk t1 G1 t1.heap.objs.size (cellsFrom (t1.heap.objs.size+1) scope.names (cloFrom X.env.cells scope.names [])) fp;have none1:∀b∈fp,G1 b=none:=λb hb=>(f1 b hb).1.1;rw[show({ t0 with heap:=t0.heap.push ob }:Shared)=t1 from ht1.symm];obtain⟨ce,hce⟩:∃ce,ce=compEnvC scope (cellsFrom (t1.heap.objs.size+1) scope.names (cloFrom X.env.cells scope.names [])) t1.heap.objs.size X.env:=⟨_,rfl⟩;rw[<-hce]at I2 pg pk;have cL:ce.locals=t1.heap.objs.size:=by rw[hce];rfl
 obtain⟨t2,ht2⟩:∃t2:Shared,t2={ t1 with heap:=pushCells (t1.heap.push { cls:=.type "dict",data:=.dict #[] }) scope.names }:=⟨_,rfl⟩
 rw[<-ht2]at I2;have st2:tn 0 t2.heap:=T.keep _ _ _ st1 λb _ o e=>by rw[ht2];exact pushCells_keeps _ _ _ _ (Heap.get?_push_of_some _ e)
 have still:∀{σ':L2.St} {G':Hp} {t':Shared},L2.Inv (X.blk t1 G1 scope ce fp) [] σ' G' t'->(∀b∈fp,G' b=none)->∀b∈fp,FpOk (X.blk t1 G1 scope ce fp) [] G' b:=λI' hn b hb=>
  ⟨hn b hb,(I'.ok.exf b hb).1,I'.ok.exfs b hb,.inl hb,λx c e=>(I'.ok.exf b hb).2 x c e,λp hp=>absurd (show p∈([]:List (Addr×Obj))++[] from hp) (by simp)⟩
 have pt:PTs (X.blk t1 G1 scope ce fp) [] tYes:=pts_nil;have pv:PE (X.blk t1 G1 scope ce fp) (.Constant (.bool true) vj vp) (tC (.bl true)):=pe_bl;have loop:codeAny (model X.prog X.w) X.A (.compLoop (.DictComp kx (.Constant (.bool true) vj vp) [⟨tg,iter,[],0⟩] scope pos) 0 (.ref it) (.ref D) ce) (compPost (model X.prog X.w) X.A X.xe none (EP X pins σ Q) (.ref D) t1.heap.objs.size) t2:=by
  refine compLoop_anyD (λn t'=>∃i G',L2.Inv (X.blk t1 G1 scope ce fp) [] (L2.wipe σ (own.map (·.2))) G' t'/\tn i t'.heap/\(∀b∈fp,G' b=none)/\W i n G') ?_ m0 ⟨0,G1,I2,st2,none1,w0⟩;rintro n t3 ⟨i,G3,I3,st3,n3,w3⟩;rcases turn i n G3 w3 with⟨stop,fin⟩|⟨go,Nx,hNx,step⟩
  .refine thnF (T.done (X.blk t1 G1 scope ce fp) rfl rfl rfl hc i [] t3 _ G3 (λ_ _=>False) I3 (still I3 n3) st3 stop) λr t4 ⟨hr,I4⟩=>?_;subst hr;have I5:L2.Inv X pins σ G3 t4:=I1.call' (ch:=fp) I4.os I4.base I4.hok I4.bare λb hb=>⟨(f1 b hb).1.2.2.2.1,(f1 b hb).1.2.1,(f1 b hb).1.2.2.2.2.1,(f1 b hb).1.2.2.2.2.2⟩;have nC:G3 t1.heap.objs.size=none:=by rw[<-cL];exact I4.free
   obtain⟨m,hn,_⟩:=I4.loc;have hn':t4.heap.Ns t1.heap.objs.size m:=by rw[<-cL];exact hn
   obtain⟨a0,a1,_,a3,a4,a5⟩:=I1.fpOk (adz _) nC;exact⟨m,hn',λh'' sb=>⟨.ref D,G3,I5.turned (t':=t4.toks) (λb o hb e=>(sb.2 b hb).trans e) a0 a1 a3 a4 a5,rfl,fin⟩⟩
  .refine thnF (T.item (X.blk t1 G1 scope ce fp) rfl rfl rfl hc i [] t3 _ G3 (λ_ _=>False) I3 (still I3 n3) st3 go) λr t4 ⟨u,hr,h4⟩=>?_;subst hr;refine thnF h4 λ_ t5 ⟨x,G5,I5,r5,y5,st5,n5⟩=>?_;refine thnF (pg.run _ t5 _ G5 x u _ (I5.pinned (still I5 n5) (T.obj _ _ st5)) r5 (step x G5 y5)) λ_ t6 ⟨σ6,G6,I6,hw6,q6⟩=>?_;refine thnF (pt.run _ t6 σ6 G6 (λb G=>b=true/\G=G6) I6 ⟨rfl,rfl⟩) λb t7 ⟨G7,I7,hb7,hG7⟩=>?_;subst hb7 hG7;have over:∀{t':Shared} {G':Hp},L2.Inv (X.blk t1 G1 scope ce fp) ([]++pinsAt fp t5.heap) σ6 G' t'->Nx G'->∃m,m<n/\∃i G',L2.Inv (X.blk t1 G1 scope ce fp) [] (L2.wipe σ (own.map (·.2))) G' t'/\tn i t'.heap/\(∀b∈fp,G' b=none)/\W i m G':=λ{t' G'} I' nx=>by
    obtain⟨m',hm,w'⟩:=hNx G' nx;have pin:∀b∈fp,∀o,t5.heap.get? b=some o->t'.heap.get? b=some o/\G' b=none:=λb hb o e=>
     let z:=I'.pin (b,o) (List.mem_append_right _ (List.mem_append_right _ (mem_pinsAt hb e)))
     ⟨z.1,z.2.1⟩
    refine⟨m',hm,i+1,G',(I'.unpinned (pins:=[])).weak (by rw[<-hw6,wipe_length]) (λj v e=>?_),T.keep _ _ _ st5 λb hb o e=>(pin b hb o e).1,λb hb=>?_,w'⟩
    .rw[<-hw6]at e;exact(wipe_some e).1
    .obtain⟨o,e,_⟩:=T.obj _ _ st5 b hb;exact(pin b hb o e).2
   simp only[if_true];refine thnF (pk.run _ t7 σ6 _ _ I7 q6) λz t8 ⟨yv,G8,I8,r8,o8,xs8,g8,d8,b8,k8,ey,hD8,n8,hr8,hk8,hd8,h88,hz8,nx⟩=>?_;subst ey
   obtain rfl:z=Value.ref b8:=r8
   refine thnF (pv.run _ t8 σ6 G8 (λv G=>v=.bl true/\G=G8) I8 ⟨rfl,rfl⟩) λz2 t9 ⟨y9,G9,I9,r9,hv9,hG9⟩=>?_;subst hv9 hG9;exact La (X:=X.blk t1 G1 scope ce fp) hu I9 hD8 n8 hr8 hk8 hd8 h88 hz8 r9 λs' o' nd I10=>over I10 (nx o' nd)
 have done:=codeAny_compStart_dict loop (T.self X.A 0 _ _ _ st2 loop);rw[hce,ht2]at done;subst hob;exact done
end
def mU(tg:bR)(tk:QF)(M:Mo)(Z:Env):List Dat->List (Dat×Dat)->Out (List (Dat×Dat))
 |[],acc=>.ok acc
 |d::ds,acc=>match tg d Z with
  |none=>.bad
  |some Z1=>(kW (tk M Z1)).bind λkd=>(dhas true acc kd).bind λr=>mU tg tk M Z ds (match r with
   |true=>acc
   |false=>acc++[(kd,.bool true)])
def O4(it:IF)(tg:bR)(vs:List Nat)(tk:QF):Mo->Env->Out (List (Dat×Dat)):=λM Z=>(it M Z).bind λds=>Out.when (decide (ds.length<=50000)) (mU tg tk M (aR Z vs) ds [])
def Vr(K:ac8)(aj:aC)(W:WX)(f:Mo->Env->Out (List (Dat×Dat))):TE:=λσ H Q=>∃g Z M,SInv K aj σ H g Z M/\(f M Z).sat (λkvs=>∀l o H',H l=none->Ex H H'->H' l=some (bY l o)->bT K aj (g.add l) H' l true kvs->Q (.ref l) H') (fO K aj W g H σ)
section
variable{X:Cx}{aj:aC}{W:WX}
theorem yC{tg:bR}{tk:QF}{M:Mo}{Z:Env}:∀{ds:List Dat} {acc:List (Dat×Dat)} {x:bJ},mU tg tk M Z ds acc≠.exc x
 |[],_,_,h=>nomatch h
 |d::ds,acc,x,h=>by
  rw[mU]at h;split at h
  .cases h
  .next Z1 e=>
   cases h1:tk M Z1 with
   |bad=>rw[h1]at h;cases h
   |exc y=>rw[h1]at h;cases h
   |ok kd=>
    rw[h1]at h;have h:((dhas true acc kd).bind λr=>mU tg tk M Z ds (match r with
     |true=>acc
     |false=>acc++[(kd,.bool true)]))=.exc x:=h
    cases h2:dhas true acc kd with
    |bad=>rw[h2]at h;cases h
    |exc y=>
     unfold dhas at h2;split at h2
     .cases h2
     .split at h2
      .split at h2<;>cases h2
      .cases h2
     .cases h2
    |ok r=>
     rw[h2]at h;exact yC h
theorem Lg{xs:List dN}{k:NestedKey}(h:∀x∈xs,x.2.2=.bool true):xs.map (putAt k (.bool true))=xs:=by
 have:∀x∈xs,putAt k (.bool true) x=x:=λx hx=>by
  unfold putAt;split
  .obtain⟨a,b,c⟩:=x;have:c=.bool true:=h _ hx;rw[this]
  .rfl
 calc xs.map (putAt k (.bool true))=xs.map id:=List.map_congr_left this
  _=xs:=List.map_id xs
theorem Es:∀{xs:List dN},(∀x∈xs,x.2.2=.bool true)->Vals (List.replicate xs.length (.bl true)) (xs.map (·.2.2))
 |[],_=>.nil
 |x::xs,h=>by
  rw[adl,List.replicate_succ,ada,h x adg];exact .cons rfl (Es λy hy=>h y (adf _ hy))
theorem Eb{K:ac8}{g:Gh}{H:Hp}:∀{kvs:List (Dat×Dat)} {n:Nat},n=kvs.length->(∀p∈kvs,p.2=.bool true)->au K g H (List.replicate n (.bl true)) (kvs.map (·.2))
 |[],_,h,_=>by subst h;exact .nil
 |p::kvs,_,e,h=>by
  subst e;rw[adl,List.replicate_succ,ada,h p adg];exact .cons (.bl true) (Eb rfl λy hy=>h y (adf _ hy))
theorem Xe{it:IF}{tg:bR}{js vs:List Nat}{tk:QF}(hw:aj.w=X.w)(hj:∀j∈js,j∈vs)(σ:L2.St)(H:Hp)(Q:VK)(h:Vr X.K aj W (O4 it tg vs tk) σ H Q) :
  Tq X (tI X.K aj W false it) (jY X.K aj js tg) (tQ X.K aj WF tk) vs σ H Q:=by
 obtain⟨g,Z,M,I,h⟩:=h;refine⟨g,Z,M,I,h.bnd.mono (λds hk J C H1 e1 w c _ D nD=>?_) λ_ z=>z⟩;obtain⟨hz,hk⟩:=hk.fB;have hlen:=aen hz;obtain⟨total,htot,hQ⟩:∃total,mU tg tk M (aR Z vs) ds []=.ok total/\∀l o H',H l=none->Ex H H'->H' l=some (bY l o)->bT X.K aj (g.add l) H' l true total->Q (.ref l) H':=by
  cases hc:mU tg tk M (aR Z vs) ds [] with
  |bad=>rw[hc]at hk;exact ael hk
  |exc x=>exact absurd hc yC
  |ok total=>
   rw[hc]at hk;exact⟨total,rfl,hk⟩
 have I1:=(I.ex e1).wipe vs;have kD:∀{Ha:Hp} {o:Obj},Ex H1 Ha->Ha D=some (bY D o)->SInv X.K aj (L2.wipe σ vs) Ha (g.add D) (aR Z vs) M:=λea hu=>I1.add nD ea hu aek
 let Pv:Nat->Hp->Prop:=λi Ha=>Ex H1 Ha/\i<=ds.length/\∃o xs acc,Ha D=some (bY D o)/\dw X.w D o xs/\acc.map (·.1)=xs.map (λx=>x.1.data)/\au X.K (g.add D) Ha (xs.map λx=>V.ref x.2.1) (acc.map (·.1))/\(∀x∈xs,x.2.2=.bool true)/\(∀p∈acc,p.2=.bool true)/\acc.length<=i/\mU tg tk M (aR Z vs) (ds.drop i) acc=.ok total
 refine⟨λi m Ha=>m=ds.length-i/\Pv i Ha,⟨ds.length,λo n0=>⟨rfl,Ex.new nD,adJ _,o,[],[],aeu,n0,rfl,.nil,λx hx=>absurd hx adH,λx hx=>absurd hx adH,adz _,by rw[aej];exact htot⟩⟩,?_⟩;rintro i m Ha ⟨rfl,ea,hi,o,xs,acc,hu,nd,hK,hR,hT,hA,hy,hs⟩;have Ia:=kD ea hu;have Ca:=w.add g (g.add D) H1 Ha (I.kd.ex e1) c (Gh.oO nD ea) ea;have lxs:xs.length=acc.length:=by have:=congrArg List.length hK;simpa using this.symm
 by_cases hlt:i<ds.length
 .refine .inr ⟨w.go _ i Ha Ca hlt,Pv (i+1),λH' p=>⟨ds.length-(i+1),by omega,rfl,p⟩,λx H' y=>?_⟩;have hd:ds[i]?=some ds[i]:=adh hlt;obtain⟨e2,rx⟩:=w.yld _ i Ha x H' _ Ia.kd Ca hd y;have I2:=Ia.ex e2;rw[adR hlt,mU]at hs;split at hs
  .cases hs
  .next Z1 he=>
   refine⟨g.add D,_,M,_,Z1,I2,rx,he,λws I3=>⟨jU js ws _ vs hj |>.trans (mO σ vs),?_⟩⟩;cases htk:tk M Z1 with
   |bad=>rw[htk]at hs;cases hs
   |exc z=>rw[htk]at hs;cases hs
   |ok kd=>
    rw[htk]at hs;have hs:((dhas true acc kd).bind λr=>mU tg tk M (aR Z vs) (ds.drop (i+1)) (match r with
     |true=>acc
     |false=>acc++[(kd,.bool true)]))=.ok total:=hs
    refine⟨g.add D,Z1,M,I3,?_⟩;rw[htk];intro v H4 e4 ry;have I4:=I3.ex e4;have hu4:=e4 _ _ (e2 _ _ hu);have hR4:=(hR.ex e2 Ia.kd).ex e4 I2.kd;cases hh:dhas true acc kd with
    |bad=>rw[hh]at hs;cases hs
    |exc z=>rw[hh]at hs;cases hs
    |ok r=>
     rw[hh]at hs;obtain⟨ha2,hcase⟩:=xM hh;rcases hcase with⟨z,_⟩|⟨_,dd,kk,rfl,hkk,hdep⟩
     .cases z
     .have ek:=jX hkk;rw[<-ek,o7 hK]at ha2;have hRx:=hR4;rw[hK]at hRx;cases ry with
      | @tup bb us _ hs' ht=>
       refine⟨o,xs,g.add D,_,bb,kk,rfl,hu4,nd,hRx,.tup hs' ht,hkk,hdep,sz_lt (by omega),λo' nd'=>?_⟩;have eD:Ex H1 (upd H4 D (bY D o')):=Ex.mut ((ea.trans e2).trans e4) nD;have lD:(g.add D).Lo D:=.inr rfl;have up:Gr true (g.add D) (g.add D) H4 (upd H4 D (bY D o')):=Gr.upd I4.kd hu4 (.inr lD);cases r with
       |true=>
        obtain⟨q,hq⟩:=Option.isSome_iff_exists.mp ha2;rw[storedH_old hq,Lg hT]at nd';exact⟨eD,hlt,o',xs,acc,aeu,nd',hK,hR4.gr up I4.kd,hT,hA,by omega,hs⟩
       |false=>
        have hn:atKey xs kk=none:=by
         cases hv:atKey xs kk with
         |none=>rfl
         |some _=>rw[hv]at ha2;cases ha2
        rw[storedH_new hn]at nd';have hs:mU tg tk M (aR Z vs) (ds.drop (i+1)) (acc++[(.tuple dd,.bool true)])=.ok total:=hs;refine⟨eD,hlt,o',xs++[(kk,bb,.bool true)],acc++[(.tuple dd,.bool true)],aeu,nd',by simp[hK,ek],?_,?_,?_,by simp;omega,hs⟩
        .rw[adI,adI];exact(hR4.gr up I4.kd).back ((Rep.tup hs' ht).gr up I4.kd)
        .intro x hx;rcases adM.mp hx with z|z
         .exact hT x z
         .rw[adu.mp z]
        .intro x hx;rcases adM.mp hx with z|z
         .exact hA x z
         .rw[adu.mp z]
 .have e:i=ds.length:=by omega
  refine .inl ⟨w.stop _ i Ha Ca e,?_⟩;rw[e,adW]at hs;cases hs;exact hQ D o Ha (mD e1 D nD) (e1.trans ea) hu ⟨o,xs,List.replicate xs.length (.bl true),hu,by rw[hw];exact nd,hK,hR,Es hT,Eb lxs hA⟩
def u9(ft:Ft)(o:QF)(f:Str)(e:Mo->Env->Out (List (Dat×Dat))):SF:=λM Z=>((e M Z).at M).then Z λkvs _=>((o (M++[⟨"",[]⟩]) Z).at (M++[⟨"",[]⟩])).then Z λod M2=>match cV M2 od with
 |some (h,i)=>match ft.has i.cls f&&decide (i.fs.length<100) with
  |true=>.next Z (M2.set h (i.put f (.dic true kvs)))
  |false=>.bad
 |none=>.bad
end
theorem Bm{K:ac8}{g:Gh}{H:Hp}{l:Addr}{vs:List V}{ds:List Dat}(h:au K (g.add l) H vs ds):au K (g.push l) H vs ds:=au.mv (g:=g.add l) (g':=g.push l) rfl (λh a z=>by
  have z:g.tbl[h]?=some a:=z
  show(g.tbl++[l])[h]?=some a
  rw[adp (adb.mp z).1];exact z) (λa z=>by
  rcases Bj z with z|rfl
  .rcases z with z|z|z
   .exact .inl z
   .exact .inr (.inl z)
   .exact .inr (.inr (show g.Lo a\/a=l from Or.inl z))
  .exact .inr (.inr (show g.Lo a\/a=a from Or.inr rfl))) h
section
variable{X:Cx}{aj:aC}{W:WX}{o e:Expr}{f:Str}{pos pos':Pos}{ft:Ft}{fo:QF}
theorem Qq{fe:Mo->Env->Out (List (Dat×Dat))}{te:TE}(co:cJ X.K aj)(fk:rN ft aj)(ho:QW aj X W o fo)(he:PE X e te)(hte:∀σ H Q,Vr X.K aj W fe σ H Q->te σ H Q)(hs:swapsWith e (some (.Attribute o f pos')) pos.line X.env=pure false):SE aj X W false (.Assign [.Attribute o f pos'] e pos) (u9 ft fo f fe):=by
 refine PS.weak (ps_fld ho he hs) λD σ H ⟨g,Z,M,I,z⟩=>hte σ H _ ⟨g,Z,M,I,?_⟩;unfold u9 at z;cases hf:fe M Z with
 |exc x=>rw[hf]at z;exact λH' c dd e r=>z σ H' g c dd (Gr.ex e) (I.ex e) r.fr
 |bad=>rw[hf]at z;exact ael z
 |ok kvs=>
  rw[hf]at z;intro l ob H1 nl e1 hl dic;obtain⟨gr,I1,tb,ow,mm⟩:=rA I nl e1 hl aek;have dic1:bT X.K aj (g.push l) H1 l true kvs:=by obtain⟨o',xs,vs,q1,q2,q3,q4,q5,q6⟩:=dic;exact⟨o',xs,vs,q1,q2,q3,Bm q4,q5,Bm q6⟩
  have z:(((fo (M++[⟨"",[]⟩]) Z).at (M++[⟨"",[]⟩])).then Z λod M2=>match cV M2 od with
   |some (h,i)=>match ft.has i.cls f&&decide (i.fs.length<100) with
    |true=>.next Z (M2.set h (i.put f (.dic true kvs)))
    |false=>.bad
   |none=>.bad).sat (sN X.K aj false D.nx g H) (sR X.K aj false D.rt g H) (sN X.K aj false D.bk g H) (sN X.K aj false D.ct g H) (sX X.K aj W false g H):=z
  have k1:=Out.bM (aZ (σ:=σ) z);refine tW.go I1 (k1.mono (λ_ y=>y) λx y H' c dd ex rx=>y H' _ c dd (gr.trans (Gr.ex ex)) (I1.ex ex) rx) λod u H2 k2 e2 ru=>?_;have I2:=I1.ex e2;split at k2
  .next h i hi=>
   split at k2
   .next hb=>
    rw[ac9]at hb;obtain⟨a,C,dx,fs,_,m1,m2,ha,rfl,c1,c2,c3,c4,c5,c6⟩:=oE co fk I2.wok ru hi hb.1;have nla:l≠a:=λz=>by
     subst z;cases I2.wok.inj _ _ _ ha tb;rw[mm]at m1;cases m1;exact m2 rfl
    refine⟨a,C,dx,fs,rfl,c2,c4,c5,?_,?_⟩
    .have:=aen hb.2;rw[c3.len];omega
    .have ch:=xO (f:=f) (C:=C) (dx:=dx) (fs':=putF f (.ref l) fs) I2.kd I2.wok ha m1 m2 tb mm ow;have w':=I2.wok.chg I2.kd ch ha m1 m2 c6 c1 c3 aeu (v:=.ref l) (fl:=.dic true kvs) ⟨l,rfl,aer rfl,bT.chg ch.gc.gr I2.kd (upd_ne nla) (dic1.ex e2 I1.kd)⟩;exact k2 σ _ _ ((gr.trans (Gr.ex e2)).trans ch.gc.gr) (I2.chg ch w')
   .exact ael k2
  .exact ael k2
end
end Rf
namespace Ear
open PySem PySem.Spec PyProof.Rows L2 Evl RZ
abbrev jh(K:ac8)(H:Hp)(v:V)(r:Rw):Prop:=Dp K H v (rD r)
@[irreducible]def rJ (K:ac8) (w:World):List V->Hp->VK->Prop:=λvs H Q=>∃(l:Addr) (ws:List V) (R D:List Rw),vs=[V.ref l]/\SqL K H l ws/\bO (jh K H) ws R/\D.length<=76/\(∀r∈R,r∈D)/\
 ∀(p:Addr) (L:List Ent),H p=none->(∀e∈L,jh K H (.ref e.1) e.2)->(L.map Prod.snd).Nodup->(∀r,r∈L.map Prod.snd↔r∈R)->L.length<=76->Q (.ref p) (upd H p (sG w p L))
@[irreducible]def uF (K:ac8) (w:World):List V->Hp->VK->Prop:=λvs H Q=>∃(a:Addr) (L:List Ent),vs=[V.ref a]/\H a=some (sG w a L)/\(∀e∈L,jh K H (.ref e.1) e.2)/\(L.map Prod.snd).Nodup/\L.length<=76/\
 ∀(ys:List V) (M:List Rw) (p:Addr),bO (jh K H) ys M->Fy M->(∀r,r∈M↔r∈L.map Prod.snd)->H p=none->Q (.ref p) (upd H p (.lst ys))
section
variable{X:Cx}
theorem Lr{pins:List (Addr×Obj)}{σ:L2.St}{H:Hp}{s:Shared}(I:Inv X pins σ H s){t:Addr}{r:Rw}(h:jh X.K H (.ref t) r):RI s.heap r t:=by
 refine⟨?_,by rw[Lz];decide⟩;unfold jh rD dT at h;cases h with
 |tup h1 t1=>
  cases t1 with
  |cons a1 t1=>
   cases t1 with
   |cons a2 t1=>
    cases t1;cases a1;cases a2 with
    |tup h2 t2=>
     obtain⟨us,rv,⟨o,ho,hc,n,hd⟩,_⟩:=I.tuple h1;obtain⟨us2,rv2,⟨o2,ho2,hc2,n2,hd2⟩,_⟩:=I.tuple h2;refine .tup ho hc hd ?_;cases rv with
     |cons r1 rv=>
      cases rv with
      |cons r2 rv=>
       cases rv;obtain⟨tk,rfl⟩:=r1;cases r2;have e:∀{vs:List V} {l:List Int},DpAll X.K H vs (l.map PyData.int)->vs=l.map V.int:=by
        intro vs l
        induction l generalizing vs with
        |nil=>intro z;cases z;rfl
        |cons i l ih=>
         intro z;cases z with
         |cons b1 b2=>
          cases b1;rw[ih b2];rfl
       rw[e t2]at rv2;exact .cons (.int r.1 tk) (.cons (.tup ho2 hc2 hd2 (by simpa using yF (P:=X.prog) (w:=X.w) r.2 us2 rv2)) .nil)
theorem u6{K:ac8}{H:Hp}:∀(ws:List V) (R:List Rw),bO (jh K H) ws R->∃ks:List Ent,ws=(ks.map λp=>V.ref p.1)/\ks.map Prod.snd=R/\∀p∈ks,jh K H (.ref p.1) p.2
 |[],[],_=>⟨[],rfl,rfl,by simp⟩
 |[],_::_,h=>nomatch h.1
 |_::_,[],h=>nomatch h.1
 |v::ws,r::R,h=>by
  obtain⟨ks,e1,e2,e3⟩:=u6 ws R ⟨adT h.1,λi v x a b=>h.2 (i+1) v x a b⟩;have hr:jh K H v r:=h.2 0 v r rfl rfl;have ev:∃t,v=.ref t:=by
   have z:=hr;unfold jh rD at z;cases z with
   |tup _ _=>exact⟨_,rfl⟩
  obtain⟨t,rfl⟩:=ev;refine⟨(t,r)::ks,by rw[ada,<-e1],by rw[ada,e2],λp hp=>?_⟩;rcases adt.mp hp with e|hp
  .rw[e];exact hr
  .exact e3 p hp
theorem Dj(hu:X.A.units+65<cLine)(hc:X.calm=true):CallR X (.type "set") (rJ X.K X.w):=by
 intro pins s σ H vs us Q I r h;unfold rJ at h;obtain⟨l,ws,R,D,rfl,hl,hA,hD,hRD,q⟩:=h;rw[Vals.ref1 r];obtain⟨ks,e1,e2,e3⟩:=u6 ws R hA;obtain⟨its,rv,pl,hz⟩:=I.list hl;rw[e1]at rv;have mem:∀p∈ks,p.2∈R:=λp hp=>by
  rw[<-e2];exact ado.mpr ⟨p,hp,rfl⟩
 have hn:H s.heap.objs.size=none:=I.hok.fresh (adz _);refine Dm (P:=X.prog) (w:=X.w) (hf:=λr=>(dX X.prog X.w).hash r) (λ_=>rfl) ks D hD (λp hp=>hRD _ (mem p hp)) (I.ok.hd hc) pl.isList (by simpa using yJ rv) (λp hp=>Lr I (e3 p hp)) (by omega) λh' tk L es ep t S g k=>?_;have fitL:t.fits es.size=true:=fK.fits (s:={ s with heap:=h',toks:=tk }) S;have new:ObjOk X.prog X.w (upd H s.heap.objs.size (sG X.w s.heap.objs.size L)) h' s.heap.objs.size (sG X.w s.heap.objs.size L):=by obtain⟨o,ho,hr⟩:=S.ob;refine⟨⟨_,es,ep,t,S.ob,S.en,fitL,S.tab.ris,S.ld⟩,⟨o,ho⟩,λh1 h2 z k2=>?_⟩;obtain⟨hf2,es2,ep2,t2,⟨o2,ho2,hr2⟩,rest⟩:=(show Hl X.w h1 s.heap.objs.size L from z);exact⟨hf2,es2,ep2,t2,⟨o2,k2 o2 ho2,hr2⟩,rest⟩
 refine⟨.ref s.heap.objs.size,upd H s.heap.objs.size (sG X.w s.heap.objs.size L),I.laid (t':=tk) k (adz _) new,rfl,q _ L hn (λe he=>e3 e (adS (g.sub e he))) S.nd (λr=>⟨λm=>?_,λm=>?_⟩) S.few⟩
 .obtain⟨e,he,e5⟩:=ado.mp m;rw[<-e5];exact mem e (adS (g.sub e he))
 .rw[<-e2]at m;obtain⟨p,hp,e5⟩:=ado.mp m;rw[<-e5];exact g.all p (by rw[List.take_length];exact hp)
theorem HF(hu:X.A.units+65<cLine)(hc:X.calm=true):CallR X (.builtin "sorted") (uF X.K X.w):=by
 intro pins s σ H vs us Q I r h;unfold uF at h;obtain⟨a,L,rfl,ha,hL,nd,few,q⟩:=h;rw[Vals.ref1 r];obtain⟨hf,es,ep,t,⟨o,ho,hex,hd⟩,en,fit,ris,led⟩:Hl X.w s.heap a L:=(I.hok a _ ha).1;have len:=jG en;have ev:∀K:List Ent,(∀p∈K,p∈L)->PySem.W.EachIs (λv (r:Rw)=>(∃p∈L,v=Value.ref p.1/\r=p.2)/\∃as,Reads s.heap v (rD r) as) ((ents hf K).map (·.2)) (K.map Prod.snd):=by
  intro K
  induction K with
  |nil=>exact λ_=>.nil
  |cons p K ih=>
   intro hK;have hp:=hK p adg;exact .cons ⟨⟨p,hp,rfl,rfl⟩,Dp.reads I (rD p.2) (.ref p.1) (.ref p.1) (hL p hp) rfl⟩ (ih λx hx=>hK x (adf _ hx))
 refine Dq (enc:=rD) (bs:=L.map Prod.snd) (I.ok.hd hc) ⟨o,ho,hex.1,hd⟩ fit (by unfold scanBound;omega) ris led (by rw[en];exact ev L λp hp=>hp) (PySem.W.AllAlike.of yZ) (PySem.W.Sortable.tuples λb=>⟨_,_,rfl⟩) (λb _=>by rw[(IW b).2];omega) λs' p out c cs k g' o' hp hg pc eo=>?_;have mp:=List.mergeSort_perm cs (PySem.W.dataLe false rD);have ndm:(cs.mergeSort (PySem.W.dataLe false rD)).Nodup:=(mp.trans pc).nodup_iff.mpr nd;have srt:=List.pairwise_mergeSort (le:=PySem.W.dataLe false rD) (λa b c k1 k2=>by rw[qN,aem]at *;exact List.le_trans k1 k2) (λa b=>by rw[qN,qN,ad9,aem,aem];exact List.le_total _ _) cs;generalize cs.mergeSort (PySem.W.dataLe false rD)=M at mp ndm srt eo;obtain⟨ys,v1,v2⟩:=yD out M eo;have up:Fy M:=by
  refine List.Pairwise.imp₂ (λa b h1 h2=>?_) srt ndm;rw[qN,aem]at h1;by_cases c:rk a<rk b
  .exact c
  .exact absurd (JV (List.le_antisymm h1 (List.not_lt.mp c))) h2
 have hfr:H p=none:=I.hok.fresh hp;have hlen:ys.length<=sizeLine:=by rw[v2.1,mp.length_eq,pc.length_eq,adi,sizeLine_eq];omega
 have J:Inv X pins σ (upd H p (.lst ys)) { s with heap:=s'.heap,gens:=s'.gens,drawn:=s'.drawn,toks:=s'.toks }:=
  I.call (ch:=[]) (Un.laid k hp hfr) (I.hok.laid k hp ⟨hlen,out,c,v1,hg⟩) (by rw[g'];exact I.bare) (λ_ z=>nomatch z)
 have es':s'={ s with heap:=s'.heap,gens:=s'.gens,drawn:=s'.drawn,toks:=s'.toks }:=by cases s';cases s;cases o';rfl
 rw[es'];refine⟨.ref p,_,J,rfl,q ys M p (v2.imp λv r ⟨e,he,h1,h2⟩=>?_) up (λr=>(mp.trans pc).mem_iff) hfr⟩;subst h1 h2;exact hL e he
end
end Ear
namespace Rf
open PySem PySem.Spec PyProof.Rows L2 Evl
def Mq:Dat->Option Ear.Rw
 |.tuple [.int o,.tuple ds]=>(intsOf ds).map λl=>(o,l)
 |_=>none
def vN:List Dat->Option (List Ear.Rw)
 |[]=>some []
 |d::ds=>(Mq d).bind λr=>(vN ds).bind λrs=>some (r::rs)
theorem rH:∀{ds:List Dat} {l:List Int},intsOf ds=some l->ds=l.map PyData.int
 |[],l,h=>by cases h;rfl
 |.int i::ds,l,h=>by
  rw[intsOf,adX]at h;obtain⟨r,h1,rfl⟩:=h;rw[rH h1];rfl
 |.none::_,_,h=>by cases h
 |.bool _::_,_,h=>by cases h
 |.str _::_,_,h=>by cases h
 |.list _::_,_,h=>by cases h
 |.tuple _::_,_,h=>by cases h
 |.dict _::_,_,h=>by cases h
theorem Qx{d:Dat}{r:Ear.Rw}(h:Mq d=some r):d=Ear.rD r:=by
 unfold Mq at h;split at h
 .next o ds=>
  rw[adX]at h;obtain⟨l,h1,rfl⟩:=h;rw[rH h1];rfl
 .cases h
theorem uL:∀{ds:List Dat} {rs:List Ear.Rw},vN ds=some rs->ds=rs.map Ear.rD
 |[],_,h=>by cases h;rfl
 |d::ds,_,h=>by
  rw[vN]at h;obtain⟨r,h1,h⟩:=ac7.mp h;obtain⟨rs,h2,h⟩:=ac7.mp h;cases h;rw[Qx h1,uL h2];rfl
def zU(R:List Ear.Rw):List Ear.Rw:=R.mergeSort λa b=>decide (Ear.rk a<=Ear.rk b)
def sortI(l:List Int):List Int:=l.mergeSort λa b=>decide (a<=b)
def tD(R:List Ear.Rw):List Ear.Rw:=zU R.eraseDups
def O5(l:List Int):List Int:=sortI l.eraseDups
theorem Ce:∀(n:Nat) (l:List Int),bQ n (l.map PyData.int)=true:=λn l=>by
 induction l with
 |nil=>rfl
 |cons i l ih=>simp[bQ,okd,ih]
theorem rG(n:Nat)(r:Ear.Rw):okd (n+2) (Ear.rD r)=true:=by unfold Ear.rD Ear.dT;simp[okd,bQ,Ce]
theorem xq(n:Nat)(R:List Ear.Rw):bQ (n+2) (R.map Ear.rD)=true:=by
 induction R with
 |nil=>rfl
 |cons r R ih=>simp[bQ,rG,ih]
def pD(p:Int×Int):Dat:=.tuple [.int p.1,.int p.2]
def zM:Dat->Out Dat
 |.list ds=>match intsOf ds with
  |some l=>.ok (.list ((sortI l).map PyData.int))
  |none=>match vN ds with
   |some R=>.ok (.list ((zU R).map Ear.rD))
   |none=>.bad
 |_=>.bad
def Gu:Dat->Out Dat
 |.list ds=>match vN ds with
  |some R=>match decide (R.eraseDups.length<=76) with
   |true=>.ok (.list ((tD R).map Ear.rD))
   |false=>.bad
  |none=>.bad
 |_=>.bad
theorem yI{β:Type}{enc:β->Dat}{le:β->β->Bool}(h:∀a b,PySem.W.dataLe false id (enc a) (enc b)=le a b)(l:List β):(l.map enc).mergeSort (PySem.W.dataLe false id)=(l.mergeSort le).map enc:=by rw[List.map_mergeSort (r:=le) (s:=PySem.W.dataLe false id) (λa _ b _=>(h a b).symm)]
theorem j8{α:Type}[BEq α][LawfulBEq α]{l:List α}{x:α}:x∈l.eraseDups↔x∈l:=by
 induction hn:l.length using Nat.strongRecOn generalizing l with
 |_ n ih=>
  cases l with
  |nil=>simp
  |cons a r=>
   rw[aei];simp only[adl]at hn;have hl:(r.filter λb=>!b==a).length<=r.length:=adL _ _;rw[adt,ih _ (by omega) rfl,aea,adt];constructor
   .rintro(h|h)
    .exact .inl h
    .exact .inr h.1
   .rintro(h|h)
    .exact .inl h
    .by_cases e:x=a
     .exact .inl e
     .exact .inr ⟨h,by simpa using e⟩
theorem vK{α:Type}[BEq α][LawfulBEq α]{l:List α}:l.eraseDups.Nodup:=by
 induction hn:l.length using Nat.strongRecOn generalizing l with
 |_ n ih=>
  cases l with
  |nil=>simp
  |cons a r=>
   rw[aei];simp only[adl]at hn;have hl:(r.filter λb=>!b==a).length<=r.length:=adL _ _;refine aeg.mpr ⟨λh=>?_,ih _ (by omega) rfl⟩;rw[j8,aea]at h;simpa using h.2
theorem Ja{R:List Ear.Rw}{r:Ear.Rw}:r∈tD R↔r∈R:=by unfold tD zU;rw[List.mem_mergeSort,j8]
theorem Nu(R:List Ear.Rw):Ear.Fy (tD R):=by
 unfold Ear.Fy tD zU;have srt:=List.pairwise_mergeSort (le:=λa b:Ear.Rw=>decide (Ear.rk a<=Ear.rk b)) (λa b c k1 k2=>by rw[aem]at *;exact List.le_trans k1 k2) (λa b=>by rw[ad9,aem,aem];exact List.le_total _ _) R.eraseDups;have nd:(R.eraseDups.mergeSort λa b=>decide (Ear.rk a<=Ear.rk b)).Nodup:=(List.mergeSort_perm _ _).nodup_iff.mpr vK;refine List.Pairwise.imp₂ (λa b h1 h2=>?_) srt nd;rw[aem]at h1;by_cases c:Ear.rk a<Ear.rk b
 .exact c
 .exact absurd (Ear.JV (List.le_antisymm h1 (List.not_lt.mp c))) h2
section
variable{K:ac8}{g:Gh}{H:Hp}
theorem uI{xs:List V}{ds:List Dat}(h:au K g H xs ds):∀{ys:List V} {es:List Dat},Ear.bO (Ear.K6 xs ds) ys es->au K g H ys es
 |[],[],_=>.nil
 |[],_::_,z=>nomatch z.1
 |_::_,[],z=>nomatch z.1
 |y::ys,e::es,z=>by
  obtain⟨i,h1,h2⟩:=z.2 0 y e rfl rfl;obtain⟨d,h3,h4⟩:=h.get' h1;rw[h2]at h3;cases h3;exact .cons h4 (uI h ⟨adT z.1,λi v x a b=>z.2 (i+1) v x a b⟩)
end
section
variable{X:Cx}{aj:aC}{W:WX}{a:Expr}{fa:QF}{p p2 pos pos2:Pos}
theorem PN:ql aj X.K W zM (Ear.pU X.K):=λσ g H x d Q k rx h=>by
 unfold zM at h;split at h
 .next ds=>
  obtain⟨l,us,rfl,h1,h2⟩:=cD rx;unfold Ear.pU;split at h
  .next ns hn=>
   have e:=rH hn;subst e;refine⟨l,us,ns.map PyData.int,rfl,h1,h2.dp (n:=12) (Ce 12 ns),PySem.W.AllAlike.of (λa b=>by simp[PySem.W.alike]),PySem.W.Sortable.others (λb=>⟨(λz=>nomatch z),λxs z=>nomatch z⟩),λd hd=>by
    obtain⟨i,_,rfl⟩:=ado.mp hd;simp[PyData.depth],λys q hy nq=>?_⟩
   have hs:=yI (enc:=PyData.int) (le:=λa b:Int=>decide (a<=b)) (λa b=>congrFun (congrFun (PySem.W.dataLe_int (λk:Int=>k)) a) b) ns;rw[hs]at hy;exact h (.ref q) _ (Ex.new nq) (.lst (.inl ⟨aeu,k.fresh nq⟩) ((uI h2 hy).ex (Ex.new nq) k))
  .split at h
   .next R hR=>
    have e:=uL hR;subst e;refine⟨l,us,R.map Ear.rD,rfl,h1,h2.dp (n:=12) (xq 10 R),PySem.W.AllAlike.of Ear.yZ,PySem.W.Sortable.tuples (λb=>⟨_,_,rfl⟩),λd hd=>by
     obtain⟨i,_,rfl⟩:=ado.mp hd;rw[(Ear.IW i).2]
     decide,λys q hy nq=>?_⟩
    .have hs:=yI (enc:=Ear.rD) (le:=λa b:Ear.Rw=>decide (Ear.rk a<=Ear.rk b)) (λa b=>by rw[<-Ear.qN];rfl) R;rw[hs]at hy;exact h (.ref q) _ (Ex.new nq) (.lst (.inl ⟨aeu,k.fresh nq⟩) ((uI h2 hy).ex (Ex.new nq) k))
   .exact ael h
 .exact ael h
theorem Rr(hu:X.A.units+65<cLine)(hg:Gl X "sorted")(hm:X.mg "sorted"=none)(ha:QW aj X W a fa)(hs:nst a=true):QE aj X W (.Call (.Name "sorted" p) [a] [] pos) (fD zM fa):=
 O7 (.inl rfl) (Ear.Gy hu) PN hg hm ⟨by decide +kernel,by decide,by decide⟩ ha hs
theorem Ef{K:ac8}{g:Gh}{H:Hp}:∀{vs:List V} {l:List Int},DpAll K H vs (l.map PyData.int)->au K g H vs (l.map PyData.int)
 |_,[],.nil=>.nil
 |_,_::_,.cons (.int i) t=>.cons (.int i) (Ef t)
theorem Ji{K:ac8}{g:Gh}{H:Hp}{v:V}{r:Ear.Rw}(h:Ear.jh K H v r):Rep K g H v (Ear.rD r):=by
 unfold Ear.jh Ear.rD at h;cases h with
 |tup h1 t1=>
  cases t1 with
  |cons a1 t1=>
   cases a1;cases t1 with
   |cons a2 t2=>
    cases t2;cases a2 with
    |tup h2 t3=>exact .tup h1 (.cons (.int _) (.cons (.tup h2 (Ef t3)) .nil))
theorem yW{K:ac8}{g:Gh}{H:Hp}:∀{vs:List V} {R:List Ear.Rw},au K g H vs (R.map Ear.rD)->Ear.bO (Ear.jh K H) vs R
 |_,[],.nil=>⟨rfl,λi v x a b=>by simp at a⟩
 |_,r::R,.cons h t=>by
  have ih:=yW t;refine⟨congrArg (· + 1) ih.1,λi v x a b=>?_⟩;cases i with
  |zero=>
   simp at a b;subst a b;exact h.dp (n:=12) (rG 10 _)
  |succ i=>exact ih.2 i v x (by simpa using a) (by simpa using b)
theorem yR{K:ac8}{g:Gh}{H:Hp}:∀{vs:List V} {R:List Ear.Rw},Ear.bO (Ear.jh K H) vs R->au K g H vs (R.map Ear.rD)
 |[],[],_=>.nil
 |[],_::_,h=>nomatch h.1
 |_::_,[],h=>nomatch h.1
 |v::vs,r::R,h=>.cons (Ji (h.2 0 v r rfl rfl)) (yR ⟨adT h.1,λi v x a b=>h.2 (i+1) v x a b⟩)
theorem Px(hu:X.A.units+65<cLine)(hc:X.calm=true)(hg:Gl X "sorted")(hm:X.mg "sorted"=none)(hg2:Gl X "set")(hm2:X.mg "set"=none)(ha:QW aj X W a fa)(hs:nst a=true):QE aj X W (.Call (.Name "sorted" p) [.Call (.Name "set" p2) [a] [] pos2] [] pos) (fD Gu fa):=by
 have h0:=pa_cons ha pa_nil (aU hs []);have h1:PE X (.Call (.Name "set" p2) [a] [] pos2) _:=pe_callTy (Ear.Dj hu hc) hg2 hm2 (by decide +kernel) h0 (by decide) (by decide) (aU hs []) (by with_unfolding_all rfl)
 have h2:=pa_cons h1 pa_nil (aU rfl []);refine PE.weak (pe_callB (p:=p) (pos:=pos) (Ear.HF hu hc) hg hm (by decide +kernel) h2 (by decide) (by decide) (aU rfl []) (by with_unfolding_all rfl)) λσ H Q ⟨g,Z,M,I,h⟩=>?_;refine tW.go I h.bnd λd v H1 h1 e1 r1=>?_;have I1:=I.ex e1;unfold Gu at h1;split at h1
 .next ds=>
  split at h1
  .next R hR=>
   split at h1
   .next hd=>
    have e:=uL hR;subst e;obtain⟨l,us,rfl,s1,s2⟩:=cD r1;unfold Ear.rJ;refine⟨l,us,R,R.eraseDups,rfl,s1,yW s2,aen hd,λr hr=>j8.mpr hr,λq L nq hL nd mem few=>?_⟩;have eq:Ex H1 (upd H1 q (Ear.sG X.w q L)):=Ex.new nq;unfold Ear.uF;refine⟨q,L,rfl,aeu,λe he=>?_,nd,few,λys S z hy up ms nz=>?_⟩
    .exact(Rep.ex eq I1.kd (Ji (g:=g) (hL e he))).dp (n:=12) (rG 10 _)
    .have hS:S=tD R:=Ear.Jw up (Nu R) λr=>by rw[ms,mem,Ja]
     subst hS;have I2:=I1.ex eq;exact h1 (.ref z) _ ((e1.trans eq).trans (Ex.new nz)) (.lst (.inl ⟨aeu,I2.kd.fresh nz⟩) ((yR hy).ex (Ex.new nz) I2.kd))
   .exact ael h1
  .exact ael h1
 .exact ael h1
def QV(it:IF)(tg:bR)(vs:List Nat)(tt:QT)(te:QF):QF:=λM Z=>(jd it tg vs tt te M Z).bind λds=>match intsOf ds with
 |some l=>Out.when (decide (l.length<=4000)) (.ok (.list ((O5 l).map PyData.int)))
 |none=>.bad
end
def u5(Z:Env):Bool:=Z.all λo=>match o with
 |some (.mut _)=>false
 |_=>true
theorem CG{Z:Env}(h:u5 Z=true){i:Nat}{xs:List Dat}:Z[i]?≠some (some (.mut xs)):=λz=>by
 have:=ady.mp h _ (adB z);cases this
theorem SInv.loc{K:ac8}{aj:aC}{σ:L2.St}{H:Hp}{g:Gh}{Z:Env}{M:Mo}{D:Addr}{us us':List V}(I:SInv K aj σ H g Z M)(n:u5 Z=true)(hD:H D=some (.lst us))(lo:g.Lo D):SInv K aj σ (upd H D (.lst us')) g Z M where
 kd:=I.kd.upd aek
 wok:=I.wok.loc I.kd hD lo
 len:=I.len
 dat:=λi d h=>by
  obtain⟨v,h1,h2⟩:=I.dat i d h;exact⟨v,h1,Qh I.kd hD lo h2⟩
 own:=λi xs h=>absurd h (CG n)
 sep:=λi j xs ys l ne h1=>absurd h1 (CG n)
def cQ(tg:bR)(tt:QT)(it1:IF)(tg1:bR)(vs1:List Nat)(tt1:QT)(te:QF)(M:Mo)(Z:Env):List Dat->Out (List Dat)
 |[]=>.ok []
 |d::ds=>match tg d Z with
  |none=>.bad
  |some Z1=>(kW (tt M Z1)).bind λb=>if b=true then Out.when (u5 Z1) ((kW (it1 M Z1)).bind λes=>(bA tg1 tt1 te M (aR Z1 vs1) es).bind λr1=>(cQ tg tt it1 tg1 vs1 tt1 te M Z ds).bind λr=>.ok (r1++r)) else cQ tg tt it1 tg1 vs1 tt1 te M Z ds
def DG(it:IF)(tg:bR)(vs:List Nat)(tt:QT)(it1:IF)(tg1:bR)(vs1:List Nat)(tt1:QT)(te:QF):IF:=λM Z=>(it M Z).bind λds=>(cQ tg tt it1 tg1 vs1 tt1 te M (aR Z vs) ds).bind λr=>Out.when (decide (r.length<=50000)) (.ok r)
def qM(it:IF)(tg:bR)(vs:List Nat)(tt:QT)(it1:IF)(tg1:bR)(vs1:List Nat)(tt1:QT)(te:QF):QF:=λM Z=>(DG it tg vs tt it1 tg1 vs1 tt1 te M Z).bind λr=>.ok (.list r)
theorem jk{tg tg1:bR}{tt tt1:QT}{te:QF}{it1:IF}{vs1:List Nat}{M:Mo}{Z:Env}:∀{ds:List Dat} {x:bJ},cQ tg tt it1 tg1 vs1 tt1 te M Z ds≠.exc x
 |[],_,h=>nomatch h
 |d::ds,x,h=>by
  rw[cQ]at h;split at h
  .cases h
  .next Z1 e=>
   cases h1:tt M Z1 with
   |bad=>rw[h1]at h;cases h
   |exc y=>rw[h1]at h;cases h
   |ok b=>
    rw[h1]at h;cases b with
    |false=>exact jk (ds:=ds) (x:=x) h
    |true=>
     cases hn:u5 Z1 with
     |false=>rw[hn]at h;cases h
     |true=>
      rw[hn]at h;cases h2:it1 M Z1 with
      |bad=>rw[h2]at h;cases h
      |exc y=>rw[h2]at h;cases h
      |ok es=>
       rw[h2]at h;have h:((bA tg1 tt1 te M (aR Z1 vs1) es).bind λr1=>(cQ tg tt it1 tg1 vs1 tt1 te M Z ds).bind λr=>Out.ok (r1++r))=.exc x:=h;cases h3:bA tg1 tt1 te M (aR Z1 vs1) es with
       |bad=>rw[h3]at h;cases h
       |exc y=>exact absurd h3 fV
       |ok r1=>
        rw[h3]at h;have h:((cQ tg tt it1 tg1 vs1 tt1 te M Z ds).bind λr=>Out.ok (r1++r))=.exc x:=h;cases h4:cQ tg tt it1 tg1 vs1 tt1 te M Z ds with
        |bad=>rw[h4]at h;cases h
        |exc y=>exact absurd h4 jk
        |ok r=>rw[h4]at h;cases h
section
variable{K:ac8}{aj:aC}{W:WX}
theorem QX{it it1:IF}{tg tg1:bR}{js vs js1 vs1:List Nat}{tt tt1:QT}{te:QF}(hj:∀j∈js,j∈vs)(hj1:∀j∈js1,j∈vs1)(σ:L2.St)(H:Hp)(Q:VK)(h:JC K aj W (DG it tg vs tt it1 tg1 vs1 tt1 te) σ H Q) :
  tLc2 (tI K aj W false it) (jY K aj js tg) (cW K aj WF tt) (tI K aj WF true it1) (jY K aj js1 tg1) (cW K aj WF tt1) (tQ K aj WF te) vs vs1 σ H Q:=by
 obtain⟨g,Z,M,I,h⟩:=h;refine⟨g,Z,M,I,h.bnd.mono (λds hk J C H1 e1 w c _ D nD=>?_) λ_ z=>z⟩;obtain⟨total,htot,hlen,hQ⟩:∃total,cQ tg tt it1 tg1 vs1 tt1 te M (aR Z vs) ds=.ok total/\total.length<=50000/\∀l us H',H l=none->Ex H H'->H' l=some (.lst us)->au K (g.add l) H' us total->Q (.ref l) H':=by
  cases hc:cQ tg tt it1 tg1 vs1 tt1 te M (aR Z vs) ds with
  |bad=>rw[hc]at hk;exact ael hk
  |exc x=>exact absurd hc jk
  |ok total=>
   rw[hc]at hk;obtain⟨hz,hk⟩:=Out.sat.fB hk;exact⟨total,rfl,aen hz,hk⟩
 have I1:=(I.ex e1).wipe vs;have kD:∀{Ha:Hp} {us:List V},Ex H1 Ha->Ha D=some (.lst us)->SInv K aj (L2.wipe σ vs) Ha (g.add D) (aR Z vs) M:=λea hu=>I1.add nD ea hu aek;have lD:(g.add D).Lo D:=.inr rfl
 let Pv:Nat->Hp->Prop:=λi Ha=>Ex H1 Ha/\i<=ds.length/\∃us ys,Ha D=some (.lst us)/\au K (g.add D) Ha us ys/\(cQ tg tt it1 tg1 vs1 tt1 te M (aR Z vs) (ds.drop i)).sat (λr=>total=ys++r) λ_=>False
 refine⟨λi m Ha=>m=ds.length-i/\Pv i Ha,⟨ds.length,rfl,Ex.new nD,adJ _,[],[],aeu,.nil,?_⟩,?_⟩
 .rw[aej,htot];rfl
 .rintro i m Ha ⟨rfl,ea,hi,us,ys,hu,hU,hs⟩;have Ia:=kD ea hu;have Ca:=w.add g (g.add D) H1 Ha (I.kd.ex e1) c (Gh.oO nD ea) ea;by_cases hlt:i<ds.length
  .refine .inr ⟨w.go _ i Ha Ca hlt,Pv (i+1),λH' p=>⟨ds.length-(i+1),by omega,rfl,p⟩,λx H' y=>?_⟩;have hd:ds[i]?=some ds[i]:=adh hlt;obtain⟨e2,rx⟩:=w.yld _ i Ha x H' _ Ia.kd Ca hd y;have I2:=Ia.ex e2;rw[adR hlt,cQ]at hs;split at hs
   .exact ael hs
   .next Z1 he=>
    refine⟨g.add D,_,M,_,Z1,I2,rx,he,λws I3=>⟨jU js ws _ vs hj |>.trans (mO σ vs),?_⟩⟩;refine cW.go I3 (lJ hs.bnd) λb H3 hb e3=>?_;have I4:=I3.ex e3;have hu3:=e3 _ _ (e2 _ _ hu);have hU3:=(hU.ex e2 Ia.kd).ex e3 I2.kd;cases b with
    |false=>
     have hb:(cQ tg tt it1 tg1 vs1 tt1 te M (aR Z vs) (ds.drop (i+1))).sat (λr=>total=ys++r) λ_=>False:=hb;exact⟨(ea.trans e2).trans e3,hlt,us,ys,hu3,hU3,hb⟩
    |true=>
     have hb:(Out.when (u5 Z1) ((kW (it1 M Z1)).bind λes=>(bA tg1 tt1 te M (aR Z1 vs1) es).bind λr1=>(cQ tg tt it1 tg1 vs1 tt1 te M (aR Z vs) (ds.drop (i+1))).bind λr=>Out.ok (r1++r))).sat (λr=>total=ys++r) λ_=>False:=hb;obtain⟨nm,hb⟩:=hb.fB;refine⟨g.add D,Z1,M,I4,(lJ (E':=fO K aj WF (g.add D) H3 _) hb.bnd).mono (λes hk1 J1 C1 H4 e4 w1 c1 fm=>?_) λ_ z=>z⟩;have fm:=fm rfl
     -- all that is added by this walk
     obtain⟨r1,r2,hr1,hr2,ht⟩:∃r1 r2,bA tg1 tt1 te M (aR Z1 vs1) es=.ok r1/\cQ tg tt it1 tg1 vs1 tt1 te M (aR Z vs) (ds.drop (i+1))=.ok r2/\total=ys++(r1++r2):=by
      cases q1:bA tg1 tt1 te M (aR Z1 vs1) es with
      |bad=>rw[q1]at hk1;exact ael hk1
      |exc y=>exact absurd q1 fV
      |ok r1=>
       rw[q1]at hk1;have hk1:((cQ tg tt it1 tg1 vs1 tt1 te M (aR Z vs) (ds.drop (i+1))).bind λr=>Out.ok (r1++r)).sat (λr=>total=ys++r) λ_=>False:=hk1;cases q2:cQ tg tt it1 tg1 vs1 tt1 te M (aR Z vs) (ds.drop (i+1)) with
       |bad=>rw[q2]at hk1;exact ael hk1
       |exc y=>exact absurd q2 jk
       |ok r2=>
        rw[q2]at hk1;exact⟨r1,r2,rfl,rfl,hk1⟩
     let P1:Nat->Hp->Prop:=λj Hb=>Ex H1 Hb/\SInv K aj (sets (L2.wipe σ vs) js ws) Hb (g.add D) Z1 M/\C1 (g.add D) Hb/\j<=es.length/\∃us' zs,Hb D=some (.lst us')/\au K (g.add D) Hb us' (ys++zs)/\(bA tg1 tt1 te M (aR Z1 vs1) (es.drop j)).sat (λr=>r1=zs++r) λ_=>False
     refine⟨λj m Hb=>m=es.length-j/\P1 j Hb,⟨es.length,rfl,((ea.trans e2).trans e3).trans e4,I4.ex e4,c1,adJ _,us,[],e4 _ _ hu3,by rw[adN];exact hU3.ex e4 I4.kd,?_⟩,?_⟩
     .rw[aej,hr1];rfl
     .rintro j m Hb ⟨rfl,fb,Ib,Cb,hjl,us',zs,hub,hUb,hsb⟩;by_cases hlj:j<es.length
      .refine .inr ⟨w1.go _ j Hb Cb hlj,P1 (j+1),λH' p=>⟨es.length-(j+1),by omega,rfl,p⟩,λx H' y=>?_⟩;have hdj:es[j]?=some es[j]:=adh hlj;obtain⟨f2,rx⟩:=w1.yld _ j Hb x H' _ Ib.kd Cb hdj y;have J2:=(Ib.ex f2).wipe vs1;rw[adR hlj,bA]at hsb;split at hsb
       .exact ael hsb
       .next Z2 he1=>
        refine⟨g.add D,_,M,_,Z2,J2,rx,he1,λws1 J3=>⟨jU js1 ws1 _ vs1 hj1 |>.trans (mO _ vs1),?_⟩⟩;refine cW.go J3 (lJ hsb.bnd) λb H6 hb6 e6=>?_;have f26:=f2.trans e6;have hu6:=f26 _ _ hub;have hU6:=hUb.ex f26 Ib.kd;cases b with
        |false=>
         have hb6:(bA tg1 tt1 te M (aR Z1 vs1) (es.drop (j+1))).sat (λr=>r1=zs++r) λ_=>False:=hb6;exact⟨fb.trans f26,Ib.ex f26,w1.ex _ _ _ Ib.kd Cb f26,hlj,us',zs,hu6,hU6,hb6⟩
        |true=>
         have hb6:((kW (te M Z2)).bind λy=>(bA tg1 tt1 te M (aR Z1 vs1) (es.drop (j+1))).bind λr=>Out.ok (y::r)).sat (λr=>r1=zs++r) λ_=>False:=hb6;refine tQ.go (J3.ex e6) (lJ hb6.bnd) λy v H7 hyv e7 ry=>?_;have f27:=f26.trans e7;have Ib7:=Ib.ex f27;have hu7:=f27 _ _ hub;have hU7:=hUb.ex f27 Ib.kd;have hyv:=hyv.bnd;have hr:∃r,bA tg1 tt1 te M (aR Z1 vs1) (es.drop (j+1))=.ok r/\r1=zs++y::r:=by
          cases q1:bA tg1 tt1 te M (aR Z1 vs1) (es.drop (j+1)) with
          |bad=>rw[q1]at hyv;exact ael hyv
          |exc y=>exact absurd q1 fV
          |ok r=>
           rw[q1]at hyv;exact⟨r,rfl,hyv⟩
         obtain⟨r,hr,hr1'⟩:=hr;have hll:us'.length<50000:=by
          rw[hUb.length];rw[ht,hr1']at hlen;simp at hlen |-
          omega
         refine⟨us',hu7,sz_lt (Nat.lt_trans hll (by decide)),Ex.mut (fb.trans f27) nD,Ib7.loc nm hu7 lD,fm true _ _ _ _ Ib7.kd (w1.ex _ _ _ Ib.kd Cb f27) (Gr.upd Ib7.kd hu7 (.inr lD)),hlj,us'++[v],zs++[y],aeu,?_,?_⟩
         .rw[<-List.append_assoc];exact Am Ib7.kd hu7 lD (hU7.append (.cons ry .nil))
         .rw[hr];show r1=_;rw[hr1'];simp
      .have e:j=es.length:=by omega
       refine .inl ⟨w1.stop _ j Hb Cb e,?_⟩;rw[e,adW]at hsb;have hsb:r1=zs++[]:=hsb;rw[adN]at hsb;subst hsb;refine⟨fb,hlt,us',ys++r1,hub,hUb,?_⟩;rw[hr2];show total=_;rw[ht,List.append_assoc]
  .have e:i=ds.length:=by omega
   refine .inl ⟨w.stop _ i Ha Ca e,?_⟩;rw[e,adW]at hs;have hs:total=ys++[]:=hs;rw[adN]at hs;subst hs;exact hQ D us Ha (mD e1 D nD) (e1.trans ea) hu hU
theorem Km{it it1:IF}{tg tg1:bR}{js vs js1 vs1:List Nat}{tt tt1:QT}{te:QF}(hj:∀j∈js,j∈vs)(hj1:∀j∈js1,j∈vs1)(σ:L2.St)(H:Hp)(Q:VK)(h:tQ K aj W (qM it tg vs tt it1 tg1 vs1 tt1 te) σ H Q) :
  tLc2 (tI K aj W false it) (jY K aj js tg) (cW K aj WF tt) (tI K aj WF true it1) (jY K aj js1 tg1) (cW K aj WF tt1) (tQ K aj WF te) vs vs1 σ H Q:=by
 obtain⟨g,Z,M,I,h⟩:=h;refine QX hj hj1 σ H Q ⟨g,Z,M,I,h.bnd.mono (λxs hk l us H' nl e hl r=>?_) λ_ z=>z⟩;refine hk (.ref l) H' e (.lst (.inl ⟨hl,λz=>?_⟩) (au.less (g:=g.add l) (g':=g) rfl (λa z=>?_) r))
 .exact I.kd.fresh nl z
 .rcases z with z|z|z
  .exact .inl z
  .exact .inr (.inl z)
  .exact .inr (.inr (.inl z))
end
section
variable{X:Cx}{aj:aC}{W:WX}{q:Bool}{elt tg iter tg1 iter1:Expr}{ifs ifs1:List Expr}{scope:Scope}{own:List (Str×Nat)}{it it1:IF}{tgf tgf1:bR}{js js1 vs1:List Nat}{tt tt1:QT}{te:QF}{pos cpos:Pos}
theorem Wk(hc:X.calm=true)(hN:X.N.Nodup)(hi:QI aj X W false tg iter it)(ok:blkC X.N X.env.scope scope own=true)(hv:∀i∈vs1,i∈own.map (·.2))(hj:∀j∈js,j∈own.map (·.2))(hj1:∀j∈js1,j∈vs1)
  (hg:∀(s:Shared) (H:Hp) (C:Addr) (cl:List (Str×Addr)) (fp:List Addr),QG aj (X.blk s H scope (compEnvC scope cl C X.env) fp) tg js tgf)
  (ht:∀(s:Shared) (H:Hp) (C:Addr) (cl:List (Str×Addr)) (fp:List Addr),PTs (X.blk s H scope (compEnvC scope cl C X.env) fp) ifs (cW X.K aj WF tt))
  (hi1:∀(s:Shared) (H:Hp) (C:Addr) (cl:List (Str×Addr)) (fp:List Addr),QI aj (X.blk s H scope (compEnvC scope cl C X.env) fp) WF true tg1 iter1 it1)
  (hg1:∀(s:Shared) (H:Hp) (C:Addr) (cl:List (Str×Addr)) (fp:List Addr),QG aj (X.blk s H scope (compEnvC scope cl C X.env) fp) tg1 js1 tgf1)
  (ht1:∀(s:Shared) (H:Hp) (C:Addr) (cl:List (Str×Addr)) (fp:List Addr),PTs (X.blk s H scope (compEnvC scope cl C X.env) fp) ifs1 (cW X.K aj WF tt1))
  (he:∀(s:Shared) (H:Hp) (C:Addr) (cl:List (Str×Addr)) (fp:List Addr),QE aj (X.blk s H scope (compEnvC scope cl C X.env) fp) WF elt te) (hs:∀x,foldedSetIterable iter X.env x=pure x) (hs1:∀env x,foldedSetIterable iter1 env x=pure x) :
  QE aj X W (.ListComp elt [⟨tg,iter,ifs,0⟩,⟨tg1,iter1,ifs1,0⟩] scope pos) (qM it tgf (own.map (·.2)) tt it1 tgf1 vs1 tt1 te):=
 PE.weak (pe_lc2 (g:=jY X.K aj js tgf) (tt:=cW X.K aj WF tt) (wi1:=tI X.K aj WF true it1) (g1:=jY X.K aj js1 tgf1) (tt1:=cW X.K aj WF tt1) (te:=tQ X.K aj WF te) hc hN hi (blkOk_by ok) hv (λs H C cl fp=>hg s H C cl fp) ht (λs H C cl fp=>hi1 s H C cl fp) (λs H C cl fp=>hg1 s H C cl fp) ht1 (λs H C cl fp=>he s H C cl fp) hs hs1) λσ H Q h=>Km hj hj1 σ H Q h
theorem QM{j:Nat}{y:Str}{py:Pos}(hc:X.calm=true)(hN:X.N.Nodup)(hy:X.N[j]?=some y)(hyl:X.env.scope.names.lookup y=some .local)(hsw:swapsWith (.ListComp elt [⟨tg,iter,ifs,0⟩,⟨tg1,iter1,ifs1,0⟩] scope cpos) (some (.Name y py)) pos.line X.env=pure true)
  (hi:QI aj X W false tg iter it) (ok:blkC X.N X.env.scope scope own=true) (hv:∀i∈vs1,i∈own.map (·.2)) (hj:∀j∈js,j∈own.map (·.2)) (hj1:∀j∈js1,j∈vs1)
  (hg:∀(s:Shared) (H:Hp) (C:Addr) (cl:List (Str×Addr)) (fp:List Addr),QG aj (X.blk s H scope (compEnvC scope cl C X.env) fp) tg js tgf)
  (ht:∀(s:Shared) (H:Hp) (C:Addr) (cl:List (Str×Addr)) (fp:List Addr),PTs (X.blk s H scope (compEnvC scope cl C X.env) fp) ifs (cW X.K aj WF tt))
  (hi1:∀(s:Shared) (H:Hp) (C:Addr) (cl:List (Str×Addr)) (fp:List Addr),QI aj (X.blk s H scope (compEnvC scope cl C X.env) fp) WF true tg1 iter1 it1)
  (hg1:∀(s:Shared) (H:Hp) (C:Addr) (cl:List (Str×Addr)) (fp:List Addr),QG aj (X.blk s H scope (compEnvC scope cl C X.env) fp) tg1 js1 tgf1)
  (ht1:∀(s:Shared) (H:Hp) (C:Addr) (cl:List (Str×Addr)) (fp:List Addr),PTs (X.blk s H scope (compEnvC scope cl C X.env) fp) ifs1 (cW X.K aj WF tt1))
  (he:∀(s:Shared) (H:Hp) (C:Addr) (cl:List (Str×Addr)) (fp:List Addr),QE aj (X.blk s H scope (compEnvC scope cl C X.env) fp) WF elt te) (hs:∀x,foldedSetIterable iter X.env x=pure x) (hs1:∀env x,foldedSetIterable iter1 env x=pure x) :
  SE aj X W q (.Assign [.Name y py] (.ListComp elt [⟨tg,iter,ifs,0⟩,⟨tg1,iter1,ifs1,0⟩] scope cpos) pos) (aV (aG j) (gOf (qM it tgf (own.map (·.2)) tt it1 tgf1 vs1 tt1 te))):=by
 refine PS.weak (ps_setLc2 (g:=jY X.K aj js tgf) (tt:=cW X.K aj WF tt) (wi1:=tI X.K aj WF true it1) (g1:=jY X.K aj js1 tgf1) (tt1:=cW X.K aj WF tt1) (te:=tQ X.K aj WF te) hc hN hy hyl hsw hi (blkOk_by ok) hv (λs H C cl fp=>hg s H C cl fp) ht (λs H C cl fp=>hi1 s H C cl fp) (λs H C cl fp=>hg1 s H C cl fp) ht1 (λs H C cl fp=>he s H C cl fp) hs hs1) λD σ H ⟨g,Z,M,I,z⟩=>?_;refine Km hj hj1 σ H _ ⟨g,Z,M,I,(Out.bM (aZ (σ:=σ) z)).mono (λd kk v H' e r=>?_) λx kk H' c dd e r=>kk H' g c dd (Gr.ex e) (I.ex e) r⟩;exact kk _ H' g (Gr.ex e) ((I.ex e).set r)
end
def Bf(neg:Bool)(kvs:List (Str×Dat))(k:QF):QF:=λM Z=>(k M Z).bind λd=>match d with
 |.str x=>.ok (.bool (neg ^^ (kvs.lookup x).isSome))
 |_=>.bad
def Lf(kvs:List (Str×Dat))(k:QF):QF:=λM Z=>(k M Z).bind λd=>match d with
 |.str x=>match kvs.lookup x with
  |some y=>.ok y
  |none=>.bad
 |_=>.bad
section
variable{X:Cx}{aj:aC}{W:WX}{a:Expr}{fa:QF}{x:Str}{p pos:Pos}{kvs:List (Str×Dat)}{k:Nat}
theorem Kc{neg:Bool}{d:Addr}(D:Mh X.w X.K d kvs)(σ:L2.St)(H:Hp)(Q:VK)(h:tQ X.K aj W (Bf neg kvs fa) σ H Q) :
  tOp (λx y H Q=>∃(z:Str) (r:Option Value),x=.str z/\y=.ref d/\PySem.W.nsIn X.K d z=some r/\Q (.bl (neg ^^ r.isSome)) H) (tW X.K aj W fa) (tC (.ref d)) σ H Q:=by
 obtain⟨g,Z,M,I,h⟩:=h;refine tW.go I h.bnd λe v H1 h1 e1 r1=>?_;split at h1
 .next z=>
  cases cR r1;obtain⟨es,n,_,_,hl⟩:=D;have hz:=hl z;cases hk:kvs.lookup z with
  |none=>
   rw[hk]at hz h1;exact⟨z,none,rfl,rfl,hz,h1 _ H1 e1 (.bl _)⟩
  |some d'=>
   rw[hk]at hz h1;obtain⟨v,u,h2,_⟩:=hz;exact⟨z,some u,rfl,rfl,h2,h1 _ H1 e1 (.bl _)⟩
 .exact ael h1
theorem YK{neg:Bool}{op:CmpOp}{d:Addr}(_:Room k X.A)(hn:(op=.In/\neg=false)\/(op=.NotIn/\neg=true))(D:Mh X.w X.K d kvs):OpR X (compareOp op) (λx y H Q=>∃(z:Str) (r:Option Value),x=.str z/\y=.ref d/\PySem.W.nsIn X.K d z=some r/\Q (.bl (neg ^^ r.isSome)) H):=by
 obtain⟨es,n,D,_⟩:=D;rcases hn with⟨rfl,rfl⟩|⟨rfl,rfl⟩
 .have:=op_in_kd (X:=X) D;simpa only[Bool.false_xor] using this
 .have:=op_notIn_kd (X:=X) D;simpa only[Bool.true_xor] using this
theorem Vd{neg:Bool}{op:CmpOp}(hr:Room k X.A)(hn:(op=.In/\neg=false)\/(op=.NotIn/\neg=true))(g:bW X.prog X.w X.K X.mg X.base aj k x (.dic kvs))(hg:Gl X x)(hd:(x==("__debug__" : Str))=false)(ha:QW aj X W a fa):QE aj X W (.Compare a [op] [.Name x p] pos) (Bf neg kvs fa)/\gG aj X W (.Compare a [op] [.Name x p] pos) (aY (Bf neg kvs fa)):=by obtain⟨d,hm,D⟩:=g;have hb:PE X (.Name x p) (tC (.ref d)):=pe_glob hg hm rfl hd;refine⟨PE.weak (pe_cmpR (YK hr hn D) ha hb (by cases op<;>rfl)) λσ H Q h=>Kc D σ H Q h,PT.weak (pt_cmpR (YK hr hn D) ha hb (by cases op<;>rfl)) λσ H Q ⟨g,Z,M,I,h⟩=>?_⟩;refine Kc D σ H _ ⟨g,Z,M,I,h.bnd.mono (λd h1 v H' e' r'=>?_) λ_ z=>z⟩;obtain⟨k,h2,h3⟩:=lH r'.weak h1;exact⟨k,h2,h3 H' e'⟩
theorem Sh(g:bW X.prog X.w X.K X.mg X.base aj k x (.dic kvs))(hg:Gl X x)(hd:(x==("__debug__" : Str))=false)(ha:QW aj X W a fa)(hp:PlainIx a):QE aj X W (.Subscript (.Name x p) a pos) (Lf kvs fa):=by
 obtain⟨d,hm,es,n,D,_,hl⟩:=g;have hb:PE X (.Name x p) (tC (.ref d)):=pe_glob hg hm rfl hd;refine PE.weak (pe_ix ix_kdict hb ha hp) λσ H Q ⟨g,Z,M,I,h⟩=>?_;refine tW.go I h.bnd λe v H1 h1 e1 r1=>?_;split at h1
 .next z=>
  cases cR r1;have hz:=hl z;split at h1
  .next y hk=>
   rw[hk]at hz;obtain⟨v,u,h2,h3,h4⟩:=hz;exact⟨d,z,v,rfl,rfl,⟨es,n,u,D.at_,D.lit,h2,h3⟩,h1 v H1 e1 (h4 g H1)⟩
  .exact ael h1
 .exact ael h1
end
end Rf
namespace L2
open PySem PySem.Spec PyProof.Rows
end L2
namespace Rf
open PySem PySem.Spec PyProof.Rows L2 Evl
structure Hs where
 Ms:List (Str×List (Str×MV))
 ft:Ft
 xm:List (Str×List (Str×Bool))
 df:List (Str×Bool)
 xf:List (Str×List Str)
structure xK(P:Program)(w:World)(K:ac8)(mg:Str->Option Value)(base:Heap)(aj:aC)(k:Nat)(h:Hs):Prop where
 ms:∀m tb,h.Ms.lookup m=some tb->∀c v,tb.lookup c=some v->iH P w K mg base aj k c m v
 fk:rN h.ft aj
 co:cJ K aj
 hw:aj.w=w
 xm:∀y tab,h.xm.lookup y=some tab->(∃D,aj y=some D)/\Hu K aj y λx=>tab.lookup x
 xf:∀y fs,h.xf.lookup y=some fs->∃C,aj y=some C/\XfC K C/\∀f∈fs,PySem.W.findIn K (.ref C) f=some none
structure Tc where
 N:List Str
 sc:Scope
 G:List (Str×GV)
 B:List Str
 hs:Hs
 ml:List Str
 top:Bool
structure Amb(aj:aC)(c:Tc)(X:Cx)(W:WX)(k:Nat):Prop where
 hN:X.N=c.N
 hs:X.env.scope=c.sc
 calm:X.calm=true
 nd:X.N.Nodup
 tk:Takes X W
 rm:Room k X.A
 gl:∀x v,c.G.lookup x=some v->bW X.prog X.w X.K X.mg X.base aj k x v
 bl:∀x,x∈c.B->X.mg x=none
 fn:c.top=true->∀x,X.fn x=true
 hk:xK X.prog X.w X.K X.mg X.base aj k c.hs
theorem Amb.tw{aj:aC}{c:Tc}{X:Cx}{W:WX}{k:Nat}(a:Amb aj c X W k){x:Str}{v:GV}(h:c.G.lookup x=some v)(hv:v.soft=true):Takes X W:=
 a.tk
theorem Amb.tm{aj:aC}{c:Tc}{X:Cx}{W:WX}{k:Nat}(a:Amb aj c X W k){m:Str}{tb:List (Str×MV)}(h:c.hs.Ms.lookup m=some tb):Takes X W:=
 a.tk
def gd{α:Type}(b:Bool)(o:Option α):Option α:=match b with
 |true=>o
 |false=>none
theorem aF{α:Type}{b:Bool}{o:Option α}{x:α}:gd b o=some x↔b=true/\o=some x:=by
 cases b
 .exact⟨λh=>(nomatch h),λh=>(nomatch h.1)⟩
 .exact⟨λh=>⟨rfl,h⟩,λh=>h.2⟩
def idx:List Str->Str->Option Nat
 |[],_=>none
 |y::ys,x=>match y==x with
  |true=>some 0
  |false=>(idx ys x).map (· + 1)
theorem oH:∀{N:List Str} {x:Str} {i:Nat},idx N x=some i->N[i]?=some x
 |[],_,_,h=>nomatch h
 |y::ys,x,i,h=>by
  rw[idx]at h;split at h
  .next e=>
   cases h;rw[List.getElem?_cons_zero,aev e]
  .rw[adX]at h;obtain⟨j,h1,rfl⟩:=h;rw[List.getElem?_cons_succ];exact oH h1
def M7(sc:Scope)(x:Str):Bool:=match sc.names.lookup x with
 |some .local=>true
 |some .cell=>true
 |some .free=>true
 |_=>false
theorem RJ{sc:Scope}{x:Str}(h:M7 sc x=true):Vis sc x:=by
 unfold M7 at h;unfold Vis;split at h
 .next e=>exact .inl e
 .next e=>exact .inr (.inl e)
 .next e=>exact .inr (.inr e)
 .cases h
def nY(x:Str):Bool:=(x==("__debug__" : Str)) || (x==("__classdict__" : Str))
theorem gQ{x:Str}(h:nY x=false):(x==("__debug__" : Str))=false/\(x==("__classdict__" : Str))=false:=by unfold nY at h;rw[Bool.or_eq_false_iff]at h;exact h
def nR(sc:Scope)(x:Str):Bool:=match sc.names.lookup x with
 |some .globalImplicit=>true
 |_=>false
def lO(c:Tc)(x:Str):Option Nat:=gd (M7 c.sc x&&!nY x) (idx c.N x)
def Vh(c:Tc)(x:Str):Bool:=match c.sc.names.lookup x with
 |some .local=>true
 |some .cell=>c.top
 |_=>false
def iU(c:Tc)(x:Str):Option Nat:=gd (Vh c x) (idx c.N x)
section
variable{aj:aC}{c:Tc}{X:Cx}{W:WX}{k:Nat}{x:Str}{i:Nat}
theorem gM(a:Amb aj c X W k)(h:nR c.sc x=true):Gl X x:=by
 unfold nR at h;unfold Gl PySem.Env.kindOf;rw[a.hs];split at h
 .assumption
 .cases h
theorem jc(a:Amb aj c X W k)(h:lO c x=some i):X.N[i]?=some x/\Vis X.env.scope x/\(x==("__debug__" : Str))=false/\(x==("__classdict__" : Str))=false:=by obtain⟨h1,h2⟩:=aF.mp h;rw[ac9]at h1;obtain⟨d1,d2⟩:=gQ (by simpa using h1.2);exact⟨by rw[a.hN];exact oH h2,by rw[a.hs];exact RJ h1.1,d1,d2⟩
theorem dO(a:Amb aj c X W k)(h:iU c x=some i):X.N[i]?=some x/\L2.Loc X.env.scope x/\(X.fn x=true\/X.env.scope.names.lookup x=some .local):=by
 obtain⟨h1,h2⟩:=aF.mp h;unfold Vh at h1;refine⟨by rw[a.hN];exact oH h2,?_⟩;rw[a.hs];unfold L2.Loc;split at h1
 .next e=>exact⟨.inl e,.inr e⟩
 .next e=>exact⟨.inr e,.inl (a.fn h1 x)⟩
 .cases h1
def iJ(c:Tc)(x y:Str):Bool:=(x==y)&&(nR c.sc x&&c.B.contains x)
theorem dW{y:Str}(a:Amb aj c X W k)(h:iJ c x y=true):x=y/\Gl X x/\X.mg x=none:=by unfold iJ at h;rw[ac9,ac9]at h;exact⟨aev h.1,gM a h.2.1,a.bl x (by simpa using h.2.2)⟩
end
def iV:Expr->Bool
 |.Set _ _ _=>true
 |_=>false
theorem fL{b:Expr}{op:CmpOp}(h:iV b=false):behindInMarks op b=false:=by cases b<;>first | rfl | cases h
theorem yS{b c:Expr}{op op':CmpOp}(h:iV c=false):lastMarks [op,op'] [b,c]=false:=fL h
theorem fW{e:Expr}{env:PySem.Env}(h:iV e=false):∀x,foldedSetIterable e env x=pure x:=λx=>by
 cases e<;>first | rfl | cases h
def Av:Expr->Bool
 |.Slice _ _ _ _=>true
 |_=>false
def S8:Operator->Option (Dat->Dat->Out Dat)
 |.Add=>some eO
 |.Sub=>some qU
 |.Mult=>some uM
 |.FloorDiv=>some o9
 |.Mod=>some cH
 |.Pow=>some uz
 |_=>none
def oY:CmpOp->Option (Dat->Dat->Out Dat)
 |.Eq=>some cP
 |.NotEq=>some eE
 |.Lt=>some zm
 |.LtE=>some Ow
 |.Gt=>some Ky
 |.GtE=>some JR
 |.In=>some (inD false)
 |.NotIn=>some (inD true)
 |_=>none
theorem Q6{op:Operator}{o:Dat->Dat->Out Dat}(h:S8 op=some o)(X:Cx)(aj:aC)(W:WX):∃r,OpR X (binaryOp op) r/\eV aj X.K W o r:=by
 cases op<;>cases h
 .exact⟨_,Pn,Tw⟩
 .exact⟨_,op_sub,Us⟩
 .exact⟨_,op_mul,VN⟩
 .exact⟨_,op_mod,Vl⟩
 .exact⟨_,op_pow,TV⟩
 .exact⟨_,op_fdiv,V6⟩
theorem iY{op:CmpOp}{o:Dat->Dat->Out Dat}(h:oY op=some o){X:Cx}{k:Nat}(hr:Room k X.A)(aj:aC)(W:WX):∃r,OpR X (compareOp op) r/\eV aj X.K W o r:=by
 have h65:X.A.units+65<cLine:=by have:=hr.un;omega
 cases op<;>cases h
 .exact⟨_,VD hr.units,Xk⟩
 .exact⟨_,S7 hr.units,Ys⟩
 .exact⟨_,Ue h65,Xo⟩
 .exact⟨_,op_le,Xj⟩
 .exact⟨_,op_gt,Yh⟩
 .exact⟨_,op_ge,XD⟩
 .exact⟨_,Vn h65,Oh⟩
 .exact⟨_,Iv h65,Oh⟩
def m9:Expr->Option Dat
 |.Constant .none _ _=>some .none
 |.Constant (.bool b) _ _=>some (.bool b)
 |_=>none
theorem tR{e:Expr}{d:Dat}{X:Cx}(h:m9 e=some d):∃v,Fj d=some v/\(v=.non\/∃b,v=.bl b)/\PE X e (tC v):=by
 unfold m9 at h;split at h
 .cases h;exact⟨_,rfl,.inl rfl,pe_non⟩
 .cases h;exact⟨_,rfl,.inr ⟨_,rfl⟩,pe_bl⟩
 .cases h
def Iz:CmpOp->Option Bool
 |.Is=>some false
 |.IsNot=>some true
 |_=>none
theorem vU{op:CmpOp}{neg:Bool}{v:V}{X:Cx}(h:Iz op=some neg)(hv:v=.non\/∃b,v=.bl b):OpR X (compareOp op) (uD neg v):=by
 cases op<;>cases h
 .exact Wq hv
 .exact Ih hv
def Vy(x:Str):Option (Dat->Out Dat):=
 if x=="len" then some pq else if x=="abs" then some Ay else if x=="sum" then some Mw else if x=="max" then some maxD else if x=="all" then some Nm else if x=="any" then some Mg
 else if x=="tuple" then some jo else if x=="list" then some jP else if x=="int" then some intD else
 none
def JN(x:Str):Option (Dat->Dat->Out Dat):=if x=="max" then some pC else if x=="min" then some vM else none
theorem Sv{x:Str}{o:Dat->Out Dat}{X:Cx}(hc:X.calm=true)(h:Vy x=some o)(aj:aC)(W:WX):∃(f:Value) (id:String) (r:List V->Hp->VK->Prop),(f=.builtin id\/f=.type id)/\CallR X f r/\ql aj X.K W o r/\BV f x:=by
 unfold Vy at h;split at h
 .next e=>cases h;cases aev e;exact⟨_,_,_,.inl rfl,Ws,Ua,by decide +kernel,by decide,by decide⟩
 split at h
 .next e=>cases h;cases aev e;exact⟨_,_,_,.inl rfl,call_abs,Vs,by decide +kernel,by decide,by decide⟩
 split at h
 .next e=>cases h;cases aev e;exact⟨_,_,_,.inl rfl,cr_sum hc,Uo,by decide +kernel,by decide,by decide⟩
 split at h
 .next e=>cases h;cases aev e;exact⟨_,_,_,.inl rfl,cr_max hc,R3,by decide +kernel,by decide,by decide⟩
 split at h
 .next e=>cases h;cases aev e;exact⟨_,_,_,.inl rfl,cr_all hc,TY,by decide +kernel,by decide,by decide⟩
 split at h
 .next e=>cases h;cases aev e;exact⟨_,_,_,.inl rfl,cr_any hc,Wc,by decide +kernel,by decide,by decide⟩
 split at h
 .next e=>cases h;cases aev e;exact⟨_,_,_,.inr rfl,call_tuple_of,Nk,by decide +kernel,by decide,by decide⟩
 split at h
 .next e=>cases h;cases aev e;exact⟨_,_,_,.inr rfl,call_list_of,Ru,by decide +kernel,by decide,by decide⟩
 split at h
 .next e=>cases h;cases aev e;exact⟨_,_,_,.inr rfl,Tz,VJ,by decide +kernel,by decide,by decide⟩
 .cases h
theorem Wz{x:Str}{o:Dat->Dat->Out Dat}{X:Cx}(hc:X.calm=true)(h:JN x=some o)(aj:aC)(W:WX):∃(f:Value) (id:String) (r:List V->Hp->VK->Prop),(f=.builtin id\/f=.type id)/\CallR X f r/\OJ aj X.K W o r/\BV f x:=by
 unfold JN at h;split at h
 .next e=>cases h;cases aev e;exact⟨_,_,_,.inl rfl,call_max2 hc,Ql,by decide +kernel,by decide,by decide⟩
 split at h
 .next e=>cases h;cases aev e;exact⟨_,_,_,.inl rfl,call_min2 hc,Qy,by decide +kernel,by decide,by decide⟩
 .cases h
def Sd(x:Str):Option qZ:=if x=="int" then some .int else if x=="bool" then some .bool else if x=="str" then some .str else if x=="tuple" then some .tuple else if x=="list" then some .list else none
theorem Tt{x:Str}{t:qZ}(h:Sd x=some t):BV (.type t.name) x:=by
 unfold Sd at h;split at h
 .next e=>cases h;cases aev e;exact⟨by decide +kernel,by decide,by decide⟩
 split at h
 .next e=>cases h;cases aev e;exact⟨by decide +kernel,by decide,by decide⟩
 split at h
 .next e=>cases h;cases aev e;exact⟨by decide +kernel,by decide,by decide⟩
 split at h
 .next e=>cases h;cases aev e;exact⟨by decide +kernel,by decide,by decide⟩
 split at h
 .next e=>cases h;cases aev e;exact⟨by decide +kernel,by decide,by decide⟩
 .cases h
structure Tr where
 E:Tc->Expr->Option QF
 W:Tc->Expr->Option QF
 T:Tc->Expr->Option QT
 I:Tc->Bool->Expr->Expr->Option IF
structure Tr.Ok(t:Tr):Prop where
 oe:∀{aj:aC} {c:Tc} {X:Cx} {W:WX} {k:Nat},Amb aj c X W k->∀{e:Expr} {f:QF},t.E c e=some f->QE aj X W e f
 ow:∀{aj:aC} {c:Tc} {X:Cx} {W:WX} {k:Nat},Amb aj c X W k->∀{e:Expr} {f:QF},t.W c e=some f->QW aj X W e f
 ot:∀{aj:aC} {c:Tc} {X:Cx} {W:WX} {k:Nat},Amb aj c X W k->∀{e:Expr} {f:QT},t.T c e=some f->gG aj X W e f
 oi:∀{aj:aC} {c:Tc} {X:Cx} {W:WX} {k:Nat},Amb aj c X W k->∀{firm:Bool} {tg e:Expr} {f:IF},t.I c firm tg e=some f->QI aj X W firm tg e f
def oN(t:Tr)(c:Tc):List Expr->Option QA
 |[]=>some aH
 |a::es=>gd (nst a) ((t.E c a).bind λfa=>(oN t c es).bind λfr=>some (ao fa fr))
section
variable{aj:aC}{c:Tc}{X:Cx}{W:WX}{k:Nat}{t:Tr}
theorem iw(o:t.Ok)(a:Amb aj c X W k):∀{es:List Expr} {f:QA},oN t c es=some f->mZ aj X W es f/\es.all nst=true/\∀M Z ds,f M Z=.ok ds->ds.length=es.length
 |[],f,h=>by
  cases h;exact⟨Vj,rfl,λM Z ds e=>by cases e;rfl⟩
 |e::es,f,h=>by
  rw[oN,aF]at h;obtain⟨hs,h⟩:=h;obtain⟨fa,h1,h⟩:=ac7.mp h;obtain⟨fr,h2,h⟩:=ac7.mp h;cases h;obtain⟨i1,i2,i3⟩:=iw o a h2;refine⟨Qo (o.oe a h1) i1 (aU hs es),by simp[hs,i2],λM Z ds e=>?_⟩;unfold ao at e;cases hf:fa M Z with
  |ok d=>
   rw[hf]at e;cases hr:fr M Z with
   |ok dr=>
    rw[hr]at e;cases e;simp[i3 M Z dr hr]
   |exc y=>rw[hr]at e;cases e
   |bad=>rw[hr]at e;cases e
  |exc y=>rw[hf]at e;cases e
  |bad=>rw[hf]at e;cases e
end
def V5(t:Tr)(c:Tc):Option Expr->Option QO
 |none=>some wu
 |some a=>(t.W c a).bind λfa=>some (fQ fa)
theorem JM{aj:aC}{c:Tc}{X:Cx}{W:WX}{k:Nat}{t:Tr}(o:t.Ok)(a:Amb aj c X W k){e:Option Expr}{f:QO}(h:V5 t c e=some f):JF aj X W e f:=by
 cases e with
 |none=>cases h;exact Rq
 |some e=>
  obtain⟨fa,h1,h⟩:=ac7.mp h;cases h;exact Qg (o.ow a h1)
def yh(c:Tc):List Expr->Option (List Nat)
 |[]=>some []
 |.Name x _::es=>(iU c x).bind λi=>(yh c es).bind λjs=>some (i::js)
 |_::_=>none
def yO(c:Tc):Expr->Option (List Nat×bR)
 |.Name x _=>(iU c x).bind λi=>some ([i],aG i)
 |.Tuple es _ _=>(yh c es).bind λjs=>some (js,cA js)
 |_=>none
theorem sU{aj:aC}{c:Tc}{X:Cx}{W:WX}{k:Nat}(a:Amb aj c X W k):∀{es:List Expr} {js:List Nat},yh c es=some js->vO X es js
 |[],js,h=>by cases h;trivial
 |.Name x p::es,js,h=>by
  rw[yh]at h;obtain⟨i,h1,h⟩:=ac7.mp h;obtain⟨r,h2,h⟩:=ac7.mp h;cases h;obtain⟨s1,s2,s3⟩:=dO a h1;exact⟨s1,s2,s3,sU a h2⟩
theorem iQ{aj:aC}{c:Tc}{X:Cx}{W:WX}{k:Nat}(a:Amb aj c X W k){e:Expr}{js:List Nat}{f:bR}(h:yO c e=some (js,f)):QG aj X e js f:=by
 unfold yO at h;split at h
 .obtain⟨i,h1,h⟩:=ac7.mp h;cases h;obtain⟨s1,s2,s3⟩:=dO a h1;exact wZ a.nd s1 s2 s3
 .obtain⟨js',h1,h⟩:=ac7.mp h;cases h;exact Cp a.calm a.nd (sU a h1)
 .cases h
def Tc.inn(c:Tc)(scope:Scope):Tc:={ c with sc:=relS scope c.sc,top:=false }
theorem Amb.inn{aj:aC}{c:Tc}{X:Cx}{W:WX}{k:Nat}(a:Amb aj c X W k)(scope:Scope)(s:Shared)(H:Hp)(C:Addr)(cl:List (Str×Addr))(fp:List Addr):Amb aj (c.inn scope) (X.blk s H scope (compEnvC scope cl C X.env) fp) WF k where
 hN:=a.hN
 hs:=by show relS scope X.env.scope=relS scope c.sc;rw[a.hs]
 calm:=a.calm
 nd:=a.nd
 tk:=Ww
 rm:=a.rm
 gl:=a.gl
 bl:=a.bl
 fn:=λz=>nomatch z
 hk:=a.hk
def Wd:List Expr->List Nat->List (Str×Nat)
 |.Name x _::es,j::js=>(x,j)::Wd es js
 |_,_=>[]
def eY:Expr->List Nat->List (Str×Nat)
 |.Name x _,[j]=>[(x,j)]
 |.Tuple es _ _,js=>Wd es js
 |_,_=>[]
def uE(js vs:List Nat):Bool:=js.all λj=>vs.contains j
theorem fj{js vs:List Nat}(h:uE js vs=true):∀j∈js,j∈vs:=λj hj=>by
 have:=ady.mp h j hj;simpa using this
def wL(t:Tr)(c:Tc):List Expr->Option QT
 |[]=>some lg
 |[a]=>t.T c a
 |_=>none
theorem PTs.weak{X:Cx}{e:List Expr}{t t':TT}(h:PTs X e t)(k:∀σ H Q,t' σ H Q->t σ H Q):PTs X e t':=⟨λpins s σ H Q I q=>h.run pins s σ H Q I (k σ H Q q)⟩
theorem iZ{aj:aC}{c:Tc}{X:Cx}{W:WX}{k:Nat}{t:Tr}(o:t.Ok)(a:Amb aj c X W k){ifs:List Expr}{f:QT}(h:wL t c ifs=some f):PTs X ifs (cW X.K aj W f):=by
 unfold wL at h;split at h
 .cases h;exact PTs.weak pts_nil λσ H Q ⟨g,Z,M,I,z⟩=>z H (Ex.refl H)
 .exact pts_one (o.ot a h)
 .cases h
def Di(t:Tr)(c:Tc)(elt tg iter:Expr)(ifs:List Expr)(scope:Scope):Option QF:=
 (t.I c false tg iter).bind λit=>(yO (c.inn scope) tg).bind λjt=>(wL t (c.inn scope) ifs).bind λtt=>(t.E (c.inn scope) elt).bind λte=>
  gd (blkC c.N c.sc scope (eY tg jt.1)&&(uE jt.1 ((eY tg jt.1).map (·.2))&&!iV iter)) (some (d7 it jt.2 ((eY tg jt.1).map (·.2)) tt te))
theorem DK{aj:aC}{c:Tc}{X:Cx}{W:WX}{k:Nat}{t:Tr}(o:t.Ok)(a:Amb aj c X W k){elt tg iter:Expr}{ifs:List Expr}{scope:Scope}{pos:Pos}{f:QF}(h:Di t c elt tg iter ifs scope=some f):QE aj X W (.ListComp elt [⟨tg,iter,ifs,0⟩] scope pos) f:=by unfold Di at h;obtain⟨it,h1,h⟩:=ac7.mp h;obtain⟨⟨js,tf⟩,h2,h⟩:=ac7.mp h;obtain⟨tt,h3,h⟩:=ac7.mp h;obtain⟨te,h4,h⟩:=ac7.mp h;obtain⟨hb,h⟩:=aF.mp h;cases h;simp only[ac9,adn]at hb;obtain⟨b1,b2,b3⟩:=hb;exact XS a.calm a.nd (o.oi a h1) (by rw[a.hN,a.hs];exact b1) (fj b2) (λs H C cl fp=>iQ (a.inn scope s H C cl fp) h2) (λs H C cl fp=>iZ o (a.inn scope s H C cl fp) h3) (λs H C cl fp=>o.oe (a.inn scope s H C cl fp) h4) (fW b3)
def Ad(t:Tr)(c:Tc)(x:Str)(e:Expr)(es:List Expr):Option QF:=match c.G.lookup x with
 |some (.fq n m)=>(oN t c (e::es)).bind λas=>gd (nR c.sc x&&(!nY x&&decide ((e::es).length=n))) (some (bD m as))
 |some _=>none
 |none=>match es with
  |[]=>(Vy x).bind λo=>(t.W c e).bind λfa=>gd (iJ c x x&&nst e) (some (fD o fa))
  |[.Name y p]=>match x=="isinstance" with
   |true=>(Sd y).bind λty=>(t.W c e).bind λfa=>gd (iJ c x x&&(iJ c y y&&nst e)) (some (kJ ty fa))
   |false=>(JN x).bind λo=>(t.W c e).bind λfa=>(t.W c (.Name y p)).bind λfb=>gd (iJ c x x&&nst e) (some (aA o fa fb))
  |[e2]=>(JN x).bind λo=>(t.W c e).bind λfa=>(t.W c e2).bind λfb=>gd (iJ c x x&&(nst e&&nst e2)) (some (aA o fa fb))
  |_=>none
theorem Ig{aj:aC}{c:Tc}{X:Cx}{W:WX}{k:Nat}{x:Str}{o:Dat->Dat->Out Dat}{a b:Expr}{fa fb:QF}{p pos:Pos}(am:Amb aj c X W k)(h:JN x=some o)(hg:iJ c x x=true)(ha:QW aj X W a fa)(hb:QW aj X W b fb)(hs:nst a=true)(hs2:nst b=true):QE aj X W (.Call (.Name x p) [a,b] [] pos) (aA o fa fb):=by obtain⟨f,id,r,hf,hc,ho,hv⟩:=Wz am.calm h aj W;obtain⟨_,hg,hm⟩:=dW am hg;exact Yp hf hc ho hg hm hv ha hb hs hs2
theorem Ie{aj:aC}{c:Tc}{X:Cx}{W:WX}{k:Nat}{t:Tr}(o:t.Ok)(a:Amb aj c X W k){x:Str}{e:Expr}{es:List Expr}{p pos:Pos}{f:QF}(h:Ad t c x e es=some f):QE aj X W (.Call (.Name x p) (e::es) [] pos) f:=by
 unfold Ad at h;split at h
 .next n m hl=>
  obtain⟨as,h1,h⟩:=ac7.mp h;obtain⟨hb,h⟩:=aF.mp h;cases h;simp only[ac9,adn,aem]at hb;obtain⟨b1,b2,b3⟩:=hb;obtain⟨fa,hm,hk,fd,ps,j,hj,hp,hB,F⟩:=a.gl x _ hl;obtain⟨i1,i2,i3⟩:=iw o a h1;exact Rm (passAt (a.tw hl rfl)) F (a.rm.mono hj) (gM a b1) hm hk hB i1 (b3.trans hp.symm) (gQ b2).1 i2 i3
 .cases h
 .split at h
  .obtain⟨o1,h1,h⟩:=ac7.mp h;obtain⟨fa,h2,h⟩:=ac7.mp h;obtain⟨hb,h⟩:=aF.mp h;cases h;rw[ac9]at hb;obtain⟨f,id,r,hf,hc,ho,hv⟩:=Sv a.calm h1 aj W;obtain⟨_,hg,hm⟩:=dW a hb.1;exact O7 hf hc ho hg hm hv (o.ow a h2) hb.2
  .split at h
   .next ex=>
    obtain⟨ty,h1,h⟩:=ac7.mp h;obtain⟨fa,h2,h⟩:=ac7.mp h;obtain⟨hb,h⟩:=aF.mp h;cases h;simp only[ac9]at hb;obtain⟨b1,b2,b3⟩:=hb;obtain⟨_,hg,hm⟩:=dW a b1;obtain⟨_,hg2,hm2⟩:=dW a b2;cases aev ex;exact Um hg hm ⟨by decide +kernel,by decide,by decide⟩ hg2 hm2 (Tt h1) (o.ow a h2) b3
   .obtain⟨o1,h1,h⟩:=ac7.mp h;obtain⟨fa,h2,h⟩:=ac7.mp h;obtain⟨fb,h3,h⟩:=ac7.mp h;obtain⟨hb,h⟩:=aF.mp h;cases h;rw[ac9]at hb;exact Ig a h1 hb.1 (o.ow a h2) (o.ow a h3) hb.2 rfl
  .obtain⟨o1,h1,h⟩:=ac7.mp h;obtain⟨fa,h2,h⟩:=ac7.mp h;obtain⟨fb,h3,h⟩:=ac7.mp h;obtain⟨hb,h⟩:=aF.mp h;cases h;simp only[ac9]at hb;exact Ig a h1 hb.1 (o.ow a h2) (o.ow a h3) hb.2.1 hb.2.2
  .cases h
def stE(t:Tr)(c:Tc):Expr->Option QF
 |.Name x _=>(match lO c x with
  |some i=>some (aq i)
  |none=>match c.G.lookup x with
   |some (.con d)=>gd (nR c.sc x&&!nY x) (some (qC d))
   |_=>none)
 |.Constant (.int i) _ _=>some (qC (.int i))
 |.Constant (.str x) _ _=>some (qC (.str x))
 |.Constant (.bool x) _ _=>some (qC (.bool x))
 |.Constant .none _ _=>some (qC .none)
 |.BinOp a op b _=>(S8 op).bind λo=>(t.W c a).bind λfa=>(t.W c b).bind λfb=>some (aA o fa fb)
 |.UnaryOp .USub a _=>(t.W c a).bind λfa=>some (fD wN fa)
 |.UnaryOp .Not a _=>(t.W c a).bind λfa=>some (zQ fa)
 |.BoolOp _ [a] _=>t.E c a
 |.BoolOp .And (a::b::r) p=>(t.E c a).bind λfa=>(t.E c (.BoolOp .And (b::r) p)).bind λfb=>some (tZ fa fb)
 |.BoolOp .Or (a::b::r) p=>(t.E c a).bind λfa=>(t.E c (.BoolOp .Or (b::r) p)).bind λfb=>some (Np fa fb)
 |.Compare a [op] [b] _=>(match Iz op with
  |some neg=>(m9 b).bind λd=>(t.W c a).bind λfa=>some (qp neg d fa)
  |none=>(oY op).bind λo=>(t.W c a).bind λfa=>(t.W c b).bind λfb=>gd (!iV b) (some (aA o fa fb)))
 |.Compare a [op,op'] [b,b2] _=>(oY op).bind λo=>(oY op').bind λo'=>(t.W c a).bind λfa=>(t.W c b).bind λfb=>(t.W c b2).bind λfc=>gd (!iV b2) (some (N7 (oA o o' fa fb fc)))
 |.IfExp d a b _=>(t.T c d).bind λta=>(t.E c a).bind λfa=>(t.E c b).bind λfb=>some (Bo ta fa fb)
 |.Tuple es _ _=>(oN t c es).bind λfr=>some (dh fr)
 |.List es _=>(oN t c es).bind λfr=>some (ig fr)
 |.Subscript a b _=>(match b with
  |.Slice lo hi none _=>(t.W c a).bind λfa=>(V5 t c lo).bind λfl=>(V5 t c hi).bind λfh=>some (yK fa fl fh)
  |b=>gd (!Av b) ((t.W c a).bind λfa=>(t.W c b).bind λfb=>some (aA bG fa fb)))
 |.ListComp elt [⟨tg,iter,ifs,0⟩] scope _=>Di t c elt tg iter ifs scope
 |.Call (.Name x _) (e::es) [] _=>Ad t c x e es
 |_=>none
def Vz(t:Tr)(c:Tc):Expr->Option QF
 |.Name x p=>(match lO c x with
  |some i=>some (ak i)
  |none=>t.E c (.Name x p))
 |e=>t.E c e
def valT:Expr->Bool
 |.UnaryOp .Not _ _=>false
 |.BoolOp _ _ _=>false
 |.IfExp _ _ _ _=>false
 |.Compare _ _ _ _=>false
 |_=>true
theorem Ed{e:Expr}{env:PySem.Env}(h:valT e=true):∀whole,isTrue e env whole=(do let v <-whole;standAt e.pos;holding [v] (truthy v)):=λwhole=>by
 cases e with
 | UnaryOp o a p=>cases o<;>first | (with_unfolding_all rfl) | cases h
 |BoolOp _ _ _=>cases h
 |IfExp _ _ _ _=>cases h
 |Compare _ _ _ _=>cases h
 |_=>with_unfolding_all rfl
def WL(t:Tr)(c:Tc):Expr->Option QT
 |.UnaryOp .Not a _=>(t.T c a).bind λta=>some (d9 ta)
 |.BoolOp _ [a] _=>t.T c a
 |.BoolOp .And (a::b::r) p=>(t.T c a).bind λta=>(t.T c (.BoolOp .And (b::r) p)).bind λtb=>some (iy ta tb)
 |.BoolOp .Or (a::b::r) p=>(t.T c a).bind λta=>(t.T c (.BoolOp .Or (b::r) p)).bind λtb=>some (jf ta tb)
 |.Compare a [op] [b] _=>(match Iz op with
  |some neg=>(m9 b).bind λd=>(t.W c a).bind λfa=>some (aY (qp neg d fa))
  |none=>(oY op).bind λo=>(t.W c a).bind λfa=>(t.W c b).bind λfb=>gd (!iV b) (some (aY (aA o fa fb))))
 |.Compare a [op,op'] [b,b2] _=>(oY op).bind λo=>(oY op').bind λo'=>(t.W c a).bind λfa=>(t.W c b).bind λfb=>(t.W c b2).bind λfc=>gd (!iV b2) (some (oA o o' fa fb fc))
 |e=>gd (valT e) ((t.W c e).bind λfa=>some (eZ fa))
def trF(t:Tr)(c:Tc)(firm:Bool)(e:Expr):Option QF:=match firm with
 |true=>t.E c e
 |false=>t.W c e
def isTup:Expr->Bool
 |.Tuple _ _ _=>true
 |_=>false
def stI(t:Tr)(c:Tc)(firm:Bool)(tg:Expr):Expr->Option IF
 |.Call (.Name x p) [a] [] pos=>(match iJ c x "range" with
  |true=>(t.W c a).bind λfa=>gd (nst a) (some (oJ fa))
  |false=>match iJ c x "enumerate" with
   |true=>(trF t c firm a).bind λfa=>gd (nst a&&isTup tg) (some (sS 0 fa))
   |false=>(trF t c firm (.Call (.Name x p) [a] [] pos)).bind λfa=>some (cM fa))
 |.Call (.Name x p) [a,b] [] pos=>(match iJ c x "range" with
  |true=>(t.W c a).bind λfa=>(t.W c b).bind λfb=>gd (nst a&&nst b) (some (wU fa fb))
  |false=>match iJ c x "zip" with
   |true=>(trF t c firm a).bind λfa=>(trF t c firm b).bind λfb=>gd (nst a&&(nst b&&isTup tg)) (some (Bv fa fb))
   |false=>(trF t c firm (.Call (.Name x p) [a,b] [] pos)).bind λfa=>some (cM fa))
 |.Call (.Name x p) [a] [⟨some kw,.Constant (.int i) j kp,kp2⟩] pos=>gd (iJ c x "enumerate"&&(kw=="start"&&(decide (-(2^63)<=i/\i<2^63)&&(nst a&&isTup tg)))) ((trF t c firm a).bind λfa=>some (sS i fa))
 |e=>(trF t c firm e).bind λfa=>some (cM fa)
theorem Az{b:Expr}(h:(!Av b)=true):PlainIx b:=λv i=>by
 cases b<;>first | rfl | cases h
section
variable{aj:aC}{c:Tc}{X:Cx}{W:WX}{k:Nat}{t:Tr}
theorem UL(o:t.Ok)(a:Amb aj c X W k){e:Expr}{f:QF}(h:stE t c e=some f):QE aj X W e f:=by
 unfold stE at h;split at h
 .split at h
  .next i hi=>
   cases h;obtain⟨s1,s2,s3,s4⟩:=jc a hi;exact Vu s1 s2 s3 s4
  .split at h
   .next d hl=>
    obtain⟨hb,h⟩:=aF.mp h;cases h;simp only[ac9,adn]at hb;obtain⟨v,u,h1,h2,h3,_⟩:=a.gl _ _ hl;exact PE.weak (pe_glob (gM a hb.1) h1 h2 (gQ hb.2).1) λσ H Q ⟨g,Z,M,I,z⟩=>z v H (Ex.refl H) (h3 g H)
   .cases h
 .cases h;exact SQ
 .cases h;exact Uw
 .cases h;exact Xf
 .cases h;exact Vm
 .obtain⟨op,h1,h⟩:=ac7.mp h;obtain⟨fa,h2,h⟩:=ac7.mp h;obtain⟨fb,h3,h⟩:=ac7.mp h;cases h;obtain⟨r,r1,r2⟩:=Q6 h1 X aj W;exact Uk r1 r2 (o.ow a h2) (o.ow a h3)
 .obtain⟨fa,h2,h⟩:=ac7.mp h;cases h;exact VP (o.ow a h2)
 .obtain⟨fa,h2,h⟩:=ac7.mp h;cases h;exact Pb (o.ow a h2)
 .exact pe_one (o.oe a h)
 .obtain⟨fa,h2,h⟩:=ac7.mp h;obtain⟨fb,h3,h⟩:=ac7.mp h;cases h;exact Qe (o.oe a h2) (o.oe a h3)
 .obtain⟨fa,h2,h⟩:=ac7.mp h;obtain⟨fb,h3,h⟩:=ac7.mp h;cases h;exact V4 (o.oe a h2) (o.oe a h3)
 .split at h
  .next neg hn=>
   obtain⟨d,h1,h⟩:=ac7.mp h;obtain⟨fa,h2,h⟩:=ac7.mp h;cases h;obtain⟨v,v1,v2,v3⟩:=tR (X:=X) h1;refine Yo v1 (vU hn v2) (o.ow a h2) v3 (fL ?_);unfold m9 at h1;split at h1<;>first | rfl | cases h1
  .obtain⟨op,h1,h⟩:=ac7.mp h;obtain⟨fa,h2,h⟩:=ac7.mp h;obtain⟨fb,h3,h⟩:=ac7.mp h;obtain⟨hb,h⟩:=aF.mp h;cases h;obtain⟨r,r1,r2⟩:=iY h1 a.rm aj W;exact RL r1 r2 (o.ow a h2) (o.ow a h3) (fL (by simpa using hb))
 .obtain⟨op,h1,h⟩:=ac7.mp h;obtain⟨op',h1',h⟩:=ac7.mp h;obtain⟨fa,h2,h⟩:=ac7.mp h;obtain⟨fb,h3,h⟩:=ac7.mp h;obtain⟨fc,h4,h⟩:=ac7.mp h;obtain⟨hb,h⟩:=aF.mp h;cases h;obtain⟨r,r1,r2⟩:=iY h1 a.rm aj W;obtain⟨r',r1',r2'⟩:=iY h1' a.rm aj W;exact Ml r1 r1' r2 r2' (o.ow a h2) (o.ow a h3) (o.ow a h4) (yS (by simpa using hb))
 .obtain⟨ta,h1,h⟩:=ac7.mp h;obtain⟨fa,h2,h⟩:=ac7.mp h;obtain⟨fb,h3,h⟩:=ac7.mp h;cases h;exact Mf (o.ot a h1) (o.oe a h2) (o.oe a h3)
 .obtain⟨fr,h1,h⟩:=ac7.mp h;cases h;exact T7 (iw o a h1).1
 .obtain⟨fr,h1,h⟩:=ac7.mp h;cases h;exact U9 (iw o a h1).1
 .split at h
  .obtain⟨fa,h1,h⟩:=ac7.mp h;obtain⟨fl,h2,h⟩:=ac7.mp h;obtain⟨fh,h3,h⟩:=ac7.mp h;cases h;exact XH (o.ow a h1) (JM o a h2) (JM o a h3)
  .obtain⟨hb,h⟩:=aF.mp h;obtain⟨fa,h1,h⟩:=ac7.mp h;obtain⟨fb,h2,h⟩:=ac7.mp h;cases h;exact X4 (o.ow a h1) (o.ow a h2) (Az hb)
 .exact DK o a h
 .exact Ie o a h
 .cases h
theorem Uz(o:t.Ok)(a:Amb aj c X W k){e:Expr}{f:QF}(h:Vz t c e=some f):QW aj X W e f:=by
 unfold Vz at h;split at h
 .split at h
  .next i hi=>
   cases h;obtain⟨s1,s2,s3,s4⟩:=jc a hi;exact Wj s1 s2 s3 s4
  .exact(o.oe a h).w
 .exact(o.oe a h).w
theorem Vw{a b:Expr}{rest:List Expr}{ta tb:QT}{pos:Pos}(ha:gG aj X W a ta)(hb:gG aj X W (.BoolOp .And (b::rest) pos) tb):gG aj X W (.BoolOp .And (a::b::rest) pos) (iy ta tb):=by have hb':Ge aj X W (.BoolOp .And (b::rest) pos) tb:=⟨λwh pins s σ H Q I q=>hb.run pins s σ H Q I q⟩;exact PW.pt (VH ha hb')
theorem Xq{a b:Expr}{rest:List Expr}{ta tb:QT}{pos:Pos}(ha:gG aj X W a ta)(hb:gG aj X W (.BoolOp .Or (b::rest) pos) tb):gG aj X W (.BoolOp .Or (a::b::rest) pos) (jf ta tb):=by have hb':Ge aj X W (.BoolOp .Or (b::rest) pos) tb:=⟨λwh pins s σ H Q I q=>hb.run pins s σ H Q I q⟩;exact PW.pt (Xa ha hb')
theorem VF(o:t.Ok)(a:Amb aj c X W k){e:Expr}{f:QT}(h:WL t c e=some f):gG aj X W e f:=by
 unfold WL at h;split at h
 .obtain⟨ta,h1,h⟩:=ac7.mp h;cases h;exact Wb (o.ot a h1)
 .next op _ _=>
  cases op
  .exact PW.pt (pw_and1 (o.ot a h))
  .exact PW.pt (pw_or1 (o.ot a h))
 .obtain⟨ta,h1,h⟩:=ac7.mp h;obtain⟨tb,h2,h⟩:=ac7.mp h;cases h;exact Vw (o.ot a h1) (o.ot a h2)
 .obtain⟨ta,h1,h⟩:=ac7.mp h;obtain⟨tb,h2,h⟩:=ac7.mp h;cases h;exact Xq (o.ot a h1) (o.ot a h2)
 .split at h
  .next neg hn=>
   obtain⟨d,h1,h⟩:=ac7.mp h;obtain⟨fa,h2,h⟩:=ac7.mp h;cases h;obtain⟨v,v1,v2,v3⟩:=tR (X:=X) h1;refine Ye v1 (vU hn v2) (o.ow a h2) v3 (fL ?_);unfold m9 at h1;split at h1<;>first | rfl | cases h1
  .obtain⟨op,h1,h⟩:=ac7.mp h;obtain⟨fa,h2,h⟩:=ac7.mp h;obtain⟨fb,h3,h⟩:=ac7.mp h;obtain⟨hb,h⟩:=aF.mp h;cases h;obtain⟨r,r1,r2⟩:=iY h1 a.rm aj W;exact Vc r1 r2 (o.ow a h2) (o.ow a h3) (fL (by simpa using hb))
 .obtain⟨op,h1,h⟩:=ac7.mp h;obtain⟨op',h1',h⟩:=ac7.mp h;obtain⟨fa,h2,h⟩:=ac7.mp h;obtain⟨fb,h3,h⟩:=ac7.mp h;obtain⟨fc,h4,h⟩:=ac7.mp h;obtain⟨hb,h⟩:=aF.mp h;cases h;obtain⟨r,r1,r2⟩:=iY h1 a.rm aj W;obtain⟨r',r1',r2'⟩:=iY h1' a.rm aj W;exact M9 r1 r1' r2 r2' (o.ow a h2) (o.ow a h3) (o.ow a h4) (yS (by simpa using hb))
 .obtain⟨hv,h⟩:=aF.mp h;obtain⟨fa,h1,h⟩:=ac7.mp h;cases h;exact Sy (o.ow a h1) (Ed hv)
theorem lX(o:t.Ok)(a:Amb aj c X W k){firm:Bool}{e:Expr}{f:QF}(h:trF t c firm e=some f):Fq aj X W firm e f:=by
 cases firm
 .exact o.ow a h
 .exact o.oe a h
theorem uH{e:Expr}(h:isTup e=true):∃es j p,e=.Tuple es j p:=by cases e<;>first | exact⟨_,_,_,rfl⟩ | cases h
theorem Wg(o:t.Ok)(a:Amb aj c X W k){firm:Bool}{tg e:Expr}{f:IF}(h:stI t c firm tg e=some f):QI aj X W firm tg e f:=by
 unfold stI at h;split at h
 .split at h
  .next hb=>
   obtain⟨fa,h1,h⟩:=ac7.mp h;obtain⟨hs,h⟩:=aF.mp h;cases h;obtain⟨rfl,hg,hm⟩:=dW a hb;exact JH hg hm (o.ow a h1) hs
  .split at h
   .next hb=>
    obtain⟨fa,h1,h⟩:=ac7.mp h;obtain⟨hs,h⟩:=aF.mp h;cases h;obtain⟨rfl,hg,hm⟩:=dW a hb;rw[ac9]at hs;obtain⟨es,j,p,rfl⟩:=uH hs.2;exact Qv hg hm (lX o a h1) hs.1
   .obtain⟨fa,h1,h⟩:=ac7.mp h;cases h;exact Af (lX o a h1)
 .split at h
  .next hb=>
   obtain⟨fa,h1,h⟩:=ac7.mp h;obtain⟨fb,h2,h⟩:=ac7.mp h;obtain⟨hs,h⟩:=aF.mp h;cases h;obtain⟨rfl,hg,hm⟩:=dW a hb;rw[ac9]at hs;exact Ju hg hm (o.ow a h1) (o.ow a h2) hs.1 hs.2
  .split at h
   .next hb=>
    obtain⟨fa,h1,h⟩:=ac7.mp h;obtain⟨fb,h2,h⟩:=ac7.mp h;obtain⟨hs,h⟩:=aF.mp h;cases h;obtain⟨rfl,hg,hm⟩:=dW a hb;simp only[ac9]at hs;obtain⟨es,j,p,rfl⟩:=uH hs.2.2;exact TF hg hm (lX o a h1) (lX o a h2) hs.1 hs.2.1
   .obtain⟨fa,h1,h⟩:=ac7.mp h;cases h;exact Af (lX o a h1)
 .obtain⟨hs,h⟩:=aF.mp h;obtain⟨fa,h1,h⟩:=ac7.mp h;cases h;simp only[ac9,aem]at hs;obtain⟨hb,hk,hi,hn,ht⟩:=hs;obtain⟨rfl,hg,hm⟩:=dW a hb;cases aev hk;obtain⟨es,j,p,rfl⟩:=uH ht;exact Nt hi.1 hi.2 hg hm (lX o a h1) hn
 .obtain⟨fa,h1,h⟩:=ac7.mp h;cases h;exact Af (lX o a h1)
end
def DR:bV->Bool
 |.dat d=>lf d
 |.lst _ xs=>dJ xs
 |.dic _ kvs=>dJ (kvs.map (·.1))&&dJ (kvs.map (·.2))
def jL(M:Mo):Bool:=M.all λi=>i.fs.all λp=>DR p.2
def zu(b:Bool):Cell->Option Cell
 |.dat d=>if lf d=true then some (.dat d) else none
 |.mut ds=>if (b&&dJ ds)=true then some (.dat (.list ds)) else none
def kY(vs:List Nat)(Z:Env):Env:=Z.mapIdx λi o=>o.bind (zu (vs.contains i))
def Ak:List Dat->List Dat->Bool
 |.int _::_,.tuple _::_=>true
 |es,ds=>!(es.length==ds.length)
def rM(j:Nat)(vs:List Nat)(Z:Env)(ds:List Dat):Bool:=vs.all λi=>match Z[i]? with
 |some (some (.mut es))=>i==j || Ak es ds
 |_=>true
def Gh.al(g:Gh)(H:Hp)(k:Addr->Prop):Gh:={ g with Lc:=λa=>(g.Lc a\/g.Lo a\/∃us,H a=some (.lst us))/\¬g.W a/\¬k a,Lo:=λ_=>False,kl:=False }
section
variable{K:ac8}{aj:aC}{W:WX}{q:Bool}{g g':Gh}{H H':Hp}{σ:L2.St}{Z:Env}{M M':Mo}{k:Addr->Prop}
theorem Kd.al(kd:Kd g H):Kd (g.al H k) H where
 ob:=λa z=>by
  rcases z with z|z|z
  .exact kd.ob a (.inl z)
  .rcases z.1 with y|y|⟨us,y⟩
   .exact kd.ob a (.inr (.inl y))
   .exact kd.ob a (.inr (.inr y))
   .exact⟨_,y,aek⟩
  .exact ael z
 lo:=λ_ z=>ael z
 lc:=λa z=>⟨z.2.1,λy=>y⟩
theorem bT.free{l:Addr}(e:g'.tbl=g.tbl):∀{b:Bool} {kvs:List (Dat×Dat)},(dJ (kvs.map (·.1))&&dJ (kvs.map (·.2)))=true->bT K aj g H l b kvs->bT K aj g' H l b kvs
 |false,_,f,⟨kv,h1,h2,h3⟩=>⟨kv,h1,h2,h3.free e (by rw[ac9]at f;exact f.2)⟩
 |true,_,f,⟨o,xs,vs,h1,h2,h3,h4,h5,h6⟩=>by
  rw[ac9]at f;exact⟨o,xs,vs,h1,h2,h3,h4.free e f.1,h5,h6.free e f.2⟩
theorem bh.free{h:Nat}{f:Str}{v:V}(e:g'.tbl=g.tbl)(e2:g'.ow=g.ow):∀{fl:bV},DR fl=true->bh K aj g H h f v fl->bh K aj g' H h f v fl
 |.dat _,f,z=>Rep.free e f z
 |.lst _ _,f,⟨l,us,h1,h2,h3,h4,h5⟩=>⟨l,us,h1,h2,by rw[e2];exact h3,h4.free e f,by rw[e];exact h5⟩
 |.dic _ _,f,⟨l,h1,h2,h3⟩=>⟨l,h1,by rw[e2];exact h2,h3.free e f⟩
theorem aP.free{h:Nat}(e:g'.tbl=g.tbl)(e2:g'.ow=g.ow):∀{fs:List (Str×V)} {gs:List (Str×bV)},(gs.all λp=>DR p.2)=true->aP K aj g H h fs gs->aP K aj g' H h fs gs
 |_,_,_,.nil=>.nil
 |_,_,f,.cons z t=>by
  rw[adF,ac9]at f;exact .cons (bh.free e e2 f.1 z) (aP.free e e2 f.2 t)
theorem bK.free(f:jL M=true)(e:g'.tbl=g.tbl)(e2:g'.ow=g.ow)(w:bK K aj g H M):bK K aj g' H M where
 len:=by rw[e];exact w.len
 inj:=by rw[e];exact w.inj
 ins:=λh a i ha hi hc=>by
  rw[e]at ha;obtain⟨C,dx,fs,c1,c2,c3⟩:=w.ins h a i ha hi hc;exact⟨C,dx,fs,c1,c2,c3.free e e2 (ady.mp f i (adB hi))⟩
 nd:=w.nd
 fd:=w.fd
 tw:=by rw[e,e2];exact w.tw
 dm:=w.dm
 nc:=w.nc
theorem tM{vs:List Nat}{i:Nat}{c:Cell}(h:(kY vs Z)[i]?=some (some c)):∃c',Z[i]?=some (some c')/\zu (vs.contains i) c'=some c:=by
 unfold kY at h;rw[List.getElem?_mapIdx]at h;cases hr:Z[i]? with
 |none=>rw[hr]at h;cases h
 |some o=>
  rw[hr]at h;cases o with
  |none=>cases h
  |some c'=>exact⟨c',rfl,adA h⟩
theorem rR{b:Bool}{c:Cell}{c':Cell}(h:zu b c=some c'):∃d,c'=.dat d/\((c=.dat d/\lf d=true)\/∃ds,d=.list ds/\c=.mut ds/\(b&&dJ ds)=true):=by
 cases c with
 |dat d=>
  have h:(if lf d=true then some (Cell.dat d) else none)=some c':=h;by_cases f:lf d=true
  .rw[aer f]at h;exact⟨d,(adA h).symm,.inl ⟨rfl,f⟩⟩
  .rw[aes f]at h;cases h
 | «mut» ds=>
  have h:(if (b&&dJ ds)=true then some (Cell.dat (.list ds)) else none)=some c':=h;by_cases f:(b&&dJ ds)=true
  .rw[aer f]at h;exact⟨.list ds,(adA h).symm,.inr ⟨ds,rfl,rfl,f⟩⟩
  .rw[aes f]at h;cases h
def cZ(vs:List Nat)(σ:L2.St)(Z:Env)(a:Addr):Prop:=∃i ds,i∈vs/\σ[i]?=some (some (.ref a))/\(kY vs Z)[i]?=some (some (.dat (.list ds)))
theorem SInv.al(vs:List Nat)(I:SInv K aj σ H g Z M)(f:jL M=true):SInv K aj σ H (g.al H (cZ vs σ Z)) (kY vs Z) M where
 kd:=I.kd.al
 wok:=bK.free (g:=g) f rfl rfl I.wok
 len:=by unfold kY;rw[List.length_mapIdx];exact I.len
 dat:=λi d h=>by
  obtain⟨c',h4,h5⟩:=tM h;obtain⟨d',e1,e3⟩:=rR h5;cases e1;rcases e3 with⟨rfl,e2⟩|⟨ds',e3,rfl,e2⟩
  .obtain⟨v,g1,g2⟩:=I.dat i _ h4;exact⟨v,g1,Rep.free (g:=g) (g':=g.al H (cZ vs σ Z)) rfl e2 g2⟩
  .cases e3;obtain⟨l,us,g1,g2,g3,g4⟩:=I.own i _ h4;rw[ac9]at e2;refine⟨_,g1,.lst (.inl ⟨g2,λz=>?_⟩) (au.free (g:=g) (g':=g.al H (cZ vs σ Z)) rfl e2.2 g4)⟩;rcases z with z|z|z
   .exact I.kd.lo _ g3 z
   .exact z.2.2 ⟨i,_,by simpa using e2.1,g1,h⟩
   .exact z
 own:=λi xs h=>by
  obtain⟨c',h4,h5⟩:=tM h;obtain⟨d',e1,_⟩:=rR h5;cases e1
 sep:=λi j xs ys l ne h=>by
  obtain⟨c',h4,h5⟩:=tM h;obtain⟨d',e1,_⟩:=rR h5;cases e1
theorem Pj{g2:Gh}{us:List V}{es ds:List Dat}(h1:au K g H us es)(h2:au K g2 H' us ds):Ak es ds=false:=by
 unfold Ak;split
 .cases h1 with
  |cons a _=>cases a;cases h2 with
   |cons b _=>cases b
 .rw[<-h1.length,<-h2.length];simp
def Gh.af(g g':Gh)(P:Addr->Prop):Gh:={ tbl:=g'.tbl,ow:=g'.ow,Lc:=g.Lc,Lo:=λb=>g.Lo b\/P b,kl:=g.kl }
theorem tH{vs:List Nat}(I:SInv K aj σ H g Z M)(r:Gr q (g.al H (cZ vs σ Z)) g' H H'){a:Addr}{o:HO}(h:H a=some o)(n:¬g.W a):H' a=some o:=r.keep a o h n λz=>z
theorem sW{vs:List Nat}{P:Addr->Prop}(I:SInv K aj σ H g Z M)(r:Gr q (g.al H (cZ vs σ Z)) g' H H')(hP:∀b,P b->g.Lo b\/H b=none):Gr q g (g.af g' P) H H' where
 keep:=λa o h n _=>r.keep a o h n λz=>z
 keepW:=r.keepW
 dom:=r.dom
 tbl:=r.tbl
 W:=r.W
 nW:=r.nW
 qg:=λz=>⟨by
  show(g'.tbl,g.kl)=(g.tbl,g.kl)
  have y:g'.tbl=(g.al H (cZ vs σ Z)).tbl:=Gh.qm (r.qg z).1;have y:g'.tbl=g.tbl:=y;rw[y],(r.qg z).2⟩
 Lc:=rfl
 Lo:=λ_ h=>.inl h
 nLo:=λa h=>h.elim .inl (hP a)
 kl:=rfl
theorem qR{vs:List Nat}{P:Addr->Prop}(I:SInv K aj σ H g Z M)(r:Gr q (g.al H (cZ vs σ Z)) g' H H')(I':SInv K aj σ H' g' (kY vs Z) M')(f:jL M'=true)(hP:∀b,P b->(g.Lo b\/H b=none)/\(∃us,H' b=some (.lst us))/\¬g'.W b):SInv K aj σ H' (g.af g' P) Z M':=by
 have R:=sW (P:=P) I r λb h=>(hP b h).1;have nW:∀a,¬g.W a->(∃o,H a=some o)->¬g'.W a:=λa n ⟨o,h⟩ z=>by
  rcases r.nW a z with z|z
  .exact n z
  .rw[h]at z;cases z
 refine⟨⟨λa z=>?_,λa z=>?_,λa z=>?_⟩,bK.free (g:=g') f rfl rfl I'.wok,I.len,λi d h=>?_,λi xs h=>?_,I.sep⟩
 .rcases z with z|z|z|z
  .exact I'.kd.ob a (.inl z)
  .obtain⟨o,h,m⟩:=I.kd.ob a (.inr (.inl z));exact⟨o,tH I r h (I.kd.lc a z).1,m⟩
  .obtain⟨o,h,m⟩:=I.kd.ob a (.inr (.inr z));exact⟨o,tH I r h (I.kd.lo a z),m⟩
  .obtain⟨us,h⟩:=(hP a z).2.1;exact⟨_,h,aek⟩
 .rcases z with z|z
  .obtain⟨o,h,_⟩:=I.kd.ob a (.inr (.inr z));exact nW a (I.kd.lo a z) ⟨o,h⟩
  .exact(hP a z).2.2
 .have z:g.Lc a:=z;obtain⟨o,h,_⟩:=I.kd.ob a (.inr (.inl z));refine⟨nW a (I.kd.lc a z).1 ⟨o,h⟩,λy=>?_⟩;rcases y with y|y
  .exact(I.kd.lc a z).2 y
  .rcases(hP a y).1 with w|w
   .exact(I.kd.lc a z).2 w
   .rw[h]at w;cases w
 .obtain⟨v,e1,e2⟩:=I.dat i d h;exact⟨v,e1,e2.gr R I.kd⟩
 .obtain⟨l,us,e1,e2,e3,e4⟩:=I.own i xs h;exact⟨l,us,e1,tH I r e2 (I.kd.lo l e3),.inl e3,e4.gr R I.kd⟩
theorem Iw{vs:List Nat}{j:Nat}{a:Addr}{ds:List Dat}(I:SInv K aj σ H g Z M)(r:Gr q (g.al H (cZ vs σ Z)) g' H H')(f:jL M=true)(hd:rM j vs Z ds=true)(rv:Rep K g' H' (.ref a) (.list ds)) :
  ∃us,H' a=some (.lst us)/\au K g' H' us ds/\¬g'.W a/\(H a=none\/(g.Lo a/\σ[j]?=some (some (.ref a))/\∃es,Z[j]?=some (some (.mut es)))):=by
 cases rv with
 | @lst _ us _ y t=>
  have y:H' a=some (.lst us)/\¬g'.A a:=y.elim id λy=>by
   have z:=y.1;rw[r.kl]at z;exact ael z
  refine⟨us,y.1,t,λz=>y.2 (.inl z),?_⟩;cases hH:H a with
  |none=>exact .inl rfl
  |some o=>
   right
   have nw:¬g.W a:=λz=>y.2 (.inl (r.W a z));have e:=tH I r hH nw;rw[y.1]at e;cases e;have hk:cZ vs σ Z a:=Classical.byContradiction λn=>y.2 (.inr (.inl (by rw[r.Lc];exact⟨.inr (.inr ⟨us,hH⟩),nw,n⟩)));obtain⟨i,es,h1,h2,h3⟩:=hk;obtain⟨c',h4,h5⟩:=tM h3;obtain⟨d',e1,e3⟩:=rR h5;cases e1;rcases e3 with⟨rfl,e3⟩|⟨ds',e3,rfl,_⟩
   .rw[lf]at e3;cases e3
   .cases e3;obtain⟨l,us',g1,g2,g3,g4⟩:=I.own i _ h4;rw[h2]at g1;cases g1;rw[hH]at g2;cases g2;have no:=Pj g4 t;have hi:=ady.mp hd i h1;simp only[h4]at hi;rw[no,Bool.or_false]at hi;have hij:=aev hi;subst hij;exact⟨g3,h2,_,h4⟩
def Kr(x:bJ):Bool:=x.fs.all λp=>lf p.2
theorem cI.free{fs:List (Str×V)}{gs:List (Str×Dat)}(e:g'.tbl=g.tbl)(h:cI K g H fs gs):(gs.all λp=>lf p.2)=true->cI K g' H fs gs:=by
 induction h with
 |nil=>exact λ_=>.nil
 |cons r _ ih=>
  intro f;rw[adF,ac9]at f;exact .cons (r.free e f.1) (ih f.2)
theorem dG.free{x:bJ}{c:Value}{dd:Option Addr}(e:g'.tbl=g.tbl)(f:Kr x=true)(h:dG K aj g H x c dd):dG K aj g' H x c dd:=by obtain⟨C,h1,h2,h3⟩:=h;exact⟨C,h1,h2,h3.imp id λ⟨a,fs,e1,e2,e3⟩=>⟨a,fs,e1,e2,e3.free e f⟩⟩
def Bg(j:Nat)(vs:List Nat)(Z:Env)(M':Mo):Dat->fX
 |.list ds=>if (dJ ds&&rM j vs Z ds)=true then .next (Z.set j (some (.mut ds))) M' else .bad
 |d=>if lf d=true then .next (Z.set j (some (.dat d))) M' else .bad
def lY(vs:List Nat)(j:Nat)(f:GF):SF:=λM Z=>if jL M=true then(match f M (kY vs Z) with
 |.ok d M'=>if jL M'=true then Bg j vs Z M' d else .bad
 |.exc x M'=>if (jL M'&&Kr x)=true then .exc x Z M' else .bad
 |.bad=>.bad) else .bad
theorem R9{vs:List Nat}{j:Nat}{f:GF}{D:Ends}(h:tS K aj W q (lY vs j f) D σ H):tAsg (tE K aj W q f) (gName j) D σ H:=by
 obtain⟨g,Z,M,I,z⟩:=h;unfold lY at z;split at z
 .next fM=>
  refine⟨g.al H (cZ vs σ Z),kY vs Z,M,I.al vs fM,?_⟩;cases hf:f M (kY vs Z) with
  |bad=>rw[hf]at z;exact ael z
  |exc x M'=>
   rw[hf]at z;intro H' g' c dd r I' rx
   dsimp only at z
   split at z
   .next f'=>
    rw[ac9]at f';exact z σ H' (g.af g' λ_=>False) c dd (sW I r λ_ y=>ael y) (qR I r I' f'.1 λ_ y=>ael y) (dG.free (g:=g') (g':=(g.af g' λ_=>False).fr) rfl f'.2 rx)
   .exact ael z
  |ok d M'=>
   rw[hf]at z;intro v H' g' r I' rv
   dsimp only at z
   split at z
   .next f'=>
    unfold Bg at z;split at z
    .next ds=>
     split at z
     .next hb=>
      rw[ac9]at hb;obtain⟨a,rfl⟩:∃a,v=.ref a:=by
       cases rv with
       |lst _ _=>exact⟨_,rfl⟩
      obtain⟨us,a1,a2,a3,a4⟩:=Iw I r fM hb.2 rv;have hP:∀b,b=a->(g.Lo b\/H b=none)/\(∃us,H' b=some (.lst us))/\¬g'.W b:=λb e=>by
       subst e;exact⟨a4.elim .inr λy=>.inl y.1,⟨us,a1⟩,a3⟩
      have R:=sW (P:=λb=>b=a) I r λb e=>(hP b e).1;have J:=qR I r I' f' hP;have nl:∀(i:Nat) (ys:List Dat),i≠j->Z[i]?=some (some (.mut ys))->σ[i]?≠some (some (.ref a)):=λi ys ne h y=>by
       rcases a4 with n|⟨_,n,es,n2⟩
       .obtain⟨l',us',h1,h2,_⟩:=I.own i ys h;rw[y]at h1;cases h1;rw[n]at h2;cases h2
       .exact I.sep i j ys es a ne h n2 y n
      refine z _ H' (g.af g' λb=>b=a) R ⟨J.kd,J.wok,by rw[adw,adw];exact I.len,λi d h=>?_,λi ys h=>?_,λi k ys zs b ne h1 h2 h3 h4=>?_⟩
      .rcases cG h with⟨_,h,_⟩|⟨ne,h⟩
       .cases h
       .rw[ade ne];exact J.dat i d h
      .rcases cG h with⟨rfl,h,hj⟩|⟨ne,h⟩
       .cases h;exact⟨a,us,by rw[adk (by rw[I.len];exact hj)],a1,.inr rfl,au.free (g:=g') (g':=g.af g' λb=>b=a) rfl hb.1 a2⟩
       .rw[ade ne];exact J.own i ys h
      .rcases cG h1 with⟨rfl,h1,hj⟩|⟨n1,h1⟩
       .rcases cG h2 with⟨rfl,h2,_⟩|⟨n2,h2⟩
        .exact ne rfl
        .rw[adk (by rw[I.len];exact hj)]at h3;cases h3;rw[ade n2]at h4;exact nl k zs (Ne.symm n2) h2 h4
       .rcases cG h2 with⟨rfl,h2,hj⟩|⟨n2,h2⟩
        .rw[adk (by rw[I.len];exact hj)]at h4;cases h4;rw[ade n1]at h3;exact nl i ys (Ne.symm n1) h1 h3
        .rw[ade n1]at h3;rw[ade n2]at h4;exact I.sep i k ys zs b ne h1 h2 h3 h4
     .exact ael z
    .split at z
     .next hl=>
      have J:=qR (P:=λ_=>False) I r I' f' λ_ y=>ael y;exact z _ H' (g.af g' λ_=>False) (sW I r λ_ y=>ael y) (J.set (Rep.free (g:=g') (g':=g.af g' λ_=>False) rfl hl rv))
     .exact ael z
   .exact ael z
 .exact ael z
end
section
variable{X:Cx}{aj:aC}{W:WX}{q:Bool}{e:Expr}{pos:Pos}
theorem TX{vs:List Nat}{j:Nat}{x:Str}{f:GF}{pos':Pos}(hN:X.N.Nodup)(hi:X.N[j]?=some x)(hx:Loc X.env.scope x)(hf:X.fn x=true\/X.env.scope.names.lookup x=some .local)(he:GE aj X W q e f)(hs:swapsWith e (some (.Name x pos')) pos.line X.env=pure false):SE aj X W q (.Assign [.Name x pos'] e pos) (lY vs j f):=
 PS.weak (ps_set hN hi hx he hs hf) λD σ H h=>R9 h
def vP(vs:List Nat)(f:QF):SF:=λM Z=>if jL M=true then(match f M (kY vs Z) with
 |.ok (.list ds)=>if rM Z.length vs Z ds=true then .next Z M else .bad
 |.exc x=>if Kr x=true then .exc x Z M else .bad
 |_=>.bad) else .bad
theorem SInv.clr{K:ac8}{g:Gh}{H:Hp}{σ:L2.St}{Z:Env}{M:Mo}{l:Addr}{us us':List V}(I:SInv K aj σ H g Z M)(hl:H l=some (.lst us))(lo:g.Lo l)(n:∀(i:Nat) (ys:List Dat),Z[i]?=some (some (.mut ys))->σ[i]?≠some (some (.ref l))):SInv K aj σ (upd H l (.lst us')) g Z M:=by
 have gr:Gr true g g H (upd H l (.lst us')):=Gr.upd I.kd hl (.inr lo);refine⟨I.kd.upd aek,I.wok.loc I.kd hl lo,I.len,λi d h=>?_,λi zs h=>?_,I.sep⟩
 .obtain⟨v,e1,e2⟩:=I.dat i d h;exact⟨v,e1,e2.gr gr I.kd⟩
 .obtain⟨l',ws,e1,e2,e3,e4⟩:=I.own i zs h;exact⟨l',ws,e1,by rw[upd_ne λz=>n i zs h (by rw[e1,z])];exact e2,e3,e4.gr gr I.kd⟩
theorem RK{vs:List Nat}{o:Expr}{f:QF}{apos epos:Pos}(he:QE aj X W o f)(hb:baseOk o=true)(hl:(apos.endLine==pos.line)=true):SE aj X W q (.Expr (.Call (.Attribute o "clear" apos) [] [] pos) epos) (vP vs f):=by
 have key:=pe_bm0 (X:=X) (cpos:=pos) (apos:=apos) PySem.F.plainAttrs_list PySem.F.slot_list_clear PySem.F.type_list_clear mt_clear he (cU hb) hl;refine PS.weak (ps_expr key (by with_unfolding_all rfl)) λD σ H ⟨g,Z,M,I,z⟩=>?_;unfold vP at z;split at z
 .next fM=>
  refine⟨g.al H (cZ vs σ Z),kY vs Z,M,I.al vs fM,?_⟩;cases hf:f M (kY vs Z) with
  |bad=>rw[hf]at z;exact ael z
  |exc x=>
   rw[hf]at z;intro H' c dd e rx
   dsimp only at z
   split at z
   case isFalse=>exact ael z
   case isTrue fx=>
   have r:Gr q (g.al H (cZ vs σ Z)) (g.al H (cZ vs σ Z)) H H':=Gr.ex e;exact z σ H' (g.af (g.al H (cZ vs σ Z)) λ_=>False) c dd (sW I r λ_ y=>ael y) (qR I r ((I.al vs fM).ex e) fM λ_ y=>ael y) (dG.free (g:=g.al H (cZ vs σ Z)) (g':=(g.af (g.al H (cZ vs σ Z)) λ_=>False).fr) rfl fx rx)
  |ok d=>
   rw[hf]at z;intro v H' e rv;cases d with
   |list ds=>
    dsimp only at z
    split at z
    .next hb=>
     have r:Gr q (g.al H (cZ vs σ Z)) (g.al H (cZ vs σ Z)) H H':=Gr.ex e;obtain⟨a,rfl⟩:∃a,v=.ref a:=by
      cases rv with
      |lst _ _=>exact⟨_,rfl⟩
     obtain⟨us,a1,a2,a3,a4⟩:=Iw I r fM hb rv;have a4:H a=none:=a4.elim id λ⟨_,_,es,y⟩=>by
      rw[List.getElem?_eq_none (adz _)]at y;cases y
     have hP:∀b,b=a->(g.Lo b\/H b=none)/\(∃us,H' b=some (.lst us))/\¬(g.al H (cZ vs σ Z)).W b:=λb e=>by
      subst e;exact⟨.inr a4,⟨us,a1⟩,a3⟩
     have R:=sW (P:=λb=>b=a) I r λb e=>(hP b e).1;have J:=qR I r ((I.al vs fM).ex e) fM hP;refine⟨.inl ⟨rfl,us,sq_of a1⟩,a,us,rfl,rfl,a1,?_⟩;refine z σ _ (g.af (g.al H (cZ vs σ Z)) λb=>b=a) (R.trans (Gr.upd J.kd a1 (.inr (.inr rfl)))) (J.clr a1 (.inr rfl) λi ys h y=>?_);obtain⟨l',us',h1,h2,_⟩:=I.own i ys h;rw[y]at h1;cases h1;rw[a4]at h2;cases h2
    .exact ael z
   |_=>exact ael z
 .exact ael z
def CV(o:Dat->Dat->Out Dat)(f:GF)(k:QF):GF:=λM Z=>(f M Z).bind λx M1=>((k M1 Z).at M1).bind λy M2=>(o x y).at M2
def Cj(neg:Bool)(c:Dat)(f:GF):GF:=λM Z=>(f M Z).bind λd M1=>.ok (.bool (neg ^^ gq c d)) M1
theorem Tn{op:CmpOp}{r:R2}{o:Dat->Dat->Out Dat}{a b:Expr}{fa:GF}{fb:QF}(hr:OpR X (compareOp op) r)(ho:eV aj X.K W o r)(ha:GE aj X W q a fa)(hb:QW aj X W b fb)(hm:behindInMarks op b=false):GE aj X W q (.Compare a [op] [b] pos) (CV o fa fb):=
 PE.weak (pe_cmpR hr ha hb hm) λσ H Q ⟨g,Z,M,I,h⟩=>by
  refine tE.go I h.bnd λd M1 v H1 g1 h1 r1 I1 rv=>?_;refine tW.go I1 ((Out.bM h1.bnd).mono (λ_ z=>z) λ_ z=>?_) λd2 v2 H2 h2 e2 r2=>?_
  .exact λH' c dd e x=>z H' g1 c dd (r1.trans (Gr.ex e)) (I1.ex e) x
  .refine ho σ g1 H2 v v2 d d2 Q (I1.kd.ex e2) ((rv.ex e2 I1.kd).weak) r2 ((Out.bM h2).mono (λz hz u H3 e3 r3=>hz u H3 g1 (r1.trans (Gr.ex (e2.trans e3))) (I1.ex (e2.trans e3)) r3) λx z=>?_);exact λH' c dd e x=>z H' g1 c dd (r1.trans (Gr.ex (e2.trans e))) (I1.ex (e2.trans e)) x
theorem Xb{op:CmpOp}{neg:Bool}{d:Dat}{v:V}{a b:Expr}{fa:GF}(hc:Fj d=some v)(hr:OpR X (compareOp op) (uD neg v))(ha:GE aj X W q a fa)(hb:PE X b (tC v))(hm:behindInMarks op b=false):GE aj X W q (.Compare a [op] [b] pos) (Cj neg d fa):=
 PE.weak (pe_cmpR hr ha hb hm) λσ H Q ⟨g,Z,M,I,h⟩=>by
  refine tE.go I h.bnd λe M1 x H1 g1 h1 r1 I1 rv=>?_;refine⟨rfl,?_⟩;rw[tV rv.weak hc];exact h1 _ H1 g1 r1 I1 (.bl _)
def oZ(f:GF):GT:=λM Z=>(f M Z).bind λd M1=>(jw d).at M1
theorem Wt{op:CmpOp}{r:R2}{o:Dat->Dat->Out Dat}{a b:Expr}{fa:GF}{fb:QF}(hr:OpR X (compareOp op) r)(ho:eV aj X.K W o r)(ha:GE aj X W q a fa)(hb:QW aj X W b fb)(hm:behindInMarks op b=false):mj aj X W q (.Compare a [op] [b] pos) (oZ (CV o fa fb)):=
 PT.weak (pt_cmpR hr ha hb hm) λσ H Q ⟨g,Z,M,I,h⟩=>by
  refine tE.go I h.bnd.bnd λd M1 v H1 g1 h1 r1 I1 rv=>?_;refine tW.go I1 ((Out.bM h1.bnd).mono (λ_ z=>z) λ_ z=>?_) λd2 v2 H2 h2 e2 r2=>?_
  .exact λH' c dd e x=>z H' g1 c dd (r1.trans (Gr.ex e)) (I1.ex e) x
  .refine ho σ g1 H2 v v2 d d2 _ (I1.kd.ex e2) ((rv.ex e2 I1.kd).weak) r2 ((Out.bM h2).mono (λz hz u H3 e3 r3=>?_) λx z=>?_)
   .obtain⟨k,h4,h5⟩:=lH r3.weak (Out.bM hz);exact⟨k,h4,h5 H3 g1 (r1.trans (Gr.ex (e2.trans e3))) (I1.ex (e2.trans e3))⟩
   .exact λH' c dd e x=>z H' g1 c dd (r1.trans (Gr.ex (e2.trans e))) (I1.ex (e2.trans e)) x
theorem Xg{op:CmpOp}{neg:Bool}{d:Dat}{v:V}{a b:Expr}{fa:GF}(hc:Fj d=some v)(hr:OpR X (compareOp op) (uD neg v))(ha:GE aj X W q a fa)(hb:PE X b (tC v))(hm:behindInMarks op b=false):mj aj X W q (.Compare a [op] [b] pos) (oZ (Cj neg d fa)):=
 PT.weak (pt_cmpR hr ha hb hm) λσ H Q ⟨g,Z,M,I,h⟩=>by
  refine tE.go I h.bnd.bnd λe M1 x H1 g1 h1 r1 I1 rv=>?_;refine⟨rfl,_,rfl,?_⟩;rw[tV rv.weak hc];exact h1 H1 g1 r1 I1
end
def MV.n:MV->Nat
 |.q n _=>n
 |.g n _=>n
def MV.qt:MV->Bool
 |.q _ _=>true
 |.g _ _=>false
def Sq(tb:List (Str×MV))(n:Nat):Bool:=tb.all λp=>p.2.n==n
def tbQ(tb:List (Str×MV)):Bool:=tb.all λp=>p.2.qt
theorem gW{α:Type}{c:Str}{v:α}:∀{tb:List (Str×α)},tb.lookup c=some v->(c,v)∈tb
 |[],h=>nomatch h
 |(y,u)::r,h=>by
  rw[adE]at h;split at h
  .next e=>
   cases h;rw[aev e];exact adg
  .exact adf _ (gW h)
section
variable{aj:aC}{c:Tc}{X:Cx}{W:WX}{k:Nat}{t:Tr}
theorem zF(a:Amb aj c X W k){m:Str}{n:Nat}{tb:List (Str×MV)}(h:c.hs.Ms.lookup m=some tb)(hn:Sq tb n=true):pF X aj k m n tb:=λy v hv=>by
 refine⟨a.hk.ms m tb h y v hv,?_⟩;have:=ady.mp hn _ (gW hv);cases v<;>exact aev this
def Bp(t:Tr)(c:Tc)(o:Expr)(m:Str)(es:List Expr)(apos pos:Pos):Option QF:=
 (c.hs.Ms.lookup m).bind λtb=>(t.W c o).bind λfo=>(oN t c es).bind λas=>
  gd (tbQ tb&&(Sq tb (es.length+1)&&(baseOk o&&(decide (es.length<30)&&(apos.endLine==pos.line))))) (some (bZ tb fo as))
theorem Jh(o:t.Ok)(a:Amb aj c X W k){b:Expr}{m:Str}{es:List Expr}{apos pos:Pos}{f:QF}(h:Bp t c b m es apos pos=some f):QE aj X W (.Call (.Attribute b m apos) es [] pos) f:=by
 unfold Bp at h;obtain⟨tb,h1,h⟩:=ac7.mp h;obtain⟨fo,h2,h⟩:=ac7.mp h;obtain⟨as,h3,h⟩:=ac7.mp h;obtain⟨hb,h⟩:=aF.mp h;cases h;simp only[ac9,aem]at hb;obtain⟨_,b2,b3,b4,b5⟩:=hb;obtain⟨i1,i2,i3⟩:=iw o a h3;cases es with
 |nil=>
  cases h3;exact MP (a.tm h1) a.rm (zF a h1 b2) (o.ow a h2) b3 b5
 |cons e es=>exact Rg (a.tm h1) a.rm (zF a h1 b2) (o.ow a h2) i1 i3 b3 i2 b5 b4
def inN:CmpOp->Option Bool
 |.In=>some false
 |.NotIn=>some true
 |_=>none
theorem Jl{op:CmpOp}{neg:Bool}(hr:Room k X.A)(h:inN op=some neg):OpR X (compareOp op) (rInD X neg):=by
 have h65:X.A.units+64<cLine:=by have:=hr.un;omega
 cases op<;>cases h
 .exact op_inD h65
 .exact op_notInD h65
def HD(t:Tr)(c:Tc)(e:Expr)(op:CmpOp)(o:Expr)(f:Str):Option QF:=
 (inN op).bind λneg=>(c.hs.df.lookup f).bind λ_=>(t.E c e).bind λfe=>(t.W c o).bind λfo=>gd (baseOk o) (some (yd neg f fe fo))
theorem VB{o e:Expr}{f:Str}{p1 pos:Pos}{fo fk:QF}{neg:Bool}{op:CmpOp}(co:cJ X.K aj)(hw:aj.w=X.w)(hr:OpR X (compareOp op) (rInD X neg))(hk:QE aj X W e fk)(ho:QW aj X W o fo)(hb:baseOk o=true):gG aj X W (.Compare e [op] [.Attribute o f p1] pos) (aY (yd neg f fk fo)):=
 PT.weak (pt_cmpR hr hk (pe_fld ho (cU hb)) (by cases op<;>rfl)) λσ H Q ⟨g,Z,M,I,h⟩=>by
  refine Ox co hw σ H _ ⟨g,Z,M,I,h.bnd.mono (λd h1 v H' e' r'=>?_) λ_ z=>z⟩;obtain⟨k,h2,h3⟩:=lH r'.weak h1;exact⟨k,h2,h3 H' e'⟩
theorem DQ(o:t.Ok)(a:Amb aj c X W k){e b:Expr}{op:CmpOp}{m:Str}{p1 pos:Pos}{f:QF}(h:HD t c e op b m=some f):QE aj X W (.Compare e [op] [.Attribute b m p1] pos) f/\gG aj X W (.Compare e [op] [.Attribute b m p1] pos) (aY f):=by unfold HD at h;obtain⟨neg,h1,h⟩:=ac7.mp h;obtain⟨_,_,h⟩:=ac7.mp h;obtain⟨fe,h2,h⟩:=ac7.mp h;obtain⟨fo,h3,h⟩:=ac7.mp h;obtain⟨hb,h⟩:=aF.mp h;cases h;exact⟨Wn a.hk.co a.hk.hw (Jl a.rm h1) (o.oe a h2) (o.ow a h3) hb,VB a.hk.co a.hk.hw (Jl a.rm h1) (o.oe a h2) (o.ow a h3) hb⟩
def zK(t:Tr)(c:Tc)(e:Expr)(op:CmpOp)(x:Str):Option QF:=
 (inN op).bind λneg=>match c.G.lookup x with
  |some (.dic kvs)=>(t.W c e).bind λfe=>gd (nR c.sc x&&!nY x) (some (Bf neg kvs fe))
  |_=>none
theorem Ck(o:t.Ok)(a:Amb aj c X W k){e:Expr}{op:CmpOp}{x:Str}{p1 pos:Pos}{f:QF}(h:zK t c e op x=some f):QE aj X W (.Compare e [op] [.Name x p1] pos) f/\gG aj X W (.Compare e [op] [.Name x p1] pos) (aY f):=by
 unfold zK at h;obtain⟨neg,h1,h⟩:=ac7.mp h;split at h
 .next kvs hl=>
  obtain⟨fe,h2,h⟩:=ac7.mp h;obtain⟨hb,h⟩:=aF.mp h;cases h;simp only[ac9,adn]at hb;refine Vd a.rm ?_ (a.gl x _ hl) (gM a hb.1) (gQ hb.2).1 (o.ow a h2);cases op<;>cases h1
  .exact .inl ⟨rfl,rfl⟩
  .exact .inr ⟨rfl,rfl⟩
 .cases h
def Cg(t:Tr)(c:Tc):Expr->Option QF
 |.Call (.Name y _) [b] [] _=>(match iJ c y "set" with
  |true=>(t.W c b).bind λfb=>gd (nst b) (some (fD Gu fb))
  |false=>(t.W c (.Call (.Name y ⟨0,0,0,0⟩) [b] [] ⟨0,0,0,0⟩)).bind λ_=>none)
 |e=>(t.W c e).bind λfe=>gd (nst e) (some (fD zM fe))
theorem UG(a:Amb aj c X W k):X.A.units+65<cLine:=by have:=a.rm.un;omega
theorem Ij(o:t.Ok)(a:Amb aj c X W k)(hg:Gl X "sorted")(hm:X.mg "sorted"=none){e:Expr}{p pos:Pos}{f:QF}(h:Cg t c e=some f):QE aj X W (.Call (.Name "sorted" p) [e] [] pos) f:=by
 unfold Cg at h;split at h
 .split at h
  .next hb=>
   obtain⟨fb,h1,h⟩:=ac7.mp h;obtain⟨hn,h⟩:=aF.mp h;cases h;obtain⟨rfl,hg2,hm2⟩:=dW a hb;exact Px (UG a) a.calm hg hm hg2 hm2 (o.ow a h1) hn
  .obtain⟨_,_,h⟩:=ac7.mp h;cases h
 .obtain⟨fe,h1,h⟩:=ac7.mp h;obtain⟨hn,h⟩:=aF.mp h;cases h;exact Rr (UG a) hg hm (o.ow a h1) hn
def wg(t:Tr)(c:Tc)(elt tg iter:Expr)(ifs:List Expr)(tg1 iter1:Expr)(ifs1:List Expr)(scope:Scope):Option QF:=
 (t.I c false tg iter).bind λit=>(yO (c.inn scope) tg).bind λjt=>(wL t (c.inn scope) ifs).bind λtt=>(t.I (c.inn scope) true tg1 iter1).bind λit1=>(yO (c.inn scope) tg1).bind λjt1=>(wL t (c.inn scope) ifs1).bind λtt1=>(t.E (c.inn scope) elt).bind λte=>
  gd (blkC c.N c.sc scope (eY tg jt.1++eY tg1 jt1.1)&&(uE ((eY tg1 jt1.1).map (·.2)) ((eY tg jt.1++eY tg1 jt1.1).map (·.2))&&(uE jt.1 ((eY tg jt.1++eY tg1 jt1.1).map (·.2))&&(uE jt1.1 ((eY tg1 jt1.1).map (·.2))&&(!iV iter&&!iV iter1)))))
   (some (qM it jt.2 ((eY tg jt.1++eY tg1 jt1.1).map (·.2)) tt it1 jt1.2 ((eY tg1 jt1.1).map (·.2)) tt1 te))
theorem M8(o:t.Ok)(a:Amb aj c X W k){elt tg iter tg1 iter1:Expr}{ifs ifs1:List Expr}{scope:Scope}{pos:Pos}{f:QF}(h:wg t c elt tg iter ifs tg1 iter1 ifs1 scope=some f):QE aj X W (.ListComp elt [⟨tg,iter,ifs,0⟩,⟨tg1,iter1,ifs1,0⟩] scope pos) f:=by unfold wg at h;obtain⟨it,h1,h⟩:=ac7.mp h;obtain⟨⟨js,tf⟩,h2,h⟩:=ac7.mp h;obtain⟨tt,h3,h⟩:=ac7.mp h;obtain⟨it1,h4,h⟩:=ac7.mp h;obtain⟨⟨js1,tf1⟩,h5,h⟩:=ac7.mp h;obtain⟨tt1,h6,h⟩:=ac7.mp h;obtain⟨te,h7,h⟩:=ac7.mp h;obtain⟨hb,h⟩:=aF.mp h;cases h;simp only[ac9,adn]at hb;obtain⟨b1,b2,b3,b4,b5,b6⟩:=hb;exact Wk a.calm a.nd (o.oi a h1) (by rw[a.hN,a.hs];exact b1) (fj b2) (fj b3) (fj b4) (λs H C cl fp=>iQ (a.inn _ s H C cl fp) h2) (λs H C cl fp=>iZ o (a.inn _ s H C cl fp) h3) (λs H C cl fp=>o.oi (a.inn _ s H C cl fp) h4) (λs H C cl fp=>iQ (a.inn _ s H C cl fp) h5) (λs H C cl fp=>iZ o (a.inn _ s H C cl fp) h6) (λs H C cl fp=>o.oe (a.inn _ s H C cl fp) h7) (fW b5) (λenv=>fW b6)
def els{α:Type}(a b:Option α):Option α:=match a with
 |some x=>some x
 |none=>b
theorem eG{α:Type}{a b:Option α}{x:α}(h:els a b=some x):a=some x\/b=some x:=by
 cases a with
 |none=>exact .inr h
 |some y=>exact .inl h
def xE0(t:Tr)(c:Tc):Expr->Option QF
 |.Attribute o f _=>gd (baseOk o) ((t.W c o).bind λfo=>some (KQ f fo))
 |.Call (.Attribute o m apos) es [] pos=>Bp t c o m es apos pos
 |.Compare e [op] [.Attribute o f _] _=>HD t c e op o f
 |.Compare e [op] [.Name x _] _=>zK t c e op x
 |.Subscript (.Name x _) e _=>(match c.G.lookup x with
  |some (.dic kvs)=>(t.W c e).bind λfe=>gd (nR c.sc x&&(!nY x&&!Av e)) (some (Lf kvs fe))
  |_=>none)
 |.ListComp elt [⟨tg,iter,ifs,0⟩,⟨tg1,iter1,ifs1,0⟩] scope _=>wg t c elt tg iter ifs tg1 iter1 ifs1 scope
 |.Call (.Name x _) [e] [] _=>(match iJ c x "sorted" with
  |true=>Cg t c e
  |false=>match iJ c x "list",e with
   |true,.Attribute o f _=>(c.hs.df.lookup f).bind λ_=>(t.W c o).bind λfo=>gd (baseOk o) (some (oU f fo))
   |_,_=>none)
 |_=>none
theorem SJ(o:t.Ok)(a:Amb aj c X W k){e:Expr}{f:QF}(h:xE0 t c e=some f):QE aj X W e f:=by
 unfold xE0 at h;split at h
 .obtain⟨hb,h⟩:=aF.mp h;obtain⟨fo,h1,h⟩:=ac7.mp h;cases h;exact V7 a.hk.co (o.ow a h1) hb
 .exact Jh o a h
 .exact(DQ o a h).1
 .exact(Ck o a h).1
 .split at h
  .next kvs hl=>
   obtain⟨fe,h1,h⟩:=ac7.mp h;obtain⟨hb,h⟩:=aF.mp h;cases h;simp only[ac9]at hb;exact Sh (a.gl _ _ hl) (gM a hb.1) (gQ (by simpa using hb.2.1)).1 (o.ow a h1) (Az hb.2.2)
  .cases h
 .exact M8 o a h
 .split at h
  .next hb=>
   obtain⟨rfl,hg,hm⟩:=dW a hb;exact Ij o a hg hm h
  .split at h
   .next hb=>
    obtain⟨_,_,h⟩:=ac7.mp h;obtain⟨fo,h1,h⟩:=ac7.mp h;obtain⟨hb2,h⟩:=aF.mp h;cases h;obtain⟨rfl,hg,hm⟩:=dW a hb;exact Ny a.hk.co a.hk.hw a.calm hg hm (o.ow a h1) hb2
   .cases h
 .cases h
def xE1(t:Tr)(c:Tc)(e:Expr):Option QF:=xE0 t c e
theorem Vo(o:t.Ok)(a:Amb aj c X W k){e:Expr}{f:QF}(h:xE1 t c e=some f):QE aj X W e f:=SJ o a h
def xE(t:Tr)(c:Tc)(e:Expr):Option QF:=xE1 t c e
theorem Xi(o:t.Ok)(a:Amb aj c X W k){e:Expr}{f:QF}(h:xE t c e=some f):QE aj X W e f:=Vo o a h
def xW(t:Tr)(c:Tc):Expr->Option QF
 |.Attribute o f _=>gd (baseOk o) ((t.W c o).bind λfo=>some (Ht f fo))
 |_=>none
theorem X8(o:t.Ok)(a:Amb aj c X W k){e:Expr}{f:QF}(h:xW t c e=some f):QW aj X W e f:=by
 unfold xW at h;split at h
 .obtain⟨hb,h⟩:=aF.mp h;obtain⟨fo,h1,h⟩:=ac7.mp h;cases h;exact RX a.hk.co (o.ow a h1) hb
 .cases h
def xT(t:Tr)(c:Tc):Expr->Option QT
 |.Compare e [op] [.Attribute o f _] _=>(HD t c e op o f).bind λg=>some (aY g)
 |.Compare e [op] [.Name x _] _=>(zK t c e op x).bind λg=>some (aY g)
 |_=>none
theorem Xu(o:t.Ok)(a:Amb aj c X W k){e:Expr}{f:QT}(h:xT t c e=some f):gG aj X W e f:=by
 unfold xT at h;split at h
 .obtain⟨g,h1,h⟩:=ac7.mp h;cases h;exact(DQ o a h1).2
 .obtain⟨g,h1,h⟩:=ac7.mp h;cases h;exact(Ck o a h1).2
 .cases h
def xI(t:Tr)(c:Tc)(firm:Bool):Expr->Option IF
 |.Attribute o f _=>(match firm with
  |true=>none
  |false=>(c.hs.df.lookup f).bind λ_=>gd (baseOk o) ((t.W c o).bind λfo=>some (lZ f fo)))
 |_=>none
theorem Yq(o:t.Ok)(a:Amb aj c X W k){firm:Bool}{tg e:Expr}{f:IF}(h:xI t c firm e=some f):QI aj X W firm tg e f:=by
 unfold xI at h;split at h
 .split at h
  .cases h
  .obtain⟨_,_,h⟩:=ac7.mp h;obtain⟨hb,h⟩:=aF.mp h;obtain⟨fo,h1,h⟩:=ac7.mp h;cases h;exact Mv a.hk.co a.hk.hw (o.ow a h1) hb
 .cases h
def xtE(t:Tr)(c:Tc)(e:Expr):Option QF:=els (xE t c e) (stE t c e)
def xtW(t:Tr)(c:Tc)(e:Expr):Option QF:=els (xW t c e) (Vz t c e)
def xtT(t:Tr)(c:Tc)(e:Expr):Option QT:=els (xT t c e) (WL t c e)
def xtI(t:Tr)(c:Tc)(firm:Bool)(tg e:Expr):Option IF:=els (xI t c firm e) (stI t c firm tg e)
end
structure gR(aj:aC)(c:Tc)(X:Cx)(W:WX)(k:Nat):Prop extends Amb aj c X W k where
 ps:PassesOwn (model X.prog X.w) X.A X.env X.xe
 st:X.stack=X.env::X.outer
 fr:X.env.frame=some X.env.locals
 kf:X.env.scope.kind=.function
structure Ts where
 G:Tc->Expr->Option GF
 H:Tc->Expr->Option GT
 S:Tc->Stmt->Option SF
 B:Tc->List Stmt->Option SF
structure Ts.Ok(s:Ts)(q:Bool):Prop where
 og:∀{aj:aC} {c:Tc} {X:Cx} {W:WX} {k:Nat},gR aj c X W k->∀{e:Expr} {f:GF},s.G c e=some f->GE aj X W q e f
 oh:∀{aj:aC} {c:Tc} {X:Cx} {W:WX} {k:Nat},gR aj c X W k->∀{e:Expr} {f:GT},s.H c e=some f->mj aj X W q e f
 os:∀{aj:aC} {c:Tc} {X:Cx} {W:WX} {k:Nat},gR aj c X W k->∀{e:Stmt} {f:SF},s.S c e=some f->SE aj X W q e f
 ob:∀{aj:aC} {c:Tc} {X:Cx} {W:WX} {k:Nat},gR aj c X W k->∀{e:List Stmt} {f:SF},s.B c e=some f->mV aj X W q e f
def lV:Expr->Bool
 |.ListComp _ _ _ _=>true
 |.SetComp _ _ _ _=>true
 |.DictComp _ _ _ _ _=>true
 |_=>false
theorem jC{e:Expr}{tg:Option Expr}{l:Nat}{env:PySem.Env}(h:lV e=false):swapsWith e tg l env=pure false:=by cases e<;>first | rfl | cases h
def GZ:Expr->Bool
 |.Tuple _ _ _=>true
 |_=>false
def O2(sc:Scope)(v:Expr)(scope:Scope)(x:Str)(p:Pos):Bool:=(match sc.names.lookup x with
 |some .local=>true
 |_=>false)&&(p.line==v.pos.line&&!(scope.names.any λ(n,k)=>n==x&&(k==.local || k==.cell)))
theorem v9{X:Cx}{elt:Expr}{gens:List Comprehension}{scope:Scope}{pos p:Pos}{x:Str}{l:Nat}(hk:X.env.scope.kind=.function)(h:O2 X.env.scope (.ListComp elt gens scope pos) scope x p=true):X.env.scope.names.lookup x=some .local/\swapsWith (.ListComp elt gens scope pos) (some (.Name x p)) l X.env=pure true:=by
 unfold O2 at h;simp only[ac9]at h;obtain⟨h1,h2,h3⟩:=h;have e1:X.env.scope.names.lookup x=some .local:=by
  split at h1
  .assumption
  .cases h1
 refine⟨e1,?_⟩;have eb:X.env.blockKind=.function:=by unfold PySem.Env.blockKind;rw[hk];rfl
 unfold swapsWith
 show(pure (X.env.blockKind==.function&&X.env.kindOf x==some .local&&p.line==(Expr.ListComp elt gens scope pos).pos.line&&!(scope.names.any λ(n,k)=>n==x&&(k==.local || k==.cell))):Sem Bool)=pure true
 rw[eb,h2,h3];unfold PySem.Env.kindOf;rw[e1];rfl
def Nz(sc:Scope)(v:Expr)(x:Str)(p:Pos):Bool:=!(p.line==v.pos.line) || (match sc.names.lookup x with
 |some .local=>false
 |_=>true)
theorem Ik{X:Cx}{elt:Expr}{gens:List Comprehension}{scope:Scope}{pos p:Pos}{x:Str}{l:Nat}(h:Nz X.env.scope (.ListComp elt gens scope pos) x p=true):swapsWith (.ListComp elt gens scope pos) (some (.Name x p)) l X.env=pure false:=by
 unfold swapsWith
 show(pure (X.env.blockKind==.function&&X.env.kindOf x==some .local&&p.line==(Expr.ListComp elt gens scope pos).pos.line&&!(scope.names.any λ(n,k)=>n==x&&(k==.local || k==.cell))):Sem Bool)=pure false
 unfold Nz at h;rw[ad9,adn]at h;rcases h with h|h
 .rw[h,Bool.and_false,Bool.false_and]
 .have e:(X.env.kindOf x==some .local)=false:=by
   unfold PySem.Env.kindOf;split at h
   .cases h
   .next q=>
    cases hl:X.env.scope.names.lookup x with
    |none=>rfl
    | some y=>cases y<;>first | exact absurd hl q | rfl
  rw[e,Bool.and_false,Bool.false_and,Bool.false_and]
def OD(t:Tr)(c:Tc):Expr->Option IF
 |.List es _=>(oN t c es).bind λfr=>some (yQ fr)
 |_=>none
theorem JD{aj:aC}{c:Tc}{X:Cx}{W:WX}{k:Nat}{t:Tr}(o:t.Ok)(a:Amb aj c X W k){e:Expr}{f:IF}(h:OD t c e=some f):FE aj X W e f/\lV e=false:=by
 unfold OD at h;split at h
 .obtain⟨fr,h1,h⟩:=ac7.mp h;cases h;exact⟨Ui (iw o a h1).1,rfl⟩
 .cases h
def w6(c:Tc):List Str->Option (List Nat)
 |[]=>some []
 |x::xs=>(match c.sc.names.lookup x with
  |some .local=>(idx c.N x).bind λi=>(w6 c xs).bind λjs=>some (i::js)
  |_=>none)
theorem Em{aj:aC}{c:Tc}{X:Cx}{W:WX}{k:Nat}(a:Amb aj c X W k):∀{xs:List Str} {js:List Nat},w6 c xs=some js->xs.length=js.length/\∀(n:Nat) (x:Str) (j:Nat),xs[n]?=some x->js[n]?=some j->X.N[j]?=some x/\X.env.scope.names.lookup x=some .local
 |[],js,h=>by
  cases h;exact⟨rfl,λn x j e=>by simp at e⟩
 |x::xs,js,h=>by
  rw[w6]at h;split at h
  .next e=>
   obtain⟨i,h1,h⟩:=ac7.mp h;obtain⟨r,h2,h⟩:=ac7.mp h;cases h;obtain⟨i1,i2⟩:=Em a h2;refine⟨by simp[i1],λn y j e1 e2=>?_⟩;cases n with
   |zero=>
    simp at e1 e2;subst e1 e2;exact⟨by rw[a.hN];exact oH h1,by rw[a.hs];exact e⟩
   |succ n=>exact i2 n y j (by simpa using e1) (by simpa using e2)
  .cases h
def nmE:Expr->Option (Str×Nat)
 |.Name x p=>some (x,p.line)
 |_=>none
def wX:List Expr->Option (List (Str×Nat))
 |[]=>some []
 |e::es=>(nmE e).bind λx=>(wX es).bind λr=>some (x::r)
def VG(c:Tc)(ts vs:List Expr):Option (List Nat):=
 (wX ts).bind λnls=>gd ((ts.length==2 || ts.length==3)&&(vs.length==ts.length&&(vs.all nst&&(nls.all (λp=>p.2==((ts.head?.map (·.pos.line)).getD 0))&&((nls.map (·.1)).eraseDups.length==nls.length&&(!(vs.all (foldedForSure 8))&&!(vs.all (constantsAlone 8)))))))) (w6 c (nls.map (·.1)))
theorem CK:∀{ts:List Expr} {nls:List (Str×Nat)},wX ts=some nls->nls.length=ts.length
 |[],_,h=>by cases h;rfl
 |e::es,_,h=>by
  rw[wX]at h;obtain⟨x,h1,h⟩:=ac7.mp h;obtain⟨r,h2,h⟩:=ac7.mp h;cases h;simp[CK h2]
theorem wA{sc:Scope}{l:Nat}:∀{ts:List Expr} {nls:List (Str×Nat)},wX ts=some nls->nls.all (λp=>p.2==l)=true->(∀x∈nls.map (·.1),sc.names.lookup x=some .local)->
  (ts.filterMap λe=>match e with
  |.Name id pos=>if sc.names.lookup id==some .local&&pos.line==l then some id else none
  |_=>none)=nls.map (·.1)
 |[],_,h,_,_=>by cases h;rfl
 |e::es,_,h,hl,hk=>by
  rw[wX]at h;obtain⟨x,h1,h⟩:=ac7.mp h;obtain⟨r,h2,h⟩:=ac7.mp h;cases h;rw[adF,ac9]at hl;have ih:=wA (sc:=sc) h2 hl.2 λy hy=>hk y (adf _ hy);cases e with
  |Name y p=>
   cases h1;have e1:=hk y adg;have e2:(if sc.names.lookup y==some .local&&p.line==l then some y else none)=some y:=by rw[e1,show(p.line==l)=true from hl.1];rfl
   simp only[List.filterMap_cons,e2,ih,ada]
  |_=>cases h1
theorem qD:∀(n:Nat) (l:List Str),l.length=n->l.eraseDups.length=l.length->l.Nodup:=by
 intro n
 induction n using Nat.strongRecOn with
 |_ n ih=>
  intro l hn h;cases l with
  |nil=>exact adV
  |cons a r=>
   rw[aei]at h;simp only[adl]at h hn;have h1:(r.filter λb=>!b==a).length<=r.length:=adL _ _;have h2:∀l:List Str,l.eraseDups.length<=l.length:=by
    intro l
    induction hm:l.length using Nat.strongRecOn generalizing l with
    |_ m ihm=>
     cases l with
     |nil=>simp
     |cons x xs=>
      rw[aei];simp only[adl]at hm |-
      have z:(xs.filter λb=>!b==x).length<=xs.length:=adL _ _;have:=ihm _ (by omega) (xs.filter λb=>!b==x) rfl;omega
   have h3:=h2 (r.filter λb=>!b==a);have e1:(r.filter λb=>!b==a).length=r.length:=by omega
   have e2:(r.filter λb=>!b==a)=r:=ad6.mpr (List.length_filter_eq_length_iff.mp e1);rw[e2]at h;rw[aeg];refine⟨λz=>?_,ih r.length (by omega) r rfl (by omega)⟩;have:=ad6.mp e2 a z;simp at this
theorem EY{aj:aC}{c:Tc}{X:Cx}{W:WX}{k:Nat}(a:Amb aj c X W k):∀{xs:List Str} {js:List Nat},w6 c xs=some js->xs.Nodup->js.Nodup/\∀j∈js,∃x∈xs,X.N[j]?=some x
 |[],js,h,_=>by
  cases h;exact⟨adV,λj hj=>by simp at hj⟩
 |x::xs,js,h,nd=>by
  rw[w6]at h;rw[aeg]at nd;split at h
  .next e=>
   obtain⟨i,h1,h⟩:=ac7.mp h;obtain⟨r,h2,h⟩:=ac7.mp h;cases h;obtain⟨i1,i2⟩:=EY a h2 nd.2;have hi:X.N[i]?=some x:=by rw[a.hN];exact oH h1
   refine⟨aeg.mpr ⟨λz=>?_,i1⟩,λj hj=>?_⟩
   .obtain⟨y,hy,e2⟩:=i2 i z;rw[hi]at e2;cases e2;exact nd.1 hy
   .rcases adt.mp hj with rfl|hj
    .exact⟨x,adg,hi⟩
    .obtain⟨y,hy,e2⟩:=i2 j hj;exact⟨y,adf _ hy,e2⟩
  .cases h
theorem Ph{vs:List Expr}(h:vs.all nst=true):(vs.any λe=>match e with
  |.Starred _ _=>true
  |_=>false)=false:=by
 induction vs with
 |nil=>rfl
 |cons v vs ih=>
  rw[adF,ac9]at h;rw[adU,ih h.2,Bool.or_false];cases v<;>first | rfl | cases h.1
theorem U5{aj:aC}{c:Tc}{X:Cx}{W:WX}{k:Nat}(a:gR aj c X W k){ts vs:List Expr}{js:List Nat}{kt k2:Nat}{pt p2:Pos}(h:VG c ts vs=some js) :
  ∃xs:List Str,xs.length=js.length/\js.length<=3/\js.Nodup/\(∀(n:Nat) (x:Str) (j:Nat),xs[n]?=some x->js[n]?=some j->X.N[j]?=some x/\X.env.scope.names.lookup x=some .local)/\swappedStores [.Tuple ts kt pt] (.Tuple vs k2 p2) X.env=pure (some xs):=by
 unfold VG at h;obtain⟨nls,h1,h⟩:=ac7.mp h;obtain⟨hb,h⟩:=aF.mp h;simp only[ac9,adn]at hb;obtain⟨b1,b2,b3,b4,b5,b6,b7⟩:=hb;have l1:=CK h1;obtain⟨i1,i2⟩:=Em a.toAmb h;have nd:=qD _ _ rfl (by rw[adi];exact aev b5);obtain⟨d1,d2⟩:=EY a.toAmb h nd;have hloc:∀x∈nls.map (·.1),X.env.scope.names.lookup x=some .local:=λx hx=>by
  obtain⟨n,hn,e⟩:=List.mem_iff_getElem.mp hx;have hj:n<js.length:=by rw[<-i1];exact hn
  exact(i2 n x js[n] (by rw[adh hn,e]) (adh hj)).2
 have hf:=wA (sc:=X.env.scope) h1 b4 hloc;have h3:ts.length=2\/ts.length=3:=by rw[ad9]at b1;exact b1.imp aev aev
 refine⟨nls.map (·.1),i1,?_,d1,i2,?_⟩
 .rw[<-i1,adi,l1];omega
 .have eb:X.env.blockKind=.function:=by
   unfold PySem.Env.blockKind;rw[a.kf];rfl
  unfold swappedStores;have e1:(!(ts.length==2 || ts.length==3) || vs.length != ts.length || X.env.blockKind != .function)=false:=by rw[b1,eb,aev b2];simp
  have e2:=Ph b3;have e3:(nls.map (·.1)).length=ts.length:=by rw[adi,l1]
  have e4:((nls.map (·.1)).length != ts.length || (nls.map (·.1)).eraseDups.length != (nls.map (·.1)).length)=false:=by rw[e3,aev b5,l1];simp
  simp only[e1,adD,if_false];generalize hA:List.filterMap (β:=Str) _ ts=A;have eA:A=nls.map (·.1):=hA.symm.trans hf;subst eA;split
  .next z=>exact absurd (z.symm.trans e2) (by decide)
  .rw[e4,b6,b7];rfl
section
variable{X:Cx}{aj:aC}{W:WX}{q:Bool}{e:Expr}{pos:Pos}
theorem Vt{j:Nat}{y:Str}{py:Pos}{elt tg iter:Expr}{cpos:Pos}{scope:Scope}{own:List (Str×Nat)}{it:IF}{tgf:bR}{js:List Nat}{tt:QT}{te:QF}{ifs:List Expr}(hc:X.calm=true)(hN:X.N.Nodup)(hy:X.N[j]?=some y)(hyl:X.env.scope.names.lookup y=some .local)
  (hsw:swapsWith (.ListComp elt [⟨tg,iter,ifs,0⟩] scope cpos) (some (.Name y py)) pos.line X.env=pure true) (hi:QI aj X W false tg iter it) (ok:blkC X.N X.env.scope scope own=true) (hj:∀j∈js,j∈own.map (·.2))
  (hg:∀(s:Shared) (H:Hp) (C:Addr) (cl:List (Str×Addr)) (fp:List Addr),QG aj (X.blk s H scope (compEnvC scope cl C X.env) fp) tg js tgf)
  (ht:∀(s:Shared) (H:Hp) (C:Addr) (cl:List (Str×Addr)) (fp:List Addr),PTs (X.blk s H scope (compEnvC scope cl C X.env) fp) ifs (cW X.K aj WF tt))
  (he:∀(s:Shared) (H:Hp) (C:Addr) (cl:List (Str×Addr)) (fp:List Addr),QE aj (X.blk s H scope (compEnvC scope cl C X.env) fp) WF elt te) (hs:∀x,foldedSetIterable iter X.env x=pure x) :
  SE aj X W q (.Assign [.Name y py] (.ListComp elt [⟨tg,iter,ifs,0⟩] scope cpos) pos) (jm j (jd it tgf (own.map (·.2)) tt te)):=by
 refine PS.weak (ps_setLc (g:=jY X.K aj js tgf) (tt:=cW X.K aj WF tt) (te:=tQ X.K aj WF te) hc hN hy hyl hsw hi (blkOk_by ok) (λs H C cl fp=>hg s H C cl fp) ht (λs H C cl fp=>he s H C cl fp) hs) λD σ H h=>?_;exact Bt hj σ H _ (JK D σ H h)
end
def Oj(t:Tr)(c:Tc)(elt tg iter:Expr)(ifs:List Expr)(scope:Scope):Option IF:=
 (t.I c false tg iter).bind λit=>(yO (c.inn scope) tg).bind λjt=>(wL t (c.inn scope) ifs).bind λtt=>(t.E (c.inn scope) elt).bind λte=>
  gd (blkC c.N c.sc scope (eY tg jt.1)&&(uE jt.1 ((eY tg jt.1).map (·.2))&&!iV iter)) (some (jd it jt.2 ((eY tg jt.1).map (·.2)) tt te))
def xY(t:Tr)(c:Tc)(x:Str)(p:Pos)(elt tg iter:Expr)(ifs:List Expr)(scope:Scope)(cpos:Pos):Option SF:=
 (iU c x).bind λj=>gd (O2 c.sc (.ListComp elt [⟨tg,iter,ifs,0⟩] scope cpos) scope x p || Nz c.sc (.ListComp elt [⟨tg,iter,ifs,0⟩] scope cpos) x p)
  (match c.ml.contains x with
  |true=>(Oj t c elt tg iter ifs scope).bind λf=>some (jm j f)
  |false=>(Di t c elt tg iter ifs scope).bind λf=>some (aV (aG j) (gOf f)))
section
variable{aj:aC}{c:Tc}{X:Cx}{W:WX}{k:Nat}{t:Tr}{q:Bool}
theorem Gk(o:t.Ok)(a:gR aj c X W k){x:Str}{p cpos pos:Pos}{elt tg iter:Expr}{ifs:List Expr}{scope:Scope}{f:SF}(h:xY t c x p elt tg iter ifs scope cpos=some f):SE aj X W q (.Assign [.Name x p] (.ListComp elt [⟨tg,iter,ifs,0⟩] scope cpos) pos) f:=by
 unfold xY at h;obtain⟨j,hj,h⟩:=ac7.mp h;obtain⟨hsw,h⟩:=aF.mp h;obtain⟨s1,s2,s3⟩:=dO a.toAmb hj;rw[ad9]at hsw;split at h
 .obtain⟨f1,h1,h⟩:=ac7.mp h;cases h;unfold Oj at h1;obtain⟨it,h2,h1⟩:=ac7.mp h1;obtain⟨⟨js,tf⟩,h3,h1⟩:=ac7.mp h1;obtain⟨tt,h4,h1⟩:=ac7.mp h1;obtain⟨te,h5,h1⟩:=ac7.mp h1;obtain⟨hb,h1⟩:=aF.mp h1;cases h1;simp only[ac9,adn]at hb;obtain⟨b1,b2,b3⟩:=hb;rcases hsw with hsw|hsw
  .rw[<-a.hs]at hsw;obtain⟨l1,l2⟩:=v9 (l:=pos.line) a.kf hsw;exact Vt a.calm a.nd s1 l1 l2 (o.oi a.toAmb h2) (by rw[a.hN,a.hs];exact b1) (fj b2) (λs H C cl fp=>iQ (a.toAmb.inn scope s H C cl fp) h3) (λs H C cl fp=>iZ o (a.toAmb.inn scope s H C cl fp) h4) (λs H C cl fp=>o.oe (a.toAmb.inn scope s H C cl fp) h5) (fW b3)
  .exact Ip a.nd s1 s2 s3 (X6 a.calm a.nd (o.oi a.toAmb h2) (by rw[a.hN,a.hs];exact b1) (fj b2) (λs H C cl fp=>iQ (a.toAmb.inn scope s H C cl fp) h3) (λs H C cl fp=>iZ o (a.toAmb.inn scope s H C cl fp) h4) (λs H C cl fp=>o.oe (a.toAmb.inn scope s H C cl fp) h5) (fW b3)) (Ik (by rw[a.hs];exact hsw))
 .obtain⟨f1,h1,h⟩:=ac7.mp h;cases h;rcases hsw with hsw|hsw
  .rw[<-a.hs]at hsw;obtain⟨l1,l2⟩:=v9 (l:=pos.line) a.kf hsw;unfold Di at h1;obtain⟨it,h2,h1⟩:=ac7.mp h1;obtain⟨⟨js,tf⟩,h3,h1⟩:=ac7.mp h1;obtain⟨tt,h4,h1⟩:=ac7.mp h1;obtain⟨te,h5,h1⟩:=ac7.mp h1;obtain⟨hb,h1⟩:=aF.mp h1;cases h1;simp only[ac9,adn]at hb;obtain⟨b1,b2,b3⟩:=hb;exact Vk a.calm a.nd s1 l1 l2 (o.oi a.toAmb h2) (by rw[a.hN,a.hs];exact b1) (fj b2) (λs H C cl fp=>iQ (a.toAmb.inn scope s H C cl fp) h3) (λs H C cl fp=>iZ o (a.toAmb.inn scope s H C cl fp) h4) (λs H C cl fp=>o.oe (a.toAmb.inn scope s H C cl fp) h5) (fW b3)
  .exact vY (Oo (DK o a.toAmb h1)) (wZ a.nd s1 s2 s3) (Ik (l:=pos.line) (by rw[a.hs];exact hsw)) (by with_unfolding_all rfl) (by with_unfolding_all rfl)
end
theorem jJ{tg e:Expr}{l:Nat}{env:PySem.Env}(h:lV e=false):swapsWithSole [tg] e l env=pure false:=jC h
def Vp(c:Tc):Expr->List Nat
 |.Call _ es _ _=>es.filterMap fun
  |.Name x _=>lO c x
  |_=>none
 |_=>[]
def R6(sc:Scope):Expr->Bool
 |.Name x _=>match sc.names.lookup x with
  |some .local=>true
  |_=>false
 |_=>false
def JG(sc:Scope)(ts:List Expr):Bool:=!(ts.all (R6 sc))
abbrev pcB(c:Tc)(ts:List Expr):Bool:=JG c.sc ts
theorem W0{X:Cx}{ts vs:List Expr}{kt k2:Nat}{pt p2:Pos}(h:JG X.env.scope ts=true):swappedStores [.Tuple ts kt pt] (.Tuple vs k2 p2) X.env=pure none:=by
 unfold swappedStores;simp only;split
 .rfl
 .split
  .rfl
  .generalize (ts.head?.map (·.pos.line)).getD 0=l;have key:∀us:List Expr,JG X.env.scope us=true->(us.filterMap λe=>match e with
    |.Name id pos=>if (X.env.kindOf id==some .local&&pos.line==l)=true then some id else none
    |_=>none).length<us.length:=by
    intro us
    induction us with
    |nil=>intro h;cases h
    |cons e us ih=>
     intro h;have hle:(us.filterMap λe=>match e with
      |.Name id pos=>if (X.env.kindOf id==some .local&&pos.line==l)=true then some id else none
      |_=>none).length<=us.length:=List.length_filterMap_le _ _
     cases q:R6 X.env.scope e with
     |true=>
      have h2:JG X.env.scope us=true:=by
       unfold JG at h |-
       rw[adF,q,Bool.true_and]at h;exact h
      have:=ih h2;rw[List.filterMap_cons];split
      .rw[adl];omega
      .rw[adl,adl];omega
     |false=>
      have hn:(match e with
       |.Name id pos=>if (X.env.kindOf id==some .local&&pos.line==l)=true then some id else none
       |_=>(none:Option Str))=none:=by
       cases e with
       |Name x p=>
        have hk:(X.env.kindOf x==some NameKind.local)=false:=by
         unfold PySem.Env.kindOf;have q:(match X.env.scope.names.lookup x with
          |some .local=>true
          |_=>false)=false:=q
         cases hl:X.env.scope.names.lookup x with
         |none=>rfl
         |some y=>
          rw[hl]at q;cases y<;>first | rfl | cases q
        show(if (X.env.kindOf x==some .local&&p.line==l)=true then some x else none)=none
        rw[hk];rfl
       |_=>rfl
      rw[List.filterMap_cons,hn,adl];exact Nat.lt_succ_of_le hle
   have:=key ts h;split
   .rfl
   .next z=>
    exfalso;apply z;rw[ad9];left;exact bne_iff_ne.mpr (adC this)
def Hv(t:Tr)(s:Ts)(c:Tc):Expr->Expr->Option SF
 |.Name x p,.ListComp elt [⟨tg,iter,ifs,0⟩] scope cpos=>xY t c x p elt tg iter ifs scope cpos
 |.Name x _,e=>(iU c x).bind λj=>match c.ml.contains x with
  |true=>els ((OD t c e).bind λf=>some (jm j f)) (gd (!lV e) ((s.G c e).bind λf=>some (lY (Vp c e) j f)))
  |false=>gd (!lV e) ((s.G c e).bind λf=>some (aV (aG j) f))
 |.Tuple [.Name x _,.Starred (.Name y _) _] _ _,e=>(iU c x).bind λi=>(iU c y).bind λj=>gd (!lV e&&!GZ e) ((s.G c e).bind λf=>some (Hr i j f))
 |.Tuple ts _ _,.Tuple vs k2 p2=>els ((VG c ts vs).bind λjs=>(oN t c vs).bind λf=>some (Oc js f)) ((yh c ts).bind λjs=>gd (pcB c ts) ((s.G c (.Tuple vs k2 p2)).bind λf=>some (aV (cA js) f)))
 |.Tuple ts _ _,e=>(yh c ts).bind λjs=>gd (!lV e&&!GZ e) ((s.G c e).bind λf=>some (aV (cA js) f))
 |_,_=>none
theorem vW{tg e:Expr}{env:PySem.Env}(h:GZ e=false):swappedStores [tg] e env=pure none:=by cases tg<;>first | rfl | (cases e<;>first | rfl | cases h)
section
variable{aj:aC}{c:Tc}{X:Cx}{W:WX}{k:Nat}{t:Tr}{s:Ts}{q:Bool}
theorem LQ(o:t.Ok)(os:s.Ok q)(a:gR aj c X W k){tg e:Expr}{pos:Pos}{f:SF}(h:Hv t s c tg e=some f):SE aj X W q (.Assign [tg] e pos) f:=by
 unfold Hv at h;split at h
 .exact Gk o a h
 .obtain⟨j,hj,h⟩:=ac7.mp h;obtain⟨s1,s2,s3⟩:=dO a.toAmb hj;split at h
  .rcases eG h with h|h
   .obtain⟨f1,h1,h⟩:=ac7.mp h;cases h;obtain⟨i1,i2⟩:=JD o a.toAmb h1;exact Ip a.nd s1 s2 s3 i1 (jC i2)
   .obtain⟨hc,h⟩:=aF.mp h;obtain⟨f1,h1,h⟩:=ac7.mp h;cases h;exact TX a.nd s1 s2 s3 (os.og a h1) (jC (by simpa using hc))
  .obtain⟨hc,h⟩:=aF.mp h;obtain⟨f1,h1,h⟩:=ac7.mp h;cases h;exact vY (os.og a h1) (wZ a.nd s1 s2 s3) (jJ (by simpa using hc)) (by with_unfolding_all rfl) (by with_unfolding_all rfl)
 .obtain⟨i,hi,h⟩:=ac7.mp h;obtain⟨j,hj,h⟩:=ac7.mp h;obtain⟨hc,h⟩:=aF.mp h;obtain⟨f1,h1,h⟩:=ac7.mp h;cases h;simp only[ac9,adn]at hc;exact Qa a.calm a.nd (dO a.toAmb hi) (dO a.toAmb hj) (os.og a h1) (jJ hc.1) (vW hc.2)
 .rcases eG h with h|h
  .obtain⟨js,hj,h⟩:=ac7.mp h;obtain⟨f1,h1,h⟩:=ac7.mp h;cases h;obtain⟨xs,p1,p2,p3,p4,p5⟩:=U5 a hj;exact Xy a.calm a.nd p3 p1 p2 p4 (iw o a.toAmb h1).1 p5 (jJ rfl)
  .obtain⟨js,hj,h⟩:=ac7.mp h;obtain⟨hc,h⟩:=aF.mp h;obtain⟨f1,h1,h⟩:=ac7.mp h;cases h;exact vY (os.og a h1) (Cp a.calm a.nd (sU a.toAmb hj)) (jJ rfl) (W0 (by rw[a.hs];exact hc)) (by with_unfolding_all rfl)
 .obtain⟨js,hj,h⟩:=ac7.mp h;obtain⟨hc,h⟩:=aF.mp h;obtain⟨f1,h1,h⟩:=ac7.mp h;cases h;simp only[ac9,adn]at hc;exact vY (os.og a h1) (Cp a.calm a.nd (sU a.toAmb hj)) (jJ hc.1) (vW hc.2) (by with_unfolding_all rfl)
 .cases h
end
def Gz(s:Ts)(c:Tc):List Stmt->Option SF
 |[]=>some bf
 |[a]=>s.S c a
 |a::b::r=>(s.S c a).bind λf=>(s.B c (b::r)).bind λg=>some (aK f g)
def Wh(t:Tr)(s:Ts)(c:Tc):Stmt->Option SF
 |.Assign [tg] e _=>Hv t s c tg e
 |.Assign [.Name x _,.Name y _] e _=>(iU c x).bind λi=>(iU c y).bind λj=>gd (!GZ e) ((s.G c e).bind λf=>some (G4 i j f))
 |.AugAssign (.Name x _) .Add e _=>(iU c x).bind λj=>(t.E c e).bind λf=>some (Ho j f)
 |.Expr (.Call (.Attribute (.Name x _) m apos) [e] [] pos) _=>(lO c x).bind λj=>gd (m=="append"&&(c.ml.contains x&&(nst e&&(apos.endLine==pos.line)))) ((t.E c e).bind λf=>some (nu j f))
 |.Expr (.Call (.Attribute (.Name x _) m apos) [] [] pos) _=>(lO c x).bind λj=>gd (m=="clear"&&(c.ml.contains x&&(apos.endLine==pos.line))) (some (jR j))
 |.Return (some e) _=>(match t.E c e with
  |some f=>some (bx f)
  |none=>(s.G c e).bind λf=>some (Gi f))
 |.If d s1 s2 _=>(s.B c s1).bind λf=>(s.B c s2).bind λg=>match t.T c d with
  |some td=>some (cC td f g)
  |none=>(s.H c d).bind λtd=>some (uJ td f g)
 |.For tg iter body [] _=>(t.I c true tg iter).bind λit=>(yO c tg).bind λjt=>(s.B c body).bind λf=>gd (!iV iter) (some (lW it jt.2 f))
 |_=>none
section
variable{aj:aC}{c:Tc}{X:Cx}{W:WX}{k:Nat}{t:Tr}{s:Ts}{q:Bool}
theorem Mp(os:s.Ok q)(a:gR aj c X W k){b:List Stmt}{f:SF}(h:Gz s c b=some f):mV aj X W q b f:=by
 unfold Gz at h;split at h
 .cases h;exact Uj
 .exact Tg (os.os a h)
 .obtain⟨f1,h1,h⟩:=ac7.mp h;obtain⟨f2,h2,h⟩:=ac7.mp h;cases h;exact Qi (os.os a h1) (os.ob a h2)
theorem Wi(o:t.Ok)(os:s.Ok q)(a:gR aj c X W k){st:Stmt}{f:SF}(h:Wh t s c st=some f):SE aj X W q st f:=by
 unfold Wh at h;split at h
 .exact LQ o os a h
 .obtain⟨i,hi,h⟩:=ac7.mp h;obtain⟨j,hj,h⟩:=ac7.mp h;obtain⟨hc,h⟩:=aF.mp h;obtain⟨f1,h1,h⟩:=ac7.mp h;cases h;exact RG a.nd (dO a.toAmb hi) (dO a.toAmb hj) (os.og a h1) (by with_unfolding_all rfl)
 .obtain⟨j,hj,h⟩:=ac7.mp h;obtain⟨f1,h1,h⟩:=ac7.mp h;cases h;obtain⟨s1,s2,s3⟩:=dO a.toAmb hj;exact Ss a.nd s1 s2 s3 (o.oe a.toAmb h1)
 .obtain⟨j,hj,h⟩:=ac7.mp h;obtain⟨hc,h⟩:=aF.mp h;obtain⟨f1,h1,h⟩:=ac7.mp h;cases h;simp only[ac9]at hc;cases aev hc.1;obtain⟨s1,s2,s3,s4⟩:=jc a.toAmb hj;exact U0 s1 s2 s3 s4 (o.oe a.toAmb h1) hc.2.2.1 hc.2.2.2
 .obtain⟨j,hj,h⟩:=ac7.mp h;obtain⟨hc,h⟩:=aF.mp h;cases h;simp only[ac9]at hc;cases aev hc.1;obtain⟨s1,s2,s3,s4⟩:=jc a.toAmb hj;exact Nq s1 s2 s3 s4 hc.2.2
 .split at h
  .next f1 h1=>
   cases h;exact SM (o.oe a.toAmb h1)
  .obtain⟨f1,h1,h⟩:=ac7.mp h;cases h;exact Py (os.og a h1)
 .obtain⟨f1,h1,h⟩:=ac7.mp h;obtain⟨f2,h2,h⟩:=ac7.mp h;split at h
  .next td h3=>
   cases h;exact Yt (o.ot a.toAmb h3) (os.ob a h1) (os.ob a h2)
  .obtain⟨td,h3,h⟩:=ac7.mp h;cases h;exact Ut (os.oh a h3) (os.ob a h1) (os.ob a h2)
 .obtain⟨it,h1,h⟩:=ac7.mp h;obtain⟨⟨js,tf⟩,h2,h⟩:=ac7.mp h;obtain⟨f1,h3,h⟩:=ac7.mp h;obtain⟨hc,h⟩:=aF.mp h;cases h;exact WK a.ps a.calm (o.oi a.toAmb h1) (iQ a.toAmb h2) (os.ob a h3) (fW (by simpa using hc))
 .cases h
end
abbrev GA:=Mo->Env->aN (List Dat)
def Ur(a:GF)(r:GA):GA:=λM Z=>(a M Z).bind λd M1=>(r M1 Z).bind λds M2=>.ok (d::ds) M2
def T8(m:Mo->List Dat->aN Dat)(as:GA):GF:=λM Z=>(as M Z).bind λds M1=>m M1 ds
def Ug(m:Mo->List Dat->Out Dat)(as:GA):GF:=λM Z=>(as M Z).bind λds M1=>(m M1 ds).at M1
section
variable{X:Cx}{aj:aC}{W:WX}{q:Bool}{a b e:Expr}{es:List Expr}{pos p:Pos}
variable{x:Str}{k:Nat}{f:Addr}{fd:FuncData}{ps:List Str}
def Hq(a:GT):GT:=λM Z=>(a M Z).bind λb M1=>.ok (!b) M1
def HS(a b:GT):GT:=λM Z=>(a M Z).bind λx M1=>if x=true then b M1 Z else .ok false M1
def LR(a b:GT):GT:=λM Z=>(a M Z).bind λx M1=>if x=true then .ok true M1 else b M1 Z
def Hz(a:GF):GT:=λM Z=>(a M Z).bind λd M1=>(pG d).at M1
theorem R7{ta:GT}(ha:mj aj X W q a ta):mj aj X W q (.UnaryOp .Not a pos) (Hq ta):=
 PT.weak (pt_not ha) λσ H Q ⟨g,Z,M,I,h⟩=>wz.go I h.bnd λb M' H1 g1 h1 r1 I1=>h1 H1 g1 r1 I1
theorem WD{rest:List Expr}{ta tb:GT}(ha:mj aj X W q a ta)(hb:mj aj X W q (.BoolOp .And (b::rest) pos) tb):mj aj X W q (.BoolOp .And (a::b::rest) pos) (HS ta tb):=by
 have hb':PW X (.BoolOp .And (b::rest) pos) (wz X.K aj W q tb):=⟨λwh pins s σ H Q I z=>hb.run pins s σ H Q I z⟩;refine PT.weak (PW.pt (pw_and ha hb')) λσ H Q ⟨g,Z,M,I,h⟩=>?_;refine wz.go I h.bnd λx M1 H1 g1 h1 r1 I1=>?_;cases x with
 |true=>exact⟨g1,Z,M1,I1,h1.mono (λb M' k H' g' r' I'=>k H' g' (r1.trans r') I') λ_ _ z=>z.gr r1⟩
 |false=>exact h1 H1 g1 r1 I1
theorem Xc{rest:List Expr}{ta tb:GT}(ha:mj aj X W q a ta)(hb:mj aj X W q (.BoolOp .Or (b::rest) pos) tb):mj aj X W q (.BoolOp .Or (a::b::rest) pos) (LR ta tb):=by
 have hb':PW X (.BoolOp .Or (b::rest) pos) (wz X.K aj W q tb):=⟨λwh pins s σ H Q I z=>hb.run pins s σ H Q I z⟩;refine PT.weak (PW.pt (pw_or ha hb')) λσ H Q ⟨g,Z,M,I,h⟩=>?_;refine wz.go I h.bnd λx M1 H1 g1 h1 r1 I1=>?_;cases x with
 |true=>exact h1 H1 g1 r1 I1
 |false=>exact⟨g1,Z,M1,I1,h1.mono (λb M' k H' g' r' I'=>k H' g' (r1.trans r') I') λ_ _ z=>z.gr r1⟩
theorem T6{fa:GF}(ha:GE aj X W q a fa)(he:∀whole,isTrue a X.env whole=(do let v <-whole;standAt a.pos;holding [v] (truthy v))):mj aj X W q a (Hz fa):=
 PT.weak (pt_truth ha he) λσ H Q ⟨g,Z,M,I,h⟩=>by
  refine tE.go I h.bnd λd M1 v H1 g1 h1 r1 I1 rv=>?_;obtain⟨k,h2,h3⟩:=JW rv.weak (Out.bM h1);exact⟨k,h2,h3 H1 g1 r1 I1⟩
end
section
variable{aj:aC}{c:Tc}{X:Cx}{W:WX}{k:Nat}{t:Tr}{s:Ts}{q:Bool}
def xG(t:Tr)(s:Ts)(c:Tc):Expr->Option GF
 |.Call (.Name x _) [] [] _=>(match c.G.lookup x with
  |some (.cls 0 m)=>gd (nR c.sc x&&!nY x) (some (qJ x m aH))
  |_=>none)
 |.Call (.Name x _) (e::es) [] _=>(match c.G.lookup x with
  |some (.fg n m)=>gd (nR c.sc x&&(!nY x&&decide ((e::es).length=n))) ((oN t c (e::es)).bind λas=>some (pO m as))
  |some (.cls n m)=>gd (nR c.sc x&&(!nY x&&decide ((e::es).length=n))) ((oN t c (e::es)).bind λas=>some (qJ x m as))
  |_=>none)
 |.Call (.Attribute o m apos) es [] pos=>(c.hs.Ms.lookup m).bind λtb=>(t.W c o).bind λfo=>(oN t c es).bind λas=>
  gd (Sq tb (es.length+1)&&(baseOk o&&(decide (es.length<30)&&(apos.endLine==pos.line)))) (some (lF tb fo as))
 |.Compare a [op] [b] _=>(match Iz op with
  |some neg=>(m9 b).bind λd=>(s.G c a).bind λfa=>some (Cj neg d fa)
  |none=>(oY op).bind λo=>(s.G c a).bind λfa=>(t.W c b).bind λfb=>gd (!iV b) (some (CV o fa fb)))
 |_=>none
theorem Xw(o:t.Ok)(os:s.Ok false)(a:gR aj c X W k){e:Expr}{f:GF}(h:xG t s c e=some f):GE aj X W false e f:=by
 unfold xG at h;split at h
 .split at h
  .next m hl=>
   obtain⟨hb,h⟩:=aF.mp h;cases h;simp only[ac9,adn]at hb;exact RB a.rm (a.gl _ _ hl) (gM a.toAmb hb.1) (gQ hb.2).1
  .cases h
 .split at h
  .next n m hl=>
   obtain⟨hb,h⟩:=aF.mp h;simp only[ac9,adn,aem]at hb;obtain⟨b1,b2,b3⟩:=hb;obtain⟨fa,hm,hk,fd,ps,j,hj,hp,hB,F⟩:=a.gl _ _ hl;obtain⟨as,h1,h⟩:=ac7.mp h;cases h;obtain⟨i1,i2,i3⟩:=iw o a.toAmb h1;exact Qn (a.tw hl rfl) F (a.rm.mono hj) (gM a.toAmb b1) hm hk hB i1 (b3.trans hp.symm) (gQ b2).1 i2 i3
  .next n m hl=>
   obtain⟨hb,h⟩:=aF.mp h;simp only[ac9,adn,aem]at hb;obtain⟨b1,b2,b3⟩:=hb;obtain⟨as,h1,h⟩:=ac7.mp h;cases h;obtain⟨i1,i2,i3⟩:=iw o a.toAmb h1;exact Vv a.rm (a.gl _ _ hl) (gM a.toAmb b1) (gQ b2).1 i1 i2 (λM Z ds z=>by rw[i3 M Z ds z];exact b3)
  .cases h
 .next b m apos es pos=>
  obtain⟨tb,h1,h⟩:=ac7.mp h;obtain⟨fo,h2,h⟩:=ac7.mp h;obtain⟨as,h3,h⟩:=ac7.mp h;obtain⟨hb,h⟩:=aF.mp h;cases h;simp only[ac9,aem]at hb;obtain⟨b2,b3,b4,b5⟩:=hb;obtain⟨i1,i2,i3⟩:=iw o a.toAmb h3;cases es with
  |nil=>
   cases h3;exact Lw (a.tm h1) a.rm (zF a.toAmb h1 b2) (o.ow a.toAmb h2) b3 b5
  |cons e es=>exact Ra (a.tm h1) a.rm (zF a.toAmb h1 b2) (o.ow a.toAmb h2) i1 i3 b3 i2 b5 b4
 .split at h
  .next neg hn=>
   obtain⟨d,h1,h⟩:=ac7.mp h;obtain⟨fa,h2,h⟩:=ac7.mp h;cases h;obtain⟨v,v1,v2,v3⟩:=tR (X:=X) h1;refine Xb v1 (vU hn v2) (os.og a h2) v3 (fL ?_);unfold m9 at h1;split at h1<;>first | rfl | cases h1
  .obtain⟨op,h1,h⟩:=ac7.mp h;obtain⟨fa,h2,h⟩:=ac7.mp h;obtain⟨fb,h3,h⟩:=ac7.mp h;obtain⟨hb,h⟩:=aF.mp h;cases h;obtain⟨r,r1,r2⟩:=iY h1 (X:=X) a.rm aj W;exact Tn r1 r2 (os.og a h2) (o.ow a.toAmb h3) (fL (by simpa using hb))
 .cases h
def xH(t:Tr)(s:Ts)(c:Tc):Expr->Option GT
 |.UnaryOp .Not a _=>(s.H c a).bind λf=>some (Hq f)
 |.BoolOp .And (a::b::r) p=>(s.H c a).bind λf=>(s.H c (.BoolOp .And (b::r) p)).bind λg=>some (HS f g)
 |.BoolOp .Or (a::b::r) p=>(s.H c a).bind λf=>(s.H c (.BoolOp .Or (b::r) p)).bind λg=>some (LR f g)
 |.BoolOp _ [a] _=>s.H c a
 |.Compare a [op] [b] _=>(match Iz op with
  |some neg=>(m9 b).bind λd=>(s.G c a).bind λfa=>some (oZ (Cj neg d fa))
  |none=>(oY op).bind λo=>(s.G c a).bind λfa=>(t.W c b).bind λfb=>gd (!iV b) (some (oZ (CV o fa fb))))
 |e=>gd (valT e) ((s.G c e).bind λf=>some (Hz f))
theorem WW(o:t.Ok)(os:s.Ok q)(a:gR aj c X W k){e:Expr}{f:GT}(h:xH t s c e=some f):mj aj X W q e f:=by
 unfold xH at h;split at h
 .obtain⟨f1,h1,h⟩:=ac7.mp h;cases h;exact R7 (os.oh a h1)
 .obtain⟨f1,h1,h⟩:=ac7.mp h;obtain⟨f2,h2,h⟩:=ac7.mp h;cases h;exact WD (os.oh a h1) (os.oh a h2)
 .obtain⟨f1,h1,h⟩:=ac7.mp h;obtain⟨f2,h2,h⟩:=ac7.mp h;cases h;exact Xc (os.oh a h1) (os.oh a h2)
 .next op _ _=>
  cases op
  .exact PW.pt (pw_and1 (os.oh a h))
  .exact PW.pt (pw_or1 (os.oh a h))
 .split at h
  .next neg hn=>
   obtain⟨d,h1,h⟩:=ac7.mp h;obtain⟨fa,h2,h⟩:=ac7.mp h;cases h;obtain⟨v,v1,v2,v3⟩:=tR (X:=X) h1;refine Xg v1 (vU hn v2) (os.og a h2) v3 (fL ?_);unfold m9 at h1;split at h1<;>first | rfl | cases h1
  .obtain⟨op,h1,h⟩:=ac7.mp h;obtain⟨fa,h2,h⟩:=ac7.mp h;obtain⟨fb,h3,h⟩:=ac7.mp h;obtain⟨hb,h⟩:=aF.mp h;cases h;obtain⟨r,r1,r2⟩:=iY h1 (X:=X) a.rm aj W;exact Wt r1 r2 (os.og a h2) (o.ow a.toAmb h3) (fL (by simpa using hb))
 .obtain⟨hv,h⟩:=aF.mp h;obtain⟨f1,h1,h⟩:=ac7.mp h;cases h;exact T6 (os.og a h1) (Ed hv)
theorem oX{e o:Expr}{f:Str}{p:Pos}{l:Nat}{env:PySem.Env}:swapsWith e (some (.Attribute o f p)) l env=pure false:=by cases e<;>rfl
theorem KY{e o:Expr}{i:Expr}{p:Pos}{l:Nat}{env:PySem.Env}:swapsWith e (some (.Subscript o i p)) l env=pure false:=by cases e<;>rfl
theorem Lq{o:Expr}{f:Str}{p spos:Pos}{i:Expr}{env:PySem.Env}(h:Av i=false):∀v,assign (.Subscript (.Attribute o f p) i spos) env v=(do
   let ov <-holding [v] (eval (.Attribute o f p) env)
   let iv <-holding [v,ov] (eval i env)
   standAt spos
   holding [v,ov,iv] (setItem ov iv v)
   release [v,ov,iv] []):=λv=>by
 cases i<;>first | (with_unfolding_all rfl) | cases h
def T5(t:Tr)(c:Tc)(kx tg iter:Expr)(scope:Scope):Option (Mo->Env->Out (List (Dat×Dat))):=
 (t.I c false tg iter).bind λit=>(yO (c.inn scope) tg).bind λjt=>(t.E (c.inn scope) kx).bind λte=>
  gd (blkC c.N c.sc scope (eY tg jt.1)&&(uE jt.1 ((eY tg jt.1).map (·.2))&&!iV iter)) (some (O4 it jt.2 ((eY tg jt.1).map (·.2)) te))
theorem MK(a:Amb aj c X W k):X.A.units+64<cLine:=by have:=a.rm.un;omega
def M5(t:Tr)(s:Ts)(c:Tc)(o:Expr)(f:Str):Expr->Option SF
 |.Dict [] [] _=>(t.W c o).bind λfo=>(c.hs.df.lookup f).bind λb=>some (vR c.hs.ft fo f b)
 |.DictComp kx (.Constant (.bool true) _ _) [⟨tg,iter,[],0⟩] scope _=>(t.W c o).bind λfo=>(T5 t c kx tg iter scope).bind λfe=>some (u9 c.hs.ft fo f fe)
 |.List es p=>(t.W c o).bind λfo=>(OD t c (.List es p)).bind λfe=>some (zY c.hs.ft fo f fe)
 |e=>gd (!lV e) ((t.W c o).bind λfo=>(s.G c e).bind λfe=>some (Gx c.hs.ft fo f fe))
theorem Rb(ot:t.Ok)(os:s.Ok false)(a:gR aj c X W k){o e:Expr}{f:Str}{p pos:Pos}{sf:SF}(h:M5 t s c o f e=some sf):SE aj X W false (.Assign [.Attribute o f p] e pos) sf:=by
 have hk:=a.hk;unfold M5 at h;split at h
 .obtain⟨fo,h1,h⟩:=ac7.mp h;obtain⟨b,h2,h⟩:=ac7.mp h;cases h;exact QL hk.co hk.fk hk.hw (ot.ow a.toAmb h1) oX
 .obtain⟨fo,h1,h⟩:=ac7.mp h;obtain⟨fe,h2,h⟩:=ac7.mp h;cases h;unfold T5 at h2;obtain⟨it,i1,h2⟩:=ac7.mp h2;obtain⟨⟨js,tf⟩,i2,h2⟩:=ac7.mp h2;obtain⟨te,i3,h2⟩:=ac7.mp h2;obtain⟨hb,h2⟩:=aF.mp h2;cases h2;simp only[ac9,adn]at hb;obtain⟨b1,b2,b3⟩:=hb;exact Qq hk.co hk.fk (ot.ow a.toAmb h1) (RW (g:=jY X.K aj js tf) (tk:=tQ X.K aj WF te) a.calm a.nd (MK a.toAmb) (ot.oi a.toAmb i1) (blkOk_by (by rw[a.hN,a.hs];exact b1)) (λs H C cl fp=>iQ (a.toAmb.inn _ s H C cl fp) i2) (λs H C cl fp=>ot.oe (a.toAmb.inn _ s H C cl fp) i3) (fW b3)) (λσ H Q z=>Xe hk.hw (fj b2) σ H Q z) oX
 .obtain⟨fo,h1,h⟩:=ac7.mp h;obtain⟨fe,h2,h⟩:=ac7.mp h;cases h;exact Ry hk.co hk.fk (ot.ow a.toAmb h1) (JD ot a.toAmb h2).1 oX
 .obtain⟨hc,h⟩:=aF.mp h;obtain⟨fo,h1,h⟩:=ac7.mp h;obtain⟨fe,h2,h⟩:=ac7.mp h;cases h;exact Rh hk.co hk.fk (ot.ow a.toAmb h1) (os.og a h2) oX
def BZ(n:Str):List Expr->Option (List Str)
 |[]=>some []
 |.Attribute (.Name m _) f _::es=>gd (m==n) ((BZ n es).bind λfs=>some (f::fs))
 |_=>none
def GJ(c:Tc)(nm:Option Str):Expr->Option mH
 |.Constant (.str x) _ _=>some (.con (.str x))
 |.Constant .none _ _=>some (.con .none)
 |.Tuple [] _ _=>some (.con (.tuple []))
 |.Attribute (.Name m _) f _=>nm.bind λn=>gd (m==n) (some (.fld f))
 |.Tuple es _ _=>nm.bind λn=>(BZ n es).bind λfs=>some (.flds fs)
 |_=>none
def mH.fs:mH->List Str
 |.con _=>[]
 |.fld f=>[f]
 |.flds fs=>fs
def GP(c:Tc)(nm:Option Str):List Stmt->Option (List (Nat×mH))
 |[]=>some []
 |.Assign [.Name x _] e _::r=>(iU c x).bind λj=>(GJ c nm e).bind λse=>(GP c nm r).bind λst=>some ((j,se)::st)
 |_=>none
def xX(c:Tc):Option Str->Option (Option Nat)
 |none=>some none
 |some n=>(lO c n).bind λi=>match c.sc.names.lookup n with
  |some .local=>some (some i)
  |_=>none
def Uv(c:Tc):ExceptHandler->Option Hd
 |.ExceptHandler (some (.Name y _)) nm (s0::su) _=>(c.hs.xm.lookup y).bind λtab=>(xX c nm).bind λi=>(GP c nm (s0::su)).bind λst=>
  (match c.G.lookup y with
  |some .exc=>some true
  |some (.exi _)=>some true
  |_=>none).bind λ_=>
  gd (nR c.sc y&&(!nY y&&(st.all (λp=>match i with
   |some j=>!(j==p.1)
   |none=>true)&&st.all (λp=>p.2.fs.all (λf=>((c.hs.xf.lookup y).getD []).contains f)&&decide (p.2.fs.length<=100))))) (some ⟨y,λx=>tab.lookup x,i,st⟩)
 |_=>none
def vB(c:Tc):List ExceptHandler->Option (List Hd)
 |[]=>some []
 |h::hs=>(Uv c h).bind λd=>(vB c hs).bind λds=>some (d::ds)
theorem Fe{y n:Str}{C:Addr}{a:Addr}{oe:Obj}{cls:Value}{d:Option Addr}{pn:List (Addr×Obj)}{j:Nat}{fl:List Str}(hC:aj y=some C)(T:XfC X.K C)(hno:∀f∈fl,PySem.W.findIn X.K (.ref C) f=some none)(hz:Zc cls d oe)(hf:∃vs,oe.data=.fields vs)(hN:X.N[j]?=some n)(hv:Vis X.env.scope n)(hd:(n==("__debug__" : Str))=false)(hcd:(n==("__classdict__" : Str))=false) :
  ∀{es:List Expr} {fs:List Str},BZ n es=some fs->(∀f∈fs,f∈fl)->PA (X.suite a ((a,oe)::pn)) es (Jq X.K aj a cls d (some j) λx=>vX y x fs)
 |[],fs,h,_=>by
  cases h;exact Ke
 |.Attribute (.Name m p) f p2::es,fs,h,hs=>by
  rw[BZ]at h;obtain⟨hm,h⟩:=aF.mp h;obtain⟨fr,h1,h⟩:=ac7.mp h;cases h;cases aev hm;exact Qt (Jj hC T (hno f (hs f adg)) hz hf hN hv hd hcd) (Fe hC T hno hz hf hN hv hd hcd h1 λf hf=>hs f (adf _ hf)) rfl
theorem Q5{y:Str}{nm:Option Str}{i:Option Nat}{a:Addr}{oe:Obj}{cls:Value}{d:Option Addr}{pn:List (Addr×Obj)}{e:Expr}{se:mH}(am:Amb aj c X W k)(hi:xX c nm=some i)(hy:(c.hs.xf.lookup y).getD []=fl)(hfl:∀f∈se.fs,f∈fl)(hl:se.fs.length<=100)(hz:Zc cls d oe)(hf:∃vs,oe.data=.fields vs)(h:GJ c nm e=some se) :
  PE (X.suite a ((a,oe)::pn)) e (tU X.K aj a cls d i λx=>uK y x se):=by
 have fld:∀n j,nm=some n->i=some j->X.N[j]?=some n/\Vis X.env.scope n/\(n==("__debug__" : Str))=false/\(n==("__classdict__" : Str))=false:=λn j e1 e2=>by
  subst e1 e2;unfold xX at hi;obtain⟨j',h1,hi⟩:=ac7.mp hi;split at hi
  .cases hi;exact jc am h1
  .cases hi
 have hsome:∀n,nm=some n->∃j,i=some j:=λn e1=>by
  subst e1;unfold xX at hi;obtain⟨j',h1,hi⟩:=ac7.mp hi;split at hi
  .cases hi;exact⟨_,rfl⟩
  .cases hi
 have hxf:fl≠[]->∃C,aj y=some C/\XfC X.K C/\∀f∈fl,PySem.W.findIn X.K (.ref C) f=some none:=λne=>by
  cases hx:c.hs.xf.lookup y with
  |none=>
   rw[hx]at hy;exact absurd hy.symm ne
  |some l=>
   rw[hx]at hy;cases hy;exact am.hk.xf y _ hx
 unfold GJ at h;split at h
 .cases h;exact J8 pe_str λσ H Q ⟨g,Z,M,x,z,I,e,kk⟩=>by
   cases e;exact kk _ H (Ex.refl H) (.str _)
 .cases h;exact J8 pe_non λσ H Q ⟨g,Z,M,x,z,I,e,kk⟩=>by
   cases e;exact kk _ H (Ex.refl H) .non
 .cases h;exact PE.weak (Ka (aj:=aj) (cls:=cls) (d:=d) (i:=i) Ke λx zs e=>by cases e;exact adJ _) λσ H Q z=>z
 .obtain⟨n,e1,h⟩:=ac7.mp h;obtain⟨hm,h⟩:=aF.mp h;cases h;cases aev hm;obtain⟨j,rfl⟩:=hsome _ e1;obtain⟨f1,f2,f3,f4⟩:=fld _ j e1 rfl;obtain⟨C,c1,c2,c3⟩:=hxf (List.ne_nil_of_mem (hfl _ (adu.mpr rfl)));exact Jj c1 c2 (c3 _ (hfl _ (adu.mpr rfl))) hz hf f1 f2 f3 f4
 .next es _ _ hne=>
  obtain⟨n,e1,h⟩:=ac7.mp h;obtain⟨fs,e2,h⟩:=ac7.mp h;cases h;obtain⟨j,rfl⟩:=hsome _ e1;obtain⟨f1,f2,f3,f4⟩:=fld _ j e1 rfl;have hfs:fs≠[]:=λz=>by
   subst z
   match es,e2 with
   |[],_=>exact hne rfl
   |.Attribute (.Name m _) f _::es,e2=>
    rw[BZ]at e2;obtain⟨_,e2⟩:=aF.mp e2;obtain⟨_,_,e2⟩:=ac7.mp e2;cases e2
  have hfn:fl≠[]:=by
   cases fs with
   |nil=>exact absurd rfl hfs
   |cons f r=>exact List.ne_nil_of_mem (hfl f adg)
  obtain⟨C,c1,c2,c3⟩:=hxf hfn;exact Ka (Fe c1 c2 c3 hz hf f1 f2 f3 f4 e2 hfl) λx zs e=>by
   have:=yH e;have hl:fs.length<=100:=hl;omega
 .cases h
theorem xP{y:Str}{nm:Option Str}{i:Option Nat}{a:Addr}{oe:Obj}{cls:Value}{d:Option Addr}{pn:List (Addr×Obj)}{fl:List Str}(am:Amb aj c X W k)(hi:xX c nm=some i)(hy:(c.hs.xf.lookup y).getD []=fl)(hz:Zc cls d oe)(hf:∃vs,oe.data=.fields vs) :
  ∀{ss:List Stmt} {st:List (Nat×mH)},GP c nm ss=some st->(∀p∈st,(∀f∈p.2.fs,f∈fl)/\p.2.fs.length<=100)->PSs (X.suite a ((a,oe)::pn)) ss (FT X.K aj a cls d i y st)
 |[],st,h,_=>by
  cases h;exact PSs.weak pss_nil λD σ H z=>V9 z
 |.Assign [.Name x p] e p2::r,st,h,hs=>by
  rw[GP]at h;obtain⟨j,h1,h⟩:=ac7.mp h;obtain⟨se,h2,h⟩:=ac7.mp h;obtain⟨st',h3,h⟩:=ac7.mp h;cases h;obtain⟨s1,s2,s3⟩:=dO am h1;obtain⟨u1,u2⟩:=hs (j,se) adg;have he:=Q5 (a:=a) (pn:=pn) am hi hy u1 u2 hz hf h2;have hne:lV e=false/\swappedStores [.Name x p] e X.env=pure none:=by unfold GJ at h2;split at h2<;>first | exact⟨rfl,rfl⟩ | cases h2
  refine PSs.weak (pss_cons (ps_asg he (pg_name (X:=X.suite a ((a,oe)::pn)) am.nd s1 s2 s3) (jJ hne.1) hne.2 (by with_unfolding_all rfl)) (xP am hi hy hz hf h3 λp hp=>hs p (adf _ hp))) λD σ H z=>?_;exact VR z λσ' H' z'=>z'
def Y4(aj:aC)(K:ac8)(h:Hd)(D:Addr):Cl:=⟨.ref D,h.nm,λa cls d=>FT K aj a cls d h.nm h.y h.st⟩
theorem Ax(am:Amb aj c X W k):∀{hds:List ExceptHandler} {hs:List Hd},vB c hds=some hs->∃ls,lG X hds ls/\nQ X.K aj hs ls
 |[],hs,h=>by
  cases h;exact⟨[],.nil,.nil⟩
 |h0::hds,hs,h=>by
  rw[vB]at h;obtain⟨d,h1,h⟩:=ac7.mp h;obtain⟨ds,h2,h⟩:=ac7.mp h;cases h;obtain⟨ls,i1,i2⟩:=Ax am h2;unfold Uv at h1;split at h1
  .next y np nm s0 su cp=>
   obtain⟨tab,j1,h1⟩:=ac7.mp h1;obtain⟨i,j2,h1⟩:=ac7.mp h1;obtain⟨st,j3,h1⟩:=ac7.mp h1;obtain⟨_,j4,h1⟩:=ac7.mp h1;obtain⟨hb,h1⟩:=aF.mp h1;cases h1;simp only[ac9,adn]at hb;obtain⟨b1,b2,b3,b4⟩:=hb;obtain⟨⟨D,hD⟩,hx⟩:=am.hk.xm y tab j1;have hm:X.mg y=some (.ref D):=by
    split at j4
    .next hl=>
     obtain⟨C,g1,g2,_⟩:=am.gl y _ hl;rw[hD]at g2;cases g2;exact g1
    .next hl=>
     obtain⟨C,fI,fd,ps,g1,g2,_⟩:=am.gl y _ hl;rw[hD]at g2;cases g2;exact g1
    .cases j4
   have hnames:Names X y (.ref D):=⟨gM am b1,(gQ b2).1,.inl hm⟩;have hst:∀p∈st,(∀f∈p.2.fs,f∈(c.hs.xf.lookup y).getD [])/\p.2.fs.length<=100:=λp hp=>by
    have:=ady.mp b4 p hp;rw[ac9,aem]at this;exact⟨λf hf=>by simpa using ady.mp this.1 f hf,this.2⟩
   have hnj:∀p∈st,i≠some p.1:=λp hp z=>by
    subst z;have:=ady.mp b3 p hp;simp at this
   refine⟨Y4 aj X.K ⟨y,λx=>tab.lookup x,i,st⟩ D::ls,?_,.cons ⟨⟨D,hD,rfl⟩,hx,rfl,rfl,hnj⟩ i2⟩;cases nm with
   |none=>
    cases j2;exact .one hnames rfl (λa oe cls d pn hz hf=>xP am rfl rfl hz hf j3 hst) i1
   |some n=>
    have j2':=j2;unfold xX at j2;obtain⟨i',s1,j2⟩:=ac7.mp j2;split at j2
    .next hloc=>
     cases j2;refine .as hnames rfl (jc am s1).1 ?_ (λa oe cls d pn hz hf=>xP am j2' rfl hz hf j3 hst) i1;unfold PySem.Env.kindOf;rw[am.hs];exact hloc
    .cases j2
  .cases h1
theorem Nv(a:Amb aj c X W k){h:ExceptHandler}{hds:List ExceptHandler}{hs:List Hd}(z:vB c (h::hds)=some hs):Takes X W:=
 a.tk
theorem gR.tr(a:gR aj c X W k){W':WX}{pn:List (Addr×Obj)}{xe:Value->Shared->Prop}(t:Takes (X.tr pn xe) W')(p:PassesOwn (model X.prog X.w) X.A X.env xe):gR aj c (X.tr pn xe) W' k where
 hN:=a.hN
 hs:=a.hs
 calm:=a.calm
 nd:=a.nd
 tk:=t
 rm:=a.rm
 gl:=a.gl
 bl:=a.bl
 fn:=a.fn
 hk:=a.hk
 ps:=p
 st:=a.st
 fr:=a.fr
 kf:=a.kf
def xS(q:Bool)(t:Tr)(s:Ts)(c:Tc):Stmt->Option SF
 |.Raise (some (.Call (.Name x _) [] [] _)) none _=>(match c.G.lookup x with
  |some .exc=>gd (nR c.sc x&&!nY x) (some (qW x))
  |_=>none)
 |.Raise (some (.Call (.Name x _) (e::es) [] _)) none _=>(match c.G.lookup x with
  |some (.exi fs)=>(oN t c (e::es)).bind λas=>gd (nR c.sc x&&(!nY x&&(decide ((e::es).length=fs.length)&&decide (fs.length<=1000)))) (some (tK x fs as))
  |_=>none)
 |.Try body (h::hds) [] [] _=>(s.B c body).bind λf=>(vB c (h::hds)).bind λhs=>some (wW f hs)
 |.Pass _=>some bf
 |.Expr (.Call (.Attribute (.Attribute o f p1) m apos) [e] [] pos) epos=>(match q with
  |true=>(s.G c (.Call (.Attribute (.Attribute o f p1) m apos) [e] [] pos)).bind λf=>some (rQ f)
  |false=>match m=="append" with
   |true=>gd (baseOk o&&(nst e&&(apos.endLine==pos.line))) ((t.W c o).bind λfo=>(s.G c e).bind λfe=>some (zR f fo fe))
   |false=>(s.G c (.Call (.Attribute (.Attribute o f p1) m apos) [e] [] pos)).bind λf=>some (rQ f))
 |.Expr (.Call (.Attribute o m apos) [] [] pos) _=>els ((t.E c o).bind λf=>gd (m=="clear"&&(baseOk o&&(apos.endLine==pos.line))) (some (vP (Vp c o) f))) ((s.G c (.Call (.Attribute o m apos) [] [] pos)).bind λf=>some (rQ f))
 |.Expr e _=>gd (!lV e) ((s.G c e).bind λf=>some (rQ f))
 |.Assign [.Name x p] (.ListComp elt [⟨tg,iter,ifs,0⟩,⟨tg1,iter1,ifs1,0⟩] scope cpos) _=>(iU c x).bind λj=>
  gd (O2 c.sc (.ListComp elt [⟨tg,iter,ifs,0⟩,⟨tg1,iter1,ifs1,0⟩] scope cpos) scope x p&&!c.ml.contains x) ((wg t c elt tg iter ifs tg1 iter1 ifs1 scope).bind λf=>some (aV (aG j) (gOf f)))
 |.Assign [.Attribute o f _] e _=>(match q with
  |true=>none
  |false=>M5 t s c o f e)
 |.Assign [.Subscript (.Attribute o f _) i _] e _=>(match q with
  |true=>none
  |false=>gd (baseOk o&&(!Av i&&!lV e)) ((t.W c o).bind λfo=>(t.E c i).bind λfi=>(t.E c e).bind λfe=>match c.hs.df.lookup f with
   |some _=>some (vA f fo fi fe)
   |none=>some (zP f fo fi fe)))
 |.AugAssign (.Attribute o f _) .Add e _=>(match q with
  |true=>none
  |false=>(t.W c o).bind λfo=>(t.E c e).bind λfe=>some (zJ c.hs.ft f fo fe))
 |.Delete [.Subscript (.Attribute o f _) i _] _=>(match q with
  |true=>none
  |false=>gd (baseOk o) ((t.W c o).bind λfo=>(t.E c i).bind λfi=>some (wD f fo fi)))
 |_=>none
theorem XJ(o:t.Ok)(os:s.Ok q)(a:gR aj c X W k){st:Stmt}{f:SF}(h:xS q t s c st=some f):SE aj X W q st f:=by
 have hk:=a.hk;unfold xS at h;split at h
 .split at h
  .next hl=>
   obtain⟨hb,h⟩:=aF.mp h;cases h;simp only[ac9,adn]at hb;exact K9 a.calm a.tk (gM a.toAmb hb.1) (gQ hb.2).1 (a.gl _ _ hl)
  .cases h
 .split at h
  .next fs hl=>
   obtain⟨as,h1,h⟩:=ac7.mp h;obtain⟨hb,h⟩:=aF.mp h;cases h;simp only[ac9,adn,aem]at hb;obtain⟨b1,b2,b3,b4⟩:=hb;obtain⟨i1,i2,i3⟩:=iw o a.toAmb h1;exact Jp a.calm (a.tw hl rfl) a.rm (gM a.toAmb b1) (gQ b2).1 (a.gl _ _ hl) i1 i2 (λM Z ds z=>by rw[i3 M Z ds z];exact b3) b4
  .cases h
 .obtain⟨f1,h1,h⟩:=ac7.mp h;obtain⟨hs,h2,h⟩:=ac7.mp h;cases h;obtain⟨ls,i1,i2⟩:=Ax a.toAmb h2;exact Uc a.st a.fr a.nd (Nv a.toAmb h2) (λW' pn xe t p=>os.ob (a.tr t p) h1) i1 i2
 .cases h;exact PS.weak ps_pass λD σ H ⟨g,Z,M,I,z⟩=>z σ H g .refl I
 .split at h
  .obtain⟨f1,h1,h⟩:=ac7.mp h;cases h;exact sH (os.og a h1) (jC rfl)
  .split at h
   .next hm=>
    obtain⟨hb,h⟩:=aF.mp h;obtain⟨fo,h1,h⟩:=ac7.mp h;obtain⟨fe,h2,h⟩:=ac7.mp h;cases h;simp only[ac9]at hb;cases aev hm;exact Qz hk.co (o.ow a.toAmb h1) hb.1 (os.og a h2) hb.2.1 hb.2.2
   .obtain⟨f1,h1,h⟩:=ac7.mp h;cases h;exact sH (os.og a h1) (jC rfl)
 .rcases eG h with h|h
  .obtain⟨f1,h1,h⟩:=ac7.mp h;obtain⟨hb,h⟩:=aF.mp h;cases h;simp only[ac9]at hb;cases aev hb.1;exact RK (o.oe a.toAmb h1) hb.2.1 hb.2.2
  .obtain⟨f1,h1,h⟩:=ac7.mp h;cases h;exact sH (os.og a h1) (jC rfl)
 .obtain⟨hb,h⟩:=aF.mp h;obtain⟨f1,h1,h⟩:=ac7.mp h;cases h;exact sH (os.og a h1) (jC (by simpa using hb))
 .obtain⟨j,hj,h⟩:=ac7.mp h;obtain⟨hsw,h⟩:=aF.mp h;rw[ac9]at hsw;obtain⟨f1,h1,h⟩:=ac7.mp h;cases h;obtain⟨s1,s2,s3⟩:=dO a.toAmb hj;have hsw:=hsw.1;rw[<-a.hs]at hsw;have l1:=(v9 (l:=0) a.kf hsw).1;have l2:=λl=>(v9 (l:=l) a.kf hsw).2;clear h;unfold wg at h1;obtain⟨it,g1,h⟩:=ac7.mp h1;obtain⟨⟨js,tf⟩,h2,h⟩:=ac7.mp h;obtain⟨tt,h3,h⟩:=ac7.mp h;obtain⟨it1,h4,h⟩:=ac7.mp h;obtain⟨⟨js1,tf1⟩,h5,h⟩:=ac7.mp h;obtain⟨tt1,h6,h⟩:=ac7.mp h;obtain⟨te,h7,h⟩:=ac7.mp h;obtain⟨hb,h⟩:=aF.mp h;cases h;simp only[ac9,adn]at hb;obtain⟨b1,b2,b3,b4,b5,b6⟩:=hb;have am:=a.toAmb;exact QM a.calm a.nd s1 l1 (l2 _) (o.oi am g1) (by rw[a.hN,a.hs];exact b1) (fj b2) (fj b3) (fj b4) (λs H C cl fp=>iQ (am.inn _ s H C cl fp) h2) (λs H C cl fp=>iZ o (am.inn _ s H C cl fp) h3) (λs H C cl fp=>o.oi (am.inn _ s H C cl fp) h4) (λs H C cl fp=>iQ (am.inn _ s H C cl fp) h5) (λs H C cl fp=>iZ o (am.inn _ s H C cl fp) h6) (λs H C cl fp=>o.oe (am.inn _ s H C cl fp) h7) (fW b5) (λenv=>fW b6)
 .split at h
  .cases h
  .exact Rb o os a h
 .split at h
  .cases h
  .obtain⟨hb,h⟩:=aF.mp h;obtain⟨fo,h1,h⟩:=ac7.mp h;obtain⟨fi,h2,h⟩:=ac7.mp h;obtain⟨fe,h3,h⟩:=ac7.mp h;simp only[ac9,adn]at hb;obtain⟨b1,b2,b3⟩:=hb;split at h
   .cases h;exact Pa hk.co hk.hw (MK a.toAmb) (o.ow a.toAmb h1) b1 (o.oe a.toAmb h2) (o.oe a.toAmb h3) KY
   .cases h;exact RN hk.co (o.ow a.toAmb h1) b1 (o.oe a.toAmb h3) (o.oe a.toAmb h2) (Lq b2) (jJ b3) (by with_unfolding_all rfl)
 .split at h
  .cases h
  .obtain⟨fo,h1,h⟩:=ac7.mp h;obtain⟨fe,h2,h⟩:=ac7.mp h;cases h;exact Rx hk.co hk.fk (o.ow a.toAmb h1) (o.oe a.toAmb h2)
 .split at h
  .cases h
  .obtain⟨hb,h⟩:=aF.mp h;obtain⟨fo,h1,h⟩:=ac7.mp h;obtain⟨fi,h2,h⟩:=ac7.mp h;cases h;exact Qw hk.co hk.hw (MK a.toAmb) (o.ow a.toAmb h1) hb (o.oe a.toAmb h2)
 .cases h
end
def tr0:Tr:=⟨λ_ _=>none,λ_ _=>none,λ_ _=>none,λ_ _ _ _=>none⟩
def Ux(t:Tr):Tr:=⟨xtE t,xtW t,xtT t,xtI t⟩
def tr:Nat->Tr
 |0=>tr0
 |n+1=>Ux (tr n)
theorem jO:∀n,(tr n).Ok
 |0=>⟨λ_=>(by intro _ _ h;cases h),λ_=>(by intro _ _ h;cases h),λ_=>(by intro _ _ h;cases h),λ_=>(by intros;rename_i h;cases h)⟩
 |n+1=>⟨λa=>(by intro _ _ h;exact(eG h).elim (Xi (jO n) a) (UL (jO n) a)),λa=>(by intro _ _ h;exact(eG h).elim (X8 (jO n) a) (Uz (jO n) a)),λa=>(by intro _ _ h;exact(eG h).elim (Xu (jO n) a) (VF (jO n) a)),λa=>(by intro _ _ _ _ h;exact(eG h).elim (Yq (jO n) a) (Wg (jO n) a))⟩
def ts0:Ts:=⟨λ_ _=>none,λ_ _=>none,λ_ _=>none,λ_ _=>none⟩
def ldG(q:Bool)(t:Tr)(s:Ts)(c:Tc)(e:Expr):Option GF:=match q with
 |true=>none
 |false=>xG t s c e
def ldH(q:Bool)(t:Tr)(s:Ts)(c:Tc)(e:Expr):Option GT:=match q with
 |true=>none
 |false=>xH t s c e
def Tj(q:Bool)(t:Tr)(s:Ts):Ts:=⟨λc e=>els ((t.E c e).bind λf=>some (gOf f)) (ldG q t s c e),λc e=>els ((t.T c e).bind λf=>some (Ln f)) (ldH q t s c e),λc e=>els (Wh t s c e) (xS q t s c e),Gz s⟩
def ts(q:Bool)(t:Tr):Nat->Ts
 |0=>ts0
 |n+1=>Tj q t (ts q t n)
theorem pN{t:Tr}(o:t.Ok)(q:Bool):∀n,(ts q t n).Ok q
 |0=>⟨λ_=>(by intro _ _ h;cases h),λ_=>(by intro _ _ h;cases h),λ_=>(by intro _ _ h;cases h),λ_=>(by intros;rename_i h;cases h)⟩
 |n+1=>⟨λa=>by
   intro _ _ h;rcases eG h with h|h
   .obtain⟨f,h1,h⟩:=ac7.mp h;cases h;exact Oo (o.oe a.toAmb h1)
   .cases q with
    |true=>cases h
    |false=>exact Xw o (pN o false n) a h,λa=>by
   intro _ _ h;rcases eG h with h|h
   .obtain⟨f,h1,h⟩:=ac7.mp h;cases h;exact WT (o.ot a.toAmb h1)
   .cases q with
    |true=>cases h
    |false=>exact WW o (pN o false n) a h,λa=>by
   intro _ _ h;rcases eG h with h|h
   .exact Wi o (pN o q n) a h
   .exact XJ o (pN o q n) a h,λa=>by
   intro _ _ h;exact Mp (pN o q n) a h⟩
def rd(c:Tc)(b:List Stmt):Option SF:=(ts true (tr 40) 60).B c b
def Yx(c:Tc)(b:List Stmt):Option SF:=(ts false (tr 40) 60).B c b
def lQ(P:Program)(w:World)(K:ac8)(mg:Str->Option Value)(base:Heap)(aj:aC)(k:Nat):List (Str×GV)->Prop
 |[]=>True
 |(x,v)::r=>bW P w K mg base aj k x v/\lQ P w K mg base aj k r
def mF(mg:Str->Option Value):List Str->Prop
 |[]=>True
 |x::r=>mg x=none/\mF mg r
section
variable{P:Program}{w:World}{K:ac8}{mg:Str->Option Value}{base:Heap}{aj:aC}{k:Nat}
theorem lQ.get:∀{G:List (Str×GV)},lQ P w K mg base aj k G->∀x v,G.lookup x=some v->bW P w K mg base aj k x v
 |[],_,x,v,h=>nomatch h
 |(y,u)::r,g,x,v,h=>by
  rw[adE]at h;split at h
  .next e=>
   cases h;rw[aev e];exact g.1
  .exact g.2.get x v h
theorem mF.get:∀{B:List Str},mF mg B->∀x,x∈B->mg x=none
 |[],_,x,h=>nomatch h
 |y::r,g,x,h=>by
  rcases adt.mp h with rfl|h
  .exact g.1
  .exact g.2.get x h
theorem Jr{qual:Str}{st:Stmt}{f:Addr}{N ps ml B:List Str}{G:List (Str×GV)}{Ms:Hs}(S:FnScope N ps (defScope st))(g:lQ P w K mg base aj k G)(b:mF mg B)(hh:xK P w K mg base aj k Ms)
  (cdv:Value) (A:Around) (outer:List PySem.Env) (s:Shared) (H:Hp) (E:XK) (hr:Room k (A.deeper (envOfC qual (defScope st) s.heap.objs.size f cdv))) :
  gR aj ⟨N,defScope st,G,B,Ms,ml,true⟩ (cxOf (L2.CX P w) P w K mg base N qual (defScope st) f cdv A outer s H E) (KR E) k where
 hN:=rfl
 hs:=rfl
 calm:=rfl
 nd:=S.nd
 tk:=takes_of rfl rfl rfl rfl
 rm:=hr
 gl:=g.get
 bl:=b.get
 fn:=λ_ _=>rfl
 hk:=hh
 ps:=passes_of rfl
 st:=rfl
 fr:=rfl
 kf:=S.kind
theorem BX{x qual:Str}{st:Stmt}{f:Addr}{fd:FuncData}{N ps ml B:List Str}{G:List (Str×GV)}{Ms:Hs}{body:SF}(F:Fun K x qual st f fd)(S:FnScope N ps (defScope st))(g:lQ P w K mg base aj k G)(b:mF mg B)(hh:xK P w K mg base aj k Ms)
  (h:rd ⟨N,defScope st,G,B,Ms,ml,true⟩ (defBody st)=some body):FnOk P w K mg base (L2.CX P w) (k+1) f fd ps (yL K aj ps.length (mQ N.length body)):=
 Zm F S λcdv A outer s H E hr=>(pN (jO 40) true 60).ob (Jr S g b hh cdv A outer s H E hr) h
theorem vo{x qual:Str}{st:Stmt}{f:Addr}{fd:FuncData}{N ps ml B:List Str}{G:List (Str×GV)}{Ms:Hs}{body:SF}(F:Fun K x qual st f fd)(S:FnScope N ps (defScope st))(g:lQ P w K mg base aj k G)(b:mF mg B)(hh:xK P w K mg base aj k Ms)
  (h:Yx ⟨N,defScope st,G,B,Ms,ml,true⟩ (defBody st)=some body):FnOk P w K mg base (L2.CX P w) (k+1) f fd ps (qd K aj ps.length (mG N.length body)):=
 ZM F S λcdv A outer s H E hr=>(pN (jO 40) false 60).ob (Jr S g b hh cdv A outer s H E hr) h
theorem Uq{f:Addr}{fd:FuncData}{ps:List Str}{j:Nat}:FnOk P w K mg base (L2.CX P w) j f fd ps (yL K aj ps.length λ_ _=>.bad):=
 ⟨λvs H Q E h=>h.1,λA outer s H args us vs Q E _ _ _ _ h=>by
  obtain⟨_,g,M,ds,_,_,_,z⟩:=h;exact ael z⟩
theorem Nf{x:Str}{f:Addr}{fd:FuncData}{ps:List Str}{j:Nat}{m:Mo->List Dat->Out Dat}(hj:j<=k)(hg:mg x=some (.ref f))(hk:PySem.W.keepIn K (.ref f)=true)(hB:Binds K fd ps [])(F:FnOk P w K mg base (L2.CX P w) j f fd ps (yL K aj ps.length m)):bW P w K mg base aj k x (.fq ps.length m):=
 ⟨f,hg,hk,fd,ps,j,hj,rfl,hB,F⟩
end
open PySem PySem.Spec PyProof.Rows L2
section
variable{fa:List He.Fa}{fn:List He.DefD}{tb:List He.Tab}{ex:ac8->Bool}{w:World}{K:ac8}
theorem sO.vg(c:sO fa fn tb ex w K)(i:Nat){f:He.Fa}(h:fa[i]?=some f:=by rfl):f.ok K=true:=c.t.d.fact i h
theorem sO.BJ(c:sO fa fn tb ex w K)(i:Nat){d:He.DefD}(h:fn[i]?=some d:=by rfl):∃fd,FunD K d.name d.qual d.params d.body d.scope (d.dvs K) (d.kws K) (He.fAd K d.at_) fd:=c.t.d.def_ i h
theorem pQ{x qual:Str}{st:Stmt}{f:Addr}{fd:FuncData}(F:FunD K x qual (defArgs st) (defBody st) (defScope st) [] [] f fd):L2.Fun K x qual st f fd:=by
 obtain⟨oc,od,dV,kV,doc,pm,an,cdv,ct,osl,e,l,c,hd,_⟩:=F.ex;rcases hd with⟨_,z⟩|⟨z,_⟩
 .cases z;exact⟨⟨oc,od,kV,doc,pm,an,cdv,ct,osl,e,l,c⟩,F.kp⟩
 .exact absurd rfl z
end
def g0:Gh:=⟨[],λ_=>none,λ_=>False,λ_=>False,True⟩
theorem Ul(a:Addr):¬g0.A a:=λz=>by
 rcases z with(z|z)|z|z
 .cases z
 .exact z rfl
 .exact z
 .exact z
theorem Yd{H:Hp}:Kd g0 H:=⟨λa z=>absurd z (Ul a),λa z=>ael z,λa z=>ael z⟩
theorem SN{K:ac8}{aj:aC}{H:Hp}(nc:aj ""=none):bK K aj g0 H []:=⟨rfl,λh k a e=>(by cases h<;>cases e),λh a i e=>(by cases h<;>cases e),λh i e=>(by cases h<;>cases e),λh i e=>(by cases h<;>cases e),λh a i e=>(by cases h<;>cases e),λh i e=>(by cases h<;>cases e),nc⟩
theorem yM{K:ac8}{g:Gh}{H:Hp}:∀ns:List Int,au K g H (ns.map V.int) (ns.map PyData.int)
 |[]=>.nil
 |n::ns=>.cons (.int n) (yM ns)
theorem Ud{K:ac8}{H:Hp}{a:Addr}{ns:List Int}(hS:SqL K H a (ns.map V.int)):au K g0 H [.ref a] [.list (ns.map PyData.int)]:=by
 refine .cons (.lst ?_ (yM ns)) .nil;rcases hS with h|h
 .exact .inr ⟨aek,.inl ⟨h,Ul a⟩⟩
 .exact .inr ⟨aek,.inr h⟩
theorem Xr{K:ac8}{aj:aC}(nc:aj ""=none){m:Mo->List Dat->aN Dat}{H:Hp}{a:Addr}{ns:List Int}{M:Mo}(hS:SqL K H a (ns.map V.int))(h:m [] [.list (ns.map PyData.int)]=.ok (.bool true) M):qd K aj 1 m [.ref a] H (λv _=>v=.bl true) λ_ _ _=>False:=
 ⟨rfl,g0,[],[.list (ns.map PyData.int)],Yd,SN nc,Ud hS,by
  rw[h];exact λv H' g' _ _ _ r=>by cases r;rfl⟩
section
variable{K:ac8}{h:Heap}{mg:Str->Option Value}{w:World}
def eX(w:World)(K:ac8)(xs:List Str)(ft:Ft):aC:=⟨λx=>match xs.contains x with
 |true=>some (He.ga K x)
 |false=>none,λc=>(ft.lookup c).getD [],w⟩
theorem uY{xs:List Str}{ft:Ft}{x:Str}{C:Addr}(e:eX w K xs ft x=some C):C=He.ga K x:=by
 have e:(match xs.contains x with
  |true=>some (He.ga K x)
  |false=>none)=some C:=e
 split at e
 .exact(adA e).symm
 .cases e
theorem oG{xs:List Str}{ft:Ft}{x:Str}(e:xs.contains x=true):eX w K xs ft x=some (He.ga K x):=by
 show(match xs.contains x with
  |true=>some (He.ga K x)
  |false=>none)=_
 rw[e]
theorem Bx{ft:Ft}(hb:qX K ft=true){c:Str}{fs:List Str}(hl:ft.lookup c=some fs):Cls K (He.ga K c)/\∀f∈fs,NoAttr K (He.ga K c) f:=by obtain⟨h1,h2⟩:=He.ba (ady.mp hb _ (gW hl));exact⟨He.cls_ok h1,λf hf=>He.noat_ok (ady.mp h2 f hf)⟩
theorem Kv{xs:List Str}{ft:Ft}(hb:qX K ft=true):cJ K (eX w K xs ft):=λc C f e hf=>by
 have e:=uY e;subst e;have hf:f∈(ft.lookup c).getD []:=hf;cases hl:ft.lookup c with
 |none=>rw[hl]at hf;cases hf
 |some fs=>
  rw[hl]at hf;obtain⟨h1,h2⟩:=Bx hb hl;exact⟨h1,h2 f hf⟩
theorem KJ{xs:List Str}{ft:Ft}:rN ft (eX w K xs ft):=λc f e=>by
 unfold Ft.has at e;show f∈(ft.lookup c).getD [];split at e
 .next fs hl=>
  rw[hl];simpa using e
 .cases e
def Yy(xs:List Str)(xm:List (Str×List (Str×Bool))):Bool:=xm.all λp=>xs.contains p.1
theorem XF{xs:List Str}{ft:Ft}{xm:List (Str×List (Str×Bool))}(hb:Uh K xm=true)(hn:Yy xs xm=true)(y:Str)(tab:List (Str×Bool))(hl:xm.lookup y=some tab):(∃D,eX w K xs ft y=some D)/\Hu K (eX w K xs ft) y λx=>tab.lookup x:=by refine⟨⟨_,oG (ady.mp hn _ (gW hl))⟩,λx b C e1 e2 D e3=>?_⟩;rw[uY e2,uY e3];exact He.exm_ok (ady.mp (ady.mp hb _ (gW hl)) _ (gW e1))
theorem Q8{C:Addr}(hb:U4 K C=true):OexC K C:=by
 obtain⟨h1,h2⟩:=He.ba hb;obtain⟨h2,h3⟩:=He.ba h2;obtain⟨h3,h4⟩:=He.ba h3;obtain⟨h4,h5⟩:=He.ba h4;refine⟨?_,He.eqO_ok h2,aen h3,aen h4,h5⟩;split at h1
 .next t dd cd sl hl=>
  obtain⟨t1,h1⟩:=He.ba h1;split at h1
  .next C' bm k0 k1 k2 k3 n k5 e1 e2=>
   obtain⟨a1,h1⟩:=He.ba h1;obtain⟨a2,h1⟩:=He.ba h1;obtain⟨a3,h1⟩:=He.ba h1;obtain⟨a4,a5⟩:=He.ba h1;have q1:=aen t1;have q2:=aen a1;have q3:=aen a2;have q4:cd.hasDel=false:=by simpa using a3
   have q5:sl=#[k0,k1,k2,k3,some (.builtin n),k5]:=by rw[<-Array.toList_inj];exact e2
   obtain⟨nm,bs,mro,ns,qn,hd,sn,sub,ab,col,hdel⟩:=cd;have e1:mro=.ref C'::bm:=e1;have q4:hdel=false:=q4;have a4:hd=true:=a4;subst q1 q2 q3 q4 q5 e1 a4;exact⟨nm,qn,ns,bs,bm,sn,sub,ab,col,dd,k0,k1,k2,k3,k5,hl,a5⟩
  .cases h1
 .cases h1
theorem Rj{x:Str}{fs:List Str}(hb:Hw K x fs=true):OexC K (He.ga K x)/\PySem.W.findIn K (.ref (He.ga K x)) "__init__"=some (some (.ref (He.ma K (He.ga K x) "__init__")))/\PySem.W.typeIn K (.ref (He.ma K (He.ga K x) "__init__"))=some (.type "function")/\XfC K (He.ga K x)/\∀f∈fs,PySem.W.findIn K (.ref (He.ga K x)) f=some none:=by obtain⟨h1,h2⟩:=He.ba hb;obtain⟨h2,h3⟩:=He.ba h2;obtain⟨h3,h4⟩:=He.ba h3;obtain⟨h4,h5⟩:=He.ba h4;exact⟨Q8 h1,He.eqO_ok h2,aen h3,xfB_ok h4,λf hf=>He.eqO_ok (ady.mp h5 f hf)⟩
end
section
variable{P:Program}{w:World}{K:ac8}{mg:Str->Option Value}{base:Heap}{k:Nat}{xs:List Str}{ft:Ft}
def zW(P:Program)(w:World)(K:ac8)(mg:Str->Option Value)(base:Heap)(aj:aC)(k:Nat)(m:Str):List (Str×MV)->Prop
 |[]=>True
 |(c,v)::r=>iH P w K mg base aj k c m v/\zW P w K mg base aj k m r
def nJ(P:Program)(w:World)(K:ac8)(mg:Str->Option Value)(base:Heap)(aj:aC)(k:Nat):List (Str×List (Str×MV))->Prop
 |[]=>True
 |(m,tb)::r=>zW P w K mg base aj k m tb/\nJ P w K mg base aj k r
theorem zW.get{aj:aC}{m:Str}:∀{tb:List (Str×MV)},zW P w K mg base aj k m tb->∀c v,tb.lookup c=some v->iH P w K mg base aj k c m v
 |[],_,c,v,h=>nomatch h
 |(y,u)::r,g,c,v,h=>by
  rw[adE]at h;split at h
  .next e=>
   cases h;rw[aev e];exact g.1
  .exact g.2.get c v h
theorem nJ.get{aj:aC}:∀{Ms:List (Str×List (Str×MV))},nJ P w K mg base aj k Ms->∀m tb,Ms.lookup m=some tb->∀c v,tb.lookup c=some v->iH P w K mg base aj k c m v
 |[],_,m,tb,h=>nomatch h
 |(y,u)::r,g,m,tb,h=>by
  rw[adE]at h;split at h
  .next e=>
   cases h;rw[aev e];exact g.1.get
  .exact g.2.get m tb h
theorem Zz{aj:aC}{x:Str}{f:Addr}{fd:FuncData}{ps:List Str}{j:Nat}{m:Mo->List Dat->aN Dat}(hj:j<=k)(hg:mg x=some (.ref f))(hk:PySem.W.keepIn K (.ref f)=true)(hB:Binds K fd ps [])(F:FnOk P w K mg base (L2.CX P w) j f fd ps (qd K aj ps.length m)):bW P w K mg base aj k x (.fg ps.length m):=
 ⟨f,hg,hk,fd,ps,j,hj,rfl,hB,F⟩
theorem Jm{x:Str}(hn:xs.contains x=true)(hg:mg x=some (.ref (He.ga K x)))(he:(He.Fa.exc x).ok K=true):bW P w K mg base (eX w K xs ft) k x .exc:=by obtain⟨h1,h2,h3,h4⟩:=He.exc_ok he;exact⟨_,hg,oG hn,h1,h2,h3,h4⟩
theorem Wv{x:Str}{fd:FuncData}{ps:List Str}{j n:Nat}{m:Mo->List Dat->aN Dat}(hj:j+1<=k)(hn:xs.contains x=true)(hg:mg x=some (.ref (He.ga K x)))(hc:Cls K (He.ga K x))(hm:(He.Fa.mkr x).ok K=true)(hp:ps.length=n+1)(hB:Binds K fd ps [])
  (F:FnOk P w K mg base (L2.CX P w) j (He.ma K (He.ga K x) "__init__") fd ps (qd K (eX w K xs ft) ps.length m)):bW P w K mg base (eX w K xs ft) k x (.cls n m):=
 ⟨_,_,fd,ps,j,hg,oG hn,hc,He.mkr_ok hm,hj,hp,hB,F⟩
theorem Oz{m:Str}{l:List Str}(hf:l.contains m=false)(z:m∈l):False:=by rw[List.contains_iff_mem.mpr z]at hf;cases hf
theorem Zf{c m:Str}{fd:FuncData}{ps:List Str}{j:Nat}{mm:Mo->List Dat->Out Dat}(hj:j<=k)(hn:xs.contains c=true)(hc:Cls K (He.ga K c))(hm:(He.Fa.meth c m).ok K=true)(hf:((ft.lookup c).getD []).contains m=false)(hB:Binds K fd ps [])(F:FnOk P w K mg base (L2.CX P w) j (He.ma K (He.ga K c) m) fd ps (yL K (eX w K xs ft) ps.length mm)):iH P w K mg base (eX w K xs ft) k c m (.q ps.length mm):=
 ⟨_,_,oG hn,hc,He.meth_ok hm,(λz=>Oz hf z),fd,ps,j,hj,rfl,hB,F⟩
theorem ZJ{c m:Str}{fd:FuncData}{ps:List Str}{j:Nat}{mm:Mo->List Dat->aN Dat}(hj:j<=k)(hn:xs.contains c=true)(hc:Cls K (He.ga K c))(hm:(He.Fa.meth c m).ok K=true)(hf:((ft.lookup c).getD []).contains m=false)(hB:Binds K fd ps [])(F:FnOk P w K mg base (L2.CX P w) j (He.ma K (He.ga K c) m) fd ps (qd K (eX w K xs ft) ps.length mm)):iH P w K mg base (eX w K xs ft) k c m (.g ps.length mm):=
 ⟨_,_,oG hn,hc,He.meth_ok hm,(λz=>Oz hf z),fd,ps,j,hj,rfl,hB,F⟩
theorem Xd{Ms:List (Str×List (Str×MV))}{xm:List (Str×List (Str×Bool))}{df:List (Str×Bool)}{xf:List (Str×List Str)}(hm:nJ P w K mg base (eX w K xs ft) k Ms)(hb:qX K ft=true)(hx:Uh K xm=true)(hn:Yy xs xm=true)(hf:(xf.all λp=>xs.contains p.1&&Hw K p.1 p.2)=true):xK P w K mg base (eX w K xs ft) k ⟨Ms,ft,xm,df,xf⟩ where
 ms:=hm.get
 fk:=KJ
 co:=Kv hb
 hw:=rfl
 xm:=XF hx hn
 xf:=λy fs hl=>by
  obtain⟨h1,h2⟩:=He.ba (ady.mp hf _ (gW hl));obtain⟨_,_,_,h3,h4⟩:=Rj h2;exact⟨_,oG h1,h3,h4⟩
end
abbrev lI(l:List Int):Dat:=.list (l.map PyData.int)
abbrev aM(l:List Int):Dat:=.tuple (l.map PyData.int)
theorem gJ{tg:bR}{body:SF}{d:Dat}{ds:List Dat}{M M2:Mo}{Z Z1 Z2:Env}(h1:tg d Z=some Z1)(h2:body M Z1=.next Z2 M2):dI tg body (d::ds) M Z=dI tg body ds M2 Z2:=by
 rw[dI,h1]
 show(match body M Z1 with
   |.next Z2 M2=>dI tg body ds M2 Z2
   |.cont Z2 M2=>dI tg body ds M2 Z2
   |.brk Z2 M2=>.next Z2 M2
   |.ret d M2=>.ret d M2
   |.exc x Z2 M2=>.exc x Z2 M2
   |.bad=>.bad)=_
 rw[h2]
theorem fG{α:Type}{tg:bR}{tt:QT}{te:QF}{M:Mo}{Z:Env}(ds:α->Dat)(p:α->Bool)(f:α->Dat):∀(xs:List α),(∀x∈xs,∃Z1,tg (ds x) Z=some Z1/\tt M Z1=.ok (p x)/\(p x=true->te M Z1=.ok (f x)))->bA tg tt te M Z (xs.map ds)=.ok ((xs.filter p).map f)
 |[],_=>rfl
 |x::xs,h=>by
  obtain⟨Z1,h1,h2,h3⟩:=h x adg;have ih:=fG ds p f xs λy hy=>h y (adf _ hy);rw[ada,bA,h1]
  show((kW (tt M Z1)).bind λb=>if b=true then(kW (te M Z1)).bind λy=>(bA tg tt te M Z (xs.map ds)).bind λr=>.ok (y::r) else bA tg tt te M Z (xs.map ds))=_
  rw[h2,ih];cases hp:p x with
  |true=>
   show(if true=true then(kW (te M Z1)).bind λy=>(Out.ok ((xs.filter p).map f)).bind λr=>.ok (y::r) else Out.ok ((xs.filter p).map f))=_
   rw[h3 hp,aer rfl,List.filter_cons_of_pos hp];rfl
  |false=>
   show(if false=true then(kW (te M Z1)).bind λy=>(Out.ok ((xs.filter p).map f)).bind λr=>.ok (y::r) else Out.ok ((xs.filter p).map f))=_
   rw[aes (by decide),List.filter_cons_of_neg (by rw[hp];decide)]
theorem rC{α:Type}{tg:bR}{te:QF}{M:Mo}{Z:Env}(ds:α->Dat)(f:α->Dat)(xs:List α)(h:∀x∈xs,∃Z1,tg (ds x) Z=some Z1/\te M Z1=.ok (f x)):bA tg lg te M Z (xs.map ds)=.ok (xs.map f):=by
 have:=fG (tt:=lg) ds (λ_=>true) f xs λx hx=>by
  obtain⟨Z1,h1,h2⟩:=h x hx;exact⟨Z1,h1,rfl,λ_=>h2⟩
 rw[this,ad6.mpr (λ_ _=>rfl)]
theorem Yl{i j:Int}(h : -(2^64)<i/\i<2^64):decide (CMul i j)=true:=decide_eq_true (.inl h)
theorem mul_r{i j:Int}(h : -(2^64)<j/\j<2^64):decide (CMul i j)=true:=decide_eq_true (.inr h)
section
variable(M:Mo)(Z:Env)
@[simp]theorem R5 (f k:SF):aK f k M Z=match f M Z with
 |.next Z' M'=>k M' Z'
 |o=>o:=rfl
@[simp]theorem aaw:bf M Z=.next Z M:=rfl
@[simp]theorem abC (tg:bR) (f:GF):aV tg f M Z=(f M Z).then Z λd M'=>match tg d Z with
 |some Z'=>.next Z' M'
 |none=>.bad:=rfl
@[simp]theorem aaK (i j:Nat) (f:GF):G4 i j f M Z=(f M Z).then Z λd M'=>.next ((Z.set i (some (.dat d))).set j (some (.dat d))) M':=rfl
@[simp]theorem ev_if (t:QT) (f k:SF):cC t f k M Z=((t M (gj Z)).at M).then Z λc M'=>if c=true then f M' Z else k M' Z:=rfl
@[simp]theorem abo (f:QF):bx f M Z=((f M (gj Z)).at M).then Z λd M'=>.ret d M':=rfl
@[simp]theorem acA (it:IF) (tg:bR) (body:SF):lW it tg body M Z=((it M Z).at M).then Z λds M'=>dI tg body ds M' Z:=rfl
@[simp]theorem ab3 (j:Nat) (f:IF):jm j f M Z=((f M Z).at M).then Z λxs M'=>.next (Z.set j (some (.mut xs))) M':=rfl
@[simp]theorem aaM (f:GF):rQ f M Z=(f M Z).then Z λ_ M'=>.next Z M':=rfl
@[simp]theorem acn (j:Nat) (f:QF):nu j f M Z=match Z[j]? with
 |some (some (.mut xs))=>((f M Z).at M).then Z λd M'=>if xs.length<100000 then .next (Z.set j (some (.mut (xs++[d])))) M' else .bad
 |_=>.bad:=rfl
@[simp]theorem Z6 (j:Nat) (fi f:QF):XR j fi f M Z=match Z[j]? with
 |some (some (.mut xs))=>((f M Z).at M).then Z λd M'=>((fi M' Z).at M').then Z λi M2=>match i with
  |.int k=>match ixN xs.length k with
   |some n=>.next (Z.set j (some (.mut (xs.set n d)))) M2
   |none=>.bad
  |_=>.bad
 |_=>.bad:=rfl
@[simp]theorem abu (j:Nat) (f:QF):Ho j f M Z=match Z[j]? with
 |some (some (.dat (.int i)))=>((f M Z).at M).then Z λd M'=>match d with
  |.int k=>.next (Z.set j (some (.dat (.int (i+k))))) M'
  |_=>.bad
 |_=>.bad:=rfl
@[simp]theorem aad (i j:Nat) (f:GF):Hr i j f M Z=(f M Z).then Z λd M'=>match d with
 |.list (d0::ds)=>if ds.length<=16000 then .next ((Z.set i (some (.dat d0))).set j (some (.dat (.list ds)))) M' else .bad
 |.tuple (d0::ds)=>if ds.length<=16000 then .next ((Z.set i (some (.dat d0))).set j (some (.dat (.list ds)))) M' else .bad
 |_=>.bad:=rfl
@[simp]theorem acO (js:List Nat) (as:QA):Oc js as M Z=((as M Z).at M).then Z λds M'=>match fU js ds Z with
 |some Z'=>.next Z' M'
 |none=>.bad:=rfl
@[simp]theorem abS (vs:List Nat) (j:Nat) (f:GF):lY vs j f M Z=if jL M=true then(match f M (kY vs Z) with
 |.ok d M'=>if jL M'=true then Bg j vs Z M' d else .bad
 |.exc x M'=>if (jL M'&&Kr x)=true then .exc x Z M' else .bad
 |.bad=>.bad) else .bad:=rfl
@[simp]theorem aa3 (j:Nat) (vs:List Nat) (ds:List Dat):Bg j vs Z M (.list ds)=if (dJ ds&&rM j vs Z ds)=true then .next (Z.set j (some (.mut ds))) M else .bad:=rfl
@[simp]theorem ZW (j:Nat) (vs:List Nat) (x:Str):Bg j vs Z M (.str x)=.next (Z.set j (some (.dat (.str x)))) M:=rfl
@[simp]theorem aax (vs:List Nat) (f:QF):vP vs f M Z=if jL M=true then(match f M (kY vs Z) with
 |.ok (.list ds)=>if rM Z.length vs Z ds=true then .next Z M else .bad
 |.exc x=>if Kr x=true then .exc x Z M else .bad
 |_=>.bad) else .bad:=rfl
@[simp]theorem ZX (f:GF):oZ f M Z=(f M Z).bind λd M1=>(jw d).at M1:=rfl
@[simp]theorem aa2 (j:Nat) (ds:List Dat):rM j [] Z ds=true:=rfl
@[simp]theorem aaA (j i:Nat) (vs:List Nat) (ds:List Dat):rM j (i::vs) Z ds=((match Z[i]? with
 |some (some (.mut es))=>i==j || Ak es ds
 |_=>true)&&rM j vs Z ds):=rfl
@[simp]theorem aas (b:Bool) (d:Dat):zu b (.dat d)=if lf d=true then some (.dat d) else none:=rfl
@[simp]theorem aac (b:Bool) (ds:List Dat):zu b (.mut ds)=if (b&&dJ ds)=true then some (.dat (.list ds)) else none:=rfl
def CQ(vs:List Nat):Nat->Env->Env
 |_,[]=>[]
 |i,o::Z=>o.bind (zu (vs.contains i))::CQ vs (i+1) Z
theorem Jg(vs:List Nat):∀(Z:Env) (i:Nat),CQ vs i Z=Z.mapIdx λk o=>o.bind (zu (vs.contains (i+k)))
 |[],_=>rfl
 |o::Z,i=>by
  rw[CQ,Jg vs Z,List.mapIdx_cons];congr 1;apply List.ext_getElem?;intro k;simp[Nat.add_assoc,Nat.add_comm 1 k]
@[simp]theorem acf (vs:List Nat):kY vs Z=CQ vs 0 Z:=by rw[Jg];simp[kY]
@[simp]theorem aak (vs:List Nat) (i:Nat):CQ vs i []=[]:=rfl
@[simp]theorem aal (vs:List Nat) (i:Nat) (o:Option Cell):CQ vs i (o::Z)=o.bind (zu (vs.contains i))::CQ vs (i+1) Z:=rfl
@[simp]theorem U6 (i:Int):lf (.int i)=true:=by rw[lf]
@[simp]theorem acv (i:Str):lf (.str i)=true:=by rw[lf]
@[simp]theorem Rc (i:Bool):lf (.bool i)=true:=by rw[lf]
@[simp]theorem aaz:lf .none=true:=by rw[lf]
@[simp]theorem aau (k:List (Dat×Dat)):lf (.dict k)=true:=by rw[lf]
@[simp]theorem aa6 (ds:List Dat):lf (.list ds)=false:=by rw[lf]
@[simp]theorem acg (ds:List Dat):lf (.tuple ds)=dJ ds:=by rw[lf]
@[simp]theorem aap:dJ []=true:=by rw[dJ]
@[simp]theorem ZG (d:Dat) (ds:List Dat):dJ (d::ds)=(lf d&&dJ ds):=by rw[dJ]
theorem lN:∀{ds:List Dat},dJ ds=true↔∀d∈ds,lf d=true
 |[]=>by simp
 |d::ds=>by simp[lN (ds:=ds)]
@[simp]theorem Zw (l:List Int):dJ (l.map PyData.int)=true:=lN.mpr λd h=>by
 obtain⟨i,_,rfl⟩:=ado.mp h;exact U6 i
@[simp]theorem abE (o:Dat->Dat->Out Dat) (f:GF) (k:QF):CV o f k M Z=(f M Z).bind λx M1=>((k M1 Z).at M1).bind λy M2=>(o x y).at M2:=rfl
@[simp]theorem acH (neg:Bool) (d:Dat) (f:GF):Cj neg d f M Z=(f M Z).bind λx M1=>.ok (.bool (neg ^^ gq d x)) M1:=rfl
@[simp]theorem acq (f:QF):gOf f M Z=(f M Z).at M:=rfl
@[simp]theorem ev_op (o:Dat->Dat->Out Dat) (a b:QF):aA o a b M Z=(a M Z).bind λx=>(b M Z).bind λy=>o x y:=rfl
@[simp]theorem ev_un (o:Dat->Out Dat) (a:QF):fD o a M Z=(a M Z).bind o:=rfl
@[simp]theorem ev_c (d:Dat):qC d M Z=.ok d:=rfl
@[simp]theorem ev_var (i:Nat):aq i M Z=match Z[i]? with
 |some (some (.dat d))=>.ok d
 |_=>.bad:=rfl
@[simp]theorem Z9 (i:Nat):ak i M Z=match Z[i]? with
 |some (some (.dat d))=>.ok d
 |some (some (.mut xs))=>.ok (.list xs)
 |_=>.bad:=rfl
@[simp]theorem abF:aH M Z=.ok []:=rfl
@[simp]theorem aao (a:QF) (r:QA):ao a r M Z=(a M Z).bind λx=>(r M Z).bind λxs=>.ok (x::xs):=rfl
@[simp]theorem acz (r:QA):dh r M Z=(r M Z).bind λxs=>Out.when (decide (xs.length<=100000)) (.ok (.tuple xs)):=rfl
@[simp]theorem abG (r:QA):ig r M Z=(r M Z).bind λxs=>Out.when (decide (xs.length<=100000)) (.ok (.list xs)):=rfl
@[simp]theorem abA (a:QF):eZ a M Z=(a M Z).bind pG:=rfl
@[simp]theorem acW (a:QF):aY a M Z=(a M Z).bind jw:=rfl
@[simp]theorem aag (a:QT):d9 a M Z=(a M Z).bind λb=>.ok (!b):=rfl
@[simp]theorem aaN (a b:QT):iy a b M Z=(a M Z).bind λx=>if x=true then b M Z else .ok false:=rfl
@[simp]theorem ab1 (a b:QT):jf a b M Z=(a M Z).bind λx=>if x=true then .ok true else b M Z:=rfl
@[simp]theorem ac0 (a:QT):N7 a M Z=(a M Z).bind λb=>.ok (.bool b):=rfl
@[simp]theorem abw (t:QT) (a b:QF):Bo t a b M Z=(t M Z).bind λx=>if x=true then a M Z else b M Z:=rfl
@[simp]theorem ev_is (neg:Bool) (c:Dat) (a:QF):qp neg c a M Z=(a M Z).bind λd=>.ok (.bool (neg ^^ gq c d)):=rfl
@[simp]theorem ev_notV (a:QF):zQ a M Z=((a M Z).bind jw).bind λb=>.ok (.bool (!b)):=by
 show(((a M Z).bind jw).bind λb=>Out.ok (!b)).bind (λb=>Out.ok (PyData.bool b))=_
 cases a M Z with
 |ok d=>cases h:jw d<;>simp[Out.bind,h]
 |exc x=>rfl
 |bad=>rfl
@[simp]theorem ev_andV (a b:QF):tZ a b M Z=(a M Z).bind λd=>(jw d).bind λx=>if x=true then b M Z else .ok (.bool false):=rfl
@[simp]theorem ev_orV (a b:QF):Np a b M Z=(a M Z).bind λd=>(jw d).bind λx=>if x=true then .ok (.bool true) else b M Z:=rfl
@[simp]theorem Ze (o o':Dat->Dat->Out Dat) (a b c:QF):oA o o' a b c M Z=(a M Z).bind λx=>(b M Z).bind λy=>(o x y).bind λz=>(jw z).bind λk=>if k=true then(c M Z).bind λw=>(o' y w).bind jw else .ok false:=rfl
@[simp]theorem aa8 (t:qZ) (a:QF):kJ t a M Z=(a M Z).bind (nM t):=rfl
@[simp]theorem acK (a:QF) (lo hi:QO):yK a lo hi M Z=(a M Z).bind λd=>(lo M Z).bind λl=>(hi M Z).bind λh=>FW d l h:=rfl
@[simp]theorem ac5:wu M Z=.ok none:=rfl
@[simp]theorem acN (a:QF):fQ a M Z=(a M Z).bind λd=>(j7 d).bind λi=>.ok (some i):=rfl
@[simp]theorem ev_call (m:Mo->List Dat->Out Dat) (as:QA):bD m as M Z=(as M Z).bind λds=>m M ds:=rfl
@[simp]theorem Y9 (a:QF):cM a M Z=(a M Z).bind dZ:=rfl
@[simp]theorem YC (a:QF):oJ a M Z=(a M Z).bind λd=>(j7 d).bind λn=>Out.when (decide (n<=100000/\-100000<=n)) (.ok (iK 0 n.toNat)):=rfl
@[simp]theorem Z0 (k₀:Int) (a:QF):sS k₀ a M Z=(a M Z).bind λd=>(dZ d).bind λds=>.ok (rP k₀ ds):=rfl
@[simp]theorem abU (a b:QF):Bv a b M Z=(a M Z).bind λd=>(b M Z).bind λe=>(dZ d).bind λds=>(dZ e).bind λes=>.ok (j9 ds es):=rfl
@[simp]theorem aaV (it:IF) (tg:bR) (vs:List Nat) (tt:QT) (te:QF):d7 it tg vs tt te M Z=(it M Z).bind λds=>Out.when (decide (ds.length<=50000)) ((bA tg tt te M (aR Z vs) ds).bind λr=>.ok (.list r)):=rfl
@[simp]theorem ZD (it:IF) (tg:bR) (vs:List Nat) (tt:QT) (te:QF):jd it tg vs tt te M Z=(it M Z).bind λds=>Out.when (decide (ds.length<=50000)) (bA tg tt te M (aR Z vs) ds):=rfl
@[simp]theorem ab2 (f:QA):yQ f M Z=(f M Z).bind λxs=>Out.when (decide (xs.length<=100000)) (.ok xs):=rfl
@[simp]theorem WM (f:QF):Ma f M Z=(f M Z).bind zL:=rfl
@[simp]theorem YJ (j:Nat) (d:Dat):aG j d Z=some (Z.set j (some (.dat d))):=rfl
@[simp]theorem Zd (js:List Nat) (ds:List Dat):cA js (.tuple ds) Z=fU js ds Z:=rfl
@[simp]theorem acX (n:Nat) (b:SF) (ds:List Dat):mQ n b M ds=match b M (ini n ds) with
 |.ret d _=>.ok d
 |.next _ _=>.ok .none
 |.exc x _ _=>.exc x
 |_=>.bad:=rfl
@[simp]theorem ac4 (n:Nat) (b:SF) (ds:List Dat):mG n b M ds=match b M (ini n ds) with
 |.ret d M'=>.ok d M'
 |.next _ M'=>.ok .none M'
 |.exc x _ M'=>.exc x M'
 |_=>.bad:=rfl
end
section
variable(i j:Int)(ds es:List Dat)(b c:Bool)(x y:Str)
@[simp]theorem aaP:eO (.int i) (.int j)=.ok (.int (i+j)):=rfl
@[simp]theorem aaE:eO (.list ds) (.list es)=Out.when (decide (ds.length+es.length<=100000)) (.ok (.list (ds++es))):=rfl
@[simp]theorem aaR:eO (.tuple ds) (.tuple es)=Out.when (decide (ds.length+es.length<=100000)) (.ok (.tuple (ds++es))):=rfl
@[simp]theorem acJ:qU (.int i) (.int j)=.ok (.int (i-j)):=rfl
@[simp]theorem acB:uM (.int i) (.int j)=Out.when (decide (CMul i j)) (.ok (.int (i*j))):=rfl
@[simp]theorem acp:o9 (.int i) (.int j)=Out.when (decide (CDiv i j)) (.ok (.int (i/j))):=rfl
@[simp]theorem ab9:cH (.int i) (.int j)=Out.when (decide (0<j)) (.ok (.int (i%j))):=rfl
@[simp]theorem abO:uz (.int i) (.int j)=Out.when (decide (CPow i j)) (.ok (.int (i^j.toNat))):=rfl
@[simp]theorem acQ:zm (.int i) (.int j)=.ok (.bool (decide (i<j))):=rfl
@[simp]theorem acL:Ow (.int i) (.int j)=.ok (.bool (decide (i<=j))):=rfl
@[simp]theorem acV:Ky (.int i) (.int j)=.ok (.bool (decide (j<i))):=rfl
@[simp]theorem acS:JR (.int i) (.int j)=.ok (.bool (decide (j<=i))):=rfl
@[simp]theorem abM:cP (.int i) (.int j)=.ok (.bool (i==j)):=rfl
@[simp]theorem abm:cP (.str x) (.str y)=.ok (.bool (x==y)):=rfl
@[simp]theorem abK:cP (.bool b) (.bool c)=.ok (.bool (b==c)):=rfl
@[simp]theorem acw:eE (.int i) (.int j)=.ok (.bool (!(i==j))):=rfl
@[simp]theorem ab4:eE (.str x) (.str y)=.ok (.bool (!(x==y))):=rfl
@[simp]theorem abk:wN (.int i)=.ok (.int (-i)):=rfl
@[simp]theorem aaZ:pG (.bool b)=.ok b:=rfl
@[simp]theorem aay:pG (.list ds)=.ok (!ds.isEmpty):=rfl
@[simp]theorem Z8:pG (.tuple ds)=.ok (!ds.isEmpty):=rfl
@[simp]theorem abW:jw (.bool b)=.ok b:=rfl
@[simp]theorem aaU:pq (.list ds)=.ok (.int ds.length):=rfl
@[simp]theorem aah:pq (.tuple ds)=.ok (.int ds.length):=rfl
@[simp]theorem abX:Ay (.int i)=.ok (.int (if i<0 then -i else i)):=rfl
@[simp]theorem ev_max2:pC (.int i) (.int j)=.ok (.int (if j>i then j else i)):=rfl
@[simp]theorem aaG:vM (.int i) (.int j)=.ok (.int (if j<i then j else i)):=rfl
@[simp]theorem abl:bG (.list ds) (.int i)=match atI ds i with
  |some d=>.ok d
  |none=>.bad:=rfl
@[simp]theorem acC:bG (.tuple ds) (.int i)=match atI ds i with
  |some d=>.ok d
  |none=>.bad:=rfl
@[simp]theorem aaQ:j7 (.int i)=.ok i:=rfl
@[simp]theorem acE (lo hi:Option Int):FW (.list ds) lo hi=.ok (.list (cutD ds lo hi)):=rfl
@[simp]theorem ach (lo hi:Option Int):FW (.tuple ds) lo hi=.ok (.tuple (cutD ds lo hi)):=rfl
@[simp]theorem aaD:jo (.list ds)=.ok (.tuple ds):=rfl
@[simp]theorem aaT:jo (.tuple ds)=.ok (.tuple ds):=rfl
@[simp]theorem Zu:jP (.list ds)=.ok (.list ds):=rfl
@[simp]theorem YS:jP (.tuple ds)=.ok (.list ds):=rfl
@[simp]theorem acG:zL (.list ds)=.ok ds:=rfl
@[simp]theorem acr:zL (.tuple ds)=.ok ds:=rfl
@[simp]theorem abQ:dZ (.list ds)=.ok ds:=rfl
@[simp]theorem acD:dZ (.tuple ds)=.ok ds:=rfl
@[simp]theorem aai (o:Option Cell) (Z:Env):gj (o::Z)=o.map vh::gj Z:=rfl
@[simp]theorem YT:gj []=[]:=rfl
@[simp]theorem Zk (d:Dat):vh (.dat d)=.dat d:=rfl
@[simp]theorem Zh (ds:List Dat):vh (.mut ds)=.dat (.list ds):=rfl
@[simp]theorem aaW (Z:Env):fU [] [] Z=some Z:=rfl
@[simp]theorem aa7 (j:Nat) (js:List Nat) (d:Dat) (Z:Env):fU (j::js) (d::ds) Z=fU js ds (Z.set j (some (.dat d))):=rfl
@[simp]theorem Zr (Z:Env):aR Z []=Z:=rfl
@[simp]theorem YX (Z:Env) (j:Nat) (js:List Nat):aR Z (j::js)=(aR Z js).set j none:=rfl
@[simp]theorem YB {α:Type} (a:α) (l:List α):atI (a::l) 0=some a:=atI_nat (j:=0) rfl
@[simp]theorem aaJ (n:Nat):ini n ds=ds.map (λd=>some (.dat d))++List.replicate (n-ds.length) none:=rfl
end
theorem Eh{a b:String}:Str.ofString a=Str.ofString b↔a=b:=by
 constructor
 .intro h;rw[Str.ofString_eq_toList,Str.ofString_eq_toList]at h;have h1:a.toList.map Char.toNat=b.toList.map Char.toNat:=by simpa using h
  have h2:a.toList=b.toList:=by
   refine List.map_inj_right (f:=Char.toNat) (λx y e=>?_) |>.mp h1
   exact Char.ext (UInt32.toNat_inj.mp e)
  exact String.toList_inj.mp h2
 .rintro rfl;rfl
@[simp]theorem abZ (a b:String):(Str.ofString a=Str.ofString b)=(a=b):=propext Eh
@[simp]theorem aa4 (a b:String):(Str.ofString a==Str.ofString b)=decide (a=b):=by rw[ad7];simp[Eh]
@[simp]theorem acR {α:Type} (a b:α) (l:List α):atI (a::b::l) 1=some b:=atI_nat (j:=1) rfl
@[simp]theorem acY {α:Type} (a b c:α) (l:List α):atI (a::b::c::l) 2=some c:=atI_nat (j:=2) rfl
@[simp]theorem acU {α:Type} (a b c d:α) (l:List α):atI (a::b::c::d::l) 3=some d:=atI_nat (j:=3) rfl
@[simp]theorem ac1 {α:Type} (a b c d e:α) (l:List α):atI (a::b::c::d::e::l) 4=some e:=atI_nat (j:=4) rfl
@[simp]theorem ac6 {α:Type} (a b c d e f:α) (l:List α):atI (a::b::c::d::e::f::l) 5=some f:=atI_nat (j:=5) rfl
@[simp]theorem acP {α:Type} (a b c d e f g:α) (l:List α):atI (a::b::c::d::e::f::g::l) 6=some g:=atI_nat (j:=6) rfl
@[simp]theorem Zy (s:String):PyData.strOk (Str.ofString s)=true:=by
 rw[Str.ofString_eq_toList];unfold PyData.strOk;simp only[Array.all_eq_true,aem];intro i h;simp only[List.getElem_toArray,List.getElem_map];have:=s.toList[i]'(by simpa using h) |>.valid
 rcases this with z|⟨_,z⟩
 .show(s.toList[i]'(by simpa using h)).val.toNat<_
  omega
 .show(s.toList[i]'(by simpa using h)).val.toNat<_
  omega
section
variable(i j:Int)(x y:Str)(d e:Dat)(ds es:List Dat)(b c:Bool)
@[simp]theorem Cm:PyData.eqv (.int i) (.int j)=(i==j):=by simp[PyData.eqv]
@[simp]theorem abB:PyData.eqv (.str x) (.str y)=(x==y):=by simp[PyData.eqv]
@[simp]theorem abx:PyData.eqv (.bool b) (.bool c)=(b==c):=by simp[PyData.eqv]
@[simp]theorem acu:PyData.eqv .none .none=true:=by simp[PyData.eqv]
@[simp]theorem UW:PyData.eqv (.tuple ds) (.tuple es)=PyData.eqvAll ds es:=by simp[PyData.eqv]
@[simp]theorem Ks:PyData.eqv (.list ds) (.list es)=PyData.eqvAll ds es:=by simp[PyData.eqv]
@[simp]theorem abJ:PyData.eqv (.tuple ds) .none=false:=by simp[PyData.eqv]
@[simp]theorem abp:PyData.eqv .none (.tuple ds)=false:=by simp[PyData.eqv]
@[simp]theorem abb:PyData.eqv (.str x) (.int i)=false:=by simp[PyData.eqv]
@[simp]theorem acy:PyData.eqv (.int i) (.str x)=false:=by simp[PyData.eqv]
@[simp]theorem Fp:PyData.eqvAll [] []=true:=by simp[PyData.eqvAll]
@[simp]theorem aaq:PyData.eqvAll [] (d::ds)=false:=by simp[PyData.eqvAll]
@[simp]theorem QS:PyData.eqvAll (d::ds) []=false:=by simp[PyData.eqvAll]
@[simp]theorem Fd:PyData.eqvAll (d::ds) (e::es)=(PyData.eqv d e&&PyData.eqvAll ds es):=by simp[PyData.eqvAll]
end
@[simp]theorem uh:∀l m:List Int,PyData.eqvAll (l.map PyData.int) (m.map PyData.int)=decide (l=m)
 |[],[]=>by simp
 |[],_::_=>by simp
 |_::_,[]=>by simp
 |a::l,b::m=>by
  rw[ada,ada,Fd,uh l m,Cm];by_cases h:a=b<;>by_cases h2:l=m<;>simp[h,h2]
theorem jE{n:Nat}:∀{ds:List Dat},bQ n ds=true↔∀d∈ds,okd n d=true
 |[]=>by simp[bQ]
 |d::ds=>by simp[bQ,jE (ds:=ds)]
@[simp]theorem Rv (n:Nat) (i:Int):okd n (.int i)=true:=by simp[okd]
@[simp]theorem Kf (n:Nat) (l:List Int):bQ n (l.map PyData.int)=true:=jE.mpr λd h=>by
 obtain⟨i,_,rfl⟩:=ado.mp h;simp
theorem M4{n:Nat}{d:Dat}(h:okd n d=true):PyData.eqv d d=true:=PySem.SeqAt.eqv_refl d (tL n d h).1
def ob(h:Nat):Dat:=obj h
section
variable(M:Mo)(Z:Env)(h:Nat)(f:Str)
@[simp]theorem aan:qK M f (ob h)=(M[h]?).bind λi=>i.fs.lookup f:=rfl
@[simp]theorem Zj (tb:List (Str×MV)):mJ tb M (ob h)=(M[h]?).bind λi=>tb.lookup i.cls:=rfl
@[simp]theorem Aj:cV M (ob h)=(M[h]?).bind λi=>match i.cls=="" with
 |true=>none
 |false=>some (h,i):=rfl
@[simp]theorem aco (o:QF):KQ f o M Z=(o M Z).bind λd=>match qK M f d with
 |some (.dat x)=>.ok x
 |_=>.bad:=rfl
@[simp]theorem aaH (o:QF):Ht f o M Z=(o M Z).bind λd=>match qK M f d with
 |some (.dat x)=>.ok x
 |some (.lst _ xs)=>.ok (.list xs)
 |_=>.bad:=rfl
@[simp]theorem aaF (tb:List (Str×MV)) (o:QF) (as:QA):bZ tb o as M Z=(o M Z).bind λd=>match mJ tb M d with
 |some (.q _ m)=>(as M Z).bind λds=>m M (d::ds)
 |_=>.bad:=rfl
@[simp]theorem Za (tb:List (Str×MV)) (o:QF) (as:QA):lF tb o as M Z=((o M Z).at M).bind λd _=>match mJ tb M d with
 |some (.q _ m)=>((as M Z).at M).bind λds _=>(m M (d::ds)).at M
 |some (.g _ m)=>((as M Z).at M).bind λds _=>m M (d::ds)
 |none=>.bad:=rfl
@[simp]theorem aat (x:Str) (m:Mo->List Dat->aN Dat) (as:QA):qJ x m as M Z=((as M Z).at M).bind λds _=>match m (M++[⟨x,[]⟩]) (ob M.length::ds) with
 |.ok .none M'=>.ok (ob M.length) M'
 |_=>.bad:=rfl
@[simp]theorem ZL (m:Mo->List Dat->aN Dat) (as:QA):pO m as M Z=((as M Z).at M).bind λds _=>m M ds:=rfl
@[simp]theorem Yz (m:Mo->List Dat->aN Dat) (as:GA):T8 m as M Z=(as M Z).bind λds M1=>m M1 ds:=rfl
@[simp]theorem YL (m:Mo->List Dat->Out Dat) (as:GA):Ug m as M Z=(as M Z).bind λds M1=>(m M1 ds).at M1:=rfl
@[simp]theorem Yw (a:GF) (r:GA):Ur a r M Z=(a M Z).bind λd M1=>(r M1 Z).bind λds M2=>.ok (d::ds) M2:=rfl
@[simp]theorem aaS (t:QT):Ln t M Z=(t M Z).at M:=rfl
@[simp]theorem Zx (a:GT):Hq a M Z=(a M Z).bind λb M1=>.ok (!b) M1:=rfl
@[simp]theorem ZC (a b:GT):HS a b M Z=(a M Z).bind λx M1=>if x=true then b M1 Z else .ok false M1:=rfl
@[simp]theorem aae (a b:GT):LR a b M Z=(a M Z).bind λx M1=>if x=true then .ok true M1 else b M1 Z:=rfl
@[simp]theorem YQ (a:GF):Hz a M Z=(a M Z).bind λd M1=>(pG d).at M1:=rfl
@[simp]theorem Y0 (x:Str):qW x M Z=.exc ⟨x,[]⟩ Z M:=rfl
@[simp]theorem YG (x:Str) (fs:List Str) (as:QA):tK x fs as M Z=((as M Z).at M).then Z λds M'=>.exc ⟨x,(fs.zip ds).reverse⟩ Z M':=rfl
@[simp]theorem abY (b:SF) (hs:List Hd):wW b hs M Z=match b M Z with
 |.exc x Z' M'=>hdl hs x Z' M'
 |o=>o:=rfl
@[simp]theorem aa1 (x:bJ):hdl [] x Z M=.exc x Z M:=rfl
@[simp]theorem aaj (h:Hd) (r:List Hd) (x:bJ):hdl (h::r) x Z M=match h.tk x.cls with
  |some true=>match Hf Z h.nm with
   |true=>match jM h.y x h.st (wJ Z h.nm) with
    |some Z2=>.next (wJ Z2 h.nm) M
    |none=>.bad
   |false=>.bad
  |some false=>hdl r x Z M
  |none=>.bad:=rfl
@[simp]theorem aaf:wJ Z none=Z:=rfl
@[simp]theorem aaX (i:Nat):wJ Z (some i)=Z.set i none:=rfl
@[simp]theorem ZP:Hf Z none=true:=rfl
@[simp]theorem ZK (i:Nat):Hf Z (some i)=decide (i<Z.length):=rfl
@[simp]theorem acF (y:Str) (x:bJ):jM y x [] Z=some Z:=rfl
@[simp]theorem acs (y:Str) (x:bJ) (j:Nat) (e:mH) (r:List (Nat×mH)):jM y x ((j,e)::r) Z=(uK y x e).bind λd=>jM y x r (Z.set j (some (.dat d))):=rfl
@[simp]theorem acI (y:Str) (x:bJ) (d:Dat):uK y x (.con d)=some d:=rfl
@[simp]theorem aaB (g:GF):Gi g M Z=(g M Z).then Z λd M'=>.ret d M':=rfl
@[simp]theorem ab8 (t:GT) (f k:SF):uJ t f k M Z=(t M Z).then Z λc M'=>if c=true then f M' Z else k M' Z:=rfl
@[simp]theorem YF (a b:QF):wU a b M Z=(a M Z).bind λd=>(b M Z).bind λe=>(j7 d).bind λlo=>(j7 e).bind λn=>Out.when (decide (n<=100000/\-100000<=n/\lo<=100000/\-100000<=lo)) (.ok (iK lo (n-lo).toNat)):=rfl
@[simp]theorem Z7 (ft:Ft) (o:QF) (e:GF):Gx ft o f e M Z=(e M Z).then Z λd M1=>((o M1 Z).at M1).then Z λod M2=>match cV M2 od with
 |some (h,i)=>match ft.has i.cls f&&decide (i.fs.length<100) with
  |true=>.next Z (M2.set h (i.put f (.dat d)))
  |false=>.bad
 |none=>.bad:=rfl
@[simp]theorem Z4 (ft:Ft) (o:QF) (e:IF):zY ft o f e M Z=((e M Z).at M).then Z λxs M0=>((o (M0++[⟨"",[]⟩]) Z).at (M0++[⟨"",[]⟩])).then Z λod M2=>match cV M2 od with
 |some (h,i)=>match ft.has i.cls f&&decide (i.fs.length<100) with
  |true=>.next Z (M2.set h (i.put f (.lst M0.length xs)))
  |false=>.bad
 |none=>.bad:=rfl
@[simp]theorem aaC (ft:Ft) (o:QF) (b:Bool):vR ft o f b M Z=((o (M++[⟨"",[]⟩]) Z).at (M++[⟨"",[]⟩])).then Z λod M2=>match cV M2 od with
 |some (h,i)=>match ft.has i.cls f&&decide (i.fs.length<100) with
  |true=>.next Z (M2.set h (i.put f (.dic b [])))
  |false=>.bad
 |none=>.bad:=rfl
@[simp]theorem aa5 (ft:Ft) (o:QF) (e:Mo->Env->Out (List (Dat×Dat))):u9 ft o f e M Z=((e M Z).at M).then Z λkvs _=>((o (M++[⟨"",[]⟩]) Z).at (M++[⟨"",[]⟩])).then Z λod M2=>match cV M2 od with
 |some (h,i)=>match ft.has i.cls f&&decide (i.fs.length<100) with
  |true=>.next Z (M2.set h (i.put f (.dic true kvs)))
  |false=>.bad
 |none=>.bad:=rfl
@[simp]theorem aa0 (o:QF) (e:GF):zR f o e M Z=((o M Z).at M).then Z λod M0=>match nH M0 f od with
 |some (_,_,n,_)=>(e M0 Z).then Z λd M1=>match nH M1 f od with
  |some (h,i,n',xs)=>match n==n'&&decide (xs.length<100000) with
   |true=>.next Z (M1.set h (i.put f (.lst n (xs++[d]))))
   |false=>.bad
  |none=>.bad
 |none=>.bad:=rfl
@[simp]theorem Z5 (o fi e:QF):zP f o fi e M Z=((e M Z).at M).then Z λd _=>((o M Z).at M).then Z λod _=>match nH M f od with
 |some (h,i,n,xs)=>((fi M Z).at M).then Z λk _=>match k with
  |.int k=>match ixN xs.length k with
   |some j=>.next Z (M.set h (i.put f (.lst n (xs.set j d))))
   |none=>.bad
  |_=>.bad
 |none=>.bad:=rfl
@[simp]theorem ZV (ft:Ft) (o e:QF):zJ ft f o e M Z=((o M Z).at M).then Z λod _=>match cV M od with
 |some (h,i)=>match i.fs.lookup f,ft.has i.cls f&&decide (i.fs.length<100) with
  |some (.dat (.int a)),true=>((e M Z).at M).then Z λd _=>match d with
   |.int b=>.next Z (M.set h (i.put f (.dat (.int (a+b)))))
   |_=>.bad
  |_,_=>.bad
 |none=>.bad:=rfl
theorem QH(d:Dat):nH M f d=(cV M d).bind λp=>match p.2.fs.lookup f with
 |some (.lst n xs)=>some (p.1,p.2,n,xs)
 |_=>none:=rfl
@[simp]theorem aaI:nH M f (ob h)=(M[h]?).bind λi=>match i.cls=="" with
 |true=>none
 |false=>match i.fs.lookup f with
  |some (.lst n xs)=>some (h,i,n,xs)
  |_=>none:=by
 rw[QH,Aj];cases M[h]? with
 |none=>rfl
 |some i=>
  show(match i.cls=="" with
   |true=>none
   |false=>some (h,i)).bind _=(match i.cls=="" with
   |true=>none
   |false=>_)
  cases i.cls==""<;>rfl
@[simp]theorem aam (i:Inst) (x:bV):i.put f x=⟨i.cls,putL f x i.fs⟩:=rfl
@[simp]theorem acT (x:bV):putL f x []=[(f,x)]:=rfl
@[simp]theorem ac2 (x y:bV) (g:Str) (r:List (Str×bV)):putL f x ((g,y)::r)=if g=f then(g,x)::r else(g,y)::putL f x r:=rfl
@[simp]theorem aaY (ft:Ft) (c:Str):Ft.has ft c f=match ft.lookup c with
 |some fs=>fs.contains f
 |none=>false:=rfl
@[simp]theorem aav:jK M f (ob h)=(M[h]?).bind λi=>match i.cls=="" with
 |true=>none
 |false=>match i.fs.lookup f with
  |some (.dic b kvs)=>some (h,i,b,kvs)
  |_=>none:=by
 show(cV M (ob h)).bind _=_
 rw[Aj];cases M[h]? with
 |none=>rfl
 |some i=>
  show(match i.cls=="" with
   |true=>none
   |false=>some (h,i)).bind _=(match i.cls=="" with
   |true=>none
   |false=>_)
  cases i.cls==""<;>rfl
@[simp]theorem ab0 (neg:Bool) (k o:QF):yd neg f k o M Z=(k M Z).bind λd=>(o M Z).bind λod=>match jK M f od with
 |some (_,_,b,kvs)=>(dhas b kvs d).bind λr=>.ok (.bool (neg ^^ r))
 |none=>.bad:=rfl
@[simp]theorem aaL (o k e:QF):vA f o k e M Z=((e M Z).at M).then Z λv _=>((o M Z).at M).then Z λod _=>match jK M f od with
 |some (h,i,b,kvs)=>((k M Z).at M).then Z λd _=>match dhas b kvs d,decide (kvs.length<100000) with
  |.ok false,true=>.next Z (M.set h (i.put f (.dic b (kvs++[(d,v)]))))
  |_,_=>.bad
 |none=>.bad:=rfl
@[simp]theorem aaO (o k:QF):wD f o k M Z=((o M Z).at M).then Z λod _=>match jK M f od with
 |some (h,i,b,kvs)=>((k M Z).at M).then Z λd _=>match dhas b kvs d,decide (kvs.length<=100000) with
  |.ok true,true=>.next Z (M.set h (i.put f (.dic b (kvs.filter λp=>!PyData.eqv p.1 d))))
  |_,_=>.bad
 |none=>.bad:=rfl
@[simp]theorem ZS (o:QF):lZ f o M Z=(o M Z).bind λod=>match jK M f od with
 |some (_,_,true,kvs)=>.ok (kvs.map (·.1))
 |_=>.bad:=rfl
@[simp]theorem Zq (o:QF):oU f o M Z=(o M Z).bind λod=>match jK M f od with
 |some (_,_,_,kvs)=>.ok (.list (kvs.map (·.1)))
 |none=>.bad:=rfl
@[simp]theorem ac3 (it:IF) (tg:bR) (vs:List Nat) (tk:QF):O4 it tg vs tk M Z=(it M Z).bind λds=>Out.when (decide (ds.length<=50000)) (mU tg tk M (aR Z vs) ds []):=rfl
@[simp]theorem Zt (kvs:List (Dat×Dat)) (i:Int):dhas false kvs (.int i)=.ok (kvs.any λp=>PyData.eqv p.1 (.int i)):=rfl
@[simp]theorem abd (neg:Bool) (kvs:List (Str×Dat)) (k:QF):Bf neg kvs k M Z=(k M Z).bind λd=>match d with
 |.str x=>.ok (.bool (neg ^^ (kvs.lookup x).isSome))
 |_=>.bad:=rfl
@[simp]theorem abI (kvs:List (Str×Dat)) (k:QF):Lf kvs k M Z=(k M Z).bind λd=>match d with
 |.str x=>match kvs.lookup x with
  |some y=>.ok y
  |none=>.bad
 |_=>.bad:=rfl
@[simp]theorem Y5 (it:IF) (tg:bR) (vs:List Nat) (tt:QT) (it1:IF) (tg1:bR) (vs1:List Nat) (tt1:QT) (te:QF):qM it tg vs tt it1 tg1 vs1 tt1 te M Z=((it M Z).bind λds=>(cQ tg tt it1 tg1 vs1 tt1 te M (aR Z vs) ds).bind λr=>Out.when (decide (r.length<=50000)) (.ok r)).bind λr=>.ok (.list r):=rfl
@[simp]theorem Yu (it:IF) (tg:bR) (vs:List Nat) (tt:QT) (te:QF):QV it tg vs tt te M Z=((it M Z).bind λds=>Out.when (decide (ds.length<=50000)) (bA tg tt te M (aR Z vs) ds)).bind λds=>match intsOf ds with
 |some l=>Out.when (decide (l.length<=4000)) (.ok (.list ((O5 l).map PyData.int)))
 |none=>.bad:=rfl
@[simp]theorem YD {α:Type} (k g:Str) (y:α) (r:List (Str×α)):List.lookup k ((g,y)::r)=if k=g then some y else List.lookup k r:=by
 rw[adE];by_cases e:k=g
 .subst e;simp
 .have:(k==g)=false:=by simpa using e
  rw[this,aes e]
end
end Rf
namespace Pr
open PySem PySem.Spec PyProof.Rows L2 Evl Rf
def kh:SF:=
 (vR jZ (ak 0) "held" true)
def fP:=mG 1 kh
def wO:SF:=
 (aK (aV (aG 5) (gOf (aA cH (aA eO (aA eO (aA uM (ak 5) (qC (.int 48271))) (aA uM (qC (.int 9973)) (ak 4))) (qC (.int 11))) (qC (.int 2147483647)))))
 (nu 3 (aA cH (aA o9 (ak 5) (qC (.int 1021))) (ak 2))))
def xU:SF:=
 (aK (nu 3 (aA cH (ak 0) (ak 2)))
 (aV (aG 0) (gOf (aA o9 (ak 0) (ak 2)))))
def Gn:SF:=
 (aK (jm 3 (yQ aH))
 (aK (aV (aG 0) (gOf (fD Ay (ak 0))))
 (aK (cC (aY (aA JR (ak 0) (aA uz (qC (.int 10)) (qC (.int 18))))) (aK (lW (oJ (ak 1)) (aG 4) xU)
 (bx (aq 3))) bf)
 (aK (aV (aG 5) (gOf (aA cH (aA uM (aA eO (aA cH (ak 0) (qC (.int 1000003))) (qC (.int 17))) (qC (.int 69621))) (qC (.int 2147483647)))))
 (aK (lW (oJ (ak 1)) (aG 4) wO)
 (bx (aq 3)))))))
def jr:=mQ 6 Gn
def uV:SF:=
 (aK (cC (aY (aA cP (aA cH (ak 1) (qC (.int 4))) (qC (.int 1)))) (bx (fD jo (d7 (cM (ak 0)) (aG 2) [2] lg (aA pC (qC (.int 0)) (aA qU (ak 2) (qC (.int 7))))))) bf)
 (aK (cC (aY (aA cP (aA cH (ak 1) (qC (.int 4))) (qC (.int 2)))) (bx (fD jo (d7 (cM (ak 0)) (aG 2) [2] lg (aA cH (ak 2) (qC (.int 3)))))) bf)
 (bx (fD jo (ak 0)))))
def jA:=mQ 3 uV
def Gj:SF:=
 (aK (aV (aG 1) (gOf (bD jr (ao (aq 0) (ao (qC (.int 7)) (ao (qC (.int 10)) aH))))))
 (bx (bD jA (ao (yK (ak 1) wu (fQ (qC (.int 6)))) (ao (aA bG (ak 1) (qC (.int 6))) aH)))))
def uZ:=mQ 2 Gj
def yq:SF:=
 (bx (tZ (kJ .int (ak 0)) (zQ (kJ .bool (ak 0)))))
def nO:=mQ 1 yq
def uN(r:Mo->List Dat->Out Dat):SF:=
 (cC (d9 (eZ (bD r (ao (aq 2) (ao (aq 3) aH))))) (bx (qC (.bool false))) bf)
def nZ(r:Mo->List Dat->Out Dat):SF:=
 (aK (cC (aY (qp false .none (ak 1))) (bx (qp false .none (ak 0))) bf)
 (aK (cC (aY (qp false (.bool true) (ak 1))) (bx (qp false (.bool true) (ak 0))) bf)
 (aK (cC (aY (qp false (.bool false) (ak 1))) (bx (qp false (.bool false) (ak 0))) bf)
 (aK (cC (eZ (kJ .int (ak 1))) (bx (tZ (bD nO (ao (aq 0) aH)) (aA cP (ak 0) (ak 1)))) bf)
 (aK (cC (eZ (kJ .str (ak 1))) (bx (tZ (kJ .str (ak 0)) (aA cP (ak 0) (ak 1)))) bf)
 (aK (cC (iy (eZ (kJ .tuple (ak 1))) (d9 (eZ (kJ .tuple (ak 0))))) (bx (qC (.bool false))) bf)
 (aK (cC (iy (eZ (kJ .list (ak 1))) (d9 (eZ (kJ .list (ak 0))))) (bx (qC (.bool false))) bf)
 (aK (cC (aY (aA eE (fD pq (ak 0)) (fD pq (ak 1)))) (bx (qC (.bool false))) bf)
 (aK (lW (Bv (aq 0) (aq 1)) (cA [2,3]) (uN r))
 (bx (qC (.bool true))))))))))))
def bF:Nat->Mo->List Dat->Out Dat
 |0=>λ_ _=>.bad
 |n+1=>mQ 4 (nZ (bF n))
def iI:SF:=
 (bx (oU "held" (ak 0)))
def dB:=mQ 1 iI
def Cz:SF:=
 (aK (cC (aY (aA zm (ak 1) (fD pq (ak 0)))) (bx (aA bG (ak 0) (ak 1))) bf)
 (bx (qC (.int 0))))
def oR:=mQ 2 Cz
def uR:SF:=
 (aK (aV (aG 5) (gOf (aA bG (dh (ao (qC (.int 0)) (ao (qC (.int 0)) (ao (qC (.int 0)) (ao (qC (.int 0)) (ao (qC (.int 0)) (ao (qC (.int 1)) (ao (qC (.int 1)) (ao (qC (.int 2)) (ao (qC (.int 3)) (ao (fD wN (qC (.int 1))) aH))))))))))) (ak 4))))
 (nu 2 (aA pC (qC (.int 0)) (aA vM (qC (.int 9)) (aA eO (ak 3) (ak 5))))))
def CW:SF:=
 (aK (jm 2 (yQ aH))
 (aK (lW (Bv (aq 0) (aq 1)) (cA [3,4]) uR)
 (bx (fD jo (ak 2)))))
def j5:=mQ 6 CW
def jH:SF:=
 (bx (d7 (lZ "held" (ak 0)) (cA [3,4,5]) [3,4,5] (iy (aY (aA cP (ak 3) (ak 1))) (aY (aA cP (ak 4) (ak 2)))) (aq 5)))
def fu:=mQ 6 jH
def fY:SF:=
 (bx (d7 (lZ "held" (ak 0)) (cA [2,3,4]) [2,3,4] (aY (aA (inD false) (ak 3) (ak 1))) (dh (ao (aq 2) (ao (aq 4) aH)))))
def bH:=mQ 5 fY
def zV:SF:=
 (aK (cC (aY (aA zm (ak 0) (qC (.int 0)))) (bx (aA qU (qC (.int 0)) (aA cH (aA qU (qC (.int 0)) (ak 0)) (aA uz (qC (.int 10)) (qC (.int 30)))))) bf)
 (bx (aA cH (ak 0) (aA uz (qC (.int 10)) (qC (.int 30))))))
def jg:=mQ 1 zV
def dY:SF:=
 (aK (aV (aG 4) (gOf (dh (ao (aq 1) (ao (aq 2) (ao (aq 3) aH))))))
 (aK (cC (aY (yd false "held" (aq 4) (ak 0))) (qW "HasRight") bf)
 (vA "held" (ak 0) (aq 4) (qC (.bool true)))))
def bL:=mG 5 dY
def dU:List (Str×MV):=[("Rights",.g 4 bL)]
def tO:SF:=
 (aK (aV (aG 4) (gOf (qC (.str ""))))
 (aK (aV (aG 5) (gOf (qC .none)))
 (aK (wW (aV (aG 5) (lF dU (ak 0) (ao (aq 1) (ao (aq 2) (ao (aq 3) aH))))) [⟨"HasRight",λx=>ni.lookup x,none,[(4,(.con (.str "HasRight")))]⟩])
 (aK (cC (aY (qp true .none (ak 5))) (aV (aG 4) (gOf (qC (.str "told")))) bf)
 (bx (aq 4))))))
def jD:=mG 6 tO
def aO:List (Str×MV):=[("Rights",.q 3 fu)]
def je:SF:=
 (wD "held" (ak 0) (dh (ao (aq 1) (ao (aq 2) (ao (aq 4) aH)))))
def iT:SF:=
 (aK (aV (aG 3) (gOf (bZ aO (ak 0) (ao (aq 1) (ao (aq 2) aH)))))
 (aK (cC (d9 (eZ (ak 3))) (qW "NoRight") bf)
 (aK (lW (cM (aq 3)) (aG 4) je)
 (bx (aq 3)))))
def cO:=mG 5 iT
def iD:List (Str×MV):=[("Rights",.g 3 cO)]
def m7:SF:=
 (aK (aV (aG 3) (gOf (qC .none)))
 (aK (wW (aV (aG 3) (lF iD (ak 0) (ao (aq 1) (ao (aq 2) aH)))) [⟨"NoRight",λx=>pX.lookup x,none,[(3,(.con (.str "NoRight")))]⟩])
 (bx (aq 3))))
def gY:=mG 4 m7
def fJ:SF:=
 (aK (aV (aG 7) (gOf (dh (ao (aq 4) (ao (aq 5) (ao (aq 6) aH))))))
 (aK (cC (aY (aA cP (ak 4) (ak 1))) (aV (aG 7) (gOf (dh (ao (aq 2) (ao (aq 5) (ao (aq 6) aH)))))) bf)
 (cC (aY (aA (inD true) (ak 7) (ak 3))) (nu 3 (aq 7)) bf)))
def uP:SF:=
 (aK (jm 3 (yQ aH))
 (aK (lW (cM (aq 0)) (cA [4,5,6]) fJ)
 (bx (aq 3))))
def jF:=mQ 8 uP
def gU:SF:=
 (u9 jZ (ak 0) "held" (O4 (lZ "held" (ak 0)) (cA [3,4,5]) [3,4,5] (dh (ao (Bo (aY (aA cP (ak 3) (ak 1))) (aq 2) (aq 3)) (ao (aq 4) (ao (aq 5) aH))))))
def cY:=mG 6 gU
def gK:SF:=
 (bx (aA Ky (fD pq (bZ aO (ak 0) (ao (aq 1) (ao (aq 2) aH)))) (qC (.int 0))))
def cX:=mQ 3 gK
def aW:List (Str×MV):=[("Rights",.q 2 bH)]
def fZ:List (Str×MV):=[("Rights",.q 3 cX)]
def aX:List (Str×MV):=[("Rights",.q 1 dB)]
def xV:SF:=
 (aK (lY [] 5 (gOf (bZ aX (ak 0) aH)))
 (aK (cC (d9 (eZ (bD (bF 10) (ao (aq 5) (ao (aq 1) aH))))) (bx (qC (.bool false))) bf)
 (aK (jR 5)
 (aK (cC (d9 (eZ (bD (bF 10) (ao (bZ aX (ak 0) aH) (ao (aq 1) aH))))) (bx (qC (.bool false))) bf)
 (aK (aV (aG 6) (gOf (d7 (cM (ak 1)) (aG 9) [9] (iy (aY (aA cP (aA bG (ak 9) (qC (.int 0))) (ak 2))) (aY (aA cP (aA bG (ak 9) (qC (.int 1))) (ak 3)))) (aA bG (ak 9) (qC (.int 2))))))
 (aK (cC (jf (d9 (eZ (bD (bF 10) (ao (bZ aO (ak 0) (ao (aq 2) (ao (aq 3) aH))) (ao (aq 6) aH))))) (d9 (eZ (bD (bF 10) (ao (bZ fZ (ak 0) (ao (aq 2) (ao (aq 3) aH))) (ao (aA eE (ak 6) (ig aH)) aH)))))) (bx (qC (.bool false))) bf)
 (aK (aV (aG 7) (gOf (d7 (cM (ak 1)) (aG 9) [9] (jf (aY (aA cP (aA bG (ak 9) (qC (.int 1))) (ak 3))) (aY (aA cP (aA bG (ak 9) (qC (.int 1))) (ak 4)))) (dh (ao (aA bG (ak 9) (qC (.int 0))) (ao (aA bG (ak 9) (qC (.int 2))) aH))))))
 (aK (vP [2,3] (bZ aO (ak 0) (ao (aq 2) (ao (aq 3) aH))))
 (aK (jm 8 (yQ (ao (aq 4) (ao (aq 3) (ao (aq 4) aH)))))
 (aK (lY [8] 5 (gOf (bZ aW (ak 0) (ao (aq 8) aH))))
 (aK (cC (jf (d9 (eZ (bD (bF 10) (ao (aq 5) (ao (aq 7) aH))))) (jf (aY (aA eE (ak 8) (ig (ao (aq 4) (ao (aq 3) (ao (aq 4) aH)))))) (aY (aA eE (bZ aW (ak 0) (ao (ig aH) aH)) (ig aH))))) (bx (qC (.bool false))) bf)
 (aK (jR 5)
 (bx (bD (bF 10) (ao (bZ aW (ak 0) (ao (aq 8) aH)) (ao (aq 7) aH))))))))))))))))
def lK:=mQ 10 xV
def dR:List (Str×MV):=[("Rights",.g 3 cY)]
def oV:SF:=
 (aK (aV (aG 5) (gOf (bD jr (ao (aq 4) (ao (qC (.int 12)) (ao (qC (.int 10)) aH))))))
 (aK (aV (cA [6,7,8]) (gOf (dh (ao (aA eO (qC (.int 1)) (aA cH (aA bG (ak 5) (qC (.int 0))) (qC (.int 4)))) (ao (aA eO (qC (.int 1)) (aA cH (aA bG (ak 5) (qC (.int 1))) (qC (.int 4)))) (ao (aA eO (qC (.int 1)) (aA cH (aA bG (ak 5) (qC (.int 2))) (qC (.int 4)))) aH))))))
 (aK (cC (aY (aA cP (aA bG (ak 5) (qC (.int 3))) (qC (.int 9)))) (aV (cA [6,7]) (gOf (dh (ao (bD jg (ao (aq 4) aH)) (ao (bD jg (ao (aA o9 (ak 4) (qC (.int 7))) aH)) aH))))) bf)
 (aK (aV (aG 9) (gOf (bD j5 (ao (aq 3) (ao (yK (ak 5) (fQ (qC (.int 4))) (fQ (qC (.int 10)))) aH)))))
 (aK (aV (aG 10) (gOf (ig (ao (bZ aX (ak 1) aH) (ao (bZ aO (ak 1) (ao (aq 6) (ao (aq 7) aH))) (ao (bZ aW (ak 1) (ao (ig (ao (aq 7) aH)) aH)) aH))))))
 (aK (aV (aG 11) (gOf (d7 (cM (ak 10)) (aG 14) [14] lg (fD jP (ak 14)))))
 (aK (cC (aY (aA zm (aA cH (aA bG (ak 5) (qC (.int 10))) (qC (.int 8))) (qC (.int 6)))) (aK (aV (aG 12) (gOf (qC (.str ""))))
 (aK (cC (aY (aA (inD false) (dh (ao (aq 6) (ao (aq 7) (ao (aq 9) aH)))) (ak 2))) (aV (aG 12) (gOf (qC (.str "HasRight")))) (nu 2 (dh (ao (aq 6) (ao (aq 7) (ao (aq 9) aH))))))
 (uJ (oZ (CV eE (pO jD (ao (aq 1) (ao (aq 6) (ao (aq 7) (ao (aq 9) aH))))) (ak 12))) (bx (qC (.bool false))) bf))) (cC (aY (aA cP (aA cH (aA bG (ak 5) (qC (.int 10))) (qC (.int 8))) (qC (.int 6)))) (aK (aV (aG 12) (gOf (d7 (cM (ak 2)) (aG 14) [14] (iy (aY (aA cP (aA bG (ak 14) (qC (.int 0))) (ak 6))) (aY (aA cP (aA bG (ak 14) (qC (.int 1))) (ak 7)))) (aA bG (ak 14) (qC (.int 2))))))
 (aK (jm 2 (jd (cM (ak 2)) (aG 14) [14] (jf (aY (aA eE (aA bG (ak 14) (qC (.int 0))) (ak 6))) (aY (aA eE (aA bG (ak 14) (qC (.int 1))) (ak 7)))) (aq 14)))
 (aK (lY [1,6,7] 13 (pO gY (ao (aq 1) (ao (aq 6) (ao (aq 7) aH)))))
 (aK (cC (d9 (eZ (bD (bF 10) (ao (aq 13) (ao (Bo (aY (aA eE (ak 12) (ig aH))) (aq 12) (qC (.str "NoRight"))) aH))))) (bx (qC (.bool false))) bf)
 (cC (aY (aA eE (ak 12) (ig aH))) (jR 13) bf))))) (aK (lY [2,6,8] 2 (gOf (bD jF (ao (aq 2) (ao (aq 6) (ao (aq 8) aH))))))
 (uJ (oZ (Cj true .none (lF dR (ak 1) (ao (aq 6) (ao (aq 8) aH))))) (bx (qC (.bool false))) bf))))
 (cC (jf (d9 (eZ (bD lK (ao (aq 1) (ao (aq 2) (ao (aq 6) (ao (aq 7) (ao (aA eO (qC (.int 1)) (aA cH (aA bG (ak 5) (qC (.int 11))) (qC (.int 4)))) aH)))))))) (aY (aA eE (ak 10) (ak 11)))) (bx (qC (.bool false))) bf))))))))
def GD:SF:=
 (aK (aV (aG 1) (qJ "Rights" fP aH))
 (aK (jm 2 (yQ aH))
 (aK (aV (aG 3) (gOf (bD uZ (ao (bD oR (ao (aq 0) (ao (qC (.int 0)) aH))) aH))))
 (aK (lW (cM (yK (ak 0) (fQ (qC (.int 1))) (fQ (qC (.int 40))))) (aG 4) oV)
 (bx (bD (bF 10) (ao (bZ aX (ak 1) aH) (ao (aq 2) aH))))))))
def zX:=mG 15 GD
abbrev rX(N:List Str)(s:Stmt)(G:List (Str×GV))(B:List Str)(Ms:List (Str×List (Str×MV)))(ml:List Str):Option SF:=rd ⟨N,defScope s,G,B,⟨Ms,jZ,J9,Ot,FP⟩,ml,true⟩ (defBody s)
abbrev rY(N:List Str)(s:Stmt)(G:List (Str×GV))(B:List Str)(Ms:List (Str×List (Str×MV)))(ml:List Str):Option SF:=Yx ⟨N,defScope s,G,B,⟨Ms,jZ,J9,Ot,FP⟩,ml,true⟩ (defBody s)
theorem PL:FnScope ["_law_found","_law_due","_law_one","_law_other"] ["_law_found","_law_due"] (defScope vJ):=⟨rfl,rfl,rfl,by decide +kernel,rfl,by decide +kernel,by decide +kernel⟩
theorem Wx:FnScope ["_law_script","_law_claims","_law_rows","_law_base","_law_cell_here","_law_parts","_law_owner","_law_ground","_law_heir","_law_mark","_law_ahead","_law_copies","_law_due","_law_told","_law_row_here"] ["_law_script"] (defScope rZ):=⟨rfl,rfl,rfl,by decide +kernel,rfl,by decide +kernel,by decide +kernel⟩
theorem zE:rY ["self"] qj [] [] [] []=some kh:=by kernel_rfl
theorem W4:rX ["_law_cell_here","_law_many","_law_base","_law_found","_law_k","_law_turn"] s_row [] ["range","abs"] [] ["_law_found"]=some Gn:=by kernel_rfl
theorem Lj:rX ["_law_figures","_law_mode","_law_figure"] Dg [] ["tuple","max"] [] []=some uV:=by kernel_rfl
theorem XM:rX ["_law_cell_here","_law_figures"] Oi [("_law_ear_by",.fq 2 jA),("_law_row",.fq 3 jr)] [] [] []=some Gj:=by kernel_rfl
theorem Ri:rX ["_law_found"] FZ [] ["isinstance","bool","int"] [] []=some yq:=by kernel_rfl
theorem Wy(r:Mo->List Dat->Out Dat):rd ⟨["_law_found","_law_due","_law_one","_law_other"],defScope vJ,[("_law_like",.fq 2 r),("_law_whole",.fq 1 nO)],["zip","len","isinstance","list","tuple","str","int"],⟨[],jZ,J9,Ot,FP⟩,[],true⟩ (defBody vJ)=some (nZ r):=by kernel_rfl
theorem ug:rX ["self"] kZ [] ["list"] [] []=some iI:=by kernel_rfl
theorem V8:rX ["_law_script","_law_k"] Je [] ["len"] [] []=some Cz:=by kernel_rfl
theorem R8:rX ["_law_ear_here","_law_figures","_law_found","_law_depth","_law_figure","_law_more"] JB [] ["tuple","zip","max","min"] [] ["_law_found"]=some CW:=by kernel_rfl
theorem wM:rX ["self","owner","ground","holder","where","mark"] oF [] [] [] []=some jH:=by kernel_rfl
theorem qG:rX ["self","grounds","owner","ground","mark"] jx [] [] [] []=some fY:=by kernel_rfl
theorem Yr:rX ["_law_cell_here"] Oe [] [] [] []=some zV:=by kernel_rfl
theorem rE:rY ["self","owner","ground","mark","row"] jQ [("HasRight",.exc)] [] [] []=some dY:=by kernel_rfl
theorem QC:rY ["_law_claims","_law_owner","_law_ground","_law_mark","_law_word","_law_told"] Fo [("HasRight",.exc)] [] [("add_right",dU)] []=some tO:=by kernel_rfl
theorem zB:rY ["self","owner","ground","gone","mark"] pZ [("NoRight",.exc)] [] [("marks",aO)] []=some iT:=by kernel_rfl
theorem Jt:rY ["_law_claims","_law_owner","_law_ground","_law_told"] yV [("NoRight",.exc)] [] [("drop",iD)] []=some m7:=by kernel_rfl
theorem LC:rX ["_law_rows","_law_elder","_law_heir","_law_found","_law_owner","_law_ground","_law_mark","_law_row_here"] Cq [] [] [] ["_law_found"]=some uP:=by kernel_rfl
theorem qO:rY ["self","elder","heir","owner","ground","mark"] jW [] [] [] []=some gU:=by kernel_rfl
theorem qY:rX ["self","owner","ground"] jT [] ["len"] [("marks",aO)] []=some gK:=by kernel_rfl
theorem Pq:rX ["_law_claims","_law_rows","_law_owner","_law_ground","_law_other","_law_told","_law_due","_law_pairs","_law_handed_here","_law_row_here"] Fg [("_law_like",.fq 2 (bF 10))] [] [("in_grounds",aW),("marks",aO),("has_right",fZ),("all_rows",aX)] ["_law_told","_law_handed_here"]=some xV:=by kernel_rfl
theorem Xx:rY ["_law_script","_law_claims","_law_rows","_law_base","_law_cell_here","_law_parts","_law_owner","_law_ground","_law_heir","_law_mark","_law_ahead","_law_copies","_law_due","_law_told","_law_row_here"] rZ [("_law_like",.fq 2 (bF 10)),("_law_right",.fq 5 lK),("_law_added",.fg 4 jD),("_law_dropped",.fg 3 gY),("_law_handed",.fq 3 jF),("_law_near",.fq 2 j5),("_law_cut",.fq 1 jg),("_law_row",.fq 3 jr),("_law_ear",.fq 1 uZ),("_law_cell",.fq 2 oR),("Rights",.cls 0 fP)] ["list"] [("all_rows",aX),("hand_over",dR),("in_grounds",aW),("marks",aO)] ["_law_rows","_law_told"]=some GD:=by kernel_rfl
structure Top(w:World)(K:ac8)(mg:Str->Option Value):Prop where
 ex:∃h:Heap,K.In h/\h.Ns mainGlobals mg
 c:sO fa fn [] Kw w K
abbrev aj(w:World)(K:ac8):aC:=eX w K Fx jZ
section
variable{P:Program}{w:World}{K:ac8}{mg:Str->Option Value}{base:Heap}{k:Nat}(T:Top w K mg)
include T
theorem Top.glo(i:Nat){x:Str}(h:fa[i]?=some (.glo x):=by rfl):mg x=some (.ref (He.ga K x)):=by obtain⟨_,X,G⟩:=T.ex;exact He.glo_ok X G (T.c.vg i h)
theorem Top.free(i:Nat){x:Str}(h:fa[i]?=some (.free x):=by rfl):mg x=none:=by obtain⟨_,X,G⟩:=T.ex;exact He.free_ok X G (T.c.vg i h)
theorem Top.int(i:Nat){x:Str}{j:Int}(h:fa[i]?=some (.int x j):=by rfl):∃t,mg x=some (.int j t):=by obtain⟨_,X,G⟩:=T.ex;exact He.int_ok X G (T.c.vg i h)
theorem Top.str(i:Nat){x j:Str}(h:fa[i]?=some (.str x j):=by rfl):∃t,mg x=some (.str j t):=by obtain⟨_,X,G⟩:=T.ex;exact He.str_ok X G (T.c.vg i h)
theorem vC:bW P w K mg base (aj w K) k "HasRight" .exc:=Jm (by rfl) (T.glo 22) (T.c.vg 23)
theorem yx:bW P w K mg base (aj w K) k "NoRight" .exc:=Jm (by rfl) (T.glo 24) (T.c.vg 25)
theorem Top.Od:qX K jZ=true:=(He.ba (He.ba (He.ba T.c.more).1).1).2
theorem Top.xf:(FP.all λp=>Fx.contains p.1&&Hw K p.1 p.2)=true:=(He.ba T.c.more).2
theorem Top.hs{Ms:List (Str×List (Str×MV))}(h:nJ P w K mg base (aj w K) k Ms):xK P w K mg base (aj w K) k ⟨Ms,jZ,J9,Ot,FP⟩:=Xd h T.Od (He.ba (He.ba T.c.more).1).2 (by rfl) T.xf
theorem Top.cls{c:Str}{fs:List Str}(h:jZ.lookup c=some fs:=by rfl):Cls K (He.ga K c):=(Bx T.Od h).1
local macro_rules | `(tactic| nofun)=>`(tactic| first | (exact λ_ _ _ _ _ _ us hl=>match us,hl with | [_],_=>rfl) | (exact λ_ _ _ _ _ _ us hl=>match us,hl with | [_,_],_=>rfl) | (exact λ_ _ _ _ _ _ us hl=>match us,hl with | [_,_,_],_=>rfl) | (exact λ_ _ _ _ _ _ us hl=>match us,hl with | [_,_,_,_],_=>rfl) | (exact λ_ _ _ _ _ _ us hl=>match us,hl with | [_,_,_,_,_],_=>rfl) | (exact λ_ _ _ _ _ _ us hl=>match us,hl with | [_,_,_,_,_,_],_=>rfl) | (exact λ_ _ _ _ _ _ us hl=>match us,hl with | [_,_,_,_,_,_,_],_=>rfl) | (exact λ_ _ _ _ _ _ us hl=>match us,hl with | [_,_,_,_,_,_,_,_],_=>rfl))
theorem vQ(i j:Nat){x:Str}{k0:Nat}(hk:k0+1<=k){st:Stmt}{N ps ml B:List Str}{G:List (Str×GV)}{Ms:List (Str×List (Str×MV))}{body:SF}(h:rX N st G B Ms ml=some body)(g:lQ P w K mg base (aj w K) k0 G)(b:mF mg B)(ms:nJ P w K mg base (aj w K) k0 Ms)(hi:fn[i]?=some (dF x st):=by rfl)(hj:fa[j]?=some (.glo x):=by rfl)(S:FnScope N ps (defScope st):=by exact⟨rfl,rfl,rfl,by decide +kernel,rfl,by decide +kernel,by decide +kernel⟩)(hb:∀(kV doc pm:Value) (an:Option Addr) (cdv ct:Value) (us:List Value),us.length=ps.length->bindArgs (PySem.W.fnOf x x (defArgs st) (defBody st) (defScope st) .none kV doc pm an cdv ct) ⟨us,[]⟩=pure (ps.zip us):=by nofun):bW P w K mg base (aj w K) k x (.fq ps.length (mQ N.length body)):=by obtain⟨fd,F⟩:=T.c.BJ i hi;exact Nf hk (T.glo j hj) F.kp (FunD.bindsN (ps:=ps) F hb) (BX (pQ F) S g b (T.hs ms) h)
theorem wQ(i j:Nat){c m q:Str}{k0:Nat}(hk:k0+1<=k){st:Stmt}{N ps ml B:List Str}{G:List (Str×GV)}{Ms:List (Str×List (Str×MV))}{body:SF}(h:rX N st G B Ms ml=some body)(g:lQ P w K mg base (aj w K) k0 G)(b:mF mg B)(ms:nJ P w K mg base (aj w K) k0 Ms)(hi:fn[i]?=some (dM c m q st):=by rfl)(hj:fa[j]?=some (.meth c m):=by rfl)(hx:Fx.contains c=true:=by rfl){fs:List Str}(hc:jZ.lookup c=some fs:=by rfl)(hf:((jZ.lookup c).getD []).contains m=false:=by rfl)(S:FnScope N ps (defScope st):=by exact⟨rfl,rfl,rfl,by decide +kernel,rfl,by decide +kernel,by decide +kernel⟩)(hb:∀(kV doc pm:Value) (an:Option Addr) (cdv ct:Value) (us:List Value),us.length=ps.length->bindArgs (PySem.W.fnOf m q (defArgs st) (defBody st) (defScope st) .none kV doc pm an cdv ct) ⟨us,[]⟩=pure (ps.zip us):=by nofun):iH P w K mg base (aj w K) k c m (.q ps.length (mQ N.length body)):=by obtain⟨fd,F⟩:=T.c.BJ i hi;exact Zf hk hx (T.cls hc) (T.c.vg j hj) hf (FunD.bindsN (ps:=ps) F hb) (BX (pQ F) S g b (T.hs ms) h)
theorem vG(i j:Nat){x:Str}{k0:Nat}(hk:k0+1<=k){st:Stmt}{N ps ml B:List Str}{G:List (Str×GV)}{Ms:List (Str×List (Str×MV))}{body:SF}(h:rY N st G B Ms ml=some body)(g:lQ P w K mg base (aj w K) k0 G)(b:mF mg B)(ms:nJ P w K mg base (aj w K) k0 Ms)(hi:fn[i]?=some (dF x st):=by rfl)(hj:fa[j]?=some (.glo x):=by rfl)(S:FnScope N ps (defScope st):=by exact⟨rfl,rfl,rfl,by decide +kernel,rfl,by decide +kernel,by decide +kernel⟩)(hb:∀(kV doc pm:Value) (an:Option Addr) (cdv ct:Value) (us:List Value),us.length=ps.length->bindArgs (PySem.W.fnOf x x (defArgs st) (defBody st) (defScope st) .none kV doc pm an cdv ct) ⟨us,[]⟩=pure (ps.zip us):=by nofun):bW P w K mg base (aj w K) k x (.fg ps.length (mG N.length body)):=by obtain⟨fd,F⟩:=T.c.BJ i hi;exact Zz hk (T.glo j hj) F.kp (FunD.bindsN (ps:=ps) F hb) (vo (pQ F) S g b (T.hs ms) h)
theorem wG(i j:Nat){c m q:Str}{k0:Nat}(hk:k0+1<=k){st:Stmt}{N ps ml B:List Str}{G:List (Str×GV)}{Ms:List (Str×List (Str×MV))}{body:SF}(h:rY N st G B Ms ml=some body)(g:lQ P w K mg base (aj w K) k0 G)(b:mF mg B)(ms:nJ P w K mg base (aj w K) k0 Ms)(hi:fn[i]?=some (dM c m q st):=by rfl)(hj:fa[j]?=some (.meth c m):=by rfl)(hx:Fx.contains c=true:=by rfl){fs:List Str}(hc:jZ.lookup c=some fs:=by rfl)(hf:((jZ.lookup c).getD []).contains m=false:=by rfl)(S:FnScope N ps (defScope st):=by exact⟨rfl,rfl,rfl,by decide +kernel,rfl,by decide +kernel,by decide +kernel⟩)(hb:∀(kV doc pm:Value) (an:Option Addr) (cdv ct:Value) (us:List Value),us.length=ps.length->bindArgs (PySem.W.fnOf m q (defArgs st) (defBody st) (defScope st) .none kV doc pm an cdv ct) ⟨us,[]⟩=pure (ps.zip us):=by nofun):iH P w K mg base (aj w K) k c m (.g ps.length (mG N.length body)):=by obtain⟨fd,F⟩:=T.c.BJ i hi;exact ZJ hk hx (T.cls hc) (T.c.vg j hj) hf (FunD.bindsN (ps:=ps) F hb) (vo (pQ F) S g b (T.hs ms) h)
theorem vI(i j l:Nat){c q:Str}{n:Nat}{k0:Nat}{st:Stmt}{N ps ml B:List Str}{G:List (Str×GV)}{Ms:List (Str×List (Str×MV))}{body:SF}(h:rY N st G B Ms ml=some body)(g:lQ P w K mg base (aj w K) k0 G)(b:mF mg B)(ms:nJ P w K mg base (aj w K) k0 Ms)(hk:k0+1+1<=k)(hi:fn[i]?=some (dM c "__init__" q st):=by rfl)(hj:fa[j]?=some (.mkr c):=by rfl)(hg:fa[l]?=some (.glo c):=by rfl)(hx:Fx.contains c=true:=by rfl){fs:List Str}(hc:jZ.lookup c=some fs:=by rfl)(hp:ps.length=n+1:=by rfl)(S:FnScope N ps (defScope st):=by exact⟨rfl,rfl,rfl,by decide +kernel,rfl,by decide +kernel,by decide +kernel⟩)(hb:∀(kV doc pm:Value) (an:Option Addr) (cdv ct:Value) (us:List Value),us.length=ps.length->bindArgs (PySem.W.fnOf "__init__" q (defArgs st) (defBody st) (defScope st) .none kV doc pm an cdv ct) ⟨us,[]⟩=pure (ps.zip us):=by nofun):bW P w K mg base (aj w K) k c (.cls n (mG N.length body)):=by obtain⟨fd,F⟩:=T.c.BJ i hi;exact Wv hk hx (T.glo l hg) (T.cls hc) (T.c.vg j hj) hp (FunD.bindsN (ps:=ps) F hb) (vo (pQ F) S g b (T.hs ms) h)
theorem KN(hk:2<=k:=by omega):bW P w K mg base (aj w K) k "Rights" (.cls 0 fP):=vI T 0 0 21 (ps:=["self"]) zE aek aek aek hk
theorem O6(hk:1<=k:=by omega):bW P w K mg base (aj w K) k "_law_row" (.fq 3 jr):=vQ T 1 1 hk (ps:=["_law_cell_here","_law_many","_law_base"]) W4 aek ⟨T.free 26,T.free 27,aek⟩ aek
theorem Ly(hk:1<=k:=by omega):bW P w K mg base (aj w K) k "_law_ear_by" (.fq 2 jA):=vQ T 2 2 hk (ps:=["_law_figures","_law_mode"]) Lj aek ⟨T.free 28,T.free 29,aek⟩ aek
theorem W7(hk:2<=k:=by omega):bW P w K mg base (aj w K) k "_law_ear" (.fq 1 uZ):=vQ T 3 3 hk (ps:=["_law_cell_here"]) XM ⟨Ly T,O6 T,aek⟩ aek aek
theorem QK(hk:1<=k:=by omega):bW P w K mg base (aj w K) k "_law_whole" (.fq 1 nO):=vQ T 4 4 hk (ps:=["_law_found"]) Ri aek ⟨T.free 30,T.free 31,T.free 32,aek⟩ aek
theorem JT(hk:12<=k:=by omega):bW P w K mg base (aj w K) k "_law_like" (.fq 2 (bF 10)):=by
 obtain⟨fd,F⟩:=T.c.BJ 5;have b:=FunD.bindsN (ps:=["_law_found","_law_due"]) F λ_ _ _ _ _ _ us hl=>match us,hl with|[_,_],_=>rfl
 have key:∀j:Nat,FnOk P w K mg base (L2.CX P w) (2+j) (He.ga K "_law_like") fd ["_law_found","_law_due"] (yL K (aj w K) 2 (bF j)):=by
  intro j
  induction j with
  |zero=>exact Uq
  |succ j ih'=>
   have ih:∀{k:Nat},2+j<=k->bW P w K mg base (aj w K) k "_law_like" (.fq 2 (bF j)):=λhk=>Nf hk (T.glo 5) F.kp (b) ih'
   refine BX (k:=2+j) (pQ F) PL ?_ ?_ ?_ (Wy (bF j))
   .exact⟨ih (adz _),QK T,aek⟩
   .exact⟨T.free 33,T.free 34,T.free 30,T.free 35,T.free 28,T.free 36,T.free 32,aek⟩
   .exact T.hs aek
 exact Nf hk (T.glo 5) F.kp (b) (key 10)
theorem jV(hk:1<=k:=by omega):iH P w K mg base (aj w K) k "Rights" "all_rows" (.q 1 dB):=wQ T 6 6 hk (ps:=["self"]) ug aek ⟨T.free 35,aek⟩ aek
theorem Uu(hk:1<=k:=by omega):bW P w K mg base (aj w K) k "_law_cell" (.fq 2 oR):=vQ T 7 7 hk (ps:=["_law_script","_law_k"]) V8 aek ⟨T.free 34,aek⟩ aek
theorem Td(hk:1<=k:=by omega):bW P w K mg base (aj w K) k "_law_near" (.fq 2 j5):=vQ T 8 8 hk (ps:=["_law_ear_here","_law_figures"]) R8 aek ⟨T.free 28,T.free 33,T.free 29,T.free 37,aek⟩ aek
theorem gA(hk:1<=k:=by omega):iH P w K mg base (aj w K) k "Rights" "marks" (.q 3 fu):=wQ T 9 9 hk (ps:=["self","owner","ground"]) wM aek aek aek
theorem ju(hk:1<=k:=by omega):iH P w K mg base (aj w K) k "Rights" "in_grounds" (.q 2 bH):=wQ T 10 10 hk (ps:=["self","grounds"]) qG aek aek aek
theorem v_cut(hk:1<=k:=by omega):bW P w K mg base (aj w K) k "_law_cut" (.fq 1 jg):=vQ T 11 11 hk (ps:=["_law_cell_here"]) Yr aek aek aek
theorem qw(hk:1<=k:=by omega):iH P w K mg base (aj w K) k "Rights" "add_right" (.g 4 bL):=wG T 12 12 hk (ps:=["self","owner","ground","mark"]) rE ⟨vC T,aek⟩ aek aek
theorem Qm(hk:2<=k:=by omega):bW P w K mg base (aj w K) k "_law_added" (.fg 4 jD):=vG T 13 13 hk (ps:=["_law_claims","_law_owner","_law_ground","_law_mark"]) QC ⟨vC T,aek⟩ aek ⟨⟨qw T,aek⟩,aek⟩
theorem xZ(hk:2<=k:=by omega):iH P w K mg base (aj w K) k "Rights" "drop" (.g 3 cO):=wG T 14 14 hk (ps:=["self","owner","ground"]) zB ⟨yx T,aek⟩ aek ⟨⟨gA T,aek⟩,aek⟩
theorem JX(hk:3<=k:=by omega):bW P w K mg base (aj w K) k "_law_dropped" (.fg 3 gY):=vG T 15 15 hk (ps:=["_law_claims","_law_owner","_law_ground"]) Jt ⟨yx T,aek⟩ aek ⟨⟨xZ T,aek⟩,aek⟩
theorem M6(hk:1<=k:=by omega):bW P w K mg base (aj w K) k "_law_handed" (.fq 3 jF):=vQ T 16 16 hk (ps:=["_law_rows","_law_elder","_law_heir"]) LC aek aek aek
theorem qF(hk:1<=k:=by omega):iH P w K mg base (aj w K) k "Rights" "hand_over" (.g 3 cY):=wG T 17 17 hk (ps:=["self","elder","heir"]) qO aek aek aek
theorem qu(hk:2<=k:=by omega):iH P w K mg base (aj w K) k "Rights" "has_right" (.q 3 cX):=wQ T 18 18 hk (ps:=["self","owner","ground"]) qY aek ⟨T.free 34,aek⟩ ⟨⟨gA T,aek⟩,aek⟩
theorem v_right(hk:13<=k:=by omega):bW P w K mg base (aj w K) k "_law_right" (.fq 5 lK):=vQ T 19 19 hk (ps:=["_law_claims","_law_rows","_law_owner","_law_ground","_law_other"]) Pq ⟨JT T,aek⟩ aek ⟨⟨ju T,aek⟩,⟨gA T,aek⟩,⟨qu T,aek⟩,⟨jV T,aek⟩,aek⟩
theorem W3{fd:FuncData}(F:FunD K "law" "law" (defArgs rZ) (defBody rZ) (defScope rZ) [] [] (He.ga K "law") fd):FnOk P w K mg base (L2.CX P w) 14 (He.ga K "law") fd ["_law_script"] (qd K (aj w K) 1 zX):=by
 refine vo (k:=13) (pQ F) Wx ?_ ?_ ?_ Xx
 .exact⟨JT T,v_right T,Qm T,JX T,M6 T,Td T,v_cut T,O6 T,W7 T,Uu T,KN T,aek⟩
 .exact⟨T.free 35,aek⟩
 .exact T.hs ⟨⟨jV T,aek⟩,⟨qF T,aek⟩,⟨ju T,aek⟩,⟨gA T,aek⟩,aek⟩
end
def digs(b:Int):Nat->Int->List Int
 |0,_=>[]
 |n+1,c=>c%b::digs b n (c/b)
def uo(b:Int):Nat->Int->Int->List Int
 |0,_,_=>[]
 |n+1,k,t=>((t*48271+9973*k+11)%2147483647/1021%b)::uo b n (k+1) ((t*48271+9973*k+11)%2147483647)
def j6(c:Int):Int:=if c<0 then -c else c
def rowOf(c:Int)(n:Nat)(b:Int):List Int:=if 10^18<=j6 c then digs b n (j6 c) else uo b n 0 ((j6 c%1000003+17)*69621%2147483647)
theorem Cv(b:Int):∀n c,(digs b n c).length=n
 |0,_=>rfl
 |n+1,c=>by simp[digs,Cv b n]
theorem Ea(b:Int):∀n k t,(uo b n k t).length=n
 |0,_,_=>rfl
 |n+1,k,t=>by simp[uo,Ea b n]
theorem Fl{b:Int}(hb:0<b):∀n c,∀x∈digs b n c,0<=x/\x<b
 |0,_,x,h=>by simp[digs]at h
 |n+1,c,x,h=>by
  rcases adt.mp h with rfl|h
  .exact⟨Int.emod_nonneg _ (by omega),Int.emod_lt_of_pos _ hb⟩
  .exact Fl hb n _ x h
theorem Jf{b:Int}(hb:0<b):∀n k t,∀x∈uo b n k t,0<=x/\x<b
 |0,_,_,x,h=>by simp[uo]at h
 |n+1,k,t,x,h=>by
  rcases adt.mp h with rfl|h
  .exact⟨Int.emod_nonneg _ (by omega),Int.emod_lt_of_pos _ hb⟩
  .exact Jf hb n _ _ x h
@[simp]theorem Q7 (c:Int) (n:Nat) (b:Int):(rowOf c n b).length=n:=by
 unfold rowOf;split
 .exact Cv ..
 .exact Ea ..
theorem Vx{b:Int}(hb:0<b)(c:Int)(n:Nat):∀x∈rowOf c n b,0<=x/\x<b:=by
 unfold rowOf;split
 .exact Fl hb _ _
 .exact Jf hb _ _ _
@[simp]theorem Qu (M:Mo) (ns:List Int) (k:Nat):oR M [lI ns,.int k]=.ok (.int (ns.getD k 0)):=by
 unfold oR Cz;by_cases h:k<ns.length
 .simp[h,atI,ixN]
 .simp[h]
theorem Df(M:Mo)(b:Int)(hb:0<b)(hb2:b<1073741824):∀(n k:Nat) (c:Int) (x1:Option Cell) (acc:List Dat) (x4 x5:Option Cell),acc.length+n<100000->∃c' x4',dI (aG 4) xU ((List.range' k n).map λ(i:Nat)=>PyData.int (i:Int)) M [some (.dat (.int c)),x1,some (.dat (.int b)),some (.mut acc),x4,x5]=.next [c',x1,some (.dat (.int b)),some (.mut (acc++(digs b n c).map .int)),x4',x5] M
 |0,k,c,x1,acc,x4,x5,_=>⟨some (.dat (.int c)),x4,by simp[dI,digs]⟩
 |n+1,k,c,x1,acc,x4,x5,hl=>by
  obtain⟨c',x4',ih⟩:=Df M b hb hb2 n (k+1) (c/b) x1 (acc++[.int (c%b)]) (some (.dat (.int k))) x5 (by simp;omega);refine⟨c',x4',?_⟩;have h1:decide (CDiv c b)=true:=decide_eq_true ⟨hb,hb2⟩;have hl:acc.length<100000:=by omega
  rw[List.range'_succ,ada,gJ (Z1:=[some (.dat (.int c)),x1,some (.dat (.int b)),some (.mut acc),some (.dat (.int k)),x5]) (by simp) (Z2:=[some (.dat (.int (c/b))),x1,some (.dat (.int b)),some (.mut (acc++[.int (c%b)])),some (.dat (.int k)),x5]) (M2:=M) (by simp[xU,h1,hb,hl])];rw[ih];simp[digs]
theorem Eu(M:Mo)(b:Int)(hb:0<b):∀(n k:Nat) (t:Int) (x0 x1:Option Cell) (acc:List Dat) (x4:Option Cell),acc.length+n<100000->∃x4' x5',dI (aG 4) wO ((List.range' k n).map λ(i:Nat)=>PyData.int (i:Int)) M [x0,x1,some (.dat (.int b)),some (.mut acc),x4,some (.dat (.int t))]=.next [x0,x1,some (.dat (.int b)),some (.mut (acc++(uo b n k t).map .int)),x4',x5'] M
 |0,k,t,x0,x1,acc,x4,_=>⟨x4,some (.dat (.int t)),by simp[dI,uo]⟩
 |n+1,k,t,x0,x1,acc,x4,hl=>by
  obtain⟨x4',x5',ih⟩:=Eu M b hb n (k+1) ((t*48271+9973*k+11)%2147483647) x0 x1 (acc++[.int ((t*48271+9973*k+11)%2147483647/1021%b)]) (some (.dat (.int k))) (by simp;omega);refine⟨x4',x5',?_⟩;have h1:decide (CMul t 48271)=true:=mul_r (by decide);have h2:decide (CMul 9973 (k:Int))=true:=Yl (by decide);have h3:∀x,decide (CDiv x 1021)=true:=λx=>decide_eq_true ⟨by decide,by decide⟩;have hl:acc.length<100000:=by omega
  rw[List.range'_succ,ada,gJ (Z1:=[x0,x1,some (.dat (.int b)),some (.mut acc),some (.dat (.int k)),some (.dat (.int t))]) (by simp) (Z2:=[x0,x1,some (.dat (.int b)),some (.mut (acc++[.int ((t*48271+9973*k+11)%2147483647/1021%b)])),some (.dat (.int k)),some (.dat (.int ((t*48271+9973*k+11)%2147483647)))]) (M2:=M) (by simp[wO,h1,h2,h3,hb,hl])];rw[ih];simp[uo]
theorem wH(n:Nat):iK 0 n=(List.range' 0 n).map λ(i:Nat)=>PyData.int (i:Int):=by unfold iK;rw[List.range_eq_range'];simp
theorem Io(M:Mo)(c:Int)(n:Nat)(b:Int)(hb:0<b)(hb2:b<1073741824)(hn:n<=1000):jr M [.int c,.int n,.int b]=.ok (lI (rowOf c n b)):=by
 unfold jr Gn;have hp:decide (CPow 10 18)=true:=decide_eq_true ⟨by decide,by decide,by decide⟩;have hn1:(n:Int)<=100000:=by omega
 have hn2 : -100000<=(n:Int):=by omega
 have hm:∀x,decide (CMul x 69621)=true:=λx=>mul_r (by decide);have ea:(if c<0 then -c else c)=j6 c:=rfl;by_cases h:10^18<=j6 c
 .obtain⟨c',x4',e⟩:=Df M b hb hb2 n 0 (j6 c) (some (.dat (.int n))) [] none none (by simp;omega);have e2:rowOf c n b=digs b n (j6 c):=aer h;have h':(1000000000000000000:Int)<=j6 c:=by simpa using h
  simp[hp,ea,h',hn1,hn2,wH,e,e2]
 .obtain⟨x4',x5',e⟩:=Eu M b hb n 0 ((j6 c%1000003+17)*69621%2147483647) (some (.dat (.int (j6 c)))) (some (.dat (.int n))) [] none (by simp;omega);have e2:rowOf c n b=uo b n 0 ((j6 c%1000003+17)*69621%2147483647):=aes h;have h':¬(1000000000000000000:Int)<=j6 c:=by simpa using h
  have e':=e;simp[hp,ea,h',hn1,hn2,hm,wH]at e |-
  rw[e];simp[e2]
def Cd(i j:Int):Int:=if j>i then j else i
def tX(l:List Int)(m:Int):List Int:=if m%4=1 then l.map λf=>Cd 0 (f-7) else if m%4=2 then l.map λf=>f%3 else l
theorem JQ(M:Mo)(l:List Int)(m:Int)(hl:l.length<=1000):jA M [lI l,.int m]=.ok (aM (tX l m)):=by
 unfold jA uV;have hl':l.length<=50000:=by omega
 have c1:=rC (tg:=aG 2) (te:=aA pC (qC (.int 0)) (aA qU (ak 2) (qC (.int 7)))) (M:=M) (Z:=[some (.dat (lI l)),some (.dat (.int m)),none]) PyData.int (λf=>.int (Cd 0 (f-7))) l λx _=>⟨_,rfl,by simp[Cd]⟩;have c2:=rC (tg:=aG 2) (te:=aA cH (ak 2) (qC (.int 3))) (M:=M) (Z:=[some (.dat (lI l)),some (.dat (.int m)),none]) PyData.int (λf=>.int (f%3)) l λx _=>⟨_,rfl,by simp⟩;by_cases h1:m%4=1
 .simp[h1,hl',c1,tX,ad4]
 .by_cases h2:m%4=2
  .simp[h2,hl',c2,tX,ad4]
  .simp[h1,h2,tX]
def sV(c:Int):List Int:=tX ((rowOf c 7 10).take 6) ((rowOf c 7 10).getD 6 0)
theorem K8{α:Type}(l:List α)(n:Nat):Rf.cutD l none (some (n:Int))=l.take n:=by unfold Rf.cutD;rw[HT.sIx_nat];simp[HT.sIx]
theorem Bs(l:List Int)(n:Nat)(h:n<l.length):atI (l.map PyData.int) (n:Int)=some (.int (l.getD n 0)):=atI_nat (by simp[h])
theorem VL(M:Mo)(c:Int):uZ M [.int c]=.ok (aM (sV c)):=by
 unfold uZ Gj;have h1:jr M [.int c,.int 7,.int 10]=.ok (.list ((rowOf c 7 10).map .int)):=Io M c 7 10 (by decide) (by decide) (by decide);have h2:Rf.cutD ((rowOf c 7 10).map PyData.int) none (some 6)=((rowOf c 7 10).take 6).map PyData.int:=by rw[show(6:Int)=((6:Nat):Int) from rfl,K8,List.map_take]
 have h3:atI ((rowOf c 7 10).map PyData.int) 6=some (.int ((rowOf c 7 10).getD 6 0)):=Bs _ 6 (by simp);have h4:jA M [.list (((rowOf c 7 10).take 6).map .int),.int ((rowOf c 7 10).getD 6 0)]=.ok (.tuple ((sV c).map .int)):=JQ M _ _ (by simp);generalize (rowOf c 7 10).getD 6 0=z at h3 h4;generalize ((rowOf c 7 10).take 6).map PyData.int=y at h2 h4;simp[h1,h2,h3,h4]
theorem Jz(c:Int):(sV c).length=6:=by
 unfold sV tX;split
 .simp
 .split<;>simp
mutual
def lk:Nat->Dat->Bool
 |_,.none=>true
 |_,.bool _=>true
 |_,.int _=>true
 |_,.str _=>true
 |n+1,.list ds=>vD n ds
 |n+1,.tuple ds=>vD n ds
 |0,.list _=>false
 |0,.tuple _=>false
 |_,.dict _=>false
def vD:Nat->List Dat->Bool
 |_,[]=>true
 |n,d::ds=>lk n d&&vD n ds
end
theorem jy{n:Nat}:∀{ds:List Dat},vD n ds=true↔∀d∈ds,lk n d=true
 |[]=>by simp[vD]
 |d::ds=>by simp[vD,jy (ds:=ds)]
@[simp]theorem Lp (n:Nat) (l:List Int):vD n (l.map PyData.int)=true:=jy.mpr λd h=>by
 obtain⟨i,_,rfl⟩:=ado.mp h;simp[lk]
theorem yu(M:Mo)(i:Int):nO M [.int i]=.ok (.bool true):=by unfold nO yq;simp[nM,pB]
theorem zip_self(ds:List Dat):j9 ds ds=ds.map λd=>.tuple [d,d]:=by unfold j9;rw[List.zipWith_self]
theorem rF(M:Mo)(r:Mo->List Dat->Out Dat)(x0 x1:Option Cell):∀(ds:List Dat) (x2 x3:Option Cell),(∀d∈ds,r M [d,d]=.ok (.bool true))->∃x2' x3',dI (cA [2,3]) (uN r) (ds.map λd=>PyData.tuple [d,d]) M [x0,x1,x2,x3]=.next [x0,x1,x2',x3'] M
 |[],x2,x3,_=>⟨x2,x3,rfl⟩
 |d::ds,x2,x3,h=>by
  obtain⟨x2',x3',ih⟩:=rF M r x0 x1 ds (some (.dat d)) (some (.dat d)) λd hd=>h d (adf _ hd);refine⟨x2',x3',?_⟩;have hd:=h d adg;rw[ada,gJ (Z1:=[x0,x1,some (.dat d),some (.dat d)]) (by simp) (Z2:=[x0,x1,some (.dat d),some (.dat d)]) (M2:=M) (by simp[uN,hd])];exact ih
theorem jB(M:Mo):∀(n:Nat) (d:Dat),lk n d=true->bF (n+1) M [d,d]=.ok (.bool true):=by
 intro n
 induction n with
 |zero=>
  intro d h;show mQ 4 (nZ (bF 0)) M [d,d]=_;unfold nZ;cases d with
  |none=>simp[gq]
  |bool b=>cases b<;>simp[gq]
  |int i=>simp[gq,nM,pB,yu]
  |str x=>simp[gq,nM,pB]
  |list ds=>simp[lk]at h
  |tuple ds=>simp[lk]at h
  |dict kv=>simp[lk]at h
 |succ n ih=>
  intro d h;show mQ 4 (nZ (bF (n+1))) M [d,d]=_;unfold nZ;cases d with
  |none=>simp[gq]
  |bool b=>cases b<;>simp[gq]
  |int i=>simp[gq,nM,pB,yu]
  |str x=>simp[gq,nM,pB]
  |list ds=>
   rw[lk,jy]at h;obtain⟨x2',x3',e⟩:=rF M (bF (n+1)) (some (.dat (.list ds))) (some (.dat (.list ds))) ds none none λd hd=>ih d (h d hd);simp[gq,nM,pB,zip_self,e]
  |tuple ds=>
   rw[lk,jy]at h;obtain⟨x2',x3',e⟩:=rF M (bF (n+1)) (some (.dat (.tuple ds))) (some (.dat (.tuple ds))) ds none none λd hd=>ih d (h d hd);simp[gq,nM,pB,zip_self,e]
  |dict kv=>simp[lk]at h
abbrev Row3:=Int×Int×List Int
def aD(r:Row3):Dat:=.tuple [.int r.1,.int r.2.1,aM r.2.2]
structure qH where
 held:List Row3
structure Lay where
 r:Nat
def bU(c:qH):Inst:=⟨"Rights",[("held",.dic true (c.held.map λr=>(aD r,.bool true)))]⟩
theorem cG{M:Mo}{h k:Nat}{i j:Inst}(hm:M[h]?=some j):(M.set h i)[k]?=if h=k then some i else M[k]?:=by
 have hl:h<M.length:=(adb.mp hm).1;rw[aec];by_cases e:h=k
 .subst e;rw[aer rfl,aer hl,aer rfl]
 .rw[aes e,aes e]
theorem NK{M:Mo}{h:Nat}{i:Inst}(e:M[h]?=some i):M.set h i=M:=by
 apply List.ext_getElem?;intro k;rw[cG e];split
 .next z=>rw[<-z,e]
 .rfl
theorem any_ints(y:Int)(l:List Int):((l.map PyData.int).any λd=>PyData.eqv d (.int y))=decide (y∈l):=by
 induction l with
 |nil=>simp
 |cons x l ih=>
  rw[ada,adU,ih,Cm];by_cases h:x=y
  .simp[h]
  .have:¬y=x:=λz=>h z.symm;simp[h,this]
theorem Rp(neg:Bool)(y:Int)(l:List Int):inD neg (.int y) (lI l)=.ok (.bool (neg ^^ decide (y∈l))):=by
 show(Out.when (okd 12 (.int y)&&bQ 12 (l.map PyData.int)) (.ok ((l.map PyData.int).any λz=>PyData.eqv z (.int y)))).bind _=_
 rw[any_ints,Rv,Kf];rfl
def pD(p:Int×Int):Dat:=.tuple [.int p.1,.int p.2]
theorem Dc:∀(x y:List Int),j9 (x.map PyData.int) (y.map PyData.int)=(x.zip y).map pD
 |[],_=>by simp[j9]
 |_::_,[]=>by simp[j9]
 |a::x,b::y=>by
  have:=Dc x y;unfold j9 at this |-
  rw[ada,ada,List.zipWith_cons_cons,this,ad8,ada];rfl
def sY(f:Int):Int:=if f=9 then -1 else if f=8 then 3 else if f=7 then 2 else if f=6 then 1 else if f=5 then 1 else 0
def wB(d f:Int):Int:=Cd 0 (if d+sY f<9 then d+sY f else 9)
def Gg(x f:List Int):List Int:=(x.zip f).map λp=>wB p.1 p.2
theorem Jx(M:Mo)(x0 x1:Option Cell)(acc:List Dat)(d f:Int)(x5:Option Cell)(hf:0<=f/\f<10)(hl:acc.length<1000):∃x5',uR M [x0,x1,some (.mut acc),some (.dat (.int d)),some (.dat (.int f)),x5]=.next [x0,x1,some (.mut (acc++[.int (wB d f)])),some (.dat (.int d)),some (.dat (.int f)),x5'] M:=by
 have hl2:acc.length<100000:=by omega
 have key:∀k:Nat,k<10->([0,0,0,0,0,1,1,2,3,-1]:List Int)[k]?=some (sY k):=by decide
 obtain⟨k,rfl⟩:∃k:Nat,f=k:=⟨f.toNat,by omega⟩;have hk:=key k (by omega);have h2:atI (([0,0,0,0,0,1,1,2,3,-1]:List Int).map PyData.int) (k:Int)=some (.int (sY k)):=atI_nat (by rw[adq,hk];rfl);refine⟨some (.dat (.int (sY k))),?_⟩;have h3:aV (aG 5) (gOf (aA bG (dh (ao (qC (.int 0)) (ao (qC (.int 0)) (ao (qC (.int 0)) (ao (qC (.int 0)) (ao (qC (.int 0)) (ao (qC (.int 1)) (ao (qC (.int 1)) (ao (qC (.int 2)) (ao (qC (.int 3)) (ao (fD wN (qC (.int 1))) aH))))))))))) (ak 4))) M [x0,x1,some (.mut acc),some (.dat (.int d)),some (.dat (.int k)),x5]=.next [x0,x1,some (.mut acc),some (.dat (.int d)),some (.dat (.int k)),some (.dat (.int (sY k)))] M:=by
  show(((match atI (([0,0,0,0,0,1,1,2,3,-1]:List Int).map PyData.int) (k:Int) with
   |some d=>Out.ok d
   |none=>.bad).at M).then _ λd M'=>_)=_
  rw[h2];rfl
 show aK _ _ _ _=_;rw[R5,h3];simp[hl2,wB,Cd]
theorem yP(M:Mo)(x0 x1:Option Cell):∀(ps:List (Int×Int)) (acc:List Dat) (x3 x4 x5:Option Cell),(∀p∈ps,0<=p.2/\p.2<10)->acc.length+ps.length<=500->∃x3' x4' x5',dI (cA [3,4]) uR (ps.map pD) M [x0,x1,some (.mut acc),x3,x4,x5]=.next [x0,x1,some (.mut (acc++ps.map λp=>.int (wB p.1 p.2))),x3',x4',x5'] M
 |[],acc,x3,x4,x5,_,_=>⟨x3,x4,x5,by simp[dI]⟩
 |p::ps,acc,x3,x4,x5,h,hl=>by
  rw[adl]at hl;obtain⟨x5',e⟩:=Jx M x0 x1 acc p.1 p.2 x5 (h p adg) (by omega);obtain⟨y3,y4,y5,ih⟩:=yP M x0 x1 ps (acc++[.int (wB p.1 p.2)]) (some (.dat (.int p.1))) (some (.dat (.int p.2))) x5' (λq hq=>h q (adf _ hq)) (by simp;omega);refine⟨y3,y4,y5,?_⟩;rw[ada,gJ (Z1:=[x0,x1,some (.mut acc),some (.dat (.int p.1)),some (.dat (.int p.2)),x5]) (by simp[pD]) e,ih];simp
theorem RP(M:Mo)(x f:List Int)(hx:x.length<=100)(hf:∀d∈f,0<=d/\d<10):j5 M [aM x,lI f]=.ok (aM (Gg x f)):=by obtain⟨y3,y4,y5,e⟩:=yP M (some (.dat (aM x))) (some (.dat (lI f))) (x.zip f) [] none none none (λp hp=>hf _ (List.of_mem_zip hp).2) (by simp;omega);simp[j5,CW,Dc,e,Gg]
theorem Il(M:Mo)(x:Int):∃y,jg M [.int x]=.ok (.int y):=by
 have hp:decide (CPow 10 30)=true:=decide_eq_true ⟨by decide,by decide,by decide⟩;by_cases h:x<0
 .exact⟨_,by simp[jg,zV,hp,h];rfl⟩
 .exact⟨_,by simp[jg,zV,hp,h];rfl⟩
theorem Pu{α:Type}(l:List α)(a b:Nat)(h:a<=b):(Rf.cutD l (some (a:Int)) (some (b:Int))).length<=b-a:=by unfold Rf.cutD;rw[HT.sIx_nat,HT.sIx_nat,List.length_take];omega
theorem DY(l:List Int)(lo hi:Option Int):Rf.cutD (l.map PyData.int) lo hi=(Rf.cutD l lo hi).map PyData.int:=by unfold Rf.cutD;rw[adi,List.map_take,List.map_drop]
theorem QD(o g:Int)(m:List Int)(o' g':Int)(m':List Int):PyData.eqv (aD (o,g,m)) (aD (o',g',m'))=decide ((o,g,m)=(o',g',m')):=by simp only[aD,UW,Fd,Cm,uh,Fp,Bool.and_true];by_cases h1:o=o'<;>by_cases h2:g=g'<;>by_cases h3:m=m'<;>simp[h1,h2,h3]
theorem Ab(r s:Row3):PyData.eqv (aD r) (aD s)=decide (r=s):=QD _ _ _ _ _ _
theorem zf:∀l:List Int,ji (l.map PyData.int)=some (l.map NestedKey.num)
 |[]=>rfl
 |i::l=>by rw[ada,ji,zf l];rfl
theorem Wf(r:Row3):gH (aD r)=some (.tup [.num r.1,.num r.2.1,.tup (r.2.2.map .num)]):=by simp[aD,gH,ji,zf]
theorem depth_ints:∀l:List Int,NestedKey.depthAll (l.map NestedKey.num)<=1
 |[]=>by simp[NestedKey.depthAll]
 |i::l=>by
  have:=depth_ints l;simp[NestedKey.depthAll,NestedKey.depth];omega
theorem xR(kvs:List (Dat×Dat))(r:Row3):dhas true kvs (aD r)=.ok (kvs.any λp=>PyData.eqv p.1 (aD r)):=by
 have hk:=Wf r;have hd:NestedKey.depth (.tup [.num r.1,.num r.2.1,.tup (r.2.2.map .num)])<=8:=by have:=depth_ints r.2.2;simp[NestedKey.depth,NestedKey.depthAll];omega
 show(match gH (aD r) with
  |some k=>match decide (k.depth<=8) with
   |true=>Out.ok (kvs.any λp=>PyData.eqv p.1 (aD r))
   |false=>.bad
  |none=>.bad)=_
 rw[hk]
 show(match decide (NestedKey.depth (.tup [.num r.1,.num r.2.1,.tup (r.2.2.map .num)])<=8) with
   |true=>Out.ok (kvs.any λp=>PyData.eqv p.1 (aD r))
   |false=>.bad)=_
 rw[decide_eq_true hd]
theorem Bw(held:List Row3)(r:Row3):((held.map λr=>(aD r,PyData.bool true)).any λp=>PyData.eqv p.1 (aD r))=decide (r∈held):=by
 induction held with
 |nil=>simp
 |cons s held ih=>
  rw[ada,adU,ih,Ab];by_cases h:s=r
  .simp[h]
  .have:¬r=s:=λz=>h z.symm;simp[h,this]
def aJ(c:qH)(o g:Int):List (List Int):=(c.held.filter λr=>(r.1==o)&&(r.2.1==g)).map λr=>r.2.2
section
variable{M:Mo}{L:Lay}{c:qH}(hr:M[L.r]?=some (bU c))(few:c.held.length<=50000)
include hr few
theorem uO(o g:Int):fu M [ob L.r,.int o,.int g]=.ok (.list ((aJ c o g).map aM)):=by
 have key:=fG (tg:=cA [3,4,5]) (tt:=iy (aY (aA cP (ak 3) (ak 1))) (aY (aA cP (ak 4) (ak 2)))) (te:=aq 5) (M:=M) (Z:=[some (.dat (ob L.r)),some (.dat (.int o)),some (.dat (.int g)),none,none,none]) aD (λr=>(r.1==o)&&(r.2.1==g)) (λr=>aM r.2.2) c.held λr _=>⟨[some (.dat (ob L.r)),some (.dat (.int o)),some (.dat (.int g)),some (.dat (.int r.1)),some (.dat (.int r.2.1)),some (.dat (aM r.2.2))],by simp[aD],by
  by_cases h:r.1=o<;>simp[h],λ_=>by simp⟩
 have e:(c.held.map λr=>(aD r,PyData.bool true)).map (·.1)=c.held.map aD:=by simp
 simp[fu,jH,hr,bU,aJ];simp[ad4,key,few]
theorem Ah(o g:Int):cX M [ob L.r,.int o,.int g]=.ok (.bool (decide (aJ c o g≠[]))):=by have h:=uO hr few o g;simp[cX,gK,hr,bU,aO,h,List.length_pos_iff]
theorem zA(near:List Int):bH M [ob L.r,lI near]=.ok (.list ((c.held.filter λr=>decide (r.2.1∈near)).map λr=>Ear.rD (r.1,r.2.2))):=by have key:=fG (tg:=cA [2,3,4]) (tt:=aY (aA (inD false) (ak 3) (ak 1))) (te:=dh (ao (aq 2) (ao (aq 4) aH))) (M:=M) (Z:=[some (.dat (ob L.r)),some (.dat (lI near)),none,none,none]) aD (λr=>decide (r.2.1∈near)) (λr=>Ear.rD (r.1,r.2.2)) c.held λr _=>⟨[some (.dat (ob L.r)),some (.dat (lI near)),some (.dat (.int r.1)),some (.dat (.int r.2.1)),some (.dat (aM r.2.2))],by simp[aD],by simp[Rp],λ_=>by simp[Ear.rD,Ear.dT]⟩;simp[bH,fY,hr,bU];simp[ad4,key,few]
theorem Du:dB M [ob L.r]=.ok (.list (c.held.map aD)):=by simp[dB,iI,hr,bU,ad4]
theorem Ae(o g:Int)(m:List Int):if (o,g,m)∈c.held then bL M [ob L.r,.int o,.int g,aM m]=.exc ⟨"HasRight",[]⟩ M else
  bL M [ob L.r,.int o,.int g,aM m]=.ok .none (M.set L.r (bU { c with held:=c.held++[(o,g,m)] })):=by
 have h1:=xR (c.held.map λr=>(aD r,PyData.bool true)) (o,g,m);rw[Bw]at h1;simp only[aD]at h1;have f2:c.held.length<100000:=by omega
 by_cases h:(o,g,m)∈c.held
 .rw[aer h];simp[h]at h1;simp[bL,dY,hr,bU,aD,h1]
 .rw[aes h];simp[h]at h1;simp[bL,dY,hr,bU,aD,h1,f2]
end
theorem Ir(held:List Row3)(r:Row3):((held.map λr=>(aD r,PyData.bool true)).filter λp=>!PyData.eqv p.1 (aD r))=(held.filter λs=>decide (s≠r)).map λr=>(aD r,PyData.bool true):=by
 induction held with
 |nil=>rfl
 |cons s held ih=>
  simp only[ada,adQ,Ab,ih];by_cases h:s=r<;>simp[h]
def zG(o g:Int)(k:List (List Int))(s:List Row3):List Row3:=k.foldl (λs mk=>s.filter λr=>decide (r≠(o,g,mk))) s
section
variable{M:Mo}{L:Lay}{c:qH}(hr:M[L.r]?=some (bU c))
include hr
theorem zp(o g:Int)(all:List (List Int)):∀(k:List (List Int)) (s:List Row3) (x:Option Cell),k.Nodup->(∀mk∈k,(o,g,mk)∈s)->s.length<=50000->
  ∃x',dI (aG 4) je (k.map aM) (M.set L.r (bU { c with held:=s })) [some (.dat (ob L.r)),some (.dat (.int o)),some (.dat (.int g)),some (.dat (.list (all.map aM))),x]=.next [some (.dat (ob L.r)),some (.dat (.int o)),some (.dat (.int g)),some (.dat (.list (all.map aM))),x'] (M.set L.r (bU { c with held:=zG o g k s }))
 |[],s,x,_,_,_=>⟨x,rfl⟩
 |mk::k,s,x,nd,h,hf=>by
  have hl:∀i,(M.set L.r i)[L.r]?=some i:=λi=>by rw[cG hr,aer rfl]
  rw[aeg]at nd;have h1:=xR (s.map λr=>(aD r,PyData.bool true)) (o,g,mk);rw[Bw,decide_eq_true (h mk adg)]at h1;have h2:=Ir s (o,g,mk);have f2:s.length<=100000:=by omega
  obtain⟨x',ih⟩:=zp o g all k (s.filter λr=>decide (r≠(o,g,mk))) (some (.dat (aM mk))) nd.2 (λz hz=>by
   rw[aea];refine⟨h z (adf _ hz),decide_eq_true λe=>?_⟩;have:z=mk:=by simpa using e
   exact nd.1 (this ▸ hz)) (aed (adL _ _) hf)
  refine⟨x',?_⟩;rw[ada,gJ (Z1:=[some (.dat (ob L.r)),some (.dat (.int o)),some (.dat (.int g)),some (.dat (.list (all.map aM))),some (.dat (aM mk))]) (M2:=M.set L.r (bU { c with held:=s.filter λr=>decide (r≠(o,g,mk)) })) (Z2:=[some (.dat (ob L.r)),some (.dat (.int o)),some (.dat (.int g)),some (.dat (.list (all.map aM))),some (.dat (aM mk))]) (by simp) ?_,ih]
  .rfl
  .have h1':dhas true (s.map λr=>(aD r,PyData.bool true)) (.tuple [.int o,.int g,aM mk])=.ok true:=h1;have h2':((s.map λr=>(aD r,PyData.bool true)).filter λp=>!PyData.eqv p.1 (.tuple [.int o,.int g,aM mk]))=(s.filter λs=>decide (s≠(o,g,mk))).map λr=>(aD r,PyData.bool true):=h2;simp[je,hl,bU,h1',f2];rw[h2'];simp
end
theorem Cu(o g:Int):∀(k:List (List Int)) (s:List Row3),zG o g k s=s.filter λr=>decide (∀mk∈k,r≠(o,g,mk))
 |[],s=>(ad6.mpr (by simp)).symm
 |mk::k,s=>by
  show zG o g k (s.filter _)=_;rw[Cu o g k,List.filter_filter];congr 1;funext r;by_cases h1:r=(o,g,mk)<;>simp[h1]
def dropped(c:qH)(o g:Int):List Row3:=c.held.filter λr=>!((r.1==o)&&(r.2.1==g))
theorem HJ(c:qH)(o g:Int):zG o g (aJ c o g) c.held=dropped c o g:=by
 rw[Cu];unfold dropped;refine List.filter_congr λr hr=>?_;obtain⟨x,y,z⟩:=r;by_cases h:x=o/\y=g
 .obtain⟨rfl,rfl⟩:=h;have:z∈aJ c x y:=by
   unfold aJ;rw[ado];exact⟨(x,y,z),by rw[aea];exact⟨hr,by simp⟩,rfl⟩
  simp;exact this
 .have e:(!((x==o)&&(y==g)))=true:=by
   by_cases h1:x=o<;>by_cases h2:y=g<;>simp_all
  have e2:∀mk∈aJ c o g,(x,y,z)≠(o,g,mk):=λmk _ z=>by
   simp at z;exact h ⟨z.1,z.2.1⟩
  rw[e,decide_eq_true e2]
theorem Dy{c:qH}(h:c.held.Nodup)(o g:Int):(aJ c o g).Nodup:=by
 unfold aJ;have h1:(c.held.filter λr=>(r.1==o)&&(r.2.1==g)).Nodup:=h.filter _;unfold List.Nodup at h1 |-
 rw[List.pairwise_map];refine List.Pairwise.imp_of_mem (λ{r s} hr hs ne e=>ne ?_) h1;rw[aea]at hr hs;obtain⟨r1,r2,r3⟩:=r;obtain⟨s1,s2,s3⟩:=s;have:=hr.2;have:=hs.2;simp at *;obtain⟨rfl,rfl⟩:=hr.2;obtain⟨rfl,rfl⟩:=hs.2;exact⟨rfl,rfl,e⟩
section
variable{M:Mo}{L:Lay}{c:qH}(hr:M[L.r]?=some (bU c))(few:c.held.length<=50000)(nd:c.held.Nodup)
include hr few nd
theorem Rz(o g:Int):if aJ c o g=[] then cO M [ob L.r,.int o,.int g]=.exc ⟨"NoRight",[]⟩ M else
  cO M [ob L.r,.int o,.int g]=.ok (.list ((aJ c o g).map aM)) (M.set L.r (bU { c with held:=dropped c o g })):=by
 have h1:=uO hr few o g;by_cases h:aJ c o g=[]
 .rw[aer h];rw[h]at h1;simp[cO,iT,hr,bU,aO,h1]
 .rw[aes h];obtain⟨x',key⟩:=zp hr o g (aJ c o g) (aJ c o g) c.held none (Dy nd o g) (λmk hm=>by
   unfold aJ at hm;rw[ado]at hm;obtain⟨⟨r1,r2,r3⟩,h3,rfl⟩:=hm;rw[aea]at h3;have:=h3.2;simp at this;obtain⟨rfl,rfl⟩:=this;exact h3.1) few
  have e:(bU { c with held:=c.held })=bU c:=rfl;rw[e,NK hr,HJ]at key;have he:(aJ c o g).isEmpty=false:=by
   cases hm:aJ c o g with
   |nil=>exact absurd hm h
   |cons _ _=>rfl
  simp[cO,iT,hr,bU,aO,h1,he];simp[key];rfl
end
def fH(acc:List Row3)(r:Row3):List Row3:=if r∈acc then acc else acc++[r]
def gD(e h:Int)(r:Row3):Row3:=(if r.1=e then h else r.1,r.2.1,r.2.2)
def handed(c:qH)(e h:Int):List Row3:=(c.held.map (gD e h)).foldl fH []
theorem DW{tg:bR}{tk:QF}{M:Mo}{Z:Rf.Env}(f:Row3->Row3):∀(xs acc:List Row3),(∀x∈xs,∃Z1,tg (aD x) Z=some Z1/\tk M Z1=.ok (aD (f x)))->mU tg tk M Z (xs.map aD) (acc.map λr=>(aD r,PyData.bool true))=.ok (((xs.map f).foldl fH acc).map λr=>(aD r,PyData.bool true))
 |[],acc,_=>rfl
 |x::xs,acc,h=>by
  obtain⟨Z1,h1,h2⟩:=h x adg;rw[ada,mU,h1]
  show((kW (tk M Z1)).bind λkd=>(dhas true _ kd).bind λr=>_)=_
  rw[h2,S9,Out.yc,xR,Bw,Out.yc,ada,List.foldl_cons];have ih:=DW f xs (fH acc (f x)) λy hy=>h y (adf _ hy);unfold fH at ih |-
  by_cases hm:f x∈acc
  .rw[aer hm]at ih |-
   rw[decide_eq_true hm];exact ih
  .rw[aes hm]at ih |-
   rw[decide_eq_false hm];rw[adI]at ih;exact ih
section
variable{M:Mo}{L:Lay}{c:qH}(hr:M[L.r]?=some (bU c))(few:c.held.length<=50000)
include hr few
theorem CJ(e h:Int):cY M [ob L.r,.int e,.int h]=.ok .none ((M++[(⟨"",[]⟩:Inst)]).set L.r (bU { c with held:=handed c e h })):=by
 have hl:L.r<M.length:=(adb.mp hr).1;have hr2:(M++[(⟨"",[]⟩:Inst)])[L.r]?=some (bU c):=by rw[adp hl];exact hr
 have key:=DW (tg:=cA [3,4,5]) (tk:=dh (ao (Bo (aY (aA cP (ak 3) (ak 1))) (aq 2) (aq 3)) (ao (aq 4) (ao (aq 5) aH)))) (M:=M) (Z:=[some (.dat (ob L.r)),some (.dat (.int e)),some (.dat (.int h)),none,none,none]) (gD e h) c.held [] λr _=>⟨[some (.dat (ob L.r)),some (.dat (.int e)),some (.dat (.int h)),some (.dat (.int r.1)),some (.dat (.int r.2.1)),some (.dat (aM r.2.2))],by simp[aD],by
  by_cases z:r.1=e<;>simp[z,gD,aD]⟩
 simp only[ad5]at key;simp[cY,gU,hr,hr2,bU,jZ];simp[ad4,key,few,handed]
end
theorem eq_nil(xs:List Dat)(h:bQ 11 xs=true):cP (.list xs) (.list [])=.ok (.bool xs.isEmpty)/\eE (.list xs) (.list [])=.ok (.bool (!xs.isEmpty)):=by
 have e:eqB (.list xs) (.list [])=.ok xs.isEmpty:=by
  show Out.when (okd 12 (.list xs)&&okd 12 (.list [])) (.ok (PyData.eqv (.list xs) (.list [])))=_;rw[okd,okd,h];cases xs with
  |nil=>rw[Ks,Fp];rfl
  |cons a r=>rw[Ks,QS];rfl
 unfold cP eE;rw[e];exact⟨rfl,rfl⟩
theorem ne_self{d:Dat}(h:okd 12 d=true)(hk:∃ds,d=.list ds):eE d d=.ok (.bool false):=by
 obtain⟨ds,rfl⟩:=hk;have e:eqB (.list ds) (.list ds)=.ok true:=by show Out.when (okd 12 (.list ds)&&okd 12 (.list ds)) (.ok (PyData.eqv (.list ds) (.list ds)))=_;rw[h,M4 h];rfl
 unfold eE;rw[e];rfl
theorem yj(n:Nat)(l:List Int):okd (n+1) (aM l)=true:=by
 show okd (n+1) (.tuple (l.map PyData.int))=true;rw[okd];exact jE.mpr λd h=>by
  obtain⟨i,_,rfl⟩:=ado.mp h;rw[okd]
theorem IK(n:Nat)(r:Row3):okd (n+2) (aD r)=true:=by show okd (n+2) (.tuple [.int r.1,.int r.2.1,aM r.2.2])=true;rw[okd,bQ,bQ,bQ,bQ,yj,okd,okd];rfl
theorem rG(n:Nat)(r:Int×List Int):okd (n+2) (Ear.rD r)=true:=by show okd (n+2) (.tuple [.int r.1,aM r.2])=true;rw[okd,bQ,bQ,bQ,yj,okd];rfl
theorem Fv(n:Nat)(h:List Row3):bQ (n+2) (h.map aD)=true:=jE.mpr λd hd=>by
 obtain⟨r,_,rfl⟩:=ado.mp hd;exact IK n r
theorem qT(n:Nat)(h:List (List Int)):bQ (n+1) (h.map aM)=true:=jE.mpr λd hd=>by
 obtain⟨r,_,rfl⟩:=ado.mp hd;exact yj n r
theorem xq(n:Nat)(h:List (Int×List Int)):bQ (n+2) (h.map Ear.rD)=true:=jE.mpr λd hd=>by
 obtain⟨r,_,rfl⟩:=ado.mp hd;exact rG n r
theorem Ew(neg:Bool)(r:Row3)(h:List Row3):inD neg (aD r) (.list (h.map aD))=.ok (.bool (neg ^^ decide (r∈h))):=by
 have e:(h.map aD).any (λz=>PyData.eqv z (aD r))=decide (r∈h):=by
  induction h with
  |nil=>simp
  |cons s h ih=>
   rw[ada,adU,ih,Ab];by_cases q:s=r
   .simp[q]
   .have:¬r=s:=λz=>q z.symm;simp[q,this]
 have:inB (aD r) (.list (h.map aD))=.ok (decide (r∈h)):=by show Out.when (okd 12 (aD r)&&bQ 12 (h.map aD)) (.ok ((h.map aD).any λz=>PyData.eqv z (aD r)))=_;rw[IK,Fv,e];rfl
 unfold inD;rw[this];rfl
@[simp]theorem ZR (j:Nat) (M:Mo) (Z:Rf.Env):jR j M Z=match Z[j]? with
 |some (some (.mut _))=>.next (Z.set j (some (.mut []))) M
 |_=>.bad:=rfl
@[simp]theorem acM (h:Nat):lf (ob h)=true:=by show lf (.dict _)=true;rw[lf]
@[simp]theorem Ar (l:List Int):lf (aM l)=true:=by show lf (.tuple (l.map PyData.int))=true;simp
theorem WQ(r:Row3):lf (aD r)=true:=by show lf (.tuple [.int r.1,.int r.2.1,aM r.2.2])=true;simp[Ar]
theorem wF(h:List Row3):dJ (h.map aD)=true:=lN.mpr λd hd=>by
 obtain⟨r,_,rfl⟩:=ado.mp hd;exact WQ r
theorem LK(h:List (List Int)):dJ (h.map aM)=true:=lN.mpr λd hd=>by
 obtain⟨r,_,rfl⟩:=ado.mp hd;exact Ar r
theorem R4(h:List (Int×List Int)):dJ (h.map Ear.rD)=true:=lN.mpr λd hd=>by
 obtain⟨r,_,rfl⟩:=ado.mp hd;show lf (.tuple [.int r.1,aM r.2])=true;simp[Ar]
theorem Ag(n:Nat)(l:List Int):lk (n+1) (aM l)=true:=by show lk (n+1) (.tuple (l.map PyData.int))=true;rw[lk];exact Lp n l
theorem DP(h:List Row3):lk 9 (.list (h.map aD))=true:=by
 rw[lk];exact jy.mpr λd hd=>by
  obtain⟨r,_,rfl⟩:=ado.mp hd;show lk 8 (.tuple [.int r.1,.int r.2.1,aM r.2.2])=true;simp[lk,vD,Ag]
theorem El(h:List (List Int)):lk 9 (.list (h.map aM))=true:=by
 rw[lk];exact jy.mpr λd hd=>by
  obtain⟨r,_,rfl⟩:=ado.mp hd;exact Ag 7 r
theorem Le(h:List (Int×List Int)):lk 9 (.list (h.map Ear.rD))=true:=by
 rw[lk];exact jy.mpr λd hd=>by
  obtain⟨r,_,rfl⟩:=ado.mp hd;show lk 8 (.tuple [.int r.1,aM r.2])=true;simp[lk,vD,Ag]
def RM(h:List Row3)(n:Nat):Mo:=bU ⟨h⟩::List.replicate n ⟨"",[]⟩
theorem lU(h:List Row3)(n:Nat):(RM h n)[(⟨0⟩:Lay).r]?=some (bU ⟨h⟩):=rfl
theorem zN(h:List Row3)(n:Nat):jL (RM h n)=true:=by
 have e:dJ ((h.map λr=>(aD r,PyData.bool true)).map (·.1))=true:=by rw[aee];exact wF h
 have e2:dJ ((h.map λr=>(aD r,PyData.bool true)).map (·.2))=true:=by
  rw[aee];exact lN.mpr λd hd=>by
   obtain⟨r,_,rfl⟩:=ado.mp hd;exact Rc true
 have e3:DR (.dic true (h.map λr=>(aD r,PyData.bool true)))=true:=by
  show(dJ ((h.map λr=>(aD r,PyData.bool true)).map (·.1))&&dJ ((h.map λr=>(aD r,PyData.bool true)).map (·.2)))=true
  rw[e,e2];rfl
 show(DR (.dic true (h.map λr=>(aD r,PyData.bool true)))&&true&&(List.replicate n (⟨"",[]⟩:Inst)).all λi=>i.fs.all λp=>DR p.2)=true
 rw[e3];simp
theorem QZ(h h2:List Row3)(n:Nat):(RM h n++[(⟨"",[]⟩:Inst)]).set 0 (bU ⟨h2⟩)=RM h2 (n+1):=by
 show bU ⟨h2⟩::(List.replicate n (⟨"",[]⟩:Inst)++[⟨"",[]⟩])=bU ⟨h2⟩::List.replicate (n+1) ⟨"",[]⟩
 rw[List.replicate_succ']
theorem uw(M:Mo)(x0:Option Cell)(e h:Int):∀(xs acc:List Row3) (x4 x5 x6 x7:Option Cell),acc.length+xs.length<=1000->∃y4 y5 y6 y7,dI (cA [4,5,6]) fJ (xs.map aD) M [x0,some (.dat (.int e)),some (.dat (.int h)),some (.mut (acc.map aD)),x4,x5,x6,x7]=.next [x0,some (.dat (.int e)),some (.dat (.int h)),some (.mut (((xs.map (gD e h)).foldl fH acc).map aD)),y4,y5,y6,y7] M
 |[],acc,x4,x5,x6,x7,_=>⟨x4,x5,x6,x7,rfl⟩
 |r::xs,acc,x4,x5,x6,x7,hl=>by
  rw[adl]at hl;have hp:(fH acc (gD e h r)).length<=acc.length+1:=by
   unfold fH;split
   .omega
   .rw[adY];simp
  obtain⟨y4,y5,y6,y7,ih⟩:=uw M x0 e h xs (fH acc (gD e h r)) (some (.dat (.int r.1))) (some (.dat (.int r.2.1))) (some (.dat (aM r.2.2))) (some (.dat (aD (gD e h r)))) (by omega);refine⟨y4,y5,y6,y7,?_⟩;have hin:=Ew true (gD e h r) acc;have hl2:acc.length<100000:=by omega
  rw[ada,gJ (Z1:=[x0,some (.dat (.int e)),some (.dat (.int h)),some (.mut (acc.map aD)),some (.dat (.int r.1)),some (.dat (.int r.2.1)),some (.dat (aM r.2.2)),x7]) (Z2:=[x0,some (.dat (.int e)),some (.dat (.int h)),some (.mut ((fH acc (gD e h r)).map aD)),some (.dat (.int r.1)),some (.dat (.int r.2.1)),some (.dat (aM r.2.2)),some (.dat (aD (gD e h r)))]) (M2:=M) (by simp[aD]) ?_,ih]
  .rfl
  .unfold gD aD at hin;unfold gD aD;by_cases q:r.1=e
   .rw[aer q]at hin |-
    by_cases q2:(h,r.2.1,r.2.2)∈acc
    .simp[q2,aD]at hin;simp[fJ,q,hin,fH,q2,aD]
    .simp[q2,aD]at hin;simp[fJ,q,hin,fH,q2,aD,hl2]
   .rw[aes q]at hin |-
    by_cases q2:(r.1,r.2.1,r.2.2)∈acc
    .have q3:r∈acc:=q2;simp[q3,aD]at hin;simp[fJ,q,hin,fH,q3,aD]
    .have q3:¬r∈acc:=q2;simp[q3,aD]at hin;simp[fJ,q,hin,fH,q3,aD,hl2]
theorem Hh(M:Mo)(xs:List Row3)(e h:Int)(hl:xs.length<=900):jF M [.list (xs.map aD),.int e,.int h]=.ok (.list ((handed ⟨xs⟩ e h).map aD)):=by obtain⟨y4,y5,y6,y7,k⟩:=uw M (some (.dat (.list (xs.map aD)))) e h xs [] none none none none (by simp;omega);have k:dI (cA [4,5,6]) fJ (xs.map aD) M [some (.dat (.list (xs.map aD))),some (.dat (.int e)),some (.dat (.int h)),some (.mut []),none,none,none,none]=_:=k;simp[jF,uP,k,handed]
theorem Jo(xs:List Row3):∀acc:List Row3,acc.Nodup->(xs.foldl fH acc).Nodup/\(xs.foldl fH acc).length<=acc.length+xs.length:=by
 induction xs with
 |nil=>intro acc h;exact⟨h,by simp⟩
 |cons r xs ih=>
  intro acc h;rw[List.foldl_cons];have hp:(fH acc r).Nodup/\(fH acc r).length<=acc.length+1:=by
   unfold fH;by_cases q:r∈acc
   .rw[aer q];exact⟨h,by omega⟩
   .rw[aes q];refine⟨?_,by simp⟩;rw[List.nodup_append];exact⟨h,by simp,λa ha b hb=>by rw[adu.mp hb];exact λz=>q (z ▸ ha)⟩
  obtain⟨h1,h2⟩:=ih _ hp.1;exact⟨h1,by rw[adl];omega⟩
theorem Ai{h:List Row3}{o g:Int}(e:aJ ⟨h⟩ o g=[]):dropped ⟨h⟩ o g=h:=by
 unfold dropped;unfold aJ at e;rw[List.map_eq_nil_iff,List.filter_eq_nil_iff]at e;exact ad6.mpr λr hr=>by
  have:=e r hr;cases q:(r.1==o)&&(r.2.1==g) with
  |false=>rfl
  |true=>exact absurd q this
def dH(h:List Row3)(near:List Int):List (Int×List Int):=(h.filter λr=>decide (r.2.1∈near)).map λr=>(r.1,r.2.2)
section
variable(h:List Row3)(n:Nat)(hl:h.length<=900)
include hl
theorem ra:dB (RM h n) [ob 0]=.ok (.list (h.map aD)):=Du (lU h n) (by show h.length<=_;omega)
theorem rm(o g:Int):fu (RM h n) [ob 0,.int o,.int g]=.ok (.list ((aJ ⟨h⟩ o g).map aM)):=uO (lU h n) (by show h.length<=_;omega) o g
theorem rh(o g:Int):cX (RM h n) [ob 0,.int o,.int g]=.ok (.bool (decide (aJ ⟨h⟩ o g≠[]))):=Ah (lU h n) (by show h.length<=_;omega) o g
theorem ri(near:List Int):bH (RM h n) [ob 0,lI near]=.ok (.list ((dH h near).map Ear.rD)):=by have:=zA (lU h n) (by show h.length<=_;omega) near;unfold dH;rw[aee];exact this
theorem Mj(o g z:Int):lK (RM h n) [ob 0,.list (h.map aD),.int o,.int g,.int z]=.ok (.bool true):=by
 have a1:=ra h n hl;have a2:=rm h n hl o g;have a3:=rh h n hl o g;have a4:=ri h n hl [z,g,z];have a5:bH (RM h n) [ob 0,.list []]=.ok (.list []):=by
  have:=ri h n hl [];have e:dH h []=[]:=by unfold dH;rw[List.map_eq_nil_iff,List.filter_eq_nil_iff];intro r _;simp
  rw[e]at this;exact this
 have lM:=zN h n;have k1:=fG (tg:=aG 9) (tt:=iy (aY (aA cP (aA bG (ak 9) (qC (.int 0))) (ak 2))) (aY (aA cP (aA bG (ak 9) (qC (.int 1))) (ak 3)))) (te:=aA bG (ak 9) (qC (.int 2))) (M:=RM h n) (Z:=[some (.dat (ob 0)),some (.dat (.list (h.map aD))),some (.dat (.int o)),some (.dat (.int g)),some (.dat (.int z)),some (.mut []),none,none,none,none]) aD (λr=>(r.1==o)&&(r.2.1==g)) (λr=>aM r.2.2) h λr _=>⟨[some (.dat (ob 0)),some (.dat (.list (h.map aD))),some (.dat (.int o)),some (.dat (.int g)),some (.dat (.int z)),some (.mut []),none,none,none,some (.dat (aD r))],by simp,by
  by_cases q:r.1=o<;>simp[aD,q],λ_=>by simp[aD]⟩
 have e1:(h.filter λr=>(r.1==o)&&(r.2.1==g)).map (λr=>aM r.2.2)=(aJ ⟨h⟩ o g).map aM:=by unfold aJ;rw[aee];rfl
 rw[e1]at k1;have k2:=fG (tg:=aG 9) (tt:=jf (aY (aA cP (aA bG (ak 9) (qC (.int 1))) (ak 3))) (aY (aA cP (aA bG (ak 9) (qC (.int 1))) (ak 4)))) (te:=dh (ao (aA bG (ak 9) (qC (.int 0))) (ao (aA bG (ak 9) (qC (.int 2))) aH))) (M:=RM h n) (Z:=[some (.dat (ob 0)),some (.dat (.list (h.map aD))),some (.dat (.int o)),some (.dat (.int g)),some (.dat (.int z)),some (.mut []),some (.dat (.list ((aJ ⟨h⟩ o g).map aM))),none,none,none]) aD (λr=>(r.2.1==g) || (r.2.1==z)) (λr=>Ear.rD (r.1,r.2.2)) h λr _=>⟨[some (.dat (ob 0)),some (.dat (.list (h.map aD))),some (.dat (.int o)),some (.dat (.int g)),some (.dat (.int z)),some (.mut []),some (.dat (.list ((aJ ⟨h⟩ o g).map aM))),none,none,some (.dat (aD r))],by simp,by
  by_cases q:r.2.1=g<;>simp[aD,q],λ_=>by simp[aD,Ear.rD,Ear.dT]⟩
 have e2:(h.filter λr=>(r.2.1==g) || (r.2.1==z)).map (λr=>Ear.rD (r.1,r.2.2))=(dH h [z,g,z]).map Ear.rD:=by unfold dH;rw[aee];congr 1;refine List.filter_congr λr _=>?_;by_cases q1:r.2.1=g<;>by_cases q2:r.2.1=z<;>simp[q1,q2]
 rw[e2]at k2;have i1:=(eq_nil ((aJ ⟨h⟩ o g).map aM) (qT 10 _)).2;have i2:(!((aJ ⟨h⟩ o g).map aM).isEmpty)=decide (aJ ⟨h⟩ o g≠[]):=by cases aJ ⟨h⟩ o g<;>simp
 rw[i2]at i1;have i3:eE (.list [.int z,.int g,.int z]) (.list [.int z,.int g,.int z])=.ok (.bool false):=ne_self (by simp[okd,bQ]) ⟨_,rfl⟩;have i4:eE (.list []) (.list [])=.ok (.bool false):=ne_self (by simp[okd,bQ]) ⟨_,rfl⟩;have l1:bF 10 (RM h n) [.list (h.map aD),.list (h.map aD)]=.ok (.bool true):=jB _ 9 _ (DP h);have l2:bF 10 (RM h n) [.list ((aJ ⟨h⟩ o g).map aM),.list ((aJ ⟨h⟩ o g).map aM)]=.ok (.bool true):=jB _ 9 _ (El _);have l3:bF 10 (RM h n) [.bool (decide (aJ ⟨h⟩ o g≠[])),.bool (decide (aJ ⟨h⟩ o g≠[]))]=.ok (.bool true):=jB _ 9 _ rfl;have l4:bF 10 (RM h n) [.list ((dH h [z,g,z]).map Ear.rD),.list ((dH h [z,g,z]).map Ear.rD)]=.ok (.bool true):=jB _ 9 _ (Le _);have s1:=wF h;have s2:=R4 (dH h [z,g,z]);have d1:Ak [.int z,.int g,.int z] ((dH h [z,g,z]).map Ear.rD)=true:=by
  cases dH h [z,g,z] with
  |nil=>rfl
  |cons a r=>rfl
 have a4:bH (RM h n) [ob 0,.list [.int z,.int g,.int z]]=.ok (.list ((dH h [z,g,z]).map Ear.rD)):=a4;have hM:(RM h n)[0]?=some (bU ⟨h⟩):=rfl;have h5:h.length<=50000:=by omega
 have hlr:(h.map aD).length<=50000:=by rw[adi];omega
 generalize (dH h [z,g,z]).map Ear.rD=P at *;generalize (aJ ⟨h⟩ o g).map aM=K at *;generalize decide (aJ ⟨h⟩ o g≠[])=B at *;generalize RM h n=M at *;generalize h.map aD=R at *;simp[lK,xV,hM,bU,aX,aO,fZ,aW,a1,a2,a3,a4,a5,lM,l1,l2,l3,l4,k1,k2,i1,i3,i4,s1,s2,d1,hlr]
end
theorem KZ(h:List Row3)(n:Nat)(hl:h.length<=900)(o g:Int)(m:List Int):jD (RM h n) [ob 0,.int o,.int g,aM m]=.ok (.str (if (o,g,m)∈h then "HasRight" else "")) (if (o,g,m)∈h then RM h n else RM (h++[(o,g,m)]) n):=by
 have k:=Ae (L:=⟨0⟩) (c:=⟨h⟩) (lU h n) (by show h.length<=_;omega) o g m;have hM:(RM h n)[0]?=some (bU ⟨h⟩):=rfl;by_cases q:(o,g,m)∈h
 .rw[aer q]at k;have k:bL (RM h n) [ob 0,.int o,.int g,aM m]=.exc ⟨"HasRight",[]⟩ (RM h n):=k
  simp[jD,tO,hM,bU,dU,k,q,ni,jM,uK,gq]
 .rw[aes q]at k;have k:bL (RM h n) [ob 0,.int o,.int g,aM m]=.ok .none (RM (h++[(o,g,m)]) n):=k;simp[jD,tO,hM,bU,dU,k,q,gq]
theorem HX(h:List Row3)(n:Nat)(hl:h.length<=900)(nd:h.Nodup)(o g:Int):gY (RM h n) [ob 0,.int o,.int g]=.ok (if aJ ⟨h⟩ o g=[] then .str "NoRight" else .list ((aJ ⟨h⟩ o g).map aM)) (RM (dropped ⟨h⟩ o g) n):=by
 have k:=Rz (L:=⟨0⟩) (c:=⟨h⟩) (lU h n) (by show h.length<=_;omega) nd o g;have hM:(RM h n)[0]?=some (bU ⟨h⟩):=rfl;by_cases q:aJ ⟨h⟩ o g=[]
 .rw[aer q]at k;have k:cO (RM h n) [ob 0,.int o,.int g]=.exc ⟨"NoRight",[]⟩ (RM h n):=k
  rw[Ai q];simp[gY,m7,hM,bU,iD,k,q,pX,jM,uK]
 .rw[aes q]at k;have k:cO (RM h n) [ob 0,.int o,.int g]=.ok (.list ((aJ ⟨h⟩ o g).map aM)) (RM (dropped ⟨h⟩ o g) n):=k;simp[gY,m7,hM,bU,iD,k,q]
def lA:SF:=
 (aK (aV (aG 12) (gOf (qC (.str "")))) (aK (cC (aY (aA (inD false) (dh (ao (aq 6) (ao (aq 7) (ao (aq 9) aH)))) (ak 2))) (aV (aG 12) (gOf (qC (.str "HasRight")))) (nu 2 (dh (ao (aq 6) (ao (aq 7) (ao (aq 9) aH)))))) (uJ (oZ (CV eE (pO jD (ao (aq 1) (ao (aq 6) (ao (aq 7) (ao (aq 9) aH))))) (ak 12))) (bx (qC (.bool false))) bf)))
def lB:SF:=
 (aK (aV (aG 12) (gOf (d7 (cM (ak 2)) (aG 14) [14] (iy (aY (aA cP (aA bG (ak 14) (qC (.int 0))) (ak 6))) (aY (aA cP (aA bG (ak 14) (qC (.int 1))) (ak 7)))) (aA bG (ak 14) (qC (.int 2)))))) (aK (jm 2 (jd (cM (ak 2)) (aG 14) [14] (jf (aY (aA eE (aA bG (ak 14) (qC (.int 0))) (ak 6))) (aY (aA eE (aA bG (ak 14) (qC (.int 1))) (ak 7)))) (aq 14))) (aK (lY [1,6,7] 13 (pO gY (ao (aq 1) (ao (aq 6) (ao (aq 7) aH))))) (aK (cC (d9 (eZ (bD (bF 10) (ao (aq 13) (ao (Bo (aY (aA eE (ak 12) (ig aH))) (aq 12) (qC (.str "NoRight"))) aH))))) (bx (qC (.bool false))) bf) (cC (aY (aA eE (ak 12) (ig aH))) (jR 13) bf)))))
def lC:SF:=
 (aK (lY [2,6,8] 2 (gOf (bD jF (ao (aq 2) (ao (aq 6) (ao (aq 8) aH)))))) (uJ (oZ (Cj true .none (lF dR (ak 1) (ao (aq 6) (ao (aq 8) aH))))) (bx (qC (.bool false))) bf))
def lE:SF:=
 (cC (jf (d9 (eZ (bD lK (ao (aq 1) (ao (aq 2) (ao (aq 6) (ao (aq 7) (ao (aA eO (qC (.int 1)) (aA cH (aA bG (ak 5) (qC (.int 11))) (qC (.int 4)))) aH)))))))) (aY (aA eE (ak 10) (ak 11)))) (bx (qC (.bool false))) bf)
theorem K7:oV=aK (aV (aG 5) (gOf (bD jr (ao (aq 4) (ao (qC (.int 12)) (ao (qC (.int 10)) aH)))))) (aK (aV (cA [6,7,8]) (gOf (dh (ao (aA eO (qC (.int 1)) (aA cH (aA bG (ak 5) (qC (.int 0))) (qC (.int 4)))) (ao (aA eO (qC (.int 1)) (aA cH (aA bG (ak 5) (qC (.int 1))) (qC (.int 4)))) (ao (aA eO (qC (.int 1)) (aA cH (aA bG (ak 5) (qC (.int 2))) (qC (.int 4)))) aH)))))) (aK (cC (aY (aA cP (aA bG (ak 5) (qC (.int 3))) (qC (.int 9)))) (aV (cA [6,7]) (gOf (dh (ao (bD jg (ao (aq 4) aH)) (ao (bD jg (ao (aA o9 (ak 4) (qC (.int 7))) aH)) aH))))) bf) (aK (aV (aG 9) (gOf (bD j5 (ao (aq 3) (ao (yK (ak 5) (fQ (qC (.int 4))) (fQ (qC (.int 10)))) aH))))) (aK (aV (aG 10) (gOf (ig (ao (bZ aX (ak 1) aH) (ao (bZ aO (ak 1) (ao (aq 6) (ao (aq 7) aH))) (ao (bZ aW (ak 1) (ao (ig (ao (aq 7) aH)) aH)) aH)))))) (aK (aV (aG 11) (gOf (d7 (cM (ak 10)) (aG 14) [14] lg (fD jP (ak 14))))) (aK (cC (aY (aA zm (aA cH (aA bG (ak 5) (qC (.int 10))) (qC (.int 8))) (qC (.int 6)))) lA (cC (aY (aA cP (aA cH (aA bG (ak 5) (qC (.int 10))) (qC (.int 8))) (qC (.int 6)))) lB lC)) lE)))))):=rfl
section
variable(h:List Row3)(n:Nat)(hl:h.length<=800)(o g e:Int)(m:List Int)(x0 x3 x4 x5 x10 x11 x12 x13 x14:Option Cell)
include hl
theorem Yb:∃y12,lA (RM h n) [x0,some (.dat (ob 0)),some (.mut (h.map aD)),x3,x4,x5,some (.dat (.int o)),some (.dat (.int g)),some (.dat (.int e)),some (.dat (aM m)),x10,x11,x12,x13,x14]=.next [x0,some (.dat (ob 0)),some (.mut ((if (o,g,m)∈h then h else h++[(o,g,m)]).map aD)),x3,x4,x5,some (.dat (.int o)),some (.dat (.int g)),some (.dat (.int e)),some (.dat (aM m)),x10,x11,y12,x13,x14] (RM (if (o,g,m)∈h then h else h++[(o,g,m)]) n):=by
 have i1:=Ew false (o,g,m) h;have a1:=KZ h n (by omega) o g m;have h2:h.length<100000:=by omega
 by_cases q:(o,g,m)∈h
 .simp[q,aD]at i1 a1;refine⟨some (.dat (.str "HasRight")),?_⟩
  simp[lA,q,i1,a1,aD]
 .simp[q,aD]at i1 a1;refine⟨some (.dat (.str "")),?_⟩
  simp[lA,q,i1,a1,h2,aD]
theorem Yi(nd:h.Nodup):∃y12 y13,lB (RM h n) [x0,some (.dat (ob 0)),some (.mut (h.map aD)),x3,x4,x5,some (.dat (.int o)),some (.dat (.int g)),some (.dat (.int e)),some (.dat (aM m)),x10,x11,x12,x13,x14]=.next [x0,some (.dat (ob 0)),some (.mut ((dropped ⟨h⟩ o g).map aD)),x3,x4,x5,some (.dat (.int o)),some (.dat (.int g)),some (.dat (.int e)),some (.dat (aM m)),x10,x11,y12,y13,x14] (RM (dropped ⟨h⟩ o g) n):=by
 have a1:=HX h n (by omega) nd o g;have k1:=fG (tg:=aG 14) (tt:=iy (aY (aA cP (aA bG (ak 14) (qC (.int 0))) (ak 6))) (aY (aA cP (aA bG (ak 14) (qC (.int 1))) (ak 7)))) (te:=aA bG (ak 14) (qC (.int 2))) (M:=RM h n) (Z:=[x0,some (.dat (ob 0)),some (.mut (h.map aD)),x3,x4,x5,some (.dat (.int o)),some (.dat (.int g)),some (.dat (.int e)),some (.dat (aM m)),x10,x11,x12,x13,none]) aD (λr=>(r.1==o)&&(r.2.1==g)) (λr=>aM r.2.2) h λr _=>⟨[x0,some (.dat (ob 0)),some (.mut (h.map aD)),x3,x4,x5,some (.dat (.int o)),some (.dat (.int g)),some (.dat (.int e)),some (.dat (aM m)),x10,x11,x12,x13,some (.dat (aD r))],by simp,by
  by_cases q:r.1=o<;>simp[aD,q],λ_=>by simp[aD]⟩
 have e1:(h.filter λr=>(r.1==o)&&(r.2.1==g)).map (λr=>aM r.2.2)=(aJ ⟨h⟩ o g).map aM:=by unfold aJ;rw[aee];rfl
 rw[e1]at k1;have k2:=fG (tg:=aG 14) (tt:=jf (aY (aA eE (aA bG (ak 14) (qC (.int 0))) (ak 6))) (aY (aA eE (aA bG (ak 14) (qC (.int 1))) (ak 7)))) (te:=aq 14) (M:=RM h n) (Z:=[x0,some (.dat (ob 0)),some (.mut (h.map aD)),x3,x4,x5,some (.dat (.int o)),some (.dat (.int g)),some (.dat (.int e)),some (.dat (aM m)),x10,x11,some (.dat (.list ((aJ ⟨h⟩ o g).map aM))),x13,none]) aD (λr=>!((r.1==o)&&(r.2.1==g))) aD h λr _=>⟨[x0,some (.dat (ob 0)),some (.mut (h.map aD)),x3,x4,x5,some (.dat (.int o)),some (.dat (.int g)),some (.dat (.int e)),some (.dat (aM m)),x10,x11,some (.dat (.list ((aJ ⟨h⟩ o g).map aM))),x13,some (.dat (aD r))],by simp,by
  by_cases q:r.1=o<;>simp[aD,q],λ_=>by simp⟩
 have e2:(h.filter λr=>!((r.1==o)&&(r.2.1==g))).map aD=(dropped ⟨h⟩ o g).map aD:=rfl;rw[e2]at k2;have i1:=(eq_nil ((aJ ⟨h⟩ o g).map aM) (qT 10 _)).2;have l1:bF 10 (RM (dropped ⟨h⟩ o g) n) [.list ((aJ ⟨h⟩ o g).map aM),.list ((aJ ⟨h⟩ o g).map aM)]=.ok (.bool true):=jB _ 9 _ (El _);have l2:bF 10 (RM (dropped ⟨h⟩ o g) n) [.str "NoRight",.str "NoRight"]=.ok (.bool true):=jB _ 9 _ rfl
 have s1:=LK (aJ ⟨h⟩ o g);have lM:=zN h n;have lM2:=zN (dropped ⟨h⟩ o g) n;have hlr:(h.map aD).length<=50000:=by rw[adi];omega
 generalize dropped ⟨h⟩ o g=D at *;generalize RM h n=M at *;generalize RM D n=M2 at *;generalize h.map aD=R at *;by_cases q:aJ ⟨h⟩ o g=[]
 .rw[q]at k1 k2 i1;rw[aer q]at a1;simp only[ad5]at k1 k2 i1;refine⟨some (.dat (.list [])),some (.dat (.str "NoRight")),?_⟩
  simp[lB,k1,k2,hlr,lM,lM2,a1,i1,l2]
 .rw[aes q]at a1;have i2:(!((aJ ⟨h⟩ o g).map aM).isEmpty)=true:=by
   cases hm:aJ ⟨h⟩ o g with
   |nil=>exact absurd hm q
   |cons a r=>rfl
  rw[i2]at i1;generalize (aJ ⟨h⟩ o g).map aM=K at *;refine⟨some (.dat (.list K)),some (.mut []),?_⟩;simp[lB,k1,k2,hlr,lM,lM2,a1,i1,l1,s1]
theorem WY:lC (RM h n) [x0,some (.dat (ob 0)),some (.mut (h.map aD)),x3,x4,x5,some (.dat (.int o)),some (.dat (.int g)),some (.dat (.int e)),some (.dat (aM m)),x10,x11,x12,x13,x14]=.next [x0,some (.dat (ob 0)),some (.mut ((handed ⟨h⟩ o e).map aD)),x3,x4,x5,some (.dat (.int o)),some (.dat (.int g)),some (.dat (.int e)),some (.dat (aM m)),x10,x11,x12,x13,x14] (RM (handed ⟨h⟩ o e) (n+1)):=by
 have a1:=Hh (RM h n) h o e (by omega);have a2:=CJ (L:=⟨0⟩) (c:=⟨h⟩) (lU h n) (by show h.length<=_;omega) o e;have a2:cY (RM h n) [ob 0,.int o,.int e]=.ok .none (RM (handed ⟨h⟩ o e) (n+1)):=by
  have e3:(RM h n++[(⟨"",[]⟩:Inst)]).set 0 (bU { (⟨h⟩:qH) with held:=handed ⟨h⟩ o e })=RM (handed ⟨h⟩ o e) (n+1):=QZ h _ n
  rw[<-e3];exact a2
 have hM:(RM h n)[0]?=some (bU ⟨h⟩):=rfl;have lM:=zN h n;have s1:=wF h;have s2:=wF (handed ⟨h⟩ o e);generalize handed ⟨h⟩ o e=D at *;generalize RM h n=M at *;generalize h.map aD=R at *;generalize D.map aD=R2 at *;simp[lC,hM,bU,lM,a1,a2,s1,s2,dR,gq]
end
theorem Ls(l:List Int):Rf.cutD (l.map PyData.int) (some 4) (some 10)=((l.drop 4).take 6).map PyData.int:=by
 rw[DY];unfold Rf.cutD;rw[show((4:Int))=((4:Nat):Int) from rfl,show((10:Int))=((10:Nat):Int) from rfl,HT.sIx_nat,HT.sIx_nat];by_cases h:10<=l.length
 .have m4:min 4 l.length=4:=Nat.min_eq_left (by omega);have m10:min 10 l.length=10:=Nat.min_eq_left h;rw[m4,m10]
 .by_cases h2:4<=l.length
  .have m4:min 4 l.length=4:=Nat.min_eq_left (by omega);have m10:min 10 l.length=l.length:=Nat.min_eq_right (by omega);rw[m4,m10,List.take_of_length_le (by simp),List.take_of_length_le (by simp;omega)]
  .have m4:min 4 l.length=l.length:=Nat.min_eq_right (by omega);have m10:min 10 l.length=l.length:=Nat.min_eq_right (by omega);rw[m4,m10,List.drop_eq_nil_of_le (adz _),List.drop_eq_nil_of_le (by omega)];simp
theorem rW(x:Int)(k:Nat)(h:k<12):atI ((rowOf x 12 10).map PyData.int) (k:Int)=some (.int ((rowOf x 12 10).getD k 0)):=Bs _ k (by rw[Q7];exact h)
theorem Mz(h:List Row3)(n:Nat)(hl:h.length<=700)(nd:h.Nodup)(base:List Int)(hb:base.length<=100)(x:Int)(x0 x5 x6 x7 x8 x9 x10 x11 x12 x13 x14:Option Cell):∃h' n' y5 y6 y7 y8 y9 y10 y11 y12 y13 y14,h'.Nodup/\h'.length<=h.length+1/\oV (RM h n) [x0,some (.dat (ob 0)),some (.mut (h.map aD)),some (.dat (aM base)),some (.dat (.int x)),x5,x6,x7,x8,x9,x10,x11,x12,x13,x14]=.next [x0,some (.dat (ob 0)),some (.mut (h'.map aD)),some (.dat (aM base)),some (.dat (.int x)),y5,y6,y7,y8,y9,y10,y11,y12,y13,y14] (RM h' n'):=by
 have h1:jr (RM h n) [.int x,.int 12,.int 10]=.ok (lI (rowOf x 12 10)):=Io _ x 12 10 (by decide) (by decide) (by decide);have q0:=rW x 0 (by decide);have q1:=rW x 1 (by decide);have q2:=rW x 2 (by decide);have q3:=rW x 3 (by decide);have q10:=rW x 10 (by decide);have q11:=rW x 11 (by decide);have hf:∀d∈((rowOf x 12 10).drop 4).take 6,0<=d/\d<10:=λd hd=>Vx (by decide) x 12 d (List.mem_of_mem_drop (adS hd));have hm:=RP (RM h n) base _ hb hf;have hc:=Ls (rowOf x 12 10);generalize ((rowOf x 12 10).drop 4).take 6=f at *;generalize rowOf x 12 10=p at *;generalize p.getD 0 0=d0 at *;generalize p.getD 1 0=d1 at *;generalize p.getD 2 0=d2 at *;generalize p.getD 3 0=d3 at *;generalize p.getD 10 0=d10 at *;generalize p.getD 11 0=d11 at *;generalize Gg base f=mk at *;simp only[Int.natCast_zero,Int.natCast_one,show((2:Nat):Int)=2 from rfl,show((3:Nat):Int)=3 from rfl,show((10:Nat):Int)=10 from rfl,show((11:Nat):Int)=11 from rfl]at q0 q1 q2 q3 q10 q11;have hd7:∀z,decide (CDiv z 7)=true:=λz=>decide_eq_true ⟨by decide,by decide⟩
 -- the three names
 obtain⟨o,g,e,pick⟩:∃o g e:Int,∀k:SF,aK (aV (cA [6,7,8]) (gOf (dh (ao (aA eO (qC (.int 1)) (aA cH (aA bG (ak 5) (qC (.int 0))) (qC (.int 4)))) (ao (aA eO (qC (.int 1)) (aA cH (aA bG (ak 5) (qC (.int 1))) (qC (.int 4)))) (ao (aA eO (qC (.int 1)) (aA cH (aA bG (ak 5) (qC (.int 2))) (qC (.int 4)))) aH)))))) (aK (cC (aY (aA cP (aA bG (ak 5) (qC (.int 3))) (qC (.int 9)))) (aV (cA [6,7]) (gOf (dh (ao (bD jg (ao (aq 4) aH)) (ao (bD jg (ao (aA o9 (ak 4) (qC (.int 7))) aH)) aH))))) bf) k) (RM h n) [x0,some (.dat (ob 0)),some (.mut (h.map aD)),some (.dat (aM base)),some (.dat (.int x)),some (.dat (lI p)),x6,x7,x8,x9,x10,x11,x12,x13,x14]=k (RM h n) [x0,some (.dat (ob 0)),some (.mut (h.map aD)),some (.dat (aM base)),some (.dat (.int x)),some (.dat (lI p)),some (.dat (.int o)),some (.dat (.int g)),some (.dat (.int e)),x9,x10,x11,x12,x13,x14]:=by
  by_cases z:d3=9
  .obtain⟨y1,c1⟩:=Il (RM h n) x;obtain⟨y2,c2⟩:=Il (RM h n) (x/7);refine⟨y1,y2,1+d2%4,λk=>?_⟩;generalize RM h n=M at *;generalize h.map aD=R at *;simp[q0,q1,q2,q3,z,c1,c2,hd7]
  .refine⟨1+d0%4,1+d1%4,1+d2%4,λk=>?_⟩;generalize RM h n=M at *;generalize h.map aD=R at *;simp[q0,q1,q2,q3,z]
 have a1:=ra h n (by omega);have a2:=rm h n (by omega) o g;have a3:bH (RM h n) [ob 0,.list [.int g]]=.ok (.list ((dH h [g]).map Ear.rD)):=ri h n (by omega) [g];have hM:(RM h n)[0]?=some (bU ⟨h⟩):=rfl
 -- what was told ahead
 let A:List Dat:=[.list (h.map aD),.list ((aJ ⟨h⟩ o g).map aM),.list ((dH h [g]).map Ear.rD)]
 have kc:=rC (tg:=aG 14) (te:=fD jP (ak 14)) (M:=RM h n) (Z:=[x0,some (.dat (ob 0)),some (.mut (h.map aD)),some (.dat (aM base)),some (.dat (.int x)),some (.dat (lI p)),some (.dat (.int o)),some (.dat (.int g)),some (.dat (.int e)),some (.dat (aM mk)),some (.dat (.list A)),x11,x12,x13,none]) (λds:List Dat=>PyData.list ds) (λds=>.list ds) [h.map aD,(aJ ⟨h⟩ o g).map aM,(dH h [g]).map Ear.rD] λds _=>⟨[x0,some (.dat (ob 0)),some (.mut (h.map aD)),some (.dat (aM base)),some (.dat (.int x)),some (.dat (lI p)),some (.dat (.int o)),some (.dat (.int g)),some (.dat (.int e)),some (.dat (aM mk)),some (.dat (.list A)),x11,x12,x13,some (.dat (.list ds))],by simp,by simp⟩;have kc2:bA (aG 14) lg (fD jP (ak 14)) (RM h n) _ A=.ok A:=kc;clear kc;have nA:eE (.list A) (.list A)=.ok (.bool false):=ne_self (by
  show okd 12 (.list [.list (h.map aD),.list ((aJ ⟨h⟩ o g).map aM),.list ((dH h [g]).map Ear.rD)])=true;rw[okd,bQ,bQ,bQ,bQ,okd,okd,okd,Fv,qT,xq]
  rfl) ⟨_,rfl⟩
 have hAe:([.list (h.map aD),.list ((aJ ⟨h⟩ o g).map aM),.list ((dH h [g]).map Ear.rD)]:List Dat)=A:=rfl;have hA3:A.length<=50000:=by show 3<=50000;decide
 have hA4:A.length<=100000:=aed hA3 (by decide);have ahead:∀k:SF,aK (aV (aG 9) (gOf (bD j5 (ao (aq 3) (ao (yK (ak 5) (fQ (qC (.int 4))) (fQ (qC (.int 10)))) aH))))) (aK (aV (aG 10) (gOf (ig (ao (bZ aX (ak 1) aH) (ao (bZ aO (ak 1) (ao (aq 6) (ao (aq 7) aH))) (ao (bZ aW (ak 1) (ao (ig (ao (aq 7) aH)) aH)) aH)))))) (aK (aV (aG 11) (gOf (d7 (cM (ak 10)) (aG 14) [14] lg (fD jP (ak 14))))) k)) (RM h n) [x0,some (.dat (ob 0)),some (.mut (h.map aD)),some (.dat (aM base)),some (.dat (.int x)),some (.dat (lI p)),some (.dat (.int o)),some (.dat (.int g)),some (.dat (.int e)),x9,x10,x11,x12,x13,x14]=k (RM h n) [x0,some (.dat (ob 0)),some (.mut (h.map aD)),some (.dat (aM base)),some (.dat (.int x)),some (.dat (lI p)),some (.dat (.int o)),some (.dat (.int g)),some (.dat (.int e)),some (.dat (aM mk)),some (.dat (.list A)),some (.dat (.list A)),x12,x13,x14]:=λk=>by
  clear pick;have hm:j5 (RM h n) [aM base,.list (f.map PyData.int)]=.ok (aM mk):=hm;generalize RM h n=M at *;generalize A=A' at *;generalize h.map aD=R at *;generalize (aJ ⟨h⟩ o g).map aM=K at *;generalize (dH h [g]).map Ear.rD=P at *;simp[hc,hm,hM,bU,aX,aO,aW,a1,a2,a3,hAe,hA3,hA4,kc2]
 have tailE:∀(h':List Row3) (n':Nat) (y12 y13 y14:Option Cell),h'.length<=900->lE (RM h' n') [x0,some (.dat (ob 0)),some (.mut (h'.map aD)),some (.dat (aM base)),some (.dat (.int x)),some (.dat (lI p)),some (.dat (.int o)),some (.dat (.int g)),some (.dat (.int e)),some (.dat (aM mk)),some (.dat (.list A)),some (.dat (.list A)),y12,y13,y14]=.next [x0,some (.dat (ob 0)),some (.mut (h'.map aD)),some (.dat (aM base)),some (.dat (.int x)),some (.dat (lI p)),some (.dat (.int o)),some (.dat (.int g)),some (.dat (.int e)),some (.dat (aM mk)),some (.dat (.list A)),some (.dat (.list A)),y12,y13,y14] (RM h' n'):=λh' n' y12 y13 y14 hl'=>by
  have r1:=Mj h' n' hl' o g (1+d11%4);clear pick ahead kc2;generalize RM h' n'=M at *;generalize A=A' at *;generalize h'.map aD=R at *;simp[lE,r1,q11,nA]
 rw[K7];have first:∀k:SF,aK (aV (aG 5) (gOf (bD jr (ao (aq 4) (ao (qC (.int 12)) (ao (qC (.int 10)) aH)))))) k (RM h n) [x0,some (.dat (ob 0)),some (.mut (h.map aD)),some (.dat (aM base)),some (.dat (.int x)),x5,x6,x7,x8,x9,x10,x11,x12,x13,x14]=k (RM h n) [x0,some (.dat (ob 0)),some (.mut (h.map aD)),some (.dat (aM base)),some (.dat (.int x)),some (.dat (lI p)),x6,x7,x8,x9,x10,x11,x12,x13,x14]:=λk=>by
  generalize RM h n=M at *;generalize h.map aD=R at *;simp[h1]
 rw[first,pick,ahead];by_cases c6:d10%8<6
 .obtain⟨y12,kA⟩:=Yb h n (by omega) o g e mk x0 (some (.dat (aM base))) (some (.dat (.int x))) (some (.dat (lI p))) (some (.dat (.list A))) (some (.dat (.list A))) x12 x13 x14;have hlen:(if (o,g,mk)∈h then h else h++[(o,g,mk)]).length<=h.length+1/\(if (o,g,mk)∈h then h else h++[(o,g,mk)]).Nodup:=by
   by_cases q:(o,g,mk)∈h
   .rw[aer q];exact⟨by omega,nd⟩
   .rw[aes q];refine⟨by simp,?_⟩;rw[List.nodup_append];exact⟨nd,by simp,λa ha b hb'=>by rw[adu.mp hb'];exact λz=>q (z ▸ ha)⟩
  generalize (if (o,g,mk)∈h then h else h++[(o,g,mk)])=h' at *;have kE:=tailE h' n y12 x13 x14 (by omega);refine⟨h',n,some (.dat (lI p)),some (.dat (.int o)),some (.dat (.int g)),some (.dat (.int e)),some (.dat (aM mk)),some (.dat (.list A)),some (.dat (.list A)),y12,x13,x14,hlen.2,hlen.1,?_⟩;clear tailE pick ahead first kc2;generalize RM h n=M at *;generalize RM h' n=M2 at *;generalize A=A' at *;generalize h.map aD=R at *;generalize h'.map aD=R2 at *;simp[q10,c6,kA,kE]
 .by_cases c66:d10%8=6
  .obtain⟨y12,y13,kB⟩:=Yi h n (by omega) o g e mk x0 (some (.dat (aM base))) (some (.dat (.int x))) (some (.dat (lI p))) (some (.dat (.list A))) (some (.dat (.list A))) x12 x13 x14 nd;have hlen:(dropped ⟨h⟩ o g).length<=h.length+1/\(dropped ⟨h⟩ o g).Nodup:=by
    unfold dropped;exact⟨Nat.le_succ_of_le (adL _ _),nd.filter _⟩
   generalize dropped ⟨h⟩ o g=h' at *;have kE:=tailE h' n y12 y13 x14 (by omega);refine⟨h',n,some (.dat (lI p)),some (.dat (.int o)),some (.dat (.int g)),some (.dat (.int e)),some (.dat (aM mk)),some (.dat (.list A)),some (.dat (.list A)),y12,y13,x14,hlen.2,hlen.1,?_⟩;clear tailE pick ahead first kc2;generalize RM h n=M at *;generalize RM h' n=M2 at *;generalize A=A' at *;generalize h.map aD=R at *;generalize h'.map aD=R2 at *;simp[q10,c66,kB,kE]
  .have kC:=WY h n (by omega) o g e mk x0 (some (.dat (aM base))) (some (.dat (.int x))) (some (.dat (lI p))) (some (.dat (.list A))) (some (.dat (.list A))) x12 x13 x14;have hlen:=Jo (h.map (gD o e)) [] adV;have hlen:(handed ⟨h⟩ o e).Nodup/\(handed ⟨h⟩ o e).length<=h.length+1:=⟨hlen.1,by have:=hlen.2;rw[adi]at this;show(List.foldl fH [] (List.map (gD o e) h)).length<=_;simp at this;omega⟩;generalize handed ⟨h⟩ o e=h' at *;have kE:=tailE h' (n+1) x12 x13 x14 (by omega);refine⟨h',n+1,some (.dat (lI p)),some (.dat (.int o)),some (.dat (.int g)),some (.dat (.int e)),some (.dat (aM mk)),some (.dat (.list A)),some (.dat (.list A)),x12,x13,x14,hlen.1,hlen.2,?_⟩;clear tailE pick ahead first kc2;generalize RM h n=M at *;generalize RM h' (n+1)=M2 at *;generalize A=A' at *;generalize h.map aD=R at *;generalize h'.map aD=R2 at *;simp[q10,c6,c66,kC,kE]
theorem Bl(base:List Int)(hb:base.length<=100)(x0:Option Cell):∀(xs:List Int) (h:List Row3) (n:Nat) (x4 x5 x6 x7 x8 x9 x10 x11 x12 x13 x14:Option Cell),h.length+xs.length<=600->h.Nodup->∃h' n' y4 y5 y6 y7 y8 y9 y10 y11 y12 y13 y14,h'.length<=600/\dI (aG 4) oV (xs.map PyData.int) (RM h n) [x0,some (.dat (ob 0)),some (.mut (h.map aD)),some (.dat (aM base)),x4,x5,x6,x7,x8,x9,x10,x11,x12,x13,x14]=.next [x0,some (.dat (ob 0)),some (.mut (h'.map aD)),some (.dat (aM base)),y4,y5,y6,y7,y8,y9,y10,y11,y12,y13,y14] (RM h' n')
 |[],h,n,x4,x5,x6,x7,x8,x9,x10,x11,x12,x13,x14,hl,_=>⟨h,n,x4,x5,x6,x7,x8,x9,x10,x11,x12,x13,x14,by simpa using hl,rfl⟩
 |x::xs,h,n,x4,x5,x6,x7,x8,x9,x10,x11,x12,x13,x14,hl,nd=>by
  rw[adl]at hl;obtain⟨h1,n1,z5,z6,z7,z8,z9,z10,z11,z12,z13,z14,nd1,l1,s1⟩:=Mz h n (by omega) nd base hb x x0 x5 x6 x7 x8 x9 x10 x11 x12 x13 x14;obtain⟨h',n',y4,y5,y6,y7,y8,y9,y10,y11,y12,y13,y14,l2,ih⟩:=Bl base hb x0 xs h1 n1 (some (.dat (.int x))) z5 z6 z7 z8 z9 z10 z11 z12 z13 z14 (by omega) nd1;refine⟨h',n',y4,y5,y6,y7,y8,y9,y10,y11,y12,y13,y14,l2,?_⟩;rw[ada,gJ (Z1:=[x0,some (.dat (ob 0)),some (.mut (h.map aD)),some (.dat (aM base)),some (.dat (.int x)),x5,x6,x7,x8,x9,x10,x11,x12,x13,x14]) (by simp) s1];exact ih
theorem MF(ns:List Int)(hn:ns.length<=63):∃M,zX [] [.list (ns.map PyData.int)]=.ok (.bool true) M:=by
 have c0:∀M,oR M [lI ns,.int 0]=.ok (.int (ns.getD 0 0)):=λM=>Qu M ns 0;have hl:=Pu ns 1 40 (by decide);generalize hcl:Rf.cutD ns (some ((1:Nat):Int)) (some ((40:Nat):Int))=cells at hl;have hcl2:Rf.cutD (ns.map PyData.int) (some 1) (some 40)=cells.map PyData.int:=by rw[DY];exact congrArg _ hcl
 have e1:=VL (RM [] 1) (ns.getD 0 0);have hb:(sV (ns.getD 0 0)).length<=100:=by rw[Jz];decide
 generalize sV (ns.getD 0 0)=base at *;obtain⟨h',n',y4,y5,y6,y7,y8,y9,y10,y11,y12,y13,y14,l2,lp⟩:=Bl base hb (some (.dat (lI ns))) cells [] 1 none none none none none none none none none none none (by simp;omega) adV;have lp:dI (aG 4) oV (cells.map PyData.int) (RM [] 1) [some (.dat (lI ns)),some (.dat (ob 0)),some (.mut []),some (.dat (aM base)),none,none,none,none,none,none,none,none,none,none,none]=_:=lp;have a1:=ra h' n' (by omega);have l1:bF 10 (RM h' n') [.list (h'.map aD),.list (h'.map aD)]=.ok (.bool true):=jB _ 9 _ (DP h');have hM:(RM h' n')[0]?=some (bU ⟨h'⟩):=rfl;have ini:fP [⟨"Rights",[]⟩] [ob 0]=.ok .none (RM [] 1):=by simp[fP,kh,jZ,RM,bU]
 refine⟨RM h' n',?_⟩;have hh:(PyData.list (ns.map PyData.int))=lI ns:=rfl;rw[hh];have c0:=c0 (RM [] 1);generalize ns.getD 0 0=z0 at *;generalize RM h' n'=M' at *;generalize RM [] 1=M1 at *;generalize h'.map aD=R at *;simp[zX,GD,ini,c0,e1,hcl2,lp,hM,bU,aX,a1,l1]
end Pr
open PySem PySem.W PySem.Calls PyProof.Rows
set_option maxHeartbeats 0 in
theorem PySem.Challenge.cw_earmarks_k14_rights_kept_holds : PySem.Challenge.rw_earmarks_k14_rights_kept.Holds := by
 w_on;o_law
 refine HandSHeadRun.head_any (r:=OpenLaw.row PySem.Challenge.rw_earmarks_k14_rights_kept) (q:=view (OpenLaw.row PySem.Challenge.rw_earmarks_k14_rights_kept).prog [19]) (H:=Pr.Ou) (ob:=Pr.Oa) (M:=40000) (loose:=Pr.nm) (d:=HandSHeadRun.topDef (OpenLaw.row PySem.Challenge.rw_earmarks_k14_rights_kept).prog 19) (kwd:=[]) Pr.Vg (by kernel_rfl) (λs=>by kernel_rfl) Pr.run (by kernel_rfl) (by kernel_rfl) (by kernel_rfl) (by rfl) (by first | assumption | decide +kernel) (by decide +kernel) ⟨rfl,rfl,rfl,rfl,rfl,by decide +kernel⟩ ?hw ?hc
 case hw=>w_witness2
 case hc=>
  refine L2.walk_ofE (l:=PySem.Challenge.rw_earmarks_k14_rights_kept) (n:=63) (k:=14) (x:="_law_script") (CX:=L2.CX0) rfl (by decide) (by kernel_rfl) ⟨rfl,by decide,by decide⟩ ?F (λ_ _ _ _ z=>z)
  intro w mg fa h Y G hmg0;obtain⟨K,KX,c⟩:=Y;have hmg:mg ("law" : PySem.Str)=some (.ref fa):=by
   have e:(HandSHeadRun.topDef (OpenLaw.row PySem.Challenge.rw_earmarks_k14_rights_kept).prog 19).name=("law" : PySem.Str):=by kernel_rfl
   rw[<-e];exact hmg0
  have T:Pr.Top w K mg:=⟨⟨h,KX,G⟩,c⟩;have e:=hmg.symm.trans (T.glo 20);cases e;obtain⟨fd,F⟩:=T.c.BJ 20;have b:=L2.FunD.bindsA (ps:=["_law_script"]) F λ_ _ _ _ _ _ us hl=>match us,hl with|[_],_=>rfl
  exact⟨K,fd,λvs H Q _=>Rf.qd K (Pr.aj w K) 1 Pr.zX vs H Q λ_ _ _=>False,KX,λs v=>b s [v] rfl,λH a ns hl _ hS=>(Pr.MF ns hl).elim λ_ z=>Rf.Xr rfl hS z,λbase _ _=>Rf.HW (Pr.W3 T F)⟩

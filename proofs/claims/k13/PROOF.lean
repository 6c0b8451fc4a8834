import PyProof.Rows.All
import HandS.ForMost
import HandS.Evl
import HandS.Walk
import HandS.Zip
import HandS.IsInst
import HandS.Style
import HandS.FStr
import HandS.StrSplit
import HandS.RaiseFrom
import HandS.SuiteRaise
import HandS.Strs
import HandS.TupAny
import HandS.Deep
import HandS.WordsExc
import KE.DataMinMax
import KE.DataFind
import KE.SortData
import HandS.SortKw
import HandS.TupSets
import HandS.SetBool
import HandS.DictComp
import HandS.Conv
import KE.KDictKeyed
import HandS.ExcField
import HandS.ExcInit
import HandS.ExcIs
import HandS.HeadHook4
import HandS.HeadEnd
import HandS.Head2
import HandS.Flow
import KE.GoesEnumKw
import PySem.Challenge.RW_earmarks_k13_grounds_united
set_option Elab.async false
set_option linter.all false
set_option maxRecDepth 100000
set_option maxHeartbeats 2000000
def aeu:True:=trivial
abbrev aev:=@False.elim
abbrev aew:=@decide_eq_true_eq
abbrev aex:=@of_decide_eq_true
def adg:=@Option.bind_eq_some_iff
def adh:=@PySem.W.Frag
def adi:=@Bool.and_eq_true
def adk:=@List.getElem?_eq_some_iff
def adl:=@List.getElem?_set_ne
def adn:=@List.mem_cons_self
def ado:=@List.map_cons
def adp:=@List.length_map
def adq:=@List.getElem?_eq_getElem
def adt:=@List.mem_cons_of_mem
def adu:=@List.getElem?_set_self
def adw:=@List.getElem?_map
def adx:=@Option.some.inj
def ady:=@Bool.not_eq_true'
def adz:=@List.length_set
def adA:=@List.length_cons
def adB:=@List.mem_cons
def adC:=@List.getElem?_append_right
def adD:=@List.getElem?_append_left
def adE:=@Nat.le_refl
def adF:=@List.mem_singleton
def adG:=@List.all_eq_true
def adH:=@List.mem_of_getElem?
def adI:=@List.all_cons
def adJ:=@List.mem_map
def adK:=@Nat.ne_of_lt
def adL:=@Bool.false_eq_true
def adM:=@List.not_mem_nil
def adN:=@List.lookup_cons
def adP:=@Array.length_toList
def adQ:=@List.map_append
def adR:=@Nat.zero_le
def adS:=@Option.map_eq_some_iff
def adT:=@Array.getElem?_toList
def adU:=@List.mem_append
def adV:=@List.append_nil
def adW:=@List.length_reverse
def adX:=@List.length_filter_le
def adY:=@List.drop_eq_getElem_cons
def adZ:=@Nat.succ.inj
def ad3:=@List.drop_length
def ad4:=@List.filter_cons
def ad5:=@List.length_append
def ad6:=@Bool.or_eq_true
def ad7:=@List.getElem?_eq_none
def ad8:=@Nat.lt_succ_of_lt
def ad9:=@List.ext_getElem?
def aea:=@List.reverse_cons
def aeb:=@List.mem_of_mem_take
def aec:=@List.map_nil
def aed:=@List.any_cons
def aee:=@Bool.eq_iff_iff
def aef:=@List.size_toArray
def aeg:=@List.getElem?_set
def aeh:=@List.nodup_nil
def aei:=@List.map_map
def aej:=@Nat.add_sub_cancel'
def aek:=@List.nodup_cons
def ael:=@Nat.add_left_cancel
def aem:=@List.eraseDups_cons
def aen:=@List.mem_filter
def aeo:=@Nat.le_trans
def aep:=@List.zip_cons_cons
def aer:=@List.drop_zero
def aes:=@List.filter_eq_self
namespace Rf
open PySem PySem.Spec PyProof.Rows L2 HandSHeadRun
def aey:=@wpAny_bind
def aez:=@wpAny_pure
def aeA:=@if_pos
def aeB:=@if_neg
def aeC:=@upd_same
def aeD:=@eq_of_beq
abbrev Dat:=PyData
abbrev Ft:=List (Str×List Str)
structure uP(fa:List He.Fa)(fn:List He.DefD)(tb:List He.Tab)(ex:adh->Bool)(w:World)(K:adh):Prop where
 t:He.SaysT fa fn tb w K
 more:ex K=true
def Hg(as:List Addr)(fa:List He.Fa)(fn:List He.DefD)(tb:List He.Tab)(ex:adh->Bool)(g:Addr->Option Obj):He.AlX:=(He.obsT fa fn tb (He.frG g as),ex (He.frG g as))
def Ij(as:List Addr)(fa:List He.Fa)(fn:List He.DefD)(tb:List He.Tab)(ex:adh->Bool):PySem.W.Hook where
 α:=He.AlX
 obs:=λs=>Hg as fa fn tb ex s.heap.get?
 val:=λw=>He.valX fn tb w
 says:=λw h=>∃K:adh,K.In h/\uP fa fn tb ex w K
 of:=λw s e=>⟨_,He.frG_in,⟨congrArg (λz:He.AlX=>z.1) e,congrArg (λz:He.AlX=>z.2) e⟩⟩
 keeps:=λ_ _ _ ⟨K,hK,c⟩ k=>⟨K,PySem.W.Frag.In.keeps hK k,c⟩
theorem QC{as:List Addr}{fa:List He.Fa}{fn:List He.DefD}{tb:List He.Tab}{ex:adh->Bool}{g:Addr->Option Obj}{s:Shared}(h:∀a,g a=s.heap.get? a):Hg as fa fn tb ex g=(Ij as fa fn tb ex).obs s:=by rw[show g=s.heap.get? from funext h];rfl
def sO(K:adh)(ft:Ft):Bool:=ft.all λp=>(He.Fa.cls p.1).ok K&&p.2.all λf=>(He.Fa.noat p.1 f).ok K
def TX(K:adh)(xm:List (Str×List (Str×Bool))):Bool:=xm.all λp=>p.2.all λq=>(He.Fa.exm q.1 p.1 q.2).ok K
def TV(K:adh)(C:Addr):Bool:=(match K.lookup C with
 |some ⟨.type t,_,.cls cd,sl⟩=>decide (t="type")&&(match cd.mro,sl.toList with
  |.ref C'::bm,[_,_,_,_,some (.builtin n),_]=>decide (C'=C)&&(decide (n="ValueError.__new__")&&(!cd.hasDel&&(cd.hasDict&&PySem.HandSPX.refsVE bm)))
  |_,_=>false)
 |_=>false)&&(He.eqO (PySem.W.findIn K (.ref C) "__setattr__") (some (some (.builtin "object.__setattr__")))&&(decide (PySem.W.subIn K (.ref C) (.type "BaseException")=some true)&&(decide (PySem.W.typeIn K (.ref C)=some (.type "type"))&&PySem.W.keepIn K (.ref C))))
def Hv(K:adh)(x:Str)(fs:List Str):Bool:=TV K (He.ga K x)&&(He.eqO (PySem.W.findIn K (.ref (He.ga K x)) "__init__") (some (some (.ref (He.ma K (He.ga K x) "__init__"))))&&(decide (PySem.W.typeIn K (.ref (He.ma K (He.ga K x) "__init__"))=some (.type "function"))&&(xfB K (He.ga K x)&&fs.all λf=>He.eqO (PySem.W.findIn K (.ref (He.ga K x)) f) (some none))))
section
open PySem.W PySem.Calls
noncomputable abbrev Sh (r:PySem.W.OpenRow) (M:Nat) (w:World) (os:PySem.OsState):Option PySem.W.SharedT:=endF (stepQ (denQ tabQ) r.prog w) M r.prog w os
def K6(r:PySem.W.OpenRow)(q:Program)(as:List Addr)(ex:adh->Bool)(M:Nat)(loose:List Str)(w:World):Prop:=∀os,(Sh r M w os).map (λs=>(looksF r.prog (boot_heap w.params) s.abs,HandSHeadRun.seenQ q loose (importedModules r.prog.main.body) (λs=>PySem.W.xlAt q [] s&&PySem.W.recOk r.toRowW.records s) s.abs,ex (He.frG (getT s) as)))=some (true,PySem.W.openGood q loose,true)
def Lw(r:PySem.W.OpenRow)(as:List Addr)(fa:List He.Fa)(fn:List He.DefD)(tb:List He.Tab)(M:Nat)(w:World):Prop:=∀os,(Sh r M w os).map (λs=>He.obsT fa fn tb (He.frG (getT s) as))=some (He.valT fn tb w)
theorem zM{r:PySem.W.OpenRow}{q:Program}{as:List Addr}{fa:List He.Fa}{fn:List He.DefD}{tb:List He.Tab}{ex:adh->Bool}{M:Nat}{loose:List Str}{w:World}
  (a:K6 r q as ex M loose w) (c:Lw r as fa fn tb M w):RunEq r q (Ij as fa fn tb ex) (λs=>Hg as fa fn tb ex (getT s)) M loose w:=λos=>by
 obtain⟨s,hs,h1⟩:=adS.mp (a os);obtain⟨h1,h2⟩:=Prod.mk.inj h1;obtain⟨h2,h4⟩:=Prod.mk.inj h2;have h3:=c os;have hs':endF (stepQ (denQ tabQ) r.prog w) M r.prog w os=some s:=hs;rw[hs,Option.map_some]at h3;have h3:=adx h3;rw[hs',Option.map_some];exact congrArg some (Prod.ext h1 (Prod.ext h2 (Prod.ext h3 h4)))
end
end Rf
namespace Pr
open PySem PySem.Spec PyProof.Rows L2 Evl Rf
def dW:Dat:=.int 9
def mF:Ft:=[("Grounds",["allowances","circles"])]
def iz:List (Str×Bool):=[("BadAllowance",false),("NoGround",true),("Together",false),("Alone",false)]
def lF:List (Str×Bool):=[("BadAllowance",false),("NoGround",false),("Together",true),("Alone",false)]
def vB:List (Str×Bool):=[("BadAllowance",false),("NoGround",false),("Together",false),("Alone",true)]
def Ky:List (Str×List (Str×Bool)):=[("NoGround",iz),("Together",lF),("Alone",vB)]
def Ou:List (Str×Bool):=[]
def Es:List (Str×List Str):=[]
def fZ(i:Nat):Stmt:=PySem.Challenge.pw_earmarks_k13_grounds_united.main.body.getD i (.Pass ⟨0,0,0,0⟩)
abbrev pF:Stmt:=inClass (fZ 8) 0
abbrev s_row:Stmt:=fZ 12
abbrev pY:Stmt:=inClass (fZ 8) 3
abbrev jW:Stmt:=inClass (fZ 8) 1
abbrev Kr:Stmt:=fZ 13
abbrev qT:Stmt:=inClass (fZ 8) 2
abbrev pW:Stmt:=inClass (fZ 8) 4
abbrev lK:Stmt:=inClass (fZ 8) 6
abbrev mH:Stmt:=inClass (fZ 8) 10
abbrev oK:Stmt:=inClass (fZ 8) 8
abbrev pG:Stmt:=inClass (fZ 8) 9
abbrev uU:Stmt:=fZ 14
abbrev DN:Stmt:=fZ 15
abbrev Bp:Stmt:=fZ 16
abbrev Fo:Stmt:=fZ 10
abbrev wD:Stmt:=fZ 11
abbrev j5:Stmt:=inClass (fZ 8) 5
abbrev pQ:Stmt:=inClass (fZ 8) 7
abbrev Ep:Stmt:=fZ 17
abbrev uK:Stmt:=fZ 18
abbrev dM(c m q:Str)(s:Stmt):He.DefD:=⟨(c,some m),m,q,defArgs s,defBody s,defScope s,[],[]⟩
abbrev dF(x:Str)(s:Stmt):He.DefD:=⟨(x,none),x,x,defArgs s,defBody s,defScope s,[],[]⟩
def Gy:List Str:=["Grounds","BadAllowance","NoGround","Together","Alone"]
def nm0:List PySem.Str:=["CommonError","BadAllowance","NoGround","Together","Alone","GREATEST_ALLOWANCE","Grounds","_law_whole","_law_like","_law_row","_law_cell","_law_deed_told"]
def nm1:List PySem.Str:=["_law_united","_law_parted","_law_right"]
def nm:List PySem.Str:=nm0++nm1
def fa0:List He.Fa:=[.mkr "Grounds",.glo "_law_row",.meth "Grounds" "many",.meth "Grounds" "add_ground",.glo "_law_cell",.meth "Grounds" "has",.meth "Grounds" "need",.meth "Grounds" "together",.meth "Grounds" "enclose",.meth "Grounds" "unite",.meth "Grounds" "part",.glo "_law_deed_told"]
def fa1:List He.Fa:=[.glo "_law_united",.glo "_law_parted",.glo "_law_whole",.glo "_law_like",.meth "Grounds" "allowance",.meth "Grounds" "room",.glo "_law_right",.glo "law",.glo "Grounds",.glo "BadAllowance",.exc "BadAllowance",.glo "NoGround"]
def fa2:List He.Fa:=[.exc "NoGround",.glo "Together",.exc "Together",.glo "Alone",.exc "Alone",.int "GREATEST_ALLOWANCE" 9,.free "range",.free "abs",.free "len",.free "list",.free "tuple",.free "sorted"]
def fa3:List He.Fa:=[.free "isinstance",.free "bool",.free "int",.free "zip",.free "str",.free "max",.free "enumerate"]
def fa:List He.Fa:=fa0++fa1++fa2++fa3
def fn0:List He.DefD:=[dM "Grounds" "__init__" "Grounds.__init__" pF,dF "_law_row" s_row,dM "Grounds" "many" "Grounds.many" pY,dM "Grounds" "add_ground" "Grounds.add_ground" jW,dF "_law_cell" Kr,dM "Grounds" "has" "Grounds.has" qT,dM "Grounds" "need" "Grounds.need" pW,dM "Grounds" "together" "Grounds.together" lK,dM "Grounds" "enclose" "Grounds.enclose" mH,dM "Grounds" "unite" "Grounds.unite" oK,dM "Grounds" "part" "Grounds.part" pG,dF "_law_deed_told" uU]
def fn1:List He.DefD:=[dF "_law_united" DN,dF "_law_parted" Bp,dF "_law_whole" Fo,dF "_law_like" wD,dM "Grounds" "allowance" "Grounds.allowance" j5,dM "Grounds" "room" "Grounds.room" pQ,dF "_law_right" Ep,dF "law" uK]
def fn:List He.DefD:=fn0++fn1
def JF(K:adh):Bool:=true&&sO K mF&&TX K Ky&&(Es.all λp=>Gy.contains p.1&&Hv K p.1 p.2)
def ad0:List Addr:=[3,24,37,49,61,73,158,169,176,183,190,197,202,207,212,217,23,36,48,60,72,157,168,175]
def ad1:List Addr:=[182,189,196,201,206,211,216,22,25,35,47,59,71,89,96,103,110,117,124,131,136,143,148,155]
def ad2:List Addr:=[156,159,160,88,95,102,109,116,123,130,135,142,147,154]
def ad:List Addr:=ad0++ad1++ad2
abbrev R:PySem.W.OpenRow:=PySem.W.OpenLaw.row PySem.Challenge.rw_earmarks_k13_grounds_united
abbrev Og:PySem.W.Hook:=Ij ad fa fn [] JF
def Oh(s:PySem.W.SharedT):He.AlX:=Hg ad fa fn [] JF (HandSHeadRun.getT s)
theorem Vz(s:PySem.W.SharedT):Oh s=Og.obs s.abs:=QC (HandSHeadRun.getT_eq s)
abbrev wR(w:World)(b:Bool):World:=w.withFollow "special-get-raises" b
theorem Xc(w:World):K6 R (PySem.W.view R.prog [18]) ad JF 40000 nm (wR w false):=by
 intro os
 kernel_rfl
theorem Xx(w:World):Lw R ad fa fn [] 40000 (wR w false):=by
 intro os
 kernel_rfl
theorem runAt(w:World):K6 R (PySem.W.view R.prog [18]) ad JF 40000 nm (wR w true):=by
 intro os
 kernel_rfl
theorem Xu(w:World):Lw R ad fa fn [] 40000 (wR w true):=by
 intro os
 kernel_rfl
theorem run(w:World):HandSHeadRun.RunEq R (PySem.W.view R.prog [18]) Og Oh 40000 nm w:=PySem.W.byRow2 "special-get-raises" (P:=λw=>HandSHeadRun.RunEq R (PySem.W.view R.prog [18]) Og Oh 40000 nm w) (λw=>zM (Xc w) (Xx w)) (λw=>zM (runAt w) (Xu w)) w
end Pr
namespace Ear
open PySem PySem.Spec PyProof.Rows L2 Evl RZ
section
variable{X:Cx}{C:Addr}{bmB:List Value}{B newId initId:String}
theorem N8{x:Str}{p pos:Pos}(F:ExcBaseFacts B newId initId bmB)(q:PySem.W.excIn X.K C bmB newId=true)(gC:X.mg x=some (.ref C))(kC:PySem.W.keepIn X.K (.ref C)=true)(r:Raises X (.ref C))(hg:Gl X x)
  (hn:(x==("__debug__" : Str))=false:=by decide):PMk X (.Call (.Name x p) [] [] pos) (λ_ H Q=>Q (.ref C) none H):=by
 intro pins s σ H Q I h;refine wpAny_Call_Name_kw (ld_glob I hg gC ?_ hn);refine PySem.W.callWith_K0 I.kIn kC ?_;show wpAny _ _ (call (.ref C) []) _ _ _;obtain⟨bm,N,nm,qn,bs,hdct,sn,sub,ab,col,dd,k0,k1,k2,k3,k5,mN,hC,hN,hni,T⟩:=exc_obj I.kIn q;refine wpAny_call_exc_subT F T hC hN hni (λh' e hm=>?_) (adR _);exact mk_of I hm r h (I.hok.gone hm.new)
end
theorem exm_one{K:adh}{S:Addr}(h1:PySem.W.subIn K (.ref S) (.type "BaseException")=some true)(h2:PySem.W.isClsIn K S=true)(h3:PySem.W.typeIn K (.ref S)=some (.type "type"))(h4:PySem.W.subIn K (.ref S) (.ref S)=some true) :
  PySem.W.exmOne K (.ref S) (.ref S)=some true:=by
 have e1:(PySem.W.subIn K (.ref S) (.type "BaseException")==some true)=true:=by rw[h1]<;>rfl
 have e2:((PySem.W.clsIn K S).isSome&&PySem.W.typeIn K (.ref S)==some (.type "type"))=true:=by rw[h3,adi];exact⟨h2,rfl⟩
 show(if (PySem.W.subIn K (.ref S) (.type "BaseException")==some true)=true then(if ((PySem.W.clsIn K S).isSome&&PySem.W.typeIn K (.ref S)==some (.type "type"))=true then PySem.W.subIn K (.ref S) (.ref S) else none) else none)=some true
 rw[if_pos e1,if_pos e2];exact h4
def Zr(xs:List Int):Prop:=xs.length=6/\∀x∈xs,0<=x/\x<=9
section
variable{K:adh}{σ:L2.St}{H:Hp}{te tl:TE}{tt:TT}{vs:List Nat}
def Fw(te:TE)(σ:L2.St)(H:Hp)(P:V->Hp->Prop):Prop:=∀H1,Ex H H1->∀Q:VK,(∀v H2,Ex H1 H2->P v H2->Q v H2)->te σ H1 Q
end
section
variable{K:adh}{σ:L2.St}{H H':Hp}{te ta tb:TE}{t:TT}{P R:V->Hp->Prop}{v:V}
theorem Fw.mono(e:Ex H H')(h:Fw te σ H P):Fw te σ H' P:=λH1 a Q q=>h H1 (e.trans a) Q q
theorem Fw.imp(h:Fw te σ H P)(k:∀v H',P v H'->R v H'):Fw te σ H R:=λH1 e Q q=>h H1 e Q λv H2 e2 p=>q v H2 e2 (k v H2 p)
end
end Ear
namespace Ear
open PySem PySem.Spec PyProof.Rows L2 Evl RZ
def bA{α:Type}(R:V->α->Prop)(ws:List V)(L:List α):Prop:=ws.length=L.length/\∀(i:Nat) (v:V) (x:α),ws[i]?=some v->L[i]?=some x->R v x
theorem bA.imp{α:Type}{R S:V->α->Prop}{ws:List V}{L:List α}(h:bA R ws L)(k:∀v x,R v x->S v x):bA S ws L:=⟨h.1,λi v x a b=>k v x (h.2 i v x a b)⟩
theorem bA.nil{α:Type}{R:V->α->Prop}:bA R [] []:=⟨rfl,λi v x a _=>by simp at a⟩
theorem bA.snoc{α:Type}{R:V->α->Prop}{ws:List V}{L:List α}{v:V}{x:α}(h:bA R ws L)(k:R v x):bA R (ws++[v]) (L++[x]):=by
 refine⟨by rw[ad5,ad5,h.1];rfl,λi u y a b=>?_⟩;by_cases hi:i<ws.length
 .rw[adD hi]at a;rw[adD (by rw[<-h.1];exact hi)]at b;exact h.2 i u y a b
 .rw[adC (by omega)]at a;rw[adC (by rw[<-h.1];omega),<-h.1]at b;have hj:i-ws.length=0:=by
   have:=(adk.mp a).1;simp only[adA,List.length_nil]at this;omega
  rw[hj]at a b;cases a;cases b;exact k
def qN(H:Hp)(v:V)(l:List Int):Prop:=∃h:Addr,v=.ref h/\H h=some (.tup (l.map V.int))
theorem qN.mono{H H':Hp}(e:Ex H H'){v:V}{l:List Int}(h:qN H v l):qN H' v l:=by obtain⟨a,e1,h1⟩:=h;exact⟨a,e1,e _ _ h1⟩
theorem qN.upd{H:Hp}{D:Addr}{acc:List V}{o:HO}(hD:H D=some (.lst acc)){v:V}{l:List Int}(h:qN H v l):qN (upd H D o) v l:=by obtain⟨a,e1,h1⟩:=h;refine⟨a,e1,?_⟩;rw[upd_ne (λz=>by rw[z,hD]at h1;cases h1)];exact h1
abbrev Rw:Type:=Int×List Int
def uD(H:Hp)(v:V)(r:Rw):Prop:=∃t m:Addr,v=.ref t/\H t=some (.tup [.int r.1,.ref m])/\H m=some (.tup (r.2.map V.int))
theorem uD.mono{H H':Hp}(e:Ex H H'){v:V}{r:Rw}(h:uD H v r):uD H' v r:=by obtain⟨t,m,e1,h1,h2⟩:=h;exact⟨t,m,e1,e _ _ h1,e _ _ h2⟩
theorem uD.upd{H:Hp}{D:Addr}{acc:List V}{o:HO}(hD:H D=some (.lst acc)){v:V}{r:Rw}(h:uD H v r):uD (upd H D o) v r:=by
 obtain⟨t,m,e1,h1,h2⟩:=h;refine⟨t,m,e1,?_,?_⟩
 .rw[upd_ne (λz=>by rw[z,hD]at h1;cases h1)];exact h1
 .rw[upd_ne (λz=>by rw[z,hD]at h2;cases h2)];exact h2
def W3(r:Rw):Prop:=1<=r.1/\Zr r.2
structure Tab(R:List Rw):Prop where
 len:R.length<=128
 ok:∀r∈R,W3 r
 few:∃D:List Rw,D.length<=64/\∀r∈R,r∈D
theorem Tab.sub{R S:List Rw}(h:Tab R)(hs:∀r∈S,r∈R)(hl:S.length<=128):Tab S:=by obtain⟨D,d1,d2⟩:=h.few;exact⟨hl,λr hr=>h.ok r (hs r hr),D,d1,λr hr=>d2 r (hs r hr)⟩
theorem bA.get{α:Type}{R:V->α->Prop}{ws:List V}{L:List α}(h:bA R ws L){i:Nat}{v:V}(g:ws[i]?=some v):∃x,L[i]?=some x/\R v x:=by
 have hi:=(adk.mp g).1;have hi':i<L.length:=by rw[<-h.1];exact hi
 exact⟨L[i],adq hi',h.2 i v _ g (adq hi')⟩
theorem bA.mem{α:Type}{R:V->α->Prop}{ws:List V}{L:List α}(h:bA R ws L){v:V}(m:v∈ws):∃x,x∈L/\R v x:=by obtain⟨i,hi,e⟩:=List.getElem_of_mem m;obtain⟨x,g,r⟩:=h.get (adk.mpr ⟨hi,e⟩);exact⟨x,adH g,r⟩
theorem bA.take{α:Type}{R:V->α->Prop}{ws:List V}{L:List α}(h:bA R ws L)(n:Nat):bA R (ws.take n) (L.take n):=by
 refine⟨by rw[List.length_take,List.length_take,h.1],λi v x a b=>?_⟩;rw[List.getElem?_take]at a b;by_cases c:i<n
 .rw[if_pos c]at a b;exact h.2 i v x a b
 .rw[if_neg c]at a;cases a
theorem bA.drop{α:Type}{R:V->α->Prop}{ws:List V}{L:List α}(h:bA R ws L)(n:Nat):bA R (ws.drop n) (L.drop n):=by refine⟨by rw[List.length_drop,List.length_drop,h.1],λi v x a b=>?_⟩;rw[List.getElem?_drop]at a b;exact h.2 _ v x a b
section
variable{X:Cx}
def Ma(xs:List V)(ds:List PyData)(x:V)(d:PyData):Prop:=∃i:Nat,xs[i]?=some x/\ds[i]?=some d
@[irreducible]def qd (K:adh):List V->Hp->VK->Prop:=λvs H Q=>∃(a:Addr) (xs:List V) (ds:List PyData),vs=[V.ref a]/\SqL K H a xs/\DpAll K H xs ds/\PySem.W.AllAlike ds/\PySem.W.Sortable ds/\(∀d∈ds,d.depth<=60)/\
 ∀(ys:List V) (p:Addr),bA (Ma xs ds) ys (ds.mergeSort (PySem.W.dataLe false id))->H p=none->Q (.ref p) (upd H p (.lst ys))
theorem CQ:∀(xs:List V) (ds:List PyData) (its:List Value) (P:Value->PyData->Prop),Vals xs its->PySem.W.EachIs P its ds->
  PySem.W.EachIs (λv d=>∃(i:Nat) (x:V),RelV x v/\xs[i]?=some x/\ds[i]?=some d) its ds
 |[],_,_,_,.nil,.nil=>.nil
 |_::_,[],_,_,.cons _ _,k=>nomatch k
 |x::xs,d::ds,u::us,P,.cons r t,.cons _ k=>.cons ⟨0,x,r,rfl,rfl⟩ ((CQ xs ds us P t k).mono λv d ⟨i,y,a,b,c⟩=>⟨i+1,y,a,b,c⟩)
theorem za{xs:List V}{ds:List PyData}:∀(out:List Value) (L:List PyData),PySem.W.EachIs (λv d=>∃(i:Nat) (x:V),RelV x v/\xs[i]?=some x/\ds[i]?=some d) out L->∃ys,Vals ys out/\bA (Ma xs ds) ys L
 |[],[],.nil=>⟨[],.nil,bA.nil⟩
 |v::out,d::L,.cons ⟨i,x,r,a,b⟩ k=>by
  obtain⟨ys,h1,h2⟩:=za out L k;refine⟨x::ys,.cons r h1,by rw[adA,adA,h2.1],λj u y g1 g2=>?_⟩;cases j with
  |zero=>
   cases g1;cases g2;exact⟨i,a,b⟩
  |succ j=>exact h2.2 j u y g1 g2
theorem Hj(hu:X.A.units+65<cLine):CallR X (.builtin "sorted") (qd X.K):=by
 intro pins s σ H vs us Q I r h;unfold qd at h;obtain⟨a,xs,ds,rfl,hs,hd,hal,hk,hz,q⟩:=h;obtain⟨u,rfl,ru⟩:=vals1 r
 obtain rfl:u=Value.ref a:=ru
 obtain⟨its,rv,hl,hsz⟩:=I.list hs;obtain⟨as,hr⟩:=Dp.readsAll I ds xs its hd rv;have er:PySem.W.EachIs (λv d=>∃as,Reads s.heap v (id d) as) its ds:=PySem.W.readsAll_each id (by rw[List.map_id];exact hr);have hn:=SeqAt.ReadsAll.length ds its as hr;have hl2:=rv.length;refine PySem.W.sorted_data (enc:=id) hl.isList (CQ xs ds its _ rv er) er (by rw[List.map_id];exact hal) (by rw[List.map_id];exact hk) (by omega) (λd m=>?_) λout hlen hout=>?_
 .have:=hz d m;show X.A.units+2+d.depth<cLine;omega
 .obtain⟨ys,v1,v2⟩:=za out _ hout;obtain⟨ep,he'⟩:=PyProof.Rows.sortedAll_at s.heap its out.toArray;have hy:ys.length=ds.length:=by
   rw[v2.1,List.length_mergeSort]
  refine⟨.ref _,upd H (s.heap.objs.size+1) (.lst ys),I.laid (t':=s.toks) (λ_ _=>PyProof.Rows.sortedAll_old) (Nat.le_succ _) ⟨by omega,out,ep,v1,by simpa using he'⟩,rfl,q ys _ v2 (I.hok.fresh (Nat.le_succ _))⟩
end
@[irreducible]def vX (K:adh):R2:=λx y H Q=>∃d e:PyData,Dp K H x d/\Dp K H y e/\PySem.W.alike d e=true/\d≠.none/\d.depth<=60/\Q (.bl (PySem.W.dataLt d e)) H
theorem Mx{X:Cx}(hu:X.A.units+65<cLine):OpR X (compareOp .Lt) (vX X.K):=by intro pins s σ H x y v u Q I rx ry h;unfold vX at h;obtain⟨d,e,hd,he,ha,hn,hz,q⟩:=h;obtain⟨as,r1⟩:=Dp.reads I d x v hd rx;obtain⟨bs,r2⟩:=Dp.reads I e y u he ry;exact PySem.W.lt_data r1 r2 ha hn (by omega) ⟨.bl _,H,I,rfl,q⟩
def U7(te:TE)(σ:L2.St)(H:Hp)(P:List V->Hp->Prop):Prop:=∀H1,Ex H H1->∀Q:VK,(∀p H2 us,H1 p=none->Ex H1 H2->H2 p=some (.lst us)->P us H2->Q (.ref p) H2)->te σ H1 Q
structure Sy{α:Type}(Rel:Hp->V->α->Prop):Prop where
 mono:∀{H H':Hp} {v:V} {x:α},Ex H H'->Rel H v x->Rel H' v x
 upd:∀{H:Hp} {D:Addr} {acc:List V} {o:HO} {v:V} {x:α},H D=some (.lst acc)->Rel H v x->Rel (upd H D o) v x
theorem bA.mono{α:Type}{Rel:Hp->V->α->Prop}(S:Sy Rel){H H':Hp}(e:Ex H H'){ws:List V}{L:List α}(h:bA (Rel H) ws L):bA (Rel H') ws L:=h.imp λ_ _ r=>S.mono e r
theorem bA.upd{α:Type}{Rel:Hp->V->α->Prop}(S:Sy Rel){H:Hp}{D:Addr}{acc:List V}{o:HO}(hD:H D=some (.lst acc)){ws:List V}{L:List α}(h:bA (Rel H) ws L):bA (Rel (upd H D o)) ws L:=h.imp λ_ _ r=>S.upd hD r
section
variable{K:adh}{σ:L2.St}{H:Hp}{te tl:TE}{tt:TT}{vs:List Nat}{α:Type}
theorem U7.imp{P R:List V->Hp->Prop}(h:U7 te σ H P)(k:∀us H',P us H'->R us H'):U7 te σ H R:=λH1 e Q q=>h H1 e Q λp H2 us n a b c=>q p H2 us n a b (k us H2 c)
end
theorem BJ:∀a b:List Int,PyData.eqvAll (a.map PyData.int) (b.map PyData.int)=decide (a=b)
 |[],[]=>by rw[aec,PyData.eqvAll];rfl
 |[],y::ys=>by rw[aec,ado,PyData.eqvAll];rfl
 |x::xs,[]=>by rw[aec,ado,PyData.eqvAll];rfl
 |x::xs,y::ys=>by
  rw[ado,ado,PyData.eqvAll,BJ xs ys,PyData.eqv,aee];simp
def dT(l:List Int):PyData:=.tuple (l.map PyData.int)
theorem lay_ints:∀l:List Int,PyData.canLayAll0 (l.map PyData.int)=true/\PyData.depthAll (l.map PyData.int)=0
 |[]=>⟨by rw[aec,PyData.canLayAll0],by rw[aec,PyData.depthAll]⟩
 |x::xs=>by
  have ih:=lay_ints xs;refine⟨?_,?_⟩
  .rw[ado,PyData.canLayAll0,PyData.canLay0,ih.1];rfl
  .rw[ado,PyData.depthAll,PyData.depth,ih.2];rfl
def rD(r:Rw):PyData:=.tuple [.int r.1,dT r.2]
theorem KJ(r:Rw):(rD r).canLay0=true/\(rD r).depth=2:=by
 have h:=lay_ints r.2;unfold rD dT;refine⟨?_,?_⟩
 .rw[PyData.canLay0,PyData.canLayAll0,PyData.canLayAll0,PyData.canLayAll0,PyData.canLay0,PyData.canLay0,h.1];rfl
 .rw[PyData.depth,PyData.depthAll,PyData.depthAll,PyData.depthAll,PyData.depth,PyData.depth,h.2];rfl
def rk(r:Rw):List Int:=r.1::r.2
theorem Ji:PySem.W.rowLt [] []=false:=PyProof.Rows.lex_irrefl _
theorem Ry(l m:List Int):PySem.W.rowLt [dT l] [dT m]=decide (l<m):=by
 have al:PySem.W.alike (dT l) (dT m)=true:=by unfold dT;rw[PySem.W.alike];exact PySem.W.alike_ints l m
 have ev:PyData.eqv (dT l) (dT m)=decide (l=m):=by unfold dT;rw[PyData.eqv,BJ]
 have h:PySem.W.rowLt [dT l] [dT m]=if PyData.eqv (dT l) (dT m)=true then PySem.W.rowLt [] [] else PySem.W.dataLt (dT l) (dT m):=PySem.W.dataLt_cons al [] []
 rw[h,ev,Ji];by_cases c:l=m
 .rw[if_pos (decide_eq_true c),c];exact(decide_eq_false (List.lt_irrefl _)).symm
 .rw[if_neg (by rw[aew];exact c)];show PySem.W.dataLt (.tuple (l.map PyData.int)) (.tuple (m.map PyData.int))=_;rw[PySem.W.dataLt_tuple];exact PySem.W.dataLt_ints l m
theorem Ei(x y:Int)(ds es:List PyData)(l m:List Int)(h:PySem.W.rowLt ds es=decide (l<m)):PySem.W.rowLt (.int x::ds) (.int y::es)=decide (x::l<y::m):=by
 have al:PySem.W.alike (.int x) (.int y)=true:=by rw[PySem.W.alike]
 have h2:PySem.W.rowLt (.int x::ds) (.int y::es)=if PyData.eqv (.int x) (.int y)=true then PySem.W.rowLt ds es else PySem.W.dataLt (.int x) (.int y):=PySem.W.dataLt_cons al ds es
 rw[h2,h,PySem.W.dataLt_int,PyData.eqv];by_cases c:x=y
 .subst c;rw[if_pos (by simp),aee,aew,aew,List.cons_lt_cons_iff];constructor
  .exact λk=>Or.inr ⟨rfl,k⟩
  .rintro(k|k)
   .omega
   .exact k.2
 .rw[if_neg (by simpa using c),aee,aew,aew,List.cons_lt_cons_iff];constructor
  .exact Or.inl
  .rintro(k|k)
   .exact k
   .exact absurd k.1 c
theorem V5(a b:Rw):PySem.W.dataLt (rD a) (rD b)=decide (rk a<rk b):=by unfold rD;rw[PySem.W.dataLt_tuple];exact Ei _ _ _ _ _ _ (Ry a.2 b.2)
theorem zA(a b:Rw):PySem.W.alike (rD a) (rD b)=true:=by unfold rD dT;rw[PySem.W.alike,PySem.W.alikeAll,PySem.W.alikeAll,PySem.W.alike,PySem.W.alike,PySem.W.alike_ints,PySem.W.alikeAll];rfl
theorem bA.map{α β:Type}{P:V->β->Prop}(f:α->β){ws:List V}{L:List α}(h:bA (λv x=>P v (f x)) ws L):bA P ws (L.map f):=by refine⟨by rw[adp,h.1],λi v x a b=>?_⟩;rw[adw]at b;obtain⟨y,hy,e⟩:=adS.mp b;rw[<-e];exact h.2 i v y a hy
theorem Kc{a b:Rw}(h:rk a=rk b):a=b:=by unfold rk at h;injection h with h1 h2;exact Prod.ext h1 h2
def Fe(S:List Rw):Prop:=S.Pairwise λa b=>rk a<rk b
theorem JQ:∀{S T:List Rw},Fe S->Fe T->(∀r,r∈S↔r∈T)->S=T
 |[],[],_,_,_=>rfl
 |[],t::T,_,_,h=>absurd ((h t).mpr adn) (by simp)
 |s::S,[],_,_,h=>absurd ((h s).mp adn) (by simp)
 |s::S,t::T,hs,ht,h=>by
  obtain⟨hs1,hs2⟩:=List.pairwise_cons.mp hs;obtain⟨ht1,ht2⟩:=List.pairwise_cons.mp ht;have e:s=t:=by
   rcases adB.mp ((h s).mp adn) with e|m
   .exact e
   .rcases adB.mp ((h t).mpr adn) with e2|m2
    .exact e2.symm
    .exact absurd (ht1 s m) (List.lt_asymm (hs1 t m2))
  subst e;have hn:∀{L:List Rw},(∀r∈L,rk s<rk r)->s∉L:=λhL m=>List.lt_irrefl _ (hL s m);rw[JQ hs2 ht2 λr=>?_];constructor
  .intro m;rcases adB.mp ((h r).mp (adt _ m)) with e|m2
   .rw[e]at m;exact absurd m (hn hs1)
   .exact m2
  .intro m;rcases adB.mp ((h r).mpr (adt _ m)) with e|m2
   .rw[e]at m;exact absurd m (hn ht1)
   .exact m2
theorem sH(a b:Rw):PySem.W.dataLe false rD a b=decide (rk a<=rk b):=by
 show(!PySem.W.dataLt (rD b) (rD a))=_
 rw[V5,aee,ady,decide_eq_false_iff_not,aew];exact List.not_lt
theorem J9{α β:Type}{R:α->β->Prop}{as cs:List α}(p:as.Perm cs):∀{bs:List β},PySem.W.EachIs R as bs->∃ds,ds.Perm bs/\PySem.W.EachIs R cs ds:=by
 induction p with
 |nil=>
  intro bs h;cases h;exact⟨[],List.Perm.refl _,.nil⟩
 |cons x _ ih=>
  intro bs h;cases h with
  |cons r t=>
   obtain⟨ds,h1,h2⟩:=ih t;exact⟨_::ds,h1.cons _,.cons r h2⟩
 |swap x y l=>
  intro bs h;cases h with
  |cons r t=>
   cases t with
   |cons r2 t2=>exact⟨_,List.Perm.swap _ _ _,.cons r2 (.cons r t2)⟩
 |trans _ _ ih1 ih2=>
  intro bs h;obtain⟨ds,a1,a2⟩:=ih1 h;obtain⟨es,b1,b2⟩:=ih2 a2;exact⟨es,b1.trans a1,b2⟩
section
variable{P:Program}{w:World}{A:Around}{E:Value->Shared->Prop}{s:Shared}
theorem Ea{β:Type}{a:Addr}{es:Array (Int×Value)}{ep:Nat}{t:SetTable}{enc:β->PyData}{bs:List β}{R:Value->β->Prop}{Q:Value->Shared->Prop}(hh:A.handled=none)(ha:SetAt s.heap a es ep t)(hf:t.fits es.size=true)(hsz:es.size<scanBound)(hr:Ris t.place.toList)
  (hl:w.params.followText "set-order"=true\/t.led=true) (e:PySem.W.EachIs (λv b=>R v b/\∃as,Reads s.heap v (enc b) as) (es.toList.map (·.2)) bs) (hal:PySem.W.AllAlike (bs.map enc)) (hk:PySem.W.Sortable (bs.map enc)) (hu:∀b∈bs,A.units+2+(enc b).depth<cLine)
  (hQ:∀(s':Shared) (p:Addr) (out:List Value) (c:Nat) (cs:List β),(∀b o,s.heap.get? b=some o->s'.heap.get? b=some o)->s'.gens=s.gens->s'.os=s.os->s.heap.objs.size<=p->s'.heap.get? p=some (seqObj "list" out.toArray c)->
   cs.Perm bs->PySem.W.EachIs R out (cs.mergeSort (PySem.W.dataLe false enc))->Q (.ref p) s') :
  wpAny (model P w) A (call (.builtin "sorted") [.ref a]) Q E s:=by
 refine Calls.call_function_entry kind_sorted plain_sorted entry_sorted (args_sorted1 _) ?_;unfold Builtin.«sorted»;refine wpAny_bind (m:=checkCount "sorted" 1 1 _) (wpAny_pure ?_)
 refine wpAny_bind (collect_set (A:=A.in1) hh ha hf hsz hr hl λt1 vals kept grown g1 o1 pm=>?_);obtain⟨cs,pc,ec⟩:=J9 pm.symm e;have lc:vals.length=cs.length:=ec.length;have lb:cs.length=bs.length:=pc.length_eq;have lz:vals.length<=sizeLine:=by rw[pm.length_eq,adp,adP,sizeLine_eq];unfold scanBound at hsz;omega
 refine wpAny_bind (wpAny_newList ?_ lz);have here:(t1.heap.push (seqObj "list" vals.toArray 0)).get? t1.heap.objs.size=some (seqObj "list" vals.toArray 0):=Heap.get?_push_size _ rfl
 have stays:∀b o,s.heap.get? b=some o->(t1.heap.push (seqObj "list" vals.toArray 0)).get? b=some o:=λb o q=>Heap.get?_push_of_some _ (kept b o q)
 have al:PySem.W.AllAlike (cs.map enc):=λd hd d' hd'=>hal d ((pc.map enc).mem_iff.mp hd) d' ((pc.map enc).mem_iff.mp hd');have sk:PySem.W.Sortable (cs.map enc):=by
  rcases hk with k|k
  .exact .inl λd hd=>k d ((pc.map enc).mem_iff.mp hd)
  .exact .inr λd hd=>k d ((pc.map enc).mem_iff.mp hd)
 refine wpAny_bind (wpAny_holding (PySem.W.list_sort_data (s:={ t1 with heap:=t1.heap.push (seqObj "list" vals.toArray 0) }) (enc:=enc) here (ec.mono λv b h=>h.1) (ec.mono λv b ⟨_,as,r⟩=>⟨as,PySem.W.reads_keeps stays r,λm=>?rd⟩) al sk (by omega) (λb hb=>?un) λout lo eo=>?fin))
 case rd=>
  obtain⟨o,q⟩:=PyProof.On.reads_mem_get r _ m;have hlt:t1.heap.objs.size<s.heap.objs.size:=Heap.lt_size q;exact absurd grown (Nat.not_le_of_lt hlt)
 case fin=>
  obtain⟨c,hc⟩:=sortedHeap_at (vs:=vals) (out:=out.toArray) here;refine wpAny_pure ⟨_,rfl,hQ _ t1.heap.objs.size out c cs (λb o q=>?_) g1 o1 grown hc pc eo⟩;have hlt:=Heap.lt_size (kept b o q)
  show(sortedHeap (t1.heap.push (seqObj "list" vals.toArray 0)) t1.heap.objs.size vals out.toArray).get? b=some o
  rw[sortedHeap_old (adK hlt) (by rw[size_push'];exact ad8 hlt)];exact stays b o q
 case un=>
  have:=hu b (pc.mem_iff.mp hb);show A.in1.units+1+_<_;have e1:A.in1.units=A.units+1:=rfl;omega
def nk(r:Rw):NestedKey:=.tup [.num r.1,.tup (r.2.map .num)]
theorem CT:∀a b:List Int,a.map NestedKey.num=b.map NestedKey.num->a=b
 |[],[],_=>rfl
 |[],_::_,h=>by cases h
 |_::_,[],h=>by cases h
 |x::a,y::b,h=>by
  rw[ado,ado]at h;injection h with h1 h2;injection h1 with h1;rw[h1,CT a b h2]
theorem Iv{a b:Rw}(h:nk a=nk b):a=b:=by unfold nk at h;injection h with h;injection h with h1 h;injection h with h2 _;injection h1 with h1;injection h2 with h2;exact Prod.ext h1 (CT _ _ h2)
theorem wN:∀l:List Int,NestedKey.depthAll (l.map .num)=0
 |[]=>by rw[aec,NestedKey.depthAll]
 |x::l=>by
  rw[ado,NestedKey.depthAll,NestedKey.depth,wN l];rfl
theorem Nk(r:Rw):(nk r).depth=2:=by unfold nk;rw[NestedKey.depth,NestedKey.depthAll,NestedKey.depthAll,NestedKey.depthAll,NestedKey.depth,NestedKey.depth,wN];rfl
def fB(P:Program)(w:World):HeapKind P w Rw where
 is:=λh r a=>(nestedKind P w).is h (nk r) a
 hash:=λr=>(nestedKind P w).hash (nk r)
 draws:=λr=>(nestedKind P w).draws (nk r)
 room:=(nestedKind P w).room
 inj:=λhx hy=>Iv ((nestedKind P w).inj hx hy)
 keeps:=λx ho hd hs=>(nestedKind P w).keeps x ho hd hs
 pyHash:=λhu hk h=>(nestedKind P w).pyHash hu hk h
 eqBool:=λ{A E s x y a b Q} hu hx hy h=>(nestedKind P w).eqBool hu hx hy (by
  have e:decide (nk x=nk y)=decide (x=y):=by rw[decide_eq_decide];exact⟨Iv,λh=>by rw[h]⟩
  rw[e];exact h)
 quiet:=λhk h=>(nestedKind P w).quiet hk h
abbrev RI(h:Heap)(r:Rw)(a:Addr):Prop:=NestedIs h (nk r) (.ref a)/\(nk r).depth<=8
theorem yq{h h':Heap}{r:Rw}{a:Addr}(x:RI h r a)(k:∀c o,h.get? c=some o->h'.get? c=some o):RI h' r a:=⟨NestedIs.at (λb o _ _ e _=>k b o e) _ _ x.1,x.2⟩
theorem BZ{h h':Heap}{r:Rw}{a d:Addr}{o:Obj}{es:Array (Int×Value)}{ep:Nat}{t:SetTable}(x:RI h r a)(ho:h.get? d=some o)(hd:o.data=.set es ep t)(sb:Heap.SameBut d h h'):RI h' r a:=by
 refine⟨NestedIs.at (λb ob vs n hb hc=>(sb.2 b λe=>?_).trans hb) _ _ x.1,x.2⟩;subst e
 obtain rfl:ob=o:=adx (hb.symm.trans ho)
 rw[hd]at hc;cases hc
theorem qK{h:Heap}{i:Int}{v:Value}(x:NestedIs h (.num i) v)(n:Nat):ofAClassStatement n v=pure false/\hashByValue n v=pure true:=by
 cases x with
 |bool _=>cases n<;>exact⟨rfl,rfl⟩
 |int _ t=>cases n<;>exact⟨rfl,rfl⟩
theorem CJ{h:Heap}:∀(l:List Int) (vs:List Value),NestedAll h (l.map .num) vs->∀v∈vs,∃i,NestedIs h (.num i) v
 |[],_,x,v,hv=>by
  cases x;cases hv
 |i::l,_,x,v,hv=>by
  rw[ado]at x;cases x with
  |cons x1 x2=>
   rcases adB.mp hv with e|hv
   .exact⟨i,by rw[e];exact x1⟩
   .exact CJ l _ x2 v hv
theorem Ge{n:Nat}{a:Addr}{o:Obj}{vs:Array Value}{m:Nat}(ho:s.heap.get? a=some o)(hc:o.cls=.type "tuple")(hd:o.data=.seq vs m)(hq:∀v∈vs.toList,∀(E:Value->Shared->Prop) (Q:Bool->Shared->Prop),Q false s->wpAny (model P w) A (ofAClassStatement n v) Q E s){Q:Bool->Shared->Prop}(q:Q false s) :
  wpAny (model P w) A (ofAClassStatement (n+1) (.ref a)) Q E s:=by
 have hT:s.TypeIs (.ref a) "tuple":=⟨o,ho,hc⟩
 unfold ofAClassStatement;refine wpAny_bind (wpAny_typeOf hT ?_)
 dsimp only
 have eq1:(("tuple" : String)=="tuple")=true:=by decide
 simp only[eq1,if_true,Bool.not_true,adL,if_false]
 try refine wpAny_bind (wpAny_pure ?_)
 try simp only[Bool.not_true,adL,if_false]
 refine wpAny_bind (wpAny_seqItems ho hd ?_)
 dsimp only
 refine wpAny_bind ?_;rw[<-Array.forIn_toList];refine wpAny_forIn_list _ (λleft r u=>r.1=none/\u=s/\∀v∈left,v∈vs.toList) _ ?_ ?_ _ _ ⟨rfl,rfl,λv hv=>hv⟩
 .rintro v left r u ⟨hr,rfl,hall⟩;refine wpAny_bind (hq v (hall v adn) _ _ ?_);simp only[adL,if_false];exact wpAny_pure ⟨rfl,rfl,λy hy=>hall y (adt _ hy)⟩
 .rintro⟨r1,r2⟩ u ⟨hr,rfl,_⟩;simp only at hr;subst hr;exact wpAny_pure q
theorem Bh{n:Nat}{a:Addr}{o:Obj}{vs:Array Value}{m:Nat}(ho:s.heap.get? a=some o)(hc:o.cls=.type "tuple")(hd:o.data=.seq vs m)(hq:∀v∈vs.toList,∀(E:Value->Shared->Prop) (Q:Bool->Shared->Prop),Q true s->wpAny (model P w) A (hashByValue n v) Q E s){Q:Bool->Shared->Prop}(q:Q true s) :
  wpAny (model P w) A (hashByValue (n+1) (.ref a)) Q E s:=by
 have hT:s.TypeIs (.ref a) "tuple":=⟨o,ho,hc⟩
 unfold hashByValue;refine wpAny_bind (wpAny_specialOf hT PySem.F.slot_tuple_hash.lookup ?_);show wpAny _ _ (seqItems? (.ref a) >>= _) _ _ s;refine wpAny_bind (wpAny_seqItems ho hd ?_);refine wpAny_bind ?_;show wpAny _ _ (forIn vs _ _) _ _ s;rw[<-Array.forIn_toList];refine wpAny_forIn_list _ (λleft r u=>r.1=none/\u=s/\∀v∈left,v∈vs.toList) _ ?_ ?_ _ _ ⟨rfl,rfl,λv hv=>hv⟩
 .rintro v left r u ⟨hr,rfl,hall⟩;refine wpAny_bind (hq v (hall v adn) _ _ ?_);simp only[Bool.not_true,adL,if_false];exact wpAny_pure ⟨rfl,rfl,λy hy=>hall y (adt _ hy)⟩
 .rintro⟨r1,r2⟩ u ⟨hr,rfl,_⟩;simp only at hr;subst hr;exact wpAny_pure q
theorem qp{r:Rw}{a:Addr}(x:RI s.heap r a):(∀{Q:Bool->Shared->Prop},Q false s->wpAny (model P w) A (ofAClassStatement 8 (.ref a)) Q E s)/\∀{Q:Bool->Shared->Prop},Q true s->wpAny (model P w) A (hashByValue 8 (.ref a)) Q E s:=by
 obtain⟨x,_⟩:=x;unfold nk at x;cases x with
 | @tup _ o vs m _ ho hc hd x=>
  have items:∀v∈vs.toList,(∃i,NestedIs s.heap (.num i) v)\/∃b,v=.ref b/\∃o us k,s.heap.get? b=some o/\o.cls=.type "tuple"/\o.data=.seq us k/\∀u∈us.toList,∃i,NestedIs s.heap (.num i) u:=by
   generalize vs.toList=l at x;cases x with
   |cons x1 x=>
    cases x with
    |cons x2 x=>
     cases x;intro v hv;rcases adB.mp hv with e|hv
     .exact Or.inl ⟨_,by rw[e];exact x1⟩
     .have e:=adF.mp hv;cases x2 with
      |tup k1 k2 k3 k4=>exact Or.inr ⟨_,e,_,_,_,k1,k2,k3,CJ _ _ k4⟩
  refine⟨λq=>Ge ho hc hd (λv hv E' Q' q'=>?_) q,λq=>Bh ho hc hd (λv hv E' Q' q'=>?_) q⟩
  .rcases items v hv with⟨i,y⟩|⟨b,rfl,o',us,k,k1,k2,k3,k4⟩
   .rw[(qK y 7).1];exact wpAny_pure q'
   .refine Ge k1 k2 k3 (λu hu E2 Q2 q2=>?_) q';obtain⟨i,y⟩:=k4 u hu;rw[(qK y 6).1];exact wpAny_pure q2
  .rcases items v hv with⟨i,y⟩|⟨b,rfl,o',us,k,k1,k2,k3,k4⟩
   .rw[(qK y 7).2];exact wpAny_pure q'
   .refine Bh k1 k2 k3 (λu hu E2 Q2 q2=>?_) q';obtain⟨i,y⟩:=k4 u hu;rw[(qK y 6).2];exact wpAny_pure q2
end
abbrev Ent:Type:=Addr×Rw
section
variable{P:Program}{w:World}{A:Around}{E:Value->Shared->Prop}{s:Shared}
def ents(hf:Rw->Int)(L:List Ent):List (Int×Value):=L.map λp=>(hf p.2,Value.ref p.1)
structure gJ(hf:Rw->Int)(w:World)(h:Heap)(a:Addr)(L:List Ent)(es:Array (Int×Value))(ep:Nat)(t:SetTable):Prop where
 ob:∃o,h.get? a=some o/\o.ExactSet/\o.data=.set es ep t
 en:es.toList=ents hf L
 tab:TabOk t (L.map λp=>hf p.2)
 nd:(L.map Prod.snd).Nodup
 ky:∀p∈L,RI h p.2 p.1
 pl:t.plain=true
 ld:w.params.followText "set-order"=true\/t.led=true
 free:L.length*5<t.mask*3
 few:L.length<=76
variable{hf:Rw->Int}{a:Addr}{L:List Ent}{es:Array (Int×Value)}{ep:Nat}{t:SetTable}
theorem j7(h:es.toList=ents hf L):es.size=L.length:=by rw[<-adP,h];exact adp _
theorem tX(h:es.toList=ents hf L){i:Nat}{p:Ent}(g:L[i]?=some p):es[i]?=some (hf p.2,Value.ref p.1):=by rw[<-adT,h];unfold ents;rw[adw,g];rfl
theorem fits_of(h1:t.place.size=es.size)(h2:t.dummies=#[])(h3:es.size<=t.mask):t.fits es.size=true:=by unfold SetTable.fits SetTable.fill;rw[h2,adi,beq_iff_eq,aew];exact⟨h1,by show t.place.size+0<=t.mask;omega⟩
theorem gJ.fits(R:gJ hf w s.heap a L es ep t):t.fits es.size=true:=by have l1:=j7 R.en;have l2:=R.tab.sz;rw[adp]at l2;have l3:=R.free;exact fits_of (by omega) R.tab.dm (by omega)
theorem gJ.sound(R:gJ hf w s.heap a L es ep t):¬t.gaveWay=true:=by unfold SetTable.gaveWay;rw[mask_odd R.tab.mok];decide
theorem Ui{r:Rw}{b:Addr}{Q:Bool->Shared->Prop}(hx:RI s.heap r b){ys:List Value}(hy:∀y∈ys,∃q c,y=Value.ref c/\RI s.heap q c)(q:Q false s):wpAny (model P w) A (searchCouldBeSeen (.ref b) ys) Q E s:=by
 unfold searchCouldBeSeen;refine wpAny_bind ?_;refine wpAny_forIn_list _ (λleft r u=>r.1=none/\u=s/\∀y∈left,∃q c,y=Value.ref c/\RI s.heap q c) _ ?_ ?_ _ _ ⟨rfl,rfl,hy⟩
 .rintro v left r u ⟨hr,rfl,hall⟩;obtain⟨q',c,rfl,hc⟩:=hall v adn;have more:∀y∈left,∃q c,y=Value.ref c/\RI u.heap q c:=λy m=>hall y (adt _ m)
  dsimp only
  by_cases hv:(b==c || (carriedByValue (.ref b)&&carriedByValue (.ref c)))=true
  .exact wp_if_pos hv (wpAny_pure ⟨rfl,rfl,more⟩)
  .refine wp_if_neg hv ?_;refine wpAny_bind ((fB P w).quiet hx ?_);simp only[Bool.not_true,adL,if_false];refine wpAny_bind ((fB P w).quiet hc ?_);simp only[Bool.not_true,adL,if_false];refine wpAny_bind ((qp hx).1 ?_);simp only[adL,if_false];refine wpAny_bind ((qp hc).1 ?_);simp only[adL,if_false];exact wpAny_pure ⟨rfl,rfl,more⟩
 .rintro⟨r1,r2⟩ u ⟨hr,rfl,_⟩;simp only at hr;subst hr;exact wpAny_pure q
abbrev jf(m:Nat)(h:Int)(c:Nat):SetTable.Probe:=nth m (runAt m (SetTable.bits h%(m+1)) (SetTable.bits h)) c
theorem Eb(m:Nat)(h:Int)(c:Nat):(jf m h c).dummy=none:=by
 have all:∀(n:Nat) (p:SetTable.Probe),p.dummy=none->(nth m p n).dummy=none:=by
  intro n
  induction n with
  |zero=>exact λp k=>k
  |succ n ih=>
   intro p k;refine ih (adv m p) ?_;unfold adv
   split<;>exact k
 exact all c _ rfl
theorem yZ(m:Nat)(h:Int)(c d:Nat):nth m (jf m h c) d=jf m h (c+d):=(nth_add m c _ d).symm
theorem seek(R:gJ hf w s.heap a L es ep t){x:Addr}{r:Rw}(hx:RI s.heap r x){h:Int}(hh:hf r=h)(hu:(fB P w).room A){N:Nat}(hN:N<10*SetTable.turns t.mask)(out:way t.mask (h) N∉t.place.toList)(inn:∀c,c<N->way t.mask (h) c∈t.place.toList){Q:SetFound->Shared->Prop}
  (yes:r∈L.map Prod.snd->Q (.there none) s) (no:r∉L.map Prod.snd->Q (.free (way t.mask (h) N) false) s) :
  ∀(f c:Nat) (st:Option SetTable.Probe),st.getD (t.probeStart (h))=jf t.mask (h) c->c<=N->N-c<f->
   (∀(i:Nat) (p:Ent),L[i]?=some p->p.2=r->∃d,c<=d/\d<N/\t.place.toList[i]?=some (way t.mask (h) d))->
   wpAny (model P w) A (setSearchFrom a (.ref x) (h) true f st) Q E s:=by
 intro f
 induction f with
 |zero=>exact λ_ _ _ _ hfl _=>absurd hfl (Nat.not_lt_zero _)
 |succ f ih=>
  intro c st hst hc hfl left;obtain⟨o,ho,hex,hd⟩:=R.ob;rw[setSearchFrom_succ];refine wpAny_bind (wpAny_setState_of ho hd R.fits ?_)
  dsimp only
  refine wp_if_neg R.sound ?_
  try refine wpAny_bind (wpAny_pure ?_)
  have jAt:∀d,(nth t.mask (jf t.mask h c) d).j=way t.mask h (c+d):=λd=>congrArg SetTable.Probe.j (yZ t.mask h c d);have hashOf:∀(i:Nat) (p:Ent),L[i]?=some p->(es[i]?.map (·.1)).getD 0=hf p.2:=λi p g=>by
   rw[tX R.en g];rfl
  have spec:=go_spec t R.tab.ris R.tab.dm (λi=>(es[i]?.map (·.1)).getD 0) h (10*SetTable.turns t.mask) (N-c) (jf t.mask h c) (Eb _ _ _) (by omega) (λd hdn=>by rw[jAt];exact inn (c+d) (by omega)) (by rw[jAt,aej hc];exact out);rcases spec with⟨d,i,hdn,hi,hhi,hno,hpr⟩|⟨hno,hpr⟩
  .have hpr':t.probe (λi=>(es[i]?.map (·.1)).getD 0) h (st.getD (t.probeStart h))=some (.candidate (way t.mask h (c+d)) i (jf t.mask h (c+(d+1)))):=by
    rw[hst,<-jAt,<-yZ];exact hpr
   rw[hpr']
   dsimp only
   rw[jAt]at hi;have hil:i<L.length:=by have k1:=(adk.mp hi).1;have k2:=R.tab.sz;rw[adp]at k2;rw[adP]at k1;omega
   obtain⟨p,hp⟩:∃p,L[i]?=some p:=⟨_,adq hil⟩;have pm:=adH hp;have go:wpAny (model P w) A (searchRest a (.ref x) h true f es t (way t.mask h (c+d)) i (jf t.mask h (c+(d+1)))) Q E s:=by
    unfold searchRest;rw[tX R.en hp]
    dsimp only
    refine wpAny_bind (wpAny_holding ((fB P w).eqBool hu (R.ky p pm) hx ?_));refine wpAny_bind (wpAny_setState_of ho hd R.fits ?_)
    dsimp only
    by_cases same:p.2=r
    .exact wp_if_pos (by simp[same]) (wpAny_pure (yes (adJ.mpr ⟨p,pm,same⟩)))
    .refine wp_if_neg (by simp[same]) ?_
     try refine wpAny_bind (wpAny_pure ?_)
     rw[sameMem]
     dsimp only
     have live:t.slot (way t.mask h (c+d))=.live i:=slot_live R.tab.ris hi;simp only[if_true,live,tX R.en hp];refine wpAny_bind (wpAny_isSame_ref_self (wpAny_bind (wpAny_pure ?_)));simp only[if_true];refine wp_if_neg (by simp[same]) ?_;refine ih (c+(d+1)) _ rfl (by omega) (by omega) λi0 p0 g0 e0=>?_;obtain⟨d0,a1,a2,a3⟩:=left i0 p0 g0 e0;refine⟨d0,?_,a2,a3⟩;by_cases c1:d0<c+d
     .exact absurd ((hashOf i0 p0 g0).trans ((congrArg hf e0).trans hh)) (hno (d0-c) i0 (by omega) (by rw[jAt,aej a1];exact a3))
     .by_cases c2:d0=c+d
      .rw[c2]at a3;have live0:=slot_live R.tab.ris a3;rw[live]at live0;injection live0 with ei;rw[<-ei,hp]at g0;exact absurd ((congrArg Prod.snd (adx g0)).trans e0) same
      .omega
   by_cases hl:t.led=true
   .refine wp_if_neg (by simp[hl]) ?_
    try refine wpAny_bind (wpAny_pure ?_)
    exact go
   .refine wp_if_pos (by simp[hl]) ?_;refine wpAny_bind (Ui hx (λy hy=>?_) ?_)
    .obtain⟨e,he,ee⟩:=adJ.mp hy;have h1:e∈es/\e.1=h:=by simpa using he
     have h2:e∈es.toList:=by simpa using h1.1
     rw[R.en]at h2;obtain⟨p2,hp2,e2⟩:=adJ.mp h2;exact⟨p2.2,p2.1,by rw[<-ee,<-e2],R.ky p2 hp2⟩
    .refine wp_if_neg (by decide) ?_
     try refine wpAny_bind (wpAny_pure ?_)
     exact go
  .have hpr':t.probe (λi=>(es[i]?.map (·.1)).getD 0) h (st.getD (t.probeStart h))=some (.empty (way t.mask h N) none):=by
    have e2:way t.mask h N=(nth t.mask (jf t.mask h c) (N-c)).j:=by rw[jAt,aej hc]
    rw[hst,e2];exact hpr
   rw[hpr']
   dsimp only
   refine wpAny_pure (no λhm=>?_);obtain⟨p0,m0,e0⟩:=adJ.mp hm;obtain⟨i0,hi0,e1⟩:=List.getElem_of_mem m0;have g0:L[i0]?=some p0:=by rw[adq hi0,e1]
   obtain⟨d0,a1,a2,a3⟩:=left i0 p0 g0 e0;exact hno (d0-c) i0 (by omega) (by rw[jAt,aej a1];exact a3) ((hashOf i0 p0 g0).trans ((congrArg hf e0).trans hh))
theorem look(R:gJ hf w s.heap a L es ep t){x:Addr}{r:Rw}(hx:RI s.heap r x)(hu:(fB P w).room A){Q:SetFound->Shared->Prop}(yes:r∈L.map Prod.snd->Q (.there none) s)
  (no:∀N,r∉L.map Prod.snd->way t.mask (hf r) N∉t.place.toList->(∀c,c<N->way t.mask (hf r) c∈t.place.toList)->Q (.free (way t.mask (hf r) N) false) s):wpAny (model P w) A (setSearch a (.ref x) (hf r) true) Q E s:=by
 have hfree:=R.free;obtain⟨N,hN,out,inn⟩:=R.tab.first (by rw[adp];omega) (hf r);have small:N<100000:=by
  have:10*SetTable.turns t.mask<=1420:=by unfold SetTable.turns;rcases R.tab.mok with e|e|e<;>omega
  omega
 unfold setSearch;refine seek R hx rfl hu hN out inn yes (λhn=>no N hn out inn) 100000 0 none rfl (adR _) (by omega) λi p g e=>?_;have hi:(L.map λp=>hf p.2)[i]?=some (hf r):=by rw[adw,g,<-e];rfl
 have hil:i<t.place.toList.length:=by have k1:=(adk.mp g).1;have k2:=R.tab.sz;rw[adp]at k2;rw[adP];omega
 obtain⟨c,hc,ec⟩:=R.tab.before out hi (adq hil);exact⟨c,adR _,hc,by rw[adq hil,ec]⟩
end
section
variable{P:Program}{w:World}{A:Around}{E:Value->Shared->Prop}{s:Shared}{hf:Rw->Int}{a:Addr}{L:List Ent}{es:Array (Int×Value)}{ep:Nat}{t:SetTable}
theorem Mp(L:List Ent)(n:Nat)(x:Addr)(r:Rw):ents hf (L.take n++(x,r)::L.drop n)=(ents hf L).take n++(hf r,Value.ref x)::(ents hf L).drop n:=by unfold ents;rw[adQ,ado,List.map_take,List.map_drop]
theorem range_all(L:List Ent):(List.range L.length).filterMap (λi=>L[i]?)=L:=by
 have part:∀n,n<=L.length->(List.range n).filterMap (λi=>L[i]?)=L.take n:=by
  intro n
  induction n with
  |zero=>exact λ_=>rfl
  |succ n ih=>
   intro hn;rw[List.range_succ,List.filterMap_append,ih (by omega),List.take_add_one,adq (show n<L.length by omega)];congr 1;rw[List.filterMap_cons_some (adq (show n<L.length by omega))];rfl
 rw[part _ (adE _),List.take_length]
theorem Kv(h:es.toList=ents hf L){order:Array Nat}(hp:order.toList.Perm (List.range L.length)) :
  ∃M:List Ent,(order.filterMap (es[·]?)).toList=ents hf M/\M.Perm L/\(M.map λp=>hf p.2)=order.toList.map λi=>(es.map (·.1)).getD i 0:=by
 have inside:∀i∈order.toList,i<L.length:=λi hi=>List.mem_range.mp (hp.mem_iff.mp hi);refine⟨order.toList.filterMap (λi=>L[i]?),?_,?_,?_⟩
 .have e1:(order.filterMap (es[·]?)).toList=order.toList.filterMap (λi=>es[i]?):=by
   first | rw[Array.toList_filterMap] | simp
  rw[e1];unfold ents;rw[List.map_filterMap];congr 1;funext i;rw[<-adT,h];unfold ents;rw[adw]
 .have:=hp.filterMap (λi=>L[i]?);rw[range_all]at this;exact this
 .generalize order.toList=l at inside
  induction l with
  |nil=>rfl
  |cons i l ih=>
   have hi:=inside i adn;have e5:(es.map (·.1))[i]?=some (hf (L[i]).2):=by rw[Array.getElem?_map,tX h (adq hi)];rfl
   rw[List.filterMap_cons_some (adq hi),ado,ado,ih λj hj=>inside j (adt _ hj),Array.getD_eq_getD_getElem?,e5];rfl
theorem X4{o:Obj}(ho:s.heap.get? a=some o)(hex:o.ExactSet)(hd:o.data=.set es ep t)(he:es.toList=ents hf L)(hsz:t.place.size=es.size)(hdm:t.dummies=#[])(hfl:es.size<=t.mask)(nd:(L.map Prod.snd).Nodup)(ky:∀p∈L,RI s.heap p.2 p.1)(pl:t.plain=true)
  (ld:w.params.followText "set-order"=true\/t.led=true) (few:L.length<=76) {wanted M:Nat} (hw:SetTable.sizeAbove wanted-1=M) (hM:MaskOk M) (hw2:SetTable.sizeAbove wanted<=128) (hn:L.length*5<M*3) {Q:Unit->Shared->Prop}
  (q:∀h' K es' ep' t',Heap.SameBut a s.heap h'->gJ hf w h' a K es' ep' t'->K.Perm L->Q () { s with heap:=h' }):wpAny (model P w) A (setRelay a wanted) Q E s:=by
 have len:=j7 he;obtain⟨t',order,e,hp,T,em,el,epl,ed⟩:=relaid_ok t (hs:=es.map (·.1)) (wanted:=wanted) hw hM (by rw[Array.size_map,len];omega);rw[Array.size_map,len]at hp;obtain⟨K,k1,k2,k3⟩:=Kv he hp;rw[<-k3]at T;have ks:(order.filterMap (es[·]?)).size=es.size:=by rw[j7 k1,k2.length_eq,len]
 rw[setRelay_eq];refine wpAny_bind (wpAny_setState_of ho hd (fits_of hsz hdm hfl) ?_)
 dsimp only
 refine wp_if_neg (by rw[sizeLine_eq];omega) ?_
 try refine wpAny_bind (wpAny_pure ?_)
 rw[e]
 dsimp only
 refine wpAny_bind ?_;refine wp_if_neg (by rw[ks];simp) ?_
 try refine wpAny_bind (wpAny_pure ?_)
 refine wpAny_pure ?_
 dsimp only
 refine wpAny_storeSet_of ho hd ?_ (by rw[ks,len,sizeLine_eq];omega);have sb:Heap.SameBut a s.heap (s.heap.update a (Obj.putSet (order.filterMap (es[·]?)) t')):=Heap.SameBut.update ..;refine q _ K (order.filterMap (es[·]?)) (ep+1) t' sb ⟨⟨_,store_at ho hd,⟨hex.1,hex.2.1,hex.2.2⟩,rfl⟩,k1,T,(k2.map Prod.snd).nodup_iff.mpr nd,λp hp=>BZ (ky p (k2.mem_iff.mp hp)) ho hd sb,by rw[epl];exact pl,by rw[el];exact ld,?_,by rw[k2.length_eq];exact few⟩ k2;rw[k2.length_eq,em];exact hn
theorem Vl(R:gJ hf w s.heap a L es ep t){x:Addr}{r:Rw}(hx:RI s.heap r x)(hu:(fB P w).room A)(hfew:r∉L.map Prod.snd->L.length+1<=76){Q:Bool->Shared->Prop}
  (q:∀b h' K es' ep' t',Heap.SameBut a s.heap h'->gJ hf w h' a K es' ep' t'->(r∈L.map Prod.snd->K=L)->(r∉L.map Prod.snd->K.Perm ((x,r)::L))->Q b { s with heap:=h' }):wpAny (model P w) A (setAddHashed a (.ref x) (hf r)) Q E s:=by
 obtain⟨o,ho,hex,hd⟩:=R.ob;have len:=j7 R.en;have hfree:=R.free;unfold setAddHashed;refine wpAny_holding ?_;rw[show(100000:Nat)=99999+1 from rfl,setAddHashedIn_succ];refine wpAny_bind (wpAny_setState_of ho hd R.fits ?_)
 dsimp only
 refine wp_if_neg (by simp[byScan,Value.scannable]) ?_
 try refine wpAny_bind (wpAny_pure ?_)
 refine wpAny_bind (look R hx hu (λhm=>?_) λN hm out inn=>?_)
 .dsimp only
  exact wpAny_pure (q false s.heap L es ep t (Heap.SameBut.refl a s.heap) R (λ_=>rfl) λz=>absurd hm z)
 have few1:=hfew hm
 dsimp only
 refine wpAny_bind (wpAny_setState_of ho hd R.fits ?_)
 dsimp only
 obtain⟨q1,q2,q3,q4,q5,q6,q7,q8,q9⟩:=R.tab.put out inn;have pl1:(t.put (way t.mask (hf r) N)).1.plain=true:=by rw[q6];exact R.pl
 generalize hpt:t.put (way t.mask (hf r) N)=pt at q1 q3 q4 q5 q6 q7 q8 q9 pl1 |-
 obtain⟨t1,n⟩:=pt
 dsimp only at q1 q3 q4 q5 q6 q7 q8 q9 pl1 |-
 subst q1
 first
  |(refine wpAny_bind ?_;refine wp_if_pos pl1 ?_;refine(qp hx).2 ?_)
  |refine wp_if_pos pl1 (wpAny_bind ((qp hx).2 ?_))
 simp only[if_true];have ein:(SetTable.insertAt es (SetTable.below t.place (way t.mask (hf r) N)) (hf r,Value.ref x)).toList=ents hf (L.take (SetTable.below t.place (way t.mask (hf r) N))++(x,r)::L.drop (SetTable.below t.place (way t.mask (hf r) N))):=by rw[SetTable.toList_insertAt,Mp,R.en]
 generalize hnn:SetTable.below t.place (way t.mask (hf r) N)=n at q2 q3 ein |-
 have pm:=put_perm L n (x,r);have hs1:(L.take n++(x,r)::L.drop n).map (λp=>hf p.2)=(L.map λp=>hf p.2).take n++hf r::(L.map λp=>hf p.2).drop n:=by rw[adQ,ado,List.map_take,List.map_drop]
 rw[<-hs1]at q3;have nd1:((L.take n++(x,r)::L.drop n).map Prod.snd).Nodup:=by refine(pm.map Prod.snd).nodup_iff.mpr ?_;rw[ado];exact aek.mpr ⟨hm,R.nd⟩
 have len1:(SetTable.insertAt es n (hf r,Value.ref x)).size=L.length+1:=by rw[j7 ein,pm.length_eq];rfl
 generalize SetTable.insertAt es n (hf r,Value.ref x)=es1 at ein len1 |-
 have lenM:(L.take n++(x,r)::L.drop n).length=L.length+1:=pm.length_eq;generalize L.take n++(x,r)::L.drop n=M at pm q3 nd1 ein lenM;refine wpAny_bind (wpAny_storeSet_of ho hd ?_ (by rw[len1,sizeLine_eq];omega));have sb:Heap.SameBut a s.heap (s.heap.update a (Obj.putSet es1 t1)):=Heap.SameBut.update ..;have ho1:=store_at (es':=es1) (t':=t1) ho hd;generalize s.heap.update a (Obj.putSet es1 t1)=h1 at sb ho1 |-
 have ky1:∀p∈M,RI h1 p.2 p.1:=λp hp=>by
  rcases adB.mp (pm.mem_iff.mp hp) with e|m
  .rw[e];exact BZ hx ho hd sb
  .exact BZ (R.ky p m) ho hd sb
 have ld1:w.params.followText "set-order"=true\/t1.led=true:=by rw[q5];exact R.ld
 have full:t1.tooFull=true↔(L.length+1)*5 ≥ t1.mask*3:=by unfold SetTable.tooFull;rw[aew,q9,adp]
 by_cases hfu:t1.tooFull=true
 .first
   |(refine wpAny_bind ?_;refine wp_if_pos (by simp[hfu]) ?_)
   |(refine wp_if_pos (by simp[hfu]) ?_;refine wpAny_bind ?_)
  have over:=full.mp hfu;rw[len];have psz:t1.place.size=es1.size:=by have:=q3.sz;rw[adp,lenM]at this;rw[this,len1]
  have which:(t.mask=7/\L.length=4)\/(t.mask=31/\L.length=18):=by
   rcases R.tab.mok with e|e|e
   .rw[q4,e]at over;rw[e]at hfree;exact Or.inl ⟨e,by omega⟩
   .rw[q4,e]at over;rw[e]at hfree;exact Or.inr ⟨e,by omega⟩
   .rw[q4,e]at over;omega
  have go:∀m,SetTable.sizeAbove (SetTable.grown (L.length+1))-1=m->MaskOk m->SetTable.sizeAbove (SetTable.grown (L.length+1))<=128->(L.length+1)*5<m*3->
    wpAny (model P w) A (setRelay a (SetTable.grown (L.length+1))) (λ_ u=>wpAny (model P w) A (pure true) Q E u) E { s with heap:=h1 }:=λm g1 g2 g3 g4=>
   X4 (s:={ s with heap:=h1 }) ho1 ⟨hex.1,hex.2.1,hex.2.2⟩ rfl ein psz q3.dm (by rw[len1,q4];rcases which with⟨e,e2⟩|⟨e,e2⟩<;>omega) nd1 ky1 pl1 ld1 (by rw[lenM];exact few1) g1 g2 g3 (by rw[lenM];exact g4)
    λh2 K es2 ep2 t2 sb2 R2 pm2=>wpAny_pure (q true h2 K es2 ep2 t2 (sb.trans sb2) R2 (λz=>absurd z hm) λ_=>pm2.trans pm)
  rcases which with⟨_,e2⟩|⟨_,e2⟩
  .exact go 31 (by rw[e2,size_20]) (.inr (.inl rfl)) (by rw[e2,size_20];decide) (by omega)
  .exact go 127 (by rw[e2,size_76]) (.inr (.inr rfl)) (by rw[e2,size_76];decide) (by omega)
 .first
   |refine wp_if_neg (by simp[hfu]) ?_
   |(refine wpAny_bind ?_;refine wp_if_neg (by simp[hfu]) ?_;refine wpAny_pure ?_)
  have under:¬(L.length+1)*5 ≥ t1.mask*3:=λz=>hfu (full.mpr z);exact wpAny_pure (q true h1 M es1 (ep+1) t1 sb ⟨⟨_,ho1,⟨hex.1,hex.2.1,hex.2.2⟩,rfl⟩,ein,q3,nd1,ky1,pl1,ld1,by rw[lenM];omega,by rw[lenM];exact few1⟩ (λz=>absurd z hm) λ_=>pm)
end
theorem Bj{α:Type}[DecidableEq α]:∀(l D:List α),l.Nodup->(∀x∈l,x∈D)->l.length<=D.length
 |[],_,_,_=>adR _
 |x::l,D,hn,hs=>by
  obtain⟨h1,h2⟩:=aek.mp hn;have mx:=hs x adn;have ih:=Bj l (D.erase x) h2 λy hy=>(List.mem_erase_of_ne (λe=>h1 (by rw[<-e];exact hy))).2 (hs y (adt _ hy));have e:=List.length_erase_of_mem mx;have hp:=List.length_pos_of_mem mx;rw[adA];omega
structure Has(ks:List Ent)(i:Nat)(L:List Ent):Prop where
 sub:∀p∈L,p∈ks.take i
 all:∀p∈ks.take i,p.2∈L.map Prod.snd
theorem oF{α:Type}{l:List α}{i:Nat}{x:α}(h:l[i]?=some x):l.take (i+1)=l.take i++[x]:=by rw[List.take_add_one,h];rfl
theorem Has.next{ks L K:List Ent}{i:Nat}{x:Ent}(g:Has ks i L)(h:ks[i]?=some x)(h1:x.2∈L.map Prod.snd->K=L)(h2:x.2∉L.map Prod.snd->K.Perm (x::L)):Has ks (i+1) K:=by
 by_cases c:x.2∈L.map Prod.snd
 .rw[h1 c];refine⟨λp hp=>?_,λp hp=>?_⟩
  .rw[oF h];exact List.mem_append_left _ (g.sub p hp)
  .rw[oF h]at hp;rcases adU.mp hp with m|m
   .exact g.all p m
   .rw[adF.mp m];exact c
 .have pm:=h2 c;refine⟨λp hp=>?_,λp hp=>?_⟩
  .rw[oF h];rcases adB.mp (pm.mem_iff.mp hp) with e|m
   .exact List.mem_append_right _ (adF.mpr e)
   .exact List.mem_append_left _ (g.sub p m)
  .rw[(pm.map Prod.snd).mem_iff,ado];rw[oF h]at hp;rcases adU.mp hp with m|m
   .exact adt _ (g.all p m)
   .rw[adF.mp m];exact adn
def lB(w:World):Obj:={ cls:=.type "set",dict:=none,data:=.set #[] 0 (.fresh 0 0 (!w.params.followText "set-order")) }
section
variable{P:Program}{w:World}{A:Around}{E:Value->Shared->Prop}{s:Shared}{hf:Rw->Int}
theorem gJ.stay{h h':Heap}{a:Addr}{L:List Ent}{es:Array (Int×Value)}{ep:Nat}{t:SetTable}(R:gJ hf w h a L es ep t)(ha:∀o,h.get? a=some o->h'.get? a=some o)(hk:∀p∈L,RI h' p.2 p.1):gJ hf w h' a L es ep t:=by obtain⟨o,ho,r⟩:=R.ob;exact⟨⟨o,ha o ho,r⟩,R.en,R.tab,R.nd,hk,R.pl,R.ld,R.free,R.few⟩
theorem KZ{h:Heap}{a:Addr}(ho:h.get? a=some (lB w)):gJ hf w h a [] #[] 0 (.fresh 0 0 (!w.params.followText "set-order")):=by
 refine⟨⟨_,ho,⟨rfl,rfl,rfl⟩,rfl⟩,rfl,⟨List.Pairwise.nil,rfl,rfl,.inl rfl,λx hx=>(by cases hx),λi h j hi=>(by simp at hi)⟩,aeh,λp hp=>(by cases hp),rfl,?_,(show 0*5<7*3 by decide),adR _⟩;show _\/(!w.params.followText "set-order")=true
 cases w.params.followText "set-order"
 .exact .inr rfl
 .exact .inl rfl
theorem Rc(hhf:∀r,(fB P w).hash r=hf r){I:Addr}{fp wr:List Addr}{G:Array GenState->Array GenState->Prop}{n:Nat}{Pv:Nat->Value->Prop}{St:Nat->Shared->Prop}{R:Result->Shared->Prop}(W:WalksS P w A.in1 I fp wr G n Pv St)(S:Addr)(hSf:S∉fp)(ks:List Ent)(hn:n=ks.length)
  (D:List Rw) (hD:D.length<=76) (hkD:∀p∈ks,p.2∈D) (hval:∀i v,Pv i v->∃p,ks[i]?=some p/\v=.ref p.1) (h0:Heap) (hk:∀p∈ks,RI h0 p.2 p.1) (hS0:h0.get? S=none) (hw0:∀b∈wr,h0.get? b=none) (hu:(fB P w).room A.in1) :
  ∀(m i:Nat) (s:Shared),n-i=m->i<=n->St i s->(∀b o,h0.get? b=some o->s.heap.get? b=some o)->(∃L es ep t,gJ hf w s.heap S L es ep t/\Has ks i L)->
   (∀u L es ep t,Moved (S::wr) G s u->gJ hf w u.heap S L es ep t->Has ks n L->(∀b o,h0.get? b=some o->u.heap.get? b=some o)->R (.ok (.ret .none)) u)->
   codeAny (model P w) A (.builtin "set.update.loop" ⟨[.ref S,.ref I],[]⟩) R s:=by
 have Sw:S∉wr:=λh=>hSf (W.sub _ h);have wS:∀b∈wr,b∈S::wr:=λb hb=>adt _ hb;have old:∀{s u:Shared},Moved wr G s u->(∀b o,h0.get? b=some o->s.heap.get? b=some o)->∀b o,h0.get? b=some o->u.heap.get? b=some o:=λhm hkp b o e=>hm.heap b o (λhb=>by rw[hw0 b hb]at e;cases e) (hkp b o e);intro m
 induction m with
 |zero=>
  intro i s hm0 hi hst hkp ⟨L,es,ep,t,hS,g⟩ hR
  obtain rfl:i=n:=by omega
  refine codeAny_builtin PyProof.Rows.F.entry_set_update_loop ?_;rw[Around.under_plainId PyProof.Rows.F.plain_set_update_loop _];refine wpAny_bind (W.done s _ _ hst λu hm=>?_);have kept:=old hm hkp;exact wpAny_pure (hR u L es ep t (hm.mono wS) (hS.stay (λo e=>hm.heap S o Sw e) λp hp=>yq (hk p (aeb (g.sub p hp))) kept) g kept)
 |succ m ih=>
  intro i s hm0 hi hst hkp ⟨L,es,ep,t,hS,g⟩ hR;have hlt:i<n:=by omega
  refine codeAny_builtin PyProof.Rows.F.entry_set_update_loop ?_;rw[Around.under_plainId PyProof.Rows.F.plain_set_update_loop _];refine wpAny_bind (W.item i s _ _ hlt hst λv u hP hst' hm=>?_);obtain⟨p,hp,rfl⟩:=hval i v hP;have kept:=old hm hkp;have hS':gJ hf w u.heap S L es ep t:=hS.stay (λo e=>hm.heap S o Sw e) λq hq=>yq (hk q (aeb (g.sub q hq))) kept;have hx:RI u.heap p.2 p.1:=yq (hk p (adH hp)) kept;refine wpAny_bind (wpAny_holding ?_);unfold setAdd;refine wpAny_holding ?_;refine wpAny_bind ((fB P w).pyHash hu hx ?_);rw[hhf];have inD:∀y∈L.map Prod.snd,y∈D:=λy hy=>by
   obtain⟨q,hq,e⟩:=adJ.mp hy;rw[<-e];exact hkD q (aeb (g.sub q hq))
  refine Vl (s:={ u with toks:=u.toks+(fB P w).draws p.2 }) hS' hx hu (λhnew=>?_) λb h' K es' ep' t' sb hS2 c1 c2=>?_
  .have:=Bj (p.2::L.map Prod.snd) D (aek.mpr ⟨hnew,hS.nd⟩) λy hy=>by
    rcases adB.mp hy with e|hy
    .rw[e];exact hkD p (adH hp)
    .exact inD y hy
   rw[adA,adp]at this;omega
  have kept2:∀b o,h0.get? b=some o->h'.get? b=some o:=λb o e=>(sb.2 b (λz=>by rw[z,hS0]at e;cases e)).trans (kept b o e);refine wpAny_pure ⟨plainId_quiet PyProof.Rows.F.plain_set_update_loop _,ih (i+1) _ (by omega) hlt (W.frame _ u _ _ hst' (Nat.le_add_right _ _) λb hb o e=>?_) kept2 ⟨K,es',ep',t',hS2,g.next hp c1 c2⟩ λv L2 es2 ep2 t2 hm2 hS3 g3 k3=>?_⟩
  .rw[sb.2 b (λh:b=S=>hSf (by rw[<-h];exact hb))];exact e
  .refine hR v L2 es2 ep2 t2 (Moved.trans W.gtrans ((hm.mono wS).then_heap (Nat.le_add_right _ _) λb o hb e=>?_) hm2) hS3 g3 k3;rw[sb.2 b (λh:b=S=>hb (by rw[h];exact adn))];exact e
set_option maxHeartbeats 4000000 in
theorem Ef(hhf:∀r,(fB P w).hash r=hf r){l:Addr}{items:Array Value}(ks:List Ent)(D:List Rw)(hD:D.length<=76)(hkD:∀p∈ks,p.2∈D){Q:Value->Shared->Prop}(hh:A.handled=none)(hl:s.heap.IsList l items)(hit:items.toList=ks.map λp=>Value.ref p.1)
  (hk:∀p∈ks,RI s.heap p.2 p.1) (hu:A.units+3+8<cLine)
  (h:∀(h':Heap) (tk:Nat) L es ep t,gJ hf w h' s.heap.objs.size L es ep t->Has ks ks.length L->(∀b o,s.heap.get? b=some o->h'.get? b=some o)->Q (.ref s.heap.objs.size) { s with heap:=h',toks:=tk }) :
  wpAny (model P w) A (call (.type "set") [.ref l]) Q E s:=by
 have isz:items.size=ks.length:=by rw[<-adP,hit,adp]
 obtain⟨cc,tl,hmro⟩:=PySem.F.called_set.mro;have hmade:=PySem.F.called_set.made;have hsub:=PySem.F.called_set.sub;refine wpAny_call (codeAny_of_tree ?_);show wpAny _ _ (callAny (.type "set") _) _ _ _
 refine wpAny_pure ⟨Code.quiet_builtin _ (by decide +kernel),codeAny_builtin PySem.F.entry_type_call ?_⟩;rw[Around.under_plain (weight_type_call_type "set" [.ref l] []) rfl]
 have nt:=PySem.F.called_set.notType;have cr:=PySem.F.called_set.canCreate;have hct:=PySem.F.typeCall_set_1 (.ref l)
 (repeat (any_goals first | assumption | wp_step))
 refine codeAny_mono (code_set_led1 (.ref l) (E:=E) (Q₁:=λv u=>v=.ref s.heap.objs.size/\u={ s with heap:=s.heap.push (lB w) }) ⟨rfl,rfl⟩) λr u hr=>?_;cases r with
 |error e=>exact hr
 |ok fl=>
  cases fl with
  |ret v=>
   obtain⟨rfl,rfl⟩:=hr;have hS:(s.heap.push (lB w)).get? s.heap.objs.size=some (lB w):=Heap.get?_push_size _ rfl;have hT:Shared.TypeIs { s with heap:=s.heap.push (lB w) } (.ref s.heap.objs.size) "set":=⟨_,hS,rfl⟩
   have hli:=PySem.F.called_set.init.lookup;have hbi:=PySem.F.called_set.init.bind (.ref s.heap.objs.size)
   (repeat (any_goals first | assumption | wp_step))
   refine codeAny_mono (codeAny_call_builtin (R:=wants (λr u=>r=.none/\∃h' tk L es ep t,u={ s with heap:=h',toks:=tk }/\gJ hf w h' s.heap.objs.size L es ep t/\Has ks ks.length L/\∀b o,s.heap.get? b=some o->h'.get? b=some o) E) PySem.F.called_set.init.plain PySem.F.entry_set_init (check_set_init_1 hT ?_)) λr₂ u₂ hr₂=>?_
   .obtain⟨ol,hol,hcl,nl,hdl⟩:=hl;obtain⟨ocls,odict,odata,oslots⟩:=ol;simp only at hcl hdl;subst hcl;subst hdl;have hol':(s.heap.push (lB w)).get? l=some { cls:=.type "list",dict:=odict,data:=.seq items nl,slots:=oslots }:=Heap.get?_push_of_some _ hol
    have sl1:=PySem.F.sub_list_set;have sl2:=PySem.F.sub_list_frozenset;have nd:(Value.type "list"==Value.type "dict")=false:=by decide
    have hl1:(s.heap.push (lB w)).IsList l items:=⟨_,hol',rfl,nl,rfl⟩;unfold Builtin.«set.__init__» noKeywords Builtin.Frozenset.updateFrom;generalize hPI:pyIter=PI
    wp_walk
    subst hPI;refine wpAny_pyIter_list hl1 ?_;refine wpAny_bind (wpAny_runValue ?_);have lS:l<s.heap.objs.size:=Heap.lt_size hol;have h3:A.in1.in1.in1.handled=none:=by simp[hh]
    have sz1:(s.heap.push (lB w)).objs.size=s.heap.objs.size+1:=Heap.size_push ..;have lI:l≠(s.heap.push (lB w)).objs.size:=by rw[sz1];exact adK (ad8 lS)
    have Sf:s.heap.objs.size∉[(s.heap.push (lB w)).objs.size,l]:=by rw[sz1];simp only[adB,adM,or_false,not_or];exact⟨adK (Nat.lt_succ_self _),Nat.ne_of_gt lS⟩
    have hval:∀(i:Nat) (v:Value),items[i]?=some v->∃p,ks[i]?=some p/\v=.ref p.1:=λi v hv=>by
     rw[<-adT,hit,adw]at hv;obtain⟨p,g1,g2⟩:=adS.mp hv;exact⟨p,g1,g2.symm⟩
    have fresh:∀b,s.heap.objs.size<=b->s.heap.get? b=none:=λb hb=>by
     cases q:s.heap.get? b with
     |none=>rfl
     |some o=>exact absurd (Heap.lt_size q) (Nat.not_lt_of_le hb)
    refine Rc hhf ((Walks.list h3 _ l lI items).toS) s.heap.objs.size Sf ks isz D hD hkD hval s.heap hk (fresh _ (adE _)) (λb hb=>fresh b (by rw[adF.mp hb,sz1];exact Nat.le_succ _)) hu (items.size-0) 0 _ (by omega) (adR _)
     ⟨⟨_,Heap.get?_push_size _ rfl,rfl,rfl⟩,(hl1.push _)⟩ (λb o e=>Heap.get?_push_of_some _ (Heap.get?_push_of_some _ e)) ⟨[],#[],0,_,KZ (Heap.get?_push_of_some _ hS),⟨λp hp=>(by cases hp),λp hp=>(by simp at hp)⟩⟩ λu L es ep t hm hS' g' kp=>?_
    obtain⟨h',g2,d',tk',os'⟩:=u;have eg:g2=s.gens:=hm.gens;have ed:d'=s.drawn:=hm.drawn;have eo:os'=s.os:=hm.os;subst eg;subst ed;subst eo;refine wpAny_pure ?_;rw[isz]at g';exact wpAny_pure ⟨rfl,h',tk',L,es,ep,t,rfl,hS',g',kp⟩
   .cases r₂ with
    |error e=>exact hr₂
    |ok fl₂=>
     cases fl₂ with
     |ret r=>
      obtain⟨rfl,h',tk,L,es,ep,t,rfl,hS',g',hk'⟩:=hr₂
      (repeat (any_goals first | assumption | wp_step))
      exact h _ _ _ _ _ _ hS' g' hk'
     |_=>exact hr₂.elim
  |_=>exact hr.elim
end
def Im(w:World)(h:Heap)(a:Addr)(L:List Ent):Prop:=∃(hf:Rw->Int) (es:Array (Int×Value)) (ep:Nat) (t:SetTable),(∃o,h.get? a=some o/\o.ExactSet/\o.data=.set es ep t)/\es.toList=ents hf L/\t.fits es.size=true/\Ris t.place.toList/\(w.params.followText "set-order"=true\/t.led=true)
def tO(w:World)(a:Addr)(L:List Ent):HO:=.ext λh=>Im w h a L
section
variable{X:Cx}
theorem zK{P:Program}{w:World}{h:Heap}:∀(l:List Int) (us:List Value),Vals (l.map V.int) us->NestedAll h (l.map .num) us
 |[],_,.nil=>.nil
 |i::l,_,.cons r t=>by
  obtain⟨tk,rfl⟩:=r;exact .cons (.int i tk) (zK (P:=P) (w:=w) l _ t)
theorem zf:∀{ks:List Ent} {us:List Value},Vals (ks.map λp=>V.ref p.1) us->us=ks.map λp=>Value.ref p.1
 |[],_,.nil=>rfl
 |p::ks,_,.cons r t=>by
  cases r;rw[zf t];rfl
theorem zR{L:List Ent}:∀(out:List Value) (M:List Rw),PySem.W.EachIs (λv (r:Rw)=>∃p∈L,v=Value.ref p.1/\r=p.2) out M->∃ys:List V,Vals ys out/\bA (λv (r:Rw)=>∃p∈L,v=V.ref p.1/\r=p.2) ys M
 |[],[],.nil=>⟨[],.nil,bA.nil⟩
 |_::out,_::M,.cons ⟨p,hp,e1,e2⟩ k=>by
  obtain⟨ys,h1,h2⟩:=zR out M k;subst e1 e2;refine⟨.ref p.1::ys,.cons rfl h1,by rw[adA,adA,h2.1],λj u y g1 g2=>?_⟩;cases j with
  |zero=>
   cases g1;cases g2;exact⟨p,hp,rfl,rfl⟩
  |succ j=>exact h2.2 j u y g1 g2
end
def gF(da dc:Addr):List (Str×V):=putF ("circles" : Str) (.ref dc) (putF ("allowances" : Str) (.ref da) [])
structure Nq(C:Addr)(H:Hp)(p da dc:Addr)(al:List Int)(ci:List (List Int)):Prop where
 ob:∃dx,H p=some (.ins C dx (gF da dc))
 la:H da=some (.lst (al.map V.int))
 lc:∃us,H dc=some (.lst us)/\bA (qN H) us ci
 ne:da≠dc
theorem Nq.mono{C:Addr}{H H':Hp}(e:Ex H H'){p da dc:Addr}{al:List Int}{ci:List (List Int)}(g:Nq C H p da dc al ci):Nq C H' p da dc al ci:=by obtain⟨⟨dx,ob⟩,la,⟨us,h1,h2⟩,ne⟩:=g;exact⟨⟨dx,e _ _ ob⟩,e _ _ la,⟨us,e _ _ h1,h2.imp λ_ _ r=>r.mono e⟩,ne⟩
end Ear
namespace Rf
open PySem PySem.Spec PyProof.Rows L2 Evl
abbrev obj(h:Nat):Dat:=PyData.dict [(PyData.none,PyData.int (Int.ofNat h))]
inductive bM where
 |dat (d:Dat)|lst (n:Nat) (xs:List Dat)|dic (n:Bool) (kvs:List (Dat×Dat))
structure aq where
 f:Str->Option Addr
 fl:Str->List Str
 w:World
instance:CoeFun aq λ_=>Str->Option Addr:=⟨aq.f⟩
structure Inst where
 cls:Str
 fs:List (Str×bM)
abbrev Mo:=List Inst
inductive Cell where
 |dat (d:Dat)|mut (xs:List Dat)
abbrev Env:=List (Option Cell)
structure aY where
 cls:Str
 fs:List (Str×Dat)
inductive Out(α:Type) where
 |ok (a:α)|exc (x:aY)|bad
inductive aG(α:Type) where
 |ok (a:α) (M:Mo)|exc (x:aY) (M:Mo)|bad
inductive fO where
 |next (Z:Env) (M:Mo)|ret (d:Dat) (M:Mo)|brk (Z:Env) (M:Mo)|cont (Z:Env) (M:Mo)|exc (x:aY) (Z:Env) (M:Mo)|bad
structure Gh where
 tbl:List Addr
 ow:Addr->Option (Nat×Str)
 Lc:Addr->Prop
 Lo:Addr->Prop
 kl:Prop
abbrev Gh.tk(g:Gh):List Addr×Prop:=(g.tbl,g.kl)
theorem Gh.nO{g g':Gh}(e:g'.tk=g.tk):g'.tbl=g.tbl:=congrArg Prod.fst e
theorem Gh.kl1{g g':Gh}(e:g'.tk=g.tk):g'.kl=g.kl:=congrArg Prod.snd e
def Gh.W(g:Gh)(a:Addr):Prop:=a∈g.tbl\/g.ow a≠none
def Gh.A(g:Gh)(a:Addr):Prop:=g.W a\/g.Lc a\/g.Lo a
def qO:HO->Prop
 |.tup _=>False
 |.frz _ _=>False
 |_=>True
def Zh(K:adh)(a:Addr)(xs:List V):Prop:=∃(o:Obj) (its:Array Value) (n:Nat),K.lookup a=some o/\o.cls=.type "list"/\o.dict=none/\o.data=.seq its n/\its.size<=sizeLine/\Vals xs its.toList
def vh(K:adh)(g:Gh)(H:Hp)(a:Addr)(xs:List V):Prop:=(H a=some (.lst xs)/\¬g.A a)\/(g.kl/\((Rd H a (.lst xs)/\¬g.A a)\/Zh K a xs))
theorem vh.sq{K:adh}{g:Gh}{H:Hp}{a:Addr}{xs:List V}(h:vh K g H a xs):SqL K H a xs:=h.elim (λz=>.inl (.inl z.1)) λz=>z.2.elim (λz=>.inl z.1) .inr
mutual
inductive Rep(K:adh)(g:Gh)(H:Hp):V->Dat->Prop
 |non:Rep K g H .non .none
 |bl (b:Bool):Rep K g H (.bl b) (.bool b)
 |int (i:Int):Rep K g H (.int i) (.int i)
 |str (x:Str):Rep K g H (.str x) (.str x)
 |tup {a:Addr} {xs:List V} {ds:List Dat}:SqT K H a xs->ao K g H xs ds->Rep K g H (.ref a) (.tuple ds)
 |lst {a:Addr} {xs:List V} {ds:List Dat}:vh K g H a xs->ao K g H xs ds->Rep K g H (.ref a) (.list ds)
 |obj {a:Addr} {h:Nat}:g.tbl[h]?=some a->Rep K g H (.ref a) (obj h)
inductive ao(K:adh)(g:Gh)(H:Hp):List V->List Dat->Prop
 |nil:ao K g H [] []
 |cons {v:V} {vs:List V} {d:Dat} {ds:List Dat}:Rep K g H v d->ao K g H vs ds->ao K g H (v::vs) (d::ds)
end
structure Kd(g:Gh)(H:Hp):Prop where
 ob:∀a,g.A a->∃o,H a=some o/\qO o
 lo:∀a,g.Lo a->¬g.W a
 lc:∀a,g.Lc a->¬g.W a/\¬g.Lo a
structure Gr(q:Bool)(g g':Gh)(H H':Hp):Prop where
 keep:∀a o,H a=some o->¬g.W a->¬g.Lo a->H' a=some o
 keepW:q=true->∀a o,H a=some o->g.W a->H' a=some o
 dom:∀a,H' a=none->H a=none
 tbl:∃more,g'.tbl=g.tbl++more
 W:∀a,g.W a->g'.W a
 nW:∀a,g'.W a->g.W a\/H a=none
 qg:q=true->g'.tk=g.tk/\g'.ow=g.ow
 Lc:g'.Lc=g.Lc
 Lo:∀a,g.Lo a->g'.Lo a
 nLo:∀a,g'.Lo a->g.Lo a\/H a=none
 kl:g'.kl=g.kl
section
variable{K:adh}{q:Bool}{g g' g2:Gh}{H H' H2:Hp}{v:V}{d:Dat}
theorem Gr.refl:Gr q g g H H:=⟨λ_ _ h _ _=>h,λ_ _ _ h _=>h,λ_ h=>h,⟨[],by simp⟩,λ_ h=>h,λ_ h=>.inl h,λ_=>⟨rfl,rfl⟩,rfl,λ_ h=>h,λ_ h=>.inl h,rfl⟩
theorem mY(e:Ex H H'):∀a,H' a=none->H a=none:=λa h=>by
 cases h1:H a with
 |none=>rfl
 |some o=>
  rw[e a o h1]at h;cases h
theorem Gr.ex(e:Ex H H'):Gr q g g H H':=⟨λa o h _ _=>e a o h,λ_ a o h _=>e a o h,mY e,⟨[],by simp⟩,λ_ h=>h,λ_ h=>.inl h,λ_=>⟨rfl,rfl⟩,rfl,λ_ h=>h,λ_ h=>.inl h,rfl⟩
theorem Gr.trans(a:Gr q g g' H H')(b:Gr q g' g2 H' H2):Gr q g g2 H H2 where
 keep:=λx o h nw nl=>by
  have h1:=a.keep x o h nw nl;refine b.keep x o h1 (λz=>?_) (λz=>?_)
  .rcases a.nW x z with z|z
   .exact nw z
   .rw[h]at z;cases z
  .rcases a.nLo x z with z|z
   .exact nl z
   .rw[h]at z;cases z
 keepW:=λhq x o h w=>b.keepW hq x o (a.keepW hq x o h w) (a.W x w)
 dom:=λx h=>a.dom x (b.dom x h)
 tbl:=by obtain⟨m1,e1⟩:=a.tbl;obtain⟨m2,e2⟩:=b.tbl;exact⟨m1++m2,by rw[e2,e1,List.append_assoc]⟩
 W:=λx h=>b.W x (a.W x h)
 nW:=λx h=>by
  rcases b.nW x h with z|z
  .exact a.nW x z
  .exact .inr (a.dom x z)
 qg:=λhq=>by
  obtain⟨e1,e2⟩:=a.qg hq;obtain⟨f1,f2⟩:=b.qg hq;exact⟨f1.trans e1,f2.trans e2⟩
 Lc:=b.Lc.trans a.Lc
 Lo:=λx h=>b.Lo x (a.Lo x h)
 nLo:=λx h=>by
  rcases b.nLo x h with z|z
  .exact a.nLo x z
  .exact .inr (a.dom x z)
 kl:=b.kl.trans a.kl
theorem Gr.loud(a:Gr q g g' H H'):Gr false g g' H H':=⟨a.keep,(λh=>nomatch h),a.dom,a.tbl,a.W,a.nW,(λh=>nomatch h),a.Lc,a.Lo,a.nLo,a.kl⟩
theorem Gr.nA(r:Gr q g g' H H'){a:Addr}{o:HO}(h:H a=some o)(n:¬g.A a):¬g'.A a:=λz=>by
 rcases z with z|z|z
 .rcases r.nW a z with z|z
  .exact n (.inl z)
  .rw[h]at z;cases z
 .rw[r.Lc]at z;exact n (.inr (.inl z))
 .rcases r.nLo a z with z|z
  .exact n (.inr (.inr z))
  .rw[h]at z;cases z
theorem Gr.rd(r:Gr q g g' H H'){a:Addr}{o:HO}(h:Rd H a o)(n:¬g.A a):Rd H' a o/\¬g'.A a:=by
 rcases h with h|⟨z,h⟩
 .exact⟨.inl (r.keep a _ h (λw=>n (.inl w)) λw=>n (.inr (.inr w))),r.nA h n⟩
 .exact⟨.inr ⟨z,r.keep a _ h (λw=>n (.inl w)) λw=>n (.inr (.inr w))⟩,r.nA h n⟩
theorem Kd.tup(k:Kd g H){a:Addr}{xs:List V}(h:Rd H a (.tup xs)):¬g.A a:=λz=>by
 obtain⟨o,e,m⟩:=k.ob a z;rcases h with h|⟨y,h⟩<;>(rw[h]at e;cases e;exact m)
theorem Gr.YD(r:Gr q g g' H H')(k:Kd g H){a:Addr}{xs:List V}(h:SqT K H a xs):SqT K H' a xs:=by
 rcases h with h|h
 .exact .inl (r.rd h (k.tup h)).1
 .exact .inr h
theorem Gr.ls(r:Gr q g g' H H'){a:Addr}{xs:List V}(h:vh K g H a xs):vh K g' H' a xs:=by
 rcases h with⟨h,n⟩|⟨hk,h⟩
 .exact .inl ⟨r.keep a _ h (λw=>n (.inl w)) λw=>n (.inr (.inr w)),r.nA h n⟩
 .rw[<-r.kl]at hk;exact .inr ⟨hk,h.elim (λ⟨h,n⟩=>.inl (r.rd h n)) .inr⟩
theorem Gr.tb(r:Gr q g g' H H'){h:Nat}{a:Addr}(e:g.tbl[h]?=some a):g'.tbl[h]?=some a:=by obtain⟨m,em⟩:=r.tbl;rw[em,adD (adk.mp e).1];exact e
mutual
theorem Rep.gr(r:Gr q g g' H H')(k:Kd g H):∀{v:V} {d:Dat},Rep K g H v d->Rep K g' H' v d
 |_,_,.non=>.non
 |_,_,.bl b=>.bl b
 |_,_,.int i=>.int i
 |_,_,.str x=>.str x
 |_,_,.tup h t=>.tup (r.YD k h) (ao.gr r k t)
 |_,_,.lst h t=>.lst (r.ls h) (ao.gr r k t)
 |_,_,.obj h=>.obj (r.tb h)
theorem ao.gr(r:Gr q g g' H H')(k:Kd g H):∀{vs:List V} {ds:List Dat},ao K g H vs ds->ao K g' H' vs ds
 |_,_,.nil=>.nil
 |_,_,.cons h t=>.cons (Rep.gr r k h) (ao.gr r k t)
end
mutual
theorem Rep.less(e:g'.tk=g.tk)(n:∀a,g'.A a->g.A a):∀{v:V} {d:Dat},Rep K g H v d->Rep K g' H v d
 |_,_,.non=>.non
 |_,_,.bl b=>.bl b
 |_,_,.int i=>.int i
 |_,_,.str x=>.str x
 |_,_,.tup h t=>.tup h (ao.less e n t)
 |_,_,.lst h t=>.lst (h.elim (λz=>.inl ⟨z.1,λy=>z.2 (n _ y)⟩) λz=>.inr ⟨by rw[Gh.kl1 e];exact z.1,z.2.elim (λz=>.inl ⟨z.1,λy=>z.2 (n _ y)⟩) .inr⟩) (ao.less e n t)
 |_,_,.obj h=>.obj (by rw[Gh.nO e];exact h)
theorem ao.less(e:g'.tk=g.tk)(n:∀a,g'.A a->g.A a):∀{vs:List V} {ds:List Dat},ao K g H vs ds->ao K g' H vs ds
 |_,_,.nil=>.nil
 |_,_,.cons h t=>.cons (Rep.less e n h) (ao.less e n t)
end
mutual
def lf:Dat->Bool
 |.list _=>false
 |.tuple ds=>dw ds
 |.dict _=>true
 |.none=>true
 |.bool _=>true
 |.int _=>true
 |.str _=>true
def dw:List Dat->Bool
 |[]=>true
 |d::ds=>lf d&&dw ds
end
mutual
theorem Rep.free(e:g'.tbl=g.tbl):∀{v:V} {d:Dat},lf d=true->Rep K g H v d->Rep K g' H v d
 |_,_,_,.non=>.non
 |_,_,_,.bl b=>.bl b
 |_,_,_,.int i=>.int i
 |_,_,_,.str x=>.str x
 |_,_,f,.tup h t=>.tup h (ao.free e (by rw[lf]at f;exact f) t)
 |_,_,f,.lst h t=>by rw[lf]at f;cases f
 |_,_,_,.obj h=>.obj (by rw[e];exact h)
theorem ao.free(e:g'.tbl=g.tbl):∀{vs:List V} {ds:List Dat},dw ds=true->ao K g H vs ds->ao K g' H vs ds
 |_,_,_,.nil=>.nil
 |_,_,f,.cons h t=>.cons (Rep.free e (by rw[dw,adi]at f;exact f.1) h) (ao.free e (by rw[dw,adi]at f;exact f.2) t)
end
theorem ao.length:∀{vs:List V} {ds:List Dat},ao K g H vs ds->vs.length=ds.length
 |_,_,.nil=>rfl
 |_,_,.cons _ t=>congrArg (· + 1) t.length
theorem ao.get:∀{vs:List V} {ds:List Dat} {i:Nat} {d:Dat},ao K g H vs ds->ds[i]?=some d->∃v,vs[i]?=some v/\Rep K g H v d
 |_,_,_,_,.nil,e=>by simp at e
 |_,_,0,_,.cons h _,e=>by simp at e;subst e;exact⟨_,rfl,h⟩
 |_,_,i+1,_,.cons _ t,e=>by simpa using t.get (i:=i) (by simpa using e)
theorem ao.get':∀{vs:List V} {ds:List Dat} {i:Nat} {v:V},ao K g H vs ds->vs[i]?=some v->∃d,ds[i]?=some d/\Rep K g H v d
 |_,_,_,_,.nil,e=>by simp at e
 |_,_,0,_,.cons h _,e=>by simp at e;subst e;exact⟨_,rfl,h⟩
 |_,_,i+1,_,.cons _ t,e=>by simpa using t.get' (i:=i) (by simpa using e)
theorem ao.append:∀{vs ws:List V} {ds es:List Dat},ao K g H vs ds->ao K g H ws es->ao K g H (vs++ws) (ds++es)
 |_,_,_,_,.nil,t=>t
 |_,_,_,_,.cons h r,t=>.cons h (r.append t)
theorem ao.take:∀{vs:List V} {ds:List Dat} (n:Nat),ao K g H vs ds->ao K g H (vs.take n) (ds.take n)
 |_,_,0,_=>.nil
 |_,_,_+1,.nil=>.nil
 |_,_,n+1,.cons h t=>.cons h (t.take n)
theorem ao.drop:∀{vs:List V} {ds:List Dat} (n:Nat),ao K g H vs ds->ao K g H (vs.drop n) (ds.drop n)
 |_,_,0,t=>t
 |_,_,_+1,.nil=>.nil
 |_,_,n+1,.cons _ t=>t.drop n
theorem ao.set{v:V}{d:Dat}(r:Rep K g H v d):∀{vs:List V} {ds:List Dat} (i:Nat),ao K g H vs ds->ao K g H (vs.set i v) (ds.set i d)
 |_,_,_,.nil=>.nil
 |_,_,0,.cons _ t=>.cons r t
 |_,_,i+1,.cons h t=>.cons h (t.set r i)
theorem Gr.upd{l:Addr}{o o':HO}(k:Kd g H)(h:H l=some o)(w:(g.W l/\q=false)\/g.Lo l):Gr q g g H (L2.upd H l o') where
 keep:=λa u e nw nl=>by
  rw[upd_ne (λz=>by subst z;exact w.elim (λw=>nw w.1) nl)];exact e
 keepW:=λhq a u e wa=>by
  rcases w with w|w
  .rw[hq]at w;cases w.2
  .rw[upd_ne (λz=>by subst z;exact k.lo _ w wa)];exact e
 dom:=λa e=>by
  by_cases z:a=l
  .subst z;rw[aeC]at e;cases e
  .rw[upd_ne z]at e;exact e
 tbl:=⟨[],by simp⟩
 W:=λ_ h=>h
 nW:=λ_ h=>.inl h
 qg:=λ_=>⟨rfl,rfl⟩
 Lc:=rfl
 Lo:=λ_ h=>h
 nLo:=λ_ h=>.inl h
 kl:=rfl
theorem Kd.ex(k:Kd g H)(e:Ex H H'):Kd g H':=⟨λa z=>let⟨o,h,m⟩:=k.ob a z;⟨o,e a o h,m⟩,k.lo,k.lc⟩
theorem Kd.upd(k:Kd g H){l:Addr}{o:HO}(m:qO o):Kd g (L2.upd H l o):=⟨λa z=>by
 by_cases e:a=l
 .subst e;exact⟨o,aeC,m⟩
 .rw[upd_ne e];exact k.ob a z,k.lo,k.lc⟩
theorem Rep.ex(e:Ex H H')(k:Kd g H)(h:Rep K g H v d):Rep K g H' v d:=h.gr (Gr.ex (q:=true) e) k
theorem ao.ex{vs:List V}{ds:List Dat}(e:Ex H H')(k:Kd g H)(h:ao K g H vs ds):ao K g H' vs ds:=h.gr (Gr.ex (q:=true) e) k
end
def keyD:Key->Dat
 |.inl i=>.int i
 |.inr x=>.str x
def bU(l:Addr)(o:Obj):HO:=.ext λh=>h.get? l=some o
abbrev eG:Type:=NestedKey×Addr×Value
def Jq(w:World)(x:eG):DictEntry:=⟨x.1.hash w,.ref x.2.1,x.2.2⟩
structure dO(w:World)(l:Addr)(o:Obj)(xs:List eG):Prop where
 sys:(l==sysModules)=false
 ex:o.ExactDict
 ent:∃es ep,o.data=.dict es ep/\es.toList=xs.map (Jq w)
 nd:(xs.map (·.1)).Nodup
 len:xs.length<=sizeLine
 dep:∀x∈xs,x.1.depth<=8
def bT(K:adh)(aj:aq)(g:Gh)(H:Hp)(l:Addr):Bool->List (Dat×Dat)->Prop
 |false,kvs=>∃kv:List (Key×V),H l=some (.dK kv)/\kvs.map (·.1)=kv.map (λp=>keyD p.1)/\ao K g H (kv.map (·.2)) (kvs.map (·.2))
 |true,kvs=>∃(o:Obj) (xs:List eG) (vs:List V),H l=some (bU l o)/\dO aj.w l o xs/\kvs.map (·.1)=xs.map (λx=>x.1.data)/\ao K g H (xs.map λx=>V.ref x.2.1) (kvs.map (·.1))/\Vals vs (xs.map (·.2.2))/\ao K g H vs (kvs.map (·.2))
def aR(K:adh)(aj:aq)(g:Gh)(H:Hp)(h:Nat)(f:Str)(v:V):bM->Prop
 |.dat d=>Rep K g H v d
 |.lst n xs=>∃l us,v=.ref l/\H l=some (.lst us)/\g.ow l=some (h,f)/\ao K g H us xs/\g.tbl[n]?=some l
 |.dic n kvs=>∃l,v=.ref l/\g.ow l=some (h,f)/\bT K aj g H l n kvs
inductive aK(K:adh)(aj:aq)(g:Gh)(H:Hp)(h:Nat):List (Str×V)->List (Str×bM)->Prop
 |nil:aK K aj g H h [] []
 |cons {f:Str} {v:V} {fl:bM} {fs:List (Str×V)} {gs:List (Str×bM)}:aR K aj g H h f v fl->aK K aj g H h fs gs->aK K aj g H h ((f,v)::fs) ((f,fl)::gs)
abbrev lin(xs:List Dat):Inst:=⟨"",[("",.lst 0 xs)]⟩
structure aX(K:adh)(aj:aq)(g:Gh)(H:Hp)(M:Mo):Prop where
 len:g.tbl.length=M.length
 inj:∀(h k:Nat) (a:Addr),g.tbl[h]?=some a->g.tbl[k]?=some a->h=k
 ins:∀(h:Nat) (a:Addr) (i:Inst),g.tbl[h]?=some a->M[h]?=some i->i.cls≠""->∃C dx fs,aj i.cls=some C/\H a=some (.ins C dx fs)/\aK K aj g H h fs i.fs
 nd:∀(h:Nat) (i:Inst),M[h]?=some i->(i.fs.map (·.1)).Nodup
 fd:∀(h:Nat) (i:Inst),M[h]?=some i->i.cls≠""->∀f∈i.fs.map (·.1),f∈aj.fl i.cls
 tw:∀(h:Nat) (a:Addr) (i:Inst),g.tbl[h]?=some a->M[h]?=some i->i.cls≠""->g.ow a=none
 li:∀(h:Nat) (a:Addr) (xs:List Dat),g.tbl[h]?=some a->M[h]?=some (lin xs)->∃us,H a=some (.lst us)/\g.ow a=none/\ao K g H us xs
 nc:aj ""=none
structure SInv(K:adh)(aj:aq)(σ:L2.St)(H:Hp)(g:Gh)(Z:Env)(M:Mo):Prop where
 kd:Kd g H
 wok:aX K aj g H M
 len:σ.length=Z.length
 dat:∀(i:Nat) (d:Dat),Z[i]?=some (some (.dat d))->∃v,σ[i]?=some (some v)/\Rep K g H v d
 own:∀(i:Nat) (xs:List Dat),Z[i]?=some (some (.mut xs))->∃l us,σ[i]?=some (some (.ref l))/\H l=some (.lst us)/\g.Lo l/\ao K g H us xs
 sep:∀(i j:Nat) (xs ys:List Dat) (l:Addr),i≠j->Z[i]?=some (some (.mut xs))->Z[j]?=some (some (.mut ys))->σ[i]?=some (some (.ref l))->σ[j]?≠some (some (.ref l))
section
variable{K:adh}{aj:aq}{q:Bool}{g g' g2:Gh}{H H' H2:Hp}{v:V}{d:Dat}{σ:L2.St}{Z:Env}{M:Mo}
theorem bT.ex{l:Addr}:∀{n:Bool} {kvs:List (Dat×Dat)} (e:Ex H H') (k:Kd g H) (h:bT K aj g H l n kvs),bT K aj g H' l n kvs
 |false,_,e,k,⟨kv,h1,h2,h3⟩=>⟨kv,e _ _ h1,h2,h3.ex e k⟩
 |true,_,e,k,⟨o,xs,vs,h1,h2,h3,h4,h5,h6⟩=>⟨o,xs,vs,e _ _ h1,h2,h3,h4.ex e k,h5,h6.ex e k⟩
theorem aR.ex{h:Nat}{f:Str}(e:Ex H H')(k:Kd g H):∀{fl:bM},aR K aj g H h f v fl->aR K aj g H' h f v fl
 |.dat _,r=>Rep.ex e k r
 |.lst _ _,⟨l,us,h1,h2,h3,h4,h5⟩=>⟨l,us,h1,e _ _ h2,h3,h4.ex e k,h5⟩
 |.dic _ _,⟨l,h1,h2,h3⟩=>⟨l,h1,h2,h3.ex e k⟩
theorem aK.ex{h:Nat}(e:Ex H H')(k:Kd g H):∀{fs:List (Str×V)} {gs:List (Str×bM)},aK K aj g H h fs gs->aK K aj g H' h fs gs
 |_,_,.nil=>.nil
 |_,_,.cons r t=>.cons (aR.ex e k r) (aK.ex e k t)
theorem aX.ex(e:Ex H H')(k:Kd g H)(w:aX K aj g H M):aX K aj g H' M:=⟨w.len,w.inj,λh a i ha hi hc=>by
 obtain⟨C,dx,fs,c1,c2,c3⟩:=w.ins h a i ha hi hc;exact⟨C,dx,fs,c1,e _ _ c2,c3.ex e k⟩,w.nd,w.fd,w.tw,λh a xs ha hi=>by
 obtain⟨us,h1,h2,h3⟩:=w.li h a xs ha hi;exact⟨us,e _ _ h1,h2,h3.ex e k⟩,w.nc⟩
theorem SInv.ex(e:Ex H H')(I:SInv K aj σ H g Z M):SInv K aj σ H' g Z M:=⟨I.kd.ex e,I.wok.ex e I.kd,I.len,λi d h=>by
 obtain⟨v,h1,h2⟩:=I.dat i d h;exact⟨v,h1,h2.ex e I.kd⟩,λi xs h=>by
 obtain⟨l,us,h1,h2,h3,h4⟩:=I.own i xs h;exact⟨l,us,h1,e _ _ h2,h3,h4.ex e I.kd⟩,I.sep⟩
theorem aK.get{h:Nat}{f:Str}{fl:bM}:∀{fs:List (Str×V)} {gs:List (Str×bM)},aK K aj g H h fs gs->gs.lookup f=some fl->∃v,fs.lookup f=some v/\aR K aj g H h f v fl
 |_,_,.nil,e=>nomatch e
 |_,_,.cons (f:=f') (v:=v) (fl:=fl') r t,e=>by
  rw[adN]at e;rw[adN];cases hb:f==f' with
  |true=>
   rw[hb]at e;cases e;have ef:f=f':=by simpa using hb
   subst ef;exact⟨v,rfl,r⟩
  |false=>
   rw[hb]at e;exact t.get e
theorem aK.no{h:Nat}{f:Str}:∀{fs:List (Str×V)} {gs:List (Str×bM)},aK K aj g H h fs gs->gs.lookup f=none->fs.lookup f=none
 |_,_,.nil,_=>rfl
 |_,_,.cons (f:=f') (v:=v) (fl:=fl') r t,e=>by
  rw[adN]at e;rw[adN];cases hb:f==f' with
  |true=>
   rw[hb]at e;cases e
  |false=>
   rw[hb]at e;exact t.no e
end
def Out.bind{α β:Type}(o:Out α)(k:α->Out β):Out β:=
 match o with
 |.ok a=>k a
 |.exc x=>.exc x
 |.bad=>.bad
def Out.sat{α:Type}(o:Out α)(P:α->Prop)(E:aY->Prop):Prop:=
 match o with
 |.ok a=>P a
 |.exc x=>E x
 |.bad=>False
@[simp]theorem Out.Py {α β:Type} (a:α) (k:α->Out β):(Out.ok a).bind k=k a:=rfl
@[simp]theorem Out.Oc {α β:Type} (x:aY) (k:α->Out β):(Out.exc x:Out α).bind k=.exc x:=rfl
@[simp]theorem Out.Lj {α β:Type} (k:α->Out β):(Out.bad:Out α).bind k=.bad:=rfl
theorem Out.sat.bnd{α β:Type}{o:Out α}{k:α->Out β}{P:β->Prop}{E:aY->Prop}(h:(o.bind k).sat P E):o.sat (λa=>(k a).sat P E) E:=by cases o<;>exact h
theorem Out.sat.mono{α:Type}{o:Out α}{P P':α->Prop}{E E':aY->Prop}(h:o.sat P E)(hp:∀a,P a->P' a)(he:∀x,E x->E' x):o.sat P' E':=by
 cases o
 .exact hp _ h
 .exact he _ h
 .exact h
def Out.when{α:Type}(b:Bool)(o:Out α):Out α:=if b=true then o else .bad
@[simp]theorem Out.KY {α:Type} (o:Out α):Out.when true o=o:=rfl
@[simp]theorem Out.Yc {α:Type} (o:Out α):Out.when false o=.bad:=rfl
theorem Out.sat.gG{α:Type}{b:Bool}{o:Out α}{P:α->Prop}{E:aY->Prop}(h:(Out.when b o).sat P E):b=true/\o.sat P E:=by
 cases b
 .exact aev h
 .exact⟨rfl,h⟩
inductive cJ(K:adh)(g:Gh)(H:Hp):List (Str×V)->List (Str×Dat)->Prop
 |nil:cJ K g H [] []
 |cons {f:Str} {v:V} {d:Dat} {fs:List (Str×V)} {gs:List (Str×Dat)}:Rep K g H v d->cJ K g H fs gs->cJ K g H ((f,v)::fs) ((f,d)::gs)
def dY(K:adh)(aj:aq)(g:Gh)(H:Hp)(x:aY)(c:Value)(dd:Option Addr):Prop:=
 ∃C,aj x.cls=some C/\c=.ref C/\((x.fs=[]/\dd=none)\/∃a fs,dd=some a/\H a=some (.xd fs)/\cJ K g H fs x.fs)
abbrev QF:=Mo->Env->Out Dat
abbrev QT:=Mo->Env->Out Bool
abbrev QA:=Mo->Env->Out (List Dat)
section
variable(K:adh)(aj:aq)(W:WX)
def gQ(g:Gh)(H:Hp)(σ:L2.St)(x:aY):Prop:=∀H' c dd,Ex H H'->dY K aj g H' x c dd->W c dd σ H'
def tQ(f:QF):TE:=λσ H Q=>∃g Z M,SInv K aj σ H g Z M/\(f M Z).sat (λd=>∀v H',Ex H H'->Rep K g H' v d->Q v H') (gQ K aj W g H σ)
def cW(f:QT):TT:=λσ H Q=>∃g Z M,SInv K aj σ H g Z M/\(f M Z).sat (λb=>∀H',Ex H H'->Q b H') (gQ K aj W g H σ)
def uW(f:QA):TA:=λσ H Q=>∃g Z M,SInv K aj σ H g Z M/\(f M Z).sat (λds=>∀vs H',Ex H H'->ao K g H' vs ds->Q vs H') (gQ K aj W g H σ)
end
section
variable{K:adh}{aj:aq}{W:WX}{g:Gh}{H H1:Hp}{σ:L2.St}{Z:Env}{M:Mo}
theorem gQ.ex{x:aY}(e:Ex H H1)(h:gQ K aj W g H σ x):gQ K aj W g H1 σ x:=λH' c dd e' r=>h H' c dd (e.trans e') r
theorem tQ.go{f:QF}{k:Dat->Prop}{Q:VK}(I:SInv K aj σ H g Z M)(h:(f M Z).sat k (gQ K aj W g H σ))(hk:∀d v H',k d->Ex H H'->Rep K g H' v d->Q v H'):tQ K aj W f σ H Q:=
 ⟨g,Z,M,I,h.mono (λd hd v H' e r=>hk d v H' hd e r) λ_ z=>z⟩
theorem cW.go{f:QT}{k:Bool->Prop}{Q:Bool->Hp->Prop}(I:SInv K aj σ H g Z M)(h:(f M Z).sat k (gQ K aj W g H σ))(hk:∀b H',k b->Ex H H'->Q b H'):cW K aj W f σ H Q:=
 ⟨g,Z,M,I,h.mono (λd hd H' e=>hk d H' hd e) λ_ z=>z⟩
theorem uW.go{f:QA}{k:List Dat->Prop}{Q:List V->Hp->Prop}(I:SInv K aj σ H g Z M)(h:(f M Z).sat k (gQ K aj W g H σ))(hk:∀ds vs H',k ds->Ex H H'->ao K g H' vs ds->Q vs H'):uW K aj W f σ H Q:=
 ⟨g,Z,M,I,h.mono (λd hd v H' e r=>hk d v H' hd e r) λ_ z=>z⟩
end
def QE(aj:aq)(X:Cx)(W:WX)(e:Expr)(f:QF):Prop:=PE X e (tQ X.K aj W f)
def iT(aj:aq)(X:Cx)(W:WX)(e:Expr)(f:QT):Prop:=PT X e (cW X.K aj W f)
def m9(aj:aq)(X:Cx)(W:WX)(es:List Expr)(f:QA):Prop:=PA X es (uW X.K aj W f)
theorem PE.weak{X:Cx}{e:Expr}{t t':TE}(h:PE X e t)(k:∀σ H Q,t' σ H Q->t σ H Q):PE X e t':=⟨λpins s σ H Q I q=>h.run pins s σ H Q I (k σ H Q q)⟩
theorem PT.weak{X:Cx}{e:Expr}{t t':TT}(h:PT X e t)(k:∀σ H Q,t' σ H Q->t σ H Q):PT X e t':=⟨λpins s σ H Q I q=>h.run pins s σ H Q I (k σ H Q q)⟩
theorem PA.weak{X:Cx}{e:List Expr}{t t':TA}(h:PA X e t)(k:∀σ H Q,t' σ H Q->t σ H Q):PA X e t':=⟨λpos pins s σ H Q I q=>h.run pos pins s σ H Q I (k σ H Q q)⟩
def aJ(i:Nat):QF:=λ_ Z=>match Z[i]? with
 |some (some (.dat d))=>.ok d
 |_=>.bad
def qC(d:Dat):QF:=λ_ _=>.ok d
def aA(o:Dat->Dat->Out Dat)(a b:QF):QF:=λM Z=>(a M Z).bind λx=>(b M Z).bind λy=>o x y
def gD(o:Dat->Out Dat)(a:QF):QF:=λM Z=>(a M Z).bind o
def aP:QA:=λ_ _=>.ok []
def aF(a:QF)(r:QA):QA:=λM Z=>(a M Z).bind λx=>(r M Z).bind λxs=>.ok (x::xs)
def Dz(r:QA):QF:=λM Z=>(r M Z).bind λxs=>Out.when (decide (xs.length<=100000)) (.ok (.tuple xs))
def Dc(r:QA):QF:=λM Z=>(r M Z).bind λxs=>Out.when (decide (xs.length<=100000)) (.ok (.list xs))
section
variable{X:Cx}{aj:aq}{W:WX}{a b:Expr}{fa fb:QF}{pos:Pos}
theorem Wk{i:Nat}{x:Str}(hN:X.N[i]?=some x)(hv:Vis X.env.scope x)(hd:(x==("__debug__" : Str))=false)(hcd:(x==("__classdict__" : Str))=false):QE aj X W (.Name x pos) (aJ i):=
 PE.weak (pe_var hN hv hd hcd) λσ H Q ⟨g,Z,M,I,h⟩=>by
  unfold aJ at h;split at h
  .next d e=>
   obtain⟨v,h1,h2⟩:=I.dat i d e;exact⟨v,h1,h v H (Ex.refl H) h2⟩
  .exact aev h
theorem WL{i:Int}{j:Nat}:QE aj X W (.Constant (.int i) j pos) (qC (.int i)):=PE.weak pe_int λσ H Q ⟨g,Z,M,I,h⟩=>h _ H (Ex.refl H) (.int i)
theorem TF{x:Str}{j:Nat}:QE aj X W (.Constant (.str x) j pos) (qC (.str x)):=PE.weak pe_str λσ H Q ⟨g,Z,M,I,h⟩=>h _ H (Ex.refl H) (.str x)
theorem W4{x:Bool}{j:Nat}:QE aj X W (.Constant (.bool x) j pos) (qC (.bool x)):=PE.weak pe_bl λσ H Q ⟨g,Z,M,I,h⟩=>h _ H (Ex.refl H) (.bl x)
theorem T6{j:Nat}:QE aj X W (.Constant .none j pos) (qC .none):=PE.weak pe_non λσ H Q ⟨g,Z,M,I,h⟩=>h _ H (Ex.refl H) .non
theorem Vr:m9 aj X W [] aP:=PA.weak pa_nil λσ H Q ⟨g,Z,M,I,h⟩=>h [] H (Ex.refl H) .nil
theorem Qm{es:List Expr}{fr:QA}(ha:QE aj X W a fa)(hr:m9 aj X W es fr)(hs:starEach (a::es) X.env=(false,eval a X.env)::starEach es X.env):m9 aj X W (a::es) (aF fa fr):=
 PA.weak (pa_cons ha hr hs) λσ H Q ⟨g,Z,M,I,h⟩=>by
  refine tQ.go I h.bnd λd v H1 h1 e1 r1=>?_;refine uW.go (I.ex e1) (h1.bnd.mono (λ_ z=>z) λ_ z=>z.ex e1) λds vs H2 h2 e2 r2=>?_;exact h2 (v::vs) H2 (e1.trans e2) (.cons (r1.ex e2 (I.kd.ex e1)) r2)
theorem VL{es:List Expr}{fr:QA}{k:Nat}(h:m9 aj X W es fr):QE aj X W (.Tuple es k pos) (Dz fr):=
 PE.weak (pe_tup h) λσ H Q ⟨g,Z,M,I,h⟩=>by
  refine uW.go I h.bnd λds vs H1 h1 e1 r1=>?_;obtain⟨hz,h1⟩:=h1.gG;have hl:vs.length<=100000:=by rw[r1.length];exact aex hz
  refine⟨sz_of hl,λp np=>h1 (.ref p) _ (e1.trans (Ex.new np)) (.tup (st_of aeC) (r1.ex (Ex.new np) (I.kd.ex e1)))⟩
theorem Kd.fresh{g:Gh}{H:Hp}(k:Kd g H){p:Addr}(n:H p=none):¬g.A p:=λz=>by
 obtain⟨o,e,_⟩:=k.ob p z;rw[n]at e;cases e
theorem Uu{es:List Expr}{fr:QA}(h:m9 aj X W es fr):QE aj X W (.List es pos) (Dc fr):=
 PE.weak (pe_lst h) λσ H Q ⟨g,Z,M,I,h⟩=>by
  refine uW.go I h.bnd λds vs H1 h1 e1 r1=>?_;obtain⟨hz,h1⟩:=h1.gG;have hl:vs.length<=100000:=by rw[r1.length];exact aex hz
  refine⟨sz_of hl,λp np=>h1 (.ref p) _ (e1.trans (Ex.new np)) (.lst (.inl ⟨aeC,(I.kd.ex e1).fresh np⟩) (r1.ex (Ex.new np) (I.kd.ex e1)))⟩
end
def aW(K:adh)(g:Gh)(H:Hp)(v:V):Dat->Prop
 |.list ds=>∃a us,v=.ref a/\SqL K H a us/\ao K g H us ds
 |d=>Rep K g H v d
section
variable{K:adh}{g:Gh}{H H':Hp}{v:V}{d:Dat}
theorem Rep.weak(h:Rep K g H v d):aW K g H v d:=by
 cases h with
 |lst a t=>exact⟨_,_,rfl,a.sq,t⟩
 |non=>exact .non
 |bl b=>exact .bl b
 |int i=>exact .int i
 |str x=>exact .str x
 |tup a t=>exact .tup a t
 |obj a=>exact .obj a
theorem aW.ex(e:Ex H H')(k:Kd g H)(h:aW K g H v d):aW K g H' v d:=by
 cases d with
 |list ds=>
  obtain⟨a,us,h1,h2,h3⟩:=h;exact⟨a,us,h1,ex_l e h2,h3.ex e k⟩
 |_=>exact Rep.ex e k h
theorem aN{i:Int}(h:aW K g H v (.int i)):v=.int i:=by cases h;rfl
theorem cU{x:Str}(h:aW K g H v (.str x)):v=.str x:=by cases h;rfl
theorem oA{b:Bool}(h:aW K g H v (.bool b)):v=.bl b:=by cases h;rfl
theorem pq(h:aW K g H v .none):v=.non:=by cases h;rfl
theorem dU{ds:List Dat}(h:aW K g H v (.tuple ds)):∃a us,v=.ref a/\SqT K H a us/\ao K g H us ds:=by
 cases h with
 |tup a t=>exact⟨_,_,rfl,a,t⟩
theorem bZ{ds:List Dat}(h:aW K g H v (.list ds)):∃a us,v=.ref a/\SqL K H a us/\ao K g H us ds:=h
theorem pN{n:Nat}(h:aW K g H v (obj n)):∃a,v=.ref a/\g.tbl[n]?=some a:=by
 cases h with
 |obj a=>exact⟨_,rfl,a⟩
end
section
variable(K:adh)(aj:aq)(W:WX)
def tW(f:QF):TE:=λσ H Q=>∃g Z M,SInv K aj σ H g Z M/\(f M Z).sat (λd=>∀v H',Ex H H'->aW K g H' v d->Q v H') (gQ K aj W g H σ)
end
theorem tW.go{K:adh}{aj:aq}{W:WX}{g:Gh}{H:Hp}{σ:L2.St}{Z:Env}{M:Mo}{f:QF}{k:Dat->Prop}{Q:VK}(I:SInv K aj σ H g Z M)(h:(f M Z).sat k (gQ K aj W g H σ))(hk:∀d v H',k d->Ex H H'->aW K g H' v d->Q v H'):tW K aj W f σ H Q:=
 ⟨g,Z,M,I,h.mono (λd hd v H' e r=>hk d v H' hd e r) λ_ z=>z⟩
def QW(aj:aq)(X:Cx)(W:WX)(e:Expr)(f:QF):Prop:=PE X e (tW X.K aj W f)
theorem QE.w{aj:aq}{X:Cx}{W:WX}{e:Expr}{f:QF}(h:QE aj X W e f):QW aj X W e f:=
 PE.weak h λσ H Q ⟨g,Z,M,I,z⟩=>⟨g,Z,M,I,z.mono (λ_ k v H' e r=>k v H' e r.weak) λ_ y=>y⟩
def ak(i:Nat):QF:=λ_ Z=>match Z[i]? with
 |some (some (.dat d))=>.ok d
 |some (some (.mut xs))=>.ok (.list xs)
 |_=>.bad
def gq(aj:aq)(K:adh)(W:WX)(o:Dat->Dat->Out Dat)(r:R2):Prop:=∀(σ:L2.St) (g:Gh) (H:Hp) (x y:V) (d e:Dat) (Q:VK),Kd g H->aW K g H x d->aW K g H y e->
 (o d e).sat (λz=>∀v H',Ex H H'->Rep K g H' v z->Q v H') (gQ K aj W g H σ)->r x y H Q
section
variable{X:Cx}{aj:aq}{W:WX}{a b c:Expr}{fa fb fc:QF}{pos:Pos}
theorem TJ{i:Nat}{x:Str}(hN:X.N[i]?=some x)(hv:Vis X.env.scope x)(hd:(x==("__debug__" : Str))=false)(hcd:(x==("__classdict__" : Str))=false):QW aj X W (.Name x pos) (ak i):=
 PE.weak (pe_var hN hv hd hcd) λσ H Q ⟨g,Z,M,I,h⟩=>by
  unfold ak at h;split at h
  .next d e=>
   obtain⟨v,h1,h2⟩:=I.dat i d e;exact⟨v,h1,h v H (Ex.refl H) h2.weak⟩
  .next xs e=>
   obtain⟨l,us,h1,h2,h3,h4⟩:=I.own i xs e;exact⟨.ref l,h1,h _ H (Ex.refl H) ⟨l,us,rfl,sq_of h2,h4⟩⟩
  .exact aev h
theorem vO{o:Dat->Dat->Out Dat}{r:R2}(ho:gq aj X.K W o r)(σ:L2.St)(H:Hp)(Q:VK)(h:tQ X.K aj W (aA o fa fb) σ H Q):tOp r (tW X.K aj W fa) (tW X.K aj W fb) σ H Q:=by obtain⟨g,Z,M,I,h⟩:=h;refine tW.go I h.bnd λd v H1 h1 e1 r1=>?_;refine tW.go (I.ex e1) (h1.bnd.mono (λ_ z=>z) λ_ z=>z.ex e1) λd2 v2 H2 h2 e2 r2=>?_;refine ho σ g H2 v v2 d d2 Q ((I.kd.ex e1).ex e2) (r1.ex e2 (I.kd.ex e1)) r2 (h2.mono (λz hz u H' e' r'=>hz u H' ((e1.trans e2).trans e') r') λ_ z=>(z.ex e1).ex e2)
theorem Ve{op:Operator}{r:R2}{o:Dat->Dat->Out Dat}(hr:OpR X (binaryOp op) r)(ho:gq aj X.K W o r)(ha:QW aj X W a fa)(hb:QW aj X W b fb):QE aj X W (.BinOp a op b pos) (aA o fa fb):=
 PE.weak (pe_op hr ha hb) λσ H Q h=>vO ho σ H Q h
theorem RQ{op:CmpOp}{r:R2}{o:Dat->Dat->Out Dat}(hr:OpR X (compareOp op) r)(ho:gq aj X.K W o r)(ha:QW aj X W a fa)(hb:QW aj X W b fb)(hm:behindInMarks op b=false):QE aj X W (.Compare a [op] [b] pos) (aA o fa fb):=
 PE.weak (pe_cmpR hr ha hb hm) λσ H Q h=>vO ho σ H Q h
end
instance:DecidableRel CMul:=λi j=>by unfold CMul;infer_instance
instance:DecidableRel CDiv:=λi j=>by unfold CDiv;infer_instance
instance:DecidableRel CPow:=λi j=>by unfold CPow;infer_instance
def bW:Dat->Dat->Out Dat
 |.int i,.int j=>.ok (.int (i+j))
 |.str x,.str y=>Out.when (decide (x.length+y.length<=100000)) (.ok (.str (x++y)))
 |.list xs,.list ys=>Out.when (decide (xs.length+ys.length<=100000)) (.ok (.list (xs++ys)))
 |.tuple xs,.tuple ys=>Out.when (decide (xs.length+ys.length<=100000)) (.ok (.tuple (xs++ys)))
 |_,_=>.bad
def gA:Dat->Dat->Out Dat
 |.int i,.int j=>.ok (.int (i-j))
 |_,_=>.bad
def mW:Dat->Dat->Out Dat
 |.int i,.int j=>Out.when (decide (CMul i j)) (.ok (.int (i*j)))
 |_,_=>.bad
def yr:Dat->Dat->Out Dat
 |.int i,.int j=>Out.when (decide (CDiv i j)) (.ok (.int (i/j)))
 |_,_=>.bad
def jd:Dat->Dat->Out Dat
 |.int i,.int j=>Out.when (decide (0<j)) (.ok (.int (i%j)))
 |_,_=>.bad
def Cm:Dat->Dat->Out Dat
 |.int i,.int j=>Out.when (decide (CPow i j)) (.ok (.int (i^j.toNat)))
 |_,_=>.bad
def rCatS(K:adh):R2:=λx y H Q=>∃l b xs zs,x=.ref l/\y=.ref b/\SqL K H l xs/\SqL K H b zs/\xs.length+zs.length<=sizeLine/\∀p,H p=none->Q (.ref p) (upd H p (.lst (xs++zs)))
theorem QX{X:Cx}:OpR X (binaryOp .Add) (rCatS X.K):=by
 intro pins s σ H x y v u Q I rx ry h;obtain⟨l,b,xs,zs,rfl,rfl,hH,hB,hz,q⟩:=h;cases rx;cases ry;obtain⟨its,r,⟨⟨c1,d1,da1,s1⟩,n,e,hc,hd,hs⟩,_⟩:=I.list hH;obtain⟨its2,r2,⟨⟨c2,d2,da2,s2⟩,n2,e2,hc2,hd2,hs2⟩,_⟩:=I.list hB;simp only at hc hd hs hc2 hd2 hs2;subst hc hd hs hc2 hd2 hs2;have l1:=r.length;have l2:=r2.length;have ea:its.toArray++its2.toArray=(its++its2).toArray:=by simp
 refine concat_meets ⟨_,e,rfl⟩ ⟨_,e2,rfl⟩ noFill_list_add seq_list_add PySem.F.slot_list_add PySem.F.entry_list_add (PySem.F.args_list_add_2 _ _) (list_addW l b its.toArray its2.toArray n n2 none none s1 s2 (by rw[aef,aef];omega)) ⟨e,e2,?_⟩;rw[ea];exact⟨.ref _,_,I.lnew (t':=s.toks) (r.append r2) (by rw[ad5];omega),rfl,q _ I.fresh⟩
def O2(K:adh):R2:=λx y H Q=>rI0 (λi j=>.int (i+j)) x y H Q\/(∃i j,x=.str i/\y=.str j/\i.length+j.length<=sizeLine/\Q (.str (i++j)) H)\/rCatS K x y H Q\/rCatA K x y H Q
theorem Pn{X:Cx}:OpR X (binaryOp .Add) (O2 X.K):=by
 intro pins s σ H x y v u Q I rx ry h;rcases h with h|h|h|h
 .exact op_add pins s σ H x y v u Q I rx ry h
 .exact op_add_str pins s σ H x y v u Q I rx ry h
 .exact QX pins s σ H x y v u Q I rx ry h
 .exact op_catA pins s σ H x y v u Q I rx ry h
section
variable{K:adh}{aj:aq}{W:WX}
theorem Uc:gq aj K W bW (O2 K):=λσ g H x y d e Q k rx ry h=>by
 unfold bW at h;split at h
 .exact .inl ⟨_,_,aN rx,aN ry,h _ H (Ex.refl H) (.int _)⟩
 .obtain⟨hz,h⟩:=h.gG;exact .inr (.inl ⟨_,_,cU rx,cU ry,sz_of (aex hz),h _ H (Ex.refl H) (.str _)⟩)
 .obtain⟨hz,h⟩:=h.gG;obtain⟨l,us,e1,s1,t1⟩:=bZ rx;obtain⟨l2,us2,e2,s2,t2⟩:=bZ ry;have hl:=aex hz;rw[<-t1.length,<-t2.length]at hl;refine .inr (.inr (.inl ⟨l,l2,us,us2,e1,e2,s1,s2,sz_of hl,λp np=>h _ _ (Ex.new np) (.lst (.inl ⟨aeC,k.fresh np⟩) ((t1.append t2).ex (Ex.new np) k))⟩))
 .obtain⟨hz,h⟩:=h.gG;obtain⟨l,us,e1,s1,t1⟩:=dU rx;obtain⟨l2,us2,e2,s2,t2⟩:=dU ry;have hl:=aex hz;rw[<-t1.length,<-t2.length]at hl;refine .inr (.inr (.inr ⟨l,l2,us,us2,e1,e2,s1,s2,sz_of hl,λz=>?_,λ_ z=>?_,λ_ _ p np=>h _ _ (Ex.new np) (.tup (st_of aeC) ((t1.append t2).ex (Ex.new np) k))⟩))
  .subst z;cases t1;exact h _ H (Ex.refl H) (.tup s2 t2)
  .subst z;cases t2;rw[adV]at h;exact h _ H (Ex.refl H) (.tup s1 t1)
 .exact aev h
theorem Wg:gq aj K W gA (rI0 λi j=>.int (i-j)):=λσ g H x y d e Q k rx ry h=>by
 unfold gA at h;split at h
 .exact⟨_,_,aN rx,aN ry,h _ H (Ex.refl H) (.int _)⟩
 .exact aev h
theorem Vm:gq aj K W mW (rI CMul λi j=>.int (i*j)):=λσ g H x y d e Q k rx ry h=>by
 unfold mW at h;split at h
 .obtain⟨hz,h⟩:=h.gG;exact⟨_,_,aN rx,aN ry,aex hz,h _ H (Ex.refl H) (.int _)⟩
 .exact aev h
theorem V6:gq aj K W yr (rI CDiv λi j=>.int (i/j)):=λσ g H x y d e Q k rx ry h=>by
 unfold yr at h;split at h
 .obtain⟨hz,h⟩:=h.gG;exact⟨_,_,aN rx,aN ry,aex hz,h _ H (Ex.refl H) (.int _)⟩
 .exact aev h
theorem Uz:gq aj K W jd (rI (λ_ j=>0<j) λi j=>.int (i%j)):=λσ g H x y d e Q k rx ry h=>by
 unfold jd at h;split at h
 .obtain⟨hz,h⟩:=h.gG;exact⟨_,_,aN rx,aN ry,aex hz,h _ H (Ex.refl H) (.int _)⟩
 .exact aev h
theorem WQ:gq aj K W Cm (rI CPow λi j=>.int (i^j.toNat)):=λσ g H x y d e Q k rx ry h=>by
 unfold Cm at h;split at h
 .obtain⟨hz,h⟩:=h.gG;exact⟨_,_,aN rx,aN ry,aex hz,h _ H (Ex.refl H) (.int _)⟩
 .exact aev h
end
mutual
def okd:Nat->Dat->Bool
 |_,.none=>true
 |_,.bool _=>true
 |_,.int _=>true
 |_,.str x=>PyData.strOk x
 |n+1,.list ds=>gj n ds
 |n+1,.tuple ds=>gj n ds
 |0,.list _=>false
 |0,.tuple _=>false
 |_,.dict _=>false
def gj:Nat->List Dat->Bool
 |_,[]=>true
 |n,d::ds=>okd n d&&gj n ds
end
mutual
theorem yx:∀(n:Nat) (d:Dat),okd n d=true->d.canLay0=true/\d.depth<=n
 |n,.none,_=>⟨by simp[PyData.canLay0],by simp[PyData.depth]⟩
 |n,.bool _,_=>⟨by simp[PyData.canLay0],by simp[PyData.depth]⟩
 |n,.int _,_=>⟨by simp[PyData.canLay0],by simp[PyData.depth]⟩
 |n,.str x,h=>⟨by rw[okd]at h;simp[PyData.canLay0,h],by simp[PyData.depth]⟩
 |n+1,.list ds,h=>by
  rw[okd]at h;obtain⟨h1,h2⟩:=vq n ds h;exact⟨by simp[PyData.canLay0,h1],by simp[PyData.depth];omega⟩
 |n+1,.tuple ds,h=>by
  rw[okd]at h;obtain⟨h1,h2⟩:=vq n ds h;exact⟨by simp[PyData.canLay0,h1],by simp[PyData.depth];omega⟩
 |0,.list _,h=>by rw[okd]at h;cases h
 |0,.tuple _,h=>by rw[okd]at h;cases h
 |n,.dict _,h=>by rw[okd]at h;cases h
theorem vq:∀(n:Nat) (ds:List Dat),gj n ds=true->PyData.canLayAll0 ds=true/\PyData.depthAll ds<=n
 |n,[],_=>⟨by simp[PyData.canLayAll0],by simp[PyData.depthAll]⟩
 |n,d::ds,h=>by
  rw[gj,adi]at h;obtain⟨h1,h2⟩:=yx n d h.1;obtain⟨h3,h4⟩:=vq n ds h.2;exact⟨by simp[PyData.canLayAll0,h1,h3],by simp[PyData.depthAll];omega⟩
end
mutual
theorem Rep.dp{K:adh}{g:Gh}{H:Hp}:∀{n:Nat} {v:V} {d:Dat},okd n d=true->Rep K g H v d->Dp K H v d
 |_,_,_,_,.non=>.non
 |_,_,_,_,.bl b=>.bl b
 |_,_,_,_,.int i=>.int i
 |_,_,_,_,.str x=>.str x
 |n+1,_,_,f,.tup h t=>.tup h (ao.dp (n:=n) (by rw[okd]at f;exact f) t)
 |n+1,_,_,f,.lst h t=>.lst h.sq (ao.dp (n:=n) (by rw[okd]at f;exact f) t)
 |0,_,_,f,.tup h t=>by rw[okd]at f;cases f
 |0,_,_,f,.lst h t=>by rw[okd]at f;cases f
 |_,_,_,f,.obj h=>by rw[okd]at f;cases f
theorem ao.dp{K:adh}{g:Gh}{H:Hp}:∀{n:Nat} {vs:List V} {ds:List Dat},gj n ds=true->ao K g H vs ds->DpAll K H vs ds
 |_,_,_,_,.nil=>.nil
 |n,_,_,f,.cons h t=>.cons (Rep.dp (n:=n) (by rw[gj,adi]at f;exact f.1) h) (ao.dp (n:=n) (by rw[gj,adi]at f;exact f.2) t)
end
theorem aW.dp{K:adh}{g:Gh}{H:Hp}{n:Nat}{v:V}{d:Dat}(f:okd n d=true)(h:aW K g H v d):Dp K H v d:=by
 cases d with
 |list ds=>
  obtain⟨a,us,rfl,h2,h3⟩:=h;cases n with
  |zero=>rw[okd]at f;cases f
  |succ n=>
   rw[okd]at f;exact .lst h2 (h3.dp f)
 |_=>exact Rep.dp f h
theorem mO{n:Nat}{d:Dat}(h:okd n d=true)(hn:n<=64):SeqAt.shaped d=true:=by obtain⟨h1,h2⟩:=yx n d h;unfold SeqAt.shaped;rw[h1,Bool.true_and];exact decide_eq_true (aeo h2 hn)
def eqB:Dat->Dat->Out Bool
 |.int i,.int j=>.ok (i==j)
 |.str x,.str y=>.ok (x==y)
 |.bool x,.bool y=>.ok (x==y)
 |.none,.none=>.ok true
 |d,e=>Out.when (okd 12 d&&okd 12 e) (.ok (PyData.eqv d e))
def jx(d e:Dat):Out Dat:=(eqB d e).bind λb=>.ok (.bool b)
def rR(d e:Dat):Out Dat:=(eqB d e).bind λb=>.ok (.bool (!b))
def VD(K:adh):R2:=λx y H Q=>rEq x y H Q\/rEqD K x y H Q
def VN(K:adh):R2:=λx y H Q=>rNe x y H Q\/rNeD K x y H Q
theorem SM{X:Cx}(hu:X.A.units+64<cLine):OpR X (compareOp .Eq) (VD X.K):=λpins s σ H x y v u Q I rx ry h=>h.elim (λh=>op_eq pins s σ H x y v u Q I rx ry h) (λh=>op_eqD hu pins s σ H x y v u Q I rx ry h)
theorem V8{X:Cx}(hu:X.A.units+64<cLine):OpR X (compareOp .NotEq) (VN X.K):=λpins s σ H x y v u Q I rx ry h=>h.elim (λh=>op_ne pins s σ H x y v u Q I rx ry h) (λh=>op_neD hu pins s σ H x y v u Q I rx ry h)
section
variable{K:adh}{aj:aq}{W:WX}{g:Gh}{H:Hp}
theorem JZ{x y:V}{d e:Dat}{P:Bool->Prop}{E:aY->Prop}(rx:aW K g H x d)(ry:aW K g H y e)(h:(eqB d e).sat P E):(scal x y=true/\P (decide (x=y)))\/(∃d e,Dp K H x d/\Dp K H y e/\SeqAt.shaped d=true/\SeqAt.shaped e=true/\P (PyData.eqv d e)):=by
 unfold eqB at h;split at h
 .cases aN rx;cases aN ry;rw[dec_int];exact .inl ⟨rfl,h⟩
 .cases cU rx;cases cU ry;rw[dec_str];exact .inl ⟨rfl,h⟩
 .cases oA rx;cases oA ry;rw[dec_bl];exact .inl ⟨rfl,h⟩
 .cases pq rx;cases pq ry;exact .inl ⟨rfl,h⟩
 .obtain⟨hz,h⟩:=h.gG;rw[adi]at hz;exact .inr ⟨_,_,rx.dp hz.1,ry.dp hz.2,mO hz.1 (by decide),mO hz.2 (by decide),h⟩
theorem Xv:gq aj K W jx (VD K):=λσ g H x y d e Q k rx ry h=>by
 rcases JZ rx ry h.bnd with⟨h1,h2⟩|⟨d,e,h1,h2,h3,h4,h5⟩
 .exact .inl ⟨h1,h2 _ H (Ex.refl H) (.bl _)⟩
 .exact .inr ⟨d,e,h1,h2,h3,h4,h5 _ H (Ex.refl H) (.bl _)⟩
theorem Yp:gq aj K W rR (VN K):=λσ g H x y d e Q k rx ry h=>by
 rcases JZ rx ry h.bnd with⟨h1,h2⟩|⟨d,e,h1,h2,h3,h4,h5⟩
 .exact .inl ⟨h1,h2 _ H (Ex.refl H) (.bl _)⟩
 .exact .inr ⟨d,e,h1,h2,h3,h4,h5 _ H (Ex.refl H) (.bl _)⟩
end
def CG:Dat->Dat->Out Dat
 |.int i,.int j=>.ok (.bool (decide (i<j)))
 |.tuple ds,.tuple es=>Out.when (okd 12 (.tuple ds)&&okd 12 (.tuple es)&&PySem.W.alike (.tuple ds) (.tuple es)) (.ok (.bool (PySem.W.dataLt (.tuple ds) (.tuple es))))
 |_,_=>.bad
def oJ:Dat->Dat->Out Dat
 |.int i,.int j=>.ok (.bool (decide (i<=j)))
 |_,_=>.bad
def O4:Dat->Dat->Out Dat
 |.int i,.int j=>.ok (.bool (decide (j<i)))
 |_,_=>.bad
def KC:Dat->Dat->Out Dat
 |.int i,.int j=>.ok (.bool (decide (j<=i)))
 |_,_=>.bad
def Wt(K:adh):R2:=λx y H Q=>rI0 (λi j=>.bl (decide (i<j))) x y H Q\/Ear.vX K x y H Q
theorem Uk{X:Cx}(hu:X.A.units+65<cLine):OpR X (compareOp .Lt) (Wt X.K):=λpins s σ H x y v u Q I rx ry h=>h.elim (λh=>op_lt pins s σ H x y v u Q I rx ry h) (λh=>Ear.Mx hu pins s σ H x y v u Q I rx ry h)
section
variable{K:adh}{aj:aq}{W:WX}{g:Gh}{H:Hp}
theorem Xb:gq aj K W CG (Wt K):=λσ g H x y d e Q k rx ry h=>by
 unfold CG at h;split at h
 .exact .inl ⟨_,_,aN rx,aN ry,h _ H (Ex.refl H) (.bl _)⟩
 .obtain⟨hz,h⟩:=h.gG;simp only[adi]at hz;refine .inr ?_;unfold Ear.vX;exact⟨_,_,rx.dp hz.1.1,ry.dp hz.1.2,hz.2,(λz=>nomatch z),aeo (yx _ _ hz.1.1).2 (by decide),h _ H (Ex.refl H) (.bl _)⟩
 .exact aev h
theorem Xp:gq aj K W oJ (rI0 λi j=>.bl (decide (i<=j))):=λσ g H x y d e Q k rx ry h=>by
 unfold oJ at h;split at h
 .exact⟨_,_,aN rx,aN ry,h _ H (Ex.refl H) (.bl _)⟩
 .exact aev h
theorem Xg:gq aj K W O4 (rI0 λi j=>.bl (decide (j<i))):=λσ g H x y d e Q k rx ry h=>by
 unfold O4 at h;split at h
 .exact⟨_,_,aN rx,aN ry,h _ H (Ex.refl H) (.bl _)⟩
 .exact aev h
theorem W9:gq aj K W KC (rI0 λi j=>.bl (decide (j<=i))):=λσ g H x y d e Q k rx ry h=>by
 unfold KC at h;split at h
 .exact⟨_,_,aN rx,aN ry,h _ H (Ex.refl H) (.bl _)⟩
 .exact aev h
end
def jr(c:Dat):Dat->Bool
 |.none=>match c with
  |.none=>true
  |_=>false
 |.bool b=>match c with
  |.bool b'=>b==b'
  |_=>false
 |_=>false
def Jo:Dat->Option V
 |.none=>some .non
 |.bool b=>some (.bl b)
 |_=>none
theorem xK{K:adh}{g:Gh}{H:Hp}{x:V}{d c:Dat}{v:V}(h:aW K g H x d)(hc:Jo c=some v):decide (x=v)=jr c d:=by
 cases c with
 |none=>
  cases hc;cases d with
  |none=>cases pq h;rfl
  |bool b=>cases oA h;rfl
  |int b=>cases aN h;rfl
  |str b=>cases cU h;rfl
  |list b=>obtain⟨a,us,rfl,_⟩:=bZ h;rfl
  |tuple b=>obtain⟨a,us,rfl,_⟩:=dU h;rfl
  |dict b=>cases h;rfl
 |bool c=>
  cases hc;cases d with
  |none=>cases pq h;rfl
  |bool b=>cases oA h;exact dec_bl
  |int b=>cases aN h;rfl
  |str b=>cases cU h;rfl
  |list b=>obtain⟨a,us,rfl,_⟩:=bZ h;rfl
  |tuple b=>obtain⟨a,us,rfl,_⟩:=dU h;rfl
  |dict b=>cases h;rfl
 |_=>cases hc
def yU(neg:Bool)(v:V):R2:=λx y H Q=>y=v/\Q (.bl (neg ^^ decide (x=v))) H
theorem JD{x v:V}{u w:Value}(hv:v=.non\/∃b,v=.bl b)(rx:RelV x u)(rv:RelV v w):(u==w)=decide (x=v):=by
 rcases hv with rfl|⟨b,rfl⟩
 .cases rv;exact rx.none_iff
 .cases rv;rw[aee,beq_iff_eq,aew];constructor
  .rintro rfl;cases x with
   |bl c=>cases rx;rfl
   |non=>cases rx
   |ref _=>cases rx
   |ty _=>cases rx
   |_=>obtain⟨t,z⟩:=rx;cases z
  .rintro rfl;exact rx
theorem zU{x v:V}{u w:Value}(hv:v=.non\/∃b,v=.bl b)(rx:RelV x u)(rv:RelV v w):plainIs u w=true:=by rcases hv with rfl | ⟨b,rfl⟩<;>(cases rv;cases x<;>first | (cases rx;rfl) | (obtain⟨t,rfl⟩:=rx;rfl))
theorem Vf{X:Cx}{v:V}(hv:v=.non\/∃b,v=.bl b):OpR X (compareOp .Is) (yU false v):=by intro pins s σ H x y u w Q I rx ry h;obtain⟨rfl,q⟩:=h;refine wpAny_is_plain (zU hv rx ry) ?_;rw[JD hv rx ry];rw[Bool.false_xor]at q;exact⟨.bl _,H,I,rfl,q⟩
theorem JR{X:Cx}{v:V}(hv:v=.non\/∃b,v=.bl b):OpR X (compareOp .IsNot) (yU true v):=by intro pins s σ H x y u w Q I rx ry h;obtain⟨rfl,q⟩:=h;refine wpAny_isNot_plain (zU hv rx ry) ?_;rw[JD hv rx ry];rw[Bool.true_xor]at q;exact⟨.bl _,H,I,rfl,q⟩
def pJ(neg:Bool)(c:Dat)(a:QF):QF:=λM Z=>(a M Z).bind λd=>.ok (.bool (neg ^^ jr c d))
section
variable{X:Cx}{aj:aq}{W:WX}{a b c:Expr}{fa fb fc:QF}{pos:Pos}
theorem Xy{op:CmpOp}{neg:Bool}{d:Dat}{v:V}(hc:Jo d=some v)(hr:OpR X (compareOp op) (yU neg v))(ha:QW aj X W a fa)(hb:PE X b (tC v))(hm:behindInMarks op b=false):QE aj X W (.Compare a [op] [b] pos) (pJ neg d fa):=
 PE.weak (pe_cmpR hr ha hb hm) λσ H Q ⟨g,Z,M,I,h⟩=>by
  refine tW.go I h.bnd λe x H1 h1 e1 r1=>?_;refine⟨rfl,?_⟩;rw[xK r1 hc];exact h1 _ H1 e1 (.bl _)
end
def wu:Dat->Bool
 |.none=>true
 |.bool _=>true
 |.int _=>true
 |.str _=>true
 |_=>false
def inB:Dat->Dat->Out Bool
 |d,.list ds=>Out.when (okd 12 d&&gj 12 ds) (.ok (ds.any λz=>PyData.eqv z d))
 |d,.tuple ds=>Out.when (wu d&&ds.all wu) (.ok (ds.any λz=>PyData.eqv z d))
 |.str x,.str z=>match x.cps.toList with
  |[c]=>.ok (decide (c∈z.cps.toList))
  |_=>.bad
 |_,_=>.bad
def inD(neg:Bool)(d e:Dat):Out Dat:=(inB d e).bind λb=>.ok (.bool (neg ^^ b))
section
variable{K:adh}{g:Gh}{H:Hp}
theorem Bq{v:V}{d:Dat}(f:wu d=true)(h:Rep K g H v d):flatV v=true:=by
 cases h with
 |tup _ _=>cases f
 |lst _ _=>cases f
 |obj _=>cases f
 |_=>rfl
theorem zE:∀{vs:List V} {ds:List Dat},ds.all wu=true->ao K g H vs ds->vs.all flatV=true
 |_,_,_,.nil=>rfl
 |_,_,f,.cons h t=>by
  rw[adI,adi]at f;rw[adI,Bq f.1 h,zE f.2 t];rfl
theorem Rx{v w:V}{d e:Dat}(f1:wu d=true)(f2:wu e=true)(h1:Rep K g H v d)(h2:Rep K g H w e):eqV v w=PyData.eqv d e:=by
 cases h1 with
 |tup _ _=>cases f1
 |lst _ _=>cases f1
 |obj _=>cases f1
 |non=>cases h2 with
  |tup _ _=>cases f2
  |lst _ _=>cases f2
  |obj _=>cases f2
  |_=>simp[eqV,PyData.eqv]
 |bl b=>cases h2 with
  |tup _ _=>cases f2
  |lst _ _=>cases f2
  |obj _=>cases f2
  |_=>simp[eqV,PyData.eqv]
 |int b=>cases h2 with
  |tup _ _=>cases f2
  |lst _ _=>cases f2
  |obj _=>cases f2
  |_=>simp[eqV,PyData.eqv]
 |str b=>cases h2 with
  |tup _ _=>cases f2
  |lst _ _=>cases f2
  |obj _=>cases f2
  |_=>simp[eqV,PyData.eqv]
theorem Fd{w:V}{e:Dat}(f2:wu e=true)(h2:Rep K g H w e):∀{vs:List V} {ds:List Dat},ds.all wu=true->ao K g H vs ds->inV w vs=ds.any λz=>PyData.eqv z e
 |_,_,_,.nil=>rfl
 |v::vs,d::ds,f,.cons h t=>by
  rw[adI,adi]at f;have ih:=Fd f2 h2 f.2 t;unfold inV at ih |-
  rw[aed,aed,ih,Rx f.1 f2 h h2]
theorem RG{v:V}{d:Dat}(f:wu d=true)(h:aW K g H v d):Rep K g H v d:=by
 cases d with
 |list _=>cases f
 |_=>exact h
end
def BP(K:adh)(neg:Bool):R2:=λx y H Q=>(∃d ds,Dp K H x d/\Dp K H y (.list ds)/\SeqAt.shaped d=true/\SeqAt.shaped (.list ds)=true/\Q (.bl (neg ^^ (ds.any λz=>PyData.eqv z d))) H)\/
 (∃p xs,y=.ref p/\(SqL K H p xs\/SqT K H p xs)/\flatV x=true/\xs.all flatV=true/\Q (.bl (neg ^^ inV x xs)) H)\/∃(c:Nat) (z:Str),x=.str ⟨#[c]⟩/\y=.str z/\Q (.bl (neg ^^ decide (c∈z.cps.toList))) H
theorem Tf{X:Cx}(hu:X.A.units+65<cLine):OpR X (compareOp .In) (BP X.K false):=λpins s σ H x y v u Q I rx ry h=>by
 unfold BP at h;simp only[Bool.false_xor]at h;rcases h with⟨d,ds,h⟩|⟨p,xs,h⟩|h
 .exact op_inD hu pins s σ H x y v u Q I rx ry ⟨d,ds,h⟩
 .exact op_in_seq pins s σ H x y v u Q I rx ry ⟨p,xs,h⟩
 .exact op_in_sign pins s σ H x y v u Q I rx ry h
theorem IV{X:Cx}(hu:X.A.units+65<cLine):OpR X (compareOp .NotIn) (BP X.K true):=λpins s σ H x y v u Q I rx ry h=>by
 unfold BP at h;simp only[Bool.true_xor]at h;rcases h with⟨d,ds,h⟩|⟨p,xs,h⟩|h
 .exact op_notInD hu pins s σ H x y v u Q I rx ry ⟨d,ds,h⟩
 .exact op_notIn_seq pins s σ H x y v u Q I rx ry ⟨p,xs,h⟩
 .exact op_notIn_sign pins s σ H x y v u Q I rx ry h
theorem Oz{K:adh}{aj:aq}{W:WX}{neg:Bool}:gq aj K W (inD neg) (BP K neg):=λσ g H x y d e Q k rx ry h=>by
 replace h:=Out.sat.bnd h
 unfold inB at h;split at h
 .next ds=>
  obtain⟨hz,h⟩:=h.gG;rw[adi]at hz;have e2:okd 13 (.list ds)=true:=by rw[okd];exact hz.2
  exact .inl ⟨_,ds,rx.dp hz.1,ry.dp e2,mO hz.1 (by decide),mO e2 (by decide),h _ H (Ex.refl H) (.bl _)⟩
 .next ds=>
  obtain⟨hz,h⟩:=h.gG;rw[adi]at hz;obtain⟨p,us,rfl,h1,h2⟩:=dU ry;have rx':=RG hz.1 rx;refine .inr (.inl ⟨p,us,rfl,.inr h1,Bq hz.1 rx',zE hz.2 h2,?_⟩);rw[Fd hz.1 rx' hz.2 h2];exact h _ H (Ex.refl H) (.bl _)
 .next xs z=>
  split at h
  .next c e=>
   refine .inr (.inr ⟨c,z,?_,cU ry,h _ H (Ex.refl H) (.bl _)⟩);rw[cU rx];congr 1;have:xs.cps=#[c]:=by apply Array.toList_inj.mp;rw[e]
   cases xs;simp only at this;rw[this]
  .exact aev h
 .exact aev h
def HS:Dat->Out Dat
 |.int i=>.ok (.int (-i))
 |_=>.bad
def qM:Dat->Out Bool
 |.none=>.ok false
 |.bool b=>.ok b
 |.int i=>.ok (i != 0)
 |.str x=>Out.when (decide (x.length<=100000)) (.ok (!x.cps.toList.isEmpty))
 |.list ds=>.ok (!ds.isEmpty)
 |.tuple ds=>.ok (!ds.isEmpty)
 |_=>.bad
def fV(a:QF):QT:=λM Z=>(a M Z).bind qM
def jZ:Dat->Out Bool
 |.bool b=>.ok b
 |_=>.bad
def cQ(a:QF):QT:=λM Z=>(a M Z).bind jZ
def dJ(a:QT):QT:=λM Z=>(a M Z).bind λb=>.ok (!b)
def oE(a b:QT):QT:=λM Z=>(a M Z).bind λx=>if x=true then b M Z else .ok false
def rC(a b:QT):QT:=λM Z=>(a M Z).bind λx=>if x=true then .ok true else b M Z
def Kz(a:QT):QF:=λM Z=>(a M Z).bind λb=>.ok (.bool b)
def V7(t:QT)(a b:QF):QF:=λM Z=>(t M Z).bind λx=>if x=true then a M Z else b M Z
theorem wH{K:adh}{g:Gh}{H:Hp}{us:List V}{ds:List Dat}(h:ao K g H us ds):(!ds.isEmpty)=!us.isEmpty:=by cases h<;>rfl
section
variable{X:Cx}{aj:aq}{W:WX}{a b c:Expr}{fa fb fc:QF}{ta tb:QT}{pos:Pos}
theorem Wu(ha:QW aj X W a fa):QE aj X W (.UnaryOp .USub a pos) (gD HS fa):=
 PE.weak (pe_un un_neg ha) λσ H Q ⟨g,Z,M,I,h⟩=>by
  refine tW.go I h.bnd λd v H1 h1 e1 r1=>?_;unfold HS at h1;split at h1
  .exact⟨_,aN r1,h1 _ H1 e1 (.int _)⟩
  .exact aev h1
theorem Sq{g:Gh}{H:Hp}{v:V}{d:Dat}{P:Bool->Prop}{E:aY->Prop}(r:aW X.K g H v d)(h:(qM d).sat P E):∃k,TruV X.K v H k/\P k:=by
 unfold qM at h;split at h
 .cases pq r;exact⟨_,rfl,h⟩
 .cases oA r;exact⟨_,rfl,h⟩
 .cases aN r;exact⟨_,rfl,h⟩
 .next x=>
  obtain⟨hz,h⟩:=h.gG;cases cU r;refine⟨_,⟨sz_of (aex hz),?_⟩,h⟩;have e:x.length=x.cps.toList.length:=by rw[adP];rfl
  rw[e];cases x.cps.toList with
  |nil=>rfl
  |cons y ys=>
   refine Eq.symm (bne_iff_ne.mpr ?_);simp;omega
 .obtain⟨p,us,rfl,h1,h2⟩:=bZ r;rw[wH h2]at h;exact⟨_,.inl ⟨us,h1,rfl⟩,h⟩
 .obtain⟨p,us,rfl,h1,h2⟩:=dU r;rw[wH h2]at h;exact⟨_,.inr (.inl ⟨us,h1,rfl⟩),h⟩
 .exact aev h
theorem R8(ha:QW aj X W a fa)(he:∀whole,isTrue a X.env whole=(do let v <-whole;standAt a.pos;holding [v] (truthy v))):iT aj X W a (fV fa):=
 PT.weak (pt_truth ha he) λσ H Q ⟨g,Z,M,I,h⟩=>by
  refine tW.go I h.bnd λd v H1 h1 e1 r1=>?_;obtain⟨k,h2,h3⟩:=Sq r1 h1;exact⟨k,h2,h3 H1 e1⟩
theorem nY{g:Gh}{H:Hp}{v:V}{d:Dat}{P:Bool->Prop}{E:aY->Prop}(r:aW X.K g H v d)(h:(jZ d).sat P E):∃k,v=.bl k/\P k:=by
 unfold jZ at h;split at h
 .cases oA r;exact⟨_,rfl,h⟩
 .exact aev h
theorem Vv{op:CmpOp}{r:R2}{o:Dat->Dat->Out Dat}(hr:OpR X (compareOp op) r)(ho:gq aj X.K W o r)(ha:QW aj X W a fa)(hb:QW aj X W b fb)(hm:behindInMarks op b=false):iT aj X W (.Compare a [op] [b] pos) (cQ (aA o fa fb)):=
 PT.weak (pt_cmpR hr ha hb hm) λσ H Q ⟨g,Z,M,I,h⟩=>by
  refine vO ho σ H _ ⟨g,Z,M,I,h.bnd.mono (λd h1 v H' e' r'=>?_) λ_ z=>z⟩;obtain⟨k,h2,h3⟩:=nY r'.weak h1;exact⟨k,h2,h3 H' e'⟩
theorem Xr{op:CmpOp}{neg:Bool}{d:Dat}{v:V}(hc:Jo d=some v)(hr:OpR X (compareOp op) (yU neg v))(ha:QW aj X W a fa)(hb:PE X b (tC v))(hm:behindInMarks op b=false):iT aj X W (.Compare a [op] [b] pos) (cQ (pJ neg d fa)):=
 PT.weak (pt_cmpR hr ha hb hm) λσ H Q ⟨g,Z,M,I,h⟩=>by
  refine tW.go I h.bnd.bnd λe x H1 h1 e1 r1=>?_;refine⟨rfl,_,rfl,?_⟩;rw[xK r1 hc];exact h1 H1 e1
theorem WW(ha:iT aj X W a ta):iT aj X W (.UnaryOp .Not a pos) (dJ ta):=
 PT.weak (pt_not ha) λσ H Q ⟨g,Z,M,I,h⟩=>cW.go I h.bnd λb H1 h1 e1=>h1 H1 e1
def Em(aj:aq)(X:Cx)(W:WX)(e:Expr)(f:QT):Prop:=PW X e (cW X.K aj W f)
theorem PW.weak{X:Cx}{e:Expr}{t t':TT}(h:PW X e t)(k:∀σ H Q,t' σ H Q->t σ H Q):PW X e t':=⟨λwh pins s σ H Q I q=>h.run wh pins s σ H Q I (k σ H Q q)⟩
theorem T7{rest:List Expr}(ha:iT aj X W a ta)(hb:Em aj X W (.BoolOp .And (b::rest) pos) tb):Em aj X W (.BoolOp .And (a::b::rest) pos) (oE ta tb):=
 PW.weak (pw_and ha hb) λσ H Q ⟨g,Z,M,I,h⟩=>by
  refine cW.go I h.bnd λx H1 h1 e1=>?_;cases x with
  |true=>exact⟨g,Z,M,I.ex e1,h1.mono (λb k H' e'=>k H' (e1.trans e')) λ_ z=>z.ex e1⟩
  |false=>exact h1 H1 e1
theorem X3{rest:List Expr}(ha:iT aj X W a ta)(hb:Em aj X W (.BoolOp .Or (b::rest) pos) tb):Em aj X W (.BoolOp .Or (a::b::rest) pos) (rC ta tb):=
 PW.weak (pw_or ha hb) λσ H Q ⟨g,Z,M,I,h⟩=>by
  refine cW.go I h.bnd λx H1 h1 e1=>?_;cases x with
  |true=>exact h1 H1 e1
  |false=>exact⟨g,Z,M,I.ex e1,h1.mono (λb k H' e'=>k H' (e1.trans e')) λ_ z=>z.ex e1⟩
def Ba(a:QF):QF:=Kz (dJ (cQ a))
def uI(a b:QF):QF:=λM Z=>(a M Z).bind λd=>(jZ d).bind λx=>if x=true then b M Z else .ok (.bool false)
def Ln(a b:QF):QF:=λM Z=>(a M Z).bind λd=>(jZ d).bind λx=>if x=true then .ok (.bool true) else b M Z
theorem Rj(ha:QW aj X W a fa):QE aj X W (.UnaryOp .Not a pos) (Ba fa):=
 PE.weak (pe_not ha) λσ H Q ⟨g,Z,M,I,h⟩=>by
  refine tW.go I h.bnd.bnd.bnd λd v H1 h1 e1 r1=>?_;obtain⟨k,h2,h3⟩:=nY r1 h1;exact⟨k,h2,h3 _ H1 e1 (.bl _)⟩
theorem Pg{rest:List Expr}(ha:QE aj X W a fa)(hb:QE aj X W (.BoolOp .And (b::rest) pos) fb):QE aj X W (.BoolOp .And (a::b::rest) pos) (uI fa fb):=
 PE.weak (pe_and ha hb) λσ H Q ⟨g,Z,M,I,h⟩=>by
  refine tQ.go I h.bnd λd v H1 h1 e1 r1=>?_;obtain⟨k,h2,h3⟩:=nY r1.weak h1.bnd;refine⟨k,h2,?_⟩;cases k with
  |true=>exact⟨g,Z,M,I.ex e1,h3.mono (λb k v' H' e' r'=>k v' H' (e1.trans e') r') λ_ z=>z.ex e1⟩
  |false=>exact h3 _ H1 e1 (.bl false)
theorem Uh{rest:List Expr}(ha:QE aj X W a fa)(hb:QE aj X W (.BoolOp .Or (b::rest) pos) fb):QE aj X W (.BoolOp .Or (a::b::rest) pos) (Ln fa fb):=
 PE.weak (pe_or ha hb) λσ H Q ⟨g,Z,M,I,h⟩=>by
  refine tQ.go I h.bnd λd v H1 h1 e1 r1=>?_;obtain⟨k,h2,h3⟩:=nY r1.weak h1.bnd;refine⟨k,h2,?_⟩;cases k with
  |false=>exact⟨g,Z,M,I.ex e1,h3.mono (λb k v' H' e' r'=>k v' H' (e1.trans e') r') λ_ z=>z.ex e1⟩
  |true=>exact h3 _ H1 e1 (.bl true)
theorem Mq(hc:iT aj X W c ta)(ha:QE aj X W a fa)(hb:QE aj X W b fb):QE aj X W (.IfExp c a b pos) (V7 ta fa fb):=
 PE.weak (pe_ifExp hc ha hb) λσ H Q ⟨g,Z,M,I,h⟩=>by
  refine cW.go I h.bnd λx H1 h1 e1=>?_;cases x with
  |true=>exact⟨g,Z,M,I.ex e1,h1.mono (λb k v' H' e' r'=>k v' H' (e1.trans e') r') λ_ z=>z.ex e1⟩
  |false=>exact⟨g,Z,M,I.ex e1,h1.mono (λb k v' H' e' r'=>k v' H' (e1.trans e') r') λ_ z=>z.ex e1⟩
def iW(o o':Dat->Dat->Out Dat)(a b c:QF):QT:=λM Z=>(a M Z).bind λx=>(b M Z).bind λy=>(o x y).bind λz=>(jZ z).bind λk=>if k=true then(c M Z).bind λw=>(o' y w).bind jZ else .ok false
theorem Ds{r r':R2}{o o':Dat->Dat->Out Dat}(ho:gq aj X.K W o r)(ho':gq aj X.K W o' r'){σ:L2.St}{H:Hp}{Q:VK}{P:Bool->Hp->Prop}(hP:∀k H',P k H'->Q (.bl k) H')(h:cW X.K aj W (iW o o' fa fb fc) σ H P):tChain r r' (tW X.K aj W fa) (tW X.K aj W fb) (tW X.K aj W fc) σ H Q:=by
 obtain⟨g,Z,M,I,h⟩:=h;refine tW.go I h.bnd λd v H1 h1 e1 r1=>?_;have I1:=I.ex e1;refine tW.go I1 (h1.bnd.mono (λ_ z=>z) λ_ z=>z.ex e1) λd2 v2 H2 h2 e2 r2=>?_;have I2:=I1.ex e2;have r1':=r1.ex e2 I1.kd;refine ho σ g H2 v v2 d d2 _ I2.kd r1' r2 (h2.bnd.mono (λz hz u H3 e3 r3=>?_) λ_ z=>(z.ex e1).ex e2);obtain⟨k,h4,h5⟩:=nY r3.weak hz.bnd;refine⟨k,h4,?_⟩;have I3:=I2.ex e3;have e13:=(e1.trans e2).trans e3;cases k with
 |false=>exact hP _ _ (h5 H3 e13)
 |true=>
  refine tW.go I3 (h5.bnd.mono (λ_ z=>z) λ_ z=>z.ex e13) λd4 v4 H4 h6 e4 r4=>?_;refine ho' σ g H4 v2 v4 d2 d4 _ (I3.ex e4).kd ((r2.ex e3 I2.kd).ex e4 I3.kd) r4 (h6.bnd.mono (λz hz u H5 e5 r5=>?_) λ_ z=>(z.ex e13).ex e4);obtain⟨k,rfl,h8⟩:=nY r5.weak hz;exact hP _ _ (h8 H5 ((e13.trans e4).trans e5))
theorem Mj{op op':CmpOp}{r r':R2}{o o':Dat->Dat->Out Dat}(hr:OpR X (compareOp op) r)(hr':OpR X (compareOp op') r')(ho:gq aj X.K W o r)(ho':gq aj X.K W o' r')(ha:QW aj X W a fa)(hb:QW aj X W b fb)(hc:QW aj X W c fc)(hm:lastMarks [op,op'] [b,c]=false) :
  iT aj X W (.Compare a [op,op'] [b,c] pos) (iW o o' fa fb fc):=
 PT.weak (pt_chain hr hr' ha hb hc hm) λσ H Q h=>Ds ho ho' (λk H' z=>⟨k,rfl,z⟩) h
theorem N6{op op':CmpOp}{r r':R2}{o o':Dat->Dat->Out Dat}(hr:OpR X (compareOp op) r)(hr':OpR X (compareOp op') r')(ho:gq aj X.K W o r)(ho':gq aj X.K W o' r')(ha:QW aj X W a fa)(hb:QW aj X W b fb)(hc:QW aj X W c fc)(hm:lastMarks [op,op'] [b,c]=false) :
  QE aj X W (.Compare a [op,op'] [b,c] pos) (Kz (iW o o' fa fb fc)):=
 PE.weak (pe_chain hr hr' ha hb hc hm) λσ H Q ⟨g,Z,M,I,h⟩=>Ds (P:=λb H1=>Q (.bl b) H1) ho ho' (λk H' z=>z) ⟨g,Z,M,I,h.bnd.mono (λb h1 H' e'=>h1 _ H' e' (.bl b)) λ_ z=>z⟩
end
def cH:Dat->Dat->Out Dat
 |.list ds,.int i=>match atI ds i with
  |some d=>.ok d
  |none=>.bad
 |.tuple ds,.int i=>match atI ds i with
  |some d=>.ok d
  |none=>.bad
 |.str z,.int i=>Out.when (decide (z.length<=100000)) (match atI z.cps.toList i with
  |some c=>.ok (.str ⟨#[c]⟩)
  |none=>.bad)
 |_,_=>.bad
theorem Eu{K:adh}{g:Gh}{H:Hp}{us:List V}{ds:List Dat}{i:Int}{d:Dat}(h:ao K g H us ds)(e:atI ds i=some d):∃v,atI us i=some v/\Rep K g H v d:=by
 unfold atI at e |-
 rw[h.length];cases hj:ixN ds.length i with
 |none=>rw[hj]at e;cases e
 |some j=>
  rw[hj]at e;obtain⟨v,h1,h2⟩:=h.get (i:=j) e;exact⟨v,h1,h2⟩
def Tv(K:adh):R2:=λx y H Q=>rIxL K x y H Q\/rIxT K x y H Q\/rIxS x y H Q
theorem Zb{X:Cx}:IxR X (Tv X.K):=λvalue slice pins s σ H x y v u Q I rx ry h hs=>by
 rcases h with h|h|h
 .exact ix_list value slice pins s σ H x y v u Q I rx ry h hs
 .exact ix_tup value slice pins s σ H x y v u Q I rx ry h hs
 .exact ix_str value slice pins s σ H x y v u Q I rx ry h hs
theorem Xj{K:adh}{aj:aq}{W:WX}:gq aj K W cH (Tv K):=λσ g H x y d e Q k rx ry h=>by
 unfold cH at h;split at h
 .split at h
  .next z hz=>
   obtain⟨p,us,rfl,h1,h2⟩:=bZ rx;obtain⟨v,h3,h4⟩:=Eu h2 hz;exact .inl ⟨p,us,_,v,rfl,aN ry,h1,h3,h v H (Ex.refl H) h4⟩
  .exact aev h
 .split at h
  .next z hz=>
   obtain⟨p,us,rfl,h1,h2⟩:=dU rx;obtain⟨v,h3,h4⟩:=Eu h2 hz;exact .inr (.inl ⟨p,us,_,v,rfl,aN ry,h1,h3,h v H (Ex.refl H) h4⟩)
  .exact aev h
 .obtain⟨hl,h⟩:=h.gG;split at h
  .next c hz=>exact .inr (.inr ⟨_,_,c,cU rx,aN ry,sz_of (aex hl),hz,h _ H (Ex.refl H) (.str _)⟩)
  .exact aev h
 .exact aev h
def cutD{α:Type}(xs:List α)(lo hi:Option Int):List α:=(xs.drop (HT.sIx xs.length 0 lo)).take (HT.sIx xs.length xs.length hi-HT.sIx xs.length 0 lo)
abbrev QO:=Mo->Env->Out (Option Int)
def Dt:QO:=λ_ _=>.ok none
def lW:Dat->Out Int
 |.int i=>.ok i
 |_=>.bad
def rQ(a:QF):QO:=λM Z=>(a M Z).bind λd=>(lW d).bind λi=>.ok (some i)
def FT(d:Dat)(lo hi:Option Int):Out Dat:=
 match d with
 |.list ds=>.ok (.list (cutD ds lo hi))
 |.tuple ds=>.ok (.tuple (cutD ds lo hi))
 |.str z=>Out.when (decide (z.length<=100000)) (.ok (.str (cutS z lo hi)))
 |_=>.bad
def O8(a:QF)(lo hi:QO):QF:=λM Z=>(a M Z).bind λd=>(lo M Z).bind λl=>(hi M Z).bind λh=>FT d l h
def tQO(K:adh)(aj:aq)(W:WX)(f:QO):TO:=λσ H Q=>∃g Z M,SInv K aj σ H g Z M/\(f M Z).sat (λo=>∀H',Ex H H'->Q o H') (gQ K aj W g H σ)
def Kl(aj:aq)(X:Cx)(W:WX)(e:Option Expr)(f:QO):Prop:=PO X e (tQO X.K aj W f)
def Ud(K:adh):V->Option Int->Option Int->Hp->VK->Prop:=λx lo hi H Q=>rSlL K x lo hi H Q\/rSlA K x lo hi H Q\/rSlS x lo hi H Q
theorem ZK{X:Cx}:SlR X (Ud X.K):=λpins s σ H x v vl vu lo hi sl Q I rx hs pl pu h=>by
 rcases h with h|h|h
 .exact sl_list pins s σ H x v vl vu lo hi sl Q I rx hs pl pu h
 .exact sl_tupA pins s σ H x v vl vu lo hi sl Q I rx hs pl pu h
 .exact sl_str pins s σ H x v vl vu lo hi sl Q I rx hs pl pu h
theorem Xk{K:adh}{g:Gh}{H:Hp}{x:V}{d:Dat}{lo hi:Option Int}{Q:VK}{E:aY->Prop}(k:Kd g H)(rx:aW K g H x d)(h:(FT d lo hi).sat (λz=>∀v H',Ex H H'->Rep K g H' v z->Q v H') E):Ud K x lo hi H Q:=by
 unfold FT at h;have hc:∀{us:List V} {ds:List Dat},ao K g H us ds->ao K g H (cutV us lo hi) (cutD ds lo hi):=λ{us ds} t=>by
  unfold cutV cutD;rw[t.length];exact(t.drop _).take _
 split at h
 .obtain⟨p,us,rfl,h1,h2⟩:=bZ rx;exact .inl ⟨p,us,rfl,h1,λq nq=>h _ _ (Ex.new nq) (.lst (.inl ⟨aeC,k.fresh nq⟩) ((hc h2).ex (Ex.new nq) k))⟩
 .next ds=>
  obtain⟨p,us,rfl,h1,h2⟩:=dU rx;refine .inr (.inl ⟨p,us,rfl,h1,λz=>?_,λ_ q nq=>h _ _ (Ex.new nq) (.tup (st_of aeC) ((hc h2).ex (Ex.new nq) k))⟩);have e:cutD ds lo hi=ds:=by unfold cutD;rw[<-h2.length,z.1,z.2,h2.length];simp
  rw[e]at h;exact h _ H (Ex.refl H) (.tup h1 h2)
 .obtain⟨hz,h⟩:=h.gG;exact .inr (.inr ⟨_,cU rx,sz_of (aex hz),h _ H (Ex.refl H) (.str _)⟩)
 .exact aev h
section
variable{X:Cx}{aj:aq}{W:WX}{a b:Expr}{fa fb:QF}{pos p2:Pos}
theorem X5(ha:QW aj X W a fa)(hb:QW aj X W b fb)(hs:PlainIx b):QE aj X W (.Subscript a b pos) (aA cH fa fb):=
 PE.weak (pe_ix Zb ha hb hs) λσ H Q h=>vO Xj σ H Q h
theorem PO.weak{X:Cx}{e:Option Expr}{t t':TO}(h:PO X e t)(k:∀σ H Q,t' σ H Q->t σ H Q):PO X e t':=⟨λpins s σ H Q I q=>h.run pins s σ H Q I (k σ H Q q)⟩
theorem Qy:Kl aj X W none Dt:=PO.weak po_none λσ H Q ⟨g,Z,M,I,h⟩=>h H (Ex.refl H)
theorem RM(ha:QW aj X W a fa):Kl aj X W (some a) (rQ fa):=PO.weak (po_some ha) λσ H Q ⟨g,Z,M,I,h⟩=>by
 refine tW.go I h.bnd λd v H1 h1 e1 r1=>?_;have h1:=h1.bnd;unfold lW at h1;split at h1
 .exact⟨_,aN r1,h1 H1 e1⟩
 .exact aev h1
theorem X7{lo hi:Option Expr}{fl fh:QO}(ha:QW aj X W a fa)(hl:Kl aj X W lo fl)(hh:Kl aj X W hi fh):QE aj X W (.Subscript a (.Slice lo hi none p2) pos) (O8 fa fl fh):=
 PE.weak (pe_slice ZK ha hl hh) λσ H Q ⟨g,Z,M,I,h⟩=>by
  refine tW.go I h.bnd λd v H1 h1 e1 r1=>?_;have I1:=I.ex e1;refine⟨g,Z,M,I1,h1.bnd.mono (λl h2 H2 e2=>?_) λ_ z=>z.ex e1⟩;have I2:=I1.ex e2;refine⟨g,Z,M,I2,h2.bnd.mono (λu h3 H3 e3=>?_) λ_ z=>(z.ex e1).ex e2⟩;exact Xk (I2.ex e3).kd ((r1.ex e2 I1.kd).ex e3 I2.kd) (h3.mono (λz hz v' H' e' r'=>hz v' H' (((e1.trans e2).trans e3).trans e') r') λ_ z=>z)
end
def qX(aj:aq)(K:adh)(W:WX)(o:Dat->Out Dat)(r:List V->Hp->VK->Prop):Prop:=∀(σ:L2.St) (g:Gh) (H:Hp) (x:V) (d:Dat) (Q:VK),Kd g H->aW K g H x d->
 (o d).sat (λz=>∀v H',Ex H H'->Rep K g H' v z->Q v H') (gQ K aj W g H σ)->r [x] H Q
def OJ(aj:aq)(K:adh)(W:WX)(o:Dat->Dat->Out Dat)(r:List V->Hp->VK->Prop):Prop:=∀(σ:L2.St) (g:Gh) (H:Hp) (x y:V) (d e:Dat) (Q:VK),Kd g H->aW K g H x d->aW K g H y e->
 (o d e).sat (λz=>∀v H',Ex H H'->Rep K g H' v z->Q v H') (gQ K aj W g H σ)->r [x,y] H Q
def BV(f:Value)(x:Str):Prop:=bootBuiltins x=some f/\x≠"__name__"/\(x==("__debug__" : Str))=false
def nst:Expr->Bool
 |.Starred _ _=>false
 |_=>true
section
variable{X:Cx}{aj:aq}{W:WX}{a b c:Expr}{fa fb fc:QF}{pos p:Pos}{x:Str}
theorem aQ{env:PySem.Env}{a:Expr}(h:nst a=true)(es:List Expr):starEach (a::es) env=(false,eval a env)::starEach es env:=by cases a<;>first | rfl | cases h
theorem star_any{env:PySem.Env}{pos:Pos}:∀(es:List Expr),es.all nst=true->(backTo pos (starEach es env)).any (·.1)=false
 |[],_=>by with_unfolding_all rfl
 |a::es,h=>by
  rw[adI,adi]at h;rw[aQ h.1];have ih:=star_any (env:=env) (pos:=pos) es h.2;unfold backTo at ih |-
  rw[ado,aed,ih];rfl
theorem O5{f:Value}{id:String}{r:List V->Hp->VK->Prop}{o:Dat->Out Dat}(hf:f=.builtin id\/f=.type id)(hc:CallR X f r)(ho:qX aj X.K W o r)(hg:Gl X x)(hm:X.mg x=none)(hv:BV f x)(ha:QW aj X W a fa)(hs:nst a=true):QE aj X W (.Call (.Name x p) [a] [] pos) (gD o fa):=by
 have h1:=pa_cons ha pa_nil (aQ hs []);have key:PE X (.Call (.Name x p) [a] [] pos) (tCB r (tCons (tW X.K aj W fa) tNil)):=by
  rcases hf with rfl|rfl
  .exact pe_callB hc hg hm hv.1 h1 hv.2.1 hv.2.2 (aQ hs []) (by with_unfolding_all rfl)
  .exact pe_callTy hc hg hm hv.1 h1 hv.2.1 hv.2.2 (aQ hs []) (by with_unfolding_all rfl)
 refine PE.weak key λσ H Q ⟨g,Z,M,I,h⟩=>?_;refine tW.go I h.bnd λd v H1 h1 e1 r1=>?_;exact ho σ g H1 v d Q (I.kd.ex e1) r1 (h1.mono (λz hz u H' e' r'=>hz u H' (e1.trans e') r') λ_ z=>z.ex e1)
theorem Xq{f:Value}{id:String}{r:List V->Hp->VK->Prop}{o:Dat->Dat->Out Dat}(hf:f=.builtin id\/f=.type id)(hc:CallR X f r)(ho:OJ aj X.K W o r)(hg:Gl X x)(hm:X.mg x=none)(hv:BV f x)(ha:QW aj X W a fa)(hb:QW aj X W b fb)(hs:nst a=true)(hs2:nst b=true):QE aj X W (.Call (.Name x p) [a,b] [] pos) (aA o fa fb):=by
 have h1:=pa_cons ha (pa_cons hb pa_nil (aQ hs2 [])) (aQ hs [b]);have key:PE X (.Call (.Name x p) [a,b] [] pos) (tCB r (tCons (tW X.K aj W fa) (tCons (tW X.K aj W fb) tNil))):=by
  rcases hf with rfl|rfl
  .exact pe_callB hc hg hm hv.1 h1 hv.2.1 hv.2.2 (aQ hs [b]) (star_any [b] (by simp[hs2]))
  .exact pe_callTy hc hg hm hv.1 h1 hv.2.1 hv.2.2 (aQ hs [b]) (star_any [b] (by simp[hs2]))
 refine PE.weak key λσ H Q ⟨g,Z,M,I,h⟩=>?_;refine tW.go I h.bnd λd v H1 h1 e1 r1=>?_;have I1:=I.ex e1;refine tW.go I1 (h1.bnd.mono (λ_ z=>z) λ_ z=>z.ex e1) λd2 v2 H2 h2 e2 r2=>?_;exact ho σ g H2 v v2 d d2 Q (I1.ex e2).kd (r1.ex e2 I1.kd) r2 (h2.mono (λz hz u H' e' r'=>hz u H' ((e1.trans e2).trans e') r') λ_ z=>(z.ex e1).ex e2)
end
def jD:Dat->Out Dat
 |.list ds=>.ok (.int ds.length)
 |.tuple ds=>.ok (.int ds.length)
 |.str x=>Out.when (decide (x.length<=100000)) (.ok (.int x.length))
 |_=>.bad
def BW:Dat->Out Dat
 |.int i=>.ok (.int (if i<0 then -i else i))
 |_=>.bad
def Am:Dat->Dat->Out Dat
 |.int i,.int j=>.ok (.int (if j>i then j else i))
 |_,_=>.bad
def Ao:Dat->Dat->Out Dat
 |.int i,.int j=>.ok (.int (if j<i then j else i))
 |_,_=>.bad
def intsOf:List Dat->Option (List Int)
 |[]=>some []
 |.int i::r=>(intsOf r).map (i::·)
 |_::_=>none
def nJ:List Dat->Option (List Bool)
 |[]=>some []
 |.bool i::r=>(nJ r).map (i::·)
 |_::_=>none
theorem qP{K:adh}{g:Gh}{H:Hp}:∀{us:List V} {ds:List Dat} {ns:List Int},ao K g H us ds->intsOf ds=some ns->us=ns.map V.int
 |_,_,ns,.nil,e=>by cases e;rfl
 |_,_,ns,.cons (d:=d) (ds:=ds) h t,e=>by
  cases d with
  |int i=>
   rw[intsOf]at e;cases hr:intsOf ds with
   |none=>rw[hr]at e;cases e
   |some r=>
    rw[hr]at e;cases e;cases h;rw[qP t hr];rfl
  |_=>cases e
theorem rJ{K:adh}{g:Gh}{H:Hp}:∀{us:List V} {ds:List Dat} {ns:List Bool},ao K g H us ds->nJ ds=some ns->us=ns.map V.bl
 |_,_,ns,.nil,e=>by cases e;rfl
 |_,_,ns,.cons (d:=d) (ds:=ds) h t,e=>by
  cases d with
  |bool i=>
   rw[nJ]at e;cases hr:nJ ds with
   |none=>rw[hr]at e;cases e
   |some r=>
    rw[hr]at e;cases e;cases h;rw[rJ t hr];rfl
  |_=>cases e
@[simp]theorem wC (ns:List Int):intsOf (ns.map PyData.int)=some ns:=by
 induction ns with
 |nil=>rfl
 |cons n ns ih=>rw[ado,intsOf,ih];rfl
@[simp]theorem YC (ns:List Bool):nJ (ns.map PyData.bool)=some ns:=by
 induction ns with
 |nil=>rfl
 |cons n ns ih=>rw[ado,nJ,ih];rfl
def Lf:Dat->Out Dat
 |.list ds=>match intsOf ds with
  |some ns=>.ok (.int ns.sum)
  |none=>.bad
 |_=>.bad
def oW:Int->List Int->Int
 |m,[]=>m
 |m,n::ns=>oW (if n>m then n else m) ns
theorem zX:∀(ns:List Int) (m:Int),(oW m ns∈m::ns)/\∀y∈m::ns,y<=oW m ns
 |[],m=>⟨by simp[oW],λy h=>by simp at h;subst h;exact Int.le_refl _⟩
 |n::ns,m=>by
  obtain⟨h1,h2⟩:=zX ns (if n>m then n else m);have hm:m<=(if n>m then n else m):=by split<;>omega
  have hn:n<=(if n>m then n else m):=by split<;>omega
  have h3:=h2 _ adn;refine⟨?_,λy hy=>?_⟩
  .show oW (if n>m then n else m) ns∈_;rcases adB.mp h1 with e|e
   .rw[e];split
    .exact adt _ adn
    .exact adn
   .exact adt _ (adt _ e)
  .show y<=oW (if n>m then n else m) ns;rcases adB.mp hy with e|hy
   .omega
   .rcases adB.mp hy with e|hy
    .omega
    .exact h2 y (adt _ hy)
def maxD:Dat->Out Dat
 |.list ds=>match intsOf ds with
  |some (n::ns)=>.ok (.int (oW n ns))
  |_=>.bad
 |_=>.bad
def Le:Dat->Out Dat
 |.list ds=>match nJ ds with
  |some bs=>.ok (.bool (bs.all id))
  |none=>.bad
 |_=>.bad
def Nu:Dat->Out Dat
 |.list ds=>match nJ ds with
  |some bs=>.ok (.bool (bs.any id))
  |none=>.bad
 |_=>.bad
def o7:Dat->Out Dat
 |.list ds=>.ok (.tuple ds)
 |.tuple ds=>.ok (.tuple ds)
 |_=>.bad
def uo:Dat->Out Dat
 |.list ds=>.ok (.list ds)
 |.tuple ds=>.ok (.list ds)
 |_=>.bad
def intD:Dat->Out Dat
 |.int i=>.ok (.int i)
 |.bool k=>.ok (.int (if k then 1 else 0))
 |.str x=>Out.when (decide (x.length<=640)) (match PySem.intText? x with
  |some n=>.ok (.int n)
  |none=>.bad)
 |_=>.bad
def Oi(K:adh):List V->Hp->VK->Prop:=λxs H Q=>(∃p ys,xs=[.ref p]/\(SqL K H p ys\/SqT K H p ys)/\Q (.int ys.length) H)\/∃z,xs=[.str z]/\z.length<=sizeLine/\Q (.int z.length) H
theorem U3{X:Cx}:CallR X (.builtin "len") (Oi X.K):=λpins s σ H xs us Q I r h=>h.elim (λh=>call_len_seq pins s σ H xs us Q I r h) λh=>call_len_str pins s σ H xs us Q I r h
def O9:List V->Hp->VK->Prop:=λxs H Q=>((∃i,xs=[.int i]/\Q (.int i) H)\/∃k,xs=[.bl k]/\Q (.int (if k then 1 else 0)) H)\/∃a n,xs=[.str a]/\PySem.intText? a=some n/\a.length<=640/\Q (.int n) H
theorem R5{X:Cx}:CallR X (.type "int") O9:=λpins s σ H xs us Q I r h=>h.elim (λh=>call_int1 pins s σ H xs us Q I r h) λh=>call_int_str pins s σ H xs us Q I r h
section
variable{K:adh}{aj:aq}{W:WX}
theorem Wc:qX aj K W jD (Oi K):=λσ g H x d Q k rx h=>by
 unfold jD at h;split at h
 .obtain⟨p,us,rfl,h1,h2⟩:=bZ rx;rw[<-h2.length]at h;exact .inl ⟨p,us,rfl,.inl h1,h _ H (Ex.refl H) (.int _)⟩
 .obtain⟨p,us,rfl,h1,h2⟩:=dU rx;rw[<-h2.length]at h;exact .inl ⟨p,us,rfl,.inr h1,h _ H (Ex.refl H) (.int _)⟩
 .obtain⟨hz,h⟩:=h.gG;cases cU rx;exact .inr ⟨_,rfl,sz_of (aex hz),h _ H (Ex.refl H) (.int _)⟩
 .exact aev h
theorem Uo:qX aj K W BW (λxs H Q=>∃i,xs=[.int i]/\Q (.int (if i<0 then -i else i)) H):=λσ g H x d Q k rx h=>by
 unfold BW at h;split at h
 .cases aN rx;exact⟨_,rfl,h _ H (Ex.refl H) (.int _)⟩
 .exact aev h
theorem Ro:OJ aj K W Am (λxs H Q=>∃i j,xs=[.int i,.int j]/\Q (.int (if j>i then j else i)) H):=λσ g H x y d e Q k rx ry h=>by
 unfold Am at h;split at h
 .cases aN rx;cases aN ry;exact⟨_,_,rfl,h _ H (Ex.refl H) (.int _)⟩
 .exact aev h
theorem Qh:OJ aj K W Ao (λxs H Q=>∃i j,xs=[.int i,.int j]/\Q (.int (if j<i then j else i)) H):=λσ g H x y d e Q k rx ry h=>by
 unfold Ao at h;split at h
 .cases aN rx;cases aN ry;exact⟨_,_,rfl,h _ H (Ex.refl H) (.int _)⟩
 .exact aev h
theorem V3:qX aj K W Lf (rSum K):=λσ g H x d Q k rx h=>by
 unfold Lf at h;split at h
 .split at h
  .next ns e=>
   obtain⟨p,us,rfl,h1,h2⟩:=bZ rx;have:=qP h2 e;subst this;exact⟨p,ns,rfl,h1,h _ H (Ex.refl H) (.int _)⟩
  .exact aev h
 .exact aev h
theorem WK:qX aj K W maxD (rMax K):=λσ g H x d Q k rx h=>by
 unfold maxD at h;split at h
 .split at h
  .next n ns e=>
   obtain⟨p,us,rfl,h1,h2⟩:=bZ rx;have:=qP h2 e;subst this;obtain⟨m1,m2⟩:=zX ns n;refine⟨p,n::ns,rfl,h1,by simp,λm hm hy=>?_⟩;have e2:m=oW n ns:=Int.le_antisymm (m2 m hm) (hy _ m1);rw[e2];exact h _ H (Ex.refl H) (.int _)
  .exact aev h
 .exact aev h
theorem S9:qX aj K W Le (rAll K):=λσ g H x d Q k rx h=>by
 unfold Le at h;split at h
 .split at h
  .next ns e=>
   obtain⟨p,us,rfl,h1,h2⟩:=bZ rx;have:=rJ h2 e;subst this;exact⟨p,ns,rfl,h1,h _ H (Ex.refl H) (.bl _)⟩
  .exact aev h
 .exact aev h
theorem Vq:qX aj K W Nu (rAny K):=λσ g H x d Q k rx h=>by
 unfold Nu at h;split at h
 .split at h
  .next ns e=>
   obtain⟨p,us,rfl,h1,h2⟩:=bZ rx;have:=rJ h2 e;subst this;exact⟨p,ns,rfl,h1,h _ H (Ex.refl H) (.bl _)⟩
  .exact aev h
 .exact aev h
theorem Od:qX aj K W o7 (λxs H Q=>∃p ys,xs=[.ref p]/\((SqL K H p ys/\∀l,H l=none->Q (.ref l) (upd H l (.tup ys)))\/(SqT K H p ys/\Q (.ref p) H))):=λσ g H x d Q k rx h=>by
 unfold o7 at h;split at h
 .obtain⟨p,us,rfl,h1,h2⟩:=bZ rx;exact⟨p,us,rfl,.inl ⟨h1,λl nl=>h _ _ (Ex.new nl) (.tup (st_of aeC) (h2.ex (Ex.new nl) k))⟩⟩
 .obtain⟨p,us,rfl,h1,h2⟩:=dU rx;exact⟨p,us,rfl,.inr ⟨h1,h _ H (Ex.refl H) (.tup h1 h2)⟩⟩
 .exact aev h
theorem RJ:qX aj K W uo (λxs H Q=>∃p ys,xs=[.ref p]/\(SqL K H p ys\/SqT K H p ys)/\∀l,H l=none->Q (.ref l) (upd H l (.lst ys))):=λσ g H x d Q k rx h=>by
 unfold uo at h;split at h
 .obtain⟨p,us,rfl,h1,h2⟩:=bZ rx;exact⟨p,us,rfl,.inl h1,λl nl=>h _ _ (Ex.new nl) (.lst (.inl ⟨aeC,k.fresh nl⟩) (h2.ex (Ex.new nl) k))⟩
 .obtain⟨p,us,rfl,h1,h2⟩:=dU rx;exact⟨p,us,rfl,.inr h1,λl nl=>h _ _ (Ex.new nl) (.lst (.inl ⟨aeC,k.fresh nl⟩) (h2.ex (Ex.new nl) k))⟩
 .exact aev h
theorem Wy:qX aj K W intD O9:=λσ g H x d Q k rx h=>by
 unfold intD at h;split at h
 .cases aN rx;exact .inl (.inl ⟨_,rfl,h _ H (Ex.refl H) (.int _)⟩)
 .cases oA rx;exact .inl (.inr ⟨_,rfl,h _ H (Ex.refl H) (.int _)⟩)
 .obtain⟨hz,h⟩:=h.gG;split at h
  .next n e=>
   cases cU rx;exact .inr ⟨_,n,rfl,e,aex hz,h _ H (Ex.refl H) (.int _)⟩
  .exact aev h
 .exact aev h
end
inductive tG where
 |int|bool|str|tuple|list
def tG.name:tG->String
 |.int=>"int"
 |.bool=>"bool"
 |.str=>"str"
 |.tuple=>"tuple"
 |.list=>"list"
def ql(t:tG):Dat->Option Bool
 |.none=>some false
 |.int _=>some (match t with
  |.int=>true
  |_=>false)
 |.bool _=>some (match t with
  |.int=>true
  |.bool=>true
  |_=>false)
 |.str _=>some (match t with
  |.str=>true
  |_=>false)
 |.tuple _=>some (match t with
  |.tuple=>true
  |_=>false)
 |.list _=>some (match t with
  |.list=>true
  |_=>false)
 |.dict _=>none
def mj(t:tG)(d:Dat):Out Dat:=match ql t d with
 |some b=>.ok (.bool b)
 |none=>.bad
def Nh:Dat->String
 |.none=>"NoneType"
 |.int _=>"int"
 |.bool _=>"bool"
 |.str _=>"str"
 |.tuple _=>"tuple"
 |.list _=>"list"
 |.dict _=>"dict"
theorem Ux{K:adh}{H:Hp}{a:Addr}{xs:List V}(h:SqL K H a xs):TyX K H (.ref a) (.type "list"):=by
 rcases h with(h|⟨o,h⟩)|⟨o,its,n,h1,h2,_⟩
 .exact .base (.lst h)
 .exact .base (.frz h)
 .exact .kList h1 h2
theorem Vc{K:adh}{H:Hp}{a:Addr}{xs:List V}(h:SqT K H a xs):TyX K H (.ref a) (.type "tuple"):=by
 rcases h with(h|⟨o,h⟩)|⟨o,its,n,h1,h2,_⟩
 .exact .base (.tup h)
 .exact .fTuple h
 .exact .kTuple h1 h2
theorem XS{K:adh}{g:Gh}{H:Hp}{x:V}{d:Dat}(h:aW K g H x d)(hd:∀kv,d≠.dict kv):TyX K H x (.type (Nh d)):=by
 cases d with
 |none=>cases pq h;exact .base .non
 |bool b=>cases oA h;exact .base (.bl _)
 |int b=>cases aN h;exact .base (.int _)
 |str b=>cases cU h;exact .base (.str _)
 |list b=>obtain⟨a,us,rfl,h1,_⟩:=bZ h;exact Ux h1
 |tuple b=>obtain⟨a,us,rfl,h1,_⟩:=dU h;exact Vc h1
 |dict kv=>exact absurd rfl (hd kv)
theorem Ra{K:adh}{t:tG}{d:Dat}{b:Bool}(h:ql t d=some b):PySem.W.kitOne K (.type (Nh d)) (.type t.name)=some b/\∀kv,d≠.dict kv:=by
 cases d with
 |dict kv=>cases h
 |_=>cases t<;>cases h<;>exact⟨kit_ty (by dsimp only[Nh,tG.name];decide +kernel),λ_ z=>nomatch z⟩
def kZ(t:tG)(a:QF):QF:=gD (mj t) a
section
variable{X:Cx}{aj:aq}{W:WX}{a b:Expr}{fa:QF}{pos p p2:Pos}{x y:Str}
theorem SJ{t:tG}(hg:Gl X x)(hm:X.mg x=none)(hv:BV (.builtin "isinstance") x)(hg2:Gl X y)(hm2:X.mg y=none)(hv2:BV (.type t.name) y)(ha:QW aj X W a fa)(hs:nst a=true):QE aj X W (.Call (.Name x p) [a,.Name y p2] [] pos) (kZ t fa):=by
 have hb:PE X (.Name y p2) (tC (.ty t.name)):=pe_bltn hg2 hm2 hv2.1 rfl hv2.2.1 hv2.2.2;have h1:=pa_cons ha (pa_cons hb pa_nil (aQ (a:=.Name y p2) rfl [])) (aQ hs [.Name y p2]);have key:=pe_callB (pos:=pos) (p:=p) call_isi hg hm hv.1 h1 hv.2.1 hv.2.2 (aQ hs [.Name y p2]) (star_any [.Name y p2] rfl);refine PE.weak key λσ H Q ⟨g,Z,M,I,h⟩=>?_;refine tW.go I h.bnd λd v H1 h1 e1 r1=>?_;unfold mj at h1;split at h1
 .next bb e=>
  obtain⟨k1,k2⟩:=Ra (K:=X.K) e;exact⟨v,_,_,_,bb,rfl,.ty _,XS r1 k2,k1,h1 _ H1 e1 (.bl _)⟩
 .exact aev h1
end
inductive Src where
 |lst (a:Addr)|tup (a:Addr)|str (x:Str)
def chars(x:Str):List V:=x.cps.toList.map λc=>V.str ⟨#[c]⟩
def Src.sq(K:adh)(H:Hp)(us:List V):Src->Prop
 |.lst a=>SqL K H a us
 |.tup a=>SqT K H a us
 |.str x=>us=chars x
def Src.it(h:Heap)(i:Addr)(n:Nat):Src->Prop
 |.lst a=>h.IsListIter i a n
 |.tup a=>h.IsTupleIter i a n
 |.str x=>∃t,h.IsStrIter i (strIterType x) x t n
def Src.ad:Src->List Addr
 |.lst a=>[a]
 |.tup a=>[a]
 |.str _=>[]
section
variable{X:Cx}{pins:List (Addr×Obj)}{σ:L2.St}{H:Hp}{s:Shared}
theorem Src.inj{S:Src}{us ws:List V}(I:L2.Inv X pins σ H s)(h:S.sq X.K H us)(h':S.sq X.K H ws):us=ws:=by
 cases S with
 |lst a=>exact I.list_inj h h'
 |tup a=>exact I.tuple_inj h h'
 |str x=>exact Eq.trans h (Eq.symm h')
theorem Src.draws{S:Src}{us:List V}{i:Addr}{n:Nat}(I:L2.Inv X pins σ H s)(hA:X.A.handled=none)(hs:S.sq X.K H us)(hi:S.it s.heap i n)(hne:∀a∈S.ad,a≠i) :
  ∃(P:Nat->Value->Prop) (St:Nat->Heap->Prop),Draws X.prog X.w X.A.in1 i (i::S.ad) us.length P St/\St n s.heap/\(∀m h,St m h->S.it h i m)/\∀(m:Nat) (v:Value) (x:V),P m v->us[m]?=some x->RelV x v:=by
 cases S with
 |lst a=>
  obtain⟨its,rv,p,hz⟩:=I.list hs;have hl:=rv.length;have D:=Draws.list (prog:=X.prog) (w:=X.w) (A:=X.A.in1) hA i a (hne a (by simp[Src.ad])) its.toArray;rw[aef,<-hl]at D;refine⟨_,_,D,⟨hi,p.isList⟩,λm h z=>z.1,λm v x hv hx=>?_⟩;obtain⟨u,hu,ru⟩:=rv.get hx;have:v=u:=adx (hv.symm.trans (by simpa using hu));rw[this];exact ru
 |tup a=>
  obtain⟨its,rv,p,hz⟩:=I.tuple hs;have hl:=rv.length;have D:=Draws.tuple (prog:=X.prog) (w:=X.w) (A:=X.A.in1) hA i a (hne a (by simp[Src.ad])) its.toArray;rw[aef,<-hl]at D;refine⟨_,_,D,⟨hi,p⟩,λm h z=>z.1,λm v x hv hx=>?_⟩;obtain⟨u,hu,ru⟩:=rv.get hx;have:v=u:=adx (hv.symm.trans (by simpa using hu));rw[this];exact ru
 |str x=>
  obtain⟨t,hi⟩:=hi;have hl:us.length=x.cps.size:=by rw[show us=chars x from hs];unfold chars;rw[adp,adP]
  have D:=Draws.text (prog:=X.prog) (w:=X.w) (A:=X.A.in1) hA i x t;rw[<-hl]at D;refine⟨_,_,D,hi,λm h z=>⟨t,z⟩,λm v y hv hy=>?_⟩;obtain⟨c,u,hc,rfl⟩:=hv;rw[show us=chars x from hs]at hy;unfold chars at hy;rw[adw,adT,hc]at hy;cases hy;exact⟨u,rfl⟩
theorem Src.ug{S:Src}{h:Heap}{i:Addr}{n:Nat}(hi:S.it h i n):∃o,h.get? i=some o/\∀v,o.data≠.cell v:=by
 cases S with
 |lst a=>obtain⟨o,e,_,d⟩:=hi;exact⟨o,e,λv q=>by rw[d]at q;cases q⟩
 |tup a=>obtain⟨o,e,_,d⟩:=hi;exact⟨o,e,λv q=>by rw[d]at q;cases q⟩
 |str x=>obtain⟨t,o,e,_,d⟩:=hi;exact⟨o,e,λv q=>by rw[d]at q;cases q⟩
theorem Src.uJ{S:Src}{h h':Heap}{i:Addr}{n:Nat}(hi:S.it h i n)(k:∀o,h.get? i=some o->h'.get? i=some o):S.it h' i n:=by
 cases S with
 |lst a=>exact hi.at k
 |tup a=>exact hi.at k
 |str x=>obtain⟨t,o,e,r⟩:=hi;exact⟨t,o,k o e,r⟩
end
def ItE(K:adh)(S:Src)(k₀:Int):It:=
 ⟨λi H=>∃(us:List V) (x:V),S.sq K H us/\us[i]?=some x,λi H v H'=>∃T x,v=.ref T/\H T=none/\H'=upd H T (.tup [.int (k₀+(i:Int)),x])/\∀us,S.sq K H us->us[i]?=some x,λi H=>∃us:List V,S.sq K H us/\us.length=i⟩
theorem W6{P:Program}{w:World}{K:adh}{elts:List Expr}{kk:Nat}{tpos:Pos}(S:Src)(e i0:Addr)(k₀:Int)(hne:e≠i0)(ha:∀a∈S.ad,e≠a/\a≠i0) :
  Turn P w K (.Tuple elts kk tpos) (ItE K S k₀) [e,i0] e (λi h=>(∃old,IsEnum h e i0 (k₀+(i:Int)) old)/\S.it h i0 i) where
 mem:=by simp
 obj:=λi h st b hb=>by
  obtain⟨⟨old,he⟩,hi⟩:=st;have e':b=e\/b=i0:=by simpa using hb
  rcases e' with z|z
  .rw[z];exact⟨_,he,λv q=>nomatch q⟩
  .rw[z];exact Src.ug hi
 keep:=λi h h' st k=>let⟨⟨old,he⟩,hi⟩:=st;⟨⟨old,k e (by simp) _ he⟩,Src.uJ hi λo q=>k i0 (by simp) o q⟩
 item:=by
  intro X hP hw hK hc i pins s σ H E I hf st hg;subst hP hw hK;obtain⟨⟨old,he⟩,hit⟩:=st;obtain⟨us,x,hq,hx⟩:=hg;obtain⟨PP,St,D,st0,stI,rel⟩:=Src.draws I (I.ok.hd hc) hq hit λa z=>(ha a z).2;have hel:e<s.heap.objs.size:=Heap.lt_size he;have hil:i0<s.heap.objs.size:=by obtain⟨_,q,_⟩:=Src.ug hit;exact Heap.lt_size q
  have hin:i<us.length:=(adk.mp hx).1;refine wpAny_pyNext_enum_itemC D he st0 hin hne (λz=>?_) λv h' tk hP ho hst' hT hsz hk=>?_
  .rcases adB.mp z with z|z
   .exact hne z
   .exact(ha e z).1 rfl
  have ru:=rel i v x hP hx;refine⟨_,rfl,wpAny_letOwnedTupleGo_enum (s:={ s with heap:=h',toks:=tk+1 }) ho λh'' he' sb=>?_⟩;have hT2:h''.get? s.heap.objs.size=some { cls:=.type "tuple",data:=.seq #[.int (k₀+(i:Int)) tk,v] }:=(sb.2 _ (Nat.ne_of_gt hel)).trans hT
  have new:ObjOk X.prog X.w (upd H s.heap.objs.size (.tup [.int (k₀+(i:Int)),x])) h'' s.heap.objs.size (.tup [.int (k₀+(i:Int)),x]):=
   ⟨by show 2<=sizeLine;decide,[.int (k₀+(i:Int)) tk,v],.cons ⟨_,rfl⟩ (.cons ru .nil),⟨_,hT2,rfl,_,rfl⟩⟩
  have I1:L2.Inv X pins σ (upd H s.heap.objs.size (.tup [.int (k₀+(i:Int)),x])) { s with heap:=h'',toks:=tk+1 }:=
   I.turnedNew (ch:=[e,i0]) (λb ob hb q=>(sb.2 b (λz=>hb (by simp[z]))).trans (hk b ob (λz=>hb (by simp[z])) (λz=>hb (by simp[z])) q)) hf (adE _) new
  refine⟨.ref s.heap.objs.size,_,I1,rfl,⟨_,x,rfl,I.hok.fresh (adE _),rfl,λys hy=>by rw[Src.inj I hy hq];exact hx⟩,⟨⟨v,?_⟩,Src.uJ (stI _ _ hst') λo q=>(sb.2 i0 (Ne.symm hne)).trans q⟩,λb hb=>?_⟩
  .have e1:k₀+((i+1:Nat):Int)=k₀+(i:Int)+1:=by omega
   rw[e1];exact he'
  .have hb':b<s.heap.objs.size:=by
    have e':b=e\/b=i0:=by simpa using hb
    rcases e' with z|z
    .rw[z];exact hel
    .rw[z];exact hil
   rw[upd_ne (adK hb')];exact(hf b hb).1
 done:=by intro X hP hw hK hc i pins s σ H E I hf st hg;subst hP hw hK;obtain⟨⟨old,he⟩,hit⟩:=st;obtain⟨us,hq,hx⟩:=hg;obtain⟨PP,St,D,st0,stI,rel⟩:=Src.draws I (I.ok.hd hc) hq hit λa z=>(ha a z).2;obtain⟨f0,f1,f2,f3,f4,f5⟩:=hf i0 (by simp);rw[<-hx]at st0;exact wpAny_pyNext_enum_endD D he st0 λh' eb=>⟨rfl,I.turned (t':=s.toks) (λb o hb q=>eb b o hb q) f0 f1 f3 f4 f5⟩
 self:=λA i s Q E st h=>let⟨⟨_,he⟩,_⟩:=st;wpAny_pyIter_enum he h
theorem Src.begins{X:Cx}{pins:List (Addr×Obj)}{σ:L2.St}{H:Hp}{s:Shared}{S:Src}{us:List V}{x:V}{v:Value}(I:L2.Inv X pins σ H s)(hs:S.sq X.K H us)(hx:(∃a,x=.ref a/\S.ad=[a]/\(S=.lst a\/S=.tup a))\/∃y,S=.str y/\x=.str y)(r:RelV x v) :
  ∃(o:Obj) (B:Heap->Prop),Begins v o B/\B s.heap/\(∀h i,h.get? i=some o->S.it h i 0)/\∀a∈S.ad,a<s.heap.objs.size:=by
 rcases hx with⟨a,rfl,ha,h|h⟩|⟨y,h,rfl⟩
 .subst h;cases r;obtain⟨its,rv,p,_⟩:=I.list hs;obtain⟨o1,ho1,_⟩:=id p.isList;refine⟨_,_,begins_list a its.toArray,p.isList,λh i e=>⟨_,e,rfl,rfl⟩,λb hb=>?_⟩;rw[ha]at hb;rw[adF.mp hb];exact Heap.lt_size ho1
 .subst h;cases r;obtain⟨its,rv,p,_⟩:=I.tuple hs;obtain⟨o1,ho1,_⟩:=id p;refine⟨_,_,begins_tuple a its.toArray,p,λh i e=>⟨_,e,rfl,rfl⟩,λb hb=>?_⟩;rw[ha]at hb;rw[adF.mp hb];exact Heap.lt_size ho1
 .subst h;obtain⟨t,rfl⟩:=r;exact⟨_,_,begins_text y t,aeu,λh i e=>⟨t,_,e,rfl,rfl⟩,λb hb=>nomatch hb⟩
def srcOf(x:V)(S:Src):Prop:=(∃a,x=.ref a/\S.ad=[a]/\(S=.lst a\/S=.tup a))\/∃y,S=.str y/\x=.str y
def R3(K:adh)(ta:TA)(k₀:Int):TI:=λσ H R=>ta σ H λvs H1=>∃x S us,vs=[x]/\srcOf x S/\S.sq K H1 us/\R (ItE K S k₀) H1
section
variable{X:Cx}{a b:Expr}{ta tb:TA}{p pos tpos:Pos}{elts:List Expr}{kk:Nat}
theorem Vd{pins:List (Addr×Obj)}{σ:L2.St}{H:Hp}{s:Shared}(I:L2.Inv X pins σ H s):∀b∈[s.heap.objs.size+1,s.heap.objs.size],FpOk X pins H b:=λb hb=>by
 have e':b=s.heap.objs.size+1\/b=s.heap.objs.size:=by simpa using hb
 have hle:s.heap.objs.size<=b:=by
  rcases e' with z|z
  .rw[z];exact Nat.le_add_right _ _
  .rw[z];exact adE _
 exact I.fpOk hle (I.hok.fresh hle)
theorem O7{pins:List (Addr×Obj)}{σ:L2.St}{H:Hp}{s:Shared}{S:Src}{us:List V}{x:V}{v:Value}{o:Obj}{k₀:Int}{R:It->Hp->Prop}{h':Heap}(I:L2.Inv X pins σ H s)(hlt:∀a∈S.ad,a<s.heap.objs.size)(hit:∀h i,h.get? i=some o->S.it h i 0)
  (he:IsEnum h' (s.heap.objs.size+1) s.heap.objs.size k₀ .none) (ho:h'.get? s.heap.objs.size=some o) (hk:∀b o,s.heap.get? b=some o->h'.get? b=some o) (q:R (ItE X.K S k₀) H) :
  wpAny (model X.prog X.w) X.A (pyIter (.ref (s.heap.objs.size+1))) (PIE X pins σ (.Tuple elts kk tpos) R) X.xe { s with heap:=h' }:=by
 refine wpAny_pyIter_enum he ?_;have I2:L2.Inv X pins σ H { s with heap:=h' }:=I.kept (t':=s.toks) hk;refine⟨s.heap.objs.size+1,[s.heap.objs.size+1,s.heap.objs.size],_,_,H,rfl,I2,W6 S (s.heap.objs.size+1) s.heap.objs.size k₀ (Nat.succ_ne_self _) (λa z=>?_),⟨⟨.none,?_⟩,hit _ _ ho⟩,Vd I,q⟩
 .have:=hlt a z;exact⟨Nat.ne_of_gt (ad8 this),adK this⟩
 .rw[show k₀+((0:Nat):Int)=k₀ by simp];exact he
theorem NK{v:Value}{o:Obj}{B:Heap->Prop}(hB:Begins v o B) :
  Meets (Builtin.«enumerate.__new__» ⟨[.type "enumerate",v],[]⟩) (λ_ R s=>B s.heap/\
   R (.ok (.ret (.ref (s.heap.push o).objs.size))) { s with heap:=(s.heap.push o).push { cls:=.type "enumerate",data:=.fields #[.none,.bool false,.ref s.heap.objs.size,rawInt 0,.none,.none] } }):=
 .of_wp λprog w A R s hh=>by
  obtain⟨hp,gs,dr,tk,os⟩:=s;obtain⟨hb,hr⟩:=hh;have hsub:=sub_enumerate;have qi:∀{A':Around} {E:Value->Shared->Prop} {Q:Value->Shared->Prop},Q (.ref hp.objs.size) ⟨hp.push o,gs,dr,tk,os⟩->wpAny (model prog w) A' (pyIter v) Q E ⟨hp,gs,dr,tk,os⟩:=λz=>hB.iter prog w _ _ ⟨hp,gs,dr,tk,os⟩ _ hb z
  wp_walk using qi
  refine wpAny_stack_any λst=>aez ?_;split
  .next c _ _ _ _ _=>
   cases(c==Value.type "enumerate")<;>(wp_walk using qi;exact⟨_,rfl,hr⟩)
  .wp_walk using qi
   exact⟨_,rfl,hr⟩
theorem JB{prog:Program}{w:World}{A:Around}{E:Value->Shared->Prop}{s:Shared}{v:Value}{o:Obj}{B:Heap->Prop}{Q:Value->Shared->Prop}(hB:Begins v o B)(hb:B s.heap)
  (h:∀h',IsEnum h' (s.heap.objs.size+1) s.heap.objs.size 0 .none->h'.get? s.heap.objs.size=some o->(∀b o,s.heap.get? b=some o->h'.get? b=some o)->Q (.ref (s.heap.objs.size+1)) { s with heap:=h' }) :
  wpAny (model prog w) A (call (.type "enumerate") [v]) Q E s:=by
 refine callType_new F.called_enumerate (by decide) (F.typeCall_enumerate_1 _) (F.newCall_enumerate_1 _) (λob=>F.args_object_init_2 ob _) F.entry_enumerate_new (NK hB) ⟨hb,?_⟩;have hz:(s.heap.push o).objs.size=s.heap.objs.size+1:=Heap.size_push ..;have he:=Heap.get?_push_size (s.heap.push o) (o:={ cls:=.type "enumerate",data:=.fields #[.none,.bool false,.ref s.heap.objs.size,rawInt 0,.none,.none] }) rfl
 show _/\_;rw[hz]at he |-
 exact⟨⟨_,he,rfl⟩,h _ he (Heap.get?_push_of_some _ (Heap.get?_push_size _ hB.free)) λb u z=>Heap.get?_push_of_some _ (Heap.get?_push_of_some _ z)⟩
theorem XJ(hg:Gl X "enumerate")(hm:X.mg "enumerate"=none)(ha:PA X [a] ta)(hs:nst a=true):PI X (.Tuple elts kk tpos) (.Call (.Name "enumerate" p) [a] [] pos) (R3 X.K ta 0):=by refine⟨λpins s σ H R I h=>?_⟩;refine Call_ (ld_blt I hg hm boot_enumerate (PyProof.Rows.callWith_type1 (thn (ha.run pos pins s σ H _ I h) λus s1 ⟨vs,H1,I1,r1,x,S,us',ev,hx,hq,q⟩=>?_) (aQ hs []) (by with_unfolding_all rfl)));subst ev;obtain⟨v,rfl,r⟩:=vals1 r1;obtain⟨o,B,hB,hb,hit,hlt⟩:=Src.begins I1 hq hx r;exact JB hB hb λh' he ho hk=>O7 (x:=x) (v:=v) (us:=us') I1 hlt hit he ho hk q
theorem JV{M:Model}{A:Around}{E:Value->Shared->Prop}{s:Shared}{pos:Pos}{T:String}{args:List (Bool×Sem Value)}{kws:List (Option Str×Sem Value)}{Q:Value->Shared->Prop}(h1:args.any (·.1)=false)(h2:kws.any (·.1.isNone)=false)
  (h:wpAny M A (evalArgs (.type T) true args kws) (λz s₁=>wpAny M A (call (.type T) z.pos z.kw) Q E s₁) E s):wpAny M A (callWith pos (.type T) [] args kws) Q E s:=by
 unfold callWith;refine aey (wpAny_holding (wpAny_mono h (λz s₁ hz=>aey (wpAny_standAt ?_)) λ_ _ y=>y));rw[h1,h2];refine aey (aez ?_);exact aey (wpAny_mono hz (λr s₂ hr=>aey (wpAny_holding (wpAny_point (aez hr)))) λ_ _ y=>y)
theorem UG{k₀:Int}{j:Nat}{kp kp2:Pos}(hk0 : -(2^63)<=k₀)(hk1:k₀<2^63)(hg:Gl X "enumerate")(hm:X.mg "enumerate"=none)(ha:PA X [a] ta)(hs:nst a=true) :
  PI X (.Tuple elts kk tpos) (.Call (.Name "enumerate" p) [a] [⟨some "start",.Constant (.int k₀) j kp,kp2⟩] pos) (R3 X.K ta k₀):=by
 refine⟨λpins s σ H R I h=>?_⟩;have hpk:PK X [⟨some "start",.Constant (.int k₀) j kp,kp2⟩] (tCons (tC (.int k₀)) tNil):=pk_cons pe_int pk_nil
 refine wpAny_Call_Name_kw (ld_blt I hg hm boot_enumerate (JV (star_any [a] (by simp[hs])) (by with_unfolding_all rfl) ?_));refine PyProof.Rows.evalArgs_kw2 (by with_unfolding_all rfl) (thn (ha.run pos pins s σ H _ I h) λus s1 ⟨vs,H1,I1,r1,x,S,us',ev,hx,hq,q⟩=>?_) (by first | (rw[aQ hs];done) | (rw[aQ hs];rfl) | rw[aQ hs]);refine thn (hpk.run pos pins s1 σ H1 (λzs H2=>zs=[.int k₀]/\H2=H1) I1 ⟨rfl,rfl⟩) λws s2 ⟨zs,H2,I2,r2,e1,e2⟩=>?_;subst ev e1 e2;obtain⟨v,rfl,r⟩:=vals1 r1;obtain⟨w,rfl,t,rfl⟩:=vals1 r2;obtain⟨o,B,hB,hb,hit,hlt⟩:=Src.begins I2 hq hx r;exact enum_begins_start hB hb hk0 hk1 λh' he ho _ hk=>O7 (x:=x) (v:=v) (us:=us') I2 hlt hit he ho hk q
def Ws(K:adh)(S T:Src):It:=
 ⟨λi H=>∃(us ws:List V) (x y:V),S.sq K H us/\T.sq K H ws/\us[i]?=some x/\ws[i]?=some y,λi H v H'=>∃U x y,v=.ref U/\H U=none/\H'=upd H U (.tup [x,y])/\(∀us,S.sq K H us->us[i]?=some x)/\∀ws,T.sq K H ws->ws[i]?=some y,
  λi H=>∃us ws:List V,S.sq K H us/\T.sq K H ws/\i=min us.length ws.length⟩
theorem Yi{P:Program}{w:World}{K:adh}{S T:Src}{N:Addr}(h1:∀a∈S.ad,a<N)(h2:∀a∈T.ad,a<N) :
  Turn P w K (.Tuple elts kk tpos) (Ws K S T) [N+4,N+2,N+3,N,N+1] (N+4) (λn h=>IsZip h (N+4) (N+2) (N+3) .none/\IsPair h (N+2) (.ref N) (.ref (N+1))/\(∃x y,IsPair h (N+3) x y)/\S.it h N n/\T.it h (N+1) n) where
 mem:=by simp
 obj:=λn h q c hc=>by
  obtain⟨gz,gI,⟨x,y,gO⟩,i1,i2⟩:=q;simp only[adB,adM,or_false]at hc;rcases hc with rfl|rfl|rfl|rfl|rfl
  .exact⟨_,gz,λv q=>nomatch q⟩
  .exact⟨_,gI,λv q=>nomatch q⟩
  .exact⟨_,gO,λv q=>nomatch q⟩
  .exact Src.ug i1
  .exact Src.ug i2
 keep:=λn h h' q k=>by
  obtain⟨gz,gI,⟨x,y,gO⟩,i1,i2⟩:=q;exact⟨k _ (by simp) _ gz,k _ (by simp) _ gI,⟨x,y,k _ (by simp) _ gO⟩,Src.uJ i1 λo e=>k _ (by simp) o e,Src.uJ i2 λo e=>k _ (by simp) o e⟩
 item:=by
  intro X hP hw hK hc n pins s σ H E I hf q hg;subst hP hw hK;obtain⟨gz,gI,⟨x0,y0,gO⟩,i1,i2⟩:=q;obtain⟨us,ws,x,y,qx,qy,hx,hy⟩:=hg;obtain⟨P1,St1,D1,st1,b1,rel1⟩:=Src.draws I (I.ok.hd hc) qx i1 λa z=>adK (h1 a z);obtain⟨P2,St2,D2,st2,b2,rel2⟩:=Src.draws I (I.ok.hd hc) qy i2 λa z=>adK (ad8 (h2 a z));have hzl:N+4<s.heap.objs.size:=Heap.lt_size gz;refine wpAny_pyNext_zipD2_item (zip_sep2 h1 h2) D1 D2 gz gI gO st1 st2 (adk.mp hx).1 (adk.mp hy).1 λv1 v2 h' tk p1 p2 z' o' s1 s2 hT hsz hk=>?_;refine⟨_,rfl,wpAny_letOwnedTupleGo_zip (s:={ s with heap:=h',toks:=tk }) z' λh'' z'' sb=>?_⟩;have hT2:=(sb.2 _ (Nat.ne_of_gt hzl)).trans hT;have new:ObjOk X.prog X.w (upd H s.heap.objs.size (.tup [x,y])) h'' s.heap.objs.size (.tup [x,y]):=⟨by show 2<=sizeLine;decide,[v1,v2],.cons (rel1 n v1 x p1 hx) (.cons (rel2 n v2 y p2 hy) .nil),⟨_,hT2,rfl,_,rfl⟩⟩;have I1:L2.Inv X pins σ (upd H s.heap.objs.size (.tup [x,y])) { s with heap:=h'',toks:=tk }:=by refine I.turnedNew (t':=tk) (ch:=[N+4,N+2,N+3,N,N+1]) (λc o hb e=>?_) hf (adE _) new;simp only[adB,adM,or_false,not_or]at hb;exact(sb.2 c hb.1).trans (hk c o hb.1 hb.2.2.1 hb.2.2.2.1 hb.2.2.2.2 e)
  have ne4:∀k,k≠4->N+k≠N+4:=λk hk z=>hk (ael z);refine⟨.ref s.heap.objs.size,_,I1,rfl,⟨_,x,y,rfl,I.hok.fresh (adE _),rfl,λl hl=>by rw[Src.inj I hl qx];exact hx,λl hl=>by rw[Src.inj I hl qy];exact hy⟩,⟨z'',?_,⟨v1,v2,?_⟩,?_,?_⟩,λc hcm=>?_⟩
  .exact(sb.2 _ (ne4 2 (by decide))).trans (hk _ _ (ne4 2 (by decide)) (λz=>absurd (ael z) (by decide)) (λz=>absurd (ael (z.trans (Nat.add_zero N).symm)) (by decide)) (λz=>absurd (ael z) (by decide)) gI)
  .exact(sb.2 _ (ne4 3 (by decide))).trans o'
  .exact Src.uJ (b1 _ _ s1) λo e=>(sb.2 _ (ne4 0 (by decide))).trans e
  .exact Src.uJ (b2 _ _ s2) λo e=>(sb.2 _ (ne4 1 (by decide))).trans e
  .have hlt:c<s.heap.objs.size:=by
    simp only[adB,adM,or_false]at hcm;rcases hcm with rfl|rfl|rfl|rfl|rfl
    .exact hzl
    .exact Heap.lt_size gI
    .exact Heap.lt_size gO
    .obtain⟨_,e1,_⟩:=Src.ug i1;exact Heap.lt_size e1
    .obtain⟨_,e2,_⟩:=Src.ug i2;exact Heap.lt_size e2
   rw[upd_ne (adK hlt)];exact(hf c hcm).1
 done:=by intro X hP hw hK hc n pins s σ H E I hf q hg;subst hP hw hK;obtain⟨gz,gI,⟨x0,y0,gO⟩,i1,i2⟩:=q;obtain⟨us,ws,qx,qy,hn⟩:=hg;obtain⟨P1,St1,D1,st1,b1,rel1⟩:=Src.draws I (I.ok.hd hc) qx i1 λa z=>adK (h1 a z);obtain⟨P2,St2,D2,st2,b2,rel2⟩:=Src.draws I (I.ok.hd hc) qy i2 λa z=>adK (ad8 (h2 a z));refine wpAny_pyNext_zipD2_end (zip_sep2 h1 h2) D1 D2 gz gI gO st1 st2 (by omega) (by omega) (by omega) λh' tk hk=>⟨rfl,?_⟩;refine I.turnedL (t':=tk) (ch:=[N+4,N+2,N+3,N,N+1]) (λc o hb e=>?_) hf;simp only[adB,adM,or_false,not_or]at hb;exact hk c o hb.1 hb.2.2.1 hb.2.2.2.1 hb.2.2.2.2 e
 self:=λA n s Q E q h=>wpAny_pyIter_zip q.1 h
def iZp(K:adh)(ta:TA):TI:=λσ H R=>ta σ H λvs H1=>∃x y S T us ws,vs=[x,y]/\srcOf x S/\srcOf y T/\S.sq K H1 us/\T.sq K H1 ws/\R (Ws K S T) H1
theorem Xi(hg:Gl X "zip")(hm:X.mg "zip"=none)(ha:PA X [a,b] ta)(hs:nst a=true)(hs2:nst b=true):PI X (.Tuple elts kk tpos) (.Call (.Name "zip" p) [a,b] [] pos) (iZp X.K ta):=by
 refine⟨λpins s σ H R I h=>?_⟩;refine Call_ (ld_blt I hg hm PyProof.Rows.boot_zip (PyProof.Rows.callWith_type1 (thn (ha.run pos pins s σ H _ I h) λus s1 ⟨vs,H1,I1,r1,x,y,S,T,us',ws',ev,hx,hy,hq,hq2,q⟩=>?_) (aQ hs [b]) (star_any [b] (by simp[hs2]))));subst ev;obtain⟨v1,v2,rfl,rv1,rv2⟩:=vals2 r1;obtain⟨o1,B1,hB1,hb1,hit1,hlt1⟩:=Src.begins I1 hq hx rv1;obtain⟨o2,B2,hB2,hb2,hit2,hlt2⟩:=Src.begins I1 hq2 hy rv2;refine zip_begins2 hB1 hB2 hb1 hb2 λh' hz hTI hTO e1 e2 hsz hk=>wpAny_pyIter_zip hz ?_;have I2:L2.Inv X pins σ H1 { s1 with heap:=h' }:=I1.kept (t':=s1.toks) hk;refine⟨s1.heap.objs.size+4,_,_,_,H1,rfl,I2,Yi hlt1 hlt2,⟨hz,hTI,⟨_,_,hTO⟩,hit1 _ _ e1,hit2 _ _ e2⟩,λc hcm=>?_,q⟩;have hle:s1.heap.objs.size<=c:=by simp only[adB,adM,or_false]at hcm;rcases hcm with rfl | rfl | rfl | rfl | rfl<;>first | exact adE _ | exact Nat.le_add_right _ _
 exact I1.fpOk hle (I1.hok.fresh hle)
end
section
variable{K:adh}{aj:aq}{q:Bool}{g g':Gh}{H H':Hp}{v:V}{d:Dat}{σ:L2.St}{Z:Env}{M:Mo}
theorem bT.up{l:Addr}:∀{n:Bool} {kvs:List (Dat×Dat)} (r:Gr true g g' H H') (e:Ex H H') (k:Kd g H) (h:bT K aj g H l n kvs),bT K aj g' H' l n kvs
 |false,_,r,e,k,⟨kv,h1,h2,h3⟩=>⟨kv,e _ _ h1,h2,h3.gr r k⟩
 |true,_,r,e,k,⟨o,xs,vs,h1,h2,h3,h4,h5,h6⟩=>⟨o,xs,vs,e _ _ h1,h2,h3,h4.gr r k,h5,h6.gr r k⟩
theorem aR.up{h:Nat}{f:Str}(r:Gr true g g' H H')(e:Ex H H')(k:Kd g H):∀{fl:bM},aR K aj g H h f v fl->aR K aj g' H' h f v fl
 |.dat _,z=>Rep.gr r k z
 |.lst _ _,⟨l,us,h1,h2,h3,h4,h5⟩=>⟨l,us,h1,e _ _ h2,by rw[(r.qg rfl).2];exact h3,h4.gr r k,r.tb h5⟩
 |.dic _ _,⟨l,h1,h2,h3⟩=>⟨l,h1,by rw[(r.qg rfl).2];exact h2,h3.up r e k⟩
theorem aK.up{h:Nat}(r:Gr true g g' H H')(e:Ex H H')(k:Kd g H):∀{fs:List (Str×V)} {gs:List (Str×bM)},aK K aj g H h fs gs->aK K aj g' H' h fs gs
 |_,_,.nil=>.nil
 |_,_,.cons z t=>.cons (aR.up r e k z) (aK.up r e k t)
theorem aX.up(r:Gr true g g' H H')(e:Ex H H')(k:Kd g H)(w:aX K aj g H M):aX K aj g' H' M where
 len:=by rw[Gh.nO (r.qg rfl).1];exact w.len
 inj:=by rw[Gh.nO (r.qg rfl).1];exact w.inj
 ins:=λh a i ha hi hc=>by
  rw[Gh.nO (r.qg rfl).1]at ha;obtain⟨C,dx,fs,c1,c2,c3⟩:=w.ins h a i ha hi hc;exact⟨C,dx,fs,c1,e _ _ c2,c3.up r e k⟩
 nd:=w.nd
 fd:=w.fd
 tw:=by rw[Gh.nO (r.qg rfl).1,(r.qg rfl).2];exact w.tw
 li:=λh a xs ha hi=>by
  rw[Gh.nO (r.qg rfl).1]at ha;obtain⟨us,h1,h2,h3⟩:=w.li h a xs ha hi;exact⟨us,e _ _ h1,by rw[(r.qg rfl).2];exact h2,h3.gr r k⟩
 nc:=w.nc
theorem SInv.up(r:Gr true g g' H H')(e:Ex H H')(k':Kd g' H')(I:SInv K aj σ H g Z M):SInv K aj σ H' g' Z M where
 kd:=k'
 wok:=I.wok.up r e I.kd
 len:=I.len
 dat:=λi d h=>by
  obtain⟨v,h1,h2⟩:=I.dat i d h;exact⟨v,h1,h2.gr r I.kd⟩
 own:=λi xs h=>by
  obtain⟨l,us,h1,h2,h3,h4⟩:=I.own i xs h;exact⟨l,us,h1,e _ _ h2,r.Lo l h3,h4.gr r I.kd⟩
 sep:=I.sep
def Gh.add(g:Gh)(D:Addr):Gh:={ g with Lo:=λa=>g.Lo a\/a=D }
theorem Gh.oY{D:Addr}(n:H D=none)(e:Ex H H'):Gr true g (g.add D) H H' where
 keep:=λa o h _ _=>e a o h
 keepW:=λ_ a o h _=>e a o h
 dom:=mY e
 tbl:=⟨[],by simp[Gh.add]⟩
 W:=λ_ h=>h
 nW:=λ_ h=>.inl h
 qg:=λ_=>⟨rfl,rfl⟩
 Lc:=rfl
 Lo:=λ_ h=>.inl h
 nLo:=λa h=>h.elim .inl λz=>.inr (by rw[z];exact n)
 kl:=rfl
theorem Gh.Tg{D:Addr}{o:HO}(k:Kd g H)(n:H D=none)(e:Ex H H')(hD:H' D=some o)(m:qO o):Kd (g.add D) H' where
 ob:=λa z=>by
  rcases z with z|z|z|z
  .obtain⟨o,h,m⟩:=k.ob a (.inl z);exact⟨o,e a o h,m⟩
  .obtain⟨o,h,m⟩:=k.ob a (.inr (.inl z));exact⟨o,e a o h,m⟩
  .obtain⟨o,h,m⟩:=k.ob a (.inr (.inr z));exact⟨o,e a o h,m⟩
  .rw[z];exact⟨o,hD,m⟩
 lo:=λa z=>by
  rcases z with z|z
  .exact k.lo a z
  .intro w;subst z;exact k.fresh n (.inl w)
 lc:=λa z=>⟨(k.lc a z).1,λy=>y.elim (k.lc a z).2 λy=>by subst y;exact k.fresh n (.inr (.inl z))⟩
theorem SInv.add{D:Addr}{o:HO}(I:SInv K aj σ H g Z M)(n:H D=none)(e:Ex H H')(hD:H' D=some o)(m:qO o):SInv K aj σ H' (g.add D) Z M:=
 I.up (Gh.oY n e) e (Gh.Tg I.kd n e hD m)
theorem SInv.set{j:Nat}(I:SInv K aj σ H g Z M)(r:Rep K g H v d):SInv K aj (σ.set j (some v)) H g (Z.set j (some (.dat d))) M where
 kd:=I.kd
 wok:=I.wok
 len:=by rw[adz,adz];exact I.len
 dat:=λi e h=>by
  by_cases z:j=i
  .subst z;have hj:j<Z.length:=by
    have:=(adk.mp h).1;rw[adz]at this;exact this
   rw[adu hj]at h;cases h;exact⟨v,by rw[adu (by rw[I.len];exact hj)],r⟩
  .rw[adl z]at h;obtain⟨u,h1,h2⟩:=I.dat i e h;exact⟨u,by rw[adl z];exact h1,h2⟩
 own:=λi xs h=>by
  by_cases z:j=i
  .subst z;have hj:j<Z.length:=by
    have:=(adk.mp h).1;rw[adz]at this;exact this
   rw[adu hj]at h;cases h
  .rw[adl z]at h;obtain⟨l,us,h1,h2⟩:=I.own i xs h;exact⟨l,us,by rw[adl z];exact h1,h2⟩
 sep:=λi k xs ys l ne h1 h2 h3=>by
  have nj:∀{i:Nat} {xs:List Dat},(Z.set j (some (.dat d)))[i]?=some (some (.mut xs))->j≠i:=λ{i xs} h z=>by
   subst z;have hj:j<Z.length:=by have:=(adk.mp h).1;rw[adz]at this;exact this
   rw[adu hj]at h;cases h
  have n1:=nj h1;have n2:=nj h2;rw[adl n1]at h1 h3;rw[adl n2]at h2;rw[adl n2];exact I.sep i k xs ys l ne h1 h2 h3
theorem SInv.forget{j:Nat}(I:SInv K aj σ H g Z M):SInv K aj (σ.set j none) H g (Z.set j none) M where
 kd:=I.kd
 wok:=I.wok
 len:=by rw[adz,adz];exact I.len
 dat:=λi e h=>by
  by_cases z:j=i
  .subst z;have hj:j<Z.length:=by
    have:=(adk.mp h).1;rw[adz]at this;exact this
   rw[adu hj]at h;cases h
  .rw[adl z]at h |-
   exact I.dat i e h
 own:=λi xs h=>by
  by_cases z:j=i
  .subst z;have hj:j<Z.length:=by
    have:=(adk.mp h).1;rw[adz]at this;exact this
   rw[adu hj]at h;cases h
  .rw[adl z]at h |-
   exact I.own i xs h
 sep:=λi k xs ys l ne h1 h2 h3=>by
  have nj:∀{i:Nat} {xs:List Dat},(Z.set j none)[i]?=some (some (.mut xs))->j≠i:=λ{i xs} h z=>by
   subst z;have hj:j<Z.length:=by have:=(adk.mp h).1;rw[adz]at this;exact this
   rw[adu hj]at h;cases h
  have n1:=nj h1;have n2:=nj h2;rw[adl n1]at h1 h3;rw[adl n2]at h2;rw[adl n2];exact I.sep i k xs ys l ne h1 h2 h3
def aO(Z:Env):List Nat->Env
 |[]=>Z
 |j::js=>(aO Z js).set j none
theorem SInv.wipe(I:SInv K aj σ H g Z M):∀vs:List Nat,SInv K aj (L2.wipe σ vs) H g (aO Z vs) M
 |[]=>I
 |j::js=>(SInv.wipe I js).forget
end
abbrev bH:=Dat->Env->Option Env
def aD(j:Nat):bH:=λd Z=>some (Z.set j (some (.dat d)))
def iD:List Nat->List Dat->Env->Option Env
 |[],[],Z=>some Z
 |j::js,d::ds,Z=>iD js ds (Z.set j (some (.dat d)))
 |_,_,_=>none
def jO(js:List Nat):bH:=λd Z=>match d with
 |.tuple ds=>iD js ds Z
 |_=>none
def sets(σ:L2.St):List Nat->List V->L2.St
 |j::js,v::vs=>sets (σ.set j (some v)) js vs
 |_,_=>σ
def j6(K:adh)(aj:aq)(js:List Nat)(f:bH):TG:=λv σ H Q=>∃g Z M d Z',SInv K aj σ H g Z M/\Rep K g H v d/\f d Z=some Z'/\∀vs,SInv K aj (sets σ js vs) H g Z' M->Q (sets σ js vs) H
def QG(aj:aq)(X:Cx)(tg:Expr)(js:List Nat)(f:bH):Prop:=PG X tg (j6 X.K aj js f)
theorem PG.weak{X:Cx}{e:Expr}{t t':TG}(h:PG X e t)(k:∀v σ H Q,t' v σ H Q->t v σ H Q):PG X e t':=⟨λpins s σ H v u Q I r q=>h.run pins s σ H v u Q I r (k v σ H Q q)⟩
section
variable{X:Cx}{aj:aq}{pos:Pos}
theorem yc{j:Nat}{x:Str}(hN:X.N.Nodup)(hi:X.N[j]?=some x)(hx:Loc X.env.scope x)(hf:X.fn x=true\/X.env.scope.names.lookup x=some .local):QG aj X (.Name x pos) [j] (aD j):=
 PG.weak (pg_name hN hi hx hf) λv σ H Q ⟨g,Z,M,d,Z',I,r,e,q⟩=>by
  cases e;exact q [v] (I.set r)
def vR(X:Cx):List Expr->List Nat->Prop
 |[],[]=>True
 |.Name x _::es,j::js=>X.N[j]?=some x/\Loc X.env.scope x/\(X.fn x=true\/X.env.scope.names.lookup x=some .local)/\vR X es js
 |_,_=>False
theorem Lk{es:List Expr}{js:List Nat}(h:vR X es js):(assignEach es X.env).length=js.length/\(assignEach es X.env).findIdx? (·.1)=none:=by
 induction es generalizing js with
 |nil=>
  cases js with
  |nil=>exact⟨by with_unfolding_all rfl,by with_unfolding_all rfl⟩
  |cons j js=>exact aev h
 |cons e es ih=>
  cases js with
  |nil=>cases e<;>exact aev h
  |cons j js=>
   cases e with
   |Name x p=>
    obtain⟨h1,h2⟩:=ih h.2.2.2;have e1:assignEach (.Name x p::es) X.env=(false,assign (.Name x p) X.env)::assignEach es X.env:=by with_unfolding_all rfl
    rw[e1];refine⟨by simp[h1],?_⟩;rw[List.findIdx?_cons,h2];rfl
   |_=>exact aev h
def gNs(js:List Nat):TGs:=λvs σ H Q=>vs.length=js.length/\Q (sets σ js vs) H
theorem zH(hN:X.N.Nodup):∀{es:List Expr} {js:List Nat},vR X es js->PGs X es (gNs js)
 |[],[],_=>⟨λpins s σ H vs us Q I r h=>by
  obtain⟨e,h⟩:=h;have:vs=[]:=List.length_eq_zero_iff.mp e;subst this;exact pgs_nil.run pins s σ H [] us Q I r ⟨rfl,h⟩⟩
 |.Name x p::es,j::js,h=>by
  have hp:=pgs_cons (pg_name (pos:=p) hN h.1 h.2.1 h.2.2.1) (zH hN h.2.2.2) (by with_unfolding_all rfl);refine⟨λpins s σ H vs us Q I r hq=>?_⟩;obtain⟨e,hq⟩:=hq;cases vs with
  |nil=>cases e
  |cons v vs=>exact hp.run pins s σ H (v::vs) us Q I r ⟨v,vs,rfl,adZ e,hq⟩
 |[],_::_,h=>aev h
 |.Name _ _::_,[],h=>aev h
theorem qG{K:adh}{g:Gh}{H:Hp}{M:Mo}:∀{js:List Nat} {ds:List Dat} {vs:List V} {σ:L2.St} {Z Z':Env},SInv K aj σ H g Z M->ao K g H vs ds->iD js ds Z=some Z'->vs.length=js.length/\SInv K aj (sets σ js vs) H g Z' M
 |[],_,_,_,_,_,I,.nil,e=>by cases e;exact⟨rfl,I⟩
 |[],_,_,_,_,_,I,.cons _ _,e=>by cases e
 |j::js,_,_,_,_,_,I,.nil,e=>by cases e
 |j::js,_,_,_,_,_,I,.cons r t,e=>by
  obtain⟨h1,h2⟩:=qG (js:=js) (I.set (j:=j) r) t e;exact⟨by simp[h1],h2⟩
theorem BX{es:List Expr}{js:List Nat}{k:Nat}(hc:X.calm=true)(hN:X.N.Nodup)(h:vR X es js):QG aj X (.Tuple es k pos) js (jO js):=by
 obtain⟨h1,h2⟩:=Lk h;refine PG.weak (pg_tup (n:=js.length) hc (zH hN h) h1 h2) λv σ H Q ⟨g,Z,M,d,Z',I,r,e,q⟩=>?_;unfold jO at e;split at e
 .obtain⟨a,us,rfl,s1,t1⟩:=dU r.weak;obtain⟨l1,I1⟩:=qG I t1 e;exact⟨a,us,rfl,s1,l1,l1,q us I1⟩
 .cases e
theorem lQ:∀(js:List Nat) (vs:List V) (σ:L2.St) (ws:List Nat),(∀j∈js,j∈ws)->L2.wipe (sets σ js vs) ws=L2.wipe σ ws
 |[],_,_,_,_=>by unfold sets;rfl
 |_::_,[],_,_,_=>by unfold sets;rfl
 |j::js,v::vs,σ,ws,h=>by
  show L2.wipe (sets (σ.set j (some v)) js vs) ws=_;rw[lQ js vs _ ws λk hk=>h k (adt _ hk)];have hj:j∈ws:=h j adn;have key:∀(ws:List Nat) (σ:L2.St),j∈ws->L2.wipe (σ.set j (some v)) ws=L2.wipe σ ws:=by
   intro ws
   induction ws with
   |nil=>intro σ z;cases z
   |cons k ws ih=>
    intro σ z
    show(L2.wipe (σ.set j (some v)) ws).set k none=(L2.wipe σ ws).set k none
    by_cases hk:j∈ws
    .rw[ih σ hk]
    .have e:j=k:=by
      rcases adB.mp z with z|z
      .exact z
      .exact absurd z hk
     subst e;have comm:∀(ws:List Nat),j∉ws->L2.wipe (σ.set j (some v)) ws=(L2.wipe σ ws).set j (some v):=by
      intro ws
      induction ws with
      |nil=>intro _;rfl
      |cons m ws ih2=>
       intro hm
       show(L2.wipe (σ.set j (some v)) ws).set m none=((L2.wipe σ ws).set m none).set j (some v)
       rw[ih2 λz=>hm (adt _ z),List.set_comm _ _ (λz=>hm (by rw[z];exact adn))]
     rw[comm ws hk,List.set_set]
  exact key ws σ hj
end
structure qU(K:adh)(J:It)(C:Gh->Hp->Prop)(ds:List Dat):Prop where
 go:∀g i H,C g H->i<ds.length->J.go i H
 yld:∀g i H x H' d,Kd g H->C g H->ds[i]?=some d->J.yld i H x H'->Ex H H'/\Rep K g H' x d
 stop:∀g i H,C g H->i=ds.length->J.stop i H
 ex:∀g H H',Kd g H->C g H->Ex H H'->C g H'
 add:∀g g' H H',Kd g H->C g H->Gr true g g' H H'->Ex H H'->C g' H'
def Hq(C:Gh->Hp->Prop):Prop:=∀q g g' H H',Kd g H->C g H->Gr q g g' H H'->C g' H'
abbrev IF:=Mo->Env->Out (List Dat)
def tI(K:adh)(aj:aq)(W:WX)(firm:Bool)(f:IF):TI:=λσ H R=>∃g Z M,SInv K aj σ H g Z M/\(f M Z).sat (λds=>∀J C H',Ex H H'->qU K J C ds->C g H'->(firm=true->Hq C)->R J H') (gQ K aj W g H σ)
def QI(aj:aq)(X:Cx)(W:WX)(firm:Bool)(tg e:Expr)(f:IF):Prop:=PI X tg e (tI X.K aj W firm f)
def Cz(x:Str):List Dat:=x.cps.toList.map λc=>.str ⟨#[c]⟩
def fG:Dat->Out (List Dat)
 |.list ds=>.ok ds
 |.tuple ds=>.ok ds
 |.str x=>.ok (Cz x)
 |_=>.bad
def jA(a:QF):IF:=λM Z=>(a M Z).bind fG
def Src.cw(K:adh)(S:Src)(ds:List Dat)(g:Gh)(H:Hp):Prop:=∃us,S.sq K H us/\ao K g H us ds
def Src.cf(K:adh)(S:Src)(ds:List Dat)(g:Gh)(H:Hp):Prop:=∃us,(match S with
 |.lst a=>vh K g H a us
 |.tup a=>SqT K H a us
 |.str x=>us=chars x)/\ao K g H us ds
section
variable{K:adh}{g g':Gh}{H H':Hp}{ds es:List Dat}{S T:Src}
theorem Src.Xl{us:List V}(e:Ex H H')(h:S.sq K H us):S.sq K H' us:=by
 cases S with
 |lst a=>exact ex_l e h
 |tup a=>exact ex_t e h
 |str x=>exact h
theorem Src.GP(h:S.cf K ds g H):S.cw K ds g H:=by
 obtain⟨us,h1,h2⟩:=h;refine⟨us,?_,h2⟩;cases S with
 |lst a=>exact vh.sq h1
 |tup a=>exact h1
 |str x=>exact h1
theorem Src.ji:Hq (S.cf K ds):=λq g g' H H' k ⟨us,h1,h2⟩ r=>by
 refine⟨us,?_,h2.gr r k⟩;cases S with
 |lst a=>exact r.ls h1
 |tup a=>exact r.YD k h1
 |str x=>exact h1
theorem Src.sV(k:Kd g H)(h:S.cw K ds g H)(r:Gr true g g' H H')(e:Ex H H'):S.cw K ds g' H':=by obtain⟨us,h1,h2⟩:=h;exact⟨us,Src.Xl e h1,h2.gr r k⟩
theorem Src.Bb(k:Kd g H)(h:S.cw K ds g H)(e:Ex H H'):S.cw K ds g H':=Src.sV k h (Gr.ex e) e
end
section
variable{K:adh}{ds es:List Dat}{S T:Src}
def Ys(K:adh):Src->It
 |.lst a=>Itl K a
 |.tup a=>Itt K a
 |.str x=>Its x
theorem nH{g:Gh}{H:Hp}(x:Str):ao K g H (chars x) (Cz x):=by
 unfold chars Cz
 induction x.cps.toList with
 |nil=>exact .nil
 |cons c cs ih=>exact .cons (.str _) ih
theorem qU.of{J:It}{C C':Gh->Hp->Prop}(w:qU K J C ds)(h:∀g H,C' g H->C g H)(e:∀g H H',Kd g H->C' g H->Ex H H'->C' g H')(a:∀g g' H H',Kd g H->C' g H->Gr true g g' H H'->Ex H H'->C' g' H'):qU K J C' ds where
 go:=λg i H c hi=>w.go g i H (h g H c) hi
 yld:=λg i H x H' d k c e y=>w.yld g i H x H' d k (h g H c) e y
 stop:=λg i H c e=>w.stop g i H (h g H c) e
 ex:=e
 add:=a
theorem Ey:qU K (Ys K S) (S.cw K ds) ds where
 go:=λg i H ⟨us,h1,h2⟩ hi=>by
  have hx:us[i]?=some (us[i]'(by rw[h2.length];exact hi)):=adq _;cases S with
  |lst a=>exact⟨us,_,h1,hx⟩
  |tup a=>exact⟨us,_,h1,hx⟩
  |str x=>
   show i<x.cps.size;have:=h2.length;rw[show us=chars x from h1]at this;unfold chars at this;rw[adp,adP]at this;omega
 yld:=λg i H x H' d k ⟨us,h1,h2⟩ e y=>by
  obtain⟨v,hv,rv⟩:=h2.get e;cases S with
  |lst a=>
   obtain⟨rfl,y⟩:=y;have:x=v:=adx ((y us h1).symm.trans hv);rw[this];exact⟨Ex.refl _,rv⟩
  |tup a=>
   obtain⟨rfl,y⟩:=y;have:x=v:=adx ((y us h1).symm.trans hv);rw[this];exact⟨Ex.refl _,rv⟩
  |str z=>
   obtain⟨rfl,c,hc,rfl⟩:=y;rw[show us=chars z from h1]at hv;unfold chars at hv;rw[adw,adT,hc]at hv;cases hv;exact⟨Ex.refl _,rv⟩
 stop:=λg i H ⟨us,h1,h2⟩ e=>by
  have hl:=h2.length;cases S with
  |lst a=>exact⟨us,h1,by omega⟩
  |tup a=>exact⟨us,h1,by omega⟩
  |str x=>
   show x.cps.size<=i;rw[show us=chars x from h1]at hl;unfold chars at hl;rw[adp,adP]at hl;omega
 ex:=λg H H' k h e=>Src.Bb k h e
 add:=λg g' H H' k h r e=>Src.sV k h r e
def lE(k₀:Int)(ds:List Dat):List Dat:=ds.mapIdx λi d=>.tuple [.int (k₀+(i:Int)),d]
theorem Nt{k₀:Int}:qU K (ItE K S k₀) (S.cw K ds) (lE k₀ ds) where
 go:=λg i H ⟨us,h1,h2⟩ hi=>by
  have hl:i<us.length:=by rw[h2.length];unfold lE at hi;rw[List.length_mapIdx]at hi;exact hi
  exact⟨us,us[i],h1,adq hl⟩
 yld:=λg i H x H' d k ⟨us,h1,h2⟩ e y=>by
  unfold lE at e;rw[List.getElem?_mapIdx]at e;cases hd:ds[i]? with
  |none=>rw[hd]at e;cases e
  |some d0=>
   rw[hd]at e;cases e;obtain⟨v,hv,rv⟩:=h2.get hd;obtain⟨T,x0,rfl,nT,rfl,y⟩:=y;have:x0=v:=adx ((y us h1).symm.trans hv);subst this;exact⟨Ex.new nT,.tup (st_of aeC) (.cons (.int _) (.cons (rv.ex (Ex.new nT) k) .nil))⟩
 stop:=λg i H ⟨us,h1,h2⟩ e=>by
  unfold lE at e;rw[List.length_mapIdx,<-h2.length]at e;exact⟨us,h1,e.symm⟩
 ex:=λg H H' k h e=>Src.Bb k h e
 add:=λg g' H H' k h r e=>Src.sV k h r e
def tL(ds es:List Dat):List Dat:=List.zipWith (λd e=>.tuple [d,e]) ds es
theorem En:qU K (Ws K S T) (λg H=>S.cw K ds g H/\T.cw K es g H) (tL ds es) where
 go:=λg i H ⟨⟨us,h1,h2⟩,⟨ws,h3,h4⟩⟩ hi=>by
  unfold tL at hi;rw[List.length_zipWith,<-h2.length,<-h4.length]at hi;exact⟨us,ws,us[i],ws[i],h1,h3,adq (by omega),adq (by omega)⟩
 yld:=λg i H x H' d k ⟨⟨us,h1,h2⟩,⟨ws,h3,h4⟩⟩ e y=>by
  unfold tL at e;rw[List.getElem?_zipWith]at e;cases hd:ds[i]? with
  |none=>rw[hd]at e;cases e
  |some d0=>
   cases he:es[i]? with
   |none=>rw[hd,he]at e;cases e
   |some e0=>
    rw[hd,he]at e;cases e;obtain⟨v,hv,rv⟩:=h2.get hd;obtain⟨u,hu,ru⟩:=h4.get he;obtain⟨U,x0,y0,rfl,nU,rfl,y1,y2⟩:=y;have:x0=v:=adx ((y1 us h1).symm.trans hv);subst this;have:y0=u:=adx ((y2 ws h3).symm.trans hu);subst this;exact⟨Ex.new nU,.tup (st_of aeC) (.cons (rv.ex (Ex.new nU) k) (.cons (ru.ex (Ex.new nU) k) .nil))⟩
 stop:=λg i H ⟨⟨us,h1,h2⟩,⟨ws,h3,h4⟩⟩ e=>by
  unfold tL at e;rw[List.length_zipWith,<-h2.length,<-h4.length]at e;exact⟨us,ws,h1,h3,e⟩
 ex:=λg H H' k h e=>⟨Src.Bb k h.1 e,Src.Bb k h.2 e⟩
 add:=λg g' H H' k h r e=>⟨Src.sV k h.1 r e,Src.sV k h.2 r e⟩
def eO(lo:Int)(n:Nat):List Dat:=(List.range n).map λ(i:Nat)=>.int (lo+(i:Int))
theorem zJ{lo:Int}{n:Nat}:qU K (Itr lo n) (λ_ _=>True) (eO lo n) where
 go:=λg i H _ hi=>by
  unfold eO at hi;rw[adp,List.length_range]at hi;exact hi
 yld:=λg i H x H' d k _ e y=>by
  obtain⟨rfl,rfl⟩:=y;unfold eO at e;rw[adw]at e;cases hr:(List.range n)[i]? with
  |none=>rw[hr]at e;cases e
  |some j=>
   rw[hr]at e;cases e;have:j=i:=by obtain⟨h1,h2⟩:=adk.mp hr;rw[List.getElem_range]at h2;exact h2.symm
   subst this;exact⟨Ex.refl _,.int _⟩
 stop:=λg i H _ e=>by
  unfold eO at e;rw[adp,List.length_range]at e;show n<=i;omega
 ex:=λ_ _ _ _ _ _=>trivial
 add:=λ_ _ _ _ _ _ _ _=>trivial
end
section
variable{X:Cx}{aj:aq}{W:WX}{tg a b:Expr}{fa fb:QF}{pos p tpos:Pos}{elts:List Expr}{kk:Nat}
theorem uL{K:adh}{g:Gh}{H:Hp}{v:V}{d:Dat}{ds:List Dat}{firm:Bool}(r:if firm=true then Rep K g H v d else aW K g H v d)(h:fG d=.ok ds):∃S,srcOf v S/\S.cw K ds g H/\(firm=true->S.cf K ds g H):=by
 have rw:aW K g H v d:=by
  cases firm with
  |true=>exact Rep.weak r
  |false=>exact r
 cases d with
 |list es=>
  cases h;obtain⟨l,us,rfl,h1,h2⟩:=bZ rw;refine⟨.lst l,.inl ⟨l,rfl,rfl,.inl rfl⟩,⟨us,h1,h2⟩,λz=>?_⟩;subst z;have r:Rep K g H (.ref l) (.list ds):=r;cases r with
  |lst h3 h4=>exact⟨_,h3,h4⟩
 |tuple es=>
  cases h;obtain⟨l,us,rfl,h1,h2⟩:=dU rw;exact⟨.tup l,.inl ⟨l,rfl,rfl,.inr rfl⟩,⟨us,h1,h2⟩,λ_=>⟨us,h1,h2⟩⟩
 |str x=>
  cases h;cases cU rw;exact⟨.str x,.inr ⟨x,rfl,rfl⟩,⟨_,rfl,nH x⟩,λ_=>⟨_,rfl,nH x⟩⟩
 |_=>cases h
def tF(K:adh)(aj:aq)(W:WX)(firm:Bool)(f:QF):TE:=if firm=true then tQ K aj W f else tW K aj W f
def FJ(aj:aq)(X:Cx)(W:WX)(firm:Bool)(e:Expr)(f:QF):Prop:=PE X e (tF X.K aj W firm f)
theorem tF.go{K:adh}{firm:Bool}{g:Gh}{H:Hp}{σ:L2.St}{Z:Env}{M:Mo}{f:QF}{k:Dat->Prop}{Q:VK}(I:SInv K aj σ H g Z M)(h:(f M Z).sat k (gQ K aj W g H σ))(hk:∀d v H',k d->Ex H H'->(if firm=true then Rep K g H' v d else aW K g H' v d)->Q v H'):tF K aj W firm f σ H Q:=by
 cases firm with
 |true=>exact tQ.go I h hk
 |false=>exact tW.go I h hk
theorem Xe{K:adh}{firm:Bool}{g:Gh}{H H':Hp}{v:V}{d:Dat}(e:Ex H H')(k:Kd g H)(r:if firm=true then Rep K g H v d else aW K g H v d):if firm=true then Rep K g H' v d else aW K g H' v d:=by
 cases firm with
 |true=>exact Rep.ex e k r
 |false=>exact aW.ex e k r
theorem wf{K:adh}{S:Src}{firm:Bool}{J:It}{ds es:List Dat}{R:It->Hp->Prop}{g:Gh}{H H1:Hp}(h:∀J C H',Ex H H'->qU K J C ds->C g H'->(firm=true->Hq C)->R J H')(e1:Ex H H1)(w:qU K J (S.cw K es) ds)(hw:S.cw K es g H1)(hf:firm=true->S.cf K es g H1):R J H1:=by
 cases firm with
 |true=>exact h J (S.cf K es) H1 e1 (w.of (λ_ _ z=>Src.GP z) (λg H H' k c e=>Src.ji true g g H H' k c (Gr.ex e)) λg g' H H' k c r e=>Src.ji true g g' H H' k c r) (hf rfl) λ_=>Src.ji
 |false=>exact h J (S.cw K es) H1 e1 w hw λz=>nomatch z
theorem DR{firm:Bool}(ha:FJ aj X W firm a fa):QI aj X W firm tg a (jA fa):=by
 refine⟨λpins s σ H R I h=>?_⟩;obtain⟨g,Z,M,SI,hs⟩:=h;have hs:=hs.bnd;have fin:∀(S:Src) (x:V) (H1:Hp) (ds:List Dat),(∀J C H',Ex H H'->qU X.K J C ds->C g H'->(firm=true->Hq C)->R J H')->Ex H H1->S.cw X.K ds g H1->(firm=true->S.cf X.K ds g H1)->R (Ys X.K S) H1:=λS x H1 ds h e1 hw hf=>wf h e1 Ey hw hf;cases hfa:fa M Z with
 |bad=>rw[hfa]at hs;exact aev hs
 |exc x=>
  rw[hfa]at hs;exact(pi_list ha).run pins s σ H R I (tF.go (k:=λ_=>False) SI (by rw[hfa];exact hs) λd v H' z=>aev z)
 |ok d=>
  rw[hfa]at hs;cases d with
  |list ds=>
   refine(pi_list ha).run pins s σ H R I (tF.go (k:=λz=>z=.list ds) SI (by rw[hfa];rfl) λd v H' z e1 r=>?_);subst z;obtain⟨S,hS,hw,hf⟩:=uL (firm:=firm) r (ds:=ds) rfl;have rw:aW X.K g H' v (.list ds):=by
    cases firm with
    |true=>exact Rep.weak r
    |false=>exact r
   obtain⟨l,us,rfl,h1,h2⟩:=bZ rw;refine⟨l,rfl,⟨us,h1⟩,?_⟩;rcases hS with⟨a',e,ha',hl|ht⟩|⟨y,_,e⟩
   .cases e;subst hl;exact fin (.lst l) (.ref l) H' ds hs e1 hw hf
   .cases e;subst ht;refine wf (S:=.lst l) hs e1 (Ey (S:=.lst l)) ⟨us,h1,h2⟩ λz=>?_;subst z;have r:Rep X.K g H' (.ref l) (.list ds):=r;cases r with
    |lst h3 h4=>exact⟨_,h3,h4⟩
   .cases e
  |tuple ds=>
   refine(pi_tup ha).run pins s σ H R I (tF.go (k:=λz=>z=.tuple ds) SI (by rw[hfa];rfl) λd v H' z e1 r=>?_);subst z;have rw:aW X.K g H' v (.tuple ds):=by
    cases firm with
    |true=>exact Rep.weak r
    |false=>exact r
   obtain⟨l,us,rfl,h1,h2⟩:=dU rw;exact⟨l,rfl,⟨us,h1⟩,fin (.tup l) (.ref l) H' ds hs e1 ⟨us,h1,h2⟩ λ_=>⟨us,h1,h2⟩⟩
  |str x=>
   refine(pi_str ha).run pins s σ H R I (tF.go (k:=λz=>z=.str x) SI (by rw[hfa];rfl) λd v H' z e1 r=>?_);subst z;have rw:aW X.K g H' v (.str x):=by
    cases firm with
    |true=>exact Rep.weak r
    |false=>exact r
   cases cU rw;exact⟨x,rfl,fin (.str x) (.str x) H' _ hs e1 ⟨_,rfl,nH x⟩ λ_=>⟨_,rfl,nH x⟩⟩
  |_=>exact aev hs
def iw(a:QF):IF:=λM Z=>(a M Z).bind λd=>(lW d).bind λn=>Out.when (decide (n<=100000/\-100000<=n)) (.ok (eO 0 n.toNat))
def uh(a b:QF):IF:=λM Z=>(a M Z).bind λd=>(b M Z).bind λe=>(lW d).bind λlo=>(lW e).bind λn=>Out.when (decide (n<=100000/\-100000<=n/\lo<=100000/\-100000<=lo)) (.ok (eO lo (n-lo).toNat))
def qH(k₀:Int)(a:QF):IF:=λM Z=>(a M Z).bind λd=>(fG d).bind λds=>.ok (lE k₀ ds)
def Io(a b:QF):IF:=λM Z=>(a M Z).bind λd=>(b M Z).bind λe=>(fG d).bind λds=>(fG e).bind λes=>.ok (tL ds es)
theorem JN{firm:Bool}(hg:Gl X "range")(hm:X.mg "range"=none)(ha:QW aj X W a fa)(hs:nst a=true):QI aj X W firm tg (.Call (.Name "range" p) [a] [] pos) (iw fa):=by
 refine⟨λpins s σ H R I h=>?_⟩;refine(pi_range1 hg hm (pa_cons ha pa_nil (aQ hs [])) (aQ hs [])).run pins s σ H R I ?_;obtain⟨g,Z,M,SI,h⟩:=h;refine tW.go SI h.bnd λd v H1 h1 e1 r1=>?_;have h1:=h1.bnd;unfold lW at h1;split at h1
 .obtain⟨hz,h1⟩:=h1.gG;have hz:=aex hz;cases aN r1;exact⟨_,rfl,by omega,by omega,h1 _ _ H1 e1 zJ aeu λ_=>λ_ _ _ _ _ _ _ _=>trivial⟩
 .exact aev h1
theorem JH{firm:Bool}(hg:Gl X "range")(hm:X.mg "range"=none)(ha:QW aj X W a fa)(hb:QW aj X W b fb)(hs:nst a=true)(hs2:nst b=true):QI aj X W firm tg (.Call (.Name "range" p) [a,b] [] pos) (uh fa fb):=by
 refine⟨λpins s σ H R I h=>?_⟩;refine(pi_range2 hg hm (pa_cons ha (pa_cons hb pa_nil (aQ hs2 [])) (aQ hs [b])) (by rw[aQ hs,aQ hs2];rfl) (aQ hs2 [])).run pins s σ H R I ?_;obtain⟨g,Z,M,SI,h⟩:=h;refine tW.go SI h.bnd λd v H1 h1 e1 r1=>?_;refine tW.go (SI.ex e1) (h1.bnd.mono (λ_ z=>z) λ_ z=>z.ex e1) λd2 v2 H2 h2 e2 r2=>?_;have h2:=h2.bnd;unfold lW at h2;split at h2
 .have h2:=Out.sat.bnd h2;split at h2
  .obtain⟨hz,h2⟩:=Out.sat.gG h2;have hz:=aex hz;cases aN r1;cases aN r2;exact⟨_,_,rfl,⟨by omega,by omega,by omega,by omega⟩,h2 _ _ H2 (e1.trans e2) zJ aeu λ_=>λ_ _ _ _ _ _ _ _=>trivial⟩
  .exact aev h2
 .exact aev h2
theorem Oe{firm:Bool}{k₀:Int}(σ:L2.St)(H:Hp)(R:It->Hp->Prop)(h:tI X.K aj W firm (qH k₀ fa) σ H R):R3 X.K (tCons (tF X.K aj W firm fa) tNil) k₀ σ H R:=by
 obtain⟨g,Z,M,SI,h⟩:=h;refine tF.go SI h.bnd λd v H1 h1 e1 r1=>?_;cases hd:fG d with
 |bad=>rw[hd]at h1;exact aev h1
 |exc x=>cases d<;>cases hd
 |ok ds=>
  rw[hd]at h1;obtain⟨S,hS,hw,hf⟩:=uL r1 hd;exact⟨v,S,_,rfl,hS,hw.choose_spec.1,wf h1 e1 Nt hw hf⟩
theorem QJ{firm:Bool}(hg:Gl X "enumerate")(hm:X.mg "enumerate"=none)(ha:FJ aj X W firm a fa)(hs:nst a=true):QI aj X W firm (.Tuple elts kk tpos) (.Call (.Name "enumerate" p) [a] [] pos) (qH 0 fa):=
 ⟨λpins s σ H R I h=>(XJ hg hm (pa_cons ha pa_nil (aQ hs [])) hs).run pins s σ H R I (Oe σ H R h)⟩
theorem Nm{firm:Bool}{k₀:Int}{j:Nat}{kp kp2:Pos}(hk0 : -(2^63)<=k₀)(hk1:k₀<2^63)(hg:Gl X "enumerate")(hm:X.mg "enumerate"=none)(ha:FJ aj X W firm a fa)(hs:nst a=true):QI aj X W firm (.Tuple elts kk tpos) (.Call (.Name "enumerate" p) [a] [⟨some "start",.Constant (.int k₀) j kp,kp2⟩] pos) (qH k₀ fa):=
 ⟨λpins s σ H R I h=>(UG hk0 hk1 hg hm (pa_cons ha pa_nil (aQ hs [])) hs).run pins s σ H R I (Oe σ H R h)⟩
theorem Vu{firm:Bool}(hg:Gl X "zip")(hm:X.mg "zip"=none)(ha:FJ aj X W firm a fa)(hb:FJ aj X W firm b fb)(hs:nst a=true)(hs2:nst b=true):QI aj X W firm (.Tuple elts kk tpos) (.Call (.Name "zip" p) [a,b] [] pos) (Io fa fb):=by
 refine⟨λpins s σ H R I h=>(Xi hg hm (pa_cons ha (pa_cons hb pa_nil (aQ hs2 [])) (aQ hs [b])) hs hs2).run pins s σ H R I ?_⟩;obtain⟨g,Z,M,SI,h⟩:=h;refine tF.go SI h.bnd λd v H1 h1 e1 r1=>?_;refine tF.go (SI.ex e1) (h1.bnd.mono (λ_ z=>z) λ_ z=>z.ex e1) λd2 v2 H2 h2 e2 r2=>?_;cases hd:fG d with
 |bad=>rw[hd]at h2;exact aev h2
 |exc x=>cases d<;>cases hd
 |ok ds=>
  cases he:fG d2 with
  |bad=>rw[hd,he]at h2;exact aev h2
  |exc x=>cases d2<;>cases he
  |ok es=>
   rw[hd,he]at h2;obtain⟨S,hS,hw,hf⟩:=uL (Xe e2 (SI.ex e1).kd r1) hd;obtain⟨T,hT,hw2,hf2⟩:=uL r2 he;refine⟨v,v2,S,T,_,_,rfl,hS,hT,hw.choose_spec.1,hw2.choose_spec.1,?_⟩;cases firm with
   |true=>exact h2 _ (λg H=>S.cf X.K ds g H/\T.cf X.K es g H) H2 (e1.trans e2) (En.of (λ_ _ z=>⟨Src.GP z.1,Src.GP z.2⟩) (λg H H' k c e=>⟨Src.ji true g g H H' k c.1 (Gr.ex e),Src.ji true g g H H' k c.2 (Gr.ex e)⟩) λg g' H H' k c r e=>⟨Src.ji true g g' H H' k c.1 r,Src.ji true g g' H H' k c.2 r⟩) ⟨hf rfl,hf2 rfl⟩ λ_=>λq g g' H H' k c r=>⟨Src.ji q g g' H H' k c.1 r,Src.ji q g g' H H' k c.2 r⟩
   |false=>exact h2 _ _ H2 (e1.trans e2) En ⟨hw,hw2⟩ λz=>nomatch z
end
def WF:WX:=λ_ _ _ _=>False
def ni{α:Type}:Out α->Out α
 |.ok a=>.ok a
 |_=>.bad
@[simp]theorem abG {α:Type} (a:α):ni (.ok a)=.ok a:=rfl
theorem mU{α:Type}{o:Out α}{P:α->Prop}{E E':aY->Prop}(h:(ni o).sat P E):o.sat P E':=by
 cases o
 .exact h
 .exact aev h
 .exact h
def aV(tg:bH)(tt:QT)(te:QF)(M:Mo)(Z:Env):List Dat->Out (List Dat)
 |[]=>.ok []
 |d::ds=>match tg d Z with
  |none=>.bad
  |some Z1=>(ni (tt M Z1)).bind λb=>if b=true then(ni (te M Z1)).bind λy=>(aV tg tt te M Z ds).bind λr=>.ok (y::r) else aV tg tt te M Z ds
def jC(it:IF)(tg:bH)(vs:List Nat)(tt:QT)(te:QF):QF:=λM Z=>(it M Z).bind λds=>Out.when (decide (ds.length<=50000)) ((aV tg tt te M (aO Z vs) ds).bind λr=>.ok (.list r))
def nR:QT:=λ_ _=>.ok true
def FZ(K:adh)(aj:aq)(W:WX)(f:IF):TE:=λσ H Q=>∃g Z M,SInv K aj σ H g Z M/\(f M Z).sat (λxs=>∀l us H',H l=none->Ex H H'->H' l=some (.lst us)->ao K (g.add l) H' us xs->Q (.ref l) H') (gQ K aj W g H σ)
def jY(it:IF)(tg:bH)(vs:List Nat)(tt:QT)(te:QF):IF:=λM Z=>(it M Z).bind λds=>Out.when (decide (ds.length<=50000)) (aV tg tt te M (aO Z vs) ds)
section
variable{K:adh}{aj:aq}{W:WX}
theorem BK{g:Gh}{H:Hp}{D:Addr}{o o':HO}{vs:List V}{ds:List Dat}(k:Kd g H)(h:H D=some o)(l:g.Lo D)(r:ao K g H vs ds):ao K g (upd H D o') vs ds:=r.gr (Gr.upd (q:=true) k h (.inr l)) k
theorem Rh{g:Gh}{H:Hp}{D:Addr}{o o':HO}{v:V}{d:Dat}(k:Kd g H)(h:H D=some o)(l:g.Lo D)(r:Rep K g H v d):Rep K g (upd H D o') v d:=r.gr (Gr.upd (q:=true) k h (.inr l)) k
theorem ig{tg:bH}{tt:QT}{te:QF}{M:Mo}{Z:Env}:∀{ds:List Dat} {x:aY},aV tg tt te M Z ds≠.exc x
 |[],_,h=>nomatch h
 |d::ds,x,h=>by
  rw[aV]at h;split at h
  .cases h
  .next Z1 e=>
   cases h1:tt M Z1 with
   |bad=>rw[h1]at h;cases h
   |exc y=>rw[h1]at h;cases h
   |ok b=>
    rw[h1]at h;cases b with
    |false=>exact ig h
    |true=>
     have h:((ni (te M Z1)).bind λy=>(aV tg tt te M Z ds).bind λr=>Out.ok (y::r))=.exc x:=h;cases h2:te M Z1 with
     |bad=>rw[h2]at h;cases h
     |exc y=>rw[h2]at h;cases h
     |ok y=>
      rw[h2]at h;cases h3:aV tg tt te M Z ds with
      |bad=>rw[h3]at h;cases h
      |exc z=>exact ig h3
      |ok r=>rw[h3]at h;cases h
theorem u5(σ:L2.St)(i:Nat):∀vs:List Nat,(L2.wipe σ vs)[i]?=if i∈vs then(σ[i]?).map (λ_=>none) else σ[i]?
 |[]=>by simp[L2.wipe]
 |v::vs=>by
  show((L2.wipe σ vs).set v none)[i]?=_
  by_cases h:v=i
  .subst h;by_cases hl:v<σ.length
   .rw[adu (by rw[wipe_length];exact hl),aeA adn,adq hl];rfl
   .have h1:σ[v]?=none:=List.getElem?_eq_none_iff.mpr (by omega);rw[aeA adn,h1,List.getElem?_eq_none_iff.mpr (by rw[adz,wipe_length];omega)];rfl
  .rw[adl h,u5 σ i vs];have:i∈v::vs↔i∈vs:=⟨λz=>by
    rcases adB.mp z with z|z
    .exact absurd z.symm h
    .exact z,adt _⟩
   simp only[this]
theorem nQ(σ:L2.St)(vs:List Nat):L2.wipe (L2.wipe σ vs) vs=L2.wipe σ vs:=by
 apply ad9;intro i;rw[u5 (L2.wipe σ vs) i vs,u5 σ i vs];split
 .cases σ[i]?<;>rfl
 .rfl
theorem wO{it:IF}{tg:bH}{js vs:List Nat}{tt:QT}{te:QF}(hj:∀j∈js,j∈vs)(σ:L2.St)(H:Hp)(Q:VK)(h:FZ K aj W (jY it tg vs tt te) σ H Q) :
  tLc (tI K aj W false it) (j6 K aj js tg) (cW K aj WF tt) (tQ K aj WF te) vs σ H Q:=by
 obtain⟨g,Z,M,I,h⟩:=h;refine⟨g,Z,M,I,h.bnd.mono (λds hk J C H1 e1 w c _ D nD=>?_) λ_ z=>z⟩;obtain⟨hz,hk⟩:=hk.gG;have hlen:=aex hz;obtain⟨total,htot,hQ⟩:∃total,aV tg tt te M (aO Z vs) ds=.ok total/\∀l us H',H l=none->Ex H H'->H' l=some (.lst us)->ao K (g.add l) H' us total->Q (.ref l) H':=by
  cases hc:aV tg tt te M (aO Z vs) ds with
  |bad=>rw[hc]at hk;exact aev hk
  |exc x=>exact absurd hc ig
  |ok total=>
   rw[hc]at hk;exact⟨total,rfl,hk⟩
 have I1:=(I.ex e1).wipe vs;have kD:∀{Ha:Hp} {us:List V},Ex H1 Ha->Ha D=some (.lst us)->SInv K aj (L2.wipe σ vs) Ha (g.add D) (aO Z vs) M:=λea hu=>I1.add nD ea hu aeu
 let Pv:Nat->Hp->Prop:=λi Ha=>Ex H1 Ha/\i<=ds.length/\∃us ys,Ha D=some (.lst us)/\ao K (g.add D) Ha us ys/\ys.length<=i/\(aV tg tt te M (aO Z vs) (ds.drop i)).sat (λr=>total=ys++r) λ_=>False
 refine⟨λi m Ha=>m=ds.length-i/\Pv i Ha,⟨ds.length,rfl,Ex.new nD,adR _,[],[],aeC,.nil,adE _,?_⟩,?_⟩
 .rw[aer,htot];rfl
 .rintro i m Ha ⟨rfl,ea,hi,us,ys,hu,hU,hy,hs⟩;have Ia:=kD ea hu;have Ca:=w.add g (g.add D) H1 Ha (I.kd.ex e1) c (Gh.oY nD ea) ea;by_cases hlt:i<ds.length
  .refine .inr ⟨w.go _ i Ha Ca hlt,Pv (i+1),λH' p=>⟨ds.length-(i+1),by omega,rfl,p⟩,λx H' y=>?_⟩;have hd:ds[i]?=some ds[i]:=adq hlt;obtain⟨e2,rx⟩:=w.yld _ i Ha x H' _ Ia.kd Ca hd y;have I2:=Ia.ex e2;rw[adY hlt,aV]at hs;split at hs
   .exact aev hs
   .next Z1 he=>
    refine⟨g.add D,_,M,_,Z1,I2,rx,he,λws I3=>⟨lQ js ws _ vs hj |>.trans (nQ σ vs),?_⟩⟩;refine cW.go I3 (mU hs.bnd) λb H3 hb e3=>?_;have I4:=I3.ex e3;have hu3:=e3 _ _ (e2 _ _ hu);have hU3:=(hU.ex e2 Ia.kd).ex e3 I2.kd;cases b with
    |false=>
     have hb:(aV tg tt te M (aO Z vs) (ds.drop (i+1))).sat (λr=>total=ys++r) λ_=>False:=hb;exact⟨(ea.trans e2).trans e3,hlt,us,ys,hu3,hU3,Nat.le_succ_of_le hy,hb⟩
    |true=>
     have hb:((ni (te M Z1)).bind λy=>(aV tg tt te M (aO Z vs) (ds.drop (i+1))).bind λr=>Out.ok (y::r)).sat (λr=>total=ys++r) λ_=>False:=hb;refine tQ.go I4 (mU hb.bnd) λy v H4 hyv e4 ry=>?_;have I5:=I4.ex e4;have hu4:=e4 _ _ hu3;have hU4:=hU3.ex e4 I4.kd;have lD:(g.add D).Lo D:=.inr rfl;refine⟨us,hu4,sz_lt (by rw[hU.length];omega),Ex.mut (((ea.trans e2).trans e3).trans e4) nD,hlt,us++[v],ys++[y],aeC,?_,by simp;omega,hyv.bnd.mono (λr hr=>?_) λ_ z=>z⟩
     .exact BK I5.kd hu4 lD (hU4.append (.cons ry .nil))
     .have hr:total=ys++y::r:=hr;rw[hr];simp
  .have e:i=ds.length:=by omega
   refine .inl ⟨w.stop _ i Ha Ca e,?_⟩;rw[e,ad3]at hs;have hs:total=ys++[]:=hs;rw[adV]at hs;subst hs;exact hQ D us Ha (mY e1 D nD) (e1.trans ea) hu hU
theorem Oo{it:IF}{tg:bH}{js vs:List Nat}{tt:QT}{te:QF}(hj:∀j∈js,j∈vs)(σ:L2.St)(H:Hp)(Q:VK)(h:tQ K aj W (jC it tg vs tt te) σ H Q) :
  tLc (tI K aj W false it) (j6 K aj js tg) (cW K aj WF tt) (tQ K aj WF te) vs σ H Q:=by
 obtain⟨g,Z,M,I,h⟩:=h;refine wO hj σ H Q ⟨g,Z,M,I,?_⟩;unfold jY;unfold jC at h;cases hi:it M Z with
 |bad=>rw[hi]at h;exact aev h
 |exc x=>rw[hi]at h;exact h
 |ok ds=>
  rw[hi]at h;obtain⟨hz,h⟩:=Out.sat.gG h;have h:=h.bnd
  show(Out.when (decide (ds.length<=50000)) (aV tg tt te M (aO Z vs) ds)).sat _ _
  rw[hz,Out.KY];exact h.mono (λxs z l us H' n e hl r=>z _ H' e (.lst (.inl ⟨hl,I.kd.fresh n⟩) (ao.less (g:=g.add l) (g':=g) rfl (λa z=>z.elim .inl λz=>.inr (z.elim .inl λz=>.inr (.inl z))) r))) λ_ z=>z
end
section
variable{X:Cx}{aj:aq}{W:WX}{elt tg iter:Expr}{pos p tpos:Pos}
theorem Wf{X:Cx}:Takes X WF:=λu s' ⟨a,B,sI,pins,σ,H,cls,d,e,I,nb,up,sky,na,os,ag,w⟩=>aev w
theorem Xd{scope:Scope}{own:List (Str×Nat)}{it:IF}{tgf:bH}{js:List Nat}{tt:QT}{te:QF}{ifs:List Expr}(hc:X.calm=true)(hN:X.N.Nodup)(hi:QI aj X W false tg iter it)(ok:blkC X.N X.env.scope scope own=true)(hj:∀j∈js,j∈own.map (·.2))
  (hg:∀(s:Shared) (H:Hp) (C:Addr) (cl:List (Str×Addr)) (fp:List Addr),QG aj (X.blk s H scope (compEnvC scope cl C X.env) fp) tg js tgf)
  (ht:∀(s:Shared) (H:Hp) (C:Addr) (cl:List (Str×Addr)) (fp:List Addr),PTs (X.blk s H scope (compEnvC scope cl C X.env) fp) ifs (cW X.K aj WF tt))
  (he:∀(s:Shared) (H:Hp) (C:Addr) (cl:List (Str×Addr)) (fp:List Addr),QE aj (X.blk s H scope (compEnvC scope cl C X.env) fp) WF elt te) (hs:∀x,foldedSetIterable iter X.env x=pure x) :
  QE aj X W (.ListComp elt [⟨tg,iter,ifs,0⟩] scope pos) (jC it tgf (own.map (·.2)) tt te):=
 PE.weak (pe_lc (g:=j6 X.K aj js tgf) (tt:=cW X.K aj WF tt) (te:=tQ X.K aj WF te) hc hN hi (blkOk_by ok) (λs H C cl fp=>hg s H C cl fp) ht (λs H C cl fp=>he s H C cl fp) hs) λσ H Q h=>Oo hj σ H Q h
theorem Ol{scope:Scope}{own:List (Str×Nat)}{it:IF}{tgf:bH}{js:List Nat}{tt:QT}{te:QF}{ifs:List Expr}(hc:X.calm=true)(hN:X.N.Nodup)(hi:QI aj X W false tg iter it)(ok:blkC X.N X.env.scope scope own=true)(hj:∀j∈js,j∈own.map (·.2))
  (hg:∀(s:Shared) (H:Hp) (C:Addr) (cl:List (Str×Addr)) (fp:List Addr),QG aj (X.blk s H scope (compEnvC scope cl C X.env) fp) tg js tgf)
  (ht:∀(s:Shared) (H:Hp) (C:Addr) (cl:List (Str×Addr)) (fp:List Addr),PTs (X.blk s H scope (compEnvC scope cl C X.env) fp) ifs (cW X.K aj WF tt))
  (he:∀(s:Shared) (H:Hp) (C:Addr) (cl:List (Str×Addr)) (fp:List Addr),QE aj (X.blk s H scope (compEnvC scope cl C X.env) fp) WF elt te) (hs:∀x,foldedSetIterable iter X.env x=pure x) :
  PE X (.ListComp elt [⟨tg,iter,ifs,0⟩] scope pos) (FZ X.K aj W (jY it tgf (own.map (·.2)) tt te)):=
 PE.weak (pe_lc (g:=j6 X.K aj js tgf) (tt:=cW X.K aj WF tt) (te:=tQ X.K aj WF te) hc hN hi (blkOk_by ok) (λs H C cl fp=>hg s H C cl fp) ht (λs H C cl fp=>he s H C cl fp) hs) λσ H Q h=>wO hj σ H Q h
end
def aG.sat{α:Type}(o:aG α)(P:α->Mo->Prop)(E:aY->Mo->Prop):Prop:=
 match o with
 |.ok a M=>P a M
 |.exc x M=>E x M
 |.bad=>False
def aG.bind{α β:Type}(o:aG α)(k:α->Mo->aG β):aG β:=
 match o with
 |.ok a M=>k a M
 |.exc x M=>.exc x M
 |.bad=>.bad
@[simp]theorem aG.Py {α β:Type} (a:α) (M:Mo) (k:α->Mo->aG β):(aG.ok a M).bind k=k a M:=rfl
@[simp]theorem aG.Oc {α β:Type} (x:aY) (M:Mo) (k:α->Mo->aG β):(aG.exc x M:aG α).bind k=.exc x M:=rfl
@[simp]theorem aG.Lj {α β:Type} (k:α->Mo->aG β):(aG.bad:aG α).bind k=.bad:=rfl
theorem aG.sat.bnd{α β:Type}{o:aG α}{k:α->Mo->aG β}{P:β->Mo->Prop}{E:aY->Mo->Prop}(h:(o.bind k).sat P E):o.sat (λa M=>(k a M).sat P E) E:=by cases o<;>exact h
theorem aG.sat.mono{α:Type}{o:aG α}{P P':α->Mo->Prop}{E E':aY->Mo->Prop}(h:o.sat P E)(hp:∀a M,P a M->P' a M)(he:∀x M,E x M->E' x M):o.sat P' E':=by
 cases o
 .exact hp _ _ h
 .exact he _ _ h
 .exact h
def Out.at{α:Type}(o:Out α)(M:Mo):aG α:=
 match o with
 |.ok a=>.ok a M
 |.exc x=>.exc x M
 |.bad=>.bad
@[simp]theorem Out.Bc {α:Type} (a:α) (M:Mo):(Out.ok a).at M=.ok a M:=rfl
@[simp]theorem Out.Tt {α:Type} (x:aY) (M:Mo):(Out.exc x:Out α).at M=.exc x M:=rfl
@[simp]theorem Out.Va {α:Type} (M:Mo):(Out.bad:Out α).at M=.bad:=rfl
theorem Out.bO{α:Type}{o:Out α}{M:Mo}{P:α->Mo->Prop}{E:aY->Mo->Prop}(h:(o.at M).sat P E):o.sat (λa=>P a M) λx=>E x M:=by cases o<;>exact h
abbrev GF:=Mo->Env->aG Dat
abbrev GT:=Mo->Env->aG Bool
def fO.sat(o:fO)(nx:Env->Mo->Prop)(rt:Dat->Mo->Prop)(bk ct:Env->Mo->Prop)(ex:aY->Env->Mo->Prop):Prop:=
 match o with
 |.next Z M=>nx Z M
 |.ret d M=>rt d M
 |.brk Z M=>bk Z M
 |.cont Z M=>ct Z M
 |.exc x Z M=>ex x Z M
 |.bad=>False
theorem fO.sat.mono{o:fO}{nx nx':Env->Mo->Prop}{rt rt':Dat->Mo->Prop}{bk bk' ct ct':Env->Mo->Prop}{ex ex':aY->Env->Mo->Prop}(h:o.sat nx rt bk ct ex)(h1:∀Z M,nx Z M->nx' Z M)(h2:∀d M,rt d M->rt' d M)(h3:∀Z M,bk Z M->bk' Z M)(h4:∀Z M,ct Z M->ct' Z M)(h5:∀x Z M,ex x Z M->ex' x Z M):o.sat nx' rt' bk' ct' ex':=by
 cases o
 .exact h1 _ _ h
 .exact h2 _ _ h
 .exact h3 _ _ h
 .exact h4 _ _ h
 .exact h5 _ _ _ h
 .exact h
abbrev SF:=Mo->Env->fO
def Gh.fr(g:Gh):Gh:={ g with Lo:=λ_=>False }
section
variable(K:adh)(aj:aq)(W:WX)(q:Bool)
def gE(g:Gh)(H:Hp)(σ:L2.St)(Z:Env)(x:aY)(M':Mo):Prop:=∀H' g' c dd,Gr q g g' H H'->SInv K aj σ H' g' Z M'->dY K aj g' H' x c dd->W c dd σ H'
def tE(f:GF):TE:=λσ H Q=>∃g Z M,SInv K aj σ H g Z M/\(f M Z).sat (λd M'=>∀v H' g',Gr q g g' H H'->SInv K aj σ H' g' Z M'->Rep K g' H' v d->Q v H') (gE K aj W q g H σ Z)
def Vw(f:GT):TT:=λσ H Q=>∃g Z M,SInv K aj σ H g Z M/\(f M Z).sat (λb M'=>∀H' g',Gr q g g' H H'->SInv K aj σ H' g' Z M'->Q b H') (gE K aj W q g H σ Z)
def sN(k:L2.St->Hp->Prop)(g:Gh)(H:Hp)(Z':Env)(M':Mo):Prop:=∀σ' H' g',Gr q g g' H H'->SInv K aj σ' H' g' Z' M'->k σ' H'
def sR(k:VK)(g:Gh)(H:Hp)(d:Dat)(M':Mo):Prop:=∀v H' g',Gr q g g' H H'->Kd g'.fr H'->aX K aj g'.fr H' M'->Rep K g'.fr H' v d->k v H'
def sX(g:Gh)(H:Hp)(x:aY)(Z':Env)(M':Mo):Prop:=∀σ' H' g' c dd,Gr q g g' H H'->SInv K aj σ' H' g' Z' M'->dY K aj g'.fr H' x c dd->W c dd σ' H'
def tS(f:SF):TS:=λD σ H=>∃g Z M,SInv K aj σ H g Z M/\(f M Z).sat (sN K aj q D.nx g H) (sR K aj q D.rt g H) (sN K aj q D.bk g H) (sN K aj q D.ct g H) (sX K aj W q g H)
end
section
variable{K:adh}{aj:aq}{W:WX}{q:Bool}{g g1:Gh}{H H1:Hp}{σ:L2.St}{Z:Env}{M:Mo}
theorem gE.gr{x:aY}{M':Mo}(r:Gr q g g1 H H1)(h:gE K aj W q g H σ Z x M'):gE K aj W q g1 H1 σ Z x M':=λH' g' c dd r' I z=>h H' g' c dd (r.trans r') I z
theorem sN.gr{k:L2.St->Hp->Prop}{Z':Env}{M':Mo}(r:Gr q g g1 H H1)(h:sN K aj q k g H Z' M'):sN K aj q k g1 H1 Z' M':=λσ' H' g' r' I=>h σ' H' g' (r.trans r') I
theorem sR.gr{k:VK}{d:Dat}{M':Mo}(r:Gr q g g1 H H1)(h:sR K aj q k g H d M'):sR K aj q k g1 H1 d M':=λv H' g' r' I z y=>h v H' g' (r.trans r') I z y
theorem sX.gr{x:aY}{Z':Env}{M':Mo}(r:Gr q g g1 H H1)(h:sX K aj W q g H x Z' M'):sX K aj W q g1 H1 x Z' M':=λσ' H' g' c dd r' I z=>h σ' H' g' c dd (r.trans r') I z
theorem tE.go{f:GF}{k:Dat->Mo->Prop}{Q:VK}(I:SInv K aj σ H g Z M)(h:(f M Z).sat k (gE K aj W q g H σ Z))(hk:∀d M' v H' g',k d M'->Gr q g g' H H'->SInv K aj σ H' g' Z M'->Rep K g' H' v d->Q v H'):tE K aj W q f σ H Q:=
 ⟨g,Z,M,I,h.mono (λd M' hd v H' g' e I' r=>hk d M' v H' g' hd e I' r) λ_ _ z=>z⟩
theorem Vw.go{f:GT}{k:Bool->Mo->Prop}{Q:Bool->Hp->Prop}(I:SInv K aj σ H g Z M)(h:(f M Z).sat k (gE K aj W q g H σ Z))(hk:∀b M' H' g',k b M'->Gr q g g' H H'->SInv K aj σ H' g' Z M'->Q b H'):Vw K aj W q f σ H Q:=
 ⟨g,Z,M,I,h.mono (λd M' hd H' g' e I'=>hk d M' H' g' hd e I') λ_ _ z=>z⟩
theorem tS.go{f:SF}{D:Ends}(I:SInv K aj σ H1 g1 Z M)(r:Gr q g g1 H H1)(h:(f M Z).sat (sN K aj q D.nx g H) (sR K aj q D.rt g H) (sN K aj q D.bk g H) (sN K aj q D.ct g H) (sX K aj W q g H)):tS K aj W q f D σ H1:=
 ⟨g1,Z,M,I,h.mono (λ_ _ z=>z.gr r) (λ_ _ z=>z.gr r) (λ_ _ z=>z.gr r) (λ_ _ z=>z.gr r) (λ_ _ _ z=>z.gr r)⟩
theorem cJ.less{g':Gh}{fs:List (Str×V)}{gs:List (Str×Dat)}(e:g'.tk=g.tk)(n:∀a,g'.A a->g.A a)(h:cJ K g H fs gs):cJ K g' H fs gs:=by
 induction h with
 |nil=>exact .nil
 |cons r _ ih=>exact .cons (r.less e n) ih
theorem dY.less{g':Gh}{x:aY}{c:Value}{dd:Option Addr}(e:g'.tk=g.tk)(n:∀a,g'.A a->g.A a)(h:dY K aj g H x c dd):dY K aj g' H x c dd:=by obtain⟨C,h1,h2,h3⟩:=h;refine⟨C,h1,h2,h3.imp id λ⟨a,fs,e1,e2,e3⟩=>⟨a,fs,e1,e2,e3.less e n⟩⟩
theorem jJ(g:Gh):∀a,g.fr.A a->g.A a:=λa z=>z.elim .inl λz=>.inr (z.elim .inl λz=>aev z)
theorem Rep.fr{v:V}{d:Dat}(h:Rep K g H v d):Rep K g.fr H v d:=Rep.less (g:=g) (g':=g.fr) rfl (jJ g) h
theorem ao.fr{v:List V}{d:List Dat}(h:ao K g H v d):ao K g.fr H v d:=ao.less (g:=g) (g':=g.fr) rfl (jJ g) h
theorem dY.fr{x:aY}{c:Value}{dd:Option Addr}(h:dY K aj g H x c dd):dY K aj g.fr H x c dd:=dY.less (g:=g) (g':=g.fr) rfl (jJ g) h
end
def GE(aj:aq)(X:Cx)(W:WX)(q:Bool)(e:Expr)(f:GF):Prop:=PE X e (tE X.K aj W q f)
def Yr(aj:aq)(X:Cx)(W:WX)(q:Bool)(e:Expr)(f:GT):Prop:=PT X e (Vw X.K aj W q f)
def SE(aj:aq)(X:Cx)(W:WX)(q:Bool)(s:Stmt)(f:SF):Prop:=PS X s (tS X.K aj W q f)
def qW(aj:aq)(X:Cx)(W:WX)(q:Bool)(s:List Stmt)(f:SF):Prop:=PSs X s (tS X.K aj W q f)
theorem PS.weak{X:Cx}{e:Stmt}{t t':TS}(h:PS X e t)(k:∀D σ H,t' D σ H->t D σ H):PS X e t':=⟨λpins s σ H D I z=>h.run pins s σ H D I (k D σ H z)⟩
theorem PSs.weak{X:Cx}{e:List Stmt}{t t':TS}(h:PSs X e t)(k:∀D σ H,t' D σ H->t D σ H):PSs X e t':=⟨λpins s σ H D I z=>h.run pins s σ H D I (k D σ H z)⟩
def gOf(f:QF):GF:=λM Z=>(f M Z).at M
def M4(f:QT):GT:=λM Z=>(f M Z).at M
section
variable{X:Cx}{aj:aq}{W:WX}{q:Bool}{a b e:Expr}{pos:Pos}
theorem Pb{f:QF}(h:QE aj X W e f):GE aj X W q e (gOf f):=PE.weak h λσ H Q ⟨g,Z,M,I,z⟩=>
 ⟨g,Z,M,I,(Out.bO z).mono (λd k v H' e r=>k v H' g (Gr.ex e) (I.ex e) r) λx k H' c dd e r=>k H' g c dd (Gr.ex e) (I.ex e) r⟩
theorem Yg{f:QT}(h:iT aj X W e f):Yr aj X W q e (M4 f):=PT.weak h λσ H Q ⟨g,Z,M,I,z⟩=>
 ⟨g,Z,M,I,(Out.bO z).mono (λd k H' e=>k H' g (Gr.ex e) (I.ex e)) λx k H' c dd e r=>k H' g c dd (Gr.ex e) (I.ex e) r⟩
def bf:SF:=λM Z=>.next Z M
def aH(f k:SF):SF:=λM Z=>match f M Z with
 |.next Z' M'=>k M' Z'
 |o=>o
theorem VB:qW aj X W q [] bf:=PSs.weak pss_nil λD σ H ⟨g,Z,M,I,z⟩=>z σ H g .refl I
theorem Vi{s:Stmt}{f:SF}(h:SE aj X W q s f):qW aj X W q [s] f:=pss_one h
theorem Qi{s:Stmt}{ss:List Stmt}{f k:SF}(h:SE aj X W q s f)(hs:qW aj X W q ss k):qW aj X W q (s::ss) (aH f k):=by
 refine PSs.weak (pss_cons h hs) λD σ H ⟨g,Z,M,I,z⟩=>?_;refine⟨g,Z,M,I,?_⟩;unfold aH at z;cases hf:f M Z with
 |next Z' M'=>
  rw[hf]at z;exact λσ' H' g' r I'=>tS.go I' r z
 |ret d M'=>rw[hf]at z;exact z
 |brk Z' M'=>rw[hf]at z;exact z
 |cont Z' M'=>rw[hf]at z;exact z
 |exc x Z' M'=>rw[hf]at z;exact z
 |bad=>rw[hf]at z;exact z
def aG.then{α:Type}(o:aG α)(Z:Env)(k:α->Mo->fO):fO:=
 match o with
 |.ok a M=>k a M
 |.exc x M=>.exc x Z M
 |.bad=>.bad
@[simp]theorem aG.uN {α:Type} (a:α) (M:Mo) (Z:Env) (k:α->Mo->fO):(aG.ok a M).then Z k=k a M:=rfl
@[simp]theorem aG.Ml {α:Type} (x:aY) (M:Mo) (Z:Env) (k:α->Mo->fO):(aG.exc x M:aG α).then Z k=.exc x Z M:=rfl
@[simp]theorem aG.Nz {α:Type} (Z:Env) (k:α->Mo->fO):(aG.bad:aG α).then Z k=.bad:=rfl
theorem aU{α:Type}{K:adh}{g:Gh}{H:Hp}{σ:L2.St}{Z:Env}{o:aG α}{k:α->Mo->fO}{nx bk ct:Env->Mo->Prop}{rt:Dat->Mo->Prop}(h:(o.then Z k).sat nx rt bk ct (sX K aj W q g H)):o.sat (λa M=>(k a M).sat nx rt bk ct (sX K aj W q g H)) (gE K aj W q g H σ Z):=by
 cases o with
 |ok a M=>exact h
 |exc x M=>exact λH' g' c dd r I z=>h σ H' g' c dd r I z.fr
 |bad=>exact h
def bJ(tg:bH)(f:GF):SF:=λM Z=>(f M Z).then Z λd M'=>match tg d Z with
 |some Z'=>.next Z' M'
 |none=>.bad
theorem vL{tg:Expr}{js:List Nat}{tf:bH}{f:GF}(he:GE aj X W q e f)(hg:QG aj X tg js tf)(hs:swapsWithSole [tg] e pos.line X.env=pure false)(hw:swappedStores [tg] e X.env=pure none)(h1:(assignEach [tg] X.env).map (·.2)=[assign tg X.env]):SE aj X W q (.Assign [tg] e pos) (bJ tf f):=by
 refine PS.weak (ps_asg he hg hs hw h1) λD σ H ⟨g,Z,M,I,z⟩=>?_;refine tE.go I (aU (σ:=σ) z) λd M' v H' g' k r I' rv=>?_;split at k
 .next Z' e'=>exact⟨g',Z,M',d,Z',I',rv,e',λvs I2=>k _ H' g' r I2⟩
 .exact aev k
def lA(f:GF):SF:=λM Z=>(f M Z).then Z λ_ M'=>.next Z M'
theorem uE{f:GF}(he:GE aj X W q e f)(hs:swapsWith e none pos.line X.env=pure false):SE aj X W q (.Expr e pos) (lA f):=by refine PS.weak (ps_expr he hs) λD σ H ⟨g,Z,M,I,z⟩=>?_;exact tE.go I (aU (σ:=σ) z) λd M' v H' g' k r I' rv=>k σ H' g' r I'
end
def vM:Cell->Cell
 |.mut xs=>.dat (.list xs)
 |c=>c
def iH(Z:Env):Env:=Z.map λo=>o.map vM
section
variable{K:adh}{aj:aq}{W:WX}{q:Bool}{g:Gh}{H:Hp}{σ:L2.St}{Z:Env}{M:Mo}
theorem bT.less{g':Gh}{l:Addr}(e:g'.tk=g.tk)(n:∀a,g'.A a->g.A a):∀{b:Bool} {kvs:List (Dat×Dat)},bT K aj g H l b kvs->bT K aj g' H l b kvs
 |false,_,⟨kv,h1,h2,h3⟩=>⟨kv,h1,h2,h3.less e n⟩
 |true,_,⟨o,xs,vs,h1,h2,h3,h4,h5,h6⟩=>⟨o,xs,vs,h1,h2,h3,h4.less e n,h5,h6.less e n⟩
theorem aR.less{g':Gh}{h:Nat}{f:Str}{v:V}(e:g'.tk=g.tk)(e2:g'.ow=g.ow)(n:∀a,g'.A a->g.A a):∀{fl:bM},aR K aj g H h f v fl->aR K aj g' H h f v fl
 |.dat _,z=>Rep.less e n z
 |.lst _ _,⟨l,us,h1,h2,h3,h4,h5⟩=>⟨l,us,h1,h2,by rw[e2];exact h3,h4.less e n,by rw[Gh.nO e];exact h5⟩
 |.dic _ _,⟨l,h1,h2,h3⟩=>⟨l,h1,by rw[e2];exact h2,h3.less e n⟩
theorem aK.less{g':Gh}{h:Nat}(e:g'.tk=g.tk)(e2:g'.ow=g.ow)(n:∀a,g'.A a->g.A a):∀{fs:List (Str×V)} {gs:List (Str×bM)},aK K aj g H h fs gs->aK K aj g' H h fs gs
 |_,_,.nil=>.nil
 |_,_,.cons z t=>.cons (aR.less e e2 n z) (aK.less e e2 n t)
theorem aX.less{g':Gh}(e:g'.tk=g.tk)(e2:g'.ow=g.ow)(n:∀a,g'.A a->g.A a)(w:aX K aj g H M):aX K aj g' H M where
 len:=by rw[Gh.nO e];exact w.len
 inj:=by rw[Gh.nO e];exact w.inj
 ins:=λh a i ha hi hc=>by
  rw[Gh.nO e]at ha;obtain⟨C,dx,fs,c1,c2,c3⟩:=w.ins h a i ha hi hc;exact⟨C,dx,fs,c1,c2,c3.less e e2 n⟩
 nd:=w.nd
 fd:=w.fd
 tw:=by rw[Gh.nO e,e2];exact w.tw
 li:=λh a xs ha hi=>by
  rw[Gh.nO e]at ha;obtain⟨us,h1,h2,h3⟩:=w.li h a xs ha hi;exact⟨us,h1,by rw[e2];exact h2,h3.less e n⟩
 nc:=w.nc
theorem vf{i:Nat}{c:Cell}(h:(iH Z)[i]?=some (some c)):∃c',Z[i]?=some (some c')/\c=vM c':=by
 unfold iH at h;rw[adw]at h;cases hr:Z[i]? with
 |none=>rw[hr]at h;cases h
 |some o=>
  rw[hr]at h;cases o with
  |none=>cases h
  |some c'=>
   cases h;exact⟨c',rfl,rfl⟩
theorem SInv.iH(I:SInv K aj σ H g Z M):SInv K aj σ H g.fr (iH Z) M where
 kd:=⟨λa z=>I.kd.ob a (jJ g a z),λa z=>aev z,λa z=>⟨(I.kd.lc a z).1,λy=>y⟩⟩
 wok:=aX.less (g:=g) (g':=g.fr) rfl rfl (jJ g) I.wok
 len:=by unfold Rf.iH;rw[adp];exact I.len
 dat:=λi d h=>by
  obtain⟨c,h1,h2⟩:=vf h;cases c with
  |dat d'=>
   cases h2;obtain⟨v,e1,e2⟩:=I.dat i _ h1;exact⟨v,e1,e2.fr⟩
  | «mut» xs=>
   cases h2;obtain⟨l,us,e1,e2,e3,e4⟩:=I.own i _ h1;refine⟨_,e1,.lst (.inl ⟨e2,λz=>?_⟩) e4.fr⟩;rcases z with z|z|z
   .exact I.kd.lo l e3 z
   .exact(I.kd.lc l z).2 e3
   .exact z
 own:=λi xs h=>by
  obtain⟨c,h1,h2⟩:=vf h;cases c<;>cases h2
 sep:=λi j xs ys l ne h1=>by
  obtain⟨c,h1,h2⟩:=vf h1;cases c<;>cases h2
end
section
variable{K:adh}{aj:aq}{W:WX}{q:Bool}{g g':Gh}{H H':Hp}{σ:L2.St}{Z:Env}{M:Mo}
theorem Kd.fr(k:Kd g H):Kd g.fr H:=⟨λa z=>k.ob a (jJ g a z),λa z=>aev z,λa z=>⟨(k.lc a z).1,λy=>y⟩⟩
theorem aX.fr(w:aX K aj g H M):aX K aj g.fr H M:=aX.less (g:=g) (g':=g.fr) rfl rfl (jJ g) w
theorem bG{α:Type}{l:List (Option α)}{j i:Nat}{c:α}{o:Option α}(h:(l.set j o)[i]?=some (some c)):(j=i/\o=some c/\j<l.length)\/(j≠i/\l[i]?=some (some c)):=by
 by_cases z:j=i
 .subst z;have hj:j<l.length:=by
   have:=(adk.mp h).1;rw[adz]at this;exact this
  rw[adu hj]at h;exact .inl ⟨rfl,adx h,hj⟩
 .rw[adl z]at h;exact .inr ⟨z,h⟩
theorem SInv.UJ{j:Nat}{l:Addr}{us:List V}{xs:List Dat}(I:SInv K aj σ H g Z M)(n:H l=none)(e:Ex H H')(hl:H' l=some (.lst us))(r:ao K (g.add l) H' us xs):SInv K aj (σ.set j (some (.ref l))) H' (g.add l) (Z.set j (some (.mut xs))) M:=by
 have I1:=I.add n e hl aeu;have nl:∀(i:Nat) (ys:List Dat),Z[i]?=some (some (.mut ys))->σ[i]?≠some (some (.ref l)):=λi ys h z=>by
  obtain⟨l',us',h1,h2,_⟩:=I.own i ys h;rw[z]at h1;cases h1;rw[n]at h2;cases h2
 refine⟨I1.kd,I1.wok,by rw[adz,adz];exact I.len,λi d h=>?_,λi ys h=>?_,λi k ys zs a ne h1 h2 h3 h4=>?_⟩
 .rcases bG h with⟨_,h,_⟩|⟨ne,h⟩
  .cases h
  .rw[adl ne];exact I1.dat i d h
 .rcases bG h with⟨rfl,h,hj⟩|⟨ne,h⟩
  .cases h;exact⟨l,us,by rw[adu (by rw[I.len];exact hj)],hl,.inr rfl,r⟩
  .rw[adl ne];exact I1.own i ys h
 .rcases bG h1 with⟨rfl,h1,hj⟩|⟨n1,h1⟩
  .rcases bG h2 with⟨rfl,h2,_⟩|⟨n2,h2⟩
   .exact ne rfl
   .rw[adu (by rw[I.len];exact hj)]at h3;cases h3;rw[adl n2]at h4;exact nl k zs h2 h4
  .rcases bG h2 with⟨rfl,h2,hj⟩|⟨n2,h2⟩
   .rw[adu (by rw[I.len];exact hj)]at h4;cases h4;rw[adl n1]at h3;exact nl i ys h1 h3
   .rw[adl n1]at h3;rw[adl n2]at h4;exact I.sep i k ys zs a ne h1 h2 h3 h4
theorem aR.loc{l:Addr}{o o':HO}{h:Nat}{f:Str}{v:V}(k:Kd g H)(hl:H l=some o)(lo:g.Lo l):∀{fl:bM},aR K aj g H h f v fl->aR K aj g (upd H l o') h f v fl:=λ{fl} z=>by
 have r:Gr true g g H (upd H l o'):=Gr.upd k hl (.inr lo);cases fl with
 |dat d=>exact Rep.gr r k z
 |lst n xs=>
  obtain⟨a,ws,h1,h2,h3,h4,h5⟩:=z;exact⟨a,ws,h1,by rw[upd_ne (λz=>by subst z;exact k.lo _ lo (.inr (by rw[h3];exact λz=>nomatch z)))];exact h2,h3,h4.gr r k,h5⟩
 |dic n kvs=>
  obtain⟨a,h1,h2,h3⟩:=z;have na:a≠l:=λz=>by subst z;exact k.lo _ lo (.inr (by rw[h2];exact λz=>nomatch z))
  refine⟨a,h1,h2,?_⟩;cases n with
  |false=>
   obtain⟨kv,h3,h4,h5⟩:=h3;exact⟨kv,by rw[upd_ne na];exact h3,h4,h5.gr r k⟩
  |true=>
   obtain⟨o,xs,vs,h3,h4,h5,h6,h7,h8⟩:=h3;exact⟨o,xs,vs,by rw[upd_ne na];exact h3,h4,h5,h6.gr r k,h7,h8.gr r k⟩
theorem aK.loc{l:Addr}{o o':HO}{h:Nat}(k:Kd g H)(hl:H l=some o)(lo:g.Lo l):∀{fs:List (Str×V)} {gs:List (Str×bM)},aK K aj g H h fs gs->aK K aj g (upd H l o') h fs gs
 |_,_,.nil=>.nil
 |_,_,.cons z t=>.cons (aR.loc k hl lo z) (aK.loc k hl lo t)
theorem aX.loc{l:Addr}{o o':HO}(k:Kd g H)(hl:H l=some o)(lo:g.Lo l)(w:aX K aj g H M):aX K aj g (upd H l o') M where
 len:=w.len
 inj:=w.inj
 ins:=λh a i ha hi hc=>by
  obtain⟨C,dx,fs,c1,c2,c3⟩:=w.ins h a i ha hi hc;exact⟨C,dx,fs,c1,by rw[upd_ne (λz=>by subst z;exact k.lo _ lo (.inl (adH ha)))];exact c2,c3.loc k hl lo⟩
 nd:=w.nd
 fd:=w.fd
 tw:=w.tw
 li:=λh a xs ha hi=>by
  obtain⟨us,h1,h2,h3⟩:=w.li h a xs ha hi;exact⟨us,by rw[upd_ne (λz=>by subst z;exact k.lo _ lo (.inl (adH ha)))];exact h1,h2,h3.gr (Gr.upd (q:=true) k hl (.inr lo)) k⟩
 nc:=w.nc
theorem SInv.change{j:Nat}{xs ys:List Dat}(I:SInv K aj σ H g Z M)(hj:Z[j]?=some (some (.mut xs))):∃l us,σ[j]?=some (some (.ref l))/\H l=some (.lst us)/\g.Lo l/\ao K g H us xs/\∀us',ao K g H us' ys->SInv K aj σ (upd H l (.lst us')) g (Z.set j (some (.mut ys))) M:=by
 obtain⟨l,us,h1,h2,h3,h4⟩:=I.own j xs hj;refine⟨l,us,h1,h2,h3,h4,λus' r=>?_⟩;have gr:Gr true g g H (upd H l (.lst us')):=Gr.upd I.kd h2 (.inr h3);refine⟨I.kd.upd aeu,I.wok.loc I.kd h2 h3,by rw[adz];exact I.len,λi d h=>?_,λi zs h=>?_,λi k zs ws a ne e1 e2 e3 e4=>?_⟩
 .rcases bG h with⟨_,h,_⟩|⟨ne,h⟩
  .cases h
  .obtain⟨v,e1,e2⟩:=I.dat i d h;exact⟨v,e1,e2.gr gr I.kd⟩
 .rcases bG h with⟨rfl,h,_⟩|⟨ne,h⟩
  .cases h;exact⟨l,us',h1,aeC,h3,r.gr gr I.kd⟩
  .obtain⟨l',ws,e1,e2,e3,e4⟩:=I.own i zs h;have nl:l'≠l:=λz=>by
    subst z;exact I.sep i j zs xs l' (Ne.symm ne) h hj e1 h1
   exact⟨l',ws,e1,by rw[upd_ne nl];exact e2,e3,e4.gr gr I.kd⟩
 .have k1:∃xs,Z[i]?=some (some (.mut xs)):=by
   rcases bG e1 with⟨rfl,_,_⟩|⟨_,h⟩
   .exact⟨xs,hj⟩
   .exact⟨zs,h⟩
  have k2:∃xs,Z[k]?=some (some (.mut xs)):=by
   rcases bG e2 with⟨rfl,_,_⟩|⟨_,h⟩
   .exact⟨xs,hj⟩
   .exact⟨ws,h⟩
  obtain⟨x1,k1⟩:=k1;obtain⟨x2,k2⟩:=k2;exact I.sep i k x1 x2 a ne k1 k2 e3 e4
end
section
variable{X:Cx}{aj:aq}{W:WX}{q:Bool}{a b e:Expr}{pos:Pos}
def aZ(f:QF):SF:=λM Z=>((f M (iH Z)).at M).then Z λd M'=>.ret d M'
def vP(f:GF):SF:=λM Z=>(f M Z).then Z λd M'=>.ret d M'
theorem R4{f:QF}(he:QE aj X W e f):SE aj X W q (.Return (some e) pos) (aZ f):=by
 refine PS.weak (ps_ret he) λD σ H ⟨g,Z,M,I,z⟩=>?_;refine⟨g.fr,iH Z,M,I.iH,?_⟩;unfold aZ at z;cases hf:f M (iH Z) with
 |ok d=>
  rw[hf]at z;exact λv H' e r=>z v H' g (Gr.ex e) (I.ex e).kd.fr (I.ex e).wok.fr r
 |exc x=>
  rw[hf]at z;exact λH' c dd e r=>z σ H' g c dd (Gr.ex e) (I.ex e) r
 |bad=>rw[hf]at z;exact aev z
theorem QS{f:GF}(he:GE aj X W q e f):SE aj X W q (.Return (some e) pos) (vP f):=by refine PS.weak (ps_ret he) λD σ H ⟨g,Z,M,I,z⟩=>?_;exact tE.go I (aU (σ:=σ) z) λd M' v H' g' k r I' rv=>k v H' g' r I'.kd.fr I'.wok.fr rv.fr
def dI(t:QT)(f k:SF):SF:=λM Z=>((t M (iH Z)).at M).then Z λc M'=>if c=true then f M' Z else k M' Z
def Y7(t:GT)(f k:SF):SF:=λM Z=>(t M Z).then Z λc M'=>if c=true then f M' Z else k M' Z
theorem W8{c:Expr}{s1 s2:List Stmt}{t:QT}{f k:SF}(hc:iT aj X W c t)(h1:qW aj X W q s1 f)(h2:qW aj X W q s2 k):SE aj X W q (.If c s1 s2 pos) (dI t f k):=by
 refine PS.weak (ps_if hc h1 h2) λD σ H ⟨g,Z,M,I,z⟩=>?_;refine⟨g.fr,iH Z,M,I.iH,?_⟩;unfold dI at z;cases hf:t M (iH Z) with
 |ok d=>
  rw[hf]at z;intro H' e;cases d with
  |true=>exact tS.go (I.ex e) (Gr.ex e) z
  |false=>exact tS.go (I.ex e) (Gr.ex e) z
 |exc x=>
  rw[hf]at z;exact λH' c dd e r=>z σ H' g c dd (Gr.ex e) (I.ex e) r
 |bad=>rw[hf]at z;exact aev z
def eE(tg:bH)(body:SF):List Dat->Mo->Env->fO
 |[],M,Z=>.next Z M
 |d::ds,M,Z=>match tg d Z with
  |none=>.bad
  |some Z1=>match body M Z1 with
   |.next Z2 M2=>eE tg body ds M2 Z2
   |.cont Z2 M2=>eE tg body ds M2 Z2
   |.brk Z2 M2=>.next Z2 M2
   |.ret d M2=>.ret d M2
   |.exc x Z2 M2=>.exc x Z2 M2
   |.bad=>.bad
def lV(it:IF)(tg:bH)(body:SF):SF:=λM Z=>((it M Z).at M).then Z λds M'=>eE tg body ds M' Z
theorem VP{tg iter:Expr}{body:List Stmt}{it:IF}{js:List Nat}{tf:bH}{f:SF}(hp:PassesOwn (model X.prog X.w) X.A X.env X.xe)(hc:X.calm=true)(hi:QI aj X W true tg iter it)(hg:QG aj X tg js tf)(hb:qW aj X W q body f)(hs:∀x,foldedSetIterable iter X.env x=pure x) :
  SE aj X W q (.For tg iter body [] pos) (lV it tf f):=by
 refine PS.weak (ps_for hp hc hi hg hb hs) λD σ H ⟨g,Z,M,I,z⟩=>?_;refine⟨g,Z,M,I,?_⟩;unfold lV at z;cases hf:it M Z with
 |exc x=>
  rw[hf]at z;exact λH' c dd e r=>z σ H' g c dd (Gr.ex e) (I.ex e) r.fr
 |bad=>rw[hf]at z;exact aev z
 |ok ds=>
  rw[hf]at z;intro J C H1 e1 w c1 firm;have firm:=firm rfl;have z:(eE tf f ds M Z).sat (sN X.K aj q D.nx g H) (sR X.K aj q D.rt g H) (sN X.K aj q D.bk g H) (sN X.K aj q D.ct g H) (sX X.K aj W q g H):=z
  let Pv:Nat->L2.St->Hp->Prop:=λi σi Hi=>i<=ds.length/\∃gi ρi Mi,Gr q g gi H Hi/\SInv X.K aj σi Hi gi ρi Mi/\C gi Hi/\(eE tf f (ds.drop i) Mi ρi).sat (sN X.K aj q D.nx g H) (sR X.K aj q D.rt g H) (sN X.K aj q D.bk g H) (sN X.K aj q D.ct g H) (sX X.K aj W q g H)
  refine⟨λi m σi Hi=>m=ds.length-i/\Pv i σi Hi,⟨ds.length,rfl,adR _,g,Z,M,Gr.ex e1,I.ex e1,c1,by rw[aer];exact z⟩,?_⟩;rintro i m σi Hi ⟨rfl,hi,gi,ρi,Mi,ri,Ii,Ci,zi⟩;by_cases hlt:i<ds.length
  .refine .inr ⟨w.go _ i Hi Ci hlt,Pv (i+1),λσ' H' p=>⟨ds.length-(i+1),by omega,rfl,p⟩,λx H' y=>?_⟩;have hd:ds[i]?=some ds[i]:=adq hlt;obtain⟨e2,rx⟩:=w.yld _ i Hi x H' _ Ii.kd Ci hd y;rw[adY hlt,eE]at zi;split at zi
   .exact aev zi
   .next Z1 he=>
    have I2:=Ii.ex e2;refine⟨gi,ρi,Mi,_,Z1,I2,rx,he,λvs I3=>⟨gi,Z1,Mi,I3,?_⟩⟩;have r2:=ri.trans (Gr.ex e2);cases hb':f Mi Z1 with
    |next Z2 M2=>
     rw[hb']at zi;exact λσ' H2 g2 r I'=>⟨hlt,g2,Z2,M2,r2.trans r,I',firm q gi g2 H' H2 I2.kd (w.ex _ _ _ Ii.kd Ci e2) r,zi⟩
    |cont Z2 M2=>
     rw[hb']at zi;exact λσ' H2 g2 r I'=>⟨hlt,g2,Z2,M2,r2.trans r,I',firm q gi g2 H' H2 I2.kd (w.ex _ _ _ Ii.kd Ci e2) r,zi⟩
    |brk Z2 M2=>
     rw[hb']at zi;exact sN.gr r2 zi
    |ret d M2=>
     rw[hb']at zi;exact sR.gr r2 zi
    |exc x Z2 M2=>
     rw[hb']at zi;exact sX.gr r2 zi
    |bad=>rw[hb']at zi;exact aev zi
  .have e:i=ds.length:=by omega
   refine .inl ⟨w.stop _ i Hi Ci e,?_⟩;rw[e,ad3]at zi;exact zi σi Hi gi ri Ii
def GZ(j:Nat)(f:QF):SF:=λM Z=>match Z[j]? with
 |some (some (.dat (.int i)))=>((f M Z).at M).then Z λd M'=>match d with
  |.int k=>.next (Z.set j (some (.dat (.int (i+k))))) M'
  |_=>.bad
 |_=>.bad
theorem Wb{j:Nat}{x:Str}{f:QF}{pos':Pos}(hN:X.N.Nodup)(hi:X.N[j]?=some x)(hx:Loc X.env.scope x)(hf:X.fn x=true\/X.env.scope.names.lookup x=some .local)(he:QE aj X W e f):SE aj X W q (.AugAssign (.Name x pos') .Add e pos) (GZ j f):=by
 refine PS.weak (ps_aug hN hi hx he ip_add hf) λD σ H ⟨g,Z,M,I,z⟩=>?_;unfold GZ at z;split at z
 .next i hj=>
  obtain⟨v,h1,h2⟩:=I.dat j _ hj;cases h2;refine⟨.int i,h1,⟨g,Z,M,I,?_⟩⟩;cases hf':f M Z with
  |exc x=>rw[hf']at z;exact λH' c dd e r=>z σ H' g c dd (Gr.ex e) (I.ex e) r.fr
  |bad=>rw[hf']at z;exact aev z
  |ok d=>
   rw[hf']at z;intro u H' e r;cases d with
   |int k=>
    cases r;exact⟨i,k,rfl,rfl,z _ H' g (Gr.ex e) ((I.ex e).set (.int _))⟩
   |_=>exact aev z
 .exact aev z
def FE(aj:aq)(X:Cx)(W:WX)(e:Expr)(f:IF):Prop:=PE X e (FZ X.K aj W f)
def rK(j:Nat)(f:IF):SF:=λM Z=>((f M Z).at M).then Z λxs M'=>.next (Z.set j (some (.mut xs))) M'
theorem Jr{j:Nat}{f:IF}(D:Ends)(σ:L2.St)(H:Hp)(h:tS X.K aj W q (rK j f) D σ H):tAsg (FZ X.K aj W f) (gName j) D σ H:=by
 obtain⟨g,Z,M,I,z⟩:=h;refine⟨g,Z,M,I,?_⟩;unfold rK at z;cases hf:f M Z with
 |exc x=>rw[hf]at z;exact λH' c dd e r=>z σ H' g c dd (Gr.ex e) (I.ex e) r.fr
 |bad=>rw[hf]at z;exact aev z
 |ok xs=>
  rw[hf]at z;intro l us H' n e hl r;have gr:Gr true g (g.add l) H H':=Gh.oY n e;refine z _ H' (g.add l) ?_ (I.UJ n e hl r);cases q with
  |true=>exact gr
  |false=>exact gr.loud
theorem JK{j:Nat}{x:Str}{f:IF}{pos':Pos}(hN:X.N.Nodup)(hi:X.N[j]?=some x)(hx:Loc X.env.scope x)(hf:X.fn x=true\/X.env.scope.names.lookup x=some .local)(he:FE aj X W e f)(hs:swapsWith e (some (.Name x pos')) pos.line X.env=pure false):SE aj X W q (.Assign [.Name x pos'] e pos) (rK j f):=
 PS.weak (ps_set hN hi hx he hs hf) λD σ H h=>Jr D σ H h
def GD(f:QA):IF:=λM Z=>(f M Z).bind λxs=>Out.when (decide (xs.length<=100000)) (.ok xs)
theorem MN{K:adh}{g:Gh}{H:Hp}{l:Addr}{vs:List V}{ds:List Dat}(k:Kd g H)(n:H l=none)(r:ao K g H vs ds){o:HO}:ao K (g.add l) (upd H l o) vs ds:=r.gr (Gh.oY n (Ex.new n)) k
theorem Ut{es:List Expr}{fr:QA}(h:m9 aj X W es fr):FE aj X W (.List es pos) (GD fr):=
 PE.weak (pe_lst h) λσ H Q ⟨g,Z,M,I,h⟩=>by
  refine uW.go I h.bnd λds vs H1 h1 e1 r1=>?_;obtain⟨hz,h1⟩:=h1.gG;have hl:vs.length<=100000:=by rw[r1.length];exact aex hz
  exact⟨sz_of hl,λp np=>h1 p vs _ (mY e1 p np) (e1.trans (Ex.new np)) aeC (MN (I.kd.ex e1) np r1)⟩
def Az:Dat->Out (List Dat)
 |.list ds=>.ok ds
 |.tuple ds=>.ok ds
 |_=>.bad
def Mv(f:QF):IF:=λM Z=>(f M Z).bind Az
def baseOk:Expr->Bool
 |.Call (.Name _ _) _ _ _=>false
 |_=>true
theorem cZ{o:Expr}{m:Str}{env:PySem.Env}{w:Sem Value}(h:baseOk o=true):attributeBase o m env w=w:=by
 cases o with
 | Call f as ks p=>cases f<;>first | rfl | cases h
 |_=>rfl
theorem CW{env:PySem.Env}{pos:Pos}:∀(es:List Expr),es.all nst=true->(backTo pos (starEach es env)).all (λx=>!x.1)=true
 |[],_=>by with_unfolding_all rfl
 |a::es,h=>by
  rw[adI,adi]at h;rw[aQ h.1];have ih:=CW (env:=env) (pos:=pos) es h.2;unfold backTo at ih |-
  rw[ado,adI,ih];rfl
theorem few{env:PySem.Env}{pos:Pos}{es:List Expr}(h:es.all nst=true)(hl:es.length<30):((backTo pos (starEach es env)).all (λx=>!x.1)&&(backToKw pos (keywordEach [] env)).all (λx=>x.1.isSome)&&decide (es.length+([]:List Keyword).length+(if ([]:List Keyword).isEmpty then 0 else 1)<30))=true:=by
 rw[CW es h];have:(backToKw pos (keywordEach [] env)).all (λx=>x.1.isSome)=true:=by with_unfolding_all rfl
 rw[this];simpa using hl
def yh(j:Nat)(f:QF):SF:=λM Z=>match Z[j]? with
 |some (some (.mut xs))=>((f M Z).at M).then Z λd M'=>if xs.length<100000 then .next (Z.set j (some (.mut (xs++[d])))) M' else .bad
 |_=>.bad
theorem WD{j:Nat}{x:Str}{f:QF}{p apos:Pos}{epos:Pos}(hN:X.N[j]?=some x)(hv:Vis X.env.scope x)(hd:(x==("__debug__" : Str))=false)(hcd:(x==("__classdict__" : Str))=false)(he:QE aj X W e f)(hs:nst e=true)
  (hl:(apos.endLine==pos.line)=true):SE aj X W q (.Expr (.Call (.Attribute (.Name x p) "append" apos) [e] [] pos) epos) (yh j f):=by
 have h0:=pe_var (X:=X) (pos:=p) hN hv hd hcd;have h1:=pa_cons he pa_nil (aQ hs []);have key:=pe_bm (X:=X) (cpos:=pos) (apos:=apos) PySem.F.plainAttrs_list PySem.F.slot_list_append PySem.F.type_list_append mt_append h0 h1 (cZ rfl) (few (by simp[hs]) (by simp)) hl (aQ hs []) (by with_unfolding_all rfl);refine PS.weak (ps_expr key (by with_unfolding_all rfl)) λD σ H ⟨g,Z,M,I,z⟩=>?_;unfold yh at z;split at z
 .next xs hj=>
  obtain⟨l,us,e1,e2,e3,e4⟩:=I.own j xs hj;refine⟨.ref l,e1,.inl ⟨rfl,us,sq_of e2⟩,⟨g,Z,M,I,?_⟩⟩;cases hf:f M Z with
  |exc x=>rw[hf]at z;exact λH' c dd e r=>z σ H' g c dd (Gr.ex e) (I.ex e) r.fr
  |bad=>rw[hf]at z;exact aev z
  |ok d=>
   rw[hf]at z;intro v H' e r;have z:(if xs.length<100000 then fO.next (Z.set j (some (.mut (xs++[d])))) M else .bad).sat (sN X.K aj q D.nx g H) (sR X.K aj q D.rt g H) (sN X.K aj q D.bk g H) (sN X.K aj q D.ct g H) (sX X.K aj W q g H):=z;split at z
   .next hlen=>
    have I1:=I.ex e;obtain⟨l',us',f1,f2,f3,f4,f5⟩:=I1.change (ys:=xs++[d]) hj;rw[e1]at f1;cases f1;rw[e _ _ e2]at f2;cases f2;refine⟨l,us,v,rfl,rfl,e _ _ e2,sz_lt (by rw[e4.length];exact hlen),?_⟩;exact z _ _ g ((Gr.ex e).trans (Gr.upd I1.kd (e _ _ e2) (.inr f3))) (f5 _ (f4.append (.cons r .nil)))
   .exact aev z
 .exact aev z
def XQ(j:Nat)(fi f:QF):SF:=λM Z=>match Z[j]? with
 |some (some (.mut xs))=>((f M Z).at M).then Z λd M'=>((fi M' Z).at M').then Z λi M2=>match i with
  |.int k=>match ixN xs.length k with
   |some n=>.next (Z.set j (some (.mut (xs.set n d)))) M2
   |none=>.bad
  |_=>.bad
 |_=>.bad
def jy(j:Nat):SF:=λM Z=>match Z[j]? with
 |some (some (.mut _))=>.next (Z.set j (some (.mut []))) M
 |_=>.bad
theorem Mu{j:Nat}{x:Str}{p apos:Pos}{epos:Pos}(hN:X.N[j]?=some x)(hv:Vis X.env.scope x)(hd:(x==("__debug__" : Str))=false)(hcd:(x==("__classdict__" : Str))=false)(hl:(apos.endLine==pos.line)=true) :
  SE aj X W q (.Expr (.Call (.Attribute (.Name x p) "clear" apos) [] [] pos) epos) (jy j):=by
 have h0:=pe_var (X:=X) (pos:=p) hN hv hd hcd;have key:=pe_bm0 (X:=X) (cpos:=pos) (apos:=apos) PySem.F.plainAttrs_list PySem.F.slot_list_clear PySem.F.type_list_clear mt_clear h0 (cZ rfl) hl;refine PS.weak (ps_expr key (by with_unfolding_all rfl)) λD σ H ⟨g,Z,M,I,z⟩=>?_;unfold jy at z;split at z
 .next xs hj=>
  obtain⟨l,us,f1,f2,f3,f4,f5⟩:=I.change (ys:=[]) hj;exact⟨.ref l,f1,.inl ⟨rfl,us,sq_of f2⟩,l,us,rfl,rfl,f2,z _ _ g (Gr.upd I.kd f2 (.inr f3)) (f5 [] .nil)⟩
 .exact aev z
end
structure Gc(g g':Gh)(H H':Hp):Prop where
 keep:∀a o,H a=some o->¬g.W a->H' a=some o
 dom:∀a,H' a=none->H a=none
 tbl:∃more,g'.tbl=g.tbl++more
 W:∀a,g.W a->g'.W a
 nW:∀a,g'.W a->g.W a\/H a=none
 Lc:g'.Lc=g.Lc
 Lo:g'.Lo=g.Lo
 kl:g'.kl=g.kl
def zV(K:adh)(aj:aq)(n:Nat)(m:Mo->List Dat->Out Dat):Sp:=λvs H Q E=>vs.length=n/\∃g M ds,Kd g H/\aX K aj g H M/\ao K g H vs ds/\
 (m M ds).sat (λd=>∀v H',Ex H H'->Rep K g H' v d->Q v H') λx=>∀H' c dd,Ex H H'->dY K aj g H' x c dd->E c dd H'
def oZ(K:adh)(aj:aq)(n:Nat)(m:Mo->List Dat->aG Dat):Sp:=λvs H Q E=>vs.length=n/\∃g M ds,Kd g H/\aX K aj g H M/\ao K g H vs ds/\
 (m M ds).sat (λd M'=>∀v H' g',Gc g g' H H'->Kd g' H'->aX K aj g' H' M'->Rep K g' H' v d->Q v H') λx M'=>∀H' g' c dd,Gc g g' H H'->Kd g' H'->aX K aj g' H' M'->dY K aj g' H' x c dd->E c dd H'
section
variable{K:adh}{aj:aq}{W:WX}{g g':Gh}{H H':Hp}{σ:L2.St}{Z:Env}{M M':Mo}
theorem Gc.gr(r:Gc g g' H H'):Gr false g g' H H':=⟨λa o h n _=>r.keep a o h n,(λz=>nomatch z),r.dom,r.tbl,r.W,r.nW,(λz=>nomatch z),r.Lc,λa h=>by rw[r.Lo];exact h,λa h=>by rw[r.Lo]at h;exact .inl h,r.kl⟩
theorem SInv.call(r:Gc g g' H H')(k':Kd g' H')(w':aX K aj g' H' M')(I:SInv K aj σ H g Z M):SInv K aj σ H' g' Z M' where
 kd:=k'
 wok:=w'
 len:=I.len
 dat:=λi d h=>by
  obtain⟨v,h1,h2⟩:=I.dat i d h;exact⟨v,h1,h2.gr r.gr I.kd⟩
 own:=λi xs h=>by
  obtain⟨l,us,h1,h2,h3,h4⟩:=I.own i xs h;exact⟨l,us,h1,r.keep _ _ h2 (I.kd.lo l h3),by rw[r.Lo];exact h3,h4.gr r.gr I.kd⟩
 sep:=I.sep
def Gh.in(g:Gh):Gh:={ g with Lc:=λa=>g.Lc a\/g.Lo a,Lo:=λ_=>False }
theorem BR(g:Gh)(a:Addr):g.in.A a↔g.A a:=by
 constructor
 .rintro(z|(z|z)|z)
  .exact .inl z
  .exact .inr (.inl z)
  .exact .inr (.inr z)
  .exact aev z
 .rintro(z|z|z)
  .exact .inl z
  .exact .inr (.inl (.inl z))
  .exact .inr (.inl (.inr z))
theorem Kd.in(k:Kd g H):Kd g.in H:=⟨λa z=>k.ob a ((BR g a).mp z),λa z=>aev z,λa z=>⟨z.elim (λz=>(k.lc a z).1) (λz=>k.lo a z),λy=>y⟩⟩
def ini(n:Nat)(ds:List Dat):Env:=ds.map (λd=>some (.dat d))++List.replicate (n-ds.length) none
theorem Gx{N:List Str}{vs:List V}{ds:List Dat}(k:Kd g H)(w:aX K aj g H M)(r:ao K g H vs ds):SInv K aj (start N vs) H g (ini N.length ds) M where
 kd:=k
 wok:=w
 len:=by unfold L2.start ini;rw[ad5,ad5,adp,adp,List.length_replicate,List.length_replicate,r.length]
 dat:=λi d h=>by
  unfold ini at h;unfold L2.start;by_cases hi:i<ds.length
  .rw[adD (by rw[adp];exact hi),adw]at h;cases hd:ds[i]? with
   |none=>rw[hd]at h;cases h
   |some d'=>
    rw[hd]at h;cases h;obtain⟨v,h1,h2⟩:=r.get hd;refine⟨v,?_,h2⟩;rw[adD (by rw[adp,r.length];exact hi),adw,h1];rfl
  .rw[adC (by rw[adp];omega)]at h;rw[List.getElem?_replicate]at h;split at h<;>cases h
 own:=λi xs h=>by
  unfold ini at h;by_cases hi:i<ds.length
  .rw[adD (by rw[adp];exact hi),adw]at h;cases hd:ds[i]? with
   |none=>rw[hd]at h;cases h
   |some d'=>rw[hd]at h;cases h
  .rw[adC (by rw[adp];omega)]at h;rw[List.getElem?_replicate]at h;split at h<;>cases h
 sep:=λi j xs ys l ne h=>by
  unfold ini at h;by_cases hi:i<ds.length
  .rw[adD (by rw[adp];exact hi),adw]at h;cases hd:ds[i]? with
   |none=>rw[hd]at h;cases h
   |some d'=>rw[hd]at h;cases h
  .rw[adC (by rw[adp];omega)]at h;rw[List.getElem?_replicate]at h;split at h<;>cases h
end
def mQ(n:Nat)(body:SF):Mo->List Dat->Out Dat:=λM ds=>match body M (ini n ds) with
 |.ret d _=>.ok d
 |.next _ _=>.ok .none
 |.exc x _ _=>.exc x
 |_=>.bad
def mG(n:Nat)(body:SF):Mo->List Dat->aG Dat:=λM ds=>match body M (ini n ds) with
 |.ret d M'=>.ok d M'
 |.next _ M'=>.ok .none M'
 |.exc x _ M'=>.exc x M'
 |_=>.bad
section
variable{P:Program}{w:World}{K:adh}{mg:Str->Option Value}{base:Heap}{aj:aq}
def Ly(E:XK):WX:=λc d _ H=>E c d H
theorem Rep.same{g g':Gh}{H:Hp}{v:V}{d:Dat}(e:g'.tk=g.tk)(n:∀a,g'.A a↔g.A a)(h:Rep K g H v d):Rep K g' H v d:=h.less e λa z=>(n a).mp z
theorem GX{g g':Gh}{H H':Hp}(r:Gr true g.in g' H H'):Ex H H':=λa o h=>by
 by_cases w:g.W a
 .exact r.keepW rfl a o h w
 .exact r.keep a o h w λz=>z
theorem Wj{q:Bool}{g g':Gh}{H H':Hp}(r:Gr q g.in g' H H')(a:Addr):g'.fr.A a↔(g'.W a\/g.Lc a\/g.Lo a):=by
 have hl:g'.Lc=g.in.Lc:=r.Lc;constructor
 .rintro(z|z|z)
  .exact .inl z
  .have z:g'.Lc a:=z;rw[hl]at z;exact .inr z
  .exact aev z
 .rintro(z|z)
  .exact .inl z
  .refine .inr (.inl ?_);show g'.Lc a;rw[hl];exact z
theorem Fun.okC{C:CXT}{x qual:Str}{st:Stmt}{f:Addr}{fd:FuncData}{N ps:List Str}{k:Nat}{sp:Sp}(F:Fun K x qual st f fd)(S:FnScope N ps (defScope st))(len:∀vs H Q E,sp vs H Q E->vs.length=ps.length)
  (hbody:∀(cdv:Value) (A:Around) (outer:List PySem.Env) (s:Shared) (H:Hp) (vs:List V) (Q:VK) (E:XK),Room k (A.deeper (envOfC qual (defScope st) s.heap.objs.size f cdv))->sp vs H Q E->
   ∃t,PSs (cxOf C P w K mg base N qual (defScope st) f cdv A outer s H E) (defBody st) t/\t { nx:=λ_ H'=>Q .non H',rt:=Q } (start N vs) H):FnOk P w K mg base C (k+1) f fd ps sp:=by
 obtain⟨oc,od,kV,doc,pm,an,cdv,ct,osl,rfl,lk,hcd⟩:=F.ex;exact fn_of lk hcd S len λA outer s H vs Q E hr hsp=>hbody cdv A outer s H vs Q E hr hsp
theorem YX{C:CXT}{x qual:Str}{st:Stmt}{f:Addr}{fd:FuncData}{N ps:List Str}{k:Nat}{body:SF}(F:Fun K x qual st f fd)(S:FnScope N ps (defScope st))
  (hb:∀(cdv:Value) (A:Around) (outer:List PySem.Env) (s:Shared) (H:Hp) (E:XK),Room k (A.deeper (envOfC qual (defScope st) s.heap.objs.size f cdv))->qW aj (cxOf C P w K mg base N qual (defScope st) f cdv A outer s H E) (Ly E) true (defBody st) body) :
  FnOk P w K mg base C (k+1) f fd ps (zV K aj ps.length (mQ N.length body)):=by
 refine Fun.okC F S (λvs H Q E h=>h.1) (λcdv A outer s H vs Q E hr h=>⟨_,hb cdv A outer s H E hr,?_⟩);obtain⟨hl,g,M,ds,kd,wk,rs,h⟩:=h;have wk':aX K aj g.in H M:=aX.less (g:=g) (g':=g.in) rfl rfl (λa z=>(BR g a).mp z) wk;refine⟨g.in,ini N.length ds,M,Gx kd.in wk' (ao.less (g:=g) (g':=g.in) rfl (λa z=>(BR g a).mp z) rs),?_⟩;have back:∀{g':Gh} {H':Hp},Gr true g.in g' H H'->∀a,g.A a↔g'.fr.A a:=λ{g' H'} r a=>by
  rw[Wj r a];have e:=(r.qg rfl);have ew:g'.W a↔g.W a:=by unfold Gh.W;rw[Gh.nO e.1,e.2];rfl
  unfold Gh.A;rw[ew]
 unfold mQ at h;cases hf:body M (ini N.length ds) with
 |next Z' M'=>
  rw[hf]at h;exact λσ' H' g' r I'=>h _ H' (GX r) .non
 |ret d M'=>
  rw[hf]at h;exact λv H' g' r k' w' rv=>h v H' (GX r) (Rep.same (g:=g'.fr) (g':=g) (r.qg rfl).1.symm (back r) rv)
 |exc x Z' M'=>
  rw[hf]at h;exact λσ' H' g' c dd r I' rx=>h H' c dd (GX r) (dY.less (g:=g'.fr) (g':=g) (r.qg rfl).1.symm (λa z=>(back r a).mp z) rx)
 |brk Z' M'=>rw[hf]at h;exact aev h
 |cont Z' M'=>rw[hf]at h;exact aev h
 |bad=>rw[hf]at h;exact aev h
theorem Zk{x qual:Str}{st:Stmt}{f:Addr}{fd:FuncData}{N ps:List Str}{k:Nat}{body:SF}(F:Fun K x qual st f fd)(S:FnScope N ps (defScope st))
  (hb:∀(cdv:Value) (A:Around) (outer:List PySem.Env) (s:Shared) (H:Hp) (E:XK),Room k (A.deeper (envOfC qual (defScope st) s.heap.objs.size f cdv))->qW aj (cxOf (L2.CX P w) P w K mg base N qual (defScope st) f cdv A outer s H E) (Ly E) false (defBody st) body) :
  FnOk P w K mg base (L2.CX P w) (k+1) f fd ps (oZ K aj ps.length (mG N.length body)):=by
 refine F.okX S (λvs H Q E h=>h.1) (λcdv A outer s H vs Q E hr h=>⟨_,hb cdv A outer s H E hr,?_⟩);obtain⟨hl,g,M,ds,kd,wk,rs,h⟩:=h;have wk':aX K aj g.in H M:=aX.less (g:=g) (g':=g.in) rfl rfl (λa z=>(BR g a).mp z) wk;refine⟨g.in,ini N.length ds,M,Gx kd.in wk' (ao.less (g:=g) (g':=g.in) rfl (λa z=>(BR g a).mp z) rs),?_⟩
 let gb:Gh->Gh:=λg'=>{ tbl:=g'.tbl,ow:=g'.ow,Lc:=g.Lc,Lo:=g.Lo,kl:=g'.kl }
 have gc:∀{g':Gh} {H':Hp},Gr false g.in g' H H'->Gc g (gb g') H H':=λ{g' H'} r=>⟨λa o h n=>r.keep a o h n λz=>z,r.dom,r.tbl,r.W,r.nW,rfl,rfl,r.kl⟩;have eA:∀{g':Gh} {H':Hp},Gr false g.in g' H H'->∀a,(gb g').A a↔g'.fr.A a:=λ{g' H'} r a=>by
  rw[Wj r a];exact Iff.rfl
 have kk:∀{g':Gh} {H':Hp},Gr false g.in g' H H'->Kd g'.fr H'->Kd (gb g') H':=λ{g' H'} r k'=>by
  have nw:∀a,(g.Lc a\/g.Lo a)->¬g'.W a:=λa z y=>by
   have:g'.fr.Lc a:=by show g'.Lc a;rw[show g'.Lc=g.in.Lc from r.Lc];exact z
   exact(k'.lc a this).1 y
  exact⟨λa z=>k'.ob a ((eA r a).mp z),λa z=>nw a (.inr z),λa z=>⟨nw a (.inl z),(kd.lc a z).2⟩⟩
 unfold mG at h;cases hf:body M (ini N.length ds) with
 |next Z' M'=>
  rw[hf]at h;exact λσ' H' g' r I'=>h _ H' (gb g') (gc r) (kk r I'.kd.fr) (aX.less (g:=g'.fr) (g':=gb g') rfl rfl (λa z=>(eA r a).mp z) I'.wok.fr) .non
 |ret d M'=>
  rw[hf]at h;exact λv H' g' r k' w' rv=>h v H' (gb g') (gc r) (kk r k') (aX.less (g:=g'.fr) (g':=gb g') rfl rfl (λa z=>(eA r a).mp z) w') (Rep.same (g:=g'.fr) (g':=gb g') rfl (eA r) rv)
 |exc x Z' M'=>
  rw[hf]at h;exact λσ' H' g' c dd r I' rx=>h H' (gb g') c dd (gc r) (kk r I'.kd.fr) (aX.less (g:=g'.fr) (g':=gb g') rfl rfl (λa z=>(eA r a).mp z) I'.wok.fr) (dY.less (g:=g'.fr) (g':=gb g') rfl (λa z=>(eA r a).mp z) rx)
 |brk Z' M'=>rw[hf]at h;exact aev h
 |cont Z' M'=>rw[hf]at h;exact aev h
 |bad=>rw[hf]at h;exact aev h
end
def fH(m:Mo->List Dat->Out Dat)(as:QA):QF:=λM Z=>(as M Z).bind λds=>m M ds
section
variable{X:Cx}{aj:aq}{W:WX}{q:Bool}{a b e:Expr}{es:List Expr}{pos p:Pos}{x:Str}{k:Nat}{f:Addr}{fd:FuncData}{ps:List Str}
theorem Rv{C:CXT}{m:Mo->List Dat->Out Dat}{as:QA}(tk:∀σ,PassesAt C X σ (WE W σ))(F:FnOk X.prog X.w X.K X.mg X.base C k f fd ps (zV X.K aj ps.length m))(hr:Room k X.A)(hg:Gl X x)(hm:X.mg x=some (.ref f))(hk:PySem.W.keepIn X.K (.ref f)=true)(hb:Binds X.K fd ps [])
  (ha:m9 aj X W (e::es) as) (hl:(e::es).length=ps.length) (hd:(x==("__debug__" : Str))=false) (hs:(e::es).all nst=true) (hn:∀M Z ds,as M Z=.ok ds->ds.length=(e::es).length):QE aj X W (.Call (.Name x p) (e::es) [] pos) (fH m as):=by
 have hs':=hs;rw[adI,adi]at hs';refine PE.weak (pe_callS (E:=λσ=>WE W σ) F hr hg hm hk hb tk ha hd (aQ hs'.1 es) (star_any es hs'.2)) λσ H Q ⟨g,Z,M,I,h⟩=>?_;refine⟨g,Z,M,I,?_⟩;have h:=h.bnd;cases has:as M Z with
 |exc x=>rw[has]at h;exact h
 |bad=>rw[has]at h;exact h
 |ok ds=>
  rw[has]at h;have h:(m M ds).sat (λd=>∀v H',Ex H H'->Rep X.K g H' v d->Q v H') (gQ X.K aj W g H σ):=h;intro vs H1 e1 r1;refine⟨by rw[r1.length,hn M Z ds has];exact hl,g,M,ds,I.kd.ex e1,I.wok.ex e1 I.kd,r1,h.mono (λd k v H' e' r'=>k v H' (e1.trans e') r') λx k H' c dd e' r'=>k H' c dd (e1.trans e') r'⟩
end
theorem Lz{n:Nat}(h:n<=16001):n<=sizeLine:=aeo h (by decide)
theorem XH{prog:Program}{w:World}{A:Around}{E:Value->Shared->Prop}{s:Shared}{l:Addr}{v0:Value}{vs:List Value}{Q:List Value->Shared->Prop}(hh:A.handled=none)(hl:s.heap.IsList l (v0::vs).toArray\/IsTup s.heap l (v0::vs).toArray)(hz:vs.length<=16000)
  (h:∀(h₂:Heap) (tk:Nat),(∀b o,s.heap.get? b=some o->h₂.get? b=some o)->Q [v0,.ref h₂.objs.size] { s with heap:=h₂.push { cls:=.type "list",data:=.seq vs.toArray },toks:=tk }):wpAny (model prog w) A (unpackItems (.ref l) 2 (some 1)) Q E s:=by
 have hll:l<s.heap.objs.size:=by rcases hl with⟨o,ho,_⟩|⟨o,ho,_⟩<;>exact Heap.lt_size ho
 have hlt:l≠s.heap.objs.size:=adK hll;have hsz:(v0::vs).toArray.size=vs.length+1:=by simp
 have hb:(v0::vs).toArray.size<=sizeLine:=Lz (by rw[hsz];omega);have hd:(v0::vs).toArray.toList.drop 1=vs:=by simp
 have ht:((v0::vs).toArray.toList.drop 0).take 1=[v0]:=by simp
 have fin:∀(h₂:Heap) (tk:Nat),(∀b o,b≠s.heap.objs.size->s.heap.get? b=some o->h₂.get? b=some o)->wpAny (model prog w) A (newList vs >>= λd=>pure ([v0]++[d]++[])) Q E { s with heap:=h₂,toks:=tk }:=λh₂ tk k=>by
  refine aey (wpAny_newObj_type (aez ?_) (Lz (by simp;omega)));exact h h₂ tk λb o e=>k b o (adK (Heap.lt_size e)) e
 unfold unpackItems;refine aey ?_;unfold notIterableAtAll;rcases hl with hl|hl
 .refine aey (wpAny_specialOf hl.typeIs slot_list_iter.lookup (aez ?_));simp only[adL,if_false];refine aey (wpAny_holding (wpAny_pyIter_list hl ?_));refine aey (wpAny_holding (PySem.W.kun_draw hlt 1 0 _ _ ⟨_,Heap.get?_push_size _ rfl,rfl,rfl⟩ (hl.push _) (by rw[hsz];omega) λh₁ i1 b1=>?_));have hl₁:=(hl.push _).extBut b1.extBut hlt;obtain⟨oi,hoi,_⟩:=id i1;obtain⟨ol,hol,_⟩:=id hl₁;rw[ht];refine aey (wpAny_holding (PySem.W.kun_collect (s:={ s with heap:=h₁ }) (T:="list_iterator") (.inr (.inr (.inl rfl))) (Walks.list (A:=A.in1) hh s.heap.objs.size l hlt (v0::vs).toArray) (λj u st=>st.1.typeIs) (k:=1) (by rw[hsz];omega) ⟨i1,hl₁⟩ (Heap.lt_size hoi) (Heap.lt_size hol) (λh₂ tk hk=>?_) hb))
  rw[hd];show wpAny _ _ (if vs.length<0 then _ else newList (vs.take (vs.length-0)) >>= λd=>pure ([v0]++[d]++vs.drop (vs.length-0))) _ _ _;rw[aeB (Nat.not_lt_zero _),Nat.sub_zero,List.take_length,ad3];exact fin h₂ tk λb o ne e=>hk b o ne (b1.extBut b o ne (Heap.get?_push_of_some _ e))
 .refine aey (wpAny_specialOf hl.typeIs slot_tuple_iter.lookup (aez ?_));simp only[adL,if_false];refine aey (wpAny_holding (iter_tuple hl ?_));refine aey (wpAny_holding (draw_tuple hlt 1 0 _ _ ⟨_,Heap.get?_push_size _ rfl,rfl,rfl⟩ (hl.push _) (by rw[hsz];omega) λh₁ i1 b1=>?_));have hl₁:IsTup h₁ l (v0::vs).toArray:=(hl.push _).extBut b1.extBut hlt;obtain⟨oi,hoi,_⟩:=id i1;obtain⟨ol,hol,_⟩:=id hl₁;rw[ht];refine aey (wpAny_holding (PySem.W.kun_collect (s:={ s with heap:=h₁ }) (T:="tuple_iterator") (.inr (.inr (.inr rfl))) (Walks.tuple (A:=A.in1) hh s.heap.objs.size l hlt (v0::vs).toArray) (λj u st=>st.1.typeIs) (k:=1) (by rw[hsz];omega) ⟨i1,hl₁⟩ (Heap.lt_size hoi) (Heap.lt_size hol) (λh₂ tk hk=>?_) hb))
  rw[hd];show wpAny _ _ (if vs.length<0 then _ else newList (vs.take (vs.length-0)) >>= λd=>pure ([v0]++[d]++vs.drop (vs.length-0))) _ _ _;rw[aeB (Nat.not_lt_zero _),Nat.sub_zero,List.take_length,ad3];exact fin h₂ tk λb o ne e=>hk b o ne (b1.extBut b o ne (Heap.get?_push_of_some _ e))
def Pa(K:adh)(i j:Nat):TG:=λv σ H Q=>∃a v0 us,v=.ref a/\(SqL K H a (v0::us)\/SqT K H a (v0::us))/\us.length<=16000/\∀D,H D=none->Q ((σ.set i (some v0)).set j (some (.ref D))) (upd H D (.lst us))
def xY(X:Cx)(j:Nat)(x:Str):Prop:=X.N[j]?=some x/\Loc X.env.scope x/\(X.fn x=true\/X.env.scope.names.lookup x=some .local)
theorem QH{X:Cx}{i j k:Nat}{x y:Str}{px py ps pos:Pos}(hc:X.calm=true)(hN:X.N.Nodup)(hx:xY X i x)(hy:xY X j y):PG X (.Tuple [.Name x px,.Starred (.Name y py) ps] k pos) (Pa X.K i j):=by
 refine⟨λpins s σ H v u Q I r h=>?_⟩;obtain⟨a,v0,us,rfl,hq,hz,q⟩:=h;cases r;have e1:assign (.Tuple [.Name x px,.Starred (.Name y py) ps] k pos) X.env (.ref a)=(do standAt pos;unpack (.ref a) (assignEach [.Name x px,.Starred (.Name y py) ps] X.env)):=by with_unfolding_all rfl
 have e2:assignEach [.Name x px,.Starred (.Name y py) ps] X.env=[(false,assign (.Name x px) X.env),(true,assign (.Name y py) X.env)]:=by with_unfolding_all rfl
 rw[e1,e2];refine aey (wpAny_standAt ?_);unfold unpack;obtain⟨w0,ws,hlw,rv0,rvs⟩:∃w0 ws,(s.heap.IsList a (w0::ws).toArray\/IsTup s.heap a (w0::ws).toArray)/\RelV v0 w0/\Vals us ws:=by
  rcases hq with hq|hq
  .obtain⟨its,rv,p,_⟩:=I.list hq;cases rv with
   |cons r t=>exact⟨_,_,.inl p.isList,r,t⟩
  .obtain⟨its,rv,p,_⟩:=I.tuple hq;cases rv with
   |cons r t=>exact⟨_,_,.inr p,r,t⟩
 refine aey (wpAny_holding (XH (I.ok.hd hc) hlw (by rw[<-rvs.length];exact hz) λh₂ tk hk=>?_));have I2:L2.Inv X pins σ H { s with heap:=h₂,toks:=tk }:=I.kept (t':=tk) hk;have I3:=I2.lnew (t':=tk) rvs (Lz (by omega));refine assignInOrder_cons (wpAny_assign_Name (store_ok I3 hN hx.1 hx.2.1 rv0 (λs4 I4=>?_) hx.2.2));refine assignInOrder_cons (wpAny_assign_Name (store_ok I4 hN hy.1 hy.2.1 (v:=.ref h₂.objs.size) rfl (λs5 I5=>assignInOrder_nil ?_) hy.2.2));exact⟨_,_,I5,q _ I2.fresh⟩
section
variable{X:Cx}{aj:aq}{W:WX}{q:Bool}{e:Expr}{pos:Pos}
def HY(i j:Nat)(f:GF):SF:=λM Z=>(f M Z).then Z λd M'=>match d with
 |.list (d0::ds)=>if ds.length<=16000 then .next ((Z.set i (some (.dat d0))).set j (some (.dat (.list ds)))) M' else .bad
 |.tuple (d0::ds)=>if ds.length<=16000 then .next ((Z.set i (some (.dat d0))).set j (some (.dat (.list ds)))) M' else .bad
 |_=>.bad
theorem Qw{i j k:Nat}{x y:Str}{px py ps tp:Pos}{f:GF}(hc:X.calm=true)(hN:X.N.Nodup)(hx:xY X i x)(hy:xY X j y)(he:GE aj X W q e f)(hs:swapsWithSole [.Tuple [.Name x px,.Starred (.Name y py) ps] k tp] e pos.line X.env=pure false)(hw:swappedStores [.Tuple [.Name x px,.Starred (.Name y py) ps] k tp] e X.env=pure none) :
  SE aj X W q (.Assign [.Tuple [.Name x px,.Starred (.Name y py) ps] k tp] e pos) (HY i j f):=by
 refine PS.weak (ps_asg he (QH hc hN hx hy) hs hw (by with_unfolding_all rfl)) λD σ H ⟨g,Z,M,I,z⟩=>?_;refine tE.go I (aU (σ:=σ) z) λd M' v H' g' kk r I' rv=>?_;have fin:∀{a:Addr} {v0:V} {us:List V} {d0:Dat} {ds:List Dat},v=.ref a->(SqL X.K H' a (v0::us)\/SqT X.K H' a (v0::us))->Rep X.K g' H' v0 d0->ao X.K g' H' us ds->(if ds.length<=16000 then fO.next ((Z.set i (some (.dat d0))).set j (some (.dat (.list ds)))) M' else .bad).sat (sN X.K aj q D.nx g H) (sR X.K aj q D.rt g H) (sN X.K aj q D.bk g H) (sN X.K aj q D.ct g H) (sX X.K aj W q g H)->Pa X.K i j v σ H' D.nx:=λ{a v0 us d0 ds} ev hq r0 rs kk=>by
  split at kk
  .next hz=>
   refine⟨a,v0,us,ev,hq,by rw[rs.length];exact hz,λp np=>?_⟩;have e1:=Ex.new (o:=.lst us) np;have I2:=I'.ex e1;refine kk _ _ g' (r.trans (Gr.ex e1)) ((I2.set (r0.ex e1 I'.kd)).set (.lst (.inl ⟨aeC,I'.kd.fresh np⟩) (rs.ex e1 I'.kd)))
  .exact aev kk
 split at kk
 .obtain⟨a,us,ev,s1,t1⟩:=bZ rv.weak;cases t1 with
  |cons r0 rs=>exact fin ev (.inl s1) r0 rs kk
 .obtain⟨a,us,ev,s1,t1⟩:=dU rv.weak;cases t1 with
  |cons r0 rs=>exact fin ev (.inr s1) r0 rs kk
 .exact aev kk
def Ie(i j:Nat)(f:GF):SF:=λM Z=>(f M Z).then Z λd M'=>.next ((Z.set i (some (.dat d))).set j (some (.dat d))) M'
theorem Pq{i j:Nat}{x y:Str}{px py:Pos}{f:GF}(hN:X.N.Nodup)(hx:xY X i x)(hy:xY X j y)(he:GE aj X W q e f)(hw:swappedStores [.Name x px,.Name y py] e X.env=pure none):SE aj X W q (.Assign [.Name x px,.Name y py] e pos) (Ie i j f):=by refine PS.weak (ps_asg2 he (pg_name hN hx.1 hx.2.1 hx.2.2) (pg_name hN hy.1 hy.2.1 hy.2.2) (by with_unfolding_all rfl) hw) λD σ H ⟨g,Z,M,I,z⟩=>?_;exact tE.go I (aU (σ:=σ) z) λd M' v H' g' kk r I' rv=>kk _ H' g' r ((I'.set rv).set rv)
theorem vU{pins:List (Addr×Obj)}{H:Hp}{Q:Unit->Shared->Prop}(hN:X.N.Nodup):∀{xs:List Str} {js:List Nat} {vs:List V} {us:List Value} {σ:L2.St} {s:Shared},xs.length=js.length->Vals vs us->us.length=js.length->(∀(n:Nat) (x:Str) (j:Nat),xs[n]?=some x->js[n]?=some j->X.N[j]?=some x/\X.env.scope.names.lookup x=some .local)->L2.Inv X pins σ H s->
  (∀s',L2.Inv X pins (sets σ js vs) H s'->Q () s')->wpAny (model X.prog X.w) X.A (assignInOrder (xs.map λn=>bindName X.env n) us) Q X.xe s
 |[],[],_,[],σ,s,_,.nil,_,_,I,h=>assignInOrder_nil (h s I)
 |[],[],_,_::_,_,_,_,_,e,_,_,_=>nomatch e
 |[],_::_,_,_,_,_,e,_,_,_,_,_=>nomatch e
 |_::_,[],_,_,_,_,e,_,_,_,_,_=>nomatch e
 |x::xs,j::js,_,[],_,_,_,.nil,e,_,_,_=>nomatch e
 |x::xs,j::js,_,_::_,σ,s,e1,.cons r t,e2,hn,I,h=>by
  obtain⟨h1,h2⟩:=hn 0 x j rfl rfl;refine assignInOrder_cons (wpAny_bindName (store_ok I hN h1 (.inl h2) r (λs2 I2=>?_) (.inr h2)));exact vU hN (adZ e1) t (adZ e2) (λn x j a b=>hn (n+1) x j a b) I2 h
theorem Ek(σ:L2.St):∀(js:List Nat) (vs:List V) (ks:List Nat) (ws:List V),js.length=vs.length->sets σ (js++ks) (vs++ws)=sets (sets σ js vs) ks ws:=by
 intro js
 induction js generalizing σ with
 |nil=>
  intro vs ks ws e;cases vs with
  |nil=>rfl
  |cons v vs=>cases e
 |cons j js ih=>
  intro vs ks ws e;cases vs with
  |nil=>cases e
  |cons v vs=>exact ih (σ.set j (some v)) vs ks ws (adZ e)
theorem zF(j:Nat)(v:V):∀(js:List Nat) (vs:List V) (σ:L2.St),j∉js->(sets σ js vs).set j (some v)=sets (σ.set j (some v)) js vs
 |[],_,_,_=>by unfold sets;rfl
 |_::_,[],_,_=>by unfold sets;rfl
 |k::js,w::vs,σ,h=>by
  show(sets (σ.set k (some w)) js vs).set j (some v)=sets ((σ.set j (some v)).set k (some w)) js vs
  rw[zF j v js vs _ λz=>h (adt _ z),List.set_comm _ _ (λz=>h (by rw[z];exact adn))]
theorem Bv:∀(js:List Nat) (vs:List V) (σ:L2.St),js.Nodup->js.length=vs.length->sets σ js.reverse vs.reverse=sets σ js vs
 |[],[],_,_,_=>rfl
 |[],_::_,_,_,e=>nomatch e
 |_::_,[],_,_,e=>nomatch e
 |j::js,v::vs,σ,nd,e=>by
  rw[aek]at nd;rw[aea,aea,Ek _ _ _ _ _ (by rw[adW,adW];exact adZ e),Bv js vs σ nd.2 (adZ e)]
  show(sets σ js vs).set j (some v)=sets (σ.set j (some v)) js vs
  exact zF j v js vs σ nd.1
theorem vals_rev{vs:List V}{us:List Value}(r:Vals vs us):Vals vs.reverse us.reverse:=by
 induction r with
 |nil=>exact .nil
 |cons h t ih=>
  rw[aea,aea];exact Vals.append ih (.cons h .nil)
def tPN(js:List Nat)(ta:TA):TS:=λD σ H=>ta σ H λvs H1=>vs.length=js.length/\D.nx (sets σ js vs) H1
theorem Yb{ts es:List Expr}{xs:List Str}{js:List Nat}{ta:TA}{kt k2:Nat}{pt p2:Pos}(hc:X.calm=true)(hN:X.N.Nodup)(hnd:js.Nodup)(hl:xs.length=js.length)(h3:js.length<=3)(hn:∀(n:Nat) (x:Str) (j:Nat),xs[n]?=some x->js[n]?=some j->X.N[j]?=some x/\X.env.scope.names.lookup x=some .local)(ha:PA X es ta)
  (hw:swappedStores [.Tuple ts kt pt] (.Tuple es k2 p2) X.env=pure (some xs)) (hs:swapsWithSole [.Tuple ts kt pt] (.Tuple es k2 p2) pos.line X.env=pure false):PS X (.Assign [.Tuple ts kt pt] (.Tuple es k2 p2) pos) (tPN js ta):=by
 refine⟨λpins s σ H D I h=>?_⟩;rw[exec_Assign_arm];refine aey (wpAny_standAt ?_);rw[hs];refine aey (aez ?_);rw[aeB (by decide)];refine aey (Tuple_ (thn (ha.run _ pins s σ H _ I h) λus s1 ⟨vs,H1,I1,r1,e1,q1⟩=>?_));have hu:us.length=js.length:=by rw[<-r1.length];exact e1
 refine wpAny_newObj_type ?_ (aeo (by simp;omega) (show 3<=sizeLine by decide));have I2:L2.Inv X pins σ H1 { s1 with heap:=s1.heap.push { cls:=.type "tuple",data:=.seq us.toArray } }:=I1.kept (t':=s1.toks) λb o z=>Heap.get?_push_of_some _ z
 rw[hw];refine aey (aez ?_);show wpAny (model X.prog X.w) X.A (do rule "assign.swapped-stores";let items <-unpackItems (.ref s1.heap.objs.size) xs.length none;assignInOrder (xs.reverse.map λn=>bindName X.env n) items.reverse;pure Flow.next) _ _ _
 have hz:us.toArray.size=xs.length:=by rw[aef,hu,hl]
 have hup:=λ{Q:List Value->Shared->Prop} hQ=>unpackItems_tuple (prog:=X.prog) (w:=X.w) (A:=X.A) (E:=X.xe) (s:={ s1 with heap:=s1.heap.push { cls:=.type "tuple",data:=.seq us.toArray } }) (items:=us.toArray) (Q:=Q) (I.ok.hd hc) (IsTup.new s1.heap _) hQ
 rw[hz]at hup;refine aey (wpAny_rule (aey (hup λh' hx'=>?_)));have I3:=I2.kept (h':=h') (t':=s1.toks) λb o z=>hx' b o (adK (Heap.lt_size z)) z;refine aey (vU hN (js:=js.reverse) (vs:=vs.reverse) (by rw[adW,adW];exact hl) (vals_rev r1) (by rw[adW,adW];exact hu) (λn x j a b=>?_) I3 λs4 I4=>aez ?_)
 .have n1:=(adk.mp a).1;have n2:=(adk.mp b).1;rw[adW]at n1 n2;rw[List.getElem?_reverse n1]at a;rw[List.getElem?_reverse n2,<-hl]at b;exact hn _ x j a b
 .rw[Bv js vs σ hnd e1.symm]at I4;exact⟨_,H1,I4,q1⟩
def Ov(js:List Nat)(as:QA):SF:=λM Z=>((as M Z).at M).then Z λds M'=>match iD js ds Z with
 |some Z'=>.next Z' M'
 |none=>.bad
theorem XM{ts es:List Expr}{xs:List Str}{js:List Nat}{as:QA}{kt k2:Nat}{pt p2:Pos}(hc:X.calm=true)(hN:X.N.Nodup)(hnd:js.Nodup)(hl:xs.length=js.length)(h3:js.length<=3)(hn:∀(n:Nat) (x:Str) (j:Nat),xs[n]?=some x->js[n]?=some j->X.N[j]?=some x/\X.env.scope.names.lookup x=some .local)(ha:m9 aj X W es as)
  (hw:swappedStores [.Tuple ts kt pt] (.Tuple es k2 p2) X.env=pure (some xs)) (hs:swapsWithSole [.Tuple ts kt pt] (.Tuple es k2 p2) pos.line X.env=pure false):SE aj X W q (.Assign [.Tuple ts kt pt] (.Tuple es k2 p2) pos) (Ov js as):=by
 refine PS.weak (Yb hc hN hnd hl h3 hn ha hw hs) λD σ H ⟨g,Z,M,I,z⟩=>?_;refine⟨g,Z,M,I,?_⟩;unfold Ov at z;cases hf:as M Z with
 |exc x=>rw[hf]at z;exact λH' c dd e r=>z σ H' g c dd (Gr.ex e) (I.ex e) r.fr
 |bad=>rw[hf]at z;exact aev z
 |ok ds=>
  rw[hf]at z;intro vs H' e r;have z:(match iD js ds Z with
   |some Z'=>fO.next Z' M
   |none=>.bad).sat (sN X.K aj q D.nx g H) (sR X.K aj q D.rt g H) (sN X.K aj q D.bk g H) (sN X.K aj q D.ct g H) (sX X.K aj W q g H):=z
  split at z
  .next Z' e'=>
   obtain⟨l1,I1⟩:=qG (I.ex e) r e';exact⟨l1,z _ H' g (Gr.ex e) I1⟩
  .exact aev z
theorem U4{j:Nat}{y:Str}{py:Pos}{elt tg iter:Expr}{cpos:Pos}{scope:Scope}{own:List (Str×Nat)}{it:IF}{tgf:bH}{js:List Nat}{tt:QT}{te:QF}{ifs:List Expr}(hc:X.calm=true)(hN:X.N.Nodup)(hy:X.N[j]?=some y)(hyl:X.env.scope.names.lookup y=some .local)
  (hsw:swapsWith (.ListComp elt [⟨tg,iter,ifs,0⟩] scope cpos) (some (.Name y py)) pos.line X.env=pure true) (hi:QI aj X W false tg iter it) (ok:blkC X.N X.env.scope scope own=true) (hj:∀j∈js,j∈own.map (·.2))
  (hg:∀(s:Shared) (H:Hp) (C:Addr) (cl:List (Str×Addr)) (fp:List Addr),QG aj (X.blk s H scope (compEnvC scope cl C X.env) fp) tg js tgf)
  (ht:∀(s:Shared) (H:Hp) (C:Addr) (cl:List (Str×Addr)) (fp:List Addr),PTs (X.blk s H scope (compEnvC scope cl C X.env) fp) ifs (cW X.K aj WF tt))
  (he:∀(s:Shared) (H:Hp) (C:Addr) (cl:List (Str×Addr)) (fp:List Addr),QE aj (X.blk s H scope (compEnvC scope cl C X.env) fp) WF elt te) (hs:∀x,foldedSetIterable iter X.env x=pure x) :
  SE aj X W q (.Assign [.Name y py] (.ListComp elt [⟨tg,iter,ifs,0⟩] scope cpos) pos) (bJ (aD j) (gOf (jC it tgf (own.map (·.2)) tt te))):=by
 refine PS.weak (ps_setLc (g:=j6 X.K aj js tgf) (tt:=cW X.K aj WF tt) (te:=tQ X.K aj WF te) hc hN hy hyl hsw hi (blkOk_by ok) (λs H C cl fp=>hg s H C cl fp) ht (λs H C cl fp=>he s H C cl fp) hs) λD σ H ⟨g,Z,M,I,z⟩=>?_;refine Oo hj σ H _ ⟨g,Z,M,I,(Out.bO (aU (σ:=σ) z)).mono (λd kk v H' e r=>?_) λx kk H' c dd e r=>kk H' g c dd (Gr.ex e) (I.ex e) r⟩;exact kk _ H' g (Gr.ex e) ((I.ex e).set r)
end
inductive GV where
 |con (d:Dat)
 |fq (n:Nat) (m:Mo->List Dat->Out Dat)
 |fg (n:Nat) (m:Mo->List Dat->aG Dat)
 |dic (kvs:List (Str×Dat))
 |exc
 |exi (fs:List Str)
 |cls (n:Nat) (m:Mo->List Dat->aG Dat)
def GV.soft:GV->Bool
 |.con _=>false
 |.dic _=>false
 |.exc=>false
 |_=>true
inductive MV where
 |q (n:Nat) (m:Mo->List Dat->Out Dat)
 |g (n:Nat) (m:Mo->List Dat->aG Dat)
def FQ(P:Program)(w:World)(K:adh)(mg:Str->Option Value)(base:Heap)(aj:aq)(k:Nat)(f:Addr)(n:Nat)(m:Mo->List Dat->Out Dat):Prop:=
 ∃(fd:FuncData) (ps:List Str) (j:Nat),j<=k/\ps.length=n/\Binds K fd ps []/\FnOk P w K mg base (L2.CX P w) j f fd ps (zV K aj ps.length m)
def FG(P:Program)(w:World)(K:adh)(mg:Str->Option Value)(base:Heap)(aj:aq)(k:Nat)(f:Addr)(n:Nat)(m:Mo->List Dat->aG Dat):Prop:=
 ∃(fd:FuncData) (ps:List Str) (j:Nat),j<=k/\ps.length=n/\Binds K fd ps []/\FnOk P w K mg base (L2.CX P w) j f fd ps (oZ K aj ps.length m)
def cO(K:adh)(aj:aq):Prop:=∀c C f,aj c=some C->f∈aj.fl c->Cls K C/\NoAttr K C f
def gK(P:Program)(w:World)(K:adh)(mg:Str->Option Value)(base:Heap)(aj:aq)(k:Nat)(c m:Str)(v:MV):Prop:=
 ∃C f,aj c=some C/\Cls K C/\Meth K C m f/\m∉aj.fl c/\match v with
  |.q n mm=>FQ P w K mg base aj k f n mm
  |.g n mm=>FG P w K mg base aj k f n mm
def Zv(C:Addr)(fs:List Str):Sp:=λvs H Q _=>∃(a:Addr) (xs:List V),vs=.ref a::xs/\xs.length=fs.length/\H a=some (exo a C none)/\
 ∀(dx:Addr) (H':Hp),H dx=none->(∀b o,b≠a->H b=some o->H' b=some o)->(∀b,H' b=none->H b=none)->H' a=some (exo a C (some dx))->H' dx=some (exd dx (fs.zip xs).reverse)->Q .non H'
def Lg(w:World)(K:adh)(a:Addr)(kvs:List (Str×Dat)):Prop:=∃(es:Array DictEntry) (n:Nat),KDict K w a es n/\(kvs.map (·.1)).Nodup/\
 ∀x:Str,match kvs.lookup x with
  |some d=>∃v u,PySem.W.nsIn K a x=some (some u)/\RelV v u/\∀g H,Rep K g H v d
  |none=>PySem.W.nsIn K a x=some none
def bV(P:Program)(w:World)(K:adh)(mg:Str->Option Value)(base:Heap)(aj:aq)(k:Nat)(x:Str):GV->Prop
 |.con d=>∃v u,mg x=some u/\RelV v u/\(∀g H,Rep K g H v d)/\∀a ds,v=.ref a->d=.tuple ds->∃o,K.lookup a=some o/\o.cls=.type "tuple"/\o.dict=none
 |.fq n m=>∃f,mg x=some (.ref f)/\PySem.W.keepIn K (.ref f)=true/\FQ P w K mg base aj k f n m
 |.fg n m=>∃f,mg x=some (.ref f)/\PySem.W.keepIn K (.ref f)=true/\FG P w K mg base aj k f n m
 |.dic kvs=>∃a,mg x=some (.ref a)/\Lg w K a kvs
 |.exc=>∃C,mg x=some (.ref C)/\aj x=some C/\PySem.W.excIn K C He.veBase "ValueError.__new__"=true/\PySem.W.keepIn K (.ref C)=true/\PySem.W.subIn K (.ref C) (.type "BaseException")=some true/\PySem.W.typeIn K (.ref C)=some (.type "type")
 |.exi fs=>∃(C fI:Addr) (fd:FuncData) (ps:List Str),mg x=some (.ref C)/\aj x=some C/\OexC K C/\PySem.W.findIn K (.ref C) "__init__"=some (some (.ref fI))/\PySem.W.typeIn K (.ref fI)=some (.type "function")/\2<=k/\ps.length=fs.length+1/\Binds K fd ps []/\FnOk P w K mg base CX0 1 fI fd ps (Zv C fs)
 |.cls n m=>∃(C f:Addr) (fd:FuncData) (ps:List Str) (j:Nat),mg x=some (.ref C)/\aj x=some C/\Cls K C/\Mk K C f/\j+1<=k/\ps.length=n+1/\Binds K fd ps []/\FnOk P w K mg base (L2.CX P w) j f fd ps (oZ K aj ps.length m)
def Hh(K:adh)(aj:aq)(y:Str)(tk:Str->Option Bool):Prop:=∀x b C,tk x=some b->aj x=some C->∀D,aj y=some D->PySem.W.exmOne K (.ref C) (.ref D)=some b
def putL(f:Str)(x:bM):List (Str×bM)->List (Str×bM)
 |[]=>[(f,x)]
 |(g,y)::r=>if g=f then(g,x)::r else(g,y)::putL f x r
def Inst.put(i:Inst)(f:Str)(x:bM):Inst:=⟨i.cls,putL f x i.fs⟩
theorem qm(f:Str)(x:bM):∀gs:List (Str×bM),(putL f x gs).map (·.1)=if f∈gs.map (·.1) then gs.map (·.1) else gs.map (·.1)++[f]
 |[]=>by simp[putL]
 |(g,y)::r=>by
  have ih:=qm f x r;rw[putL];by_cases e:g=f
  .subst e;simp
  .rw[aeB e,ado,ih];by_cases h:f∈r.map (·.1)
   .rw[aeA h,aeA (by simp[h])];rfl
   .rw[aeB h,aeB (by
     rw[ado,adB]
     rintro(z|z)
     .exact e z.symm
     .exact h z)]
    rfl
theorem HW{f:Str}{x:bM}{gs:List (Str×bM)}(h:(gs.map (·.1)).Nodup):((putL f x gs).map (·.1)).Nodup:=by
 rw[qm];split
 .exact h
 .next n=>
  rw[List.nodup_append];refine⟨h,by simp,λa ha b hb e=>?_⟩;subst e;rw[adF]at hb;subst hb;exact n ha
theorem sU{f:Str}{v:V}:∀{fs:List (Str×V)},fs.lookup f=some v->putF f v fs=fs
 |[],h=>nomatch h
 |(g,y)::r,h=>by
  rw[adN]at h;rw[show putF f v ((g,y)::r)=(if g=f then(g,v)::r else(g,y)::putF f v r) from rfl];by_cases e:g=f
  .subst e;simp at h;rw[aeA rfl,h]
  .have ne:(f==g)=false:=by simpa using λz=>e z.symm
   rw[ne]at h;rw[aeB e,sU h]
section
variable{K:adh}{aj:aq}{W:WX}{g g':Gh}{H H':Hp}{σ:L2.St}{Z:Env}{M:Mo}{h:Nat}{f:Str}{v:V}{fl:bM}
theorem aK.put(hk:∀f' v' fl',f'≠f->aR K aj g H h f' v' fl'->aR K aj g' H' h f' v' fl')(new:aR K aj g' H' h f v fl):∀{fs:List (Str×V)} {gs:List (Str×bM)},aK K aj g H h fs gs->(gs.map (·.1)).Nodup->aK K aj g' H' h (putF f v fs) (putL f fl gs)
 |_,_,.nil,_=>.cons new .nil
 |_,_,.cons (f:=f') (v:=v') (fl:=fl') (fs:=fs) (gs:=gs) z t,nd=>by
  rw[show putF f v ((f',v')::fs)=(if f'=f then(f',v)::fs else(f',v')::putF f v fs) from rfl,putL];rw[ado,aek]at nd;by_cases e:f'=f
  .subst e;rw[aeA rfl,aeA rfl];refine .cons new ?_;have go:∀{fs:List (Str×V)} {gs:List (Str×bM)},aK K aj g H h fs gs->f'∉gs.map (·.1)->aK K aj g' H' h fs gs:=λ{fs gs} t=>by
    induction t with
    |nil=>exact λ_=>.nil
    |cons z _ ih=>
     intro n;rw[ado,adB,not_or]at n;exact .cons (hk _ _ _ (λq=>n.1 q.symm) z) (ih n.2)
   exact go t nd.1
  .rw[aeB e,aeB e];exact .cons (hk _ _ _ e z) (aK.put hk new t nd.2)
structure Gv(M:Mo)(g g':Gh)(H H':Hp)(h:Nat)(f:Str):Prop where
 gc:Gc g g' H H'
 kd:Kd g' H'
 tbl:g'.tbl=g.tbl
 ow:∀a p,g.ow a=some p->g'.ow a=some p
 oth:∀a p,g.ow a=some p->p≠(h,f)->H' a=H a
 ins:∀(k:Nat) (a:Addr) (i:Inst),g.tbl[k]?=some a->M[k]?=some i->i.cls≠""->k≠h->H' a=H a
 nt:∀(k:Nat) (a:Addr) (i:Inst),g.tbl[k]?=some a->M[k]?=some i->i.cls≠""->∀p,g'.ow a≠some p
 li:∀(k:Nat) (a:Addr) (xs:List Dat),g.tbl[k]?=some a->M[k]?=some (lin xs)->g.ow a=none->H' a=H a/\g'.ow a=none
theorem bT.chg{l:Addr}(r:Gr false g g' H H')(k:Kd g H)(e:H' l=H l):∀{n:Bool} {kvs:List (Dat×Dat)},bT K aj g H l n kvs->bT K aj g' H' l n kvs
 |false,_,⟨kv,h1,h2,h3⟩=>⟨kv,e.trans h1,h2,h3.gr r k⟩
 |true,_,⟨o,xs,vs,h1,h2,h3,h4,h5,h6⟩=>⟨o,xs,vs,e.trans h1,h2,h3,h4.gr r k,h5,h6.gr r k⟩
theorem aR.chg(c:Gv M g g' H H' h f)(k:Kd g H){h':Nat}{f':Str}{v':V}(ne:(h',f')≠(h,f)):∀{fl':bM},aR K aj g H h' f' v' fl'->aR K aj g' H' h' f' v' fl'
 |.dat _,z=>Rep.gr c.gc.gr k z
 |.lst _ _,⟨l,us,h1,h2,h3,h4,h5⟩=>⟨l,us,h1,(c.oth l _ h3 ne).trans h2,c.ow l _ h3,h4.gr c.gc.gr k,c.gc.gr.tb h5⟩
 |.dic _ _,⟨l,h1,h2,h3⟩=>⟨l,h1,c.ow l _ h2,h3.chg c.gc.gr k (c.oth l _ h2 ne)⟩
theorem aX.chg(w:aX K aj g H M)(k:Kd g H)(c:Gv M g g' H H' h f){a:Addr}{i:Inst}(ha:g.tbl[h]?=some a)(hi:M[h]?=some i)(hne:i.cls≠"")(hf:f∈aj.fl i.cls){C dx:Addr}{fs:List (Str×V)}(hC:aj i.cls=some C)(R:aK K aj g H h fs i.fs)
  (e':H' a=some (.ins C dx (putF f v fs))) (new:aR K aj g' H' h f v fl):aX K aj g' H' (M.set h (i.put f fl)) where
 len:=by rw[c.tbl,adz];exact w.len
 inj:=by rw[c.tbl];exact w.inj
 ins:=λh' a' i' ha' hi' hc'=>by
  rw[c.tbl]at ha';by_cases z:h'=h
  .subst z;rw[ha]at ha';cases ha';rw[adu (adk.mp hi).1]at hi';cases hi';exact⟨C,dx,_,hC,e',R.put (λf' v' fl' ne z=>z.chg c k λq=>ne (congrArg Prod.snd q)) new (w.nd _ i hi)⟩
  .rw[adl (Ne.symm z)]at hi';obtain⟨C',dx',fs',c1,c2,c3⟩:=w.ins h' a' i' ha' hi' hc';refine⟨C',dx',fs',c1,(c.ins h' a' i' ha' hi' hc' z).trans c2,?_⟩;have go:∀{fs:List (Str×V)} {gs:List (Str×bM)},aK K aj g H h' fs gs->aK K aj g' H' h' fs gs:=λ{fs gs} t=>by
    induction t with
    |nil=>exact .nil
    |cons y _ ih=>exact .cons (y.chg c k λq=>z (congrArg Prod.fst q)) ih
   exact go c3
 nd:=λh' i' hi'=>by
  by_cases z:h'=h
  .subst z;rw[adu (adk.mp hi).1]at hi';cases hi';exact HW (w.nd _ i hi)
  .rw[adl (Ne.symm z)]at hi';exact w.nd h' i' hi'
 fd:=λh' i' hi' hc' f' hf'=>by
  by_cases z:h'=h
  .subst z;rw[adu (adk.mp hi).1]at hi';cases hi';have hf':f'∈(putL f fl i.fs).map (·.1):=hf';rw[qm]at hf';split at hf'
   .exact w.fd _ i hi hne f' hf'
   .rcases adU.mp hf' with y|y
    .exact w.fd _ i hi hne f' y
    .rw[adF]at y;rw[y];exact hf
  .rw[adl (Ne.symm z)]at hi';exact w.fd h' i' hi' hc' f' hf'
 tw:=λk' a' i' ha' hi' hc'=>by
  rw[c.tbl]at ha';have:∃i0,M[k']?=some i0/\i0.cls≠"":=by
   by_cases z:k'=h
   .subst z;exact⟨i,hi,hne⟩
   .rw[adl (Ne.symm z)]at hi';exact⟨i',hi',hc'⟩
  obtain⟨i0,m1,m2⟩:=this;cases hz:g'.ow a' with
  |none=>rfl
  |some p=>exact absurd hz (c.nt k' a' i0 ha' m1 m2 p)
 li:=λh' a' xs ha' hi'=>by
  rw[c.tbl]at ha';by_cases z:h'=h
  .subst z;rw[adu (adk.mp hi).1]at hi';exact absurd (congrArg Inst.cls (adx hi')) hne
  .rw[adl (Ne.symm z)]at hi';obtain⟨us,h1,h2,h3⟩:=w.li h' a' xs ha' hi';obtain⟨e1,e2⟩:=c.li h' a' xs ha' hi' h2;exact⟨us,e1.trans h1,e2,h3.gr c.gc.gr k⟩
 nc:=w.nc
theorem Om{a:Addr}(ha:g.tbl[h]?=some a):g.W a:=.inl (adH ha)
theorem yJ(k:Kd g H)(w:aX K aj g H M){a:Addr}{i:Inst}(ha:g.tbl[h]?=some a)(hi:M[h]?=some i)(hc:i.cls≠""){C dx:Addr}{fs':List (Str×V)}:Gv M g g H (upd H a (.ins C dx fs')) h f where
 gc:=⟨λb o hb n=>by rw[upd_ne (λz=>by subst z;exact n (Om ha))];exact hb,λb hb=>by
  by_cases z:b=a
  .subst z;rw[aeC]at hb;cases hb
  .rw[upd_ne z]at hb;exact hb,⟨[],by simp⟩,λ_ z=>z,λ_ z=>.inl z,rfl,rfl,rfl⟩
 kd:=k.upd aeu
 tbl:=rfl
 ow:=λ_ _ z=>z
 oth:=λb p hb _=>upd_ne λz=>by
  subst z;rw[w.tw h _ i ha hi hc]at hb;cases hb
 ins:=λj b i' hb _ _ ne=>upd_ne λz=>by
  subst z;exact ne (w.inj _ _ _ hb ha)
 nt:=λj b i' hb hj hcj p z=>by
  rw[w.tw j b i' hb hj hcj]at z;cases z
 li:=λj b xs hb hj ho=>⟨upd_ne (λz=>by
  subst z;have:=w.inj _ _ _ hb ha;subst this;rw[hi]at hj;exact hc (congrArg Inst.cls (adx hj))),ho⟩
def Gh.own(g:Gh)(l:Addr)(h:Nat)(f:Str):Gh:={ g with ow:=λb=>if b=l then some (h,f) else g.ow b }
theorem XD{l a:Addr}(hl:l∈g.tbl):(g.own l h f).W a↔g.W a:=by
 constructor
 .rintro(z|z)
  .exact .inl z
  .by_cases y:a=l
   .subst y;exact .inl hl
   .have z:(if a=l then some (h,f) else g.ow a)≠none:=z;rw[aeB y]at z;exact .inr z
 .rintro(z|z)
  .exact .inl z
  .refine .inr ?_
   show(if a=l then some (h,f) else g.ow a)≠none
   split
   .exact λq=>nomatch q
   .exact z
theorem xM(k:Kd g H)(w:aX K aj g H M){a l:Addr}{n:Nat}{i:Inst}(ha:g.tbl[h]?=some a)(hi:M[h]?=some i)(hc:i.cls≠"")(hl:g.tbl[n]?=some l)(hn:M[n]?=some ⟨"",[]⟩)(nl:g.ow l=none){C dx:Addr}{fs':List (Str×V)}:Gv M g (g.own l h f) H (upd H a (.ins C dx fs')) h f:=by
 have W':∀{b:Addr},(g.own l h f).W b↔g.W b:=λ{b}=>XD (adH hl);have d:=yJ (f:=f) (C:=C) (dx:=dx) (fs':=fs') k w ha hi hc;refine⟨⟨d.gc.keep,d.gc.dom,⟨[],by simp[Gh.own]⟩,λb z=>W'.mpr z,λb z=>.inl (W'.mp z),rfl,rfl,rfl⟩,⟨λb z=>d.kd.ob b ?_,λb z y=>d.kd.lo b z (W'.mp y),λb z=>⟨λy=>(d.kd.lc b z).1 (W'.mp y),(d.kd.lc b z).2⟩⟩,rfl,λb p z=>?_,d.oth,d.ins,λj b i' hb hj hcj p z=>?_,λj b xs hb hj ho=>⟨(d.li j b xs hb hj ho).1,?_⟩⟩
 .rcases z with z|z|z
  .exact .inl (W'.mp z)
  .exact .inr (.inl z)
  .exact .inr (.inr z)
 .show(if b=l then some (h,f) else g.ow b)=some p
  rw[aeB (λy=>by subst y;rw[nl]at z;cases z)];exact z
 .have z:(if b=l then some (h,f) else g.ow b)=some p:=z;by_cases y:b=l
  .subst y;cases w.inj _ _ _ hb hl;rw[hn]at hj;cases hj;exact hcj rfl
  .rw[aeB y,w.tw j b i' hb hj hcj]at z;cases z
 .show(if b=l then some (h,f) else g.ow b)=none
  rw[aeB λy=>by
   subst y;cases w.inj _ _ _ hb hl;rw[hn]at hj;cases congrArg Inst.fs (adx hj)]
  exact ho
theorem Km(k:Kd g H)(w:aX K aj g H M){l:Addr}{o':HO}(ho:g.ow l=some (h,f))(mo:qO o'):Gv M g g H (upd H l o') h f where
 gc:=⟨λb u hb n=>by rw[upd_ne (λz=>by subst z;exact n (.inr (by rw[ho];exact λy=>nomatch y)))];exact hb,λb hb=>by
  by_cases z:b=l
  .subst z;rw[aeC]at hb;cases hb
  .rw[upd_ne z]at hb;exact hb,⟨[],by simp⟩,λ_ z=>z,λ_ z=>.inl z,rfl,rfl,rfl⟩
 kd:=k.upd mo
 tbl:=rfl
 ow:=λ_ _ z=>z
 oth:=λb p hb ne=>upd_ne λz=>by
  subst z;rw[ho]at hb;exact ne (adx hb).symm
 ins:=λj b i' hb hj hcj ne=>upd_ne λz=>by
  subst z;rw[w.tw j _ i' hb hj hcj]at ho;cases ho
 nt:=λj b i' hb hj hcj p z=>by
  rw[w.tw j b i' hb hj hcj]at z;cases z
 li:=λj b xs hb hj hw=>⟨upd_ne (λz=>by
  subst z;rw[ho]at hw;cases hw),hw⟩
theorem aK.len{fs:List (Str×V)}{gs:List (Str×bM)}(t:aK K aj g H h fs gs):fs.length=gs.length:=by
 induction t with
 |nil=>rfl
 |cons _ _ ih=>simp[ih]
end
def rM(M:Mo)(f:Str):Dat->Option bM
 |.dict [(.none,.int (.ofNat h))]=>(M[h]?).bind λi=>if (i.cls=="")=true then none else i.fs.lookup f
 |_=>none
def M5(f:Str)(o:QF):QF:=λM Z=>(o M Z).bind λd=>match rM M f d with
 |some (.dat x)=>.ok x
 |_=>.bad
def uz(f:Str)(o:QF):QF:=λM Z=>(o M Z).bind λd=>match rM M f d with
 |some (.dat x)=>.ok x
 |some (.lst _ xs)=>.ok (.list xs)
 |_=>.bad
theorem Jv{M:Mo}{f:Str}{d:Dat}{fl:bM}(h:rM M f d=some fl):∃n i,d=obj n/\M[n]?=some i/\i.cls≠""/\i.fs.lookup f=some fl:=by
 unfold rM at h;split at h
 .next n=>
  obtain⟨i,h1,h2⟩:=adg.mp h;split at h2
  .cases h2
  .next hc=>exact⟨n,i,rfl,h1,λz=>hc (by rw[z];rfl),h2⟩
 .cases h
theorem lookup_mem{f:Str}{fl:bM}:∀{gs:List (Str×bM)},gs.lookup f=some fl->f∈gs.map (·.1)
 |[],h=>nomatch h
 |(g,y)::r,h=>by
  rw[adN]at h;cases hb:f==g with
  |true=>rw[aeD hb];simp
  |false=>
   rw[hb]at h;exact adt _ (lookup_mem h)
section
variable{K:adh}{aj:aq}{g:Gh}{H:Hp}{M:Mo}
theorem DG(co:cO K aj)(w:aX K aj g H M){f:Str}{d:Dat}{fl:bM}{v:V}(h:rM M f d=some fl)(r:aW K g H v d):∃n i a C dx fs u,d=obj n/\M[n]?=some i/\i.fs.lookup f=some fl/\g.tbl[n]?=some a/\v=.ref a/\aj i.cls=some C/\H a=some (.ins C dx fs)/\aK K aj g H n fs i.fs/\Cls K C/\NoAttr K C f/\fs.lookup f=some u/\aR K aj g H n f u fl:=by obtain⟨n,i,rfl,h1,hc,h2⟩:=Jv h;obtain⟨a,rfl,ha⟩:=pN r;obtain⟨C,dx,fs,c1,c2,c3⟩:=w.ins n a i ha h1 hc;obtain⟨u,l1,l2⟩:=c3.get h2;obtain⟨k1,k2⟩:=co i.cls C f c1 (w.fd n i h1 hc f (lookup_mem h2));exact⟨n,i,a,C,dx,fs,u,rfl,h1,h2,ha,rfl,c1,c2,c3,k1,k2,l1,l2⟩
end
section
variable{X:Cx}{aj:aq}{W:WX}{o e:Expr}{es:List Expr}{fo:QF}{f m:Str}{pos apos:Pos}
theorem Uq(co:cO X.K aj)(ho:QW aj X W o fo)(hb:baseOk o=true):QE aj X W (.Attribute o f pos) (M5 f fo):=
 PE.weak (pe_fld ho (cZ hb)) λσ H Q ⟨g,Z,M,I,h⟩=>by
  refine tW.go I h.bnd λd v H1 h1 e1 r1=>?_;split at h1
  .next x hx=>
   obtain⟨n,i,a,C,dx,fs,u,_,_,_,_,rfl,_,c2,_,k1,k2,l1,l2⟩:=DG co (I.ex e1).wok hx r1;exact⟨a,C,dx,fs,u,rfl,c2,k1,k2,l1,h1 u H1 e1 l2⟩
  .exact aev h1
theorem Wv(co:cO X.K aj)(ho:QW aj X W o fo)(hb:baseOk o=true):QW aj X W (.Attribute o f pos) (uz f fo):=
 PE.weak (pe_fld ho (cZ hb)) λσ H Q ⟨g,Z,M,I,h⟩=>by
  refine tW.go I h.bnd λd v H1 h1 e1 r1=>?_;split at h1
  .next x hx=>
   obtain⟨n,i,a,C,dx,fs,u,_,_,_,_,rfl,_,c2,_,k1,k2,l1,l2⟩:=DG co (I.ex e1).wok hx r1;exact⟨a,C,dx,fs,u,rfl,c2,k1,k2,l1,h1 u H1 e1 (Rep.weak l2)⟩
  .next xs hx=>
   obtain⟨n,i,a,C,dx,fs,u,_,_,_,_,rfl,_,c2,_,k1,k2,l1,l,us,rfl,s1,s2,s3,_⟩:=DG co (I.ex e1).wok hx r1;exact⟨a,C,dx,fs,_,rfl,c2,k1,k2,l1,h1 _ H1 e1 ⟨l,us,rfl,sq_of s1,s3⟩⟩
  .exact aev h1
def wZ(X:Cx)(W:WX)(m:Str)(ta:TE)(t:TA):TE:=λσ H Q=>ta σ H λx H1=>∃(a C dx:Addr) (fs:List (Str×V)) (f:Addr) (fd:FuncData) (ps:List Str) (sp:Sp) (k:Nat),x=.ref a/\H1 a=some (.ins C dx fs)/\fs.lookup m=none/\Cls X.K C/\Meth X.K C m f/\Room k X.A/\Binds X.K fd ps []/\
 FnOk X.prog X.w X.K X.mg X.base (L2.CX X.prog X.w) k f fd ps sp/\t σ H1 λvs H2=>sp (x::vs) H2 Q (WE W σ)
theorem zp{M:Model}{A:Around}{E:Value->Shared->Prop}{s:Shared}{env:PySem.Env}{args:List Expr}{Q:Value->Shared->Prop}(hbase:baseOk o=true)(hs:args.all nst=true)(hz:args.length<30)(hl:(apos.endLine==pos.line)=true)
  (h:wpAny M A (eval o env) (λov s₁=>∀pl:Sem Bool,wpAny M A (getMethod ov m pl) (λfx s₂=>wpAny M A (callWith pos fx.1 fx.2 (backTo pos (starEach args env)) (backToKw pos (keywordEach [] env))) Q E s₂) E s₁) E s) :
  wpAny M A (eval (.Call (.Attribute o m apos) args [] pos) env) Q E s:=by
 have hform:methodCallForm (args.length+([]:List Keyword).length) (backTo pos (starEach args env)) (backToKw pos (keywordEach [] env))=true:=few hs hz;have hpos:methodCallPos true o env apos pos=pure pos:=by unfold methodCallPos;simp[hl]
 rw[arm_eval_Call,cZ hbase];refine aey (wpAny_mono h (λov s₁ h₁=>?_) λ_ _ e=>e);refine aey (wpAny_standAt ?_);unfold methodCall;rw[hform];refine aey (wpAny_holding ?_);refine wpAny_mono (h₁ _) (λfx s₂ h₂=>?_) λ_ _ e=>e;exact aey (wpAny_of_eq hpos h₂)
theorem Bf{ta:TE}{t:TA}(tk:Takes X W)(ho:PE X o ta)(ha:PA X (e::es) t)(hb:baseOk o=true)(hs:(e::es).all nst=true)(hl:(apos.endLine==pos.line)=true)(hz:(e::es).length<30):PE X (.Call (.Attribute o m apos) (e::es) [] pos) (wZ X W m ta t):=by have hs':=hs;rw[adI,adi]at hs';refine⟨λpins s σ H Q I h=>?_⟩;refine zp hb hs hz hl (thn (ho.run pins s σ H _ I h) λu s1 ⟨x,G,J,rx,a,C,dx,fs,f,fd,ps,sp,k,ex,ea,l,c,hm,hr,hB,F,q⟩ pl=>?_);subst ex;cases rx;refine getmeth_ok J ea c hm l ?_;refine PySem.W.callWith_K (first:=[.ref a]) (h₀:=X.base) I.ok.mod.kin hm.kp (thn (ha.run pos pins s1 σ G _ J q) λus s2 ⟨vs,G2,J2,r,q2⟩=>⟨J2.kIn,?_⟩) (aQ hs'.1 es) (star_any es hs'.2);exact run_fnS (us:=.ref a::us) (vs:=.ref a::vs) F hr hB (passAt tk σ) J2 (.cons rfl r) q2
theorem zG{ta:TE}(tk:Takes X W)(ho:PE X o ta)(hb:baseOk o=true)(hl:(apos.endLine==pos.line)=true):PE X (.Call (.Attribute o m apos) [] [] pos) (wZ X W m ta tNil):=by refine⟨λpins s σ H Q I h=>?_⟩;refine zp hb rfl (by decide) hl (thn (ho.run pins s σ H _ I h) λu s1 ⟨x,G,J,rx,a,C,dx,fs,f,fd,ps,sp,k,ex,ea,l,c,hm,hr,hB,F,q⟩ pl=>?_);subst ex;cases rx;refine getmeth_ok J ea c hm l ?_;exact PySem.W.callWith_K0 (first:=[.ref a]) J.kIn hm.kp (run_fnS (us:=[.ref a]) (vs:=[.ref a]) F hr hB (passAt tk σ) J (.cons rfl .nil) q)
def oN(tb:List (Str×MV))(M:Mo):Dat->Option MV
 |.dict [(.none,.int (.ofNat h))]=>(M[h]?).bind λi=>tb.lookup i.cls
 |_=>none
def cG(tb:List (Str×MV))(o:QF)(as:QA):QF:=λM Z=>(o M Z).bind λd=>match oN tb M d with
 |some (.q _ m)=>(as M Z).bind λds=>m M (d::ds)
 |_=>.bad
def jM(tb:List (Str×MV))(o:QF)(as:QA):GF:=λM Z=>((o M Z).at M).bind λd _=>match oN tb M d with
 |some (.q _ m)=>((as M Z).at M).bind λds _=>(m M (d::ds)).at M
 |some (.g _ m)=>((as M Z).at M).bind λds _=>m M (d::ds)
 |none=>.bad
def qu(X:Cx)(aj:aq)(k:Nat)(m:Str)(n:Nat)(tb:List (Str×MV)):Prop:=∀c v,tb.lookup c=some v->gK X.prog X.w X.K X.mg X.base aj k c m v/\match v with
  |.q j _=>j=n
  |.g j _=>j=n
theorem qu.cls{k n:Nat}{tb:List (Str×MV)}(T:qu X aj k m n tb):∀c v,tb.lookup c=some v->aj c≠none:=λc v h z=>by
 obtain⟨⟨C,f,c1,_⟩,_⟩:=T c v h;rw[z]at c1;cases c1
theorem xO{K:adh}{g:Gh}{H:Hp}{M:Mo}{tb:List (Str×MV)}{d:Dat}{v:V}{mv:MV}(ht:∀c v,tb.lookup c=some v->aj c≠none)(w:aX K aj g H M)(h:oN tb M d=some mv)(r:aW K g H v d):∃n i a C dx fs,d=obj n/\M[n]?=some i/\tb.lookup i.cls=some mv/\g.tbl[n]?=some a/\v=.ref a/\aj i.cls=some C/\H a=some (.ins C dx fs)/\aK K aj g H n fs i.fs:=by
 unfold oN at h;split at h
 .next n=>
  obtain⟨i,h1,h2⟩:=adg.mp h;obtain⟨a,rfl,ha⟩:=pN r;obtain⟨C,dx,fs,c1,c2,c3⟩:=w.ins n a i ha h1 λz=>ht _ _ h2 (by rw[z];exact w.nc);exact⟨n,i,a,C,dx,fs,rfl,h1,h2,ha,rfl,c1,c2,c3⟩
 .cases h
theorem CZ{K:adh}{g:Gh}{H:Hp}{M:Mo}{n:Nat}{i:Inst}{fs:List (Str×V)}(w:aX K aj g H M)(hi:M[n]?=some i)(hc:i.cls≠"")(R:aK K aj g H n fs i.fs)(h:m∉aj.fl i.cls):fs.lookup m=none:=by
 refine R.no ?_;cases hl:i.fs.lookup m with
 |none=>rfl
 |some x=>exact absurd (w.fd n i hi hc m (lookup_mem hl)) h
theorem Jl{tb:List (Str×MV)}{as:QA}{n k:Nat}{t:TA}(hr:Room k X.A)(T:qu X aj k m n tb)(hn:∀M Z ds,as M Z=.ok ds->ds.length+1=n)(ht:∀σ H Q,uW X.K aj W as σ H Q->t σ H Q)(σ:L2.St)(H:Hp)(Q:VK)(h:tQ X.K aj W (cG tb fo as) σ H Q):wZ X W m (tW X.K aj W fo) t σ H Q:=by
 obtain⟨g,Z,M,I,h⟩:=h;refine tW.go I h.bnd λd v H1 h1 e1 r1=>?_;have I1:=I.ex e1;split at h1
 .next j mm hmv=>
  obtain⟨hd,i,a,C,dx,fs,rfl,hi,hl,ha,rfl,c1,c2,c3⟩:=xO T.cls I1.wok hmv r1;obtain⟨⟨C',f,cc,cl,me,nf,fd,ps,j',hj,hp,hB,F⟩,en⟩:=T _ _ hl;have en:j=n:=en;rw[c1]at cc;cases cc;refine⟨a,C,dx,fs,f,fd,ps,_,j',rfl,c2,CZ I1.wok hi (λz=>by rw[z,I1.wok.nc]at c1;cases c1) c3 nf,cl,me,hr.mono hj,hB,F,ht σ H1 _ ⟨g,Z,M,I1,?_⟩⟩;have h2:=h1.bnd;cases has:as M Z with
  |exc x=>rw[has]at h2;exact gQ.ex e1 h2
  |bad=>rw[has]at h2;exact aev h2
  |ok ds=>
   rw[has]at h2;intro vs H2 e2 r2;refine⟨by rw[hp,en,<-hn M Z ds has,adA,r2.length],g,M,obj hd::ds,(I1.ex e2).kd,(I1.ex e2).wok,.cons (.obj ha) r2,?_⟩;exact Out.sat.mono h2 (λd k v H' e' r'=>k v H' ((e1.trans e2).trans e') r') λx k H' c dd e' r'=>k H' c dd ((e1.trans e2).trans e') r'
 .exact aev h1
theorem Q5{tb:List (Str×MV)}{as:QA}{k:Nat}(tk:Takes X W)(hr:Room k X.A)(T:qu X aj k m ((e::es).length+1) tb)(ho:QW aj X W o fo)(ha:m9 aj X W (e::es) as)(hn:∀M Z ds,as M Z=.ok ds->ds.length=(e::es).length)(hb:baseOk o=true)(hs:(e::es).all nst=true)(hl:(apos.endLine==pos.line)=true)(hz:(e::es).length<30) :
  QE aj X W (.Call (.Attribute o m apos) (e::es) [] pos) (cG tb fo as):=
 PE.weak (Bf tk ho ha hb hs hl hz) λσ H Q h=>Jl hr T (λM Z ds z=>by rw[hn M Z ds z]) (λ_ _ _ z=>z) σ H Q h
theorem NT{tb:List (Str×MV)}{k:Nat}(tk:Takes X W)(hr:Room k X.A)(T:qu X aj k m 1 tb)(ho:QW aj X W o fo)(hb:baseOk o=true)(hl:(apos.endLine==pos.line)=true) :
  QE aj X W (.Call (.Attribute o m apos) [] [] pos) (cG tb fo aP):=
 PE.weak (zG tk ho hb hl) λσ H Q h=>Jl hr T (λM Z ds z=>by cases z;rfl) (λσ H Q ⟨g,Z,M,I,z⟩=>z [] H (Ex.refl H) .nil) σ H Q h
theorem Ka{tb:List (Str×MV)}{as:QA}{n k:Nat}{t:TA}(hr:Room k X.A)(T:qu X aj k m n tb)(hn:∀M Z ds,as M Z=.ok ds->ds.length+1=n)(ht:∀σ H Q,uW X.K aj W as σ H Q->t σ H Q)(σ:L2.St)(H:Hp)(Q:VK)(h:tE X.K aj W false (jM tb fo as) σ H Q):wZ X W m (tW X.K aj W fo) t σ H Q:=by
 obtain⟨g,Z,M,I,h⟩:=h;have quiet:∀{x:aY},gE X.K aj W false g H σ Z x M->gQ X.K aj W g H σ x:=λ{x} z H' c dd e r=>z H' g c dd (Gr.ex e) (I.ex e) r;have h:=h.bnd;refine⟨g,Z,M,I,?_⟩;cases ho:fo M Z with
 |exc x=>rw[ho]at h;exact quiet h
 |bad=>rw[ho]at h;exact aev h
 |ok d=>
  rw[ho]at h;intro v H1 e1 r1;have I1:=I.ex e1;have h:(match oN tb M d with
   |some (.q _ m)=>((as M Z).at M).bind λds _=>(m M (d::ds)).at M
   |some (.g _ m)=>((as M Z).at M).bind λds _=>m M (d::ds)
   |none=>.bad).sat (λd M'=>∀v H' g',Gr false g g' H H'->SInv X.K aj σ H' g' Z M'->Rep X.K g' H' v d->Q v H') (gE X.K aj W false g H σ Z):=h
  split at h
  .next j mm hmv=>
   obtain⟨hd,i,a,C,dx,fs,rfl,hi,hl,ha,rfl,c1,c2,c3⟩:=xO T.cls I1.wok hmv r1;obtain⟨⟨C',f,cc,cl,me,nf,fd,ps,j',hj,hp,hB,F⟩,en⟩:=T _ _ hl;have en:j=n:=en;rw[c1]at cc;cases cc;refine⟨a,C,dx,fs,f,fd,ps,_,j',rfl,c2,CZ I1.wok hi (λz=>by rw[z,I1.wok.nc]at c1;cases c1) c3 nf,cl,me,hr.mono hj,hB,F,ht σ H1 _ ⟨g,Z,M,I1,?_⟩⟩;have h2:=h.bnd;cases has:as M Z with
   |exc x=>rw[has]at h2;exact gQ.ex e1 (quiet h2)
   |bad=>rw[has]at h2;exact aev h2
   |ok ds=>
    rw[has]at h2;intro vs H2 e2 r2;have e12:=e1.trans e2;refine⟨by rw[hp,en,<-hn M Z ds has,adA,r2.length],g,M,obj hd::ds,(I1.ex e2).kd,(I1.ex e2).wok,.cons (.obj ha) r2,?_⟩;exact Out.sat.mono (Out.bO h2) (λd k v H' e' r'=>k v H' g (Gr.ex (e12.trans e')) (I.ex (e12.trans e')) r') λx k H' c dd e' r'=>k H' g c dd (Gr.ex (e12.trans e')) (I.ex (e12.trans e')) r'
  .next j mm hmv=>
   obtain⟨hd,i,a,C,dx,fs,rfl,hi,hl,ha,rfl,c1,c2,c3⟩:=xO T.cls I1.wok hmv r1;obtain⟨⟨C',f,cc,cl,me,nf,fd,ps,j',hj,hp,hB,F⟩,en⟩:=T _ _ hl;have en:j=n:=en;rw[c1]at cc;cases cc;refine⟨a,C,dx,fs,f,fd,ps,_,j',rfl,c2,CZ I1.wok hi (λz=>by rw[z,I1.wok.nc]at c1;cases c1) c3 nf,cl,me,hr.mono hj,hB,F,ht σ H1 _ ⟨g,Z,M,I1,?_⟩⟩;have h2:=h.bnd;cases has:as M Z with
   |exc x=>rw[has]at h2;exact gQ.ex e1 (quiet h2)
   |bad=>rw[has]at h2;exact aev h2
   |ok ds=>
    rw[has]at h2;intro vs H2 e2 r2;have e12:=e1.trans e2;refine⟨by rw[hp,en,<-hn M Z ds has,adA,r2.length],g,M,obj hd::ds,(I1.ex e2).kd,(I1.ex e2).wok,.cons (.obj ha) r2,?_⟩;exact aG.sat.mono h2 (λd M' k v H' g' c kd wk r'=>k v H' g' ((Gr.ex e12).trans c.gr) ((I.ex e12).call c kd wk) r') λx M' k H' g' cc dd c kd wk r'=>k H' g' cc dd ((Gr.ex e12).trans c.gr) ((I.ex e12).call c kd wk) r'
  .exact aev h
theorem Rr{tb:List (Str×MV)}{as:QA}{k:Nat}(tk:Takes X W)(hr:Room k X.A)(T:qu X aj k m ((e::es).length+1) tb)(ho:QW aj X W o fo)(ha:m9 aj X W (e::es) as)(hn:∀M Z ds,as M Z=.ok ds->ds.length=(e::es).length)(hb:baseOk o=true)(hs:(e::es).all nst=true)(hl:(apos.endLine==pos.line)=true)(hz:(e::es).length<30) :
  GE aj X W false (.Call (.Attribute o m apos) (e::es) [] pos) (jM tb fo as):=
 PE.weak (Bf tk ho ha hb hs hl hz) λσ H Q h=>Ka hr T (λM Z ds z=>by rw[hn M Z ds z]) (λ_ _ _ z=>z) σ H Q h
theorem Ny{tb:List (Str×MV)}{k:Nat}(tk:Takes X W)(hr:Room k X.A)(T:qu X aj k m 1 tb)(ho:QW aj X W o fo)(hb:baseOk o=true)(hl:(apos.endLine==pos.line)=true) :
  GE aj X W false (.Call (.Attribute o m apos) [] [] pos) (jM tb fo aP):=
 PE.weak (zG tk ho hb hl) λσ H Q h=>Ka hr T (λM Z ds z=>by cases z;rfl) (λσ H Q ⟨g,Z,M,I,z⟩=>z [] H (Ex.refl H) .nil) σ H Q h
end
def mX(x:Str):SF:=λM Z=>.exc ⟨x,[]⟩ Z M
def uH(x:Str)(fs:List Str)(as:QA):SF:=λM Z=>((as M Z).at M).then Z λds M'=>.exc ⟨x,(fs.zip ds).reverse⟩ Z M'
section
variable{X:Cx}{aj:aq}{W:WX}{q:Bool}{x:Str}{pos p p1:Pos}{k:Nat}
theorem Mh(hc:X.calm=true)(tk:Takes X W)(hg:Gl X x)(hd:(x==("__debug__" : Str))=false)(g:bV X.prog X.w X.K X.mg X.base aj k x .exc):SE aj X W q (.Raise (some (.Call (.Name x p) [] [] p1)) none pos) (mX x):=by obtain⟨C,g1,g2,g3,g4,g5,g6⟩:=g;exact PS.weak (ps_raise hc tk (Ear.N8 PySem.F.excBase_ValueError g3 g1 g4 (raises_own g5 g6) hg hd)) λD σ H ⟨g,Z,M,I,z⟩=>z σ H g (.ref C) none Gr.refl I ⟨C,g2,rfl,.inl ⟨rfl,rfl⟩⟩
theorem cJ.gr{K:adh}{g g':Gh}{H H':Hp}{q:Bool}(r:Gr q g g' H H')(k:Kd g H){fs:List (Str×V)}{gs:List (Str×Dat)}(h:cJ K g H fs gs):cJ K g' H' fs gs:=by
 induction h with
 |nil=>exact .nil
 |cons z _ ih=>exact .cons (z.gr r k) ih
theorem cJ.snoc{K:adh}{g:Gh}{H:Hp}{f:Str}{v:V}{d:Dat}(z:Rep K g H v d){fs:List (Str×V)}{gs:List (Str×Dat)}(h:cJ K g H fs gs):cJ K g H (fs++[(f,v)]) (gs++[(f,d)]):=by
 induction h with
 |nil=>exact .cons z .nil
 |cons y _ ih=>exact .cons y ih
theorem J8{K:adh}{g:Gh}{H:Hp}:∀{fs:List Str} {vs:List V} {ds:List Dat},ao K g H vs ds->cJ K g H (fs.zip vs).reverse (fs.zip ds).reverse
 |[],_,_,_=>.nil
 |_::_,_,_,.nil=>.nil
 |f::fs,_,_,.cons z t=>by
  rw[aep,aep,aea,aea];exact(J8 t).snoc z
theorem Ks{e:Expr}{es:List Expr}{fs:List Str}{as:QA}(hc:X.calm=true)(tk:Takes X W)(hr:Room k X.A)(hg:Gl X x)(hd:(x==("__debug__" : Str))=false)(g:bV X.prog X.w X.K X.mg X.base aj k x (.exi fs))(ha:m9 aj X W (e::es) as)
  (hs:(e::es).all nst=true) (hn:∀M Z ds,as M Z=.ok ds->ds.length=fs.length) (hz:fs.length<=1000):SE aj X W q (.Raise (some (.Call (.Name x p) (e::es) [] p1)) none pos) (uH x fs as):=by
 obtain⟨C,fI,fd,ps,g1,g2,g3,g4,g5,hk,hp,hB,F⟩:=g;have hs':=hs;rw[adI,adi]at hs';refine PS.weak (ps_raise hc tk (pmk_oex g3 g4 g5 F (hr.mono hk) hB .nil pass0 hg g1 ha hd (aQ hs'.1 es) (star_any es hs'.2))) λD σ H ⟨g,Z,M,I,z⟩=>?_;refine⟨g,Z,M,I,?_⟩;unfold uH at z;cases has:as M Z with
 |exc y=>rw[has]at z;exact λH' c dd e r=>z σ H' g c dd (Gr.ex e) (I.ex e) r.fr
 |bad=>rw[has]at z;exact aev z
 |ok ds=>
  rw[has]at z;intro vs H1 e1 r1;have hl:vs.length=fs.length:=by rw[r1.length,hn M Z ds has]
  refine⟨by omega,λa na=>⟨a,vs++[],rfl,by simpa using hl,aeC,λdx H' nd kp dm ha' hd'=>?_⟩⟩;have ne:dx≠a:=λz=>by
   subst z;rw[aeC]at nd;cases nd
  rw[upd_ne ne]at nd;refine⟨rfl,dx,_,ha',hd',nd,?_⟩;have kp':∀b o,H1 b=some o->(upd (del H' a) dx (.xd (fs.zip (vs++[])).reverse)) b=some o:=λb o hb=>by
   have nb:b≠a:=λz=>by subst z;rw[na]at hb;cases hb
   have nd':b≠dx:=λz=>by subst z;rw[nd]at hb;cases hb
   rw[upd_ne nd',del_ne nb];exact kp b o nb (by rw[upd_ne nb];exact hb)
  have ex:Ex H1 (upd (del H' a) dx (.xd (fs.zip (vs++[])).reverse)):=λb o hb=>kp' b o hb;have I1:=I.ex e1;refine z σ _ g (.ref C) (some dx) (Gr.ex (e1.trans ex)) (I1.ex ex) ⟨C,g2,rfl,.inr ⟨dx,_,rfl,aeC,?_⟩⟩;rw[adV];have:=(J8 (fs:=fs) r1).gr (Gr.ex (q:=true) ex) I1.kd;rw[adV]at this;exact cJ.less (g:=g) (g':=g.fr) rfl (jJ g) this
end
structure Cl where
 c:Value
 nm:Option Nat
 ts:Addr->Value->Option Addr->TS
def Zy(D:Ends)(i:Nat):Ends:={ nx:=λτ G=>D.nx (τ.set i none) G,rt:=D.rt,bk:=λτ G=>D.bk (τ.set i none) G,ct:=λτ G=>D.ct (τ.set i none) G }
def CV(K:adh)(Wo:WX)(D:Ends):List Cl->WX
 |[]=>Wo
 |l::r=>λcls d τ G=>∃b,PySem.W.exmOne K cls l.c=some b/\(b=true->∀a,G a=none->(match l.nm with
   |none=>l.ts a cls d D τ G
   |some i=>l.ts a cls d (Zy D i) (τ.set i (some (.ref a))) G))/\(b=false->CV K Wo D r cls d τ G)
inductive mJ(X:Cx):List ExceptHandler->List Cl->Prop
 |nil:mJ X [] []
 |one {x:Str} {l:Cl} {s0:Stmt} {su:List Stmt} {np cp:Pos} {hds:List ExceptHandler} {ls:List Cl} (hc:Names X x l.c) (hn:l.nm=none)
   (hsu:∀(a:Addr) (oe:Obj) (cls:Value) (d:Option Addr) (pn:List (Addr×Obj)),Zc cls d oe->(∃vs,oe.data=.fields vs)->PSs (X.suite a ((a,oe)::pn)) (s0::su) (l.ts a cls d)) (r:mJ X hds ls) :
   mJ X (.ExceptHandler (some (.Name x np)) none (s0::su) cp::hds) (l::ls)
 |as {x n:Str} {i:Nat} {l:Cl} {s0:Stmt} {su:List Stmt} {np cp:Pos} {hds:List ExceptHandler} {ls:List Cl} (hc:Names X x l.c) (hn:l.nm=some i) (hi:X.N[i]?=some n) (hl:X.env.kindOf n=some .local)
   (hsu:∀(a:Addr) (oe:Obj) (cls:Value) (d:Option Addr) (pn:List (Addr×Obj)),Zc cls d oe->(∃vs,oe.data=.fields vs)->PSs (X.suite a ((a,oe)::pn)) (s0::su) (l.ts a cls d)) (r:mJ X hds ls) :
   mJ X (.ExceptHandler (some (.Name x np)) (some n) (s0::su) cp::hds) (l::ls)
section
variable{X:Cx}{body:List Stmt}{h0:ExceptHandler}{hds:List ExceptHandler}{ls:List Cl}{pos:Pos}{tb:WX->TS}{Wo:WX}
theorem QD(hs:X.stack=X.env::X.outer)(hf:X.env.frame=some X.env.locals)(hN:X.N.Nodup)(tk:Takes X Wo)
  (hb:∀(W:WX) (pn:List (Addr×Obj)) (xe:Value->Shared->Prop),Takes (X.tr pn xe) W->PassesOwn (model X.prog X.w) X.A X.env xe->PSs (X.tr pn xe) body (tb W))
  (hh:mJ X (h0::hds) ls):PS X (.Try body (h0::hds) [] [] pos) (λD σ H=>tb (CV X.K Wo D ls) D σ H):=by
 constructor;intro pins s σ H D I h;have ok:=I.ok;have frm:X.A.frames=some (X.env::X.outer):=by rw[ok.frames,hs]
 have run:=(hb (CV X.K Wo D ls) (X.pn++pins) (λe t₁=>wpAny (model X.prog X.w) X.A (noteFrame e X.env) (λ_ t₂=>wpAny (model X.prog X.w) X.A (setFlight e none) (λ_ t₃=>wpAny (model X.prog X.w) X.A (handleBy e X.env (h0::hds)) (SP X pins D) X.xe t₃) X.xe t₂) X.xe t₁) (λu t xx=>by
  obtain⟨a,B,sI,pins2,τ,G,cls,d,rfl,J2,nb,up,sky,na,os,ag,w⟩:=xx;have J:Inv X pins τ G sI:=J2.ofTry ok;have sky2:Sky B (X.env::X.outer) a (Zc cls d) X.env.locals t.heap:=by rw[<-hs];exact sky
  show wpAny (model X.prog X.w) X.A (noteFrame (.ref a) X.env) _ _ _;refine Sky.land Zc.steady frm hf sky2 ?_;intro h3 fl3 up3;have J3:Inv X pins τ G { t with heap:=h3 }:=J.landed nb fl3.1 (up.trans up3) os ag;obtain⟨oe3,vs3,he3,hz3,hd3⟩:=fl3.there;have notF:a∉frs (X.env::X.outer):=λhm=>by
   obtain⟨_,o,eo,hnf⟩:=Heap.FunFrames.mem fl3.2.2.1 hm;rw[he3]at eo;cases eo;exact hnf _ hd3
  have nL:a≠X.env.locals:=λz=>notF (List.mem_filterMap.mpr ⟨X.env,adn,(by rw[hf,z])⟩);have nF:a∉X.fs:=λhm=>by
   obtain⟨e,he,q⟩:=List.mem_filterMap.mp hm;exact notF (List.mem_filterMap.mpr ⟨e,adt _ he,q⟩)
  have S3:=J3.suite he3 hd3 na nL nF;have look:PySem.W.Looks (model X.prog X.w) h3 (typeOf (.ref a)) cls:=λA Q E s k q=>wpAny_typeOf_ref (k _ _ he3) (by rw[hz3.1];exact q);have named:∀{x:Str} {c:Value} {np:Pos} {Q:Value->Shared->Prop} {E:Value->Shared->Prop},Names X x c->Q c { t with heap:=h3 }->wpAny (model X.prog X.w) (X.A.mark (some (.ref a))) (eval (.Name x np) X.env) Q E { t with heap:=h3 }:=by
   intro x c np Q E hc q;obtain⟨hg,hdb,hm⟩:=hc;rcases hm with hm|⟨hm,hv,hnn⟩
   .exact ld_glob (X:=X.suite a ((a,oe3)::(X.pn++pins))) S3 hg hm q hdb
   .exact ld_blt (X:=X.suite a ((a,oe3)::(X.pn++pins))) S3 hg hm hv q hnn hdb
  have all:∀{hds2:List ExceptHandler} {ls2:List Cl},mJ X hds2 ls2->CV X.K Wo D ls2 cls d τ G->wpAny (model X.prog X.w) X.A (handleBy (.ref a) X.env hds2) (SP X pins D) X.xe { t with heap:=h3 }:=by
   intro hds2 ls2 hk
   induction hk with
   |nil=>
    intro w;refine wpAny_handleBy_nil ?_;obtain⟨k1,k2,k3,oe,vs,T,oT,ts2,he,hz,hd,h1,hr⟩:=id fl3;unfold PySem.passOn;refine aey (wpAny_field he hd h1 ?_);have nT:¬((Value.ref T==Value.none)=true):=by simp
    rw[aeB nT];have fin:wpAny (model X.prog X.w) X.A (setFlight (.ref a) X.env.frame) (λ_ s4=>wpAny (model X.prog X.w) X.A (throw (.ref a):Sem Flow) (SP X pins D) X.xe s4) X.xe { t with heap:=h3 }:=by rw[hf];refine HandSPX.setFlight_upZ fl3 ?_;intro h4 hh4 up4;refine wpAny_throw (tk _ _ ?_);exact⟨a,B,sI,pins,τ,G,cls,d,rfl,J,nb,(up.trans up3).trans up4,.inr (.inr (by rw[hs];exact hh4)),na,os,ag,w⟩
    first
     |exact aey (aez (aey fin))
     |exact aey fin
   | @one x l s0 su np cp hds3 ls3 hc hn hsu r ih=>
    intro w;obtain⟨b,hb1,yes,no⟩:=w;rw[hn]at yes;have LM:=PySem.W.exm_one (M:=model X.prog X.w) J3.kIn look hb1;refine wpAny_handleBy_cons (codeAny_handlers_test ?_) (by intro q;cases q);refine named hc (LM.here ?_);cases b with
    |false=>exact ih (no rfl)
    |true=>
     refine codeAny_handlers_suite ?_;refine HandSPX.lands_againZ fl3 ?_;intro h4 fl4 up4;have J4:Inv X pins τ G { t with heap:=h4 }:=J.landed nb fl4.1 ((up.trans up3).trans up4) os ag;obtain⟨oe4,vs4,he4,hz4,hd4⟩:=fl4.there;have S4:=J4.suite he4 hd4 na nL nF;refine wpAny_mono ((hsu a oe4 cls d (X.pn++pins) hz4 ⟨_,hd4⟩).run [] _ _ G _ S4 (yes rfl a na)) ?_ (λ_ _ z=>aev z);intro f s6 sp6;cases f with
     |ret u=>
      obtain⟨v6,τ6,G6,S6,r6,q6⟩:=sp6;exact⟨_,_,_,S6.unsuite ok,r6,q6⟩
     |next=>
      obtain⟨τ6,G6,S6,q6⟩:=sp6;exact⟨_,_,S6.unsuite ok,q6⟩
     |brk=>
      obtain⟨τ6,G6,S6,q6⟩:=sp6;exact⟨_,_,S6.unsuite ok,q6⟩
     |cont=>
      obtain⟨τ6,G6,S6,q6⟩:=sp6;exact⟨_,_,S6.unsuite ok,q6⟩
   | @as x n i l s0 su np cp hds3 ls3 hc hn hi hl hsu r ih=>
    intro w;obtain⟨b,hb1,yes,no⟩:=w;rw[hn]at yes;have LM:=PySem.W.exm_one (M:=model X.prog X.w) J3.kIn look hb1;refine wpAny_handleBy_cons (codeAny_handlers_test ?_) (by intro q;cases q);refine named hc (LM.here ?_);cases b with
    |false=>exact ih (no rfl)
    |true=>
     refine codeAny_handlers_suite_as ?_;refine HandSPX.lands_againZ fl3 ?_;intro h4 fl4 up4;have J4:Inv X pins τ G { t with heap:=h4 }:=J.landed nb fl4.1 ((up.trans up3).trans up4) os ag;obtain⟨oe4,vs4,he4,hz4,hd4⟩:=fl4.there;have S4:=J4.suite he4 hd4 na nL nF;refine store_ok (X:=X.suite a ((a,oe4)::(X.pn++pins))) (v:=.ref a) S4 hN hi (.inl hl) rfl ?_ (.inr hl);intro s5 S5;refine wpAny_mono ((hsu a oe4 cls d (X.pn++pins) hz4 ⟨_,hd4⟩).run [] s5 _ G _ S5 (yes rfl a na)) ?_ (λ_ _ z=>aev z);intro f s6 sp6;have bye:∀{τ6:L2.St} {G6:Hp} {Q:Shared->Prop},Inv (X.suite a ((a,oe4)::(X.pn++pins))) [] τ6 G6 s6->(∀s7,Inv X pins (τ6.set i none) G6 s7->Q s7)->
       wpAny (model X.prog X.w) X.A (do bindName X.env n .none;unbindBehindTheSuite X.env n cp) (λ_ s7=>Q s7) X.xe s6:=λS6 hq=>gone_ok (S6.unsuite ok) hN hi hl hq
     cases f with
     |ret u=>
      obtain⟨v6,τ6,G6,S6,r6,q6⟩:=sp6;exact bye S6 λs7 J7=>⟨_,_,_,J7,r6,q6⟩
     |next=>
      obtain⟨τ6,G6,S6,q6⟩:=sp6;exact bye S6 λs7 J7=>⟨_,_,J7,q6⟩
     |brk=>
      obtain⟨τ6,G6,S6,q6⟩:=sp6;exact bye S6 λs7 J7=>⟨_,_,J7,q6⟩
     |cont=>
      obtain⟨τ6,G6,S6,q6⟩:=sp6;exact bye S6 λs7 J7=>⟨_,_,J7,q6⟩
  exact all hh w) PassesOwn.looking).run [] s σ H D (I.toTry _) h
 refine wpAny_Try_except (wpAny_mono run ?_ (λ_ _ z=>z));intro f s1 sp1;cases f with
 |ret u=>
  obtain⟨v,τ,G,J2,r,q⟩:=sp1;exact⟨v,τ,G,J2.ofTry ok,r,q⟩
 |next=>
  obtain⟨τ,G,J2,q⟩:=sp1;exact wpAny_execs_nil ⟨τ,G,J2.ofTry ok,q⟩
 |brk=>
  obtain⟨τ,G,J2,q⟩:=sp1;exact⟨τ,G,J2.ofTry ok,q⟩
 |cont=>
  obtain⟨τ,G,J2,q⟩:=sp1;exact⟨τ,G,J2.ofTry ok,q⟩
end
inductive nZ where
 |con (d:Dat)|fld (f:Str)|flds (fs:List Str)
def Du(y:Str)(x:aY)(f:Str):Option Dat:=match x.cls==y with
 |true=>(x.fs.lookup f).bind λd=>match lf d with
  |true=>some d
  |false=>none
 |false=>none
def v9(y:Str)(x:aY):List Str->Option (List Dat)
 |[]=>some []
 |f::fs=>(Du y x f).bind λd=>(v9 y x fs).bind λds=>some (d::ds)
def Cd(y:Str)(x:aY):nZ->Option Dat
 |.con d=>some d
 |.fld f=>Du y x f
 |.flds fs=>(v9 y x fs).bind λds=>some (.tuple ds)
def oH(y:Str)(x:aY):List (Nat×nZ)->Env->Option Env
 |[],Z=>some Z
 |(j,e)::r,Z=>(Cd y x e).bind λd=>oH y x r (Z.set j (some (.dat d)))
structure Hd where
 y:Str
 tk:Str->Option Bool
 nm:Option Nat
 st:List (Nat×nZ)
def xX(Z:Env):Option Nat->Env
 |none=>Z
 |some i=>Z.set i none
def Ho(Z:Env):Option Nat->Bool
 |none=>true
 |some i=>decide (i<Z.length)
def hdl:List Hd->aY->Env->Mo->fO
 |[],x,Z,M=>.exc x Z M
 |h::r,x,Z,M=>match h.tk x.cls with
  |some true=>match Ho Z h.nm with
   |true=>match oH h.y x h.st (xX Z h.nm) with
    |some Z2=>.next (xX Z2 h.nm) M
    |none=>.bad
   |false=>.bad
  |some false=>hdl r x Z M
  |none=>.bad
def Df(f:SF)(hs:List Hd):SF:=λM Z=>match f M Z with
 |.exc x Z' M'=>hdl hs x Z' M'
 |o=>o
structure Gk(K:adh)(aj:aq)(σ:L2.St)(H:Hp)(g:Gh)(Z:Env)(M:Mo)(x:aY)(a:Addr)(cls:Value)(d:Option Addr)(i:Option Nat):Prop where
 inv:SInv K aj σ H g Z M
 xr:dY K aj g.fr H x cls d
 sl:∀j,i=some j->σ[j]?=some (some (.ref a))
section
variable(K:adh)(aj:aq)(a:Addr)(cls:Value)(d:Option Addr)(i:Option Nat)
def tU(f:aY->Option Dat):TE:=λσ H Q=>∃g Z M x z,Gk K aj σ H g Z M x a cls d i/\f x=some z/\∀v H',Ex H H'->Rep K g H' v z->Q v H'
def Jm(f:aY->Option (List Dat)):TA:=λσ H Q=>∃g Z M x z,Gk K aj σ H g Z M x a cls d i/\f x=some z/\∀v H',Ex H H'->ao K g H' v z->Q v H'
def FP(y:Str)(st:List (Nat×nZ)):TS:=λD σ H=>∃g Z M x Z2,Gk K aj σ H g Z M x a cls d i/\oH y x st Z=some Z2/\(∀p∈st,i≠some p.1)/\∀σ' H',Ex H H'->SInv K aj σ' H' g Z2 M->D.nx σ' H'
end
section
variable{K:adh}{aj:aq}{a:Addr}{cls:Value}{d:Option Addr}{i:Option Nat}{σ:L2.St}{H H':Hp}{g:Gh}{Z:Env}{M:Mo}{x:aY}
theorem cJ.ex{fs:List (Str×V)}{gs:List (Str×Dat)}(e:Ex H H')(k:Kd g H)(h:cJ K g H fs gs):cJ K g H' fs gs:=h.gr (Gr.ex (q:=true) e) k
theorem dY.ex{c:Value}{dd:Option Addr}(e:Ex H H')(k:Kd g H)(h:dY K aj g H x c dd):dY K aj g H' x c dd:=by obtain⟨C,h1,h2,h3⟩:=h;exact⟨C,h1,h2,h3.imp id λ⟨b,fs,e1,e2,e3⟩=>⟨b,fs,e1,e _ _ e2,e3.ex e k⟩⟩
theorem Gk.ex(e:Ex H H')(h:Gk K aj σ H g Z M x a cls d i):Gk K aj σ H' g Z M x a cls d i:=⟨h.inv.ex e,h.xr.ex e h.inv.kd.fr,h.sl⟩
theorem cJ.get{f:Str}{z:Dat}{fs:List (Str×V)}{gs:List (Str×Dat)}(h:cJ K g H fs gs)(e:gs.lookup f=some z):∃v,fs.lookup f=some v/\Rep K g H v z:=by
 induction h with
 |nil=>cases e
 | @cons f' v d' _ _ r _ ih=>
  rw[adN]at e;rw[adN];cases hb:f==f' with
  |true=>
   rw[hb]at e;cases e;exact⟨v,rfl,r⟩
  |false=>
   rw[hb]at e;exact ih e
end
section
variable{X:Cx}{aj:aq}{a C:Addr}{oe:Obj}{cls:Value}{d:Option Addr}{pn:List (Addr×Obj)}{y n:Str}{pos p:Pos}{j:Nat}
theorem Jp{e:Expr}{z:Dat}{i:Option Nat}{t:TE}(h:PE (X.suite a ((a,oe)::pn)) e t)(ht:∀σ H Q,tU X.K aj a cls d i (λ_=>some z) σ H Q->t σ H Q):PE (X.suite a ((a,oe)::pn)) e (tU X.K aj a cls d i λ_=>some z):=PE.weak h ht
theorem JG{f:Str}(hC:aj y=some C)(T:XfC X.K C)(hno:PySem.W.findIn X.K (.ref C) f=some none)(hz:Zc cls d oe)(hf:∃vs,oe.data=.fields vs)(hN:X.N[j]?=some n)(hv:Vis X.env.scope n)(hd:(n==("__debug__" : Str))=false)(hcd:(n==("__classdict__" : Str))=false) :
  PE (X.suite a ((a,oe)::pn)) (.Attribute (.Name n p) f pos) (tU X.K aj a cls d (some j) λx=>Du y x f):=by
 refine PE.weak (pe_xf T hno hz hf (pe_var (i:=j) (X:=X.suite a ((a,oe)::pn)) hN hv hd hcd)) λσ H Q ⟨g,Z,M,x,z,I,e,k⟩=>?_;have e:Du y x f=some z:=e;unfold Du at e;split at e
 .next ey=>
  obtain⟨z',l,e⟩:=adg.mp e;split at e
  .next hl=>
   cases e;obtain⟨C',c1,c2,c3⟩:=I.xr;rw[aeD ey,hC]at c1;cases c1;rcases c3 with⟨c3,_⟩|⟨b,fs,c3,c4,c5⟩
   .rw[c3]at l;cases l
   .obtain⟨v,l1,l2⟩:=c5.get l;exact⟨.ref a,I.sl j rfl,rfl,c2,b,fs,v,c3,c4,l1,k v H (Ex.refl H) (Rep.free (g:=g.fr) (g':=g) rfl hl l2)⟩
  .cases e
 .cases e
theorem Jx{i:Option Nat}:PA (X.suite a ((a,oe)::pn)) [] (Jm X.K aj a cls d i λ_=>some []):=PA.weak pa_nil λσ H Q ⟨g,Z,M,x,z,I,e,k⟩=>by
 cases e;exact k [] H (Ex.refl H) .nil
theorem Qo{e:Expr}{es:List Expr}{i:Option Nat}{f:aY->Option Dat}{fr:aY->Option (List Dat)}(h:PE (X.suite a ((a,oe)::pn)) e (tU X.K aj a cls d i f))(hr:PA (X.suite a ((a,oe)::pn)) es (Jm X.K aj a cls d i fr))(hs:nst e=true) :
  PA (X.suite a ((a,oe)::pn)) (e::es) (Jm X.K aj a cls d i λx=>(f x).bind λz=>(fr x).bind λzs=>some (z::zs)):=by
 refine PA.weak (pa_cons h hr (aQ hs es)) λσ H Q ⟨g,Z,M,x,z,I,e,k⟩=>?_;obtain⟨z1,e1,e⟩:=adg.mp e;obtain⟨z2,e2,e⟩:=adg.mp e;cases e;exact⟨g,Z,M,x,z1,I,e1,λv H1 x1 r1=>⟨g,Z,M,x,z2,I.ex x1,e2,λvs H2 x2 r2=>k (v::vs) H2 (x1.trans x2) (.cons (r1.ex x2 (I.ex x1).inv.kd) r2)⟩⟩
theorem KQ{es:List Expr}{kk:Nat}{i:Option Nat}{fr:aY->Option (List Dat)}(hr:PA (X.suite a ((a,oe)::pn)) es (Jm X.K aj a cls d i fr))(hn:∀x zs,fr x=some zs->zs.length<=100000):PE (X.suite a ((a,oe)::pn)) (.Tuple es kk pos) (tU X.K aj a cls d i λx=>(fr x).bind λzs=>some (.tuple zs)):=by refine PE.weak (pe_tup hr) λσ H Q ⟨g,Z,M,x,z,I,e,k⟩=>?_;obtain⟨zs,e1,e⟩:=adg.mp e;cases e;refine⟨g,Z,M,x,zs,I,e1,λvs H1 x1 r1=>⟨sz_of (by rw[r1.length];exact hn x zs e1),λp np=>?_⟩⟩;exact k (.ref p) _ (x1.trans (Ex.new np)) (.tup (st_of aeC) (r1.ex (Ex.new np) (I.ex x1).inv.kd))
theorem zm{x:aY}:∀{fs:List Str} {zs:List Dat},v9 y x fs=some zs->zs.length=fs.length
 |[],zs,h=>by cases h;rfl
 |f::fs,zs,h=>by
  rw[v9]at h;obtain⟨z1,e1,h⟩:=adg.mp h;obtain⟨z2,e2,h⟩:=adg.mp h;cases h;simp[zm e2]
theorem Vh{i:Option Nat}{se:nZ}{st:List (Nat×nZ)}{D D':Ends}{σ:L2.St}{H:Hp}(h:FP X.K aj a cls d i y ((j,se)::st) D σ H)(nx:∀σ' H',FP X.K aj a cls d i y st D σ' H'->D'.nx σ' H') :
  tAsg (tU X.K aj a cls d i λx=>Cd y x se) (gName j) D' σ H:=by
 obtain⟨g,Z,M,x,Z2,I,e,nj,k⟩:=h;rw[oH]at e;obtain⟨z,e1,e⟩:=adg.mp e;refine⟨g,Z,M,x,z,I,e1,λv H' x1 r1=>nx _ _ ⟨g,Z.set j (some (.dat z)),M,x,Z2,⟨(I.ex x1).inv.set r1,(I.ex x1).xr,λjj hj=>?_⟩,e,λp hp=>nj p (adt _ hp),λσ' H2 x2 I2=>k σ' H2 (x1.trans x2) I2⟩⟩;have ne:j≠jj:=λz=>nj (j,se) adn (by rw[hj,z]);rw[adl ne];exact I.sl jj hj
theorem S8{i:Option Nat}{D:Ends}{σ:L2.St}{H:Hp}(h:FP X.K aj a cls d i y [] D σ H):D.nx σ H:=by obtain⟨g,Z,M,x,Z2,I,e,nj,k⟩:=h;cases e;exact k σ H (Ex.refl H) I.inv
end
def YZ(K:adh)(aj:aq)(h:Hd)(l:Cl):Prop:=(∃D,aj h.y=some D/\l.c=.ref D)/\Hh K aj h.y h.tk/\l.nm=h.nm/\(l.ts=λa cls d=>FP K aj a cls d h.nm h.y h.st)/\∀p∈h.st,h.nm≠some p.1
inductive pC(K:adh)(aj:aq):List Hd->List Cl->Prop
 |nil:pC K aj [] []
 |cons {h:Hd} {l:Cl} {hs:List Hd} {ls:List Cl} (o:YZ K aj h l) (r:pC K aj hs ls):pC K aj (h::hs) (l::ls)
theorem SInv.off{K:adh}{aj:aq}{σ:L2.St}{H:Hp}{g:Gh}{Z:Env}{M:Mo}(I:SInv K aj σ H g Z M)(i:Nat)(v:Option V):SInv K aj (σ.set i v) H g (Z.set i none) M:=by
 have I2:=I.forget (j:=i);refine⟨I2.kd,I2.wok,by rw[adz,adz];exact I.len,λj d h=>?_,λj xs h=>?_,λj k xs ys l ne h1 h2 h3=>?_⟩
 .by_cases e:j=i
  .subst e;rw[aeg]at h;split at h<;>first | (split at h<;>cases h) | (exact absurd rfl ‹¬_›)
  .obtain⟨v',a1,a2⟩:=I2.dat j d h;rw[adl (Ne.symm e)]at a1;exact⟨v',by rw[adl (Ne.symm e)];exact a1,a2⟩
 .by_cases e:j=i
  .subst e;rw[aeg]at h;split at h<;>first | (split at h<;>cases h) | (exact absurd rfl ‹¬_›)
  .obtain⟨l,us,a1,a2⟩:=I2.own j xs h;rw[adl (Ne.symm e)]at a1;exact⟨l,us,by rw[adl (Ne.symm e)];exact a1,a2⟩
 .have n1:j≠i:=λz=>by
   subst z;rw[aeg]at h1;split at h1<;>first | (split at h1<;>cases h1) | (exact absurd rfl ‹¬_›)
  have n2:k≠i:=λz=>by
   subst z;rw[aeg]at h2;split at h2<;>first | (split at h2<;>cases h2) | (exact absurd rfl ‹¬_›)
  rw[adl (Ne.symm n1)]at h1 h3;rw[adl (Ne.symm n2)]at h2 |-
  exact I.sep j k xs ys l ne h1 h2 h3
section
variable{X:Cx}{aj:aq}{W:WX}{q:Bool}{body:List Stmt}{h0:ExceptHandler}{hds:List ExceptHandler}{hs:List Hd}{ls:List Cl}{pos:Pos}{f:SF}
theorem Vy{D:Ends}{g g':Gh}{H H':Hp}{σ':L2.St}{Z':Env}{M':Mo}{x:aY}{c:Value}{dd:Option Addr}(ha:pC X.K aj hs ls)(r:Gr q g g' H H')(I:SInv X.K aj σ' H' g' Z' M')(xr:dY X.K aj g'.fr H' x c dd)
  (z:(hdl hs x Z' M').sat (sN X.K aj q D.nx g H) (sR X.K aj q D.rt g H) (sN X.K aj q D.bk g H) (sN X.K aj q D.ct g H) (sX X.K aj W q g H)):CV X.K W D ls c dd σ' H':=by
 induction ha with
 |nil=>exact z σ' H' g' c dd r I xr
 | @cons h l hs ls o _ ih=>
  obtain⟨⟨D0,o1,o2⟩,o3,o4,o5,o6⟩:=o;rw[hdl]at z;obtain⟨C,c1,c2,c3⟩:=id xr;split at z
  .next ht=>
   refine⟨true,by rw[c2,o2];exact o3 _ _ _ ht c1 _ o1,λ_ a na=>?_,λy=>nomatch y⟩;rw[o4,o5];split at z
   .next hm=>
    split at z
    .next Z2 hr=>
     cases hnm:h.nm with
     |none=>
      rw[hnm]at hr z o6;exact⟨g',Z',M',x,Z2,⟨I,xr,λj hj=>nomatch hj⟩,hr,o6,λσ2 H2 e2 I2=>z σ2 H2 g' (r.trans (Gr.ex e2)) I2⟩
     |some i=>
      rw[hnm]at hr z o6 hm;refine⟨g',Z'.set i none,M',x,Z2,⟨I.off i _,xr,λj hj=>?_⟩,hr,o6,λσ2 H2 e2 I2=>z _ H2 g' (r.trans (Gr.ex e2)) (I2.off i none)⟩;cases hj;have hl:i<Z'.length:=aex hm;rw[adu (by rw[I.len];exact hl)]
    .exact aev z
   .exact aev z
  .next ht=>exact⟨false,by rw[c2,o2];exact o3 _ _ _ ht c1 _ o1,(λy=>nomatch y),λ_=>ih z⟩
  .exact aev z
theorem UW(st:X.stack=X.env::X.outer)(hf:X.env.frame=some X.env.locals)(hN:X.N.Nodup)(tk:Takes X W)
  (hb:∀(W':WX) (pn:List (Addr×Obj)) (xe:Value->Shared->Prop),Takes (X.tr pn xe) W'->PassesOwn (model X.prog X.w) X.A X.env xe->qW aj (X.tr pn xe) W' q body f)
  (hh:mJ X (h0::hds) ls) (ha:pC X.K aj hs ls):SE aj X W q (.Try body (h0::hds) [] [] pos) (Df f hs):=by
 refine PS.weak (QD (tb:=λW'=>tS X.K aj W' q f) st hf hN tk (λW' pn xe t p=>hb W' pn xe t p) hh) λD σ H ⟨g,Z,M,I,z⟩=>?_;refine⟨g,Z,M,I,?_⟩;unfold Df at z;cases hfm:f M Z with
 |next Z' M'=>rw[hfm]at z;exact z
 |ret d M'=>rw[hfm]at z;exact z
 |brk Z' M'=>rw[hfm]at z;exact z
 |cont Z' M'=>rw[hfm]at z;exact z
 |bad=>rw[hfm]at z;exact z
 |exc x Z' M'=>
  rw[hfm]at z;exact λσ' H' g' c dd r I' xr=>Vy ha r I' xr z
end
section
variable{K:adh}{aj:aq}{W:WX}{g g':Gh}{H H':Hp}{σ:L2.St}{Z:Env}{M:Mo}
theorem bT.grow{l:Addr}(r:Gr false g g' H H')(e:Ex H H')(k:Kd g H):∀{n:Bool} {kvs:List (Dat×Dat)},bT K aj g H l n kvs->bT K aj g' H' l n kvs
 |false,_,⟨kv,h1,h2,h3⟩=>⟨kv,e _ _ h1,h2,h3.gr r k⟩
 |true,_,⟨o,xs,vs,h1,h2,h3,h4,h5,h6⟩=>⟨o,xs,vs,e _ _ h1,h2,h3,h4.gr r k,h5,h6.gr r k⟩
theorem aR.grow{h:Nat}{f:Str}{v:V}(r:Gr false g g' H H')(e:Ex H H')(o:g'.ow=g.ow)(k:Kd g H):∀{fl:bM},aR K aj g H h f v fl->aR K aj g' H' h f v fl
 |.dat _,z=>Rep.gr r k z
 |.lst _ _,⟨l,us,h1,h2,h3,h4,h5⟩=>⟨l,us,h1,e _ _ h2,by rw[o];exact h3,h4.gr r k,r.tb h5⟩
 |.dic _ _,⟨l,h1,h2,h3⟩=>⟨l,h1,by rw[o];exact h2,h3.grow r e k⟩
theorem aK.grow{h:Nat}(r:Gr false g g' H H')(e:Ex H H')(o:g'.ow=g.ow)(k:Kd g H){fs:List (Str×V)}{gs:List (Str×bM)}(t:aK K aj g H h fs gs):aK K aj g' H' h fs gs:=by
 induction t with
 |nil=>exact .nil
 |cons z _ ih=>exact .cons (z.grow r e o k) ih
def Gh.push(g:Gh)(x:Addr):Gh:={ g with tbl:=g.tbl++[x] }
theorem Dq{x a:Addr}(z:(g.push x).A a):g.A a\/a=x:=by
 rcases z with(z|z)|z|z
 .rcases adU.mp z with z|z
  .exact .inl (.inl (.inl z))
  .exact .inr (adF.mp z)
 .exact .inl (.inl (.inr z))
 .exact .inl (.inr (.inl z))
 .exact .inl (.inr (.inr z))
theorem Cy{x a:Addr}(z:(g.push x).W a):g.W a\/a=x:=by
 rcases z with z|z
 .rcases adU.mp z with z|z
  .exact .inl (.inl z)
  .exact .inr (adF.mp z)
 .exact .inl (.inr z)
theorem pH{x:Addr}(e:Ex H H')(nx:H x=none):Gr false g (g.push x) H H' where
 keep:=λa o h _ _=>e a o h
 keepW:=λz=>nomatch z
 dom:=mY e
 tbl:=⟨[x],rfl⟩
 W:=λa z=>z.elim (λz=>.inl (List.mem_append_left _ z)) .inr
 nW:=λa z=>(Cy z).imp id λz=>by rw[z];exact nx
 qg:=λz=>nomatch z
 Lc:=rfl
 Lo:=λ_ z=>z
 nLo:=λ_ z=>.inl z
 kl:=rfl
theorem xZ{x:Addr}{o:HO}(k:Kd g H)(e:Ex H H')(nx:H x=none)(hx:H' x=some o)(m:qO o):Kd (g.push x) H' where
 ob:=λa z=>by
  rcases Dq z with z|rfl
  .obtain⟨u,h1,h2⟩:=k.ob a z;exact⟨u,e _ _ h1,h2⟩
  .exact⟨o,hx,m⟩
 lo:=λa z y=>by
  rcases Cy y with y|rfl
  .exact k.lo a z y
  .obtain⟨u,h1,_⟩:=k.ob a (.inr (.inr z));rw[nx]at h1;cases h1
 lc:=λa z=>by
  refine⟨λy=>?_,(k.lc a z).2⟩;rcases Cy y with y|rfl
  .exact(k.lc a z).1 y
  .obtain⟨u,h1,_⟩:=k.ob a (.inr (.inl z));rw[nx]at h1;cases h1
theorem vK{x:Addr}{c:Str}(k:Kd g H)(w:aX K aj g H M)(e:Ex H H')(nx:H x=none)(hx:c=""\/∃C dx,aj c=some C/\H' x=some (.ins C dx [])):aX K aj (g.push x) H' (M++[⟨c,[]⟩]):=by
 have gt:∀{h:Nat} {a:Addr},(g.push x).tbl[h]?=some a->(g.tbl[h]?=some a)\/(h=M.length/\a=x):=λ{h a} z=>by
  have z:(g.tbl++[x])[h]?=some a:=z;by_cases hl:h<g.tbl.length
  .rw[adD hl]at z;exact .inl z
  .rw[adC (by omega)]at z;have:=(adk.mp z).1;simp at this;have e0:h-g.tbl.length=0:=by omega
   rw[e0]at z;cases z;exact .inr ⟨by rw[<-w.len];omega,rfl⟩
 have nin:∀{h:Nat},¬g.tbl[h]?=some x:=λ{h} z=>by
  obtain⟨u,h1,_⟩:=k.ob x (.inl (.inl (adH z)));rw[nx]at h1;cases h1
 have ex:∀{h:Nat} {i:Inst},(M++[(⟨c,[]⟩:Inst)])[h]?=some i->M[h]?=some i\/i=⟨c,[]⟩:=λ{h i} h1=>by
  by_cases hl:h<M.length
  .rw[adD hl]at h1;exact .inl h1
  .rw[adC (by omega)]at h1;exact .inr (adF.mp (adH h1))
 refine⟨by show(g.tbl++[x]).length=_;simp[w.len],λh j a h1 h2=>?_,λh a i h1 h2 hcn=>?_,λh i h1=>?_,λh i h1 hcn=>?_,λh a i h1 h2 hcn=>?_,λh a xs h1 h2=>?_,w.nc⟩
 .rcases gt h1 with z1|⟨z1,rfl⟩
  .rcases gt h2 with z2|⟨z2,rfl⟩
   .exact w.inj h j a z1 z2
   .exact absurd z1 nin
  .rcases gt h2 with z2|⟨z2,_⟩
   .exact absurd z2 nin
   .omega
 .rcases gt h1 with z1|⟨rfl,rfl⟩
  .have hl:h<M.length:=by rw[<-w.len];exact(adk.mp z1).1
   rw[adD hl]at h2;obtain⟨C',dx',fs,c1,c2,c3⟩:=w.ins h a i z1 h2 hcn;exact⟨C',dx',fs,c1,e _ _ c2,c3.grow (pH e nx) e rfl k⟩
  .rw[adC (adE _),Nat.sub_self]at h2;cases h2;rcases hx with rfl|⟨C,dx,hc,hx⟩
   .exact absurd rfl hcn
   .exact⟨C,dx,[],hc,hx,.nil⟩
 .rcases ex h1 with h1|rfl
  .exact w.nd h i h1
  .exact aeh
 .rcases ex h1 with h1|rfl
  .exact w.fd h i h1 hcn
  .exact λf hf=>absurd hf adM
 .rcases gt h1 with z1|⟨_,rfl⟩
  .have hl:h<M.length:=by rw[<-w.len];exact(adk.mp z1).1
   rw[adD hl]at h2;exact w.tw h a i z1 h2 hcn
  .cases hz:g.ow a with
   |none=>exact hz
   |some p=>
    obtain⟨u,h2,_⟩:=k.ob a (.inl (.inr (by rw[hz];exact λy=>nomatch y)));rw[nx]at h2;cases h2
 .rcases ex h2 with h2|h2
  .have hl:h<M.length:=(adk.mp h2).1;rcases gt h1 with z1|⟨z1,_⟩
   .obtain⟨us,y1,y2,y3⟩:=w.li h a xs z1 h2;exact⟨us,e _ _ y1,y2,y3.gr (pH e nx) k⟩
   .omega
  .have:=congrArg Inst.fs h2;cases this
theorem SInv.grow{M':Mo}(r:Gr false g g' H H')(e:Ex H H')(lo:g'.Lo=g.Lo)(k':Kd g' H')(w':aX K aj g' H' M')(I:SInv K aj σ H g Z M):SInv K aj σ H' g' Z M' where
 kd:=k'
 wok:=w'
 len:=I.len
 dat:=λi d h=>by
  obtain⟨v,h1,h2⟩:=I.dat i d h;exact⟨v,h1,h2.gr r I.kd⟩
 own:=λi xs h=>by
  obtain⟨l,us,h1,h2,h3,h4⟩:=I.own i xs h;exact⟨l,us,h1,e _ _ h2,by rw[lo];exact h3,h4.gr r I.kd⟩
 sep:=I.sep
end
theorem HD{P:Program}{w:World}{K:adh}{mg:Str->Option Value}{base:Heap}{k:Nat}{f:Addr}{fd:FuncData}{ps:List Str}{sp:Sp}(F:FnOk P w K mg base (L2.CX P w) k f fd ps sp):FnOk P w K mg base L2.CX0 k f fd ps λvs H Q _=>sp vs H Q λ_ _ _=>False:=
 ⟨λvs H Q E h=>F.len vs H Q _ h,λA outer s H args us vs Q E hr he hb hv h=>codeAny_mono (F.run A outer s H args us vs Q _ hr he hb hv h) λr s' z=>by
  unfold CR at z |-
  split at z
  .exact z
  .exact z
  .obtain⟨a,B,H',cls,d,_,_,_,_,_,_,_,y⟩:=z;exact aev y⟩
def sE(x:Str)(m:Mo->List Dat->aG Dat)(as:QA):GF:=λM Z=>((as M Z).at M).bind λds _=>match m (M++[⟨x,[]⟩]) (obj M.length::ds) with
 |.ok .none M'=>.ok (obj M.length) M'
 |_=>.bad
section
variable{X:Cx}{aj:aq}{W:WX}{x:Str}{pos p:Pos}{k n:Nat}{m:Mo->List Dat->aG Dat}{as:QA}{t:TA}{e:Expr}{es:List Expr}
theorem Jg{C f:Addr}{fd:FuncData}{ps:List Str}(hc:aj x=some C)(hp:ps.length=n+1)(hn:∀M Z ds,as M Z=.ok ds->ds.length=n)(ht:∀σ H Q,uW X.K aj W as σ H Q->t σ H Q)(σ:L2.St)(H:Hp)(Q:VK)(h:tE X.K aj W false (sE x m as) σ H Q) :
  tMake C (λvs H Q _=>oZ X.K aj ps.length m vs H Q λ_ _ _=>False) [] (λ_ _ _=>False) t σ H Q:=by
 obtain⟨g,Z,M,I,h⟩:=h;unfold sE at h;have h:=h.bnd;refine ht σ H _ ⟨g,Z,M,I,?_⟩;cases has:as M Z with
 |exc x=>rw[has]at h;exact λH' c dd e r=>h H' g c dd (Gr.ex e) (I.ex e) r
 |bad=>rw[has]at h;exact aev h
 |ok ds=>
  rw[has]at h;intro vs H1 e1 r1 y dx ny ndx ne;have I1:=I.ex e1;have e2:Ex H1 (upd (upd H1 dx (.own y)) y (.ins C dx [])):=by refine(Ex.new ndx).trans (Ex.new ?_);rw[upd_ne ne.symm];exact ny
  have hy:upd (upd H1 dx (.own y)) y (.ins C dx []) y=some (.ins C dx []):=aeC;have gr:=pH (g:=g) e2 ny;have kd:=xZ I1.kd e2 ny hy aeu;have wk:=vK (c:=x) I1.kd I1.wok e2 ny (.inr ⟨C,dx,hc,hy⟩);have I2:=I1.grow gr e2 rfl kd wk;have hb:(g.push y).tbl[M.length]?=some y:=by
   show(g.tbl++[y])[M.length]?=_
   rw[<-I1.wok.len,adC (adE _),Nat.sub_self];rfl
  refine⟨by rw[adV,adA,r1.length,hn M Z ds has,hp],g.push y,M++[⟨x,[]⟩],obj M.length::ds,kd,wk,.cons (.obj hb) (by rw[adV];exact r1.gr gr I1.kd),?_⟩;have h:aG.sat (match m (M++[(⟨x,[]⟩:Inst)]) (obj M.length::ds) with
   |.ok .none M'=>aG.ok (obj M.length) M'
   |_=>.bad) (λd M'=>∀v H' g',Gr false g g' H H'->SInv X.K aj σ H' g' Z M'->Rep X.K g' H' v d->Q v H') (gE X.K aj W false g H σ Z):=h
  cases hm:m (M++[⟨x,[]⟩]) (obj M.length::ds) with
  |bad=>rw[hm]at h;exact aev h
  |exc z M'=>rw[hm]at h;exact aev h
  |ok d M'=>
   rw[hm]at h;cases d with
   |none=>exact λv H' g' c k' w' r'=>⟨by cases r';rfl,h (.ref y) H' g' (((Gr.ex e1).trans gr).trans c.gr) (I2.call c k' w') (.obj (c.gr.tb hb))⟩
   |_=>exact aev h
theorem Wn(hr:Room k X.A)(g:bV X.prog X.w X.K X.mg X.base aj k x (.cls n m))(hg:Gl X x)(hd:(x==("__debug__" : Str))=false)(ha:m9 aj X W (e::es) as)(hs:(e::es).all nst=true)(hn:∀M Z ds,as M Z=.ok ds->ds.length=n) :
  GE aj X W false (.Call (.Name x p) (e::es) [] pos) (sE x m as):=by
 obtain⟨C,f,fd,ps,j,g1,g2,_,g3,hj,hp,hB,F⟩:=g;have hs':=hs;rw[adI,adi]at hs';exact PE.weak (pe_make (E:=λ_ _ _=>False) g3 (HD F) (hr.mono hj) hg g1 hB .nil pass0 ha hd (aQ hs'.1 es) (star_any es hs'.2)) λσ H Q h=>Jg (f:=f) (fd:=fd) g2 hp hn (λ_ _ _ z=>z) σ H Q h
theorem Qn(hr:Room k X.A)(g:bV X.prog X.w X.K X.mg X.base aj k x (.cls 0 m))(hg:Gl X x)(hd:(x==("__debug__" : Str))=false):GE aj X W false (.Call (.Name x p) [] [] pos) (sE x m aP):=by obtain⟨C,f,fd,ps,j,g1,g2,_,g3,hj,hp,hB,F⟩:=g;exact PE.weak (pe_make0 (E:=λ_ _ _=>False) g3 (HD F) (hr.mono hj) hg g1 hB .nil pass0 hd) λσ H Q h=>Jg (f:=f) (fd:=fd) (as:=aP) g2 hp (λM Z ds z=>by cases z;rfl) (λσ H Q ⟨g,Z,M,I,z⟩=>z [] H (Ex.refl H) .nil) σ H Q h
end
def vZ(m:Mo->List Dat->aG Dat)(as:QA):GF:=λM Z=>((as M Z).at M).bind λds _=>m M ds
section
variable{X:Cx}{aj:aq}{W:WX}{e:Expr}{es:List Expr}{pos p:Pos}{x:Str}{k:Nat}{f:Addr}{fd:FuncData}{ps:List Str}
theorem Rp{m:Mo->List Dat->aG Dat}{as:QA}(tk:Takes X W)(F:FnOk X.prog X.w X.K X.mg X.base (L2.CX X.prog X.w) k f fd ps (oZ X.K aj ps.length m))(hr:Room k X.A)(hg:Gl X x)(hm:X.mg x=some (.ref f))(hk:PySem.W.keepIn X.K (.ref f)=true)(hb:Binds X.K fd ps [])
  (ha:m9 aj X W (e::es) as) (hl:(e::es).length=ps.length) (hd:(x==("__debug__" : Str))=false) (hs:(e::es).all nst=true) (hn:∀M Z ds,as M Z=.ok ds->ds.length=(e::es).length):GE aj X W false (.Call (.Name x p) (e::es) [] pos) (vZ m as):=by
 have hs':=hs;rw[adI,adi]at hs';refine PE.weak (pe_callS (E:=λσ=>WE W σ) F hr hg hm hk hb (λσ=>passAt tk σ) ha hd (aQ hs'.1 es) (star_any es hs'.2)) λσ H Q ⟨g,Z,M,I,h⟩=>?_;refine⟨g,Z,M,I,?_⟩;have h:=h.bnd;cases has:as M Z with
 |exc x=>rw[has]at h;exact λH' c dd e r=>h H' g c dd (Gr.ex e) (I.ex e) r
 |bad=>rw[has]at h;exact aev h
 |ok ds=>
  rw[has]at h;have h:(m M ds).sat (λd M'=>∀v H' g',Gr false g g' H H'->SInv X.K aj σ H' g' Z M'->Rep X.K g' H' v d->Q v H') (gE X.K aj W false g H σ Z):=h;intro vs H1 e1 r1;exact⟨by rw[r1.length,hn M Z ds has];exact hl,g,M,ds,I.kd.ex e1,I.wok.ex e1 I.kd,r1,h.mono (λd M' kk v H' g' c k' w' r'=>kk v H' g' ((Gr.ex e1).trans c.gr) ((I.ex e1).call c k' w') r') λx M' kk H' g' cc dd c k' w' r'=>kk H' g' cc dd ((Gr.ex e1).trans c.gr) ((I.ex e1).call c k' w') r'⟩
end
def Ft.has(ft:Ft)(c f:Str):Bool:=match ft.lookup c with
 |some fs=>fs.contains f
 |none=>false
def sY(ft:Ft)(aj:aq):Prop:=∀c f,ft.has c f=true->f∈aj.fl c
def S7:Dat->Option Nat
 |.dict [(.none,.int (.ofNat h))]=>some h
 |_=>none
theorem Nv{d:Dat}{h:Nat}(e:S7 d=some h):d=obj h:=by
 unfold S7 at e;split at e
 .cases e;rfl
 .cases e
def dD(M:Mo)(d:Dat):Option (Nat×Inst):=(S7 d).bind λh=>(M[h]?).bind λi=>match i.cls=="" with
 |true=>none
 |false=>some (h,i)
theorem qD{M:Mo}{d:Dat}{h:Nat}{i:Inst}(e:dD M d=some (h,i)):d=obj h/\M[h]?=some i/\i.cls≠"":=by
 unfold dD at e;obtain⟨h',e1,e⟩:=adg.mp e;obtain⟨i',e2,e⟩:=adg.mp e;split at e
 .cases e
 .next hc=>
  cases e;exact⟨Nv e1,e2,λz=>by rw[z]at hc;cases hc⟩
def Ip(ft:Ft)(o:QF)(f:Str)(e:GF):SF:=λM Z=>(e M Z).then Z λd M1=>((o M1 Z).at M1).then Z λod M2=>match dD M2 od with
 |some (h,i)=>match ft.has i.cls f&&decide (i.fs.length<100) with
  |true=>.next Z (M2.set h (i.put f (.dat d)))
  |false=>.bad
 |none=>.bad
theorem SInv.chg{K:adh}{aj:aq}{σ:L2.St}{H H':Hp}{g g':Gh}{Z:Env}{M M':Mo}{h:Nat}{f:Str}(I:SInv K aj σ H g Z M)(c:Gv M g g' H H' h f)(w:aX K aj g' H' M'):SInv K aj σ H' g' Z M':=I.call c.gc c.kd w
section
variable{X:Cx}{aj:aq}{W:WX}{o e:Expr}{f:Str}{pos pos':Pos}{ft:Ft}{fo:QF}
theorem pP{K:adh}{g:Gh}{H:Hp}{M:Mo}{d:Dat}{v:V}{h:Nat}{i:Inst}(co:cO K aj)(fk:sY ft aj)(w:aX K aj g H M)(r:aW K g H v d)(hi:dD M d=some (h,i))(hf:ft.has i.cls f=true):∃a C dx fs,d=obj h/\M[h]?=some i/\i.cls≠""/\g.tbl[h]?=some a/\v=.ref a/\aj i.cls=some C/\H a=some (.ins C dx fs)/\aK K aj g H h fs i.fs/\Cls K C/\NoAttr K C f/\f∈aj.fl i.cls:=by obtain⟨rfl,h1,h2⟩:=qD hi;obtain⟨a,rfl,ha⟩:=pN r;obtain⟨C,dx,fs,c1,c2,c3⟩:=w.ins h a i ha h1 h2;have hfl:=fk _ _ hf;obtain⟨k1,k2⟩:=co i.cls C f c1 hfl;exact⟨a,C,dx,fs,rfl,h1,h2,ha,rfl,c1,c2,c3,k1,k2,hfl⟩
theorem PB{fe:GF}(co:cO X.K aj)(fk:sY ft aj)(ho:QW aj X W o fo)(he:GE aj X W false e fe)(hs:swapsWith e (some (.Attribute o f pos')) pos.line X.env=pure false):SE aj X W false (.Assign [.Attribute o f pos'] e pos) (Ip ft fo f fe):=by
 refine PS.weak (ps_fld ho he hs) λD σ H ⟨g,Z,M,I,z⟩=>?_;refine tE.go I (aU (σ:=σ) z) λd M1 v H1 g1 k1 r1 I1 rv=>?_;refine tW.go I1 (k:=λod=>((match dD M1 od with
  |some (h,i)=>match ft.has i.cls f&&decide (i.fs.length<100) with
   |true=>fO.next Z (M1.set h (i.put f (.dat d)))
   |false=>.bad
  |none=>.bad).sat (sN X.K aj false D.nx g H) (sR X.K aj false D.rt g H) (sN X.K aj false D.bk g H) (sN X.K aj false D.ct g H) (sX X.K aj W false g H))) ?_ λod u H2 k2 e2 ru=>?_
 .have k1:=Out.bO (aU (σ:=σ) k1);exact k1.mono (λ_ y=>y) λx y H' c dd ex rx=>y H' g1 c dd (r1.trans (Gr.ex ex)) (I1.ex ex) rx
 .have I2:=I1.ex e2;split at k2
  .next h i hi=>
   split at k2
   .next hb=>
    rw[adi]at hb;obtain⟨a,C,dx,fs,_,m1,m2,ha,rfl,c1,c2,c3,c4,c5,c6⟩:=pP co fk I2.wok ru hi hb.1;refine⟨a,C,dx,fs,rfl,c2,c4,c5,?_,?_⟩
    .have:=aex hb.2;rw[c3.len];omega
    .have ch:=yJ (f:=f) (C:=C) (dx:=dx) (fs':=putF f v fs) I2.kd I2.wok ha m1 m2;have w':=I2.wok.chg I2.kd ch ha m1 m2 c6 c1 c3 aeC (fl:=.dat d) (show Rep X.K g1 _ v d from(rv.ex e2 I1.kd).gr ch.gc.gr I2.kd);exact k2 σ _ g1 ((r1.trans (Gr.ex e2)).trans ch.gc.gr) (I2.chg ch w')
   .exact aev k2
  .exact aev k2
end
mutual
theorem Rep.mv{K:adh}{g g':Gh}{H:Hp}(hk:g'.kl=g.kl)(tb:∀(h:Nat) (a:Addr),g.tbl[h]?=some a->g'.tbl[h]?=some a)(n:∀a,g'.A a->g.A a):∀{v:V} {d:Dat},Rep K g H v d->Rep K g' H v d
 |_,_,.non=>.non
 |_,_,.bl b=>.bl b
 |_,_,.int i=>.int i
 |_,_,.str x=>.str x
 |_,_,.tup h t=>.tup h (ao.mv hk tb n t)
 |_,_,.lst h t=>.lst (h.elim (λz=>.inl ⟨z.1,λy=>z.2 (n _ y)⟩) λz=>.inr ⟨by rw[hk];exact z.1,z.2.elim (λz=>.inl ⟨z.1,λy=>z.2 (n _ y)⟩) .inr⟩) (ao.mv hk tb n t)
 |_,_,.obj h=>.obj (tb _ _ h)
theorem ao.mv{K:adh}{g g':Gh}{H:Hp}(hk:g'.kl=g.kl)(tb:∀(h:Nat) (a:Addr),g.tbl[h]?=some a->g'.tbl[h]?=some a)(n:∀a,g'.A a->g.A a):∀{vs:List V} {ds:List Dat},ao K g H vs ds->ao K g' H vs ds
 |_,_,.nil=>.nil
 |_,_,.cons h t=>.cons (Rep.mv hk tb n h) (ao.mv hk tb n t)
end
def tV(ft:Ft)(o:QF)(f:Str)(e:IF):SF:=λM Z=>((e M Z).at M).then Z λxs M0=>((o (M0++[⟨"",[]⟩]) Z).at (M0++[⟨"",[]⟩])).then Z λod M2=>match dD M2 od with
 |some (h,i)=>match ft.has i.cls f&&decide (i.fs.length<100) with
  |true=>.next Z (M2.set h (i.put f (.lst M0.length xs)))
  |false=>.bad
 |none=>.bad
theorem rN{K:adh}{aj:aq}{σ:L2.St}{H H':Hp}{g:Gh}{Z:Env}{M:Mo}{l:Addr}{o:HO}(I:SInv K aj σ H g Z M)(nl:H l=none)(e:Ex H H')(hl:H' l=some o)(m:qO o):Gr false g (g.push l) H H'/\SInv K aj σ H' (g.push l) Z (M++[⟨"",[]⟩])/\(g.push l).tbl[M.length]?=some l/\(g.push l).ow l=none/\(M++[(⟨"",[]⟩:Inst)])[M.length]?=some ⟨"",[]⟩:=by
 have gr:=pH (g:=g) e nl;have kd:=xZ I.kd e nl hl m;have wk:=vK (c:="") I.kd I.wok e nl (.inl rfl)
 refine⟨gr,I.grow gr e rfl kd wk,?_,?_,?_⟩
 .show(g.tbl++[l])[M.length]?=_
  rw[<-I.wok.len,adC (adE _),Nat.sub_self];rfl
 .cases hz:g.ow l with
  |none=>exact hz
  |some p=>
   obtain⟨u,h1,_⟩:=I.kd.ob l (.inl (.inr (by rw[hz];exact λy=>nomatch y)));rw[nl]at h1;cases h1
 .rw[adC (adE _),Nat.sub_self];rfl
section
variable{X:Cx}{aj:aq}{W:WX}{o e:Expr}{f:Str}{pos pos' p1 apos epos spos:Pos}{ft:Ft}{fo:QF}
theorem Rq{fe:IF}(co:cO X.K aj)(fk:sY ft aj)(ho:QW aj X W o fo)(he:FE aj X W e fe)(hs:swapsWith e (some (.Attribute o f pos')) pos.line X.env=pure false):SE aj X W false (.Assign [.Attribute o f pos'] e pos) (tV ft fo f fe):=by
 refine PS.weak (ps_fld ho he hs) λD σ H ⟨g,Z,M,I,z⟩=>?_;refine⟨g,Z,M,I,?_⟩;unfold tV at z;cases hf:fe M Z with
 |exc x=>rw[hf]at z;exact λH' c dd e r=>z σ H' g c dd (Gr.ex e) (I.ex e) r.fr
 |bad=>rw[hf]at z;exact aev z
 |ok xs=>
  rw[hf]at z;intro l us H1 nl e1 hl rs;obtain⟨gr,I1,tb,ow,mm⟩:=rN I nl e1 hl aeu;have rs1:ao X.K (g.push l) H1 us xs:=ao.mv (g:=g.add l) (g':=g.push l) rfl (λh a z=>gr.tb (g:=g) z) (λa z=>by
   rcases Dq z with z|rfl
   .rcases z with z|z|z
    .exact .inl z
    .exact .inr (.inl z)
    .exact .inr (.inr (show g.Lo a\/a=l from Or.inl z))
   .exact .inr (.inr (show g.Lo a\/a=a from Or.inr rfl))) rs
  have z:(((fo (M++[⟨"",[]⟩]) Z).at (M++[⟨"",[]⟩])).then Z λod M2=>match dD M2 od with
   |some (h,i)=>match ft.has i.cls f&&decide (i.fs.length<100) with
    |true=>.next Z (M2.set h (i.put f (.lst M.length xs)))
    |false=>.bad
   |none=>.bad).sat (sN X.K aj false D.nx g H) (sR X.K aj false D.rt g H) (sN X.K aj false D.bk g H) (sN X.K aj false D.ct g H) (sX X.K aj W false g H):=z
  have k1:=Out.bO (aU (σ:=σ) z);refine tW.go I1 (k1.mono (λ_ y=>y) λx y H' c dd ex rx=>y H' _ c dd (gr.trans (Gr.ex ex)) (I1.ex ex) rx) λod u H2 k2 e2 ru=>?_;have I2:=I1.ex e2;split at k2
  .next h i hi=>
   split at k2
   .next hb=>
    rw[adi]at hb;obtain⟨a,C,dx,fs,_,m1,m2,ha,rfl,c1,c2,c3,c4,c5,c6⟩:=pP co fk I2.wok ru hi hb.1;have nla:l≠a:=λz=>by
     subst z;cases I2.wok.inj _ _ _ ha tb;rw[mm]at m1;cases m1;exact m2 rfl
    refine⟨a,C,dx,fs,rfl,c2,c4,c5,?_,?_⟩
    .have:=aex hb.2;rw[c3.len];omega
    .have ch:=xM (f:=f) (C:=C) (dx:=dx) (fs':=putF f (.ref l) fs) I2.kd I2.wok ha m1 m2 tb mm ow;have w':=I2.wok.chg I2.kd ch ha m1 m2 c6 c1 c3 aeC (v:=.ref l) (fl:=.lst M.length xs) ⟨l,us,rfl,by rw[upd_ne nla];exact e2 _ _ hl,aeA rfl,(rs1.ex e2 I1.kd).gr ch.gc.gr I2.kd,ch.gc.gr.tb tb⟩;exact k2 σ _ _ ((gr.trans (Gr.ex e2)).trans ch.gc.gr) (I2.chg ch w')
   .exact aev k2
  .exact aev k2
def oU(M:Mo)(f:Str)(d:Dat):Option (Nat×Inst×Nat×List Dat):=(dD M d).bind λp=>match p.2.fs.lookup f with
 |some (.lst n xs)=>some (p.1,p.2,n,xs)
 |_=>none
theorem xR{K:adh}{g:Gh}{H:Hp}{M:Mo}{d:Dat}{v:V}{h n:Nat}{i:Inst}{xs:List Dat}(co:cO K aj)(w:aX K aj g H M)(r:aW K g H v d)(hi:oU M f d=some (h,i,n,xs)) :
  ∃a C dx fs l us,d=obj h/\M[h]?=some i/\i.cls≠""/\i.fs.lookup f=some (.lst n xs)/\g.tbl[h]?=some a/\v=.ref a/\aj i.cls=some C/\H a=some (.ins C dx fs)/\aK K aj g H h fs i.fs/\Cls K C/\NoAttr K C f/\f∈aj.fl i.cls/\fs.lookup f=some (.ref l)/\H l=some (.lst us)/\g.ow l=some (h,f)/\ao K g H us xs/\g.tbl[n]?=some l:=by
 unfold oU at hi;obtain⟨⟨h',i'⟩,h1,hi⟩:=adg.mp hi;split at hi
 .next n' xs' hl=>
  cases hi;obtain⟨rfl,m1,m2⟩:=qD h1;obtain⟨a,rfl,ha⟩:=pN r;obtain⟨C,dx,fs,c1,c2,c3⟩:=w.ins _ a _ ha m1 m2;have hfl:=w.fd _ _ m1 m2 f (lookup_mem hl);obtain⟨k1,k2⟩:=co _ C f c1 hfl;obtain⟨u,l1,l,us,rfl,l3,l4,l5,l6⟩:=c3.get hl;exact⟨a,C,dx,fs,l,us,rfl,m1,m2,hl,ha,rfl,c1,c2,c3,k1,k2,hfl,l1,l3,l4,l5,l6⟩
 .cases hi
theorem Gp{K:adh}{σ:L2.St}{Z:Env}{g:Gh}{H:Hp}{M:Mo}{h n:Nat}{i:Inst}{ys:List Dat}{a C dx l:Addr}{fs:List (Str×V)}{us':List V}(I:SInv K aj σ H g Z M)(m1:M[h]?=some i)(m2:i.cls≠"")(ha:g.tbl[h]?=some a)(c1:aj i.cls=some C)(c2:H a=some (.ins C dx fs))(c3:aK K aj g H h fs i.fs)(hfl:f∈aj.fl i.cls)(l1:fs.lookup f=some (.ref l))(l4:g.ow l=some (h,f))(l6:g.tbl[n]?=some l)(rs:ao K g H us' ys) :
  Gr false g g H (upd H l (.lst us'))/\SInv K aj σ (upd H l (.lst us')) g Z (M.set h (i.put f (.lst n ys))):=by
 have ch:=Km (o':=.lst us') I.kd I.wok l4 aeu;have nla:a≠l:=λz=>by
  subst z;rw[I.wok.tw h a i ha m1 m2]at l4;cases l4
 have w':=I.wok.chg I.kd ch ha m1 m2 hfl c1 (dx:=dx) c3 (v:=.ref l) (fl:=.lst n ys) (by rw[upd_ne nla,sU l1];exact c2) ⟨l,us',rfl,aeC,l4,rs.gr ch.gc.gr I.kd,l6⟩;exact⟨ch.gc.gr,I.chg ch w'⟩
def uQ(f:Str)(o:QF)(e:GF):SF:=λM Z=>((o M Z).at M).then Z λod M0=>match oU M0 f od with
 |some (_,_,n,_)=>(e M0 Z).then Z λd M1=>match oU M1 f od with
  |some (h,i,n',xs)=>match n==n'&&decide (xs.length<100000) with
   |true=>.next Z (M1.set h (i.put f (.lst n (xs++[d]))))
   |false=>.bad
  |none=>.bad
 |none=>.bad
theorem Qa{fe:GF}(co:cO X.K aj)(ho:QW aj X W o fo)(hb:baseOk o=true)(he:GE aj X W false e fe)(hs:nst e=true)(hl:(apos.endLine==pos.line)=true) :
  SE aj X W false (.Expr (.Call (.Attribute (.Attribute o f p1) "append" apos) [e] [] pos) epos) (uQ f fo fe):=by
 have h0:=pe_fld (X:=X) (pos:=p1) (f:=f) ho (cZ hb);have h1:=pa_cons he pa_nil (aQ hs []);have key:=pe_bm (X:=X) (cpos:=pos) (apos:=apos) PySem.F.plainAttrs_list PySem.F.slot_list_append PySem.F.type_list_append mt_append h0 h1 (cZ rfl) (few (by simp[hs]) (by simp)) hl (aQ hs []) (by with_unfolding_all rfl);refine PS.weak (ps_expr key (by with_unfolding_all rfl)) λD σ H ⟨g,Z,M,I,z⟩=>?_;unfold uQ at z;have k1:=Out.bO (aU (σ:=σ) z);refine tW.go I (k1.mono (λ_ y=>y) λx y H' c dd ex rx=>y H' _ c dd (Gr.ex ex) (I.ex ex) rx) λod u H1 k2 e1 ru=>?_;have I1:=I.ex e1;split at k2
 .next h0' i0 n xs0 hi=>
  obtain⟨a,C,dx,fs,l,us,rfl,m1,m2,ml,ha,rfl,c1,c2,c3,c4,c5,c6,l1,l3,l4,l5,l6⟩:=xR co I1.wok ru hi;refine⟨a,C,dx,fs,.ref l,rfl,c2,c4,c5,l1,.inl ⟨rfl,us,sq_of l3⟩,?_⟩;refine tE.go I1 ((aU (σ:=σ) k2).mono (λ_ _ y=>y) λx M' y=>y.gr (Gr.ex e1)) λd M1 v H2 g2 k3 r2 I2 rv=>?_;split at k3
  .next h i n' xs hi2=>
   split at k3
   .next hg=>
    rw[adi]at hg;cases aeD hg.1;have ru2:aW X.K g2 H2 (.ref a) (obj h0'):=Rep.weak (.obj (r2.tb ha));obtain⟨a',C',dx',fs',l',us',eh,n1,n2,nl,hb',ea,d1,d2,d3,d4,d5,d6,p1,p3,p4,p5,p6⟩:=xR co I2.wok ru2 hi2;cases ea;have el:l'=l:=adx (p6.symm.trans (r2.tb l6));subst el;obtain⟨gr,I3⟩:=Gp (us':=us'++[v]) (ys:=xs++[d]) I2 n1 n2 hb' d1 d2 d3 d6 p1 p4 p6 (p5.append (.cons rv .nil));refine⟨l',us',v,rfl,rfl,p3,sz_lt (by rw[p5.length];exact aex hg.2),?_⟩;exact k3 σ _ g2 (((Gr.ex e1).trans r2).trans gr) I3
   .exact aev k3
  .exact aev k3
 .exact aev k2
def wA(f:Str)(o fi e:QF):SF:=λM Z=>((e M Z).at M).then Z λd _=>((o M Z).at M).then Z λod _=>match oU M f od with
 |some (h,i,n,xs)=>((fi M Z).at M).then Z λk _=>match k with
  |.int k=>match ixN xs.length k with
   |some j=>.next Z (M.set h (i.put f (.lst n (xs.set j d))))
   |none=>.bad
  |_=>.bad
 |none=>.bad
theorem Q7{i:Expr}{fi fe:QF}(co:cO X.K aj)(ho:QW aj X W o fo)(hb:baseOk o=true)(he:QE aj X W e fe)(hi:QE aj X W i fi)
  (ha:∀v,assign (.Subscript (.Attribute o f p1) i spos) X.env v=(do
   let ov <-holding [v] (eval (.Attribute o f p1) X.env)
   let iv <-holding [v,ov] (eval i X.env)
   standAt spos
   holding [v,ov,iv] (setItem ov iv v)
   release [v,ov,iv] []))
  (hs:swapsWithSole [.Subscript (.Attribute o f p1) i spos] e pos.line X.env=pure false) (h1:(assignEach [.Subscript (.Attribute o f p1) i spos] X.env).map (·.2)=[assign (.Subscript (.Attribute o f p1) i spos) X.env]):SE aj X W false (.Assign [.Subscript (.Attribute o f p1) i spos] e pos) (wA f fo fi fe):=by
 have h0:=pe_fld (X:=X) (pos:=p1) (f:=f) ho (cZ hb);refine PS.weak (ps_asg he (pg_sub h0 hi set_list ha) hs (by with_unfolding_all rfl) h1) λD σ H ⟨g,Z,M,I,z⟩=>?_;unfold wA at z;have k1:=Out.bO (aU (σ:=σ) z);refine tQ.go I (k1.mono (λ_ y=>y) λx y H' c dd ex rx=>y H' _ c dd (Gr.ex ex) (I.ex ex) rx) λd v H1 k2 e1 rv=>?_;have I1:=I.ex e1;have k2:=Out.bO (aU (σ:=σ) k2);refine tW.go I1 (k2.mono (λ_ y=>y) λx y H' c dd ex rx=>y H' _ c dd ((Gr.ex e1).trans (Gr.ex ex)) (I1.ex ex) rx) λod u H2 k3 e2 ru=>?_;have I2:=I1.ex e2;have e12:=e1.trans e2;split at k3
 .next h i' n xs hl=>
  obtain⟨a,C,dx,fs,l,us,rfl,m1,m2,ml,ha',rfl,c1,c2,c3,c4,c5,c6,l1,l3,l4,l5,l6⟩:=xR co I2.wok ru hl;refine⟨a,C,dx,fs,.ref l,rfl,c2,c4,c5,l1,?_⟩;have k3:=Out.bO (aU (σ:=σ) k3);refine tQ.go I2 (k3.mono (λ_ y=>y) λx y H' c dd ex rx=>y H' _ c dd ((Gr.ex e12).trans (Gr.ex ex)) (I2.ex ex) rx) λk w H3 k4 e3 rw'=>?_;have I3:=I2.ex e3;cases k with
  |int k=>
   simp only at k4;split at k4
   .next j hj=>
    cases rw';obtain⟨gr,I4⟩:=Gp (us':=us.set j v) (ys:=xs.set j d) I3 m1 m2 ha' c1 (e3 _ _ c2) (c3.ex e3 I2.kd) c6 l1 l4 l6 (((l5.ex e3 I2.kd).set ((rv.ex e2 I1.kd).ex e3 I2.kd) j));refine⟨l,us,k,j,rfl,rfl,e3 _ _ l3,by rw[l5.length];exact hj,?_⟩;exact k4 σ _ g ((Gr.ex (e12.trans e3)).trans gr) I4
   .exact aev k4
  |_=>exact aev k4
 .exact aev k3
def Ay(ft:Ft)(f:Str)(o e:QF):SF:=λM Z=>((o M Z).at M).then Z λod _=>match dD M od with
 |some (h,i)=>match i.fs.lookup f,ft.has i.cls f&&decide (i.fs.length<100) with
  |some (.dat (.int a)),true=>((e M Z).at M).then Z λd _=>match d with
   |.int b=>.next Z (M.set h (i.put f (.dat (.int (a+b)))))
   |_=>.bad
  |_,_=>.bad
 |none=>.bad
theorem Nf:InOp X .Add (λx y H Q=>∃i j,x=.int i/\y=.int j/\Q (.int (i+j)) H):=by intro pins s σ H x y u v Q I rx ry h;obtain⟨i,j,rfl,rfl,q⟩:=h;exact iop_add pins s σ H _ _ u v Q I rx ry ⟨i,j,rfl,rfl,q⟩
theorem Rz{fe:QF}{tpos:Pos}(co:cO X.K aj)(fk:sY ft aj)(ho:QW aj X W o fo)(he:QE aj X W e fe):SE aj X W false (.AugAssign (.Attribute o f tpos) .Add e pos) (Ay ft f fo fe):=by
 refine PS.weak (ps_fldaug ho he Nf) λD σ H ⟨g,Z,M,I,z⟩=>?_;unfold Ay at z;have k1:=Out.bO (aU (σ:=σ) z);refine tW.go I (k1.mono (λ_ y=>y) λx y H' c dd ex rx=>y H' _ c dd (Gr.ex ex) (I.ex ex) rx) λod u H1 k2 e1 ru=>?_;have I1:=I.ex e1;split at k2
 .next h i hi=>
  split at k2
  .next b hlk hb=>
   rw[adi]at hb;obtain⟨a,C,dx,fs,_,m1,m2,ha,rfl,c1,c2,c3,c4,c5,c6⟩:=pP co fk I1.wok ru hi hb.1;obtain⟨v,l1,l2⟩:=c3.get hlk;refine⟨a,C,dx,fs,v,rfl,c2,c4,c5,l1,?_⟩;have k2:=Out.bO (aU (σ:=σ) k2);refine tQ.go I1 (k2.mono (λ_ y=>y) λx y H' c dd ex rx=>y H' _ c dd ((Gr.ex e1).trans (Gr.ex ex)) (I1.ex ex) rx) λd w H2 k3 e2 rd=>?_;have I2:=I1.ex e2;cases d with
   |int j=>
    cases rd;have l2:Rep X.K g H1 v (.int b):=l2;cases l2;refine⟨b,j,rfl,rfl,dx,fs,e2 _ _ c2,?_,?_⟩
    .have:=aex hb.2;rw[c3.len];omega
    .have ch:=yJ (f:=f) (C:=C) (dx:=dx) (fs':=putF f (.int (b+j)) fs) I2.kd I2.wok ha m1 m2;have w':=I2.wok.chg I2.kd ch ha m1 m2 c6 c1 (c3.ex e2 I1.kd) aeC (v:=.int (b+j)) (fl:=.dat (.int (b+j))) (show Rep X.K g _ _ _ from .int _);exact k3 σ _ g ((Gr.ex (e1.trans e2)).trans ch.gc.gr) (I2.chg ch w')
   |_=>exact aev k3
  .exact aev k2
 .exact aev k2
end
mutual
def jV:Dat->Option NestedKey
 |.none=>some .none
 |.int i=>some (.num i)
 |.str x=>some (.text x)
 |.tuple ds=>(nM ds).map .tup
 |.bool _=>none
 |.list _=>none
 |.dict _=>none
def nM:List Dat->Option (List NestedKey)
 |[]=>some []
 |d::ds=>(jV d).bind λk=>(nM ds).bind λks=>some (k::ks)
end
mutual
theorem lU:∀{d:Dat} {k:NestedKey},jV d=some k->k.data=d
 |.none,_,h=>by cases h;rfl
 |.int i,_,h=>by cases h;rfl
 |.str x,_,h=>by cases h;rfl
 |.tuple ds,_,h=>by
  rw[jV,adS]at h;obtain⟨ks,h1,rfl⟩:=h;rw[NestedKey.data,wY h1]
theorem wY:∀{ds:List Dat} {ks:List NestedKey},nM ds=some ks->NestedKey.datas ks=ds
 |[],_,h=>by cases h;rfl
 |d::ds,_,h=>by
  rw[nM]at h;obtain⟨k,h1,h⟩:=adg.mp h;obtain⟨ks,h2,h⟩:=adg.mp h;cases h;rw[NestedKey.datas,lU h1,wY h2]
end
mutual
theorem Gu:∀a b:NestedKey,PyData.eqv a.data b.data=NestedKey.beq a b
 |.none,.none=>by simp[NestedKey.data,PyData.eqv,NestedKey.beq]
 |.none,.num _=>by simp[NestedKey.data,PyData.eqv,NestedKey.beq]
 |.none,.text _=>by simp[NestedKey.data,PyData.eqv,NestedKey.beq]
 |.none,.tup _=>by simp[NestedKey.data,PyData.eqv,NestedKey.beq]
 |.num _,.none=>by simp[NestedKey.data,PyData.eqv,NestedKey.beq]
 |.num a,.num b=>by simp[NestedKey.data,PyData.eqv,NestedKey.beq];rfl
 |.num _,.text _=>by simp[NestedKey.data,PyData.eqv,NestedKey.beq]
 |.num _,.tup _=>by simp[NestedKey.data,PyData.eqv,NestedKey.beq]
 |.text _,.none=>by simp[NestedKey.data,PyData.eqv,NestedKey.beq]
 |.text _,.num _=>by simp[NestedKey.data,PyData.eqv,NestedKey.beq]
 |.text a,.text b=>by simp[NestedKey.data,PyData.eqv,NestedKey.beq];rfl
 |.text _,.tup _=>by simp[NestedKey.data,PyData.eqv,NestedKey.beq]
 |.tup _,.none=>by simp[NestedKey.data,PyData.eqv,NestedKey.beq]
 |.tup _,.num _=>by simp[NestedKey.data,PyData.eqv,NestedKey.beq]
 |.tup _,.text _=>by simp[NestedKey.data,PyData.eqv,NestedKey.beq]
 |.tup as,.tup bs=>by
  rw[NestedKey.data,NestedKey.data,PyData.eqv,NestedKey.beq];exact Cq as bs
theorem Cq:∀as bs:List NestedKey,PyData.eqvAll (NestedKey.datas as) (NestedKey.datas bs)=NestedKey.beqAll as bs
 |[],[]=>by simp[NestedKey.datas,PyData.eqvAll,NestedKey.beqAll]
 |[],_::_=>by simp[NestedKey.datas,PyData.eqvAll,NestedKey.beqAll]
 |_::_,[]=>by simp[NestedKey.datas,PyData.eqvAll,NestedKey.beqAll]
 |a::as,b::bs=>by
  rw[NestedKey.datas,NestedKey.datas,PyData.eqvAll,NestedKey.beqAll,Gu a b,Cq as bs]
end
theorem Ew(a b:NestedKey):PyData.eqv a.data b.data=decide (a=b):=by rw[Gu,NestedKey.decide_eq]
section
variable{X:Cx}{pins:List (Addr×Obj)}{σ:L2.St}{H:Hp}{s:Shared}{g:Gh}
mutual
theorem key_is(I:L2.Inv X pins σ H s):∀{v:V} {d:Dat} {k:NestedKey} {u:Value},Rep X.K g H v d->jV d=some k->RelV v u->NestedIs s.heap k u
 |_,_,_,u,.non,e,r=>by
  cases e
  obtain rfl:u=.none:=r
  exact .none
 |_,_,_,_,.int i,e,r=>by
  cases e;obtain⟨t,rfl⟩:=r;exact .int i t
 |_,_,_,_,.str x,e,r=>by
  cases e;obtain⟨t,rfl⟩:=r;exact .text x t
 |_,_,_,u,.tup (a:=a) h t,e,r=>by
  rw[jV,adS]at e;obtain⟨ks,h1,rfl⟩:=e
  obtain rfl:u=.ref a:=r
  obtain⟨its,r1,⟨o,e1,c1,n,d1⟩,_⟩:=I.tuple h;exact .tup e1 c1 d1 (by simpa using Ez I t h1 r1)
 |_,_,_,_,.bl b,e,r=>by cases e
 |_,_,_,_,.lst _ _,e,r=>by cases e
 |_,_,_,_,.obj _,e,r=>by cases e
theorem Ez(I:L2.Inv X pins σ H s):∀{vs:List V} {ds:List Dat} {ks:List NestedKey} {us:List Value},ao X.K g H vs ds->nM ds=some ks->Vals vs us->NestedAll s.heap ks us
 |_,_,_,_,.nil,e,r=>by
  cases e;cases r;exact .nil
 |_,_,_,_,.cons h t,e,r=>by
  rw[nM]at e;obtain⟨k,h1,e⟩:=adg.mp e;obtain⟨ks,h2,e⟩:=adg.mp e;cases e;cases r with
  |cons r1 r2=>exact .cons (key_is I h h1 r1) (Ez I t h2 r2)
end
end
mutual
theorem FW:∀k:NestedKey,jV k.data=some k
 |.none=>rfl
 |.num _=>rfl
 |.text _=>rfl
 |.tup ks=>by rw[NestedKey.data,jV,CP ks];rfl
theorem CP:∀ks:List NestedKey,nM (NestedKey.datas ks)=some ks
 |[]=>rfl
 |k::ks=>by rw[NestedKey.datas,nM,FW k,CP ks];rfl
end
def dhas:Bool->List (Dat×Dat)->Dat->Out Bool
 |false,kvs,.int i=>.ok (kvs.any λp=>PyData.eqv p.1 (.int i))
 |true,kvs,.tuple ds=>match jV (.tuple ds) with
  |some k=>match decide (k.depth<=8) with
   |true=>.ok (kvs.any λp=>PyData.eqv p.1 (.tuple ds))
   |false=>.bad
  |none=>.bad
 |_,_,_=>.bad
def lg(M:Mo)(f:Str)(d:Dat):Option (Nat×Inst×Bool×List (Dat×Dat)):=(dD M d).bind λp=>match p.2.fs.lookup f with
 |some (.dic b kvs)=>some (p.1,p.2,b,kvs)
 |_=>none
section
variable{aj:aq}{f:Str}
theorem pO{K:adh}{g:Gh}{H:Hp}{M:Mo}{d:Dat}{v:V}{h:Nat}{i:Inst}{b:Bool}{kvs:List (Dat×Dat)}(co:cO K aj)(w:aX K aj g H M)(r:aW K g H v d)(hi:lg M f d=some (h,i,b,kvs)) :
  ∃a C dx fs l,d=obj h/\M[h]?=some i/\i.cls≠""/\i.fs.lookup f=some (.dic b kvs)/\g.tbl[h]?=some a/\v=.ref a/\aj i.cls=some C/\H a=some (.ins C dx fs)/\aK K aj g H h fs i.fs/\Cls K C/\NoAttr K C f/\f∈aj.fl i.cls/\fs.lookup f=some (.ref l)/\g.ow l=some (h,f)/\bT K aj g H l b kvs:=by
 unfold lg at hi;obtain⟨⟨h',i'⟩,h1,hi⟩:=adg.mp hi;split at hi
 .next b' kvs' hl=>
  cases hi;obtain⟨rfl,m1,m2⟩:=qD h1;obtain⟨a,rfl,ha⟩:=pN r;obtain⟨C,dx,fs,c1,c2,c3⟩:=w.ins _ a _ ha m1 m2;have hfl:=w.fd _ _ m1 m2 f (lookup_mem hl);obtain⟨k1,k2⟩:=co _ C f c1 hfl;obtain⟨u,l1,l,rfl,l3,l4⟩:=c3.get hl;exact⟨a,C,dx,fs,l,rfl,m1,m2,hl,ha,rfl,c1,c2,c3,k1,k2,hfl,l1,l3,l4⟩
 .cases hi
end
theorem yj{kv:List (Key×V)}{i:Int}:∀{kvs:List (Dat×Dat)},kvs.map (·.1)=kv.map (λp=>keyD p.1)->(kvs.any λp=>PyData.eqv p.1 (.int i))=(valV kv (Sum.inl i)).isSome:=by
 induction kv with
 |nil=>
  intro kvs e;cases kvs with
  |nil=>rfl
  |cons _ _=>cases e
 |cons p r ih=>
  intro kvs e;cases kvs with
  |nil=>cases e
  |cons q t=>
   simp only[ado,List.cons.injEq]at e;rw[aed,ih e.2,e.1];by_cases h:p.1=Sum.inl i
   .rw[valV_pos h,h];simp[keyD,PyData.eqv]
   .rw[valV_neg h];have:PyData.eqv (keyD p.1) (.int i)=false:=by
     cases hp:p.1 with
     |inl j=>
      have:j≠i:=λz=>h (by rw[hp,z]);simp[keyD,PyData.eqv,this]
     |inr x=>simp[keyD,PyData.eqv]
    rw[this,Bool.false_or]
theorem qF{xs:List eG}{k:NestedKey}:∀{kvs:List (Dat×Dat)},kvs.map (·.1)=xs.map (λx=>x.1.data)->(kvs.any λp=>PyData.eqv p.1 k.data)=(atKey xs k).isSome:=by
 induction xs with
 |nil=>
  intro kvs e;cases kvs with
  |nil=>rfl
  |cons _ _=>cases e
 |cons p r ih=>
  intro kvs e;cases kvs with
  |nil=>cases e
  |cons q t=>
   simp only[ado,List.cons.injEq]at e;rw[aed,ih e.2,e.1,Ew];unfold atKey;rw[List.find?_cons];cases hd:decide (p.1=k) with
   |true=>rfl
   |false=>rfl
theorem pB{X:Cx}{pins:List (Addr×Obj)}{σ:L2.St}{H:Hp}{s:Shared}{g:Gh}{l:Addr}{o:Obj}{xs:List eG}{ks:List Dat}(I:L2.Inv X pins σ H s)(h1:H l=some (bU l o))(h2:dO X.w l o xs)(h3:ks=xs.map λx=>x.1.data)(h4:ao X.K g H (xs.map λx=>V.ref x.2.1) ks) :
  s.heap.DictOfH (nestedKind X.prog X.w) l xs:=by
 obtain⟨z1,_,_⟩:=(show ObjOk X.prog X.w H s.heap l (bU l o) from I.hok l _ h1);obtain⟨es,ep,e1,e2⟩:=h2.ent;refine⟨o,es,ep,z1,h2.ex,e1,e2,λx hx=>?_,h2.nd⟩;refine⟨?_,h2.dep x hx⟩;obtain⟨n,hn⟩:=List.mem_iff_getElem?.mp hx;obtain⟨d,hd1,hd2⟩:=h4.get' (i:=n) (v:=V.ref x.2.1) (by rw[adw,hn];rfl);rw[h3,adw,hn]at hd1;cases hd1;exact key_is I hd2 (FW x.1) rfl
def rInD(X:Cx)(neg:Bool):R2:=λx y H Q=>(∃l kv i,y=.ref l/\H l=some (.dK kv)/\x=.int i/\Q (.bl (neg ^^ (valV kv (Sum.inl i)).isSome)) H)\/
 ∃(l:Addr) (o:Obj) (xs:List eG) (g:Gh) (d:Dat) (b:Addr) (k:NestedKey),y=.ref l/\H l=some (bU l o)/\dO X.w l o xs/\ao X.K g H (xs.map λx=>V.ref x.2.1) (xs.map λx=>x.1.data)/\x=.ref b/\Rep X.K g H x d/\jV d=some k/\k.depth<=8/\Q (.bl (neg ^^ (atKey xs k).isSome)) H
section
variable{X:Cx}
theorem op_inD(hu:X.A.units+64<cLine):OpR X (compareOp .In) (rInD X false):=by
 intro pins s σ H x y v u Q I rx ry h;rcases h with⟨l,kv,i,rfl,hl,rfl,q⟩|⟨l,o,xs,g,d,b,k,rfl,h1,h2,h3,rfl,h4,h5,h6,q⟩
 .obtain rfl:u=Value.ref l:=ry
  exact d_in (by omega) I (DGet.k (k:=Sum.inl i) hl) rx λs' I'=>⟨.bl _,H,I',rfl,by simpa using q⟩
 .obtain rfl:u=Value.ref l:=ry
  obtain rfl:v=Value.ref b:=rx
  refine wpAny_in_heap (knd:=nestedKind X.prog X.w) (k:=k) (show X.A.in1.units+8<cLine by show X.A.units+1+8<cLine;omega) ⟨key_is I h4 h5 rfl,h6⟩ h2.sys (pB I h1 h2 rfl h3) ?_;exact⟨.bl _,H,I.tok _,rfl,by simpa using q⟩
theorem op_notInD(hu:X.A.units+64<cLine):OpR X (compareOp .NotIn) (rInD X true):=by
 intro pins s σ H x y v u Q I rx ry h;rcases h with⟨l,kv,i,rfl,hl,rfl,q⟩|⟨l,o,xs,g,d,b,k,rfl,h1,h2,h3,rfl,h4,h5,h6,q⟩
 .obtain rfl:u=Value.ref l:=ry
  exact d_notIn (by omega) I (DGet.k (k:=Sum.inl i) hl) rx λs' I'=>⟨.bl _,H,I',rfl,by simpa using q⟩
 .obtain rfl:u=Value.ref l:=ry
  obtain rfl:v=Value.ref b:=rx
  refine notIn_keyed (knd:=nestedKind X.prog X.w) (k:=k) (show X.A.in1.units+8<cLine by show X.A.units+1+8<cLine;omega) ⟨key_is I h4 h5 rfl,h6⟩ h2.sys ⟨xs,pB I h1 h2 rfl h3,rfl⟩ ?_;rw[valueAt_pairsH,Option.isSome_map];exact⟨.bl _,H,I.tok _,rfl,by simpa using q⟩
end
def Dd(neg:Bool)(f:Str)(k o:QF):QF:=λM Z=>(k M Z).bind λd=>(o M Z).bind λod=>match lg M f od with
 |some (_,_,b,kvs)=>(dhas b kvs d).bind λr=>.ok (.bool (neg ^^ r))
 |none=>.bad
section
variable{X:Cx}{aj:aq}{W:WX}{o k:Expr}{f:Str}{pos p1:Pos}{fo fk:QF}{neg:Bool}{op:CmpOp}
theorem O6(co:cO X.K aj)(hw:aj.w=X.w)(σ:L2.St)(H:Hp)(Q:VK)(h:tQ X.K aj W (Dd neg f fk fo) σ H Q):tOp (rInD X neg) (tQ X.K aj W fk) (tFld X.K (tW X.K aj W fo) f) σ H Q:=by
 obtain⟨g,Z,M,I,h⟩:=h;refine tQ.go I h.bnd λd v H1 h1 e1 r1=>?_;have I1:=I.ex e1;refine tW.go I1 (h1.bnd.mono (λ_ z=>z) λ_ z=>z.ex e1) λod u H2 h2 e2 r2=>?_;have I2:=I1.ex e2;split at h2
 .next hh i b kvs hd=>
  obtain⟨a,C,dx,fs,l,rfl,m1,m2,ml,ha,rfl,c1,c2,c3,c4,c5,c6,l1,l2,l3⟩:=pO co I2.wok r2 hd;refine⟨a,C,dx,fs,.ref l,rfl,c2,c4,c5,l1,?_⟩;have r1':=r1.ex e2 I1.kd;unfold dhas at h2;split at h2
  .next i'=>
   obtain⟨kv,k1,k2,k3⟩:=l3;cases r1';refine .inl ⟨l,kv,i',rfl,k1,rfl,?_⟩;rw[yj k2]at h2;exact h2 _ H2 (e1.trans e2) (.bl _)
  .next ds=>
   split at h2
   .next kk hk=>
    split at h2
    .next hdep=>
     obtain⟨o',xs,vs,k1,k2,k3,k4,k5,k6⟩:=l3;have ek:=lU hk;rw[<-ek,qF k3]at h2;rw[k3]at k4;rw[hw]at k2;cases r1' with
     | @tup b us _ hs ht=>exact .inr ⟨l,o',xs,g,_,b,kk,rfl,k1,k2,k4,rfl,.tup hs ht,hk,aex hdep,h2 _ H2 (e1.trans e2) (.bl _)⟩
    .exact aev h2
   .exact aev h2
  .exact aev h2
 .exact aev h2
theorem V4(co:cO X.K aj)(hw:aj.w=X.w)(hr:OpR X (compareOp op) (rInD X neg))(hk:QE aj X W k fk)(ho:QW aj X W o fo)(hb:baseOk o=true):QE aj X W (.Compare k [op] [.Attribute o f p1] pos) (Dd neg f fk fo):=
 PE.weak (pe_cmpR hr hk (pe_fld ho (cZ hb)) (by cases op<;>rfl)) λσ H Q h=>O6 co hw σ H Q h
end
def DPx(X:Cx)(H:Hp)(a:Addr)(y v:V)(R:Hp->Prop):Prop:=(∃kvs i,H a=some (.dK kvs)/\y=.int i/\kvs.length<sizeLine/\R (upd H a (.dK (putK kvs (Sum.inl i) v))))\/
 ∃(o:Obj) (xs:List eG) (g:Gh) (d:Dat) (b:Addr) (k:NestedKey),H a=some (bU a o)/\dO X.w a o xs/\ao X.K g H (xs.map λx=>V.ref x.2.1) (xs.map λx=>x.1.data)/\y=.ref b/\Rep X.K g H y d/\jV d=some k/\k.depth<=8/\xs.length<sizeLine/\∀(o':Obj) (u:Value),RelV v u->dO X.w a o' (storedH xs k b u)->R (upd H a (bU a o'))
theorem tD{P:Program}{w:World}{H:Hp}{h:Heap}{l:Addr}{o:Obj}(e:h.get? l=some o):ObjOk P w H h l (bU l o):=⟨e,⟨o,e⟩,λ_ _ e1 k=>k _ e1⟩
theorem El{xs:List eG}{k:NestedKey}{b:Addr}{u:Value}:(storedH xs k b u).map (·.1)=if (atKey xs k).isSome then xs.map (·.1) else xs.map (·.1)++[k]:=by
 unfold storedH;split
 .rw[aei];refine List.map_congr_left λx _=>?_
  show(putAt k u x).1=x.1
  unfold putAt
  split<;>rfl
 .simp
theorem vN{xs:List eG}{k:NestedKey}{b:Addr}{u:Value}:(storedH xs k b u).length<=xs.length+1:=by
 unfold storedH
 split<;>simp
theorem wI{xs:List eG}{k:NestedKey}{b:Addr}{u:Value}(h:∀x∈xs,x.1.depth<=8)(hk:k.depth<=8):∀x∈storedH xs k b u,x.1.depth<=8:=λx hx=>by
 have:x.1∈(storedH xs k b u).map (·.1):=adJ.mpr ⟨x,hx,rfl⟩;rw[El]at this;have old:∀{z:NestedKey},z∈xs.map (·.1)->z.depth<=8:=λ{z} m=>by
  obtain⟨y,hy,rfl⟩:=adJ.mp m;exact h y hy
 split at this
 .exact old this
 .rcases adU.mp this with z|z
  .exact old z
  .rw[adF.mp z];exact hk
section
variable{X:Cx}{o i value:Expr}{td ty tv:TE}{pos pos':Pos}
def Zd(X:Cx)(td ty tv:TE):TS:=λD σ H=>tv σ H λv H1=>td σ H1 λx H2=>ty σ H2 λy H3=>∃a,x=.ref a/\DPx X H3 a y v λH4=>D.nx σ H4
theorem Mw(hu:X.A.units+64<cLine)(ho:PE X o td)(hi:PE X i ty)(hv:PE X value tv)(hs:swapsWith value (some (.Subscript o i pos')) pos.line X.env=pure false):PS X (.Assign [.Subscript o i pos'] value pos) (Zd X td ty tv):=by
 refine⟨λpins s σ H D I h=>?_⟩;refine wpAny_Assign_Subscript (thn (hv.run pins s σ H _ I h) λr s1 ⟨v,H1,I1,rv,q1⟩=>thn (ho.run pins s1 σ H1 _ I1 q1) λu s2 ⟨x,H2,I2,rx,q2⟩=>thn (hi.run pins s2 σ H2 _ I2 q2) λiv s3 ⟨y,H3,I3,ry,a,ex,q3⟩=>?_) hs;subst ex
 obtain rfl:u=Value.ref a:=rx
 rcases q3 with⟨kvs,j,h1,rfl,hl,q⟩|⟨ob,xs,g,d,b,k,h1,h2,h3,rfl,h4,h5,h6,hl,q⟩
 .exact d_setItem (by omega) I3 (DPut.k (k:=Sum.inl j) h1 hl) ry rv λs4 I4=>⟨σ,_,I4,q⟩
 .obtain rfl:iv=Value.ref b:=ry
  refine wpAny_setItem_heap (knd:=nestedKind X.prog X.w) (k:=k) (hsz:=Nat.le_of_lt hl) (show X.A.in1.units+8<cLine by show X.A.units+1+8<cLine;omega) ⟨key_is I3 h4 h5 rfl,h6⟩ (pB I3 h1 h2 rfl h3) λh' dd hs'=>?_;obtain⟨o',es,ep,g1,g2,g3,g4,g5,g6⟩:=dd;have nd:dO X.w a o' (storedH xs k b r):=⟨h2.sys,g2,⟨es,ep,g3,g4⟩,g6,by have:=vN (xs:=xs) (k:=k) (b:=b) (u:=r);omega,wI h2.dep h6⟩;exact⟨σ,_,d_write I3 (by rw[h1];exact True.intro) hs' ⟨o',g1⟩ (tD g1),q o' r rv nd⟩
end
theorem ao.back{K:adh}{g:Gh}{H:Hp}{vs:List V}{ds:List Dat}{v:V}{d:Dat}(h:ao K g H vs ds)(r:Rep K g H v d):ao K g H (vs++[v]) (ds++[d]):=h.append (.cons r .nil)
theorem uw{K:adh}{aj:aq}{f:Str}{σ:L2.St}{Z:Env}{g:Gh}{H:Hp}{M:Mo}{h:Nat}{i:Inst}{b:Bool}{kvs':List (Dat×Dat)}{a C dx l:Addr}{fs:List (Str×V)}{o':HO}(I:SInv K aj σ H g Z M)(m1:M[h]?=some i)(m2:i.cls≠"")(ha:g.tbl[h]?=some a)(c1:aj i.cls=some C)(c2:H a=some (.ins C dx fs))(c3:aK K aj g H h fs i.fs)(hfl:f∈aj.fl i.cls)(l1:fs.lookup f=some (.ref l))(l4:g.ow l=some (h,f))(mu:qO o')
  (new:Gr false g g H (upd H l o')->bT K aj g (upd H l o') l b kvs'):Gr false g g H (upd H l o')/\SInv K aj σ (upd H l o') g Z (M.set h (i.put f (.dic b kvs'))):=by
 have ch:=Km (o':=o') I.kd I.wok l4 mu;have nla:a≠l:=λz=>by
  subst z;rw[I.wok.tw h a i ha m1 m2]at l4;cases l4
 have w':=I.wok.chg I.kd ch ha m1 m2 hfl c1 (dx:=dx) c3 (v:=.ref l) (fl:=.dic b kvs') (by rw[upd_ne nla,sU l1];exact c2) ⟨l,rfl,l4,new ch.gc.gr⟩;exact⟨ch.gc.gr,I.chg ch w'⟩
def Ae(f:Str)(o k e:QF):SF:=λM Z=>((e M Z).at M).then Z λv _=>((o M Z).at M).then Z λod _=>match lg M f od with
 |some (h,i,b,kvs)=>((k M Z).at M).then Z λd _=>match dhas b kvs d,decide (kvs.length<100000) with
  |.ok false,true=>.next Z (M.set h (i.put f (.dic b (kvs++[(d,v)]))))
  |_,_=>.bad
 |none=>.bad
def Ak(f:Str)(o k:QF):SF:=λM Z=>((o M Z).at M).then Z λod _=>match lg M f od with
 |some (h,i,b,kvs)=>((k M Z).at M).then Z λd _=>match dhas b kvs d,decide (kvs.length<=100000) with
  |.ok true,true=>.next Z (M.set h (i.put f (.dic b (kvs.filter λp=>!PyData.eqv p.1 d))))
  |_,_=>.bad
 |none=>.bad
theorem xV{kvs:List (Dat×Dat)}{b r:Bool}{d:Dat}(h:dhas b kvs d=.ok r):(kvs.any λp=>PyData.eqv p.1 d)=r/\((b=false/\∃i,d=.int i)\/(b=true/\∃ds k,d=.tuple ds/\jV d=some k/\k.depth<=8)):=by
 unfold dhas at h;split at h
 .next i=>
  cases h;exact⟨rfl,.inl ⟨rfl,i,rfl⟩⟩
 .next ds=>
  split at h
  .next k hk=>
   split at h
   .next hd=>
    cases h;exact⟨rfl,.inr ⟨rfl,ds,k,rfl,hk,aex hd⟩⟩
   .cases h
  .cases h
 .cases h
section
variable{X:Cx}{aj:aq}{W:WX}{o e i:Expr}{f:Str}{pos pos' p1:Pos}{fo fe fk:QF}
theorem Qv(co:cO X.K aj)(hw:aj.w=X.w)(hu:X.A.units+64<cLine)(ho:QW aj X W o fo)(hb:baseOk o=true)(hk:QE aj X W i fk)(he:QE aj X W e fe)(hs:swapsWith e (some (.Subscript (.Attribute o f p1) i pos')) pos.line X.env=pure false) :
  SE aj X W false (.Assign [.Subscript (.Attribute o f p1) i pos'] e pos) (Ae f fo fk fe):=by
 refine PS.weak (Mw hu (pe_fld ho (cZ hb)) hk he hs) λD σ H ⟨g,Z,M,I,z⟩=>?_;unfold Ae at z;have k1:=Out.bO (aU (σ:=σ) z);refine tQ.go I (k1.mono (λ_ y=>y) λx y H' c dd ex rx=>y H' _ c dd (Gr.ex ex) (I.ex ex) rx) λd v H1 k2 e1 rv=>?_;have I1:=I.ex e1;have k2:=Out.bO (aU (σ:=σ) k2);refine tW.go I1 (k2.mono (λ_ y=>y) λx y H' c dd ex rx=>y H' _ c dd ((Gr.ex e1).trans (Gr.ex ex)) (I1.ex ex) rx) λod u H2 k3 e2 ru=>?_;have I2:=I1.ex e2;have e12:=e1.trans e2;split at k3
 .next h i' b kvs hl=>
  obtain⟨a,C,dx,fs,l,rfl,m1,m2,ml,ha,rfl,c1,c2,c3,c4,c5,c6,l1,l2,l3⟩:=pO co I2.wok ru hl;refine⟨a,C,dx,fs,.ref l,rfl,c2,c4,c5,l1,?_⟩;have k3:=Out.bO (aU (σ:=σ) k3);refine tQ.go I2 (k3.mono (λ_ y=>y) λx y H' c dd ex rx=>y H' _ c dd ((Gr.ex e12).trans (Gr.ex ex)) (I2.ex ex) rx) λkd w H3 k4 e3 rk=>?_;have I3:=I2.ex e3;have l3':=l3.ex e3 I2.kd;have rv3:=(rv.ex e2 I1.kd).ex e3 I2.kd;refine⟨l,rfl,?_⟩;split at k4
  .next hh hz=>
   obtain⟨ha2,hcase⟩:=xV hh;have hz:=aex hz;rcases hcase with⟨rfl,j,rfl⟩|⟨rfl,ds,kk,rfl,hkk,hdep⟩
   .obtain⟨kv,q1,q2,q3⟩:=l3';cases rk;have hlen:kv.length=kvs.length:=by
     have:=congrArg List.length q2;simpa using this.symm
    rw[yj q2]at ha2;have hn:valV kv (Sum.inl j)=none:=by
     cases hv:valV kv (Sum.inl j) with
     |none=>rfl
     |some _=>rw[hv]at ha2;cases ha2
    refine .inl ⟨kv,j,q1,rfl,sz_lt (by rw[hlen];exact hz),?_⟩;rw[putK_new v hn];obtain⟨gr,I4⟩:=uw (b:=false) (kvs':=kvs++[(.int j,d)]) (o':=.dK (kv++[(Sum.inl j,v)])) I3 m1 m2 ha c1 (e3 _ _ c2) (c3.ex e3 I2.kd) c6 l1 l2 aeu λgr=>⟨_,aeC,by simp[q2,keyD],by
     rw[adQ,adQ];exact(q3.gr gr I3.kd).back (rv3.gr gr I3.kd)⟩
    exact k4 σ _ g ((Gr.ex (e12.trans e3)).trans gr) I4
   .obtain⟨o',xs,vs,q1,q2,q3,q4,q5,q6⟩:=l3';have hlen:xs.length=kvs.length:=by
     have:=congrArg List.length q3;simpa using this.symm
    have ek:=lU hkk;rw[<-ek,qF q3]at ha2;have hn:atKey xs kk=none:=by
     cases hv:atKey xs kk with
     |none=>rfl
     |some _=>rw[hv]at ha2;cases ha2
    have q4':=q4;rw[q3]at q4';rw[hw]at q2;cases rk with
    | @tup bb us _ hs' ht=>
     refine .inr ⟨o',xs,g,_,bb,kk,q1,q2,q4',rfl,.tup hs' ht,hkk,hdep,sz_lt (by rw[hlen];exact hz),λo2 u2 ru2 nd=>?_⟩;rw[storedH_new hn]at nd;obtain⟨gr,I4⟩:=uw (b:=true) (kvs':=kvs++[(.tuple ds,d)]) (o':=bU l o2) I3 m1 m2 ha c1 (e3 _ _ c2) (c3.ex e3 I2.kd) c6 l1 l2 aeu λgr=>⟨o2,xs++[(kk,bb,u2)],vs++[v],aeC,by rw[hw];exact nd,by simp[q3,ek],by
      rw[adQ,adQ];exact(q4.gr gr I3.kd).back ((Rep.tup hs' ht).gr gr I3.kd),by
      rw[adQ];exact q5.append (.cons ru2 .nil),by
      rw[adQ];exact(q6.gr gr I3.kd).back (rv3.gr gr I3.kd)⟩
     exact k4 σ _ g ((Gr.ex (e12.trans e3)).trans gr) I4
  .exact aev k4
 .exact aev k3
end
section
variable{X:Cx}{o i:Expr}{td ty:TE}{pos tpos:Pos}
def Zt(X:Cx)(td ty:TE):TS:=λD σ H=>td σ H λx H2=>ty σ H2 λy H3=>∃a,x=.ref a/\((∃kvs i,H3 a=some (.dK kvs)/\y=.int i/\(valV kvs (Sum.inl i)).isSome=true/\D.nx σ (upd H3 a (.dK (dropK kvs (Sum.inl i)))))\/
 ∃(o:Obj) (xs:List eG) (g:Gh) (d:Dat) (b:Addr) (k:NestedKey),H3 a=some (bU a o)/\dO X.w a o xs/\ao X.K g H3 (xs.map λx=>V.ref x.2.1) (xs.map λx=>x.1.data)/\y=.ref b/\Rep X.K g H3 y d/\jV d=some k/\k.depth<=8/\(atKey xs k).isSome=true/\∀(o':Obj),dO X.w a o' (withoutH xs k)->D.nx σ (upd H3 a (bU a o')))
theorem MJ(hu:X.A.units+64<cLine)(ho:PE X o td)(hi:PE X i ty):PS X (.Delete [.Subscript o i tpos] pos) (Zt X td ty):=by
 refine⟨λpins s σ H D I h=>?_⟩;refine wpAny_Delete (wpAny_deleteEach_cons (wpAny_delete_Subscript (thn (ho.run pins s σ H _ I h) λu s1 ⟨x,H1,I1,rx,q1⟩=>thn (hi.run pins s1 σ H1 _ I1 q1) λiv s2 ⟨y,H2,I2,ry,a,ex,q2⟩=>?_)));subst ex
 obtain rfl:u=Value.ref a:=rx
 rcases q2 with⟨kvs,j,h1,rfl,hl,q⟩|⟨ob,xs,g,d,b,k,h1,h2,h3,rfl,h4,h5,h6,hl,q⟩
 .exact d_delItem (k:=Sum.inl j) I2 h1 ry hl λs3 I3=>wpAny_deleteEach_nil ⟨σ,_,I3,q⟩
 .obtain rfl:iv=Value.ref b:=ry
  obtain⟨p,hp⟩:=Option.isSome_iff_exists.mp hl;refine wpAny_delItem_heap (knd:=nestedKind X.prog X.w) (k:=k) (hsz:=h2.len) (show X.A.in1.units+8<cLine by show X.A.units+1+8<cLine;omega) ⟨key_is I2 h4 h5 rfl,h6⟩ h2.sys (pB I2 h1 h2 rfl h3) hp λh' dd hs'=>?_;obtain⟨o',es,ep,g1,g2,g3,g4,g5,g6⟩:=dd;have nd:dO X.w a o' (withoutH xs k):=⟨h2.sys,g2,⟨es,ep,g3,g4⟩,g6,aeo (adX _ _) h2.len,λx hx=>h2.dep x (aen.mp hx).1⟩;exact wpAny_deleteEach_nil ⟨σ,_,d_write I2 (by rw[h1];exact True.intro) hs' ⟨o',g1⟩ (tD g1),q o' nd⟩
end
theorem vJ{α β:Type}(f:α->β)(c:α->Bool):∀l:List α,(((l.map f).zip l).filter λp=>c p.2).map (·.1)=(l.filter c).map f
 |[]=>rfl
 |a::l=>by
  rw[ado,aep,ad4,ad4];cases c a
  .exact vJ f c l
  .simp only[if_true,ado,vJ f c l]
theorem Ox{K:adh}{g:Gh}{H:Hp}(kk:NestedKey):∀{xs:List eG} {vs:List V} {kvs:List (Dat×Dat)},kvs.map (·.1)=xs.map (λx=>x.1.data)->ao K g H (xs.map λx=>V.ref x.2.1) (kvs.map (·.1))->Vals vs (xs.map (·.2.2))->ao K g H vs (kvs.map (·.2))->
  ∃vs',(kvs.filter λp=>!PyData.eqv p.1 kk.data).map (·.1)=(withoutH xs kk).map (λx=>x.1.data)/\ao K g H ((withoutH xs kk).map λx=>V.ref x.2.1) ((kvs.filter λp=>!PyData.eqv p.1 kk.data).map (·.1))/\Vals vs' ((withoutH xs kk).map (·.2.2))/\ao K g H vs' ((kvs.filter λp=>!PyData.eqv p.1 kk.data).map (·.2))
 |[],_,[],_,_,.nil,_=>⟨[],rfl,.nil,.nil,.nil⟩
 |[],_,_::_,h,_,_,_=>by cases h
 |_::_,_,[],h,_,_,_=>by cases h
 |x::xs,_,q::qs,h1,.cons r1 t1,.cons w1 w2,.cons r2 t2=>by
  simp only[ado,List.cons.injEq]at h1;obtain⟨vs',i1,i2,i3,i4⟩:=Ox kk h1.2 t1 w2 t2;have hq:(!PyData.eqv q.1 kk.data)=decide (x.1≠kk):=by rw[h1.1,Ew];by_cases hz:x.1=kk<;>simp[hz]
  unfold withoutH;rw[ad4,ad4,hq];cases hb:decide (x.1≠kk) with
  |true=>exact⟨_::vs',by simp only[if_true,ado,h1.1];exact congrArg _ i1,by simp only[if_true,ado];exact .cons r1 i2,by simp only[if_true,ado];exact .cons w1 i3,by simp only[if_true,ado];exact .cons r2 i4⟩
  |false=>
   simp only[adL,if_false];exact⟨vs',i1,i2,i3,i4⟩
theorem Wq{K:adh}{g:Gh}{H:Hp}{α:Type}(c:α->Bool)(key:α->Dat)(dd:Dat->Bool):∀{vs:List V} {kvs:List (Dat×Dat)} {xs:List α},(∀x∈xs,c x=dd (key x))->kvs.map (·.1)=xs.map key->vs.length=xs.length->ao K g H vs (kvs.map (·.2))->
  (kvs.filter λp=>dd p.1).map (·.1)=(xs.filter c).map key/\ao K g H (((vs.zip xs).filter λp=>c p.2).map (·.1)) ((kvs.filter λp=>dd p.1).map (·.2))
 |[],[],[],_,_,_,_=>⟨rfl,.nil⟩
 |[],[],_::_,_,h,_,_=>by cases h
 |[],_::_,_,_,_,_,h=>by cases h
 |_::_,[],_,_,_,_,h=>by cases h
 |_::_,_::_,[],_,h,_,_=>by cases h
 |u::us,q::qs,x::xs,hc,hk,hl,.cons h t=>by
  simp only[ado,List.cons.injEq]at hk;have hq:=hc x adn;rw[<-hk.1]at hq;obtain⟨i1,i2⟩:=Wq c key dd (λy hy=>hc y (adt _ hy)) hk.2 (adZ hl) t;rw[aep,ad4,ad4,ad4,hq];cases hb:dd q.1 with
  |true=>exact⟨by simp only[if_true,ado,i1,hk.1],by simp only[if_true,ado];exact .cons h i2⟩
  |false=>exact⟨by simpa using i1,by simpa using i2⟩
section
variable{X:Cx}{aj:aq}{W:WX}{o i:Expr}{f:Str}{pos tpos p1:Pos}{fo fk:QF}
theorem QM(co:cO X.K aj)(hw:aj.w=X.w)(hu:X.A.units+64<cLine)(ho:QW aj X W o fo)(hb:baseOk o=true)(hk:QE aj X W i fk):SE aj X W false (.Delete [.Subscript (.Attribute o f p1) i tpos] pos) (Ak f fo fk):=by
 refine PS.weak (MJ hu (pe_fld ho (cZ hb)) hk) λD σ H ⟨g,Z,M,I,z⟩=>?_;unfold Ak at z;have k2:=Out.bO (aU (σ:=σ) z);refine tW.go I (k2.mono (λ_ y=>y) λx y H' c dd ex rx=>y H' _ c dd (Gr.ex ex) (I.ex ex) rx) λod u H2 k3 e2 ru=>?_;have I2:=I.ex e2;split at k3
 .next h i' b kvs hl=>
  obtain⟨a,C,dx,fs,l,rfl,m1,m2,ml,ha,rfl,c1,c2,c3,c4,c5,c6,l1,l2,l3⟩:=pO co I2.wok ru hl;refine⟨a,C,dx,fs,.ref l,rfl,c2,c4,c5,l1,?_⟩;have k3:=Out.bO (aU (σ:=σ) k3);refine tQ.go I2 (k3.mono (λ_ y=>y) λx y H' c dd ex rx=>y H' _ c dd ((Gr.ex e2).trans (Gr.ex ex)) (I2.ex ex) rx) λkd w H3 k4 e3 rk=>?_;have I3:=I2.ex e3;have l3':=l3.ex e3 I2.kd;refine⟨l,rfl,?_⟩;split at k4
  .next hh hz=>
   obtain⟨ha2,hcase⟩:=xV hh;rcases hcase with⟨rfl,j,rfl⟩|⟨rfl,ds,kk,rfl,hkk,hdep⟩
   .obtain⟨kv,q1,q2,q3⟩:=l3';cases rk;rw[yj q2]at ha2;refine .inl ⟨kv,j,q1,rfl,ha2,?_⟩;have hf:=λ(H':Hp)(r:ao X.K g H' (kv.map (·.2)) (kvs.map (·.2)))=>Wq (K:=X.K) (g:=g) (H:=H') (λp:Key×V=>decide (p.1≠Sum.inl j)) (λp=>keyD p.1) (λz=>!PyData.eqv z (.int j)) (vs:=kv.map (·.2)) (kvs:=kvs) (xs:=kv) (λx _=>by
     cases hx:x.1 with
     |inl z=>by_cases hz:z=j<;>simp[keyD,PyData.eqv,hz]
     |inr z=>simp[keyD,PyData.eqv]) q2 (by simp) r
    have ez:(((kv.map (·.2)).zip kv).filter λp=>decide (p.2.1≠Sum.inl j)).map (·.1)=(dropK kv (Sum.inl j)).map (·.2):=vJ (·.2) (λp:Key×V=>decide (p.1≠Sum.inl j)) kv;obtain⟨gr,I4⟩:=uw (b:=false) (kvs':=kvs.filter λp=>!PyData.eqv p.1 (.int j)) (o':=.dK (dropK kv (Sum.inl j))) I3 m1 m2 ha c1 (e3 _ _ c2) (c3.ex e3 I2.kd) c6 l1 l2 aeu λgr=>⟨_,aeC,(hf _ (q3.gr gr I3.kd)).1,by
     rw[<-ez];exact(hf _ (q3.gr gr I3.kd)).2⟩
    exact k4 σ _ g ((Gr.ex (e2.trans e3)).trans gr) I4
   .obtain⟨o',xs,vs,q1,q2,q3,q4,q5,q6⟩:=l3';have ek:=lU hkk;rw[<-ek,qF q3]at ha2;rw[hw]at q2;have q4':=q4;rw[q3]at q4';cases rk with
    | @tup bb us _ hs' ht=>
     refine .inr ⟨o',xs,g,_,bb,kk,q1,q2,q4',rfl,.tup hs' ht,hkk,hdep,ha2,λo2 nd=>?_⟩;obtain⟨gr,I4⟩:=uw (b:=true) (kvs':=kvs.filter λp=>!PyData.eqv p.1 (.tuple ds)) (o':=bU l o2) I3 m1 m2 ha c1 (e3 _ _ c2) (c3.ex e3 I2.kd) c6 l1 l2 aeu λgr=>by
      obtain⟨vs',i1,i2,i3,i4⟩:=Ox kk q3 (q4.gr gr I3.kd) q5 (q6.gr gr I3.kd);rw[ek]at i1 i2 i4;exact⟨o2,withoutH xs kk,vs',aeC,by rw[hw];exact nd,i1,i2,i3,i4⟩
     exact k4 σ _ g ((Gr.ex (e2.trans e3)).trans gr) I4
  .exact aev k4
 .exact aev k3
end
def R9(l:Addr)(o:Obj)(xs:List eG):It:=
 ⟨λi H=>H l=some (bU l o)/\i<xs.length,λi H x H'=>H'=H/\∃e,xs[i]?=some e/\x=.ref e.2.1,λi H=>H l=some (bU l o)/\xs.length<=i⟩
theorem pin_at{X:Cx}{pins:List (Addr×Obj)}{σ:L2.St}{H:Hp}{s:Shared}{l:Addr}{o:Obj}(I:L2.Inv X pins σ H s)(h:H l=some (bU l o)):s.heap.get? l=some o:=(show ObjOk X.prog X.w H s.heap l (bU l o) from I.hok l _ h).1
theorem dO.at{w:World}{l:Addr}{o:Obj}{xs:List eG}{es:Array DictEntry}{ep:Nat}(n:dO w l o xs)(h:o.data=.dict es ep):es.size=xs.length/\∀(i:Nat) (e:eG),xs[i]?=some e->∃en,es[i]?=some en/\en.key=.ref e.2.1:=by
 obtain⟨es',ep',h1,h2⟩:=n.ent;rw[h]at h1;cases h1;refine⟨?_,λi e hi=>⟨Jq w e,?_,rfl⟩⟩
 .have:=congrArg List.length h2;simpa using this
 .rw[<-adT,h2,adw,hi];rfl
theorem W0{P:Program}{w:World}{K:adh}{tg:Expr}{l:Addr}{o:Obj}{xs:List eG}{es:Array DictEntry}{ep:Nat}(it:Addr)(n:dO w l o xs)(hod:o.data=.dict es ep):Turn P w K tg (R9 l o xs) [it] it (λi h=>h.IsKeyIter it l i xs.length ep) where
 mem:=adF.mpr rfl
 obj:=λi h st b hb=>by
  cases adF.mp hb;obtain⟨oi,e,c,dd⟩:=st;refine⟨oi,e,λv z=>?_⟩;rw[dd]at z;cases z
 keep:=λi h h' st k=>st.at (k it (adF.mpr rfl))
 item:=by intro X hP hw hK hc i pins s σ H E I hf st hg;subst hP hw hK;obtain⟨g0,g1,g2,g3,g4,g5⟩:=hf it (adF.mpr rfl);obtain⟨sz,ent⟩:=n.at hod;have hlt:i<xs.length:=hg.2;have hx:xs[i]?=some xs[i]:=adq hlt;obtain⟨en,e1,e2⟩:=ent i _ hx;refine next_key_item st (pin_at I hg.1) hod sz e1 ?_;intro h' st' sb;have J:L2.Inv X pins σ H { s with heap:=h' }:=I.turned (t':=s.toks) (λb ob hb e=>(sb.2 b hb).trans e) g0 g1 g3 g4 g5;obtain⟨oi,a1,a2,a3⟩:=id st';exact⟨en.key,rfl,go_of (s:={ s with heap:=h' }) a1 a2 a3 (by decide) ⟨.ref xs[i].2.1,H,J,e2,⟨rfl,_,hx,rfl⟩,st',λb hb=>(hf b hb).1⟩⟩
 done:=by intro X hP hw hK hc i pins s σ H E I hf st hg;subst hP hw hK;obtain⟨g0,g1,g2,g3,g4,g5⟩:=hf it (adF.mpr rfl);exact next_key_end (I.ok.hd hc) st (pin_at I hg.1) hod (n.at hod).1 hg.2 λh' eb=>⟨rfl,I.turned (t':=s.toks) (λb ob hb e=>eb b ob hb e) g0 g1 g3 g4 g5⟩
 self:=λA i s Q E st h=>by
  refine wpAny_pyIter_slot st.typeIs PySem.F.slot_dict_keyiterator_iter (wpAny_call_entry PySem.F.slot_dict_keyiterator_iter st.typeIs PySem.F.entry_dict_keyiterator_iter ?_ (PySem.F.args_dict_keyiterator_iter_1 _));exact aez ⟨_,rfl,"dict_keyiterator",_,st.typeIs,PySem.F.slot_dict_keyiterator_next.lookup,h⟩
def Zq(X:Cx)(td:TE):TI:=λσ H R=>td σ H λx H1=>∃l o xs,x=.ref l/\H1 l=some (bU l o)/\dO X.w l o xs/\R (R9 l o xs) H1
theorem T5{X:Cx}{tg e:Expr}{td:TE}(he:PE X e td):PI X tg e (Zq X td):=by
 constructor;intro pins s σ H R I h;refine thn (he.run pins s σ H _ I h) ?_;rintro u s1 ⟨x,H1,I1,rx,l,o,xs,rfl,hl,n,q⟩
 obtain rfl:u=Value.ref l:=rx
 obtain⟨es,ep,hd,_⟩:=n.ent;refine iter_keys n.sys (pin_at I1 hl) n.ex hd (pi_one (tk:=s1.toks) I1 _ (W0 _ n hd) ⟨_,Heap.get?_push_size _ rfl,rfl,?_⟩ q);rw[(n.at hd).1]<;>rfl
theorem Ph{K:adh}{aj:aq}{l:Addr}{o:Obj}{xs:List eG}{ks:List Dat}:qU K (R9 l o xs) (λg H=>H l=some (bU l o)/\ao K g H (xs.map λx=>V.ref x.2.1) ks) ks where
 go:=λg i H c hi=>⟨c.1,by have:=c.2.length;simp at this;omega⟩
 yld:=λg i H x H' d k c e y=>by
  obtain⟨rfl,en,h1,rfl⟩:=y;obtain⟨v,h2,h3⟩:=c.2.get e;rw[adw,h1]at h2;cases h2;exact⟨Ex.refl _,h3⟩
 stop:=λg i H c e=>⟨c.1,by have:=c.2.length;simp at this;omega⟩
 ex:=λg H H' k c e=>⟨e _ _ c.1,c.2.ex e k⟩
 add:=λg g' H H' k c r e=>⟨e _ _ c.1,c.2.gr r k⟩
def xg(f:Str)(o:QF):IF:=λM Z=>(o M Z).bind λod=>match lg M f od with
 |some (_,_,true,kvs)=>.ok (kvs.map (·.1))
 |_=>.bad
def rB(f:Str)(o:QF):QF:=λM Z=>(o M Z).bind λod=>match lg M f od with
 |some (_,_,_,kvs)=>.ok (.list (kvs.map (·.1)))
 |none=>.bad
section
variable{X:Cx}{aj:aq}{W:WX}{o tg:Expr}{f:Str}{pos p p1:Pos}{fo:QF}
theorem La(co:cO X.K aj)(hw:aj.w=X.w)(ho:QW aj X W o fo)(hb:baseOk o=true):QI aj X W false tg (.Attribute o f p1) (xg f fo):=by
 have h0:=T5 (tg:=tg) (pe_fld (X:=X) (pos:=p1) (f:=f) ho (cZ hb));refine⟨λpins s σ H R I h=>h0.run pins s σ H R I ?_⟩;obtain⟨g,Z,M,J,h⟩:=h;unfold xg at h;refine tW.go J h.bnd λod u H1 k2 e1 ru=>?_;have J1:=J.ex e1;split at k2
 .next h i kvs hl=>
  obtain⟨a,C,dx,fs,l,rfl,m1,m2,ml,ha,rfl,c1,c2,c3,c4,c5,c6,l1,l2,o',xs,vs,q1,q2,q3,q4,q5,q6⟩:=pO co J1.wok ru hl;rw[hw]at q2;exact⟨a,C,dx,fs,.ref l,rfl,c2,c4,c5,l1,l,o',xs,rfl,q1,q2,k2 _ _ H1 e1 (Ph (aj:=aj)) ⟨q1,q4⟩ λz=>nomatch z⟩
 .exact aev k2
end
theorem LC{P:Program}{w:World}{A:Around}{l I:Addr}{o:Obj}{xs:List eG}{es:Array DictEntry}{ep:Nat}(hh:A.handled=none)(hne:l≠I)(n:dO w l o xs)(hd:o.data=.dict es ep):Walks P w A I [I,l] [I] xs.length (λi v=>∃e,xs[i]?=some e/\v=Value.ref e.2.1) (λi h=>h.IsKeyIter I l i xs.length ep/\h.get? l=some o) where
 sub:=λb hb=>by simp at hb;simp[hb]
 frame:=λi h h' st k=>⟨st.1.at (k I (by simp)),k l (by simp) o st.2⟩
 item:=λi s Q E hi st hQ=>by
  obtain⟨sz,ent⟩:=n.at hd;have hx:xs[i]?=some xs[i]:=adq hi;obtain⟨en,e1,e2⟩:=ent i _ hx;refine next_key_item st.1 st.2 hd sz e1 ?_;intro h' st' sb;exact hQ en.key h' s.toks ⟨_,hx,e2⟩ ⟨st',(sb.2 l hne).trans st.2⟩ λb ob hb e=>(sb.2 b λz=>hb (by simp[z])).trans e
 done:=λs Q E st hQ=>next_key_end hh st.1 st.2 hd (n.at hd).1 (adE _) λh' eb=>hQ h' s.toks λb ob hb e=>eb b ob (λz=>hb (by simp[z])) e
 self:=λi s Q E st hQ=>wpAny_pyIter_keyiter st.1 hQ
theorem Qs{P:Program}{w:World}{l:Addr}{o:Obj}{xs:List eG}(n:dO w l o xs):PySem.W.KdlSrc P w "dict" l l xs.length (λi v=>∃e,xs[i]?=some e/\v=Value.ref e.2.1) (λh=>h.get? l=some o) where
 type:=λs e=>⟨o,e,n.ex.1⟩
 there:=λh e=>⟨Heap.lt_size e,Heap.lt_size e⟩
 keep:=λh h' e k=>k l (.inl rfl) o e
 notList:=by decide
 notTuple:=by decide
 hint:=λA E s Q e hq=>PySem.W.kdl_hint_dict ⟨o,e,n.ex.1⟩ hq
 iter:=λA s hh e=>by
  obtain⟨es,ep,hd,_⟩:=n.ent;refine⟨_,_,λE Q hq=>iter_keys n.sys e n.ex hd hq,LC hh (adK (Heap.lt_size e)) n hd,⟨_,Heap.get?_push_size _ rfl,rfl,?_⟩,Heap.get?_push_of_some _ e⟩;rw[(n.at hd).1]<;>rfl
def J5(X:Cx):List V->Hp->VK->Prop:=λxs H Q=>(∃p kvs,xs=[.ref p]/\H p=some (.dK kvs)/\∀q,H q=none->Q (.ref q) (upd H q (.lst (kvs.map λkv=>kV kv.1))))\/∃p o es,xs=[.ref p]/\H p=some (bU p o)/\dO X.w p o es/\∀q,H q=none->Q (.ref q) (upd H q (.lst (es.map λe=>V.ref e.2.1)))
theorem Ig{X:Cx}(hc:X.calm=true):CallR X (.type "list") (J5 X):=by
 intro pins s σ H xs us Q I r h;rcases h with h|⟨p,o,es,rfl,hp,n,q⟩
 .exact call_list_dK hc pins s σ H xs us Q I r h
 .obtain⟨u,rfl,rx⟩:=vals1 r
  obtain rfl:u=Value.ref p:=rx
  refine PySem.W.kdl_call (Qs n) (I.ok.hd hc) (pin_at I hp) n.len ?_;intro h' tk acc c' keep hS hacc;have el:acc.toList.length=es.length:=by rw[adP];exact hacc.1
  refine⟨.ref s.heap.objs.size,upd H s.heap.objs.size (.lst (es.map λe=>V.ref e.2.1)),I.laid keep (adE _) (show ObjOk X.prog X.w _ _ _ (.lst (es.map λe=>V.ref e.2.1)) from⟨by rw[adp];exact n.len,acc.toList,c',?_,?_⟩),rfl,q _ (I.hok.fresh (adE _))⟩
  .refine vals_of_at (by rw[adp,el]) λj x w h1 h2=>?_;obtain⟨e,he,rfl⟩:=hacc.2 j w (by rw[<-adT];exact h2);rw[adw,he]at h1;cases h1;rfl
  .rw[Array.toArray_toList];exact hS
section
variable{X:Cx}{aj:aq}{W:WX}{o e:Expr}{f:Str}{pos p p1 pos':Pos}{fo:QF}
theorem CK{K:adh}{g:Gh}{H:Hp}:∀{kv:List (Key×V)} {kvs:List (Dat×Dat)},kvs.map (·.1)=kv.map (λp=>keyD p.1)->ao K g H (kv.map λp=>kV p.1) (kvs.map (·.1))
 |[],[],_=>.nil
 |[],_::_,h=>by cases h
 |_::_,[],h=>by cases h
 |a::kv,b::kvs,h=>by
  simp only[ado,List.cons.injEq]at h;rw[ado,ado,h.1];refine .cons ?_ (CK h.2);cases a.1 with
  |inl i=>exact .int i
  |inr x=>exact .str x
theorem Mz(co:cO X.K aj)(hw:aj.w=X.w)(σ:L2.St)(H:Hp)(Q:VK)(h:tQ X.K aj W (rB f fo) σ H Q):tFld X.K (tW X.K aj W fo) f σ H λx H1=>J5 X [x] H1 Q:=by
 obtain⟨g,Z,M,J,h⟩:=h;unfold rB at h;refine tW.go J h.bnd λod u H1 k2 e1 ru=>?_;have J1:=J.ex e1;split at k2
 .next h i b kvs hl=>
  obtain⟨a,C,dx,fs,l,rfl,m1,m2,ml,ha,rfl,c1,c2,c3,c4,c5,c6,l1,l2,l3⟩:=pO co J1.wok ru hl;refine⟨a,C,dx,fs,.ref l,rfl,c2,c4,c5,l1,?_⟩;cases b with
  |false=>
   obtain⟨kv,q1,q2,q3⟩:=l3;exact .inl ⟨l,kv,rfl,q1,λq nq=>k2 (.ref q) _ (e1.trans (Ex.new nq)) (.lst (.inl ⟨aeC,J1.kd.fresh nq⟩) (CK q2))⟩
  |true=>
   obtain⟨o',xs,vs,q1,q2,q3,q4,q5,q6⟩:=l3;rw[hw]at q2;exact .inr ⟨l,o',xs,rfl,q1,q2,λq nq=>k2 (.ref q) _ (e1.trans (Ex.new nq)) (.lst (.inl ⟨aeC,J1.kd.fresh nq⟩) (q4.ex (Ex.new nq) J1.kd))⟩
 .exact aev k2
theorem N5(co:cO X.K aj)(hw:aj.w=X.w)(hc:X.calm=true)(hg:Gl X "list")(hm:X.mg "list"=none)(ho:QW aj X W o fo)(hb:baseOk o=true):QE aj X W (.Call (.Name "list" p) [.Attribute o f p1] [] pos) (rB f fo):=by
 have h1:=pa_cons (pe_fld (X:=X) (pos:=p1) (f:=f) ho (cZ hb)) pa_nil (aQ rfl []);have hv:BV (.type "list") "list":=⟨by decide +kernel,by decide,by decide⟩
 refine PE.weak (pe_callTy (pos:=pos) (p:=p) (Ig hc) hg hm hv.1 h1 hv.2.1 hv.2.2 (aQ rfl []) (by with_unfolding_all rfl)) λσ H Q h=>?_;exact Mz co hw σ H Q h
def Ax(ft:Ft)(o:QF)(f:Str)(b:Bool):SF:=λM Z=>((o (M++[⟨"",[]⟩]) Z).at (M++[⟨"",[]⟩])).then Z λod M2=>match dD M2 od with
 |some (h,i)=>match ft.has i.cls f&&decide (i.fs.length<100) with
  |true=>.next Z (M2.set h (i.put f (.dic b [])))
  |false=>.bad
 |none=>.bad
def Yd(X:Cx)(b:Bool):TE:=λ_ H Q=>∀p,H p=none->match b with
 |false=>Q (.ref p) (upd H p (.dK []))
 |true=>∀o,dO X.w p o []->Q (.ref p) (upd H p (bU p o))
theorem RB{b:Bool}:PE X (.Dict [] [] pos) (Yd X b):=by
 cases b with
 |false=>exact PE.weak pe_dnewK λσ H Q h p np=>h p np
 |true=>
  refine⟨λpins s σ H Q I h=>wpAny_Dict_empty ?_⟩;have hz:(s.heap.push { cls:=.type "dict",data:=.dict #[] }).get? s.heap.objs.size=some { cls:=.type "dict",data:=.dict #[] }:=Heap.get?_push_size _ rfl
  have hs:(s.heap.objs.size==sysModules)=false:=beq_eq_false_iff_ne.mpr (Ne.symm (adK I.big));exact⟨.ref s.heap.objs.size,_,I.laid (a:=s.heap.objs.size) (o:=bU s.heap.objs.size _) (t':=s.toks) (λ_ _ q=>Heap.get?_push_of_some _ q) (adE _) (tD hz),rfl,h _ (I.hok.fresh (adE _)) _ ⟨hs,⟨rfl,rfl,rfl⟩,⟨#[],0,rfl,rfl⟩,aeh,adR _,λx hx=>absurd hx adM⟩⟩
theorem Q6{ft:Ft}{b:Bool}(co:cO X.K aj)(fk:sY ft aj)(hw:aj.w=X.w)(ho:QW aj X W o fo)(hs:swapsWith (.Dict [] [] p) (some (.Attribute o f pos')) pos.line X.env=pure false):SE aj X W false (.Assign [.Attribute o f pos'] (.Dict [] [] p) pos) (Ax ft fo f b):=by
 refine PS.weak (ps_fld ho (RB (b:=b)) hs) λD σ H ⟨g,Z,M,I,z⟩=>?_;have core:∀(l:Addr) (ob:HO),H l=none->qO ob->(∀(g':Gh) (H':Hp),H' l=some ob->bT X.K aj g' H' l b [])->tW X.K aj W fo σ (upd H l ob) (λx H2=>∃a C dx fs,x=.ref a/\H2 a=some (.ins C dx fs)/\Cls X.K C/\NoAttr X.K C f/\fs.length<1000/\D.nx σ (upd H2 a (.ins C dx (putF f (.ref l) fs)))):=by
  intro l ob nl mu at';obtain⟨gr,I1,tb,ow,mm⟩:=rN I nl (Ex.new nl) aeC mu;unfold Ax at z;have k1:=Out.bO (aU (σ:=σ) z);refine tW.go I1 (k1.mono (λ_ y=>y) λx y H' c dd ex rx=>y H' _ c dd (gr.trans (Gr.ex ex)) (I1.ex ex) rx) λod u H2 k2 e2 ru=>?_;have I2:=I1.ex e2;split at k2
  .next h i hi=>
   split at k2
   .next hb=>
    rw[adi]at hb;obtain⟨a,C,dx,fs,_,m1,m2,ha,rfl,c1,c2,c3,c4,c5,c6⟩:=pP co fk I2.wok ru hi hb.1;have nla:l≠a:=λz=>by
     subst z;cases I2.wok.inj _ _ _ ha tb;rw[mm]at m1;cases m1;exact m2 rfl
    refine⟨a,C,dx,fs,rfl,c2,c4,c5,?_,?_⟩
    .have:=aex hb.2;rw[c3.len];omega
    .have ch:=xM (f:=f) (C:=C) (dx:=dx) (fs':=putF f (.ref l) fs) I2.kd I2.wok ha m1 m2 tb mm ow;have w':=I2.wok.chg I2.kd ch ha m1 m2 c6 c1 c3 aeC (v:=.ref l) (fl:=.dic b []) ⟨l,rfl,aeA rfl,at' _ _ (by rw[upd_ne nla];exact e2 _ _ aeC)⟩;exact k2 σ _ _ ((gr.trans (Gr.ex e2)).trans ch.gc.gr) (I2.chg ch w')
   .exact aev k2
  .exact aev k2
 intro l nl;cases b with
 |false=>exact core l _ nl aeu λg' H' h=>⟨[],h,rfl,.nil⟩
 |true=>exact λob nd=>core l _ nl aeu λg' H' h=>⟨ob,[],[],h,by rw[hw];exact nd,rfl,.nil,.nil,.nil⟩
end
def T9(X:Cx)(D:Addr)(vs:List Nat)(g:TG)(tk:TE)(σ:L2.St)(Nx:Hp->Prop)(x:V)(H:Hp):Prop:=
 g x (L2.wipe σ vs) H λσ2 H2=>L2.wipe σ2 vs=L2.wipe σ vs/\tk σ2 H2 λy H4=>∃(o:Obj) (xs:List eG) (gg:Gh) (d:Dat) (b:Addr) (k:NestedKey),y=.ref b/\H4 D=some (bU D o)/\dO X.w D o xs/\ao X.K gg H4 (xs.map λx=>V.ref x.2.1) (xs.map λx=>x.1.data)/\Rep X.K gg H4 y d/\jV d=some k/\k.depth<=8/\xs.length<sizeLine/\
  ∀o',dO X.w D o' (storedH xs k b (.bool true))->Nx (upd H4 D (bU D o'))
def Ug(X:Cx)(wi:TI)(g:TG)(tk:TE)(vs:List Nat):TE:=λσ H Q=>wi σ H λJ H1=>∀D,H1 D=none->∃W:Nat->Nat->Hp->Prop,(∃m,∀o,dO X.w D o []->W 0 m (upd H1 D (bU D o)))/\
 ∀i m H,W i m H->(J.stop i H/\Q (.ref D) H)\/(J.go i H/\∃Nx:Hp->Prop,(∀H',Nx H'->∃m',m'<m/\W (i+1) m' H')/\∀x H',J.yld i H x H'->T9 X D vs g tk σ Nx x H')
section
variable{X:Cx}
theorem MP{pins:List (Addr×Obj)}{σ:L2.St}{H:Hp}{s:Shared}{E:Value->Shared->Prop}{D b:Addr}{o:Obj}{xs:List eG}{gg:Gh}{d:Dat}{k:NestedKey}{u:Value}{Q:Unit->Shared->Prop}(hu:X.A.units+64<cLine)(I:L2.Inv X pins σ H s)(hD:H D=some (bU D o))(n:dO X.w D o xs)(hr:ao X.K gg H (xs.map λx=>V.ref x.2.1) (xs.map λx=>x.1.data))(hk:Rep X.K gg H (.ref b) d)(hd:jV d=some k)(h8:k.depth<=8)(hz:xs.length<sizeLine)(ru:RelV (.bl true) u)
  (q:∀s' o',dO X.w D o' (storedH xs k b (.bool true))->L2.Inv X pins σ (upd H D (bU D o')) s'->Q () s'):wpAny (model X.prog X.w) X.A (dictSet D (.ref b) u) Q E s:=by
 obtain rfl:u=.bool true:=ru
 refine wpAny_dictSet_heap (knd:=nestedKind X.prog X.w) (k:=k) (hsz:=Nat.le_of_lt hz) (show X.A.units+8<cLine by omega) ⟨key_is I hk hd rfl,h8⟩ (pB I hD n rfl hr) ?_;intro h' dd hs';obtain⟨o',es,ep,g1,g2,g3,g4,g5,g6⟩:=dd;have nd:dO X.w D o' (storedH xs k b (.bool true)):=⟨n.sys,g2,⟨es,ep,g3,g4⟩,g6,by have:=vN (xs:=xs) (k:=k) (b:=b) (u:=.bool true);omega,wI n.dep h8⟩;exact q _ o' nd (d_write I (by rw[hD];exact True.intro) hs' ⟨o',g1⟩ (tD g1))
theorem R6{kx tg iter:Expr}{scope:Scope}{own:List (PySem.Str×Nat)}{pos vp:Pos}{vj:Nat}{wi:TI}{g:TG}{tk:TE}(hc:X.calm=true)(hN:X.N.Nodup)(hu:X.A.units+64<cLine)(hi:PI X tg iter wi)(ok:BlkOk X.N X.env.scope scope own)
  (hg:∀(t:Shared) (G:Hp) (C:Addr) (cl:List (PySem.Str×Addr)) (fp:List Addr),PG (X.blk t G scope (compEnvC scope cl C X.env) fp) tg g)
  (hk:∀(t:Shared) (G:Hp) (C:Addr) (cl:List (PySem.Str×Addr)) (fp:List Addr),PE (X.blk t G scope (compEnvC scope cl C X.env) fp) kx tk) (hs:∀x,foldedSetIterable iter X.env x=pure x) :
  PE X (.DictComp kx (.Constant (.bool true) vj vp) [⟨tg,iter,[],0⟩] scope pos) (Ug X wi g tk (own.map (·.2))):=by
 refine⟨λpins s σ H Q I h=>?_⟩;rw[arm_eval_DictComp];have cells:∀y∈scope.names,y.2=.free->∃c,X.env.cells.lookup y.1=some c:=λy hy e=>(ok.free y hy e).elim (λk=>I.ok.has _ (.inl k)) (λk=>I.ok.has _ (.inr k));refine wpAny_comprehension_free rfl hs (closure_ok cells) ok.kind (λy hy e=>by rw[ok.uniq y hy,e]) (thn (hi.run pins s σ H _ I h) λ_ _ hx=>thn hx λitv t0 h0=>?_);obtain⟨it,fp,tn,J,G0,rfl,I0,T,st0,f0,q⟩:=h0;refine wpAny_newObj_type (newEnv_comp ?_)
 -- the new dict,at D
 obtain⟨D,hD⟩:∃D,D=t0.heap.objs.size:=⟨_,rfl⟩;rw[<-hD];obtain⟨W,⟨m0,w00⟩,turn⟩:=q D (I0.hok.fresh (Nat.le_of_eq hD.symm));obtain⟨ob,hob⟩:∃ob:Obj,ob={ cls:=.type "dict",data:=.dict #[] }:=⟨_,rfl⟩
 have nd0:dO X.w D ob []:=by rw[hob];exact⟨by rw[hD];exact beq_eq_false_iff_ne.mpr (Ne.symm (adK I0.big)),⟨rfl,rfl,rfl⟩,⟨#[],0,rfl,rfl⟩,aeh,adR _,λx hx=>absurd hx adM⟩
 have w0:=w00 ob nd0;rw[<-hob];obtain⟨t1,ht1⟩:∃t1:Shared,t1={ t0 with heap:=t0.heap.push ob }:=⟨_,rfl⟩;obtain⟨G1,hG1⟩:∃G1,G1=upd G0 D (bU D ob):=⟨_,rfl⟩;rw[<-hG1]at w0;have grow:∀b o,t0.heap.get? b=some o->t1.heap.get? b=some o:=λb o e=>by rw[ht1];exact Heap.get?_push_of_some _ e
 have I1:L2.Inv X pins σ G1 t1:=by rw[ht1,hG1];refine I0.laid (t':=t0.toks) (λb o e=>Heap.get?_push_of_some _ e) (Nat.le_of_eq hD.symm) (tD ?_);rw[hD];exact Heap.get?_push_size _ (by rw[hob];rfl)
 have small:∀b∈fp,b<t0.heap.objs.size:=λb hb=>by
  obtain⟨o,e,_⟩:=T.obj _ _ st0 b hb;exact Heap.lt_size e
 have f1:∀b∈fp,FpOk X pins G1 b/\b<t1.heap.objs.size:=λb hb=>by
  have hlt:=small b hb;refine⟨⟨?_,(f0 b hb).2⟩,by rw[ht1];show b<(t0.heap.push ob).objs.size;rw[Heap.size_push];exact ad8 hlt⟩;rw[hG1,upd_ne (by rw[hD];exact adK hlt)];exact(f0 b hb).1
 have st1:tn 0 t1.heap:=T.keep _ _ _ st0 λb _ o e=>grow b o e;have I2:=block_start I1 ok hN f1;have pg:=hg t1 G1 t1.heap.objs.size (cellsFrom (t1.heap.objs.size+1) scope.names (cloFrom X.env.cells scope.names [])) fp;have pk:=hk t1 G1 t1.heap.objs.size (cellsFrom (t1.heap.objs.size+1) scope.names (cloFrom X.env.cells scope.names [])) fp;have none1:∀b∈fp,G1 b=none:=λb hb=>(f1 b hb).1.1;rw[show({ t0 with heap:=t0.heap.push ob }:Shared)=t1 from ht1.symm];obtain⟨ce,hce⟩:∃ce,ce=compEnvC scope (cellsFrom (t1.heap.objs.size+1) scope.names (cloFrom X.env.cells scope.names [])) t1.heap.objs.size X.env:=⟨_,rfl⟩;rw[<-hce]at I2 pg pk;have cL:ce.locals=t1.heap.objs.size:=by rw[hce];rfl
 obtain⟨t2,ht2⟩:∃t2:Shared,t2={ t1 with heap:=pushCells (t1.heap.push { cls:=.type "dict",data:=.dict #[] }) scope.names }:=⟨_,rfl⟩
 rw[<-ht2]at I2;have st2:tn 0 t2.heap:=T.keep _ _ _ st1 λb _ o e=>by rw[ht2];exact pushCells_keeps _ _ _ _ (Heap.get?_push_of_some _ e)
 have still:∀{σ':L2.St} {G':Hp} {t':Shared},L2.Inv (X.blk t1 G1 scope ce fp) [] σ' G' t'->(∀b∈fp,G' b=none)->∀b∈fp,FpOk (X.blk t1 G1 scope ce fp) [] G' b:=λI' hn b hb=>
  ⟨hn b hb,(I'.ok.exf b hb).1,I'.ok.exfs b hb,.inl hb,λx c e=>(I'.ok.exf b hb).2 x c e,λp hp=>absurd (show p∈([]:List (Addr×Obj))++[] from hp) (by simp)⟩
 have pt:PTs (X.blk t1 G1 scope ce fp) [] tYes:=pts_nil;have pv:PE (X.blk t1 G1 scope ce fp) (.Constant (.bool true) vj vp) (tC (.bl true)):=pe_bl;have loop:codeAny (model X.prog X.w) X.A (.compLoop (.DictComp kx (.Constant (.bool true) vj vp) [⟨tg,iter,[],0⟩] scope pos) 0 (.ref it) (.ref D) ce) (compPost (model X.prog X.w) X.A X.xe none (EP X pins σ Q) (.ref D) t1.heap.objs.size) t2:=by
  refine compLoop_anyD (λn t'=>∃i G',L2.Inv (X.blk t1 G1 scope ce fp) [] (L2.wipe σ (own.map (·.2))) G' t'/\tn i t'.heap/\(∀b∈fp,G' b=none)/\W i n G') ?_ m0 ⟨0,G1,I2,st2,none1,w0⟩;rintro n t3 ⟨i,G3,I3,st3,n3,w3⟩;rcases turn i n G3 w3 with⟨stop,fin⟩|⟨go,Nx,hNx,step⟩
  .refine thnF (T.done (X.blk t1 G1 scope ce fp) rfl rfl rfl hc i [] t3 _ G3 (λ_ _=>False) I3 (still I3 n3) st3 stop) λr t4 ⟨hr,I4⟩=>?_;subst hr;have I5:L2.Inv X pins σ G3 t4:=I1.call' (ch:=fp) I4.os I4.base I4.hok I4.bare λb hb=>⟨(f1 b hb).1.2.2.2.1,(f1 b hb).1.2.1,(f1 b hb).1.2.2.2.2.1,(f1 b hb).1.2.2.2.2.2⟩;have nC:G3 t1.heap.objs.size=none:=by rw[<-cL];exact I4.free
   obtain⟨m,hn,_⟩:=I4.loc;have hn':t4.heap.Ns t1.heap.objs.size m:=by rw[<-cL];exact hn
   obtain⟨a0,a1,_,a3,a4,a5⟩:=I1.fpOk (adE _) nC;exact⟨m,hn',λh'' sb=>⟨.ref D,G3,I5.turned (t':=t4.toks) (λb o hb e=>(sb.2 b hb).trans e) a0 a1 a3 a4 a5,rfl,fin⟩⟩
  .refine thnF (T.item (X.blk t1 G1 scope ce fp) rfl rfl rfl hc i [] t3 _ G3 (λ_ _=>False) I3 (still I3 n3) st3 go) λr t4 ⟨u,hr,h4⟩=>?_;subst hr;refine thnF h4 λ_ t5 ⟨x,G5,I5,r5,y5,st5,n5⟩=>?_;refine thnF (pg.run _ t5 _ G5 x u _ (I5.pinned (still I5 n5) (T.obj _ _ st5)) r5 (step x G5 y5)) λ_ t6 ⟨σ6,G6,I6,hw6,q6⟩=>?_;refine thnF (pt.run _ t6 σ6 G6 (λb G=>b=true/\G=G6) I6 ⟨rfl,rfl⟩) λb t7 ⟨G7,I7,hb7,hG7⟩=>?_;subst hb7 hG7;have over:∀{t':Shared} {G':Hp},L2.Inv (X.blk t1 G1 scope ce fp) ([]++pinsAt fp t5.heap) σ6 G' t'->Nx G'->∃m,m<n/\∃i G',L2.Inv (X.blk t1 G1 scope ce fp) [] (L2.wipe σ (own.map (·.2))) G' t'/\tn i t'.heap/\(∀b∈fp,G' b=none)/\W i m G':=λ{t' G'} I' nx=>by
    obtain⟨m',hm,w'⟩:=hNx G' nx;have pin:∀b∈fp,∀o,t5.heap.get? b=some o->t'.heap.get? b=some o/\G' b=none:=λb hb o e=>
     let z:=I'.pin (b,o) (List.mem_append_right _ (List.mem_append_right _ (mem_pinsAt hb e)))
     ⟨z.1,z.2.1⟩
    refine⟨m',hm,i+1,G',(I'.unpinned (pins:=[])).weak (by rw[<-hw6,wipe_length]) (λj v e=>?_),T.keep _ _ _ st5 λb hb o e=>(pin b hb o e).1,λb hb=>?_,w'⟩
    .rw[<-hw6]at e;exact(wipe_some e).1
    .obtain⟨o,e,_⟩:=T.obj _ _ st5 b hb;exact(pin b hb o e).2
   simp only[if_true];refine thnF (pk.run _ t7 σ6 _ _ I7 q6) λz t8 ⟨yv,G8,I8,r8,o8,xs8,g8,d8,b8,k8,ey,hD8,n8,hr8,hk8,hd8,h88,hz8,nx⟩=>?_;subst ey
   obtain rfl:z=Value.ref b8:=r8
   refine thnF (pv.run _ t8 σ6 G8 (λv G=>v=.bl true/\G=G8) I8 ⟨rfl,rfl⟩) λz2 t9 ⟨y9,G9,I9,r9,hv9,hG9⟩=>?_;subst hv9 hG9;exact MP (X:=X.blk t1 G1 scope ce fp) hu I9 hD8 n8 hr8 hk8 hd8 h88 hz8 r9 λs' o' nd I10=>over I10 (nx o' nd)
 have done:=codeAny_compStart_dict loop (T.self X.A 0 _ _ _ st2 loop);rw[hce,ht2]at done;subst hob;exact done
end
def qR(tg:bH)(tk:QF)(M:Mo)(Z:Env):List Dat->List (Dat×Dat)->Out (List (Dat×Dat))
 |[],acc=>.ok acc
 |d::ds,acc=>match tg d Z with
  |none=>.bad
  |some Z1=>(ni (tk M Z1)).bind λkd=>(dhas true acc kd).bind λr=>qR tg tk M Z ds (match r with
   |true=>acc
   |false=>acc++[(kd,.bool true)])
def Vb(it:IF)(tg:bH)(vs:List Nat)(tk:QF):Mo->Env->Out (List (Dat×Dat)):=λM Z=>(it M Z).bind λds=>Out.when (decide (ds.length<=50000)) (qR tg tk M (aO Z vs) ds [])
def Wm(K:adh)(aj:aq)(W:WX)(f:Mo->Env->Out (List (Dat×Dat))):TE:=λσ H Q=>∃g Z M,SInv K aj σ H g Z M/\(f M Z).sat (λkvs=>∀l o H',H l=none->Ex H H'->H' l=some (bU l o)->bT K aj (g.add l) H' l true kvs->Q (.ref l) H') (gQ K aj W g H σ)
section
variable{X:Cx}{aj:aq}{W:WX}
theorem Aa{tg:bH}{tk:QF}{M:Mo}{Z:Env}:∀{ds:List Dat} {acc:List (Dat×Dat)} {x:aY},qR tg tk M Z ds acc≠.exc x
 |[],_,_,h=>nomatch h
 |d::ds,acc,x,h=>by
  rw[qR]at h;split at h
  .cases h
  .next Z1 e=>
   cases h1:tk M Z1 with
   |bad=>rw[h1]at h;cases h
   |exc y=>rw[h1]at h;cases h
   |ok kd=>
    rw[h1]at h;have h:((dhas true acc kd).bind λr=>qR tg tk M Z ds (match r with
     |true=>acc
     |false=>acc++[(kd,.bool true)]))=.exc x:=h
    cases h2:dhas true acc kd with
    |bad=>rw[h2]at h;cases h
    |exc y=>
     unfold dhas at h2;split at h2
     .cases h2
     .split at h2
      .split at h2<;>cases h2
      .cases h2
     .cases h2
    |ok r=>
     rw[h2]at h;exact Aa h
theorem Lq{xs:List eG}{k:NestedKey}(h:∀x∈xs,x.2.2=.bool true):xs.map (putAt k (.bool true))=xs:=by
 have:∀x∈xs,putAt k (.bool true) x=x:=λx hx=>by
  unfold putAt;split
  .obtain⟨a,b,c⟩:=x;have:c=.bool true:=h _ hx;rw[this]
  .rfl
 calc xs.map (putAt k (.bool true))=xs.map id:=List.map_congr_left this
  _=xs:=List.map_id xs
theorem Fl:∀{xs:List eG},(∀x∈xs,x.2.2=.bool true)->Vals (List.replicate xs.length (.bl true)) (xs.map (·.2.2))
 |[],_=>.nil
 |x::xs,h=>by
  rw[adA,List.replicate_succ,ado,h x adn];exact .cons rfl (Fl λy hy=>h y (adt _ hy))
theorem Gn{K:adh}{g:Gh}{H:Hp}:∀{kvs:List (Dat×Dat)} {n:Nat},n=kvs.length->(∀p∈kvs,p.2=.bool true)->ao K g H (List.replicate n (.bl true)) (kvs.map (·.2))
 |[],_,h,_=>by subst h;exact .nil
 |p::kvs,_,e,h=>by
  subst e;rw[adA,List.replicate_succ,ado,h p adn];exact .cons (.bl true) (Gn rfl λy hy=>h y (adt _ hy))
theorem Xm{it:IF}{tg:bH}{js vs:List Nat}{tk:QF}(hw:aj.w=X.w)(hj:∀j∈js,j∈vs)(σ:L2.St)(H:Hp)(Q:VK)(h:Wm X.K aj W (Vb it tg vs tk) σ H Q) :
  Ug X (tI X.K aj W false it) (j6 X.K aj js tg) (tQ X.K aj WF tk) vs σ H Q:=by
 obtain⟨g,Z,M,I,h⟩:=h;refine⟨g,Z,M,I,h.bnd.mono (λds hk J C H1 e1 w c _ D nD=>?_) λ_ z=>z⟩;obtain⟨hz,hk⟩:=hk.gG;have hlen:=aex hz;obtain⟨total,htot,hQ⟩:∃total,qR tg tk M (aO Z vs) ds []=.ok total/\∀l o H',H l=none->Ex H H'->H' l=some (bU l o)->bT X.K aj (g.add l) H' l true total->Q (.ref l) H':=by
  cases hc:qR tg tk M (aO Z vs) ds [] with
  |bad=>rw[hc]at hk;exact aev hk
  |exc x=>exact absurd hc Aa
  |ok total=>
   rw[hc]at hk;exact⟨total,rfl,hk⟩
 have I1:=(I.ex e1).wipe vs;have kD:∀{Ha:Hp} {o:Obj},Ex H1 Ha->Ha D=some (bU D o)->SInv X.K aj (L2.wipe σ vs) Ha (g.add D) (aO Z vs) M:=λea hu=>I1.add nD ea hu aeu
 let Pv:Nat->Hp->Prop:=λi Ha=>Ex H1 Ha/\i<=ds.length/\∃o xs acc,Ha D=some (bU D o)/\dO X.w D o xs/\acc.map (·.1)=xs.map (λx=>x.1.data)/\ao X.K (g.add D) Ha (xs.map λx=>V.ref x.2.1) (acc.map (·.1))/\(∀x∈xs,x.2.2=.bool true)/\(∀p∈acc,p.2=.bool true)/\acc.length<=i/\qR tg tk M (aO Z vs) (ds.drop i) acc=.ok total
 refine⟨λi m Ha=>m=ds.length-i/\Pv i Ha,⟨ds.length,λo n0=>⟨rfl,Ex.new nD,adR _,o,[],[],aeC,n0,rfl,.nil,λx hx=>absurd hx adM,λx hx=>absurd hx adM,adE _,by rw[aer];exact htot⟩⟩,?_⟩;rintro i m Ha ⟨rfl,ea,hi,o,xs,acc,hu,nd,hK,hR,hT,hA,hy,hs⟩;have Ia:=kD ea hu;have Ca:=w.add g (g.add D) H1 Ha (I.kd.ex e1) c (Gh.oY nD ea) ea;have lxs:xs.length=acc.length:=by have:=congrArg List.length hK;simpa using this.symm
 by_cases hlt:i<ds.length
 .refine .inr ⟨w.go _ i Ha Ca hlt,Pv (i+1),λH' p=>⟨ds.length-(i+1),by omega,rfl,p⟩,λx H' y=>?_⟩;have hd:ds[i]?=some ds[i]:=adq hlt;obtain⟨e2,rx⟩:=w.yld _ i Ha x H' _ Ia.kd Ca hd y;have I2:=Ia.ex e2;rw[adY hlt,qR]at hs;split at hs
  .cases hs
  .next Z1 he=>
   refine⟨g.add D,_,M,_,Z1,I2,rx,he,λws I3=>⟨lQ js ws _ vs hj |>.trans (nQ σ vs),?_⟩⟩;cases htk:tk M Z1 with
   |bad=>rw[htk]at hs;cases hs
   |exc z=>rw[htk]at hs;cases hs
   |ok kd=>
    rw[htk]at hs;have hs:((dhas true acc kd).bind λr=>qR tg tk M (aO Z vs) (ds.drop (i+1)) (match r with
     |true=>acc
     |false=>acc++[(kd,.bool true)]))=.ok total:=hs
    refine⟨g.add D,Z1,M,I3,?_⟩;rw[htk];intro v H4 e4 ry;have I4:=I3.ex e4;have hu4:=e4 _ _ (e2 _ _ hu);have hR4:=(hR.ex e2 Ia.kd).ex e4 I2.kd;cases hh:dhas true acc kd with
    |bad=>rw[hh]at hs;cases hs
    |exc z=>rw[hh]at hs;cases hs
    |ok r=>
     rw[hh]at hs;obtain⟨ha2,hcase⟩:=xV hh;rcases hcase with⟨z,_⟩|⟨_,dd,kk,rfl,hkk,hdep⟩
     .cases z
     .have ek:=lU hkk;rw[<-ek,qF hK]at ha2;have hRx:=hR4;rw[hK]at hRx;cases ry with
      | @tup bb us _ hs' ht=>
       refine⟨o,xs,g.add D,_,bb,kk,rfl,hu4,nd,hRx,.tup hs' ht,hkk,hdep,sz_lt (by omega),λo' nd'=>?_⟩;have eD:Ex H1 (upd H4 D (bU D o')):=Ex.mut ((ea.trans e2).trans e4) nD;have lD:(g.add D).Lo D:=.inr rfl;have up:Gr true (g.add D) (g.add D) H4 (upd H4 D (bU D o')):=Gr.upd I4.kd hu4 (.inr lD);cases r with
       |true=>
        obtain⟨q,hq⟩:=Option.isSome_iff_exists.mp ha2;rw[storedH_old hq,Lq hT]at nd';exact⟨eD,hlt,o',xs,acc,aeC,nd',hK,hR4.gr up I4.kd,hT,hA,by omega,hs⟩
       |false=>
        have hn:atKey xs kk=none:=by
         cases hv:atKey xs kk with
         |none=>rfl
         |some _=>rw[hv]at ha2;cases ha2
        rw[storedH_new hn]at nd';have hs:qR tg tk M (aO Z vs) (ds.drop (i+1)) (acc++[(.tuple dd,.bool true)])=.ok total:=hs;refine⟨eD,hlt,o',xs++[(kk,bb,.bool true)],acc++[(.tuple dd,.bool true)],aeC,nd',by simp[hK,ek],?_,?_,?_,by simp;omega,hs⟩
        .rw[adQ,adQ];exact(hR4.gr up I4.kd).back ((Rep.tup hs' ht).gr up I4.kd)
        .intro x hx;rcases adU.mp hx with z|z
         .exact hT x z
         .rw[adF.mp z]
        .intro x hx;rcases adU.mp hx with z|z
         .exact hA x z
         .rw[adF.mp z]
 .have e:i=ds.length:=by omega
  refine .inl ⟨w.stop _ i Ha Ca e,?_⟩;rw[e,ad3]at hs;cases hs;exact hQ D o Ha (mY e1 D nD) (e1.trans ea) hu ⟨o,xs,List.replicate xs.length (.bl true),hu,by rw[hw];exact nd,hK,hR,Fl hT,Gn lxs hA⟩
def Af(ft:Ft)(o:QF)(f:Str)(e:Mo->Env->Out (List (Dat×Dat))):SF:=λM Z=>((e M Z).at M).then Z λkvs _=>((o (M++[⟨"",[]⟩]) Z).at (M++[⟨"",[]⟩])).then Z λod M2=>match dD M2 od with
 |some (h,i)=>match ft.has i.cls f&&decide (i.fs.length<100) with
  |true=>.next Z (M2.set h (i.put f (.dic true kvs)))
  |false=>.bad
 |none=>.bad
end
theorem Bx{K:adh}{g:Gh}{H:Hp}{l:Addr}{vs:List V}{ds:List Dat}(h:ao K (g.add l) H vs ds):ao K (g.push l) H vs ds:=ao.mv (g:=g.add l) (g':=g.push l) rfl (λh a z=>by
  have z:g.tbl[h]?=some a:=z
  show(g.tbl++[l])[h]?=some a
  rw[adD (adk.mp z).1];exact z) (λa z=>by
  rcases Dq z with z|rfl
  .rcases z with z|z|z
   .exact .inl z
   .exact .inr (.inl z)
   .exact .inr (.inr (show g.Lo a\/a=l from Or.inl z))
  .exact .inr (.inr (show g.Lo a\/a=a from Or.inr rfl))) h
section
variable{X:Cx}{aj:aq}{W:WX}{o e:Expr}{f:Str}{pos pos':Pos}{ft:Ft}{fo:QF}
theorem Rk{fe:Mo->Env->Out (List (Dat×Dat))}{te:TE}(co:cO X.K aj)(fk:sY ft aj)(ho:QW aj X W o fo)(he:PE X e te)(hte:∀σ H Q,Wm X.K aj W fe σ H Q->te σ H Q)(hs:swapsWith e (some (.Attribute o f pos')) pos.line X.env=pure false):SE aj X W false (.Assign [.Attribute o f pos'] e pos) (Af ft fo f fe):=by
 refine PS.weak (ps_fld ho he hs) λD σ H ⟨g,Z,M,I,z⟩=>hte σ H _ ⟨g,Z,M,I,?_⟩;unfold Af at z;cases hf:fe M Z with
 |exc x=>rw[hf]at z;exact λH' c dd e r=>z σ H' g c dd (Gr.ex e) (I.ex e) r.fr
 |bad=>rw[hf]at z;exact aev z
 |ok kvs=>
  rw[hf]at z;intro l ob H1 nl e1 hl dic;obtain⟨gr,I1,tb,ow,mm⟩:=rN I nl e1 hl aeu;have dic1:bT X.K aj (g.push l) H1 l true kvs:=by obtain⟨o',xs,vs,q1,q2,q3,q4,q5,q6⟩:=dic;exact⟨o',xs,vs,q1,q2,q3,Bx q4,q5,Bx q6⟩
  have z:(((fo (M++[⟨"",[]⟩]) Z).at (M++[⟨"",[]⟩])).then Z λod M2=>match dD M2 od with
   |some (h,i)=>match ft.has i.cls f&&decide (i.fs.length<100) with
    |true=>.next Z (M2.set h (i.put f (.dic true kvs)))
    |false=>.bad
   |none=>.bad).sat (sN X.K aj false D.nx g H) (sR X.K aj false D.rt g H) (sN X.K aj false D.bk g H) (sN X.K aj false D.ct g H) (sX X.K aj W false g H):=z
  have k1:=Out.bO (aU (σ:=σ) z);refine tW.go I1 (k1.mono (λ_ y=>y) λx y H' c dd ex rx=>y H' _ c dd (gr.trans (Gr.ex ex)) (I1.ex ex) rx) λod u H2 k2 e2 ru=>?_;have I2:=I1.ex e2;split at k2
  .next h i hi=>
   split at k2
   .next hb=>
    rw[adi]at hb;obtain⟨a,C,dx,fs,_,m1,m2,ha,rfl,c1,c2,c3,c4,c5,c6⟩:=pP co fk I2.wok ru hi hb.1;have nla:l≠a:=λz=>by
     subst z;cases I2.wok.inj _ _ _ ha tb;rw[mm]at m1;cases m1;exact m2 rfl
    refine⟨a,C,dx,fs,rfl,c2,c4,c5,?_,?_⟩
    .have:=aex hb.2;rw[c3.len];omega
    .have ch:=xM (f:=f) (C:=C) (dx:=dx) (fs':=putF f (.ref l) fs) I2.kd I2.wok ha m1 m2 tb mm ow;have w':=I2.wok.chg I2.kd ch ha m1 m2 c6 c1 c3 aeC (v:=.ref l) (fl:=.dic true kvs) ⟨l,rfl,aeA rfl,bT.chg ch.gc.gr I2.kd (upd_ne nla) (dic1.ex e2 I1.kd)⟩;exact k2 σ _ _ ((gr.trans (Gr.ex e2)).trans ch.gc.gr) (I2.chg ch w')
   .exact aev k2
  .exact aev k2
end
end Rf
namespace Ear
open PySem PySem.Spec PyProof.Rows L2 Evl RZ
abbrev jP(K:adh)(H:Hp)(v:V)(r:Rw):Prop:=Dp K H v (rD r)
@[irreducible]def sG (K:adh) (w:World):List V->Hp->VK->Prop:=λvs H Q=>∃(l:Addr) (ws:List V) (R D:List Rw),vs=[V.ref l]/\SqL K H l ws/\bA (jP K H) ws R/\D.length<=76/\(∀r∈R,r∈D)/\
 ∀(p:Addr) (L:List Ent),H p=none->(∀e∈L,jP K H (.ref e.1) e.2)->(L.map Prod.snd).Nodup->(∀r,r∈L.map Prod.snd↔r∈R)->L.length<=76->Q (.ref p) (upd H p (tO w p L))
@[irreducible]def vC (K:adh) (w:World):List V->Hp->VK->Prop:=λvs H Q=>∃(a:Addr) (L:List Ent),vs=[V.ref a]/\H a=some (tO w a L)/\(∀e∈L,jP K H (.ref e.1) e.2)/\(L.map Prod.snd).Nodup/\L.length<=76/\
 ∀(ys:List V) (M:List Rw) (p:Addr),bA (jP K H) ys M->Fe M->(∀r,r∈M↔r∈L.map Prod.snd)->H p=none->Q (.ref p) (upd H p (.lst ys))
section
variable{X:Cx}
theorem N7{pins:List (Addr×Obj)}{σ:L2.St}{H:Hp}{s:Shared}(I:Inv X pins σ H s){t:Addr}{r:Rw}(h:jP X.K H (.ref t) r):RI s.heap r t:=by
 refine⟨?_,by rw[Nk];decide⟩;unfold jP rD dT at h;cases h with
 |tup h1 t1=>
  cases t1 with
  |cons a1 t1=>
   cases t1 with
   |cons a2 t1=>
    cases t1;cases a1;cases a2 with
    |tup h2 t2=>
     obtain⟨us,rv,⟨o,ho,hc,n,hd⟩,_⟩:=I.tuple h1;obtain⟨us2,rv2,⟨o2,ho2,hc2,n2,hd2⟩,_⟩:=I.tuple h2;refine .tup ho hc hd ?_;cases rv with
     |cons r1 rv=>
      cases rv with
      |cons r2 rv=>
       cases rv;obtain⟨tk,rfl⟩:=r1;cases r2;have e:∀{vs:List V} {l:List Int},DpAll X.K H vs (l.map PyData.int)->vs=l.map V.int:=by
        intro vs l
        induction l generalizing vs with
        |nil=>intro z;cases z;rfl
        |cons i l ih=>
         intro z;cases z with
         |cons b1 b2=>
          cases b1;rw[ih b2];rfl
       rw[e t2]at rv2;exact .cons (.int r.1 tk) (.cons (.tup ho2 hc2 hd2 (by simpa using zK (P:=X.prog) (w:=X.w) r.2 us2 rv2)) .nil)
theorem wM{K:adh}{H:Hp}:∀(ws:List V) (R:List Rw),bA (jP K H) ws R->∃ks:List Ent,ws=(ks.map λp=>V.ref p.1)/\ks.map Prod.snd=R/\∀p∈ks,jP K H (.ref p.1) p.2
 |[],[],_=>⟨[],rfl,rfl,by simp⟩
 |[],_::_,h=>nomatch h.1
 |_::_,[],h=>nomatch h.1
 |v::ws,r::R,h=>by
  obtain⟨ks,e1,e2,e3⟩:=wM ws R ⟨adZ h.1,λi v x a b=>h.2 (i+1) v x a b⟩;have hr:jP K H v r:=h.2 0 v r rfl rfl;have ev:∃t,v=.ref t:=by
   have z:=hr;unfold jP rD at z;cases z with
   |tup _ _=>exact⟨_,rfl⟩
  obtain⟨t,rfl⟩:=ev;refine⟨(t,r)::ks,by rw[ado,<-e1],by rw[ado,e2],λp hp=>?_⟩;rcases adB.mp hp with e|hp
  .rw[e];exact hr
  .exact e3 p hp
theorem DY(hu:X.A.units+65<cLine)(hc:X.calm=true):CallR X (.type "set") (sG X.K X.w):=by
 intro pins s σ H vs us Q I r h;unfold sG at h;obtain⟨l,ws,R,D,rfl,hl,hA,hD,hRD,q⟩:=h;rw[Vals.ref1 r];obtain⟨ks,e1,e2,e3⟩:=wM ws R hA;obtain⟨its,rv,pl,hz⟩:=I.list hl;rw[e1]at rv;have mem:∀p∈ks,p.2∈R:=λp hp=>by
  rw[<-e2];exact adJ.mpr ⟨p,hp,rfl⟩
 have hn:H s.heap.objs.size=none:=I.hok.fresh (adE _);refine Ef (P:=X.prog) (w:=X.w) (hf:=λr=>(fB X.prog X.w).hash r) (λ_=>rfl) ks D hD (λp hp=>hRD _ (mem p hp)) (I.ok.hd hc) pl.isList (by simpa using zf rv) (λp hp=>N7 I (e3 p hp)) (by omega) λh' tk L es ep t S g k=>?_;have fitL:t.fits es.size=true:=gJ.fits (s:={ s with heap:=h',toks:=tk }) S;have new:ObjOk X.prog X.w (upd H s.heap.objs.size (tO X.w s.heap.objs.size L)) h' s.heap.objs.size (tO X.w s.heap.objs.size L):=by obtain⟨o,ho,hr⟩:=S.ob;refine⟨⟨_,es,ep,t,S.ob,S.en,fitL,S.tab.ris,S.ld⟩,⟨o,ho⟩,λh1 h2 z k2=>?_⟩;obtain⟨hf2,es2,ep2,t2,⟨o2,ho2,hr2⟩,rest⟩:=(show Im X.w h1 s.heap.objs.size L from z);exact⟨hf2,es2,ep2,t2,⟨o2,k2 o2 ho2,hr2⟩,rest⟩
 refine⟨.ref s.heap.objs.size,upd H s.heap.objs.size (tO X.w s.heap.objs.size L),I.laid (t':=tk) k (adE _) new,rfl,q _ L hn (λe he=>e3 e (aeb (g.sub e he))) S.nd (λr=>⟨λm=>?_,λm=>?_⟩) S.few⟩
 .obtain⟨e,he,e5⟩:=adJ.mp m;rw[<-e5];exact mem e (aeb (g.sub e he))
 .rw[<-e2]at m;obtain⟨p,hp,e5⟩:=adJ.mp m;rw[<-e5];exact g.all p (by rw[List.take_length];exact hp)
theorem Hw(hu:X.A.units+65<cLine)(hc:X.calm=true):CallR X (.builtin "sorted") (vC X.K X.w):=by
 intro pins s σ H vs us Q I r h;unfold vC at h;obtain⟨a,L,rfl,ha,hL,nd,few,q⟩:=h;rw[Vals.ref1 r];obtain⟨hf,es,ep,t,⟨o,ho,hex,hd⟩,en,fit,ris,led⟩:Im X.w s.heap a L:=(I.hok a _ ha).1;have len:=j7 en;have ev:∀K:List Ent,(∀p∈K,p∈L)->PySem.W.EachIs (λv (r:Rw)=>(∃p∈L,v=Value.ref p.1/\r=p.2)/\∃as,Reads s.heap v (rD r) as) ((ents hf K).map (·.2)) (K.map Prod.snd):=by
  intro K
  induction K with
  |nil=>exact λ_=>.nil
  |cons p K ih=>
   intro hK;have hp:=hK p adn;exact .cons ⟨⟨p,hp,rfl,rfl⟩,Dp.reads I (rD p.2) (.ref p.1) (.ref p.1) (hL p hp) rfl⟩ (ih λx hx=>hK x (adt _ hx))
 refine Ea (enc:=rD) (bs:=L.map Prod.snd) (I.ok.hd hc) ⟨o,ho,hex.1,hd⟩ fit (by unfold scanBound;omega) ris led (by rw[en];exact ev L λp hp=>hp) (PySem.W.AllAlike.of zA) (PySem.W.Sortable.tuples λb=>⟨_,_,rfl⟩) (λb _=>by rw[(KJ b).2];omega) λs' p out c cs k g' o' hp hg pc eo=>?_;have mp:=List.mergeSort_perm cs (PySem.W.dataLe false rD);have ndm:(cs.mergeSort (PySem.W.dataLe false rD)).Nodup:=(mp.trans pc).nodup_iff.mpr nd;have srt:=List.pairwise_mergeSort (le:=PySem.W.dataLe false rD) (λa b c k1 k2=>by rw[sH,aew]at *;exact List.le_trans k1 k2) (λa b=>by rw[sH,sH,ad6,aew,aew];exact List.le_total _ _) cs;generalize cs.mergeSort (PySem.W.dataLe false rD)=M at mp ndm srt eo;obtain⟨ys,v1,v2⟩:=zR out M eo;have up:Fe M:=by
  refine List.Pairwise.imp₂ (λa b h1 h2=>?_) srt ndm;rw[sH,aew]at h1;by_cases c:rk a<rk b
  .exact c
  .exact absurd (Kc (List.le_antisymm h1 (List.not_lt.mp c))) h2
 have hfr:H p=none:=I.hok.fresh hp;have hlen:ys.length<=sizeLine:=by rw[v2.1,mp.length_eq,pc.length_eq,adp,sizeLine_eq];omega
 have J:Inv X pins σ (upd H p (.lst ys)) { s with heap:=s'.heap,gens:=s'.gens,drawn:=s'.drawn,toks:=s'.toks }:=
  I.call (ch:=[]) (Un.laid k hp hfr) (I.hok.laid k hp ⟨hlen,out,c,v1,hg⟩) (by rw[g'];exact I.bare) (λ_ z=>nomatch z)
 have es':s'={ s with heap:=s'.heap,gens:=s'.gens,drawn:=s'.drawn,toks:=s'.toks }:=by cases s';cases s;cases o';rfl
 rw[es'];refine⟨.ref p,_,J,rfl,q ys M p (v2.imp λv r ⟨e,he,h1,h2⟩=>?_) up (λr=>(mp.trans pc).mem_iff) hfr⟩;subst h1 h2;exact hL e he
end
end Ear
namespace Rf
open PySem PySem.Spec PyProof.Rows L2 Evl
def MK:Dat->Option Ear.Rw
 |.tuple [.int o,.tuple ds]=>(intsOf ds).map λl=>(o,l)
 |_=>none
def wV:List Dat->Option (List Ear.Rw)
 |[]=>some []
 |d::ds=>(MK d).bind λr=>(wV ds).bind λrs=>some (r::rs)
theorem rP:∀{ds:List Dat} {l:List Int},intsOf ds=some l->ds=l.map PyData.int
 |[],l,h=>by cases h;rfl
 |.int i::ds,l,h=>by
  rw[intsOf,adS]at h;obtain⟨r,h1,rfl⟩:=h;rw[rP h1];rfl
 |.none::_,_,h=>by cases h
 |.bool _::_,_,h=>by cases h
 |.str _::_,_,h=>by cases h
 |.list _::_,_,h=>by cases h
 |.tuple _::_,_,h=>by cases h
 |.dict _::_,_,h=>by cases h
theorem RN{d:Dat}{r:Ear.Rw}(h:MK d=some r):d=Ear.rD r:=by
 unfold MK at h;split at h
 .next o ds=>
  rw[adS]at h;obtain⟨l,h1,rfl⟩:=h;rw[rP h1];rfl
 .cases h
theorem vA:∀{ds:List Dat} {rs:List Ear.Rw},wV ds=some rs->ds=rs.map Ear.rD
 |[],_,h=>by cases h;rfl
 |d::ds,_,h=>by
  rw[wV]at h;obtain⟨r,h1,h⟩:=adg.mp h;obtain⟨rs,h2,h⟩:=adg.mp h;cases h;rw[RN h1,vA h2];rfl
def Ar(R:List Ear.Rw):List Ear.Rw:=R.mergeSort λa b=>decide (Ear.rk a<=Ear.rk b)
def sortI(l:List Int):List Int:=l.mergeSort λa b=>decide (a<=b)
def tR(R:List Ear.Rw):List Ear.Rw:=Ar R.eraseDups
def Oj(l:List Int):List Int:=sortI l.eraseDups
theorem uZ:∀(n:Nat) (l:List Int),gj n (l.map PyData.int)=true:=λn l=>by
 induction l with
 |nil=>rfl
 |cons i l ih=>simp[gj,okd,ih]
theorem Dy(n:Nat)(r:Ear.Rw):okd (n+2) (Ear.rD r)=true:=by unfold Ear.rD Ear.dT;simp[okd,gj,uZ]
theorem Ri(n:Nat)(R:List Ear.Rw):gj (n+2) (R.map Ear.rD)=true:=by
 induction R with
 |nil=>rfl
 |cons r R ih=>simp[gj,Dy,ih]
def qj:Dat->Out Dat
 |.list ds=>match intsOf ds with
  |some l=>.ok (.list ((sortI l).map PyData.int))
  |none=>match wV ds with
   |some R=>.ok (.list ((Ar R).map Ear.rD))
   |none=>.bad
 |_=>.bad
def Ht:Dat->Out Dat
 |.list ds=>match wV ds with
  |some R=>match decide (R.eraseDups.length<=76) with
   |true=>.ok (.list ((tR R).map Ear.rD))
   |false=>.bad
  |none=>.bad
 |_=>.bad
theorem zB{β:Type}{enc:β->Dat}{le:β->β->Bool}(h:∀a b,PySem.W.dataLe false id (enc a) (enc b)=le a b)(l:List β):(l.map enc).mergeSort (PySem.W.dataLe false id)=(l.mergeSort le).map enc:=by rw[List.map_mergeSort (r:=le) (s:=PySem.W.dataLe false id) (λa _ b _=>(h a b).symm)]
theorem mD{α:Type}[BEq α][LawfulBEq α]{l:List α}{x:α}:x∈l.eraseDups↔x∈l:=by
 induction hn:l.length using Nat.strongRecOn generalizing l with
 |_ n ih=>
  cases l with
  |nil=>simp
  |cons a r=>
   rw[aem];simp only[adA]at hn;have hl:(r.filter λb=>!b==a).length<=r.length:=adX _ _;rw[adB,ih _ (by omega) rfl,aen,adB];constructor
   .rintro(h|h)
    .exact .inl h
    .exact .inr h.1
   .rintro(h|h)
    .exact .inl h
    .by_cases e:x=a
     .exact .inl e
     .exact .inr ⟨h,by simpa using e⟩
theorem wU{α:Type}[BEq α][LawfulBEq α]{l:List α}:l.eraseDups.Nodup:=by
 induction hn:l.length using Nat.strongRecOn generalizing l with
 |_ n ih=>
  cases l with
  |nil=>simp
  |cons a r=>
   rw[aem];simp only[adA]at hn;have hl:(r.filter λb=>!b==a).length<=r.length:=adX _ _;refine aek.mpr ⟨λh=>?_,ih _ (by omega) rfl⟩;rw[mD,aen]at h;simpa using h.2
theorem JX{R:List Ear.Rw}{r:Ear.Rw}:r∈tR R↔r∈R:=by unfold tR Ar;rw[List.mem_mergeSort,mD]
theorem Nr(R:List Ear.Rw):Ear.Fe (tR R):=by
 unfold Ear.Fe tR Ar;have srt:=List.pairwise_mergeSort (le:=λa b:Ear.Rw=>decide (Ear.rk a<=Ear.rk b)) (λa b c k1 k2=>by rw[aew]at *;exact List.le_trans k1 k2) (λa b=>by rw[ad6,aew,aew];exact List.le_total _ _) R.eraseDups;have nd:(R.eraseDups.mergeSort λa b=>decide (Ear.rk a<=Ear.rk b)).Nodup:=(List.mergeSort_perm _ _).nodup_iff.mpr wU;refine List.Pairwise.imp₂ (λa b h1 h2=>?_) srt nd;rw[aew]at h1;by_cases c:Ear.rk a<Ear.rk b
 .exact c
 .exact absurd (Ear.Kc (List.le_antisymm h1 (List.not_lt.mp c))) h2
section
variable{K:adh}{g:Gh}{H:Hp}
theorem vm{xs:List V}{ds:List Dat}(h:ao K g H xs ds):∀{ys:List V} {es:List Dat},Ear.bA (Ear.Ma xs ds) ys es->ao K g H ys es
 |[],[],_=>.nil
 |[],_::_,z=>nomatch z.1
 |_::_,[],z=>nomatch z.1
 |y::ys,e::es,z=>by
  obtain⟨i,h1,h2⟩:=z.2 0 y e rfl rfl;obtain⟨d,h3,h4⟩:=h.get' h1;rw[h2]at h3;cases h3;exact .cons h4 (vm h ⟨adZ z.1,λi v x a b=>z.2 (i+1) v x a b⟩)
end
section
variable{X:Cx}{aj:aq}{W:WX}{a:Expr}{fa:QF}{p p2 pos pos2:Pos}
theorem RK:qX aj X.K W qj (Ear.qd X.K):=λσ g H x d Q k rx h=>by
 unfold qj at h;split at h
 .next ds=>
  obtain⟨l,us,rfl,h1,h2⟩:=bZ rx;unfold Ear.qd;split at h
  .next ns hn=>
   have e:=rP hn;subst e;refine⟨l,us,ns.map PyData.int,rfl,h1,h2.dp (n:=12) (uZ 12 ns),PySem.W.AllAlike.of (λa b=>by simp[PySem.W.alike]),PySem.W.Sortable.others (λb=>⟨(λz=>nomatch z),λxs z=>nomatch z⟩),λd hd=>by
    obtain⟨i,_,rfl⟩:=adJ.mp hd;simp[PyData.depth],λys q hy nq=>?_⟩
   have hs:=zB (enc:=PyData.int) (le:=λa b:Int=>decide (a<=b)) (λa b=>congrFun (congrFun (PySem.W.dataLe_int (λk:Int=>k)) a) b) ns;rw[hs]at hy;exact h (.ref q) _ (Ex.new nq) (.lst (.inl ⟨aeC,k.fresh nq⟩) ((vm h2 hy).ex (Ex.new nq) k))
  .split at h
   .next R hR=>
    have e:=vA hR;subst e;refine⟨l,us,R.map Ear.rD,rfl,h1,h2.dp (n:=12) (Ri 10 R),PySem.W.AllAlike.of Ear.zA,PySem.W.Sortable.tuples (λb=>⟨_,_,rfl⟩),λd hd=>by
     obtain⟨i,_,rfl⟩:=adJ.mp hd;rw[(Ear.KJ i).2]
     decide,λys q hy nq=>?_⟩
    .have hs:=zB (enc:=Ear.rD) (le:=λa b:Ear.Rw=>decide (Ear.rk a<=Ear.rk b)) (λa b=>by rw[<-Ear.sH];rfl) R;rw[hs]at hy;exact h (.ref q) _ (Ex.new nq) (.lst (.inl ⟨aeC,k.fresh nq⟩) ((vm h2 hy).ex (Ex.new nq) k))
   .exact aev h
 .exact aev h
theorem Qz(hu:X.A.units+65<cLine)(hg:Gl X "sorted")(hm:X.mg "sorted"=none)(ha:QW aj X W a fa)(hs:nst a=true):QE aj X W (.Call (.Name "sorted" p) [a] [] pos) (gD qj fa):=
 O5 (.inl rfl) (Ear.Hj hu) RK hg hm ⟨by decide +kernel,by decide,by decide⟩ ha hs
theorem EY{K:adh}{g:Gh}{H:Hp}:∀{vs:List V} {l:List Int},DpAll K H vs (l.map PyData.int)->ao K g H vs (l.map PyData.int)
 |_,[],.nil=>.nil
 |_,_::_,.cons (.int i) t=>.cons (.int i) (EY t)
theorem IK{K:adh}{g:Gh}{H:Hp}{v:V}{r:Ear.Rw}(h:Ear.jP K H v r):Rep K g H v (Ear.rD r):=by
 unfold Ear.jP Ear.rD at h;cases h with
 |tup h1 t1=>
  cases t1 with
  |cons a1 t1=>
   cases a1;cases t1 with
   |cons a2 t2=>
    cases t2;cases a2 with
    |tup h2 t3=>exact .tup h1 (.cons (.int _) (.cons (.tup h2 (EY t3)) .nil))
theorem zu{K:adh}{g:Gh}{H:Hp}:∀{vs:List V} {R:List Ear.Rw},ao K g H vs (R.map Ear.rD)->Ear.bA (Ear.jP K H) vs R
 |_,[],.nil=>⟨rfl,λi v x a b=>by simp at a⟩
 |_,r::R,.cons h t=>by
  have ih:=zu t;refine⟨congrArg (· + 1) ih.1,λi v x a b=>?_⟩;cases i with
  |zero=>
   simp at a b;subst a b;exact h.dp (n:=12) (Dy 10 _)
  |succ i=>exact ih.2 i v x (by simpa using a) (by simpa using b)
theorem zP{K:adh}{g:Gh}{H:Hp}:∀{vs:List V} {R:List Ear.Rw},Ear.bA (Ear.jP K H) vs R->ao K g H vs (R.map Ear.rD)
 |[],[],_=>.nil
 |[],_::_,h=>nomatch h.1
 |_::_,[],h=>nomatch h.1
 |v::vs,r::R,h=>.cons (IK (h.2 0 v r rfl rfl)) (zP ⟨adZ h.1,λi v x a b=>h.2 (i+1) v x a b⟩)
theorem QK(hu:X.A.units+65<cLine)(hc:X.calm=true)(hg:Gl X "sorted")(hm:X.mg "sorted"=none)(hg2:Gl X "set")(hm2:X.mg "set"=none)(ha:QW aj X W a fa)(hs:nst a=true):QE aj X W (.Call (.Name "sorted" p) [.Call (.Name "set" p2) [a] [] pos2] [] pos) (gD Ht fa):=by
 have h0:=pa_cons ha pa_nil (aQ hs []);have h1:PE X (.Call (.Name "set" p2) [a] [] pos2) _:=pe_callTy (Ear.DY hu hc) hg2 hm2 (by decide +kernel) h0 (by decide) (by decide) (aQ hs []) (by with_unfolding_all rfl)
 have h2:=pa_cons h1 pa_nil (aQ rfl []);refine PE.weak (pe_callB (p:=p) (pos:=pos) (Ear.Hw hu hc) hg hm (by decide +kernel) h2 (by decide) (by decide) (aQ rfl []) (by with_unfolding_all rfl)) λσ H Q ⟨g,Z,M,I,h⟩=>?_;refine tW.go I h.bnd λd v H1 h1 e1 r1=>?_;have I1:=I.ex e1;unfold Ht at h1;split at h1
 .next ds=>
  split at h1
  .next R hR=>
   split at h1
   .next hd=>
    have e:=vA hR;subst e;obtain⟨l,us,rfl,s1,s2⟩:=bZ r1;unfold Ear.sG;refine⟨l,us,R,R.eraseDups,rfl,s1,zu s2,aex hd,λr hr=>mD.mpr hr,λq L nq hL nd mem few=>?_⟩;have eq:Ex H1 (upd H1 q (Ear.tO X.w q L)):=Ex.new nq;unfold Ear.vC;refine⟨q,L,rfl,aeC,λe he=>?_,nd,few,λys S z hy up ms nz=>?_⟩
    .exact(Rep.ex eq I1.kd (IK (g:=g) (hL e he))).dp (n:=12) (Dy 10 _)
    .have hS:S=tR R:=Ear.JQ up (Nr R) λr=>by rw[ms,mem,JX]
     subst hS;have I2:=I1.ex eq;exact h1 (.ref z) _ ((e1.trans eq).trans (Ex.new nz)) (.lst (.inl ⟨aeC,I2.kd.fresh nz⟩) ((zP hy).ex (Ex.new nz) I2.kd))
   .exact aev h1
  .exact aev h1
 .exact aev h1
def Ru(it:IF)(tg:bH)(vs:List Nat)(tt:QT)(te:QF):QF:=λM Z=>(jY it tg vs tt te M Z).bind λds=>match intsOf ds with
 |some l=>Out.when (decide (l.length<=4000)) (.ok (.list ((Oj l).map PyData.int)))
 |none=>.bad
end
def wW(Z:Env):Bool:=Z.all λo=>match o with
 |some (.mut _)=>false
 |_=>true
theorem Dk{Z:Env}(h:wW Z=true){i:Nat}{xs:List Dat}:Z[i]?≠some (some (.mut xs)):=λz=>by
 have:=adG.mp h _ (adH z);cases this
theorem SInv.loc{K:adh}{aj:aq}{σ:L2.St}{H:Hp}{g:Gh}{Z:Env}{M:Mo}{D:Addr}{us us':List V}(I:SInv K aj σ H g Z M)(n:wW Z=true)(hD:H D=some (.lst us))(lo:g.Lo D):SInv K aj σ (upd H D (.lst us')) g Z M where
 kd:=I.kd.upd aeu
 wok:=I.wok.loc I.kd hD lo
 len:=I.len
 dat:=λi d h=>by
  obtain⟨v,h1,h2⟩:=I.dat i d h;exact⟨v,h1,Rh I.kd hD lo h2⟩
 own:=λi xs h=>absurd h (Dk n)
 sep:=λi j xs ys l ne h1=>absurd h1 (Dk n)
def cR(tg:bH)(tt:QT)(it1:IF)(tg1:bH)(vs1:List Nat)(tt1:QT)(te:QF)(M:Mo)(Z:Env):List Dat->Out (List Dat)
 |[]=>.ok []
 |d::ds=>match tg d Z with
  |none=>.bad
  |some Z1=>(ni (tt M Z1)).bind λb=>if b=true then Out.when (wW Z1) ((ni (it1 M Z1)).bind λes=>(aV tg1 tt1 te M (aO Z1 vs1) es).bind λr1=>(cR tg tt it1 tg1 vs1 tt1 te M Z ds).bind λr=>.ok (r1++r)) else cR tg tt it1 tg1 vs1 tt1 te M Z ds
def Fj(it:IF)(tg:bH)(vs:List Nat)(tt:QT)(it1:IF)(tg1:bH)(vs1:List Nat)(tt1:QT)(te:QF):IF:=λM Z=>(it M Z).bind λds=>(cR tg tt it1 tg1 vs1 tt1 te M (aO Z vs) ds).bind λr=>Out.when (decide (r.length<=50000)) (.ok r)
def rG(it:IF)(tg:bH)(vs:List Nat)(tt:QT)(it1:IF)(tg1:bH)(vs1:List Nat)(tt1:QT)(te:QF):QF:=λM Z=>(Fj it tg vs tt it1 tg1 vs1 tt1 te M Z).bind λr=>.ok (.list r)
theorem jU{tg tg1:bH}{tt tt1:QT}{te:QF}{it1:IF}{vs1:List Nat}{M:Mo}{Z:Env}:∀{ds:List Dat} {x:aY},cR tg tt it1 tg1 vs1 tt1 te M Z ds≠.exc x
 |[],_,h=>nomatch h
 |d::ds,x,h=>by
  rw[cR]at h;split at h
  .cases h
  .next Z1 e=>
   cases h1:tt M Z1 with
   |bad=>rw[h1]at h;cases h
   |exc y=>rw[h1]at h;cases h
   |ok b=>
    rw[h1]at h;cases b with
    |false=>exact jU (ds:=ds) (x:=x) h
    |true=>
     cases hn:wW Z1 with
     |false=>rw[hn]at h;cases h
     |true=>
      rw[hn]at h;cases h2:it1 M Z1 with
      |bad=>rw[h2]at h;cases h
      |exc y=>rw[h2]at h;cases h
      |ok es=>
       rw[h2]at h;have h:((aV tg1 tt1 te M (aO Z1 vs1) es).bind λr1=>(cR tg tt it1 tg1 vs1 tt1 te M Z ds).bind λr=>Out.ok (r1++r))=.exc x:=h;cases h3:aV tg1 tt1 te M (aO Z1 vs1) es with
       |bad=>rw[h3]at h;cases h
       |exc y=>exact absurd h3 ig
       |ok r1=>
        rw[h3]at h;have h:((cR tg tt it1 tg1 vs1 tt1 te M Z ds).bind λr=>Out.ok (r1++r))=.exc x:=h;cases h4:cR tg tt it1 tg1 vs1 tt1 te M Z ds with
        |bad=>rw[h4]at h;cases h
        |exc y=>exact absurd h4 jU
        |ok r=>rw[h4]at h;cases h
section
variable{K:adh}{aj:aq}{W:WX}
theorem RP{it it1:IF}{tg tg1:bH}{js vs js1 vs1:List Nat}{tt tt1:QT}{te:QF}(hj:∀j∈js,j∈vs)(hj1:∀j∈js1,j∈vs1)(σ:L2.St)(H:Hp)(Q:VK)(h:FZ K aj W (Fj it tg vs tt it1 tg1 vs1 tt1 te) σ H Q) :
  tLc2 (tI K aj W false it) (j6 K aj js tg) (cW K aj WF tt) (tI K aj WF true it1) (j6 K aj js1 tg1) (cW K aj WF tt1) (tQ K aj WF te) vs vs1 σ H Q:=by
 obtain⟨g,Z,M,I,h⟩:=h;refine⟨g,Z,M,I,h.bnd.mono (λds hk J C H1 e1 w c _ D nD=>?_) λ_ z=>z⟩;obtain⟨total,htot,hlen,hQ⟩:∃total,cR tg tt it1 tg1 vs1 tt1 te M (aO Z vs) ds=.ok total/\total.length<=50000/\∀l us H',H l=none->Ex H H'->H' l=some (.lst us)->ao K (g.add l) H' us total->Q (.ref l) H':=by
  cases hc:cR tg tt it1 tg1 vs1 tt1 te M (aO Z vs) ds with
  |bad=>rw[hc]at hk;exact aev hk
  |exc x=>exact absurd hc jU
  |ok total=>
   rw[hc]at hk;obtain⟨hz,hk⟩:=Out.sat.gG hk;exact⟨total,rfl,aex hz,hk⟩
 have I1:=(I.ex e1).wipe vs;have kD:∀{Ha:Hp} {us:List V},Ex H1 Ha->Ha D=some (.lst us)->SInv K aj (L2.wipe σ vs) Ha (g.add D) (aO Z vs) M:=λea hu=>I1.add nD ea hu aeu;have lD:(g.add D).Lo D:=.inr rfl
 let Pv:Nat->Hp->Prop:=λi Ha=>Ex H1 Ha/\i<=ds.length/\∃us ys,Ha D=some (.lst us)/\ao K (g.add D) Ha us ys/\(cR tg tt it1 tg1 vs1 tt1 te M (aO Z vs) (ds.drop i)).sat (λr=>total=ys++r) λ_=>False
 refine⟨λi m Ha=>m=ds.length-i/\Pv i Ha,⟨ds.length,rfl,Ex.new nD,adR _,[],[],aeC,.nil,?_⟩,?_⟩
 .rw[aer,htot];rfl
 .rintro i m Ha ⟨rfl,ea,hi,us,ys,hu,hU,hs⟩;have Ia:=kD ea hu;have Ca:=w.add g (g.add D) H1 Ha (I.kd.ex e1) c (Gh.oY nD ea) ea;by_cases hlt:i<ds.length
  .refine .inr ⟨w.go _ i Ha Ca hlt,Pv (i+1),λH' p=>⟨ds.length-(i+1),by omega,rfl,p⟩,λx H' y=>?_⟩;have hd:ds[i]?=some ds[i]:=adq hlt;obtain⟨e2,rx⟩:=w.yld _ i Ha x H' _ Ia.kd Ca hd y;have I2:=Ia.ex e2;rw[adY hlt,cR]at hs;split at hs
   .exact aev hs
   .next Z1 he=>
    refine⟨g.add D,_,M,_,Z1,I2,rx,he,λws I3=>⟨lQ js ws _ vs hj |>.trans (nQ σ vs),?_⟩⟩;refine cW.go I3 (mU hs.bnd) λb H3 hb e3=>?_;have I4:=I3.ex e3;have hu3:=e3 _ _ (e2 _ _ hu);have hU3:=(hU.ex e2 Ia.kd).ex e3 I2.kd;cases b with
    |false=>
     have hb:(cR tg tt it1 tg1 vs1 tt1 te M (aO Z vs) (ds.drop (i+1))).sat (λr=>total=ys++r) λ_=>False:=hb;exact⟨(ea.trans e2).trans e3,hlt,us,ys,hu3,hU3,hb⟩
    |true=>
     have hb:(Out.when (wW Z1) ((ni (it1 M Z1)).bind λes=>(aV tg1 tt1 te M (aO Z1 vs1) es).bind λr1=>(cR tg tt it1 tg1 vs1 tt1 te M (aO Z vs) (ds.drop (i+1))).bind λr=>Out.ok (r1++r))).sat (λr=>total=ys++r) λ_=>False:=hb;obtain⟨nm,hb⟩:=hb.gG;refine⟨g.add D,Z1,M,I4,(mU (E':=gQ K aj WF (g.add D) H3 _) hb.bnd).mono (λes hk1 J1 C1 H4 e4 w1 c1 fm=>?_) λ_ z=>z⟩;have fm:=fm rfl
     -- all that is added by this walk
     obtain⟨r1,r2,hr1,hr2,ht⟩:∃r1 r2,aV tg1 tt1 te M (aO Z1 vs1) es=.ok r1/\cR tg tt it1 tg1 vs1 tt1 te M (aO Z vs) (ds.drop (i+1))=.ok r2/\total=ys++(r1++r2):=by
      cases q1:aV tg1 tt1 te M (aO Z1 vs1) es with
      |bad=>rw[q1]at hk1;exact aev hk1
      |exc y=>exact absurd q1 ig
      |ok r1=>
       rw[q1]at hk1;have hk1:((cR tg tt it1 tg1 vs1 tt1 te M (aO Z vs) (ds.drop (i+1))).bind λr=>Out.ok (r1++r)).sat (λr=>total=ys++r) λ_=>False:=hk1;cases q2:cR tg tt it1 tg1 vs1 tt1 te M (aO Z vs) (ds.drop (i+1)) with
       |bad=>rw[q2]at hk1;exact aev hk1
       |exc y=>exact absurd q2 jU
       |ok r2=>
        rw[q2]at hk1;exact⟨r1,r2,rfl,rfl,hk1⟩
     let P1:Nat->Hp->Prop:=λj Hb=>Ex H1 Hb/\SInv K aj (sets (L2.wipe σ vs) js ws) Hb (g.add D) Z1 M/\C1 (g.add D) Hb/\j<=es.length/\∃us' zs,Hb D=some (.lst us')/\ao K (g.add D) Hb us' (ys++zs)/\(aV tg1 tt1 te M (aO Z1 vs1) (es.drop j)).sat (λr=>r1=zs++r) λ_=>False
     refine⟨λj m Hb=>m=es.length-j/\P1 j Hb,⟨es.length,rfl,((ea.trans e2).trans e3).trans e4,I4.ex e4,c1,adR _,us,[],e4 _ _ hu3,by rw[adV];exact hU3.ex e4 I4.kd,?_⟩,?_⟩
     .rw[aer,hr1];rfl
     .rintro j m Hb ⟨rfl,fb,Ib,Cb,hjl,us',zs,hub,hUb,hsb⟩;by_cases hlj:j<es.length
      .refine .inr ⟨w1.go _ j Hb Cb hlj,P1 (j+1),λH' p=>⟨es.length-(j+1),by omega,rfl,p⟩,λx H' y=>?_⟩;have hdj:es[j]?=some es[j]:=adq hlj;obtain⟨f2,rx⟩:=w1.yld _ j Hb x H' _ Ib.kd Cb hdj y;have J2:=(Ib.ex f2).wipe vs1;rw[adY hlj,aV]at hsb;split at hsb
       .exact aev hsb
       .next Z2 he1=>
        refine⟨g.add D,_,M,_,Z2,J2,rx,he1,λws1 J3=>⟨lQ js1 ws1 _ vs1 hj1 |>.trans (nQ _ vs1),?_⟩⟩;refine cW.go J3 (mU hsb.bnd) λb H6 hb6 e6=>?_;have f26:=f2.trans e6;have hu6:=f26 _ _ hub;have hU6:=hUb.ex f26 Ib.kd;cases b with
        |false=>
         have hb6:(aV tg1 tt1 te M (aO Z1 vs1) (es.drop (j+1))).sat (λr=>r1=zs++r) λ_=>False:=hb6;exact⟨fb.trans f26,Ib.ex f26,w1.ex _ _ _ Ib.kd Cb f26,hlj,us',zs,hu6,hU6,hb6⟩
        |true=>
         have hb6:((ni (te M Z2)).bind λy=>(aV tg1 tt1 te M (aO Z1 vs1) (es.drop (j+1))).bind λr=>Out.ok (y::r)).sat (λr=>r1=zs++r) λ_=>False:=hb6;refine tQ.go (J3.ex e6) (mU hb6.bnd) λy v H7 hyv e7 ry=>?_;have f27:=f26.trans e7;have Ib7:=Ib.ex f27;have hu7:=f27 _ _ hub;have hU7:=hUb.ex f27 Ib.kd;have hyv:=hyv.bnd;have hr:∃r,aV tg1 tt1 te M (aO Z1 vs1) (es.drop (j+1))=.ok r/\r1=zs++y::r:=by
          cases q1:aV tg1 tt1 te M (aO Z1 vs1) (es.drop (j+1)) with
          |bad=>rw[q1]at hyv;exact aev hyv
          |exc y=>exact absurd q1 ig
          |ok r=>
           rw[q1]at hyv;exact⟨r,rfl,hyv⟩
         obtain⟨r,hr,hr1'⟩:=hr;have hll:us'.length<50000:=by
          rw[hUb.length];rw[ht,hr1']at hlen;simp at hlen |-
          omega
         refine⟨us',hu7,sz_lt (Nat.lt_trans hll (by decide)),Ex.mut (fb.trans f27) nD,Ib7.loc nm hu7 lD,fm true _ _ _ _ Ib7.kd (w1.ex _ _ _ Ib.kd Cb f27) (Gr.upd Ib7.kd hu7 (.inr lD)),hlj,us'++[v],zs++[y],aeC,?_,?_⟩
         .rw[<-List.append_assoc];exact BK Ib7.kd hu7 lD (hU7.append (.cons ry .nil))
         .rw[hr];show r1=_;rw[hr1'];simp
      .have e:j=es.length:=by omega
       refine .inl ⟨w1.stop _ j Hb Cb e,?_⟩;rw[e,ad3]at hsb;have hsb:r1=zs++[]:=hsb;rw[adV]at hsb;subst hsb;refine⟨fb,hlt,us',ys++r1,hub,hUb,?_⟩;rw[hr2];show total=_;rw[ht,List.append_assoc]
  .have e:i=ds.length:=by omega
   refine .inl ⟨w.stop _ i Ha Ca e,?_⟩;rw[e,ad3]at hs;have hs:total=ys++[]:=hs;rw[adV]at hs;subst hs;exact hQ D us Ha (mY e1 D nD) (e1.trans ea) hu hU
theorem JT{it it1:IF}{tg tg1:bH}{js vs js1 vs1:List Nat}{tt tt1:QT}{te:QF}(hj:∀j∈js,j∈vs)(hj1:∀j∈js1,j∈vs1)(σ:L2.St)(H:Hp)(Q:VK)(h:tQ K aj W (rG it tg vs tt it1 tg1 vs1 tt1 te) σ H Q) :
  tLc2 (tI K aj W false it) (j6 K aj js tg) (cW K aj WF tt) (tI K aj WF true it1) (j6 K aj js1 tg1) (cW K aj WF tt1) (tQ K aj WF te) vs vs1 σ H Q:=by
 obtain⟨g,Z,M,I,h⟩:=h;refine RP hj hj1 σ H Q ⟨g,Z,M,I,h.bnd.mono (λxs hk l us H' nl e hl r=>?_) λ_ z=>z⟩;refine hk (.ref l) H' e (.lst (.inl ⟨hl,λz=>?_⟩) (ao.less (g:=g.add l) (g':=g) rfl (λa z=>?_) r))
 .exact I.kd.fresh nl z
 .rcases z with z|z|z
  .exact .inl z
  .exact .inr (.inl z)
  .exact .inr (.inr (.inl z))
end
section
variable{X:Cx}{aj:aq}{W:WX}{q:Bool}{elt tg iter tg1 iter1:Expr}{ifs ifs1:List Expr}{scope:Scope}{own:List (Str×Nat)}{it it1:IF}{tgf tgf1:bH}{js js1 vs1:List Nat}{tt tt1:QT}{te:QF}{pos cpos:Pos}
theorem Ua(hc:X.calm=true)(hN:X.N.Nodup)(hi:QI aj X W false tg iter it)(ok:blkC X.N X.env.scope scope own=true)(hv:∀i∈vs1,i∈own.map (·.2))(hj:∀j∈js,j∈own.map (·.2))(hj1:∀j∈js1,j∈vs1)
  (hg:∀(s:Shared) (H:Hp) (C:Addr) (cl:List (Str×Addr)) (fp:List Addr),QG aj (X.blk s H scope (compEnvC scope cl C X.env) fp) tg js tgf)
  (ht:∀(s:Shared) (H:Hp) (C:Addr) (cl:List (Str×Addr)) (fp:List Addr),PTs (X.blk s H scope (compEnvC scope cl C X.env) fp) ifs (cW X.K aj WF tt))
  (hi1:∀(s:Shared) (H:Hp) (C:Addr) (cl:List (Str×Addr)) (fp:List Addr),QI aj (X.blk s H scope (compEnvC scope cl C X.env) fp) WF true tg1 iter1 it1)
  (hg1:∀(s:Shared) (H:Hp) (C:Addr) (cl:List (Str×Addr)) (fp:List Addr),QG aj (X.blk s H scope (compEnvC scope cl C X.env) fp) tg1 js1 tgf1)
  (ht1:∀(s:Shared) (H:Hp) (C:Addr) (cl:List (Str×Addr)) (fp:List Addr),PTs (X.blk s H scope (compEnvC scope cl C X.env) fp) ifs1 (cW X.K aj WF tt1))
  (he:∀(s:Shared) (H:Hp) (C:Addr) (cl:List (Str×Addr)) (fp:List Addr),QE aj (X.blk s H scope (compEnvC scope cl C X.env) fp) WF elt te) (hs:∀x,foldedSetIterable iter X.env x=pure x) (hs1:∀env x,foldedSetIterable iter1 env x=pure x) :
  QE aj X W (.ListComp elt [⟨tg,iter,ifs,0⟩,⟨tg1,iter1,ifs1,0⟩] scope pos) (rG it tgf (own.map (·.2)) tt it1 tgf1 vs1 tt1 te):=
 PE.weak (pe_lc2 (g:=j6 X.K aj js tgf) (tt:=cW X.K aj WF tt) (wi1:=tI X.K aj WF true it1) (g1:=j6 X.K aj js1 tgf1) (tt1:=cW X.K aj WF tt1) (te:=tQ X.K aj WF te) hc hN hi (blkOk_by ok) hv (λs H C cl fp=>hg s H C cl fp) ht (λs H C cl fp=>hi1 s H C cl fp) (λs H C cl fp=>hg1 s H C cl fp) ht1 (λs H C cl fp=>he s H C cl fp) hs hs1) λσ H Q h=>JT hj hj1 σ H Q h
theorem Qe{j:Nat}{y:Str}{py:Pos}(hc:X.calm=true)(hN:X.N.Nodup)(hy:X.N[j]?=some y)(hyl:X.env.scope.names.lookup y=some .local)(hsw:swapsWith (.ListComp elt [⟨tg,iter,ifs,0⟩,⟨tg1,iter1,ifs1,0⟩] scope cpos) (some (.Name y py)) pos.line X.env=pure true)
  (hi:QI aj X W false tg iter it) (ok:blkC X.N X.env.scope scope own=true) (hv:∀i∈vs1,i∈own.map (·.2)) (hj:∀j∈js,j∈own.map (·.2)) (hj1:∀j∈js1,j∈vs1)
  (hg:∀(s:Shared) (H:Hp) (C:Addr) (cl:List (Str×Addr)) (fp:List Addr),QG aj (X.blk s H scope (compEnvC scope cl C X.env) fp) tg js tgf)
  (ht:∀(s:Shared) (H:Hp) (C:Addr) (cl:List (Str×Addr)) (fp:List Addr),PTs (X.blk s H scope (compEnvC scope cl C X.env) fp) ifs (cW X.K aj WF tt))
  (hi1:∀(s:Shared) (H:Hp) (C:Addr) (cl:List (Str×Addr)) (fp:List Addr),QI aj (X.blk s H scope (compEnvC scope cl C X.env) fp) WF true tg1 iter1 it1)
  (hg1:∀(s:Shared) (H:Hp) (C:Addr) (cl:List (Str×Addr)) (fp:List Addr),QG aj (X.blk s H scope (compEnvC scope cl C X.env) fp) tg1 js1 tgf1)
  (ht1:∀(s:Shared) (H:Hp) (C:Addr) (cl:List (Str×Addr)) (fp:List Addr),PTs (X.blk s H scope (compEnvC scope cl C X.env) fp) ifs1 (cW X.K aj WF tt1))
  (he:∀(s:Shared) (H:Hp) (C:Addr) (cl:List (Str×Addr)) (fp:List Addr),QE aj (X.blk s H scope (compEnvC scope cl C X.env) fp) WF elt te) (hs:∀x,foldedSetIterable iter X.env x=pure x) (hs1:∀env x,foldedSetIterable iter1 env x=pure x) :
  SE aj X W q (.Assign [.Name y py] (.ListComp elt [⟨tg,iter,ifs,0⟩,⟨tg1,iter1,ifs1,0⟩] scope cpos) pos) (bJ (aD j) (gOf (rG it tgf (own.map (·.2)) tt it1 tgf1 vs1 tt1 te))):=by
 refine PS.weak (ps_setLc2 (g:=j6 X.K aj js tgf) (tt:=cW X.K aj WF tt) (wi1:=tI X.K aj WF true it1) (g1:=j6 X.K aj js1 tgf1) (tt1:=cW X.K aj WF tt1) (te:=tQ X.K aj WF te) hc hN hy hyl hsw hi (blkOk_by ok) hv (λs H C cl fp=>hg s H C cl fp) ht (λs H C cl fp=>hi1 s H C cl fp) (λs H C cl fp=>hg1 s H C cl fp) ht1 (λs H C cl fp=>he s H C cl fp) hs hs1) λD σ H ⟨g,Z,M,I,z⟩=>?_;refine JT hj hj1 σ H _ ⟨g,Z,M,I,(Out.bO (aU (σ:=σ) z)).mono (λd kk v H' e r=>?_) λx kk H' c dd e r=>kk H' g c dd (Gr.ex e) (I.ex e) r⟩;exact kk _ H' g (Gr.ex e) ((I.ex e).set r)
end
def CN(neg:Bool)(kvs:List (Str×Dat))(k:QF):QF:=λM Z=>(k M Z).bind λd=>match d with
 |.str x=>.ok (.bool (neg ^^ (kvs.lookup x).isSome))
 |_=>.bad
def LK(kvs:List (Str×Dat))(k:QF):QF:=λM Z=>(k M Z).bind λd=>match d with
 |.str x=>match kvs.lookup x with
  |some y=>.ok y
  |none=>.bad
 |_=>.bad
section
variable{X:Cx}{aj:aq}{W:WX}{a:Expr}{fa:QF}{x:Str}{p pos:Pos}{kvs:List (Str×Dat)}{k:Nat}
theorem KN{neg:Bool}{d:Addr}(D:Lg X.w X.K d kvs)(σ:L2.St)(H:Hp)(Q:VK)(h:tQ X.K aj W (CN neg kvs fa) σ H Q) :
  tOp (λx y H Q=>∃(z:Str) (r:Option Value),x=.str z/\y=.ref d/\PySem.W.nsIn X.K d z=some r/\Q (.bl (neg ^^ r.isSome)) H) (tW X.K aj W fa) (tC (.ref d)) σ H Q:=by
 obtain⟨g,Z,M,I,h⟩:=h;refine tW.go I h.bnd λe v H1 h1 e1 r1=>?_;split at h1
 .next z=>
  cases cU r1;obtain⟨es,n,_,_,hl⟩:=D;have hz:=hl z;cases hk:kvs.lookup z with
  |none=>
   rw[hk]at hz h1;exact⟨z,none,rfl,rfl,hz,h1 _ H1 e1 (.bl _)⟩
  |some d'=>
   rw[hk]at hz h1;obtain⟨v,u,h2,_⟩:=hz;exact⟨z,some u,rfl,rfl,h2,h1 _ H1 e1 (.bl _)⟩
 .exact aev h1
theorem Yt{neg:Bool}{op:CmpOp}{d:Addr}(_:Room k X.A)(hn:(op=.In/\neg=false)\/(op=.NotIn/\neg=true))(D:Lg X.w X.K d kvs):OpR X (compareOp op) (λx y H Q=>∃(z:Str) (r:Option Value),x=.str z/\y=.ref d/\PySem.W.nsIn X.K d z=some r/\Q (.bl (neg ^^ r.isSome)) H):=by
 obtain⟨es,n,D,_⟩:=D;rcases hn with⟨rfl,rfl⟩|⟨rfl,rfl⟩
 .have:=op_in_kd (X:=X) D;simpa only[Bool.false_xor] using this
 .have:=op_notIn_kd (X:=X) D;simpa only[Bool.true_xor] using this
theorem SN{neg:Bool}{op:CmpOp}(hr:Room k X.A)(hn:(op=.In/\neg=false)\/(op=.NotIn/\neg=true))(g:bV X.prog X.w X.K X.mg X.base aj k x (.dic kvs))(hg:Gl X x)(hd:(x==("__debug__" : Str))=false)(ha:QW aj X W a fa):QE aj X W (.Compare a [op] [.Name x p] pos) (CN neg kvs fa)/\iT aj X W (.Compare a [op] [.Name x p] pos) (cQ (CN neg kvs fa)):=by obtain⟨d,hm,D⟩:=g;have hb:PE X (.Name x p) (tC (.ref d)):=pe_glob hg hm rfl hd;refine⟨PE.weak (pe_cmpR (Yt hr hn D) ha hb (by cases op<;>rfl)) λσ H Q h=>KN D σ H Q h,PT.weak (pt_cmpR (Yt hr hn D) ha hb (by cases op<;>rfl)) λσ H Q ⟨g,Z,M,I,h⟩=>?_⟩;refine KN D σ H _ ⟨g,Z,M,I,h.bnd.mono (λd h1 v H' e' r'=>?_) λ_ z=>z⟩;obtain⟨k,h2,h3⟩:=nY r'.weak h1;exact⟨k,h2,h3 H' e'⟩
theorem Ss(g:bV X.prog X.w X.K X.mg X.base aj k x (.dic kvs))(hg:Gl X x)(hd:(x==("__debug__" : Str))=false)(ha:QW aj X W a fa)(hp:PlainIx a):QE aj X W (.Subscript (.Name x p) a pos) (LK kvs fa):=by
 obtain⟨d,hm,es,n,D,_,hl⟩:=g;have hb:PE X (.Name x p) (tC (.ref d)):=pe_glob hg hm rfl hd;refine PE.weak (pe_ix ix_kdict hb ha hp) λσ H Q ⟨g,Z,M,I,h⟩=>?_;refine tW.go I h.bnd λe v H1 h1 e1 r1=>?_;split at h1
 .next z=>
  cases cU r1;have hz:=hl z;split at h1
  .next y hk=>
   rw[hk]at hz;obtain⟨v,u,h2,h3,h4⟩:=hz;exact⟨d,z,v,rfl,rfl,⟨es,n,u,D.at_,D.lit,h2,h3⟩,h1 v H1 e1 (h4 g H1)⟩
  .exact aev h1
 .exact aev h1
end
end Rf
namespace L2
open PySem PySem.Spec PyProof.Rows
end L2
namespace Rf
open PySem PySem.Spec PyProof.Rows L2 Evl
def yD:Inst->Option (List Dat)
 |⟨c,[(f,.lst 0 xs)]⟩=>if (c==""&&f=="")=true then some xs else none
 |_=>none
theorem Jb{i:Inst}{xs:List Dat}(h:yD i=some xs):i=lin xs:=by
 unfold yD at h;split at h
 .split at h
  .next hb=>
   rw[adi]at hb;cases h;rw[aeD hb.1,aeD hb.2]
  .cases h
 .cases h
def rO(M:Mo):Dat->Option (Nat×List Dat)
 |.dict [(.none,.int (.ofNat h))]=>((M[h]?).bind yD).bind λxs=>some (h,xs)
 |_=>none
theorem Iz{M:Mo}{d:Dat}{n:Nat}{xs:List Dat}(h:rO M d=some (n,xs)):d=obj n/\M[n]?=some (lin xs):=by
 unfold rO at h;split at h
 .obtain⟨ys,h1,h2⟩:=adg.mp h;cases h2;obtain⟨i,h3,h4⟩:=adg.mp h1;exact⟨rfl,by rw[h3,Jb h4]⟩
 .cases h
section
variable{K:adh}{aj:aq}{g:Gh}{H H':Hp}{σ:L2.St}{Z:Env}{M:Mo}
theorem aR.oth{h:Nat}{f:Str}{v:V}(r:Gr false g g H H')(k:Kd g H)(o:∀b p,g.ow b=some p->H' b=H b):∀{fl:bM},aR K aj g H h f v fl->aR K aj g H' h f v fl
 |.dat _,z=>Rep.gr r k z
 |.lst _ _,⟨l,us,h1,h2,h3,h4,h5⟩=>⟨l,us,h1,(o l _ h3).trans h2,h3,h4.gr r k,h5⟩
 |.dic _ _,⟨l,h1,h2,h3⟩=>⟨l,h1,h2,h3.chg r k (o l _ h2)⟩
theorem aK.oth{h:Nat}(r:Gr false g g H H')(k:Kd g H)(o:∀b p,g.ow b=some p->H' b=H b):∀{fs:List (Str×V)} {gs:List (Str×bM)},aK K aj g H h fs gs->aK K aj g H' h fs gs
 |_,_,.nil=>.nil
 |_,_,.cons z t=>.cons (z.oth r k o) (aK.oth r k o t)
theorem aX.lin{h:Nat}{a:Addr}{i:Inst}{us:List V}{xs:List Dat}(k:Kd g H)(w:aX K aj g H M)(ha:g.tbl[h]?=some a)(hi:M[h]?=some i)(hc:i.cls="")(ho:g.ow a=none)(r:Gr false g g H H')(e1:H' a=some (.lst us))(e2:∀b,b≠a->H' b=H b)(rs:ao K g H' us xs):aX K aj g H' (M.set h (lin xs)):=by
 have hl:=(adk.mp hi).1;have at':∀{h':Nat} {i':Inst},(M.set h (Rf.lin xs))[h']?=some i'->(h'=h/\i'=Rf.lin xs)\/(h'≠h/\M[h']?=some i'):=λ{h' i'} z=>by
  by_cases y:h'=h
  .subst y;rw[adu hl]at z;exact .inl ⟨rfl,(adx z).symm⟩
  .rw[adl (Ne.symm y)]at z;exact .inr ⟨y,z⟩
 have na:∀{h':Nat} {a':Addr},h'≠h->g.tbl[h']?=some a'->a'≠a:=λ{h' a'} n z y=>by
  subst y;exact n (w.inj _ _ _ z ha)
 refine⟨by rw[adz];exact w.len,w.inj,λh' a' i' ha' hi' hc'=>?_,λh' i' hi'=>?_,λh' i' hi' hc'=>?_,λh' a' i' ha' hi' hc'=>?_,λh' a' ys ha' hi'=>?_,w.nc⟩
 .rcases at' hi' with⟨_,rfl⟩|⟨n,z⟩
  .exact absurd rfl hc'
  .obtain⟨C,dx,fs,c1,c2,c3⟩:=w.ins h' a' i' ha' z hc';exact⟨C,dx,fs,c1,(e2 a' (na n ha')).trans c2,c3.oth r k λb p hb=>e2 b λy=>by subst y;rw[ho]at hb;cases hb⟩
 .rcases at' hi' with⟨_,rfl⟩|⟨n,z⟩
  .show([""]:List Str).Nodup
   simp
  .exact w.nd h' i' z
 .rcases at' hi' with⟨_,rfl⟩|⟨n,z⟩
  .exact absurd rfl hc'
  .exact w.fd h' i' z hc'
 .rcases at' hi' with⟨_,rfl⟩|⟨n,z⟩
  .exact absurd rfl hc'
  .exact w.tw h' a' i' ha' z hc'
 .rcases at' hi' with⟨rfl,z⟩|⟨n,z⟩
  .rw[ha]at ha';cases ha';cases z;exact⟨us,e1,ho,rs⟩
  .obtain⟨vs,y1,y2,y3⟩:=w.li h' a' ys ha' z;exact⟨vs,(e2 a' (na n ha')).trans y1,y2,y3.gr r k⟩
mutual
theorem Rep.ext{g':Gh}(e:∃m,g'.tbl=g.tbl++m):∀{v:V} {d:Dat},lf d=true->Rep K g H v d->Rep K g' H v d
 |_,_,_,.non=>.non
 |_,_,_,.bl b=>.bl b
 |_,_,_,.int i=>.int i
 |_,_,_,.str x=>.str x
 |_,_,f,.tup h t=>.tup h (ao.ext e (by rw[lf]at f;exact f) t)
 |_,_,f,.lst h t=>by rw[lf]at f;cases f
 |_,_,_,.obj h=>.obj (by
  obtain⟨m,em⟩:=e;rw[em,adD (adk.mp h).1];exact h)
theorem ao.ext{g':Gh}(e:∃m,g'.tbl=g.tbl++m):∀{vs:List V} {ds:List Dat},dw ds=true->ao K g H vs ds->ao K g' H vs ds
 |_,_,_,.nil=>.nil
 |_,_,f,.cons h t=>.cons (Rep.ext e (by rw[dw,adi]at f;exact f.1) h) (ao.ext e (by rw[dw,adi]at f;exact f.2) t)
end
theorem SInv.Zx{n:Nat}{a:Addr}{us us':List V}{xs ys:List Dat}(I:SInv K aj σ H g Z M)(ha:g.tbl[n]?=some a)(hM:M[n]?=some (lin xs))(hl:H a=some (.lst us))(ho:g.ow a=none)(r:ao K g H us' ys):SInv K aj σ (upd H a (.lst us')) g Z (M.set n (lin ys))/\Gr false g g H (upd H a (.lst us')):=by
 have hw:g.W a:=Om ha;have gr:Gr false g g H (upd H a (.lst us')):=Gr.upd I.kd hl (.inl ⟨hw,rfl⟩);refine⟨⟨I.kd.upd aeu,I.wok.lin I.kd ha hM rfl ho gr aeC (λb n=>upd_ne n) (r.gr gr I.kd),I.len,λi d h=>?_,λi zs h=>?_,I.sep⟩,gr⟩
 .obtain⟨v,e1,e2⟩:=I.dat i d h;exact⟨v,e1,e2.gr gr I.kd⟩
 .obtain⟨l',ws,e1,e2,e3,e4⟩:=I.own i zs h;exact⟨l',ws,e1,by rw[upd_ne λz=>I.kd.lo _ e3 (by rw[z];exact hw)];exact e2,e3,e4.gr gr I.kd⟩
end
def cP(i:Nat):QF:=λM Z=>match Z[i]? with
 |some (some (.dat d))=>(match rO M d with
  |some (_,xs)=>.ok (.list xs)
  |none=>.bad)
 |_=>.bad
def vD(j:Nat)(f:IF):SF:=λM Z=>((f M Z).at M).then Z λxs _=>if dw xs=true then .next (Z.set j (some (.dat (obj M.length)))) (M++[lin xs]) else .bad
def uf(j:Nat)(fi f:QF):SF:=λM Z=>match Z[j]? with
 |some (some (.dat o))=>(match rO M o with
  |some (h,xs)=>((f M Z).at M).then Z λd _=>((fi M Z).at M).then Z λi _=>match i with
   |.int k=>match ixN xs.length k with
    |some n=>.next Z (M.set h (lin (xs.set n d)))
    |none=>.bad
   |_=>.bad
  |none=>.bad)
 |_=>.bad
section
variable{X:Cx}{aj:aq}{W:WX}{e:Expr}{pos:Pos}
theorem Ku{g:Gh}{H:Hp}{σ:L2.St}{Z:Env}{M:Mo}{i:Nat}{d:Dat}{n:Nat}{xs:List Dat}(I:SInv X.K aj σ H g Z M)(e:Z[i]?=some (some (.dat d)))(h:rO M d=some (n,xs)):∃a us,σ[i]?=some (some (.ref a))/\d=obj n/\g.tbl[n]?=some a/\M[n]?=some (lin xs)/\H a=some (.lst us)/\g.ow a=none/\ao X.K g H us xs:=by obtain⟨v,h1,h2⟩:=I.dat i d e;obtain⟨rfl,e3⟩:=Iz h;obtain⟨a,rfl,ha⟩:=pN h2.weak;obtain⟨us,g1,g2,g3⟩:=I.wok.li n a xs ha e3;exact⟨a,us,h1,rfl,ha,e3,g1,g2,g3⟩
theorem Qu{i:Nat}{x:Str}(hN:X.N[i]?=some x)(hv:Vis X.env.scope x)(hd:(x==("__debug__" : Str))=false)(hcd:(x==("__classdict__" : Str))=false):QW aj X W (.Name x pos) (cP i):=
 PE.weak (pe_var hN hv hd hcd) λσ H Q ⟨g,Z,M,I,h⟩=>by
  unfold cP at h;split at h
  .next d e=>
   split at h
   .next n xs e2=>
    obtain⟨a,us,h1,_,_,_,h2,_,h3⟩:=Ku I e e2;exact⟨.ref a,h1,h _ H (Ex.refl H) ⟨a,us,rfl,sq_of h2,h3⟩⟩
   .exact aev h
  .exact aev h
theorem Kg{j:Nat}{f:IF}(D:Ends)(σ:L2.St)(H:Hp)(h:tS X.K aj W false (vD j f) D σ H):tAsg (FZ X.K aj W f) (gName j) D σ H:=by
 obtain⟨g,Z,M,I,z⟩:=h;refine⟨g,Z,M,I,?_⟩;unfold vD at z;cases hf:f M Z with
 |exc x=>rw[hf]at z;exact λH' c dd e r=>z σ H' g c dd (Gr.ex e) (I.ex e) r.fr
 |bad=>rw[hf]at z;exact aev z
 |ok xs=>
  rw[hf]at z;intro l us H' n e hl r;simp only[Out.Bc,aG.uN]at z;split at z
  .next hx=>
   have gr:Gr false g (g.push l) H H':=pH e n;have kd:=xZ (x:=l) I.kd e n hl aeu;have w0:=vK (c:="") I.kd I.wok e n (.inl rfl)
   have hb:(g.push l).tbl[M.length]?=some l:=by
    show(g.tbl++[l])[M.length]?=_
    rw[<-I.wok.len,adC (adE _),Nat.sub_self];rfl
   have ho:(g.push l).ow l=none:=by
    show g.ow l=none;cases hz:g.ow l with
    |none=>rfl
    |some p=>
     obtain⟨u,h2,_⟩:=I.kd.ob l (.inl (.inr (by rw[hz];exact λy=>nomatch y)));rw[n]at h2;cases h2
   have rs:ao X.K (g.push l) H' us xs:=ao.ext (g:=g.add l) ⟨[l],rfl⟩ hx r;have hm:(M++[(⟨"",[]⟩:Inst)])[M.length]?=some ⟨"",[]⟩:=by rw[adC (adE _),Nat.sub_self];rfl
   have w1:=w0.lin kd hb hm rfl ho Gr.refl hl (λ_ _=>rfl) rs;have em:(M++[(⟨"",[]⟩:Inst)]).set M.length (lin xs)=M++[lin xs]:=by rw[List.set_append_right _ _ (adE _),Nat.sub_self];rfl
   rw[em]at w1;exact z _ H' (g.push l) gr ((I.grow gr e rfl kd w1).set (.obj hb))
  .exact aev z
theorem Wz{j:Nat}{x:Str}{f:IF}{pos':Pos}(hN:X.N.Nodup)(hi:X.N[j]?=some x)(hx:Loc X.env.scope x)(hf:X.fn x=true\/X.env.scope.names.lookup x=some .local)(he:FE aj X W e f)(hs:swapsWith e (some (.Name x pos')) pos.line X.env=pure false):SE aj X W false (.Assign [.Name x pos'] e pos) (vD j f):=
 PS.weak (ps_set hN hi hx he hs hf) λD σ H h=>Kg D σ H h
theorem Ww{j:Nat}{y:Str}{py:Pos}{elt tg iter:Expr}{cpos:Pos}{scope:Scope}{own:List (Str×Nat)}{it:IF}{tgf:bH}{js:List Nat}{tt:QT}{te:QF}{ifs:List Expr}(hc:X.calm=true)(hN:X.N.Nodup)(hy:X.N[j]?=some y)(hyl:X.env.scope.names.lookup y=some .local)
  (hsw:swapsWith (.ListComp elt [⟨tg,iter,ifs,0⟩] scope cpos) (some (.Name y py)) pos.line X.env=pure true) (hi:QI aj X W false tg iter it) (ok:blkC X.N X.env.scope scope own=true) (hj:∀j∈js,j∈own.map (·.2))
  (hg:∀(s:Shared) (H:Hp) (C:Addr) (cl:List (Str×Addr)) (fp:List Addr),QG aj (X.blk s H scope (compEnvC scope cl C X.env) fp) tg js tgf)
  (ht:∀(s:Shared) (H:Hp) (C:Addr) (cl:List (Str×Addr)) (fp:List Addr),PTs (X.blk s H scope (compEnvC scope cl C X.env) fp) ifs (cW X.K aj WF tt))
  (he:∀(s:Shared) (H:Hp) (C:Addr) (cl:List (Str×Addr)) (fp:List Addr),QE aj (X.blk s H scope (compEnvC scope cl C X.env) fp) WF elt te) (hs:∀x,foldedSetIterable iter X.env x=pure x) :
  SE aj X W false (.Assign [.Name y py] (.ListComp elt [⟨tg,iter,ifs,0⟩] scope cpos) pos) (vD j (jY it tgf (own.map (·.2)) tt te)):=by
 refine PS.weak (ps_setLc (g:=j6 X.K aj js tgf) (tt:=cW X.K aj WF tt) (te:=tQ X.K aj WF te) hc hN hy hyl hsw hi (blkOk_by ok) (λs H C cl fp=>hg s H C cl fp) ht (λs H C cl fp=>he s H C cl fp) hs) λD σ H h=>?_;exact wO hj σ H _ (Kg D σ H h)
theorem Rm{j:Nat}{x:Str}{i:Expr}{f fi:QF}{p spos:Pos}(hN:X.N[j]?=some x)(hv:Vis X.env.scope x)(hd:(x==("__debug__" : Str))=false)(hcd:(x==("__classdict__" : Str))=false)(he:QE aj X W e f)(hi:QE aj X W i fi)
  (ha:∀v,assign (.Subscript (.Name x p) i spos) X.env v=(do
   let ov <-holding [v] (eval (.Name x p) X.env)
   let iv <-holding [v,ov] (eval i X.env)
   standAt spos
   holding [v,ov,iv] (setItem ov iv v)
   release [v,ov,iv] []))
  (hs:swapsWithSole [.Subscript (.Name x p) i spos] e pos.line X.env=pure false) (h1:(assignEach [.Subscript (.Name x p) i spos] X.env).map (·.2)=[assign (.Subscript (.Name x p) i spos) X.env]):SE aj X W false (.Assign [.Subscript (.Name x p) i spos] e pos) (uf j fi f):=by
 have h0:=pe_var (X:=X) (pos:=p) hN hv hd hcd;refine PS.weak (ps_asg he (pg_sub h0 hi set_list ha) hs (by with_unfolding_all rfl) h1) λD σ H ⟨g,Z,M,I,z⟩=>?_;unfold uf at z;split at z
 .next o hj=>
  split at z
  .next h xs hd=>
   refine⟨g,Z,M,I,?_⟩;cases hf:f M Z with
   |exc x=>rw[hf]at z;exact λH' c dd e r=>z σ H' g c dd (Gr.ex e) (I.ex e) r.fr
   |bad=>rw[hf]at z;exact aev z
   |ok d=>
    rw[hf]at z;intro v H1 e1 r1;have I1:=I.ex e1;obtain⟨a,us,f1,_,f2,f3,f4,f5,f6⟩:=Ku I1 hj hd;refine⟨.ref a,f1,⟨g,Z,M,I1,?_⟩⟩;cases hfi:fi M Z with
    |exc x=>
     simp only[Out.Bc,aG.uN,hfi,Out.Tt,aG.Ml]at z;exact λH' c dd e r=>z σ H' g c dd ((Gr.ex e1).trans (Gr.ex e)) (I1.ex e) r.fr
    |bad=>
     simp only[Out.Bc,aG.uN,hfi,Out.Va,aG.Nz]at z;exact aev z
    |ok k=>
     simp only[Out.Bc,aG.uN,hfi]at z;intro w H2 e2 r2;cases k with
     |int k=>
      simp only at z;split at z
      .next n hn=>
       have I2:=I1.ex e2;cases r2;have rs:ao X.K g H2 (us.set n v) (xs.set n d):=(f6.ex e2 I1.kd).set (r1.ex e2 I1.kd) n;obtain⟨J,gr⟩:=I2.Zx f2 f3 (e2 _ _ f4) f5 rs;refine⟨a,us,k,n,rfl,rfl,e2 _ _ f4,by rw[f6.length];exact hn,?_⟩;exact z _ _ g (((Gr.ex e1).trans (Gr.ex e2)).trans gr) J
      .exact aev z
     |_=>exact aev z
  .exact aev z
 .exact aev z
end
structure Hs where
 Ms:List (Str×List (Str×MV))
 ft:Ft
 xm:List (Str×List (Str×Bool))
 df:List (Str×Bool)
 xf:List (Str×List Str)
structure yM(P:Program)(w:World)(K:adh)(mg:Str->Option Value)(base:Heap)(aj:aq)(k:Nat)(h:Hs):Prop where
 ms:∀m tb,h.Ms.lookup m=some tb->∀c v,tb.lookup c=some v->gK P w K mg base aj k c m v
 fk:sY h.ft aj
 co:cO K aj
 hw:aj.w=w
 xm:∀y tab,h.xm.lookup y=some tab->(∃D,aj y=some D)/\Hh K aj y λx=>tab.lookup x
 xf:∀y fs,h.xf.lookup y=some fs->∃C,aj y=some C/\XfC K C/\∀f∈fs,PySem.W.findIn K (.ref C) f=some none
structure Tc where
 N:List Str
 sc:Scope
 G:List (Str×GV)
 B:List Str
 hs:Hs
 ml:List Str
 top:Bool
structure Amb(aj:aq)(c:Tc)(X:Cx)(W:WX)(k:Nat):Prop where
 hN:X.N=c.N
 hs:X.env.scope=c.sc
 calm:X.calm=true
 nd:X.N.Nodup
 tk:Takes X W
 rm:Room k X.A
 gl:∀x v,c.G.lookup x=some v->bV X.prog X.w X.K X.mg X.base aj k x v
 bl:∀x,x∈c.B->X.mg x=none
 fn:c.top=true->∀x,X.fn x=true
 hk:yM X.prog X.w X.K X.mg X.base aj k c.hs
theorem Amb.tw{aj:aq}{c:Tc}{X:Cx}{W:WX}{k:Nat}(a:Amb aj c X W k){x:Str}{v:GV}(h:c.G.lookup x=some v)(hv:v.soft=true):Takes X W:=
 a.tk
theorem Amb.tm{aj:aq}{c:Tc}{X:Cx}{W:WX}{k:Nat}(a:Amb aj c X W k){m:Str}{tb:List (Str×MV)}(h:c.hs.Ms.lookup m=some tb):Takes X W:=
 a.tk
def gd{α:Type}(b:Bool)(o:Option α):Option α:=match b with
 |true=>o
 |false=>none
theorem au{α:Type}{b:Bool}{o:Option α}{x:α}:gd b o=some x↔b=true/\o=some x:=by
 cases b
 .exact⟨λh=>(nomatch h),λh=>(nomatch h.1)⟩
 .exact⟨λh=>⟨rfl,h⟩,λh=>h.2⟩
def idx:List Str->Str->Option Nat
 |[],_=>none
 |y::ys,x=>match y==x with
  |true=>some 0
  |false=>(idx ys x).map (· + 1)
theorem pA:∀{N:List Str} {x:Str} {i:Nat},idx N x=some i->N[i]?=some x
 |[],_,_,h=>nomatch h
 |y::ys,x,i,h=>by
  rw[idx]at h;split at h
  .next e=>
   cases h;rw[List.getElem?_cons_zero,aeD e]
  .rw[adS]at h;obtain⟨j,h1,rfl⟩:=h;rw[List.getElem?_cons_succ];exact pA h1
def LQ(sc:Scope)(x:Str):Bool:=match sc.names.lookup x with
 |some .local=>true
 |some .cell=>true
 |some .free=>true
 |_=>false
theorem Ql{sc:Scope}{x:Str}(h:LQ sc x=true):Vis sc x:=by
 unfold LQ at h;unfold Vis;split at h
 .next e=>exact .inl e
 .next e=>exact .inr (.inl e)
 .next e=>exact .inr (.inr e)
 .cases h
def oM(x:Str):Bool:=(x==("__debug__" : Str)) || (x==("__classdict__" : Str))
theorem gY{x:Str}(h:oM x=false):(x==("__debug__" : Str))=false/\(x==("__classdict__" : Str))=false:=by unfold oM at h;rw[Bool.or_eq_false_iff]at h;exact h
def oR(sc:Scope)(x:Str):Bool:=match sc.names.lookup x with
 |some .globalImplicit=>true
 |_=>false
def lO(c:Tc)(x:Str):Option Nat:=gd (LQ c.sc x&&!oM x) (idx c.N x)
def TY(c:Tc)(x:Str):Bool:=match c.sc.names.lookup x with
 |some .local=>true
 |some .cell=>c.top
 |_=>false
def iQ(c:Tc)(x:Str):Option Nat:=gd (TY c x) (idx c.N x)
section
variable{aj:aq}{c:Tc}{X:Cx}{W:WX}{k:Nat}{x:Str}{i:Nat}
theorem gU(a:Amb aj c X W k)(h:oR c.sc x=true):Gl X x:=by
 unfold oR at h;unfold Gl PySem.Env.kindOf;rw[a.hs];split at h
 .assumption
 .cases h
theorem iZ(a:Amb aj c X W k)(h:lO c x=some i):X.N[i]?=some x/\Vis X.env.scope x/\(x==("__debug__" : Str))=false/\(x==("__classdict__" : Str))=false:=by obtain⟨h1,h2⟩:=au.mp h;rw[adi]at h1;obtain⟨d1,d2⟩:=gY (by simpa using h1.2);exact⟨by rw[a.hN];exact pA h2,by rw[a.hs];exact Ql h1.1,d1,d2⟩
theorem dh(a:Amb aj c X W k)(h:iQ c x=some i):X.N[i]?=some x/\L2.Loc X.env.scope x/\(X.fn x=true\/X.env.scope.names.lookup x=some .local):=by
 obtain⟨h1,h2⟩:=au.mp h;unfold TY at h1;refine⟨by rw[a.hN];exact pA h2,?_⟩;rw[a.hs];unfold L2.Loc;split at h1
 .next e=>exact⟨.inl e,.inr e⟩
 .next e=>exact⟨.inr e,.inl (a.fn h1 x)⟩
 .cases h1
def jo(c:Tc)(x y:Str):Bool:=(x==y)&&(oR c.sc x&&c.B.contains x)
theorem eZ{y:Str}(a:Amb aj c X W k)(h:jo c x y=true):x=y/\Gl X x/\X.mg x=none:=by unfold jo at h;rw[adi,adi]at h;exact⟨aeD h.1,gU a h.2.1,a.bl x (by simpa using h.2.2)⟩
end
def jT:Expr->Bool
 |.Set _ _ _=>true
 |_=>false
theorem jE{b:Expr}{op:CmpOp}(h:jT b=false):behindInMarks op b=false:=by cases b<;>first | rfl | cases h
theorem zW{b c:Expr}{op op':CmpOp}(h:jT c=false):lastMarks [op,op'] [b,c]=false:=jE h
theorem fj{e:Expr}{env:PySem.Env}(h:jT e=false):∀x,foldedSetIterable e env x=pure x:=λx=>by
 cases e<;>first | rfl | cases h
def vg:Expr->Bool
 |.Slice _ _ _ _=>true
 |_=>false
def WT:Operator->Option (Dat->Dat->Out Dat)
 |.Add=>some bW
 |.Sub=>some gA
 |.Mult=>some mW
 |.FloorDiv=>some yr
 |.Mod=>some jd
 |.Pow=>some Cm
 |_=>none
def rH:CmpOp->Option (Dat->Dat->Out Dat)
 |.Eq=>some jx
 |.NotEq=>some rR
 |.Lt=>some CG
 |.LtE=>some oJ
 |.Gt=>some O4
 |.GtE=>some KC
 |.In=>some (inD false)
 |.NotIn=>some (inD true)
 |_=>none
theorem Qx{op:Operator}{o:Dat->Dat->Out Dat}(h:WT op=some o)(X:Cx)(aj:aq)(W:WX):∃r,OpR X (binaryOp op) r/\gq aj X.K W o r:=by
 cases op<;>cases h
 .exact⟨_,Pn,Uc⟩
 .exact⟨_,op_sub,Wg⟩
 .exact⟨_,op_mul,Vm⟩
 .exact⟨_,op_mod,Uz⟩
 .exact⟨_,op_pow,WQ⟩
 .exact⟨_,op_fdiv,V6⟩
theorem lu{op:CmpOp}{o:Dat->Dat->Out Dat}(h:rH op=some o){X:Cx}{k:Nat}(hr:Room k X.A)(aj:aq)(W:WX):∃r,OpR X (compareOp op) r/\gq aj X.K W o r:=by
 have h65:X.A.units+65<cLine:=by have:=hr.un;omega
 cases op<;>cases h
 .exact⟨_,SM hr.units,Xv⟩
 .exact⟨_,V8 hr.units,Yp⟩
 .exact⟨_,Uk h65,Xb⟩
 .exact⟨_,op_le,Xp⟩
 .exact⟨_,op_gt,Xg⟩
 .exact⟨_,op_ge,W9⟩
 .exact⟨_,Tf h65,Oz⟩
 .exact⟨_,IV h65,Oz⟩
def rE:Expr->Option Dat
 |.Constant .none _ _=>some .none
 |.Constant (.bool b) _ _=>some (.bool b)
 |_=>none
theorem yd{e:Expr}{d:Dat}{X:Cx}(h:rE e=some d):∃v,Jo d=some v/\(v=.non\/∃b,v=.bl b)/\PE X e (tC v):=by
 unfold rE at h;split at h
 .cases h;exact⟨_,rfl,.inl rfl,pe_non⟩
 .cases h;exact⟨_,rfl,.inr ⟨_,rfl⟩,pe_bl⟩
 .cases h
def Ot:CmpOp->Option Bool
 |.Is=>some false
 |.IsNot=>some true
 |_=>none
theorem Bg{op:CmpOp}{neg:Bool}{v:V}{X:Cx}(h:Ot op=some neg)(hv:v=.non\/∃b,v=.bl b):OpR X (compareOp op) (yU neg v):=by
 cases op<;>cases h
 .exact Vf hv
 .exact JR hv
def Wr(x:Str):Option (Dat->Out Dat):=
 if x=="len" then some jD else if x=="abs" then some BW else if x=="sum" then some Lf else if x=="max" then some maxD else if x=="all" then some Le else if x=="any" then some Nu
 else if x=="tuple" then some o7 else if x=="list" then some uo else if x=="int" then some intD else
 none
def Ju(x:Str):Option (Dat->Dat->Out Dat):=if x=="max" then some Am else if x=="min" then some Ao else none
theorem Vn{x:Str}{o:Dat->Out Dat}{X:Cx}(hc:X.calm=true)(h:Wr x=some o)(aj:aq)(W:WX):∃(f:Value) (id:String) (r:List V->Hp->VK->Prop),(f=.builtin id\/f=.type id)/\CallR X f r/\qX aj X.K W o r/\BV f x:=by
 unfold Wr at h;split at h
 .next e=>cases h;cases aeD e;exact⟨_,_,_,.inl rfl,U3,Wc,by decide +kernel,by decide,by decide⟩
 split at h
 .next e=>cases h;cases aeD e;exact⟨_,_,_,.inl rfl,call_abs,Uo,by decide +kernel,by decide,by decide⟩
 split at h
 .next e=>cases h;cases aeD e;exact⟨_,_,_,.inl rfl,cr_sum hc,V3,by decide +kernel,by decide,by decide⟩
 split at h
 .next e=>cases h;cases aeD e;exact⟨_,_,_,.inl rfl,cr_max hc,WK,by decide +kernel,by decide,by decide⟩
 split at h
 .next e=>cases h;cases aeD e;exact⟨_,_,_,.inl rfl,cr_all hc,S9,by decide +kernel,by decide,by decide⟩
 split at h
 .next e=>cases h;cases aeD e;exact⟨_,_,_,.inl rfl,cr_any hc,Vq,by decide +kernel,by decide,by decide⟩
 split at h
 .next e=>cases h;cases aeD e;exact⟨_,_,_,.inr rfl,call_tuple_of,Od,by decide +kernel,by decide,by decide⟩
 split at h
 .next e=>cases h;cases aeD e;exact⟨_,_,_,.inr rfl,call_list_of,RJ,by decide +kernel,by decide,by decide⟩
 split at h
 .next e=>cases h;cases aeD e;exact⟨_,_,_,.inr rfl,R5,Wy,by decide +kernel,by decide,by decide⟩
 .cases h
theorem U0{x:Str}{o:Dat->Dat->Out Dat}{X:Cx}(hc:X.calm=true)(h:Ju x=some o)(aj:aq)(W:WX):∃(f:Value) (id:String) (r:List V->Hp->VK->Prop),(f=.builtin id\/f=.type id)/\CallR X f r/\OJ aj X.K W o r/\BV f x:=by
 unfold Ju at h;split at h
 .next e=>cases h;cases aeD e;exact⟨_,_,_,.inl rfl,call_max2 hc,Ro,by decide +kernel,by decide,by decide⟩
 split at h
 .next e=>cases h;cases aeD e;exact⟨_,_,_,.inl rfl,call_min2 hc,Qh,by decide +kernel,by decide,by decide⟩
 .cases h
def Wd(x:Str):Option tG:=if x=="int" then some .int else if x=="bool" then some .bool else if x=="str" then some .str else if x=="tuple" then some .tuple else if x=="list" then some .list else none
theorem Tn{x:Str}{t:tG}(h:Wd x=some t):BV (.type t.name) x:=by
 unfold Wd at h;split at h
 .next e=>cases h;cases aeD e;exact⟨by decide +kernel,by decide,by decide⟩
 split at h
 .next e=>cases h;cases aeD e;exact⟨by decide +kernel,by decide,by decide⟩
 split at h
 .next e=>cases h;cases aeD e;exact⟨by decide +kernel,by decide,by decide⟩
 split at h
 .next e=>cases h;cases aeD e;exact⟨by decide +kernel,by decide,by decide⟩
 split at h
 .next e=>cases h;cases aeD e;exact⟨by decide +kernel,by decide,by decide⟩
 .cases h
structure Tr where
 E:Tc->Expr->Option QF
 W:Tc->Expr->Option QF
 T:Tc->Expr->Option QT
 I:Tc->Bool->Expr->Expr->Option IF
structure Tr.Ok(t:Tr):Prop where
 oe:∀{aj:aq} {c:Tc} {X:Cx} {W:WX} {k:Nat},Amb aj c X W k->∀{e:Expr} {f:QF},t.E c e=some f->QE aj X W e f
 ow:∀{aj:aq} {c:Tc} {X:Cx} {W:WX} {k:Nat},Amb aj c X W k->∀{e:Expr} {f:QF},t.W c e=some f->QW aj X W e f
 ot:∀{aj:aq} {c:Tc} {X:Cx} {W:WX} {k:Nat},Amb aj c X W k->∀{e:Expr} {f:QT},t.T c e=some f->iT aj X W e f
 oi:∀{aj:aq} {c:Tc} {X:Cx} {W:WX} {k:Nat},Amb aj c X W k->∀{firm:Bool} {tg e:Expr} {f:IF},t.I c firm tg e=some f->QI aj X W firm tg e f
def ou(t:Tr)(c:Tc):List Expr->Option QA
 |[]=>some aP
 |a::es=>gd (nst a) ((t.E c a).bind λfa=>(ou t c es).bind λfr=>some (aF fa fr))
section
variable{aj:aq}{c:Tc}{X:Cx}{W:WX}{k:Nat}{t:Tr}
theorem gW(o:t.Ok)(a:Amb aj c X W k):∀{es:List Expr} {f:QA},ou t c es=some f->m9 aj X W es f/\es.all nst=true/\∀M Z ds,f M Z=.ok ds->ds.length=es.length
 |[],f,h=>by
  cases h;exact⟨Vr,rfl,λM Z ds e=>by cases e;rfl⟩
 |e::es,f,h=>by
  rw[ou,au]at h;obtain⟨hs,h⟩:=h;obtain⟨fa,h1,h⟩:=adg.mp h;obtain⟨fr,h2,h⟩:=adg.mp h;cases h;obtain⟨i1,i2,i3⟩:=gW o a h2;refine⟨Qm (o.oe a h1) i1 (aQ hs es),by simp[hs,i2],λM Z ds e=>?_⟩;unfold aF at e;cases hf:fa M Z with
  |ok d=>
   rw[hf]at e;cases hr:fr M Z with
   |ok dr=>
    rw[hr]at e;cases e;simp[i3 M Z dr hr]
   |exc y=>rw[hr]at e;cases e
   |bad=>rw[hr]at e;cases e
  |exc y=>rw[hf]at e;cases e
  |bad=>rw[hf]at e;cases e
end
def Ur(t:Tr)(c:Tc):Option Expr->Option QO
 |none=>some Dt
 |some a=>(t.W c a).bind λfa=>some (rQ fa)
theorem Jk{aj:aq}{c:Tc}{X:Cx}{W:WX}{k:Nat}{t:Tr}(o:t.Ok)(a:Amb aj c X W k){e:Option Expr}{f:QO}(h:Ur t c e=some f):Kl aj X W e f:=by
 cases e with
 |none=>cases h;exact Qy
 |some e=>
  obtain⟨fa,h1,h⟩:=adg.mp h;cases h;exact RM (o.ow a h1)
def yt(c:Tc):List Expr->Option (List Nat)
 |[]=>some []
 |.Name x _::es=>(iQ c x).bind λi=>(yt c es).bind λjs=>some (i::js)
 |_::_=>none
def zj(c:Tc):Expr->Option (List Nat×bH)
 |.Name x _=>(iQ c x).bind λi=>some ([i],aD i)
 |.Tuple es _ _=>(yt c es).bind λjs=>some (js,jO js)
 |_=>none
theorem uG{aj:aq}{c:Tc}{X:Cx}{W:WX}{k:Nat}(a:Amb aj c X W k):∀{es:List Expr} {js:List Nat},yt c es=some js->vR X es js
 |[],js,h=>by cases h;trivial
 |.Name x p::es,js,h=>by
  rw[yt]at h;obtain⟨i,h1,h⟩:=adg.mp h;obtain⟨r,h2,h⟩:=adg.mp h;cases h;obtain⟨s1,s2,s3⟩:=dh a h1;exact⟨s1,s2,s3,uG a h2⟩
theorem gR{aj:aq}{c:Tc}{X:Cx}{W:WX}{k:Nat}(a:Amb aj c X W k){e:Expr}{js:List Nat}{f:bH}(h:zj c e=some (js,f)):QG aj X e js f:=by
 unfold zj at h;split at h
 .obtain⟨i,h1,h⟩:=adg.mp h;cases h;obtain⟨s1,s2,s3⟩:=dh a h1;exact yc a.nd s1 s2 s3
 .obtain⟨js',h1,h⟩:=adg.mp h;cases h;exact BX a.calm a.nd (uG a h1)
 .cases h
def Tc.inn(c:Tc)(scope:Scope):Tc:={ c with sc:=relS scope c.sc,top:=false }
theorem Amb.inn{aj:aq}{c:Tc}{X:Cx}{W:WX}{k:Nat}(a:Amb aj c X W k)(scope:Scope)(s:Shared)(H:Hp)(C:Addr)(cl:List (Str×Addr))(fp:List Addr):Amb aj (c.inn scope) (X.blk s H scope (compEnvC scope cl C X.env) fp) WF k where
 hN:=a.hN
 hs:=by show relS scope X.env.scope=relS scope c.sc;rw[a.hs]
 calm:=a.calm
 nd:=a.nd
 tk:=Wf
 rm:=a.rm
 gl:=a.gl
 bl:=a.bl
 fn:=λz=>nomatch z
 hk:=a.hk
def Td:List Expr->List Nat->List (Str×Nat)
 |.Name x _::es,j::js=>(x,j)::Td es js
 |_,_=>[]
def fY:Expr->List Nat->List (Str×Nat)
 |.Name x _,[j]=>[(x,j)]
 |.Tuple es _ _,js=>Td es js
 |_,_=>[]
def u6(js vs:List Nat):Bool:=js.all λj=>vs.contains j
theorem d7{js vs:List Nat}(h:u6 js vs=true):∀j∈js,j∈vs:=λj hj=>by
 have:=adG.mp h j hj;simpa using this
def yW(t:Tr)(c:Tc):List Expr->Option QT
 |[]=>some nR
 |[a]=>t.T c a
 |_=>none
theorem PTs.weak{X:Cx}{e:List Expr}{t t':TT}(h:PTs X e t)(k:∀σ H Q,t' σ H Q->t σ H Q):PTs X e t':=⟨λpins s σ H Q I q=>h.run pins s σ H Q I (k σ H Q q)⟩
theorem iy{aj:aq}{c:Tc}{X:Cx}{W:WX}{k:Nat}{t:Tr}(o:t.Ok)(a:Amb aj c X W k){ifs:List Expr}{f:QT}(h:yW t c ifs=some f):PTs X ifs (cW X.K aj W f):=by
 unfold yW at h;split at h
 .cases h;exact PTs.weak pts_nil λσ H Q ⟨g,Z,M,I,z⟩=>z H (Ex.refl H)
 .exact pts_one (o.ot a h)
 .cases h
def Ck(t:Tr)(c:Tc)(elt tg iter:Expr)(ifs:List Expr)(scope:Scope):Option QF:=
 (t.I c false tg iter).bind λit=>(zj (c.inn scope) tg).bind λjt=>(yW t (c.inn scope) ifs).bind λtt=>(t.E (c.inn scope) elt).bind λte=>
  gd (blkC c.N c.sc scope (fY tg jt.1)&&(u6 jt.1 ((fY tg jt.1).map (·.2))&&!jT iter)) (some (jC it jt.2 ((fY tg jt.1).map (·.2)) tt te))
theorem Et{aj:aq}{c:Tc}{X:Cx}{W:WX}{k:Nat}{t:Tr}(o:t.Ok)(a:Amb aj c X W k){elt tg iter:Expr}{ifs:List Expr}{scope:Scope}{pos:Pos}{f:QF}(h:Ck t c elt tg iter ifs scope=some f):QE aj X W (.ListComp elt [⟨tg,iter,ifs,0⟩] scope pos) f:=by unfold Ck at h;obtain⟨it,h1,h⟩:=adg.mp h;obtain⟨⟨js,tf⟩,h2,h⟩:=adg.mp h;obtain⟨tt,h3,h⟩:=adg.mp h;obtain⟨te,h4,h⟩:=adg.mp h;obtain⟨hb,h⟩:=au.mp h;cases h;simp only[adi,ady]at hb;obtain⟨b1,b2,b3⟩:=hb;exact Xd a.calm a.nd (o.oi a h1) (by rw[a.hN,a.hs];exact b1) (d7 b2) (λs H C cl fp=>gR (a.inn scope s H C cl fp) h2) (λs H C cl fp=>iy o (a.inn scope s H C cl fp) h3) (λs H C cl fp=>o.oe (a.inn scope s H C cl fp) h4) (fj b3)
def Dr(t:Tr)(c:Tc)(x:Str)(e:Expr)(es:List Expr):Option QF:=match c.G.lookup x with
 |some (.fq n m)=>(ou t c (e::es)).bind λas=>gd (oR c.sc x&&(!oM x&&decide ((e::es).length=n))) (some (fH m as))
 |some _=>none
 |none=>match es with
  |[]=>(Wr x).bind λo=>(t.W c e).bind λfa=>gd (jo c x x&&nst e) (some (gD o fa))
  |[.Name y p]=>match x=="isinstance" with
   |true=>(Wd y).bind λty=>(t.W c e).bind λfa=>gd (jo c x x&&(jo c y y&&nst e)) (some (kZ ty fa))
   |false=>(Ju x).bind λo=>(t.W c e).bind λfa=>(t.W c (.Name y p)).bind λfb=>gd (jo c x x&&nst e) (some (aA o fa fb))
  |[e2]=>(Ju x).bind λo=>(t.W c e).bind λfa=>(t.W c e2).bind λfb=>gd (jo c x x&&(nst e&&nst e2)) (some (aA o fa fb))
  |_=>none
theorem JC{aj:aq}{c:Tc}{X:Cx}{W:WX}{k:Nat}{x:Str}{o:Dat->Dat->Out Dat}{a b:Expr}{fa fb:QF}{p pos:Pos}(am:Amb aj c X W k)(h:Ju x=some o)(hg:jo c x x=true)(ha:QW aj X W a fa)(hb:QW aj X W b fb)(hs:nst a=true)(hs2:nst b=true):QE aj X W (.Call (.Name x p) [a,b] [] pos) (aA o fa fb):=by obtain⟨f,id,r,hf,hc,ho,hv⟩:=U0 am.calm h aj W;obtain⟨_,hg,hm⟩:=eZ am hg;exact Xq hf hc ho hg hm hv ha hb hs hs2
theorem Jh{aj:aq}{c:Tc}{X:Cx}{W:WX}{k:Nat}{t:Tr}(o:t.Ok)(a:Amb aj c X W k){x:Str}{e:Expr}{es:List Expr}{p pos:Pos}{f:QF}(h:Dr t c x e es=some f):QE aj X W (.Call (.Name x p) (e::es) [] pos) f:=by
 unfold Dr at h;split at h
 .next n m hl=>
  obtain⟨as,h1,h⟩:=adg.mp h;obtain⟨hb,h⟩:=au.mp h;cases h;simp only[adi,ady,aew]at hb;obtain⟨b1,b2,b3⟩:=hb;obtain⟨fa,hm,hk,fd,ps,j,hj,hp,hB,F⟩:=a.gl x _ hl;obtain⟨i1,i2,i3⟩:=gW o a h1;exact Rv (passAt (a.tw hl rfl)) F (a.rm.mono hj) (gU a b1) hm hk hB i1 (b3.trans hp.symm) (gY b2).1 i2 i3
 .cases h
 .split at h
  .obtain⟨o1,h1,h⟩:=adg.mp h;obtain⟨fa,h2,h⟩:=adg.mp h;obtain⟨hb,h⟩:=au.mp h;cases h;rw[adi]at hb;obtain⟨f,id,r,hf,hc,ho,hv⟩:=Vn a.calm h1 aj W;obtain⟨_,hg,hm⟩:=eZ a hb.1;exact O5 hf hc ho hg hm hv (o.ow a h2) hb.2
  .split at h
   .next ex=>
    obtain⟨ty,h1,h⟩:=adg.mp h;obtain⟨fa,h2,h⟩:=adg.mp h;obtain⟨hb,h⟩:=au.mp h;cases h;simp only[adi]at hb;obtain⟨b1,b2,b3⟩:=hb;obtain⟨_,hg,hm⟩:=eZ a b1;obtain⟨_,hg2,hm2⟩:=eZ a b2;cases aeD ex;exact SJ hg hm ⟨by decide +kernel,by decide,by decide⟩ hg2 hm2 (Tn h1) (o.ow a h2) b3
   .obtain⟨o1,h1,h⟩:=adg.mp h;obtain⟨fa,h2,h⟩:=adg.mp h;obtain⟨fb,h3,h⟩:=adg.mp h;obtain⟨hb,h⟩:=au.mp h;cases h;rw[adi]at hb;exact JC a h1 hb.1 (o.ow a h2) (o.ow a h3) hb.2 rfl
  .obtain⟨o1,h1,h⟩:=adg.mp h;obtain⟨fa,h2,h⟩:=adg.mp h;obtain⟨fb,h3,h⟩:=adg.mp h;obtain⟨hb,h⟩:=au.mp h;cases h;simp only[adi]at hb;exact JC a h1 hb.1 (o.ow a h2) (o.ow a h3) hb.2.1 hb.2.2
  .cases h
def stE(t:Tr)(c:Tc):Expr->Option QF
 |.Name x _=>(match lO c x with
  |some i=>some (aJ i)
  |none=>match c.G.lookup x with
   |some (.con d)=>gd (oR c.sc x&&!oM x) (some (qC d))
   |_=>none)
 |.Constant (.int i) _ _=>some (qC (.int i))
 |.Constant (.str x) _ _=>some (qC (.str x))
 |.Constant (.bool x) _ _=>some (qC (.bool x))
 |.Constant .none _ _=>some (qC .none)
 |.BinOp a op b _=>(WT op).bind λo=>(t.W c a).bind λfa=>(t.W c b).bind λfb=>some (aA o fa fb)
 |.UnaryOp .USub a _=>(t.W c a).bind λfa=>some (gD HS fa)
 |.UnaryOp .Not a _=>(t.W c a).bind λfa=>some (Ba fa)
 |.BoolOp _ [a] _=>t.E c a
 |.BoolOp .And (a::b::r) p=>(t.E c a).bind λfa=>(t.E c (.BoolOp .And (b::r) p)).bind λfb=>some (uI fa fb)
 |.BoolOp .Or (a::b::r) p=>(t.E c a).bind λfa=>(t.E c (.BoolOp .Or (b::r) p)).bind λfb=>some (Ln fa fb)
 |.Compare a [op] [b] _=>(match Ot op with
  |some neg=>(rE b).bind λd=>(t.W c a).bind λfa=>some (pJ neg d fa)
  |none=>(rH op).bind λo=>(t.W c a).bind λfa=>(t.W c b).bind λfb=>gd (!jT b) (some (aA o fa fb)))
 |.Compare a [op,op'] [b,b2] _=>(rH op).bind λo=>(rH op').bind λo'=>(t.W c a).bind λfa=>(t.W c b).bind λfb=>(t.W c b2).bind λfc=>gd (!jT b2) (some (Kz (iW o o' fa fb fc)))
 |.IfExp d a b _=>(t.T c d).bind λta=>(t.E c a).bind λfa=>(t.E c b).bind λfb=>some (V7 ta fa fb)
 |.Tuple es _ _=>(ou t c es).bind λfr=>some (Dz fr)
 |.List es _=>(ou t c es).bind λfr=>some (Dc fr)
 |.Subscript a b _=>(match b with
  |.Slice lo hi none _=>(t.W c a).bind λfa=>(Ur t c lo).bind λfl=>(Ur t c hi).bind λfh=>some (O8 fa fl fh)
  |b=>gd (!vg b) ((t.W c a).bind λfa=>(t.W c b).bind λfb=>some (aA cH fa fb)))
 |.ListComp elt [⟨tg,iter,ifs,0⟩] scope _=>Ck t c elt tg iter ifs scope
 |.Call (.Name x _) (e::es) [] _=>Dr t c x e es
 |_=>none
def V2(x:Str):Str:="@"++x
def VJ(t:Tr)(c:Tc):Expr->Option QF
 |.Name x p=>(match lO c x with
  |some i=>some (match c.ml.contains (V2 x) with
   |true=>cP i
   |false=>ak i)
  |none=>t.E c (.Name x p))
 |e=>t.E c e
def valT:Expr->Bool
 |.UnaryOp .Not _ _=>false
 |.BoolOp _ _ _=>false
 |.IfExp _ _ _ _=>false
 |.Compare _ _ _ _=>false
 |_=>true
theorem Qp{e:Expr}{env:PySem.Env}(h:valT e=true):∀whole,isTrue e env whole=(do let v <-whole;standAt e.pos;holding [v] (truthy v)):=λwhole=>by
 cases e with
 | UnaryOp o a p=>cases o<;>first | (with_unfolding_all rfl) | cases h
 |BoolOp _ _ _=>cases h
 |IfExp _ _ _ _=>cases h
 |Compare _ _ _ _=>cases h
 |_=>with_unfolding_all rfl
def Uj(t:Tr)(c:Tc):Expr->Option QT
 |.UnaryOp .Not a _=>(t.T c a).bind λta=>some (dJ ta)
 |.BoolOp _ [a] _=>t.T c a
 |.BoolOp .And (a::b::r) p=>(t.T c a).bind λta=>(t.T c (.BoolOp .And (b::r) p)).bind λtb=>some (oE ta tb)
 |.BoolOp .Or (a::b::r) p=>(t.T c a).bind λta=>(t.T c (.BoolOp .Or (b::r) p)).bind λtb=>some (rC ta tb)
 |.Compare a [op] [b] _=>(match Ot op with
  |some neg=>(rE b).bind λd=>(t.W c a).bind λfa=>some (cQ (pJ neg d fa))
  |none=>(rH op).bind λo=>(t.W c a).bind λfa=>(t.W c b).bind λfb=>gd (!jT b) (some (cQ (aA o fa fb))))
 |.Compare a [op,op'] [b,b2] _=>(rH op).bind λo=>(rH op').bind λo'=>(t.W c a).bind λfa=>(t.W c b).bind λfb=>(t.W c b2).bind λfc=>gd (!jT b2) (some (iW o o' fa fb fc))
 |e=>gd (valT e) ((t.W c e).bind λfa=>some (fV fa))
def trF(t:Tr)(c:Tc)(firm:Bool)(e:Expr):Option QF:=match firm with
 |true=>t.E c e
 |false=>t.W c e
def isTup:Expr->Bool
 |.Tuple _ _ _=>true
 |_=>false
def stI(t:Tr)(c:Tc)(firm:Bool)(tg:Expr):Expr->Option IF
 |.Call (.Name x p) [a] [] pos=>(match jo c x "range" with
  |true=>(t.W c a).bind λfa=>gd (nst a) (some (iw fa))
  |false=>match jo c x "enumerate" with
   |true=>(trF t c firm a).bind λfa=>gd (nst a&&isTup tg) (some (qH 0 fa))
   |false=>(trF t c firm (.Call (.Name x p) [a] [] pos)).bind λfa=>some (jA fa))
 |.Call (.Name x p) [a,b] [] pos=>(match jo c x "range" with
  |true=>(t.W c a).bind λfa=>(t.W c b).bind λfb=>gd (nst a&&nst b) (some (uh fa fb))
  |false=>match jo c x "zip" with
   |true=>(trF t c firm a).bind λfa=>(trF t c firm b).bind λfb=>gd (nst a&&(nst b&&isTup tg)) (some (Io fa fb))
   |false=>(trF t c firm (.Call (.Name x p) [a,b] [] pos)).bind λfa=>some (jA fa))
 |.Call (.Name x p) [a] [⟨some kw,.Constant (.int i) j kp,kp2⟩] pos=>gd (jo c x "enumerate"&&(kw=="start"&&(decide (-(2^63)<=i/\i<2^63)&&(nst a&&isTup tg)))) ((trF t c firm a).bind λfa=>some (qH i fa))
 |e=>(trF t c firm e).bind λfa=>some (jA fa)
theorem Bm{b:Expr}(h:(!vg b)=true):PlainIx b:=λv i=>by
 cases b<;>first | rfl | cases h
section
variable{aj:aq}{c:Tc}{X:Cx}{W:WX}{k:Nat}{t:Tr}
theorem Ue(o:t.Ok)(a:Amb aj c X W k){e:Expr}{f:QF}(h:stE t c e=some f):QE aj X W e f:=by
 unfold stE at h;split at h
 .split at h
  .next i hi=>
   cases h;obtain⟨s1,s2,s3,s4⟩:=iZ a hi;exact Wk s1 s2 s3 s4
  .split at h
   .next d hl=>
    obtain⟨hb,h⟩:=au.mp h;cases h;simp only[adi,ady]at hb;obtain⟨v,u,h1,h2,h3,_⟩:=a.gl _ _ hl;exact PE.weak (pe_glob (gU a hb.1) h1 h2 (gY hb.2).1) λσ H Q ⟨g,Z,M,I,z⟩=>z v H (Ex.refl H) (h3 g H)
   .cases h
 .cases h;exact WL
 .cases h;exact TF
 .cases h;exact W4
 .cases h;exact T6
 .obtain⟨op,h1,h⟩:=adg.mp h;obtain⟨fa,h2,h⟩:=adg.mp h;obtain⟨fb,h3,h⟩:=adg.mp h;cases h;obtain⟨r,r1,r2⟩:=Qx h1 X aj W;exact Ve r1 r2 (o.ow a h2) (o.ow a h3)
 .obtain⟨fa,h2,h⟩:=adg.mp h;cases h;exact Wu (o.ow a h2)
 .obtain⟨fa,h2,h⟩:=adg.mp h;cases h;exact Rj (o.ow a h2)
 .exact pe_one (o.oe a h)
 .obtain⟨fa,h2,h⟩:=adg.mp h;obtain⟨fb,h3,h⟩:=adg.mp h;cases h;exact Pg (o.oe a h2) (o.oe a h3)
 .obtain⟨fa,h2,h⟩:=adg.mp h;obtain⟨fb,h3,h⟩:=adg.mp h;cases h;exact Uh (o.oe a h2) (o.oe a h3)
 .split at h
  .next neg hn=>
   obtain⟨d,h1,h⟩:=adg.mp h;obtain⟨fa,h2,h⟩:=adg.mp h;cases h;obtain⟨v,v1,v2,v3⟩:=yd (X:=X) h1;refine Xy v1 (Bg hn v2) (o.ow a h2) v3 (jE ?_);unfold rE at h1;split at h1<;>first | rfl | cases h1
  .obtain⟨op,h1,h⟩:=adg.mp h;obtain⟨fa,h2,h⟩:=adg.mp h;obtain⟨fb,h3,h⟩:=adg.mp h;obtain⟨hb,h⟩:=au.mp h;cases h;obtain⟨r,r1,r2⟩:=lu h1 a.rm aj W;exact RQ r1 r2 (o.ow a h2) (o.ow a h3) (jE (by simpa using hb))
 .obtain⟨op,h1,h⟩:=adg.mp h;obtain⟨op',h1',h⟩:=adg.mp h;obtain⟨fa,h2,h⟩:=adg.mp h;obtain⟨fb,h3,h⟩:=adg.mp h;obtain⟨fc,h4,h⟩:=adg.mp h;obtain⟨hb,h⟩:=au.mp h;cases h;obtain⟨r,r1,r2⟩:=lu h1 a.rm aj W;obtain⟨r',r1',r2'⟩:=lu h1' a.rm aj W;exact N6 r1 r1' r2 r2' (o.ow a h2) (o.ow a h3) (o.ow a h4) (zW (by simpa using hb))
 .obtain⟨ta,h1,h⟩:=adg.mp h;obtain⟨fa,h2,h⟩:=adg.mp h;obtain⟨fb,h3,h⟩:=adg.mp h;cases h;exact Mq (o.ot a h1) (o.oe a h2) (o.oe a h3)
 .obtain⟨fr,h1,h⟩:=adg.mp h;cases h;exact VL (gW o a h1).1
 .obtain⟨fr,h1,h⟩:=adg.mp h;cases h;exact Uu (gW o a h1).1
 .split at h
  .obtain⟨fa,h1,h⟩:=adg.mp h;obtain⟨fl,h2,h⟩:=adg.mp h;obtain⟨fh,h3,h⟩:=adg.mp h;cases h;exact X7 (o.ow a h1) (Jk o a h2) (Jk o a h3)
  .obtain⟨hb,h⟩:=au.mp h;obtain⟨fa,h1,h⟩:=adg.mp h;obtain⟨fb,h2,h⟩:=adg.mp h;cases h;exact X5 (o.ow a h1) (o.ow a h2) (Bm hb)
 .exact Et o a h
 .exact Jh o a h
 .cases h
theorem Sd(o:t.Ok)(a:Amb aj c X W k){e:Expr}{f:QF}(h:VJ t c e=some f):QW aj X W e f:=by
 unfold VJ at h;split at h
 .split at h
  .next i hi=>
   cases h;obtain⟨s1,s2,s3,s4⟩:=iZ a hi;split
   .exact Qu s1 s2 s3 s4
   .exact TJ s1 s2 s3 s4
  .exact(o.oe a h).w
 .exact(o.oe a h).w
theorem SQ{a b:Expr}{rest:List Expr}{ta tb:QT}{pos:Pos}(ha:iT aj X W a ta)(hb:iT aj X W (.BoolOp .And (b::rest) pos) tb):iT aj X W (.BoolOp .And (a::b::rest) pos) (oE ta tb):=by have hb':Em aj X W (.BoolOp .And (b::rest) pos) tb:=⟨λwh pins s σ H Q I q=>hb.run pins s σ H Q I q⟩;exact PW.pt (T7 ha hb')
theorem Yk{a b:Expr}{rest:List Expr}{ta tb:QT}{pos:Pos}(ha:iT aj X W a ta)(hb:iT aj X W (.BoolOp .Or (b::rest) pos) tb):iT aj X W (.BoolOp .Or (a::b::rest) pos) (rC ta tb):=by have hb':Em aj X W (.BoolOp .Or (b::rest) pos) tb:=⟨λwh pins s σ H Q I q=>hb.run pins s σ H Q I q⟩;exact PW.pt (X3 ha hb')
theorem Vk(o:t.Ok)(a:Amb aj c X W k){e:Expr}{f:QT}(h:Uj t c e=some f):iT aj X W e f:=by
 unfold Uj at h;split at h
 .obtain⟨ta,h1,h⟩:=adg.mp h;cases h;exact WW (o.ot a h1)
 .next op _ _=>
  cases op
  .exact PW.pt (pw_and1 (o.ot a h))
  .exact PW.pt (pw_or1 (o.ot a h))
 .obtain⟨ta,h1,h⟩:=adg.mp h;obtain⟨tb,h2,h⟩:=adg.mp h;cases h;exact SQ (o.ot a h1) (o.ot a h2)
 .obtain⟨ta,h1,h⟩:=adg.mp h;obtain⟨tb,h2,h⟩:=adg.mp h;cases h;exact Yk (o.ot a h1) (o.ot a h2)
 .split at h
  .next neg hn=>
   obtain⟨d,h1,h⟩:=adg.mp h;obtain⟨fa,h2,h⟩:=adg.mp h;cases h;obtain⟨v,v1,v2,v3⟩:=yd (X:=X) h1;refine Xr v1 (Bg hn v2) (o.ow a h2) v3 (jE ?_);unfold rE at h1;split at h1<;>first | rfl | cases h1
  .obtain⟨op,h1,h⟩:=adg.mp h;obtain⟨fa,h2,h⟩:=adg.mp h;obtain⟨fb,h3,h⟩:=adg.mp h;obtain⟨hb,h⟩:=au.mp h;cases h;obtain⟨r,r1,r2⟩:=lu h1 a.rm aj W;exact Vv r1 r2 (o.ow a h2) (o.ow a h3) (jE (by simpa using hb))
 .obtain⟨op,h1,h⟩:=adg.mp h;obtain⟨op',h1',h⟩:=adg.mp h;obtain⟨fa,h2,h⟩:=adg.mp h;obtain⟨fb,h3,h⟩:=adg.mp h;obtain⟨fc,h4,h⟩:=adg.mp h;obtain⟨hb,h⟩:=au.mp h;cases h;obtain⟨r,r1,r2⟩:=lu h1 a.rm aj W;obtain⟨r',r1',r2'⟩:=lu h1' a.rm aj W;exact Mj r1 r1' r2 r2' (o.ow a h2) (o.ow a h3) (o.ow a h4) (zW (by simpa using hb))
 .obtain⟨hv,h⟩:=au.mp h;obtain⟨fa,h1,h⟩:=adg.mp h;cases h;exact R8 (o.ow a h1) (Qp hv)
theorem nu(o:t.Ok)(a:Amb aj c X W k){firm:Bool}{e:Expr}{f:QF}(h:trF t c firm e=some f):FJ aj X W firm e f:=by
 cases firm
 .exact o.ow a h
 .exact o.oe a h
theorem uY{e:Expr}(h:isTup e=true):∃es j p,e=.Tuple es j p:=by cases e<;>first | exact⟨_,_,_,rfl⟩ | cases h
theorem V9(o:t.Ok)(a:Amb aj c X W k){firm:Bool}{tg e:Expr}{f:IF}(h:stI t c firm tg e=some f):QI aj X W firm tg e f:=by
 unfold stI at h;split at h
 .split at h
  .next hb=>
   obtain⟨fa,h1,h⟩:=adg.mp h;obtain⟨hs,h⟩:=au.mp h;cases h;obtain⟨rfl,hg,hm⟩:=eZ a hb;exact JN hg hm (o.ow a h1) hs
  .split at h
   .next hb=>
    obtain⟨fa,h1,h⟩:=adg.mp h;obtain⟨hs,h⟩:=au.mp h;cases h;obtain⟨rfl,hg,hm⟩:=eZ a hb;rw[adi]at hs;obtain⟨es,j,p,rfl⟩:=uY hs.2;exact QJ hg hm (nu o a h1) hs.1
   .obtain⟨fa,h1,h⟩:=adg.mp h;cases h;exact DR (nu o a h1)
 .split at h
  .next hb=>
   obtain⟨fa,h1,h⟩:=adg.mp h;obtain⟨fb,h2,h⟩:=adg.mp h;obtain⟨hs,h⟩:=au.mp h;cases h;obtain⟨rfl,hg,hm⟩:=eZ a hb;rw[adi]at hs;exact JH hg hm (o.ow a h1) (o.ow a h2) hs.1 hs.2
  .split at h
   .next hb=>
    obtain⟨fa,h1,h⟩:=adg.mp h;obtain⟨fb,h2,h⟩:=adg.mp h;obtain⟨hs,h⟩:=au.mp h;cases h;obtain⟨rfl,hg,hm⟩:=eZ a hb;simp only[adi]at hs;obtain⟨es,j,p,rfl⟩:=uY hs.2.2;exact Vu hg hm (nu o a h1) (nu o a h2) hs.1 hs.2.1
   .obtain⟨fa,h1,h⟩:=adg.mp h;cases h;exact DR (nu o a h1)
 .obtain⟨hs,h⟩:=au.mp h;obtain⟨fa,h1,h⟩:=adg.mp h;cases h;simp only[adi,aew]at hs;obtain⟨hb,hk,hi,hn,ht⟩:=hs;obtain⟨rfl,hg,hm⟩:=eZ a hb;cases aeD hk;obtain⟨es,j,p,rfl⟩:=uY ht;exact Nm hi.1 hi.2 hg hm (nu o a h1) hn
 .obtain⟨fa,h1,h⟩:=adg.mp h;cases h;exact DR (nu o a h1)
end
def Jz:bM->Bool
 |.dat d=>lf d
 |.lst _ xs=>dw xs
 |.dic _ kvs=>dw (kvs.map (·.1))&&dw (kvs.map (·.2))
def dH(M:Mo):Bool:=M.all λi=>i.fs.all λp=>Jz p.2
def zL(b:Bool):Cell->Option Cell
 |.dat d=>if lf d=true then some (.dat d) else none
 |.mut ds=>if (b&&dw ds)=true then some (.dat (.list ds)) else none
def lH(vs:List Nat)(Z:Env):Env:=Z.mapIdx λi o=>o.bind (zL (vs.contains i))
def Hl:List Dat->List Dat->Bool
 |.int _::_,.tuple _::_=>true
 |es,ds=>!(es.length==ds.length)
def sS(j:Nat)(vs:List Nat)(Z:Env)(ds:List Dat):Bool:=vs.all λi=>match Z[i]? with
 |some (some (.mut es))=>i==j || Hl es ds
 |_=>true
def Gh.al(g:Gh)(H:Hp)(k:Addr->Prop):Gh:={ g with Lc:=λa=>(g.Lc a\/g.Lo a\/∃us,H a=some (.lst us))/\¬g.W a/\¬k a,Lo:=λ_=>False,kl:=False }
section
variable{K:adh}{aj:aq}{W:WX}{q:Bool}{g g':Gh}{H H':Hp}{σ:L2.St}{Z:Env}{M M':Mo}{k:Addr->Prop}
theorem Kd.al(kd:Kd g H):Kd (g.al H k) H where
 ob:=λa z=>by
  rcases z with z|z|z
  .exact kd.ob a (.inl z)
  .rcases z.1 with y|y|⟨us,y⟩
   .exact kd.ob a (.inr (.inl y))
   .exact kd.ob a (.inr (.inr y))
   .exact⟨_,y,aeu⟩
  .exact aev z
 lo:=λ_ z=>aev z
 lc:=λa z=>⟨z.2.1,λy=>y⟩
theorem bT.free{l:Addr}(e:g'.tbl=g.tbl):∀{b:Bool} {kvs:List (Dat×Dat)},(dw (kvs.map (·.1))&&dw (kvs.map (·.2)))=true->bT K aj g H l b kvs->bT K aj g' H l b kvs
 |false,_,f,⟨kv,h1,h2,h3⟩=>⟨kv,h1,h2,h3.free e (by rw[adi]at f;exact f.2)⟩
 |true,_,f,⟨o,xs,vs,h1,h2,h3,h4,h5,h6⟩=>by
  rw[adi]at f;exact⟨o,xs,vs,h1,h2,h3,h4.free e f.1,h5,h6.free e f.2⟩
theorem aR.free{h:Nat}{f:Str}{v:V}(e:g'.tbl=g.tbl)(e2:g'.ow=g.ow):∀{fl:bM},Jz fl=true->aR K aj g H h f v fl->aR K aj g' H h f v fl
 |.dat _,f,z=>Rep.free e f z
 |.lst _ _,f,⟨l,us,h1,h2,h3,h4,h5⟩=>⟨l,us,h1,h2,by rw[e2];exact h3,h4.free e f,by rw[e];exact h5⟩
 |.dic _ _,f,⟨l,h1,h2,h3⟩=>⟨l,h1,by rw[e2];exact h2,h3.free e f⟩
theorem aK.free{h:Nat}(e:g'.tbl=g.tbl)(e2:g'.ow=g.ow):∀{fs:List (Str×V)} {gs:List (Str×bM)},(gs.all λp=>Jz p.2)=true->aK K aj g H h fs gs->aK K aj g' H h fs gs
 |_,_,_,.nil=>.nil
 |_,_,f,.cons z t=>by
  rw[adI,adi]at f;exact .cons (aR.free e e2 f.1 z) (aK.free e e2 f.2 t)
theorem aX.free(f:dH M=true)(e:g'.tbl=g.tbl)(e2:g'.ow=g.ow)(w:aX K aj g H M):aX K aj g' H M where
 len:=by rw[e];exact w.len
 inj:=by rw[e];exact w.inj
 ins:=λh a i ha hi hc=>by
  rw[e]at ha;obtain⟨C,dx,fs,c1,c2,c3⟩:=w.ins h a i ha hi hc;exact⟨C,dx,fs,c1,c2,c3.free e e2 (adG.mp f i (adH hi))⟩
 nd:=w.nd
 fd:=w.fd
 tw:=by rw[e,e2];exact w.tw
 li:=λh a xs ha hi=>by
  rw[e]at ha;obtain⟨us,h1,h2,h3⟩:=w.li h a xs ha hi;have y:=adG.mp f _ (adH hi);rw[adI,adi]at y;exact⟨us,h1,by rw[e2];exact h2,h3.free e y.1⟩
 nc:=w.nc
theorem uF{vs:List Nat}{i:Nat}{c:Cell}(h:(lH vs Z)[i]?=some (some c)):∃c',Z[i]?=some (some c')/\zL (vs.contains i) c'=some c:=by
 unfold lH at h;rw[List.getElem?_mapIdx]at h;cases hr:Z[i]? with
 |none=>rw[hr]at h;cases h
 |some o=>
  rw[hr]at h;cases o with
  |none=>cases h
  |some c'=>exact⟨c',rfl,adx h⟩
theorem tY{b:Bool}{c:Cell}{c':Cell}(h:zL b c=some c'):∃d,c'=.dat d/\((c=.dat d/\lf d=true)\/∃ds,d=.list ds/\c=.mut ds/\(b&&dw ds)=true):=by
 cases c with
 |dat d=>
  have h:(if lf d=true then some (Cell.dat d) else none)=some c':=h;by_cases f:lf d=true
  .rw[aeA f]at h;exact⟨d,(adx h).symm,.inl ⟨rfl,f⟩⟩
  .rw[aeB f]at h;cases h
 | «mut» ds=>
  have h:(if (b&&dw ds)=true then some (Cell.dat (.list ds)) else none)=some c':=h;by_cases f:(b&&dw ds)=true
  .rw[aeA f]at h;exact⟨.list ds,(adx h).symm,.inr ⟨ds,rfl,rfl,f⟩⟩
  .rw[aeB f]at h;cases h
def cD(vs:List Nat)(σ:L2.St)(Z:Env)(a:Addr):Prop:=∃i ds,i∈vs/\σ[i]?=some (some (.ref a))/\(lH vs Z)[i]?=some (some (.dat (.list ds)))
theorem SInv.al(vs:List Nat)(I:SInv K aj σ H g Z M)(f:dH M=true):SInv K aj σ H (g.al H (cD vs σ Z)) (lH vs Z) M where
 kd:=I.kd.al
 wok:=aX.free (g:=g) f rfl rfl I.wok
 len:=by unfold lH;rw[List.length_mapIdx];exact I.len
 dat:=λi d h=>by
  obtain⟨c',h4,h5⟩:=uF h;obtain⟨d',e1,e3⟩:=tY h5;cases e1;rcases e3 with⟨rfl,e2⟩|⟨ds',e3,rfl,e2⟩
  .obtain⟨v,g1,g2⟩:=I.dat i _ h4;exact⟨v,g1,Rep.free (g:=g) (g':=g.al H (cD vs σ Z)) rfl e2 g2⟩
  .cases e3;obtain⟨l,us,g1,g2,g3,g4⟩:=I.own i _ h4;rw[adi]at e2;refine⟨_,g1,.lst (.inl ⟨g2,λz=>?_⟩) (ao.free (g:=g) (g':=g.al H (cD vs σ Z)) rfl e2.2 g4)⟩;rcases z with z|z|z
   .exact I.kd.lo _ g3 z
   .exact z.2.2 ⟨i,_,by simpa using e2.1,g1,h⟩
   .exact z
 own:=λi xs h=>by
  obtain⟨c',h4,h5⟩:=uF h;obtain⟨d',e1,_⟩:=tY h5;cases e1
 sep:=λi j xs ys l ne h=>by
  obtain⟨c',h4,h5⟩:=uF h;obtain⟨d',e1,_⟩:=tY h5;cases e1
theorem Qg{g2:Gh}{us:List V}{es ds:List Dat}(h1:ao K g H us es)(h2:ao K g2 H' us ds):Hl es ds=false:=by
 unfold Hl;split
 .cases h1 with
  |cons a _=>cases a;cases h2 with
   |cons b _=>cases b
 .rw[<-h1.length,<-h2.length];simp
def Gh.af(g g':Gh)(P:Addr->Prop):Gh:={ tbl:=g'.tbl,ow:=g'.ow,Lc:=g.Lc,Lo:=λb=>g.Lo b\/P b,kl:=g.kl }
theorem ux{vs:List Nat}(I:SInv K aj σ H g Z M)(r:Gr q (g.al H (cD vs σ Z)) g' H H'){a:Addr}{o:HO}(h:H a=some o)(n:¬g.W a):H' a=some o:=r.keep a o h n λz=>z
theorem tZ{vs:List Nat}{P:Addr->Prop}(I:SInv K aj σ H g Z M)(r:Gr q (g.al H (cD vs σ Z)) g' H H')(hP:∀b,P b->g.Lo b\/H b=none):Gr q g (g.af g' P) H H' where
 keep:=λa o h n _=>r.keep a o h n λz=>z
 keepW:=r.keepW
 dom:=r.dom
 tbl:=r.tbl
 W:=r.W
 nW:=r.nW
 qg:=λz=>⟨by
  show(g'.tbl,g.kl)=(g.tbl,g.kl)
  have y:g'.tbl=(g.al H (cD vs σ Z)).tbl:=Gh.nO (r.qg z).1;have y:g'.tbl=g.tbl:=y;rw[y],(r.qg z).2⟩
 Lc:=rfl
 Lo:=λ_ h=>.inl h
 nLo:=λa h=>h.elim .inl (hP a)
 kl:=rfl
theorem rW{vs:List Nat}{P:Addr->Prop}(I:SInv K aj σ H g Z M)(r:Gr q (g.al H (cD vs σ Z)) g' H H')(I':SInv K aj σ H' g' (lH vs Z) M')(f:dH M'=true)(hP:∀b,P b->(g.Lo b\/H b=none)/\(∃us,H' b=some (.lst us))/\¬g'.W b):SInv K aj σ H' (g.af g' P) Z M':=by
 have R:=tZ (P:=P) I r λb h=>(hP b h).1;have nW:∀a,¬g.W a->(∃o,H a=some o)->¬g'.W a:=λa n ⟨o,h⟩ z=>by
  rcases r.nW a z with z|z
  .exact n z
  .rw[h]at z;cases z
 refine⟨⟨λa z=>?_,λa z=>?_,λa z=>?_⟩,aX.free (g:=g') f rfl rfl I'.wok,I.len,λi d h=>?_,λi xs h=>?_,I.sep⟩
 .rcases z with z|z|z|z
  .exact I'.kd.ob a (.inl z)
  .obtain⟨o,h,m⟩:=I.kd.ob a (.inr (.inl z));exact⟨o,ux I r h (I.kd.lc a z).1,m⟩
  .obtain⟨o,h,m⟩:=I.kd.ob a (.inr (.inr z));exact⟨o,ux I r h (I.kd.lo a z),m⟩
  .obtain⟨us,h⟩:=(hP a z).2.1;exact⟨_,h,aeu⟩
 .rcases z with z|z
  .obtain⟨o,h,_⟩:=I.kd.ob a (.inr (.inr z));exact nW a (I.kd.lo a z) ⟨o,h⟩
  .exact(hP a z).2.2
 .have z:g.Lc a:=z;obtain⟨o,h,_⟩:=I.kd.ob a (.inr (.inl z));refine⟨nW a (I.kd.lc a z).1 ⟨o,h⟩,λy=>?_⟩;rcases y with y|y
  .exact(I.kd.lc a z).2 y
  .rcases(hP a y).1 with w|w
   .exact(I.kd.lc a z).2 w
   .rw[h]at w;cases w
 .obtain⟨v,e1,e2⟩:=I.dat i d h;exact⟨v,e1,e2.gr R I.kd⟩
 .obtain⟨l,us,e1,e2,e3,e4⟩:=I.own i xs h;exact⟨l,us,e1,ux I r e2 (I.kd.lo l e3),.inl e3,e4.gr R I.kd⟩
theorem Jj{vs:List Nat}{j:Nat}{a:Addr}{ds:List Dat}(I:SInv K aj σ H g Z M)(r:Gr q (g.al H (cD vs σ Z)) g' H H')(f:dH M=true)(hd:sS j vs Z ds=true)(rv:Rep K g' H' (.ref a) (.list ds)) :
  ∃us,H' a=some (.lst us)/\ao K g' H' us ds/\¬g'.W a/\(H a=none\/(g.Lo a/\σ[j]?=some (some (.ref a))/\∃es,Z[j]?=some (some (.mut es)))):=by
 cases rv with
 | @lst _ us _ y t=>
  have y:H' a=some (.lst us)/\¬g'.A a:=y.elim id λy=>by
   have z:=y.1;rw[r.kl]at z;exact aev z
  refine⟨us,y.1,t,λz=>y.2 (.inl z),?_⟩;cases hH:H a with
  |none=>exact .inl rfl
  |some o=>
   right
   have nw:¬g.W a:=λz=>y.2 (.inl (r.W a z));have e:=ux I r hH nw;rw[y.1]at e;cases e;have hk:cD vs σ Z a:=Classical.byContradiction λn=>y.2 (.inr (.inl (by rw[r.Lc];exact⟨.inr (.inr ⟨us,hH⟩),nw,n⟩)));obtain⟨i,es,h1,h2,h3⟩:=hk;obtain⟨c',h4,h5⟩:=uF h3;obtain⟨d',e1,e3⟩:=tY h5;cases e1;rcases e3 with⟨rfl,e3⟩|⟨ds',e3,rfl,_⟩
   .rw[lf]at e3;cases e3
   .cases e3;obtain⟨l,us',g1,g2,g3,g4⟩:=I.own i _ h4;rw[h2]at g1;cases g1;rw[hH]at g2;cases g2;have no:=Qg g4 t;have hi:=adG.mp hd i h1;simp only[h4]at hi;rw[no,Bool.or_false]at hi;have hij:=aeD hi;subst hij;exact⟨g3,h2,_,h4⟩
def yX(x:aY):Bool:=x.fs.all λp=>lf p.2
theorem cJ.free{fs:List (Str×V)}{gs:List (Str×Dat)}(e:g'.tbl=g.tbl)(h:cJ K g H fs gs):(gs.all λp=>lf p.2)=true->cJ K g' H fs gs:=by
 induction h with
 |nil=>exact λ_=>.nil
 |cons r _ ih=>
  intro f;rw[adI,adi]at f;exact .cons (r.free e f.1) (ih f.2)
theorem dY.free{x:aY}{c:Value}{dd:Option Addr}(e:g'.tbl=g.tbl)(f:yX x=true)(h:dY K aj g H x c dd):dY K aj g' H x c dd:=by obtain⟨C,h1,h2,h3⟩:=h;exact⟨C,h1,h2,h3.imp id λ⟨a,fs,e1,e2,e3⟩=>⟨a,fs,e1,e2,e3.free e f⟩⟩
def sW(j:Nat)(vs:List Nat)(Z:Env)(M':Mo):Dat->fO
 |.list ds=>if (dw ds&&sS j vs Z ds)=true then .next (Z.set j (some (.mut ds))) M' else .bad
 |d=>if lf d=true then .next (Z.set j (some (.dat d))) M' else .bad
def yR(vs:List Nat)(j:Nat)(f:GF):SF:=λM Z=>if dH M=true then(match f M (lH vs Z) with
 |.ok d M'=>if dH M'=true then sW j vs Z M' d else .bad
 |.exc x M'=>if (dH M'&&yX x)=true then .exc x Z M' else .bad
 |.bad=>.bad) else .bad
theorem Bs{vs:List Nat}{j:Nat}{D:Ends}{o:aG Dat}(I:SInv K aj σ H g Z M)(fM:dH M=true)(z:((match o with
 |.ok d M'=>if dH M'=true then sW j vs Z M' d else .bad
 |.exc x M'=>if (dH M'&&yX x)=true then .exc x Z M' else .bad
 |.bad=>.bad):fO).sat (sN K aj q D.nx g H) (sR K aj q D.rt g H) (sN K aj q D.bk g H) (sN K aj q D.ct g H) (sX K aj W q g H)) :
  o.sat (λd M'=>∀v H' g',Gr q (g.al H (cD vs σ Z)) g' H H'->SInv K aj σ H' g' (lH vs Z) M'->Rep K g' H' v d->gName j v σ H' D.nx) (gE K aj W q (g.al H (cD vs σ Z)) H σ (lH vs Z)):=by
 cases o with
 |bad=>exact aev z
 |exc x M'=>
  intro H' g' c dd r I' rx
  dsimp only at z
  split at z
  .next f'=>
   rw[adi]at f';exact z σ H' (g.af g' λ_=>False) c dd (tZ I r λ_ y=>aev y) (rW I r I' f'.1 λ_ y=>aev y) (dY.free (g:=g') (g':=(g.af g' λ_=>False).fr) rfl f'.2 rx)
  .exact aev z
 |ok d M'=>
  intro v H' g' r I' rv
  dsimp only at z
  split at z
  .next f'=>
   unfold sW at z;split at z
   .next ds=>
    split at z
    .next hb=>
     rw[adi]at hb;obtain⟨a,rfl⟩:∃a,v=.ref a:=by
      cases rv with
      |lst _ _=>exact⟨_,rfl⟩
     obtain⟨us,a1,a2,a3,a4⟩:=Jj I r fM hb.2 rv;have hP:∀b,b=a->(g.Lo b\/H b=none)/\(∃us,H' b=some (.lst us))/\¬g'.W b:=λb e=>by
      subst e;exact⟨a4.elim .inr λy=>.inl y.1,⟨us,a1⟩,a3⟩
     have R:=tZ (P:=λb=>b=a) I r λb e=>(hP b e).1;have J:=rW I r I' f' hP;have nl:∀(i:Nat) (ys:List Dat),i≠j->Z[i]?=some (some (.mut ys))->σ[i]?≠some (some (.ref a)):=λi ys ne h y=>by
      rcases a4 with n|⟨_,n,es,n2⟩
      .obtain⟨l',us',h1,h2,_⟩:=I.own i ys h;rw[y]at h1;cases h1;rw[n]at h2;cases h2
      .exact I.sep i j ys es a ne h n2 y n
     refine z _ H' (g.af g' λb=>b=a) R ⟨J.kd,J.wok,by rw[adz,adz];exact I.len,λi d h=>?_,λi ys h=>?_,λi k ys zs b ne h1 h2 h3 h4=>?_⟩
     .rcases bG h with⟨_,h,_⟩|⟨ne,h⟩
      .cases h
      .rw[adl ne];exact J.dat i d h
     .rcases bG h with⟨rfl,h,hj⟩|⟨ne,h⟩
      .cases h;exact⟨a,us,by rw[adu (by rw[I.len];exact hj)],a1,.inr rfl,ao.free (g:=g') (g':=g.af g' λb=>b=a) rfl hb.1 a2⟩
      .rw[adl ne];exact J.own i ys h
     .rcases bG h1 with⟨rfl,h1,hj⟩|⟨n1,h1⟩
      .rcases bG h2 with⟨rfl,h2,_⟩|⟨n2,h2⟩
       .exact ne rfl
       .rw[adu (by rw[I.len];exact hj)]at h3;cases h3;rw[adl n2]at h4;exact nl k zs (Ne.symm n2) h2 h4
      .rcases bG h2 with⟨rfl,h2,hj⟩|⟨n2,h2⟩
       .rw[adu (by rw[I.len];exact hj)]at h4;cases h4;rw[adl n1]at h3;exact nl i ys (Ne.symm n1) h1 h3
       .rw[adl n1]at h3;rw[adl n2]at h4;exact I.sep i k ys zs b ne h1 h2 h3 h4
    .exact aev z
   .split at z
    .next hl=>
     have J:=rW (P:=λ_=>False) I r I' f' λ_ y=>aev y;exact z _ H' (g.af g' λ_=>False) (tZ I r λ_ y=>aev y) (J.set (Rep.free (g:=g') (g':=g.af g' λ_=>False) rfl hl rv))
    .exact aev z
  .exact aev z
theorem Tz{vs:List Nat}{j:Nat}{f:GF}{D:Ends}(h:tS K aj W q (yR vs j f) D σ H):tAsg (tE K aj W q f) (gName j) D σ H:=by
 obtain⟨g,Z,M,I,z⟩:=h;unfold yR at z;split at z
 .next fM=>exact⟨g.al H (cD vs σ Z),lH vs Z,M,I.al vs fM,Bs I fM z⟩
 .exact aev z
end
section
variable{X:Cx}{aj:aq}{W:WX}{q:Bool}{e:Expr}{pos:Pos}
theorem Tq{vs:List Nat}{j:Nat}{x:Str}{f:GF}{pos':Pos}(hN:X.N.Nodup)(hi:X.N[j]?=some x)(hx:Loc X.env.scope x)(hf:X.fn x=true\/X.env.scope.names.lookup x=some .local)(he:GE aj X W q e f)(hs:swapsWith e (some (.Name x pos')) pos.line X.env=pure false):SE aj X W q (.Assign [.Name x pos'] e pos) (yR vs j f):=
 PS.weak (ps_set hN hi hx he hs hf) λD σ H h=>Tz h
def wJ(j:Nat)(m:Mo->List Dat->aG Dat)(as:QA):SF:=λM Z=>if dH M=true then(match as M Z with
 |.ok ds=>if dw ds=true then(match m M ds with
  |.ok d M'=>if dH M'=true then sW j [] Z M' d else .bad
  |.exc x M'=>if (dH M'&&yX x)=true then .exc x Z M' else .bad
  |.bad=>.bad) else .bad
 |.exc x=>.exc x Z M
 |.bad=>.bad) else .bad
theorem Rg{j k:Nat}{y x:Str}{f:Addr}{fd:FuncData}{ps:List Str}{m:Mo->List Dat->aG Dat}{as:QA}{pos' p cpos:Pos}{es:List Expr}(tk:Takes X W)(F:FnOk X.prog X.w X.K X.mg X.base (L2.CX X.prog X.w) k f fd ps (oZ X.K aj ps.length m))(hr:Room k X.A)(hg:Gl X x)(hm:X.mg x=some (.ref f))(hk:PySem.W.keepIn X.K (.ref f)=true)(hb:Binds X.K fd ps [])
  (ha:m9 aj X W (e::es) as) (hl:(e::es).length=ps.length) (hd:(x==("__debug__" : Str))=false) (hs:(e::es).all nst=true) (hn:∀M Z ds,as M Z=.ok ds->ds.length=(e::es).length)
  (hN:X.N.Nodup) (hi:X.N[j]?=some y) (hy:Loc X.env.scope y) (hf:X.fn y=true\/X.env.scope.names.lookup y=some .local) (hw:swapsWith (.Call (.Name x p) (e::es) [] cpos) (some (.Name y pos')) pos.line X.env=pure false):SE aj X W false (.Assign [.Name y pos'] (.Call (.Name x p) (e::es) [] cpos) pos) (wJ j m as):=by
 have hs':=hs;rw[adI,adi]at hs';refine PS.weak (ps_set hN hi hy (pe_callS (E:=λσ=>WE W σ) F hr hg hm hk hb (λσ=>passAt tk σ) ha hd (aQ hs'.1 es) (star_any es hs'.2)) hw hf) λD σ H ⟨g,Z,M,I,z⟩=>?_;unfold wJ at z;split at z
 .next fM=>
  refine⟨g,Z,M,I,?_⟩;cases has:as M Z with
  |exc x=>rw[has]at z;exact λH' c dd e r=>z σ H' g c dd (Gr.ex e) (I.ex e) r.fr
  |bad=>rw[has]at z;exact aev z
  |ok ds=>
   rw[has]at z;simp only at z;split at z
   .next hlf=>
    have h:=Bs I fM z;have J:=I.al [] fM;intro vs H1 e1 r1;exact⟨by rw[r1.length,hn M Z ds has];exact hl,g.al H (cD [] σ Z),M,ds,J.kd.ex e1,J.wok.ex e1 J.kd,ao.free (g:=g) (g':=g.al H (cD [] σ Z)) rfl hlf r1,h.mono (λd M' kk v H' g' c k' w' r'=>kk v H' g' ((Gr.ex e1).trans c.gr) ((J.ex e1).call c k' w') r') λx M' kk H' g' cc dd c k' w' r'=>kk H' g' cc dd ((Gr.ex e1).trans c.gr) ((J.ex e1).call c k' w') r'⟩
   .exact aev z
 .exact aev z
def Ah(vs:List Nat)(f:QF):SF:=λM Z=>if dH M=true then(match f M (lH vs Z) with
 |.ok (.list ds)=>if sS Z.length vs Z ds=true then .next Z M else .bad
 |.exc x=>if yX x=true then .exc x Z M else .bad
 |_=>.bad) else .bad
theorem SInv.clr{K:adh}{g:Gh}{H:Hp}{σ:L2.St}{Z:Env}{M:Mo}{l:Addr}{us us':List V}(I:SInv K aj σ H g Z M)(hl:H l=some (.lst us))(lo:g.Lo l)(n:∀(i:Nat) (ys:List Dat),Z[i]?=some (some (.mut ys))->σ[i]?≠some (some (.ref l))):SInv K aj σ (upd H l (.lst us')) g Z M:=by
 have gr:Gr true g g H (upd H l (.lst us')):=Gr.upd I.kd hl (.inr lo);refine⟨I.kd.upd aeu,I.wok.loc I.kd hl lo,I.len,λi d h=>?_,λi zs h=>?_,I.sep⟩
 .obtain⟨v,e1,e2⟩:=I.dat i d h;exact⟨v,e1,e2.gr gr I.kd⟩
 .obtain⟨l',ws,e1,e2,e3,e4⟩:=I.own i zs h;exact⟨l',ws,e1,by rw[upd_ne λz=>n i zs h (by rw[e1,z])];exact e2,e3,e4.gr gr I.kd⟩
theorem P0{vs:List Nat}{o:Expr}{f:QF}{apos epos:Pos}(he:QE aj X W o f)(hb:baseOk o=true)(hl:(apos.endLine==pos.line)=true):SE aj X W q (.Expr (.Call (.Attribute o "clear" apos) [] [] pos) epos) (Ah vs f):=by
 have key:=pe_bm0 (X:=X) (cpos:=pos) (apos:=apos) PySem.F.plainAttrs_list PySem.F.slot_list_clear PySem.F.type_list_clear mt_clear he (cZ hb) hl;refine PS.weak (ps_expr key (by with_unfolding_all rfl)) λD σ H ⟨g,Z,M,I,z⟩=>?_;unfold Ah at z;split at z
 .next fM=>
  refine⟨g.al H (cD vs σ Z),lH vs Z,M,I.al vs fM,?_⟩;cases hf:f M (lH vs Z) with
  |bad=>rw[hf]at z;exact aev z
  |exc x=>
   rw[hf]at z;intro H' c dd e rx
   dsimp only at z
   split at z
   case isFalse=>exact aev z
   case isTrue fx=>
   have r:Gr q (g.al H (cD vs σ Z)) (g.al H (cD vs σ Z)) H H':=Gr.ex e;exact z σ H' (g.af (g.al H (cD vs σ Z)) λ_=>False) c dd (tZ I r λ_ y=>aev y) (rW I r ((I.al vs fM).ex e) fM λ_ y=>aev y) (dY.free (g:=g.al H (cD vs σ Z)) (g':=(g.af (g.al H (cD vs σ Z)) λ_=>False).fr) rfl fx rx)
  |ok d=>
   rw[hf]at z;intro v H' e rv;cases d with
   |list ds=>
    dsimp only at z
    split at z
    .next hb=>
     have r:Gr q (g.al H (cD vs σ Z)) (g.al H (cD vs σ Z)) H H':=Gr.ex e;obtain⟨a,rfl⟩:∃a,v=.ref a:=by
      cases rv with
      |lst _ _=>exact⟨_,rfl⟩
     obtain⟨us,a1,a2,a3,a4⟩:=Jj I r fM hb rv;have a4:H a=none:=a4.elim id λ⟨_,_,es,y⟩=>by
      rw[ad7 (adE _)]at y;cases y
     have hP:∀b,b=a->(g.Lo b\/H b=none)/\(∃us,H' b=some (.lst us))/\¬(g.al H (cD vs σ Z)).W b:=λb e=>by
      subst e;exact⟨.inr a4,⟨us,a1⟩,a3⟩
     have R:=tZ (P:=λb=>b=a) I r λb e=>(hP b e).1;have J:=rW I r ((I.al vs fM).ex e) fM hP;refine⟨.inl ⟨rfl,us,sq_of a1⟩,a,us,rfl,rfl,a1,?_⟩;refine z σ _ (g.af (g.al H (cD vs σ Z)) λb=>b=a) (R.trans (Gr.upd J.kd a1 (.inr (.inr rfl)))) (J.clr a1 (.inr rfl) λi ys h y=>?_);obtain⟨l',us',h1,h2,_⟩:=I.own i ys h;rw[y]at h1;cases h1;rw[a4]at h2;cases h2
    .exact aev z
   |_=>exact aev z
 .exact aev z
def WM(o:Dat->Dat->Out Dat)(f:GF)(k:QF):GF:=λM Z=>(f M Z).bind λx M1=>((k M1 Z).at M1).bind λy M2=>(o x y).at M2
def Us(neg:Bool)(c:Dat)(f:GF):GF:=λM Z=>(f M Z).bind λd M1=>.ok (.bool (neg ^^ jr c d)) M1
theorem R7{op:CmpOp}{r:R2}{o:Dat->Dat->Out Dat}{a b:Expr}{fa:GF}{fb:QF}(hr:OpR X (compareOp op) r)(ho:gq aj X.K W o r)(ha:GE aj X W q a fa)(hb:QW aj X W b fb)(hm:behindInMarks op b=false):GE aj X W q (.Compare a [op] [b] pos) (WM o fa fb):=
 PE.weak (pe_cmpR hr ha hb hm) λσ H Q ⟨g,Z,M,I,h⟩=>by
  refine tE.go I h.bnd λd M1 v H1 g1 h1 r1 I1 rv=>?_;refine tW.go I1 ((Out.bO h1.bnd).mono (λ_ z=>z) λ_ z=>?_) λd2 v2 H2 h2 e2 r2=>?_
  .exact λH' c dd e x=>z H' g1 c dd (r1.trans (Gr.ex e)) (I1.ex e) x
  .refine ho σ g1 H2 v v2 d d2 Q (I1.kd.ex e2) ((rv.ex e2 I1.kd).weak) r2 ((Out.bO h2).mono (λz hz u H3 e3 r3=>hz u H3 g1 (r1.trans (Gr.ex (e2.trans e3))) (I1.ex (e2.trans e3)) r3) λx z=>?_);exact λH' c dd e x=>z H' g1 c dd (r1.trans (Gr.ex (e2.trans e))) (I1.ex (e2.trans e)) x
theorem Yh{op:CmpOp}{neg:Bool}{d:Dat}{v:V}{a b:Expr}{fa:GF}(hc:Jo d=some v)(hr:OpR X (compareOp op) (yU neg v))(ha:GE aj X W q a fa)(hb:PE X b (tC v))(hm:behindInMarks op b=false):GE aj X W q (.Compare a [op] [b] pos) (Us neg d fa):=
 PE.weak (pe_cmpR hr ha hb hm) λσ H Q ⟨g,Z,M,I,h⟩=>by
  refine tE.go I h.bnd λe M1 x H1 g1 h1 r1 I1 rv=>?_;refine⟨rfl,?_⟩;rw[xK rv.weak hc];exact h1 _ H1 g1 r1 I1 (.bl _)
def ZP(f:GF):GT:=λM Z=>(f M Z).bind λd M1=>(jZ d).at M1
end
def MV.n:MV->Nat
 |.q n _=>n
 |.g n _=>n
def MV.qt:MV->Bool
 |.q _ _=>true
 |.g _ _=>false
def Ul(tb:List (Str×MV))(n:Nat):Bool:=tb.all λp=>p.2.n==n
def tbQ(tb:List (Str×MV)):Bool:=tb.all λp=>p.2.qt
theorem jc{α:Type}{c:Str}{v:α}:∀{tb:List (Str×α)},tb.lookup c=some v->(c,v)∈tb
 |[],h=>nomatch h
 |(y,u)::r,h=>by
  rw[adN]at h;split at h
  .next e=>
   cases h;rw[aeD e];exact adn
  .exact adt _ (jc h)
section
variable{aj:aq}{c:Tc}{X:Cx}{W:WX}{k:Nat}{t:Tr}
theorem Ad(a:Amb aj c X W k){m:Str}{n:Nat}{tb:List (Str×MV)}(h:c.hs.Ms.lookup m=some tb)(hn:Ul tb n=true):qu X aj k m n tb:=λy v hv=>by
 refine⟨a.hk.ms m tb h y v hv,?_⟩;have:=adG.mp hn _ (jc hv);cases v<;>exact aeD this
def Dj(t:Tr)(c:Tc)(o:Expr)(m:Str)(es:List Expr)(apos pos:Pos):Option QF:=
 (c.hs.Ms.lookup m).bind λtb=>(t.W c o).bind λfo=>(ou t c es).bind λas=>
  gd (tbQ tb&&(Ul tb (es.length+1)&&(baseOk o&&(decide (es.length<30)&&(apos.endLine==pos.line))))) (some (cG tb fo as))
theorem Iw(o:t.Ok)(a:Amb aj c X W k){b:Expr}{m:Str}{es:List Expr}{apos pos:Pos}{f:QF}(h:Dj t c b m es apos pos=some f):QE aj X W (.Call (.Attribute b m apos) es [] pos) f:=by
 unfold Dj at h;obtain⟨tb,h1,h⟩:=adg.mp h;obtain⟨fo,h2,h⟩:=adg.mp h;obtain⟨as,h3,h⟩:=adg.mp h;obtain⟨hb,h⟩:=au.mp h;cases h;simp only[adi,aew]at hb;obtain⟨_,b2,b3,b4,b5⟩:=hb;obtain⟨i1,i2,i3⟩:=gW o a h3;cases es with
 |nil=>
  cases h3;exact NT (a.tm h1) a.rm (Ad a h1 b2) (o.ow a h2) b3 b5
 |cons e es=>exact Q5 (a.tm h1) a.rm (Ad a h1 b2) (o.ow a h2) i1 i3 b3 i2 b5 b4
def inN:CmpOp->Option Bool
 |.In=>some false
 |.NotIn=>some true
 |_=>none
theorem Jy{op:CmpOp}{neg:Bool}(hr:Room k X.A)(h:inN op=some neg):OpR X (compareOp op) (rInD X neg):=by
 have h65:X.A.units+64<cLine:=by have:=hr.un;omega
 cases op<;>cases h
 .exact op_inD h65
 .exact op_notInD h65
def Ik(t:Tr)(c:Tc)(e:Expr)(op:CmpOp)(o:Expr)(f:Str):Option QF:=
 (inN op).bind λneg=>(c.hs.df.lookup f).bind λ_=>(t.E c e).bind λfe=>(t.W c o).bind λfo=>gd (baseOk o) (some (Dd neg f fe fo))
theorem Sv{o e:Expr}{f:Str}{p1 pos:Pos}{fo fk:QF}{neg:Bool}{op:CmpOp}(co:cO X.K aj)(hw:aj.w=X.w)(hr:OpR X (compareOp op) (rInD X neg))(hk:QE aj X W e fk)(ho:QW aj X W o fo)(hb:baseOk o=true):iT aj X W (.Compare e [op] [.Attribute o f p1] pos) (cQ (Dd neg f fk fo)):=
 PT.weak (pt_cmpR hr hk (pe_fld ho (cZ hb)) (by cases op<;>rfl)) λσ H Q ⟨g,Z,M,I,h⟩=>by
  refine O6 co hw σ H _ ⟨g,Z,M,I,h.bnd.mono (λd h1 v H' e' r'=>?_) λ_ z=>z⟩;obtain⟨k,h2,h3⟩:=nY r'.weak h1;exact⟨k,h2,h3 H' e'⟩
theorem Fp(o:t.Ok)(a:Amb aj c X W k){e b:Expr}{op:CmpOp}{m:Str}{p1 pos:Pos}{f:QF}(h:Ik t c e op b m=some f):QE aj X W (.Compare e [op] [.Attribute b m p1] pos) f/\iT aj X W (.Compare e [op] [.Attribute b m p1] pos) (cQ f):=by unfold Ik at h;obtain⟨neg,h1,h⟩:=adg.mp h;obtain⟨_,_,h⟩:=adg.mp h;obtain⟨fe,h2,h⟩:=adg.mp h;obtain⟨fo,h3,h⟩:=adg.mp h;obtain⟨hb,h⟩:=au.mp h;cases h;exact⟨V4 a.hk.co a.hk.hw (Jy a.rm h1) (o.oe a h2) (o.ow a h3) hb,Sv a.hk.co a.hk.hw (Jy a.rm h1) (o.oe a h2) (o.ow a h3) hb⟩
def Av(t:Tr)(c:Tc)(e:Expr)(op:CmpOp)(x:Str):Option QF:=
 (inN op).bind λneg=>match c.G.lookup x with
  |some (.dic kvs)=>(t.W c e).bind λfe=>gd (oR c.sc x&&!oM x) (some (CN neg kvs fe))
  |_=>none
theorem Di(o:t.Ok)(a:Amb aj c X W k){e:Expr}{op:CmpOp}{x:Str}{p1 pos:Pos}{f:QF}(h:Av t c e op x=some f):QE aj X W (.Compare e [op] [.Name x p1] pos) f/\iT aj X W (.Compare e [op] [.Name x p1] pos) (cQ f):=by
 unfold Av at h;obtain⟨neg,h1,h⟩:=adg.mp h;split at h
 .next kvs hl=>
  obtain⟨fe,h2,h⟩:=adg.mp h;obtain⟨hb,h⟩:=au.mp h;cases h;simp only[adi,ady]at hb;refine SN a.rm ?_ (a.gl x _ hl) (gU a hb.1) (gY hb.2).1 (o.ow a h2);cases op<;>cases h1
  .exact .inl ⟨rfl,rfl⟩
  .exact .inr ⟨rfl,rfl⟩
 .cases h
def Bu(t:Tr)(c:Tc):Expr->Option QF
 |.Call (.Name y _) [b] [] _=>(match jo c y "set" with
  |true=>(t.W c b).bind λfb=>gd (nst b) (some (gD Ht fb))
  |false=>(t.W c (.Call (.Name y ⟨0,0,0,0⟩) [b] [] ⟨0,0,0,0⟩)).bind λ_=>none)
 |e=>(t.W c e).bind λfe=>gd (nst e) (some (gD qj fe))
theorem Tp(a:Amb aj c X W k):X.A.units+65<cLine:=by have:=a.rm.un;omega
theorem Ko(o:t.Ok)(a:Amb aj c X W k)(hg:Gl X "sorted")(hm:X.mg "sorted"=none){e:Expr}{p pos:Pos}{f:QF}(h:Bu t c e=some f):QE aj X W (.Call (.Name "sorted" p) [e] [] pos) f:=by
 unfold Bu at h;split at h
 .split at h
  .next hb=>
   obtain⟨fb,h1,h⟩:=adg.mp h;obtain⟨hn,h⟩:=au.mp h;cases h;obtain⟨rfl,hg2,hm2⟩:=eZ a hb;exact QK (Tp a) a.calm hg hm hg2 hm2 (o.ow a h1) hn
  .obtain⟨_,_,h⟩:=adg.mp h;cases h
 .obtain⟨fe,h1,h⟩:=adg.mp h;obtain⟨hn,h⟩:=au.mp h;cases h;exact Qz (Tp a) hg hm (o.ow a h1) hn
def wg(t:Tr)(c:Tc)(elt tg iter:Expr)(ifs:List Expr)(tg1 iter1:Expr)(ifs1:List Expr)(scope:Scope):Option QF:=
 (t.I c false tg iter).bind λit=>(zj (c.inn scope) tg).bind λjt=>(yW t (c.inn scope) ifs).bind λtt=>(t.I (c.inn scope) true tg1 iter1).bind λit1=>(zj (c.inn scope) tg1).bind λjt1=>(yW t (c.inn scope) ifs1).bind λtt1=>(t.E (c.inn scope) elt).bind λte=>
  gd (blkC c.N c.sc scope (fY tg jt.1++fY tg1 jt1.1)&&(u6 ((fY tg1 jt1.1).map (·.2)) ((fY tg jt.1++fY tg1 jt1.1).map (·.2))&&(u6 jt.1 ((fY tg jt.1++fY tg1 jt1.1).map (·.2))&&(u6 jt1.1 ((fY tg1 jt1.1).map (·.2))&&(!jT iter&&!jT iter1)))))
   (some (rG it jt.2 ((fY tg jt.1++fY tg1 jt1.1).map (·.2)) tt it1 jt1.2 ((fY tg1 jt1.1).map (·.2)) tt1 te))
theorem NP(o:t.Ok)(a:Amb aj c X W k){elt tg iter tg1 iter1:Expr}{ifs ifs1:List Expr}{scope:Scope}{pos:Pos}{f:QF}(h:wg t c elt tg iter ifs tg1 iter1 ifs1 scope=some f):QE aj X W (.ListComp elt [⟨tg,iter,ifs,0⟩,⟨tg1,iter1,ifs1,0⟩] scope pos) f:=by unfold wg at h;obtain⟨it,h1,h⟩:=adg.mp h;obtain⟨⟨js,tf⟩,h2,h⟩:=adg.mp h;obtain⟨tt,h3,h⟩:=adg.mp h;obtain⟨it1,h4,h⟩:=adg.mp h;obtain⟨⟨js1,tf1⟩,h5,h⟩:=adg.mp h;obtain⟨tt1,h6,h⟩:=adg.mp h;obtain⟨te,h7,h⟩:=adg.mp h;obtain⟨hb,h⟩:=au.mp h;cases h;simp only[adi,ady]at hb;obtain⟨b1,b2,b3,b4,b5,b6⟩:=hb;exact Ua a.calm a.nd (o.oi a h1) (by rw[a.hN,a.hs];exact b1) (d7 b2) (d7 b3) (d7 b4) (λs H C cl fp=>gR (a.inn _ s H C cl fp) h2) (λs H C cl fp=>iy o (a.inn _ s H C cl fp) h3) (λs H C cl fp=>o.oi (a.inn _ s H C cl fp) h4) (λs H C cl fp=>gR (a.inn _ s H C cl fp) h5) (λs H C cl fp=>iy o (a.inn _ s H C cl fp) h6) (λs H C cl fp=>o.oe (a.inn _ s H C cl fp) h7) (fj b5) (λenv=>fj b6)
def els{α:Type}(a b:Option α):Option α:=match a with
 |some x=>some x
 |none=>b
theorem eV{α:Type}{a b:Option α}{x:α}(h:els a b=some x):a=some x\/b=some x:=by
 cases a with
 |none=>exact .inr h
 |some y=>exact .inl h
def xE0(t:Tr)(c:Tc):Expr->Option QF
 |.Attribute o f _=>gd (baseOk o) ((t.W c o).bind λfo=>some (M5 f fo))
 |.Call (.Attribute o m apos) es [] pos=>Dj t c o m es apos pos
 |.Compare e [op] [.Attribute o f _] _=>Ik t c e op o f
 |.Compare e [op] [.Name x _] _=>Av t c e op x
 |.Subscript (.Name x _) e _=>(match c.G.lookup x with
  |some (.dic kvs)=>(t.W c e).bind λfe=>gd (oR c.sc x&&(!oM x&&!vg e)) (some (LK kvs fe))
  |_=>none)
 |.ListComp elt [⟨tg,iter,ifs,0⟩,⟨tg1,iter1,ifs1,0⟩] scope _=>wg t c elt tg iter ifs tg1 iter1 ifs1 scope
 |.Call (.Name x _) [e] [] _=>(match jo c x "sorted" with
  |true=>Bu t c e
  |false=>match jo c x "list",e with
   |true,.Attribute o f _=>(c.hs.df.lookup f).bind λ_=>(t.W c o).bind λfo=>gd (baseOk o) (some (rB f fo))
   |_,_=>none)
 |_=>none
theorem Wi(o:t.Ok)(a:Amb aj c X W k){e:Expr}{f:QF}(h:xE0 t c e=some f):QE aj X W e f:=by
 unfold xE0 at h;split at h
 .obtain⟨hb,h⟩:=au.mp h;obtain⟨fo,h1,h⟩:=adg.mp h;cases h;exact Uq a.hk.co (o.ow a h1) hb
 .exact Iw o a h
 .exact(Fp o a h).1
 .exact(Di o a h).1
 .split at h
  .next kvs hl=>
   obtain⟨fe,h1,h⟩:=adg.mp h;obtain⟨hb,h⟩:=au.mp h;cases h;simp only[adi]at hb;exact Ss (a.gl _ _ hl) (gU a hb.1) (gY (by simpa using hb.2.1)).1 (o.ow a h1) (Bm hb.2.2)
  .cases h
 .exact NP o a h
 .split at h
  .next hb=>
   obtain⟨rfl,hg,hm⟩:=eZ a hb;exact Ko o a hg hm h
  .split at h
   .next hb=>
    obtain⟨_,_,h⟩:=adg.mp h;obtain⟨fo,h1,h⟩:=adg.mp h;obtain⟨hb2,h⟩:=au.mp h;cases h;obtain⟨rfl,hg,hm⟩:=eZ a hb;exact N5 a.hk.co a.hk.hw a.calm hg hm (o.ow a h1) hb2
   .cases h
 .cases h
def xE1(t:Tr)(c:Tc)(e:Expr):Option QF:=xE0 t c e
theorem Vs(o:t.Ok)(a:Amb aj c X W k){e:Expr}{f:QF}(h:xE1 t c e=some f):QE aj X W e f:=Wi o a h
def xE(t:Tr)(c:Tc)(e:Expr):Option QF:=xE1 t c e
theorem Xn(o:t.Ok)(a:Amb aj c X W k){e:Expr}{f:QF}(h:xE t c e=some f):QE aj X W e f:=Vs o a h
def xW(t:Tr)(c:Tc):Expr->Option QF
 |.Attribute o f _=>gd (baseOk o) ((t.W c o).bind λfo=>some (uz f fo))
 |_=>none
theorem Xz(o:t.Ok)(a:Amb aj c X W k){e:Expr}{f:QF}(h:xW t c e=some f):QW aj X W e f:=by
 unfold xW at h;split at h
 .obtain⟨hb,h⟩:=au.mp h;obtain⟨fo,h1,h⟩:=adg.mp h;cases h;exact Wv a.hk.co (o.ow a h1) hb
 .cases h
def xT(t:Tr)(c:Tc):Expr->Option QT
 |.Compare e [op] [.Attribute o f _] _=>(Ik t c e op o f).bind λg=>some (cQ g)
 |.Compare e [op] [.Name x _] _=>(Av t c e op x).bind λg=>some (cQ g)
 |_=>none
theorem Xh(o:t.Ok)(a:Amb aj c X W k){e:Expr}{f:QT}(h:xT t c e=some f):iT aj X W e f:=by
 unfold xT at h;split at h
 .obtain⟨g,h1,h⟩:=adg.mp h;cases h;exact(Fp o a h1).2
 .obtain⟨g,h1,h⟩:=adg.mp h;cases h;exact(Di o a h1).2
 .cases h
def xI(t:Tr)(c:Tc)(firm:Bool):Expr->Option IF
 |.Attribute o f _=>(match firm with
  |true=>none
  |false=>(c.hs.df.lookup f).bind λ_=>gd (baseOk o) ((t.W c o).bind λfo=>some (xg f fo)))
 |_=>none
theorem Yq(o:t.Ok)(a:Amb aj c X W k){firm:Bool}{tg e:Expr}{f:IF}(h:xI t c firm e=some f):QI aj X W firm tg e f:=by
 unfold xI at h;split at h
 .split at h
  .cases h
  .obtain⟨_,_,h⟩:=adg.mp h;obtain⟨hb,h⟩:=au.mp h;obtain⟨fo,h1,h⟩:=adg.mp h;cases h;exact La a.hk.co a.hk.hw (o.ow a h1) hb
 .cases h
def xtE(t:Tr)(c:Tc)(e:Expr):Option QF:=els (xE t c e) (stE t c e)
def xtW(t:Tr)(c:Tc)(e:Expr):Option QF:=els (xW t c e) (VJ t c e)
def xtT(t:Tr)(c:Tc)(e:Expr):Option QT:=els (xT t c e) (Uj t c e)
def xtI(t:Tr)(c:Tc)(firm:Bool)(tg e:Expr):Option IF:=els (xI t c firm e) (stI t c firm tg e)
end
structure iV(aj:aq)(c:Tc)(X:Cx)(W:WX)(k:Nat):Prop extends Amb aj c X W k where
 ps:PassesOwn (model X.prog X.w) X.A X.env X.xe
 st:X.stack=X.env::X.outer
 fr:X.env.frame=some X.env.locals
 kf:X.env.scope.kind=.function
structure Ts where
 G:Tc->Expr->Option GF
 H:Tc->Expr->Option GT
 S:Tc->Stmt->Option SF
 B:Tc->List Stmt->Option SF
structure Ts.Ok(s:Ts)(q:Bool):Prop where
 og:∀{aj:aq} {c:Tc} {X:Cx} {W:WX} {k:Nat},iV aj c X W k->∀{e:Expr} {f:GF},s.G c e=some f->GE aj X W q e f
 oh:∀{aj:aq} {c:Tc} {X:Cx} {W:WX} {k:Nat},iV aj c X W k->∀{e:Expr} {f:GT},s.H c e=some f->Yr aj X W q e f
 os:∀{aj:aq} {c:Tc} {X:Cx} {W:WX} {k:Nat},iV aj c X W k->∀{e:Stmt} {f:SF},s.S c e=some f->SE aj X W q e f
 ob:∀{aj:aq} {c:Tc} {X:Cx} {W:WX} {k:Nat},iV aj c X W k->∀{e:List Stmt} {f:SF},s.B c e=some f->qW aj X W q e f
def lY:Expr->Bool
 |.ListComp _ _ _ _=>true
 |.SetComp _ _ _ _=>true
 |.DictComp _ _ _ _ _=>true
 |_=>false
theorem jG{e:Expr}{tg:Option Expr}{l:Nat}{env:PySem.Env}(h:lY e=false):swapsWith e tg l env=pure false:=by cases e<;>first | rfl | cases h
def Ih:Expr->Bool
 |.Tuple _ _ _=>true
 |_=>false
def Ja(sc:Scope)(v:Expr)(scope:Scope)(x:Str)(p:Pos):Bool:=(match sc.names.lookup x with
 |some .local=>true
 |_=>false)&&(p.line==v.pos.line&&!(scope.names.any λ(n,k)=>n==x&&(k==.local || k==.cell)))
theorem tK{X:Cx}{elt:Expr}{gens:List Comprehension}{scope:Scope}{pos p:Pos}{x:Str}{l:Nat}(hk:X.env.scope.kind=.function)(h:Ja X.env.scope (.ListComp elt gens scope pos) scope x p=true):X.env.scope.names.lookup x=some .local/\swapsWith (.ListComp elt gens scope pos) (some (.Name x p)) l X.env=pure true:=by
 unfold Ja at h;simp only[adi]at h;obtain⟨h1,h2,h3⟩:=h;have e1:X.env.scope.names.lookup x=some .local:=by
  split at h1
  .assumption
  .cases h1
 refine⟨e1,?_⟩;have eb:X.env.blockKind=.function:=by unfold PySem.Env.blockKind;rw[hk];rfl
 unfold swapsWith
 show(pure (X.env.blockKind==.function&&X.env.kindOf x==some .local&&p.line==(Expr.ListComp elt gens scope pos).pos.line&&!(scope.names.any λ(n,k)=>n==x&&(k==.local || k==.cell))):Sem Bool)=pure true
 rw[eb,h2,h3];unfold PySem.Env.kindOf;rw[e1];rfl
def Il(sc:Scope)(v:Expr)(x:Str)(p:Pos):Bool:=!(p.line==v.pos.line) || (match sc.names.lookup x with
 |some .local=>false
 |_=>true)
theorem DP{X:Cx}{elt:Expr}{gens:List Comprehension}{scope:Scope}{pos p:Pos}{x:Str}{l:Nat}(h:Il X.env.scope (.ListComp elt gens scope pos) x p=true):swapsWith (.ListComp elt gens scope pos) (some (.Name x p)) l X.env=pure false:=by
 unfold swapsWith
 show(pure (X.env.blockKind==.function&&X.env.kindOf x==some .local&&p.line==(Expr.ListComp elt gens scope pos).pos.line&&!(scope.names.any λ(n,k)=>n==x&&(k==.local || k==.cell))):Sem Bool)=pure false
 unfold Il at h;rw[ad6,ady]at h;rcases h with h|h
 .rw[h,Bool.and_false,Bool.false_and]
 .have e:(X.env.kindOf x==some .local)=false:=by
   unfold PySem.Env.kindOf;split at h
   .cases h
   .next q=>
    cases hl:X.env.scope.names.lookup x with
    |none=>rfl
    | some y=>cases y<;>first | exact absurd hl q | rfl
  rw[e,Bool.and_false,Bool.false_and,Bool.false_and]
def Oq(t:Tr)(c:Tc):Expr->Option IF
 |.List es _=>(ou t c es).bind λfr=>some (GD fr)
 |_=>none
theorem Kh{aj:aq}{c:Tc}{X:Cx}{W:WX}{k:Nat}{t:Tr}(o:t.Ok)(a:Amb aj c X W k){e:Expr}{f:IF}(h:Oq t c e=some f):FE aj X W e f/\lY e=false:=by
 unfold Oq at h;split at h
 .obtain⟨fr,h1,h⟩:=adg.mp h;cases h;exact⟨Ut (gW o a h1).1,rfl⟩
 .cases h
def yP(c:Tc):List Str->Option (List Nat)
 |[]=>some []
 |x::xs=>(match c.sc.names.lookup x with
  |some .local=>(idx c.N x).bind λi=>(yP c xs).bind λjs=>some (i::js)
  |_=>none)
theorem Gi{aj:aq}{c:Tc}{X:Cx}{W:WX}{k:Nat}(a:Amb aj c X W k):∀{xs:List Str} {js:List Nat},yP c xs=some js->xs.length=js.length/\∀(n:Nat) (x:Str) (j:Nat),xs[n]?=some x->js[n]?=some j->X.N[j]?=some x/\X.env.scope.names.lookup x=some .local
 |[],js,h=>by
  cases h;exact⟨rfl,λn x j e=>by simp at e⟩
 |x::xs,js,h=>by
  rw[yP]at h;split at h
  .next e=>
   obtain⟨i,h1,h⟩:=adg.mp h;obtain⟨r,h2,h⟩:=adg.mp h;cases h;obtain⟨i1,i2⟩:=Gi a h2;refine⟨by simp[i1],λn y j e1 e2=>?_⟩;cases n with
   |zero=>
    simp at e1 e2;subst e1 e2;exact⟨by rw[a.hN];exact pA h1,by rw[a.hs];exact e⟩
   |succ n=>exact i2 n y j (by simpa using e1) (by simpa using e2)
  .cases h
def nmE:Expr->Option (Str×Nat)
 |.Name x p=>some (x,p.line)
 |_=>none
def yK:List Expr->Option (List (Str×Nat))
 |[]=>some []
 |e::es=>(nmE e).bind λx=>(yK es).bind λr=>some (x::r)
def UL(c:Tc)(ts vs:List Expr):Option (List Nat):=
 (yK ts).bind λnls=>gd ((ts.length==2 || ts.length==3)&&(vs.length==ts.length&&(vs.all nst&&(nls.all (λp=>p.2==((ts.head?.map (·.pos.line)).getD 0))&&((nls.map (·.1)).eraseDups.length==nls.length&&(!(vs.all (foldedForSure 8))&&!(vs.all (constantsAlone 8)))))))) (yP c (nls.map (·.1)))
theorem Cr:∀{ts:List Expr} {nls:List (Str×Nat)},yK ts=some nls->nls.length=ts.length
 |[],_,h=>by cases h;rfl
 |e::es,_,h=>by
  rw[yK]at h;obtain⟨x,h1,h⟩:=adg.mp h;obtain⟨r,h2,h⟩:=adg.mp h;cases h;simp[Cr h2]
theorem v8{sc:Scope}{l:Nat}:∀{ts:List Expr} {nls:List (Str×Nat)},yK ts=some nls->nls.all (λp=>p.2==l)=true->(∀x∈nls.map (·.1),sc.names.lookup x=some .local)->
  (ts.filterMap λe=>match e with
  |.Name id pos=>if sc.names.lookup id==some .local&&pos.line==l then some id else none
  |_=>none)=nls.map (·.1)
 |[],_,h,_,_=>by cases h;rfl
 |e::es,_,h,hl,hk=>by
  rw[yK]at h;obtain⟨x,h1,h⟩:=adg.mp h;obtain⟨r,h2,h⟩:=adg.mp h;cases h;rw[adI,adi]at hl;have ih:=v8 (sc:=sc) h2 hl.2 λy hy=>hk y (adt _ hy);cases e with
  |Name y p=>
   cases h1;have e1:=hk y adn;have e2:(if sc.names.lookup y==some .local&&p.line==l then some y else none)=some y:=by rw[e1,show(p.line==l)=true from hl.1];rfl
   simp only[List.filterMap_cons,e2,ih,ado]
  |_=>cases h1
theorem qZ:∀(n:Nat) (l:List Str),l.length=n->l.eraseDups.length=l.length->l.Nodup:=by
 intro n
 induction n using Nat.strongRecOn with
 |_ n ih=>
  intro l hn h;cases l with
  |nil=>exact aeh
  |cons a r=>
   rw[aem]at h;simp only[adA]at h hn;have h1:(r.filter λb=>!b==a).length<=r.length:=adX _ _;have h2:∀l:List Str,l.eraseDups.length<=l.length:=by
    intro l
    induction hm:l.length using Nat.strongRecOn generalizing l with
    |_ m ihm=>
     cases l with
     |nil=>simp
     |cons x xs=>
      rw[aem];simp only[adA]at hm |-
      have z:(xs.filter λb=>!b==x).length<=xs.length:=adX _ _;have:=ihm _ (by omega) (xs.filter λb=>!b==x) rfl;omega
   have h3:=h2 (r.filter λb=>!b==a);have e1:(r.filter λb=>!b==a).length=r.length:=by omega
   have e2:(r.filter λb=>!b==a)=r:=aes.mpr (List.length_filter_eq_length_iff.mp e1);rw[e2]at h;rw[aek];refine⟨λz=>?_,ih r.length (by omega) r rfl (by omega)⟩;have:=aes.mp e2 a z;simp at this
theorem Fy{aj:aq}{c:Tc}{X:Cx}{W:WX}{k:Nat}(a:Amb aj c X W k):∀{xs:List Str} {js:List Nat},yP c xs=some js->xs.Nodup->js.Nodup/\∀j∈js,∃x∈xs,X.N[j]?=some x
 |[],js,h,_=>by
  cases h;exact⟨aeh,λj hj=>by simp at hj⟩
 |x::xs,js,h,nd=>by
  rw[yP]at h;rw[aek]at nd;split at h
  .next e=>
   obtain⟨i,h1,h⟩:=adg.mp h;obtain⟨r,h2,h⟩:=adg.mp h;cases h;obtain⟨i1,i2⟩:=Fy a h2 nd.2;have hi:X.N[i]?=some x:=by rw[a.hN];exact pA h1
   refine⟨aek.mpr ⟨λz=>?_,i1⟩,λj hj=>?_⟩
   .obtain⟨y,hy,e2⟩:=i2 i z;rw[hi]at e2;cases e2;exact nd.1 hy
   .rcases adB.mp hj with rfl|hj
    .exact⟨x,adn,hi⟩
    .obtain⟨y,hy,e2⟩:=i2 j hj;exact⟨y,adt _ hy,e2⟩
  .cases h
theorem Pu{vs:List Expr}(h:vs.all nst=true):(vs.any λe=>match e with
  |.Starred _ _=>true
  |_=>false)=false:=by
 induction vs with
 |nil=>rfl
 |cons v vs ih=>
  rw[adI,adi]at h;rw[aed,ih h.2,Bool.or_false];cases v<;>first | rfl | cases h.1
theorem Vj{aj:aq}{c:Tc}{X:Cx}{W:WX}{k:Nat}(a:iV aj c X W k){ts vs:List Expr}{js:List Nat}{kt k2:Nat}{pt p2:Pos}(h:UL c ts vs=some js) :
  ∃xs:List Str,xs.length=js.length/\js.length<=3/\js.Nodup/\(∀(n:Nat) (x:Str) (j:Nat),xs[n]?=some x->js[n]?=some j->X.N[j]?=some x/\X.env.scope.names.lookup x=some .local)/\swappedStores [.Tuple ts kt pt] (.Tuple vs k2 p2) X.env=pure (some xs):=by
 unfold UL at h;obtain⟨nls,h1,h⟩:=adg.mp h;obtain⟨hb,h⟩:=au.mp h;simp only[adi,ady]at hb;obtain⟨b1,b2,b3,b4,b5,b6,b7⟩:=hb;have l1:=Cr h1;obtain⟨i1,i2⟩:=Gi a.toAmb h;have nd:=qZ _ _ rfl (by rw[adp];exact aeD b5);obtain⟨d1,d2⟩:=Fy a.toAmb h nd;have hloc:∀x∈nls.map (·.1),X.env.scope.names.lookup x=some .local:=λx hx=>by
  obtain⟨n,hn,e⟩:=List.mem_iff_getElem.mp hx;have hj:n<js.length:=by rw[<-i1];exact hn
  exact(i2 n x js[n] (by rw[adq hn,e]) (adq hj)).2
 have hf:=v8 (sc:=X.env.scope) h1 b4 hloc;have h3:ts.length=2\/ts.length=3:=by rw[ad6]at b1;exact b1.imp aeD aeD
 refine⟨nls.map (·.1),i1,?_,d1,i2,?_⟩
 .rw[<-i1,adp,l1];omega
 .have eb:X.env.blockKind=.function:=by
   unfold PySem.Env.blockKind;rw[a.kf];rfl
  unfold swappedStores;have e1:(!(ts.length==2 || ts.length==3) || vs.length != ts.length || X.env.blockKind != .function)=false:=by rw[b1,eb,aeD b2];simp
  have e2:=Pu b3;have e3:(nls.map (·.1)).length=ts.length:=by rw[adp,l1]
  have e4:((nls.map (·.1)).length != ts.length || (nls.map (·.1)).eraseDups.length != (nls.map (·.1)).length)=false:=by rw[e3,aeD b5,l1];simp
  simp only[e1,adL,if_false];generalize hA:List.filterMap (β:=Str) _ ts=A;have eA:A=nls.map (·.1):=hA.symm.trans hf;subst eA;split
  .next z=>exact absurd (z.symm.trans e2) (by decide)
  .rw[e4,b6,b7];rfl
section
variable{X:Cx}{aj:aq}{W:WX}{q:Bool}{e:Expr}{pos:Pos}
theorem Wh{j:Nat}{y:Str}{py:Pos}{elt tg iter:Expr}{cpos:Pos}{scope:Scope}{own:List (Str×Nat)}{it:IF}{tgf:bH}{js:List Nat}{tt:QT}{te:QF}{ifs:List Expr}(hc:X.calm=true)(hN:X.N.Nodup)(hy:X.N[j]?=some y)(hyl:X.env.scope.names.lookup y=some .local)
  (hsw:swapsWith (.ListComp elt [⟨tg,iter,ifs,0⟩] scope cpos) (some (.Name y py)) pos.line X.env=pure true) (hi:QI aj X W false tg iter it) (ok:blkC X.N X.env.scope scope own=true) (hj:∀j∈js,j∈own.map (·.2))
  (hg:∀(s:Shared) (H:Hp) (C:Addr) (cl:List (Str×Addr)) (fp:List Addr),QG aj (X.blk s H scope (compEnvC scope cl C X.env) fp) tg js tgf)
  (ht:∀(s:Shared) (H:Hp) (C:Addr) (cl:List (Str×Addr)) (fp:List Addr),PTs (X.blk s H scope (compEnvC scope cl C X.env) fp) ifs (cW X.K aj WF tt))
  (he:∀(s:Shared) (H:Hp) (C:Addr) (cl:List (Str×Addr)) (fp:List Addr),QE aj (X.blk s H scope (compEnvC scope cl C X.env) fp) WF elt te) (hs:∀x,foldedSetIterable iter X.env x=pure x) :
  SE aj X W q (.Assign [.Name y py] (.ListComp elt [⟨tg,iter,ifs,0⟩] scope cpos) pos) (rK j (jY it tgf (own.map (·.2)) tt te)):=by
 refine PS.weak (ps_setLc (g:=j6 X.K aj js tgf) (tt:=cW X.K aj WF tt) (te:=tQ X.K aj WF te) hc hN hy hyl hsw hi (blkOk_by ok) (λs H C cl fp=>hg s H C cl fp) ht (λs H C cl fp=>he s H C cl fp) hs) λD σ H h=>?_;exact wO hj σ H _ (Jr D σ H h)
end
def Aj(t:Tr)(c:Tc)(elt tg iter:Expr)(ifs:List Expr)(scope:Scope):Option IF:=
 (t.I c false tg iter).bind λit=>(zj (c.inn scope) tg).bind λjt=>(yW t (c.inn scope) ifs).bind λtt=>(t.E (c.inn scope) elt).bind λte=>
  gd (blkC c.N c.sc scope (fY tg jt.1)&&(u6 jt.1 ((fY tg jt.1).map (·.2))&&!jT iter)) (some (jY it jt.2 ((fY tg jt.1).map (·.2)) tt te))
def yS(t:Tr)(c:Tc)(x:Str)(p:Pos)(elt tg iter:Expr)(ifs:List Expr)(scope:Scope)(cpos:Pos):Option SF:=
 (iQ c x).bind λj=>gd (Ja c.sc (.ListComp elt [⟨tg,iter,ifs,0⟩] scope cpos) scope x p || Il c.sc (.ListComp elt [⟨tg,iter,ifs,0⟩] scope cpos) x p)
  (match c.ml.contains x with
  |true=>(Aj t c elt tg iter ifs scope).bind λf=>some (rK j f)
  |false=>(Ck t c elt tg iter ifs scope).bind λf=>some (bJ (aD j) (gOf f)))
section
variable{aj:aq}{c:Tc}{X:Cx}{W:WX}{k:Nat}{t:Tr}{q:Bool}
theorem Hz(o:t.Ok)(a:iV aj c X W k){x:Str}{p cpos pos:Pos}{elt tg iter:Expr}{ifs:List Expr}{scope:Scope}{f:SF}(h:yS t c x p elt tg iter ifs scope cpos=some f):SE aj X W q (.Assign [.Name x p] (.ListComp elt [⟨tg,iter,ifs,0⟩] scope cpos) pos) f:=by
 unfold yS at h;obtain⟨j,hj,h⟩:=adg.mp h;obtain⟨hsw,h⟩:=au.mp h;obtain⟨s1,s2,s3⟩:=dh a.toAmb hj;rw[ad6]at hsw;split at h
 .obtain⟨f1,h1,h⟩:=adg.mp h;cases h;unfold Aj at h1;obtain⟨it,h2,h1⟩:=adg.mp h1;obtain⟨⟨js,tf⟩,h3,h1⟩:=adg.mp h1;obtain⟨tt,h4,h1⟩:=adg.mp h1;obtain⟨te,h5,h1⟩:=adg.mp h1;obtain⟨hb,h1⟩:=au.mp h1;cases h1;simp only[adi,ady]at hb;obtain⟨b1,b2,b3⟩:=hb;rcases hsw with hsw|hsw
  .rw[<-a.hs]at hsw;obtain⟨l1,l2⟩:=tK (l:=pos.line) a.kf hsw;exact Wh a.calm a.nd s1 l1 l2 (o.oi a.toAmb h2) (by rw[a.hN,a.hs];exact b1) (d7 b2) (λs H C cl fp=>gR (a.toAmb.inn scope s H C cl fp) h3) (λs H C cl fp=>iy o (a.toAmb.inn scope s H C cl fp) h4) (λs H C cl fp=>o.oe (a.toAmb.inn scope s H C cl fp) h5) (fj b3)
  .exact JK a.nd s1 s2 s3 (Ol a.calm a.nd (o.oi a.toAmb h2) (by rw[a.hN,a.hs];exact b1) (d7 b2) (λs H C cl fp=>gR (a.toAmb.inn scope s H C cl fp) h3) (λs H C cl fp=>iy o (a.toAmb.inn scope s H C cl fp) h4) (λs H C cl fp=>o.oe (a.toAmb.inn scope s H C cl fp) h5) (fj b3)) (DP (by rw[a.hs];exact hsw))
 .obtain⟨f1,h1,h⟩:=adg.mp h;cases h;rcases hsw with hsw|hsw
  .rw[<-a.hs]at hsw;obtain⟨l1,l2⟩:=tK (l:=pos.line) a.kf hsw;unfold Ck at h1;obtain⟨it,h2,h1⟩:=adg.mp h1;obtain⟨⟨js,tf⟩,h3,h1⟩:=adg.mp h1;obtain⟨tt,h4,h1⟩:=adg.mp h1;obtain⟨te,h5,h1⟩:=adg.mp h1;obtain⟨hb,h1⟩:=au.mp h1;cases h1;simp only[adi,ady]at hb;obtain⟨b1,b2,b3⟩:=hb;exact U4 a.calm a.nd s1 l1 l2 (o.oi a.toAmb h2) (by rw[a.hN,a.hs];exact b1) (d7 b2) (λs H C cl fp=>gR (a.toAmb.inn scope s H C cl fp) h3) (λs H C cl fp=>iy o (a.toAmb.inn scope s H C cl fp) h4) (λs H C cl fp=>o.oe (a.toAmb.inn scope s H C cl fp) h5) (fj b3)
  .exact vL (Pb (Et o a.toAmb h1)) (yc a.nd s1 s2 s3) (DP (l:=pos.line) (by rw[a.hs];exact hsw)) (by with_unfolding_all rfl) (by with_unfolding_all rfl)
end
theorem jH{tg e:Expr}{l:Nat}{env:PySem.Env}(h:lY e=false):swapsWithSole [tg] e l env=pure false:=jG h
theorem Q8{x:Str}{p spos:Pos}{i:Expr}{env:PySem.Env}(h:vg i=false):∀v,assign (.Subscript (.Name x p) i spos) env v=(do
   let ov <-holding [v] (eval (.Name x p) env)
   let iv <-holding [v,ov] (eval i env)
   standAt spos
   holding [v,ov,iv] (setItem ov iv v)
   release [v,ov,iv] []):=λv=>by
 cases i<;>first | (with_unfolding_all rfl) | cases h
def Vp(c:Tc):Expr->List Nat
 |.Call _ es _ _=>es.filterMap fun
  |.Name x _=>lO c x
  |_=>none
 |_=>[]
def Tw(sc:Scope):Expr->Bool
 |.Name x _=>match sc.names.lookup x with
  |some .local=>true
  |_=>false
 |_=>false
def Ke(sc:Scope)(ts:List Expr):Bool:=!(ts.all (Tw sc))
abbrev pcB(c:Tc)(ts:List Expr):Bool:=Ke c.sc ts
theorem Ye{X:Cx}{ts vs:List Expr}{kt k2:Nat}{pt p2:Pos}(h:Ke X.env.scope ts=true):swappedStores [.Tuple ts kt pt] (.Tuple vs k2 p2) X.env=pure none:=by
 unfold swappedStores;simp only;split
 .rfl
 .split
  .rfl
  .generalize (ts.head?.map (·.pos.line)).getD 0=l;have key:∀us:List Expr,Ke X.env.scope us=true->(us.filterMap λe=>match e with
    |.Name id pos=>if (X.env.kindOf id==some .local&&pos.line==l)=true then some id else none
    |_=>none).length<us.length:=by
    intro us
    induction us with
    |nil=>intro h;cases h
    |cons e us ih=>
     intro h;have hle:(us.filterMap λe=>match e with
      |.Name id pos=>if (X.env.kindOf id==some .local&&pos.line==l)=true then some id else none
      |_=>none).length<=us.length:=List.length_filterMap_le _ _
     cases q:Tw X.env.scope e with
     |true=>
      have h2:Ke X.env.scope us=true:=by
       unfold Ke at h |-
       rw[adI,q,Bool.true_and]at h;exact h
      have:=ih h2;rw[List.filterMap_cons];split
      .rw[adA];omega
      .rw[adA,adA];omega
     |false=>
      have hn:(match e with
       |.Name id pos=>if (X.env.kindOf id==some .local&&pos.line==l)=true then some id else none
       |_=>(none:Option Str))=none:=by
       cases e with
       |Name x p=>
        have hk:(X.env.kindOf x==some NameKind.local)=false:=by
         unfold PySem.Env.kindOf;have q:(match X.env.scope.names.lookup x with
          |some .local=>true
          |_=>false)=false:=q
         cases hl:X.env.scope.names.lookup x with
         |none=>rfl
         |some y=>
          rw[hl]at q;cases y<;>first | rfl | cases q
        show(if (X.env.kindOf x==some .local&&p.line==l)=true then some x else none)=none
        rw[hk];rfl
       |_=>rfl
      rw[List.filterMap_cons,hn,adA];exact Nat.lt_succ_of_le hle
   have:=key ts h;split
   .rfl
   .next z=>
    exfalso;apply z;rw[ad6];left;exact bne_iff_ne.mpr (adK this)
def Hu(t:Tr)(s:Ts)(c:Tc):Expr->Expr->Option SF
 |.Name x p,.ListComp elt [⟨tg,iter,ifs,0⟩] scope cpos=>yS t c x p elt tg iter ifs scope cpos
 |.Name x _,e=>(iQ c x).bind λj=>match c.ml.contains x with
  |true=>els ((Oq t c e).bind λf=>some (rK j f)) (gd (!lY e) ((s.G c e).bind λf=>some (yR (Vp c e) j f)))
  |false=>gd (!lY e) ((s.G c e).bind λf=>some (bJ (aD j) f))
 |.Tuple [.Name x _,.Starred (.Name y _) _] _ _,e=>(iQ c x).bind λi=>(iQ c y).bind λj=>gd (!lY e&&!Ih e) ((s.G c e).bind λf=>some (HY i j f))
 |.Tuple ts _ _,.Tuple vs k2 p2=>els ((UL c ts vs).bind λjs=>(ou t c vs).bind λf=>some (Ov js f)) ((yt c ts).bind λjs=>gd (pcB c ts) ((s.G c (.Tuple vs k2 p2)).bind λf=>some (bJ (jO js) f)))
 |.Tuple ts _ _,e=>(yt c ts).bind λjs=>gd (!lY e&&!Ih e) ((s.G c e).bind λf=>some (bJ (jO js) f))
 |_,_=>none
theorem wz{tg e:Expr}{env:PySem.Env}(h:Ih e=false):swappedStores [tg] e env=pure none:=by cases tg<;>first | rfl | (cases e<;>first | rfl | cases h)
section
variable{aj:aq}{c:Tc}{X:Cx}{W:WX}{k:Nat}{t:Tr}{s:Ts}{q:Bool}
theorem Ld(o:t.Ok)(os:s.Ok q)(a:iV aj c X W k){tg e:Expr}{pos:Pos}{f:SF}(h:Hu t s c tg e=some f):SE aj X W q (.Assign [tg] e pos) f:=by
 unfold Hu at h;split at h
 .exact Hz o a h
 .obtain⟨j,hj,h⟩:=adg.mp h;obtain⟨s1,s2,s3⟩:=dh a.toAmb hj;split at h
  .rcases eV h with h|h
   .obtain⟨f1,h1,h⟩:=adg.mp h;cases h;obtain⟨i1,i2⟩:=Kh o a.toAmb h1;exact JK a.nd s1 s2 s3 i1 (jG i2)
   .obtain⟨hc,h⟩:=au.mp h;obtain⟨f1,h1,h⟩:=adg.mp h;cases h;exact Tq a.nd s1 s2 s3 (os.og a h1) (jG (by simpa using hc))
  .obtain⟨hc,h⟩:=au.mp h;obtain⟨f1,h1,h⟩:=adg.mp h;cases h;exact vL (os.og a h1) (yc a.nd s1 s2 s3) (jH (by simpa using hc)) (by with_unfolding_all rfl) (by with_unfolding_all rfl)
 .obtain⟨i,hi,h⟩:=adg.mp h;obtain⟨j,hj,h⟩:=adg.mp h;obtain⟨hc,h⟩:=au.mp h;obtain⟨f1,h1,h⟩:=adg.mp h;cases h;simp only[adi,ady]at hc;exact Qw a.calm a.nd (dh a.toAmb hi) (dh a.toAmb hj) (os.og a h1) (jH hc.1) (wz hc.2)
 .rcases eV h with h|h
  .obtain⟨js,hj,h⟩:=adg.mp h;obtain⟨f1,h1,h⟩:=adg.mp h;cases h;obtain⟨xs,p1,p2,p3,p4,p5⟩:=Vj a hj;exact XM a.calm a.nd p3 p1 p2 p4 (gW o a.toAmb h1).1 p5 (jH rfl)
  .obtain⟨js,hj,h⟩:=adg.mp h;obtain⟨hc,h⟩:=au.mp h;obtain⟨f1,h1,h⟩:=adg.mp h;cases h;exact vL (os.og a h1) (BX a.calm a.nd (uG a.toAmb hj)) (jH rfl) (Ye (by rw[a.hs];exact hc)) (by with_unfolding_all rfl)
 .obtain⟨js,hj,h⟩:=adg.mp h;obtain⟨hc,h⟩:=au.mp h;obtain⟨f1,h1,h⟩:=adg.mp h;cases h;simp only[adi,ady]at hc;exact vL (os.og a h1) (BX a.calm a.nd (uG a.toAmb hj)) (jH hc.1) (wz hc.2) (by with_unfolding_all rfl)
 .cases h
end
def HF(s:Ts)(c:Tc):List Stmt->Option SF
 |[]=>some bf
 |[a]=>s.S c a
 |a::b::r=>(s.S c a).bind λf=>(s.B c (b::r)).bind λg=>some (aH f g)
def VG(t:Tr)(s:Ts)(c:Tc):Stmt->Option SF
 |.Assign [tg] e _=>Hu t s c tg e
 |.Assign [.Name x _,.Name y _] e _=>(iQ c x).bind λi=>(iQ c y).bind λj=>gd (!Ih e) ((s.G c e).bind λf=>some (Ie i j f))
 |.AugAssign (.Name x _) .Add e _=>(iQ c x).bind λj=>(t.E c e).bind λf=>some (GZ j f)
 |.Expr (.Call (.Attribute (.Name x _) m apos) [e] [] pos) _=>(lO c x).bind λj=>gd (m=="append"&&(c.ml.contains x&&(nst e&&(apos.endLine==pos.line)))) ((t.E c e).bind λf=>some (yh j f))
 |.Expr (.Call (.Attribute (.Name x _) m apos) [] [] pos) _=>(lO c x).bind λj=>gd (m=="clear"&&(c.ml.contains x&&(apos.endLine==pos.line))) (some (jy j))
 |.Return (some e) _=>(match t.E c e with
  |some f=>some (aZ f)
  |none=>(s.G c e).bind λf=>some (vP f))
 |.If d s1 s2 _=>(s.B c s1).bind λf=>(s.B c s2).bind λg=>(t.T c d).bind λtd=>some (dI td f g)
 |.For tg iter body [] _=>(t.I c true tg iter).bind λit=>(zj c tg).bind λjt=>(s.B c body).bind λf=>gd (!jT iter) (some (lV it jt.2 f))
 |_=>none
section
variable{aj:aq}{c:Tc}{X:Cx}{W:WX}{k:Nat}{t:Tr}{s:Ts}{q:Bool}
theorem M6(os:s.Ok q)(a:iV aj c X W k){b:List Stmt}{f:SF}(h:HF s c b=some f):qW aj X W q b f:=by
 unfold HF at h;split at h
 .cases h;exact VB
 .exact Vi (os.os a h)
 .obtain⟨f1,h1,h⟩:=adg.mp h;obtain⟨f2,h2,h⟩:=adg.mp h;cases h;exact Qi (os.os a h1) (os.ob a h2)
theorem U8(o:t.Ok)(os:s.Ok q)(a:iV aj c X W k){st:Stmt}{f:SF}(h:VG t s c st=some f):SE aj X W q st f:=by
 unfold VG at h;split at h
 .exact Ld o os a h
 .obtain⟨i,hi,h⟩:=adg.mp h;obtain⟨j,hj,h⟩:=adg.mp h;obtain⟨hc,h⟩:=au.mp h;obtain⟨f1,h1,h⟩:=adg.mp h;cases h;exact Pq a.nd (dh a.toAmb hi) (dh a.toAmb hj) (os.og a h1) (by with_unfolding_all rfl)
 .obtain⟨j,hj,h⟩:=adg.mp h;obtain⟨f1,h1,h⟩:=adg.mp h;cases h;obtain⟨s1,s2,s3⟩:=dh a.toAmb hj;exact Wb a.nd s1 s2 s3 (o.oe a.toAmb h1)
 .obtain⟨j,hj,h⟩:=adg.mp h;obtain⟨hc,h⟩:=au.mp h;obtain⟨f1,h1,h⟩:=adg.mp h;cases h;simp only[adi]at hc;cases aeD hc.1;obtain⟨s1,s2,s3,s4⟩:=iZ a.toAmb hj;exact WD s1 s2 s3 s4 (o.oe a.toAmb h1) hc.2.2.1 hc.2.2.2
 .obtain⟨j,hj,h⟩:=adg.mp h;obtain⟨hc,h⟩:=au.mp h;cases h;simp only[adi]at hc;cases aeD hc.1;obtain⟨s1,s2,s3,s4⟩:=iZ a.toAmb hj;exact Mu s1 s2 s3 s4 hc.2.2
 .split at h
  .next f1 h1=>
   cases h;exact R4 (o.oe a.toAmb h1)
  .obtain⟨f1,h1,h⟩:=adg.mp h;cases h;exact QS (os.og a h1)
 .obtain⟨f1,h1,h⟩:=adg.mp h;obtain⟨f2,h2,h⟩:=adg.mp h;obtain⟨td,h3,h⟩:=adg.mp h;cases h;exact W8 (o.ot a.toAmb h3) (os.ob a h1) (os.ob a h2)
 .obtain⟨it,h1,h⟩:=adg.mp h;obtain⟨⟨js,tf⟩,h2,h⟩:=adg.mp h;obtain⟨f1,h3,h⟩:=adg.mp h;obtain⟨hc,h⟩:=au.mp h;cases h;exact VP a.ps a.calm (o.oi a.toAmb h1) (gR a.toAmb h2) (os.ob a h3) (fj (by simpa using hc))
 .cases h
end
abbrev GA:=Mo->Env->aG (List Dat)
def VH(a:GF)(r:GA):GA:=λM Z=>(a M Z).bind λd M1=>(r M1 Z).bind λds M2=>.ok (d::ds) M2
def U5(m:Mo->List Dat->aG Dat)(as:GA):GF:=λM Z=>(as M Z).bind λds M1=>m M1 ds
def Tj(m:Mo->List Dat->Out Dat)(as:GA):GF:=λM Z=>(as M Z).bind λds M1=>(m M1 ds).at M1
section
variable{X:Cx}{aj:aq}{W:WX}{q:Bool}{a b e:Expr}{es:List Expr}{pos p:Pos}
variable{x:Str}{k:Nat}{f:Addr}{fd:FuncData}{ps:List Str}
def W7(a:GT):GT:=λM Z=>(a M Z).bind λb M1=>.ok (!b) M1
def Ym(a b:GT):GT:=λM Z=>(a M Z).bind λx M1=>if x=true then b M1 Z else .ok false M1
def ZJ(a b:GT):GT:=λM Z=>(a M Z).bind λx M1=>if x=true then .ok true M1 else b M1 Z
def Yn(a:GF):GT:=λM Z=>(a M Z).bind λd M1=>(qM d).at M1
end
section
variable{aj:aq}{c:Tc}{X:Cx}{W:WX}{k:Nat}{t:Tr}{s:Ts}{q:Bool}
def xG(t:Tr)(s:Ts)(c:Tc):Expr->Option GF
 |.Call (.Name x _) [] [] _=>(match c.G.lookup x with
  |some (.cls 0 m)=>gd (oR c.sc x&&!oM x) (some (sE x m aP))
  |_=>none)
 |.Call (.Name x _) (e::es) [] _=>(match c.G.lookup x with
  |some (.fg n m)=>gd (oR c.sc x&&(!oM x&&decide ((e::es).length=n))) ((ou t c (e::es)).bind λas=>some (vZ m as))
  |some (.cls n m)=>gd (oR c.sc x&&(!oM x&&decide ((e::es).length=n))) ((ou t c (e::es)).bind λas=>some (sE x m as))
  |_=>none)
 |.Call (.Attribute o m apos) es [] pos=>(c.hs.Ms.lookup m).bind λtb=>(t.W c o).bind λfo=>(ou t c es).bind λas=>
  gd (Ul tb (es.length+1)&&(baseOk o&&(decide (es.length<30)&&(apos.endLine==pos.line)))) (some (jM tb fo as))
 |.Compare a [op] [b] _=>(match Ot op with
  |some neg=>(rE b).bind λd=>(s.G c a).bind λfa=>some (Us neg d fa)
  |none=>(rH op).bind λo=>(s.G c a).bind λfa=>(t.W c b).bind λfb=>gd (!jT b) (some (WM o fa fb)))
 |_=>none
theorem Yl(o:t.Ok)(os:s.Ok false)(a:iV aj c X W k){e:Expr}{f:GF}(h:xG t s c e=some f):GE aj X W false e f:=by
 unfold xG at h;split at h
 .split at h
  .next m hl=>
   obtain⟨hb,h⟩:=au.mp h;cases h;simp only[adi,ady]at hb;exact Qn a.rm (a.gl _ _ hl) (gU a.toAmb hb.1) (gY hb.2).1
  .cases h
 .split at h
  .next n m hl=>
   obtain⟨hb,h⟩:=au.mp h;simp only[adi,ady,aew]at hb;obtain⟨b1,b2,b3⟩:=hb;obtain⟨fa,hm,hk,fd,ps,j,hj,hp,hB,F⟩:=a.gl _ _ hl;obtain⟨as,h1,h⟩:=adg.mp h;cases h;obtain⟨i1,i2,i3⟩:=gW o a.toAmb h1;exact Rp (a.tw hl rfl) F (a.rm.mono hj) (gU a.toAmb b1) hm hk hB i1 (b3.trans hp.symm) (gY b2).1 i2 i3
  .next n m hl=>
   obtain⟨hb,h⟩:=au.mp h;simp only[adi,ady,aew]at hb;obtain⟨b1,b2,b3⟩:=hb;obtain⟨as,h1,h⟩:=adg.mp h;cases h;obtain⟨i1,i2,i3⟩:=gW o a.toAmb h1;exact Wn a.rm (a.gl _ _ hl) (gU a.toAmb b1) (gY b2).1 i1 i2 (λM Z ds z=>by rw[i3 M Z ds z];exact b3)
  .cases h
 .next b m apos es pos=>
  obtain⟨tb,h1,h⟩:=adg.mp h;obtain⟨fo,h2,h⟩:=adg.mp h;obtain⟨as,h3,h⟩:=adg.mp h;obtain⟨hb,h⟩:=au.mp h;cases h;simp only[adi,aew]at hb;obtain⟨b2,b3,b4,b5⟩:=hb;obtain⟨i1,i2,i3⟩:=gW o a.toAmb h3;cases es with
  |nil=>
   cases h3;exact Ny (a.tm h1) a.rm (Ad a.toAmb h1 b2) (o.ow a.toAmb h2) b3 b5
  |cons e es=>exact Rr (a.tm h1) a.rm (Ad a.toAmb h1 b2) (o.ow a.toAmb h2) i1 i3 b3 i2 b5 b4
 .split at h
  .next neg hn=>
   obtain⟨d,h1,h⟩:=adg.mp h;obtain⟨fa,h2,h⟩:=adg.mp h;cases h;obtain⟨v,v1,v2,v3⟩:=yd (X:=X) h1;refine Yh v1 (Bg hn v2) (os.og a h2) v3 (jE ?_);unfold rE at h1;split at h1<;>first | rfl | cases h1
  .obtain⟨op,h1,h⟩:=adg.mp h;obtain⟨fa,h2,h⟩:=adg.mp h;obtain⟨fb,h3,h⟩:=adg.mp h;obtain⟨hb,h⟩:=au.mp h;cases h;obtain⟨r,r1,r2⟩:=lu h1 (X:=X) a.rm aj W;exact R7 r1 r2 (os.og a h2) (o.ow a.toAmb h3) (jE (by simpa using hb))
 .cases h
theorem qL{e o:Expr}{f:Str}{p:Pos}{l:Nat}{env:PySem.Env}:swapsWith e (some (.Attribute o f p)) l env=pure false:=by cases e<;>rfl
theorem M7{e o:Expr}{i:Expr}{p:Pos}{l:Nat}{env:PySem.Env}:swapsWith e (some (.Subscript o i p)) l env=pure false:=by cases e<;>rfl
theorem MF{o:Expr}{f:Str}{p spos:Pos}{i:Expr}{env:PySem.Env}(h:vg i=false):∀v,assign (.Subscript (.Attribute o f p) i spos) env v=(do
   let ov <-holding [v] (eval (.Attribute o f p) env)
   let iv <-holding [v,ov] (eval i env)
   standAt spos
   holding [v,ov,iv] (setItem ov iv v)
   release [v,ov,iv] []):=λv=>by
 cases i<;>first | (with_unfolding_all rfl) | cases h
def V1(t:Tr)(c:Tc)(kx tg iter:Expr)(scope:Scope):Option (Mo->Env->Out (List (Dat×Dat))):=
 (t.I c false tg iter).bind λit=>(zj (c.inn scope) tg).bind λjt=>(t.E (c.inn scope) kx).bind λte=>
  gd (blkC c.N c.sc scope (fY tg jt.1)&&(u6 jt.1 ((fY tg jt.1).map (·.2))&&!jT iter)) (some (Vb it jt.2 ((fY tg jt.1).map (·.2)) te))
theorem M9(a:Amb aj c X W k):X.A.units+64<cLine:=by have:=a.rm.un;omega
def NZ(t:Tr)(s:Ts)(c:Tc)(o:Expr)(f:Str):Expr->Option SF
 |.Dict [] [] _=>(t.W c o).bind λfo=>(c.hs.df.lookup f).bind λb=>some (Ax c.hs.ft fo f b)
 |.DictComp kx (.Constant (.bool true) _ _) [⟨tg,iter,[],0⟩] scope _=>(t.W c o).bind λfo=>(V1 t c kx tg iter scope).bind λfe=>some (Af c.hs.ft fo f fe)
 |.List es p=>(t.W c o).bind λfo=>(Oq t c (.List es p)).bind λfe=>some (tV c.hs.ft fo f fe)
 |e=>gd (!lY e) ((t.W c o).bind λfo=>(s.G c e).bind λfe=>some (Ip c.hs.ft fo f fe))
theorem QV(ot:t.Ok)(os:s.Ok false)(a:iV aj c X W k){o e:Expr}{f:Str}{p pos:Pos}{sf:SF}(h:NZ t s c o f e=some sf):SE aj X W false (.Assign [.Attribute o f p] e pos) sf:=by
 have hk:=a.hk;unfold NZ at h;split at h
 .obtain⟨fo,h1,h⟩:=adg.mp h;obtain⟨b,h2,h⟩:=adg.mp h;cases h;exact Q6 hk.co hk.fk hk.hw (ot.ow a.toAmb h1) qL
 .obtain⟨fo,h1,h⟩:=adg.mp h;obtain⟨fe,h2,h⟩:=adg.mp h;cases h;unfold V1 at h2;obtain⟨it,i1,h2⟩:=adg.mp h2;obtain⟨⟨js,tf⟩,i2,h2⟩:=adg.mp h2;obtain⟨te,i3,h2⟩:=adg.mp h2;obtain⟨hb,h2⟩:=au.mp h2;cases h2;simp only[adi,ady]at hb;obtain⟨b1,b2,b3⟩:=hb;exact Rk hk.co hk.fk (ot.ow a.toAmb h1) (R6 (g:=j6 X.K aj js tf) (tk:=tQ X.K aj WF te) a.calm a.nd (M9 a.toAmb) (ot.oi a.toAmb i1) (blkOk_by (by rw[a.hN,a.hs];exact b1)) (λs H C cl fp=>gR (a.toAmb.inn _ s H C cl fp) i2) (λs H C cl fp=>ot.oe (a.toAmb.inn _ s H C cl fp) i3) (fj b3)) (λσ H Q z=>Xm hk.hw (d7 b2) σ H Q z) qL
 .obtain⟨fo,h1,h⟩:=adg.mp h;obtain⟨fe,h2,h⟩:=adg.mp h;cases h;exact Rq hk.co hk.fk (ot.ow a.toAmb h1) (Kh ot a.toAmb h2).1 qL
 .obtain⟨hc,h⟩:=au.mp h;obtain⟨fo,h1,h⟩:=adg.mp h;obtain⟨fe,h2,h⟩:=adg.mp h;cases h;exact PB hk.co hk.fk (ot.ow a.toAmb h1) (os.og a h2) qL
def BL(n:Str):List Expr->Option (List Str)
 |[]=>some []
 |.Attribute (.Name m _) f _::es=>gd (m==n) ((BL n es).bind λfs=>some (f::fs))
 |_=>none
def G4(c:Tc)(nm:Option Str):Expr->Option nZ
 |.Constant (.str x) _ _=>some (.con (.str x))
 |.Constant .none _ _=>some (.con .none)
 |.Tuple [] _ _=>some (.con (.tuple []))
 |.Attribute (.Name m _) f _=>nm.bind λn=>gd (m==n) (some (.fld f))
 |.Tuple es _ _=>nm.bind λn=>(BL n es).bind λfs=>some (.flds fs)
 |_=>none
def nZ.fs:nZ->List Str
 |.con _=>[]
 |.fld f=>[f]
 |.flds fs=>fs
def Ir(c:Tc)(nm:Option Str):List Stmt->Option (List (Nat×nZ))
 |[]=>some []
 |.Assign [.Name x _] e _::r=>(iQ c x).bind λj=>(G4 c nm e).bind λse=>(Ir c nm r).bind λst=>some ((j,se)::st)
 |_=>none
def yH(c:Tc):Option Str->Option (Option Nat)
 |none=>some none
 |some n=>(lO c n).bind λi=>match c.sc.names.lookup n with
  |some .local=>some (some i)
  |_=>none
def Uw(c:Tc):ExceptHandler->Option Hd
 |.ExceptHandler (some (.Name y _)) nm (s0::su) _=>(c.hs.xm.lookup y).bind λtab=>(yH c nm).bind λi=>(Ir c nm (s0::su)).bind λst=>
  (match c.G.lookup y with
  |some .exc=>some true
  |some (.exi _)=>some true
  |_=>none).bind λ_=>
  gd (oR c.sc y&&(!oM y&&(st.all (λp=>match i with
   |some j=>!(j==p.1)
   |none=>true)&&st.all (λp=>p.2.fs.all (λf=>((c.hs.xf.lookup y).getD []).contains f)&&decide (p.2.fs.length<=100))))) (some ⟨y,λx=>tab.lookup x,i,st⟩)
 |_=>none
def wj(c:Tc):List ExceptHandler->Option (List Hd)
 |[]=>some []
 |h::hs=>(Uw c h).bind λd=>(wj c hs).bind λds=>some (d::ds)
theorem Fg{y n:Str}{C:Addr}{a:Addr}{oe:Obj}{cls:Value}{d:Option Addr}{pn:List (Addr×Obj)}{j:Nat}{fl:List Str}(hC:aj y=some C)(T:XfC X.K C)(hno:∀f∈fl,PySem.W.findIn X.K (.ref C) f=some none)(hz:Zc cls d oe)(hf:∃vs,oe.data=.fields vs)(hN:X.N[j]?=some n)(hv:Vis X.env.scope n)(hd:(n==("__debug__" : Str))=false)(hcd:(n==("__classdict__" : Str))=false) :
  ∀{es:List Expr} {fs:List Str},BL n es=some fs->(∀f∈fs,f∈fl)->PA (X.suite a ((a,oe)::pn)) es (Jm X.K aj a cls d (some j) λx=>v9 y x fs)
 |[],fs,h,_=>by
  cases h;exact Jx
 |.Attribute (.Name m p) f p2::es,fs,h,hs=>by
  rw[BL]at h;obtain⟨hm,h⟩:=au.mp h;obtain⟨fr,h1,h⟩:=adg.mp h;cases h;cases aeD hm;exact Qo (JG hC T (hno f (hs f adn)) hz hf hN hv hd hcd) (Fg hC T hno hz hf hN hv hd hcd h1 λf hf=>hs f (adt _ hf)) rfl
theorem Pj{y:Str}{nm:Option Str}{i:Option Nat}{a:Addr}{oe:Obj}{cls:Value}{d:Option Addr}{pn:List (Addr×Obj)}{e:Expr}{se:nZ}(am:Amb aj c X W k)(hi:yH c nm=some i)(hy:(c.hs.xf.lookup y).getD []=fl)(hfl:∀f∈se.fs,f∈fl)(hl:se.fs.length<=100)(hz:Zc cls d oe)(hf:∃vs,oe.data=.fields vs)(h:G4 c nm e=some se) :
  PE (X.suite a ((a,oe)::pn)) e (tU X.K aj a cls d i λx=>Cd y x se):=by
 have fld:∀n j,nm=some n->i=some j->X.N[j]?=some n/\Vis X.env.scope n/\(n==("__debug__" : Str))=false/\(n==("__classdict__" : Str))=false:=λn j e1 e2=>by
  subst e1 e2;unfold yH at hi;obtain⟨j',h1,hi⟩:=adg.mp hi;split at hi
  .cases hi;exact iZ am h1
  .cases hi
 have hsome:∀n,nm=some n->∃j,i=some j:=λn e1=>by
  subst e1;unfold yH at hi;obtain⟨j',h1,hi⟩:=adg.mp hi;split at hi
  .cases hi;exact⟨_,rfl⟩
  .cases hi
 have hxf:fl≠[]->∃C,aj y=some C/\XfC X.K C/\∀f∈fl,PySem.W.findIn X.K (.ref C) f=some none:=λne=>by
  cases hx:c.hs.xf.lookup y with
  |none=>
   rw[hx]at hy;exact absurd hy.symm ne
  |some l=>
   rw[hx]at hy;cases hy;exact am.hk.xf y _ hx
 unfold G4 at h;split at h
 .cases h;exact Jp pe_str λσ H Q ⟨g,Z,M,x,z,I,e,kk⟩=>by
   cases e;exact kk _ H (Ex.refl H) (.str _)
 .cases h;exact Jp pe_non λσ H Q ⟨g,Z,M,x,z,I,e,kk⟩=>by
   cases e;exact kk _ H (Ex.refl H) .non
 .cases h;exact PE.weak (KQ (aj:=aj) (cls:=cls) (d:=d) (i:=i) Jx λx zs e=>by cases e;exact adR _) λσ H Q z=>z
 .obtain⟨n,e1,h⟩:=adg.mp h;obtain⟨hm,h⟩:=au.mp h;cases h;cases aeD hm;obtain⟨j,rfl⟩:=hsome _ e1;obtain⟨f1,f2,f3,f4⟩:=fld _ j e1 rfl;obtain⟨C,c1,c2,c3⟩:=hxf (List.ne_nil_of_mem (hfl _ (adF.mpr rfl)));exact JG c1 c2 (c3 _ (hfl _ (adF.mpr rfl))) hz hf f1 f2 f3 f4
 .next es _ _ hne=>
  obtain⟨n,e1,h⟩:=adg.mp h;obtain⟨fs,e2,h⟩:=adg.mp h;cases h;obtain⟨j,rfl⟩:=hsome _ e1;obtain⟨f1,f2,f3,f4⟩:=fld _ j e1 rfl;have hfs:fs≠[]:=λz=>by
   subst z
   match es,e2 with
   |[],_=>exact hne rfl
   |.Attribute (.Name m _) f _::es,e2=>
    rw[BL]at e2;obtain⟨_,e2⟩:=au.mp e2;obtain⟨_,_,e2⟩:=adg.mp e2;cases e2
  have hfn:fl≠[]:=by
   cases fs with
   |nil=>exact absurd rfl hfs
   |cons f r=>exact List.ne_nil_of_mem (hfl f adn)
  obtain⟨C,c1,c2,c3⟩:=hxf hfn;exact KQ (Fg c1 c2 c3 hz hf f1 f2 f3 f4 e2 hfl) λx zs e=>by
   have:=zm e;have hl:fs.length<=100:=hl;omega
 .cases h
theorem xP{y:Str}{nm:Option Str}{i:Option Nat}{a:Addr}{oe:Obj}{cls:Value}{d:Option Addr}{pn:List (Addr×Obj)}{fl:List Str}(am:Amb aj c X W k)(hi:yH c nm=some i)(hy:(c.hs.xf.lookup y).getD []=fl)(hz:Zc cls d oe)(hf:∃vs,oe.data=.fields vs) :
  ∀{ss:List Stmt} {st:List (Nat×nZ)},Ir c nm ss=some st->(∀p∈st,(∀f∈p.2.fs,f∈fl)/\p.2.fs.length<=100)->PSs (X.suite a ((a,oe)::pn)) ss (FP X.K aj a cls d i y st)
 |[],st,h,_=>by
  cases h;exact PSs.weak pss_nil λD σ H z=>S8 z
 |.Assign [.Name x p] e p2::r,st,h,hs=>by
  rw[Ir]at h;obtain⟨j,h1,h⟩:=adg.mp h;obtain⟨se,h2,h⟩:=adg.mp h;obtain⟨st',h3,h⟩:=adg.mp h;cases h;obtain⟨s1,s2,s3⟩:=dh am h1;obtain⟨u1,u2⟩:=hs (j,se) adn;have he:=Pj (a:=a) (pn:=pn) am hi hy u1 u2 hz hf h2;have hne:lY e=false/\swappedStores [.Name x p] e X.env=pure none:=by unfold G4 at h2;split at h2<;>first | exact⟨rfl,rfl⟩ | cases h2
  refine PSs.weak (pss_cons (ps_asg he (pg_name (X:=X.suite a ((a,oe)::pn)) am.nd s1 s2 s3) (jH hne.1) hne.2 (by with_unfolding_all rfl)) (xP am hi hy hz hf h3 λp hp=>hs p (adt _ hp))) λD σ H z=>?_;exact Vh z λσ' H' z'=>z'
def ZL(aj:aq)(K:adh)(h:Hd)(D:Addr):Cl:=⟨.ref D,h.nm,λa cls d=>FP K aj a cls d h.nm h.y h.st⟩
theorem Ce(am:Amb aj c X W k):∀{hds:List ExceptHandler} {hs:List Hd},wj c hds=some hs->∃ls,mJ X hds ls/\pC X.K aj hs ls
 |[],hs,h=>by
  cases h;exact⟨[],.nil,.nil⟩
 |h0::hds,hs,h=>by
  rw[wj]at h;obtain⟨d,h1,h⟩:=adg.mp h;obtain⟨ds,h2,h⟩:=adg.mp h;cases h;obtain⟨ls,i1,i2⟩:=Ce am h2;unfold Uw at h1;split at h1
  .next y np nm s0 su cp=>
   obtain⟨tab,j1,h1⟩:=adg.mp h1;obtain⟨i,j2,h1⟩:=adg.mp h1;obtain⟨st,j3,h1⟩:=adg.mp h1;obtain⟨_,j4,h1⟩:=adg.mp h1;obtain⟨hb,h1⟩:=au.mp h1;cases h1;simp only[adi,ady]at hb;obtain⟨b1,b2,b3,b4⟩:=hb;obtain⟨⟨D,hD⟩,hx⟩:=am.hk.xm y tab j1;have hm:X.mg y=some (.ref D):=by
    split at j4
    .next hl=>
     obtain⟨C,g1,g2,_⟩:=am.gl y _ hl;rw[hD]at g2;cases g2;exact g1
    .next hl=>
     obtain⟨C,fI,fd,ps,g1,g2,_⟩:=am.gl y _ hl;rw[hD]at g2;cases g2;exact g1
    .cases j4
   have hnames:Names X y (.ref D):=⟨gU am b1,(gY b2).1,.inl hm⟩;have hst:∀p∈st,(∀f∈p.2.fs,f∈(c.hs.xf.lookup y).getD [])/\p.2.fs.length<=100:=λp hp=>by
    have:=adG.mp b4 p hp;rw[adi,aew]at this;exact⟨λf hf=>by simpa using adG.mp this.1 f hf,this.2⟩
   have hnj:∀p∈st,i≠some p.1:=λp hp z=>by
    subst z;have:=adG.mp b3 p hp;simp at this
   refine⟨ZL aj X.K ⟨y,λx=>tab.lookup x,i,st⟩ D::ls,?_,.cons ⟨⟨D,hD,rfl⟩,hx,rfl,rfl,hnj⟩ i2⟩;cases nm with
   |none=>
    cases j2;exact .one hnames rfl (λa oe cls d pn hz hf=>xP am rfl rfl hz hf j3 hst) i1
   |some n=>
    have j2':=j2;unfold yH at j2;obtain⟨i',s1,j2⟩:=adg.mp j2;split at j2
    .next hloc=>
     cases j2;refine .as hnames rfl (iZ am s1).1 ?_ (λa oe cls d pn hz hf=>xP am j2' rfl hz hf j3 hst) i1;unfold PySem.Env.kindOf;rw[am.hs];exact hloc
    .cases j2
  .cases h1
theorem M8(a:Amb aj c X W k){h:ExceptHandler}{hds:List ExceptHandler}{hs:List Hd}(z:wj c (h::hds)=some hs):Takes X W:=
 a.tk
theorem iV.tr(a:iV aj c X W k){W':WX}{pn:List (Addr×Obj)}{xe:Value->Shared->Prop}(t:Takes (X.tr pn xe) W')(p:PassesOwn (model X.prog X.w) X.A X.env xe):iV aj c (X.tr pn xe) W' k where
 hN:=a.hN
 hs:=a.hs
 calm:=a.calm
 nd:=a.nd
 tk:=t
 rm:=a.rm
 gl:=a.gl
 bl:=a.bl
 fn:=a.fn
 hk:=a.hk
 ps:=p
 st:=a.st
 fr:=a.fr
 kf:=a.kf
def frA(c:Tc):Expr->Bool
 |.Name x _=>!c.ml.contains x
 |_=>true
def xL(t:Tr)(c:Tc):Stmt->Option SF
 |.Assign [.Name x p] (.ListComp elt [⟨tg,iter,ifs,0⟩] scope cpos) _=>(iQ c x).bind λj=>gd (c.ml.contains (V2 x)&&(Ja c.sc (.ListComp elt [⟨tg,iter,ifs,0⟩] scope cpos) scope x p || Il c.sc (.ListComp elt [⟨tg,iter,ifs,0⟩] scope cpos) x p)) ((Aj t c elt tg iter ifs scope).bind λf=>some (vD j f))
 |.Assign [.Name x _] (.Call (.Name y _) (e::es) [] _) _=>(iQ c x).bind λj=>gd (c.ml.contains x&&(e::es).all (frA c)) (match c.G.lookup y with
  |some (.fg n m)=>gd (oR c.sc y&&(!oM y&&decide ((e::es).length=n))) ((ou t c (e::es)).bind λas=>some (wJ j m as))
  |_=>none)
 |.Assign [.Subscript (.Name x _) i _] e _=>(lO c x).bind λj=>gd (c.ml.contains (V2 x)&&(!lY e&&!vg i)) ((t.E c e).bind λf=>(t.E c i).bind λfi=>some (uf j fi f))
 |_=>none
theorem Xf(o:t.Ok)(a:iV aj c X W k){st:Stmt}{f:SF}(h:xL t c st=some f):SE aj X W false st f:=by
 unfold xL at h;split at h
 .next x p elt tg iter ifs scope cpos pos=>
  obtain⟨j,hj,h⟩:=adg.mp h;obtain⟨hsw,h⟩:=au.mp h;obtain⟨s1,s2,s3⟩:=dh a.toAmb hj;rw[adi,ad6]at hsw;obtain⟨f1,h1,h⟩:=adg.mp h;cases h;unfold Aj at h1;obtain⟨it,h2,h1⟩:=adg.mp h1;obtain⟨⟨js,tf⟩,h3,h1⟩:=adg.mp h1;obtain⟨tt,h4,h1⟩:=adg.mp h1;obtain⟨te,h5,h1⟩:=adg.mp h1;obtain⟨hb,h1⟩:=au.mp h1;cases h1;simp only[adi,ady]at hb;obtain⟨b1,b2,b3⟩:=hb;rcases hsw.2 with hsw|hsw
  .rw[<-a.hs]at hsw;obtain⟨l1,l2⟩:=tK (l:=pos.line) a.kf hsw;exact Ww a.calm a.nd s1 l1 l2 (o.oi a.toAmb h2) (by rw[a.hN,a.hs];exact b1) (d7 b2) (λs H C cl fp=>gR (a.toAmb.inn scope s H C cl fp) h3) (λs H C cl fp=>iy o (a.toAmb.inn scope s H C cl fp) h4) (λs H C cl fp=>o.oe (a.toAmb.inn scope s H C cl fp) h5) (fj b3)
  .exact Wz a.nd s1 s2 s3 (Ol a.calm a.nd (o.oi a.toAmb h2) (by rw[a.hN,a.hs];exact b1) (d7 b2) (λs H C cl fp=>gR (a.toAmb.inn scope s H C cl fp) h3) (λs H C cl fp=>iy o (a.toAmb.inn scope s H C cl fp) h4) (λs H C cl fp=>o.oe (a.toAmb.inn scope s H C cl fp) h5) (fj b3)) (DP (by rw[a.hs];exact hsw))
 .obtain⟨j,hj,h⟩:=adg.mp h;obtain⟨_,h⟩:=au.mp h;obtain⟨s1,s2,s3⟩:=dh a.toAmb hj;split at h
  .next n m hl=>
   obtain⟨hb,h⟩:=au.mp h;simp only[adi,ady,aew]at hb;obtain⟨b1,b2,b3⟩:=hb;obtain⟨as,h1,h⟩:=adg.mp h;cases h;obtain⟨fa,hm,hk,fd,ps,j',hj',hp,hB,F⟩:=a.gl _ _ hl;obtain⟨i1,i2,i3⟩:=gW o a.toAmb h1;exact Rg (a.tw hl rfl) F (a.rm.mono hj') (gU a.toAmb b1) hm hk hB i1 (b3.trans hp.symm) (gY b2).1 i2 i3 a.nd s1 s2 s3 (jG rfl)
  .cases h
 .obtain⟨j,hj,h⟩:=adg.mp h;obtain⟨hb,h⟩:=au.mp h;obtain⟨f1,h1,h⟩:=adg.mp h;obtain⟨f2,h2,h⟩:=adg.mp h;cases h;simp only[adi,ady]at hb;obtain⟨s1,s2,s3,s4⟩:=iZ a.toAmb hj;exact Rm s1 s2 s3 s4 (o.oe a.toAmb h1) (o.oe a.toAmb h2) (Q8 hb.2.2) (jH hb.2.1) (by with_unfolding_all rfl)
 .cases h
def xS(q:Bool)(t:Tr)(s:Ts)(c:Tc):Stmt->Option SF
 |.Raise (some (.Call (.Name x _) [] [] _)) none _=>(match c.G.lookup x with
  |some .exc=>gd (oR c.sc x&&!oM x) (some (mX x))
  |_=>none)
 |.Raise (some (.Call (.Name x _) (e::es) [] _)) none _=>(match c.G.lookup x with
  |some (.exi fs)=>(ou t c (e::es)).bind λas=>gd (oR c.sc x&&(!oM x&&(decide ((e::es).length=fs.length)&&decide (fs.length<=1000)))) (some (uH x fs as))
  |_=>none)
 |.Try body (h::hds) [] [] _=>(s.B c body).bind λf=>(wj c (h::hds)).bind λhs=>some (Df f hs)
 |.Pass _=>some bf
 |.Expr (.Call (.Attribute (.Attribute o f p1) m apos) [e] [] pos) epos=>(match q with
  |true=>(s.G c (.Call (.Attribute (.Attribute o f p1) m apos) [e] [] pos)).bind λf=>some (lA f)
  |false=>match m=="append" with
   |true=>gd (baseOk o&&(nst e&&(apos.endLine==pos.line))) ((t.W c o).bind λfo=>(s.G c e).bind λfe=>some (uQ f fo fe))
   |false=>(s.G c (.Call (.Attribute (.Attribute o f p1) m apos) [e] [] pos)).bind λf=>some (lA f))
 |.Expr (.Call (.Attribute o m apos) [] [] pos) _=>els ((t.E c o).bind λf=>gd (m=="clear"&&(baseOk o&&(apos.endLine==pos.line))) (some (Ah (Vp c o) f))) ((s.G c (.Call (.Attribute o m apos) [] [] pos)).bind λf=>some (lA f))
 |.Expr e _=>gd (!lY e) ((s.G c e).bind λf=>some (lA f))
 |.Assign [.Name x p] (.ListComp elt [⟨tg,iter,ifs,0⟩,⟨tg1,iter1,ifs1,0⟩] scope cpos) _=>(iQ c x).bind λj=>
  gd (Ja c.sc (.ListComp elt [⟨tg,iter,ifs,0⟩,⟨tg1,iter1,ifs1,0⟩] scope cpos) scope x p&&!c.ml.contains x) ((wg t c elt tg iter ifs tg1 iter1 ifs1 scope).bind λf=>some (bJ (aD j) (gOf f)))
 |.Assign [.Attribute o f _] e _=>(match q with
  |true=>none
  |false=>NZ t s c o f e)
 |.Assign [.Subscript (.Attribute o f _) i _] e _=>(match q with
  |true=>none
  |false=>gd (baseOk o&&(!vg i&&!lY e)) ((t.W c o).bind λfo=>(t.E c i).bind λfi=>(t.E c e).bind λfe=>match c.hs.df.lookup f with
   |some _=>some (Ae f fo fi fe)
   |none=>some (wA f fo fi fe)))
 |.AugAssign (.Attribute o f _) .Add e _=>(match q with
  |true=>none
  |false=>(t.W c o).bind λfo=>(t.E c e).bind λfe=>some (Ay c.hs.ft f fo fe))
 |.Delete [.Subscript (.Attribute o f _) i _] _=>(match q with
  |true=>none
  |false=>gd (baseOk o) ((t.W c o).bind λfo=>(t.E c i).bind λfi=>some (Ak f fo fi)))
 |_=>none
theorem Yj(o:t.Ok)(os:s.Ok q)(a:iV aj c X W k){st:Stmt}{f:SF}(h:xS q t s c st=some f):SE aj X W q st f:=by
 have hk:=a.hk;unfold xS at h;split at h
 .split at h
  .next hl=>
   obtain⟨hb,h⟩:=au.mp h;cases h;simp only[adi,ady]at hb;exact Mh a.calm a.tk (gU a.toAmb hb.1) (gY hb.2).1 (a.gl _ _ hl)
  .cases h
 .split at h
  .next fs hl=>
   obtain⟨as,h1,h⟩:=adg.mp h;obtain⟨hb,h⟩:=au.mp h;cases h;simp only[adi,ady,aew]at hb;obtain⟨b1,b2,b3,b4⟩:=hb;obtain⟨i1,i2,i3⟩:=gW o a.toAmb h1;exact Ks a.calm (a.tw hl rfl) a.rm (gU a.toAmb b1) (gY b2).1 (a.gl _ _ hl) i1 i2 (λM Z ds z=>by rw[i3 M Z ds z];exact b3) b4
  .cases h
 .obtain⟨f1,h1,h⟩:=adg.mp h;obtain⟨hs,h2,h⟩:=adg.mp h;cases h;obtain⟨ls,i1,i2⟩:=Ce a.toAmb h2;exact UW a.st a.fr a.nd (M8 a.toAmb h2) (λW' pn xe t p=>os.ob (a.tr t p) h1) i1 i2
 .cases h;exact PS.weak ps_pass λD σ H ⟨g,Z,M,I,z⟩=>z σ H g .refl I
 .split at h
  .obtain⟨f1,h1,h⟩:=adg.mp h;cases h;exact uE (os.og a h1) (jG rfl)
  .split at h
   .next hm=>
    obtain⟨hb,h⟩:=au.mp h;obtain⟨fo,h1,h⟩:=adg.mp h;obtain⟨fe,h2,h⟩:=adg.mp h;cases h;simp only[adi]at hb;cases aeD hm;exact Qa hk.co (o.ow a.toAmb h1) hb.1 (os.og a h2) hb.2.1 hb.2.2
   .obtain⟨f1,h1,h⟩:=adg.mp h;cases h;exact uE (os.og a h1) (jG rfl)
 .rcases eV h with h|h
  .obtain⟨f1,h1,h⟩:=adg.mp h;obtain⟨hb,h⟩:=au.mp h;cases h;simp only[adi]at hb;cases aeD hb.1;exact P0 (o.oe a.toAmb h1) hb.2.1 hb.2.2
  .obtain⟨f1,h1,h⟩:=adg.mp h;cases h;exact uE (os.og a h1) (jG rfl)
 .obtain⟨hb,h⟩:=au.mp h;obtain⟨f1,h1,h⟩:=adg.mp h;cases h;exact uE (os.og a h1) (jG (by simpa using hb))
 .obtain⟨j,hj,h⟩:=adg.mp h;obtain⟨hsw,h⟩:=au.mp h;rw[adi]at hsw;obtain⟨f1,h1,h⟩:=adg.mp h;cases h;obtain⟨s1,s2,s3⟩:=dh a.toAmb hj;have hsw:=hsw.1;rw[<-a.hs]at hsw;have l1:=(tK (l:=0) a.kf hsw).1;have l2:=λl=>(tK (l:=l) a.kf hsw).2;clear h;unfold wg at h1;obtain⟨it,g1,h⟩:=adg.mp h1;obtain⟨⟨js,tf⟩,h2,h⟩:=adg.mp h;obtain⟨tt,h3,h⟩:=adg.mp h;obtain⟨it1,h4,h⟩:=adg.mp h;obtain⟨⟨js1,tf1⟩,h5,h⟩:=adg.mp h;obtain⟨tt1,h6,h⟩:=adg.mp h;obtain⟨te,h7,h⟩:=adg.mp h;obtain⟨hb,h⟩:=au.mp h;cases h;simp only[adi,ady]at hb;obtain⟨b1,b2,b3,b4,b5,b6⟩:=hb;have am:=a.toAmb;exact Qe a.calm a.nd s1 l1 (l2 _) (o.oi am g1) (by rw[a.hN,a.hs];exact b1) (d7 b2) (d7 b3) (d7 b4) (λs H C cl fp=>gR (am.inn _ s H C cl fp) h2) (λs H C cl fp=>iy o (am.inn _ s H C cl fp) h3) (λs H C cl fp=>o.oi (am.inn _ s H C cl fp) h4) (λs H C cl fp=>gR (am.inn _ s H C cl fp) h5) (λs H C cl fp=>iy o (am.inn _ s H C cl fp) h6) (λs H C cl fp=>o.oe (am.inn _ s H C cl fp) h7) (fj b5) (λenv=>fj b6)
 .split at h
  .cases h
  .exact QV o os a h
 .split at h
  .cases h
  .obtain⟨hb,h⟩:=au.mp h;obtain⟨fo,h1,h⟩:=adg.mp h;obtain⟨fi,h2,h⟩:=adg.mp h;obtain⟨fe,h3,h⟩:=adg.mp h;simp only[adi,ady]at hb;obtain⟨b1,b2,b3⟩:=hb;split at h
   .cases h;exact Qv hk.co hk.hw (M9 a.toAmb) (o.ow a.toAmb h1) b1 (o.oe a.toAmb h2) (o.oe a.toAmb h3) M7
   .cases h;exact Q7 hk.co (o.ow a.toAmb h1) b1 (o.oe a.toAmb h3) (o.oe a.toAmb h2) (MF b2) (jH b3) (by with_unfolding_all rfl)
 .split at h
  .cases h
  .obtain⟨fo,h1,h⟩:=adg.mp h;obtain⟨fe,h2,h⟩:=adg.mp h;cases h;exact Rz hk.co hk.fk (o.ow a.toAmb h1) (o.oe a.toAmb h2)
 .split at h
  .cases h
  .obtain⟨hb,h⟩:=au.mp h;obtain⟨fo,h1,h⟩:=adg.mp h;obtain⟨fi,h2,h⟩:=adg.mp h;cases h;exact QM hk.co hk.hw (M9 a.toAmb) (o.ow a.toAmb h1) hb (o.oe a.toAmb h2)
 .cases h
end
def tr0:Tr:=⟨λ_ _=>none,λ_ _=>none,λ_ _=>none,λ_ _ _ _=>none⟩
def Vx(t:Tr):Tr:=⟨xtE t,xtW t,xtT t,xtI t⟩
def tr:Nat->Tr
 |0=>tr0
 |n+1=>Vx (tr n)
theorem lC:∀n,(tr n).Ok
 |0=>⟨λ_=>(by intro _ _ h;cases h),λ_=>(by intro _ _ h;cases h),λ_=>(by intro _ _ h;cases h),λ_=>(by intros;rename_i h;cases h)⟩
 |n+1=>⟨λa=>(by intro _ _ h;exact(eV h).elim (Xn (lC n) a) (Ue (lC n) a)),λa=>(by intro _ _ h;exact(eV h).elim (Xz (lC n) a) (Sd (lC n) a)),λa=>(by intro _ _ h;exact(eV h).elim (Xh (lC n) a) (Vk (lC n) a)),λa=>(by intro _ _ _ _ h;exact(eV h).elim (Yq (lC n) a) (V9 (lC n) a))⟩
def ts0:Ts:=⟨λ_ _=>none,λ_ _=>none,λ_ _=>none,λ_ _=>none⟩
def ldG(q:Bool)(t:Tr)(s:Ts)(c:Tc)(e:Expr):Option GF:=match q with
 |true=>none
 |false=>xG t s c e
def ldH(_:Bool)(_:Tr)(_:Ts)(_:Tc)(_:Expr):Option GT:=none
def ldL(q:Bool)(t:Tr)(c:Tc)(e:Stmt):Option SF:=match q with
 |true=>none
 |false=>xL t c e
def Ub(q:Bool)(t:Tr)(s:Ts):Ts:=⟨λc e=>els ((t.E c e).bind λf=>some (gOf f)) (ldG q t s c e),λc e=>els ((t.T c e).bind λf=>some (M4 f)) (ldH q t s c e),λc e=>els (ldL q t c e) (els (VG t s c e) (xS q t s c e)),HF s⟩
def ts(q:Bool)(t:Tr):Nat->Ts
 |0=>ts0
 |n+1=>Ub q t (ts q t n)
theorem tM{t:Tr}(o:t.Ok)(q:Bool):∀n,(ts q t n).Ok q
 |0=>⟨λ_=>(by intro _ _ h;cases h),λ_=>(by intro _ _ h;cases h),λ_=>(by intro _ _ h;cases h),λ_=>(by intros;rename_i h;cases h)⟩
 |n+1=>⟨λa=>by
   intro _ _ h;rcases eV h with h|h
   .obtain⟨f,h1,h⟩:=adg.mp h;cases h;exact Pb (o.oe a.toAmb h1)
   .cases q with
    |true=>cases h
    |false=>exact Yl o (tM o false n) a h,λa=>by
   intro _ _ h;rcases eV h with h|h
   .obtain⟨f,h1,h⟩:=adg.mp h;cases h;exact Yg (o.ot a.toAmb h1)
   ·(cases h),λa=>by
   intro _ _ h;rcases eV h with h|h
   .cases q with
    |true=>cases h
    |false=>exact Xf o a h
   rcases eV h with h|h
   .exact U8 o (tM o q n) a h
   .exact Yj o (tM o q n) a h,λa=>by
   intro _ _ h;exact M6 (tM o q n) a h⟩
def rd(c:Tc)(b:List Stmt):Option SF:=(ts true (tr 40) 60).B c b
def YK(c:Tc)(b:List Stmt):Option SF:=(ts false (tr 40) 60).B c b
def m7(P:Program)(w:World)(K:adh)(mg:Str->Option Value)(base:Heap)(aj:aq)(k:Nat):List (Str×GV)->Prop
 |[]=>True
 |(x,v)::r=>bV P w K mg base aj k x v/\m7 P w K mg base aj k r
def mZ(mg:Str->Option Value):List Str->Prop
 |[]=>True
 |x::r=>mg x=none/\mZ mg r
section
variable{P:Program}{w:World}{K:adh}{mg:Str->Option Value}{base:Heap}{aj:aq}{k:Nat}
theorem m7.get:∀{G:List (Str×GV)},m7 P w K mg base aj k G->∀x v,G.lookup x=some v->bV P w K mg base aj k x v
 |[],_,x,v,h=>nomatch h
 |(y,u)::r,g,x,v,h=>by
  rw[adN]at h;split at h
  .next e=>
   cases h;rw[aeD e];exact g.1
  .exact g.2.get x v h
theorem mZ.get:∀{B:List Str},mZ mg B->∀x,x∈B->mg x=none
 |[],_,x,h=>nomatch h
 |y::r,g,x,h=>by
  rcases adB.mp h with rfl|h
  .exact g.1
  .exact g.2.get x h
theorem JL{qual:Str}{st:Stmt}{f:Addr}{N ps ml B:List Str}{G:List (Str×GV)}{Ms:Hs}(S:FnScope N ps (defScope st))(g:m7 P w K mg base aj k G)(b:mZ mg B)(hh:yM P w K mg base aj k Ms)
  (cdv:Value) (A:Around) (outer:List PySem.Env) (s:Shared) (H:Hp) (E:XK) (hr:Room k (A.deeper (envOfC qual (defScope st) s.heap.objs.size f cdv))) :
  iV aj ⟨N,defScope st,G,B,Ms,ml,true⟩ (cxOf (L2.CX P w) P w K mg base N qual (defScope st) f cdv A outer s H E) (Ly E) k where
 hN:=rfl
 hs:=rfl
 calm:=rfl
 nd:=S.nd
 tk:=takes_of rfl rfl rfl rfl
 rm:=hr
 gl:=g.get
 bl:=b.get
 fn:=λ_ _=>rfl
 hk:=hh
 ps:=passes_of rfl
 st:=rfl
 fr:=rfl
 kf:=S.kind
theorem Dg{x qual:Str}{st:Stmt}{f:Addr}{fd:FuncData}{N ps ml B:List Str}{G:List (Str×GV)}{Ms:Hs}{body:SF}(F:Fun K x qual st f fd)(S:FnScope N ps (defScope st))(g:m7 P w K mg base aj k G)(b:mZ mg B)(hh:yM P w K mg base aj k Ms)
  (h:rd ⟨N,defScope st,G,B,Ms,ml,true⟩ (defBody st)=some body):FnOk P w K mg base (L2.CX P w) (k+1) f fd ps (zV K aj ps.length (mQ N.length body)):=
 YX F S λcdv A outer s H E hr=>(tM (lC 40) true 60).ob (JL S g b hh cdv A outer s H E hr) h
theorem vW{x qual:Str}{st:Stmt}{f:Addr}{fd:FuncData}{N ps ml B:List Str}{G:List (Str×GV)}{Ms:Hs}{body:SF}(F:Fun K x qual st f fd)(S:FnScope N ps (defScope st))(g:m7 P w K mg base aj k G)(b:mZ mg B)(hh:yM P w K mg base aj k Ms)
  (h:YK ⟨N,defScope st,G,B,Ms,ml,true⟩ (defBody st)=some body):FnOk P w K mg base (L2.CX P w) (k+1) f fd ps (oZ K aj ps.length (mG N.length body)):=
 Zk F S λcdv A outer s H E hr=>(tM (lC 40) false 60).ob (JL S g b hh cdv A outer s H E hr) h
theorem VR{f:Addr}{fd:FuncData}{ps:List Str}{j:Nat}:FnOk P w K mg base (L2.CX P w) j f fd ps (zV K aj ps.length λ_ _=>.bad):=
 ⟨λvs H Q E h=>h.1,λA outer s H args us vs Q E _ _ _ _ h=>by
  obtain⟨_,g,M,ds,_,_,_,z⟩:=h;exact aev z⟩
theorem Lr{x:Str}{f:Addr}{fd:FuncData}{ps:List Str}{j:Nat}{m:Mo->List Dat->Out Dat}(hj:j<=k)(hg:mg x=some (.ref f))(hk:PySem.W.keepIn K (.ref f)=true)(hB:Binds K fd ps [])(F:FnOk P w K mg base (L2.CX P w) j f fd ps (zV K aj ps.length m)):bV P w K mg base aj k x (.fq ps.length m):=
 ⟨f,hg,hk,fd,ps,j,hj,rfl,hB,F⟩
theorem Vo{x:Str}{i:Int}{t:Tok}(h:mg x=some (.int i t)):bV P w K mg base aj k x (.con (.int i)):=⟨.int i,_,h,⟨t,rfl⟩,λ_ _=>.int i,λ_ _ z=>nomatch z⟩
end
open PySem PySem.Spec PyProof.Rows L2
section
variable{fa:List He.Fa}{fn:List He.DefD}{tb:List He.Tab}{ex:adh->Bool}{w:World}{K:adh}
theorem uP.rF(c:uP fa fn tb ex w K)(i:Nat){f:He.Fa}(h:fa[i]?=some f:=by rfl):f.ok K=true:=c.t.d.fact i h
theorem uP.Dh(c:uP fa fn tb ex w K)(i:Nat){d:He.DefD}(h:fn[i]?=some d:=by rfl):∃fd,FunD K d.name d.qual d.params d.body d.scope (d.dvs K) (d.kws K) (He.fAd K d.at_) fd:=c.t.d.def_ i h
theorem qb{x qual:Str}{st:Stmt}{f:Addr}{fd:FuncData}(F:FunD K x qual (defArgs st) (defBody st) (defScope st) [] [] f fd):L2.Fun K x qual st f fd:=by
 obtain⟨oc,od,dV,kV,doc,pm,an,cdv,ct,osl,e,l,c,hd,_⟩:=F.ex;rcases hd with⟨_,z⟩|⟨z,_⟩
 .cases z;exact⟨⟨oc,od,kV,doc,pm,an,cdv,ct,osl,e,l,c⟩,F.kp⟩
 .exact absurd rfl z
end
def g0:Gh:=⟨[],λ_=>none,λ_=>False,λ_=>False,True⟩
theorem Vt(a:Addr):¬g0.A a:=λz=>by
 rcases z with(z|z)|z|z
 .cases z
 .exact z rfl
 .exact z
 .exact z
theorem Xa{H:Hp}:Kd g0 H:=⟨λa z=>absurd z (Vt a),λa z=>aev z,λa z=>aev z⟩
theorem WR{K:adh}{aj:aq}{H:Hp}(nc:aj ""=none):aX K aj g0 H []:=⟨rfl,λh k a e=>(by cases h<;>cases e),λh a i e=>(by cases h<;>cases e),λh i e=>(by cases h<;>cases e),λh i e=>(by cases h<;>cases e),λh a i e=>(by cases h<;>cases e),λh a xs e=>(by cases h<;>cases e),nc⟩
theorem zN{K:adh}{g:Gh}{H:Hp}:∀ns:List Int,ao K g H (ns.map V.int) (ns.map PyData.int)
 |[]=>.nil
 |n::ns=>.cons (.int n) (zN ns)
theorem T8{K:adh}{H:Hp}{a:Addr}{ns:List Int}(hS:SqL K H a (ns.map V.int)):ao K g0 H [.ref a] [.list (ns.map PyData.int)]:=by
 refine .cons (.lst ?_ (zN ns)) .nil;rcases hS with h|h
 .exact .inr ⟨aeu,.inl ⟨h,Vt a⟩⟩
 .exact .inr ⟨aeu,.inr h⟩
theorem Yo{K:adh}{aj:aq}(nc:aj ""=none){m:Mo->List Dat->aG Dat}{H:Hp}{a:Addr}{ns:List Int}{M:Mo}(hS:SqL K H a (ns.map V.int))(h:m [] [.list (ns.map PyData.int)]=.ok (.bool true) M):oZ K aj 1 m [.ref a] H (λv _=>v=.bl true) λ_ _ _=>False:=
 ⟨rfl,g0,[],[.list (ns.map PyData.int)],Xa,WR nc,T8 hS,by
  rw[h];exact λv H' g' _ _ _ r=>by cases r;rfl⟩
section
variable{K:adh}{h:Heap}{mg:Str->Option Value}{w:World}
def fP(w:World)(K:adh)(xs:List Str)(ft:Ft):aq:=⟨λx=>match xs.contains x with
 |true=>some (He.ga K x)
 |false=>none,λc=>(ft.lookup c).getD [],w⟩
theorem vH{xs:List Str}{ft:Ft}{x:Str}{C:Addr}(e:fP w K xs ft x=some C):C=He.ga K x:=by
 have e:(match xs.contains x with
  |true=>some (He.ga K x)
  |false=>none)=some C:=e
 split at e
 .exact(adx e).symm
 .cases e
theorem pD{xs:List Str}{ft:Ft}{x:Str}(e:xs.contains x=true):fP w K xs ft x=some (He.ga K x):=by
 show(match xs.contains x with
  |true=>some (He.ga K x)
  |false=>none)=_
 rw[e]
theorem Cu{ft:Ft}(hb:sO K ft=true){c:Str}{fs:List Str}(hl:ft.lookup c=some fs):Cls K (He.ga K c)/\∀f∈fs,NoAttr K (He.ga K c) f:=by obtain⟨h1,h2⟩:=He.ba (adG.mp hb _ (jc hl));exact⟨He.cls_ok h1,λf hf=>He.noat_ok (adG.mp h2 f hf)⟩
theorem JM{xs:List Str}{ft:Ft}(hb:sO K ft=true):cO K (fP w K xs ft):=λc C f e hf=>by
 have e:=vH e;subst e;have hf:f∈(ft.lookup c).getD []:=hf;cases hl:ft.lookup c with
 |none=>rw[hl]at hf;cases hf
 |some fs=>
  rw[hl]at hf;obtain⟨h1,h2⟩:=Cu hb hl;exact⟨h1,h2 f hf⟩
theorem K8{xs:List Str}{ft:Ft}:sY ft (fP w K xs ft):=λc f e=>by
 unfold Ft.has at e;show f∈(ft.lookup c).getD [];split at e
 .next fs hl=>
  rw[hl];simpa using e
 .cases e
def Yw(xs:List Str)(xm:List (Str×List (Str×Bool))):Bool:=xm.all λp=>xs.contains p.1
theorem XR{xs:List Str}{ft:Ft}{xm:List (Str×List (Str×Bool))}(hb:TX K xm=true)(hn:Yw xs xm=true)(y:Str)(tab:List (Str×Bool))(hl:xm.lookup y=some tab):(∃D,fP w K xs ft y=some D)/\Hh K (fP w K xs ft) y λx=>tab.lookup x:=by refine⟨⟨_,pD (adG.mp hn _ (jc hl))⟩,λx b C e1 e2 D e3=>?_⟩;rw[vH e2,vH e3];exact He.exm_ok (adG.mp (adG.mp hb _ (jc hl)) _ (jc e1))
theorem Qt{C:Addr}(hb:TV K C=true):OexC K C:=by
 obtain⟨h1,h2⟩:=He.ba hb;obtain⟨h2,h3⟩:=He.ba h2;obtain⟨h3,h4⟩:=He.ba h3;obtain⟨h4,h5⟩:=He.ba h4;refine⟨?_,He.eqO_ok h2,aex h3,aex h4,h5⟩;split at h1
 .next t dd cd sl hl=>
  obtain⟨t1,h1⟩:=He.ba h1;split at h1
  .next C' bm k0 k1 k2 k3 n k5 e1 e2=>
   obtain⟨a1,h1⟩:=He.ba h1;obtain⟨a2,h1⟩:=He.ba h1;obtain⟨a3,h1⟩:=He.ba h1;obtain⟨a4,a5⟩:=He.ba h1;have q1:=aex t1;have q2:=aex a1;have q3:=aex a2;have q4:cd.hasDel=false:=by simpa using a3
   have q5:sl=#[k0,k1,k2,k3,some (.builtin n),k5]:=by rw[<-Array.toList_inj];exact e2
   obtain⟨nm,bs,mro,ns,qn,hd,sn,sub,ab,col,hdel⟩:=cd;have e1:mro=.ref C'::bm:=e1;have q4:hdel=false:=q4;have a4:hd=true:=a4;subst q1 q2 q3 q4 q5 e1 a4;exact⟨nm,qn,ns,bs,bm,sn,sub,ab,col,dd,k0,k1,k2,k3,k5,hl,a5⟩
  .cases h1
 .cases h1
theorem RD{x:Str}{fs:List Str}(hb:Hv K x fs=true):OexC K (He.ga K x)/\PySem.W.findIn K (.ref (He.ga K x)) "__init__"=some (some (.ref (He.ma K (He.ga K x) "__init__")))/\PySem.W.typeIn K (.ref (He.ma K (He.ga K x) "__init__"))=some (.type "function")/\XfC K (He.ga K x)/\∀f∈fs,PySem.W.findIn K (.ref (He.ga K x)) f=some none:=by obtain⟨h1,h2⟩:=He.ba hb;obtain⟨h2,h3⟩:=He.ba h2;obtain⟨h3,h4⟩:=He.ba h3;obtain⟨h4,h5⟩:=He.ba h4;exact⟨Qt h1,He.eqO_ok h2,aex h3,xfB_ok h4,λf hf=>He.eqO_ok (adG.mp h5 f hf)⟩
end
section
variable{P:Program}{w:World}{K:adh}{mg:Str->Option Value}{base:Heap}{k:Nat}{xs:List Str}{ft:Ft}
def Aq(P:Program)(w:World)(K:adh)(mg:Str->Option Value)(base:Heap)(aj:aq)(k:Nat)(m:Str):List (Str×MV)->Prop
 |[]=>True
 |(c,v)::r=>gK P w K mg base aj k c m v/\Aq P w K mg base aj k m r
def oV(P:Program)(w:World)(K:adh)(mg:Str->Option Value)(base:Heap)(aj:aq)(k:Nat):List (Str×List (Str×MV))->Prop
 |[]=>True
 |(m,tb)::r=>Aq P w K mg base aj k m tb/\oV P w K mg base aj k r
theorem Aq.get{aj:aq}{m:Str}:∀{tb:List (Str×MV)},Aq P w K mg base aj k m tb->∀c v,tb.lookup c=some v->gK P w K mg base aj k c m v
 |[],_,c,v,h=>nomatch h
 |(y,u)::r,g,c,v,h=>by
  rw[adN]at h;split at h
  .next e=>
   cases h;rw[aeD e];exact g.1
  .exact g.2.get c v h
theorem oV.get{aj:aq}:∀{Ms:List (Str×List (Str×MV))},oV P w K mg base aj k Ms->∀m tb,Ms.lookup m=some tb->∀c v,tb.lookup c=some v->gK P w K mg base aj k c m v
 |[],_,m,tb,h=>nomatch h
 |(y,u)::r,g,m,tb,h=>by
  rw[adN]at h;split at h
  .next e=>
   cases h;rw[aeD e];exact g.1.get
  .exact g.2.get m tb h
theorem Zw{aj:aq}{x:Str}{f:Addr}{fd:FuncData}{ps:List Str}{j:Nat}{m:Mo->List Dat->aG Dat}(hj:j<=k)(hg:mg x=some (.ref f))(hk:PySem.W.keepIn K (.ref f)=true)(hB:Binds K fd ps [])(F:FnOk P w K mg base (L2.CX P w) j f fd ps (oZ K aj ps.length m)):bV P w K mg base aj k x (.fg ps.length m):=
 ⟨f,hg,hk,fd,ps,j,hj,rfl,hB,F⟩
theorem wX{x:Str}(hn:xs.contains x=true)(hg:mg x=some (.ref (He.ga K x)))(he:(He.Fa.exc x).ok K=true):bV P w K mg base (fP w K xs ft) k x .exc:=by obtain⟨h1,h2,h3,h4⟩:=He.exc_ok he;exact⟨_,hg,pD hn,h1,h2,h3,h4⟩
theorem Wx{x:Str}{fd:FuncData}{ps:List Str}{j n:Nat}{m:Mo->List Dat->aG Dat}(hj:j+1<=k)(hn:xs.contains x=true)(hg:mg x=some (.ref (He.ga K x)))(hc:Cls K (He.ga K x))(hm:(He.Fa.mkr x).ok K=true)(hp:ps.length=n+1)(hB:Binds K fd ps [])
  (F:FnOk P w K mg base (L2.CX P w) j (He.ma K (He.ga K x) "__init__") fd ps (oZ K (fP w K xs ft) ps.length m)):bV P w K mg base (fP w K xs ft) k x (.cls n m):=
 ⟨_,_,fd,ps,j,hg,pD hn,hc,He.mkr_ok hm,hj,hp,hB,F⟩
theorem Ow{m:Str}{l:List Str}(hf:l.contains m=false)(z:m∈l):False:=by rw[List.contains_iff_mem.mpr z]at hf;cases hf
theorem Y0{c m:Str}{fd:FuncData}{ps:List Str}{j:Nat}{mm:Mo->List Dat->Out Dat}(hj:j<=k)(hn:xs.contains c=true)(hc:Cls K (He.ga K c))(hm:(He.Fa.meth c m).ok K=true)(hf:((ft.lookup c).getD []).contains m=false)(hB:Binds K fd ps [])(F:FnOk P w K mg base (L2.CX P w) j (He.ma K (He.ga K c) m) fd ps (zV K (fP w K xs ft) ps.length mm)):gK P w K mg base (fP w K xs ft) k c m (.q ps.length mm):=
 ⟨_,_,pD hn,hc,He.meth_ok hm,(λz=>Ow hf z),fd,ps,j,hj,rfl,hB,F⟩
theorem ZQ{c m:Str}{fd:FuncData}{ps:List Str}{j:Nat}{mm:Mo->List Dat->aG Dat}(hj:j<=k)(hn:xs.contains c=true)(hc:Cls K (He.ga K c))(hm:(He.Fa.meth c m).ok K=true)(hf:((ft.lookup c).getD []).contains m=false)(hB:Binds K fd ps [])(F:FnOk P w K mg base (L2.CX P w) j (He.ma K (He.ga K c) m) fd ps (oZ K (fP w K xs ft) ps.length mm)):gK P w K mg base (fP w K xs ft) k c m (.g ps.length mm):=
 ⟨_,_,pD hn,hc,He.meth_ok hm,(λz=>Ow hf z),fd,ps,j,hj,rfl,hB,F⟩
theorem XC{Ms:List (Str×List (Str×MV))}{xm:List (Str×List (Str×Bool))}{df:List (Str×Bool)}{xf:List (Str×List Str)}(hm:oV P w K mg base (fP w K xs ft) k Ms)(hb:sO K ft=true)(hx:TX K xm=true)(hn:Yw xs xm=true)(hf:(xf.all λp=>xs.contains p.1&&Hv K p.1 p.2)=true):yM P w K mg base (fP w K xs ft) k ⟨Ms,ft,xm,df,xf⟩ where
 ms:=hm.get
 fk:=K8
 co:=JM hb
 hw:=rfl
 xm:=XR hx hn
 xf:=λy fs hl=>by
  obtain⟨h1,h2⟩:=He.ba (adG.mp hf _ (jc hl));obtain⟨_,_,_,h3,h4⟩:=RD h2;exact⟨_,pD h1,h3,h4⟩
end
abbrev lI(l:List Int):Dat:=.list (l.map PyData.int)
abbrev Gj(l:List Int):Dat:=.tuple (l.map PyData.int)
theorem fD{tg:bH}{body:SF}{d:Dat}{ds:List Dat}{M M2:Mo}{Z Z1 Z2:Env}(h1:tg d Z=some Z1)(h2:body M Z1=.next Z2 M2):eE tg body (d::ds) M Z=eE tg body ds M2 Z2:=by
 rw[eE,h1]
 show(match body M Z1 with
   |.next Z2 M2=>eE tg body ds M2 Z2
   |.cont Z2 M2=>eE tg body ds M2 Z2
   |.brk Z2 M2=>.next Z2 M2
   |.ret d M2=>.ret d M2
   |.exc x Z2 M2=>.exc x Z2 M2
   |.bad=>.bad)=_
 rw[h2]
theorem jF{α:Type}{tg:bH}{tt:QT}{te:QF}{M:Mo}{Z:Env}(ds:α->Dat)(p:α->Bool)(f:α->Dat):∀(xs:List α),(∀x∈xs,∃Z1,tg (ds x) Z=some Z1/\tt M Z1=.ok (p x)/\(p x=true->te M Z1=.ok (f x)))->aV tg tt te M Z (xs.map ds)=.ok ((xs.filter p).map f)
 |[],_=>rfl
 |x::xs,h=>by
  obtain⟨Z1,h1,h2,h3⟩:=h x adn;have ih:=jF ds p f xs λy hy=>h y (adt _ hy);rw[ado,aV,h1]
  show((ni (tt M Z1)).bind λb=>if b=true then(ni (te M Z1)).bind λy=>(aV tg tt te M Z (xs.map ds)).bind λr=>.ok (y::r) else aV tg tt te M Z (xs.map ds))=_
  rw[h2,ih];cases hp:p x with
  |true=>
   show(if true=true then(ni (te M Z1)).bind λy=>(Out.ok ((xs.filter p).map f)).bind λr=>.ok (y::r) else Out.ok ((xs.filter p).map f))=_
   rw[h3 hp,aeA rfl,List.filter_cons_of_pos hp];rfl
  |false=>
   show(if false=true then(ni (te M Z1)).bind λy=>(Out.ok ((xs.filter p).map f)).bind λr=>.ok (y::r) else Out.ok ((xs.filter p).map f))=_
   rw[aeB (by decide),List.filter_cons_of_neg (by rw[hp];decide)]
theorem sJ{α:Type}{tg:bH}{te:QF}{M:Mo}{Z:Env}(ds:α->Dat)(f:α->Dat)(xs:List α)(h:∀x∈xs,∃Z1,tg (ds x) Z=some Z1/\te M Z1=.ok (f x)):aV tg nR te M Z (xs.map ds)=.ok (xs.map f):=by
 have:=jF (tt:=nR) ds (λ_=>true) f xs λx hx=>by
  obtain⟨Z1,h1,h2⟩:=h x hx;exact⟨Z1,h1,rfl,λ_=>h2⟩
 rw[this,aes.mpr (λ_ _=>rfl)]
theorem X6{i j:Int}(h : -(2^64)<i/\i<2^64):decide (CMul i j)=true:=decide_eq_true (.inl h)
theorem mul_r{i j:Int}(h : -(2^64)<j/\j<2^64):decide (CMul i j)=true:=decide_eq_true (.inr h)
section
variable(M:Mo)(Z:Env)
@[simp]theorem abT (f k:SF):aH f k M Z=match f M Z with
 |.next Z' M'=>k M' Z'
 |o=>o:=rfl
@[simp]theorem ZX:bf M Z=.next Z M:=rfl
@[simp]theorem abq (tg:bH) (f:GF):bJ tg f M Z=(f M Z).then Z λd M'=>match tg d Z with
 |some Z'=>.next Z' M'
 |none=>.bad:=rfl
@[simp]theorem aaw (i j:Nat) (f:GF):Ie i j f M Z=(f M Z).then Z λd M'=>.next ((Z.set i (some (.dat d))).set j (some (.dat d))) M':=rfl
@[simp]theorem ev_if (t:QT) (f k:SF):dI t f k M Z=((t M (iH Z)).at M).then Z λc M'=>if c=true then f M' Z else k M' Z:=rfl
@[simp]theorem acK (f:QF):aZ f M Z=((f M (iH Z)).at M).then Z λd M'=>.ret d M':=rfl
@[simp]theorem abS (it:IF) (tg:bH) (body:SF):lV it tg body M Z=((it M Z).at M).then Z λds M'=>eE tg body ds M' Z:=rfl
@[simp]theorem abF (j:Nat) (f:IF):rK j f M Z=((f M Z).at M).then Z λxs M'=>.next (Z.set j (some (.mut xs))) M':=rfl
@[simp]theorem aa6 (f:GF):lA f M Z=(f M Z).then Z λ_ M'=>.next Z M':=rfl
@[simp]theorem acC (j:Nat) (f:QF):yh j f M Z=match Z[j]? with
 |some (some (.mut xs))=>((f M Z).at M).then Z λd M'=>if xs.length<100000 then .next (Z.set j (some (.mut (xs++[d])))) M' else .bad
 |_=>.bad:=rfl
@[simp]theorem aai (j:Nat) (fi f:QF):XQ j fi f M Z=match Z[j]? with
 |some (some (.mut xs))=>((f M Z).at M).then Z λd M'=>((fi M' Z).at M').then Z λi M2=>match i with
  |.int k=>match ixN xs.length k with
   |some n=>.next (Z.set j (some (.mut (xs.set n d)))) M2
   |none=>.bad
  |_=>.bad
 |_=>.bad:=rfl
@[simp]theorem ab1 (j:Nat) (f:QF):GZ j f M Z=match Z[j]? with
 |some (some (.dat (.int i)))=>((f M Z).at M).then Z λd M'=>match d with
  |.int k=>.next (Z.set j (some (.dat (.int (i+k))))) M'
  |_=>.bad
 |_=>.bad:=rfl
@[simp]theorem Z0 (i j:Nat) (f:GF):HY i j f M Z=(f M Z).then Z λd M'=>match d with
 |.list (d0::ds)=>if ds.length<=16000 then .next ((Z.set i (some (.dat d0))).set j (some (.dat (.list ds)))) M' else .bad
 |.tuple (d0::ds)=>if ds.length<=16000 then .next ((Z.set i (some (.dat d0))).set j (some (.dat (.list ds)))) M' else .bad
 |_=>.bad:=rfl
@[simp]theorem ac0 (js:List Nat) (as:QA):Ov js as M Z=((as M Z).at M).then Z λds M'=>match iD js ds Z with
 |some Z'=>.next Z' M'
 |none=>.bad:=rfl
@[simp]theorem acj (vs:List Nat) (j:Nat) (f:GF):yR vs j f M Z=if dH M=true then(match f M (lH vs Z) with
 |.ok d M'=>if dH M'=true then sW j vs Z M' d else .bad
 |.exc x M'=>if (dH M'&&yX x)=true then .exc x Z M' else .bad
 |.bad=>.bad) else .bad:=rfl
@[simp]theorem aa9 (j:Nat) (vs:List Nat) (ds:List Dat):sW j vs Z M (.list ds)=if (dw ds&&sS j vs Z ds)=true then .next (Z.set j (some (.mut ds))) M else .bad:=rfl
@[simp]theorem aaM (j:Nat) (vs:List Nat) (x:Str):sW j vs Z M (.str x)=.next (Z.set j (some (.dat (.str x)))) M:=rfl
@[simp]theorem aaR (vs:List Nat) (f:QF):Ah vs f M Z=if dH M=true then(match f M (lH vs Z) with
 |.ok (.list ds)=>if sS Z.length vs Z ds=true then .next Z M else .bad
 |.exc x=>if yX x=true then .exc x Z M else .bad
 |_=>.bad) else .bad:=rfl
@[simp]theorem aaK (f:GF):ZP f M Z=(f M Z).bind λd M1=>(jZ d).at M1:=rfl
@[simp]theorem aaD (j:Nat) (ds:List Dat):sS j [] Z ds=true:=rfl
@[simp]theorem aae (j i:Nat) (vs:List Nat) (ds:List Dat):sS j (i::vs) Z ds=((match Z[i]? with
 |some (some (.mut es))=>i==j || Hl es ds
 |_=>true)&&sS j vs Z ds):=rfl
@[simp]theorem aa1 (b:Bool) (d:Dat):zL b (.dat d)=if lf d=true then some (.dat d) else none:=rfl
@[simp]theorem aaZ (b:Bool) (ds:List Dat):zL b (.mut ds)=if (b&&dw ds)=true then some (.dat (.list ds)) else none:=rfl
def Br(vs:List Nat):Nat->Env->Env
 |_,[]=>[]
 |i,o::Z=>o.bind (zL (vs.contains i))::Br vs (i+1) Z
theorem Jc(vs:List Nat):∀(Z:Env) (i:Nat),Br vs i Z=Z.mapIdx λk o=>o.bind (zL (vs.contains (i+k)))
 |[],_=>rfl
 |o::Z,i=>by
  rw[Br,Jc vs Z,List.mapIdx_cons];congr 1;apply ad9;intro k;simp[Nat.add_assoc,Nat.add_comm 1 k]
@[simp]theorem ace (vs:List Nat):lH vs Z=Br vs 0 Z:=by rw[Jc];simp[lH]
@[simp]theorem Z6 (vs:List Nat) (i:Nat):Br vs i []=[]:=rfl
@[simp]theorem aaU (vs:List Nat) (i:Nat) (o:Option Cell):Br vs i (o::Z)=o.bind (zL (vs.contains i))::Br vs (i+1) Z:=rfl
@[simp]theorem U6 (i:Int):lf (.int i)=true:=by rw[lf]
@[simp]theorem acP (i:Str):lf (.str i)=true:=by rw[lf]
@[simp]theorem aav (i:Bool):lf (.bool i)=true:=by rw[lf]
@[simp]theorem aah:lf .none=true:=by rw[lf]
@[simp]theorem aa5 (k:List (Dat×Dat)):lf (.dict k)=true:=by rw[lf]
@[simp]theorem aau (ds:List Dat):lf (.list ds)=false:=by rw[lf]
@[simp]theorem acA (ds:List Dat):lf (.tuple ds)=dw ds:=by rw[lf]
@[simp]theorem aao:dw []=true:=by rw[dw]
@[simp]theorem Y6 (d:Dat) (ds:List Dat):dw (d::ds)=(lf d&&dw ds):=by rw[dw]
theorem yC:∀{ds:List Dat},dw ds=true↔∀d∈ds,lf d=true
 |[]=>by simp
 |d::ds=>by simp[yC (ds:=ds)]
@[simp]theorem u9 (l:List Int):dw (l.map PyData.int)=true:=yC.mpr λd h=>by
 obtain⟨i,_,rfl⟩:=adJ.mp h;exact U6 i
@[simp]theorem abO (o:Dat->Dat->Out Dat) (f:GF) (k:QF):WM o f k M Z=(f M Z).bind λx M1=>((k M1 Z).at M1).bind λy M2=>(o x y).at M2:=rfl
@[simp]theorem abQ (neg:Bool) (d:Dat) (f:GF):Us neg d f M Z=(f M Z).bind λx M1=>.ok (.bool (neg ^^ jr d x)) M1:=rfl
@[simp]theorem acv (f:QF):gOf f M Z=(f M Z).at M:=rfl
@[simp]theorem ev_op (o:Dat->Dat->Out Dat) (a b:QF):aA o a b M Z=(a M Z).bind λx=>(b M Z).bind λy=>o x y:=rfl
@[simp]theorem ev_un (o:Dat->Out Dat) (a:QF):gD o a M Z=(a M Z).bind o:=rfl
@[simp]theorem ev_c (d:Dat):qC d M Z=.ok d:=rfl
@[simp]theorem ev_var (i:Nat):aJ i M Z=match Z[i]? with
 |some (some (.dat d))=>.ok d
 |_=>.bad:=rfl
@[simp]theorem aaj (i:Nat):ak i M Z=match Z[i]? with
 |some (some (.dat d))=>.ok d
 |some (some (.mut xs))=>.ok (.list xs)
 |_=>.bad:=rfl
@[simp]theorem acw:aP M Z=.ok []:=rfl
@[simp]theorem aal (a:QF) (r:QA):aF a r M Z=(a M Z).bind λx=>(r M Z).bind λxs=>.ok (x::xs):=rfl
@[simp]theorem abI (r:QA):Dz r M Z=(r M Z).bind λxs=>Out.when (decide (xs.length<=100000)) (.ok (.tuple xs)):=rfl
@[simp]theorem aco (r:QA):Dc r M Z=(r M Z).bind λxs=>Out.when (decide (xs.length<=100000)) (.ok (.list xs)):=rfl
@[simp]theorem acy (a:QF):fV a M Z=(a M Z).bind qM:=rfl
@[simp]theorem adb (a:QF):cQ a M Z=(a M Z).bind jZ:=rfl
@[simp]theorem aaW (a:QT):dJ a M Z=(a M Z).bind λb=>.ok (!b):=rfl
@[simp]theorem Z9 (a b:QT):oE a b M Z=(a M Z).bind λx=>if x=true then b M Z else .ok false:=rfl
@[simp]theorem abH (a b:QT):rC a b M Z=(a M Z).bind λx=>if x=true then .ok true else b M Z:=rfl
@[simp]theorem ac1 (a:QT):Kz a M Z=(a M Z).bind λb=>.ok (.bool b):=rfl
@[simp]theorem aby (t:QT) (a b:QF):V7 t a b M Z=(t M Z).bind λx=>if x=true then a M Z else b M Z:=rfl
@[simp]theorem ev_is (neg:Bool) (c:Dat) (a:QF):pJ neg c a M Z=(a M Z).bind λd=>.ok (.bool (neg ^^ jr c d)):=rfl
@[simp]theorem ev_notV (a:QF):Ba a M Z=((a M Z).bind jZ).bind λb=>.ok (.bool (!b)):=by
 show(((a M Z).bind jZ).bind λb=>Out.ok (!b)).bind (λb=>Out.ok (PyData.bool b))=_
 cases a M Z with
 |ok d=>cases h:jZ d<;>simp[Out.bind,h]
 |exc x=>rfl
 |bad=>rfl
@[simp]theorem ev_andV (a b:QF):uI a b M Z=(a M Z).bind λd=>(jZ d).bind λx=>if x=true then b M Z else .ok (.bool false):=rfl
@[simp]theorem ev_orV (a b:QF):Ln a b M Z=(a M Z).bind λd=>(jZ d).bind λx=>if x=true then .ok (.bool true) else b M Z:=rfl
@[simp]theorem YL (o o':Dat->Dat->Out Dat) (a b c:QF):iW o o' a b c M Z=(a M Z).bind λx=>(b M Z).bind λy=>(o x y).bind λz=>(jZ z).bind λk=>if k=true then(c M Z).bind λw=>(o' y w).bind jZ else .ok false:=rfl
@[simp]theorem acF (t:tG) (a:QF):kZ t a M Z=(a M Z).bind (mj t):=rfl
@[simp]theorem adf (a:QF) (lo hi:QO):O8 a lo hi M Z=(a M Z).bind λd=>(lo M Z).bind λl=>(hi M Z).bind λh=>FT d l h:=rfl
@[simp]theorem acV:Dt M Z=.ok none:=rfl
@[simp]theorem ac3 (a:QF):rQ a M Z=(a M Z).bind λd=>(lW d).bind λi=>.ok (some i):=rfl
@[simp]theorem ev_call (m:Mo->List Dat->Out Dat) (as:QA):fH m as M Z=(as M Z).bind λds=>m M ds:=rfl
@[simp]theorem ZV (a:QF):jA a M Z=(a M Z).bind fG:=rfl
@[simp]theorem Yz (a:QF):iw a M Z=(a M Z).bind λd=>(lW d).bind λn=>Out.when (decide (n<=100000/\-100000<=n)) (.ok (eO 0 n.toNat)):=rfl
@[simp]theorem aaP (k₀:Int) (a:QF):qH k₀ a M Z=(a M Z).bind λd=>(fG d).bind λds=>.ok (lE k₀ ds):=rfl
@[simp]theorem abE (a b:QF):Io a b M Z=(a M Z).bind λd=>(b M Z).bind λe=>(fG d).bind λds=>(fG e).bind λes=>.ok (tL ds es):=rfl
@[simp]theorem abe (it:IF) (tg:bH) (vs:List Nat) (tt:QT) (te:QF):jC it tg vs tt te M Z=(it M Z).bind λds=>Out.when (decide (ds.length<=50000)) ((aV tg tt te M (aO Z vs) ds).bind λr=>.ok (.list r)):=rfl
@[simp]theorem abf (i:Nat):cP i M Z=match Z[i]? with
 |some (some (.dat d))=>(match rO M d with
  |some (_,xs)=>.ok (.list xs)
  |none=>.bad)
 |_=>.bad:=rfl
@[simp]theorem Y9 (it:IF) (tg:bH) (vs:List Nat) (tt:QT) (te:QF):jY it tg vs tt te M Z=(it M Z).bind λds=>Out.when (decide (ds.length<=50000)) (aV tg tt te M (aO Z vs) ds):=rfl
@[simp]theorem abR (f:QA):GD f M Z=(f M Z).bind λxs=>Out.when (decide (xs.length<=100000)) (.ok xs):=rfl
@[simp]theorem WY (f:QF):Mv f M Z=(f M Z).bind Az:=rfl
@[simp]theorem YH (j:Nat) (d:Dat):aD j d Z=some (Z.set j (some (.dat d))):=rfl
@[simp]theorem Zm (js:List Nat) (ds:List Dat):jO js (.tuple ds) Z=iD js ds Z:=rfl
@[simp]theorem acT (n:Nat) (b:SF) (ds:List Dat):mQ n b M ds=match b M (ini n ds) with
 |.ret d _=>.ok d
 |.next _ _=>.ok .none
 |.exc x _ _=>.exc x
 |_=>.bad:=rfl
@[simp]theorem ac9 (n:Nat) (b:SF) (ds:List Dat):mG n b M ds=match b M (ini n ds) with
 |.ret d M'=>.ok d M'
 |.next _ M'=>.ok .none M'
 |.exc x _ M'=>.exc x M'
 |_=>.bad:=rfl
end
section
variable(i j:Int)(ds es:List Dat)(b c:Bool)(x y:Str)
@[simp]theorem aaV:bW (.int i) (.int j)=.ok (.int (i+j)):=rfl
@[simp]theorem aag:bW (.list ds) (.list es)=Out.when (decide (ds.length+es.length<=100000)) (.ok (.list (ds++es))):=rfl
@[simp]theorem Z5:bW (.tuple ds) (.tuple es)=Out.when (decide (ds.length+es.length<=100000)) (.ok (.tuple (ds++es))):=rfl
@[simp]theorem abM:gA (.int i) (.int j)=.ok (.int (i-j)):=rfl
@[simp]theorem ab3:mW (.int i) (.int j)=Out.when (decide (CMul i j)) (.ok (.int (i*j))):=rfl
@[simp]theorem acQ:yr (.int i) (.int j)=Out.when (decide (CDiv i j)) (.ok (.int (i/j))):=rfl
@[simp]theorem acg:jd (.int i) (.int j)=Out.when (decide (0<j)) (.ok (.int (i%j))):=rfl
@[simp]theorem acf:Cm (.int i) (.int j)=Out.when (decide (CPow i j)) (.ok (.int (i^j.toNat))):=rfl
@[simp]theorem ada:CG (.int i) (.int j)=.ok (.bool (decide (i<j))):=rfl
@[simp]theorem ac8:oJ (.int i) (.int j)=.ok (.bool (decide (i<=j))):=rfl
@[simp]theorem acX:O4 (.int i) (.int j)=.ok (.bool (decide (j<i))):=rfl
@[simp]theorem ac4:KC (.int i) (.int j)=.ok (.bool (decide (j<=i))):=rfl
@[simp]theorem abU:jx (.int i) (.int j)=.ok (.bool (i==j)):=rfl
@[simp]theorem aci:jx (.str x) (.str y)=.ok (.bool (x==y)):=rfl
@[simp]theorem acn:jx (.bool b) (.bool c)=.ok (.bool (b==c)):=rfl
@[simp]theorem acR:rR (.int i) (.int j)=.ok (.bool (!(i==j))):=rfl
@[simp]theorem abo:rR (.str x) (.str y)=.ok (.bool (!(x==y))):=rfl
@[simp]theorem abk:HS (.int i)=.ok (.int (-i)):=rfl
@[simp]theorem aa3:qM (.bool b)=.ok b:=rfl
@[simp]theorem aaT:qM (.list ds)=.ok (!ds.isEmpty):=rfl
@[simp]theorem aaA:qM (.tuple ds)=.ok (!ds.isEmpty):=rfl
@[simp]theorem abm:jZ (.bool b)=.ok b:=rfl
@[simp]theorem abb:jD (.list ds)=.ok (.int ds.length):=rfl
@[simp]theorem aay:jD (.tuple ds)=.ok (.int ds.length):=rfl
@[simp]theorem acD:BW (.int i)=.ok (.int (if i<0 then -i else i)):=rfl
@[simp]theorem ev_max2:Am (.int i) (.int j)=.ok (.int (if j>i then j else i)):=rfl
@[simp]theorem aaG:Ao (.int i) (.int j)=.ok (.int (if j<i then j else i)):=rfl
@[simp]theorem abZ:cH (.list ds) (.int i)=match atI ds i with
  |some d=>.ok d
  |none=>.bad:=rfl
@[simp]theorem abv:cH (.tuple ds) (.int i)=match atI ds i with
  |some d=>.ok d
  |none=>.bad:=rfl
@[simp]theorem abd:lW (.int i)=.ok i:=rfl
@[simp]theorem abX (lo hi:Option Int):FT (.list ds) lo hi=.ok (.list (cutD ds lo hi)):=rfl
@[simp]theorem abV (lo hi:Option Int):FT (.tuple ds) lo hi=.ok (.tuple (cutD ds lo hi)):=rfl
@[simp]theorem aaL:o7 (.list ds)=.ok (.tuple ds):=rfl
@[simp]theorem Z4:o7 (.tuple ds)=.ok (.tuple ds):=rfl
@[simp]theorem ZS:uo (.list ds)=.ok (.list ds):=rfl
@[simp]theorem ZF:uo (.tuple ds)=.ok (.list ds):=rfl
@[simp]theorem abx:Az (.list ds)=.ok ds:=rfl
@[simp]theorem abK:Az (.tuple ds)=.ok ds:=rfl
@[simp]theorem abj:fG (.list ds)=.ok ds:=rfl
@[simp]theorem acq:fG (.tuple ds)=.ok ds:=rfl
@[simp]theorem aaz (o:Option Cell) (Z:Env):iH (o::Z)=o.map vM::iH Z:=rfl
@[simp]theorem ZR:iH []=[]:=rfl
@[simp]theorem YW (d:Dat):vM (.dat d)=.dat d:=rfl
@[simp]theorem Zi (ds:List Dat):vM (.mut ds)=.dat (.list ds):=rfl
@[simp]theorem aaq (Z:Env):iD [] [] Z=some Z:=rfl
@[simp]theorem aax (j:Nat) (js:List Nat) (d:Dat) (Z:Env):iD (j::js) (d::ds) Z=iD js ds (Z.set j (some (.dat d))):=rfl
@[simp]theorem YS (Z:Env):aO Z []=Z:=rfl
@[simp]theorem Zf (Z:Env) (j:Nat) (js:List Nat):aO Z (j::js)=(aO Z js).set j none:=rfl
@[simp]theorem Yy {α:Type} (a:α) (l:List α):atI (a::l) 0=some a:=atI_nat (j:=0) rfl
@[simp]theorem aat (n:Nat):ini n ds=ds.map (λd=>some (.dat d))++List.replicate (n-ds.length) none:=rfl
end
theorem Eo{a b:String}:Str.ofString a=Str.ofString b↔a=b:=by
 constructor
 .intro h;rw[Str.ofString_eq_toList,Str.ofString_eq_toList]at h;have h1:a.toList.map Char.toNat=b.toList.map Char.toNat:=by simpa using h
  have h2:a.toList=b.toList:=by
   refine List.map_inj_right (f:=Char.toNat) (λx y e=>?_) |>.mp h1
   exact Char.ext (UInt32.toNat_inj.mp e)
  exact String.toList_inj.mp h2
 .rintro rfl;rfl
@[simp]theorem ab9 (a b:String):(Str.ofString a=Str.ofString b)=(a=b):=propext Eo
@[simp]theorem aap (a b:String):(Str.ofString a==Str.ofString b)=decide (a=b):=by rw[aee];simp[Eo]
@[simp]theorem ac7 {α:Type} (a b:α) (l:List α):atI (a::b::l) 1=some b:=atI_nat (j:=1) rfl
@[simp]theorem acU {α:Type} (a b c:α) (l:List α):atI (a::b::c::l) 2=some c:=atI_nat (j:=2) rfl
@[simp]theorem ac6 {α:Type} (a b c d:α) (l:List α):atI (a::b::c::d::l) 3=some d:=atI_nat (j:=3) rfl
@[simp]theorem ac2 {α:Type} (a b c d e:α) (l:List α):atI (a::b::c::d::e::l) 4=some e:=atI_nat (j:=4) rfl
@[simp]theorem acS {α:Type} (a b c d e f:α) (l:List α):atI (a::b::c::d::e::f::l) 5=some f:=atI_nat (j:=5) rfl
@[simp]theorem ac5 {α:Type} (a b c d e f g:α) (l:List α):atI (a::b::c::d::e::f::g::l) 6=some g:=atI_nat (j:=6) rfl
@[simp]theorem Zj (s:String):PyData.strOk (Str.ofString s)=true:=by
 rw[Str.ofString_eq_toList];unfold PyData.strOk;simp only[Array.all_eq_true,aew];intro i h;simp only[List.getElem_toArray,List.getElem_map];have:=s.toList[i]'(by simpa using h) |>.valid
 rcases this with z|⟨_,z⟩
 .show(s.toList[i]'(by simpa using h)).val.toNat<_
  omega
 .show(s.toList[i]'(by simpa using h)).val.toNat<_
  omega
section
variable(i j:Int)(x y:Str)(d e:Dat)(ds es:List Dat)(b c:Bool)
@[simp]theorem Jw:PyData.eqv (.int i) (.int j)=(i==j):=by simp[PyData.eqv]
@[simp]theorem abr:PyData.eqv (.str x) (.str y)=(x==y):=by simp[PyData.eqv]
@[simp]theorem acJ:PyData.eqv (.bool b) (.bool c)=(b==c):=by simp[PyData.eqv]
@[simp]theorem ab7:PyData.eqv .none .none=true:=by simp[PyData.eqv]
@[simp]theorem acL:PyData.eqv (.tuple ds) (.tuple es)=PyData.eqvAll ds es:=by simp[PyData.eqv]
@[simp]theorem VF:PyData.eqv (.list ds) (.list es)=PyData.eqvAll ds es:=by simp[PyData.eqv]
@[simp]theorem acB:PyData.eqv (.tuple ds) .none=false:=by simp[PyData.eqv]
@[simp]theorem acN:PyData.eqv .none (.tuple ds)=false:=by simp[PyData.eqv]
@[simp]theorem acM:PyData.eqv (.str x) (.int i)=false:=by simp[PyData.eqv]
@[simp]theorem acE:PyData.eqv (.int i) (.str x)=false:=by simp[PyData.eqv]
@[simp]theorem aaS:PyData.eqvAll [] []=true:=by simp[PyData.eqvAll]
@[simp]theorem aa4:PyData.eqvAll [] (d::ds)=false:=by simp[PyData.eqvAll]
@[simp]theorem Pk:PyData.eqvAll (d::ds) []=false:=by simp[PyData.eqvAll]
@[simp]theorem Rb:PyData.eqvAll (d::ds) (e::es)=(PyData.eqv d e&&PyData.eqvAll ds es):=by simp[PyData.eqvAll]
end
@[simp]theorem Eh:∀l m:List Int,PyData.eqvAll (l.map PyData.int) (m.map PyData.int)=decide (l=m)
 |[],[]=>by simp
 |[],_::_=>by simp
 |_::_,[]=>by simp
 |a::l,b::m=>by
  rw[ado,ado,Rb,Eh l m,Jw];by_cases h:a=b<;>by_cases h2:l=m<;>simp[h,h2]
theorem DK{n:Nat}:∀{ds:List Dat},gj n ds=true↔∀d∈ds,okd n d=true
 |[]=>by simp[gj]
 |d::ds=>by simp[gj,DK (ds:=ds)]
@[simp]theorem QZ (n:Nat) (i:Int):okd n (.int i)=true:=by simp[okd]
@[simp]theorem Jf (n:Nat) (l:List Int):gj n (l.map PyData.int)=true:=DK.mpr λd h=>by
 obtain⟨i,_,rfl⟩:=adJ.mp h;simp
def ob(h:Nat):Dat:=obj h
section
variable(M:Mo)(Z:Env)(h:Nat)(f:Str)
@[simp]theorem aaf:rM M f (ob h)=(M[h]?).bind λi=>if (i.cls=="")=true then none else i.fs.lookup f:=rfl
@[simp]theorem ZM (tb:List (Str×MV)):oN tb M (ob h)=(M[h]?).bind λi=>tb.lookup i.cls:=rfl
@[simp]theorem Bt:dD M (ob h)=(M[h]?).bind λi=>match i.cls=="" with
 |true=>none
 |false=>some (h,i):=rfl
@[simp]theorem aas:rO M (ob h)=((M[h]?).bind yD).bind λxs=>some (h,xs):=rfl
@[simp]theorem ZD (xs:List Dat):yD ⟨"",[("",.lst 0 xs)]⟩=some xs:=rfl
@[simp]theorem abz (j:Nat) (f:IF):vD j f M Z=((f M Z).at M).then Z λxs _=>if dw xs=true then .next (Z.set j (some (.dat (ob M.length)))) (M++[⟨"",[("",.lst 0 xs)]⟩]) else .bad:=rfl
@[simp]theorem aar (j:Nat) (fi f:QF):uf j fi f M Z=match Z[j]? with
 |some (some (.dat o))=>(match rO M o with
  |some (h,xs)=>((f M Z).at M).then Z λd _=>((fi M Z).at M).then Z λi _=>match i with
   |.int k=>match ixN xs.length k with
    |some n=>.next Z (M.set h ⟨"",[("",.lst 0 (xs.set n d))]⟩)
    |none=>.bad
   |_=>.bad
  |none=>.bad)
 |_=>.bad:=rfl
@[simp]theorem aa2 (j:Nat) (m:Mo->List Dat->aG Dat) (as:QA):wJ j m as M Z=if dH M=true then(match as M Z with
 |.ok ds=>if dw ds=true then(match m M ds with
  |.ok d M'=>if dH M'=true then sW j [] Z M' d else .bad
  |.exc x M'=>if (dH M'&&yX x)=true then .exc x Z M' else .bad
  |.bad=>.bad) else .bad
 |.exc x=>.exc x Z M
 |.bad=>.bad) else .bad:=rfl
@[simp]theorem acr (o:QF):M5 f o M Z=(o M Z).bind λd=>match rM M f d with
 |some (.dat x)=>.ok x
 |_=>.bad:=rfl
@[simp]theorem aaJ (o:QF):uz f o M Z=(o M Z).bind λd=>match rM M f d with
 |some (.dat x)=>.ok x
 |some (.lst _ xs)=>.ok (.list xs)
 |_=>.bad:=rfl
@[simp]theorem aaN (tb:List (Str×MV)) (o:QF) (as:QA):cG tb o as M Z=(o M Z).bind λd=>match oN tb M d with
 |some (.q _ m)=>(as M Z).bind λds=>m M (d::ds)
 |_=>.bad:=rfl
@[simp]theorem ZG (tb:List (Str×MV)) (o:QF) (as:QA):jM tb o as M Z=((o M Z).at M).bind λd _=>match oN tb M d with
 |some (.q _ m)=>((as M Z).at M).bind λds _=>(m M (d::ds)).at M
 |some (.g _ m)=>((as M Z).at M).bind λds _=>m M (d::ds)
 |none=>.bad:=rfl
@[simp]theorem aac (x:Str) (m:Mo->List Dat->aG Dat) (as:QA):sE x m as M Z=((as M Z).at M).bind λds _=>match m (M++[⟨x,[]⟩]) (ob M.length::ds) with
 |.ok .none M'=>.ok (ob M.length) M'
 |_=>.bad:=rfl
@[simp]theorem Zz (m:Mo->List Dat->aG Dat) (as:QA):vZ m as M Z=((as M Z).at M).bind λds _=>m M ds:=rfl
@[simp]theorem YG (m:Mo->List Dat->aG Dat) (as:GA):U5 m as M Z=(as M Z).bind λds M1=>m M1 ds:=rfl
@[simp]theorem Yu (m:Mo->List Dat->Out Dat) (as:GA):Tj m as M Z=(as M Z).bind λds M1=>(m M1 ds).at M1:=rfl
@[simp]theorem Yx (a:GF) (r:GA):VH a r M Z=(a M Z).bind λd M1=>(r M1 Z).bind λds M2=>.ok (d::ds) M2:=rfl
@[simp]theorem aaF (t:QT):M4 t M Z=(t M Z).at M:=rfl
@[simp]theorem Y4 (a:GT):W7 a M Z=(a M Z).bind λb M1=>.ok (!b) M1:=rfl
@[simp]theorem Y8 (a b:GT):Ym a b M Z=(a M Z).bind λx M1=>if x=true then b M1 Z else .ok false M1:=rfl
@[simp]theorem aam (a b:GT):ZJ a b M Z=(a M Z).bind λx M1=>if x=true then .ok true M1 else b M1 Z:=rfl
@[simp]theorem Zu (a:GF):Yn a M Z=(a M Z).bind λd M1=>(qM d).at M1:=rfl
@[simp]theorem Ze (x:Str):mX x M Z=.exc ⟨x,[]⟩ Z M:=rfl
@[simp]theorem YF (x:Str) (fs:List Str) (as:QA):uH x fs as M Z=((as M Z).at M).then Z λds M'=>.exc ⟨x,(fs.zip ds).reverse⟩ Z M':=rfl
@[simp]theorem acz (b:SF) (hs:List Hd):Df b hs M Z=match b M Z with
 |.exc x Z' M'=>hdl hs x Z' M'
 |o=>o:=rfl
@[simp]theorem Z8 (x:aY):hdl [] x Z M=.exc x Z M:=rfl
@[simp]theorem aa0 (h:Hd) (r:List Hd) (x:aY):hdl (h::r) x Z M=match h.tk x.cls with
  |some true=>match Ho Z h.nm with
   |true=>match oH h.y x h.st (xX Z h.nm) with
    |some Z2=>.next (xX Z2 h.nm) M
    |none=>.bad
   |false=>.bad
  |some false=>hdl r x Z M
  |none=>.bad:=rfl
@[simp]theorem aa8:xX Z none=Z:=rfl
@[simp]theorem aaQ (i:Nat):xX Z (some i)=Z.set i none:=rfl
@[simp]theorem Zg:Ho Z none=true:=rfl
@[simp]theorem Y5 (i:Nat):Ho Z (some i)=decide (i<Z.length):=rfl
@[simp]theorem abP (y:Str) (x:aY):oH y x [] Z=some Z:=rfl
@[simp]theorem abD (y:Str) (x:aY) (j:Nat) (e:nZ) (r:List (Nat×nZ)):oH y x ((j,e)::r) Z=(Cd y x e).bind λd=>oH y x r (Z.set j (some (.dat d))):=rfl
@[simp]theorem abu (y:Str) (x:aY) (d:Dat):Cd y x (.con d)=some d:=rfl
@[simp]theorem aad (g:GF):vP g M Z=(g M Z).then Z λd M'=>.ret d M':=rfl
@[simp]theorem acO (t:GT) (f k:SF):Y7 t f k M Z=(t M Z).then Z λc M'=>if c=true then f M' Z else k M' Z:=rfl
@[simp]theorem Yv (a b:QF):uh a b M Z=(a M Z).bind λd=>(b M Z).bind λe=>(lW d).bind λlo=>(lW e).bind λn=>Out.when (decide (n<=100000/\-100000<=n/\lo<=100000/\-100000<=lo)) (.ok (eO lo (n-lo).toNat)):=rfl
@[simp]theorem aa7 (ft:Ft) (o:QF) (e:GF):Ip ft o f e M Z=(e M Z).then Z λd M1=>((o M1 Z).at M1).then Z λod M2=>match dD M2 od with
 |some (h,i)=>match ft.has i.cls f&&decide (i.fs.length<100) with
  |true=>.next Z (M2.set h (i.put f (.dat d)))
  |false=>.bad
 |none=>.bad:=rfl
@[simp]theorem aaY (ft:Ft) (o:QF) (e:IF):tV ft o f e M Z=((e M Z).at M).then Z λxs M0=>((o (M0++[⟨"",[]⟩]) Z).at (M0++[⟨"",[]⟩])).then Z λod M2=>match dD M2 od with
 |some (h,i)=>match ft.has i.cls f&&decide (i.fs.length<100) with
  |true=>.next Z (M2.set h (i.put f (.lst M0.length xs)))
  |false=>.bad
 |none=>.bad:=rfl
@[simp]theorem Z7 (ft:Ft) (o:QF) (b:Bool):Ax ft o f b M Z=((o (M++[⟨"",[]⟩]) Z).at (M++[⟨"",[]⟩])).then Z λod M2=>match dD M2 od with
 |some (h,i)=>match ft.has i.cls f&&decide (i.fs.length<100) with
  |true=>.next Z (M2.set h (i.put f (.dic b [])))
  |false=>.bad
 |none=>.bad:=rfl
@[simp]theorem aaH (ft:Ft) (o:QF) (e:Mo->Env->Out (List (Dat×Dat))):Af ft o f e M Z=((e M Z).at M).then Z λkvs _=>((o (M++[⟨"",[]⟩]) Z).at (M++[⟨"",[]⟩])).then Z λod M2=>match dD M2 od with
 |some (h,i)=>match ft.has i.cls f&&decide (i.fs.length<100) with
  |true=>.next Z (M2.set h (i.put f (.dic true kvs)))
  |false=>.bad
 |none=>.bad:=rfl
@[simp]theorem aaC (o:QF) (e:GF):uQ f o e M Z=((o M Z).at M).then Z λod M0=>match oU M0 f od with
 |some (_,_,n,_)=>(e M0 Z).then Z λd M1=>match oU M1 f od with
  |some (h,i,n',xs)=>match n==n'&&decide (xs.length<100000) with
   |true=>.next Z (M1.set h (i.put f (.lst n (xs++[d]))))
   |false=>.bad
  |none=>.bad
 |none=>.bad:=rfl
@[simp]theorem aaB (o fi e:QF):wA f o fi e M Z=((e M Z).at M).then Z λd _=>((o M Z).at M).then Z λod _=>match oU M f od with
 |some (h,i,n,xs)=>((fi M Z).at M).then Z λk _=>match k with
  |.int k=>match ixN xs.length k with
   |some j=>.next Z (M.set h (i.put f (.lst n (xs.set j d))))
   |none=>.bad
  |_=>.bad
 |none=>.bad:=rfl
@[simp]theorem aaX (ft:Ft) (o e:QF):Ay ft f o e M Z=((o M Z).at M).then Z λod _=>match dD M od with
 |some (h,i)=>match i.fs.lookup f,ft.has i.cls f&&decide (i.fs.length<100) with
  |some (.dat (.int a)),true=>((e M Z).at M).then Z λd _=>match d with
   |.int b=>.next Z (M.set h (i.put f (.dat (.int (a+b)))))
   |_=>.bad
  |_,_=>.bad
 |none=>.bad:=rfl
theorem PL(d:Dat):oU M f d=(dD M d).bind λp=>match p.2.fs.lookup f with
 |some (.lst n xs)=>some (p.1,p.2,n,xs)
 |_=>none:=rfl
@[simp]theorem aan:oU M f (ob h)=(M[h]?).bind λi=>match i.cls=="" with
 |true=>none
 |false=>match i.fs.lookup f with
  |some (.lst n xs)=>some (h,i,n,xs)
  |_=>none:=by
 rw[PL,Bt];cases M[h]? with
 |none=>rfl
 |some i=>
  show(match i.cls=="" with
   |true=>none
   |false=>some (h,i)).bind _=(match i.cls=="" with
   |true=>none
   |false=>_)
  cases i.cls==""<;>rfl
@[simp]theorem aaI (i:Inst) (x:bM):i.put f x=⟨i.cls,putL f x i.fs⟩:=rfl
@[simp]theorem acY (x:bM):putL f x []=[(f,x)]:=rfl
@[simp]theorem acZ (x y:bM) (g:Str) (r:List (Str×bM)):putL f x ((g,y)::r)=if g=f then(g,x)::r else(g,y)::putL f x r:=rfl
@[simp]theorem aak (ft:Ft) (c:Str):Ft.has ft c f=match ft.lookup c with
 |some fs=>fs.contains f
 |none=>false:=rfl
@[simp]theorem aaO:lg M f (ob h)=(M[h]?).bind λi=>match i.cls=="" with
 |true=>none
 |false=>match i.fs.lookup f with
  |some (.dic b kvs)=>some (h,i,b,kvs)
  |_=>none:=by
 show(dD M (ob h)).bind _=_
 rw[Bt];cases M[h]? with
 |none=>rfl
 |some i=>
  show(match i.cls=="" with
   |true=>none
   |false=>some (h,i)).bind _=(match i.cls=="" with
   |true=>none
   |false=>_)
  cases i.cls==""<;>rfl
@[simp]theorem abW (neg:Bool) (k o:QF):Dd neg f k o M Z=(k M Z).bind λd=>(o M Z).bind λod=>match lg M f od with
 |some (_,_,b,kvs)=>(dhas b kvs d).bind λr=>.ok (.bool (neg ^^ r))
 |none=>.bad:=rfl
@[simp]theorem ZW (o k e:QF):Ae f o k e M Z=((e M Z).at M).then Z λv _=>((o M Z).at M).then Z λod _=>match lg M f od with
 |some (h,i,b,kvs)=>((k M Z).at M).then Z λd _=>match dhas b kvs d,decide (kvs.length<100000) with
  |.ok false,true=>.next Z (M.set h (i.put f (.dic b (kvs++[(d,v)]))))
  |_,_=>.bad
 |none=>.bad:=rfl
@[simp]theorem aaE (o k:QF):Ak f o k M Z=((o M Z).at M).then Z λod _=>match lg M f od with
 |some (h,i,b,kvs)=>((k M Z).at M).then Z λd _=>match dhas b kvs d,decide (kvs.length<=100000) with
  |.ok true,true=>.next Z (M.set h (i.put f (.dic b (kvs.filter λp=>!PyData.eqv p.1 d))))
  |_,_=>.bad
 |none=>.bad:=rfl
@[simp]theorem YQ (o:QF):xg f o M Z=(o M Z).bind λod=>match lg M f od with
 |some (_,_,true,kvs)=>.ok (kvs.map (·.1))
 |_=>.bad:=rfl
@[simp]theorem YM (o:QF):rB f o M Z=(o M Z).bind λod=>match lg M f od with
 |some (_,_,_,kvs)=>.ok (.list (kvs.map (·.1)))
 |none=>.bad:=rfl
@[simp]theorem acW (it:IF) (tg:bH) (vs:List Nat) (tk:QF):Vb it tg vs tk M Z=(it M Z).bind λds=>Out.when (decide (ds.length<=50000)) (qR tg tk M (aO Z vs) ds []):=rfl
@[simp]theorem Zo (kvs:List (Dat×Dat)) (i:Int):dhas false kvs (.int i)=.ok (kvs.any λp=>PyData.eqv p.1 (.int i)):=rfl
@[simp]theorem abl (neg:Bool) (kvs:List (Str×Dat)) (k:QF):CN neg kvs k M Z=(k M Z).bind λd=>match d with
 |.str x=>.ok (.bool (neg ^^ (kvs.lookup x).isSome))
 |_=>.bad:=rfl
@[simp]theorem abt (kvs:List (Str×Dat)) (k:QF):LK kvs k M Z=(k M Z).bind λd=>match d with
 |.str x=>match kvs.lookup x with
  |some y=>.ok y
  |none=>.bad
 |_=>.bad:=rfl
@[simp]theorem Za (it:IF) (tg:bH) (vs:List Nat) (tt:QT) (it1:IF) (tg1:bH) (vs1:List Nat) (tt1:QT) (te:QF):rG it tg vs tt it1 tg1 vs1 tt1 te M Z=((it M Z).bind λds=>(cR tg tt it1 tg1 vs1 tt1 te M (aO Z vs) ds).bind λr=>Out.when (decide (r.length<=50000)) (.ok r)).bind λr=>.ok (.list r):=rfl
@[simp]theorem YJ (it:IF) (tg:bH) (vs:List Nat) (tt:QT) (te:QF):Ru it tg vs tt te M Z=((it M Z).bind λds=>Out.when (decide (ds.length<=50000)) (aV tg tt te M (aO Z vs) ds)).bind λds=>match intsOf ds with
 |some l=>Out.when (decide (l.length<=4000)) (.ok (.list ((Oj l).map PyData.int)))
 |none=>.bad:=rfl
@[simp]theorem YB {α:Type} (k g:Str) (y:α) (r:List (Str×α)):List.lookup k ((g,y)::r)=if k=g then some y else List.lookup k r:=by
 rw[adN];by_cases e:k=g
 .subst e;simp
 .have:(k==g)=false:=by simpa using e
  rw[this,aeB e]
end
end Rf
namespace Pr
open PySem PySem.Spec PyProof.Rows L2 Evl Rf
def j8:SF:=
 (aH (tV mF (ak 0) "allowances" (GD aP))
 (tV mF (ak 0) "circles" (GD aP)))
def fQ:=mG 1 j8
def yG:SF:=
 (aH (bJ (aD 5) (gOf (aA jd (aA bW (aA bW (aA mW (ak 5) (qC (.int 48271))) (aA mW (qC (.int 9973)) (ak 4))) (qC (.int 11))) (qC (.int 2147483647)))))
 (yh 3 (aA jd (aA yr (ak 5) (qC (.int 1021))) (ak 2))))
def yI:SF:=
 (aH (yh 3 (aA jd (ak 0) (ak 2)))
 (bJ (aD 0) (gOf (aA yr (ak 0) (ak 2)))))
def Hf:SF:=
 (aH (rK 3 (GD aP))
 (aH (bJ (aD 0) (gOf (gD BW (ak 0))))
 (aH (dI (cQ (aA KC (ak 0) (aA Cm (qC (.int 10)) (qC (.int 18))))) (aH (lV (iw (ak 1)) (aD 4) yI)
 (aZ (aJ 3))) bf)
 (aH (bJ (aD 5) (gOf (aA jd (aA mW (aA bW (aA jd (ak 0) (qC (.int 1000003))) (qC (.int 17))) (qC (.int 69621))) (qC (.int 2147483647)))))
 (aH (lV (iw (ak 1)) (aD 4) yG)
 (aZ (aJ 3)))))))
def oG:=mQ 6 Hf
def jk:SF:=
 (aZ (gD jD (uz "allowances" (ak 0))))
def fU:=mQ 1 jk
def bh:List (Str×MV):=[("Grounds",.q 1 fU)]
def gM:SF:=
 (aH (dI (dJ (iW oJ oJ (qC (.int 0)) (ak 1) (qC dW))) (mX "BadAllowance") bf)
 (aH (uQ "allowances" (ak 0) (gOf (aJ 1)))
 (aH (uQ "circles" (ak 0) (gOf (Dz (aF (cG bh (ak 0) aP) aP))))
 (aZ (cG bh (ak 0) aP)))))
def dX:=mG 2 gM
def Bw:SF:=
 (aH (dI (cQ (aA CG (ak 1) (gD jD (ak 0)))) (aZ (aA cH (ak 0) (ak 1))) bf)
 (aZ (qC (.int 0))))
def lM:=mQ 2 Bw
def lZ:SF:=
 (aZ (Kz (iW oJ oJ (qC (.int 1)) (ak 1) (cG bh (ak 0) aP))))
def jB:=mQ 2 lZ
def cX:List (Str×MV):=[("Grounds",.q 2 jB)]
def kY:SF:=
 (dI (dJ (fV (cG cX (ak 0) (aF (aJ 1) aP)))) (mX "NoGround") bf)
def jg:=mQ 2 kY
def bR:List (Str×MV):=[("Grounds",.q 2 jg)]
def fJ:SF:=
 (aH (lA (gOf (cG bR (ak 0) (aF (aJ 1) aP))))
 (aZ (gD uo (aA cH (uz "circles" (ak 0)) (aA gA (ak 1) (qC (.int 1)))))))
def cC:=mQ 2 fJ
def iJ:SF:=
 (wA "circles" (ak 0) (aA gA (ak 3) (qC (.int 1))) (aJ 2))
def ju:SF:=
 (aH (bJ (aD 2) (gOf (gD o7 (ak 1))))
 (aH (lV (jA (aJ 1)) (aD 3) iJ)
 (aZ (aJ 1))))
def dR:=mG 4 ju
def bK:List (Str×MV):=[("Grounds",.g 2 dR)]
def aC:List (Str×MV):=[("Grounds",.q 2 cC)]
def dN:SF:=
 (aH (bJ (aD 3) (gOf (cG aC (ak 0) (aF (aJ 1) aP))))
 (aH (bJ (aD 4) (gOf (cG aC (ak 0) (aF (aJ 2) aP))))
 (aH (dI (cQ (aA (inD false) (ak 2) (ak 3))) (mX "Together") bf)
 (vP (jM bK (ak 0) (aF (gD qj (aA bW (ak 3) (ak 4))) aP))))))
def cM:=mG 5 dN
def fW:SF:=
 (aH (bJ (aD 2) (gOf (jC (jA (cG aC (ak 0) (aF (aJ 1) aP))) (aD 3) [3] (cQ (aA rR (ak 3) (ak 1))) (aJ 3))))
 (aH (dI (dJ (fV (ak 2))) (mX "Alone") bf)
 (aH (lA (jM bK (ak 0) (aF (Dc (aF (aJ 1) aP)) aP)))
 (vP (jM bK (ak 0) (aF (aJ 2) aP))))))
def d9:=mG 4 fW
def bL:List (Str×MV):=[("Grounds",.g 3 cM)]
def bQ:List (Str×MV):=[("Grounds",.g 2 d9)]
def dZ:SF:=
 (aH (bJ (aD 4) (gOf (qC .none)))
 (aH (Df (dI (cQ (aA CG (ak 1) (qC (.int 2)))) (bJ (aD 4) (jM bL (ak 0) (aF (aJ 2) (aF (aJ 3) aP)))) (bJ (aD 4) (jM bQ (ak 0) (aF (aJ 2) aP)))) [⟨"NoGround",λx=>iz.lookup x,none,[(4,(.con (.str "NoGround")))]⟩,⟨"Together",λx=>lF.lookup x,none,[(4,(.con (.str "Together")))]⟩,⟨"Alone",λx=>vB.lookup x,none,[(4,(.con (.str "Alone")))]⟩])
 (aZ (aJ 4))))
def cI:=mG 5 dZ
def mK:SF:=
 (dI (cQ (aA jx (aA cH (cP 0) (ak 6)) (ak 5))) (uf 0 (aJ 6) (aJ 4)) bf)
def iY:SF:=
 (aH (bJ (aD 3) (gOf (gD jD (cP 0))))
 (aH (dI (rC (dJ (iW oJ oJ (qC (.int 1)) (ak 1) (ak 3))) (dJ (iW oJ oJ (qC (.int 1)) (ak 2) (ak 3)))) (aZ (qC (.str "NoGround"))) bf)
 (aH (dI (cQ (aA jx (aA cH (cP 0) (aA gA (ak 1) (qC (.int 1)))) (aA cH (cP 0) (aA gA (ak 2) (qC (.int 1)))))) (aZ (qC (.str "Together"))) bf)
 (aH (bJ (jO [4,5]) (gOf (Dz (aF (aA cH (cP 0) (aA gA (ak 1) (qC (.int 1)))) (aF (aA cH (cP 0) (aA gA (ak 2) (qC (.int 1)))) aP)))))
 (aH (lV (iw (ak 3)) (aD 6) mK)
 (aZ (jC (iw (ak 3)) (aD 6) [6] (cQ (aA jx (aA cH (cP 0) (ak 6)) (ak 4))) (aA bW (ak 6) (qC (.int 1))))))))))
def eU:=mG 7 iY
def kh:SF:=
 (aH (bJ (aD 3) (gOf (gD jD (cP 0))))
 (aH (dI (dJ (iW oJ oJ (qC (.int 1)) (ak 1) (ak 3))) (aZ (qC (.str "NoGround"))) bf)
 (aH (bJ (aD 4) (gOf (jC (iw (ak 3)) (aD 5) [5] (oE (cQ (aA jx (aA cH (cP 0) (ak 5)) (aA cH (cP 0) (aA gA (ak 1) (qC (.int 1)))))) (cQ (aA rR (aA bW (ak 5) (qC (.int 1))) (ak 1)))) (aA bW (ak 5) (qC (.int 1))))))
 (aH (dI (cQ (aA jx (ak 4) (Dc aP))) (aZ (qC (.str "Alone"))) bf)
 (aH (uf 0 (aA gA (ak 1) (qC (.int 1))) (aJ 2))
 (aZ (aJ 4)))))))
def gH:=mG 6 kh
def yL:SF:=
 (aZ (uI (kZ .int (ak 0)) (Ba (kZ .bool (ak 0)))))
def o9:=mQ 1 yL
def vo(r:Mo->List Dat->Out Dat):SF:=
 (dI (dJ (fV (fH r (aF (aJ 2) (aF (aJ 3) aP))))) (aZ (qC (.bool false))) bf)
def pK(r:Mo->List Dat->Out Dat):SF:=
 (aH (dI (cQ (pJ false .none (ak 1))) (aZ (pJ false .none (ak 0))) bf)
 (aH (dI (cQ (pJ false (.bool true) (ak 1))) (aZ (pJ false (.bool true) (ak 0))) bf)
 (aH (dI (cQ (pJ false (.bool false) (ak 1))) (aZ (pJ false (.bool false) (ak 0))) bf)
 (aH (dI (fV (kZ .int (ak 1))) (aZ (uI (fH o9 (aF (aJ 0) aP)) (aA jx (ak 0) (ak 1)))) bf)
 (aH (dI (fV (kZ .str (ak 1))) (aZ (uI (kZ .str (ak 0)) (aA jx (ak 0) (ak 1)))) bf)
 (aH (dI (oE (fV (kZ .tuple (ak 1))) (dJ (fV (kZ .tuple (ak 0))))) (aZ (qC (.bool false))) bf)
 (aH (dI (oE (fV (kZ .list (ak 1))) (dJ (fV (kZ .list (ak 0))))) (aZ (qC (.bool false))) bf)
 (aH (dI (cQ (aA rR (gD jD (ak 0)) (gD jD (ak 1)))) (aZ (qC (.bool false))) bf)
 (aH (lV (Io (aJ 0) (aJ 1)) (jO [2,3]) (vo r))
 (aZ (qC (.bool true))))))))))))
def cA:Nat->Mo->List Dat->Out Dat
 |0=>λ_ _=>.bad
 |n+1=>mQ 4 (pK (cA n))
def eX:SF:=
 (aH (lA (gOf (cG bR (ak 0) (aF (aJ 1) aP))))
 (aZ (aA cH (uz "allowances" (ak 0)) (aA gA (ak 1) (qC (.int 1))))))
def cV:=mQ 2 eX
def bD:List (Str×MV):=[("Grounds",.q 2 cV)]
def kW:SF:=
 (aZ (gD maxD (jC (jA (cG aC (ak 0) (aF (aJ 1) aP))) (aD 2) [2] nR (cG bD (ak 0) (aF (aJ 2) aP)))))
def jh:=mQ 3 kW
def jR:List (Str×MV):=[("Grounds",.q 2 jh)]
def yF:SF:=
 (aH (bJ (aD 4) (gOf (jC (iw (gD jD (cP 2))) (aD 6) [6] (cQ (aA jx (aA cH (cP 2) (ak 6)) (aA cH (cP 2) (aA gA (ak 3) (qC (.int 1)))))) (aA bW (ak 6) (qC (.int 1))))))
 (aH (yR [3] 5 (gOf (cG aC (ak 0) (aF (aJ 3) aP))))
 (aH (dI (dJ (fV (fH (cA 10) (aF (aJ 5) (aF (aJ 4) aP))))) (aZ (qC (.bool false))) bf)
 (aH (jy 5)
 (aH (dI (rC (dJ (fV (fH (cA 10) (aF (cG aC (ak 0) (aF (aJ 3) aP)) (aF (aJ 4) aP))))) (dJ (fV (fH (cA 10) (aF (cG bD (ak 0) (aF (aJ 3) aP)) (aF (aA cH (ak 1) (aA gA (ak 3) (qC (.int 1)))) aP)))))) (aZ (qC (.bool false))) bf)
 (aH (dI (rC (dJ (fV (fH (cA 10) (aF (cG bh (ak 0) aP) (aF (gD jD (ak 1)) aP))))) (rC (cQ (pJ true (.bool true) (cG cX (ak 0) (aF (aJ 3) aP)))) (cQ (pJ true (.bool false) (cG cX (ak 0) (aF (aA bW (gD jD (ak 1)) (qC (.int 1))) aP)))))) (aZ (qC (.bool false))) bf)
 (aZ (fH (cA 10) (aF (cG jR (ak 0) (aF (aJ 3) aP)) (aF (gD maxD (jC (jA (ak 4)) (aD 6) [6] nR (aA cH (ak 1) (aA gA (ak 6) (qC (.int 1)))))) aP))))))))))
def kE:=mQ 7 yF
def fX:List (Str×MV):=[("Grounds",.g 2 dX)]
def yu:SF:=
 (dI (dJ (fV (fH kE (aF (aJ 2) (aF (aJ 1) (aF (aJ 5) (aF (aJ 9) aP))))))) (aZ (qC (.bool false))) bf)
def fu:SF:=
 (aH (bJ (aD 8) (gOf (fH oG (aF (aJ 7) (aF (qC (.int 7)) (aF (qC (.int 10)) aP))))))
 (aH (bJ (aD 9) (gOf (aA bW (qC (.int 1)) (aA jd (aA bW (aA mW (aA cH (ak 8) (qC (.int 0))) (qC (.int 10))) (aA cH (ak 8) (qC (.int 1)))) (ak 4)))))
 (aH (bJ (aD 10) (gOf (aA bW (qC (.int 1)) (aA jd (aA bW (aA mW (aA cH (ak 8) (qC (.int 2))) (qC (.int 10))) (aA cH (ak 8) (qC (.int 3)))) (ak 4)))))
 (aH (dI (cQ (aA jx (aA cH (ak 8) (qC (.int 4))) (qC (.int 9)))) (aH (bJ (aD 9) (gOf (aA jd (aA bW (aA mW (aA cH (ak 8) (qC (.int 0))) (qC (.int 10))) (aA cH (ak 8) (qC (.int 1)))) (aA bW (ak 4) (qC (.int 2))))))
 (bJ (aD 10) (gOf (aA jd (aA bW (aA mW (aA cH (ak 8) (qC (.int 2))) (qC (.int 10))) (aA cH (ak 8) (qC (.int 3)))) (aA bW (ak 4) (qC (.int 2))))))) bf)
 (aH (dI (cQ (aA CG (aA jd (aA cH (ak 8) (qC (.int 5))) (qC (.int 3))) (qC (.int 2)))) (bJ (aD 11) (vZ eU (aF (aJ 5) (aF (aJ 9) (aF (aJ 10) aP))))) (bJ (aD 11) (vZ gH (aF (aJ 5) (aF (aJ 9) (aF (aA bW (ak 4) (ak 6)) aP))))))
 (aH (wJ 12 cI (aF (aJ 2) (aF (aA jd (aA cH (ak 8) (qC (.int 5))) (qC (.int 3))) (aF (aJ 9) (aF (aJ 10) aP)))))
 (aH (dI (dJ (fV (fH (cA 10) (aF (aJ 12) (aF (aJ 11) aP))))) (aZ (qC (.bool false))) bf)
 (aH (dI (fV (kZ .list (ak 12))) (jy 12) bf)
 (dI (dJ (fV (fH kE (aF (aJ 2) (aF (aJ 1) (aF (aJ 5) (aF (aA bW (qC (.int 1)) (aA jd (aA cH (ak 8) (qC (.int 6))) (ak 4))) aP))))))) (aZ (qC (.bool false))) bf)))))))))
def yw:SF:=
 (lA (jM fX (ak 2) (aF (aJ 3) aP)))
def Hr:SF:=
 (aH (bJ (aD 1) (gOf (fH oG (aF (fH lM (aF (aJ 0) (aF (qC (.int 0)) aP))) (aF (aA bW (qC (.int 1)) (aA jd (fH lM (aF (aJ 0) (aF (qC (.int 1)) aP))) (qC (.int 10)))) (aF (qC (.int 10)) aP))))))
 (aH (bJ (aD 2) (sE "Grounds" fQ aP))
 (aH (lV (jA (aJ 1)) (aD 3) yw)
 (aH (bJ (aD 4) (gOf (gD jD (ak 1))))
 (aH (vD 5 (jY (iw (ak 4)) (aD 13) [13] nR (aJ 13)))
 (aH (lV (qH 0 (O8 (ak 0) (rQ (qC (.int 2))) (rQ (qC (.int 52))))) (jO [6,7]) fu)
 (aH (lV (uh (qC (.int 1)) (aA bW (ak 4) (qC (.int 1)))) (aD 9) yu)
 (aZ (qC (.bool true))))))))))
def Ai:=mG 14 Hr
abbrev rX(N:List Str)(s:Stmt)(G:List (Str×GV))(B:List Str)(Ms:List (Str×List (Str×MV)))(ml:List Str):Option SF:=rd ⟨N,defScope s,G,B,⟨Ms,mF,Ky,Ou,Es⟩,ml,true⟩ (defBody s)
abbrev rY(N:List Str)(s:Stmt)(G:List (Str×GV))(B:List Str)(Ms:List (Str×List (Str×MV)))(ml:List Str):Option SF:=YK ⟨N,defScope s,G,B,⟨Ms,mF,Ky,Ou,Es⟩,ml,true⟩ (defBody s)
theorem Qc:FnScope ["_law_found","_law_due","_law_one","_law_other"] ["_law_found","_law_due"] (defScope wD):=⟨rfl,rfl,rfl,by decide +kernel,rfl,by decide +kernel,by decide +kernel⟩
theorem U9:FnScope ["_law_script","_law_given","_law_lands","_law_allowance","_law_many","_law_groups","_law_at","_law_cell_here","_law_parts","_law_one","_law_two","_law_due","_law_told","_law_k"] ["_law_script"] (defScope uK):=⟨rfl,rfl,rfl,by decide +kernel,rfl,by decide +kernel,by decide +kernel⟩
theorem xH:rY ["self"] pF [] [] [] []=some j8:=by kernel_rfl
theorem Xw:rX ["_law_cell_here","_law_many","_law_base","_law_found","_law_k","_law_turn"] s_row [] ["range","abs"] [] ["_law_found"]=some Hf:=by kernel_rfl
theorem yO:rX ["self"] pY [] ["len"] [] []=some jk:=by kernel_rfl
theorem qI:rY ["self","allowance"] jW [("BadAllowance",.exc),("GREATEST_ALLOWANCE",.con dW)] [] [("many",bh)] []=some gM:=by kernel_rfl
theorem Uv:rX ["_law_script","_law_k"] Kr [] ["len"] [] []=some Bw:=by kernel_rfl
theorem Ab:rX ["self","ground"] qT [] [] [("many",bh)] []=some lZ:=by kernel_rfl
theorem yE:rX ["self","ground"] pW [("NoGround",.exc)] [] [("has",cX)] []=some kY:=by kernel_rfl
theorem rA:rX ["self","ground"] lK [] ["list"] [("need",bR)] []=some fJ:=by kernel_rfl
theorem uR:rY ["self","grounds","circle","ground"] mH [] ["tuple"] [] []=some ju:=by kernel_rfl
theorem w6:rY ["self","ground","other","ones","others"] oK [("Together",.exc)] ["sorted"] [("enclose",bK),("together",aC)] []=some dN:=by kernel_rfl
theorem yN:rY ["self","ground","left","near"] pG [("Alone",.exc)] [] [("enclose",bK),("together",aC)] []=some fW:=by kernel_rfl
theorem Ed:rY ["_law_lands","_law_way","_law_one","_law_two","_law_told"] uU [("NoGround",.exc),("Together",.exc),("Alone",.exc)] [] [("unite",bL),("part",bQ)] []=some dZ:=by kernel_rfl
theorem Lh:rY ["_law_groups","_law_one","_law_two","_law_many","_law_left","_law_right_here","_law_k"] DN [] ["range","len"] [] ["@_law_groups"]=some iY:=by kernel_rfl
theorem K9:rY ["_law_groups","_law_one","_law_fresh","_law_many","_law_left","_law_k"] Bp [] ["range","len"] [] ["@_law_groups"]=some kh:=by kernel_rfl
theorem RW:rX ["_law_found"] Fo [] ["isinstance","bool","int"] [] []=some yL:=by kernel_rfl
theorem Um(r:Mo->List Dat->Out Dat):rd ⟨["_law_found","_law_due","_law_one","_law_other"],defScope wD,[("_law_like",.fq 2 r),("_law_whole",.fq 1 o9)],["zip","len","isinstance","list","tuple","str","int"],⟨[],mF,Ky,Ou,Es⟩,[],true⟩ (defBody wD)=some (pK r):=by kernel_rfl
theorem qY:rX ["self","ground"] j5 [] [] [("need",bR)] []=some eX:=by kernel_rfl
theorem yg:rX ["self","ground","near"] pQ [] ["max"] [("together",aC),("allowance",bD)] []=some kW:=by kernel_rfl
theorem RX:rX ["_law_lands","_law_given","_law_groups","_law_one","_law_due","_law_told","_law_k"] Ep [("_law_like",.fq 2 (cA 10))] ["max","len","range"] [("room",jR),("has",cX),("many",bh),("allowance",bD),("together",aC)] ["_law_told","@_law_groups"]=some yF:=by kernel_rfl
theorem Xo:rY ["_law_script","_law_given","_law_lands","_law_allowance","_law_many","_law_groups","_law_at","_law_cell_here","_law_parts","_law_one","_law_two","_law_due","_law_told","_law_k"] uK [("_law_right",.fq 4 kE),("_law_like",.fq 2 (cA 10)),("_law_deed_told",.fg 4 cI),("_law_united",.fg 3 eU),("_law_parted",.fg 3 gH),("_law_row",.fq 3 oG),("Grounds",.cls 0 fQ),("_law_cell",.fq 2 lM)] ["range","enumerate","isinstance","list","len"] [("add_ground",fX)] ["_law_told","@_law_groups"]=some Hr:=by kernel_rfl
structure Top(w:World)(K:adh)(mg:Str->Option Value):Prop where
 ex:∃h:Heap,K.In h/\h.Ns mainGlobals mg
 c:uP fa fn [] JF w K
abbrev aj(w:World)(K:adh):aq:=fP w K Gy mF
section
variable{P:Program}{w:World}{K:adh}{mg:Str->Option Value}{base:Heap}{k:Nat}(T:Top w K mg)
include T
theorem Top.glo(i:Nat){x:Str}(h:fa[i]?=some (.glo x):=by rfl):mg x=some (.ref (He.ga K x)):=by obtain⟨_,X,G⟩:=T.ex;exact He.glo_ok X G (T.c.rF i h)
theorem Top.free(i:Nat){x:Str}(h:fa[i]?=some (.free x):=by rfl):mg x=none:=by obtain⟨_,X,G⟩:=T.ex;exact He.free_ok X G (T.c.rF i h)
theorem Top.int(i:Nat){x:Str}{j:Int}(h:fa[i]?=some (.int x j):=by rfl):∃t,mg x=some (.int j t):=by obtain⟨_,X,G⟩:=T.ex;exact He.int_ok X G (T.c.rF i h)
theorem Top.str(i:Nat){x j:Str}(h:fa[i]?=some (.str x j):=by rfl):∃t,mg x=some (.str j t):=by obtain⟨_,X,G⟩:=T.ex;exact He.str_ok X G (T.c.rF i h)
theorem qw:bV P w K mg base (aj w K) k "GREATEST_ALLOWANCE" (.con dW):=by obtain⟨t,h⟩:=T.int 29;exact Vo h
theorem yQ:bV P w K mg base (aj w K) k "BadAllowance" .exc:=wX (by rfl) (T.glo 21) (T.c.rF 22)
theorem xq:bV P w K mg base (aj w K) k "NoGround" .exc:=wX (by rfl) (T.glo 23) (T.c.rF 24)
theorem vY:bV P w K mg base (aj w K) k "Together" .exc:=wX (by rfl) (T.glo 25) (T.c.rF 26)
theorem Gf:bV P w K mg base (aj w K) k "Alone" .exc:=wX (by rfl) (T.glo 27) (T.c.rF 28)
theorem Top.OD:sO K mF=true:=(He.ba (He.ba (He.ba T.c.more).1).1).2
theorem Top.xf:(Es.all λp=>Gy.contains p.1&&Hv K p.1 p.2)=true:=(He.ba T.c.more).2
theorem Top.hs{Ms:List (Str×List (Str×MV))}(h:oV P w K mg base (aj w K) k Ms):yM P w K mg base (aj w K) k ⟨Ms,mF,Ky,Ou,Es⟩:=XC h T.OD (He.ba (He.ba T.c.more).1).2 (by rfl) T.xf
theorem Top.cls{c:Str}{fs:List Str}(h:mF.lookup c=some fs:=by rfl):Cls K (He.ga K c):=(Cu T.OD h).1
local macro_rules | `(tactic| nofun)=>`(tactic| first | (exact λ_ _ _ _ _ _ us hl=>match us,hl with | [_],_=>rfl) | (exact λ_ _ _ _ _ _ us hl=>match us,hl with | [_,_],_=>rfl) | (exact λ_ _ _ _ _ _ us hl=>match us,hl with | [_,_,_],_=>rfl) | (exact λ_ _ _ _ _ _ us hl=>match us,hl with | [_,_,_,_],_=>rfl) | (exact λ_ _ _ _ _ _ us hl=>match us,hl with | [_,_,_,_,_],_=>rfl) | (exact λ_ _ _ _ _ _ us hl=>match us,hl with | [_,_,_,_,_,_],_=>rfl) | (exact λ_ _ _ _ _ _ us hl=>match us,hl with | [_,_,_,_,_,_,_],_=>rfl) | (exact λ_ _ _ _ _ _ us hl=>match us,hl with | [_,_,_,_,_,_,_,_],_=>rfl))
theorem vQ(i j:Nat){x:Str}{k0:Nat}(hk:k0+1<=k){st:Stmt}{N ps ml B:List Str}{G:List (Str×GV)}{Ms:List (Str×List (Str×MV))}{body:SF}(h:rX N st G B Ms ml=some body)(g:m7 P w K mg base (aj w K) k0 G)(b:mZ mg B)(ms:oV P w K mg base (aj w K) k0 Ms)(hi:fn[i]?=some (dF x st):=by rfl)(hj:fa[j]?=some (.glo x):=by rfl)(S:FnScope N ps (defScope st):=by exact⟨rfl,rfl,rfl,by decide +kernel,rfl,by decide +kernel,by decide +kernel⟩)(hb:∀(kV doc pm:Value) (an:Option Addr) (cdv ct:Value) (us:List Value),us.length=ps.length->bindArgs (PySem.W.fnOf x x (defArgs st) (defBody st) (defScope st) .none kV doc pm an cdv ct) ⟨us,[]⟩=pure (ps.zip us):=by nofun):bV P w K mg base (aj w K) k x (.fq ps.length (mQ N.length body)):=by obtain⟨fd,F⟩:=T.c.Dh i hi;exact Lr hk (T.glo j hj) F.kp (FunD.bindsN (ps:=ps) F hb) (Dg (qb F) S g b (T.hs ms) h)
theorem wQ(i j:Nat){c m q:Str}{k0:Nat}(hk:k0+1<=k){st:Stmt}{N ps ml B:List Str}{G:List (Str×GV)}{Ms:List (Str×List (Str×MV))}{body:SF}(h:rX N st G B Ms ml=some body)(g:m7 P w K mg base (aj w K) k0 G)(b:mZ mg B)(ms:oV P w K mg base (aj w K) k0 Ms)(hi:fn[i]?=some (dM c m q st):=by rfl)(hj:fa[j]?=some (.meth c m):=by rfl)(hx:Gy.contains c=true:=by rfl){fs:List Str}(hc:mF.lookup c=some fs:=by rfl)(hf:((mF.lookup c).getD []).contains m=false:=by rfl)(S:FnScope N ps (defScope st):=by exact⟨rfl,rfl,rfl,by decide +kernel,rfl,by decide +kernel,by decide +kernel⟩)(hb:∀(kV doc pm:Value) (an:Option Addr) (cdv ct:Value) (us:List Value),us.length=ps.length->bindArgs (PySem.W.fnOf m q (defArgs st) (defBody st) (defScope st) .none kV doc pm an cdv ct) ⟨us,[]⟩=pure (ps.zip us):=by nofun):gK P w K mg base (aj w K) k c m (.q ps.length (mQ N.length body)):=by obtain⟨fd,F⟩:=T.c.Dh i hi;exact Y0 hk hx (T.cls hc) (T.c.rF j hj) hf (FunD.bindsN (ps:=ps) F hb) (Dg (qb F) S g b (T.hs ms) h)
theorem vG(i j:Nat){x:Str}{k0:Nat}(hk:k0+1<=k){st:Stmt}{N ps ml B:List Str}{G:List (Str×GV)}{Ms:List (Str×List (Str×MV))}{body:SF}(h:rY N st G B Ms ml=some body)(g:m7 P w K mg base (aj w K) k0 G)(b:mZ mg B)(ms:oV P w K mg base (aj w K) k0 Ms)(hi:fn[i]?=some (dF x st):=by rfl)(hj:fa[j]?=some (.glo x):=by rfl)(S:FnScope N ps (defScope st):=by exact⟨rfl,rfl,rfl,by decide +kernel,rfl,by decide +kernel,by decide +kernel⟩)(hb:∀(kV doc pm:Value) (an:Option Addr) (cdv ct:Value) (us:List Value),us.length=ps.length->bindArgs (PySem.W.fnOf x x (defArgs st) (defBody st) (defScope st) .none kV doc pm an cdv ct) ⟨us,[]⟩=pure (ps.zip us):=by nofun):bV P w K mg base (aj w K) k x (.fg ps.length (mG N.length body)):=by obtain⟨fd,F⟩:=T.c.Dh i hi;exact Zw hk (T.glo j hj) F.kp (FunD.bindsN (ps:=ps) F hb) (vW (qb F) S g b (T.hs ms) h)
theorem wG(i j:Nat){c m q:Str}{k0:Nat}(hk:k0+1<=k){st:Stmt}{N ps ml B:List Str}{G:List (Str×GV)}{Ms:List (Str×List (Str×MV))}{body:SF}(h:rY N st G B Ms ml=some body)(g:m7 P w K mg base (aj w K) k0 G)(b:mZ mg B)(ms:oV P w K mg base (aj w K) k0 Ms)(hi:fn[i]?=some (dM c m q st):=by rfl)(hj:fa[j]?=some (.meth c m):=by rfl)(hx:Gy.contains c=true:=by rfl){fs:List Str}(hc:mF.lookup c=some fs:=by rfl)(hf:((mF.lookup c).getD []).contains m=false:=by rfl)(S:FnScope N ps (defScope st):=by exact⟨rfl,rfl,rfl,by decide +kernel,rfl,by decide +kernel,by decide +kernel⟩)(hb:∀(kV doc pm:Value) (an:Option Addr) (cdv ct:Value) (us:List Value),us.length=ps.length->bindArgs (PySem.W.fnOf m q (defArgs st) (defBody st) (defScope st) .none kV doc pm an cdv ct) ⟨us,[]⟩=pure (ps.zip us):=by nofun):gK P w K mg base (aj w K) k c m (.g ps.length (mG N.length body)):=by obtain⟨fd,F⟩:=T.c.Dh i hi;exact ZQ hk hx (T.cls hc) (T.c.rF j hj) hf (FunD.bindsN (ps:=ps) F hb) (vW (qb F) S g b (T.hs ms) h)
theorem vI(i j l:Nat){c q:Str}{n:Nat}{k0:Nat}{st:Stmt}{N ps ml B:List Str}{G:List (Str×GV)}{Ms:List (Str×List (Str×MV))}{body:SF}(h:rY N st G B Ms ml=some body)(g:m7 P w K mg base (aj w K) k0 G)(b:mZ mg B)(ms:oV P w K mg base (aj w K) k0 Ms)(hk:k0+1+1<=k)(hi:fn[i]?=some (dM c "__init__" q st):=by rfl)(hj:fa[j]?=some (.mkr c):=by rfl)(hg:fa[l]?=some (.glo c):=by rfl)(hx:Gy.contains c=true:=by rfl){fs:List Str}(hc:mF.lookup c=some fs:=by rfl)(hp:ps.length=n+1:=by rfl)(S:FnScope N ps (defScope st):=by exact⟨rfl,rfl,rfl,by decide +kernel,rfl,by decide +kernel,by decide +kernel⟩)(hb:∀(kV doc pm:Value) (an:Option Addr) (cdv ct:Value) (us:List Value),us.length=ps.length->bindArgs (PySem.W.fnOf "__init__" q (defArgs st) (defBody st) (defScope st) .none kV doc pm an cdv ct) ⟨us,[]⟩=pure (ps.zip us):=by nofun):bV P w K mg base (aj w K) k c (.cls n (mG N.length body)):=by obtain⟨fd,F⟩:=T.c.Dh i hi;exact Wx hk hx (T.glo l hg) (T.cls hc) (T.c.rF j hj) hp (FunD.bindsN (ps:=ps) F hb) (vW (qb F) S g b (T.hs ms) h)
theorem Kw(hk:2<=k:=by omega):bV P w K mg base (aj w K) k "Grounds" (.cls 0 fQ):=vI T 0 0 20 (ps:=["self"]) xH aeu aeu aeu hk
theorem XF(hk:1<=k:=by omega):bV P w K mg base (aj w K) k "_law_row" (.fq 3 oG):=vQ T 1 1 hk (ps:=["_law_cell_here","_law_many","_law_base"]) Xw aeu ⟨T.free 30,T.free 31,aeu⟩ aeu
theorem jN(hk:1<=k:=by omega):gK P w K mg base (aj w K) k "Grounds" "many" (.q 1 fU):=wQ T 2 2 hk (ps:=["self"]) yO aeu ⟨T.free 32,aeu⟩ aeu
theorem pU(hk:2<=k:=by omega):gK P w K mg base (aj w K) k "Grounds" "add_ground" (.g 2 dX):=wG T 3 3 hk (ps:=["self","allowance"]) qI ⟨yQ T,qw T,aeu⟩ aeu ⟨⟨jN T,aeu⟩,aeu⟩
theorem TQ(hk:1<=k:=by omega):bV P w K mg base (aj w K) k "_law_cell" (.fq 2 lM):=vQ T 4 4 hk (ps:=["_law_script","_law_k"]) Uv aeu ⟨T.free 32,aeu⟩ aeu
theorem pZ(hk:2<=k:=by omega):gK P w K mg base (aj w K) k "Grounds" "has" (.q 2 jB):=wQ T 5 5 hk (ps:=["self","ground"]) Ab aeu aeu ⟨⟨jN T,aeu⟩,aeu⟩
theorem oO(hk:3<=k:=by omega):gK P w K mg base (aj w K) k "Grounds" "need" (.q 2 jg):=wQ T 6 6 hk (ps:=["self","ground"]) yE ⟨xq T,aeu⟩ aeu ⟨⟨pZ T,aeu⟩,aeu⟩
theorem eY(hk:4<=k:=by omega):gK P w K mg base (aj w K) k "Grounds" "together" (.q 2 cC):=wQ T 7 7 hk (ps:=["self","ground"]) rA aeu ⟨T.free 33,aeu⟩ ⟨⟨oO T,aeu⟩,aeu⟩
theorem lN(hk:1<=k:=by omega):gK P w K mg base (aj w K) k "Grounds" "enclose" (.g 2 dR):=wG T 8 8 hk (ps:=["self","grounds"]) uR aeu ⟨T.free 34,aeu⟩ aeu
theorem uX(hk:5<=k:=by omega):gK P w K mg base (aj w K) k "Grounds" "unite" (.g 3 cM):=wG T 9 9 hk (ps:=["self","ground","other"]) w6 ⟨vY T,aeu⟩ ⟨T.free 35,aeu⟩ ⟨⟨lN T,aeu⟩,⟨eY T,aeu⟩,aeu⟩
theorem wL(hk:5<=k:=by omega):gK P w K mg base (aj w K) k "Grounds" "part" (.g 2 d9):=wG T 10 10 hk (ps:=["self","ground"]) yN ⟨Gf T,aeu⟩ aeu ⟨⟨lN T,aeu⟩,⟨eY T,aeu⟩,aeu⟩
theorem Ec(hk:6<=k:=by omega):bV P w K mg base (aj w K) k "_law_deed_told" (.fg 4 cI):=vG T 11 11 hk (ps:=["_law_lands","_law_way","_law_one","_law_two"]) Ed ⟨xq T,vY T,Gf T,aeu⟩ aeu ⟨⟨uX T,aeu⟩,⟨wL T,aeu⟩,aeu⟩
theorem K7(hk:1<=k:=by omega):bV P w K mg base (aj w K) k "_law_united" (.fg 3 eU):=vG T 12 12 hk (ps:=["_law_groups","_law_one","_law_two"]) Lh aeu ⟨T.free 30,T.free 32,aeu⟩ aeu
theorem Oa(hk:1<=k:=by omega):bV P w K mg base (aj w K) k "_law_parted" (.fg 3 gH):=vG T 13 13 hk (ps:=["_law_groups","_law_one","_law_fresh"]) K9 aeu ⟨T.free 30,T.free 32,aeu⟩ aeu
theorem QL(hk:1<=k:=by omega):bV P w K mg base (aj w K) k "_law_whole" (.fq 1 o9):=vQ T 14 14 hk (ps:=["_law_found"]) RW aeu ⟨T.free 36,T.free 37,T.free 38,aeu⟩ aeu
theorem KH(hk:12<=k:=by omega):bV P w K mg base (aj w K) k "_law_like" (.fq 2 (cA 10)):=by
 obtain⟨fd,F⟩:=T.c.Dh 15;have b:=FunD.bindsN (ps:=["_law_found","_law_due"]) F λ_ _ _ _ _ _ us hl=>match us,hl with|[_,_],_=>rfl
 have key:∀j:Nat,FnOk P w K mg base (L2.CX P w) (2+j) (He.ga K "_law_like") fd ["_law_found","_law_due"] (zV K (aj w K) 2 (cA j)):=by
  intro j
  induction j with
  |zero=>exact VR
  |succ j ih'=>
   have ih:∀{k:Nat},2+j<=k->bV P w K mg base (aj w K) k "_law_like" (.fq 2 (cA j)):=λhk=>Lr hk (T.glo 15) F.kp (b) ih'
   refine Dg (k:=2+j) (qb F) Qc ?_ ?_ ?_ (Um (cA j))
   .exact⟨ih (adE _),QL T,aeu⟩
   .exact⟨T.free 39,T.free 32,T.free 36,T.free 33,T.free 34,T.free 40,T.free 38,aeu⟩
   .exact T.hs aeu
 exact Lr hk (T.glo 15) F.kp (b) (key 10)
theorem jX(hk:4<=k:=by omega):gK P w K mg base (aj w K) k "Grounds" "allowance" (.q 2 cV):=wQ T 16 16 hk (ps:=["self","ground"]) qY aeu aeu ⟨⟨oO T,aeu⟩,aeu⟩
theorem wB(hk:5<=k:=by omega):gK P w K mg base (aj w K) k "Grounds" "room" (.q 2 jh):=wQ T 17 17 hk (ps:=["self","ground"]) yg aeu ⟨T.free 41,aeu⟩ ⟨⟨eY T,aeu⟩,⟨jX T,aeu⟩,aeu⟩
theorem v_right(hk:13<=k:=by omega):bV P w K mg base (aj w K) k "_law_right" (.fq 4 kE):=vQ T 18 18 hk (ps:=["_law_lands","_law_given","_law_groups","_law_one"]) RX ⟨KH T,aeu⟩ ⟨T.free 41,T.free 32,T.free 30,aeu⟩ ⟨⟨wB T,aeu⟩,⟨pZ T,aeu⟩,⟨jN T,aeu⟩,⟨jX T,aeu⟩,⟨eY T,aeu⟩,aeu⟩
theorem X8{fd:FuncData}(F:FunD K "law" "law" (defArgs uK) (defBody uK) (defScope uK) [] [] (He.ga K "law") fd):FnOk P w K mg base (L2.CX P w) 14 (He.ga K "law") fd ["_law_script"] (oZ K (aj w K) 1 Ai):=by
 refine vW (k:=13) (qb F) U9 ?_ ?_ ?_ Xo
 .exact⟨v_right T,KH T,Ec T,K7 T,Oa T,XF T,Kw T,TQ T,aeu⟩
 .exact⟨T.free 30,T.free 42,T.free 36,T.free 33,T.free 32,aeu⟩
 .exact T.hs ⟨⟨pU T,aeu⟩,aeu⟩
end
def digs(b:Int):Nat->Int->List Int
 |0,_=>[]
 |n+1,c=>c%b::digs b n (c/b)
def uV(b:Int):Nat->Int->Int->List Int
 |0,_,_=>[]
 |n+1,k,t=>((t*48271+9973*k+11)%2147483647/1021%b)::uV b n (k+1) ((t*48271+9973*k+11)%2147483647)
def lX(c:Int):Int:=if c<0 then -c else c
def rowOf(c:Int)(n:Nat)(b:Int):List Int:=if 10^18<=lX c then digs b n (lX c) else uV b n 0 ((lX c%1000003+17)*69621%2147483647)
theorem Cp(b:Int):∀n c,(digs b n c).length=n
 |0,_=>rfl
 |n+1,c=>by simp[digs,Cp b n]
theorem Gq(b:Int):∀n k t,(uV b n k t).length=n
 |0,_,_=>rfl
 |n+1,k,t=>by simp[uV,Gq b n]
theorem Fq{b:Int}(hb:0<b):∀n c,∀x∈digs b n c,0<=x/\x<b
 |0,_,x,h=>by simp[digs]at h
 |n+1,c,x,h=>by
  rcases adB.mp h with rfl|h
  .exact⟨Int.emod_nonneg _ (by omega),Int.emod_lt_of_pos _ hb⟩
  .exact Fq hb n _ x h
theorem IW{b:Int}(hb:0<b):∀n k t,∀x∈uV b n k t,0<=x/\x<b
 |0,_,_,x,h=>by simp[uV]at h
 |n+1,k,t,x,h=>by
  rcases adB.mp h with rfl|h
  .exact⟨Int.emod_nonneg _ (by omega),Int.emod_lt_of_pos _ hb⟩
  .exact IW hb n _ _ x h
@[simp]theorem Fv (c:Int) (n:Nat) (b:Int):(rowOf c n b).length=n:=by
 unfold rowOf;split
 .exact Cp ..
 .exact Gq ..
theorem Uy{b:Int}(hb:0<b)(c:Int)(n:Nat):∀x∈rowOf c n b,0<=x/\x<b:=by
 unfold rowOf;split
 .exact Fq hb _ _
 .exact IW hb _ _ _
@[simp]theorem Gm (M:Mo) (ns:List Int) (k:Nat):lM M [lI ns,.int k]=.ok (.int (ns.getD k 0)):=by
 unfold lM Bw;by_cases h:k<ns.length
 .simp[h,atI,ixN]
 .simp[h]
theorem Cv(M:Mo)(b:Int)(hb:0<b)(hb2:b<1073741824):∀(n k:Nat) (c:Int) (x1:Option Cell) (acc:List Dat) (x4 x5:Option Cell),acc.length+n<100000->∃c' x4',eE (aD 4) yI ((List.range' k n).map λ(i:Nat)=>PyData.int (i:Int)) M [some (.dat (.int c)),x1,some (.dat (.int b)),some (.mut acc),x4,x5]=.next [c',x1,some (.dat (.int b)),some (.mut (acc++(digs b n c).map .int)),x4',x5] M
 |0,k,c,x1,acc,x4,x5,_=>⟨some (.dat (.int c)),x4,by simp[eE,digs]⟩
 |n+1,k,c,x1,acc,x4,x5,hl=>by
  obtain⟨c',x4',ih⟩:=Cv M b hb hb2 n (k+1) (c/b) x1 (acc++[.int (c%b)]) (some (.dat (.int k))) x5 (by simp;omega);refine⟨c',x4',?_⟩;have h1:decide (CDiv c b)=true:=decide_eq_true ⟨hb,hb2⟩;have hl:acc.length<100000:=by omega
  rw[List.range'_succ,ado,fD (Z1:=[some (.dat (.int c)),x1,some (.dat (.int b)),some (.mut acc),some (.dat (.int k)),x5]) (by simp) (Z2:=[some (.dat (.int (c/b))),x1,some (.dat (.int b)),some (.mut (acc++[.int (c%b)])),some (.dat (.int k)),x5]) (M2:=M) (by simp[yI,h1,hb,hl])];rw[ih];simp[digs]
theorem Fb(M:Mo)(b:Int)(hb:0<b):∀(n k:Nat) (t:Int) (x0 x1:Option Cell) (acc:List Dat) (x4:Option Cell),acc.length+n<100000->∃x4' x5',eE (aD 4) yG ((List.range' k n).map λ(i:Nat)=>PyData.int (i:Int)) M [x0,x1,some (.dat (.int b)),some (.mut acc),x4,some (.dat (.int t))]=.next [x0,x1,some (.dat (.int b)),some (.mut (acc++(uV b n k t).map .int)),x4',x5'] M
 |0,k,t,x0,x1,acc,x4,_=>⟨x4,some (.dat (.int t)),by simp[eE,uV]⟩
 |n+1,k,t,x0,x1,acc,x4,hl=>by
  obtain⟨x4',x5',ih⟩:=Fb M b hb n (k+1) ((t*48271+9973*k+11)%2147483647) x0 x1 (acc++[.int ((t*48271+9973*k+11)%2147483647/1021%b)]) (some (.dat (.int k))) (by simp;omega);refine⟨x4',x5',?_⟩;have h1:decide (CMul t 48271)=true:=mul_r (by decide);have h2:decide (CMul 9973 (k:Int))=true:=X6 (by decide);have h3:∀x,decide (CDiv x 1021)=true:=λx=>decide_eq_true ⟨by decide,by decide⟩;have hl:acc.length<100000:=by omega
  rw[List.range'_succ,ado,fD (Z1:=[x0,x1,some (.dat (.int b)),some (.mut acc),some (.dat (.int k)),some (.dat (.int t))]) (by simp) (Z2:=[x0,x1,some (.dat (.int b)),some (.mut (acc++[.int ((t*48271+9973*k+11)%2147483647/1021%b)])),some (.dat (.int k)),some (.dat (.int ((t*48271+9973*k+11)%2147483647)))]) (M2:=M) (by simp[yG,h1,h2,h3,hb,hl])];rw[ih];simp[uV]
theorem dB(n:Nat):eO 0 n=(List.range' 0 n).map λ(i:Nat)=>PyData.int (i:Int):=by unfold eO;rw[List.range_eq_range'];simp
theorem Kf(M:Mo)(c:Int)(n:Nat)(b:Int)(hb:0<b)(hb2:b<1073741824)(hn:n<=1000):oG M [.int c,.int n,.int b]=.ok (lI (rowOf c n b)):=by
 unfold oG Hf;have hp:decide (CPow 10 18)=true:=decide_eq_true ⟨by decide,by decide,by decide⟩;have hn1:(n:Int)<=100000:=by omega
 have hn2 : -100000<=(n:Int):=by omega
 have hm:∀x,decide (CMul x 69621)=true:=λx=>mul_r (by decide);have ea:(if c<0 then -c else c)=lX c:=rfl;by_cases h:10^18<=lX c
 .obtain⟨c',x4',e⟩:=Cv M b hb hb2 n 0 (lX c) (some (.dat (.int n))) [] none none (by simp;omega);have e2:rowOf c n b=digs b n (lX c):=aeA h;have h':(1000000000000000000:Int)<=lX c:=by simpa using h
  simp[hp,ea,h',hn1,hn2,dB,e,e2]
 .obtain⟨x4',x5',e⟩:=Fb M b hb n 0 ((lX c%1000003+17)*69621%2147483647) (some (.dat (.int (lX c)))) (some (.dat (.int n))) [] none (by simp;omega);have e2:rowOf c n b=uV b n 0 ((lX c%1000003+17)*69621%2147483647):=aeB h;have h':¬(1000000000000000000:Int)<=lX c:=by simpa using h
  have e':=e;simp[hp,ea,h',hn1,hn2,hm,dB]at e |-
  rw[e];simp[e2]
mutual
def lk:Nat->Dat->Bool
 |_,.none=>true
 |_,.bool _=>true
 |_,.int _=>true
 |_,.str _=>true
 |n+1,.list ds=>v7 n ds
 |n+1,.tuple ds=>v7 n ds
 |0,.list _=>false
 |0,.tuple _=>false
 |_,.dict _=>false
def v7:Nat->List Dat->Bool
 |_,[]=>true
 |n,d::ds=>lk n d&&v7 n ds
end
theorem uO{n:Nat}:∀{ds:List Dat},v7 n ds=true↔∀d∈ds,lk n d=true
 |[]=>by simp[v7]
 |d::ds=>by simp[v7,uO (ds:=ds)]
@[simp]theorem ZC (n:Nat) (l:List Int):v7 n (l.map PyData.int)=true:=uO.mpr λd h=>by
 obtain⟨i,_,rfl⟩:=adJ.mp h;simp[lk]
theorem zY(M:Mo)(i:Int):o9 M [.int i]=.ok (.bool true):=by unfold o9 yL;simp[mj,ql]
theorem zip_self(ds:List Dat):tL ds ds=ds.map λd=>.tuple [d,d]:=by unfold tL;rw[List.zipWith_self]
theorem rZ(M:Mo)(r:Mo->List Dat->Out Dat)(x0 x1:Option Cell):∀(ds:List Dat) (x2 x3:Option Cell),(∀d∈ds,r M [d,d]=.ok (.bool true))->∃x2' x3',eE (jO [2,3]) (vo r) (ds.map λd=>PyData.tuple [d,d]) M [x0,x1,x2,x3]=.next [x0,x1,x2',x3'] M
 |[],x2,x3,_=>⟨x2,x3,rfl⟩
 |d::ds,x2,x3,h=>by
  obtain⟨x2',x3',ih⟩:=rZ M r x0 x1 ds (some (.dat d)) (some (.dat d)) λd hd=>h d (adt _ hd);refine⟨x2',x3',?_⟩;have hd:=h d adn;rw[ado,fD (Z1:=[x0,x1,some (.dat d),some (.dat d)]) (by simp) (Z2:=[x0,x1,some (.dat d),some (.dat d)]) (M2:=M) (by simp[vo,hd])];exact ih
theorem xJ(M:Mo):∀(n:Nat) (d:Dat),lk n d=true->cA (n+1) M [d,d]=.ok (.bool true):=by
 intro n
 induction n with
 |zero=>
  intro d h;show mQ 4 (pK (cA 0)) M [d,d]=_;unfold pK;cases d with
  |none=>simp[jr]
  |bool b=>cases b<;>simp[jr]
  |int i=>simp[jr,mj,ql,zY]
  |str x=>simp[jr,mj,ql]
  |list ds=>simp[lk]at h
  |tuple ds=>simp[lk]at h
  |dict kv=>simp[lk]at h
 |succ n ih=>
  intro d h;show mQ 4 (pK (cA (n+1))) M [d,d]=_;unfold pK;cases d with
  |none=>simp[jr]
  |bool b=>cases b<;>simp[jr]
  |int i=>simp[jr,mj,ql,zY]
  |str x=>simp[jr,mj,ql]
  |list ds=>
   rw[lk,uO]at h;obtain⟨x2',x3',e⟩:=rZ M (cA (n+1)) (some (.dat (.list ds))) (some (.dat (.list ds))) ds none none λd hd=>ih d (h d hd);simp[jr,mj,ql,zip_self,e]
  |tuple ds=>
   rw[lk,uO]at h;obtain⟨x2',x3',e⟩:=rZ M (cA (n+1)) (some (.dat (.tuple ds))) (some (.dat (.tuple ds))) ds none none λd hd=>ih d (h d hd);simp[jr,mj,ql,zip_self,e]
  |dict kv=>simp[lk]at h
def aM(G:List Int)(v:Int):List Int:=((List.range' 0 G.length).filter λk=>decide (G[k]?=some v)).map λ(k:Nat)=>(k:Int)+1
def bB(G:List Int):List (List Int):=G.map (aM G)
theorem cY{G:List Int}{v x:Int}:x∈aM G v↔∃k:Nat,G[k]?=some v/\x=(k:Int)+1:=by
 unfold aM;rw[adJ];constructor
 .rintro⟨k,h,rfl⟩;exact⟨k,by simpa using (aen.mp h).2,rfl⟩
 .rintro⟨k,h,rfl⟩;refine⟨k,aen.mpr ⟨?_,by simpa using h⟩,rfl⟩;rw[List.mem_range'_1];have:=(adk.mp h).1;omega
theorem jm(G:List Int)(v:Int):(aM G v).Pairwise (· < ·):=by unfold aM;rw[List.pairwise_map];refine List.Pairwise.filter _ ?_;exact(List.pairwise_lt_range').imp λh=>by omega
theorem up_eq:∀{l m:List Int},l.Pairwise (· < ·)->m.Pairwise (· < ·)->(∀x,x∈l↔x∈m)->l=m
 |[],[],_,_,_=>rfl
 |[],y::m,_,_,h=>absurd ((h y).mpr adn) adM
 |x::l,[],_,_,h=>absurd ((h x).mp adn) adM
 |x::l,y::m,h1,h2,h=>by
  rw[List.pairwise_cons]at h1 h2;have e:x=y:=by
   have a:=(h x).mp adn;have b:=(h y).mpr adn;rcases adB.mp a with a|a
   .exact a
   .rcases adB.mp b with b|b
    .exact b.symm
    .have:=h2.1 x a;have:=h1.1 y b;omega
  subst e;rw[up_eq h1.2 h2.2 λz=>?_];have hz:=h z;rw[adB,adB]at hz;constructor
  .intro a;rcases hz.mp (.inr a) with b|b
   .have:=h1.1 z a;omega
   .exact b
  .intro a;rcases hz.mpr (.inr a) with b|b
   .have:=h2.1 z a;omega
   .exact b
def iK(G:List Int)(l r:Int):List Int:=G.map λv=>if v=r then l else v
theorem mV{G:List Int}{l r:Int}{k:Nat}{v:Int}:(iK G l r)[k]?=some v↔∃u,G[k]?=some u/\(if u=r then l else u)=v:=by unfold iK;rw[adw,adS]
theorem LR{G:List Int}{l r:Int}(hs:List Int)(h1:hs.Pairwise (·<=·))(hp:hs.Perm (aM G l++aM G r))(hn:l≠r):hs=aM (iK G l r) l:=by
 have hnd:(aM G l++aM G r).Nodup:=by
  rw[List.nodup_append];refine⟨(jm G l).imp λh=>by omega,(jm G r).imp λh=>by omega,λa ha b hb e=>?_⟩;subst e;obtain⟨k,g1,e1⟩:=cY.mp ha;obtain⟨j,g2,e2⟩:=cY.mp hb;have:k=j:=by omega
  subst this;rw[g1]at g2;exact hn (adx g2)
 have hnd2:hs.Nodup:=hp.nodup_iff.mpr hnd;have hup:hs.Pairwise (· < ·):=by refine(List.pairwise_and_iff.mpr ⟨h1,hnd2⟩).imp λ{a b} h=>?_;have:=h.1;have:=h.2;omega
 refine up_eq hup (jm _ _) λx=>?_;rw[hp.mem_iff,adU,cY,cY,cY];constructor
 .rintro(⟨k,g,e⟩|⟨k,g,e⟩)
  .exact⟨k,mV.mpr ⟨l,g,by rw[aeB hn]⟩,e⟩
  .exact⟨k,mV.mpr ⟨r,g,aeA rfl⟩,e⟩
 .rintro⟨k,g,e⟩;obtain⟨u,g1,g2⟩:=mV.mp g;by_cases hu:u=r
  .subst hu;exact .inr ⟨k,g1,e⟩
  .rw[aeB hu]at g2;subst g2;exact .inl ⟨k,g1,e⟩
theorem Px{G:List Int}{l r v:Int}(h1:v≠l)(h2:v≠r):aM (iK G l r) v=aM G v:=by
 refine up_eq (jm _ _) (jm _ _) λx=>?_;rw[cY,cY];constructor
 .rintro⟨k,g,e⟩;obtain⟨u,g1,g2⟩:=mV.mp g;by_cases hu:u=r
  .rw[aeA hu]at g2;exact absurd g2.symm h1
  .rw[aeB hu]at g2;subst g2;exact⟨k,g1,e⟩
 .rintro⟨k,g,e⟩;exact⟨k,mV.mpr ⟨v,g,by rw[aeB h2]⟩,e⟩
def encl(ci:List (List Int))(l:List Int):List (List Int):=l.foldl (λs y=>s.set (y-1).toNat l) ci
theorem j9(l:List Int):∀(k:List Int) (ci:List (List Int)),(k.foldl (λs y=>s.set (y-1).toNat l) ci).length=ci.length
 |[],_=>rfl
 |y::k,ci=>by rw[List.foldl_cons,j9 l k];simp
theorem qQ(l:List Int):∀(k:List Int) (ci:List (List Int)) (j:Nat),(∀y∈k,1<=y)->j<ci.length->(k.foldl (λs y=>s.set (y-1).toNat l) ci)[j]?=if (j:Int)+1∈k then some l else ci[j]?
 |[],ci,j,_,_=>by simp
 |y::k,ci,j,h,hj=>by
  rw[List.foldl_cons,qQ l k _ j (λz hz=>h z (adt _ hz)) (by simpa using hj)];have hy:=h y adn;by_cases h1:(j:Int)+1∈k
  .rw[aeA h1,aeA (adt _ h1)]
  .rw[aeB h1];by_cases h2:(j:Int)+1=y
   .rw[aeA (by rw[h2];exact adn),show(y-1).toNat=j by omega,adu hj]
   .rw[aeB (by rw[adB];exact λz=>z.elim h2 h1),adl (by omega)]
theorem kJ{G:List Int}{k:Nat}{v:Int}(h:G[k]?=some v):(bB G)[k]?=some (aM G v):=by unfold bB;rw[adw,h];rfl
theorem je(G:List Int):(bB G).length=G.length:=adp _
theorem uM{G:List Int}{v:Int}:∀y∈aM G v,1<=y/\y<=G.length:=λy hy=>by
 obtain⟨k,g,e⟩:=cY.mp hy;have:=(adk.mp g).1;omega
theorem jK{G:List Int}{k:Nat}{v:Int}:(k:Int)+1∈aM G v↔G[k]?=some v:=by
 rw[cY];constructor
 .rintro⟨j,g,e⟩;have:k=j:=by omega
  subst this;exact g
 .exact λg=>⟨k,g,rfl⟩
theorem HJ{G:List Int}{l r:Int}(hn:l≠r):encl (bB G) (aM (iK G l r) l)=bB (iK G l r):=by
 have hlen:(iK G l r).length=G.length:=adp _;apply ad9;intro j;by_cases hj:j<G.length
 .unfold encl;rw[qQ _ _ _ _ (λy hy=>(uM y hy).1) (by rw[je];exact hj)];have hv:=adq hj;have hr:(iK G l r)[j]?=some (if G[j]=r then l else G[j]):=mV.mpr ⟨_,hv,rfl⟩;rw[kJ hr,kJ hv];by_cases h:(j:Int)+1∈aM (iK G l r) l
  .rw[aeA h];have:=jK.mp h;rw[hr]at this;rw[adx this]
  .rw[aeB h];have h1:¬(if G[j]=r then l else G[j])=l:=λz=>h (jK.mpr (by rw[hr,z]));by_cases e:G[j]=r
   .rw[aeA e]at h1;exact absurd rfl h1
   .rw[aeB e]at h1 |-
    rw[Px h1 e]
 .rw[ad7 (by unfold encl;rw[j9,je];omega),ad7 (by rw[je,hlen];omega)]
theorem NQ{G:List Int}{k:Nat}(hk:k<G.length){f:Int}(hf:f∉G):aM (G.set k f) f=[(k:Int)+1]:=by
 refine up_eq (jm _ _) (by simp) λx=>?_;rw[cY,adF];constructor
 .rintro⟨j,g,e⟩;by_cases h:j=k
  .subst h;exact e
  .rw[adl (Ne.symm h)]at g;exact absurd (adH g) hf
 .rintro rfl;exact⟨k,adu hk,rfl⟩
theorem Je{G:List Int}{k:Nat}(hk:k<G.length){f v:Int}(hv:v∈G)(hf:f∉G):aM (G.set k f) v=(aM G v).filter λy=>!(y==(k:Int)+1):=by
 refine up_eq (jm _ _) ((jm _ _).filter _) λx=>?_;rw[cY,aen,cY];constructor
 .rintro⟨j,g,rfl⟩;by_cases h:j=k
  .subst h;rw[adu hk]at g;rw[adx g]at hf;exact absurd hv hf
  .rw[adl (Ne.symm h)]at g;refine⟨⟨j,g,rfl⟩,?_⟩;have:¬(j:Int)+1=(k:Int)+1:=by omega
   simpa using this
 .rintro⟨⟨j,g,rfl⟩,h⟩;have h:j≠k:=λz=>by
   subst z;simp at h
  exact⟨j,by rw[adl (Ne.symm h)];exact g,rfl⟩
theorem JW{G:List Int}{k:Nat}{v f:Int}(hk:G[k]?=some v)(hf:f∉G):encl (encl (bB G) [(k:Int)+1]) ((aM G v).filter λy=>!(y==(k:Int)+1))=bB (G.set k f):=by
 have hl:=(adk.mp hk).1;have e1:∀y∈(aM G v).filter (λy=>!(y==(k:Int)+1)),1<=y:=λy hy=>(uM y (aen.mp hy).1).1;have e2:∀y∈[(k:Int)+1],1<=y:=λy hy=>by rw[adF.mp hy];omega
 have l1:(encl (bB G) [(k:Int)+1]).length=G.length:=by unfold encl;rw[j9,je]
 apply ad9;intro j;by_cases hj:j<G.length
 .have st1:(encl (bB G) [(k:Int)+1])[j]?=if j=k then some [(k:Int)+1] else(bB G)[j]?:=by
   unfold encl;rw[qQ _ _ _ _ e2 (by rw[je];exact hj)];by_cases h:j=k
   .rw[aeA h,aeA (by rw[h];exact adF.mpr rfl)]
   .rw[aeB h,aeB (by rw[adF];omega)]
  rw[show(encl (encl (bB G) [(k:Int)+1]) ((aM G v).filter λy=>!(y==(k:Int)+1)))[j]?=if (j:Int)+1∈(aM G v).filter (λy=>!(y==(k:Int)+1)) then some ((aM G v).filter λy=>!(y==(k:Int)+1)) else(encl (bB G) [(k:Int)+1])[j]? from qQ _ _ _ _ e1 (by rw[l1];exact hj),st1];by_cases h:j=k
  .subst h;rw[aeB (by rw[aen];simp),aeA rfl,kJ (adu hl),NQ hl hf]
  .have hv:=adq hj;rw[aeB h,kJ (show(G.set k f)[j]?=some G[j] by rw[adl (Ne.symm h)];exact hv),kJ hv,Je hl (List.getElem_mem hj) hf];have ne:¬(j:Int)+1=(k:Int)+1:=by omega
   by_cases e:G[j]=v
   .rw[aeA (aen.mpr ⟨jK.mpr (by rw[hv,e]),by simpa using ne⟩),e]
   .have n1:(j:Int)+1∉(aM G v).filter λy=>!(y==(k:Int)+1):=λz=>by
     have:=jK.mp (aen.mp z).1;rw[hv]at this;exact e (adx this)
    rw[aeB n1];congr 1;refine(aes.mpr λy hy=>?_).symm;have:¬y=(k:Int)+1:=λz=>by
     subst z;have:=jK.mp hy;rw[hk]at this;exact e (adx this).symm
    simpa using this
 .rw[ad7 (by unfold encl at *;rw[j9,j9,je];omega),ad7 (by rw[je,adz];omega)]
def iG(n m:Nat)(al:List Int)(ci:List (List Int)):Inst:=⟨"Grounds",[("allowances",.lst n (al.map .int)),("circles",.lst m (ci.map Gj))]⟩
@[simp]theorem YT {α:Type} (l:List α) (n:Nat):atI l (n:Int)=l[n]?:=by
 cases h:l[n]? with
 |some a=>exact atI_nat h
 |none=>
  have hl:=List.getElem?_eq_none_iff.mp h;unfold atI ixN;rw[aeA (by omega),aeB (by omega)];rfl
@[simp]theorem Nb (n k:Nat):ixN n (k:Int)=if k<n then some k else none:=by
 unfold ixN;rw[aeA (by omega)];by_cases h:k<n
 .rw[aeA (by omega),aeA h];simp
 .rw[aeB (by omega),aeB h]
theorem bG{M:Mo}{h k:Nat}{i j:Inst}(hm:M[h]?=some j):(M.set h i)[k]?=if h=k then some i else M[k]?:=by
 have hl:h<M.length:=(adk.mp hm).1;rw[aeg];by_cases e:h=k
 .subst e;rw[aeA rfl,aeA hl,aeA rfl]
 .rw[aeB e,aeB e]
theorem fL{M:Mo}{h:Nat}{i:Inst}(e:M[h]?=some i):M.set h i=M:=by
 apply ad9;intro k;rw[bG e];split
 .next z=>rw[<-z,e]
 .rfl
abbrev Vg(al:List Int)(x:Int):Prop:=1<=x/\x<=al.length
theorem pX{al:List Int}{x:Int}(h:Vg al x):∃k:Nat,k<al.length/\x=(k:Int)+1:=⟨(x-1).toNat,by omega,by omega⟩
structure GI(al:List Int)(ci:List (List Int)):Prop where
 len:ci.length=al.length
 few:al.length<=200
 mem:∀(k:Nat) (l:List Int),ci[k]?=some l->∀y∈l,Vg al y
 sm:∀(k:Nat) (l:List Int),ci[k]?=some l->l≠[]/\l.length<=200
def bF(ci:List (List Int))(x:Int):List Int:=(ci[(x-1).toNat]?).getD []
def iI(al:List Int)(x:Int):Int:=(al[(x-1).toNat]?).getD 0
def xU:List Int->Int
 |[]=>0
 |n::ns=>oW n ns
theorem maxD_ints{l:List Int}(h:l≠[]):maxD (.list (l.map PyData.int))=.ok (.int (xU l)):=by
 cases l with
 |nil=>exact absurd rfl h
 |cons n ns=>
  show(match intsOf ((n::ns).map PyData.int) with
   |some (n::ns)=>Out.ok (PyData.int (oW n ns))
   |_=>Out.bad)=_
  rw[wC];rfl
section
variable{M:Mo}{g n m:Nat}{al:List Int}{ci:List (List Int)}(hg:M[g]?=some (iG n m al ci))
include hg
theorem Gz:fU M [ob g]=.ok (.int al.length):=by simp[fU,jk,hg,iG]
theorem Cj(x:Int):jB M [ob g,.int x]=.ok (.bool (decide (Vg al x))):=by have:=Gz hg;by_cases h1:1<=x<;>by_cases h2:x<=al.length<;>simp[jB,lZ,hg,iG,this,bh,h1,h2]
theorem Gg(x:Int):jg M [ob g,.int x]=if Vg al x then .ok .none else .exc ⟨"NoGround",[]⟩:=by have:=Cj hg x;by_cases h:Vg al x<;>simp[jg,kY,hg,iG,this,cX,h]
theorem tH(x:Int):cV M [ob g,.int x]=if Vg al x then .ok (.int (iI al x)) else .exc ⟨"NoGround",[]⟩:=by
 have hn:=Gg hg x;by_cases h:Vg al x
 .obtain⟨k,hk,rfl⟩:=pX h;rw[aeA h]at hn |-
  simp[cV,eX,hg,iG,hn,bR,iI,hk]
 .rw[aeB h]at hn |-
  simp[cV,eX,hg,iG,hn,bR]
theorem jw(i:GI al ci)(x:Int):cC M [ob g,.int x]=if Vg al x then .ok (lI (bF ci x)) else .exc ⟨"NoGround",[]⟩:=by
 have hn:=Gg hg x;by_cases h:Vg al x
 .obtain⟨k,hk,rfl⟩:=pX h;have hk':k<ci.length:=by rw[i.len];exact hk
  rw[aeA h]at hn |-
  simp[cC,fJ,hg,iG,hn,bR,bF,hk']
 .rw[aeB h]at hn |-
  simp[cC,fJ,hg,iG,hn,bR]
theorem Ag(i:GI al ci){x:Int}(h:Vg al x):ci[(x-1).toNat]?=some (bF ci x):=by
 obtain⟨k,hk,rfl⟩:=pX h;have hk':k<ci.length:=by rw[i.len];exact hk
 simp[bF,hk']
theorem PN(i:GI al ci)(x:Int)(h:Vg al x):jh M [ob g,.int x]=.ok (.int (xU ((bF ci x).map (iI al)))):=by
 have hn:=jw hg i x;rw[aeA h]at hn;have hc:=Ag hg i h;generalize bF ci x=l at hc hn |-
 obtain⟨h1,h2⟩:=i.sm _ l hc;have hl:l.length<=50000:=by omega
 have hne:l.map (iI al)≠[]:=λz=>h1 (List.map_eq_nil_iff.mp z);have key:=sJ (tg:=aD 2) (te:=cG bD (ak 0) (aF (aJ 2) aP)) (M:=M) (Z:=[some (.dat (ob g)),some (.dat (.int x)),none]) PyData.int (λy=>.int (iI al y)) l λy hy=>⟨[some (.dat (ob g)),some (.dat (.int x)),some (.dat (.int y))],by simp,by
  have:=tH hg y;rw[aeA (i.mem _ l hc y hy)]at this;simp[hg,iG,bD,this]⟩
 have hm:=maxD_ints hne;rw[aei]at hm;have hm:maxD (.list (l.map λy=>PyData.int (iI al y)))=.ok (.int (xU (l.map (iI al)))):=hm;simp[jh,kW,hg,iG,hn,aC,key,hl,hm]
theorem Ac(i:GI al ci)(hf:al.length<200)(x:Int)(h:0<=x/\x<=9):dX M [ob g,.int x]=.ok (.int (al.length+1)) (M.set g (iG n m (al++[x]) (ci++[[(al.length:Int)+1]]))):=by
 have hl:∀i,(M.set g i)[g]?=some i:=λi=>by rw[bG hg,aeA rfl]
 have h2:ci.length<100000:=by rw[i.len];omega
 have h3:al.length<100000:=by omega
 simp[dX,gM,fU,jk,bh,hg,iG,hl,h,dW,h2,h3];rfl
theorem zq(l:List Int):∀(k:List Int) (s:List (List Int)) (o:Option Cell),(∀y∈k,1<=y/\y<=s.length)->
  ∃o',eE (aD 3) iJ (k.map PyData.int) (M.set g (iG n m al s)) [some (.dat (ob g)),some (.dat (lI l)),some (.dat (Gj l)),o]=.next [some (.dat (ob g)),some (.dat (lI l)),some (.dat (Gj l)),o'] (M.set g (iG n m al (k.foldl (λs y=>s.set (y-1).toNat l) s)))
 |[],s,o,_=>⟨o,rfl⟩
 |y::k,s,o,h=>by
  have hl:∀i,(M.set g i)[g]?=some i:=λi=>by rw[bG hg,aeA rfl]
  obtain⟨j,hj,rfl⟩:∃j:Nat,j<s.length/\y=(j:Int)+1:=⟨(y-1).toNat,by have:=h y adn;omega,by have:=h y adn;omega⟩;obtain⟨o',ih⟩:=zq l k (s.set j l) (some (.dat (.int ((j:Int)+1)))) λz hz=>by
   have:=h z (adt _ hz);simpa using this
  refine⟨o',?_⟩;rw[ado,fD (Z1:=[some (.dat (ob g)),some (.dat (lI l)),some (.dat (Gj l)),some (.dat (.int ((j:Int)+1)))]) (M2:=M.set g (iG n m al (s.set j l))) (Z2:=[some (.dat (ob g)),some (.dat (lI l)),some (.dat (Gj l)),some (.dat (.int ((j:Int)+1)))]) (by simp) (by simp[iJ,hl,iG,hj,List.map_set]),ih];simp
theorem qJ(l:List Int)(h:∀y∈l,1<=y/\y<=ci.length):dR M [ob g,lI l]=.ok (lI l) (M.set g (iG n m al (encl ci l))):=by obtain⟨o',key⟩:=zq hg l l ci none h;rw[fL hg]at key;simp[dR,ju,key,encl]
end
theorem any_ints(y:Int)(l:List Int):((l.map PyData.int).any λd=>PyData.eqv d (.int y))=decide (y∈l):=by
 induction l with
 |nil=>simp
 |cons x l ih=>
  rw[ado,aed,ih,Jw];by_cases h:x=y
  .simp[h]
  .have:¬y=x:=λz=>h z.symm;simp[h,this]
theorem GJ(neg:Bool)(y:Int)(l:List Int):inD neg (.int y) (lI l)=.ok (.bool (neg ^^ decide (y∈l))):=by
 show(Out.when (okd 12 (.int y)&&gj 12 (l.map PyData.int)) (.ok ((l.map PyData.int).any λz=>PyData.eqv z (.int y)))).bind _=_
 rw[any_ints,QZ,Jf];rfl
section
variable{M:Mo}{g n m:Nat}{al:List Int}{ci:List (List Int)}(hg:M[g]?=some (iG n m al ci))
include hg
theorem Lp(i:GI al ci)(x y:Int):cM M [ob g,.int x,.int y]=if ¬(Vg al x/\Vg al y) then .exc ⟨"NoGround",[]⟩ M else if y∈bF ci x then .exc ⟨"Together",[]⟩ M else
  .ok (lI (sortI (bF ci x++bF ci y))) (M.set g (iG n m al (encl ci (sortI (bF ci x++bF ci y))))):=by
 have t1:=jw hg i x;have t2:=jw hg i y;by_cases hx:Vg al x
 .rw[aeA hx]at t1;by_cases hy:Vg al y
  .rw[aeA hy]at t2;rw[aeB (λz=>z ⟨hx,hy⟩)];have hcx:=Ag hg i hx;have hcy:=Ag hg i hy;by_cases h:y∈bF ci x
   .rw[aeA h];simp[cM,dN,hg,iG,aC,t1,t2,GJ,h]
   .rw[aeB h];have hm:∀z∈sortI (bF ci x++bF ci y),1<=z/\z<=ci.length:=λz hz=>by
     unfold sortI at hz;rw[List.mem_mergeSort,adU]at hz;rw[i.len];rcases hz with hz|hz
     .exact i.mem _ _ hcx z hz
     .exact i.mem _ _ hcy z hz
    have h1:=qJ hg _ hm;have l1:=(i.sm _ _ hcx).2;have l2:=(i.sm _ _ hcy).2;have hs:qj (lI (bF ci x++bF ci y))=.ok (lI (sortI (bF ci x++bF ci y))):=by
     show(match intsOf ((bF ci x++bF ci y).map PyData.int) with
      |some l=>Out.ok (PyData.list ((sortI l).map PyData.int))
      |none=>_)=_
     rw[wC]
    have hz:(bF ci x).length+(bF ci y).length<=100000:=by omega
    have hs:qj (.list ((bF ci x).map PyData.int++(bF ci y).map PyData.int))=.ok (lI (sortI (bF ci x++bF ci y))):=by rw[<-adQ];exact hs
    simp[cM,dN,hg,iG,aC,bK,t1,t2,GJ,h,hz,hs,h1]
  .rw[aeB hy]at t2;rw[aeA (λz=>hy z.2)];simp[cM,dN,hg,iG,aC,t1,t2]
 .rw[aeB hx]at t1;rw[aeA (λz=>hx z.1)];simp[cM,dN,hg,iG,aC,t1]
theorem Qq(i:GI al ci)(x:Int):d9 M [ob g,.int x]=if ¬Vg al x then .exc ⟨"NoGround",[]⟩ M else if (bF ci x).filter (λy=>!(y==x))=[] then .exc ⟨"Alone",[]⟩ M else
  .ok (lI ((bF ci x).filter λy=>!(y==x))) (M.set g (iG n m al (encl (encl ci [x]) ((bF ci x).filter λy=>!(y==x))))):=by
 have t1:=jw hg i x;by_cases hx:Vg al x
 .rw[aeA hx]at t1;rw[aeB (λz=>z hx)];have hcx:=Ag hg i hx;have hl:(bF ci x).length<=50000:=by have:=(i.sm _ _ hcx).2;omega
  have key:=jF (tg:=aD 3) (tt:=cQ (aA rR (ak 3) (ak 1))) (te:=aJ 3) (M:=M) (Z:=[some (.dat (ob g)),some (.dat (.int x)),none,none]) PyData.int (λy=>!(y==x)) PyData.int (bF ci x) λy _=>⟨[some (.dat (ob g)),some (.dat (.int x)),none,some (.dat (.int y))],by simp,by simp,λ_=>by simp⟩;by_cases he:(bF ci x).filter (λy=>!(y==x))=[]
  .rw[aeA he];rw[he]at key;simp only[aec]at key;simp[d9,fW,hg,iG,aC,t1,key,hl]
  .rw[aeB he];generalize hL:(bF ci x).filter (λy=>!(y==x))=left at he key;have hm:∀z∈left,1<=z/\z<=(encl ci [x]).length:=λz hz=>by
    rw[<-hL,aen]at hz;unfold encl;rw[j9,i.len];exact i.mem _ _ hcx z hz.1
   have h1:=qJ hg [x] (λz hz=>by rw[adF.mp hz,i.len];exact hx);have hg1:(M.set g (iG n m al (encl ci [x])))[g]?=some (iG n m al (encl ci [x])):=by rw[bG hg,aeA rfl]
   have h2:=qJ hg1 left hm;rw[List.set_set]at h2;have h1:dR M [ob g,.list [.int x]]=.ok (.list [.int x]) (M.set g (iG n m al (encl ci [x]))):=h1;have he':left.isEmpty=false:=by cases left with
    |nil=>exact absurd rfl he
    |cons _ _=>rfl
   generalize hM1:M.set g (iG n m al (encl ci [x]))=M1 at *;simp[d9,fW,hg,hg1,iG,aC,bK,t1,key,hl,h1,h2,he']
 .rw[aeB hx]at t1;rw[aeA hx];simp[d9,fW,hg,iG,aC,t1]
end
@[simp]theorem ade (h:Nat):lf (ob h)=true:=by show lf (obj h)=true;rw[lf]
def dG(G:List Int)(x:Int):Int:=(G[(x-1).toNat]?).getD 0
theorem lG{G:List Int}{x:Int}(h:Vg G x):G[(x-1).toNat]?=some (dG G x):=by obtain⟨k,hk,rfl⟩:=pX h;simp[dG,hk]
def repl(l r:Int):Nat->Nat->List Int->List Int
 |_,0,G=>G
 |j,c+1,G=>repl l r (j+1) c (if G[j]?=some r then G.set j l else G)
theorem DQ(l r:Int):∀(c j:Nat) (G:List Int) (k:Nat),(repl l r j c G)[k]?=(G[k]?).map λv=>if (j<=k/\k<j+c)/\v=r then l else v
 |0,j,G,k=>by
  show G[k]?=_;cases G[k]? with
  |none=>rfl
  |some v=>
   show some v=some (if (j<=k/\k<j+0)/\v=r then l else v);rw[aeB (by omega)]
 |c+1,j,G,k=>by
  show(repl l r (j+1) c (if G[j]?=some r then G.set j l else G))[k]?=_
  rw[DQ l r c (j+1)];by_cases hk:k=j
  .subst hk;by_cases h:G[k]?=some r
   .have hl:=(adk.mp h).1;rw[aeA h,adu hl,h];show some (if (k+1<=k/\k<k+1+c)/\l=r then l else l)=some (if (k<=k/\k<k+(c+1))/\r=r then l else r);rw[aeB (by omega),aeA ⟨⟨adE k,by omega⟩,rfl⟩]
   .rw[aeB h];cases q:G[k]? with
    |none=>rfl
    |some v=>
     have:v≠r:=λz=>h (by rw[q,z]);show some (if (k+1<=k/\k<k+1+c)/\v=r then l else v)=some (if (k<=k/\k<k+(c+1))/\v=r then l else v);rw[aeB (λz=>this z.2),aeB (λz=>this z.2)]
  .have e:(if G[j]?=some r then G.set j l else G)[k]?=G[k]?:=by
    split
    .rw[adl (Ne.symm hk)]
    .rfl
   rw[e];cases G[k]? with
   |none=>rfl
   |some v=>
    show some (if (j+1<=k/\k<j+1+c)/\v=r then l else v)=some (if (j<=k/\k<j+(c+1))/\v=r then l else v);by_cases h:(j<=k/\k<j+(c+1))/\v=r
    .rw[aeA h,aeA ⟨by omega,h.2⟩]
    .rw[aeB h,aeB λz=>h ⟨by omega,z.2⟩]
theorem Ls(l r:Int)(G:List Int):repl l r 0 G.length G=iK G l r:=by
 apply ad9;intro k;rw[DQ];unfold iK;rw[adw];cases h:G[k]? with
 |none=>rfl
 |some v=>
  have hl:=(adk.mp h).1;show some (if (0<=k/\k<0+G.length)/\v=r then l else v)=some (if v=r then l else v);by_cases e:v=r
  .rw[aeA e,aeA ⟨by omega,e⟩]
  .rw[aeB e,aeB λz=>e z.2]
theorem zQ(G:List Int)(v:Int):((List.range' 0 G.length).filter λk=>decide (G[k]?=some v)).map (λ(k:Nat)=>PyData.int ((k:Int)+1))=(aM G v).map PyData.int:=by unfold aM;rw[aei];rfl
theorem oX{h:Nat}(x1 x2 x3:Option Cell)(l r:Int):∀(c j:Nat) (M:Mo) (G:List Int) (x6:Option Cell),M[h]?=some (lin (G.map .int))->j+c<=G.length->∃x6',eE (aD 6) mK ((List.range' j c).map λ(i:Nat)=>PyData.int (i:Int)) M [some (.dat (ob h)),x1,x2,x3,some (.dat (.int l)),some (.dat (.int r)),x6]=.next [some (.dat (ob h)),x1,x2,x3,some (.dat (.int l)),some (.dat (.int r)),x6'] (M.set h (lin ((repl l r j c G).map .int)))
 |0,j,M,G,x6,hl,_=>⟨x6,by
  show fO.next _ M=fO.next _ _;rw[show repl l r j 0 G=G from rfl,fL hl]⟩
 |c+1,j,M,G,x6,hl,hj=>by
  have hjl:j<G.length:=by omega
  have hs:∀i,(M.set h i)[h]?=some i:=λi=>by rw[bG hl,aeA rfl]
  have hlin:yD (lin (G.map .int))=some (G.map .int):=rfl;by_cases e:G[j]=r
  .have e0:G[j]?=some r:=by rw[adq hjl,e]
   obtain⟨x6',ih⟩:=oX x1 x2 x3 l r c (j+1) (M.set h (lin ((G.set j l).map .int))) (G.set j l) (some (.dat (.int (j:Int)))) (hs _) (by rw[adz];omega);refine⟨x6',?_⟩;rw[List.range'_succ,ado,fD (Z1:=[some (.dat (ob h)),x1,x2,x3,some (.dat (.int l)),some (.dat (.int r)),some (.dat (.int (j:Int)))]) (M2:=M.set h (lin ((G.set j l).map .int))) (Z2:=[some (.dat (ob h)),x1,x2,x3,some (.dat (.int l)),some (.dat (.int r)),some (.dat (.int (j:Int)))]) (by simp) (by simp[mK,hl,hjl,e,List.map_set]),ih,List.set_set];rw[show repl l r j (c+1) G=repl l r (j+1) c (if G[j]?=some r then G.set j l else G) from rfl,aeA e0]
  .have e0:¬G[j]?=some r:=by rw[adq hjl];exact λz=>e (adx z)
   obtain⟨x6',ih⟩:=oX x1 x2 x3 l r c (j+1) M G (some (.dat (.int (j:Int)))) hl (by omega);refine⟨x6',?_⟩;rw[List.range'_succ,ado,fD (Z1:=[some (.dat (ob h)),x1,x2,x3,some (.dat (.int l)),some (.dat (.int r)),some (.dat (.int (j:Int)))]) (M2:=M) (Z2:=[some (.dat (ob h)),x1,x2,x3,some (.dat (.int l)),some (.dat (.int r)),some (.dat (.int (j:Int)))]) (by simp) (by simp[mK,hl,hjl,e]),ih];rw[show repl l r j (c+1) G=repl l r (j+1) c (if G[j]?=some r then G.set j l else G) from rfl,aeB e0]
theorem Iu{M:Mo}{h:Nat}{G:List Int}(hl:M[h]?=some (lin (G.map .int)))(hn:G.length<=200)(x y:Int):eU M [ob h,.int x,.int y]=if ¬(Vg G x/\Vg G y) then .ok (.str "NoGround") M else if dG G x=dG G y then .ok (.str "Together") M else
  .ok (lI (aM (iK G (dG G x) (dG G y)) (dG G x))) (M.set h (lin ((iK G (dG G x) (dG G y)).map .int))):=by
 by_cases hx:Vg G x
 .by_cases hy:Vg G y
  .rw[aeB (λz=>z ⟨hx,hy⟩)];have ax:=lG hx;have ay:=lG hy;have bx:atI (G.map PyData.int) (x-1)=some (.int (dG G x)):=by
    rw[show x-1=(((x-1).toNat:Nat):Int) by omega];exact atI_nat (by rw[adw,ax];rfl)
   have bY:atI (G.map PyData.int) (y-1)=some (.int (dG G y)):=by rw[show y-1=(((y-1).toNat:Nat):Int) by omega];exact atI_nat (by rw[adw,ay];rfl)
   generalize dG G x=a at *;generalize dG G y=b at *;have hGl:(G.map PyData.int).length=G.length:=adp _;by_cases e:a=b
   .rw[aeA e];subst e;generalize G.map PyData.int=D at *;simp[eU,iY,hl,hGl,hx.1,hx.2,hy.1,hy.2,bx,bY]
   .rw[aeB e];have hre:(iK G a b).length=G.length:=adp _;obtain⟨x6',lp⟩:=oX (some (.dat (.int x))) (some (.dat (.int y))) (some (.dat (.int (G.length:Int)))) a b G.length 0 M G none hl (by omega);rw[Ls]at lp;have hs:(M.set h (lin ((iK G a b).map .int)))[h]?=some (lin ((iK G a b).map .int)):=by rw[bG hl,aeA rfl]
    generalize hM2:M.set h (lin ((iK G a b).map .int))=M2 at *;have key:=jF (tg:=aD 6) (tt:=cQ (aA jx (aA cH (cP 0) (ak 6)) (ak 4))) (te:=aA bW (ak 6) (qC (.int 1))) (M:=M2) (Z:=[some (.dat (ob h)),some (.dat (.int x)),some (.dat (.int y)),some (.dat (.int (G.length:Int))),some (.dat (.int a)),some (.dat (.int b)),none]) (λ(i:Nat)=>PyData.int (i:Int)) (λk=>decide ((iK G a b)[k]?=some a)) (λ(k:Nat)=>PyData.int ((k:Int)+1)) (List.range' 0 (iK G a b).length) λk hk=>by
     have hk:k<(iK G a b).length:=by rw[List.mem_range'_1]at hk;omega
     exact⟨[some (.dat (ob h)),some (.dat (.int x)),some (.dat (.int y)),some (.dat (.int (G.length:Int))),some (.dat (.int a)),some (.dat (.int b)),some (.dat (.int (k:Int)))],by simp,by simp[hs,hk];rfl,λ_=>by simp⟩
    rw[zQ,hre,<-dB]at key;have hrl:(eO 0 G.length).length<=50000:=by rw[dB,adp,List.length_range'];omega
    have hn1:(G.length:Int)<=100000:=by omega
    have hn2 : -100000<=(G.length:Int):=by omega
    rw[<-dB]at lp;have hnt:((G.length:Int)).toNat=G.length:=by omega
    have hab:¬(a==b)=true:=by simpa using e
    generalize G.map PyData.int=D at *;simp[eU,iY,hl,hGl,hx.1,hx.2,hy.1,hy.2,bx,bY,e,lp,key,hrl,hn1,hn2,hnt]
  .rw[aeA (λz=>hy z.2)];have hGl:(G.map PyData.int).length=G.length:=adp _;by_cases h1:1<=y
   .have h2:¬y<=G.length:=λz=>hy ⟨h1,z⟩;generalize G.map PyData.int=D at *;simp[eU,iY,hl,hGl,hx.1,hx.2,h1,h2]
   .generalize G.map PyData.int=D at *;simp[eU,iY,hl,hGl,hx.1,hx.2,h1]
 .rw[aeA (λz=>hx z.1)];have hGl:(G.map PyData.int).length=G.length:=adp _;by_cases h1:1<=x
  .have h2:¬x<=G.length:=λz=>hx ⟨h1,z⟩;generalize G.map PyData.int=D at *;simp[eU,iY,hl,hGl,h1,h2]
  .generalize G.map PyData.int=D at *;simp[eU,iY,hl,hGl,h1]
theorem KR(G:List Int)(v x:Int):((List.range' 0 G.length).filter λ(k:Nat)=>decide (G[k]?=some v)&&!((k:Int)+1==x)).map (λ(k:Nat)=>PyData.int ((k:Int)+1))=((aM G v).filter λy=>!(y==x)).map PyData.int:=by unfold aM;rw[List.filter_map,aei,List.filter_filter];congr 1;refine List.filter_congr λk _=>?_;exact Bool.and_comm _ _
theorem eq_nil(xs:List Dat)(h:gj 11 xs=true):jx (.list xs) (.list [])=.ok (.bool xs.isEmpty)/\rR (.list xs) (.list [])=.ok (.bool (!xs.isEmpty)):=by
 have e:eqB (.list xs) (.list [])=.ok xs.isEmpty:=by
  show Out.when (okd 12 (.list xs)&&okd 12 (.list [])) (.ok (PyData.eqv (.list xs) (.list [])))=_;rw[okd,okd,h,VF];cases xs with
  |nil=>rfl
  |cons a r=>rw[Pk];rfl
 exact⟨by unfold jx;rw[e];rfl,by unfold rR;rw[e];rfl⟩
theorem KD{M:Mo}{h:Nat}{G:List Int}(hl:M[h]?=some (lin (G.map .int)))(hn:G.length<=200)(x f:Int):gH M [ob h,.int x,.int f]=if ¬Vg G x then .ok (.str "NoGround") M else if (aM G (dG G x)).filter (λy=>!(y==x))=[] then .ok (.str "Alone") M else
  .ok (lI ((aM G (dG G x)).filter λy=>!(y==x))) (M.set h (lin ((G.set (x-1).toNat f).map .int))):=by
 have hGl:(G.map PyData.int).length=G.length:=adp _;by_cases hx:Vg G x
 .rw[aeB (λz=>z hx)];have ax:=lG hx;have bx:atI (G.map PyData.int) (x-1)=some (.int (dG G x)):=by
   rw[show x-1=(((x-1).toNat:Nat):Int) by omega];exact atI_nat (by rw[adw,ax];rfl)
  generalize dG G x=a at *;have key:=jF (tg:=aD 5) (tt:=oE (cQ (aA jx (aA cH (cP 0) (ak 5)) (aA cH (cP 0) (aA gA (ak 1) (qC (.int 1)))))) (cQ (aA rR (aA bW (ak 5) (qC (.int 1))) (ak 1)))) (te:=aA bW (ak 5) (qC (.int 1))) (M:=M) (Z:=[some (.dat (ob h)),some (.dat (.int x)),some (.dat (.int f)),some (.dat (.int (G.length:Int))),none,none]) (λ(i:Nat)=>PyData.int (i:Int)) (λ(k:Nat)=>decide (G[k]?=some a)&&!((k:Int)+1==x)) (λ(k:Nat)=>PyData.int ((k:Int)+1)) (List.range' 0 G.length) λk hk=>by
   have hk:k<G.length:=by rw[List.mem_range'_1]at hk;omega
   refine⟨[some (.dat (ob h)),some (.dat (.int x)),some (.dat (.int f)),some (.dat (.int (G.length:Int))),none,some (.dat (.int (k:Int)))],by simp,?_,λ_=>by simp⟩;have e1:decide (G[k]?=some a)=(G[k]==a):=by rw[adq hk];simp;rfl
   rw[e1];by_cases q:G[k]=a
   .simp[hl,hk,bx,q]
   .simp[hl,hk,bx,q]
  rw[KR,<-dB]at key;have hrl:(eO 0 G.length).length<=50000:=by rw[dB,adp,List.length_range'];omega
  have hn1:(G.length:Int)<=100000:=by omega
  have hn2 : -100000<=(G.length:Int):=by omega
  by_cases he:(aM G a).filter (λy=>!(y==x))=[]
  .rw[aeA he];rw[he]at key;have e0:jx (.list []) (.list [])=.ok (.bool true):=by rfl
   simp only[aec]at key;generalize G.map PyData.int=D at *;simp[gH,kh,hl,hGl,hx.1,hx.2,key,hrl,hn1,hn2,e0]
  .rw[aeB he];generalize hL:(aM G a).filter (λy=>!(y==x))=left at he key;have e0:jx (lI left) (.list [])=.ok (.bool false):=by
    rw[(eq_nil (left.map PyData.int) (uZ 11 left)).1];cases left with
    |nil=>exact absurd rfl he
    |cons z zs=>rfl
   have hix:ixN G.length (x-1)=some (x-1).toNat:=by rw[show x-1=(((x-1).toNat:Nat):Int) by omega,Nb,aeA (by omega)];simp
   have hst:(G.map PyData.int).set (x-1).toNat (.int f)=(G.set (x-1).toNat f).map PyData.int:=List.map_set.symm;generalize (x-1).toNat=kk at *;generalize (G.set kk f).map PyData.int=D2 at *;generalize G.map PyData.int=D at *;simp[gH,kh,hl,hGl,hx.1,hx.2,key,hrl,hn1,hn2,e0,hix,hst]
 .rw[aeA hx];by_cases h1:1<=x
  .have h2:¬x<=G.length:=λz=>hx ⟨h1,z⟩;generalize G.map PyData.int=D at *;simp[gH,kh,hl,hGl,h1,h2]
  .generalize G.map PyData.int=D at *;simp[gH,kh,hl,hGl,h1]
theorem Dm(l:List (List Int)):dw (l.map Gj)=true:=yC.mpr λd hd=>by
 obtain⟨x,_,rfl⟩:=adJ.mp hd;show lf (.tuple (x.map PyData.int))=true;simp
theorem Bl(G:List Int)(v:Int):(aM G v).length<=G.length:=by unfold aM;rw[adp];refine aeo (adX _ _) ?_;rw[List.length_range'];exact adE _
theorem yV{al G:List Int}(hlen:G.length=al.length)(few:al.length<=200):GI al (bB G):=by
 have key:∀(k:Nat) (l:List Int),(bB G)[k]?=some l->∃v,G[k]?=some v/\l=aM G v:=λk l h=>by
  unfold bB at h;rw[adw,adS]at h;obtain⟨v,h1,h2⟩:=h;exact⟨v,h1,h2.symm⟩
 refine⟨by rw[je,hlen],few,λk l h y hy=>?_,λk l h=>?_⟩
 .obtain⟨v,_,rfl⟩:=key k l h;have:=uM y hy;rw[hlen]at this;exact this
 .obtain⟨v,h1,rfl⟩:=key k l h;refine⟨λz=>?_,by have:=Bl G v;omega⟩;have:=jK.mpr h1;rw[z]at this;cases this
theorem jL{G:List Int}{x:Int}(h:Vg G x):bF (bB G) x=aM G (dG G x):=by unfold bF;rw[kJ (lG h)];rfl
theorem Bo{M:Mo}{g h n m:Nat}{al G:List Int}(hg:M[g]?=some (iG n m al (bB G)))(hl:M[h]?=some (lin (G.map .int)))(fM:dH M=true)(hlen:G.length=al.length)(few:al.length<=200)(x:Int)(hx:Vg al x):kE M [ob g,lI al,ob h,.int x]=.ok (.bool true):=by
 have hxG:Vg G x:=by
  unfold Vg at hx |-
  rw[hlen];exact hx
 have i:=yV hlen few;have t1:=jw hg i x;have t2:=tH hg x;rw[aeA hx]at t1 t2;rw[jL hxG]at t1;have t3:=Gz hg;have t4:=Cj hg x;rw[decide_eq_true hx]at t4;have t5:=Cj hg ((al.length:Int)+1);rw[decide_eq_false (show ¬Vg al ((al.length:Int)+1) from λz=>by have:=z.2;omega)]at t5;have t6:=PN hg i x hx;rw[jL hxG]at t6;have ax:=lG hxG;have bx:atI (G.map PyData.int) (x-1)=some (.int (dG G x)):=by rw[show x-1=(((x-1).toNat:Nat):Int) by omega];exact atI_nat (by rw[adw,ax];rfl)
 have bal:∀y,Vg al y->atI (al.map PyData.int) (y-1)=some (.int (iI al y)):=λy hy=>by
  obtain⟨k,hk,rfl⟩:=pX hy;rw[show(k:Int)+1-1=(k:Int) by omega];exact atI_nat (by simp[iI,hk])
 have bx2:=bal x hx;generalize hv:dG G x=a at *;have key:=jF (tg:=aD 6) (tt:=cQ (aA jx (aA cH (cP 2) (ak 6)) (aA cH (cP 2) (aA gA (ak 3) (qC (.int 1)))))) (te:=aA bW (ak 6) (qC (.int 1))) (M:=M) (Z:=[some (.dat (ob g)),some (.dat (.list (al.map PyData.int))),some (.dat (ob h)),some (.dat (.int x)),none,none,none]) (λ(i:Nat)=>PyData.int (i:Int)) (λk=>decide (G[k]?=some a)) (λ(k:Nat)=>PyData.int ((k:Int)+1)) (List.range' 0 G.length) λk hk=>by
  have hk:k<G.length:=by rw[List.mem_range'_1]at hk;omega
  refine⟨[some (.dat (ob g)),some (.dat (.list (al.map PyData.int))),some (.dat (ob h)),some (.dat (.int x)),none,none,some (.dat (.int (k:Int)))],by simp,?_,λ_=>by simp⟩;have e1:decide (G[k]?=some a)=(G[k]==a):=by rw[adq hk];simp;rfl
  rw[e1];simp[hl,hk,bx]
 rw[zQ,<-dB]at key;have hpos:∀y∈aM G a,Vg al y:=λy hy=>by
  have:=uM y hy;rw[hlen]at this;exact this
 have hml:(aM G a).length<=50000:=by have:=Bl G a;omega
 have hne:(aM G a).map (iI al)≠[]:=λz=>by
  have h1:((x-1).toNat:Int)+1∈aM G a:=jK.mpr ax;rw[List.map_eq_nil_iff.mp z]at h1;cases h1
 have hm:=maxD_ints hne;rw[aei]at hm;have hm:maxD (.list ((aM G a).map λy=>PyData.int (iI al y)))=.ok (.int (xU ((aM G a).map (iI al)))):=hm;have key2:∀x4 x5,aV (aD 6) nR (aA cH (ak 1) (aA gA (ak 6) (qC (.int 1)))) M [some (.dat (ob g)),some (.dat (.list (al.map PyData.int))),some (.dat (ob h)),some (.dat (.int x)),x4,x5,none] ((aM G a).map PyData.int)=.ok ((aM G a).map λy=>.int (iI al y)):=λx4 x5=>sJ (tg:=aD 6) (te:=aA cH (ak 1) (aA gA (ak 6) (qC (.int 1)))) (M:=M) (Z:=[some (.dat (ob g)),some (.dat (.list (al.map PyData.int))),some (.dat (ob h)),some (.dat (.int x)),x4,x5,none]) PyData.int (λy=>.int (iI al y)) (aM G a) λy hy=>⟨[some (.dat (ob g)),some (.dat (.list (al.map PyData.int))),some (.dat (ob h)),some (.dat (.int x)),x4,x5,some (.dat (.int y))],by simp,by
  have:=bal y (hpos y hy);simp[this]⟩
 have k1:∀v,lk 9 v=true->cA 10 M [v,v]=.ok (.bool true):=λv hv=>xJ M 9 v hv;have l1:=k1 (.list ((aM G a).map PyData.int)) (by show v7 8 _=true;simp);have t1:cC M [ob g,.int x]=.ok (.list ((aM G a).map PyData.int)):=t1;show kE M [ob g,.list (al.map PyData.int),ob h,.int x]=_;have l2:=k1 (.int (iI al x)) rfl;have l3:=k1 (.int (al.length:Int)) rfl;have l4:=k1 (.int (xU ((aM G a).map (iI al)))) rfl;have hlfs:dw ((aM G a).map PyData.int)=true:=u9 _;have hGl:(G.map PyData.int).length=G.length:=adp _;have hal:(al.map PyData.int).length=al.length:=adp _;have hrl:(eO 0 G.length).length<=50000:=by rw[dB,adp,List.length_range'];omega
 have hn1:(G.length:Int)<=100000:=by omega
 have hn2 : -100000<=(G.length:Int):=by omega
 have hmD:((aM G a).map PyData.int).length<=50000:=by rw[adp];exact hml
 generalize xU ((aM G a).map (iI al))=mx at *;generalize ((aM G a).map λy=>PyData.int (iI al y))=D3 at *;generalize (aM G a).map PyData.int=D2 at *;generalize al.map PyData.int=DA at *;generalize G.map PyData.int=D at *;clear bal hpos hne i ax hml;simp[kE,yF,jy,hg,iG,hl,hGl,key,hrl,hn1,hn2,fM,aC,bD,bh,cX,jR,t1,t2,t3,t4,t5,t6,hlfs,l1,l2,l3,l4,bx2,hal,jr,key2,hmD,hm]
theorem Mr{G:List Int}{x y:Int}(hx:Vg G x)(hy:Vg G y):y∈bF (bB G) x↔dG G x=dG G y:=by rw[jL hx];obtain⟨k,hk,rfl⟩:=pX hy;rw[jK];have:=lG hy;rw[show((k:Int)+1-1).toNat=k by omega]at this;rw[this];exact⟨λz=>(adx z).symm,λz=>by rw[z]⟩
theorem HX{M:Mo}{g h n m:Nat}{al G:List Int}(hg:M[g]?=some (iG n m al (bB G)))(hl:M[h]?=some (lin (G.map .int)))(hgh:g≠h)(hlen:G.length=al.length)(few:al.length<=200)(f:Int)(hf:∀v∈G,v<f)(w x y:Int) :
  ∃d G',G'.length=al.length/\(∀v∈G',v<f+1)/\((∃s,d=.str s)\/∃l,d=lI l)/\(w<2->eU M [ob h,.int x,.int y]=.ok d (M.set h (lin (G'.map .int))))/\(¬w<2->gH M [ob h,.int x,.int f]=.ok d (M.set h (lin (G'.map .int))))/\
   ∀M2:Mo,M2[g]?=some (iG n m al (bB G))->cI M2 [ob g,.int w,.int x,.int y]=.ok d (M2.set g (iG n m al (bB G'))):=by
 have i:=yV hlen few;have hvg:∀z,Vg al z↔Vg G z:=λz=>by unfold Vg;rw[hlen]
 have hf':∀v∈G,v<f+1:=λv hv=>by have:=hf v hv;omega
 have hng:f∉G:=λz=>by have:=hf f z;omega
 have n2:G.length<=200:=by omega
 by_cases hw:w<2
 .have u1:=Iu hl n2 x y;have u2:=λ(M2:Mo)(h2:M2[g]?=some (iG n m al (bB G)))=>Lp h2 i x y;by_cases hv:Vg G x/\Vg G y
  .rw[aeB (λz=>z hv)]at u1;simp only[aeB (show ¬¬(Vg al x/\Vg al y) from λz=>z ⟨(hvg x).mpr hv.1,(hvg y).mpr hv.2⟩),Mr hv.1 hv.2]at u2;by_cases he:dG G x=dG G y
   .rw[aeA he]at u1;simp only[aeA he]at u2;refine⟨.str "Together",G,hlen,hf',.inl ⟨_,rfl⟩,λ_=>by rw[fL hl,u1],λz=>absurd hw z,λM2 h2=>?_⟩
    have u2:=u2 M2 h2;rw[fL h2];simp[cI,dZ,h2,iG,bL,bQ,hw,u2,iz,lF]
   .rw[aeB he]at u1;simp only[aeB he]at u2;have hs:sortI (bF (bB G) x++bF (bB G) y)=aM (iK G (dG G x) (dG G y)) (dG G x):=by
     rw[jL hv.1,jL hv.2];refine LR _ ?_ ?_ he
     .exact(List.pairwise_mergeSort (by intro a b c h1 h2;simp at *;omega) (by intro a b;simp;omega) _).imp λh=>by simpa using h
     .exact List.mergeSort_perm _ _
    rw[hs,HJ he]at u2;refine⟨_,_,?_,?_,.inr ⟨_,rfl⟩,λ_=>u1,λz=>absurd hw z,λM2 h2=>?_⟩
    .rw[<-hlen];exact adp _
    .intro v hv2;unfold iK at hv2;obtain⟨u,hu,rfl⟩:=adJ.mp hv2;split
     .exact hf' _ (adH (lG hv.1))
     .exact hf' _ hu
    .have u2:=u2 M2 h2;generalize aM (iK G (dG G x) (dG G y)) (dG G x)=l at *;generalize M2.set g (iG n m al (bB (iK G (dG G x) (dG G y))))=M3 at *;generalize l.map PyData.int=D at *;simp[cI,dZ,h2,iG,bL,bQ,hw,u2]
  .rw[aeA hv]at u1;simp only[aeA (show ¬(Vg al x/\Vg al y) from λz=>hv ⟨(hvg x).mp z.1,(hvg y).mp z.2⟩)]at u2;refine⟨.str "NoGround",G,hlen,hf',.inl ⟨_,rfl⟩,λ_=>by rw[fL hl,u1],λz=>absurd hw z,λM2 h2=>?_⟩
   have u2:=u2 M2 h2;rw[fL h2];simp[cI,dZ,h2,iG,bL,bQ,hw,u2,iz]
 .have u1:=KD hl n2 x f;have u2:=λ(M2:Mo)(h2:M2[g]?=some (iG n m al (bB G)))=>Qq h2 i x;by_cases hv:Vg G x
  .rw[aeB (λz=>z hv)]at u1;simp only[aeB (show ¬¬Vg al x from λz=>z ((hvg x).mpr hv)),jL hv]at u2;by_cases he:(aM G (dG G x)).filter (λy=>!(y==x))=[]
   .rw[aeA he]at u1;simp only[aeA he]at u2;refine⟨.str "Alone",G,hlen,hf',.inl ⟨_,rfl⟩,λz=>absurd z hw,λ_=>by rw[fL hl,u1],λM2 h2=>?_⟩
    have u2:=u2 M2 h2;rw[fL h2];simp[cI,dZ,h2,iG,bL,bQ,hw,u2,iz,lF,vB]
   .rw[aeB he]at u1;simp only[aeB he]at u2;have hc:encl (encl (bB G) [x]) ((aM G (dG G x)).filter λy=>!(y==x))=bB (G.set (x-1).toNat f):=by
     have:=JW (lG hv) hng;rw[show(((x-1).toNat:Nat):Int)+1=x by have:=hv.1;omega]at this;exact this
    rw[hc]at u2;refine⟨_,_,?_,?_,.inr ⟨_,rfl⟩,λz=>absurd z hw,λ_=>u1,λM2 h2=>?_⟩
    .rw[adz,hlen]
    .intro v hv2;rcases List.mem_or_eq_of_mem_set hv2 with z|z
     .exact hf' v z
     .omega
    .have u2:=u2 M2 h2;generalize (aM G (dG G x)).filter (λy=>!(y==x))=l at *;generalize M2.set g (iG n m al (bB (G.set (x-1).toNat f)))=M3 at *;generalize l.map PyData.int=D at *;simp[cI,dZ,h2,iG,bL,bQ,hw,u2]
  .rw[aeA hv]at u1;simp only[aeA (show ¬Vg al x from λz=>hv ((hvg x).mp z))]at u2;refine⟨.str "NoGround",G,hlen,hf',.inl ⟨_,rfl⟩,λz=>absurd z hw,λ_=>by rw[fL hl,u1],λM2 h2=>?_⟩
   have u2:=u2 M2 h2;rw[fL h2];simp[cI,dZ,h2,iG,bL,bQ,hw,u2,iz]
def jQ:Dat->Cell
 |.list _=>.mut []
 |d=>.dat d
def fK(al G:List Int):Mo:=[iG 1 2 al (bB G),⟨"",[]⟩,⟨"",[]⟩,lin (G.map .int)]
theorem Jt(al G:List Int):dH (fK al G)=true:=by simp[fK,dH,iG,lin,Jz,Dm]
abbrev E13(x0:Option Cell)(al:List Int)(x3 x6 x7 x8 x9 x10 x11 x12 x13:Option Cell):Rf.Env:=[x0,some (.dat (lI al)),some (.dat (ob 0)),x3,some (.dat (.int (al.length:Int))),some (.dat (ob 3)),x6,x7,x8,x9,x10,x11,x12,x13]
theorem Np(x0:Option Cell)(al G:List Int)(hlen:G.length=al.length)(few:al.length<=100)(pos:1<=al.length)(a:Int)(hf:∀v∈G,v<(al.length:Int)+a)(c:Int)(x3 x8 x9 x10 x11 x12 x13:Option Cell) :
  ∃G' x8' x9' x10' x11' x12',G'.length=al.length/\(∀v∈G',v<(al.length:Int)+(a+1))/\fu (fK al G) (E13 x0 al x3 (some (.dat (.int a))) (some (.dat (.int c))) x8 x9 x10 x11 x12 x13)=.next (E13 x0 al x3 (some (.dat (.int a))) (some (.dat (.int c))) x8' x9' x10' x11' x12' x13) (fK al G'):=by
 have hr:oG (fK al G) [.int c,.int 7,.int 10]=.ok (lI (rowOf c 7 10)):=Kf (fK al G) c 7 10 (by decide) (by decide) (by decide);have hrl:=Fv c 7 10;generalize rowOf c 7 10=ps at *;obtain⟨p0,p1,p2,p3,p4,p5,p6,rfl⟩:∃p0 p1 p2 p3 p4 p5 p6,ps=[p0,p1,p2,p3,p4,p5,p6]:=by
  match ps,hrl with
  |[p0,p1,p2,p3,p4,p5,p6],_=>exact⟨p0,p1,p2,p3,p4,p5,p6,rfl⟩
 have hp:0<(al.length:Int):=by omega
 have hp2:0<(al.length:Int)+2:=by omega
 have hp3:0<al.length:=by omega
 have hm:∀z,decide (CMul z 10)=true:=λz=>mul_r (by decide);have fin:∀x y:Int,(p4=9->x=(p0*10+p1)%((al.length:Int)+2)/\y=(p2*10+p3)%((al.length:Int)+2))->(¬p4=9->x=1+(p0*10+p1)%(al.length:Int)/\y=1+(p2*10+p3)%(al.length:Int))->
   ∃G' x8' x9' x10' x11' x12',G'.length=al.length/\(∀v∈G',v<(al.length:Int)+(a+1))/\fu (fK al G) (E13 x0 al x3 (some (.dat (.int a))) (some (.dat (.int c))) x8 x9 x10 x11 x12 x13)=.next (E13 x0 al x3 (some (.dat (.int a))) (some (.dat (.int c))) x8' x9' x10' x11' x12' x13) (fK al G'):=λx y h9 h9'=>by
  obtain⟨d,G',g1,g2,gd,gu,gp,gt⟩:=HX (M:=fK al G) (g:=0) (h:=3) (n:=1) (m:=2) (al:=al) (G:=G) rfl rfl (by decide) hlen (by omega) ((al.length:Int)+a) hf (p5%3) x y;have gt:=gt ((fK al G).set 3 (lin (G'.map .int))) rfl;have e2:((fK al G).set 3 (lin (G'.map .int))).set 0 (iG 1 2 al (bB G'))=fK al G':=rfl;rw[e2]at gt;have f1:dH ((fK al G).set 3 (lin (G'.map .int)))=true:=by simp[fK,dH,iG,lin,Jz,Dm]
  have f2:=Jt al G';have hx6:Vg al (1+p6%(al.length:Int)):=by have:=Int.emod_nonneg p6 (show(al.length:Int)≠0 by omega);have:=Int.emod_lt_of_pos p6 hp;exact⟨by omega,by omega⟩
  have rt:=Bo (M:=fK al G') (g:=0) (h:=3) (n:=1) (m:=2) (al:=al) (G:=G') rfl rfl f2 g1 (by omega) _ hx6;refine⟨G',some (.dat (lI [p0,p1,p2,p3,p4,p5,p6])),some (.dat (.int x)),some (.dat (.int y)),some (.dat d),some (jQ d),g1,λv hv=>by have:=g2 v hv;omega,?_⟩;have hl:cA 10 (fK al G') [d,d]=.ok (.bool true):=by
   rcases gd with⟨s,rfl⟩|⟨l,rfl⟩
   .exact xJ _ 9 _ rfl
   .exact xJ _ 9 _ (by show v7 8 _=true;simp)
  generalize (fK al G).set 3 (lin (G'.map .int))=M1 at *;generalize fK al G=M0 at *;generalize fK al G'=M2 at *;clear e2 hf g2;rcases gd with⟨s,rfl⟩|⟨l,rfl⟩
  .have i1:mj .list (.str s)=.ok (.bool false):=rfl;by_cases hw:p5%3<2
   .have gu:=gu hw;by_cases h:p4=9
    .obtain⟨rfl,rfl⟩:=h9 h;simp[fu,hr,hm,hp2,hp3,h,hw,gu,gt,f1,f2,hl,i1,rt,jQ]
    .obtain⟨rfl,rfl⟩:=h9' h;simp[fu,hr,hm,hp2,hp3,h,hw,gu,gt,f1,f2,hl,i1,rt,jQ]
   .have gp:=gp hw;by_cases h:p4=9
    .obtain⟨rfl,rfl⟩:=h9 h;simp[fu,hr,hm,hp2,hp3,h,hw,gp,gt,f1,f2,hl,i1,rt,jQ]
    .obtain⟨rfl,rfl⟩:=h9' h;simp[fu,hr,hm,hp2,hp3,h,hw,gp,gt,f1,f2,hl,i1,rt,jQ]
  .have i1:mj .list (lI l)=.ok (.bool true):=rfl;have i2:dw (l.map PyData.int)=true:=u9 _;generalize l.map PyData.int=D at *;by_cases hw:p5%3<2
   .have gu:=gu hw;by_cases h:p4=9
    .obtain⟨rfl,rfl⟩:=h9 h;simp[fu,hr,hm,hp2,hp3,h,hw,gu,gt,f1,f2,hl,i1,i2,rt,jQ,jy]
    .obtain⟨rfl,rfl⟩:=h9' h;simp[fu,hr,hm,hp2,hp3,h,hw,gu,gt,f1,f2,hl,i1,i2,rt,jQ,jy]
   .have gp:=gp hw;by_cases h:p4=9
    .obtain⟨rfl,rfl⟩:=h9 h;simp[fu,hr,hm,hp2,hp3,h,hw,gp,gt,f1,f2,hl,i1,i2,rt,jQ,jy]
    .obtain⟨rfl,rfl⟩:=h9' h;simp[fu,hr,hm,hp2,hp3,h,hw,gp,gt,f1,f2,hl,i1,i2,rt,jQ,jy]
 by_cases h:p4=9
 .exact fin _ _ (λ_=>⟨rfl,rfl⟩) (λz=>absurd h z)
 .exact fin _ _ (λz=>absurd z h) (λ_=>⟨rfl,rfl⟩)
theorem Jd(k:Int)(d:Dat)(ds:List Dat):lE k (d::ds)=.tuple [.int k,d]::lE (k+1) ds:=by
 unfold lE;rw[List.mapIdx_cons];congr 1
 .simp
 .apply List.ext_getElem
  .simp
  .intro n h1 h2;simp;omega
theorem DW(x0:Option Cell)(al:List Int)(few:al.length<=100)(pos:1<=al.length)(x3 x13:Option Cell):∀(cs:List Int) (a:Nat) (G:List Int) (x6 x7 x8 x9 x10 x11 x12:Option Cell),G.length=al.length->(∀v∈G,v<(al.length:Int)+a)->
  ∃G' x6' x7' x8' x9' x10' x11' x12',G'.length=al.length/\eE (jO [6,7]) fu (lE (a:Int) (cs.map PyData.int)) (fK al G) (E13 x0 al x3 x6 x7 x8 x9 x10 x11 x12 x13)=.next (E13 x0 al x3 x6' x7' x8' x9' x10' x11' x12' x13) (fK al G')
 |[],a,G,x6,x7,x8,x9,x10,x11,x12,hl,_=>⟨G,x6,x7,x8,x9,x10,x11,x12,hl,rfl⟩
 |c::cs,a,G,x6,x7,x8,x9,x10,x11,x12,hl,hf=>by
  obtain⟨G1,y8,y9,y10,y11,y12,h1,h2,e⟩:=Np x0 al G hl few pos a hf c x3 x8 x9 x10 x11 x12 x13;obtain⟨G2,z6,z7,z8,z9,z10,z11,z12,h3,ih⟩:=DW x0 al few pos x3 x13 cs (a+1) G1 (some (.dat (.int a))) (some (.dat (.int c))) y8 y9 y10 y11 y12 h1 (by exact_mod_cast h2);refine⟨G2,z6,z7,z8,z9,z10,z11,z12,h3,?_⟩;rw[show(((a+1:Nat)):Int)=(a:Int)+1 from rfl]at ih;rw[ado,Jd,fD (by simp) e,ih]
theorem wF(x0:Option Cell)(al G:List Int)(hlen:G.length=al.length)(few:al.length<=100)(x3 x6 x7 x8 x10 x11 x12 x13:Option Cell):∀(n j:Nat) (x9:Option Cell),j+n<=al.length->
  ∃x9',eE (aD 9) yu ((List.range' j n).map λ(i:Nat)=>PyData.int ((i:Int)+1)) (fK al G) (E13 x0 al x3 x6 x7 x8 x9 x10 x11 x12 x13)=.next (E13 x0 al x3 x6 x7 x8 x9' x10 x11 x12 x13) (fK al G)
 |0,j,x9,_=>⟨x9,rfl⟩
 |n+1,j,x9,h=>by
  obtain⟨x9',ih⟩:=wF x0 al G hlen few x3 x6 x7 x8 x10 x11 x12 x13 n (j+1) (some (.dat (.int ((j:Int)+1)))) (by omega);have rt:=Bo (M:=fK al G) (g:=0) (h:=3) (n:=1) (m:=2) (al:=al) (G:=G) rfl rfl (Jt al G) hlen (by omega) ((j:Int)+1) ⟨by omega,by omega⟩;generalize fK al G=M0 at *;refine⟨x9',?_⟩;rw[List.range'_succ,ado,fD (Z1:=E13 x0 al x3 x6 x7 x8 (some (.dat (.int ((j:Int)+1)))) x10 x11 x12 x13) (M2:=M0) (Z2:=E13 x0 al x3 x6 x7 x8 (some (.dat (.int ((j:Int)+1)))) x10 x11 x12 x13) (by simp) (by simp[yu,rt]),ih]
def iU(n:Nat):List Int:=(List.range' 0 n).map λ(k:Nat)=>(k:Int)
theorem Fx{n k:Nat}(h:k<n):(iU n)[k]?=some (k:Int):=by simp[iU,h]
theorem xQ(n:Nat):(iU n).length=n:=by simp[iU]
theorem RL{n:Nat}:∀v∈iU n,0<=v/\v<n:=λv hv=>by
 unfold iU at hv;obtain⟨k,hk,rfl⟩:=adJ.mp hv;rw[List.mem_range'_1]at hk;omega
theorem Mf(n:Nat):bB (iU (n+1))=bB (iU n)++[[(n:Int)+1]]:=by
 have hs:∀m k:Nat,k<m->aM (iU m) (k:Int)=[(k:Int)+1]:=λm k h=>by
  refine up_eq (jm _ _) (by simp) λx=>?_;rw[cY,adF];constructor
  .rintro⟨j,g,rfl⟩;have hj:j<m:=by
    have:=(adk.mp g).1;rw[xQ]at this;exact this
   rw[Fx hj]at g;have:=adx g;omega
  .rintro rfl;exact⟨k,Fx h,rfl⟩
 have hc:∀m,bB (iU m)=(List.range' 0 m).map λ(k:Nat)=>[(k:Int)+1]:=λm=>by
  unfold bB
  conv=>lhs;arg 2;unfold iU
  rw[aei];refine List.map_congr_left λk hk=>?_;rw[List.mem_range'_1]at hk;exact hs m k (by omega)
 rw[hc,hc,List.range'_concat];simp
def lJ(al:List Int):Mo:=[iG 1 2 al (bB (iU al.length)),⟨"",[]⟩,⟨"",[]⟩]
theorem Cg(x0 x1 x4 x5 x6 x7 x8 x9 x10 x11 x12 x13:Option Cell):∀(as:List Int) (done:List Int) (x3:Option Cell),(∀a∈as,0<=a/\a<=9)->done.length+as.length<=100->
  ∃x3',eE (aD 3) yw (as.map PyData.int) (lJ done) [x0,x1,some (.dat (ob 0)),x3,x4,x5,x6,x7,x8,x9,x10,x11,x12,x13]=.next [x0,x1,some (.dat (ob 0)),x3',x4,x5,x6,x7,x8,x9,x10,x11,x12,x13] (lJ (done++as))
 |[],done,x3,_,_=>⟨x3,by simp[eE]⟩
 |a::as,done,x3,h,hl=>by
  rw[adA]at hl;obtain⟨x3',ih⟩:=Cg x0 x1 x4 x5 x6 x7 x8 x9 x10 x11 x12 x13 as (done++[a]) (some (.dat (.int a))) (λb hb=>h b (adt _ hb)) (by simp;omega);have ad:=Ac (M:=lJ done) (g:=0) (n:=1) (m:=2) rfl (yV (xQ _) (by omega)) (by omega) a (h a adn);have e:(lJ done).set 0 (iG 1 2 (done++[a]) (bB (iU done.length)++[[(done.length:Int)+1]]))=lJ (done++[a]):=by rw[<-Mf];unfold lJ;rw[ad5,List.length_singleton];rfl
  rw[e]at ad;have hg:(lJ done)[0]?=some (iG 1 2 done (bB (iU done.length))):=rfl;refine⟨x3',?_⟩;rw[List.append_assoc,List.singleton_append]at ih;generalize lJ (done++[a])=M2 at *;generalize lJ done=M1 at *;rw[ado,fD (Z1:=[x0,x1,some (.dat (ob 0)),some (.dat (.int a)),x4,x5,x6,x7,x8,x9,x10,x11,x12,x13]) (M2:=M2) (Z2:=[x0,x1,some (.dat (ob 0)),some (.dat (.int a)),x4,x5,x6,x7,x8,x9,x10,x11,x12,x13]) (by simp) (by simp[yw,hg,iG,fX,ad]),ih]
theorem Q9(l:List Int)(lo hi:Option Int):Rf.cutD (l.map PyData.int) lo hi=(Rf.cutD l lo hi).map PyData.int:=by unfold Rf.cutD;rw[adp,List.map_take,List.map_drop]
theorem Mg(ns:List Int)(hn:ns.length<=63):∃M,Ai [] [.list (ns.map PyData.int)]=.ok (.bool true) M:=by
 have c0:∀M,lM M [lI ns,.int 0]=.ok (.int (ns.getD 0 0)):=λM=>Gm M ns 0;have c1:∀M,lM M [lI ns,.int 1]=.ok (.int (ns.getD 1 0)):=λM=>Gm M ns 1;have hk0:=Int.emod_nonneg (ns.getD 1 0) (show(10:Int)≠0 by decide);have hk1:=Int.emod_lt_of_pos (ns.getD 1 0) (show(0:Int)<10 by decide);obtain⟨n,hn1⟩:∃n:Nat,1+ns.getD 1 0%10=(n:Int):=⟨(1+ns.getD 1 0%10).toNat,by omega⟩;have r0:oG [] [.int (ns.getD 0 0),.int (n:Int),.int 10]=.ok (lI (rowOf (ns.getD 0 0) n 10)):=Kf [] (ns.getD 0 0) n 10 (by decide) (by decide) (by omega);have al_in:=Uy (b:=10) (by decide) (ns.getD 0 0) n;have al_len:=Fv (ns.getD 0 0) n 10;generalize rowOf (ns.getD 0 0) n 10=al at *;have few:al.length<=100:=by omega
 have pos:1<=al.length:=by omega
 have hcl2:Rf.cutD (ns.map PyData.int) (some 2) (some 52)=(Rf.cutD ns (some 2) (some 52)).map PyData.int:=by rw[Q9]
 generalize Rf.cutD ns (some 2) (some 52)=cells at *;obtain⟨x3',a1⟩:=Cg (some (.dat (lI ns))) (some (.dat (lI al))) none none none none none none none none none none al [] none (λa ha=>by have:=al_in a ha;omega) (by simp;omega);rw[List.nil_append]at a1;obtain⟨G,y6,y7,y8,y9,y10,y11,y12,hG,lp⟩:=DW (some (.dat (lI ns))) al few pos x3' none cells 0 (iU al.length) none none none none none none none (xQ _) (λv hv=>by have:=RL v hv;omega);obtain⟨z9,rl⟩:=wF (some (.dat (lI ns))) al G hG few x3' y6 y7 y8 y10 y11 y12 none al.length 0 y9 (by omega);have ini:fQ [⟨"Grounds",[]⟩] [ob 0]=.ok .none (lJ []):=by simp[fQ,j8,mF,lJ,iG,bB,iU]
 have hr2:eO 1 al.length=(List.range' 0 al.length).map λ(i:Nat)=>PyData.int ((i:Int)+1):=by unfold eO;rw[List.range_eq_range'];exact List.map_congr_left λk _=>by rw[Int.add_comm]
 have cl:aV (aD 13) nR (aJ 13) (lJ al) [some (.dat (lI ns)),some (.dat (lI al)),some (.dat (ob 0)),x3',some (.dat (.int (al.length:Int))),none,none,none,none,none,none,none,none,none] ((List.range' 0 al.length).map λ(i:Nat)=>PyData.int (i:Int))=.ok ((iU al.length).map PyData.int):=by have:=sJ (tg:=aD 13) (te:=aJ 13) (M:=lJ al) (Z:=[some (.dat (lI ns)),some (.dat (lI al)),some (.dat (ob 0)),x3',some (.dat (.int (al.length:Int))),none,none,none,none,none,none,none,none,none]) (λ(i:Nat)=>PyData.int (i:Int)) (λ(i:Nat)=>PyData.int (i:Int)) (List.range' 0 al.length) λi _=>⟨[some (.dat (lI ns)),some (.dat (lI al)),some (.dat (ob 0)),x3',some (.dat (.int (al.length:Int))),none,none,none,none,none,none,none,none,some (.dat (.int (i:Int)))],by simp,by simp⟩;rw[this];unfold iU;rw[aei];rfl
 have hM:lJ al++[⟨"",[("",.lst 0 ((iU al.length).map PyData.int))]⟩]=fK al (iU al.length):=rfl
 have hML:(lJ al).length=3:=rfl;have hi:dw ((iU al.length).map PyData.int)=true:=u9 _;have hh:(PyData.list (ns.map PyData.int))=lI ns:=rfl;rw[hh];refine⟨fK al G,?_⟩;have c0:=c0 [];have c1:=c1 [];have hc0:((0:Nat):Int)=0:=rfl;rw[hc0]at lp;unfold E13 at lp rl;rw[<-hn1]at r0;generalize ns.getD 0 0=z0 at *;generalize ns.getD 1 0=z1 at *;generalize cells.map PyData.int=D at *;have hrl:((List.range' 0 al.length).map λ(i:Nat)=>PyData.int (i:Int)).length<=50000:=by rw[adp,List.length_range'];omega
 have hb1:(al.length:Int)<=100000:=by omega
 have hb2 : -100000<=(al.length:Int):=by omega
 have hb3:(al.length:Int)+1<=100000:=by omega
 have hb4 : -100000<=(al.length:Int)+1:=by omega
 have hr1:=dB al.length;generalize ((List.range' 0 al.length).map λ(i:Nat)=>PyData.int (i:Int))=R1 at *;generalize ((List.range' 0 al.length).map λ(i:Nat)=>PyData.int ((i:Int)+1))=R2 at *;generalize (iU al.length).map PyData.int=DI at *;generalize fK al G=M3 at *;generalize fK al (iU al.length)=M2 at *;generalize lJ al=M1 at *;generalize lJ []=M0 at *;simp[Ai,Hr,ini,c0,c1,r0,a1,hcl2,lp,rl,cl,hM,hML,hi,hr1,hr2,hrl,hb1,hb2,hb3,hb4]
end Pr
open PySem PySem.W PySem.Calls PyProof.Rows
set_option maxHeartbeats 0 in
theorem PySem.Challenge.cw_earmarks_k13_grounds_united_holds : PySem.Challenge.rw_earmarks_k13_grounds_united.Holds := by
 w_on;o_law
 refine HandSHeadRun.head_any (r:=OpenLaw.row PySem.Challenge.rw_earmarks_k13_grounds_united) (q:=view (OpenLaw.row PySem.Challenge.rw_earmarks_k13_grounds_united).prog [18]) (H:=Pr.Og) (ob:=Pr.Oh) (M:=40000) (loose:=Pr.nm) (d:=HandSHeadRun.topDef (OpenLaw.row PySem.Challenge.rw_earmarks_k13_grounds_united).prog 18) (kwd:=[]) Pr.Vz (by kernel_rfl) (λs=>by kernel_rfl) Pr.run (by kernel_rfl) (by kernel_rfl) (by kernel_rfl) (by rfl) (by first | assumption | decide +kernel) (by decide +kernel) ⟨rfl,rfl,rfl,rfl,rfl,by decide +kernel⟩ ?hw ?hc
 case hw=>w_witness2
 case hc=>
  refine L2.walk_ofE (l:=PySem.Challenge.rw_earmarks_k13_grounds_united) (n:=63) (k:=14) (x:="_law_script") (CX:=L2.CX0) rfl (by decide) (by kernel_rfl) ⟨rfl,by decide,by decide⟩ ?F (λ_ _ _ _ z=>z)
  intro w mg fa h Y G hmg0;obtain⟨K,KX,c⟩:=Y;have hmg:mg ("law" : PySem.Str)=some (.ref fa):=by
   have e:(HandSHeadRun.topDef (OpenLaw.row PySem.Challenge.rw_earmarks_k13_grounds_united).prog 18).name=("law" : PySem.Str):=by kernel_rfl
   rw[<-e];exact hmg0
  have T:Pr.Top w K mg:=⟨⟨h,KX,G⟩,c⟩;have e:=hmg.symm.trans (T.glo 19);cases e;obtain⟨fd,F⟩:=T.c.Dh 19;have b:=L2.FunD.bindsA (ps:=["_law_script"]) F λ_ _ _ _ _ _ us hl=>match us,hl with|[_],_=>rfl
  exact⟨K,fd,λvs H Q _=>Rf.oZ K (Pr.aj w K) 1 Pr.Ai vs H Q λ_ _ _=>False,KX,λs v=>b s [v] rfl,λH a ns hl _ hS=>(Pr.Mg ns hl).elim λ_ z=>Rf.Yo rfl hS z,λbase _ _=>Rf.HD (Pr.X8 T F)⟩

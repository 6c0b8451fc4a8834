import PyProof.Rows.All
import HandS.ForMost
import HandS.Evl
import HandS.Walk
import HandS.Zip
import HandS.IsInst
import HandS.Style
import HandS.FStr
import HandS.StrSplit
import HandS.RaiseFrom
import HandS.SuiteRaise
import HandS.Strs
import HandS.TupAny
import HandS.Deep
import HandS.WordsExc
import KE.DataMinMax
import KE.DataFind
import KE.SortData
import HandS.SortKw
import HandS.TupSets
import HandS.SetBool
import HandS.DictComp
import HandS.Conv
import KE.KDictKeyed
import HandS.ExcField
import HandS.ExcInit
import HandS.ExcIs
import HandS.HeadHook4
import HandS.HeadEnd
import HandS.Head2
import HandS.Flow
import KE.GoesEnumKw
import PySem.Challenge.RW_earmarks_k30_lines_read
import KE.GoesRaise
set_option Elab.async false
set_option linter.all false
set_option maxRecDepth 100000
set_option maxHeartbeats 2000000
def ahs:True:=trivial
abbrev aht:=@False.elim
abbrev ahu:=@decide_eq_true_eq
abbrev ahv:=@of_decide_eq_true
def agv:=@Option.bind_eq_some_iff
def agw:=@PySem.W.Frag
def agx:=@Bool.and_eq_true
def agy:=@List.map_cons
def agz:=@List.mem_cons_of_mem
def agA:=@List.mem_cons_self
def agB:=@List.length_map
def agC:=@List.length_cons
def agD:=@List.getElem?_eq_getElem
def agE:=@List.getElem?_eq_some_iff
def agF:=@List.getElem?_set_ne
def agG:=@Bool.not_eq_true'
def agH:=@List.length_append
def agI:=@List.mem_cons
def agJ:=@List.mem_singleton
def agK:=@List.all_eq_true
def agL:=@Nat.le_refl
def agM:=@List.getElem?_append_left
def agN:=@List.getElem?_set_self
def agO:=@Nat.zero_le
def agP:=@List.getElem?_append_right
def agQ:=@List.lookup_cons
def agR:=@List.length_set
def agS:=@List.getElem?_map
def agT:=@List.mem_of_getElem?
def agU:=@List.mem_map
def agV:=@Bool.false_eq_true
def agW:=@List.map_map
def agX:=@Array.length_toList
def agY:=@List.not_mem_nil
def agZ:=@Option.map_eq_some_iff
def ag0:=@Option.some.inj
def ag1:=@List.append_nil
def ag3:=@List.length_drop
def ag4:=@Nat.ne_of_lt
def ag5:=@List.mem_append
def ag6:=@List.zip_cons_cons
def ag7:=@List.all_cons
def ag8:=@List.mem_of_mem_take
def ag9:=@List.drop_eq_getElem_cons
def aha:=@Nat.le_trans
def ahb:=@List.drop_zero
def ahc:=@List.map_append
def ahd:=@Array.getElem?_toList
def ahe:=@List.drop_length
def ahf:=@Nat.lt_succ_of_lt
def ahg:=@List.filter_cons
def ahh:=@Bool.eq_iff_iff
def ahi:=@List.mem_append_right
def ahj:=@Bool.or_eq_true
def ahk:=@List.length_filter_le
def ahl:=@List.any_cons
def ahm:=@Nat.add_sub_cancel'
def ahn:=@Nat.add_left_cancel
def aho:=@List.map_nil
def ahp:=@Nat.succ.inj
def ahq:=@List.mem_filter
def ahr:=@List.nodup_cons
namespace Rf
open PySem PySem.Spec PyProof.Rows L2 HandSHeadRun
def ahw:=@wpAny_bind
def ahx:=@wpAny_pure
def ahy:=@if_pos
def ahz:=@if_neg
def ahA:=@upd_same
def ahB:=@eq_of_beq
abbrev Dat:=PyData
abbrev Ft:=List (Str×List Str)
structure vD(fa:List He.Fa)(fn:List He.DefD)(tb:List He.Tab)(ex:agw->Bool)(w:World)(K:agw):Prop where
 t:He.SaysT fa fn tb w K
 more:ex K=true
def Mp(as:List Addr)(fa:List He.Fa)(fn:List He.DefD)(tb:List He.Tab)(ex:agw->Bool)(g:Addr->Option Obj):He.AlX:=(He.obsT fa fn tb (He.frG g as),ex (He.frG g as))
def M5(as:List Addr)(fa:List He.Fa)(fn:List He.DefD)(tb:List He.Tab)(ex:agw->Bool):PySem.W.Hook where
 α:=He.AlX
 obs:=λs=>Mp as fa fn tb ex s.heap.get?
 val:=λw=>He.valX fn tb w
 says:=λw h=>∃K:agw,K.In h/\vD fa fn tb ex w K
 of:=λw s e=>⟨_,He.frG_in,⟨congrArg (λz:He.AlX=>z.1) e,congrArg (λz:He.AlX=>z.2) e⟩⟩
 keeps:=λ_ _ _ ⟨K,hK,c⟩ k=>⟨K,PySem.W.Frag.In.keeps hK k,c⟩
theorem W7{as:List Addr}{fa:List He.Fa}{fn:List He.DefD}{tb:List He.Tab}{ex:agw->Bool}{g:Addr->Option Obj}{s:Shared}(h:∀a,g a=s.heap.get? a):Mp as fa fn tb ex g=(M5 as fa fn tb ex).obs s:=by rw[show g=s.heap.get? from funext h];rfl
def uw(K:agw)(ft:Ft):Bool:=ft.all λp=>(He.Fa.cls p.1).ok K&&p.2.all λf=>(He.Fa.noat p.1 f).ok K
def xmB(K:agw)(xm:List (Str×List (Str×Bool))):Bool:=xm.all λp=>p.2.all λq=>(He.Fa.exm q.1 p.1 q.2).ok K
def Ea(K:agw)(a:Addr):Bool:=match K.lookup a with
 |some o=>(match o.cls with
  |.type c=>decide (c="tuple")
  |_=>false)&&o.dict.isNone
 |none=>false
def aaj(K:agw)(C:Addr):Bool:=(match K.lookup C with
 |some ⟨.type t,_,.cls cd,sl⟩=>decide (t="type")&&(match cd.mro,sl.toList with
  |.ref C'::bm,[_,_,_,_,some (.builtin n),_]=>decide (C'=C)&&(decide (n="ValueError.__new__")&&(!cd.hasDel&&(cd.hasDict&&PySem.HandSPX.refsVE bm)))
  |_,_=>false)
 |_=>false)&&(He.eqO (PySem.W.findIn K (.ref C) "__setattr__") (some (some (.builtin "object.__setattr__")))&&(decide (PySem.W.subIn K (.ref C) (.type "BaseException")=some true)&&(decide (PySem.W.typeIn K (.ref C)=some (.type "type"))&&PySem.W.keepIn K (.ref C))))
def KN(K:agw)(x:Str)(fs:List Str):Bool:=aaj K (He.ga K x)&&(He.eqO (PySem.W.findIn K (.ref (He.ga K x)) "__init__") (some (some (.ref (He.ma K (He.ga K x) "__init__"))))&&(decide (PySem.W.typeIn K (.ref (He.ma K (He.ga K x) "__init__"))=some (.type "function"))&&(xfB K (He.ga K x)&&fs.all λf=>He.eqO (PySem.W.findIn K (.ref (He.ga K x)) f) (some none))))
def Ds(K:agw)(a:Addr)(xs:List Str):Bool:=match K.lookup a with
 |some ⟨.type c,_,.seq its _,_⟩=>decide (c="tuple")&&(decide (its.size<=sizeLine)&&He.relAll (xs.map V.str) its.toList)
 |_=>false
def RQ(K:agw)(x:Str)(kvs:List (Str×List Str)):Bool:=(match K.lookup (He.ga K x) with
 |some ⟨_,_,.dict es _,_⟩=>es.toList.all (λe=>(match e.key with
   |.str y _=>(kvs.map (·.1)).contains y
   |_=>false)&&!e.refKey)
 |_=>false)&&(decide ((kvs.map (·.1)).Nodup)&&kvs.all λq=>match PySem.W.nsIn K (He.ga K x) q.1 with
  |some (some (.ref a))=>Ds K a q.2
  |_=>false)
section
open PySem.W PySem.Calls
noncomputable abbrev aa6 (r:PySem.W.OpenRow) (M:Nat) (w:World) (os:PySem.OsState):Option PySem.W.SharedT:=endF (stepQ (denQ tabQ) r.prog w) M r.prog w os
def Ui(r:PySem.W.OpenRow)(q:Program)(as:List Addr)(ex:agw->Bool)(M:Nat)(loose:List Str)(w:World):Prop:=∀os,(aa6 r M w os).map (λs=>(looksF r.prog (boot_heap w.params) s.abs,HandSHeadRun.seenQ q loose (importedModules r.prog.main.body) (λs=>PySem.W.xlAt q [] s&&PySem.W.recOk r.toRowW.records s) s.abs,ex (He.frG (getT s) as)))=some (true,PySem.W.openGood q loose,true)
def S7(r:PySem.W.OpenRow)(as:List Addr)(fa:List He.Fa)(fn:List He.DefD)(tb:List He.Tab)(M:Nat)(w:World):Prop:=∀os,(aa6 r M w os).map (λs=>He.obsT fa fn tb (He.frG (getT s) as))=some (He.valT fn tb w)
theorem BZ{r:PySem.W.OpenRow}{q:Program}{as:List Addr}{fa:List He.Fa}{fn:List He.DefD}{tb:List He.Tab}{ex:agw->Bool}{M:Nat}{loose:List Str}{w:World}
  (a:Ui r q as ex M loose w) (c:S7 r as fa fn tb M w):RunEq r q (M5 as fa fn tb ex) (λs=>Mp as fa fn tb ex (getT s)) M loose w:=λos=>by
 obtain⟨s,hs,h1⟩:=agZ.mp (a os);obtain⟨h1,h2⟩:=Prod.mk.inj h1;obtain⟨h2,h4⟩:=Prod.mk.inj h2;have h3:=c os;have hs':endF (stepQ (denQ tabQ) r.prog w) M r.prog w os=some s:=hs;rw[hs,Option.map_some]at h3;have h3:=ag0 h3;rw[hs',Option.map_some];exact congrArg some (Prod.ext h1 (Prod.ext h2 (Prod.ext h3 h4)))
end
end Rf
namespace Pr
open PySem PySem.Spec PyProof.Rows L2 Evl Rf
def fO:Dat:=.int 9
def aX:Dat:=.tuple [.str "lt",.str "lf",.str "lh",.str "rt",.str "rf",.str "rh"]
def bM:Dat:=.int 999999999
def cZ:List (Str×List Str):=[("owner",[]),("ground",["number"]),("enrol",["number","number","ear"]),("leave",["number","number"]),("bring",["number","number","ear"]),("bear",["number"]),("cut",["number"]),("tear",["number","place"]),("sell",["number","number"]),("move",["number","number"]),("die",["number"]),("unite",["number","number"]),("part",["number"]),("pass",["number","number"]),("heir",["number","number","number"])]
def gG:Dat:=.str "none"
def dM:Dat:=.str "0123456789"
def cH:Dat:=.int 9
def jF:Dat:=.str "123456789"
def jB:Dat:=.tuple [.int 0,.int 0,.int 0,.int 0,.int 0,.int 0]
def Hf:Ft:=[]
def uF:List (Str×Bool):=[("BadDeed",false),("BadLine",false),("BadEar",true)]
def yS:List (Str×Bool):=[("BadDeed",false),("BadLine",true),("BadEar",false)]
def Vh:List (Str×List (Str×Bool)):=[("BadEar",uF),("BadLine",yS)]
def dfH:List (Str×Bool):=[]
def Nq:List (Str×List Str):=[]
def eU(i:Nat):Stmt:=PySem.Challenge.pw_earmarks_k30_lines_read.main.body.getD i (.Pass ⟨0,0,0,0⟩)
abbrev Gk:Stmt:=eU 11
abbrev vO:Stmt:=eU 21
abbrev Oz:Stmt:=eU 20
abbrev JM:Stmt:=eU 12
abbrev qX:Stmt:=eU 23
abbrev Cq:Stmt:=eU 22
abbrev QC:Stmt:=eU 30
abbrev v9:Stmt:=eU 40
abbrev GP:Stmt:=eU 39
abbrev Ku:Stmt:=eU 41
abbrev s_row:Stmt:=eU 31
abbrev Hh:Stmt:=eU 32
abbrev UJ:Stmt:=eU 33
abbrev Ju:Stmt:=eU 34
abbrev tD:Stmt:=eU 28
abbrev yV:Stmt:=eU 14
abbrev xR:Stmt:=eU 13
abbrev pA:Stmt:=eU 26
abbrev uG:Stmt:=eU 27
abbrev v7:Stmt:=eU 25
abbrev vU:Stmt:=eU 24
abbrev Ks:Stmt:=eU 37
abbrev xP:Stmt:=eU 38
abbrev JR:Stmt:=eU 42
abbrev Q6:Stmt:=eU 35
abbrev Qm:Stmt:=eU 36
abbrev vq:Stmt:=eU 43
abbrev dF(x:Str)(s:Stmt):He.DefD:=⟨(x,none),x,x,defArgs s,defBody s,defScope s,[],[]⟩
def Yc:List Str:=["BadDeed","BadLine","BadEar"]
def Oj:List He.Tab:=[(λK=>He.ga K "SHAPES",["owner","ground","enrol","leave","bring","bear","cut","tear","sell","move","die","unite","part","pass","heir"])]
def nm0:List PySem.Str:=["CommonError","BadEar","BadDeed","BadLine","PLACES","GREATEST_DEPTH","BARE_EAR","BARE_WORD","FIGURES_ears","is_ear","shown","read_ear"]
def nm1:List PySem.Str:=["read_cut","SHAPES","GREATEST_PART","MOST_FIGURES","FIGURES_deeds","fits","part_fits","written","part_written","read_deed","read_part","read_ear_part"]
def nm2:List PySem.Str:=["read_place","read_number","_law_cell","_law_row","_law_ear_by","_law_ear","_law_tuple","_law_sign","_law_word","_law_whole","_law_like","_law_ear_of"]
def nm3:List PySem.Str:=["_law_number_of","_law_meant","_law_piece"]
def nm:List PySem.Str:=nm0++nm1++nm2++nm3
def fa0:List He.Fa:=[.glo "is_ear",.glo "part_fits",.glo "fits",.glo "shown",.glo "part_written",.glo "written",.glo "_law_cell",.glo "_law_number_of",.glo "_law_ear_of",.glo "_law_meant",.glo "_law_row",.glo "_law_ear_by"]
def fa1:List He.Fa:=[.glo "_law_ear",.glo "_law_tuple",.glo "read_number",.glo "read_cut",.glo "read_ear",.glo "read_ear_part",.glo "read_place",.glo "read_part",.glo "read_deed",.glo "_law_whole",.glo "_law_like",.glo "_law_piece"]
def fa2:List He.Fa:=[.glo "_law_sign",.glo "_law_word",.glo "law",.glo "BadDeed",.exc "BadDeed",.glo "BadLine",.exc "BadLine",.glo "BadEar",.exc "BadEar",.glo "SHAPES",.int "GREATEST_DEPTH" 9,.glo "PLACES"]
def fa3:List He.Fa:=[.int "GREATEST_PART" 999999999,.str "BARE_WORD" "none",.str "FIGURES_deeds" "0123456789",.int "MOST_FIGURES" 9,.str "FIGURES_ears" "123456789",.glo "BARE_EAR",.free "all",.free "len",.free "isinstance",.free "int",.free "tuple",.free "zip"]
def fa4:List He.Fa:=[.free "str",.free "sum",.free "enumerate",.free "range",.free "abs",.free "max",.free "any",.free "list",.free "bool"]
def fa:List He.Fa:=fa0++fa1++fa2++fa3++fa4
def fn0:List He.DefD:=[dF "is_ear" Gk,dF "part_fits" vO,dF "fits" Oz,dF "shown" JM,dF "part_written" qX,dF "written" Cq,dF "_law_cell" QC,dF "_law_number_of" v9,dF "_law_ear_of" GP,dF "_law_meant" Ku,dF "_law_row" s_row,dF "_law_ear_by" Hh]
def fn1:List He.DefD:=[dF "_law_ear" UJ,dF "_law_tuple" Ju,dF "read_number" tD,dF "read_cut" yV,dF "read_ear" xR,dF "read_ear_part" pA,dF "read_place" uG,dF "read_part" v7,dF "read_deed" vU,dF "_law_whole" Ks,dF "_law_like" xP,dF "_law_piece" JR]
def fn2:List He.DefD:=[dF "_law_sign" Q6,dF "_law_word" Qm,dF "law" vq]
def fn:List He.DefD:=fn0++fn1++fn2
def N7(K:agw):Bool:=true&&uw K Hf&&xmB K Vh&&(Nq.all λp=>Yc.contains p.1&&KN K p.1 p.2)&&RQ K "SHAPES" cZ&&He.tupB K "PLACES" [.str "lt",.str "lf",.str "lh",.str "rt",.str "rf",.str "rh"]&&Ea K (He.ga K "PLACES")&&He.tupB K "BARE_EAR" [.int 0,.int 0,.int 0,.int 0,.int 0,.int 0]&&Ea K (He.ga K "BARE_EAR")
def ad0:List Addr:=[3,24,37,49,61,64,65,70,75,82,89,90,110,117,122,129,134,141,148,155,160,167,174,179]
def ad1:List Addr:=[186,193,200,205,212,219,226,233,240,247,252,23,36,48,60,69,74,81,88,91,92,93,94,95]
def ad2:List Addr:=[96,97,98,99,100,101,102,103,104,105,109,116,121,128,133,140,147,154,159,166,173,178,185,192]
def ad3:List Addr:=[199,204,211,218,225,232,239,246,251,22,25,35,47,59]
def ad:List Addr:=ad0++ad1++ad2++ad3
abbrev R:PySem.W.OpenRow:=PySem.W.OpenLaw.row PySem.Challenge.rw_earmarks_k30_lines_read
abbrev Vd:PySem.W.Hook:=M5 ad fa fn Oj N7
def U3(s:PySem.W.SharedT):He.AlX:=Mp ad fa fn Oj N7 (HandSHeadRun.getT s)
theorem aaN(s:PySem.W.SharedT):U3 s=Vd.obs s.abs:=W7 (HandSHeadRun.getT_eq s)
abbrev wR(w:World)(b:Bool):World:=w.withFollow "special-get-raises" b
theorem abJ(w:World):Ui R (PySem.W.view R.prog [43]) ad N7 40000 nm (wR w false):=by
 intro os
 kernel_rfl
theorem ab9(w:World):S7 R ad fa fn Oj 40000 (wR w false):=by
 intro os
 kernel_rfl
theorem runAt(w:World):Ui R (PySem.W.view R.prog [43]) ad N7 40000 nm (wR w true):=by
 intro os
 kernel_rfl
theorem acp(w:World):S7 R ad fa fn Oj 40000 (wR w true):=by
 intro os
 kernel_rfl
theorem run(w:World):HandSHeadRun.RunEq R (PySem.W.view R.prog [43]) Vd U3 40000 nm w:=PySem.W.byRow2 "special-get-raises" (P:=λw=>HandSHeadRun.RunEq R (PySem.W.view R.prog [43]) Vd U3 40000 nm w) (λw=>BZ (abJ w) (ab9 w)) (λw=>BZ (runAt w) (acp w)) w
end Pr
namespace Ear
open PySem PySem.Spec PyProof.Rows L2 Evl RZ
section
variable{X:Cx}{C:Addr}{bmB:List Value}{B newId initId:String}
theorem T6{x:Str}{p pos:Pos}(F:ExcBaseFacts B newId initId bmB)(q:PySem.W.excIn X.K C bmB newId=true)(gC:X.mg x=some (.ref C))(kC:PySem.W.keepIn X.K (.ref C)=true)(r:Raises X (.ref C))(hg:Gl X x)
  (hn:(x==("__debug__" : Str))=false:=by decide):PMk X (.Call (.Name x p) [] [] pos) (λ_ H Q=>Q (.ref C) none H):=by
 intro pins s σ H Q I h;refine wpAny_Call_Name_kw (ld_glob I hg gC ?_ hn);refine PySem.W.callWith_K0 I.kIn kC ?_;show wpAny _ _ (call (.ref C) []) _ _ _;obtain⟨bm,N,nm,qn,bs,hdct,sn,sub,ab,col,dd,k0,k1,k2,k3,k5,mN,hC,hN,hni,T⟩:=exc_obj I.kIn q;refine wpAny_call_exc_subT F T hC hN hni (λh' e hm=>?_) (agO _);exact mk_of I hm r h (I.hok.gone hm.new)
end
theorem exm_one{K:agw}{S:Addr}(h1:PySem.W.subIn K (.ref S) (.type "BaseException")=some true)(h2:PySem.W.isClsIn K S=true)(h3:PySem.W.typeIn K (.ref S)=some (.type "type"))(h4:PySem.W.subIn K (.ref S) (.ref S)=some true) :
  PySem.W.exmOne K (.ref S) (.ref S)=some true:=by
 have e1:(PySem.W.subIn K (.ref S) (.type "BaseException")==some true)=true:=by rw[h1]<;>rfl
 have e2:((PySem.W.clsIn K S).isSome&&PySem.W.typeIn K (.ref S)==some (.type "type"))=true:=by rw[h3,agx];exact⟨h2,rfl⟩
 show(if (PySem.W.subIn K (.ref S) (.type "BaseException")==some true)=true then(if ((PySem.W.clsIn K S).isSome&&PySem.W.typeIn K (.ref S)==some (.type "type"))=true then PySem.W.subIn K (.ref S) (.ref S) else none) else none)=some true
 rw[if_pos e1,if_pos e2];exact h4
def uP(xs:List Int):Prop:=xs.length=6/\∀x∈xs,0<=x/\x<=9
section
variable{K:agw}{σ:L2.St}{H:Hp}{te tl:TE}{tt:TT}{vs:List Nat}
def JW(te:TE)(σ:L2.St)(H:Hp)(P:V->Hp->Prop):Prop:=∀H1,Ex H H1->∀Q:VK,(∀v H2,Ex H1 H2->P v H2->Q v H2)->te σ H1 Q
end
section
variable{K:agw}{σ:L2.St}{H H':Hp}{te ta tb:TE}{t:TT}{P R:V->Hp->Prop}{v:V}
theorem JW.mono(e:Ex H H')(h:JW te σ H P):JW te σ H' P:=λH1 a Q q=>h H1 (e.trans a) Q q
theorem JW.imp(h:JW te σ H P)(k:∀v H',P v H'->R v H'):JW te σ H R:=λH1 e Q q=>h H1 e Q λv H2 e2 p=>q v H2 e2 (k v H2 p)
end
end Ear
namespace Ear
open PySem PySem.Spec PyProof.Rows L2 Evl RZ
def bG{α:Type}(R:V->α->Prop)(ws:List V)(L:List α):Prop:=ws.length=L.length/\∀(i:Nat) (v:V) (x:α),ws[i]?=some v->L[i]?=some x->R v x
theorem bG.imp{α:Type}{R S:V->α->Prop}{ws:List V}{L:List α}(h:bG R ws L)(k:∀v x,R v x->S v x):bG S ws L:=⟨h.1,λi v x a b=>k v x (h.2 i v x a b)⟩
theorem bG.nil{α:Type}{R:V->α->Prop}:bG R [] []:=⟨rfl,λi v x a _=>by simp at a⟩
theorem bG.snoc{α:Type}{R:V->α->Prop}{ws:List V}{L:List α}{v:V}{x:α}(h:bG R ws L)(k:R v x):bG R (ws++[v]) (L++[x]):=by
 refine⟨by rw[agH,agH,h.1];rfl,λi u y a b=>?_⟩;by_cases hi:i<ws.length
 .rw[agM hi]at a;rw[agM (by rw[<-h.1];exact hi)]at b;exact h.2 i u y a b
 .rw[agP (by omega)]at a;rw[agP (by rw[<-h.1];omega),<-h.1]at b;have hj:i-ws.length=0:=by
   have:=(agE.mp a).1;simp only[agC,List.length_nil]at this;omega
  rw[hj]at a b;cases a;cases b;exact k
def rZ(H:Hp)(v:V)(l:List Int):Prop:=∃h:Addr,v=.ref h/\H h=some (.tup (l.map V.int))
theorem rZ.mono{H H':Hp}(e:Ex H H'){v:V}{l:List Int}(h:rZ H v l):rZ H' v l:=by obtain⟨a,e1,h1⟩:=h;exact⟨a,e1,e _ _ h1⟩
theorem rZ.upd{H:Hp}{D:Addr}{acc:List V}{o:HO}(hD:H D=some (.lst acc)){v:V}{l:List Int}(h:rZ H v l):rZ (upd H D o) v l:=by obtain⟨a,e1,h1⟩:=h;refine⟨a,e1,?_⟩;rw[upd_ne (λz=>by rw[z,hD]at h1;cases h1)];exact h1
abbrev Rw:Type:=Int×List Int
def u5(H:Hp)(v:V)(r:Rw):Prop:=∃t m:Addr,v=.ref t/\H t=some (.tup [.int r.1,.ref m])/\H m=some (.tup (r.2.map V.int))
theorem u5.mono{H H':Hp}(e:Ex H H'){v:V}{r:Rw}(h:u5 H v r):u5 H' v r:=by obtain⟨t,m,e1,h1,h2⟩:=h;exact⟨t,m,e1,e _ _ h1,e _ _ h2⟩
theorem u5.upd{H:Hp}{D:Addr}{acc:List V}{o:HO}(hD:H D=some (.lst acc)){v:V}{r:Rw}(h:u5 H v r):u5 (upd H D o) v r:=by
 obtain⟨t,m,e1,h1,h2⟩:=h;refine⟨t,m,e1,?_,?_⟩
 .rw[upd_ne (λz=>by rw[z,hD]at h1;cases h1)];exact h1
 .rw[upd_ne (λz=>by rw[z,hD]at h2;cases h2)];exact h2
def abI(r:Rw):Prop:=1<=r.1/\uP r.2
structure Tab(R:List Rw):Prop where
 len:R.length<=128
 ok:∀r∈R,abI r
 few:∃D:List Rw,D.length<=64/\∀r∈R,r∈D
theorem Tab.sub{R S:List Rw}(h:Tab R)(hs:∀r∈S,r∈R)(hl:S.length<=128):Tab S:=by obtain⟨D,d1,d2⟩:=h.few;exact⟨hl,λr hr=>h.ok r (hs r hr),D,d1,λr hr=>d2 r (hs r hr)⟩
theorem bG.get{α:Type}{R:V->α->Prop}{ws:List V}{L:List α}(h:bG R ws L){i:Nat}{v:V}(g:ws[i]?=some v):∃x,L[i]?=some x/\R v x:=by
 have hi:=(agE.mp g).1;have hi':i<L.length:=by rw[<-h.1];exact hi
 exact⟨L[i],agD hi',h.2 i v _ g (agD hi')⟩
theorem bG.mem{α:Type}{R:V->α->Prop}{ws:List V}{L:List α}(h:bG R ws L){v:V}(m:v∈ws):∃x,x∈L/\R v x:=by obtain⟨i,hi,e⟩:=List.getElem_of_mem m;obtain⟨x,g,r⟩:=h.get (agE.mpr ⟨hi,e⟩);exact⟨x,agT g,r⟩
theorem bG.take{α:Type}{R:V->α->Prop}{ws:List V}{L:List α}(h:bG R ws L)(n:Nat):bG R (ws.take n) (L.take n):=by
 refine⟨by rw[List.length_take,List.length_take,h.1],λi v x a b=>?_⟩;rw[List.getElem?_take]at a b;by_cases c:i<n
 .rw[if_pos c]at a b;exact h.2 i v x a b
 .rw[if_neg c]at a;cases a
theorem bG.drop{α:Type}{R:V->α->Prop}{ws:List V}{L:List α}(h:bG R ws L)(n:Nat):bG R (ws.drop n) (L.drop n):=by refine⟨by rw[ag3,ag3,h.1],λi v x a b=>?_⟩;rw[List.getElem?_drop]at a b;exact h.2 _ v x a b
theorem bG.app{α:Type}{R:V->α->Prop}{ws us:List V}{L M:List α}(h:bG R ws L)(k:bG R us M):bG R (ws++us) (L++M):=by
 refine⟨by rw[agH,agH,h.1,k.1],λi v x a b=>?_⟩;by_cases hi:i<ws.length
 .rw[agM hi]at a;rw[agM (by rw[<-h.1];exact hi)]at b;exact h.2 i v x a b
 .rw[agP (by omega)]at a;rw[agP (by rw[<-h.1];omega),<-h.1]at b;exact k.2 _ v x a b
section
variable{X:Cx}
def Tq(xs:List V)(ds:List PyData)(x:V)(d:PyData):Prop:=∃i:Nat,xs[i]?=some x/\ds[i]?=some d
@[irreducible]def rQ (K:agw):List V->Hp->VK->Prop:=λvs H Q=>∃(a:Addr) (xs:List V) (ds:List PyData),vs=[V.ref a]/\SqL K H a xs/\DpAll K H xs ds/\PySem.W.AllAlike ds/\PySem.W.Sortable ds/\(∀d∈ds,d.depth<=60)/\
 ∀(ys:List V) (p:Addr),bG (Tq xs ds) ys (ds.mergeSort (PySem.W.dataLe false id))->H p=none->Q (.ref p) (upd H p (.lst ys))
theorem HF:∀(xs:List V) (ds:List PyData) (its:List Value) (P:Value->PyData->Prop),Vals xs its->PySem.W.EachIs P its ds->
  PySem.W.EachIs (λv d=>∃(i:Nat) (x:V),RelV x v/\xs[i]?=some x/\ds[i]?=some d) its ds
 |[],_,_,_,.nil,.nil=>.nil
 |_::_,[],_,_,.cons _ _,k=>nomatch k
 |x::xs,d::ds,u::us,P,.cons r t,.cons _ k=>.cons ⟨0,x,r,rfl,rfl⟩ ((HF xs ds us P t k).mono λv d ⟨i,y,a,b,c⟩=>⟨i+1,y,a,b,c⟩)
theorem Bw{xs:List V}{ds:List PyData}:∀(out:List Value) (L:List PyData),PySem.W.EachIs (λv d=>∃(i:Nat) (x:V),RelV x v/\xs[i]?=some x/\ds[i]?=some d) out L->∃ys,Vals ys out/\bG (Tq xs ds) ys L
 |[],[],.nil=>⟨[],.nil,bG.nil⟩
 |v::out,d::L,.cons ⟨i,x,r,a,b⟩ k=>by
  obtain⟨ys,h1,h2⟩:=Bw out L k;refine⟨x::ys,.cons r h1,by rw[agC,agC,h2.1],λj u y g1 g2=>?_⟩;cases j with
  |zero=>
   cases g1;cases g2;exact⟨i,a,b⟩
  |succ j=>exact h2.2 j u y g1 g2
theorem M8(hu:X.A.units+65<cLine):CallR X (.builtin "sorted") (rQ X.K):=by
 intro pins s σ H vs us Q I r h;unfold rQ at h;obtain⟨a,xs,ds,rfl,hs,hd,hal,hk,hz,q⟩:=h;obtain⟨u,rfl,ru⟩:=vals1 r
 obtain rfl:u=Value.ref a:=ru
 obtain⟨its,rv,hl,hsz⟩:=I.list hs;obtain⟨as,hr⟩:=Dp.readsAll I ds xs its hd rv;have er:PySem.W.EachIs (λv d=>∃as,Reads s.heap v (id d) as) its ds:=PySem.W.readsAll_each id (by rw[List.map_id];exact hr);have hn:=SeqAt.ReadsAll.length ds its as hr;have hl2:=rv.length;refine PySem.W.sorted_data (enc:=id) hl.isList (HF xs ds its _ rv er) er (by rw[List.map_id];exact hal) (by rw[List.map_id];exact hk) (by omega) (λd m=>?_) λout hlen hout=>?_
 .have:=hz d m;show X.A.units+2+d.depth<cLine;omega
 .obtain⟨ys,v1,v2⟩:=Bw out _ hout;obtain⟨ep,he'⟩:=PyProof.Rows.sortedAll_at s.heap its out.toArray;have hy:ys.length=ds.length:=by
   rw[v2.1,List.length_mergeSort]
  refine⟨.ref _,upd H (s.heap.objs.size+1) (.lst ys),I.laid (t':=s.toks) (λ_ _=>PyProof.Rows.sortedAll_old) (Nat.le_succ _) ⟨by omega,out,ep,v1,by simpa using he'⟩,rfl,q ys _ v2 (I.hok.fresh (Nat.le_succ _))⟩
end
@[irreducible]def yM (K:agw):R2:=λx y H Q=>∃d e:PyData,Dp K H x d/\Dp K H y e/\PySem.W.alike d e=true/\d≠.none/\d.depth<=60/\Q (.bl (PySem.W.dataLt d e)) H
theorem Tn{X:Cx}(hu:X.A.units+65<cLine):OpR X (compareOp .Lt) (yM X.K):=by intro pins s σ H x y v u Q I rx ry h;unfold yM at h;obtain⟨d,e,hd,he,ha,hn,hz,q⟩:=h;obtain⟨as,r1⟩:=Dp.reads I d x v hd rx;obtain⟨bs,r2⟩:=Dp.reads I e y u he ry;exact PySem.W.lt_data r1 r2 ha hn (by omega) ⟨.bl _,H,I,rfl,q⟩
def Za(te:TE)(σ:L2.St)(H:Hp)(P:List V->Hp->Prop):Prop:=∀H1,Ex H H1->∀Q:VK,(∀p H2 us,H1 p=none->Ex H1 H2->H2 p=some (.lst us)->P us H2->Q (.ref p) H2)->te σ H1 Q
structure aa1{α:Type}(Rel:Hp->V->α->Prop):Prop where
 mono:∀{H H':Hp} {v:V} {x:α},Ex H H'->Rel H v x->Rel H' v x
 upd:∀{H:Hp} {D:Addr} {acc:List V} {o:HO} {v:V} {x:α},H D=some (.lst acc)->Rel H v x->Rel (upd H D o) v x
theorem bG.mono{α:Type}{Rel:Hp->V->α->Prop}(S:aa1 Rel){H H':Hp}(e:Ex H H'){ws:List V}{L:List α}(h:bG (Rel H) ws L):bG (Rel H') ws L:=h.imp λ_ _ r=>S.mono e r
theorem bG.upd{α:Type}{Rel:Hp->V->α->Prop}(S:aa1 Rel){H:Hp}{D:Addr}{acc:List V}{o:HO}(hD:H D=some (.lst acc)){ws:List V}{L:List α}(h:bG (Rel H) ws L):bG (Rel (upd H D o)) ws L:=h.imp λ_ _ r=>S.upd hD r
section
variable{K:agw}{σ:L2.St}{H:Hp}{te tl:TE}{tt:TT}{vs:List Nat}{α:Type}
theorem Za.imp{P R:List V->Hp->Prop}(h:Za te σ H P)(k:∀us H',P us H'->R us H'):Za te σ H R:=λH1 e Q q=>h H1 e Q λp H2 us n a b c=>q p H2 us n a b (k us H2 c)
end
theorem Ek:∀a b:List Int,PyData.eqvAll (a.map PyData.int) (b.map PyData.int)=decide (a=b)
 |[],[]=>by rw[aho,PyData.eqvAll];rfl
 |[],y::ys=>by rw[aho,agy,PyData.eqvAll];rfl
 |x::xs,[]=>by rw[aho,agy,PyData.eqvAll];rfl
 |x::xs,y::ys=>by
  rw[agy,agy,PyData.eqvAll,Ek xs ys,PyData.eqv,ahh];simp
def dT(l:List Int):PyData:=.tuple (l.map PyData.int)
theorem lay_ints:∀l:List Int,PyData.canLayAll0 (l.map PyData.int)=true/\PyData.depthAll (l.map PyData.int)=0
 |[]=>⟨by rw[aho,PyData.canLayAll0],by rw[aho,PyData.depthAll]⟩
 |x::xs=>by
  have ih:=lay_ints xs;refine⟨?_,?_⟩
  .rw[agy,PyData.canLayAll0,PyData.canLay0,ih.1];rfl
  .rw[agy,PyData.depthAll,PyData.depth,ih.2];rfl
def rD(r:Rw):PyData:=.tuple [.int r.1,dT r.2]
theorem Pa(r:Rw):(rD r).canLay0=true/\(rD r).depth=2:=by
 have h:=lay_ints r.2;unfold rD dT;refine⟨?_,?_⟩
 .rw[PyData.canLay0,PyData.canLayAll0,PyData.canLayAll0,PyData.canLayAll0,PyData.canLay0,PyData.canLay0,h.1];rfl
 .rw[PyData.depth,PyData.depthAll,PyData.depthAll,PyData.depthAll,PyData.depth,PyData.depth,h.2];rfl
def rk(r:Rw):List Int:=r.1::r.2
theorem Pn:PySem.W.rowLt [] []=false:=PyProof.Rows.lex_irrefl _
theorem WL(l m:List Int):PySem.W.rowLt [dT l] [dT m]=decide (l<m):=by
 have al:PySem.W.alike (dT l) (dT m)=true:=by unfold dT;rw[PySem.W.alike];exact PySem.W.alike_ints l m
 have ev:PyData.eqv (dT l) (dT m)=decide (l=m):=by unfold dT;rw[PyData.eqv,Ek]
 have h:PySem.W.rowLt [dT l] [dT m]=if PyData.eqv (dT l) (dT m)=true then PySem.W.rowLt [] [] else PySem.W.dataLt (dT l) (dT m):=PySem.W.dataLt_cons al [] []
 rw[h,ev,Pn];by_cases c:l=m
 .rw[if_pos (decide_eq_true c),c];exact(decide_eq_false (List.lt_irrefl _)).symm
 .rw[if_neg (by rw[ahu];exact c)];show PySem.W.dataLt (.tuple (l.map PyData.int)) (.tuple (m.map PyData.int))=_;rw[PySem.W.dataLt_tuple];exact PySem.W.dataLt_ints l m
theorem Jg(x y:Int)(ds es:List PyData)(l m:List Int)(h:PySem.W.rowLt ds es=decide (l<m)):PySem.W.rowLt (.int x::ds) (.int y::es)=decide (x::l<y::m):=by
 have al:PySem.W.alike (.int x) (.int y)=true:=by rw[PySem.W.alike]
 have h2:PySem.W.rowLt (.int x::ds) (.int y::es)=if PyData.eqv (.int x) (.int y)=true then PySem.W.rowLt ds es else PySem.W.dataLt (.int x) (.int y):=PySem.W.dataLt_cons al ds es
 rw[h2,h,PySem.W.dataLt_int,PyData.eqv];by_cases c:x=y
 .subst c;rw[if_pos (by simp),ahh,ahu,ahu,List.cons_lt_cons_iff];constructor
  .exact λk=>Or.inr ⟨rfl,k⟩
  .rintro(k|k)
   .omega
   .exact k.2
 .rw[if_neg (by simpa using c),ahh,ahu,ahu,List.cons_lt_cons_iff];constructor
  .exact Or.inl
  .rintro(k|k)
   .exact k
   .exact absurd k.1 c
theorem Z7(a b:Rw):PySem.W.dataLt (rD a) (rD b)=decide (rk a<rk b):=by unfold rD;rw[PySem.W.dataLt_tuple];exact Jg _ _ _ _ _ _ (WL a.2 b.2)
theorem Bu(a b:Rw):PySem.W.alike (rD a) (rD b)=true:=by unfold rD dT;rw[PySem.W.alike,PySem.W.alikeAll,PySem.W.alikeAll,PySem.W.alike,PySem.W.alike,PySem.W.alike_ints,PySem.W.alikeAll];rfl
theorem bG.map{α β:Type}{P:V->β->Prop}(f:α->β){ws:List V}{L:List α}(h:bG (λv x=>P v (f x)) ws L):bG P ws (L.map f):=by refine⟨by rw[agB,h.1],λi v x a b=>?_⟩;rw[agS]at b;obtain⟨y,hy,e⟩:=agZ.mp b;rw[<-e];exact h.2 i v y a hy
theorem Ow{a b:Rw}(h:rk a=rk b):a=b:=by unfold rk at h;injection h with h1 h2;exact Prod.ext h1 h2
def JN(S:List Rw):Prop:=S.Pairwise λa b=>rk a<rk b
theorem Qn:∀{S T:List Rw},JN S->JN T->(∀r,r∈S↔r∈T)->S=T
 |[],[],_,_,_=>rfl
 |[],t::T,_,_,h=>absurd ((h t).mpr agA) (by simp)
 |s::S,[],_,_,h=>absurd ((h s).mp agA) (by simp)
 |s::S,t::T,hs,ht,h=>by
  obtain⟨hs1,hs2⟩:=List.pairwise_cons.mp hs;obtain⟨ht1,ht2⟩:=List.pairwise_cons.mp ht;have e:s=t:=by
   rcases agI.mp ((h s).mp agA) with e|m
   .exact e
   .rcases agI.mp ((h t).mpr agA) with e2|m2
    .exact e2.symm
    .exact absurd (ht1 s m) (List.lt_asymm (hs1 t m2))
  subst e;have hn:∀{L:List Rw},(∀r∈L,rk s<rk r)->s∉L:=λhL m=>List.lt_irrefl _ (hL s m);rw[Qn hs2 ht2 λr=>?_];constructor
  .intro m;rcases agI.mp ((h r).mp (agz _ m)) with e|m2
   .rw[e]at m;exact absurd m (hn hs1)
   .exact m2
  .intro m;rcases agI.mp ((h r).mpr (agz _ m)) with e|m2
   .rw[e]at m;exact absurd m (hn ht1)
   .exact m2
theorem uW(a b:Rw):PySem.W.dataLe false rD a b=decide (rk a<=rk b):=by
 show(!PySem.W.dataLt (rD b) (rD a))=_
 rw[Z7,ahh,agG,decide_eq_false_iff_not,ahu];exact List.not_lt
theorem NP{α β:Type}{R:α->β->Prop}{as cs:List α}(p:as.Perm cs):∀{bs:List β},PySem.W.EachIs R as bs->∃ds,ds.Perm bs/\PySem.W.EachIs R cs ds:=by
 induction p with
 |nil=>
  intro bs h;cases h;exact⟨[],List.Perm.refl _,.nil⟩
 |cons x _ ih=>
  intro bs h;cases h with
  |cons r t=>
   obtain⟨ds,h1,h2⟩:=ih t;exact⟨_::ds,h1.cons _,.cons r h2⟩
 |swap x y l=>
  intro bs h;cases h with
  |cons r t=>
   cases t with
   |cons r2 t2=>exact⟨_,List.Perm.swap _ _ _,.cons r2 (.cons r t2)⟩
 |trans _ _ ih1 ih2=>
  intro bs h;obtain⟨ds,a1,a2⟩:=ih1 h;obtain⟨es,b1,b2⟩:=ih2 a2;exact⟨es,b1.trans a1,b2⟩
section
variable{P:Program}{w:World}{A:Around}{E:Value->Shared->Prop}{s:Shared}
theorem Je{β:Type}{a:Addr}{es:Array (Int×Value)}{ep:Nat}{t:SetTable}{enc:β->PyData}{bs:List β}{R:Value->β->Prop}{Q:Value->Shared->Prop}(hh:A.handled=none)(ha:SetAt s.heap a es ep t)(hf:t.fits es.size=true)(hsz:es.size<scanBound)(hr:Ris t.place.toList)
  (hl:w.params.followText "set-order"=true\/t.led=true) (e:PySem.W.EachIs (λv b=>R v b/\∃as,Reads s.heap v (enc b) as) (es.toList.map (·.2)) bs) (hal:PySem.W.AllAlike (bs.map enc)) (hk:PySem.W.Sortable (bs.map enc)) (hu:∀b∈bs,A.units+2+(enc b).depth<cLine)
  (hQ:∀(s':Shared) (p:Addr) (out:List Value) (c:Nat) (cs:List β),(∀b o,s.heap.get? b=some o->s'.heap.get? b=some o)->s'.gens=s.gens->s'.os=s.os->s.heap.objs.size<=p->s'.heap.get? p=some (seqObj "list" out.toArray c)->
   cs.Perm bs->PySem.W.EachIs R out (cs.mergeSort (PySem.W.dataLe false enc))->Q (.ref p) s') :
  wpAny (model P w) A (call (.builtin "sorted") [.ref a]) Q E s:=by
 refine Calls.call_function_entry kind_sorted plain_sorted entry_sorted (args_sorted1 _) ?_;unfold Builtin.«sorted»;refine wpAny_bind (m:=checkCount "sorted" 1 1 _) (wpAny_pure ?_)
 refine wpAny_bind (collect_set (A:=A.in1) hh ha hf hsz hr hl λt1 vals kept grown g1 o1 pm=>?_);obtain⟨cs,pc,ec⟩:=NP pm.symm e;have lc:vals.length=cs.length:=ec.length;have lb:cs.length=bs.length:=pc.length_eq;have lz:vals.length<=sizeLine:=by rw[pm.length_eq,agB,agX,sizeLine_eq];unfold scanBound at hsz;omega
 refine wpAny_bind (wpAny_newList ?_ lz);have here:(t1.heap.push (seqObj "list" vals.toArray 0)).get? t1.heap.objs.size=some (seqObj "list" vals.toArray 0):=Heap.get?_push_size _ rfl
 have stays:∀b o,s.heap.get? b=some o->(t1.heap.push (seqObj "list" vals.toArray 0)).get? b=some o:=λb o q=>Heap.get?_push_of_some _ (kept b o q)
 have al:PySem.W.AllAlike (cs.map enc):=λd hd d' hd'=>hal d ((pc.map enc).mem_iff.mp hd) d' ((pc.map enc).mem_iff.mp hd');have sk:PySem.W.Sortable (cs.map enc):=by
  rcases hk with k|k
  .exact .inl λd hd=>k d ((pc.map enc).mem_iff.mp hd)
  .exact .inr λd hd=>k d ((pc.map enc).mem_iff.mp hd)
 refine wpAny_bind (wpAny_holding (PySem.W.list_sort_data (s:={ t1 with heap:=t1.heap.push (seqObj "list" vals.toArray 0) }) (enc:=enc) here (ec.mono λv b h=>h.1) (ec.mono λv b ⟨_,as,r⟩=>⟨as,PySem.W.reads_keeps stays r,λm=>?rd⟩) al sk (by omega) (λb hb=>?un) λout lo eo=>?fin))
 case rd=>
  obtain⟨o,q⟩:=PyProof.On.reads_mem_get r _ m;have hlt:t1.heap.objs.size<s.heap.objs.size:=Heap.lt_size q;exact absurd grown (Nat.not_le_of_lt hlt)
 case fin=>
  obtain⟨c,hc⟩:=sortedHeap_at (vs:=vals) (out:=out.toArray) here;refine wpAny_pure ⟨_,rfl,hQ _ t1.heap.objs.size out c cs (λb o q=>?_) g1 o1 grown hc pc eo⟩;have hlt:=Heap.lt_size (kept b o q)
  show(sortedHeap (t1.heap.push (seqObj "list" vals.toArray 0)) t1.heap.objs.size vals out.toArray).get? b=some o
  rw[sortedHeap_old (ag4 hlt) (by rw[size_push'];exact ahf hlt)];exact stays b o q
 case un=>
  have:=hu b (pc.mem_iff.mp hb);show A.in1.units+1+_<_;have e1:A.in1.units=A.units+1:=rfl;omega
def nk(r:Rw):NestedKey:=.tup [.num r.1,.tup (r.2.map .num)]
theorem Hr:∀a b:List Int,a.map NestedKey.num=b.map NestedKey.num->a=b
 |[],[],_=>rfl
 |[],_::_,h=>by cases h
 |_::_,[],h=>by cases h
 |x::a,y::b,h=>by
  rw[agy,agy]at h;injection h with h1 h2;injection h1 with h1;rw[h1,Hr a b h2]
theorem OJ{a b:Rw}(h:nk a=nk b):a=b:=by unfold nk at h;injection h with h;injection h with h1 h;injection h with h2 _;injection h1 with h1;injection h2 with h2;exact Prod.ext h1 (Hr _ _ h2)
theorem yu:∀l:List Int,NestedKey.depthAll (l.map .num)=0
 |[]=>by rw[aho,NestedKey.depthAll]
 |x::l=>by
  rw[agy,NestedKey.depthAll,NestedKey.depth,yu l];rfl
theorem Rr(r:Rw):(nk r).depth=2:=by unfold nk;rw[NestedKey.depth,NestedKey.depthAll,NestedKey.depthAll,NestedKey.depthAll,NestedKey.depth,NestedKey.depth,yu];rfl
def fW(P:Program)(w:World):HeapKind P w Rw where
 is:=λh r a=>(nestedKind P w).is h (nk r) a
 hash:=λr=>(nestedKind P w).hash (nk r)
 draws:=λr=>(nestedKind P w).draws (nk r)
 room:=(nestedKind P w).room
 inj:=λhx hy=>OJ ((nestedKind P w).inj hx hy)
 keeps:=λx ho hd hs=>(nestedKind P w).keeps x ho hd hs
 pyHash:=λhu hk h=>(nestedKind P w).pyHash hu hk h
 eqBool:=λ{A E s x y a b Q} hu hx hy h=>(nestedKind P w).eqBool hu hx hy (by
  have e:decide (nk x=nk y)=decide (x=y):=by rw[decide_eq_decide];exact⟨OJ,λh=>by rw[h]⟩
  rw[e];exact h)
 quiet:=λhk h=>(nestedKind P w).quiet hk h
abbrev RI(h:Heap)(r:Rw)(a:Addr):Prop:=NestedIs h (nk r) (.ref a)/\(nk r).depth<=8
theorem zP{h h':Heap}{r:Rw}{a:Addr}(x:RI h r a)(k:∀c o,h.get? c=some o->h'.get? c=some o):RI h' r a:=⟨NestedIs.at (λb o _ _ e _=>k b o e) _ _ x.1,x.2⟩
theorem Hg{h h':Heap}{r:Rw}{a d:Addr}{o:Obj}{es:Array (Int×Value)}{ep:Nat}{t:SetTable}(x:RI h r a)(ho:h.get? d=some o)(hd:o.data=.set es ep t)(sb:Heap.SameBut d h h'):RI h' r a:=by
 refine⟨NestedIs.at (λb ob vs n hb hc=>(sb.2 b λe=>?_).trans hb) _ _ x.1,x.2⟩;subst e
 obtain rfl:ob=o:=ag0 (hb.symm.trans ho)
 rw[hd]at hc;cases hc
theorem qZ{h:Heap}{i:Int}{v:Value}(x:NestedIs h (.num i) v)(n:Nat):ofAClassStatement n v=pure false/\hashByValue n v=pure true:=by
 cases x with
 |bool _=>cases n<;>exact⟨rfl,rfl⟩
 |int _ t=>cases n<;>exact⟨rfl,rfl⟩
theorem DQ{h:Heap}:∀(l:List Int) (vs:List Value),NestedAll h (l.map .num) vs->∀v∈vs,∃i,NestedIs h (.num i) v
 |[],_,x,v,hv=>by
  cases x;cases hv
 |i::l,_,x,v,hv=>by
  rw[agy]at x;cases x with
  |cons x1 x2=>
   rcases agI.mp hv with e|hv
   .exact⟨i,by rw[e];exact x1⟩
   .exact DQ l _ x2 v hv
theorem Jo{n:Nat}{a:Addr}{o:Obj}{vs:Array Value}{m:Nat}(ho:s.heap.get? a=some o)(hc:o.cls=.type "tuple")(hd:o.data=.seq vs m)(hq:∀v∈vs.toList,∀(E:Value->Shared->Prop) (Q:Bool->Shared->Prop),Q false s->wpAny (model P w) A (ofAClassStatement n v) Q E s){Q:Bool->Shared->Prop}(q:Q false s) :
  wpAny (model P w) A (ofAClassStatement (n+1) (.ref a)) Q E s:=by
 have hT:s.TypeIs (.ref a) "tuple":=⟨o,ho,hc⟩
 unfold ofAClassStatement;refine wpAny_bind (wpAny_typeOf hT ?_)
 dsimp only
 have eq1:(("tuple" : String)=="tuple")=true:=by decide
 simp only[eq1,if_true,Bool.not_true,agV,if_false]
 try refine wpAny_bind (wpAny_pure ?_)
 try simp only[Bool.not_true,agV,if_false]
 refine wpAny_bind (wpAny_seqItems ho hd ?_)
 dsimp only
 refine wpAny_bind ?_;rw[<-Array.forIn_toList];refine wpAny_forIn_list _ (λleft r u=>r.1=none/\u=s/\∀v∈left,v∈vs.toList) _ ?_ ?_ _ _ ⟨rfl,rfl,λv hv=>hv⟩
 .rintro v left r u ⟨hr,rfl,hall⟩;refine wpAny_bind (hq v (hall v agA) _ _ ?_);simp only[agV,if_false];exact wpAny_pure ⟨rfl,rfl,λy hy=>hall y (agz _ hy)⟩
 .rintro⟨r1,r2⟩ u ⟨hr,rfl,_⟩;simp only at hr;subst hr;exact wpAny_pure q
theorem DG{n:Nat}{a:Addr}{o:Obj}{vs:Array Value}{m:Nat}(ho:s.heap.get? a=some o)(hc:o.cls=.type "tuple")(hd:o.data=.seq vs m)(hq:∀v∈vs.toList,∀(E:Value->Shared->Prop) (Q:Bool->Shared->Prop),Q true s->wpAny (model P w) A (hashByValue n v) Q E s){Q:Bool->Shared->Prop}(q:Q true s) :
  wpAny (model P w) A (hashByValue (n+1) (.ref a)) Q E s:=by
 have hT:s.TypeIs (.ref a) "tuple":=⟨o,ho,hc⟩
 unfold hashByValue;refine wpAny_bind (wpAny_specialOf hT PySem.F.slot_tuple_hash.lookup ?_);show wpAny _ _ (seqItems? (.ref a) >>= _) _ _ s;refine wpAny_bind (wpAny_seqItems ho hd ?_);refine wpAny_bind ?_;show wpAny _ _ (forIn vs _ _) _ _ s;rw[<-Array.forIn_toList];refine wpAny_forIn_list _ (λleft r u=>r.1=none/\u=s/\∀v∈left,v∈vs.toList) _ ?_ ?_ _ _ ⟨rfl,rfl,λv hv=>hv⟩
 .rintro v left r u ⟨hr,rfl,hall⟩;refine wpAny_bind (hq v (hall v agA) _ _ ?_);simp only[Bool.not_true,agV,if_false];exact wpAny_pure ⟨rfl,rfl,λy hy=>hall y (agz _ hy)⟩
 .rintro⟨r1,r2⟩ u ⟨hr,rfl,_⟩;simp only at hr;subst hr;exact wpAny_pure q
theorem rW{r:Rw}{a:Addr}(x:RI s.heap r a):(∀{Q:Bool->Shared->Prop},Q false s->wpAny (model P w) A (ofAClassStatement 8 (.ref a)) Q E s)/\∀{Q:Bool->Shared->Prop},Q true s->wpAny (model P w) A (hashByValue 8 (.ref a)) Q E s:=by
 obtain⟨x,_⟩:=x;unfold nk at x;cases x with
 | @tup _ o vs m _ ho hc hd x=>
  have items:∀v∈vs.toList,(∃i,NestedIs s.heap (.num i) v)\/∃b,v=.ref b/\∃o us k,s.heap.get? b=some o/\o.cls=.type "tuple"/\o.data=.seq us k/\∀u∈us.toList,∃i,NestedIs s.heap (.num i) u:=by
   generalize vs.toList=l at x;cases x with
   |cons x1 x=>
    cases x with
    |cons x2 x=>
     cases x;intro v hv;rcases agI.mp hv with e|hv
     .exact Or.inl ⟨_,by rw[e];exact x1⟩
     .have e:=agJ.mp hv;cases x2 with
      |tup k1 k2 k3 k4=>exact Or.inr ⟨_,e,_,_,_,k1,k2,k3,DQ _ _ k4⟩
  refine⟨λq=>Jo ho hc hd (λv hv E' Q' q'=>?_) q,λq=>DG ho hc hd (λv hv E' Q' q'=>?_) q⟩
  .rcases items v hv with⟨i,y⟩|⟨b,rfl,o',us,k,k1,k2,k3,k4⟩
   .rw[(qZ y 7).1];exact wpAny_pure q'
   .refine Jo k1 k2 k3 (λu hu E2 Q2 q2=>?_) q';obtain⟨i,y⟩:=k4 u hu;rw[(qZ y 6).1];exact wpAny_pure q2
  .rcases items v hv with⟨i,y⟩|⟨b,rfl,o',us,k,k1,k2,k3,k4⟩
   .rw[(qZ y 7).2];exact wpAny_pure q'
   .refine DG k1 k2 k3 (λu hu E2 Q2 q2=>?_) q';obtain⟨i,y⟩:=k4 u hu;rw[(qZ y 6).2];exact wpAny_pure q2
end
abbrev Ent:Type:=Addr×Rw
section
variable{P:Program}{w:World}{A:Around}{E:Value->Shared->Prop}{s:Shared}
def ents(hf:Rw->Int)(L:List Ent):List (Int×Value):=L.map λp=>(hf p.2,Value.ref p.1)
structure iJ(hf:Rw->Int)(w:World)(h:Heap)(a:Addr)(L:List Ent)(es:Array (Int×Value))(ep:Nat)(t:SetTable):Prop where
 ob:∃o,h.get? a=some o/\o.ExactSet/\o.data=.set es ep t
 en:es.toList=ents hf L
 tab:TabOk t (L.map λp=>hf p.2)
 nd:(L.map Prod.snd).Nodup
 ky:∀p∈L,RI h p.2 p.1
 pl:t.plain=true
 ld:w.params.followText "set-order"=true\/t.led=true
 free:L.length*5<t.mask*3
 few:L.length<=76
variable{hf:Rw->Int}{a:Addr}{L:List Ent}{es:Array (Int×Value)}{ep:Nat}{t:SetTable}
theorem lX(h:es.toList=ents hf L):es.size=L.length:=by rw[<-agX,h];exact agB _
theorem u6(h:es.toList=ents hf L){i:Nat}{p:Ent}(g:L[i]?=some p):es[i]?=some (hf p.2,Value.ref p.1):=by rw[<-ahd,h];unfold ents;rw[agS,g];rfl
theorem fits_of(h1:t.place.size=es.size)(h2:t.dummies=#[])(h3:es.size<=t.mask):t.fits es.size=true:=by unfold SetTable.fits SetTable.fill;rw[h2,agx,beq_iff_eq,ahu];exact⟨h1,by show t.place.size+0<=t.mask;omega⟩
theorem iJ.fits(R:iJ hf w s.heap a L es ep t):t.fits es.size=true:=by have l1:=lX R.en;have l2:=R.tab.sz;rw[agB]at l2;have l3:=R.free;exact fits_of (by omega) R.tab.dm (by omega)
theorem iJ.sound(R:iJ hf w s.heap a L es ep t):¬t.gaveWay=true:=by unfold SetTable.gaveWay;rw[mask_odd R.tab.mok];decide
theorem aaR{r:Rw}{b:Addr}{Q:Bool->Shared->Prop}(hx:RI s.heap r b){ys:List Value}(hy:∀y∈ys,∃q c,y=Value.ref c/\RI s.heap q c)(q:Q false s):wpAny (model P w) A (searchCouldBeSeen (.ref b) ys) Q E s:=by
 unfold searchCouldBeSeen;refine wpAny_bind ?_;refine wpAny_forIn_list _ (λleft r u=>r.1=none/\u=s/\∀y∈left,∃q c,y=Value.ref c/\RI s.heap q c) _ ?_ ?_ _ _ ⟨rfl,rfl,hy⟩
 .rintro v left r u ⟨hr,rfl,hall⟩;obtain⟨q',c,rfl,hc⟩:=hall v agA;have more:∀y∈left,∃q c,y=Value.ref c/\RI u.heap q c:=λy m=>hall y (agz _ m)
  dsimp only
  by_cases hv:(b==c || (carriedByValue (.ref b)&&carriedByValue (.ref c)))=true
  .exact wp_if_pos hv (wpAny_pure ⟨rfl,rfl,more⟩)
  .refine wp_if_neg hv ?_;refine wpAny_bind ((fW P w).quiet hx ?_);simp only[Bool.not_true,agV,if_false];refine wpAny_bind ((fW P w).quiet hc ?_);simp only[Bool.not_true,agV,if_false];refine wpAny_bind ((rW hx).1 ?_);simp only[agV,if_false];refine wpAny_bind ((rW hc).1 ?_);simp only[agV,if_false];exact wpAny_pure ⟨rfl,rfl,more⟩
 .rintro⟨r1,r2⟩ u ⟨hr,rfl,_⟩;simp only at hr;subst hr;exact wpAny_pure q
abbrev jG(m:Nat)(h:Int)(c:Nat):SetTable.Probe:=nth m (runAt m (SetTable.bits h%(m+1)) (SetTable.bits h)) c
theorem Ip(m:Nat)(h:Int)(c:Nat):(jG m h c).dummy=none:=by
 have all:∀(n:Nat) (p:SetTable.Probe),p.dummy=none->(nth m p n).dummy=none:=by
  intro n
  induction n with
  |zero=>exact λp k=>k
  |succ n ih=>
   intro p k;refine ih (adv m p) ?_;unfold adv
   split<;>exact k
 exact all c _ rfl
theorem Bp(m:Nat)(h:Int)(c d:Nat):nth m (jG m h c) d=jG m h (c+d):=(nth_add m c _ d).symm
theorem seek(R:iJ hf w s.heap a L es ep t){x:Addr}{r:Rw}(hx:RI s.heap r x){h:Int}(hh:hf r=h)(hu:(fW P w).room A){N:Nat}(hN:N<10*SetTable.turns t.mask)(out:way t.mask (h) N∉t.place.toList)(inn:∀c,c<N->way t.mask (h) c∈t.place.toList){Q:SetFound->Shared->Prop}
  (yes:r∈L.map Prod.snd->Q (.there none) s) (no:r∉L.map Prod.snd->Q (.free (way t.mask (h) N) false) s) :
  ∀(f c:Nat) (st:Option SetTable.Probe),st.getD (t.probeStart (h))=jG t.mask (h) c->c<=N->N-c<f->
   (∀(i:Nat) (p:Ent),L[i]?=some p->p.2=r->∃d,c<=d/\d<N/\t.place.toList[i]?=some (way t.mask (h) d))->
   wpAny (model P w) A (setSearchFrom a (.ref x) (h) true f st) Q E s:=by
 intro f
 induction f with
 |zero=>exact λ_ _ _ _ hfl _=>absurd hfl (Nat.not_lt_zero _)
 |succ f ih=>
  intro c st hst hc hfl left;obtain⟨o,ho,hex,hd⟩:=R.ob;rw[setSearchFrom_succ];refine wpAny_bind (wpAny_setState_of ho hd R.fits ?_)
  dsimp only
  refine wp_if_neg R.sound ?_
  try refine wpAny_bind (wpAny_pure ?_)
  have jAt:∀d,(nth t.mask (jG t.mask h c) d).j=way t.mask h (c+d):=λd=>congrArg SetTable.Probe.j (Bp t.mask h c d);have hashOf:∀(i:Nat) (p:Ent),L[i]?=some p->(es[i]?.map (·.1)).getD 0=hf p.2:=λi p g=>by
   rw[u6 R.en g];rfl
  have spec:=go_spec t R.tab.ris R.tab.dm (λi=>(es[i]?.map (·.1)).getD 0) h (10*SetTable.turns t.mask) (N-c) (jG t.mask h c) (Ip _ _ _) (by omega) (λd hdn=>by rw[jAt];exact inn (c+d) (by omega)) (by rw[jAt,ahm hc];exact out);rcases spec with⟨d,i,hdn,hi,hhi,hno,hpr⟩|⟨hno,hpr⟩
  .have hpr':t.probe (λi=>(es[i]?.map (·.1)).getD 0) h (st.getD (t.probeStart h))=some (.candidate (way t.mask h (c+d)) i (jG t.mask h (c+(d+1)))):=by
    rw[hst,<-jAt,<-Bp];exact hpr
   rw[hpr']
   dsimp only
   rw[jAt]at hi;have hil:i<L.length:=by have k1:=(agE.mp hi).1;have k2:=R.tab.sz;rw[agB]at k2;rw[agX]at k1;omega
   obtain⟨p,hp⟩:∃p,L[i]?=some p:=⟨_,agD hil⟩;have pm:=agT hp;have go:wpAny (model P w) A (searchRest a (.ref x) h true f es t (way t.mask h (c+d)) i (jG t.mask h (c+(d+1)))) Q E s:=by
    unfold searchRest;rw[u6 R.en hp]
    dsimp only
    refine wpAny_bind (wpAny_holding ((fW P w).eqBool hu (R.ky p pm) hx ?_));refine wpAny_bind (wpAny_setState_of ho hd R.fits ?_)
    dsimp only
    by_cases same:p.2=r
    .exact wp_if_pos (by simp[same]) (wpAny_pure (yes (agU.mpr ⟨p,pm,same⟩)))
    .refine wp_if_neg (by simp[same]) ?_
     try refine wpAny_bind (wpAny_pure ?_)
     rw[sameMem]
     dsimp only
     have live:t.slot (way t.mask h (c+d))=.live i:=slot_live R.tab.ris hi;simp only[if_true,live,u6 R.en hp];refine wpAny_bind (wpAny_isSame_ref_self (wpAny_bind (wpAny_pure ?_)));simp only[if_true];refine wp_if_neg (by simp[same]) ?_;refine ih (c+(d+1)) _ rfl (by omega) (by omega) λi0 p0 g0 e0=>?_;obtain⟨d0,a1,a2,a3⟩:=left i0 p0 g0 e0;refine⟨d0,?_,a2,a3⟩;by_cases c1:d0<c+d
     .exact absurd ((hashOf i0 p0 g0).trans ((congrArg hf e0).trans hh)) (hno (d0-c) i0 (by omega) (by rw[jAt,ahm a1];exact a3))
     .by_cases c2:d0=c+d
      .rw[c2]at a3;have live0:=slot_live R.tab.ris a3;rw[live]at live0;injection live0 with ei;rw[<-ei,hp]at g0;exact absurd ((congrArg Prod.snd (ag0 g0)).trans e0) same
      .omega
   by_cases hl:t.led=true
   .refine wp_if_neg (by simp[hl]) ?_
    try refine wpAny_bind (wpAny_pure ?_)
    exact go
   .refine wp_if_pos (by simp[hl]) ?_;refine wpAny_bind (aaR hx (λy hy=>?_) ?_)
    .obtain⟨e,he,ee⟩:=agU.mp hy;have h1:e∈es/\e.1=h:=by simpa using he
     have h2:e∈es.toList:=by simpa using h1.1
     rw[R.en]at h2;obtain⟨p2,hp2,e2⟩:=agU.mp h2;exact⟨p2.2,p2.1,by rw[<-ee,<-e2],R.ky p2 hp2⟩
    .refine wp_if_neg (by decide) ?_
     try refine wpAny_bind (wpAny_pure ?_)
     exact go
  .have hpr':t.probe (λi=>(es[i]?.map (·.1)).getD 0) h (st.getD (t.probeStart h))=some (.empty (way t.mask h N) none):=by
    have e2:way t.mask h N=(nth t.mask (jG t.mask h c) (N-c)).j:=by rw[jAt,ahm hc]
    rw[hst,e2];exact hpr
   rw[hpr']
   dsimp only
   refine wpAny_pure (no λhm=>?_);obtain⟨p0,m0,e0⟩:=agU.mp hm;obtain⟨i0,hi0,e1⟩:=List.getElem_of_mem m0;have g0:L[i0]?=some p0:=by rw[agD hi0,e1]
   obtain⟨d0,a1,a2,a3⟩:=left i0 p0 g0 e0;exact hno (d0-c) i0 (by omega) (by rw[jAt,ahm a1];exact a3) ((hashOf i0 p0 g0).trans ((congrArg hf e0).trans hh))
theorem look(R:iJ hf w s.heap a L es ep t){x:Addr}{r:Rw}(hx:RI s.heap r x)(hu:(fW P w).room A){Q:SetFound->Shared->Prop}(yes:r∈L.map Prod.snd->Q (.there none) s)
  (no:∀N,r∉L.map Prod.snd->way t.mask (hf r) N∉t.place.toList->(∀c,c<N->way t.mask (hf r) c∈t.place.toList)->Q (.free (way t.mask (hf r) N) false) s):wpAny (model P w) A (setSearch a (.ref x) (hf r) true) Q E s:=by
 have hfree:=R.free;obtain⟨N,hN,out,inn⟩:=R.tab.first (by rw[agB];omega) (hf r);have small:N<100000:=by
  have:10*SetTable.turns t.mask<=1420:=by unfold SetTable.turns;rcases R.tab.mok with e|e|e<;>omega
  omega
 unfold setSearch;refine seek R hx rfl hu hN out inn yes (λhn=>no N hn out inn) 100000 0 none rfl (agO _) (by omega) λi p g e=>?_;have hi:(L.map λp=>hf p.2)[i]?=some (hf r):=by rw[agS,g,<-e];rfl
 have hil:i<t.place.toList.length:=by have k1:=(agE.mp g).1;have k2:=R.tab.sz;rw[agB]at k2;rw[agX];omega
 obtain⟨c,hc,ec⟩:=R.tab.before out hi (agD hil);exact⟨c,agO _,hc,by rw[agD hil,ec]⟩
end
section
variable{P:Program}{w:World}{A:Around}{E:Value->Shared->Prop}{s:Shared}{hf:Rw->Int}{a:Addr}{L:List Ent}{es:Array (Int×Value)}{ep:Nat}{t:SetTable}
theorem Ud(L:List Ent)(n:Nat)(x:Addr)(r:Rw):ents hf (L.take n++(x,r)::L.drop n)=(ents hf L).take n++(hf r,Value.ref x)::(ents hf L).drop n:=by unfold ents;rw[ahc,agy,List.map_take,List.map_drop]
theorem range_all(L:List Ent):(List.range L.length).filterMap (λi=>L[i]?)=L:=by
 have part:∀n,n<=L.length->(List.range n).filterMap (λi=>L[i]?)=L.take n:=by
  intro n
  induction n with
  |zero=>exact λ_=>rfl
  |succ n ih=>
   intro hn;rw[List.range_succ,List.filterMap_append,ih (by omega),List.take_add_one,agD (show n<L.length by omega)];congr 1;rw[List.filterMap_cons_some (agD (show n<L.length by omega))];rfl
 rw[part _ (agL _),List.take_length]
theorem Qi(h:es.toList=ents hf L){order:Array Nat}(hp:order.toList.Perm (List.range L.length)) :
  ∃M:List Ent,(order.filterMap (es[·]?)).toList=ents hf M/\M.Perm L/\(M.map λp=>hf p.2)=order.toList.map λi=>(es.map (·.1)).getD i 0:=by
 have inside:∀i∈order.toList,i<L.length:=λi hi=>List.mem_range.mp (hp.mem_iff.mp hi);refine⟨order.toList.filterMap (λi=>L[i]?),?_,?_,?_⟩
 .have e1:(order.filterMap (es[·]?)).toList=order.toList.filterMap (λi=>es[i]?):=by
   first | rw[Array.toList_filterMap] | simp
  rw[e1];unfold ents;rw[List.map_filterMap];congr 1;funext i;rw[<-ahd,h];unfold ents;rw[agS]
 .have:=hp.filterMap (λi=>L[i]?);rw[range_all]at this;exact this
 .generalize order.toList=l at inside
  induction l with
  |nil=>rfl
  |cons i l ih=>
   have hi:=inside i agA;have e5:(es.map (·.1))[i]?=some (hf (L[i]).2):=by rw[Array.getElem?_map,u6 h (agD hi)];rfl
   rw[List.filterMap_cons_some (agD hi),agy,agy,ih λj hj=>inside j (agz _ hj),Array.getD_eq_getD_getElem?,e5];rfl
theorem abM{o:Obj}(ho:s.heap.get? a=some o)(hex:o.ExactSet)(hd:o.data=.set es ep t)(he:es.toList=ents hf L)(hsz:t.place.size=es.size)(hdm:t.dummies=#[])(hfl:es.size<=t.mask)(nd:(L.map Prod.snd).Nodup)(ky:∀p∈L,RI s.heap p.2 p.1)(pl:t.plain=true)
  (ld:w.params.followText "set-order"=true\/t.led=true) (few:L.length<=76) {wanted M:Nat} (hw:SetTable.sizeAbove wanted-1=M) (hM:MaskOk M) (hw2:SetTable.sizeAbove wanted<=128) (hn:L.length*5<M*3) {Q:Unit->Shared->Prop}
  (q:∀h' K es' ep' t',Heap.SameBut a s.heap h'->iJ hf w h' a K es' ep' t'->K.Perm L->Q () { s with heap:=h' }):wpAny (model P w) A (setRelay a wanted) Q E s:=by
 have len:=lX he;obtain⟨t',order,e,hp,T,em,el,epl,ed⟩:=relaid_ok t (hs:=es.map (·.1)) (wanted:=wanted) hw hM (by rw[Array.size_map,len];omega);rw[Array.size_map,len]at hp;obtain⟨K,k1,k2,k3⟩:=Qi he hp;rw[<-k3]at T;have ks:(order.filterMap (es[·]?)).size=es.size:=by rw[lX k1,k2.length_eq,len]
 rw[setRelay_eq];refine wpAny_bind (wpAny_setState_of ho hd (fits_of hsz hdm hfl) ?_)
 dsimp only
 refine wp_if_neg (by rw[sizeLine_eq];omega) ?_
 try refine wpAny_bind (wpAny_pure ?_)
 rw[e]
 dsimp only
 refine wpAny_bind ?_;refine wp_if_neg (by rw[ks];simp) ?_
 try refine wpAny_bind (wpAny_pure ?_)
 refine wpAny_pure ?_
 dsimp only
 refine wpAny_storeSet_of ho hd ?_ (by rw[ks,len,sizeLine_eq];omega);have sb:Heap.SameBut a s.heap (s.heap.update a (Obj.putSet (order.filterMap (es[·]?)) t')):=Heap.SameBut.update ..;refine q _ K (order.filterMap (es[·]?)) (ep+1) t' sb ⟨⟨_,store_at ho hd,⟨hex.1,hex.2.1,hex.2.2⟩,rfl⟩,k1,T,(k2.map Prod.snd).nodup_iff.mpr nd,λp hp=>Hg (ky p (k2.mem_iff.mp hp)) ho hd sb,by rw[epl];exact pl,by rw[el];exact ld,?_,by rw[k2.length_eq];exact few⟩ k2;rw[k2.length_eq,em];exact hn
theorem Zu(R:iJ hf w s.heap a L es ep t){x:Addr}{r:Rw}(hx:RI s.heap r x)(hu:(fW P w).room A)(hfew:r∉L.map Prod.snd->L.length+1<=76){Q:Bool->Shared->Prop}
  (q:∀b h' K es' ep' t',Heap.SameBut a s.heap h'->iJ hf w h' a K es' ep' t'->(r∈L.map Prod.snd->K=L)->(r∉L.map Prod.snd->K.Perm ((x,r)::L))->Q b { s with heap:=h' }):wpAny (model P w) A (setAddHashed a (.ref x) (hf r)) Q E s:=by
 obtain⟨o,ho,hex,hd⟩:=R.ob;have len:=lX R.en;have hfree:=R.free;unfold setAddHashed;refine wpAny_holding ?_;rw[show(100000:Nat)=99999+1 from rfl,setAddHashedIn_succ];refine wpAny_bind (wpAny_setState_of ho hd R.fits ?_)
 dsimp only
 refine wp_if_neg (by simp[byScan,Value.scannable]) ?_
 try refine wpAny_bind (wpAny_pure ?_)
 refine wpAny_bind (look R hx hu (λhm=>?_) λN hm out inn=>?_)
 .dsimp only
  exact wpAny_pure (q false s.heap L es ep t (Heap.SameBut.refl a s.heap) R (λ_=>rfl) λz=>absurd hm z)
 have few1:=hfew hm
 dsimp only
 refine wpAny_bind (wpAny_setState_of ho hd R.fits ?_)
 dsimp only
 obtain⟨q1,q2,q3,q4,q5,q6,q7,q8,q9⟩:=R.tab.put out inn;have pl1:(t.put (way t.mask (hf r) N)).1.plain=true:=by rw[q6];exact R.pl
 generalize hpt:t.put (way t.mask (hf r) N)=pt at q1 q3 q4 q5 q6 q7 q8 q9 pl1 |-
 obtain⟨t1,n⟩:=pt
 dsimp only at q1 q3 q4 q5 q6 q7 q8 q9 pl1 |-
 subst q1
 first
  |(refine wpAny_bind ?_;refine wp_if_pos pl1 ?_;refine(rW hx).2 ?_)
  |refine wp_if_pos pl1 (wpAny_bind ((rW hx).2 ?_))
 simp only[if_true];have ein:(SetTable.insertAt es (SetTable.below t.place (way t.mask (hf r) N)) (hf r,Value.ref x)).toList=ents hf (L.take (SetTable.below t.place (way t.mask (hf r) N))++(x,r)::L.drop (SetTable.below t.place (way t.mask (hf r) N))):=by rw[SetTable.toList_insertAt,Ud,R.en]
 generalize hnn:SetTable.below t.place (way t.mask (hf r) N)=n at q2 q3 ein |-
 have pm:=put_perm L n (x,r);have hs1:(L.take n++(x,r)::L.drop n).map (λp=>hf p.2)=(L.map λp=>hf p.2).take n++hf r::(L.map λp=>hf p.2).drop n:=by rw[ahc,agy,List.map_take,List.map_drop]
 rw[<-hs1]at q3;have nd1:((L.take n++(x,r)::L.drop n).map Prod.snd).Nodup:=by refine(pm.map Prod.snd).nodup_iff.mpr ?_;rw[agy];exact ahr.mpr ⟨hm,R.nd⟩
 have len1:(SetTable.insertAt es n (hf r,Value.ref x)).size=L.length+1:=by rw[lX ein,pm.length_eq];rfl
 generalize SetTable.insertAt es n (hf r,Value.ref x)=es1 at ein len1 |-
 have lenM:(L.take n++(x,r)::L.drop n).length=L.length+1:=pm.length_eq;generalize L.take n++(x,r)::L.drop n=M at pm q3 nd1 ein lenM;refine wpAny_bind (wpAny_storeSet_of ho hd ?_ (by rw[len1,sizeLine_eq];omega));have sb:Heap.SameBut a s.heap (s.heap.update a (Obj.putSet es1 t1)):=Heap.SameBut.update ..;have ho1:=store_at (es':=es1) (t':=t1) ho hd;generalize s.heap.update a (Obj.putSet es1 t1)=h1 at sb ho1 |-
 have ky1:∀p∈M,RI h1 p.2 p.1:=λp hp=>by
  rcases agI.mp (pm.mem_iff.mp hp) with e|m
  .rw[e];exact Hg hx ho hd sb
  .exact Hg (R.ky p m) ho hd sb
 have ld1:w.params.followText "set-order"=true\/t1.led=true:=by rw[q5];exact R.ld
 have full:t1.tooFull=true↔(L.length+1)*5 ≥ t1.mask*3:=by unfold SetTable.tooFull;rw[ahu,q9,agB]
 by_cases hfu:t1.tooFull=true
 .first
   |(refine wpAny_bind ?_;refine wp_if_pos (by simp[hfu]) ?_)
   |(refine wp_if_pos (by simp[hfu]) ?_;refine wpAny_bind ?_)
  have over:=full.mp hfu;rw[len];have psz:t1.place.size=es1.size:=by have:=q3.sz;rw[agB,lenM]at this;rw[this,len1]
  have which:(t.mask=7/\L.length=4)\/(t.mask=31/\L.length=18):=by
   rcases R.tab.mok with e|e|e
   .rw[q4,e]at over;rw[e]at hfree;exact Or.inl ⟨e,by omega⟩
   .rw[q4,e]at over;rw[e]at hfree;exact Or.inr ⟨e,by omega⟩
   .rw[q4,e]at over;omega
  have go:∀m,SetTable.sizeAbove (SetTable.grown (L.length+1))-1=m->MaskOk m->SetTable.sizeAbove (SetTable.grown (L.length+1))<=128->(L.length+1)*5<m*3->
    wpAny (model P w) A (setRelay a (SetTable.grown (L.length+1))) (λ_ u=>wpAny (model P w) A (pure true) Q E u) E { s with heap:=h1 }:=λm g1 g2 g3 g4=>
   abM (s:={ s with heap:=h1 }) ho1 ⟨hex.1,hex.2.1,hex.2.2⟩ rfl ein psz q3.dm (by rw[len1,q4];rcases which with⟨e,e2⟩|⟨e,e2⟩<;>omega) nd1 ky1 pl1 ld1 (by rw[lenM];exact few1) g1 g2 g3 (by rw[lenM];exact g4)
    λh2 K es2 ep2 t2 sb2 R2 pm2=>wpAny_pure (q true h2 K es2 ep2 t2 (sb.trans sb2) R2 (λz=>absurd z hm) λ_=>pm2.trans pm)
  rcases which with⟨_,e2⟩|⟨_,e2⟩
  .exact go 31 (by rw[e2,size_20]) (.inr (.inl rfl)) (by rw[e2,size_20];decide) (by omega)
  .exact go 127 (by rw[e2,size_76]) (.inr (.inr rfl)) (by rw[e2,size_76];decide) (by omega)
 .first
   |refine wp_if_neg (by simp[hfu]) ?_
   |(refine wpAny_bind ?_;refine wp_if_neg (by simp[hfu]) ?_;refine wpAny_pure ?_)
  have under:¬(L.length+1)*5 ≥ t1.mask*3:=λz=>hfu (full.mpr z);exact wpAny_pure (q true h1 M es1 (ep+1) t1 sb ⟨⟨_,ho1,⟨hex.1,hex.2.1,hex.2.2⟩,rfl⟩,ein,q3,nd1,ky1,pl1,ld1,by rw[lenM];omega,by rw[lenM];exact few1⟩ (λz=>absurd z hm) λ_=>pm)
end
theorem Eu{α:Type}[DecidableEq α]:∀(l D:List α),l.Nodup->(∀x∈l,x∈D)->l.length<=D.length
 |[],_,_,_=>agO _
 |x::l,D,hn,hs=>by
  obtain⟨h1,h2⟩:=ahr.mp hn;have mx:=hs x agA;have ih:=Eu l (D.erase x) h2 λy hy=>(List.mem_erase_of_ne (λe=>h1 (by rw[<-e];exact hy))).2 (hs y (agz _ hy));have e:=List.length_erase_of_mem mx;have hp:=List.length_pos_of_mem mx;rw[agC];omega
structure Has(ks:List Ent)(i:Nat)(L:List Ent):Prop where
 sub:∀p∈L,p∈ks.take i
 all:∀p∈ks.take i,p.2∈L.map Prod.snd
theorem pG{α:Type}{l:List α}{i:Nat}{x:α}(h:l[i]?=some x):l.take (i+1)=l.take i++[x]:=by rw[List.take_add_one,h];rfl
theorem Has.next{ks L K:List Ent}{i:Nat}{x:Ent}(g:Has ks i L)(h:ks[i]?=some x)(h1:x.2∈L.map Prod.snd->K=L)(h2:x.2∉L.map Prod.snd->K.Perm (x::L)):Has ks (i+1) K:=by
 by_cases c:x.2∈L.map Prod.snd
 .rw[h1 c];refine⟨λp hp=>?_,λp hp=>?_⟩
  .rw[pG h];exact List.mem_append_left _ (g.sub p hp)
  .rw[pG h]at hp;rcases ag5.mp hp with m|m
   .exact g.all p m
   .rw[agJ.mp m];exact c
 .have pm:=h2 c;refine⟨λp hp=>?_,λp hp=>?_⟩
  .rw[pG h];rcases agI.mp (pm.mem_iff.mp hp) with e|m
   .exact ahi _ (agJ.mpr e)
   .exact List.mem_append_left _ (g.sub p m)
  .rw[(pm.map Prod.snd).mem_iff,agy];rw[pG h]at hp;rcases ag5.mp hp with m|m
   .exact agz _ (g.all p m)
   .rw[agJ.mp m];exact agA
def mO(w:World):Obj:={ cls:=.type "set",dict:=none,data:=.set #[] 0 (.fresh 0 0 (!w.params.followText "set-order")) }
section
variable{P:Program}{w:World}{A:Around}{E:Value->Shared->Prop}{s:Shared}{hf:Rw->Int}
theorem iJ.stay{h h':Heap}{a:Addr}{L:List Ent}{es:Array (Int×Value)}{ep:Nat}{t:SetTable}(R:iJ hf w h a L es ep t)(ha:∀o,h.get? a=some o->h'.get? a=some o)(hk:∀p∈L,RI h' p.2 p.1):iJ hf w h' a L es ep t:=by obtain⟨o,ho,r⟩:=R.ob;exact⟨⟨o,ha o ho,r⟩,R.en,R.tab,R.nd,hk,R.pl,R.ld,R.free,R.few⟩
theorem TF{h:Heap}{a:Addr}(ho:h.get? a=some (mO w)):iJ hf w h a [] #[] 0 (.fresh 0 0 (!w.params.followText "set-order")):=by
 refine⟨⟨_,ho,⟨rfl,rfl,rfl⟩,rfl⟩,rfl,⟨List.Pairwise.nil,rfl,rfl,.inl rfl,λx hx=>(by cases hx),λi h j hi=>(by simp at hi)⟩,List.nodup_nil,λp hp=>(by cases hp),rfl,?_,(show 0*5<7*3 by decide),agO _⟩;show _\/(!w.params.followText "set-order")=true
 cases w.params.followText "set-order"
 .exact .inr rfl
 .exact .inl rfl
theorem Xp(hhf:∀r,(fW P w).hash r=hf r){I:Addr}{fp wr:List Addr}{G:Array GenState->Array GenState->Prop}{n:Nat}{Pv:Nat->Value->Prop}{St:Nat->Shared->Prop}{R:Result->Shared->Prop}(W:WalksS P w A.in1 I fp wr G n Pv St)(S:Addr)(hSf:S∉fp)(ks:List Ent)(hn:n=ks.length)
  (D:List Rw) (hD:D.length<=76) (hkD:∀p∈ks,p.2∈D) (hval:∀i v,Pv i v->∃p,ks[i]?=some p/\v=.ref p.1) (h0:Heap) (hk:∀p∈ks,RI h0 p.2 p.1) (hS0:h0.get? S=none) (hw0:∀b∈wr,h0.get? b=none) (hu:(fW P w).room A.in1) :
  ∀(m i:Nat) (s:Shared),n-i=m->i<=n->St i s->(∀b o,h0.get? b=some o->s.heap.get? b=some o)->(∃L es ep t,iJ hf w s.heap S L es ep t/\Has ks i L)->
   (∀u L es ep t,Moved (S::wr) G s u->iJ hf w u.heap S L es ep t->Has ks n L->(∀b o,h0.get? b=some o->u.heap.get? b=some o)->R (.ok (.ret .none)) u)->
   codeAny (model P w) A (.builtin "set.update.loop" ⟨[.ref S,.ref I],[]⟩) R s:=by
 have Sw:S∉wr:=λh=>hSf (W.sub _ h);have wS:∀b∈wr,b∈S::wr:=λb hb=>agz _ hb;have old:∀{s u:Shared},Moved wr G s u->(∀b o,h0.get? b=some o->s.heap.get? b=some o)->∀b o,h0.get? b=some o->u.heap.get? b=some o:=λhm hkp b o e=>hm.heap b o (λhb=>by rw[hw0 b hb]at e;cases e) (hkp b o e);intro m
 induction m with
 |zero=>
  intro i s hm0 hi hst hkp ⟨L,es,ep,t,hS,g⟩ hR
  obtain rfl:i=n:=by omega
  refine codeAny_builtin PyProof.Rows.F.entry_set_update_loop ?_;rw[Around.under_plainId PyProof.Rows.F.plain_set_update_loop _];refine wpAny_bind (W.done s _ _ hst λu hm=>?_);have kept:=old hm hkp;exact wpAny_pure (hR u L es ep t (hm.mono wS) (hS.stay (λo e=>hm.heap S o Sw e) λp hp=>zP (hk p (ag8 (g.sub p hp))) kept) g kept)
 |succ m ih=>
  intro i s hm0 hi hst hkp ⟨L,es,ep,t,hS,g⟩ hR;have hlt:i<n:=by omega
  refine codeAny_builtin PyProof.Rows.F.entry_set_update_loop ?_;rw[Around.under_plainId PyProof.Rows.F.plain_set_update_loop _];refine wpAny_bind (W.item i s _ _ hlt hst λv u hP hst' hm=>?_);obtain⟨p,hp,rfl⟩:=hval i v hP;have kept:=old hm hkp;have hS':iJ hf w u.heap S L es ep t:=hS.stay (λo e=>hm.heap S o Sw e) λq hq=>zP (hk q (ag8 (g.sub q hq))) kept;have hx:RI u.heap p.2 p.1:=zP (hk p (agT hp)) kept;refine wpAny_bind (wpAny_holding ?_);unfold setAdd;refine wpAny_holding ?_;refine wpAny_bind ((fW P w).pyHash hu hx ?_);rw[hhf];have inD:∀y∈L.map Prod.snd,y∈D:=λy hy=>by
   obtain⟨q,hq,e⟩:=agU.mp hy;rw[<-e];exact hkD q (ag8 (g.sub q hq))
  refine Zu (s:={ u with toks:=u.toks+(fW P w).draws p.2 }) hS' hx hu (λhnew=>?_) λb h' K es' ep' t' sb hS2 c1 c2=>?_
  .have:=Eu (p.2::L.map Prod.snd) D (ahr.mpr ⟨hnew,hS.nd⟩) λy hy=>by
    rcases agI.mp hy with e|hy
    .rw[e];exact hkD p (agT hp)
    .exact inD y hy
   rw[agC,agB]at this;omega
  have kept2:∀b o,h0.get? b=some o->h'.get? b=some o:=λb o e=>(sb.2 b (λz=>by rw[z,hS0]at e;cases e)).trans (kept b o e);refine wpAny_pure ⟨plainId_quiet PyProof.Rows.F.plain_set_update_loop _,ih (i+1) _ (by omega) hlt (W.frame _ u _ _ hst' (Nat.le_add_right _ _) λb hb o e=>?_) kept2 ⟨K,es',ep',t',hS2,g.next hp c1 c2⟩ λv L2 es2 ep2 t2 hm2 hS3 g3 k3=>?_⟩
  .rw[sb.2 b (λh:b=S=>hSf (by rw[<-h];exact hb))];exact e
  .refine hR v L2 es2 ep2 t2 (Moved.trans W.gtrans ((hm.mono wS).then_heap (Nat.le_add_right _ _) λb o hb e=>?_) hm2) hS3 g3 k3;rw[sb.2 b (λh:b=S=>hb (by rw[h];exact agA))];exact e
set_option maxHeartbeats 4000000 in
theorem IW(hhf:∀r,(fW P w).hash r=hf r){l:Addr}{items:Array Value}(ks:List Ent)(D:List Rw)(hD:D.length<=76)(hkD:∀p∈ks,p.2∈D){Q:Value->Shared->Prop}(hh:A.handled=none)(hl:s.heap.IsList l items)(hit:items.toList=ks.map λp=>Value.ref p.1)
  (hk:∀p∈ks,RI s.heap p.2 p.1) (hu:A.units+3+8<cLine)
  (h:∀(h':Heap) (tk:Nat) L es ep t,iJ hf w h' s.heap.objs.size L es ep t->Has ks ks.length L->(∀b o,s.heap.get? b=some o->h'.get? b=some o)->Q (.ref s.heap.objs.size) { s with heap:=h',toks:=tk }) :
  wpAny (model P w) A (call (.type "set") [.ref l]) Q E s:=by
 have isz:items.size=ks.length:=by rw[<-agX,hit,agB]
 obtain⟨cc,tl,hmro⟩:=PySem.F.called_set.mro;have hmade:=PySem.F.called_set.made;have hsub:=PySem.F.called_set.sub;refine wpAny_call (codeAny_of_tree ?_);show wpAny _ _ (callAny (.type "set") _) _ _ _
 refine wpAny_pure ⟨Code.quiet_builtin _ (by decide +kernel),codeAny_builtin PySem.F.entry_type_call ?_⟩;rw[Around.under_plain (weight_type_call_type "set" [.ref l] []) rfl]
 have nt:=PySem.F.called_set.notType;have cr:=PySem.F.called_set.canCreate;have hct:=PySem.F.typeCall_set_1 (.ref l)
 (repeat (any_goals first | assumption | wp_step))
 refine codeAny_mono (code_set_led1 (.ref l) (E:=E) (Q₁:=λv u=>v=.ref s.heap.objs.size/\u={ s with heap:=s.heap.push (mO w) }) ⟨rfl,rfl⟩) λr u hr=>?_;cases r with
 |error e=>exact hr
 |ok fl=>
  cases fl with
  |ret v=>
   obtain⟨rfl,rfl⟩:=hr;have hS:(s.heap.push (mO w)).get? s.heap.objs.size=some (mO w):=Heap.get?_push_size _ rfl;have hT:Shared.TypeIs { s with heap:=s.heap.push (mO w) } (.ref s.heap.objs.size) "set":=⟨_,hS,rfl⟩
   have hli:=PySem.F.called_set.init.lookup;have hbi:=PySem.F.called_set.init.bind (.ref s.heap.objs.size)
   (repeat (any_goals first | assumption | wp_step))
   refine codeAny_mono (codeAny_call_builtin (R:=wants (λr u=>r=.none/\∃h' tk L es ep t,u={ s with heap:=h',toks:=tk }/\iJ hf w h' s.heap.objs.size L es ep t/\Has ks ks.length L/\∀b o,s.heap.get? b=some o->h'.get? b=some o) E) PySem.F.called_set.init.plain PySem.F.entry_set_init (check_set_init_1 hT ?_)) λr₂ u₂ hr₂=>?_
   .obtain⟨ol,hol,hcl,nl,hdl⟩:=hl;obtain⟨ocls,odict,odata,oslots⟩:=ol;simp only at hcl hdl;subst hcl;subst hdl;have hol':(s.heap.push (mO w)).get? l=some { cls:=.type "list",dict:=odict,data:=.seq items nl,slots:=oslots }:=Heap.get?_push_of_some _ hol
    have QZ:=PySem.F.sub_list_set;have sl2:=PySem.F.sub_list_frozenset;have nd:(Value.type "list"==Value.type "dict")=false:=by decide
    have hl1:(s.heap.push (mO w)).IsList l items:=⟨_,hol',rfl,nl,rfl⟩;unfold Builtin.«set.__init__» noKeywords Builtin.Frozenset.updateFrom;generalize hPI:pyIter=PI
    wp_walk
    subst hPI;refine wpAny_pyIter_list hl1 ?_;refine wpAny_bind (wpAny_runValue ?_);have lS:l<s.heap.objs.size:=Heap.lt_size hol;have h3:A.in1.in1.in1.handled=none:=by simp[hh]
    have sz1:(s.heap.push (mO w)).objs.size=s.heap.objs.size+1:=Heap.size_push ..;have lI:l≠(s.heap.push (mO w)).objs.size:=by rw[sz1];exact ag4 (ahf lS)
    have Sf:s.heap.objs.size∉[(s.heap.push (mO w)).objs.size,l]:=by rw[sz1];simp only[agI,agY,or_false,not_or];exact⟨ag4 (Nat.lt_succ_self _),Nat.ne_of_gt lS⟩
    have hval:∀(i:Nat) (v:Value),items[i]?=some v->∃p,ks[i]?=some p/\v=.ref p.1:=λi v hv=>by
     rw[<-ahd,hit,agS]at hv;obtain⟨p,g1,g2⟩:=agZ.mp hv;exact⟨p,g1,g2.symm⟩
    have fresh:∀b,s.heap.objs.size<=b->s.heap.get? b=none:=λb hb=>by
     cases q:s.heap.get? b with
     |none=>rfl
     |some o=>exact absurd (Heap.lt_size q) (Nat.not_lt_of_le hb)
    refine Xp hhf ((Walks.list h3 _ l lI items).toS) s.heap.objs.size Sf ks isz D hD hkD hval s.heap hk (fresh _ (agL _)) (λb hb=>fresh b (by rw[agJ.mp hb,sz1];exact Nat.le_succ _)) hu (items.size-0) 0 _ (by omega) (agO _)
     ⟨⟨_,Heap.get?_push_size _ rfl,rfl,rfl⟩,(hl1.push _)⟩ (λb o e=>Heap.get?_push_of_some _ (Heap.get?_push_of_some _ e)) ⟨[],#[],0,_,TF (Heap.get?_push_of_some _ hS),⟨λp hp=>(by cases hp),λp hp=>(by simp at hp)⟩⟩ λu L es ep t hm hS' g' kp=>?_
    obtain⟨h',g2,d',tk',os'⟩:=u;have eg:g2=s.gens:=hm.gens;have ed:d'=s.drawn:=hm.drawn;have eo:os'=s.os:=hm.os;subst eg;subst ed;subst eo;refine wpAny_pure ?_;rw[isz]at g';exact wpAny_pure ⟨rfl,h',tk',L,es,ep,t,rfl,hS',g',kp⟩
   .cases r₂ with
    |error e=>exact hr₂
    |ok fl₂=>
     cases fl₂ with
     |ret r=>
      obtain⟨rfl,h',tk,L,es,ep,t,rfl,hS',g',hk'⟩:=hr₂
      (repeat (any_goals first | assumption | wp_step))
      exact h _ _ _ _ _ _ hS' g' hk'
     |_=>exact hr₂.elim
  |_=>exact hr.elim
end
def Mg(w:World)(h:Heap)(a:Addr)(L:List Ent):Prop:=∃(hf:Rw->Int) (es:Array (Int×Value)) (ep:Nat) (t:SetTable),(∃o,h.get? a=some o/\o.ExactSet/\o.data=.set es ep t)/\es.toList=ents hf L/\t.fits es.size=true/\Ris t.place.toList/\(w.params.followText "set-order"=true\/t.led=true)
def vB(w:World)(a:Addr)(L:List Ent):HO:=.ext λh=>Mg w h a L
section
variable{X:Cx}
theorem Bv{P:Program}{w:World}{h:Heap}:∀(l:List Int) (us:List Value),Vals (l.map V.int) us->NestedAll h (l.map .num) us
 |[],_,.nil=>.nil
 |i::l,_,.cons r t=>by
  obtain⟨tk,rfl⟩:=r;exact .cons (.int i tk) (Bv (P:=P) (w:=w) l _ t)
theorem Bc:∀{ks:List Ent} {us:List Value},Vals (ks.map λp=>V.ref p.1) us->us=ks.map λp=>Value.ref p.1
 |[],_,.nil=>rfl
 |p::ks,_,.cons r t=>by
  cases r;rw[Bc t];rfl
theorem Cm{L:List Ent}:∀(out:List Value) (M:List Rw),PySem.W.EachIs (λv (r:Rw)=>∃p∈L,v=Value.ref p.1/\r=p.2) out M->∃ys:List V,Vals ys out/\bG (λv (r:Rw)=>∃p∈L,v=V.ref p.1/\r=p.2) ys M
 |[],[],.nil=>⟨[],.nil,bG.nil⟩
 |_::out,_::M,.cons ⟨p,hp,e1,e2⟩ k=>by
  obtain⟨ys,h1,h2⟩:=Cm out M k;subst e1 e2;refine⟨.ref p.1::ys,.cons rfl h1,by rw[agC,agC,h2.1],λj u y g1 g2=>?_⟩;cases j with
  |zero=>
   cases g1;cases g2;exact⟨p,hp,rfl,rfl⟩
  |succ j=>exact h2.2 j u y g1 g2
end
def gF(da dc:Addr):List (Str×V):=putF ("circles" : Str) (.ref dc) (putF ("allowances" : Str) (.ref da) [])
structure Rj(C:Addr)(H:Hp)(p da dc:Addr)(al:List Int)(ci:List (List Int)):Prop where
 ob:∃dx,H p=some (.ins C dx (gF da dc))
 la:H da=some (.lst (al.map V.int))
 lc:∃us,H dc=some (.lst us)/\bG (rZ H) us ci
 ne:da≠dc
theorem Rj.mono{C:Addr}{H H':Hp}(e:Ex H H'){p da dc:Addr}{al:List Int}{ci:List (List Int)}(g:Rj C H p da dc al ci):Rj C H' p da dc al ci:=by obtain⟨⟨dx,ob⟩,la,⟨us,h1,h2⟩,ne⟩:=g;exact⟨⟨dx,e _ _ ob⟩,e _ _ la,⟨us,e _ _ h1,h2.imp λ_ _ r=>r.mono e⟩,ne⟩
end Ear
namespace Rf
open PySem PySem.Spec PyProof.Rows L2 Evl
abbrev obj(h:Nat):Dat:=PyData.dict [(PyData.none,PyData.int (Int.ofNat h))]
inductive dB where
 |dat (d:Dat)|lst (n:Nat) (xs:List Dat)|dic (n:Bool) (kvs:List (Dat×Dat))
structure aC where
 f:Str->Option Addr
 fl:Str->List Str
 w:World
instance:CoeFun aC λ_=>Str->Option Addr:=⟨aC.f⟩
structure Inst where
 cls:Str
 fs:List (Str×dB)
abbrev Mo:=List Inst
inductive Cell where
 |dat (d:Dat)|mut (xs:List Dat)
abbrev Env:=List (Option Cell)
structure bK where
 cls:Str
 fs:List (Str×Dat)
inductive Out(α:Type) where
 |ok (a:α)|exc (x:bK)|bad
inductive aR(α:Type) where
 |ok (a:α) (M:Mo)|exc (x:bK) (M:Mo)|bad
inductive dY where
 |next (ρ:Env) (M:Mo)|ret (d:Dat) (M:Mo)|brk (ρ:Env) (M:Mo)|cont (ρ:Env) (M:Mo)|exc (x:bK) (ρ:Env) (M:Mo)|bad
structure Gh where
 tbl:List Addr
 ow:Addr->Option (Nat×Str)
 Lc:Addr->Prop
 Lo:Addr->Prop
 kl:Prop
abbrev Gh.tk(g:Gh):List Addr×Prop:=(g.tbl,g.kl)
theorem Gh.tV{g g':Gh}(e:g'.tk=g.tk):g'.tbl=g.tbl:=congrArg Prod.fst e
theorem Gh.kl1{g g':Gh}(e:g'.tk=g.tk):g'.kl=g.kl:=congrArg Prod.snd e
def Gh.W(g:Gh)(a:Addr):Prop:=a∈g.tbl\/g.ow a≠none
def Gh.A(g:Gh)(a:Addr):Prop:=g.W a\/g.Lc a\/g.Lo a
def sO:HO->Prop
 |.tup _=>False
 |.frz _ _=>False
 |_=>True
def ac6(K:agw)(a:Addr)(xs:List V):Prop:=∃(o:Obj) (its:Array Value) (n:Nat),K.lookup a=some o/\o.cls=.type "list"/\o.dict=none/\o.data=.seq its n/\its.size<=sizeLine/\Vals xs its.toList
def wj(K:agw)(g:Gh)(H:Hp)(a:Addr)(xs:List V):Prop:=(H a=some (.lst xs)/\¬g.A a)\/(g.kl/\((Rd H a (.lst xs)/\¬g.A a)\/ac6 K a xs))
theorem wj.sq{K:agw}{g:Gh}{H:Hp}{a:Addr}{xs:List V}(h:wj K g H a xs):SqL K H a xs:=h.elim (λz=>.inl (.inl z.1)) λz=>z.2.elim (λz=>.inl z.1) .inr
mutual
inductive Rep(K:agw)(g:Gh)(H:Hp):V->Dat->Prop
 |non:Rep K g H .non .none
 |bl (b:Bool):Rep K g H (.bl b) (.bool b)
 |int (i:Int):Rep K g H (.int i) (.int i)
 |str (x:Str):Rep K g H (.str x) (.str x)
 |tup {a:Addr} {xs:List V} {ds:List Dat}:SqT K H a xs->aq K g H xs ds->Rep K g H (.ref a) (.tuple ds)
 |lst {a:Addr} {xs:List V} {ds:List Dat}:wj K g H a xs->aq K g H xs ds->Rep K g H (.ref a) (.list ds)
 |obj {a:Addr} {h:Nat}:g.tbl[h]?=some a->Rep K g H (.ref a) (obj h)
inductive aq(K:agw)(g:Gh)(H:Hp):List V->List Dat->Prop
 |nil:aq K g H [] []
 |cons {v:V} {vs:List V} {d:Dat} {ds:List Dat}:Rep K g H v d->aq K g H vs ds->aq K g H (v::vs) (d::ds)
end
structure Kd(g:Gh)(H:Hp):Prop where
 ob:∀a,g.A a->∃o,H a=some o/\sO o
 lo:∀a,g.Lo a->¬g.W a
 lc:∀a,g.Lc a->¬g.W a/\¬g.Lo a
structure Gr(q:Bool)(g g':Gh)(H H':Hp):Prop where
 keep:∀a o,H a=some o->¬g.W a->¬g.Lo a->H' a=some o
 keepW:q=true->∀a o,H a=some o->g.W a->H' a=some o
 dom:∀a,H' a=none->H a=none
 tbl:∃more,g'.tbl=g.tbl++more
 W:∀a,g.W a->g'.W a
 nW:∀a,g'.W a->g.W a\/H a=none
 qg:q=true->g'.tk=g.tk/\g'.ow=g.ow
 Lc:g'.Lc=g.Lc
 Lo:∀a,g.Lo a->g'.Lo a
 nLo:∀a,g'.Lo a->g.Lo a\/H a=none
 kl:g'.kl=g.kl
section
variable{K:agw}{q:Bool}{g g' g2:Gh}{H H' H2:Hp}{v:V}{d:Dat}
theorem Gr.refl:Gr q g g H H:=⟨λ_ _ h _ _=>h,λ_ _ _ h _=>h,λ_ h=>h,⟨[],by simp⟩,λ_ h=>h,λ_ h=>.inl h,λ_=>⟨rfl,rfl⟩,rfl,λ_ h=>h,λ_ h=>.inl h,rfl⟩
theorem jM(e:Ex H H'):∀a,H' a=none->H a=none:=λa h=>by
 cases h1:H a with
 |none=>rfl
 |some o=>
  rw[e a o h1]at h;cases h
theorem Gr.ex(e:Ex H H'):Gr q g g H H':=⟨λa o h _ _=>e a o h,λ_ a o h _=>e a o h,jM e,⟨[],by simp⟩,λ_ h=>h,λ_ h=>.inl h,λ_=>⟨rfl,rfl⟩,rfl,λ_ h=>h,λ_ h=>.inl h,rfl⟩
theorem Gr.trans(a:Gr q g g' H H')(b:Gr q g' g2 H' H2):Gr q g g2 H H2 where
 keep:=λx o h nw nl=>by
  have h1:=a.keep x o h nw nl;refine b.keep x o h1 (λz=>?_) (λz=>?_)
  .rcases a.nW x z with z|z
   .exact nw z
   .rw[h]at z;cases z
  .rcases a.nLo x z with z|z
   .exact nl z
   .rw[h]at z;cases z
 keepW:=λhq x o h w=>b.keepW hq x o (a.keepW hq x o h w) (a.W x w)
 dom:=λx h=>a.dom x (b.dom x h)
 tbl:=by obtain⟨m1,e1⟩:=a.tbl;obtain⟨m2,e2⟩:=b.tbl;exact⟨m1++m2,by rw[e2,e1,List.append_assoc]⟩
 W:=λx h=>b.W x (a.W x h)
 nW:=λx h=>by
  rcases b.nW x h with z|z
  .exact a.nW x z
  .exact .inr (a.dom x z)
 qg:=λhq=>by
  obtain⟨e1,e2⟩:=a.qg hq;obtain⟨f1,f2⟩:=b.qg hq;exact⟨f1.trans e1,f2.trans e2⟩
 Lc:=b.Lc.trans a.Lc
 Lo:=λx h=>b.Lo x (a.Lo x h)
 nLo:=λx h=>by
  rcases b.nLo x h with z|z
  .exact a.nLo x z
  .exact .inr (a.dom x z)
 kl:=b.kl.trans a.kl
theorem Gr.loud(a:Gr q g g' H H'):Gr false g g' H H':=⟨a.keep,(λh=>nomatch h),a.dom,a.tbl,a.W,a.nW,(λh=>nomatch h),a.Lc,a.Lo,a.nLo,a.kl⟩
theorem Gr.nA(r:Gr q g g' H H'){a:Addr}{o:HO}(h:H a=some o)(n:¬g.A a):¬g'.A a:=λz=>by
 rcases z with z|z|z
 .rcases r.nW a z with z|z
  .exact n (.inl z)
  .rw[h]at z;cases z
 .rw[r.Lc]at z;exact n (.inr (.inl z))
 .rcases r.nLo a z with z|z
  .exact n (.inr (.inr z))
  .rw[h]at z;cases z
theorem Gr.rd(r:Gr q g g' H H'){a:Addr}{o:HO}(h:Rd H a o)(n:¬g.A a):Rd H' a o/\¬g'.A a:=by
 rcases h with h|⟨z,h⟩
 .exact⟨.inl (r.keep a _ h (λw=>n (.inl w)) λw=>n (.inr (.inr w))),r.nA h n⟩
 .exact⟨.inr ⟨z,r.keep a _ h (λw=>n (.inl w)) λw=>n (.inr (.inr w))⟩,r.nA h n⟩
theorem Kd.tup(k:Kd g H){a:Addr}{xs:List V}(h:Rd H a (.tup xs)):¬g.A a:=λz=>by
 obtain⟨o,e,m⟩:=k.ob a z;rcases h with h|⟨y,h⟩<;>(rw[h]at e;cases e;exact m)
theorem Gr.sqT(r:Gr q g g' H H')(k:Kd g H){a:Addr}{xs:List V}(h:SqT K H a xs):SqT K H' a xs:=by
 rcases h with h|h
 .exact .inl (r.rd h (k.tup h)).1
 .exact .inr h
theorem Gr.ls(r:Gr q g g' H H'){a:Addr}{xs:List V}(h:wj K g H a xs):wj K g' H' a xs:=by
 rcases h with⟨h,n⟩|⟨hk,h⟩
 .exact .inl ⟨r.keep a _ h (λw=>n (.inl w)) λw=>n (.inr (.inr w)),r.nA h n⟩
 .rw[<-r.kl]at hk;exact .inr ⟨hk,h.elim (λ⟨h,n⟩=>.inl (r.rd h n)) .inr⟩
theorem Gr.tb(r:Gr q g g' H H'){h:Nat}{a:Addr}(e:g.tbl[h]?=some a):g'.tbl[h]?=some a:=by obtain⟨m,em⟩:=r.tbl;rw[em,agM (agE.mp e).1];exact e
mutual
theorem Rep.gr(r:Gr q g g' H H')(k:Kd g H):∀{v:V} {d:Dat},Rep K g H v d->Rep K g' H' v d
 |_,_,.non=>.non
 |_,_,.bl b=>.bl b
 |_,_,.int i=>.int i
 |_,_,.str x=>.str x
 |_,_,.tup h t=>.tup (r.sqT k h) (aq.gr r k t)
 |_,_,.lst h t=>.lst (r.ls h) (aq.gr r k t)
 |_,_,.obj h=>.obj (r.tb h)
theorem aq.gr(r:Gr q g g' H H')(k:Kd g H):∀{vs:List V} {ds:List Dat},aq K g H vs ds->aq K g' H' vs ds
 |_,_,.nil=>.nil
 |_,_,.cons h t=>.cons (Rep.gr r k h) (aq.gr r k t)
end
mutual
theorem Rep.less(e:g'.tk=g.tk)(n:∀a,g'.A a->g.A a):∀{v:V} {d:Dat},Rep K g H v d->Rep K g' H v d
 |_,_,.non=>.non
 |_,_,.bl b=>.bl b
 |_,_,.int i=>.int i
 |_,_,.str x=>.str x
 |_,_,.tup h t=>.tup h (aq.less e n t)
 |_,_,.lst h t=>.lst (h.elim (λz=>.inl ⟨z.1,λy=>z.2 (n _ y)⟩) λz=>.inr ⟨by rw[Gh.kl1 e];exact z.1,z.2.elim (λz=>.inl ⟨z.1,λy=>z.2 (n _ y)⟩) .inr⟩) (aq.less e n t)
 |_,_,.obj h=>.obj (by rw[Gh.tV e];exact h)
theorem aq.less(e:g'.tk=g.tk)(n:∀a,g'.A a->g.A a):∀{vs:List V} {ds:List Dat},aq K g H vs ds->aq K g' H vs ds
 |_,_,.nil=>.nil
 |_,_,.cons h t=>.cons (Rep.less e n h) (aq.less e n t)
end
mutual
def lf:Dat->Bool
 |.list _=>false
 |.tuple ds=>P0 ds
 |.dict _=>true
 |.none=>true
 |.bool _=>true
 |.int _=>true
 |.str _=>true
def P0:List Dat->Bool
 |[]=>true
 |d::ds=>lf d&&P0 ds
end
mutual
theorem Rep.free(e:g'.tbl=g.tbl):∀{v:V} {d:Dat},lf d=true->Rep K g H v d->Rep K g' H v d
 |_,_,_,.non=>.non
 |_,_,_,.bl b=>.bl b
 |_,_,_,.int i=>.int i
 |_,_,_,.str x=>.str x
 |_,_,f,.tup h t=>.tup h (aq.free e (by rw[lf]at f;exact f) t)
 |_,_,f,.lst h t=>by rw[lf]at f;cases f
 |_,_,_,.obj h=>.obj (by rw[e];exact h)
theorem aq.free(e:g'.tbl=g.tbl):∀{vs:List V} {ds:List Dat},P0 ds=true->aq K g H vs ds->aq K g' H vs ds
 |_,_,_,.nil=>.nil
 |_,_,f,.cons h t=>.cons (Rep.free e (by rw[P0,agx]at f;exact f.1) h) (aq.free e (by rw[P0,agx]at f;exact f.2) t)
end
theorem aq.length:∀{vs:List V} {ds:List Dat},aq K g H vs ds->vs.length=ds.length
 |_,_,.nil=>rfl
 |_,_,.cons _ t=>congrArg (· + 1) t.length
theorem aq.get:∀{vs:List V} {ds:List Dat} {i:Nat} {d:Dat},aq K g H vs ds->ds[i]?=some d->∃v,vs[i]?=some v/\Rep K g H v d
 |_,_,_,_,.nil,e=>by simp at e
 |_,_,0,_,.cons h _,e=>by simp at e;subst e;exact⟨_,rfl,h⟩
 |_,_,i+1,_,.cons _ t,e=>by simpa using t.get (i:=i) (by simpa using e)
theorem aq.get':∀{vs:List V} {ds:List Dat} {i:Nat} {v:V},aq K g H vs ds->vs[i]?=some v->∃d,ds[i]?=some d/\Rep K g H v d
 |_,_,_,_,.nil,e=>by simp at e
 |_,_,0,_,.cons h _,e=>by simp at e;subst e;exact⟨_,rfl,h⟩
 |_,_,i+1,_,.cons _ t,e=>by simpa using t.get' (i:=i) (by simpa using e)
theorem aq.append:∀{vs ws:List V} {ds es:List Dat},aq K g H vs ds->aq K g H ws es->aq K g H (vs++ws) (ds++es)
 |_,_,_,_,.nil,t=>t
 |_,_,_,_,.cons h r,t=>.cons h (r.append t)
theorem aq.take:∀{vs:List V} {ds:List Dat} (n:Nat),aq K g H vs ds->aq K g H (vs.take n) (ds.take n)
 |_,_,0,_=>.nil
 |_,_,_+1,.nil=>.nil
 |_,_,n+1,.cons h t=>.cons h (t.take n)
theorem aq.drop:∀{vs:List V} {ds:List Dat} (n:Nat),aq K g H vs ds->aq K g H (vs.drop n) (ds.drop n)
 |_,_,0,t=>t
 |_,_,_+1,.nil=>.nil
 |_,_,n+1,.cons _ t=>t.drop n
theorem aq.set{v:V}{d:Dat}(r:Rep K g H v d):∀{vs:List V} {ds:List Dat} (i:Nat),aq K g H vs ds->aq K g H (vs.set i v) (ds.set i d)
 |_,_,_,.nil=>.nil
 |_,_,0,.cons _ t=>.cons r t
 |_,_,i+1,.cons h t=>.cons h (t.set r i)
theorem Gr.upd{l:Addr}{o o':HO}(k:Kd g H)(h:H l=some o)(w:(g.W l/\q=false)\/g.Lo l):Gr q g g H (L2.upd H l o') where
 keep:=λa u e nw nl=>by
  rw[upd_ne (λz=>by subst z;exact w.elim (λw=>nw w.1) nl)];exact e
 keepW:=λhq a u e wa=>by
  rcases w with w|w
  .rw[hq]at w;cases w.2
  .rw[upd_ne (λz=>by subst z;exact k.lo _ w wa)];exact e
 dom:=λa e=>by
  by_cases z:a=l
  .subst z;rw[ahA]at e;cases e
  .rw[upd_ne z]at e;exact e
 tbl:=⟨[],by simp⟩
 W:=λ_ h=>h
 nW:=λ_ h=>.inl h
 qg:=λ_=>⟨rfl,rfl⟩
 Lc:=rfl
 Lo:=λ_ h=>h
 nLo:=λ_ h=>.inl h
 kl:=rfl
theorem Kd.ex(k:Kd g H)(e:Ex H H'):Kd g H':=⟨λa z=>let⟨o,h,m⟩:=k.ob a z;⟨o,e a o h,m⟩,k.lo,k.lc⟩
theorem Kd.upd(k:Kd g H){l:Addr}{o:HO}(m:sO o):Kd g (L2.upd H l o):=⟨λa z=>by
 by_cases e:a=l
 .subst e;exact⟨o,ahA,m⟩
 .rw[upd_ne e];exact k.ob a z,k.lo,k.lc⟩
theorem Rep.ex(e:Ex H H')(k:Kd g H)(h:Rep K g H v d):Rep K g H' v d:=h.gr (Gr.ex (q:=true) e) k
theorem aq.ex{vs:List V}{ds:List Dat}(e:Ex H H')(k:Kd g H)(h:aq K g H vs ds):aq K g H' vs ds:=h.gr (Gr.ex (q:=true) e) k
end
def keyD:Key->Dat
 |.inl i=>.int i
 |.inr x=>.str x
def cQ(l:Addr)(o:Obj):HO:=.ext λh=>h.get? l=some o
abbrev fL:Type:=NestedKey×Addr×Value
def OD(w:World)(x:fL):DictEntry:=⟨x.1.hash w,.ref x.2.1,x.2.2⟩
structure fj(w:World)(l:Addr)(o:Obj)(xs:List fL):Prop where
 sys:(l==sysModules)=false
 ex:o.ExactDict
 ent:∃es ep,o.data=.dict es ep/\es.toList=xs.map (OD w)
 nd:(xs.map (·.1)).Nodup
 len:xs.length<=sizeLine
 dep:∀x∈xs,x.1.depth<=8
def dR(K:agw)(aj:aC)(g:Gh)(H:Hp)(l:Addr):Bool->List (Dat×Dat)->Prop
 |false,kvs=>∃kv:List (Key×V),H l=some (.dK kv)/\kvs.map (·.1)=kv.map (λp=>keyD p.1)/\aq K g H (kv.map (·.2)) (kvs.map (·.2))
 |true,kvs=>∃(o:Obj) (xs:List fL) (vs:List V),H l=some (cQ l o)/\fj aj.w l o xs/\kvs.map (·.1)=xs.map (λx=>x.1.data)/\aq K g H (xs.map λx=>V.ref x.2.1) (kvs.map (·.1))/\Vals vs (xs.map (·.2.2))/\aq K g H vs (kvs.map (·.2))
def bA(K:agw)(aj:aC)(g:Gh)(H:Hp)(h:Nat)(f:Str)(v:V):dB->Prop
 |.dat d=>Rep K g H v d
 |.lst n xs=>∃l us,v=.ref l/\H l=some (.lst us)/\g.ow l=some (h,f)/\aq K g H us xs/\g.tbl[n]?=some l
 |.dic n kvs=>∃l,v=.ref l/\g.ow l=some (h,f)/\dR K aj g H l n kvs
inductive aW(K:agw)(aj:aC)(g:Gh)(H:Hp)(h:Nat):List (Str×V)->List (Str×dB)->Prop
 |nil:aW K aj g H h [] []
 |cons {f:Str} {v:V} {fl:dB} {fs:List (Str×V)} {gs:List (Str×dB)}:bA K aj g H h f v fl->aW K aj g H h fs gs->aW K aj g H h ((f,v)::fs) ((f,fl)::gs)
structure cM(K:agw)(aj:aC)(g:Gh)(H:Hp)(M:Mo):Prop where
 len:g.tbl.length=M.length
 inj:∀(h k:Nat) (a:Addr),g.tbl[h]?=some a->g.tbl[k]?=some a->h=k
 ins:∀(h:Nat) (a:Addr) (i:Inst),g.tbl[h]?=some a->M[h]?=some i->i.cls≠""->∃C dx fs,aj i.cls=some C/\H a=some (.ins C dx fs)/\aW K aj g H h fs i.fs
 nd:∀(h:Nat) (i:Inst),M[h]?=some i->(i.fs.map (·.1)).Nodup
 fd:∀(h:Nat) (i:Inst),M[h]?=some i->∀f∈i.fs.map (·.1),f∈aj.fl i.cls
 tw:∀(h:Nat) (a:Addr) (i:Inst),g.tbl[h]?=some a->M[h]?=some i->i.cls≠""->g.ow a=none
 dm:∀(h:Nat) (i:Inst),M[h]?=some i->i.cls=""->i.fs=[]
 nc:aj ""=none
structure SInv(K:agw)(aj:aC)(σ:L2.St)(H:Hp)(g:Gh)(ρ:Env)(M:Mo):Prop where
 kd:Kd g H
 wok:cM K aj g H M
 len:σ.length=ρ.length
 dat:∀(i:Nat) (d:Dat),ρ[i]?=some (some (.dat d))->∃v,σ[i]?=some (some v)/\Rep K g H v d
 own:∀(i:Nat) (xs:List Dat),ρ[i]?=some (some (.mut xs))->∃l us,σ[i]?=some (some (.ref l))/\H l=some (.lst us)/\g.Lo l/\aq K g H us xs
 sep:∀(i j:Nat) (xs ys:List Dat) (l:Addr),i≠j->ρ[i]?=some (some (.mut xs))->ρ[j]?=some (some (.mut ys))->σ[i]?=some (some (.ref l))->σ[j]?≠some (some (.ref l))
section
variable{K:agw}{aj:aC}{q:Bool}{g g' g2:Gh}{H H' H2:Hp}{v:V}{d:Dat}{σ:L2.St}{ρ:Env}{M:Mo}
theorem dR.ex{l:Addr}:∀{n:Bool} {kvs:List (Dat×Dat)} (e:Ex H H') (k:Kd g H) (h:dR K aj g H l n kvs),dR K aj g H' l n kvs
 |false,_,e,k,⟨kv,h1,h2,h3⟩=>⟨kv,e _ _ h1,h2,h3.ex e k⟩
 |true,_,e,k,⟨o,xs,vs,h1,h2,h3,h4,h5,h6⟩=>⟨o,xs,vs,e _ _ h1,h2,h3,h4.ex e k,h5,h6.ex e k⟩
theorem bA.ex{h:Nat}{f:Str}(e:Ex H H')(k:Kd g H):∀{fl:dB},bA K aj g H h f v fl->bA K aj g H' h f v fl
 |.dat _,r=>Rep.ex e k r
 |.lst _ _,⟨l,us,h1,h2,h3,h4,h5⟩=>⟨l,us,h1,e _ _ h2,h3,h4.ex e k,h5⟩
 |.dic _ _,⟨l,h1,h2,h3⟩=>⟨l,h1,h2,h3.ex e k⟩
theorem aW.ex{h:Nat}(e:Ex H H')(k:Kd g H):∀{fs:List (Str×V)} {gs:List (Str×dB)},aW K aj g H h fs gs->aW K aj g H' h fs gs
 |_,_,.nil=>.nil
 |_,_,.cons r t=>.cons (bA.ex e k r) (aW.ex e k t)
theorem cM.ex(e:Ex H H')(k:Kd g H)(w:cM K aj g H M):cM K aj g H' M:=⟨w.len,w.inj,λh a i ha hi hc=>by
 obtain⟨C,dx,fs,c1,c2,c3⟩:=w.ins h a i ha hi hc;exact⟨C,dx,fs,c1,e _ _ c2,c3.ex e k⟩,w.nd,w.fd,w.tw,w.dm,w.nc⟩
theorem SInv.ex(e:Ex H H')(I:SInv K aj σ H g ρ M):SInv K aj σ H' g ρ M:=⟨I.kd.ex e,I.wok.ex e I.kd,I.len,λi d h=>by
 obtain⟨v,h1,h2⟩:=I.dat i d h;exact⟨v,h1,h2.ex e I.kd⟩,λi xs h=>by
 obtain⟨l,us,h1,h2,h3,h4⟩:=I.own i xs h;exact⟨l,us,h1,e _ _ h2,h3,h4.ex e I.kd⟩,I.sep⟩
theorem aW.get{h:Nat}{f:Str}{fl:dB}:∀{fs:List (Str×V)} {gs:List (Str×dB)},aW K aj g H h fs gs->gs.lookup f=some fl->∃v,fs.lookup f=some v/\bA K aj g H h f v fl
 |_,_,.nil,e=>nomatch e
 |_,_,.cons (f:=f') (v:=v) (fl:=fl') r t,e=>by
  rw[agQ]at e;rw[agQ];cases hb:f==f' with
  |true=>
   rw[hb]at e;cases e;have ef:f=f':=by simpa using hb
   subst ef;exact⟨v,rfl,r⟩
  |false=>
   rw[hb]at e;exact t.get e
theorem aW.no{h:Nat}{f:Str}:∀{fs:List (Str×V)} {gs:List (Str×dB)},aW K aj g H h fs gs->gs.lookup f=none->fs.lookup f=none
 |_,_,.nil,_=>rfl
 |_,_,.cons (f:=f') (v:=v) (fl:=fl') r t,e=>by
  rw[agQ]at e;rw[agQ];cases hb:f==f' with
  |true=>
   rw[hb]at e;cases e
  |false=>
   rw[hb]at e;exact t.no e
end
def Out.bind{α β:Type}(o:Out α)(k:α->Out β):Out β:=
 match o with
 |.ok a=>k a
 |.exc x=>.exc x
 |.bad=>.bad
def Out.sat{α:Type}(o:Out α)(P:α->Prop)(E:bK->Prop):Prop:=
 match o with
 |.ok a=>P a
 |.exc x=>E x
 |.bad=>False
@[simp]theorem Out.V4 {α β:Type} (a:α) (k:α->Out β):(Out.ok a).bind k=k a:=rfl
@[simp]theorem Out.RX {α β:Type} (x:bK) (k:α->Out β):(Out.exc x:Out α).bind k=.exc x:=rfl
@[simp]theorem Out.T7 {α β:Type} (k:α->Out β):(Out.bad:Out α).bind k=.bad:=rfl
theorem Out.sat.bnd{α β:Type}{o:Out α}{k:α->Out β}{P:β->Prop}{E:bK->Prop}(h:(o.bind k).sat P E):o.sat (λa=>(k a).sat P E) E:=by cases o<;>exact h
theorem Out.sat.mono{α:Type}{o:Out α}{P P':α->Prop}{E E':bK->Prop}(h:o.sat P E)(hp:∀a,P a->P' a)(he:∀x,E x->E' x):o.sat P' E':=by
 cases o
 .exact hp _ h
 .exact he _ h
 .exact h
def Out.when{α:Type}(b:Bool)(o:Out α):Out α:=if b=true then o else .bad
@[simp]theorem Out.O9 {α:Type} (o:Out α):Out.when true o=o:=rfl
@[simp]theorem Out.acy {α:Type} (o:Out α):Out.when false o=.bad:=rfl
theorem Out.sat.dN{α:Type}{b:Bool}{o:Out α}{P:α->Prop}{E:bK->Prop}(h:(Out.when b o).sat P E):b=true/\o.sat P E:=by
 cases b
 .exact aht h
 .exact⟨rfl,h⟩
inductive eZ(K:agw)(g:Gh)(H:Hp):List (Str×V)->List (Str×Dat)->Prop
 |nil:eZ K g H [] []
 |cons {f:Str} {v:V} {d:Dat} {fs:List (Str×V)} {gs:List (Str×Dat)}:Rep K g H v d->eZ K g H fs gs->eZ K g H ((f,v)::fs) ((f,d)::gs)
def iU(K:agw)(aj:aC)(g:Gh)(H:Hp)(x:bK)(c:Value)(dd:Option Addr):Prop:=
 ∃C,aj x.cls=some C/\c=.ref C/\((x.fs=[]/\dd=none)\/∃a fs,dd=some a/\H a=some (.xd fs)/\eZ K g H fs x.fs)
abbrev QF:=Mo->Env->Out Dat
abbrev QT:=Mo->Env->Out Bool
abbrev QA:=Mo->Env->Out (List Dat)
section
variable(K:agw)(aj:aC)(W:WX)
def gM(g:Gh)(H:Hp)(σ:L2.St)(x:bK):Prop:=∀H' c dd,Ex H H'->iU K aj g H' x c dd->W c dd σ H'
def tQ(f:QF):TE:=λσ H Q=>∃g ρ M,SInv K aj σ H g ρ M/\(f M ρ).sat (λd=>∀v H',Ex H H'->Rep K g H' v d->Q v H') (gM K aj W g H σ)
def dZ(f:QT):TT:=λσ H Q=>∃g ρ M,SInv K aj σ H g ρ M/\(f M ρ).sat (λb=>∀H',Ex H H'->Q b H') (gM K aj W g H σ)
def vX(f:QA):TA:=λσ H Q=>∃g ρ M,SInv K aj σ H g ρ M/\(f M ρ).sat (λds=>∀vs H',Ex H H'->aq K g H' vs ds->Q vs H') (gM K aj W g H σ)
end
section
variable{K:agw}{aj:aC}{W:WX}{g:Gh}{H H1:Hp}{σ:L2.St}{ρ:Env}{M:Mo}
theorem gM.ex{x:bK}(e:Ex H H1)(h:gM K aj W g H σ x):gM K aj W g H1 σ x:=λH' c dd e' r=>h H' c dd (e.trans e') r
theorem tQ.go{f:QF}{k:Dat->Prop}{Q:VK}(I:SInv K aj σ H g ρ M)(h:(f M ρ).sat k (gM K aj W g H σ))(hk:∀d v H',k d->Ex H H'->Rep K g H' v d->Q v H'):tQ K aj W f σ H Q:=
 ⟨g,ρ,M,I,h.mono (λd hd v H' e r=>hk d v H' hd e r) λ_ z=>z⟩
theorem dZ.go{f:QT}{k:Bool->Prop}{Q:Bool->Hp->Prop}(I:SInv K aj σ H g ρ M)(h:(f M ρ).sat k (gM K aj W g H σ))(hk:∀b H',k b->Ex H H'->Q b H'):dZ K aj W f σ H Q:=
 ⟨g,ρ,M,I,h.mono (λd hd H' e=>hk d H' hd e) λ_ z=>z⟩
theorem vX.go{f:QA}{k:List Dat->Prop}{Q:List V->Hp->Prop}(I:SInv K aj σ H g ρ M)(h:(f M ρ).sat k (gM K aj W g H σ))(hk:∀ds vs H',k ds->Ex H H'->aq K g H' vs ds->Q vs H'):vX K aj W f σ H Q:=
 ⟨g,ρ,M,I,h.mono (λd hd v H' e r=>hk d v H' hd e r) λ_ z=>z⟩
end
def QE(aj:aC)(X:Cx)(W:WX)(e:Expr)(f:QF):Prop:=PE X e (tQ X.K aj W f)
def jf(aj:aC)(X:Cx)(W:WX)(e:Expr)(f:QT):Prop:=PT X e (dZ X.K aj W f)
def qu(aj:aC)(X:Cx)(W:WX)(es:List Expr)(f:QA):Prop:=PA X es (vX X.K aj W f)
theorem PE.weak{X:Cx}{e:Expr}{t t':TE}(h:PE X e t)(k:∀σ H Q,t' σ H Q->t σ H Q):PE X e t':=⟨λpins s σ H Q I q=>h.run pins s σ H Q I (k σ H Q q)⟩
theorem PT.weak{X:Cx}{e:Expr}{t t':TT}(h:PT X e t)(k:∀σ H Q,t' σ H Q->t σ H Q):PT X e t':=⟨λpins s σ H Q I q=>h.run pins s σ H Q I (k σ H Q q)⟩
theorem PA.weak{X:Cx}{e:List Expr}{t t':TA}(h:PA X e t)(k:∀σ H Q,t' σ H Q->t σ H Q):PA X e t':=⟨λpos pins s σ H Q I q=>h.run pos pins s σ H Q I (k σ H Q q)⟩
def aJ(i:Nat):QF:=λ_ ρ=>match ρ[i]? with
 |some (some (.dat d))=>.ok d
 |_=>.bad
def qC(d:Dat):QF:=λ_ _=>.ok d
def aA(o:Dat->Dat->Out Dat)(a b:QF):QF:=λM ρ=>(a M ρ).bind λx=>(b M ρ).bind λy=>o x y
def bR(o:Dat->Out Dat)(a:QF):QF:=λM ρ=>(a M ρ).bind o
def aG:QA:=λ_ _=>.ok []
def ao(a:QF)(r:QA):QA:=λM ρ=>(a M ρ).bind λx=>(r M ρ).bind λxs=>.ok (x::xs)
def uN(r:QA):QF:=λM ρ=>(r M ρ).bind λxs=>Out.when (decide (xs.length<=100000)) (.ok (.tuple xs))
def lF(r:QA):QF:=λM ρ=>(r M ρ).bind λxs=>Out.when (decide (xs.length<=100000)) (.ok (.list xs))
section
variable{X:Cx}{aj:aC}{W:WX}{a b:Expr}{fa fb:QF}{pos:Pos}
theorem Qs{i:Nat}{x:Str}(hN:X.N[i]?=some x)(hv:Vis X.env.scope x)(hd:(x==("__debug__" : Str))=false)(hcd:(x==("__classdict__" : Str))=false):QE aj X W (.Name x pos) (aJ i):=
 PE.weak (pe_var hN hv hd hcd) λσ H Q ⟨g,ρ,M,I,h⟩=>by
  unfold aJ at h;split at h
  .next d e=>
   obtain⟨v,h1,h2⟩:=I.dat i d e;exact⟨v,h1,h v H (Ex.refl H) h2⟩
  .exact aht h
theorem YB{i:Int}{j:Nat}:QE aj X W (.Constant (.int i) j pos) (qC (.int i)):=PE.weak pe_int λσ H Q ⟨g,ρ,M,I,h⟩=>h _ H (Ex.refl H) (.int i)
theorem aa9{x:Str}{j:Nat}:QE aj X W (.Constant (.str x) j pos) (qC (.str x)):=PE.weak pe_str λσ H Q ⟨g,ρ,M,I,h⟩=>h _ H (Ex.refl H) (.str x)
theorem acq{x:Bool}{j:Nat}:QE aj X W (.Constant (.bool x) j pos) (qC (.bool x)):=PE.weak pe_bl λσ H Q ⟨g,ρ,M,I,h⟩=>h _ H (Ex.refl H) (.bl x)
theorem ZQ{j:Nat}:QE aj X W (.Constant .none j pos) (qC .none):=PE.weak pe_non λσ H Q ⟨g,ρ,M,I,h⟩=>h _ H (Ex.refl H) .non
theorem QD:qu aj X W [] aG:=PA.weak pa_nil λσ H Q ⟨g,ρ,M,I,h⟩=>h [] H (Ex.refl H) .nil
theorem Jk{es:List Expr}{fr:QA}(ha:QE aj X W a fa)(hr:qu aj X W es fr)(hs:starEach (a::es) X.env=(false,eval a X.env)::starEach es X.env):qu aj X W (a::es) (ao fa fr):=
 PA.weak (pa_cons ha hr hs) λσ H Q ⟨g,ρ,M,I,h⟩=>by
  refine tQ.go I h.bnd λd v H1 h1 e1 r1=>?_;refine vX.go (I.ex e1) (h1.bnd.mono (λ_ z=>z) λ_ z=>z.ex e1) λds vs H2 h2 e2 r2=>?_;exact h2 (v::vs) H2 (e1.trans e2) (.cons (r1.ex e2 (I.kd.ex e1)) r2)
theorem aaq{es:List Expr}{fr:QA}{k:Nat}(h:qu aj X W es fr):QE aj X W (.Tuple es k pos) (uN fr):=
 PE.weak (pe_tup h) λσ H Q ⟨g,ρ,M,I,h⟩=>by
  refine vX.go I h.bnd λds vs H1 h1 e1 r1=>?_;obtain⟨hz,h1⟩:=h1.dN;have hl:vs.length<=100000:=by rw[r1.length];exact ahv hz
  refine⟨sz_of hl,λp np=>h1 (.ref p) _ (e1.trans (Ex.new np)) (.tup (st_of ahA) (r1.ex (Ex.new np) (I.kd.ex e1)))⟩
theorem Kd.fresh{g:Gh}{H:Hp}(k:Kd g H){p:Addr}(n:H p=none):¬g.A p:=λz=>by
 obtain⟨o,e,_⟩:=k.ob p z;rw[n]at e;cases e
theorem Z5{es:List Expr}{fr:QA}(h:qu aj X W es fr):QE aj X W (.List es pos) (lF fr):=
 PE.weak (pe_lst h) λσ H Q ⟨g,ρ,M,I,h⟩=>by
  refine vX.go I h.bnd λds vs H1 h1 e1 r1=>?_;obtain⟨hz,h1⟩:=h1.dN;have hl:vs.length<=100000:=by rw[r1.length];exact ahv hz
  refine⟨sz_of hl,λp np=>h1 (.ref p) _ (e1.trans (Ex.new np)) (.lst (.inl ⟨ahA,(I.kd.ex e1).fresh np⟩) (r1.ex (Ex.new np) (I.kd.ex e1)))⟩
end
def bf(K:agw)(g:Gh)(H:Hp)(v:V):Dat->Prop
 |.list ds=>∃a us,v=.ref a/\SqL K H a us/\aq K g H us ds
 |d=>Rep K g H v d
section
variable{K:agw}{g:Gh}{H H':Hp}{v:V}{d:Dat}
theorem Rep.weak(h:Rep K g H v d):bf K g H v d:=by
 cases h with
 |lst a t=>exact⟨_,_,rfl,a.sq,t⟩
 |non=>exact .non
 |bl b=>exact .bl b
 |int i=>exact .int i
 |str x=>exact .str x
 |tup a t=>exact .tup a t
 |obj a=>exact .obj a
theorem bf.ex(e:Ex H H')(k:Kd g H)(h:bf K g H v d):bf K g H' v d:=by
 cases d with
 |list ds=>
  obtain⟨a,us,h1,h2,h3⟩:=h;exact⟨a,us,h1,ex_l e h2,h3.ex e k⟩
 |_=>exact Rep.ex e k h
theorem aK{i:Int}(h:bf K g H v (.int i)):v=.int i:=by cases h;rfl
theorem bB{x:Str}(h:bf K g H v (.str x)):v=.str x:=by cases h;rfl
theorem ql{b:Bool}(h:bf K g H v (.bool b)):v=.bl b:=by cases h;rfl
theorem qJ(h:bf K g H v .none):v=.non:=by cases h;rfl
theorem d9{ds:List Dat}(h:bf K g H v (.tuple ds)):∃a us,v=.ref a/\SqT K H a us/\aq K g H us ds:=by
 cases h with
 |tup a t=>exact⟨_,_,rfl,a,t⟩
theorem cD{ds:List Dat}(h:bf K g H v (.list ds)):∃a us,v=.ref a/\SqL K H a us/\aq K g H us ds:=h
theorem tH{n:Nat}(h:bf K g H v (obj n)):∃a,v=.ref a/\g.tbl[n]?=some a:=by
 cases h with
 |obj a=>exact⟨_,rfl,a⟩
end
section
variable(K:agw)(aj:aC)(W:WX)
def tW(f:QF):TE:=λσ H Q=>∃g ρ M,SInv K aj σ H g ρ M/\(f M ρ).sat (λd=>∀v H',Ex H H'->bf K g H' v d->Q v H') (gM K aj W g H σ)
end
theorem tW.go{K:agw}{aj:aC}{W:WX}{g:Gh}{H:Hp}{σ:L2.St}{ρ:Env}{M:Mo}{f:QF}{k:Dat->Prop}{Q:VK}(I:SInv K aj σ H g ρ M)(h:(f M ρ).sat k (gM K aj W g H σ))(hk:∀d v H',k d->Ex H H'->bf K g H' v d->Q v H'):tW K aj W f σ H Q:=
 ⟨g,ρ,M,I,h.mono (λd hd v H' e r=>hk d v H' hd e r) λ_ z=>z⟩
def QW(aj:aC)(X:Cx)(W:WX)(e:Expr)(f:QF):Prop:=PE X e (tW X.K aj W f)
theorem QE.w{aj:aC}{X:Cx}{W:WX}{e:Expr}{f:QF}(h:QE aj X W e f):QW aj X W e f:=
 PE.weak h λσ H Q ⟨g,ρ,M,I,z⟩=>⟨g,ρ,M,I,z.mono (λ_ k v H' e r=>k v H' e r.weak) λ_ y=>y⟩
def ak(i:Nat):QF:=λ_ ρ=>match ρ[i]? with
 |some (some (.dat d))=>.ok d
 |some (some (.mut xs))=>.ok (.list xs)
 |_=>.bad
def iH(aj:aC)(K:agw)(W:WX)(o:Dat->Dat->Out Dat)(r:R2):Prop:=∀(σ:L2.St) (g:Gh) (H:Hp) (x y:V) (d e:Dat) (Q:VK),Kd g H->bf K g H x d->bf K g H y e->
 (o d e).sat (λz=>∀v H',Ex H H'->Rep K g H' v z->Q v H') (gM K aj W g H σ)->r x y H Q
section
variable{X:Cx}{aj:aC}{W:WX}{a b c:Expr}{fa fb fc:QF}{pos:Pos}
theorem abn{i:Nat}{x:Str}(hN:X.N[i]?=some x)(hv:Vis X.env.scope x)(hd:(x==("__debug__" : Str))=false)(hcd:(x==("__classdict__" : Str))=false):QW aj X W (.Name x pos) (ak i):=
 PE.weak (pe_var hN hv hd hcd) λσ H Q ⟨g,ρ,M,I,h⟩=>by
  unfold ak at h;split at h
  .next d e=>
   obtain⟨v,h1,h2⟩:=I.dat i d e;exact⟨v,h1,h v H (Ex.refl H) h2.weak⟩
  .next xs e=>
   obtain⟨l,us,h1,h2,h3,h4⟩:=I.own i xs e;exact⟨.ref l,h1,h _ H (Ex.refl H) ⟨l,us,rfl,sq_of h2,h4⟩⟩
  .exact aht h
theorem yJ{o:Dat->Dat->Out Dat}{r:R2}(ho:iH aj X.K W o r)(σ:L2.St)(H:Hp)(Q:VK)(h:tQ X.K aj W (aA o fa fb) σ H Q):tOp r (tW X.K aj W fa) (tW X.K aj W fb) σ H Q:=by obtain⟨g,ρ,M,I,h⟩:=h;refine tW.go I h.bnd λd v H1 h1 e1 r1=>?_;refine tW.go (I.ex e1) (h1.bnd.mono (λ_ z=>z) λ_ z=>z.ex e1) λd2 v2 H2 h2 e2 r2=>?_;refine ho σ g H2 v v2 d d2 Q ((I.kd.ex e1).ex e2) (r1.ex e2 (I.kd.ex e1)) r2 (h2.mono (λz hz u H' e' r'=>hz u H' ((e1.trans e2).trans e') r') λ_ z=>(z.ex e1).ex e2)
theorem aaC{op:Operator}{r:R2}{o:Dat->Dat->Out Dat}(hr:OpR X (binaryOp op) r)(ho:iH aj X.K W o r)(ha:QW aj X W a fa)(hb:QW aj X W b fb):QE aj X W (.BinOp a op b pos) (aA o fa fb):=
 PE.weak (pe_op hr ha hb) λσ H Q h=>yJ ho σ H Q h
theorem Xk{op:CmpOp}{r:R2}{o:Dat->Dat->Out Dat}(hr:OpR X (compareOp op) r)(ho:iH aj X.K W o r)(ha:QW aj X W a fa)(hb:QW aj X W b fb)(hm:behindInMarks op b=false):QE aj X W (.Compare a [op] [b] pos) (aA o fa fb):=
 PE.weak (pe_cmpR hr ha hb hm) λσ H Q h=>yJ ho σ H Q h
end
instance:DecidableRel CMul:=λi j=>by unfold CMul;infer_instance
instance:DecidableRel CDiv:=λi j=>by unfold CDiv;infer_instance
instance:DecidableRel CPow:=λi j=>by unfold CPow;infer_instance
def bJ:Dat->Dat->Out Dat
 |.int i,.int j=>.ok (.int (i+j))
 |.str x,.str y=>Out.when (decide (x.length+y.length<=100000)) (.ok (.str (x++y)))
 |.list xs,.list ys=>Out.when (decide (xs.length+ys.length<=100000)) (.ok (.list (xs++ys)))
 |.tuple xs,.tuple ys=>Out.when (decide (xs.length+ys.length<=100000)) (.ok (.tuple (xs++ys)))
 |_,_=>.bad
def wG:Dat->Dat->Out Dat
 |.int i,.int j=>.ok (.int (i-j))
 |_,_=>.bad
def xq:Dat->Dat->Out Dat
 |.int i,.int j=>Out.when (decide (CMul i j)) (.ok (.int (i*j)))
 |_,_=>.bad
def oV:Dat->Dat->Out Dat
 |.int i,.int j=>Out.when (decide (CDiv i j)) (.ok (.int (i/j)))
 |_,_=>.bad
def eO:Dat->Dat->Out Dat
 |.int i,.int j=>Out.when (decide (0<j)) (.ok (.int (i%j)))
 |_,_=>.bad
def En:Dat->Dat->Out Dat
 |.int i,.int j=>Out.when (decide (CPow i j)) (.ok (.int (i^j.toNat)))
 |_,_=>.bad
def rCatS(K:agw):R2:=λx y H Q=>∃l b xs zs,x=.ref l/\y=.ref b/\SqL K H l xs/\SqL K H b zs/\xs.length+zs.length<=sizeLine/\∀p,H p=none->Q (.ref p) (upd H p (.lst (xs++zs)))
theorem WT{X:Cx}:OpR X (binaryOp .Add) (rCatS X.K):=by
 intro pins s σ H x y v u Q I rx ry h;obtain⟨l,b,xs,zs,rfl,rfl,hH,hB,hz,q⟩:=h;cases rx;cases ry;obtain⟨its,r,⟨⟨c1,d1,da1,s1⟩,n,e,hc,hd,hs⟩,_⟩:=I.list hH;obtain⟨its2,r2,⟨⟨c2,d2,da2,s2⟩,n2,e2,hc2,hd2,hs2⟩,_⟩:=I.list hB;simp only at hc hd hs hc2 hd2 hs2;subst hc hd hs hc2 hd2 hs2;have l1:=r.length;have l2:=r2.length;have ea:its.toArray++its2.toArray=(its++its2).toArray:=by simp
 refine concat_meets ⟨_,e,rfl⟩ ⟨_,e2,rfl⟩ noFill_list_add seq_list_add PySem.F.slot_list_add PySem.F.entry_list_add (PySem.F.args_list_add_2 _ _) (list_addW l b its.toArray its2.toArray n n2 none none s1 s2 (by rw[List.size_toArray,List.size_toArray];omega)) ⟨e,e2,?_⟩;rw[ea];exact⟨.ref _,_,I.lnew (t':=s.toks) (r.append r2) (by rw[agH];omega),rfl,q _ I.fresh⟩
def Vb(K:agw):R2:=λx y H Q=>rI0 (λi j=>.int (i+j)) x y H Q\/(∃i j,x=.str i/\y=.str j/\i.length+j.length<=sizeLine/\Q (.str (i++j)) H)\/rCatS K x y H Q\/rCatA K x y H Q
theorem W3{X:Cx}:OpR X (binaryOp .Add) (Vb X.K):=by
 intro pins s σ H x y v u Q I rx ry h;rcases h with h|h|h|h
 .exact op_add pins s σ H x y v u Q I rx ry h
 .exact op_add_str pins s σ H x y v u Q I rx ry h
 .exact WT pins s σ H x y v u Q I rx ry h
 .exact op_catA pins s σ H x y v u Q I rx ry h
section
variable{K:agw}{aj:aC}{W:WX}
theorem Z8:iH aj K W bJ (Vb K):=λσ g H x y d e Q k rx ry h=>by
 unfold bJ at h;split at h
 .exact .inl ⟨_,_,aK rx,aK ry,h _ H (Ex.refl H) (.int _)⟩
 .obtain⟨hz,h⟩:=h.dN;exact .inr (.inl ⟨_,_,bB rx,bB ry,sz_of (ahv hz),h _ H (Ex.refl H) (.str _)⟩)
 .obtain⟨hz,h⟩:=h.dN;obtain⟨l,us,e1,s1,t1⟩:=cD rx;obtain⟨l2,us2,e2,s2,t2⟩:=cD ry;have hl:=ahv hz;rw[<-t1.length,<-t2.length]at hl;refine .inr (.inr (.inl ⟨l,l2,us,us2,e1,e2,s1,s2,sz_of hl,λp np=>h _ _ (Ex.new np) (.lst (.inl ⟨ahA,k.fresh np⟩) ((t1.append t2).ex (Ex.new np) k))⟩))
 .obtain⟨hz,h⟩:=h.dN;obtain⟨l,us,e1,s1,t1⟩:=d9 rx;obtain⟨l2,us2,e2,s2,t2⟩:=d9 ry;have hl:=ahv hz;rw[<-t1.length,<-t2.length]at hl;refine .inr (.inr (.inr ⟨l,l2,us,us2,e1,e2,s1,s2,sz_of hl,λz=>?_,λ_ z=>?_,λ_ _ p np=>h _ _ (Ex.new np) (.tup (st_of ahA) ((t1.append t2).ex (Ex.new np) k))⟩))
  .subst z;cases t1;exact h _ H (Ex.refl H) (.tup s2 t2)
  .subst z;cases t2;rw[ag1]at h;exact h _ H (Ex.refl H) (.tup s1 t1)
 .exact aht h
theorem aaM:iH aj K W wG (rI0 λi j=>.int (i-j)):=λσ g H x y d e Q k rx ry h=>by
 unfold wG at h;split at h
 .exact⟨_,_,aK rx,aK ry,h _ H (Ex.refl H) (.int _)⟩
 .exact aht h
theorem YK:iH aj K W xq (rI CMul λi j=>.int (i*j)):=λσ g H x y d e Q k rx ry h=>by
 unfold xq at h;split at h
 .obtain⟨hz,h⟩:=h.dN;exact⟨_,_,aK rx,aK ry,ahv hz,h _ H (Ex.refl H) (.int _)⟩
 .exact aht h
theorem Yq:iH aj K W oV (rI CDiv λi j=>.int (i/j)):=λσ g H x y d e Q k rx ry h=>by
 unfold oV at h;split at h
 .obtain⟨hz,h⟩:=h.dN;exact⟨_,_,aK rx,aK ry,ahv hz,h _ H (Ex.refl H) (.int _)⟩
 .exact aht h
theorem aaX:iH aj K W eO (rI (λ_ j=>0<j) λi j=>.int (i%j)):=λσ g H x y d e Q k rx ry h=>by
 unfold eO at h;split at h
 .obtain⟨hz,h⟩:=h.dN;exact⟨_,_,aK rx,aK ry,ahv hz,h _ H (Ex.refl H) (.int _)⟩
 .exact aht h
theorem aa2:iH aj K W En (rI CPow λi j=>.int (i^j.toNat)):=λσ g H x y d e Q k rx ry h=>by
 unfold En at h;split at h
 .obtain⟨hz,h⟩:=h.dN;exact⟨_,_,aK rx,aK ry,ahv hz,h _ H (Ex.refl H) (.int _)⟩
 .exact aht h
end
mutual
def okd:Nat->Dat->Bool
 |_,.none=>true
 |_,.bool _=>true
 |_,.int _=>true
 |_,.str x=>PyData.strOk x
 |n+1,.list ds=>gY n ds
 |n+1,.tuple ds=>gY n ds
 |0,.list _=>false
 |0,.tuple _=>false
 |_,.dict _=>false
def gY:Nat->List Dat->Bool
 |_,[]=>true
 |n,d::ds=>okd n d&&gY n ds
end
mutual
theorem zY:∀(n:Nat) (d:Dat),okd n d=true->d.canLay0=true/\d.depth<=n
 |n,.none,_=>⟨by simp[PyData.canLay0],by simp[PyData.depth]⟩
 |n,.bool _,_=>⟨by simp[PyData.canLay0],by simp[PyData.depth]⟩
 |n,.int _,_=>⟨by simp[PyData.canLay0],by simp[PyData.depth]⟩
 |n,.str x,h=>⟨by rw[okd]at h;simp[PyData.canLay0,h],by simp[PyData.depth]⟩
 |n+1,.list ds,h=>by
  rw[okd]at h;obtain⟨h1,h2⟩:=wV n ds h;exact⟨by simp[PyData.canLay0,h1],by simp[PyData.depth];omega⟩
 |n+1,.tuple ds,h=>by
  rw[okd]at h;obtain⟨h1,h2⟩:=wV n ds h;exact⟨by simp[PyData.canLay0,h1],by simp[PyData.depth];omega⟩
 |0,.list _,h=>by rw[okd]at h;cases h
 |0,.tuple _,h=>by rw[okd]at h;cases h
 |n,.dict _,h=>by rw[okd]at h;cases h
theorem wV:∀(n:Nat) (ds:List Dat),gY n ds=true->PyData.canLayAll0 ds=true/\PyData.depthAll ds<=n
 |n,[],_=>⟨by simp[PyData.canLayAll0],by simp[PyData.depthAll]⟩
 |n,d::ds,h=>by
  rw[gY,agx]at h;obtain⟨h1,h2⟩:=zY n d h.1;obtain⟨h3,h4⟩:=wV n ds h.2;exact⟨by simp[PyData.canLayAll0,h1,h3],by simp[PyData.depthAll];omega⟩
end
mutual
theorem Rep.dp{K:agw}{g:Gh}{H:Hp}:∀{n:Nat} {v:V} {d:Dat},okd n d=true->Rep K g H v d->Dp K H v d
 |_,_,_,_,.non=>.non
 |_,_,_,_,.bl b=>.bl b
 |_,_,_,_,.int i=>.int i
 |_,_,_,_,.str x=>.str x
 |n+1,_,_,f,.tup h t=>.tup h (aq.dp (n:=n) (by rw[okd]at f;exact f) t)
 |n+1,_,_,f,.lst h t=>.lst h.sq (aq.dp (n:=n) (by rw[okd]at f;exact f) t)
 |0,_,_,f,.tup h t=>by rw[okd]at f;cases f
 |0,_,_,f,.lst h t=>by rw[okd]at f;cases f
 |_,_,_,f,.obj h=>by rw[okd]at f;cases f
theorem aq.dp{K:agw}{g:Gh}{H:Hp}:∀{n:Nat} {vs:List V} {ds:List Dat},gY n ds=true->aq K g H vs ds->DpAll K H vs ds
 |_,_,_,_,.nil=>.nil
 |n,_,_,f,.cons h t=>.cons (Rep.dp (n:=n) (by rw[gY,agx]at f;exact f.1) h) (aq.dp (n:=n) (by rw[gY,agx]at f;exact f.2) t)
end
theorem bf.dp{K:agw}{g:Gh}{H:Hp}{n:Nat}{v:V}{d:Dat}(f:okd n d=true)(h:bf K g H v d):Dp K H v d:=by
 cases d with
 |list ds=>
  obtain⟨a,us,rfl,h2,h3⟩:=h;cases n with
  |zero=>rw[okd]at f;cases f
  |succ n=>
   rw[okd]at f;exact .lst h2 (h3.dp f)
 |_=>exact Rep.dp f h
theorem nY{n:Nat}{d:Dat}(h:okd n d=true)(hn:n<=64):SeqAt.shaped d=true:=by obtain⟨h1,h2⟩:=zY n d h;unfold SeqAt.shaped;rw[h1,Bool.true_and];exact decide_eq_true (aha h2 hn)
def eqB:Dat->Dat->Out Bool
 |.int i,.int j=>.ok (i==j)
 |.str x,.str y=>.ok (x==y)
 |.bool x,.bool y=>.ok (x==y)
 |.none,.none=>.ok true
 |d,e=>Out.when (okd 12 d&&okd 12 e) (.ok (PyData.eqv d e))
def bW(d e:Dat):Out Dat:=(eqB d e).bind λb=>.ok (.bool b)
def ju(d e:Dat):Out Dat:=(eqB d e).bind λb=>.ok (.bool (!b))
def Zm(K:agw):R2:=λx y H Q=>rEq x y H Q\/rEqD K x y H Q
def YT(K:agw):R2:=λx y H Q=>rNe x y H Q\/rNeD K x y H Q
theorem aae{X:Cx}(hu:X.A.units+64<cLine):OpR X (compareOp .Eq) (Zm X.K):=λpins s σ H x y v u Q I rx ry h=>h.elim (λh=>op_eq pins s σ H x y v u Q I rx ry h) (λh=>op_eqD hu pins s σ H x y v u Q I rx ry h)
theorem abo{X:Cx}(hu:X.A.units+64<cLine):OpR X (compareOp .NotEq) (YT X.K):=λpins s σ H x y v u Q I rx ry h=>h.elim (λh=>op_ne pins s σ H x y v u Q I rx ry h) (λh=>op_neD hu pins s σ H x y v u Q I rx ry h)
section
variable{K:agw}{aj:aC}{W:WX}{g:Gh}{H:Hp}
theorem Qq{x y:V}{d e:Dat}{P:Bool->Prop}{E:bK->Prop}(rx:bf K g H x d)(ry:bf K g H y e)(h:(eqB d e).sat P E):(scal x y=true/\P (decide (x=y)))\/(∃d e,Dp K H x d/\Dp K H y e/\SeqAt.shaped d=true/\SeqAt.shaped e=true/\P (PyData.eqv d e)):=by
 unfold eqB at h;split at h
 .cases aK rx;cases aK ry;rw[dec_int];exact .inl ⟨rfl,h⟩
 .cases bB rx;cases bB ry;rw[dec_str];exact .inl ⟨rfl,h⟩
 .cases ql rx;cases ql ry;rw[dec_bl];exact .inl ⟨rfl,h⟩
 .cases qJ rx;cases qJ ry;exact .inl ⟨rfl,h⟩
 .obtain⟨hz,h⟩:=h.dN;rw[agx]at hz;exact .inr ⟨_,_,rx.dp hz.1,ry.dp hz.2,nY hz.1 (by decide),nY hz.2 (by decide),h⟩
theorem abw:iH aj K W bW (Zm K):=λσ g H x y d e Q k rx ry h=>by
 rcases Qq rx ry h.bnd with⟨h1,h2⟩|⟨d,e,h1,h2,h3,h4,h5⟩
 .exact .inl ⟨h1,h2 _ H (Ex.refl H) (.bl _)⟩
 .exact .inr ⟨d,e,h1,h2,h3,h4,h5 _ H (Ex.refl H) (.bl _)⟩
theorem abY:iH aj K W ju (YT K):=λσ g H x y d e Q k rx ry h=>by
 rcases Qq rx ry h.bnd with⟨h1,h2⟩|⟨d,e,h1,h2,h3,h4,h5⟩
 .exact .inl ⟨h1,h2 _ H (Ex.refl H) (.bl _)⟩
 .exact .inr ⟨d,e,h1,h2,h3,h4,h5 _ H (Ex.refl H) (.bl _)⟩
end
def NQ:Dat->Dat->Out Dat
 |.int i,.int j=>.ok (.bool (decide (i<j)))
 |.tuple ds,.tuple es=>Out.when (okd 12 (.tuple ds)&&okd 12 (.tuple es)&&PySem.W.alike (.tuple ds) (.tuple es)) (.ok (.bool (PySem.W.dataLt (.tuple ds) (.tuple es))))
 |_,_=>.bad
def qj:Dat->Dat->Out Dat
 |.int i,.int j=>.ok (.bool (decide (i<=j)))
 |_,_=>.bad
def Cd:Dat->Dat->Out Dat
 |.int i,.int j=>.ok (.bool (decide (j<i)))
 |_,_=>.bad
def PB:Dat->Dat->Out Dat
 |.int i,.int j=>.ok (.bool (decide (j<=i)))
 |_,_=>.bad
def ZL(K:agw):R2:=λx y H Q=>rI0 (λi j=>.bl (decide (i<j))) x y H Q\/Ear.yM K x y H Q
theorem aaW{X:Cx}(hu:X.A.units+65<cLine):OpR X (compareOp .Lt) (ZL X.K):=λpins s σ H x y v u Q I rx ry h=>h.elim (λh=>op_lt pins s σ H x y v u Q I rx ry h) (λh=>Ear.Tn hu pins s σ H x y v u Q I rx ry h)
section
variable{K:agw}{aj:aC}{W:WX}{g:Gh}{H:Hp}
theorem aci:iH aj K W NQ (ZL K):=λσ g H x y d e Q k rx ry h=>by
 unfold NQ at h;split at h
 .exact .inl ⟨_,_,aK rx,aK ry,h _ H (Ex.refl H) (.bl _)⟩
 .obtain⟨hz,h⟩:=h.dN;simp only[agx]at hz;refine .inr ?_;unfold Ear.yM;exact⟨_,_,rx.dp hz.1.1,ry.dp hz.1.2,hz.2,(λz=>nomatch z),aha (zY _ _ hz.1.1).2 (by decide),h _ H (Ex.refl H) (.bl _)⟩
 .exact aht h
theorem abF:iH aj K W qj (rI0 λi j=>.bl (decide (i<=j))):=λσ g H x y d e Q k rx ry h=>by
 unfold qj at h;split at h
 .exact⟨_,_,aK rx,aK ry,h _ H (Ex.refl H) (.bl _)⟩
 .exact aht h
theorem acs:iH aj K W Cd (rI0 λi j=>.bl (decide (j<i))):=λσ g H x y d e Q k rx ry h=>by
 unfold Cd at h;split at h
 .exact⟨_,_,aK rx,aK ry,h _ H (Ex.refl H) (.bl _)⟩
 .exact aht h
theorem abu:iH aj K W PB (rI0 λi j=>.bl (decide (j<=i))):=λσ g H x y d e Q k rx ry h=>by
 unfold PB at h;split at h
 .exact⟨_,_,aK rx,aK ry,h _ H (Ex.refl H) (.bl _)⟩
 .exact aht h
end
def gH(c:Dat):Dat->Bool
 |.none=>match c with
  |.none=>true
  |_=>false
 |.bool b=>match c with
  |.bool b'=>b==b'
  |_=>false
 |_=>false
def UL:Dat->Option V
 |.none=>some .non
 |.bool b=>some (.bl b)
 |_=>none
theorem Km{K:agw}{g:Gh}{H:Hp}{x:V}{d c:Dat}{v:V}(h:bf K g H x d)(hc:UL c=some v):decide (x=v)=gH c d:=by
 cases c with
 |none=>
  cases hc;cases d with
  |none=>cases qJ h;rfl
  |bool b=>cases ql h;rfl
  |int b=>cases aK h;rfl
  |str b=>cases bB h;rfl
  |list b=>obtain⟨a,us,rfl,_⟩:=cD h;rfl
  |tuple b=>obtain⟨a,us,rfl,_⟩:=d9 h;rfl
  |dict b=>cases h;rfl
 |bool c=>
  cases hc;cases d with
  |none=>cases qJ h;rfl
  |bool b=>cases ql h;exact dec_bl
  |int b=>cases aK h;rfl
  |str b=>cases bB h;rfl
  |list b=>obtain⟨a,us,rfl,_⟩:=cD h;rfl
  |tuple b=>obtain⟨a,us,rfl,_⟩:=d9 h;rfl
  |dict b=>cases h;rfl
 |_=>cases hc
def Hj(neg:Bool)(v:V):R2:=λx y H Q=>y=v/\Q (.bl (neg ^^ decide (x=v))) H
theorem QK{x v:V}{u w:Value}(hv:v=.non\/∃b,v=.bl b)(rx:RelV x u)(rv:RelV v w):(u==w)=decide (x=v):=by
 rcases hv with rfl|⟨b,rfl⟩
 .cases rv;exact rx.none_iff
 .cases rv;rw[ahh,beq_iff_eq,ahu];constructor
  .rintro rfl;cases x with
   |bl c=>cases rx;rfl
   |non=>cases rx
   |ref _=>cases rx
   |ty _=>cases rx
   |_=>obtain⟨t,z⟩:=rx;cases z
  .rintro rfl;exact rx
theorem Bt{x v:V}{u w:Value}(hv:v=.non\/∃b,v=.bl b)(rx:RelV x u)(rv:RelV v w):plainIs u w=true:=by rcases hv with rfl | ⟨b,rfl⟩<;>(cases rv;cases x<;>first | (cases rx;rfl) | (obtain⟨t,rfl⟩:=rx;rfl))
theorem ZX{X:Cx}{v:V}(hv:v=.non\/∃b,v=.bl b):OpR X (compareOp .Is) (Hj false v):=by intro pins s σ H x y u w Q I rx ry h;obtain⟨rfl,q⟩:=h;refine wpAny_is_plain (Bt hv rx ry) ?_;rw[QK hv rx ry];rw[Bool.false_xor]at q;exact⟨.bl _,H,I,rfl,q⟩
theorem Qu{X:Cx}{v:V}(hv:v=.non\/∃b,v=.bl b):OpR X (compareOp .IsNot) (Hj true v):=by intro pins s σ H x y u w Q I rx ry h;obtain⟨rfl,q⟩:=h;refine wpAny_isNot_plain (Bt hv rx ry) ?_;rw[QK hv rx ry];rw[Bool.true_xor]at q;exact⟨.bl _,H,I,rfl,q⟩
def qQ(neg:Bool)(c:Dat)(a:QF):QF:=λM ρ=>(a M ρ).bind λd=>.ok (.bool (neg ^^ gH c d))
section
variable{X:Cx}{aj:aC}{W:WX}{a b c:Expr}{fa fb fc:QF}{pos:Pos}
theorem abK{op:CmpOp}{neg:Bool}{d:Dat}{v:V}(hc:UL d=some v)(hr:OpR X (compareOp op) (Hj neg v))(ha:QW aj X W a fa)(hb:PE X b (tC v))(hm:behindInMarks op b=false):QE aj X W (.Compare a [op] [b] pos) (qQ neg d fa):=
 PE.weak (pe_cmpR hr ha hb hm) λσ H Q ⟨g,ρ,M,I,h⟩=>by
  refine tW.go I h.bnd λe x H1 h1 e1 r1=>?_;refine⟨rfl,?_⟩;rw[Km r1 hc];exact h1 _ H1 e1 (.bl _)
end
def nQ:Dat->Bool
 |.none=>true
 |.bool _=>true
 |.int _=>true
 |.str _=>true
 |_=>false
def inB:Dat->Dat->Out Bool
 |d,.list ds=>Out.when (okd 12 d&&gY 12 ds) (.ok (ds.any λz=>PyData.eqv z d))
 |d,.tuple ds=>Out.when (nQ d&&ds.all nQ) (.ok (ds.any λz=>PyData.eqv z d))
 |.str x,.str z=>match x.cps.toList with
  |[c]=>.ok (decide (c∈z.cps.toList))
  |_=>.bad
 |_,_=>.bad
def inD(neg:Bool)(d e:Dat):Out Dat:=(inB d e).bind λb=>.ok (.bool (neg ^^ b))
section
variable{K:agw}{g:Gh}{H:Hp}
theorem wU{v:V}{d:Dat}(f:nQ d=true)(h:Rep K g H v d):flatV v=true:=by
 cases h with
 |tup _ _=>cases f
 |lst _ _=>cases f
 |obj _=>cases f
 |_=>rfl
theorem uX:∀{vs:List V} {ds:List Dat},ds.all nQ=true->aq K g H vs ds->vs.all flatV=true
 |_,_,_,.nil=>rfl
 |_,_,f,.cons h t=>by
  rw[ag7,agx]at f;rw[ag7,wU f.1 h,uX f.2 t];rfl
theorem zR{v w:V}{d e:Dat}(f1:nQ d=true)(f2:nQ e=true)(h1:Rep K g H v d)(h2:Rep K g H w e):eqV v w=PyData.eqv d e:=by
 cases h1 with
 |tup _ _=>cases f1
 |lst _ _=>cases f1
 |obj _=>cases f1
 |non=>cases h2 with
  |tup _ _=>cases f2
  |lst _ _=>cases f2
  |obj _=>cases f2
  |_=>simp[eqV,PyData.eqv]
 |bl b=>cases h2 with
  |tup _ _=>cases f2
  |lst _ _=>cases f2
  |obj _=>cases f2
  |_=>simp[eqV,PyData.eqv]
 |int b=>cases h2 with
  |tup _ _=>cases f2
  |lst _ _=>cases f2
  |obj _=>cases f2
  |_=>simp[eqV,PyData.eqv]
 |str b=>cases h2 with
  |tup _ _=>cases f2
  |lst _ _=>cases f2
  |obj _=>cases f2
  |_=>simp[eqV,PyData.eqv]
theorem J5{w:V}{e:Dat}(f2:nQ e=true)(h2:Rep K g H w e):∀{vs:List V} {ds:List Dat},ds.all nQ=true->aq K g H vs ds->inV w vs=ds.any λz=>PyData.eqv z e
 |_,_,_,.nil=>rfl
 |v::vs,d::ds,f,.cons h t=>by
  rw[ag7,agx]at f;have ih:=J5 f2 h2 f.2 t;unfold inV at ih |-
  rw[ahl,ahl,ih,zR f.1 f2 h h2]
theorem Jz{v:V}{d:Dat}(f:nQ d=true)(h:bf K g H v d):Rep K g H v d:=by
 cases d with
 |list _=>cases f
 |_=>exact h
end
def Fe(K:agw)(neg:Bool):R2:=λx y H Q=>(∃d ds,Dp K H x d/\Dp K H y (.list ds)/\SeqAt.shaped d=true/\SeqAt.shaped (.list ds)=true/\Q (.bl (neg ^^ (ds.any λz=>PyData.eqv z d))) H)\/
 (∃p xs,y=.ref p/\(SqL K H p xs\/SqT K H p xs)/\flatV x=true/\xs.all flatV=true/\Q (.bl (neg ^^ inV x xs)) H)\/∃(c:Nat) (z:Str),x=.str ⟨#[c]⟩/\y=.str z/\Q (.bl (neg ^^ decide (c∈z.cps.toList))) H
theorem aak{X:Cx}(hu:X.A.units+65<cLine):OpR X (compareOp .In) (Fe X.K false):=λpins s σ H x y v u Q I rx ry h=>by
 unfold Fe at h;simp only[Bool.false_xor]at h;rcases h with⟨d,ds,h⟩|⟨p,xs,h⟩|h
 .exact op_inD hu pins s σ H x y v u Q I rx ry ⟨d,ds,h⟩
 .exact op_in_seq pins s σ H x y v u Q I rx ry ⟨p,xs,h⟩
 .exact op_in_sign pins s σ H x y v u Q I rx ry h
theorem Pk{X:Cx}(hu:X.A.units+65<cLine):OpR X (compareOp .NotIn) (Fe X.K true):=λpins s σ H x y v u Q I rx ry h=>by
 unfold Fe at h;simp only[Bool.true_xor]at h;rcases h with⟨d,ds,h⟩|⟨p,xs,h⟩|h
 .exact op_notInD hu pins s σ H x y v u Q I rx ry ⟨d,ds,h⟩
 .exact op_notIn_seq pins s σ H x y v u Q I rx ry ⟨p,xs,h⟩
 .exact op_notIn_sign pins s σ H x y v u Q I rx ry h
theorem Vn{K:agw}{aj:aC}{W:WX}{neg:Bool}:iH aj K W (inD neg) (Fe K neg):=λσ g H x y d e Q k rx ry h=>by
 replace h:=Out.sat.bnd h
 unfold inB at h;split at h
 .next ds=>
  obtain⟨hz,h⟩:=h.dN;rw[agx]at hz;have e2:okd 13 (.list ds)=true:=by rw[okd];exact hz.2
  exact .inl ⟨_,ds,rx.dp hz.1,ry.dp e2,nY hz.1 (by decide),nY e2 (by decide),h _ H (Ex.refl H) (.bl _)⟩
 .next ds=>
  obtain⟨hz,h⟩:=h.dN;rw[agx]at hz;obtain⟨p,us,rfl,h1,h2⟩:=d9 ry;have rx':=Jz hz.1 rx;refine .inr (.inl ⟨p,us,rfl,.inr h1,wU hz.1 rx',uX hz.2 h2,?_⟩);rw[J5 hz.1 rx' hz.2 h2];exact h _ H (Ex.refl H) (.bl _)
 .next xs z=>
  split at h
  .next c e=>
   refine .inr (.inr ⟨c,z,?_,bB ry,h _ H (Ex.refl H) (.bl _)⟩);rw[bB rx];congr 1;have:xs.cps=#[c]:=by apply Array.toList_inj.mp;rw[e]
   cases xs;simp only at this;rw[this]
  .exact aht h
 .exact aht h
def El:Dat->Out Dat
 |.int i=>.ok (.int (-i))
 |_=>.bad
def rM:Dat->Out Bool
 |.none=>.ok false
 |.bool b=>.ok b
 |.int i=>.ok (i != 0)
 |.str x=>Out.when (decide (x.length<=100000)) (.ok (!x.cps.toList.isEmpty))
 |.list ds=>.ok (!ds.isEmpty)
 |.tuple ds=>.ok (!ds.isEmpty)
 |_=>.bad
def mj(a:QF):QT:=λM ρ=>(a M ρ).bind rM
def nO:Dat->Out Bool
 |.bool b=>.ok b
 |_=>.bad
def aY(a:QF):QT:=λM ρ=>(a M ρ).bind nO
def nR(a:QT):QT:=λM ρ=>(a M ρ).bind λb=>.ok (!b)
def jV(a b:QT):QT:=λM ρ=>(a M ρ).bind λx=>if x=true then b M ρ else .ok false
def lg(a b:QT):QT:=λM ρ=>(a M ρ).bind λx=>if x=true then .ok true else b M ρ
def FP(a:QT):QF:=λM ρ=>(a M ρ).bind λb=>.ok (.bool b)
def Np(t:QT)(a b:QF):QF:=λM ρ=>(t M ρ).bind λx=>if x=true then a M ρ else b M ρ
theorem yx{K:agw}{g:Gh}{H:Hp}{us:List V}{ds:List Dat}(h:aq K g H us ds):(!ds.isEmpty)=!us.isEmpty:=by cases h<;>rfl
section
variable{X:Cx}{aj:aC}{W:WX}{a b c:Expr}{fa fb fc:QF}{ta tb:QT}{pos:Pos}
theorem abb(ha:QW aj X W a fa):QE aj X W (.UnaryOp .USub a pos) (bR El fa):=
 PE.weak (pe_un un_neg ha) λσ H Q ⟨g,ρ,M,I,h⟩=>by
  refine tW.go I h.bnd λd v H1 h1 e1 r1=>?_;unfold El at h1;split at h1
  .exact⟨_,aK r1,h1 _ H1 e1 (.int _)⟩
  .exact aht h1
theorem aaK{g:Gh}{H:Hp}{v:V}{d:Dat}{P:Bool->Prop}{E:bK->Prop}(r:bf X.K g H v d)(h:(rM d).sat P E):∃k,TruV X.K v H k/\P k:=by
 unfold rM at h;split at h
 .cases qJ r;exact⟨_,rfl,h⟩
 .cases ql r;exact⟨_,rfl,h⟩
 .cases aK r;exact⟨_,rfl,h⟩
 .next x=>
  obtain⟨hz,h⟩:=h.dN;cases bB r;refine⟨_,⟨sz_of (ahv hz),?_⟩,h⟩;have e:x.length=x.cps.toList.length:=by rw[agX];rfl
  rw[e];cases x.cps.toList with
  |nil=>rfl
  |cons y ys=>
   refine Eq.symm (bne_iff_ne.mpr ?_);simp;omega
 .obtain⟨p,us,rfl,h1,h2⟩:=cD r;rw[yx h2]at h;exact⟨_,.inl ⟨us,h1,rfl⟩,h⟩
 .obtain⟨p,us,rfl,h1,h2⟩:=d9 r;rw[yx h2]at h;exact⟨_,.inr (.inl ⟨us,h1,rfl⟩),h⟩
 .exact aht h
theorem aaI(ha:QW aj X W a fa)(he:∀whole,isTrue a X.env whole=(do let v <-whole;standAt a.pos;holding [v] (truthy v))):jf aj X W a (mj fa):=
 PT.weak (pt_truth ha he) λσ H Q ⟨g,ρ,M,I,h⟩=>by
  refine tW.go I h.bnd λd v H1 h1 e1 r1=>?_;obtain⟨k,h2,h3⟩:=aaK r1 h1;exact⟨k,h2,h3 H1 e1⟩
theorem pN{g:Gh}{H:Hp}{v:V}{d:Dat}{P:Bool->Prop}{E:bK->Prop}(r:bf X.K g H v d)(h:(nO d).sat P E):∃k,v=.bl k/\P k:=by
 unfold nO at h;split at h
 .cases ql r;exact⟨_,rfl,h⟩
 .exact aht h
theorem Y6{op:CmpOp}{r:R2}{o:Dat->Dat->Out Dat}(hr:OpR X (compareOp op) r)(ho:iH aj X.K W o r)(ha:QW aj X W a fa)(hb:QW aj X W b fb)(hm:behindInMarks op b=false):jf aj X W (.Compare a [op] [b] pos) (aY (aA o fa fb)):=
 PT.weak (pt_cmpR hr ha hb hm) λσ H Q ⟨g,ρ,M,I,h⟩=>by
  refine yJ ho σ H _ ⟨g,ρ,M,I,h.bnd.mono (λd h1 v H' e' r'=>?_) λ_ z=>z⟩;obtain⟨k,h2,h3⟩:=pN r'.weak h1;exact⟨k,h2,h3 H' e'⟩
theorem abR{op:CmpOp}{neg:Bool}{d:Dat}{v:V}(hc:UL d=some v)(hr:OpR X (compareOp op) (Hj neg v))(ha:QW aj X W a fa)(hb:PE X b (tC v))(hm:behindInMarks op b=false):jf aj X W (.Compare a [op] [b] pos) (aY (qQ neg d fa)):=
 PT.weak (pt_cmpR hr ha hb hm) λσ H Q ⟨g,ρ,M,I,h⟩=>by
  refine tW.go I h.bnd.bnd λe x H1 h1 e1 r1=>?_;refine⟨rfl,_,rfl,?_⟩;rw[Km r1 hc];exact h1 H1 e1
theorem aa4(ha:jf aj X W a ta):jf aj X W (.UnaryOp .Not a pos) (nR ta):=
 PT.weak (pt_not ha) λσ H Q ⟨g,ρ,M,I,h⟩=>dZ.go I h.bnd λb H1 h1 e1=>h1 H1 e1
def Kc(aj:aC)(X:Cx)(W:WX)(e:Expr)(f:QT):Prop:=PW X e (dZ X.K aj W f)
theorem PW.weak{X:Cx}{e:Expr}{t t':TT}(h:PW X e t)(k:∀σ H Q,t' σ H Q->t σ H Q):PW X e t':=⟨λwh pins s σ H Q I q=>h.run wh pins s σ H Q I (k σ H Q q)⟩
theorem abr{rest:List Expr}(ha:jf aj X W a ta)(hb:Kc aj X W (.BoolOp .And (b::rest) pos) tb):Kc aj X W (.BoolOp .And (a::b::rest) pos) (jV ta tb):=
 PW.weak (pw_and ha hb) λσ H Q ⟨g,ρ,M,I,h⟩=>by
  refine dZ.go I h.bnd λx H1 h1 e1=>?_;cases x with
  |true=>exact⟨g,ρ,M,I.ex e1,h1.mono (λb k H' e'=>k H' (e1.trans e')) λ_ z=>z.ex e1⟩
  |false=>exact h1 H1 e1
theorem abS{rest:List Expr}(ha:jf aj X W a ta)(hb:Kc aj X W (.BoolOp .Or (b::rest) pos) tb):Kc aj X W (.BoolOp .Or (a::b::rest) pos) (lg ta tb):=
 PW.weak (pw_or ha hb) λσ H Q ⟨g,ρ,M,I,h⟩=>by
  refine dZ.go I h.bnd λx H1 h1 e1=>?_;cases x with
  |true=>exact h1 H1 e1
  |false=>exact⟨g,ρ,M,I.ex e1,h1.mono (λb k H' e'=>k H' (e1.trans e')) λ_ z=>z.ex e1⟩
def CN(a:QF):QF:=FP (nR (aY a))
def lB(a b:QF):QF:=λM ρ=>(a M ρ).bind λd=>(nO d).bind λx=>if x=true then b M ρ else .ok (.bool false)
def Sv(a b:QF):QF:=λM ρ=>(a M ρ).bind λd=>(nO d).bind λx=>if x=true then .ok (.bool true) else b M ρ
theorem Xl(ha:QW aj X W a fa):QE aj X W (.UnaryOp .Not a pos) (CN fa):=
 PE.weak (pe_not ha) λσ H Q ⟨g,ρ,M,I,h⟩=>by
  refine tW.go I h.bnd.bnd.bnd λd v H1 h1 e1 r1=>?_;obtain⟨k,h2,h3⟩:=pN r1 h1;exact⟨k,h2,h3 _ H1 e1 (.bl _)⟩
theorem WQ{rest:List Expr}(ha:QE aj X W a fa)(hb:QE aj X W (.BoolOp .And (b::rest) pos) fb):QE aj X W (.BoolOp .And (a::b::rest) pos) (lB fa fb):=
 PE.weak (pe_and ha hb) λσ H Q ⟨g,ρ,M,I,h⟩=>by
  refine tQ.go I h.bnd λd v H1 h1 e1 r1=>?_;obtain⟨k,h2,h3⟩:=pN r1.weak h1.bnd;refine⟨k,h2,?_⟩;cases k with
  |true=>exact⟨g,ρ,M,I.ex e1,h3.mono (λb k v' H' e' r'=>k v' H' (e1.trans e') r') λ_ z=>z.ex e1⟩
  |false=>exact h3 _ H1 e1 (.bl false)
theorem aaE{rest:List Expr}(ha:QE aj X W a fa)(hb:QE aj X W (.BoolOp .Or (b::rest) pos) fb):QE aj X W (.BoolOp .Or (a::b::rest) pos) (Sv fa fb):=
 PE.weak (pe_or ha hb) λσ H Q ⟨g,ρ,M,I,h⟩=>by
  refine tQ.go I h.bnd λd v H1 h1 e1 r1=>?_;obtain⟨k,h2,h3⟩:=pN r1.weak h1.bnd;refine⟨k,h2,?_⟩;cases k with
  |false=>exact⟨g,ρ,M,I.ex e1,h3.mono (λb k v' H' e' r'=>k v' H' (e1.trans e') r') λ_ z=>z.ex e1⟩
  |true=>exact h3 _ H1 e1 (.bl true)
theorem Rh(hc:jf aj X W c ta)(ha:QE aj X W a fa)(hb:QE aj X W b fb):QE aj X W (.IfExp c a b pos) (Np ta fa fb):=
 PE.weak (pe_ifExp hc ha hb) λσ H Q ⟨g,ρ,M,I,h⟩=>by
  refine dZ.go I h.bnd λx H1 h1 e1=>?_;cases x with
  |true=>exact⟨g,ρ,M,I.ex e1,h1.mono (λb k v' H' e' r'=>k v' H' (e1.trans e') r') λ_ z=>z.ex e1⟩
  |false=>exact⟨g,ρ,M,I.ex e1,h1.mono (λb k v' H' e' r'=>k v' H' (e1.trans e') r') λ_ z=>z.ex e1⟩
def jO(o o':Dat->Dat->Out Dat)(a b c:QF):QT:=λM ρ=>(a M ρ).bind λx=>(b M ρ).bind λy=>(o x y).bind λz=>(nO z).bind λk=>if k=true then(c M ρ).bind λw=>(o' y w).bind nO else .ok false
theorem Io{r r':R2}{o o':Dat->Dat->Out Dat}(ho:iH aj X.K W o r)(ho':iH aj X.K W o' r'){σ:L2.St}{H:Hp}{Q:VK}{P:Bool->Hp->Prop}(hP:∀k H',P k H'->Q (.bl k) H')(h:dZ X.K aj W (jO o o' fa fb fc) σ H P):tChain r r' (tW X.K aj W fa) (tW X.K aj W fb) (tW X.K aj W fc) σ H Q:=by
 obtain⟨g,ρ,M,I,h⟩:=h;refine tW.go I h.bnd λd v H1 h1 e1 r1=>?_;have I1:=I.ex e1;refine tW.go I1 (h1.bnd.mono (λ_ z=>z) λ_ z=>z.ex e1) λd2 v2 H2 h2 e2 r2=>?_;have I2:=I1.ex e2;have r1':=r1.ex e2 I1.kd;refine ho σ g H2 v v2 d d2 _ I2.kd r1' r2 (h2.bnd.mono (λz hz u H3 e3 r3=>?_) λ_ z=>(z.ex e1).ex e2);obtain⟨k,h4,h5⟩:=pN r3.weak hz.bnd;refine⟨k,h4,?_⟩;have I3:=I2.ex e3;have e13:=(e1.trans e2).trans e3;cases k with
 |false=>exact hP _ _ (h5 H3 e13)
 |true=>
  refine tW.go I3 (h5.bnd.mono (λ_ z=>z) λ_ z=>z.ex e13) λd4 v4 H4 h6 e4 r4=>?_;refine ho' σ g H4 v2 v4 d2 d4 _ (I3.ex e4).kd ((r2.ex e3 I2.kd).ex e4 I3.kd) r4 (h6.bnd.mono (λz hz u H5 e5 r5=>?_) λ_ z=>(z.ex e13).ex e4);obtain⟨k,rfl,h8⟩:=pN r5.weak hz;exact hP _ _ (h8 H5 ((e13.trans e4).trans e5))
theorem Uj{op op':CmpOp}{r r':R2}{o o':Dat->Dat->Out Dat}(hr:OpR X (compareOp op) r)(hr':OpR X (compareOp op') r')(ho:iH aj X.K W o r)(ho':iH aj X.K W o' r')(ha:QW aj X W a fa)(hb:QW aj X W b fb)(hc:QW aj X W c fc)(hm:lastMarks [op,op'] [b,c]=false) :
  jf aj X W (.Compare a [op,op'] [b,c] pos) (jO o o' fa fb fc):=
 PT.weak (pt_chain hr hr' ha hb hc hm) λσ H Q h=>Io ho ho' (λk H' z=>⟨k,rfl,z⟩) h
theorem Sy{op op':CmpOp}{r r':R2}{o o':Dat->Dat->Out Dat}(hr:OpR X (compareOp op) r)(hr':OpR X (compareOp op') r')(ho:iH aj X.K W o r)(ho':iH aj X.K W o' r')(ha:QW aj X W a fa)(hb:QW aj X W b fb)(hc:QW aj X W c fc)(hm:lastMarks [op,op'] [b,c]=false) :
  QE aj X W (.Compare a [op,op'] [b,c] pos) (FP (jO o o' fa fb fc)):=
 PE.weak (pe_chain hr hr' ha hb hc hm) λσ H Q ⟨g,ρ,M,I,h⟩=>Io (P:=λb H1=>Q (.bl b) H1) ho ho' (λk H' z=>z) ⟨g,ρ,M,I,h.bnd.mono (λb h1 H' e'=>h1 _ H' e' (.bl b)) λ_ z=>z⟩
end
def dW:Dat->Dat->Out Dat
 |.list ds,.int i=>match atI ds i with
  |some d=>.ok d
  |none=>.bad
 |.tuple ds,.int i=>match atI ds i with
  |some d=>.ok d
  |none=>.bad
 |.str z,.int i=>Out.when (decide (z.length<=100000)) (match atI z.cps.toList i with
  |some c=>.ok (.str ⟨#[c]⟩)
  |none=>.bad)
 |_,_=>.bad
theorem J9{K:agw}{g:Gh}{H:Hp}{us:List V}{ds:List Dat}{i:Int}{d:Dat}(h:aq K g H us ds)(e:atI ds i=some d):∃v,atI us i=some v/\Rep K g H v d:=by
 unfold atI at e |-
 rw[h.length];cases hj:ixN ds.length i with
 |none=>rw[hj]at e;cases e
 |some j=>
  rw[hj]at e;obtain⟨v,h1,h2⟩:=h.get (i:=j) e;exact⟨v,h1,h2⟩
def ZF(K:agw):R2:=λx y H Q=>rIxL K x y H Q\/rIxT K x y H Q\/rIxS x y H Q
theorem adg{X:Cx}:IxR X (ZF X.K):=λvalue slice pins s σ H x y v u Q I rx ry h hs=>by
 rcases h with h|h|h
 .exact ix_list value slice pins s σ H x y v u Q I rx ry h hs
 .exact ix_tup value slice pins s σ H x y v u Q I rx ry h hs
 .exact ix_str value slice pins s σ H x y v u Q I rx ry h hs
theorem acg{K:agw}{aj:aC}{W:WX}:iH aj K W dW (ZF K):=λσ g H x y d e Q k rx ry h=>by
 unfold dW at h;split at h
 .split at h
  .next z hz=>
   obtain⟨p,us,rfl,h1,h2⟩:=cD rx;obtain⟨v,h3,h4⟩:=J9 h2 hz;exact .inl ⟨p,us,_,v,rfl,aK ry,h1,h3,h v H (Ex.refl H) h4⟩
  .exact aht h
 .split at h
  .next z hz=>
   obtain⟨p,us,rfl,h1,h2⟩:=d9 rx;obtain⟨v,h3,h4⟩:=J9 h2 hz;exact .inr (.inl ⟨p,us,_,v,rfl,aK ry,h1,h3,h v H (Ex.refl H) h4⟩)
  .exact aht h
 .obtain⟨hl,h⟩:=h.dN;split at h
  .next c hz=>exact .inr (.inr ⟨_,_,c,bB rx,aK ry,sz_of (ahv hl),hz,h _ H (Ex.refl H) (.str _)⟩)
  .exact aht h
 .exact aht h
def cutD{α:Type}(xs:List α)(lo hi:Option Int):List α:=(xs.drop (HT.sIx xs.length 0 lo)).take (HT.sIx xs.length xs.length hi-HT.sIx xs.length 0 lo)
abbrev QO:=Mo->Env->Out (Option Int)
def cW:QO:=λ_ _=>.ok none
def nJ:Dat->Out Int
 |.int i=>.ok i
 |_=>.bad
def bh(a:QF):QO:=λM ρ=>(a M ρ).bind λd=>(nJ d).bind λi=>.ok (some i)
def nM(d:Dat)(lo hi:Option Int):Out Dat:=
 match d with
 |.list ds=>.ok (.list (cutD ds lo hi))
 |.tuple ds=>.ok (.tuple (cutD ds lo hi))
 |.str z=>Out.when (decide (z.length<=100000)) (.ok (.str (cutS z lo hi)))
 |_=>.bad
def iW(a:QF)(lo hi:QO):QF:=λM ρ=>(a M ρ).bind λd=>(lo M ρ).bind λl=>(hi M ρ).bind λh=>nM d l h
def tQO(K:agw)(aj:aC)(W:WX)(f:QO):TO:=λσ H Q=>∃g ρ M,SInv K aj σ H g ρ M/\(f M ρ).sat (λo=>∀H',Ex H H'->Q o H') (gM K aj W g H σ)
def QL(aj:aC)(X:Cx)(W:WX)(e:Option Expr)(f:QO):Prop:=PO X e (tQO X.K aj W f)
def Yz(K:agw):V->Option Int->Option Int->Hp->VK->Prop:=λx lo hi H Q=>rSlL K x lo hi H Q\/rSlA K x lo hi H Q\/rSlS x lo hi H Q
theorem ac3{X:Cx}:SlR X (Yz X.K):=λpins s σ H x v vl vu lo hi sl Q I rx hs pl pu h=>by
 rcases h with h|h|h
 .exact sl_list pins s σ H x v vl vu lo hi sl Q I rx hs pl pu h
 .exact sl_tupA pins s σ H x v vl vu lo hi sl Q I rx hs pl pu h
 .exact sl_str pins s σ H x v vl vu lo hi sl Q I rx hs pl pu h
theorem abU{K:agw}{g:Gh}{H:Hp}{x:V}{d:Dat}{lo hi:Option Int}{Q:VK}{E:bK->Prop}(k:Kd g H)(rx:bf K g H x d)(h:(nM d lo hi).sat (λz=>∀v H',Ex H H'->Rep K g H' v z->Q v H') E):Yz K x lo hi H Q:=by
 unfold nM at h;have hc:∀{us:List V} {ds:List Dat},aq K g H us ds->aq K g H (cutV us lo hi) (cutD ds lo hi):=λ{us ds} t=>by
  unfold cutV cutD;rw[t.length];exact(t.drop _).take _
 split at h
 .obtain⟨p,us,rfl,h1,h2⟩:=cD rx;exact .inl ⟨p,us,rfl,h1,λq nq=>h _ _ (Ex.new nq) (.lst (.inl ⟨ahA,k.fresh nq⟩) ((hc h2).ex (Ex.new nq) k))⟩
 .next ds=>
  obtain⟨p,us,rfl,h1,h2⟩:=d9 rx;refine .inr (.inl ⟨p,us,rfl,h1,λz=>?_,λ_ q nq=>h _ _ (Ex.new nq) (.tup (st_of ahA) ((hc h2).ex (Ex.new nq) k))⟩);have e:cutD ds lo hi=ds:=by unfold cutD;rw[<-h2.length,z.1,z.2,h2.length];simp
  rw[e]at h;exact h _ H (Ex.refl H) (.tup h1 h2)
 .obtain⟨hz,h⟩:=h.dN;exact .inr (.inr ⟨_,bB rx,sz_of (ahv hz),h _ H (Ex.refl H) (.str _)⟩)
 .exact aht h
section
variable{X:Cx}{aj:aC}{W:WX}{a b:Expr}{fa fb:QF}{pos p2:Pos}
theorem acj(ha:QW aj X W a fa)(hb:QW aj X W b fb)(hs:PlainIx b):QE aj X W (.Subscript a b pos) (aA dW fa fb):=
 PE.weak (pe_ix adg ha hb hs) λσ H Q h=>yJ acg σ H Q h
theorem PO.weak{X:Cx}{e:Option Expr}{t t':TO}(h:PO X e t)(k:∀σ H Q,t' σ H Q->t σ H Q):PO X e t':=⟨λpins s σ H Q I q=>h.run pins s σ H Q I (k σ H Q q)⟩
theorem Xd:QL aj X W none cW:=PO.weak po_none λσ H Q ⟨g,ρ,M,I,h⟩=>h H (Ex.refl H)
theorem Xv(ha:QW aj X W a fa):QL aj X W (some a) (bh fa):=PO.weak (po_some ha) λσ H Q ⟨g,ρ,M,I,h⟩=>by
 refine tW.go I h.bnd λd v H1 h1 e1 r1=>?_;have h1:=h1.bnd;unfold nJ at h1;split at h1
 .exact⟨_,aK r1,h1 H1 e1⟩
 .exact aht h1
theorem ab2{lo hi:Option Expr}{fl fh:QO}(ha:QW aj X W a fa)(hl:QL aj X W lo fl)(hh:QL aj X W hi fh):QE aj X W (.Subscript a (.Slice lo hi none p2) pos) (iW fa fl fh):=
 PE.weak (pe_slice ac3 ha hl hh) λσ H Q ⟨g,ρ,M,I,h⟩=>by
  refine tW.go I h.bnd λd v H1 h1 e1 r1=>?_;have I1:=I.ex e1;refine⟨g,ρ,M,I1,h1.bnd.mono (λl h2 H2 e2=>?_) λ_ z=>z.ex e1⟩;have I2:=I1.ex e2;refine⟨g,ρ,M,I2,h2.bnd.mono (λu h3 H3 e3=>?_) λ_ z=>(z.ex e1).ex e2⟩;exact abU (I2.ex e3).kd ((r1.ex e2 I1.kd).ex e3 I2.kd) (h3.mono (λz hz v' H' e' r'=>hz v' H' (((e1.trans e2).trans e3).trans e') r') λ_ z=>z)
end
def qN(aj:aC)(K:agw)(W:WX)(o:Dat->Out Dat)(r:List V->Hp->VK->Prop):Prop:=∀(σ:L2.St) (g:Gh) (H:Hp) (x:V) (d:Dat) (Q:VK),Kd g H->bf K g H x d->
 (o d).sat (λz=>∀v H',Ex H H'->Rep K g H' v z->Q v H') (gM K aj W g H σ)->r [x] H Q
def UG(aj:aC)(K:agw)(W:WX)(o:Dat->Dat->Out Dat)(r:List V->Hp->VK->Prop):Prop:=∀(σ:L2.St) (g:Gh) (H:Hp) (x y:V) (d e:Dat) (Q:VK),Kd g H->bf K g H x d->bf K g H y e->
 (o d e).sat (λz=>∀v H',Ex H H'->Rep K g H' v z->Q v H') (gM K aj W g H σ)->r [x,y] H Q
def BV(f:Value)(x:Str):Prop:=bootBuiltins x=some f/\x≠"__name__"/\(x==("__debug__" : Str))=false
def nst:Expr->Bool
 |.Starred _ _=>false
 |_=>true
section
variable{X:Cx}{aj:aC}{W:WX}{a b c:Expr}{fa fb fc:QF}{pos p:Pos}{x:Str}
theorem aH{env:PySem.Env}{a:Expr}(h:nst a=true)(es:List Expr):starEach (a::es) env=(false,eval a env)::starEach es env:=by cases a<;>first | rfl | cases h
theorem star_any{env:PySem.Env}{pos:Pos}:∀(es:List Expr),es.all nst=true->(backTo pos (starEach es env)).any (·.1)=false
 |[],_=>by with_unfolding_all rfl
 |a::es,h=>by
  rw[ag7,agx]at h;rw[aH h.1];have ih:=star_any (env:=env) (pos:=pos) es h.2;unfold backTo at ih |-
  rw[agy,ahl,ih];rfl
theorem Vk{f:Value}{id:String}{r:List V->Hp->VK->Prop}{o:Dat->Out Dat}(hf:f=.builtin id\/f=.type id)(hc:CallR X f r)(ho:qN aj X.K W o r)(hg:Gl X x)(hm:X.mg x=none)(hv:BV f x)(ha:QW aj X W a fa)(hs:nst a=true):QE aj X W (.Call (.Name x p) [a] [] pos) (bR o fa):=by
 have h1:=pa_cons ha pa_nil (aH hs []);have key:PE X (.Call (.Name x p) [a] [] pos) (tCB r (tCons (tW X.K aj W fa) tNil)):=by
  rcases hf with rfl|rfl
  .exact pe_callB hc hg hm hv.1 h1 hv.2.1 hv.2.2 (aH hs []) (by with_unfolding_all rfl)
  .exact pe_callTy hc hg hm hv.1 h1 hv.2.1 hv.2.2 (aH hs []) (by with_unfolding_all rfl)
 refine PE.weak key λσ H Q ⟨g,ρ,M,I,h⟩=>?_;refine tW.go I h.bnd λd v H1 h1 e1 r1=>?_;exact ho σ g H1 v d Q (I.kd.ex e1) r1 (h1.mono (λz hz u H' e' r'=>hz u H' (e1.trans e') r') λ_ z=>z.ex e1)
theorem ab6{f:Value}{id:String}{r:List V->Hp->VK->Prop}{o:Dat->Dat->Out Dat}(hf:f=.builtin id\/f=.type id)(hc:CallR X f r)(ho:UG aj X.K W o r)(hg:Gl X x)(hm:X.mg x=none)(hv:BV f x)(ha:QW aj X W a fa)(hb:QW aj X W b fb)(hs:nst a=true)(hs2:nst b=true):QE aj X W (.Call (.Name x p) [a,b] [] pos) (aA o fa fb):=by
 have h1:=pa_cons ha (pa_cons hb pa_nil (aH hs2 [])) (aH hs [b]);have key:PE X (.Call (.Name x p) [a,b] [] pos) (tCB r (tCons (tW X.K aj W fa) (tCons (tW X.K aj W fb) tNil))):=by
  rcases hf with rfl|rfl
  .exact pe_callB hc hg hm hv.1 h1 hv.2.1 hv.2.2 (aH hs [b]) (star_any [b] (by simp[hs2]))
  .exact pe_callTy hc hg hm hv.1 h1 hv.2.1 hv.2.2 (aH hs [b]) (star_any [b] (by simp[hs2]))
 refine PE.weak key λσ H Q ⟨g,ρ,M,I,h⟩=>?_;refine tW.go I h.bnd λd v H1 h1 e1 r1=>?_;have I1:=I.ex e1;refine tW.go I1 (h1.bnd.mono (λ_ z=>z) λ_ z=>z.ex e1) λd2 v2 H2 h2 e2 r2=>?_;exact ho σ g H2 v v2 d d2 Q (I1.ex e2).kd (r1.ex e2 I1.kd) r2 (h2.mono (λz hz u H' e' r'=>hz u H' ((e1.trans e2).trans e') r') λ_ z=>(z.ex e1).ex e2)
end
def cG:Dat->Out Dat
 |.list ds=>.ok (.int ds.length)
 |.tuple ds=>.ok (.int ds.length)
 |.str x=>Out.when (decide (x.length<=100000)) (.ok (.int x.length))
 |_=>.bad
def zM:Dat->Out Dat
 |.int i=>.ok (.int (if i<0 then -i else i))
 |_=>.bad
def vC:Dat->Dat->Out Dat
 |.int i,.int j=>.ok (.int (if j>i then j else i))
 |_,_=>.bad
def Dr:Dat->Dat->Out Dat
 |.int i,.int j=>.ok (.int (if j<i then j else i))
 |_,_=>.bad
def intsOf:List Dat->Option (List Int)
 |[]=>some []
 |.int i::r=>(intsOf r).map (i::·)
 |_::_=>none
def jy:List Dat->Option (List Bool)
 |[]=>some []
 |.bool i::r=>(jy r).map (i::·)
 |_::_=>none
theorem rF{K:agw}{g:Gh}{H:Hp}:∀{us:List V} {ds:List Dat} {ns:List Int},aq K g H us ds->intsOf ds=some ns->us=ns.map V.int
 |_,_,ns,.nil,e=>by cases e;rfl
 |_,_,ns,.cons (d:=d) (ds:=ds) h t,e=>by
  cases d with
  |int i=>
   rw[intsOf]at e;cases hr:intsOf ds with
   |none=>rw[hr]at e;cases e
   |some r=>
    rw[hr]at e;cases e;cases h;rw[rF t hr];rfl
  |_=>cases e
theorem uE{K:agw}{g:Gh}{H:Hp}:∀{us:List V} {ds:List Dat} {ns:List Bool},aq K g H us ds->jy ds=some ns->us=ns.map V.bl
 |_,_,ns,.nil,e=>by cases e;rfl
 |_,_,ns,.cons (d:=d) (ds:=ds) h t,e=>by
  cases d with
  |bool i=>
   rw[jy]at e;cases hr:jy ds with
   |none=>rw[hr]at e;cases e
   |some r=>
    rw[hr]at e;cases e;cases h;rw[uE t hr];rfl
  |_=>cases e
@[simp]theorem KY (ns:List Int):intsOf (ns.map PyData.int)=some ns:=by
 induction ns with
 |nil=>rfl
 |cons n ns ih=>rw[agy,intsOf,ih];rfl
@[simp]theorem pB (ns:List Bool):jy (ns.map PyData.bool)=some ns:=by
 induction ns with
 |nil=>rfl
 |cons n ns ih=>rw[agy,jy,ih];rfl
def Dz:Dat->Out Dat
 |.list ds=>match intsOf ds with
  |some ns=>.ok (.int ns.sum)
  |none=>.bad
 |_=>.bad
def uM:Int->List Int->Int
 |m,[]=>m
 |m,n::ns=>uM (if n>m then n else m) ns
theorem Bq:∀(ns:List Int) (m:Int),(uM m ns∈m::ns)/\∀y∈m::ns,y<=uM m ns
 |[],m=>⟨by simp[uM],λy h=>by simp at h;subst h;exact Int.le_refl _⟩
 |n::ns,m=>by
  obtain⟨h1,h2⟩:=Bq ns (if n>m then n else m);have hm:m<=(if n>m then n else m):=by split<;>omega
  have hn:n<=(if n>m then n else m):=by split<;>omega
  have h3:=h2 _ agA;refine⟨?_,λy hy=>?_⟩
  .show uM (if n>m then n else m) ns∈_;rcases agI.mp h1 with e|e
   .rw[e];split
    .exact agz _ agA
    .exact agA
   .exact agz _ (agz _ e)
  .show y<=uM (if n>m then n else m) ns;rcases agI.mp hy with e|hy
   .omega
   .rcases agI.mp hy with e|hy
    .omega
    .exact h2 y (agz _ hy)
def maxD:Dat->Out Dat
 |.list ds=>match intsOf ds with
  |some (n::ns)=>.ok (.int (uM n ns))
  |_=>.bad
 |_=>.bad
def wD:Dat->Out Dat
 |.list ds=>match jy ds with
  |some bs=>.ok (.bool (bs.all id))
  |none=>.bad
 |_=>.bad
def EY:Dat->Out Dat
 |.list ds=>match jy ds with
  |some bs=>.ok (.bool (bs.any id))
  |none=>.bad
 |_=>.bad
def iw:Dat->Out Dat
 |.list ds=>.ok (.tuple ds)
 |.tuple ds=>.ok (.tuple ds)
 |_=>.bad
def yN:Dat->Out Dat
 |.list ds=>.ok (.list ds)
 |.tuple ds=>.ok (.list ds)
 |_=>.bad
def intD:Dat->Out Dat
 |.int i=>.ok (.int i)
 |.bool k=>.ok (.int (if k then 1 else 0))
 |.str x=>Out.when (decide (x.length<=640)) (match PySem.intText? x with
  |some n=>.ok (.int n)
  |none=>.bad)
 |_=>.bad
def Eh:Dat->Out Dat
 |.int i=>Out.when (decide (i.natAbs.log2<1920)) (.ok (.str (toString i)))
 |_=>.bad
def U4(K:agw):List V->Hp->VK->Prop:=λxs H Q=>(∃p ys,xs=[.ref p]/\(SqL K H p ys\/SqT K H p ys)/\Q (.int ys.length) H)\/∃z,xs=[.str z]/\z.length<=sizeLine/\Q (.int z.length) H
theorem YL{X:Cx}:CallR X (.builtin "len") (U4 X.K):=λpins s σ H xs us Q I r h=>h.elim (λh=>call_len_seq pins s σ H xs us Q I r h) λh=>call_len_str pins s σ H xs us Q I r h
def U9:List V->Hp->VK->Prop:=λxs H Q=>((∃i,xs=[.int i]/\Q (.int i) H)\/∃k,xs=[.bl k]/\Q (.int (if k then 1 else 0)) H)\/∃a n,xs=[.str a]/\PySem.intText? a=some n/\a.length<=640/\Q (.int n) H
theorem aaU{X:Cx}:CallR X (.type "int") U9:=λpins s σ H xs us Q I r h=>h.elim (λh=>call_int1 pins s σ H xs us Q I r h) λh=>call_int_str pins s σ H xs us Q I r h
section
variable{K:agw}{aj:aC}{W:WX}
theorem Yy:qN aj K W cG (U4 K):=λσ g H x d Q k rx h=>by
 unfold cG at h;split at h
 .obtain⟨p,us,rfl,h1,h2⟩:=cD rx;rw[<-h2.length]at h;exact .inl ⟨p,us,rfl,.inl h1,h _ H (Ex.refl H) (.int _)⟩
 .obtain⟨p,us,rfl,h1,h2⟩:=d9 rx;rw[<-h2.length]at h;exact .inl ⟨p,us,rfl,.inr h1,h _ H (Ex.refl H) (.int _)⟩
 .obtain⟨hz,h⟩:=h.dN;cases bB rx;exact .inr ⟨_,rfl,sz_of (ahv hz),h _ H (Ex.refl H) (.int _)⟩
 .exact aht h
theorem aad:qN aj K W zM (λxs H Q=>∃i,xs=[.int i]/\Q (.int (if i<0 then -i else i)) H):=λσ g H x d Q k rx h=>by
 unfold zM at h;split at h
 .cases aK rx;exact⟨_,rfl,h _ H (Ex.refl H) (.int _)⟩
 .exact aht h
theorem V8:UG aj K W vC (λxs H Q=>∃i j,xs=[.int i,.int j]/\Q (.int (if j>i then j else i)) H):=λσ g H x y d e Q k rx ry h=>by
 unfold vC at h;split at h
 .cases aK rx;cases aK ry;exact⟨_,_,rfl,h _ H (Ex.refl H) (.int _)⟩
 .exact aht h
theorem Vv:UG aj K W Dr (λxs H Q=>∃i j,xs=[.int i,.int j]/\Q (.int (if j<i then j else i)) H):=λσ g H x y d e Q k rx ry h=>by
 unfold Dr at h;split at h
 .cases aK rx;cases aK ry;exact⟨_,_,rfl,h _ H (Ex.refl H) (.int _)⟩
 .exact aht h
theorem aa5:qN aj K W Dz (rSum K):=λσ g H x d Q k rx h=>by
 unfold Dz at h;split at h
 .split at h
  .next ns e=>
   obtain⟨p,us,rfl,h1,h2⟩:=cD rx;have:=rF h2 e;subst this;exact⟨p,ns,rfl,h1,h _ H (Ex.refl H) (.int _)⟩
  .exact aht h
 .exact aht h
theorem Ze:qN aj K W maxD (rMax K):=λσ g H x d Q k rx h=>by
 unfold maxD at h;split at h
 .split at h
  .next n ns e=>
   obtain⟨p,us,rfl,h1,h2⟩:=cD rx;have:=rF h2 e;subst this;obtain⟨m1,m2⟩:=Bq ns n;refine⟨p,n::ns,rfl,h1,by simp,λm hm hy=>?_⟩;have e2:m=uM n ns:=Int.le_antisymm (m2 m hm) (hy _ m1);rw[e2];exact h _ H (Ex.refl H) (.int _)
  .exact aht h
 .exact aht h
theorem YD:qN aj K W wD (rAll K):=λσ g H x d Q k rx h=>by
 unfold wD at h;split at h
 .split at h
  .next ns e=>
   obtain⟨p,us,rfl,h1,h2⟩:=cD rx;have:=uE h2 e;subst this;exact⟨p,ns,rfl,h1,h _ H (Ex.refl H) (.bl _)⟩
  .exact aht h
 .exact aht h
theorem aaQ:qN aj K W EY (rAny K):=λσ g H x d Q k rx h=>by
 unfold EY at h;split at h
 .split at h
  .next ns e=>
   obtain⟨p,us,rfl,h1,h2⟩:=cD rx;have:=uE h2 e;subst this;exact⟨p,ns,rfl,h1,h _ H (Ex.refl H) (.bl _)⟩
  .exact aht h
 .exact aht h
theorem Tg:qN aj K W iw (λxs H Q=>∃p ys,xs=[.ref p]/\((SqL K H p ys/\∀l,H l=none->Q (.ref l) (upd H l (.tup ys)))\/(SqT K H p ys/\Q (.ref p) H))):=λσ g H x d Q k rx h=>by
 unfold iw at h;split at h
 .obtain⟨p,us,rfl,h1,h2⟩:=cD rx;exact⟨p,us,rfl,.inl ⟨h1,λl nl=>h _ _ (Ex.new nl) (.tup (st_of ahA) (h2.ex (Ex.new nl) k))⟩⟩
 .obtain⟨p,us,rfl,h1,h2⟩:=d9 rx;exact⟨p,us,rfl,.inr ⟨h1,h _ H (Ex.refl H) (.tup h1 h2)⟩⟩
 .exact aht h
theorem Wj:qN aj K W yN (λxs H Q=>∃p ys,xs=[.ref p]/\(SqL K H p ys\/SqT K H p ys)/\∀l,H l=none->Q (.ref l) (upd H l (.lst ys))):=λσ g H x d Q k rx h=>by
 unfold yN at h;split at h
 .obtain⟨p,us,rfl,h1,h2⟩:=cD rx;exact⟨p,us,rfl,.inl h1,λl nl=>h _ _ (Ex.new nl) (.lst (.inl ⟨ahA,k.fresh nl⟩) (h2.ex (Ex.new nl) k))⟩
 .obtain⟨p,us,rfl,h1,h2⟩:=d9 rx;exact⟨p,us,rfl,.inr h1,λl nl=>h _ _ (Ex.new nl) (.lst (.inl ⟨ahA,k.fresh nl⟩) (h2.ex (Ex.new nl) k))⟩
 .exact aht h
theorem aaV:qN aj K W intD U9:=λσ g H x d Q k rx h=>by
 unfold intD at h;split at h
 .cases aK rx;exact .inl (.inl ⟨_,rfl,h _ H (Ex.refl H) (.int _)⟩)
 .cases ql rx;exact .inl (.inr ⟨_,rfl,h _ H (Ex.refl H) (.int _)⟩)
 .obtain⟨hz,h⟩:=h.dN;split at h
  .next n e=>
   cases bB rx;exact .inr ⟨_,n,rfl,e,ahv hz,h _ H (Ex.refl H) (.int _)⟩
  .exact aht h
 .exact aht h
theorem Yd:qN aj K W Eh (λxs H Q=>∃i,xs=[.int i]/\i.natAbs.log2<1920/\Q (.str (toString i)) H):=λσ g H x d Q k rx h=>by
 unfold Eh at h;split at h
 .obtain⟨hz,h⟩:=h.dN;cases aK rx;exact⟨_,rfl,ahv hz,h _ H (Ex.refl H) (.str _)⟩
 .exact aht h
end
inductive uU where
 |int|bool|str|tuple|list
def uU.name:uU->String
 |.int=>"int"
 |.bool=>"bool"
 |.str=>"str"
 |.tuple=>"tuple"
 |.list=>"list"
def jX(t:uU):Dat->Option Bool
 |.none=>some false
 |.int _=>some (match t with
  |.int=>true
  |_=>false)
 |.bool _=>some (match t with
  |.int=>true
  |.bool=>true
  |_=>false)
 |.str _=>some (match t with
  |.str=>true
  |_=>false)
 |.tuple _=>some (match t with
  |.tuple=>true
  |_=>false)
 |.list _=>some (match t with
  |.list=>true
  |_=>false)
 |.dict _=>none
def je(t:uU)(d:Dat):Out Dat:=match jX t d with
 |some b=>.ok (.bool b)
 |none=>.bad
def Sd:Dat->String
 |.none=>"NoneType"
 |.int _=>"int"
 |.bool _=>"bool"
 |.str _=>"str"
 |.tuple _=>"tuple"
 |.list _=>"list"
 |.dict _=>"dict"
theorem Zd{K:agw}{H:Hp}{a:Addr}{xs:List V}(h:SqL K H a xs):TyX K H (.ref a) (.type "list"):=by
 rcases h with(h|⟨o,h⟩)|⟨o,its,n,h1,h2,_⟩
 .exact .base (.lst h)
 .exact .base (.frz h)
 .exact .kList h1 h2
theorem Zx{K:agw}{H:Hp}{a:Addr}{xs:List V}(h:SqT K H a xs):TyX K H (.ref a) (.type "tuple"):=by
 rcases h with(h|⟨o,h⟩)|⟨o,its,n,h1,h2,_⟩
 .exact .base (.tup h)
 .exact .fTuple h
 .exact .kTuple h1 h2
theorem abN{K:agw}{g:Gh}{H:Hp}{x:V}{d:Dat}(h:bf K g H x d)(hd:∀kv,d≠.dict kv):TyX K H x (.type (Sd d)):=by
 cases d with
 |none=>cases qJ h;exact .base .non
 |bool b=>cases ql h;exact .base (.bl _)
 |int b=>cases aK h;exact .base (.int _)
 |str b=>cases bB h;exact .base (.str _)
 |list b=>obtain⟨a,us,rfl,h1,_⟩:=cD h;exact Zd h1
 |tuple b=>obtain⟨a,us,rfl,h1,_⟩:=d9 h;exact Zx h1
 |dict kv=>exact absurd rfl (hd kv)
theorem Xh{K:agw}{t:uU}{d:Dat}{b:Bool}(h:jX t d=some b):PySem.W.kitOne K (.type (Sd d)) (.type t.name)=some b/\∀kv,d≠.dict kv:=by
 cases d with
 |dict kv=>cases h
 |_=>cases t<;>cases h<;>exact⟨kit_ty (by dsimp only[Sd,uU.name];decide +kernel),λ_ z=>nomatch z⟩
def kW(t:uU)(a:QF):QF:=bR (je t) a
section
variable{X:Cx}{aj:aC}{W:WX}{a b:Expr}{fa:QF}{pos p p2:Pos}{x y:Str}
theorem Yt{t:uU}(hg:Gl X x)(hm:X.mg x=none)(hv:BV (.builtin "isinstance") x)(hg2:Gl X y)(hm2:X.mg y=none)(hv2:BV (.type t.name) y)(ha:QW aj X W a fa)(hs:nst a=true):QE aj X W (.Call (.Name x p) [a,.Name y p2] [] pos) (kW t fa):=by
 have hb:PE X (.Name y p2) (tC (.ty t.name)):=pe_bltn hg2 hm2 hv2.1 rfl hv2.2.1 hv2.2.2;have h1:=pa_cons ha (pa_cons hb pa_nil (aH (a:=.Name y p2) rfl [])) (aH hs [.Name y p2]);have key:=pe_callB (pos:=pos) (p:=p) call_isi hg hm hv.1 h1 hv.2.1 hv.2.2 (aH hs [.Name y p2]) (star_any [.Name y p2] rfl);refine PE.weak key λσ H Q ⟨g,ρ,M,I,h⟩=>?_;refine tW.go I h.bnd λd v H1 h1 e1 r1=>?_;unfold je at h1;split at h1
 .next bb e=>
  obtain⟨k1,k2⟩:=Xh (K:=X.K) e;exact⟨v,_,_,_,bb,rfl,.ty _,abN r1 k2,k1,h1 _ H1 e1 (.bl _)⟩
 .exact aht h1
end
inductive Src where
 |lst (a:Addr)|tup (a:Addr)|str (x:Str)
def chars(x:Str):List V:=x.cps.toList.map λc=>V.str ⟨#[c]⟩
def Src.sq(K:agw)(H:Hp)(us:List V):Src->Prop
 |.lst a=>SqL K H a us
 |.tup a=>SqT K H a us
 |.str x=>us=chars x
def Src.it(h:Heap)(i:Addr)(n:Nat):Src->Prop
 |.lst a=>h.IsListIter i a n
 |.tup a=>h.IsTupleIter i a n
 |.str x=>∃t,h.IsStrIter i (strIterType x) x t n
def Src.ad:Src->List Addr
 |.lst a=>[a]
 |.tup a=>[a]
 |.str _=>[]
section
variable{X:Cx}{pins:List (Addr×Obj)}{σ:L2.St}{H:Hp}{s:Shared}
theorem Src.inj{S:Src}{us ws:List V}(I:L2.Inv X pins σ H s)(h:S.sq X.K H us)(h':S.sq X.K H ws):us=ws:=by
 cases S with
 |lst a=>exact I.list_inj h h'
 |tup a=>exact I.tuple_inj h h'
 |str x=>exact Eq.trans h (Eq.symm h')
theorem Src.draws{S:Src}{us:List V}{i:Addr}{n:Nat}(I:L2.Inv X pins σ H s)(hA:X.A.handled=none)(hs:S.sq X.K H us)(hi:S.it s.heap i n)(hne:∀a∈S.ad,a≠i) :
  ∃(P:Nat->Value->Prop) (St:Nat->Heap->Prop),Draws X.prog X.w X.A.in1 i (i::S.ad) us.length P St/\St n s.heap/\(∀m h,St m h->S.it h i m)/\∀(m:Nat) (v:Value) (x:V),P m v->us[m]?=some x->RelV x v:=by
 cases S with
 |lst a=>
  obtain⟨its,rv,p,hz⟩:=I.list hs;have hl:=rv.length;have D:=Draws.list (prog:=X.prog) (w:=X.w) (A:=X.A.in1) hA i a (hne a (by simp[Src.ad])) its.toArray;rw[List.size_toArray,<-hl]at D;refine⟨_,_,D,⟨hi,p.isList⟩,λm h z=>z.1,λm v x hv hx=>?_⟩;obtain⟨u,hu,ru⟩:=rv.get hx;have:v=u:=ag0 (hv.symm.trans (by simpa using hu));rw[this];exact ru
 |tup a=>
  obtain⟨its,rv,p,hz⟩:=I.tuple hs;have hl:=rv.length;have D:=Draws.tuple (prog:=X.prog) (w:=X.w) (A:=X.A.in1) hA i a (hne a (by simp[Src.ad])) its.toArray;rw[List.size_toArray,<-hl]at D;refine⟨_,_,D,⟨hi,p⟩,λm h z=>z.1,λm v x hv hx=>?_⟩;obtain⟨u,hu,ru⟩:=rv.get hx;have:v=u:=ag0 (hv.symm.trans (by simpa using hu));rw[this];exact ru
 |str x=>
  obtain⟨t,hi⟩:=hi;have hl:us.length=x.cps.size:=by rw[show us=chars x from hs];unfold chars;rw[agB,agX]
  have D:=Draws.text (prog:=X.prog) (w:=X.w) (A:=X.A.in1) hA i x t;rw[<-hl]at D;refine⟨_,_,D,hi,λm h z=>⟨t,z⟩,λm v y hv hy=>?_⟩;obtain⟨c,u,hc,rfl⟩:=hv;rw[show us=chars x from hs]at hy;unfold chars at hy;rw[agS,ahd,hc]at hy;cases hy;exact⟨u,rfl⟩
theorem Src.vm{S:Src}{h:Heap}{i:Addr}{n:Nat}(hi:S.it h i n):∃o,h.get? i=some o/\∀v,o.data≠.cell v:=by
 cases S with
 |lst a=>obtain⟨o,e,_,d⟩:=hi;exact⟨o,e,λv q=>by rw[d]at q;cases q⟩
 |tup a=>obtain⟨o,e,_,d⟩:=hi;exact⟨o,e,λv q=>by rw[d]at q;cases q⟩
 |str x=>obtain⟨t,o,e,_,d⟩:=hi;exact⟨o,e,λv q=>by rw[d]at q;cases q⟩
theorem Src.vJ{S:Src}{h h':Heap}{i:Addr}{n:Nat}(hi:S.it h i n)(k:∀o,h.get? i=some o->h'.get? i=some o):S.it h' i n:=by
 cases S with
 |lst a=>exact hi.at k
 |tup a=>exact hi.at k
 |str x=>obtain⟨t,o,e,r⟩:=hi;exact⟨t,o,k o e,r⟩
end
def ItE(K:agw)(S:Src)(k₀:Int):It:=
 ⟨λi H=>∃(us:List V) (x:V),S.sq K H us/\us[i]?=some x,λi H v H'=>∃T x,v=.ref T/\H T=none/\H'=upd H T (.tup [.int (k₀+(i:Int)),x])/\∀us,S.sq K H us->us[i]?=some x,λi H=>∃us:List V,S.sq K H us/\us.length=i⟩
theorem abZ{P:Program}{w:World}{K:agw}{elts:List Expr}{kk:Nat}{tpos:Pos}(S:Src)(e i0:Addr)(k₀:Int)(hne:e≠i0)(ha:∀a∈S.ad,e≠a/\a≠i0) :
  Turn P w K (.Tuple elts kk tpos) (ItE K S k₀) [e,i0] e (λi h=>(∃old,IsEnum h e i0 (k₀+(i:Int)) old)/\S.it h i0 i) where
 mem:=by simp
 obj:=λi h st b hb=>by
  obtain⟨⟨old,he⟩,hi⟩:=st;have e':b=e\/b=i0:=by simpa using hb
  rcases e' with z|z
  .rw[z];exact⟨_,he,λv q=>nomatch q⟩
  .rw[z];exact Src.vm hi
 keep:=λi h h' st k=>let⟨⟨old,he⟩,hi⟩:=st;⟨⟨old,k e (by simp) _ he⟩,Src.vJ hi λo q=>k i0 (by simp) o q⟩
 item:=by
  intro X hP hw hK hc i pins s σ H E I hf st hg;subst hP hw hK;obtain⟨⟨old,he⟩,hit⟩:=st;obtain⟨us,x,hq,hx⟩:=hg;obtain⟨PP,St,D,st0,stI,rel⟩:=Src.draws I (I.ok.hd hc) hq hit λa z=>(ha a z).2;have hel:e<s.heap.objs.size:=Heap.lt_size he;have hil:i0<s.heap.objs.size:=by obtain⟨_,q,_⟩:=Src.vm hit;exact Heap.lt_size q
  have hin:i<us.length:=(agE.mp hx).1;refine wpAny_pyNext_enum_itemC D he st0 hin hne (λz=>?_) λv h' tk hP ho hst' hT hsz hk=>?_
  .rcases agI.mp z with z|z
   .exact hne z
   .exact(ha e z).1 rfl
  have ru:=rel i v x hP hx;refine⟨_,rfl,wpAny_letOwnedTupleGo_enum (s:={ s with heap:=h',toks:=tk+1 }) ho λh'' he' sb=>?_⟩;have hT2:h''.get? s.heap.objs.size=some { cls:=.type "tuple",data:=.seq #[.int (k₀+(i:Int)) tk,v] }:=(sb.2 _ (Nat.ne_of_gt hel)).trans hT
  have new:ObjOk X.prog X.w (upd H s.heap.objs.size (.tup [.int (k₀+(i:Int)),x])) h'' s.heap.objs.size (.tup [.int (k₀+(i:Int)),x]):=
   ⟨by show 2<=sizeLine;decide,[.int (k₀+(i:Int)) tk,v],.cons ⟨_,rfl⟩ (.cons ru .nil),⟨_,hT2,rfl,_,rfl⟩⟩
  have I1:L2.Inv X pins σ (upd H s.heap.objs.size (.tup [.int (k₀+(i:Int)),x])) { s with heap:=h'',toks:=tk+1 }:=
   I.turnedNew (ch:=[e,i0]) (λb ob hb q=>(sb.2 b (λz=>hb (by simp[z]))).trans (hk b ob (λz=>hb (by simp[z])) (λz=>hb (by simp[z])) q)) hf (agL _) new
  refine⟨.ref s.heap.objs.size,_,I1,rfl,⟨_,x,rfl,I.hok.fresh (agL _),rfl,λys hy=>by rw[Src.inj I hy hq];exact hx⟩,⟨⟨v,?_⟩,Src.vJ (stI _ _ hst') λo q=>(sb.2 i0 (Ne.symm hne)).trans q⟩,λb hb=>?_⟩
  .have e1:k₀+((i+1:Nat):Int)=k₀+(i:Int)+1:=by omega
   rw[e1];exact he'
  .have hb':b<s.heap.objs.size:=by
    have e':b=e\/b=i0:=by simpa using hb
    rcases e' with z|z
    .rw[z];exact hel
    .rw[z];exact hil
   rw[upd_ne (ag4 hb')];exact(hf b hb).1
 done:=by intro X hP hw hK hc i pins s σ H E I hf st hg;subst hP hw hK;obtain⟨⟨old,he⟩,hit⟩:=st;obtain⟨us,hq,hx⟩:=hg;obtain⟨PP,St,D,st0,stI,rel⟩:=Src.draws I (I.ok.hd hc) hq hit λa z=>(ha a z).2;obtain⟨f0,f1,f2,f3,f4,f5⟩:=hf i0 (by simp);rw[<-hx]at st0;exact wpAny_pyNext_enum_endD D he st0 λh' eb=>⟨rfl,I.turned (t':=s.toks) (λb o hb q=>eb b o hb q) f0 f1 f3 f4 f5⟩
 self:=λA i s Q E st h=>let⟨⟨_,he⟩,_⟩:=st;wpAny_pyIter_enum he h
theorem Src.begins{X:Cx}{pins:List (Addr×Obj)}{σ:L2.St}{H:Hp}{s:Shared}{S:Src}{us:List V}{x:V}{v:Value}(I:L2.Inv X pins σ H s)(hs:S.sq X.K H us)(hx:(∃a,x=.ref a/\S.ad=[a]/\(S=.lst a\/S=.tup a))\/∃y,S=.str y/\x=.str y)(r:RelV x v) :
  ∃(o:Obj) (B:Heap->Prop),Begins v o B/\B s.heap/\(∀h i,h.get? i=some o->S.it h i 0)/\∀a∈S.ad,a<s.heap.objs.size:=by
 rcases hx with⟨a,rfl,ha,h|h⟩|⟨y,h,rfl⟩
 .subst h;cases r;obtain⟨its,rv,p,_⟩:=I.list hs;obtain⟨o1,ho1,_⟩:=id p.isList;refine⟨_,_,begins_list a its.toArray,p.isList,λh i e=>⟨_,e,rfl,rfl⟩,λb hb=>?_⟩;rw[ha]at hb;rw[agJ.mp hb];exact Heap.lt_size ho1
 .subst h;cases r;obtain⟨its,rv,p,_⟩:=I.tuple hs;obtain⟨o1,ho1,_⟩:=id p;refine⟨_,_,begins_tuple a its.toArray,p,λh i e=>⟨_,e,rfl,rfl⟩,λb hb=>?_⟩;rw[ha]at hb;rw[agJ.mp hb];exact Heap.lt_size ho1
 .subst h;obtain⟨t,rfl⟩:=r;exact⟨_,_,begins_text y t,ahs,λh i e=>⟨t,_,e,rfl,rfl⟩,λb hb=>nomatch hb⟩
def srcOf(x:V)(S:Src):Prop:=(∃a,x=.ref a/\S.ad=[a]/\(S=.lst a\/S=.tup a))\/∃y,S=.str y/\x=.str y
def iEn(K:agw)(ta:TA)(k₀:Int):TI:=λσ H R=>ta σ H λvs H1=>∃x S us,vs=[x]/\srcOf x S/\S.sq K H1 us/\R (ItE K S k₀) H1
section
variable{X:Cx}{a b:Expr}{ta tb:TA}{p pos tpos:Pos}{elts:List Expr}{kk:Nat}
theorem YG{pins:List (Addr×Obj)}{σ:L2.St}{H:Hp}{s:Shared}(I:L2.Inv X pins σ H s):∀b∈[s.heap.objs.size+1,s.heap.objs.size],FpOk X pins H b:=λb hb=>by
 have e':b=s.heap.objs.size+1\/b=s.heap.objs.size:=by simpa using hb
 have hle:s.heap.objs.size<=b:=by
  rcases e' with z|z
  .rw[z];exact Nat.le_add_right _ _
  .rw[z];exact agL _
 exact I.fpOk hle (I.hok.fresh hle)
theorem U0{pins:List (Addr×Obj)}{σ:L2.St}{H:Hp}{s:Shared}{S:Src}{us:List V}{x:V}{v:Value}{o:Obj}{k₀:Int}{R:It->Hp->Prop}{h':Heap}(I:L2.Inv X pins σ H s)(hlt:∀a∈S.ad,a<s.heap.objs.size)(hit:∀h i,h.get? i=some o->S.it h i 0)
  (he:IsEnum h' (s.heap.objs.size+1) s.heap.objs.size k₀ .none) (ho:h'.get? s.heap.objs.size=some o) (hk:∀b o,s.heap.get? b=some o->h'.get? b=some o) (q:R (ItE X.K S k₀) H) :
  wpAny (model X.prog X.w) X.A (pyIter (.ref (s.heap.objs.size+1))) (PIE X pins σ (.Tuple elts kk tpos) R) X.xe { s with heap:=h' }:=by
 refine wpAny_pyIter_enum he ?_;have I2:L2.Inv X pins σ H { s with heap:=h' }:=I.kept (t':=s.toks) hk;refine⟨s.heap.objs.size+1,[s.heap.objs.size+1,s.heap.objs.size],_,_,H,rfl,I2,abZ S (s.heap.objs.size+1) s.heap.objs.size k₀ (Nat.succ_ne_self _) (λa z=>?_),⟨⟨.none,?_⟩,hit _ _ ho⟩,YG I,q⟩
 .have:=hlt a z;exact⟨Nat.ne_of_gt (ahf this),ag4 this⟩
 .rw[show k₀+((0:Nat):Int)=k₀ by simp];exact he
theorem R8{v:Value}{o:Obj}{B:Heap->Prop}(hB:Begins v o B) :
  Meets (Builtin.«enumerate.__new__» ⟨[.type "enumerate",v],[]⟩) (λ_ R s=>B s.heap/\
   R (.ok (.ret (.ref (s.heap.push o).objs.size))) { s with heap:=(s.heap.push o).push { cls:=.type "enumerate",data:=.fields #[.none,.bool false,.ref s.heap.objs.size,rawInt 0,.none,.none] } }):=
 .of_wp λprog w A R s hh=>by
  obtain⟨hp,gs,dr,tk,os⟩:=s;obtain⟨hb,hr⟩:=hh;have hsub:=sub_enumerate;have qi:∀{A':Around} {E:Value->Shared->Prop} {Q:Value->Shared->Prop},Q (.ref hp.objs.size) ⟨hp.push o,gs,dr,tk,os⟩->wpAny (model prog w) A' (pyIter v) Q E ⟨hp,gs,dr,tk,os⟩:=λz=>hB.iter prog w _ _ ⟨hp,gs,dr,tk,os⟩ _ hb z
  wp_walk using qi
  refine wpAny_stack_any λst=>ahx ?_;split
  .next c _ _ _ _ _=>
   cases(c==Value.type "enumerate")<;>(wp_walk using qi;exact⟨_,rfl,hr⟩)
  .wp_walk using qi
   exact⟨_,rfl,hr⟩
theorem Ox{prog:Program}{w:World}{A:Around}{E:Value->Shared->Prop}{s:Shared}{v:Value}{o:Obj}{B:Heap->Prop}{Q:Value->Shared->Prop}(hB:Begins v o B)(hb:B s.heap)
  (h:∀h',IsEnum h' (s.heap.objs.size+1) s.heap.objs.size 0 .none->h'.get? s.heap.objs.size=some o->(∀b o,s.heap.get? b=some o->h'.get? b=some o)->Q (.ref (s.heap.objs.size+1)) { s with heap:=h' }) :
  wpAny (model prog w) A (call (.type "enumerate") [v]) Q E s:=by
 refine callType_new F.called_enumerate (by decide) (F.typeCall_enumerate_1 _) (F.newCall_enumerate_1 _) (λob=>F.args_object_init_2 ob _) F.entry_enumerate_new (R8 hB) ⟨hb,?_⟩;have hz:(s.heap.push o).objs.size=s.heap.objs.size+1:=Heap.size_push ..;have he:=Heap.get?_push_size (s.heap.push o) (o:={ cls:=.type "enumerate",data:=.fields #[.none,.bool false,.ref s.heap.objs.size,rawInt 0,.none,.none] }) rfl
 show _/\_;rw[hz]at he |-
 exact⟨⟨_,he,rfl⟩,h _ he (Heap.get?_push_of_some _ (Heap.get?_push_size _ hB.free)) λb u z=>Heap.get?_push_of_some _ (Heap.get?_push_of_some _ z)⟩
theorem acD(hg:Gl X "enumerate")(hm:X.mg "enumerate"=none)(ha:PA X [a] ta)(hs:nst a=true):PI X (.Tuple elts kk tpos) (.Call (.Name "enumerate" p) [a] [] pos) (iEn X.K ta 0):=by refine⟨λpins s σ H R I h=>?_⟩;refine Call_ (ld_blt I hg hm boot_enumerate (PyProof.Rows.callWith_type1 (thn (ha.run pos pins s σ H _ I h) λus s1 ⟨vs,H1,I1,r1,x,S,us',ev,hx,hq,q⟩=>?_) (aH hs []) (by with_unfolding_all rfl)));subst ev;obtain⟨v,rfl,r⟩:=vals1 r1;obtain⟨o,B,hB,hb,hit,hlt⟩:=Src.begins I1 hq hx r;exact Ox hB hb λh' he ho hk=>U0 (x:=x) (v:=v) (us:=us') I1 hlt hit he ho hk q
theorem QV{M:Model}{A:Around}{E:Value->Shared->Prop}{s:Shared}{pos:Pos}{T:String}{args:List (Bool×Sem Value)}{kws:List (Option Str×Sem Value)}{Q:Value->Shared->Prop}(h1:args.any (·.1)=false)(h2:kws.any (·.1.isNone)=false)
  (h:wpAny M A (evalArgs (.type T) true args kws) (λz s₁=>wpAny M A (call (.type T) z.pos z.kw) Q E s₁) E s):wpAny M A (callWith pos (.type T) [] args kws) Q E s:=by
 unfold callWith;refine ahw (wpAny_holding (wpAny_mono h (λz s₁ hz=>ahw (wpAny_standAt ?_)) λ_ _ y=>y));rw[h1,h2];refine ahw (ahx ?_);exact ahw (wpAny_mono hz (λr s₂ hr=>ahw (wpAny_holding (wpAny_point (ahx hr)))) λ_ _ y=>y)
theorem aaz{k₀:Int}{j:Nat}{kp kp2:Pos}(hk0 : -(2^63)<=k₀)(hk1:k₀<2^63)(hg:Gl X "enumerate")(hm:X.mg "enumerate"=none)(ha:PA X [a] ta)(hs:nst a=true) :
  PI X (.Tuple elts kk tpos) (.Call (.Name "enumerate" p) [a] [⟨some "start",.Constant (.int k₀) j kp,kp2⟩] pos) (iEn X.K ta k₀):=by
 refine⟨λpins s σ H R I h=>?_⟩;have hpk:PK X [⟨some "start",.Constant (.int k₀) j kp,kp2⟩] (tCons (tC (.int k₀)) tNil):=pk_cons pe_int pk_nil
 refine wpAny_Call_Name_kw (ld_blt I hg hm boot_enumerate (QV (star_any [a] (by simp[hs])) (by with_unfolding_all rfl) ?_));refine PyProof.Rows.evalArgs_kw2 (by with_unfolding_all rfl) (thn (ha.run pos pins s σ H _ I h) λus s1 ⟨vs,H1,I1,r1,x,S,us',ev,hx,hq,q⟩=>?_) (by first | (rw[aH hs];done) | (rw[aH hs];rfl) | rw[aH hs]);refine thn (hpk.run pos pins s1 σ H1 (λzs H2=>zs=[.int k₀]/\H2=H1) I1 ⟨rfl,rfl⟩) λws s2 ⟨zs,H2,I2,r2,e1,e2⟩=>?_;subst ev e1 e2;obtain⟨v,rfl,r⟩:=vals1 r1;obtain⟨w,rfl,t,rfl⟩:=vals1 r2;obtain⟨o,B,hB,hb,hit,hlt⟩:=Src.begins I2 hq hx r;exact enum_begins_start hB hb hk0 hk1 λh' he ho _ hk=>U0 (x:=x) (v:=v) (us:=us') I2 hlt hit he ho hk q
def ItZ(K:agw)(S T:Src):It:=
 ⟨λi H=>∃(us ws:List V) (x y:V),S.sq K H us/\T.sq K H ws/\us[i]?=some x/\ws[i]?=some y,λi H v H'=>∃U x y,v=.ref U/\H U=none/\H'=upd H U (.tup [x,y])/\(∀us,S.sq K H us->us[i]?=some x)/\∀ws,T.sq K H ws->ws[i]?=some y,
  λi H=>∃us ws:List V,S.sq K H us/\T.sq K H ws/\i=min us.length ws.length⟩
theorem abX{P:Program}{w:World}{K:agw}{S T:Src}{N:Addr}(h1:∀a∈S.ad,a<N)(h2:∀a∈T.ad,a<N) :
  Turn P w K (.Tuple elts kk tpos) (ItZ K S T) [N+4,N+2,N+3,N,N+1] (N+4) (λn h=>IsZip h (N+4) (N+2) (N+3) .none/\IsPair h (N+2) (.ref N) (.ref (N+1))/\(∃x y,IsPair h (N+3) x y)/\S.it h N n/\T.it h (N+1) n) where
 mem:=by simp
 obj:=λn h q c hc=>by
  obtain⟨gz,gI,⟨x,y,gO⟩,i1,i2⟩:=q;simp only[agI,agY,or_false]at hc;rcases hc with rfl|rfl|rfl|rfl|rfl
  .exact⟨_,gz,λv q=>nomatch q⟩
  .exact⟨_,gI,λv q=>nomatch q⟩
  .exact⟨_,gO,λv q=>nomatch q⟩
  .exact Src.vm i1
  .exact Src.vm i2
 keep:=λn h h' q k=>by
  obtain⟨gz,gI,⟨x,y,gO⟩,i1,i2⟩:=q;exact⟨k _ (by simp) _ gz,k _ (by simp) _ gI,⟨x,y,k _ (by simp) _ gO⟩,Src.vJ i1 λo e=>k _ (by simp) o e,Src.vJ i2 λo e=>k _ (by simp) o e⟩
 item:=by
  intro X hP hw hK hc n pins s σ H E I hf q hg;subst hP hw hK;obtain⟨gz,gI,⟨x0,y0,gO⟩,i1,i2⟩:=q;obtain⟨us,ws,x,y,qx,qy,hx,hy⟩:=hg;obtain⟨P1,St1,D1,st1,b1,rel1⟩:=Src.draws I (I.ok.hd hc) qx i1 λa z=>ag4 (h1 a z);obtain⟨P2,St2,D2,st2,b2,rel2⟩:=Src.draws I (I.ok.hd hc) qy i2 λa z=>ag4 (ahf (h2 a z));have hzl:N+4<s.heap.objs.size:=Heap.lt_size gz;refine wpAny_pyNext_zipD2_item (zip_sep2 h1 h2) D1 D2 gz gI gO st1 st2 (agE.mp hx).1 (agE.mp hy).1 λv1 v2 h' tk p1 p2 z' o' s1 s2 hT hsz hk=>?_;refine⟨_,rfl,wpAny_letOwnedTupleGo_zip (s:={ s with heap:=h',toks:=tk }) z' λh'' z'' sb=>?_⟩;have hT2:=(sb.2 _ (Nat.ne_of_gt hzl)).trans hT;have new:ObjOk X.prog X.w (upd H s.heap.objs.size (.tup [x,y])) h'' s.heap.objs.size (.tup [x,y]):=⟨by show 2<=sizeLine;decide,[v1,v2],.cons (rel1 n v1 x p1 hx) (.cons (rel2 n v2 y p2 hy) .nil),⟨_,hT2,rfl,_,rfl⟩⟩;have I1:L2.Inv X pins σ (upd H s.heap.objs.size (.tup [x,y])) { s with heap:=h'',toks:=tk }:=by refine I.turnedNew (t':=tk) (ch:=[N+4,N+2,N+3,N,N+1]) (λc o hb e=>?_) hf (agL _) new;simp only[agI,agY,or_false,not_or]at hb;exact(sb.2 c hb.1).trans (hk c o hb.1 hb.2.2.1 hb.2.2.2.1 hb.2.2.2.2 e)
  have ne4:∀k,k≠4->N+k≠N+4:=λk hk z=>hk (ahn z);refine⟨.ref s.heap.objs.size,_,I1,rfl,⟨_,x,y,rfl,I.hok.fresh (agL _),rfl,λl hl=>by rw[Src.inj I hl qx];exact hx,λl hl=>by rw[Src.inj I hl qy];exact hy⟩,⟨z'',?_,⟨v1,v2,?_⟩,?_,?_⟩,λc hcm=>?_⟩
  .exact(sb.2 _ (ne4 2 (by decide))).trans (hk _ _ (ne4 2 (by decide)) (λz=>absurd (ahn z) (by decide)) (λz=>absurd (ahn (z.trans (Nat.add_zero N).symm)) (by decide)) (λz=>absurd (ahn z) (by decide)) gI)
  .exact(sb.2 _ (ne4 3 (by decide))).trans o'
  .exact Src.vJ (b1 _ _ s1) λo e=>(sb.2 _ (ne4 0 (by decide))).trans e
  .exact Src.vJ (b2 _ _ s2) λo e=>(sb.2 _ (ne4 1 (by decide))).trans e
  .have hlt:c<s.heap.objs.size:=by
    simp only[agI,agY,or_false]at hcm;rcases hcm with rfl|rfl|rfl|rfl|rfl
    .exact hzl
    .exact Heap.lt_size gI
    .exact Heap.lt_size gO
    .obtain⟨_,e1,_⟩:=Src.vm i1;exact Heap.lt_size e1
    .obtain⟨_,e2,_⟩:=Src.vm i2;exact Heap.lt_size e2
   rw[upd_ne (ag4 hlt)];exact(hf c hcm).1
 done:=by intro X hP hw hK hc n pins s σ H E I hf q hg;subst hP hw hK;obtain⟨gz,gI,⟨x0,y0,gO⟩,i1,i2⟩:=q;obtain⟨us,ws,qx,qy,hn⟩:=hg;obtain⟨P1,St1,D1,st1,b1,rel1⟩:=Src.draws I (I.ok.hd hc) qx i1 λa z=>ag4 (h1 a z);obtain⟨P2,St2,D2,st2,b2,rel2⟩:=Src.draws I (I.ok.hd hc) qy i2 λa z=>ag4 (ahf (h2 a z));refine wpAny_pyNext_zipD2_end (zip_sep2 h1 h2) D1 D2 gz gI gO st1 st2 (by omega) (by omega) (by omega) λh' tk hk=>⟨rfl,?_⟩;refine I.turnedL (t':=tk) (ch:=[N+4,N+2,N+3,N,N+1]) (λc o hb e=>?_) hf;simp only[agI,agY,or_false,not_or]at hb;exact hk c o hb.1 hb.2.2.1 hb.2.2.2.1 hb.2.2.2.2 e
 self:=λA n s Q E q h=>wpAny_pyIter_zip q.1 h
def iZp(K:agw)(ta:TA):TI:=λσ H R=>ta σ H λvs H1=>∃x y S T us ws,vs=[x,y]/\srcOf x S/\srcOf y T/\S.sq K H1 us/\T.sq K H1 ws/\R (ItZ K S T) H1
theorem abx(hg:Gl X "zip")(hm:X.mg "zip"=none)(ha:PA X [a,b] ta)(hs:nst a=true)(hs2:nst b=true):PI X (.Tuple elts kk tpos) (.Call (.Name "zip" p) [a,b] [] pos) (iZp X.K ta):=by
 refine⟨λpins s σ H R I h=>?_⟩;refine Call_ (ld_blt I hg hm PyProof.Rows.boot_zip (PyProof.Rows.callWith_type1 (thn (ha.run pos pins s σ H _ I h) λus s1 ⟨vs,H1,I1,r1,x,y,S,T,us',ws',ev,hx,hy,hq,hq2,q⟩=>?_) (aH hs [b]) (star_any [b] (by simp[hs2]))));subst ev;obtain⟨v1,v2,rfl,rv1,rv2⟩:=vals2 r1;obtain⟨o1,B1,hB1,hb1,hit1,hlt1⟩:=Src.begins I1 hq hx rv1;obtain⟨o2,B2,hB2,hb2,hit2,hlt2⟩:=Src.begins I1 hq2 hy rv2;refine zip_begins2 hB1 hB2 hb1 hb2 λh' hz hTI hTO e1 e2 hsz hk=>wpAny_pyIter_zip hz ?_;have I2:L2.Inv X pins σ H1 { s1 with heap:=h' }:=I1.kept (t':=s1.toks) hk;refine⟨s1.heap.objs.size+4,_,_,_,H1,rfl,I2,abX hlt1 hlt2,⟨hz,hTI,⟨_,_,hTO⟩,hit1 _ _ e1,hit2 _ _ e2⟩,λc hcm=>?_,q⟩;have hle:s1.heap.objs.size<=c:=by simp only[agI,agY,or_false]at hcm;rcases hcm with rfl | rfl | rfl | rfl | rfl<;>first | exact agL _ | exact Nat.le_add_right _ _
 exact I1.fpOk hle (I1.hok.fresh hle)
end
section
variable{K:agw}{aj:aC}{q:Bool}{g g':Gh}{H H':Hp}{v:V}{d:Dat}{σ:L2.St}{ρ:Env}{M:Mo}
theorem dR.up{l:Addr}:∀{n:Bool} {kvs:List (Dat×Dat)} (r:Gr true g g' H H') (e:Ex H H') (k:Kd g H) (h:dR K aj g H l n kvs),dR K aj g' H' l n kvs
 |false,_,r,e,k,⟨kv,h1,h2,h3⟩=>⟨kv,e _ _ h1,h2,h3.gr r k⟩
 |true,_,r,e,k,⟨o,xs,vs,h1,h2,h3,h4,h5,h6⟩=>⟨o,xs,vs,e _ _ h1,h2,h3,h4.gr r k,h5,h6.gr r k⟩
theorem bA.up{h:Nat}{f:Str}(r:Gr true g g' H H')(e:Ex H H')(k:Kd g H):∀{fl:dB},bA K aj g H h f v fl->bA K aj g' H' h f v fl
 |.dat _,z=>Rep.gr r k z
 |.lst _ _,⟨l,us,h1,h2,h3,h4,h5⟩=>⟨l,us,h1,e _ _ h2,by rw[(r.qg rfl).2];exact h3,h4.gr r k,r.tb h5⟩
 |.dic _ _,⟨l,h1,h2,h3⟩=>⟨l,h1,by rw[(r.qg rfl).2];exact h2,h3.up r e k⟩
theorem aW.up{h:Nat}(r:Gr true g g' H H')(e:Ex H H')(k:Kd g H):∀{fs:List (Str×V)} {gs:List (Str×dB)},aW K aj g H h fs gs->aW K aj g' H' h fs gs
 |_,_,.nil=>.nil
 |_,_,.cons z t=>.cons (bA.up r e k z) (aW.up r e k t)
theorem cM.up(r:Gr true g g' H H')(e:Ex H H')(k:Kd g H)(w:cM K aj g H M):cM K aj g' H' M where
 len:=by rw[Gh.tV (r.qg rfl).1];exact w.len
 inj:=by rw[Gh.tV (r.qg rfl).1];exact w.inj
 ins:=λh a i ha hi hc=>by
  rw[Gh.tV (r.qg rfl).1]at ha;obtain⟨C,dx,fs,c1,c2,c3⟩:=w.ins h a i ha hi hc;exact⟨C,dx,fs,c1,e _ _ c2,c3.up r e k⟩
 nd:=w.nd
 fd:=w.fd
 tw:=by rw[Gh.tV (r.qg rfl).1,(r.qg rfl).2];exact w.tw
 dm:=w.dm
 nc:=w.nc
theorem SInv.up(r:Gr true g g' H H')(e:Ex H H')(k':Kd g' H')(I:SInv K aj σ H g ρ M):SInv K aj σ H' g' ρ M where
 kd:=k'
 wok:=I.wok.up r e I.kd
 len:=I.len
 dat:=λi d h=>by
  obtain⟨v,h1,h2⟩:=I.dat i d h;exact⟨v,h1,h2.gr r I.kd⟩
 own:=λi xs h=>by
  obtain⟨l,us,h1,h2,h3,h4⟩:=I.own i xs h;exact⟨l,us,h1,e _ _ h2,r.Lo l h3,h4.gr r I.kd⟩
 sep:=I.sep
def Gh.add(g:Gh)(D:Addr):Gh:={ g with Lo:=λa=>g.Lo a\/a=D }
theorem Gh.oW{D:Addr}(n:H D=none)(e:Ex H H'):Gr true g (g.add D) H H' where
 keep:=λa o h _ _=>e a o h
 keepW:=λ_ a o h _=>e a o h
 dom:=jM e
 tbl:=⟨[],by simp[Gh.add]⟩
 W:=λ_ h=>h
 nW:=λ_ h=>.inl h
 qg:=λ_=>⟨rfl,rfl⟩
 Lc:=rfl
 Lo:=λ_ h=>.inl h
 nLo:=λa h=>h.elim .inl λz=>.inr (by rw[z];exact n)
 kl:=rfl
theorem Gh.ZJ{D:Addr}{o:HO}(k:Kd g H)(n:H D=none)(e:Ex H H')(hD:H' D=some o)(m:sO o):Kd (g.add D) H' where
 ob:=λa z=>by
  rcases z with z|z|z|z
  .obtain⟨o,h,m⟩:=k.ob a (.inl z);exact⟨o,e a o h,m⟩
  .obtain⟨o,h,m⟩:=k.ob a (.inr (.inl z));exact⟨o,e a o h,m⟩
  .obtain⟨o,h,m⟩:=k.ob a (.inr (.inr z));exact⟨o,e a o h,m⟩
  .rw[z];exact⟨o,hD,m⟩
 lo:=λa z=>by
  rcases z with z|z
  .exact k.lo a z
  .intro w;subst z;exact k.fresh n (.inl w)
 lc:=λa z=>⟨(k.lc a z).1,λy=>y.elim (k.lc a z).2 λy=>by subst y;exact k.fresh n (.inr (.inl z))⟩
theorem SInv.add{D:Addr}{o:HO}(I:SInv K aj σ H g ρ M)(n:H D=none)(e:Ex H H')(hD:H' D=some o)(m:sO o):SInv K aj σ H' (g.add D) ρ M:=
 I.up (Gh.oW n e) e (Gh.ZJ I.kd n e hD m)
theorem SInv.set{j:Nat}(I:SInv K aj σ H g ρ M)(r:Rep K g H v d):SInv K aj (σ.set j (some v)) H g (ρ.set j (some (.dat d))) M where
 kd:=I.kd
 wok:=I.wok
 len:=by rw[agR,agR];exact I.len
 dat:=λi e h=>by
  by_cases z:j=i
  .subst z;have hj:j<ρ.length:=by
    have:=(agE.mp h).1;rw[agR]at this;exact this
   rw[agN hj]at h;cases h;exact⟨v,by rw[agN (by rw[I.len];exact hj)],r⟩
  .rw[agF z]at h;obtain⟨u,h1,h2⟩:=I.dat i e h;exact⟨u,by rw[agF z];exact h1,h2⟩
 own:=λi xs h=>by
  by_cases z:j=i
  .subst z;have hj:j<ρ.length:=by
    have:=(agE.mp h).1;rw[agR]at this;exact this
   rw[agN hj]at h;cases h
  .rw[agF z]at h;obtain⟨l,us,h1,h2⟩:=I.own i xs h;exact⟨l,us,by rw[agF z];exact h1,h2⟩
 sep:=λi k xs ys l ne h1 h2 h3=>by
  have nj:∀{i:Nat} {xs:List Dat},(ρ.set j (some (.dat d)))[i]?=some (some (.mut xs))->j≠i:=λ{i xs} h z=>by
   subst z;have hj:j<ρ.length:=by have:=(agE.mp h).1;rw[agR]at this;exact this
   rw[agN hj]at h;cases h
  have n1:=nj h1;have n2:=nj h2;rw[agF n1]at h1 h3;rw[agF n2]at h2;rw[agF n2];exact I.sep i k xs ys l ne h1 h2 h3
theorem SInv.forget{j:Nat}(I:SInv K aj σ H g ρ M):SInv K aj (σ.set j none) H g (ρ.set j none) M where
 kd:=I.kd
 wok:=I.wok
 len:=by rw[agR,agR];exact I.len
 dat:=λi e h=>by
  by_cases z:j=i
  .subst z;have hj:j<ρ.length:=by
    have:=(agE.mp h).1;rw[agR]at this;exact this
   rw[agN hj]at h;cases h
  .rw[agF z]at h |-
   exact I.dat i e h
 own:=λi xs h=>by
  by_cases z:j=i
  .subst z;have hj:j<ρ.length:=by
    have:=(agE.mp h).1;rw[agR]at this;exact this
   rw[agN hj]at h;cases h
  .rw[agF z]at h |-
   exact I.own i xs h
 sep:=λi k xs ys l ne h1 h2 h3=>by
  have nj:∀{i:Nat} {xs:List Dat},(ρ.set j none)[i]?=some (some (.mut xs))->j≠i:=λ{i xs} h z=>by
   subst z;have hj:j<ρ.length:=by have:=(agE.mp h).1;rw[agR]at this;exact this
   rw[agN hj]at h;cases h
  have n1:=nj h1;have n2:=nj h2;rw[agF n1]at h1 h3;rw[agF n2]at h2;rw[agF n2];exact I.sep i k xs ys l ne h1 h2 h3
def aO(ρ:Env):List Nat->Env
 |[]=>ρ
 |j::js=>(aO ρ js).set j none
theorem SInv.wipe(I:SInv K aj σ H g ρ M):∀vs:List Nat,SInv K aj (L2.wipe σ vs) H g (aO ρ vs) M
 |[]=>I
 |j::js=>(SInv.wipe I js).forget
end
abbrev bT:=Dat->Env->Option Env
def au(j:Nat):bT:=λd ρ=>some (ρ.set j (some (.dat d)))
def jA:List Nat->List Dat->Env->Option Env
 |[],[],ρ=>some ρ
 |j::js,d::ds,ρ=>jA js ds (ρ.set j (some (.dat d)))
 |_,_,_=>none
def cO(js:List Nat):bT:=λd ρ=>match d with
 |.tuple ds=>jA js ds ρ
 |_=>none
def sets(σ:L2.St):List Nat->List V->L2.St
 |j::js,v::vs=>sets (σ.set j (some v)) js vs
 |_,_=>σ
def lO(K:agw)(aj:aC)(js:List Nat)(f:bT):TG:=λv σ H Q=>∃g ρ M d Z',SInv K aj σ H g ρ M/\Rep K g H v d/\f d ρ=some Z'/\∀vs,SInv K aj (sets σ js vs) H g Z' M->Q (sets σ js vs) H
def QG(aj:aC)(X:Cx)(tg:Expr)(js:List Nat)(f:bT):Prop:=PG X tg (lO X.K aj js f)
theorem PG.weak{X:Cx}{e:Expr}{t t':TG}(h:PG X e t)(k:∀v σ H Q,t' v σ H Q->t v σ H Q):PG X e t':=⟨λpins s σ H v u Q I r q=>h.run pins s σ H v u Q I r (k v σ H Q q)⟩
section
variable{X:Cx}{aj:aC}{pos:Pos}
theorem Ah{j:Nat}{x:Str}(hN:X.N.Nodup)(hi:X.N[j]?=some x)(hx:Loc X.env.scope x)(hf:X.fn x=true\/X.env.scope.names.lookup x=some .local):QG aj X (.Name x pos) [j] (au j):=
 PG.weak (pg_name hN hi hx hf) λv σ H Q ⟨g,ρ,M,d,Z',I,r,e,q⟩=>by
  cases e;exact q [v] (I.set r)
def yR(X:Cx):List Expr->List Nat->Prop
 |[],[]=>True
 |.Name x _::es,j::js=>X.N[j]?=some x/\Loc X.env.scope x/\(X.fn x=true\/X.env.scope.names.lookup x=some .local)/\yR X es js
 |_,_=>False
theorem Ub{es:List Expr}{js:List Nat}(h:yR X es js):(assignEach es X.env).length=js.length/\(assignEach es X.env).findIdx? (·.1)=none:=by
 induction es generalizing js with
 |nil=>
  cases js with
  |nil=>exact⟨by with_unfolding_all rfl,by with_unfolding_all rfl⟩
  |cons j js=>exact aht h
 |cons e es ih=>
  cases js with
  |nil=>cases e<;>exact aht h
  |cons j js=>
   cases e with
   |Name x p=>
    obtain⟨h1,h2⟩:=ih h.2.2.2;have e1:assignEach (.Name x p::es) X.env=(false,assign (.Name x p) X.env)::assignEach es X.env:=by with_unfolding_all rfl
    rw[e1];refine⟨by simp[h1],?_⟩;rw[List.findIdx?_cons,h2];rfl
   |_=>exact aht h
def gNs(js:List Nat):TGs:=λvs σ H Q=>vs.length=js.length/\Q (sets σ js vs) H
theorem Cp(hN:X.N.Nodup):∀{es:List Expr} {js:List Nat},yR X es js->PGs X es (gNs js)
 |[],[],_=>⟨λpins s σ H vs us Q I r h=>by
  obtain⟨e,h⟩:=h;have:vs=[]:=List.length_eq_zero_iff.mp e;subst this;exact pgs_nil.run pins s σ H [] us Q I r ⟨rfl,h⟩⟩
 |.Name x p::es,j::js,h=>by
  have hp:=pgs_cons (pg_name (pos:=p) hN h.1 h.2.1 h.2.2.1) (Cp hN h.2.2.2) (by with_unfolding_all rfl);refine⟨λpins s σ H vs us Q I r hq=>?_⟩;obtain⟨e,hq⟩:=hq;cases vs with
  |nil=>cases e
  |cons v vs=>exact hp.run pins s σ H (v::vs) us Q I r ⟨v,vs,rfl,ahp e,hq⟩
 |[],_::_,h=>aht h
 |.Name _ _::_,[],h=>aht h
theorem yD{K:agw}{g:Gh}{H:Hp}{M:Mo}:∀{js:List Nat} {ds:List Dat} {vs:List V} {σ:L2.St} {ρ Z':Env},SInv K aj σ H g ρ M->aq K g H vs ds->jA js ds ρ=some Z'->vs.length=js.length/\SInv K aj (sets σ js vs) H g Z' M
 |[],_,_,_,_,_,I,.nil,e=>by cases e;exact⟨rfl,I⟩
 |[],_,_,_,_,_,I,.cons _ _,e=>by cases e
 |j::js,_,_,_,_,_,I,.nil,e=>by cases e
 |j::js,_,_,_,_,_,I,.cons r t,e=>by
  obtain⟨h1,h2⟩:=yD (js:=js) (I.set (j:=j) r) t e;exact⟨by simp[h1],h2⟩
theorem O5{es:List Expr}{js:List Nat}{k:Nat}(hc:X.calm=true)(hN:X.N.Nodup)(h:yR X es js):QG aj X (.Tuple es k pos) js (cO js):=by
 obtain⟨h1,h2⟩:=Ub h;refine PG.weak (pg_tup (n:=js.length) hc (Cp hN h) h1 h2) λv σ H Q ⟨g,ρ,M,d,Z',I,r,e,q⟩=>?_;unfold cO at e;split at e
 .obtain⟨a,us,rfl,s1,t1⟩:=d9 r.weak;obtain⟨l1,I1⟩:=yD I t1 e;exact⟨a,us,rfl,s1,l1,l1,q us I1⟩
 .cases e
theorem j5:∀(js:List Nat) (vs:List V) (σ:L2.St) (ws:List Nat),(∀j∈js,j∈ws)->L2.wipe (sets σ js vs) ws=L2.wipe σ ws
 |[],_,_,_,_=>by unfold sets;rfl
 |_::_,[],_,_,_=>by unfold sets;rfl
 |j::js,v::vs,σ,ws,h=>by
  show L2.wipe (sets (σ.set j (some v)) js vs) ws=_;rw[j5 js vs _ ws λk hk=>h k (agz _ hk)];have hj:j∈ws:=h j agA;have key:∀(ws:List Nat) (σ:L2.St),j∈ws->L2.wipe (σ.set j (some v)) ws=L2.wipe σ ws:=by
   intro ws
   induction ws with
   |nil=>intro σ z;cases z
   |cons k ws ih=>
    intro σ z
    show(L2.wipe (σ.set j (some v)) ws).set k none=(L2.wipe σ ws).set k none
    by_cases hk:j∈ws
    .rw[ih σ hk]
    .have e:j=k:=by
      rcases agI.mp z with z|z
      .exact z
      .exact absurd z hk
     subst e;have comm:∀(ws:List Nat),j∉ws->L2.wipe (σ.set j (some v)) ws=(L2.wipe σ ws).set j (some v):=by
      intro ws
      induction ws with
      |nil=>intro _;rfl
      |cons m ws ih2=>
       intro hm
       show(L2.wipe (σ.set j (some v)) ws).set m none=((L2.wipe σ ws).set m none).set j (some v)
       rw[ih2 λz=>hm (agz _ z),List.set_comm _ _ (λz=>hm (by rw[z];exact agA))]
     rw[comm ws hk,List.set_set]
  exact key ws σ hj
end
structure sY(K:agw)(J:It)(C:Gh->Hp->Prop)(ds:List Dat):Prop where
 go:∀g i H,C g H->i<ds.length->J.go i H
 yld:∀g i H x H' d,Kd g H->C g H->ds[i]?=some d->J.yld i H x H'->Ex H H'/\Rep K g H' x d
 stop:∀g i H,C g H->i=ds.length->J.stop i H
 ex:∀g H H',Kd g H->C g H->Ex H H'->C g H'
 add:∀g g' H H',Kd g H->C g H->Gr true g g' H H'->Ex H H'->C g' H'
def Lr(C:Gh->Hp->Prop):Prop:=∀q g g' H H',Kd g H->C g H->Gr q g g' H H'->C g' H'
abbrev IF:=Mo->Env->Out (List Dat)
def tI(K:agw)(aj:aC)(W:WX)(firm:Bool)(f:IF):TI:=λσ H R=>∃g ρ M,SInv K aj σ H g ρ M/\(f M ρ).sat (λds=>∀J C H',Ex H H'->sY K J C ds->C g H'->(firm=true->Lr C)->R J H') (gM K aj W g H σ)
def QI(aj:aC)(X:Cx)(W:WX)(firm:Bool)(tg e:Expr)(f:IF):Prop:=PI X tg e (tI X.K aj W firm f)
def dw(x:Str):List Dat:=x.cps.toList.map λc=>.str ⟨#[c]⟩
def dG:Dat->Out (List Dat)
 |.list ds=>.ok ds
 |.tuple ds=>.ok ds
 |.str x=>.ok (dw x)
 |_=>.bad
def gA(a:QF):IF:=λM ρ=>(a M ρ).bind dG
def Src.cw(K:agw)(S:Src)(ds:List Dat)(g:Gh)(H:Hp):Prop:=∃us,S.sq K H us/\aq K g H us ds
def Src.cf(K:agw)(S:Src)(ds:List Dat)(g:Gh)(H:Hp):Prop:=∃us,(match S with
 |.lst a=>wj K g H a us
 |.tup a=>SqT K H a us
 |.str x=>us=chars x)/\aq K g H us ds
section
variable{K:agw}{g g':Gh}{H H':Hp}{ds es:List Dat}{S T:Src}
theorem Src.ab3{us:List V}(e:Ex H H')(h:S.sq K H us):S.sq K H' us:=by
 cases S with
 |lst a=>exact ex_l e h
 |tup a=>exact ex_t e h
 |str x=>exact h
theorem Src.Lj(h:S.cf K ds g H):S.cw K ds g H:=by
 obtain⟨us,h1,h2⟩:=h;refine⟨us,?_,h2⟩;cases S with
 |lst a=>exact wj.sq h1
 |tup a=>exact h1
 |str x=>exact h1
theorem Src.jC:Lr (S.cf K ds):=λq g g' H H' k ⟨us,h1,h2⟩ r=>by
 refine⟨us,?_,h2.gr r k⟩;cases S with
 |lst a=>exact r.ls h1
 |tup a=>exact r.sqT k h1
 |str x=>exact h1
theorem Src.tY(k:Kd g H)(h:S.cw K ds g H)(r:Gr true g g' H H')(e:Ex H H'):S.cw K ds g' H':=by obtain⟨us,h1,h2⟩:=h;exact⟨us,Src.ab3 e h1,h2.gr r k⟩
theorem Src.CZ(k:Kd g H)(h:S.cw K ds g H)(e:Ex H H'):S.cw K ds g H':=Src.tY k h (Gr.ex e) e
end
section
variable{K:agw}{ds es:List Dat}{S T:Src}
def ItS(K:agw):Src->It
 |.lst a=>Itl K a
 |.tup a=>Itt K a
 |.str x=>Its x
theorem pH{g:Gh}{H:Hp}(x:Str):aq K g H (chars x) (dw x):=by
 unfold chars dw
 induction x.cps.toList with
 |nil=>exact .nil
 |cons c cs ih=>exact .cons (.str _) ih
theorem sY.of{J:It}{C C':Gh->Hp->Prop}(w:sY K J C ds)(h:∀g H,C' g H->C g H)(e:∀g H H',Kd g H->C' g H->Ex H H'->C' g H')(a:∀g g' H H',Kd g H->C' g H->Gr true g g' H H'->Ex H H'->C' g' H'):sY K J C' ds where
 go:=λg i H c hi=>w.go g i H (h g H c) hi
 yld:=λg i H x H' d k c e y=>w.yld g i H x H' d k (h g H c) e y
 stop:=λg i H c e=>w.stop g i H (h g H c) e
 ex:=e
 add:=a
theorem JG:sY K (ItS K S) (S.cw K ds) ds where
 go:=λg i H ⟨us,h1,h2⟩ hi=>by
  have hx:us[i]?=some (us[i]'(by rw[h2.length];exact hi)):=agD _;cases S with
  |lst a=>exact⟨us,_,h1,hx⟩
  |tup a=>exact⟨us,_,h1,hx⟩
  |str x=>
   show i<x.cps.size;have:=h2.length;rw[show us=chars x from h1]at this;unfold chars at this;rw[agB,agX]at this;omega
 yld:=λg i H x H' d k ⟨us,h1,h2⟩ e y=>by
  obtain⟨v,hv,rv⟩:=h2.get e;cases S with
  |lst a=>
   obtain⟨rfl,y⟩:=y;have:x=v:=ag0 ((y us h1).symm.trans hv);rw[this];exact⟨Ex.refl _,rv⟩
  |tup a=>
   obtain⟨rfl,y⟩:=y;have:x=v:=ag0 ((y us h1).symm.trans hv);rw[this];exact⟨Ex.refl _,rv⟩
  |str z=>
   obtain⟨rfl,c,hc,rfl⟩:=y;rw[show us=chars z from h1]at hv;unfold chars at hv;rw[agS,ahd,hc]at hv;cases hv;exact⟨Ex.refl _,rv⟩
 stop:=λg i H ⟨us,h1,h2⟩ e=>by
  have hl:=h2.length;cases S with
  |lst a=>exact⟨us,h1,by omega⟩
  |tup a=>exact⟨us,h1,by omega⟩
  |str x=>
   show x.cps.size<=i;rw[show us=chars x from h1]at hl;unfold chars at hl;rw[agB,agX]at hl;omega
 ex:=λg H H' k h e=>Src.CZ k h e
 add:=λg g' H H' k h r e=>Src.tY k h r e
def gD(k₀:Int)(ds:List Dat):List Dat:=ds.mapIdx λi d=>.tuple [.int (k₀+(i:Int)),d]
theorem RJ{k₀:Int}:sY K (ItE K S k₀) (S.cw K ds) (gD k₀ ds) where
 go:=λg i H ⟨us,h1,h2⟩ hi=>by
  have hl:i<us.length:=by rw[h2.length];unfold gD at hi;rw[List.length_mapIdx]at hi;exact hi
  exact⟨us,us[i],h1,agD hl⟩
 yld:=λg i H x H' d k ⟨us,h1,h2⟩ e y=>by
  unfold gD at e;rw[List.getElem?_mapIdx]at e;cases hd:ds[i]? with
  |none=>rw[hd]at e;cases e
  |some d0=>
   rw[hd]at e;cases e;obtain⟨v,hv,rv⟩:=h2.get hd;obtain⟨T,x0,rfl,nT,rfl,y⟩:=y;have:x0=v:=ag0 ((y us h1).symm.trans hv);subst this;exact⟨Ex.new nT,.tup (st_of ahA) (.cons (.int _) (.cons (rv.ex (Ex.new nT) k) .nil))⟩
 stop:=λg i H ⟨us,h1,h2⟩ e=>by
  unfold gD at e;rw[List.length_mapIdx,<-h2.length]at e;exact⟨us,h1,e.symm⟩
 ex:=λg H H' k h e=>Src.CZ k h e
 add:=λg g' H H' k h r e=>Src.tY k h r e
def iz(ds es:List Dat):List Dat:=List.zipWith (λd e=>.tuple [d,e]) ds es
theorem JQ:sY K (ItZ K S T) (λg H=>S.cw K ds g H/\T.cw K es g H) (iz ds es) where
 go:=λg i H ⟨⟨us,h1,h2⟩,⟨ws,h3,h4⟩⟩ hi=>by
  unfold iz at hi;rw[List.length_zipWith,<-h2.length,<-h4.length]at hi;exact⟨us,ws,us[i],ws[i],h1,h3,agD (by omega),agD (by omega)⟩
 yld:=λg i H x H' d k ⟨⟨us,h1,h2⟩,⟨ws,h3,h4⟩⟩ e y=>by
  unfold iz at e;rw[List.getElem?_zipWith]at e;cases hd:ds[i]? with
  |none=>rw[hd]at e;cases e
  |some d0=>
   cases he:es[i]? with
   |none=>rw[hd,he]at e;cases e
   |some e0=>
    rw[hd,he]at e;cases e;obtain⟨v,hv,rv⟩:=h2.get hd;obtain⟨u,hu,ru⟩:=h4.get he;obtain⟨U,x0,y0,rfl,nU,rfl,y1,y2⟩:=y;have:x0=v:=ag0 ((y1 us h1).symm.trans hv);subst this;have:y0=u:=ag0 ((y2 ws h3).symm.trans hu);subst this;exact⟨Ex.new nU,.tup (st_of ahA) (.cons (rv.ex (Ex.new nU) k) (.cons (ru.ex (Ex.new nU) k) .nil))⟩
 stop:=λg i H ⟨⟨us,h1,h2⟩,⟨ws,h3,h4⟩⟩ e=>by
  unfold iz at e;rw[List.length_zipWith,<-h2.length,<-h4.length]at e;exact⟨us,ws,h1,h3,e⟩
 ex:=λg H H' k h e=>⟨Src.CZ k h.1 e,Src.CZ k h.2 e⟩
 add:=λg g' H H' k h r e=>⟨Src.tY k h.1 r e,Src.tY k h.2 r e⟩
def jN(lo:Int)(n:Nat):List Dat:=(List.range n).map λ(i:Nat)=>.int (lo+(i:Int))
theorem Bo{lo:Int}{n:Nat}:sY K (Itr lo n) (λ_ _=>True) (jN lo n) where
 go:=λg i H _ hi=>by
  unfold jN at hi;rw[agB,List.length_range]at hi;exact hi
 yld:=λg i H x H' d k _ e y=>by
  obtain⟨rfl,rfl⟩:=y;unfold jN at e;rw[agS]at e;cases hr:(List.range n)[i]? with
  |none=>rw[hr]at e;cases e
  |some j=>
   rw[hr]at e;cases e;have:j=i:=by obtain⟨h1,h2⟩:=agE.mp hr;rw[List.getElem_range]at h2;exact h2.symm
   subst this;exact⟨Ex.refl _,.int _⟩
 stop:=λg i H _ e=>by
  unfold jN at e;rw[agB,List.length_range]at e;show n<=i;omega
 ex:=λ_ _ _ _ _ _=>trivial
 add:=λ_ _ _ _ _ _ _ _=>trivial
end
section
variable{X:Cx}{aj:aC}{W:WX}{tg a b:Expr}{fa fb:QF}{pos p tpos:Pos}{elts:List Expr}{kk:Nat}
theorem vo{K:agw}{g:Gh}{H:Hp}{v:V}{d:Dat}{ds:List Dat}{firm:Bool}(r:if firm=true then Rep K g H v d else bf K g H v d)(h:dG d=.ok ds):∃S,srcOf v S/\S.cw K ds g H/\(firm=true->S.cf K ds g H):=by
 have rw:bf K g H v d:=by
  cases firm with
  |true=>exact Rep.weak r
  |false=>exact r
 cases d with
 |list es=>
  cases h;obtain⟨l,us,rfl,h1,h2⟩:=cD rw;refine⟨.lst l,.inl ⟨l,rfl,rfl,.inl rfl⟩,⟨us,h1,h2⟩,λz=>?_⟩;subst z;have r:Rep K g H (.ref l) (.list ds):=r;cases r with
  |lst h3 h4=>exact⟨_,h3,h4⟩
 |tuple es=>
  cases h;obtain⟨l,us,rfl,h1,h2⟩:=d9 rw;exact⟨.tup l,.inl ⟨l,rfl,rfl,.inr rfl⟩,⟨us,h1,h2⟩,λ_=>⟨us,h1,h2⟩⟩
 |str x=>
  cases h;cases bB rw;exact⟨.str x,.inr ⟨x,rfl,rfl⟩,⟨_,rfl,pH x⟩,λ_=>⟨_,rfl,pH x⟩⟩
 |_=>cases h
def tF(K:agw)(aj:aC)(W:WX)(firm:Bool)(f:QF):TE:=if firm=true then tQ K aj W f else tW K aj W f
def Kv(aj:aC)(X:Cx)(W:WX)(firm:Bool)(e:Expr)(f:QF):Prop:=PE X e (tF X.K aj W firm f)
theorem tF.go{K:agw}{firm:Bool}{g:Gh}{H:Hp}{σ:L2.St}{ρ:Env}{M:Mo}{f:QF}{k:Dat->Prop}{Q:VK}(I:SInv K aj σ H g ρ M)(h:(f M ρ).sat k (gM K aj W g H σ))(hk:∀d v H',k d->Ex H H'->(if firm=true then Rep K g H' v d else bf K g H' v d)->Q v H'):tF K aj W firm f σ H Q:=by
 cases firm with
 |true=>exact tQ.go I h hk
 |false=>exact tW.go I h hk
theorem abz{K:agw}{firm:Bool}{g:Gh}{H H':Hp}{v:V}{d:Dat}(e:Ex H H')(k:Kd g H)(r:if firm=true then Rep K g H v d else bf K g H v d):if firm=true then Rep K g H' v d else bf K g H' v d:=by
 cases firm with
 |true=>exact Rep.ex e k r
 |false=>exact bf.ex e k r
theorem wf{K:agw}{S:Src}{firm:Bool}{J:It}{ds es:List Dat}{R:It->Hp->Prop}{g:Gh}{H H1:Hp}(h:∀J C H',Ex H H'->sY K J C ds->C g H'->(firm=true->Lr C)->R J H')(e1:Ex H H1)(w:sY K J (S.cw K es) ds)(hw:S.cw K es g H1)(hf:firm=true->S.cf K es g H1):R J H1:=by
 cases firm with
 |true=>exact h J (S.cf K es) H1 e1 (w.of (λ_ _ z=>Src.Lj z) (λg H H' k c e=>Src.jC true g g H H' k c (Gr.ex e)) λg g' H H' k c r e=>Src.jC true g g' H H' k c r) (hf rfl) λ_=>Src.jC
 |false=>exact h J (S.cw K es) H1 e1 w hw λz=>nomatch z
theorem Ec{firm:Bool}(ha:Kv aj X W firm a fa):QI aj X W firm tg a (gA fa):=by
 refine⟨λpins s σ H R I h=>?_⟩;obtain⟨g,ρ,M,SI,hs⟩:=h;have hs:=hs.bnd;have fin:∀(S:Src) (x:V) (H1:Hp) (ds:List Dat),(∀J C H',Ex H H'->sY X.K J C ds->C g H'->(firm=true->Lr C)->R J H')->Ex H H1->S.cw X.K ds g H1->(firm=true->S.cf X.K ds g H1)->R (ItS X.K S) H1:=λS x H1 ds h e1 hw hf=>wf h e1 JG hw hf;cases hfa:fa M ρ with
 |bad=>rw[hfa]at hs;exact aht hs
 |exc x=>
  rw[hfa]at hs;exact(pi_list ha).run pins s σ H R I (tF.go (k:=λ_=>False) SI (by rw[hfa];exact hs) λd v H' z=>aht z)
 |ok d=>
  rw[hfa]at hs;cases d with
  |list ds=>
   refine(pi_list ha).run pins s σ H R I (tF.go (k:=λz=>z=.list ds) SI (by rw[hfa];rfl) λd v H' z e1 r=>?_);subst z;obtain⟨S,hS,hw,hf⟩:=vo (firm:=firm) r (ds:=ds) rfl;have rw:bf X.K g H' v (.list ds):=by
    cases firm with
    |true=>exact Rep.weak r
    |false=>exact r
   obtain⟨l,us,rfl,h1,h2⟩:=cD rw;refine⟨l,rfl,⟨us,h1⟩,?_⟩;rcases hS with⟨a',e,ha',hl|ht⟩|⟨y,_,e⟩
   .cases e;subst hl;exact fin (.lst l) (.ref l) H' ds hs e1 hw hf
   .cases e;subst ht;refine wf (S:=.lst l) hs e1 (JG (S:=.lst l)) ⟨us,h1,h2⟩ λz=>?_;subst z;have r:Rep X.K g H' (.ref l) (.list ds):=r;cases r with
    |lst h3 h4=>exact⟨_,h3,h4⟩
   .cases e
  |tuple ds=>
   refine(pi_tup ha).run pins s σ H R I (tF.go (k:=λz=>z=.tuple ds) SI (by rw[hfa];rfl) λd v H' z e1 r=>?_);subst z;have rw:bf X.K g H' v (.tuple ds):=by
    cases firm with
    |true=>exact Rep.weak r
    |false=>exact r
   obtain⟨l,us,rfl,h1,h2⟩:=d9 rw;exact⟨l,rfl,⟨us,h1⟩,fin (.tup l) (.ref l) H' ds hs e1 ⟨us,h1,h2⟩ λ_=>⟨us,h1,h2⟩⟩
  |str x=>
   refine(pi_str ha).run pins s σ H R I (tF.go (k:=λz=>z=.str x) SI (by rw[hfa];rfl) λd v H' z e1 r=>?_);subst z;have rw:bf X.K g H' v (.str x):=by
    cases firm with
    |true=>exact Rep.weak r
    |false=>exact r
   cases bB rw;exact⟨x,rfl,fin (.str x) (.str x) H' _ hs e1 ⟨_,rfl,pH x⟩ λ_=>⟨_,rfl,pH x⟩⟩
  |_=>exact aht hs
def qU(a:QF):IF:=λM ρ=>(a M ρ).bind λd=>(nJ d).bind λn=>Out.when (decide (n<=100000/\-100000<=n)) (.ok (jN 0 n.toNat))
def zG(a b:QF):IF:=λM ρ=>(a M ρ).bind λd=>(b M ρ).bind λe=>(nJ d).bind λlo=>(nJ e).bind λn=>Out.when (decide (n<=100000/\-100000<=n/\lo<=100000/\-100000<=lo)) (.ok (jN lo (n-lo).toNat))
def pQ(k₀:Int)(a:QF):IF:=λM ρ=>(a M ρ).bind λd=>(dG d).bind λds=>.ok (gD k₀ ds)
def uz(a b:QF):IF:=λM ρ=>(a M ρ).bind λd=>(b M ρ).bind λe=>(dG d).bind λds=>(dG e).bind λes=>.ok (iz ds es)
theorem Ph{firm:Bool}(hg:Gl X "range")(hm:X.mg "range"=none)(ha:QW aj X W a fa)(hs:nst a=true):QI aj X W firm tg (.Call (.Name "range" p) [a] [] pos) (qU fa):=by
 refine⟨λpins s σ H R I h=>?_⟩;refine(pi_range1 hg hm (pa_cons ha pa_nil (aH hs [])) (aH hs [])).run pins s σ H R I ?_;obtain⟨g,ρ,M,SI,h⟩:=h;refine tW.go SI h.bnd λd v H1 h1 e1 r1=>?_;have h1:=h1.bnd;unfold nJ at h1;split at h1
 .obtain⟨hz,h1⟩:=h1.dN;have hz:=ahv hz;cases aK r1;exact⟨_,rfl,by omega,by omega,h1 _ _ H1 e1 Bo ahs λ_=>λ_ _ _ _ _ _ _ _=>trivial⟩
 .exact aht h1
theorem Qp{firm:Bool}(hg:Gl X "range")(hm:X.mg "range"=none)(ha:QW aj X W a fa)(hb:QW aj X W b fb)(hs:nst a=true)(hs2:nst b=true):QI aj X W firm tg (.Call (.Name "range" p) [a,b] [] pos) (zG fa fb):=by
 refine⟨λpins s σ H R I h=>?_⟩;refine(pi_range2 hg hm (pa_cons ha (pa_cons hb pa_nil (aH hs2 [])) (aH hs [b])) (by rw[aH hs,aH hs2];rfl) (aH hs2 [])).run pins s σ H R I ?_;obtain⟨g,ρ,M,SI,h⟩:=h;refine tW.go SI h.bnd λd v H1 h1 e1 r1=>?_;refine tW.go (SI.ex e1) (h1.bnd.mono (λ_ z=>z) λ_ z=>z.ex e1) λd2 v2 H2 h2 e2 r2=>?_;have h2:=h2.bnd;unfold nJ at h2;split at h2
 .have h2:=Out.sat.bnd h2;split at h2
  .obtain⟨hz,h2⟩:=Out.sat.dN h2;have hz:=ahv hz;cases aK r1;cases aK r2;exact⟨_,_,rfl,⟨by omega,by omega,by omega,by omega⟩,h2 _ _ H2 (e1.trans e2) Bo ahs λ_=>λ_ _ _ _ _ _ _ _=>trivial⟩
  .exact aht h2
 .exact aht h2
theorem U6{firm:Bool}{k₀:Int}(σ:L2.St)(H:Hp)(R:It->Hp->Prop)(h:tI X.K aj W firm (pQ k₀ fa) σ H R):iEn X.K (tCons (tF X.K aj W firm fa) tNil) k₀ σ H R:=by
 obtain⟨g,ρ,M,SI,h⟩:=h;refine tF.go SI h.bnd λd v H1 h1 e1 r1=>?_;cases hd:dG d with
 |bad=>rw[hd]at h1;exact aht h1
 |exc x=>cases d<;>cases hd
 |ok ds=>
  rw[hd]at h1;obtain⟨S,hS,hw,hf⟩:=vo r1 hd;exact⟨v,S,_,rfl,hS,hw.choose_spec.1,wf h1 e1 RJ hw hf⟩
theorem Wc{firm:Bool}(hg:Gl X "enumerate")(hm:X.mg "enumerate"=none)(ha:Kv aj X W firm a fa)(hs:nst a=true):QI aj X W firm (.Tuple elts kk tpos) (.Call (.Name "enumerate" p) [a] [] pos) (pQ 0 fa):=
 ⟨λpins s σ H R I h=>(acD hg hm (pa_cons ha pa_nil (aH hs [])) hs).run pins s σ H R I (U6 σ H R h)⟩
theorem T8{firm:Bool}{k₀:Int}{j:Nat}{kp kp2:Pos}(hk0 : -(2^63)<=k₀)(hk1:k₀<2^63)(hg:Gl X "enumerate")(hm:X.mg "enumerate"=none)(ha:Kv aj X W firm a fa)(hs:nst a=true):QI aj X W firm (.Tuple elts kk tpos) (.Call (.Name "enumerate" p) [a] [⟨some "start",.Constant (.int k₀) j kp,kp2⟩] pos) (pQ k₀ fa):=
 ⟨λpins s σ H R I h=>(aaz hk0 hk1 hg hm (pa_cons ha pa_nil (aH hs [])) hs).run pins s σ H R I (U6 σ H R h)⟩
theorem abj{firm:Bool}(hg:Gl X "zip")(hm:X.mg "zip"=none)(ha:Kv aj X W firm a fa)(hb:Kv aj X W firm b fb)(hs:nst a=true)(hs2:nst b=true):QI aj X W firm (.Tuple elts kk tpos) (.Call (.Name "zip" p) [a,b] [] pos) (uz fa fb):=by
 refine⟨λpins s σ H R I h=>(abx hg hm (pa_cons ha (pa_cons hb pa_nil (aH hs2 [])) (aH hs [b])) hs hs2).run pins s σ H R I ?_⟩;obtain⟨g,ρ,M,SI,h⟩:=h;refine tF.go SI h.bnd λd v H1 h1 e1 r1=>?_;refine tF.go (SI.ex e1) (h1.bnd.mono (λ_ z=>z) λ_ z=>z.ex e1) λd2 v2 H2 h2 e2 r2=>?_;cases hd:dG d with
 |bad=>rw[hd]at h2;exact aht h2
 |exc x=>cases d<;>cases hd
 |ok ds=>
  cases he:dG d2 with
  |bad=>rw[hd,he]at h2;exact aht h2
  |exc x=>cases d2<;>cases he
  |ok es=>
   rw[hd,he]at h2;obtain⟨S,hS,hw,hf⟩:=vo (abz e2 (SI.ex e1).kd r1) hd;obtain⟨T,hT,hw2,hf2⟩:=vo r2 he;refine⟨v,v2,S,T,_,_,rfl,hS,hT,hw.choose_spec.1,hw2.choose_spec.1,?_⟩;cases firm with
   |true=>exact h2 _ (λg H=>S.cf X.K ds g H/\T.cf X.K es g H) H2 (e1.trans e2) (JQ.of (λ_ _ z=>⟨Src.Lj z.1,Src.Lj z.2⟩) (λg H H' k c e=>⟨Src.jC true g g H H' k c.1 (Gr.ex e),Src.jC true g g H H' k c.2 (Gr.ex e)⟩) λg g' H H' k c r e=>⟨Src.jC true g g' H H' k c.1 r,Src.jC true g g' H H' k c.2 r⟩) ⟨hf rfl,hf2 rfl⟩ λ_=>λq g g' H H' k c r=>⟨Src.jC q g g' H H' k c.1 r,Src.jC q g g' H H' k c.2 r⟩
   |false=>exact h2 _ _ H2 (e1.trans e2) JQ ⟨hw,hw2⟩ λz=>nomatch z
end
def WF:WX:=λ_ _ _ _=>False
def mX{α:Type}:Out α->Out α
 |.ok a=>.ok a
 |_=>.bad
@[simp]theorem afS {α:Type} (a:α):mX (.ok a)=.ok a:=rfl
theorem oK{α:Type}{o:Out α}{P:α->Prop}{E E':bK->Prop}(h:(mX o).sat P E):o.sat P E':=by
 cases o
 .exact h
 .exact aht h
 .exact h
def bx(tg:bT)(tt:QT)(te:QF)(M:Mo)(ρ:Env):List Dat->Out (List Dat)
 |[]=>.ok []
 |d::ds=>match tg d ρ with
  |none=>.bad
  |some Z1=>(mX (tt M Z1)).bind λb=>if b=true then(mX (te M Z1)).bind λy=>(bx tg tt te M ρ ds).bind λr=>.ok (y::r) else bx tg tt te M ρ ds
def iK(it:IF)(tg:bT)(vs:List Nat)(tt:QT)(te:QF):QF:=λM ρ=>(it M ρ).bind λds=>Out.when (decide (ds.length<=50000)) ((bx tg tt te M (aO ρ vs) ds).bind λr=>.ok (.list r))
def jD:QT:=λ_ _=>.ok true
def QM(K:agw)(aj:aC)(W:WX)(f:IF):TE:=λσ H Q=>∃g ρ M,SInv K aj σ H g ρ M/\(f M ρ).sat (λxs=>∀l us H',H l=none->Ex H H'->H' l=some (.lst us)->aq K (g.add l) H' us xs->Q (.ref l) H') (gM K aj W g H σ)
def oU(it:IF)(tg:bT)(vs:List Nat)(tt:QT)(te:QF):IF:=λM ρ=>(it M ρ).bind λds=>Out.when (decide (ds.length<=50000)) (bx tg tt te M (aO ρ vs) ds)
section
variable{K:agw}{aj:aC}{W:WX}
theorem xK{g:Gh}{H:Hp}{D:Addr}{o o':HO}{vs:List V}{ds:List Dat}(k:Kd g H)(h:H D=some o)(l:g.Lo D)(r:aq K g H vs ds):aq K g (upd H D o') vs ds:=r.gr (Gr.upd (q:=true) k h (.inr l)) k
theorem XJ{g:Gh}{H:Hp}{D:Addr}{o o':HO}{v:V}{d:Dat}(k:Kd g H)(h:H D=some o)(l:g.Lo D)(r:Rep K g H v d):Rep K g (upd H D o') v d:=r.gr (Gr.upd (q:=true) k h (.inr l)) k
theorem jd{tg:bT}{tt:QT}{te:QF}{M:Mo}{ρ:Env}:∀{ds:List Dat} {x:bK},bx tg tt te M ρ ds≠.exc x
 |[],_,h=>nomatch h
 |d::ds,x,h=>by
  rw[bx]at h;split at h
  .cases h
  .next Z1 e=>
   cases h1:tt M Z1 with
   |bad=>rw[h1]at h;cases h
   |exc y=>rw[h1]at h;cases h
   |ok b=>
    rw[h1]at h;cases b with
    |false=>exact jd h
    |true=>
     have h:((mX (te M Z1)).bind λy=>(bx tg tt te M ρ ds).bind λr=>Out.ok (y::r))=.exc x:=h;cases h2:te M Z1 with
     |bad=>rw[h2]at h;cases h
     |exc y=>rw[h2]at h;cases h
     |ok y=>
      rw[h2]at h;cases h3:bx tg tt te M ρ ds with
      |bad=>rw[h3]at h;cases h
      |exc z=>exact jd h3
      |ok r=>rw[h3]at h;cases h
theorem wF(σ:L2.St)(i:Nat):∀vs:List Nat,(L2.wipe σ vs)[i]?=if i∈vs then(σ[i]?).map (λ_=>none) else σ[i]?
 |[]=>by simp[L2.wipe]
 |v::vs=>by
  show((L2.wipe σ vs).set v none)[i]?=_
  by_cases h:v=i
  .subst h;by_cases hl:v<σ.length
   .rw[agN (by rw[wipe_length];exact hl),ahy agA,agD hl];rfl
   .have h1:σ[v]?=none:=List.getElem?_eq_none_iff.mpr (by omega);rw[ahy agA,h1,List.getElem?_eq_none_iff.mpr (by rw[agR,wipe_length];omega)];rfl
  .rw[agF h,wF σ i vs];have:i∈v::vs↔i∈vs:=⟨λz=>by
    rcases agI.mp z with z|z
    .exact absurd z.symm h
    .exact z,agz _⟩
   simp only[this]
theorem m9(σ:L2.St)(vs:List Nat):L2.wipe (L2.wipe σ vs) vs=L2.wipe σ vs:=by
 apply List.ext_getElem?;intro i;rw[wF (L2.wipe σ vs) i vs,wF σ i vs];split
 .cases σ[i]?<;>rfl
 .rfl
theorem Ie{it:IF}{tg:bT}{js vs:List Nat}{tt:QT}{te:QF}(hj:∀j∈js,j∈vs)(σ:L2.St)(H:Hp)(Q:VK)(h:QM K aj W (oU it tg vs tt te) σ H Q) :
  tLc (tI K aj W false it) (lO K aj js tg) (dZ K aj WF tt) (tQ K aj WF te) vs σ H Q:=by
 obtain⟨g,ρ,M,I,h⟩:=h;refine⟨g,ρ,M,I,h.bnd.mono (λds hk J C H1 e1 w c _ D nD=>?_) λ_ z=>z⟩;obtain⟨hz,hk⟩:=hk.dN;have hlen:=ahv hz;obtain⟨total,htot,hQ⟩:∃total,bx tg tt te M (aO ρ vs) ds=.ok total/\∀l us H',H l=none->Ex H H'->H' l=some (.lst us)->aq K (g.add l) H' us total->Q (.ref l) H':=by
  cases hc:bx tg tt te M (aO ρ vs) ds with
  |bad=>rw[hc]at hk;exact aht hk
  |exc x=>exact absurd hc jd
  |ok total=>
   rw[hc]at hk;exact⟨total,rfl,hk⟩
 have I1:=(I.ex e1).wipe vs;have kD:∀{Ha:Hp} {us:List V},Ex H1 Ha->Ha D=some (.lst us)->SInv K aj (L2.wipe σ vs) Ha (g.add D) (aO ρ vs) M:=λea hu=>I1.add nD ea hu ahs
 let Pv:Nat->Hp->Prop:=λi Ha=>Ex H1 Ha/\i<=ds.length/\∃us ys,Ha D=some (.lst us)/\aq K (g.add D) Ha us ys/\ys.length<=i/\(bx tg tt te M (aO ρ vs) (ds.drop i)).sat (λr=>total=ys++r) λ_=>False
 refine⟨λi m Ha=>m=ds.length-i/\Pv i Ha,⟨ds.length,rfl,Ex.new nD,agO _,[],[],ahA,.nil,agL _,?_⟩,?_⟩
 .rw[ahb,htot];rfl
 .rintro i m Ha ⟨rfl,ea,hi,us,ys,hu,hU,hy,hs⟩;have Ia:=kD ea hu;have Ca:=w.add g (g.add D) H1 Ha (I.kd.ex e1) c (Gh.oW nD ea) ea;by_cases hlt:i<ds.length
  .refine .inr ⟨w.go _ i Ha Ca hlt,Pv (i+1),λH' p=>⟨ds.length-(i+1),by omega,rfl,p⟩,λx H' y=>?_⟩;have hd:ds[i]?=some ds[i]:=agD hlt;obtain⟨e2,rx⟩:=w.yld _ i Ha x H' _ Ia.kd Ca hd y;have I2:=Ia.ex e2;rw[ag9 hlt,bx]at hs;split at hs
   .exact aht hs
   .next Z1 he=>
    refine⟨g.add D,_,M,_,Z1,I2,rx,he,λws I3=>⟨j5 js ws _ vs hj |>.trans (m9 σ vs),?_⟩⟩;refine dZ.go I3 (oK hs.bnd) λb H3 hb e3=>?_;have I4:=I3.ex e3;have hu3:=e3 _ _ (e2 _ _ hu);have hU3:=(hU.ex e2 Ia.kd).ex e3 I2.kd;cases b with
    |false=>
     have hb:(bx tg tt te M (aO ρ vs) (ds.drop (i+1))).sat (λr=>total=ys++r) λ_=>False:=hb;exact⟨(ea.trans e2).trans e3,hlt,us,ys,hu3,hU3,Nat.le_succ_of_le hy,hb⟩
    |true=>
     have hb:((mX (te M Z1)).bind λy=>(bx tg tt te M (aO ρ vs) (ds.drop (i+1))).bind λr=>Out.ok (y::r)).sat (λr=>total=ys++r) λ_=>False:=hb;refine tQ.go I4 (oK hb.bnd) λy v H4 hyv e4 ry=>?_;have I5:=I4.ex e4;have hu4:=e4 _ _ hu3;have hU4:=hU3.ex e4 I4.kd;have lD:(g.add D).Lo D:=.inr rfl;refine⟨us,hu4,sz_lt (by rw[hU.length];omega),Ex.mut (((ea.trans e2).trans e3).trans e4) nD,hlt,us++[v],ys++[y],ahA,?_,by simp;omega,hyv.bnd.mono (λr hr=>?_) λ_ z=>z⟩
     .exact xK I5.kd hu4 lD (hU4.append (.cons ry .nil))
     .have hr:total=ys++y::r:=hr;rw[hr];simp
  .have e:i=ds.length:=by omega
   refine .inl ⟨w.stop _ i Ha Ca e,?_⟩;rw[e,ahe]at hs;have hs:total=ys++[]:=hs;rw[ag1]at hs;subst hs;exact hQ D us Ha (jM e1 D nD) (e1.trans ea) hu hU
theorem Vm{it:IF}{tg:bT}{js vs:List Nat}{tt:QT}{te:QF}(hj:∀j∈js,j∈vs)(σ:L2.St)(H:Hp)(Q:VK)(h:tQ K aj W (iK it tg vs tt te) σ H Q) :
  tLc (tI K aj W false it) (lO K aj js tg) (dZ K aj WF tt) (tQ K aj WF te) vs σ H Q:=by
 obtain⟨g,ρ,M,I,h⟩:=h;refine Ie hj σ H Q ⟨g,ρ,M,I,?_⟩;unfold oU;unfold iK at h;cases hi:it M ρ with
 |bad=>rw[hi]at h;exact aht h
 |exc x=>rw[hi]at h;exact h
 |ok ds=>
  rw[hi]at h;obtain⟨hz,h⟩:=Out.sat.dN h;have h:=h.bnd
  show(Out.when (decide (ds.length<=50000)) (bx tg tt te M (aO ρ vs) ds)).sat _ _
  rw[hz,Out.O9];exact h.mono (λxs z l us H' n e hl r=>z _ H' e (.lst (.inl ⟨hl,I.kd.fresh n⟩) (aq.less (g:=g.add l) (g':=g) rfl (λa z=>z.elim .inl λz=>.inr (z.elim .inl λz=>.inr (.inl z))) r))) λ_ z=>z
end
section
variable{X:Cx}{aj:aC}{W:WX}{elt tg iter:Expr}{pos p tpos:Pos}
theorem Y0{X:Cx}:Takes X WF:=λu s' ⟨a,B,sI,pins,σ,H,cls,d,e,I,nb,up,sky,na,os,ag,w⟩=>aht w
theorem acv{scope:Scope}{own:List (Str×Nat)}{it:IF}{tgf:bT}{js:List Nat}{tt:QT}{te:QF}{ifs:List Expr}(hc:X.calm=true)(hN:X.N.Nodup)(hi:QI aj X W false tg iter it)(ok:blkC X.N X.env.scope scope own=true)(hj:∀j∈js,j∈own.map (·.2))
  (hg:∀(s:Shared) (H:Hp) (C:Addr) (cl:List (Str×Addr)) (fp:List Addr),QG aj (X.blk s H scope (compEnvC scope cl C X.env) fp) tg js tgf)
  (ht:∀(s:Shared) (H:Hp) (C:Addr) (cl:List (Str×Addr)) (fp:List Addr),PTs (X.blk s H scope (compEnvC scope cl C X.env) fp) ifs (dZ X.K aj WF tt))
  (he:∀(s:Shared) (H:Hp) (C:Addr) (cl:List (Str×Addr)) (fp:List Addr),QE aj (X.blk s H scope (compEnvC scope cl C X.env) fp) WF elt te) (hs:∀x,foldedSetIterable iter X.env x=pure x) :
  QE aj X W (.ListComp elt [⟨tg,iter,ifs,0⟩] scope pos) (iK it tgf (own.map (·.2)) tt te):=
 PE.weak (pe_lc (g:=lO X.K aj js tgf) (tt:=dZ X.K aj WF tt) (te:=tQ X.K aj WF te) hc hN hi (blkOk_by ok) (λs H C cl fp=>hg s H C cl fp) ht (λs H C cl fp=>he s H C cl fp) hs) λσ H Q h=>Vm hj σ H Q h
theorem abL{scope:Scope}{own:List (Str×Nat)}{it:IF}{tgf:bT}{js:List Nat}{tt:QT}{te:QF}{ifs:List Expr}(hc:X.calm=true)(hN:X.N.Nodup)(hi:QI aj X W false tg iter it)(ok:blkC X.N X.env.scope scope own=true)(hj:∀j∈js,j∈own.map (·.2))
  (hg:∀(s:Shared) (H:Hp) (C:Addr) (cl:List (Str×Addr)) (fp:List Addr),QG aj (X.blk s H scope (compEnvC scope cl C X.env) fp) tg js tgf)
  (ht:∀(s:Shared) (H:Hp) (C:Addr) (cl:List (Str×Addr)) (fp:List Addr),PTs (X.blk s H scope (compEnvC scope cl C X.env) fp) ifs (dZ X.K aj WF tt))
  (he:∀(s:Shared) (H:Hp) (C:Addr) (cl:List (Str×Addr)) (fp:List Addr),QE aj (X.blk s H scope (compEnvC scope cl C X.env) fp) WF elt te) (hs:∀x,foldedSetIterable iter X.env x=pure x) :
  PE X (.ListComp elt [⟨tg,iter,ifs,0⟩] scope pos) (QM X.K aj W (oU it tgf (own.map (·.2)) tt te)):=
 PE.weak (pe_lc (g:=lO X.K aj js tgf) (tt:=dZ X.K aj WF tt) (te:=tQ X.K aj WF te) hc hN hi (blkOk_by ok) (λs H C cl fp=>hg s H C cl fp) ht (λs H C cl fp=>he s H C cl fp) hs) λσ H Q h=>Ie hj σ H Q h
end
def aR.sat{α:Type}(o:aR α)(P:α->Mo->Prop)(E:bK->Mo->Prop):Prop:=
 match o with
 |.ok a M=>P a M
 |.exc x M=>E x M
 |.bad=>False
def aR.bind{α β:Type}(o:aR α)(k:α->Mo->aR β):aR β:=
 match o with
 |.ok a M=>k a M
 |.exc x M=>.exc x M
 |.bad=>.bad
@[simp]theorem aR.V4 {α β:Type} (a:α) (M:Mo) (k:α->Mo->aR β):(aR.ok a M).bind k=k a M:=rfl
@[simp]theorem aR.RX {α β:Type} (x:bK) (M:Mo) (k:α->Mo->aR β):(aR.exc x M:aR α).bind k=.exc x M:=rfl
@[simp]theorem aR.T7 {α β:Type} (k:α->Mo->aR β):(aR.bad:aR α).bind k=.bad:=rfl
theorem aR.sat.bnd{α β:Type}{o:aR α}{k:α->Mo->aR β}{P:β->Mo->Prop}{E:bK->Mo->Prop}(h:(o.bind k).sat P E):o.sat (λa M=>(k a M).sat P E) E:=by cases o<;>exact h
theorem aR.sat.mono{α:Type}{o:aR α}{P P':α->Mo->Prop}{E E':bK->Mo->Prop}(h:o.sat P E)(hp:∀a M,P a M->P' a M)(he:∀x M,E x M->E' x M):o.sat P' E':=by
 cases o
 .exact hp _ _ h
 .exact he _ _ h
 .exact h
def Out.at{α:Type}(o:Out α)(M:Mo):aR α:=
 match o with
 |.ok a=>.ok a M
 |.exc x=>.exc x M
 |.bad=>.bad
@[simp]theorem Out.Nh {α:Type} (a:α) (M:Mo):(Out.ok a).at M=.ok a M:=rfl
@[simp]theorem Out.aaA {α:Type} (x:bK) (M:Mo):(Out.exc x:Out α).at M=.exc x M:=rfl
@[simp]theorem Out.aap {α:Type} (M:Mo):(Out.bad:Out α).at M=.bad:=rfl
theorem Out.dD{α:Type}{o:Out α}{M:Mo}{P:α->Mo->Prop}{E:bK->Mo->Prop}(h:(o.at M).sat P E):o.sat (λa=>P a M) λx=>E x M:=by cases o<;>exact h
abbrev GF:=Mo->Env->aR Dat
abbrev GT:=Mo->Env->aR Bool
def dY.sat(o:dY)(nx:Env->Mo->Prop)(rt:Dat->Mo->Prop)(bk ct:Env->Mo->Prop)(ex:bK->Env->Mo->Prop):Prop:=
 match o with
 |.next ρ M=>nx ρ M
 |.ret d M=>rt d M
 |.brk ρ M=>bk ρ M
 |.cont ρ M=>ct ρ M
 |.exc x ρ M=>ex x ρ M
 |.bad=>False
theorem dY.sat.mono{o:dY}{nx nx':Env->Mo->Prop}{rt rt':Dat->Mo->Prop}{bk bk' ct ct':Env->Mo->Prop}{ex ex':bK->Env->Mo->Prop}(h:o.sat nx rt bk ct ex)(h1:∀ρ M,nx ρ M->nx' ρ M)(h2:∀d M,rt d M->rt' d M)(h3:∀ρ M,bk ρ M->bk' ρ M)(h4:∀ρ M,ct ρ M->ct' ρ M)(h5:∀x ρ M,ex x ρ M->ex' x ρ M):o.sat nx' rt' bk' ct' ex':=by
 cases o
 .exact h1 _ _ h
 .exact h2 _ _ h
 .exact h3 _ _ h
 .exact h4 _ _ h
 .exact h5 _ _ _ h
 .exact h
abbrev SF:=Mo->Env->dY
def Gh.fr(g:Gh):Gh:={ g with Lo:=λ_=>False }
section
variable(K:agw)(aj:aC)(W:WX)(q:Bool)
def gE(g:Gh)(H:Hp)(σ:L2.St)(ρ:Env)(x:bK)(M':Mo):Prop:=∀H' g' c dd,Gr q g g' H H'->SInv K aj σ H' g' ρ M'->iU K aj g' H' x c dd->W c dd σ H'
def tE(f:GF):TE:=λσ H Q=>∃g ρ M,SInv K aj σ H g ρ M/\(f M ρ).sat (λd M'=>∀v H' g',Gr q g g' H H'->SInv K aj σ H' g' ρ M'->Rep K g' H' v d->Q v H') (gE K aj W q g H σ ρ)
def tET(f:GT):TT:=λσ H Q=>∃g ρ M,SInv K aj σ H g ρ M/\(f M ρ).sat (λb M'=>∀H' g',Gr q g g' H H'->SInv K aj σ H' g' ρ M'->Q b H') (gE K aj W q g H σ ρ)
def sN(k:L2.St->Hp->Prop)(g:Gh)(H:Hp)(Z':Env)(M':Mo):Prop:=∀σ' H' g',Gr q g g' H H'->SInv K aj σ' H' g' Z' M'->k σ' H'
def sR(k:VK)(g:Gh)(H:Hp)(d:Dat)(M':Mo):Prop:=∀v H' g',Gr q g g' H H'->Kd g'.fr H'->cM K aj g'.fr H' M'->Rep K g'.fr H' v d->k v H'
def sX(g:Gh)(H:Hp)(x:bK)(Z':Env)(M':Mo):Prop:=∀σ' H' g' c dd,Gr q g g' H H'->SInv K aj σ' H' g' Z' M'->iU K aj g'.fr H' x c dd->W c dd σ' H'
def tS(f:SF):TS:=λD σ H=>∃g ρ M,SInv K aj σ H g ρ M/\(f M ρ).sat (sN K aj q D.nx g H) (sR K aj q D.rt g H) (sN K aj q D.bk g H) (sN K aj q D.ct g H) (sX K aj W q g H)
end
section
variable{K:agw}{aj:aC}{W:WX}{q:Bool}{g g1:Gh}{H H1:Hp}{σ:L2.St}{ρ:Env}{M:Mo}
theorem gE.gr{x:bK}{M':Mo}(r:Gr q g g1 H H1)(h:gE K aj W q g H σ ρ x M'):gE K aj W q g1 H1 σ ρ x M':=λH' g' c dd r' I z=>h H' g' c dd (r.trans r') I z
theorem sN.gr{k:L2.St->Hp->Prop}{Z':Env}{M':Mo}(r:Gr q g g1 H H1)(h:sN K aj q k g H Z' M'):sN K aj q k g1 H1 Z' M':=λσ' H' g' r' I=>h σ' H' g' (r.trans r') I
theorem sR.gr{k:VK}{d:Dat}{M':Mo}(r:Gr q g g1 H H1)(h:sR K aj q k g H d M'):sR K aj q k g1 H1 d M':=λv H' g' r' I z y=>h v H' g' (r.trans r') I z y
theorem sX.gr{x:bK}{Z':Env}{M':Mo}(r:Gr q g g1 H H1)(h:sX K aj W q g H x Z' M'):sX K aj W q g1 H1 x Z' M':=λσ' H' g' c dd r' I z=>h σ' H' g' c dd (r.trans r') I z
theorem tE.go{f:GF}{k:Dat->Mo->Prop}{Q:VK}(I:SInv K aj σ H g ρ M)(h:(f M ρ).sat k (gE K aj W q g H σ ρ))(hk:∀d M' v H' g',k d M'->Gr q g g' H H'->SInv K aj σ H' g' ρ M'->Rep K g' H' v d->Q v H'):tE K aj W q f σ H Q:=
 ⟨g,ρ,M,I,h.mono (λd M' hd v H' g' e I' r=>hk d M' v H' g' hd e I' r) λ_ _ z=>z⟩
theorem tET.go{f:GT}{k:Bool->Mo->Prop}{Q:Bool->Hp->Prop}(I:SInv K aj σ H g ρ M)(h:(f M ρ).sat k (gE K aj W q g H σ ρ))(hk:∀b M' H' g',k b M'->Gr q g g' H H'->SInv K aj σ H' g' ρ M'->Q b H'):tET K aj W q f σ H Q:=
 ⟨g,ρ,M,I,h.mono (λd M' hd H' g' e I'=>hk d M' H' g' hd e I') λ_ _ z=>z⟩
theorem tS.go{f:SF}{D:Ends}(I:SInv K aj σ H1 g1 ρ M)(r:Gr q g g1 H H1)(h:(f M ρ).sat (sN K aj q D.nx g H) (sR K aj q D.rt g H) (sN K aj q D.bk g H) (sN K aj q D.ct g H) (sX K aj W q g H)):tS K aj W q f D σ H1:=
 ⟨g1,ρ,M,I,h.mono (λ_ _ z=>z.gr r) (λ_ _ z=>z.gr r) (λ_ _ z=>z.gr r) (λ_ _ z=>z.gr r) (λ_ _ _ z=>z.gr r)⟩
theorem eZ.less{g':Gh}{fs:List (Str×V)}{gs:List (Str×Dat)}(e:g'.tk=g.tk)(n:∀a,g'.A a->g.A a)(h:eZ K g H fs gs):eZ K g' H fs gs:=by
 induction h with
 |nil=>exact .nil
 |cons r _ ih=>exact .cons (r.less e n) ih
theorem iU.less{g':Gh}{x:bK}{c:Value}{dd:Option Addr}(e:g'.tk=g.tk)(n:∀a,g'.A a->g.A a)(h:iU K aj g H x c dd):iU K aj g' H x c dd:=by obtain⟨C,h1,h2,h3⟩:=h;refine⟨C,h1,h2,h3.imp id λ⟨a,fs,e1,e2,e3⟩=>⟨a,fs,e1,e2,e3.less e n⟩⟩
theorem j7(g:Gh):∀a,g.fr.A a->g.A a:=λa z=>z.elim .inl λz=>.inr (z.elim .inl λz=>aht z)
theorem Rep.fr{v:V}{d:Dat}(h:Rep K g H v d):Rep K g.fr H v d:=Rep.less (g:=g) (g':=g.fr) rfl (j7 g) h
theorem aq.fr{v:List V}{d:List Dat}(h:aq K g H v d):aq K g.fr H v d:=aq.less (g:=g) (g':=g.fr) rfl (j7 g) h
theorem iU.fr{x:bK}{c:Value}{dd:Option Addr}(h:iU K aj g H x c dd):iU K aj g.fr H x c dd:=iU.less (g:=g) (g':=g.fr) rfl (j7 g) h
end
def GE(aj:aC)(X:Cx)(W:WX)(q:Bool)(e:Expr)(f:GF):Prop:=PE X e (tE X.K aj W q f)
def GTe(aj:aC)(X:Cx)(W:WX)(q:Bool)(e:Expr)(f:GT):Prop:=PT X e (tET X.K aj W q f)
def SE(aj:aC)(X:Cx)(W:WX)(q:Bool)(s:Stmt)(f:SF):Prop:=PS X s (tS X.K aj W q f)
def sV(aj:aC)(X:Cx)(W:WX)(q:Bool)(s:List Stmt)(f:SF):Prop:=PSs X s (tS X.K aj W q f)
theorem PS.weak{X:Cx}{e:Stmt}{t t':TS}(h:PS X e t)(k:∀D σ H,t' D σ H->t D σ H):PS X e t':=⟨λpins s σ H D I z=>h.run pins s σ H D I (k D σ H z)⟩
theorem PSs.weak{X:Cx}{e:List Stmt}{t t':TS}(h:PSs X e t)(k:∀D σ H,t' D σ H->t D σ H):PSs X e t':=⟨λpins s σ H D I z=>h.run pins s σ H D I (k D σ H z)⟩
def gOf(f:QF):GF:=λM ρ=>(f M ρ).at M
def Td(f:QT):GT:=λM ρ=>(f M ρ).at M
section
variable{X:Cx}{aj:aC}{W:WX}{q:Bool}{a b e:Expr}{pos:Pos}
theorem Va{f:QF}(h:QE aj X W e f):GE aj X W q e (gOf f):=PE.weak h λσ H Q ⟨g,ρ,M,I,z⟩=>
 ⟨g,ρ,M,I,(Out.dD z).mono (λd k v H' e r=>k v H' g (Gr.ex e) (I.ex e) r) λx k H' c dd e r=>k H' g c dd (Gr.ex e) (I.ex e) r⟩
theorem abE{f:QT}(h:jf aj X W e f):GTe aj X W q e (Td f):=PT.weak h λσ H Q ⟨g,ρ,M,I,z⟩=>
 ⟨g,ρ,M,I,(Out.dD z).mono (λd k H' e=>k H' g (Gr.ex e) (I.ex e)) λx k H' c dd e r=>k H' g c dd (Gr.ex e) (I.ex e) r⟩
def aP:SF:=λM ρ=>.next ρ M
def aF(f k:SF):SF:=λM ρ=>match f M ρ with
 |.next Z' M'=>k M' Z'
 |o=>o
theorem Ye:sV aj X W q [] aP:=PSs.weak pss_nil λD σ H ⟨g,ρ,M,I,z⟩=>z σ H g .refl I
theorem GZ{s:Stmt}{f:SF}(h:SE aj X W q s f):sV aj X W q [s] f:=pss_one h
theorem Xi{s:Stmt}{ss:List Stmt}{f k:SF}(h:SE aj X W q s f)(hs:sV aj X W q ss k):sV aj X W q (s::ss) (aF f k):=by
 refine PSs.weak (pss_cons h hs) λD σ H ⟨g,ρ,M,I,z⟩=>?_;refine⟨g,ρ,M,I,?_⟩;unfold aF at z;cases hf:f M ρ with
 |next Z' M'=>
  rw[hf]at z;exact λσ' H' g' r I'=>tS.go I' r z
 |ret d M'=>rw[hf]at z;exact z
 |brk Z' M'=>rw[hf]at z;exact z
 |cont Z' M'=>rw[hf]at z;exact z
 |exc x Z' M'=>rw[hf]at z;exact z
 |bad=>rw[hf]at z;exact z
def aR.then{α:Type}(o:aR α)(ρ:Env)(k:α->Mo->dY):dY:=
 match o with
 |.ok a M=>k a M
 |.exc x M=>.exc x ρ M
 |.bad=>.bad
@[simp]theorem aR.Aq {α:Type} (a:α) (M:Mo) (ρ:Env) (k:α->Mo->dY):(aR.ok a M).then ρ k=k a M:=rfl
@[simp]theorem aR.Uh {α:Type} (x:bK) (M:Mo) (ρ:Env) (k:α->Mo->dY):(aR.exc x M:aR α).then ρ k=.exc x ρ M:=rfl
@[simp]theorem aR.Tt {α:Type} (ρ:Env) (k:α->Mo->dY):(aR.bad:aR α).then ρ k=.bad:=rfl
theorem aZ{α:Type}{K:agw}{g:Gh}{H:Hp}{σ:L2.St}{ρ:Env}{o:aR α}{k:α->Mo->dY}{nx bk ct:Env->Mo->Prop}{rt:Dat->Mo->Prop}(h:(o.then ρ k).sat nx rt bk ct (sX K aj W q g H)):o.sat (λa M=>(k a M).sat nx rt bk ct (sX K aj W q g H)) (gE K aj W q g H σ ρ):=by
 cases o with
 |ok a M=>exact h
 |exc x M=>exact λH' g' c dd r I z=>h σ H' g' c dd r I z.fr
 |bad=>exact h
def aM(tg:bT)(f:GF):SF:=λM ρ=>(f M ρ).then ρ λd M'=>match tg d ρ with
 |some Z'=>.next Z' M'
 |none=>.bad
theorem Ij{tg:Expr}{js:List Nat}{tf:bT}{f:GF}(he:GE aj X W q e f)(hg:QG aj X tg js tf)(hs:swapsWithSole [tg] e pos.line X.env=pure false)(hw:swappedStores [tg] e X.env=pure none)(h1:(assignEach [tg] X.env).map (·.2)=[assign tg X.env]):SE aj X W q (.Assign [tg] e pos) (aM tf f):=by
 refine PS.weak (ps_asg he hg hs hw h1) λD σ H ⟨g,ρ,M,I,z⟩=>?_;refine tE.go I (aZ (σ:=σ) z) λd M' v H' g' k r I' rv=>?_;split at k
 .next Z' e'=>exact⟨g',ρ,M',d,Z',I',rv,e',λvs I2=>k _ H' g' r I2⟩
 .exact aht k
def yt(f:GF):SF:=λM ρ=>(f M ρ).then ρ λ_ M'=>.next ρ M'
theorem Ar{f:GF}(he:GE aj X W q e f)(hs:swapsWith e none pos.line X.env=pure false):SE aj X W q (.Expr e pos) (yt f):=by refine PS.weak (ps_expr he hs) λD σ H ⟨g,ρ,M,I,z⟩=>?_;exact tE.go I (aZ (σ:=σ) z) λd M' v H' g' k r I' rv=>k σ H' g' r I'
end
def yF:Cell->Cell
 |.mut xs=>.dat (.list xs)
 |c=>c
def gJ(ρ:Env):Env:=ρ.map λo=>o.map yF
section
variable{K:agw}{aj:aC}{W:WX}{q:Bool}{g:Gh}{H:Hp}{σ:L2.St}{ρ:Env}{M:Mo}
theorem dR.less{g':Gh}{l:Addr}(e:g'.tk=g.tk)(n:∀a,g'.A a->g.A a):∀{b:Bool} {kvs:List (Dat×Dat)},dR K aj g H l b kvs->dR K aj g' H l b kvs
 |false,_,⟨kv,h1,h2,h3⟩=>⟨kv,h1,h2,h3.less e n⟩
 |true,_,⟨o,xs,vs,h1,h2,h3,h4,h5,h6⟩=>⟨o,xs,vs,h1,h2,h3,h4.less e n,h5,h6.less e n⟩
theorem bA.less{g':Gh}{h:Nat}{f:Str}{v:V}(e:g'.tk=g.tk)(e2:g'.ow=g.ow)(n:∀a,g'.A a->g.A a):∀{fl:dB},bA K aj g H h f v fl->bA K aj g' H h f v fl
 |.dat _,z=>Rep.less e n z
 |.lst _ _,⟨l,us,h1,h2,h3,h4,h5⟩=>⟨l,us,h1,h2,by rw[e2];exact h3,h4.less e n,by rw[Gh.tV e];exact h5⟩
 |.dic _ _,⟨l,h1,h2,h3⟩=>⟨l,h1,by rw[e2];exact h2,h3.less e n⟩
theorem aW.less{g':Gh}{h:Nat}(e:g'.tk=g.tk)(e2:g'.ow=g.ow)(n:∀a,g'.A a->g.A a):∀{fs:List (Str×V)} {gs:List (Str×dB)},aW K aj g H h fs gs->aW K aj g' H h fs gs
 |_,_,.nil=>.nil
 |_,_,.cons z t=>.cons (bA.less e e2 n z) (aW.less e e2 n t)
theorem cM.less{g':Gh}(e:g'.tk=g.tk)(e2:g'.ow=g.ow)(n:∀a,g'.A a->g.A a)(w:cM K aj g H M):cM K aj g' H M where
 len:=by rw[Gh.tV e];exact w.len
 inj:=by rw[Gh.tV e];exact w.inj
 ins:=λh a i ha hi hc=>by
  rw[Gh.tV e]at ha;obtain⟨C,dx,fs,c1,c2,c3⟩:=w.ins h a i ha hi hc;exact⟨C,dx,fs,c1,c2,c3.less e e2 n⟩
 nd:=w.nd
 fd:=w.fd
 tw:=by rw[Gh.tV e,e2];exact w.tw
 dm:=w.dm
 nc:=w.nc
theorem xH{i:Nat}{c:Cell}(h:(gJ ρ)[i]?=some (some c)):∃c',ρ[i]?=some (some c')/\c=yF c':=by
 unfold gJ at h;rw[agS]at h;cases hr:ρ[i]? with
 |none=>rw[hr]at h;cases h
 |some o=>
  rw[hr]at h;cases o with
  |none=>cases h
  |some c'=>
   cases h;exact⟨c',rfl,rfl⟩
theorem SInv.gJ(I:SInv K aj σ H g ρ M):SInv K aj σ H g.fr (gJ ρ) M where
 kd:=⟨λa z=>I.kd.ob a (j7 g a z),λa z=>aht z,λa z=>⟨(I.kd.lc a z).1,λy=>y⟩⟩
 wok:=cM.less (g:=g) (g':=g.fr) rfl rfl (j7 g) I.wok
 len:=by unfold Rf.gJ;rw[agB];exact I.len
 dat:=λi d h=>by
  obtain⟨c,h1,h2⟩:=xH h;cases c with
  |dat d'=>
   cases h2;obtain⟨v,e1,e2⟩:=I.dat i _ h1;exact⟨v,e1,e2.fr⟩
  | «mut» xs=>
   cases h2;obtain⟨l,us,e1,e2,e3,e4⟩:=I.own i _ h1;refine⟨_,e1,.lst (.inl ⟨e2,λz=>?_⟩) e4.fr⟩;rcases z with z|z|z
   .exact I.kd.lo l e3 z
   .exact(I.kd.lc l z).2 e3
   .exact z
 own:=λi xs h=>by
  obtain⟨c,h1,h2⟩:=xH h;cases c<;>cases h2
 sep:=λi j xs ys l ne h1=>by
  obtain⟨c,h1,h2⟩:=xH h1;cases c<;>cases h2
end
section
variable{K:agw}{aj:aC}{W:WX}{q:Bool}{g g':Gh}{H H':Hp}{σ:L2.St}{ρ:Env}{M:Mo}
theorem Kd.fr(k:Kd g H):Kd g.fr H:=⟨λa z=>k.ob a (j7 g a z),λa z=>aht z,λa z=>⟨(k.lc a z).1,λy=>y⟩⟩
theorem cM.fr(w:cM K aj g H M):cM K aj g.fr H M:=cM.less (g:=g) (g':=g.fr) rfl rfl (j7 g) w
theorem jJ{α:Type}{l:List (Option α)}{j i:Nat}{c:α}{o:Option α}(h:(l.set j o)[i]?=some (some c)):(j=i/\o=some c/\j<l.length)\/(j≠i/\l[i]?=some (some c)):=by
 by_cases z:j=i
 .subst z;have hj:j<l.length:=by
   have:=(agE.mp h).1;rw[agR]at this;exact this
  rw[agN hj]at h;exact .inl ⟨rfl,ag0 h,hj⟩
 .rw[agF z]at h;exact .inr ⟨z,h⟩
theorem SInv.aaL{j:Nat}{l:Addr}{us:List V}{xs:List Dat}(I:SInv K aj σ H g ρ M)(n:H l=none)(e:Ex H H')(hl:H' l=some (.lst us))(r:aq K (g.add l) H' us xs):SInv K aj (σ.set j (some (.ref l))) H' (g.add l) (ρ.set j (some (.mut xs))) M:=by
 have I1:=I.add n e hl ahs;have nl:∀(i:Nat) (ys:List Dat),ρ[i]?=some (some (.mut ys))->σ[i]?≠some (some (.ref l)):=λi ys h z=>by
  obtain⟨l',us',h1,h2,_⟩:=I.own i ys h;rw[z]at h1;cases h1;rw[n]at h2;cases h2
 refine⟨I1.kd,I1.wok,by rw[agR,agR];exact I.len,λi d h=>?_,λi ys h=>?_,λi k ys zs a ne h1 h2 h3 h4=>?_⟩
 .rcases jJ h with⟨_,h,_⟩|⟨ne,h⟩
  .cases h
  .rw[agF ne];exact I1.dat i d h
 .rcases jJ h with⟨rfl,h,hj⟩|⟨ne,h⟩
  .cases h;exact⟨l,us,by rw[agN (by rw[I.len];exact hj)],hl,.inr rfl,r⟩
  .rw[agF ne];exact I1.own i ys h
 .rcases jJ h1 with⟨rfl,h1,hj⟩|⟨n1,h1⟩
  .rcases jJ h2 with⟨rfl,h2,_⟩|⟨n2,h2⟩
   .exact ne rfl
   .rw[agN (by rw[I.len];exact hj)]at h3;cases h3;rw[agF n2]at h4;exact nl k zs h2 h4
  .rcases jJ h2 with⟨rfl,h2,hj⟩|⟨n2,h2⟩
   .rw[agN (by rw[I.len];exact hj)]at h4;cases h4;rw[agF n1]at h3;exact nl i ys h1 h3
   .rw[agF n1]at h3;rw[agF n2]at h4;exact I.sep i k ys zs a ne h1 h2 h3 h4
theorem bA.loc{l:Addr}{o o':HO}{h:Nat}{f:Str}{v:V}(k:Kd g H)(hl:H l=some o)(lo:g.Lo l):∀{fl:dB},bA K aj g H h f v fl->bA K aj g (upd H l o') h f v fl:=λ{fl} z=>by
 have r:Gr true g g H (upd H l o'):=Gr.upd k hl (.inr lo);cases fl with
 |dat d=>exact Rep.gr r k z
 |lst n xs=>
  obtain⟨a,ws,h1,h2,h3,h4,h5⟩:=z;exact⟨a,ws,h1,by rw[upd_ne (λz=>by subst z;exact k.lo _ lo (.inr (by rw[h3];exact λz=>nomatch z)))];exact h2,h3,h4.gr r k,h5⟩
 |dic n kvs=>
  obtain⟨a,h1,h2,h3⟩:=z;have na:a≠l:=λz=>by subst z;exact k.lo _ lo (.inr (by rw[h2];exact λz=>nomatch z))
  refine⟨a,h1,h2,?_⟩;cases n with
  |false=>
   obtain⟨kv,h3,h4,h5⟩:=h3;exact⟨kv,by rw[upd_ne na];exact h3,h4,h5.gr r k⟩
  |true=>
   obtain⟨o,xs,vs,h3,h4,h5,h6,h7,h8⟩:=h3;exact⟨o,xs,vs,by rw[upd_ne na];exact h3,h4,h5,h6.gr r k,h7,h8.gr r k⟩
theorem aW.loc{l:Addr}{o o':HO}{h:Nat}(k:Kd g H)(hl:H l=some o)(lo:g.Lo l):∀{fs:List (Str×V)} {gs:List (Str×dB)},aW K aj g H h fs gs->aW K aj g (upd H l o') h fs gs
 |_,_,.nil=>.nil
 |_,_,.cons z t=>.cons (bA.loc k hl lo z) (aW.loc k hl lo t)
theorem cM.loc{l:Addr}{o o':HO}(k:Kd g H)(hl:H l=some o)(lo:g.Lo l)(w:cM K aj g H M):cM K aj g (upd H l o') M where
 len:=w.len
 inj:=w.inj
 ins:=λh a i ha hi hc=>by
  obtain⟨C,dx,fs,c1,c2,c3⟩:=w.ins h a i ha hi hc;exact⟨C,dx,fs,c1,by rw[upd_ne (λz=>by subst z;exact k.lo _ lo (.inl (agT ha)))];exact c2,c3.loc k hl lo⟩
 nd:=w.nd
 fd:=w.fd
 tw:=w.tw
 dm:=w.dm
 nc:=w.nc
theorem SInv.change{j:Nat}{xs ys:List Dat}(I:SInv K aj σ H g ρ M)(hj:ρ[j]?=some (some (.mut xs))):∃l us,σ[j]?=some (some (.ref l))/\H l=some (.lst us)/\g.Lo l/\aq K g H us xs/\∀us',aq K g H us' ys->SInv K aj σ (upd H l (.lst us')) g (ρ.set j (some (.mut ys))) M:=by
 obtain⟨l,us,h1,h2,h3,h4⟩:=I.own j xs hj;refine⟨l,us,h1,h2,h3,h4,λus' r=>?_⟩;have gr:Gr true g g H (upd H l (.lst us')):=Gr.upd I.kd h2 (.inr h3);refine⟨I.kd.upd ahs,I.wok.loc I.kd h2 h3,by rw[agR];exact I.len,λi d h=>?_,λi zs h=>?_,λi k zs ws a ne e1 e2 e3 e4=>?_⟩
 .rcases jJ h with⟨_,h,_⟩|⟨ne,h⟩
  .cases h
  .obtain⟨v,e1,e2⟩:=I.dat i d h;exact⟨v,e1,e2.gr gr I.kd⟩
 .rcases jJ h with⟨rfl,h,_⟩|⟨ne,h⟩
  .cases h;exact⟨l,us',h1,ahA,h3,r.gr gr I.kd⟩
  .obtain⟨l',ws,e1,e2,e3,e4⟩:=I.own i zs h;have nl:l'≠l:=λz=>by
    subst z;exact I.sep i j zs xs l' (Ne.symm ne) h hj e1 h1
   exact⟨l',ws,e1,by rw[upd_ne nl];exact e2,e3,e4.gr gr I.kd⟩
 .have k1:∃xs,ρ[i]?=some (some (.mut xs)):=by
   rcases jJ e1 with⟨rfl,_,_⟩|⟨_,h⟩
   .exact⟨xs,hj⟩
   .exact⟨zs,h⟩
  have k2:∃xs,ρ[k]?=some (some (.mut xs)):=by
   rcases jJ e2 with⟨rfl,_,_⟩|⟨_,h⟩
   .exact⟨xs,hj⟩
   .exact⟨ws,h⟩
  obtain⟨x1,k1⟩:=k1;obtain⟨x2,k2⟩:=k2;exact I.sep i k x1 x2 a ne k1 k2 e3 e4
end
section
variable{X:Cx}{aj:aC}{W:WX}{q:Bool}{a b e:Expr}{pos:Pos}
def aQ(f:QF):SF:=λM ρ=>((f M (gJ ρ)).at M).then ρ λd M'=>.ret d M'
def Mw(f:GF):SF:=λM ρ=>(f M ρ).then ρ λd M'=>.ret d M'
theorem Oa{f:QF}(he:QE aj X W e f):SE aj X W q (.Return (some e) pos) (aQ f):=by
 refine PS.weak (ps_ret he) λD σ H ⟨g,ρ,M,I,z⟩=>?_;refine⟨g.fr,gJ ρ,M,I.gJ,?_⟩;unfold aQ at z;cases hf:f M (gJ ρ) with
 |ok d=>
  rw[hf]at z;exact λv H' e r=>z v H' g (Gr.ex e) (I.ex e).kd.fr (I.ex e).wok.fr r
 |exc x=>
  rw[hf]at z;exact λH' c dd e r=>z σ H' g c dd (Gr.ex e) (I.ex e) r
 |bad=>rw[hf]at z;exact aht z
theorem V3{f:GF}(he:GE aj X W q e f):SE aj X W q (.Return (some e) pos) (Mw f):=by refine PS.weak (ps_ret he) λD σ H ⟨g,ρ,M,I,z⟩=>?_;exact tE.go I (aZ (σ:=σ) z) λd M' v H' g' k r I' rv=>k v H' g' r I'.kd.fr I'.wok.fr rv.fr
def bL(t:QT)(f k:SF):SF:=λM ρ=>((t M (gJ ρ)).at M).then ρ λc M'=>if c=true then f M' ρ else k M' ρ
def adn(t:GT)(f k:SF):SF:=λM ρ=>(t M ρ).then ρ λc M'=>if c=true then f M' ρ else k M' ρ
theorem abP{c:Expr}{s1 s2:List Stmt}{t:QT}{f k:SF}(hc:jf aj X W c t)(h1:sV aj X W q s1 f)(h2:sV aj X W q s2 k):SE aj X W q (.If c s1 s2 pos) (bL t f k):=by
 refine PS.weak (ps_if hc h1 h2) λD σ H ⟨g,ρ,M,I,z⟩=>?_;refine⟨g.fr,gJ ρ,M,I.gJ,?_⟩;unfold bL at z;cases hf:t M (gJ ρ) with
 |ok d=>
  rw[hf]at z;intro H' e;cases d with
  |true=>exact tS.go (I.ex e) (Gr.ex e) z
  |false=>exact tS.go (I.ex e) (Gr.ex e) z
 |exc x=>
  rw[hf]at z;exact λH' c dd e r=>z σ H' g c dd (Gr.ex e) (I.ex e) r
 |bad=>rw[hf]at z;exact aht z
def bZ(tg:bT)(body:SF):List Dat->Mo->Env->dY
 |[],M,ρ=>.next ρ M
 |d::ds,M,ρ=>match tg d ρ with
  |none=>.bad
  |some Z1=>match body M Z1 with
   |.next Z2 M2=>bZ tg body ds M2 Z2
   |.cont Z2 M2=>bZ tg body ds M2 Z2
   |.brk Z2 M2=>.next Z2 M2
   |.ret d M2=>.ret d M2
   |.exc x Z2 M2=>.exc x Z2 M2
   |.bad=>.bad
def nH(it:IF)(tg:bT)(body:SF):SF:=λM ρ=>((it M ρ).at M).then ρ λds M'=>bZ tg body ds M' ρ
theorem aaf{tg iter:Expr}{body:List Stmt}{it:IF}{js:List Nat}{tf:bT}{f:SF}(hp:PassesOwn (model X.prog X.w) X.A X.env X.xe)(hc:X.calm=true)(hi:QI aj X W true tg iter it)(hg:QG aj X tg js tf)(hb:sV aj X W q body f)(hs:∀x,foldedSetIterable iter X.env x=pure x) :
  SE aj X W q (.For tg iter body [] pos) (nH it tf f):=by
 refine PS.weak (ps_for hp hc hi hg hb hs) λD σ H ⟨g,ρ,M,I,z⟩=>?_;refine⟨g,ρ,M,I,?_⟩;unfold nH at z;cases hf:it M ρ with
 |exc x=>
  rw[hf]at z;exact λH' c dd e r=>z σ H' g c dd (Gr.ex e) (I.ex e) r.fr
 |bad=>rw[hf]at z;exact aht z
 |ok ds=>
  rw[hf]at z;intro J C H1 e1 w c1 firm;have firm:=firm rfl;have z:(bZ tf f ds M ρ).sat (sN X.K aj q D.nx g H) (sR X.K aj q D.rt g H) (sN X.K aj q D.bk g H) (sN X.K aj q D.ct g H) (sX X.K aj W q g H):=z
  let Pv:Nat->L2.St->Hp->Prop:=λi σi Hi=>i<=ds.length/\∃gi ρi Mi,Gr q g gi H Hi/\SInv X.K aj σi Hi gi ρi Mi/\C gi Hi/\(bZ tf f (ds.drop i) Mi ρi).sat (sN X.K aj q D.nx g H) (sR X.K aj q D.rt g H) (sN X.K aj q D.bk g H) (sN X.K aj q D.ct g H) (sX X.K aj W q g H)
  refine⟨λi m σi Hi=>m=ds.length-i/\Pv i σi Hi,⟨ds.length,rfl,agO _,g,ρ,M,Gr.ex e1,I.ex e1,c1,by rw[ahb];exact z⟩,?_⟩;rintro i m σi Hi ⟨rfl,hi,gi,ρi,Mi,ri,Ii,Ci,zi⟩;by_cases hlt:i<ds.length
  .refine .inr ⟨w.go _ i Hi Ci hlt,Pv (i+1),λσ' H' p=>⟨ds.length-(i+1),by omega,rfl,p⟩,λx H' y=>?_⟩;have hd:ds[i]?=some ds[i]:=agD hlt;obtain⟨e2,rx⟩:=w.yld _ i Hi x H' _ Ii.kd Ci hd y;rw[ag9 hlt,bZ]at zi;split at zi
   .exact aht zi
   .next Z1 he=>
    have I2:=Ii.ex e2;refine⟨gi,ρi,Mi,_,Z1,I2,rx,he,λvs I3=>⟨gi,Z1,Mi,I3,?_⟩⟩;have r2:=ri.trans (Gr.ex e2);cases hb':f Mi Z1 with
    |next Z2 M2=>
     rw[hb']at zi;exact λσ' H2 g2 r I'=>⟨hlt,g2,Z2,M2,r2.trans r,I',firm q gi g2 H' H2 I2.kd (w.ex _ _ _ Ii.kd Ci e2) r,zi⟩
    |cont Z2 M2=>
     rw[hb']at zi;exact λσ' H2 g2 r I'=>⟨hlt,g2,Z2,M2,r2.trans r,I',firm q gi g2 H' H2 I2.kd (w.ex _ _ _ Ii.kd Ci e2) r,zi⟩
    |brk Z2 M2=>
     rw[hb']at zi;exact sN.gr r2 zi
    |ret d M2=>
     rw[hb']at zi;exact sR.gr r2 zi
    |exc x Z2 M2=>
     rw[hb']at zi;exact sX.gr r2 zi
    |bad=>rw[hb']at zi;exact aht zi
  .have e:i=ds.length:=by omega
   refine .inl ⟨w.stop _ i Hi Ci e,?_⟩;rw[e,ahe]at zi;exact zi σi Hi gi ri Ii
def Le(j:Nat)(f:QF):SF:=λM ρ=>match ρ[j]? with
 |some (some (.dat (.int i)))=>((f M ρ).at M).then ρ λd M'=>match d with
  |.int k=>.next (ρ.set j (some (.dat (.int (i+k))))) M'
  |_=>.bad
 |_=>.bad
theorem aaw{j:Nat}{x:Str}{f:QF}{pos':Pos}(hN:X.N.Nodup)(hi:X.N[j]?=some x)(hx:Loc X.env.scope x)(hf:X.fn x=true\/X.env.scope.names.lookup x=some .local)(he:QE aj X W e f):SE aj X W q (.AugAssign (.Name x pos') .Add e pos) (Le j f):=by
 refine PS.weak (ps_aug hN hi hx he ip_add hf) λD σ H ⟨g,ρ,M,I,z⟩=>?_;unfold Le at z;split at z
 .next i hj=>
  obtain⟨v,h1,h2⟩:=I.dat j _ hj;cases h2;refine⟨.int i,h1,⟨g,ρ,M,I,?_⟩⟩;cases hf':f M ρ with
  |exc x=>rw[hf']at z;exact λH' c dd e r=>z σ H' g c dd (Gr.ex e) (I.ex e) r.fr
  |bad=>rw[hf']at z;exact aht z
  |ok d=>
   rw[hf']at z;intro u H' e r;cases d with
   |int k=>
    cases r;exact⟨i,k,rfl,rfl,z _ H' g (Gr.ex e) ((I.ex e).set (.int _))⟩
   |_=>exact aht z
 .exact aht z
def FE(aj:aC)(X:Cx)(W:WX)(e:Expr)(f:IF):Prop:=PE X e (QM X.K aj W f)
def lW(j:Nat)(f:IF):SF:=λM ρ=>((f M ρ).at M).then ρ λxs M'=>.next (ρ.set j (some (.mut xs))) M'
theorem N5{j:Nat}{f:IF}(D:Ends)(σ:L2.St)(H:Hp)(h:tS X.K aj W q (lW j f) D σ H):tAsg (QM X.K aj W f) (gName j) D σ H:=by
 obtain⟨g,ρ,M,I,z⟩:=h;refine⟨g,ρ,M,I,?_⟩;unfold lW at z;cases hf:f M ρ with
 |exc x=>rw[hf]at z;exact λH' c dd e r=>z σ H' g c dd (Gr.ex e) (I.ex e) r.fr
 |bad=>rw[hf]at z;exact aht z
 |ok xs=>
  rw[hf]at z;intro l us H' n e hl r;have gr:Gr true g (g.add l) H H':=Gh.oW n e;refine z _ H' (g.add l) ?_ (I.aaL n e hl r);cases q with
  |true=>exact gr
  |false=>exact gr.loud
theorem N6{j:Nat}{x:Str}{f:IF}{pos':Pos}(hN:X.N.Nodup)(hi:X.N[j]?=some x)(hx:Loc X.env.scope x)(hf:X.fn x=true\/X.env.scope.names.lookup x=some .local)(he:FE aj X W e f)(hs:swapsWith e (some (.Name x pos')) pos.line X.env=pure false):SE aj X W q (.Assign [.Name x pos'] e pos) (lW j f):=
 PS.weak (ps_set hN hi hx he hs hf) λD σ H h=>N5 D σ H h
def Fq(f:QA):IF:=λM ρ=>(f M ρ).bind λxs=>Out.when (decide (xs.length<=100000)) (.ok xs)
theorem wC{K:agw}{g:Gh}{H:Hp}{l:Addr}{vs:List V}{ds:List Dat}(k:Kd g H)(n:H l=none)(r:aq K g H vs ds){o:HO}:aq K (g.add l) (upd H l o) vs ds:=r.gr (Gh.oW n (Ex.new n)) k
theorem Y9{es:List Expr}{fr:QA}(h:qu aj X W es fr):FE aj X W (.List es pos) (Fq fr):=
 PE.weak (pe_lst h) λσ H Q ⟨g,ρ,M,I,h⟩=>by
  refine vX.go I h.bnd λds vs H1 h1 e1 r1=>?_;obtain⟨hz,h1⟩:=h1.dN;have hl:vs.length<=100000:=by rw[r1.length];exact ahv hz
  exact⟨sz_of hl,λp np=>h1 p vs _ (jM e1 p np) (e1.trans (Ex.new np)) ahA (wC (I.kd.ex e1) np r1)⟩
def uZ:Dat->Out (List Dat)
 |.list ds=>.ok ds
 |.tuple ds=>.ok ds
 |_=>.bad
def rE(f:QF):IF:=λM ρ=>(f M ρ).bind uZ
theorem Wk{f:QF}{p:Pos}(hg:Gl X "list")(hm:X.mg "list"=none)(hv:BV (.type "list") "list")(ha:QW aj X W a f)(hs:nst a=true):FE aj X W (.Call (.Name "list" p) [a] [] pos) (rE f):=by
 have h1:=pa_cons ha pa_nil (aH hs []);refine PE.weak (pe_callTy (pos:=pos) (p:=p) call_list_of hg hm hv.1 h1 hv.2.1 hv.2.2 (aH hs []) (by with_unfolding_all rfl)) λσ H Q ⟨g,ρ,M,I,h⟩=>?_;refine tW.go I h.bnd λd v H1 h1 e1 r1=>?_;unfold uZ at h1;split at h1
 .obtain⟨p,us,rfl,s1,t1⟩:=cD r1;exact⟨p,us,rfl,.inl s1,λl nl=>h1 l us _ (jM e1 l nl) (e1.trans (Ex.new nl)) ahA (wC (I.kd.ex e1) nl t1)⟩
 .obtain⟨p,us,rfl,s1,t1⟩:=d9 r1;exact⟨p,us,rfl,.inr s1,λl nl=>h1 l us _ (jM e1 l nl) (e1.trans (Ex.new nl)) ahA (wC (I.kd.ex e1) nl t1)⟩
 .exact aht h1
def baseOk:Expr->Bool
 |.Call (.Name _ _) _ _ _=>false
 |_=>true
theorem cA{o:Expr}{m:Str}{env:PySem.Env}{w:Sem Value}(h:baseOk o=true):attributeBase o m env w=w:=by
 cases o with
 | Call f as ks p=>cases f<;>first | rfl | cases h
 |_=>rfl
theorem oN{env:PySem.Env}{pos:Pos}:∀(es:List Expr),es.all nst=true->(backTo pos (starEach es env)).all (λx=>!x.1)=true
 |[],_=>by with_unfolding_all rfl
 |a::es,h=>by
  rw[ag7,agx]at h;rw[aH h.1];have ih:=oN (env:=env) (pos:=pos) es h.2;unfold backTo at ih |-
  rw[agy,ag7,ih];rfl
theorem few{env:PySem.Env}{pos:Pos}{es:List Expr}(h:es.all nst=true)(hl:es.length<30):((backTo pos (starEach es env)).all (λx=>!x.1)&&(backToKw pos (keywordEach [] env)).all (λx=>x.1.isSome)&&decide (es.length+([]:List Keyword).length+(if ([]:List Keyword).isEmpty then 0 else 1)<30))=true:=by
 rw[oN es h];have:(backToKw pos (keywordEach [] env)).all (λx=>x.1.isSome)=true:=by with_unfolding_all rfl
 rw[this];simpa using hl
def ni(j:Nat)(f:QF):SF:=λM ρ=>match ρ[j]? with
 |some (some (.mut xs))=>((f M ρ).at M).then ρ λd M'=>if xs.length<100000 then .next (ρ.set j (some (.mut (xs++[d])))) M' else .bad
 |_=>.bad
theorem aaF{j:Nat}{x:Str}{f:QF}{p apos:Pos}{epos:Pos}(hN:X.N[j]?=some x)(hv:Vis X.env.scope x)(hd:(x==("__debug__" : Str))=false)(hcd:(x==("__classdict__" : Str))=false)(he:QE aj X W e f)(hs:nst e=true)
  (hl:(apos.endLine==pos.line)=true):SE aj X W q (.Expr (.Call (.Attribute (.Name x p) "append" apos) [e] [] pos) epos) (ni j f):=by
 have h0:=pe_var (X:=X) (pos:=p) hN hv hd hcd;have h1:=pa_cons he pa_nil (aH hs []);have key:=pe_bm (X:=X) (cpos:=pos) (apos:=apos) PySem.F.plainAttrs_list PySem.F.slot_list_append PySem.F.type_list_append mt_append h0 h1 (cA rfl) (few (by simp[hs]) (by simp)) hl (aH hs []) (by with_unfolding_all rfl);refine PS.weak (ps_expr key (by with_unfolding_all rfl)) λD σ H ⟨g,ρ,M,I,z⟩=>?_;unfold ni at z;split at z
 .next xs hj=>
  obtain⟨l,us,e1,e2,e3,e4⟩:=I.own j xs hj;refine⟨.ref l,e1,.inl ⟨rfl,us,sq_of e2⟩,⟨g,ρ,M,I,?_⟩⟩;cases hf:f M ρ with
  |exc x=>rw[hf]at z;exact λH' c dd e r=>z σ H' g c dd (Gr.ex e) (I.ex e) r.fr
  |bad=>rw[hf]at z;exact aht z
  |ok d=>
   rw[hf]at z;intro v H' e r;have z:(if xs.length<100000 then dY.next (ρ.set j (some (.mut (xs++[d])))) M else .bad).sat (sN X.K aj q D.nx g H) (sR X.K aj q D.rt g H) (sN X.K aj q D.bk g H) (sN X.K aj q D.ct g H) (sX X.K aj W q g H):=z;split at z
   .next hlen=>
    have I1:=I.ex e;obtain⟨l',us',f1,f2,f3,f4,f5⟩:=I1.change (ys:=xs++[d]) hj;rw[e1]at f1;cases f1;rw[e _ _ e2]at f2;cases f2;refine⟨l,us,v,rfl,rfl,e _ _ e2,sz_lt (by rw[e4.length];exact hlen),?_⟩;exact z _ _ g ((Gr.ex e).trans (Gr.upd I1.kd (e _ _ e2) (.inr f3))) (f5 _ (f4.append (.cons r .nil)))
   .exact aht z
 .exact aht z
def vA(j:Nat)(fi f:QF):SF:=λM ρ=>match ρ[j]? with
 |some (some (.mut xs))=>((f M ρ).at M).then ρ λd M'=>((fi M' ρ).at M').then ρ λi M2=>match i with
  |.int k=>match ixN xs.length k with
   |some n=>.next (ρ.set j (some (.mut (xs.set n d)))) M2
   |none=>.bad
  |_=>.bad
 |_=>.bad
theorem Wr{j:Nat}{x:Str}{i:Expr}{f fi:QF}{p spos:Pos}(hN:X.N[j]?=some x)(hv:Vis X.env.scope x)(hd:(x==("__debug__" : Str))=false)(hcd:(x==("__classdict__" : Str))=false)(he:QE aj X W e f)(hi:QE aj X W i fi)
  (ha:∀v,assign (.Subscript (.Name x p) i spos) X.env v=(do
   let ov <-holding [v] (eval (.Name x p) X.env)
   let iv <-holding [v,ov] (eval i X.env)
   standAt spos
   holding [v,ov,iv] (setItem ov iv v)
   release [v,ov,iv] []))
  (hs:swapsWithSole [.Subscript (.Name x p) i spos] e pos.line X.env=pure false) (h1:(assignEach [.Subscript (.Name x p) i spos] X.env).map (·.2)=[assign (.Subscript (.Name x p) i spos) X.env]):SE aj X W q (.Assign [.Subscript (.Name x p) i spos] e pos) (vA j fi f):=by
 have h0:=pe_var (X:=X) (pos:=p) hN hv hd hcd;refine PS.weak (ps_asg he (pg_sub h0 hi set_list ha) hs (by with_unfolding_all rfl) h1) λD σ H ⟨g,ρ,M,I,z⟩=>?_;unfold vA at z;split at z
 .next xs hj=>
  refine⟨g,ρ,M,I,?_⟩;cases hf:f M ρ with
  |exc x=>rw[hf]at z;exact λH' c dd e r=>z σ H' g c dd (Gr.ex e) (I.ex e) r.fr
  |bad=>rw[hf]at z;exact aht z
  |ok d=>
   rw[hf]at z;intro v H1 e1 r1;have I1:=I.ex e1;obtain⟨l,us,f1,f2,f3,f4⟩:=I1.own j xs hj;refine⟨.ref l,f1,⟨g,ρ,M,I1,?_⟩⟩;cases hfi:fi M ρ with
   |exc x=>
    simp only[Out.Nh,aR.Aq,hfi,Out.aaA,aR.Uh]at z;exact λH' c dd e r=>z σ H' g c dd ((Gr.ex e1).trans (Gr.ex e)) (I1.ex e) r.fr
   |bad=>
    simp only[Out.Nh,aR.Aq,hfi,Out.aap,aR.Tt]at z;exact aht z
   |ok k=>
    simp only[Out.Nh,aR.Aq,hfi]at z;intro w H2 e2 r2;cases k with
    |int k=>
     simp only at z;split at z
     .next n hn=>
      have I2:=I1.ex e2;obtain⟨l',us',k1,k2,k3,k4,k5⟩:=I2.change (ys:=xs.set n d) hj;rw[f1]at k1;cases k1;rw[e2 _ _ f2]at k2;cases k2;cases r2;refine⟨l,us,k,n,rfl,rfl,e2 _ _ f2,by rw[f4.length];exact hn,?_⟩;exact z _ _ g (((Gr.ex e1).trans (Gr.ex e2)).trans (Gr.upd I2.kd (e2 _ _ f2) (.inr k3))) (k5 _ (k4.set (r1.ex e2 I1.kd) n))
     .exact aht z
    |_=>exact aht z
 .exact aht z
end
structure Gc(g g':Gh)(H H':Hp):Prop where
 keep:∀a o,H a=some o->¬g.W a->H' a=some o
 dom:∀a,H' a=none->H a=none
 tbl:∃more,g'.tbl=g.tbl++more
 W:∀a,g.W a->g'.W a
 nW:∀a,g'.W a->g.W a\/H a=none
 Lc:g'.Lc=g.Lc
 Lo:g'.Lo=g.Lo
 kl:g'.kl=g.kl
def qm(K:agw)(aj:aC)(n:Nat)(m:Mo->List Dat->Out Dat):Sp:=λvs H Q E=>vs.length=n/\∃g M ds,Kd g H/\cM K aj g H M/\aq K g H vs ds/\
 (m M ds).sat (λd=>∀v H',Ex H H'->Rep K g H' v d->Q v H') λx=>∀H' c dd,Ex H H'->iU K aj g H' x c dd->E c dd H'
def Vj(K:agw)(aj:aC)(n:Nat)(m:Mo->List Dat->aR Dat):Sp:=λvs H Q E=>vs.length=n/\∃g M ds,Kd g H/\cM K aj g H M/\aq K g H vs ds/\
 (m M ds).sat (λd M'=>∀v H' g',Gc g g' H H'->Kd g' H'->cM K aj g' H' M'->Rep K g' H' v d->Q v H') λx M'=>∀H' g' c dd,Gc g g' H H'->Kd g' H'->cM K aj g' H' M'->iU K aj g' H' x c dd->E c dd H'
section
variable{K:agw}{aj:aC}{W:WX}{g g':Gh}{H H':Hp}{σ:L2.St}{ρ:Env}{M M':Mo}
theorem Gc.gr(r:Gc g g' H H'):Gr false g g' H H':=⟨λa o h n _=>r.keep a o h n,(λz=>nomatch z),r.dom,r.tbl,r.W,r.nW,(λz=>nomatch z),r.Lc,λa h=>by rw[r.Lo];exact h,λa h=>by rw[r.Lo]at h;exact .inl h,r.kl⟩
theorem SInv.call(r:Gc g g' H H')(k':Kd g' H')(w':cM K aj g' H' M')(I:SInv K aj σ H g ρ M):SInv K aj σ H' g' ρ M' where
 kd:=k'
 wok:=w'
 len:=I.len
 dat:=λi d h=>by
  obtain⟨v,h1,h2⟩:=I.dat i d h;exact⟨v,h1,h2.gr r.gr I.kd⟩
 own:=λi xs h=>by
  obtain⟨l,us,h1,h2,h3,h4⟩:=I.own i xs h;exact⟨l,us,h1,r.keep _ _ h2 (I.kd.lo l h3),by rw[r.Lo];exact h3,h4.gr r.gr I.kd⟩
 sep:=I.sep
def Gh.in(g:Gh):Gh:={ g with Lc:=λa=>g.Lc a\/g.Lo a,Lo:=λ_=>False }
theorem Tz(g:Gh)(a:Addr):g.in.A a↔g.A a:=by
 constructor
 .rintro(z|(z|z)|z)
  .exact .inl z
  .exact .inr (.inl z)
  .exact .inr (.inr z)
  .exact aht z
 .rintro(z|z|z)
  .exact .inl z
  .exact .inr (.inl (.inl z))
  .exact .inr (.inl (.inr z))
theorem Kd.in(k:Kd g H):Kd g.in H:=⟨λa z=>k.ob a ((Tz g a).mp z),λa z=>aht z,λa z=>⟨z.elim (λz=>(k.lc a z).1) (λz=>k.lo a z),λy=>y⟩⟩
def ini(n:Nat)(ds:List Dat):Env:=ds.map (λd=>some (.dat d))++List.replicate (n-ds.length) none
theorem Xz{N:List Str}{vs:List V}{ds:List Dat}(k:Kd g H)(w:cM K aj g H M)(r:aq K g H vs ds):SInv K aj (start N vs) H g (ini N.length ds) M where
 kd:=k
 wok:=w
 len:=by unfold L2.start ini;rw[agH,agH,agB,agB,List.length_replicate,List.length_replicate,r.length]
 dat:=λi d h=>by
  unfold ini at h;unfold L2.start;by_cases hi:i<ds.length
  .rw[agM (by rw[agB];exact hi),agS]at h;cases hd:ds[i]? with
   |none=>rw[hd]at h;cases h
   |some d'=>
    rw[hd]at h;cases h;obtain⟨v,h1,h2⟩:=r.get hd;refine⟨v,?_,h2⟩;rw[agM (by rw[agB,r.length];exact hi),agS,h1];rfl
  .rw[agP (by rw[agB];omega)]at h;rw[List.getElem?_replicate]at h;split at h<;>cases h
 own:=λi xs h=>by
  unfold ini at h;by_cases hi:i<ds.length
  .rw[agM (by rw[agB];exact hi),agS]at h;cases hd:ds[i]? with
   |none=>rw[hd]at h;cases h
   |some d'=>rw[hd]at h;cases h
  .rw[agP (by rw[agB];omega)]at h;rw[List.getElem?_replicate]at h;split at h<;>cases h
 sep:=λi j xs ys l ne h=>by
  unfold ini at h;by_cases hi:i<ds.length
  .rw[agM (by rw[agB];exact hi),agS]at h;cases hd:ds[i]? with
   |none=>rw[hd]at h;cases h
   |some d'=>rw[hd]at h;cases h
  .rw[agP (by rw[agB];omega)]at h;rw[List.getElem?_replicate]at h;split at h<;>cases h
end
def mQ(n:Nat)(body:SF):Mo->List Dat->Out Dat:=λM ds=>match body M (ini n ds) with
 |.ret d _=>.ok d
 |.next _ _=>.ok .none
 |.exc x _ _=>.exc x
 |_=>.bad
def mG(n:Nat)(body:SF):Mo->List Dat->aR Dat:=λM ds=>match body M (ini n ds) with
 |.ret d M'=>.ok d M'
 |.next _ M'=>.ok .none M'
 |.exc x _ M'=>.exc x M'
 |_=>.bad
section
variable{P:Program}{w:World}{K:agw}{mg:Str->Option Value}{base:Heap}{aj:aC}
def Ru(E:XK):WX:=λc d _ H=>E c d H
theorem Rep.same{g g':Gh}{H:Hp}{v:V}{d:Dat}(e:g'.tk=g.tk)(n:∀a,g'.A a↔g.A a)(h:Rep K g H v d):Rep K g' H v d:=h.less e λa z=>(n a).mp z
theorem Lg{g g':Gh}{H H':Hp}(r:Gr true g.in g' H H'):Ex H H':=λa o h=>by
 by_cases w:g.W a
 .exact r.keepW rfl a o h w
 .exact r.keep a o h w λz=>z
theorem adf{q:Bool}{g g':Gh}{H H':Hp}(r:Gr q g.in g' H H')(a:Addr):g'.fr.A a↔(g'.W a\/g.Lc a\/g.Lo a):=by
 have hl:g'.Lc=g.in.Lc:=r.Lc;constructor
 .rintro(z|z|z)
  .exact .inl z
  .have z:g'.Lc a:=z;rw[hl]at z;exact .inr z
  .exact aht z
 .rintro(z|z)
  .exact .inl z
  .refine .inr (.inl ?_);show g'.Lc a;rw[hl];exact z
theorem Fun.okC{C:CXT}{x qual:Str}{st:Stmt}{f:Addr}{fd:FuncData}{N ps:List Str}{k:Nat}{sp:Sp}(F:Fun K x qual st f fd)(S:FnScope N ps (defScope st))(len:∀vs H Q E,sp vs H Q E->vs.length=ps.length)
  (hbody:∀(cdv:Value) (A:Around) (outer:List PySem.Env) (s:Shared) (H:Hp) (vs:List V) (Q:VK) (E:XK),Room k (A.deeper (envOfC qual (defScope st) s.heap.objs.size f cdv))->sp vs H Q E->
   ∃t,PSs (cxOf C P w K mg base N qual (defScope st) f cdv A outer s H E) (defBody st) t/\t { nx:=λ_ H'=>Q .non H',rt:=Q } (start N vs) H):FnOk P w K mg base C (k+1) f fd ps sp:=by
 obtain⟨oc,od,kV,doc,pm,an,cdv,ct,osl,rfl,lk,hcd⟩:=F.ex;exact fn_of lk hcd S len λA outer s H vs Q E hr hsp=>hbody cdv A outer s H vs Q E hr hsp
theorem abg{C:CXT}{x qual:Str}{st:Stmt}{f:Addr}{fd:FuncData}{N ps:List Str}{k:Nat}{body:SF}(F:Fun K x qual st f fd)(S:FnScope N ps (defScope st))
  (hb:∀(cdv:Value) (A:Around) (outer:List PySem.Env) (s:Shared) (H:Hp) (E:XK),Room k (A.deeper (envOfC qual (defScope st) s.heap.objs.size f cdv))->sV aj (cxOf C P w K mg base N qual (defScope st) f cdv A outer s H E) (Ru E) true (defBody st) body) :
  FnOk P w K mg base C (k+1) f fd ps (qm K aj ps.length (mQ N.length body)):=by
 refine Fun.okC F S (λvs H Q E h=>h.1) (λcdv A outer s H vs Q E hr h=>⟨_,hb cdv A outer s H E hr,?_⟩);obtain⟨hl,g,M,ds,kd,wk,rs,h⟩:=h;have wk':cM K aj g.in H M:=cM.less (g:=g) (g':=g.in) rfl rfl (λa z=>(Tz g a).mp z) wk;refine⟨g.in,ini N.length ds,M,Xz kd.in wk' (aq.less (g:=g) (g':=g.in) rfl (λa z=>(Tz g a).mp z) rs),?_⟩;have back:∀{g':Gh} {H':Hp},Gr true g.in g' H H'->∀a,g.A a↔g'.fr.A a:=λ{g' H'} r a=>by
  rw[adf r a];have e:=(r.qg rfl);have ew:g'.W a↔g.W a:=by unfold Gh.W;rw[Gh.tV e.1,e.2];rfl
  unfold Gh.A;rw[ew]
 unfold mQ at h;cases hf:body M (ini N.length ds) with
 |next Z' M'=>
  rw[hf]at h;exact λσ' H' g' r I'=>h _ H' (Lg r) .non
 |ret d M'=>
  rw[hf]at h;exact λv H' g' r k' w' rv=>h v H' (Lg r) (Rep.same (g:=g'.fr) (g':=g) (r.qg rfl).1.symm (back r) rv)
 |exc x Z' M'=>
  rw[hf]at h;exact λσ' H' g' c dd r I' rx=>h H' c dd (Lg r) (iU.less (g:=g'.fr) (g':=g) (r.qg rfl).1.symm (λa z=>(back r a).mp z) rx)
 |brk Z' M'=>rw[hf]at h;exact aht h
 |cont Z' M'=>rw[hf]at h;exact aht h
 |bad=>rw[hf]at h;exact aht h
end
def aN(m:Mo->List Dat->Out Dat)(as:QA):QF:=λM ρ=>(as M ρ).bind λds=>m M ds
section
variable{X:Cx}{aj:aC}{W:WX}{q:Bool}{a b e:Expr}{es:List Expr}{pos p:Pos}{x:Str}{k:Nat}{f:Addr}{fd:FuncData}{ps:List Str}
theorem zK{C:CXT}{m:Mo->List Dat->Out Dat}{as:QA}(tk:∀σ,PassesAt C X σ (WE W σ))(F:FnOk X.prog X.w X.K X.mg X.base C k f fd ps (qm X.K aj ps.length m))(hr:Room k X.A)(hg:Gl X x)(hm:X.mg x=some (.ref f))(hk:PySem.W.keepIn X.K (.ref f)=true)(hb:Binds X.K fd ps [])
  (ha:qu aj X W (e::es) as) (hl:(e::es).length=ps.length) (hd:(x==("__debug__" : Str))=false) (hs:(e::es).all nst=true) (hn:∀M ρ ds,as M ρ=.ok ds->ds.length=(e::es).length):QE aj X W (.Call (.Name x p) (e::es) [] pos) (aN m as):=by
 have hs':=hs;rw[ag7,agx]at hs';refine PE.weak (pe_callS (E:=λσ=>WE W σ) F hr hg hm hk hb tk ha hd (aH hs'.1 es) (star_any es hs'.2)) λσ H Q ⟨g,ρ,M,I,h⟩=>?_;refine⟨g,ρ,M,I,?_⟩;have h:=h.bnd;cases has:as M ρ with
 |exc x=>rw[has]at h;exact h
 |bad=>rw[has]at h;exact h
 |ok ds=>
  rw[has]at h;have h:(m M ds).sat (λd=>∀v H',Ex H H'->Rep X.K g H' v d->Q v H') (gM X.K aj W g H σ):=h;intro vs H1 e1 r1;refine⟨by rw[r1.length,hn M ρ ds has];exact hl,g,M,ds,I.kd.ex e1,I.wok.ex e1 I.kd,r1,h.mono (λd k v H' e' r'=>k v H' (e1.trans e') r') λx k H' c dd e' r'=>k H' c dd (e1.trans e') r'⟩
end
theorem Ul{n:Nat}(h:n<=16001):n<=sizeLine:=aha h (by decide)
theorem acr{prog:Program}{w:World}{A:Around}{E:Value->Shared->Prop}{s:Shared}{l:Addr}{v0:Value}{vs:List Value}{Q:List Value->Shared->Prop}(hh:A.handled=none)(hl:s.heap.IsList l (v0::vs).toArray\/IsTup s.heap l (v0::vs).toArray)(hz:vs.length<=16000)
  (h:∀(h₂:Heap) (tk:Nat),(∀b o,s.heap.get? b=some o->h₂.get? b=some o)->Q [v0,.ref h₂.objs.size] { s with heap:=h₂.push { cls:=.type "list",data:=.seq vs.toArray },toks:=tk }):wpAny (model prog w) A (unpackItems (.ref l) 2 (some 1)) Q E s:=by
 have hll:l<s.heap.objs.size:=by rcases hl with⟨o,ho,_⟩|⟨o,ho,_⟩<;>exact Heap.lt_size ho
 have hlt:l≠s.heap.objs.size:=ag4 hll;have hsz:(v0::vs).toArray.size=vs.length+1:=by simp
 have hb:(v0::vs).toArray.size<=sizeLine:=Ul (by rw[hsz];omega);have hd:(v0::vs).toArray.toList.drop 1=vs:=by simp
 have ht:((v0::vs).toArray.toList.drop 0).take 1=[v0]:=by simp
 have fin:∀(h₂:Heap) (tk:Nat),(∀b o,b≠s.heap.objs.size->s.heap.get? b=some o->h₂.get? b=some o)->wpAny (model prog w) A (newList vs >>= λd=>pure ([v0]++[d]++[])) Q E { s with heap:=h₂,toks:=tk }:=λh₂ tk k=>by
  refine ahw (wpAny_newObj_type (ahx ?_) (Ul (by simp;omega)));exact h h₂ tk λb o e=>k b o (ag4 (Heap.lt_size e)) e
 unfold unpackItems;refine ahw ?_;unfold notIterableAtAll;rcases hl with hl|hl
 .refine ahw (wpAny_specialOf hl.typeIs slot_list_iter.lookup (ahx ?_));simp only[agV,if_false];refine ahw (wpAny_holding (wpAny_pyIter_list hl ?_));refine ahw (wpAny_holding (PySem.W.kun_draw hlt 1 0 _ _ ⟨_,Heap.get?_push_size _ rfl,rfl,rfl⟩ (hl.push _) (by rw[hsz];omega) λh₁ i1 b1=>?_));have hl₁:=(hl.push _).extBut b1.extBut hlt;obtain⟨oi,hoi,_⟩:=id i1;obtain⟨ol,hol,_⟩:=id hl₁;rw[ht];refine ahw (wpAny_holding (PySem.W.kun_collect (s:={ s with heap:=h₁ }) (T:="list_iterator") (.inr (.inr (.inl rfl))) (Walks.list (A:=A.in1) hh s.heap.objs.size l hlt (v0::vs).toArray) (λj u st=>st.1.typeIs) (k:=1) (by rw[hsz];omega) ⟨i1,hl₁⟩ (Heap.lt_size hoi) (Heap.lt_size hol) (λh₂ tk hk=>?_) hb))
  rw[hd];show wpAny _ _ (if vs.length<0 then _ else newList (vs.take (vs.length-0)) >>= λd=>pure ([v0]++[d]++vs.drop (vs.length-0))) _ _ _;rw[ahz (Nat.not_lt_zero _),Nat.sub_zero,List.take_length,ahe];exact fin h₂ tk λb o ne e=>hk b o ne (b1.extBut b o ne (Heap.get?_push_of_some _ e))
 .refine ahw (wpAny_specialOf hl.typeIs slot_tuple_iter.lookup (ahx ?_));simp only[agV,if_false];refine ahw (wpAny_holding (iter_tuple hl ?_));refine ahw (wpAny_holding (draw_tuple hlt 1 0 _ _ ⟨_,Heap.get?_push_size _ rfl,rfl,rfl⟩ (hl.push _) (by rw[hsz];omega) λh₁ i1 b1=>?_));have hl₁:IsTup h₁ l (v0::vs).toArray:=(hl.push _).extBut b1.extBut hlt;obtain⟨oi,hoi,_⟩:=id i1;obtain⟨ol,hol,_⟩:=id hl₁;rw[ht];refine ahw (wpAny_holding (PySem.W.kun_collect (s:={ s with heap:=h₁ }) (T:="tuple_iterator") (.inr (.inr (.inr rfl))) (Walks.tuple (A:=A.in1) hh s.heap.objs.size l hlt (v0::vs).toArray) (λj u st=>st.1.typeIs) (k:=1) (by rw[hsz];omega) ⟨i1,hl₁⟩ (Heap.lt_size hoi) (Heap.lt_size hol) (λh₂ tk hk=>?_) hb))
  rw[hd];show wpAny _ _ (if vs.length<0 then _ else newList (vs.take (vs.length-0)) >>= λd=>pure ([v0]++[d]++vs.drop (vs.length-0))) _ _ _;rw[ahz (Nat.not_lt_zero _),Nat.sub_zero,List.take_length,ahe];exact fin h₂ tk λb o ne e=>hk b o ne (b1.extBut b o ne (Heap.get?_push_of_some _ e))
def Vg(K:agw)(i j:Nat):TG:=λv σ H Q=>∃a v0 us,v=.ref a/\(SqL K H a (v0::us)\/SqT K H a (v0::us))/\us.length<=16000/\∀D,H D=none->Q ((σ.set i (some v0)).set j (some (.ref D))) (upd H D (.lst us))
def Af(X:Cx)(j:Nat)(x:Str):Prop:=X.N[j]?=some x/\Loc X.env.scope x/\(X.fn x=true\/X.env.scope.names.lookup x=some .local)
theorem Wz{X:Cx}{i j k:Nat}{x y:Str}{px py ps pos:Pos}(hc:X.calm=true)(hN:X.N.Nodup)(hx:Af X i x)(hy:Af X j y):PG X (.Tuple [.Name x px,.Starred (.Name y py) ps] k pos) (Vg X.K i j):=by
 refine⟨λpins s σ H v u Q I r h=>?_⟩;obtain⟨a,v0,us,rfl,hq,hz,q⟩:=h;cases r;have e1:assign (.Tuple [.Name x px,.Starred (.Name y py) ps] k pos) X.env (.ref a)=(do standAt pos;unpack (.ref a) (assignEach [.Name x px,.Starred (.Name y py) ps] X.env)):=by with_unfolding_all rfl
 have e2:assignEach [.Name x px,.Starred (.Name y py) ps] X.env=[(false,assign (.Name x px) X.env),(true,assign (.Name y py) X.env)]:=by with_unfolding_all rfl
 rw[e1,e2];refine ahw (wpAny_standAt ?_);unfold unpack;obtain⟨w0,ws,hlw,rv0,rvs⟩:∃w0 ws,(s.heap.IsList a (w0::ws).toArray\/IsTup s.heap a (w0::ws).toArray)/\RelV v0 w0/\Vals us ws:=by
  rcases hq with hq|hq
  .obtain⟨its,rv,p,_⟩:=I.list hq;cases rv with
   |cons r t=>exact⟨_,_,.inl p.isList,r,t⟩
  .obtain⟨its,rv,p,_⟩:=I.tuple hq;cases rv with
   |cons r t=>exact⟨_,_,.inr p,r,t⟩
 refine ahw (wpAny_holding (acr (I.ok.hd hc) hlw (by rw[<-rvs.length];exact hz) λh₂ tk hk=>?_));have I2:L2.Inv X pins σ H { s with heap:=h₂,toks:=tk }:=I.kept (t':=tk) hk;have I3:=I2.lnew (t':=tk) rvs (Ul (by omega));refine assignInOrder_cons (wpAny_assign_Name (store_ok I3 hN hx.1 hx.2.1 rv0 (λs4 I4=>?_) hx.2.2));refine assignInOrder_cons (wpAny_assign_Name (store_ok I4 hN hy.1 hy.2.1 (v:=.ref h₂.objs.size) rfl (λs5 I5=>assignInOrder_nil ?_) hy.2.2));exact⟨_,_,I5,q _ I2.fresh⟩
section
variable{X:Cx}{aj:aC}{W:WX}{q:Bool}{e:Expr}{pos:Pos}
def Dk(i j:Nat)(f:GF):SF:=λM ρ=>(f M ρ).then ρ λd M'=>match d with
 |.list (d0::ds)=>if ds.length<=16000 then .next ((ρ.set i (some (.dat d0))).set j (some (.dat (.list ds)))) M' else .bad
 |.tuple (d0::ds)=>if ds.length<=16000 then .next ((ρ.set i (some (.dat d0))).set j (some (.dat (.list ds)))) M' else .bad
 |_=>.bad
theorem Vq{i j k:Nat}{x y:Str}{px py ps tp:Pos}{f:GF}(hc:X.calm=true)(hN:X.N.Nodup)(hx:Af X i x)(hy:Af X j y)(he:GE aj X W q e f)(hs:swapsWithSole [.Tuple [.Name x px,.Starred (.Name y py) ps] k tp] e pos.line X.env=pure false)(hw:swappedStores [.Tuple [.Name x px,.Starred (.Name y py) ps] k tp] e X.env=pure none) :
  SE aj X W q (.Assign [.Tuple [.Name x px,.Starred (.Name y py) ps] k tp] e pos) (Dk i j f):=by
 refine PS.weak (ps_asg he (Wz hc hN hx hy) hs hw (by with_unfolding_all rfl)) λD σ H ⟨g,ρ,M,I,z⟩=>?_;refine tE.go I (aZ (σ:=σ) z) λd M' v H' g' kk r I' rv=>?_;have fin:∀{a:Addr} {v0:V} {us:List V} {d0:Dat} {ds:List Dat},v=.ref a->(SqL X.K H' a (v0::us)\/SqT X.K H' a (v0::us))->Rep X.K g' H' v0 d0->aq X.K g' H' us ds->(if ds.length<=16000 then dY.next ((ρ.set i (some (.dat d0))).set j (some (.dat (.list ds)))) M' else .bad).sat (sN X.K aj q D.nx g H) (sR X.K aj q D.rt g H) (sN X.K aj q D.bk g H) (sN X.K aj q D.ct g H) (sX X.K aj W q g H)->Vg X.K i j v σ H' D.nx:=λ{a v0 us d0 ds} ev hq r0 rs kk=>by
  split at kk
  .next hz=>
   refine⟨a,v0,us,ev,hq,by rw[rs.length];exact hz,λp np=>?_⟩;have e1:=Ex.new (o:=.lst us) np;have I2:=I'.ex e1;refine kk _ _ g' (r.trans (Gr.ex e1)) ((I2.set (r0.ex e1 I'.kd)).set (.lst (.inl ⟨ahA,I'.kd.fresh np⟩) (rs.ex e1 I'.kd)))
  .exact aht kk
 split at kk
 .obtain⟨a,us,ev,s1,t1⟩:=cD rv.weak;cases t1 with
  |cons r0 rs=>exact fin ev (.inl s1) r0 rs kk
 .obtain⟨a,us,ev,s1,t1⟩:=d9 rv.weak;cases t1 with
  |cons r0 rs=>exact fin ev (.inr s1) r0 rs kk
 .exact aht kk
def M7(i j:Nat)(f:GF):SF:=λM ρ=>(f M ρ).then ρ λd M'=>.next ((ρ.set i (some (.dat d))).set j (some (.dat d))) M'
theorem Xy{i j:Nat}{x y:Str}{px py:Pos}{f:GF}(hN:X.N.Nodup)(hx:Af X i x)(hy:Af X j y)(he:GE aj X W q e f)(hw:swappedStores [.Name x px,.Name y py] e X.env=pure none):SE aj X W q (.Assign [.Name x px,.Name y py] e pos) (M7 i j f):=by refine PS.weak (ps_asg2 he (pg_name hN hx.1 hx.2.1 hx.2.2) (pg_name hN hy.1 hy.2.1 hy.2.2) (by with_unfolding_all rfl) hw) λD σ H ⟨g,ρ,M,I,z⟩=>?_;exact tE.go I (aZ (σ:=σ) z) λd M' v H' g' kk r I' rv=>kk _ H' g' r ((I'.set rv).set rv)
def sPN(js:List Nat)(as:QA):SF:=λM ρ=>((as M ρ).at M).then ρ λds M'=>match jA js ds ρ with
 |some Z'=>.next Z' M'
 |none=>.bad
theorem aaZ{j:Nat}{y:Str}{py:Pos}{elt tg iter:Expr}{cpos:Pos}{scope:Scope}{own:List (Str×Nat)}{it:IF}{tgf:bT}{js:List Nat}{tt:QT}{te:QF}{ifs:List Expr}(hc:X.calm=true)(hN:X.N.Nodup)(hy:X.N[j]?=some y)(hyl:X.env.scope.names.lookup y=some .local)
  (hsw:swapsWith (.ListComp elt [⟨tg,iter,ifs,0⟩] scope cpos) (some (.Name y py)) pos.line X.env=pure true) (hi:QI aj X W false tg iter it) (ok:blkC X.N X.env.scope scope own=true) (hj:∀j∈js,j∈own.map (·.2))
  (hg:∀(s:Shared) (H:Hp) (C:Addr) (cl:List (Str×Addr)) (fp:List Addr),QG aj (X.blk s H scope (compEnvC scope cl C X.env) fp) tg js tgf)
  (ht:∀(s:Shared) (H:Hp) (C:Addr) (cl:List (Str×Addr)) (fp:List Addr),PTs (X.blk s H scope (compEnvC scope cl C X.env) fp) ifs (dZ X.K aj WF tt))
  (he:∀(s:Shared) (H:Hp) (C:Addr) (cl:List (Str×Addr)) (fp:List Addr),QE aj (X.blk s H scope (compEnvC scope cl C X.env) fp) WF elt te) (hs:∀x,foldedSetIterable iter X.env x=pure x) :
  SE aj X W q (.Assign [.Name y py] (.ListComp elt [⟨tg,iter,ifs,0⟩] scope cpos) pos) (aM (au j) (gOf (iK it tgf (own.map (·.2)) tt te))):=by
 refine PS.weak (ps_setLc (g:=lO X.K aj js tgf) (tt:=dZ X.K aj WF tt) (te:=tQ X.K aj WF te) hc hN hy hyl hsw hi (blkOk_by ok) (λs H C cl fp=>hg s H C cl fp) ht (λs H C cl fp=>he s H C cl fp) hs) λD σ H ⟨g,ρ,M,I,z⟩=>?_;refine Vm hj σ H _ ⟨g,ρ,M,I,(Out.dD (aZ (σ:=σ) z)).mono (λd kk v H' e r=>?_) λx kk H' c dd e r=>kk H' g c dd (Gr.ex e) (I.ex e) r⟩;exact kk _ H' g (Gr.ex e) ((I.ex e).set r)
end
inductive GV where
 |con (d:Dat)
 |fq (n:Nat) (m:Mo->List Dat->Out Dat)
 |fg (n:Nat) (m:Mo->List Dat->aR Dat)
 |dic (kvs:List (Str×Dat))
 |exc
 |exi (fs:List Str)
 |cls (n:Nat) (m:Mo->List Dat->aR Dat)
 |fqN (n:Nat) (m:Mo->List Dat->Out Dat)
def GV.soft:GV->Bool
 |.con _=>false
 |.dic _=>false
 |.exc=>false
 |.fqN _ _=>false
 |_=>true
inductive MV where
 |q (n:Nat) (m:Mo->List Dat->Out Dat)
 |g (n:Nat) (m:Mo->List Dat->aR Dat)
def FQ(P:Program)(w:World)(K:agw)(mg:Str->Option Value)(base:Heap)(aj:aC)(k:Nat)(f:Addr)(n:Nat)(m:Mo->List Dat->Out Dat):Prop:=
 ∃(fd:FuncData) (ps:List Str) (j:Nat),j<=k/\ps.length=n/\Binds K fd ps []/\FnOk P w K mg base (L2.CX P w) j f fd ps (qm K aj ps.length m)
def FG(P:Program)(w:World)(K:agw)(mg:Str->Option Value)(base:Heap)(aj:aC)(k:Nat)(f:Addr)(n:Nat)(m:Mo->List Dat->aR Dat):Prop:=
 ∃(fd:FuncData) (ps:List Str) (j:Nat),j<=k/\ps.length=n/\Binds K fd ps []/\FnOk P w K mg base (L2.CX P w) j f fd ps (Vj K aj ps.length m)
def dJ(K:agw)(aj:aC):Prop:=∀c C f,aj c=some C->f∈aj.fl c->Cls K C/\NoAttr K C f
def GD(P:Program)(w:World)(K:agw)(mg:Str->Option Value)(base:Heap)(aj:aC)(k:Nat)(c m:Str)(v:MV):Prop:=
 ∃C f,aj c=some C/\Cls K C/\Meth K C m f/\m∉aj.fl c/\match v with
  |.q n mm=>FQ P w K mg base aj k f n mm
  |.g n mm=>FG P w K mg base aj k f n mm
def adk(C:Addr)(fs:List Str):Sp:=λvs H Q _=>∃(a:Addr) (xs:List V),vs=.ref a::xs/\xs.length=fs.length/\H a=some (exo a C none)/\
 ∀(dx:Addr) (H':Hp),H dx=none->(∀b o,b≠a->H b=some o->H' b=some o)->(∀b,H' b=none->H b=none)->H' a=some (exo a C (some dx))->H' dx=some (exd dx (fs.zip xs).reverse)->Q .non H'
def Mh(w:World)(K:agw)(a:Addr)(kvs:List (Str×Dat)):Prop:=∃(es:Array DictEntry) (n:Nat),KDict K w a es n/\(kvs.map (·.1)).Nodup/\
 ∀x:Str,match kvs.lookup x with
  |some d=>∃v u,PySem.W.nsIn K a x=some (some u)/\RelV v u/\∀g H,Rep K g H v d
  |none=>PySem.W.nsIn K a x=some none
def aU(P:Program)(w:World)(K:agw)(mg:Str->Option Value)(base:Heap)(aj:aC)(k:Nat)(x:Str):GV->Prop
 |.con d=>∃v u,mg x=some u/\RelV v u/\(∀g H,Rep K g H v d)/\∀a ds,v=.ref a->d=.tuple ds->∃o,K.lookup a=some o/\o.cls=.type "tuple"/\o.dict=none
 |.fq n m=>∃f,mg x=some (.ref f)/\PySem.W.keepIn K (.ref f)=true/\FQ P w K mg base aj k f n m
 |.fg n m=>∃f,mg x=some (.ref f)/\PySem.W.keepIn K (.ref f)=true/\FG P w K mg base aj k f n m
 |.dic kvs=>∃a,mg x=some (.ref a)/\Mh w K a kvs
 |.exc=>∃C,mg x=some (.ref C)/\aj x=some C/\PySem.W.excIn K C He.veBase "ValueError.__new__"=true/\PySem.W.keepIn K (.ref C)=true/\PySem.W.subIn K (.ref C) (.type "BaseException")=some true/\PySem.W.typeIn K (.ref C)=some (.type "type")
 |.exi fs=>∃(C fI:Addr) (fd:FuncData) (ps:List Str),mg x=some (.ref C)/\aj x=some C/\OexC K C/\PySem.W.findIn K (.ref C) "__init__"=some (some (.ref fI))/\PySem.W.typeIn K (.ref fI)=some (.type "function")/\2<=k/\ps.length=fs.length+1/\Binds K fd ps []/\FnOk P w K mg base CX0 1 fI fd ps (adk C fs)
 |.cls n m=>∃(C f:Addr) (fd:FuncData) (ps:List Str) (j:Nat),mg x=some (.ref C)/\aj x=some C/\Cls K C/\Mk K C f/\j+1<=k/\ps.length=n+1/\Binds K fd ps []/\FnOk P w K mg base (L2.CX P w) j f fd ps (Vj K aj ps.length m)
 |.fqN n m=>∃f,mg x=some (.ref f)/\PySem.W.keepIn K (.ref f)=true/\∃(fd:FuncData) (ps:List Str) (j:Nat),j<=k/\ps.length=n/\Binds K fd ps []/\FnOk P w K mg base (L2N.CX P w) j f fd ps (qm K aj ps.length m)
def Lf(K:agw)(aj:aC)(y:Str)(tk:Str->Option Bool):Prop:=∀x b C,tk x=some b->aj x=some C->∀D,aj y=some D->PySem.W.exmOne K (.ref C) (.ref D)=some b
def putL(f:Str)(x:dB):List (Str×dB)->List (Str×dB)
 |[]=>[(f,x)]
 |(g,y)::r=>if g=f then(g,x)::r else(g,y)::putL f x r
def Inst.put(i:Inst)(f:Str)(x:dB):Inst:=⟨i.cls,putL f x i.fs⟩
theorem rK(f:Str)(x:dB):∀gs:List (Str×dB),(putL f x gs).map (·.1)=if f∈gs.map (·.1) then gs.map (·.1) else gs.map (·.1)++[f]
 |[]=>by simp[putL]
 |(g,y)::r=>by
  have ih:=rK f x r;rw[putL];by_cases e:g=f
  .subst e;simp
  .rw[ahz e,agy,ih];by_cases h:f∈r.map (·.1)
   .rw[ahy h,ahy (by simp[h])];rfl
   .rw[ahz h,ahz (by
     rw[agy,agI]
     rintro(z|z)
     .exact e z.symm
     .exact h z)]
    rfl
theorem Lk{f:Str}{x:dB}{gs:List (Str×dB)}(h:(gs.map (·.1)).Nodup):((putL f x gs).map (·.1)).Nodup:=by
 rw[rK];split
 .exact h
 .next n=>
  rw[List.nodup_append];refine⟨h,by simp,λa ha b hb e=>?_⟩;subst e;rw[agJ]at hb;subst hb;exact n ha
theorem uo{f:Str}{v:V}:∀{fs:List (Str×V)},fs.lookup f=some v->putF f v fs=fs
 |[],h=>nomatch h
 |(g,y)::r,h=>by
  rw[agQ]at h;rw[show putF f v ((g,y)::r)=(if g=f then(g,v)::r else(g,y)::putF f v r) from rfl];by_cases e:g=f
  .subst e;simp at h;rw[ahy rfl,h]
  .have ne:(f==g)=false:=by simpa using λz=>e z.symm
   rw[ne]at h;rw[ahz e,uo h]
section
variable{K:agw}{aj:aC}{W:WX}{g g':Gh}{H H':Hp}{σ:L2.St}{ρ:Env}{M:Mo}{h:Nat}{f:Str}{v:V}{fl:dB}
theorem aW.put(hk:∀f' v' fl',f'≠f->bA K aj g H h f' v' fl'->bA K aj g' H' h f' v' fl')(new:bA K aj g' H' h f v fl):∀{fs:List (Str×V)} {gs:List (Str×dB)},aW K aj g H h fs gs->(gs.map (·.1)).Nodup->aW K aj g' H' h (putF f v fs) (putL f fl gs)
 |_,_,.nil,_=>.cons new .nil
 |_,_,.cons (f:=f') (v:=v') (fl:=fl') (fs:=fs) (gs:=gs) z t,nd=>by
  rw[show putF f v ((f',v')::fs)=(if f'=f then(f',v)::fs else(f',v')::putF f v fs) from rfl,putL];rw[agy,ahr]at nd;by_cases e:f'=f
  .subst e;rw[ahy rfl,ahy rfl];refine .cons new ?_;have go:∀{fs:List (Str×V)} {gs:List (Str×dB)},aW K aj g H h fs gs->f'∉gs.map (·.1)->aW K aj g' H' h fs gs:=λ{fs gs} t=>by
    induction t with
    |nil=>exact λ_=>.nil
    |cons z _ ih=>
     intro n;rw[agy,agI,not_or]at n;exact .cons (hk _ _ _ (λq=>n.1 q.symm) z) (ih n.2)
   exact go t nd.1
  .rw[ahz e,ahz e];exact .cons (hk _ _ _ e z) (aW.put hk new t nd.2)
structure JK(M:Mo)(g g':Gh)(H H':Hp)(h:Nat)(f:Str):Prop where
 gc:Gc g g' H H'
 kd:Kd g' H'
 tbl:g'.tbl=g.tbl
 ow:∀a p,g.ow a=some p->g'.ow a=some p
 oth:∀a p,g.ow a=some p->p≠(h,f)->H' a=H a
 ins:∀(k:Nat) (a:Addr) (i:Inst),g.tbl[k]?=some a->M[k]?=some i->i.cls≠""->k≠h->H' a=H a
 nt:∀(k:Nat) (a:Addr) (i:Inst),g.tbl[k]?=some a->M[k]?=some i->i.cls≠""->∀p,g'.ow a≠some p
theorem dR.chg{l:Addr}(r:Gr false g g' H H')(k:Kd g H)(e:H' l=H l):∀{n:Bool} {kvs:List (Dat×Dat)},dR K aj g H l n kvs->dR K aj g' H' l n kvs
 |false,_,⟨kv,h1,h2,h3⟩=>⟨kv,e.trans h1,h2,h3.gr r k⟩
 |true,_,⟨o,xs,vs,h1,h2,h3,h4,h5,h6⟩=>⟨o,xs,vs,e.trans h1,h2,h3,h4.gr r k,h5,h6.gr r k⟩
theorem bA.chg(c:JK M g g' H H' h f)(k:Kd g H){h':Nat}{f':Str}{v':V}(ne:(h',f')≠(h,f)):∀{fl':dB},bA K aj g H h' f' v' fl'->bA K aj g' H' h' f' v' fl'
 |.dat _,z=>Rep.gr c.gc.gr k z
 |.lst _ _,⟨l,us,h1,h2,h3,h4,h5⟩=>⟨l,us,h1,(c.oth l _ h3 ne).trans h2,c.ow l _ h3,h4.gr c.gc.gr k,c.gc.gr.tb h5⟩
 |.dic _ _,⟨l,h1,h2,h3⟩=>⟨l,h1,c.ow l _ h2,h3.chg c.gc.gr k (c.oth l _ h2 ne)⟩
theorem cM.chg(w:cM K aj g H M)(k:Kd g H)(c:JK M g g' H H' h f){a:Addr}{i:Inst}(ha:g.tbl[h]?=some a)(hi:M[h]?=some i)(hne:i.cls≠"")(hf:f∈aj.fl i.cls){C dx:Addr}{fs:List (Str×V)}(hC:aj i.cls=some C)(R:aW K aj g H h fs i.fs)
  (e':H' a=some (.ins C dx (putF f v fs))) (new:bA K aj g' H' h f v fl):cM K aj g' H' (M.set h (i.put f fl)) where
 len:=by rw[c.tbl,agR];exact w.len
 inj:=by rw[c.tbl];exact w.inj
 ins:=λh' a' i' ha' hi' hc'=>by
  rw[c.tbl]at ha';by_cases z:h'=h
  .subst z;rw[ha]at ha';cases ha';rw[agN (agE.mp hi).1]at hi';cases hi';exact⟨C,dx,_,hC,e',R.put (λf' v' fl' ne z=>z.chg c k λq=>ne (congrArg Prod.snd q)) new (w.nd _ i hi)⟩
  .rw[agF (Ne.symm z)]at hi';obtain⟨C',dx',fs',c1,c2,c3⟩:=w.ins h' a' i' ha' hi' hc';refine⟨C',dx',fs',c1,(c.ins h' a' i' ha' hi' hc' z).trans c2,?_⟩;have go:∀{fs:List (Str×V)} {gs:List (Str×dB)},aW K aj g H h' fs gs->aW K aj g' H' h' fs gs:=λ{fs gs} t=>by
    induction t with
    |nil=>exact .nil
    |cons y _ ih=>exact .cons (y.chg c k λq=>z (congrArg Prod.fst q)) ih
   exact go c3
 nd:=λh' i' hi'=>by
  by_cases z:h'=h
  .subst z;rw[agN (agE.mp hi).1]at hi';cases hi';exact Lk (w.nd _ i hi)
  .rw[agF (Ne.symm z)]at hi';exact w.nd h' i' hi'
 fd:=λh' i' hi' f' hf'=>by
  by_cases z:h'=h
  .subst z;rw[agN (agE.mp hi).1]at hi';cases hi';have hf':f'∈(putL f fl i.fs).map (·.1):=hf';rw[rK]at hf';split at hf'
   .exact w.fd _ i hi f' hf'
   .rcases ag5.mp hf' with y|y
    .exact w.fd _ i hi f' y
    .rw[agJ]at y;rw[y];exact hf
  .rw[agF (Ne.symm z)]at hi';exact w.fd h' i' hi' f' hf'
 tw:=λk' a' i' ha' hi' hc'=>by
  rw[c.tbl]at ha';have:∃i0,M[k']?=some i0/\i0.cls≠"":=by
   by_cases z:k'=h
   .subst z;exact⟨i,hi,hne⟩
   .rw[agF (Ne.symm z)]at hi';exact⟨i',hi',hc'⟩
  obtain⟨i0,m1,m2⟩:=this;cases hz:g'.ow a' with
  |none=>rfl
  |some p=>exact absurd hz (c.nt k' a' i0 ha' m1 m2 p)
 dm:=λh' i' hi' hc'=>by
  by_cases z:h'=h
  .subst z;rw[agN (agE.mp hi).1]at hi';cases hi';exact absurd hc' hne
  .rw[agF (Ne.symm z)]at hi';exact w.dm h' i' hi' hc'
 nc:=w.nc
theorem ab8{a:Addr}(ha:g.tbl[h]?=some a):g.W a:=.inl (agT ha)
theorem zB(k:Kd g H)(w:cM K aj g H M){a:Addr}{i:Inst}(ha:g.tbl[h]?=some a)(hi:M[h]?=some i)(hc:i.cls≠""){C dx:Addr}{fs':List (Str×V)}:JK M g g H (upd H a (.ins C dx fs')) h f where
 gc:=⟨λb o hb n=>by rw[upd_ne (λz=>by subst z;exact n (ab8 ha))];exact hb,λb hb=>by
  by_cases z:b=a
  .subst z;rw[ahA]at hb;cases hb
  .rw[upd_ne z]at hb;exact hb,⟨[],by simp⟩,λ_ z=>z,λ_ z=>.inl z,rfl,rfl,rfl⟩
 kd:=k.upd ahs
 tbl:=rfl
 ow:=λ_ _ z=>z
 oth:=λb p hb _=>upd_ne λz=>by
  subst z;rw[w.tw h _ i ha hi hc]at hb;cases hb
 ins:=λj b i' hb _ _ ne=>upd_ne λz=>by
  subst z;exact ne (w.inj _ _ _ hb ha)
 nt:=λj b i' hb hj hcj p z=>by
  rw[w.tw j b i' hb hj hcj]at z;cases z
def Gh.own(g:Gh)(l:Addr)(h:Nat)(f:Str):Gh:={ g with ow:=λb=>if b=l then some (h,f) else g.ow b }
theorem ab0{l a:Addr}(hl:l∈g.tbl):(g.own l h f).W a↔g.W a:=by
 constructor
 .rintro(z|z)
  .exact .inl z
  .by_cases y:a=l
   .subst y;exact .inl hl
   .have z:(if a=l then some (h,f) else g.ow a)≠none:=z;rw[ahz y]at z;exact .inr z
 .rintro(z|z)
  .exact .inl z
  .refine .inr ?_
   show(if a=l then some (h,f) else g.ow a)≠none
   split
   .exact λq=>nomatch q
   .exact z
theorem zW(k:Kd g H)(w:cM K aj g H M){a l:Addr}{n:Nat}{i:Inst}(ha:g.tbl[h]?=some a)(hi:M[h]?=some i)(hc:i.cls≠"")(hl:g.tbl[n]?=some l)(hn:M[n]?=some ⟨"",[]⟩)(nl:g.ow l=none){C dx:Addr}{fs':List (Str×V)}:JK M g (g.own l h f) H (upd H a (.ins C dx fs')) h f:=by
 have W':∀{b:Addr},(g.own l h f).W b↔g.W b:=λ{b}=>ab0 (agT hl);have d:=zB (f:=f) (C:=C) (dx:=dx) (fs':=fs') k w ha hi hc;refine⟨⟨d.gc.keep,d.gc.dom,⟨[],by simp[Gh.own]⟩,λb z=>W'.mpr z,λb z=>.inl (W'.mp z),rfl,rfl,rfl⟩,⟨λb z=>d.kd.ob b ?_,λb z y=>d.kd.lo b z (W'.mp y),λb z=>⟨λy=>(d.kd.lc b z).1 (W'.mp y),(d.kd.lc b z).2⟩⟩,rfl,λb p z=>?_,d.oth,d.ins,λj b i' hb hj hcj p z=>?_⟩
 .rcases z with z|z|z
  .exact .inl (W'.mp z)
  .exact .inr (.inl z)
  .exact .inr (.inr z)
 .show(if b=l then some (h,f) else g.ow b)=some p
  rw[ahz (λy=>by subst y;rw[nl]at z;cases z)];exact z
 .have z:(if b=l then some (h,f) else g.ow b)=some p:=z;by_cases y:b=l
  .subst y;cases w.inj _ _ _ hb hl;rw[hn]at hj;cases hj;exact hcj rfl
  .rw[ahz y,w.tw j b i' hb hj hcj]at z;cases z
theorem Nm(k:Kd g H)(w:cM K aj g H M){l:Addr}{o':HO}(ho:g.ow l=some (h,f))(mo:sO o'):JK M g g H (upd H l o') h f where
 gc:=⟨λb u hb n=>by rw[upd_ne (λz=>by subst z;exact n (.inr (by rw[ho];exact λy=>nomatch y)))];exact hb,λb hb=>by
  by_cases z:b=l
  .subst z;rw[ahA]at hb;cases hb
  .rw[upd_ne z]at hb;exact hb,⟨[],by simp⟩,λ_ z=>z,λ_ z=>.inl z,rfl,rfl,rfl⟩
 kd:=k.upd mo
 tbl:=rfl
 ow:=λ_ _ z=>z
 oth:=λb p hb ne=>upd_ne λz=>by
  subst z;rw[ho]at hb;exact ne (ag0 hb).symm
 ins:=λj b i' hb hj hcj ne=>upd_ne λz=>by
  subst z;rw[w.tw j _ i' hb hj hcj]at ho;cases ho
 nt:=λj b i' hb hj hcj p z=>by
  rw[w.tw j b i' hb hj hcj]at z;cases z
theorem aW.len{fs:List (Str×V)}{gs:List (Str×dB)}(t:aW K aj g H h fs gs):fs.length=gs.length:=by
 induction t with
 |nil=>rfl
 |cons _ _ ih=>simp[ih]
end
def tR(M:Mo)(f:Str):Dat->Option dB
 |.dict [(.none,.int (.ofNat h))]=>(M[h]?).bind λi=>i.fs.lookup f
 |_=>none
def Uw(f:Str)(o:QF):QF:=λM ρ=>(o M ρ).bind λd=>match tR M f d with
 |some (.dat x)=>.ok x
 |_=>.bad
def Ls(f:Str)(o:QF):QF:=λM ρ=>(o M ρ).bind λd=>match tR M f d with
 |some (.dat x)=>.ok x
 |some (.lst _ xs)=>.ok (.list xs)
 |_=>.bad
theorem Pb{M:Mo}{f:Str}{d:Dat}{fl:dB}(h:tR M f d=some fl):∃n i,d=obj n/\M[n]?=some i/\i.fs.lookup f=some fl:=by
 unfold tR at h;split at h
 .next n=>
  obtain⟨i,h1,h2⟩:=agv.mp h;exact⟨n,i,rfl,h1,h2⟩
 .cases h
theorem lookup_mem{f:Str}{fl:dB}:∀{gs:List (Str×dB)},gs.lookup f=some fl->f∈gs.map (·.1)
 |[],h=>nomatch h
 |(g,y)::r,h=>by
  rw[agQ]at h;cases hb:f==g with
  |true=>rw[ahB hb];simp
  |false=>
   rw[hb]at h;exact agz _ (lookup_mem h)
section
variable{K:agw}{aj:aC}{g:Gh}{H:Hp}{M:Mo}
theorem HY(co:dJ K aj)(w:cM K aj g H M){f:Str}{d:Dat}{fl:dB}{v:V}(h:tR M f d=some fl)(r:bf K g H v d):∃n i a C dx fs u,d=obj n/\M[n]?=some i/\i.fs.lookup f=some fl/\g.tbl[n]?=some a/\v=.ref a/\aj i.cls=some C/\H a=some (.ins C dx fs)/\aW K aj g H n fs i.fs/\Cls K C/\NoAttr K C f/\fs.lookup f=some u/\bA K aj g H n f u fl:=by
 obtain⟨n,i,rfl,h1,h2⟩:=Pb h;obtain⟨a,rfl,ha⟩:=tH r;have hc:i.cls≠"":=λz=>by
  rw[w.dm n i h1 z]at h2;cases h2
 obtain⟨C,dx,fs,c1,c2,c3⟩:=w.ins n a i ha h1 hc;obtain⟨u,l1,l2⟩:=c3.get h2;obtain⟨k1,k2⟩:=co i.cls C f c1 (w.fd n i h1 f (lookup_mem h2));exact⟨n,i,a,C,dx,fs,u,rfl,h1,h2,ha,rfl,c1,c2,c3,k1,k2,l1,l2⟩
end
section
variable{X:Cx}{aj:aC}{W:WX}{o e:Expr}{es:List Expr}{fo:QF}{f m:Str}{pos apos:Pos}
theorem Yp(co:dJ X.K aj)(ho:QW aj X W o fo)(hb:baseOk o=true):QE aj X W (.Attribute o f pos) (Uw f fo):=
 PE.weak (pe_fld ho (cA hb)) λσ H Q ⟨g,ρ,M,I,h⟩=>by
  refine tW.go I h.bnd λd v H1 h1 e1 r1=>?_;split at h1
  .next x hx=>
   obtain⟨n,i,a,C,dx,fs,u,_,_,_,_,rfl,_,c2,_,k1,k2,l1,l2⟩:=HY co (I.ex e1).wok hx r1;exact⟨a,C,dx,fs,u,rfl,c2,k1,k2,l1,h1 u H1 e1 l2⟩
  .exact aht h1
theorem Z6(co:dJ X.K aj)(ho:QW aj X W o fo)(hb:baseOk o=true):QW aj X W (.Attribute o f pos) (Ls f fo):=
 PE.weak (pe_fld ho (cA hb)) λσ H Q ⟨g,ρ,M,I,h⟩=>by
  refine tW.go I h.bnd λd v H1 h1 e1 r1=>?_;split at h1
  .next x hx=>
   obtain⟨n,i,a,C,dx,fs,u,_,_,_,_,rfl,_,c2,_,k1,k2,l1,l2⟩:=HY co (I.ex e1).wok hx r1;exact⟨a,C,dx,fs,u,rfl,c2,k1,k2,l1,h1 u H1 e1 (Rep.weak l2)⟩
  .next xs hx=>
   obtain⟨n,i,a,C,dx,fs,u,_,_,_,_,rfl,_,c2,_,k1,k2,l1,l,us,rfl,s1,s2,s3,_⟩:=HY co (I.ex e1).wok hx r1;exact⟨a,C,dx,fs,_,rfl,c2,k1,k2,l1,h1 _ H1 e1 ⟨l,us,rfl,sq_of s1,s3⟩⟩
  .exact aht h1
def yd(X:Cx)(W:WX)(m:Str)(ta:TE)(t:TA):TE:=λσ H Q=>ta σ H λx H1=>∃(a C dx:Addr) (fs:List (Str×V)) (f:Addr) (fd:FuncData) (ps:List Str) (sp:Sp) (k:Nat),x=.ref a/\H1 a=some (.ins C dx fs)/\fs.lookup m=none/\Cls X.K C/\Meth X.K C m f/\Room k X.A/\Binds X.K fd ps []/\
 FnOk X.prog X.w X.K X.mg X.base (L2.CX X.prog X.w) k f fd ps sp/\t σ H1 λvs H2=>sp (x::vs) H2 Q (WE W σ)
theorem BK{M:Model}{A:Around}{E:Value->Shared->Prop}{s:Shared}{env:PySem.Env}{args:List Expr}{Q:Value->Shared->Prop}(hbase:baseOk o=true)(hs:args.all nst=true)(hz:args.length<30)(hl:(apos.endLine==pos.line)=true)
  (h:wpAny M A (eval o env) (λov s₁=>∀pl:Sem Bool,wpAny M A (getMethod ov m pl) (λfx s₂=>wpAny M A (callWith pos fx.1 fx.2 (backTo pos (starEach args env)) (backToKw pos (keywordEach [] env))) Q E s₂) E s₁) E s) :
  wpAny M A (eval (.Call (.Attribute o m apos) args [] pos) env) Q E s:=by
 have hform:methodCallForm (args.length+([]:List Keyword).length) (backTo pos (starEach args env)) (backToKw pos (keywordEach [] env))=true:=few hs hz;have hpos:methodCallPos true o env apos pos=pure pos:=by unfold methodCallPos;simp[hl]
 rw[arm_eval_Call,cA hbase];refine ahw (wpAny_mono h (λov s₁ h₁=>?_) λ_ _ e=>e);refine ahw (wpAny_standAt ?_);unfold methodCall;rw[hform];refine ahw (wpAny_holding ?_);refine wpAny_mono (h₁ _) (λfx s₂ h₂=>?_) λ_ _ e=>e;exact ahw (wpAny_of_eq hpos h₂)
theorem Gg{ta:TE}{t:TA}(tk:Takes X W)(ho:PE X o ta)(ha:PA X (e::es) t)(hb:baseOk o=true)(hs:(e::es).all nst=true)(hl:(apos.endLine==pos.line)=true)(hz:(e::es).length<30):PE X (.Call (.Attribute o m apos) (e::es) [] pos) (yd X W m ta t):=by have hs':=hs;rw[ag7,agx]at hs';refine⟨λpins s σ H Q I h=>?_⟩;refine BK hb hs hz hl (thn (ho.run pins s σ H _ I h) λu s1 ⟨x,G,J,rx,a,C,dx,fs,f,fd,ps,sp,k,ex,ea,l,c,hm,hr,hB,F,q⟩ pl=>?_);subst ex;cases rx;refine getmeth_ok J ea c hm l ?_;refine PySem.W.callWith_K (first:=[.ref a]) (h₀:=X.base) I.ok.mod.kin hm.kp (thn (ha.run pos pins s1 σ G _ J q) λus s2 ⟨vs,G2,J2,r,q2⟩=>⟨J2.kIn,?_⟩) (aH hs'.1 es) (star_any es hs'.2);exact run_fnS (us:=.ref a::us) (vs:=.ref a::vs) F hr hB (passAt tk σ) J2 (.cons rfl r) q2
theorem Bx{ta:TE}(tk:Takes X W)(ho:PE X o ta)(hb:baseOk o=true)(hl:(apos.endLine==pos.line)=true):PE X (.Call (.Attribute o m apos) [] [] pos) (yd X W m ta tNil):=by refine⟨λpins s σ H Q I h=>?_⟩;refine BK hb rfl (by decide) hl (thn (ho.run pins s σ H _ I h) λu s1 ⟨x,G,J,rx,a,C,dx,fs,f,fd,ps,sp,k,ex,ea,l,c,hm,hr,hB,F,q⟩ pl=>?_);subst ex;cases rx;refine getmeth_ok J ea c hm l ?_;exact PySem.W.callWith_K0 (first:=[.ref a]) J.kIn hm.kp (run_fnS (us:=[.ref a]) (vs:=[.ref a]) F hr hB (passAt tk σ) J (.cons rfl .nil) q)
def pD(tb:List (Str×MV))(M:Mo):Dat->Option MV
 |.dict [(.none,.int (.ofNat h))]=>(M[h]?).bind λi=>tb.lookup i.cls
 |_=>none
def yr(tb:List (Str×MV))(o:QF)(as:QA):QF:=λM ρ=>(o M ρ).bind λd=>match pD tb M d with
 |some (.q _ m)=>(as M ρ).bind λds=>m M (d::ds)
 |_=>.bad
def xX(tb:List (Str×MV))(o:QF)(as:QA):GF:=λM ρ=>((o M ρ).at M).bind λd _=>match pD tb M d with
 |some (.q _ m)=>((as M ρ).at M).bind λds _=>(m M (d::ds)).at M
 |some (.g _ m)=>((as M ρ).at M).bind λds _=>m M (d::ds)
 |none=>.bad
def rB(X:Cx)(aj:aC)(k:Nat)(m:Str)(n:Nat)(tb:List (Str×MV)):Prop:=∀c v,tb.lookup c=some v->GD X.prog X.w X.K X.mg X.base aj k c m v/\match v with
  |.q j _=>j=n
  |.g j _=>j=n
theorem rB.cls{k n:Nat}{tb:List (Str×MV)}(T:rB X aj k m n tb):∀c v,tb.lookup c=some v->aj c≠none:=λc v h z=>by
 obtain⟨⟨C,f,c1,_⟩,_⟩:=T c v h;rw[z]at c1;cases c1
theorem zX{K:agw}{g:Gh}{H:Hp}{M:Mo}{tb:List (Str×MV)}{d:Dat}{v:V}{mv:MV}(ht:∀c v,tb.lookup c=some v->aj c≠none)(w:cM K aj g H M)(h:pD tb M d=some mv)(r:bf K g H v d):∃n i a C dx fs,d=obj n/\M[n]?=some i/\tb.lookup i.cls=some mv/\g.tbl[n]?=some a/\v=.ref a/\aj i.cls=some C/\H a=some (.ins C dx fs)/\aW K aj g H n fs i.fs:=by
 unfold pD at h;split at h
 .next n=>
  obtain⟨i,h1,h2⟩:=agv.mp h;obtain⟨a,rfl,ha⟩:=tH r;obtain⟨C,dx,fs,c1,c2,c3⟩:=w.ins n a i ha h1 λz=>ht _ _ h2 (by rw[z];exact w.nc);exact⟨n,i,a,C,dx,fs,rfl,h1,h2,ha,rfl,c1,c2,c3⟩
 .cases h
theorem Hl{K:agw}{g:Gh}{H:Hp}{M:Mo}{n:Nat}{i:Inst}{fs:List (Str×V)}(w:cM K aj g H M)(hi:M[n]?=some i)(R:aW K aj g H n fs i.fs)(h:m∉aj.fl i.cls):fs.lookup m=none:=by
 refine R.no ?_;cases hl:i.fs.lookup m with
 |none=>rfl
 |some x=>exact absurd (w.fd n i hi m (lookup_mem hl)) h
theorem O7{tb:List (Str×MV)}{as:QA}{n k:Nat}{t:TA}(hr:Room k X.A)(T:rB X aj k m n tb)(hn:∀M ρ ds,as M ρ=.ok ds->ds.length+1=n)(ht:∀σ H Q,vX X.K aj W as σ H Q->t σ H Q)(σ:L2.St)(H:Hp)(Q:VK)(h:tQ X.K aj W (yr tb fo as) σ H Q):yd X W m (tW X.K aj W fo) t σ H Q:=by
 obtain⟨g,ρ,M,I,h⟩:=h;refine tW.go I h.bnd λd v H1 h1 e1 r1=>?_;have I1:=I.ex e1;split at h1
 .next j mm hmv=>
  obtain⟨hd,i,a,C,dx,fs,rfl,hi,hl,ha,rfl,c1,c2,c3⟩:=zX T.cls I1.wok hmv r1;obtain⟨⟨C',f,cc,cl,me,nf,fd,ps,j',hj,hp,hB,F⟩,en⟩:=T _ _ hl;have en:j=n:=en;rw[c1]at cc;cases cc;refine⟨a,C,dx,fs,f,fd,ps,_,j',rfl,c2,Hl I1.wok hi c3 nf,cl,me,hr.mono hj,hB,F,ht σ H1 _ ⟨g,ρ,M,I1,?_⟩⟩;have h2:=h1.bnd;cases has:as M ρ with
  |exc x=>rw[has]at h2;exact gM.ex e1 h2
  |bad=>rw[has]at h2;exact aht h2
  |ok ds=>
   rw[has]at h2;intro vs H2 e2 r2;refine⟨by rw[hp,en,<-hn M ρ ds has,agC,r2.length],g,M,obj hd::ds,(I1.ex e2).kd,(I1.ex e2).wok,.cons (.obj ha) r2,?_⟩;exact Out.sat.mono h2 (λd k v H' e' r'=>k v H' ((e1.trans e2).trans e') r') λx k H' c dd e' r'=>k H' c dd ((e1.trans e2).trans e') r'
 .exact aht h1
theorem Xe{tb:List (Str×MV)}{as:QA}{k:Nat}(tk:Takes X W)(hr:Room k X.A)(T:rB X aj k m ((e::es).length+1) tb)(ho:QW aj X W o fo)(ha:qu aj X W (e::es) as)(hn:∀M ρ ds,as M ρ=.ok ds->ds.length=(e::es).length)(hb:baseOk o=true)(hs:(e::es).all nst=true)(hl:(apos.endLine==pos.line)=true)(hz:(e::es).length<30) :
  QE aj X W (.Call (.Attribute o m apos) (e::es) [] pos) (yr tb fo as):=
 PE.weak (Gg tk ho ha hb hs hl hz) λσ H Q h=>O7 hr T (λM ρ ds z=>by rw[hn M ρ ds z]) (λ_ _ _ z=>z) σ H Q h
theorem SQ{tb:List (Str×MV)}{k:Nat}(tk:Takes X W)(hr:Room k X.A)(T:rB X aj k m 1 tb)(ho:QW aj X W o fo)(hb:baseOk o=true)(hl:(apos.endLine==pos.line)=true) :
  QE aj X W (.Call (.Attribute o m apos) [] [] pos) (yr tb fo aG):=
 PE.weak (Bx tk ho hb hl) λσ H Q h=>O7 hr T (λM ρ ds z=>by cases z;rfl) (λσ H Q ⟨g,ρ,M,I,z⟩=>z [] H (Ex.refl H) .nil) σ H Q h
theorem PL{tb:List (Str×MV)}{as:QA}{n k:Nat}{t:TA}(hr:Room k X.A)(T:rB X aj k m n tb)(hn:∀M ρ ds,as M ρ=.ok ds->ds.length+1=n)(ht:∀σ H Q,vX X.K aj W as σ H Q->t σ H Q)(σ:L2.St)(H:Hp)(Q:VK)(h:tE X.K aj W false (xX tb fo as) σ H Q):yd X W m (tW X.K aj W fo) t σ H Q:=by
 obtain⟨g,ρ,M,I,h⟩:=h;have quiet:∀{x:bK},gE X.K aj W false g H σ ρ x M->gM X.K aj W g H σ x:=λ{x} z H' c dd e r=>z H' g c dd (Gr.ex e) (I.ex e) r;have h:=h.bnd;refine⟨g,ρ,M,I,?_⟩;cases ho:fo M ρ with
 |exc x=>rw[ho]at h;exact quiet h
 |bad=>rw[ho]at h;exact aht h
 |ok d=>
  rw[ho]at h;intro v H1 e1 r1;have I1:=I.ex e1;have h:(match pD tb M d with
   |some (.q _ m)=>((as M ρ).at M).bind λds _=>(m M (d::ds)).at M
   |some (.g _ m)=>((as M ρ).at M).bind λds _=>m M (d::ds)
   |none=>.bad).sat (λd M'=>∀v H' g',Gr false g g' H H'->SInv X.K aj σ H' g' ρ M'->Rep X.K g' H' v d->Q v H') (gE X.K aj W false g H σ ρ):=h
  split at h
  .next j mm hmv=>
   obtain⟨hd,i,a,C,dx,fs,rfl,hi,hl,ha,rfl,c1,c2,c3⟩:=zX T.cls I1.wok hmv r1;obtain⟨⟨C',f,cc,cl,me,nf,fd,ps,j',hj,hp,hB,F⟩,en⟩:=T _ _ hl;have en:j=n:=en;rw[c1]at cc;cases cc;refine⟨a,C,dx,fs,f,fd,ps,_,j',rfl,c2,Hl I1.wok hi c3 nf,cl,me,hr.mono hj,hB,F,ht σ H1 _ ⟨g,ρ,M,I1,?_⟩⟩;have h2:=h.bnd;cases has:as M ρ with
   |exc x=>rw[has]at h2;exact gM.ex e1 (quiet h2)
   |bad=>rw[has]at h2;exact aht h2
   |ok ds=>
    rw[has]at h2;intro vs H2 e2 r2;have e12:=e1.trans e2;refine⟨by rw[hp,en,<-hn M ρ ds has,agC,r2.length],g,M,obj hd::ds,(I1.ex e2).kd,(I1.ex e2).wok,.cons (.obj ha) r2,?_⟩;exact Out.sat.mono (Out.dD h2) (λd k v H' e' r'=>k v H' g (Gr.ex (e12.trans e')) (I.ex (e12.trans e')) r') λx k H' c dd e' r'=>k H' g c dd (Gr.ex (e12.trans e')) (I.ex (e12.trans e')) r'
  .next j mm hmv=>
   obtain⟨hd,i,a,C,dx,fs,rfl,hi,hl,ha,rfl,c1,c2,c3⟩:=zX T.cls I1.wok hmv r1;obtain⟨⟨C',f,cc,cl,me,nf,fd,ps,j',hj,hp,hB,F⟩,en⟩:=T _ _ hl;have en:j=n:=en;rw[c1]at cc;cases cc;refine⟨a,C,dx,fs,f,fd,ps,_,j',rfl,c2,Hl I1.wok hi c3 nf,cl,me,hr.mono hj,hB,F,ht σ H1 _ ⟨g,ρ,M,I1,?_⟩⟩;have h2:=h.bnd;cases has:as M ρ with
   |exc x=>rw[has]at h2;exact gM.ex e1 (quiet h2)
   |bad=>rw[has]at h2;exact aht h2
   |ok ds=>
    rw[has]at h2;intro vs H2 e2 r2;have e12:=e1.trans e2;refine⟨by rw[hp,en,<-hn M ρ ds has,agC,r2.length],g,M,obj hd::ds,(I1.ex e2).kd,(I1.ex e2).wok,.cons (.obj ha) r2,?_⟩;exact aR.sat.mono h2 (λd M' k v H' g' c kd wk r'=>k v H' g' ((Gr.ex e12).trans c.gr) ((I.ex e12).call c kd wk) r') λx M' k H' g' cc dd c kd wk r'=>k H' g' cc dd ((Gr.ex e12).trans c.gr) ((I.ex e12).call c kd wk) r'
  .exact aht h
theorem Wd{tb:List (Str×MV)}{as:QA}{k:Nat}(tk:Takes X W)(hr:Room k X.A)(T:rB X aj k m ((e::es).length+1) tb)(ho:QW aj X W o fo)(ha:qu aj X W (e::es) as)(hn:∀M ρ ds,as M ρ=.ok ds->ds.length=(e::es).length)(hb:baseOk o=true)(hs:(e::es).all nst=true)(hl:(apos.endLine==pos.line)=true)(hz:(e::es).length<30) :
  GE aj X W false (.Call (.Attribute o m apos) (e::es) [] pos) (xX tb fo as):=
 PE.weak (Gg tk ho ha hb hs hl hz) λσ H Q h=>PL hr T (λM ρ ds z=>by rw[hn M ρ ds z]) (λ_ _ _ z=>z) σ H Q h
theorem Tv{tb:List (Str×MV)}{k:Nat}(tk:Takes X W)(hr:Room k X.A)(T:rB X aj k m 1 tb)(ho:QW aj X W o fo)(hb:baseOk o=true)(hl:(apos.endLine==pos.line)=true) :
  GE aj X W false (.Call (.Attribute o m apos) [] [] pos) (xX tb fo aG):=
 PE.weak (Bx tk ho hb hl) λσ H Q h=>PL hr T (λM ρ ds z=>by cases z;rfl) (λσ H Q ⟨g,ρ,M,I,z⟩=>z [] H (Ex.refl H) .nil) σ H Q h
end
def iV(x:Str):SF:=λM ρ=>.exc ⟨x,[]⟩ ρ M
def vg(x:Str)(fs:List Str)(as:QA):SF:=λM ρ=>((as M ρ).at M).then ρ λds M'=>.exc ⟨x,(fs.zip ds).reverse⟩ ρ M'
section
variable{X:Cx}{aj:aC}{W:WX}{q:Bool}{x:Str}{pos p p1:Pos}{k:Nat}
theorem Rm(hc:X.calm=true)(tk:Takes X W)(hg:Gl X x)(hd:(x==("__debug__" : Str))=false)(g:aU X.prog X.w X.K X.mg X.base aj k x .exc):SE aj X W q (.Raise (some (.Call (.Name x p) [] [] p1)) none pos) (iV x):=by obtain⟨C,g1,g2,g3,g4,g5,g6⟩:=g;exact PS.weak (ps_raise hc tk (Ear.T6 PySem.F.excBase_ValueError g3 g1 g4 (raises_own g5 g6) hg hd)) λD σ H ⟨g,ρ,M,I,z⟩=>z σ H g (.ref C) none Gr.refl I ⟨C,g2,rfl,.inl ⟨rfl,rfl⟩⟩
theorem Bm{X:Cx}{x:Str}{C:Addr}{p pos:Pos}{bmB:List Value}{B newId initId:String}(F:ExcBaseFacts B newId initId bmB)(q:PySem.W.excIn X.K C bmB newId=true)(gC:X.mg x=some (.ref C))(kC:PySem.W.keepIn X.K (.ref C)=true)(r:Raises X (.ref C))(hg:Gl X x)
  (hn:(x==("__debug__" : Str))=false):L2H.PMk5 X (.Call (.Name x p) [] [] pos) (λ_ H Q=>Q (.ref C) none H):=by
 intro pins s σ H Q I h;refine wpAny_Call_Name_kw (ld_glob I hg gC ?_ hn);refine PySem.W.callWith_K0 I.kIn kC ?_;show wpAny _ _ (call (.ref C) []) _ _ _;obtain⟨bm,N,nm,qn,bs,hdct,sn,sub,ab,col,dd,k0,k1,k2,k3,k5,mN,hC,hN,hni,T⟩:=exc_obj I.kIn q;refine wpAny_call_exc_subT F T hC hN hni (λh' e hm=>?_) (agO _);exact L2H.mk_of5 I hm r h (I.hok.gone hm.new)
theorem Pg(hc:X.calm=true)(tk:L2N.Takes X W)(hg:Gl X x)(hd:(x==("__debug__" : Str))=false)(g:aU X.prog X.w X.K X.mg X.base aj k x .exc):SE aj X W q (.Raise (some (.Call (.Name x p) [] [] p1)) none pos) (iV x):=by obtain⟨C,g1,g2,g3,g4,g5,g6⟩:=g;exact PS.weak (L2N.ps_raise hc tk (Bm PySem.F.excBase_ValueError g3 g1 g4 (raises_own g5 g6) hg hd).pmk) λD σ H ⟨g,ρ,M,I,z⟩=>z σ H g (.ref C) none Gr.refl I ⟨C,g2,rfl,.inl ⟨rfl,rfl⟩⟩
theorem eZ.gr{K:agw}{g g':Gh}{H H':Hp}{q:Bool}(r:Gr q g g' H H')(k:Kd g H){fs:List (Str×V)}{gs:List (Str×Dat)}(h:eZ K g H fs gs):eZ K g' H' fs gs:=by
 induction h with
 |nil=>exact .nil
 |cons z _ ih=>exact .cons (z.gr r k) ih
theorem eZ.snoc{K:agw}{g:Gh}{H:Hp}{f:Str}{v:V}{d:Dat}(z:Rep K g H v d){fs:List (Str×V)}{gs:List (Str×Dat)}(h:eZ K g H fs gs):eZ K g H (fs++[(f,v)]) (gs++[(f,d)]):=by
 induction h with
 |nil=>exact .cons z .nil
 |cons y _ ih=>exact .cons y ih
theorem Qx{K:agw}{g:Gh}{H:Hp}:∀{fs:List Str} {vs:List V} {ds:List Dat},aq K g H vs ds->eZ K g H (fs.zip vs).reverse (fs.zip ds).reverse
 |[],_,_,_=>.nil
 |_::_,_,_,.nil=>.nil
 |f::fs,_,_,.cons z t=>by
  rw[ag6,ag6,List.reverse_cons,List.reverse_cons];exact(Qx t).snoc z
theorem Rb{e:Expr}{es:List Expr}{fs:List Str}{as:QA}(hc:X.calm=true)(tk:Takes X W)(hr:Room k X.A)(hg:Gl X x)(hd:(x==("__debug__" : Str))=false)(g:aU X.prog X.w X.K X.mg X.base aj k x (.exi fs))(ha:qu aj X W (e::es) as)
  (hs:(e::es).all nst=true) (hn:∀M ρ ds,as M ρ=.ok ds->ds.length=fs.length) (hz:fs.length<=1000):SE aj X W q (.Raise (some (.Call (.Name x p) (e::es) [] p1)) none pos) (vg x fs as):=by
 obtain⟨C,fI,fd,ps,g1,g2,g3,g4,g5,hk,hp,hB,F⟩:=g;have hs':=hs;rw[ag7,agx]at hs';refine PS.weak (ps_raise hc tk (pmk_oex g3 g4 g5 F (hr.mono hk) hB .nil pass0 hg g1 ha hd (aH hs'.1 es) (star_any es hs'.2))) λD σ H ⟨g,ρ,M,I,z⟩=>?_;refine⟨g,ρ,M,I,?_⟩;unfold vg at z;cases has:as M ρ with
 |exc y=>rw[has]at z;exact λH' c dd e r=>z σ H' g c dd (Gr.ex e) (I.ex e) r.fr
 |bad=>rw[has]at z;exact aht z
 |ok ds=>
  rw[has]at z;intro vs H1 e1 r1;have hl:vs.length=fs.length:=by rw[r1.length,hn M ρ ds has]
  refine⟨by omega,λa na=>⟨a,vs++[],rfl,by simpa using hl,ahA,λdx H' nd kp dm ha' hd'=>?_⟩⟩;have ne:dx≠a:=λz=>by
   subst z;rw[ahA]at nd;cases nd
  rw[upd_ne ne]at nd;refine⟨rfl,dx,_,ha',hd',nd,?_⟩;have kp':∀b o,H1 b=some o->(upd (del H' a) dx (.xd (fs.zip (vs++[])).reverse)) b=some o:=λb o hb=>by
   have nb:b≠a:=λz=>by subst z;rw[na]at hb;cases hb
   have nd':b≠dx:=λz=>by subst z;rw[nd]at hb;cases hb
   rw[upd_ne nd',del_ne nb];exact kp b o nb (by rw[upd_ne nb];exact hb)
  have ex:Ex H1 (upd (del H' a) dx (.xd (fs.zip (vs++[])).reverse)):=λb o hb=>kp' b o hb;have I1:=I.ex e1;refine z σ _ g (.ref C) (some dx) (Gr.ex (e1.trans ex)) (I1.ex ex) ⟨C,g2,rfl,.inr ⟨dx,_,rfl,ahA,?_⟩⟩;rw[ag1];have:=(Qx (fs:=fs) r1).gr (Gr.ex (q:=true) ex) I1.kd;rw[ag1]at this;exact eZ.less (g:=g) (g':=g.fr) rfl (j7 g) this
end
structure Cl where
 c:Value
 nm:Option Nat
 ts:Addr->Value->Option Addr->TS
def adC(D:Ends)(i:Nat):Ends:={ nx:=λτ G=>D.nx (τ.set i none) G,rt:=D.rt,bk:=λτ G=>D.bk (τ.set i none) G,ct:=λτ G=>D.ct (τ.set i none) G }
def Ih(K:agw)(Wo:WX)(D:Ends):List Cl->WX
 |[]=>Wo
 |l::r=>λcls d τ G=>∃b,PySem.W.exmOne K cls l.c=some b/\(b=true->∀a,G a=none->(match l.nm with
   |none=>l.ts a cls d D τ G
   |some i=>l.ts a cls d (adC D i) (τ.set i (some (.ref a))) G))/\(b=false->Ih K Wo D r cls d τ G)
inductive oA(X:Cx):List ExceptHandler->List Cl->Prop
 |nil:oA X [] []
 |one {x:Str} {l:Cl} {s0:Stmt} {su:List Stmt} {np cp:Pos} {hds:List ExceptHandler} {ls:List Cl} (hc:Names X x l.c) (hn:l.nm=none)
   (hsu:∀(a:Addr) (oe:Obj) (cls:Value) (d:Option Addr) (pn:List (Addr×Obj)),Zc cls d oe->(∃vs,oe.data=.fields vs)->PSs (X.suite a ((a,oe)::pn)) (s0::su) (l.ts a cls d)) (r:oA X hds ls) :
   oA X (.ExceptHandler (some (.Name x np)) none (s0::su) cp::hds) (l::ls)
 |as {x n:Str} {i:Nat} {l:Cl} {s0:Stmt} {su:List Stmt} {np cp:Pos} {hds:List ExceptHandler} {ls:List Cl} (hc:Names X x l.c) (hn:l.nm=some i) (hi:X.N[i]?=some n) (hl:X.env.kindOf n=some .local)
   (hsu:∀(a:Addr) (oe:Obj) (cls:Value) (d:Option Addr) (pn:List (Addr×Obj)),Zc cls d oe->(∃vs,oe.data=.fields vs)->PSs (X.suite a ((a,oe)::pn)) (s0::su) (l.ts a cls d)) (r:oA X hds ls) :
   oA X (.ExceptHandler (some (.Name x np)) (some n) (s0::su) cp::hds) (l::ls)
section
variable{X:Cx}{body:List Stmt}{h0:ExceptHandler}{hds:List ExceptHandler}{ls:List Cl}{pos:Pos}{tb:WX->TS}{Wo:WX}
theorem Xo(hs:X.stack=X.env::X.outer)(hf:X.env.frame=some X.env.locals)(hN:X.N.Nodup)(tk:Takes X Wo)
  (hb:∀(W:WX) (pn:List (Addr×Obj)) (xe:Value->Shared->Prop),Takes (X.tr pn xe) W->PassesOwn (model X.prog X.w) X.A X.env xe->PSs (X.tr pn xe) body (tb W))
  (hh:oA X (h0::hds) ls):PS X (.Try body (h0::hds) [] [] pos) (λD σ H=>tb (Ih X.K Wo D ls) D σ H):=by
 constructor;intro pins s σ H D I h;have ok:=I.ok;have frm:X.A.frames=some (X.env::X.outer):=by rw[ok.frames,hs]
 have run:=(hb (Ih X.K Wo D ls) (X.pn++pins) (λe t₁=>wpAny (model X.prog X.w) X.A (noteFrame e X.env) (λ_ t₂=>wpAny (model X.prog X.w) X.A (setFlight e none) (λ_ t₃=>wpAny (model X.prog X.w) X.A (handleBy e X.env (h0::hds)) (SP X pins D) X.xe t₃) X.xe t₂) X.xe t₁) (λu t xx=>by
  obtain⟨a,B,sI,pins2,τ,G,cls,d,rfl,J2,nb,up,sky,na,os,ag,w⟩:=xx;have J:Inv X pins τ G sI:=J2.ofTry ok;have sky2:Sky B (X.env::X.outer) a (Zc cls d) X.env.locals t.heap:=by rw[<-hs];exact sky
  show wpAny (model X.prog X.w) X.A (noteFrame (.ref a) X.env) _ _ _;refine Sky.land Zc.steady frm hf sky2 ?_;intro h3 fl3 up3;have J3:Inv X pins τ G { t with heap:=h3 }:=J.landed nb fl3.1 (up.trans up3) os ag;obtain⟨oe3,vs3,he3,hz3,hd3⟩:=fl3.there;have notF:a∉frs (X.env::X.outer):=λhm=>by
   obtain⟨_,o,eo,hnf⟩:=Heap.FunFrames.mem fl3.2.2.1 hm;rw[he3]at eo;cases eo;exact hnf _ hd3
  have nL:a≠X.env.locals:=λz=>notF (List.mem_filterMap.mpr ⟨X.env,agA,(by rw[hf,z])⟩);have nF:a∉X.fs:=λhm=>by
   obtain⟨e,he,q⟩:=List.mem_filterMap.mp hm;exact notF (List.mem_filterMap.mpr ⟨e,agz _ he,q⟩)
  have S3:=J3.suite he3 hd3 na nL nF;have look:PySem.W.Looks (model X.prog X.w) h3 (typeOf (.ref a)) cls:=λA Q E s k q=>wpAny_typeOf_ref (k _ _ he3) (by rw[hz3.1];exact q);have named:∀{x:Str} {c:Value} {np:Pos} {Q:Value->Shared->Prop} {E:Value->Shared->Prop},Names X x c->Q c { t with heap:=h3 }->wpAny (model X.prog X.w) (X.A.mark (some (.ref a))) (eval (.Name x np) X.env) Q E { t with heap:=h3 }:=by
   intro x c np Q E hc q;obtain⟨hg,hdb,hm⟩:=hc;rcases hm with hm|⟨hm,hv,hnn⟩
   .exact ld_glob (X:=X.suite a ((a,oe3)::(X.pn++pins))) S3 hg hm q hdb
   .exact ld_blt (X:=X.suite a ((a,oe3)::(X.pn++pins))) S3 hg hm hv q hnn hdb
  have all:∀{hds2:List ExceptHandler} {ls2:List Cl},oA X hds2 ls2->Ih X.K Wo D ls2 cls d τ G->wpAny (model X.prog X.w) X.A (handleBy (.ref a) X.env hds2) (SP X pins D) X.xe { t with heap:=h3 }:=by
   intro hds2 ls2 hk
   induction hk with
   |nil=>
    intro w;refine wpAny_handleBy_nil ?_;obtain⟨k1,k2,k3,oe,vs,T,oT,ts2,he,hz,hd,h1,hr⟩:=id fl3;unfold PySem.passOn;refine ahw (wpAny_field he hd h1 ?_);have nT:¬((Value.ref T==Value.none)=true):=by simp
    rw[ahz nT];have fin:wpAny (model X.prog X.w) X.A (setFlight (.ref a) X.env.frame) (λ_ s4=>wpAny (model X.prog X.w) X.A (throw (.ref a):Sem Flow) (SP X pins D) X.xe s4) X.xe { t with heap:=h3 }:=by rw[hf];refine HandSPX.setFlight_upZ fl3 ?_;intro h4 hh4 up4;refine wpAny_throw (tk _ _ ?_);exact⟨a,B,sI,pins,τ,G,cls,d,rfl,J,nb,(up.trans up3).trans up4,.inr (.inr (by rw[hs];exact hh4)),na,os,ag,w⟩
    first
     |exact ahw (ahx (ahw fin))
     |exact ahw fin
   | @one x l s0 su np cp hds3 ls3 hc hn hsu r ih=>
    intro w;obtain⟨b,hb1,yes,no⟩:=w;rw[hn]at yes;have LM:=PySem.W.exm_one (M:=model X.prog X.w) J3.kIn look hb1;refine wpAny_handleBy_cons (codeAny_handlers_test ?_) (by intro q;cases q);refine named hc (LM.here ?_);cases b with
    |false=>exact ih (no rfl)
    |true=>
     refine codeAny_handlers_suite ?_;refine HandSPX.lands_againZ fl3 ?_;intro h4 fl4 up4;have J4:Inv X pins τ G { t with heap:=h4 }:=J.landed nb fl4.1 ((up.trans up3).trans up4) os ag;obtain⟨oe4,vs4,he4,hz4,hd4⟩:=fl4.there;have S4:=J4.suite he4 hd4 na nL nF;refine wpAny_mono ((hsu a oe4 cls d (X.pn++pins) hz4 ⟨_,hd4⟩).run [] _ _ G _ S4 (yes rfl a na)) ?_ (λ_ _ z=>aht z);intro f s6 sp6;cases f with
     |ret u=>
      obtain⟨v6,τ6,G6,S6,r6,q6⟩:=sp6;exact⟨_,_,_,S6.unsuite ok,r6,q6⟩
     |next=>
      obtain⟨τ6,G6,S6,q6⟩:=sp6;exact⟨_,_,S6.unsuite ok,q6⟩
     |brk=>
      obtain⟨τ6,G6,S6,q6⟩:=sp6;exact⟨_,_,S6.unsuite ok,q6⟩
     |cont=>
      obtain⟨τ6,G6,S6,q6⟩:=sp6;exact⟨_,_,S6.unsuite ok,q6⟩
   | @as x n i l s0 su np cp hds3 ls3 hc hn hi hl hsu r ih=>
    intro w;obtain⟨b,hb1,yes,no⟩:=w;rw[hn]at yes;have LM:=PySem.W.exm_one (M:=model X.prog X.w) J3.kIn look hb1;refine wpAny_handleBy_cons (codeAny_handlers_test ?_) (by intro q;cases q);refine named hc (LM.here ?_);cases b with
    |false=>exact ih (no rfl)
    |true=>
     refine codeAny_handlers_suite_as ?_;refine HandSPX.lands_againZ fl3 ?_;intro h4 fl4 up4;have J4:Inv X pins τ G { t with heap:=h4 }:=J.landed nb fl4.1 ((up.trans up3).trans up4) os ag;obtain⟨oe4,vs4,he4,hz4,hd4⟩:=fl4.there;have S4:=J4.suite he4 hd4 na nL nF;refine store_ok (X:=X.suite a ((a,oe4)::(X.pn++pins))) (v:=.ref a) S4 hN hi (.inl hl) rfl ?_ (.inr hl);intro s5 S5;refine wpAny_mono ((hsu a oe4 cls d (X.pn++pins) hz4 ⟨_,hd4⟩).run [] s5 _ G _ S5 (yes rfl a na)) ?_ (λ_ _ z=>aht z);intro f s6 sp6;have bye:∀{τ6:L2.St} {G6:Hp} {Q:Shared->Prop},Inv (X.suite a ((a,oe4)::(X.pn++pins))) [] τ6 G6 s6->(∀s7,Inv X pins (τ6.set i none) G6 s7->Q s7)->
       wpAny (model X.prog X.w) X.A (do bindName X.env n .none;unbindBehindTheSuite X.env n cp) (λ_ s7=>Q s7) X.xe s6:=λS6 hq=>gone_ok (S6.unsuite ok) hN hi hl hq
     cases f with
     |ret u=>
      obtain⟨v6,τ6,G6,S6,r6,q6⟩:=sp6;exact bye S6 λs7 J7=>⟨_,_,_,J7,r6,q6⟩
     |next=>
      obtain⟨τ6,G6,S6,q6⟩:=sp6;exact bye S6 λs7 J7=>⟨_,_,J7,q6⟩
     |brk=>
      obtain⟨τ6,G6,S6,q6⟩:=sp6;exact bye S6 λs7 J7=>⟨_,_,J7,q6⟩
     |cont=>
      obtain⟨τ6,G6,S6,q6⟩:=sp6;exact bye S6 λs7 J7=>⟨_,_,J7,q6⟩
  exact all hh w) PassesOwn.looking).run [] s σ H D (I.toTry _) h
 refine wpAny_Try_except (wpAny_mono run ?_ (λ_ _ z=>z));intro f s1 sp1;cases f with
 |ret u=>
  obtain⟨v,τ,G,J2,r,q⟩:=sp1;exact⟨v,τ,G,J2.ofTry ok,r,q⟩
 |next=>
  obtain⟨τ,G,J2,q⟩:=sp1;exact wpAny_execs_nil ⟨τ,G,J2.ofTry ok,q⟩
 |brk=>
  obtain⟨τ,G,J2,q⟩:=sp1;exact⟨τ,G,J2.ofTry ok,q⟩
 |cont=>
  obtain⟨τ,G,J2,q⟩:=sp1;exact⟨τ,G,J2.ofTry ok,q⟩
end
inductive pU where
 |con (d:Dat)|fld (f:Str)|flds (fs:List Str)
def Gj(y:Str)(x:bK)(f:Str):Option Dat:=match x.cls==y with
 |true=>(x.fs.lookup f).bind λd=>match lf d with
  |true=>some d
  |false=>none
 |false=>none
def xM(y:Str)(x:bK):List Str->Option (List Dat)
 |[]=>some []
 |f::fs=>(Gj y x f).bind λd=>(xM y x fs).bind λds=>some (d::ds)
def Em(y:Str)(x:bK):pU->Option Dat
 |.con d=>some d
 |.fld f=>Gj y x f
 |.flds fs=>(xM y x fs).bind λds=>some (.tuple ds)
def pK(y:Str)(x:bK):List (Nat×pU)->Env->Option Env
 |[],ρ=>some ρ
 |(j,e)::r,ρ=>(Em y x e).bind λd=>pK y x r (ρ.set j (some (.dat d)))
structure Hd where
 y:Str
 tk:Str->Option Bool
 nm:Option Nat
 st:List (Nat×pU)
def Ac(ρ:Env):Option Nat->Env
 |none=>ρ
 |some i=>ρ.set i none
def KJ(ρ:Env):Option Nat->Bool
 |none=>true
 |some i=>decide (i<ρ.length)
def hdl:List Hd->bK->Env->Mo->dY
 |[],x,ρ,M=>.exc x ρ M
 |h::r,x,ρ,M=>match h.tk x.cls with
  |some true=>match KJ ρ h.nm with
   |true=>match pK h.y x h.st (Ac ρ h.nm) with
    |some Z2=>.next (Ac Z2 h.nm) M
    |none=>.bad
   |false=>.bad
  |some false=>hdl r x ρ M
  |none=>.bad
def rG(f:SF)(hs:List Hd):SF:=λM ρ=>match f M ρ with
 |.exc x Z' M'=>hdl hs x Z' M'
 |o=>o
structure JD(K:agw)(aj:aC)(σ:L2.St)(H:Hp)(g:Gh)(ρ:Env)(M:Mo)(x:bK)(a:Addr)(cls:Value)(d:Option Addr)(i:Option Nat):Prop where
 inv:SInv K aj σ H g ρ M
 xr:iU K aj g.fr H x cls d
 sl:∀j,i=some j->σ[j]?=some (some (.ref a))
section
variable(K:agw)(aj:aC)(a:Addr)(cls:Value)(d:Option Addr)(i:Option Nat)
def tU(f:bK->Option Dat):TE:=λσ H Q=>∃g ρ M x z,JD K aj σ H g ρ M x a cls d i/\f x=some z/\∀v H',Ex H H'->Rep K g H' v z->Q v H'
def O6(f:bK->Option (List Dat)):TA:=λσ H Q=>∃g ρ M x z,JD K aj σ H g ρ M x a cls d i/\f x=some z/\∀v H',Ex H H'->aq K g H' v z->Q v H'
def Jv(y:Str)(st:List (Nat×pU)):TS:=λD σ H=>∃g ρ M x Z2,JD K aj σ H g ρ M x a cls d i/\pK y x st ρ=some Z2/\(∀p∈st,i≠some p.1)/\∀σ' H',Ex H H'->SInv K aj σ' H' g Z2 M->D.nx σ' H'
end
section
variable{K:agw}{aj:aC}{a:Addr}{cls:Value}{d:Option Addr}{i:Option Nat}{σ:L2.St}{H H':Hp}{g:Gh}{ρ:Env}{M:Mo}{x:bK}
theorem eZ.ex{fs:List (Str×V)}{gs:List (Str×Dat)}(e:Ex H H')(k:Kd g H)(h:eZ K g H fs gs):eZ K g H' fs gs:=h.gr (Gr.ex (q:=true) e) k
theorem iU.ex{c:Value}{dd:Option Addr}(e:Ex H H')(k:Kd g H)(h:iU K aj g H x c dd):iU K aj g H' x c dd:=by obtain⟨C,h1,h2,h3⟩:=h;exact⟨C,h1,h2,h3.imp id λ⟨b,fs,e1,e2,e3⟩=>⟨b,fs,e1,e _ _ e2,e3.ex e k⟩⟩
theorem JD.ex(e:Ex H H')(h:JD K aj σ H g ρ M x a cls d i):JD K aj σ H' g ρ M x a cls d i:=⟨h.inv.ex e,h.xr.ex e h.inv.kd.fr,h.sl⟩
theorem eZ.get{f:Str}{z:Dat}{fs:List (Str×V)}{gs:List (Str×Dat)}(h:eZ K g H fs gs)(e:gs.lookup f=some z):∃v,fs.lookup f=some v/\Rep K g H v z:=by
 induction h with
 |nil=>cases e
 | @cons f' v d' _ _ r _ ih=>
  rw[agQ]at e;rw[agQ];cases hb:f==f' with
  |true=>
   rw[hb]at e;cases e;exact⟨v,rfl,r⟩
  |false=>
   rw[hb]at e;exact ih e
end
section
variable{X:Cx}{aj:aC}{a C:Addr}{oe:Obj}{cls:Value}{d:Option Addr}{pn:List (Addr×Obj)}{y n:Str}{pos p:Pos}{j:Nat}
theorem Q5{e:Expr}{z:Dat}{i:Option Nat}{t:TE}(h:PE (X.suite a ((a,oe)::pn)) e t)(ht:∀σ H Q,tU X.K aj a cls d i (λ_=>some z) σ H Q->t σ H Q):PE (X.suite a ((a,oe)::pn)) e (tU X.K aj a cls d i λ_=>some z):=PE.weak h ht
theorem Oo{f:Str}(hC:aj y=some C)(T:XfC X.K C)(hno:PySem.W.findIn X.K (.ref C) f=some none)(hz:Zc cls d oe)(hf:∃vs,oe.data=.fields vs)(hN:X.N[j]?=some n)(hv:Vis X.env.scope n)(hd:(n==("__debug__" : Str))=false)(hcd:(n==("__classdict__" : Str))=false) :
  PE (X.suite a ((a,oe)::pn)) (.Attribute (.Name n p) f pos) (tU X.K aj a cls d (some j) λx=>Gj y x f):=by
 refine PE.weak (pe_xf T hno hz hf (pe_var (i:=j) (X:=X.suite a ((a,oe)::pn)) hN hv hd hcd)) λσ H Q ⟨g,ρ,M,x,z,I,e,k⟩=>?_;have e:Gj y x f=some z:=e;unfold Gj at e;split at e
 .next ey=>
  obtain⟨z',l,e⟩:=agv.mp e;split at e
  .next hl=>
   cases e;obtain⟨C',c1,c2,c3⟩:=I.xr;rw[ahB ey,hC]at c1;cases c1;rcases c3 with⟨c3,_⟩|⟨b,fs,c3,c4,c5⟩
   .rw[c3]at l;cases l
   .obtain⟨v,l1,l2⟩:=c5.get l;exact⟨.ref a,I.sl j rfl,rfl,c2,b,fs,v,c3,c4,l1,k v H (Ex.refl H) (Rep.free (g:=g.fr) (g':=g) rfl hl l2)⟩
  .cases e
 .cases e
theorem Ra{i:Option Nat}:PA (X.suite a ((a,oe)::pn)) [] (O6 X.K aj a cls d i λ_=>some []):=PA.weak pa_nil λσ H Q ⟨g,ρ,M,x,z,I,e,k⟩=>by
 cases e;exact k [] H (Ex.refl H) .nil
theorem VL{e:Expr}{es:List Expr}{i:Option Nat}{f:bK->Option Dat}{fr:bK->Option (List Dat)}(h:PE (X.suite a ((a,oe)::pn)) e (tU X.K aj a cls d i f))(hr:PA (X.suite a ((a,oe)::pn)) es (O6 X.K aj a cls d i fr))(hs:nst e=true) :
  PA (X.suite a ((a,oe)::pn)) (e::es) (O6 X.K aj a cls d i λx=>(f x).bind λz=>(fr x).bind λzs=>some (z::zs)):=by
 refine PA.weak (pa_cons h hr (aH hs es)) λσ H Q ⟨g,ρ,M,x,z,I,e,k⟩=>?_;obtain⟨z1,e1,e⟩:=agv.mp e;obtain⟨z2,e2,e⟩:=agv.mp e;cases e;exact⟨g,ρ,M,x,z1,I,e1,λv H1 x1 r1=>⟨g,ρ,M,x,z2,I.ex x1,e2,λvs H2 x2 r2=>k (v::vs) H2 (x1.trans x2) (.cons (r1.ex x2 (I.ex x1).inv.kd) r2)⟩⟩
theorem Oq{es:List Expr}{kk:Nat}{i:Option Nat}{fr:bK->Option (List Dat)}(hr:PA (X.suite a ((a,oe)::pn)) es (O6 X.K aj a cls d i fr))(hn:∀x zs,fr x=some zs->zs.length<=100000):PE (X.suite a ((a,oe)::pn)) (.Tuple es kk pos) (tU X.K aj a cls d i λx=>(fr x).bind λzs=>some (.tuple zs)):=by refine PE.weak (pe_tup hr) λσ H Q ⟨g,ρ,M,x,z,I,e,k⟩=>?_;obtain⟨zs,e1,e⟩:=agv.mp e;cases e;refine⟨g,ρ,M,x,zs,I,e1,λvs H1 x1 r1=>⟨sz_of (by rw[r1.length];exact hn x zs e1),λp np=>?_⟩⟩;exact k (.ref p) _ (x1.trans (Ex.new np)) (.tup (st_of ahA) (r1.ex (Ex.new np) (I.ex x1).inv.kd))
theorem BW{x:bK}:∀{fs:List Str} {zs:List Dat},xM y x fs=some zs->zs.length=fs.length
 |[],zs,h=>by cases h;rfl
 |f::fs,zs,h=>by
  rw[xM]at h;obtain⟨z1,e1,h⟩:=agv.mp h;obtain⟨z2,e2,h⟩:=agv.mp h;cases h;simp[BW e2]
theorem ZC{i:Option Nat}{se:pU}{st:List (Nat×pU)}{D D':Ends}{σ:L2.St}{H:Hp}(h:Jv X.K aj a cls d i y ((j,se)::st) D σ H)(nx:∀σ' H',Jv X.K aj a cls d i y st D σ' H'->D'.nx σ' H') :
  tAsg (tU X.K aj a cls d i λx=>Em y x se) (gName j) D' σ H:=by
 obtain⟨g,ρ,M,x,Z2,I,e,nj,k⟩:=h;rw[pK]at e;obtain⟨z,e1,e⟩:=agv.mp e;refine⟨g,ρ,M,x,z,I,e1,λv H' x1 r1=>nx _ _ ⟨g,ρ.set j (some (.dat z)),M,x,Z2,⟨(I.ex x1).inv.set r1,(I.ex x1).xr,λjj hj=>?_⟩,e,λp hp=>nj p (agz _ hp),λσ' H2 x2 I2=>k σ' H2 (x1.trans x2) I2⟩⟩;have ne:j≠jj:=λz=>nj (j,se) agA (by rw[hj,z]);rw[agF ne];exact I.sl jj hj
theorem ZP{i:Option Nat}{D:Ends}{σ:L2.St}{H:Hp}(h:Jv X.K aj a cls d i y [] D σ H):D.nx σ H:=by obtain⟨g,ρ,M,x,Z2,I,e,nj,k⟩:=h;cases e;exact k σ H (Ex.refl H) I.inv
end
def adh(K:agw)(aj:aC)(h:Hd)(l:Cl):Prop:=(∃D,aj h.y=some D/\l.c=.ref D)/\Lf K aj h.y h.tk/\l.nm=h.nm/\(l.ts=λa cls d=>Jv K aj a cls d h.nm h.y h.st)/\∀p∈h.st,h.nm≠some p.1
inductive qG(K:agw)(aj:aC):List Hd->List Cl->Prop
 |nil:qG K aj [] []
 |cons {h:Hd} {l:Cl} {hs:List Hd} {ls:List Cl} (o:adh K aj h l) (r:qG K aj hs ls):qG K aj (h::hs) (l::ls)
theorem SInv.off{K:agw}{aj:aC}{σ:L2.St}{H:Hp}{g:Gh}{ρ:Env}{M:Mo}(I:SInv K aj σ H g ρ M)(i:Nat)(v:Option V):SInv K aj (σ.set i v) H g (ρ.set i none) M:=by
 have I2:=I.forget (j:=i);refine⟨I2.kd,I2.wok,by rw[agR,agR];exact I.len,λj d h=>?_,λj xs h=>?_,λj k xs ys l ne h1 h2 h3=>?_⟩
 .by_cases e:j=i
  .subst e;rw[List.getElem?_set]at h;split at h<;>first | (split at h<;>cases h) | (exact absurd rfl ‹¬_›)
  .obtain⟨v',a1,a2⟩:=I2.dat j d h;rw[agF (Ne.symm e)]at a1;exact⟨v',by rw[agF (Ne.symm e)];exact a1,a2⟩
 .by_cases e:j=i
  .subst e;rw[List.getElem?_set]at h;split at h<;>first | (split at h<;>cases h) | (exact absurd rfl ‹¬_›)
  .obtain⟨l,us,a1,a2⟩:=I2.own j xs h;rw[agF (Ne.symm e)]at a1;exact⟨l,us,by rw[agF (Ne.symm e)];exact a1,a2⟩
 .have n1:j≠i:=λz=>by
   subst z;rw[List.getElem?_set]at h1;split at h1<;>first | (split at h1<;>cases h1) | (exact absurd rfl ‹¬_›)
  have n2:k≠i:=λz=>by
   subst z;rw[List.getElem?_set]at h2;split at h2<;>first | (split at h2<;>cases h2) | (exact absurd rfl ‹¬_›)
  rw[agF (Ne.symm n1)]at h1 h3;rw[agF (Ne.symm n2)]at h2 |-
  exact I.sep j k xs ys l ne h1 h2 h3
section
variable{X:Cx}{aj:aC}{W:WX}{q:Bool}{body:List Stmt}{h0:ExceptHandler}{hds:List ExceptHandler}{hs:List Hd}{ls:List Cl}{pos:Pos}{f:SF}
theorem ZG{D:Ends}{g g':Gh}{H H':Hp}{σ':L2.St}{Z':Env}{M':Mo}{x:bK}{c:Value}{dd:Option Addr}(ha:qG X.K aj hs ls)(r:Gr q g g' H H')(I:SInv X.K aj σ' H' g' Z' M')(xr:iU X.K aj g'.fr H' x c dd)
  (z:(hdl hs x Z' M').sat (sN X.K aj q D.nx g H) (sR X.K aj q D.rt g H) (sN X.K aj q D.bk g H) (sN X.K aj q D.ct g H) (sX X.K aj W q g H)):Ih X.K W D ls c dd σ' H':=by
 induction ha with
 |nil=>exact z σ' H' g' c dd r I xr
 | @cons h l hs ls o _ ih=>
  obtain⟨⟨D0,o1,o2⟩,o3,o4,o5,o6⟩:=o;rw[hdl]at z;obtain⟨C,c1,c2,c3⟩:=id xr;split at z
  .next ht=>
   refine⟨true,by rw[c2,o2];exact o3 _ _ _ ht c1 _ o1,λ_ a na=>?_,λy=>nomatch y⟩;rw[o4,o5];split at z
   .next hm=>
    split at z
    .next Z2 hr=>
     cases hnm:h.nm with
     |none=>
      rw[hnm]at hr z o6;exact⟨g',Z',M',x,Z2,⟨I,xr,λj hj=>nomatch hj⟩,hr,o6,λσ2 H2 e2 I2=>z σ2 H2 g' (r.trans (Gr.ex e2)) I2⟩
     |some i=>
      rw[hnm]at hr z o6 hm;refine⟨g',Z'.set i none,M',x,Z2,⟨I.off i _,xr,λj hj=>?_⟩,hr,o6,λσ2 H2 e2 I2=>z _ H2 g' (r.trans (Gr.ex e2)) (I2.off i none)⟩;cases hj;have hl:i<Z'.length:=ahv hm;rw[agN (by rw[I.len];exact hl)]
    .exact aht z
   .exact aht z
  .next ht=>exact⟨false,by rw[c2,o2];exact o3 _ _ _ ht c1 _ o1,(λy=>nomatch y),λ_=>ih z⟩
  .exact aht z
theorem aan(st:X.stack=X.env::X.outer)(hf:X.env.frame=some X.env.locals)(hN:X.N.Nodup)(tk:Takes X W)
  (hb:∀(W':WX) (pn:List (Addr×Obj)) (xe:Value->Shared->Prop),Takes (X.tr pn xe) W'->PassesOwn (model X.prog X.w) X.A X.env xe->sV aj (X.tr pn xe) W' q body f)
  (hh:oA X (h0::hds) ls) (ha:qG X.K aj hs ls):SE aj X W q (.Try body (h0::hds) [] [] pos) (rG f hs):=by
 refine PS.weak (Xo (tb:=λW'=>tS X.K aj W' q f) st hf hN tk (λW' pn xe t p=>hb W' pn xe t p) hh) λD σ H ⟨g,ρ,M,I,z⟩=>?_;refine⟨g,ρ,M,I,?_⟩;unfold rG at z;cases hfm:f M ρ with
 |next Z' M'=>rw[hfm]at z;exact z
 |ret d M'=>rw[hfm]at z;exact z
 |brk Z' M'=>rw[hfm]at z;exact z
 |cont Z' M'=>rw[hfm]at z;exact z
 |bad=>rw[hfm]at z;exact z
 |exc x Z' M'=>
  rw[hfm]at z;exact λσ' H' g' c dd r I' xr=>ZG ha r I' xr z
end
section
variable{K:agw}{aj:aC}{W:WX}{g g':Gh}{H H':Hp}{σ:L2.St}{ρ:Env}{M:Mo}
theorem dR.grow{l:Addr}(r:Gr false g g' H H')(e:Ex H H')(k:Kd g H):∀{n:Bool} {kvs:List (Dat×Dat)},dR K aj g H l n kvs->dR K aj g' H' l n kvs
 |false,_,⟨kv,h1,h2,h3⟩=>⟨kv,e _ _ h1,h2,h3.gr r k⟩
 |true,_,⟨o,xs,vs,h1,h2,h3,h4,h5,h6⟩=>⟨o,xs,vs,e _ _ h1,h2,h3,h4.gr r k,h5,h6.gr r k⟩
theorem bA.grow{h:Nat}{f:Str}{v:V}(r:Gr false g g' H H')(e:Ex H H')(o:g'.ow=g.ow)(k:Kd g H):∀{fl:dB},bA K aj g H h f v fl->bA K aj g' H' h f v fl
 |.dat _,z=>Rep.gr r k z
 |.lst _ _,⟨l,us,h1,h2,h3,h4,h5⟩=>⟨l,us,h1,e _ _ h2,by rw[o];exact h3,h4.gr r k,r.tb h5⟩
 |.dic _ _,⟨l,h1,h2,h3⟩=>⟨l,h1,by rw[o];exact h2,h3.grow r e k⟩
theorem aW.grow{h:Nat}(r:Gr false g g' H H')(e:Ex H H')(o:g'.ow=g.ow)(k:Kd g H){fs:List (Str×V)}{gs:List (Str×dB)}(t:aW K aj g H h fs gs):aW K aj g' H' h fs gs:=by
 induction t with
 |nil=>exact .nil
 |cons z _ ih=>exact .cons (z.grow r e o k) ih
def Gh.push(g:Gh)(x:Addr):Gh:={ g with tbl:=g.tbl++[x] }
theorem Et{x a:Addr}(z:(g.push x).A a):g.A a\/a=x:=by
 rcases z with(z|z)|z|z
 .rcases ag5.mp z with z|z
  .exact .inl (.inl (.inl z))
  .exact .inr (agJ.mp z)
 .exact .inl (.inl (.inr z))
 .exact .inl (.inr (.inl z))
 .exact .inl (.inr (.inr z))
theorem Fp{x a:Addr}(z:(g.push x).W a):g.W a\/a=x:=by
 rcases z with z|z
 .rcases ag5.mp z with z|z
  .exact .inl (.inl z)
  .exact .inr (agJ.mp z)
 .exact .inl (.inr z)
theorem Ba{x:Addr}(e:Ex H H')(nx:H x=none):Gr false g (g.push x) H H' where
 keep:=λa o h _ _=>e a o h
 keepW:=λz=>nomatch z
 dom:=jM e
 tbl:=⟨[x],rfl⟩
 W:=λa z=>z.elim (λz=>.inl (List.mem_append_left _ z)) .inr
 nW:=λa z=>(Fp z).imp id λz=>by rw[z];exact nx
 qg:=λz=>nomatch z
 Lc:=rfl
 Lo:=λ_ z=>z
 nLo:=λ_ z=>.inl z
 kl:=rfl
theorem Jl{x:Addr}{o:HO}(k:Kd g H)(e:Ex H H')(nx:H x=none)(hx:H' x=some o)(m:sO o):Kd (g.push x) H' where
 ob:=λa z=>by
  rcases Et z with z|rfl
  .obtain⟨u,h1,h2⟩:=k.ob a z;exact⟨u,e _ _ h1,h2⟩
  .exact⟨o,hx,m⟩
 lo:=λa z y=>by
  rcases Fp y with y|rfl
  .exact k.lo a z y
  .obtain⟨u,h1,_⟩:=k.ob a (.inr (.inr z));rw[nx]at h1;cases h1
 lc:=λa z=>by
  refine⟨λy=>?_,(k.lc a z).2⟩;rcases Fp y with y|rfl
  .exact(k.lc a z).1 y
  .obtain⟨u,h1,_⟩:=k.ob a (.inr (.inl z));rw[nx]at h1;cases h1
theorem FJ{x:Addr}{c:Str}(k:Kd g H)(w:cM K aj g H M)(e:Ex H H')(nx:H x=none)(hx:c=""\/∃C dx,aj c=some C/\H' x=some (.ins C dx [])):cM K aj (g.push x) H' (M++[⟨c,[]⟩]):=by
 have gt:∀{h:Nat} {a:Addr},(g.push x).tbl[h]?=some a->(g.tbl[h]?=some a)\/(h=M.length/\a=x):=λ{h a} z=>by
  have z:(g.tbl++[x])[h]?=some a:=z;by_cases hl:h<g.tbl.length
  .rw[agM hl]at z;exact .inl z
  .rw[agP (by omega)]at z;have:=(agE.mp z).1;simp at this;have e0:h-g.tbl.length=0:=by omega
   rw[e0]at z;cases z;exact .inr ⟨by rw[<-w.len];omega,rfl⟩
 have nin:∀{h:Nat},¬g.tbl[h]?=some x:=λ{h} z=>by
  obtain⟨u,h1,_⟩:=k.ob x (.inl (.inl (agT z)));rw[nx]at h1;cases h1
 have ex:∀{h:Nat} {i:Inst},(M++[(⟨c,[]⟩:Inst)])[h]?=some i->M[h]?=some i\/i=⟨c,[]⟩:=λ{h i} h1=>by
  by_cases hl:h<M.length
  .rw[agM hl]at h1;exact .inl h1
  .rw[agP (by omega)]at h1;exact .inr (agJ.mp (agT h1))
 refine⟨by show(g.tbl++[x]).length=_;simp[w.len],λh j a h1 h2=>?_,λh a i h1 h2 hcn=>?_,λh i h1=>?_,λh i h1=>?_,λh a i h1 h2 hcn=>?_,λh i h1 hcn=>?_,w.nc⟩
 .rcases gt h1 with z1|⟨z1,rfl⟩
  .rcases gt h2 with z2|⟨z2,rfl⟩
   .exact w.inj h j a z1 z2
   .exact absurd z1 nin
  .rcases gt h2 with z2|⟨z2,_⟩
   .exact absurd z2 nin
   .omega
 .rcases gt h1 with z1|⟨rfl,rfl⟩
  .have hl:h<M.length:=by rw[<-w.len];exact(agE.mp z1).1
   rw[agM hl]at h2;obtain⟨C',dx',fs,c1,c2,c3⟩:=w.ins h a i z1 h2 hcn;exact⟨C',dx',fs,c1,e _ _ c2,c3.grow (Ba e nx) e rfl k⟩
  .rw[agP (agL _),Nat.sub_self]at h2;cases h2;rcases hx with rfl|⟨C,dx,hc,hx⟩
   .exact absurd rfl hcn
   .exact⟨C,dx,[],hc,hx,.nil⟩
 .rcases ex h1 with h1|rfl
  .exact w.nd h i h1
  .exact List.nodup_nil
 .rcases ex h1 with h1|rfl
  .exact w.fd h i h1
  .exact λf hf=>absurd hf agY
 .rcases gt h1 with z1|⟨_,rfl⟩
  .have hl:h<M.length:=by rw[<-w.len];exact(agE.mp z1).1
   rw[agM hl]at h2;exact w.tw h a i z1 h2 hcn
  .cases hz:g.ow a with
   |none=>exact hz
   |some p=>
    obtain⟨u,h2,_⟩:=k.ob a (.inl (.inr (by rw[hz];exact λy=>nomatch y)));rw[nx]at h2;cases h2
 .rcases ex h1 with h1|rfl
  .exact w.dm h i h1 hcn
  .rfl
theorem SInv.grow{M':Mo}(r:Gr false g g' H H')(e:Ex H H')(lo:g'.Lo=g.Lo)(k':Kd g' H')(w':cM K aj g' H' M')(I:SInv K aj σ H g ρ M):SInv K aj σ H' g' ρ M' where
 kd:=k'
 wok:=w'
 len:=I.len
 dat:=λi d h=>by
  obtain⟨v,h1,h2⟩:=I.dat i d h;exact⟨v,h1,h2.gr r I.kd⟩
 own:=λi xs h=>by
  obtain⟨l,us,h1,h2,h3,h4⟩:=I.own i xs h;exact⟨l,us,h1,e _ _ h2,by rw[lo];exact h3,h4.gr r I.kd⟩
 sep:=I.sep
end
theorem Mv{P:Program}{w:World}{K:agw}{mg:Str->Option Value}{base:Heap}{k:Nat}{f:Addr}{fd:FuncData}{ps:List Str}{sp:Sp}(F:FnOk P w K mg base (L2.CX P w) k f fd ps sp):FnOk P w K mg base L2.CX0 k f fd ps λvs H Q _=>sp vs H Q λ_ _ _=>False:=
 ⟨λvs H Q E h=>F.len vs H Q _ h,λA outer s H args us vs Q E hr he hb hv h=>codeAny_mono (F.run A outer s H args us vs Q _ hr he hb hv h) λr s' z=>by
  unfold CR at z |-
  split at z
  .exact z
  .exact z
  .obtain⟨a,B,H',cls,d,_,_,_,_,_,_,_,y⟩:=z;exact aht y⟩
def wB(x:Str)(m:Mo->List Dat->aR Dat)(as:QA):GF:=λM ρ=>((as M ρ).at M).bind λds _=>match m (M++[⟨x,[]⟩]) (obj M.length::ds) with
 |.ok .none M'=>.ok (obj M.length) M'
 |_=>.bad
section
variable{X:Cx}{aj:aC}{W:WX}{x:Str}{pos p:Pos}{k n:Nat}{m:Mo->List Dat->aR Dat}{as:QA}{t:TA}{e:Expr}{es:List Expr}
theorem Nv{C f:Addr}{fd:FuncData}{ps:List Str}(hc:aj x=some C)(hp:ps.length=n+1)(hn:∀M ρ ds,as M ρ=.ok ds->ds.length=n)(ht:∀σ H Q,vX X.K aj W as σ H Q->t σ H Q)(σ:L2.St)(H:Hp)(Q:VK)(h:tE X.K aj W false (wB x m as) σ H Q) :
  tMake C (λvs H Q _=>Vj X.K aj ps.length m vs H Q λ_ _ _=>False) [] (λ_ _ _=>False) t σ H Q:=by
 obtain⟨g,ρ,M,I,h⟩:=h;unfold wB at h;have h:=h.bnd;refine ht σ H _ ⟨g,ρ,M,I,?_⟩;cases has:as M ρ with
 |exc x=>rw[has]at h;exact λH' c dd e r=>h H' g c dd (Gr.ex e) (I.ex e) r
 |bad=>rw[has]at h;exact aht h
 |ok ds=>
  rw[has]at h;intro vs H1 e1 r1 y dx ny ndx ne;have I1:=I.ex e1;have e2:Ex H1 (upd (upd H1 dx (.own y)) y (.ins C dx [])):=by refine(Ex.new ndx).trans (Ex.new ?_);rw[upd_ne ne.symm];exact ny
  have hy:upd (upd H1 dx (.own y)) y (.ins C dx []) y=some (.ins C dx []):=ahA;have gr:=Ba (g:=g) e2 ny;have kd:=Jl I1.kd e2 ny hy ahs;have wk:=FJ (c:=x) I1.kd I1.wok e2 ny (.inr ⟨C,dx,hc,hy⟩);have I2:=I1.grow gr e2 rfl kd wk;have hb:(g.push y).tbl[M.length]?=some y:=by
   show(g.tbl++[y])[M.length]?=_
   rw[<-I1.wok.len,agP (agL _),Nat.sub_self];rfl
  refine⟨by rw[ag1,agC,r1.length,hn M ρ ds has,hp],g.push y,M++[⟨x,[]⟩],obj M.length::ds,kd,wk,.cons (.obj hb) (by rw[ag1];exact r1.gr gr I1.kd),?_⟩;have h:aR.sat (match m (M++[(⟨x,[]⟩:Inst)]) (obj M.length::ds) with
   |.ok .none M'=>aR.ok (obj M.length) M'
   |_=>.bad) (λd M'=>∀v H' g',Gr false g g' H H'->SInv X.K aj σ H' g' ρ M'->Rep X.K g' H' v d->Q v H') (gE X.K aj W false g H σ ρ):=h
  cases hm:m (M++[⟨x,[]⟩]) (obj M.length::ds) with
  |bad=>rw[hm]at h;exact aht h
  |exc z M'=>rw[hm]at h;exact aht h
  |ok d M'=>
   rw[hm]at h;cases d with
   |none=>exact λv H' g' c k' w' r'=>⟨by cases r';rfl,h (.ref y) H' g' (((Gr.ex e1).trans gr).trans c.gr) (I2.call c k' w') (.obj (c.gr.tb hb))⟩
   |_=>exact aht h
theorem aai(hr:Room k X.A)(g:aU X.prog X.w X.K X.mg X.base aj k x (.cls n m))(hg:Gl X x)(hd:(x==("__debug__" : Str))=false)(ha:qu aj X W (e::es) as)(hs:(e::es).all nst=true)(hn:∀M ρ ds,as M ρ=.ok ds->ds.length=n) :
  GE aj X W false (.Call (.Name x p) (e::es) [] pos) (wB x m as):=by
 obtain⟨C,f,fd,ps,j,g1,g2,_,g3,hj,hp,hB,F⟩:=g;have hs':=hs;rw[ag7,agx]at hs';exact PE.weak (pe_make (E:=λ_ _ _=>False) g3 (Mv F) (hr.mono hj) hg g1 hB .nil pass0 ha hd (aH hs'.1 es) (star_any es hs'.2)) λσ H Q h=>Nv (f:=f) (fd:=fd) g2 hp hn (λ_ _ _ z=>z) σ H Q h
theorem Xf(hr:Room k X.A)(g:aU X.prog X.w X.K X.mg X.base aj k x (.cls 0 m))(hg:Gl X x)(hd:(x==("__debug__" : Str))=false):GE aj X W false (.Call (.Name x p) [] [] pos) (wB x m aG):=by obtain⟨C,f,fd,ps,j,g1,g2,_,g3,hj,hp,hB,F⟩:=g;exact PE.weak (pe_make0 (E:=λ_ _ _=>False) g3 (Mv F) (hr.mono hj) hg g1 hB .nil pass0 hd) λσ H Q h=>Nv (f:=f) (fd:=fd) (as:=aG) g2 hp (λM ρ ds z=>by cases z;rfl) (λσ H Q ⟨g,ρ,M,I,z⟩=>z [] H (Ex.refl H) .nil) σ H Q h
end
def MJ(m:Mo->List Dat->aR Dat)(as:QA):GF:=λM ρ=>((as M ρ).at M).bind λds _=>m M ds
section
variable{X:Cx}{aj:aC}{W:WX}{e:Expr}{es:List Expr}{pos p:Pos}{x:Str}{k:Nat}{f:Addr}{fd:FuncData}{ps:List Str}
theorem Xg{m:Mo->List Dat->aR Dat}{as:QA}(tk:Takes X W)(F:FnOk X.prog X.w X.K X.mg X.base (L2.CX X.prog X.w) k f fd ps (Vj X.K aj ps.length m))(hr:Room k X.A)(hg:Gl X x)(hm:X.mg x=some (.ref f))(hk:PySem.W.keepIn X.K (.ref f)=true)(hb:Binds X.K fd ps [])
  (ha:qu aj X W (e::es) as) (hl:(e::es).length=ps.length) (hd:(x==("__debug__" : Str))=false) (hs:(e::es).all nst=true) (hn:∀M ρ ds,as M ρ=.ok ds->ds.length=(e::es).length):GE aj X W false (.Call (.Name x p) (e::es) [] pos) (MJ m as):=by
 have hs':=hs;rw[ag7,agx]at hs';refine PE.weak (pe_callS (E:=λσ=>WE W σ) F hr hg hm hk hb (λσ=>passAt tk σ) ha hd (aH hs'.1 es) (star_any es hs'.2)) λσ H Q ⟨g,ρ,M,I,h⟩=>?_;refine⟨g,ρ,M,I,?_⟩;have h:=h.bnd;cases has:as M ρ with
 |exc x=>rw[has]at h;exact λH' c dd e r=>h H' g c dd (Gr.ex e) (I.ex e) r
 |bad=>rw[has]at h;exact aht h
 |ok ds=>
  rw[has]at h;have h:(m M ds).sat (λd M'=>∀v H' g',Gr false g g' H H'->SInv X.K aj σ H' g' ρ M'->Rep X.K g' H' v d->Q v H') (gE X.K aj W false g H σ ρ):=h;intro vs H1 e1 r1;exact⟨by rw[r1.length,hn M ρ ds has];exact hl,g,M,ds,I.kd.ex e1,I.wok.ex e1 I.kd,r1,h.mono (λd M' kk v H' g' c k' w' r'=>kk v H' g' ((Gr.ex e1).trans c.gr) ((I.ex e1).call c k' w') r') λx M' kk H' g' cc dd c k' w' r'=>kk H' g' cc dd ((Gr.ex e1).trans c.gr) ((I.ex e1).call c k' w') r'⟩
end
def Ft.has(ft:Ft)(c f:Str):Bool:=match ft.lookup c with
 |some fs=>fs.contains f
 |none=>false
def uQ(ft:Ft)(aj:aC):Prop:=∀c f,ft.has c f=true->f∈aj.fl c
def unH:Dat->Option Nat
 |.dict [(.none,.int (.ofNat h))]=>some h
 |_=>none
theorem Uq{d:Dat}{h:Nat}(e:unH d=some h):d=obj h:=by
 unfold unH at e;split at e
 .cases e;rfl
 .cases e
def eV(M:Mo)(d:Dat):Option (Nat×Inst):=(unH d).bind λh=>(M[h]?).bind λi=>match i.cls=="" with
 |true=>none
 |false=>some (h,i)
theorem sE{M:Mo}{d:Dat}{h:Nat}{i:Inst}(e:eV M d=some (h,i)):d=obj h/\M[h]?=some i/\i.cls≠"":=by
 unfold eV at e;obtain⟨h',e1,e⟩:=agv.mp e;obtain⟨i',e2,e⟩:=agv.mp e;split at e
 .cases e
 .next hc=>
  cases e;exact⟨Uq e1,e2,λz=>by rw[z]at hc;cases hc⟩
def LC(ft:Ft)(o:QF)(f:Str)(e:GF):SF:=λM ρ=>(e M ρ).then ρ λd M1=>((o M1 ρ).at M1).then ρ λod M2=>match eV M2 od with
 |some (h,i)=>match ft.has i.cls f&&decide (i.fs.length<100) with
  |true=>.next ρ (M2.set h (i.put f (.dat d)))
  |false=>.bad
 |none=>.bad
theorem SInv.chg{K:agw}{aj:aC}{σ:L2.St}{H H':Hp}{g g':Gh}{ρ:Env}{M M':Mo}{h:Nat}{f:Str}(I:SInv K aj σ H g ρ M)(c:JK M g g' H H' h f)(w:cM K aj g' H' M'):SInv K aj σ H' g' ρ M':=I.call c.gc c.kd w
section
variable{X:Cx}{aj:aC}{W:WX}{o e:Expr}{f:Str}{pos pos':Pos}{ft:Ft}{fo:QF}
theorem qT{K:agw}{g:Gh}{H:Hp}{M:Mo}{d:Dat}{v:V}{h:Nat}{i:Inst}(co:dJ K aj)(fk:uQ ft aj)(w:cM K aj g H M)(r:bf K g H v d)(hi:eV M d=some (h,i))(hf:ft.has i.cls f=true):∃a C dx fs,d=obj h/\M[h]?=some i/\i.cls≠""/\g.tbl[h]?=some a/\v=.ref a/\aj i.cls=some C/\H a=some (.ins C dx fs)/\aW K aj g H h fs i.fs/\Cls K C/\NoAttr K C f/\f∈aj.fl i.cls:=by obtain⟨rfl,h1,h2⟩:=sE hi;obtain⟨a,rfl,ha⟩:=tH r;obtain⟨C,dx,fs,c1,c2,c3⟩:=w.ins h a i ha h1 h2;have hfl:=fk _ _ hf;obtain⟨k1,k2⟩:=co i.cls C f c1 hfl;exact⟨a,C,dx,fs,rfl,h1,h2,ha,rfl,c1,c2,c3,k1,k2,hfl⟩
theorem X3{fe:GF}(co:dJ X.K aj)(fk:uQ ft aj)(ho:QW aj X W o fo)(he:GE aj X W false e fe)(hs:swapsWith e (some (.Attribute o f pos')) pos.line X.env=pure false):SE aj X W false (.Assign [.Attribute o f pos'] e pos) (LC ft fo f fe):=by
 refine PS.weak (ps_fld ho he hs) λD σ H ⟨g,ρ,M,I,z⟩=>?_;refine tE.go I (aZ (σ:=σ) z) λd M1 v H1 g1 k1 r1 I1 rv=>?_;refine tW.go I1 (k:=λod=>((match eV M1 od with
  |some (h,i)=>match ft.has i.cls f&&decide (i.fs.length<100) with
   |true=>dY.next ρ (M1.set h (i.put f (.dat d)))
   |false=>.bad
  |none=>.bad).sat (sN X.K aj false D.nx g H) (sR X.K aj false D.rt g H) (sN X.K aj false D.bk g H) (sN X.K aj false D.ct g H) (sX X.K aj W false g H))) ?_ λod u H2 k2 e2 ru=>?_
 .have k1:=Out.dD (aZ (σ:=σ) k1);exact k1.mono (λ_ y=>y) λx y H' c dd ex rx=>y H' g1 c dd (r1.trans (Gr.ex ex)) (I1.ex ex) rx
 .have I2:=I1.ex e2;split at k2
  .next h i hi=>
   split at k2
   .next hb=>
    rw[agx]at hb;obtain⟨a,C,dx,fs,_,m1,m2,ha,rfl,c1,c2,c3,c4,c5,c6⟩:=qT co fk I2.wok ru hi hb.1;refine⟨a,C,dx,fs,rfl,c2,c4,c5,?_,?_⟩
    .have:=ahv hb.2;rw[c3.len];omega
    .have ch:=zB (f:=f) (C:=C) (dx:=dx) (fs':=putF f v fs) I2.kd I2.wok ha m1 m2;have w':=I2.wok.chg I2.kd ch ha m1 m2 c6 c1 c3 ahA (fl:=.dat d) (show Rep X.K g1 _ v d from(rv.ex e2 I1.kd).gr ch.gc.gr I2.kd);exact k2 σ _ g1 ((r1.trans (Gr.ex e2)).trans ch.gc.gr) (I2.chg ch w')
   .exact aht k2
  .exact aht k2
end
mutual
theorem Rep.mv{K:agw}{g g':Gh}{H:Hp}(hk:g'.kl=g.kl)(tb:∀(h:Nat) (a:Addr),g.tbl[h]?=some a->g'.tbl[h]?=some a)(n:∀a,g'.A a->g.A a):∀{v:V} {d:Dat},Rep K g H v d->Rep K g' H v d
 |_,_,.non=>.non
 |_,_,.bl b=>.bl b
 |_,_,.int i=>.int i
 |_,_,.str x=>.str x
 |_,_,.tup h t=>.tup h (aq.mv hk tb n t)
 |_,_,.lst h t=>.lst (h.elim (λz=>.inl ⟨z.1,λy=>z.2 (n _ y)⟩) λz=>.inr ⟨by rw[hk];exact z.1,z.2.elim (λz=>.inl ⟨z.1,λy=>z.2 (n _ y)⟩) .inr⟩) (aq.mv hk tb n t)
 |_,_,.obj h=>.obj (tb _ _ h)
theorem aq.mv{K:agw}{g g':Gh}{H:Hp}(hk:g'.kl=g.kl)(tb:∀(h:Nat) (a:Addr),g.tbl[h]?=some a->g'.tbl[h]?=some a)(n:∀a,g'.A a->g.A a):∀{vs:List V} {ds:List Dat},aq K g H vs ds->aq K g' H vs ds
 |_,_,.nil=>.nil
 |_,_,.cons h t=>.cons (Rep.mv hk tb n h) (aq.mv hk tb n t)
end
def CT(ft:Ft)(o:QF)(f:Str)(e:IF):SF:=λM ρ=>((e M ρ).at M).then ρ λxs M0=>((o (M0++[⟨"",[]⟩]) ρ).at (M0++[⟨"",[]⟩])).then ρ λod M2=>match eV M2 od with
 |some (h,i)=>match ft.has i.cls f&&decide (i.fs.length<100) with
  |true=>.next ρ (M2.set h (i.put f (.lst M0.length xs)))
  |false=>.bad
 |none=>.bad
theorem uK{K:agw}{aj:aC}{σ:L2.St}{H H':Hp}{g:Gh}{ρ:Env}{M:Mo}{l:Addr}{o:HO}(I:SInv K aj σ H g ρ M)(nl:H l=none)(e:Ex H H')(hl:H' l=some o)(m:sO o):Gr false g (g.push l) H H'/\SInv K aj σ H' (g.push l) ρ (M++[⟨"",[]⟩])/\(g.push l).tbl[M.length]?=some l/\(g.push l).ow l=none/\(M++[(⟨"",[]⟩:Inst)])[M.length]?=some ⟨"",[]⟩:=by
 have gr:=Ba (g:=g) e nl;have kd:=Jl I.kd e nl hl m;have wk:=FJ (c:="") I.kd I.wok e nl (.inl rfl)
 refine⟨gr,I.grow gr e rfl kd wk,?_,?_,?_⟩
 .show(g.tbl++[l])[M.length]?=_
  rw[<-I.wok.len,agP (agL _),Nat.sub_self];rfl
 .cases hz:g.ow l with
  |none=>exact hz
  |some p=>
   obtain⟨u,h1,_⟩:=I.kd.ob l (.inl (.inr (by rw[hz];exact λy=>nomatch y)));rw[nl]at h1;cases h1
 .rw[agP (agL _),Nat.sub_self];rfl
section
variable{X:Cx}{aj:aC}{W:WX}{o e:Expr}{f:Str}{pos pos' p1 apos epos spos:Pos}{ft:Ft}{fo:QF}
theorem VG{fe:IF}(co:dJ X.K aj)(fk:uQ ft aj)(ho:QW aj X W o fo)(he:FE aj X W e fe)(hs:swapsWith e (some (.Attribute o f pos')) pos.line X.env=pure false):SE aj X W false (.Assign [.Attribute o f pos'] e pos) (CT ft fo f fe):=by
 refine PS.weak (ps_fld ho he hs) λD σ H ⟨g,ρ,M,I,z⟩=>?_;refine⟨g,ρ,M,I,?_⟩;unfold CT at z;cases hf:fe M ρ with
 |exc x=>rw[hf]at z;exact λH' c dd e r=>z σ H' g c dd (Gr.ex e) (I.ex e) r.fr
 |bad=>rw[hf]at z;exact aht z
 |ok xs=>
  rw[hf]at z;intro l us H1 nl e1 hl rs;obtain⟨gr,I1,tb,ow,mm⟩:=uK I nl e1 hl ahs;have rs1:aq X.K (g.push l) H1 us xs:=aq.mv (g:=g.add l) (g':=g.push l) rfl (λh a z=>gr.tb (g:=g) z) (λa z=>by
   rcases Et z with z|rfl
   .rcases z with z|z|z
    .exact .inl z
    .exact .inr (.inl z)
    .exact .inr (.inr (show g.Lo a\/a=l from Or.inl z))
   .exact .inr (.inr (show g.Lo a\/a=a from Or.inr rfl))) rs
  have z:(((fo (M++[⟨"",[]⟩]) ρ).at (M++[⟨"",[]⟩])).then ρ λod M2=>match eV M2 od with
   |some (h,i)=>match ft.has i.cls f&&decide (i.fs.length<100) with
    |true=>.next ρ (M2.set h (i.put f (.lst M.length xs)))
    |false=>.bad
   |none=>.bad).sat (sN X.K aj false D.nx g H) (sR X.K aj false D.rt g H) (sN X.K aj false D.bk g H) (sN X.K aj false D.ct g H) (sX X.K aj W false g H):=z
  have k1:=Out.dD (aZ (σ:=σ) z);refine tW.go I1 (k1.mono (λ_ y=>y) λx y H' c dd ex rx=>y H' _ c dd (gr.trans (Gr.ex ex)) (I1.ex ex) rx) λod u H2 k2 e2 ru=>?_;have I2:=I1.ex e2;split at k2
  .next h i hi=>
   split at k2
   .next hb=>
    rw[agx]at hb;obtain⟨a,C,dx,fs,_,m1,m2,ha,rfl,c1,c2,c3,c4,c5,c6⟩:=qT co fk I2.wok ru hi hb.1;have nla:l≠a:=λz=>by
     subst z;cases I2.wok.inj _ _ _ ha tb;rw[mm]at m1;cases m1;exact m2 rfl
    refine⟨a,C,dx,fs,rfl,c2,c4,c5,?_,?_⟩
    .have:=ahv hb.2;rw[c3.len];omega
    .have ch:=zW (f:=f) (C:=C) (dx:=dx) (fs':=putF f (.ref l) fs) I2.kd I2.wok ha m1 m2 tb mm ow;have w':=I2.wok.chg I2.kd ch ha m1 m2 c6 c1 c3 ahA (v:=.ref l) (fl:=.lst M.length xs) ⟨l,us,rfl,by rw[upd_ne nla];exact e2 _ _ hl,ahy rfl,(rs1.ex e2 I1.kd).gr ch.gc.gr I2.kd,ch.gc.gr.tb tb⟩;exact k2 σ _ _ ((gr.trans (Gr.ex e2)).trans ch.gc.gr) (I2.chg ch w')
   .exact aht k2
  .exact aht k2
def qD(M:Mo)(f:Str)(d:Dat):Option (Nat×Inst×Nat×List Dat):=(eV M d).bind λp=>match p.2.fs.lookup f with
 |some (.lst n xs)=>some (p.1,p.2,n,xs)
 |_=>none
theorem Ao{K:agw}{g:Gh}{H:Hp}{M:Mo}{d:Dat}{v:V}{h n:Nat}{i:Inst}{xs:List Dat}(co:dJ K aj)(w:cM K aj g H M)(r:bf K g H v d)(hi:qD M f d=some (h,i,n,xs)) :
  ∃a C dx fs l us,d=obj h/\M[h]?=some i/\i.cls≠""/\i.fs.lookup f=some (.lst n xs)/\g.tbl[h]?=some a/\v=.ref a/\aj i.cls=some C/\H a=some (.ins C dx fs)/\aW K aj g H h fs i.fs/\Cls K C/\NoAttr K C f/\f∈aj.fl i.cls/\fs.lookup f=some (.ref l)/\H l=some (.lst us)/\g.ow l=some (h,f)/\aq K g H us xs/\g.tbl[n]?=some l:=by
 unfold qD at hi;obtain⟨⟨h',i'⟩,h1,hi⟩:=agv.mp hi;split at hi
 .next n' xs' hl=>
  cases hi;obtain⟨rfl,m1,m2⟩:=sE h1;obtain⟨a,rfl,ha⟩:=tH r;obtain⟨C,dx,fs,c1,c2,c3⟩:=w.ins _ a _ ha m1 m2;have hfl:=w.fd _ _ m1 f (lookup_mem hl);obtain⟨k1,k2⟩:=co _ C f c1 hfl;obtain⟨u,l1,l,us,rfl,l3,l4,l5,l6⟩:=c3.get hl;exact⟨a,C,dx,fs,l,us,rfl,m1,m2,hl,ha,rfl,c1,c2,c3,k1,k2,hfl,l1,l3,l4,l5,l6⟩
 .cases hi
theorem JZ{K:agw}{σ:L2.St}{ρ:Env}{g:Gh}{H:Hp}{M:Mo}{h n:Nat}{i:Inst}{ys:List Dat}{a C dx l:Addr}{fs:List (Str×V)}{us':List V}(I:SInv K aj σ H g ρ M)(m1:M[h]?=some i)(m2:i.cls≠"")(ha:g.tbl[h]?=some a)(c1:aj i.cls=some C)(c2:H a=some (.ins C dx fs))(c3:aW K aj g H h fs i.fs)(hfl:f∈aj.fl i.cls)(l1:fs.lookup f=some (.ref l))(l4:g.ow l=some (h,f))(l6:g.tbl[n]?=some l)(rs:aq K g H us' ys) :
  Gr false g g H (upd H l (.lst us'))/\SInv K aj σ (upd H l (.lst us')) g ρ (M.set h (i.put f (.lst n ys))):=by
 have ch:=Nm (o':=.lst us') I.kd I.wok l4 ahs;have nla:a≠l:=λz=>by
  subst z;rw[I.wok.tw h a i ha m1 m2]at l4;cases l4
 have w':=I.wok.chg I.kd ch ha m1 m2 hfl c1 (dx:=dx) c3 (v:=.ref l) (fl:=.lst n ys) (by rw[upd_ne nla,uo l1];exact c2) ⟨l,us',rfl,ahA,l4,rs.gr ch.gc.gr I.kd,l6⟩;exact⟨ch.gc.gr,I.chg ch w'⟩
def Du(f:Str)(o:QF)(e:GF):SF:=λM ρ=>((o M ρ).at M).then ρ λod M0=>match qD M0 f od with
 |some (_,_,n,_)=>(e M0 ρ).then ρ λd M1=>match qD M1 f od with
  |some (h,i,n',xs)=>match n==n'&&decide (xs.length<100000) with
   |true=>.next ρ (M1.set h (i.put f (.lst n (xs++[d]))))
   |false=>.bad
  |none=>.bad
 |none=>.bad
theorem Vs{fe:GF}(co:dJ X.K aj)(ho:QW aj X W o fo)(hb:baseOk o=true)(he:GE aj X W false e fe)(hs:nst e=true)(hl:(apos.endLine==pos.line)=true) :
  SE aj X W false (.Expr (.Call (.Attribute (.Attribute o f p1) "append" apos) [e] [] pos) epos) (Du f fo fe):=by
 have h0:=pe_fld (X:=X) (pos:=p1) (f:=f) ho (cA hb);have h1:=pa_cons he pa_nil (aH hs []);have key:=pe_bm (X:=X) (cpos:=pos) (apos:=apos) PySem.F.plainAttrs_list PySem.F.slot_list_append PySem.F.type_list_append mt_append h0 h1 (cA rfl) (few (by simp[hs]) (by simp)) hl (aH hs []) (by with_unfolding_all rfl);refine PS.weak (ps_expr key (by with_unfolding_all rfl)) λD σ H ⟨g,ρ,M,I,z⟩=>?_;unfold Du at z;have k1:=Out.dD (aZ (σ:=σ) z);refine tW.go I (k1.mono (λ_ y=>y) λx y H' c dd ex rx=>y H' _ c dd (Gr.ex ex) (I.ex ex) rx) λod u H1 k2 e1 ru=>?_;have I1:=I.ex e1;split at k2
 .next h0' i0 n xs0 hi=>
  obtain⟨a,C,dx,fs,l,us,rfl,m1,m2,ml,ha,rfl,c1,c2,c3,c4,c5,c6,l1,l3,l4,l5,l6⟩:=Ao co I1.wok ru hi;refine⟨a,C,dx,fs,.ref l,rfl,c2,c4,c5,l1,.inl ⟨rfl,us,sq_of l3⟩,?_⟩;refine tE.go I1 ((aZ (σ:=σ) k2).mono (λ_ _ y=>y) λx M' y=>y.gr (Gr.ex e1)) λd M1 v H2 g2 k3 r2 I2 rv=>?_;split at k3
  .next h i n' xs hi2=>
   split at k3
   .next hg=>
    rw[agx]at hg;cases ahB hg.1;have ru2:bf X.K g2 H2 (.ref a) (obj h0'):=Rep.weak (.obj (r2.tb ha));obtain⟨a',C',dx',fs',l',us',eh,n1,n2,nl,hb',ea,d1,d2,d3,d4,d5,d6,p1,p3,p4,p5,p6⟩:=Ao co I2.wok ru2 hi2;cases ea;have el:l'=l:=ag0 (p6.symm.trans (r2.tb l6));subst el;obtain⟨gr,I3⟩:=JZ (us':=us'++[v]) (ys:=xs++[d]) I2 n1 n2 hb' d1 d2 d3 d6 p1 p4 p6 (p5.append (.cons rv .nil));refine⟨l',us',v,rfl,rfl,p3,sz_lt (by rw[p5.length];exact ahv hg.2),?_⟩;exact k3 σ _ g2 (((Gr.ex e1).trans r2).trans gr) I3
   .exact aht k3
  .exact aht k3
 .exact aht k2
def CP(f:Str)(o fi e:QF):SF:=λM ρ=>((e M ρ).at M).then ρ λd _=>((o M ρ).at M).then ρ λod _=>match qD M f od with
 |some (h,i,n,xs)=>((fi M ρ).at M).then ρ λk _=>match k with
  |.int k=>match ixN xs.length k with
   |some j=>.next ρ (M.set h (i.put f (.lst n (xs.set j d))))
   |none=>.bad
  |_=>.bad
 |none=>.bad
theorem XM{i:Expr}{fi fe:QF}(co:dJ X.K aj)(ho:QW aj X W o fo)(hb:baseOk o=true)(he:QE aj X W e fe)(hi:QE aj X W i fi)
  (ha:∀v,assign (.Subscript (.Attribute o f p1) i spos) X.env v=(do
   let ov <-holding [v] (eval (.Attribute o f p1) X.env)
   let iv <-holding [v,ov] (eval i X.env)
   standAt spos
   holding [v,ov,iv] (setItem ov iv v)
   release [v,ov,iv] []))
  (hs:swapsWithSole [.Subscript (.Attribute o f p1) i spos] e pos.line X.env=pure false) (h1:(assignEach [.Subscript (.Attribute o f p1) i spos] X.env).map (·.2)=[assign (.Subscript (.Attribute o f p1) i spos) X.env]):SE aj X W false (.Assign [.Subscript (.Attribute o f p1) i spos] e pos) (CP f fo fi fe):=by
 have h0:=pe_fld (X:=X) (pos:=p1) (f:=f) ho (cA hb);refine PS.weak (ps_asg he (pg_sub h0 hi set_list ha) hs (by with_unfolding_all rfl) h1) λD σ H ⟨g,ρ,M,I,z⟩=>?_;unfold CP at z;have k1:=Out.dD (aZ (σ:=σ) z);refine tQ.go I (k1.mono (λ_ y=>y) λx y H' c dd ex rx=>y H' _ c dd (Gr.ex ex) (I.ex ex) rx) λd v H1 k2 e1 rv=>?_;have I1:=I.ex e1;have k2:=Out.dD (aZ (σ:=σ) k2);refine tW.go I1 (k2.mono (λ_ y=>y) λx y H' c dd ex rx=>y H' _ c dd ((Gr.ex e1).trans (Gr.ex ex)) (I1.ex ex) rx) λod u H2 k3 e2 ru=>?_;have I2:=I1.ex e2;have e12:=e1.trans e2;split at k3
 .next h i' n xs hl=>
  obtain⟨a,C,dx,fs,l,us,rfl,m1,m2,ml,ha',rfl,c1,c2,c3,c4,c5,c6,l1,l3,l4,l5,l6⟩:=Ao co I2.wok ru hl;refine⟨a,C,dx,fs,.ref l,rfl,c2,c4,c5,l1,?_⟩;have k3:=Out.dD (aZ (σ:=σ) k3);refine tQ.go I2 (k3.mono (λ_ y=>y) λx y H' c dd ex rx=>y H' _ c dd ((Gr.ex e12).trans (Gr.ex ex)) (I2.ex ex) rx) λk w H3 k4 e3 rw'=>?_;have I3:=I2.ex e3;cases k with
  |int k=>
   simp only at k4;split at k4
   .next j hj=>
    cases rw';obtain⟨gr,I4⟩:=JZ (us':=us.set j v) (ys:=xs.set j d) I3 m1 m2 ha' c1 (e3 _ _ c2) (c3.ex e3 I2.kd) c6 l1 l4 l6 (((l5.ex e3 I2.kd).set ((rv.ex e2 I1.kd).ex e3 I2.kd) j));refine⟨l,us,k,j,rfl,rfl,e3 _ _ l3,by rw[l5.length];exact hj,?_⟩;exact k4 σ _ g ((Gr.ex (e12.trans e3)).trans gr) I4
   .exact aht k4
  |_=>exact aht k4
 .exact aht k3
def CW(ft:Ft)(f:Str)(o e:QF):SF:=λM ρ=>((o M ρ).at M).then ρ λod _=>match eV M od with
 |some (h,i)=>match i.fs.lookup f,ft.has i.cls f&&decide (i.fs.length<100) with
  |some (.dat (.int a)),true=>((e M ρ).at M).then ρ λd _=>match d with
   |.int b=>.next ρ (M.set h (i.put f (.dat (.int (a+b)))))
   |_=>.bad
  |_,_=>.bad
 |none=>.bad
theorem Rz:InOp X .Add (λx y H Q=>∃i j,x=.int i/\y=.int j/\Q (.int (i+j)) H):=by intro pins s σ H x y u v Q I rx ry h;obtain⟨i,j,rfl,rfl,q⟩:=h;exact iop_add pins s σ H _ _ u v Q I rx ry ⟨i,j,rfl,rfl,q⟩
theorem Xw{fe:QF}{tpos:Pos}(co:dJ X.K aj)(fk:uQ ft aj)(ho:QW aj X W o fo)(he:QE aj X W e fe):SE aj X W false (.AugAssign (.Attribute o f tpos) .Add e pos) (CW ft f fo fe):=by
 refine PS.weak (ps_fldaug ho he Rz) λD σ H ⟨g,ρ,M,I,z⟩=>?_;unfold CW at z;have k1:=Out.dD (aZ (σ:=σ) z);refine tW.go I (k1.mono (λ_ y=>y) λx y H' c dd ex rx=>y H' _ c dd (Gr.ex ex) (I.ex ex) rx) λod u H1 k2 e1 ru=>?_;have I1:=I.ex e1;split at k2
 .next h i hi=>
  split at k2
  .next b hlk hb=>
   rw[agx]at hb;obtain⟨a,C,dx,fs,_,m1,m2,ha,rfl,c1,c2,c3,c4,c5,c6⟩:=qT co fk I1.wok ru hi hb.1;obtain⟨v,l1,l2⟩:=c3.get hlk;refine⟨a,C,dx,fs,v,rfl,c2,c4,c5,l1,?_⟩;have k2:=Out.dD (aZ (σ:=σ) k2);refine tQ.go I1 (k2.mono (λ_ y=>y) λx y H' c dd ex rx=>y H' _ c dd ((Gr.ex e1).trans (Gr.ex ex)) (I1.ex ex) rx) λd w H2 k3 e2 rd=>?_;have I2:=I1.ex e2;cases d with
   |int j=>
    cases rd;have l2:Rep X.K g H1 v (.int b):=l2;cases l2;refine⟨b,j,rfl,rfl,dx,fs,e2 _ _ c2,?_,?_⟩
    .have:=ahv hb.2;rw[c3.len];omega
    .have ch:=zB (f:=f) (C:=C) (dx:=dx) (fs':=putF f (.int (b+j)) fs) I2.kd I2.wok ha m1 m2;have w':=I2.wok.chg I2.kd ch ha m1 m2 c6 c1 (c3.ex e2 I1.kd) ahA (v:=.int (b+j)) (fl:=.dat (.int (b+j))) (show Rep X.K g _ _ _ from .int _);exact k3 σ _ g ((Gr.ex (e1.trans e2)).trans ch.gc.gr) (I2.chg ch w')
   |_=>exact aht k3
  .exact aht k2
 .exact aht k2
end
mutual
def jK:Dat->Option NestedKey
 |.none=>some .none
 |.int i=>some (.num i)
 |.str x=>some (.text x)
 |.tuple ds=>(jU ds).map .tup
 |.bool _=>none
 |.list _=>none
 |.dict _=>none
def jU:List Dat->Option (List NestedKey)
 |[]=>some []
 |d::ds=>(jK d).bind λk=>(jU ds).bind λks=>some (k::ks)
end
mutual
theorem mW:∀{d:Dat} {k:NestedKey},jK d=some k->k.data=d
 |.none,_,h=>by cases h;rfl
 |.int i,_,h=>by cases h;rfl
 |.str x,_,h=>by cases h;rfl
 |.tuple ds,_,h=>by
  rw[jK,agZ]at h;obtain⟨ks,h1,rfl⟩:=h;rw[NestedKey.data,yQ h1]
theorem yQ:∀{ds:List Dat} {ks:List NestedKey},jU ds=some ks->NestedKey.datas ks=ds
 |[],_,h=>by cases h;rfl
 |d::ds,_,h=>by
  rw[jU]at h;obtain⟨k,h1,h⟩:=agv.mp h;obtain⟨ks,h2,h⟩:=agv.mp h;cases h;rw[NestedKey.datas,mW h1,yQ h2]
end
mutual
theorem Kr:∀a b:NestedKey,PyData.eqv a.data b.data=NestedKey.beq a b
 |.none,.none=>by simp[NestedKey.data,PyData.eqv,NestedKey.beq]
 |.none,.num _=>by simp[NestedKey.data,PyData.eqv,NestedKey.beq]
 |.none,.text _=>by simp[NestedKey.data,PyData.eqv,NestedKey.beq]
 |.none,.tup _=>by simp[NestedKey.data,PyData.eqv,NestedKey.beq]
 |.num _,.none=>by simp[NestedKey.data,PyData.eqv,NestedKey.beq]
 |.num a,.num b=>by simp[NestedKey.data,PyData.eqv,NestedKey.beq];rfl
 |.num _,.text _=>by simp[NestedKey.data,PyData.eqv,NestedKey.beq]
 |.num _,.tup _=>by simp[NestedKey.data,PyData.eqv,NestedKey.beq]
 |.text _,.none=>by simp[NestedKey.data,PyData.eqv,NestedKey.beq]
 |.text _,.num _=>by simp[NestedKey.data,PyData.eqv,NestedKey.beq]
 |.text a,.text b=>by simp[NestedKey.data,PyData.eqv,NestedKey.beq];rfl
 |.text _,.tup _=>by simp[NestedKey.data,PyData.eqv,NestedKey.beq]
 |.tup _,.none=>by simp[NestedKey.data,PyData.eqv,NestedKey.beq]
 |.tup _,.num _=>by simp[NestedKey.data,PyData.eqv,NestedKey.beq]
 |.tup _,.text _=>by simp[NestedKey.data,PyData.eqv,NestedKey.beq]
 |.tup as,.tup bs=>by
  rw[NestedKey.data,NestedKey.data,PyData.eqv,NestedKey.beq];exact HJ as bs
theorem HJ:∀as bs:List NestedKey,PyData.eqvAll (NestedKey.datas as) (NestedKey.datas bs)=NestedKey.beqAll as bs
 |[],[]=>by simp[NestedKey.datas,PyData.eqvAll,NestedKey.beqAll]
 |[],_::_=>by simp[NestedKey.datas,PyData.eqvAll,NestedKey.beqAll]
 |_::_,[]=>by simp[NestedKey.datas,PyData.eqvAll,NestedKey.beqAll]
 |a::as,b::bs=>by
  rw[NestedKey.datas,NestedKey.datas,PyData.eqvAll,NestedKey.beqAll,Kr a b,HJ as bs]
end
theorem JL(a b:NestedKey):PyData.eqv a.data b.data=decide (a=b):=by rw[Kr,NestedKey.decide_eq]
section
variable{X:Cx}{pins:List (Addr×Obj)}{σ:L2.St}{H:Hp}{s:Shared}{g:Gh}
mutual
theorem key_is(I:L2.Inv X pins σ H s):∀{v:V} {d:Dat} {k:NestedKey} {u:Value},Rep X.K g H v d->jK d=some k->RelV v u->NestedIs s.heap k u
 |_,_,_,u,.non,e,r=>by
  cases e
  obtain rfl:u=.none:=r
  exact .none
 |_,_,_,_,.int i,e,r=>by
  cases e;obtain⟨t,rfl⟩:=r;exact .int i t
 |_,_,_,_,.str x,e,r=>by
  cases e;obtain⟨t,rfl⟩:=r;exact .text x t
 |_,_,_,u,.tup (a:=a) h t,e,r=>by
  rw[jK,agZ]at e;obtain⟨ks,h1,rfl⟩:=e
  obtain rfl:u=.ref a:=r
  obtain⟨its,r1,⟨o,e1,c1,n,d1⟩,_⟩:=I.tuple h;exact .tup e1 c1 d1 (by simpa using Kz I t h1 r1)
 |_,_,_,_,.bl b,e,r=>by cases e
 |_,_,_,_,.lst _ _,e,r=>by cases e
 |_,_,_,_,.obj _,e,r=>by cases e
theorem Kz(I:L2.Inv X pins σ H s):∀{vs:List V} {ds:List Dat} {ks:List NestedKey} {us:List Value},aq X.K g H vs ds->jU ds=some ks->Vals vs us->NestedAll s.heap ks us
 |_,_,_,_,.nil,e,r=>by
  cases e;cases r;exact .nil
 |_,_,_,_,.cons h t,e,r=>by
  rw[jU]at e;obtain⟨k,h1,e⟩:=agv.mp e;obtain⟨ks,h2,e⟩:=agv.mp e;cases e;cases r with
  |cons r1 r2=>exact .cons (key_is I h h1 r1) (Kz I t h2 r2)
end
end
mutual
theorem Jp:∀k:NestedKey,jK k.data=some k
 |.none=>rfl
 |.num _=>rfl
 |.text _=>rfl
 |.tup ks=>by rw[NestedKey.data,jK,Ed ks];rfl
theorem Ed:∀ks:List NestedKey,jU (NestedKey.datas ks)=some ks
 |[]=>rfl
 |k::ks=>by rw[NestedKey.datas,jU,Jp k,Ed ks];rfl
end
def dhas:Bool->List (Dat×Dat)->Dat->Out Bool
 |false,kvs,.int i=>.ok (kvs.any λp=>PyData.eqv p.1 (.int i))
 |true,kvs,.tuple ds=>match jK (.tuple ds) with
  |some k=>match decide (k.depth<=8) with
   |true=>.ok (kvs.any λp=>PyData.eqv p.1 (.tuple ds))
   |false=>.bad
  |none=>.bad
 |_,_,_=>.bad
def lU(M:Mo)(f:Str)(d:Dat):Option (Nat×Inst×Bool×List (Dat×Dat)):=(eV M d).bind λp=>match p.2.fs.lookup f with
 |some (.dic b kvs)=>some (p.1,p.2,b,kvs)
 |_=>none
section
variable{aj:aC}{f:Str}
theorem qF{K:agw}{g:Gh}{H:Hp}{M:Mo}{d:Dat}{v:V}{h:Nat}{i:Inst}{b:Bool}{kvs:List (Dat×Dat)}(co:dJ K aj)(w:cM K aj g H M)(r:bf K g H v d)(hi:lU M f d=some (h,i,b,kvs)) :
  ∃a C dx fs l,d=obj h/\M[h]?=some i/\i.cls≠""/\i.fs.lookup f=some (.dic b kvs)/\g.tbl[h]?=some a/\v=.ref a/\aj i.cls=some C/\H a=some (.ins C dx fs)/\aW K aj g H h fs i.fs/\Cls K C/\NoAttr K C f/\f∈aj.fl i.cls/\fs.lookup f=some (.ref l)/\g.ow l=some (h,f)/\dR K aj g H l b kvs:=by
 unfold lU at hi;obtain⟨⟨h',i'⟩,h1,hi⟩:=agv.mp hi;split at hi
 .next b' kvs' hl=>
  cases hi;obtain⟨rfl,m1,m2⟩:=sE h1;obtain⟨a,rfl,ha⟩:=tH r;obtain⟨C,dx,fs,c1,c2,c3⟩:=w.ins _ a _ ha m1 m2;have hfl:=w.fd _ _ m1 f (lookup_mem hl);obtain⟨k1,k2⟩:=co _ C f c1 hfl;obtain⟨u,l1,l,rfl,l3,l4⟩:=c3.get hl;exact⟨a,C,dx,fs,l,rfl,m1,m2,hl,ha,rfl,c1,c2,c3,k1,k2,hfl,l1,l3,l4⟩
 .cases hi
end
theorem Ax{kv:List (Key×V)}{i:Int}:∀{kvs:List (Dat×Dat)},kvs.map (·.1)=kv.map (λp=>keyD p.1)->(kvs.any λp=>PyData.eqv p.1 (.int i))=(valV kv (Sum.inl i)).isSome:=by
 induction kv with
 |nil=>
  intro kvs e;cases kvs with
  |nil=>rfl
  |cons _ _=>cases e
 |cons p r ih=>
  intro kvs e;cases kvs with
  |nil=>cases e
  |cons q t=>
   simp only[agy,List.cons.injEq]at e;rw[ahl,ih e.2,e.1];by_cases h:p.1=Sum.inl i
   .rw[valV_pos h,h];simp[keyD,PyData.eqv]
   .rw[valV_neg h];have:PyData.eqv (keyD p.1) (.int i)=false:=by
     cases hp:p.1 with
     |inl j=>
      have:j≠i:=λz=>h (by rw[hp,z]);simp[keyD,PyData.eqv,this]
     |inr x=>simp[keyD,PyData.eqv]
    rw[this,Bool.false_or]
theorem qY{xs:List fL}{k:NestedKey}:∀{kvs:List (Dat×Dat)},kvs.map (·.1)=xs.map (λx=>x.1.data)->(kvs.any λp=>PyData.eqv p.1 k.data)=(atKey xs k).isSome:=by
 induction xs with
 |nil=>
  intro kvs e;cases kvs with
  |nil=>rfl
  |cons _ _=>cases e
 |cons p r ih=>
  intro kvs e;cases kvs with
  |nil=>cases e
  |cons q t=>
   simp only[agy,List.cons.injEq]at e;rw[ahl,ih e.2,e.1,JL];unfold atKey;rw[List.find?_cons];cases hd:decide (p.1=k) with
   |true=>rfl
   |false=>rfl
theorem qK{X:Cx}{pins:List (Addr×Obj)}{σ:L2.St}{H:Hp}{s:Shared}{g:Gh}{l:Addr}{o:Obj}{xs:List fL}{ks:List Dat}(I:L2.Inv X pins σ H s)(h1:H l=some (cQ l o))(h2:fj X.w l o xs)(h3:ks=xs.map λx=>x.1.data)(h4:aq X.K g H (xs.map λx=>V.ref x.2.1) ks) :
  s.heap.DictOfH (nestedKind X.prog X.w) l xs:=by
 obtain⟨z1,_,_⟩:=(show ObjOk X.prog X.w H s.heap l (cQ l o) from I.hok l _ h1);obtain⟨es,ep,e1,e2⟩:=h2.ent;refine⟨o,es,ep,z1,h2.ex,e1,e2,λx hx=>?_,h2.nd⟩;refine⟨?_,h2.dep x hx⟩;obtain⟨n,hn⟩:=List.mem_iff_getElem?.mp hx;obtain⟨d,hd1,hd2⟩:=h4.get' (i:=n) (v:=V.ref x.2.1) (by rw[agS,hn];rfl);rw[h3,agS,hn]at hd1;cases hd1;exact key_is I hd2 (Jp x.1) rfl
def rInD(X:Cx)(neg:Bool):R2:=λx y H Q=>(∃l kv i,y=.ref l/\H l=some (.dK kv)/\x=.int i/\Q (.bl (neg ^^ (valV kv (Sum.inl i)).isSome)) H)\/
 ∃(l:Addr) (o:Obj) (xs:List fL) (g:Gh) (d:Dat) (b:Addr) (k:NestedKey),y=.ref l/\H l=some (cQ l o)/\fj X.w l o xs/\aq X.K g H (xs.map λx=>V.ref x.2.1) (xs.map λx=>x.1.data)/\x=.ref b/\Rep X.K g H x d/\jK d=some k/\k.depth<=8/\Q (.bl (neg ^^ (atKey xs k).isSome)) H
section
variable{X:Cx}
theorem op_inD(hu:X.A.units+64<cLine):OpR X (compareOp .In) (rInD X false):=by
 intro pins s σ H x y v u Q I rx ry h;rcases h with⟨l,kv,i,rfl,hl,rfl,q⟩|⟨l,o,xs,g,d,b,k,rfl,h1,h2,h3,rfl,h4,h5,h6,q⟩
 .obtain rfl:u=Value.ref l:=ry
  exact d_in (by omega) I (DGet.k (k:=Sum.inl i) hl) rx λs' I'=>⟨.bl _,H,I',rfl,by simpa using q⟩
 .obtain rfl:u=Value.ref l:=ry
  obtain rfl:v=Value.ref b:=rx
  refine wpAny_in_heap (knd:=nestedKind X.prog X.w) (k:=k) (show X.A.in1.units+8<cLine by show X.A.units+1+8<cLine;omega) ⟨key_is I h4 h5 rfl,h6⟩ h2.sys (qK I h1 h2 rfl h3) ?_;exact⟨.bl _,H,I.tok _,rfl,by simpa using q⟩
theorem op_notInD(hu:X.A.units+64<cLine):OpR X (compareOp .NotIn) (rInD X true):=by
 intro pins s σ H x y v u Q I rx ry h;rcases h with⟨l,kv,i,rfl,hl,rfl,q⟩|⟨l,o,xs,g,d,b,k,rfl,h1,h2,h3,rfl,h4,h5,h6,q⟩
 .obtain rfl:u=Value.ref l:=ry
  exact d_notIn (by omega) I (DGet.k (k:=Sum.inl i) hl) rx λs' I'=>⟨.bl _,H,I',rfl,by simpa using q⟩
 .obtain rfl:u=Value.ref l:=ry
  obtain rfl:v=Value.ref b:=rx
  refine notIn_keyed (knd:=nestedKind X.prog X.w) (k:=k) (show X.A.in1.units+8<cLine by show X.A.units+1+8<cLine;omega) ⟨key_is I h4 h5 rfl,h6⟩ h2.sys ⟨xs,qK I h1 h2 rfl h3,rfl⟩ ?_;rw[valueAt_pairsH,Option.isSome_map];exact⟨.bl _,H,I.tok _,rfl,by simpa using q⟩
end
def Gy(neg:Bool)(f:Str)(k o:QF):QF:=λM ρ=>(k M ρ).bind λd=>(o M ρ).bind λod=>match lU M f od with
 |some (_,_,b,kvs)=>(dhas b kvs d).bind λr=>.ok (.bool (neg ^^ r))
 |none=>.bad
section
variable{X:Cx}{aj:aC}{W:WX}{o k:Expr}{f:Str}{pos p1:Pos}{fo fk:QF}{neg:Bool}{op:CmpOp}
theorem Ux(co:dJ X.K aj)(hw:aj.w=X.w)(σ:L2.St)(H:Hp)(Q:VK)(h:tQ X.K aj W (Gy neg f fk fo) σ H Q):tOp (rInD X neg) (tQ X.K aj W fk) (tFld X.K (tW X.K aj W fo) f) σ H Q:=by
 obtain⟨g,ρ,M,I,h⟩:=h;refine tQ.go I h.bnd λd v H1 h1 e1 r1=>?_;have I1:=I.ex e1;refine tW.go I1 (h1.bnd.mono (λ_ z=>z) λ_ z=>z.ex e1) λod u H2 h2 e2 r2=>?_;have I2:=I1.ex e2;split at h2
 .next hh i b kvs hd=>
  obtain⟨a,C,dx,fs,l,rfl,m1,m2,ml,ha,rfl,c1,c2,c3,c4,c5,c6,l1,l2,l3⟩:=qF co I2.wok r2 hd;refine⟨a,C,dx,fs,.ref l,rfl,c2,c4,c5,l1,?_⟩;have r1':=r1.ex e2 I1.kd;unfold dhas at h2;split at h2
  .next i'=>
   obtain⟨kv,k1,k2,k3⟩:=l3;cases r1';refine .inl ⟨l,kv,i',rfl,k1,rfl,?_⟩;rw[Ax k2]at h2;exact h2 _ H2 (e1.trans e2) (.bl _)
  .next ds=>
   split at h2
   .next kk hk=>
    split at h2
    .next hdep=>
     obtain⟨o',xs,vs,k1,k2,k3,k4,k5,k6⟩:=l3;have ek:=mW hk;rw[<-ek,qY k3]at h2;rw[k3]at k4;rw[hw]at k2;cases r1' with
     | @tup b us _ hs ht=>exact .inr ⟨l,o',xs,g,_,b,kk,rfl,k1,k2,k4,rfl,.tup hs ht,hk,ahv hdep,h2 _ H2 (e1.trans e2) (.bl _)⟩
    .exact aht h2
   .exact aht h2
  .exact aht h2
 .exact aht h2
theorem ZK(co:dJ X.K aj)(hw:aj.w=X.w)(hr:OpR X (compareOp op) (rInD X neg))(hk:QE aj X W k fk)(ho:QW aj X W o fo)(hb:baseOk o=true):QE aj X W (.Compare k [op] [.Attribute o f p1] pos) (Gy neg f fk fo):=
 PE.weak (pe_cmpR hr hk (pe_fld ho (cA hb)) (by cases op<;>rfl)) λσ H Q h=>Ux co hw σ H Q h
end
def DPx(X:Cx)(H:Hp)(a:Addr)(y v:V)(R:Hp->Prop):Prop:=(∃kvs i,H a=some (.dK kvs)/\y=.int i/\kvs.length<sizeLine/\R (upd H a (.dK (putK kvs (Sum.inl i) v))))\/
 ∃(o:Obj) (xs:List fL) (g:Gh) (d:Dat) (b:Addr) (k:NestedKey),H a=some (cQ a o)/\fj X.w a o xs/\aq X.K g H (xs.map λx=>V.ref x.2.1) (xs.map λx=>x.1.data)/\y=.ref b/\Rep X.K g H y d/\jK d=some k/\k.depth<=8/\xs.length<sizeLine/\∀(o':Obj) (u:Value),RelV v u->fj X.w a o' (storedH xs k b u)->R (upd H a (cQ a o'))
theorem uD{P:Program}{w:World}{H:Hp}{h:Heap}{l:Addr}{o:Obj}(e:h.get? l=some o):ObjOk P w H h l (cQ l o):=⟨e,⟨o,e⟩,λ_ _ e1 k=>k _ e1⟩
theorem IK{xs:List fL}{k:NestedKey}{b:Addr}{u:Value}:(storedH xs k b u).map (·.1)=if (atKey xs k).isSome then xs.map (·.1) else xs.map (·.1)++[k]:=by
 unfold storedH;split
 .rw[agW];refine List.map_congr_left λx _=>?_
  show(putAt k u x).1=x.1
  unfold putAt
  split<;>rfl
 .simp
theorem xQ{xs:List fL}{k:NestedKey}{b:Addr}{u:Value}:(storedH xs k b u).length<=xs.length+1:=by
 unfold storedH
 split<;>simp
theorem yH{xs:List fL}{k:NestedKey}{b:Addr}{u:Value}(h:∀x∈xs,x.1.depth<=8)(hk:k.depth<=8):∀x∈storedH xs k b u,x.1.depth<=8:=λx hx=>by
 have:x.1∈(storedH xs k b u).map (·.1):=agU.mpr ⟨x,hx,rfl⟩;rw[IK]at this;have old:∀{z:NestedKey},z∈xs.map (·.1)->z.depth<=8:=λ{z} m=>by
  obtain⟨y,hy,rfl⟩:=agU.mp m;exact h y hy
 split at this
 .exact old this
 .rcases ag5.mp this with z|z
  .exact old z
  .rw[agJ.mp z];exact hk
section
variable{X:Cx}{o i value:Expr}{td ty tv:TE}{pos pos':Pos}
def adt(X:Cx)(td ty tv:TE):TS:=λD σ H=>tv σ H λv H1=>td σ H1 λx H2=>ty σ H2 λy H3=>∃a,x=.ref a/\DPx X H3 a y v λH4=>D.nx σ H4
theorem R3(hu:X.A.units+64<cLine)(ho:PE X o td)(hi:PE X i ty)(hv:PE X value tv)(hs:swapsWith value (some (.Subscript o i pos')) pos.line X.env=pure false):PS X (.Assign [.Subscript o i pos'] value pos) (adt X td ty tv):=by
 refine⟨λpins s σ H D I h=>?_⟩;refine wpAny_Assign_Subscript (thn (hv.run pins s σ H _ I h) λr s1 ⟨v,H1,I1,rv,q1⟩=>thn (ho.run pins s1 σ H1 _ I1 q1) λu s2 ⟨x,H2,I2,rx,q2⟩=>thn (hi.run pins s2 σ H2 _ I2 q2) λiv s3 ⟨y,H3,I3,ry,a,ex,q3⟩=>?_) hs;subst ex
 obtain rfl:u=Value.ref a:=rx
 rcases q3 with⟨kvs,j,h1,rfl,hl,q⟩|⟨ob,xs,g,d,b,k,h1,h2,h3,rfl,h4,h5,h6,hl,q⟩
 .exact d_setItem (by omega) I3 (DPut.k (k:=Sum.inl j) h1 hl) ry rv λs4 I4=>⟨σ,_,I4,q⟩
 .obtain rfl:iv=Value.ref b:=ry
  refine wpAny_setItem_heap (knd:=nestedKind X.prog X.w) (k:=k) (hsz:=Nat.le_of_lt hl) (show X.A.in1.units+8<cLine by show X.A.units+1+8<cLine;omega) ⟨key_is I3 h4 h5 rfl,h6⟩ (qK I3 h1 h2 rfl h3) λh' dd hs'=>?_;obtain⟨o',es,ep,g1,g2,g3,g4,g5,g6⟩:=dd;have nd:fj X.w a o' (storedH xs k b r):=⟨h2.sys,g2,⟨es,ep,g3,g4⟩,g6,by have:=xQ (xs:=xs) (k:=k) (b:=b) (u:=r);omega,yH h2.dep h6⟩;exact⟨σ,_,d_write I3 (by rw[h1];exact True.intro) hs' ⟨o',g1⟩ (uD g1),q o' r rv nd⟩
end
theorem aq.back{K:agw}{g:Gh}{H:Hp}{vs:List V}{ds:List Dat}{v:V}{d:Dat}(h:aq K g H vs ds)(r:Rep K g H v d):aq K g H (vs++[v]) (ds++[d]):=h.append (.cons r .nil)
theorem vH{K:agw}{aj:aC}{f:Str}{σ:L2.St}{ρ:Env}{g:Gh}{H:Hp}{M:Mo}{h:Nat}{i:Inst}{b:Bool}{kvs':List (Dat×Dat)}{a C dx l:Addr}{fs:List (Str×V)}{o':HO}(I:SInv K aj σ H g ρ M)(m1:M[h]?=some i)(m2:i.cls≠"")(ha:g.tbl[h]?=some a)(c1:aj i.cls=some C)(c2:H a=some (.ins C dx fs))(c3:aW K aj g H h fs i.fs)(hfl:f∈aj.fl i.cls)(l1:fs.lookup f=some (.ref l))(l4:g.ow l=some (h,f))(mu:sO o')
  (new:Gr false g g H (upd H l o')->dR K aj g (upd H l o') l b kvs'):Gr false g g H (upd H l o')/\SInv K aj σ (upd H l o') g ρ (M.set h (i.put f (.dic b kvs'))):=by
 have ch:=Nm (o':=o') I.kd I.wok l4 mu;have nla:a≠l:=λz=>by
  subst z;rw[I.wok.tw h a i ha m1 m2]at l4;cases l4
 have w':=I.wok.chg I.kd ch ha m1 m2 hfl c1 (dx:=dx) c3 (v:=.ref l) (fl:=.dic b kvs') (by rw[upd_ne nla,uo l1];exact c2) ⟨l,rfl,l4,new ch.gc.gr⟩;exact⟨ch.gc.gr,I.chg ch w'⟩
def Dy(f:Str)(o k e:QF):SF:=λM ρ=>((e M ρ).at M).then ρ λv _=>((o M ρ).at M).then ρ λod _=>match lU M f od with
 |some (h,i,b,kvs)=>((k M ρ).at M).then ρ λd _=>match dhas b kvs d,decide (kvs.length<100000) with
  |.ok false,true=>.next ρ (M.set h (i.put f (.dic b (kvs++[(d,v)]))))
  |_,_=>.bad
 |none=>.bad
def Dh(f:Str)(o k:QF):SF:=λM ρ=>((o M ρ).at M).then ρ λod _=>match lU M f od with
 |some (h,i,b,kvs)=>((k M ρ).at M).then ρ λd _=>match dhas b kvs d,decide (kvs.length<=100000) with
  |.ok true,true=>.next ρ (M.set h (i.put f (.dic b (kvs.filter λp=>!PyData.eqv p.1 d))))
  |_,_=>.bad
 |none=>.bad
theorem z7{kvs:List (Dat×Dat)}{b r:Bool}{d:Dat}(h:dhas b kvs d=.ok r):(kvs.any λp=>PyData.eqv p.1 d)=r/\((b=false/\∃i,d=.int i)\/(b=true/\∃ds k,d=.tuple ds/\jK d=some k/\k.depth<=8)):=by
 unfold dhas at h;split at h
 .next i=>
  cases h;exact⟨rfl,.inl ⟨rfl,i,rfl⟩⟩
 .next ds=>
  split at h
  .next k hk=>
   split at h
   .next hd=>
    cases h;exact⟨rfl,.inr ⟨rfl,ds,k,rfl,hk,ahv hd⟩⟩
   .cases h
  .cases h
 .cases h
section
variable{X:Cx}{aj:aC}{W:WX}{o e i:Expr}{f:Str}{pos pos' p1:Pos}{fo fe fk:QF}
theorem Ww(co:dJ X.K aj)(hw:aj.w=X.w)(hu:X.A.units+64<cLine)(ho:QW aj X W o fo)(hb:baseOk o=true)(hk:QE aj X W i fk)(he:QE aj X W e fe)(hs:swapsWith e (some (.Subscript (.Attribute o f p1) i pos')) pos.line X.env=pure false) :
  SE aj X W false (.Assign [.Subscript (.Attribute o f p1) i pos'] e pos) (Dy f fo fk fe):=by
 refine PS.weak (R3 hu (pe_fld ho (cA hb)) hk he hs) λD σ H ⟨g,ρ,M,I,z⟩=>?_;unfold Dy at z;have k1:=Out.dD (aZ (σ:=σ) z);refine tQ.go I (k1.mono (λ_ y=>y) λx y H' c dd ex rx=>y H' _ c dd (Gr.ex ex) (I.ex ex) rx) λd v H1 k2 e1 rv=>?_;have I1:=I.ex e1;have k2:=Out.dD (aZ (σ:=σ) k2);refine tW.go I1 (k2.mono (λ_ y=>y) λx y H' c dd ex rx=>y H' _ c dd ((Gr.ex e1).trans (Gr.ex ex)) (I1.ex ex) rx) λod u H2 k3 e2 ru=>?_;have I2:=I1.ex e2;have e12:=e1.trans e2;split at k3
 .next h i' b kvs hl=>
  obtain⟨a,C,dx,fs,l,rfl,m1,m2,ml,ha,rfl,c1,c2,c3,c4,c5,c6,l1,l2,l3⟩:=qF co I2.wok ru hl;refine⟨a,C,dx,fs,.ref l,rfl,c2,c4,c5,l1,?_⟩;have k3:=Out.dD (aZ (σ:=σ) k3);refine tQ.go I2 (k3.mono (λ_ y=>y) λx y H' c dd ex rx=>y H' _ c dd ((Gr.ex e12).trans (Gr.ex ex)) (I2.ex ex) rx) λkd w H3 k4 e3 rk=>?_;have I3:=I2.ex e3;have l3':=l3.ex e3 I2.kd;have rv3:=(rv.ex e2 I1.kd).ex e3 I2.kd;refine⟨l,rfl,?_⟩;split at k4
  .next hh hz=>
   obtain⟨ha2,hcase⟩:=z7 hh;have hz:=ahv hz;rcases hcase with⟨rfl,j,rfl⟩|⟨rfl,ds,kk,rfl,hkk,hdep⟩
   .obtain⟨kv,q1,q2,q3⟩:=l3';cases rk;have hlen:kv.length=kvs.length:=by
     have:=congrArg List.length q2;simpa using this.symm
    rw[Ax q2]at ha2;have hn:valV kv (Sum.inl j)=none:=by
     cases hv:valV kv (Sum.inl j) with
     |none=>rfl
     |some _=>rw[hv]at ha2;cases ha2
    refine .inl ⟨kv,j,q1,rfl,sz_lt (by rw[hlen];exact hz),?_⟩;rw[putK_new v hn];obtain⟨gr,I4⟩:=vH (b:=false) (kvs':=kvs++[(.int j,d)]) (o':=.dK (kv++[(Sum.inl j,v)])) I3 m1 m2 ha c1 (e3 _ _ c2) (c3.ex e3 I2.kd) c6 l1 l2 ahs λgr=>⟨_,ahA,by simp[q2,keyD],by
     rw[ahc,ahc];exact(q3.gr gr I3.kd).back (rv3.gr gr I3.kd)⟩
    exact k4 σ _ g ((Gr.ex (e12.trans e3)).trans gr) I4
   .obtain⟨o',xs,vs,q1,q2,q3,q4,q5,q6⟩:=l3';have hlen:xs.length=kvs.length:=by
     have:=congrArg List.length q3;simpa using this.symm
    have ek:=mW hkk;rw[<-ek,qY q3]at ha2;have hn:atKey xs kk=none:=by
     cases hv:atKey xs kk with
     |none=>rfl
     |some _=>rw[hv]at ha2;cases ha2
    have q4':=q4;rw[q3]at q4';rw[hw]at q2;cases rk with
    | @tup bb us _ hs' ht=>
     refine .inr ⟨o',xs,g,_,bb,kk,q1,q2,q4',rfl,.tup hs' ht,hkk,hdep,sz_lt (by rw[hlen];exact hz),λo2 u2 ru2 nd=>?_⟩;rw[storedH_new hn]at nd;obtain⟨gr,I4⟩:=vH (b:=true) (kvs':=kvs++[(.tuple ds,d)]) (o':=cQ l o2) I3 m1 m2 ha c1 (e3 _ _ c2) (c3.ex e3 I2.kd) c6 l1 l2 ahs λgr=>⟨o2,xs++[(kk,bb,u2)],vs++[v],ahA,by rw[hw];exact nd,by simp[q3,ek],by
      rw[ahc,ahc];exact(q4.gr gr I3.kd).back ((Rep.tup hs' ht).gr gr I3.kd),by
      rw[ahc];exact q5.append (.cons ru2 .nil),by
      rw[ahc];exact(q6.gr gr I3.kd).back (rv3.gr gr I3.kd)⟩
     exact k4 σ _ g ((Gr.ex (e12.trans e3)).trans gr) I4
  .exact aht k4
 .exact aht k3
end
section
variable{X:Cx}{o i:Expr}{td ty:TE}{pos tpos:Pos}
def ado(X:Cx)(td ty:TE):TS:=λD σ H=>td σ H λx H2=>ty σ H2 λy H3=>∃a,x=.ref a/\((∃kvs i,H3 a=some (.dK kvs)/\y=.int i/\(valV kvs (Sum.inl i)).isSome=true/\D.nx σ (upd H3 a (.dK (dropK kvs (Sum.inl i)))))\/
 ∃(o:Obj) (xs:List fL) (g:Gh) (d:Dat) (b:Addr) (k:NestedKey),H3 a=some (cQ a o)/\fj X.w a o xs/\aq X.K g H3 (xs.map λx=>V.ref x.2.1) (xs.map λx=>x.1.data)/\y=.ref b/\Rep X.K g H3 y d/\jK d=some k/\k.depth<=8/\(atKey xs k).isSome=true/\∀(o':Obj),fj X.w a o' (withoutH xs k)->D.nx σ (upd H3 a (cQ a o')))
theorem Ue(hu:X.A.units+64<cLine)(ho:PE X o td)(hi:PE X i ty):PS X (.Delete [.Subscript o i tpos] pos) (ado X td ty):=by
 refine⟨λpins s σ H D I h=>?_⟩;refine wpAny_Delete (wpAny_deleteEach_cons (wpAny_delete_Subscript (thn (ho.run pins s σ H _ I h) λu s1 ⟨x,H1,I1,rx,q1⟩=>thn (hi.run pins s1 σ H1 _ I1 q1) λiv s2 ⟨y,H2,I2,ry,a,ex,q2⟩=>?_)));subst ex
 obtain rfl:u=Value.ref a:=rx
 rcases q2 with⟨kvs,j,h1,rfl,hl,q⟩|⟨ob,xs,g,d,b,k,h1,h2,h3,rfl,h4,h5,h6,hl,q⟩
 .exact d_delItem (k:=Sum.inl j) I2 h1 ry hl λs3 I3=>wpAny_deleteEach_nil ⟨σ,_,I3,q⟩
 .obtain rfl:iv=Value.ref b:=ry
  obtain⟨p,hp⟩:=Option.isSome_iff_exists.mp hl;refine wpAny_delItem_heap (knd:=nestedKind X.prog X.w) (k:=k) (hsz:=h2.len) (show X.A.in1.units+8<cLine by show X.A.units+1+8<cLine;omega) ⟨key_is I2 h4 h5 rfl,h6⟩ h2.sys (qK I2 h1 h2 rfl h3) hp λh' dd hs'=>?_;obtain⟨o',es,ep,g1,g2,g3,g4,g5,g6⟩:=dd;have nd:fj X.w a o' (withoutH xs k):=⟨h2.sys,g2,⟨es,ep,g3,g4⟩,g6,aha (ahk _ _) h2.len,λx hx=>h2.dep x (ahq.mp hx).1⟩;exact wpAny_deleteEach_nil ⟨σ,_,d_write I2 (by rw[h1];exact True.intro) hs' ⟨o',g1⟩ (uD g1),q o' nd⟩
end
theorem wO{α β:Type}(f:α->β)(c:α->Bool):∀l:List α,(((l.map f).zip l).filter λp=>c p.2).map (·.1)=(l.filter c).map f
 |[]=>rfl
 |a::l=>by
  rw[agy,ag6,ahg,ahg];cases c a
  .exact wO f c l
  .simp only[if_true,agy,wO f c l]
theorem Ve{K:agw}{g:Gh}{H:Hp}(kk:NestedKey):∀{xs:List fL} {vs:List V} {kvs:List (Dat×Dat)},kvs.map (·.1)=xs.map (λx=>x.1.data)->aq K g H (xs.map λx=>V.ref x.2.1) (kvs.map (·.1))->Vals vs (xs.map (·.2.2))->aq K g H vs (kvs.map (·.2))->
  ∃vs',(kvs.filter λp=>!PyData.eqv p.1 kk.data).map (·.1)=(withoutH xs kk).map (λx=>x.1.data)/\aq K g H ((withoutH xs kk).map λx=>V.ref x.2.1) ((kvs.filter λp=>!PyData.eqv p.1 kk.data).map (·.1))/\Vals vs' ((withoutH xs kk).map (·.2.2))/\aq K g H vs' ((kvs.filter λp=>!PyData.eqv p.1 kk.data).map (·.2))
 |[],_,[],_,_,.nil,_=>⟨[],rfl,.nil,.nil,.nil⟩
 |[],_,_::_,h,_,_,_=>by cases h
 |_::_,_,[],h,_,_,_=>by cases h
 |x::xs,_,q::qs,h1,.cons r1 t1,.cons w1 w2,.cons r2 t2=>by
  simp only[agy,List.cons.injEq]at h1;obtain⟨vs',i1,i2,i3,i4⟩:=Ve kk h1.2 t1 w2 t2;have hq:(!PyData.eqv q.1 kk.data)=decide (x.1≠kk):=by rw[h1.1,JL];by_cases hz:x.1=kk<;>simp[hz]
  unfold withoutH;rw[ahg,ahg,hq];cases hb:decide (x.1≠kk) with
  |true=>exact⟨_::vs',by simp only[if_true,agy,h1.1];exact congrArg _ i1,by simp only[if_true,agy];exact .cons r1 i2,by simp only[if_true,agy];exact .cons w1 i3,by simp only[if_true,agy];exact .cons r2 i4⟩
  |false=>
   simp only[agV,if_false];exact⟨vs',i1,i2,i3,i4⟩
theorem Ym{K:agw}{g:Gh}{H:Hp}{α:Type}(c:α->Bool)(key:α->Dat)(dd:Dat->Bool):∀{vs:List V} {kvs:List (Dat×Dat)} {xs:List α},(∀x∈xs,c x=dd (key x))->kvs.map (·.1)=xs.map key->vs.length=xs.length->aq K g H vs (kvs.map (·.2))->
  (kvs.filter λp=>dd p.1).map (·.1)=(xs.filter c).map key/\aq K g H (((vs.zip xs).filter λp=>c p.2).map (·.1)) ((kvs.filter λp=>dd p.1).map (·.2))
 |[],[],[],_,_,_,_=>⟨rfl,.nil⟩
 |[],[],_::_,_,h,_,_=>by cases h
 |[],_::_,_,_,_,_,h=>by cases h
 |_::_,[],_,_,_,_,h=>by cases h
 |_::_,_::_,[],_,h,_,_=>by cases h
 |u::us,q::qs,x::xs,hc,hk,hl,.cons h t=>by
  simp only[agy,List.cons.injEq]at hk;have hq:=hc x agA;rw[<-hk.1]at hq;obtain⟨i1,i2⟩:=Ym c key dd (λy hy=>hc y (agz _ hy)) hk.2 (ahp hl) t;rw[ag6,ahg,ahg,ahg,hq];cases hb:dd q.1 with
  |true=>exact⟨by simp only[if_true,agy,i1,hk.1],by simp only[if_true,agy];exact .cons h i2⟩
  |false=>exact⟨by simpa using i1,by simpa using i2⟩
section
variable{X:Cx}{aj:aC}{W:WX}{o i:Expr}{f:Str}{pos tpos p1:Pos}{fo fk:QF}
theorem Wq(co:dJ X.K aj)(hw:aj.w=X.w)(hu:X.A.units+64<cLine)(ho:QW aj X W o fo)(hb:baseOk o=true)(hk:QE aj X W i fk):SE aj X W false (.Delete [.Subscript (.Attribute o f p1) i tpos] pos) (Dh f fo fk):=by
 refine PS.weak (Ue hu (pe_fld ho (cA hb)) hk) λD σ H ⟨g,ρ,M,I,z⟩=>?_;unfold Dh at z;have k2:=Out.dD (aZ (σ:=σ) z);refine tW.go I (k2.mono (λ_ y=>y) λx y H' c dd ex rx=>y H' _ c dd (Gr.ex ex) (I.ex ex) rx) λod u H2 k3 e2 ru=>?_;have I2:=I.ex e2;split at k3
 .next h i' b kvs hl=>
  obtain⟨a,C,dx,fs,l,rfl,m1,m2,ml,ha,rfl,c1,c2,c3,c4,c5,c6,l1,l2,l3⟩:=qF co I2.wok ru hl;refine⟨a,C,dx,fs,.ref l,rfl,c2,c4,c5,l1,?_⟩;have k3:=Out.dD (aZ (σ:=σ) k3);refine tQ.go I2 (k3.mono (λ_ y=>y) λx y H' c dd ex rx=>y H' _ c dd ((Gr.ex e2).trans (Gr.ex ex)) (I2.ex ex) rx) λkd w H3 k4 e3 rk=>?_;have I3:=I2.ex e3;have l3':=l3.ex e3 I2.kd;refine⟨l,rfl,?_⟩;split at k4
  .next hh hz=>
   obtain⟨ha2,hcase⟩:=z7 hh;rcases hcase with⟨rfl,j,rfl⟩|⟨rfl,ds,kk,rfl,hkk,hdep⟩
   .obtain⟨kv,q1,q2,q3⟩:=l3';cases rk;rw[Ax q2]at ha2;refine .inl ⟨kv,j,q1,rfl,ha2,?_⟩;have hf:=λ(H':Hp)(r:aq X.K g H' (kv.map (·.2)) (kvs.map (·.2)))=>Ym (K:=X.K) (g:=g) (H:=H') (λp:Key×V=>decide (p.1≠Sum.inl j)) (λp=>keyD p.1) (λz=>!PyData.eqv z (.int j)) (vs:=kv.map (·.2)) (kvs:=kvs) (xs:=kv) (λx _=>by
     cases hx:x.1 with
     |inl z=>by_cases hz:z=j<;>simp[keyD,PyData.eqv,hz]
     |inr z=>simp[keyD,PyData.eqv]) q2 (by simp) r
    have ez:(((kv.map (·.2)).zip kv).filter λp=>decide (p.2.1≠Sum.inl j)).map (·.1)=(dropK kv (Sum.inl j)).map (·.2):=wO (·.2) (λp:Key×V=>decide (p.1≠Sum.inl j)) kv;obtain⟨gr,I4⟩:=vH (b:=false) (kvs':=kvs.filter λp=>!PyData.eqv p.1 (.int j)) (o':=.dK (dropK kv (Sum.inl j))) I3 m1 m2 ha c1 (e3 _ _ c2) (c3.ex e3 I2.kd) c6 l1 l2 ahs λgr=>⟨_,ahA,(hf _ (q3.gr gr I3.kd)).1,by
     rw[<-ez];exact(hf _ (q3.gr gr I3.kd)).2⟩
    exact k4 σ _ g ((Gr.ex (e2.trans e3)).trans gr) I4
   .obtain⟨o',xs,vs,q1,q2,q3,q4,q5,q6⟩:=l3';have ek:=mW hkk;rw[<-ek,qY q3]at ha2;rw[hw]at q2;have q4':=q4;rw[q3]at q4';cases rk with
    | @tup bb us _ hs' ht=>
     refine .inr ⟨o',xs,g,_,bb,kk,q1,q2,q4',rfl,.tup hs' ht,hkk,hdep,ha2,λo2 nd=>?_⟩;obtain⟨gr,I4⟩:=vH (b:=true) (kvs':=kvs.filter λp=>!PyData.eqv p.1 (.tuple ds)) (o':=cQ l o2) I3 m1 m2 ha c1 (e3 _ _ c2) (c3.ex e3 I2.kd) c6 l1 l2 ahs λgr=>by
      obtain⟨vs',i1,i2,i3,i4⟩:=Ve kk q3 (q4.gr gr I3.kd) q5 (q6.gr gr I3.kd);rw[ek]at i1 i2 i4;exact⟨o2,withoutH xs kk,vs',ahA,by rw[hw];exact nd,i1,i2,i3,i4⟩
     exact k4 σ _ g ((Gr.ex (e2.trans e3)).trans gr) I4
  .exact aht k4
 .exact aht k3
end
def Yn(l:Addr)(o:Obj)(xs:List fL):It:=
 ⟨λi H=>H l=some (cQ l o)/\i<xs.length,λi H x H'=>H'=H/\∃e,xs[i]?=some e/\x=.ref e.2.1,λi H=>H l=some (cQ l o)/\xs.length<=i⟩
theorem pin_at{X:Cx}{pins:List (Addr×Obj)}{σ:L2.St}{H:Hp}{s:Shared}{l:Addr}{o:Obj}(I:L2.Inv X pins σ H s)(h:H l=some (cQ l o)):s.heap.get? l=some o:=(show ObjOk X.prog X.w H s.heap l (cQ l o) from I.hok l _ h).1
theorem fj.at{w:World}{l:Addr}{o:Obj}{xs:List fL}{es:Array DictEntry}{ep:Nat}(n:fj w l o xs)(h:o.data=.dict es ep):es.size=xs.length/\∀(i:Nat) (e:fL),xs[i]?=some e->∃en,es[i]?=some en/\en.key=.ref e.2.1:=by
 obtain⟨es',ep',h1,h2⟩:=n.ent;rw[h]at h1;cases h1;refine⟨?_,λi e hi=>⟨OD w e,?_,rfl⟩⟩
 .have:=congrArg List.length h2;simpa using this
 .rw[<-ahd,h2,agS,hi];rfl
theorem abC{P:Program}{w:World}{K:agw}{tg:Expr}{l:Addr}{o:Obj}{xs:List fL}{es:Array DictEntry}{ep:Nat}(it:Addr)(n:fj w l o xs)(hod:o.data=.dict es ep):Turn P w K tg (Yn l o xs) [it] it (λi h=>h.IsKeyIter it l i xs.length ep) where
 mem:=agJ.mpr rfl
 obj:=λi h st b hb=>by
  cases agJ.mp hb;obtain⟨oi,e,c,dd⟩:=st;refine⟨oi,e,λv z=>?_⟩;rw[dd]at z;cases z
 keep:=λi h h' st k=>st.at (k it (agJ.mpr rfl))
 item:=by intro X hP hw hK hc i pins s σ H E I hf st hg;subst hP hw hK;obtain⟨g0,g1,g2,g3,g4,g5⟩:=hf it (agJ.mpr rfl);obtain⟨sz,ent⟩:=n.at hod;have hlt:i<xs.length:=hg.2;have hx:xs[i]?=some xs[i]:=agD hlt;obtain⟨en,e1,e2⟩:=ent i _ hx;refine next_key_item st (pin_at I hg.1) hod sz e1 ?_;intro h' st' sb;have J:L2.Inv X pins σ H { s with heap:=h' }:=I.turned (t':=s.toks) (λb ob hb e=>(sb.2 b hb).trans e) g0 g1 g3 g4 g5;obtain⟨oi,a1,a2,a3⟩:=id st';exact⟨en.key,rfl,go_of (s:={ s with heap:=h' }) a1 a2 a3 (by decide) ⟨.ref xs[i].2.1,H,J,e2,⟨rfl,_,hx,rfl⟩,st',λb hb=>(hf b hb).1⟩⟩
 done:=by intro X hP hw hK hc i pins s σ H E I hf st hg;subst hP hw hK;obtain⟨g0,g1,g2,g3,g4,g5⟩:=hf it (agJ.mpr rfl);exact next_key_end (I.ok.hd hc) st (pin_at I hg.1) hod (n.at hod).1 hg.2 λh' eb=>⟨rfl,I.turned (t':=s.toks) (λb ob hb e=>eb b ob hb e) g0 g1 g3 g4 g5⟩
 self:=λA i s Q E st h=>by
  refine wpAny_pyIter_slot st.typeIs PySem.F.slot_dict_keyiterator_iter (wpAny_call_entry PySem.F.slot_dict_keyiterator_iter st.typeIs PySem.F.entry_dict_keyiterator_iter ?_ (PySem.F.args_dict_keyiterator_iter_1 _));exact ahx ⟨_,rfl,"dict_keyiterator",_,st.typeIs,PySem.F.slot_dict_keyiterator_next.lookup,h⟩
def ac8(X:Cx)(td:TE):TI:=λσ H R=>td σ H λx H1=>∃l o xs,x=.ref l/\H1 l=some (cQ l o)/\fj X.w l o xs/\R (Yn l o xs) H1
theorem Zf{X:Cx}{tg e:Expr}{td:TE}(he:PE X e td):PI X tg e (ac8 X td):=by
 constructor;intro pins s σ H R I h;refine thn (he.run pins s σ H _ I h) ?_;rintro u s1 ⟨x,H1,I1,rx,l,o,xs,rfl,hl,n,q⟩
 obtain rfl:u=Value.ref l:=rx
 obtain⟨es,ep,hd,_⟩:=n.ent;refine iter_keys n.sys (pin_at I1 hl) n.ex hd (pi_one (tk:=s1.toks) I1 _ (abC _ n hd) ⟨_,Heap.get?_push_size _ rfl,rfl,?_⟩ q);rw[(n.at hd).1]<;>rfl
theorem Xb{K:agw}{aj:aC}{l:Addr}{o:Obj}{xs:List fL}{ks:List Dat}:sY K (Yn l o xs) (λg H=>H l=some (cQ l o)/\aq K g H (xs.map λx=>V.ref x.2.1) ks) ks where
 go:=λg i H c hi=>⟨c.1,by have:=c.2.length;simp at this;omega⟩
 yld:=λg i H x H' d k c e y=>by
  obtain⟨rfl,en,h1,rfl⟩:=y;obtain⟨v,h2,h3⟩:=c.2.get e;rw[agS,h1]at h2;cases h2;exact⟨Ex.refl _,h3⟩
 stop:=λg i H c e=>⟨c.1,by have:=c.2.length;simp at this;omega⟩
 ex:=λg H H' k c e=>⟨e _ _ c.1,c.2.ex e k⟩
 add:=λg g' H H' k c r e=>⟨e _ _ c.1,c.2.gr r k⟩
def yj(f:Str)(o:QF):IF:=λM ρ=>(o M ρ).bind λod=>match lU M f od with
 |some (_,_,true,kvs)=>.ok (kvs.map (·.1))
 |_=>.bad
def uJ(f:Str)(o:QF):QF:=λM ρ=>(o M ρ).bind λod=>match lU M f od with
 |some (_,_,_,kvs)=>.ok (.list (kvs.map (·.1)))
 |none=>.bad
section
variable{X:Cx}{aj:aC}{W:WX}{o tg:Expr}{f:Str}{pos p p1:Pos}{fo:QF}
theorem Rc(co:dJ X.K aj)(hw:aj.w=X.w)(ho:QW aj X W o fo)(hb:baseOk o=true):QI aj X W false tg (.Attribute o f p1) (yj f fo):=by
 have h0:=Zf (tg:=tg) (pe_fld (X:=X) (pos:=p1) (f:=f) ho (cA hb));refine⟨λpins s σ H R I h=>h0.run pins s σ H R I ?_⟩;obtain⟨g,ρ,M,J,h⟩:=h;unfold yj at h;refine tW.go J h.bnd λod u H1 k2 e1 ru=>?_;have J1:=J.ex e1;split at k2
 .next h i kvs hl=>
  obtain⟨a,C,dx,fs,l,rfl,m1,m2,ml,ha,rfl,c1,c2,c3,c4,c5,c6,l1,l2,o',xs,vs,q1,q2,q3,q4,q5,q6⟩:=qF co J1.wok ru hl;rw[hw]at q2;exact⟨a,C,dx,fs,.ref l,rfl,c2,c4,c5,l1,l,o',xs,rfl,q1,q2,k2 _ _ H1 e1 (Xb (aj:=aj)) ⟨q1,q4⟩ λz=>nomatch z⟩
 .exact aht k2
end
theorem RK{P:Program}{w:World}{A:Around}{l I:Addr}{o:Obj}{xs:List fL}{es:Array DictEntry}{ep:Nat}(hh:A.handled=none)(hne:l≠I)(n:fj w l o xs)(hd:o.data=.dict es ep):Walks P w A I [I,l] [I] xs.length (λi v=>∃e,xs[i]?=some e/\v=Value.ref e.2.1) (λi h=>h.IsKeyIter I l i xs.length ep/\h.get? l=some o) where
 sub:=λb hb=>by simp at hb;simp[hb]
 frame:=λi h h' st k=>⟨st.1.at (k I (by simp)),k l (by simp) o st.2⟩
 item:=λi s Q E hi st hQ=>by
  obtain⟨sz,ent⟩:=n.at hd;have hx:xs[i]?=some xs[i]:=agD hi;obtain⟨en,e1,e2⟩:=ent i _ hx;refine next_key_item st.1 st.2 hd sz e1 ?_;intro h' st' sb;exact hQ en.key h' s.toks ⟨_,hx,e2⟩ ⟨st',(sb.2 l hne).trans st.2⟩ λb ob hb e=>(sb.2 b λz=>hb (by simp[z])).trans e
 done:=λs Q E st hQ=>next_key_end hh st.1 st.2 hd (n.at hd).1 (agL _) λh' eb=>hQ h' s.toks λb ob hb e=>eb b ob (λz=>hb (by simp[z])) e
 self:=λi s Q E st hQ=>wpAny_pyIter_keyiter st.1 hQ
theorem WW{P:Program}{w:World}{l:Addr}{o:Obj}{xs:List fL}(n:fj w l o xs):PySem.W.KdlSrc P w "dict" l l xs.length (λi v=>∃e,xs[i]?=some e/\v=Value.ref e.2.1) (λh=>h.get? l=some o) where
 type:=λs e=>⟨o,e,n.ex.1⟩
 there:=λh e=>⟨Heap.lt_size e,Heap.lt_size e⟩
 keep:=λh h' e k=>k l (.inl rfl) o e
 notList:=by decide
 notTuple:=by decide
 hint:=λA E s Q e hq=>PySem.W.kdl_hint_dict ⟨o,e,n.ex.1⟩ hq
 iter:=λA s hh e=>by
  obtain⟨es,ep,hd,_⟩:=n.ent;refine⟨_,_,λE Q hq=>iter_keys n.sys e n.ex hd hq,RK hh (ag4 (Heap.lt_size e)) n hd,⟨_,Heap.get?_push_size _ rfl,rfl,?_⟩,Heap.get?_push_of_some _ e⟩;rw[(n.at hd).1]<;>rfl
def Nt(X:Cx):List V->Hp->VK->Prop:=λxs H Q=>(∃p kvs,xs=[.ref p]/\H p=some (.dK kvs)/\∀q,H q=none->Q (.ref q) (upd H q (.lst (kvs.map λkv=>kV kv.1))))\/∃p o es,xs=[.ref p]/\H p=some (cQ p o)/\fj X.w p o es/\∀q,H q=none->Q (.ref q) (upd H q (.lst (es.map λe=>V.ref e.2.1)))
theorem MF{X:Cx}(hc:X.calm=true):CallR X (.type "list") (Nt X):=by
 intro pins s σ H xs us Q I r h;rcases h with h|⟨p,o,es,rfl,hp,n,q⟩
 .exact call_list_dK hc pins s σ H xs us Q I r h
 .obtain⟨u,rfl,rx⟩:=vals1 r
  obtain rfl:u=Value.ref p:=rx
  refine PySem.W.kdl_call (WW n) (I.ok.hd hc) (pin_at I hp) n.len ?_;intro h' tk acc c' keep hS hacc;have el:acc.toList.length=es.length:=by rw[agX];exact hacc.1
  refine⟨.ref s.heap.objs.size,upd H s.heap.objs.size (.lst (es.map λe=>V.ref e.2.1)),I.laid keep (agL _) (show ObjOk X.prog X.w _ _ _ (.lst (es.map λe=>V.ref e.2.1)) from⟨by rw[agB];exact n.len,acc.toList,c',?_,?_⟩),rfl,q _ (I.hok.fresh (agL _))⟩
  .refine vals_of_at (by rw[agB,el]) λj x w h1 h2=>?_;obtain⟨e,he,rfl⟩:=hacc.2 j w (by rw[<-ahd];exact h2);rw[agS,he]at h1;cases h1;rfl
  .rw[Array.toArray_toList];exact hS
section
variable{X:Cx}{aj:aC}{W:WX}{o e:Expr}{f:Str}{pos p p1 pos':Pos}{fo:QF}
theorem Gn{K:agw}{g:Gh}{H:Hp}:∀{kv:List (Key×V)} {kvs:List (Dat×Dat)},kvs.map (·.1)=kv.map (λp=>keyD p.1)->aq K g H (kv.map λp=>kV p.1) (kvs.map (·.1))
 |[],[],_=>.nil
 |[],_::_,h=>by cases h
 |_::_,[],h=>by cases h
 |a::kv,b::kvs,h=>by
  simp only[agy,List.cons.injEq]at h;rw[agy,agy,h.1];refine .cons ?_ (Gn h.2);cases a.1 with
  |inl i=>exact .int i
  |inr x=>exact .str x
theorem Uv(co:dJ X.K aj)(hw:aj.w=X.w)(σ:L2.St)(H:Hp)(Q:VK)(h:tQ X.K aj W (uJ f fo) σ H Q):tFld X.K (tW X.K aj W fo) f σ H λx H1=>Nt X [x] H1 Q:=by
 obtain⟨g,ρ,M,J,h⟩:=h;unfold uJ at h;refine tW.go J h.bnd λod u H1 k2 e1 ru=>?_;have J1:=J.ex e1;split at k2
 .next h i b kvs hl=>
  obtain⟨a,C,dx,fs,l,rfl,m1,m2,ml,ha,rfl,c1,c2,c3,c4,c5,c6,l1,l2,l3⟩:=qF co J1.wok ru hl;refine⟨a,C,dx,fs,.ref l,rfl,c2,c4,c5,l1,?_⟩;cases b with
  |false=>
   obtain⟨kv,q1,q2,q3⟩:=l3;exact .inl ⟨l,kv,rfl,q1,λq nq=>k2 (.ref q) _ (e1.trans (Ex.new nq)) (.lst (.inl ⟨ahA,J1.kd.fresh nq⟩) (Gn q2))⟩
  |true=>
   obtain⟨o',xs,vs,q1,q2,q3,q4,q5,q6⟩:=l3;rw[hw]at q2;exact .inr ⟨l,o',xs,rfl,q1,q2,λq nq=>k2 (.ref q) _ (e1.trans (Ex.new nq)) (.lst (.inl ⟨ahA,J1.kd.fresh nq⟩) (q4.ex (Ex.new nq) J1.kd))⟩
 .exact aht k2
theorem TV(co:dJ X.K aj)(hw:aj.w=X.w)(hc:X.calm=true)(hg:Gl X "list")(hm:X.mg "list"=none)(ho:QW aj X W o fo)(hb:baseOk o=true):QE aj X W (.Call (.Name "list" p) [.Attribute o f p1] [] pos) (uJ f fo):=by
 have h1:=pa_cons (pe_fld (X:=X) (pos:=p1) (f:=f) ho (cA hb)) pa_nil (aH rfl []);have hv:BV (.type "list") "list":=⟨by decide +kernel,by decide,by decide⟩
 refine PE.weak (pe_callTy (pos:=pos) (p:=p) (MF hc) hg hm hv.1 h1 hv.2.1 hv.2.2 (aH rfl []) (by with_unfolding_all rfl)) λσ H Q h=>?_;exact Uv co hw σ H Q h
def Dg(ft:Ft)(o:QF)(f:Str)(b:Bool):SF:=λM ρ=>((o (M++[⟨"",[]⟩]) ρ).at (M++[⟨"",[]⟩])).then ρ λod M2=>match eV M2 od with
 |some (h,i)=>match ft.has i.cls f&&decide (i.fs.length<100) with
  |true=>.next ρ (M2.set h (i.put f (.dic b [])))
  |false=>.bad
 |none=>.bad
def acz(X:Cx)(b:Bool):TE:=λ_ H Q=>∀p,H p=none->match b with
 |false=>Q (.ref p) (upd H p (.dK []))
 |true=>∀o,fj X.w p o []->Q (.ref p) (upd H p (cQ p o))
theorem Wt{b:Bool}:PE X (.Dict [] [] pos) (acz X b):=by
 cases b with
 |false=>exact PE.weak pe_dnewK λσ H Q h p np=>h p np
 |true=>
  refine⟨λpins s σ H Q I h=>wpAny_Dict_empty ?_⟩;have hz:(s.heap.push { cls:=.type "dict",data:=.dict #[] }).get? s.heap.objs.size=some { cls:=.type "dict",data:=.dict #[] }:=Heap.get?_push_size _ rfl
  have hs:(s.heap.objs.size==sysModules)=false:=beq_eq_false_iff_ne.mpr (Ne.symm (ag4 I.big));exact⟨.ref s.heap.objs.size,_,I.laid (a:=s.heap.objs.size) (o:=cQ s.heap.objs.size _) (t':=s.toks) (λ_ _ q=>Heap.get?_push_of_some _ q) (agL _) (uD hz),rfl,h _ (I.hok.fresh (agL _)) _ ⟨hs,⟨rfl,rfl,rfl⟩,⟨#[],0,rfl,rfl⟩,List.nodup_nil,agO _,λx hx=>absurd hx agY⟩⟩
theorem Vr{ft:Ft}{b:Bool}(co:dJ X.K aj)(fk:uQ ft aj)(hw:aj.w=X.w)(ho:QW aj X W o fo)(hs:swapsWith (.Dict [] [] p) (some (.Attribute o f pos')) pos.line X.env=pure false):SE aj X W false (.Assign [.Attribute o f pos'] (.Dict [] [] p) pos) (Dg ft fo f b):=by
 refine PS.weak (ps_fld ho (Wt (b:=b)) hs) λD σ H ⟨g,ρ,M,I,z⟩=>?_;have core:∀(l:Addr) (ob:HO),H l=none->sO ob->(∀(g':Gh) (H':Hp),H' l=some ob->dR X.K aj g' H' l b [])->tW X.K aj W fo σ (upd H l ob) (λx H2=>∃a C dx fs,x=.ref a/\H2 a=some (.ins C dx fs)/\Cls X.K C/\NoAttr X.K C f/\fs.length<1000/\D.nx σ (upd H2 a (.ins C dx (putF f (.ref l) fs)))):=by
  intro l ob nl mu at';obtain⟨gr,I1,tb,ow,mm⟩:=uK I nl (Ex.new nl) ahA mu;unfold Dg at z;have k1:=Out.dD (aZ (σ:=σ) z);refine tW.go I1 (k1.mono (λ_ y=>y) λx y H' c dd ex rx=>y H' _ c dd (gr.trans (Gr.ex ex)) (I1.ex ex) rx) λod u H2 k2 e2 ru=>?_;have I2:=I1.ex e2;split at k2
  .next h i hi=>
   split at k2
   .next hb=>
    rw[agx]at hb;obtain⟨a,C,dx,fs,_,m1,m2,ha,rfl,c1,c2,c3,c4,c5,c6⟩:=qT co fk I2.wok ru hi hb.1;have nla:l≠a:=λz=>by
     subst z;cases I2.wok.inj _ _ _ ha tb;rw[mm]at m1;cases m1;exact m2 rfl
    refine⟨a,C,dx,fs,rfl,c2,c4,c5,?_,?_⟩
    .have:=ahv hb.2;rw[c3.len];omega
    .have ch:=zW (f:=f) (C:=C) (dx:=dx) (fs':=putF f (.ref l) fs) I2.kd I2.wok ha m1 m2 tb mm ow;have w':=I2.wok.chg I2.kd ch ha m1 m2 c6 c1 c3 ahA (v:=.ref l) (fl:=.dic b []) ⟨l,rfl,ahy rfl,at' _ _ (by rw[upd_ne nla];exact e2 _ _ ahA)⟩;exact k2 σ _ _ ((gr.trans (Gr.ex e2)).trans ch.gc.gr) (I2.chg ch w')
   .exact aht k2
  .exact aht k2
 intro l nl;cases b with
 |false=>exact core l _ nl ahs λg' H' h=>⟨[],h,rfl,.nil⟩
 |true=>exact λob nd=>core l _ nl ahs λg' H' h=>⟨ob,[],[],h,by rw[hw];exact nd,rfl,.nil,.nil,.nil⟩
end
def X6(X:Cx)(D:Addr)(vs:List Nat)(g:TG)(tk:TE)(σ:L2.St)(Nx:Hp->Prop)(x:V)(H:Hp):Prop:=
 g x (L2.wipe σ vs) H λσ2 H2=>L2.wipe σ2 vs=L2.wipe σ vs/\tk σ2 H2 λy H4=>∃(o:Obj) (xs:List fL) (gg:Gh) (d:Dat) (b:Addr) (k:NestedKey),y=.ref b/\H4 D=some (cQ D o)/\fj X.w D o xs/\aq X.K gg H4 (xs.map λx=>V.ref x.2.1) (xs.map λx=>x.1.data)/\Rep X.K gg H4 y d/\jK d=some k/\k.depth<=8/\xs.length<sizeLine/\
  ∀o',fj X.w D o' (storedH xs k b (.bool true))->Nx (upd H4 D (cQ D o'))
def ZR(X:Cx)(wi:TI)(g:TG)(tk:TE)(vs:List Nat):TE:=λσ H Q=>wi σ H λJ H1=>∀D,H1 D=none->∃W:Nat->Nat->Hp->Prop,(∃m,∀o,fj X.w D o []->W 0 m (upd H1 D (cQ D o)))/\
 ∀i m H,W i m H->(J.stop i H/\Q (.ref D) H)\/(J.go i H/\∃Nx:Hp->Prop,(∀H',Nx H'->∃m',m'<m/\W (i+1) m' H')/\∀x H',J.yld i H x H'->X6 X D vs g tk σ Nx x H')
section
variable{X:Cx}
theorem Tp{pins:List (Addr×Obj)}{σ:L2.St}{H:Hp}{s:Shared}{E:Value->Shared->Prop}{D b:Addr}{o:Obj}{xs:List fL}{gg:Gh}{d:Dat}{k:NestedKey}{u:Value}{Q:Unit->Shared->Prop}(hu:X.A.units+64<cLine)(I:L2.Inv X pins σ H s)(hD:H D=some (cQ D o))(n:fj X.w D o xs)(hr:aq X.K gg H (xs.map λx=>V.ref x.2.1) (xs.map λx=>x.1.data))(hk:Rep X.K gg H (.ref b) d)(hd:jK d=some k)(h8:k.depth<=8)(hz:xs.length<sizeLine)(ru:RelV (.bl true) u)
  (q:∀s' o',fj X.w D o' (storedH xs k b (.bool true))->L2.Inv X pins σ (upd H D (cQ D o')) s'->Q () s'):wpAny (model X.prog X.w) X.A (dictSet D (.ref b) u) Q E s:=by
 obtain rfl:u=.bool true:=ru
 refine wpAny_dictSet_heap (knd:=nestedKind X.prog X.w) (k:=k) (hsz:=Nat.le_of_lt hz) (show X.A.units+8<cLine by omega) ⟨key_is I hk hd rfl,h8⟩ (qK I hD n rfl hr) ?_;intro h' dd hs';obtain⟨o',es,ep,g1,g2,g3,g4,g5,g6⟩:=dd;have nd:fj X.w D o' (storedH xs k b (.bool true)):=⟨n.sys,g2,⟨es,ep,g3,g4⟩,g6,by have:=xQ (xs:=xs) (k:=k) (b:=b) (u:=.bool true);omega,yH n.dep h8⟩;exact q _ o' nd (d_write I (by rw[hD];exact True.intro) hs' ⟨o',g1⟩ (uD g1))
theorem aaP{kx tg iter:Expr}{scope:Scope}{own:List (PySem.Str×Nat)}{pos vp:Pos}{vj:Nat}{wi:TI}{g:TG}{tk:TE}(hc:X.calm=true)(hN:X.N.Nodup)(hu:X.A.units+64<cLine)(hi:PI X tg iter wi)(ok:BlkOk X.N X.env.scope scope own)
  (hg:∀(t:Shared) (G:Hp) (C:Addr) (cl:List (PySem.Str×Addr)) (fp:List Addr),PG (X.blk t G scope (compEnvC scope cl C X.env) fp) tg g)
  (hk:∀(t:Shared) (G:Hp) (C:Addr) (cl:List (PySem.Str×Addr)) (fp:List Addr),PE (X.blk t G scope (compEnvC scope cl C X.env) fp) kx tk) (hs:∀x,foldedSetIterable iter X.env x=pure x) :
  PE X (.DictComp kx (.Constant (.bool true) vj vp) [⟨tg,iter,[],0⟩] scope pos) (ZR X wi g tk (own.map (·.2))):=by
 refine⟨λpins s σ H Q I h=>?_⟩;rw[arm_eval_DictComp];have cells:∀y∈scope.names,y.2=.free->∃c,X.env.cells.lookup y.1=some c:=λy hy e=>(ok.free y hy e).elim (λk=>I.ok.has _ (.inl k)) (λk=>I.ok.has _ (.inr k));refine wpAny_comprehension_free rfl hs (closure_ok cells) ok.kind (λy hy e=>by rw[ok.uniq y hy,e]) (thn (hi.run pins s σ H _ I h) λ_ _ hx=>thn hx λitv t0 h0=>?_);obtain⟨it,fp,tn,J,G0,rfl,I0,T,st0,f0,q⟩:=h0;refine wpAny_newObj_type (newEnv_comp ?_)
 -- the new dict,at D
 obtain⟨D,hD⟩:∃D,D=t0.heap.objs.size:=⟨_,rfl⟩;rw[<-hD];obtain⟨W,⟨m0,w00⟩,turn⟩:=q D (I0.hok.fresh (Nat.le_of_eq hD.symm));obtain⟨ob,hob⟩:∃ob:Obj,ob={ cls:=.type "dict",data:=.dict #[] }:=⟨_,rfl⟩
 have nd0:fj X.w D ob []:=by rw[hob];exact⟨by rw[hD];exact beq_eq_false_iff_ne.mpr (Ne.symm (ag4 I0.big)),⟨rfl,rfl,rfl⟩,⟨#[],0,rfl,rfl⟩,List.nodup_nil,agO _,λx hx=>absurd hx agY⟩
 have w0:=w00 ob nd0;rw[<-hob];obtain⟨t1,ht1⟩:∃t1:Shared,t1={ t0 with heap:=t0.heap.push ob }:=⟨_,rfl⟩;obtain⟨G1,hG1⟩:∃G1,G1=upd G0 D (cQ D ob):=⟨_,rfl⟩;rw[<-hG1]at w0;have grow:∀b o,t0.heap.get? b=some o->t1.heap.get? b=some o:=λb o e=>by rw[ht1];exact Heap.get?_push_of_some _ e
 have I1:L2.Inv X pins σ G1 t1:=by rw[ht1,hG1];refine I0.laid (t':=t0.toks) (λb o e=>Heap.get?_push_of_some _ e) (Nat.le_of_eq hD.symm) (uD ?_);rw[hD];exact Heap.get?_push_size _ (by rw[hob];rfl)
 have small:∀b∈fp,b<t0.heap.objs.size:=λb hb=>by
  obtain⟨o,e,_⟩:=T.obj _ _ st0 b hb;exact Heap.lt_size e
 have f1:∀b∈fp,FpOk X pins G1 b/\b<t1.heap.objs.size:=λb hb=>by
  have hlt:=small b hb;refine⟨⟨?_,(f0 b hb).2⟩,by rw[ht1];show b<(t0.heap.push ob).objs.size;rw[Heap.size_push];exact ahf hlt⟩;rw[hG1,upd_ne (by rw[hD];exact ag4 hlt)];exact(f0 b hb).1
 have st1:tn 0 t1.heap:=T.keep _ _ _ st0 λb _ o e=>grow b o e;have I2:=block_start I1 ok hN f1;have pg:=hg t1 G1 t1.heap.objs.size (cellsFrom (t1.heap.objs.size+1) scope.names (cloFrom X.env.cells scope.names [])) fp;have pk:=hk t1 G1 t1.heap.objs.size (cellsFrom (t1.heap.objs.size+1) scope.names (cloFrom X.env.cells scope.names [])) fp;have none1:∀b∈fp,G1 b=none:=λb hb=>(f1 b hb).1.1;rw[show({ t0 with heap:=t0.heap.push ob }:Shared)=t1 from ht1.symm];obtain⟨ce,hce⟩:∃ce,ce=compEnvC scope (cellsFrom (t1.heap.objs.size+1) scope.names (cloFrom X.env.cells scope.names [])) t1.heap.objs.size X.env:=⟨_,rfl⟩;rw[<-hce]at I2 pg pk;have cL:ce.locals=t1.heap.objs.size:=by rw[hce];rfl
 obtain⟨t2,ht2⟩:∃t2:Shared,t2={ t1 with heap:=pushCells (t1.heap.push { cls:=.type "dict",data:=.dict #[] }) scope.names }:=⟨_,rfl⟩
 rw[<-ht2]at I2;have st2:tn 0 t2.heap:=T.keep _ _ _ st1 λb _ o e=>by rw[ht2];exact pushCells_keeps _ _ _ _ (Heap.get?_push_of_some _ e)
 have still:∀{σ':L2.St} {G':Hp} {t':Shared},L2.Inv (X.blk t1 G1 scope ce fp) [] σ' G' t'->(∀b∈fp,G' b=none)->∀b∈fp,FpOk (X.blk t1 G1 scope ce fp) [] G' b:=λI' hn b hb=>
  ⟨hn b hb,(I'.ok.exf b hb).1,I'.ok.exfs b hb,.inl hb,λx c e=>(I'.ok.exf b hb).2 x c e,λp hp=>absurd (show p∈([]:List (Addr×Obj))++[] from hp) (by simp)⟩
 have pt:PTs (X.blk t1 G1 scope ce fp) [] tYes:=pts_nil;have pv:PE (X.blk t1 G1 scope ce fp) (.Constant (.bool true) vj vp) (tC (.bl true)):=pe_bl;have loop:codeAny (model X.prog X.w) X.A (.compLoop (.DictComp kx (.Constant (.bool true) vj vp) [⟨tg,iter,[],0⟩] scope pos) 0 (.ref it) (.ref D) ce) (compPost (model X.prog X.w) X.A X.xe none (EP X pins σ Q) (.ref D) t1.heap.objs.size) t2:=by
  refine compLoop_anyD (λn t'=>∃i G',L2.Inv (X.blk t1 G1 scope ce fp) [] (L2.wipe σ (own.map (·.2))) G' t'/\tn i t'.heap/\(∀b∈fp,G' b=none)/\W i n G') ?_ m0 ⟨0,G1,I2,st2,none1,w0⟩;rintro n t3 ⟨i,G3,I3,st3,n3,w3⟩;rcases turn i n G3 w3 with⟨stop,fin⟩|⟨go,Nx,hNx,step⟩
  .refine thnF (T.done (X.blk t1 G1 scope ce fp) rfl rfl rfl hc i [] t3 _ G3 (λ_ _=>False) I3 (still I3 n3) st3 stop) λr t4 ⟨hr,I4⟩=>?_;subst hr;have I5:L2.Inv X pins σ G3 t4:=I1.call' (ch:=fp) I4.os I4.base I4.hok I4.bare λb hb=>⟨(f1 b hb).1.2.2.2.1,(f1 b hb).1.2.1,(f1 b hb).1.2.2.2.2.1,(f1 b hb).1.2.2.2.2.2⟩;have nC:G3 t1.heap.objs.size=none:=by rw[<-cL];exact I4.free
   obtain⟨m,hn,_⟩:=I4.loc;have hn':t4.heap.Ns t1.heap.objs.size m:=by rw[<-cL];exact hn
   obtain⟨a0,a1,_,a3,a4,a5⟩:=I1.fpOk (agL _) nC;exact⟨m,hn',λh'' sb=>⟨.ref D,G3,I5.turned (t':=t4.toks) (λb o hb e=>(sb.2 b hb).trans e) a0 a1 a3 a4 a5,rfl,fin⟩⟩
  .refine thnF (T.item (X.blk t1 G1 scope ce fp) rfl rfl rfl hc i [] t3 _ G3 (λ_ _=>False) I3 (still I3 n3) st3 go) λr t4 ⟨u,hr,h4⟩=>?_;subst hr;refine thnF h4 λ_ t5 ⟨x,G5,I5,r5,y5,st5,n5⟩=>?_;refine thnF (pg.run _ t5 _ G5 x u _ (I5.pinned (still I5 n5) (T.obj _ _ st5)) r5 (step x G5 y5)) λ_ t6 ⟨σ6,G6,I6,hw6,q6⟩=>?_;refine thnF (pt.run _ t6 σ6 G6 (λb G=>b=true/\G=G6) I6 ⟨rfl,rfl⟩) λb t7 ⟨G7,I7,hb7,hG7⟩=>?_;subst hb7 hG7;have over:∀{t':Shared} {G':Hp},L2.Inv (X.blk t1 G1 scope ce fp) ([]++pinsAt fp t5.heap) σ6 G' t'->Nx G'->∃m,m<n/\∃i G',L2.Inv (X.blk t1 G1 scope ce fp) [] (L2.wipe σ (own.map (·.2))) G' t'/\tn i t'.heap/\(∀b∈fp,G' b=none)/\W i m G':=λ{t' G'} I' nx=>by
    obtain⟨m',hm,w'⟩:=hNx G' nx;have pin:∀b∈fp,∀o,t5.heap.get? b=some o->t'.heap.get? b=some o/\G' b=none:=λb hb o e=>
     let z:=I'.pin (b,o) (ahi _ (ahi _ (mem_pinsAt hb e)))
     ⟨z.1,z.2.1⟩
    refine⟨m',hm,i+1,G',(I'.unpinned (pins:=[])).weak (by rw[<-hw6,wipe_length]) (λj v e=>?_),T.keep _ _ _ st5 λb hb o e=>(pin b hb o e).1,λb hb=>?_,w'⟩
    .rw[<-hw6]at e;exact(wipe_some e).1
    .obtain⟨o,e,_⟩:=T.obj _ _ st5 b hb;exact(pin b hb o e).2
   simp only[if_true];refine thnF (pk.run _ t7 σ6 _ _ I7 q6) λz t8 ⟨yv,G8,I8,r8,o8,xs8,g8,d8,b8,k8,ey,hD8,n8,hr8,hk8,hd8,h88,hz8,nx⟩=>?_;subst ey
   obtain rfl:z=Value.ref b8:=r8
   refine thnF (pv.run _ t8 σ6 G8 (λv G=>v=.bl true/\G=G8) I8 ⟨rfl,rfl⟩) λz2 t9 ⟨y9,G9,I9,r9,hv9,hG9⟩=>?_;subst hv9 hG9;exact Tp (X:=X.blk t1 G1 scope ce fp) hu I9 hD8 n8 hr8 hk8 hd8 h88 hz8 r9 λs' o' nd I10=>over I10 (nx o' nd)
 have done:=codeAny_compStart_dict loop (T.self X.A 0 _ _ _ st2 loop);rw[hce,ht2]at done;subst hob;exact done
end
def sW(tg:bT)(tk:QF)(M:Mo)(ρ:Env):List Dat->List (Dat×Dat)->Out (List (Dat×Dat))
 |[],acc=>.ok acc
 |d::ds,acc=>match tg d ρ with
  |none=>.bad
  |some Z1=>(mX (tk M Z1)).bind λkd=>(dhas true acc kd).bind λr=>sW tg tk M ρ ds (match r with
   |true=>acc
   |false=>acc++[(kd,.bool true)])
def Yv(it:IF)(tg:bT)(vs:List Nat)(tk:QF):Mo->Env->Out (List (Dat×Dat)):=λM ρ=>(it M ρ).bind λds=>Out.when (decide (ds.length<=50000)) (sW tg tk M (aO ρ vs) ds [])
def Yx(K:agw)(aj:aC)(W:WX)(f:Mo->Env->Out (List (Dat×Dat))):TE:=λσ H Q=>∃g ρ M,SInv K aj σ H g ρ M/\(f M ρ).sat (λkvs=>∀l o H',H l=none->Ex H H'->H' l=some (cQ l o)->dR K aj (g.add l) H' l true kvs->Q (.ref l) H') (gM K aj W g H σ)
section
variable{X:Cx}{aj:aC}{W:WX}
theorem Bg{tg:bT}{tk:QF}{M:Mo}{ρ:Env}:∀{ds:List Dat} {acc:List (Dat×Dat)} {x:bK},sW tg tk M ρ ds acc≠.exc x
 |[],_,_,h=>nomatch h
 |d::ds,acc,x,h=>by
  rw[sW]at h;split at h
  .cases h
  .next Z1 e=>
   cases h1:tk M Z1 with
   |bad=>rw[h1]at h;cases h
   |exc y=>rw[h1]at h;cases h
   |ok kd=>
    rw[h1]at h;have h:((dhas true acc kd).bind λr=>sW tg tk M ρ ds (match r with
     |true=>acc
     |false=>acc++[(kd,.bool true)]))=.exc x:=h
    cases h2:dhas true acc kd with
    |bad=>rw[h2]at h;cases h
    |exc y=>
     unfold dhas at h2;split at h2
     .cases h2
     .split at h2
      .split at h2<;>cases h2
      .cases h2
     .cases h2
    |ok r=>
     rw[h2]at h;exact Bg h
theorem Us{xs:List fL}{k:NestedKey}(h:∀x∈xs,x.2.2=.bool true):xs.map (putAt k (.bool true))=xs:=by
 have:∀x∈xs,putAt k (.bool true) x=x:=λx hx=>by
  unfold putAt;split
  .obtain⟨a,b,c⟩:=x;have:c=.bool true:=h _ hx;rw[this]
  .rfl
 calc xs.map (putAt k (.bool true))=xs.map id:=List.map_congr_left this
  _=xs:=List.map_id xs
theorem J8:∀{xs:List fL},(∀x∈xs,x.2.2=.bool true)->Vals (List.replicate xs.length (.bl true)) (xs.map (·.2.2))
 |[],_=>.nil
 |x::xs,h=>by
  rw[agC,List.replicate_succ,agy,h x agA];exact .cons rfl (J8 λy hy=>h y (agz _ hy))
theorem JF{K:agw}{g:Gh}{H:Hp}:∀{kvs:List (Dat×Dat)} {n:Nat},n=kvs.length->(∀p∈kvs,p.2=.bool true)->aq K g H (List.replicate n (.bl true)) (kvs.map (·.2))
 |[],_,h,_=>by subst h;exact .nil
 |p::kvs,_,e,h=>by
  subst e;rw[agC,List.replicate_succ,agy,h p agA];exact .cons (.bl true) (JF rfl λy hy=>h y (agz _ hy))
theorem abB{it:IF}{tg:bT}{js vs:List Nat}{tk:QF}(hw:aj.w=X.w)(hj:∀j∈js,j∈vs)(σ:L2.St)(H:Hp)(Q:VK)(h:Yx X.K aj W (Yv it tg vs tk) σ H Q) :
  ZR X (tI X.K aj W false it) (lO X.K aj js tg) (tQ X.K aj WF tk) vs σ H Q:=by
 obtain⟨g,ρ,M,I,h⟩:=h;refine⟨g,ρ,M,I,h.bnd.mono (λds hk J C H1 e1 w c _ D nD=>?_) λ_ z=>z⟩;obtain⟨hz,hk⟩:=hk.dN;have hlen:=ahv hz;obtain⟨total,htot,hQ⟩:∃total,sW tg tk M (aO ρ vs) ds []=.ok total/\∀l o H',H l=none->Ex H H'->H' l=some (cQ l o)->dR X.K aj (g.add l) H' l true total->Q (.ref l) H':=by
  cases hc:sW tg tk M (aO ρ vs) ds [] with
  |bad=>rw[hc]at hk;exact aht hk
  |exc x=>exact absurd hc Bg
  |ok total=>
   rw[hc]at hk;exact⟨total,rfl,hk⟩
 have I1:=(I.ex e1).wipe vs;have kD:∀{Ha:Hp} {o:Obj},Ex H1 Ha->Ha D=some (cQ D o)->SInv X.K aj (L2.wipe σ vs) Ha (g.add D) (aO ρ vs) M:=λea hu=>I1.add nD ea hu ahs
 let Pv:Nat->Hp->Prop:=λi Ha=>Ex H1 Ha/\i<=ds.length/\∃o xs acc,Ha D=some (cQ D o)/\fj X.w D o xs/\acc.map (·.1)=xs.map (λx=>x.1.data)/\aq X.K (g.add D) Ha (xs.map λx=>V.ref x.2.1) (acc.map (·.1))/\(∀x∈xs,x.2.2=.bool true)/\(∀p∈acc,p.2=.bool true)/\acc.length<=i/\sW tg tk M (aO ρ vs) (ds.drop i) acc=.ok total
 refine⟨λi m Ha=>m=ds.length-i/\Pv i Ha,⟨ds.length,λo n0=>⟨rfl,Ex.new nD,agO _,o,[],[],ahA,n0,rfl,.nil,λx hx=>absurd hx agY,λx hx=>absurd hx agY,agL _,by rw[ahb];exact htot⟩⟩,?_⟩;rintro i m Ha ⟨rfl,ea,hi,o,xs,acc,hu,nd,hK,hR,hT,hA,hy,hs⟩;have Ia:=kD ea hu;have Ca:=w.add g (g.add D) H1 Ha (I.kd.ex e1) c (Gh.oW nD ea) ea;have lxs:xs.length=acc.length:=by have:=congrArg List.length hK;simpa using this.symm
 by_cases hlt:i<ds.length
 .refine .inr ⟨w.go _ i Ha Ca hlt,Pv (i+1),λH' p=>⟨ds.length-(i+1),by omega,rfl,p⟩,λx H' y=>?_⟩;have hd:ds[i]?=some ds[i]:=agD hlt;obtain⟨e2,rx⟩:=w.yld _ i Ha x H' _ Ia.kd Ca hd y;have I2:=Ia.ex e2;rw[ag9 hlt,sW]at hs;split at hs
  .cases hs
  .next Z1 he=>
   refine⟨g.add D,_,M,_,Z1,I2,rx,he,λws I3=>⟨j5 js ws _ vs hj |>.trans (m9 σ vs),?_⟩⟩;cases htk:tk M Z1 with
   |bad=>rw[htk]at hs;cases hs
   |exc z=>rw[htk]at hs;cases hs
   |ok kd=>
    rw[htk]at hs;have hs:((dhas true acc kd).bind λr=>sW tg tk M (aO ρ vs) (ds.drop (i+1)) (match r with
     |true=>acc
     |false=>acc++[(kd,.bool true)]))=.ok total:=hs
    refine⟨g.add D,Z1,M,I3,?_⟩;rw[htk];intro v H4 e4 ry;have I4:=I3.ex e4;have hu4:=e4 _ _ (e2 _ _ hu);have hR4:=(hR.ex e2 Ia.kd).ex e4 I2.kd;cases hh:dhas true acc kd with
    |bad=>rw[hh]at hs;cases hs
    |exc z=>rw[hh]at hs;cases hs
    |ok r=>
     rw[hh]at hs;obtain⟨ha2,hcase⟩:=z7 hh;rcases hcase with⟨z,_⟩|⟨_,dd,kk,rfl,hkk,hdep⟩
     .cases z
     .have ek:=mW hkk;rw[<-ek,qY hK]at ha2;have hRx:=hR4;rw[hK]at hRx;cases ry with
      | @tup bb us _ hs' ht=>
       refine⟨o,xs,g.add D,_,bb,kk,rfl,hu4,nd,hRx,.tup hs' ht,hkk,hdep,sz_lt (by omega),λo' nd'=>?_⟩;have eD:Ex H1 (upd H4 D (cQ D o')):=Ex.mut ((ea.trans e2).trans e4) nD;have lD:(g.add D).Lo D:=.inr rfl;have up:Gr true (g.add D) (g.add D) H4 (upd H4 D (cQ D o')):=Gr.upd I4.kd hu4 (.inr lD);cases r with
       |true=>
        obtain⟨q,hq⟩:=Option.isSome_iff_exists.mp ha2;rw[storedH_old hq,Us hT]at nd';exact⟨eD,hlt,o',xs,acc,ahA,nd',hK,hR4.gr up I4.kd,hT,hA,by omega,hs⟩
       |false=>
        have hn:atKey xs kk=none:=by
         cases hv:atKey xs kk with
         |none=>rfl
         |some _=>rw[hv]at ha2;cases ha2
        rw[storedH_new hn]at nd';have hs:sW tg tk M (aO ρ vs) (ds.drop (i+1)) (acc++[(.tuple dd,.bool true)])=.ok total:=hs;refine⟨eD,hlt,o',xs++[(kk,bb,.bool true)],acc++[(.tuple dd,.bool true)],ahA,nd',by simp[hK,ek],?_,?_,?_,by simp;omega,hs⟩
        .rw[ahc,ahc];exact(hR4.gr up I4.kd).back ((Rep.tup hs' ht).gr up I4.kd)
        .intro x hx;rcases ag5.mp hx with z|z
         .exact hT x z
         .rw[agJ.mp z]
        .intro x hx;rcases ag5.mp hx with z|z
         .exact hA x z
         .rw[agJ.mp z]
 .have e:i=ds.length:=by omega
  refine .inl ⟨w.stop _ i Ha Ca e,?_⟩;rw[e,ahe]at hs;cases hs;exact hQ D o Ha (jM e1 D nD) (e1.trans ea) hu ⟨o,xs,List.replicate xs.length (.bl true),hu,by rw[hw];exact nd,hK,hR,J8 hT,JF lxs hA⟩
def Di(ft:Ft)(o:QF)(f:Str)(e:Mo->Env->Out (List (Dat×Dat))):SF:=λM ρ=>((e M ρ).at M).then ρ λkvs _=>((o (M++[⟨"",[]⟩]) ρ).at (M++[⟨"",[]⟩])).then ρ λod M2=>match eV M2 od with
 |some (h,i)=>match ft.has i.cls f&&decide (i.fs.length<100) with
  |true=>.next ρ (M2.set h (i.put f (.dic true kvs)))
  |false=>.bad
 |none=>.bad
end
theorem Ei{K:agw}{g:Gh}{H:Hp}{l:Addr}{vs:List V}{ds:List Dat}(h:aq K (g.add l) H vs ds):aq K (g.push l) H vs ds:=aq.mv (g:=g.add l) (g':=g.push l) rfl (λh a z=>by
  have z:g.tbl[h]?=some a:=z
  show(g.tbl++[l])[h]?=some a
  rw[agM (agE.mp z).1];exact z) (λa z=>by
  rcases Et z with z|rfl
  .rcases z with z|z|z
   .exact .inl z
   .exact .inr (.inl z)
   .exact .inr (.inr (show g.Lo a\/a=l from Or.inl z))
  .exact .inr (.inr (show g.Lo a\/a=a from Or.inr rfl))) h
section
variable{X:Cx}{aj:aC}{W:WX}{o e:Expr}{f:Str}{pos pos':Pos}{ft:Ft}{fo:QF}
theorem Xj{fe:Mo->Env->Out (List (Dat×Dat))}{te:TE}(co:dJ X.K aj)(fk:uQ ft aj)(ho:QW aj X W o fo)(he:PE X e te)(hte:∀σ H Q,Yx X.K aj W fe σ H Q->te σ H Q)(hs:swapsWith e (some (.Attribute o f pos')) pos.line X.env=pure false):SE aj X W false (.Assign [.Attribute o f pos'] e pos) (Di ft fo f fe):=by
 refine PS.weak (ps_fld ho he hs) λD σ H ⟨g,ρ,M,I,z⟩=>hte σ H _ ⟨g,ρ,M,I,?_⟩;unfold Di at z;cases hf:fe M ρ with
 |exc x=>rw[hf]at z;exact λH' c dd e r=>z σ H' g c dd (Gr.ex e) (I.ex e) r.fr
 |bad=>rw[hf]at z;exact aht z
 |ok kvs=>
  rw[hf]at z;intro l ob H1 nl e1 hl dic;obtain⟨gr,I1,tb,ow,mm⟩:=uK I nl e1 hl ahs;have dic1:dR X.K aj (g.push l) H1 l true kvs:=by obtain⟨o',xs,vs,q1,q2,q3,q4,q5,q6⟩:=dic;exact⟨o',xs,vs,q1,q2,q3,Ei q4,q5,Ei q6⟩
  have z:(((fo (M++[⟨"",[]⟩]) ρ).at (M++[⟨"",[]⟩])).then ρ λod M2=>match eV M2 od with
   |some (h,i)=>match ft.has i.cls f&&decide (i.fs.length<100) with
    |true=>.next ρ (M2.set h (i.put f (.dic true kvs)))
    |false=>.bad
   |none=>.bad).sat (sN X.K aj false D.nx g H) (sR X.K aj false D.rt g H) (sN X.K aj false D.bk g H) (sN X.K aj false D.ct g H) (sX X.K aj W false g H):=z
  have k1:=Out.dD (aZ (σ:=σ) z);refine tW.go I1 (k1.mono (λ_ y=>y) λx y H' c dd ex rx=>y H' _ c dd (gr.trans (Gr.ex ex)) (I1.ex ex) rx) λod u H2 k2 e2 ru=>?_;have I2:=I1.ex e2;split at k2
  .next h i hi=>
   split at k2
   .next hb=>
    rw[agx]at hb;obtain⟨a,C,dx,fs,_,m1,m2,ha,rfl,c1,c2,c3,c4,c5,c6⟩:=qT co fk I2.wok ru hi hb.1;have nla:l≠a:=λz=>by
     subst z;cases I2.wok.inj _ _ _ ha tb;rw[mm]at m1;cases m1;exact m2 rfl
    refine⟨a,C,dx,fs,rfl,c2,c4,c5,?_,?_⟩
    .have:=ahv hb.2;rw[c3.len];omega
    .have ch:=zW (f:=f) (C:=C) (dx:=dx) (fs':=putF f (.ref l) fs) I2.kd I2.wok ha m1 m2 tb mm ow;have w':=I2.wok.chg I2.kd ch ha m1 m2 c6 c1 c3 ahA (v:=.ref l) (fl:=.dic true kvs) ⟨l,rfl,ahy rfl,dR.chg ch.gc.gr I2.kd (upd_ne nla) (dic1.ex e2 I1.kd)⟩;exact k2 σ _ _ ((gr.trans (Gr.ex e2)).trans ch.gc.gr) (I2.chg ch w')
   .exact aht k2
  .exact aht k2
end
end Rf
namespace Ear
open PySem PySem.Spec PyProof.Rows L2 Evl RZ
abbrev kY(K:agw)(H:Hp)(v:V)(r:Rw):Prop:=Dp K H v (rD r)
@[irreducible]def uH (K:agw) (w:World):List V->Hp->VK->Prop:=λvs H Q=>∃(l:Addr) (ws:List V) (R D:List Rw),vs=[V.ref l]/\SqL K H l ws/\bG (kY K H) ws R/\D.length<=76/\(∀r∈R,r∈D)/\
 ∀(p:Addr) (L:List Ent),H p=none->(∀e∈L,kY K H (.ref e.1) e.2)->(L.map Prod.snd).Nodup->(∀r,r∈L.map Prod.snd↔r∈R)->L.length<=76->Q (.ref p) (upd H p (vB w p L))
@[irreducible]def wA (K:agw) (w:World):List V->Hp->VK->Prop:=λvs H Q=>∃(a:Addr) (L:List Ent),vs=[V.ref a]/\H a=some (vB w a L)/\(∀e∈L,kY K H (.ref e.1) e.2)/\(L.map Prod.snd).Nodup/\L.length<=76/\
 ∀(ys:List V) (M:List Rw) (p:Addr),bG (kY K H) ys M->JN M->(∀r,r∈M↔r∈L.map Prod.snd)->H p=none->Q (.ref p) (upd H p (.lst ys))
section
variable{X:Cx}
theorem RP{pins:List (Addr×Obj)}{σ:L2.St}{H:Hp}{s:Shared}(I:Inv X pins σ H s){t:Addr}{r:Rw}(h:kY X.K H (.ref t) r):RI s.heap r t:=by
 refine⟨?_,by rw[Rr];decide⟩;unfold kY rD dT at h;cases h with
 |tup h1 t1=>
  cases t1 with
  |cons a1 t1=>
   cases t1 with
   |cons a2 t1=>
    cases t1;cases a1;cases a2 with
    |tup h2 t2=>
     obtain⟨us,rv,⟨o,ho,hc,n,hd⟩,_⟩:=I.tuple h1;obtain⟨us2,rv2,⟨o2,ho2,hc2,n2,hd2⟩,_⟩:=I.tuple h2;refine .tup ho hc hd ?_;cases rv with
     |cons r1 rv=>
      cases rv with
      |cons r2 rv=>
       cases rv;obtain⟨tk,rfl⟩:=r1;cases r2;have e:∀{vs:List V} {l:List Int},DpAll X.K H vs (l.map PyData.int)->vs=l.map V.int:=by
        intro vs l
        induction l generalizing vs with
        |nil=>intro z;cases z;rfl
        |cons i l ih=>
         intro z;cases z with
         |cons b1 b2=>
          cases b1;rw[ih b2];rfl
       rw[e t2]at rv2;exact .cons (.int r.1 tk) (.cons (.tup ho2 hc2 hd2 (by simpa using Bv (P:=X.prog) (w:=X.w) r.2 us2 rv2)) .nil)
theorem yK{K:agw}{H:Hp}:∀(ws:List V) (R:List Rw),bG (kY K H) ws R->∃ks:List Ent,ws=(ks.map λp=>V.ref p.1)/\ks.map Prod.snd=R/\∀p∈ks,kY K H (.ref p.1) p.2
 |[],[],_=>⟨[],rfl,rfl,by simp⟩
 |[],_::_,h=>nomatch h.1
 |_::_,[],h=>nomatch h.1
 |v::ws,r::R,h=>by
  obtain⟨ks,e1,e2,e3⟩:=yK ws R ⟨ahp h.1,λi v x a b=>h.2 (i+1) v x a b⟩;have hr:kY K H v r:=h.2 0 v r rfl rfl;have ev:∃t,v=.ref t:=by
   have z:=hr;unfold kY rD at z;cases z with
   |tup _ _=>exact⟨_,rfl⟩
  obtain⟨t,rfl⟩:=ev;refine⟨(t,r)::ks,by rw[agy,<-e1],by rw[agy,e2],λp hp=>?_⟩;rcases agI.mp hp with e|hp
  .rw[e];exact hr
  .exact e3 p hp
theorem Ir(hu:X.A.units+65<cLine)(hc:X.calm=true):CallR X (.type "set") (uH X.K X.w):=by
 intro pins s σ H vs us Q I r h;unfold uH at h;obtain⟨l,ws,R,D,rfl,hl,hA,hD,hRD,q⟩:=h;rw[Vals.ref1 r];obtain⟨ks,e1,e2,e3⟩:=yK ws R hA;obtain⟨its,rv,pl,hz⟩:=I.list hl;rw[e1]at rv;have mem:∀p∈ks,p.2∈R:=λp hp=>by
  rw[<-e2];exact agU.mpr ⟨p,hp,rfl⟩
 have hn:H s.heap.objs.size=none:=I.hok.fresh (agL _);refine IW (P:=X.prog) (w:=X.w) (hf:=λr=>(fW X.prog X.w).hash r) (λ_=>rfl) ks D hD (λp hp=>hRD _ (mem p hp)) (I.ok.hd hc) pl.isList (by simpa using Bc rv) (λp hp=>RP I (e3 p hp)) (by omega) λh' tk L es ep t S g k=>?_;have fitL:t.fits es.size=true:=iJ.fits (s:={ s with heap:=h',toks:=tk }) S;have new:ObjOk X.prog X.w (upd H s.heap.objs.size (vB X.w s.heap.objs.size L)) h' s.heap.objs.size (vB X.w s.heap.objs.size L):=by obtain⟨o,ho,hr⟩:=S.ob;refine⟨⟨_,es,ep,t,S.ob,S.en,fitL,S.tab.ris,S.ld⟩,⟨o,ho⟩,λh1 h2 z k2=>?_⟩;obtain⟨hf2,es2,ep2,t2,⟨o2,ho2,hr2⟩,rest⟩:=(show Mg X.w h1 s.heap.objs.size L from z);exact⟨hf2,es2,ep2,t2,⟨o2,k2 o2 ho2,hr2⟩,rest⟩
 refine⟨.ref s.heap.objs.size,upd H s.heap.objs.size (vB X.w s.heap.objs.size L),I.laid (t':=tk) k (agL _) new,rfl,q _ L hn (λe he=>e3 e (ag8 (g.sub e he))) S.nd (λr=>⟨λm=>?_,λm=>?_⟩) S.few⟩
 .obtain⟨e,he,e5⟩:=agU.mp m;rw[<-e5];exact mem e (ag8 (g.sub e he))
 .rw[<-e2]at m;obtain⟨p,hp,e5⟩:=agU.mp m;rw[<-e5];exact g.all p (by rw[List.take_length];exact hp)
theorem KH(hu:X.A.units+65<cLine)(hc:X.calm=true):CallR X (.builtin "sorted") (wA X.K X.w):=by
 intro pins s σ H vs us Q I r h;unfold wA at h;obtain⟨a,L,rfl,ha,hL,nd,few,q⟩:=h;rw[Vals.ref1 r];obtain⟨hf,es,ep,t,⟨o,ho,hex,hd⟩,en,fit,ris,led⟩:Mg X.w s.heap a L:=(I.hok a _ ha).1;have len:=lX en;have ev:∀K:List Ent,(∀p∈K,p∈L)->PySem.W.EachIs (λv (r:Rw)=>(∃p∈L,v=Value.ref p.1/\r=p.2)/\∃as,Reads s.heap v (rD r) as) ((ents hf K).map (·.2)) (K.map Prod.snd):=by
  intro K
  induction K with
  |nil=>exact λ_=>.nil
  |cons p K ih=>
   intro hK;have hp:=hK p agA;exact .cons ⟨⟨p,hp,rfl,rfl⟩,Dp.reads I (rD p.2) (.ref p.1) (.ref p.1) (hL p hp) rfl⟩ (ih λx hx=>hK x (agz _ hx))
 refine Je (enc:=rD) (bs:=L.map Prod.snd) (I.ok.hd hc) ⟨o,ho,hex.1,hd⟩ fit (by unfold scanBound;omega) ris led (by rw[en];exact ev L λp hp=>hp) (PySem.W.AllAlike.of Bu) (PySem.W.Sortable.tuples λb=>⟨_,_,rfl⟩) (λb _=>by rw[(Pa b).2];omega) λs' p out c cs k g' o' hp hg pc eo=>?_;have mp:=List.mergeSort_perm cs (PySem.W.dataLe false rD);have ndm:(cs.mergeSort (PySem.W.dataLe false rD)).Nodup:=(mp.trans pc).nodup_iff.mpr nd;have srt:=List.pairwise_mergeSort (le:=PySem.W.dataLe false rD) (λa b c k1 k2=>by rw[uW,ahu]at *;exact List.le_trans k1 k2) (λa b=>by rw[uW,uW,ahj,ahu,ahu];exact List.le_total _ _) cs;generalize cs.mergeSort (PySem.W.dataLe false rD)=M at mp ndm srt eo;obtain⟨ys,v1,v2⟩:=Cm out M eo;have up:JN M:=by
  refine List.Pairwise.imp₂ (λa b h1 h2=>?_) srt ndm;rw[uW,ahu]at h1;by_cases c:rk a<rk b
  .exact c
  .exact absurd (Ow (List.le_antisymm h1 (List.not_lt.mp c))) h2
 have hfr:H p=none:=I.hok.fresh hp;have hlen:ys.length<=sizeLine:=by rw[v2.1,mp.length_eq,pc.length_eq,agB,sizeLine_eq];omega
 have J:Inv X pins σ (upd H p (.lst ys)) { s with heap:=s'.heap,gens:=s'.gens,drawn:=s'.drawn,toks:=s'.toks }:=
  I.call (ch:=[]) (Un.laid k hp hfr) (I.hok.laid k hp ⟨hlen,out,c,v1,hg⟩) (by rw[g'];exact I.bare) (λ_ z=>nomatch z)
 have es':s'={ s with heap:=s'.heap,gens:=s'.gens,drawn:=s'.drawn,toks:=s'.toks }:=by cases s';cases s;cases o';rfl
 rw[es'];refine⟨.ref p,_,J,rfl,q ys M p (v2.imp λv r ⟨e,he,h1,h2⟩=>?_) up (λr=>(mp.trans pc).mem_iff) hfr⟩;subst h1 h2;exact hL e he
end
end Ear
namespace Rf
open PySem PySem.Spec PyProof.Rows L2 Evl
def Tf:Dat->Option Ear.Rw
 |.tuple [.int o,.tuple ds]=>(intsOf ds).map λl=>(o,l)
 |_=>none
def yE:List Dat->Option (List Ear.Rw)
 |[]=>some []
 |d::ds=>(Tf d).bind λr=>(yE ds).bind λrs=>some (r::rs)
theorem uf:∀{ds:List Dat} {l:List Int},intsOf ds=some l->ds=l.map PyData.int
 |[],l,h=>by cases h;rfl
 |.int i::ds,l,h=>by
  rw[intsOf,agZ]at h;obtain⟨r,h1,rfl⟩:=h;rw[uf h1];rfl
 |.none::_,_,h=>by cases h
 |.bool _::_,_,h=>by cases h
 |.str _::_,_,h=>by cases h
 |.list _::_,_,h=>by cases h
 |.tuple _::_,_,h=>by cases h
 |.dict _::_,_,h=>by cases h
theorem Wi{d:Dat}{r:Ear.Rw}(h:Tf d=some r):d=Ear.rD r:=by
 unfold Tf at h;split at h
 .next o ds=>
  rw[agZ]at h;obtain⟨l,h1,rfl⟩:=h;rw[uf h1];rfl
 .cases h
theorem wN:∀{ds:List Dat} {rs:List Ear.Rw},yE ds=some rs->ds=rs.map Ear.rD
 |[],_,h=>by cases h;rfl
 |d::ds,_,h=>by
  rw[yE]at h;obtain⟨r,h1,h⟩:=agv.mp h;obtain⟨rs,h2,h⟩:=agv.mp h;cases h;rw[Wi h1,wN h2];rfl
def CQ(R:List Ear.Rw):List Ear.Rw:=R.mergeSort λa b=>decide (Ear.rk a<=Ear.rk b)
def sortI(l:List Int):List Int:=l.mergeSort λa b=>decide (a<=b)
def u9(R:List Ear.Rw):List Ear.Rw:=CQ R.eraseDups
def U5(l:List Int):List Int:=sortI l.eraseDups
theorem HX:∀(n:Nat) (l:List Int),gY n (l.map PyData.int)=true:=λn l=>by
 induction l with
 |nil=>rfl
 |cons i l ih=>simp[gY,okd,ih]
theorem DW(n:Nat)(r:Ear.Rw):okd (n+2) (Ear.rD r)=true:=by unfold Ear.rD Ear.dT;simp[okd,gY,HX]
theorem Vp(n:Nat)(R:List Ear.Rw):gY (n+2) (R.map Ear.rD)=true:=by
 induction R with
 |nil=>rfl
 |cons r R ih=>simp[gY,DW,ih]
def Dq:Dat->Out Dat
 |.list ds=>match intsOf ds with
  |some l=>.ok (.list ((sortI l).map PyData.int))
  |none=>match yE ds with
   |some R=>.ok (.list ((CQ R).map Ear.rD))
   |none=>.bad
 |_=>.bad
def Nb:Dat->Out Dat
 |.list ds=>match yE ds with
  |some R=>match decide (R.eraseDups.length<=76) with
   |true=>.ok (.list ((u9 R).map Ear.rD))
   |false=>.bad
  |none=>.bad
 |_=>.bad
theorem BL{β:Type}{enc:β->Dat}{le:β->β->Bool}(h:∀a b,PySem.W.dataLe false id (enc a) (enc b)=le a b)(l:List β):(l.map enc).mergeSort (PySem.W.dataLe false id)=(l.mergeSort le).map enc:=by rw[List.map_mergeSort (r:=le) (s:=PySem.W.dataLe false id) (λa _ b _=>(h a b).symm)]
theorem nu{α:Type}[BEq α][LawfulBEq α]{l:List α}{x:α}:x∈l.eraseDups↔x∈l:=by
 induction hn:l.length using Nat.strongRecOn generalizing l with
 |_ n ih=>
  cases l with
  |nil=>simp
  |cons a r=>
   rw[List.eraseDups_cons];simp only[agC]at hn;have hl:(r.filter λb=>!b==a).length<=r.length:=ahk _ _;rw[agI,ih _ (by omega) rfl,ahq,agI];constructor
   .rintro(h|h)
    .exact .inl h
    .exact .inr h.1
   .rintro(h|h)
    .exact .inl h
    .by_cases e:x=a
     .exact .inl e
     .exact .inr ⟨h,by simpa using e⟩
theorem yC{α:Type}[BEq α][LawfulBEq α]{l:List α}:l.eraseDups.Nodup:=by
 induction hn:l.length using Nat.strongRecOn generalizing l with
 |_ n ih=>
  cases l with
  |nil=>simp
  |cons a r=>
   rw[List.eraseDups_cons];simp only[agC]at hn;have hl:(r.filter λb=>!b==a).length<=r.length:=ahk _ _;refine ahr.mpr ⟨λh=>?_,ih _ (by omega) rfl⟩;rw[nu,ahq]at h;simpa using h.2
theorem Pu{R:List Ear.Rw}{r:Ear.Rw}:r∈u9 R↔r∈R:=by unfold u9 CQ;rw[List.mem_mergeSort,nu]
theorem TX(R:List Ear.Rw):Ear.JN (u9 R):=by
 unfold Ear.JN u9 CQ;have srt:=List.pairwise_mergeSort (le:=λa b:Ear.Rw=>decide (Ear.rk a<=Ear.rk b)) (λa b c k1 k2=>by rw[ahu]at *;exact List.le_trans k1 k2) (λa b=>by rw[ahj,ahu,ahu];exact List.le_total _ _) R.eraseDups;have nd:(R.eraseDups.mergeSort λa b=>decide (Ear.rk a<=Ear.rk b)).Nodup:=(List.mergeSort_perm _ _).nodup_iff.mpr yC;refine List.Pairwise.imp₂ (λa b h1 h2=>?_) srt nd;rw[ahu]at h1;by_cases c:Ear.rk a<Ear.rk b
 .exact c
 .exact absurd (Ear.Ow (List.le_antisymm h1 (List.not_lt.mp c))) h2
section
variable{K:agw}{g:Gh}{H:Hp}
theorem wW{xs:List V}{ds:List Dat}(h:aq K g H xs ds):∀{ys:List V} {es:List Dat},Ear.bG (Ear.Tq xs ds) ys es->aq K g H ys es
 |[],[],_=>.nil
 |[],_::_,z=>nomatch z.1
 |_::_,[],z=>nomatch z.1
 |y::ys,e::es,z=>by
  obtain⟨i,h1,h2⟩:=z.2 0 y e rfl rfl;obtain⟨d,h3,h4⟩:=h.get' h1;rw[h2]at h3;cases h3;exact .cons h4 (wW h ⟨ahp z.1,λi v x a b=>z.2 (i+1) v x a b⟩)
end
section
variable{X:Cx}{aj:aC}{W:WX}{a:Expr}{fa:QF}{p p2 pos pos2:Pos}
theorem VJ:qN aj X.K W Dq (Ear.rQ X.K):=λσ g H x d Q k rx h=>by
 unfold Dq at h;split at h
 .next ds=>
  obtain⟨l,us,rfl,h1,h2⟩:=cD rx;unfold Ear.rQ;split at h
  .next ns hn=>
   have e:=uf hn;subst e;refine⟨l,us,ns.map PyData.int,rfl,h1,h2.dp (n:=12) (HX 12 ns),PySem.W.AllAlike.of (λa b=>by simp[PySem.W.alike]),PySem.W.Sortable.others (λb=>⟨(λz=>nomatch z),λxs z=>nomatch z⟩),λd hd=>by
    obtain⟨i,_,rfl⟩:=agU.mp hd;simp[PyData.depth],λys q hy nq=>?_⟩
   have hs:=BL (enc:=PyData.int) (le:=λa b:Int=>decide (a<=b)) (λa b=>congrFun (congrFun (PySem.W.dataLe_int (λk:Int=>k)) a) b) ns;rw[hs]at hy;exact h (.ref q) _ (Ex.new nq) (.lst (.inl ⟨ahA,k.fresh nq⟩) ((wW h2 hy).ex (Ex.new nq) k))
  .split at h
   .next R hR=>
    have e:=wN hR;subst e;refine⟨l,us,R.map Ear.rD,rfl,h1,h2.dp (n:=12) (Vp 10 R),PySem.W.AllAlike.of Ear.Bu,PySem.W.Sortable.tuples (λb=>⟨_,_,rfl⟩),λd hd=>by
     obtain⟨i,_,rfl⟩:=agU.mp hd;rw[(Ear.Pa i).2]
     decide,λys q hy nq=>?_⟩
    .have hs:=BL (enc:=Ear.rD) (le:=λa b:Ear.Rw=>decide (Ear.rk a<=Ear.rk b)) (λa b=>by rw[<-Ear.uW];rfl) R;rw[hs]at hy;exact h (.ref q) _ (Ex.new nq) (.lst (.inl ⟨ahA,k.fresh nq⟩) ((wW h2 hy).ex (Ex.new nq) k))
   .exact aht h
 .exact aht h
theorem Xm(hu:X.A.units+65<cLine)(hg:Gl X "sorted")(hm:X.mg "sorted"=none)(ha:QW aj X W a fa)(hs:nst a=true):QE aj X W (.Call (.Name "sorted" p) [a] [] pos) (bR Dq fa):=
 Vk (.inl rfl) (Ear.M8 hu) VJ hg hm ⟨by decide +kernel,by decide,by decide⟩ ha hs
theorem JH{K:agw}{g:Gh}{H:Hp}:∀{vs:List V} {l:List Int},DpAll K H vs (l.map PyData.int)->aq K g H vs (l.map PyData.int)
 |_,[],.nil=>.nil
 |_,_::_,.cons (.int i) t=>.cons (.int i) (JH t)
theorem QX{K:agw}{g:Gh}{H:Hp}{v:V}{r:Ear.Rw}(h:Ear.kY K H v r):Rep K g H v (Ear.rD r):=by
 unfold Ear.kY Ear.rD at h;cases h with
 |tup h1 t1=>
  cases t1 with
  |cons a1 t1=>
   cases a1;cases t1 with
   |cons a2 t2=>
    cases t2;cases a2 with
    |tup h2 t3=>exact .tup h1 (.cons (.int _) (.cons (.tup h2 (JH t3)) .nil))
theorem BX{K:agw}{g:Gh}{H:Hp}:∀{vs:List V} {R:List Ear.Rw},aq K g H vs (R.map Ear.rD)->Ear.bG (Ear.kY K H) vs R
 |_,[],.nil=>⟨rfl,λi v x a b=>by simp at a⟩
 |_,r::R,.cons h t=>by
  have ih:=BX t;refine⟨congrArg (· + 1) ih.1,λi v x a b=>?_⟩;cases i with
  |zero=>
   simp at a b;subst a b;exact h.dp (n:=12) (DW 10 _)
  |succ i=>exact ih.2 i v x (by simpa using a) (by simpa using b)
theorem Ck{K:agw}{g:Gh}{H:Hp}:∀{vs:List V} {R:List Ear.Rw},Ear.bG (Ear.kY K H) vs R->aq K g H vs (R.map Ear.rD)
 |[],[],_=>.nil
 |[],_::_,h=>nomatch h.1
 |_::_,[],h=>nomatch h.1
 |v::vs,r::R,h=>.cons (QX (h.2 0 v r rfl rfl)) (Ck ⟨ahp h.1,λi v x a b=>h.2 (i+1) v x a b⟩)
theorem VR(hu:X.A.units+65<cLine)(hc:X.calm=true)(hg:Gl X "sorted")(hm:X.mg "sorted"=none)(hg2:Gl X "set")(hm2:X.mg "set"=none)(ha:QW aj X W a fa)(hs:nst a=true):QE aj X W (.Call (.Name "sorted" p) [.Call (.Name "set" p2) [a] [] pos2] [] pos) (bR Nb fa):=by
 have h0:=pa_cons ha pa_nil (aH hs []);have h1:PE X (.Call (.Name "set" p2) [a] [] pos2) _:=pe_callTy (Ear.Ir hu hc) hg2 hm2 (by decide +kernel) h0 (by decide) (by decide) (aH hs []) (by with_unfolding_all rfl)
 have h2:=pa_cons h1 pa_nil (aH rfl []);refine PE.weak (pe_callB (p:=p) (pos:=pos) (Ear.KH hu hc) hg hm (by decide +kernel) h2 (by decide) (by decide) (aH rfl []) (by with_unfolding_all rfl)) λσ H Q ⟨g,ρ,M,I,h⟩=>?_;refine tW.go I h.bnd λd v H1 h1 e1 r1=>?_;have I1:=I.ex e1;unfold Nb at h1;split at h1
 .next ds=>
  split at h1
  .next R hR=>
   split at h1
   .next hd=>
    have e:=wN hR;subst e;obtain⟨l,us,rfl,s1,s2⟩:=cD r1;unfold Ear.uH;refine⟨l,us,R,R.eraseDups,rfl,s1,BX s2,ahv hd,λr hr=>nu.mpr hr,λq L nq hL nd mem few=>?_⟩;have eq:Ex H1 (upd H1 q (Ear.vB X.w q L)):=Ex.new nq;unfold Ear.wA;refine⟨q,L,rfl,ahA,λe he=>?_,nd,few,λys S z hy up ms nz=>?_⟩
    .exact(Rep.ex eq I1.kd (QX (g:=g) (hL e he))).dp (n:=12) (DW 10 _)
    .have hS:S=u9 R:=Ear.Qn up (TX R) λr=>by rw[ms,mem,Pu]
     subst hS;have I2:=I1.ex eq;exact h1 (.ref z) _ ((e1.trans eq).trans (Ex.new nz)) (.lst (.inl ⟨ahA,I2.kd.fresh nz⟩) ((Ck hy).ex (Ex.new nz) I2.kd))
   .exact aht h1
  .exact aht h1
 .exact aht h1
def W4(it:IF)(tg:bT)(vs:List Nat)(tt:QT)(te:QF):QF:=λM ρ=>(oU it tg vs tt te M ρ).bind λds=>match intsOf ds with
 |some l=>Out.when (decide (l.length<=4000)) (.ok (.list ((U5 l).map PyData.int)))
 |none=>.bad
end
def yG(ρ:Env):Bool:=ρ.all λo=>match o with
 |some (.mut _)=>false
 |_=>true
theorem DK{ρ:Env}(h:yG ρ=true){i:Nat}{xs:List Dat}:ρ[i]?≠some (some (.mut xs)):=λz=>by
 have:=agK.mp h _ (agT z);cases this
theorem SInv.loc{K:agw}{aj:aC}{σ:L2.St}{H:Hp}{g:Gh}{ρ:Env}{M:Mo}{D:Addr}{us us':List V}(I:SInv K aj σ H g ρ M)(n:yG ρ=true)(hD:H D=some (.lst us))(lo:g.Lo D):SInv K aj σ (upd H D (.lst us')) g ρ M where
 kd:=I.kd.upd ahs
 wok:=I.wok.loc I.kd hD lo
 len:=I.len
 dat:=λi d h=>by
  obtain⟨v,h1,h2⟩:=I.dat i d h;exact⟨v,h1,XJ I.kd hD lo h2⟩
 own:=λi xs h=>absurd h (DK n)
 sep:=λi j xs ys l ne h1=>absurd h1 (DK n)
def eG(tg:bT)(tt:QT)(it1:IF)(tg1:bT)(vs1:List Nat)(tt1:QT)(te:QF)(M:Mo)(ρ:Env):List Dat->Out (List Dat)
 |[]=>.ok []
 |d::ds=>match tg d ρ with
  |none=>.bad
  |some Z1=>(mX (tt M Z1)).bind λb=>if b=true then Out.when (yG Z1) ((mX (it1 M Z1)).bind λes=>(bx tg1 tt1 te M (aO Z1 vs1) es).bind λr1=>(eG tg tt it1 tg1 vs1 tt1 te M ρ ds).bind λr=>.ok (r1++r)) else eG tg tt it1 tg1 vs1 tt1 te M ρ ds
def Kf(it:IF)(tg:bT)(vs:List Nat)(tt:QT)(it1:IF)(tg1:bT)(vs1:List Nat)(tt1:QT)(te:QF):IF:=λM ρ=>(it M ρ).bind λds=>(eG tg tt it1 tg1 vs1 tt1 te M (aO ρ vs) ds).bind λr=>Out.when (decide (r.length<=50000)) (.ok r)
def ug(it:IF)(tg:bT)(vs:List Nat)(tt:QT)(it1:IF)(tg1:bT)(vs1:List Nat)(tt1:QT)(te:QF):QF:=λM ρ=>(Kf it tg vs tt it1 tg1 vs1 tt1 te M ρ).bind λr=>.ok (.list r)
theorem lA{tg tg1:bT}{tt tt1:QT}{te:QF}{it1:IF}{vs1:List Nat}{M:Mo}{ρ:Env}:∀{ds:List Dat} {x:bK},eG tg tt it1 tg1 vs1 tt1 te M ρ ds≠.exc x
 |[],_,h=>nomatch h
 |d::ds,x,h=>by
  rw[eG]at h;split at h
  .cases h
  .next Z1 e=>
   cases h1:tt M Z1 with
   |bad=>rw[h1]at h;cases h
   |exc y=>rw[h1]at h;cases h
   |ok b=>
    rw[h1]at h;cases b with
    |false=>exact lA (ds:=ds) (x:=x) h
    |true=>
     cases hn:yG Z1 with
     |false=>rw[hn]at h;cases h
     |true=>
      rw[hn]at h;cases h2:it1 M Z1 with
      |bad=>rw[h2]at h;cases h
      |exc y=>rw[h2]at h;cases h
      |ok es=>
       rw[h2]at h;have h:((bx tg1 tt1 te M (aO Z1 vs1) es).bind λr1=>(eG tg tt it1 tg1 vs1 tt1 te M ρ ds).bind λr=>Out.ok (r1++r))=.exc x:=h;cases h3:bx tg1 tt1 te M (aO Z1 vs1) es with
       |bad=>rw[h3]at h;cases h
       |exc y=>exact absurd h3 jd
       |ok r1=>
        rw[h3]at h;have h:((eG tg tt it1 tg1 vs1 tt1 te M ρ ds).bind λr=>Out.ok (r1++r))=.exc x:=h;cases h4:eG tg tt it1 tg1 vs1 tt1 te M ρ ds with
        |bad=>rw[h4]at h;cases h
        |exc y=>exact absurd h4 lA
        |ok r=>rw[h4]at h;cases h
section
variable{K:agw}{aj:aC}{W:WX}
theorem Wu{it it1:IF}{tg tg1:bT}{js vs js1 vs1:List Nat}{tt tt1:QT}{te:QF}(hj:∀j∈js,j∈vs)(hj1:∀j∈js1,j∈vs1)(σ:L2.St)(H:Hp)(Q:VK)(h:QM K aj W (Kf it tg vs tt it1 tg1 vs1 tt1 te) σ H Q) :
  tLc2 (tI K aj W false it) (lO K aj js tg) (dZ K aj WF tt) (tI K aj WF true it1) (lO K aj js1 tg1) (dZ K aj WF tt1) (tQ K aj WF te) vs vs1 σ H Q:=by
 obtain⟨g,ρ,M,I,h⟩:=h;refine⟨g,ρ,M,I,h.bnd.mono (λds hk J C H1 e1 w c _ D nD=>?_) λ_ z=>z⟩;obtain⟨total,htot,hlen,hQ⟩:∃total,eG tg tt it1 tg1 vs1 tt1 te M (aO ρ vs) ds=.ok total/\total.length<=50000/\∀l us H',H l=none->Ex H H'->H' l=some (.lst us)->aq K (g.add l) H' us total->Q (.ref l) H':=by
  cases hc:eG tg tt it1 tg1 vs1 tt1 te M (aO ρ vs) ds with
  |bad=>rw[hc]at hk;exact aht hk
  |exc x=>exact absurd hc lA
  |ok total=>
   rw[hc]at hk;obtain⟨hz,hk⟩:=Out.sat.dN hk;exact⟨total,rfl,ahv hz,hk⟩
 have I1:=(I.ex e1).wipe vs;have kD:∀{Ha:Hp} {us:List V},Ex H1 Ha->Ha D=some (.lst us)->SInv K aj (L2.wipe σ vs) Ha (g.add D) (aO ρ vs) M:=λea hu=>I1.add nD ea hu ahs;have lD:(g.add D).Lo D:=.inr rfl
 let Pv:Nat->Hp->Prop:=λi Ha=>Ex H1 Ha/\i<=ds.length/\∃us ys,Ha D=some (.lst us)/\aq K (g.add D) Ha us ys/\(eG tg tt it1 tg1 vs1 tt1 te M (aO ρ vs) (ds.drop i)).sat (λr=>total=ys++r) λ_=>False
 refine⟨λi m Ha=>m=ds.length-i/\Pv i Ha,⟨ds.length,rfl,Ex.new nD,agO _,[],[],ahA,.nil,?_⟩,?_⟩
 .rw[ahb,htot];rfl
 .rintro i m Ha ⟨rfl,ea,hi,us,ys,hu,hU,hs⟩;have Ia:=kD ea hu;have Ca:=w.add g (g.add D) H1 Ha (I.kd.ex e1) c (Gh.oW nD ea) ea;by_cases hlt:i<ds.length
  .refine .inr ⟨w.go _ i Ha Ca hlt,Pv (i+1),λH' p=>⟨ds.length-(i+1),by omega,rfl,p⟩,λx H' y=>?_⟩;have hd:ds[i]?=some ds[i]:=agD hlt;obtain⟨e2,rx⟩:=w.yld _ i Ha x H' _ Ia.kd Ca hd y;have I2:=Ia.ex e2;rw[ag9 hlt,eG]at hs;split at hs
   .exact aht hs
   .next Z1 he=>
    refine⟨g.add D,_,M,_,Z1,I2,rx,he,λws I3=>⟨j5 js ws _ vs hj |>.trans (m9 σ vs),?_⟩⟩;refine dZ.go I3 (oK hs.bnd) λb H3 hb e3=>?_;have I4:=I3.ex e3;have hu3:=e3 _ _ (e2 _ _ hu);have hU3:=(hU.ex e2 Ia.kd).ex e3 I2.kd;cases b with
    |false=>
     have hb:(eG tg tt it1 tg1 vs1 tt1 te M (aO ρ vs) (ds.drop (i+1))).sat (λr=>total=ys++r) λ_=>False:=hb;exact⟨(ea.trans e2).trans e3,hlt,us,ys,hu3,hU3,hb⟩
    |true=>
     have hb:(Out.when (yG Z1) ((mX (it1 M Z1)).bind λes=>(bx tg1 tt1 te M (aO Z1 vs1) es).bind λr1=>(eG tg tt it1 tg1 vs1 tt1 te M (aO ρ vs) (ds.drop (i+1))).bind λr=>Out.ok (r1++r))).sat (λr=>total=ys++r) λ_=>False:=hb;obtain⟨nm,hb⟩:=hb.dN;refine⟨g.add D,Z1,M,I4,(oK (E':=gM K aj WF (g.add D) H3 _) hb.bnd).mono (λes hk1 J1 C1 H4 e4 w1 c1 fm=>?_) λ_ z=>z⟩;have fm:=fm rfl
     -- all that is added by this walk
     obtain⟨r1,r2,hr1,hr2,ht⟩:∃r1 r2,bx tg1 tt1 te M (aO Z1 vs1) es=.ok r1/\eG tg tt it1 tg1 vs1 tt1 te M (aO ρ vs) (ds.drop (i+1))=.ok r2/\total=ys++(r1++r2):=by
      cases q1:bx tg1 tt1 te M (aO Z1 vs1) es with
      |bad=>rw[q1]at hk1;exact aht hk1
      |exc y=>exact absurd q1 jd
      |ok r1=>
       rw[q1]at hk1;have hk1:((eG tg tt it1 tg1 vs1 tt1 te M (aO ρ vs) (ds.drop (i+1))).bind λr=>Out.ok (r1++r)).sat (λr=>total=ys++r) λ_=>False:=hk1;cases q2:eG tg tt it1 tg1 vs1 tt1 te M (aO ρ vs) (ds.drop (i+1)) with
       |bad=>rw[q2]at hk1;exact aht hk1
       |exc y=>exact absurd q2 lA
       |ok r2=>
        rw[q2]at hk1;exact⟨r1,r2,rfl,rfl,hk1⟩
     let P1:Nat->Hp->Prop:=λj Hb=>Ex H1 Hb/\SInv K aj (sets (L2.wipe σ vs) js ws) Hb (g.add D) Z1 M/\C1 (g.add D) Hb/\j<=es.length/\∃us' zs,Hb D=some (.lst us')/\aq K (g.add D) Hb us' (ys++zs)/\(bx tg1 tt1 te M (aO Z1 vs1) (es.drop j)).sat (λr=>r1=zs++r) λ_=>False
     refine⟨λj m Hb=>m=es.length-j/\P1 j Hb,⟨es.length,rfl,((ea.trans e2).trans e3).trans e4,I4.ex e4,c1,agO _,us,[],e4 _ _ hu3,by rw[ag1];exact hU3.ex e4 I4.kd,?_⟩,?_⟩
     .rw[ahb,hr1];rfl
     .rintro j m Hb ⟨rfl,fb,Ib,Cb,hjl,us',zs,hub,hUb,hsb⟩;by_cases hlj:j<es.length
      .refine .inr ⟨w1.go _ j Hb Cb hlj,P1 (j+1),λH' p=>⟨es.length-(j+1),by omega,rfl,p⟩,λx H' y=>?_⟩;have hdj:es[j]?=some es[j]:=agD hlj;obtain⟨f2,rx⟩:=w1.yld _ j Hb x H' _ Ib.kd Cb hdj y;have J2:=(Ib.ex f2).wipe vs1;rw[ag9 hlj,bx]at hsb;split at hsb
       .exact aht hsb
       .next Z2 he1=>
        refine⟨g.add D,_,M,_,Z2,J2,rx,he1,λws1 J3=>⟨j5 js1 ws1 _ vs1 hj1 |>.trans (m9 _ vs1),?_⟩⟩;refine dZ.go J3 (oK hsb.bnd) λb H6 hb6 e6=>?_;have f26:=f2.trans e6;have hu6:=f26 _ _ hub;have hU6:=hUb.ex f26 Ib.kd;cases b with
        |false=>
         have hb6:(bx tg1 tt1 te M (aO Z1 vs1) (es.drop (j+1))).sat (λr=>r1=zs++r) λ_=>False:=hb6;exact⟨fb.trans f26,Ib.ex f26,w1.ex _ _ _ Ib.kd Cb f26,hlj,us',zs,hu6,hU6,hb6⟩
        |true=>
         have hb6:((mX (te M Z2)).bind λy=>(bx tg1 tt1 te M (aO Z1 vs1) (es.drop (j+1))).bind λr=>Out.ok (y::r)).sat (λr=>r1=zs++r) λ_=>False:=hb6;refine tQ.go (J3.ex e6) (oK hb6.bnd) λy v H7 hyv e7 ry=>?_;have f27:=f26.trans e7;have Ib7:=Ib.ex f27;have hu7:=f27 _ _ hub;have hU7:=hUb.ex f27 Ib.kd;have hyv:=hyv.bnd;have hr:∃r,bx tg1 tt1 te M (aO Z1 vs1) (es.drop (j+1))=.ok r/\r1=zs++y::r:=by
          cases q1:bx tg1 tt1 te M (aO Z1 vs1) (es.drop (j+1)) with
          |bad=>rw[q1]at hyv;exact aht hyv
          |exc y=>exact absurd q1 jd
          |ok r=>
           rw[q1]at hyv;exact⟨r,rfl,hyv⟩
         obtain⟨r,hr,hr1'⟩:=hr;have hll:us'.length<50000:=by
          rw[hUb.length];rw[ht,hr1']at hlen;simp at hlen |-
          omega
         refine⟨us',hu7,sz_lt (Nat.lt_trans hll (by decide)),Ex.mut (fb.trans f27) nD,Ib7.loc nm hu7 lD,fm true _ _ _ _ Ib7.kd (w1.ex _ _ _ Ib.kd Cb f27) (Gr.upd Ib7.kd hu7 (.inr lD)),hlj,us'++[v],zs++[y],ahA,?_,?_⟩
         .rw[<-List.append_assoc];exact xK Ib7.kd hu7 lD (hU7.append (.cons ry .nil))
         .rw[hr];show r1=_;rw[hr1'];simp
      .have e:j=es.length:=by omega
       refine .inl ⟨w1.stop _ j Hb Cb e,?_⟩;rw[e,ahe]at hsb;have hsb:r1=zs++[]:=hsb;rw[ag1]at hsb;subst hsb;refine⟨fb,hlt,us',ys++r1,hub,hUb,?_⟩;rw[hr2];show total=_;rw[ht,List.append_assoc]
  .have e:i=ds.length:=by omega
   refine .inl ⟨w.stop _ i Ha Ca e,?_⟩;rw[e,ahe]at hs;have hs:total=ys++[]:=hs;rw[ag1]at hs;subst hs;exact hQ D us Ha (jM e1 D nD) (e1.trans ea) hu hU
theorem Qy{it it1:IF}{tg tg1:bT}{js vs js1 vs1:List Nat}{tt tt1:QT}{te:QF}(hj:∀j∈js,j∈vs)(hj1:∀j∈js1,j∈vs1)(σ:L2.St)(H:Hp)(Q:VK)(h:tQ K aj W (ug it tg vs tt it1 tg1 vs1 tt1 te) σ H Q) :
  tLc2 (tI K aj W false it) (lO K aj js tg) (dZ K aj WF tt) (tI K aj WF true it1) (lO K aj js1 tg1) (dZ K aj WF tt1) (tQ K aj WF te) vs vs1 σ H Q:=by
 obtain⟨g,ρ,M,I,h⟩:=h;refine Wu hj hj1 σ H Q ⟨g,ρ,M,I,h.bnd.mono (λxs hk l us H' nl e hl r=>?_) λ_ z=>z⟩;refine hk (.ref l) H' e (.lst (.inl ⟨hl,λz=>?_⟩) (aq.less (g:=g.add l) (g':=g) rfl (λa z=>?_) r))
 .exact I.kd.fresh nl z
 .rcases z with z|z|z
  .exact .inl z
  .exact .inr (.inl z)
  .exact .inr (.inr (.inl z))
end
section
variable{X:Cx}{aj:aC}{W:WX}{q:Bool}{elt tg iter tg1 iter1:Expr}{ifs ifs1:List Expr}{scope:Scope}{own:List (Str×Nat)}{it it1:IF}{tgf tgf1:bT}{js js1 vs1:List Nat}{tt tt1:QT}{te:QF}{pos cpos:Pos}
theorem Yh(hc:X.calm=true)(hN:X.N.Nodup)(hi:QI aj X W false tg iter it)(ok:blkC X.N X.env.scope scope own=true)(hv:∀i∈vs1,i∈own.map (·.2))(hj:∀j∈js,j∈own.map (·.2))(hj1:∀j∈js1,j∈vs1)
  (hg:∀(s:Shared) (H:Hp) (C:Addr) (cl:List (Str×Addr)) (fp:List Addr),QG aj (X.blk s H scope (compEnvC scope cl C X.env) fp) tg js tgf)
  (ht:∀(s:Shared) (H:Hp) (C:Addr) (cl:List (Str×Addr)) (fp:List Addr),PTs (X.blk s H scope (compEnvC scope cl C X.env) fp) ifs (dZ X.K aj WF tt))
  (hi1:∀(s:Shared) (H:Hp) (C:Addr) (cl:List (Str×Addr)) (fp:List Addr),QI aj (X.blk s H scope (compEnvC scope cl C X.env) fp) WF true tg1 iter1 it1)
  (hg1:∀(s:Shared) (H:Hp) (C:Addr) (cl:List (Str×Addr)) (fp:List Addr),QG aj (X.blk s H scope (compEnvC scope cl C X.env) fp) tg1 js1 tgf1)
  (ht1:∀(s:Shared) (H:Hp) (C:Addr) (cl:List (Str×Addr)) (fp:List Addr),PTs (X.blk s H scope (compEnvC scope cl C X.env) fp) ifs1 (dZ X.K aj WF tt1))
  (he:∀(s:Shared) (H:Hp) (C:Addr) (cl:List (Str×Addr)) (fp:List Addr),QE aj (X.blk s H scope (compEnvC scope cl C X.env) fp) WF elt te) (hs:∀x,foldedSetIterable iter X.env x=pure x) (hs1:∀env x,foldedSetIterable iter1 env x=pure x) :
  QE aj X W (.ListComp elt [⟨tg,iter,ifs,0⟩,⟨tg1,iter1,ifs1,0⟩] scope pos) (ug it tgf (own.map (·.2)) tt it1 tgf1 vs1 tt1 te):=
 PE.weak (pe_lc2 (g:=lO X.K aj js tgf) (tt:=dZ X.K aj WF tt) (wi1:=tI X.K aj WF true it1) (g1:=lO X.K aj js1 tgf1) (tt1:=dZ X.K aj WF tt1) (te:=tQ X.K aj WF te) hc hN hi (blkOk_by ok) hv (λs H C cl fp=>hg s H C cl fp) ht (λs H C cl fp=>hi1 s H C cl fp) (λs H C cl fp=>hg1 s H C cl fp) ht1 (λs H C cl fp=>he s H C cl fp) hs hs1) λσ H Q h=>Qy hj hj1 σ H Q h
theorem V1{j:Nat}{y:Str}{py:Pos}(hc:X.calm=true)(hN:X.N.Nodup)(hy:X.N[j]?=some y)(hyl:X.env.scope.names.lookup y=some .local)(hsw:swapsWith (.ListComp elt [⟨tg,iter,ifs,0⟩,⟨tg1,iter1,ifs1,0⟩] scope cpos) (some (.Name y py)) pos.line X.env=pure true)
  (hi:QI aj X W false tg iter it) (ok:blkC X.N X.env.scope scope own=true) (hv:∀i∈vs1,i∈own.map (·.2)) (hj:∀j∈js,j∈own.map (·.2)) (hj1:∀j∈js1,j∈vs1)
  (hg:∀(s:Shared) (H:Hp) (C:Addr) (cl:List (Str×Addr)) (fp:List Addr),QG aj (X.blk s H scope (compEnvC scope cl C X.env) fp) tg js tgf)
  (ht:∀(s:Shared) (H:Hp) (C:Addr) (cl:List (Str×Addr)) (fp:List Addr),PTs (X.blk s H scope (compEnvC scope cl C X.env) fp) ifs (dZ X.K aj WF tt))
  (hi1:∀(s:Shared) (H:Hp) (C:Addr) (cl:List (Str×Addr)) (fp:List Addr),QI aj (X.blk s H scope (compEnvC scope cl C X.env) fp) WF true tg1 iter1 it1)
  (hg1:∀(s:Shared) (H:Hp) (C:Addr) (cl:List (Str×Addr)) (fp:List Addr),QG aj (X.blk s H scope (compEnvC scope cl C X.env) fp) tg1 js1 tgf1)
  (ht1:∀(s:Shared) (H:Hp) (C:Addr) (cl:List (Str×Addr)) (fp:List Addr),PTs (X.blk s H scope (compEnvC scope cl C X.env) fp) ifs1 (dZ X.K aj WF tt1))
  (he:∀(s:Shared) (H:Hp) (C:Addr) (cl:List (Str×Addr)) (fp:List Addr),QE aj (X.blk s H scope (compEnvC scope cl C X.env) fp) WF elt te) (hs:∀x,foldedSetIterable iter X.env x=pure x) (hs1:∀env x,foldedSetIterable iter1 env x=pure x) :
  SE aj X W q (.Assign [.Name y py] (.ListComp elt [⟨tg,iter,ifs,0⟩,⟨tg1,iter1,ifs1,0⟩] scope cpos) pos) (aM (au j) (gOf (ug it tgf (own.map (·.2)) tt it1 tgf1 vs1 tt1 te))):=by
 refine PS.weak (ps_setLc2 (g:=lO X.K aj js tgf) (tt:=dZ X.K aj WF tt) (wi1:=tI X.K aj WF true it1) (g1:=lO X.K aj js1 tgf1) (tt1:=dZ X.K aj WF tt1) (te:=tQ X.K aj WF te) hc hN hy hyl hsw hi (blkOk_by ok) hv (λs H C cl fp=>hg s H C cl fp) ht (λs H C cl fp=>hi1 s H C cl fp) (λs H C cl fp=>hg1 s H C cl fp) ht1 (λs H C cl fp=>he s H C cl fp) hs hs1) λD σ H ⟨g,ρ,M,I,z⟩=>?_;refine Qy hj hj1 σ H _ ⟨g,ρ,M,I,(Out.dD (aZ (σ:=σ) z)).mono (λd kk v H' e r=>?_) λx kk H' c dd e r=>kk H' g c dd (Gr.ex e) (I.ex e) r⟩;exact kk _ H' g (Gr.ex e) ((I.ex e).set r)
end
section
variable{prog:Program}{w:World}{A:Around}{E:Value->Shared->Prop}{s:Shared}
theorem QJ{a:Addr}{k:NestedKey}{stored:List Value}{Q:Bool->Shared->Prop}(hk:NestedIs s.heap k (.ref a))(h8:k.depth<=8)(hst:∀v∈stored,∃x t,v=Value.str x t)(h:Q false s):wpAny (model prog w) A (tableMayTell (.ref a) stored) Q E s:=by
 unfold tableMayTell;split
 .exact ahx h
 .refine ahw (quiet_key k _ 8 s hk h8 _ _ _ ?_);simp only[Bool.not_true,agV,if_false];refine ahw ?_;refine wpAny_forIn_list _ (λrest r s'=>s'=s/\r=(none,())/\∀v∈rest,∃x t,v=Value.str x t) _ ?_ ?_ _ _ ⟨rfl,rfl,hst⟩
  .rintro x rest r s' ⟨rfl,rfl,hr⟩;obtain⟨y,t,rfl⟩:=hr x agA;refine ahw (QuietAt.byValue (n:=8) rfl _ _ _ ?_);simp only[Bool.not_true,agV,if_false];exact ahx ⟨rfl,rfl,λv hv=>hr v (agz _ hv)⟩
  .rintro r s' ⟨rfl,rfl,_⟩;exact ahx h
theorem Nf{d a:Addr}{o:Obj}{es:Array DictEntry}{ep:Nat}{ks:List NestedKey}{Q:Option Nat->Shared->Prop}(hu:A.units+8<cLine)(hk:NestedIs s.heap (.tup ks) (.ref a))(h8:(NestedKey.tup ks).depth<=8)
  (ho:s.heap.get? d=some o) (hd:o.data=.dict es ep) (he:∀e∈es,∃x t,e.key=Value.str x t) (h:Q none s):wpAny (model prog w) A (dictFind d (.ref a) ((NestedKey.tup ks).hash w)) Q E s:=by
 have hany:¬(es.any λe=>e.key==Value.ref a&&e.hash != (NestedKey.tup ks).hash w)=true:=by rw[<-Array.any_toList,List.any_eq_true];rintro⟨e,hin,hc⟩;obtain⟨x,t,hx⟩:=he e (Array.mem_toList_iff.mp hin);rw[hx]at hc;simp at hc
 have hst:∀v∈(placesWithHash es.size (λi=>es[i]?.map (·.hash)) ((NestedKey.tup ks).hash w)).filterMap (λi=>es[i]?.map (·.key)),∃x t,v=Value.str x t:=by
  intro v hv;obtain⟨i,_,hi⟩:=List.mem_filterMap.mp hv;cases hei:es[i]? with
  |none=>rw[hei]at hi;cases hi
  |some e=>
   rw[hei]at hi
   obtain rfl:e.key=v:=by simpa using hi
   exact he e (Array.mem_of_getElem? hei)
 unfold dictFind
 try with_reducible refine wpAny_holding ?_
 refine ahw (wpAny_dictEntries ho hd ?_)
 dsimp only
 rw[ahz (show ¬((Value.ref a::(placesWithHash es.size (λi=>es[i]?.map (·.hash)) ((NestedKey.tup ks).hash w)).filterMap (λi=>es[i]?.map (·.key))).all carriedByValue)=true by simp[carriedByValue])];rw[ahz hany];by_cases hone:(((placesWithHash es.size (λi=>es[i]?.map (·.hash)) ((NestedKey.tup ks).hash w)).filterMap (λi=>es[i]?.map (·.key)))==[Value.ref a])=true <;>
 (first | rw[ahy hone] | rw[ahz hone])<;>(first | refine ahw (ahx ?_) | refine ahw (QJ hk h8 hst ?_))<;>(
  rw[ahz (by simp)];refine ahw ?_;refine wpAny_forIn_list _ (λ_ b s'=>s'=s/\b=(none,none)) _ ?_ ?_ _ _ ⟨rfl,rfl⟩
  .rintro x rest b s' ⟨rfl,rfl⟩;cases hex:es[x]? with
   |none=>exact ahx ⟨rfl,rfl⟩
   |some e=>
    obtain⟨y,t,hy⟩:=he e (Array.mem_of_getElem? hex)
    dsimp only
    by_cases hh:(e.hash==(NestedKey.tup ks).hash w)=true
    .rw[ahy hh,hy];refine ahw (wpAny_dictEpoch ho hd (ahw (eqAt_key (.text y) (.tup ks) _ _ _ _ (.text y t) hk (by have:(NestedKey.text y).depth=0:=rfl;omega) _ _ _ _ (ahw (wpAny_dictEpoch ho hd ?_)))));rw[ahz (by simp)];simp only[NestedKey.beq,agV,if_false];refine ahw (wpAny_rule ?_)
     first | rw[ahz (by simp)] | skip
     first
      |exact ahx ⟨rfl,rfl⟩
      |exact ahw (ahx (ahx ⟨rfl,rfl⟩))
    .rw[ahz hh];exact ahx ⟨rfl,rfl⟩
  .rintro b s' ⟨rfl,rfl⟩;exact ahx h)
theorem Ot{d a:Addr}{o:Obj}{es:Array DictEntry}{ep:Nat}{ks:List NestedKey}{Q:Option Value->Shared->Prop}(hu:A.units+8<cLine)(hk:NestedIs s.heap (.tup ks) (.ref a))(h8:(NestedKey.tup ks).depth<=8)
  (ho:s.heap.get? d=some o) (hd:o.data=.dict es ep) (he:∀e∈es,∃x t,e.key=Value.str x t) (h:Q none { s with toks:=s.toks+(NestedKey.tup ks).draws }):wpAny (model prog w) A (dictGet d (.ref a)) Q E s:=by
 unfold dictGet
 try with_reducible refine wpAny_holding ?_
 refine ahw (pyHash_key _ _ _ _ _ hk (by omega) (ahw (Nf (s:={ s with toks:=s.toks+(NestedKey.tup ks).draws }) hu hk h8 ho hd he ?_)));exact ahx h
theorem qM{d a:Addr}{o:Obj}{es:Array DictEntry}{ep:Nat}{ks:List NestedKey}{Q:Bool->Shared->Prop}(hu:A.in1.units+8<cLine)(hk:NestedIs s.heap (.tup ks) (.ref a))(h8:(NestedKey.tup ks).depth<=8)(hs:(d==sysModules)=false)
  (ho:s.heap.get? d=some o) (hc:o.cls=.type "dict") (hd:o.data=.dict es ep) (he:∀e∈es,∃x t,e.key=Value.str x t) (h:Q false { s with toks:=s.toks+(NestedKey.tup ks).draws }):wpAny (model prog w) A (contains (.ref d) (.ref a)) Q E s:=by
 have hT:s.TypeIs (.ref d) "dict":=⟨o,ho,hc⟩
 unfold contains
 try with_reducible refine wpAny_holding ?_
 refine ahw (wpAny_specialOf hT PySem.F.slot_dict_contains.lookup ?_);show wpAny _ _ (if (some (Value.builtin "dict.__contains__")==some Value.none)=true then _ else _) _ E s
 rw[ahz (by rw[beq_builtin_none];exact Bool.false_ne_true)];refine ahw (wpAny_callSpecialUnlessNone?_slot (name:=Str.ofString "__contains__") hT PySem.F.slot_dict_contains
  (wpAny_call_entry PySem.F.slot_dict_contains hT PySem.F.entry_dict_contains ?_ (args_dict_contains _ _)))
 show wpAny _ _ (dictGet d (.ref a) >>= _) _ _ s;refine ahw (Ot hu hk h8 ho hd he ?_);show wpAny _ _ (Builtin.Dict.pendingKey? d (.ref a) >>= _) _ _ _;exact ahw (wpAny_pendingKey_other hs (ahx ⟨_,rfl,wpAny_truthy_bool h⟩))
end
def Uz(X:Cx)(d:Addr)(neg:Bool):R2:=λx y H Q=>y=.ref d/\((∃(z:Str) (r:Option Value),x=.str z/\PySem.W.nsIn X.K d z=some r/\Q (.bl (neg ^^ r.isSome)) H)\/(∃i,x=.int i/\Q (.bl neg) H)\/
 ∃(g:Gh) (dd:Dat) (b:Addr) (ks:List NestedKey),x=.ref b/\Rep X.K g H x dd/\jK dd=some (.tup ks)/\(NestedKey.tup ks).depth<=8/\Q (.bl neg) H)
section
variable{X:Cx}{d:Addr}{es:Array DictEntry}{n:Nat}
theorem Oc{pins:List (Addr×Obj)}{σ:L2.St}{H:Hp}{s:Shared}(D:KDict X.K X.w d es n)(I:L2.Inv X pins σ H s):s.heap.MapOf (mixKind X.prog X.w) d (λk=>findBy keyIs es k):=
 ⟨_,es,n,I.kIn _ _ D.at_,⟨rfl,rfl,rfl⟩,rfl,λe he=>by
  obtain⟨x,t,e1,e2⟩:=D.lit.all e (Array.mem_toList_iff.mpr he);exact⟨.inr x,by rw[e1];exact keyIs_str x t,e2⟩,λ_=>rfl⟩
theorem GJ(D:KDict X.K X.w d es n)(i:Int):findBy keyIs es (.inl i)=none:=by unfold findBy;rw[Option.map_eq_none_iff,Array.find?_eq_none];intro e he;obtain⟨x,t,e1,_⟩:=D.lit.all e (Array.mem_toList_iff.mpr he);rw[e1];exact λz=>by cases z
theorem Kh(D:KDict X.K X.w d es n):∀e∈es,∃x t,e.key=Value.str x t:=λe he=>by
 obtain⟨x,t,e1,_⟩:=D.lit.all e (Array.mem_toList_iff.mpr he);exact⟨x,t,e1⟩
theorem V6(hu:X.A.units+64<cLine)(D:KDict X.K X.w d es n):OpR X (compareOp .In) (Uz X d false):=by
 intro pins s σ H x y v u Q I rx ry h;obtain⟨rfl,h⟩:=h;rcases h with⟨z,r,rfl,e,q⟩|⟨i,rfl,q⟩|⟨g,dd,b,ks,rfl,hr,hk,h8,q⟩
 .exact op_in_kd D pins s σ H _ _ v u Q I rx ry ⟨z,r,rfl,rfl,e,by simpa using q⟩
 .obtain⟨t,rfl⟩:=rx;cases ry;refine wpAny_in_of (knd:=mixKind X.prog X.w) (k:=.inl i) (keyIs_int i t) D.low (Oc D I) ?_;rw[GJ D];exact⟨.bl false,H,I.tok _,rfl,q⟩
 .obtain rfl:v=Value.ref b:=rx
  cases ry;show wpAny _ _ (do return Value.bool (<-contains (.ref d) (.ref b))) _ _ s;exact ahw (qM (show X.A.units+1+8<cLine by omega) (key_is I hr hk rfl) h8 D.low (I.kIn _ _ D.at_) rfl rfl (Kh D) (ahx ⟨.bl false,H,I.tok _,rfl,q⟩))
theorem Lq(hu:X.A.units+64<cLine)(D:KDict X.K X.w d es n):OpR X (compareOp .NotIn) (Uz X d true):=by
 intro pins s σ H x y v u Q I rx ry h;obtain⟨rfl,h⟩:=h;rcases h with⟨z,r,rfl,e,q⟩|⟨i,rfl,q⟩|⟨g,dd,b,ks,rfl,hr,hk,h8,q⟩
 .exact op_notIn_kd D pins s σ H _ _ v u Q I rx ry ⟨z,r,rfl,rfl,e,by simpa using q⟩
 .obtain⟨t,rfl⟩:=rx;cases ry;refine wpAny_notIn_of (knd:=mixKind X.prog X.w) (k:=.inl i) (keyIs_int i t) D.low (Oc D I) ?_;rw[GJ D];exact⟨.bl true,H,I.tok _,rfl,q⟩
 .obtain rfl:v=Value.ref b:=rx
  cases ry;show wpAny _ _ (do return Value.bool (!(<-contains (.ref d) (.ref b)))) _ _ s;exact ahw (qM (show X.A.units+1+8<cLine by omega) (key_is I hr hk rfl) h8 D.low (I.kIn _ _ D.at_) rfl rfl (Kh D) (ahx ⟨.bl true,H,I.tok _,rfl,q⟩))
end
def wI(neg:Bool)(kvs:List (Str×Dat))(k:QF):QF:=λM ρ=>(k M ρ).bind λd=>match d with
 |.str x=>.ok (.bool (neg ^^ (kvs.lookup x).isSome))
 |.int _=>.ok (.bool neg)
 |.tuple ds=>(match jU ds with
  |some ks=>Out.when (decide ((NestedKey.tup ks).depth<=8)) (.ok (.bool neg))
  |none=>.bad)
 |_=>.bad
def zA(kvs:List (Str×Dat))(k:QF):QF:=λM ρ=>(k M ρ).bind λd=>match d with
 |.str x=>match kvs.lookup x with
  |some y=>.ok y
  |none=>.bad
 |_=>.bad
section
variable{X:Cx}{aj:aC}{W:WX}{a:Expr}{fa:QF}{x:Str}{p pos:Pos}{kvs:List (Str×Dat)}{k:Nat}
theorem Q8{neg:Bool}{d:Addr}(D:Mh X.w X.K d kvs)(σ:L2.St)(H:Hp)(Q:VK)(h:tQ X.K aj W (wI neg kvs fa) σ H Q):tOp (Uz X d neg) (tW X.K aj W fa) (tC (.ref d)) σ H Q:=by
 obtain⟨g,ρ,M,I,h⟩:=h;refine tW.go I h.bnd λe v H1 h1 e1 r1=>?_;split at h1
 .next z=>
  cases bB r1;obtain⟨es,n,_,_,hl⟩:=D;have hz:=hl z;cases hk:kvs.lookup z with
  |none=>
   rw[hk]at hz h1;exact⟨rfl,.inl ⟨z,none,rfl,hz,h1 _ H1 e1 (.bl _)⟩⟩
  |some d'=>
   rw[hk]at hz h1;obtain⟨v,u,h2,_⟩:=hz;exact⟨rfl,.inl ⟨z,some u,rfl,h2,h1 _ H1 e1 (.bl _)⟩⟩
 .exact⟨rfl,.inr (.inl ⟨_,aK r1,h1 _ H1 e1 (.bl _)⟩)⟩
 .next ds=>
  split at h1
  .next ks hk=>
   obtain⟨h8,h1⟩:=h1.dN;obtain⟨p,us,rfl,q1,q2⟩:=d9 r1;exact⟨rfl,.inr (.inr ⟨g,.tuple ds,p,ks,rfl,.tup q1 q2,by rw[jK,hk];rfl,ahv h8,h1 _ H1 e1 (.bl _)⟩)⟩
  .exact aht h1
 .exact aht h1
theorem opG{neg:Bool}{op:CmpOp}{d:Addr}(hr:Room k X.A)(hn:(op=.In/\neg=false)\/(op=.NotIn/\neg=true))(D:Mh X.w X.K d kvs):OpR X (compareOp op) (Uz X d neg):=by
 obtain⟨es,n,D,_⟩:=D;have hu:X.A.units+64<cLine:=by have:=hr.un;omega
 rcases hn with⟨rfl,rfl⟩|⟨rfl,rfl⟩
 .exact V6 hu D
 .exact Lq hu D
theorem abq{neg:Bool}{op:CmpOp}(hr:Room k X.A)(hn:(op=.In/\neg=false)\/(op=.NotIn/\neg=true))(g:aU X.prog X.w X.K X.mg X.base aj k x (.dic kvs))(hg:Gl X x)(hd:(x==("__debug__" : Str))=false)(ha:QW aj X W a fa):QE aj X W (.Compare a [op] [.Name x p] pos) (wI neg kvs fa)/\jf aj X W (.Compare a [op] [.Name x p] pos) (aY (wI neg kvs fa)):=by obtain⟨d,hm,D⟩:=g;have hb:PE X (.Name x p) (tC (.ref d)):=pe_glob hg hm rfl hd;refine⟨PE.weak (pe_cmpR (opG hr hn D) ha hb (by cases op<;>rfl)) λσ H Q h=>Q8 D σ H Q h,PT.weak (pt_cmpR (opG hr hn D) ha hb (by cases op<;>rfl)) λσ H Q ⟨g,ρ,M,I,h⟩=>?_⟩;refine Q8 D σ H _ ⟨g,ρ,M,I,h.bnd.mono (λd h1 v H' e' r'=>?_) λ_ z=>z⟩;obtain⟨k,h2,h3⟩:=pN r'.weak h1;exact⟨k,h2,h3 H' e'⟩
theorem YM(g:aU X.prog X.w X.K X.mg X.base aj k x (.dic kvs))(hg:Gl X x)(hd:(x==("__debug__" : Str))=false)(ha:QW aj X W a fa)(hp:PlainIx a):QE aj X W (.Subscript (.Name x p) a pos) (zA kvs fa):=by
 obtain⟨d,hm,es,n,D,_,hl⟩:=g;have hb:PE X (.Name x p) (tC (.ref d)):=pe_glob hg hm rfl hd;refine PE.weak (pe_ix ix_kdict hb ha hp) λσ H Q ⟨g,ρ,M,I,h⟩=>?_;refine tW.go I h.bnd λe v H1 h1 e1 r1=>?_;split at h1
 .next z=>
  cases bB r1;have hz:=hl z;split at h1
  .next y hk=>
   rw[hk]at hz;obtain⟨v,u,h2,h3,h4⟩:=hz;exact⟨d,z,v,rfl,rfl,⟨es,n,u,D.at_,D.lit,h2,h3⟩,h1 v H1 e1 (h4 g H1)⟩
  .exact aht h1
 .exact aht h1
end
end Rf
namespace L2
open PySem PySem.Spec PyProof.Rows
section
variable{X:Cx}{s0:Shared}{H0:Hp}{scope:Scope}{ce:PySem.Env}{fp:List Addr}{E:XK}{pins:List (Addr×Obj)}{σ:St}{H:Hp}{s:Shared}
def YF(X:Cx)(s0:Shared)(H0:Hp)(scope:Scope)(ce:PySem.Env)(fp:List Addr)(E:XK)(u:Value)(s':Shared):Prop:=
 ∃(pins:List (Addr×Obj)) (σ:St) (H:Hp) (s:Shared),Inv (X.blk s0 H0 scope ce fp) pins σ H s/\CX X.prog X.w X.stack H s E u s'
abbrev Cx.Ka(X:Cx)(s0:Shared)(H0:Hp)(scope:Scope)(ce:PySem.Env)(fp:List Addr)(E:XK):Cx:=(X.blk s0 H0 scope ce fp).tr [] (YF X s0 H0 scope ce fp E)
theorem Inv.toX(I:Inv (X.blk s0 H0 scope ce fp) pins σ H s):Inv (X.Ka s0 H0 scope ce fp E) pins σ H s:=
 ⟨I.ok.toTry _ _,I.os,I.bare,I.base,I.loc,I.cell,I.free,I.freeC,I.pin,I.hok,I.len⟩
theorem Inv.ofX(I:Inv (X.Ka s0 H0 scope ce fp E) pins σ H s):Inv (X.blk s0 H0 scope ce fp) pins σ H s:=
 ⟨I.ok.ofTry,I.os,I.bare,I.base,I.loc,I.cell,I.free,I.freeC,I.pin,I.hok,I.len⟩
theorem Xc{σ:St}:PassesAt (L2.CX X.prog X.w) (X.Ka s0 H0 scope ce fp E) σ E:=λpins H s _ _ I c=>⟨pins,σ,H,s,I.ofX,c⟩
theorem Iu{h B B':Heap}{a:Addr}{Z:Obj->Prop}{fl:Value}(l:∀b,B.get? b=none->B'.get? b=none)(x:HandSPX.TracedZ h B a Z fl):HandSPX.TracedZ h B' a Z fl:=by obtain⟨oe,vs,T,oT,ts,he,hz,hd,h1,hnT,r⟩:=x;exact⟨oe,vs,T,oT,ts,he,hz,hd,h1,l _ hnT,r⟩
theorem Ov{W:WX}(hs:X.stack=X.env::X.outer)(hf:X.env.frame=some X.env.locals)(tk:Takes X W)(hcf:ce.frame=X.env.frame)(I3:Inv X pins σ H0 s0)(hC:s0.heap.objs.size<=ce.locals)
  (hfp:∀b∈fp,(b∈X.ex\/X.s_0.heap.objs.size<=b)/\b≠X.env.locals/\(∀x c,X.env.cells.lookup x=some c->c≠b)/\∀p∈X.pn++pins,p.1≠b)
  {u:Value} {s':Shared} (x:YF X s0 H0 scope ce fp (λc d H'=>W c d σ H') u s'):notedBy (model X.prog X.w) X.A ce (CompFails (model X.prog X.w) X.A X.xe ce) u s':=by
 obtain⟨pins1,σ1,H1,s1,I1,c⟩:=x;obtain⟨a,B,H',cls,d,rfl,fl,hok,ub,na,os,ag,hE⟩:=c;have J:Inv X pins σ H1 s1:=I3.call' (ch:=fp) I1.os I1.base I1.hok I1.bare hfp;have hfr:X.A.frames=some (X.env::X.outer):=by rw[I3.ok.frames,hs]
 have C1:H1 ce.locals=none:=I1.free;have nfC:ce.locals∉frs X.stack:=λhm=>by
  have hm:ce.locals∈(X.blk s0 H0 scope ce fp).fs:=hm;obtain⟨_,o,ho,_⟩:=I1.ok.funs.mem hm;exact absurd (Nat.lt_of_lt_of_le (Heap.lt_size ho) hC) (Nat.lt_irrefl _)
 obtain⟨m,hn,_⟩:=I1.loc;have hn:s1.heap.Ns ce.locals m:=hn;obtain⟨oC,es,ep,hoC,hdC,rC⟩:=id hn;have hBC:B.get? ce.locals=some oC:=ub.keep _ _ hoC C1 nfC;have hC':H' ce.locals=none:=ub.free _ _ hoC C1;have st:B.StaysIn s'.heap:=fl.1;have hn':s'.heap.Ns ce.locals m:=⟨oC,es,ep,st _ _ hBC,hdC,rC⟩
 -- the ground without the block's names
 generalize hBe:PySem.W.hideAll B [ce.locals]=B';have b1:∀b o,B'.get? b=some o->B.get? b=some o:=λb o e=>by
  rw[<-hBe]at e;exact PySem.W.of_hideAll _ e
 have b2:B'.get? ce.locals=none:=by rw[<-hBe];exact PySem.W.hideAll_none _ agA
 have b3:∀b o,B.get? b=some o->b≠ce.locals->B'.get? b=some o:=λb o e ne=>by
  rw[<-hBe];exact PySem.W.hideAll_get _ e λz=>ne (agJ.mp z)
 have b4:∀b,B.get? b=none->B'.get? b=none:=λb e=>by
  cases q:B'.get? b with
  |none=>rfl
  |some o=>rw[b1 b o q]at e;cases e
 have fl':HandSPX.FlyingZ B' (X.env::X.outer) a (Zc cls d) s'.heap:=by
  obtain⟨f1,f2,f3,f4⟩:=fl;rw[hs]at f3;exact⟨λb o e=>f1 b o (b1 b o e),b4 _ f2,funFrames_none f3 λL hL=>b4 _ (by
   obtain⟨hn0,_⟩:=f3.mem hL;exact hn0),Iu b4 f4⟩
 show wpAny _ X.A (noteFrame (.ref a) ce) _ _ s';rw[noteFrame_env _ hcf];refine HandSPX.looks_onZ Zc.steady hfr hf fl' λh1 hh up1=>?_;have hn1:h1.Ns ce.locals m:=hn'.upToSlots up1;refine⟨m,hn1,λh2 m2 hn2 sb=>?_⟩;obtain⟨k1,k2,k3,k4⟩:=hh
 -- over the block's end
 have hb:∀b,b≠ce.locals->∀o,h1.get? b=some o->h2.get? b=some o:=λb ne o e=>(sb.2 b ne).trans e;obtain⟨oC1,es1,ep1,hoC1,hdC1,_⟩:=id hn1;have nfd:∀b o vs,h1.get? b=some o->o.data=.fields vs->b≠ce.locals:=λb o vs e hd z=>by
  rw[z,hoC1]at e;cases e;rw[hdC1]at hd;cases hd
 have hh2:HandSPX.HeldZ B' (X.env::X.outer) a (Zc cls d) X.env.locals h2:=by refine⟨λb o e=>hb b (λz=>by rw[z,b2]at e;cases e) o (k1 b o e),k2,Heap.FunFrames.sameBut sb hn2 k3,?_⟩;obtain⟨oe,vs,T,oT,ts,he,hz,hd,h1',hnT,hTe,hT,hdT,h3⟩:=k4;exact⟨oe,vs,T,oT,ts,hb a (nfd _ _ _ he hd) _ he,hz,hd,h1',hnT,hTe,hb T (nfd _ _ _ hT hdT) _ hT,hdT,h3⟩
 obtain⟨oe,vs,T,oT,ts,he,hz,hd,h1',hnT,hTe,hT,hdT,h3⟩:=id hh2.2.2.2;unfold PySem.passOn;refine wpAny_bind (wpAny_field he hd h1' ?_);rw[if_neg (show ¬((Value.ref T==Value.none)=true) from by simp)];rw[hcf,hf];refine wpAny_bind (HandSPX.setFlight_onZ hh2 λh3 hh3 up3=>?_);refine wpAny_throw ?_
 -- in the def's own air
 refine tk _ _ ?_;obtain⟨G,g1,g2⟩:=restrict s'.heap λb=>(B'.get? b).isSome || decide (b∈frs X.stack)
 have stB:∀b o,B'.get? b=some o->s'.heap.get? b=some o:=λb o e=>st b o (b1 b o e);have gB:∀b o,B'.get? b=some o->G.get? b=some o:=λb o e=>by
  rw[g1 b (by simp[e])];exact stB b o e
 have gF:∀b,b∈frs X.stack->G.get? b=s'.heap.get? b:=λb hb=>g1 b (by simp[hb]);have og:∀b o,G.get? b=some o->s'.heap.get? b=some o/\((B'.get? b).isSome=true\/b∈frs X.stack):=λb o e=>by
  cases q:((B'.get? b).isSome || decide (b∈frs X.stack)) with
  |false=>rw[g2 b q]at e;cases e
  |true=>
   rw[g1 b q]at e;exact⟨e,by simpa [ahj] using q⟩
 have gC:G.get? ce.locals=none:=g2 _ (by simp[b2,nfC]);have hokB:HOk X.prog X.w H' B':=λb o q=>(hok b o q).stay (λc u hc r=>b3 c u r λz=>by
  rcases hc with hc|hc
  .rw[<-hc,z,hC']at q;cases q
  .rw[z,hC']at hc;cases hc) (λ_ r=>r) λ_ _ r=>r
 have fC:=I3.fpOk hC C1;have ne:∀b o,s1.heap.get? b=some o->b∉[ce.locals]->b≠ce.locals:=λb o _ h z=>h (by rw[z];exact agA);refine⟨a,B',{ s1 with heap:=G,gens:=s'.gens,drawn:=s'.drawn,toks:=s'.toks },pins,σ,H',cls,d,rfl,?_,λb o e hb=>?_,λb o e hnf=>?_,.inr (.inr (by rw[hs];exact hh3)),na,os,ag,hE⟩
 .refine J.call (ch:=[ce.locals]) ⟨λb o e n hb hc=>gB b o (b3 b o (ub.keep b o e n hb) (ne b o e hc)),λb o e _ hb hc=>?_,λb o e n hc=>ub.free b o e n,λb o e hc=>?_,ub.tups,ub.frzs,ub.tbls⟩ (hokB.kept gB) ag (λb z=>by
   rw[agJ.mp z];exact⟨fC.2.2.2.1,fC.2.1,fC.2.2.2.2.1,fC.2.2.2.2.2⟩)
  .obtain⟨sl,q⟩:=ub.slot b o e hb;exact⟨sl,by rw[gF b hb];exact q⟩
  .by_cases hb:b∈frs X.stack
   .obtain⟨sl,q⟩:=ub.slot b o e hb;exact⟨_,by rw[gF b hb];exact q⟩
   .obtain⟨o',q⟩:=ub.there b o e hb;exact⟨o',gB b o' (b3 b o' q (ne b o e hc))⟩
 .obtain⟨e',h⟩:=og b o e;rcases h with h|h
  .obtain⟨o',q⟩:=Option.isSome_iff_exists.mp h;have z:=stB b o' q;rw[e']at z;cases z;exact q
  .exact absurd h hb
 .obtain⟨e',_⟩:=og b o e;have hbC:b≠ce.locals:=λz=>by
   have e2:G.get? b=some o:=e;rw[z,gC]at e2;cases e2
  obtain⟨QZ,e1⟩:=up1 b o e' hnf;obtain⟨sl2,e2⟩:=up3 b _ (hb b hbC _ e1) hnf;exact⟨sl2,e2⟩
theorem aat{elt tg iter:Expr}{ifs:List Expr}{scope:Scope}{own:List (Str×Nat)}{pos:Pos}{wi:TI}{g:TG}{tt:TT}{te:XK->TE}{Wx:WX}(hst:X.stack=X.env::X.outer)(hfr:X.env.frame=some X.env.locals)(tk:Takes X Wx)
  (hc:X.calm=true) (hN:X.N.Nodup) (hi:PI X tg iter wi) (ok:BlkOk X.N X.env.scope scope own)
  (hg:∀(s:Shared) (H:Hp) (C:Addr) (cl:List (Str×Addr)) (fp:List Addr),PG (X.blk s H scope (compEnvC scope cl C X.env) fp) tg g) (ht:∀(s:Shared) (H:Hp) (C:Addr) (cl:List (Str×Addr)) (fp:List Addr),PTs (X.blk s H scope (compEnvC scope cl C X.env) fp) ifs tt)
  (he:∀(E:XK) (s:Shared) (H:Hp) (C:Addr) (cl:List (Str×Addr)) (fp:List Addr),PE (X.Ka s H scope (compEnvC scope cl C X.env) fp E) elt (te E)) (hs:∀x,foldedSetIterable iter X.env x=pure x) :
  PE X (.ListComp elt [⟨tg,iter,ifs,0⟩] scope pos) (λσ H Q=>tLc wi g tt (te λc d H'=>Wx c d σ H') (own.map (·.2)) σ H Q):=by
 refine⟨λpins s σ H Q I h=>?_⟩;rw[eval_ListComp];have hfree:∀y∈scope.names,y.2=.free->∃c,X.env.cells.lookup y.1=some c:=λy hy e=>by
  rcases ok.free y hy e with k|k
  .exact I.ok.has _ (.inl k)
  .exact I.ok.has _ (.inr k)
 refine comprehension_at (use:=none) rfl hs (closure_ok hfree) ok.kind (λy hy e=>by rw[ok.uniq y hy,e])
  (thn (hi.run pins s σ H _ I h) λxv s1 hx=>thn hx λitv s2 h2=>?_)
 obtain⟨it,fp,tn,J,H2,e,I2,T,st2,f2,q⟩:=h2;subst e;refine wpAny_newObj_type (newEnv_comp ?_) (by show 0<=sizeLine;decide);generalize hD:s2.heap.objs.size=D;have hDn:H2 D=none:=I2.hok.fresh (Nat.le_of_eq hD);obtain⟨W,⟨m0,w0⟩,turn⟩:=q D hDn
 -- the new list
 generalize hs3:({ s2 with heap:=s2.heap.push { cls:=.type "list",data:=.seq ([]:List Value).toArray } }:Shared)=s3
 have I3:Inv X pins σ (upd H2 D (.lst [])) s3:=by rw[<-hs3];refine I2.laid (t':=s2.toks) (λb o e=>Heap.get?_push_of_some _ e) (Nat.le_of_eq hD) ⟨agO _,[],0,.nil,?_⟩;rw[<-hD];exact Heap.get?_push_size _ rfl
 have h3:s3.heap=s2.heap.push { cls:=.type "list",data:=.seq ([]:List Value).toArray }:=by rw[<-hs3]
 have sz:∀b∈fp,b<s2.heap.objs.size:=λb hb=>by
  obtain⟨o,e,_⟩:=T.obj _ _ st2 b hb;exact Heap.lt_size e
 have f3:∀b∈fp,FpOk X pins (upd H2 D (.lst [])) b/\b<s3.heap.objs.size:=λb hb=>by
  have hlt:=sz b hb;refine⟨⟨?_,(f2 b hb).2⟩,by rw[h3,Heap.size_push];exact ahf hlt⟩;rw[upd_ne (by rw[<-hD];exact ag4 hlt)];exact(f2 b hb).1
 have st3:tn 0 s3.heap:=T.keep _ _ _ st2 λb _ o e=>by rw[h3];exact Heap.get?_push_of_some _ e
 have I4:=block_start I3 ok hN f3;have pg:=hg s3 (upd H2 D (.lst [])) s3.heap.objs.size (cellsFrom (s3.heap.objs.size+1) scope.names (cloFrom X.env.cells scope.names [])) fp;have pt:=ht s3 (upd H2 D (.lst [])) s3.heap.objs.size (cellsFrom (s3.heap.objs.size+1) scope.names (cloFrom X.env.cells scope.names [])) fp;have pe:=he (λc d H'=>Wx c d σ H') s3 (upd H2 D (.lst [])) s3.heap.objs.size (cellsFrom (s3.heap.objs.size+1) scope.names (cloFrom X.env.cells scope.names [])) fp;show codeAny _ _ (.compStart (.ListComp elt [⟨tg,iter,ifs,0⟩] scope pos) 0 (.ref it) (.ref D) (compEnvC scope (cellsFrom (s3.heap.objs.size+1) scope.names (cloFrom X.env.cells scope.names [])) s3.heap.objs.size X.env)) (compEnds (model X.prog X.w) X.A X.xe none (EP X pins σ Q) (.ref D) (compEnvC scope (cellsFrom (s3.heap.objs.size+1) scope.names (cloFrom X.env.cells scope.names [])) s3.heap.objs.size X.env)) { s3 with heap:=pushCells (s3.heap.push { cls:=.type "dict",data:=.dict #[] }) scope.names }
 have nfp:∀b∈fp,(upd H2 D (.lst [])) b=none:=λb hb=>(f3 b hb).1.1;generalize hce:compEnvC scope (cellsFrom (s3.heap.objs.size+1) scope.names (cloFrom X.env.cells scope.names [])) s3.heap.objs.size X.env=ce at I4 pg pt pe |-
 have cL:ce.locals=s3.heap.objs.size:=by subst hce;rfl
 generalize hH3:upd H2 D (.lst [])=H3 at I3 I4 pg pt pe w0 nfp f3;generalize hs4:({ s3 with heap:=pushCells (s3.heap.push { cls:=.type "dict",data:=.dict #[] }) scope.names }:Shared)=s4 at I4 |-
 have st4:tn 0 s4.heap:=T.keep _ _ _ st3 λb _ o e=>by rw[<-hs4];exact pushCells_keeps _ _ _ _ (Heap.get?_push_of_some _ e)
 have stat:∀{σ':St} {H':Hp} {s':Shared},Inv (X.blk s3 H3 scope ce fp) [] σ' H' s'->(∀b∈fp,H' b=none)->∀b∈fp,FpOk (X.blk s3 H3 scope ce fp) [] H' b:=λ{σ' H' s'} I' hn b hb=>
  ⟨hn b hb,(I'.ok.exf b hb).1,I'.ok.exfs b hb,.inl hb,λx c e=>(I'.ok.exf b hb).2 x c e,λp hp=>absurd (show p∈([]:List (Addr×Obj))++[] from hp) (by simp)⟩
 have loop:codeAny (model X.prog X.w) X.A (.compLoop (.ListComp elt [⟨tg,iter,ifs,0⟩] scope pos) 0 (.ref it) (.ref D) ce) (compEnds (model X.prog X.w) X.A X.xe none (EP X pins σ Q) (.ref D) ce) s4:=by
  refine compLoop_any (λn s'=>∃i H',Inv (X.blk s3 H3 scope ce fp) [] (wipe σ (own.map (·.2))) H' s'/\tn i s'.heap/\(∀b∈fp,H' b=none)/\W i n H') ?_ m0 ⟨0,H3,I4,st4,nfp,w0⟩;rintro n s5 ⟨i,H5,I5,st5,n5,w5⟩;rcases turn i n H5 w5 with⟨stop,qq⟩|⟨go,Nx,hNx,step⟩
  .have td:=T.done (X.blk s3 H3 scope ce fp) rfl rfl rfl hc i [] s5 _ H5 (λ_ _=>False) I5 (stat I5 n5) st5 stop;refine thnF td λr s6 ⟨hr,I6⟩=>?_;subst hr
   -- back in the def's context
   have I7:Inv X pins σ H5 s6:=I3.call' (ch:=fp) I6.os I6.base I6.hok I6.bare λb hb=>⟨(f3 b hb).1.2.2.2.1,(f3 b hb).1.2.1,(f3 b hb).1.2.2.2.2.1,(f3 b hb).1.2.2.2.2.2⟩;have nC:H5 s3.heap.objs.size=none:=by have z:H5 ce.locals=none:=I6.free;rw[cL]at z;exact z
   obtain⟨m,hn,_⟩:=I6.loc;have hn:s6.heap.Ns ce.locals m:=hn;rw[cL]at hn;obtain⟨f0,f1,f2,f3',f4,f5⟩:=I3.fpOk (agL _) nC;exact⟨m,by rw[cL];exact hn,λh'' sb=>by
    rw[cL]at sb;exact⟨.ref D,H5,I7.turned (t':=s6.toks) (λb o hb e=>(sb.2 b hb).trans e) f0 f1 f3' f4 f5,rfl,qq⟩⟩
  .have ti:=T.item (X.blk s3 H3 scope ce fp) rfl rfl rfl hc i [] s5 _ H5 (λ_ _=>False) I5 (stat I5 n5) st5 go;refine thnF ti λr s6 ⟨u,hr,h6⟩=>?_;subst hr;refine thnF h6 λ_ s7 ⟨x,H7,I7,r7,y7,st7,n7⟩=>?_;have I7':=I7.pinned (stat I7 n7) (T.obj _ _ st7);refine thnF (pg.run _ s7 _ H7 x u _ I7' r7 (step x H7 y7)) λ_ s8 ⟨σ8,H8,I8,hw8,q8⟩=>?_;refine thnF (pt.run _ s8 σ8 H8 _ I8 q8) λb s9 ⟨H9,I9,q9⟩=>?_
   -- the turn's end
   have fin:∀{s':Shared} {H':Hp},Inv (X.blk s3 H3 scope ce fp) ([]++pinsAt fp s7.heap) σ8 H' s'->Nx H'->∃m,m<n/\∃i H',Inv (X.blk s3 H3 scope ce fp) [] (wipe σ (own.map (·.2))) H' s'/\tn i s'.heap/\(∀b∈fp,H' b=none)/\W i m H':=λ{s' H'} I' nx=>by
    obtain⟨m',hm,w'⟩:=hNx H' nx;have pin':∀b∈fp,∀o,s7.heap.get? b=some o->s'.heap.get? b=some o/\H' b=none:=λb hb o e=>
     let z:=I'.pin (b,o) (ahi _ (ahi _ (mem_pinsAt hb e)))
     ⟨z.1,z.2.1⟩
    have hl:(wipe σ (own.map (·.2))).length=σ8.length:=by rw[<-hw8,wipe_length]
    refine⟨m',hm,i+1,H',(I'.unpinned (pins:=[])).weak hl (λj v e=>?_),T.keep _ _ _ st7 λb hb o e=>(pin' b hb o e).1,λb hb=>?_,w'⟩
    .rw[<-hw8]at e;exact(wipe_some e).1
    .obtain⟨o,e,_⟩:=T.obj _ _ st7 b hb;exact(pin' b hb o e).2
   cases b with
   |false=>
    simp only[agV,if_false]at q9 |-
    exact fin I9 q9
   |true=>
    simp only[if_true]at q9 |-
    refine wpAny_mono (pe.run _ s9 σ8 H9 _ I9.toX q9) (λz s10 ⟨yv,H10,I10x,r10,acc,hD10,hz10,nx⟩=>?_) λu s10 xb=>Ov hst hfr tk (by subst hce;rfl) I3 (by rw[cL];exact agL _) (λb hb=>⟨(f3 b hb).1.2.2.2.1,(f3 b hb).1.2.1,(f3 b hb).1.2.2.2.2.1,(f3 b hb).1.2.2.2.2.2⟩) xb;have I10:=I10x.ofX;exact app_ok (X:=X.blk s3 H3 scope ce fp) I10 hD10 hz10 r10 λs11 I11=>fin I11 nx
 exact codeAny_compStart_list loop (T.self X.A 0 _ _ _ st4 loop)
end
end L2
namespace Rf
open PySem PySem.Spec PyProof.Rows L2 Evl
def qp(tg:bT)(te:QF)(M:Mo)(ρ:Env):List Dat->Out (List Dat)
 |[]=>.ok []
 |d::ds=>match tg d ρ with
  |none=>.bad
  |some Z1=>(te M Z1).bind λy=>(qp tg te M ρ ds).bind λr=>.ok (y::r)
def tX(it:IF)(tg:bT)(vs:List Nat)(te:QF):QF:=λM ρ=>(it M ρ).bind λds=>Out.when (decide (ds.length<=50000)) ((qp tg te M (aO ρ vs) ds).bind λr=>.ok (.list r))
def lK(m:Mo->List Dat->Out Dat)(as:QA):QF:=λM ρ=>(mX (as M ρ)).bind λds=>m M ds
abbrev WB(E:XK):WX:=λc d _ H=>E c d H
theorem YZ{K:agw}{aj:aC}{W:WX}{it:IF}{tg:bT}{js vs:List Nat}{te:QF}(hj:∀j∈js,j∈vs)(σ:L2.St)(H:Hp)(Q:VK)(h:tQ K aj W (tX it tg vs te) σ H Q) :
  tLc (tI K aj W false it) (lO K aj js tg) (dZ K aj WF jD) (tQ K aj (WB λc d H'=>W c d σ H') te) vs σ H Q:=by
 obtain⟨g,ρ,M,I,h⟩:=h;refine⟨g,ρ,M,I,h.bnd.mono (λds hk J C H1 e1 w c _ D nD=>?_) λ_ z=>z⟩;obtain⟨hz,hk⟩:=hk.dN;have hk:=hk.bnd;have hlen:=ahv hz;have I1:=(I.ex e1).wipe vs;have kD:∀{Ha:Hp} {us:List V},Ex H1 Ha->Ha D=some (.lst us)->SInv K aj (L2.wipe σ vs) Ha (g.add D) (aO ρ vs) M:=λea hu=>I1.add nD ea hu ahs
 let Pv:Nat->Hp->Prop:=λi Ha=>Ex H1 Ha/\i<=ds.length/\∃us ys,Ha D=some (.lst us)/\aq K (g.add D) Ha us ys/\ys.length<=i/\(qp tg te M (aO ρ vs) (ds.drop i)).sat (λr=>∀v H',Ex H H'->Rep K g H' v (.list (ys++r))->Q v H') (gM K aj W g H σ)
 refine⟨λi m Ha=>m=ds.length-i/\Pv i Ha,⟨ds.length,rfl,Ex.new nD,agO _,[],[],ahA,.nil,agL _,?_⟩,?_⟩
 .rw[ahb];exact hk
 .rintro i m Ha ⟨rfl,ea,hi,us,ys,hu,hU,hy,hs⟩;have Ia:=kD ea hu;have Ca:=w.add g (g.add D) H1 Ha (I.kd.ex e1) c (Gh.oW nD ea) ea;by_cases hlt:i<ds.length
  .refine .inr ⟨w.go _ i Ha Ca hlt,Pv (i+1),λH' p=>⟨ds.length-(i+1),by omega,rfl,p⟩,λx H' y=>?_⟩;have hd:ds[i]?=some ds[i]:=agD hlt;obtain⟨e2,rx⟩:=w.yld _ i Ha x H' _ Ia.kd Ca hd y;have I2:=Ia.ex e2;rw[ag9 hlt,qp]at hs;split at hs
   .exact aht hs
   .next Z1 he=>
    refine⟨g.add D,_,M,_,Z1,I2,rx,he,λws I3=>⟨j5 js ws _ vs hj |>.trans (m9 σ vs),?_⟩⟩;refine⟨g.add D,_,M,I3,λH3 e3=>?_⟩;have I4:=I3.ex e3;have hu3:=e3 _ _ (e2 _ _ hu);have hU3:=(hU.ex e2 Ia.kd).ex e3 I2.kd;show tQ K aj (WB λc d H'=>W c d σ H') te (sets (L2.wipe σ vs) js ws) H3 λy H4=>∃acc,H4 D=some (HO.lst acc)/\acc.length<sizeLine/\Pv (i+1) (upd H4 D (HO.lst (acc++[y])));refine tQ.go I4 (hs.bnd.mono (λ_ z=>z) λx z=>?_) λy v H4 hyv e4 ry=>?_
    .intro H' cc dd e' rx';refine z H' cc dd ((((e1.trans ea).trans e2).trans e3).trans e') (iU.less (g:=g.add D) (g':=g) rfl (λa z=>?_) rx');exact z.elim .inl λz=>.inr (z.elim .inl λz=>.inr (.inl z))
    .have I5:=I4.ex e4;have hu4:=e4 _ _ hu3;have hU4:=hU3.ex e4 I4.kd;have lD:(g.add D).Lo D:=.inr rfl;refine⟨us,hu4,sz_lt (by rw[hU.length];omega),Ex.mut (((ea.trans e2).trans e3).trans e4) nD,hlt,us++[v],ys++[y],ahA,?_,by simp;omega,hyv.bnd.mono (λr hr=>?_) λ_ z=>z⟩
     .exact xK I5.kd hu4 lD (hU4.append (.cons ry .nil))
     .intro v' H' e' r';rw[List.append_assoc]at r';exact hr v' H' e' r'
  .have e:i=ds.length:=by omega
   refine .inl ⟨w.stop _ i Ha Ca e,?_⟩;rw[e,ahe]at hs;have hs:∀v H',Ex H H'->Rep K g H' v (.list (ys++[]))->Q v H':=hs;rw[ag1]at hs;exact hs (.ref D) Ha (e1.trans ea) (.lst (.inl ⟨hu,(I.kd.ex e1).fresh nD⟩) (aq.less (g:=g.add D) (g':=g) rfl (λa z=>z.elim .inl λz=>.inr (z.elim .inl λz=>.inr (.inl z))) hU))
section
variable{X:Cx}{aj:aC}{W:WX}{tg iter e:Expr}{es:List Expr}{pos p p2:Pos}{x:Str}{k:Nat}{f:Addr}{fd:FuncData}{ps:List Str}
theorem Zk{s0:Shared}{H0:Hp}{scope:Scope}{ce:PySem.Env}{fp:List Addr}{E:XK}{es:List Expr}{t:TA}(h:PA (X.blk s0 H0 scope ce fp) es t):PA (X.Ka s0 H0 scope ce fp E) es t:=
 ⟨λpos pins s σ H Q I q=>wpAny_mono (h.run pos pins s σ H Q I.ofX q) (λus s' ⟨vs,H',I',r⟩=>⟨vs,H',I'.toX,r⟩) λ_ _ z=>aht z⟩
theorem ZW{scope:Scope}{own:List (Str×Nat)}{it:IF}{tgf:bT}{js:List Nat}{m:Mo->List Dat->Out Dat}{as:QA}(st:X.stack=X.env::X.outer)(fr:X.env.frame=some X.env.locals)(tk:Takes X W)(hc:X.calm=true)(hN:X.N.Nodup)(hi:QI aj X W false tg iter it)(ok:blkC X.N X.env.scope scope own=true)(hj:∀j∈js,j∈own.map (·.2))
  (hg:∀(s:Shared) (H:Hp) (C:Addr) (cl:List (Str×Addr)) (fp:List Addr),QG aj (X.blk s H scope (compEnvC scope cl C X.env) fp) tg js tgf)
  (F:FnOk X.prog X.w X.K X.mg X.base (L2.CX X.prog X.w) k f fd ps (qm X.K aj ps.length m)) (hr:Room k X.A) (hgl:∀(s:Shared) (H:Hp) (C:Addr) (cl:List (Str×Addr)) (fp:List Addr),Gl (X.blk s H scope (compEnvC scope cl C X.env) fp) x) (hm:X.mg x=some (.ref f)) (hk:PySem.W.keepIn X.K (.ref f)=true) (hb:Binds X.K fd ps [])
  (ha:∀(s:Shared) (H:Hp) (C:Addr) (cl:List (Str×Addr)) (fp:List Addr),qu aj (X.blk s H scope (compEnvC scope cl C X.env) fp) WF (e::es) as) (hl:(e::es).length=ps.length) (hd:(x==("__debug__" : Str))=false) (hs:(e::es).all nst=true) (hn:∀M ρ ds,as M ρ=.ok ds->ds.length=(e::es).length)
  (hf:∀x,foldedSetIterable iter X.env x=pure x) :
  QE aj X W (.ListComp (.Call (.Name x p) (e::es) [] p2) [⟨tg,iter,[],0⟩] scope pos) (tX it tgf (own.map (·.2)) (lK m as)):=by
 have hs':=hs;rw[ag7,agx]at hs';refine PE.weak (aat (g:=lO X.K aj js tgf) (tt:=dZ X.K aj WF jD) (te:=λE=>tQ X.K aj (WB E) (lK m as)) st fr tk hc hN hi (blkOk_by ok) (λs H C cl fp=>hg s H C cl fp) (λs H C cl fp=>⟨λpins s σ H Q I ⟨g,ρ,M,_,z⟩=>pts_nil.run pins s σ H Q I (z H (Ex.refl H))⟩) (λE s H C cl fp=>?_) hf) λσ H Q h=>YZ hj σ H Q h;refine PE.weak (pe_callS (X:=X.Ka s H scope (compEnvC scope cl C X.env) fp E) (E:=λ_=>E) F hr (hgl s H C cl fp) hm hk hb (λσ=>Xc) (Zk (ha s H C cl fp)) hd (aH hs'.1 es) (star_any es hs'.2)) λσ H Q ⟨g,ρ,M,I,h⟩=>?_;refine⟨g,ρ,M,I,?_⟩;have h:=h.bnd;cases has:as M ρ with
 |exc x=>rw[has]at h;exact aht h
 |bad=>rw[has]at h;exact aht h
 |ok ds=>
  rw[has]at h;have h:(m M ds).sat (λd=>∀v H',Ex H H'->Rep X.K g H' v d->Q v H') (gM X.K aj (WB E) g H σ):=h;intro vs H1 e1 r1;exact⟨by rw[r1.length,hn M ρ ds has];exact hl,g,M,ds,I.kd.ex e1,I.wok.ex e1 I.kd,r1,h.mono (λd k v H' e' r'=>k v H' (e1.trans e') r') λx k H' c dd e' r'=>k H' c dd (e1.trans e') r'⟩
end
structure Hs where
 Ms:List (Str×List (Str×MV))
 ft:Ft
 xm:List (Str×List (Str×Bool))
 df:List (Str×Bool)
 xf:List (Str×List Str)
structure tM(P:Program)(w:World)(K:agw)(mg:Str->Option Value)(base:Heap)(aj:aC)(k:Nat)(h:Hs):Prop where
 ms:∀m tb,h.Ms.lookup m=some tb->∀c v,tb.lookup c=some v->GD P w K mg base aj k c m v
 fk:uQ h.ft aj
 co:dJ K aj
 hw:aj.w=w
 xm:∀y tab,h.xm.lookup y=some tab->(∃D,aj y=some D)/\Lf K aj y λx=>tab.lookup x
 xf:∀y fs,h.xf.lookup y=some fs->∃C,aj y=some C/\XfC K C/\∀f∈fs,PySem.W.findIn K (.ref C) f=some none
structure Tc where
 N:List Str
 sc:Scope
 G:List (Str×GV)
 B:List Str
 hs:Hs
 ml:List Str
 top:Bool
def adq(c:Tc):Prop:=(∀x v,c.G.lookup x=some v->v.soft=false)/\c.hs=⟨[],[],[],[],[]⟩
structure Amb(aj:aC)(c:Tc)(X:Cx)(W:WX)(k:Nat):Prop where
 hN:X.N=c.N
 hs:X.env.scope=c.sc
 calm:X.calm=true
 nd:X.N.Nodup
 tk:Takes X W\/(L2N.Takes X W/\adq c)
 rm:Room k X.A
 gl:∀x v,c.G.lookup x=some v->aU X.prog X.w X.K X.mg X.base aj k x v
 bl:∀x,x∈c.B->X.mg x=none
 fn:c.top=true->∀x,X.fn x=true
 so:c.top=true->X.stack=X.env::X.outer/\X.env.frame=some X.env.locals
 hk:tM X.prog X.w X.K X.mg X.base aj k c.hs
theorem Amb.tw{aj:aC}{c:Tc}{X:Cx}{W:WX}{k:Nat}(a:Amb aj c X W k){x:Str}{v:GV}(h:c.G.lookup x=some v)(hv:v.soft=true):Takes X W:=
 a.tk.elim id λz=>by
  rw[z.2.1 x v h]at hv;cases hv
theorem Amb.tm{aj:aC}{c:Tc}{X:Cx}{W:WX}{k:Nat}(a:Amb aj c X W k){m:Str}{tb:List (Str×MV)}(h:c.hs.Ms.lookup m=some tb):Takes X W:=
 a.tk.elim id λz=>by
  rw[z.2.2]at h;cases h
def gd{α:Type}(b:Bool)(o:Option α):Option α:=match b with
 |true=>o
 |false=>none
theorem aD{α:Type}{b:Bool}{o:Option α}{x:α}:gd b o=some x↔b=true/\o=some x:=by
 cases b
 .exact⟨λh=>(nomatch h),λh=>(nomatch h.1)⟩
 .exact⟨λh=>⟨rfl,h⟩,λh=>h.2⟩
def idx:List Str->Str->Option Nat
 |[],_=>none
 |y::ys,x=>match y==x with
  |true=>some 0
  |false=>(idx ys x).map (· + 1)
theorem zj:∀{N:List Str} {x:Str} {i:Nat},idx N x=some i->N[i]?=some x
 |[],_,_,h=>nomatch h
 |y::ys,x,i,h=>by
  rw[idx]at h;split at h
  .next e=>
   cases h;rw[List.getElem?_cons_zero,ahB e]
  .rw[agZ]at h;obtain⟨j,h1,rfl⟩:=h;rw[List.getElem?_cons_succ];exact zj h1
def Rv(sc:Scope)(x:Str):Bool:=match sc.names.lookup x with
 |some .local=>true
 |some .cell=>true
 |some .free=>true
 |_=>false
theorem Vz{sc:Scope}{x:Str}(h:Rv sc x=true):Vis sc x:=by
 unfold Rv at h;unfold Vis;split at h
 .next e=>exact .inl e
 .next e=>exact .inr (.inl e)
 .next e=>exact .inr (.inr e)
 .cases h
def lN(x:Str):Bool:=(x==("__debug__" : Str)) || (x==("__classdict__" : Str))
theorem eE{x:Str}(h:lN x=false):(x==("__debug__" : Str))=false/\(x==("__classdict__" : Str))=false:=by unfold lN at h;rw[Bool.or_eq_false_iff]at h;exact h
def kJ(sc:Scope)(x:Str):Bool:=match sc.names.lookup x with
 |some .globalImplicit=>true
 |_=>false
def oZ(c:Tc)(x:Str):Option Nat:=gd (Rv c.sc x&&!lN x) (idx c.N x)
def Zy(c:Tc)(x:Str):Bool:=match c.sc.names.lookup x with
 |some .local=>true
 |some .cell=>c.top
 |_=>false
def jT(c:Tc)(x:Str):Option Nat:=gd (Zy c x) (idx c.N x)
section
variable{aj:aC}{c:Tc}{X:Cx}{W:WX}{k:Nat}{x:Str}{i:Nat}
theorem d7(a:Amb aj c X W k)(h:kJ c.sc x=true):Gl X x:=by
 unfold kJ at h;unfold Gl PySem.Env.kindOf;rw[a.hs];split at h
 .assumption
 .cases h
theorem jk(a:Amb aj c X W k)(h:oZ c x=some i):X.N[i]?=some x/\Vis X.env.scope x/\(x==("__debug__" : Str))=false/\(x==("__classdict__" : Str))=false:=by obtain⟨h1,h2⟩:=aD.mp h;rw[agx]at h1;obtain⟨d1,d2⟩:=eE (by simpa using h1.2);exact⟨by rw[a.hN];exact zj h2,by rw[a.hs];exact Vz h1.1,d1,d2⟩
theorem fP(a:Amb aj c X W k)(h:jT c x=some i):X.N[i]?=some x/\L2.Loc X.env.scope x/\(X.fn x=true\/X.env.scope.names.lookup x=some .local):=by
 obtain⟨h1,h2⟩:=aD.mp h;unfold Zy at h1;refine⟨by rw[a.hN];exact zj h2,?_⟩;rw[a.hs];unfold L2.Loc;split at h1
 .next e=>exact⟨.inl e,.inr e⟩
 .next e=>exact⟨.inr e,.inl (a.fn h1 x)⟩
 .cases h1
def jx(c:Tc)(x y:Str):Bool:=(x==y)&&(kJ c.sc x&&c.B.contains x)
theorem fJ{y:Str}(a:Amb aj c X W k)(h:jx c x y=true):x=y/\Gl X x/\X.mg x=none:=by unfold jx at h;rw[agx,agx]at h;exact⟨ahB h.1,d7 a h.2.1,a.bl x (by simpa using h.2.2)⟩
end
def kZ:Expr->Bool
 |.Set _ _ _=>true
 |_=>false
theorem o9{b:Expr}{op:CmpOp}(h:kZ b=false):behindInMarks op b=false:=by cases b<;>first | rfl | cases h
theorem Bf{b c:Expr}{op op':CmpOp}(h:kZ c=false):lastMarks [op,op'] [b,c]=false:=o9 h
theorem ig{e:Expr}{env:PySem.Env}(h:kZ e=false):∀x,foldedSetIterable e env x=pure x:=λx=>by
 cases e<;>first | rfl | cases h
def wY:Expr->Bool
 |.Slice _ _ _ _=>true
 |_=>false
def aah:Operator->Option (Dat->Dat->Out Dat)
 |.Add=>some bJ
 |.Sub=>some wG
 |.Mult=>some xq
 |.FloorDiv=>some oV
 |.Mod=>some eO
 |.Pow=>some En
 |_=>none
def xJ:CmpOp->Option (Dat->Dat->Out Dat)
 |.Eq=>some bW
 |.NotEq=>some ju
 |.Lt=>some NQ
 |.LtE=>some qj
 |.Gt=>some Cd
 |.GtE=>some PB
 |.In=>some (inD false)
 |.NotIn=>some (inD true)
 |_=>none
theorem VB{op:Operator}{o:Dat->Dat->Out Dat}(h:aah op=some o)(X:Cx)(aj:aC)(W:WX):∃r,OpR X (binaryOp op) r/\iH aj X.K W o r:=by
 cases op<;>cases h
 .exact⟨_,W3,Z8⟩
 .exact⟨_,op_sub,aaM⟩
 .exact⟨_,op_mul,YK⟩
 .exact⟨_,op_mod,aaX⟩
 .exact⟨_,op_pow,aa2⟩
 .exact⟨_,op_fdiv,Yq⟩
theorem oG{op:CmpOp}{o:Dat->Dat->Out Dat}(h:xJ op=some o){X:Cx}{k:Nat}(hr:Room k X.A)(aj:aC)(W:WX):∃r,OpR X (compareOp op) r/\iH aj X.K W o r:=by
 have h65:X.A.units+65<cLine:=by have:=hr.un;omega
 cases op<;>cases h
 .exact⟨_,aae hr.units,abw⟩
 .exact⟨_,abo hr.units,abY⟩
 .exact⟨_,aaW h65,aci⟩
 .exact⟨_,op_le,abF⟩
 .exact⟨_,op_gt,acs⟩
 .exact⟨_,op_ge,abu⟩
 .exact⟨_,aak h65,Vn⟩
 .exact⟨_,Pk h65,Vn⟩
def zm:Expr->Option Dat
 |.Constant .none _ _=>some .none
 |.Constant (.bool b) _ _=>some (.bool b)
 |_=>none
theorem JT{e:Expr}{d:Dat}{X:Cx}(h:zm e=some d):∃v,UL d=some v/\(v=.non\/∃b,v=.bl b)/\PE X e (tC v):=by
 unfold zm at h;split at h
 .cases h;exact⟨_,rfl,.inl rfl,pe_non⟩
 .cases h;exact⟨_,rfl,.inr ⟨_,rfl⟩,pe_bl⟩
 .cases h
def Zw:CmpOp->Option Bool
 |.Is=>some false
 |.IsNot=>some true
 |_=>none
theorem Oi{op:CmpOp}{neg:Bool}{v:V}{X:Cx}(h:Zw op=some neg)(hv:v=.non\/∃b,v=.bl b):OpR X (compareOp op) (Hj neg v):=by
 cases op<;>cases h
 .exact ZX hv
 .exact Qu hv
def X7(x:Str):Option (Dat->Out Dat):=
 if x=="len" then some cG else if x=="abs" then some zM else if x=="sum" then some Dz else if x=="max" then some maxD else if x=="all" then some wD else if x=="any" then some EY
 else if x=="tuple" then some iw else if x=="list" then some yN else if x=="int" then some intD else
 if x=="str" then some Eh else
 none
def Nr(x:Str):Option (Dat->Dat->Out Dat):=if x=="max" then some vC else if x=="min" then some Dr else none
theorem Yi{x:Str}{o:Dat->Out Dat}{X:Cx}(hc:X.calm=true)(h:X7 x=some o)(aj:aC)(W:WX):∃(f:Value) (id:String) (r:List V->Hp->VK->Prop),(f=.builtin id\/f=.type id)/\CallR X f r/\qN aj X.K W o r/\BV f x:=by
 unfold X7 at h;split at h
 .next e=>cases h;cases ahB e;exact⟨_,_,_,.inl rfl,YL,Yy,by decide +kernel,by decide,by decide⟩
 split at h
 .next e=>cases h;cases ahB e;exact⟨_,_,_,.inl rfl,call_abs,aad,by decide +kernel,by decide,by decide⟩
 split at h
 .next e=>cases h;cases ahB e;exact⟨_,_,_,.inl rfl,cr_sum hc,aa5,by decide +kernel,by decide,by decide⟩
 split at h
 .next e=>cases h;cases ahB e;exact⟨_,_,_,.inl rfl,cr_max hc,Ze,by decide +kernel,by decide,by decide⟩
 split at h
 .next e=>cases h;cases ahB e;exact⟨_,_,_,.inl rfl,cr_all hc,YD,by decide +kernel,by decide,by decide⟩
 split at h
 .next e=>cases h;cases ahB e;exact⟨_,_,_,.inl rfl,cr_any hc,aaQ,by decide +kernel,by decide,by decide⟩
 split at h
 .next e=>cases h;cases ahB e;exact⟨_,_,_,.inr rfl,call_tuple_of,Tg,by decide +kernel,by decide,by decide⟩
 split at h
 .next e=>cases h;cases ahB e;exact⟨_,_,_,.inr rfl,call_list_of,Wj,by decide +kernel,by decide,by decide⟩
 split at h
 .next e=>cases h;cases ahB e;exact⟨_,_,_,.inr rfl,aaU,aaV,by decide +kernel,by decide,by decide⟩
 split at h
 .next e=>cases h;cases ahB e;exact⟨_,_,_,.inr rfl,call_str_int,Yd,by decide +kernel,by decide,by decide⟩
 .cases h
theorem YH{x:Str}{o:Dat->Dat->Out Dat}{X:Cx}(hc:X.calm=true)(h:Nr x=some o)(aj:aC)(W:WX):∃(f:Value) (id:String) (r:List V->Hp->VK->Prop),(f=.builtin id\/f=.type id)/\CallR X f r/\UG aj X.K W o r/\BV f x:=by
 unfold Nr at h;split at h
 .next e=>cases h;cases ahB e;exact⟨_,_,_,.inl rfl,call_max2 hc,V8,by decide +kernel,by decide,by decide⟩
 split at h
 .next e=>cases h;cases ahB e;exact⟨_,_,_,.inl rfl,call_min2 hc,Vv,by decide +kernel,by decide,by decide⟩
 .cases h
def tyN(x:Str):Option uU:=if x=="int" then some .int else if x=="bool" then some .bool else if x=="str" then some .str else if x=="tuple" then some .tuple else if x=="list" then some .list else none
theorem aa3{x:Str}{t:uU}(h:tyN x=some t):BV (.type t.name) x:=by
 unfold tyN at h;split at h
 .next e=>cases h;cases ahB e;exact⟨by decide +kernel,by decide,by decide⟩
 split at h
 .next e=>cases h;cases ahB e;exact⟨by decide +kernel,by decide,by decide⟩
 split at h
 .next e=>cases h;cases ahB e;exact⟨by decide +kernel,by decide,by decide⟩
 split at h
 .next e=>cases h;cases ahB e;exact⟨by decide +kernel,by decide,by decide⟩
 split at h
 .next e=>cases h;cases ahB e;exact⟨by decide +kernel,by decide,by decide⟩
 .cases h
structure Tr where
 E:Tc->Expr->Option QF
 W:Tc->Expr->Option QF
 T:Tc->Expr->Option QT
 I:Tc->Bool->Expr->Expr->Option IF
structure Tr.Ok(t:Tr):Prop where
 oe:∀{aj:aC} {c:Tc} {X:Cx} {W:WX} {k:Nat},Amb aj c X W k->∀{e:Expr} {f:QF},t.E c e=some f->QE aj X W e f
 ow:∀{aj:aC} {c:Tc} {X:Cx} {W:WX} {k:Nat},Amb aj c X W k->∀{e:Expr} {f:QF},t.W c e=some f->QW aj X W e f
 ot:∀{aj:aC} {c:Tc} {X:Cx} {W:WX} {k:Nat},Amb aj c X W k->∀{e:Expr} {f:QT},t.T c e=some f->jf aj X W e f
 oi:∀{aj:aC} {c:Tc} {X:Cx} {W:WX} {k:Nat},Amb aj c X W k->∀{firm:Bool} {tg e:Expr} {f:IF},t.I c firm tg e=some f->QI aj X W firm tg e f
def pZ(t:Tr)(c:Tc):List Expr->Option QA
 |[]=>some aG
 |a::es=>gd (nst a) ((t.E c a).bind λfa=>(pZ t c es).bind λfr=>some (ao fa fr))
section
variable{aj:aC}{c:Tc}{X:Cx}{W:WX}{k:Nat}{t:Tr}
theorem iZ(o:t.Ok)(a:Amb aj c X W k):∀{es:List Expr} {f:QA},pZ t c es=some f->qu aj X W es f/\es.all nst=true/\∀M ρ ds,f M ρ=.ok ds->ds.length=es.length
 |[],f,h=>by
  cases h;exact⟨QD,rfl,λM ρ ds e=>by cases e;rfl⟩
 |e::es,f,h=>by
  rw[pZ,aD]at h;obtain⟨hs,h⟩:=h;obtain⟨fa,h1,h⟩:=agv.mp h;obtain⟨fr,h2,h⟩:=agv.mp h;cases h;obtain⟨i1,i2,i3⟩:=iZ o a h2;refine⟨Jk (o.oe a h1) i1 (aH hs es),by simp[hs,i2],λM ρ ds e=>?_⟩;unfold ao at e;cases hf:fa M ρ with
  |ok d=>
   rw[hf]at e;cases hr:fr M ρ with
   |ok dr=>
    rw[hr]at e;cases e;simp[i3 M ρ dr hr]
   |exc y=>rw[hr]at e;cases e
   |bad=>rw[hr]at e;cases e
  |exc y=>rw[hf]at e;cases e
  |bad=>rw[hf]at e;cases e
end
def trO(t:Tr)(c:Tc):Option Expr->Option QO
 |none=>some cW
 |some a=>(t.W c a).bind λfa=>some (bh fa)
theorem Pj{aj:aC}{c:Tc}{X:Cx}{W:WX}{k:Nat}{t:Tr}(o:t.Ok)(a:Amb aj c X W k){e:Option Expr}{f:QO}(h:trO t c e=some f):QL aj X W e f:=by
 cases e with
 |none=>cases h;exact Xd
 |some e=>
  obtain⟨fa,h1,h⟩:=agv.mp h;cases h;exact Xv (o.ow a h1)
def DP(c:Tc):List Expr->Option (List Nat)
 |[]=>some []
 |.Name x _::es=>(jT c x).bind λi=>(DP c es).bind λjs=>some (i::js)
 |_::_=>none
def yZ(c:Tc):Expr->Option (List Nat×bT)
 |.Name x _=>(jT c x).bind λi=>some ([i],au i)
 |.Tuple es _ _=>(DP c es).bind λjs=>some (js,cO js)
 |_=>none
theorem zL{aj:aC}{c:Tc}{X:Cx}{W:WX}{k:Nat}(a:Amb aj c X W k):∀{es:List Expr} {js:List Nat},DP c es=some js->yR X es js
 |[],js,h=>by cases h;trivial
 |.Name x p::es,js,h=>by
  rw[DP]at h;obtain⟨i,h1,h⟩:=agv.mp h;obtain⟨r,h2,h⟩:=agv.mp h;cases h;obtain⟨s1,s2,s3⟩:=fP a h1;exact⟨s1,s2,s3,zL a h2⟩
theorem ji{aj:aC}{c:Tc}{X:Cx}{W:WX}{k:Nat}(a:Amb aj c X W k){e:Expr}{js:List Nat}{f:bT}(h:yZ c e=some (js,f)):QG aj X e js f:=by
 unfold yZ at h;split at h
 .obtain⟨i,h1,h⟩:=agv.mp h;cases h;obtain⟨s1,s2,s3⟩:=fP a h1;exact Ah a.nd s1 s2 s3
 .obtain⟨js',h1,h⟩:=agv.mp h;cases h;exact O5 a.calm a.nd (zL a h1)
 .cases h
def Tc.inn(c:Tc)(scope:Scope):Tc:={ c with sc:=relS scope c.sc,top:=false }
theorem Amb.inn{aj:aC}{c:Tc}{X:Cx}{W:WX}{k:Nat}(a:Amb aj c X W k)(scope:Scope)(s:Shared)(H:Hp)(C:Addr)(cl:List (Str×Addr))(fp:List Addr):Amb aj (c.inn scope) (X.blk s H scope (compEnvC scope cl C X.env) fp) WF k where
 hN:=a.hN
 hs:=by show relS scope X.env.scope=relS scope c.sc;rw[a.hs]
 calm:=a.calm
 nd:=a.nd
 tk:=.inl Y0
 rm:=a.rm
 gl:=a.gl
 bl:=a.bl
 fn:=λz=>nomatch z
 so:=λz=>nomatch z
 hk:=a.hk
def aam:List Expr->List Nat->List (Str×Nat)
 |.Name x _::es,j::js=>(x,j)::aam es js
 |_,_=>[]
def fQ:Expr->List Nat->List (Str×Nat)
 |.Name x _,[j]=>[(x,j)]
 |.Tuple es _ _,js=>aam es js
 |_,_=>[]
def tG(js vs:List Nat):Bool:=js.all λj=>vs.contains j
theorem fV{js vs:List Nat}(h:tG js vs=true):∀j∈js,j∈vs:=λj hj=>by
 have:=agK.mp h j hj;simpa using this
def Ab(t:Tr)(c:Tc):List Expr->Option QT
 |[]=>some jD
 |[a]=>t.T c a
 |_=>none
theorem PTs.weak{X:Cx}{e:List Expr}{t t':TT}(h:PTs X e t)(k:∀σ H Q,t' σ H Q->t σ H Q):PTs X e t':=⟨λpins s σ H Q I q=>h.run pins s σ H Q I (k σ H Q q)⟩
theorem j8{aj:aC}{c:Tc}{X:Cx}{W:WX}{k:Nat}{t:Tr}(o:t.Ok)(a:Amb aj c X W k){ifs:List Expr}{f:QT}(h:Ab t c ifs=some f):PTs X ifs (dZ X.K aj W f):=by
 unfold Ab at h;split at h
 .cases h;exact PTs.weak pts_nil λσ H Q ⟨g,ρ,M,I,z⟩=>z H (Ex.refl H)
 .exact pts_one (o.ot a h)
 .cases h
def Ht(t:Tr)(c:Tc)(elt tg iter:Expr)(ifs:List Expr)(scope:Scope):Option QF:=
 (t.I c false tg iter).bind λit=>(yZ (c.inn scope) tg).bind λjt=>(Ab t (c.inn scope) ifs).bind λtt=>(t.E (c.inn scope) elt).bind λte=>
  gd (blkC c.N c.sc scope (fQ tg jt.1)&&(tG jt.1 ((fQ tg jt.1).map (·.2))&&!kZ iter)) (some (iK it jt.2 ((fQ tg jt.1).map (·.2)) tt te))
theorem Kw{aj:aC}{c:Tc}{X:Cx}{W:WX}{k:Nat}{t:Tr}(o:t.Ok)(a:Amb aj c X W k){elt tg iter:Expr}{ifs:List Expr}{scope:Scope}{pos:Pos}{f:QF}(h:Ht t c elt tg iter ifs scope=some f):QE aj X W (.ListComp elt [⟨tg,iter,ifs,0⟩] scope pos) f:=by unfold Ht at h;obtain⟨it,h1,h⟩:=agv.mp h;obtain⟨⟨js,tf⟩,h2,h⟩:=agv.mp h;obtain⟨tt,h3,h⟩:=agv.mp h;obtain⟨te,h4,h⟩:=agv.mp h;obtain⟨hb,h⟩:=aD.mp h;cases h;simp only[agx,agG]at hb;obtain⟨b1,b2,b3⟩:=hb;exact acv a.calm a.nd (o.oi a h1) (by rw[a.hN,a.hs];exact b1) (fV b2) (λs H C cl fp=>ji (a.inn scope s H C cl fp) h2) (λs H C cl fp=>j8 o (a.inn scope s H C cl fp) h3) (λs H C cl fp=>o.oe (a.inn scope s H C cl fp) h4) (ig b3)
def K6(t:Tr)(c:Tc)(elt tg iter:Expr)(ifs:List Expr)(scope:Scope):Option QF:=match elt,ifs with
 |.Call (.Name f _) (e::es) [] _,[]=>(t.I c false tg iter).bind λit=>(yZ (c.inn scope) tg).bind λjt=>(match c.G.lookup f with
  |some (.fq n m)=>(pZ t (c.inn scope) (e::es)).bind λas=>gd (c.top&&(kJ (c.inn scope).sc f&&(!lN f&&(decide ((e::es).length=n)&&(blkC c.N c.sc scope (fQ tg jt.1)&&(tG jt.1 ((fQ tg jt.1).map (·.2))&&!kZ iter)))))) (some (tX it jt.2 ((fQ tg jt.1).map (·.2)) (lK m as)))
  |_=>none)
 |_,_=>none
theorem Sq{aj:aC}{c:Tc}{X:Cx}{W:WX}{k:Nat}{t:Tr}(o:t.Ok)(a:Amb aj c X W k){elt tg iter:Expr}{ifs:List Expr}{scope:Scope}{pos:Pos}{f:QF}(h:K6 t c elt tg iter ifs scope=some f):QE aj X W (.ListComp elt [⟨tg,iter,ifs,0⟩] scope pos) f:=by
 unfold K6 at h;split at h
 .obtain⟨it,h1,h⟩:=agv.mp h;obtain⟨⟨js,tf⟩,h2,h⟩:=agv.mp h;split at h
  .next n m hl=>
   obtain⟨as,h3,h⟩:=agv.mp h;obtain⟨hb,h⟩:=aD.mp h;cases h;simp only[agx,agG,ahu]at hb;obtain⟨b0,b1,b2,b3,b4,b5,b6⟩:=hb;obtain⟨fa,hm,hk,fd,ps,j,hj,hp,hB,F⟩:=a.gl _ _ hl;obtain⟨st,fr⟩:=a.so b0;have A:=λs H C cl fp=>iZ o (a.inn scope s H C cl fp) h3;exact ZW st fr (a.tw hl rfl) a.calm a.nd (o.oi a h1) (by rw[a.hN,a.hs];exact b4) (fV b5) (λs H C cl fp=>ji (a.inn scope s H C cl fp) h2) F (a.rm.mono hj) (λs H C cl fp=>d7 (a.inn scope s H C cl fp) b1) hm hk hB (λs H C cl fp=>(A s H C cl fp).1) (b3.trans hp.symm) (eE b2).1 (A {} (λ_=>none) 0 [] []).2.1 (A {} (λ_=>none) 0 [] []).2.2 (ig b6)
  .cases h
 .cases h
theorem abT{X:Cx}{W:WX}(tk:Takes X W\/L2N.Takes X W)(σ:L2.St):PassesAt (L2N.CX X.prog X.w) X σ (WE W σ):=tk.elim
 (λtk a b c e s' I ⟨a1,B,H',cls,d,e1,fl,r⟩=>passAt tk σ a b c e s' I ⟨a1,B,H',cls,d,e1,L2H.flyingZ_imp (λ_ z=>z.zc) fl,r⟩) λtk=>L2N.passAt tk σ
def Im(t:Tr)(c:Tc)(x:Str)(e:Expr)(es:List Expr):Option QF:=match c.G.lookup x with
 |some (.fq n m)=>(pZ t c (e::es)).bind λas=>gd (kJ c.sc x&&(!lN x&&decide ((e::es).length=n))) (some (aN m as))
 |some (.fqN n m)=>(pZ t c (e::es)).bind λas=>gd (kJ c.sc x&&(!lN x&&decide ((e::es).length=n))) (some (aN m as))
 |some _=>none
 |none=>match es with
  |[]=>(X7 x).bind λo=>(t.W c e).bind λfa=>gd (jx c x x&&nst e) (some (bR o fa))
  |[.Name y p]=>match x=="isinstance" with
   |true=>(tyN y).bind λty=>(t.W c e).bind λfa=>gd (jx c x x&&(jx c y y&&nst e)) (some (kW ty fa))
   |false=>(Nr x).bind λo=>(t.W c e).bind λfa=>(t.W c (.Name y p)).bind λfb=>gd (jx c x x&&nst e) (some (aA o fa fb))
  |[e2]=>(Nr x).bind λo=>(t.W c e).bind λfa=>(t.W c e2).bind λfb=>gd (jx c x x&&(nst e&&nst e2)) (some (aA o fa fb))
  |_=>none
theorem Qh{aj:aC}{c:Tc}{X:Cx}{W:WX}{k:Nat}{x:Str}{o:Dat->Dat->Out Dat}{a b:Expr}{fa fb:QF}{p pos:Pos}(am:Amb aj c X W k)(h:Nr x=some o)(hg:jx c x x=true)(ha:QW aj X W a fa)(hb:QW aj X W b fb)(hs:nst a=true)(hs2:nst b=true):QE aj X W (.Call (.Name x p) [a,b] [] pos) (aA o fa fb):=by obtain⟨f,id,r,hf,hc,ho,hv⟩:=YH am.calm h aj W;obtain⟨_,hg,hm⟩:=fJ am hg;exact ab6 hf hc ho hg hm hv ha hb hs hs2
theorem Og{aj:aC}{c:Tc}{X:Cx}{W:WX}{k:Nat}{t:Tr}(o:t.Ok)(a:Amb aj c X W k){x:Str}{e:Expr}{es:List Expr}{p pos:Pos}{f:QF}(h:Im t c x e es=some f):QE aj X W (.Call (.Name x p) (e::es) [] pos) f:=by
 unfold Im at h;split at h
 .next n m hl=>
  obtain⟨as,h1,h⟩:=agv.mp h;obtain⟨hb,h⟩:=aD.mp h;cases h;simp only[agx,agG,ahu]at hb;obtain⟨b1,b2,b3⟩:=hb;obtain⟨fa,hm,hk,fd,ps,j,hj,hp,hB,F⟩:=a.gl x _ hl;obtain⟨i1,i2,i3⟩:=iZ o a h1;exact zK (passAt (a.tw hl rfl)) F (a.rm.mono hj) (d7 a b1) hm hk hB i1 (b3.trans hp.symm) (eE b2).1 i2 i3
 .next n m hl=>
  obtain⟨as,h1,h⟩:=agv.mp h;obtain⟨hb,h⟩:=aD.mp h;cases h;simp only[agx,agG,ahu]at hb;obtain⟨b1,b2,b3⟩:=hb;obtain⟨fa,hm,hk,fd,ps,j,hj,hp,hB,F⟩:=a.gl x _ hl;obtain⟨i1,i2,i3⟩:=iZ o a h1;exact zK (abT (a.tk.imp id (·.1))) F (a.rm.mono hj) (d7 a b1) hm hk hB i1 (b3.trans hp.symm) (eE b2).1 i2 i3
 .cases h
 .split at h
  .obtain⟨o1,h1,h⟩:=agv.mp h;obtain⟨fa,h2,h⟩:=agv.mp h;obtain⟨hb,h⟩:=aD.mp h;cases h;rw[agx]at hb;obtain⟨f,id,r,hf,hc,ho,hv⟩:=Yi a.calm h1 aj W;obtain⟨_,hg,hm⟩:=fJ a hb.1;exact Vk hf hc ho hg hm hv (o.ow a h2) hb.2
  .split at h
   .next ex=>
    obtain⟨ty,h1,h⟩:=agv.mp h;obtain⟨fa,h2,h⟩:=agv.mp h;obtain⟨hb,h⟩:=aD.mp h;cases h;simp only[agx]at hb;obtain⟨b1,b2,b3⟩:=hb;obtain⟨_,hg,hm⟩:=fJ a b1;obtain⟨_,hg2,hm2⟩:=fJ a b2;cases ahB ex;exact Yt hg hm ⟨by decide +kernel,by decide,by decide⟩ hg2 hm2 (aa3 h1) (o.ow a h2) b3
   .obtain⟨o1,h1,h⟩:=agv.mp h;obtain⟨fa,h2,h⟩:=agv.mp h;obtain⟨fb,h3,h⟩:=agv.mp h;obtain⟨hb,h⟩:=aD.mp h;cases h;rw[agx]at hb;exact Qh a h1 hb.1 (o.ow a h2) (o.ow a h3) hb.2 rfl
  .obtain⟨o1,h1,h⟩:=agv.mp h;obtain⟨fa,h2,h⟩:=agv.mp h;obtain⟨fb,h3,h⟩:=agv.mp h;obtain⟨hb,h⟩:=aD.mp h;cases h;simp only[agx]at hb;exact Qh a h1 hb.1 (o.ow a h2) (o.ow a h3) hb.2.1 hb.2.2
  .cases h
def stE(t:Tr)(c:Tc):Expr->Option QF
 |.Name x _=>(match oZ c x with
  |some i=>some (aJ i)
  |none=>match c.G.lookup x with
   |some (.con d)=>gd (kJ c.sc x&&!lN x) (some (qC d))
   |_=>none)
 |.Constant (.int i) _ _=>some (qC (.int i))
 |.Constant (.str x) _ _=>some (qC (.str x))
 |.Constant (.bool x) _ _=>some (qC (.bool x))
 |.Constant .none _ _=>some (qC .none)
 |.BinOp a op b _=>(aah op).bind λo=>(t.W c a).bind λfa=>(t.W c b).bind λfb=>some (aA o fa fb)
 |.UnaryOp .USub a _=>(t.W c a).bind λfa=>some (bR El fa)
 |.UnaryOp .Not a _=>(t.W c a).bind λfa=>some (CN fa)
 |.BoolOp _ [a] _=>t.E c a
 |.BoolOp .And (a::b::r) p=>(t.E c a).bind λfa=>(t.E c (.BoolOp .And (b::r) p)).bind λfb=>some (lB fa fb)
 |.BoolOp .Or (a::b::r) p=>(t.E c a).bind λfa=>(t.E c (.BoolOp .Or (b::r) p)).bind λfb=>some (Sv fa fb)
 |.Compare a [op] [b] _=>(match Zw op with
  |some neg=>(zm b).bind λd=>(t.W c a).bind λfa=>some (qQ neg d fa)
  |none=>(xJ op).bind λo=>(t.W c a).bind λfa=>(t.W c b).bind λfb=>gd (!kZ b) (some (aA o fa fb)))
 |.Compare a [op,op'] [b,b2] _=>(xJ op).bind λo=>(xJ op').bind λo'=>(t.W c a).bind λfa=>(t.W c b).bind λfb=>(t.W c b2).bind λfc=>gd (!kZ b2) (some (FP (jO o o' fa fb fc)))
 |.IfExp d a b _=>(t.T c d).bind λta=>(t.E c a).bind λfa=>(t.E c b).bind λfb=>some (Np ta fa fb)
 |.Tuple es _ _=>(pZ t c es).bind λfr=>some (uN fr)
 |.List es _=>(pZ t c es).bind λfr=>some (lF fr)
 |.Subscript a b _=>(match b with
  |.Slice lo hi none _=>(t.W c a).bind λfa=>(trO t c lo).bind λfl=>(trO t c hi).bind λfh=>some (iW fa fl fh)
  |b=>gd (!wY b) ((t.W c a).bind λfa=>(t.W c b).bind λfb=>some (aA dW fa fb)))
 |.ListComp elt [⟨tg,iter,ifs,0⟩] scope _=>(match c.top&&c.ml.contains "!" with
  |true=>K6 t c elt tg iter ifs scope
  |false=>Ht t c elt tg iter ifs scope)
 |.Call (.Name x _) (e::es) [] _=>Im t c x e es
 |_=>none
def Zv(t:Tr)(c:Tc):Expr->Option QF
 |.Name x p=>(match oZ c x with
  |some i=>some (ak i)
  |none=>t.E c (.Name x p))
 |e=>t.E c e
def valT:Expr->Bool
 |.UnaryOp .Not _ _=>false
 |.BoolOp _ _ _=>false
 |.IfExp _ _ _ _=>false
 |.Compare _ _ _ _=>false
 |_=>true
theorem XH{e:Expr}{env:PySem.Env}(h:valT e=true):∀whole,isTrue e env whole=(do let v <-whole;standAt e.pos;holding [v] (truthy v)):=λwhole=>by
 cases e with
 | UnaryOp o a p=>cases o<;>first | (with_unfolding_all rfl) | cases h
 |BoolOp _ _ _=>cases h
 |IfExp _ _ _ _=>cases h
 |Compare _ _ _ _=>cases h
 |_=>with_unfolding_all rfl
def Zt(t:Tr)(c:Tc):Expr->Option QT
 |.UnaryOp .Not a _=>(t.T c a).bind λta=>some (nR ta)
 |.BoolOp _ [a] _=>t.T c a
 |.BoolOp .And (a::b::r) p=>(t.T c a).bind λta=>(t.T c (.BoolOp .And (b::r) p)).bind λtb=>some (jV ta tb)
 |.BoolOp .Or (a::b::r) p=>(t.T c a).bind λta=>(t.T c (.BoolOp .Or (b::r) p)).bind λtb=>some (lg ta tb)
 |.Compare a [op] [b] _=>(match Zw op with
  |some neg=>(zm b).bind λd=>(t.W c a).bind λfa=>some (aY (qQ neg d fa))
  |none=>(xJ op).bind λo=>(t.W c a).bind λfa=>(t.W c b).bind λfb=>gd (!kZ b) (some (aY (aA o fa fb))))
 |.Compare a [op,op'] [b,b2] _=>(xJ op).bind λo=>(xJ op').bind λo'=>(t.W c a).bind λfa=>(t.W c b).bind λfb=>(t.W c b2).bind λfc=>gd (!kZ b2) (some (jO o o' fa fb fc))
 |e=>gd (valT e) ((t.W c e).bind λfa=>some (mj fa))
def trF(t:Tr)(c:Tc)(firm:Bool)(e:Expr):Option QF:=match firm with
 |true=>t.E c e
 |false=>t.W c e
def isTup:Expr->Bool
 |.Tuple _ _ _=>true
 |_=>false
def stI(t:Tr)(c:Tc)(firm:Bool)(tg:Expr):Expr->Option IF
 |.Call (.Name x p) [a] [] pos=>(match jx c x "range" with
  |true=>(t.W c a).bind λfa=>gd (nst a) (some (qU fa))
  |false=>match jx c x "enumerate" with
   |true=>(trF t c firm a).bind λfa=>gd (nst a&&isTup tg) (some (pQ 0 fa))
   |false=>(trF t c firm (.Call (.Name x p) [a] [] pos)).bind λfa=>some (gA fa))
 |.Call (.Name x p) [a,b] [] pos=>(match jx c x "range" with
  |true=>(t.W c a).bind λfa=>(t.W c b).bind λfb=>gd (nst a&&nst b) (some (zG fa fb))
  |false=>match jx c x "zip" with
   |true=>(trF t c firm a).bind λfa=>(trF t c firm b).bind λfb=>gd (nst a&&(nst b&&isTup tg)) (some (uz fa fb))
   |false=>(trF t c firm (.Call (.Name x p) [a,b] [] pos)).bind λfa=>some (gA fa))
 |.Call (.Name x p) [a] [⟨some kw,.Constant (.int i) j kp,kp2⟩] pos=>gd (jx c x "enumerate"&&(kw=="start"&&(decide (-(2^63)<=i/\i<2^63)&&(nst a&&isTup tg)))) ((trF t c firm a).bind λfa=>some (pQ i fa))
 |e=>(trF t c firm e).bind λfa=>some (gA fa)
theorem DY{b:Expr}(h:(!wY b)=true):PlainIx b:=λv i=>by
 cases b<;>first | rfl | cases h
section
variable{aj:aC}{c:Tc}{X:Cx}{W:WX}{k:Nat}{t:Tr}
theorem abf(o:t.Ok)(a:Amb aj c X W k){e:Expr}{f:QF}(h:stE t c e=some f):QE aj X W e f:=by
 unfold stE at h;split at h
 .split at h
  .next i hi=>
   cases h;obtain⟨s1,s2,s3,s4⟩:=jk a hi;exact Qs s1 s2 s3 s4
  .split at h
   .next d hl=>
    obtain⟨hb,h⟩:=aD.mp h;cases h;simp only[agx,agG]at hb;obtain⟨v,u,h1,h2,h3,_⟩:=a.gl _ _ hl;exact PE.weak (pe_glob (d7 a hb.1) h1 h2 (eE hb.2).1) λσ H Q ⟨g,ρ,M,I,z⟩=>z v H (Ex.refl H) (h3 g H)
   .cases h
 .cases h;exact YB
 .cases h;exact aa9
 .cases h;exact acq
 .cases h;exact ZQ
 .obtain⟨op,h1,h⟩:=agv.mp h;obtain⟨fa,h2,h⟩:=agv.mp h;obtain⟨fb,h3,h⟩:=agv.mp h;cases h;obtain⟨r,r1,r2⟩:=VB h1 X aj W;exact aaC r1 r2 (o.ow a h2) (o.ow a h3)
 .obtain⟨fa,h2,h⟩:=agv.mp h;cases h;exact abb (o.ow a h2)
 .obtain⟨fa,h2,h⟩:=agv.mp h;cases h;exact Xl (o.ow a h2)
 .exact pe_one (o.oe a h)
 .obtain⟨fa,h2,h⟩:=agv.mp h;obtain⟨fb,h3,h⟩:=agv.mp h;cases h;exact WQ (o.oe a h2) (o.oe a h3)
 .obtain⟨fa,h2,h⟩:=agv.mp h;obtain⟨fb,h3,h⟩:=agv.mp h;cases h;exact aaE (o.oe a h2) (o.oe a h3)
 .split at h
  .next neg hn=>
   obtain⟨d,h1,h⟩:=agv.mp h;obtain⟨fa,h2,h⟩:=agv.mp h;cases h;obtain⟨v,v1,v2,v3⟩:=JT (X:=X) h1;refine abK v1 (Oi hn v2) (o.ow a h2) v3 (o9 ?_);unfold zm at h1;split at h1<;>first | rfl | cases h1
  .obtain⟨op,h1,h⟩:=agv.mp h;obtain⟨fa,h2,h⟩:=agv.mp h;obtain⟨fb,h3,h⟩:=agv.mp h;obtain⟨hb,h⟩:=aD.mp h;cases h;obtain⟨r,r1,r2⟩:=oG h1 a.rm aj W;exact Xk r1 r2 (o.ow a h2) (o.ow a h3) (o9 (by simpa using hb))
 .obtain⟨op,h1,h⟩:=agv.mp h;obtain⟨op',h1',h⟩:=agv.mp h;obtain⟨fa,h2,h⟩:=agv.mp h;obtain⟨fb,h3,h⟩:=agv.mp h;obtain⟨fc,h4,h⟩:=agv.mp h;obtain⟨hb,h⟩:=aD.mp h;cases h;obtain⟨r,r1,r2⟩:=oG h1 a.rm aj W;obtain⟨r',r1',r2'⟩:=oG h1' a.rm aj W;exact Sy r1 r1' r2 r2' (o.ow a h2) (o.ow a h3) (o.ow a h4) (Bf (by simpa using hb))
 .obtain⟨ta,h1,h⟩:=agv.mp h;obtain⟨fa,h2,h⟩:=agv.mp h;obtain⟨fb,h3,h⟩:=agv.mp h;cases h;exact Rh (o.ot a h1) (o.oe a h2) (o.oe a h3)
 .obtain⟨fr,h1,h⟩:=agv.mp h;cases h;exact aaq (iZ o a h1).1
 .obtain⟨fr,h1,h⟩:=agv.mp h;cases h;exact Z5 (iZ o a h1).1
 .split at h
  .obtain⟨fa,h1,h⟩:=agv.mp h;obtain⟨fl,h2,h⟩:=agv.mp h;obtain⟨fh,h3,h⟩:=agv.mp h;cases h;exact ab2 (o.ow a h1) (Pj o a h2) (Pj o a h3)
  .obtain⟨hb,h⟩:=aD.mp h;obtain⟨fa,h1,h⟩:=agv.mp h;obtain⟨fb,h2,h⟩:=agv.mp h;cases h;exact acj (o.ow a h1) (o.ow a h2) (DY hb)
 .split at h
  .exact Sq o a h
  .exact Kw o a h
 .exact Og o a h
 .cases h
theorem Z0(o:t.Ok)(a:Amb aj c X W k){e:Expr}{f:QF}(h:Zv t c e=some f):QW aj X W e f:=by
 unfold Zv at h;split at h
 .split at h
  .next i hi=>
   cases h;obtain⟨s1,s2,s3,s4⟩:=jk a hi;exact abn s1 s2 s3 s4
  .exact(o.oe a h).w
 .exact(o.oe a h).w
theorem YQ{a b:Expr}{rest:List Expr}{ta tb:QT}{pos:Pos}(ha:jf aj X W a ta)(hb:jf aj X W (.BoolOp .And (b::rest) pos) tb):jf aj X W (.BoolOp .And (a::b::rest) pos) (jV ta tb):=by have hb':Kc aj X W (.BoolOp .And (b::rest) pos) tb:=⟨λwh pins s σ H Q I q=>hb.run pins s σ H Q I q⟩;exact PW.pt (abr ha hb')
theorem ab1{a b:Expr}{rest:List Expr}{ta tb:QT}{pos:Pos}(ha:jf aj X W a ta)(hb:jf aj X W (.BoolOp .Or (b::rest) pos) tb):jf aj X W (.BoolOp .Or (a::b::rest) pos) (lg ta tb):=by have hb':Kc aj X W (.BoolOp .Or (b::rest) pos) tb:=⟨λwh pins s σ H Q I q=>hb.run pins s σ H Q I q⟩;exact PW.pt (abS ha hb')
theorem Ys(o:t.Ok)(a:Amb aj c X W k){e:Expr}{f:QT}(h:Zt t c e=some f):jf aj X W e f:=by
 unfold Zt at h;split at h
 .obtain⟨ta,h1,h⟩:=agv.mp h;cases h;exact aa4 (o.ot a h1)
 .next op _ _=>
  cases op
  .exact PW.pt (pw_and1 (o.ot a h))
  .exact PW.pt (pw_or1 (o.ot a h))
 .obtain⟨ta,h1,h⟩:=agv.mp h;obtain⟨tb,h2,h⟩:=agv.mp h;cases h;exact YQ (o.ot a h1) (o.ot a h2)
 .obtain⟨ta,h1,h⟩:=agv.mp h;obtain⟨tb,h2,h⟩:=agv.mp h;cases h;exact ab1 (o.ot a h1) (o.ot a h2)
 .split at h
  .next neg hn=>
   obtain⟨d,h1,h⟩:=agv.mp h;obtain⟨fa,h2,h⟩:=agv.mp h;cases h;obtain⟨v,v1,v2,v3⟩:=JT (X:=X) h1;refine abR v1 (Oi hn v2) (o.ow a h2) v3 (o9 ?_);unfold zm at h1;split at h1<;>first | rfl | cases h1
  .obtain⟨op,h1,h⟩:=agv.mp h;obtain⟨fa,h2,h⟩:=agv.mp h;obtain⟨fb,h3,h⟩:=agv.mp h;obtain⟨hb,h⟩:=aD.mp h;cases h;obtain⟨r,r1,r2⟩:=oG h1 a.rm aj W;exact Y6 r1 r2 (o.ow a h2) (o.ow a h3) (o9 (by simpa using hb))
 .obtain⟨op,h1,h⟩:=agv.mp h;obtain⟨op',h1',h⟩:=agv.mp h;obtain⟨fa,h2,h⟩:=agv.mp h;obtain⟨fb,h3,h⟩:=agv.mp h;obtain⟨fc,h4,h⟩:=agv.mp h;obtain⟨hb,h⟩:=aD.mp h;cases h;obtain⟨r,r1,r2⟩:=oG h1 a.rm aj W;obtain⟨r',r1',r2'⟩:=oG h1' a.rm aj W;exact Uj r1 r1' r2 r2' (o.ow a h2) (o.ow a h3) (o.ow a h4) (Bf (by simpa using hb))
 .obtain⟨hv,h⟩:=aD.mp h;obtain⟨fa,h1,h⟩:=agv.mp h;cases h;exact aaI (o.ow a h1) (XH hv)
theorem oX(o:t.Ok)(a:Amb aj c X W k){firm:Bool}{e:Expr}{f:QF}(h:trF t c firm e=some f):Kv aj X W firm e f:=by
 cases firm
 .exact o.ow a h
 .exact o.oe a h
theorem wH{e:Expr}(h:isTup e=true):∃es j p,e=.Tuple es j p:=by cases e<;>first | exact⟨_,_,_,rfl⟩ | cases h
theorem Yr(o:t.Ok)(a:Amb aj c X W k){firm:Bool}{tg e:Expr}{f:IF}(h:stI t c firm tg e=some f):QI aj X W firm tg e f:=by
 unfold stI at h;split at h
 .split at h
  .next hb=>
   obtain⟨fa,h1,h⟩:=agv.mp h;obtain⟨hs,h⟩:=aD.mp h;cases h;obtain⟨rfl,hg,hm⟩:=fJ a hb;exact Ph hg hm (o.ow a h1) hs
  .split at h
   .next hb=>
    obtain⟨fa,h1,h⟩:=agv.mp h;obtain⟨hs,h⟩:=aD.mp h;cases h;obtain⟨rfl,hg,hm⟩:=fJ a hb;rw[agx]at hs;obtain⟨es,j,p,rfl⟩:=wH hs.2;exact Wc hg hm (oX o a h1) hs.1
   .obtain⟨fa,h1,h⟩:=agv.mp h;cases h;exact Ec (oX o a h1)
 .split at h
  .next hb=>
   obtain⟨fa,h1,h⟩:=agv.mp h;obtain⟨fb,h2,h⟩:=agv.mp h;obtain⟨hs,h⟩:=aD.mp h;cases h;obtain⟨rfl,hg,hm⟩:=fJ a hb;rw[agx]at hs;exact Qp hg hm (o.ow a h1) (o.ow a h2) hs.1 hs.2
  .split at h
   .next hb=>
    obtain⟨fa,h1,h⟩:=agv.mp h;obtain⟨fb,h2,h⟩:=agv.mp h;obtain⟨hs,h⟩:=aD.mp h;cases h;obtain⟨rfl,hg,hm⟩:=fJ a hb;simp only[agx]at hs;obtain⟨es,j,p,rfl⟩:=wH hs.2.2;exact abj hg hm (oX o a h1) (oX o a h2) hs.1 hs.2.1
   .obtain⟨fa,h1,h⟩:=agv.mp h;cases h;exact Ec (oX o a h1)
 .obtain⟨hs,h⟩:=aD.mp h;obtain⟨fa,h1,h⟩:=agv.mp h;cases h;simp only[agx,ahu]at hs;obtain⟨hb,hk,hi,hn,ht⟩:=hs;obtain⟨rfl,hg,hm⟩:=fJ a hb;cases ahB hk;obtain⟨es,j,p,rfl⟩:=wH ht;exact T8 hi.1 hi.2 hg hm (oX o a h1) hn
 .obtain⟨fa,h1,h⟩:=agv.mp h;cases h;exact Ec (oX o a h1)
end
def strsOf:List Dat->Option (List Str)
 |[]=>some []
 |.str x::r=>(strsOf r).map (x::·)
 |_::_=>none
theorem sS{K:agw}{g:Gh}{H:Hp}:∀{us:List V} {ds:List Dat} {ns:List Str},aq K g H us ds->strsOf ds=some ns->us=ns.map V.str
 |_,_,ns,.nil,e=>by cases e;rfl
 |_,_,ns,.cons (d:=d) (ds:=ds) h t,e=>by
  cases d with
  |str i=>
   rw[strsOf]at e;cases hr:strsOf ds with
   |none=>rw[hr]at e;cases e
   |some r=>
    rw[hr]at e;cases e;cases h;rw[sS t hr];rfl
  |_=>cases e
theorem ux{K:agw}{g:Gh}{H:Hp}:∀ys:List Str,aq K g H (ys.map V.str) (ys.map PyData.str)
 |[]=>.nil
 |y::ys=>.cons (.str y) (ux ys)
def dI(o:Str->Dat->Out Dat)(a b:QF):QF:=λM ρ=>(a M ρ).bind λx=>match x with
 |.str z=>(b M ρ).bind (o z)
 |_=>.bad
def tO(o:Str->Dat->Dat->Out Dat)(a b c:QF):QF:=λM ρ=>(a M ρ).bind λx=>match x with
 |.str z=>(b M ρ).bind λy=>(c M ρ).bind (o z y)
 |_=>.bad
def pY(o:List Dat->Dat->Out Dat)(a b:QF):QF:=λM ρ=>(a M ρ).bind λx=>match x with
 |.list ds=>(b M ρ).bind (o ds)
 |_=>.bad
def gR(x:Str):Dat->Out Dat
 |.list ds=>match strsOf ds with
  |some ys=>Out.when (decide ((ys.map λy=>y.length).sum+ys.length*x.length<=16777216)) (.ok (.str (Txt.join x ys)))
  |none=>.bad
 |_=>.bad
def oO(x:Str):Dat->Out Dat
 |.str y=>Out.when (!(y.length==0)&&decide (x.length+2<=100000)) (.ok (.list ((Txt.split x y).map .str)))
 |_=>.bad
def vK(x:Str):Dat->Out Dat
 |.str y=>Out.when (!(y.length==0)&&decide (x.length<=100000)) (.ok (.tuple [.str (Txt.partition x y).1,.str (Txt.partition x y).2.1,.str (Txt.partition x y).2.2]))
 |_=>.bad
def lQ(x:Str):Dat->Dat->Out Dat
 |.str y,.int k=>Out.when (!(y.length==0)&&(decide (-100000<=k)&&(decide (k<=100000)&&decide (x.length+2<=100000)))) (.ok (.list ((Txt.splitMax x y k).map .str)))
 |_,_=>.bad
def jL(ds:List Dat)(d:Dat):Out Dat:=Out.when (nQ d&&ds.all nQ) (match ds.findIdx? λz=>PyData.eqv z d with
 |some j=>.ok (.int (j:Nat))
 |none=>.bad)
def Az(ds:List Dat)(d:Dat):Out Dat:=match strsOf ds,d with
 |some ys,.str z=>(match ys.findIdx? λy=>y==z with
  |some j=>.ok (.int (j:Nat))
  |none=>.bad)
 |_,_=>.bad
section
variable{X:Cx}{aj:aC}{W:WX}{a b c:Expr}{fa fb fc:QF}{pos apos:Pos}{k:Nat}
theorem Lh{e:Expr}{r:V->List V->Hp->VK->Prop}{o:Str->Dat->Out Dat}(key:PE X e (tM1 r (tW X.K aj W fa) (tW X.K aj W fb)))
  (ho:∀(σ:L2.St) (g:Gh) (H:Hp) (z:Str) (y:V) (d:Dat) (Q:VK),Kd g H->bf X.K g H y d->(o z d).sat (λt=>∀v H',Ex H H'->Rep X.K g H' v t->Q v H') (gM X.K aj W g H σ)->r (.str z) [y] H Q):QE aj X W e (dI o fa fb):=
 PE.weak key λσ H Q ⟨g,ρ,M,I,h⟩=>by
  refine tW.go I h.bnd λd v H1 h1 e1 r1=>?_;have I1:=I.ex e1;cases d with
  |str z=>
   refine⟨⟨z,bB r1⟩,?_⟩;refine tW.go I1 (h1.bnd.mono (λ_ z=>z) λ_ z=>z.ex e1) λd2 v2 H2 h2 e2 r2=>?_;rw[bB r1];exact ho σ g H2 z v2 d2 Q (I1.ex e2).kd r2 (h2.mono (λt ht u H' e' r'=>ht u H' ((e1.trans e2).trans e') r') λ_ z=>(z.ex e1).ex e2)
  |_=>exact aht h1
theorem VD(ha:QW aj X W a fa)(hb:QW aj X W b fb)(hs:nst b=true)(hbs:baseOk a=true)(hl:(apos.endLine==pos.line)=true):QE aj X W (.Call (.Attribute a "join" apos) [b] [] pos) (dI gR fa fb):=
 Lh (pe_join ha hb (aH hs []) (cA hbs) hl) λσ g H z y d Q kd r h=>by
  unfold gR at h;split at h
  .next ds=>
   split at h
   .next ys hy=>
    obtain⟨hz,h⟩:=h.dN;obtain⟨p,us,rfl,h1,h2⟩:=cD r;have:=sS h2 hy;subst this;exact⟨z,p,ys,rfl,rfl,.inl h1,ahv hz,h _ H (Ex.refl H) (.str _)⟩
   .exact aht h
  .exact aht h
theorem Gm{g:Gh}{H:Hp}{ys:List Str}{Q:VK}(kd:Kd g H)(h:∀v H',Ex H H'->Rep X.K g H' v (.list (ys.map .str))->Q v H'):rNewStrs ys H Q:=λp np=>h _ _ (Ex.new np) (.lst (.inl ⟨ahA,kd.fresh np⟩) (ux ys))
def Qt(a b:QF):IF:=λM ρ=>(a M ρ).bind λx=>match x with
 |.str z=>(b M ρ).bind λy=>(match y with
  |.str w=>Out.when (!(w.length==0)&&decide (z.length+2<=100000)) (.ok ((Txt.split z w).map .str))
  |_=>.bad)
 |_=>.bad
theorem RL(ha:QW aj X W a fa)(hb:QW aj X W b fb)(hs:nst b=true)(hbs:baseOk a=true)(hl:(apos.endLine==pos.line)=true):FE aj X W (.Call (.Attribute a "split" apos) [b] [] pos) (Qt fa fb):=
 PE.weak (pe_split ha hb (aH hs []) (cA hbs) hl) λσ H Q ⟨g,ρ,M,I,h⟩=>by
  refine tW.go I h.bnd λd v H1 h1 e1 r1=>?_;have I1:=I.ex e1;cases d with
  |str z=>
   refine⟨⟨z,bB r1⟩,?_⟩;refine tW.go I1 (h1.bnd.mono (λ_ z=>z) λ_ z=>z.ex e1) λd2 v2 H2 h2 e2 r2=>?_;rw[bB r1];cases d2 with
   |str w=>
    obtain⟨hz,h2⟩:=h2.dN;simp only[agx,agG,ahu]at hz;cases bB r2;exact⟨z,w,rfl,rfl,hz.1,sz_of hz.2,λp np=>h2 p _ _ (jM (e1.trans e2) p np) ((e1.trans e2).trans (Ex.new np)) ahA (ux _)⟩
   |_=>exact aht h2
  |_=>exact aht h1
theorem Ug(ha:QW aj X W a fa)(hb:QW aj X W b fb)(hs:nst b=true)(hbs:baseOk a=true)(hl:(apos.endLine==pos.line)=true):QE aj X W (.Call (.Attribute a "split" apos) [b] [] pos) (dI oO fa fb):=
 Lh (pe_split ha hb (aH hs []) (cA hbs) hl) λσ g H z y d Q kd r h=>by
  unfold oO at h;split at h
  .next w=>
   obtain⟨hz,h⟩:=h.dN;simp only[agx,agG,ahu]at hz;cases bB r;exact⟨z,w,rfl,rfl,hz.1,sz_of hz.2,Gm kd h⟩
  .exact aht h
theorem Xr(ha:QW aj X W a fa)(hb:QW aj X W b fb)(hs:nst b=true)(hbs:baseOk a=true)(hl:(apos.endLine==pos.line)=true):QE aj X W (.Call (.Attribute a "partition" apos) [b] [] pos) (dI vK fa fb):=
 Lh (pe_partition ha hb (aH hs []) (cA hbs) hl) λσ g H z y d Q kd r h=>by
  unfold vK at h;split at h
  .next w=>
   obtain⟨hz,h⟩:=h.dN;simp only[agx,agG,ahu]at hz;cases bB r;exact⟨z,w,rfl,rfl,hz.1,sz_of hz.2,λp np=>h _ _ (Ex.new np) (.tup (st_of ahA) (.cons (.str _) (.cons (.str _) (.cons (.str _) .nil))))⟩
  .exact aht h
theorem N8(ha:QW aj X W a fa)(hb:QW aj X W b fb)(hc:QW aj X W c fc)(hs:[b,c].all nst=true)(hbs:baseOk a=true)(hl:(apos.endLine==pos.line)=true):QE aj X W (.Call (.Attribute a "split" apos) [b,c] [] pos) (tO lQ fa fb fc):=by
 have hs2:=hs;simp only[ag7,List.all_nil,Bool.and_true,agx]at hs2;refine PE.weak (pe_bm (T:="str") PySem.F.plainAttrs_str PySem.F.slot_str_split PySem.F.type_str_split mt_splitMax ha (pa_cons hb (pa_cons hc pa_nil (aH hs2.2 [])) (aH hs2.1 [c])) (cA hbs) ?_ hl (aH hs2.1 [c]) (star_any [c] (by simp[hs2.2]))) λσ H Q ⟨g,ρ,M,I,h⟩=>?_
 .rw[oN _ hs];rfl
 .refine tW.go I h.bnd λd v H1 h1 e1 r1=>?_;have I1:=I.ex e1;cases d with
  |str z=>
   rw[bB r1];refine⟨rfl,?_⟩;refine tW.go I1 (h1.bnd.mono (λ_ z=>z) λ_ z=>z.ex e1) λd2 v2 H2 h2 e2 r2=>?_;have I2:=I1.ex e2;refine tW.go I2 (h2.bnd.mono (λ_ z=>z) λ_ z=>(z.ex e1).ex e2) λd3 v3 H3 h3 e3 r3=>?_;unfold lQ at h3;split at h3
   .next y k=>
    obtain⟨hz,h3⟩:=h3.dN;simp only[agx,agG,ahu]at hz;cases bB r2;cases aK r3;exact⟨z,y,k,rfl,rfl,hz.1,by omega,by omega,sz_of hz.2.2.2,Gm (I2.ex e3).kd λv H' e' r'=>h3 v H' (((e1.trans e2).trans e3).trans e') r'⟩
   .exact aht h3
  |_=>exact aht h1
theorem Jw{α:Type}{p:α->Bool}{l:List α}{j:Nat}(h:l.findIdx? p=some j):∃z,l[j]?=some z/\p z=true/\∀m z',m<j->l[m]?=some z'->p z'=false:=by
 rw[List.findIdx?_eq_some_iff_getElem]at h;obtain⟨h1,h2,h3⟩:=h;refine⟨l[j],agD h1,h2,λm z' hm e=>?_⟩;have hl:m<l.length:=by omega
 rw[agD hl]at e;cases e;simpa using h3 m hm
theorem Ry(ha:QW aj X W a fa)(hb:QW aj X W b fb)(hs:nst b=true)(hbs:baseOk a=true)(hl:(apos.endLine==pos.line)=true):QE aj X W (.Call (.Attribute a "index" apos) [b] [] pos) (pY jL fa fb):=by
 have hs1:[b].all nst=true:=by simp[hs]
 refine PE.weak (pe_bm (T:="list") PySem.F.plainAttrs_list PySem.F.slot_list_index PySem.F.type_list_index mt_index ha (pa_cons hb pa_nil (aH hs [])) (cA hbs) ?_ hl (aH hs []) (by with_unfolding_all rfl)) λσ H Q ⟨g,ρ,M,I,h⟩=>?_
 .rw[oN _ hs1];rfl
 .refine tW.go I h.bnd λd v H1 h1 e1 r1=>?_;have I1:=I.ex e1;cases d with
  |list ds=>
   obtain⟨p,us,rfl,q1,q2⟩:=cD r1;refine⟨.inl ⟨rfl,us,q1⟩,?_⟩;refine tW.go I1 (h1.bnd.mono (λ_ z=>z) λ_ z=>z.ex e1) λd2 v2 H2 h2 e2 r2=>?_;unfold jL at h2;obtain⟨hz,h2⟩:=h2.dN;rw[agx]at hz;have q2':=q2.ex e2 I1.kd;have r2':=Jz hz.1 r2;split at h2
   .next j hj=>
    obtain⟨z,z1,z2,z3⟩:=Jw hj;obtain⟨u,u1,u2⟩:=q2'.get z1;have fz:∀{m:Nat} {z:Dat},ds[m]?=some z->nQ z=true:=λ{m z} e=>agK.mp hz.2 z (agT e);refine⟨p,us,v2,j,u,rfl,rfl,ex_l e2 q1,wU hz.1 r2',uX hz.2 q2',u1,?_,λm z' hm e=>?_,h2 _ H2 (e1.trans e2) (.int _)⟩
    .rw[zR (fz z1) hz.1 u2 r2'];exact z2
    .obtain⟨d',k1,k2⟩:=q2'.get' e;rw[zR (fz k1) hz.1 k2 r2'];exact z3 m d' hm k1
   .exact aht h2
  |_=>exact aht h1
def Ez(ds:List Dat)(b:QF):QF:=λM ρ=>(b M ρ).bind (Az ds)
theorem Nz{x:Str}{p:Pos}{ds:List Dat}(hg:aU X.prog X.w X.K X.mg X.base aj k x (.con (.tuple ds)))(hx:Gl X x)(hd:(x==("__debug__" : Str))=false)(hb:QW aj X W b fb)(hs:nst b=true)(hl:(apos.endLine==pos.line)=true):QE aj X W (.Call (.Attribute (.Name x p) "index" apos) [b] [] pos) (Ez ds fb):=by
 obtain⟨v,u,g1,g2,g3,g4⟩:=hg;have hs1:[b].all nst=true:=by simp[hs]
 refine PE.weak (pe_bm (T:="tuple") PySem.F.plainAttrs_tuple PySem.F.slot_tuple_index PySem.F.type_tuple_index mt_tup_index (pe_glob hx g1 g2 hd) (pa_cons hb pa_nil (aH hs [])) (cA rfl) ?_ hl (aH hs []) (by with_unfolding_all rfl)) λσ H Q ⟨g,ρ,M,I,h⟩=>?_
 .rw[oN _ hs1];rfl
 .have r0:=g3 g λ_=>none;have rH:=g3 g;cases r0 with
  | @tup l us _ hq hr=>
   rcases hq with hq|hq
   .rcases hq with hq|⟨o,hq⟩<;>cases hq
   .refine⟨.inr (.inl ⟨rfl,g4 l ds rfl rfl⟩),?_⟩;refine tW.go I h.bnd λd2 v2 H2 h2 e2 r2=>?_;unfold Az at h2;split at h2
    .next ys z hy=>
     split at h2
     .next j hj=>
      cases bB r2;obtain⟨y,y1,y2,y3⟩:=Jw hj;have:=sS hr hy;subst this;cases ahB y2;refine⟨l,ys,z,j,rfl,rfl,.inr hq,y1,λm hm e=>?_,h2 _ H2 e2 (.int _)⟩;have:=y3 m z hm e;simp at this
     .exact aht h2
    .exact aht h2
def uV:Dat->Out Str
 |.str y=>Out.when (decide (y.length<=100000)) (.ok y)
 |.int i=>Out.when (decide (i.natAbs.log2<1920)) (.ok (Str.ofString (toString i)))
 |_=>.bad
def zV(a b:QF):QF:=λM ρ=>(a M ρ).bind λd=>(uV d).bind λx=>Out.when (decide (x.length<=100000)) ((b M ρ).bind λe=>(uV e).bind λy=>Out.when (decide (x.length+y.length<=100000)) (.ok (.str (x++y))))
theorem Qg{g:Gh}{H:Hp}{v:V}{d:Dat}{P:Str->Prop}{E:bK->Prop}{R:V->Prop}(r:bf X.K g H v d)(h:(uV d).sat P E)(k:∀y,P y->R (.str y)):(∃y:Str,v=.str y/\y.length<=sizeLine/\R (.str y))\/∃i:Int,v=.int i/\i.natAbs.log2<1920/\R (.str (toString i)):=by
 unfold uV at h;split at h
 .next y=>
  obtain⟨hz,h⟩:=h.dN;exact .inl ⟨y,bB r,sz_of (ahv hz),k _ h⟩
 .next i=>
  obtain⟨hz,h⟩:=h.dN;exact .inr ⟨i,aK r,ahv hz,k _ h⟩
 .exact aht h
theorem aaB{p1 p2:Pos}(ha:QW aj X W a fa)(hb:QW aj X W b fb):QE aj X W (.JoinedStr [.FormattedValue a (-1) none p1,.FormattedValue b (-1) none p2] pos) (zV fa fb):=
 PE.weak (pe_joined (.cons (pe_fmt ha) (.cons (pe_fmt hb) .nil))) λσ H Q ⟨g,ρ,M,I,h⟩=>by
  have e0:∀y:Str,Str.empty++y=y:=λy=>by
   apply TL.ext_tl;rw[TL.tl_append];rfl
  refine tW.go I h.bnd λd v H1 h1 e1 r1=>?_;have I1:=I.ex e1;refine Qg (R:=λx=>∃y:Str,x=.str y/\(Str.empty++y).length<=sizeLine/\tJs [tFmt (tW X.K aj W fb)] (Str.empty++y) σ H1 λout H1=>Q (V.str out) H1) r1 h1.bnd λx hx=>?_;obtain⟨hz,hx⟩:=hx.dN;refine⟨x,rfl,by rw[e0];exact sz_of (ahv hz),?_⟩;refine tW.go I1 (hx.bnd.mono (λ_ z=>z) λ_ z=>z.ex e1) λd2 v2 H2 h2 e2 r2=>?_;refine Qg (R:=λz=>∃y:Str,z=.str y/\(Str.empty++x++y).length<=sizeLine/\tJs [] (Str.empty++x++y) σ H2 λout H1=>Q (V.str out) H1) r2 h2.bnd λy hy=>?_;obtain⟨hz2,hy⟩:=hy.dN;have hl:(x++y).length=x.length+y.length:=Array.size_append;refine⟨y,rfl,by rw[e0,hl];exact sz_of (ahv hz2),?_⟩;rw[e0];exact hy _ H2 (e1.trans e2) (.str _)
end
def txM(m:Str):Option Nat:=if m=="join" then some 0 else if m=="split" then some 1 else if m=="partition" then some 2 else if m=="index" then some 3 else none
def ZS(t:Tr)(c:Tc):Expr->Option QF
 |.Call (.Attribute o m apos) [e] [] pos=>(txM m).bind λn=>(t.W c e).bind λfe=>gd (baseOk o&&(nst e&&(apos.endLine==pos.line))) (match n with
  |0=>(t.W c o).bind λfo=>some (dI gR fo fe)
  |1=>(t.W c o).bind λfo=>some (dI oO fo fe)
  |2=>(t.W c o).bind λfo=>some (dI vK fo fe)
  |_=>(match o with
   |.Name x _=>(match c.G.lookup x with
    |some (.con (.tuple ds))=>gd (kJ c.sc x&&!lN x) (some (Ez ds fe))
    |some _=>none
    |none=>(t.W c o).bind λfo=>some (pY jL fo fe))
   |_=>(t.W c o).bind λfo=>some (pY jL fo fe)))
 |.Call (.Attribute o m apos) [e,e2] [] pos=>(match m=="split" with
  |true=>(t.W c o).bind λfo=>(t.W c e).bind λfe=>(t.W c e2).bind λf2=>gd (baseOk o&&(nst e&&(nst e2&&(apos.endLine==pos.line)))) (some (tO lQ fo fe f2))
  |false=>none)
 |.JoinedStr [.FormattedValue a k1 none _,.FormattedValue b k2 none _] _=>(t.W c a).bind λfa=>(t.W c b).bind λfb=>gd (decide (k1=-1)&&decide (k2=-1)) (some (zV fa fb))
 |_=>none
section
variable{aj:aC}{c:Tc}{X:Cx}{W:WX}{k:Nat}{t:Tr}
theorem ZV{m:Str}{n:Nat}(h:txM m=some n):(m="join"/\n=0)\/(m="split"/\n=1)\/(m="partition"/\n=2)\/(m="index"/\n=3):=by
 unfold txM at h;split at h
 .next e=>cases h;exact .inl ⟨ahB e,rfl⟩
 split at h
 .next e=>cases h;exact .inr (.inl ⟨ahB e,rfl⟩)
 split at h
 .next e=>cases h;exact .inr (.inr (.inl ⟨ahB e,rfl⟩))
 split at h
 .next e=>cases h;exact .inr (.inr (.inr ⟨ahB e,rfl⟩))
 .cases h
theorem abd(o:t.Ok)(a:Amb aj c X W k){e:Expr}{f:QF}(h:ZS t c e=some f):QE aj X W e f:=by
 unfold ZS at h;split at h
 .obtain⟨n,h0,h⟩:=agv.mp h;obtain⟨fe,h1,h⟩:=agv.mp h;obtain⟨hb,h⟩:=aD.mp h;simp only[agx]at hb;obtain⟨b1,b2,b3⟩:=hb;rcases ZV h0 with⟨rfl,rfl⟩|⟨rfl,rfl⟩|⟨rfl,rfl⟩|⟨rfl,rfl⟩
  .obtain⟨fo,h2,h⟩:=agv.mp h;cases h;exact VD (o.ow a h2) (o.ow a h1) b2 b1 b3
  .obtain⟨fo,h2,h⟩:=agv.mp h;cases h;exact Ug (o.ow a h2) (o.ow a h1) b2 b1 b3
  .obtain⟨fo,h2,h⟩:=agv.mp h;cases h;exact Xr (o.ow a h2) (o.ow a h1) b2 b1 b3
  .have lst:∀{b:Expr} {apos pos:Pos},baseOk b=true->((t.W c b).bind λfo=>some (pY jL fo fe))=some f->(apos.endLine==pos.line)=true->QE aj X W (.Call (.Attribute b "index" apos) [_] [] pos) f:=λ{b apos pos} hb h b3=>by
    obtain⟨fo,h2,h⟩:=agv.mp h;cases h;exact Ry (o.ow a h2) (o.ow a h1) b2 hb b3
   simp only at h;split at h
   .split at h
    .next hl=>
     obtain⟨hg,h⟩:=aD.mp h;cases h;simp only[agx,agG]at hg;exact Nz (a.gl _ _ hl) (d7 a hg.1) (eE hg.2).1 (o.ow a h1) b2 b3
    .cases h
    .exact lst b1 h b3
   .exact lst b1 h b3
 .split at h
  .next hm=>
   obtain⟨fo,h1,h⟩:=agv.mp h;obtain⟨fe,h2,h⟩:=agv.mp h;obtain⟨f2,h3,h⟩:=agv.mp h;obtain⟨hb,h⟩:=aD.mp h;cases h;simp only[agx]at hb;cases ahB hm;exact N8 (o.ow a h1) (o.ow a h2) (o.ow a h3) (by simp[hb.2.1,hb.2.2.1]) hb.1 hb.2.2.2
  .cases h
 .obtain⟨fa,h1,h⟩:=agv.mp h;obtain⟨fb,h2,h⟩:=agv.mp h;obtain⟨hb,h⟩:=aD.mp h;cases h;simp only[agx,ahu]at hb;obtain⟨rfl,rfl⟩:=hb;exact aaB (o.ow a h1) (o.ow a h2)
 .cases h
end
def MV.n:MV->Nat
 |.q n _=>n
 |.g n _=>n
def MV.qt:MV->Bool
 |.q _ _=>true
 |.g _ _=>false
def Zg(tb:List (Str×MV))(n:Nat):Bool:=tb.all λp=>p.2.n==n
def tbQ(tb:List (Str×MV)):Bool:=tb.all λp=>p.2.qt
theorem fX{α:Type}{c:Str}{v:α}:∀{tb:List (Str×α)},tb.lookup c=some v->(c,v)∈tb
 |[],h=>nomatch h
 |(y,u)::r,h=>by
  rw[agQ]at h;split at h
  .next e=>
   cases h;rw[ahB e];exact agA
  .exact agz _ (fX h)
section
variable{aj:aC}{c:Tc}{X:Cx}{W:WX}{k:Nat}{t:Tr}
theorem Dt(a:Amb aj c X W k){m:Str}{n:Nat}{tb:List (Str×MV)}(h:c.hs.Ms.lookup m=some tb)(hn:Zg tb n=true):rB X aj k m n tb:=λy v hv=>by
 refine⟨a.hk.ms m tb h y v hv,?_⟩;have:=agK.mp hn _ (fX hv);cases v<;>exact ahB this
def Fl(t:Tr)(c:Tc)(o:Expr)(m:Str)(es:List Expr)(apos pos:Pos):Option QF:=
 (c.hs.Ms.lookup m).bind λtb=>(t.W c o).bind λfo=>(pZ t c es).bind λas=>
  gd (tbQ tb&&(Zg tb (es.length+1)&&(baseOk o&&(decide (es.length<30)&&(apos.endLine==pos.line))))) (some (yr tb fo as))
theorem O8(o:t.Ok)(a:Amb aj c X W k){b:Expr}{m:Str}{es:List Expr}{apos pos:Pos}{f:QF}(h:Fl t c b m es apos pos=some f):QE aj X W (.Call (.Attribute b m apos) es [] pos) f:=by
 unfold Fl at h;obtain⟨tb,h1,h⟩:=agv.mp h;obtain⟨fo,h2,h⟩:=agv.mp h;obtain⟨as,h3,h⟩:=agv.mp h;obtain⟨hb,h⟩:=aD.mp h;cases h;simp only[agx,ahu]at hb;obtain⟨_,b2,b3,b4,b5⟩:=hb;obtain⟨i1,i2,i3⟩:=iZ o a h3;cases es with
 |nil=>
  cases h3;exact SQ (a.tm h1) a.rm (Dt a h1 b2) (o.ow a h2) b3 b5
 |cons e es=>exact Xe (a.tm h1) a.rm (Dt a h1 b2) (o.ow a h2) i1 i3 b3 i2 b5 b4
def inN:CmpOp->Option Bool
 |.In=>some false
 |.NotIn=>some true
 |_=>none
theorem Oe{op:CmpOp}{neg:Bool}(hr:Room k X.A)(h:inN op=some neg):OpR X (compareOp op) (rInD X neg):=by
 have h65:X.A.units+64<cLine:=by have:=hr.un;omega
 cases op<;>cases h
 .exact op_inD h65
 .exact op_notInD h65
def Lw(t:Tr)(c:Tc)(e:Expr)(op:CmpOp)(o:Expr)(f:Str):Option QF:=
 (inN op).bind λneg=>(c.hs.df.lookup f).bind λ_=>(t.E c e).bind λfe=>(t.W c o).bind λfo=>gd (baseOk o) (some (Gy neg f fe fo))
theorem Yk{o e:Expr}{f:Str}{p1 pos:Pos}{fo fk:QF}{neg:Bool}{op:CmpOp}(co:dJ X.K aj)(hw:aj.w=X.w)(hr:OpR X (compareOp op) (rInD X neg))(hk:QE aj X W e fk)(ho:QW aj X W o fo)(hb:baseOk o=true):jf aj X W (.Compare e [op] [.Attribute o f p1] pos) (aY (Gy neg f fk fo)):=
 PT.weak (pt_cmpR hr hk (pe_fld ho (cA hb)) (by cases op<;>rfl)) λσ H Q ⟨g,ρ,M,I,h⟩=>by
  refine Ux co hw σ H _ ⟨g,ρ,M,I,h.bnd.mono (λd h1 v H' e' r'=>?_) λ_ z=>z⟩;obtain⟨k,h2,h3⟩:=pN r'.weak h1;exact⟨k,h2,h3 H' e'⟩
theorem Ke(o:t.Ok)(a:Amb aj c X W k){e b:Expr}{op:CmpOp}{m:Str}{p1 pos:Pos}{f:QF}(h:Lw t c e op b m=some f):QE aj X W (.Compare e [op] [.Attribute b m p1] pos) f/\jf aj X W (.Compare e [op] [.Attribute b m p1] pos) (aY f):=by unfold Lw at h;obtain⟨neg,h1,h⟩:=agv.mp h;obtain⟨_,_,h⟩:=agv.mp h;obtain⟨fe,h2,h⟩:=agv.mp h;obtain⟨fo,h3,h⟩:=agv.mp h;obtain⟨hb,h⟩:=aD.mp h;cases h;exact⟨ZK a.hk.co a.hk.hw (Oe a.rm h1) (o.oe a h2) (o.ow a h3) hb,Yk a.hk.co a.hk.hw (Oe a.rm h1) (o.oe a h2) (o.ow a h3) hb⟩
def Df(t:Tr)(c:Tc)(e:Expr)(op:CmpOp)(x:Str):Option QF:=
 (inN op).bind λneg=>match c.G.lookup x with
  |some (.dic kvs)=>(t.W c e).bind λfe=>gd (kJ c.sc x&&!lN x) (some (wI neg kvs fe))
  |_=>none
theorem Ef(o:t.Ok)(a:Amb aj c X W k){e:Expr}{op:CmpOp}{x:Str}{p1 pos:Pos}{f:QF}(h:Df t c e op x=some f):QE aj X W (.Compare e [op] [.Name x p1] pos) f/\jf aj X W (.Compare e [op] [.Name x p1] pos) (aY f):=by
 unfold Df at h;obtain⟨neg,h1,h⟩:=agv.mp h;split at h
 .next kvs hl=>
  obtain⟨fe,h2,h⟩:=agv.mp h;obtain⟨hb,h⟩:=aD.mp h;cases h;simp only[agx,agG]at hb;refine abq a.rm ?_ (a.gl x _ hl) (d7 a hb.1) (eE hb.2).1 (o.ow a h2);cases op<;>cases h1
  .exact .inl ⟨rfl,rfl⟩
  .exact .inr ⟨rfl,rfl⟩
 .cases h
def Hv(t:Tr)(c:Tc):Expr->Option QF
 |.Call (.Name y _) [b] [] _=>(match jx c y "set" with
  |true=>(t.W c b).bind λfb=>gd (nst b) (some (bR Nb fb))
  |false=>(t.W c (.Call (.Name y ⟨0,0,0,0⟩) [b] [] ⟨0,0,0,0⟩)).bind λ_=>none)
 |e=>(t.W c e).bind λfe=>gd (nst e) (some (bR Dq fe))
theorem ZD(a:Amb aj c X W k):X.A.units+65<cLine:=by have:=a.rm.un;omega
theorem Ou(o:t.Ok)(a:Amb aj c X W k)(hg:Gl X "sorted")(hm:X.mg "sorted"=none){e:Expr}{p pos:Pos}{f:QF}(h:Hv t c e=some f):QE aj X W (.Call (.Name "sorted" p) [e] [] pos) f:=by
 unfold Hv at h;split at h
 .split at h
  .next hb=>
   obtain⟨fb,h1,h⟩:=agv.mp h;obtain⟨hn,h⟩:=aD.mp h;cases h;obtain⟨rfl,hg2,hm2⟩:=fJ a hb;exact VR (ZD a) a.calm hg hm hg2 hm2 (o.ow a h1) hn
  .obtain⟨_,_,h⟩:=agv.mp h;cases h
 .obtain⟨fe,h1,h⟩:=agv.mp h;obtain⟨hn,h⟩:=aD.mp h;cases h;exact Xm (ZD a) hg hm (o.ow a h1) hn
def zf(t:Tr)(c:Tc)(elt tg iter:Expr)(ifs:List Expr)(tg1 iter1:Expr)(ifs1:List Expr)(scope:Scope):Option QF:=
 (t.I c false tg iter).bind λit=>(yZ (c.inn scope) tg).bind λjt=>(Ab t (c.inn scope) ifs).bind λtt=>(t.I (c.inn scope) true tg1 iter1).bind λit1=>(yZ (c.inn scope) tg1).bind λjt1=>(Ab t (c.inn scope) ifs1).bind λtt1=>(t.E (c.inn scope) elt).bind λte=>
  gd (blkC c.N c.sc scope (fQ tg jt.1++fQ tg1 jt1.1)&&(tG ((fQ tg1 jt1.1).map (·.2)) ((fQ tg jt.1++fQ tg1 jt1.1).map (·.2))&&(tG jt.1 ((fQ tg jt.1++fQ tg1 jt1.1).map (·.2))&&(tG jt1.1 ((fQ tg1 jt1.1).map (·.2))&&(!kZ iter&&!kZ iter1)))))
   (some (ug it jt.2 ((fQ tg jt.1++fQ tg1 jt1.1).map (·.2)) tt it1 jt1.2 ((fQ tg1 jt1.1).map (·.2)) tt1 te))
theorem R5(o:t.Ok)(a:Amb aj c X W k){elt tg iter tg1 iter1:Expr}{ifs ifs1:List Expr}{scope:Scope}{pos:Pos}{f:QF}(h:zf t c elt tg iter ifs tg1 iter1 ifs1 scope=some f):QE aj X W (.ListComp elt [⟨tg,iter,ifs,0⟩,⟨tg1,iter1,ifs1,0⟩] scope pos) f:=by unfold zf at h;obtain⟨it,h1,h⟩:=agv.mp h;obtain⟨⟨js,tf⟩,h2,h⟩:=agv.mp h;obtain⟨tt,h3,h⟩:=agv.mp h;obtain⟨it1,h4,h⟩:=agv.mp h;obtain⟨⟨js1,tf1⟩,h5,h⟩:=agv.mp h;obtain⟨tt1,h6,h⟩:=agv.mp h;obtain⟨te,h7,h⟩:=agv.mp h;obtain⟨hb,h⟩:=aD.mp h;cases h;simp only[agx,agG]at hb;obtain⟨b1,b2,b3,b4,b5,b6⟩:=hb;exact Yh a.calm a.nd (o.oi a h1) (by rw[a.hN,a.hs];exact b1) (fV b2) (fV b3) (fV b4) (λs H C cl fp=>ji (a.inn _ s H C cl fp) h2) (λs H C cl fp=>j8 o (a.inn _ s H C cl fp) h3) (λs H C cl fp=>o.oi (a.inn _ s H C cl fp) h4) (λs H C cl fp=>ji (a.inn _ s H C cl fp) h5) (λs H C cl fp=>j8 o (a.inn _ s H C cl fp) h6) (λs H C cl fp=>o.oe (a.inn _ s H C cl fp) h7) (ig b5) (λenv=>ig b6)
def els{α:Type}(a b:Option α):Option α:=match a with
 |some x=>some x
 |none=>b
theorem iQ{α:Type}{a b:Option α}{x:α}(h:els a b=some x):a=some x\/b=some x:=by
 cases a with
 |none=>exact .inr h
 |some y=>exact .inl h
def xE0(t:Tr)(c:Tc):Expr->Option QF
 |.Attribute o f _=>gd (baseOk o) ((t.W c o).bind λfo=>some (Uw f fo))
 |.Call (.Attribute o m apos) es [] pos=>Fl t c o m es apos pos
 |.Compare e [op] [.Attribute o f _] _=>Lw t c e op o f
 |.Compare e [op] [.Name x _] _=>Df t c e op x
 |.Subscript (.Name x _) e _=>(match c.G.lookup x with
  |some (.dic kvs)=>(t.W c e).bind λfe=>gd (kJ c.sc x&&(!lN x&&!wY e)) (some (zA kvs fe))
  |_=>none)
 |.ListComp elt [⟨tg,iter,ifs,0⟩,⟨tg1,iter1,ifs1,0⟩] scope _=>zf t c elt tg iter ifs tg1 iter1 ifs1 scope
 |.Call (.Name x _) [e] [] _=>(match jx c x "sorted" with
  |true=>Hv t c e
  |false=>match jx c x "list",e with
   |true,.Attribute o f _=>(c.hs.df.lookup f).bind λ_=>(t.W c o).bind λfo=>gd (baseOk o) (some (uJ f fo))
   |_,_=>none)
 |_=>none
theorem Z4(o:t.Ok)(a:Amb aj c X W k){e:Expr}{f:QF}(h:xE0 t c e=some f):QE aj X W e f:=by
 unfold xE0 at h;split at h
 .obtain⟨hb,h⟩:=aD.mp h;obtain⟨fo,h1,h⟩:=agv.mp h;cases h;exact Yp a.hk.co (o.ow a h1) hb
 .exact O8 o a h
 .exact(Ke o a h).1
 .exact(Ef o a h).1
 .split at h
  .next kvs hl=>
   obtain⟨fe,h1,h⟩:=agv.mp h;obtain⟨hb,h⟩:=aD.mp h;cases h;simp only[agx]at hb;exact YM (a.gl _ _ hl) (d7 a hb.1) (eE (by simpa using hb.2.1)).1 (o.ow a h1) (DY hb.2.2)
  .cases h
 .exact R5 o a h
 .split at h
  .next hb=>
   obtain⟨rfl,hg,hm⟩:=fJ a hb;exact Ou o a hg hm h
  .split at h
   .next hb=>
    obtain⟨_,_,h⟩:=agv.mp h;obtain⟨fo,h1,h⟩:=agv.mp h;obtain⟨hb2,h⟩:=aD.mp h;cases h;obtain⟨rfl,hg,hm⟩:=fJ a hb;exact TV a.hk.co a.hk.hw a.calm hg hm (o.ow a h1) hb2
   .cases h
 .cases h
def xE1(t:Tr)(c:Tc)(e:Expr):Option QF:=els (ZS t c e) (xE0 t c e)
theorem Yb(o:t.Ok)(a:Amb aj c X W k){e:Expr}{f:QF}(h:xE1 t c e=some f):QE aj X W e f:=(iQ h).elim (abd o a) (Z4 o a)
def xE(t:Tr)(c:Tc)(e:Expr):Option QF:=xE1 t c e
theorem ach(o:t.Ok)(a:Amb aj c X W k){e:Expr}{f:QF}(h:xE t c e=some f):QE aj X W e f:=Yb o a h
def xW(t:Tr)(c:Tc):Expr->Option QF
 |.Attribute o f _=>gd (baseOk o) ((t.W c o).bind λfo=>some (Ls f fo))
 |_=>none
theorem abW(o:t.Ok)(a:Amb aj c X W k){e:Expr}{f:QF}(h:xW t c e=some f):QW aj X W e f:=by
 unfold xW at h;split at h
 .obtain⟨hb,h⟩:=aD.mp h;obtain⟨fo,h1,h⟩:=agv.mp h;cases h;exact Z6 a.hk.co (o.ow a h1) hb
 .cases h
def xT(t:Tr)(c:Tc):Expr->Option QT
 |.Compare e [op] [.Attribute o f _] _=>(Lw t c e op o f).bind λg=>some (aY g)
 |.Compare e [op] [.Name x _] _=>(Df t c e op x).bind λg=>some (aY g)
 |_=>none
theorem acC(o:t.Ok)(a:Amb aj c X W k){e:Expr}{f:QT}(h:xT t c e=some f):jf aj X W e f:=by
 unfold xT at h;split at h
 .obtain⟨g,h1,h⟩:=agv.mp h;cases h;exact(Ke o a h1).2
 .obtain⟨g,h1,h⟩:=agv.mp h;cases h;exact(Ef o a h1).2
 .cases h
def xI(t:Tr)(c:Tc)(firm:Bool):Expr->Option IF
 |.Attribute o f _=>(match firm with
  |true=>none
  |false=>(c.hs.df.lookup f).bind λ_=>gd (baseOk o) ((t.W c o).bind λfo=>some (yj f fo)))
 |_=>none
theorem ab4(o:t.Ok)(a:Amb aj c X W k){firm:Bool}{tg e:Expr}{f:IF}(h:xI t c firm e=some f):QI aj X W firm tg e f:=by
 unfold xI at h;split at h
 .split at h
  .cases h
  .obtain⟨_,_,h⟩:=agv.mp h;obtain⟨hb,h⟩:=aD.mp h;obtain⟨fo,h1,h⟩:=agv.mp h;cases h;exact Rc a.hk.co a.hk.hw (o.ow a h1) hb
 .cases h
def xtE(t:Tr)(c:Tc)(e:Expr):Option QF:=els (xE t c e) (stE t c e)
def xtW(t:Tr)(c:Tc)(e:Expr):Option QF:=els (xW t c e) (Zv t c e)
def xtT(t:Tr)(c:Tc)(e:Expr):Option QT:=els (xT t c e) (Zt t c e)
def xtI(t:Tr)(c:Tc)(firm:Bool)(tg e:Expr):Option IF:=els (xI t c firm e) (stI t c firm tg e)
end
structure jh(aj:aC)(c:Tc)(X:Cx)(W:WX)(k:Nat):Prop extends Amb aj c X W k where
 ps:PassesOwn (model X.prog X.w) X.A X.env X.xe
 st:X.stack=X.env::X.outer
 fr:X.env.frame=some X.env.locals
 kf:X.env.scope.kind=.function
structure Ts where
 G:Tc->Expr->Option GF
 H:Tc->Expr->Option GT
 S:Tc->Stmt->Option SF
 B:Tc->List Stmt->Option SF
structure Ts.Ok(s:Ts)(q:Bool):Prop where
 og:∀{aj:aC} {c:Tc} {X:Cx} {W:WX} {k:Nat},jh aj c X W k->∀{e:Expr} {f:GF},s.G c e=some f->GE aj X W q e f
 oh:∀{aj:aC} {c:Tc} {X:Cx} {W:WX} {k:Nat},jh aj c X W k->∀{e:Expr} {f:GT},s.H c e=some f->GTe aj X W q e f
 os:∀{aj:aC} {c:Tc} {X:Cx} {W:WX} {k:Nat},jh aj c X W k->∀{e:Stmt} {f:SF},s.S c e=some f->SE aj X W q e f
 ob:∀{aj:aC} {c:Tc} {X:Cx} {W:WX} {k:Nat},jh aj c X W k->∀{e:List Stmt} {f:SF},s.B c e=some f->sV aj X W q e f
def pq:Expr->Bool
 |.ListComp _ _ _ _=>true
 |.SetComp _ _ _ _=>true
 |.DictComp _ _ _ _ _=>true
 |_=>false
theorem qI{e:Expr}{tg:Option Expr}{l:Nat}{env:PySem.Env}(h:pq e=false):swapsWith e tg l env=pure false:=by cases e<;>first | rfl | cases h
def Ma:Expr->Bool
 |.Tuple _ _ _=>true
 |_=>false
def Vl(sc:Scope)(v:Expr)(scope:Scope)(x:Str)(p:Pos):Bool:=(match sc.names.lookup x with
 |some .local=>true
 |_=>false)&&(p.line==v.pos.line&&!(scope.names.any λ(n,k)=>n==x&&(k==.local || k==.cell)))
theorem yI{X:Cx}{elt:Expr}{gens:List Comprehension}{scope:Scope}{pos p:Pos}{x:Str}{l:Nat}(hk:X.env.scope.kind=.function)(h:Vl X.env.scope (.ListComp elt gens scope pos) scope x p=true):X.env.scope.names.lookup x=some .local/\swapsWith (.ListComp elt gens scope pos) (some (.Name x p)) l X.env=pure true:=by
 unfold Vl at h;simp only[agx]at h;obtain⟨h1,h2,h3⟩:=h;have e1:X.env.scope.names.lookup x=some .local:=by
  split at h1
  .assumption
  .cases h1
 refine⟨e1,?_⟩;have eb:X.env.blockKind=.function:=by unfold PySem.Env.blockKind;rw[hk];rfl
 unfold swapsWith
 show(pure (X.env.blockKind==.function&&X.env.kindOf x==some .local&&p.line==(Expr.ListComp elt gens scope pos).pos.line&&!(scope.names.any λ(n,k)=>n==x&&(k==.local || k==.cell))):Sem Bool)=pure true
 rw[eb,h2,h3];unfold PySem.Env.kindOf;rw[e1];rfl
def Ut(sc:Scope)(v:Expr)(x:Str)(p:Pos):Bool:=!(p.line==v.pos.line) || (match sc.names.lookup x with
 |some .local=>false
 |_=>true)
theorem Qc{X:Cx}{elt:Expr}{gens:List Comprehension}{scope:Scope}{pos p:Pos}{x:Str}{l:Nat}(h:Ut X.env.scope (.ListComp elt gens scope pos) x p=true):swapsWith (.ListComp elt gens scope pos) (some (.Name x p)) l X.env=pure false:=by
 unfold swapsWith
 show(pure (X.env.blockKind==.function&&X.env.kindOf x==some .local&&p.line==(Expr.ListComp elt gens scope pos).pos.line&&!(scope.names.any λ(n,k)=>n==x&&(k==.local || k==.cell))):Sem Bool)=pure false
 unfold Ut at h;rw[ahj,agG]at h;rcases h with h|h
 .rw[h,Bool.and_false,Bool.false_and]
 .have e:(X.env.kindOf x==some .local)=false:=by
   unfold PySem.Env.kindOf;split at h
   .cases h
   .next q=>
    cases hl:X.env.scope.names.lookup x with
    |none=>rfl
    | some y=>cases y<;>first | exact absurd hl q | rfl
  rw[e,Bool.and_false,Bool.false_and,Bool.false_and]
def U8(t:Tr)(c:Tc):Expr->Option IF
 |.List es _=>(pZ t c es).bind λfr=>some (Fq fr)
 |.Call (.Name x _) [a] [] _=>(t.W c a).bind λfa=>gd (jx c x "list"&&nst a) (some (rE fa))
 |.Call (.Attribute o m apos) [e] [] pos=>(t.W c o).bind λfo=>(t.W c e).bind λfe=>gd (m=="split"&&(baseOk o&&(nst e&&(apos.endLine==pos.line)))) (some (Qt fo fe))
 |_=>none
theorem Nk{aj:aC}{c:Tc}{X:Cx}{W:WX}{k:Nat}{t:Tr}(o:t.Ok)(a:Amb aj c X W k){e:Expr}{f:IF}(h:U8 t c e=some f):FE aj X W e f/\pq e=false:=by
 unfold U8 at h;split at h
 .obtain⟨fr,h1,h⟩:=agv.mp h;cases h;exact⟨Y9 (iZ o a h1).1,rfl⟩
 .obtain⟨fa,h1,h⟩:=agv.mp h;obtain⟨hb,h⟩:=aD.mp h;cases h;rw[agx]at hb;obtain⟨rfl,hg,hm⟩:=fJ a hb.1;exact⟨Wk hg hm ⟨by decide +kernel,by decide,by decide⟩ (o.ow a h1) hb.2,rfl⟩
 .obtain⟨fo,h1,h⟩:=agv.mp h;obtain⟨fe,h2,h⟩:=agv.mp h;obtain⟨hb,h⟩:=aD.mp h;cases h;simp only[agx]at hb;cases ahB hb.1;exact⟨RL (o.ow a h1) (o.ow a h2) hb.2.2.1 hb.2.1 hb.2.2.2,rfl⟩
 .cases h
section
variable{X:Cx}{aj:aC}{W:WX}{q:Bool}{e:Expr}{pos:Pos}
theorem Zi{j:Nat}{y:Str}{py:Pos}{elt tg iter:Expr}{cpos:Pos}{scope:Scope}{own:List (Str×Nat)}{it:IF}{tgf:bT}{js:List Nat}{tt:QT}{te:QF}{ifs:List Expr}(hc:X.calm=true)(hN:X.N.Nodup)(hy:X.N[j]?=some y)(hyl:X.env.scope.names.lookup y=some .local)
  (hsw:swapsWith (.ListComp elt [⟨tg,iter,ifs,0⟩] scope cpos) (some (.Name y py)) pos.line X.env=pure true) (hi:QI aj X W false tg iter it) (ok:blkC X.N X.env.scope scope own=true) (hj:∀j∈js,j∈own.map (·.2))
  (hg:∀(s:Shared) (H:Hp) (C:Addr) (cl:List (Str×Addr)) (fp:List Addr),QG aj (X.blk s H scope (compEnvC scope cl C X.env) fp) tg js tgf)
  (ht:∀(s:Shared) (H:Hp) (C:Addr) (cl:List (Str×Addr)) (fp:List Addr),PTs (X.blk s H scope (compEnvC scope cl C X.env) fp) ifs (dZ X.K aj WF tt))
  (he:∀(s:Shared) (H:Hp) (C:Addr) (cl:List (Str×Addr)) (fp:List Addr),QE aj (X.blk s H scope (compEnvC scope cl C X.env) fp) WF elt te) (hs:∀x,foldedSetIterable iter X.env x=pure x) :
  SE aj X W q (.Assign [.Name y py] (.ListComp elt [⟨tg,iter,ifs,0⟩] scope cpos) pos) (lW j (oU it tgf (own.map (·.2)) tt te)):=by
 refine PS.weak (ps_setLc (g:=lO X.K aj js tgf) (tt:=dZ X.K aj WF tt) (te:=tQ X.K aj WF te) hc hN hy hyl hsw hi (blkOk_by ok) (λs H C cl fp=>hg s H C cl fp) ht (λs H C cl fp=>he s H C cl fp) hs) λD σ H h=>?_;exact Ie hj σ H _ (N5 D σ H h)
end
def Uy(t:Tr)(c:Tc)(elt tg iter:Expr)(ifs:List Expr)(scope:Scope):Option IF:=
 (t.I c false tg iter).bind λit=>(yZ (c.inn scope) tg).bind λjt=>(Ab t (c.inn scope) ifs).bind λtt=>(t.E (c.inn scope) elt).bind λte=>
  gd (blkC c.N c.sc scope (fQ tg jt.1)&&(tG jt.1 ((fQ tg jt.1).map (·.2))&&!kZ iter)) (some (oU it jt.2 ((fQ tg jt.1).map (·.2)) tt te))
def Aa(t:Tr)(c:Tc)(x:Str)(p:Pos)(elt tg iter:Expr)(ifs:List Expr)(scope:Scope)(cpos:Pos):Option SF:=
 (jT c x).bind λj=>gd (Vl c.sc (.ListComp elt [⟨tg,iter,ifs,0⟩] scope cpos) scope x p || Ut c.sc (.ListComp elt [⟨tg,iter,ifs,0⟩] scope cpos) x p)
  (match c.ml.contains x with
  |true=>(Uy t c elt tg iter ifs scope).bind λf=>some (lW j f)
  |false=>(Ht t c elt tg iter ifs scope).bind λf=>some (aM (au j) (gOf f)))
section
variable{aj:aC}{c:Tc}{X:Cx}{W:WX}{k:Nat}{t:Tr}{q:Bool}
theorem Ml(o:t.Ok)(a:jh aj c X W k){x:Str}{p cpos pos:Pos}{elt tg iter:Expr}{ifs:List Expr}{scope:Scope}{f:SF}(h:Aa t c x p elt tg iter ifs scope cpos=some f):SE aj X W q (.Assign [.Name x p] (.ListComp elt [⟨tg,iter,ifs,0⟩] scope cpos) pos) f:=by
 unfold Aa at h;obtain⟨j,hj,h⟩:=agv.mp h;obtain⟨hsw,h⟩:=aD.mp h;obtain⟨s1,s2,s3⟩:=fP a.toAmb hj;rw[ahj]at hsw;split at h
 .obtain⟨f1,h1,h⟩:=agv.mp h;cases h;unfold Uy at h1;obtain⟨it,h2,h1⟩:=agv.mp h1;obtain⟨⟨js,tf⟩,h3,h1⟩:=agv.mp h1;obtain⟨tt,h4,h1⟩:=agv.mp h1;obtain⟨te,h5,h1⟩:=agv.mp h1;obtain⟨hb,h1⟩:=aD.mp h1;cases h1;simp only[agx,agG]at hb;obtain⟨b1,b2,b3⟩:=hb;rcases hsw with hsw|hsw
  .rw[<-a.hs]at hsw;obtain⟨l1,l2⟩:=yI (l:=pos.line) a.kf hsw;exact Zi a.calm a.nd s1 l1 l2 (o.oi a.toAmb h2) (by rw[a.hN,a.hs];exact b1) (fV b2) (λs H C cl fp=>ji (a.toAmb.inn scope s H C cl fp) h3) (λs H C cl fp=>j8 o (a.toAmb.inn scope s H C cl fp) h4) (λs H C cl fp=>o.oe (a.toAmb.inn scope s H C cl fp) h5) (ig b3)
  .exact N6 a.nd s1 s2 s3 (abL a.calm a.nd (o.oi a.toAmb h2) (by rw[a.hN,a.hs];exact b1) (fV b2) (λs H C cl fp=>ji (a.toAmb.inn scope s H C cl fp) h3) (λs H C cl fp=>j8 o (a.toAmb.inn scope s H C cl fp) h4) (λs H C cl fp=>o.oe (a.toAmb.inn scope s H C cl fp) h5) (ig b3)) (Qc (by rw[a.hs];exact hsw))
 .obtain⟨f1,h1,h⟩:=agv.mp h;cases h;rcases hsw with hsw|hsw
  .rw[<-a.hs]at hsw;obtain⟨l1,l2⟩:=yI (l:=pos.line) a.kf hsw;unfold Ht at h1;obtain⟨it,h2,h1⟩:=agv.mp h1;obtain⟨⟨js,tf⟩,h3,h1⟩:=agv.mp h1;obtain⟨tt,h4,h1⟩:=agv.mp h1;obtain⟨te,h5,h1⟩:=agv.mp h1;obtain⟨hb,h1⟩:=aD.mp h1;cases h1;simp only[agx,agG]at hb;obtain⟨b1,b2,b3⟩:=hb;exact aaZ a.calm a.nd s1 l1 l2 (o.oi a.toAmb h2) (by rw[a.hN,a.hs];exact b1) (fV b2) (λs H C cl fp=>ji (a.toAmb.inn scope s H C cl fp) h3) (λs H C cl fp=>j8 o (a.toAmb.inn scope s H C cl fp) h4) (λs H C cl fp=>o.oe (a.toAmb.inn scope s H C cl fp) h5) (ig b3)
  .exact Ij (Va (Kw o a.toAmb h1)) (Ah a.nd s1 s2 s3) (Qc (l:=pos.line) (by rw[a.hs];exact hsw)) (by with_unfolding_all rfl) (by with_unfolding_all rfl)
end
theorem oE{tg e:Expr}{l:Nat}{env:PySem.Env}(h:pq e=false):swapsWithSole [tg] e l env=pure false:=qI h
theorem W8{x:Str}{p spos:Pos}{i:Expr}{env:PySem.Env}(h:wY i=false):∀v,assign (.Subscript (.Name x p) i spos) env v=(do
   let ov <-holding [v] (eval (.Name x p) env)
   let iv <-holding [v,ov] (eval i env)
   standAt spos
   holding [v,ov,iv] (setItem ov iv v)
   release [v,ov,iv] []):=λv=>by
 cases i<;>first | (with_unfolding_all rfl) | cases h
def MP(t:Tr)(s:Ts)(c:Tc):Expr->Expr->Option SF
 |.Name x p,.ListComp elt [⟨tg,iter,ifs,0⟩] scope cpos=>Aa t c x p elt tg iter ifs scope cpos
 |.Name x _,e=>(jT c x).bind λj=>match c.ml.contains x with
  |true=>(U8 t c e).bind λf=>some (lW j f)
  |false=>gd (!pq e) ((s.G c e).bind λf=>some (aM (au j) f))
 |.Tuple [.Name x _,.Starred (.Name y _) _] _ _,e=>(jT c x).bind λi=>(jT c y).bind λj=>gd (!pq e&&!Ma e) ((s.G c e).bind λf=>some (Dk i j f))
 |.Tuple ts _ _,e=>(DP c ts).bind λjs=>gd (!pq e&&!Ma e) ((s.G c e).bind λf=>some (aM (cO js) f))
 |.Subscript (.Name x _) i _,e=>(oZ c x).bind λj=>gd (c.ml.contains x&&(!pq e&&!wY i)) ((t.E c e).bind λf=>(t.E c i).bind λfi=>some (vA j fi f))
 |_,_=>none
theorem xZ{tg e:Expr}{env:PySem.Env}(h:Ma e=false):swappedStores [tg] e env=pure none:=by cases tg<;>first | rfl | (cases e<;>first | rfl | cases h)
section
variable{aj:aC}{c:Tc}{X:Cx}{W:WX}{k:Nat}{t:Tr}{s:Ts}{q:Bool}
theorem Sh(o:t.Ok)(os:s.Ok q)(a:jh aj c X W k){tg e:Expr}{pos:Pos}{f:SF}(h:MP t s c tg e=some f):SE aj X W q (.Assign [tg] e pos) f:=by
 unfold MP at h;split at h
 .exact Ml o a h
 .obtain⟨j,hj,h⟩:=agv.mp h;obtain⟨s1,s2,s3⟩:=fP a.toAmb hj;split at h
  .obtain⟨f1,h1,h⟩:=agv.mp h;cases h;obtain⟨i1,i2⟩:=Nk o a.toAmb h1;exact N6 a.nd s1 s2 s3 i1 (qI i2)
  .obtain⟨hc,h⟩:=aD.mp h;obtain⟨f1,h1,h⟩:=agv.mp h;cases h;exact Ij (os.og a h1) (Ah a.nd s1 s2 s3) (oE (by simpa using hc)) (by with_unfolding_all rfl) (by with_unfolding_all rfl)
 .obtain⟨i,hi,h⟩:=agv.mp h;obtain⟨j,hj,h⟩:=agv.mp h;obtain⟨hc,h⟩:=aD.mp h;obtain⟨f1,h1,h⟩:=agv.mp h;cases h;simp only[agx,agG]at hc;exact Vq a.calm a.nd (fP a.toAmb hi) (fP a.toAmb hj) (os.og a h1) (oE hc.1) (xZ hc.2)
 .obtain⟨js,hj,h⟩:=agv.mp h;obtain⟨hc,h⟩:=aD.mp h;obtain⟨f1,h1,h⟩:=agv.mp h;cases h;simp only[agx,agG]at hc;exact Ij (os.og a h1) (O5 a.calm a.nd (zL a.toAmb hj)) (oE hc.1) (xZ hc.2) (by with_unfolding_all rfl)
 .obtain⟨j,hj,h⟩:=agv.mp h;obtain⟨hc,h⟩:=aD.mp h;obtain⟨f1,h1,h⟩:=agv.mp h;obtain⟨fi,h2,h⟩:=agv.mp h;cases h;simp only[agx,agG]at hc;obtain⟨s1,s2,s3,s4⟩:=jk a.toAmb hj;exact Wr s1 s2 s3 s4 (o.oe a.toAmb h1) (o.oe a.toAmb h2) (W8 hc.2.2) (oE hc.2.1) (by with_unfolding_all rfl)
 .cases h
end
def KZ(s:Ts)(c:Tc):List Stmt->Option SF
 |[]=>some aP
 |[a]=>s.S c a
 |a::b::r=>(s.S c a).bind λf=>(s.B c (b::r)).bind λg=>some (aF f g)
def Y4(t:Tr)(s:Ts)(c:Tc):Stmt->Option SF
 |.Assign [tg] e _=>MP t s c tg e
 |.Assign [.Name x _,.Name y _] e _=>(jT c x).bind λi=>(jT c y).bind λj=>gd (!Ma e) ((s.G c e).bind λf=>some (M7 i j f))
 |.AugAssign (.Name x _) .Add e _=>(jT c x).bind λj=>(t.E c e).bind λf=>some (Le j f)
 |.Expr (.Call (.Attribute (.Name x _) m apos) [e] [] pos) _=>(oZ c x).bind λj=>gd (m=="append"&&(c.ml.contains x&&(nst e&&(apos.endLine==pos.line)))) ((t.E c e).bind λf=>some (ni j f))
 |.Return (some e) _=>(match t.E c e with
  |some f=>some (aQ f)
  |none=>(s.G c e).bind λf=>some (Mw f))
 |.If d s1 s2 _=>(s.B c s1).bind λf=>(s.B c s2).bind λg=>(t.T c d).bind λtd=>some (bL td f g)
 |.For tg iter body [] _=>(t.I c true tg iter).bind λit=>(yZ c tg).bind λjt=>(s.B c body).bind λf=>gd (!kZ iter) (some (nH it jt.2 f))
 |_=>none
section
variable{aj:aC}{c:Tc}{X:Cx}{W:WX}{k:Nat}{t:Tr}{s:Ts}{q:Bool}
theorem R4(os:s.Ok q)(a:jh aj c X W k){b:List Stmt}{f:SF}(h:KZ s c b=some f):sV aj X W q b f:=by
 unfold KZ at h;split at h
 .cases h;exact Ye
 .exact GZ (os.os a h)
 .obtain⟨f1,h1,h⟩:=agv.mp h;obtain⟨f2,h2,h⟩:=agv.mp h;cases h;exact Xi (os.os a h1) (os.ob a h2)
theorem Y7(o:t.Ok)(os:s.Ok q)(a:jh aj c X W k){st:Stmt}{f:SF}(h:Y4 t s c st=some f):SE aj X W q st f:=by
 unfold Y4 at h;split at h
 .exact Sh o os a h
 .obtain⟨i,hi,h⟩:=agv.mp h;obtain⟨j,hj,h⟩:=agv.mp h;obtain⟨hc,h⟩:=aD.mp h;obtain⟨f1,h1,h⟩:=agv.mp h;cases h;exact Xy a.nd (fP a.toAmb hi) (fP a.toAmb hj) (os.og a h1) (by with_unfolding_all rfl)
 .obtain⟨j,hj,h⟩:=agv.mp h;obtain⟨f1,h1,h⟩:=agv.mp h;cases h;obtain⟨s1,s2,s3⟩:=fP a.toAmb hj;exact aaw a.nd s1 s2 s3 (o.oe a.toAmb h1)
 .obtain⟨j,hj,h⟩:=agv.mp h;obtain⟨hc,h⟩:=aD.mp h;obtain⟨f1,h1,h⟩:=agv.mp h;cases h;simp only[agx]at hc;cases ahB hc.1;obtain⟨s1,s2,s3,s4⟩:=jk a.toAmb hj;exact aaF s1 s2 s3 s4 (o.oe a.toAmb h1) hc.2.2.1 hc.2.2.2
 .split at h
  .next f1 h1=>
   cases h;exact Oa (o.oe a.toAmb h1)
  .obtain⟨f1,h1,h⟩:=agv.mp h;cases h;exact V3 (os.og a h1)
 .obtain⟨f1,h1,h⟩:=agv.mp h;obtain⟨f2,h2,h⟩:=agv.mp h;obtain⟨td,h3,h⟩:=agv.mp h;cases h;exact abP (o.ot a.toAmb h3) (os.ob a h1) (os.ob a h2)
 .obtain⟨it,h1,h⟩:=agv.mp h;obtain⟨⟨js,tf⟩,h2,h⟩:=agv.mp h;obtain⟨f1,h3,h⟩:=agv.mp h;obtain⟨hc,h⟩:=aD.mp h;cases h;exact aaf a.ps a.calm (o.oi a.toAmb h1) (ji a.toAmb h2) (os.ob a h3) (ig (by simpa using hc))
 .cases h
end
abbrev GA:=Mo->Env->aR (List Dat)
def abm(a:GF)(r:GA):GA:=λM ρ=>(a M ρ).bind λd M1=>(r M1 ρ).bind λds M2=>.ok (d::ds) M2
def aa7(m:Mo->List Dat->aR Dat)(as:GA):GF:=λM ρ=>(as M ρ).bind λds M1=>m M1 ds
def Yj(m:Mo->List Dat->Out Dat)(as:GA):GF:=λM ρ=>(as M ρ).bind λds M1=>(m M1 ds).at M1
section
variable{X:Cx}{aj:aC}{W:WX}{q:Bool}{a b e:Expr}{es:List Expr}{pos p:Pos}
variable{x:Str}{k:Nat}{f:Addr}{fd:FuncData}{ps:List Str}
def abG(a:GT):GT:=λM ρ=>(a M ρ).bind λb M1=>.ok (!b) M1
def abD(a b:GT):GT:=λM ρ=>(a M ρ).bind λx M1=>if x=true then b M1 ρ else .ok false M1
def ac0(a b:GT):GT:=λM ρ=>(a M ρ).bind λx M1=>if x=true then .ok true M1 else b M1 ρ
def acB(a:GF):GT:=λM ρ=>(a M ρ).bind λd M1=>(rM d).at M1
end
section
variable{aj:aC}{c:Tc}{X:Cx}{W:WX}{k:Nat}{t:Tr}{s:Ts}{q:Bool}
def xG(t:Tr)(s:Ts)(c:Tc):Expr->Option GF
 |.Call (.Name x _) [] [] _=>(match c.G.lookup x with
  |some (.cls 0 m)=>gd (kJ c.sc x&&!lN x) (some (wB x m aG))
  |_=>none)
 |.Call (.Name x _) (e::es) [] _=>(match c.G.lookup x with
  |some (.fg n m)=>gd (kJ c.sc x&&(!lN x&&decide ((e::es).length=n))) ((pZ t c (e::es)).bind λas=>some (MJ m as))
  |some (.cls n m)=>gd (kJ c.sc x&&(!lN x&&decide ((e::es).length=n))) ((pZ t c (e::es)).bind λas=>some (wB x m as))
  |_=>none)
 |.Call (.Attribute o m apos) es [] pos=>(c.hs.Ms.lookup m).bind λtb=>(t.W c o).bind λfo=>(pZ t c es).bind λas=>
  gd (Zg tb (es.length+1)&&(baseOk o&&(decide (es.length<30)&&(apos.endLine==pos.line)))) (some (xX tb fo as))
 |_=>none
theorem acA(o:t.Ok)(os:s.Ok false)(a:jh aj c X W k){e:Expr}{f:GF}(h:xG t s c e=some f):GE aj X W false e f:=by
 unfold xG at h;split at h
 .split at h
  .next m hl=>
   obtain⟨hb,h⟩:=aD.mp h;cases h;simp only[agx,agG]at hb;exact Xf a.rm (a.gl _ _ hl) (d7 a.toAmb hb.1) (eE hb.2).1
  .cases h
 .split at h
  .next n m hl=>
   obtain⟨hb,h⟩:=aD.mp h;simp only[agx,agG,ahu]at hb;obtain⟨b1,b2,b3⟩:=hb;obtain⟨fa,hm,hk,fd,ps,j,hj,hp,hB,F⟩:=a.gl _ _ hl;obtain⟨as,h1,h⟩:=agv.mp h;cases h;obtain⟨i1,i2,i3⟩:=iZ o a.toAmb h1;exact Xg (a.tw hl rfl) F (a.rm.mono hj) (d7 a.toAmb b1) hm hk hB i1 (b3.trans hp.symm) (eE b2).1 i2 i3
  .next n m hl=>
   obtain⟨hb,h⟩:=aD.mp h;simp only[agx,agG,ahu]at hb;obtain⟨b1,b2,b3⟩:=hb;obtain⟨as,h1,h⟩:=agv.mp h;cases h;obtain⟨i1,i2,i3⟩:=iZ o a.toAmb h1;exact aai a.rm (a.gl _ _ hl) (d7 a.toAmb b1) (eE b2).1 i1 i2 (λM ρ ds z=>by rw[i3 M ρ ds z];exact b3)
  .cases h
 .next b m apos es pos=>
  obtain⟨tb,h1,h⟩:=agv.mp h;obtain⟨fo,h2,h⟩:=agv.mp h;obtain⟨as,h3,h⟩:=agv.mp h;obtain⟨hb,h⟩:=aD.mp h;cases h;simp only[agx,ahu]at hb;obtain⟨b2,b3,b4,b5⟩:=hb;obtain⟨i1,i2,i3⟩:=iZ o a.toAmb h3;cases es with
  |nil=>
   cases h3;exact Tv (a.tm h1) a.rm (Dt a.toAmb h1 b2) (o.ow a.toAmb h2) b3 b5
  |cons e es=>exact Wd (a.tm h1) a.rm (Dt a.toAmb h1 b2) (o.ow a.toAmb h2) i1 i3 b3 i2 b5 b4
 .cases h
theorem sH{e o:Expr}{f:Str}{p:Pos}{l:Nat}{env:PySem.Env}:swapsWith e (some (.Attribute o f p)) l env=pure false:=by cases e<;>rfl
theorem R9{e o:Expr}{i:Expr}{p:Pos}{l:Nat}{env:PySem.Env}:swapsWith e (some (.Subscript o i p)) l env=pure false:=by cases e<;>rfl
theorem Tw{o:Expr}{f:Str}{p spos:Pos}{i:Expr}{env:PySem.Env}(h:wY i=false):∀v,assign (.Subscript (.Attribute o f p) i spos) env v=(do
   let ov <-holding [v] (eval (.Attribute o f p) env)
   let iv <-holding [v,ov] (eval i env)
   standAt spos
   holding [v,ov,iv] (setItem ov iv v)
   release [v,ov,iv] []):=λv=>by
 cases i<;>first | (with_unfolding_all rfl) | cases h
def Y8(t:Tr)(c:Tc)(kx tg iter:Expr)(scope:Scope):Option (Mo->Env->Out (List (Dat×Dat))):=
 (t.I c false tg iter).bind λit=>(yZ (c.inn scope) tg).bind λjt=>(t.E (c.inn scope) kx).bind λte=>
  gd (blkC c.N c.sc scope (fQ tg jt.1)&&(tG jt.1 ((fQ tg jt.1).map (·.2))&&!kZ iter)) (some (Yv it jt.2 ((fQ tg jt.1).map (·.2)) te))
theorem R6(a:Amb aj c X W k):X.A.units+64<cLine:=by have:=a.rm.un;omega
def Ua(t:Tr)(s:Ts)(c:Tc)(o:Expr)(f:Str):Expr->Option SF
 |.Dict [] [] _=>(t.W c o).bind λfo=>(c.hs.df.lookup f).bind λb=>some (Dg c.hs.ft fo f b)
 |.DictComp kx (.Constant (.bool true) _ _) [⟨tg,iter,[],0⟩] scope _=>(t.W c o).bind λfo=>(Y8 t c kx tg iter scope).bind λfe=>some (Di c.hs.ft fo f fe)
 |.List es p=>(t.W c o).bind λfo=>(U8 t c (.List es p)).bind λfe=>some (CT c.hs.ft fo f fe)
 |e=>gd (!pq e) ((t.W c o).bind λfo=>(s.G c e).bind λfe=>some (LC c.hs.ft fo f fe))
theorem WK(ot:t.Ok)(os:s.Ok false)(a:jh aj c X W k){o e:Expr}{f:Str}{p pos:Pos}{sf:SF}(h:Ua t s c o f e=some sf):SE aj X W false (.Assign [.Attribute o f p] e pos) sf:=by
 have hk:=a.hk;unfold Ua at h;split at h
 .obtain⟨fo,h1,h⟩:=agv.mp h;obtain⟨b,h2,h⟩:=agv.mp h;cases h;exact Vr hk.co hk.fk hk.hw (ot.ow a.toAmb h1) sH
 .obtain⟨fo,h1,h⟩:=agv.mp h;obtain⟨fe,h2,h⟩:=agv.mp h;cases h;unfold Y8 at h2;obtain⟨it,i1,h2⟩:=agv.mp h2;obtain⟨⟨js,tf⟩,i2,h2⟩:=agv.mp h2;obtain⟨te,i3,h2⟩:=agv.mp h2;obtain⟨hb,h2⟩:=aD.mp h2;cases h2;simp only[agx,agG]at hb;obtain⟨b1,b2,b3⟩:=hb;exact Xj hk.co hk.fk (ot.ow a.toAmb h1) (aaP (g:=lO X.K aj js tf) (tk:=tQ X.K aj WF te) a.calm a.nd (R6 a.toAmb) (ot.oi a.toAmb i1) (blkOk_by (by rw[a.hN,a.hs];exact b1)) (λs H C cl fp=>ji (a.toAmb.inn _ s H C cl fp) i2) (λs H C cl fp=>ot.oe (a.toAmb.inn _ s H C cl fp) i3) (ig b3)) (λσ H Q z=>abB hk.hw (fV b2) σ H Q z) sH
 .obtain⟨fo,h1,h⟩:=agv.mp h;obtain⟨fe,h2,h⟩:=agv.mp h;cases h;exact VG hk.co hk.fk (ot.ow a.toAmb h1) (Nk ot a.toAmb h2).1 sH
 .obtain⟨hc,h⟩:=aD.mp h;obtain⟨fo,h1,h⟩:=agv.mp h;obtain⟨fe,h2,h⟩:=agv.mp h;cases h;exact X3 hk.co hk.fk (ot.ow a.toAmb h1) (os.og a h2) sH
def DR(n:Str):List Expr->Option (List Str)
 |[]=>some []
 |.Attribute (.Name m _) f _::es=>gd (m==n) ((DR n es).bind λfs=>some (f::fs))
 |_=>none
def Mu(c:Tc)(nm:Option Str):Expr->Option pU
 |.Constant (.str x) _ _=>some (.con (.str x))
 |.Constant .none _ _=>some (.con .none)
 |.Tuple [] _ _=>some (.con (.tuple []))
 |.Attribute (.Name m _) f _=>nm.bind λn=>gd (m==n) (some (.fld f))
 |.Tuple es _ _=>nm.bind λn=>(DR n es).bind λfs=>some (.flds fs)
 |_=>none
def pU.fs:pU->List Str
 |.con _=>[]
 |.fld f=>[f]
 |.flds fs=>fs
def Ld(c:Tc)(nm:Option Str):List Stmt->Option (List (Nat×pU))
 |[]=>some []
 |.Assign [.Name x _] e _::r=>(jT c x).bind λj=>(Mu c nm e).bind λse=>(Ld c nm r).bind λst=>some ((j,se)::st)
 |_=>none
def zF(c:Tc):Option Str->Option (Option Nat)
 |none=>some none
 |some n=>(oZ c n).bind λi=>match c.sc.names.lookup n with
  |some .local=>some (some i)
  |_=>none
def Ur(c:Tc):ExceptHandler->Option Hd
 |.ExceptHandler (some (.Name y _)) nm (s0::su) _=>(c.hs.xm.lookup y).bind λtab=>(zF c nm).bind λi=>(Ld c nm (s0::su)).bind λst=>
  (match c.G.lookup y with
  |some .exc=>some true
  |some (.exi _)=>some true
  |_=>none).bind λ_=>
  gd (kJ c.sc y&&(!lN y&&(st.all (λp=>match i with
   |some j=>!(j==p.1)
   |none=>true)&&st.all (λp=>p.2.fs.all (λf=>((c.hs.xf.lookup y).getD []).contains f)&&decide (p.2.fs.length<=100))))) (some ⟨y,λx=>tab.lookup x,i,st⟩)
 |_=>none
def vG(c:Tc):List ExceptHandler->Option (List Hd)
 |[]=>some []
 |h::hs=>(Ur c h).bind λd=>(vG c hs).bind λds=>some (d::ds)
theorem Ko{y n:Str}{C:Addr}{a:Addr}{oe:Obj}{cls:Value}{d:Option Addr}{pn:List (Addr×Obj)}{j:Nat}{fl:List Str}(hC:aj y=some C)(T:XfC X.K C)(hno:∀f∈fl,PySem.W.findIn X.K (.ref C) f=some none)(hz:Zc cls d oe)(hf:∃vs,oe.data=.fields vs)(hN:X.N[j]?=some n)(hv:Vis X.env.scope n)(hd:(n==("__debug__" : Str))=false)(hcd:(n==("__classdict__" : Str))=false) :
  ∀{es:List Expr} {fs:List Str},DR n es=some fs->(∀f∈fs,f∈fl)->PA (X.suite a ((a,oe)::pn)) es (O6 X.K aj a cls d (some j) λx=>xM y x fs)
 |[],fs,h,_=>by
  cases h;exact Ra
 |.Attribute (.Name m p) f p2::es,fs,h,hs=>by
  rw[DR]at h;obtain⟨hm,h⟩:=aD.mp h;obtain⟨fr,h1,h⟩:=agv.mp h;cases h;cases ahB hm;exact VL (Oo hC T (hno f (hs f agA)) hz hf hN hv hd hcd) (Ko hC T hno hz hf hN hv hd hcd h1 λf hf=>hs f (agz _ hf)) rfl
theorem W6{y:Str}{nm:Option Str}{i:Option Nat}{a:Addr}{oe:Obj}{cls:Value}{d:Option Addr}{pn:List (Addr×Obj)}{e:Expr}{se:pU}(am:Amb aj c X W k)(hi:zF c nm=some i)(hy:(c.hs.xf.lookup y).getD []=fl)(hfl:∀f∈se.fs,f∈fl)(hl:se.fs.length<=100)(hz:Zc cls d oe)(hf:∃vs,oe.data=.fields vs)(h:Mu c nm e=some se) :
  PE (X.suite a ((a,oe)::pn)) e (tU X.K aj a cls d i λx=>Em y x se):=by
 have fld:∀n j,nm=some n->i=some j->X.N[j]?=some n/\Vis X.env.scope n/\(n==("__debug__" : Str))=false/\(n==("__classdict__" : Str))=false:=λn j e1 e2=>by
  subst e1 e2;unfold zF at hi;obtain⟨j',h1,hi⟩:=agv.mp hi;split at hi
  .cases hi;exact jk am h1
  .cases hi
 have hsome:∀n,nm=some n->∃j,i=some j:=λn e1=>by
  subst e1;unfold zF at hi;obtain⟨j',h1,hi⟩:=agv.mp hi;split at hi
  .cases hi;exact⟨_,rfl⟩
  .cases hi
 have hxf:fl≠[]->∃C,aj y=some C/\XfC X.K C/\∀f∈fl,PySem.W.findIn X.K (.ref C) f=some none:=λne=>by
  cases hx:c.hs.xf.lookup y with
  |none=>
   rw[hx]at hy;exact absurd hy.symm ne
  |some l=>
   rw[hx]at hy;cases hy;exact am.hk.xf y _ hx
 unfold Mu at h;split at h
 .cases h;exact Q5 pe_str λσ H Q ⟨g,ρ,M,x,z,I,e,kk⟩=>by
   cases e;exact kk _ H (Ex.refl H) (.str _)
 .cases h;exact Q5 pe_non λσ H Q ⟨g,ρ,M,x,z,I,e,kk⟩=>by
   cases e;exact kk _ H (Ex.refl H) .non
 .cases h;exact PE.weak (Oq (aj:=aj) (cls:=cls) (d:=d) (i:=i) Ra λx zs e=>by cases e;exact agO _) λσ H Q z=>z
 .obtain⟨n,e1,h⟩:=agv.mp h;obtain⟨hm,h⟩:=aD.mp h;cases h;cases ahB hm;obtain⟨j,rfl⟩:=hsome _ e1;obtain⟨f1,f2,f3,f4⟩:=fld _ j e1 rfl;obtain⟨C,c1,c2,c3⟩:=hxf (List.ne_nil_of_mem (hfl _ (agJ.mpr rfl)));exact Oo c1 c2 (c3 _ (hfl _ (agJ.mpr rfl))) hz hf f1 f2 f3 f4
 .next es _ _ hne=>
  obtain⟨n,e1,h⟩:=agv.mp h;obtain⟨fs,e2,h⟩:=agv.mp h;cases h;obtain⟨j,rfl⟩:=hsome _ e1;obtain⟨f1,f2,f3,f4⟩:=fld _ j e1 rfl;have hfs:fs≠[]:=λz=>by
   subst z
   match es,e2 with
   |[],_=>exact hne rfl
   |.Attribute (.Name m _) f _::es,e2=>
    rw[DR]at e2;obtain⟨_,e2⟩:=aD.mp e2;obtain⟨_,_,e2⟩:=agv.mp e2;cases e2
  have hfn:fl≠[]:=by
   cases fs with
   |nil=>exact absurd rfl hfs
   |cons f r=>exact List.ne_nil_of_mem (hfl f agA)
  obtain⟨C,c1,c2,c3⟩:=hxf hfn;exact Oq (Ko c1 c2 c3 hz hf f1 f2 f3 f4 e2 hfl) λx zs e=>by
   have:=BW e;have hl:fs.length<=100:=hl;omega
 .cases h
theorem Ae{y:Str}{nm:Option Str}{i:Option Nat}{a:Addr}{oe:Obj}{cls:Value}{d:Option Addr}{pn:List (Addr×Obj)}{fl:List Str}(am:Amb aj c X W k)(hi:zF c nm=some i)(hy:(c.hs.xf.lookup y).getD []=fl)(hz:Zc cls d oe)(hf:∃vs,oe.data=.fields vs) :
  ∀{ss:List Stmt} {st:List (Nat×pU)},Ld c nm ss=some st->(∀p∈st,(∀f∈p.2.fs,f∈fl)/\p.2.fs.length<=100)->PSs (X.suite a ((a,oe)::pn)) ss (Jv X.K aj a cls d i y st)
 |[],st,h,_=>by
  cases h;exact PSs.weak pss_nil λD σ H z=>ZP z
 |.Assign [.Name x p] e p2::r,st,h,hs=>by
  rw[Ld]at h;obtain⟨j,h1,h⟩:=agv.mp h;obtain⟨se,h2,h⟩:=agv.mp h;obtain⟨st',h3,h⟩:=agv.mp h;cases h;obtain⟨s1,s2,s3⟩:=fP am h1;obtain⟨u1,u2⟩:=hs (j,se) agA;have he:=W6 (a:=a) (pn:=pn) am hi hy u1 u2 hz hf h2;have hne:pq e=false/\swappedStores [.Name x p] e X.env=pure none:=by unfold Mu at h2;split at h2<;>first | exact⟨rfl,rfl⟩ | cases h2
  refine PSs.weak (pss_cons (ps_asg he (pg_name (X:=X.suite a ((a,oe)::pn)) am.nd s1 s2 s3) (oE hne.1) hne.2 (by with_unfolding_all rfl)) (Ae am hi hy hz hf h3 λp hp=>hs p (agz _ hp))) λD σ H z=>?_;exact ZC z λσ' H' z'=>z'
def adz(aj:aC)(K:agw)(h:Hd)(D:Addr):Cl:=⟨.ref D,h.nm,λa cls d=>Jv K aj a cls d h.nm h.y h.st⟩
theorem Fb(am:Amb aj c X W k):∀{hds:List ExceptHandler} {hs:List Hd},vG c hds=some hs->∃ls,oA X hds ls/\qG X.K aj hs ls
 |[],hs,h=>by
  cases h;exact⟨[],.nil,.nil⟩
 |h0::hds,hs,h=>by
  rw[vG]at h;obtain⟨d,h1,h⟩:=agv.mp h;obtain⟨ds,h2,h⟩:=agv.mp h;cases h;obtain⟨ls,i1,i2⟩:=Fb am h2;unfold Ur at h1;split at h1
  .next y np nm s0 su cp=>
   obtain⟨tab,j1,h1⟩:=agv.mp h1;obtain⟨i,j2,h1⟩:=agv.mp h1;obtain⟨st,j3,h1⟩:=agv.mp h1;obtain⟨_,j4,h1⟩:=agv.mp h1;obtain⟨hb,h1⟩:=aD.mp h1;cases h1;simp only[agx,agG]at hb;obtain⟨b1,b2,b3,b4⟩:=hb;obtain⟨⟨D,hD⟩,hx⟩:=am.hk.xm y tab j1;have hm:X.mg y=some (.ref D):=by
    split at j4
    .next hl=>
     obtain⟨C,g1,g2,_⟩:=am.gl y _ hl;rw[hD]at g2;cases g2;exact g1
    .next hl=>
     obtain⟨C,fI,fd,ps,g1,g2,_⟩:=am.gl y _ hl;rw[hD]at g2;cases g2;exact g1
    .cases j4
   have hnames:Names X y (.ref D):=⟨d7 am b1,(eE b2).1,.inl hm⟩;have hst:∀p∈st,(∀f∈p.2.fs,f∈(c.hs.xf.lookup y).getD [])/\p.2.fs.length<=100:=λp hp=>by
    have:=agK.mp b4 p hp;rw[agx,ahu]at this;exact⟨λf hf=>by simpa using agK.mp this.1 f hf,this.2⟩
   have hnj:∀p∈st,i≠some p.1:=λp hp z=>by
    subst z;have:=agK.mp b3 p hp;simp at this
   refine⟨adz aj X.K ⟨y,λx=>tab.lookup x,i,st⟩ D::ls,?_,.cons ⟨⟨D,hD,rfl⟩,hx,rfl,rfl,hnj⟩ i2⟩;cases nm with
   |none=>
    cases j2;exact .one hnames rfl (λa oe cls d pn hz hf=>Ae am rfl rfl hz hf j3 hst) i1
   |some n=>
    have j2':=j2;unfold zF at j2;obtain⟨i',s1,j2⟩:=agv.mp j2;split at j2
    .next hloc=>
     cases j2;refine .as hnames rfl (jk am s1).1 ?_ (λa oe cls d pn hz hf=>Ae am j2' rfl hz hf j3 hst) i1;unfold PySem.Env.kindOf;rw[am.hs];exact hloc
    .cases j2
  .cases h1
theorem RW(a:Amb aj c X W k){h:ExceptHandler}{hds:List ExceptHandler}{hs:List Hd}(z:vG c (h::hds)=some hs):Takes X W:=
 a.tk.elim id λy=>by
  rw[vG]at z;obtain⟨d,h1,_⟩:=agv.mp z;unfold Ur at h1;rw[y.2.2]at h1;split at h1<;>cases h1
theorem jh.tr(a:jh aj c X W k){W':WX}{pn:List (Addr×Obj)}{xe:Value->Shared->Prop}(t:Takes (X.tr pn xe) W')(p:PassesOwn (model X.prog X.w) X.A X.env xe):jh aj c (X.tr pn xe) W' k where
 hN:=a.hN
 hs:=a.hs
 calm:=a.calm
 nd:=a.nd
 tk:=.inl t
 rm:=a.rm
 gl:=a.gl
 bl:=a.bl
 fn:=a.fn
 so:=a.so
 hk:=a.hk
 ps:=p
 st:=a.st
 fr:=a.fr
 kf:=a.kf
def xS(q:Bool)(t:Tr)(s:Ts)(c:Tc):Stmt->Option SF
 |.Raise (some (.Call (.Name x _) [] [] _)) none _=>(match c.G.lookup x with
  |some .exc=>gd (kJ c.sc x&&!lN x) (some (iV x))
  |_=>none)
 |.Raise (some (.Call (.Name x _) (e::es) [] _)) none _=>(match c.G.lookup x with
  |some (.exi fs)=>(pZ t c (e::es)).bind λas=>gd (kJ c.sc x&&(!lN x&&(decide ((e::es).length=fs.length)&&decide (fs.length<=1000)))) (some (vg x fs as))
  |_=>none)
 |.Try body (h::hds) [] [] _=>(s.B c body).bind λf=>(vG c (h::hds)).bind λhs=>some (rG f hs)
 |.Pass _=>some aP
 |.Expr (.Call (.Attribute (.Attribute o f p1) m apos) [e] [] pos) epos=>(match q with
  |true=>(s.G c (.Call (.Attribute (.Attribute o f p1) m apos) [e] [] pos)).bind λf=>some (yt f)
  |false=>match m=="append" with
   |true=>gd (baseOk o&&(nst e&&(apos.endLine==pos.line))) ((t.W c o).bind λfo=>(s.G c e).bind λfe=>some (Du f fo fe))
   |false=>(s.G c (.Call (.Attribute (.Attribute o f p1) m apos) [e] [] pos)).bind λf=>some (yt f))
 |.Expr e _=>gd (!pq e) ((s.G c e).bind λf=>some (yt f))
 |.Assign [.Name x p] (.ListComp elt [⟨tg,iter,ifs,0⟩,⟨tg1,iter1,ifs1,0⟩] scope cpos) _=>(jT c x).bind λj=>
  gd (Vl c.sc (.ListComp elt [⟨tg,iter,ifs,0⟩,⟨tg1,iter1,ifs1,0⟩] scope cpos) scope x p&&!c.ml.contains x) ((zf t c elt tg iter ifs tg1 iter1 ifs1 scope).bind λf=>some (aM (au j) (gOf f)))
 |.Assign [.Attribute o f _] e _=>(match q with
  |true=>none
  |false=>Ua t s c o f e)
 |.Assign [.Subscript (.Attribute o f _) i _] e _=>(match q with
  |true=>none
  |false=>gd (baseOk o&&(!wY i&&!pq e)) ((t.W c o).bind λfo=>(t.E c i).bind λfi=>(t.E c e).bind λfe=>match c.hs.df.lookup f with
   |some _=>some (Dy f fo fi fe)
   |none=>some (CP f fo fi fe)))
 |.AugAssign (.Attribute o f _) .Add e _=>(match q with
  |true=>none
  |false=>(t.W c o).bind λfo=>(t.E c e).bind λfe=>some (CW c.hs.ft f fo fe))
 |.Delete [.Subscript (.Attribute o f _) i _] _=>(match q with
  |true=>none
  |false=>gd (baseOk o) ((t.W c o).bind λfo=>(t.E c i).bind λfi=>some (Dh f fo fi)))
 |_=>none
theorem acd(o:t.Ok)(os:s.Ok q)(a:jh aj c X W k){st:Stmt}{f:SF}(h:xS q t s c st=some f):SE aj X W q st f:=by
 have hk:=a.hk;unfold xS at h;split at h
 .split at h
  .next hl=>
   obtain⟨hb,h⟩:=aD.mp h;cases h;simp only[agx,agG]at hb;exact a.tk.elim (λtk=>Rm a.calm tk (d7 a.toAmb hb.1) (eE hb.2).1 (a.gl _ _ hl)) λz=>Pg a.calm z.1 (d7 a.toAmb hb.1) (eE hb.2).1 (a.gl _ _ hl)
  .cases h
 .split at h
  .next fs hl=>
   obtain⟨as,h1,h⟩:=agv.mp h;obtain⟨hb,h⟩:=aD.mp h;cases h;simp only[agx,agG,ahu]at hb;obtain⟨b1,b2,b3,b4⟩:=hb;obtain⟨i1,i2,i3⟩:=iZ o a.toAmb h1;exact Rb a.calm (a.tw hl rfl) a.rm (d7 a.toAmb b1) (eE b2).1 (a.gl _ _ hl) i1 i2 (λM ρ ds z=>by rw[i3 M ρ ds z];exact b3) b4
  .cases h
 .obtain⟨f1,h1,h⟩:=agv.mp h;obtain⟨hs,h2,h⟩:=agv.mp h;cases h;obtain⟨ls,i1,i2⟩:=Fb a.toAmb h2;exact aan a.st a.fr a.nd (RW a.toAmb h2) (λW' pn xe t p=>os.ob (a.tr t p) h1) i1 i2
 .cases h;exact PS.weak ps_pass λD σ H ⟨g,ρ,M,I,z⟩=>z σ H g .refl I
 .split at h
  .obtain⟨f1,h1,h⟩:=agv.mp h;cases h;exact Ar (os.og a h1) (qI rfl)
  .split at h
   .next hm=>
    obtain⟨hb,h⟩:=aD.mp h;obtain⟨fo,h1,h⟩:=agv.mp h;obtain⟨fe,h2,h⟩:=agv.mp h;cases h;simp only[agx]at hb;cases ahB hm;exact Vs hk.co (o.ow a.toAmb h1) hb.1 (os.og a h2) hb.2.1 hb.2.2
   .obtain⟨f1,h1,h⟩:=agv.mp h;cases h;exact Ar (os.og a h1) (qI rfl)
 .obtain⟨hb,h⟩:=aD.mp h;obtain⟨f1,h1,h⟩:=agv.mp h;cases h;exact Ar (os.og a h1) (qI (by simpa using hb))
 .obtain⟨j,hj,h⟩:=agv.mp h;obtain⟨hsw,h⟩:=aD.mp h;rw[agx]at hsw;obtain⟨f1,h1,h⟩:=agv.mp h;cases h;obtain⟨s1,s2,s3⟩:=fP a.toAmb hj;have hsw:=hsw.1;rw[<-a.hs]at hsw;have l1:=(yI (l:=0) a.kf hsw).1;have l2:=λl=>(yI (l:=l) a.kf hsw).2;clear h;unfold zf at h1;obtain⟨it,g1,h⟩:=agv.mp h1;obtain⟨⟨js,tf⟩,h2,h⟩:=agv.mp h;obtain⟨tt,h3,h⟩:=agv.mp h;obtain⟨it1,h4,h⟩:=agv.mp h;obtain⟨⟨js1,tf1⟩,h5,h⟩:=agv.mp h;obtain⟨tt1,h6,h⟩:=agv.mp h;obtain⟨te,h7,h⟩:=agv.mp h;obtain⟨hb,h⟩:=aD.mp h;cases h;simp only[agx,agG]at hb;obtain⟨b1,b2,b3,b4,b5,b6⟩:=hb;have am:=a.toAmb;exact V1 a.calm a.nd s1 l1 (l2 _) (o.oi am g1) (by rw[a.hN,a.hs];exact b1) (fV b2) (fV b3) (fV b4) (λs H C cl fp=>ji (am.inn _ s H C cl fp) h2) (λs H C cl fp=>j8 o (am.inn _ s H C cl fp) h3) (λs H C cl fp=>o.oi (am.inn _ s H C cl fp) h4) (λs H C cl fp=>ji (am.inn _ s H C cl fp) h5) (λs H C cl fp=>j8 o (am.inn _ s H C cl fp) h6) (λs H C cl fp=>o.oe (am.inn _ s H C cl fp) h7) (ig b5) (λenv=>ig b6)
 .split at h
  .cases h
  .exact WK o os a h
 .split at h
  .cases h
  .obtain⟨hb,h⟩:=aD.mp h;obtain⟨fo,h1,h⟩:=agv.mp h;obtain⟨fi,h2,h⟩:=agv.mp h;obtain⟨fe,h3,h⟩:=agv.mp h;simp only[agx,agG]at hb;obtain⟨b1,b2,b3⟩:=hb;split at h
   .cases h;exact Ww hk.co hk.hw (R6 a.toAmb) (o.ow a.toAmb h1) b1 (o.oe a.toAmb h2) (o.oe a.toAmb h3) R9
   .cases h;exact XM hk.co (o.ow a.toAmb h1) b1 (o.oe a.toAmb h3) (o.oe a.toAmb h2) (Tw b2) (oE b3) (by with_unfolding_all rfl)
 .split at h
  .cases h
  .obtain⟨fo,h1,h⟩:=agv.mp h;obtain⟨fe,h2,h⟩:=agv.mp h;cases h;exact Xw hk.co hk.fk (o.ow a.toAmb h1) (o.oe a.toAmb h2)
 .split at h
  .cases h
  .obtain⟨hb,h⟩:=aD.mp h;obtain⟨fo,h1,h⟩:=agv.mp h;obtain⟨fi,h2,h⟩:=agv.mp h;cases h;exact Wq hk.co hk.hw (R6 a.toAmb) (o.ow a.toAmb h1) hb (o.oe a.toAmb h2)
 .cases h
end
def tr0:Tr:=⟨λ_ _=>none,λ_ _=>none,λ_ _=>none,λ_ _ _ _=>none⟩
def aaD(t:Tr):Tr:=⟨xtE t,xtW t,xtT t,xtI t⟩
def tr:Nat->Tr
 |0=>tr0
 |n+1=>aaD (tr n)
theorem mJ:∀n,(tr n).Ok
 |0=>⟨λ_=>(by intro _ _ h;cases h),λ_=>(by intro _ _ h;cases h),λ_=>(by intro _ _ h;cases h),λ_=>(by intros;rename_i h;cases h)⟩
 |n+1=>⟨λa=>(by intro _ _ h;exact(iQ h).elim (ach (mJ n) a) (abf (mJ n) a)),λa=>(by intro _ _ h;exact(iQ h).elim (abW (mJ n) a) (Z0 (mJ n) a)),λa=>(by intro _ _ h;exact(iQ h).elim (acC (mJ n) a) (Ys (mJ n) a)),λa=>(by intro _ _ _ _ h;exact(iQ h).elim (ab4 (mJ n) a) (Yr (mJ n) a))⟩
def ts0:Ts:=⟨λ_ _=>none,λ_ _=>none,λ_ _=>none,λ_ _=>none⟩
def ldG(q:Bool)(t:Tr)(s:Ts)(c:Tc)(e:Expr):Option GF:=match q with
 |true=>none
 |false=>xG t s c e
def ldH(_:Bool)(_:Tr)(_:Ts)(_:Tc)(_:Expr):Option GT:=none
def YC(q:Bool)(t:Tr)(s:Ts):Ts:=⟨λc e=>els ((t.E c e).bind λf=>some (gOf f)) (ldG q t s c e),λc e=>els ((t.T c e).bind λf=>some (Td f)) (ldH q t s c e),λc e=>els (Y4 t s c e) (xS q t s c e),KZ s⟩
def ts(q:Bool)(t:Tr):Nat->Ts
 |0=>ts0
 |n+1=>YC q t (ts q t n)
theorem uY{t:Tr}(o:t.Ok)(q:Bool):∀n,(ts q t n).Ok q
 |0=>⟨λ_=>(by intro _ _ h;cases h),λ_=>(by intro _ _ h;cases h),λ_=>(by intro _ _ h;cases h),λ_=>(by intros;rename_i h;cases h)⟩
 |n+1=>⟨λa=>by
   intro _ _ h;rcases iQ h with h|h
   .obtain⟨f,h1,h⟩:=agv.mp h;cases h;exact Va (o.oe a.toAmb h1)
   .cases q with
    |true=>cases h
    |false=>exact acA o (uY o false n) a h,λa=>by
   intro _ _ h;rcases iQ h with h|h
   .obtain⟨f,h1,h⟩:=agv.mp h;cases h;exact abE (o.ot a.toAmb h1)
   ·(cases h),λa=>by
   intro _ _ h;rcases iQ h with h|h
   .exact Y7 o (uY o q n) a h
   .exact acd o (uY o q n) a h,λa=>by
   intro _ _ h;exact R4 (uY o q n) a h⟩
def Dm(f:QF)(tk:Str->Option Bool)(x:Str):SF:=λM ρ=>match f M (gJ ρ) with
 |.ok d=>.ret d M
 |.exc e=>(match tk e.cls with
  |some true=>.exc ⟨x,[]⟩ ρ M
  |some false=>.exc e ρ M
  |none=>.bad)
 |.bad=>.bad
def Um(c:Tc):List Stmt->Option SF
 |[.Try [.Return (some (.Call (.Name f _) [.Name v _] [] _)) _] [.ExceptHandler (some (.Name y _)) none [.Raise (some (.Call (.Name x _) [] [] _)) (some (.Constant .none _ _)) _] _] [] [] _]=>
  (oZ c v).bind λj=>(c.hs.xm.lookup y).bind λtab=>match c.G.lookup f,c.G.lookup y,c.G.lookup x with
   |some (.fqN 1 m),some .exc,some .exc=>gd (kJ c.sc f&&(!lN f&&(kJ c.sc y&&(!lN y&&(kJ c.sc x&&!lN x))))) (some (Dm (aN m (ao (aJ j) aG)) (λz=>tab.lookup z) x))
   |_,_,_=>none
 |_=>none
theorem XD{aj:aC}{c:Tc}{X:Cx}{W:WX}{k:Nat}{q:Bool}(a:jh aj c X W k)(tk:Takes X W)(hpa:∀hd:Option Value,PassesOwnAt (model X.prog X.w) (X.A.mark hd) X.A X.env X.xe){b:List Stmt}{f:SF}(h:Um c b=some f):sV aj X W q b f:=by
 unfold Um at h;split at h
 .obtain⟨j,hj,h⟩:=agv.mp h;obtain⟨tab,ht,h⟩:=agv.mp h;split at h
  .next m l1 l2 l3=>
   obtain⟨hb,h⟩:=aD.mp h;cases h;simp only[agx,agG]at hb;obtain⟨b1,b2,b3,b4,b5,b6⟩:=hb;obtain⟨fa,hm,hk,fd,ps,j',hj',hp,hB,F⟩:=a.gl _ _ l1;obtain⟨D,g1,g2,_⟩:=a.gl _ _ l2;obtain⟨C,c1,c2,c3,c4,c5,c6⟩:=a.gl _ _ l3;obtain⟨_,hx⟩:=a.hk.xm _ tab ht;obtain⟨s1,s2,s3,s4⟩:=jk a.toAmb hj;refine GZ (PS.weak (L2H.ps_try_onlyX (c:=.ref D) (tb:=λW'=>tS X.K aj W' q (aQ (aN m (ao (aJ j) aG)))) (ts:=λ_ _ _=>λ_ σ H=>W (.ref C) none σ H) (Wout:=W) a.st a.fr ⟨d7 a.toAmb b3,(eE b4).1,.inl g1⟩ hpa tk (λW' pn xe t1 t2 p=>?_) (λad oe cls d pn hz hf tk2 hot=>?_)) λDd σ H ⟨g,ρ,M,I,z⟩=>?_)
   .refine GZ (Oa (zK (X:=X.tr pn xe) (L2N.passAt t1) F (a.rm.mono hj') (show Gl X _ from d7 a.toAmb b1) hm hk hB (Jk (Qs s1 s2 s3 s4) QD (aH rfl [])) (by rw[hp];rfl) (eE b2).1 rfl λM ρ ds e=>?_));unfold ao aG at e;cases hv:aJ j M ρ with
    |ok d=>rw[hv]at e;cases e;rfl
    |exc y=>rw[hv]at e;cases e
    |bad=>rw[hv]at e;cases e
   .exact pss_one (L2H.ps_raiseHN hot tk2 (Bm PySem.F.excBase_ValueError c3 c1 c4 (raises_own c5 c6) (show Gl X _ from d7 a.toAmb b5) (eE b6).1))
   .refine⟨g,ρ,M,I,?_⟩;unfold Dm at z;unfold aQ;cases hf:aN m (ao (aJ j) aG) M (gJ ρ) with
    |ok d=>rw[hf]at z;exact z
    |bad=>rw[hf]at z;exact aht z
    |exc e=>
     rw[hf]at z;intro σ' H' g' c0 dd r I' rx;obtain⟨C0,q1,q2,q3⟩:=id rx;cases hl:tab.lookup e.cls with
     |none=>
      dsimp only at z
      rw[hl]at z;exact aht z
     |some b=>
      dsimp only at z
      rw[hl]at z;refine⟨b,by rw[q2];exact hx _ _ _ hl q1 D g2,λhb a na=>?_,λhb=>?_⟩
      .subst hb;exact z σ' H' g' (.ref C) none r I' ⟨C,c2,rfl,.inl ⟨rfl,rfl⟩⟩
      .subst hb;exact z σ' H' g' c0 dd r I' rx
  .cases h
 .cases h
def rd0(c:Tc)(b:List Stmt):Option SF:=(ts true (tr 40) 60).B c b
def rd(c:Tc)(b:List Stmt):Option SF:=els (Um c b) (rd0 c b)
def rY(P:Program)(w:World)(K:agw)(mg:Str->Option Value)(base:Heap)(aj:aC)(k:Nat):List (Str×GV)->Prop
 |[]=>True
 |(x,v)::r=>aU P w K mg base aj k x v/\rY P w K mg base aj k r
def rJ(mg:Str->Option Value):List Str->Prop
 |[]=>True
 |x::r=>mg x=none/\rJ mg r
section
variable{P:Program}{w:World}{K:agw}{mg:Str->Option Value}{base:Heap}{aj:aC}{k:Nat}
theorem rY.get:∀{G:List (Str×GV)},rY P w K mg base aj k G->∀x v,G.lookup x=some v->aU P w K mg base aj k x v
 |[],_,x,v,h=>nomatch h
 |(y,u)::r,g,x,v,h=>by
  rw[agQ]at h;split at h
  .next e=>
   cases h;rw[ahB e];exact g.1
  .exact g.2.get x v h
theorem rJ.get:∀{B:List Str},rJ mg B->∀x,x∈B->mg x=none
 |[],_,x,h=>nomatch h
 |y::r,g,x,h=>by
  rcases agI.mp h with rfl|h
  .exact g.1
  .exact g.2.get x h
theorem Qe{qual:Str}{st:Stmt}{f:Addr}{N ps ml B:List Str}{G:List (Str×GV)}{Ms:Hs}(S:FnScope N ps (defScope st))(g:rY P w K mg base aj k G)(b:rJ mg B)(hh:tM P w K mg base aj k Ms)
  (cdv:Value) (A:Around) (outer:List PySem.Env) (s:Shared) (H:Hp) (E:XK) (hr:Room k (A.deeper (envOfC qual (defScope st) s.heap.objs.size f cdv))) :
  jh aj ⟨N,defScope st,G,B,Ms,ml,true⟩ (cxOf (L2.CX P w) P w K mg base N qual (defScope st) f cdv A outer s H E) (Ru E) k where
 hN:=rfl
 hs:=rfl
 calm:=rfl
 nd:=S.nd
 tk:=.inl (takes_of rfl rfl rfl rfl)
 rm:=hr
 gl:=g.get
 bl:=b.get
 fn:=λ_ _=>rfl
 so:=λ_=>⟨rfl,rfl⟩
 hk:=hh
 ps:=passes_of rfl
 st:=rfl
 fr:=rfl
 kf:=S.kind
theorem Ep{x qual:Str}{st:Stmt}{f:Addr}{fd:FuncData}{N ps ml B:List Str}{G:List (Str×GV)}{Ms:Hs}{body:SF}(F:Fun K x qual st f fd)(S:FnScope N ps (defScope st))(g:rY P w K mg base aj k G)(b:rJ mg B)(hh:tM P w K mg base aj k Ms)
  (h:rd ⟨N,defScope st,G,B,Ms,ml,true⟩ (defBody st)=some body):FnOk P w K mg base (L2.CX P w) (k+1) f fd ps (qm K aj ps.length (mQ N.length body)):=
 abg F S λcdv A outer s H E hr=>(iQ h).elim (XD (Qe S g b hh cdv A outer s H E hr) (takes_of rfl rfl rfl rfl) (L2H.passesAt_of rfl)) λh=>(uY (mJ 40) true 60).ob (Qe S g b hh cdv A outer s H E hr) h
theorem Ri{G:List (Str×GV)}(h:(G.all λp=>!p.2.soft)=true):∀x v,G.lookup x=some v->v.soft=false:=λx v hv=>by
 have:=agK.mp h _ (fX hv);simpa using this
theorem V2{qual:Str}{st:Stmt}{f:Addr}{N ps ml B:List Str}{G:List (Str×GV)}(S:FnScope N ps (defScope st))(g:rY P w K mg base aj k G)(b:rJ mg B)(hg:∀x v,G.lookup x=some v->v.soft=false)(hh:tM P w K mg base aj k ⟨[],[],[],[],[]⟩)
  (cdv:Value) (A:Around) (outer:List PySem.Env) (s:Shared) (H:Hp) (E:XK) (hr:Room k (A.deeper (envOfC qual (defScope st) s.heap.objs.size f cdv))) :
  jh aj ⟨N,defScope st,G,B,⟨[],[],[],[],[]⟩,ml,true⟩ (cxOf (L2N.CX P w) P w K mg base N qual (defScope st) f cdv A outer s H E) (Ru E) k where
 hN:=rfl
 hs:=rfl
 calm:=rfl
 nd:=S.nd
 tk:=.inr ⟨L2N.takes_of rfl rfl rfl rfl,hg,rfl⟩
 rm:=hr
 gl:=g.get
 bl:=b.get
 fn:=λ_ _=>rfl
 so:=λ_=>⟨rfl,rfl⟩
 hk:=hh
 ps:=passes_of rfl
 st:=rfl
 fr:=rfl
 kf:=S.kind
theorem aaG{x qual:Str}{st:Stmt}{f:Addr}{fd:FuncData}{N ps ml B:List Str}{G:List (Str×GV)}{body:SF}(F:Fun K x qual st f fd)(S:FnScope N ps (defScope st))(g:rY P w K mg base aj k G)(b:rJ mg B)(hg:∀x v,G.lookup x=some v->v.soft=false)(hh:tM P w K mg base aj k ⟨[],[],[],[],[]⟩)
  (h:(ts true (tr 40) 60).B ⟨N,defScope st,G,B,⟨[],[],[],[],[]⟩,ml,true⟩ (defBody st)=some body):FnOk P w K mg base (L2N.CX P w) (k+1) f fd ps (qm K aj ps.length (mQ N.length body)):=
 abg F S λcdv A outer s H E hr=>(uY (mJ 40) true 60).ob (V2 S g b hg hh cdv A outer s H E hr) h
theorem abH{x:Str}{f:Addr}{fd:FuncData}{ps:List Str}{j:Nat}{m:Mo->List Dat->Out Dat}(hj:j<=k)(hg:mg x=some (.ref f))(hk:PySem.W.keepIn K (.ref f)=true)(hB:Binds K fd ps [])(F:FnOk P w K mg base (L2N.CX P w) j f fd ps (qm K aj ps.length m)):aU P w K mg base aj k x (.fqN ps.length m):=
 ⟨f,hg,hk,fd,ps,j,hj,rfl,hB,F⟩
theorem Vx(hw:aj.w=w)(co:dJ K aj):tM P w K mg base aj k ⟨[],[],[],[],[]⟩:=⟨λm tb h=>(nomatch h),λc f h=>(nomatch h),co,hw,λy tab h=>(nomatch h),λy fs h=>(nomatch h)⟩
theorem Y5{f:Addr}{fd:FuncData}{ps:List Str}{j:Nat}:FnOk P w K mg base (L2.CX P w) j f fd ps (qm K aj ps.length λ_ _=>.bad):=
 ⟨λvs H Q E h=>h.1,λA outer s H args us vs Q E _ _ _ _ h=>by
  obtain⟨_,g,M,ds,_,_,_,z⟩:=h;exact aht z⟩
theorem Rq{x:Str}{f:Addr}{fd:FuncData}{ps:List Str}{j:Nat}{m:Mo->List Dat->Out Dat}(hj:j<=k)(hg:mg x=some (.ref f))(hk:PySem.W.keepIn K (.ref f)=true)(hB:Binds K fd ps [])(F:FnOk P w K mg base (L2.CX P w) j f fd ps (qm K aj ps.length m)):aU P w K mg base aj k x (.fq ps.length m):=
 ⟨f,hg,hk,fd,ps,j,hj,rfl,hB,F⟩
theorem DN{x:Str}{i:Int}{t:Tok}(h:mg x=some (.int i t)):aU P w K mg base aj k x (.con (.int i)):=⟨.int i,_,h,⟨t,rfl⟩,λ_ _=>.int i,λ_ _ z=>nomatch z⟩
theorem HW{x z:Str}{t:Tok}(h:mg x=some (.str z t)):aU P w K mg base aj k x (.con (.str z)):=⟨.str z,_,h,⟨t,rfl⟩,λ_ _=>.str z,λ_ _ z=>nomatch z⟩
theorem Bb{g:Gh}{H:Hp}:∀{vs:List V} {ds:List Dat},(vs.zip ds).all (λp=>match p with
  |(.int i,.int j)=>decide (i=j)
  |(.str x,.str y)=>decide (x=y)
  |_=>false)=true->vs.length=ds.length->aq K g H vs ds
 |[],[],_,_=>.nil
 |[],_::_,_,h=>nomatch h
 |_::_,[],_,h=>nomatch h
 |v::vs,d::ds,h,hl=>by
  rw[ag6,ag7,agx]at h;refine .cons ?_ (Bb h.2 (ahp hl));have h1:=h.1;split at h1
  .next e=>cases e;cases ahv h1;exact .int _
  .next e=>cases e;cases ahv h1;exact .str _
  .cases h1
theorem W0{a:Addr}(h:Ea K a=true):∃o,K.lookup a=some o/\o.cls=.type "tuple"/\o.dict=none:=by
 unfold Ea at h;split at h
 .next o e=>
  rw[agx]at h;refine⟨o,e,?_,Option.isNone_iff_eq_none.mp h.2⟩;have h1:=h.1;split at h1
  .next c ec=>rw[ec,ahv h1]
  .cases h1
 .cases h
theorem NT{x:Str}{a:Addr}{vs:List V}{ds:List Dat}(h:mg x=some (.ref a))(q:∀H:Hp,SqT K H a vs)(hf:(vs.zip ds).all (λp=>match p with
  |(.int i,.int j)=>decide (i=j)
  |(.str x,.str y)=>decide (x=y)
  |_=>false)=true) (hl:vs.length=ds.length) (hn:Ea K a=true):aU P w K mg base aj k x (.con (.tuple ds)):=⟨.ref a,_,h,rfl,λ_ H=>.tup (q H) (Bb hf hl),λb _ e _=>by cases e;exact W0 hn⟩
end
open PySem PySem.Spec PyProof.Rows L2
section
variable{fa:List He.Fa}{fn:List He.DefD}{tb:List He.Tab}{ex:agw->Bool}{w:World}{K:agw}
theorem vD.Ho(c:vD fa fn tb ex w K)(i:Nat){f:He.Fa}(h:fa[i]?=some f:=by rfl):f.ok K=true:=c.t.d.fact i h
theorem vD.Vi(c:vD fa fn tb ex w K)(i:Nat){d:He.DefD}(h:fn[i]?=some d:=by rfl):∃fd,FunD K d.name d.qual d.params d.body d.scope (d.dvs K) (d.kws K) (He.fAd K d.at_) fd:=c.t.d.def_ i h
theorem CV{x qual:Str}{st:Stmt}{f:Addr}{fd:FuncData}(F:FunD K x qual (defArgs st) (defBody st) (defScope st) [] [] f fd):L2.Fun K x qual st f fd:=by
 obtain⟨oc,od,dV,kV,doc,pm,an,cdv,ct,osl,e,l,c,hd,_⟩:=F.ex;rcases hd with⟨_,z⟩|⟨z,_⟩
 .cases z;exact⟨⟨oc,od,kV,doc,pm,an,cdv,ct,osl,e,l,c⟩,F.kp⟩
 .exact absurd rfl z
end
def g0:Gh:=⟨[],λ_=>none,λ_=>False,λ_=>False,True⟩
theorem Zj(a:Addr):¬g0.A a:=λz=>by
 rcases z with(z|z)|z|z
 .cases z
 .exact z rfl
 .exact z
 .exact z
theorem abV{H:Hp}:Kd g0 H:=⟨λa z=>absurd z (Zj a),λa z=>aht z,λa z=>aht z⟩
theorem Zq{K:agw}{aj:aC}{H:Hp}(nc:aj ""=none):cM K aj g0 H []:=⟨rfl,λh k a e=>(by cases h<;>cases e),λh a i e=>(by cases h<;>cases e),λh i e=>(by cases h<;>cases e),λh i e=>(by cases h<;>cases e),λh a i e=>(by cases h<;>cases e),λh i e=>(by cases h<;>cases e),nc⟩
theorem Bh{K:agw}{g:Gh}{H:Hp}:∀ns:List Int,aq K g H (ns.map V.int) (ns.map PyData.int)
 |[]=>.nil
 |n::ns=>.cons (.int n) (Bh ns)
theorem YJ{K:agw}{H:Hp}{a:Addr}{ns:List Int}(hS:SqL K H a (ns.map V.int)):aq K g0 H [.ref a] [.list (ns.map PyData.int)]:=by
 refine .cons (.lst ?_ (Bh ns)) .nil;rcases hS with h|h
 .exact .inr ⟨ahs,.inl ⟨h,Zj a⟩⟩
 .exact .inr ⟨ahs,.inr h⟩
theorem aco{K:agw}{aj:aC}(nc:aj ""=none){m:Mo->List Dat->Out Dat}{H:Hp}{a:Addr}{ns:List Int}(hS:SqL K H a (ns.map V.int))(h:m [] [.list (ns.map PyData.int)]=.ok (.bool true)):qm K aj 1 m [.ref a] H (λv _=>v=.bl true) λ_ _ _=>False:=
 ⟨rfl,g0,[],[.list (ns.map PyData.int)],abV,Zq nc,YJ hS,by
  rw[h];exact λv H' _ r=>by cases r;rfl⟩
section
variable{K:agw}{h:Heap}{mg:Str->Option Value}{w:World}
def mH(w:World)(K:agw)(xs:List Str)(ft:Ft):aC:=⟨λx=>match xs.contains x with
 |true=>some (He.ga K x)
 |false=>none,λc=>(ft.lookup c).getD [],w⟩
theorem wg{xs:List Str}{ft:Ft}{x:Str}{C:Addr}(e:mH w K xs ft x=some C):C=He.ga K x:=by
 have e:(match xs.contains x with
  |true=>some (He.ga K x)
  |false=>none)=some C:=e
 split at e
 .exact(ag0 e).symm
 .cases e
theorem Gi{xs:List Str}{ft:Ft}{x:Str}(e:xs.contains x=true):mH w K xs ft x=some (He.ga K x):=by
 show(match xs.contains x with
  |true=>some (He.ga K x)
  |false=>none)=_
 rw[e]
theorem Ik{ft:Ft}(hb:uw K ft=true){c:Str}{fs:List Str}(hl:ft.lookup c=some fs):Cls K (He.ga K c)/\∀f∈fs,NoAttr K (He.ga K c) f:=by obtain⟨h1,h2⟩:=He.ba (agK.mp hb _ (fX hl));exact⟨He.cls_ok h1,λf hf=>He.noat_ok (agK.mp h2 f hf)⟩
theorem NZ{xs:List Str}{ft:Ft}(hb:uw K ft=true):dJ K (mH w K xs ft):=λc C f e hf=>by
 have e:=wg e;subst e;have hf:f∈(ft.lookup c).getD []:=hf;cases hl:ft.lookup c with
 |none=>rw[hl]at hf;cases hf
 |some fs=>
  rw[hl]at hf;obtain⟨h1,h2⟩:=Ik hb hl;exact⟨h1,h2 f hf⟩
theorem RB{xs:List Str}{ft:Ft}:uQ ft (mH w K xs ft):=λc f e=>by
 unfold Ft.has at e;show f∈(ft.lookup c).getD [];split at e
 .next fs hl=>
  rw[hl];simpa using e
 .cases e
def xmN(xs:List Str)(xm:List (Str×List (Str×Bool))):Bool:=xm.all λp=>xs.contains p.1
theorem aby{xs:List Str}{ft:Ft}{xm:List (Str×List (Str×Bool))}(hb:xmB K xm=true)(hn:xmN xs xm=true)(y:Str)(tab:List (Str×Bool))(hl:xm.lookup y=some tab):(∃D,mH w K xs ft y=some D)/\Lf K (mH w K xs ft) y λx=>tab.lookup x:=by refine⟨⟨_,Gi (agK.mp hn _ (fX hl))⟩,λx b C e1 e2 D e3=>?_⟩;rw[wg e2,wg e3];exact He.exm_ok (agK.mp (agK.mp hb _ (fX hl)) _ (fX e1))
theorem Xq{C:Addr}(hb:aaj K C=true):OexC K C:=by
 obtain⟨h1,h2⟩:=He.ba hb;obtain⟨h2,h3⟩:=He.ba h2;obtain⟨h3,h4⟩:=He.ba h3;obtain⟨h4,h5⟩:=He.ba h4;refine⟨?_,He.eqO_ok h2,ahv h3,ahv h4,h5⟩;split at h1
 .next t dd cd sl hl=>
  obtain⟨t1,h1⟩:=He.ba h1;split at h1
  .next C' bm k0 k1 k2 k3 n k5 e1 e2=>
   obtain⟨a1,h1⟩:=He.ba h1;obtain⟨a2,h1⟩:=He.ba h1;obtain⟨a3,h1⟩:=He.ba h1;obtain⟨a4,a5⟩:=He.ba h1;have q1:=ahv t1;have q2:=ahv a1;have q3:=ahv a2;have q4:cd.hasDel=false:=by simpa using a3
   have q5:sl=#[k0,k1,k2,k3,some (.builtin n),k5]:=by rw[<-Array.toList_inj];exact e2
   obtain⟨nm,bs,mro,ns,qn,hd,sn,sub,ab,col,hdel⟩:=cd;have e1:mro=.ref C'::bm:=e1;have q4:hdel=false:=q4;have a4:hd=true:=a4;subst q1 q2 q3 q4 q5 e1 a4;exact⟨nm,qn,ns,bs,bm,sn,sub,ab,col,dd,k0,k1,k2,k3,k5,hl,a5⟩
  .cases h1
 .cases h1
theorem W9{x:Str}{fs:List Str}(hb:KN K x fs=true):OexC K (He.ga K x)/\PySem.W.findIn K (.ref (He.ga K x)) "__init__"=some (some (.ref (He.ma K (He.ga K x) "__init__")))/\PySem.W.typeIn K (.ref (He.ma K (He.ga K x) "__init__"))=some (.type "function")/\XfC K (He.ga K x)/\∀f∈fs,PySem.W.findIn K (.ref (He.ga K x)) f=some none:=by obtain⟨h1,h2⟩:=He.ba hb;obtain⟨h2,h3⟩:=He.ba h2;obtain⟨h3,h4⟩:=He.ba h3;obtain⟨h4,h5⟩:=He.ba h4;exact⟨Xq h1,He.eqO_ok h2,ahv h3,xfB_ok h4,λf hf=>He.eqO_ok (agK.mp h5 f hf)⟩
theorem RD{a:Addr}{xs:List Str}(hb:Ds K a xs=true)(H:Hp):SqT K H a (xs.map V.str):=by
 unfold Ds at hb;split at hb
 .next c d its n sl hl=>
  obtain⟨h1,h2⟩:=He.ba hb;obtain⟨h3,h4⟩:=He.ba h2;have q1:=ahv h1;subst q1;exact .inr ⟨_,its,n,hl,rfl,rfl,ahv h3,He.relAll_ok h4⟩
 .cases hb
def fB(kvs:List (Str×List Str)):List (Str×Dat):=kvs.map λq=>(q.1,.tuple (q.2.map PyData.str))
theorem Ce{g:Gh}{H:Hp}:∀xs:List Str,aq K g H (xs.map V.str) (xs.map PyData.str)
 |[]=>.nil
 |x::xs=>.cons (.str x) (Ce xs)
theorem xV{y:Str}:∀{kvs:List (Str×List Str)},(fB kvs).lookup y=(kvs.lookup y).map λxs=>PyData.tuple (xs.map PyData.str)
 |[]=>rfl
 |(z,xs)::r=>by
  show List.lookup y ((z,PyData.tuple (xs.map PyData.str))::fB r)=_;rw[agQ,agQ];split
  .rfl
  .exact xV
theorem look_none{α:Type}{y:Str}:∀{kvs:List (Str×α)},kvs.lookup y=none->y∉kvs.map (·.1)
 |[],_=>by simp
 |(z,a)::r,h=>by
  rw[agQ]at h;split at h
  .cases h
  .next hn=>
   rw[agy,agI]
   rintro(e|e)
   .subst e;simp at hn
   .exact look_none h e
theorem Wy{x:Str}{kvs:List (Str×List Str)}(hb:RQ K x kvs=true)(hk:∃es n,KDict K w (He.ga K x) es n):Mh w K (He.ga K x) (fB kvs):=by
 obtain⟨h1,h2⟩:=He.ba hb;obtain⟨h2,h3⟩:=He.ba h2;obtain⟨es,n,D⟩:=hk;rw[D.at_]at h1;refine⟨es,n,D,?_,λy=>?_⟩
 .unfold fB;rw[agW];exact ahv h2
 .rw[xV];cases hl:kvs.lookup y with
  |some xs=>
   have h4:=agK.mp h3 _ (fX hl);show ∃v u,PySem.W.nsIn K (He.ga K x) y=some (some u)/\RelV v u/\∀g H,Rep K g H v (.tuple (xs.map PyData.str));have h4:(match PySem.W.nsIn K (He.ga K x) y with
    |some (some (.ref a))=>Ds K a xs
    |_=>false)=true:=h4
   split at h4
   .next a he=>exact⟨.ref a,.ref a,he,rfl,λg H=>.tup (RD h4 H) (Ce xs)⟩
   .cases h4
  |none=>
   show PySem.W.nsIn K (He.ga K x) y=some none;have ny:=look_none hl;unfold PySem.W.nsIn;rw[D.at_];have h1:es.toList.all (λe=>(match e.key with
    |.str y _=>(kvs.map (·.1)).contains y
    |_=>false)&&!e.refKey)=true:=h1
   have f1:es.toList.find? (·.key.isStr y)=none:=by
    rw[List.find?_eq_none];intro e he z;obtain⟨a1,a2⟩:=He.ba (agK.mp h1 e he);split at a1
    .next y' tk hy=>
     rw[hy]at z;have z:(y'==y)=true:=z;have e':=ahB z;subst e';exact ny (by simpa using a1)
    .cases a1
   have f2:es.toList.any (·.refKey)=false:=by rw[List.any_eq_false];intro e he z;obtain⟨a1,a2⟩:=He.ba (agK.mp h1 e he);rw[z]at a2;cases a2
   show(match es.toList.find? (·.key.isStr y) with
    |some e=>some (some e.val)
    |none=>if es.toList.any (·.refKey) then none else some none)=some none
   rw[f1,f2];rfl
end
section
variable{P:Program}{w:World}{K:agw}{mg:Str->Option Value}{base:Heap}{k:Nat}{xs:List Str}{ft:Ft}
def Dj(P:Program)(w:World)(K:agw)(mg:Str->Option Value)(base:Heap)(aj:aC)(k:Nat)(m:Str):List (Str×MV)->Prop
 |[]=>True
 |(c,v)::r=>GD P w K mg base aj k c m v/\Dj P w K mg base aj k m r
def z9(P:Program)(w:World)(K:agw)(mg:Str->Option Value)(base:Heap)(aj:aC)(k:Nat):List (Str×List (Str×MV))->Prop
 |[]=>True
 |(m,tb)::r=>Dj P w K mg base aj k m tb/\z9 P w K mg base aj k r
theorem Dj.get{aj:aC}{m:Str}:∀{tb:List (Str×MV)},Dj P w K mg base aj k m tb->∀c v,tb.lookup c=some v->GD P w K mg base aj k c m v
 |[],_,c,v,h=>nomatch h
 |(y,u)::r,g,c,v,h=>by
  rw[agQ]at h;split at h
  .next e=>
   cases h;rw[ahB e];exact g.1
  .exact g.2.get c v h
theorem z9.get{aj:aC}:∀{Ms:List (Str×List (Str×MV))},z9 P w K mg base aj k Ms->∀m tb,Ms.lookup m=some tb->∀c v,tb.lookup c=some v->GD P w K mg base aj k c m v
 |[],_,m,tb,h=>nomatch h
 |(y,u)::r,g,m,tb,h=>by
  rw[agQ]at h;split at h
  .next e=>
   cases h;rw[ahB e];exact g.1.get
  .exact g.2.get m tb h
theorem FW{x:Str}(hn:xs.contains x=true)(hg:mg x=some (.ref (He.ga K x)))(he:(He.Fa.exc x).ok K=true):aU P w K mg base (mH w K xs ft) k x .exc:=by obtain⟨h1,h2,h3,h4⟩:=He.exc_ok he;exact⟨_,hg,Gi hn,h1,h2,h3,h4⟩
theorem abk{aj:aC}{x:Str}{kvs:List (Str×List Str)}(hg:mg x=some (.ref (He.ga K x)))(hb:RQ K x kvs=true)(hk:∃es n,KDict K w (He.ga K x) es n):aU P w K mg base aj k x (.dic (fB kvs)):=⟨_,hg,Wy hb hk⟩
theorem ab7{Ms:List (Str×List (Str×MV))}{xm:List (Str×List (Str×Bool))}{df:List (Str×Bool)}{xf:List (Str×List Str)}(hm:z9 P w K mg base (mH w K xs ft) k Ms)(hb:uw K ft=true)(hx:xmB K xm=true)(hn:xmN xs xm=true)(hf:(xf.all λp=>xs.contains p.1&&KN K p.1 p.2)=true):tM P w K mg base (mH w K xs ft) k ⟨Ms,ft,xm,df,xf⟩ where
 ms:=hm.get
 fk:=RB
 co:=NZ hb
 hw:=rfl
 xm:=aby hx hn
 xf:=λy fs hl=>by
  obtain⟨h1,h2⟩:=He.ba (agK.mp hf _ (fX hl));obtain⟨_,_,_,h3,h4⟩:=W9 h2;exact⟨_,Gi h1,h3,h4⟩
end
abbrev lI(l:List Int):Dat:=.list (l.map PyData.int)
abbrev gQ(l:List Int):Dat:=.tuple (l.map PyData.int)
theorem fZ{tg:bT}{body:SF}{d:Dat}{ds:List Dat}{M M2:Mo}{ρ Z1 Z2:Env}(h1:tg d ρ=some Z1)(h2:body M Z1=.next Z2 M2):bZ tg body (d::ds) M ρ=bZ tg body ds M2 Z2:=by
 rw[bZ,h1]
 show(match body M Z1 with
   |.next Z2 M2=>bZ tg body ds M2 Z2
   |.cont Z2 M2=>bZ tg body ds M2 Z2
   |.brk Z2 M2=>.next Z2 M2
   |.ret d M2=>.ret d M2
   |.exc x Z2 M2=>.exc x Z2 M2
   |.bad=>.bad)=_
 rw[h2]
theorem uR{α:Type}{tg:bT}{tt:QT}{te:QF}{M:Mo}{ρ:Env}(ds:α->Dat)(p:α->Bool)(f:α->Dat):∀(xs:List α),(∀x∈xs,∃Z1,tg (ds x) ρ=some Z1/\tt M Z1=.ok (p x)/\(p x=true->te M Z1=.ok (f x)))->bx tg tt te M ρ (xs.map ds)=.ok ((xs.filter p).map f)
 |[],_=>rfl
 |x::xs,h=>by
  obtain⟨Z1,h1,h2,h3⟩:=h x agA;have ih:=uR ds p f xs λy hy=>h y (agz _ hy);rw[agy,bx,h1]
  show((mX (tt M Z1)).bind λb=>if b=true then(mX (te M Z1)).bind λy=>(bx tg tt te M ρ (xs.map ds)).bind λr=>.ok (y::r) else bx tg tt te M ρ (xs.map ds))=_
  rw[h2,ih];cases hp:p x with
  |true=>
   show(if true=true then(mX (te M Z1)).bind λy=>(Out.ok ((xs.filter p).map f)).bind λr=>.ok (y::r) else Out.ok ((xs.filter p).map f))=_
   rw[h3 hp,ahy rfl,List.filter_cons_of_pos hp];rfl
  |false=>
   show(if false=true then(mX (te M Z1)).bind λy=>(Out.ok ((xs.filter p).map f)).bind λr=>.ok (y::r) else Out.ok ((xs.filter p).map f))=_
   rw[ahz (by decide),List.filter_cons_of_neg (by rw[hp];decide)]
theorem iD{α:Type}{tg:bT}{te:QF}{M:Mo}{ρ:Env}(ds:α->Dat)(f:α->Dat)(xs:List α)(h:∀x∈xs,∃Z1,tg (ds x) ρ=some Z1/\te M Z1=.ok (f x)):bx tg jD te M ρ (xs.map ds)=.ok (xs.map f):=by
 have:=uR (tt:=jD) ds (λ_=>true) f xs λx hx=>by
  obtain⟨Z1,h1,h2⟩:=h x hx;exact⟨Z1,h1,rfl,λ_=>h2⟩
 rw[this,List.filter_eq_self.mpr (λ_ _=>rfl)]
theorem abv{i j:Int}(h : -(2^64)<i/\i<2^64):decide (CMul i j)=true:=decide_eq_true (.inl h)
theorem mul_r{i j:Int}(h : -(2^64)<j/\j<2^64):decide (CMul i j)=true:=decide_eq_true (.inr h)
section
variable(M:Mo)(ρ:Env)
@[simp]theorem QS (f k:SF):aF f k M ρ=match f M ρ with
 |.next Z' M'=>k M' Z'
 |o=>o:=rfl
@[simp]theorem adT:aP M ρ=.next ρ M:=rfl
@[simp]theorem Yg (tg:bT) (f:GF):aM tg f M ρ=(f M ρ).then ρ λd M'=>match tg d ρ with
 |some Z'=>.next Z' M'
 |none=>.bad:=rfl
@[simp]theorem aew (i j:Nat) (f:GF):M7 i j f M ρ=(f M ρ).then ρ λd M'=>.next ((ρ.set i (some (.dat d))).set j (some (.dat d))) M':=rfl
@[simp]theorem aee (f:QF) (tk:Str->Option Bool) (x:Str):Dm f tk x M ρ=match f M (gJ ρ) with
 |.ok d=>.ret d M
 |.exc e=>(match tk e.cls with
  |some true=>.exc ⟨x,[]⟩ ρ M
  |some false=>.exc e ρ M
  |none=>.bad)
 |.bad=>.bad:=rfl
@[simp]theorem ev_if (t:QT) (f k:SF):bL t f k M ρ=((t M (gJ ρ)).at M).then ρ λc M'=>if c=true then f M' ρ else k M' ρ:=rfl
@[simp]theorem ae9 (f:QF):aQ f M ρ=((f M (gJ ρ)).at M).then ρ λd M'=>.ret d M':=rfl
@[simp]theorem afD (it:IF) (tg:bT) (body:SF):nH it tg body M ρ=((it M ρ).at M).then ρ λds M'=>bZ tg body ds M' ρ:=rfl
@[simp]theorem afA (j:Nat) (f:IF):lW j f M ρ=((f M ρ).at M).then ρ λxs M'=>.next (ρ.set j (some (.mut xs))) M':=rfl
@[simp]theorem aeB (f:GF):yt f M ρ=(f M ρ).then ρ λ_ M'=>.next ρ M':=rfl
@[simp]theorem afl (j:Nat) (f:QF):ni j f M ρ=match ρ[j]? with
 |some (some (.mut xs))=>((f M ρ).at M).then ρ λd M'=>if xs.length<100000 then .next (ρ.set j (some (.mut (xs++[d])))) M' else .bad
 |_=>.bad:=rfl
@[simp]theorem ad5 (j:Nat) (fi f:QF):vA j fi f M ρ=match ρ[j]? with
 |some (some (.mut xs))=>((f M ρ).at M).then ρ λd M'=>((fi M' ρ).at M').then ρ λi M2=>match i with
  |.int k=>match ixN xs.length k with
   |some n=>.next (ρ.set j (some (.mut (xs.set n d)))) M2
   |none=>.bad
  |_=>.bad
 |_=>.bad:=rfl
@[simp]theorem aeK (j:Nat) (f:QF):Le j f M ρ=match ρ[j]? with
 |some (some (.dat (.int i)))=>((f M ρ).at M).then ρ λd M'=>match d with
  |.int k=>.next (ρ.set j (some (.dat (.int (i+k))))) M'
  |_=>.bad
 |_=>.bad:=rfl
@[simp]theorem adX (i j:Nat) (f:GF):Dk i j f M ρ=(f M ρ).then ρ λd M'=>match d with
 |.list (d0::ds)=>if ds.length<=16000 then .next ((ρ.set i (some (.dat d0))).set j (some (.dat (.list ds)))) M' else .bad
 |.tuple (d0::ds)=>if ds.length<=16000 then .next ((ρ.set i (some (.dat d0))).set j (some (.dat (.list ds)))) M' else .bad
 |_=>.bad:=rfl
@[simp]theorem agc (js:List Nat) (as:QA):sPN js as M ρ=((as M ρ).at M).then ρ λds M'=>match jA js ds ρ with
 |some Z'=>.next Z' M'
 |none=>.bad:=rfl
@[simp]theorem Zh (f:QF):gOf f M ρ=(f M ρ).at M:=rfl
@[simp]theorem ev_op (o:Dat->Dat->Out Dat) (a b:QF):aA o a b M ρ=(a M ρ).bind λx=>(b M ρ).bind λy=>o x y:=rfl
@[simp]theorem ev_un (o:Dat->Out Dat) (a:QF):bR o a M ρ=(a M ρ).bind o:=rfl
@[simp]theorem ev_c (d:Dat):qC d M ρ=.ok d:=rfl
@[simp]theorem ev_var (i:Nat):aJ i M ρ=match ρ[i]? with
 |some (some (.dat d))=>.ok d
 |_=>.bad:=rfl
@[simp]theorem aei (i:Nat):ak i M ρ=match ρ[i]? with
 |some (some (.dat d))=>.ok d
 |some (some (.mut xs))=>.ok (.list xs)
 |_=>.bad:=rfl
@[simp]theorem afV:aG M ρ=.ok []:=rfl
@[simp]theorem adY (a:QF) (r:QA):ao a r M ρ=(a M ρ).bind λx=>(r M ρ).bind λxs=>.ok (x::xs):=rfl
@[simp]theorem aeZ (r:QA):uN r M ρ=(r M ρ).bind λxs=>Out.when (decide (xs.length<=100000)) (.ok (.tuple xs)):=rfl
@[simp]theorem aal (r:QA):lF r M ρ=(r M ρ).bind λxs=>Out.when (decide (xs.length<=100000)) (.ok (.list xs)):=rfl
@[simp]theorem afo (a:QF):mj a M ρ=(a M ρ).bind rM:=rfl
@[simp]theorem aga (a:QF):aY a M ρ=(a M ρ).bind nO:=rfl
@[simp]theorem aer (a:QT):nR a M ρ=(a M ρ).bind λb=>.ok (!b):=rfl
@[simp]theorem aeC (a b:QT):jV a b M ρ=(a M ρ).bind λx=>if x=true then b M ρ else .ok false:=rfl
@[simp]theorem afM (a b:QT):lg a b M ρ=(a M ρ).bind λx=>if x=true then .ok true else b M ρ:=rfl
@[simp]theorem agl (a:QT):FP a M ρ=(a M ρ).bind λb=>.ok (.bool b):=rfl
@[simp]theorem afP (t:QT) (a b:QF):Np t a b M ρ=(t M ρ).bind λx=>if x=true then a M ρ else b M ρ:=rfl
@[simp]theorem ev_is (neg:Bool) (c:Dat) (a:QF):qQ neg c a M ρ=(a M ρ).bind λd=>.ok (.bool (neg ^^ gH c d)):=rfl
@[simp]theorem ev_notV (a:QF):CN a M ρ=((a M ρ).bind nO).bind λb=>.ok (.bool (!b)):=by
 show(((a M ρ).bind nO).bind λb=>Out.ok (!b)).bind (λb=>Out.ok (PyData.bool b))=_
 cases a M ρ with
 |ok d=>cases h:nO d<;>simp[Out.bind,h]
 |exc x=>rfl
 |bad=>rfl
@[simp]theorem ev_andV (a b:QF):lB a b M ρ=(a M ρ).bind λd=>(nO d).bind λx=>if x=true then b M ρ else .ok (.bool false):=rfl
@[simp]theorem ev_orV (a b:QF):Sv a b M ρ=(a M ρ).bind λd=>(nO d).bind λx=>if x=true then .ok (.bool true) else b M ρ:=rfl
@[simp]theorem adx (o o':Dat->Dat->Out Dat) (a b c:QF):jO o o' a b c M ρ=(a M ρ).bind λx=>(b M ρ).bind λy=>(o x y).bind λz=>(nO z).bind λk=>if k=true then(c M ρ).bind λw=>(o' y w).bind nO else .ok false:=rfl
@[simp]theorem afh (t:uU) (a:QF):kW t a M ρ=(a M ρ).bind (je t):=rfl
@[simp]theorem ags (a:QF) (lo hi:QO):iW a lo hi M ρ=(a M ρ).bind λd=>(lo M ρ).bind λl=>(hi M ρ).bind λh=>nM d l h:=rfl
@[simp]theorem agf:cW M ρ=.ok none:=rfl
@[simp]theorem agn (a:QF):bh a M ρ=(a M ρ).bind λd=>(nJ d).bind λi=>.ok (some i):=rfl
@[simp]theorem ev_call (m:Mo->List Dat->Out Dat) (as:QA):aN m as M ρ=(as M ρ).bind λds=>m M ds:=rfl
@[simp]theorem adG (a:QF):gA a M ρ=(a M ρ).bind dG:=rfl
@[simp]theorem acT (a:QF):qU a M ρ=(a M ρ).bind λd=>(nJ d).bind λn=>Out.when (decide (n<=100000/\-100000<=n)) (.ok (jN 0 n.toNat)):=rfl
@[simp]theorem aea (k₀:Int) (a:QF):pQ k₀ a M ρ=(a M ρ).bind λd=>(dG d).bind λds=>.ok (gD k₀ ds):=rfl
@[simp]theorem af4 (a b:QF):uz a b M ρ=(a M ρ).bind λd=>(b M ρ).bind λe=>(dG d).bind λds=>(dG e).bind λes=>.ok (iz ds es):=rfl
@[simp]theorem aeo (it:IF) (tg:bT) (vs:List Nat) (tt:QT) (te:QF):iK it tg vs tt te M ρ=(it M ρ).bind λds=>Out.when (decide (ds.length<=50000)) ((bx tg tt te M (aO ρ vs) ds).bind λr=>.ok (.list r)):=rfl
@[simp]theorem adH (it:IF) (tg:bT) (vs:List Nat) (te:QF):tX it tg vs te M ρ=(it M ρ).bind λds=>Out.when (decide (ds.length<=50000)) ((qp tg te M (aO ρ vs) ds).bind λr=>.ok (.list r)):=rfl
@[simp]theorem adA (m:Mo->List Dat->Out Dat) (as:QA):lK m as M ρ=(mX (as M ρ)).bind λds=>m M ds:=rfl
@[simp]theorem acV (it:IF) (tg:bT) (vs:List Nat) (tt:QT) (te:QF):oU it tg vs tt te M ρ=(it M ρ).bind λds=>Out.when (decide (ds.length<=50000)) (bx tg tt te M (aO ρ vs) ds):=rfl
@[simp]theorem Zz (a b:QF):Qt a b M ρ=(a M ρ).bind λx=>match x with
 |.str z=>(b M ρ).bind λy=>(match y with
  |.str w=>Out.when (!(w.length==0)&&decide (z.length+2<=100000)) (.ok ((Txt.split z w).map .str))
  |_=>.bad)
 |_=>.bad:=rfl
@[simp]theorem aeS (f:QA):Fq f M ρ=(f M ρ).bind λxs=>Out.when (decide (xs.length<=100000)) (.ok xs):=rfl
@[simp]theorem abt (f:QF):rE f M ρ=(f M ρ).bind uZ:=rfl
@[simp]theorem acI (j:Nat) (d:Dat):au j d ρ=some (ρ.set j (some (.dat d))):=rfl
@[simp]theorem ada (js:List Nat) (ds:List Dat):cO js (.tuple ds) ρ=jA js ds ρ:=rfl
@[simp]theorem abA (n:Nat) (b:SF) (ds:List Dat):mQ n b M ds=match b M (ini n ds) with
 |.ret d _=>.ok d
 |.next _ _=>.ok .none
 |.exc x _ _=>.exc x
 |_=>.bad:=rfl
@[simp]theorem agg (n:Nat) (b:SF) (ds:List Dat):mG n b M ds=match b M (ini n ds) with
 |.ret d M'=>.ok d M'
 |.next _ M'=>.ok .none M'
 |.exc x _ M'=>.exc x M'
 |_=>.bad:=rfl
end
section
variable(i j:Int)(ds es:List Dat)(b c:Bool)(x y:Str)
@[simp]theorem aeg:bJ (.int i) (.int j)=.ok (.int (i+j)):=rfl
@[simp]theorem zp:bJ (.list ds) (.list es)=Out.when (decide (ds.length+es.length<=100000)) (.ok (.list (ds++es))):=rfl
@[simp]theorem aeA:bJ (.tuple ds) (.tuple es)=Out.when (decide (ds.length+es.length<=100000)) (.ok (.tuple (ds++es))):=rfl
@[simp]theorem afm:wG (.int i) (.int j)=.ok (.int (i-j)):=rfl
@[simp]theorem af7:xq (.int i) (.int j)=Out.when (decide (CMul i j)) (.ok (.int (i*j))):=rfl
@[simp]theorem afU:oV (.int i) (.int j)=Out.when (decide (CDiv i j)) (.ok (.int (i/j))):=rfl
@[simp]theorem afe:eO (.int i) (.int j)=Out.when (decide (0<j)) (.ok (.int (i%j))):=rfl
@[simp]theorem aeR:En (.int i) (.int j)=Out.when (decide (CPow i j)) (.ok (.int (i^j.toNat))):=rfl
@[simp]theorem af8:NQ (.int i) (.int j)=.ok (.bool (decide (i<j))):=rfl
@[simp]theorem agh:qj (.int i) (.int j)=.ok (.bool (decide (i<=j))):=rfl
@[simp]theorem agq:Cd (.int i) (.int j)=.ok (.bool (decide (j<i))):=rfl
@[simp]theorem agm:PB (.int i) (.int j)=.ok (.bool (decide (j<=i))):=rfl
@[simp]theorem aeN:bW (.int i) (.int j)=.ok (.bool (i==j)):=rfl
@[simp]theorem ae3:bW (.str x) (.str y)=.ok (.bool (x==y)):=rfl
@[simp]theorem afC:bW (.bool b) (.bool c)=.ok (.bool (b==c)):=rfl
@[simp]theorem afn:ju (.int i) (.int j)=.ok (.bool (!(i==j))):=rfl
@[simp]theorem afE:ju (.str x) (.str y)=.ok (.bool (!(x==y))):=rfl
@[simp]theorem afK:El (.int i)=.ok (.int (-i)):=rfl
@[simp]theorem adJ:rM (.bool b)=.ok b:=rfl
@[simp]theorem adZ:rM (.list ds)=.ok (!ds.isEmpty):=rfl
@[simp]theorem aev:rM (.tuple ds)=.ok (!ds.isEmpty):=rfl
@[simp]theorem afF:nO (.bool b)=.ok b:=rfl
@[simp]theorem mD:cG (.list ds)=.ok (.int ds.length):=rfl
@[simp]theorem adV:cG (.tuple ds)=.ok (.int ds.length):=rfl
@[simp]theorem aeJ:zM (.int i)=.ok (.int (if i<0 then -i else i)):=rfl
@[simp]theorem ev_max2:vC (.int i) (.int j)=.ok (.int (if j>i then j else i)):=rfl
@[simp]theorem aem:Dr (.int i) (.int j)=.ok (.int (if j<i then j else i)):=rfl
@[simp]theorem X8:dW (.list ds) (.int i)=match atI ds i with
  |some d=>.ok d
  |none=>.bad:=rfl
@[simp]theorem aeM:dW (.tuple ds) (.int i)=match atI ds i with
  |some d=>.ok d
  |none=>.bad:=rfl
@[simp]theorem aeF:nJ (.int i)=.ok i:=rfl
@[simp]theorem af5 (lo hi:Option Int):nM (.list ds) lo hi=.ok (.list (cutD ds lo hi)):=rfl
@[simp]theorem aeU (lo hi:Option Int):nM (.tuple ds) lo hi=.ok (.tuple (cutD ds lo hi)):=rfl
@[simp]theorem aeG:iw (.list ds)=.ok (.tuple ds):=rfl
@[simp]theorem aeD:iw (.tuple ds)=.ok (.tuple ds):=rfl
@[simp]theorem ac2:yN (.list ds)=.ok (.list ds):=rfl
@[simp]theorem adw:yN (.tuple ds)=.ok (.list ds):=rfl
@[simp]theorem afs:uZ (.list ds)=.ok ds:=rfl
@[simp]theorem afr:uZ (.tuple ds)=.ok ds:=rfl
@[simp]theorem afu:dG (.list ds)=.ok ds:=rfl
@[simp]theorem afQ:dG (.tuple ds)=.ok ds:=rfl
@[simp]theorem aex (o:Option Cell) (ρ:Env):gJ (o::ρ)=o.map yF::gJ ρ:=rfl
@[simp]theorem ac5:gJ []=[]:=rfl
@[simp]theorem acW (d:Dat):yF (.dat d)=.dat d:=rfl
@[simp]theorem ac1 (ds:List Dat):yF (.mut ds)=.dat (.list ds):=rfl
@[simp]theorem aef (ρ:Env):jA [] [] ρ=some ρ:=rfl
@[simp]theorem aec (j:Nat) (js:List Nat) (d:Dat) (ρ:Env):jA (j::js) (d::ds) ρ=jA js ds (ρ.set j (some (.dat d))):=rfl
@[simp]theorem acX (ρ:Env):aO ρ []=ρ:=rfl
@[simp]theorem ady (ρ:Env) (j:Nat) (js:List Nat):aO ρ (j::js)=(aO ρ js).set j none:=rfl
@[simp]theorem acJ {α:Type} (a:α) (l:List α):atI (a::l) 0=some a:=atI_nat (j:=0) rfl
@[simp]theorem adQ (n:Nat):ini n ds=ds.map (λd=>some (.dat d))++List.replicate (n-ds.length) none:=rfl
end
theorem Jr{a b:String}:Str.ofString a=Str.ofString b↔a=b:=by
 constructor
 .intro h;rw[Str.ofString_eq_toList,Str.ofString_eq_toList]at h;have h1:a.toList.map Char.toNat=b.toList.map Char.toNat:=by simpa using h
  have h2:a.toList=b.toList:=by
   refine List.map_inj_right (f:=Char.toNat) (λx y e=>?_) |>.mp h1
   exact Char.ext (UInt32.toNat_inj.mp e)
  exact String.toList_inj.mp h2
 .rintro rfl;rfl
@[simp]theorem afk (a b:String):(Str.ofString a=Str.ofString b)=(a=b):=propext Jr
@[simp]theorem adW (a b:String):(Str.ofString a==Str.ofString b)=decide (a=b):=by rw[ahh];simp[Jr]
@[simp]theorem agp {α:Type} (a b:α) (l:List α):atI (a::b::l) 1=some b:=atI_nat (j:=1) rfl
@[simp]theorem agu {α:Type} (a b c:α) (l:List α):atI (a::b::c::l) 2=some c:=atI_nat (j:=2) rfl
@[simp]theorem af9 {α:Type} (a b c d:α) (l:List α):atI (a::b::c::d::l) 3=some d:=atI_nat (j:=3) rfl
@[simp]theorem ago {α:Type} (a b c d e:α) (l:List α):atI (a::b::c::d::e::l) 4=some e:=atI_nat (j:=4) rfl
@[simp]theorem agk {α:Type} (a b c d e f:α) (l:List α):atI (a::b::c::d::e::f::l) 5=some f:=atI_nat (j:=5) rfl
@[simp]theorem agb {α:Type} (a b c d e f g:α) (l:List α):atI (a::b::c::d::e::f::g::l) 6=some g:=atI_nat (j:=6) rfl
@[simp]theorem TJ (s:String):PyData.strOk (Str.ofString s)=true:=by
 rw[Str.ofString_eq_toList];unfold PyData.strOk;simp only[Array.all_eq_true,ahu];intro i h;simp only[List.getElem_toArray,List.getElem_map];have:=s.toList[i]'(by simpa using h) |>.valid
 rcases this with z|⟨_,z⟩
 .show(s.toList[i]'(by simpa using h)).val.toNat<_
  omega
 .show(s.toList[i]'(by simpa using h)).val.toNat<_
  omega
section
variable(i j:Int)(x y:Str)(d e:Dat)(ds es:List Dat)(b c:Bool)
@[simp]theorem Yl:PyData.eqv (.int i) (.int j)=(i==j):=by simp[PyData.eqv]
@[simp]theorem PN:PyData.eqv (.str x) (.str y)=(x==y):=by simp[PyData.eqv]
@[simp]theorem afx:PyData.eqv (.bool b) (.bool c)=(b==c):=by simp[PyData.eqv]
@[simp]theorem ae2:PyData.eqv .none .none=true:=by simp[PyData.eqv]
@[simp]theorem afL:PyData.eqv (.tuple ds) (.tuple es)=PyData.eqvAll ds es:=by simp[PyData.eqv]
@[simp]theorem aeI:PyData.eqv (.list ds) (.list es)=PyData.eqvAll ds es:=by simp[PyData.eqv]
@[simp]theorem af0:PyData.eqv (.tuple ds) .none=false:=by simp[PyData.eqv]
@[simp]theorem afc:PyData.eqv .none (.tuple ds)=false:=by simp[PyData.eqv]
@[simp]theorem af2:PyData.eqv (.str x) (.int i)=false:=by simp[PyData.eqv]
@[simp]theorem af6:PyData.eqv (.int i) (.str x)=false:=by simp[PyData.eqv]
@[simp]theorem aes:PyData.eqvAll [] []=true:=by simp[PyData.eqvAll]
@[simp]theorem aey:PyData.eqvAll [] (d::ds)=false:=by simp[PyData.eqvAll]
@[simp]theorem adR:PyData.eqvAll (d::ds) []=false:=by simp[PyData.eqvAll]
@[simp]theorem Wv:PyData.eqvAll (d::ds) (e::es)=(PyData.eqv d e&&PyData.eqvAll ds es):=by simp[PyData.eqvAll]
end
@[simp]theorem Iz:∀l m:List Int,PyData.eqvAll (l.map PyData.int) (m.map PyData.int)=decide (l=m)
 |[],[]=>by simp
 |[],_::_=>by simp
 |_::_,[]=>by simp
 |a::l,b::m=>by
  rw[agy,agy,Wv,Iz l m,Yl];by_cases h:a=b<;>by_cases h2:l=m<;>simp[h,h2]
theorem xg{n:Nat}:∀{ds:List Dat},gY n ds=true↔∀d∈ds,okd n d=true
 |[]=>by simp[gY]
 |d::ds=>by simp[gY,xg (ds:=ds)]
@[simp]theorem aep (n:Nat) (i:Int):okd n (.int i)=true:=by simp[okd]
@[simp]theorem acG (n:Nat) (l:List Int):gY n (l.map PyData.int)=true:=xg.mpr λd h=>by
 obtain⟨i,_,rfl⟩:=agU.mp h;simp
def ob(h:Nat):Dat:=obj h
section
variable(M:Mo)(ρ:Env)(h:Nat)(f:Str)
@[simp]theorem aek:tR M f (ob h)=(M[h]?).bind λi=>i.fs.lookup f:=rfl
@[simp]theorem adp (tb:List (Str×MV)):pD tb M (ob h)=(M[h]?).bind λi=>tb.lookup i.cls:=rfl
@[simp]theorem Gx:eV M (ob h)=(M[h]?).bind λi=>match i.cls=="" with
 |true=>none
 |false=>some (h,i):=rfl
@[simp]theorem afi (o:QF):Uw f o M ρ=(o M ρ).bind λd=>match tR M f d with
 |some (.dat x)=>.ok x
 |_=>.bad:=rfl
@[simp]theorem adU (o:QF):Ls f o M ρ=(o M ρ).bind λd=>match tR M f d with
 |some (.dat x)=>.ok x
 |some (.lst _ xs)=>.ok (.list xs)
 |_=>.bad:=rfl
@[simp]theorem aed (tb:List (Str×MV)) (o:QF) (as:QA):yr tb o as M ρ=(o M ρ).bind λd=>match pD tb M d with
 |some (.q _ m)=>(as M ρ).bind λds=>m M (d::ds)
 |_=>.bad:=rfl
@[simp]theorem ac7 (tb:List (Str×MV)) (o:QF) (as:QA):xX tb o as M ρ=((o M ρ).at M).bind λd _=>match pD tb M d with
 |some (.q _ m)=>((as M ρ).at M).bind λds _=>(m M (d::ds)).at M
 |some (.g _ m)=>((as M ρ).at M).bind λds _=>m M (d::ds)
 |none=>.bad:=rfl
@[simp]theorem aeu (x:Str) (m:Mo->List Dat->aR Dat) (as:QA):wB x m as M ρ=((as M ρ).at M).bind λds _=>match m (M++[⟨x,[]⟩]) (ob M.length::ds) with
 |.ok .none M'=>.ok (ob M.length) M'
 |_=>.bad:=rfl
@[simp]theorem adB (m:Mo->List Dat->aR Dat) (as:QA):MJ m as M ρ=((as M ρ).at M).bind λds _=>m M ds:=rfl
@[simp]theorem acH (m:Mo->List Dat->aR Dat) (as:GA):aa7 m as M ρ=(as M ρ).bind λds M1=>m M1 ds:=rfl
@[simp]theorem acK (m:Mo->List Dat->Out Dat) (as:GA):Yj m as M ρ=(as M ρ).bind λds M1=>(m M1 ds).at M1:=rfl
@[simp]theorem acO (a:GF) (r:GA):abm a r M ρ=(a M ρ).bind λd M1=>(r M1 ρ).bind λds M2=>.ok (d::ds) M2:=rfl
@[simp]theorem adL (t:QT):Td t M ρ=(t M ρ).at M:=rfl
@[simp]theorem adi (a:GT):abG a M ρ=(a M ρ).bind λb M1=>.ok (!b) M1:=rfl
@[simp]theorem adE (a b:GT):abD a b M ρ=(a M ρ).bind λx M1=>if x=true then b M1 ρ else .ok false M1:=rfl
@[simp]theorem adI (a b:GT):ac0 a b M ρ=(a M ρ).bind λx M1=>if x=true then .ok true M1 else b M1 ρ:=rfl
@[simp]theorem ac9 (a:GF):acB a M ρ=(a M ρ).bind λd M1=>(rM d).at M1:=rfl
@[simp]theorem adF (x:Str):iV x M ρ=.exc ⟨x,[]⟩ ρ M:=rfl
@[simp]theorem acR (x:Str) (fs:List Str) (as:QA):vg x fs as M ρ=((as M ρ).at M).then ρ λds M'=>.exc ⟨x,(fs.zip ds).reverse⟩ ρ M':=rfl
@[simp]theorem aeY (b:SF) (hs:List Hd):rG b hs M ρ=match b M ρ with
 |.exc x Z' M'=>hdl hs x Z' M'
 |o=>o:=rfl
@[simp]theorem aeb (x:bK):hdl [] x ρ M=.exc x ρ M:=rfl
@[simp]theorem ad4 (h:Hd) (r:List Hd) (x:bK):hdl (h::r) x ρ M=match h.tk x.cls with
  |some true=>match KJ ρ h.nm with
   |true=>match pK h.y x h.st (Ac ρ h.nm) with
    |some Z2=>.next (Ac Z2 h.nm) M
    |none=>.bad
   |false=>.bad
  |some false=>hdl r x ρ M
  |none=>.bad:=rfl
@[simp]theorem aej:Ac ρ none=ρ:=rfl
@[simp]theorem ad7 (i:Nat):Ac ρ (some i)=ρ.set i none:=rfl
@[simp]theorem ade:KJ ρ none=true:=rfl
@[simp]theorem acZ (i:Nat):KJ ρ (some i)=decide (i<ρ.length):=rfl
@[simp]theorem aeT (y:Str) (x:bK):pK y x [] ρ=some ρ:=rfl
@[simp]theorem aeW (y:Str) (x:bK) (j:Nat) (e:pU) (r:List (Nat×pU)):pK y x ((j,e)::r) ρ=(Em y x e).bind λd=>pK y x r (ρ.set j (some (.dat d))):=rfl
@[simp]theorem afW (y:Str) (x:bK) (d:Dat):Em y x (.con d)=some d:=rfl
@[simp]theorem ad9 (g:GF):Mw g M ρ=(g M ρ).then ρ λd M'=>.ret d M':=rfl
@[simp]theorem afO (t:GT) (f k:SF):adn t f k M ρ=(t M ρ).then ρ λc M'=>if c=true then f M' ρ else k M' ρ:=rfl
@[simp]theorem acS (a b:QF):zG a b M ρ=(a M ρ).bind λd=>(b M ρ).bind λe=>(nJ d).bind λlo=>(nJ e).bind λn=>Out.when (decide (n<=100000/\-100000<=n/\lo<=100000/\-100000<=lo)) (.ok (jN lo (n-lo).toNat)):=rfl
@[simp]theorem adS (ft:Ft) (o:QF) (e:GF):LC ft o f e M ρ=(e M ρ).then ρ λd M1=>((o M1 ρ).at M1).then ρ λod M2=>match eV M2 od with
 |some (h,i)=>match ft.has i.cls f&&decide (i.fs.length<100) with
  |true=>.next ρ (M2.set h (i.put f (.dat d)))
  |false=>.bad
 |none=>.bad:=rfl
@[simp]theorem aez (ft:Ft) (o:QF) (e:IF):CT ft o f e M ρ=((e M ρ).at M).then ρ λxs M0=>((o (M0++[⟨"",[]⟩]) ρ).at (M0++[⟨"",[]⟩])).then ρ λod M2=>match eV M2 od with
 |some (h,i)=>match ft.has i.cls f&&decide (i.fs.length<100) with
  |true=>.next ρ (M2.set h (i.put f (.lst M0.length xs)))
  |false=>.bad
 |none=>.bad:=rfl
@[simp]theorem aeE (ft:Ft) (o:QF) (b:Bool):Dg ft o f b M ρ=((o (M++[⟨"",[]⟩]) ρ).at (M++[⟨"",[]⟩])).then ρ λod M2=>match eV M2 od with
 |some (h,i)=>match ft.has i.cls f&&decide (i.fs.length<100) with
  |true=>.next ρ (M2.set h (i.put f (.dic b [])))
  |false=>.bad
 |none=>.bad:=rfl
@[simp]theorem ael (ft:Ft) (o:QF) (e:Mo->Env->Out (List (Dat×Dat))):Di ft o f e M ρ=((e M ρ).at M).then ρ λkvs _=>((o (M++[⟨"",[]⟩]) ρ).at (M++[⟨"",[]⟩])).then ρ λod M2=>match eV M2 od with
 |some (h,i)=>match ft.has i.cls f&&decide (i.fs.length<100) with
  |true=>.next ρ (M2.set h (i.put f (.dic true kvs)))
  |false=>.bad
 |none=>.bad:=rfl
@[simp]theorem aen (o:QF) (e:GF):Du f o e M ρ=((o M ρ).at M).then ρ λod M0=>match qD M0 f od with
 |some (_,_,n,_)=>(e M0 ρ).then ρ λd M1=>match qD M1 f od with
  |some (h,i,n',xs)=>match n==n'&&decide (xs.length<100000) with
   |true=>.next ρ (M1.set h (i.put f (.lst n (xs++[d]))))
   |false=>.bad
  |none=>.bad
 |none=>.bad:=rfl
@[simp]theorem aeh (o fi e:QF):CP f o fi e M ρ=((e M ρ).at M).then ρ λd _=>((o M ρ).at M).then ρ λod _=>match qD M f od with
 |some (h,i,n,xs)=>((fi M ρ).at M).then ρ λk _=>match k with
  |.int k=>match ixN xs.length k with
   |some j=>.next ρ (M.set h (i.put f (.lst n (xs.set j d))))
   |none=>.bad
  |_=>.bad
 |none=>.bad:=rfl
@[simp]theorem ad8 (ft:Ft) (o e:QF):CW ft f o e M ρ=((o M ρ).at M).then ρ λod _=>match eV M od with
 |some (h,i)=>match i.fs.lookup f,ft.has i.cls f&&decide (i.fs.length<100) with
  |some (.dat (.int a)),true=>((e M ρ).at M).then ρ λd _=>match d with
   |.int b=>.next ρ (M.set h (i.put f (.dat (.int (a+b)))))
   |_=>.bad
  |_,_=>.bad
 |none=>.bad:=rfl
theorem XF(d:Dat):qD M f d=(eV M d).bind λp=>match p.2.fs.lookup f with
 |some (.lst n xs)=>some (p.1,p.2,n,xs)
 |_=>none:=rfl
@[simp]theorem aeH:qD M f (ob h)=(M[h]?).bind λi=>match i.cls=="" with
 |true=>none
 |false=>match i.fs.lookup f with
  |some (.lst n xs)=>some (h,i,n,xs)
  |_=>none:=by
 rw[XF,Gx];cases M[h]? with
 |none=>rfl
 |some i=>
  show(match i.cls=="" with
   |true=>none
   |false=>some (h,i)).bind _=(match i.cls=="" with
   |true=>none
   |false=>_)
  cases i.cls==""<;>rfl
@[simp]theorem adM (i:Inst) (x:dB):i.put f x=⟨i.cls,putL f x i.fs⟩:=rfl
@[simp]theorem agr (x:dB):putL f x []=[(f,x)]:=rfl
@[simp]theorem agj (x y:dB) (g:Str) (r:List (Str×dB)):putL f x ((g,y)::r)=if g=f then(g,x)::r else(g,y)::putL f x r:=rfl
@[simp]theorem ad6 (ft:Ft) (c:Str):Ft.has ft c f=match ft.lookup c with
 |some fs=>fs.contains f
 |none=>false:=rfl
@[simp]theorem adP:lU M f (ob h)=(M[h]?).bind λi=>match i.cls=="" with
 |true=>none
 |false=>match i.fs.lookup f with
  |some (.dic b kvs)=>some (h,i,b,kvs)
  |_=>none:=by
 show(eV M (ob h)).bind _=_
 rw[Gx];cases M[h]? with
 |none=>rfl
 |some i=>
  show(match i.cls=="" with
   |true=>none
   |false=>some (h,i)).bind _=(match i.cls=="" with
   |true=>none
   |false=>_)
  cases i.cls==""<;>rfl
@[simp]theorem afp (neg:Bool) (k o:QF):Gy neg f k o M ρ=(k M ρ).bind λd=>(o M ρ).bind λod=>match lU M f od with
 |some (_,_,b,kvs)=>(dhas b kvs d).bind λr=>.ok (.bool (neg ^^ r))
 |none=>.bad:=rfl
@[simp]theorem adK (o k e:QF):Dy f o k e M ρ=((e M ρ).at M).then ρ λv _=>((o M ρ).at M).then ρ λod _=>match lU M f od with
 |some (h,i,b,kvs)=>((k M ρ).at M).then ρ λd _=>match dhas b kvs d,decide (kvs.length<100000) with
  |.ok false,true=>.next ρ (M.set h (i.put f (.dic b (kvs++[(d,v)]))))
  |_,_=>.bad
 |none=>.bad:=rfl
@[simp]theorem adN (o k:QF):Dh f o k M ρ=((o M ρ).at M).then ρ λod _=>match lU M f od with
 |some (h,i,b,kvs)=>((k M ρ).at M).then ρ λd _=>match dhas b kvs d,decide (kvs.length<=100000) with
  |.ok true,true=>.next ρ (M.set h (i.put f (.dic b (kvs.filter λp=>!PyData.eqv p.1 d))))
  |_,_=>.bad
 |none=>.bad:=rfl
@[simp]theorem adb (o:QF):yj f o M ρ=(o M ρ).bind λod=>match lU M f od with
 |some (_,_,true,kvs)=>.ok (kvs.map (·.1))
 |_=>.bad:=rfl
@[simp]theorem adD (o:QF):uJ f o M ρ=(o M ρ).bind λod=>match lU M f od with
 |some (_,_,_,kvs)=>.ok (.list (kvs.map (·.1)))
 |none=>.bad:=rfl
@[simp]theorem agi (it:IF) (tg:bT) (vs:List Nat) (tk:QF):Yv it tg vs tk M ρ=(it M ρ).bind λds=>Out.when (decide (ds.length<=50000)) (sW tg tk M (aO ρ vs) ds []):=rfl
@[simp]theorem adl (kvs:List (Dat×Dat)) (i:Int):dhas false kvs (.int i)=.ok (kvs.any λp=>PyData.eqv p.1 (.int i)):=rfl
@[simp]theorem agt (o:Str->Dat->Out Dat) (a b:QF):dI o a b M ρ=(a M ρ).bind λx=>match x with
 |.str z=>(b M ρ).bind (o z)
 |_=>.bad:=rfl
@[simp]theorem afy (o:Str->Dat->Dat->Out Dat) (a b c:QF):tO o a b c M ρ=(a M ρ).bind λx=>match x with
 |.str z=>(b M ρ).bind λy=>(c M ρ).bind (o z y)
 |_=>.bad:=rfl
@[simp]theorem agd (o:List Dat->Dat->Out Dat) (a b:QF):pY o a b M ρ=(a M ρ).bind λx=>match x with
 |.list ds=>(b M ρ).bind (o ds)
 |_=>.bad:=rfl
@[simp]theorem aeQ (ds:List Dat) (b:QF):Ez ds b M ρ=(b M ρ).bind (Az ds):=rfl
@[simp]theorem afI (a b:QF):zV a b M ρ=(a M ρ).bind λd=>(uV d).bind λx=>Out.when (decide (x.length<=100000)) ((b M ρ).bind λe=>(uV e).bind λy=>Out.when (decide (x.length+y.length<=100000)) (.ok (.str (x++y)))):=rfl
@[simp]theorem afb (neg:Bool) (kvs:List (Str×Dat)) (k:QF):wI neg kvs k M ρ=(k M ρ).bind λd=>match d with
 |.str x=>.ok (.bool (neg ^^ (kvs.lookup x).isSome))
 |.int _=>.ok (.bool neg)
 |.tuple ds=>(match jU ds with
  |some ks=>Out.when (decide ((NestedKey.tup ks).depth<=8)) (.ok (.bool neg))
  |none=>.bad)
 |_=>.bad:=rfl
@[simp]theorem afT (kvs:List (Str×Dat)) (k:QF):zA kvs k M ρ=(k M ρ).bind λd=>match d with
 |.str x=>match kvs.lookup x with
  |some y=>.ok y
  |none=>.bad
 |_=>.bad:=rfl
@[simp]theorem acY (it:IF) (tg:bT) (vs:List Nat) (tt:QT) (it1:IF) (tg1:bT) (vs1:List Nat) (tt1:QT) (te:QF):ug it tg vs tt it1 tg1 vs1 tt1 te M ρ=((it M ρ).bind λds=>(eG tg tt it1 tg1 vs1 tt1 te M (aO ρ vs) ds).bind λr=>Out.when (decide (r.length<=50000)) (.ok r)).bind λr=>.ok (.list r):=rfl
@[simp]theorem acQ (it:IF) (tg:bT) (vs:List Nat) (tt:QT) (te:QF):W4 it tg vs tt te M ρ=((it M ρ).bind λds=>Out.when (decide (ds.length<=50000)) (bx tg tt te M (aO ρ vs) ds)).bind λds=>match intsOf ds with
 |some l=>Out.when (decide (l.length<=4000)) (.ok (.list ((U5 l).map PyData.int)))
 |none=>.bad:=rfl
@[simp]theorem acU {α:Type} (k g:Str) (y:α) (r:List (Str×α)):List.lookup k ((g,y)::r)=if k=g then some y else List.lookup k r:=by
 rw[agQ];by_cases e:k=g
 .subst e;simp
 .have:(k==g)=false:=by simpa using e
  rw[this,ahz e]
end
end Rf
namespace Pr
open PySem PySem.Spec PyProof.Rows L2 Evl Rf
def sG:SF:=
 (aQ (lB (aA bW (bR cG (ak 0)) (bR cG (qC aX))) (bR wD (iK (gA (ak 0)) (au 1) [1] jD (FP (jO qj qj (qC (.int 0)) (ak 1) (qC fO)))))))
def lZ:=mQ 2 sG
def cR:SF:=
 (aF (bL (aY (aA bW (ak 0) (qC (.str "ear")))) (aQ (lB (kW .tuple (ak 1)) (aN lZ (ao (aJ 1) aG)))) aP)
 (aF (aM (au 2) (gOf (Np (aY (aA bW (ak 0) (qC (.str "place")))) (aA wG (bR cG (qC aX)) (qC (.int 1))) (qC bM))))
 (aQ (lB (kW .int (ak 1)) (FP (jO qj qj (qC (.int 0)) (ak 1) (ak 2)))))))
def bO:=mQ 3 cR
def mU:SF:=
 (aF (bL (lg (aY (aA bW (bR cG (ak 0)) (qC (.int 0)))) (aY (wI true (fB cZ) (aA dW (ak 0) (qC (.int 0)))))) (aQ (qC (.bool false))) aP)
 (aF (aM (au 1) (gOf (zA (fB cZ) (aA dW (ak 0) (qC (.int 0))))))
 (aF (aM (au 2) (gOf (iW (ak 0) (bh (qC (.int 1))) cW)))
 (aQ (lB (aA bW (bR cG (ak 2)) (bR cG (ak 1))) (bR wD (iK (uz (ak 1) (ak 2)) (cO [3,4]) [3,4] jD (aN bO (ao (aJ 3) (ao (aJ 4) aG))))))))))
def jr:=mQ 5 mU
def vh:SF:=
 (aF (aM (au 1) (gOf (iK (uz (qC aX) (ak 0)) (cO [2,3]) [2,3] (aY (aA Cd (ak 3) (qC (.int 0)))) (zV (ak 2) (ak 3)))))
 (aQ (Np (mj (ak 1)) (dI gR (qC (.str " ")) (ak 1)) (qC gG))))
def oH:=mQ 4 vh
def gW:SF:=
 (aF (bL (aY (aA bW (ak 0) (qC (.str "ear")))) (aQ (aN oH (ao (aJ 1) aG))) aP)
 (aF (bL (aY (aA bW (ak 0) (qC (.str "place")))) (aQ (aA dW (qC aX) (ak 1))) aP)
 (aQ (bR Eh (ak 1)))))
def dh:=mQ 2 gW
def uO:SF:=
 (aF (bL (nR (mj (aN jr (ao (aJ 0) aG)))) (iV "BadDeed") aP)
 (aF (aM (au 1) (gOf (aA dW (ak 0) (qC (.int 0)))))
 (aQ (dI gR (qC (.str " ")) (aA bJ (lF (ao (aJ 1) aG)) (iK (uz (zA (fB cZ) (ak 1)) (iW (ak 0) (bh (qC (.int 1))) cW)) (cO [2,3]) [2,3] jD (aN dh (ao (aJ 2) (ao (aJ 3) aG)))))))))
def mY:=mQ 4 uO
def Hu:SF:=
 (aF (bL (aY (aA NQ (ak 1) (bR cG (ak 0)))) (aQ (aA dW (ak 0) (ak 1))) aP)
 (aQ (qC (.int 0))))
def cJ:=mQ 2 Hu
def dU:SF:=
 (bL (aY (aA (inD true) (ak 1) (qC (.str "0123456789")))) (aQ (qC .none)) aP)
def eX:SF:=
 (aF (bL (lg (aY (aA bW (ak 0) (qC (.str "")))) (lg (aY (aA Cd (bR cG (ak 0)) (qC (.int 9)))) (jV (aY (aA ju (ak 0) (qC (.str "0")))) (aY (aA bW (aA dW (ak 0) (qC (.int 0))) (qC (.str "0"))))))) (aQ (qC .none)) aP)
 (aF (nH (gA (aJ 0)) (au 1) dU)
 (aQ (bR intD (ak 0)))))
def cV:=mQ 2 eX
def fG:SF:=
 (aF (aM (au 4) (gOf (qC (.int 0))))
 (aF (bL (jV (aY (aA bW (iW (ak 2) cW (bh (qC (.int 2)))) (ak 3))) (jV (aY (aA ju (iW (ak 2) (bh (qC (.int 2))) (bh (qC (.int 3)))) (qC (.str "")))) (jV (aY (aA (inD false) (iW (ak 2) (bh (qC (.int 2))) (bh (qC (.int 3)))) (qC (.str "123456789")))) (aY (aA bW (iW (ak 2) (bh (qC (.int 3))) (bh (qC (.int 4)))) (qC (.str " "))))))) (aF (aM (au 4) (gOf (bR intD (iW (ak 2) (bh (qC (.int 2))) (bh (qC (.int 3)))))))
 (aM (au 2) (gOf (iW (ak 2) (bh (qC (.int 4))) cW)))) aP)
 (ni 1 (aJ 4))))
def lY:SF:=
 (aF (bL (aY (aA bW (ak 0) (qC (.str "none")))) (aQ (uN (ao (qC (.int 0)) (ao (qC (.int 0)) (ao (qC (.int 0)) (ao (qC (.int 0)) (ao (qC (.int 0)) (ao (qC (.int 0)) aG)))))))) aP)
 (aF (lW 1 (Fq aG))
 (aF (aM (au 2) (gOf (aA bJ (ak 0) (qC (.str " ")))))
 (aF (nH (gA (uN (ao (qC (.str "lt")) (ao (qC (.str "lf")) (ao (qC (.str "lh")) (ao (qC (.str "rt")) (ao (qC (.str "rf")) (ao (qC (.str "rh")) aG)))))))) (au 3) fG)
 (aF (bL (lg (aY (aA ju (ak 2) (qC (.str "")))) (aY (aA bW (bR Dz (ak 1)) (qC (.int 0))))) (aQ (qC .none)) aP)
 (aQ (bR iw (ak 1))))))))
def iI:=mQ 5 lY
def dH:SF:=
 (aF (aM (au 8) (gOf (aN cV (ao (aA dW (ak 3) (aA bJ (ak 6) (qC (.int 1)))) aG))))
 (aF (bL (aY (aA bW (ak 7) (qC (.str "e")))) (aM (au 8) (gOf (aN iI (ao (dI gR (qC (.str " ")) (iW (ak 3) (bh (aA bJ (ak 6) (qC (.int 1)))) cW)) aG)))) aP)
 (aF (bL (aY (aA bW (ak 7) (qC (.str "p")))) (aF (aM (au 8) (gOf (qC .none)))
 (bL (aY (aA (inD false) (aA dW (ak 3) (aA bJ (ak 6) (qC (.int 1)))) (uN (ao (qC (.str "lt")) (ao (qC (.str "lf")) (ao (qC (.str "lh")) (ao (qC (.str "rt")) (ao (qC (.str "rf")) (ao (qC (.str "rh")) aG))))))))) (aM (au 8) (gOf (pY jL (lF (ao (qC (.str "lt")) (ao (qC (.str "lf")) (ao (qC (.str "lh")) (ao (qC (.str "rt")) (ao (qC (.str "rf")) (ao (qC (.str "rh")) aG))))))) (aA dW (ak 3) (aA bJ (ak 6) (qC (.int 1))))))) aP)) aP)
 (aF (bL (aY (qQ false .none (ak 8))) (aQ (qC .none)) aP)
 (ni 5 (aJ 8))))))
def jH:SF:=
 (aF (aM (au 1) (gOf (lF (ao (qC (.str "owner")) (ao (qC (.str "ground")) (ao (qC (.str "enrol")) (ao (qC (.str "leave")) (ao (qC (.str "bring")) (ao (qC (.str "bear")) (ao (qC (.str "cut")) (ao (qC (.str "tear")) (ao (qC (.str "sell")) (ao (qC (.str "move")) (ao (qC (.str "die")) (ao (qC (.str "unite")) aG)))))))))))))))
 (aF (aM (au 1) (gOf (aA bJ (ak 1) (lF (ao (qC (.str "part")) (ao (qC (.str "pass")) (ao (qC (.str "heir")) aG)))))))
 (aF (aM (au 2) (gOf (lF (ao (qC (.str "")) (ao (qC (.str "n")) (ao (qC (.str "nne")) (ao (qC (.str "nn")) (ao (qC (.str "nne")) (ao (qC (.str "n")) (ao (qC (.str "n")) (ao (qC (.str "np")) (ao (qC (.str "nn")) (ao (qC (.str "nn")) (ao (qC (.str "n")) (ao (qC (.str "nn")) (ao (qC (.str "n")) (ao (qC (.str "nn")) (ao (qC (.str "nnn")) aG))))))))))))))))))
 (aF (aM (au 3) (gOf (dI oO (ak 0) (qC (.str " ")))))
 (aF (bL (aY (aA (inD true) (aA dW (ak 3) (qC (.int 0))) (ak 1))) (aQ (qC .none)) aP)
 (aF (aM (au 4) (gOf (aA dW (ak 2) (pY jL (ak 1) (aA dW (ak 3) (qC (.int 0)))))))
 (aF (bL (lg (aY (aA qj (bR cG (ak 3)) (bR cG (ak 4)))) (jV (aY (aA Cd (bR cG (ak 3)) (aA bJ (bR cG (ak 4)) (qC (.int 1))))) (aY (aA ju (iW (ak 4) (bh (qC (.int 2))) cW) (qC (.str "e")))))) (aQ (qC .none)) aP)
 (aF (lW 5 (Fq (ao (aA dW (ak 3) (qC (.int 0))) aG)))
 (aF (nH (pQ 0 (aJ 4)) (cO [6,7]) dH)
 (aQ (bR iw (ak 5))))))))))))
def iy:=mQ 9 jH
def zQ:SF:=
 (aF (aM (au 5) (gOf (aA eO (aA bJ (aA bJ (aA xq (ak 5) (qC (.int 48271))) (aA xq (qC (.int 9973)) (ak 4))) (qC (.int 11))) (qC (.int 2147483647)))))
 (ni 3 (aA eO (aA oV (ak 5) (qC (.int 1021))) (ak 2))))
def Ay:SF:=
 (aF (ni 3 (aA eO (ak 0) (ak 2)))
 (aM (au 0) (gOf (aA oV (ak 0) (ak 2)))))
def La:SF:=
 (aF (lW 3 (Fq aG))
 (aF (aM (au 0) (gOf (bR zM (ak 0))))
 (aF (bL (aY (aA PB (ak 0) (aA En (qC (.int 10)) (qC (.int 18))))) (aF (nH (qU (ak 1)) (au 4) Ay)
 (aQ (aJ 3))) aP)
 (aF (aM (au 5) (gOf (aA eO (aA xq (aA bJ (aA eO (ak 0) (qC (.int 1000003))) (qC (.int 17))) (qC (.int 69621))) (qC (.int 2147483647)))))
 (aF (nH (qU (ak 1)) (au 4) zQ)
 (aQ (aJ 3)))))))
def jR:=mQ 6 La
def wM:SF:=
 (aF (bL (aY (aA bW (aA eO (ak 1) (qC (.int 4))) (qC (.int 1)))) (aQ (bR iw (iK (gA (ak 0)) (au 2) [2] jD (aA vC (qC (.int 0)) (aA wG (ak 2) (qC (.int 7))))))) aP)
 (aF (bL (aY (aA bW (aA eO (ak 1) (qC (.int 4))) (qC (.int 2)))) (aQ (bR iw (iK (gA (ak 0)) (au 2) [2] jD (aA eO (ak 2) (qC (.int 3)))))) aP)
 (aQ (bR iw (ak 0)))))
def mF:=mQ 3 wM
def Mf:SF:=
 (aF (aM (au 1) (gOf (aN jR (ao (aJ 0) (ao (qC (.int 7)) (ao (qC (.int 10)) aG))))))
 (aQ (aN mF (ao (iW (ak 1) cW (bh (qC (.int 6)))) (ao (aA dW (ak 1) (qC (.int 6))) aG)))))
def yq:=mQ 2 Mf
def kE:SF:=
 (aF (aM (au 7) (gOf (aN cJ (ao (aJ 0) (ao (aA bJ (qC (.int 1)) (ak 5)) aG)))))
 (bL (aY (aA bW (ak 6) (qC (.str "e")))) (ni 4 (aN yq (ao (aJ 7) aG))) (bL (aY (aA bW (ak 6) (qC (.str "p")))) (ni 4 (aA eO (ak 7) (qC (.int 6)))) (bL (aY (aA bW (aA eO (ak 7) (qC (.int 5))) (qC (.int 4)))) (ni 4 (aA eO (aA oV (ak 7) (qC (.int 5))) (qC (.int 1000000000)))) (ni 4 (aA eO (aA oV (ak 7) (qC (.int 5))) (qC (.int 12))))))))
def zJ:SF:=
 (aF (aM (au 1) (gOf (lF (ao (qC (.str "owner")) (ao (qC (.str "ground")) (ao (qC (.str "enrol")) (ao (qC (.str "leave")) (ao (qC (.str "bring")) (ao (qC (.str "bear")) (ao (qC (.str "cut")) (ao (qC (.str "tear")) (ao (qC (.str "sell")) (ao (qC (.str "move")) (ao (qC (.str "die")) (ao (qC (.str "unite")) aG)))))))))))))))
 (aF (aM (au 1) (gOf (aA bJ (ak 1) (lF (ao (qC (.str "part")) (ao (qC (.str "pass")) (ao (qC (.str "heir")) aG)))))))
 (aF (aM (au 2) (gOf (lF (ao (qC (.str "")) (ao (qC (.str "n")) (ao (qC (.str "nne")) (ao (qC (.str "nn")) (ao (qC (.str "nne")) (ao (qC (.str "n")) (ao (qC (.str "n")) (ao (qC (.str "np")) (ao (qC (.str "nn")) (ao (qC (.str "nn")) (ao (qC (.str "n")) (ao (qC (.str "nn")) (ao (qC (.str "n")) (ao (qC (.str "nn")) (ao (qC (.str "nnn")) aG))))))))))))))))))
 (aF (aM (au 3) (gOf (aA eO (aN cJ (ao (aJ 0) (ao (qC (.int 0)) aG))) (qC (.int 15)))))
 (aF (lW 4 (Fq (ao (aA dW (ak 1) (ak 3)) aG)))
 (aF (nH (pQ 0 (aA dW (ak 2) (ak 3))) (cO [5,6]) kE)
 (aQ (bR iw (ak 4)))))))))
def oJ:=mQ 8 zJ
def dX:SF:=
 (aF (bL (lg (nR (jO qj qj (qC (.int 1)) (bR cG (ak 0)) (qC cH))) (mj (bR EY (iK (gA (ak 0)) (au 1) [1] jD (aA (inD true) (ak 1) (qC dM)))))) (iV "BadLine") aP)
 (aF (bL (jV (aY (aA bW (aA dW (ak 0) (qC (.int 0))) (qC (.str "0")))) (aY (aA ju (ak 0) (qC (.str "0"))))) (iV "BadLine") aP)
 (aQ (bR intD (ak 0)))))
def bV:=mQ 2 dX
def lu:SF:=
 (aF (bL (lg (aY (aA ju (bR cG (ak 0)) (qC (.int 3)))) (lg (aY (aA (inD true) (iW (ak 0) cW (bh (qC (.int 2)))) (qC aX))) (aY (aA (inD true) (aA dW (ak 0) (qC (.int 2))) (qC jF))))) (iV "BadEar") aP)
 (aQ (uN (ao (Ez [.str "lt",.str "lf",.str "lh",.str "rt",.str "rf",.str "rh"] (iW (ak 0) cW (bh (qC (.int 2))))) (ao (bR intD (aA dW (ak 0) (qC (.int 2)))) aG)))))
def gj:=mQ 1 lu
def cC:SF:=
 (aF (aM (cO [4,5]) (gOf (aN gj (ao (aJ 3) aG))))
 (aF (bL (aY (aA qj (ak 4) (ak 2))) (iV "BadEar") aP)
 (aF (vA 1 (aJ 4) (aJ 5))
 (aM (au 2) (gOf (aJ 4))))))
def lM:SF:=
 (aF (bL (aY (aA bW (ak 0) (qC gG))) (aQ (qC jB)) aP)
 (aF (lW 1 (rE (qC jB)))
 (aF (aM (au 2) (gOf (bR El (qC (.int 1)))))
 (aF (nH (gA (dI oO (ak 0) (qC (.str " ")))) (au 3) cC)
 (aQ (bR iw (ak 1)))))))
def fu:=mQ 6 lM
def jg:SF:=
 (Dm (aN fu (ao (aJ 0) aG)) (λx=>uF.lookup x) "BadLine")
def dO:=mQ 1 jg
def oM:SF:=
 (aF (bL (aY (aA (inD true) (ak 0) (qC aX))) (iV "BadLine") aP)
 (aQ (Ez [.str "lt",.str "lf",.str "lh",.str "rt",.str "rf",.str "rh"] (ak 0))))
def gU:=mQ 1 oM
def jQ:SF:=
 (aF (bL (aY (aA bW (ak 0) (qC (.str "ear")))) (aQ (aN dO (ao (aJ 1) aG))) aP)
 (aF (bL (aY (aA bW (ak 0) (qC (.str "place")))) (aQ (aN gU (ao (aJ 1) aG))) aP)
 (aQ (aN bV (ao (aJ 1) aG)))))
def cP:=mQ 2 jQ
def gK:SF:=
 (aF (aM (au 1) (gOf (aA dW (dI vK (ak 0) (qC (.str " "))) (qC (.int 0)))))
 (aF (bL (aY (wI true (fB cZ) (ak 1))) (iV "BadLine") aP)
 (aF (aM (au 2) (gOf (zA (fB cZ) (ak 1))))
 (aF (Dk 3 4 (gOf (tO lQ (ak 0) (qC (.str " ")) (bR cG (ak 2)))))
 (aF (bL (lg (aY (aA ju (ak 3) (ak 1))) (aY (aA ju (bR cG (ak 4)) (bR cG (ak 2))))) (iV "BadLine") aP)
 (aQ (aA bJ (uN (ao (aJ 1) aG)) (bR iw (tX (uz (ak 2) (ak 4)) (cO [5,6]) [5,6] (lK cP (ao (aJ 5) (ao (aJ 6) aG))))))))))))
def bF:=mQ 7 gK
def Ai:SF:=
 (aQ (lB (kW .int (ak 0)) (CN (kW .bool (ak 0)))))
def qW:=mQ 1 Ai
def w6(r:Mo->List Dat->Out Dat):SF:=
 (bL (nR (mj (aN r (ao (aJ 2) (ao (aJ 3) aG))))) (aQ (qC (.bool false))) aP)
def qH(r:Mo->List Dat->Out Dat):SF:=
 (aF (bL (aY (qQ false .none (ak 1))) (aQ (qQ false .none (ak 0))) aP)
 (aF (bL (aY (qQ false (.bool true) (ak 1))) (aQ (qQ false (.bool true) (ak 0))) aP)
 (aF (bL (aY (qQ false (.bool false) (ak 1))) (aQ (qQ false (.bool false) (ak 0))) aP)
 (aF (bL (mj (kW .int (ak 1))) (aQ (lB (aN qW (ao (aJ 0) aG)) (aA bW (ak 0) (ak 1)))) aP)
 (aF (bL (mj (kW .str (ak 1))) (aQ (lB (kW .str (ak 0)) (aA bW (ak 0) (ak 1)))) aP)
 (aF (bL (jV (mj (kW .tuple (ak 1))) (nR (mj (kW .tuple (ak 0))))) (aQ (qC (.bool false))) aP)
 (aF (bL (jV (mj (kW .list (ak 1))) (nR (mj (kW .list (ak 0))))) (aQ (qC (.bool false))) aP)
 (aF (bL (aY (aA ju (bR cG (ak 0)) (bR cG (ak 1)))) (aQ (qC (.bool false))) aP)
 (aF (nH (uz (aJ 0) (aJ 1)) (cO [2,3]) (w6 r))
 (aQ (qC (.bool true))))))))))))
def iY:Nat->Mo->List Dat->Out Dat
 |0=>λ_ _=>.bad
 |n+1=>mQ 4 (qH (iY n))
def Ad:SF:=
 (aF (aM (au 1) (gOf (lF (ao (qC (.str " ")) (ao (qC (.str "0")) (ao (qC (.str "7")) (ao (qC (.str "cut")) (ao (qC (.str "tear ")) (ao (qC (.str "enrol 1 1 ")) (ao (qC (.str "lt")) (ao (qC (.str "lf3")) (ao (qC (.str "none")) (ao (qC (.str "-")) (ao (qC (.str "\n")) (ao (qC (.str "+")) (ao (qC (.str "1234567890")) (ao (qC (.str "L")) (ao (qC (.str " rh9")) aG))))))))))))))))))
 (aF (aM (au 1) (gOf (aA bJ (ak 1) (lF (ao (qC (.str "owner")) (ao (qC (.str " 12")) (ao (qC (.str "_")) aG)))))))
 (aQ (aA dW (ak 1) (aA eO (ak 0) (qC (.int 18)))))))
def jE:=mQ 2 Ad
def GX:SF:=
 (aF (aM (au 1) (gOf (qC (.str " !\"#$&'()*+,-./0123456789:;<=>?@ABCDEFGHIJKLMNOPQRSTUVWXYZ[\\]^_`"))))
 (aF (aM (au 1) (gOf (aA bJ (ak 1) (qC (.str "abcdefghijklmnopqrstuvwxyz{|}~\n")))))
 (aQ (aA dW (ak 1) (aA eO (ak 0) (qC (.int 95)))))))
def qP:=mQ 2 GX
def Fv:SF:=
 (aF (aM (au 1) (gOf (qC (.str "abcdefghijklmnopqrstuvwxyz"))))
 (aQ (dI gR (qC (.str "")) (iK (gA (aN jR (ao (aJ 0) (ao (aA bJ (qC (.int 3)) (aA eO (bR zM (ak 0)) (qC (.int 4)))) (ao (qC (.int 26)) aG))))) (au 2) [2] jD (aA dW (ak 1) (ak 2))))))
def tL:=mQ 3 Fv
def xY:SF:=
 (aF (aM (au 1) (gOf (aN mY (ao (aN oJ (ao (aJ 0) aG)) aG))))
 (aF (aM (au 2) (gOf (aA eO (aN cJ (ao (aJ 0) (ao (qC (.int 4)) aG))) (qC (.int 6)))))
 (aF (aM (au 3) (gOf (aN cJ (ao (aJ 0) (ao (qC (.int 5)) aG)))))
 (aF (aM (au 4) (gOf (aA eO (aA oV (ak 3) (qC (.int 18))) (aA bJ (bR cG (ak 1)) (qC (.int 1))))))
 (aF (bL (lg (aY (aA bW (ak 2) (qC (.int 1)))) (aY (aA bW (ak 2) (qC (.int 2))))) (aM (au 1) (gOf (aA bJ (aA bJ (iW (ak 1) cW (bh (ak 4))) (aN jE (ao (aJ 3) aG))) (iW (ak 1) (bh (ak 4)) cW)))) aP)
 (aF (bL (aY (aA bW (ak 2) (qC (.int 3)))) (aM (au 1) (gOf (aA bJ (iW (ak 1) cW (bh (ak 4))) (iW (ak 1) (bh (aA bJ (ak 4) (qC (.int 1)))) cW)))) aP)
 (aF (bL (aY (aA bW (ak 2) (qC (.int 4)))) (aF (lW 5 (Qt (ak 1) (qC (.str " "))))
 (aF (aM (au 4) (gOf (aA eO (ak 3) (bR cG (ak 5)))))
 (aF (vA 5 (aJ 4) (aA bJ (qC (.str "0")) (aA dW (ak 5) (ak 4))))
 (aM (au 1) (gOf (dI gR (qC (.str " ")) (ak 5))))))) aP)
 (aF (bL (aY (aA bW (ak 2) (qC (.int 5)))) (aM (au 1) (gOf (dI gR (qC (.str "")) (iK (gA (aN jR (ao (aJ 3) (ao (aA eO (aN cJ (ao (aJ 0) (ao (qC (.int 1)) aG))) (qC (.int 11))) (ao (qC (.int 18)) aG))))) (au 9) [9] jD (aN jE (ao (aJ 9) aG)))))) aP)
 (aF (aM (au 2) (gOf (aA eO (aA oV (aN cJ (ao (aJ 0) (ao (qC (.int 4)) aG))) (qC (.int 6))) (qC (.int 4)))))
 (aF (aM (au 4) (gOf (aA eO (aA oV (aN cJ (ao (aJ 0) (ao (qC (.int 6)) aG))) (qC (.int 95))) (aA bJ (bR cG (ak 1)) (qC (.int 1))))))
 (aF (bL (aY (aA bW (ak 2) (qC (.int 1)))) (aM (au 1) (gOf (aA bJ (aA bJ (iW (ak 1) cW (bh (ak 4))) (aN qP (ao (aN cJ (ao (aJ 0) (ao (qC (.int 6)) aG))) aG))) (iW (ak 1) (bh (ak 4)) cW)))) aP)
 (aF (bL (aY (aA bW (ak 2) (qC (.int 2)))) (aM (au 1) (gOf (aA bJ (aA bJ (iW (ak 1) cW (bh (ak 4))) (aN qP (ao (aN cJ (ao (aJ 0) (ao (qC (.int 6)) aG))) aG))) (iW (ak 1) (bh (aA bJ (ak 4) (qC (.int 1)))) cW)))) aP)
 (aF (bL (aY (aA bW (ak 2) (qC (.int 3)))) (aM (au 1) (gOf (dI gR (qC (.str " ")) (aA bJ (lF (ao (aN tL (ao (aN cJ (ao (aJ 0) (ao (qC (.int 6)) aG))) aG)) aG)) (iW (dI oO (ak 1) (qC (.str " "))) (bh (qC (.int 1))) cW))))) aP)
 (aF (aM (au 6) (gOf (aN iy (ao (aJ 1) aG))))
 (aF (aM (au 7) (gOf (qC (.str ""))))
 (aF (aM (au 8) (gOf (qC .none)))
 (aF (rG (aM (au 8) (gOf (aN bF (ao (aJ 1) aG)))) [⟨"BadLine",λx=>yS.lookup x,none,[(7,(.con (.str "BadLine")))]⟩])
 (aF (bL (aY (qQ false .none (ak 6))) (aQ (aA bW (ak 7) (qC (.str "BadLine")))) aP)
 (aQ (lB (aA bW (ak 7) (qC (.str ""))) (aN (iY 10) (ao (aJ 8) (ao (aJ 6) aG)))))))))))))))))))))))
def KQ:=mQ 10 xY
abbrev rX(N:List Str)(s:Stmt)(G:List (Str×GV))(B:List Str)(Ms:List (Str×List (Str×MV)))(ml:List Str):Option SF:=rd ⟨N,defScope s,G,B,⟨Ms,Hf,Vh,dfH,Nq⟩,ml,true⟩ (defBody s)
abbrev rN(N:List Str)(s:Stmt)(G:List (Str×GV))(B:List Str)(ml:List Str):Option SF:=(ts true (tr 40) 60).B ⟨N,defScope s,G,B,⟨[],[],[],[],[]⟩,ml,true⟩ (defBody s)
theorem V7:FnScope ["_law_found","_law_due","_law_one","_law_other"] ["_law_found","_law_due"] (defScope xP):=⟨rfl,rfl,rfl,by decide +kernel,rfl,by decide +kernel,by decide +kernel⟩
theorem YS:FnScope ["_law_script","_law_line","_law_way","_law_cell_here","_law_at","_law_some","_law_due","_law_word_here","_law_found","_law_figure"] ["_law_script"] (defScope vq):=⟨rfl,rfl,rfl,by decide +kernel,rfl,by decide +kernel,by decide +kernel⟩
theorem SM:rX ["parts","depth"] Gk [("GREATEST_DEPTH",.con fO),("PLACES",.con aX)] ["all","len"] [] []=some sG:=by kernel_rfl
theorem Ja:rX ["kind","part","greatest"] vO [("PLACES",.con aX),("GREATEST_PART",.con bM),("is_ear",.fq 1 lZ)] ["isinstance","int","len","tuple"] [] []=some cR:=by kernel_rfl
theorem abl:rX ["deed","shape","parts","kind","part"] Oz [("part_fits",.fq 2 bO),("SHAPES",.dic (fB cZ))] ["all","zip","len"] [] []=some mU:=by kernel_rfl
theorem WY:rX ["ear","words","place","depth"] JM [("BARE_WORD",.con gG),("PLACES",.con aX)] ["zip"] [] []=some vh:=by kernel_rfl
theorem Ak:rX ["kind","part"] qX [("PLACES",.con aX),("shown",.fq 1 oH)] ["str"] [] []=some gW:=by kernel_rfl
theorem Pq:rX ["deed","word","kind","part"] Cq [("SHAPES",.dic (fB cZ)),("part_written",.fq 2 dh),("BadDeed",.exc),("fits",.fq 1 jr)] ["zip"] [] []=some uO:=by kernel_rfl
theorem aas:rX ["_law_script","_law_k"] QC [] ["len"] [] []=some Hu:=by kernel_rfl
theorem Ji:rX ["_law_text","_law_sign_here"] v9 [] ["int","len"] [] []=some eX:=by kernel_rfl
theorem Rx:rX ["_law_text","_law_depths","_law_rest","_law_place","_law_depth"] GP [] ["tuple","sum","int"] [] ["_law_depths"]=some lY:=by kernel_rfl
theorem Wf:rX ["_law_line","_law_words","_law_shapes","_law_some","_law_shape","_law_parts","_law_k","_law_kind","_law_part"] Ku [("_law_ear_of",.fq 1 iI),("_law_number_of",.fq 1 cV)] ["tuple","enumerate","len"] [] ["_law_parts"]=some jH:=by kernel_rfl
theorem abO:rX ["_law_cell_here","_law_many","_law_base","_law_found","_law_k","_law_turn"] s_row [] ["range","abs"] [] ["_law_found"]=some La:=by kernel_rfl
theorem RG:rX ["_law_figures","_law_mode","_law_figure"] Hh [] ["tuple","max"] [] []=some wM:=by kernel_rfl
theorem acn:rX ["_law_cell_here","_law_figures"] UJ [("_law_ear_by",.fq 2 mF),("_law_row",.fq 3 jR)] [] [] []=some Mf:=by kernel_rfl
theorem Wm:rX ["_law_script","_law_words","_law_shapes","_law_at","_law_parts","_law_k","_law_shape","_law_cell_here"] Ju [("_law_ear",.fq 1 yq),("_law_cell",.fq 2 cJ)] ["tuple","enumerate"] [] ["_law_parts"]=some zJ:=by kernel_rfl
theorem CJ:rX ["text","sign"] tD [("BadLine",.exc),("FIGURES_deeds",.con dM),("MOST_FIGURES",.con cH)] ["int","any","len"] [] []=some dX:=by kernel_rfl
theorem Mx:rN ["word"] yV [("PLACES",.con aX),("BadEar",.exc),("FIGURES_ears",.con jF)] ["int","len"] []=some lu:=by kernel_rfl
theorem K7:rN ["text","depths","last","word","place","depth"] xR [("BadEar",.exc),("read_cut",.fqN 1 gj),("BARE_EAR",.con jB),("BARE_WORD",.con gG)] ["tuple","list"] ["depths"]=some lM:=by kernel_rfl
theorem yU:rX ["text"] pA [("read_ear",.fqN 1 fu),("BadEar",.exc),("BadLine",.exc)] [] [] []=some jg:=by kernel_rfl
theorem Gp:rX ["text"] uG [("PLACES",.con aX),("BadLine",.exc)] [] [] []=some oM:=by kernel_rfl
theorem Jh:rX ["kind","text"] v7 [("read_number",.fq 1 bV),("read_place",.fq 1 gU),("read_ear_part",.fq 1 dO)] [] [] []=some jQ:=by kernel_rfl
theorem Iw:rX ["line","word","shape","head","texts","kind","text"] vU [("read_part",.fq 2 cP),("BadLine",.exc),("SHAPES",.dic (fB cZ))] ["tuple","zip","len"] [] ["!"]=some gK:=by kernel_rfl
theorem X5:rX ["_law_found"] Ks [] ["isinstance","bool","int"] [] []=some Ai:=by kernel_rfl
theorem Yu(r:Mo->List Dat->Out Dat):rd ⟨["_law_found","_law_due","_law_one","_law_other"],defScope xP,[("_law_like",.fq 2 r),("_law_whole",.fq 1 qW)],["zip","len","isinstance","list","tuple","str","int"],⟨[],Hf,Vh,dfH,Nq⟩,[],true⟩ (defBody xP)=some (qH r):=by kernel_rfl
theorem Xu:rX ["_law_figure","_law_some"] JR [] [] [] []=some Ad:=by kernel_rfl
theorem aao:rX ["_law_cell_here","_law_some"] Q6 [] [] [] []=some GX:=by kernel_rfl
theorem Zb:rX ["_law_cell_here","_law_signs","_law_figure"] Qm [("_law_row",.fq 3 jR)] ["abs"] [] []=some Fv:=by kernel_rfl
theorem ab5:rX ["_law_script","_law_line","_law_way","_law_cell_here","_law_at","_law_some","_law_due","_law_word_here","_law_found","_law_figure"] vq [("_law_like",.fq 2 (iY 10)),("read_deed",.fq 1 bF),("BadLine",.exc),("_law_meant",.fq 1 iy),("_law_word",.fq 1 tL),("_law_cell",.fq 2 cJ),("_law_sign",.fq 1 qP),("_law_row",.fq 3 jR),("_law_piece",.fq 1 jE),("written",.fq 1 mY),("_law_tuple",.fq 1 oJ)] ["len"] [] ["_law_some"]=some xY:=by kernel_rfl
structure Top(w:World)(K:agw)(mg:Str->Option Value):Prop where
 ex:∃h:Heap,K.In h/\h.Ns mainGlobals mg
 c:vD fa fn Oj N7 w K
abbrev aj(w:World)(K:agw):aC:=mH w K Yc Hf
section
variable{P:Program}{w:World}{K:agw}{mg:Str->Option Value}{base:Heap}{k:Nat}(T:Top w K mg)
include T
theorem Top.glo(i:Nat){x:Str}(h:fa[i]?=some (.glo x):=by rfl):mg x=some (.ref (He.ga K x)):=by obtain⟨_,X,G⟩:=T.ex;exact He.glo_ok X G (T.c.Ho i h)
theorem Top.free(i:Nat){x:Str}(h:fa[i]?=some (.free x):=by rfl):mg x=none:=by obtain⟨_,X,G⟩:=T.ex;exact He.free_ok X G (T.c.Ho i h)
theorem Top.int(i:Nat){x:Str}{j:Int}(h:fa[i]?=some (.int x j):=by rfl):∃t,mg x=some (.int j t):=by obtain⟨_,X,G⟩:=T.ex;exact He.int_ok X G (T.c.Ho i h)
theorem Top.str(i:Nat){x j:Str}(h:fa[i]?=some (.str x j):=by rfl):∃t,mg x=some (.str j t):=by obtain⟨_,X,G⟩:=T.ex;exact He.str_ok X G (T.c.Ho i h)
theorem wQ:aU P w K mg base (aj w K) k "GREATEST_DEPTH" (.con fO):=by obtain⟨t,h⟩:=T.int 34;exact DN h
theorem lV:aU P w K mg base (aj w K) k "PLACES" (.con aX):=NT (T.glo 35) (λH=>He.tupB_ok ((He.ba (He.ba (He.ba (He.ba T.c.more).1).1).1).2) H) rfl rfl ((He.ba (He.ba (He.ba T.c.more).1).1).2)
theorem za:aU P w K mg base (aj w K) k "GREATEST_PART" (.con bM):=by obtain⟨t,h⟩:=T.int 36;exact DN h
theorem wX:aU P w K mg base (aj w K) k "SHAPES" (.dic (fB cZ)):=abk (T.glo 33) (He.ba (He.ba (He.ba (He.ba (He.ba T.c.more).1).1).1).1).2 (T.c.t.tab 0)
theorem vR:aU P w K mg base (aj w K) k "BARE_WORD" (.con gG):=by obtain⟨t,h⟩:=T.str 37;exact HW h
theorem yW:aU P w K mg base (aj w K) k "FIGURES_deeds" (.con dM):=by obtain⟨t,h⟩:=T.str 38;exact HW h
theorem Am:aU P w K mg base (aj w K) k "MOST_FIGURES" (.con cH):=by obtain⟨t,h⟩:=T.int 39;exact DN h
theorem zU:aU P w K mg base (aj w K) k "FIGURES_ears" (.con jF):=by obtain⟨t,h⟩:=T.str 40;exact HW h
theorem Mz:aU P w K mg base (aj w K) k "BARE_EAR" (.con jB):=NT (T.glo 41) (λH=>He.tupB_ok ((He.ba (He.ba T.c.more).1).2) H) rfl rfl ((He.ba T.c.more).2)
theorem QH:aU P w K mg base (aj w K) k "BadDeed" .exc:=FW (by rfl) (T.glo 27) (T.c.Ho 28)
theorem mZ:aU P w K mg base (aj w K) k "BadLine" .exc:=FW (by rfl) (T.glo 29) (T.c.Ho 30)
theorem wz:aU P w K mg base (aj w K) k "BadEar" .exc:=FW (by rfl) (T.glo 31) (T.c.Ho 32)
theorem Top.UW:uw K Hf=true:=(He.ba (He.ba (He.ba (He.ba (He.ba (He.ba (He.ba (He.ba T.c.more).1).1).1).1).1).1).1).2
theorem Top.xf:(Nq.all λp=>Yc.contains p.1&&KN K p.1 p.2)=true:=(He.ba (He.ba (He.ba (He.ba (He.ba (He.ba T.c.more).1).1).1).1).1).2
theorem Top.hs{Ms:List (Str×List (Str×MV))}(h:z9 P w K mg base (aj w K) k Ms):tM P w K mg base (aj w K) k ⟨Ms,Hf,Vh,dfH,Nq⟩:=ab7 h T.UW (He.ba (He.ba (He.ba (He.ba (He.ba (He.ba (He.ba T.c.more).1).1).1).1).1).1).2 (by rfl) T.xf
theorem Top.cls{c:Str}{fs:List Str}(h:Hf.lookup c=some fs:=by rfl):Cls K (He.ga K c):=(Ik T.UW h).1
local macro_rules | `(tactic| nofun)=>`(tactic| first | (exact λ_ _ _ _ _ _ us hl=>match us,hl with | [_],_=>rfl) | (exact λ_ _ _ _ _ _ us hl=>match us,hl with | [_,_],_=>rfl) | (exact λ_ _ _ _ _ _ us hl=>match us,hl with | [_,_,_],_=>rfl) | (exact λ_ _ _ _ _ _ us hl=>match us,hl with | [_,_,_,_],_=>rfl) | (exact λ_ _ _ _ _ _ us hl=>match us,hl with | [_,_,_,_,_],_=>rfl) | (exact λ_ _ _ _ _ _ us hl=>match us,hl with | [_,_,_,_,_,_],_=>rfl) | (exact λ_ _ _ _ _ _ us hl=>match us,hl with | [_,_,_,_,_,_,_],_=>rfl) | (exact λ_ _ _ _ _ _ us hl=>match us,hl with | [_,_,_,_,_,_,_,_],_=>rfl))
theorem vQ(i j:Nat){x:Str}{k0:Nat}(hk:k0+1<=k){st:Stmt}{N ps ml B:List Str}{G:List (Str×GV)}{Ms:List (Str×List (Str×MV))}{body:SF}(h:rX N st G B Ms ml=some body)(g:rY P w K mg base (aj w K) k0 G)(b:rJ mg B)(ms:z9 P w K mg base (aj w K) k0 Ms)(hi:fn[i]?=some (dF x st):=by rfl)(hj:fa[j]?=some (.glo x):=by rfl)(S:FnScope N ps (defScope st):=by exact⟨rfl,rfl,rfl,by decide +kernel,rfl,by decide +kernel,by decide +kernel⟩)(hb:∀(kV doc pm:Value) (an:Option Addr) (cdv ct:Value) (us:List Value),us.length=ps.length->bindArgs (PySem.W.fnOf x x (defArgs st) (defBody st) (defScope st) .none kV doc pm an cdv ct) ⟨us,[]⟩=pure (ps.zip us):=by nofun):aU P w K mg base (aj w K) k x (.fq ps.length (mQ N.length body)):=by obtain⟨fd,F⟩:=T.c.Vi i hi;exact Rq hk (T.glo j hj) F.kp (FunD.bindsN (ps:=ps) F hb) (Ep (CV F) S g b (T.hs ms) h)
theorem vN(i j:Nat){x:Str}{k0:Nat}(hk:k0+1<=k){st:Stmt}{N ps ml B:List Str}{G:List (Str×GV)}{body:SF}(h:rN N st G B ml=some body)(g:rY P w K mg base (aj w K) k0 G)(b:rJ mg B)(hG:(G.all λp=>!p.2.soft)=true:=by rfl)(hi:fn[i]?=some (dF x st):=by rfl)(hj:fa[j]?=some (.glo x):=by rfl)(S:FnScope N ps (defScope st):=by exact⟨rfl,rfl,rfl,by decide +kernel,rfl,by decide +kernel,by decide +kernel⟩)(hb:∀(kV doc pm:Value) (an:Option Addr) (cdv ct:Value) (us:List Value),us.length=ps.length->bindArgs (PySem.W.fnOf x x (defArgs st) (defBody st) (defScope st) .none kV doc pm an cdv ct) ⟨us,[]⟩=pure (ps.zip us):=by nofun):aU P w K mg base (aj w K) k x (.fqN ps.length (mQ N.length body)):=by obtain⟨fd,F⟩:=T.c.Vi i hi;exact abH hk (T.glo j hj) F.kp (FunD.bindsN (ps:=ps) F hb) (aaG (CV F) S g b (Ri hG) (Vx rfl (T.hs (P:=P) (base:=base) (k:=k0) (Ms:=[]) ahs).co) h)
theorem Ss(hk:1<=k:=by omega):aU P w K mg base (aj w K) k "is_ear" (.fq 1 lZ):=vQ T 0 0 hk (ps:=["parts"]) SM ⟨wQ T,lV T,ahs⟩ ⟨T.free 42,T.free 43,ahs⟩ ahs
theorem Jc(hk:2<=k:=by omega):aU P w K mg base (aj w K) k "part_fits" (.fq 2 bO):=vQ T 1 1 hk (ps:=["kind","part"]) Ja ⟨lV T,za T,Ss T,ahs⟩ ⟨T.free 44,T.free 45,T.free 43,T.free 46,ahs⟩ ahs
theorem Zo(hk:3<=k:=by omega):aU P w K mg base (aj w K) k "fits" (.fq 1 jr):=vQ T 2 2 hk (ps:=["deed"]) abl ⟨Jc T,wX T,ahs⟩ ⟨T.free 42,T.free 47,T.free 43,ahs⟩ ahs
theorem VP(hk:1<=k:=by omega):aU P w K mg base (aj w K) k "shown" (.fq 1 oH):=vQ T 3 3 hk (ps:=["ear"]) WY ⟨vR T,lV T,ahs⟩ ⟨T.free 47,ahs⟩ ahs
theorem zE(hk:2<=k:=by omega):aU P w K mg base (aj w K) k "part_written" (.fq 2 dh):=vQ T 4 4 hk (ps:=["kind","part"]) Ak ⟨lV T,VP T,ahs⟩ ⟨T.free 48,ahs⟩ ahs
theorem Qv(hk:4<=k:=by omega):aU P w K mg base (aj w K) k "written" (.fq 1 mY):=vQ T 5 5 hk (ps:=["deed"]) Pq ⟨wX T,zE T,QH T,Zo T,ahs⟩ ⟨T.free 47,ahs⟩ ahs
theorem Qa(hk:1<=k:=by omega):aU P w K mg base (aj w K) k "_law_cell" (.fq 2 cJ):=vQ T 6 6 hk (ps:=["_law_script","_law_k"]) aas ahs ⟨T.free 43,ahs⟩ ahs
theorem Jb(hk:1<=k:=by omega):aU P w K mg base (aj w K) k "_law_number_of" (.fq 1 cV):=vQ T 7 7 hk (ps:=["_law_text"]) Ji ahs ⟨T.free 45,T.free 43,ahs⟩ ahs
theorem Uk(hk:1<=k:=by omega):aU P w K mg base (aj w K) k "_law_ear_of" (.fq 1 iI):=vQ T 8 8 hk (ps:=["_law_text"]) Rx ahs ⟨T.free 46,T.free 49,T.free 45,ahs⟩ ahs
theorem XQ(hk:2<=k:=by omega):aU P w K mg base (aj w K) k "_law_meant" (.fq 1 iy):=vQ T 9 9 hk (ps:=["_law_line"]) Wf ⟨Uk T,Jb T,ahs⟩ ⟨T.free 46,T.free 50,T.free 43,ahs⟩ ahs
theorem Lp(hk:1<=k:=by omega):aU P w K mg base (aj w K) k "_law_row" (.fq 3 jR):=vQ T 10 10 hk (ps:=["_law_cell_here","_law_many","_law_base"]) abO ahs ⟨T.free 51,T.free 52,ahs⟩ ahs
theorem SN(hk:1<=k:=by omega):aU P w K mg base (aj w K) k "_law_ear_by" (.fq 2 mF):=vQ T 11 11 hk (ps:=["_law_figures","_law_mode"]) RG ahs ⟨T.free 46,T.free 53,ahs⟩ ahs
theorem ace(hk:2<=k:=by omega):aU P w K mg base (aj w K) k "_law_ear" (.fq 1 yq):=vQ T 12 12 hk (ps:=["_law_cell_here"]) acn ⟨SN T,Lp T,ahs⟩ ahs ahs
theorem Wb(hk:3<=k:=by omega):aU P w K mg base (aj w K) k "_law_tuple" (.fq 1 oJ):=vQ T 13 13 hk (ps:=["_law_script"]) Wm ⟨ace T,Qa T,ahs⟩ ⟨T.free 46,T.free 50,ahs⟩ ahs
theorem Cy(hk:1<=k:=by omega):aU P w K mg base (aj w K) k "read_number" (.fq 1 bV):=vQ T 14 14 hk (ps:=["text"]) CJ ⟨mZ T,yW T,Am T,ahs⟩ ⟨T.free 45,T.free 54,T.free 43,ahs⟩ ahs
theorem MN(hk:1<=k:=by omega):aU P w K mg base (aj w K) k "read_cut" (.fqN 1 gj):=vN T 15 15 hk (ps:=["word"]) Mx ⟨lV T,wz T,zU T,ahs⟩ ⟨T.free 45,T.free 43,ahs⟩
theorem LQ(hk:2<=k:=by omega):aU P w K mg base (aj w K) k "read_ear" (.fqN 1 fu):=vN T 16 16 hk (ps:=["text"]) K7 ⟨wz T,MN T,Mz T,vR T,ahs⟩ ⟨T.free 46,T.free 55,ahs⟩
theorem yc(hk:3<=k:=by omega):aU P w K mg base (aj w K) k "read_ear_part" (.fq 1 dO):=vQ T 17 17 hk (ps:=["text"]) yU ⟨LQ T,wz T,mZ T,ahs⟩ ahs ahs
theorem Fy(hk:1<=k:=by omega):aU P w K mg base (aj w K) k "read_place" (.fq 1 gU):=vQ T 18 18 hk (ps:=["text"]) Gp ⟨lV T,mZ T,ahs⟩ ahs ahs
theorem Jf(hk:4<=k:=by omega):aU P w K mg base (aj w K) k "read_part" (.fq 2 cP):=vQ T 19 19 hk (ps:=["kind","text"]) Jh ⟨Cy T,Fy T,yc T,ahs⟩ ahs ahs
theorem Iv(hk:5<=k:=by omega):aU P w K mg base (aj w K) k "read_deed" (.fq 1 bF):=vQ T 20 20 hk (ps:=["line"]) Iw ⟨Jf T,mZ T,wX T,ahs⟩ ⟨T.free 46,T.free 47,T.free 43,ahs⟩ ahs
theorem Vw(hk:1<=k:=by omega):aU P w K mg base (aj w K) k "_law_whole" (.fq 1 qW):=vQ T 21 21 hk (ps:=["_law_found"]) X5 ahs ⟨T.free 44,T.free 56,T.free 45,ahs⟩ ahs
theorem Yo(hk:12<=k:=by omega):aU P w K mg base (aj w K) k "_law_like" (.fq 2 (iY 10)):=by
 obtain⟨fd,F⟩:=T.c.Vi 22;have b:=FunD.bindsN (ps:=["_law_found","_law_due"]) F λ_ _ _ _ _ _ us hl=>match us,hl with|[_,_],_=>rfl
 have key:∀j:Nat,FnOk P w K mg base (L2.CX P w) (2+j) (He.ga K "_law_like") fd ["_law_found","_law_due"] (qm K (aj w K) 2 (iY j)):=by
  intro j
  induction j with
  |zero=>exact Y5
  |succ j ih'=>
   have ih:∀{k:Nat},2+j<=k->aU P w K mg base (aj w K) k "_law_like" (.fq 2 (iY j)):=λhk=>Rq hk (T.glo 22) F.kp (b) ih'
   refine Ep (k:=2+j) (CV F) V7 ?_ ?_ ?_ (Yu (iY j))
   .exact⟨ih (agL _),Vw T,ahs⟩
   .exact⟨T.free 47,T.free 43,T.free 44,T.free 55,T.free 46,T.free 48,T.free 45,ahs⟩
   .exact T.hs ahs
 exact Rq hk (T.glo 22) F.kp (b) (key 10)
theorem Xn(hk:1<=k:=by omega):aU P w K mg base (aj w K) k "_law_piece" (.fq 1 jE):=vQ T 23 23 hk (ps:=["_law_figure"]) Xu ahs ahs ahs
theorem YX(hk:1<=k:=by omega):aU P w K mg base (aj w K) k "_law_sign" (.fq 1 qP):=vQ T 24 24 hk (ps:=["_law_cell_here"]) aao ahs ahs ahs
theorem YW(hk:2<=k:=by omega):aU P w K mg base (aj w K) k "_law_word" (.fq 1 tL):=vQ T 25 25 hk (ps:=["_law_cell_here"]) Zb ⟨Lp T,ahs⟩ ⟨T.free 52,ahs⟩ ahs
theorem acf{fd:FuncData}(F:FunD K "law" "law" (defArgs vq) (defBody vq) (defScope vq) [] [] (He.ga K "law") fd):FnOk P w K mg base (L2.CX P w) 13 (He.ga K "law") fd ["_law_script"] (qm K (aj w K) 1 KQ):=by
 refine Ep (k:=12) (CV F) YS ?_ ?_ ?_ ab5
 .exact⟨Yo T,Iv T,mZ T,XQ T,YW T,Qa T,YX T,Lp T,Xn T,Qv T,Wb T,ahs⟩
 .exact⟨T.free 43,ahs⟩
 .exact T.hs ahs
end
def digs(b:Int):Nat->Int->List Int
 |0,_=>[]
 |n+1,c=>c%b::digs b n (c/b)
def vP(b:Int):Nat->Int->Int->List Int
 |0,_,_=>[]
 |n+1,k,t=>((t*48271+9973*k+11)%2147483647/1021%b)::vP b n (k+1) ((t*48271+9973*k+11)%2147483647)
def jZ(c:Int):Int:=if c<0 then -c else c
def rowOf(c:Int)(n:Nat)(b:Int):List Int:=if 10^18<=jZ c then digs b n (jZ c) else vP b n 0 ((jZ c%1000003+17)*69621%2147483647)
theorem Il(b:Int):∀n c,(digs b n c).length=n
 |0,_=>rfl
 |n+1,c=>by simp[digs,Il b n]
theorem JX(b:Int):∀n k t,(vP b n k t).length=n
 |0,_,_=>rfl
 |n+1,k,t=>by simp[vP,JX b n]
theorem KC{b:Int}(hb:0<b):∀n c,∀x∈digs b n c,0<=x/\x<b
 |0,_,x,h=>by simp[digs]at h
 |n+1,c,x,h=>by
  rcases agI.mp h with rfl|h
  .exact⟨Int.emod_nonneg _ (by omega),Int.emod_lt_of_pos _ hb⟩
  .exact KC hb n _ x h
theorem Oh{b:Int}(hb:0<b):∀n k t,∀x∈vP b n k t,0<=x/\x<b
 |0,_,_,x,h=>by simp[vP]at h
 |n+1,k,t,x,h=>by
  rcases agI.mp h with rfl|h
  .exact⟨Int.emod_nonneg _ (by omega),Int.emod_lt_of_pos _ hb⟩
  .exact Oh hb n _ _ x h
@[simp]theorem oF (c:Int) (n:Nat) (b:Int):(rowOf c n b).length=n:=by
 unfold rowOf;split
 .exact Il ..
 .exact JX ..
theorem Gz{b:Int}(hb:0<b)(c:Int)(n:Nat):∀x∈rowOf c n b,0<=x/\x<b:=by
 unfold rowOf;split
 .exact KC hb _ _
 .exact Oh hb _ _ _
@[simp]theorem zq (M:Mo) (ns:List Int) (k:Nat):cJ M [lI ns,.int k]=.ok (.int (ns.getD k 0)):=by
 unfold cJ Hu;by_cases h:k<ns.length
 .simp[h,atI,ixN]
 .simp[h]
theorem Fw(M:Mo)(b:Int)(hb:0<b)(hb2:b<1073741824):∀(n k:Nat) (c:Int) (x1:Option Cell) (acc:List Dat) (x4 x5:Option Cell),acc.length+n<100000->∃c' x4',bZ (au 4) Ay ((List.range' k n).map λ(i:Nat)=>PyData.int (i:Int)) M [some (.dat (.int c)),x1,some (.dat (.int b)),some (.mut acc),x4,x5]=.next [c',x1,some (.dat (.int b)),some (.mut (acc++(digs b n c).map .int)),x4',x5] M
 |0,k,c,x1,acc,x4,x5,_=>⟨some (.dat (.int c)),x4,by simp[bZ,digs]⟩
 |n+1,k,c,x1,acc,x4,x5,hl=>by
  obtain⟨c',x4',ih⟩:=Fw M b hb hb2 n (k+1) (c/b) x1 (acc++[.int (c%b)]) (some (.dat (.int k))) x5 (by simp;omega);refine⟨c',x4',?_⟩;have h1:decide (CDiv c b)=true:=decide_eq_true ⟨hb,hb2⟩;have hl:acc.length<100000:=by omega
  rw[List.range'_succ,agy,fZ (Z1:=[some (.dat (.int c)),x1,some (.dat (.int b)),some (.mut acc),some (.dat (.int k)),x5]) (by simp) (Z2:=[some (.dat (.int (c/b))),x1,some (.dat (.int b)),some (.mut (acc++[.int (c%b)])),some (.dat (.int k)),x5]) (M2:=M) (by simp[Ay,h1,hb,hl])];rw[ih];simp[digs]
theorem Jt(M:Mo)(b:Int)(hb:0<b):∀(n k:Nat) (t:Int) (x0 x1:Option Cell) (acc:List Dat) (x4:Option Cell),acc.length+n<100000->∃x4' x5',bZ (au 4) zQ ((List.range' k n).map λ(i:Nat)=>PyData.int (i:Int)) M [x0,x1,some (.dat (.int b)),some (.mut acc),x4,some (.dat (.int t))]=.next [x0,x1,some (.dat (.int b)),some (.mut (acc++(vP b n k t).map .int)),x4',x5'] M
 |0,k,t,x0,x1,acc,x4,_=>⟨x4,some (.dat (.int t)),by simp[bZ,vP]⟩
 |n+1,k,t,x0,x1,acc,x4,hl=>by
  obtain⟨x4',x5',ih⟩:=Jt M b hb n (k+1) ((t*48271+9973*k+11)%2147483647) x0 x1 (acc++[.int ((t*48271+9973*k+11)%2147483647/1021%b)]) (some (.dat (.int k))) (by simp;omega);refine⟨x4',x5',?_⟩;have h1:decide (CMul t 48271)=true:=mul_r (by decide);have h2:decide (CMul 9973 (k:Int))=true:=abv (by decide);have h3:∀x,decide (CDiv x 1021)=true:=λx=>decide_eq_true ⟨by decide,by decide⟩;have hl:acc.length<100000:=by omega
  rw[List.range'_succ,agy,fZ (Z1:=[x0,x1,some (.dat (.int b)),some (.mut acc),some (.dat (.int k)),some (.dat (.int t))]) (by simp) (Z2:=[x0,x1,some (.dat (.int b)),some (.mut (acc++[.int ((t*48271+9973*k+11)%2147483647/1021%b)])),some (.dat (.int k)),some (.dat (.int ((t*48271+9973*k+11)%2147483647)))]) (M2:=M) (by simp[zQ,h1,h2,h3,hb,hl])];rw[ih];simp[vP]
theorem yw(n:Nat):jN 0 n=(List.range' 0 n).map λ(i:Nat)=>PyData.int (i:Int):=by unfold jN;rw[List.range_eq_range'];simp
theorem Eb(M:Mo)(c:Int)(n:Nat)(b:Int)(hb:0<b)(hb2:b<1073741824)(hn:n<=1000):jR M [.int c,.int n,.int b]=.ok (lI (rowOf c n b)):=by
 unfold jR La;have hp:decide (CPow 10 18)=true:=decide_eq_true ⟨by decide,by decide,by decide⟩;have hn1:(n:Int)<=100000:=by omega
 have hn2 : -100000<=(n:Int):=by omega
 have hm:∀x,decide (CMul x 69621)=true:=λx=>mul_r (by decide);have ea:(if c<0 then -c else c)=jZ c:=rfl;by_cases h:10^18<=jZ c
 .obtain⟨c',x4',e⟩:=Fw M b hb hb2 n 0 (jZ c) (some (.dat (.int n))) [] none none (by simp;omega);have e2:rowOf c n b=digs b n (jZ c):=ahy h;have h':(1000000000000000000:Int)<=jZ c:=by simpa using h
  simp[hp,ea,h',hn1,hn2,yw,e,e2]
 .obtain⟨x4',x5',e⟩:=Jt M b hb n 0 ((jZ c%1000003+17)*69621%2147483647) (some (.dat (.int (jZ c)))) (some (.dat (.int n))) [] none (by simp;omega);have e2:rowOf c n b=vP b n 0 ((jZ c%1000003+17)*69621%2147483647):=ahz h;have h':¬(1000000000000000000:Int)<=jZ c:=by simpa using h
  have e':=e;simp[hp,ea,h',hn1,hn2,hm,yw]at e |-
  rw[e];simp[e2]
def KR(i j:Int):Int:=if j>i then j else i
def pF(l:List Int)(m:Int):List Int:=if m%4=1 then l.map λf=>KR 0 (f-7) else if m%4=2 then l.map λf=>f%3 else l
theorem Ny(M:Mo)(l:List Int)(m:Int)(hl:l.length<=1000):mF M [lI l,.int m]=.ok (gQ (pF l m)):=by
 unfold mF wM;have hl':l.length<=50000:=by omega
 have c1:=iD (tg:=au 2) (te:=aA vC (qC (.int 0)) (aA wG (ak 2) (qC (.int 7)))) (M:=M) (ρ:=[some (.dat (lI l)),some (.dat (.int m)),none]) PyData.int (λf=>.int (KR 0 (f-7))) l λx _=>⟨_,rfl,by simp[KR]⟩;have c2:=iD (tg:=au 2) (te:=aA eO (ak 2) (qC (.int 3))) (M:=M) (ρ:=[some (.dat (lI l)),some (.dat (.int m)),none]) PyData.int (λf=>.int (f%3)) l λx _=>⟨_,rfl,by simp⟩;by_cases h1:m%4=1
 .simp[h1,hl',c1,pF,Function.comp_def]
 .by_cases h2:m%4=2
  .simp[h2,hl',c2,pF,Function.comp_def]
  .simp[h1,h2,pF]
def rO(c:Int):List Int:=pF ((rowOf c 7 10).take 6) ((rowOf c 7 10).getD 6 0)
theorem Uc{α:Type}(l:List α)(n:Nat):Rf.cutD l none (some (n:Int))=l.take n:=by unfold Rf.cutD;rw[HT.sIx_nat];simp[HT.sIx]
theorem rR{α:Type}(l:List α)(n:Nat):Rf.cutD l (some (n:Int)) none=l.drop n:=by
 unfold Rf.cutD;rw[HT.sIx_nat];simp[HT.sIx];by_cases h:n<=l.length
 .rw[Nat.min_eq_left h];exact List.take_of_length_le (by simp)
 .rw[Nat.min_eq_right (by omega),List.drop_eq_nil_of_le (by omega),List.drop_eq_nil_of_le (by omega)];simp
theorem RM(l:List Int)(n:Nat)(h:n<l.length):atI (l.map PyData.int) (n:Int)=some (.int (l.getD n 0)):=atI_nat (by simp[h])
theorem ZM(M:Mo)(c:Int):yq M [.int c]=.ok (gQ (rO c)):=by
 unfold yq Mf;have h1:jR M [.int c,.int 7,.int 10]=.ok (.list ((rowOf c 7 10).map .int)):=Eb M c 7 10 (by decide) (by decide) (by decide);have h2:Rf.cutD ((rowOf c 7 10).map PyData.int) none (some 6)=((rowOf c 7 10).take 6).map PyData.int:=by rw[show(6:Int)=((6:Nat):Int) from rfl,Uc,List.map_take]
 have h3:atI ((rowOf c 7 10).map PyData.int) 6=some (.int ((rowOf c 7 10).getD 6 0)):=RM _ 6 (by simp);have h4:mF M [.list (((rowOf c 7 10).take 6).map .int),.int ((rowOf c 7 10).getD 6 0)]=.ok (.tuple ((rO c).map .int)):=Ny M _ _ (by simp);generalize (rowOf c 7 10).getD 6 0=z at h3 h4;generalize ((rowOf c 7 10).take 6).map PyData.int=y at h2 h4;simp[h1,h2,h3,h4]
theorem Bs(c:Int):(rO c).length=6:=by
 unfold rO pF;split
 .simp
 .split<;>simp
theorem Rp{l:List Int}{m:Int}(h:∀x∈l,0<=x/\x<10):∀x∈pF l m,0<=x/\x<10:=by
 unfold pF KR;split
 .intro x hx;obtain⟨y,hy,rfl⟩:=agU.mp hx;have:=h y hy
  split<;>omega
 .split
  .intro x hx;obtain⟨y,hy,rfl⟩:=agU.mp hx;have:=h y hy;omega
  .exact h
theorem Tj(c:Int):∀x∈rO c,0<=x/\x<10:=Rp λx hx=>Gz (by decide) c 7 x (ag8 hx)
mutual
def lk:Nat->Dat->Bool
 |_,.none=>true
 |_,.bool _=>true
 |_,.int _=>true
 |_,.str _=>true
 |n+1,.list ds=>yg n ds
 |n+1,.tuple ds=>yg n ds
 |0,.list _=>false
 |0,.tuple _=>false
 |_,.dict _=>false
def yg:Nat->List Dat->Bool
 |_,[]=>true
 |n,d::ds=>lk n d&&yg n ds
end
theorem qO{n:Nat}:∀{ds:List Dat},yg n ds=true↔∀d∈ds,lk n d=true
 |[]=>by simp[yg]
 |d::ds=>by simp[yg,qO (ds:=ds)]
@[simp]theorem ac4 (n:Nat) (l:List Int):yg n (l.map PyData.int)=true:=qO.mpr λd h=>by
 obtain⟨i,_,rfl⟩:=agU.mp h;simp[lk]
theorem Cg(M:Mo)(i:Int):qW M [.int i]=.ok (.bool true):=by unfold qW Ai;simp[je,jX]
theorem zip_self(ds:List Dat):iz ds ds=ds.map λd=>.tuple [d,d]:=by unfold iz;rw[List.zipWith_self]
theorem uI(M:Mo)(r:Mo->List Dat->Out Dat)(x0 x1:Option Cell):∀(ds:List Dat) (x2 x3:Option Cell),(∀d∈ds,r M [d,d]=.ok (.bool true))->∃x2' x3',bZ (cO [2,3]) (w6 r) (ds.map λd=>PyData.tuple [d,d]) M [x0,x1,x2,x3]=.next [x0,x1,x2',x3'] M
 |[],x2,x3,_=>⟨x2,x3,rfl⟩
 |d::ds,x2,x3,h=>by
  obtain⟨x2',x3',ih⟩:=uI M r x0 x1 ds (some (.dat d)) (some (.dat d)) λd hd=>h d (agz _ hd);refine⟨x2',x3',?_⟩;have hd:=h d agA;rw[agy,fZ (Z1:=[x0,x1,some (.dat d),some (.dat d)]) (by simp) (Z2:=[x0,x1,some (.dat d),some (.dat d)]) (M2:=M) (by simp[w6,hd])];exact ih
theorem XC(M:Mo):∀(n:Nat) (d:Dat),lk n d=true->iY (n+1) M [d,d]=.ok (.bool true):=by
 intro n
 induction n with
 |zero=>
  intro d h;show mQ 4 (qH (iY 0)) M [d,d]=_;unfold qH;cases d with
  |none=>simp[gH]
  |bool b=>cases b<;>simp[gH]
  |int i=>simp[gH,je,jX,Cg]
  |str x=>simp[gH,je,jX]
  |list ds=>simp[lk]at h
  |tuple ds=>simp[lk]at h
  |dict kv=>simp[lk]at h
 |succ n ih=>
  intro d h;show mQ 4 (qH (iY (n+1))) M [d,d]=_;unfold qH;cases d with
  |none=>simp[gH]
  |bool b=>cases b<;>simp[gH]
  |int i=>simp[gH,je,jX,Cg]
  |str x=>simp[gH,je,jX]
  |list ds=>
   rw[lk,qO]at h;obtain⟨x2',x3',e⟩:=uI M (iY (n+1)) (some (.dat (.list ds))) (some (.dat (.list ds))) ds none none λd hd=>ih d (h d hd);simp[gH,je,jX,zip_self,e]
  |tuple ds=>
   rw[lk,qO]at h;obtain⟨x2',x3',e⟩:=uI M (iY (n+1)) (some (.dat (.tuple ds))) (some (.dat (.tuple ds))) ds none none λd hd=>ih d (h d hd);simp[gH,je,jX,zip_self,e]
  |dict kv=>simp[lk]at h
def rP(x:List Int):Bool:=decide (x.length=6)&&x.all λd=>decide (0<=d)&&decide (d<=9)
theorem pB(l:List Bool):jy (l.map PyData.bool)=some l:=by
 induction l with
 |nil=>rfl
 |cons b l ih=>rw[agy,jy,ih];rfl
theorem O2(M:Mo)(x:List Int)(h:x.length<=1000):lZ M [gQ x]=.ok (.bool (rP x)):=by
 have key:=iD (tg:=au 1) (te:=FP (jO qj qj (qC (.int 0)) (ak 1) (qC fO))) (M:=M) (ρ:=[some (.dat (gQ x)),none]) PyData.int (λd=>.bool (decide (0<=d)&&decide (d<=9))) x λd _=>⟨[some (.dat (gQ x)),some (.dat (.int d))],by simp,by
  by_cases h0:0<=d<;>simp[h0,fO]⟩
 have ha:wD (.list (x.map λd=>PyData.bool (decide (0<=d)&&decide (d<=9))))=.ok (.bool (x.all λd=>decide (0<=d)&&decide (d<=9))):=by
  have e:(x.map λd=>PyData.bool (decide (0<=d)&&decide (d<=9)))=(x.map λd=>decide (0<=d)&&decide (d<=9)).map PyData.bool:=by rw[agW];rfl
  rw[e]
  show(match jy _ with
   |some bs=>Out.ok (PyData.bool (bs.all id))
   |none=>.bad)=_
  rw[pB];simp[List.all_map,Function.comp_def]
 have hl:x.length<=50000:=by omega
 by_cases h6:x.length=6
 .have h6':((x.length:Int)==6)=true:=by simp[h6]
  simp[lZ,sG,aX,key,hl,ha,rP,h6]
 .have h6':¬(x.length:Int)=6:=by omega
  simp[lZ,sG,aX,rP,h6,h6']
theorem VH{x:List Int}(h:x.length=6)(h2:∀d∈x,0<=d/\d<10):rP x=true:=by unfold rP;simp only[agx,ahu,agK];refine⟨h,λd hd=>?_⟩;have:=h2 d hd;omega
inductive Pt where
 |n (i:Int)|e (l:List Int)|s (x:Str)
def Pt.dat:Pt->Dat
 |.n i=>.int i
 |.e l=>gQ l
 |.s x=>.str x
def Pt.fine:Pt->Prop
 |.n _=>True
 |.e l=>l.length<=1000
 |.s x=>PyData.strOk x=true
inductive Kn where
 |n|e|p
def Kn.S:Kn->Str
 |.n=>"number"
 |.e=>"ear"
 |.p=>"place"
def Kn.c:Kn->Nat
 |.n=>110
 |.e=>101
 |.p=>112
def Kn.C(k:Kn):Str:=⟨#[k.c]⟩
def fK:Pt->Kn->Bool
 |.e l,.e=>rP l
 |.n i,.n=>decide (0<=i)&&decide (i<=999999999)
 |.n i,.p=>decide (0<=i)&&decide (i<=5)
 |_,_=>false
def aV:List (Str×List Kn):=[("owner",[]),("ground",[.n]),("enrol",[.n,.n,.e]),("leave",[.n,.n]),("bring",[.n,.n,.e]),("bear",[.n]),("cut",[.n]),("tear",[.n,.p]),("sell",[.n,.n]),("move",[.n,.n]),("die",[.n]),("unite",[.n,.n]),("part",[.n]),("pass",[.n,.n]),("heir",[.n,.n,.n])]
def cU(ks:List Kn):Str:=⟨(ks.map Kn.c).toArray⟩
def mV(ps:List Pt)(ks:List Kn):Bool:=(ps.zip ks).all λx=>fK x.1 x.2
def pX:List Pt->Bool
 |.s w::ps=>match aV.lookup w with
  |some ks=>decide (ps.length=ks.length)&&mV ps ks
  |none=>false
 |_=>false
theorem XS(M:Mo)(k:Kn)(p:Pt)(h:p.fine):bO M [.str k.S,p.dat]=.ok (.bool (fK p k)):=by
 have tt:∀l,je .tuple (gQ l)=.ok (.bool true):=λ_=>rfl;have ti:∀l,je .int (gQ l)=.ok (.bool false):=λ_=>rfl;cases k<;>cases p
 .next i=>by_cases h0:0<=i<;>simp[bO,cR,Kn.S,Pt.dat,fK,bM,aX,je,jX,h0]
 .next l=>simp[bO,cR,Kn.S,Pt.dat,fK,bM,aX,ti]
 .next x=>simp[bO,cR,Kn.S,Pt.dat,fK,bM,aX,je,jX]
 .next i=>simp[bO,cR,Kn.S,Pt.dat,fK,bM,aX,je,jX]
 .next l=>
  have h1:=O2 M l h;simp[bO,cR,Kn.S,Pt.dat,fK,tt,h1]
 .next x=>simp[bO,cR,Kn.S,Pt.dat,fK,je,jX]
 .next i=>by_cases h0:0<=i<;>simp[bO,cR,Kn.S,Pt.dat,fK,bM,aX,je,jX,h0]
 .next l=>simp[bO,cR,Kn.S,Pt.dat,fK,bM,aX,ti]
 .next x=>simp[bO,cR,Kn.S,Pt.dat,fK,bM,aX,je,jX]
theorem yP{α β:Type}(f:α->β)(w:Str):∀l:List (Str×α),(l.map λp=>(p.1,f p.2)).lookup w=(l.lookup w).map f
 |[]=>rfl
 |p::l=>by
  rw[agy,agQ,agQ];cases w==p.1
  .exact yP f w l
  .rfl
def shD(ks:List Kn):Dat:=.tuple (ks.map λk=>.str k.S)
theorem pC(w:Str):(fB cZ).lookup w=(aV.lookup w).map shD:=by rw[<-yP];rfl
theorem zip_parts:∀(ks:List Kn) (ps:List Pt),iz (ks.map λk=>PyData.str k.S) (ps.map Pt.dat)=(ps.zip ks).map λx=>PyData.tuple [.str x.2.S,x.1.dat]
 |[],ps=>by cases ps<;>simp[iz]
 |_::_,[]=>by simp[iz]
 |k::ks,p::ps=>by
  have:=zip_parts ks ps;unfold iz at this |-
  rw[agy,agy,List.zipWith_cons_cons,this,ag6,agy]
theorem Vf:∀l:List Int,jU (l.map PyData.int)=some (l.map NestedKey.num)
 |[]=>rfl
 |i::l=>by rw[agy,jU,Vf l];rfl
theorem G4:∀l:List Int,NestedKey.depthAll (l.map NestedKey.num)=0
 |[]=>rfl
 |i::l=>by rw[agy,NestedKey.depthAll,G4 l];rfl
theorem Wn(l:List Int):(NestedKey.tup (l.map NestedKey.num)).depth<=8:=by rw[NestedKey.depth,G4];decide
theorem S9(M:Mo)(ps:List Pt)(hl:ps.length<=100)(h:∀p∈ps,p.fine):jr M [.tuple (ps.map Pt.dat)]=.ok (.bool (pX ps)):=by
 cases ps with
 |nil=>simp[jr,mU,pX]
 |cons p ps=>
  have hne:¬(ps.length:Int)+1=0:=by omega
  cases p with
  |n i=>simp[jr,mU,pX,Pt.dat,hne]
  |e l=>
   have h1:=Wn l;simp[jr,mU,pX,Pt.dat,hne,Vf,h1]
  |s w=>
   rw[agC]at hl;have h0:=pC w;cases hk:aV.lookup w with
   |none=>
    rw[hk]at h0;simp[jr,mU,pX,Pt.dat,hne,h0,hk]
   |some ks=>
    rw[hk]at h0;have h0:(fB cZ).lookup w=some (.tuple (ks.map λk=>.str k.S)):=h0;have hs:Rf.cutD (PyData.str w::ps.map Pt.dat) (some 1) none=ps.map Pt.dat:=rR _ 1;have key:=iD (tg:=cO [3,4]) (te:=aN bO (ao (aJ 3) (ao (aJ 4) aG))) (M:=M) (ρ:=[some (.dat (.tuple (.str w::ps.map Pt.dat))),some (.dat (.tuple (ks.map λk=>.str k.S))),some (.dat (.tuple (ps.map Pt.dat))),none,none]) (λ(x:Pt×Kn)=>PyData.tuple [.str x.2.S,x.1.dat]) (λx=>.bool (fK x.1 x.2)) (ps.zip ks) λx hx=>⟨[some (.dat (.tuple (.str w::ps.map Pt.dat))),some (.dat (.tuple (ks.map λk=>.str k.S))),some (.dat (.tuple (ps.map Pt.dat))),some (.dat (.str x.2.S)),some (.dat x.1.dat)],by simp,by
     have:=XS M x.2 x.1 (h x.1 (agz _ (List.of_mem_zip hx).1));simp[this]⟩
    have ha:wD (.list ((ps.zip ks).map λx=>PyData.bool (fK x.1 x.2)))=.ok (.bool (mV ps ks)):=by
     have e:((ps.zip ks).map λx=>PyData.bool (fK x.1 x.2))=((ps.zip ks).map λx=>fK x.1 x.2).map PyData.bool:=by rw[agW];rfl
     rw[e]
     show(match jy _ with
      |some bs=>Out.ok (PyData.bool (bs.all id))
      |none=>.bad)=_
     rw[pB];simp[mV,List.all_map,Function.comp_def]
    have hz:=zip_parts ks ps;have hlz:(ps.zip ks).length<=50000:=by rw[List.length_zip];omega
    by_cases hq:ps.length=ks.length
    .have hne2:¬(ks.length:Int)+1=0:=by omega
     have hk5:ks.length<=50000:=by omega
     have ds:(Pt.s w).dat=.str w:=rfl;simp[jr,mU,pX,ds,hne,hne2,h0,hk,hs,hq,hz];simp[key,hk5,ha]
    .have hq2:¬(ps.length:Int)=ks.length:=by omega
     simp[jr,mU,pX,Pt.dat,hne,h0,hk,hs,hq,hq2]
def jc:List Dat:=aV.map λp=>.str p.1
def vL:List Dat:=aV.map λp=>.str (cU p.2)
theorem jw:([.str "owner",.str "ground",.str "enrol",.str "leave",.str "bring",.str "bear",.str "cut",.str "tear",.str "sell",.str "move",.str "die",.str "unite",.str "part",.str "pass",.str "heir"]:List Dat)=jc:=by rfl
theorem j6:([.str "",.str "n",.str "nne",.str "nn",.str "nne",.str "n",.str "n",.str "np",.str "nn",.str "nn",.str "n",.str "nn",.str "n",.str "nn",.str "nnn"]:List Dat)=vL:=by rfl
theorem iG:jc.length<=100000:=by decide
theorem jm:vL.length<=100000:=by decide
theorem aaJ(k:Kn):(k.C==("e" : Str))=decide (k.c=101):=by cases k<;>decide +kernel
theorem Yw(k:Kn):(k.C==("p" : Str))=decide (k.c=112):=by cases k<;>decide +kernel
theorem yX(ks:List Kn):dw (cU ks)=ks.map λk=>.str k.C:=by simp[dw,cU,Kn.C]
theorem Bj(k:Int)(d:Dat)(ds:List Dat):gD k (d::ds)=.tuple [.int k,d]::gD (k+1) ds:=by
 unfold gD;rw[List.mapIdx_cons];congr 1
 .simp
 .apply List.ext_getElem
  .simp
  .intro n h1 h2;simp;omega
def jo(c:Int):Kn->Pt
 |.e=>.e (rO c)
 |.p=>.n (c%6)
 |.n=>if c%5=4 then .n (c/5%1000000000) else .n (c/5%12)
def partsOf(ns:List Int):Nat->List Kn->List Pt
 |_,[]=>[]
 |j,k::ks=>jo (ns.getD (1+j) 0) k::partsOf ns (j+1) ks
theorem tup_loop(M:Mo)(ns:List Int)(x1 x2 x3:Option Cell):∀(ks:List Kn) (j:Nat) (acc:List Dat) (x5 x6 x7:Option Cell),acc.length+ks.length<100000->∃y5 y6 y7,bZ (cO [5,6]) kE (gD (j:Int) (ks.map λk=>.str k.C)) M [some (.dat (lI ns)),x1,x2,x3,some (.mut acc),x5,x6,x7]=.next [some (.dat (lI ns)),x1,x2,x3,some (.mut (acc++(partsOf ns j ks).map Pt.dat)),y5,y6,y7] M
 |[],j,acc,x5,x6,x7,_=>⟨x5,x6,x7,by simp[gD,bZ,partsOf]⟩
 |k::ks,j,acc,x5,x6,x7,hl=>by
  have hc:cJ M [lI ns,.int (1+(j:Int))]=.ok (.int (ns.getD (1+j) 0)):=by have:=zq M ns (1+j);rw[show((1+j:Nat):Int)=1+(j:Int) by omega]at this;exact this
  have hd:∀z,decide (CDiv z 5)=true:=λz=>decide_eq_true ⟨by decide,by decide⟩;have he:=ZM M (ns.getD (1+j) 0);have ih:=tup_loop M ns x1 x2 x3 ks (j+1) (acc++[(jo (ns.getD (1+j) 0) k).dat]) (some (.dat (.int j))) (some (.dat (.str k.C))) (some (.dat (.int (ns.getD (1+j) 0)))) (by simp at hl |-;omega);obtain⟨y5,y6,y7,ih⟩:=ih;refine⟨y5,y6,y7,?_⟩;have hl2:acc.length<100000:=by simp at hl;omega
  rw[agy,Bj,fZ (Z1:=[some (.dat (lI ns)),x1,x2,x3,some (.mut acc),some (.dat (.int j)),some (.dat (.str k.C)),x7]) (by simp) (Z2:=[some (.dat (lI ns)),x1,x2,x3,some (.mut (acc++[(jo (ns.getD (1+j) 0) k).dat])),some (.dat (.int j)),some (.dat (.str k.C)),some (.dat (.int (ns.getD (1+j) 0)))]) (M2:=M) (by
   generalize ns.getD (1+j) 0=c at hc he;have h1:=aaJ k;have h2:=Yw k;cases k with
   |n=>by_cases h4:c%5=4<;>simp[kE,hc,h1,h2,Kn.c,hd,h4,hl2,jo,Pt.dat]
   |e=>simp[kE,hc,h1,h2,Kn.c,he,hl2,jo,Pt.dat]
   |p=>simp[kE,hc,h1,h2,Kn.c,hl2,jo,Pt.dat])]
  rw[show((j:Int)+1)=((j+1:Nat):Int) by omega,ih];simp[partsOf]
theorem Br(ns:List Int):∀(ks:List Kn) (j:Nat),(partsOf ns j ks).length=ks.length
 |[],_=>rfl
 |_::ks,j=>by simp[partsOf,Br ns ks (j+1)]
theorem Mq(c:Int):rP (rO c)=true:=VH (Bs c) (Tj c)
theorem Wg(c:Int)(k:Kn):fK (jo c k) k=true/\(jo c k).fine:=by
 cases k with
 |n=>
  by_cases h4:c%5=4
  .rw[show jo c .n=.n (c/5%1000000000) from ahy h4];exact⟨by simp[fK];omega,ahs⟩
  .rw[show jo c .n=.n (c/5%12) from ahz h4];exact⟨by simp[fK];omega,ahs⟩
 |e=>exact⟨Mq c,by show _<=_;rw[Bs];decide⟩
 |p=>exact⟨by simp[jo,fK];omega,ahs⟩
theorem Gf(ns:List Int):∀(ks:List Kn) (j:Nat),mV (partsOf ns j ks) ks=true/\∀p∈partsOf ns j ks,p.fine
 |[],_=>⟨rfl,λ_ h=>nomatch h⟩
 |k::ks,j=>by
  have h1:=Gf ns ks (j+1);have h2:=Wg (ns.getD (1+j) 0) k;refine⟨?_,λp h=>?_⟩
  .have h3:=h1.1;unfold mV at h3 |-
   rw[partsOf,ag6,ag7,h3,h2.1];rfl
  .rcases agI.mp h with rfl|h
   .exact h2.2
   .exact h1.2 p h
theorem vf{α β:Type}(l:List α)(f:α->β)(j:Nat)(p:α)(h:l[j]?=some p):atI (l.map f) (j:Int)=some (f p):=atI_nat (by simp[h])
theorem kh:∀p∈aV,aV.lookup p.1=some p.2/\PyData.strOk p.1=true/\p.2.length<=3:=by intro p h;unfold aV at h;simp only[agI,agY,or_false]at h;rcases h with rfl|rfl|rfl|rfl|rfl|rfl|rfl|rfl|rfl|rfl|rfl|rfl|rfl|rfl|rfl<;>exact⟨by rfl,TJ _,by decide⟩
theorem Od(M:Mo)(ns:List Int):∃p∈aV,oJ M [lI ns]=.ok (.tuple ((Pt.s p.1::partsOf ns 0 p.2).map Pt.dat)):=by
 obtain⟨j,hj⟩:∃j:Nat,ns.getD 0 0%15=(j:Int):=⟨(ns.getD 0 0%15).toNat,by omega⟩;have hlt:j<15:=by omega
 obtain⟨p,hp⟩:∃p,aV[j]?=some p:=⟨_,agD (show j<aV.length from hlt)⟩;have hm:p∈aV:=agT hp;refine⟨p,hm,?_⟩;have h1:atI jc (j:Int)=some (.str p.1):=vf aV (λp=>PyData.str p.1) j p hp;have h2:atI vL (j:Int)=some (.str (cU p.2)):=vf aV (λp=>PyData.str (cU p.2)) j p hp;have hc:cJ M [lI ns,.int 0]=.ok (.int (ns.getD 0 0)):=zq M ns 0;have h3:=(kh p hm).2.2;obtain⟨y5,y6,y7,h4⟩:=tup_loop M ns (some (.dat (.list jc))) (some (.dat (.list vL))) (some (.dat (.int j))) p.2 0 [.str p.1] none none none (by simp;omega);have hi:dG (.str (cU p.2))=.ok (dw (cU p.2)):=by
  unfold dG;have:(cU p.2).length<=100000:=by show(List.toArray _).size<=_;simp;omega
  simp[this]
 rw[yX]at hi;have h4':bZ (cO [5,6]) kE (gD 0 (p.2.map λk=>.str k.C)) M _=_:=h4;have hpd:(Pt.s p.1).dat=.str p.1:=rfl;simp only[oJ,zJ,abA,QS,Yg,Zh,aal];have hd0:ns[0]?.getD 0%15=(j:Int):=by simpa using hj
 simp[hd0,jw,j6,iG,jm,hc,hj,h1,h2,hi,h4',hpd]
def bD:List (List Nat):=[[108,116],[108,102],[108,104],[114,116],[114,102],[114,104]]
def ou:List Nat:=[110,111,110,101]
def m7:List Int:=[0,0,0,0,0,0]
def cX(w:List Nat):Option Nat:=bD.findIdx? λp=>decide (p=w)
def lG:List Nat->Option (Nat×Int)
 |[a,b,c]=>if 49<=c/\c<=57 then(cX [a,b]).map λk=>(k,(c:Int)-48) else none
 |_=>none
def fD:List (List Nat)->List Int->Int->Option (List Int)
 |[],dep,_=>some dep
 |w::ws,dep,last=>match lG w with
  |none=>none
  |some (k,d)=>if (k:Int)<=last then none else fD ws (dep.set k d) (k:Int)
def jW(t:List Nat):Option (List Int):=if t=ou then some m7 else fD (TL.spl [32] 0 [] t) m7 (-1)
theorem j9{w:List Nat}{k:Nat}(h:cX w=some k):bD[k]?=some w/\k<6:=by unfold cX at h;have h1:=List.findIdx?_eq_some_iff_getElem.mp h;obtain⟨hk,he,_⟩:=h1;have e:=ahv he;exact⟨by rw[agD hk,e],hk⟩
theorem VN:∀{k:Nat} {w:List Nat},bD[k]?=some w->cX w=some k
 |0,w,h=>by cases h;rfl
 |1,w,h=>by cases h;rfl
 |2,w,h=>by cases h;rfl
 |3,w,h=>by cases h;rfl
 |4,w,h=>by cases h;rfl
 |5,w,h=>by cases h;rfl
 |k+6,w,h=>by simp[bD]at h
theorem tK{k:Nat}{w:List Nat}(h:bD[k]?=some w):∃a b:Nat,w=[a,b]/\a≠32/\b≠32/\a≠110:=by
 match k,h with
 |0,h=>cases h;exact⟨_,_,rfl,by decide,by decide,by decide⟩
 |1,h=>cases h;exact⟨_,_,rfl,by decide,by decide,by decide⟩
 |2,h=>cases h;exact⟨_,_,rfl,by decide,by decide,by decide⟩
 |3,h=>cases h;exact⟨_,_,rfl,by decide,by decide,by decide⟩
 |4,h=>cases h;exact⟨_,_,rfl,by decide,by decide,by decide⟩
 |5,h=>cases h;exact⟨_,_,rfl,by decide,by decide,by decide⟩
 |k+6,h=>simp[bD]at h
theorem oR{w:List Nat}{k:Nat}{d:Int}(h:lG w=some (k,d)):∃a b c:Nat,w=[a,b,c]/\(49<=c/\c<=57)/\cX [a,b]=some k/\d=(c:Int)-48/\k<6:=by
 match w,h with
 |[a,b,c],h=>
  have h:(if 49<=c/\c<=57 then(cX [a,b]).map λk=>(k,(c:Int)-48) else none)=some (k,d):=h;by_cases hc:49<=c/\c<=57
  .rw[ahy hc]at h;cases hp:cX [a,b] with
   |none=>
    rw[hp]at h;cases h
   |some j=>
    rw[hp]at h;cases h;exact⟨a,b,c,rfl,hc,hp,rfl,(j9 hp).2⟩
  .rw[ahz hc]at h;cases h
def wZ(ps:List (List Nat))(xs:List Int):List (List Nat):=((ps.zip xs).filter λp=>decide (0<p.2)).map λp=>p.1++[48+p.2.toNat]
def pO(xs:List Int):List Nat:=if wZ bD xs=[] then ou else TL.joinL [32] (wZ bD xs)
theorem FT:∀p∈bD,∃k:Nat,bD[k]?=some p:=λp hp=>by
 obtain⟨i,hi,e⟩:=List.getElem_of_mem hp;exact⟨i,by rw[agD hi,e]⟩
def qR:List Str:=["lt","lf","lh","rt","rf","rh"]
theorem Ey:qR.map TL.tl=bD:=by decide +kernel
theorem FZ(a b:Str):(a==b)=decide (TL.tl a=TL.tl b):=by rw[ahh,ahu,beq_iff_eq];exact⟨λh=>by rw[h],λh=>TL.ext_tl h⟩
theorem Jx{d:Int}(h:0<=d/\d<=9):TL.tl (Str.ofString (toString d))=[48+d.toNat]:=by
 have c:d=0\/d=1\/d=2\/d=3\/d=4\/d=5\/d=6\/d=7\/d=8\/d=9:=by omega
 rcases c with rfl|rfl|rfl|rfl|rfl|rfl|rfl|rfl|rfl|rfl<;>decide +kernel
theorem Vy{c:Nat}(h:49<=c/\c<=57):PySem.intText? ⟨#[c]⟩=some ((c:Int)-48):=by
 have q:c=49\/c=50\/c=51\/c=52\/c=53\/c=54\/c=55\/c=56\/c=57:=by omega
 rcases q with rfl|rfl|rfl|rfl|rfl|rfl|rfl|rfl|rfl<;>decide +kernel
theorem aau(c:Nat):decide (c∈TL.tl (Str.ofString "123456789"))=decide (49<=c/\c<=57):=by
 rw[show TL.tl (Str.ofString "123456789")=[49,50,51,52,53,54,55,56,57] by decide +kernel,decide_eq_decide]
 simp only[agI,agY,or_false];omega
theorem pW:TL.tl (Str.ofString " ")=[32]:=by decide +kernel
theorem JB:TL.tl (Str.ofString "none")=ou:=by decide +kernel
theorem aav:TL.tl (Str.ofString "")=[]:=by decide +kernel
theorem split_words(z:Str):(Txt.split z (Str.ofString " ")).map TL.tl=TL.spl [32] 0 [] (TL.tl z):=by
 have h:=TL.split_spl z (Str.ofString " ") (by rw[pW];simp) (TL.kind_ok (by decide +kernel))
 rw[pW]at h;exact h
theorem WM{z:Str}{a b c:Nat}(h:TL.tl z=[a,b,c]):TL.tl (cutS z none (some 2))=[a,b]:=by
 unfold cutS;rw[TL.tl_mk,HT.sIx_none,show HT.sIx z.length z.length (some 2)=min 2 z.length from HT.sIx_nat z.length z.length 2];have hl:z.length=3:=by rw[TL.len_tl,h];rfl
 have h':z.cps.toList=[a,b,c]:=h;rw[hl,h'];rfl
open PySem.StrLaws PySem.Builtin PySem.Builtin.Str in
theorem Ig{s sub:Str}{hi lim:Nat}:∀(l:List Nat) (st:Array Nat×Nat),¬st.fst.size<lim->(forIn l st (occBody s sub hi lim)).run.fst=st.fst
 |[],_,_=>rfl
 |a::l,st,h=>by
  rw[List.forIn_cons];unfold occBody;rw[ahz λz=>h z.1.1.1];exact Ig l (st.fst,st.snd) h
open PySem.StrLaws PySem.Builtin PySem.Builtin.Str in
theorem Ag{s sub:Str}{hi big:Nat}:∀(l:List Nat) (st:Array Nat×Nat),∃r,(forIn l st (occBody s sub hi big)).run.fst.toList=st.fst.toList++r
 |[],st=>⟨[],(ag1 _).symm⟩
 |a::l,st=>by
  rw[List.forIn_cons];unfold occBody;split
  .obtain⟨r,h⟩:=Ag (s:=s) (sub:=sub) (hi:=hi) (big:=big) l (st.fst.push a,a+sub.length);refine⟨a::r,?_⟩
   show(forIn l (st.fst.push a,a+sub.length) (occBody s sub hi big)).run.fst.toList=_
   rw[h,Array.toList_push,List.append_assoc];rfl
  .exact Ag l (st.fst,st.snd)
open PySem.StrLaws PySem.Builtin PySem.Builtin.Str in
theorem wJ{s sub:Str}{hi lim big:Nat}:∀(l:List Nat) (st:Array Nat×Nat),st.fst.size<=lim->st.fst.size+l.length<=big->(forIn l st (occBody s sub hi lim)).run.fst.toList=(forIn l st (occBody s sub hi big)).run.fst.toList.take lim
 |[],st,h,_=>(List.take_of_length_le (by rw[agX];exact h)).symm
 |a::l,st,h,hb=>by
  rw[agC]at hb;by_cases hl:st.fst.size<lim
  .rw[List.forIn_cons,List.forIn_cons];unfold occBody;by_cases c:(st.snd<=a/\a+sub.length<=hi)/\subAt s sub a=true
   .rw[ahy ⟨⟨⟨hl,c.1.1⟩,c.1.2⟩,c.2⟩,ahy ⟨⟨⟨by omega,c.1.1⟩,c.1.2⟩,c.2⟩];exact wJ l (st.fst.push a,a+sub.length) (by show(st.fst.push a).size<=lim;rw[Array.size_push];omega) (by show(st.fst.push a).size+_<=big;rw[Array.size_push];omega)
   .rw[ahz λz=>c ⟨⟨z.1.1.2,z.1.2⟩,z.2⟩,ahz λz=>c ⟨⟨z.1.1.2,z.1.2⟩,z.2⟩];exact wJ l (st.fst,st.snd) h (by show st.fst.size+_<=big;omega)
  .rw[Ig _ _ hl];obtain⟨r,e⟩:=Ag (s:=s) (sub:=sub) (hi:=hi) (big:=big) (a::l) st;rw[e,List.take_append_of_le_length (by rw[agX];omega),List.take_of_length_le (by rw[agX];exact h)]
open PySem.StrLaws PySem.Builtin PySem.Builtin.Str in
theorem JV(x y:Str)(lim:Nat):occurrences x y 0 x.length lim=(occurrences x y 0 x.length (x.length+1)).take lim:=by rw[occ_eq,occ_eq];exact wJ _ _ (agO _) (by simp)
theorem fH(w:List Nat)(ws:List (List Nat))(h:ws≠[]):TL.joinL [32] (w::ws)=w++32::TL.joinL [32] ws:=by
 cases ws with
 |nil=>exact absurd rfl h
 |cons v vs=>rfl
open PySem.StrLaws PySem.Builtin PySem.Builtin.Str in
theorem BR(x:Str):∀(ws:List (List Nat)) (t:List Nat) (cuts:List Nat) (a f:Nat),(∀w∈ws,32∉w)->(TL.tl x).drop a=TL.joinL [32] (ws++[t])->a<=(TL.tl x).length->ChainG x " " x.length a cuts f->(∀k,f<=k->¬At x " " x.length k)->(partsFrom x (Str.length " ") a (cuts.take ws.length)).map TL.tl=ws++[t]
 |[],t,cuts,a,f,_,hd,_,_,_=>by
  show[TL.tl (strSub x a x.length)]=[t]
  rw[TL.tl_strSub_end,hd];rfl
 |w::ws,t,cuts,a,f,hw,hd,ha,hc,hn=>by
  have l1:Str.length " "=1:=by decide +kernel
  have hy:TL.tl " "≠[]:=by rw[pW];simp
  have hlen:=TL.len_tl x;rw[List.cons_append,fH w (ws++[t]) (by simp)]at hd;have hat:∀i,At x " " x.length i↔(TL.tl x)[i]?=some 32:=λi=>by
   rw[TL.at_iff hy,pW];unfold TL.pre;cases e:(TL.tl x).drop i with
   |nil=>
    have:(TL.tl x)[i]?=none:=by
     have:=congrArg List.head? e
     rwa [List.head?_drop]at this
    rw[this];decide
   |cons c r=>
    have:(TL.tl x)[i]?=some c:=by
     have:=congrArg List.head? e
     rwa [List.head?_drop]at this
    rw[this];simp
  have hit:∀j,(TL.tl x)[a+j]?=(w++32::TL.joinL [32] (ws++[t]))[j]?:=λj=>by rw[<-hd,List.getElem?_drop]
  have a1:At x " " x.length (a+w.length):=(hat _).mpr (by rw[hit];simp)
  have a0:∀k,a<=k->k<a+w.length->¬At x " " x.length k:=λk h1 h2 z=>by
   have e:=(hat k).mp z;rw[show k=a+(k-a) by omega,hit,agM (by omega)]at e;exact hw w agA (agT e)
  cases cuts with
  |nil=>
   have e:f=a:=hc;subst e;exact absurd a1 (hn _ (by omega))
  |cons c r=>
   obtain⟨h1,h2,h3,h4⟩:=hc;have ec:c=a+w.length:=by
    rcases Nat.lt_trichotomy c (a+w.length) with z|z|z
    .exact absurd h2 (a0 c h1 z)
    .exact z
    .exact absurd a1 (h3 _ (by omega) z)
   subst ec;have hb:=h2.1;rw[l1]at h4 hb;have d2:(TL.tl x).drop (a+w.length+1)=TL.joinL [32] (ws++[t]):=by rw[show a+w.length+1=a+(w.length+1) by omega,<-List.drop_drop,hd];simp
   have ih:=BR x ws t r (a+w.length+1) f (λv hv=>hw v (agz _ hv)) d2 (by omega) h4 hn;rw[agC,List.take_succ_cons];show TL.tl (strSub x a (a+w.length))::(partsFrom x (Str.length " ") (a+w.length+Str.length " ") (r.take ws.length)).map TL.tl=_
   rw[l1]at ih |-
   rw[ih,TL.tl_strSub,hd,show a+w.length-a=w.length by omega];simp
open PySem.StrLaws PySem.Builtin PySem.Builtin.Str in
theorem Ol{x:Str}{ws:List (List Nat)}{t:List Nat}(hw:∀w∈ws,32∉w)(h:TL.tl x=TL.joinL [32] (ws++[t])):(Txt.splitMax x " " ((ws.length:Nat):Int)).map TL.tl=ws++[t]:=by
 have hy:TL.tl " "≠[]:=by rw[pW];simp
 obtain⟨f,hc,hn⟩:=occ_tight x " " (by decide +kernel)
 have key:=BR x ws t _ 0 f hw (by rw[ahb];exact h) (agO _) hc hn;have el:limitOf x ((ws.length:Nat):Int)=ws.length:=by unfold limitOf;rw[ahz (by omega)];rfl
 have hk:¬strKind x<strKind " ":=TL.kind_ok (by decide +kernel)
 unfold Txt.splitMax;rw[el,JV];have nilc:(occurrences x " " 0 x.length (x.length+1)).take ws.length=[]->[x].map TL.tl=ws++[t]:=λe=>by
  rw[e]at key;rw[<-key]
  show[TL.tl x]=[TL.tl (strSub x 0 x.length)]
  rw[TL.tl_strSub_end,ahb]
 by_cases h1:(decide (x.length<Str.length " ") || decide (strKind x<strKind " "))=true
 .rw[ahy h1];have hlt:x.length<Str.length " ":=by
   simp only[ahj,ahu]at h1;rcases h1 with h|h
   .exact h
   .exact absurd h hk
  refine nilc ?_;cases ho:occurrences x " " 0 x.length (x.length+1) with
  |nil=>exact List.take_nil
  |cons c r=>
   rw[ho]at hc;have:c+Str.length " "<=x.length:=hc.2.1.1
   omega
 .rw[ahz h1];by_cases h2:((occurrences x " " 0 x.length (x.length+1)).take ws.length).isEmpty=true
  .rw[ahy h2];exact nilc (List.isEmpty_iff.mp h2)
  .rw[ahz h2,partsBetween_eq];exact key
abbrev cS(l:List Nat):Str:=⟨l.toArray⟩
theorem M9(x:Str):cS (TL.tl x)=x:=TL.mk_tl x
theorem qb(l:List Nat):TL.tl (cS l)=l:=rfl
theorem cI(l:List Nat):(cS l).length=l.length:=TL.len_tl _
theorem Zr(a b:List Nat):cS a++cS b=cS (a++b):=TL.ext_tl (TL.tl_append _ _)
theorem oY(a b:List Nat):(cS a==cS b)=decide (a=b):=FZ _ _
theorem MK:(" " : Str)=cS [32]:=by decide +kernel
def rA(i:Int):List Nat:=TL.tl (Str.ofString (toString i))
theorem Wh(i:Int):cS (rA i)=Str.ofString (toString i):=TL.mk_tl _
theorem Hw(n:Nat):rA (n:Int)=(Nat.toDigits 10 n).map Char.toNat:=PySem.W.KIN.signs_num n
theorem Ro{i:Int}(h:0<=i):∀c∈rA i,48<=c/\c<=57:=by
 obtain⟨n,rfl⟩:=Int.eq_ofNat_of_zero_le h;intro c hc;by_cases q:48<=c/\c<=57
 .exact q
 .by_cases e:c=45
  .subst e;rw[Hw]at hc;obtain⟨ch,hch,e⟩:=agU.mp hc;have d:=Nat.isDigit_of_mem_toDigits (b:=10) (n:=n) (by decide) (by decide) hch;simp only[Char.isDigit,agx,ahu]at d;have d1:(48:UInt32).toNat<=ch.val.toNat:=d.1;have e2:ch.val.toNat=45:=e;have:(48:UInt32).toNat=48:=rfl;omega
  .exact absurd hc (PyProof.Rows.int_text_free' c ⟨e,by omega⟩ n)
theorem Hq{i:Int}(h:0<=i)(h2:i<=999999999):1<=(rA i).length/\(rA i).length<=9:=by
 obtain⟨n,rfl⟩:=Int.eq_ofNat_of_zero_le h;have e:=(Nat.length_repr_le_iff (n:=n) (k:=9) (by decide)).mpr (by omega);rw[<-String.length_toList,Nat.toList_repr]at e;rw[Hw,agB];refine⟨?_,e⟩;cases hd:Nat.toDigits 10 n with
 |nil=>
  have:=PySem.W.KIN.val_back n;have l:=@Nat.length_toDigits_pos 10 n;rw[hd]at l;exact absurd l (by decide)
 |cons c r=>simp
theorem Av{α β:Type}(f:α->Dat)(g:β->Dat):∀(xs:List α) (ys:List β),iz (xs.map f) (ys.map g)=(xs.zip ys).map λp=>PyData.tuple [f p.1,g p.2]
 |[],ys=>by cases ys<;>simp[iz]
 |_::_,[]=>by simp[iz]
 |x::xs,y::ys=>by
  have:=Av f g xs ys;unfold iz at this |-
  rw[agy,agy,List.zipWith_cons_cons,this,ag6,agy]
theorem places_eq:([.str "lt",.str "lf",.str "lh",.str "rt",.str "rf",.str "rh"]:List Dat)=qR.map PyData.str:=by rfl
def CK(p:Str×Int):Str:=p.1++Str.ofString (toString p.2)
def fU(l:List Int):List Str:=((qR.zip l).filter λp=>decide (0<p.2)).map CK
theorem Xx(l:List Int):bD.zip l=(qR.zip l).map λp=>(TL.tl p.1,p.2):=by
 rw[<-Ey];have:∀(xs:List Str) (ys:List Int),(xs.map TL.tl).zip ys=(xs.zip ys).map λp=>(TL.tl p.1,p.2):=by
  intro xs
  induction xs with
  |nil=>intro ys;simp
  |cons x xs ih=>
   intro ys;cases ys with
   |nil=>rfl
   |cons y ys=>rw[agy,ag6,ih,ag6,agy]
 exact this qR l
theorem words_tl{l:List Int}(h:Ear.uP l):(fU l).map TL.tl=wZ bD l:=by unfold fU wZ;rw[Xx,List.filter_map,agW,agW];refine List.map_congr_left λp hp=>?_;have hm:=(List.of_mem_zip (ahq.mp hp).1).2;show TL.tl (p.1++Str.ofString (toString p.2))=TL.tl p.1++[48+p.2.toNat];rw[TL.tl_append,Jx (h.2 _ hm)]
theorem vY{l:List Int}(h:Ear.uP l):(fU l).length<=6/\((fU l).map λy=>y.length).sum<=18:=by
 have h1:∀ws:List Str,(∀w∈ws,w.length=3)->(ws.map λy=>y.length).sum=3*ws.length:=by
  intro ws
  induction ws with
  |nil=>intro _;rfl
  |cons w ws ih=>
   intro h;rw[agy,List.sum_cons,ih λx hx=>h x (agz _ hx),h w agA,agC];omega
 have h2:∀w∈fU l,w.length=3:=λw hw=>by
  have:TL.tl w∈wZ bD l:=by rw[<-words_tl h];exact List.mem_map_of_mem hw
  obtain⟨q,hq,e⟩:=agU.mp this;obtain⟨k,hk⟩:=FT _ (List.of_mem_zip (ahq.mp hq).1).1;obtain⟨a,b,e2,_⟩:=tK hk;rw[TL.len_tl,<-e,e2];rfl
 have h3:(fU l).length<=6:=by unfold fU;rw[agB];refine aha (ahk _ _) ?_;rw[List.length_zip];exact Nat.min_le_left _ _
 have:=h1 _ h2;omega
theorem vI(ws:List Str):TL.tl (Txt.join " " ws)=TL.joinL [32] (ws.map TL.tl):=by rw[TL.join_eq,TL.tl_join,pW]
theorem Es(l:List Int)(h:Ear.uP l):(if (fU l).isEmpty=true then("none" : Str) else Txt.join " " (fU l))=cS (pO l):=by
 apply TL.ext_tl;rw[qb];unfold pO;rw[<-words_tl h];cases hw:fU l with
 |nil=>exact JB
 |cons w ws=>
  rw[ahz (by simp),ahz (by simp)];exact vI _
theorem Jy(ws:List Str):strsOf (ws.map PyData.str)=some ws:=by
 induction ws with
 |nil=>rfl
 |cons w ws ih=>simp[strsOf,ih]
theorem zH(ws:List Str)(h:(ws.map λy=>y.length).sum+ws.length<=16777216):gR " " (.list (ws.map PyData.str))=.ok (.str (Txt.join " " ws)):=by
 have l1:Str.length " "=1:=by decide +kernel
 simp only[gR,Jy,l1,Nat.mul_one];rw[decide_eq_true h];rfl
theorem BJ{i:Int}(h:0<=i)(h2:i<=999999999):i.natAbs.log2<1920:=by
 by_cases h0:i.natAbs=0
 .rw[h0];decide
 .rw[Nat.log2_lt h0];exact Nat.lt_of_lt_of_le (show i.natAbs<2^30 by omega) (Nat.pow_le_pow_right (by decide) (by decide))
theorem Rg(M:Mo){l:List Int}(h:Ear.uP l):oH M [gQ l]=.ok (.str (cS (pO l))):=by
 have hp:∀p∈qR.zip l,TL.tl p.1∈bD/\(0<=p.2/\p.2<=9):=λp hp=>by
  have m:=List.of_mem_zip hp;refine⟨?_,h.2 _ m.2⟩;rw[<-Ey];exact List.mem_map_of_mem m.1
 have key:=uR (tg:=cO [2,3]) (tt:=aY (aA Cd (ak 3) (qC (.int 0)))) (te:=zV (ak 2) (ak 3)) (M:=M) (ρ:=[some (.dat (gQ l)),none,none,none]) (λp:Str×Int=>PyData.tuple [.str p.1,.int p.2]) (λp=>decide (0<p.2)) (λp=>.str (CK p)) (qR.zip l) λp hm=>by
  obtain⟨q1,q2⟩:=hp p hm;have g1:=BJ q2.1 (by omega);obtain⟨k,hk⟩:=FT _ q1;obtain⟨a,b,e,_⟩:=tK hk;have n1:p.1.length=2:=by rw[TL.len_tl,e];rfl
  have n2:(Str.ofString (toString p.2)).length=1:=by rw[TL.len_tl,Jx q2];rfl
  have f1:uV (.str p.1)=.ok p.1:=by show Out.when (decide (p.1.length<=100000)) (.ok p.1)=_;rw[decide_eq_true (by omega)];rfl
  have f2:uV (.int p.2)=.ok (Str.ofString (toString p.2)):=by show Out.when (decide (p.2.natAbs.log2<1920)) (.ok (Str.ofString (toString p.2)))=_;rw[decide_eq_true g1];rfl
  have ew:CK p=p.1++Str.ofString (toString p.2):=rfl;exact⟨[some (.dat (gQ l)),none,some (.dat (.str p.1)),some (.dat (.int p.2))],by simp,by simp,λ_=>by
   rw[ew];generalize Str.ofString (toString p.2)=z at *;unfold zV;simp[f1,f2,n1,n2]⟩
 have hz:iz [.str "lt",.str "lf",.str "lh",.str "rt",.str "rf",.str "rh"] (l.map PyData.int)=(qR.zip l).map λp=>PyData.tuple [.str p.1,.int p.2]:=by rw[places_eq,Av]
 have e:((qR.zip l).filter λp=>decide (0<p.2)).map (λp=>PyData.str (CK p))=(fU l).map PyData.str:=by unfold fU;rw[agW];rfl
 rw[e,<-hz]at key;have hs:=vY h;have hj:=zH (fU l) (by omega);rw[<-Es l h];have h6:l.length=6:=h.1;have hlz:(iz [.str "lt",.str "lf",.str "lh",.str "rt",.str "rf",.str "rh"] (l.map PyData.int)).length<=50000:=by rw[hz,agB,List.length_zip];omega
 cases hw:fU l with
 |nil=>
  rw[hw]at key;simp[oH,vh,aX,key,hlz,gG]
 |cons w ws=>
  rw[hw]at key hj;generalize hD:(w::ws).map PyData.str=D at key hj;have hne:D.isEmpty=false:=by rw[<-hD];rfl
  cases D with
  |nil=>cases hne
  |cons d D=>simp[oH,vh,aX,key,hlz,dI,hj]
def acu(ps:List Pt):Prop:=ps.length<=100/\∀p∈ps,p.fine
theorem Jd{x:Str}(h:∀c∈TL.tl x,c<1000):PyData.strOk x=true:=by unfold PyData.strOk;rw[<-Array.all_toList,agK];intro c hc;have:=h c hc;simp;omega
def sU:Pt->Kn->List Nat
 |.n i,.n=>rA i
 |.n i,.p=>bD.getD i.toNat []
 |.e l,_=>pO l
 |_,_=>[]
theorem yO{l:List Int}(h:rP l=true):Ear.uP l:=by unfold rP at h;simp only[agx,ahu,agK]at h;exact⟨h.1,λx hx=>by have:=h.2 x hx;simpa using this⟩
theorem VF{i:Int}(h:0<=i)(h2:i<=5):atI (qR.map PyData.str) i=some (.str (cS (bD.getD i.toNat []))):=by
 have q:i=0\/i=1\/i=2\/i=3\/i=4\/i=5:=by omega
 rcases q with rfl|rfl|rfl|rfl|rfl|rfl<;>rfl
theorem Cj{l:List Int}(h:Ear.uP l):(pO l).length<=24:=by
 rw[<-qb (pO l),<-Es l h];have hs:=vY h;have key:∀ws:List Str,(TL.joinL [32] (ws.map TL.tl)).length<=(ws.map λy=>y.length).sum+ws.length:=by
  intro ws
  induction ws with
  |nil=>exact agO _
  |cons w ws ih=>
   cases ws with
   |nil=>simp[TL.joinL,TL.len_tl]
   |cons v vs=>
    rw[agy,fH _ _ (by simp),agH,agC];simp only[agy,List.sum_cons,agC]at ih |-
    have:=TL.len_tl w;omega
 cases hw:fU l with
 |nil=>decide +kernel
 |cons w ws=>
  rw[ahz (by simp),vI];have:=key (w::ws);rw[hw]at hs;omega
theorem V9{p:Pt}{k:Kn}(h:fK p k=true):(sU p k).length<=24:=by
 cases p with
 |n i=>
  cases k with
  |n=>
   simp[fK]at h;have:=Hq h.1 h.2
   show(rA i).length<=24
   omega
  |e=>cases h
  |p=>
   simp[fK]at h;have q:i=0\/i=1\/i=2\/i=3\/i=4\/i=5:=by omega
   rcases q with rfl|rfl|rfl|rfl|rfl|rfl<;>decide
 |e l=>
  cases k with
  |e=>exact Cj (yO h)
  |n=>cases h
  |p=>cases h
 |s x=>cases k<;>cases h
theorem nZ(x y:List Nat)(h:x.length+y.length<=100000):bJ (.str (cS x)) (.str (cS y))=.ok (.str (cS (x++y))):=by show Out.when (decide ((cS x).length+(cS y).length<=100000)) (.ok (PyData.str (cS x++cS y)))=_;rw[cI,cI,decide_eq_true h,Zr];rfl
theorem X4{i:Int}(h:0<=i)(h2:i<=999999999):Eh (.int i)=.ok (.str (cS (rA i))):=by rw[Wh];show Out.when (decide (i.natAbs.log2<1920)) (.ok (PyData.str (Str.ofString (toString i))))=_;rw[decide_eq_true (BJ h h2)];rfl
structure Fd(w:Str)(ks:List Kn)(ps:List Pt):Prop where
 k:aV.lookup w=some ks
 l:ps.length=ks.length
 b:mV ps ks=true
def pJ(w:Str)(ks:List Kn)(ps:List Pt):List Nat:=TL.joinL [32] (TL.tl w::(ps.zip ks).map λx=>sU x.1 x.2)
theorem Px:(aV.all λp=>decide (p.2.length<=3)&&(decide (32∉TL.tl p.1)&&(decide ((TL.tl p.1).length<=10)&&(List.range 3).all λi=>match p.2[i]? with
  |some k=>(k.c==112)==(p.1=="tear"&&i==1)
  |none=>true)))=true:=by decide +kernel
theorem lookup_mem{α:Type}(w:Str)(a:α):∀l:List (Str×α),l.lookup w=some a->(w,a)∈l
 |[],h=>by cases h
 |p::l,h=>by
  rw[agQ]at h;split at h
  .next e=>
   cases h;rw[ahB e];exact agA
  .exact agz _ (lookup_mem w a l h)
theorem Fd.tab{w:Str}{ks:List Kn}{ps:List Pt}(f:Fd w ks ps):ks.length<=3/\32∉TL.tl w/\(TL.tl w).length<=10/\∀(i:Nat) (k:Kn),ks[i]?=some k->(k.c=112↔(w="tear"/\(i:Int)=1)):=by
 have h:=agK.mp Px _ (lookup_mem w ks aV f.k);simp only[agx,ahu]at h;obtain⟨h1,h2,h3,h4⟩:=h;refine⟨h1,h2,h3,λi k hk=>?_⟩;have hi:i<ks.length:=(agE.mp hk).1;have:=agK.mp h4 i (List.mem_range.mpr (by omega));simp only[hk]at this;have e:=ahB this;constructor
 .intro z;rw[z]at e;have e:=e.symm;simp only[beq_self_eq_true,agx,beq_iff_eq]at e;exact⟨e.1,by omega⟩
 .intro z;rw[z.1,show i=1 by omega]at e;simpa using e
theorem Fd.bs{w:Str}{ks:List Kn}{ps:List Pt}(f:Fd w ks ps):∀x∈ps.zip ks,fK x.1 x.2=true:=λx hx=>agK.mp f.b x hx
theorem Ky{α β:Type}:∀(ps:List α) (ks:List β),ps.length=ks.length->(ps.zip ks).map (·.1)=ps
 |[],_,_=>rfl
 |_::_,[],h=>by cases h
 |p::ps,k::ks,h=>by rw[ag6,agy,Ky ps ks (by simpa using h)]
theorem abQ(M:Mo){p:Pt}{k:Kn}(h:fK p k=true):dh M [.str k.S,p.dat]=.ok (.str (cS (sU p k))):=by
 cases p with
 |n i=>
  cases k with
  |n=>
   simp[fK]at h;have hs:=X4 h.1 h.2;simp[dh,gW,Kn.S,Pt.dat,sU,hs]
  |e=>cases h
  |p=>
   simp[fK]at h;have hp:=VF h.1 h.2;rw[<-places_eq]at hp;have e:sU (.n i) .p=bD.getD i.toNat []:=rfl;rw[e];generalize cS (bD.getD i.toNat [])=T at *;simp[dh,gW,Kn.S,Pt.dat,aX,hp]
 |e l=>
  cases k with
  |e=>
   have hs:=Rg M (yO h);simp[dh,gW,Kn.S,Pt.dat,sU,hs]
  |n=>cases h
  |p=>cases h
 |s x=>cases k<;>cases h
theorem V5{p:Pt}{k:Kn}(h:fK p k=true):p.fine:=by
 cases p with
 |n i=>trivial
 |e l=>
  cases k with
  |e=>
   have:=(yO h).1;show l.length<=1000;omega
  |n=>cases h
  |p=>cases h
 |s x=>cases k<;>cases h
theorem Fd.fine{w:Str}{ks:List Kn}{ps:List Pt}(f:Fd w ks ps):acu (.s w::ps):=by
 obtain⟨t1,_⟩:=f.tab;have hl:=f.l;refine⟨by rw[agC];omega,λp hp=>?_⟩;rcases agI.mp hp with rfl|hp
 .exact(kh _ (lookup_mem w ks aV f.k)).2.1
 .rw[<-Ky ps ks hl]at hp;obtain⟨x,hx,rfl⟩:=agU.mp hp;exact V5 (f.bs x hx)
theorem Fd.fit{w:Str}{ks:List Kn}{ps:List Pt}(f:Fd w ks ps):pX (.s w::ps)=true:=by
 show(match aV.lookup w with
  |some ks=>decide (ps.length=ks.length)&&mV ps ks
  |none=>false)=true
 rw[f.k]
 show(decide (ps.length=ks.length)&&mV ps ks)=true
 rw[f.b,decide_eq_true f.l];rfl
def fM(ks:List Kn)(ps:List Pt):List Str:=(ps.zip ks).map λx=>cS (sU x.1 x.2)
theorem NK(w:Str)(ks:List Kn)(ps:List Pt):Txt.join " " (w::fM ks ps)=cS (pJ w ks ps):=by apply TL.ext_tl;rw[vI];show TL.joinL [32] (TL.tl w::(fM ks ps).map TL.tl)=pJ w ks ps;unfold fM pJ;rw[agW];rfl
theorem Ql{w:Str}{ks:List Kn}{ps:List Pt}(f:Fd w ks ps):(fM ks ps).length=ks.length/\((fM ks ps).map λy=>y.length).sum<=24*ks.length:=by
 have hl:=f.l;have key:∀xs:List (Pt×Kn),(∀x∈xs,fK x.1 x.2=true)->((xs.map λx=>cS (sU x.1 x.2)).map λy=>y.length).sum<=24*xs.length:=by
  intro xs
  induction xs with
  |nil=>intro _;exact agO _
  |cons x xs ih=>
   intro h;have h1:=ih λy hy=>h y (agz _ hy);have h2:=V9 (h x agA);have h3:=cI (sU x.1 x.2);simp only[agy,List.sum_cons,agC]at h1 |-
   omega
 have h1:=key _ f.bs;have h2:(ps.zip ks).length=ks.length:=by rw[List.length_zip];omega
 unfold fM;rw[agB];exact⟨h2,by omega⟩
theorem Mr(M:Mo){w:Str}{ks:List Kn}{ps:List Pt}(f:Fd w ks ps):mY M [.tuple (.str w::ps.map Pt.dat)]=.ok (.str (cS (pJ w ks ps))):=by
 obtain⟨t1,t2,t3,t4⟩:=f.tab;have hf:=S9 M (.s w::ps) f.fine.1 f.fine.2;rw[f.fit]at hf;have hf:jr M [.tuple (.str w::ps.map Pt.dat)]=.ok (.bool true):=hf;have h0:=pC w;rw[f.k]at h0;have h0:(fB cZ).lookup w=some (.tuple (ks.map λk=>.str k.S)):=h0;have hs:Rf.cutD (PyData.str w::ps.map Pt.dat) (some 1) none=ps.map Pt.dat:=rR _ 1;have key:=iD (tg:=cO [2,3]) (te:=aN dh (ao (aJ 2) (ao (aJ 3) aG))) (M:=M) (ρ:=[some (.dat (.tuple (.str w::ps.map Pt.dat))),some (.dat (.str w)),none,none]) (λ(x:Pt×Kn)=>PyData.tuple [.str x.2.S,x.1.dat]) (λx=>.str (cS (sU x.1 x.2))) (ps.zip ks) λx hx=>⟨[some (.dat (.tuple (.str w::ps.map Pt.dat))),some (.dat (.str w)),some (.dat (.str x.2.S)),some (.dat x.1.dat)],by simp,by
  have:=abQ M (f.bs x hx);simp[this]⟩
 have e1:(ps.zip ks).map (λx=>PyData.str (cS (sU x.1 x.2)))=(fM ks ps).map PyData.str:=by unfold fM;rw[agW];rfl
 rw[e1,<-zip_parts]at key;obtain⟨s1,s2⟩:=Ql f;have hj:=zH (w::fM ks ps) (by
  have:=TL.len_tl w;simp only[agy,List.sum_cons,agC]
  omega)
 rw[NK]at hj;have hl:=f.l;have hz:(iz (ks.map λk=>PyData.str k.S) (ps.map Pt.dat)).length<=50000:=by rw[zip_parts,agB,List.length_zip];omega
 have ha:bJ (.list [.str w]) (.list ((fM ks ps).map PyData.str))=.ok (.list ((w::fM ks ps).map PyData.str)):=by show Out.when (decide ([PyData.str w].length+((fM ks ps).map PyData.str).length<=100000)) (.ok (PyData.list ([.str w]++(fM ks ps).map PyData.str)))=_;rw[decide_eq_true (by rw[agB];simp;omega)];rfl
 generalize (fM ks ps).map PyData.str=D at *;generalize (w::fM ks ps).map PyData.str=D2 at *;generalize cS (pJ w ks ps)=R at *;simp[-zp,mY,uO,hf,h0,hs,key,hz,ha,dI,hj]
theorem v8(M:Mo){w:Str}{k:Nat}{d:Int}(h:lG (TL.tl w)=some (k,d)):gj M [.str w]=.ok (.tuple [.int (k:Int),.int d]):=by
 obtain⟨a,b,c,e,hc,hp,rfl,hk⟩:=oR h;have hw:w=cS [a,b,c]:=by rw[<-e,M9]
 have h1:=(j9 hp).1;subst hw;have q:c=49\/c=50\/c=51\/c=52\/c=53\/c=54\/c=55\/c=56\/c=57:=by omega
 have p:k=0\/k=1\/k=2\/k=3\/k=4\/k=5:=by omega
 clear h e hc hp hk;rcases p with rfl|rfl|rfl|rfl|rfl|rfl<;>cases h1<;>rcases q with rfl|rfl|rfl|rfl|rfl|rfl|rfl|rfl|rfl<;>kernel_rfl
theorem Bl(M:Mo)(x0:Option Cell):∀(ws:List Str) (dep res:List Int) (last:Int) (x3 x4 x5:Option Cell),fD (ws.map TL.tl) dep last=some res->dep.length=6->∃y2 y3 y4 y5,
  bZ (au 3) cC (ws.map PyData.str) M [x0,some (.mut (dep.map PyData.int)),some (.dat (.int last)),x3,x4,x5]=.next [x0,some (.mut (res.map PyData.int)),y2,y3,y4,y5] M
 |[],dep,res,last,x3,x4,x5,h,_=>by
  cases h;exact⟨_,x3,x4,x5,rfl⟩
 |w::ws,dep,res,last,x3,x4,x5,h,hl=>by
  rw[agy,fD]at h;cases hc:lG (TL.tl w) with
  |none=>rw[hc]at h;cases h
  |some kd=>
   obtain⟨k,d⟩:=kd;rw[hc]at h;have h:(if (k:Int)<=last then none else fD (ws.map TL.tl) (dep.set k d) (k:Int))=some res:=h;by_cases q:(k:Int)<=last
   .rw[ahy q]at h;cases h
   .rw[ahz q]at h;obtain⟨a,b,c,_,_,_,_,k6⟩:=oR hc;have h1:=v8 M hc;obtain⟨y2,y3,y4,y5,ih⟩:=Bl M x0 ws (dep.set k d) res (k:Int) (some (.dat (.str w))) (some (.dat (.int k))) (some (.dat (.int d))) h (by rw[agR];exact hl);refine⟨y2,y3,y4,y5,?_⟩;have hx:ixN 6 (k:Int)=some k:=by
     have p:k=0\/k=1\/k=2\/k=3\/k=4\/k=5:=by omega
     rcases p with rfl|rfl|rfl|rfl|rfl|rfl<;>rfl
    have hm:(dep.set k d).map PyData.int=(dep.map PyData.int).set k (.int d):=List.map_set;rw[hm]at ih;have hlD:(dep.map PyData.int).length=6:=by rw[agB];exact hl
    generalize dep.map PyData.int=D at *;rw[agy,fZ (Z1:=[x0,some (.mut D),some (.dat (.int last)),some (.dat (.str w)),x4,x5]) (by simp) (Z2:=[x0,some (.mut (D.set k (.int d))),some (.dat (.int (k:Int))),some (.dat (.str w)),some (.dat (.int k)),some (.dat (.int d))]) (M2:=M) (by simp[cC,h1,q,hlD,hx])];exact ih
theorem Vu:jB=gQ m7:=by rfl
theorem Jq(t:List Nat):bW (.str (cS t)) gG=.ok (.bool (decide (t=ou))):=by
 show Out.ok (PyData.bool (cS t==("none" : Str)))=_
 rw[FZ,JB]
theorem U7(c:Nat):decide (c∈(Str.ofString "0123456789").cps.toList)=decide (48<=c/\c<=57):=by
 rw[show(Str.ofString "0123456789").cps.toList=[48,49,50,51,52,53,54,55,56,57] by decide +kernel,decide_eq_decide]
 simp only[agI,agY,or_false];omega
def bQ(ws:List (List Nat)):List Nat:=ws.flatMap λw=>w++[32]
theorem cY(w:List Nat)(ws:List (List Nat)):bQ (w::ws)=w++32::bQ ws:=by unfold bQ;rw[List.flatMap_cons,List.append_assoc];rfl
theorem iT:∀(t acc:List Nat),32∉acc->bQ (TL.spl [32] 0 acc t)=acc++t++[32]/\(∀w∈TL.spl [32] 0 acc t,32∉w)/\TL.spl [32] 0 acc t≠[]
 |[],acc,h=>by
  refine⟨?_,?_,?_⟩
  .show bQ [acc]=acc++[]++[32];rw[cY,ag1];rfl
  .intro w hw;have e:w=acc:=agJ.mp hw;rw[e];exact h
  .show[acc]≠[]
   simp
 |c::r,acc,h=>by
  by_cases hc:c=32
  .subst hc;have e:TL.spl [32] 0 acc (32::r)=acc::TL.spl [32] 0 [] r:=by
    have z:=TL.spl_part1 (s:=32) (S:=[]) (p:=[]) (rest:=r) (acc:=acc) (by simp);rw[ag1]at z;exact z
   have ih:=iT r [] (by simp);rw[e];refine⟨?_,?_,by simp⟩
   .rw[cY,ih.1];simp
   .intro w hw;rcases agI.mp hw with q|q
    .rw[q];exact h
    .exact ih.2.1 w q
  .have e:TL.spl [32] 0 acc (c::r)=TL.spl [32] 0 (acc++[c]) r:=by
    have hp:TL.pre [32] (c::r)=false:=by
     cases q:TL.pre [32] (c::r) with
     |false=>rfl
     |true=>
      have q':((c::r).take 1==[32])=true:=q;have:=ahB q';simp at this;exact absurd this hc
    show(if TL.pre [32] (c::r)=true then acc::TL.spl [32] 0 [] r else TL.spl [32] 0 (acc++[c]) r)=_
    rw[hp];rfl
   have ih:=iT r (acc++[c]) (by simp[h];exact Ne.symm hc);rw[e];refine⟨?_,ih.2⟩;rw[ih.1];simp
theorem tZ:∀{ws:List (List Nat)},ws≠[]->bQ ws=TL.joinL [32] ws++[32]
 |[],h=>absurd rfl h
 |[w],_=>by rw[cY];rfl
 |w::v::ws,_=>by
  rw[cY,tZ (ws:=v::ws) (by simp),fH w (v::ws) (by simp),List.append_assoc];rfl
abbrev wL(t:List Nat):List (List Nat):=TL.spl [32] 0 [] t
theorem Dc(t:List Nat):wL t≠[]:=(iT t [] (by simp)).2.2
theorem zu(t:List Nat):∀w∈wL t,32∉w:=(iT t [] (by simp)).2.1
theorem qL(t:List Nat):TL.joinL [32] (wL t)=t:=by have h:=(iT t [] (by simp)).1;rw[tZ (Dc t),List.nil_append]at h;exact List.append_cancel_right h
theorem BP:∀(a b:List (List Nat)),b≠[]->TL.joinL [32] (a++[TL.joinL [32] b])=TL.joinL [32] (a++b)
 |[],b,_=>rfl
 |w::a,b,h=>by
  rw[List.cons_append,List.cons_append,fH w _ (by simp),fH w _ (by simp[h]),BP a b h]
theorem split_S(t:List Nat):Txt.split (cS t) " "=(wL t).map cS:=by apply TL.map_tl_inj;rw[split_words,qb,agW];exact(List.map_id _).symm
open PySem.StrLaws PySem.Builtin PySem.Builtin.Str in
theorem Gu(t:List Nat)(n:Nat)(h:(wL t).length<=n+1):Txt.splitMax (cS t) " " ((n:Nat):Int)=(wL t).map cS:=by
 rw[<-split_S];have el:limitOf (cS t) ((n:Nat):Int)=n:=by unfold limitOf;rw[ahz (by omega)];rfl
 have hl:(occurrences (cS t) " " 0 (cS t).length ((cS t).length+1)).length<=n:=by
  have e:=congrArg List.length (split_S t);rw[agB]at e;unfold Txt.split at e;split at e
  .next h1=>
   have hk:¬strKind (cS t)<strKind " ":=TL.kind_ok (by decide +kernel)
   have hlt:(cS t).length<Str.length " ":=by
    simp only[ahj,ahu]at h1;rcases h1 with h|h
    .exact h
    .exact absurd h hk
   obtain⟨f,hc,hn⟩:=occ_tight (cS t) " " (by decide +kernel)
   cases ho:occurrences (cS t) " " 0 (cS t).length ((cS t).length+1) with
   |nil=>exact agO _
   |cons c r=>
    rw[ho]at hc;have:c+Str.length " "<=(cS t).length:=hc.2.1.1
    omega
  .split at e
   .next h2=>rw[List.isEmpty_iff.mp h2];exact agO _
   .rw[partsBetween_eq]at e;have key:∀(cuts:List Nat) (a:Nat),(partsFrom (cS t) (Str.length " ") a cuts).length=cuts.length+1:=by
     intro cuts
     induction cuts with
     |nil=>intro a;rfl
     |cons c r ih=>intro a;show(partsFrom _ _ _ r).length+1=_;rw[ih];rfl
    rw[key]at e;omega
 unfold Txt.splitMax Txt.split;rw[el,JV,List.take_of_length_le hl]
theorem Cv(t:List Nat)(n:Nat)(h:n+1<=(wL t).length):Txt.splitMax (cS t) " " ((n:Nat):Int)=((wL t).take n++[TL.joinL [32] ((wL t).drop n)]).map cS:=by
 apply TL.map_tl_inj;have hl:((wL t).take n).length=n:=by rw[List.length_take];omega
 have key:=Ol (x:=cS t) (ws:=(wL t).take n) (t:=TL.joinL [32] ((wL t).drop n)) (λw hw=>zu t w (ag8 hw)) (by
  rw[BP _ _ (by intro z;have:=congrArg List.length z;rw[ag3]at this;simp at this;omega),List.take_append_drop,qL])
 rw[hl]at key;rw[key,agW];exact(List.map_id _).symm
def bU(p rest:List Nat):Option Int:=if rest.take 2=p then(match rest.drop 2 with|c::e::_=>if (49<=c/\c<=57)/\e=32 then some ((c:Int)-48) else none|_=>none) else none
def bH:List (List Nat)->List Nat->List Int×List Nat
 |[],rest=>([],rest)
 |p::ps,rest=>match bU p rest with
  |some d=>let r:=bH ps (rest.drop 4);(d::r.1,r.2)
  |none=>let r:=bH ps rest;(0::r.1,r.2)
def lC(t:List Nat):Option (List Int):=if t=ou then some m7 else
 let r:=bH bD (t++[32])
 if r.2≠[]\/r.1.sum=0 then none else some r.1
theorem O4{k:Nat}{p w r:List Nat}(hp:bD[k]?=some p)(hw:32∉w):bU p (w++32::r)=(match lG w with|some (j,d)=>if j=k then some d else none|none=>none):=by
 obtain⟨a,b,rfl,n1,n2,_⟩:=tK hp;have hk:=VN hp
 match w,hw with
 |[],_=>
  unfold bU;rw[ahz]
  .rfl
  .intro z;have:32=a:=by
    cases r with
    |nil=>simp at z
    |cons x r=>simp at z;exact z.1
   exact n1 this.symm
 |[x],_=>
  unfold bU;rw[ahz]
  .rfl
  .intro z;simp at z;exact n2 z.2.symm
 |[x,y],_=>
  show bU [a,b] (x::y::32::r)=none;unfold bU
  show(if [x,y]=[a,b] then(match 32::r with|c::e::_=>if (49<=c/\c<=57)/\e=32 then some ((c:Int)-48) else none|_=>none) else none)=none
  cases r with
  |nil=>simp
  |cons z r=>simp
 |[x,y,c],_=>
  unfold bU
  show(if [x,y]=[a,b] then(if (49<=c/\c<=57)/\32=32 then some ((c:Int)-48) else none) else none)=(match (if 49<=c/\c<=57 then(cX [x,y]).map λk=>(k,(c:Int)-48) else none) with|some (j,d)=>if j=k then some d else none|none=>none)
  by_cases hc:49<=c/\c<=57
  .rw[ahy hc,ahy (show(49<=c/\c<=57)/\(32:Nat)=32 from⟨hc,rfl⟩)];by_cases he:[x,y]=[a,b]
   .rw[ahy he,he,hk];show some _=(if k=k then some ((c:Int)-48) else none);rw[ahy rfl]
   .rw[ahz he];cases hq:cX [x,y] with
    |none=>rfl
    |some j=>
     show none=(if j=k then some ((c:Int)-48) else none);rw[ahz];intro z;subst z;have:=(j9 hq).1;rw[hp]at this;exact he (ag0 this).symm
  .rw[ahz hc];by_cases he:[x,y]=[a,b]
   .rw[ahy he,ahz (λz=>hc z.1)]
   .rw[ahz he]
 |x::y::c::e::w,hw=>
  have ne:e≠32:=λz=>hw (by rw[z];simp);unfold bU
  show(if [x,y]=[a,b] then(if (49<=c/\c<=57)/\e=32 then some ((c:Int)-48) else none) else none)=none
  by_cases he:[x,y]=[a,b]
  .rw[ahy he,ahz (λz=>ne z.2)]
  .rw[ahz he]
theorem T9(p:List Nat)(h:p≠[]):bU p []=none:=by unfold bU;rw[ahz];intro z;exact h z.symm
theorem Py{w r:List Nat}(h:w.length=3):(w++32::r).drop 4=r:=by
 match w,h with
 |[a,b,c],_=>rfl
theorem R7(k:Nat)(hk:k<6)(pre:List Int)(hl:pre.length=k)(d:Int):(pre++List.replicate (6-k) 0).set k d=(pre++[d])++List.replicate (6-(k+1)) 0:=by
 have e:List.replicate (6-k) (0:Int)=0::List.replicate (6-(k+1)) 0:=by rw[show 6-k=(6-(k+1))+1 by omega];rfl
 rw[e,List.set_append_right _ _ (by omega),hl,Nat.sub_self,List.append_assoc];rfl
theorem wu:∀(n k:Nat) (ws:List (List Nat)) (pre:List Int) (last:Int),k+n=6->pre.length=k->last<k->(∀w∈ws,32∉w)->
  (∀w r j d,ws=w::r->lG w=some (j,d)->(j:Int)<=last\/k<=j)->
  fD ws (pre++List.replicate (6-k) 0) last=(if (bH (bD.drop k) (bQ ws)).2=[] then some (pre++(bH (bD.drop k) (bQ ws)).1) else none)
 |0,k,ws,pre,last,hk,hl,hlast,hf,hw=>by
  have e6:k=6:=by omega
  subst e6;show fD ws (pre++[]) last=(if bQ ws=[] then some (pre++[]) else none);rw[ag1];cases ws with
  |nil=>rfl
  |cons w r=>
   rw[ahz (by rw[cY];simp)];unfold fD;cases hc:lG w with
   |none=>rfl
   |some q=>
    obtain⟨j,d⟩:=q
    show(if (j:Int)<=last then none else _)=none
    rw[ahy];rcases hw w r j d rfl hc with h|h
    .exact h
    .obtain⟨_,_,_,_,_,_,_,h6⟩:=oR hc;omega
 |n+1,k,ws,pre,last,hk,hl,hlast,hf,hw=>by
  have h6:k<bD.length:=by show k<6;omega
  have hp:=agD h6;have e:List.replicate (6-k) (0:Int)=0::List.replicate (6-(k+1)) 0:=by rw[show 6-k=(6-(k+1))+1 by omega];rfl
  rw[ag9 h6];have skip:bU bD[k] (bQ ws)=none->(∀w r j d,ws=w::r->lG w=some (j,d)->(j:Int)<=last\/k+1<=j)->
    fD ws (pre++List.replicate (6-k) 0) last=(if (bH (bD[k]::bD.drop (k+1)) (bQ ws)).2=[] then some (pre++(bH (bD[k]::bD.drop (k+1)) (bQ ws)).1) else none):=by
   intro hn hw';have ih:=wu n (k+1) ws (pre++[0]) last (by omega) (by rw[agH,hl];rfl) (by omega) hf hw';have e1:bH (bD[k]::bD.drop (k+1)) (bQ ws)=(0::(bH (bD.drop (k+1)) (bQ ws)).1,(bH (bD.drop (k+1)) (bQ ws)).2):=by
    show(match bU bD[k] (bQ ws) with|some d=>_|none=>_)=_
    rw[hn]
   rw[e1,e];rw[List.append_assoc]at ih;show fD ws (pre++([0]++List.replicate (6-(k+1)) 0)) last=_;rw[ih];split
   .rw[List.append_assoc];rfl
   .rfl
  cases ws with
  |nil=>
   refine skip (T9 _ ?_) (λw r j d z=>by cases z);obtain⟨a,b,ew,_⟩:=tK hp;rw[ew];simp
  |cons w r=>
   have fw:=O4 (r:=bQ r) hp (hf w (by simp));rw[<-cY]at fw;cases hc:lG w with
   |none=>
    rw[hc]at fw;refine skip fw (λw' r' j d z hc'=>?_);cases z;rw[hc]at hc';cases hc'
   |some q=>
    obtain⟨j,d⟩:=q;rw[hc]at fw;by_cases hj:j=k
    .subst hj;have fw':bU bD[j] (bQ (w::r))=some d:=by
      rw[fw]
      show(if j=j then some d else none)=some d
      rw[ahy rfl]
     have hw3:w.length=3:=by obtain⟨a,b,c,ew,_⟩:=oR hc;rw[ew];rfl
     have ih:=wu n (j+1) r (pre++[d]) (j:Int) (by omega) (by rw[agH,hl];rfl) (by omega) (λv hv=>hf v (agz _ hv)) (λv r' j' d' _ _=>by omega);have e1:bH (bD[j]::bD.drop (j+1)) (bQ (w::r))=(d::(bH (bD.drop (j+1)) (bQ r)).1,(bH (bD.drop (j+1)) (bQ r)).2):=by
      show(match bU bD[j] (bQ (w::r)) with|some d=>_|none=>_)=_
      rw[fw']
      show(d::(bH (bD.drop (j+1)) ((bQ (w::r)).drop 4)).1,(bH (bD.drop (j+1)) ((bQ (w::r)).drop 4)).2)=_
      rw[cY,Py hw3]
     rw[e1];unfold fD;rw[hc]
     show(if (j:Int)<=last then none else fD r ((pre++List.replicate (6-j) 0).set j d) (j:Int))=_
     rw[ahz (by omega),R7 j (by omega) pre hl d,ih];split
     .rw[List.append_assoc];rfl
     .rfl
    .refine skip ?_ (λw' r' j' d' z hc'=>?_)
     .rw[fw]
      show(if j=k then some d else none)=none
      rw[ahz hj]
     .cases z;rw[hc]at hc';cases hc';rcases hw w r j d rfl hc with h|h
      .exact Or.inl h
      .exact Or.inr (by omega)
theorem z8:∀(ps:List (List Nat)) (rest:List Nat),0<=(bH ps rest).1.sum/\((bH ps rest).1.sum=0->(bH ps rest).2=rest)
 |[],rest=>⟨Int.le_refl 0,λ_=>rfl⟩
 |p::ps,rest=>by
  cases h:bU p rest with
  |none=>
   have ih:=z8 ps rest;have e1:bH (p::ps) rest=(0::(bH ps rest).1,(bH ps rest).2):=by
    show(match bU p rest with|some d=>_|none=>_)=_
    rw[h]
   rw[e1,List.sum_cons];refine⟨by omega,λz=>ih.2 (by omega)⟩
  |some d=>
   have ih:=z8 ps (rest.drop 4);have e1:bH (p::ps) rest=(d::(bH ps (rest.drop 4)).1,(bH ps (rest.drop 4)).2):=by
    show(match bU p rest with|some d=>_|none=>_)=_
    rw[h]
   have hd:0<d:=by
    unfold bU at h;split at h
    .split at h
     .split at h
      .rename_i hc;cases h;omega
      .cases h
     .cases h
    .cases h
   rw[e1,List.sum_cons];refine⟨by omega,λz=>?_⟩;have:=ih.1;omega
theorem LR(t:List Nat):jW t=lC t:=by
 unfold jW lC;by_cases h:t=ou
 .rw[ahy h,ahy h]
 .rw[ahz h,ahz h];obtain⟨f1,f2,f3⟩:=iT t [] (by simp);rw[List.nil_append]at f1;have r:=wu 6 0 (TL.spl [32] 0 [] t) [] (-1) rfl rfl (by decide) f2 (λw r j d _ _=>Or.inr (agO _));rw[ahb,f1]at r;have z:([]:List Int)++List.replicate (6-0) 0=m7:=rfl;rw[z,List.nil_append]at r;rw[r];have s:=z8 bD (t++[32]);show _=(if (bH bD (t++[32])).2≠[]\/(bH bD (t++[32])).1.sum=0 then none else some (bH bD (t++[32])).1);by_cases e:(bH bD (t++[32])).2=[]
  .rw[ahy e,ahz]
   rintro(q|q)
   .exact q e
   .have:=s.2 q;rw[e]at this;simp at this
  .rw[ahz e,ahy (Or.inl e)]
open PySem.NumText in
def bY(t:List Nat):Option Int:=if (t=[]\/9<t.length)\/(∃c∈t,¬(48<=c/\c<=57))\/(t.head?=some 48/\t≠[48]) then none else some ((digitsVal t:Nat):Int)
open PySem.NumText in
theorem xU{t:List Nat}(h:¬∃c∈t,¬(48<=c/\c<=57))(h1:t≠[])(h2:t.length<=600):Rf.intD (.str (cS t))=.ok (.int ((digitsVal t:Nat):Int)):=by
 have hi:intText? (cS t)=some ((digitsVal t:Nat):Int):=intText_digits (x:=cS t) (λc hc=>Classical.byContradiction λn=>h ⟨c,hc,n⟩) h1 (by rw[cI];omega);show Out.when (decide ((cS t).length<=640)) (match PySem.intText? (cS t) with
  |some n=>Out.ok (PyData.int n)
  |none=>.bad)=_
 rw[hi,cI,decide_eq_true (by omega)];rfl
theorem Kl(t:List Nat):(∃c∈t,¬(48<=c/\c<=57))↔(t.any λc=>!decide (48<=c/\c<=57))=true:=by simp only[List.any_eq_true,agG,decide_eq_false_iff_not]
theorem yh(M:Mo)(t:List Nat)(hl:t.length<=5000):bV M [.str (cS t)]=match bY t with
  |some i=>.ok (.int i)
  |none=>.exc ⟨"BadLine",[]⟩:=by
 have key:=iD (tg:=au 1) (te:=aA (inD true) (ak 1) (qC dM)) (M:=M) (ρ:=[some (.dat (.str (cS t))),none]) (λc:Nat=>PyData.str ⟨#[c]⟩) (λc=>.bool (!decide (48<=c/\c<=57))) t λc hc=>⟨[some (.dat (.str (cS t))),some (.dat (.str ⟨#[c]⟩))],by simp,by
  have e:inD true (.str ⟨#[c]⟩) dM=.ok (.bool (!decide (48<=c/\c<=57))):=by
   show Out.ok (PyData.bool (true ^^ decide (c∈(Str.ofString "0123456789").cps.toList)))=_
   rw[U7,Bool.true_xor]
  have e':aA (inD true) (ak 1) (qC dM) M [some (.dat (.str (cS t))),some (.dat (.str ⟨#[c]⟩))]=inD true (.str ⟨#[c]⟩) dM:=rfl;rw[e',e]⟩
 have hch:dw (cS t)=t.map λc=>PyData.str ⟨#[c]⟩:=rfl;rw[<-hch]at key;have ha:EY (.list (t.map λc=>PyData.bool (!decide (48<=c/\c<=57))))=.ok (.bool (t.any λc=>!decide (48<=c/\c<=57))):=by
  have e:(t.map λc=>PyData.bool (!decide (48<=c/\c<=57)))=(t.map λc=>!decide (48<=c/\c<=57)).map PyData.bool:=by rw[agW];rfl
  rw[e]
  show(match jy _ with
   |some bs=>Out.ok (PyData.bool (bs.any id))
   |none=>.bad)=_
  rw[pB];show Out.ok (PyData.bool ((t.map λc=>!decide (48<=c/\c<=57)).any id))=_;rw[List.any_map];rfl
 have hln:cG (.str (cS t))=.ok (.int (t.length:Int)):=by show Out.when (decide ((cS t).length<=100000)) (.ok (PyData.int ((cS t).length:Int)))=_;rw[cI,decide_eq_true (by omega)];rfl
 have hcl:(dw (cS t)).length<=50000:=by rw[hch,agB];omega
 have hit:dG (.str (cS t))=.ok (dw (cS t)):=rfl;by_cases h1:t=[]\/9<t.length
 .have e:bY t=none:=ahy (.inl h1);rw[e];have hb:¬(1<=(t.length:Int))\/¬((t.length:Int)<=9):=h1.elim (λz=>.inl (by rw[z];simp)) λz=>.inr (by omega);generalize (t.length:Int)=LN at *;generalize dw (cS t)=CH at *;generalize cS t=T at *;by_cases q1:1<=LN
  .have q2:¬LN<=9:=hb.elim (λz=>absurd q1 z) id;simp[bV,dX,hln,cH,q1,q2]
  .simp[bV,dX,hln,cH,q1]
 .have hne:t≠[]:=λz=>h1 (.inl z);have h9:t.length<=9:=Nat.le_of_not_lt λz=>h1 (.inr z);have q1:(1:Int)<=t.length:=by
   have:=List.length_pos_iff.mpr hne;omega
  have q2:(t.length:Int)<=9:=by omega
  by_cases h2:∃c∈t,¬(48<=c/\c<=57)
  .have e:bY t=none:=ahy (.inr (.inl h2));rw[e];rw[(Kl t).mp h2]at ha;generalize (t.length:Int)=LN at *;generalize dw (cS t)=CH at *;generalize (t.map λc=>PyData.bool (!decide (48<=c/\c<=57)))=FL at *;generalize cS t=T at *;simp[bV,dX,hln,cH,q1,q2,hit,hcl,key,ha]
  .have hint:=xU h2 hne (by omega);have h2':(t.any λc=>!decide (48<=c/\c<=57))=false:=by
    cases q:(t.any λc=>!decide (48<=c/\c<=57)) with
    |false=>rfl
    |true=>exact absurd ((Kl t).mpr q) h2
   rw[h2']at ha;cases t with
   |nil=>exact absurd rfl hne
   |cons c r=>
    have hx:dW (.str (cS (c::r))) (.int 0)=.ok (.str ⟨#[c]⟩):=by
     show Out.when (decide ((cS (c::r)).length<=100000)) (match atI (c::r) 0 with
      |some c=>Out.ok (PyData.str ⟨#[c]⟩)
      |none=>.bad)=_
     have h0:atI (c::r) (0:Int)=some c:=by simp[atI,ixN]
     rw[cI,decide_eq_true (by omega),h0];rfl
    have e0:bW (.str ⟨#[c]⟩) (.str "0")=.ok (.bool (decide (c=48))):=by show Out.ok (PyData.bool (cS [c]==cS [48]))=_;rw[oY];simp
    have e1:ju (.str (cS (c::r))) (.str "0")=.ok (.bool (!decide (c::r=[48]))):=by show Out.ok (PyData.bool (!(cS (c::r)==cS [48])))=_;rw[oY]
    by_cases h3:(c::r).head?=some 48/\c::r≠[48]
    .have e:bY (c::r)=none:=ahy (.inr (.inr h3));rw[e];have h48:c=48:=by simpa using h3.1
     rw[decide_eq_false h3.2]at e1;rw[decide_eq_true h48]at e0;generalize dw (cS (c::r))=CH at *;generalize ((c::r).map λc=>PyData.bool (!decide (48<=c/\c<=57)))=FL at *;generalize (((c::r).length:Nat):Int)=LN at *;generalize cS (c::r)=T at *;generalize (⟨#[c]⟩:Str)=S0 at *;simp[bV,dX,hln,cH,q1,q2,hit,hcl,key,ha,hx,e0,e1]
    .have e:bY (c::r)=some _:=ahz λz=>z.elim h1 λz=>z.elim h2 h3;rw[e];by_cases h48:c=48
     .have h4:c::r=[48]:=Classical.byContradiction λz=>h3 ⟨by rw[h48];rfl,z⟩;rw[decide_eq_true h4]at e1;rw[decide_eq_true h48]at e0;generalize PySem.NumText.digitsVal (c::r)=dv at *;generalize dw (cS (c::r))=CH at *;generalize ((c::r).map λc=>PyData.bool (!decide (48<=c/\c<=57)))=FL at *;generalize (((c::r).length:Nat):Int)=LN at *;generalize cS (c::r)=T at *;generalize (⟨#[c]⟩:Str)=S0 at *;simp[bV,dX,hln,cH,q1,q2,hit,hcl,key,ha,hx,e0,e1,hint]
     .rw[decide_eq_false h48]at e0;generalize PySem.NumText.digitsVal (c::r)=dv at *;generalize dw (cS (c::r))=CH at *;generalize ((c::r).map λc=>PyData.bool (!decide (48<=c/\c<=57)))=FL at *;generalize (((c::r).length:Nat):Int)=LN at *;generalize cS (c::r)=T at *;generalize (⟨#[c]⟩:Str)=S0 at *;simp[bV,dX,hln,cH,q1,q2,hit,hcl,key,ha,hx,e0,hint]
def lJ:Option Int->Dat
 |some i=>.int i
 |none=>.none
theorem Vc(M:Mo)(x0:Option Cell):∀(t:List Nat) (x1:Option Cell),((¬∃c∈t,¬(48<=c/\c<=57))->∃y,bZ (au 1) dU (t.map λc=>PyData.str ⟨#[c]⟩) M [x0,x1]=.next [x0,y] M)/\((∃c∈t,¬(48<=c/\c<=57))->bZ (au 1) dU (t.map λc=>PyData.str ⟨#[c]⟩) M [x0,x1]=.ret .none M)
 |[],x1=>⟨λ_=>⟨x1,rfl⟩,λ⟨_,h,_⟩=>nomatch h⟩
 |c::t,x1=>by
  have e:inD true (.str ⟨#[c]⟩) (.str "0123456789")=.ok (.bool (!decide (48<=c/\c<=57))):=by
   show Out.ok (PyData.bool (true ^^ decide (c∈(Str.ofString "0123456789").cps.toList)))=_
   rw[U7,Bool.true_xor]
  obtain⟨i1,i2⟩:=Vc M x0 t (some (.dat (.str ⟨#[c]⟩)));by_cases h:48<=c/\c<=57
  .rw[decide_eq_true h]at e;have st:dU M [x0,some (.dat (.str ⟨#[c]⟩))]=.next [x0,some (.dat (.str ⟨#[c]⟩))] M:=by
    generalize (⟨#[c]⟩:Str)=S0 at *;simp[dU,e]
   rw[agy,fZ (Z1:=[x0,some (.dat (.str ⟨#[c]⟩))]) (by simp) st];exact⟨λz=>i1 λ⟨d,hd,n⟩=>z ⟨d,agz _ hd,n⟩,λ⟨d,hd,n⟩=>i2 (by
    rcases agI.mp hd with rfl|hd
    .exact absurd h n
    .exact⟨d,hd,n⟩)⟩
  .rw[decide_eq_false h]at e;refine⟨λz=>absurd ⟨c,agA,h⟩ z,λ_=>?_⟩;have st:dU M [x0,some (.dat (.str ⟨#[c]⟩))]=.ret .none M:=by
    generalize (⟨#[c]⟩:Str)=S0 at *;simp[dU,e]
   rw[agy,bZ]
   show(match dU M [x0,some (.dat (.str ⟨#[c]⟩))] with
    |.next Z2 M2=>_
    |.cont Z2 M2=>_
    |.brk Z2 M2=>_
    |.ret d M2=>dY.ret d M2
    |.exc x Z2 M2=>_
    |.bad=>_)=_
   rw[st]
theorem Cz(M:Mo)(t:List Nat)(hl:t.length<=5000):cV M [.str (cS t)]=.ok (lJ (bY t)):=by
 obtain⟨i1,i2⟩:=Vc M (some (.dat (.str (cS t)))) t none;have hch:(t.map λc=>PyData.str ⟨#[c]⟩)=dw (cS t):=rfl;rw[hch]at i1 i2;have hln:cG (.str (cS t))=.ok (.int (t.length:Int)):=by show Out.when (decide ((cS t).length<=100000)) (.ok (PyData.int ((cS t).length:Int)))=_;rw[cI,decide_eq_true (by omega)];rfl
 have hit:dG (.str (cS t))=.ok (dw (cS t)):=rfl;have e0:bW (.str (cS t)) (.str "")=.ok (.bool (decide (t=[]))):=by show Out.ok (PyData.bool (cS t==cS []))=_;rw[oY]
 have e1:ju (.str (cS t)) (.str "0")=.ok (.bool (!decide (t=[48]))):=by show Out.ok (PyData.bool (!(cS t==cS [48])))=_;rw[oY]
 by_cases h0:t=[]
 .have e:bY t=none:=ahy (.inl (.inl h0));rw[e];rw[decide_eq_true h0]at e0;generalize cS t=T at *;simp[cV,eX,e0,lJ]
 .rw[decide_eq_false h0]at e0;by_cases h9:9<t.length
  .have e:bY t=none:=ahy (.inl (.inr h9));rw[e];have h9':(9:Int)<t.length:=by omega
   generalize (t.length:Int)=LN at *;generalize cS t=T at *;simp[cV,eX,e0,hln,h9',lJ]
  .have h9':¬(9:Int)<t.length:=by omega
   cases t with
   |nil=>exact absurd rfl h0
   |cons c r=>
    have hx:dW (.str (cS (c::r))) (.int 0)=.ok (.str ⟨#[c]⟩):=by
     show Out.when (decide ((cS (c::r)).length<=100000)) (match atI (c::r) 0 with
      |some c=>Out.ok (PyData.str ⟨#[c]⟩)
      |none=>.bad)=_
     have h0:atI (c::r) (0:Int)=some c:=by simp[atI,ixN]
     rw[cI,decide_eq_true (by omega),h0];rfl
    have e2:bW (.str ⟨#[c]⟩) (.str "0")=.ok (.bool (decide (c=48))):=by show Out.ok (PyData.bool (cS [c]==cS [48]))=_;rw[oY];simp
    by_cases h3:(c::r).head?=some 48/\c::r≠[48]
    .have e:bY (c::r)=none:=ahy (.inr (.inr h3));rw[e];have h48:c=48:=by simpa using h3.1
     rw[decide_eq_false h3.2]at e1;rw[decide_eq_true h48]at e2;generalize (((c::r).length:Nat):Int)=LN at *;generalize dw (cS (c::r))=CH at *;generalize cS (c::r)=T at *;generalize (⟨#[c]⟩:Str)=S0 at *;simp[cV,eX,e0,hln,h9',e1,hx,e2,lJ]
    .have t3:(ju (.str (cS (c::r))) (.str "0")=.ok (.bool true)/\bW (.str ⟨#[c]⟩) (.str "0")=.ok (.bool false))\/ju (.str (cS (c::r))) (.str "0")=.ok (.bool false):=by
      by_cases h4:c::r=[48]
      .right
       rw[e1,decide_eq_true h4];rfl
      .left;refine⟨by rw[e1,decide_eq_false h4];rfl,?_⟩;have h48:¬c=48:=λz=>h3 ⟨by rw[z];rfl,h4⟩;rw[e2,decide_eq_false h48]
     clear e1 e2;by_cases h2:∃d∈c::r,¬(48<=d/\d<=57)
     .have e:bY (c::r)=none:=ahy (.inr (.inl h2));rw[e];have i2:=i2 h2;clear i1;generalize (((c::r).length:Nat):Int)=LN at *;generalize dw (cS (c::r))=CH at *;generalize cS (c::r)=T at *;generalize (⟨#[c]⟩:Str)=S0 at *;rcases t3 with⟨t3,t4⟩|t3
      .simp[cV,eX,e0,hln,h9',t3,t4,hx,hit,i2,lJ]
      .simp[cV,eX,e0,hln,h9',t3,hx,hit,i2,lJ]
     .have e:bY (c::r)=some _:=ahz λz=>z.elim (λz=>z.elim h0 h9) λz=>z.elim h2 h3;rw[e];obtain⟨y,i1⟩:=i1 h2;clear i2;have hint:=xU h2 h0 (by omega);generalize PySem.NumText.digitsVal (c::r)=dv at *;generalize (((c::r).length:Nat):Int)=LN at *;generalize dw (cS (c::r))=CH at *;generalize cS (c::r)=T at *;generalize (⟨#[c]⟩:Str)=S0 at *;rcases t3 with⟨t3,t4⟩|t3
      .simp[cV,eX,e0,hln,h9',t3,t4,hx,hit,i1,hint,lJ]
      .simp[cV,eX,e0,hln,h9',t3,hx,hit,i1,hint,lJ]
theorem aax(a b c:Nat):cutS (cS [a,b,c]) none (some 2)=cS [a,b]:=TL.ext_tl (WM (z:=cS [a,b,c]) rfl)
theorem K8(neg:Bool)(t:List Nat):inD neg (.str (cS t)) aX=.ok (.bool (neg ^^ (cX t).isSome)):=by
 have e:(qR.map PyData.str).any (λz=>PyData.eqv z (.str (cS t)))=(cX t).isSome:=by rw[List.any_map,cX,List.findIdx?_isSome,<-Ey,List.any_map];congr 1;funext p;show PyData.eqv (.str p) (.str (cS t))=decide (TL.tl p=t);rw[show PyData.eqv (.str p) (.str (cS t))=(p==cS t) by simp[PyData.eqv],FZ]
 have:inB (.str (cS t)) aX=.ok (cX t).isSome:=by show Out.when (nQ (.str (cS t))&&(qR.map PyData.str).all nQ) (.ok ((qR.map PyData.str).any λz=>PyData.eqv z (.str (cS t))))=_;rw[e];rfl
 unfold inD;rw[this];rfl
theorem Jj(neg:Bool)(c:Nat):inD neg (.str ⟨#[c]⟩) (.str "123456789")=.ok (.bool (neg ^^ decide (49<=c/\c<=57))):=by
 show Out.ok (PyData.bool (neg ^^ decide (c∈(Str.ofString "123456789").cps.toList)))=_
 have h:=aau c;have h:decide (c∈(Str.ofString "123456789").cps.toList)=decide (49<=c/\c<=57):=h
 rw[h]
theorem TQ(t:List Nat)(hl:t.length<=5000):cG (.str (cS t))=.ok (.int (t.length:Int)):=by show Out.when (decide ((cS t).length<=100000)) (.ok (PyData.int ((cS t).length:Int)))=_;rw[cI,decide_eq_true (by omega)];rfl
theorem uh(t:List Nat)(lo hi:Option Int)(hl:t.length<=5000):nM (.str (cS t)) lo hi=.ok (.str (cutS (cS t) lo hi)):=by show Out.when (decide ((cS t).length<=100000)) (Out.ok (PyData.str (cutS (cS t) lo hi)))=_;rw[cI,decide_eq_true (by omega)];rfl
theorem IV(M:Mo)(w:List Nat)(hl:w.length<=5000)(h:lG w=none):gj M [.str (cS w)]=.exc ⟨"BadEar",[]⟩:=by
 have h1:=TQ w hl;by_cases h3:w.length=3
 .match w,h3 with
  |[a,b,c],_=>
   have h2:nM (.str (cS [a,b,c])) none (some 2)=.ok (.str (cS [a,b])):=by rw[uh _ _ _ hl,aax]
   have h4:=K8 true [a,b];have h5:dW (.str (cS [a,b,c])) (.int 2)=.ok (.str ⟨#[c]⟩):=by
    show Out.when (decide ((cS [a,b,c]).length<=100000)) (match atI [a,b,c] 2 with
     |some c=>Out.ok (PyData.str ⟨#[c]⟩)
     |none=>.bad)=_
    rw[cI,decide_eq_true (by show 3<=100000;decide)];rfl
   have h6:inD true (.str ⟨#[c]⟩) jF=_:=Jj true c;have h:(if 49<=c/\c<=57 then(cX [a,b]).map λk=>(k,(c:Int)-48) else none)=none:=h;have hl3:(([a,b,c]:List Nat).length:Int)=3:=rfl;rw[hl3]at h1;by_cases q:49<=c/\c<=57
   .rw[ahy q]at h;have q2:(cX [a,b]).isSome=false:=by
     cases z:cX [a,b] with
     |none=>rfl
     |some k=>rw[z]at h;cases h
    rw[q2]at h4;generalize cS [a,b,c]=T at *;generalize cS [a,b]=T2 at *;generalize (⟨#[c]⟩:Str)=T3 at *;simp[gj,lu,h1,h2,h4]
   .rw[decide_eq_false q]at h6;generalize (cX [a,b]).isSome=B at *;generalize cS [a,b,c]=T at *;generalize cS [a,b]=T2 at *;generalize (⟨#[c]⟩:Str)=T3 at *;cases B<;>simp[gj,lu,h1,h2,h4,h5,h6]
 .have h3:¬(w.length:Int)=3:=by omega
  generalize (w.length:Int)=LN at *;generalize cS w=T at *;simp[gj,lu,h1,h3]
theorem uL(M:Mo)(x0:Option Cell):∀(ws:List (List Nat)) (dep:List Int) (last:Int) (x3 x4 x5:Option Cell),(∀w∈ws,w.length<=5000)->fD ws dep last=none->dep.length=6->∃Z',
  bZ (au 3) cC (ws.map λw=>PyData.str (cS w)) M [x0,some (.mut (dep.map PyData.int)),some (.dat (.int last)),x3,x4,x5]=.exc ⟨"BadEar",[]⟩ Z' M
 |[],dep,last,x3,x4,x5,_,h,_=>by cases h
 |w::ws,dep,last,x3,x4,x5,hw,h,hl=>by
  rw[fD]at h;have step:∀(Z':Rf.Env),cC M [x0,some (.mut (dep.map PyData.int)),some (.dat (.int last)),some (.dat (.str (cS w))),x4,x5]=.exc ⟨"BadEar",[]⟩ Z' M->∃Z',bZ (au 3) cC ((w::ws).map λw=>PyData.str (cS w)) M [x0,some (.mut (dep.map PyData.int)),some (.dat (.int last)),x3,x4,x5]=.exc ⟨"BadEar",[]⟩ Z' M:=λZ' e=>by
   refine⟨Z',?_⟩;rw[agy,bZ]
   show(match cC M [x0,some (.mut (dep.map PyData.int)),some (.dat (.int last)),some (.dat (.str (cS w))),x4,x5] with
    |.next Z2 M2=>_
    |.cont Z2 M2=>_
    |.brk Z2 M2=>_
    |.ret d M2=>_
    |.exc x Z2 M2=>dY.exc x Z2 M2
    |.bad=>_)=_
   rw[e]
  cases hc:lG w with
  |none=>
   have h1:=IV M w (hw w agA) hc;refine step [x0,some (.mut (dep.map PyData.int)),some (.dat (.int last)),some (.dat (.str (cS w))),x4,x5] ?_;generalize dep.map PyData.int=D at *;generalize cS w=T at *;simp[cC,h1]
  |some kd=>
   obtain⟨k,d⟩:=kd;rw[hc]at h;have h:(if (k:Int)<=last then none else fD ws (dep.set k d) (k:Int))=none:=h;have h1:=v8 M (w:=cS w) (k:=k) (d:=d) hc;by_cases q:(k:Int)<=last
   .refine step [x0,some (.mut (dep.map PyData.int)),some (.dat (.int last)),some (.dat (.str (cS w))),some (.dat (.int k)),some (.dat (.int d))] ?_;generalize dep.map PyData.int=D at *;generalize cS w=T at *;simp[cC,h1,q]
   .rw[ahz q]at h;obtain⟨a,b,c,_,_,_,_,k6⟩:=oR hc;obtain⟨Z',ih⟩:=uL M x0 ws (dep.set k d) (k:Int) (some (.dat (.str (cS w)))) (some (.dat (.int k))) (some (.dat (.int d))) (λv hv=>hw v (agz _ hv)) h (by rw[agR];exact hl);refine⟨Z',?_⟩;have hx:ixN 6 (k:Int)=some k:=by
     have p:k=0\/k=1\/k=2\/k=3\/k=4\/k=5:=by omega
     rcases p with rfl|rfl|rfl|rfl|rfl|rfl<;>rfl
    have hm:(dep.set k d).map PyData.int=(dep.map PyData.int).set k (.int d):=List.map_set;rw[hm]at ih;have hlD:(dep.map PyData.int).length=6:=by rw[agB];exact hl
    rw[agy];generalize (ws.map λw=>PyData.str (cS w))=WS at *;generalize dep.map PyData.int=D at *;generalize cS w=T at *;rw[fZ (Z1:=[x0,some (.mut D),some (.dat (.int last)),some (.dat (.str T)),x4,x5]) (by simp) (Z2:=[x0,some (.mut (D.set k (.int d))),some (.dat (.int (k:Int))),some (.dat (.str T)),some (.dat (.int k)),some (.dat (.int d))]) (M2:=M) (by simp[cC,h1,q,hlD,hx])];exact ih
theorem o7{t w:List Nat}(h:w∈wL t):w.length<=t.length:=by
 have key:∀(t acc:List Nat),∀w∈TL.spl [32] 0 acc t,w.length<=acc.length+t.length:=by
  intro t
  induction t with
  |nil=>
   intro acc w hw;have:w=acc:=agJ.mp hw;rw[this];simp
  |cons c r ih=>
   intro acc w hw;have hw:w∈(if TL.pre [32] (c::r)=true then acc::TL.spl [32] 0 [] r else TL.spl [32] 0 (acc++[c]) r):=hw;split at hw
   .rcases agI.mp hw with rfl|hw
    .omega
    .have:=ih [] w hw;simp at this |-
     omega
   .have:=ih (acc++[c]) w hw;simp at this |-
    omega
 have:=key t [] w h;simpa using this
theorem qd(t:List Nat)(h:t.length<=5000):oO (cS t) (.str " ")=.ok (.list ((wL t).map λw=>PyData.str (cS w))):=by
 have l1:Str.length " "=1:=by decide +kernel
 show Out.when (!(Str.length " "==0)&&decide ((cS t).length+2<=100000)) (Out.ok (PyData.list ((Txt.split (cS t) " ").map PyData.str)))=_
 rw[l1,cI,decide_eq_true (by omega),split_S,agW];rfl
theorem Fo(M:Mo)(t:List Nat)(hl:t.length<=5000):fu M [.str (cS t)]=match jW t with
  |some l=>.ok (gQ l)
  |none=>.exc ⟨"BadEar",[]⟩:=by
 have hq:=Jq t;have hb2:=Vu;by_cases e:t=ou
 .have hr:jW t=some m7:=ahy e;rw[hr,decide_eq_true e]at *;generalize cS t=T at *;simp[fu,lM,hq,hb2]
 .have hr:jW t=fD (wL t) m7 (-1):=ahz e;rw[hr];rw[decide_eq_false e]at hq;have hs:=qd t hl;have hb:uZ jB=.ok (m7.map PyData.int):=by rfl
  cases hw:fD (wL t) m7 (-1) with
  |some l=>
   have hw':fD (((wL t).map cS).map TL.tl) m7 (-1)=some l:=by rw[agW];exact(congrArg (λz=>fD z m7 (-1)) (List.map_id (wL t))).trans hw
   obtain⟨y2,y3,y4,y5,lp⟩:=Bl M (some (.dat (.str (cS t)))) ((wL t).map cS) m7 l (-1) none none none hw' rfl;rw[agW]at lp;have lp:bZ (au 3) cC ((wL t).map λw=>PyData.str (cS w)) M _=_:=lp;generalize ((wL t).map λw=>PyData.str (cS w))=D at *;generalize m7.map PyData.int=Z at *;generalize cS t=T at *;simp[fu,lM,hq,hb,dI,hs,lp]
  |none=>
   obtain⟨Z',lp⟩:=uL M (some (.dat (.str (cS t)))) (wL t) m7 (-1) none none none (λw h=>aha (o7 h) hl) hw rfl;generalize ((wL t).map λw=>PyData.str (cS w))=D at *;generalize m7.map PyData.int=Z at *;generalize cS t=T at *;simp[fu,lM,hq,hb,dI,hs,lp]
theorem vM(M:Mo)(t:List Nat)(hl:t.length<=5000):dO M [.str (cS t)]=match jW t with
  |some l=>.ok (gQ l)
  |none=>.exc ⟨"BadLine",[]⟩:=by
 have h:=Fo M t hl;cases q:jW t with
 |some l=>
  rw[q]at h;have h:fu M [.str (cS t)]=.ok (gQ l):=h;generalize cS t=T at *;simp[dO,jg,h]
 |none=>
  rw[q]at h;have h:fu M [.str (cS t)]=.exc ⟨"BadEar",[]⟩:=h
  generalize cS t=T at *;simp[dO,jg,h,uF]
theorem Mj(t:List Nat)(m n:Nat)(h:m<=n):cutS (cS t) (some (m:Int)) (some (n:Int))=cS ((t.drop m).take (n-m)):=by
 apply TL.ext_tl;show TL.tl (cutS (cS t) (some (m:Int)) (some (n:Int)))=(t.drop m).take (n-m);unfold cutS;rw[TL.tl_mk,HT.sIx_nat,HT.sIx_nat,cI]
 show((TL.tl (cS t)).drop (min m t.length)).take (min n t.length-min m t.length)=_
 rw[qb];by_cases h1:n<=t.length
 .rw[Nat.min_eq_left h1,Nat.min_eq_left (by omega)]
 .by_cases h2:m<=t.length
  .rw[Nat.min_eq_left h2,Nat.min_eq_right (by omega),List.take_of_length_le (by simp),List.take_of_length_le (by simp;omega)]
  .rw[Nat.min_eq_right (by omega),Nat.min_eq_right (by omega),List.drop_eq_nil_of_le (agL _),List.drop_eq_nil_of_le (by omega)];simp
theorem Om(t:List Nat)(n:Nat):cutS (cS t) none (some (n:Int))=cS (t.take n):=by have h:=Mj t 0 n (agO _);rw[ahb,Nat.sub_zero]at h;rw[<-h];unfold cutS;rw[show HT.sIx (cS t).length 0 none=HT.sIx (cS t).length 0 (some ((0:Nat):Int)) by rw[HT.sIx_nat];simp[HT.sIx]]
theorem Fg(t:List Nat)(m:Nat):cutS (cS t) (some (m:Int)) none=cS (t.drop m):=by
 apply TL.ext_tl;show TL.tl (cutS (cS t) (some (m:Int)) none)=t.drop m;unfold cutS;rw[TL.tl_mk,HT.sIx_nat,HT.sIx_none,cI]
 show((TL.tl (cS t)).drop (min m t.length)).take (t.length-min m t.length)=_
 rw[qb,List.take_of_length_le (by simp)];by_cases h:m<=t.length
 .rw[Nat.min_eq_left h]
 .rw[Nat.min_eq_right (by omega),List.drop_eq_nil_of_le (agL _),List.drop_eq_nil_of_le (by omega)]
theorem Uu(a b:List Nat):bW (.str (cS a)) (.str (cS b))=.ok (.bool (decide (a=b))):=by show Out.ok (PyData.bool (cS a==cS b))=_;rw[oY]
theorem Eo(a b:List Nat):ju (.str (cS a)) (.str (cS b))=.ok (.bool (!decide (a=b))):=by show Out.ok (PyData.bool (!(cS a==cS b)))=_;rw[oY]
theorem S8(M:Mo)(x0:Option Cell)(acc:List Dat)(p r:List Nat)(x4:Option Cell)(ha:acc.length<1000)(hl:r.length<=5000):∃y4,
  fG M [x0,some (.mut acc),some (.dat (.str (cS r))),some (.dat (.str (cS p))),x4]=.next [x0,some (.mut (acc++[.int ((bU p r).getD 0)])),some (.dat (.str (cS (if (bU p r).isSome=true then r.drop 4 else r)))),some (.dat (.str (cS p))),y4] M:=by
 have ha2:acc.length<100000:=by omega
 have s1:nM (.str (cS r)) none (some 2)=.ok (.str (cS (r.take 2))):=by rw[uh _ _ _ hl];exact congrArg (λz=>Out.ok (PyData.str z)) (Om r 2)
 have s2:nM (.str (cS r)) (some 2) (some 3)=.ok (.str (cS ((r.drop 2).take 1))):=by rw[uh _ _ _ hl];exact congrArg (λz=>Out.ok (PyData.str z)) (Mj r 2 3 (by decide))
 have s3:nM (.str (cS r)) (some 3) (some 4)=.ok (.str (cS ((r.drop 3).take 1))):=by rw[uh _ _ _ hl];exact congrArg (λz=>Out.ok (PyData.str z)) (Mj r 3 4 (by decide))
 have s4:nM (.str (cS r)) (some 4) none=.ok (.str (cS (r.drop 4))):=by rw[uh _ _ _ hl];exact congrArg (λz=>Out.ok (PyData.str z)) (Fg r 4)
 have e1:=Uu (r.take 2) p;by_cases h1:r.take 2=p
 .rw[decide_eq_true h1]at e1;cases hd:r.drop 2 with
  |nil=>
   have hf:bU p r=none:=by unfold bU;rw[ahy h1,hd]
   rw[hf];have e2:ju (.str (cS ((r.drop 2).take 1))) (.str "")=.ok (.bool false):=by rw[hd];exact Eo [] []
   refine⟨some (.dat (.int 0)),?_⟩;show _=dY.next [x0,some (.mut (acc++[.int 0])),some (.dat (.str (cS r))),_,_] M;generalize cS (r.take 2)=T1 at *;generalize cS ((r.drop 2).take 1)=T2 at *;generalize cS ((r.drop 3).take 1)=T3 at *;generalize cS (r.drop 4)=T4 at *;generalize cS r=T at *;generalize cS p=P at *;simp[fG,s1,s2,e1,e2,ha2]
  |cons c r2=>
   have e2:ju (.str (cS ((r.drop 2).take 1))) (.str "")=.ok (.bool true):=by rw[hd];exact Eo [c] []
   have e3:inD false (.str (cS ((r.drop 2).take 1))) (.str "123456789")=.ok (.bool (decide (49<=c/\c<=57))):=by rw[hd];have:=Jj false c;rw[Bool.false_xor]at this;exact this
   have hd3:r.drop 3=r2:=by
    have:r.drop 3=(r.drop 2).drop 1:=by rw[List.drop_drop]
    rw[this,hd];rfl
   by_cases h2:49<=c/\c<=57
   .rw[decide_eq_true h2]at e3;have e5:Rf.intD (.str (cS ((r.drop 2).take 1)))=.ok (.int ((c:Int)-48)):=by
     rw[hd];show Out.when (decide ((cS [c]).length<=640)) (match PySem.intText? (cS [c]) with
      |some n=>Out.ok (PyData.int n)
      |none=>.bad)=_
     rw[show PySem.intText? (cS [c])=some ((c:Int)-48) from Vy h2,cI,decide_eq_true (by show 1<=640;decide)];rfl
    cases hr2:r2 with
    |nil=>
     have hf:bU p r=none:=by unfold bU;rw[ahy h1,hd,hr2]
     rw[hf];have e4:bW (.str (cS ((r.drop 3).take 1))) (.str " ")=.ok (.bool false):=by rw[hd3,hr2,MK];exact Uu [] [32]
     refine⟨some (.dat (.int 0)),?_⟩;show _=dY.next [x0,some (.mut (acc++[.int 0])),some (.dat (.str (cS r))),_,_] M;generalize cS (r.take 2)=T1 at *;generalize cS ((r.drop 2).take 1)=T2 at *;generalize cS ((r.drop 3).take 1)=T3 at *;generalize cS (r.drop 4)=T4 at *;generalize cS r=T at *;generalize cS p=P at *;simp[fG,s1,s2,s3,e1,e2,e3,e4,ha2]
    |cons e r3=>
     have e4:bW (.str (cS ((r.drop 3).take 1))) (.str " ")=.ok (.bool (decide (e=32))):=by rw[hd3,hr2,MK];have:=Uu [e] [32];rw[show decide ([e]=[32])=decide (e=32) by simp]at this;exact this
     by_cases h4:e=32
     .rw[decide_eq_true h4]at e4;have hf:bU p r=some ((c:Int)-48):=by
       unfold bU;rw[ahy h1,hd,hr2]
       show(if (49<=c/\c<=57)/\e=32 then some ((c:Int)-48) else none)=_
       rw[ahy ⟨h2,h4⟩]
      rw[hf];refine⟨some (.dat (.int ((c:Int)-48))),?_⟩;show _=dY.next [x0,some (.mut (acc++[.int ((c:Int)-48)])),some (.dat (.str (cS (r.drop 4)))),_,_] M;generalize cS (r.take 2)=T1 at *;generalize cS ((r.drop 2).take 1)=T2 at *;generalize cS ((r.drop 3).take 1)=T3 at *;generalize cS (r.drop 4)=T4 at *;generalize cS r=T at *;generalize cS p=P at *;generalize (c:Int)-48=cc at *;simp[fG,s1,s2,s3,s4,e1,e2,e3,e4,e5,ha2]
     .rw[decide_eq_false h4]at e4;have hf:bU p r=none:=by
       unfold bU;rw[ahy h1,hd,hr2]
       show(if (49<=c/\c<=57)/\e=32 then some ((c:Int)-48) else none)=_
       rw[ahz λz=>h4 z.2]
      rw[hf];refine⟨some (.dat (.int 0)),?_⟩;show _=dY.next [x0,some (.mut (acc++[.int 0])),some (.dat (.str (cS r))),_,_] M;generalize cS (r.take 2)=T1 at *;generalize cS ((r.drop 2).take 1)=T2 at *;generalize cS ((r.drop 3).take 1)=T3 at *;generalize cS (r.drop 4)=T4 at *;generalize cS r=T at *;generalize cS p=P at *;simp[fG,s1,s2,s3,e1,e2,e3,e4,ha2]
   .rw[decide_eq_false h2]at e3;have hf:bU p r=none:=by
     unfold bU;rw[ahy h1,hd];cases r2 with
     |nil=>rfl
     |cons e r3=>
      show(if (49<=c/\c<=57)/\e=32 then some ((c:Int)-48) else none)=_
      rw[ahz λz=>h2 z.1]
    rw[hf];refine⟨some (.dat (.int 0)),?_⟩;show _=dY.next [x0,some (.mut (acc++[.int 0])),some (.dat (.str (cS r))),_,_] M;generalize cS (r.take 2)=T1 at *;generalize cS ((r.drop 2).take 1)=T2 at *;generalize cS ((r.drop 3).take 1)=T3 at *;generalize cS (r.drop 4)=T4 at *;generalize cS r=T at *;generalize cS p=P at *;simp[fG,s1,s2,e1,e2,e3,ha2]
 .rw[decide_eq_false h1]at e1;have hf:bU p r=none:=ahz h1;rw[hf];refine⟨some (.dat (.int 0)),?_⟩;show _=dY.next [x0,some (.mut (acc++[.int 0])),some (.dat (.str (cS r))),_,_] M;generalize cS (r.take 2)=T1 at *;generalize cS ((r.drop 2).take 1)=T2 at *;generalize cS ((r.drop 3).take 1)=T3 at *;generalize cS (r.drop 4)=T4 at *;generalize cS r=T at *;generalize cS p=P at *;simp[fG,s1,e1,ha2]
theorem Nu(p:List Nat)(ps:List (List Nat))(r:List Nat):bH (p::ps) r=((bU p r).getD 0::(bH ps (if (bU p r).isSome=true then r.drop 4 else r)).1,(bH ps (if (bU p r).isSome=true then r.drop 4 else r)).2):=by
 show(match bU p r with
  |some d=>let q:=bH ps (r.drop 4);(d::q.1,q.2)
  |none=>let q:=bH ps r;(0::q.1,q.2))=_
 cases bU p r<;>rfl
theorem Ew(M:Mo)(x0:Option Cell):∀(ps:List (List Nat)) (acc:List Dat) (r:List Nat) (x3 x4:Option Cell),acc.length+ps.length<1000->r.length<=5000->∃y3 y4,
  bZ (au 3) fG (ps.map λp=>PyData.str (cS p)) M [x0,some (.mut acc),some (.dat (.str (cS r))),x3,x4]=.next [x0,some (.mut (acc++(bH ps r).1.map PyData.int)),some (.dat (.str (cS (bH ps r).2))),y3,y4] M
 |[],acc,r,x3,x4,_,_=>⟨x3,x4,by simp[bZ,bH]⟩
 |p::ps,acc,r,x3,x4,ha,hl=>by
  rw[agC]at ha;obtain⟨y4,st⟩:=S8 M x0 acc p r x4 (by omega) hl;obtain⟨z3,z4,ih⟩:=Ew M x0 ps (acc++[.int ((bU p r).getD 0)]) (if (bU p r).isSome=true then r.drop 4 else r) (some (.dat (.str (cS p)))) y4 (by simp;omega) (by
   split
   .rw[ag3];omega
   .exact hl)
  refine⟨z3,z4,?_⟩;rw[agy,fZ (Z1:=[x0,some (.mut acc),some (.dat (.str (cS r))),some (.dat (.str (cS p))),x4]) (by simp) st,ih,Nu];simp
def Fj:Option (List Int)->Dat
 |some l=>gQ l
 |none=>.none
theorem sum_ints(l:List Int):Dz (.list (l.map PyData.int))=.ok (.int l.sum):=by
 show(match intsOf (l.map PyData.int) with
  |some ns=>Out.ok (PyData.int ns.sum)
  |none=>.bad)=_
 rw[KY]
theorem M6(M:Mo)(t:List Nat)(hl:t.length<=4000):iI M [.str (cS t)]=.ok (Fj (lC t)):=by
 have hq:bW (.str (cS t)) (.str "none")=.ok (.bool (decide (t=ou))):=Jq t
 by_cases e:t=ou
 .have hr:lC t=some m7:=ahy e;rw[hr,decide_eq_true e]at *;have hz:PyData.tuple [.int 0,.int 0,.int 0,.int 0,.int 0,.int 0]=gQ m7:=rfl;generalize cS t=T at *;simp[iI,lY,hq,Fj,hz]
 .have hr:lC t=if (bH bD (t++[32])).2≠[]\/(bH bD (t++[32])).1.sum=0 then none else some (bH bD (t++[32])).1:=ahz e
  rw[hr];rw[decide_eq_false e]at hq;have ha:bJ (.str (cS t)) (.str " ")=.ok (.str (cS (t++[32]))):=by rw[MK];exact nZ _ _ (by simp;omega)
  obtain⟨y3,y4,lp⟩:=Ew M (some (.dat (.str (cS t)))) bD [] (t++[32]) none none (by decide) (by simp;omega);have hpl:(bD.map λp=>PyData.str (cS p))=[.str "lt",.str "lf",.str "lh",.str "rt",.str "rf",.str "rh"]:=by rfl
  rw[hpl]at lp;rw[List.nil_append]at lp;have hn:ju (.str (cS (bH bD (t++[32])).2)) (.str "")=.ok (.bool (!decide ((bH bD (t++[32])).2=[]))):=Eo _ []
  have hs:=sum_ints (bH bD (t++[32])).1;generalize bH bD (t++[32])=R at *;obtain⟨ds,rest⟩:=R
  dsimp only at *
  by_cases h1:rest=[]
  .rw[decide_eq_true h1]at hn;by_cases h2:ds.sum=0
   .rw[ahy (.inr h2)];rw[h2]at hs;generalize cS (t++[32])=T2 at *;generalize cS rest=T3 at *;generalize cS t=T at *;generalize ds.map PyData.int=D at *;simp[iI,lY,hq,ha,lp,hn,hs,Fj]
   .rw[ahz λz=>z.elim (λz=>z h1) h2];show _=Out.ok (PyData.tuple (ds.map PyData.int));generalize ds.sum=sm at *;generalize cS (t++[32])=T2 at *;generalize cS rest=T3 at *;generalize cS t=T at *;generalize ds.map PyData.int=D at *;simp[iI,lY,hq,ha,lp,hn,hs,h2]
  .rw[ahy (.inl h1)];rw[decide_eq_false h1]at hn;generalize cS (t++[32])=T2 at *;generalize cS rest=T3 at *;generalize cS t=T at *;generalize ds.map PyData.int=D at *;simp[iI,lY,hq,ha,lp,hn,Fj]
theorem zN(M:Mo)(t:List Nat):gU M [.str (cS t)]=match cX t with
  |some k=>.ok (.int (k:Int))
  |none=>.exc ⟨"BadLine",[]⟩:=by
 have h:=K8 true t;cases q:cX t with
 |none=>
  rw[q]at h;have h:inD true (.str (cS t)) aX=.ok (.bool true):=h;generalize cS t=T at *;simp[gU,oM,h]
 |some k=>
  obtain⟨h1,h6⟩:=j9 q;have p:k=0\/k=1\/k=2\/k=3\/k=4\/k=5:=by omega
  clear h q h6;rcases p with rfl|rfl|rfl|rfl|rfl|rfl<;>cases h1<;>kernel_rfl
def lH{α:Type}:Option α->Out α
 |some d=>.ok d
 |none=>.exc ⟨"BadLine",[]⟩
def fY:Kn->List Nat->Option Dat
 |.n,t=>(bY t).map PyData.int
 |.e,t=>(jW t).map gQ
 |.p,t=>(cX t).map λ(k:Nat)=>PyData.int (k:Int)
theorem Cu(M:Mo)(k:Kn)(t:List Nat)(hl:t.length<=5000):cP M [.str k.S,.str (cS t)]=lH (fY k t):=by
 cases k with
 |n=>
  have h:bV M [.str (cS t)]=lH ((bY t).map PyData.int):=by rw[yh M t hl];cases bY t<;>rfl
  show _=lH ((bY t).map PyData.int);rw[<-h];generalize cS t=T at *;generalize lH ((bY t).map PyData.int)=R at *;cases R<;>simp[cP,jQ,Kn.S,h]
 |e=>
  have h:dO M [.str (cS t)]=lH ((jW t).map gQ):=by rw[vM M t hl];cases jW t<;>rfl
  show _=lH ((jW t).map gQ);rw[<-h];generalize cS t=T at *;generalize lH ((jW t).map gQ)=R at *;cases R<;>simp[cP,jQ,Kn.S,h]
 |p=>
  have h:gU M [.str (cS t)]=lH ((cX t).map λ(k:Nat)=>PyData.int (k:Int)):=by rw[zN M t];cases cX t<;>rfl
  show _=lH ((cX t).map λ(k:Nat)=>PyData.int (k:Int));rw[<-h];generalize cS t=T at *;generalize lH ((cX t).map λ(k:Nat)=>PyData.int (k:Int))=R at *;cases R<;>simp[cP,jQ,Kn.S,h]
def eY:List (Kn×List Nat)->Option (List Dat)
 |[]=>some []
 |x::r=>match fY x.1 x.2 with
  |none=>none
  |some d=>(eY r).map λds=>d::ds
theorem Ge:∀{xs:List (Kn×List Nat)} {ds:List Dat},eY xs=some ds->ds.length=xs.length
 |[],ds,h=>by
  cases h;rfl
 |x::r,ds,h=>by
  unfold eY at h;cases q:fY x.1 x.2 with
  |none=>rw[q]at h;cases h
  |some d=>
   rw[q]at h;have h:(eY r).map (λds=>d::ds)=some ds:=h;obtain⟨es,he,rfl⟩:=agZ.mp h;rw[agC,agC,Ge he]
theorem vZ(M:Mo)(x0 x1 x2 x3 x4:Option Cell):∀(xs:List (Kn×List Nat)),(∀x∈xs,x.2.length<=5000)->qp (cO [5,6]) (lK cP (ao (aJ 5) (ao (aJ 6) aG))) M [x0,x1,x2,x3,x4,none,none] (xs.map λx=>PyData.tuple [.str x.1.S,.str (cS x.2)])=lH (eY xs)
 |[],_=>rfl
 |x::xs,h=>by
  have h1:=Cu M x.1 x.2 (h x agA);have ih:=vZ M x0 x1 x2 x3 x4 xs λy hy=>h y (agz _ hy);rw[agy,qp];generalize (xs.map λx=>PyData.tuple [.str x.1.S,.str (cS x.2)])=D at *;generalize cS x.2=T at *;generalize x.1.S=S at *
  show((lK cP (ao (aJ 5) (ao (aJ 6) aG)) M [x0,x1,x2,x3,x4,some (.dat (.str S)),some (.dat (.str T))]).bind λy=>(qp (cO [5,6]) (lK cP (ao (aJ 5) (ao (aJ 6) aG))) M [x0,x1,x2,x3,x4,none,none] D).bind λr=>Out.ok (y::r))=lH (match fY x.1 x.2 with
   |none=>none
   |some d=>(eY xs).map λds=>d::ds)
  rw[ih];have h2:lK cP (ao (aJ 5) (ao (aJ 6) aG)) M [x0,x1,x2,x3,x4,some (.dat (.str S)),some (.dat (.str T))]=lH (fY x.1 x.2):=by rw[<-h1];rfl
  rw[h2];cases fY x.1 x.2 with
  |none=>rfl
  |some d=>cases eY xs<;>rfl
theorem Ly{w:List Nat}{ws:List (List Nat)}(h:32∉w):(Txt.partition (cS (TL.joinL [32] (w::ws))) " ").1=cS w:=by
 rw[TL.partition_par _ _ (by rw[pW];simp),pW,qb];cases ws with
 |nil=>
  show(match TL.par [32] [] w with
   |some (a,b)=>((⟨a.toArray⟩:Str),(" " : Str),(⟨b.toArray⟩:Str))
   |none=>(cS (TL.joinL [32] [w]),Str.empty,Str.empty)).1=cS w
  rw[TL.par_none1 h];rfl
 |cons v vs=>
  rw[fH _ _ (by simp)];have e:TL.par [32] [] (w++32::TL.joinL [32] (v::vs))=some ([]++w,TL.joinL [32] (v::vs)):=TL.par_part1 (S:=[]) h;rw[e];rfl
theorem Z9{t w:List Nat}{ws:List (List Nat)}(hl:t.length<=5000)(h:wL t=w::ws):∃P1 P2,vK (cS t) (.str " ")=.ok (.tuple [.str (cS w),P1,P2]):=by
 have l1:Str.length " "=1:=by decide +kernel
 have e:(Txt.partition (cS t) " ").1=cS w:=by have:=Ly (w:=w) (ws:=ws) (zu t w (by rw[h];simp));rw[<-h,qL]at this;exact this
 refine⟨.str (Txt.partition (cS t) " ").2.1,.str (Txt.partition (cS t) " ").2.2,?_⟩
 show Out.when (!(Str.length " "==0)&&decide ((cS t).length<=100000)) (.ok (PyData.tuple [.str (Txt.partition (cS t) " ").1,_,_]))=_
 rw[l1,cI,decide_eq_true (by omega),e];rfl
theorem acw(t:List Nat)(n:Nat)(hl:t.length<=5000)(hn:n<=1000):lQ (cS t) (.str " ") (.int (n:Int))=.ok (.list ((Txt.splitMax (cS t) " " (n:Int)).map .str)):=by
 have l1:Str.length " "=1:=by decide +kernel
 show Out.when (!(Str.length " "==0)&&(decide (-100000<=(n:Int))&&(decide ((n:Int)<=100000)&&decide ((cS t).length+2<=100000)))) (.ok (PyData.list ((Txt.splitMax (cS t) " " (n:Int)).map .str)))=_
 rw[l1,cI,decide_eq_true (show -100000<=(n:Int) by omega),decide_eq_true (show(n:Int)<=100000 by omega),decide_eq_true (show t.length+2<=100000 by omega)];rfl
theorem Qo(M:Mo){t w hd:List Nat}{tl:List (List Nat)}{ks:List Kn}{P1 P2:Dat}(hp:vK (cS t) (.str " ")=.ok (.tuple [.str (cS w),P1,P2]))(hk:aV.lookup (cS w)=some ks)
  (hsp:lQ (cS t) (.str " ") (.int (ks.length:Int))=.ok (.list (.str (cS hd)::tl.map λt=>.str (cS t)))) (h3:ks.length<=3) (htl:∀x∈tl,x.length<=5000) (hl:tl.length<=5001) :
  bF M [.str (cS t)]=if hd=w/\tl.length=ks.length then lH ((eY (ks.zip tl)).map λds=>PyData.tuple (.str (cS w)::ds)) else .exc ⟨"BadLine",[]⟩:=by
 have h0:=pC (cS w);rw[hk]at h0;have h0:(fB cZ).lookup (cS w)=some (.tuple (ks.map λk=>.str k.S)):=h0;have hne:=Eo hd w;have h16:(tl.map λt=>PyData.str (cS t)).length<=16000:=by rw[agB];omega
 have hlk:cG (.tuple (ks.map λk=>PyData.str k.S))=.ok (.int (ks.length:Int)):=by show Out.ok (PyData.int (((ks.map λk=>PyData.str k.S).length:Nat):Int))=_;rw[agB]
 have hlt:cG (.list (tl.map λt=>PyData.str (cS t)))=.ok (.int (tl.length:Int)):=by show Out.ok (PyData.int (((tl.map λt=>PyData.str (cS t)).length:Nat):Int))=_;rw[agB]
 have key:=vZ M (some (.dat (.str (cS t)))) (some (.dat (.str (cS w)))) (some (.dat (.tuple (ks.map λk=>.str k.S)))) (some (.dat (.str (cS hd)))) (some (.dat (.list (tl.map λt=>.str (cS t))))) (ks.zip tl) λx hx=>htl x.2 (List.of_mem_zip hx).2;have hz:=Av (λk:Kn=>PyData.str k.S) (λt=>PyData.str (cS t)) ks tl;rw[<-hz]at key;have hzl:(iz (ks.map λk=>PyData.str k.S) (tl.map λt=>PyData.str (cS t))).length<=50000:=by rw[hz,agB,List.length_zip];omega
 have hal:∀ds,eY (ks.zip tl)=some ds->1+ds.length<=100000:=λds h=>by
  rw[Ge h,List.length_zip];omega
 clear hz htl;generalize eY (ks.zip tl)=A at *;generalize (ks.map λk=>PyData.str k.S)=KS at *;generalize (tl.map λt=>PyData.str (cS t))=TS at *;by_cases h1:hd=w
 .rw[decide_eq_true h1]at hne;by_cases h2:tl.length=ks.length
  .rw[ahy ⟨h1,h2⟩];rw[h2]at hlt;generalize (ks.length:Int)=LN at *;generalize cS hd=HD at *;generalize cS w=WD at *;generalize cS t=T at *;cases A with
   |none=>simp[bF,gK,dI,tO,hp,h0,hsp,h16,hlk,hlt,hne,hzl,key,lH]
   |some ds=>
    have:=hal ds rfl;simp[bF,gK,dI,tO,hp,h0,hsp,h16,hlk,hlt,hne,hzl,key,lH,this]
  .rw[ahz λz=>h2 z.2];have h2:¬(tl.length:Int)=(ks.length:Int):=by omega
   generalize (ks.length:Int)=LN at *;generalize (tl.length:Int)=LT at *;generalize cS hd=HD at *;generalize cS w=WD at *;generalize cS t=T at *;simp[bF,gK,dI,tO,hp,h0,hsp,h16,hlk,hlt,hne,h2]
 .rw[ahz λz=>h1 z.1];rw[decide_eq_false h1]at hne;generalize (ks.length:Int)=LN at *;generalize (tl.length:Int)=LT at *;generalize cS hd=HD at *;generalize cS w=WD at *;generalize cS t=T at *;simp[bF,gK,dI,tO,hp,h0,hsp,h16,hlk,hlt,hne]
def jY:Nat->List (List Nat)->List (List Nat)
 |0,_=>[]
 |m+1,ws=>ws.take m++[TL.joinL [32] (ws.drop m)]
def mK(t:List Nat):Option (List Dat):=match wL t with
 |[]=>none
 |w::ws=>match aV.lookup (cS w) with
  |none=>none
  |some ks=>if ks.length<=ws.length/\(ks=[]->ws=[]) then(eY (ks.zip (jY ks.length ws))).map λds=>.str (cS w)::ds else none
theorem pP(ws:List (List Nat)):∀n,(TL.joinL [32] (ws.drop n)).length<=(TL.joinL [32] ws).length:=by
 induction ws with
 |nil=>intro n;rw[List.drop_nil];exact agL _
 |cons w ws ih=>
  intro n;cases n with
  |zero=>exact agL _
  |succ n=>
   rw[List.drop_succ_cons];have:=ih n;cases ws with
   |nil=>
    rw[List.drop_nil];exact agO _
   |cons v vs=>
    rw[fH w (v::vs) (by simp),agH,agC];omega
theorem sJ(t:List Nat):(wL t).length<=t.length+1:=by
 have key:∀ws:List (List Nat),ws.length<=(bQ ws).length:=by
  intro ws
  induction ws with
  |nil=>exact agO _
  |cons w ws ih=>
   rw[cY,agH,agC,agC];omega
 have h:=(iT t [] (by simp)).1;have k:=key (wL t);rw[h]at k;simpa using k
theorem CG(M:Mo)(t:List Nat)(hl:t.length<=5000):bF M [.str (cS t)]=lH ((mK t).map PyData.tuple):=by
 unfold mK;have hj:=qL t;have hf:=zu t;have hc:=sJ t;have hsm:∀x∈wL t,x.length<=t.length:=λx h=>o7 h;have hpp:=@Z9 t;have sf:=Gu t;have sm:=Cv t;cases hW:wL t with
 |nil=>exact absurd hW (Dc t)
 |cons w ws=>
  rw[hW]at hj hf hc hsm sf sm;obtain⟨P1,P2,hp⟩:=hpp hl hW
  dsimp only
  cases hk:aV.lookup (cS w) with
  |none=>
   have h0:=pC (cS w);rw[hk]at h0;have h0:(fB cZ).lookup (cS w)=none:=h0;show _=Out.exc ⟨"BadLine",[]⟩
   generalize cS w=WD at *;generalize cS t=T at *;simp[bF,gK,dI,hp,h0]
  |some ks=>
   have h3:ks.length<=3:=(kh _ (lookup_mem _ _ _ hk)).2.2;show _=lH (Option.map PyData.tuple (if ks.length<=ws.length/\(ks=[]->ws=[]) then(eY (ks.zip (jY ks.length ws))).map λds=>.str (cS w)::ds else none));have hsp:=acw t ks.length hl (by omega);have hcs:ws.length<=t.length:=by rw[agC]at hc;omega
   have fin:∀(hd:List Nat) (tl:List (List Nat)),Txt.splitMax (cS t) " " (ks.length:Int)=(hd::tl).map cS->(∀x∈tl,x.length<=5000)->tl.length<=5001->(hd=w/\tl.length=ks.length↔ks.length<=ws.length/\(ks=[]->ws=[]))->(ks.length<=ws.length->tl=jY ks.length ws)->bF M [.str (cS t)]=lH (Option.map PyData.tuple (if ks.length<=ws.length/\(ks=[]->ws=[]) then(eY (ks.zip (jY ks.length ws))).map λds=>.str (cS w)::ds else none)):=λhd tl e h1 h2 h4 h5=>by
    rw[e]at hsp;have hsp:lQ (cS t) (.str " ") (.int (ks.length:Int))=.ok (.list (.str (cS hd)::tl.map λt=>.str (cS t))):=by rw[hsp,agW];rfl
    rw[Qo M hp hk hsp h3 h1 h2];by_cases q:hd=w/\tl.length=ks.length
    .have q2:=h4.mp q;rw[ahy q,ahy q2,<-h5 q2.1];cases eY (ks.zip tl)<;>rfl
    .rw[ahz q,ahz λz=>q (h4.mpr z)];rfl
   cases ks with
   |nil=>
    refine fin t [] ?_ (λx h=>by cases h) (agO _) ⟨λh=>⟨agO _,λ_=>?_⟩,λh=>⟨?_,rfl⟩⟩ λ_=>rfl
    .have:=sm 0 (by simp);rw[List.take_zero,ahb,List.nil_append,hj]at this;exact this
    .cases ws with
     |nil=>rfl
     |cons v vs=>
      exfalso;rw[fH _ _ (by simp)]at hj;have h1:=hf w agA;rw[<-h.1,<-hj]at h1;simp at h1
    .rw[h.2 rfl]at hj;exact hj.symm
   |cons k ks=>
    by_cases q:(k::ks).length<=ws.length
    .refine fin w (jY (k::ks).length ws) ?_ ?_ ?_ ⟨λ_=>⟨q,λz=>by cases z⟩,λ_=>⟨rfl,?_⟩⟩ λ_=>rfl
     .have:=sm (k::ks).length (by rw[agC (a:=w)];omega);exact this
     .intro x hx;rcases ag5.mp hx with hx|hx
      .exact aha (hsm x (agz _ (ag8 hx))) hl
      .rw[agJ.mp hx];refine aha (pP ws _) ?_;have:(TL.joinL [32] ws).length<=t.length:=by
        rw[<-hj];exact pP (w::ws) 1
       omega
     .show(ws.take ks.length++[_]).length<=5001
      rw[agH,List.length_take];show min ks.length ws.length+1<=5001;rw[agC]at h3;omega
     .show(ws.take ks.length++[_]).length=ks.length+1
      rw[agH,List.length_take];rw[agC]at q;show min ks.length ws.length+1=_;omega
    .refine fin w ws ?_ (λx hx=>aha (hsm x (agz _ hx)) hl) (by omega) ⟨λh=>absurd (Nat.le_of_eq h.2.symm) q,λh=>absurd h.1 q⟩ λh=>absurd h q;exact sf (k::ks).length (by rw[agC (a:=w)];omega)
theorem in_words(w:Str):∀l:List (Str×List Kn),((l.map λp=>PyData.str p.1).any λz=>PyData.eqv z (.str w))=(l.lookup w).isSome
 |[]=>rfl
 |p::l=>by
  rw[agy,ahl,in_words w l,PN,agQ,BEq.comm];cases w==p.1<;>rfl
theorem Cr(w:Str)(ks:List Kn):∀l:List (Str×List Kn),l.lookup w=some ks->∃j p,(l.map λp=>PyData.str p.1).findIdx? (λz=>PyData.eqv z (.str w))=some j/\l[j]?=some p/\p.2=ks
 |[],h=>nomatch h
 |p::l,h=>by
  rw[agQ]at h;rw[agy,List.findIdx?_cons,PN,BEq.comm];cases hw:w==p.1 with
  |true=>
   rw[hw]at h;cases h;exact⟨0,p,rfl,rfl,rfl⟩
  |false=>
   rw[hw]at h;obtain⟨j,q,h1,h2,h3⟩:=Cr w ks l h;exact⟨j+1,q,by simp[h1],h2,h3⟩
theorem Q7:gY 12 jc=true:=xg.mpr λd hd=>by
 obtain⟨p,hp,rfl⟩:=agU.mp hd;rw[okd];exact(kh p hp).2.1
theorem SJ:jc.all nQ=true:=by rfl
def gq(W:List (List Nat))(j:Nat):Kn->Option Dat
 |.n=>(bY (W.getD (j+1) [])).map PyData.int
 |.e=>(lC (TL.joinL [32] (W.drop (j+1)))).map gQ
 |.p=>(cX (W.getD (j+1) [])).map λ(k:Nat)=>PyData.int (k:Int)
theorem aaY{t:List Nat}{k:Nat}(q:cX t=some k):jL [.str "lt",.str "lf",.str "lh",.str "rt",.str "rf",.str "rh"] (.str (cS t))=.ok (.int (k:Int)):=by
 obtain⟨h1,h6⟩:=j9 q;have p:k=0\/k=1\/k=2\/k=3\/k=4\/k=5:=by omega
 clear q h6;rcases p with rfl|rfl|rfl|rfl|rfl|rfl<;>cases h1<;>kernel_rfl
theorem Gq{W:List (List Nat)}(h:∀w∈W,w.length<=3000)(hl:W.length<=3001):gR " " (.list (W.map λw=>PyData.str (cS w)))=.ok (.str (cS (TL.joinL [32] W))):=by
 have key:∀V:List (List Nat),(∀w∈V,w.length<=3000)->((V.map cS).map λy=>y.length).sum<=3000*V.length:=by
  intro V
  induction V with
  |nil=>intro _;exact agL _
  |cons v V ih=>
   intro h;have h1:=ih λw hw=>h w (agz _ hw);have h2:=h v agA;rw[agy,agy,List.sum_cons,agC,cI];omega
 have h1:=key W h;have h2:=zH (W.map cS) (by rw[agB];omega);rw[agW]at h2;have h2:gR " " (.list (W.map λw=>PyData.str (cS w)))=.ok (.str (Txt.join " " (W.map cS))):=h2
 rw[h2];congr 2;apply TL.ext_tl;rw[vI,agW,qb];exact congrArg (TL.joinL [32]) (List.map_id W)
theorem adu{W:List (List Nat)}{j:Nat}(hj:j<W.length):dW (.list (W.map λw=>PyData.str (cS w))) (.int (j:Int))=.ok (.str (cS (W.getD j []))):=by have h:atI (W.map λw=>PyData.str (cS w)) (j:Int)=some (.str (cS (W.getD j []))):=atI_nat (by simp[hj]);rw[X8,h]
theorem M4(M:Mo)(x0 x1 x2 x4 x8:Option Cell)(W:List (List Nat))(j:Nat)(acc:List Dat)(k:Kn)(hj:j+1<W.length)(hW:∀w∈W,w.length<=3000)(hWl:W.length<=3001)(hl:(TL.joinL [32] W).length<=3000)(ha:acc.length<1000) :
  dH M [x0,x1,x2,some (.dat (.list (W.map λw=>.str (cS w)))),x4,some (.mut acc),some (.dat (.int (j:Int))),some (.dat (.str k.C)),x8]=match gq W j k with
   |some d=>.next [x0,x1,x2,some (.dat (.list (W.map λw=>.str (cS w)))),x4,some (.mut (acc++[d])),some (.dat (.int (j:Int))),some (.dat (.str k.C)),some (.dat d)] M
   |none=>.ret .none M:=by
 have h1:dW (.list (W.map λw=>PyData.str (cS w))) (.int ((j:Int)+1))=.ok (.str (cS (W.getD (j+1) []))):=adu (j:=j+1) hj;have hx:(W.getD (j+1) []).length<=5000:=by rw[List.getD_eq_getElem?_getD,agD hj];exact aha (hW _ (List.getElem_mem hj)) (by decide)
 have h2:=Cz M _ hx;have hc:Rf.cutD (W.map λw=>PyData.str (cS w)) (some ((j:Int)+1)) none=(W.drop (j+1)).map λw=>PyData.str (cS w):=by rw[List.map_drop];exact rR _ (j+1)
 have h3:=Gq (W:=W.drop (j+1)) (λw h=>hW w (List.mem_of_mem_drop h)) (by rw[ag3];omega);have h4:=M6 M (TL.joinL [32] (W.drop (j+1))) (by have:=pP W (j+1);omega);have h5:=K8 false (W.getD (j+1) []);have h5:inD false (.str (cS (W.getD (j+1) []))) (.tuple [.str "lt",.str "lf",.str "lh",.str "rt",.str "rf",.str "rh"])=.ok (.bool (false ^^ (cX (W.getD (j+1) [])).isSome)):=h5
 have h6:=λk=>@aaY (W.getD (j+1) []) k;have ha2:acc.length<100000:=by omega
 have g1:=aaJ k;have g2:=Yw k;have hm:gq W j k=match k with
  |.n=>(bY (W.getD (j+1) [])).map PyData.int
  |.e=>(lC (TL.joinL [32] (W.drop (j+1)))).map gQ
  |.p=>(cX (W.getD (j+1) [])).map λ(k:Nat)=>PyData.int (k:Int):=by cases k<;>rfl
 rw[hm];clear hm hx hW hWl hl hj ha;generalize W.getD (j+1) []=x at *;generalize TL.joinL [32] (W.drop (j+1))=y at *;generalize ((W.drop (j+1)).map λw=>PyData.str (cS w))=D2 at *;generalize (W.map λw=>PyData.str (cS w))=D at *;generalize (j:Int)=J at *;cases k with
 |n=>
  cases q:bY x with
  |none=>
   rw[q]at h2;generalize cS x=X at *;simp[dH,h1,h2,g1,g2,Kn.c,lJ,gH]
  |some i=>
   rw[q]at h2;generalize cS x=X at *;simp[dH,h1,h2,g1,g2,Kn.c,lJ,gH,ha2]
 |e=>
  cases q:lC y with
  |none=>
   rw[q]at h4;generalize lJ (bY x)=ND at *;generalize cS x=X at *;generalize cS y=Y at *;simp[dH,dI,h1,h2,g1,g2,Kn.c,hc,h3,h4,Fj,gH]
  |some l=>
   rw[q]at h4;have tI:gH .none (gQ l)=false:=rfl;generalize lJ (bY x)=ND at *;generalize cS x=X at *;generalize cS y=Y at *;have h4:iI M [.str Y]=.ok (gQ l):=h4;show _=dY.next [x0,x1,x2,some (.dat (.list D)),x4,some (.mut (acc++[gQ l])),some (.dat (.int J)),some (.dat (.str Kn.e.C)),some (.dat (gQ l))] M;generalize gQ l=L at *;simp[dH,dI,h1,h2,g1,g2,Kn.c,hc,h3,h4,tI,ha2]
 |p=>
  cases q:cX x with
  |none=>
   rw[q]at h5;generalize lJ (bY x)=ND at *;generalize cS x=X at *;simp[dH,h1,h2,g1,g2,Kn.c,h5,gH]
  |some i=>
   have h6:=h6 i q;rw[q]at h5;generalize lJ (bY x)=ND at *;generalize cS x=X at *;simp[dH,pY,h1,h2,g1,g2,Kn.c,h5,h6,gH,ha2]
def allM(W:List (List Nat)):Nat->List Kn->Option (List Dat)
 |_,[]=>some []
 |j,k::ks=>match gq W j k with
  |none=>none
  |some d=>(allM W (j+1) ks).map λds=>d::ds
theorem yL(M:Mo)(x0 x1 x2 x4:Option Cell)(W:List (List Nat))(hW:∀w∈W,w.length<=3000)(hWl:W.length<=3001)(hl:(TL.joinL [32] W).length<=3000):∀(ks:List Kn) (j:Nat) (acc:List Dat) (x6 x7 x8:Option Cell),j+ks.length<W.length->acc.length+ks.length<1000->match allM W j ks with
   |some ds=>∃y6 y7 y8,bZ (cO [6,7]) dH (gD (j:Int) (ks.map λk=>.str k.C)) M [x0,x1,x2,some (.dat (.list (W.map λw=>.str (cS w)))),x4,some (.mut acc),x6,x7,x8]=.next [x0,x1,x2,some (.dat (.list (W.map λw=>.str (cS w)))),x4,some (.mut (acc++ds)),y6,y7,y8] M
   |none=>bZ (cO [6,7]) dH (gD (j:Int) (ks.map λk=>.str k.C)) M [x0,x1,x2,some (.dat (.list (W.map λw=>.str (cS w)))),x4,some (.mut acc),x6,x7,x8]=.ret .none M
 |[],j,acc,x6,x7,x8,_,_=>by
  show ∃y6 y7 y8,_;refine⟨x6,x7,x8,?_⟩;rw[ag1];rfl
 |k::ks,j,acc,x6,x7,x8,h1,h2=>by
  rw[agC]at h1 h2;have st:=M4 M x0 x1 x2 x4 x8 W j acc k (by omega) hW hWl hl (by omega);have ih:=λd x8=>yL M x0 x1 x2 x4 W hW hWl hl ks (j+1) (acc++[d]) (some (.dat (.int (j:Int)))) (some (.dat (.str k.C))) x8 (by omega) (by rw[agH];show acc.length+1+_<_;omega);have e:allM W j (k::ks)=match gq W j k with
   |none=>none
   |some d=>(allM W (j+1) ks).map λds=>d::ds:=rfl
  rw[e,agy,Bj,show((j:Int)+1)=((j+1:Nat):Int) by omega];cases q:gq W j k with
  |none=>
   rw[q]at st;show bZ _ _ _ _ _=_;rw[bZ]
   show(match dH M [x0,x1,x2,some (.dat (.list (W.map λw=>.str (cS w)))),x4,some (.mut acc),some (.dat (.int (j:Int))),some (.dat (.str k.C)),x8] with
    |.next Z2 M2=>_
    |.cont Z2 M2=>_
    |.brk Z2 M2=>_
    |.ret d M2=>dY.ret d M2
    |.exc x Z2 M2=>_
    |.bad=>_)=_
   rw[st]
  |some d=>
   rw[q]at st;have ih:=ih d (some (.dat d));have hn:=fZ (tg:=cO [6,7]) (d:=PyData.tuple [.int (j:Int),.str k.C]) (ds:=gD ((j+1:Nat):Int) (ks.map λk=>PyData.str k.C)) (ρ:=[x0,x1,x2,some (.dat (.list (W.map λw=>.str (cS w)))),x4,some (.mut acc),x6,x7,x8]) (Z1:=[x0,x1,x2,some (.dat (.list (W.map λw=>.str (cS w)))),x4,some (.mut acc),some (.dat (.int (j:Int))),some (.dat (.str k.C)),x8]) (by simp) st
   show(match (allM W (j+1) ks).map λds=>d::ds with
    |some ds=>_
    |none=>_)
   cases q2:allM W (j+1) ks with
   |none=>
    rw[q2]at ih;show bZ _ _ _ _ _=_;rw[hn];exact ih
   |some ds=>
    rw[q2]at ih;obtain⟨y6,y7,y8,ih⟩:=ih;refine⟨y6,y7,y8,?_⟩;rw[hn,ih,List.append_assoc];rfl
def xO(t:List Nat):Option (List Dat):=match wL t with
 |[]=>none
 |w::ws=>match aV.lookup (cS w) with
  |none=>none
  |some ks=>if ws.length<ks.length\/(ks.length<ws.length/\(ks.map Kn.c).drop 2≠[101]) then none else(allM (w::ws) 0 ks).map λds=>.str (cS w)::ds
def tupO:Option (List Dat)->Dat
 |some ds=>.tuple ds
 |none=>.none
theorem Aj{t:List Nat}(h:∀c∈t,c<1000):∀w∈wL t,∀c∈w,c<1000:=λw hw c hc=>by
 have h1:c∈bQ (wL t):=List.mem_flatMap.mpr ⟨w,hw,ag5.mpr (.inl hc)⟩;rw[(iT t [] (by simp)).1,List.nil_append]at h1;rcases ag5.mp h1 with h1|h1
 .exact h c h1
 .rw[agJ.mp h1];decide
theorem Qw(M:Mo)(t:List Nat)(hl:t.length<=3000)(hc:∀c∈t,c<1000):iy M [.str (cS t)]=.ok (tupO (xO t)):=by
 have hs:=qd t (by omega);have hsm:∀w∈wL t,w.length<=3000:=λw h=>aha (o7 h) hl;have hct:=sJ t;have hcode:=Aj hc;have hj:=qL t;unfold xO;cases hW:wL t with
 |nil=>exact absurd hW (Dc t)
 |cons w ws=>
  rw[hW]at hs hsm hct hcode hj
  dsimp only
  have h0:atI ((w::ws).map λw=>PyData.str (cS w)) 0=some (.str (cS w)):=atI_nat (j:=0) rfl;have h1:inD true (.str (cS w)) (.list jc)=.ok (.bool (!(aV.lookup (cS w)).isSome)):=by
   have h0:okd 12 (.str (cS w))=true:=by rw[okd];exact Jd λc h=>hcode w agA c h
   show(Out.when (okd 12 (.str (cS w))&&gY 12 jc) _).bind _=_
   rw[h0,Q7];show Out.ok (PyData.bool (true ^^ _))=_;rw[show jc=aV.map λp=>PyData.str p.1 from rfl,in_words,Bool.true_xor]
  cases hk:aV.lookup (cS w) with
  |none=>
   rw[hk]at h1;simp only[Option.isSome_none,Bool.not_false]at h1;show _=Out.ok PyData.none;generalize ((w::ws).map λw=>PyData.str (cS w))=D at *;generalize cS w=WD at *;generalize cS t=T at *;simp[iy,jH,dI,hs,h0,jw,j6,iG,jm,h1]
  |some ks=>
   rw[hk]at h1;simp only[Option.isSome_some,Bool.not_true]at h1;obtain⟨j,p,h2,h3,hpk⟩:=Cr (cS w) ks aV hk;have h4:jL jc (.str (cS w))=.ok (.int (j:Nat)):=by have f1:nQ (.str (cS w))=true:=rfl;unfold jL;rw[SJ,f1,show jc=aV.map λp=>PyData.str p.1 from rfl,h2];rfl
   have h5:atI vL (j:Int)=some (.str (cU ks)):=by rw[<-hpk];exact vf aV (λp=>PyData.str (cU p.2)) j p h3
   have h6:ks.length<=3:=by rw[<-hpk];exact(kh p (agT h3)).2.2
   have h7:(cU ks).length=ks.length:=by
    show(List.toArray _).size=_
    simp
   have h8:cG (.str (cU ks))=.ok (.int (ks.length:Int)):=by
    have h9:ks.length<=100000:=by omega
    unfold cG;simp[h7,h9]
   have hi:dG (.str (cU ks))=.ok (dw (cU ks)):=by
    unfold dG;have:(cU ks).length<=100000:=by omega
    simp[this]
   rw[yX]at hi;have hcl:(ks.map Kn.c).length<=5000:=by rw[agB];omega
   have hsl:nM (.str (cU ks)) (some 2) none=.ok (.str (cS ((ks.map Kn.c).drop 2))):=by have:=uh (ks.map Kn.c) (some 2) none hcl;exact this.trans (congrArg (λz=>Out.ok (PyData.str z)) (Fg (ks.map Kn.c) 2))
   have hne:ju (.str (cS ((ks.map Kn.c).drop 2))) (.str "e")=.ok (.bool (!decide ((ks.map Kn.c).drop 2=[101]))):=Eo _ [101]
   have hlD:cG (.list ((w::ws).map λw=>PyData.str (cS w)))=.ok (.int ((ws.length:Int)+1)):=by rw[mD,agB,agC];rfl
   have lp:=λhh=>yL M (some (.dat (.str (cS t)))) (some (.dat (.list jc))) (some (.dat (.list vL))) (some (.dat (.str (cU ks)))) (w::ws) hsm (by omega) (by rw[hj];exact hl) ks 0 [.str (cS w)] none none none hh (by show 1+_<_;omega)
   dsimp only
   by_cases qA:(ws.length:Int)+1<=ks.length
   .rw[ahy (.inl (by omega))];show _=Out.ok PyData.none;clear lp;generalize ((w::ws).map λw=>PyData.str (cS w))=D at *;generalize (ws.length:Int)+1=LW at *;generalize (ks.length:Int)=LS at *;generalize cS w=WD at *;generalize cU ks=LK at *;generalize cS t=T at *;simp[-mD,iy,jH,dI,pY,hs,h0,jw,j6,iG,jm,h1,h4,h5,hlD,h8,qA]
   .by_cases qB:(ks.length:Int)+1<(ws.length:Int)+1/\(ks.map Kn.c).drop 2≠[101]
    .rw[ahy (.inr ⟨by omega,qB.2⟩)];show _=Out.ok PyData.none;have qB1:=qB.1;rw[decide_eq_false qB.2]at hne;clear lp qB;generalize ((w::ws).map λw=>PyData.str (cS w))=D at *;generalize (ws.length:Int)+1=LW at *;generalize cS ((ks.map Kn.c).drop 2)=EK at *;generalize (ks.length:Int)=LS at *;generalize cS w=WD at *;generalize cU ks=LK at *;generalize cS t=T at *;simp[-mD,iy,jH,dI,pY,hs,h0,jw,j6,iG,jm,h1,h4,h5,hlD,h8,qA,qB1,hsl,hne]
    .rw[ahz λz=>z.elim (λz=>qA (by omega)) λz=>qB ⟨by omega,z.2⟩];have lp:=lp (by rw[agC];omega);have qC:((ks.length:Int)+1<(ws.length:Int)+1/\ju (.str (cS ((ks.map Kn.c).drop 2))) (.str "e")=.ok (.bool false))\/¬((ks.length:Int)+1<(ws.length:Int)+1):=by
      by_cases q1:(ks.length:Int)+1<(ws.length:Int)+1
      .left;refine⟨q1,?_⟩;have q2:(ks.map Kn.c).drop 2=[101]:=Classical.byContradiction λz=>qB ⟨q1,z⟩;rw[hne,decide_eq_true q2];rfl
      .exact .inr q1
     clear hne qB hsm hcode hct h2 h3 h6 h7 hcl;cases q:allM (w::ws) 0 ks with
     |none=>
      rw[q]at lp;have lp:bZ (cO [6,7]) dH (gD 0 (ks.map λk=>.str k.C)) M _=_:=lp;show _=Out.ok PyData.none;generalize ((w::ws).map λw=>PyData.str (cS w))=D at *;generalize (ks.map λk=>PyData.str k.C)=KD at *;generalize (ws.length:Int)+1=LW at *;generalize cS ((ks.map Kn.c).drop 2)=EK at *;generalize (ks.length:Int)=LS at *;generalize cS w=WD at *;generalize cU ks=LK at *;generalize cS t=T at *;rcases qC with⟨qC,hne⟩|qC
      .simp[-mD,iy,jH,dI,pY,hs,h0,jw,j6,iG,jm,h1,h4,h5,hlD,h8,qA,qC,hsl,hne,hi,lp]
      .simp[-mD,iy,jH,dI,pY,hs,h0,jw,j6,iG,jm,h1,h4,h5,hlD,h8,qA,qC,hi,lp]
     |some ds=>
      rw[q]at lp;obtain⟨y6,y7,y8,lp⟩:=lp;have lp:bZ (cO [6,7]) dH (gD 0 (ks.map λk=>.str k.C)) M _=_:=lp;show _=Out.ok (PyData.tuple (PyData.str (cS w)::ds));generalize ((w::ws).map λw=>PyData.str (cS w))=D at *;generalize (ks.map λk=>PyData.str k.C)=KD at *;generalize (ws.length:Int)+1=LW at *;generalize cS ((ks.map Kn.c).drop 2)=EK at *;generalize (ks.length:Int)=LS at *;generalize cS w=WD at *;generalize cU ks=LK at *;generalize cS t=T at *;rcases qC with⟨qC,hne⟩|qC
      .simp[-mD,iy,jH,dI,pY,hs,h0,jw,j6,iG,jm,h1,h4,h5,hlD,h8,qA,qC,hsl,hne,hi,lp]
      .simp[-mD,iy,jH,dI,pY,hs,h0,jw,j6,iG,jm,h1,h4,h5,hlD,h8,qA,qC,hi,lp]
theorem XR{t:List Nat}(h:32∈t):bY t=none:=ahy (.inr (.inl ⟨32,h,by decide⟩))
theorem Ws{t:List Nat}(h:32∈t):cX t=none:=by
 cases q:cX t with
 |none=>rfl
 |some k=>
  obtain⟨a,b,rfl,n1,n2,_⟩:=tK (j9 q).1;simp at h;exact absurd h λz=>z.elim (λz=>n1 z.symm) λz=>n2 z.symm
theorem Kg(x y:List Nat)(r:List (List Nat)):32∈TL.joinL [32] (x::y::r):=by rw[fH _ _ (by simp)];simp
theorem Ln(t:List Nat):mK t=xO t:=by
 unfold mK xO;cases wL t with
 |nil=>rfl
 |cons w ws=>
  dsimp only
  cases hk:aV.lookup (cS w) with
  |none=>rfl
  |some ks=>
   dsimp only
   have hm:=lookup_mem _ _ _ hk;have h6:ks=[]\/ks=[.n]\/ks=[.n,.n,.e]\/ks=[.n,.n]\/ks=[.n,.p]\/ks=[.n,.n,.n]:=by unfold aV at hm;simp only[agI,agY,or_false,Prod.mk.injEq]at hm;rcases hm with⟨_,h⟩|⟨_,h⟩|⟨_,h⟩|⟨_,h⟩|⟨_,h⟩|⟨_,h⟩|⟨_,h⟩|⟨_,h⟩|⟨_,h⟩|⟨_,h⟩|⟨_,h⟩|⟨_,h⟩|⟨_,h⟩|⟨_,h⟩|⟨_,h⟩<;>simp[h]
   clear hk hm;generalize PyData.str (cS w)=WD;have g2:=λx y r=>XR (Kg x y r);have g3:=λx y r=>Ws (Kg x y r);have g4:=LR;have j1:∀x:List Nat,TL.joinL [32] [x]=x:=λ_=>rfl;rcases h6 with rfl|rfl|rfl|rfl|rfl|rfl
   .cases ws<;>simp[jY,eY,allM]
   .match ws with
    |[]=>simp
    |[x]=>cases q:bY x<;>simp[jY,eY,allM,fY,gq,j1,q]
    |x::y::r=>simp[jY,eY,allM,fY,gq,g2,Kn.c]
   .match ws with
    |[]=>simp
    |[x]=>simp
    |[x,y]=>simp
    |x::y::z::r=>
     have hn:¬(r.length+1+1+1<3):=by omega
     cases q:bY x<;>cases q2:bY y<;>cases q3:lC (TL.joinL [32] (z::r))<;>simp[jY,eY,allM,fY,gq,g4,q,q2,q3,Kn.c,hn]
   .match ws with
    |[]=>simp
    |[x]=>simp
    |[x,y]=>cases q:bY x<;>cases q2:bY y<;>simp[jY,eY,allM,fY,gq,j1,q,q2]
    |x::y::z::r=>cases q:bY x<;>simp[jY,eY,allM,fY,gq,g2,q,Kn.c]
   .match ws with
    |[]=>simp
    |[x]=>simp
    |[x,y]=>cases q:bY x<;>cases q2:cX y<;>simp[jY,eY,allM,fY,gq,j1,q,q2]
    |x::y::z::r=>cases q:bY x<;>simp[jY,eY,allM,fY,gq,g3,q,Kn.c]
   .match ws with
    |[]=>simp
    |[x]=>simp
    |[x,y]=>simp
    |[x,y,z]=>cases q:bY x<;>cases q2:bY y<;>cases q3:bY z<;>simp[jY,eY,allM,fY,gq,j1,q,q2,q3]
    |x::y::z::u::r=>cases q:bY x<;>cases q2:bY y<;>simp[jY,eY,allM,fY,gq,g2,q,q2,Kn.c]
theorem RN{t:List Nat}{ds:List Dat}(h:mK t=some ds):lk 9 (.tuple ds)=true:=by
 have hP:∀k t d,fY k t=some d->lk 8 d=true:=λk t d h=>by
  cases k with
  |n=>
   obtain⟨i,_,rfl⟩:=agZ.mp h;rfl
  |e=>
   obtain⟨i,_,rfl⟩:=agZ.mp h;show yg 7 _=true;simp
  |p=>
   obtain⟨i,_,rfl⟩:=agZ.mp h;rfl
 have hA:∀(xs:List (Kn×List Nat)) (ds:List Dat),eY xs=some ds->∀d∈ds,lk 8 d=true:=by
  intro xs
  induction xs with
  |nil=>
   intro ds h;cases h;intro d h;cases h
  |cons x xs ih=>
   intro ds h;unfold eY at h;cases q:fY x.1 x.2 with
   |none=>rw[q]at h;cases h
   |some e=>
    rw[q]at h;obtain⟨es,he,rfl⟩:=agZ.mp h;intro d hd;rcases agI.mp hd with rfl|hd
    .exact hP _ _ _ q
    .exact ih es he d hd
 unfold mK at h;split at h
 .cases h
 .split at h
  .cases h
  .split at h
   .obtain⟨es,he,rfl⟩:=agZ.mp h;show yg 8 _=true;rw[qO];intro d hd;rcases agI.mp hd with rfl|hd
    .rfl
    .exact hA _ _ he d hd
   .cases h
def Lc(B:Nat)(t:List Nat):Prop:=t.length<=B/\∀c∈t,c<1000
theorem Lc.app{A B:Nat}{a b:List Nat}(h:Lc A a)(k:Lc B b):Lc (A+B) (a++b):=by
 refine⟨by have:=h.1;have:=k.1;rw[agH];omega,λc hc=>?_⟩;rcases ag5.mp hc with hc|hc
 .exact h.2 c hc
 .exact k.2 c hc
theorem Lc.mono{A B:Nat}{a:List Nat}(h:Lc A a)(k:A<=B):Lc B a:=⟨aha h.1 k,h.2⟩
theorem Lc.take{B:Nat}{t:List Nat}(h:Lc B t)(n:Nat):Lc B (t.take n):=⟨by have:=h.1;rw[List.length_take];omega,λc hc=>h.2 c (ag8 hc)⟩
theorem Lc.drop{B:Nat}{t:List Nat}(h:Lc B t)(n:Nat):Lc B (t.drop n):=⟨by have:=h.1;rw[ag3];omega,λc hc=>h.2 c (List.mem_of_mem_drop hc)⟩
theorem Lc.ins{A B:Nat}{t p:List Nat}(h:Lc B t)(k:Lc A p){n m:Nat}(hm:n<=m):Lc (B+A) (t.take n++p++t.drop m):=by refine⟨?_,(((h.take n).app k).app (h.drop m)).2⟩;have:=h.1;have:=k.1;rw[agH,agH,List.length_take,ag3];omega
theorem Lc.cut{B:Nat}{t:List Nat}(h:Lc B t)(n:Nat):Lc B (t.take n++t.drop (n+1)):=by refine⟨?_,((h.take n).app (h.drop (n+1))).2⟩;have:=h.1;rw[agH,List.length_take,ag3];omega
theorem Lz(S w:List Nat){ws:List (List Nat)}(h:ws≠[]):TL.joinL S (w::ws)=w++(S++TL.joinL S ws):=by
 cases ws with
 |nil=>exact absurd rfl h
 |cons v vs=>rfl
theorem Lc.join{S:List Nat}{A B:Nat}(hS:Lc A S):∀{ws:List (List Nat)},(∀w∈ws,Lc B w)->Lc (ws.length*(A+B)) (TL.joinL S ws)
 |[],_=>⟨agO _,λc h=>by cases h⟩
 |[w],h=>(h w agA).mono (by show B<=1*(A+B);omega)
 |w::v::ws,h=>by
  have ih:=Lc.join hS (ws:=v::ws) λx hx=>h x (agz _ hx);have h1:=(h w agA).app (hS.app ih);rw[Lz _ _ (by simp)];refine h1.mono ?_;show _<=((v::ws).length+1)*(A+B);rw[Nat.succ_mul];omega
theorem Lc.num{i:Int}(h:0<=i)(h2:i<=999999999):Lc 24 (rA i):=⟨by have:=Hq h h2;omega,λc hc=>by have:=Ro h c hc;omega⟩
theorem Lc.pl{i:Int}(h:0<=i)(h2:i<=5):Lc 24 (bD.getD i.toNat []):=by
 have q:i=0\/i=1\/i=2\/i=3\/i=4\/i=5:=by omega
 unfold Lc;rcases q with rfl|rfl|rfl|rfl|rfl|rfl<;>decide
theorem Lc.show{l:List Int}(h:Ear.uP l):Lc 24 (pO l):=by
 refine⟨Cj h,?_⟩;unfold pO;split
 .decide
 .refine(Lc.join (S:=[32]) (A:=1) (B:=24) ⟨agL _,by decide⟩ λw hw=>?_).2;obtain⟨q,hq,rfl⟩:=agU.mp hw;have hm:=List.of_mem_zip (ahq.mp hq).1;obtain⟨k,hk⟩:=FT _ hm.1;have hd:=h.2 _ hm.2;have hp:q.1.length=2/\∀c∈q.1,c<1000:=by
   have:∀p∈bD,p.length=2/\∀c∈p,c<1000:=by decide
   exact this _ hm.1
  refine(Lc.app (A:=2) (B:=1) ⟨Nat.le_of_eq hp.1,hp.2⟩ ⟨agL _,λc hc=>?_⟩).mono (by decide);rw[agJ.mp hc];omega
theorem Lc.pt{p:Pt}{k:Kn}(h:fK p k=true):Lc 24 (sU p k):=by
 cases p with
 |n i=>
  cases k with
  |n=>
   simp[fK]at h;exact Lc.num h.1 h.2
  |e=>cases h
  |p=>
   simp[fK]at h;exact Lc.pl h.1 h.2
 |e l=>
  cases k with
  |e=>exact Lc.show (yO h)
  |n=>cases h
  |p=>cases h
 |s x=>cases k<;>cases h
theorem K9:(aV.all λp=>decide ((TL.tl p.1).length<=24)&&(TL.tl p.1).all λc=>decide (c<1000))=true:=by decide +kernel
theorem Lc.line{w:Str}{ks:List Kn}{ps:List Pt}(f:Fd w ks ps):Lc 100 (pJ w ks ps):=by
 have h3:=f.tab.1;have hw:=agK.mp K9 _ (lookup_mem w ks aV f.k);rw[agx,ahu,agK]at hw;unfold pJ;refine(Lc.join (S:=[32]) (A:=1) (B:=24) ⟨agL _,by decide⟩ λx hx=>?_).mono ?_
 .rcases agI.mp hx with rfl|hx
  .exact⟨hw.1,λc hc=>by simpa using hw.2 c hc⟩
  .obtain⟨q,hq,rfl⟩:=agU.mp hx;exact Lc.pt (f.bs q hq)
 .rw[agC,agB,List.length_zip];omega
def HS:List Str:=[" ","0","7","cut","tear ","enrol 1 1 ","lt","lf3","none","-","\n","+","1234567890","L"," rh9","owner"," 12","_"]
def aaS:List Dat:=HS.map PyData.str
theorem aaT:([.str " ",.str "0",.str "7",.str "cut",.str "tear ",.str "enrol 1 1 ",.str "lt",.str "lf3",.str "none",.str "-",.str "\n",.str "+",.str "1234567890",.str "L",.str " rh9",.str "owner",.str " 12",.str "_"]:List Dat)=aaS:=by rfl
theorem TY:(HS.all λp=>decide ((TL.tl p).length<=10)&&(TL.tl p).all λc=>decide (c<1000))=true:=by decide +kernel
theorem Fx(M:Mo)(i:Int):∃p,jE M [.int i]=.ok (.str (cS p))/\Lc 10 p:=by
 obtain⟨j,hj⟩:∃j:Nat,i%18=(j:Int):=⟨(i%18).toNat,by omega⟩;have hlt:j<18:=by omega
 obtain⟨s,hs⟩:∃s,HS[j]?=some s:=⟨_,agD (show j<HS.length from hlt)⟩;have hm:=agK.mp TY _ (agT hs);rw[agx,ahu,agK]at hm;refine⟨TL.tl s,?_,hm.1,λc hc=>by simpa using hm.2 c hc⟩;rw[M9];have h1:atI aaS (j:Int)=some (.str s):=vf HS PyData.str j s hs;simp[jE,Ad,aaT,hj,h1]
def Jm:Str:=" !\"#$&'()*+,-./0123456789:;<=>?@ABCDEFGHIJKLMNOPQRSTUVWXYZ[\\]^_`"
def JC:Str:="abcdefghijklmnopqrstuvwxyz{|}~\n"
def vW:List Nat:=TL.tl (Jm++JC)
theorem Q9:vW.length=95:=by decide +kernel
theorem WR:(vW.all λc=>decide (c<1000))=true:=by decide +kernel
theorem aaO:bJ (.str " !\"#$&'()*+,-./0123456789:;<=>?@ABCDEFGHIJKLMNOPQRSTUVWXYZ[\\]^_`") (.str "abcdefghijklmnopqrstuvwxyz{|}~\n")=.ok (.str (cS vW)):=by
 have h1:Jm.length+JC.length<=100000:=by decide +kernel
 show Out.when (decide (Jm.length+JC.length<=100000)) (.ok (PyData.str (Jm++JC)))=_;rw[decide_eq_true h1];show Out.ok (PyData.str (Jm++JC))=Out.ok (PyData.str (cS (TL.tl (Jm++JC))));rw[M9]
theorem Vt(M:Mo)(i:Int):∃p,qP M [.int i]=.ok (.str (cS p))/\Lc 1 p:=by
 obtain⟨j,hj⟩:∃j:Nat,i%95=(j:Int):=⟨(i%95).toNat,by omega⟩;have hlt:j<95:=by omega
 obtain⟨s,hs⟩:∃s,vW[j]?=some s:=⟨_,agD (show j<vW.length by rw[Q9];exact hlt)⟩;have hm:=agK.mp WR _ (agT hs);refine⟨[s],?_,agL _,λc hc=>by rw[agJ.mp hc];simpa using hm⟩;have h1:dW (.str (cS vW)) (.int (j:Int))=.ok (.str (cS [s])):=by
  have h0:atI vW (j:Int)=some s:=atI_nat hs;show Out.when (decide ((cS vW).length<=100000)) (match atI vW (j:Int) with
   |some c=>Out.ok (PyData.str ⟨#[c]⟩)
   |none=>.bad)=_
  rw[cI,Q9,h0];rfl
 have h2:=aaO;generalize cS vW=Z at *;generalize cS [s]=P at *;simp[qP,GX,h2,hj,h1]
theorem Uo{α:Type}(f:α->Str)(l:List α):strsOf (l.map λx=>PyData.str (f x))=some (l.map f):=by have:=Jy (l.map f);rw[agW]at this;exact this
theorem Qz{α:Type}(f:α->List Nat)(l:List α){B:Nat}(h:∀x∈l,Lc B (f x))(hl:l.length<=1000)(hB:B<=1000):gR "" (.list (l.map λx=>PyData.str (cS (f x))))=.ok (.str (cS (TL.joinL [] (l.map f))))/\Lc (l.length*B) (TL.joinL [] (l.map f)):=by
 have key:∀l:List α,(∀x∈l,Lc B (f x))->((l.map λx=>cS (f x)).map λy=>y.length).sum<=l.length*B:=by
  intro l
  induction l with
  |nil=>intro _;exact agO _
  |cons x l ih=>
   intro h;have h1:=ih λy hy=>h y (agz _ hy);have h2:=(h x agA).1;rw[agy,agy,List.sum_cons,agC,cI,Nat.succ_mul];omega
 constructor
 .have h0:Str.length ""=0:=by decide +kernel
  have hk:=key l h;have hb:l.length*B<=1000*1000:=Nat.mul_le_mul hl hB;unfold gR
  dsimp only
  rw[Uo]
  dsimp only
  rw[h0,Nat.mul_zero,decide_eq_true (show _<=16777216 by omega)];show Out.ok (PyData.str (Txt.join "" (l.map λx=>cS (f x))))=_
  congr 2;apply TL.ext_tl;rw[TL.join_eq,TL.tl_join,aav,qb,agW];rfl
 .have:=Lc.join (S:=[]) (A:=0) (B:=B) ⟨agL _,λc h=>by cases h⟩ (ws:=l.map f) λw hw=>by
   obtain⟨x,hx,rfl⟩:=agU.mp hw;exact h x hx
  rw[agB,Nat.zero_add]at this;exact this
theorem Gv:TL.tl (Str.ofString "abcdefghijklmnopqrstuvwxyz")=(List.range 26).map (97 + ·):=by decide +kernel
theorem Xa(M:Mo)(i:Int):∃p,tL M [.int i]=.ok (.str (cS p))/\Lc 100 p:=by
 obtain⟨n,hn⟩:∃n:Nat,3+jZ i%4=(n:Int):=⟨(3+jZ i%4).toNat,by omega⟩;have hn6:n<=6:=by omega
 have hr:=Eb M i n 26 (by decide) (by decide) (by omega);have ea:(if i<0 then -i else i)=jZ i:=rfl;have al:(Str.ofString "abcdefghijklmnopqrstuvwxyz").length=26:=by rw[TL.len_tl,Gv];simp
 have key:=iD (tg:=au 2) (te:=aA dW (ak 1) (ak 2)) (M:=M) (ρ:=[some (.dat (.int i)),some (.dat (.str "abcdefghijklmnopqrstuvwxyz")),none]) PyData.int (λf:Int=>.str (cS [97+f.toNat])) (rowOf i n 26) λf hf=>⟨[some (.dat (.int i)),some (.dat (.str "abcdefghijklmnopqrstuvwxyz")),some (.dat (.int f))],by simp,by
  have hb:=Gz (b:=26) (by decide) i n f hf;have h0:atI (TL.tl (Str.ofString "abcdefghijklmnopqrstuvwxyz")) f=some (97+f.toNat):=by rw[Gv,show f=(f.toNat:Int) by omega];exact atI_nat (by rw[agS,List.getElem?_range (by omega)];rfl)
  show dW (.str (Str.ofString "abcdefghijklmnopqrstuvwxyz")) (.int f)=_
  show Out.when (decide ((Str.ofString "abcdefghijklmnopqrstuvwxyz").length<=100000)) (match atI (TL.tl (Str.ofString "abcdefghijklmnopqrstuvwxyz")) f with
   |some c=>Out.ok (PyData.str ⟨#[c]⟩)
   |none=>.bad)=_
  rw[al,h0]
  rfl⟩
 obtain⟨j1,j2⟩:=Qz (λf:Int=>[97+f.toNat]) (rowOf i n 26) (B:=1) (λf hf=>⟨agL _,λc hc=>by
  have hb:=Gz (b:=26) (by decide) i n f hf;rw[agJ.mp hc]
  omega⟩) (by rw[oF];omega) (by decide)
 refine⟨_,?_,j2.mono (by rw[oF];omega)⟩;have hrl:((rowOf i n 26).map PyData.int).length<=50000:=by rw[agB,oF];omega
 generalize cS (TL.joinL [] ((rowOf i n 26).map λf:Int=>[97+f.toNat]))=R at *;have hr:jR M [.int i,.int n,.int 26]=.ok (.list ((rowOf i n 26).map PyData.int)):=hr;generalize ((rowOf i n 26).map λf:Int=>PyData.str (cS [97+f.toNat]))=D2 at *;generalize (rowOf i n 26).map PyData.int=D at *;clear j2;simp[tL,Fv,dI,ea,hn,hr,key,j1,hrl]
theorem lE{f g:SF}{M:Mo}{ρ Z':Rf.Env}{R:dY}(h:f M ρ=.next Z' M)(k:g M Z'=R):aF f g M ρ=R:=by rw[QS,h];exact k
theorem jP{f g:SF}{M:Mo}{ρ:Rf.Env}{R:dY}(P:Rf.Env->Prop)(h:∃Z',f M ρ=.next Z' M/\P Z')(k:∀Z',P Z'->g M Z'=R):aF f g M ρ=R:=by obtain⟨Z',h1,h2⟩:=h;exact lE h1 (k Z' h2)
theorem Hz:∀(W:List (List Nat)) (j:Nat) (h:j<W.length) (c:Nat),(bQ (W.set j (c::W[j]))).length=(bQ W).length+1
 |[],j,h,c=>absurd h (Nat.not_lt_zero _)
 |w::W,0,h,c=>by
  show(bQ ((c::w)::W)).length=_
  rw[cY,cY,agH,agH,agC (a:=c)];omega
 |w::W,j+1,h,c=>by
  have ih:=Hz W j (Nat.lt_of_succ_lt_succ h) c
  show(bQ (w::W.set j (c::W[j]'(Nat.lt_of_succ_lt_succ h)))).length=_
  rw[cY,cY,agH,agH,agC,agC,ih];omega
def qw(ns:List Int)(way:Int)(c5:Int)(B:Nat)(ρ:Rf.Env):Prop:=∃(t:List Nat) (n:Nat) (y5:Option Cell),ρ=[some (.dat (lI ns)),some (.dat (.str (cS t))),some (.dat (.int way)),some (.dat (.int c5)),some (.dat (.int (n:Int))),y5,none,none,none,none]/\Lc B t
theorem Vo{t:List Nat}(h:t.length<=5000)(n:Nat):nM (.str (cS t)) none (some (n:Int))=.ok (.str (cS (t.take n))):=by rw[uh _ _ _ h];exact congrArg (λz=>Out.ok (PyData.str z)) (Om t n)
theorem QZ{t:List Nat}(h:t.length<=5000)(n:Nat):nM (.str (cS t)) (some (n:Int)) none=.ok (.str (cS (t.drop n))):=by rw[uh _ _ _ h];exact congrArg (λz=>Out.ok (PyData.str z)) (Fg t n)
theorem sl2{t:List Nat}(h:t.length<=5000)(n:Nat):nM (.str (cS t)) (some ((n:Int)+1)) none=.ok (.str (cS (t.drop (n+1)))):=QZ h (n+1)
theorem Rk(ns:List Int)(h:ns.length<=63):KQ [] [.list (ns.map PyData.int)]=.ok (.bool true):=by
 have key:xY [] (ini 10 [.list (ns.map PyData.int)])=.ret (.bool true) []:=by
  have e0:ini 10 [.list (ns.map PyData.int)]=[some (.dat (lI ns)),none,none,none,none,none,none,none,none,none]:=rfl;rw[e0];obtain⟨p,hp,h1⟩:=Od [] ns;obtain⟨w,ks⟩:=p;have f:Fd w ks (partsOf ns 0 ks):=⟨(kh _ hp).1,Br ns ks 0,(Gf ns ks 0).1⟩;have h1:oJ [] [lI ns]=.ok (.tuple (.str w::(partsOf ns 0 ks).map Pt.dat)):=h1;have h2:=Mr [] f;have h3:=Lc.line f;generalize pJ w ks (partsOf ns 0 ks)=t at *;generalize (PyData.tuple (.str w::(partsOf ns 0 ks).map Pt.dat))=TP at *;clear f hp;have cl:∀k:Nat,cJ [] [lI ns,.int (k:Int)]=.ok (.int (ns.getD k 0)):=λk=>zq [] ns k;have c1:cJ [] [lI ns,.int 1]=.ok (.int (ns.getD 1 0)):=cl 1;have c4:cJ [] [lI ns,.int 4]=.ok (.int (ns.getD 4 0)):=cl 4;have c5:cJ [] [lI ns,.int 5]=.ok (.int (ns.getD 5 0)):=cl 5;have c6:cJ [] [lI ns,.int 6]=.ok (.int (ns.getD 6 0)):=cl 6;clear cl;generalize ns.getD 1 0=v1 at *;generalize ns.getD 4 0=v4 at *;generalize ns.getD 5 0=v5 at *;generalize ns.getD 6 0=v6 at *;unfold xY;refine lE (Z':=[some (.dat (lI ns)),some (.dat (.str (cS t))),none,none,none,none,none,none,none,none]) (by simp[h1,h2]) ?_;refine lE (Z':=[some (.dat (lI ns)),some (.dat (.str (cS t))),some (.dat (.int (v4%6))),none,none,none,none,none,none,none]) (by simp[c4]) ?_;refine lE (Z':=[some (.dat (lI ns)),some (.dat (.str (cS t))),some (.dat (.int (v4%6))),some (.dat (.int v5)),none,none,none,none,none,none]) (by simp[c5]) ?_;have dv:∀i,decide (CDiv i 18)=true:=λi=>decide_eq_true ⟨by decide,by decide⟩;have dv2:∀i,decide (CDiv i 6)=true:=λi=>decide_eq_true ⟨by decide,by decide⟩;have dv3:∀i,decide (CDiv i 95)=true:=λi=>decide_eq_true ⟨by decide,by decide⟩;generalize v4%6=way
  -- at
  refine jP (qw ns way v5 100) ?_ λZ1 p1=>?_
  .obtain⟨n,hn⟩:∃n:Nat,v5/18%((t.length:Int)+1)=(n:Int):=⟨(v5/18%((t.length:Int)+1)).toNat,by have:=Int.emod_nonneg (v5/18) (show(t.length:Int)+1≠0 by omega);omega⟩;have hl:=TQ t (by have:=h3.1;omega);have h0:(0:Int)<(t.length:Int)+1:=by omega
   refine⟨_,?_,t,n,none,rfl,h3⟩;generalize (t.length:Int)=LN at *;generalize cS t=T at *;simp[hl,dv,h0,hn]
  clear h1 h2 h3
  -- a piece put in
  refine jP (qw ns way v5 110) ?_ λZ2 p2=>?_
  .obtain⟨t,n,y5,rfl,ht⟩:=p1;by_cases q:way=1\/way=2
   .obtain⟨p,g1,g2⟩:=Fx [] v5;have hB:=ht.1;have hA:=g2.1;have k1:=Vo (t:=t) (by omega) n;have k2:=QZ (t:=t) (by omega) n;have k3:=nZ (t.take n) p (by rw[List.length_take];omega);have k4:=nZ (t.take n++p) (t.drop n) (by rw[agH,List.length_take,ag3];omega);refine⟨_,?_,t.take n++p++t.drop n,n,y5,rfl,ht.ins g2 (agL n)⟩;generalize cS (t.take n++p++t.drop n)=T1 at *;generalize cS (t.take n++p)=T2 at *;generalize cS (t.take n)=T3 at *;generalize cS (t.drop n)=T4 at *;generalize cS p=T5 at *;generalize cS t=T at *;generalize (n:Int)=N at *;rcases q with rfl|rfl<;>simp[g1,k1,k2,k3,k4]
   .have q1:¬way=1:=λz=>q (.inl z);have q2:¬way=2:=λz=>q (.inr z);exact⟨_,by simp[q1,q2],t,n,y5,rfl,ht.mono (by decide)⟩
  -- a sign taken out
  refine jP (qw ns way v5 110) ?_ λρ3 p3=>?_
  .obtain⟨t,n,y5,rfl,ht⟩:=p2;by_cases q:way=3
   .have hB:=ht.1;have k1:=Vo (t:=t) (by omega) n;have k2:=sl2 (t:=t) (by omega) n;have k3:=nZ (t.take n) (t.drop (n+1)) (by rw[List.length_take,ag3];omega);refine⟨_,?_,t.take n++t.drop (n+1),n,y5,rfl,ht.cut n⟩;generalize cS (t.take n++t.drop (n+1))=T1 at *;generalize cS (t.take n)=T3 at *;generalize cS (t.drop (n+1))=T4 at *;generalize cS t=T at *;generalize (n:Int)=N at *;subst q;simp[k1,k2,k3]
   .exact⟨_,by simp[q],t,n,y5,rfl,ht⟩
  -- a word with 0 before it
  refine jP (qw ns way v5 112) ?_ λρ4 p4=>?_
  .obtain⟨t,n,y5,rfl,ht⟩:=p3;by_cases q:way=4
   .have hB:=ht.1;have hW0:=Dc t;have hWc:=sJ t;have hWs:∀w∈wL t,w.length<=112:=λw h=>aha (o7 h) (by omega);have hWk:=Aj ht.2;have hWf:bQ (wL t)=t++[32]:=(iT t [] (by simp)).1;have hsp:Qt (ak 1) (qC (.str " ")) [] [some (.dat (lI ns)),some (.dat (.str (cS t))),some (.dat (.int way)),some (.dat (.int v5)),some (.dat (.int (n:Int))),y5,none,none,none,none]=.ok ((wL t).map λw=>PyData.str (cS w)):=by
     have:=qd t (by omega);have l1:Str.length " "=1:=by decide +kernel
     show Out.when (!(Str.length " "==0)&&decide ((cS t).length+2<=100000)) (Out.ok ((Txt.split (cS t) " ").map PyData.str))=_
     rw[l1,cI,decide_eq_true (by omega),split_S,agW];rfl
    generalize wL t=W at *;have hWp:0<W.length:=List.length_pos_iff.mpr hW0;obtain⟨j,hj⟩:∃j:Nat,v5%(W.length:Int)=(j:Int):=⟨(v5%(W.length:Int)).toNat,by have:=Int.emod_nonneg v5 (show(W.length:Int)≠0 by omega);omega⟩;have hjl:j<W.length:=by have:=Int.emod_lt_of_pos v5 (show(0:Int)<W.length by omega);omega
    have hat:atI (W.map λw=>PyData.str (cS w)) (j:Int)=some (.str (cS W[j])):=atI_nat (by simp[hjl]);have hadd:bJ (.str "0") (.str (cS W[j]))=.ok (.str (cS (48::W[j]))):=nZ [48] W[j] (by have:=hWs _ (List.getElem_mem hjl);show 1+_<=_;omega)
    have hix:ixN W.length (j:Int)=some j:=by unfold ixN;simp[hjl]
    have hset:(W.map λw=>PyData.str (cS w)).set j (.str (cS (48::W[j])))=(W.set j (48::W[j])).map λw=>PyData.str (cS w):=(List.map_set (f:=λw=>PyData.str (cS w))).symm;have hmem:∀w∈W.set j (48::W[j]),Lc 113 w:=λw hw=>by
     rcases List.mem_or_eq_of_mem_set hw with hw|rfl
     .exact⟨by have:=hWs w hw;omega,hWk w hw⟩
     .refine⟨by have:=hWs _ (List.getElem_mem hjl);rw[agC];omega,λc hc=>?_⟩;rcases agI.mp hc with rfl|hc
      .decide
      .exact hWk _ (List.getElem_mem hjl) c hc
    have hjoin:=Gq (W:=W.set j (48::W[j])) (λw hw=>by have:=(hmem w hw).1;omega) (by rw[agR];omega);have hlc:Lc 112 (TL.joinL [32] (W.set j (48::W[j]))):=by refine⟨?_,(Lc.join (S:=[32]) (A:=1) ⟨agL _,by decide⟩ hmem).2⟩;have e1:=tZ (ws:=W.set j (48::W[j])) (by intro z;have:=congrArg List.length z;rw[agR]at this;exact hW0 (List.eq_nil_of_length_eq_zero this));have e2:=Hz W j hjl 48;rw[e1,hWf]at e2;simp only[agH,agC,List.length_nil]at e2;omega
    have hDl:(W.map λw=>PyData.str (cS w)).length=W.length:=agB _;have h0:(0:Int)<(W.length:Int):=by omega
    refine⟨_,?_,TL.joinL [32] (W.set j (48::W[j])),j,some (.mut ((W.set j (48::W[j])).map λw=>PyData.str (cS w))),rfl,hlc⟩;clear hmem hlc hWf hWk hWs hWc hW0;generalize ((W.set j (48::W[j])).map λw=>PyData.str (cS w))=D2 at *;generalize (W.map λw=>PyData.str (cS w))=D at *;generalize cS (TL.joinL [32] (W.set j (48::W[j])))=T2 at *;generalize cS (48::W[j])=X2 at *;generalize cS W[j]=X at *;generalize W.length=m at *;generalize cS t=T at *;subst q;simp[-Zz,dI,hsp,hDl,h0,hWp,hj,hat,hadd,hix,hset,hjoin]
   .exact⟨_,by simp[q],t,n,y5,rfl,ht.mono (by decide)⟩
  -- pieces only
  refine jP (qw ns way v5 112) ?_ λρ5 p5=>?_
  .obtain⟨t,n,y5,rfl,ht⟩:=p4;by_cases q:way=5
   .obtain⟨m,hm⟩:∃m:Nat,v1%11=(m:Int):=⟨(v1%11).toNat,by omega⟩;have hm10:m<=10:=by omega
    have hr:=Eb [] v5 m 18 (by decide) (by decide) (by omega);have pf:∀f:Int,∃p,jE [] [.int f]=.ok (.str (cS p))/\Lc 10 p:=λf=>Fx [] f
    let pc:Int->List Nat:=λf=>(pf f).choose
    have h1:∀f,jE [] [.int f]=.ok (.str (cS (pc f))):=λf=>(pf f).choose_spec.1;have h2:∀f,Lc 10 (pc f):=λf=>(pf f).choose_spec.2
    clear_value pc
    have key:=iD (tg:=au 9) (te:=aN jE (ao (aJ 9) aG)) (M:=[]) (ρ:=[some (.dat (lI ns)),some (.dat (.str (cS t))),some (.dat (.int way)),some (.dat (.int v5)),some (.dat (.int (n:Int))),y5,none,none,none,none]) PyData.int (λf:Int=>.str (cS (pc f))) (rowOf v5 m 18) λf _=>⟨[some (.dat (lI ns)),some (.dat (.str (cS t))),some (.dat (.int way)),some (.dat (.int v5)),some (.dat (.int (n:Int))),y5,none,none,none,some (.dat (.int f))],by simp,by
     have:=h1 f;generalize cS (pc f)=X at *;generalize cS t=T at *;simp[this]⟩
    obtain⟨j1,j2⟩:=Qz pc (rowOf v5 m 18) (λf _=>h2 f) (by rw[oF];omega) (by decide);refine⟨_,?_,TL.joinL [] ((rowOf v5 m 18).map pc),n,y5,rfl,j2.mono (by rw[oF];omega)⟩;have hrl:((rowOf v5 m 18).map PyData.int).length<=50000:=by rw[agB,oF];omega
    have hr:jR [] [.int v5,.int m,.int 18]=.ok (.list ((rowOf v5 m 18).map PyData.int)):=hr;clear j2 h1 h2;generalize cS (TL.joinL [] ((rowOf v5 m 18).map pc))=R at *;generalize ((rowOf v5 m 18).map λf:Int=>PyData.str (cS (pc f)))=D2 at *;generalize (rowOf v5 m 18).map PyData.int=D at *;generalize cS t=T at *;subst q;simp[dI,c1,hm,hr,key,j1,hrl]
   .exact⟨_,by simp[q],t,n,y5,rfl,ht⟩
  -- the second change
  refine jP (qw ns (v4/6%4) v5 112) ?_ λρ6 p6=>?_
  .obtain⟨t,n,y5,rfl,ht⟩:=p5;exact⟨_,by simp[c4,dv2],t,n,y5,rfl,ht⟩
  generalize v4/6%4=way2 at *;refine jP (qw ns way2 v5 112) ?_ λρ7 p7=>?_
  .obtain⟨t,n,y5,rfl,ht⟩:=p6;obtain⟨n',hn⟩:∃n:Nat,v6/95%((t.length:Int)+1)=(n:Int):=⟨(v6/95%((t.length:Int)+1)).toNat,by have:=Int.emod_nonneg (v6/95) (show(t.length:Int)+1≠0 by omega);omega⟩;have hl:=TQ t (by have:=ht.1;omega);have h0:(0:Int)<(t.length:Int)+1:=by omega
   refine⟨_,?_,t,n',y5,rfl,ht⟩;generalize (t.length:Int)=LN at *;generalize cS t=T at *;simp[c6,hl,dv3,h0,hn]
  obtain⟨sg,g1,g2⟩:=Vt [] v6;refine jP (qw ns way2 v5 113) ?_ λρ8 p8=>?_
  .obtain⟨t,n,y5,rfl,ht⟩:=p7;by_cases q:way2=1
   .have hB:=ht.1;have hA:=g2.1;have k1:=Vo (t:=t) (by omega) n;have k2:=QZ (t:=t) (by omega) n;have k3:=nZ (t.take n) sg (by rw[List.length_take];omega);have k4:=nZ (t.take n++sg) (t.drop n) (by rw[agH,List.length_take,ag3];omega);refine⟨_,?_,t.take n++sg++t.drop n,n,y5,rfl,ht.ins g2 (agL n)⟩;generalize cS (t.take n++sg++t.drop n)=T1 at *;generalize cS (t.take n++sg)=T2 at *;generalize cS (t.take n)=T3 at *;generalize cS (t.drop n)=T4 at *;generalize cS sg=T5 at *;generalize cS t=T at *;generalize (n:Int)=N at *;subst q;simp[c6,g1,k1,k2,k3,k4]
   .exact⟨_,by simp[q],t,n,y5,rfl,ht.mono (by decide)⟩
  refine jP (qw ns way2 v5 114) ?_ λρ9 p9=>?_
  .obtain⟨t,n,y5,rfl,ht⟩:=p8;by_cases q:way2=2
   .have hB:=ht.1;have hA:=g2.1;have k1:=Vo (t:=t) (by omega) n;have k2:=sl2 (t:=t) (by omega) n;have k3:=nZ (t.take n) sg (by rw[List.length_take];omega);have k4:=nZ (t.take n++sg) (t.drop (n+1)) (by rw[agH,List.length_take,ag3];omega);refine⟨_,?_,t.take n++sg++t.drop (n+1),n,y5,rfl,ht.ins g2 (Nat.le_succ n)⟩;generalize cS (t.take n++sg++t.drop (n+1))=T1 at *;generalize cS (t.take n++sg)=T2 at *;generalize cS (t.take n)=T3 at *;generalize cS (t.drop (n+1))=T4 at *;generalize cS sg=T5 at *;generalize cS t=T at *;generalize (n:Int)=N at *;subst q;simp[c6,g1,k1,k2,k3,k4]
   .exact⟨_,by simp[q],t,n,y5,rfl,ht.mono (by decide)⟩
  refine jP (qw ns way2 v5 300) ?_ λρ10 p10=>?_
  .obtain⟨t,n,y5,rfl,ht⟩:=p9;by_cases q:way2=3
   .have hB:=ht.1;obtain⟨wd,w1,w2⟩:=Xa [] v6;have hWc:=sJ t;have hWs:∀w∈wL t,w.length<=114:=λw h=>aha (o7 h) (by omega);have hWk:=Aj ht.2;have hWj:=qL t;have hsp:=qd t (by omega);generalize wL t=W at *;have hcut:Rf.cutD (W.map λw=>PyData.str (cS w)) (some 1) none=(W.drop 1).map λw=>PyData.str (cS w):=by
     rw[List.map_drop];exact rR _ 1
    have hmem:∀w∈wd::W.drop 1,Lc 114 w:=λw hw=>by
     rcases agI.mp hw with rfl|hw
     .exact w2.mono (by decide)
     .exact⟨hWs w (List.mem_of_mem_drop hw),hWk w (List.mem_of_mem_drop hw)⟩
    have hjoin:=Gq (W:=wd::W.drop 1) (λw hw=>by have:=(hmem w hw).1;omega) (by rw[agC,ag3];omega);have hlc:Lc 300 (TL.joinL [32] (wd::W.drop 1)):=by
     refine⟨?_,(Lc.join (S:=[32]) (A:=1) ⟨agL _,by decide⟩ hmem).2⟩;have h1:=pP W 1;have h2:=w2.1;rw[hWj]at h1;by_cases e:W.drop 1=[]
     .rw[e];show wd.length<=300;omega
     .rw[fH _ _ e,agH,agC];omega
    have hal:1+((W.drop 1).map λw=>PyData.str (cS w)).length<=100000:=by rw[agB,ag3];omega
    have hadd:bJ (.list [.str (cS wd)]) (.list ((W.drop 1).map λw=>PyData.str (cS w)))=.ok (.list ((wd::W.drop 1).map λw=>PyData.str (cS w))):=by rw[zp,decide_eq_true (by show 1+_<=_;exact hal)];rfl
    refine⟨_,?_,TL.joinL [32] (wd::W.drop 1),n,y5,rfl,hlc⟩;clear hmem hlc hWk hWs hWc hal;generalize ((wd::W.drop 1).map λw=>PyData.str (cS w))=D2 at *;generalize ((W.drop 1).map λw=>PyData.str (cS w))=D1 at *;generalize (W.map λw=>PyData.str (cS w))=D at *;generalize cS (TL.joinL [32] (wd::W.drop 1))=T2 at *;generalize cS wd=X at *;generalize cS t=T at *;subst q;simp[-zp,dI,c6,w1,hsp,hcut,hadd,hjoin]
   .exact⟨_,by simp[q],t,n,y5,rfl,ht.mono (by decide)⟩
  -- meant and read
  obtain⟨t,n,y5,rfl,ht⟩:=p10;have m1:=Qw [] t (by have:=ht.1;omega) ht.2;have m2:=CG [] t (by have:=ht.1;omega);have m3:=Ln t;have m4:=λds=>@RN t ds;rw[<-m3]at m1;generalize cS t=T at *;refine lE (Z':=[some (.dat (lI ns)),some (.dat (.str T)),some (.dat (.int way2)),some (.dat (.int v5)),some (.dat (.int (n:Int))),y5,some (.dat (tupO (mK t))),none,none,none]) (by simp[m1]) ?_;refine lE (Z':=[some (.dat (lI ns)),some (.dat (.str T)),some (.dat (.int way2)),some (.dat (.int v5)),some (.dat (.int (n:Int))),y5,some (.dat (tupO (mK t))),some (.dat (.str "")),none,none]) (by simp) ?_
  refine lE (Z':=[some (.dat (lI ns)),some (.dat (.str T)),some (.dat (.int way2)),some (.dat (.int v5)),some (.dat (.int (n:Int))),y5,some (.dat (tupO (mK t))),some (.dat (.str "")),some (.dat .none),none]) (by simp) ?_
  cases q:mK t with
  |none=>
   rw[q]at m2;have m2:bF [] [.str T]=.exc ⟨"BadLine",[]⟩:=m2
   have st:aM (au 8) (gOf (aN bF (ao (aJ 1) aG))) [] [some (.dat (lI ns)),some (.dat (.str T)),some (.dat (.int way2)),some (.dat (.int v5)),some (.dat (.int (n:Int))),y5,some (.dat .none),some (.dat (.str "")),some (.dat .none),none]=.exc ⟨"BadLine",[]⟩ [some (.dat (lI ns)),some (.dat (.str T)),some (.dat (.int way2)),some (.dat (.int v5)),some (.dat (.int (n:Int))),y5,some (.dat .none),some (.dat (.str "")),some (.dat .none),none] []:=by simp[m2]
   refine lE (Z':=[some (.dat (lI ns)),some (.dat (.str T)),some (.dat (.int way2)),some (.dat (.int v5)),some (.dat (.int (n:Int))),y5,some (.dat .none),some (.dat (.str "BadLine")),some (.dat .none),none]) ?_ ?_
   .show rG _ _ _ _=_;unfold rG;rw[show tupO none=PyData.none from rfl,st];rfl
   .simp[gH]
  |some ds=>
   rw[q]at m2;have m2:bF [] [.str T]=.ok (.tuple ds):=m2;have lkd:=XC [] 9 _ (m4 ds q);have st:aM (au 8) (gOf (aN bF (ao (aJ 1) aG))) [] [some (.dat (lI ns)),some (.dat (.str T)),some (.dat (.int way2)),some (.dat (.int v5)),some (.dat (.int (n:Int))),y5,some (.dat (.tuple ds)),some (.dat (.str "")),some (.dat .none),none]=.next [some (.dat (lI ns)),some (.dat (.str T)),some (.dat (.int way2)),some (.dat (.int v5)),some (.dat (.int (n:Int))),y5,some (.dat (.tuple ds)),some (.dat (.str "")),some (.dat (.tuple ds)),none] []:=by simp[m2]
   refine lE (Z':=[some (.dat (lI ns)),some (.dat (.str T)),some (.dat (.int way2)),some (.dat (.int v5)),some (.dat (.int (n:Int))),y5,some (.dat (.tuple ds)),some (.dat (.str "")),some (.dat (.tuple ds)),none]) ?_ ?_
   .show rG _ _ _ _=_;unfold rG;rw[show tupO (some ds)=PyData.tuple ds from rfl,st]
   .simp[gH,lkd]
 show(match xY [] (ini 10 [.list (ns.map PyData.int)]) with
  |.ret d _=>Out.ok d
  |.next _ _=>.ok .none
  |.exc x _ _=>.exc x
  |_=>.bad)=_
 rw[key]
end Pr
open PySem PySem.W PySem.Calls PyProof.Rows
set_option maxHeartbeats 0 in
theorem PySem.Challenge.cw_earmarks_k30_lines_read_holds : PySem.Challenge.rw_earmarks_k30_lines_read.Holds := by
 w_on;o_law
 refine HandSHeadRun.head_any (r:=OpenLaw.row PySem.Challenge.rw_earmarks_k30_lines_read) (q:=view (OpenLaw.row PySem.Challenge.rw_earmarks_k30_lines_read).prog [43]) (H:=Pr.Vd) (ob:=Pr.U3) (M:=40000) (loose:=Pr.nm) (d:=HandSHeadRun.topDef (OpenLaw.row PySem.Challenge.rw_earmarks_k30_lines_read).prog 43) (kwd:=[]) Pr.aaN (by kernel_rfl) (λs=>by kernel_rfl) Pr.run (by kernel_rfl) (by kernel_rfl) (by kernel_rfl) (by rfl) (by first | assumption | decide +kernel) (by decide +kernel) ⟨rfl,rfl,rfl,rfl,rfl,by decide +kernel⟩ ?hw ?hc
 case hw=>w_witness2
 case hc=>
  refine L2.walk_ofE (l:=PySem.Challenge.rw_earmarks_k30_lines_read) (n:=63) (k:=13) (x:="_law_script") (CX:=L2.CX0) rfl (by decide) (by kernel_rfl) ⟨rfl,by decide,by decide⟩ ?F (λ_ _ _ _ z=>z)
  intro w mg fa h Y G hmg0;obtain⟨K,KX,c⟩:=Y;have hmg:mg ("law" : PySem.Str)=some (.ref fa):=by
   have e:(HandSHeadRun.topDef (OpenLaw.row PySem.Challenge.rw_earmarks_k30_lines_read).prog 43).name=("law" : PySem.Str):=by kernel_rfl
   rw[<-e];exact hmg0
  have T:Pr.Top w K mg:=⟨⟨h,KX,G⟩,c⟩;have e:=hmg.symm.trans (T.glo 26);cases e;obtain⟨fd,F⟩:=T.c.Vi 26;have b:=L2.FunD.bindsA (ps:=["_law_script"]) F λ_ _ _ _ _ _ us hl=>match us,hl with|[_],_=>rfl
  exact⟨K,fd,λvs H Q _=>Rf.qm K (Pr.aj w K) 1 Pr.KQ vs H Q λ_ _ _=>False,KX,λs v=>b s [v] rfl,λH a ns hl _ hS=>Rf.aco rfl hS (Pr.Rk ns hl),λbase _ _=>Rf.Mv (Pr.acf T F)⟩

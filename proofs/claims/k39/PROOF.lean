import PyProof.Rows.All
import Wide.All
import OpenK.AllK
import Wide.FinOn
import HandS.ForMost
import HandS.Evl
import HandS.Walk
import HandS.Zip
import HandS.IsInst
import HandS.Style
import HandS.FStr
import HandS.Strs
import HandS.TupAny
import HandS.Deep
import HandS.Exc
import HandS.TryOnly
import HandS.ExcOwn
import HandS.WordsExc
import KE.GoesMore
import KE.GoesEnum
import KE.DataMinMax
import KE.SortData
import HandS.SortKw
import HandS.TupSets
import HandS.SetBool
import KE.KeyNested
import PyProof.Transfer
import HandS.DictComp
import HandS.Conv
import KE.KDictKeyed
import HandS.ExcField
import HandS.ExcInit
import HandS.TryMany
import HandS.HeadHook4
import HandS.HeadHook3
import HandS.HeadHook2
import HandS.HeadHook1
import HandS.HeadEnd
import HandS.Head2
import HandS.Head1
import HandS.Head0
import KE.KStateDown
import HandS.Flow
import KE.KUnpackStar
import KE.GoesEnumKw
import KE.KTupSum
import PySem.Challenge.RW_earmarks_k39_moved
set_option Elab.async false
set_option linter.all false
set_option maxRecDepth 100000
set_option maxHeartbeats 2000000
abbrev asq:=@Option.bind_eq_some_iff
abbrev asr:=@PySem.W.Frag
abbrev asu:=@Bool.and_eq_true
abbrev asv:=@List.getElem?_eq_some_iff
abbrev asw:=@List.getElem?_eq_getElem
abbrev asx:=@List.map_cons
abbrev asy:=@List.mem_cons_of_mem
abbrev asz:=@List.mem_cons_self
abbrev asB:=@List.mem_singleton
abbrev asC:=@List.mem_of_getElem?
abbrev asF:=@List.getElem?_set_ne
abbrev asH:=@List.length_map
abbrev asI:=@List.getElem?_map
abbrev asJ:=@List.mem_map
abbrev asK:=@List.getElem?_append_left
abbrev asM:=@List.length_cons
abbrev asN:=@List.mem_cons
abbrev asO:=@List.mem_append
abbrev asQ:=@List.length_filter_le
abbrev asR:=@List.getElem?_append_right
abbrev asS:=@List.getElem?_set_self
abbrev asT:=@Bool.not_eq_true'
abbrev asU:=@Function.comp_def
abbrev asV:=@List.all_eq_true
abbrev asW:=@Option.some.inj
abbrev asY:=@List.mem_filter
abbrev asZ:=@List.length_set
abbrev as3:=@Nat.le_refl
abbrev as4:=@List.ext_getElem?
abbrev as5:=@Nat.le_trans
abbrev as6:=@List.lookup_cons
abbrev as7:=@List.getElem?_eq_none
abbrev as8:=@List.map_map
abbrev as9:=@Bool.false_eq_true
abbrev ata:=@Nat.ne_of_lt
abbrev atb:=@List.length_append
abbrev atc:=@List.not_mem_nil
abbrev atd:=@Array.length_toList
abbrev ate:=@List.all_cons
abbrev atf:=@List.mem_append_left
abbrev atg:=@List.filter_cons
abbrev ath:=@Nat.zero_le
abbrev ati:=@Array.getElem?_toList
abbrev atj:=@List.getElem_mem
abbrev atk:=@List.getElem?_mapIdx
abbrev atl:=@List.nodup_append
abbrev atm:=@List.append_nil
abbrev atn:=@List.length_reverse
abbrev ato:=@Nat.succ.inj
abbrev atp:=@Option.map_eq_some_iff
abbrev atq:=@List.drop_eq_getElem_cons
abbrev atr:=@List.getElem?_zip_eq_some
abbrev atu:=@List.nodup_cons
abbrev atv:=@List.getElem?_set
abbrev atw:=@List.any_cons
abbrev atx:=@List.drop_length
abbrev aty:=@List.map_nil
abbrev atz:=@List.zip_cons_cons
abbrev atA:=@Bool.eq_iff_iff
abbrev atD:=@List.mem_append_right
abbrev atE:=@List.foldl_cons
abbrev atF:=@Nat.lt_succ_of_lt
abbrev atG:=@List.reverse_cons
abbrev atH:=@List.mem_of_mem_take
abbrev atJ:=@List.eraseDups_cons
abbrev atL:=@List.pairwise_mergeSort
abbrev atM:=@List.filter_eq_self
abbrev atN:=@Bool.or_eq_true
abbrev atO:=@List.filter_filter
abbrev atQ:=@List.size_toArray
abbrev atR:=@List.nodup_nil
abbrev atU:=@List.any_map
abbrev atV:=@List.length_drop
abbrev atX:=@Nat.add_sub_cancel'
abbrev atY:=@Nat.add_left_cancel
abbrev atZ:=@List.drop_zero
namespace Rf
open PySem PySem.Spec PyProof.Rows L2 HandSHeadRun
abbrev Dat:=PyData
abbrev Ft:=List (Str×List Str)
structure Nu(fa:List He.Fa)(fn:List He.DefD)(tb:List He.Tab)(ex:asr->Bool)(w:World)(K:asr):Prop where
 t:He.SaysT fa fn tb w K
 more:ex K=true
def ac1(as:List Addr)(fa:List He.Fa)(fn:List He.DefD)(tb:List He.Tab)(ex:asr->Bool)(g:Addr->Option Obj):He.AlX:=(He.obsT fa fn tb (He.frG g as),ex (He.frG g as))
def acq(as:List Addr)(fa:List He.Fa)(fn:List He.DefD)(tb:List He.Tab)(ex:asr->Bool):PySem.W.Hook where
 α:=He.AlX
 obs:=fun s=>ac1 as fa fn tb ex s.heap.get?
 val:=fun w=>He.valX fn tb w
 says:=fun w h=>∃K:asr,K.In h/\Nu fa fn tb ex w K
 of:=fun w s e=>⟨_,He.frG_in,⟨congrArg (fun z:He.AlX=>z.1) e,congrArg (fun z:He.AlX=>z.2) e⟩⟩
 keeps:=fun _ _ _ ⟨K,hK,c⟩ k=>⟨K,PySem.W.Frag.In.keeps hK k,c⟩
theorem ajc{as:List Addr}{fa:List He.Fa}{fn:List He.DefD}{tb:List He.Tab}{ex:asr->Bool}{g:Addr->Option Obj}{s:Shared}(h:∀a,g a=s.heap.get? a):ac1 as fa fn tb ex g=(acq as fa fn tb ex).obs s:=by
 rw[show g=s.heap.get? from funext h]
 rfl
def Lj(K:asr)(ft:Ft):Bool:=ft.all fun p=>(He.Fa.cls p.1).ok K&&p.2.all fun f=>(He.Fa.noat p.1 f).ok K
def xmB(K:asr)(xm:List (Str×List (Str×Bool))):Bool:=xm.all fun p=>p.2.all fun q=>(He.Fa.exm q.1 p.1 q.2).ok K
def ajN(K:asr)(C:Addr):Bool:=(match K.lookup C with
 |some ⟨.type t,_,.cls cd,sl⟩=>decide (t="type")&&(match cd.mro,sl.toList with
  |.ref C'::bm,[_,_,_,_,some (.builtin n),_]=>decide (C'=C)&&(decide (n="ValueError.__new__")&&(!cd.hasDel&&(cd.hasDict&&PySem.HandSPX.refsVE bm)))
  |_,_=>false)
 |_=>false)&&(He.eqO (PySem.W.findIn K (.ref C) "__setattr__") (some (some (.builtin "object.__setattr__")))&&(decide (PySem.W.subIn K (.ref C) (.type "BaseException")=some true)&&(decide (PySem.W.typeIn K (.ref C)=some (.type "type"))&&PySem.W.keepIn K (.ref C))))
def UJ(K:asr)(x:Str)(fs:List Str):Bool:=ajN K (He.ga K x)&&(He.eqO (PySem.W.findIn K (.ref (He.ga K x)) "__init__") (some (some (.ref (He.ma K (He.ga K x) "__init__"))))&&(decide (PySem.W.typeIn K (.ref (He.ma K (He.ga K x) "__init__"))=some (.type "function"))&&(xfB K (He.ga K x)&&fs.all fun f=>He.eqO (PySem.W.findIn K (.ref (He.ga K x)) f) (some none))))
def Ye(K:asr)(a:Addr)(xs:List Str):Bool:=match K.lookup a with
 |some ⟨.type c,_,.seq its _,_⟩=>decide (c="tuple")&&(decide (its.size<=sizeLine)&&He.relAll (xs.map V.str) its.toList)
 |_=>false
def agw(K:asr)(x:Str)(kvs:List (Str×List Str)):Bool:=(match K.lookup (He.ga K x) with
 |some ⟨_,_,.dict es _,_⟩=>es.toList.all (fun e=>(match e.key with
   |.str y _=>(kvs.map (·.1)).contains y
   |_=>false)&&!e.refKey)
 |_=>false)&&(decide ((kvs.map (·.1)).Nodup)&&kvs.all fun q=>match PySem.W.nsIn K (He.ga K x) q.1 with
  |some (some (.ref a))=>Ye K a q.2
  |_=>false)
section
open PySem.W PySem.Calls
noncomputable abbrev alp (r:PySem.W.OpenRow) (M:Nat) (w:World) (os:PySem.OsState):Option PySem.W.SharedT:=endF (stepQ (denQ tabQ) r.prog w) M r.prog w os
def agf(r:PySem.W.OpenRow)(q:Program)(as:List Addr)(ex:asr->Bool)(M:Nat)(loose:List Str)(w:World):Prop:=∀os,(alp r M w os).map (fun s=>(looksF r.prog (boot_heap w.params) s.abs,HandSHeadRun.seenQ q loose (importedModules r.prog.main.body) (fun s=>PySem.W.xlAt q [] s&&PySem.W.recOk r.toRowW.records s) s.abs,ex (He.frG (getT s) as)))=some (true,PySem.W.openGood q loose,true)
def afC(r:PySem.W.OpenRow)(as:List Addr)(fa:List He.Fa)(fn:List He.DefD)(tb:List He.Tab)(M:Nat)(w:World):Prop:=∀os,(alp r M w os).map (fun s=>He.obsT fa fn tb (He.frG (getT s) as))=some (He.valT fn tb w)
theorem Wi{r:PySem.W.OpenRow}{q:Program}{as:List Addr}{fa:List He.Fa}{fn:List He.DefD}{i:List He.Tab}{e:asr->Bool}{M:Nat}{b:List Str}{w:World}(a:agf r q as e M b w)(c:afC r as [] fn i M w)(z:afC r as fa [] [] M w):RunEq r q (acq as fa fn i e) (λs=>ac1 as fa fn i e (getT s)) M b w:=λos=>by
 obtain⟨s,j,f⟩:=Option.map_eq_some_iff.mp (a os);obtain⟨f,g⟩:=Prod.mk.inj f;obtain⟨g,k⟩:=Prod.mk.inj g;have d:=c os;have l:=z os;have h:endF (stepQ (denQ tabQ) r.prog w) M r.prog w os=some s:=j;rw[j,Option.map_some]at d l;have l:=(He.ba (Prod.mk.inj (Prod.mk.inj (Option.some.inj l)).1).1).1
 have o:He.obsT fa fn i (He.frG (getT s) as)=He.valT fn i w:=by
  show ((fa.all (λf=>f.ok _)&&_,_),_)=_
  rw[l];exact Option.some.inj d
 rw[h,Option.map_some];exact congrArg some (Prod.ext f (Prod.ext g (Prod.ext o k)))
end
end Rf
namespace Pr
open PySem PySem.Spec PyProof.Rows L2 Evl Rf
def cU:Dat:=.int 9
def jg:Dat:=.int 1
def kW:Dat:=.int 3
def gW:Dat:=.int 9
def iY:Dat:=.tuple [.str "lt",.str "lf",.str "lh",.str "rt",.str "rf",.str "rh"]
def jw:Dat:=.tuple [.int 0,.int 0,.int 0,.int 0,.int 0,.int 0]
def oY:Dat:=.int 999999999
def zu:List (Str×List Str):=[("owner",[]),("ground",["number"]),("enrol",["number","number","ear"]),("leave",["number","number"]),("bring",["number","number","ear"]),("bear",["number"]),("cut",["number"]),("tear",["number","place"]),("sell",["number","number"]),("move",["number","number"]),("die",["number"]),("unite",["number","number"]),("part",["number"]),("pass",["number","number"]),("heir",["number","number","number"])]
def j8:Ft:=[("Beast",["story","mother","owner","ground","due","ear","alive"]),("Herd",["beasts"]),("Grounds",["allowances","circles"]),("Rights",["held"]),("Commons",["owner_count","holders","grounds","rights","herd"])]
def pN:List (Str×Bool):=[("NoGround",true),("NoOwner",true),("NoRight",true),("HasRight",true),("NoneFree",true),("BadExtra",true),("BadAllowance",true),("Clash",true),("BadEar",true),("Bare",true),("StillThere",true),("NoBeast",true),("Dead",true),("Unmarked",true),("Deepest",true),("NoPlace",true),("SameOwner",true),("SameGround",true),("Together",true),("Alone",true),("BadDeed",true)]
def BZ:List (Str×Bool):=[("NoGround",false),("NoOwner",false),("NoRight",false),("HasRight",false),("NoneFree",false),("BadExtra",false),("BadAllowance",false),("Clash",false),("BadEar",false),("Bare",false),("StillThere",false),("NoBeast",true),("Dead",false),("Unmarked",false),("Deepest",false),("NoPlace",false),("SameOwner",false),("SameGround",false),("Together",false),("Alone",false),("BadDeed",false)]
def Nk:List (Str×Bool):=[("NoGround",false),("NoOwner",false),("NoRight",false),("HasRight",false),("NoneFree",false),("BadExtra",false),("BadAllowance",false),("Clash",false),("BadEar",false),("Bare",false),("StillThere",false),("NoBeast",false),("Dead",true),("Unmarked",false),("Deepest",false),("NoPlace",false),("SameOwner",false),("SameGround",false),("Together",false),("Alone",false),("BadDeed",false)]
def zV:List (Str×Bool):=[("NoGround",false),("NoOwner",false),("NoRight",false),("HasRight",false),("NoneFree",false),("BadExtra",false),("BadAllowance",false),("Clash",false),("BadEar",false),("Bare",false),("StillThere",false),("NoBeast",false),("Dead",false),("Unmarked",true),("Deepest",false),("NoPlace",false),("SameOwner",false),("SameGround",false),("Together",false),("Alone",false),("BadDeed",false)]
def zY:List (Str×Bool):=[("NoGround",true),("NoOwner",false),("NoRight",false),("HasRight",false),("NoneFree",false),("BadExtra",false),("BadAllowance",false),("Clash",false),("BadEar",false),("Bare",false),("StillThere",false),("NoBeast",false),("Dead",false),("Unmarked",false),("Deepest",false),("NoPlace",false),("SameOwner",false),("SameGround",false),("Together",false),("Alone",false),("BadDeed",false)]
def v9:List (Str×Bool):=[("NoGround",false),("NoOwner",false),("NoRight",false),("HasRight",false),("NoneFree",false),("BadExtra",false),("BadAllowance",false),("Clash",false),("BadEar",false),("Bare",false),("StillThere",false),("NoBeast",false),("Dead",false),("Unmarked",false),("Deepest",false),("NoPlace",false),("SameOwner",false),("SameGround",true),("Together",false),("Alone",false),("BadDeed",false)]
def Cr:List (Str×Bool):=[("NoGround",false),("NoOwner",false),("NoRight",true),("HasRight",false),("NoneFree",false),("BadExtra",false),("BadAllowance",false),("Clash",false),("BadEar",false),("Bare",false),("StillThere",false),("NoBeast",false),("Dead",false),("Unmarked",false),("Deepest",false),("NoPlace",false),("SameOwner",false),("SameGround",false),("Together",false),("Alone",false),("BadDeed",false)]
def QM:List (Str×Bool):=[("NoGround",false),("NoOwner",false),("NoRight",false),("HasRight",false),("NoneFree",false),("BadExtra",false),("BadAllowance",false),("Clash",true),("BadEar",false),("Bare",false),("StillThere",false),("NoBeast",false),("Dead",false),("Unmarked",false),("Deepest",false),("NoPlace",false),("SameOwner",false),("SameGround",false),("Together",false),("Alone",false),("BadDeed",false)]
def xmH:List (Str×List (Str×Bool)):=[("CommonError",pN),("NoBeast",BZ),("Dead",Nk),("Unmarked",zV),("NoGround",zY),("SameGround",v9),("NoRight",Cr),("Clash",QM)]
def dfH:List (Str×Bool):=[("held",true),("holders",false)]
def Xf:List (Str×List Str):=[("Clash",["ones","others","ear"])]
def aX(i:Nat):Stmt:=PySem.Challenge.pw_earmarks_k39_moved.main.body.getD i (.Pass ⟨0,0,0,0⟩)
abbrev Gq:Stmt:=inClass (aX 50) 0
abbrev JZ:Stmt:=inClass (aX 55) 0
abbrev O2:Stmt:=inClass (aX 35) 0
abbrev HD:Stmt:=inClass (aX 66) 0
abbrev JL:Stmt:=inClass (aX 34) 2
abbrev K9:Stmt:=inClass (aX 34) 4
abbrev Dy:Stmt:=inClass (aX 66) 17
abbrev BX:Stmt:=inClass (aX 55) 1
abbrev Hh:Stmt:=inClass (aX 50) 3
abbrev JR:Stmt:=inClass (aX 50) 2
abbrev Ik:Stmt:=inClass (aX 50) 4
abbrev yG:Stmt:=inClass (aX 50) 5
abbrev Ar:Stmt:=inClass (aX 50) 6
abbrev Ae:Stmt:=inClass (aX 66) 19
abbrev HJ:Stmt:=inClass (aX 66) 32
abbrev s_row:Stmt:=aX 82
abbrev ZM:Stmt:=aX 83
abbrev agW:Stmt:=aX 84
abbrev OD:Stmt:=aX 85
abbrev W7:Stmt:=aX 86
abbrev yc:Stmt:=inClass (aX 66) 33
abbrev GZ:Stmt:=inClass (aX 55) 3
abbrev Ao:Stmt:=inClass (aX 55) 4
abbrev xg:Stmt:=inClass (aX 66) 34
abbrev yD:Stmt:=inClass (aX 66) 1
abbrev Ay:Stmt:=inClass (aX 55) 2
abbrev adH:Stmt:=aX 47
abbrev abl:Stmt:=aX 44
abbrev Ou:Stmt:=aX 52
abbrev abJ:Stmt:=aX 45
abbrev adD:Stmt:=aX 46
abbrev Kz:Stmt:=aX 53
abbrev yh:Stmt:=inClass (aX 66) 35
abbrev Z4:Stmt:=aX 57
abbrev BK:Stmt:=inClass (aX 35) 5
abbrev Hj:Stmt:=inClass (aX 35) 6
abbrev yC:Stmt:=inClass (aX 55) 7
abbrev vA:Stmt:=inClass (aX 66) 22
abbrev Aj:Stmt:=inClass (aX 66) 21
abbrev Il:Stmt:=inClass (aX 50) 7
abbrev HF:Stmt:=inClass (aX 66) 18
abbrev Ab:Stmt:=inClass (aX 66) 15
abbrev xY:Stmt:=inClass (aX 50) 1
abbrev yw:Stmt:=inClass (aX 66) 2
abbrev V7:Stmt:=aX 58
abbrev ab8:Stmt:=aX 43
abbrev QZ:Stmt:=aX 59
abbrev wZ:Stmt:=inClass (aX 66) 36
abbrev Yx:Stmt:=aX 28
abbrev TX:Stmt:=aX 65
abbrev Eb:Stmt:=inClass (aX 66) 3
abbrev JN:Stmt:=inClass (aX 55) 5
abbrev Ef:Stmt:=inClass (aX 66) 4
abbrev Dg:Stmt:=inClass (aX 34) 1
abbrev abA:Stmt:=aX 30
abbrev Le:Stmt:=inClass (aX 34) 0
abbrev DQ:Stmt:=inClass (aX 35) 1
abbrev Fq:Stmt:=inClass (aX 66) 5
abbrev M6:Stmt:=inClass (aX 35) 2
abbrev JX:Stmt:=inClass (aX 35) 3
abbrev J8:Stmt:=inClass (aX 35) 4
abbrev Ih:Stmt:=inClass (aX 66) 6
abbrev Rp:Stmt:=aX 32
abbrev V5:Stmt:=aX 31
abbrev Gm:Stmt:=inClass (aX 34) 3
abbrev J9:Stmt:=inClass (aX 66) 7
abbrev Gp:Stmt:=inClass (aX 66) 8
abbrev J5:Stmt:=inClass (aX 35) 8
abbrev Ah:Stmt:=inClass (aX 35) 9
abbrev GX:Stmt:=inClass (aX 66) 9
abbrev HS:Stmt:=inClass (aX 66) 10
abbrev JQ:Stmt:=inClass (aX 66) 11
abbrev R5:Stmt:=aX 60
abbrev Ad:Stmt:=inClass (aX 66) 24
abbrev BR:Stmt:=inClass (aX 50) 10
abbrev Fe:Stmt:=inClass (aX 50) 8
abbrev Et:Stmt:=inClass (aX 66) 12
abbrev Ig:Stmt:=inClass (aX 50) 9
abbrev Hr:Stmt:=inClass (aX 66) 13
abbrev Bf:Stmt:=inClass (aX 55) 6
abbrev Mr:Stmt:=inClass (aX 35) 7
abbrev BL:Stmt:=inClass (aX 66) 14
abbrev Ow:Stmt:=aX 40
abbrev aeC:Stmt:=aX 39
abbrev MK:Stmt:=inClass (aX 66) 16
abbrev aeS:Stmt:=aX 87
abbrev adp:Stmt:=aX 88
abbrev Wu:Stmt:=aX 89
abbrev agV:Stmt:=aX 90
abbrev aeN:Stmt:=aX 91
abbrev ae8:Stmt:=aX 92
abbrev ae7:Stmt:=aX 81
abbrev abZ:Stmt:=aX 93
abbrev Q6:Stmt:=aX 68
abbrev aeL:Stmt:=aX 71
abbrev Xa:Stmt:=aX 72
abbrev abd:Stmt:=aX 73
abbrev aha:Stmt:=aX 74
abbrev Oq:Stmt:=aX 75
abbrev Wm:Stmt:=aX 76
abbrev ahl:Stmt:=aX 77
abbrev abh:Stmt:=aX 78
abbrev Yp:Stmt:=aX 79
abbrev Yv:Stmt:=aX 80
abbrev Hf:Stmt:=aX 69
abbrev RB:Stmt:=aX 70
abbrev ag6:Stmt:=aX 98
abbrev aek:Stmt:=aX 99
abbrev ahj:Stmt:=aX 94
abbrev ahh:Stmt:=aX 95
abbrev abS:Stmt:=aX 96
abbrev S7:Stmt:=aX 97
abbrev Nr:Stmt:=aX 100
abbrev Kw:Stmt:=inClass (aX 23) 0
abbrev dM(c m q:Str)(s:Stmt):He.DefD:=⟨(c,some m),m,q,defArgs s,defBody s,defScope s,[],[]⟩
abbrev dF(x:Str)(s:Stmt):He.DefD:=⟨(x,none),x,x,defArgs s,defBody s,defScope s,[],[]⟩
def xsH:List Str:=["Grounds","Rights","Herd","Commons","Beast","NoGround","NoOwner","NoRight","HasRight","NoneFree","BadExtra","BadAllowance","Clash","BadEar","Bare","StillThere","NoBeast","Dead","Unmarked","Deepest","NoPlace","SameOwner","SameGround","Together","Alone","BadDeed","CommonError"]
def tbs:List He.Tab:=[(fun K=>He.ga K "SHAPES",["owner","ground","enrol","leave","bring","bear","cut","tear","sell","move","die","unite","part","pass","heir"])]
def nm0:List PySem.Str:=["_wall","CommonError","BadEar","Bare","BadAllowance","BadExtra","NoPlace","Deepest","NoOwner","NoGround","NoBeast","NoRight"]
def nm1:List PySem.Str:=["HasRight","StillThere","Dead","Unmarked","SameOwner","SameGround","Together","Alone","NoneFree","BadDeed","Clash","PLACES"]
def nm2:List PySem.Str:=["GREATEST_DEPTH","BARE_EAR","is_ear","begun","gone_on","deepened","Beast","Herd","SHAPES","GREATEST_PART","fits","part_fits"]
def nm3:List PySem.Str:=["deeper","joint","lacks","apart","meet","torn","GREATEST_ALLOWANCE","Grounds","offspring","first_free","Rights","tidied"]
def nm4:List PySem.Str:=["barring","ask_room","clashing","owners_of","FEWEST_EXTRA","MOST_EXTRA","need_ear","Commons","_law_herd_bad","_law_ground_there","_law_marks_of","_law_once"]
def nm5:List PySem.Str:=["_law_rows_of","_law_tears","_law_far","_law_least_bar","_law_room_of","_law_top","_law_clash","_law_befell","_law_follow","_law_cell","_law_row","_law_ear_by"]
def nm6:List PySem.Str:=["_law_ear","_law_begun","_law_word_by","_law_done","_law_near","_law_mark_by","_law_ref","_law_deed","_law_play","_law_asked","_law_cut","_law_raw"]
def nm7:List PySem.Str:=["_law_whole","_law_like","_law_due","_law_tell"]
def nm:List PySem.Str:=nm0++nm1++nm2++nm3++nm4++nm5++nm6++nm7
def fa0:List He.Fa:=[.mkr "Grounds",.mkr "Rights",.mkr "Herd",.mkr "Commons",.meth "Beast" "stand",.meth "Beast" "told",.meth "Commons" "owners",.meth "Rights" "all_rows",.meth "Grounds" "many",.meth "Grounds" "has",.meth "Grounds" "need",.meth "Grounds" "allowance"]
def fa1:List He.Fa:=[.meth "Grounds" "together",.meth "Commons" "together",.meth "Commons" "look",.glo "_law_row",.glo "_law_ear_by",.glo "_law_ear",.glo "_law_begun",.glo "_law_word_by",.meth "Commons" "need_owner",.meth "Rights" "marks",.meth "Rights" "has_right",.meth "Commons" "need_right"]
def fa2:List He.Fa:=[.meth "Commons" "new_owner",.meth "Rights" "add_right",.glo "torn",.glo "lacks",.glo "offspring",.glo "apart",.glo "meet",.glo "first_free",.meth "Commons" "first_mark",.glo "tidied",.meth "Herd" "all_living",.meth "Herd" "grazing"]
def fa3:List He.Fa:=[.meth "Rights" "in_grounds",.meth "Commons" "standing_but",.meth "Commons" "standing",.meth "Grounds" "room",.meth "Commons" "room",.meth "Commons" "new_heir",.meth "Grounds" "add_ground",.meth "Commons" "new_ground",.glo "barring",.glo "joint",.glo "ask_room",.meth "Commons" "ask_ground"]
def fa4:List He.Fa:=[.glo "is_ear",.glo "need_ear",.meth "Commons" "enrol",.meth "Rights" "drop",.meth "Commons" "leave",.meth "Beast" "stand_so",.glo "begun",.mkr "Beast",.meth "Herd" "add_beast",.meth "Commons" "bring",.meth "Herd" "known",.meth "Herd" "living"]
def fa5:List He.Fa:=[.meth "Herd" "marked",.meth "Commons" "bear",.glo "deepened",.glo "gone_on",.meth "Beast" "befall",.meth "Commons" "cut",.meth "Commons" "tear",.meth "Herd" "calves",.meth "Herd" "lead_calves",.meth "Commons" "sell",.meth "Commons" "move",.meth "Commons" "die"]
def fa6:List He.Fa:=[.glo "clashing",.meth "Commons" "quarrels",.meth "Grounds" "enclose",.meth "Grounds" "unite",.meth "Commons" "unite",.meth "Grounds" "part",.meth "Commons" "part",.meth "Rights" "hand_over",.meth "Herd" "owned",.meth "Commons" "pass_on",.glo "part_fits",.glo "fits"]
def fa7:List He.Fa:=[.meth "Commons" "do",.glo "_law_done",.glo "_law_near",.glo "_law_mark_by",.glo "_law_ref",.glo "_law_deed",.glo "_law_play",.glo "_law_cell",.glo "_law_asked",.glo "_law_herd_bad",.glo "_law_once",.glo "_law_rows_of"]
def fa8:List He.Fa:=[.glo "_law_tears",.glo "_law_far",.glo "_law_least_bar",.glo "_law_room_of",.glo "_law_top",.glo "_law_clash",.glo "_law_befell",.glo "_law_follow",.glo "_law_ground_there",.glo "_law_marks_of",.glo "_law_due",.glo "_law_tell"]
def fa9:List He.Fa:=[.glo "_law_cut",.glo "_law_raw",.glo "_law_whole",.glo "_law_like",.glo "law",.glo "Grounds",.glo "Rights",.glo "Herd",.glo "Commons",.glo "Beast",.glo "NoGround",.exc "NoGround"]
def anZ:List He.Fa:=[.glo "NoOwner",.exc "NoOwner",.glo "NoRight",.exc "NoRight",.glo "HasRight",.exc "HasRight",.glo "NoneFree",.exc "NoneFree",.glo "BadExtra",.exc "BadExtra",.glo "BadAllowance",.exc "BadAllowance"]
def an9:List He.Fa:=[.glo "Clash",.glo "BadEar",.exc "BadEar",.glo "Bare",.exc "Bare",.glo "StillThere",.exc "StillThere",.glo "NoBeast",.exc "NoBeast",.glo "Dead",.exc "Dead",.glo "Unmarked"]
def anQ:List He.Fa:=[.exc "Unmarked",.glo "Deepest",.exc "Deepest",.glo "NoPlace",.exc "NoPlace",.glo "SameOwner",.exc "SameOwner",.glo "SameGround",.exc "SameGround",.glo "Together",.exc "Together",.glo "Alone"]
def an7:List He.Fa:=[.exc "Alone",.glo "BadDeed",.exc "BadDeed",.glo "CommonError",.exc "CommonError",.glo "SHAPES",.int "GREATEST_DEPTH" 9,.int "FEWEST_EXTRA" 1,.int "MOST_EXTRA" 3,.int "GREATEST_ALLOWANCE" 9,.glo "PLACES",.glo "BARE_EAR"]
def aoD:List He.Fa:=[.int "GREATEST_PART" 999999999,.free "tuple",.free "list",.free "len",.free "range",.free "abs",.free "max",.free "min",.free "sum",.free "zip",.free "any",.free "sorted"]
def aot:List He.Fa:=[.free "set",.free "enumerate",.free "all",.free "isinstance",.free "int",.free "bool",.free "str"]
def fa:List He.Fa:=fa0++fa1++fa2++fa3++fa4++fa5++fa6++fa7++fa8++fa9++anZ++an9++anQ++an7++aoD++aot
def fn0:List He.DefD:=[dM "Grounds" "__init__" "Grounds.__init__" Gq,dM "Rights" "__init__" "Rights.__init__" JZ,dM "Herd" "__init__" "Herd.__init__" O2,dM "Commons" "__init__" "Commons.__init__" HD,dM "Beast" "stand" "Beast.stand" JL,dM "Beast" "told" "Beast.told" K9,dM "Commons" "owners" "Commons.owners" Dy,dM "Rights" "all_rows" "Rights.all_rows" BX,dM "Grounds" "many" "Grounds.many" Hh,dM "Grounds" "has" "Grounds.has" JR,dM "Grounds" "need" "Grounds.need" Ik,dM "Grounds" "allowance" "Grounds.allowance" yG]
def fn1:List He.DefD:=[dM "Grounds" "together" "Grounds.together" Ar,dM "Commons" "together" "Commons.together" Ae,dM "Commons" "look" "Commons.look" HJ,dF "_law_row" s_row,dF "_law_ear_by" ZM,dF "_law_ear" agW,dF "_law_begun" OD,dF "_law_word_by" W7,dM "Commons" "need_owner" "Commons.need_owner" yc,dM "Rights" "marks" "Rights.marks" GZ,dM "Rights" "has_right" "Rights.has_right" Ao,dM "Commons" "need_right" "Commons.need_right" xg]
def fn2:List He.DefD:=[dM "Commons" "new_owner" "Commons.new_owner" yD,dM "Rights" "add_right" "Rights.add_right" Ay,dF "torn" adH,dF "lacks" abl,dF "offspring" Ou,dF "apart" abJ,dF "meet" adD,dF "first_free" Kz,dM "Commons" "first_mark" "Commons.first_mark" yh,dF "tidied" Z4,dM "Herd" "all_living" "Herd.all_living" BK,dM "Herd" "grazing" "Herd.grazing" Hj]
def fn3:List He.DefD:=[dM "Rights" "in_grounds" "Rights.in_grounds" yC,dM "Commons" "standing_but" "Commons.standing_but" vA,dM "Commons" "standing" "Commons.standing" Aj,dM "Grounds" "room" "Grounds.room" Il,dM "Commons" "room" "Commons.room" HF,dM "Commons" "new_heir" "Commons.new_heir" Ab,dM "Grounds" "add_ground" "Grounds.add_ground" xY,dM "Commons" "new_ground" "Commons.new_ground" yw,dF "barring" V7,dF "joint" ab8,dF "ask_room" QZ,dM "Commons" "ask_ground" "Commons.ask_ground" wZ]
def fn4:List He.DefD:=[dF "is_ear" Yx,dF "need_ear" TX,dM "Commons" "enrol" "Commons.enrol" Eb,dM "Rights" "drop" "Rights.drop" JN,dM "Commons" "leave" "Commons.leave" Ef,dM "Beast" "stand_so" "Beast.stand_so" Dg,dF "begun" abA,dM "Beast" "__init__" "Beast.__init__" Le,dM "Herd" "add_beast" "Herd.add_beast" DQ,dM "Commons" "bring" "Commons.bring" Fq,dM "Herd" "known" "Herd.known" M6,dM "Herd" "living" "Herd.living" JX]
def fn5:List He.DefD:=[dM "Herd" "marked" "Herd.marked" J8,dM "Commons" "bear" "Commons.bear" Ih,dF "deepened" Rp,dF "gone_on" V5,dM "Beast" "befall" "Beast.befall" Gm,dM "Commons" "cut" "Commons.cut" J9,dM "Commons" "tear" "Commons.tear" Gp,dM "Herd" "calves" "Herd.calves" J5,dM "Herd" "lead_calves" "Herd.lead_calves" Ah,dM "Commons" "sell" "Commons.sell" GX,dM "Commons" "move" "Commons.move" HS,dM "Commons" "die" "Commons.die" JQ]
def fn6:List He.DefD:=[dF "clashing" R5,dM "Commons" "quarrels" "Commons.quarrels" Ad,dM "Grounds" "enclose" "Grounds.enclose" BR,dM "Grounds" "unite" "Grounds.unite" Fe,dM "Commons" "unite" "Commons.unite" Et,dM "Grounds" "part" "Grounds.part" Ig,dM "Commons" "part" "Commons.part" Hr,dM "Rights" "hand_over" "Rights.hand_over" Bf,dM "Herd" "owned" "Herd.owned" Mr,dM "Commons" "pass_on" "Commons.pass_on" BL,dF "part_fits" Ow,dF "fits" aeC]
def fn7:List He.DefD:=[dM "Commons" "do" "Commons.do" MK,dF "_law_done" aeS,dF "_law_near" adp,dF "_law_mark_by" Wu,dF "_law_ref" agV,dF "_law_deed" aeN,dF "_law_play" ae8,dF "_law_cell" ae7,dF "_law_asked" abZ,dF "_law_herd_bad" Q6,dF "_law_once" aeL,dF "_law_rows_of" Xa]
def fn8:List He.DefD:=[dF "_law_tears" abd,dF "_law_far" aha,dF "_law_least_bar" Oq,dF "_law_room_of" Wm,dF "_law_top" ahl,dF "_law_clash" abh,dF "_law_befell" Yp,dF "_law_follow" Yv,dF "_law_ground_there" Hf,dF "_law_marks_of" RB,dF "_law_due" ag6,dF "_law_tell" aek]
def fn9:List He.DefD:=[dF "_law_cut" ahj,dF "_law_raw" ahh,dF "_law_whole" abS,dF "_law_like" S7,dF "law" Nr,dM "Clash" "__init__" "Clash.__init__" Kw]
def fn:List He.DefD:=fn0++fn1++fn2++fn3++fn4++fn5++fn6++fn7++fn8++fn9
def exB(K:asr):Bool:=true&&Lj K j8&&xmB K xmH&&(Xf.all fun p=>xsH.contains p.1&&UJ K p.1 p.2)&&agw K "SHAPES" zu&&He.tupB K "PLACES" [.str "lt",.str "lf",.str "lh",.str "rt",.str "rf",.str "rh"]&&He.tupB K "BARE_EAR" [.int 0,.int 0,.int 0,.int 0,.int 0,.int 0]
def ad0:List Addr:=[3,31,44,56,68,80,92,104,116,128,140,152,164,176,188,200,212,224,236,248,260,272,291,294]
def ad1:List Addr:=[295,300,307,314,319,364,447,452,472,479,484,489,494,501,508,513,596,605,610,670,681,686,693,698]
def ad2:List Addr:=[703,710,969,980,987,992,999,1004,1009,1016,1023,1028,1033,1040,1047,1054,1061,1068,1073,1080,1087,1094,1101,1108]
def ad3:List Addr:=[1115,1122,1129,1136,1143,1150,1157,1164,1171,1178,1185,1192,30,43,55,67,79,91,103,115,127,139,151,163]
def ad4:List Addr:=[175,187,199,211,223,235,247,259,271,290,299,306,313,318,363,446,453,454,455,456,457,458,459,460]
def ad5:List Addr:=[461,462,463,464,465,466,467,471,478,483,488,493,500,507,512,595,604,609,669,680,685,692,697,702]
def ad6:List Addr:=[709,968,979,986,991,998,1003,1008,1015,1022,1027,1032,1039,1046,1053,1060,1067,1072,1079,1086,1093,1100,1107,1114]
def ad7:List Addr:=[1121,1128,1135,1142,1149,1156,1163,1170,1177,1184,1191,29,32,42,54,66,78,90,102,114,126,138,150,162]
def ad8:List Addr:=[174,186,198,210,222,234,246,258,270,288,289,333,340,347,354,361,362,365,366,382,389,396,403,410]
def ad9:List Addr:=[415,420,425,430,437,444,445,448,449,527,534,541,548,555,562,569,574,581,586,593,594,597,598,624]
def aoy:List Addr:=[631,638,643,650,657,662,667,668,671,672,724,731,738,745,750,757,764,771,778,785,792,799,806,813]
def aoz:List Addr:=[818,825,832,839,846,853,860,867,872,879,886,893,900,907,914,919,926,933,938,945,952,959,966,967]
def aoF:List Addr:=[970,971,287,332,339,346,353,360,381,388,395,402,409,414,419,424,429,436,443,526,533,540,547,554]
def aoA:List Addr:=[561,568,573,580,585,592,623,630,637,642,649,656,661,666,723,730,737,744,749,756,763,770,777,784]
def aok:List Addr:=[791,798,805,812,817,824,831,838,845,852,859,866,871,878,885,892,899,906,913,918,925,932,937,944]
def aog:List Addr:=[951,958,965]
def ad:List Addr:=ad0++ad1++ad2++ad3++ad4++ad5++ad6++ad7++ad8++ad9++aoy++aoz++aoF++aoA++aok++aog
abbrev R:PySem.W.OpenRow:=PySem.W.OpenLaw.row PySem.Challenge.rw_earmarks_k39_moved
abbrev hkE:PySem.W.Hook:=acq ad fa fn tbs exB
def obE(s:PySem.W.SharedT):He.AlX:=ac1 ad fa fn tbs exB (HandSHeadRun.getT s)
theorem akc(s:PySem.W.SharedT):obE s=hkE.obs s.abs:=ajc (HandSHeadRun.getT_eq s)
abbrev wR(w:World)(b:Bool):World:=w.withFollow "special-get-raises" b
theorem am6(w:World):agf R (PySem.W.view R.prog [100]) ad exB 40000 nm (wR w false):=λos=>by kernel_rfl
theorem anh(w:World):afC R ad [] fn tbs 40000 (wR w false):=λos=>by kernel_rfl
theorem zzf(w:World):afC R ad fa [] [] 40000 (wR w false):=λos=>by kernel_rfl
theorem runAt(w:World):agf R (PySem.W.view R.prog [100]) ad exB 40000 nm (wR w true):=λos=>by kernel_rfl
theorem anr(w:World):afC R ad [] fn tbs 40000 (wR w true):=λos=>by kernel_rfl
theorem zzt(w:World):afC R ad fa [] [] 40000 (wR w true):=λos=>by kernel_rfl
theorem run(w:World):HandSHeadRun.RunEq R (PySem.W.view R.prog [100]) hkE obE 40000 nm w:=PySem.W.byRow2 "special-get-raises" (P:=fun w=>HandSHeadRun.RunEq R (PySem.W.view R.prog [100]) hkE obE 40000 nm w) (fun w=>Wi (am6 w) (anh w) (zzf w)) (fun w=>Wi (runAt w) (anr w) (zzt w)) w
end Pr
namespace Ear
open PySem PySem.Spec PyProof.Rows L2 Evl RZ
section
variable{X:Cx}{C:Addr}{bmB:List Value}{B newId initId:String}
theorem afY{x:Str}{p pos:Pos}(F:ExcBaseFacts B newId initId bmB)(q:PySem.W.excIn X.K C bmB newId=true)(gC:X.mg x=some (.ref C))(kC:PySem.W.keepIn X.K (.ref C)=true)(r:Raises X (.ref C))(hg:Gl X x)
  (hn:(x==("__debug__" : Str))=false:=by decide):PMk X (.Call (.Name x p) [] [] pos) (fun _ H Q=>Q (.ref C) none H):=by
 intro pins s σ H Q I h
 refine wpAny_Call_Name_kw (ld_glob I hg gC ?_ hn)
 refine PySem.W.callWith_K0 I.kIn kC ?_
 show wpAny _ _ (call (.ref C) []) _ _ _
 obtain⟨bm,N,nm,qn,bs,hdct,sn,sub,ab,col,dd,k0,k1,k2,k3,k5,mN,hC,hN,hni,T⟩:=exc_obj I.kIn q
 refine wpAny_call_exc_subT F T hC hN hni (fun h' e hm=>?_) (ath _)
 exact mk_of I hm r h (I.hok.gone hm.new)
end
theorem exm_one{K:asr}{S:Addr}(h1:PySem.W.subIn K (.ref S) (.type "BaseException")=some true)(h2:PySem.W.isClsIn K S=true)(h3:PySem.W.typeIn K (.ref S)=some (.type "type"))(h4:PySem.W.subIn K (.ref S) (.ref S)=some true) :
  PySem.W.exmOne K (.ref S) (.ref S)=some true:=by
 have e1:(PySem.W.subIn K (.ref S) (.type "BaseException")==some true)=true:=by rw[h1] <;> rfl
 have e2:((PySem.W.clsIn K S).isSome&&PySem.W.typeIn K (.ref S)==some (.type "type"))=true:=by
  rw[h3,asu]
  exact⟨h2,rfl⟩
 show(if (PySem.W.subIn K (.ref S) (.type "BaseException")==some true)=true then(if ((PySem.W.clsIn K S).isSome&&PySem.W.typeIn K (.ref S)==some (.type "type"))=true then PySem.W.subIn K (.ref S) (.ref S) else none) else none)=some true
 rw[if_pos e1,if_pos e2]
 exact h4
def aor(xs:List Int):Prop:=xs.length=6/\∀x∈xs,0<=x/\x<=9
section
variable{K:asr}{σ:L2.St}{H:Hp}{te tl:TE}{tt:TT}{vs:List Nat}
def EvS(te:TE)(σ:L2.St)(H:Hp)(P:V->Hp->Prop):Prop:=∀H1,Ex H H1->∀Q:VK,(∀v H2,Ex H1 H2->P v H2->Q v H2)->te σ H1 Q
end
section
variable{K:asr}{σ:L2.St}{H H':Hp}{te ta tb:TE}{t:TT}{P R:V->Hp->Prop}{v:V}
theorem EvS.mono(e:Ex H H')(h:EvS te σ H P):EvS te σ H' P:=fun H1 a Q q=>h H1 (e.trans a) Q q
theorem EvS.imp(h:EvS te σ H P)(k:∀v H',P v H'->R v H'):EvS te σ H R:=fun H1 e Q q=>h H1 e Q fun v H2 e2 p=>q v H2 e2 (k v H2 p)
end
end Ear
namespace Ear
open PySem PySem.Spec PyProof.Rows L2 Evl RZ
def fD{α:Type}(R:V->α->Prop)(ws:List V)(L:List α):Prop:=ws.length=L.length/\∀(i:Nat) (v:V) (x:α),ws[i]?=some v->L[i]?=some x->R v x
theorem fD.imp{α:Type}{R S:V->α->Prop}{ws:List V}{L:List α}(h:fD R ws L)(k:∀v x,R v x->S v x):fD S ws L:=⟨h.1,fun i v x a b=>k v x (h.2 i v x a b)⟩
theorem fD.nil{α:Type}{R:V->α->Prop}:fD R [] []:=⟨rfl,fun i v x a _=>by simp at a⟩
theorem fD.snoc{α:Type}{R:V->α->Prop}{ws:List V}{L:List α}{v:V}{x:α}(h:fD R ws L)(k:R v x):fD R (ws++[v]) (L++[x]):=by
 refine⟨by rw[atb,atb,h.1];rfl,fun i u y a b=>?_⟩
 by_cases hi:i < ws.length
 ·rw[asK hi]at a
  rw[asK (by rw[←h.1];exact hi)]at b
  exact h.2 i u y a b
 ·rw[asR (by omega)]at a
  rw[asR (by rw[←h.1];omega),←h.1]at b
  have hj:i - ws.length=0:=by
   have:=(asv.mp a).1
   simp only[asM,List.length_nil]at this
   omega
  rw[hj]at a b
  cases a
  cases b
  exact k
def Jj(H:Hp)(v:V)(l:List Int):Prop:=∃h:Addr,v=.ref h/\H h=some (.tup (l.map V.int))
theorem Jj.mono{H H':Hp}(e:Ex H H'){v:V}{l:List Int}(h:Jj H v l):Jj H' v l:=by
 obtain⟨a,e1,h1⟩:=h
 exact⟨a,e1,e _ _ h1⟩
theorem Jj.upd{H:Hp}{D:Addr}{acc:List V}{o:HO}(hD:H D=some (.lst acc)){v:V}{l:List Int}(h:Jj H v l):Jj (upd H D o) v l:=by
 obtain⟨a,e1,h1⟩:=h
 refine⟨a,e1,?_⟩
 rw[upd_ne (fun z=>by rw[z,hD]at h1;cases h1)]
 exact h1
abbrev Rw:Type:=Int×List Int
def Np(H:Hp)(v:V)(r:Rw):Prop:=∃t m:Addr,v=.ref t/\H t=some (.tup [.int r.1,.ref m])/\H m=some (.tup (r.2.map V.int))
theorem Np.mono{H H':Hp}(e:Ex H H'){v:V}{r:Rw}(h:Np H v r):Np H' v r:=by
 obtain⟨t,m,e1,h1,h2⟩:=h
 exact⟨t,m,e1,e _ _ h1,e _ _ h2⟩
theorem Np.upd{H:Hp}{D:Addr}{acc:List V}{o:HO}(hD:H D=some (.lst acc)){v:V}{r:Rw}(h:Np H v r):Np (upd H D o) v r:=by
 obtain⟨t,m,e1,h1,h2⟩:=h
 refine⟨t,m,e1,?_,?_⟩
 ·rw[upd_ne (fun z=>by rw[z,hD]at h1;cases h1)]
  exact h1
 ·rw[upd_ne (fun z=>by rw[z,hD]at h2;cases h2)]
  exact h2
def amP(r:Rw):Prop:=1<=r.1/\aor r.2
structure Tab(R:List Rw):Prop where
 len:R.length<=128
 ok:∀r∈R,amP r
 few:∃D:List Rw,D.length<=64/\∀r∈R,r∈D
theorem Tab.sub{R S:List Rw}(h:Tab R)(hs:∀r∈S,r∈R)(hl:S.length<=128):Tab S:=by
 obtain⟨D,d1,d2⟩:=h.few
 exact⟨hl,fun r hr=>h.ok r (hs r hr),D,d1,fun r hr=>d2 r (hs r hr)⟩
theorem fD.get{α:Type}{R:V->α->Prop}{ws:List V}{L:List α}(h:fD R ws L){i:Nat}{v:V}(g:ws[i]?=some v):∃x,L[i]?=some x/\R v x:=by
 have hi:=(asv.mp g).1
 have hi':i < L.length:=by
  rw[←h.1]
  exact hi
 exact⟨L[i],asw hi',h.2 i v _ g (asw hi')⟩
theorem fD.mem{α:Type}{R:V->α->Prop}{ws:List V}{L:List α}(h:fD R ws L){v:V}(m:v∈ws):∃x,x∈L/\R v x:=by
 obtain⟨i,hi,e⟩:=List.getElem_of_mem m
 obtain⟨x,g,r⟩:=h.get (asv.mpr ⟨hi,e⟩)
 exact⟨x,asC g,r⟩
theorem fD.take{α:Type}{R:V->α->Prop}{ws:List V}{L:List α}(h:fD R ws L)(n:Nat):fD R (ws.take n) (L.take n):=by
 refine⟨by rw[List.length_take,List.length_take,h.1],fun i v x a b=>?_⟩
 rw[List.getElem?_take]at a b
 by_cases c:i < n
 ·rw[if_pos c]at a b
  exact h.2 i v x a b
 ·rw[if_neg c]at a
  cases a
theorem fD.drop{α:Type}{R:V->α->Prop}{ws:List V}{L:List α}(h:fD R ws L)(n:Nat):fD R (ws.drop n) (L.drop n):=by
 refine⟨by rw[atV,atV,h.1],fun i v x a b=>?_⟩
 rw[List.getElem?_drop]at a b
 exact h.2 _ v x a b
section
variable{X:Cx}
def afB(xs:List V)(ds:List PyData)(x:V)(d:PyData):Prop:=∃i:Nat,xs[i]?=some x/\ds[i]?=some d
@[irreducible]def Iu (K:asr):List V->Hp->VK->Prop:=fun vs H Q=>∃(a:Addr) (xs:List V) (ds:List PyData),vs=[V.ref a]/\SqL K H a xs/\DpAll K H xs ds/\PySem.W.AllAlike ds/\PySem.W.Sortable ds/\(∀d∈ds,d.depth<=60)/\
 ∀(ys:List V) (p:Addr),fD (afB xs ds) ys (ds.mergeSort (PySem.W.dataLe false id))->H p=none->Q (.ref p) (upd H p (.lst ys))
theorem Zu:∀(xs:List V) (ds:List PyData) (its:List Value) (P:Value->PyData->Prop),Vals xs its->PySem.W.EachIs P its ds->
  PySem.W.EachIs (fun v d=>∃(i:Nat) (x:V),RelV x v/\xs[i]?=some x/\ds[i]?=some d) its ds
 |[],_,_,_,.nil,.nil=>.nil
 |_::_,[],_,_,.cons _ _,k=>nomatch k
 |x::xs,d::ds,u::us,P,.cons r t,.cons _ k=>.cons ⟨0,x,r,rfl,rfl⟩ ((Zu xs ds us P t k).mono fun v d ⟨i,y,a,b,c⟩=>⟨i+1,y,a,b,c⟩)
theorem Xb{xs:List V}{ds:List PyData}:∀(out:List Value) (L:List PyData),PySem.W.EachIs (fun v d=>∃(i:Nat) (x:V),RelV x v/\xs[i]?=some x/\ds[i]?=some d) out L->∃ys,Vals ys out/\fD (afB xs ds) ys L
 |[],[],.nil=>⟨[],.nil,fD.nil⟩
 |v::out,d::L,.cons ⟨i,x,r,a,b⟩ k=>by
  obtain⟨ys,h1,h2⟩:=Xb out L k
  refine⟨x::ys,.cons r h1,by rw[asM,asM,h2.1],fun j u y g1 g2=>?_⟩
  cases j with
  |zero=>
   cases g1
   cases g2
   exact⟨i,a,b⟩
  |succ j=>exact h2.2 j u y g1 g2
theorem acX(hu:X.A.units+65 < cLine):CallR X (.builtin "sorted") (Iu X.K):=by
 intro pins s σ H vs us Q I r h
 unfold Iu at h
 obtain⟨a,xs,ds,rfl,hs,hd,hal,hk,hz,q⟩:=h
 obtain⟨u,rfl,ru⟩:=vals1 r
 obtain rfl:u=Value.ref a:=ru
 obtain⟨its,rv,hl,hsz⟩:=I.list hs
 obtain⟨as,hr⟩:=Dp.readsAll I ds xs its hd rv
 have er:PySem.W.EachIs (fun v d=>∃as,Reads s.heap v (id d) as) its ds:=PySem.W.readsAll_each id (by rw[List.map_id];exact hr)
 have hn:=SeqAt.ReadsAll.length ds its as hr
 have hl2:=rv.length
 refine PySem.W.sorted_data (enc:=id) hl.isList (Zu xs ds its _ rv er) er (by rw[List.map_id];exact hal) (by rw[List.map_id];exact hk) (by omega) (fun d m=>?_) fun out hlen hout=>?_
 ·have:=hz d m
  show X.A.units+2+d.depth < cLine
  omega
 ·obtain⟨ys,v1,v2⟩:=Xb out _ hout
  obtain⟨ep,he'⟩:=PyProof.Rows.sortedAll_at s.heap its out.toArray
  have hy:ys.length=ds.length:=by
   rw[v2.1,List.length_mergeSort]
  refine⟨.ref _,upd H (s.heap.objs.size+1) (.lst ys),I.laid (t':=s.toks) (fun _ _=>PyProof.Rows.sortedAll_old) (Nat.le_succ _) ⟨by omega,out,ep,v1,by simpa using he'⟩,rfl,q ys _ v2 (I.hok.fresh (Nat.le_succ _))⟩
end
@[irreducible]def TF (K:asr):R2:=fun x y H Q=>∃d e:PyData,Dp K H x d/\Dp K H y e/\PySem.W.alike d e=true/\d≠.none/\d.depth<=60/\Q (.bl (PySem.W.dataLt d e)) H
theorem agx{X:Cx}(hu:X.A.units+65 < cLine):OpR X (compareOp .Lt) (TF X.K):=by
 intro pins s σ H x y v u Q I rx ry h
 unfold TF at h
 obtain⟨d,e,hd,he,ha,hn,hz,q⟩:=h
 obtain⟨as,r1⟩:=Dp.reads I d x v hd rx
 obtain⟨bs,r2⟩:=Dp.reads I e y u he ry
 exact PySem.W.lt_data r1 r2 ha hn (by omega) ⟨.bl _,H,I,rfl,q⟩
def EvR(te:TE)(σ:L2.St)(H:Hp)(P:List V->Hp->Prop):Prop:=∀H1,Ex H H1->∀Q:VK,(∀p H2 us,Ex H1 H2->H2 p=some (.lst us)->P us H2->Q (.ref p) H2)->te σ H1 Q
def EvM(te:TE)(σ:L2.St)(H:Hp)(P:List V->Hp->Prop):Prop:=∀H1,Ex H H1->∀Q:VK,(∀p H2 us,H1 p=none->Ex H1 H2->H2 p=some (.lst us)->P us H2->Q (.ref p) H2)->te σ H1 Q
structure ak9{α:Type}(Rel:Hp->V->α->Prop):Prop where
 mono:∀{H H':Hp} {v:V} {x:α},Ex H H'->Rel H v x->Rel H' v x
 upd:∀{H:Hp} {D:Addr} {acc:List V} {o:HO} {v:V} {x:α},H D=some (.lst acc)->Rel H v x->Rel (upd H D o) v x
theorem fD.mono{α:Type}{Rel:Hp->V->α->Prop}(S:ak9 Rel){H H':Hp}(e:Ex H H'){ws:List V}{L:List α}(h:fD (Rel H) ws L):fD (Rel H') ws L:=h.imp fun _ _ r=>S.mono e r
theorem fD.upd{α:Type}{Rel:Hp->V->α->Prop}(S:ak9 Rel){H:Hp}{D:Addr}{acc:List V}{o:HO}(hD:H D=some (.lst acc)){ws:List V}{L:List α}(h:fD (Rel H) ws L):fD (Rel (upd H D o)) ws L:=h.imp fun _ _ r=>S.upd hD r
section
variable{K:asr}{σ:L2.St}{H:Hp}{te tl:TE}{tt:TT}{vs:List Nat}{α:Type}
theorem EvM.r{P:List V->Hp->Prop}(h:EvM te σ H P):EvR te σ H P:=fun H1 e Q q=>h H1 e Q fun p H2 us _ a b c=>q p H2 us a b c
theorem EvM.imp{P R:List V->Hp->Prop}(h:EvM te σ H P)(k:∀us H',P us H'->R us H'):EvM te σ H R:=fun H1 e Q q=>h H1 e Q fun p H2 us n a b c=>q p H2 us n a b (k us H2 c)
end
theorem aag:∀a b:List Int,PyData.eqvAll (a.map PyData.int) (b.map PyData.int)=decide (a=b)
 |[],[]=>by rw[aty,PyData.eqvAll];rfl
 |[],y::ys=>by rw[aty,asx,PyData.eqvAll];rfl
 |x::xs,[]=>by rw[aty,asx,PyData.eqvAll];rfl
 |x::xs,y::ys=>by
  rw[asx,asx,PyData.eqvAll,aag xs ys,PyData.eqv,atA]
  simp
def dT(l:List Int):PyData:=.tuple (l.map PyData.int)
theorem lay_ints:∀l:List Int,PyData.canLayAll0 (l.map PyData.int)=true/\PyData.depthAll (l.map PyData.int)=0
 |[]=>⟨by rw[aty,PyData.canLayAll0],by rw[aty,PyData.depthAll]⟩
 |x::xs=>by
  have ih:=lay_ints xs
  refine⟨?_,?_⟩
  ·rw[asx,PyData.canLayAll0,PyData.canLay0,ih.1]
   rfl
  ·rw[asx,PyData.depthAll,PyData.depth,ih.2]
   rfl
def rD(r:Rw):PyData:=.tuple [.int r.1,dT r.2]
theorem aeE(r:Rw):(rD r).canLay0=true/\(rD r).depth=2:=by
 have h:=lay_ints r.2
 unfold rD dT
 refine⟨?_,?_⟩
 ·rw[PyData.canLay0,PyData.canLayAll0,PyData.canLayAll0,PyData.canLayAll0,PyData.canLay0,PyData.canLay0,h.1]
  rfl
 ·rw[PyData.depth,PyData.depthAll,PyData.depthAll,PyData.depthAll,PyData.depth,PyData.depth,h.2]
  rfl
def rk(r:Rw):List Int:=r.1::r.2
theorem adz:PySem.W.rowLt [] []=false:=PyProof.Rows.lex_irrefl _
theorem aiW(l m:List Int):PySem.W.rowLt [dT l] [dT m]=decide (l < m):=by
 have al:PySem.W.alike (dT l) (dT m)=true:=by
  unfold dT
  rw[PySem.W.alike]
  exact PySem.W.alike_ints l m
 have ev:PyData.eqv (dT l) (dT m)=decide (l=m):=by
  unfold dT
  rw[PyData.eqv,aag]
 have h:PySem.W.rowLt [dT l] [dT m]=if PyData.eqv (dT l) (dT m)=true then PySem.W.rowLt [] [] else PySem.W.dataLt (dT l) (dT m):=PySem.W.dataLt_cons al [] []
 rw[h,ev,adz]
 by_cases c:l=m
 ·rw[if_pos (decide_eq_true c),c]
  exact(decide_eq_false (List.lt_irrefl _)).symm
 ·rw[if_neg (by rw[decide_eq_true_eq];exact c)]
  show PySem.W.dataLt (.tuple (l.map PyData.int)) (.tuple (m.map PyData.int))=_
  rw[PySem.W.dataLt_tuple]
  exact PySem.W.dataLt_ints l m
theorem aaT(x y:Int)(ds es:List PyData)(l m:List Int)(h:PySem.W.rowLt ds es=decide (l < m)):PySem.W.rowLt (.int x::ds) (.int y::es)=decide (x::l < y::m):=by
 have al:PySem.W.alike (.int x) (.int y)=true:=by rw[PySem.W.alike]
 have h2:PySem.W.rowLt (.int x::ds) (.int y::es)=if PyData.eqv (.int x) (.int y)=true then PySem.W.rowLt ds es else PySem.W.dataLt (.int x) (.int y):=PySem.W.dataLt_cons al ds es
 rw[h2,h,PySem.W.dataLt_int,PyData.eqv]
 by_cases c:x=y
 ·subst c
  rw[if_pos (by simp),atA,decide_eq_true_eq,decide_eq_true_eq,List.cons_lt_cons_iff]
  constructor
  ·exact fun k=>Or.inr ⟨rfl,k⟩
  ·rintro(k|k)
   ·omega
   ·exact k.2
 ·rw[if_neg (by simpa using c),atA,decide_eq_true_eq,decide_eq_true_eq,List.cons_lt_cons_iff]
  constructor
  ·exact Or.inl
  ·rintro(k|k)
   ·exact k
   ·exact absurd k.1 c
theorem afl(a b:Rw):PySem.W.dataLt (rD a) (rD b)=decide (rk a < rk b):=by
 unfold rD
 rw[PySem.W.dataLt_tuple]
 exact aaT _ _ _ _ _ _ (aiW a.2 b.2)
theorem Ly(a b:Rw):PySem.W.alike (rD a) (rD b)=true:=by
 unfold rD dT
 rw[PySem.W.alike,PySem.W.alikeAll,PySem.W.alikeAll,PySem.W.alike,PySem.W.alike,PySem.W.alike_ints,PySem.W.alikeAll]
 rfl
theorem fD.map{α β:Type}{P:V->β->Prop}(f:α->β){ws:List V}{L:List α}(h:fD (fun v x=>P v (f x)) ws L):fD P ws (L.map f):=by
 refine⟨by rw[asH,h.1],fun i v x a b=>?_⟩
 rw[asI]at b
 obtain⟨y,hy,e⟩:=atp.mp b
 rw[←e]
 exact h.2 i v y a hy
theorem aaj{a b:Rw}(h:rk a=rk b):a=b:=by
 unfold rk at h
 injection h with h1 h2
 exact Prod.ext h1 h2
def Di(S:List Rw):Prop:=S.Pairwise fun a b=>rk a < rk b
theorem aeZ:∀{S T:List Rw},Di S->Di T->(∀r,r∈S↔r∈T)->S=T
 |[],[],_,_,_=>rfl
 |[],t::T,_,_,h=>absurd ((h t).mpr asz) (by simp)
 |s::S,[],_,_,h=>absurd ((h s).mp asz) (by simp)
 |s::S,t::T,hs,ht,h=>by
  obtain⟨hs1,hs2⟩:=List.pairwise_cons.mp hs
  obtain⟨ht1,ht2⟩:=List.pairwise_cons.mp ht
  have e:s=t:=by
   rcases asN.mp ((h s).mp asz) with e|m
   ·exact e
   ·rcases asN.mp ((h t).mpr asz) with e2|m2
    ·exact e2.symm
    ·exact absurd (ht1 s m) (List.lt_asymm (hs1 t m2))
  subst e
  have hn:∀{L:List Rw},(∀r∈L,rk s < rk r)->s∉L:=fun hL m=>List.lt_irrefl _ (hL s m)
  rw[aeZ hs2 ht2 fun r=>?_]
  constructor
  ·intro m
   rcases asN.mp ((h r).mp (asy _ m)) with e|m2
   ·rw[e]at m
    exact absurd m (hn hs1)
   ·exact m2
  ·intro m
   rcases asN.mp ((h r).mpr (asy _ m)) with e|m2
   ·rw[e]at m
    exact absurd m (hn ht1)
   ·exact m2
theorem Lz(a b:Rw):PySem.W.dataLe false rD a b=decide (rk a<=rk b):=by
 show(!PySem.W.dataLt (rD b) (rD a))=_
 rw[afl,atA,asT,decide_eq_false_iff_not,decide_eq_true_eq]
 exact List.not_lt
theorem afi{α β:Type}{R:α->β->Prop}{as cs:List α}(p:as.Perm cs):∀{bs:List β},PySem.W.EachIs R as bs->∃ds,ds.Perm bs/\PySem.W.EachIs R cs ds:=by
 induction p with
 |nil=>
  intro bs h
  cases h
  exact⟨[],List.Perm.refl _,.nil⟩
 |cons x _ ih=>
  intro bs h
  cases h with
  |cons r t=>
   obtain⟨ds,h1,h2⟩:=ih t
   exact⟨_::ds,h1.cons _,.cons r h2⟩
 |swap x y l=>
  intro bs h
  cases h with
  |cons r t=>
   cases t with
   |cons r2 t2=>exact⟨_,List.Perm.swap _ _ _,.cons r2 (.cons r t2)⟩
 |trans _ _ ih1 ih2=>
  intro bs h
  obtain⟨ds,a1,a2⟩:=ih1 h
  obtain⟨es,b1,b2⟩:=ih2 a2
  exact⟨es,b1.trans a1,b2⟩
section
variable{P:Program}{w:World}{A:Around}{E:Value->Shared->Prop}{s:Shared}
theorem aaK{β:Type}{a:Addr}{es:Array (Int×Value)}{ep:Nat}{t:SetTable}{enc:β->PyData}{bs:List β}{R:Value->β->Prop}{Q:Value->Shared->Prop}(hh:A.handled=none)(ha:SetAt s.heap a es ep t)(hf:t.fits es.size=true)(hsz:es.size < scanBound)(hr:Ris t.place.toList)
  (hl:w.params.followText "set-order"=true∨t.led=true) (e:PySem.W.EachIs (fun v b=>R v b/\∃as,Reads s.heap v (enc b) as) (es.toList.map (·.2)) bs) (hal:PySem.W.AllAlike (bs.map enc)) (hk:PySem.W.Sortable (bs.map enc)) (hu:∀b∈bs,A.units+2+(enc b).depth < cLine)
  (hQ:∀(s':Shared) (p:Addr) (out:List Value) (c:Nat) (cs:List β),(∀b o,s.heap.get? b=some o->s'.heap.get? b=some o)->s'.gens=s.gens->s'.os=s.os->s.heap.objs.size<=p->s'.heap.get? p=some (seqObj "list" out.toArray c)->
   cs.Perm bs->PySem.W.EachIs R out (cs.mergeSort (PySem.W.dataLe false enc))->Q (.ref p) s') :
  wpAny (model P w) A (call (.builtin "sorted") [.ref a]) Q E s:=by
 refine Calls.call_function_entry kind_sorted plain_sorted entry_sorted (args_sorted1 _) ?_
 unfold Builtin.«sorted»
 refine wpAny_bind (m:=checkCount "sorted" 1 1 _) (wpAny_pure ?_)
 refine wpAny_bind (collect_set (A:=A.in1) hh ha hf hsz hr hl fun t1 vals kept grown g1 o1 pm=>?_)
 obtain⟨cs,pc,ec⟩:=afi pm.symm e
 have lc:vals.length=cs.length:=ec.length
 have lb:cs.length=bs.length:=pc.length_eq
 have lz:vals.length<=sizeLine:=by
  rw[pm.length_eq,asH,atd,sizeLine_eq]
  unfold scanBound at hsz
  omega
 refine wpAny_bind (wpAny_newList ?_ lz)
 have here:(t1.heap.push (seqObj "list" vals.toArray 0)).get? t1.heap.objs.size=some (seqObj "list" vals.toArray 0):=Heap.get?_push_size _ rfl
 have stays:∀b o,s.heap.get? b=some o->(t1.heap.push (seqObj "list" vals.toArray 0)).get? b=some o:=fun b o q=>Heap.get?_push_of_some _ (kept b o q)
 have al:PySem.W.AllAlike (cs.map enc):=fun d hd d' hd'=>hal d ((pc.map enc).mem_iff.mp hd) d' ((pc.map enc).mem_iff.mp hd')
 have sk:PySem.W.Sortable (cs.map enc):=by
  rcases hk with k|k
  ·exact .inl fun d hd=>k d ((pc.map enc).mem_iff.mp hd)
  ·exact .inr fun d hd=>k d ((pc.map enc).mem_iff.mp hd)
 refine wpAny_bind (wpAny_holding (PySem.W.list_sort_data (s:={ t1 with heap:=t1.heap.push (seqObj "list" vals.toArray 0) }) (enc:=enc) here (ec.mono fun v b h=>h.1) (ec.mono fun v b ⟨_,as,r⟩=>⟨as,PySem.W.reads_keeps stays r,fun m=>?rd⟩) al sk (by omega) (fun b hb=>?un) fun out lo eo=>?fin))
 case rd=>
  obtain⟨o,q⟩:=PyProof.On.reads_mem_get r _ m
  have hlt:t1.heap.objs.size < s.heap.objs.size:=Heap.lt_size q
  exact absurd grown (Nat.not_le_of_lt hlt)
 case fin=>
  obtain⟨c,hc⟩:=sortedHeap_at (vs:=vals) (out:=out.toArray) here
  refine wpAny_pure ⟨_,rfl,hQ _ t1.heap.objs.size out c cs (fun b o q=>?_) g1 o1 grown hc pc eo⟩
  have hlt:=Heap.lt_size (kept b o q)
  show(sortedHeap (t1.heap.push (seqObj "list" vals.toArray 0)) t1.heap.objs.size vals out.toArray).get? b=some o
  rw[sortedHeap_old (ata hlt) (by rw[size_push'];exact atF hlt)]
  exact stays b o q
 case un=>
  have:=hu b (pc.mem_iff.mp hb)
  show A.in1.units+1+_ < _
  have e1:A.in1.units=A.units+1:=rfl
  omega
end
section
variable{P:Program}{w:World}{A:Around}{E:Value->Shared->Prop}{s:Shared}
def nk(r:Rw):NestedKey:=.tup [.num r.1,.tup (r.2.map .num)]
theorem aac:∀a b:List Int,a.map NestedKey.num=b.map NestedKey.num->a=b
 |[],[],_=>rfl
 |[],_::_,h=>by cases h
 |_::_,[],h=>by cases h
 |x::a,y::b,h=>by
  rw[asx,asx]at h
  injection h with h1 h2
  injection h1 with h1
  rw[h1,aac a b h2]
theorem adL{a b:Rw}(h:nk a=nk b):a=b:=by
 unfold nk at h
 injection h with h
 injection h with h1 h
 injection h with h2 _
 injection h1 with h1
 injection h2 with h2
 exact Prod.ext h1 (aac _ _ h2)
theorem TJ:∀l:List Int,NestedKey.depthAll (l.map .num)=0
 |[]=>by rw[aty,NestedKey.depthAll]
 |x::l=>by
  rw[asx,NestedKey.depthAll,NestedKey.depth,TJ l]
  rfl
theorem af0(r:Rw):(nk r).depth=2:=by
 unfold nk
 rw[NestedKey.depth,NestedKey.depthAll,NestedKey.depthAll,NestedKey.depthAll,NestedKey.depth,NestedKey.depth,TJ]
 rfl
def nR(P:Program)(w:World):HeapKind P w Rw where
 is:=fun h r a=>(nestedKind P w).is h (nk r) a
 hash:=fun r=>(nestedKind P w).hash (nk r)
 draws:=fun r=>(nestedKind P w).draws (nk r)
 room:=(nestedKind P w).room
 inj:=fun hx hy=>adL ((nestedKind P w).inj hx hy)
 keeps:=fun x ho hd hs=>(nestedKind P w).keeps x ho hd hs
 pyHash:=fun hu hk h=>(nestedKind P w).pyHash hu hk h
 eqBool:=fun {A E s x y a b Q} hu hx hy h=>(nestedKind P w).eqBool hu hx hy (by
  have e:decide (nk x=nk y)=decide (x=y):=by
   rw[decide_eq_decide]
   exact⟨adL,fun h=>by rw[h]⟩
  rw[e]
  exact h)
 quiet:=fun hk h=>(nestedKind P w).quiet hk h
abbrev RI(h:Heap)(r:Rw)(a:Addr):Prop:=NestedIs h (nk r) (.ref a)/\(nk r).depth<=8
theorem Ut{h h':Heap}{r:Rw}{a:Addr}(x:RI h r a)(k:∀c o,h.get? c=some o->h'.get? c=some o):RI h' r a:=⟨NestedIs.at (fun b o _ _ e _=>k b o e) _ _ x.1,x.2⟩
theorem Zb{h h':Heap}{r:Rw}{a d:Addr}{o:Obj}{es:Array (Int×Value)}{ep:Nat}{t:SetTable}(x:RI h r a)(ho:h.get? d=some o)(hd:o.data=.set es ep t)(sb:Heap.SameBut d h h'):RI h' r a:=by
 refine⟨NestedIs.at (fun b ob vs n hb hc=>(sb.2 b fun e=>?_).trans hb) _ _ x.1,x.2⟩
 subst e
 obtain rfl:ob=o:=asW (hb.symm.trans ho)
 rw[hd]at hc
 cases hc
theorem Je{h:Heap}{i:Int}{v:Value}(x:NestedIs h (.num i) v)(n:Nat):ofAClassStatement n v=pure false/\hashByValue n v=pure true:=by
 cases x with
 |bool _=>cases n <;> exact⟨rfl,rfl⟩
 |int _ t=>cases n <;> exact⟨rfl,rfl⟩
theorem Ze{h:Heap}:∀(l:List Int) (vs:List Value),NestedAll h (l.map .num) vs->∀v∈vs,∃i,NestedIs h (.num i) v
 |[],_,x,v,hv=>by
  cases x
  cases hv
 |i::l,_,x,v,hv=>by
  rw[asx]at x
  cases x with
  |cons x1 x2=>
   rcases asN.mp hv with e|hv
   ·exact⟨i,by rw[e];exact x1⟩
   ·exact Ze l _ x2 v hv
theorem abe{n:Nat}{a:Addr}{o:Obj}{vs:Array Value}{m:Nat}(ho:s.heap.get? a=some o)(hc:o.cls=.type "tuple")(hd:o.data=.seq vs m)(hq:∀v∈vs.toList,∀(E:Value->Shared->Prop) (Q:Bool->Shared->Prop),Q false s->wpAny (model P w) A (ofAClassStatement n v) Q E s){Q:Bool->Shared->Prop}(q:Q false s) :
  wpAny (model P w) A (ofAClassStatement (n+1) (.ref a)) Q E s:=by
 have hT:s.TypeIs (.ref a) "tuple":=⟨o,ho,hc⟩
 unfold ofAClassStatement
 refine wpAny_bind (wpAny_typeOf hT ?_)
 dsimp only
 have eq1:(("tuple" : String)=="tuple")=true:=by decide
 simp only[eq1,if_true,Bool.not_true,as9,if_false]
 try refine wpAny_bind (wpAny_pure ?_)
 try simp only[Bool.not_true,as9,if_false]
 refine wpAny_bind (wpAny_seqItems ho hd ?_)
 dsimp only
 refine wpAny_bind ?_
 rw[←Array.forIn_toList]
 refine wpAny_forIn_list _ (fun left r u=>r.1=none/\u=s/\∀v∈left,v∈vs.toList) _ ?_ ?_ _ _ ⟨rfl,rfl,fun v hv=>hv⟩
 ·rintro v left r u ⟨hr,rfl,hall⟩
  refine wpAny_bind (hq v (hall v asz) _ _ ?_)
  simp only[as9,if_false]
  exact wpAny_pure ⟨rfl,rfl,fun y hy=>hall y (asy _ hy)⟩
 ·rintro⟨r1,r2⟩ u ⟨hr,rfl,_⟩
  simp only at hr
  subst hr
  exact wpAny_pure q
theorem aaw{n:Nat}{a:Addr}{o:Obj}{vs:Array Value}{m:Nat}(ho:s.heap.get? a=some o)(hc:o.cls=.type "tuple")(hd:o.data=.seq vs m)(hq:∀v∈vs.toList,∀(E:Value->Shared->Prop) (Q:Bool->Shared->Prop),Q true s->wpAny (model P w) A (hashByValue n v) Q E s){Q:Bool->Shared->Prop}(q:Q true s) :
  wpAny (model P w) A (hashByValue (n+1) (.ref a)) Q E s:=by
 have hT:s.TypeIs (.ref a) "tuple":=⟨o,ho,hc⟩
 unfold hashByValue
 refine wpAny_bind (wpAny_specialOf hT PySem.F.slot_tuple_hash.lookup ?_)
 show wpAny _ _ (seqItems? (.ref a) >>= _) _ _ s
 refine wpAny_bind (wpAny_seqItems ho hd ?_)
 refine wpAny_bind ?_
 show wpAny _ _ (forIn vs _ _) _ _ s
 rw[←Array.forIn_toList]
 refine wpAny_forIn_list _ (fun left r u=>r.1=none/\u=s/\∀v∈left,v∈vs.toList) _ ?_ ?_ _ _ ⟨rfl,rfl,fun v hv=>hv⟩
 ·rintro v left r u ⟨hr,rfl,hall⟩
  refine wpAny_bind (hq v (hall v asz) _ _ ?_)
  simp only[Bool.not_true,as9,if_false]
  exact wpAny_pure ⟨rfl,rfl,fun y hy=>hall y (asy _ hy)⟩
 ·rintro⟨r1,r2⟩ u ⟨hr,rfl,_⟩
  simp only at hr
  subst hr
  exact wpAny_pure q
theorem IK{r:Rw}{a:Addr}(x:RI s.heap r a):(∀{Q:Bool->Shared->Prop},Q false s->wpAny (model P w) A (ofAClassStatement 8 (.ref a)) Q E s)/\∀{Q:Bool->Shared->Prop},Q true s->wpAny (model P w) A (hashByValue 8 (.ref a)) Q E s:=by
 obtain⟨x,_⟩:=x
 unfold nk at x
 cases x with
 | @tup _ o vs m _ ho hc hd x=>
  have items:∀v∈vs.toList,(∃i,NestedIs s.heap (.num i) v)∨∃b,v=.ref b/\∃o us k,s.heap.get? b=some o/\o.cls=.type "tuple"/\o.data=.seq us k/\∀u∈us.toList,∃i,NestedIs s.heap (.num i) u:=by
   generalize vs.toList=l at x
   cases x with
   |cons x1 x=>
    cases x with
    |cons x2 x=>
     cases x
     intro v hv
     rcases asN.mp hv with e|hv
     ·exact Or.inl ⟨_,by rw[e];exact x1⟩
     ·have e:=asB.mp hv
      cases x2 with
      |tup k1 k2 k3 k4=>exact Or.inr ⟨_,e,_,_,_,k1,k2,k3,Ze _ _ k4⟩
  refine⟨fun q=>abe ho hc hd (fun v hv E' Q' q'=>?_) q,fun q=>aaw ho hc hd (fun v hv E' Q' q'=>?_) q⟩
  ·rcases items v hv with⟨i,y⟩|⟨b,rfl,o',us,k,k1,k2,k3,k4⟩
   ·rw[(Je y 7).1]
    exact wpAny_pure q'
   ·refine abe k1 k2 k3 (fun u hu E2 Q2 q2=>?_) q'
    obtain⟨i,y⟩:=k4 u hu
    rw[(Je y 6).1]
    exact wpAny_pure q2
  ·rcases items v hv with⟨i,y⟩|⟨b,rfl,o',us,k,k1,k2,k3,k4⟩
   ·rw[(Je y 7).2]
    exact wpAny_pure q'
   ·refine aaw k1 k2 k3 (fun u hu E2 Q2 q2=>?_) q'
    obtain⟨i,y⟩:=k4 u hu
    rw[(Je y 6).2]
    exact wpAny_pure q2
end
abbrev Ent:Type:=Addr×Rw
section
variable{P:Program}{w:World}{A:Around}{E:Value->Shared->Prop}{s:Shared}
def ents(hf:Rw->Int)(L:List Ent):List (Int×Value):=L.map fun p=>(hf p.2,Value.ref p.1)
structure qP(hf:Rw->Int)(w:World)(h:Heap)(a:Addr)(L:List Ent)(es:Array (Int×Value))(ep:Nat)(t:SetTable):Prop where
 ob:∃o,h.get? a=some o/\o.ExactSet/\o.data=.set es ep t
 en:es.toList=ents hf L
 tab:TabOk t (L.map fun p=>hf p.2)
 nd:(L.map Prod.snd).Nodup
 ky:∀p∈L,RI h p.2 p.1
 pl:t.plain=true
 ld:w.params.followText "set-order"=true∨t.led=true
 free:L.length * 5 < t.mask * 3
 few:L.length<=76
variable{hf:Rw->Int}{a:Addr}{L:List Ent}{es:Array (Int×Value)}{ep:Nat}{t:SetTable}
theorem yR(h:es.toList=ents hf L):es.size=L.length:=by
 rw[←atd,h]
 exact asH _
theorem NT(h:es.toList=ents hf L){i:Nat}{p:Ent}(g:L[i]?=some p):es[i]?=some (hf p.2,Value.ref p.1):=by
 rw[←ati,h]
 unfold ents
 rw[asI,g]
 rfl
theorem fits_of(h1:t.place.size=es.size)(h2:t.dummies=#[])(h3:es.size<=t.mask):t.fits es.size=true:=by
 unfold SetTable.fits SetTable.fill
 rw[h2,asu,beq_iff_eq,decide_eq_true_eq]
 exact⟨h1,by show t.place.size+0<=t.mask;omega⟩
theorem qP.fits(R:qP hf w s.heap a L es ep t):t.fits es.size=true:=by
 have l1:=yR R.en
 have l2:=R.tab.sz
 rw[asH]at l2
 have l3:=R.free
 exact fits_of (by omega) R.tab.dm (by omega)
theorem qP.sound(R:qP hf w s.heap a L es ep t):¬t.gaveWay=true:=by
 unfold SetTable.gaveWay
 rw[mask_odd R.tab.mok]
 decide
theorem akS{r:Rw}{b:Addr}{Q:Bool->Shared->Prop}(hx:RI s.heap r b){ys:List Value}(hy:∀y∈ys,∃q c,y=Value.ref c/\RI s.heap q c)(q:Q false s):wpAny (model P w) A (searchCouldBeSeen (.ref b) ys) Q E s:=by
 unfold searchCouldBeSeen
 refine wpAny_bind ?_
 refine wpAny_forIn_list _ (fun left r u=>r.1=none/\u=s/\∀y∈left,∃q c,y=Value.ref c/\RI s.heap q c) _ ?_ ?_ _ _ ⟨rfl,rfl,hy⟩
 ·rintro v left r u ⟨hr,rfl,hall⟩
  obtain⟨q',c,rfl,hc⟩:=hall v asz
  have more:∀y∈left,∃q c,y=Value.ref c/\RI u.heap q c:=fun y m=>hall y (asy _ m)
  dsimp only
  by_cases hv:(b==c || (carriedByValue (.ref b)&&carriedByValue (.ref c)))=true
  ·exact wp_if_pos hv (wpAny_pure ⟨rfl,rfl,more⟩)
  ·refine wp_if_neg hv ?_
   refine wpAny_bind ((nR P w).quiet hx ?_)
   simp only[Bool.not_true,as9,if_false]
   refine wpAny_bind ((nR P w).quiet hc ?_)
   simp only[Bool.not_true,as9,if_false]
   refine wpAny_bind ((IK hx).1 ?_)
   simp only[as9,if_false]
   refine wpAny_bind ((IK hc).1 ?_)
   simp only[as9,if_false]
   exact wpAny_pure ⟨rfl,rfl,more⟩
 ·rintro⟨r1,r2⟩ u ⟨hr,rfl,_⟩
  simp only at hr
  subst hr
  exact wpAny_pure q
abbrev uI(m:Nat)(h:Int)(c:Nat):SetTable.Probe:=nth m (runAt m (SetTable.bits h % (m+1)) (SetTable.bits h)) c
theorem aaM(m:Nat)(h:Int)(c:Nat):(uI m h c).dummy=none:=by
 have all:∀(n:Nat) (p:SetTable.Probe),p.dummy=none->(nth m p n).dummy=none:=by
  intro n
  induction n with
  |zero=>exact fun p k=>k
  |succ n ih=>
   intro p k
   refine ih (adv m p) ?_
   unfold adv
   split <;> exact k
 exact all c _ rfl
theorem VP(m:Nat)(h:Int)(c d:Nat):nth m (uI m h c) d=uI m h (c+d):=(nth_add m c _ d).symm
theorem seek(R:qP hf w s.heap a L es ep t){x:Addr}{r:Rw}(hx:RI s.heap r x){h:Int}(hh:hf r=h)(hu:(nR P w).room A){N:Nat}(hN:N < 10 * SetTable.turns t.mask)(out:way t.mask (h) N∉t.place.toList)(inn:∀c,c < N->way t.mask (h) c∈t.place.toList){Q:SetFound->Shared->Prop}
  (yes:r∈L.map Prod.snd->Q (.there none) s) (no:r∉L.map Prod.snd->Q (.free (way t.mask (h) N) false) s) :
  ∀(f c:Nat) (st:Option SetTable.Probe),st.getD (t.probeStart (h))=uI t.mask (h) c->c<=N->N - c < f->
   (∀(i:Nat) (p:Ent),L[i]?=some p->p.2=r->∃d,c<=d/\d < N/\t.place.toList[i]?=some (way t.mask (h) d))->
   wpAny (model P w) A (setSearchFrom a (.ref x) (h) true f st) Q E s:=by
 intro f
 induction f with
 |zero=>exact fun _ _ _ _ hfl _=>absurd hfl (Nat.not_lt_zero _)
 |succ f ih=>
  intro c st hst hc hfl left
  obtain⟨o,ho,hex,hd⟩:=R.ob
  rw[setSearchFrom_succ]
  refine wpAny_bind (wpAny_setState_of ho hd R.fits ?_)
  dsimp only
  refine wp_if_neg R.sound ?_
  try refine wpAny_bind (wpAny_pure ?_)
  have jAt:∀d,(nth t.mask (uI t.mask h c) d).j=way t.mask h (c+d):=fun d=>congrArg SetTable.Probe.j (VP t.mask h c d)
  have hashOf:∀(i:Nat) (p:Ent),L[i]?=some p->(es[i]?.map (·.1)).getD 0=hf p.2:=fun i p g=>by
   rw[NT R.en g]
   rfl
  have spec:=go_spec t R.tab.ris R.tab.dm (fun i=>(es[i]?.map (·.1)).getD 0) h (10 * SetTable.turns t.mask) (N - c) (uI t.mask h c) (aaM _ _ _) (by omega) (fun d hdn=>by rw[jAt];exact inn (c+d) (by omega)) (by rw[jAt,atX hc];exact out)
  rcases spec with⟨d,i,hdn,hi,hhi,hno,hpr⟩|⟨hno,hpr⟩
  ·have hpr':t.probe (fun i=>(es[i]?.map (·.1)).getD 0) h (st.getD (t.probeStart h))=some (.candidate (way t.mask h (c+d)) i (uI t.mask h (c+(d+1)))):=by
    rw[hst,←jAt,←VP]
    exact hpr
   rw[hpr']
   dsimp only
   rw[jAt]at hi
   have hil:i < L.length:=by
    have k1:=(asv.mp hi).1
    have k2:=R.tab.sz
    rw[asH]at k2
    rw[atd]at k1
    omega
   obtain⟨p,hp⟩:∃p,L[i]?=some p:=⟨_,asw hil⟩
   have pm:=asC hp
   have go:wpAny (model P w) A (searchRest a (.ref x) h true f es t (way t.mask h (c+d)) i (uI t.mask h (c+(d+1)))) Q E s:=by
    unfold searchRest
    rw[NT R.en hp]
    dsimp only
    refine wpAny_bind (wpAny_holding ((nR P w).eqBool hu (R.ky p pm) hx ?_))
    refine wpAny_bind (wpAny_setState_of ho hd R.fits ?_)
    dsimp only
    by_cases same:p.2=r
    ·exact wp_if_pos (by simp[same]) (wpAny_pure (yes (asJ.mpr ⟨p,pm,same⟩)))
    ·refine wp_if_neg (by simp[same]) ?_
     try refine wpAny_bind (wpAny_pure ?_)
     rw[sameMem]
     dsimp only
     have live:t.slot (way t.mask h (c+d))=.live i:=slot_live R.tab.ris hi
     simp only[if_true,live,NT R.en hp]
     refine wpAny_bind (wpAny_isSame_ref_self (wpAny_bind (wpAny_pure ?_)))
     simp only[if_true]
     refine wp_if_neg (by simp[same]) ?_
     refine ih (c+(d+1)) _ rfl (by omega) (by omega) fun i0 p0 g0 e0=>?_
     obtain⟨d0,a1,a2,a3⟩:=left i0 p0 g0 e0
     refine⟨d0,?_,a2,a3⟩
     by_cases c1:d0 < c+d
     ·exact absurd ((hashOf i0 p0 g0).trans ((congrArg hf e0).trans hh)) (hno (d0 - c) i0 (by omega) (by rw[jAt,atX a1];exact a3))
     ·by_cases c2:d0=c+d
      ·rw[c2]at a3
       have live0:=slot_live R.tab.ris a3
       rw[live]at live0
       injection live0 with ei
       rw[←ei,hp]at g0
       exact absurd ((congrArg Prod.snd (asW g0)).trans e0) same
      ·omega
   by_cases hl:t.led=true
   ·refine wp_if_neg (by simp[hl]) ?_
    try refine wpAny_bind (wpAny_pure ?_)
    exact go
   ·refine wp_if_pos (by simp[hl]) ?_
    refine wpAny_bind (akS hx (fun y hy=>?_) ?_)
    ·obtain⟨e,he,ee⟩:=asJ.mp hy
     have h1:e∈es/\e.1=h:=by simpa using he
     have h2:e∈es.toList:=by simpa using h1.1
     rw[R.en]at h2
     obtain⟨p2,hp2,e2⟩:=asJ.mp h2
     exact⟨p2.2,p2.1,by rw[←ee,←e2],R.ky p2 hp2⟩
    ·refine wp_if_neg (by decide) ?_
     try refine wpAny_bind (wpAny_pure ?_)
     exact go
  ·have hpr':t.probe (fun i=>(es[i]?.map (·.1)).getD 0) h (st.getD (t.probeStart h))=some (.empty (way t.mask h N) none):=by
    have e2:way t.mask h N=(nth t.mask (uI t.mask h c) (N - c)).j:=by rw[jAt,atX hc]
    rw[hst,e2]
    exact hpr
   rw[hpr']
   dsimp only
   refine wpAny_pure (no fun hm=>?_)
   obtain⟨p0,m0,e0⟩:=asJ.mp hm
   obtain⟨i0,hi0,e1⟩:=List.getElem_of_mem m0
   have g0:L[i0]?=some p0:=by rw[asw hi0,e1]
   obtain⟨d0,a1,a2,a3⟩:=left i0 p0 g0 e0
   exact hno (d0 - c) i0 (by omega) (by rw[jAt,atX a1];exact a3) ((hashOf i0 p0 g0).trans ((congrArg hf e0).trans hh))
theorem look(R:qP hf w s.heap a L es ep t){x:Addr}{r:Rw}(hx:RI s.heap r x)(hu:(nR P w).room A){Q:SetFound->Shared->Prop}(yes:r∈L.map Prod.snd->Q (.there none) s)
  (no:∀N,r∉L.map Prod.snd->way t.mask (hf r) N∉t.place.toList->(∀c,c < N->way t.mask (hf r) c∈t.place.toList)->Q (.free (way t.mask (hf r) N) false) s):wpAny (model P w) A (setSearch a (.ref x) (hf r) true) Q E s:=by
 have hfree:=R.free
 obtain⟨N,hN,out,inn⟩:=R.tab.first (by rw[asH];omega) (hf r)
 have small:N < 100000:=by
  have:10 * SetTable.turns t.mask<=1420:=by
   unfold SetTable.turns
   rcases R.tab.mok with e|e|e <;> omega
  omega
 unfold setSearch
 refine seek R hx rfl hu hN out inn yes (fun hn=>no N hn out inn) 100000 0 none rfl (ath _) (by omega) fun i p g e=>?_
 have hi:(L.map fun p=>hf p.2)[i]?=some (hf r):=by
  rw[asI,g,←e]
  rfl
 have hil:i < t.place.toList.length:=by
  have k1:=(asv.mp g).1
  have k2:=R.tab.sz
  rw[asH]at k2
  rw[atd]
  omega
 obtain⟨c,hc,ec⟩:=R.tab.before out hi (asw hil)
 exact⟨c,ath _,hc,by rw[asw hil,ec]⟩
end
section
variable{P:Program}{w:World}{A:Around}{E:Value->Shared->Prop}{s:Shared}{hf:Rw->Int}{a:Addr}{L:List Ent}{es:Array (Int×Value)}{ep:Nat}{t:SetTable}
theorem af5(L:List Ent)(n:Nat)(x:Addr)(r:Rw):ents hf (L.take n++(x,r)::L.drop n)=(ents hf L).take n++(hf r,Value.ref x)::(ents hf L).drop n:=by
 unfold ents
 rw[List.map_append,asx,List.map_take,List.map_drop]
theorem range_all(L:List Ent):(List.range L.length).filterMap (fun i=>L[i]?)=L:=by
 have part:∀n,n<=L.length->(List.range n).filterMap (fun i=>L[i]?)=L.take n:=by
  intro n
  induction n with
  |zero=>exact fun _=>rfl
  |succ n ih=>
   intro hn
   rw[List.range_succ,List.filterMap_append,ih (by omega),List.take_add_one,asw (show n < L.length by omega)]
   congr 1
   rw[List.filterMap_cons_some (asw (show n < L.length by omega))]
   rfl
 rw[part _ (as3 _),List.take_length]
theorem aeH(h:es.toList=ents hf L){order:Array Nat}(hp:order.toList.Perm (List.range L.length)) :
  ∃M:List Ent,(order.filterMap (es[·]?)).toList=ents hf M/\M.Perm L/\(M.map fun p=>hf p.2)=order.toList.map fun i=>(es.map (·.1)).getD i 0:=by
 have inside:∀i∈order.toList,i < L.length:=fun i hi=>List.mem_range.mp (hp.mem_iff.mp hi)
 refine⟨order.toList.filterMap (fun i=>L[i]?),?_,?_,?_⟩
 ·have e1:(order.filterMap (es[·]?)).toList=order.toList.filterMap (fun i=>es[i]?):=by
   first | rw[Array.toList_filterMap] | simp
  rw[e1]
  unfold ents
  rw[List.map_filterMap]
  congr 1
  funext i
  rw[←ati,h]
  unfold ents
  rw[asI]
 ·have:=hp.filterMap (fun i=>L[i]?)
  rw[range_all]at this
  exact this
 ·generalize order.toList=l at inside
  induction l with
  |nil=>rfl
  |cons i l ih=>
   have hi:=inside i asz
   have e5:(es.map (·.1))[i]?=some (hf (L[i]).2):=by
    rw[Array.getElem?_map,NT h (asw hi)]
    rfl
   rw[List.filterMap_cons_some (asw hi),asx,asx,ih fun j hj=>inside j (asy _ hj),Array.getD_eq_getD_getElem?,e5]
   rfl
theorem ami{o:Obj}(ho:s.heap.get? a=some o)(hex:o.ExactSet)(hd:o.data=.set es ep t)(he:es.toList=ents hf L)(hsz:t.place.size=es.size)(hdm:t.dummies=#[])(hfl:es.size<=t.mask)(nd:(L.map Prod.snd).Nodup)(ky:∀p∈L,RI s.heap p.2 p.1)(pl:t.plain=true)
  (ld:w.params.followText "set-order"=true∨t.led=true) (few:L.length<=76) {wanted M:Nat} (hw:SetTable.sizeAbove wanted - 1=M) (hM:MaskOk M) (hw2:SetTable.sizeAbove wanted<=128) (hn:L.length * 5 < M * 3) {Q:Unit->Shared->Prop}
  (q:∀h' K es' ep' t',Heap.SameBut a s.heap h'->qP hf w h' a K es' ep' t'->K.Perm L->Q () { s with heap:=h' }):wpAny (model P w) A (setRelay a wanted) Q E s:=by
 have len:=yR he
 obtain⟨t',order,e,hp,T,em,el,epl,ed⟩:=relaid_ok t (hs:=es.map (·.1)) (wanted:=wanted) hw hM (by rw[Array.size_map,len];omega)
 rw[Array.size_map,len]at hp
 obtain⟨K,k1,k2,k3⟩:=aeH he hp
 rw[←k3]at T
 have ks:(order.filterMap (es[·]?)).size=es.size:=by
  rw[yR k1,k2.length_eq,len]
 rw[setRelay_eq]
 refine wpAny_bind (wpAny_setState_of ho hd (fits_of hsz hdm hfl) ?_)
 dsimp only
 refine wp_if_neg (by rw[sizeLine_eq];omega) ?_
 try refine wpAny_bind (wpAny_pure ?_)
 rw[e]
 dsimp only
 refine wpAny_bind ?_
 refine wp_if_neg (by rw[ks];simp) ?_
 try refine wpAny_bind (wpAny_pure ?_)
 refine wpAny_pure ?_
 dsimp only
 refine wpAny_storeSet_of ho hd ?_ (by rw[ks,len,sizeLine_eq];omega)
 have sb:Heap.SameBut a s.heap (s.heap.update a (Obj.putSet (order.filterMap (es[·]?)) t')):=Heap.SameBut.update ..
 refine q _ K (order.filterMap (es[·]?)) (ep+1) t' sb ⟨⟨_,store_at ho hd,⟨hex.1,hex.2.1,hex.2.2⟩,rfl⟩,k1,T,(k2.map Prod.snd).nodup_iff.mpr nd,fun p hp=>Zb (ky p (k2.mem_iff.mp hp)) ho hd sb,by rw[epl];exact pl,by rw[el];exact ld,?_,by rw[k2.length_eq];exact few⟩ k2
 rw[k2.length_eq,em]
 exact hn
theorem akU(R:qP hf w s.heap a L es ep t){x:Addr}{r:Rw}(hx:RI s.heap r x)(hu:(nR P w).room A)(hfew:r∉L.map Prod.snd->L.length+1<=76){Q:Bool->Shared->Prop}
  (q:∀b h' K es' ep' t',Heap.SameBut a s.heap h'->qP hf w h' a K es' ep' t'->(r∈L.map Prod.snd->K=L)->(r∉L.map Prod.snd->K.Perm ((x,r)::L))->Q b { s with heap:=h' }):wpAny (model P w) A (setAddHashed a (.ref x) (hf r)) Q E s:=by
 obtain⟨o,ho,hex,hd⟩:=R.ob
 have len:=yR R.en
 have hfree:=R.free
 unfold setAddHashed
 refine wpAny_holding ?_
 rw[show(100000:Nat)=99999+1 from rfl,setAddHashedIn_succ]
 refine wpAny_bind (wpAny_setState_of ho hd R.fits ?_)
 dsimp only
 refine wp_if_neg (by simp[byScan,Value.scannable]) ?_
 try refine wpAny_bind (wpAny_pure ?_)
 refine wpAny_bind (look R hx hu (fun hm=>?_) fun N hm out inn=>?_)
 ·dsimp only
  exact wpAny_pure (q false s.heap L es ep t (Heap.SameBut.refl a s.heap) R (fun _=>rfl) fun z=>absurd hm z)
 have few1:=hfew hm
 dsimp only
 refine wpAny_bind (wpAny_setState_of ho hd R.fits ?_)
 dsimp only
 obtain⟨q1,q2,q3,q4,q5,q6,q7,q8,q9⟩:=R.tab.put out inn
 have pl1:(t.put (way t.mask (hf r) N)).1.plain=true:=by rw[q6];exact R.pl
 generalize hpt:t.put (way t.mask (hf r) N)=pt at q1 q3 q4 q5 q6 q7 q8 q9 pl1 ⊢
 obtain⟨t1,n⟩:=pt
 dsimp only at q1 q3 q4 q5 q6 q7 q8 q9 pl1 ⊢
 subst q1
 first
  |(refine wpAny_bind ?_;refine wp_if_pos pl1 ?_;refine(IK hx).2 ?_)
  |refine wp_if_pos pl1 (wpAny_bind ((IK hx).2 ?_))
 simp only[if_true]
 have ein:(SetTable.insertAt es (SetTable.below t.place (way t.mask (hf r) N)) (hf r,Value.ref x)).toList=ents hf (L.take (SetTable.below t.place (way t.mask (hf r) N))++(x,r)::L.drop (SetTable.below t.place (way t.mask (hf r) N))):=by
  rw[SetTable.toList_insertAt,af5,R.en]
 generalize hnn:SetTable.below t.place (way t.mask (hf r) N)=n at q2 q3 ein ⊢
 have pm:=put_perm L n (x,r)
 have hs1:(L.take n++(x,r)::L.drop n).map (fun p=>hf p.2)=(L.map fun p=>hf p.2).take n++hf r::(L.map fun p=>hf p.2).drop n:=by
  rw[List.map_append,asx,List.map_take,List.map_drop]
 rw[←hs1]at q3
 have nd1:((L.take n++(x,r)::L.drop n).map Prod.snd).Nodup:=by
  refine(pm.map Prod.snd).nodup_iff.mpr ?_
  rw[asx]
  exact atu.mpr ⟨hm,R.nd⟩
 have len1:(SetTable.insertAt es n (hf r,Value.ref x)).size=L.length+1:=by
  rw[yR ein,pm.length_eq]
  rfl
 generalize SetTable.insertAt es n (hf r,Value.ref x)=es1 at ein len1 ⊢
 have lenM:(L.take n++(x,r)::L.drop n).length=L.length+1:=pm.length_eq
 generalize L.take n++(x,r)::L.drop n=M at pm q3 nd1 ein lenM
 refine wpAny_bind (wpAny_storeSet_of ho hd ?_ (by rw[len1,sizeLine_eq];omega))
 have sb:Heap.SameBut a s.heap (s.heap.update a (Obj.putSet es1 t1)):=Heap.SameBut.update ..
 have ho1:=store_at (es':=es1) (t':=t1) ho hd
 generalize s.heap.update a (Obj.putSet es1 t1)=h1 at sb ho1 ⊢
 have ky1:∀p∈M,RI h1 p.2 p.1:=fun p hp=>by
  rcases asN.mp (pm.mem_iff.mp hp) with e|m
  ·rw[e];exact Zb hx ho hd sb
  ·exact Zb (R.ky p m) ho hd sb
 have ld1:w.params.followText "set-order"=true∨t1.led=true:=by rw[q5];exact R.ld
 have full:t1.tooFull=true↔(L.length+1) * 5 ≥ t1.mask * 3:=by
  unfold SetTable.tooFull
  rw[decide_eq_true_eq,q9,asH]
 by_cases hfu:t1.tooFull=true
 ·first
   |(refine wpAny_bind ?_;refine wp_if_pos (by simp[hfu]) ?_)
   |(refine wp_if_pos (by simp[hfu]) ?_;refine wpAny_bind ?_)
  have over:=full.mp hfu
  rw[len]
  have psz:t1.place.size=es1.size:=by
   have:=q3.sz
   rw[asH,lenM]at this
   rw[this,len1]
  have which:(t.mask=7/\L.length=4)∨(t.mask=31/\L.length=18):=by
   rcases R.tab.mok with e|e|e
   ·rw[q4,e]at over;rw[e]at hfree;exact Or.inl ⟨e,by omega⟩
   ·rw[q4,e]at over;rw[e]at hfree;exact Or.inr ⟨e,by omega⟩
   ·rw[q4,e]at over;omega
  have go:∀m,SetTable.sizeAbove (SetTable.grown (L.length+1)) - 1=m->MaskOk m->SetTable.sizeAbove (SetTable.grown (L.length+1))<=128->(L.length+1) * 5 < m * 3->
    wpAny (model P w) A (setRelay a (SetTable.grown (L.length+1))) (fun _ u=>wpAny (model P w) A (pure true) Q E u) E { s with heap:=h1 }:=fun m g1 g2 g3 g4=>
   ami (s:={ s with heap:=h1 }) ho1 ⟨hex.1,hex.2.1,hex.2.2⟩ rfl ein psz q3.dm (by rw[len1,q4];rcases which with⟨e,e2⟩|⟨e,e2⟩ <;> omega) nd1 ky1 pl1 ld1 (by rw[lenM];exact few1) g1 g2 g3 (by rw[lenM];exact g4)
    fun h2 K es2 ep2 t2 sb2 R2 pm2=>wpAny_pure (q true h2 K es2 ep2 t2 (sb.trans sb2) R2 (fun z=>absurd z hm) fun _=>pm2.trans pm)
  rcases which with⟨_,e2⟩|⟨_,e2⟩
  ·exact go 31 (by rw[e2,size_20]) (.inr (.inl rfl)) (by rw[e2,size_20];decide) (by omega)
  ·exact go 127 (by rw[e2,size_76]) (.inr (.inr rfl)) (by rw[e2,size_76];decide) (by omega)
 ·first
   |refine wp_if_neg (by simp[hfu]) ?_
   |(refine wpAny_bind ?_;refine wp_if_neg (by simp[hfu]) ?_;refine wpAny_pure ?_)
  have under:¬(L.length+1) * 5 ≥ t1.mask * 3:=fun z=>hfu (full.mpr z)
  exact wpAny_pure (q true h1 M es1 (ep+1) t1 sb ⟨⟨_,ho1,⟨hex.1,hex.2.1,hex.2.2⟩,rfl⟩,ein,q3,nd1,ky1,pl1,ld1,by rw[lenM];omega,by rw[lenM];exact few1⟩ (fun z=>absurd z hm) fun _=>pm)
end
theorem Dh{α:Type}[DecidableEq α]:∀(l D:List α),l.Nodup->(∀x∈l,x∈D)->l.length<=D.length
 |[],_,_,_=>ath _
 |x::l,D,hn,hs=>by
  obtain⟨h1,h2⟩:=atu.mp hn
  have mx:=hs x asz
  have ih:=Dh l (D.erase x) h2 fun y hy=>(List.mem_erase_of_ne (fun e=>h1 (by rw[←e];exact hy))).2 (hs y (asy _ hy))
  have e:=List.length_erase_of_mem mx
  have hp:=List.length_pos_of_mem mx
  rw[asM]
  omega
structure Has(ks:List Ent)(i:Nat)(L:List Ent):Prop where
 sub:∀p∈L,p∈ks.take i
 all:∀p∈ks.take i,p.2∈L.map Prod.snd
theorem Ew{α:Type}{l:List α}{i:Nat}{x:α}(h:l[i]?=some x):l.take (i+1)=l.take i++[x]:=by
 rw[List.take_add_one,h]
 rfl
theorem Has.next{ks L K:List Ent}{i:Nat}{x:Ent}(g:Has ks i L)(h:ks[i]?=some x)(h1:x.2∈L.map Prod.snd->K=L)(h2:x.2∉L.map Prod.snd->K.Perm (x::L)):Has ks (i+1) K:=by
 by_cases c:x.2∈L.map Prod.snd
 ·rw[h1 c]
  refine⟨fun p hp=>?_,fun p hp=>?_⟩
  ·rw[Ew h]
   exact atf _ (g.sub p hp)
  ·rw[Ew h]at hp
   rcases asO.mp hp with m|m
   ·exact g.all p m
   ·rw[asB.mp m]
    exact c
 ·have pm:=h2 c
  refine⟨fun p hp=>?_,fun p hp=>?_⟩
  ·rw[Ew h]
   rcases asN.mp (pm.mem_iff.mp hp) with e|m
   ·exact atD _ (asB.mpr e)
   ·exact atf _ (g.sub p m)
  ·rw[(pm.map Prod.snd).mem_iff,asx]
   rw[Ew h]at hp
   rcases asO.mp hp with m|m
   ·exact asy _ (g.all p m)
   ·rw[asB.mp m]
    exact asz
def zL(w:World):Obj:={ cls:=.type "set",dict:=none,data:=.set #[] 0 (.fresh 0 0 (!w.params.followText "set-order")) }
section
variable{P:Program}{w:World}{A:Around}{E:Value->Shared->Prop}{s:Shared}{hf:Rw->Int}
theorem qP.stay{h h':Heap}{a:Addr}{L:List Ent}{es:Array (Int×Value)}{ep:Nat}{t:SetTable}(R:qP hf w h a L es ep t)(ha:∀o,h.get? a=some o->h'.get? a=some o)(hk:∀p∈L,RI h' p.2 p.1):qP hf w h' a L es ep t:=by
 obtain⟨o,ho,r⟩:=R.ob
 exact⟨⟨o,ha o ho,r⟩,R.en,R.tab,R.nd,hk,R.pl,R.ld,R.free,R.few⟩
theorem agt{h:Heap}{a:Addr}(ho:h.get? a=some (zL w)):qP hf w h a [] #[] 0 (.fresh 0 0 (!w.params.followText "set-order")):=by
 refine⟨⟨_,ho,⟨rfl,rfl,rfl⟩,rfl⟩,rfl,⟨List.Pairwise.nil,rfl,rfl,.inl rfl,fun x hx=>(by cases hx),fun i h j hi=>(by simp at hi)⟩,atR,fun p hp=>(by cases hp),rfl,?_,(show 0 * 5 < 7 * 3 by decide),ath _⟩
 show _∨(!w.params.followText "set-order")=true
 cases w.params.followText "set-order"
 ·exact .inr rfl
 ·exact .inl rfl
theorem aie(hhf:∀r,(nR P w).hash r=hf r){I:Addr}{fp wr:List Addr}{G:Array GenState->Array GenState->Prop}{n:Nat}{Pv:Nat->Value->Prop}{St:Nat->Shared->Prop}{R:Result->Shared->Prop}(W:WalksS P w A.in1 I fp wr G n Pv St)(S:Addr)(hSf:S∉fp)(ks:List Ent)(hn:n=ks.length)
  (D:List Rw) (hD:D.length<=76) (hkD:∀p∈ks,p.2∈D) (hval:∀i v,Pv i v->∃p,ks[i]?=some p/\v=.ref p.1) (h0:Heap) (hk:∀p∈ks,RI h0 p.2 p.1) (hS0:h0.get? S=none) (hw0:∀b∈wr,h0.get? b=none) (hu:(nR P w).room A.in1) :
  ∀(m i:Nat) (s:Shared),n - i=m->i<=n->St i s->(∀b o,h0.get? b=some o->s.heap.get? b=some o)->(∃L es ep t,qP hf w s.heap S L es ep t/\Has ks i L)->
   (∀u L es ep t,Moved (S::wr) G s u->qP hf w u.heap S L es ep t->Has ks n L->(∀b o,h0.get? b=some o->u.heap.get? b=some o)->R (.ok (.ret .none)) u)->
   codeAny (model P w) A (.builtin "set.update.loop" ⟨[.ref S,.ref I],[]⟩) R s:=by
 have Sw:S∉wr:=fun h=>hSf (W.sub _ h)
 have wS:∀b∈wr,b∈S::wr:=fun b hb=>asy _ hb
 have old:∀{s u:Shared},Moved wr G s u->(∀b o,h0.get? b=some o->s.heap.get? b=some o)->∀b o,h0.get? b=some o->u.heap.get? b=some o:=fun hm hkp b o e=>hm.heap b o (fun hb=>by rw[hw0 b hb]at e;cases e) (hkp b o e)
 intro m
 induction m with
 |zero=>
  intro i s hm0 hi hst hkp ⟨L,es,ep,t,hS,g⟩ hR
  obtain rfl:i=n:=by omega
  refine codeAny_builtin PyProof.Rows.F.entry_set_update_loop ?_
  rw[Around.under_plainId PyProof.Rows.F.plain_set_update_loop _]
  refine wpAny_bind (W.done s _ _ hst fun u hm=>?_)
  have kept:=old hm hkp
  exact wpAny_pure (hR u L es ep t (hm.mono wS) (hS.stay (fun o e=>hm.heap S o Sw e) fun p hp=>Ut (hk p (atH (g.sub p hp))) kept) g kept)
 |succ m ih=>
  intro i s hm0 hi hst hkp ⟨L,es,ep,t,hS,g⟩ hR
  have hlt:i < n:=by omega
  refine codeAny_builtin PyProof.Rows.F.entry_set_update_loop ?_
  rw[Around.under_plainId PyProof.Rows.F.plain_set_update_loop _]
  refine wpAny_bind (W.item i s _ _ hlt hst fun v u hP hst' hm=>?_)
  obtain⟨p,hp,rfl⟩:=hval i v hP
  have kept:=old hm hkp
  have hS':qP hf w u.heap S L es ep t:=hS.stay (fun o e=>hm.heap S o Sw e) fun q hq=>Ut (hk q (atH (g.sub q hq))) kept
  have hx:RI u.heap p.2 p.1:=Ut (hk p (asC hp)) kept
  refine wpAny_bind (wpAny_holding ?_)
  unfold setAdd
  refine wpAny_holding ?_
  refine wpAny_bind ((nR P w).pyHash hu hx ?_)
  rw[hhf]
  have inD:∀y∈L.map Prod.snd,y∈D:=fun y hy=>by
   obtain⟨q,hq,e⟩:=asJ.mp hy
   rw[←e]
   exact hkD q (atH (g.sub q hq))
  refine akU (s:={ u with toks:=u.toks+(nR P w).draws p.2 }) hS' hx hu (fun hnew=>?_) fun b h' K es' ep' t' sb hS2 c1 c2=>?_
  ·have:=Dh (p.2::L.map Prod.snd) D (atu.mpr ⟨hnew,hS.nd⟩) fun y hy=>by
    rcases asN.mp hy with e|hy
    ·rw[e];exact hkD p (asC hp)
    ·exact inD y hy
   rw[asM,asH]at this
   omega
  have kept2:∀b o,h0.get? b=some o->h'.get? b=some o:=fun b o e=>(sb.2 b (fun z=>by rw[z,hS0]at e;cases e)).trans (kept b o e)
  refine wpAny_pure ⟨plainId_quiet PyProof.Rows.F.plain_set_update_loop _,ih (i+1) _ (by omega) hlt (W.frame _ u _ _ hst' (Nat.le_add_right _ _) fun b hb o e=>?_) kept2 ⟨K,es',ep',t',hS2,g.next hp c1 c2⟩ fun v L2 es2 ep2 t2 hm2 hS3 g3 k3=>?_⟩
  ·rw[sb.2 b (fun h:b=S=>hSf (by rw[←h];exact hb))];exact e
  ·refine hR v L2 es2 ep2 t2 (Moved.trans W.gtrans ((hm.mono wS).then_heap (Nat.le_add_right _ _) fun b o hb e=>?_) hm2) hS3 g3 k3
   rw[sb.2 b (fun h:b=S=>hb (by rw[h];exact asz))];exact e
set_option maxHeartbeats 4000000 in
theorem aaS(hhf:∀r,(nR P w).hash r=hf r){l:Addr}{items:Array Value}(ks:List Ent)(D:List Rw)(hD:D.length<=76)(hkD:∀p∈ks,p.2∈D){Q:Value->Shared->Prop}(hh:A.handled=none)(hl:s.heap.IsList l items)(hit:items.toList=ks.map fun p=>Value.ref p.1)
  (hk:∀p∈ks,RI s.heap p.2 p.1) (hu:A.units+3+8 < cLine)
  (h:∀(h':Heap) (tk:Nat) L es ep t,qP hf w h' s.heap.objs.size L es ep t->Has ks ks.length L->(∀b o,s.heap.get? b=some o->h'.get? b=some o)->Q (.ref s.heap.objs.size) { s with heap:=h',toks:=tk }) :
  wpAny (model P w) A (call (.type "set") [.ref l]) Q E s:=by
 have isz:items.size=ks.length:=by
  rw[←atd,hit,asH]
 obtain⟨cc,tl,hmro⟩:=PySem.F.called_set.mro
 have hmade:=PySem.F.called_set.made
 have hsub:=PySem.F.called_set.sub
 refine wpAny_call (codeAny_of_tree ?_)
 show wpAny _ _ (callAny (.type "set") _) _ _ _
 refine wpAny_pure ⟨Code.quiet_builtin _ (by decide +kernel),codeAny_builtin PySem.F.entry_type_call ?_⟩
 rw[Around.under_plain (weight_type_call_type "set" [.ref l] []) rfl]
 have nt:=PySem.F.called_set.notType
 have cr:=PySem.F.called_set.canCreate
 have hct:=PySem.F.typeCall_set_1 (.ref l)
 (repeat (any_goals first | assumption | wp_step))
 refine codeAny_mono (code_set_led1 (.ref l) (E:=E) (Q₁:=fun v u=>v=.ref s.heap.objs.size/\u={ s with heap:=s.heap.push (zL w) }) ⟨rfl,rfl⟩) fun r u hr=>?_
 cases r with
 |error e=>exact hr
 |ok fl=>
  cases fl with
  |ret v=>
   obtain⟨rfl,rfl⟩:=hr
   have hS:(s.heap.push (zL w)).get? s.heap.objs.size=some (zL w):=Heap.get?_push_size _ rfl
   have hT:Shared.TypeIs { s with heap:=s.heap.push (zL w) } (.ref s.heap.objs.size) "set":=⟨_,hS,rfl⟩
   have hli:=PySem.F.called_set.init.lookup
   have hbi:=PySem.F.called_set.init.bind (.ref s.heap.objs.size)
   (repeat (any_goals first | assumption | wp_step))
   refine codeAny_mono (codeAny_call_builtin (R:=wants (fun r u=>r=.none/\∃h' tk L es ep t,u={ s with heap:=h',toks:=tk }/\qP hf w h' s.heap.objs.size L es ep t/\Has ks ks.length L/\∀b o,s.heap.get? b=some o->h'.get? b=some o) E) PySem.F.called_set.init.plain PySem.F.entry_set_init (check_set_init_1 hT ?_)) fun r₂ u₂ hr₂=>?_
   ·obtain⟨ol,hol,hcl,nl,hdl⟩:=hl
    obtain⟨ocls,odict,odata,oslots⟩:=ol
    simp only at hcl hdl
    subst hcl;subst hdl
    have hol':(s.heap.push (zL w)).get? l=some { cls:=.type "list",dict:=odict,data:=.seq items nl,slots:=oslots }:=Heap.get?_push_of_some _ hol
    have sl1:=PySem.F.sub_list_set
    have sl2:=PySem.F.sub_list_frozenset
    have nd:(Value.type "list"==Value.type "dict")=false:=by decide
    have hl1:(s.heap.push (zL w)).IsList l items:=⟨_,hol',rfl,nl,rfl⟩
    unfold Builtin.«set.__init__» noKeywords Builtin.Frozenset.updateFrom
    generalize hPI:pyIter=PI
    wp_walk
    subst hPI
    refine wpAny_pyIter_list hl1 ?_
    refine wpAny_bind (wpAny_runValue ?_)
    have lS:l < s.heap.objs.size:=Heap.lt_size hol
    have h3:A.in1.in1.in1.handled=none:=by simp[hh]
    have sz1:(s.heap.push (zL w)).objs.size=s.heap.objs.size+1:=Heap.size_push ..
    have lI:l≠(s.heap.push (zL w)).objs.size:=by rw[sz1];exact ata (atF lS)
    have Sf:s.heap.objs.size∉[(s.heap.push (zL w)).objs.size,l]:=by
     rw[sz1]
     simp only[asN,atc,or_false,not_or]
     exact⟨ata (Nat.lt_succ_self _),Nat.ne_of_gt lS⟩
    have hval:∀(i:Nat) (v:Value),items[i]?=some v->∃p,ks[i]?=some p/\v=.ref p.1:=fun i v hv=>by
     rw[←ati,hit,asI]at hv
     obtain⟨p,g1,g2⟩:=atp.mp hv
     exact⟨p,g1,g2.symm⟩
    have fresh:∀b,s.heap.objs.size<=b->s.heap.get? b=none:=fun b hb=>by
     cases q:s.heap.get? b with
     |none=>rfl
     |some o=>exact absurd (Heap.lt_size q) (Nat.not_lt_of_le hb)
    refine aie hhf ((Walks.list h3 _ l lI items).toS) s.heap.objs.size Sf ks isz D hD hkD hval s.heap hk (fresh _ (as3 _)) (fun b hb=>fresh b (by rw[asB.mp hb,sz1];exact Nat.le_succ _)) hu (items.size - 0) 0 _ (by omega) (ath _)
     ⟨⟨_,Heap.get?_push_size _ rfl,rfl,rfl⟩,(hl1.push _)⟩ (fun b o e=>Heap.get?_push_of_some _ (Heap.get?_push_of_some _ e)) ⟨[],#[],0,_,agt (Heap.get?_push_of_some _ hS),⟨fun p hp=>(by cases hp),fun p hp=>(by simp at hp)⟩⟩ fun u L es ep t hm hS' g' kp=>?_
    obtain⟨h',g2,d',tk',os'⟩:=u
    have eg:g2=s.gens:=hm.gens
    have ed:d'=s.drawn:=hm.drawn
    have eo:os'=s.os:=hm.os
    subst eg;subst ed;subst eo
    refine wpAny_pure ?_
    rw[isz]at g'
    exact wpAny_pure ⟨rfl,h',tk',L,es,ep,t,rfl,hS',g',kp⟩
   ·cases r₂ with
    |error e=>exact hr₂
    |ok fl₂=>
     cases fl₂ with
     |ret r=>
      obtain⟨rfl,h',tk,L,es,ep,t,rfl,hS',g',hk'⟩:=hr₂
      (repeat (any_goals first | assumption | wp_step))
      exact h _ _ _ _ _ _ hS' g' hk'
     |_=>exact hr₂.elim
  |_=>exact hr.elim
end
def acL(w:World)(h:Heap)(a:Addr)(L:List Ent):Prop:=∃(hf:Rw->Int) (es:Array (Int×Value)) (ep:Nat) (t:SetTable),(∃o,h.get? a=some o/\o.ExactSet/\o.data=.set es ep t)/\es.toList=ents hf L/\t.fits es.size=true/\Ris t.place.toList/\(w.params.followText "set-order"=true∨t.led=true)
def NP(w:World)(a:Addr)(L:List Ent):HO:=.ext fun h=>acL w h a L
section
variable{X:Cx}
theorem W3{P:Program}{w:World}{h:Heap}:∀(l:List Int) (us:List Value),Vals (l.map V.int) us->NestedAll h (l.map .num) us
 |[],_,.nil=>.nil
 |i::l,_,.cons r t=>by
  obtain⟨tk,rfl⟩:=r
  exact .cons (.int i tk) (W3 (P:=P) (w:=w) l _ t)
theorem WK:∀{ks:List Ent} {us:List Value},Vals (ks.map fun p=>V.ref p.1) us->us=ks.map fun p=>Value.ref p.1
 |[],_,.nil=>rfl
 |p::ks,_,.cons r t=>by
  cases r
  rw[WK t]
  rfl
theorem WY{L:List Ent}:∀(out:List Value) (M:List Rw),PySem.W.EachIs (fun v (r:Rw)=>∃p∈L,v=Value.ref p.1/\r=p.2) out M->∃ys:List V,Vals ys out/\fD (fun v (r:Rw)=>∃p∈L,v=V.ref p.1/\r=p.2) ys M
 |[],[],.nil=>⟨[],.nil,fD.nil⟩
 |_::out,_::M,.cons ⟨p,hp,e1,e2⟩ k=>by
  obtain⟨ys,h1,h2⟩:=WY out M k
  subst e1 e2
  refine⟨.ref p.1::ys,.cons rfl h1,by rw[asM,asM,h2.1],fun j u y g1 g2=>?_⟩
  cases j with
  |zero=>
   cases g1
   cases g2
   exact⟨p,hp,rfl,rfl⟩
  |succ j=>exact h2.2 j u y g1 g2
end
def gF(da dc:Addr):List (Str×V):=putF ("circles" : Str) (.ref dc) (putF ("allowances" : Str) (.ref da) [])
structure af2(C:Addr)(H:Hp)(p da dc:Addr)(al:List Int)(ci:List (List Int)):Prop where
 ob:∃dx,H p=some (.ins C dx (gF da dc))
 la:H da=some (.lst (al.map V.int))
 lc:∃us,H dc=some (.lst us)/\fD (Jj H) us ci
 ne:da≠dc
theorem af2.mono{C:Addr}{H H':Hp}(e:Ex H H'){p da dc:Addr}{al:List Int}{ci:List (List Int)}(g:af2 C H p da dc al ci):af2 C H' p da dc al ci:=by
 obtain⟨⟨dx,ob⟩,la,⟨us,h1,h2⟩,ne⟩:=g
 exact⟨⟨dx,e _ _ ob⟩,e _ _ la,⟨us,e _ _ h1,h2.imp fun _ _ r=>r.mono e⟩,ne⟩
end Ear
namespace Rf
open PySem PySem.Spec PyProof.Rows L2 Evl
abbrev obj(h:Nat):Dat:=PyData.dict [(PyData.none,PyData.int (Int.ofNat h))]
inductive jd where
 |dat (d:Dat)|lst (n:Nat) (xs:List Dat)|dic (n:Bool) (kvs:List (Dat×Dat))
structure aU where
 f:Str->Option Addr
 fl:Str->List Str
 w:World
instance:CoeFun aU fun _=>Str->Option Addr:=⟨aU.f⟩
structure Inst where
 cls:Str
 fs:List (Str×jd)
abbrev Mo:=List Inst
inductive Cell where
 |dat (d:Dat)|mut (xs:List Dat)
abbrev Env:=List (Option Cell)
structure dD where
 cls:Str
 fs:List (Str×Dat)
inductive Out(α:Type) where
 |ok (a:α)|exc (x:dD)|bad
inductive bx(α:Type) where
 |ok (a:α) (M:Mo)|exc (x:dD) (M:Mo)|bad
inductive tV where
 |next (ρ:Env) (M:Mo)|ret (d:Dat) (M:Mo)|brk (ρ:Env) (M:Mo)|cont (ρ:Env) (M:Mo)|exc (x:dD) (ρ:Env) (M:Mo)|bad
structure Gh where
 tbl:List Addr
 ow:Addr->Option (Nat×Str)
 Lc:Addr->Prop
 Lo:Addr->Prop
def Gh.W(g:Gh)(a:Addr):Prop:=a∈g.tbl∨g.ow a≠none
def Gh.A(g:Gh)(a:Addr):Prop:=g.W a∨g.Lc a∨g.Lo a
def Ir:HO->Prop
 |.tup _=>False
 |.frz _ _=>False
 |_=>True
def aoJ(K:asr)(a:Addr)(xs:List V):Prop:=∃(o:Obj) (its:Array Value) (n:Nat),K.lookup a=some o/\o.cls=.type "list"/\o.dict=none/\o.data=.seq its n/\its.size<=sizeLine/\Vals xs its.toList
def Px(K:asr)(g:Gh)(H:Hp)(a:Addr)(xs:List V):Prop:=(Rd H a (.lst xs)/\¬g.A a)∨aoJ K a xs
theorem Px.sq{K:asr}{g:Gh}{H:Hp}{a:Addr}{xs:List V}(h:Px K g H a xs):SqL K H a xs:=h.elim (fun z=>.inl z.1) .inr
mutual
inductive Rep(K:asr)(g:Gh)(H:Hp):V->Dat->Prop
 |non:Rep K g H .non .none
 |bl (b:Bool):Rep K g H (.bl b) (.bool b)
 |int (i:Int):Rep K g H (.int i) (.int i)
 |str (x:Str):Rep K g H (.str x) (.str x)
 |tup {a:Addr} {xs:List V} {ds:List Dat}:SqT K H a xs->aK K g H xs ds->Rep K g H (.ref a) (.tuple ds)
 |lst {a:Addr} {xs:List V} {ds:List Dat}:Px K g H a xs->aK K g H xs ds->Rep K g H (.ref a) (.list ds)
 |obj {a:Addr} {h:Nat}:g.tbl[h]?=some a->Rep K g H (.ref a) (obj h)
inductive aK(K:asr)(g:Gh)(H:Hp):List V->List Dat->Prop
 |nil:aK K g H [] []
 |cons {v:V} {vs:List V} {d:Dat} {ds:List Dat}:Rep K g H v d->aK K g H vs ds->aK K g H (v::vs) (d::ds)
end
structure Kd(g:Gh)(H:Hp):Prop where
 ob:∀a,g.A a->∃o,H a=some o/\Ir o
 lo:∀a,g.Lo a->¬g.W a
 lc:∀a,g.Lc a->¬g.W a/\¬g.Lo a
structure Gr(q:Bool)(g g':Gh)(H H':Hp):Prop where
 keep:∀a o,H a=some o->¬g.W a->¬g.Lo a->H' a=some o
 keepW:q=true->∀a o,H a=some o->g.W a->H' a=some o
 dom:∀a,H' a=none->H a=none
 tbl:∃more,g'.tbl=g.tbl++more
 W:∀a,g.W a->g'.W a
 nW:∀a,g'.W a->g.W a∨H a=none
 qg:q=true->g'.tbl=g.tbl/\g'.ow=g.ow
 Lc:g'.Lc=g.Lc
 Lo:∀a,g.Lo a->g'.Lo a
 nLo:∀a,g'.Lo a->g.Lo a∨H a=none
section
variable{K:asr}{q:Bool}{g g' g2:Gh}{H H' H2:Hp}{v:V}{d:Dat}
theorem Gr.refl:Gr q g g H H:=⟨fun _ _ h _ _=>h,fun _ _ _ h _=>h,fun _ h=>h,⟨[],by simp⟩,fun _ h=>h,fun _ h=>.inl h,fun _=>⟨rfl,rfl⟩,rfl,fun _ h=>h,fun _ h=>.inl h⟩
theorem DG(e:Ex H H'):∀a,H' a=none->H a=none:=fun a h=>by
 cases h1:H a with
 |none=>rfl
 |some o=>
  rw[e a o h1]at h
  cases h
theorem Gr.ex(e:Ex H H'):Gr q g g H H':=⟨fun a o h _ _=>e a o h,fun _ a o h _=>e a o h,DG e,⟨[],by simp⟩,fun _ h=>h,fun _ h=>.inl h,fun _=>⟨rfl,rfl⟩,rfl,fun _ h=>h,fun _ h=>.inl h⟩
theorem Gr.trans(a:Gr q g g' H H')(b:Gr q g' g2 H' H2):Gr q g g2 H H2 where
 keep:=fun x o h nw nl=>by
  have h1:=a.keep x o h nw nl
  refine b.keep x o h1 (fun z=>?_) (fun z=>?_)
  ·rcases a.nW x z with z|z
   ·exact nw z
   ·rw[h]at z
    cases z
  ·rcases a.nLo x z with z|z
   ·exact nl z
   ·rw[h]at z
    cases z
 keepW:=fun hq x o h w=>b.keepW hq x o (a.keepW hq x o h w) (a.W x w)
 dom:=fun x h=>a.dom x (b.dom x h)
 tbl:=by
  obtain⟨m1,e1⟩:=a.tbl
  obtain⟨m2,e2⟩:=b.tbl
  exact⟨m1++m2,by rw[e2,e1,List.append_assoc]⟩
 W:=fun x h=>b.W x (a.W x h)
 nW:=fun x h=>by
  rcases b.nW x h with z|z
  ·exact a.nW x z
  ·exact .inr (a.dom x z)
 qg:=fun hq=>by
  obtain⟨e1,e2⟩:=a.qg hq
  obtain⟨f1,f2⟩:=b.qg hq
  exact⟨f1.trans e1,f2.trans e2⟩
 Lc:=b.Lc.trans a.Lc
 Lo:=fun x h=>b.Lo x (a.Lo x h)
 nLo:=fun x h=>by
  rcases b.nLo x h with z|z
  ·exact a.nLo x z
  ·exact .inr (a.dom x z)
theorem Gr.loud(a:Gr q g g' H H'):Gr false g g' H H':=⟨a.keep,(fun h=>nomatch h),a.dom,a.tbl,a.W,a.nW,(fun h=>nomatch h),a.Lc,a.Lo,a.nLo⟩
theorem Gr.nA(r:Gr q g g' H H'){a:Addr}{o:HO}(h:H a=some o)(n:¬g.A a):¬g'.A a:=fun z=>by
 rcases z with z|z|z
 ·rcases r.nW a z with z|z
  ·exact n (.inl z)
  ·rw[h]at z
   cases z
 ·rw[r.Lc]at z
  exact n (.inr (.inl z))
 ·rcases r.nLo a z with z|z
  ·exact n (.inr (.inr z))
  ·rw[h]at z
   cases z
theorem Gr.rd(r:Gr q g g' H H'){a:Addr}{o:HO}(h:Rd H a o)(n:¬g.A a):Rd H' a o/\¬g'.A a:=by
 rcases h with h|⟨z,h⟩
 ·exact⟨.inl (r.keep a _ h (fun w=>n (.inl w)) fun w=>n (.inr (.inr w))),r.nA h n⟩
 ·exact⟨.inr ⟨z,r.keep a _ h (fun w=>n (.inl w)) fun w=>n (.inr (.inr w))⟩,r.nA h n⟩
theorem Kd.tup(k:Kd g H){a:Addr}{xs:List V}(h:Rd H a (.tup xs)):¬g.A a:=fun z=>by
 obtain⟨o,e,m⟩:=k.ob a z
 rcases h with h|⟨y,h⟩ <;> (rw[h]at e;cases e;exact m)
theorem Gr.sqT(r:Gr q g g' H H')(k:Kd g H){a:Addr}{xs:List V}(h:SqT K H a xs):SqT K H' a xs:=by
 rcases h with h|h
 ·exact .inl (r.rd h (k.tup h)).1
 ·exact .inr h
theorem Gr.ls(r:Gr q g g' H H'){a:Addr}{xs:List V}(h:Px K g H a xs):Px K g' H' a xs:=by
 rcases h with⟨h,n⟩|h
 ·exact .inl (r.rd h n)
 ·exact .inr h
theorem Gr.tb(r:Gr q g g' H H'){h:Nat}{a:Addr}(e:g.tbl[h]?=some a):g'.tbl[h]?=some a:=by
 obtain⟨m,em⟩:=r.tbl
 rw[em,asK (asv.mp e).1]
 exact e
mutual
theorem Rep.gr(r:Gr q g g' H H')(k:Kd g H):∀{v:V} {d:Dat},Rep K g H v d->Rep K g' H' v d
 |_,_,.non=>.non
 |_,_,.bl b=>.bl b
 |_,_,.int i=>.int i
 |_,_,.str x=>.str x
 |_,_,.tup h t=>.tup (r.sqT k h) (aK.gr r k t)
 |_,_,.lst h t=>.lst (r.ls h) (aK.gr r k t)
 |_,_,.obj h=>.obj (r.tb h)
theorem aK.gr(r:Gr q g g' H H')(k:Kd g H):∀{vs:List V} {ds:List Dat},aK K g H vs ds->aK K g' H' vs ds
 |_,_,.nil=>.nil
 |_,_,.cons h t=>.cons (Rep.gr r k h) (aK.gr r k t)
end
mutual
theorem Rep.less(e:g'.tbl=g.tbl)(n:∀a,g'.A a->g.A a):∀{v:V} {d:Dat},Rep K g H v d->Rep K g' H v d
 |_,_,.non=>.non
 |_,_,.bl b=>.bl b
 |_,_,.int i=>.int i
 |_,_,.str x=>.str x
 |_,_,.tup h t=>.tup h (aK.less e n t)
 |_,_,.lst h t=>.lst (h.elim (fun z=>.inl ⟨z.1,fun y=>z.2 (n _ y)⟩) .inr) (aK.less e n t)
 |_,_,.obj h=>.obj (by rw[e];exact h)
theorem aK.less(e:g'.tbl=g.tbl)(n:∀a,g'.A a->g.A a):∀{vs:List V} {ds:List Dat},aK K g H vs ds->aK K g' H vs ds
 |_,_,.nil=>.nil
 |_,_,.cons h t=>.cons (Rep.less e n h) (aK.less e n t)
end
mutual
def lf:Dat->Bool
 |.list _=>false
 |.tuple ds=>Ot ds
 |.dict _=>true
 |.none=>true
 |.bool _=>true
 |.int _=>true
 |.str _=>true
def Ot:List Dat->Bool
 |[]=>true
 |d::ds=>lf d&&Ot ds
end
mutual
theorem Rep.free(e:g'.tbl=g.tbl):∀{v:V} {d:Dat},lf d=true->Rep K g H v d->Rep K g' H v d
 |_,_,_,.non=>.non
 |_,_,_,.bl b=>.bl b
 |_,_,_,.int i=>.int i
 |_,_,_,.str x=>.str x
 |_,_,f,.tup h t=>.tup h (aK.free e (by rw[lf]at f;exact f) t)
 |_,_,f,.lst h t=>by rw[lf]at f;cases f
 |_,_,_,.obj h=>.obj (by rw[e];exact h)
theorem aK.free(e:g'.tbl=g.tbl):∀{vs:List V} {ds:List Dat},Ot ds=true->aK K g H vs ds->aK K g' H vs ds
 |_,_,_,.nil=>.nil
 |_,_,f,.cons h t=>.cons (Rep.free e (by rw[Ot,asu]at f;exact f.1) h) (aK.free e (by rw[Ot,asu]at f;exact f.2) t)
end
theorem aK.length:∀{vs:List V} {ds:List Dat},aK K g H vs ds->vs.length=ds.length
 |_,_,.nil=>rfl
 |_,_,.cons _ t=>congrArg (· + 1) t.length
theorem aK.get:∀{vs:List V} {ds:List Dat} {i:Nat} {d:Dat},aK K g H vs ds->ds[i]?=some d->∃v,vs[i]?=some v/\Rep K g H v d
 |_,_,_,_,.nil,e=>by simp at e
 |_,_,0,_,.cons h _,e=>by simp at e;subst e;exact⟨_,rfl,h⟩
 |_,_,i+1,_,.cons _ t,e=>by simpa using t.get (i:=i) (by simpa using e)
theorem aK.get':∀{vs:List V} {ds:List Dat} {i:Nat} {v:V},aK K g H vs ds->vs[i]?=some v->∃d,ds[i]?=some d/\Rep K g H v d
 |_,_,_,_,.nil,e=>by simp at e
 |_,_,0,_,.cons h _,e=>by simp at e;subst e;exact⟨_,rfl,h⟩
 |_,_,i+1,_,.cons _ t,e=>by simpa using t.get' (i:=i) (by simpa using e)
theorem aK.append:∀{vs ws:List V} {ds es:List Dat},aK K g H vs ds->aK K g H ws es->aK K g H (vs++ws) (ds++es)
 |_,_,_,_,.nil,t=>t
 |_,_,_,_,.cons h r,t=>.cons h (r.append t)
theorem aK.take:∀{vs:List V} {ds:List Dat} (n:Nat),aK K g H vs ds->aK K g H (vs.take n) (ds.take n)
 |_,_,0,_=>.nil
 |_,_,_+1,.nil=>.nil
 |_,_,n+1,.cons h t=>.cons h (t.take n)
theorem aK.drop:∀{vs:List V} {ds:List Dat} (n:Nat),aK K g H vs ds->aK K g H (vs.drop n) (ds.drop n)
 |_,_,0,t=>t
 |_,_,_+1,.nil=>.nil
 |_,_,n+1,.cons _ t=>t.drop n
theorem aK.set{v:V}{d:Dat}(r:Rep K g H v d):∀{vs:List V} {ds:List Dat} (i:Nat),aK K g H vs ds->aK K g H (vs.set i v) (ds.set i d)
 |_,_,_,.nil=>.nil
 |_,_,0,.cons _ t=>.cons r t
 |_,_,i+1,.cons h t=>.cons h (t.set r i)
theorem Gr.upd{l:Addr}{o o':HO}(k:Kd g H)(h:H l=some o)(w:(g.W l/\q=false)∨g.Lo l):Gr q g g H (L2.upd H l o') where
 keep:=fun a u e nw nl=>by
  rw[upd_ne (fun z=>by subst z;exact w.elim (fun w=>nw w.1) nl)]
  exact e
 keepW:=fun hq a u e wa=>by
  rcases w with w|w
  ·rw[hq]at w
   cases w.2
  ·rw[upd_ne (fun z=>by subst z;exact k.lo _ w wa)]
   exact e
 dom:=fun a e=>by
  by_cases z:a=l
  ·subst z
   rw[upd_same]at e
   cases e
  ·rw[upd_ne z]at e
   exact e
 tbl:=⟨[],by simp⟩
 W:=fun _ h=>h
 nW:=fun _ h=>.inl h
 qg:=fun _=>⟨rfl,rfl⟩
 Lc:=rfl
 Lo:=fun _ h=>h
 nLo:=fun _ h=>.inl h
theorem Kd.ex(k:Kd g H)(e:Ex H H'):Kd g H':=⟨fun a z=>let ⟨o,h,m⟩:=k.ob a z;⟨o,e a o h,m⟩,k.lo,k.lc⟩
theorem Kd.upd(k:Kd g H){l:Addr}{o:HO}(m:Ir o):Kd g (L2.upd H l o):=⟨fun a z=>by
 by_cases e:a=l
 ·subst e
  exact⟨o,upd_same,m⟩
 ·rw[upd_ne e]
  exact k.ob a z,k.lo,k.lc⟩
theorem Rep.ex(e:Ex H H')(k:Kd g H)(h:Rep K g H v d):Rep K g H' v d:=h.gr (Gr.ex (q:=true) e) k
theorem aK.ex{vs:List V}{ds:List Dat}(e:Ex H H')(k:Kd g H)(h:aK K g H vs ds):aK K g H' vs ds:=h.gr (Gr.ex (q:=true) e) k
end
def keyD:Key->Dat
 |.inl i=>.int i
 |.inr x=>.str x
def iT(l:Addr)(o:Obj):HO:=.ext fun h=>h.get? l=some o
abbrev m9:Type:=NestedKey×Addr×Value
def afr(w:World)(x:m9):DictEntry:=⟨x.1.hash w,.ref x.2.1,x.2.2⟩
structure lK(w:World)(l:Addr)(o:Obj)(xs:List m9):Prop where
 sys:(l==sysModules)=false
 ex:o.ExactDict
 ent:∃es ep,o.data=.dict es ep/\es.toList=xs.map (afr w)
 nd:(xs.map (·.1)).Nodup
 len:xs.length<=sizeLine
 dep:∀x∈xs,x.1.depth<=8
def jF(K:asr)(aj:aU)(g:Gh)(H:Hp)(l:Addr):Bool->List (Dat×Dat)->Prop
 |false,kvs=>∃kv:List (Key×V),H l=some (.dK kv)/\kvs.map (·.1)=kv.map (fun p=>keyD p.1)/\aK K g H (kv.map (·.2)) (kvs.map (·.2))
 |true,kvs=>∃(o:Obj) (xs:List m9) (vs:List V),H l=some (iT l o)/\lK aj.w l o xs/\kvs.map (·.1)=xs.map (fun x=>x.1.data)/\aK K g H (xs.map fun x=>V.ref x.2.1) (kvs.map (·.1))/\Vals vs (xs.map (·.2.2))/\aK K g H vs (kvs.map (·.2))
def dU(K:asr)(aj:aU)(g:Gh)(H:Hp)(h:Nat)(f:Str)(v:V):jd->Prop
 |.dat d=>Rep K g H v d
 |.lst n xs=>∃l us,v=.ref l/\H l=some (.lst us)/\g.ow l=some (h,f)/\aK K g H us xs/\g.tbl[n]?=some l
 |.dic n kvs=>∃l,v=.ref l/\g.ow l=some (h,f)/\jF K aj g H l n kvs
inductive cP(K:asr)(aj:aU)(g:Gh)(H:Hp)(h:Nat):List (Str×V)->List (Str×jd)->Prop
 |nil:cP K aj g H h [] []
 |cons {f:Str} {v:V} {fl:jd} {fs:List (Str×V)} {gs:List (Str×jd)}:dU K aj g H h f v fl->cP K aj g H h fs gs->cP K aj g H h ((f,v)::fs) ((f,fl)::gs)
structure fZ(K:asr)(aj:aU)(g:Gh)(H:Hp)(M:Mo):Prop where
 len:g.tbl.length=M.length
 inj:∀(h k:Nat) (a:Addr),g.tbl[h]?=some a->g.tbl[k]?=some a->h=k
 ins:∀(h:Nat) (a:Addr) (i:Inst),g.tbl[h]?=some a->M[h]?=some i->i.cls≠""->∃C dx fs,aj i.cls=some C/\H a=some (.ins C dx fs)/\cP K aj g H h fs i.fs
 nd:∀(h:Nat) (i:Inst),M[h]?=some i->(i.fs.map (·.1)).Nodup
 fd:∀(h:Nat) (i:Inst),M[h]?=some i->∀f∈i.fs.map (·.1),f∈aj.fl i.cls
 tw:∀(h:Nat) (a:Addr) (i:Inst),g.tbl[h]?=some a->M[h]?=some i->i.cls≠""->g.ow a=none
 dm:∀(h:Nat) (i:Inst),M[h]?=some i->i.cls=""->i.fs=[]
 nc:aj ""=none
structure SInv(K:asr)(aj:aU)(σ:L2.St)(H:Hp)(g:Gh)(ρ:Env)(M:Mo):Prop where
 kd:Kd g H
 wok:fZ K aj g H M
 len:σ.length=ρ.length
 dat:∀(i:Nat) (d:Dat),ρ[i]?=some (some (.dat d))->∃v,σ[i]?=some (some v)/\Rep K g H v d
 own:∀(i:Nat) (xs:List Dat),ρ[i]?=some (some (.mut xs))->∃l us,σ[i]?=some (some (.ref l))/\H l=some (.lst us)/\g.Lo l/\aK K g H us xs
 sep:∀(i j:Nat) (xs ys:List Dat) (l:Addr),i≠j->ρ[i]?=some (some (.mut xs))->ρ[j]?=some (some (.mut ys))->σ[i]?=some (some (.ref l))->σ[j]?≠some (some (.ref l))
section
variable{K:asr}{aj:aU}{q:Bool}{g g' g2:Gh}{H H' H2:Hp}{v:V}{d:Dat}{σ:L2.St}{ρ:Env}{M:Mo}
theorem jF.ex{l:Addr}:∀{n:Bool} {kvs:List (Dat×Dat)} (e:Ex H H') (k:Kd g H) (h:jF K aj g H l n kvs),jF K aj g H' l n kvs
 |false,_,e,k,⟨kv,h1,h2,h3⟩=>⟨kv,e _ _ h1,h2,h3.ex e k⟩
 |true,_,e,k,⟨o,xs,vs,h1,h2,h3,h4,h5,h6⟩=>⟨o,xs,vs,e _ _ h1,h2,h3,h4.ex e k,h5,h6.ex e k⟩
theorem dU.ex{h:Nat}{f:Str}(e:Ex H H')(k:Kd g H):∀{fl:jd},dU K aj g H h f v fl->dU K aj g H' h f v fl
 |.dat _,r=>Rep.ex e k r
 |.lst _ _,⟨l,us,h1,h2,h3,h4,h5⟩=>⟨l,us,h1,e _ _ h2,h3,h4.ex e k,h5⟩
 |.dic _ _,⟨l,h1,h2,h3⟩=>⟨l,h1,h2,h3.ex e k⟩
theorem cP.ex{h:Nat}(e:Ex H H')(k:Kd g H):∀{fs:List (Str×V)} {gs:List (Str×jd)},cP K aj g H h fs gs->cP K aj g H' h fs gs
 |_,_,.nil=>.nil
 |_,_,.cons r t=>.cons (dU.ex e k r) (cP.ex e k t)
theorem fZ.ex(e:Ex H H')(k:Kd g H)(w:fZ K aj g H M):fZ K aj g H' M:=⟨w.len,w.inj,fun h a i ha hi hc=>by
 obtain⟨C,dx,fs,c1,c2,c3⟩:=w.ins h a i ha hi hc
 exact⟨C,dx,fs,c1,e _ _ c2,c3.ex e k⟩,w.nd,w.fd,w.tw,w.dm,w.nc⟩
theorem SInv.ex(e:Ex H H')(I:SInv K aj σ H g ρ M):SInv K aj σ H' g ρ M:=⟨I.kd.ex e,I.wok.ex e I.kd,I.len,fun i d h=>by
 obtain⟨v,h1,h2⟩:=I.dat i d h
 exact⟨v,h1,h2.ex e I.kd⟩,fun i xs h=>by
 obtain⟨l,us,h1,h2,h3,h4⟩:=I.own i xs h
 exact⟨l,us,h1,e _ _ h2,h3,h4.ex e I.kd⟩,I.sep⟩
theorem cP.get{h:Nat}{f:Str}{fl:jd}:∀{fs:List (Str×V)} {gs:List (Str×jd)},cP K aj g H h fs gs->gs.lookup f=some fl->∃v,fs.lookup f=some v/\dU K aj g H h f v fl
 |_,_,.nil,e=>nomatch e
 |_,_,.cons (f:=f') (v:=v) (fl:=fl') r t,e=>by
  rw[as6]at e
  rw[as6]
  cases hb:f==f' with
  |true=>
   rw[hb]at e
   cases e
   have ef:f=f':=by simpa using hb
   subst ef
   exact⟨v,rfl,r⟩
  |false=>
   rw[hb]at e
   exact t.get e
theorem cP.no{h:Nat}{f:Str}:∀{fs:List (Str×V)} {gs:List (Str×jd)},cP K aj g H h fs gs->gs.lookup f=none->fs.lookup f=none
 |_,_,.nil,_=>rfl
 |_,_,.cons (f:=f') (v:=v) (fl:=fl') r t,e=>by
  rw[as6]at e
  rw[as6]
  cases hb:f==f' with
  |true=>
   rw[hb]at e
   cases e
  |false=>
   rw[hb]at e
   exact t.no e
end
def Out.bind{α β:Type}(o:Out α)(k:α->Out β):Out β:=
 match o with
 |.ok a=>k a
 |.exc x=>.exc x
 |.bad=>.bad
def Out.sat{α:Type}(o:Out α)(P:α->Prop)(E:dD->Prop):Prop:=
 match o with
 |.ok a=>P a
 |.exc x=>E x
 |.bad=>False
@[simp]theorem Out.zj {α β:Type} (a:α) (k:α->Out β):(Out.ok a).bind k=k a:=rfl
@[simp]theorem Out.afU {α β:Type} (x:dD) (k:α->Out β):(Out.exc x:Out α).bind k=.exc x:=rfl
@[simp]theorem Out.afV {α β:Type} (k:α->Out β):(Out.bad:Out α).bind k=.bad:=rfl
theorem Out.sat.bnd{α β:Type}{o:Out α}{k:α->Out β}{P:β->Prop}{E:dD->Prop}(h:(o.bind k).sat P E):o.sat (fun a=>(k a).sat P E) E:=by
 cases o <;> exact h
theorem Out.sat.mono{α:Type}{o:Out α}{P P':α->Prop}{E E':dD->Prop}(h:o.sat P E)(hp:∀a,P a->P' a)(he:∀x,E x->E' x):o.sat P' E':=by
 cases o
 ·exact hp _ h
 ·exact he _ h
 ·exact h
def Out.when{α:Type}(b:Bool)(o:Out α):Out α:=if b=true then o else .bad
@[simp]theorem Out.Wv {α:Type} (o:Out α):Out.when true o=o:=rfl
@[simp]theorem Out.amG {α:Type} (o:Out α):Out.when false o=.bad:=rfl
theorem Out.sat.qp{α:Type}{b:Bool}{o:Out α}{P:α->Prop}{E:dD->Prop}(h:(Out.when b o).sat P E):b=true/\o.sat P E:=by
 cases b
 ·exact False.elim h
 ·exact⟨rfl,h⟩
inductive lG(K:asr)(g:Gh)(H:Hp):List (Str×V)->List (Str×Dat)->Prop
 |nil:lG K g H [] []
 |cons {f:Str} {v:V} {d:Dat} {fs:List (Str×V)} {gs:List (Str×Dat)}:Rep K g H v d->lG K g H fs gs->lG K g H ((f,v)::fs) ((f,d)::gs)
def qJ(K:asr)(aj:aU)(g:Gh)(H:Hp)(x:dD)(c:Value)(dd:Option Addr):Prop:=
 ∃C,aj x.cls=some C/\c=.ref C/\((x.fs=[]/\dd=none)∨∃a fs,dd=some a/\H a=some (.xd fs)/\lG K g H fs x.fs)
abbrev QF:=Mo->Env->Out Dat
abbrev QT:=Mo->Env->Out Bool
abbrev QA:=Mo->Env->Out (List Dat)
section
variable(K:asr)(aj:aU)(W:WX)
def qX(g:Gh)(H:Hp)(σ:L2.St)(x:dD):Prop:=∀H' c dd,Ex H H'->qJ K aj g H' x c dd->W c dd σ H'
def tQ(f:QF):TE:=fun σ H Q=>∃g ρ M,SInv K aj σ H g ρ M/\(f M ρ).sat (fun d=>∀v H',Ex H H'->Rep K g H' v d->Q v H') (qX K aj W g H σ)
def kJ(f:QT):TT:=fun σ H Q=>∃g ρ M,SInv K aj σ H g ρ M/\(f M ρ).sat (fun b=>∀H',Ex H H'->Q b H') (qX K aj W g H σ)
def Ol(f:QA):TA:=fun σ H Q=>∃g ρ M,SInv K aj σ H g ρ M/\(f M ρ).sat (fun ds=>∀vs H',Ex H H'->aK K g H' vs ds->Q vs H') (qX K aj W g H σ)
end
section
variable{K:asr}{aj:aU}{W:WX}{g:Gh}{H H1:Hp}{σ:L2.St}{ρ:Env}{M:Mo}
theorem qX.ex{x:dD}(e:Ex H H1)(h:qX K aj W g H σ x):qX K aj W g H1 σ x:=fun H' c dd e' r=>h H' c dd (e.trans e') r
theorem tQ.go{f:QF}{k:Dat->Prop}{Q:VK}(I:SInv K aj σ H g ρ M)(h:(f M ρ).sat k (qX K aj W g H σ))(hk:∀d v H',k d->Ex H H'->Rep K g H' v d->Q v H'):tQ K aj W f σ H Q:=
 ⟨g,ρ,M,I,h.mono (fun d hd v H' e r=>hk d v H' hd e r) fun _ z=>z⟩
theorem kJ.go{f:QT}{k:Bool->Prop}{Q:Bool->Hp->Prop}(I:SInv K aj σ H g ρ M)(h:(f M ρ).sat k (qX K aj W g H σ))(hk:∀b H',k b->Ex H H'->Q b H'):kJ K aj W f σ H Q:=
 ⟨g,ρ,M,I,h.mono (fun d hd H' e=>hk d H' hd e) fun _ z=>z⟩
theorem Ol.go{f:QA}{k:List Dat->Prop}{Q:List V->Hp->Prop}(I:SInv K aj σ H g ρ M)(h:(f M ρ).sat k (qX K aj W g H σ))(hk:∀ds vs H',k ds->Ex H H'->aK K g H' vs ds->Q vs H'):Ol K aj W f σ H Q:=
 ⟨g,ρ,M,I,h.mono (fun d hd v H' e r=>hk d v H' hd e r) fun _ z=>z⟩
end
def QE(aj:aU)(X:Cx)(W:WX)(e:Expr)(f:QF):Prop:=PE X e (tQ X.K aj W f)
def sG(aj:aU)(X:Cx)(W:WX)(e:Expr)(f:QT):Prop:=PT X e (kJ X.K aj W f)
def Fd(aj:aU)(X:Cx)(W:WX)(es:List Expr)(f:QA):Prop:=PA X es (Ol X.K aj W f)
theorem PE.weak{X:Cx}{e:Expr}{t t':TE}(h:PE X e t)(k:∀σ H Q,t' σ H Q->t σ H Q):PE X e t':=⟨fun pins s σ H Q I q=>h.run pins s σ H Q I (k σ H Q q)⟩
theorem PT.weak{X:Cx}{e:Expr}{t t':TT}(h:PT X e t)(k:∀σ H Q,t' σ H Q->t σ H Q):PT X e t':=⟨fun pins s σ H Q I q=>h.run pins s σ H Q I (k σ H Q q)⟩
theorem PA.weak{X:Cx}{e:List Expr}{t t':TA}(h:PA X e t)(k:∀σ H Q,t' σ H Q->t σ H Q):PA X e t':=⟨fun pos pins s σ H Q I q=>h.run pos pins s σ H Q I (k σ H Q q)⟩
def aq(i:Nat):QF:=fun _ ρ=>match ρ[i]? with
 |some (some (.dat d))=>.ok d
 |_=>.bad
def qC(d:Dat):QF:=fun _ _=>.ok d
def aA(o:Dat->Dat->Out Dat)(a b:QF):QF:=fun M ρ=>(a M ρ).bind fun x=>(b M ρ).bind fun y=>o x y
def dZ(o:Dat->Out Dat)(a:QF):QF:=fun M ρ=>(a M ρ).bind o
def au:QA:=fun _ _=>.ok []
def ak(a:QF)(r:QA):QA:=fun M ρ=>(a M ρ).bind fun x=>(r M ρ).bind fun xs=>.ok (x::xs)
def bh(r:QA):QF:=fun M ρ=>(r M ρ).bind fun xs=>Out.when (decide (xs.length<=100000)) (.ok (.tuple xs))
def xO(r:QA):QF:=fun M ρ=>(r M ρ).bind fun xs=>Out.when (decide (xs.length<=100000)) (.ok (.list xs))
section
variable{X:Cx}{aj:aU}{W:WX}{a b:Expr}{fa fb:QF}{pos:Pos}
theorem ajj{i:Nat}{x:Str}(hN:X.N[i]?=some x)(hv:Vis X.env.scope x)(hd:(x==("__debug__" : Str))=false)(hcd:(x==("__classdict__" : Str))=false):QE aj X W (.Name x pos) (aq i):=
 PE.weak (pe_var hN hv hd hcd) fun σ H Q ⟨g,ρ,M,I,h⟩=>by
  unfold aq at h
  split at h
  ·next d e=>
   obtain⟨v,h1,h2⟩:=I.dat i d e
   exact⟨v,h1,h v H (Ex.refl H) h2⟩
  ·exact False.elim h
theorem alZ{i:Int}{j:Nat}:QE aj X W (.Constant (.int i) j pos) (qC (.int i)):=PE.weak pe_int fun σ H Q ⟨g,ρ,M,I,h⟩=>h _ H (Ex.refl H) (.int i)
theorem alE{x:Str}{j:Nat}:QE aj X W (.Constant (.str x) j pos) (qC (.str x)):=PE.weak pe_str fun σ H Q ⟨g,ρ,M,I,h⟩=>h _ H (Ex.refl H) (.str x)
theorem anp{x:Bool}{j:Nat}:QE aj X W (.Constant (.bool x) j pos) (qC (.bool x)):=PE.weak pe_bl fun σ H Q ⟨g,ρ,M,I,h⟩=>h _ H (Ex.refl H) (.bl x)
theorem ajT{j:Nat}:QE aj X W (.Constant .none j pos) (qC .none):=PE.weak pe_non fun σ H Q ⟨g,ρ,M,I,h⟩=>h _ H (Ex.refl H) .non
theorem ajH:Fd aj X W [] au:=PA.weak pa_nil fun σ H Q ⟨g,ρ,M,I,h⟩=>h [] H (Ex.refl H) .nil
theorem ahr{es:List Expr}{fr:QA}(ha:QE aj X W a fa)(hr:Fd aj X W es fr)(hs:starEach (a::es) X.env=(false,eval a X.env)::starEach es X.env):Fd aj X W (a::es) (ak fa fr):=
 PA.weak (pa_cons ha hr hs) fun σ H Q ⟨g,ρ,M,I,h⟩=>by
  refine tQ.go I h.bnd fun d v H1 h1 e1 r1=>?_
  refine Ol.go (I.ex e1) (h1.bnd.mono (fun _ z=>z) fun _ z=>z.ex e1) fun ds vs H2 h2 e2 r2=>?_
  exact h2 (v::vs) H2 (e1.trans e2) (.cons (r1.ex e2 (I.kd.ex e1)) r2)
theorem aj4{es:List Expr}{fr:QA}{k:Nat}(h:Fd aj X W es fr):QE aj X W (.Tuple es k pos) (bh fr):=
 PE.weak (pe_tup h) fun σ H Q ⟨g,ρ,M,I,h⟩=>by
  refine Ol.go I h.bnd fun ds vs H1 h1 e1 r1=>?_
  obtain⟨hz,h1⟩:=h1.qp
  have hl:vs.length<=100000:=by
   rw[r1.length]
   exact of_decide_eq_true hz
  refine⟨sz_of hl,fun p np=>h1 (.ref p) _ (e1.trans (Ex.new np)) (.tup (st_of upd_same) (r1.ex (Ex.new np) (I.kd.ex e1)))⟩
theorem Kd.fresh{g:Gh}{H:Hp}(k:Kd g H){p:Addr}(n:H p=none):¬g.A p:=fun z=>by
 obtain⟨o,e,_⟩:=k.ob p z
 rw[n]at e
 cases e
theorem alL{es:List Expr}{fr:QA}(h:Fd aj X W es fr):QE aj X W (.List es pos) (xO fr):=
 PE.weak (pe_lst h) fun σ H Q ⟨g,ρ,M,I,h⟩=>by
  refine Ol.go I h.bnd fun ds vs H1 h1 e1 r1=>?_
  obtain⟨hz,h1⟩:=h1.qp
  have hl:vs.length<=100000:=by
   rw[r1.length]
   exact of_decide_eq_true hz
  refine⟨sz_of hl,fun p np=>h1 (.ref p) _ (e1.trans (Ex.new np)) (.lst (.inl ⟨.inl upd_same,(I.kd.ex e1).fresh np⟩) (r1.ex (Ex.new np) (I.kd.ex e1)))⟩
end
def eE(K:asr)(g:Gh)(H:Hp)(v:V):Dat->Prop
 |.list ds=>∃a us,v=.ref a/\SqL K H a us/\aK K g H us ds
 |d=>Rep K g H v d
section
variable{K:asr}{g:Gh}{H H':Hp}{v:V}{d:Dat}
theorem Rep.weak(h:Rep K g H v d):eE K g H v d:=by
 cases h with
 |lst a t=>exact⟨_,_,rfl,a.sq,t⟩
 |non=>exact .non
 |bl b=>exact .bl b
 |int i=>exact .int i
 |str x=>exact .str x
 |tup a t=>exact .tup a t
 |obj a=>exact .obj a
theorem eE.ex(e:Ex H H')(k:Kd g H)(h:eE K g H v d):eE K g H' v d:=by
 cases d with
 |list ds=>
  obtain⟨a,us,h1,h2,h3⟩:=h
  exact⟨a,us,h1,ex_l e h2,h3.ex e k⟩
 |_=>exact Rep.ex e k h
theorem cI{i:Int}(h:eE K g H v (.int i)):v=.int i:=by cases h;rfl
theorem jX{x:Str}(h:eE K g H v (.str x)):v=.str x:=by cases h;rfl
theorem Ea{b:Bool}(h:eE K g H v (.bool b)):v=.bl b:=by cases h;rfl
theorem Ho(h:eE K g H v .none):v=.non:=by cases h;rfl
theorem lN{ds:List Dat}(h:eE K g H v (.tuple ds)):∃a us,v=.ref a/\SqT K H a us/\aK K g H us ds:=by
 cases h with
 |tup a t=>exact⟨_,_,rfl,a,t⟩
theorem ji{ds:List Dat}(h:eE K g H v (.list ds)):∃a us,v=.ref a/\SqL K H a us/\aK K g H us ds:=h
theorem Kr{n:Nat}(h:eE K g H v (obj n)):∃a,v=.ref a/\g.tbl[n]?=some a:=by
 cases h with
 |obj a=>exact⟨_,rfl,a⟩
end
section
variable(K:asr)(aj:aU)(W:WX)
def tW(f:QF):TE:=fun σ H Q=>∃g ρ M,SInv K aj σ H g ρ M/\(f M ρ).sat (fun d=>∀v H',Ex H H'->eE K g H' v d->Q v H') (qX K aj W g H σ)
end
theorem tW.go{K:asr}{aj:aU}{W:WX}{g:Gh}{H:Hp}{σ:L2.St}{ρ:Env}{M:Mo}{f:QF}{k:Dat->Prop}{Q:VK}(I:SInv K aj σ H g ρ M)(h:(f M ρ).sat k (qX K aj W g H σ))(hk:∀d v H',k d->Ex H H'->eE K g H' v d->Q v H'):tW K aj W f σ H Q:=
 ⟨g,ρ,M,I,h.mono (fun d hd v H' e r=>hk d v H' hd e r) fun _ z=>z⟩
def QW(aj:aU)(X:Cx)(W:WX)(e:Expr)(f:QF):Prop:=PE X e (tW X.K aj W f)
theorem QE.w{aj:aU}{X:Cx}{W:WX}{e:Expr}{f:QF}(h:QE aj X W e f):QW aj X W e f:=
 PE.weak h fun σ H Q ⟨g,ρ,M,I,z⟩=>⟨g,ρ,M,I,z.mono (fun _ k v H' e r=>k v H' e r.weak) fun _ y=>y⟩
def ao(i:Nat):QF:=fun _ ρ=>match ρ[i]? with
 |some (some (.dat d))=>.ok d
 |some (some (.mut xs))=>.ok (.list xs)
 |_=>.bad
def ql(aj:aU)(K:asr)(W:WX)(o:Dat->Dat->Out Dat)(r:R2):Prop:=∀(σ:L2.St) (g:Gh) (H:Hp) (x y:V) (d e:Dat) (Q:VK),Kd g H->eE K g H x d->eE K g H y e->
 (o d e).sat (fun z=>∀v H',Ex H H'->Rep K g H' v z->Q v H') (qX K aj W g H σ)->r x y H Q
section
variable{X:Cx}{aj:aU}{W:WX}{a b c:Expr}{fa fb fc:QF}{pos:Pos}
theorem akf{i:Nat}{x:Str}(hN:X.N[i]?=some x)(hv:Vis X.env.scope x)(hd:(x==("__debug__" : Str))=false)(hcd:(x==("__classdict__" : Str))=false):QW aj X W (.Name x pos) (ao i):=
 PE.weak (pe_var hN hv hd hcd) fun σ H Q ⟨g,ρ,M,I,h⟩=>by
  unfold ao at h
  split at h
  ·next d e=>
   obtain⟨v,h1,h2⟩:=I.dat i d e
   exact⟨v,h1,h v H (Ex.refl H) h2.weak⟩
  ·next xs e=>
   obtain⟨l,us,h1,h2,h3,h4⟩:=I.own i xs e
   exact⟨.ref l,h1,h _ H (Ex.refl H) ⟨l,us,rfl,sq_of h2,h4⟩⟩
  ·exact False.elim h
theorem R3{o:Dat->Dat->Out Dat}{r:R2}(ho:ql aj X.K W o r)(σ:L2.St)(H:Hp)(Q:VK)(h:tQ X.K aj W (aA o fa fb) σ H Q):tOp r (tW X.K aj W fa) (tW X.K aj W fb) σ H Q:=by
 obtain⟨g,ρ,M,I,h⟩:=h
 refine tW.go I h.bnd fun d v H1 h1 e1 r1=>?_
 refine tW.go (I.ex e1) (h1.bnd.mono (fun _ z=>z) fun _ z=>z.ex e1) fun d2 v2 H2 h2 e2 r2=>?_
 refine ho σ g H2 v v2 d d2 Q ((I.kd.ex e1).ex e2) (r1.ex e2 (I.kd.ex e1)) r2 (h2.mono (fun z hz u H' e' r'=>hz u H' ((e1.trans e2).trans e') r') fun _ z=>(z.ex e1).ex e2)
theorem ajv{op:Operator}{r:R2}{o:Dat->Dat->Out Dat}(hr:OpR X (binaryOp op) r)(ho:ql aj X.K W o r)(ha:QW aj X W a fa)(hb:QW aj X W b fb):QE aj X W (.BinOp a op b pos) (aA o fa fb):=
 PE.weak (pe_op hr ha hb) fun σ H Q h=>R3 ho σ H Q h
theorem aiF{op:CmpOp}{r:R2}{o:Dat->Dat->Out Dat}(hr:OpR X (compareOp op) r)(ho:ql aj X.K W o r)(ha:QW aj X W a fa)(hb:QW aj X W b fb)(hm:behindInMarks op b=false):QE aj X W (.Compare a [op] [b] pos) (aA o fa fb):=
 PE.weak (pe_cmpR hr ha hb hm) fun σ H Q h=>R3 ho σ H Q h
end
instance:DecidableRel CMul:=fun i j=>by unfold CMul;infer_instance
instance:DecidableRel CDiv:=fun i j=>by unfold CDiv;infer_instance
instance:DecidableRel CPow:=fun i j=>by unfold CPow;infer_instance
def fu:Dat->Dat->Out Dat
 |.int i,.int j=>.ok (.int (i+j))
 |.str x,.str y=>Out.when (decide (x.length+y.length<=100000)) (.ok (.str (x++y)))
 |.list xs,.list ys=>Out.when (decide (xs.length+ys.length<=100000)) (.ok (.list (xs++ys)))
 |.tuple xs,.tuple ys=>Out.when (decide (xs.length+ys.length<=100000)) (.ok (.tuple (xs++ys)))
 |_,_=>.bad
def iK:Dat->Dat->Out Dat
 |.int i,.int j=>.ok (.int (i - j))
 |_,_=>.bad
def xQ:Dat->Dat->Out Dat
 |.int i,.int j=>Out.when (decide (CMul i j)) (.ok (.int (i * j)))
 |_,_=>.bad
def uf:Dat->Dat->Out Dat
 |.int i,.int j=>Out.when (decide (CDiv i j)) (.ok (.int (i / j)))
 |_,_=>.bad
def jQ:Dat->Dat->Out Dat
 |.int i,.int j=>Out.when (decide (0 < j)) (.ok (.int (i % j)))
 |_,_=>.bad
def Qq:Dat->Dat->Out Dat
 |.int i,.int j=>Out.when (decide (CPow i j)) (.ok (.int (i ^ j.toNat)))
 |_,_=>.bad
def rCatS(K:asr):R2:=fun x y H Q=>∃l b xs zs,x=.ref l/\y=.ref b/\SqL K H l xs/\SqL K H b zs/\xs.length+zs.length<=sizeLine/\∀p,H p=none->Q (.ref p) (upd H p (.lst (xs++zs)))
theorem ahz{X:Cx}:OpR X (binaryOp .Add) (rCatS X.K):=by
 intro pins s σ H x y v u Q I rx ry h
 obtain⟨l,b,xs,zs,rfl,rfl,hH,hB,hz,q⟩:=h
 cases rx
 cases ry
 obtain⟨its,r,⟨⟨c1,d1,da1,s1⟩,n,e,hc,hd,hs⟩,_⟩:=I.list hH
 obtain⟨its2,r2,⟨⟨c2,d2,da2,s2⟩,n2,e2,hc2,hd2,hs2⟩,_⟩:=I.list hB
 simp only at hc hd hs hc2 hd2 hs2
 subst hc hd hs hc2 hd2 hs2
 have l1:=r.length
 have l2:=r2.length
 have ea:its.toArray++its2.toArray=(its++its2).toArray:=by simp
 refine concat_meets ⟨_,e,rfl⟩ ⟨_,e2,rfl⟩ noFill_list_add seq_list_add PySem.F.slot_list_add PySem.F.entry_list_add (PySem.F.args_list_add_2 _ _) (list_addW l b its.toArray its2.toArray n n2 none none s1 s2 (by rw[atQ,atQ];omega)) ⟨e,e2,?_⟩
 rw[ea]
 exact⟨.ref _,_,I.lnew (t':=s.toks) (r.append r2) (by rw[atb];omega),rfl,q _ I.fresh⟩
def ahd(K:asr):R2:=fun x y H Q=>rI0 (fun i j=>.int (i+j)) x y H Q∨(∃i j,x=.str i/\y=.str j/\i.length+j.length<=sizeLine/\Q (.str (i++j)) H)∨rCatS K x y H Q∨rCatA K x y H Q
theorem ahZ{X:Cx}:OpR X (binaryOp .Add) (ahd X.K):=by
 intro pins s σ H x y v u Q I rx ry h
 rcases h with h|h|h|h
 ·exact op_add pins s σ H x y v u Q I rx ry h
 ·exact op_add_str pins s σ H x y v u Q I rx ry h
 ·exact ahz pins s σ H x y v u Q I rx ry h
 ·exact op_catA pins s σ H x y v u Q I rx ry h
section
variable{K:asr}{aj:aU}{W:WX}
theorem ajY:ql aj K W fu (ahd K):=fun σ g H x y d e Q k rx ry h=>by
 unfold fu at h
 split at h
 ·exact .inl ⟨_,_,cI rx,cI ry,h _ H (Ex.refl H) (.int _)⟩
 ·obtain⟨hz,h⟩:=h.qp
  exact .inr (.inl ⟨_,_,jX rx,jX ry,sz_of (of_decide_eq_true hz),h _ H (Ex.refl H) (.str _)⟩)
 ·obtain⟨hz,h⟩:=h.qp
  obtain⟨l,us,e1,s1,t1⟩:=ji rx
  obtain⟨l2,us2,e2,s2,t2⟩:=ji ry
  have hl:=of_decide_eq_true hz
  rw[←t1.length,←t2.length]at hl
  refine .inr (.inr (.inl ⟨l,l2,us,us2,e1,e2,s1,s2,sz_of hl,fun p np=>h _ _ (Ex.new np) (.lst (.inl ⟨.inl upd_same,k.fresh np⟩) ((t1.append t2).ex (Ex.new np) k))⟩))
 ·obtain⟨hz,h⟩:=h.qp
  obtain⟨l,us,e1,s1,t1⟩:=lN rx
  obtain⟨l2,us2,e2,s2,t2⟩:=lN ry
  have hl:=of_decide_eq_true hz
  rw[←t1.length,←t2.length]at hl
  refine .inr (.inr (.inr ⟨l,l2,us,us2,e1,e2,s1,s2,sz_of hl,fun z=>?_,fun _ z=>?_,fun _ _ p np=>h _ _ (Ex.new np) (.tup (st_of upd_same) ((t1.append t2).ex (Ex.new np) k))⟩))
  ·subst z
   cases t1
   exact h _ H (Ex.refl H) (.tup s2 t2)
  ·subst z
   cases t2
   rw[atm]at h
   exact h _ H (Ex.refl H) (.tup s1 t1)
 ·exact False.elim h
theorem akQ:ql aj K W iK (rI0 fun i j=>.int (i - j)):=fun σ g H x y d e Q k rx ry h=>by
 unfold iK at h
 split at h
 ·exact⟨_,_,cI rx,cI ry,h _ H (Ex.refl H) (.int _)⟩
 ·exact False.elim h
theorem ak0:ql aj K W xQ (rI CMul fun i j=>.int (i * j)):=fun σ g H x y d e Q k rx ry h=>by
 unfold xQ at h
 split at h
 ·obtain⟨hz,h⟩:=h.qp
  exact⟨_,_,cI rx,cI ry,of_decide_eq_true hz,h _ H (Ex.refl H) (.int _)⟩
 ·exact False.elim h
theorem akA:ql aj K W uf (rI CDiv fun i j=>.int (i / j)):=fun σ g H x y d e Q k rx ry h=>by
 unfold uf at h
 split at h
 ·obtain⟨hz,h⟩:=h.qp
  exact⟨_,_,cI rx,cI ry,of_decide_eq_true hz,h _ H (Ex.refl H) (.int _)⟩
 ·exact False.elim h
theorem akC:ql aj K W jQ (rI (fun _ j=>0 < j) fun i j=>.int (i % j)):=fun σ g H x y d e Q k rx ry h=>by
 unfold jQ at h
 split at h
 ·obtain⟨hz,h⟩:=h.qp
  exact⟨_,_,cI rx,cI ry,of_decide_eq_true hz,h _ H (Ex.refl H) (.int _)⟩
 ·exact False.elim h
theorem ak6:ql aj K W Qq (rI CPow fun i j=>.int (i ^ j.toNat)):=fun σ g H x y d e Q k rx ry h=>by
 unfold Qq at h
 split at h
 ·obtain⟨hz,h⟩:=h.qp
  exact⟨_,_,cI rx,cI ry,of_decide_eq_true hz,h _ H (Ex.refl H) (.int _)⟩
 ·exact False.elim h
end
mutual
def okd:Nat->Dat->Bool
 |_,.none=>true
 |_,.bool _=>true
 |_,.int _=>true
 |_,.str x=>PyData.strOk x
 |n+1,.list ds=>mY n ds
 |n+1,.tuple ds=>mY n ds
 |0,.list _=>false
 |0,.tuple _=>false
 |_,.dict _=>false
def mY:Nat->List Dat->Bool
 |_,[]=>true
 |n,d::ds=>okd n d&&mY n ds
end
mutual
theorem Uy:∀(n:Nat) (d:Dat),okd n d=true->d.canLay0=true/\d.depth<=n
 |n,.none,_=>⟨by simp[PyData.canLay0],by simp[PyData.depth]⟩
 |n,.bool _,_=>⟨by simp[PyData.canLay0],by simp[PyData.depth]⟩
 |n,.int _,_=>⟨by simp[PyData.canLay0],by simp[PyData.depth]⟩
 |n,.str x,h=>⟨by rw[okd]at h;simp[PyData.canLay0,h],by simp[PyData.depth]⟩
 |n+1,.list ds,h=>by
  rw[okd]at h
  obtain⟨h1,h2⟩:=O6 n ds h
  exact⟨by simp[PyData.canLay0,h1],by simp[PyData.depth];omega⟩
 |n+1,.tuple ds,h=>by
  rw[okd]at h
  obtain⟨h1,h2⟩:=O6 n ds h
  exact⟨by simp[PyData.canLay0,h1],by simp[PyData.depth];omega⟩
 |0,.list _,h=>by rw[okd]at h;cases h
 |0,.tuple _,h=>by rw[okd]at h;cases h
 |n,.dict _,h=>by rw[okd]at h;cases h
theorem O6:∀(n:Nat) (ds:List Dat),mY n ds=true->PyData.canLayAll0 ds=true/\PyData.depthAll ds<=n
 |n,[],_=>⟨by simp[PyData.canLayAll0],by simp[PyData.depthAll]⟩
 |n,d::ds,h=>by
  rw[mY,asu]at h
  obtain⟨h1,h2⟩:=Uy n d h.1
  obtain⟨h3,h4⟩:=O6 n ds h.2
  exact⟨by simp[PyData.canLayAll0,h1,h3],by simp[PyData.depthAll];omega⟩
end
mutual
theorem Rep.dp{K:asr}{g:Gh}{H:Hp}:∀{n:Nat} {v:V} {d:Dat},okd n d=true->Rep K g H v d->Dp K H v d
 |_,_,_,_,.non=>.non
 |_,_,_,_,.bl b=>.bl b
 |_,_,_,_,.int i=>.int i
 |_,_,_,_,.str x=>.str x
 |n+1,_,_,f,.tup h t=>.tup h (aK.dp (n:=n) (by rw[okd]at f;exact f) t)
 |n+1,_,_,f,.lst h t=>.lst h.sq (aK.dp (n:=n) (by rw[okd]at f;exact f) t)
 |0,_,_,f,.tup h t=>by rw[okd]at f;cases f
 |0,_,_,f,.lst h t=>by rw[okd]at f;cases f
 |_,_,_,f,.obj h=>by rw[okd]at f;cases f
theorem aK.dp{K:asr}{g:Gh}{H:Hp}:∀{n:Nat} {vs:List V} {ds:List Dat},mY n ds=true->aK K g H vs ds->DpAll K H vs ds
 |_,_,_,_,.nil=>.nil
 |n,_,_,f,.cons h t=>.cons (Rep.dp (n:=n) (by rw[mY,asu]at f;exact f.1) h) (aK.dp (n:=n) (by rw[mY,asu]at f;exact f.2) t)
end
theorem eE.dp{K:asr}{g:Gh}{H:Hp}{n:Nat}{v:V}{d:Dat}(f:okd n d=true)(h:eE K g H v d):Dp K H v d:=by
 cases d with
 |list ds=>
  obtain⟨a,us,rfl,h2,h3⟩:=h
  cases n with
  |zero=>rw[okd]at f;cases f
  |succ n=>
   rw[okd]at f
   exact .lst h2 (h3.dp f)
 |_=>exact Rep.dp f h
theorem Cj{n:Nat}{d:Dat}(h:okd n d=true)(hn:n<=64):SeqAt.shaped d=true:=by
 obtain⟨h1,h2⟩:=Uy n d h
 unfold SeqAt.shaped
 rw[h1,Bool.true_and]
 exact decide_eq_true (as5 h2 hn)
def eqB:Dat->Dat->Out Bool
 |.int i,.int j=>.ok (i==j)
 |.str x,.str y=>.ok (x==y)
 |.bool x,.bool y=>.ok (x==y)
 |.none,.none=>.ok true
 |d,e=>Out.when (okd 12 d&&okd 12 e) (.ok (PyData.eqv d e))
def bR(d e:Dat):Out Dat:=(eqB d e).bind fun b=>.ok (.bool b)
def tH(d e:Dat):Out Dat:=(eqB d e).bind fun b=>.ok (.bool (!b))
def ajL(K:asr):R2:=fun x y H Q=>rEq x y H Q∨rEqD K x y H Q
def ajX(K:asr):R2:=fun x y H Q=>rNe x y H Q∨rNeD K x y H Q
theorem akB{X:Cx}(hu:X.A.units+64 < cLine):OpR X (compareOp .Eq) (ajL X.K):=fun pins s σ H x y v u Q I rx ry h=>h.elim (fun h=>op_eq pins s σ H x y v u Q I rx ry h) (fun h=>op_eqD hu pins s σ H x y v u Q I rx ry h)
theorem akG{X:Cx}(hu:X.A.units+64 < cLine):OpR X (compareOp .NotEq) (ajX X.K):=fun pins s σ H x y v u Q I rx ry h=>h.elim (fun h=>op_ne pins s σ H x y v u Q I rx ry h) (fun h=>op_neD hu pins s σ H x y v u Q I rx ry h)
section
variable{K:asr}{aj:aU}{W:WX}{g:Gh}{H:Hp}
theorem aeb{x y:V}{d e:Dat}{P:Bool->Prop}{E:dD->Prop}(rx:eE K g H x d)(ry:eE K g H y e)(h:(eqB d e).sat P E):(scal x y=true/\P (decide (x=y)))∨(∃d e,Dp K H x d/\Dp K H y e/\SeqAt.shaped d=true/\SeqAt.shaped e=true/\P (PyData.eqv d e)):=by
 unfold eqB at h
 split at h
 ·cases cI rx;cases cI ry
  rw[dec_int]
  exact .inl ⟨rfl,h⟩
 ·cases jX rx;cases jX ry
  rw[dec_str]
  exact .inl ⟨rfl,h⟩
 ·cases Ea rx;cases Ea ry
  rw[dec_bl]
  exact .inl ⟨rfl,h⟩
 ·cases Ho rx;cases Ho ry
  exact .inl ⟨rfl,h⟩
 ·obtain⟨hz,h⟩:=h.qp
  rw[asu]at hz
  exact .inr ⟨_,_,rx.dp hz.1,ry.dp hz.2,Cj hz.1 (by decide),Cj hz.2 (by decide),h⟩
theorem ani:ql aj K W bR (ajL K):=fun σ g H x y d e Q k rx ry h=>by
 rcases aeb rx ry h.bnd with⟨h1,h2⟩|⟨d,e,h1,h2,h3,h4,h5⟩
 ·exact .inl ⟨h1,h2 _ H (Ex.refl H) (.bl _)⟩
 ·exact .inr ⟨d,e,h1,h2,h3,h4,h5 _ H (Ex.refl H) (.bl _)⟩
theorem amo:ql aj K W tH (ajX K):=fun σ g H x y d e Q k rx ry h=>by
 rcases aeb rx ry h.bnd with⟨h1,h2⟩|⟨d,e,h1,h2,h3,h4,h5⟩
 ·exact .inl ⟨h1,h2 _ H (Ex.refl H) (.bl _)⟩
 ·exact .inr ⟨d,e,h1,h2,h3,h4,h5 _ H (Ex.refl H) (.bl _)⟩
end
def Ey:Dat->Dat->Out Dat
 |.int i,.int j=>.ok (.bool (decide (i < j)))
 |.tuple ds,.tuple es=>Out.when (okd 12 (.tuple ds)&&okd 12 (.tuple es)&&PySem.W.alike (.tuple ds) (.tuple es)) (.ok (.bool (PySem.W.dataLt (.tuple ds) (.tuple es))))
 |_,_=>.bad
def pH:Dat->Dat->Out Dat
 |.int i,.int j=>.ok (.bool (decide (i<=j)))
 |_,_=>.bad
def ZC:Dat->Dat->Out Dat
 |.int i,.int j=>.ok (.bool (decide (j < i)))
 |_,_=>.bad
def geD:Dat->Dat->Out Dat
 |.int i,.int j=>.ok (.bool (decide (j<=i)))
 |_,_=>.bad
def al9(K:asr):R2:=fun x y H Q=>rI0 (fun i j=>.bl (decide (i < j))) x y H Q∨Ear.TF K x y H Q
theorem ajo{X:Cx}(hu:X.A.units+65 < cLine):OpR X (compareOp .Lt) (al9 X.K):=fun pins s σ H x y v u Q I rx ry h=>h.elim (fun h=>op_lt pins s σ H x y v u Q I rx ry h) (fun h=>Ear.agx hu pins s σ H x y v u Q I rx ry h)
section
variable{K:asr}{aj:aU}{W:WX}{g:Gh}{H:Hp}
theorem am8:ql aj K W Ey (al9 K):=fun σ g H x y d e Q k rx ry h=>by
 unfold Ey at h
 split at h
 ·exact .inl ⟨_,_,cI rx,cI ry,h _ H (Ex.refl H) (.bl _)⟩
 ·obtain⟨hz,h⟩:=h.qp
  simp only[asu]at hz
  refine .inr ?_
  unfold Ear.TF
  exact⟨_,_,rx.dp hz.1.1,ry.dp hz.1.2,hz.2,(fun z=>nomatch z),as5 (Uy _ _ hz.1.1).2 (by decide),h _ H (Ex.refl H) (.bl _)⟩
 ·exact False.elim h
theorem am5:ql aj K W pH (rI0 fun i j=>.bl (decide (i<=j))):=fun σ g H x y d e Q k rx ry h=>by
 unfold pH at h
 split at h
 ·exact⟨_,_,cI rx,cI ry,h _ H (Ex.refl H) (.bl _)⟩
 ·exact False.elim h
theorem amC:ql aj K W ZC (rI0 fun i j=>.bl (decide (j < i))):=fun σ g H x y d e Q k rx ry h=>by
 unfold ZC at h
 split at h
 ·exact⟨_,_,cI rx,cI ry,h _ H (Ex.refl H) (.bl _)⟩
 ·exact False.elim h
theorem amq:ql aj K W geD (rI0 fun i j=>.bl (decide (j<=i))):=fun σ g H x y d e Q k rx ry h=>by
 unfold geD at h
 split at h
 ·exact⟨_,_,cI rx,cI ry,h _ H (Ex.refl H) (.bl _)⟩
 ·exact False.elim h
end
def gR(c:Dat):Dat->Bool
 |.none=>match c with
  |.none=>true
  |_=>false
 |.bool b=>match c with
  |.bool b'=>b==b'
  |_=>false
 |_=>false
def scD:Dat->Option V
 |.none=>some .non
 |.bool b=>some (.bl b)
 |_=>none
theorem abk{K:asr}{g:Gh}{H:Hp}{x:V}{d c:Dat}{v:V}(h:eE K g H x d)(hc:scD c=some v):decide (x=v)=gR c d:=by
 cases c with
 |none=>
  cases hc
  cases d with
  |none=>cases Ho h;rfl
  |bool b=>cases Ea h;rfl
  |int b=>cases cI h;rfl
  |str b=>cases jX h;rfl
  |list b=>obtain⟨a,us,rfl,_⟩:=ji h;rfl
  |tuple b=>obtain⟨a,us,rfl,_⟩:=lN h;rfl
  |dict b=>cases h;rfl
 |bool c=>
  cases hc
  cases d with
  |none=>cases Ho h;rfl
  |bool b=>cases Ea h;exact dec_bl
  |int b=>cases cI h;rfl
  |str b=>cases jX h;rfl
  |list b=>obtain⟨a,us,rfl,_⟩:=ji h;rfl
  |tuple b=>obtain⟨a,us,rfl,_⟩:=lN h;rfl
  |dict b=>cases h;rfl
 |_=>cases hc
def aaC(neg:Bool)(v:V):R2:=fun x y H Q=>y=v/\Q (.bl (neg ^^ decide (x=v))) H
theorem aef{x v:V}{u w:Value}(hv:v=.non∨∃b,v=.bl b)(rx:RelV x u)(rv:RelV v w):(u==w)=decide (x=v):=by
 rcases hv with rfl|⟨b,rfl⟩
 ·cases rv
  exact rx.none_iff
 ·cases rv
  rw[atA,beq_iff_eq,decide_eq_true_eq]
  constructor
  ·rintro rfl
   cases x with
   |bl c=>cases rx;rfl
   |non=>cases rx
   |ref _=>cases rx
   |ty _=>cases rx
   |_=>obtain⟨t,z⟩:=rx;cases z
  ·rintro rfl
   exact rx
theorem Wz{x v:V}{u w:Value}(hv:v=.non∨∃b,v=.bl b)(rx:RelV x u)(rv:RelV v w):plainIs u w=true:=by
 rcases hv with rfl | ⟨b,rfl⟩ <;> (cases rv;cases x <;> first | (cases rx;rfl) | (obtain⟨t,rfl⟩:=rx;rfl))
theorem ajK{X:Cx}{v:V}(hv:v=.non∨∃b,v=.bl b):OpR X (compareOp .Is) (aaC false v):=by
 intro pins s σ H x y u w Q I rx ry h
 obtain⟨rfl,q⟩:=h
 refine wpAny_is_plain (Wz hv rx ry) ?_
 rw[aef hv rx ry]
 rw[Bool.false_xor]at q
 exact⟨.bl _,H,I,rfl,q⟩
theorem aeg{X:Cx}{v:V}(hv:v=.non∨∃b,v=.bl b):OpR X (compareOp .IsNot) (aaC true v):=by
 intro pins s σ H x y u w Q I rx ry h
 obtain⟨rfl,q⟩:=h
 refine wpAny_isNot_plain (Wz hv rx ry) ?_
 rw[aef hv rx ry]
 rw[Bool.true_xor]at q
 exact⟨.bl _,H,I,rfl,q⟩
def tO(neg:Bool)(c:Dat)(a:QF):QF:=fun M ρ=>(a M ρ).bind fun d=>.ok (.bool (neg ^^ gR c d))
section
variable{X:Cx}{aj:aU}{W:WX}{a b c:Expr}{fa fb fc:QF}{pos:Pos}
theorem anl{op:CmpOp}{neg:Bool}{d:Dat}{v:V}(hc:scD d=some v)(hr:OpR X (compareOp op) (aaC neg v))(ha:QW aj X W a fa)(hb:PE X b (tC v))(hm:behindInMarks op b=false):QE aj X W (.Compare a [op] [b] pos) (tO neg d fa):=
 PE.weak (pe_cmpR hr ha hb hm) fun σ H Q ⟨g,ρ,M,I,h⟩=>by
  refine tW.go I h.bnd fun e x H1 h1 e1 r1=>?_
  refine⟨rfl,?_⟩
  rw[abk r1 hc]
  exact h1 _ H1 e1 (.bl _)
end
def JM:Dat->Bool
 |.none=>true
 |.bool _=>true
 |.int _=>true
 |.str _=>true
 |_=>false
def inB:Dat->Dat->Out Bool
 |d,.list ds=>Out.when (okd 12 d&&mY 12 ds) (.ok (ds.any fun z=>PyData.eqv z d))
 |d,.tuple ds=>Out.when (JM d&&ds.all JM) (.ok (ds.any fun z=>PyData.eqv z d))
 |.str x,.str z=>match x.cps.toList with
  |[c]=>.ok (decide (c∈z.cps.toList))
  |_=>.bad
 |_,_=>.bad
def inD(neg:Bool)(d e:Dat):Out Dat:=(inB d e).bind fun b=>.ok (.bool (neg ^^ b))
section
variable{K:asr}{g:Gh}{H:Hp}
theorem aad{v:V}{d:Dat}(f:JM d=true)(h:Rep K g H v d):flatV v=true:=by
 cases h with
 |tup _ _=>cases f
 |lst _ _=>cases f
 |obj _=>cases f
 |_=>rfl
theorem Wg:∀{vs:List V} {ds:List Dat},ds.all JM=true->aK K g H vs ds->vs.all flatV=true
 |_,_,_,.nil=>rfl
 |_,_,f,.cons h t=>by
  rw[ate,asu]at f
  rw[ate,aad f.1 h,Wg f.2 t]
  rfl
theorem aiw{v w:V}{d e:Dat}(f1:JM d=true)(f2:JM e=true)(h1:Rep K g H v d)(h2:Rep K g H w e):eqV v w=PyData.eqv d e:=by
 cases h1 with
 |tup _ _=>cases f1
 |lst _ _=>cases f1
 |obj _=>cases f1
 |non=>cases h2 with
  |tup _ _=>cases f2
  |lst _ _=>cases f2
  |obj _=>cases f2
  |_=>simp[eqV,PyData.eqv]
 |bl b=>cases h2 with
  |tup _ _=>cases f2
  |lst _ _=>cases f2
  |obj _=>cases f2
  |_=>simp[eqV,PyData.eqv]
 |int b=>cases h2 with
  |tup _ _=>cases f2
  |lst _ _=>cases f2
  |obj _=>cases f2
  |_=>simp[eqV,PyData.eqv]
 |str b=>cases h2 with
  |tup _ _=>cases f2
  |lst _ _=>cases f2
  |obj _=>cases f2
  |_=>simp[eqV,PyData.eqv]
theorem ab9{w:V}{e:Dat}(f2:JM e=true)(h2:Rep K g H w e):∀{vs:List V} {ds:List Dat},ds.all JM=true->aK K g H vs ds->inV w vs=ds.any fun z=>PyData.eqv z e
 |_,_,_,.nil=>rfl
 |v::vs,d::ds,f,.cons h t=>by
  rw[ate,asu]at f
  have ih:=ab9 f2 h2 f.2 t
  unfold inV at ih ⊢
  rw[atw,atw,ih,aiw f.1 f2 h h2]
theorem ahx{v:V}{d:Dat}(f:JM d=true)(h:eE K g H v d):Rep K g H v d:=by
 cases d with
 |list _=>cases f
 |_=>exact h
end
def aaq(K:asr)(neg:Bool):R2:=fun x y H Q=>(∃d ds,Dp K H x d/\Dp K H y (.list ds)/\SeqAt.shaped d=true/\SeqAt.shaped (.list ds)=true/\Q (.bl (neg ^^ (ds.any fun z=>PyData.eqv z d))) H)∨
 (∃p xs,y=.ref p/\(SqL K H p xs∨SqT K H p xs)/\flatV x=true/\xs.all flatV=true/\Q (.bl (neg ^^ inV x xs)) H)∨∃(c:Nat) (z:Str),x=.str ⟨#[c]⟩/\y=.str z/\Q (.bl (neg ^^ decide (c∈z.cps.toList))) H
theorem al0{X:Cx}(hu:X.A.units+65 < cLine):OpR X (compareOp .In) (aaq X.K false):=fun pins s σ H x y v u Q I rx ry h=>by
 unfold aaq at h
 simp only[Bool.false_xor]at h
 rcases h with⟨d,ds,h⟩|⟨p,xs,h⟩|h
 ·exact op_inD hu pins s σ H x y v u Q I rx ry ⟨d,ds,h⟩
 ·exact op_in_seq pins s σ H x y v u Q I rx ry ⟨p,xs,h⟩
 ·exact op_in_sign pins s σ H x y v u Q I rx ry h
theorem aep{X:Cx}(hu:X.A.units+65 < cLine):OpR X (compareOp .NotIn) (aaq X.K true):=fun pins s σ H x y v u Q I rx ry h=>by
 unfold aaq at h
 simp only[Bool.true_xor]at h
 rcases h with⟨d,ds,h⟩|⟨p,xs,h⟩|h
 ·exact op_notInD hu pins s σ H x y v u Q I rx ry ⟨d,ds,h⟩
 ·exact op_notIn_seq pins s σ H x y v u Q I rx ry ⟨p,xs,h⟩
 ·exact op_notIn_sign pins s σ H x y v u Q I rx ry h
theorem ag5{K:asr}{aj:aU}{W:WX}{neg:Bool}:ql aj K W (inD neg) (aaq K neg):=fun σ g H x y d e Q k rx ry h=>by
 replace h:=Out.sat.bnd h
 unfold inB at h
 split at h
 ·next ds=>
  obtain⟨hz,h⟩:=h.qp
  rw[asu]at hz
  have e2:okd 13 (.list ds)=true:=by rw[okd];exact hz.2
  exact .inl ⟨_,ds,rx.dp hz.1,ry.dp e2,Cj hz.1 (by decide),Cj e2 (by decide),h _ H (Ex.refl H) (.bl _)⟩
 ·next ds=>
  obtain⟨hz,h⟩:=h.qp
  rw[asu]at hz
  obtain⟨p,us,rfl,h1,h2⟩:=lN ry
  have rx':=ahx hz.1 rx
  refine .inr (.inl ⟨p,us,rfl,.inr h1,aad hz.1 rx',Wg hz.2 h2,?_⟩)
  rw[ab9 hz.1 rx' hz.2 h2]
  exact h _ H (Ex.refl H) (.bl _)
 ·next xs z=>
  split at h
  ·next c e=>
   refine .inr (.inr ⟨c,z,?_,jX ry,h _ H (Ex.refl H) (.bl _)⟩)
   rw[jX rx]
   congr 1
   have:xs.cps=#[c]:=by
    apply Array.toList_inj.mp
    rw[e]
   cases xs
   simp only at this
   rw[this]
  ·exact False.elim h
 ·exact False.elim h
def QJ:Dat->Out Dat
 |.int i=>.ok (.int (-i))
 |_=>.bad
def JD:Dat->Out Bool
 |.none=>.ok false
 |.bool b=>.ok b
 |.int i=>.ok (i != 0)
 |.str x=>Out.when (decide (x.length<=100000)) (.ok (!x.cps.toList.isEmpty))
 |.list ds=>.ok (!ds.isEmpty)
 |.tuple ds=>.ok (!ds.isEmpty)
 |_=>.bad
def iw(a:QF):QT:=fun M ρ=>(a M ρ).bind JD
def BJ:Dat->Out Bool
 |.bool b=>.ok b
 |_=>.bad
def aY(a:QF):QT:=fun M ρ=>(a M ρ).bind BJ
def jT(a:QT):QT:=fun M ρ=>(a M ρ).bind fun b=>.ok (!b)
def gG(a b:QT):QT:=fun M ρ=>(a M ρ).bind fun x=>if x=true then b M ρ else .ok false
def FW(a b:QT):QT:=fun M ρ=>(a M ρ).bind fun x=>if x=true then .ok true else b M ρ
def RP(a:QT):QF:=fun M ρ=>(a M ρ).bind fun b=>.ok (.bool b)
def Sy(t:QT)(a b:QF):QF:=fun M ρ=>(t M ρ).bind fun x=>if x=true then a M ρ else b M ρ
theorem Rq{K:asr}{g:Gh}{H:Hp}{us:List V}{ds:List Dat}(h:aK K g H us ds):(!ds.isEmpty)=!us.isEmpty:=by cases h <;> rfl
section
variable{X:Cx}{aj:aU}{W:WX}{a b c:Expr}{fa fb fc:QF}{ta tb:QT}{pos:Pos}
theorem akr(ha:QW aj X W a fa):QE aj X W (.UnaryOp .USub a pos) (dZ QJ fa):=
 PE.weak (pe_un un_neg ha) fun σ H Q ⟨g,ρ,M,I,h⟩=>by
  refine tW.go I h.bnd fun d v H1 h1 e1 r1=>?_
  unfold QJ at h1
  split at h1
  ·exact⟨_,cI r1,h1 _ H1 e1 (.int _)⟩
  ·exact False.elim h1
theorem aj6{g:Gh}{H:Hp}{v:V}{d:Dat}{P:Bool->Prop}{E:dD->Prop}(r:eE X.K g H v d)(h:(JD d).sat P E):∃k,TruV X.K v H k/\P k:=by
 unfold JD at h
 split at h
 ·cases Ho r;exact⟨_,rfl,h⟩
 ·cases Ea r;exact⟨_,rfl,h⟩
 ·cases cI r;exact⟨_,rfl,h⟩
 ·next x=>
  obtain⟨hz,h⟩:=h.qp
  cases jX r
  refine⟨_,⟨sz_of (of_decide_eq_true hz),?_⟩,h⟩
  have e:x.length=x.cps.toList.length:=by
   rw[atd]
   rfl
  rw[e]
  cases x.cps.toList with
  |nil=>rfl
  |cons y ys=>
   refine Eq.symm (bne_iff_ne.mpr ?_)
   simp
   omega
 ·obtain⟨p,us,rfl,h1,h2⟩:=ji r
  rw[Rq h2]at h
  exact⟨_,.inl ⟨us,h1,rfl⟩,h⟩
 ·obtain⟨p,us,rfl,h1,h2⟩:=lN r
  rw[Rq h2]at h
  exact⟨_,.inr (.inl ⟨us,h1,rfl⟩),h⟩
 ·exact False.elim h
theorem akl(ha:QW aj X W a fa)(he:∀whole,isTrue a X.env whole=(do let v ←whole;standAt a.pos;holding [v] (truthy v))):sG aj X W a (iw fa):=
 PT.weak (pt_truth ha he) fun σ H Q ⟨g,ρ,M,I,h⟩=>by
  refine tW.go I h.bnd fun d v H1 h1 e1 r1=>?_
  obtain⟨k,h2,h3⟩:=aj6 r1 h1
  exact⟨k,h2,h3 H1 e1⟩
theorem Ez{g:Gh}{H:Hp}{v:V}{d:Dat}{P:Bool->Prop}{E:dD->Prop}(r:eE X.K g H v d)(h:(BJ d).sat P E):∃k,v=.bl k/\P k:=by
 unfold BJ at h
 split at h
 ·cases Ea r;exact⟨_,rfl,h⟩
 ·exact False.elim h
theorem aku{op:CmpOp}{r:R2}{o:Dat->Dat->Out Dat}(hr:OpR X (compareOp op) r)(ho:ql aj X.K W o r)(ha:QW aj X W a fa)(hb:QW aj X W b fb)(hm:behindInMarks op b=false):sG aj X W (.Compare a [op] [b] pos) (aY (aA o fa fb)):=
 PT.weak (pt_cmpR hr ha hb hm) fun σ H Q ⟨g,ρ,M,I,h⟩=>by
  refine R3 ho σ H _ ⟨g,ρ,M,I,h.bnd.mono (fun d h1 v H' e' r'=>?_) fun _ z=>z⟩
  obtain⟨k,h2,h3⟩:=Ez r'.weak h1
  exact⟨k,h2,h3 H' e'⟩
theorem anf{op:CmpOp}{neg:Bool}{d:Dat}{v:V}(hc:scD d=some v)(hr:OpR X (compareOp op) (aaC neg v))(ha:QW aj X W a fa)(hb:PE X b (tC v))(hm:behindInMarks op b=false):sG aj X W (.Compare a [op] [b] pos) (aY (tO neg d fa)):=
 PT.weak (pt_cmpR hr ha hb hm) fun σ H Q ⟨g,ρ,M,I,h⟩=>by
  refine tW.go I h.bnd.bnd fun e x H1 h1 e1 r1=>?_
  refine⟨rfl,_,rfl,?_⟩
  rw[abk r1 hc]
  exact h1 H1 e1
theorem akF(ha:sG aj X W a ta):sG aj X W (.UnaryOp .Not a pos) (jT ta):=
 PT.weak (pt_not ha) fun σ H Q ⟨g,ρ,M,I,h⟩=>kJ.go I h.bnd fun b H1 h1 e1=>h1 H1 e1
def QWt(aj:aU)(X:Cx)(W:WX)(e:Expr)(f:QT):Prop:=PW X e (kJ X.K aj W f)
theorem PW.weak{X:Cx}{e:Expr}{t t':TT}(h:PW X e t)(k:∀σ H Q,t' σ H Q->t σ H Q):PW X e t':=⟨fun wh pins s σ H Q I q=>h.run wh pins s σ H Q I (k σ H Q q)⟩
theorem alW{rest:List Expr}(ha:sG aj X W a ta)(hb:QWt aj X W (.BoolOp .And (b::rest) pos) tb):QWt aj X W (.BoolOp .And (a::b::rest) pos) (gG ta tb):=
 PW.weak (pw_and ha hb) fun σ H Q ⟨g,ρ,M,I,h⟩=>by
  refine kJ.go I h.bnd fun x H1 h1 e1=>?_
  cases x with
  |true=>exact⟨g,ρ,M,I.ex e1,h1.mono (fun b k H' e'=>k H' (e1.trans e')) fun _ z=>z.ex e1⟩
  |false=>exact h1 H1 e1
theorem amX{rest:List Expr}(ha:sG aj X W a ta)(hb:QWt aj X W (.BoolOp .Or (b::rest) pos) tb):QWt aj X W (.BoolOp .Or (a::b::rest) pos) (FW ta tb):=
 PW.weak (pw_or ha hb) fun σ H Q ⟨g,ρ,M,I,h⟩=>by
  refine kJ.go I h.bnd fun x H1 h1 e1=>?_
  cases x with
  |true=>exact h1 H1 e1
  |false=>exact⟨g,ρ,M,I.ex e1,h1.mono (fun b k H' e'=>k H' (e1.trans e')) fun _ z=>z.ex e1⟩
def TV(a:QF):QF:=RP (jT (aY a))
def yq(a b:QF):QF:=fun M ρ=>(a M ρ).bind fun d=>(BJ d).bind fun x=>if x=true then b M ρ else .ok (.bool false)
def afE(a b:QF):QF:=fun M ρ=>(a M ρ).bind fun d=>(BJ d).bind fun x=>if x=true then .ok (.bool true) else b M ρ
theorem ahw(ha:QW aj X W a fa):QE aj X W (.UnaryOp .Not a pos) (TV fa):=
 PE.weak (pe_not ha) fun σ H Q ⟨g,ρ,M,I,h⟩=>by
  refine tW.go I h.bnd.bnd.bnd fun d v H1 h1 e1 r1=>?_
  obtain⟨k,h2,h3⟩:=Ez r1 h1
  exact⟨k,h2,h3 _ H1 e1 (.bl _)⟩
theorem aiO{rest:List Expr}(ha:QE aj X W a fa)(hb:QE aj X W (.BoolOp .And (b::rest) pos) fb):QE aj X W (.BoolOp .And (a::b::rest) pos) (yq fa fb):=
 PE.weak (pe_and ha hb) fun σ H Q ⟨g,ρ,M,I,h⟩=>by
  refine tQ.go I h.bnd fun d v H1 h1 e1 r1=>?_
  obtain⟨k,h2,h3⟩:=Ez r1.weak h1.bnd
  refine⟨k,h2,?_⟩
  cases k with
  |true=>exact⟨g,ρ,M,I.ex e1,h3.mono (fun b k v' H' e' r'=>k v' H' (e1.trans e') r') fun _ z=>z.ex e1⟩
  |false=>exact h3 _ H1 e1 (.bl false)
theorem ajF{rest:List Expr}(ha:QE aj X W a fa)(hb:QE aj X W (.BoolOp .Or (b::rest) pos) fb):QE aj X W (.BoolOp .Or (a::b::rest) pos) (afE fa fb):=
 PE.weak (pe_or ha hb) fun σ H Q ⟨g,ρ,M,I,h⟩=>by
  refine tQ.go I h.bnd fun d v H1 h1 e1 r1=>?_
  obtain⟨k,h2,h3⟩:=Ez r1.weak h1.bnd
  refine⟨k,h2,?_⟩
  cases k with
  |false=>exact⟨g,ρ,M,I.ex e1,h3.mono (fun b k v' H' e' r'=>k v' H' (e1.trans e') r') fun _ z=>z.ex e1⟩
  |true=>exact h3 _ H1 e1 (.bl true)
theorem afz(hc:sG aj X W c ta)(ha:QE aj X W a fa)(hb:QE aj X W b fb):QE aj X W (.IfExp c a b pos) (Sy ta fa fb):=
 PE.weak (pe_ifExp hc ha hb) fun σ H Q ⟨g,ρ,M,I,h⟩=>by
  refine kJ.go I h.bnd fun x H1 h1 e1=>?_
  cases x with
  |true=>exact⟨g,ρ,M,I.ex e1,h1.mono (fun b k v' H' e' r'=>k v' H' (e1.trans e') r') fun _ z=>z.ex e1⟩
  |false=>exact⟨g,ρ,M,I.ex e1,h1.mono (fun b k v' H' e' r'=>k v' H' (e1.trans e') r') fun _ z=>z.ex e1⟩
def jW(o o':Dat->Dat->Out Dat)(a b c:QF):QT:=fun M ρ=>(a M ρ).bind fun x=>(b M ρ).bind fun y=>(o x y).bind fun z=>(BJ z).bind fun k=>if k=true then(c M ρ).bind fun w=>(o' y w).bind BJ else .ok false
theorem aar{r r':R2}{o o':Dat->Dat->Out Dat}(ho:ql aj X.K W o r)(ho':ql aj X.K W o' r'){σ:L2.St}{H:Hp}{Q:VK}{P:Bool->Hp->Prop}(hP:∀k H',P k H'->Q (.bl k) H')(h:kJ X.K aj W (jW o o' fa fb fc) σ H P):tChain r r' (tW X.K aj W fa) (tW X.K aj W fb) (tW X.K aj W fc) σ H Q:=by
 obtain⟨g,ρ,M,I,h⟩:=h
 refine tW.go I h.bnd fun d v H1 h1 e1 r1=>?_
 have I1:=I.ex e1
 refine tW.go I1 (h1.bnd.mono (fun _ z=>z) fun _ z=>z.ex e1) fun d2 v2 H2 h2 e2 r2=>?_
 have I2:=I1.ex e2
 have r1':=r1.ex e2 I1.kd
 refine ho σ g H2 v v2 d d2 _ I2.kd r1' r2 (h2.bnd.mono (fun z hz u H3 e3 r3=>?_) fun _ z=>(z.ex e1).ex e2)
 obtain⟨k,h4,h5⟩:=Ez r3.weak hz.bnd
 refine⟨k,h4,?_⟩
 have I3:=I2.ex e3
 have e13:=(e1.trans e2).trans e3
 cases k with
 |false=>exact hP _ _ (h5 H3 e13)
 |true=>
  refine tW.go I3 (h5.bnd.mono (fun _ z=>z) fun _ z=>z.ex e13) fun d4 v4 H4 h6 e4 r4=>?_
  refine ho' σ g H4 v2 v4 d2 d4 _ (I3.ex e4).kd ((r2.ex e3 I2.kd).ex e4 I3.kd) r4 (h6.bnd.mono (fun z hz u H5 e5 r5=>?_) fun _ z=>(z.ex e13).ex e4)
  obtain⟨k,rfl,h8⟩:=Ez r5.weak hz
  exact hP _ _ (h8 H5 ((e13.trans e4).trans e5))
theorem agN{op op':CmpOp}{r r':R2}{o o':Dat->Dat->Out Dat}(hr:OpR X (compareOp op) r)(hr':OpR X (compareOp op') r')(ho:ql aj X.K W o r)(ho':ql aj X.K W o' r')(ha:QW aj X W a fa)(hb:QW aj X W b fb)(hc:QW aj X W c fc)(hm:lastMarks [op,op'] [b,c]=false) :
  sG aj X W (.Compare a [op,op'] [b,c] pos) (jW o o' fa fb fc):=
 PT.weak (pt_chain hr hr' ha hb hc hm) fun σ H Q h=>aar ho ho' (fun k H' z=>⟨k,rfl,z⟩) h
theorem agQ{op op':CmpOp}{r r':R2}{o o':Dat->Dat->Out Dat}(hr:OpR X (compareOp op) r)(hr':OpR X (compareOp op') r')(ho:ql aj X.K W o r)(ho':ql aj X.K W o' r')(ha:QW aj X W a fa)(hb:QW aj X W b fb)(hc:QW aj X W c fc)(hm:lastMarks [op,op'] [b,c]=false) :
  QE aj X W (.Compare a [op,op'] [b,c] pos) (RP (jW o o' fa fb fc)):=
 PE.weak (pe_chain hr hr' ha hb hc hm) fun σ H Q ⟨g,ρ,M,I,h⟩=>aar (P:=fun b H1=>Q (.bl b) H1) ho ho' (fun k H' z=>z) ⟨g,ρ,M,I,h.bnd.mono (fun b h1 H' e'=>h1 _ H' e' (.bl b)) fun _ z=>z⟩
end
def aH:Dat->Dat->Out Dat
 |.list ds,.int i=>match atI ds i with
  |some d=>.ok d
  |none=>.bad
 |.tuple ds,.int i=>match atI ds i with
  |some d=>.ok d
  |none=>.bad
 |.str z,.int i=>Out.when (decide (z.length<=100000)) (match atI z.cps.toList i with
  |some c=>.ok (.str ⟨#[c]⟩)
  |none=>.bad)
 |_,_=>.bad
theorem abK{K:asr}{g:Gh}{H:Hp}{us:List V}{ds:List Dat}{i:Int}{d:Dat}(h:aK K g H us ds)(e:atI ds i=some d):∃v,atI us i=some v/\Rep K g H v d:=by
 unfold atI at e ⊢
 rw[h.length]
 cases hj:ixN ds.length i with
 |none=>rw[hj]at e;cases e
 |some j=>
  rw[hj]at e
  obtain⟨v,h1,h2⟩:=h.get (i:=j) e
  exact⟨v,h1,h2⟩
def akp(K:asr):R2:=fun x y H Q=>rIxL K x y H Q∨rIxT K x y H Q∨rIxS x y H Q
theorem an2{X:Cx}:IxR X (akp X.K):=fun value slice pins s σ H x y v u Q I rx ry h hs=>by
 rcases h with h|h|h
 ·exact ix_list value slice pins s σ H x y v u Q I rx ry h hs
 ·exact ix_tup value slice pins s σ H x y v u Q I rx ry h hs
 ·exact ix_str value slice pins s σ H x y v u Q I rx ry h hs
theorem am2{K:asr}{aj:aU}{W:WX}:ql aj K W aH (akp K):=fun σ g H x y d e Q k rx ry h=>by
 unfold aH at h
 split at h
 ·split at h
  ·next z hz=>
   obtain⟨p,us,rfl,h1,h2⟩:=ji rx
   obtain⟨v,h3,h4⟩:=abK h2 hz
   exact .inl ⟨p,us,_,v,rfl,cI ry,h1,h3,h v H (Ex.refl H) h4⟩
  ·exact False.elim h
 ·split at h
  ·next z hz=>
   obtain⟨p,us,rfl,h1,h2⟩:=lN rx
   obtain⟨v,h3,h4⟩:=abK h2 hz
   exact .inr (.inl ⟨p,us,_,v,rfl,cI ry,h1,h3,h v H (Ex.refl H) h4⟩)
  ·exact False.elim h
 ·obtain⟨hl,h⟩:=h.qp
  split at h
  ·next c hz=>exact .inr (.inr ⟨_,_,c,jX rx,cI ry,sz_of (of_decide_eq_true hl),hz,h _ H (Ex.refl H) (.str _)⟩)
  ·exact False.elim h
 ·exact False.elim h
def cutD{α:Type}(xs:List α)(lo hi:Option Int):List α:=(xs.drop (HT.sIx xs.length 0 lo)).take (HT.sIx xs.length xs.length hi - HT.sIx xs.length 0 lo)
abbrev QO:=Mo->Env->Out (Option Int)
def vJ:QO:=fun _ _=>.ok none
def Bx:Dat->Out Int
 |.int i=>.ok i
 |_=>.bad
def oO(a:QF):QO:=fun M ρ=>(a M ρ).bind fun d=>(Bx d).bind fun i=>.ok (some i)
def slD(d:Dat)(lo hi:Option Int):Out Dat:=
 match d with
 |.list ds=>.ok (.list (cutD ds lo hi))
 |.tuple ds=>.ok (.tuple (cutD ds lo hi))
 |.str z=>Out.when (decide (z.length<=100000)) (.ok (.str (cutS z lo hi)))
 |_=>.bad
def Ka(a:QF)(lo hi:QO):QF:=fun M ρ=>(a M ρ).bind fun d=>(lo M ρ).bind fun l=>(hi M ρ).bind fun h=>slD d l h
def tQO(K:asr)(aj:aU)(W:WX)(f:QO):TO:=fun σ H Q=>∃g ρ M,SInv K aj σ H g ρ M/\(f M ρ).sat (fun o=>∀H',Ex H H'->Q o H') (qX K aj W g H σ)
def QOe(aj:aU)(X:Cx)(W:WX)(e:Option Expr)(f:QO):Prop:=PO X e (tQO X.K aj W f)
def aju(K:asr):V->Option Int->Option Int->Hp->VK->Prop:=fun x lo hi H Q=>rSlL K x lo hi H Q∨rSlA K x lo hi H Q∨rSlS x lo hi H Q
theorem aoL{X:Cx}:SlR X (aju X.K):=fun pins s σ H x v vl vu lo hi sl Q I rx hs pl pu h=>by
 rcases h with h|h|h
 ·exact sl_list pins s σ H x v vl vu lo hi sl Q I rx hs pl pu h
 ·exact sl_tupA pins s σ H x v vl vu lo hi sl Q I rx hs pl pu h
 ·exact sl_str pins s σ H x v vl vu lo hi sl Q I rx hs pl pu h
theorem anq{K:asr}{g:Gh}{H:Hp}{x:V}{d:Dat}{lo hi:Option Int}{Q:VK}{E:dD->Prop}(k:Kd g H)(rx:eE K g H x d)(h:(slD d lo hi).sat (fun z=>∀v H',Ex H H'->Rep K g H' v z->Q v H') E):aju K x lo hi H Q:=by
 unfold slD at h
 have hc:∀{us:List V} {ds:List Dat},aK K g H us ds->aK K g H (cutV us lo hi) (cutD ds lo hi):=fun {us ds} t=>by
  unfold cutV cutD
  rw[t.length]
  exact(t.drop _).take _
 split at h
 ·obtain⟨p,us,rfl,h1,h2⟩:=ji rx
  exact .inl ⟨p,us,rfl,h1,fun q nq=>h _ _ (Ex.new nq) (.lst (.inl ⟨.inl upd_same,k.fresh nq⟩) ((hc h2).ex (Ex.new nq) k))⟩
 ·next ds=>
  obtain⟨p,us,rfl,h1,h2⟩:=lN rx
  refine .inr (.inl ⟨p,us,rfl,h1,fun z=>?_,fun _ q nq=>h _ _ (Ex.new nq) (.tup (st_of upd_same) ((hc h2).ex (Ex.new nq) k))⟩)
  have e:cutD ds lo hi=ds:=by
   unfold cutD
   rw[←h2.length,z.1,z.2,h2.length]
   simp
  rw[e]at h
  exact h _ H (Ex.refl H) (.tup h1 h2)
 ·obtain⟨hz,h⟩:=h.qp
  exact .inr (.inr ⟨_,jX rx,sz_of (of_decide_eq_true hz),h _ H (Ex.refl H) (.str _)⟩)
 ·exact False.elim h
section
variable{X:Cx}{aj:aU}{W:WX}{a b:Expr}{fa fb:QF}{pos p2:Pos}
theorem amM(ha:QW aj X W a fa)(hb:QW aj X W b fb)(hs:PlainIx b):QE aj X W (.Subscript a b pos) (aA aH fa fb):=
 PE.weak (pe_ix an2 ha hb hs) fun σ H Q h=>R3 am2 σ H Q h
theorem PO.weak{X:Cx}{e:Option Expr}{t t':TO}(h:PO X e t)(k:∀σ H Q,t' σ H Q->t σ H Q):PO X e t':=⟨fun pins s σ H Q I q=>h.run pins s σ H Q I (k σ H Q q)⟩
theorem ais:QOe aj X W none vJ:=PO.weak po_none fun σ H Q ⟨g,ρ,M,I,h⟩=>h H (Ex.refl H)
theorem aiT(ha:QW aj X W a fa):QOe aj X W (some a) (oO fa):=PO.weak (po_some ha) fun σ H Q ⟨g,ρ,M,I,h⟩=>by
 refine tW.go I h.bnd fun d v H1 h1 e1 r1=>?_
 have h1:=h1.bnd
 unfold Bx at h1
 split at h1
 ·exact⟨_,cI r1,h1 H1 e1⟩
 ·exact False.elim h1
theorem am0{lo hi:Option Expr}{fl fh:QO}(ha:QW aj X W a fa)(hl:QOe aj X W lo fl)(hh:QOe aj X W hi fh):QE aj X W (.Subscript a (.Slice lo hi none p2) pos) (Ka fa fl fh):=
 PE.weak (pe_slice aoL ha hl hh) fun σ H Q ⟨g,ρ,M,I,h⟩=>by
  refine tW.go I h.bnd fun d v H1 h1 e1 r1=>?_
  have I1:=I.ex e1
  refine⟨g,ρ,M,I1,h1.bnd.mono (fun l h2 H2 e2=>?_) fun _ z=>z.ex e1⟩
  have I2:=I1.ex e2
  refine⟨g,ρ,M,I2,h2.bnd.mono (fun u h3 H3 e3=>?_) fun _ z=>(z.ex e1).ex e2⟩
  exact anq (I2.ex e3).kd ((r1.ex e2 I1.kd).ex e3 I2.kd) (h3.mono (fun z hz v' H' e' r'=>hz v' H' (((e1.trans e2).trans e3).trans e') r') fun _ z=>z)
end
def JW(aj:aU)(K:asr)(W:WX)(o:Dat->Out Dat)(r:List V->Hp->VK->Prop):Prop:=∀(σ:L2.St) (g:Gh) (H:Hp) (x:V) (d:Dat) (Q:VK),Kd g H->eE K g H x d->
 (o d).sat (fun z=>∀v H',Ex H H'->Rep K g H' v z->Q v H') (qX K aj W g H σ)->r [x] H Q
def Fn2(aj:aU)(K:asr)(W:WX)(o:Dat->Dat->Out Dat)(r:List V->Hp->VK->Prop):Prop:=∀(σ:L2.St) (g:Gh) (H:Hp) (x y:V) (d e:Dat) (Q:VK),Kd g H->eE K g H x d->eE K g H y e->
 (o d e).sat (fun z=>∀v H',Ex H H'->Rep K g H' v z->Q v H') (qX K aj W g H σ)->r [x,y] H Q
def BV(f:Value)(x:Str):Prop:=bootBuiltins x=some f/\x≠"__name__"/\(x==("__debug__" : Str))=false
def nst:Expr->Bool
 |.Starred _ _=>false
 |_=>true
section
variable{X:Cx}{aj:aU}{W:WX}{a b c:Expr}{fa fb fc:QF}{pos p:Pos}{x:Str}
theorem cQ{env:PySem.Env}{a:Expr}(h:nst a=true)(es:List Expr):starEach (a::es) env=(false,eval a env)::starEach es env:=by
 cases a <;> first | rfl | cases h
theorem star_any{env:PySem.Env}{pos:Pos}:∀(es:List Expr),es.all nst=true->(backTo pos (starEach es env)).any (·.1)=false
 |[],_=>by with_unfolding_all rfl
 |a::es,h=>by
  rw[ate,asu]at h
  rw[cQ h.1]
  have ih:=star_any (env:=env) (pos:=pos) es h.2
  unfold backTo at ih ⊢
  rw[asx,atw,ih]
  rfl
theorem ahg{f:Value}{id:String}{r:List V->Hp->VK->Prop}{o:Dat->Out Dat}(hf:f=.builtin id∨f=.type id)(hc:CallR X f r)(ho:JW aj X.K W o r)(hg:Gl X x)(hm:X.mg x=none)(hv:BV f x)(ha:QW aj X W a fa)(hs:nst a=true):QE aj X W (.Call (.Name x p) [a] [] pos) (dZ o fa):=by
 have h1:=pa_cons ha pa_nil (cQ hs [])
 have key:PE X (.Call (.Name x p) [a] [] pos) (tCB r (tCons (tW X.K aj W fa) tNil)):=by
  rcases hf with rfl|rfl
  ·exact pe_callB hc hg hm hv.1 h1 hv.2.1 hv.2.2 (cQ hs []) (by with_unfolding_all rfl)
  ·exact pe_callTy hc hg hm hv.1 h1 hv.2.1 hv.2.2 (cQ hs []) (by with_unfolding_all rfl)
 refine PE.weak key fun σ H Q ⟨g,ρ,M,I,h⟩=>?_
 refine tW.go I h.bnd fun d v H1 h1 e1 r1=>?_
 exact ho σ g H1 v d Q (I.kd.ex e1) r1 (h1.mono (fun z hz u H' e' r'=>hz u H' (e1.trans e') r') fun _ z=>z.ex e1)
theorem amc{f:Value}{id:String}{r:List V->Hp->VK->Prop}{o:Dat->Dat->Out Dat}(hf:f=.builtin id∨f=.type id)(hc:CallR X f r)(ho:Fn2 aj X.K W o r)(hg:Gl X x)(hm:X.mg x=none)(hv:BV f x)(ha:QW aj X W a fa)(hb:QW aj X W b fb)(hs:nst a=true)(hs2:nst b=true):QE aj X W (.Call (.Name x p) [a,b] [] pos) (aA o fa fb):=by
 have h1:=pa_cons ha (pa_cons hb pa_nil (cQ hs2 [])) (cQ hs [b])
 have key:PE X (.Call (.Name x p) [a,b] [] pos) (tCB r (tCons (tW X.K aj W fa) (tCons (tW X.K aj W fb) tNil))):=by
  rcases hf with rfl|rfl
  ·exact pe_callB hc hg hm hv.1 h1 hv.2.1 hv.2.2 (cQ hs [b]) (star_any [b] (by simp[hs2]))
  ·exact pe_callTy hc hg hm hv.1 h1 hv.2.1 hv.2.2 (cQ hs [b]) (star_any [b] (by simp[hs2]))
 refine PE.weak key fun σ H Q ⟨g,ρ,M,I,h⟩=>?_
 refine tW.go I h.bnd fun d v H1 h1 e1 r1=>?_
 have I1:=I.ex e1
 refine tW.go I1 (h1.bnd.mono (fun _ z=>z) fun _ z=>z.ex e1) fun d2 v2 H2 h2 e2 r2=>?_
 exact ho σ g H2 v v2 d d2 Q (I1.ex e2).kd (r1.ex e2 I1.kd) r2 (h2.mono (fun z hz u H' e' r'=>hz u H' ((e1.trans e2).trans e') r') fun _ z=>(z.ex e1).ex e2)
end
def mj:Dat->Out Dat
 |.list ds=>.ok (.int ds.length)
 |.tuple ds=>.ok (.int ds.length)
 |.str x=>Out.when (decide (x.length<=100000)) (.ok (.int x.length))
 |_=>.bad
def Vb:Dat->Out Dat
 |.int i=>.ok (.int (if i < 0 then -i else i))
 |_=>.bad
def oH:Dat->Dat->Out Dat
 |.int i,.int j=>.ok (.int (if j > i then j else i))
 |_,_=>.bad
def Ja:Dat->Dat->Out Dat
 |.int i,.int j=>.ok (.int (if j < i then j else i))
 |_,_=>.bad
def intsOf:List Dat->Option (List Int)
 |[]=>some []
 |.int i::r=>(intsOf r).map (i::·)
 |_::_=>none
def uQ:List Dat->Option (List Bool)
 |[]=>some []
 |.bool i::r=>(uQ r).map (i::·)
 |_::_=>none
theorem Jt{K:asr}{g:Gh}{H:Hp}:∀{us:List V} {ds:List Dat} {ns:List Int},aK K g H us ds->intsOf ds=some ns->us=ns.map V.int
 |_,_,ns,.nil,e=>by cases e;rfl
 |_,_,ns,.cons (d:=d) (ds:=ds) h t,e=>by
  cases d with
  |int i=>
   rw[intsOf]at e
   cases hr:intsOf ds with
   |none=>rw[hr]at e;cases e
   |some r=>
    rw[hr]at e
    cases e
    cases h
    rw[Jt t hr]
    rfl
  |_=>cases e
theorem Ku{K:asr}{g:Gh}{H:Hp}:∀{us:List V} {ds:List Dat} {ns:List Bool},aK K g H us ds->uQ ds=some ns->us=ns.map V.bl
 |_,_,ns,.nil,e=>by cases e;rfl
 |_,_,ns,.cons (d:=d) (ds:=ds) h t,e=>by
  cases d with
  |bool i=>
   rw[uQ]at e
   cases hr:uQ ds with
   |none=>rw[hr]at e;cases e
   |some r=>
    rw[hr]at e
    cases e
    cases h
    rw[Ku t hr]
    rfl
  |_=>cases e
@[simp]theorem Cm (ns:List Int):intsOf (ns.map PyData.int)=some ns:=by
 induction ns with
 |nil=>rfl
 |cons n ns ih=>rw[asx,intsOf,ih];rfl
@[simp]theorem Fp (ns:List Bool):uQ (ns.map PyData.bool)=some ns:=by
 induction ns with
 |nil=>rfl
 |cons n ns ih=>rw[asx,uQ,ih];rfl
def Va:Dat->Out Dat
 |.list ds=>match intsOf ds with
  |some ns=>.ok (.int ns.sum)
  |none=>.bad
 |_=>.bad
def Fy:Int->List Int->Int
 |m,[]=>m
 |m,n::ns=>Fy (if n > m then n else m) ns
theorem WQ:∀(ns:List Int) (m:Int),(Fy m ns∈m::ns)/\∀y∈m::ns,y<=Fy m ns
 |[],m=>⟨by simp[Fy],fun y h=>by simp at h;subst h;exact Int.le_refl _⟩
 |n::ns,m=>by
  obtain⟨h1,h2⟩:=WQ ns (if n > m then n else m)
  have hm:m<=(if n > m then n else m):=by split <;> omega
  have hn:n<=(if n > m then n else m):=by split <;> omega
  have h3:=h2 _ asz
  refine⟨?_,fun y hy=>?_⟩
  ·show Fy (if n > m then n else m) ns∈_
   rcases asN.mp h1 with e|e
   ·rw[e]
    split
    ·exact asy _ asz
    ·exact asz
   ·exact asy _ (asy _ e)
  ·show y<=Fy (if n > m then n else m) ns
   rcases asN.mp hy with e|hy
   ·omega
   ·rcases asN.mp hy with e|hy
    ·omega
    ·exact h2 y (asy _ hy)
def maxD:Dat->Out Dat
 |.list ds=>match intsOf ds with
  |some (n::ns)=>.ok (.int (Fy n ns))
  |_=>.bad
 |_=>.bad
def O8:Dat->Out Dat
 |.list ds=>match uQ ds with
  |some bs=>.ok (.bool (bs.all id))
  |none=>.bad
 |_=>.bad
def O4:Dat->Out Dat
 |.list ds=>match uQ ds with
  |some bs=>.ok (.bool (bs.any id))
  |none=>.bad
 |_=>.bad
def lQ:Dat->Out Dat
 |.list ds=>.ok (.tuple ds)
 |.tuple ds=>.ok (.tuple ds)
 |_=>.bad
def N5:Dat->Out Dat
 |.list ds=>.ok (.list ds)
 |.tuple ds=>.ok (.list ds)
 |_=>.bad
def intD:Dat->Out Dat
 |.int i=>.ok (.int i)
 |.bool k=>.ok (.int (if k then 1 else 0))
 |.str x=>Out.when (decide (x.length<=640)) (match PySem.intText? x with
  |some n=>.ok (.int n)
  |none=>.bad)
 |_=>.bad
def ahe(K:asr):List V->Hp->VK->Prop:=fun xs H Q=>(∃p ys,xs=[.ref p]/\(SqL K H p ys∨SqT K H p ys)/\Q (.int ys.length) H)∨∃z,xs=[.str z]/\z.length<=sizeLine/\Q (.int z.length) H
theorem alc{X:Cx}:CallR X (.builtin "len") (ahe X.K):=fun pins s σ H xs us Q I r h=>h.elim (fun h=>call_len_seq pins s σ H xs us Q I r h) fun h=>call_len_str pins s σ H xs us Q I r h
def ag9:List V->Hp->VK->Prop:=fun xs H Q=>((∃i,xs=[.int i]/\Q (.int i) H)∨∃k,xs=[.bl k]/\Q (.int (if k then 1 else 0)) H)∨∃a n,xs=[.str a]/\PySem.intText? a=some n/\a.length<=640/\Q (.int n) H
theorem akW{X:Cx}:CallR X (.type "int") ag9:=fun pins s σ H xs us Q I r h=>h.elim (fun h=>call_int1 pins s σ H xs us Q I r h) fun h=>call_int_str pins s σ H xs us Q I r h
section
variable{K:asr}{aj:aU}{W:WX}
theorem alo:JW aj K W mj (ahe K):=fun σ g H x d Q k rx h=>by
 unfold mj at h
 split at h
 ·obtain⟨p,us,rfl,h1,h2⟩:=ji rx
  rw[←h2.length]at h
  exact .inl ⟨p,us,rfl,.inl h1,h _ H (Ex.refl H) (.int _)⟩
 ·obtain⟨p,us,rfl,h1,h2⟩:=lN rx
  rw[←h2.length]at h
  exact .inl ⟨p,us,rfl,.inr h1,h _ H (Ex.refl H) (.int _)⟩
 ·obtain⟨hz,h⟩:=h.qp
  cases jX rx
  exact .inr ⟨_,rfl,sz_of (of_decide_eq_true hz),h _ H (Ex.refl H) (.int _)⟩
 ·exact False.elim h
theorem akj:JW aj K W Vb (fun xs H Q=>∃i,xs=[.int i]/\Q (.int (if i < 0 then -i else i)) H):=fun σ g H x d Q k rx h=>by
 unfold Vb at h
 split at h
 ·cases cI rx
  exact⟨_,rfl,h _ H (Ex.refl H) (.int _)⟩
 ·exact False.elim h
theorem aiE:Fn2 aj K W oH (fun xs H Q=>∃i j,xs=[.int i,.int j]/\Q (.int (if j > i then j else i)) H):=fun σ g H x y d e Q k rx ry h=>by
 unfold oH at h
 split at h
 ·cases cI rx;cases cI ry
  exact⟨_,_,rfl,h _ H (Ex.refl H) (.int _)⟩
 ·exact False.elim h
theorem aiK:Fn2 aj K W Ja (fun xs H Q=>∃i j,xs=[.int i,.int j]/\Q (.int (if j < i then j else i)) H):=fun σ g H x y d e Q k rx ry h=>by
 unfold Ja at h
 split at h
 ·cases cI rx;cases cI ry
  exact⟨_,_,rfl,h _ H (Ex.refl H) (.int _)⟩
 ·exact False.elim h
theorem ajB:JW aj K W Va (rSum K):=fun σ g H x d Q k rx h=>by
 unfold Va at h
 split at h
 ·split at h
  ·next ns e=>
   obtain⟨p,us,rfl,h1,h2⟩:=ji rx
   have:=Jt h2 e
   subst this
   exact⟨p,ns,rfl,h1,h _ H (Ex.refl H) (.int _)⟩
  ·exact False.elim h
 ·exact False.elim h
theorem ajA:JW aj K W maxD (rMax K):=fun σ g H x d Q k rx h=>by
 unfold maxD at h
 split at h
 ·split at h
  ·next n ns e=>
   obtain⟨p,us,rfl,h1,h2⟩:=ji rx
   have:=Jt h2 e
   subst this
   obtain⟨m1,m2⟩:=WQ ns n
   refine⟨p,n::ns,rfl,h1,by simp,fun m hm hy=>?_⟩
   have e2:m=Fy n ns:=Int.le_antisymm (m2 m hm) (hy _ m1)
   rw[e2]
   exact h _ H (Ex.refl H) (.int _)
  ·exact False.elim h
 ·exact False.elim h
theorem alR:JW aj K W O8 (rAll K):=fun σ g H x d Q k rx h=>by
 unfold O8 at h
 split at h
 ·split at h
  ·next ns e=>
   obtain⟨p,us,rfl,h1,h2⟩:=ji rx
   have:=Ku h2 e
   subst this
   exact⟨p,ns,rfl,h1,h _ H (Ex.refl H) (.bl _)⟩
  ·exact False.elim h
 ·exact False.elim h
theorem aj9:JW aj K W O4 (rAny K):=fun σ g H x d Q k rx h=>by
 unfold O4 at h
 split at h
 ·split at h
  ·next ns e=>
   obtain⟨p,us,rfl,h1,h2⟩:=ji rx
   have:=Ku h2 e
   subst this
   exact⟨p,ns,rfl,h1,h _ H (Ex.refl H) (.bl _)⟩
  ·exact False.elim h
 ·exact False.elim h
theorem af7:JW aj K W lQ (fun xs H Q=>∃p ys,xs=[.ref p]/\((SqL K H p ys/\∀l,H l=none->Q (.ref l) (upd H l (.tup ys)))∨(SqT K H p ys/\Q (.ref p) H))):=fun σ g H x d Q k rx h=>by
 unfold lQ at h
 split at h
 ·obtain⟨p,us,rfl,h1,h2⟩:=ji rx
  exact⟨p,us,rfl,.inl ⟨h1,fun l nl=>h _ _ (Ex.new nl) (.tup (st_of upd_same) (h2.ex (Ex.new nl) k))⟩⟩
 ·obtain⟨p,us,rfl,h1,h2⟩:=lN rx
  exact⟨p,us,rfl,.inr ⟨h1,h _ H (Ex.refl H) (.tup h1 h2)⟩⟩
 ·exact False.elim h
theorem ahD:JW aj K W N5 (fun xs H Q=>∃p ys,xs=[.ref p]/\(SqL K H p ys∨SqT K H p ys)/\∀l,H l=none->Q (.ref l) (upd H l (.lst ys))):=fun σ g H x d Q k rx h=>by
 unfold N5 at h
 split at h
 ·obtain⟨p,us,rfl,h1,h2⟩:=ji rx
  exact⟨p,us,rfl,.inl h1,fun l nl=>h _ _ (Ex.new nl) (.lst (.inl ⟨.inl upd_same,k.fresh nl⟩) (h2.ex (Ex.new nl) k))⟩
 ·obtain⟨p,us,rfl,h1,h2⟩:=lN rx
  exact⟨p,us,rfl,.inr h1,fun l nl=>h _ _ (Ex.new nl) (.lst (.inl ⟨.inl upd_same,k.fresh nl⟩) (h2.ex (Ex.new nl) k))⟩
 ·exact False.elim h
theorem ald:JW aj K W intD ag9:=fun σ g H x d Q k rx h=>by
 unfold intD at h
 split at h
 ·cases cI rx
  exact .inl (.inl ⟨_,rfl,h _ H (Ex.refl H) (.int _)⟩)
 ·cases Ea rx
  exact .inl (.inr ⟨_,rfl,h _ H (Ex.refl H) (.int _)⟩)
 ·obtain⟨hz,h⟩:=h.qp
  split at h
  ·next n e=>
   cases jX rx
   exact .inr ⟨_,n,rfl,e,of_decide_eq_true hz,h _ H (Ex.refl H) (.int _)⟩
  ·exact False.elim h
 ·exact False.elim h
end
inductive Om where
 |int|bool|str|tuple|list
def Om.name:Om->String
 |.int=>"int"
 |.bool=>"bool"
 |.str=>"str"
 |.tuple=>"tuple"
 |.list=>"list"
def Bq(t:Om):Dat->Option Bool
 |.none=>some false
 |.int _=>some (match t with
  |.int=>true
  |_=>false)
 |.bool _=>some (match t with
  |.int=>true
  |.bool=>true
  |_=>false)
 |.str _=>some (match t with
  |.str=>true
  |_=>false)
 |.tuple _=>some (match t with
  |.tuple=>true
  |_=>false)
 |.list _=>some (match t with
  |.list=>true
  |_=>false)
 |.dict _=>none
def yV(t:Om)(d:Dat):Out Dat:=match Bq t d with
 |some b=>.ok (.bool b)
 |none=>.bad
def ajS:Dat->String
 |.none=>"NoneType"
 |.int _=>"int"
 |.bool _=>"bool"
 |.str _=>"str"
 |.tuple _=>"tuple"
 |.list _=>"list"
 |.dict _=>"dict"
theorem ajU{K:asr}{H:Hp}{a:Addr}{xs:List V}(h:SqL K H a xs):TyX K H (.ref a) (.type "list"):=by
 rcases h with(h|⟨o,h⟩)|⟨o,its,n,h1,h2,_⟩
 ·exact .base (.lst h)
 ·exact .base (.frz h)
 ·exact .kList h1 h2
theorem ajO{K:asr}{H:Hp}{a:Addr}{xs:List V}(h:SqT K H a xs):TyX K H (.ref a) (.type "tuple"):=by
 rcases h with(h|⟨o,h⟩)|⟨o,its,n,h1,h2,_⟩
 ·exact .base (.tup h)
 ·exact .fTuple h
 ·exact .kTuple h1 h2
theorem amR{K:asr}{g:Gh}{H:Hp}{x:V}{d:Dat}(h:eE K g H x d)(hd:∀kv,d≠.dict kv):TyX K H x (.type (ajS d)):=by
 cases d with
 |none=>cases Ho h;exact .base .non
 |bool b=>cases Ea h;exact .base (.bl _)
 |int b=>cases cI h;exact .base (.int _)
 |str b=>cases jX h;exact .base (.str _)
 |list b=>obtain⟨a,us,rfl,h1,_⟩:=ji h;exact ajU h1
 |tuple b=>obtain⟨a,us,rfl,h1,_⟩:=lN h;exact ajO h1
 |dict kv=>exact absurd rfl (hd kv)
theorem aaW{K:asr}:PySem.W.kitOne K (.type "int") (.type "int")=some true:=kit_ty (by decide +kernel)
theorem YL{K:asr}:PySem.W.kitOne K (.type "int") (.type "bool")=some false:=kit_ty (by decide +kernel)
theorem aaJ{K:asr}:PySem.W.kitOne K (.type "int") (.type "str")=some false:=kit_ty (by decide +kernel)
theorem Xo{K:asr}:PySem.W.kitOne K (.type "int") (.type "tuple")=some false:=kit_ty (by decide +kernel)
theorem aaD{K:asr}:PySem.W.kitOne K (.type "int") (.type "list")=some false:=kit_ty (by decide +kernel)
theorem Yq{K:asr}:PySem.W.kitOne K (.type "bool") (.type "int")=some true:=kit_ty (by decide +kernel)
theorem Xv{K:asr}:PySem.W.kitOne K (.type "bool") (.type "bool")=some true:=kit_ty (by decide +kernel)
theorem ZG{K:asr}:PySem.W.kitOne K (.type "bool") (.type "str")=some false:=kit_ty (by decide +kernel)
theorem Vr{K:asr}:PySem.W.kitOne K (.type "bool") (.type "tuple")=some false:=kit_ty (by decide +kernel)
theorem XM{K:asr}:PySem.W.kitOne K (.type "bool") (.type "list")=some false:=kit_ty (by decide +kernel)
theorem aaP{K:asr}:PySem.W.kitOne K (.type "str") (.type "int")=some false:=kit_ty (by decide +kernel)
theorem ZR{K:asr}:PySem.W.kitOne K (.type "str") (.type "bool")=some false:=kit_ty (by decide +kernel)
theorem aa6{K:asr}:PySem.W.kitOne K (.type "str") (.type "str")=some true:=kit_ty (by decide +kernel)
theorem Xw{K:asr}:PySem.W.kitOne K (.type "str") (.type "tuple")=some false:=kit_ty (by decide +kernel)
theorem ZQ{K:asr}:PySem.W.kitOne K (.type "str") (.type "list")=some false:=kit_ty (by decide +kernel)
theorem Xx{K:asr}:PySem.W.kitOne K (.type "tuple") (.type "int")=some false:=kit_ty (by decide +kernel)
theorem Vx{K:asr}:PySem.W.kitOne K (.type "tuple") (.type "bool")=some false:=kit_ty (by decide +kernel)
theorem Xh{K:asr}:PySem.W.kitOne K (.type "tuple") (.type "str")=some false:=kit_ty (by decide +kernel)
theorem RX{K:asr}:PySem.W.kitOne K (.type "tuple") (.type "tuple")=some true:=kit_ty (by decide +kernel)
theorem VJ{K:asr}:PySem.W.kitOne K (.type "tuple") (.type "list")=some false:=kit_ty (by decide +kernel)
theorem Yt{K:asr}:PySem.W.kitOne K (.type "list") (.type "int")=some false:=kit_ty (by decide +kernel)
theorem Xl{K:asr}:PySem.W.kitOne K (.type "list") (.type "bool")=some false:=kit_ty (by decide +kernel)
theorem aam{K:asr}:PySem.W.kitOne K (.type "list") (.type "str")=some false:=kit_ty (by decide +kernel)
theorem Uj{K:asr}:PySem.W.kitOne K (.type "list") (.type "tuple")=some false:=kit_ty (by decide +kernel)
theorem Xq{K:asr}:PySem.W.kitOne K (.type "list") (.type "list")=some true:=kit_ty (by decide +kernel)
theorem Pu{K:asr}:PySem.W.kitOne K (.type "NoneType") (.type "int")=some false:=kit_ty (by decide +kernel)
theorem Oc{K:asr}:PySem.W.kitOne K (.type "NoneType") (.type "bool")=some false:=kit_ty (by decide +kernel)
theorem Pq{K:asr}:PySem.W.kitOne K (.type "NoneType") (.type "str")=some false:=kit_ty (by decide +kernel)
theorem MN{K:asr}:PySem.W.kitOne K (.type "NoneType") (.type "tuple")=some false:=kit_ty (by decide +kernel)
theorem Og{K:asr}:PySem.W.kitOne K (.type "NoneType") (.type "list")=some false:=kit_ty (by decide +kernel)
theorem ajb{K:asr}{t:Om}{d:Dat}{b:Bool}(h:Bq t d=some b):PySem.W.kitOne K (.type (ajS d)) (.type t.name)=some b/\∀kv,d≠.dict kv:=by
 cases d with
 |dict kv=>cases h
 |none=>
  refine⟨?_,fun _ z=>nomatch z⟩
  cases t <;> cases h
  ·exact Pu
  ·exact Oc
  ·exact Pq
  ·exact MN
  ·exact Og
 |bool x=>
  refine⟨?_,fun _ z=>nomatch z⟩
  cases t <;> cases h
  ·exact Yq
  ·exact Xv
  ·exact ZG
  ·exact Vr
  ·exact XM
 |int x=>
  refine⟨?_,fun _ z=>nomatch z⟩
  cases t <;> cases h
  ·exact aaW
  ·exact YL
  ·exact aaJ
  ·exact Xo
  ·exact aaD
 |str x=>
  refine⟨?_,fun _ z=>nomatch z⟩
  cases t <;> cases h
  ·exact aaP
  ·exact ZR
  ·exact aa6
  ·exact Xw
  ·exact ZQ
 |list x=>
  refine⟨?_,fun _ z=>nomatch z⟩
  cases t <;> cases h
  ·exact Yt
  ·exact Xl
  ·exact aam
  ·exact Uj
  ·exact Xq
 |tuple x=>
  refine⟨?_,fun _ z=>nomatch z⟩
  cases t <;> cases h
  ·exact Xx
  ·exact Vx
  ·exact Xh
  ·exact RX
  ·exact VJ
def wV(t:Om)(a:QF):QF:=dZ (yV t) a
section
variable{X:Cx}{aj:aU}{W:WX}{a b:Expr}{fa:QF}{pos p p2:Pos}{x y:Str}
theorem alr{t:Om}(hg:Gl X x)(hm:X.mg x=none)(hv:BV (.builtin "isinstance") x)(hg2:Gl X y)(hm2:X.mg y=none)(hv2:BV (.type t.name) y)(ha:QW aj X W a fa)(hs:nst a=true):QE aj X W (.Call (.Name x p) [a,.Name y p2] [] pos) (wV t fa):=by
 have hb:PE X (.Name y p2) (tC (.ty t.name)):=pe_bltn hg2 hm2 hv2.1 rfl hv2.2.1 hv2.2.2
 have h1:=pa_cons ha (pa_cons hb pa_nil (cQ (a:=.Name y p2) rfl [])) (cQ hs [.Name y p2])
 have key:=pe_callB (pos:=pos) (p:=p) call_isi hg hm hv.1 h1 hv.2.1 hv.2.2 (cQ hs [.Name y p2]) (star_any [.Name y p2] rfl)
 refine PE.weak key fun σ H Q ⟨g,ρ,M,I,h⟩=>?_
 refine tW.go I h.bnd fun d v H1 h1 e1 r1=>?_
 unfold yV at h1
 split at h1
 ·next bb e=>
  obtain⟨k1,k2⟩:=ajb (K:=X.K) e
  exact⟨v,_,_,_,bb,rfl,.ty _,amR r1 k2,k1,h1 _ H1 e1 (.bl _)⟩
 ·exact False.elim h1
end
inductive Src where
 |lst (a:Addr)|tup (a:Addr)|str (x:Str)
def chars(x:Str):List V:=x.cps.toList.map fun c=>V.str ⟨#[c]⟩
def Src.sq(K:asr)(H:Hp)(us:List V):Src->Prop
 |.lst a=>SqL K H a us
 |.tup a=>SqT K H a us
 |.str x=>us=chars x
def Src.it(h:Heap)(i:Addr)(n:Nat):Src->Prop
 |.lst a=>h.IsListIter i a n
 |.tup a=>h.IsTupleIter i a n
 |.str x=>∃t,h.IsStrIter i (strIterType x) x t n
def Src.ad:Src->List Addr
 |.lst a=>[a]
 |.tup a=>[a]
 |.str _=>[]
section
variable{X:Cx}{pins:List (Addr×Obj)}{σ:L2.St}{H:Hp}{s:Shared}
theorem Src.inj{S:Src}{us ws:List V}(I:L2.Inv X pins σ H s)(h:S.sq X.K H us)(h':S.sq X.K H ws):us=ws:=by
 cases S with
 |lst a=>exact I.list_inj h h'
 |tup a=>exact I.tuple_inj h h'
 |str x=>exact Eq.trans h (Eq.symm h')
theorem Src.draws{S:Src}{us:List V}{i:Addr}{n:Nat}(I:L2.Inv X pins σ H s)(hA:X.A.handled=none)(hs:S.sq X.K H us)(hi:S.it s.heap i n)(hne:∀a∈S.ad,a≠i) :
  ∃(P:Nat->Value->Prop) (St:Nat->Heap->Prop),Draws X.prog X.w X.A.in1 i (i::S.ad) us.length P St/\St n s.heap/\(∀m h,St m h->S.it h i m)/\∀(m:Nat) (v:Value) (x:V),P m v->us[m]?=some x->RelV x v:=by
 cases S with
 |lst a=>
  obtain⟨its,rv,p,hz⟩:=I.list hs
  have hl:=rv.length
  have D:=Draws.list (prog:=X.prog) (w:=X.w) (A:=X.A.in1) hA i a (hne a (by simp[Src.ad])) its.toArray
  rw[atQ,←hl]at D
  refine⟨_,_,D,⟨hi,p.isList⟩,fun m h z=>z.1,fun m v x hv hx=>?_⟩
  obtain⟨u,hu,ru⟩:=rv.get hx
  have:v=u:=asW (hv.symm.trans (by simpa using hu))
  rw[this]
  exact ru
 |tup a=>
  obtain⟨its,rv,p,hz⟩:=I.tuple hs
  have hl:=rv.length
  have D:=Draws.tuple (prog:=X.prog) (w:=X.w) (A:=X.A.in1) hA i a (hne a (by simp[Src.ad])) its.toArray
  rw[atQ,←hl]at D
  refine⟨_,_,D,⟨hi,p⟩,fun m h z=>z.1,fun m v x hv hx=>?_⟩
  obtain⟨u,hu,ru⟩:=rv.get hx
  have:v=u:=asW (hv.symm.trans (by simpa using hu))
  rw[this]
  exact ru
 |str x=>
  obtain⟨t,hi⟩:=hi
  have hl:us.length=x.cps.size:=by
   rw[show us=chars x from hs]
   unfold chars
   rw[asH,atd]
  have D:=Draws.text (prog:=X.prog) (w:=X.w) (A:=X.A.in1) hA i x t
  rw[←hl]at D
  refine⟨_,_,D,hi,fun m h z=>⟨t,z⟩,fun m v y hv hy=>?_⟩
  obtain⟨c,u,hc,rfl⟩:=hv
  rw[show us=chars x from hs]at hy
  unfold chars at hy
  rw[asI,ati,hc]at hy
  cases hy
  exact⟨u,rfl⟩
theorem Src.M9{S:Src}{h:Heap}{i:Addr}{n:Nat}(hi:S.it h i n):∃o,h.get? i=some o/\∀v,o.data≠.cell v:=by
 cases S with
 |lst a=>obtain⟨o,e,_,d⟩:=hi;exact⟨o,e,fun v q=>by rw[d]at q;cases q⟩
 |tup a=>obtain⟨o,e,_,d⟩:=hi;exact⟨o,e,fun v q=>by rw[d]at q;cases q⟩
 |str x=>obtain⟨t,o,e,_,d⟩:=hi;exact⟨o,e,fun v q=>by rw[d]at q;cases q⟩
theorem Src.NZ{S:Src}{h h':Heap}{i:Addr}{n:Nat}(hi:S.it h i n)(k:∀o,h.get? i=some o->h'.get? i=some o):S.it h' i n:=by
 cases S with
 |lst a=>exact hi.at k
 |tup a=>exact hi.at k
 |str x=>obtain⟨t,o,e,r⟩:=hi;exact⟨t,o,k o e,r⟩
end
def ItE(K:asr)(S:Src)(k₀:Int):It:=
 ⟨fun i H=>∃(us:List V) (x:V),S.sq K H us/\us[i]?=some x,fun i H v H'=>∃T x,v=.ref T/\H T=none/\H'=upd H T (.tup [.int (k₀+(i:Int)),x])/\∀us,S.sq K H us->us[i]?=some x,fun i H=>∃us:List V,S.sq K H us/\us.length=i⟩
theorem amj{P:Program}{w:World}{K:asr}{elts:List Expr}{kk:Nat}{tpos:Pos}(S:Src)(e i0:Addr)(k₀:Int)(hne:e≠i0)(ha:∀a∈S.ad,e≠a/\a≠i0) :
  Turn P w K (.Tuple elts kk tpos) (ItE K S k₀) [e,i0] e (fun i h=>(∃old,IsEnum h e i0 (k₀+(i:Int)) old)/\S.it h i0 i) where
 mem:=by simp
 obj:=fun i h st b hb=>by
  obtain⟨⟨old,he⟩,hi⟩:=st
  have e':b=e∨b=i0:=by simpa using hb
  rcases e' with z|z
  ·rw[z];exact⟨_,he,fun v q=>nomatch q⟩
  ·rw[z];exact Src.M9 hi
 keep:=fun i h h' st k=>let ⟨⟨old,he⟩,hi⟩:=st;⟨⟨old,k e (by simp) _ he⟩,Src.NZ hi fun o q=>k i0 (by simp) o q⟩
 item:=by
  intro X hP hw hK hc i pins s σ H E I hf st hg
  subst hP hw hK
  obtain⟨⟨old,he⟩,hit⟩:=st
  obtain⟨us,x,hq,hx⟩:=hg
  obtain⟨PP,St,D,st0,stI,rel⟩:=Src.draws I (I.ok.hd hc) hq hit fun a z=>(ha a z).2
  have hel:e < s.heap.objs.size:=Heap.lt_size he
  have hil:i0 < s.heap.objs.size:=by obtain⟨_,q,_⟩:=Src.M9 hit;exact Heap.lt_size q
  have hin:i < us.length:=(asv.mp hx).1
  refine wpAny_pyNext_enum_itemC D he st0 hin hne (fun z=>?_) fun v h' tk hP ho hst' hT hsz hk=>?_
  ·rcases asN.mp z with z|z
   ·exact hne z
   ·exact(ha e z).1 rfl
  have ru:=rel i v x hP hx
  refine⟨_,rfl,wpAny_letOwnedTupleGo_enum (s:={ s with heap:=h',toks:=tk+1 }) ho fun h'' he' sb=>?_⟩
  have hT2:h''.get? s.heap.objs.size=some { cls:=.type "tuple",data:=.seq #[.int (k₀+(i:Int)) tk,v] }:=(sb.2 _ (Nat.ne_of_gt hel)).trans hT
  have new:ObjOk X.prog X.w (upd H s.heap.objs.size (.tup [.int (k₀+(i:Int)),x])) h'' s.heap.objs.size (.tup [.int (k₀+(i:Int)),x]):=
   ⟨by show 2<=sizeLine;decide,[.int (k₀+(i:Int)) tk,v],.cons ⟨_,rfl⟩ (.cons ru .nil),⟨_,hT2,rfl,_,rfl⟩⟩
  have I1:L2.Inv X pins σ (upd H s.heap.objs.size (.tup [.int (k₀+(i:Int)),x])) { s with heap:=h'',toks:=tk+1 }:=
   I.turnedNew (ch:=[e,i0]) (fun b ob hb q=>(sb.2 b (fun z=>hb (by simp[z]))).trans (hk b ob (fun z=>hb (by simp[z])) (fun z=>hb (by simp[z])) q)) hf (as3 _) new
  refine⟨.ref s.heap.objs.size,_,I1,rfl,⟨_,x,rfl,I.hok.fresh (as3 _),rfl,fun ys hy=>by rw[Src.inj I hy hq];exact hx⟩,⟨⟨v,?_⟩,Src.NZ (stI _ _ hst') fun o q=>(sb.2 i0 (Ne.symm hne)).trans q⟩,fun b hb=>?_⟩
  ·have e1:k₀+((i+1:Nat):Int)=k₀+(i:Int)+1:=by omega
   rw[e1];exact he'
  ·have hb':b < s.heap.objs.size:=by
    have e':b=e∨b=i0:=by simpa using hb
    rcases e' with z|z
    ·rw[z];exact hel
    ·rw[z];exact hil
   rw[upd_ne (ata hb')]
   exact(hf b hb).1
 done:=by
  intro X hP hw hK hc i pins s σ H E I hf st hg
  subst hP hw hK
  obtain⟨⟨old,he⟩,hit⟩:=st
  obtain⟨us,hq,hx⟩:=hg
  obtain⟨PP,St,D,st0,stI,rel⟩:=Src.draws I (I.ok.hd hc) hq hit fun a z=>(ha a z).2
  obtain⟨f0,f1,f2,f3,f4,f5⟩:=hf i0 (by simp)
  rw[←hx]at st0
  exact wpAny_pyNext_enum_endD D he st0 fun h' eb=>⟨rfl,I.turned (t':=s.toks) (fun b o hb q=>eb b o hb q) f0 f1 f3 f4 f5⟩
 self:=fun A i s Q E st h=>let ⟨⟨_,he⟩,_⟩:=st;wpAny_pyIter_enum he h
theorem Src.begins{X:Cx}{pins:List (Addr×Obj)}{σ:L2.St}{H:Hp}{s:Shared}{S:Src}{us:List V}{x:V}{v:Value}(I:L2.Inv X pins σ H s)(hs:S.sq X.K H us)(hx:(∃a,x=.ref a/\S.ad=[a]/\(S=.lst a∨S=.tup a))∨∃y,S=.str y/\x=.str y)(r:RelV x v) :
  ∃(o:Obj) (B:Heap->Prop),Begins v o B/\B s.heap/\(∀h i,h.get? i=some o->S.it h i 0)/\∀a∈S.ad,a < s.heap.objs.size:=by
 rcases hx with⟨a,rfl,ha,h|h⟩|⟨y,h,rfl⟩
 ·subst h
  cases r
  obtain⟨its,rv,p,_⟩:=I.list hs
  obtain⟨o1,ho1,_⟩:=id p.isList
  refine⟨_,_,begins_list a its.toArray,p.isList,fun h i e=>⟨_,e,rfl,rfl⟩,fun b hb=>?_⟩
  rw[ha]at hb
  rw[asB.mp hb]
  exact Heap.lt_size ho1
 ·subst h
  cases r
  obtain⟨its,rv,p,_⟩:=I.tuple hs
  obtain⟨o1,ho1,_⟩:=id p
  refine⟨_,_,begins_tuple a its.toArray,p,fun h i e=>⟨_,e,rfl,rfl⟩,fun b hb=>?_⟩
  rw[ha]at hb
  rw[asB.mp hb]
  exact Heap.lt_size ho1
 ·subst h
  obtain⟨t,rfl⟩:=r
  exact⟨_,_,begins_text y t,trivial,fun h i e=>⟨t,_,e,rfl,rfl⟩,fun b hb=>nomatch hb⟩
def srcOf(x:V)(S:Src):Prop:=(∃a,x=.ref a/\S.ad=[a]/\(S=.lst a∨S=.tup a))∨∃y,S=.str y/\x=.str y
def iEn(K:asr)(ta:TA)(k₀:Int):TI:=fun σ H R=>ta σ H fun vs H1=>∃x S us,vs=[x]/\srcOf x S/\S.sq K H1 us/\R (ItE K S k₀) H1
section
variable{X:Cx}{a b:Expr}{ta tb:TA}{p pos tpos:Pos}{elts:List Expr}{kk:Nat}
theorem alg{pins:List (Addr×Obj)}{σ:L2.St}{H:Hp}{s:Shared}(I:L2.Inv X pins σ H s):∀b∈[s.heap.objs.size+1,s.heap.objs.size],FpOk X pins H b:=fun b hb=>by
 have e':b=s.heap.objs.size+1∨b=s.heap.objs.size:=by simpa using hb
 have hle:s.heap.objs.size<=b:=by
  rcases e' with z|z
  ·rw[z];exact Nat.le_add_right _ _
  ·rw[z];exact as3 _
 exact I.fpOk hle (I.hok.fresh hle)
theorem ahk{pins:List (Addr×Obj)}{σ:L2.St}{H:Hp}{s:Shared}{S:Src}{us:List V}{x:V}{v:Value}{o:Obj}{k₀:Int}{R:It->Hp->Prop}{h':Heap}(I:L2.Inv X pins σ H s)(hlt:∀a∈S.ad,a < s.heap.objs.size)(hit:∀h i,h.get? i=some o->S.it h i 0)
  (he:IsEnum h' (s.heap.objs.size+1) s.heap.objs.size k₀ .none) (ho:h'.get? s.heap.objs.size=some o) (hk:∀b o,s.heap.get? b=some o->h'.get? b=some o) (q:R (ItE X.K S k₀) H) :
  wpAny (model X.prog X.w) X.A (pyIter (.ref (s.heap.objs.size+1))) (PIE X pins σ (.Tuple elts kk tpos) R) X.xe { s with heap:=h' }:=by
 refine wpAny_pyIter_enum he ?_
 have I2:L2.Inv X pins σ H { s with heap:=h' }:=I.kept (t':=s.toks) hk
 refine⟨s.heap.objs.size+1,[s.heap.objs.size+1,s.heap.objs.size],_,_,H,rfl,I2,amj S (s.heap.objs.size+1) s.heap.objs.size k₀ (Nat.succ_ne_self _) (fun a z=>?_),⟨⟨.none,?_⟩,hit _ _ ho⟩,alg I,q⟩
 ·have:=hlt a z
  exact⟨Nat.ne_of_gt (atF this),ata this⟩
 ·rw[show k₀+((0:Nat):Int)=k₀ by simp]
  exact he
theorem afJ{v:Value}{o:Obj}{B:Heap->Prop}(hB:Begins v o B) :
  Meets (Builtin.«enumerate.__new__» ⟨[.type "enumerate",v],[]⟩) (fun _ R s=>B s.heap/\
   R (.ok (.ret (.ref (s.heap.push o).objs.size))) { s with heap:=(s.heap.push o).push { cls:=.type "enumerate",data:=.fields #[.none,.bool false,.ref s.heap.objs.size,rawInt 0,.none,.none] } }):=
 .of_wp fun prog w A R s hh=>by
  obtain⟨hp,gs,dr,tk,os⟩:=s
  obtain⟨hb,hr⟩:=hh
  have hsub:=sub_enumerate
  have qi:∀{A':Around} {E:Value->Shared->Prop} {Q:Value->Shared->Prop},Q (.ref hp.objs.size) ⟨hp.push o,gs,dr,tk,os⟩->wpAny (model prog w) A' (pyIter v) Q E ⟨hp,gs,dr,tk,os⟩:=fun z=>hB.iter prog w _ _ ⟨hp,gs,dr,tk,os⟩ _ hb z
  wp_walk using qi
  refine wpAny_stack_any fun st=>wpAny_pure ?_
  split
  ·next c _ _ _ _ _=>
   cases(c==Value.type "enumerate") <;> (wp_walk using qi;exact⟨_,rfl,hr⟩)
  ·wp_walk using qi
   exact⟨_,rfl,hr⟩
theorem aeB{prog:Program}{w:World}{A:Around}{E:Value->Shared->Prop}{s:Shared}{v:Value}{o:Obj}{B:Heap->Prop}{Q:Value->Shared->Prop}(hB:Begins v o B)(hb:B s.heap)
  (h:∀h',IsEnum h' (s.heap.objs.size+1) s.heap.objs.size 0 .none->h'.get? s.heap.objs.size=some o->(∀b o,s.heap.get? b=some o->h'.get? b=some o)->Q (.ref (s.heap.objs.size+1)) { s with heap:=h' }) :
  wpAny (model prog w) A (call (.type "enumerate") [v]) Q E s:=by
 refine callType_new F.called_enumerate (by decide) (F.typeCall_enumerate_1 _) (F.newCall_enumerate_1 _) (fun ob=>F.args_object_init_2 ob _) F.entry_enumerate_new (afJ hB) ⟨hb,?_⟩
 have hz:(s.heap.push o).objs.size=s.heap.objs.size+1:=Heap.size_push ..
 have he:=Heap.get?_push_size (s.heap.push o) (o:={ cls:=.type "enumerate",data:=.fields #[.none,.bool false,.ref s.heap.objs.size,rawInt 0,.none,.none] }) rfl
 show _/\_
 rw[hz]at he ⊢
 exact⟨⟨_,he,rfl⟩,h _ he (Heap.get?_push_of_some _ (Heap.get?_push_size _ hB.free)) fun b u z=>Heap.get?_push_of_some _ (Heap.get?_push_of_some _ z)⟩
theorem amb(hg:Gl X "enumerate")(hm:X.mg "enumerate"=none)(ha:PA X [a] ta)(hs:nst a=true):PI X (.Tuple elts kk tpos) (.Call (.Name "enumerate" p) [a] [] pos) (iEn X.K ta 0):=by
 refine⟨fun pins s σ H R I h=>?_⟩
 refine Call_ (ld_blt I hg hm boot_enumerate (PyProof.Rows.callWith_type1 (thn (ha.run pos pins s σ H _ I h) fun us s1 ⟨vs,H1,I1,r1,x,S,us',ev,hx,hq,q⟩=>?_) (cQ hs []) (by with_unfolding_all rfl)))
 subst ev
 obtain⟨v,rfl,r⟩:=vals1 r1
 obtain⟨o,B,hB,hb,hit,hlt⟩:=Src.begins I1 hq hx r
 exact aeB hB hb fun h' he ho hk=>ahk (x:=x) (v:=v) (us:=us') I1 hlt hit he ho hk q
theorem afo{M:Model}{A:Around}{E:Value->Shared->Prop}{s:Shared}{pos:Pos}{T:String}{args:List (Bool×Sem Value)}{kws:List (Option Str×Sem Value)}{Q:Value->Shared->Prop}(h1:args.any (·.1)=false)(h2:kws.any (·.1.isNone)=false)
  (h:wpAny M A (evalArgs (.type T) true args kws) (fun z s₁=>wpAny M A (call (.type T) z.pos z.kw) Q E s₁) E s):wpAny M A (callWith pos (.type T) [] args kws) Q E s:=by
 unfold callWith
 refine wpAny_bind (wpAny_holding (wpAny_mono h (fun z s₁ hz=>wpAny_bind (wpAny_standAt ?_)) fun _ _ y=>y))
 rw[h1,h2]
 refine wpAny_bind (wpAny_pure ?_)
 exact wpAny_bind (wpAny_mono hz (fun r s₂ hr=>wpAny_bind (wpAny_holding (wpAny_point (wpAny_pure hr)))) fun _ _ y=>y)
theorem ajI{k₀:Int}{j:Nat}{kp kp2:Pos}(hk0 : -(2 ^ 63)<=k₀)(hk1:k₀ < 2 ^ 63)(hg:Gl X "enumerate")(hm:X.mg "enumerate"=none)(ha:PA X [a] ta)(hs:nst a=true) :
  PI X (.Tuple elts kk tpos) (.Call (.Name "enumerate" p) [a] [⟨some "start",.Constant (.int k₀) j kp,kp2⟩] pos) (iEn X.K ta k₀):=by
 refine⟨fun pins s σ H R I h=>?_⟩
 have hpk:PK X [⟨some "start",.Constant (.int k₀) j kp,kp2⟩] (tCons (tC (.int k₀)) tNil):=pk_cons pe_int pk_nil
 refine wpAny_Call_Name_kw (ld_blt I hg hm boot_enumerate (afo (star_any [a] (by simp[hs])) (by with_unfolding_all rfl) ?_))
 refine PyProof.Rows.evalArgs_kw2 (by with_unfolding_all rfl) (thn (ha.run pos pins s σ H _ I h) fun us s1 ⟨vs,H1,I1,r1,x,S,us',ev,hx,hq,q⟩=>?_) (by first | (rw[cQ hs];done) | (rw[cQ hs];rfl) | rw[cQ hs])
 refine thn (hpk.run pos pins s1 σ H1 (fun zs H2=>zs=[.int k₀]/\H2=H1) I1 ⟨rfl,rfl⟩) fun ws s2 ⟨zs,H2,I2,r2,e1,e2⟩=>?_
 subst ev e1 e2
 obtain⟨v,rfl,r⟩:=vals1 r1
 obtain⟨w,rfl,t,rfl⟩:=vals1 r2
 obtain⟨o,B,hB,hb,hit,hlt⟩:=Src.begins I2 hq hx r
 exact enum_begins_start hB hb hk0 hk1 fun h' he ho _ hk=>ahk (x:=x) (v:=v) (us:=us') I2 hlt hit he ho hk q
def ItZ(K:asr)(S T:Src):It:=
 ⟨fun i H=>∃(us ws:List V) (x y:V),S.sq K H us/\T.sq K H ws/\us[i]?=some x/\ws[i]?=some y,fun i H v H'=>∃U x y,v=.ref U/\H U=none/\H'=upd H U (.tup [x,y])/\(∀us,S.sq K H us->us[i]?=some x)/\∀ws,T.sq K H ws->ws[i]?=some y,
  fun i H=>∃us ws:List V,S.sq K H us/\T.sq K H ws/\i=min us.length ws.length⟩
theorem amm{P:Program}{w:World}{K:asr}{S T:Src}{N:Addr}(h1:∀a∈S.ad,a < N)(h2:∀a∈T.ad,a < N) :
  Turn P w K (.Tuple elts kk tpos) (ItZ K S T) [N+4,N+2,N+3,N,N+1] (N+4) (fun n h=>IsZip h (N+4) (N+2) (N+3) .none/\IsPair h (N+2) (.ref N) (.ref (N+1))/\(∃x y,IsPair h (N+3) x y)/\S.it h N n/\T.it h (N+1) n) where
 mem:=by simp
 obj:=fun n h q c hc=>by
  obtain⟨gz,gI,⟨x,y,gO⟩,i1,i2⟩:=q
  simp only[asN,atc,or_false]at hc
  rcases hc with rfl|rfl|rfl|rfl|rfl
  ·exact⟨_,gz,fun v q=>nomatch q⟩
  ·exact⟨_,gI,fun v q=>nomatch q⟩
  ·exact⟨_,gO,fun v q=>nomatch q⟩
  ·exact Src.M9 i1
  ·exact Src.M9 i2
 keep:=fun n h h' q k=>by
  obtain⟨gz,gI,⟨x,y,gO⟩,i1,i2⟩:=q
  exact⟨k _ (by simp) _ gz,k _ (by simp) _ gI,⟨x,y,k _ (by simp) _ gO⟩,Src.NZ i1 fun o e=>k _ (by simp) o e,Src.NZ i2 fun o e=>k _ (by simp) o e⟩
 item:=by
  intro X hP hw hK hc n pins s σ H E I hf q hg
  subst hP hw hK
  obtain⟨gz,gI,⟨x0,y0,gO⟩,i1,i2⟩:=q
  obtain⟨us,ws,x,y,qx,qy,hx,hy⟩:=hg
  obtain⟨P1,St1,D1,st1,b1,rel1⟩:=Src.draws I (I.ok.hd hc) qx i1 fun a z=>ata (h1 a z)
  obtain⟨P2,St2,D2,st2,b2,rel2⟩:=Src.draws I (I.ok.hd hc) qy i2 fun a z=>ata (atF (h2 a z))
  have hzl:N+4 < s.heap.objs.size:=Heap.lt_size gz
  refine wpAny_pyNext_zipD2_item (zip_sep2 h1 h2) D1 D2 gz gI gO st1 st2 (asv.mp hx).1 (asv.mp hy).1 fun v1 v2 h' tk p1 p2 z' o' s1 s2 hT hsz hk=>?_
  refine⟨_,rfl,wpAny_letOwnedTupleGo_zip (s:={ s with heap:=h',toks:=tk }) z' fun h'' z'' sb=>?_⟩
  have hT2:=(sb.2 _ (Nat.ne_of_gt hzl)).trans hT
  have new:ObjOk X.prog X.w (upd H s.heap.objs.size (.tup [x,y])) h'' s.heap.objs.size (.tup [x,y]):=⟨by show 2<=sizeLine;decide,[v1,v2],.cons (rel1 n v1 x p1 hx) (.cons (rel2 n v2 y p2 hy) .nil),⟨_,hT2,rfl,_,rfl⟩⟩
  have I1:L2.Inv X pins σ (upd H s.heap.objs.size (.tup [x,y])) { s with heap:=h'',toks:=tk }:=by
   refine I.turnedNew (t':=tk) (ch:=[N+4,N+2,N+3,N,N+1]) (fun c o hb e=>?_) hf (as3 _) new
   simp only[asN,atc,or_false,not_or]at hb
   exact(sb.2 c hb.1).trans (hk c o hb.1 hb.2.2.1 hb.2.2.2.1 hb.2.2.2.2 e)
  have ne4:∀k,k≠4->N+k≠N+4:=fun k hk z=>hk (atY z)
  refine⟨.ref s.heap.objs.size,_,I1,rfl,⟨_,x,y,rfl,I.hok.fresh (as3 _),rfl,fun l hl=>by rw[Src.inj I hl qx];exact hx,fun l hl=>by rw[Src.inj I hl qy];exact hy⟩,⟨z'',?_,⟨v1,v2,?_⟩,?_,?_⟩,fun c hcm=>?_⟩
  ·exact(sb.2 _ (ne4 2 (by decide))).trans (hk _ _ (ne4 2 (by decide)) (fun z=>absurd (atY z) (by decide)) (fun z=>absurd (atY (z.trans (Nat.add_zero N).symm)) (by decide)) (fun z=>absurd (atY z) (by decide)) gI)
  ·exact(sb.2 _ (ne4 3 (by decide))).trans o'
  ·exact Src.NZ (b1 _ _ s1) fun o e=>(sb.2 _ (ne4 0 (by decide))).trans e
  ·exact Src.NZ (b2 _ _ s2) fun o e=>(sb.2 _ (ne4 1 (by decide))).trans e
  ·have hlt:c < s.heap.objs.size:=by
    simp only[asN,atc,or_false]at hcm
    rcases hcm with rfl|rfl|rfl|rfl|rfl
    ·exact hzl
    ·exact Heap.lt_size gI
    ·exact Heap.lt_size gO
    ·obtain⟨_,e1,_⟩:=Src.M9 i1
     exact Heap.lt_size e1
    ·obtain⟨_,e2,_⟩:=Src.M9 i2
     exact Heap.lt_size e2
   rw[upd_ne (ata hlt)]
   exact(hf c hcm).1
 done:=by
  intro X hP hw hK hc n pins s σ H E I hf q hg
  subst hP hw hK
  obtain⟨gz,gI,⟨x0,y0,gO⟩,i1,i2⟩:=q
  obtain⟨us,ws,qx,qy,hn⟩:=hg
  obtain⟨P1,St1,D1,st1,b1,rel1⟩:=Src.draws I (I.ok.hd hc) qx i1 fun a z=>ata (h1 a z)
  obtain⟨P2,St2,D2,st2,b2,rel2⟩:=Src.draws I (I.ok.hd hc) qy i2 fun a z=>ata (atF (h2 a z))
  refine wpAny_pyNext_zipD2_end (zip_sep2 h1 h2) D1 D2 gz gI gO st1 st2 (by omega) (by omega) (by omega) fun h' tk hk=>⟨rfl,?_⟩
  refine I.turnedL (t':=tk) (ch:=[N+4,N+2,N+3,N,N+1]) (fun c o hb e=>?_) hf
  simp only[asN,atc,or_false,not_or]at hb
  exact hk c o hb.1 hb.2.2.1 hb.2.2.2.1 hb.2.2.2.2 e
 self:=fun A n s Q E q h=>wpAny_pyIter_zip q.1 h
def iZp(K:asr)(ta:TA):TI:=fun σ H R=>ta σ H fun vs H1=>∃x y S T us ws,vs=[x,y]/\srcOf x S/\srcOf y T/\S.sq K H1 us/\T.sq K H1 ws/\R (ItZ K S T) H1
theorem aml(hg:Gl X "zip")(hm:X.mg "zip"=none)(ha:PA X [a,b] ta)(hs:nst a=true)(hs2:nst b=true):PI X (.Tuple elts kk tpos) (.Call (.Name "zip" p) [a,b] [] pos) (iZp X.K ta):=by
 refine⟨fun pins s σ H R I h=>?_⟩
 refine Call_ (ld_blt I hg hm PyProof.Rows.boot_zip (PyProof.Rows.callWith_type1 (thn (ha.run pos pins s σ H _ I h) fun us s1 ⟨vs,H1,I1,r1,x,y,S,T,us',ws',ev,hx,hy,hq,hq2,q⟩=>?_) (cQ hs [b]) (star_any [b] (by simp[hs2]))))
 subst ev
 obtain⟨v1,v2,rfl,rv1,rv2⟩:=vals2 r1
 obtain⟨o1,B1,hB1,hb1,hit1,hlt1⟩:=Src.begins I1 hq hx rv1
 obtain⟨o2,B2,hB2,hb2,hit2,hlt2⟩:=Src.begins I1 hq2 hy rv2
 refine zip_begins2 hB1 hB2 hb1 hb2 fun h' hz hTI hTO e1 e2 hsz hk=>wpAny_pyIter_zip hz ?_
 have I2:L2.Inv X pins σ H1 { s1 with heap:=h' }:=I1.kept (t':=s1.toks) hk
 refine⟨s1.heap.objs.size+4,_,_,_,H1,rfl,I2,amm hlt1 hlt2,⟨hz,hTI,⟨_,_,hTO⟩,hit1 _ _ e1,hit2 _ _ e2⟩,fun c hcm=>?_,q⟩
 have hle:s1.heap.objs.size<=c:=by
  simp only[asN,atc,or_false]at hcm
  rcases hcm with rfl | rfl | rfl | rfl | rfl <;> first | exact as3 _ | exact Nat.le_add_right _ _
 exact I1.fpOk hle (I1.hok.fresh hle)
end
section
variable{K:asr}{aj:aU}{q:Bool}{g g':Gh}{H H':Hp}{v:V}{d:Dat}{σ:L2.St}{ρ:Env}{M:Mo}
theorem jF.up{l:Addr}:∀{n:Bool} {kvs:List (Dat×Dat)} (r:Gr true g g' H H') (e:Ex H H') (k:Kd g H) (h:jF K aj g H l n kvs),jF K aj g' H' l n kvs
 |false,_,r,e,k,⟨kv,h1,h2,h3⟩=>⟨kv,e _ _ h1,h2,h3.gr r k⟩
 |true,_,r,e,k,⟨o,xs,vs,h1,h2,h3,h4,h5,h6⟩=>⟨o,xs,vs,e _ _ h1,h2,h3,h4.gr r k,h5,h6.gr r k⟩
theorem dU.up{h:Nat}{f:Str}(r:Gr true g g' H H')(e:Ex H H')(k:Kd g H):∀{fl:jd},dU K aj g H h f v fl->dU K aj g' H' h f v fl
 |.dat _,z=>Rep.gr r k z
 |.lst _ _,⟨l,us,h1,h2,h3,h4,h5⟩=>⟨l,us,h1,e _ _ h2,by rw[(r.qg rfl).2];exact h3,h4.gr r k,r.tb h5⟩
 |.dic _ _,⟨l,h1,h2,h3⟩=>⟨l,h1,by rw[(r.qg rfl).2];exact h2,h3.up r e k⟩
theorem cP.up{h:Nat}(r:Gr true g g' H H')(e:Ex H H')(k:Kd g H):∀{fs:List (Str×V)} {gs:List (Str×jd)},cP K aj g H h fs gs->cP K aj g' H' h fs gs
 |_,_,.nil=>.nil
 |_,_,.cons z t=>.cons (dU.up r e k z) (cP.up r e k t)
theorem fZ.up(r:Gr true g g' H H')(e:Ex H H')(k:Kd g H)(w:fZ K aj g H M):fZ K aj g' H' M where
 len:=by rw[(r.qg rfl).1];exact w.len
 inj:=by rw[(r.qg rfl).1];exact w.inj
 ins:=fun h a i ha hi hc=>by
  rw[(r.qg rfl).1]at ha
  obtain⟨C,dx,fs,c1,c2,c3⟩:=w.ins h a i ha hi hc
  exact⟨C,dx,fs,c1,e _ _ c2,c3.up r e k⟩
 nd:=w.nd
 fd:=w.fd
 tw:=by rw[(r.qg rfl).1,(r.qg rfl).2];exact w.tw
 dm:=w.dm
 nc:=w.nc
theorem SInv.up(r:Gr true g g' H H')(e:Ex H H')(k':Kd g' H')(I:SInv K aj σ H g ρ M):SInv K aj σ H' g' ρ M where
 kd:=k'
 wok:=I.wok.up r e I.kd
 len:=I.len
 dat:=fun i d h=>by
  obtain⟨v,h1,h2⟩:=I.dat i d h
  exact⟨v,h1,h2.gr r I.kd⟩
 own:=fun i xs h=>by
  obtain⟨l,us,h1,h2,h3,h4⟩:=I.own i xs h
  exact⟨l,us,h1,e _ _ h2,r.Lo l h3,h4.gr r I.kd⟩
 sep:=I.sep
def Gh.add(g:Gh)(D:Addr):Gh:={ g with Lo:=fun a=>g.Lo a∨a=D }
theorem Gh.Gu{D:Addr}(n:H D=none)(e:Ex H H'):Gr true g (g.add D) H H' where
 keep:=fun a o h _ _=>e a o h
 keepW:=fun _ a o h _=>e a o h
 dom:=DG e
 tbl:=⟨[],by simp[Gh.add]⟩
 W:=fun _ h=>h
 nW:=fun _ h=>.inl h
 qg:=fun _=>⟨rfl,rfl⟩
 Lc:=rfl
 Lo:=fun _ h=>.inl h
 nLo:=fun a h=>h.elim .inl fun z=>.inr (by rw[z];exact n)
theorem Gh.alv{D:Addr}{o:HO}(k:Kd g H)(n:H D=none)(e:Ex H H')(hD:H' D=some o)(m:Ir o):Kd (g.add D) H' where
 ob:=fun a z=>by
  rcases z with z|z|z|z
  ·obtain⟨o,h,m⟩:=k.ob a (.inl z);exact⟨o,e a o h,m⟩
  ·obtain⟨o,h,m⟩:=k.ob a (.inr (.inl z));exact⟨o,e a o h,m⟩
  ·obtain⟨o,h,m⟩:=k.ob a (.inr (.inr z));exact⟨o,e a o h,m⟩
  ·rw[z];exact⟨o,hD,m⟩
 lo:=fun a z=>by
  rcases z with z|z
  ·exact k.lo a z
  ·intro w
   subst z
   exact k.fresh n (.inl w)
 lc:=fun a z=>⟨(k.lc a z).1,fun y=>y.elim (k.lc a z).2 fun y=>by subst y;exact k.fresh n (.inr (.inl z))⟩
theorem SInv.add{D:Addr}{o:HO}(I:SInv K aj σ H g ρ M)(n:H D=none)(e:Ex H H')(hD:H' D=some o)(m:Ir o):SInv K aj σ H' (g.add D) ρ M:=
 I.up (Gh.Gu n e) e (Gh.alv I.kd n e hD m)
theorem SInv.set{j:Nat}(I:SInv K aj σ H g ρ M)(r:Rep K g H v d):SInv K aj (σ.set j (some v)) H g (ρ.set j (some (.dat d))) M where
 kd:=I.kd
 wok:=I.wok
 len:=by rw[asZ,asZ];exact I.len
 dat:=fun i e h=>by
  by_cases z:j=i
  ·subst z
   have hj:j < ρ.length:=by
    have:=(asv.mp h).1
    rw[asZ]at this
    exact this
   rw[asS hj]at h
   cases h
   exact⟨v,by rw[asS (by rw[I.len];exact hj)],r⟩
  ·rw[asF z]at h
   obtain⟨u,h1,h2⟩:=I.dat i e h
   exact⟨u,by rw[asF z];exact h1,h2⟩
 own:=fun i xs h=>by
  by_cases z:j=i
  ·subst z
   have hj:j < ρ.length:=by
    have:=(asv.mp h).1
    rw[asZ]at this
    exact this
   rw[asS hj]at h
   cases h
  ·rw[asF z]at h
   obtain⟨l,us,h1,h2⟩:=I.own i xs h
   exact⟨l,us,by rw[asF z];exact h1,h2⟩
 sep:=fun i k xs ys l ne h1 h2 h3=>by
  have nj:∀{i:Nat} {xs:List Dat},(ρ.set j (some (.dat d)))[i]?=some (some (.mut xs))->j≠i:=fun {i xs} h z=>by
   subst z
   have hj:j < ρ.length:=by
    have:=(asv.mp h).1
    rw[asZ]at this
    exact this
   rw[asS hj]at h
   cases h
  have n1:=nj h1
  have n2:=nj h2
  rw[asF n1]at h1 h3
  rw[asF n2]at h2
  rw[asF n2]
  exact I.sep i k xs ys l ne h1 h2 h3
theorem SInv.forget{j:Nat}(I:SInv K aj σ H g ρ M):SInv K aj (σ.set j none) H g (ρ.set j none) M where
 kd:=I.kd
 wok:=I.wok
 len:=by rw[asZ,asZ];exact I.len
 dat:=fun i e h=>by
  by_cases z:j=i
  ·subst z
   have hj:j < ρ.length:=by
    have:=(asv.mp h).1
    rw[asZ]at this
    exact this
   rw[asS hj]at h
   cases h
  ·rw[asF z]at h ⊢
   exact I.dat i e h
 own:=fun i xs h=>by
  by_cases z:j=i
  ·subst z
   have hj:j < ρ.length:=by
    have:=(asv.mp h).1
    rw[asZ]at this
    exact this
   rw[asS hj]at h
   cases h
  ·rw[asF z]at h ⊢
   exact I.own i xs h
 sep:=fun i k xs ys l ne h1 h2 h3=>by
  have nj:∀{i:Nat} {xs:List Dat},(ρ.set j none)[i]?=some (some (.mut xs))->j≠i:=fun {i xs} h z=>by
   subst z
   have hj:j < ρ.length:=by
    have:=(asv.mp h).1
    rw[asZ]at this
    exact this
   rw[asS hj]at h
   cases h
  have n1:=nj h1
  have n2:=nj h2
  rw[asF n1]at h1 h3
  rw[asF n2]at h2
  rw[asF n2]
  exact I.sep i k xs ys l ne h1 h2 h3
def cC(ρ:Env):List Nat->Env
 |[]=>ρ
 |j::js=>(cC ρ js).set j none
theorem SInv.wipe(I:SInv K aj σ H g ρ M):∀vs:List Nat,SInv K aj (L2.wipe σ vs) H g (cC ρ vs) M
 |[]=>I
 |j::js=>(SInv.wipe I js).forget
end
abbrev fV:=Dat->Env->Option Env
def aF(j:Nat):fV:=fun d ρ=>some (ρ.set j (some (.dat d)))
def rB:List Nat->List Dat->Env->Option Env
 |[],[],ρ=>some ρ
 |j::js,d::ds,ρ=>rB js ds (ρ.set j (some (.dat d)))
 |_,_,_=>none
def bF(js:List Nat):fV:=fun d ρ=>match d with
 |.tuple ds=>rB js ds ρ
 |_=>none
def sets(σ:L2.St):List Nat->List V->L2.St
 |j::js,v::vs=>sets (σ.set j (some v)) js vs
 |_,_=>σ
def Ac(K:asr)(aj:aU)(js:List Nat)(f:fV):TG:=fun v σ H Q=>∃g ρ M d ρ',SInv K aj σ H g ρ M/\Rep K g H v d/\f d ρ=some ρ'/\∀vs,SInv K aj (sets σ js vs) H g ρ' M->Q (sets σ js vs) H
def QG(aj:aU)(X:Cx)(tg:Expr)(js:List Nat)(f:fV):Prop:=PG X tg (Ac X.K aj js f)
theorem PG.weak{X:Cx}{e:Expr}{t t':TG}(h:PG X e t)(k:∀v σ H Q,t' v σ H Q->t v σ H Q):PG X e t':=⟨fun pins s σ H v u Q I r q=>h.run pins s σ H v u Q I r (k v σ H Q q)⟩
section
variable{X:Cx}{aj:aU}{pos:Pos}
theorem Vi{j:Nat}{x:Str}(hN:X.N.Nodup)(hi:X.N[j]?=some x)(hx:Loc X.env.scope x)(hf:X.fn x=true∨X.env.scope.names.lookup x=some .local):QG aj X (.Name x pos) [j] (aF j):=
 PG.weak (pg_name hN hi hx hf) fun v σ H Q ⟨g,ρ,M,d,ρ',I,r,e,q⟩=>by
  cases e
  exact q [v] (I.set r)
def RG(X:Cx):List Expr->List Nat->Prop
 |[],[]=>True
 |.Name x _::es,j::js=>X.N[j]?=some x/\Loc X.env.scope x/\(X.fn x=true∨X.env.scope.names.lookup x=some .local)/\RG X es js
 |_,_=>False
theorem agc{es:List Expr}{js:List Nat}(h:RG X es js):(assignEach es X.env).length=js.length/\(assignEach es X.env).findIdx? (·.1)=none:=by
 induction es generalizing js with
 |nil=>
  cases js with
  |nil=>exact⟨by with_unfolding_all rfl,by with_unfolding_all rfl⟩
  |cons j js=>exact False.elim h
 |cons e es ih=>
  cases js with
  |nil=>cases e <;> exact False.elim h
  |cons j js=>
   cases e with
   |Name x p=>
    obtain⟨h1,h2⟩:=ih h.2.2.2
    have e1:assignEach (.Name x p::es) X.env=(false,assign (.Name x p) X.env)::assignEach es X.env:=by with_unfolding_all rfl
    rw[e1]
    refine⟨by simp[h1],?_⟩
    rw[List.findIdx?_cons,h2]
    rfl
   |_=>exact False.elim h
def gNs(js:List Nat):TGs:=fun vs σ H Q=>vs.length=js.length/\Q (sets σ js vs) H
theorem Xc(hN:X.N.Nodup):∀{es:List Expr} {js:List Nat},RG X es js->PGs X es (gNs js)
 |[],[],_=>⟨fun pins s σ H vs us Q I r h=>by
  obtain⟨e,h⟩:=h
  have:vs=[]:=List.length_eq_zero_iff.mp e
  subst this
  exact pgs_nil.run pins s σ H [] us Q I r ⟨rfl,h⟩⟩
 |.Name x p::es,j::js,h=>by
  have hp:=pgs_cons (pg_name (pos:=p) hN h.1 h.2.1 h.2.2.1) (Xc hN h.2.2.2) (by with_unfolding_all rfl)
  refine⟨fun pins s σ H vs us Q I r hq=>?_⟩
  obtain⟨e,hq⟩:=hq
  cases vs with
  |nil=>cases e
  |cons v vs=>exact hp.run pins s σ H (v::vs) us Q I r ⟨v,vs,rfl,ato e,hq⟩
 |[],_::_,h=>False.elim h
 |.Name _ _::_,[],h=>False.elim h
theorem Jv{K:asr}{g:Gh}{H:Hp}{M:Mo}:∀{js:List Nat} {ds:List Dat} {vs:List V} {σ:L2.St} {ρ ρ':Env},SInv K aj σ H g ρ M->aK K g H vs ds->rB js ds ρ=some ρ'->vs.length=js.length/\SInv K aj (sets σ js vs) H g ρ' M
 |[],_,_,_,_,_,I,.nil,e=>by cases e;exact⟨rfl,I⟩
 |[],_,_,_,_,_,I,.cons _ _,e=>by cases e
 |j::js,_,_,_,_,_,I,.nil,e=>by cases e
 |j::js,_,_,_,_,_,I,.cons r t,e=>by
  obtain⟨h1,h2⟩:=Jv (js:=js) (I.set (j:=j) r) t e
  exact⟨by simp[h1],h2⟩
theorem ae5{es:List Expr}{js:List Nat}{k:Nat}(hc:X.calm=true)(hN:X.N.Nodup)(h:RG X es js):QG aj X (.Tuple es k pos) js (bF js):=by
 obtain⟨h1,h2⟩:=agc h
 refine PG.weak (pg_tup (n:=js.length) hc (Xc hN h) h1 h2) fun v σ H Q ⟨g,ρ,M,d,ρ',I,r,e,q⟩=>?_
 unfold bF at e
 split at e
 ·obtain⟨a,us,rfl,s1,t1⟩:=lN r.weak
  obtain⟨l1,I1⟩:=Jv I t1 e
  exact⟨a,us,rfl,s1,l1,l1,q us I1⟩
 ·cases e
theorem Ax:∀(js:List Nat) (vs:List V) (σ:L2.St) (ws:List Nat),(∀j∈js,j∈ws)->L2.wipe (sets σ js vs) ws=L2.wipe σ ws
 |[],_,_,_,_=>by unfold sets;rfl
 |_::_,[],_,_,_=>by unfold sets;rfl
 |j::js,v::vs,σ,ws,h=>by
  show L2.wipe (sets (σ.set j (some v)) js vs) ws=_
  rw[Ax js vs _ ws fun k hk=>h k (asy _ hk)]
  have hj:j∈ws:=h j asz
  have key:∀(ws:List Nat) (σ:L2.St),j∈ws->L2.wipe (σ.set j (some v)) ws=L2.wipe σ ws:=by
   intro ws
   induction ws with
   |nil=>intro σ z;cases z
   |cons k ws ih=>
    intro σ z
    show(L2.wipe (σ.set j (some v)) ws).set k none=(L2.wipe σ ws).set k none
    by_cases hk:j∈ws
    ·rw[ih σ hk]
    ·have e:j=k:=by
      rcases asN.mp z with z|z
      ·exact z
      ·exact absurd z hk
     subst e
     have comm:∀(ws:List Nat),j∉ws->L2.wipe (σ.set j (some v)) ws=(L2.wipe σ ws).set j (some v):=by
      intro ws
      induction ws with
      |nil=>intro _;rfl
      |cons m ws ih2=>
       intro hm
       show(L2.wipe (σ.set j (some v)) ws).set m none=((L2.wipe σ ws).set m none).set j (some v)
       rw[ih2 fun z=>hm (asy _ z),List.set_comm _ _ (fun z=>hm (by rw[z];exact asz))]
     rw[comm ws hk,List.set_set]
  exact key ws σ hj
end
structure JT(K:asr)(J:It)(C:Gh->Hp->Prop)(ds:List Dat):Prop where
 go:∀g i H,C g H->i < ds.length->J.go i H
 yld:∀g i H x H' d,Kd g H->C g H->ds[i]?=some d->J.yld i H x H'->Ex H H'/\Rep K g H' x d
 stop:∀g i H,C g H->i=ds.length->J.stop i H
 ex:∀g H H',Kd g H->C g H->Ex H H'->C g H'
 add:∀g g' H H',Kd g H->C g H->Gr true g g' H H'->Ex H H'->C g' H'
def acP(C:Gh->Hp->Prop):Prop:=∀q g g' H H',Kd g H->C g H->Gr q g g' H H'->C g' H'
abbrev IF:=Mo->Env->Out (List Dat)
def tI(K:asr)(aj:aU)(W:WX)(firm:Bool)(f:IF):TI:=fun σ H R=>∃g ρ M,SInv K aj σ H g ρ M/\(f M ρ).sat (fun ds=>∀J C H',Ex H H'->JT K J C ds->C g H'->(firm=true->acP C)->R J H') (qX K aj W g H σ)
def QI(aj:aU)(X:Cx)(W:WX)(firm:Bool)(tg e:Expr)(f:IF):Prop:=PI X tg e (tI X.K aj W firm f)
def Zw(x:Str):List Dat:=x.cps.toList.map fun c=>.str ⟨#[c]⟩
def oK:Dat->Out (List Dat)
 |.list ds=>.ok ds
 |.tuple ds=>.ok ds
 |.str x=>.ok (Zw x)
 |_=>.bad
def cV(a:QF):IF:=fun M ρ=>(a M ρ).bind oK
def Src.cw(K:asr)(S:Src)(ds:List Dat)(g:Gh)(H:Hp):Prop:=∃us,S.sq K H us/\aK K g H us ds
def Src.cf(K:asr)(S:Src)(ds:List Dat)(g:Gh)(H:Hp):Prop:=∃us,(match S with
 |.lst a=>Px K g H a us
 |.tup a=>SqT K H a us
 |.str x=>us=chars x)/\aK K g H us ds
section
variable{K:asr}{g g':Gh}{H H':Hp}{ds es:List Dat}{S T:Src}
theorem Src.ang{us:List V}(e:Ex H H')(h:S.sq K H us):S.sq K H' us:=by
 cases S with
 |lst a=>exact ex_l e h
 |tup a=>exact ex_t e h
 |str x=>exact h
theorem Src.acD(h:S.cf K ds g H):S.cw K ds g H:=by
 obtain⟨us,h1,h2⟩:=h
 refine⟨us,?_,h2⟩
 cases S with
 |lst a=>exact Px.sq h1
 |tup a=>exact h1
 |str x=>exact h1
theorem Src.uP:acP (S.cf K ds):=fun q g g' H H' k ⟨us,h1,h2⟩ r=>by
 refine⟨us,?_,h2.gr r k⟩
 cases S with
 |lst a=>exact r.ls h1
 |tup a=>exact r.sqT k h1
 |str x=>exact h1
theorem Src.Lh(k:Kd g H)(h:S.cw K ds g H)(r:Gr true g g' H H')(e:Ex H H'):S.cw K ds g' H':=by
 obtain⟨us,h1,h2⟩:=h
 exact⟨us,Src.ang e h1,h2.gr r k⟩
theorem Src.Yb(k:Kd g H)(h:S.cw K ds g H)(e:Ex H H'):S.cw K ds g H':=Src.Lh k h (Gr.ex e) e
end
section
variable{K:asr}{ds es:List Dat}{S T:Src}
def ItS(K:asr):Src->It
 |.lst a=>Itl K a
 |.tup a=>Itt K a
 |.str x=>Its x
theorem Eo{g:Gh}{H:Hp}(x:Str):aK K g H (chars x) (Zw x):=by
 unfold chars Zw
 induction x.cps.toList with
 |nil=>exact .nil
 |cons c cs ih=>exact .cons (.str _) ih
theorem JT.of{J:It}{C C':Gh->Hp->Prop}(w:JT K J C ds)(h:∀g H,C' g H->C g H)(e:∀g H H',Kd g H->C' g H->Ex H H'->C' g H')(a:∀g g' H H',Kd g H->C' g H->Gr true g g' H H'->Ex H H'->C' g' H'):JT K J C' ds where
 go:=fun g i H c hi=>w.go g i H (h g H c) hi
 yld:=fun g i H x H' d k c e y=>w.yld g i H x H' d k (h g H c) e y
 stop:=fun g i H c e=>w.stop g i H (h g H c) e
 ex:=e
 add:=a
theorem abU:JT K (ItS K S) (S.cw K ds) ds where
 go:=fun g i H ⟨us,h1,h2⟩ hi=>by
  have hx:us[i]?=some (us[i]'(by rw[h2.length];exact hi)):=asw _
  cases S with
  |lst a=>exact⟨us,_,h1,hx⟩
  |tup a=>exact⟨us,_,h1,hx⟩
  |str x=>
   show i < x.cps.size
   have:=h2.length
   rw[show us=chars x from h1]at this
   unfold chars at this
   rw[asH,atd]at this
   omega
 yld:=fun g i H x H' d k ⟨us,h1,h2⟩ e y=>by
  obtain⟨v,hv,rv⟩:=h2.get e
  cases S with
  |lst a=>
   obtain⟨rfl,y⟩:=y
   have:x=v:=asW ((y us h1).symm.trans hv)
   rw[this]
   exact⟨Ex.refl _,rv⟩
  |tup a=>
   obtain⟨rfl,y⟩:=y
   have:x=v:=asW ((y us h1).symm.trans hv)
   rw[this]
   exact⟨Ex.refl _,rv⟩
  |str z=>
   obtain⟨rfl,c,hc,rfl⟩:=y
   rw[show us=chars z from h1]at hv
   unfold chars at hv
   rw[asI,ati,hc]at hv
   cases hv
   exact⟨Ex.refl _,rv⟩
 stop:=fun g i H ⟨us,h1,h2⟩ e=>by
  have hl:=h2.length
  cases S with
  |lst a=>exact⟨us,h1,by omega⟩
  |tup a=>exact⟨us,h1,by omega⟩
  |str x=>
   show x.cps.size<=i
   rw[show us=chars x from h1]at hl
   unfold chars at hl
   rw[asH,atd]at hl
   omega
 ex:=fun g H H' k h e=>Src.Yb k h e
 add:=fun g g' H H' k h r e=>Src.Lh k h r e
def o9(k₀:Int)(ds:List Dat):List Dat:=ds.mapIdx fun i d=>.tuple [.int (k₀+(i:Int)),d]
theorem agh{k₀:Int}:JT K (ItE K S k₀) (S.cw K ds) (o9 k₀ ds) where
 go:=fun g i H ⟨us,h1,h2⟩ hi=>by
  have hl:i < us.length:=by
   rw[h2.length]
   unfold o9 at hi
   rw[List.length_mapIdx]at hi
   exact hi
  exact⟨us,us[i],h1,asw hl⟩
 yld:=fun g i H x H' d k ⟨us,h1,h2⟩ e y=>by
  unfold o9 at e
  rw[atk]at e
  cases hd:ds[i]? with
  |none=>rw[hd]at e;cases e
  |some d0=>
   rw[hd]at e
   cases e
   obtain⟨v,hv,rv⟩:=h2.get hd
   obtain⟨T,x0,rfl,nT,rfl,y⟩:=y
   have:x0=v:=asW ((y us h1).symm.trans hv)
   subst this
   exact⟨Ex.new nT,.tup (st_of upd_same) (.cons (.int _) (.cons (rv.ex (Ex.new nT) k) .nil))⟩
 stop:=fun g i H ⟨us,h1,h2⟩ e=>by
  unfold o9 at e
  rw[List.length_mapIdx,←h2.length]at e
  exact⟨us,h1,e.symm⟩
 ex:=fun g H H' k h e=>Src.Yb k h e
 add:=fun g g' H H' k h r e=>Src.Lh k h r e
def wY(ds es:List Dat):List Dat:=List.zipWith (fun d e=>.tuple [d,e]) ds es
theorem ab4:JT K (ItZ K S T) (fun g H=>S.cw K ds g H/\T.cw K es g H) (wY ds es) where
 go:=fun g i H ⟨⟨us,h1,h2⟩,⟨ws,h3,h4⟩⟩ hi=>by
  unfold wY at hi
  rw[List.length_zipWith,←h2.length,←h4.length]at hi
  exact⟨us,ws,us[i],ws[i],h1,h3,asw (by omega),asw (by omega)⟩
 yld:=fun g i H x H' d k ⟨⟨us,h1,h2⟩,⟨ws,h3,h4⟩⟩ e y=>by
  unfold wY at e
  rw[List.getElem?_zipWith]at e
  cases hd:ds[i]? with
  |none=>rw[hd]at e;cases e
  |some d0=>
   cases he:es[i]? with
   |none=>rw[hd,he]at e;cases e
   |some e0=>
    rw[hd,he]at e
    cases e
    obtain⟨v,hv,rv⟩:=h2.get hd
    obtain⟨u,hu,ru⟩:=h4.get he
    obtain⟨U,x0,y0,rfl,nU,rfl,y1,y2⟩:=y
    have:x0=v:=asW ((y1 us h1).symm.trans hv)
    subst this
    have:y0=u:=asW ((y2 ws h3).symm.trans hu)
    subst this
    exact⟨Ex.new nU,.tup (st_of upd_same) (.cons (rv.ex (Ex.new nU) k) (.cons (ru.ex (Ex.new nU) k) .nil))⟩
 stop:=fun g i H ⟨⟨us,h1,h2⟩,⟨ws,h3,h4⟩⟩ e=>by
  unfold wY at e
  rw[List.length_zipWith,←h2.length,←h4.length]at e
  exact⟨us,ws,h1,h3,e⟩
 ex:=fun g H H' k h e=>⟨Src.Yb k h.1 e,Src.Yb k h.2 e⟩
 add:=fun g g' H H' k h r e=>⟨Src.Lh k h.1 r e,Src.Lh k h.2 r e⟩
def jx(lo:Int)(n:Nat):List Dat:=(List.range n).map fun(i:Nat)=>.int (lo+(i:Int))
theorem Xe{lo:Int}{n:Nat}:JT K (Itr lo n) (fun _ _=>True) (jx lo n) where
 go:=fun g i H _ hi=>by
  unfold jx at hi
  rw[asH,List.length_range]at hi
  exact hi
 yld:=fun g i H x H' d k _ e y=>by
  obtain⟨rfl,rfl⟩:=y
  unfold jx at e
  rw[asI]at e
  cases hr:(List.range n)[i]? with
  |none=>rw[hr]at e;cases e
  |some j=>
   rw[hr]at e
   cases e
   have:j=i:=by
    obtain⟨h1,h2⟩:=asv.mp hr
    rw[List.getElem_range]at h2
    exact h2.symm
   subst this
   exact⟨Ex.refl _,.int _⟩
 stop:=fun g i H _ e=>by
  unfold jx at e
  rw[asH,List.length_range]at e
  show n<=i
  omega
 ex:=fun _ _ _ _ _ _=>trivial
 add:=fun _ _ _ _ _ _ _ _=>trivial
end
section
variable{X:Cx}{aj:aU}{W:WX}{tg a b:Expr}{fa fb:QF}{pos p tpos:Pos}{elts:List Expr}{kk:Nat}
theorem Nt{K:asr}{g:Gh}{H:Hp}{v:V}{d:Dat}{ds:List Dat}{firm:Bool}(r:if firm=true then Rep K g H v d else eE K g H v d)(h:oK d=.ok ds):∃S,srcOf v S/\S.cw K ds g H/\(firm=true->S.cf K ds g H):=by
 have rw:eE K g H v d:=by
  cases firm with
  |true=>exact Rep.weak r
  |false=>exact r
 cases d with
 |list es=>
  cases h
  obtain⟨l,us,rfl,h1,h2⟩:=ji rw
  refine⟨.lst l,.inl ⟨l,rfl,rfl,.inl rfl⟩,⟨us,h1,h2⟩,fun z=>?_⟩
  subst z
  have r:Rep K g H (.ref l) (.list ds):=r
  cases r with
  |lst h3 h4=>exact⟨_,h3,h4⟩
 |tuple es=>
  cases h
  obtain⟨l,us,rfl,h1,h2⟩:=lN rw
  exact⟨.tup l,.inl ⟨l,rfl,rfl,.inr rfl⟩,⟨us,h1,h2⟩,fun _=>⟨us,h1,h2⟩⟩
 |str x=>
  cases h
  cases jX rw
  exact⟨.str x,.inr ⟨x,rfl,rfl⟩,⟨_,rfl,Eo x⟩,fun _=>⟨_,rfl,Eo x⟩⟩
 |_=>cases h
def tF(K:asr)(aj:aU)(W:WX)(firm:Bool)(f:QF):TE:=if firm=true then tQ K aj W f else tW K aj W f
def QF'(aj:aU)(X:Cx)(W:WX)(firm:Bool)(e:Expr)(f:QF):Prop:=PE X e (tF X.K aj W firm f)
theorem tF.go{K:asr}{firm:Bool}{g:Gh}{H:Hp}{σ:L2.St}{ρ:Env}{M:Mo}{f:QF}{k:Dat->Prop}{Q:VK}(I:SInv K aj σ H g ρ M)(h:(f M ρ).sat k (qX K aj W g H σ))(hk:∀d v H',k d->Ex H H'->(if firm=true then Rep K g H' v d else eE K g H' v d)->Q v H'):tF K aj W firm f σ H Q:=by
 cases firm with
 |true=>exact tQ.go I h hk
 |false=>exact tW.go I h hk
theorem ant{K:asr}{firm:Bool}{g:Gh}{H H':Hp}{v:V}{d:Dat}(e:Ex H H')(k:Kd g H)(r:if firm=true then Rep K g H v d else eE K g H v d):if firm=true then Rep K g H' v d else eE K g H' v d:=by
 cases firm with
 |true=>exact Rep.ex e k r
 |false=>exact eE.ex e k r
theorem wf{K:asr}{S:Src}{firm:Bool}{J:It}{ds es:List Dat}{R:It->Hp->Prop}{g:Gh}{H H1:Hp}(h:∀J C H',Ex H H'->JT K J C ds->C g H'->(firm=true->acP C)->R J H')(e1:Ex H H1)(w:JT K J (S.cw K es) ds)(hw:S.cw K es g H1)(hf:firm=true->S.cf K es g H1):R J H1:=by
 cases firm with
 |true=>exact h J (S.cf K es) H1 e1 (w.of (fun _ _ z=>Src.acD z) (fun g H H' k c e=>Src.uP true g g H H' k c (Gr.ex e)) fun g g' H H' k c r e=>Src.uP true g g' H H' k c r) (hf rfl) fun _=>Src.uP
 |false=>exact h J (S.cw K es) H1 e1 w hw fun z=>nomatch z
theorem YK{firm:Bool}(ha:QF' aj X W firm a fa):QI aj X W firm tg a (cV fa):=by
 refine⟨fun pins s σ H R I h=>?_⟩
 obtain⟨g,ρ,M,SI,hs⟩:=h
 have hs:=hs.bnd
 have fin:∀(S:Src) (x:V) (H1:Hp) (ds:List Dat),(∀J C H',Ex H H'->JT X.K J C ds->C g H'->(firm=true->acP C)->R J H')->Ex H H1->S.cw X.K ds g H1->(firm=true->S.cf X.K ds g H1)->R (ItS X.K S) H1:=fun S x H1 ds h e1 hw hf=>wf h e1 abU hw hf
 cases hfa:fa M ρ with
 |bad=>rw[hfa]at hs;exact False.elim hs
 |exc x=>
  rw[hfa]at hs
  exact(pi_list ha).run pins s σ H R I (tF.go (k:=fun _=>False) SI (by rw[hfa];exact hs) fun d v H' z=>False.elim z)
 |ok d=>
  rw[hfa]at hs
  cases d with
  |list ds=>
   refine(pi_list ha).run pins s σ H R I (tF.go (k:=fun z=>z=.list ds) SI (by rw[hfa];rfl) fun d v H' z e1 r=>?_)
   subst z
   obtain⟨S,hS,hw,hf⟩:=Nt (firm:=firm) r (ds:=ds) rfl
   have rw:eE X.K g H' v (.list ds):=by
    cases firm with
    |true=>exact Rep.weak r
    |false=>exact r
   obtain⟨l,us,rfl,h1,h2⟩:=ji rw
   refine⟨l,rfl,⟨us,h1⟩,?_⟩
   rcases hS with⟨a',e,ha',hl|ht⟩|⟨y,_,e⟩
   ·cases e
    subst hl
    exact fin (.lst l) (.ref l) H' ds hs e1 hw hf
   ·cases e
    subst ht
    refine wf (S:=.lst l) hs e1 (abU (S:=.lst l)) ⟨us,h1,h2⟩ fun z=>?_
    subst z
    have r:Rep X.K g H' (.ref l) (.list ds):=r
    cases r with
    |lst h3 h4=>exact⟨_,h3,h4⟩
   ·cases e
  |tuple ds=>
   refine(pi_tup ha).run pins s σ H R I (tF.go (k:=fun z=>z=.tuple ds) SI (by rw[hfa];rfl) fun d v H' z e1 r=>?_)
   subst z
   have rw:eE X.K g H' v (.tuple ds):=by
    cases firm with
    |true=>exact Rep.weak r
    |false=>exact r
   obtain⟨l,us,rfl,h1,h2⟩:=lN rw
   exact⟨l,rfl,⟨us,h1⟩,fin (.tup l) (.ref l) H' ds hs e1 ⟨us,h1,h2⟩ fun _=>⟨us,h1,h2⟩⟩
  |str x=>
   refine(pi_str ha).run pins s σ H R I (tF.go (k:=fun z=>z=.str x) SI (by rw[hfa];rfl) fun d v H' z e1 r=>?_)
   subst z
   have rw:eE X.K g H' v (.str x):=by
    cases firm with
    |true=>exact Rep.weak r
    |false=>exact r
   cases jX rw
   exact⟨x,rfl,fin (.str x) (.str x) H' _ hs e1 ⟨_,rfl,Eo x⟩ fun _=>⟨_,rfl,Eo x⟩⟩
  |_=>exact False.elim hs
def Cz(a:QF):IF:=fun M ρ=>(a M ρ).bind fun d=>(Bx d).bind fun n=>Out.when (decide (n<=100000/\-100000<=n)) (.ok (jx 0 n.toNat))
def Cv(a b:QF):IF:=fun M ρ=>(a M ρ).bind fun d=>(b M ρ).bind fun e=>(Bx d).bind fun lo=>(Bx e).bind fun n=>Out.when (decide (n<=100000/\-100000<=n/\lo<=100000/\-100000<=lo)) (.ok (jx lo (n - lo).toNat))
def xZ(k₀:Int)(a:QF):IF:=fun M ρ=>(a M ρ).bind fun d=>(oK d).bind fun ds=>.ok (o9 k₀ ds)
def Gk(a b:QF):IF:=fun M ρ=>(a M ρ).bind fun d=>(b M ρ).bind fun e=>(oK d).bind fun ds=>(oK e).bind fun es=>.ok (wY ds es)
theorem aem{firm:Bool}(hg:Gl X "range")(hm:X.mg "range"=none)(ha:QW aj X W a fa)(hs:nst a=true):QI aj X W firm tg (.Call (.Name "range" p) [a] [] pos) (Cz fa):=by
 refine⟨fun pins s σ H R I h=>?_⟩
 refine(pi_range1 hg hm (pa_cons ha pa_nil (cQ hs [])) (cQ hs [])).run pins s σ H R I ?_
 obtain⟨g,ρ,M,SI,h⟩:=h
 refine tW.go SI h.bnd fun d v H1 h1 e1 r1=>?_
 have h1:=h1.bnd
 unfold Bx at h1
 split at h1
 ·obtain⟨hz,h1⟩:=h1.qp
  have hz:=of_decide_eq_true hz
  cases cI r1
  exact⟨_,rfl,by omega,by omega,h1 _ _ H1 e1 Xe trivial fun _=>fun _ _ _ _ _ _ _ _=>trivial⟩
 ·exact False.elim h1
theorem aeQ{firm:Bool}(hg:Gl X "range")(hm:X.mg "range"=none)(ha:QW aj X W a fa)(hb:QW aj X W b fb)(hs:nst a=true)(hs2:nst b=true):QI aj X W firm tg (.Call (.Name "range" p) [a,b] [] pos) (Cv fa fb):=by
 refine⟨fun pins s σ H R I h=>?_⟩
 refine(pi_range2 hg hm (pa_cons ha (pa_cons hb pa_nil (cQ hs2 [])) (cQ hs [b])) (by rw[cQ hs,cQ hs2];rfl) (cQ hs2 [])).run pins s σ H R I ?_
 obtain⟨g,ρ,M,SI,h⟩:=h
 refine tW.go SI h.bnd fun d v H1 h1 e1 r1=>?_
 refine tW.go (SI.ex e1) (h1.bnd.mono (fun _ z=>z) fun _ z=>z.ex e1) fun d2 v2 H2 h2 e2 r2=>?_
 have h2:=h2.bnd
 unfold Bx at h2
 split at h2
 ·have h2:=Out.sat.bnd h2
  split at h2
  ·obtain⟨hz,h2⟩:=Out.sat.qp h2
   have hz:=of_decide_eq_true hz
   cases cI r1
   cases cI r2
   exact⟨_,_,rfl,⟨by omega,by omega,by omega,by omega⟩,h2 _ _ H2 (e1.trans e2) Xe trivial fun _=>fun _ _ _ _ _ _ _ _=>trivial⟩
  ·exact False.elim h2
 ·exact False.elim h2
theorem agX{firm:Bool}{k₀:Int}(σ:L2.St)(H:Hp)(R:It->Hp->Prop)(h:tI X.K aj W firm (xZ k₀ fa) σ H R):iEn X.K (tCons (tF X.K aj W firm fa) tNil) k₀ σ H R:=by
 obtain⟨g,ρ,M,SI,h⟩:=h
 refine tF.go SI h.bnd fun d v H1 h1 e1 r1=>?_
 cases hd:oK d with
 |bad=>rw[hd]at h1;exact False.elim h1
 |exc x=>cases d <;> cases hd
 |ok ds=>
  rw[hd]at h1
  obtain⟨S,hS,hw,hf⟩:=Nt r1 hd
  exact⟨v,S,_,rfl,hS,hw.choose_spec.1,wf h1 e1 agh hw hf⟩
theorem aiD{firm:Bool}(hg:Gl X "enumerate")(hm:X.mg "enumerate"=none)(ha:QF' aj X W firm a fa)(hs:nst a=true):QI aj X W firm (.Tuple elts kk tpos) (.Call (.Name "enumerate" p) [a] [] pos) (xZ 0 fa):=
 ⟨fun pins s σ H R I h=>(amb hg hm (pa_cons ha pa_nil (cQ hs [])) hs).run pins s σ H R I (agX σ H R h)⟩
theorem agL{firm:Bool}{k₀:Int}{j:Nat}{kp kp2:Pos}(hk0 : -(2 ^ 63)<=k₀)(hk1:k₀ < 2 ^ 63)(hg:Gl X "enumerate")(hm:X.mg "enumerate"=none)(ha:QF' aj X W firm a fa)(hs:nst a=true):QI aj X W firm (.Tuple elts kk tpos) (.Call (.Name "enumerate" p) [a] [⟨some "start",.Constant (.int k₀) j kp,kp2⟩] pos) (xZ k₀ fa):=
 ⟨fun pins s σ H R I h=>(ajI hk0 hk1 hg hm (pa_cons ha pa_nil (cQ hs [])) hs).run pins s σ H R I (agX σ H R h)⟩
theorem akL{firm:Bool}(hg:Gl X "zip")(hm:X.mg "zip"=none)(ha:QF' aj X W firm a fa)(hb:QF' aj X W firm b fb)(hs:nst a=true)(hs2:nst b=true):QI aj X W firm (.Tuple elts kk tpos) (.Call (.Name "zip" p) [a,b] [] pos) (Gk fa fb):=by
 refine⟨fun pins s σ H R I h=>(aml hg hm (pa_cons ha (pa_cons hb pa_nil (cQ hs2 [])) (cQ hs [b])) hs hs2).run pins s σ H R I ?_⟩
 obtain⟨g,ρ,M,SI,h⟩:=h
 refine tF.go SI h.bnd fun d v H1 h1 e1 r1=>?_
 refine tF.go (SI.ex e1) (h1.bnd.mono (fun _ z=>z) fun _ z=>z.ex e1) fun d2 v2 H2 h2 e2 r2=>?_
 cases hd:oK d with
 |bad=>rw[hd]at h2;exact False.elim h2
 |exc x=>cases d <;> cases hd
 |ok ds=>
  cases he:oK d2 with
  |bad=>rw[hd,he]at h2;exact False.elim h2
  |exc x=>cases d2 <;> cases he
  |ok es=>
   rw[hd,he]at h2
   obtain⟨S,hS,hw,hf⟩:=Nt (ant e2 (SI.ex e1).kd r1) hd
   obtain⟨T,hT,hw2,hf2⟩:=Nt r2 he
   refine⟨v,v2,S,T,_,_,rfl,hS,hT,hw.choose_spec.1,hw2.choose_spec.1,?_⟩
   cases firm with
   |true=>exact h2 _ (fun g H=>S.cf X.K ds g H/\T.cf X.K es g H) H2 (e1.trans e2) (ab4.of (fun _ _ z=>⟨Src.acD z.1,Src.acD z.2⟩) (fun g H H' k c e=>⟨Src.uP true g g H H' k c.1 (Gr.ex e),Src.uP true g g H H' k c.2 (Gr.ex e)⟩) fun g g' H H' k c r e=>⟨Src.uP true g g' H H' k c.1 r,Src.uP true g g' H H' k c.2 r⟩) ⟨hf rfl,hf2 rfl⟩ fun _=>fun q g g' H H' k c r=>⟨Src.uP q g g' H H' k c.1 r,Src.uP q g g' H H' k c.2 r⟩
   |false=>exact h2 _ _ H2 (e1.trans e2) ab4 ⟨hw,hw2⟩ fun z=>nomatch z
end
def WF:WX:=fun _ _ _ _=>False
def yF{α:Type}:Out α->Out α
 |.ok a=>.ok a
 |_=>.bad
@[simp]theorem Z7 {α:Type} (a:α):yF (.ok a)=.ok a:=rfl
theorem CJ{α:Type}{o:Out α}{P:α->Prop}{E E':dD->Prop}(h:(yF o).sat P E):o.sat P E':=by
 cases o
 ·exact h
 ·exact False.elim h
 ·exact h
def dH(tg:fV)(tt:QT)(te:QF)(M:Mo)(ρ:Env):List Dat->Out (List Dat)
 |[]=>.ok []
 |d::ds=>match tg d ρ with
  |none=>.bad
  |some ρ1=>(yF (tt M ρ1)).bind fun b=>if b=true then(yF (te M ρ1)).bind fun y=>(dH tg tt te M ρ ds).bind fun r=>.ok (y::r) else dH tg tt te M ρ ds
def eO(it:IF)(tg:fV)(vs:List Nat)(tt:QT)(te:QF):QF:=fun M ρ=>(it M ρ).bind fun ds=>Out.when (decide (ds.length<=50000)) ((dH tg tt te M (cC ρ vs) ds).bind fun r=>.ok (.list r))
def iy:QT:=fun _ _=>.ok true
def tFr(K:asr)(aj:aU)(W:WX)(f:IF):TE:=fun σ H Q=>∃g ρ M,SInv K aj σ H g ρ M/\(f M ρ).sat (fun xs=>∀l us H',H l=none->Ex H H'->H' l=some (.lst us)->aK K (g.add l) H' us xs->Q (.ref l) H') (qX K aj W g H σ)
def Bc(it:IF)(tg:fV)(vs:List Nat)(tt:QT)(te:QF):IF:=fun M ρ=>(it M ρ).bind fun ds=>Out.when (decide (ds.length<=50000)) (dH tg tt te M (cC ρ vs) ds)
section
variable{K:asr}{aj:aU}{W:WX}
theorem Zh{g:Gh}{H:Hp}{D:Addr}{o o':HO}{vs:List V}{ds:List Dat}(k:Kd g H)(h:H D=some o)(l:g.Lo D)(r:aK K g H vs ds):aK K g (upd H D o') vs ds:=r.gr (Gr.upd (q:=true) k h (.inr l)) k
theorem ahU{g:Gh}{H:Hp}{D:Addr}{o o':HO}{v:V}{d:Dat}(k:Kd g H)(h:H D=some o)(l:g.Lo D)(r:Rep K g H v d):Rep K g (upd H D o') v d:=r.gr (Gr.upd (q:=true) k h (.inr l)) k
theorem rF{tg:fV}{tt:QT}{te:QF}{M:Mo}{ρ:Env}:∀{ds:List Dat} {x:dD},dH tg tt te M ρ ds≠.exc x
 |[],_,h=>nomatch h
 |d::ds,x,h=>by
  rw[dH]at h
  split at h
  ·cases h
  ·next ρ1 e=>
   cases h1:tt M ρ1 with
   |bad=>rw[h1]at h;cases h
   |exc y=>rw[h1]at h;cases h
   |ok b=>
    rw[h1]at h
    cases b with
    |false=>exact rF h
    |true=>
     have h:((yF (te M ρ1)).bind fun y=>(dH tg tt te M ρ ds).bind fun r=>Out.ok (y::r))=.exc x:=h
     cases h2:te M ρ1 with
     |bad=>rw[h2]at h;cases h
     |exc y=>rw[h2]at h;cases h
     |ok y=>
      rw[h2]at h
      cases h3:dH tg tt te M ρ ds with
      |bad=>rw[h3]at h;cases h
      |exc z=>exact rF h3
      |ok r=>rw[h3]at h;cases h
theorem Qy(σ:L2.St)(i:Nat):∀vs:List Nat,(L2.wipe σ vs)[i]?=if i∈vs then(σ[i]?).map (fun _=>none) else σ[i]?
 |[]=>by simp[L2.wipe]
 |v::vs=>by
  show((L2.wipe σ vs).set v none)[i]?=_
  by_cases h:v=i
  ·subst h
   by_cases hl:v < σ.length
   ·rw[asS (by rw[wipe_length];exact hl),if_pos asz,asw hl]
    rfl
   ·have h1:σ[v]?=none:=List.getElem?_eq_none_iff.mpr (by omega)
    rw[if_pos asz,h1,List.getElem?_eq_none_iff.mpr (by rw[asZ,wipe_length];omega)]
    rfl
  ·rw[asF h,Qy σ i vs]
   have:i∈v::vs↔i∈vs:=⟨fun z=>by
    rcases asN.mp z with z|z
    ·exact absurd z.symm h
    ·exact z,asy _⟩
   simp only[this]
theorem Ek(σ:L2.St)(vs:List Nat):L2.wipe (L2.wipe σ vs) vs=L2.wipe σ vs:=by
 apply as4
 intro i
 rw[Qy (L2.wipe σ vs) i vs,Qy σ i vs]
 split
 ·cases σ[i]? <;> rfl
 ·rfl
theorem Zr{it:IF}{tg:fV}{js vs:List Nat}{tt:QT}{te:QF}(hj:∀j∈js,j∈vs)(σ:L2.St)(H:Hp)(Q:VK)(h:tFr K aj W (Bc it tg vs tt te) σ H Q) :
  tLc (tI K aj W false it) (Ac K aj js tg) (kJ K aj WF tt) (tQ K aj WF te) vs σ H Q:=by
 obtain⟨g,ρ,M,I,h⟩:=h
 refine⟨g,ρ,M,I,h.bnd.mono (fun ds hk J C H1 e1 w c _ D nD=>?_) fun _ z=>z⟩
 obtain⟨hz,hk⟩:=hk.qp
 have hlen:=of_decide_eq_true hz
 obtain⟨total,htot,hQ⟩:∃total,dH tg tt te M (cC ρ vs) ds=.ok total/\∀l us H',H l=none->Ex H H'->H' l=some (.lst us)->aK K (g.add l) H' us total->Q (.ref l) H':=by
  cases hc:dH tg tt te M (cC ρ vs) ds with
  |bad=>rw[hc]at hk;exact False.elim hk
  |exc x=>exact absurd hc rF
  |ok total=>
   rw[hc]at hk
   exact⟨total,rfl,hk⟩
 have I1:=(I.ex e1).wipe vs
 have kD:∀{Ha:Hp} {us:List V},Ex H1 Ha->Ha D=some (.lst us)->SInv K aj (L2.wipe σ vs) Ha (g.add D) (cC ρ vs) M:=fun ea hu=>I1.add nD ea hu trivial
 let Pv:Nat->Hp->Prop:=fun i Ha=>Ex H1 Ha/\i<=ds.length/\∃us ys,Ha D=some (.lst us)/\aK K (g.add D) Ha us ys/\ys.length<=i/\(dH tg tt te M (cC ρ vs) (ds.drop i)).sat (fun r=>total=ys++r) fun _=>False
 refine⟨fun i m Ha=>m=ds.length - i/\Pv i Ha,⟨ds.length,rfl,Ex.new nD,ath _,[],[],upd_same,.nil,as3 _,?_⟩,?_⟩
 ·rw[atZ,htot]
  rfl
 ·rintro i m Ha ⟨rfl,ea,hi,us,ys,hu,hU,hy,hs⟩
  have Ia:=kD ea hu
  have Ca:=w.add g (g.add D) H1 Ha (I.kd.ex e1) c (Gh.Gu nD ea) ea
  by_cases hlt:i < ds.length
  ·refine .inr ⟨w.go _ i Ha Ca hlt,Pv (i+1),fun H' p=>⟨ds.length - (i+1),by omega,rfl,p⟩,fun x H' y=>?_⟩
   have hd:ds[i]?=some ds[i]:=asw hlt
   obtain⟨e2,rx⟩:=w.yld _ i Ha x H' _ Ia.kd Ca hd y
   have I2:=Ia.ex e2
   rw[atq hlt,dH]at hs
   split at hs
   ·exact False.elim hs
   ·next ρ1 he=>
    refine⟨g.add D,_,M,_,ρ1,I2,rx,he,fun ws I3=>⟨Ax js ws _ vs hj |>.trans (Ek σ vs),?_⟩⟩
    refine kJ.go I3 (CJ hs.bnd) fun b H3 hb e3=>?_
    have I4:=I3.ex e3
    have hu3:=e3 _ _ (e2 _ _ hu)
    have hU3:=(hU.ex e2 Ia.kd).ex e3 I2.kd
    cases b with
    |false=>
     have hb:(dH tg tt te M (cC ρ vs) (ds.drop (i+1))).sat (fun r=>total=ys++r) fun _=>False:=hb
     exact⟨(ea.trans e2).trans e3,hlt,us,ys,hu3,hU3,Nat.le_succ_of_le hy,hb⟩
    |true=>
     have hb:((yF (te M ρ1)).bind fun y=>(dH tg tt te M (cC ρ vs) (ds.drop (i+1))).bind fun r=>Out.ok (y::r)).sat (fun r=>total=ys++r) fun _=>False:=hb
     refine tQ.go I4 (CJ hb.bnd) fun y v H4 hyv e4 ry=>?_
     have I5:=I4.ex e4
     have hu4:=e4 _ _ hu3
     have hU4:=hU3.ex e4 I4.kd
     have lD:(g.add D).Lo D:=.inr rfl
     refine⟨us,hu4,sz_lt (by rw[hU.length];omega),Ex.mut (((ea.trans e2).trans e3).trans e4) nD,hlt,us++[v],ys++[y],upd_same,?_,by simp;omega,hyv.bnd.mono (fun r hr=>?_) fun _ z=>z⟩
     ·exact Zh I5.kd hu4 lD (hU4.append (.cons ry .nil))
     ·have hr:total=ys++y::r:=hr
      rw[hr]
      simp
  ·have e:i=ds.length:=by omega
   refine .inl ⟨w.stop _ i Ha Ca e,?_⟩
   rw[e,atx]at hs
   have hs:total=ys++[]:=hs
   rw[atm]at hs
   subst hs
   exact hQ D us Ha (DG e1 D nD) (e1.trans ea) hu hU
theorem agU{it:IF}{tg:fV}{js vs:List Nat}{tt:QT}{te:QF}(hj:∀j∈js,j∈vs)(σ:L2.St)(H:Hp)(Q:VK)(h:tQ K aj W (eO it tg vs tt te) σ H Q) :
  tLc (tI K aj W false it) (Ac K aj js tg) (kJ K aj WF tt) (tQ K aj WF te) vs σ H Q:=by
 obtain⟨g,ρ,M,I,h⟩:=h
 refine Zr hj σ H Q ⟨g,ρ,M,I,?_⟩
 unfold Bc
 unfold eO at h
 cases hi:it M ρ with
 |bad=>rw[hi]at h;exact False.elim h
 |exc x=>rw[hi]at h;exact h
 |ok ds=>
  rw[hi]at h
  obtain⟨hz,h⟩:=Out.sat.qp h
  have h:=h.bnd
  show(Out.when (decide (ds.length<=50000)) (dH tg tt te M (cC ρ vs) ds)).sat _ _
  rw[hz,Out.Wv]
  exact h.mono (fun xs z l us H' n e hl r=>z _ H' e (.lst (.inl ⟨.inl hl,I.kd.fresh n⟩) (aK.less (g:=g.add l) (g':=g) rfl (fun a z=>z.elim .inl fun z=>.inr (z.elim .inl fun z=>.inr (.inl z))) r))) fun _ z=>z
end
section
variable{X:Cx}{aj:aU}{W:WX}{elt tg iter:Expr}{pos p tpos:Pos}
theorem ajP{X:Cx}:Takes X WF:=fun u s' ⟨a,B,sI,pins,σ,H,cls,d,e,I,nb,up,sky,na,os,ag,w⟩=>False.elim w
theorem amB{scope:Scope}{own:List (Str×Nat)}{it:IF}{tgf:fV}{js:List Nat}{tt:QT}{te:QF}{ifs:List Expr}(hc:X.calm=true)(hN:X.N.Nodup)(hi:QI aj X W false tg iter it)(ok:blkC X.N X.env.scope scope own=true)(hj:∀j∈js,j∈own.map (·.2))
  (hg:∀(s:Shared) (H:Hp) (C:Addr) (cl:List (Str×Addr)) (fp:List Addr),QG aj (X.blk s H scope (compEnvC scope cl C X.env) fp) tg js tgf)
  (ht:∀(s:Shared) (H:Hp) (C:Addr) (cl:List (Str×Addr)) (fp:List Addr),PTs (X.blk s H scope (compEnvC scope cl C X.env) fp) ifs (kJ X.K aj WF tt))
  (he:∀(s:Shared) (H:Hp) (C:Addr) (cl:List (Str×Addr)) (fp:List Addr),QE aj (X.blk s H scope (compEnvC scope cl C X.env) fp) WF elt te) (hs:∀x,foldedSetIterable iter X.env x=pure x) :
  QE aj X W (.ListComp elt [⟨tg,iter,ifs,0⟩] scope pos) (eO it tgf (own.map (·.2)) tt te):=
 PE.weak (pe_lc (g:=Ac X.K aj js tgf) (tt:=kJ X.K aj WF tt) (te:=tQ X.K aj WF te) hc hN hi (blkOk_by ok) (fun s H C cl fp=>hg s H C cl fp) ht (fun s H C cl fp=>he s H C cl fp) hs) fun σ H Q h=>agU hj σ H Q h
theorem ana{scope:Scope}{own:List (Str×Nat)}{it:IF}{tgf:fV}{js:List Nat}{tt:QT}{te:QF}{ifs:List Expr}(hc:X.calm=true)(hN:X.N.Nodup)(hi:QI aj X W false tg iter it)(ok:blkC X.N X.env.scope scope own=true)(hj:∀j∈js,j∈own.map (·.2))
  (hg:∀(s:Shared) (H:Hp) (C:Addr) (cl:List (Str×Addr)) (fp:List Addr),QG aj (X.blk s H scope (compEnvC scope cl C X.env) fp) tg js tgf)
  (ht:∀(s:Shared) (H:Hp) (C:Addr) (cl:List (Str×Addr)) (fp:List Addr),PTs (X.blk s H scope (compEnvC scope cl C X.env) fp) ifs (kJ X.K aj WF tt))
  (he:∀(s:Shared) (H:Hp) (C:Addr) (cl:List (Str×Addr)) (fp:List Addr),QE aj (X.blk s H scope (compEnvC scope cl C X.env) fp) WF elt te) (hs:∀x,foldedSetIterable iter X.env x=pure x) :
  PE X (.ListComp elt [⟨tg,iter,ifs,0⟩] scope pos) (tFr X.K aj W (Bc it tgf (own.map (·.2)) tt te)):=
 PE.weak (pe_lc (g:=Ac X.K aj js tgf) (tt:=kJ X.K aj WF tt) (te:=tQ X.K aj WF te) hc hN hi (blkOk_by ok) (fun s H C cl fp=>hg s H C cl fp) ht (fun s H C cl fp=>he s H C cl fp) hs) fun σ H Q h=>Zr hj σ H Q h
end
def bx.sat{α:Type}(o:bx α)(P:α->Mo->Prop)(E:dD->Mo->Prop):Prop:=
 match o with
 |.ok a M=>P a M
 |.exc x M=>E x M
 |.bad=>False
def bx.bind{α β:Type}(o:bx α)(k:α->Mo->bx β):bx β:=
 match o with
 |.ok a M=>k a M
 |.exc x M=>.exc x M
 |.bad=>.bad
@[simp]theorem bx.zj {α β:Type} (a:α) (M:Mo) (k:α->Mo->bx β):(bx.ok a M).bind k=k a M:=rfl
@[simp]theorem bx.afU {α β:Type} (x:dD) (M:Mo) (k:α->Mo->bx β):(bx.exc x M:bx α).bind k=.exc x M:=rfl
@[simp]theorem bx.afV {α β:Type} (k:α->Mo->bx β):(bx.bad:bx α).bind k=.bad:=rfl
theorem bx.sat.bnd{α β:Type}{o:bx α}{k:α->Mo->bx β}{P:β->Mo->Prop}{E:dD->Mo->Prop}(h:(o.bind k).sat P E):o.sat (fun a M=>(k a M).sat P E) E:=by
 cases o <;> exact h
theorem bx.sat.mono{α:Type}{o:bx α}{P P':α->Mo->Prop}{E E':dD->Mo->Prop}(h:o.sat P E)(hp:∀a M,P a M->P' a M)(he:∀x M,E x M->E' x M):o.sat P' E':=by
 cases o
 ·exact hp _ _ h
 ·exact he _ _ h
 ·exact h
def Out.at{α:Type}(o:Out α)(M:Mo):bx α:=
 match o with
 |.ok a=>.ok a M
 |.exc x=>.exc x M
 |.bad=>.bad
@[simp]theorem Out.ar7 {α:Type} (a:α) (M:Mo):(Out.ok a).at M=.ok a M:=rfl
@[simp]theorem Out.aq5 {α:Type} (x:dD) (M:Mo):(Out.exc x:Out α).at M=.exc x M:=rfl
@[simp]theorem Out.arp {α:Type} (M:Mo):(Out.bad:Out α).at M=.bad:=rfl
theorem Out.jf{α:Type}{o:Out α}{M:Mo}{P:α->Mo->Prop}{E:dD->Mo->Prop}(h:(o.at M).sat P E):o.sat (fun a=>P a M) fun x=>E x M:=by
 cases o <;> exact h
abbrev GF:=Mo->Env->bx Dat
abbrev GT:=Mo->Env->bx Bool
def tV.sat(o:tV)(nx:Env->Mo->Prop)(rt:Dat->Mo->Prop)(bk ct:Env->Mo->Prop)(ex:dD->Env->Mo->Prop):Prop:=
 match o with
 |.next ρ M=>nx ρ M
 |.ret d M=>rt d M
 |.brk ρ M=>bk ρ M
 |.cont ρ M=>ct ρ M
 |.exc x ρ M=>ex x ρ M
 |.bad=>False
theorem tV.sat.mono{o:tV}{nx nx':Env->Mo->Prop}{rt rt':Dat->Mo->Prop}{bk bk' ct ct':Env->Mo->Prop}{ex ex':dD->Env->Mo->Prop}(h:o.sat nx rt bk ct ex)(h1:∀ρ M,nx ρ M->nx' ρ M)(h2:∀d M,rt d M->rt' d M)(h3:∀ρ M,bk ρ M->bk' ρ M)(h4:∀ρ M,ct ρ M->ct' ρ M)(h5:∀x ρ M,ex x ρ M->ex' x ρ M):o.sat nx' rt' bk' ct' ex':=by
 cases o
 ·exact h1 _ _ h
 ·exact h2 _ _ h
 ·exact h3 _ _ h
 ·exact h4 _ _ h
 ·exact h5 _ _ _ h
 ·exact h
abbrev SF:=Mo->Env->tV
def Gh.fr(g:Gh):Gh:={ g with Lo:=fun _=>False }
section
variable(K:asr)(aj:aU)(W:WX)(q:Bool)
def gE(g:Gh)(H:Hp)(σ:L2.St)(ρ:Env)(x:dD)(M':Mo):Prop:=∀H' g' c dd,Gr q g g' H H'->SInv K aj σ H' g' ρ M'->qJ K aj g' H' x c dd->W c dd σ H'
def tE(f:GF):TE:=fun σ H Q=>∃g ρ M,SInv K aj σ H g ρ M/\(f M ρ).sat (fun d M'=>∀v H' g',Gr q g g' H H'->SInv K aj σ H' g' ρ M'->Rep K g' H' v d->Q v H') (gE K aj W q g H σ ρ)
def tET(f:GT):TT:=fun σ H Q=>∃g ρ M,SInv K aj σ H g ρ M/\(f M ρ).sat (fun b M'=>∀H' g',Gr q g g' H H'->SInv K aj σ H' g' ρ M'->Q b H') (gE K aj W q g H σ ρ)
def sN(k:L2.St->Hp->Prop)(g:Gh)(H:Hp)(ρ':Env)(M':Mo):Prop:=∀σ' H' g',Gr q g g' H H'->SInv K aj σ' H' g' ρ' M'->k σ' H'
def sR(k:VK)(g:Gh)(H:Hp)(d:Dat)(M':Mo):Prop:=∀v H' g',Gr q g g' H H'->Kd g'.fr H'->fZ K aj g'.fr H' M'->Rep K g'.fr H' v d->k v H'
def sX(g:Gh)(H:Hp)(x:dD)(ρ':Env)(M':Mo):Prop:=∀σ' H' g' c dd,Gr q g g' H H'->SInv K aj σ' H' g' ρ' M'->qJ K aj g'.fr H' x c dd->W c dd σ' H'
def tS(f:SF):TS:=fun D σ H=>∃g ρ M,SInv K aj σ H g ρ M/\(f M ρ).sat (sN K aj q D.nx g H) (sR K aj q D.rt g H) (sN K aj q D.bk g H) (sN K aj q D.ct g H) (sX K aj W q g H)
end
section
variable{K:asr}{aj:aU}{W:WX}{q:Bool}{g g1:Gh}{H H1:Hp}{σ:L2.St}{ρ:Env}{M:Mo}
theorem gE.gr{x:dD}{M':Mo}(r:Gr q g g1 H H1)(h:gE K aj W q g H σ ρ x M'):gE K aj W q g1 H1 σ ρ x M':=fun H' g' c dd r' I z=>h H' g' c dd (r.trans r') I z
theorem sN.gr{k:L2.St->Hp->Prop}{ρ':Env}{M':Mo}(r:Gr q g g1 H H1)(h:sN K aj q k g H ρ' M'):sN K aj q k g1 H1 ρ' M':=fun σ' H' g' r' I=>h σ' H' g' (r.trans r') I
theorem sR.gr{k:VK}{d:Dat}{M':Mo}(r:Gr q g g1 H H1)(h:sR K aj q k g H d M'):sR K aj q k g1 H1 d M':=fun v H' g' r' I z y=>h v H' g' (r.trans r') I z y
theorem sX.gr{x:dD}{ρ':Env}{M':Mo}(r:Gr q g g1 H H1)(h:sX K aj W q g H x ρ' M'):sX K aj W q g1 H1 x ρ' M':=fun σ' H' g' c dd r' I z=>h σ' H' g' c dd (r.trans r') I z
theorem tE.go{f:GF}{k:Dat->Mo->Prop}{Q:VK}(I:SInv K aj σ H g ρ M)(h:(f M ρ).sat k (gE K aj W q g H σ ρ))(hk:∀d M' v H' g',k d M'->Gr q g g' H H'->SInv K aj σ H' g' ρ M'->Rep K g' H' v d->Q v H'):tE K aj W q f σ H Q:=
 ⟨g,ρ,M,I,h.mono (fun d M' hd v H' g' e I' r=>hk d M' v H' g' hd e I' r) fun _ _ z=>z⟩
theorem tET.go{f:GT}{k:Bool->Mo->Prop}{Q:Bool->Hp->Prop}(I:SInv K aj σ H g ρ M)(h:(f M ρ).sat k (gE K aj W q g H σ ρ))(hk:∀b M' H' g',k b M'->Gr q g g' H H'->SInv K aj σ H' g' ρ M'->Q b H'):tET K aj W q f σ H Q:=
 ⟨g,ρ,M,I,h.mono (fun d M' hd H' g' e I'=>hk d M' H' g' hd e I') fun _ _ z=>z⟩
theorem tS.go{f:SF}{D:Ends}(I:SInv K aj σ H1 g1 ρ M)(r:Gr q g g1 H H1)(h:(f M ρ).sat (sN K aj q D.nx g H) (sR K aj q D.rt g H) (sN K aj q D.bk g H) (sN K aj q D.ct g H) (sX K aj W q g H)):tS K aj W q f D σ H1:=
 ⟨g1,ρ,M,I,h.mono (fun _ _ z=>z.gr r) (fun _ _ z=>z.gr r) (fun _ _ z=>z.gr r) (fun _ _ z=>z.gr r) (fun _ _ _ z=>z.gr r)⟩
theorem lG.less{g':Gh}{fs:List (Str×V)}{gs:List (Str×Dat)}(e:g'.tbl=g.tbl)(n:∀a,g'.A a->g.A a)(h:lG K g H fs gs):lG K g' H fs gs:=by
 induction h with
 |nil=>exact .nil
 |cons r _ ih=>exact .cons (r.less e n) ih
theorem qJ.less{g':Gh}{x:dD}{c:Value}{dd:Option Addr}(e:g'.tbl=g.tbl)(n:∀a,g'.A a->g.A a)(h:qJ K aj g H x c dd):qJ K aj g' H x c dd:=by
 obtain⟨C,h1,h2,h3⟩:=h
 refine⟨C,h1,h2,h3.imp id fun⟨a,fs,e1,e2,e3⟩=>⟨a,fs,e1,e2,e3.less e n⟩⟩
theorem wJ(g:Gh):∀a,g.fr.A a->g.A a:=fun a z=>z.elim .inl fun z=>.inr (z.elim .inl fun z=>False.elim z)
theorem Rep.fr{v:V}{d:Dat}(h:Rep K g H v d):Rep K g.fr H v d:=Rep.less (g:=g) (g':=g.fr) rfl (wJ g) h
theorem aK.fr{v:List V}{d:List Dat}(h:aK K g H v d):aK K g.fr H v d:=aK.less (g:=g) (g':=g.fr) rfl (wJ g) h
theorem qJ.fr{x:dD}{c:Value}{dd:Option Addr}(h:qJ K aj g H x c dd):qJ K aj g.fr H x c dd:=qJ.less (g:=g) (g':=g.fr) rfl (wJ g) h
end
def GE(aj:aU)(X:Cx)(W:WX)(q:Bool)(e:Expr)(f:GF):Prop:=PE X e (tE X.K aj W q f)
def GTe(aj:aU)(X:Cx)(W:WX)(q:Bool)(e:Expr)(f:GT):Prop:=PT X e (tET X.K aj W q f)
def SE(aj:aU)(X:Cx)(W:WX)(q:Bool)(s:Stmt)(f:SF):Prop:=PS X s (tS X.K aj W q f)
def JK(aj:aU)(X:Cx)(W:WX)(q:Bool)(s:List Stmt)(f:SF):Prop:=PSs X s (tS X.K aj W q f)
theorem PS.weak{X:Cx}{e:Stmt}{t t':TS}(h:PS X e t)(k:∀D σ H,t' D σ H->t D σ H):PS X e t':=⟨fun pins s σ H D I z=>h.run pins s σ H D I (k D σ H z)⟩
theorem PSs.weak{X:Cx}{e:List Stmt}{t t':TS}(h:PSs X e t)(k:∀D σ H,t' D σ H->t D σ H):PSs X e t':=⟨fun pins s σ H D I z=>h.run pins s σ H D I (k D σ H z)⟩
def gOf(f:QF):GF:=fun M ρ=>(f M ρ).at M
def agn(f:QT):GT:=fun M ρ=>(f M ρ).at M
section
variable{X:Cx}{aj:aU}{W:WX}{q:Bool}{a b e:Expr}{pos:Pos}
theorem ag3{f:QF}(h:QE aj X W e f):GE aj X W q e (gOf f):=PE.weak h fun σ H Q ⟨g,ρ,M,I,z⟩=>
 ⟨g,ρ,M,I,(Out.jf z).mono (fun d k v H' e r=>k v H' g (Gr.ex e) (I.ex e) r) fun x k H' c dd e r=>k H' g c dd (Gr.ex e) (I.ex e) r⟩
theorem amU{f:QT}(h:sG aj X W e f):GTe aj X W q e (agn f):=PT.weak h fun σ H Q ⟨g,ρ,M,I,z⟩=>
 ⟨g,ρ,M,I,(Out.jf z).mono (fun d k H' e=>k H' g (Gr.ex e) (I.ex e)) fun x k H' c dd e r=>k H' g c dd (Gr.ex e) (I.ex e) r⟩
def aP:SF:=fun M ρ=>.next ρ M
def aC(f k:SF):SF:=fun M ρ=>match f M ρ with
 |.next ρ' M'=>k M' ρ'
 |o=>o
theorem alP:JK aj X W q [] aP:=PSs.weak pss_nil fun D σ H ⟨g,ρ,M,I,z⟩=>z σ H g .refl I
theorem ak2{s:Stmt}{f:SF}(h:SE aj X W q s f):JK aj X W q [s] f:=pss_one h
theorem ah1{s:Stmt}{ss:List Stmt}{f k:SF}(h:SE aj X W q s f)(hs:JK aj X W q ss k):JK aj X W q (s::ss) (aC f k):=by
 refine PSs.weak (pss_cons h hs) fun D σ H ⟨g,ρ,M,I,z⟩=>?_
 refine⟨g,ρ,M,I,?_⟩
 unfold aC at z
 cases hf:f M ρ with
 |next ρ' M'=>
  rw[hf]at z
  exact fun σ' H' g' r I'=>tS.go I' r z
 |ret d M'=>rw[hf]at z;exact z
 |brk ρ' M'=>rw[hf]at z;exact z
 |cont ρ' M'=>rw[hf]at z;exact z
 |exc x ρ' M'=>rw[hf]at z;exact z
 |bad=>rw[hf]at z;exact z
def bx.then{α:Type}(o:bx α)(ρ:Env)(k:α->Mo->tV):tV:=
 match o with
 |.ok a M=>k a M
 |.exc x M=>.exc x ρ M
 |.bad=>.bad
@[simp]theorem bx.aoT {α:Type} (a:α) (M:Mo) (ρ:Env) (k:α->Mo->tV):(bx.ok a M).then ρ k=k a M:=rfl
@[simp]theorem bx.aon {α:Type} (x:dD) (M:Mo) (ρ:Env) (k:α->Mo->tV):(bx.exc x M:bx α).then ρ k=.exc x ρ M:=rfl
@[simp]theorem bx.anU {α:Type} (ρ:Env) (k:α->Mo->tV):(bx.bad:bx α).then ρ k=.bad:=rfl
theorem dB{α:Type}{K:asr}{g:Gh}{H:Hp}{σ:L2.St}{ρ:Env}{o:bx α}{k:α->Mo->tV}{nx bk ct:Env->Mo->Prop}{rt:Dat->Mo->Prop}(h:(o.then ρ k).sat nx rt bk ct (sX K aj W q g H)):o.sat (fun a M=>(k a M).sat nx rt bk ct (sX K aj W q g H)) (gE K aj W q g H σ ρ):=by
 cases o with
 |ok a M=>exact h
 |exc x M=>exact fun H' g' c dd r I z=>h σ H' g' c dd r I z.fr
 |bad=>exact h
def aV(tg:fV)(f:GF):SF:=fun M ρ=>(f M ρ).then ρ fun d M'=>match tg d ρ with
 |some ρ'=>.next ρ' M'
 |none=>.bad
theorem Z8{tg:Expr}{js:List Nat}{tf:fV}{f:GF}(he:GE aj X W q e f)(hg:QG aj X tg js tf)(hs:swapsWithSole [tg] e pos.line X.env=pure false)(hw:swappedStores [tg] e X.env=pure none)(h1:(assignEach [tg] X.env).map (·.2)=[assign tg X.env]):SE aj X W q (.Assign [tg] e pos) (aV tf f):=by
 refine PS.weak (ps_asg he hg hs hw h1) fun D σ H ⟨g,ρ,M,I,z⟩=>?_
 refine tE.go I (dB (σ:=σ) z) fun d M' v H' g' k r I' rv=>?_
 split at k
 ·next ρ' e'=>exact⟨g',ρ,M',d,ρ',I',rv,e',fun vs I2=>k _ H' g' r I2⟩
 ·exact False.elim k
def cJ(f:GF):SF:=fun M ρ=>(f M ρ).then ρ fun _ M'=>.next ρ M'
theorem Us{f:GF}(he:GE aj X W q e f)(hs:swapsWith e none pos.line X.env=pure false):SE aj X W q (.Expr e pos) (cJ f):=by
 refine PS.weak (ps_expr he hs) fun D σ H ⟨g,ρ,M,I,z⟩=>?_
 exact tE.go I (dB (σ:=σ) z) fun d M' v H' g' k r I' rv=>k σ H' g' r I'
end
def R4:Cell->Cell
 |.mut xs=>.dat (.list xs)
 |c=>c
def rN(ρ:Env):Env:=ρ.map fun o=>o.map R4
section
variable{K:asr}{aj:aU}{W:WX}{q:Bool}{g:Gh}{H:Hp}{σ:L2.St}{ρ:Env}{M:Mo}
theorem jF.less{g':Gh}{l:Addr}(e:g'.tbl=g.tbl)(n:∀a,g'.A a->g.A a):∀{b:Bool} {kvs:List (Dat×Dat)},jF K aj g H l b kvs->jF K aj g' H l b kvs
 |false,_,⟨kv,h1,h2,h3⟩=>⟨kv,h1,h2,h3.less e n⟩
 |true,_,⟨o,xs,vs,h1,h2,h3,h4,h5,h6⟩=>⟨o,xs,vs,h1,h2,h3,h4.less e n,h5,h6.less e n⟩
theorem dU.less{g':Gh}{h:Nat}{f:Str}{v:V}(e:g'.tbl=g.tbl)(e2:g'.ow=g.ow)(n:∀a,g'.A a->g.A a):∀{fl:jd},dU K aj g H h f v fl->dU K aj g' H h f v fl
 |.dat _,z=>Rep.less e n z
 |.lst _ _,⟨l,us,h1,h2,h3,h4,h5⟩=>⟨l,us,h1,h2,by rw[e2];exact h3,h4.less e n,by rw[e];exact h5⟩
 |.dic _ _,⟨l,h1,h2,h3⟩=>⟨l,h1,by rw[e2];exact h2,h3.less e n⟩
theorem cP.less{g':Gh}{h:Nat}(e:g'.tbl=g.tbl)(e2:g'.ow=g.ow)(n:∀a,g'.A a->g.A a):∀{fs:List (Str×V)} {gs:List (Str×jd)},cP K aj g H h fs gs->cP K aj g' H h fs gs
 |_,_,.nil=>.nil
 |_,_,.cons z t=>.cons (dU.less e e2 n z) (cP.less e e2 n t)
theorem fZ.less{g':Gh}(e:g'.tbl=g.tbl)(e2:g'.ow=g.ow)(n:∀a,g'.A a->g.A a)(w:fZ K aj g H M):fZ K aj g' H M where
 len:=by rw[e];exact w.len
 inj:=by rw[e];exact w.inj
 ins:=fun h a i ha hi hc=>by
  rw[e]at ha
  obtain⟨C,dx,fs,c1,c2,c3⟩:=w.ins h a i ha hi hc
  exact⟨C,dx,fs,c1,c2,c3.less e e2 n⟩
 nd:=w.nd
 fd:=w.fd
 tw:=by rw[e,e2];exact w.tw
 dm:=w.dm
 nc:=w.nc
theorem O7{i:Nat}{c:Cell}(h:(rN ρ)[i]?=some (some c)):∃c',ρ[i]?=some (some c')/\c=R4 c':=by
 unfold rN at h
 rw[asI]at h
 cases hr:ρ[i]? with
 |none=>rw[hr]at h;cases h
 |some o=>
  rw[hr]at h
  cases o with
  |none=>cases h
  |some c'=>
   cases h
   exact⟨c',rfl,rfl⟩
theorem SInv.rN(I:SInv K aj σ H g ρ M):SInv K aj σ H g.fr (rN ρ) M where
 kd:=⟨fun a z=>I.kd.ob a (wJ g a z),fun a z=>False.elim z,fun a z=>⟨(I.kd.lc a z).1,fun y=>y⟩⟩
 wok:=fZ.less (g:=g) (g':=g.fr) rfl rfl (wJ g) I.wok
 len:=by unfold Rf.rN;rw[asH];exact I.len
 dat:=fun i d h=>by
  obtain⟨c,h1,h2⟩:=O7 h
  cases c with
  |dat d'=>
   cases h2
   obtain⟨v,e1,e2⟩:=I.dat i _ h1
   exact⟨v,e1,e2.fr⟩
  | «mut» xs=>
   cases h2
   obtain⟨l,us,e1,e2,e3,e4⟩:=I.own i _ h1
   refine⟨_,e1,.lst (.inl ⟨.inl e2,fun z=>?_⟩) e4.fr⟩
   rcases z with z|z|z
   ·exact I.kd.lo l e3 z
   ·exact(I.kd.lc l z).2 e3
   ·exact z
 own:=fun i xs h=>by
  obtain⟨c,h1,h2⟩:=O7 h
  cases c <;> cases h2
 sep:=fun i j xs ys l ne h1=>by
  obtain⟨c,h1,h2⟩:=O7 h1
  cases c <;> cases h2
end
section
variable{K:asr}{aj:aU}{W:WX}{q:Bool}{g g':Gh}{H H':Hp}{σ:L2.St}{ρ:Env}{M:Mo}
theorem Kd.fr(k:Kd g H):Kd g.fr H:=⟨fun a z=>k.ob a (wJ g a z),fun a z=>False.elim z,fun a z=>⟨(k.lc a z).1,fun y=>y⟩⟩
theorem fZ.fr(w:fZ K aj g H M):fZ K aj g.fr H M:=fZ.less (g:=g) (g':=g.fr) rfl rfl (wJ g) w
theorem bG{α:Type}{l:List (Option α)}{j i:Nat}{c:α}{o:Option α}(h:(l.set j o)[i]?=some (some c)):(j=i/\o=some c/\j < l.length)∨(j≠i/\l[i]?=some (some c)):=by
 by_cases z:j=i
 ·subst z
  have hj:j < l.length:=by
   have:=(asv.mp h).1
   rw[asZ]at this
   exact this
  rw[asS hj]at h
  exact .inl ⟨rfl,asW h,hj⟩
 ·rw[asF z]at h
  exact .inr ⟨z,h⟩
theorem SInv.al5{j:Nat}{l:Addr}{us:List V}{xs:List Dat}(I:SInv K aj σ H g ρ M)(n:H l=none)(e:Ex H H')(hl:H' l=some (.lst us))(r:aK K (g.add l) H' us xs):SInv K aj (σ.set j (some (.ref l))) H' (g.add l) (ρ.set j (some (.mut xs))) M:=by
 have I1:=I.add n e hl trivial
 have nl:∀(i:Nat) (ys:List Dat),ρ[i]?=some (some (.mut ys))->σ[i]?≠some (some (.ref l)):=fun i ys h z=>by
  obtain⟨l',us',h1,h2,_⟩:=I.own i ys h
  rw[z]at h1
  cases h1
  rw[n]at h2
  cases h2
 refine⟨I1.kd,I1.wok,by rw[asZ,asZ];exact I.len,fun i d h=>?_,fun i ys h=>?_,fun i k ys zs a ne h1 h2 h3 h4=>?_⟩
 ·rcases bG h with⟨_,h,_⟩|⟨ne,h⟩
  ·cases h
  ·rw[asF ne]
   exact I1.dat i d h
 ·rcases bG h with⟨rfl,h,hj⟩|⟨ne,h⟩
  ·cases h
   exact⟨l,us,by rw[asS (by rw[I.len];exact hj)],hl,.inr rfl,r⟩
  ·rw[asF ne]
   exact I1.own i ys h
 ·rcases bG h1 with⟨rfl,h1,hj⟩|⟨n1,h1⟩
  ·rcases bG h2 with⟨rfl,h2,_⟩|⟨n2,h2⟩
   ·exact ne rfl
   ·rw[asS (by rw[I.len];exact hj)]at h3
    cases h3
    rw[asF n2]at h4
    exact nl k zs h2 h4
  ·rcases bG h2 with⟨rfl,h2,hj⟩|⟨n2,h2⟩
   ·rw[asS (by rw[I.len];exact hj)]at h4
    cases h4
    rw[asF n1]at h3
    exact nl i ys h1 h3
   ·rw[asF n1]at h3
    rw[asF n2]at h4
    exact I.sep i k ys zs a ne h1 h2 h3 h4
theorem dU.loc{l:Addr}{us us':List V}{h:Nat}{f:Str}{v:V}(k:Kd g H)(hl:H l=some (.lst us))(lo:g.Lo l):∀{fl:jd},dU K aj g H h f v fl->dU K aj g (upd H l (.lst us')) h f v fl:=fun {fl} z=>by
 have r:Gr true g g H (upd H l (.lst us')):=Gr.upd k hl (.inr lo)
 cases fl with
 |dat d=>exact Rep.gr r k z
 |lst n xs=>
  obtain⟨a,ws,h1,h2,h3,h4,h5⟩:=z
  exact⟨a,ws,h1,by rw[upd_ne (fun z=>by subst z;exact k.lo _ lo (.inr (by rw[h3];exact fun z=>nomatch z)))];exact h2,h3,h4.gr r k,h5⟩
 |dic n kvs=>
  obtain⟨a,h1,h2,h3⟩:=z
  have na:a≠l:=fun z=>by subst z;exact k.lo _ lo (.inr (by rw[h2];exact fun z=>nomatch z))
  refine⟨a,h1,h2,?_⟩
  cases n with
  |false=>
   obtain⟨kv,h3,h4,h5⟩:=h3
   exact⟨kv,by rw[upd_ne na];exact h3,h4,h5.gr r k⟩
  |true=>
   obtain⟨o,xs,vs,h3,h4,h5,h6,h7,h8⟩:=h3
   exact⟨o,xs,vs,by rw[upd_ne na];exact h3,h4,h5,h6.gr r k,h7,h8.gr r k⟩
theorem cP.loc{l:Addr}{us us':List V}{h:Nat}(k:Kd g H)(hl:H l=some (.lst us))(lo:g.Lo l):∀{fs:List (Str×V)} {gs:List (Str×jd)},cP K aj g H h fs gs->cP K aj g (upd H l (.lst us')) h fs gs
 |_,_,.nil=>.nil
 |_,_,.cons z t=>.cons (dU.loc k hl lo z) (cP.loc k hl lo t)
theorem fZ.loc{l:Addr}{us us':List V}(k:Kd g H)(hl:H l=some (.lst us))(lo:g.Lo l)(w:fZ K aj g H M):fZ K aj g (upd H l (.lst us')) M where
 len:=w.len
 inj:=w.inj
 ins:=fun h a i ha hi hc=>by
  obtain⟨C,dx,fs,c1,c2,c3⟩:=w.ins h a i ha hi hc
  exact⟨C,dx,fs,c1,by rw[upd_ne (fun z=>by subst z;exact k.lo _ lo (.inl (asC ha)))];exact c2,c3.loc k hl lo⟩
 nd:=w.nd
 fd:=w.fd
 tw:=w.tw
 dm:=w.dm
 nc:=w.nc
theorem SInv.change{j:Nat}{xs ys:List Dat}(I:SInv K aj σ H g ρ M)(hj:ρ[j]?=some (some (.mut xs))):∃l us,σ[j]?=some (some (.ref l))/\H l=some (.lst us)/\g.Lo l/\aK K g H us xs/\∀us',aK K g H us' ys->SInv K aj σ (upd H l (.lst us')) g (ρ.set j (some (.mut ys))) M:=by
 obtain⟨l,us,h1,h2,h3,h4⟩:=I.own j xs hj
 refine⟨l,us,h1,h2,h3,h4,fun us' r=>?_⟩
 have gr:Gr true g g H (upd H l (.lst us')):=Gr.upd I.kd h2 (.inr h3)
 refine⟨I.kd.upd trivial,I.wok.loc I.kd h2 h3,by rw[asZ];exact I.len,fun i d h=>?_,fun i zs h=>?_,fun i k zs ws a ne e1 e2 e3 e4=>?_⟩
 ·rcases bG h with⟨_,h,_⟩|⟨ne,h⟩
  ·cases h
  ·obtain⟨v,e1,e2⟩:=I.dat i d h
   exact⟨v,e1,e2.gr gr I.kd⟩
 ·rcases bG h with⟨rfl,h,_⟩|⟨ne,h⟩
  ·cases h
   exact⟨l,us',h1,upd_same,h3,r.gr gr I.kd⟩
  ·obtain⟨l',ws,e1,e2,e3,e4⟩:=I.own i zs h
   have nl:l'≠l:=fun z=>by
    subst z
    exact I.sep i j zs xs l' (Ne.symm ne) h hj e1 h1
   exact⟨l',ws,e1,by rw[upd_ne nl];exact e2,e3,e4.gr gr I.kd⟩
 ·have k1:∃xs,ρ[i]?=some (some (.mut xs)):=by
   rcases bG e1 with⟨rfl,_,_⟩|⟨_,h⟩
   ·exact⟨xs,hj⟩
   ·exact⟨zs,h⟩
  have k2:∃xs,ρ[k]?=some (some (.mut xs)):=by
   rcases bG e2 with⟨rfl,_,_⟩|⟨_,h⟩
   ·exact⟨xs,hj⟩
   ·exact⟨ws,h⟩
  obtain⟨x1,k1⟩:=k1
  obtain⟨x2,k2⟩:=k2
  exact I.sep i k x1 x2 a ne k1 k2 e3 e4
end
section
variable{X:Cx}{aj:aU}{W:WX}{q:Bool}{a b e:Expr}{pos:Pos}
def aO(f:QF):SF:=fun M ρ=>((f M (rN ρ)).at M).then ρ fun d M'=>.ret d M'
def iD(f:GF):SF:=fun M ρ=>(f M ρ).then ρ fun d M'=>.ret d M'
theorem akH{f:QF}(he:QE aj X W e f):SE aj X W q (.Return (some e) pos) (aO f):=by
 refine PS.weak (ps_ret he) fun D σ H ⟨g,ρ,M,I,z⟩=>?_
 refine⟨g.fr,rN ρ,M,I.rN,?_⟩
 unfold aO at z
 cases hf:f M (rN ρ) with
 |ok d=>
  rw[hf]at z
  exact fun v H' e r=>z v H' g (Gr.ex e) (I.ex e).kd.fr (I.ex e).wok.fr r
 |exc x=>
  rw[hf]at z
  exact fun H' c dd e r=>z σ H' g c dd (Gr.ex e) (I.ex e) r
 |bad=>rw[hf]at z;exact False.elim z
theorem aiZ{f:GF}(he:GE aj X W q e f):SE aj X W q (.Return (some e) pos) (iD f):=by
 refine PS.weak (ps_ret he) fun D σ H ⟨g,ρ,M,I,z⟩=>?_
 exact tE.go I (dB (σ:=σ) z) fun d M' v H' g' k r I' rv=>k v H' g' r I'.kd.fr I'.wok.fr rv.fr
def bO(t:QT)(f k:SF):SF:=fun M ρ=>((t M (rN ρ)).at M).then ρ fun c M'=>if c=true then f M' ρ else k M' ρ
def an8(t:GT)(f k:SF):SF:=fun M ρ=>(t M ρ).then ρ fun c M'=>if c=true then f M' ρ else k M' ρ
theorem amk{c:Expr}{s1 s2:List Stmt}{t:QT}{f k:SF}(hc:sG aj X W c t)(h1:JK aj X W q s1 f)(h2:JK aj X W q s2 k):SE aj X W q (.If c s1 s2 pos) (bO t f k):=by
 refine PS.weak (ps_if hc h1 h2) fun D σ H ⟨g,ρ,M,I,z⟩=>?_
 refine⟨g.fr,rN ρ,M,I.rN,?_⟩
 unfold bO at z
 cases hf:t M (rN ρ) with
 |ok d=>
  rw[hf]at z
  intro H' e
  cases d with
  |true=>exact tS.go (I.ex e) (Gr.ex e) z
  |false=>exact tS.go (I.ex e) (Gr.ex e) z
 |exc x=>
  rw[hf]at z
  exact fun H' c dd e r=>z σ H' g c dd (Gr.ex e) (I.ex e) r
 |bad=>rw[hf]at z;exact False.elim z
def eZ(tg:fV)(body:SF):List Dat->Mo->Env->tV
 |[],M,ρ=>.next ρ M
 |d::ds,M,ρ=>match tg d ρ with
  |none=>.bad
  |some ρ1=>match body M ρ1 with
   |.next ρ2 M2=>eZ tg body ds M2 ρ2
   |.cont ρ2 M2=>eZ tg body ds M2 ρ2
   |.brk ρ2 M2=>.next ρ2 M2
   |.ret d M2=>.ret d M2
   |.exc x ρ2 M2=>.exc x ρ2 M2
   |.bad=>.bad
def pZ(it:IF)(tg:fV)(body:SF):SF:=fun M ρ=>((it M ρ).at M).then ρ fun ds M'=>eZ tg body ds M' ρ
theorem ajw{tg iter:Expr}{body:List Stmt}{it:IF}{js:List Nat}{tf:fV}{f:SF}(hp:PassesOwn (model X.prog X.w) X.A X.env X.xe)(hc:X.calm=true)(hi:QI aj X W true tg iter it)(hg:QG aj X tg js tf)(hb:JK aj X W q body f)(hs:∀x,foldedSetIterable iter X.env x=pure x) :
  SE aj X W q (.For tg iter body [] pos) (pZ it tf f):=by
 refine PS.weak (ps_for hp hc hi hg hb hs) fun D σ H ⟨g,ρ,M,I,z⟩=>?_
 refine⟨g,ρ,M,I,?_⟩
 unfold pZ at z
 cases hf:it M ρ with
 |exc x=>
  rw[hf]at z
  exact fun H' c dd e r=>z σ H' g c dd (Gr.ex e) (I.ex e) r.fr
 |bad=>rw[hf]at z;exact False.elim z
 |ok ds=>
  rw[hf]at z
  intro J C H1 e1 w c1 firm
  have firm:=firm rfl
  have z:(eZ tf f ds M ρ).sat (sN X.K aj q D.nx g H) (sR X.K aj q D.rt g H) (sN X.K aj q D.bk g H) (sN X.K aj q D.ct g H) (sX X.K aj W q g H):=z
  let Pv:Nat->L2.St->Hp->Prop:=fun i σi Hi=>i<=ds.length/\∃gi ρi Mi,Gr q g gi H Hi/\SInv X.K aj σi Hi gi ρi Mi/\C gi Hi/\(eZ tf f (ds.drop i) Mi ρi).sat (sN X.K aj q D.nx g H) (sR X.K aj q D.rt g H) (sN X.K aj q D.bk g H) (sN X.K aj q D.ct g H) (sX X.K aj W q g H)
  refine⟨fun i m σi Hi=>m=ds.length - i/\Pv i σi Hi,⟨ds.length,rfl,ath _,g,ρ,M,Gr.ex e1,I.ex e1,c1,by rw[atZ];exact z⟩,?_⟩
  rintro i m σi Hi ⟨rfl,hi,gi,ρi,Mi,ri,Ii,Ci,zi⟩
  by_cases hlt:i < ds.length
  ·refine .inr ⟨w.go _ i Hi Ci hlt,Pv (i+1),fun σ' H' p=>⟨ds.length - (i+1),by omega,rfl,p⟩,fun x H' y=>?_⟩
   have hd:ds[i]?=some ds[i]:=asw hlt
   obtain⟨e2,rx⟩:=w.yld _ i Hi x H' _ Ii.kd Ci hd y
   rw[atq hlt,eZ]at zi
   split at zi
   ·exact False.elim zi
   ·next ρ1 he=>
    have I2:=Ii.ex e2
    refine⟨gi,ρi,Mi,_,ρ1,I2,rx,he,fun vs I3=>⟨gi,ρ1,Mi,I3,?_⟩⟩
    have r2:=ri.trans (Gr.ex e2)
    cases hb':f Mi ρ1 with
    |next ρ2 M2=>
     rw[hb']at zi
     exact fun σ' H2 g2 r I'=>⟨hlt,g2,ρ2,M2,r2.trans r,I',firm q gi g2 H' H2 I2.kd (w.ex _ _ _ Ii.kd Ci e2) r,zi⟩
    |cont ρ2 M2=>
     rw[hb']at zi
     exact fun σ' H2 g2 r I'=>⟨hlt,g2,ρ2,M2,r2.trans r,I',firm q gi g2 H' H2 I2.kd (w.ex _ _ _ Ii.kd Ci e2) r,zi⟩
    |brk ρ2 M2=>
     rw[hb']at zi
     exact sN.gr r2 zi
    |ret d M2=>
     rw[hb']at zi
     exact sR.gr r2 zi
    |exc x ρ2 M2=>
     rw[hb']at zi
     exact sX.gr r2 zi
    |bad=>rw[hb']at zi;exact False.elim zi
  ·have e:i=ds.length:=by omega
   refine .inl ⟨w.stop _ i Hi Ci e,?_⟩
   rw[e,atx]at zi
   exact zi σi Hi gi ri Ii
def Qt(j:Nat)(f:QF):SF:=fun M ρ=>match ρ[j]? with
 |some (some (.dat (.int i)))=>((f M ρ).at M).then ρ fun d M'=>match d with
  |.int k=>.next (ρ.set j (some (.dat (.int (i+k))))) M'
  |_=>.bad
 |_=>.bad
theorem ak5{j:Nat}{x:Str}{f:QF}{pos':Pos}(hN:X.N.Nodup)(hi:X.N[j]?=some x)(hx:Loc X.env.scope x)(hf:X.fn x=true∨X.env.scope.names.lookup x=some .local)(he:QE aj X W e f):SE aj X W q (.AugAssign (.Name x pos') .Add e pos) (Qt j f):=by
 refine PS.weak (ps_aug hN hi hx he ip_add hf) fun D σ H ⟨g,ρ,M,I,z⟩=>?_
 unfold Qt at z
 split at z
 ·next i hj=>
  obtain⟨v,h1,h2⟩:=I.dat j _ hj
  cases h2
  refine⟨.int i,h1,⟨g,ρ,M,I,?_⟩⟩
  cases hf':f M ρ with
  |exc x=>rw[hf']at z;exact fun H' c dd e r=>z σ H' g c dd (Gr.ex e) (I.ex e) r.fr
  |bad=>rw[hf']at z;exact False.elim z
  |ok d=>
   rw[hf']at z
   intro u H' e r
   cases d with
   |int k=>
    cases r
    exact⟨i,k,rfl,rfl,z _ H' g (Gr.ex e) ((I.ex e).set (.int _))⟩
   |_=>exact False.elim z
 ·exact False.elim z
def FE(aj:aU)(X:Cx)(W:WX)(e:Expr)(f:IF):Prop:=PE X e (tFr X.K aj W f)
def Bh(j:Nat)(f:IF):SF:=fun M ρ=>((f M ρ).at M).then ρ fun xs M'=>.next (ρ.set j (some (.mut xs))) M'
theorem aea{j:Nat}{f:IF}(D:Ends)(σ:L2.St)(H:Hp)(h:tS X.K aj W q (Bh j f) D σ H):tAsg (tFr X.K aj W f) (gName j) D σ H:=by
 obtain⟨g,ρ,M,I,z⟩:=h
 refine⟨g,ρ,M,I,?_⟩
 unfold Bh at z
 cases hf:f M ρ with
 |exc x=>rw[hf]at z;exact fun H' c dd e r=>z σ H' g c dd (Gr.ex e) (I.ex e) r.fr
 |bad=>rw[hf]at z;exact False.elim z
 |ok xs=>
  rw[hf]at z
  intro l us H' n e hl r
  have gr:Gr true g (g.add l) H H':=Gh.Gu n e
  refine z _ H' (g.add l) ?_ (I.al5 n e hl r)
  cases q with
  |true=>exact gr
  |false=>exact gr.loud
theorem aeo{j:Nat}{x:Str}{f:IF}{pos':Pos}(hN:X.N.Nodup)(hi:X.N[j]?=some x)(hx:Loc X.env.scope x)(hf:X.fn x=true∨X.env.scope.names.lookup x=some .local)(he:FE aj X W e f)(hs:swapsWith e (some (.Name x pos')) pos.line X.env=pure false):SE aj X W q (.Assign [.Name x pos'] e pos) (Bh j f):=
 PS.weak (ps_set hN hi hx he hs hf) fun D σ H h=>aea D σ H h
def Lw(f:QA):IF:=fun M ρ=>(f M ρ).bind fun xs=>Out.when (decide (xs.length<=100000)) (.ok xs)
theorem afH{K:asr}{g:Gh}{H:Hp}{l:Addr}{vs:List V}{ds:List Dat}(k:Kd g H)(n:H l=none)(r:aK K g H vs ds){o:HO}:aK K (g.add l) (upd H l o) vs ds:=r.gr (Gh.Gu n (Ex.new n)) k
theorem ajp{es:List Expr}{fr:QA}(h:Fd aj X W es fr):FE aj X W (.List es pos) (Lw fr):=
 PE.weak (pe_lst h) fun σ H Q ⟨g,ρ,M,I,h⟩=>by
  refine Ol.go I h.bnd fun ds vs H1 h1 e1 r1=>?_
  obtain⟨hz,h1⟩:=h1.qp
  have hl:vs.length<=100000:=by
   rw[r1.length]
   exact of_decide_eq_true hz
  exact⟨sz_of hl,fun p np=>h1 p vs _ (DG e1 p np) (e1.trans (Ex.new np)) upd_same (afH (I.kd.ex e1) np r1)⟩
def Yg:Dat->Out (List Dat)
 |.list ds=>.ok ds
 |.tuple ds=>.ok ds
 |_=>.bad
def afK(f:QF):IF:=fun M ρ=>(f M ρ).bind Yg
def baseOk:Expr->Bool
 |.Call (.Name _ _) _ _ _=>false
 |_=>true
theorem mH{o:Expr}{m:Str}{env:PySem.Env}{w:Sem Value}(h:baseOk o=true):attributeBase o m env w=w:=by
 cases o with
 | Call f as ks p=>cases f <;> first | rfl | cases h
 |_=>rfl
theorem Z5{env:PySem.Env}{pos:Pos}:∀(es:List Expr),es.all nst=true->(backTo pos (starEach es env)).all (fun x=>!x.1)=true
 |[],_=>by with_unfolding_all rfl
 |a::es,h=>by
  rw[ate,asu]at h
  rw[cQ h.1]
  have ih:=Z5 (env:=env) (pos:=pos) es h.2
  unfold backTo at ih ⊢
  rw[asx,ate,ih]
  rfl
theorem few{env:PySem.Env}{pos:Pos}{es:List Expr}(h:es.all nst=true)(hl:es.length < 30):((backTo pos (starEach es env)).all (fun x=>!x.1)&&(backToKw pos (keywordEach [] env)).all (fun x=>x.1.isSome)&&decide (es.length+([]:List Keyword).length+(if ([]:List Keyword).isEmpty then 0 else 1) < 30))=true:=by
 rw[Z5 es h]
 have:(backToKw pos (keywordEach [] env)).all (fun x=>x.1.isSome)=true:=by with_unfolding_all rfl
 rw[this]
 simpa using hl
def Gg(j:Nat)(f:QF):SF:=fun M ρ=>match ρ[j]? with
 |some (some (.mut xs))=>((f M ρ).at M).then ρ fun d M'=>if xs.length < 100000 then .next (ρ.set j (some (.mut (xs++[d])))) M' else .bad
 |_=>.bad
theorem ajz{j:Nat}{x:Str}{f:QF}{p apos:Pos}{epos:Pos}(hN:X.N[j]?=some x)(hv:Vis X.env.scope x)(hd:(x==("__debug__" : Str))=false)(hcd:(x==("__classdict__" : Str))=false)(he:QE aj X W e f)(hs:nst e=true)
  (hl:(apos.endLine==pos.line)=true):SE aj X W q (.Expr (.Call (.Attribute (.Name x p) "append" apos) [e] [] pos) epos) (Gg j f):=by
 have h0:=pe_var (X:=X) (pos:=p) hN hv hd hcd
 have h1:=pa_cons he pa_nil (cQ hs [])
 have key:=pe_bm (X:=X) (cpos:=pos) (apos:=apos) PySem.F.plainAttrs_list PySem.F.slot_list_append PySem.F.type_list_append mt_append h0 h1 (mH rfl) (few (by simp[hs]) (by simp)) hl (cQ hs []) (by with_unfolding_all rfl)
 refine PS.weak (ps_expr key (by with_unfolding_all rfl)) fun D σ H ⟨g,ρ,M,I,z⟩=>?_
 unfold Gg at z
 split at z
 ·next xs hj=>
  obtain⟨l,us,e1,e2,e3,e4⟩:=I.own j xs hj
  refine⟨.ref l,e1,.inl ⟨rfl,us,sq_of e2⟩,⟨g,ρ,M,I,?_⟩⟩
  cases hf:f M ρ with
  |exc x=>rw[hf]at z;exact fun H' c dd e r=>z σ H' g c dd (Gr.ex e) (I.ex e) r.fr
  |bad=>rw[hf]at z;exact False.elim z
  |ok d=>
   rw[hf]at z
   intro v H' e r
   have z:(if xs.length < 100000 then tV.next (ρ.set j (some (.mut (xs++[d])))) M else .bad).sat (sN X.K aj q D.nx g H) (sR X.K aj q D.rt g H) (sN X.K aj q D.bk g H) (sN X.K aj q D.ct g H) (sX X.K aj W q g H):=z
   split at z
   ·next hlen=>
    have I1:=I.ex e
    obtain⟨l',us',f1,f2,f3,f4,f5⟩:=I1.change (ys:=xs++[d]) hj
    rw[e1]at f1
    cases f1
    rw[e _ _ e2]at f2
    cases f2
    refine⟨l,us,v,rfl,rfl,e _ _ e2,sz_lt (by rw[e4.length];exact hlen),?_⟩
    exact z _ _ g ((Gr.ex e).trans (Gr.upd I1.kd (e _ _ e2) (.inr f3))) (f5 _ (f4.append (.cons r .nil)))
   ·exact False.elim z
 ·exact False.elim z
def ame(j:Nat)(fi f:QF):SF:=fun M ρ=>match ρ[j]? with
 |some (some (.mut xs))=>((f M ρ).at M).then ρ fun d M'=>((fi M' ρ).at M').then ρ fun i M2=>match i with
  |.int k=>match ixN xs.length k with
   |some n=>.next (ρ.set j (some (.mut (xs.set n d)))) M2
   |none=>.bad
  |_=>.bad
 |_=>.bad
end
structure Gc(g g':Gh)(H H':Hp):Prop where
 keep:∀a o,H a=some o->¬g.W a->H' a=some o
 dom:∀a,H' a=none->H a=none
 tbl:∃more,g'.tbl=g.tbl++more
 W:∀a,g.W a->g'.W a
 nW:∀a,g'.W a->g.W a∨H a=none
 Lc:g'.Lc=g.Lc
 Lo:g'.Lo=g.Lo
def V1(K:asr)(aj:aU)(n:Nat)(m:Mo->List Dat->Out Dat):Sp:=fun vs H Q E=>vs.length=n/\∃g M ds,Kd g H/\fZ K aj g H M/\aK K g H vs ds/\
 (m M ds).sat (fun d=>∀v H',Ex H H'->Rep K g H' v d->Q v H') fun x=>∀H' c dd,Ex H H'->qJ K aj g H' x c dd->E c dd H'
def JV(K:asr)(aj:aU)(n:Nat)(m:Mo->List Dat->bx Dat):Sp:=fun vs H Q E=>vs.length=n/\∃g M ds,Kd g H/\fZ K aj g H M/\aK K g H vs ds/\
 (m M ds).sat (fun d M'=>∀v H' g',Gc g g' H H'->Kd g' H'->fZ K aj g' H' M'->Rep K g' H' v d->Q v H') fun x M'=>∀H' g' c dd,Gc g g' H H'->Kd g' H'->fZ K aj g' H' M'->qJ K aj g' H' x c dd->E c dd H'
section
variable{K:asr}{aj:aU}{W:WX}{g g':Gh}{H H':Hp}{σ:L2.St}{ρ:Env}{M M':Mo}
theorem Gc.gr(r:Gc g g' H H'):Gr false g g' H H':=⟨fun a o h n _=>r.keep a o h n,(fun z=>nomatch z),r.dom,r.tbl,r.W,r.nW,(fun z=>nomatch z),r.Lc,fun a h=>by rw[r.Lo];exact h,fun a h=>by rw[r.Lo]at h;exact .inl h⟩
theorem SInv.call(r:Gc g g' H H')(k':Kd g' H')(w':fZ K aj g' H' M')(I:SInv K aj σ H g ρ M):SInv K aj σ H' g' ρ M' where
 kd:=k'
 wok:=w'
 len:=I.len
 dat:=fun i d h=>by
  obtain⟨v,h1,h2⟩:=I.dat i d h
  exact⟨v,h1,h2.gr r.gr I.kd⟩
 own:=fun i xs h=>by
  obtain⟨l,us,h1,h2,h3,h4⟩:=I.own i xs h
  exact⟨l,us,h1,r.keep _ _ h2 (I.kd.lo l h3),by rw[r.Lo];exact h3,h4.gr r.gr I.kd⟩
 sep:=I.sep
def Gh.in(g:Gh):Gh:={ g with Lc:=fun a=>g.Lc a∨g.Lo a,Lo:=fun _=>False }
theorem aas(g:Gh)(a:Addr):g.in.A a↔g.A a:=by
 constructor
 ·rintro(z|(z|z)|z)
  ·exact .inl z
  ·exact .inr (.inl z)
  ·exact .inr (.inr z)
  ·exact False.elim z
 ·rintro(z|z|z)
  ·exact .inl z
  ·exact .inr (.inl (.inl z))
  ·exact .inr (.inl (.inr z))
theorem Kd.in(k:Kd g H):Kd g.in H:=⟨fun a z=>k.ob a ((aas g a).mp z),fun a z=>False.elim z,fun a z=>⟨z.elim (fun z=>(k.lc a z).1) (fun z=>k.lo a z),fun y=>y⟩⟩
def ini(n:Nat)(ds:List Dat):Env:=ds.map (fun d=>some (.dat d))++List.replicate (n - ds.length) none
theorem abW{N:List Str}{vs:List V}{ds:List Dat}(k:Kd g H)(w:fZ K aj g H M)(r:aK K g H vs ds):SInv K aj (start N vs) H g (ini N.length ds) M where
 kd:=k
 wok:=w
 len:=by
  unfold L2.start ini
  rw[atb,atb,asH,asH,List.length_replicate,List.length_replicate,r.length]
 dat:=fun i d h=>by
  unfold ini at h
  unfold L2.start
  by_cases hi:i < ds.length
  ·rw[asK (by rw[asH];exact hi),asI]at h
   cases hd:ds[i]? with
   |none=>rw[hd]at h;cases h
   |some d'=>
    rw[hd]at h
    cases h
    obtain⟨v,h1,h2⟩:=r.get hd
    refine⟨v,?_,h2⟩
    rw[asK (by rw[asH,r.length];exact hi),asI,h1]
    rfl
  ·rw[asR (by rw[asH];omega)]at h
   rw[List.getElem?_replicate]at h
   split at h <;> cases h
 own:=fun i xs h=>by
  unfold ini at h
  by_cases hi:i < ds.length
  ·rw[asK (by rw[asH];exact hi),asI]at h
   cases hd:ds[i]? with
   |none=>rw[hd]at h;cases h
   |some d'=>rw[hd]at h;cases h
  ·rw[asR (by rw[asH];omega)]at h
   rw[List.getElem?_replicate]at h
   split at h <;> cases h
 sep:=fun i j xs ys l ne h=>by
  unfold ini at h
  by_cases hi:i < ds.length
  ·rw[asK (by rw[asH];exact hi),asI]at h
   cases hd:ds[i]? with
   |none=>rw[hd]at h;cases h
   |some d'=>rw[hd]at h;cases h
  ·rw[asR (by rw[asH];omega)]at h
   rw[List.getElem?_replicate]at h
   split at h <;> cases h
end
def mQ(n:Nat)(body:SF):Mo->List Dat->Out Dat:=fun M ds=>match body M (ini n ds) with
 |.ret d _=>.ok d
 |.next _ _=>.ok .none
 |.exc x _ _=>.exc x
 |_=>.bad
def mG(n:Nat)(body:SF):Mo->List Dat->bx Dat:=fun M ds=>match body M (ini n ds) with
 |.ret d M'=>.ok d M'
 |.next _ M'=>.ok .none M'
 |.exc x _ M'=>.exc x M'
 |_=>.bad
section
variable{P:Program}{w:World}{K:asr}{mg:Str->Option Value}{base:Heap}{aj:aU}
def afZ(E:XK):WX:=fun c d _ H=>E c d H
theorem Rep.same{g g':Gh}{H:Hp}{v:V}{d:Dat}(e:g'.tbl=g.tbl)(n:∀a,g'.A a↔g.A a)(h:Rep K g H v d):Rep K g' H v d:=h.less e fun a z=>(n a).mp z
theorem ada{g g':Gh}{H H':Hp}(r:Gr true g.in g' H H'):Ex H H':=fun a o h=>by
 by_cases w:g.W a
 ·exact r.keepW rfl a o h w
 ·exact r.keep a o h w fun z=>z
theorem alJ{q:Bool}{g g':Gh}{H H':Hp}(r:Gr q g.in g' H H')(a:Addr):g'.fr.A a↔(g'.W a∨g.Lc a∨g.Lo a):=by
 have hl:g'.Lc=g.in.Lc:=r.Lc
 constructor
 ·rintro(z|z|z)
  ·exact .inl z
  ·have z:g'.Lc a:=z
   rw[hl]at z
   exact .inr z
  ·exact False.elim z
 ·rintro(z|z)
  ·exact .inl z
  ·refine .inr (.inl ?_)
   show g'.Lc a
   rw[hl]
   exact z
theorem aoM{x qual:Str}{st:Stmt}{f:Addr}{fd:FuncData}{N ps:List Str}{k:Nat}{body:SF}(F:Fun K x qual st f fd)(S:FnScope N ps (defScope st))
  (hb:∀(cdv:Value) (A:Around) (outer:List PySem.Env) (s:Shared) (H:Hp) (E:XK),Room k (A.deeper (envOfC qual (defScope st) s.heap.objs.size f cdv))->JK aj (cxOf (L2.CX P w) P w K mg base N qual (defScope st) f cdv A outer s H E) (afZ E) true (defBody st) body) :
  FnOk P w K mg base (L2.CX P w) (k+1) f fd ps (V1 K aj ps.length (mQ N.length body)):=by
 refine F.okX S (fun vs H Q E h=>h.1) (fun cdv A outer s H vs Q E hr h=>⟨_,hb cdv A outer s H E hr,?_⟩)
 obtain⟨hl,g,M,ds,kd,wk,rs,h⟩:=h
 have wk':fZ K aj g.in H M:=fZ.less (g:=g) (g':=g.in) rfl rfl (fun a z=>(aas g a).mp z) wk
 refine⟨g.in,ini N.length ds,M,abW kd.in wk' (aK.less (g:=g) (g':=g.in) rfl (fun a z=>(aas g a).mp z) rs),?_⟩
 have back:∀{g':Gh} {H':Hp},Gr true g.in g' H H'->∀a,g.A a↔g'.fr.A a:=fun {g' H'} r a=>by
  rw[alJ r a]
  have e:=(r.qg rfl)
  have ew:g'.W a↔g.W a:=by
   unfold Gh.W
   rw[e.1,e.2]
   rfl
  unfold Gh.A
  rw[ew]
 unfold mQ at h
 cases hf:body M (ini N.length ds) with
 |next ρ' M'=>
  rw[hf]at h
  exact fun σ' H' g' r I'=>h _ H' (ada r) .non
 |ret d M'=>
  rw[hf]at h
  exact fun v H' g' r k' w' rv=>h v H' (ada r) (Rep.same (g:=g'.fr) (g':=g) (r.qg rfl).1.symm (back r) rv)
 |exc x ρ' M'=>
  rw[hf]at h
  exact fun σ' H' g' c dd r I' rx=>h H' c dd (ada r) (qJ.less (g:=g'.fr) (g':=g) (r.qg rfl).1.symm (fun a z=>(back r a).mp z) rx)
 |brk ρ' M'=>rw[hf]at h;exact False.elim h
 |cont ρ' M'=>rw[hf]at h;exact False.elim h
 |bad=>rw[hf]at h;exact False.elim h
theorem aoo{x qual:Str}{st:Stmt}{f:Addr}{fd:FuncData}{N ps:List Str}{k:Nat}{body:SF}(F:Fun K x qual st f fd)(S:FnScope N ps (defScope st))
  (hb:∀(cdv:Value) (A:Around) (outer:List PySem.Env) (s:Shared) (H:Hp) (E:XK),Room k (A.deeper (envOfC qual (defScope st) s.heap.objs.size f cdv))->JK aj (cxOf (L2.CX P w) P w K mg base N qual (defScope st) f cdv A outer s H E) (afZ E) false (defBody st) body) :
  FnOk P w K mg base (L2.CX P w) (k+1) f fd ps (JV K aj ps.length (mG N.length body)):=by
 refine F.okX S (fun vs H Q E h=>h.1) (fun cdv A outer s H vs Q E hr h=>⟨_,hb cdv A outer s H E hr,?_⟩)
 obtain⟨hl,g,M,ds,kd,wk,rs,h⟩:=h
 have wk':fZ K aj g.in H M:=fZ.less (g:=g) (g':=g.in) rfl rfl (fun a z=>(aas g a).mp z) wk
 refine⟨g.in,ini N.length ds,M,abW kd.in wk' (aK.less (g:=g) (g':=g.in) rfl (fun a z=>(aas g a).mp z) rs),?_⟩
 let gb:Gh->Gh:=fun g'=>{ tbl:=g'.tbl,ow:=g'.ow,Lc:=g.Lc,Lo:=g.Lo }
 have gc:∀{g':Gh} {H':Hp},Gr false g.in g' H H'->Gc g (gb g') H H':=fun {g' H'} r=>⟨fun a o h n=>r.keep a o h n fun z=>z,r.dom,r.tbl,r.W,r.nW,rfl,rfl⟩
 have eA:∀{g':Gh} {H':Hp},Gr false g.in g' H H'->∀a,(gb g').A a↔g'.fr.A a:=fun {g' H'} r a=>by
  rw[alJ r a]
  exact Iff.rfl
 have kk:∀{g':Gh} {H':Hp},Gr false g.in g' H H'->Kd g'.fr H'->Kd (gb g') H':=fun {g' H'} r k'=>by
  have nw:∀a,(g.Lc a∨g.Lo a)->¬g'.W a:=fun a z y=>by
   have:g'.fr.Lc a:=by
    show g'.Lc a
    rw[show g'.Lc=g.in.Lc from r.Lc]
    exact z
   exact(k'.lc a this).1 y
  exact⟨fun a z=>k'.ob a ((eA r a).mp z),fun a z=>nw a (.inr z),fun a z=>⟨nw a (.inl z),(kd.lc a z).2⟩⟩
 unfold mG at h
 cases hf:body M (ini N.length ds) with
 |next ρ' M'=>
  rw[hf]at h
  exact fun σ' H' g' r I'=>h _ H' (gb g') (gc r) (kk r I'.kd.fr) (fZ.less (g:=g'.fr) (g':=gb g') rfl rfl (fun a z=>(eA r a).mp z) I'.wok.fr) .non
 |ret d M'=>
  rw[hf]at h
  exact fun v H' g' r k' w' rv=>h v H' (gb g') (gc r) (kk r k') (fZ.less (g:=g'.fr) (g':=gb g') rfl rfl (fun a z=>(eA r a).mp z) w') (Rep.same (g:=g'.fr) (g':=gb g') rfl (eA r) rv)
 |exc x ρ' M'=>
  rw[hf]at h
  exact fun σ' H' g' c dd r I' rx=>h H' (gb g') c dd (gc r) (kk r I'.kd.fr) (fZ.less (g:=g'.fr) (g':=gb g') rfl rfl (fun a z=>(eA r a).mp z) I'.wok.fr) (qJ.less (g:=g'.fr) (g':=gb g') rfl (fun a z=>(eA r a).mp z) rx)
 |brk ρ' M'=>rw[hf]at h;exact False.elim h
 |cont ρ' M'=>rw[hf]at h;exact False.elim h
 |bad=>rw[hf]at h;exact False.elim h
end
def aR(m:Mo->List Dat->Out Dat)(as:QA):QF:=fun M ρ=>(as M ρ).bind fun ds=>m M ds
section
variable{X:Cx}{aj:aU}{W:WX}{q:Bool}{a b e:Expr}{es:List Expr}{pos p:Pos}{x:Str}{k:Nat}{f:Addr}{fd:FuncData}{ps:List Str}
theorem ahL{m:Mo->List Dat->Out Dat}{as:QA}(tk:Takes X W)(F:FnOk X.prog X.w X.K X.mg X.base (L2.CX X.prog X.w) k f fd ps (V1 X.K aj ps.length m))(hr:Room k X.A)(hg:Gl X x)(hm:X.mg x=some (.ref f))(hk:PySem.W.keepIn X.K (.ref f)=true)(hb:Binds X.K fd ps [])
  (ha:Fd aj X W (e::es) as) (hl:(e::es).length=ps.length) (hd:(x==("__debug__" : Str))=false) (hs:(e::es).all nst=true) (hn:∀M ρ ds,as M ρ=.ok ds->ds.length=(e::es).length):QE aj X W (.Call (.Name x p) (e::es) [] pos) (aR m as):=by
 have hs':=hs
 rw[ate,asu]at hs'
 refine PE.weak (pe_callS (E:=fun σ=>WE W σ) F hr hg hm hk hb (fun σ=>passAt tk σ) ha hd (cQ hs'.1 es) (star_any es hs'.2)) fun σ H Q ⟨g,ρ,M,I,h⟩=>?_
 refine⟨g,ρ,M,I,?_⟩
 have h:=h.bnd
 cases has:as M ρ with
 |exc x=>rw[has]at h;exact h
 |bad=>rw[has]at h;exact h
 |ok ds=>
  rw[has]at h
  have h:(m M ds).sat (fun d=>∀v H',Ex H H'->Rep X.K g H' v d->Q v H') (qX X.K aj W g H σ):=h
  intro vs H1 e1 r1
  refine⟨by rw[r1.length,hn M ρ ds has];exact hl,g,M,ds,I.kd.ex e1,I.wok.ex e1 I.kd,r1,h.mono (fun d k v H' e' r'=>k v H' (e1.trans e') r') fun x k H' c dd e' r'=>k H' c dd (e1.trans e') r'⟩
end
theorem agy{n:Nat}(h:n<=16001):n<=sizeLine:=as5 h (by decide)
theorem amK{prog:Program}{w:World}{A:Around}{E:Value->Shared->Prop}{s:Shared}{l:Addr}{v0:Value}{vs:List Value}{Q:List Value->Shared->Prop}(hh:A.handled=none)(hl:s.heap.IsList l (v0::vs).toArray∨IsTup s.heap l (v0::vs).toArray)(hz:vs.length<=16000)
  (h:∀(h₂:Heap) (tk:Nat),(∀b o,s.heap.get? b=some o->h₂.get? b=some o)->Q [v0,.ref h₂.objs.size] { s with heap:=h₂.push { cls:=.type "list",data:=.seq vs.toArray },toks:=tk }):wpAny (model prog w) A (unpackItems (.ref l) 2 (some 1)) Q E s:=by
 have hll:l < s.heap.objs.size:=by
  rcases hl with⟨o,ho,_⟩|⟨o,ho,_⟩ <;> exact Heap.lt_size ho
 have hlt:l≠s.heap.objs.size:=ata hll
 have hsz:(v0::vs).toArray.size=vs.length+1:=by simp
 have hb:(v0::vs).toArray.size<=sizeLine:=agy (by rw[hsz];omega)
 have hd:(v0::vs).toArray.toList.drop 1=vs:=by simp
 have ht:((v0::vs).toArray.toList.drop 0).take 1=[v0]:=by simp
 have fin:∀(h₂:Heap) (tk:Nat),(∀b o,b≠s.heap.objs.size->s.heap.get? b=some o->h₂.get? b=some o)->wpAny (model prog w) A (newList vs >>= fun d=>pure ([v0]++[d]++[])) Q E { s with heap:=h₂,toks:=tk }:=fun h₂ tk k=>by
  refine wpAny_bind (wpAny_newObj_type (wpAny_pure ?_) (agy (by simp;omega)))
  exact h h₂ tk fun b o e=>k b o (ata (Heap.lt_size e)) e
 unfold unpackItems
 refine wpAny_bind ?_
 unfold notIterableAtAll
 rcases hl with hl|hl
 ·refine wpAny_bind (wpAny_specialOf hl.typeIs slot_list_iter.lookup (wpAny_pure ?_))
  simp only[as9,if_false]
  refine wpAny_bind (wpAny_holding (wpAny_pyIter_list hl ?_))
  refine wpAny_bind (wpAny_holding (PySem.W.kun_draw hlt 1 0 _ _ ⟨_,Heap.get?_push_size _ rfl,rfl,rfl⟩ (hl.push _) (by rw[hsz];omega) fun h₁ i1 b1=>?_))
  have hl₁:=(hl.push _).extBut b1.extBut hlt
  obtain⟨oi,hoi,_⟩:=id i1
  obtain⟨ol,hol,_⟩:=id hl₁
  rw[ht]
  refine wpAny_bind (wpAny_holding (PySem.W.kun_collect (s:={ s with heap:=h₁ }) (T:="list_iterator") (.inr (.inr (.inl rfl))) (Walks.list (A:=A.in1) hh s.heap.objs.size l hlt (v0::vs).toArray) (fun j u st=>st.1.typeIs) (k:=1) (by rw[hsz];omega) ⟨i1,hl₁⟩ (Heap.lt_size hoi) (Heap.lt_size hol) (fun h₂ tk hk=>?_) hb))
  rw[hd]
  show wpAny _ _ (if vs.length < 0 then _ else newList (vs.take (vs.length - 0)) >>= fun d=>pure ([v0]++[d]++vs.drop (vs.length - 0))) _ _ _
  rw[if_neg (Nat.not_lt_zero _),Nat.sub_zero,List.take_length,atx]
  exact fin h₂ tk fun b o ne e=>hk b o ne (b1.extBut b o ne (Heap.get?_push_of_some _ e))
 ·refine wpAny_bind (wpAny_specialOf hl.typeIs slot_tuple_iter.lookup (wpAny_pure ?_))
  simp only[as9,if_false]
  refine wpAny_bind (wpAny_holding (iter_tuple hl ?_))
  refine wpAny_bind (wpAny_holding (draw_tuple hlt 1 0 _ _ ⟨_,Heap.get?_push_size _ rfl,rfl,rfl⟩ (hl.push _) (by rw[hsz];omega) fun h₁ i1 b1=>?_))
  have hl₁:IsTup h₁ l (v0::vs).toArray:=(hl.push _).extBut b1.extBut hlt
  obtain⟨oi,hoi,_⟩:=id i1
  obtain⟨ol,hol,_⟩:=id hl₁
  rw[ht]
  refine wpAny_bind (wpAny_holding (PySem.W.kun_collect (s:={ s with heap:=h₁ }) (T:="tuple_iterator") (.inr (.inr (.inr rfl))) (Walks.tuple (A:=A.in1) hh s.heap.objs.size l hlt (v0::vs).toArray) (fun j u st=>st.1.typeIs) (k:=1) (by rw[hsz];omega) ⟨i1,hl₁⟩ (Heap.lt_size hoi) (Heap.lt_size hol) (fun h₂ tk hk=>?_) hb))
  rw[hd]
  show wpAny _ _ (if vs.length < 0 then _ else newList (vs.take (vs.length - 0)) >>= fun d=>pure ([v0]++[d]++vs.drop (vs.length - 0))) _ _ _
  rw[if_neg (Nat.not_lt_zero _),Nat.sub_zero,List.take_length,atx]
  exact fin h₂ tk fun b o ne e=>hk b o ne (b1.extBut b o ne (Heap.get?_push_of_some _ e))
def agZ(K:asr)(i j:Nat):TG:=fun v σ H Q=>∃a v0 us,v=.ref a/\(SqL K H a (v0::us)∨SqT K H a (v0::us))/\us.length<=16000/\∀D,H D=none->Q ((σ.set i (some v0)).set j (some (.ref D))) (upd H D (.lst us))
def Uh(X:Cx)(j:Nat)(x:Str):Prop:=X.N[j]?=some x/\Loc X.env.scope x/\(X.fn x=true∨X.env.scope.names.lookup x=some .local)
theorem aiJ{X:Cx}{i j k:Nat}{x y:Str}{px py ps pos:Pos}(hc:X.calm=true)(hN:X.N.Nodup)(hx:Uh X i x)(hy:Uh X j y):PG X (.Tuple [.Name x px,.Starred (.Name y py) ps] k pos) (agZ X.K i j):=by
 refine⟨fun pins s σ H v u Q I r h=>?_⟩
 obtain⟨a,v0,us,rfl,hq,hz,q⟩:=h
 cases r
 have e1:assign (.Tuple [.Name x px,.Starred (.Name y py) ps] k pos) X.env (.ref a)=(do standAt pos;unpack (.ref a) (assignEach [.Name x px,.Starred (.Name y py) ps] X.env)):=by with_unfolding_all rfl
 have e2:assignEach [.Name x px,.Starred (.Name y py) ps] X.env=[(false,assign (.Name x px) X.env),(true,assign (.Name y py) X.env)]:=by with_unfolding_all rfl
 rw[e1,e2]
 refine wpAny_bind (wpAny_standAt ?_)
 unfold unpack
 obtain⟨w0,ws,hlw,rv0,rvs⟩:∃w0 ws,(s.heap.IsList a (w0::ws).toArray∨IsTup s.heap a (w0::ws).toArray)/\RelV v0 w0/\Vals us ws:=by
  rcases hq with hq|hq
  ·obtain⟨its,rv,p,_⟩:=I.list hq
   cases rv with
   |cons r t=>exact⟨_,_,.inl p.isList,r,t⟩
  ·obtain⟨its,rv,p,_⟩:=I.tuple hq
   cases rv with
   |cons r t=>exact⟨_,_,.inr p,r,t⟩
 refine wpAny_bind (wpAny_holding (amK (I.ok.hd hc) hlw (by rw[←rvs.length];exact hz) fun h₂ tk hk=>?_))
 have I2:L2.Inv X pins σ H { s with heap:=h₂,toks:=tk }:=I.kept (t':=tk) hk
 have I3:=I2.lnew (t':=tk) rvs (agy (by omega))
 refine assignInOrder_cons (wpAny_assign_Name (store_ok I3 hN hx.1 hx.2.1 rv0 (fun s4 I4=>?_) hx.2.2))
 refine assignInOrder_cons (wpAny_assign_Name (store_ok I4 hN hy.1 hy.2.1 (v:=.ref h₂.objs.size) rfl (fun s5 I5=>assignInOrder_nil ?_) hy.2.2))
 exact⟨_,_,I5,q _ I2.fresh⟩
section
variable{X:Cx}{aj:aU}{W:WX}{q:Bool}{e:Expr}{pos:Pos}
def Yh(i j:Nat)(f:GF):SF:=fun M ρ=>(f M ρ).then ρ fun d M'=>match d with
 |.list (d0::ds)=>if ds.length<=16000 then .next ((ρ.set i (some (.dat d0))).set j (some (.dat (.list ds)))) M' else .bad
 |.tuple (d0::ds)=>if ds.length<=16000 then .next ((ρ.set i (some (.dat d0))).set j (some (.dat (.list ds)))) M' else .bad
 |_=>.bad
theorem aiS{i j k:Nat}{x y:Str}{px py ps tp:Pos}{f:GF}(hc:X.calm=true)(hN:X.N.Nodup)(hx:Uh X i x)(hy:Uh X j y)(he:GE aj X W q e f)(hs:swapsWithSole [.Tuple [.Name x px,.Starred (.Name y py) ps] k tp] e pos.line X.env=pure false)(hw:swappedStores [.Tuple [.Name x px,.Starred (.Name y py) ps] k tp] e X.env=pure none) :
  SE aj X W q (.Assign [.Tuple [.Name x px,.Starred (.Name y py) ps] k tp] e pos) (Yh i j f):=by
 refine PS.weak (ps_asg he (aiJ hc hN hx hy) hs hw (by with_unfolding_all rfl)) fun D σ H ⟨g,ρ,M,I,z⟩=>?_
 refine tE.go I (dB (σ:=σ) z) fun d M' v H' g' kk r I' rv=>?_
 have fin:∀{a:Addr} {v0:V} {us:List V} {d0:Dat} {ds:List Dat},v=.ref a->(SqL X.K H' a (v0::us)∨SqT X.K H' a (v0::us))->Rep X.K g' H' v0 d0->aK X.K g' H' us ds->(if ds.length<=16000 then tV.next ((ρ.set i (some (.dat d0))).set j (some (.dat (.list ds)))) M' else .bad).sat (sN X.K aj q D.nx g H) (sR X.K aj q D.rt g H) (sN X.K aj q D.bk g H) (sN X.K aj q D.ct g H) (sX X.K aj W q g H)->agZ X.K i j v σ H' D.nx:=fun {a v0 us d0 ds} ev hq r0 rs kk=>by
  split at kk
  ·next hz=>
   refine⟨a,v0,us,ev,hq,by rw[rs.length];exact hz,fun p np=>?_⟩
   have e1:=Ex.new (o:=.lst us) np
   have I2:=I'.ex e1
   refine kk _ _ g' (r.trans (Gr.ex e1)) ((I2.set (r0.ex e1 I'.kd)).set (.lst (.inl ⟨.inl upd_same,I'.kd.fresh np⟩) (rs.ex e1 I'.kd)))
  ·exact False.elim kk
 split at kk
 ·obtain⟨a,us,ev,s1,t1⟩:=ji rv.weak
  cases t1 with
  |cons r0 rs=>exact fin ev (.inl s1) r0 rs kk
 ·obtain⟨a,us,ev,s1,t1⟩:=lN rv.weak
  cases t1 with
  |cons r0 rs=>exact fin ev (.inr s1) r0 rs kk
 ·exact False.elim kk
def Ro(i j:Nat)(f:GF):SF:=fun M ρ=>(f M ρ).then ρ fun d M'=>.next ((ρ.set i (some (.dat d))).set j (some (.dat d))) M'
theorem ahS{i j:Nat}{x y:Str}{px py:Pos}{f:GF}(hN:X.N.Nodup)(hx:Uh X i x)(hy:Uh X j y)(he:GE aj X W q e f)(hw:swappedStores [.Name x px,.Name y py] e X.env=pure none):SE aj X W q (.Assign [.Name x px,.Name y py] e pos) (Ro i j f):=by
 refine PS.weak (ps_asg2 he (pg_name hN hx.1 hx.2.1 hx.2.2) (pg_name hN hy.1 hy.2.1 hy.2.2) (by with_unfolding_all rfl) hw) fun D σ H ⟨g,ρ,M,I,z⟩=>?_
 exact tE.go I (dB (σ:=σ) z) fun d M' v H' g' kk r I' rv=>kk _ H' g' r ((I'.set rv).set rv)
theorem Tf{pins:List (Addr×Obj)}{H:Hp}{Q:Unit->Shared->Prop}(hN:X.N.Nodup):∀{xs:List Str} {js:List Nat} {vs:List V} {us:List Value} {σ:L2.St} {s:Shared},xs.length=js.length->Vals vs us->us.length=js.length->(∀(n:Nat) (x:Str) (j:Nat),xs[n]?=some x->js[n]?=some j->X.N[j]?=some x/\X.env.scope.names.lookup x=some .local)->L2.Inv X pins σ H s->
  (∀s',L2.Inv X pins (sets σ js vs) H s'->Q () s')->wpAny (model X.prog X.w) X.A (assignInOrder (xs.map fun n=>bindName X.env n) us) Q X.xe s
 |[],[],_,[],σ,s,_,.nil,_,_,I,h=>assignInOrder_nil (h s I)
 |[],[],_,_::_,_,_,_,_,e,_,_,_=>nomatch e
 |[],_::_,_,_,_,_,e,_,_,_,_,_=>nomatch e
 |_::_,[],_,_,_,_,e,_,_,_,_,_=>nomatch e
 |x::xs,j::js,_,[],_,_,_,.nil,e,_,_,_=>nomatch e
 |x::xs,j::js,_,_::_,σ,s,e1,.cons r t,e2,hn,I,h=>by
  obtain⟨h1,h2⟩:=hn 0 x j rfl rfl
  refine assignInOrder_cons (wpAny_bindName (store_ok I hN h1 (.inl h2) r (fun s2 I2=>?_) (.inr h2)))
  exact Tf hN (ato e1) t (ato e2) (fun n x j a b=>hn (n+1) x j a b) I2 h
theorem aa0(σ:L2.St):∀(js:List Nat) (vs:List V) (ks:List Nat) (ws:List V),js.length=vs.length->sets σ (js++ks) (vs++ws)=sets (sets σ js vs) ks ws:=by
 intro js
 induction js generalizing σ with
 |nil=>
  intro vs ks ws e
  cases vs with
  |nil=>rfl
  |cons v vs=>cases e
 |cons j js ih=>
  intro vs ks ws e
  cases vs with
  |nil=>cases e
  |cons v vs=>exact ih (σ.set j (some v)) vs ks ws (ato e)
theorem WT(j:Nat)(v:V):∀(js:List Nat) (vs:List V) (σ:L2.St),j∉js->(sets σ js vs).set j (some v)=sets (σ.set j (some v)) js vs
 |[],_,_,_=>by unfold sets;rfl
 |_::_,[],_,_=>by unfold sets;rfl
 |k::js,w::vs,σ,h=>by
  show(sets (σ.set k (some w)) js vs).set j (some v)=sets ((σ.set j (some v)).set k (some w)) js vs
  rw[WT j v js vs _ fun z=>h (asy _ z),List.set_comm _ _ (fun z=>h (by rw[z];exact asz))]
theorem aai:∀(js:List Nat) (vs:List V) (σ:L2.St),js.Nodup->js.length=vs.length->sets σ js.reverse vs.reverse=sets σ js vs
 |[],[],_,_,_=>rfl
 |[],_::_,_,_,e=>nomatch e
 |_::_,[],_,_,e=>nomatch e
 |j::js,v::vs,σ,nd,e=>by
  rw[atu]at nd
  rw[atG,atG,aa0 _ _ _ _ _ (by rw[atn,atn];exact ato e),aai js vs σ nd.2 (ato e)]
  show(sets σ js vs).set j (some v)=sets (σ.set j (some v)) js vs
  exact WT j v js vs σ nd.1
theorem vals_rev{vs:List V}{us:List Value}(r:Vals vs us):Vals vs.reverse us.reverse:=by
 induction r with
 |nil=>exact .nil
 |cons h t ih=>
  rw[atG,atG]
  exact Vals.append ih (.cons h .nil)
def tPN(js:List Nat)(ta:TA):TS:=fun D σ H=>ta σ H fun vs H1=>vs.length=js.length/\D.nx (sets σ js vs) H1
theorem anm{ts es:List Expr}{xs:List Str}{js:List Nat}{ta:TA}{kt k2:Nat}{pt p2:Pos}(hc:X.calm=true)(hN:X.N.Nodup)(hnd:js.Nodup)(hl:xs.length=js.length)(h3:js.length<=3)(hn:∀(n:Nat) (x:Str) (j:Nat),xs[n]?=some x->js[n]?=some j->X.N[j]?=some x/\X.env.scope.names.lookup x=some .local)(ha:PA X es ta)
  (hw:swappedStores [.Tuple ts kt pt] (.Tuple es k2 p2) X.env=pure (some xs)) (hs:swapsWithSole [.Tuple ts kt pt] (.Tuple es k2 p2) pos.line X.env=pure false):PS X (.Assign [.Tuple ts kt pt] (.Tuple es k2 p2) pos) (tPN js ta):=by
 refine⟨fun pins s σ H D I h=>?_⟩
 rw[exec_Assign_arm]
 refine wpAny_bind (wpAny_standAt ?_)
 rw[hs]
 refine wpAny_bind (wpAny_pure ?_)
 rw[if_neg (by decide)]
 refine wpAny_bind (Tuple_ (thn (ha.run _ pins s σ H _ I h) fun us s1 ⟨vs,H1,I1,r1,e1,q1⟩=>?_))
 have hu:us.length=js.length:=by
  rw[←r1.length]
  exact e1
 refine wpAny_newObj_type ?_ (as5 (by simp;omega) (show 3<=sizeLine by decide))
 have I2:L2.Inv X pins σ H1 { s1 with heap:=s1.heap.push { cls:=.type "tuple",data:=.seq us.toArray } }:=I1.kept (t':=s1.toks) fun b o z=>Heap.get?_push_of_some _ z
 rw[hw]
 refine wpAny_bind (wpAny_pure ?_)
 show wpAny (model X.prog X.w) X.A (do rule "assign.swapped-stores";let items ←unpackItems (.ref s1.heap.objs.size) xs.length none;assignInOrder (xs.reverse.map fun n=>bindName X.env n) items.reverse;pure Flow.next) _ _ _
 have hz:us.toArray.size=xs.length:=by
  rw[atQ,hu,hl]
 have hup:=fun {Q:List Value->Shared->Prop} hQ=>unpackItems_tuple (prog:=X.prog) (w:=X.w) (A:=X.A) (E:=X.xe) (s:={ s1 with heap:=s1.heap.push { cls:=.type "tuple",data:=.seq us.toArray } }) (items:=us.toArray) (Q:=Q) (I.ok.hd hc) (IsTup.new s1.heap _) hQ
 rw[hz]at hup
 refine wpAny_bind (wpAny_rule (wpAny_bind (hup fun h' hx'=>?_)))
 have I3:=I2.kept (h':=h') (t':=s1.toks) fun b o z=>hx' b o (ata (Heap.lt_size z)) z
 refine wpAny_bind (Tf hN (js:=js.reverse) (vs:=vs.reverse) (by rw[atn,atn];exact hl) (vals_rev r1) (by rw[atn,atn];exact hu) (fun n x j a b=>?_) I3 fun s4 I4=>wpAny_pure ?_)
 ·have n1:=(asv.mp a).1
  have n2:=(asv.mp b).1
  rw[atn]at n1 n2
  rw[List.getElem?_reverse n1]at a
  rw[List.getElem?_reverse n2,←hl]at b
  exact hn _ x j a b
 ·rw[aai js vs σ hnd e1.symm]at I4
  exact⟨_,H1,I4,q1⟩
def sPN(js:List Nat)(as:QA):SF:=fun M ρ=>((as M ρ).at M).then ρ fun ds M'=>match rB js ds ρ with
 |some ρ'=>.next ρ' M'
 |none=>.bad
theorem amr{ts es:List Expr}{xs:List Str}{js:List Nat}{as:QA}{kt k2:Nat}{pt p2:Pos}(hc:X.calm=true)(hN:X.N.Nodup)(hnd:js.Nodup)(hl:xs.length=js.length)(h3:js.length<=3)(hn:∀(n:Nat) (x:Str) (j:Nat),xs[n]?=some x->js[n]?=some j->X.N[j]?=some x/\X.env.scope.names.lookup x=some .local)(ha:Fd aj X W es as)
  (hw:swappedStores [.Tuple ts kt pt] (.Tuple es k2 p2) X.env=pure (some xs)) (hs:swapsWithSole [.Tuple ts kt pt] (.Tuple es k2 p2) pos.line X.env=pure false):SE aj X W q (.Assign [.Tuple ts kt pt] (.Tuple es k2 p2) pos) (sPN js as):=by
 refine PS.weak (anm hc hN hnd hl h3 hn ha hw hs) fun D σ H ⟨g,ρ,M,I,z⟩=>?_
 refine⟨g,ρ,M,I,?_⟩
 unfold sPN at z
 cases hf:as M ρ with
 |exc x=>rw[hf]at z;exact fun H' c dd e r=>z σ H' g c dd (Gr.ex e) (I.ex e) r.fr
 |bad=>rw[hf]at z;exact False.elim z
 |ok ds=>
  rw[hf]at z
  intro vs H' e r
  have z:(match rB js ds ρ with
   |some ρ'=>tV.next ρ' M
   |none=>.bad).sat (sN X.K aj q D.nx g H) (sR X.K aj q D.rt g H) (sN X.K aj q D.bk g H) (sN X.K aj q D.ct g H) (sX X.K aj W q g H):=z
  split at z
  ·next ρ' e'=>
   obtain⟨l1,I1⟩:=Jv (I.ex e) r e'
   exact⟨l1,z _ H' g (Gr.ex e) I1⟩
  ·exact False.elim z
theorem alG{j:Nat}{y:Str}{py:Pos}{elt tg iter:Expr}{cpos:Pos}{scope:Scope}{own:List (Str×Nat)}{it:IF}{tgf:fV}{js:List Nat}{tt:QT}{te:QF}{ifs:List Expr}(hc:X.calm=true)(hN:X.N.Nodup)(hy:X.N[j]?=some y)(hyl:X.env.scope.names.lookup y=some .local)
  (hsw:swapsWith (.ListComp elt [⟨tg,iter,ifs,0⟩] scope cpos) (some (.Name y py)) pos.line X.env=pure true) (hi:QI aj X W false tg iter it) (ok:blkC X.N X.env.scope scope own=true) (hj:∀j∈js,j∈own.map (·.2))
  (hg:∀(s:Shared) (H:Hp) (C:Addr) (cl:List (Str×Addr)) (fp:List Addr),QG aj (X.blk s H scope (compEnvC scope cl C X.env) fp) tg js tgf)
  (ht:∀(s:Shared) (H:Hp) (C:Addr) (cl:List (Str×Addr)) (fp:List Addr),PTs (X.blk s H scope (compEnvC scope cl C X.env) fp) ifs (kJ X.K aj WF tt))
  (he:∀(s:Shared) (H:Hp) (C:Addr) (cl:List (Str×Addr)) (fp:List Addr),QE aj (X.blk s H scope (compEnvC scope cl C X.env) fp) WF elt te) (hs:∀x,foldedSetIterable iter X.env x=pure x) :
  SE aj X W q (.Assign [.Name y py] (.ListComp elt [⟨tg,iter,ifs,0⟩] scope cpos) pos) (aV (aF j) (gOf (eO it tgf (own.map (·.2)) tt te))):=by
 refine PS.weak (ps_setLc (g:=Ac X.K aj js tgf) (tt:=kJ X.K aj WF tt) (te:=tQ X.K aj WF te) hc hN hy hyl hsw hi (blkOk_by ok) (fun s H C cl fp=>hg s H C cl fp) ht (fun s H C cl fp=>he s H C cl fp) hs) fun D σ H ⟨g,ρ,M,I,z⟩=>?_
 refine agU hj σ H _ ⟨g,ρ,M,I,(Out.jf (dB (σ:=σ) z)).mono (fun d kk v H' e r=>?_) fun x kk H' c dd e r=>kk H' g c dd (Gr.ex e) (I.ex e) r⟩
 exact kk _ H' g (Gr.ex e) ((I.ex e).set r)
end
inductive GV where
 |con (d:Dat)
 |fq (n:Nat) (m:Mo->List Dat->Out Dat)
 |fg (n:Nat) (m:Mo->List Dat->bx Dat)
 |dic (kvs:List (Str×Dat))
 |exc
 |exi (fs:List Str)
 |cls (n:Nat) (m:Mo->List Dat->bx Dat)
inductive MV where
 |q (n:Nat) (m:Mo->List Dat->Out Dat)
 |g (n:Nat) (m:Mo->List Dat->bx Dat)
def FQ(P:Program)(w:World)(K:asr)(mg:Str->Option Value)(base:Heap)(aj:aU)(k:Nat)(f:Addr)(n:Nat)(m:Mo->List Dat->Out Dat):Prop:=
 ∃(fd:FuncData) (ps:List Str) (j:Nat),j<=k/\ps.length=n/\Binds K fd ps []/\FnOk P w K mg base (L2.CX P w) j f fd ps (V1 K aj ps.length m)
def FG(P:Program)(w:World)(K:asr)(mg:Str->Option Value)(base:Heap)(aj:aU)(k:Nat)(f:Addr)(n:Nat)(m:Mo->List Dat->bx Dat):Prop:=
 ∃(fd:FuncData) (ps:List Str) (j:Nat),j<=k/\ps.length=n/\Binds K fd ps []/\FnOk P w K mg base (L2.CX P w) j f fd ps (JV K aj ps.length m)
def jH(K:asr)(aj:aU):Prop:=∀c C f,aj c=some C->f∈aj.fl c->Cls K C/\NoAttr K C f
def bY(P:Program)(w:World)(K:asr)(mg:Str->Option Value)(base:Heap)(aj:aU)(k:Nat)(c m:Str)(v:MV):Prop:=
 ∃C f,aj c=some C/\Cls K C/\Meth K C m f/\m∉aj.fl c/\match v with
  |.q n mm=>FQ P w K mg base aj k f n mm
  |.g n mm=>FG P w K mg base aj k f n mm
def af6(C:Addr)(fs:List Str):Sp:=fun vs H Q _=>∃(a:Addr) (xs:List V),vs=.ref a::xs/\xs.length=fs.length/\H a=some (exo a C none)/\
 ∀(dx:Addr) (H':Hp),H dx=none->(∀b o,b≠a->H b=some o->H' b=some o)->(∀b,H' b=none->H b=none)->H' a=some (exo a C (some dx))->H' dx=some (exd dx (fs.zip xs).reverse)->Q .non H'
def ac5(w:World)(K:asr)(a:Addr)(kvs:List (Str×Dat)):Prop:=∃(es:Array DictEntry) (n:Nat),KDict K w a es n/\(kvs.map (·.1)).Nodup/\
 ∀x:Str,match kvs.lookup x with
  |some d=>∃v u,PySem.W.nsIn K a x=some (some u)/\RelV v u/\∀g H,Rep K g H v d
  |none=>PySem.W.nsIn K a x=some none
def aZ(P:Program)(w:World)(K:asr)(mg:Str->Option Value)(base:Heap)(aj:aU)(k:Nat)(x:Str):GV->Prop
 |.con d=>∃v u,mg x=some u/\RelV v u/\∀g H,Rep K g H v d
 |.fq n m=>∃f,mg x=some (.ref f)/\PySem.W.keepIn K (.ref f)=true/\FQ P w K mg base aj k f n m
 |.fg n m=>∃f,mg x=some (.ref f)/\PySem.W.keepIn K (.ref f)=true/\FG P w K mg base aj k f n m
 |.dic kvs=>∃a,mg x=some (.ref a)/\ac5 w K a kvs
 |.exc=>∃C,mg x=some (.ref C)/\aj x=some C/\PySem.W.excIn K C He.veBase "ValueError.__new__"=true/\PySem.W.keepIn K (.ref C)=true/\PySem.W.subIn K (.ref C) (.type "BaseException")=some true/\PySem.W.typeIn K (.ref C)=some (.type "type")
 |.exi fs=>∃(C fI:Addr) (fd:FuncData) (ps:List Str),mg x=some (.ref C)/\aj x=some C/\OexC K C/\PySem.W.findIn K (.ref C) "__init__"=some (some (.ref fI))/\PySem.W.typeIn K (.ref fI)=some (.type "function")/\2<=k/\ps.length=fs.length+1/\Binds K fd ps []/\FnOk P w K mg base CX0 1 fI fd ps (af6 C fs)
 |.cls n m=>∃(C f:Addr) (fd:FuncData) (ps:List Str) (j:Nat),mg x=some (.ref C)/\aj x=some C/\Cls K C/\Mk K C f/\j+1<=k/\ps.length=n+1/\Binds K fd ps []/\FnOk P w K mg base (L2.CX P w) j f fd ps (JV K aj ps.length m)
def acK(K:asr)(aj:aU)(y:Str)(tk:Str->Option Bool):Prop:=∀x b C,tk x=some b->aj x=some C->∀D,aj y=some D->PySem.W.exmOne K (.ref C) (.ref D)=some b
def putL(f:Str)(x:jd):List (Str×jd)->List (Str×jd)
 |[]=>[(f,x)]
 |(g,y)::r=>if g=f then(g,x)::r else(g,y)::putL f x r
def Inst.put(i:Inst)(f:Str)(x:jd):Inst:=⟨i.cls,putL f x i.fs⟩
theorem Jo(f:Str)(x:jd):∀gs:List (Str×jd),(putL f x gs).map (·.1)=if f∈gs.map (·.1) then gs.map (·.1) else gs.map (·.1)++[f]
 |[]=>by simp[putL]
 |(g,y)::r=>by
  have ih:=Jo f x r
  rw[putL]
  by_cases e:g=f
  ·subst e
   simp
  ·rw[if_neg e,asx,ih]
   by_cases h:f∈r.map (·.1)
   ·rw[if_pos h,if_pos (by simp[h])]
    rfl
   ·rw[if_neg h,if_neg (by
     rw[asx,asN]
     rintro(z|z)
     ·exact e z.symm
     ·exact h z)]
    rfl
theorem acC{f:Str}{x:jd}{gs:List (Str×jd)}(h:(gs.map (·.1)).Nodup):((putL f x gs).map (·.1)).Nodup:=by
 rw[Jo]
 split
 ·exact h
 ·next n=>
  rw[atl]
  refine⟨h,by simp,fun a ha b hb e=>?_⟩
  subst e
  rw[asB]at hb
  subst hb
  exact n ha
theorem Mq{f:Str}{v:V}:∀{fs:List (Str×V)},fs.lookup f=some v->putF f v fs=fs
 |[],h=>nomatch h
 |(g,y)::r,h=>by
  rw[as6]at h
  rw[show putF f v ((g,y)::r)=(if g=f then(g,v)::r else(g,y)::putF f v r) from rfl]
  by_cases e:g=f
  ·subst e
   simp at h
   rw[if_pos rfl,h]
  ·have ne:(f==g)=false:=by simpa using fun z=>e z.symm
   rw[ne]at h
   rw[if_neg e,Mq h]
section
variable{K:asr}{aj:aU}{W:WX}{g g':Gh}{H H':Hp}{σ:L2.St}{ρ:Env}{M:Mo}{h:Nat}{f:Str}{v:V}{fl:jd}
theorem cP.put(hk:∀f' v' fl',f'≠f->dU K aj g H h f' v' fl'->dU K aj g' H' h f' v' fl')(new:dU K aj g' H' h f v fl):∀{fs:List (Str×V)} {gs:List (Str×jd)},cP K aj g H h fs gs->(gs.map (·.1)).Nodup->cP K aj g' H' h (putF f v fs) (putL f fl gs)
 |_,_,.nil,_=>.cons new .nil
 |_,_,.cons (f:=f') (v:=v') (fl:=fl') (fs:=fs) (gs:=gs) z t,nd=>by
  rw[show putF f v ((f',v')::fs)=(if f'=f then(f',v)::fs else(f',v')::putF f v fs) from rfl,putL]
  rw[asx,atu]at nd
  by_cases e:f'=f
  ·subst e
   rw[if_pos rfl,if_pos rfl]
   refine .cons new ?_
   have go:∀{fs:List (Str×V)} {gs:List (Str×jd)},cP K aj g H h fs gs->f'∉gs.map (·.1)->cP K aj g' H' h fs gs:=fun {fs gs} t=>by
    induction t with
    |nil=>exact fun _=>.nil
    |cons z _ ih=>
     intro n
     rw[asx,asN,not_or]at n
     exact .cons (hk _ _ _ (fun q=>n.1 q.symm) z) (ih n.2)
   exact go t nd.1
  ·rw[if_neg e,if_neg e]
   exact .cons (hk _ _ _ e z) (cP.put hk new t nd.2)
structure Chg(M:Mo)(g g':Gh)(H H':Hp)(h:Nat)(f:Str):Prop where
 gc:Gc g g' H H'
 kd:Kd g' H'
 tbl:g'.tbl=g.tbl
 ow:∀a p,g.ow a=some p->g'.ow a=some p
 oth:∀a p,g.ow a=some p->p≠(h,f)->H' a=H a
 ins:∀(k:Nat) (a:Addr) (i:Inst),g.tbl[k]?=some a->M[k]?=some i->i.cls≠""->k≠h->H' a=H a
 nt:∀(k:Nat) (a:Addr) (i:Inst),g.tbl[k]?=some a->M[k]?=some i->i.cls≠""->∀p,g'.ow a≠some p
theorem jF.chg{l:Addr}(r:Gr false g g' H H')(k:Kd g H)(e:H' l=H l):∀{n:Bool} {kvs:List (Dat×Dat)},jF K aj g H l n kvs->jF K aj g' H' l n kvs
 |false,_,⟨kv,h1,h2,h3⟩=>⟨kv,e.trans h1,h2,h3.gr r k⟩
 |true,_,⟨o,xs,vs,h1,h2,h3,h4,h5,h6⟩=>⟨o,xs,vs,e.trans h1,h2,h3,h4.gr r k,h5,h6.gr r k⟩
theorem dU.chg(c:Chg M g g' H H' h f)(k:Kd g H){h':Nat}{f':Str}{v':V}(ne:(h',f')≠(h,f)):∀{fl':jd},dU K aj g H h' f' v' fl'->dU K aj g' H' h' f' v' fl'
 |.dat _,z=>Rep.gr c.gc.gr k z
 |.lst _ _,⟨l,us,h1,h2,h3,h4,h5⟩=>⟨l,us,h1,(c.oth l _ h3 ne).trans h2,c.ow l _ h3,h4.gr c.gc.gr k,c.gc.gr.tb h5⟩
 |.dic _ _,⟨l,h1,h2,h3⟩=>⟨l,h1,c.ow l _ h2,h3.chg c.gc.gr k (c.oth l _ h2 ne)⟩
theorem fZ.chg(w:fZ K aj g H M)(k:Kd g H)(c:Chg M g g' H H' h f){a:Addr}{i:Inst}(ha:g.tbl[h]?=some a)(hi:M[h]?=some i)(hne:i.cls≠"")(hf:f∈aj.fl i.cls){C dx:Addr}{fs:List (Str×V)}(hC:aj i.cls=some C)(R:cP K aj g H h fs i.fs)
  (e':H' a=some (.ins C dx (putF f v fs))) (new:dU K aj g' H' h f v fl):fZ K aj g' H' (M.set h (i.put f fl)) where
 len:=by rw[c.tbl,asZ];exact w.len
 inj:=by rw[c.tbl];exact w.inj
 ins:=fun h' a' i' ha' hi' hc'=>by
  rw[c.tbl]at ha'
  by_cases z:h'=h
  ·subst z
   rw[ha]at ha'
   cases ha'
   rw[asS (asv.mp hi).1]at hi'
   cases hi'
   exact⟨C,dx,_,hC,e',R.put (fun f' v' fl' ne z=>z.chg c k fun q=>ne (congrArg Prod.snd q)) new (w.nd _ i hi)⟩
  ·rw[asF (Ne.symm z)]at hi'
   obtain⟨C',dx',fs',c1,c2,c3⟩:=w.ins h' a' i' ha' hi' hc'
   refine⟨C',dx',fs',c1,(c.ins h' a' i' ha' hi' hc' z).trans c2,?_⟩
   have go:∀{fs:List (Str×V)} {gs:List (Str×jd)},cP K aj g H h' fs gs->cP K aj g' H' h' fs gs:=fun {fs gs} t=>by
    induction t with
    |nil=>exact .nil
    |cons y _ ih=>exact .cons (y.chg c k fun q=>z (congrArg Prod.fst q)) ih
   exact go c3
 nd:=fun h' i' hi'=>by
  by_cases z:h'=h
  ·subst z
   rw[asS (asv.mp hi).1]at hi'
   cases hi'
   exact acC (w.nd _ i hi)
  ·rw[asF (Ne.symm z)]at hi'
   exact w.nd h' i' hi'
 fd:=fun h' i' hi' f' hf'=>by
  by_cases z:h'=h
  ·subst z
   rw[asS (asv.mp hi).1]at hi'
   cases hi'
   have hf':f'∈(putL f fl i.fs).map (·.1):=hf'
   rw[Jo]at hf'
   split at hf'
   ·exact w.fd _ i hi f' hf'
   ·rcases asO.mp hf' with y|y
    ·exact w.fd _ i hi f' y
    ·rw[asB]at y
     rw[y]
     exact hf
  ·rw[asF (Ne.symm z)]at hi'
   exact w.fd h' i' hi' f' hf'
 tw:=fun k' a' i' ha' hi' hc'=>by
  rw[c.tbl]at ha'
  have:∃i0,M[k']?=some i0/\i0.cls≠"":=by
   by_cases z:k'=h
   ·subst z
    exact⟨i,hi,hne⟩
   ·rw[asF (Ne.symm z)]at hi'
    exact⟨i',hi',hc'⟩
  obtain⟨i0,m1,m2⟩:=this
  cases hz:g'.ow a' with
  |none=>rfl
  |some p=>exact absurd hz (c.nt k' a' i0 ha' m1 m2 p)
 dm:=fun h' i' hi' hc'=>by
  by_cases z:h'=h
  ·subst z
   rw[asS (asv.mp hi).1]at hi'
   cases hi'
   exact absurd hc' hne
  ·rw[asF (Ne.symm z)]at hi'
   exact w.dm h' i' hi' hc'
 nc:=w.nc
theorem amW{a:Addr}(ha:g.tbl[h]?=some a):g.W a:=.inl (asC ha)
theorem Ux(k:Kd g H)(w:fZ K aj g H M){a:Addr}{i:Inst}(ha:g.tbl[h]?=some a)(hi:M[h]?=some i)(hc:i.cls≠""){C dx:Addr}{fs':List (Str×V)}:Chg M g g H (upd H a (.ins C dx fs')) h f where
 gc:=⟨fun b o hb n=>by rw[upd_ne (fun z=>by subst z;exact n (amW ha))];exact hb,fun b hb=>by
  by_cases z:b=a
  ·subst z
   rw[upd_same]at hb
   cases hb
  ·rw[upd_ne z]at hb
   exact hb,⟨[],by simp⟩,fun _ z=>z,fun _ z=>.inl z,rfl,rfl⟩
 kd:=k.upd trivial
 tbl:=rfl
 ow:=fun _ _ z=>z
 oth:=fun b p hb _=>upd_ne fun z=>by
  subst z
  rw[w.tw h _ i ha hi hc]at hb
  cases hb
 ins:=fun j b i' hb _ _ ne=>upd_ne fun z=>by
  subst z
  exact ne (w.inj _ _ _ hb ha)
 nt:=fun j b i' hb hj hcj p z=>by
  rw[w.tw j b i' hb hj hcj]at z
  cases z
def Gh.own(g:Gh)(l:Addr)(h:Nat)(f:Str):Gh:={ g with ow:=fun b=>if b=l then some (h,f) else g.ow b }
theorem amf{l a:Addr}(hl:l∈g.tbl):(g.own l h f).W a↔g.W a:=by
 constructor
 ·rintro(z|z)
  ·exact .inl z
  ·by_cases y:a=l
   ·subst y
    exact .inl hl
   ·have z:(if a=l then some (h,f) else g.ow a)≠none:=z
    rw[if_neg y]at z
    exact .inr z
 ·rintro(z|z)
  ·exact .inl z
  ·refine .inr ?_
   show(if a=l then some (h,f) else g.ow a)≠none
   split
   ·exact fun q=>nomatch q
   ·exact z
theorem Uz(k:Kd g H)(w:fZ K aj g H M){a l:Addr}{n:Nat}{i:Inst}(ha:g.tbl[h]?=some a)(hi:M[h]?=some i)(hc:i.cls≠"")(hl:g.tbl[n]?=some l)(hn:M[n]?=some ⟨"",[]⟩)(nl:g.ow l=none){C dx:Addr}{fs':List (Str×V)}:Chg M g (g.own l h f) H (upd H a (.ins C dx fs')) h f:=by
 have W':∀{b:Addr},(g.own l h f).W b↔g.W b:=fun {b}=>amf (asC hl)
 have d:=Ux (f:=f) (C:=C) (dx:=dx) (fs':=fs') k w ha hi hc
 refine⟨⟨d.gc.keep,d.gc.dom,⟨[],by simp[Gh.own]⟩,fun b z=>W'.mpr z,fun b z=>.inl (W'.mp z),rfl,rfl⟩,⟨fun b z=>d.kd.ob b ?_,fun b z y=>d.kd.lo b z (W'.mp y),fun b z=>⟨fun y=>(d.kd.lc b z).1 (W'.mp y),(d.kd.lc b z).2⟩⟩,rfl,fun b p z=>?_,d.oth,d.ins,fun j b i' hb hj hcj p z=>?_⟩
 ·rcases z with z|z|z
  ·exact .inl (W'.mp z)
  ·exact .inr (.inl z)
  ·exact .inr (.inr z)
 ·show(if b=l then some (h,f) else g.ow b)=some p
  rw[if_neg (fun y=>by subst y;rw[nl]at z;cases z)]
  exact z
 ·have z:(if b=l then some (h,f) else g.ow b)=some p:=z
  by_cases y:b=l
  ·subst y
   cases w.inj _ _ _ hb hl
   rw[hn]at hj
   cases hj
   exact hcj rfl
  ·rw[if_neg y,w.tw j b i' hb hj hcj]at z
   cases z
theorem aft(k:Kd g H)(w:fZ K aj g H M){l:Addr}{o':HO}(ho:g.ow l=some (h,f))(mo:Ir o'):Chg M g g H (upd H l o') h f where
 gc:=⟨fun b u hb n=>by rw[upd_ne (fun z=>by subst z;exact n (.inr (by rw[ho];exact fun y=>nomatch y)))];exact hb,fun b hb=>by
  by_cases z:b=l
  ·subst z
   rw[upd_same]at hb
   cases hb
  ·rw[upd_ne z]at hb
   exact hb,⟨[],by simp⟩,fun _ z=>z,fun _ z=>.inl z,rfl,rfl⟩
 kd:=k.upd mo
 tbl:=rfl
 ow:=fun _ _ z=>z
 oth:=fun b p hb ne=>upd_ne fun z=>by
  subst z
  rw[ho]at hb
  exact ne (asW hb).symm
 ins:=fun j b i' hb hj hcj ne=>upd_ne fun z=>by
  subst z
  rw[w.tw j _ i' hb hj hcj]at ho
  cases ho
 nt:=fun j b i' hb hj hcj p z=>by
  rw[w.tw j b i' hb hj hcj]at z
  cases z
theorem cP.len{fs:List (Str×V)}{gs:List (Str×jd)}(t:cP K aj g H h fs gs):fs.length=gs.length:=by
 induction t with
 |nil=>rfl
 |cons _ _ ih=>simp[ih]
end
def KH(M:Mo)(f:Str):Dat->Option jd
 |.dict [(.none,.int (.ofNat h))]=>(M[h]?).bind fun i=>i.fs.lookup f
 |_=>none
def gQ(f:Str)(o:QF):QF:=fun M ρ=>(o M ρ).bind fun d=>match KH M f d with
 |some (.dat x)=>.ok x
 |_=>.bad
def bL(f:Str)(o:QF):QF:=fun M ρ=>(o M ρ).bind fun d=>match KH M f d with
 |some (.dat x)=>.ok x
 |some (.lst _ xs)=>.ok (.list xs)
 |_=>.bad
theorem adP{M:Mo}{f:Str}{d:Dat}{fl:jd}(h:KH M f d=some fl):∃n i,d=obj n/\M[n]?=some i/\i.fs.lookup f=some fl:=by
 unfold KH at h
 split at h
 ·next n=>
  obtain⟨i,h1,h2⟩:=asq.mp h
  exact⟨n,i,rfl,h1,h2⟩
 ·cases h
theorem lookup_mem{f:Str}{fl:jd}:∀{gs:List (Str×jd)},gs.lookup f=some fl->f∈gs.map (·.1)
 |[],h=>nomatch h
 |(g,y)::r,h=>by
  rw[as6]at h
  cases hb:f==g with
  |true=>rw[eq_of_beq hb];simp
  |false=>
   rw[hb]at h
   exact asy _ (lookup_mem h)
section
variable{K:asr}{aj:aU}{g:Gh}{H:Hp}{M:Mo}
theorem ZP(co:jH K aj)(w:fZ K aj g H M){f:Str}{d:Dat}{fl:jd}{v:V}(h:KH M f d=some fl)(r:eE K g H v d):∃n i a C dx fs u,d=obj n/\M[n]?=some i/\i.fs.lookup f=some fl/\g.tbl[n]?=some a/\v=.ref a/\aj i.cls=some C/\H a=some (.ins C dx fs)/\cP K aj g H n fs i.fs/\Cls K C/\NoAttr K C f/\fs.lookup f=some u/\dU K aj g H n f u fl:=by
 obtain⟨n,i,rfl,h1,h2⟩:=adP h
 obtain⟨a,rfl,ha⟩:=Kr r
 have hc:i.cls≠"":=fun z=>by
  rw[w.dm n i h1 z]at h2
  cases h2
 obtain⟨C,dx,fs,c1,c2,c3⟩:=w.ins n a i ha h1 hc
 obtain⟨u,l1,l2⟩:=c3.get h2
 obtain⟨k1,k2⟩:=co i.cls C f c1 (w.fd n i h1 f (lookup_mem h2))
 exact⟨n,i,a,C,dx,fs,u,rfl,h1,h2,ha,rfl,c1,c2,c3,k1,k2,l1,l2⟩
end
section
variable{X:Cx}{aj:aU}{W:WX}{o e:Expr}{es:List Expr}{fo:QF}{f m:Str}{pos apos:Pos}
theorem alF(co:jH X.K aj)(ho:QW aj X W o fo)(hb:baseOk o=true):QE aj X W (.Attribute o f pos) (gQ f fo):=
 PE.weak (pe_fld ho (mH hb)) fun σ H Q ⟨g,ρ,M,I,h⟩=>by
  refine tW.go I h.bnd fun d v H1 h1 e1 r1=>?_
  split at h1
  ·next x hx=>
   obtain⟨n,i,a,C,dx,fs,u,_,_,_,_,rfl,_,c2,_,k1,k2,l1,l2⟩:=ZP co (I.ex e1).wok hx r1
   exact⟨a,C,dx,fs,u,rfl,c2,k1,k2,l1,h1 u H1 e1 l2⟩
  ·exact False.elim h1
theorem aln(co:jH X.K aj)(ho:QW aj X W o fo)(hb:baseOk o=true):QW aj X W (.Attribute o f pos) (bL f fo):=
 PE.weak (pe_fld ho (mH hb)) fun σ H Q ⟨g,ρ,M,I,h⟩=>by
  refine tW.go I h.bnd fun d v H1 h1 e1 r1=>?_
  split at h1
  ·next x hx=>
   obtain⟨n,i,a,C,dx,fs,u,_,_,_,_,rfl,_,c2,_,k1,k2,l1,l2⟩:=ZP co (I.ex e1).wok hx r1
   exact⟨a,C,dx,fs,u,rfl,c2,k1,k2,l1,h1 u H1 e1 (Rep.weak l2)⟩
  ·next xs hx=>
   obtain⟨n,i,a,C,dx,fs,u,_,_,_,_,rfl,_,c2,_,k1,k2,l1,l,us,rfl,s1,s2,s3,_⟩:=ZP co (I.ex e1).wok hx r1
   exact⟨a,C,dx,fs,_,rfl,c2,k1,k2,l1,h1 _ H1 e1 ⟨l,us,rfl,sq_of s1,s3⟩⟩
  ·exact False.elim h1
def Rz(X:Cx)(W:WX)(m:Str)(ta:TE)(t:TA):TE:=fun σ H Q=>ta σ H fun x H1=>∃(a C dx:Addr) (fs:List (Str×V)) (f:Addr) (fd:FuncData) (ps:List Str) (sp:Sp) (k:Nat),x=.ref a/\H1 a=some (.ins C dx fs)/\fs.lookup m=none/\Cls X.K C/\Meth X.K C m f/\Room k X.A/\Binds X.K fd ps []/\
 FnOk X.prog X.w X.K X.mg X.base (L2.CX X.prog X.w) k f fd ps sp/\t σ H1 fun vs H2=>sp (x::vs) H2 Q (WE W σ)
theorem V9{M:Model}{A:Around}{E:Value->Shared->Prop}{s:Shared}{env:PySem.Env}{args:List Expr}{Q:Value->Shared->Prop}(hbase:baseOk o=true)(hs:args.all nst=true)(hz:args.length < 30)(hl:(apos.endLine==pos.line)=true)
  (h:wpAny M A (eval o env) (fun ov s₁=>∀pl:Sem Bool,wpAny M A (getMethod ov m pl) (fun fx s₂=>wpAny M A (callWith pos fx.1 fx.2 (backTo pos (starEach args env)) (backToKw pos (keywordEach [] env))) Q E s₂) E s₁) E s) :
  wpAny M A (eval (.Call (.Attribute o m apos) args [] pos) env) Q E s:=by
 have hform:methodCallForm (args.length+([]:List Keyword).length) (backTo pos (starEach args env)) (backToKw pos (keywordEach [] env))=true:=few hs hz
 have hpos:methodCallPos true o env apos pos=pure pos:=by unfold methodCallPos;simp[hl]
 rw[arm_eval_Call,mH hbase]
 refine wpAny_bind (wpAny_mono h (fun ov s₁ h₁=>?_) fun _ _ e=>e)
 refine wpAny_bind (wpAny_standAt ?_)
 unfold methodCall
 rw[hform]
 refine wpAny_bind (wpAny_holding ?_)
 refine wpAny_mono (h₁ _) (fun fx s₂ h₂=>?_) fun _ _ e=>e
 exact wpAny_bind (wpAny_of_eq hpos h₂)
theorem aao{ta:TE}{t:TA}(tk:Takes X W)(ho:PE X o ta)(ha:PA X (e::es) t)(hb:baseOk o=true)(hs:(e::es).all nst=true)(hl:(apos.endLine==pos.line)=true)(hz:(e::es).length < 30):PE X (.Call (.Attribute o m apos) (e::es) [] pos) (Rz X W m ta t):=by
 have hs':=hs
 rw[ate,asu]at hs'
 refine⟨fun pins s σ H Q I h=>?_⟩
 refine V9 hb hs hz hl (thn (ho.run pins s σ H _ I h) fun u s1 ⟨x,G,J,rx,a,C,dx,fs,f,fd,ps,sp,k,ex,ea,l,c,hm,hr,hB,F,q⟩ pl=>?_)
 subst ex
 cases rx
 refine getmeth_ok J ea c hm l ?_
 refine PySem.W.callWith_K (first:=[.ref a]) (h₀:=X.base) I.ok.mod.kin hm.kp (thn (ha.run pos pins s1 σ G _ J q) fun us s2 ⟨vs,G2,J2,r,q2⟩=>⟨J2.kIn,?_⟩) (cQ hs'.1 es) (star_any es hs'.2)
 exact run_fnS (us:=.ref a::us) (vs:=.ref a::vs) F hr hB (passAt tk σ) J2 (.cons rfl r) q2
theorem W9{ta:TE}(tk:Takes X W)(ho:PE X o ta)(hb:baseOk o=true)(hl:(apos.endLine==pos.line)=true):PE X (.Call (.Attribute o m apos) [] [] pos) (Rz X W m ta tNil):=by
 refine⟨fun pins s σ H Q I h=>?_⟩
 refine V9 hb rfl (by decide) hl (thn (ho.run pins s σ H _ I h) fun u s1 ⟨x,G,J,rx,a,C,dx,fs,f,fd,ps,sp,k,ex,ea,l,c,hm,hr,hB,F,q⟩ pl=>?_)
 subst ex
 cases rx
 refine getmeth_ok J ea c hm l ?_
 exact PySem.W.callWith_K0 (first:=[.ref a]) J.kIn hm.kp (run_fnS (us:=[.ref a]) (vs:=[.ref a]) F hr hB (passAt tk σ) J (.cons rfl .nil) q)
def Em(tb:List (Str×MV))(M:Mo):Dat->Option MV
 |.dict [(.none,.int (.ofNat h))]=>(M[h]?).bind fun i=>tb.lookup i.cls
 |_=>none
def aW(tb:List (Str×MV))(o:QF)(as:QA):QF:=fun M ρ=>(o M ρ).bind fun d=>match Em tb M d with
 |some (.q _ m)=>(as M ρ).bind fun ds=>m M (d::ds)
 |_=>.bad
def cO(tb:List (Str×MV))(o:QF)(as:QA):GF:=fun M ρ=>((o M ρ).at M).bind fun d _=>match Em tb M d with
 |some (.q _ m)=>((as M ρ).at M).bind fun ds _=>(m M (d::ds)).at M
 |some (.g _ m)=>((as M ρ).at M).bind fun ds _=>m M (d::ds)
 |none=>.bad
def Iz(X:Cx)(aj:aU)(k:Nat)(m:Str)(n:Nat)(tb:List (Str×MV)):Prop:=∀c v,tb.lookup c=some v->bY X.prog X.w X.K X.mg X.base aj k c m v/\match v with
  |.q j _=>j=n
  |.g j _=>j=n
theorem Iz.cls{k n:Nat}{tb:List (Str×MV)}(T:Iz X aj k m n tb):∀c v,tb.lookup c=some v->aj c≠none:=fun c v h z=>by
 obtain⟨⟨C,f,c1,_⟩,_⟩:=T c v h
 rw[z]at c1
 cases c1
theorem Vt{K:asr}{g:Gh}{H:Hp}{M:Mo}{tb:List (Str×MV)}{d:Dat}{v:V}{mv:MV}(ht:∀c v,tb.lookup c=some v->aj c≠none)(w:fZ K aj g H M)(h:Em tb M d=some mv)(r:eE K g H v d):∃n i a C dx fs,d=obj n/\M[n]?=some i/\tb.lookup i.cls=some mv/\g.tbl[n]?=some a/\v=.ref a/\aj i.cls=some C/\H a=some (.ins C dx fs)/\cP K aj g H n fs i.fs:=by
 unfold Em at h
 split at h
 ·next n=>
  obtain⟨i,h1,h2⟩:=asq.mp h
  obtain⟨a,rfl,ha⟩:=Kr r
  obtain⟨C,dx,fs,c1,c2,c3⟩:=w.ins n a i ha h1 fun z=>ht _ _ h2 (by rw[z];exact w.nc)
  exact⟨n,i,a,C,dx,fs,rfl,h1,h2,ha,rfl,c1,c2,c3⟩
 ·cases h
theorem aal{K:asr}{g:Gh}{H:Hp}{M:Mo}{n:Nat}{i:Inst}{fs:List (Str×V)}(w:fZ K aj g H M)(hi:M[n]?=some i)(R:cP K aj g H n fs i.fs)(h:m∉aj.fl i.cls):fs.lookup m=none:=by
 refine R.no ?_
 cases hl:i.fs.lookup m with
 |none=>rfl
 |some x=>exact absurd (w.fd n i hi m (lookup_mem hl)) h
theorem adu{tb:List (Str×MV)}{as:QA}{n k:Nat}{t:TA}(hr:Room k X.A)(T:Iz X aj k m n tb)(hn:∀M ρ ds,as M ρ=.ok ds->ds.length+1=n)(ht:∀σ H Q,Ol X.K aj W as σ H Q->t σ H Q)(σ:L2.St)(H:Hp)(Q:VK)(h:tQ X.K aj W (aW tb fo as) σ H Q):Rz X W m (tW X.K aj W fo) t σ H Q:=by
 obtain⟨g,ρ,M,I,h⟩:=h
 refine tW.go I h.bnd fun d v H1 h1 e1 r1=>?_
 have I1:=I.ex e1
 split at h1
 ·next j mm hmv=>
  obtain⟨hd,i,a,C,dx,fs,rfl,hi,hl,ha,rfl,c1,c2,c3⟩:=Vt T.cls I1.wok hmv r1
  obtain⟨⟨C',f,cc,cl,me,nf,fd,ps,j',hj,hp,hB,F⟩,en⟩:=T _ _ hl
  have en:j=n:=en
  rw[c1]at cc
  cases cc
  refine⟨a,C,dx,fs,f,fd,ps,_,j',rfl,c2,aal I1.wok hi c3 nf,cl,me,hr.mono hj,hB,F,ht σ H1 _ ⟨g,ρ,M,I1,?_⟩⟩
  have h2:=h1.bnd
  cases has:as M ρ with
  |exc x=>rw[has]at h2;exact qX.ex e1 h2
  |bad=>rw[has]at h2;exact False.elim h2
  |ok ds=>
   rw[has]at h2
   intro vs H2 e2 r2
   refine⟨by rw[hp,en,←hn M ρ ds has,asM,r2.length],g,M,obj hd::ds,(I1.ex e2).kd,(I1.ex e2).wok,.cons (.obj ha) r2,?_⟩
   exact Out.sat.mono h2 (fun d k v H' e' r'=>k v H' ((e1.trans e2).trans e') r') fun x k H' c dd e' r'=>k H' c dd ((e1.trans e2).trans e') r'
 ·exact False.elim h1
theorem aiq{tb:List (Str×MV)}{as:QA}{k:Nat}(tk:Takes X W)(hr:Room k X.A)(T:Iz X aj k m ((e::es).length+1) tb)(ho:QW aj X W o fo)(ha:Fd aj X W (e::es) as)(hn:∀M ρ ds,as M ρ=.ok ds->ds.length=(e::es).length)(hb:baseOk o=true)(hs:(e::es).all nst=true)(hl:(apos.endLine==pos.line)=true)(hz:(e::es).length < 30) :
  QE aj X W (.Call (.Attribute o m apos) (e::es) [] pos) (aW tb fo as):=
 PE.weak (aao tk ho ha hb hs hl hz) fun σ H Q h=>adu hr T (fun M ρ ds z=>by rw[hn M ρ ds z]) (fun _ _ _ z=>z) σ H Q h
theorem af8{tb:List (Str×MV)}{k:Nat}(tk:Takes X W)(hr:Room k X.A)(T:Iz X aj k m 1 tb)(ho:QW aj X W o fo)(hb:baseOk o=true)(hl:(apos.endLine==pos.line)=true) :
  QE aj X W (.Call (.Attribute o m apos) [] [] pos) (aW tb fo au):=
 PE.weak (W9 tk ho hb hl) fun σ H Q h=>adu hr T (fun M ρ ds z=>by cases z;rfl) (fun σ H Q ⟨g,ρ,M,I,z⟩=>z [] H (Ex.refl H) .nil) σ H Q h
theorem aeu{tb:List (Str×MV)}{as:QA}{n k:Nat}{t:TA}(hr:Room k X.A)(T:Iz X aj k m n tb)(hn:∀M ρ ds,as M ρ=.ok ds->ds.length+1=n)(ht:∀σ H Q,Ol X.K aj W as σ H Q->t σ H Q)(σ:L2.St)(H:Hp)(Q:VK)(h:tE X.K aj W false (cO tb fo as) σ H Q):Rz X W m (tW X.K aj W fo) t σ H Q:=by
 obtain⟨g,ρ,M,I,h⟩:=h
 have quiet:∀{x:dD},gE X.K aj W false g H σ ρ x M->qX X.K aj W g H σ x:=fun {x} z H' c dd e r=>z H' g c dd (Gr.ex e) (I.ex e) r
 have h:=h.bnd
 refine⟨g,ρ,M,I,?_⟩
 cases ho:fo M ρ with
 |exc x=>rw[ho]at h;exact quiet h
 |bad=>rw[ho]at h;exact False.elim h
 |ok d=>
  rw[ho]at h
  intro v H1 e1 r1
  have I1:=I.ex e1
  have h:(match Em tb M d with
   |some (.q _ m)=>((as M ρ).at M).bind fun ds _=>(m M (d::ds)).at M
   |some (.g _ m)=>((as M ρ).at M).bind fun ds _=>m M (d::ds)
   |none=>.bad).sat (fun d M'=>∀v H' g',Gr false g g' H H'->SInv X.K aj σ H' g' ρ M'->Rep X.K g' H' v d->Q v H') (gE X.K aj W false g H σ ρ):=h
  split at h
  ·next j mm hmv=>
   obtain⟨hd,i,a,C,dx,fs,rfl,hi,hl,ha,rfl,c1,c2,c3⟩:=Vt T.cls I1.wok hmv r1
   obtain⟨⟨C',f,cc,cl,me,nf,fd,ps,j',hj,hp,hB,F⟩,en⟩:=T _ _ hl
   have en:j=n:=en
   rw[c1]at cc
   cases cc
   refine⟨a,C,dx,fs,f,fd,ps,_,j',rfl,c2,aal I1.wok hi c3 nf,cl,me,hr.mono hj,hB,F,ht σ H1 _ ⟨g,ρ,M,I1,?_⟩⟩
   have h2:=h.bnd
   cases has:as M ρ with
   |exc x=>rw[has]at h2;exact qX.ex e1 (quiet h2)
   |bad=>rw[has]at h2;exact False.elim h2
   |ok ds=>
    rw[has]at h2
    intro vs H2 e2 r2
    have e12:=e1.trans e2
    refine⟨by rw[hp,en,←hn M ρ ds has,asM,r2.length],g,M,obj hd::ds,(I1.ex e2).kd,(I1.ex e2).wok,.cons (.obj ha) r2,?_⟩
    exact Out.sat.mono (Out.jf h2) (fun d k v H' e' r'=>k v H' g (Gr.ex (e12.trans e')) (I.ex (e12.trans e')) r') fun x k H' c dd e' r'=>k H' g c dd (Gr.ex (e12.trans e')) (I.ex (e12.trans e')) r'
  ·next j mm hmv=>
   obtain⟨hd,i,a,C,dx,fs,rfl,hi,hl,ha,rfl,c1,c2,c3⟩:=Vt T.cls I1.wok hmv r1
   obtain⟨⟨C',f,cc,cl,me,nf,fd,ps,j',hj,hp,hB,F⟩,en⟩:=T _ _ hl
   have en:j=n:=en
   rw[c1]at cc
   cases cc
   refine⟨a,C,dx,fs,f,fd,ps,_,j',rfl,c2,aal I1.wok hi c3 nf,cl,me,hr.mono hj,hB,F,ht σ H1 _ ⟨g,ρ,M,I1,?_⟩⟩
   have h2:=h.bnd
   cases has:as M ρ with
   |exc x=>rw[has]at h2;exact qX.ex e1 (quiet h2)
   |bad=>rw[has]at h2;exact False.elim h2
   |ok ds=>
    rw[has]at h2
    intro vs H2 e2 r2
    have e12:=e1.trans e2
    refine⟨by rw[hp,en,←hn M ρ ds has,asM,r2.length],g,M,obj hd::ds,(I1.ex e2).kd,(I1.ex e2).wok,.cons (.obj ha) r2,?_⟩
    exact bx.sat.mono h2 (fun d M' k v H' g' c kd wk r'=>k v H' g' ((Gr.ex e12).trans c.gr) ((I.ex e12).call c kd wk) r') fun x M' k H' g' cc dd c kd wk r'=>k H' g' cc dd ((Gr.ex e12).trans c.gr) ((I.ex e12).call c kd wk) r'
  ·exact False.elim h
theorem ah6{tb:List (Str×MV)}{as:QA}{k:Nat}(tk:Takes X W)(hr:Room k X.A)(T:Iz X aj k m ((e::es).length+1) tb)(ho:QW aj X W o fo)(ha:Fd aj X W (e::es) as)(hn:∀M ρ ds,as M ρ=.ok ds->ds.length=(e::es).length)(hb:baseOk o=true)(hs:(e::es).all nst=true)(hl:(apos.endLine==pos.line)=true)(hz:(e::es).length < 30) :
  GE aj X W false (.Call (.Attribute o m apos) (e::es) [] pos) (cO tb fo as):=
 PE.weak (aao tk ho ha hb hs hl hz) fun σ H Q h=>aeu hr T (fun M ρ ds z=>by rw[hn M ρ ds z]) (fun _ _ _ z=>z) σ H Q h
theorem afN{tb:List (Str×MV)}{k:Nat}(tk:Takes X W)(hr:Room k X.A)(T:Iz X aj k m 1 tb)(ho:QW aj X W o fo)(hb:baseOk o=true)(hl:(apos.endLine==pos.line)=true) :
  GE aj X W false (.Call (.Attribute o m apos) [] [] pos) (cO tb fo au):=
 PE.weak (W9 tk ho hb hl) fun σ H Q h=>aeu hr T (fun M ρ ds z=>by cases z;rfl) (fun σ H Q ⟨g,ρ,M,I,z⟩=>z [] H (Ex.refl H) .nil) σ H Q h
end
def eX(x:Str):SF:=fun M ρ=>.exc ⟨x,[]⟩ ρ M
def Cu(x:Str)(fs:List Str)(as:QA):SF:=fun M ρ=>((as M ρ).at M).then ρ fun ds M'=>.exc ⟨x,(fs.zip ds).reverse⟩ ρ M'
section
variable{X:Cx}{aj:aU}{W:WX}{q:Bool}{x:Str}{pos p p1:Pos}{k:Nat}
theorem agM(hc:X.calm=true)(tk:Takes X W)(hg:Gl X x)(hd:(x==("__debug__" : Str))=false)(g:aZ X.prog X.w X.K X.mg X.base aj k x .exc):SE aj X W q (.Raise (some (.Call (.Name x p) [] [] p1)) none pos) (eX x):=by
 obtain⟨C,g1,g2,g3,g4,g5,g6⟩:=g
 exact PS.weak (ps_raise hc tk (Ear.afY PySem.F.excBase_ValueError g3 g1 g4 (raises_own g5 g6) hg hd)) fun D σ H ⟨g,ρ,M,I,z⟩=>z σ H g (.ref C) none Gr.refl I ⟨C,g2,rfl,.inl ⟨rfl,rfl⟩⟩
theorem lG.gr{K:asr}{g g':Gh}{H H':Hp}{q:Bool}(r:Gr q g g' H H')(k:Kd g H){fs:List (Str×V)}{gs:List (Str×Dat)}(h:lG K g H fs gs):lG K g' H' fs gs:=by
 induction h with
 |nil=>exact .nil
 |cons z _ ih=>exact .cons (z.gr r k) ih
theorem lG.snoc{K:asr}{g:Gh}{H:Hp}{f:Str}{v:V}{d:Dat}(z:Rep K g H v d){fs:List (Str×V)}{gs:List (Str×Dat)}(h:lG K g H fs gs):lG K g H (fs++[(f,v)]) (gs++[(f,d)]):=by
 induction h with
 |nil=>exact .cons z .nil
 |cons y _ ih=>exact .cons y ih
theorem ae6{K:asr}{g:Gh}{H:Hp}:∀{fs:List Str} {vs:List V} {ds:List Dat},aK K g H vs ds->lG K g H (fs.zip vs).reverse (fs.zip ds).reverse
 |[],_,_,_=>.nil
 |_::_,_,_,.nil=>.nil
 |f::fs,_,_,.cons z t=>by
  rw[atz,atz,atG,atG]
  exact(ae6 t).snoc z
theorem adF{e:Expr}{es:List Expr}{fs:List Str}{as:QA}(hc:X.calm=true)(tk:Takes X W)(hr:Room k X.A)(hg:Gl X x)(hd:(x==("__debug__" : Str))=false)(g:aZ X.prog X.w X.K X.mg X.base aj k x (.exi fs))(ha:Fd aj X W (e::es) as)
  (hs:(e::es).all nst=true) (hn:∀M ρ ds,as M ρ=.ok ds->ds.length=fs.length) (hz:fs.length<=1000):SE aj X W q (.Raise (some (.Call (.Name x p) (e::es) [] p1)) none pos) (Cu x fs as):=by
 obtain⟨C,fI,fd,ps,g1,g2,g3,g4,g5,hk,hp,hB,F⟩:=g
 have hs':=hs
 rw[ate,asu]at hs'
 refine PS.weak (ps_raise hc tk (pmk_oex g3 g4 g5 F (hr.mono hk) hB .nil pass0 hg g1 ha hd (cQ hs'.1 es) (star_any es hs'.2))) fun D σ H ⟨g,ρ,M,I,z⟩=>?_
 refine⟨g,ρ,M,I,?_⟩
 unfold Cu at z
 cases has:as M ρ with
 |exc y=>rw[has]at z;exact fun H' c dd e r=>z σ H' g c dd (Gr.ex e) (I.ex e) r.fr
 |bad=>rw[has]at z;exact False.elim z
 |ok ds=>
  rw[has]at z
  intro vs H1 e1 r1
  have hl:vs.length=fs.length:=by rw[r1.length,hn M ρ ds has]
  refine⟨by omega,fun a na=>⟨a,vs++[],rfl,by simpa using hl,upd_same,fun dx H' nd kp dm ha' hd'=>?_⟩⟩
  have ne:dx≠a:=fun z=>by
   subst z
   rw[upd_same]at nd
   cases nd
  rw[upd_ne ne]at nd
  refine⟨rfl,dx,_,ha',hd',nd,?_⟩
  have kp':∀b o,H1 b=some o->(upd (del H' a) dx (.xd (fs.zip (vs++[])).reverse)) b=some o:=fun b o hb=>by
   have nb:b≠a:=fun z=>by subst z;rw[na]at hb;cases hb
   have nd':b≠dx:=fun z=>by subst z;rw[nd]at hb;cases hb
   rw[upd_ne nd',del_ne nb]
   exact kp b o nb (by rw[upd_ne nb];exact hb)
  have ex:Ex H1 (upd (del H' a) dx (.xd (fs.zip (vs++[])).reverse)):=fun b o hb=>kp' b o hb
  have I1:=I.ex e1
  refine z σ _ g (.ref C) (some dx) (Gr.ex (e1.trans ex)) (I1.ex ex) ⟨C,g2,rfl,.inr ⟨dx,_,rfl,upd_same,?_⟩⟩
  rw[atm]
  have:=(ae6 (fs:=fs) r1).gr (Gr.ex (q:=true) ex) I1.kd
  rw[atm]at this
  exact lG.less (g:=g) (g':=g.fr) rfl (wJ g) this
end
section
variable{P:Program}{w:World}{K:asr}{mg:Str->Option Value}{base:Heap}{C f:Addr}{fd:FuncData}{qual:Str}{st:Stmt}
theorem vis_par{N ps:List Str}{sc:Scope}(S:FnScope N ps sc){y:Str}(h:y∈ps):Vis sc y:=(S.par y h).elim (fun z=>.inl z) fun z=>.inr (.inl z)
theorem afq{s a1 a2 a3 f1 f2 f3:Str}{p1 p2 p3 p4 p5 p6 p7 p8 p9 p10 p11 p12:Pos}(F:L2.Fun K "__init__" qual st f fd)(S:FnScope [s,a1,a2,a3] [s,a1,a2,a3] (defScope st))(T:OexC K C)
  (hb:defBody st=[.Assign [.Attribute (.Name s p1) f1 p2] (.Name a1 p3) p4,.Assign [.Attribute (.Name s p5) f2 p6] (.Name a2 p7) p8,.Assign [.Attribute (.Name s p9) f3 p10] (.Name a3 p11) p12])
  (dz:∀y∈[s,a1,a2,a3],(y==("__debug__" : Str))=false/\(y==("__classdict__" : Str))=false) (n1:PySem.W.findIn K (.ref C) f1=some none) (n2:PySem.W.findIn K (.ref C) f2=some none) (n3:PySem.W.findIn K (.ref C) f3=some none) :
  FnOk P w K mg base CX0 1 f fd [s,a1,a2,a3] (af6 C [f1,f2,f3]):=by
 refine F.ok S (fun vs H Q E h=>?_) (fun cdv A outer s0 H vs Q E hr h=>?_)
 ·obtain⟨a,xs,rfl,hl,_⟩:=h
  simp[hl]
 ·obtain⟨a,xs,rfl,hl,ha,q⟩:=h
  match xs,hl with
  |[x,y,z],_=>
  rw[hb]
  have v0:=vis_par S (y:=s) (by simp)
  have v1:=vis_par S (y:=a1) (by simp)
  have v2:=vis_par S (y:=a2) (by simp)
  have v3:=vis_par S (y:=a3) (by simp)
  obtain⟨c0,k0⟩:=dz s (by simp)
  obtain⟨c1,k1⟩:=dz a1 (by simp)
  obtain⟨c2,k2⟩:=dz a2 (by simp)
  obtain⟨c3,k3⟩:=dz a3 (by simp)
  refine⟨_,pss_cons (ps_ost (pe_var (i:=0) rfl v0 c0 k0) (pe_var (i:=1) rfl v1 c1 k1)) (pss_cons (ps_ost (pe_var (i:=0) rfl v0 c0 k0) (pe_var (i:=2) rfl v2 c2 k2)) (pss_one (ps_ost (pe_var (i:=0) rfl v0 c0 k0) (pe_var (i:=3) rfl v3 c3 k3)))),?_⟩
  refine⟨_,rfl,_,rfl,a,C,rfl,T,n1,.inl ⟨ha,fun dx nd ne=>?_⟩⟩
  refine⟨_,rfl,_,rfl,a,C,rfl,T,n2,.inr ⟨dx,[(f1,x)],upd_same,(by rw[upd_ne ne];exact upd_same),(show 1<=900 by decide),?_⟩⟩
  refine⟨_,rfl,_,rfl,a,C,rfl,T,n3,.inr ⟨dx,_,(by rw[upd_ne ne.symm];exact upd_same),upd_same,(show 2<=900 by decide),?_⟩⟩
  refine q dx _ nd (fun b o hb hB=>?_) (fun b hB=>?_) (by rw[upd_ne ne.symm,upd_ne ne.symm];exact upd_same) upd_same
  ·have hbd:b≠dx:=ne_of_none hB nd
   rw[upd_ne hbd,upd_ne hbd,upd_ne hb,upd_ne hbd]
   exact hB
  ·by_cases e:b=dx
   ·rw[e];exact nd
   ·by_cases e2:b=a
    ·subst e2
     rw[upd_ne e,upd_ne e,upd_same]at hB
     cases hB
    ·rw[upd_ne e,upd_ne e,upd_ne e2,upd_ne e]at hB
     exact hB
end
structure Cl where
 c:Value
 nm:Option Nat
 ts:Addr->Value->Option Addr->TS
def anS(D:Ends)(i:Nat):Ends:={ nx:=fun τ G=>D.nx (τ.set i none) G,rt:=D.rt,bk:=fun τ G=>D.bk (τ.set i none) G,ct:=fun τ G=>D.ct (τ.set i none) G }
def YC(K:asr)(Wo:WX)(D:Ends):List Cl->WX
 |[]=>Wo
 |l::r=>fun cls d τ G=>∃b,PySem.W.exmOne K cls l.c=some b/\(b=true->∀a,G a=none->(match l.nm with
   |none=>l.ts a cls d D τ G
   |some i=>l.ts a cls d (anS D i) (τ.set i (some (.ref a))) G))/\(b=false->YC K Wo D r cls d τ G)
inductive Ce(X:Cx):List ExceptHandler->List Cl->Prop
 |nil:Ce X [] []
 |one {x:Str} {l:Cl} {s0:Stmt} {su:List Stmt} {np cp:Pos} {hds:List ExceptHandler} {ls:List Cl} (hc:Names X x l.c) (hn:l.nm=none)
   (hsu:∀(a:Addr) (oe:Obj) (cls:Value) (d:Option Addr) (pn:List (Addr×Obj)),Zc cls d oe->(∃vs,oe.data=.fields vs)->PSs (X.suite a ((a,oe)::pn)) (s0::su) (l.ts a cls d)) (r:Ce X hds ls) :
   Ce X (.ExceptHandler (some (.Name x np)) none (s0::su) cp::hds) (l::ls)
 |as {x n:Str} {i:Nat} {l:Cl} {s0:Stmt} {su:List Stmt} {np cp:Pos} {hds:List ExceptHandler} {ls:List Cl} (hc:Names X x l.c) (hn:l.nm=some i) (hi:X.N[i]?=some n) (hl:X.env.kindOf n=some .local)
   (hsu:∀(a:Addr) (oe:Obj) (cls:Value) (d:Option Addr) (pn:List (Addr×Obj)),Zc cls d oe->(∃vs,oe.data=.fields vs)->PSs (X.suite a ((a,oe)::pn)) (s0::su) (l.ts a cls d)) (r:Ce X hds ls) :
   Ce X (.ExceptHandler (some (.Name x np)) (some n) (s0::su) cp::hds) (l::ls)
section
variable{X:Cx}{body:List Stmt}{h0:ExceptHandler}{hds:List ExceptHandler}{ls:List Cl}{pos:Pos}{tb:WX->TS}{Wo:WX}
theorem aii(hs:X.stack=X.env::X.outer)(hf:X.env.frame=some X.env.locals)(hN:X.N.Nodup)(tk:Takes X Wo)
  (hb:∀(W:WX) (pn:List (Addr×Obj)) (xe:Value->Shared->Prop),Takes (X.tr pn xe) W->PassesOwn (model X.prog X.w) X.A X.env xe->PSs (X.tr pn xe) body (tb W))
  (hh:Ce X (h0::hds) ls):PS X (.Try body (h0::hds) [] [] pos) (fun D σ H=>tb (YC X.K Wo D ls) D σ H):=by
 constructor
 intro pins s σ H D I h
 have ok:=I.ok
 have frm:X.A.frames=some (X.env::X.outer):=by rw[ok.frames,hs]
 have run:=(hb (YC X.K Wo D ls) (X.pn++pins) (fun e t₁=>wpAny (model X.prog X.w) X.A (noteFrame e X.env) (fun _ t₂=>wpAny (model X.prog X.w) X.A (setFlight e none) (fun _ t₃=>wpAny (model X.prog X.w) X.A (handleBy e X.env (h0::hds)) (SP X pins D) X.xe t₃) X.xe t₂) X.xe t₁) (fun u t xx=>by
  obtain⟨a,B,sI,pins2,τ,G,cls,d,rfl,J2,nb,up,sky,na,os,ag,w⟩:=xx
  have J:Inv X pins τ G sI:=J2.ofTry ok
  have sky2:Sky B (X.env::X.outer) a (Zc cls d) X.env.locals t.heap:=by
   rw[←hs]
   exact sky
  show wpAny (model X.prog X.w) X.A (noteFrame (.ref a) X.env) _ _ _
  refine Sky.land Zc.steady frm hf sky2 ?_
  intro h3 fl3 up3
  have J3:Inv X pins τ G { t with heap:=h3 }:=J.landed nb fl3.1 (up.trans up3) os ag
  obtain⟨oe3,vs3,he3,hz3,hd3⟩:=fl3.there
  have notF:a∉frs (X.env::X.outer):=fun hm=>by
   obtain⟨_,o,eo,hnf⟩:=Heap.FunFrames.mem fl3.2.2.1 hm
   rw[he3]at eo
   cases eo
   exact hnf _ hd3
  have nL:a≠X.env.locals:=fun z=>notF (List.mem_filterMap.mpr ⟨X.env,asz,(by rw[hf,z])⟩)
  have nF:a∉X.fs:=fun hm=>by
   obtain⟨e,he,q⟩:=List.mem_filterMap.mp hm
   exact notF (List.mem_filterMap.mpr ⟨e,asy _ he,q⟩)
  have S3:=J3.suite he3 hd3 na nL nF
  have look:PySem.W.Looks (model X.prog X.w) h3 (typeOf (.ref a)) cls:=fun A Q E s k q=>wpAny_typeOf_ref (k _ _ he3) (by rw[hz3.1];exact q)
  have named:∀{x:Str} {c:Value} {np:Pos} {Q:Value->Shared->Prop} {E:Value->Shared->Prop},Names X x c->Q c { t with heap:=h3 }->wpAny (model X.prog X.w) (X.A.mark (some (.ref a))) (eval (.Name x np) X.env) Q E { t with heap:=h3 }:=by
   intro x c np Q E hc q
   obtain⟨hg,hdb,hm⟩:=hc
   rcases hm with hm|⟨hm,hv,hnn⟩
   ·exact ld_glob (X:=X.suite a ((a,oe3)::(X.pn++pins))) S3 hg hm q hdb
   ·exact ld_blt (X:=X.suite a ((a,oe3)::(X.pn++pins))) S3 hg hm hv q hnn hdb
  have all:∀{hds2:List ExceptHandler} {ls2:List Cl},Ce X hds2 ls2->YC X.K Wo D ls2 cls d τ G->wpAny (model X.prog X.w) X.A (handleBy (.ref a) X.env hds2) (SP X pins D) X.xe { t with heap:=h3 }:=by
   intro hds2 ls2 hk
   induction hk with
   |nil=>
    intro w
    refine wpAny_handleBy_nil ?_
    obtain⟨k1,k2,k3,oe,vs,T,oT,ts2,he,hz,hd,h1,hr⟩:=id fl3
    unfold PySem.passOn
    refine wpAny_bind (wpAny_field he hd h1 ?_)
    have nT:¬((Value.ref T==Value.none)=true):=by simp
    rw[if_neg nT]
    have fin:wpAny (model X.prog X.w) X.A (setFlight (.ref a) X.env.frame) (fun _ s4=>wpAny (model X.prog X.w) X.A (throw (.ref a):Sem Flow) (SP X pins D) X.xe s4) X.xe { t with heap:=h3 }:=by
     rw[hf]
     refine HandSPX.setFlight_upZ fl3 ?_
     intro h4 hh4 up4
     refine wpAny_throw (tk _ _ ?_)
     exact⟨a,B,sI,pins,τ,G,cls,d,rfl,J,nb,(up.trans up3).trans up4,.inr (.inr (by rw[hs];exact hh4)),na,os,ag,w⟩
    first
     |exact wpAny_bind (wpAny_pure (wpAny_bind fin))
     |exact wpAny_bind fin
   | @one x l s0 su np cp hds3 ls3 hc hn hsu r ih=>
    intro w
    obtain⟨b,hb1,yes,no⟩:=w
    rw[hn]at yes
    have LM:=PySem.W.exm_one (M:=model X.prog X.w) J3.kIn look hb1
    refine wpAny_handleBy_cons (codeAny_handlers_test ?_) (by intro q;cases q)
    refine named hc (LM.here ?_)
    cases b with
    |false=>exact ih (no rfl)
    |true=>
     refine codeAny_handlers_suite ?_
     refine HandSPX.lands_againZ fl3 ?_
     intro h4 fl4 up4
     have J4:Inv X pins τ G { t with heap:=h4 }:=J.landed nb fl4.1 ((up.trans up3).trans up4) os ag
     obtain⟨oe4,vs4,he4,hz4,hd4⟩:=fl4.there
     have S4:=J4.suite he4 hd4 na nL nF
     refine wpAny_mono ((hsu a oe4 cls d (X.pn++pins) hz4 ⟨_,hd4⟩).run [] _ _ G _ S4 (yes rfl a na)) ?_ (fun _ _ z=>False.elim z)
     intro f s6 sp6
     cases f with
     |ret u=>
      obtain⟨v6,τ6,G6,S6,r6,q6⟩:=sp6
      exact⟨_,_,_,S6.unsuite ok,r6,q6⟩
     |next=>
      obtain⟨τ6,G6,S6,q6⟩:=sp6
      exact⟨_,_,S6.unsuite ok,q6⟩
     |brk=>
      obtain⟨τ6,G6,S6,q6⟩:=sp6
      exact⟨_,_,S6.unsuite ok,q6⟩
     |cont=>
      obtain⟨τ6,G6,S6,q6⟩:=sp6
      exact⟨_,_,S6.unsuite ok,q6⟩
   | @as x n i l s0 su np cp hds3 ls3 hc hn hi hl hsu r ih=>
    intro w
    obtain⟨b,hb1,yes,no⟩:=w
    rw[hn]at yes
    have LM:=PySem.W.exm_one (M:=model X.prog X.w) J3.kIn look hb1
    refine wpAny_handleBy_cons (codeAny_handlers_test ?_) (by intro q;cases q)
    refine named hc (LM.here ?_)
    cases b with
    |false=>exact ih (no rfl)
    |true=>
     refine codeAny_handlers_suite_as ?_
     refine HandSPX.lands_againZ fl3 ?_
     intro h4 fl4 up4
     have J4:Inv X pins τ G { t with heap:=h4 }:=J.landed nb fl4.1 ((up.trans up3).trans up4) os ag
     obtain⟨oe4,vs4,he4,hz4,hd4⟩:=fl4.there
     have S4:=J4.suite he4 hd4 na nL nF
     refine store_ok (X:=X.suite a ((a,oe4)::(X.pn++pins))) (v:=.ref a) S4 hN hi (.inl hl) rfl ?_ (.inr hl)
     intro s5 S5
     refine wpAny_mono ((hsu a oe4 cls d (X.pn++pins) hz4 ⟨_,hd4⟩).run [] s5 _ G _ S5 (yes rfl a na)) ?_ (fun _ _ z=>False.elim z)
     intro f s6 sp6
     have bye:∀{τ6:L2.St} {G6:Hp} {Q:Shared->Prop},Inv (X.suite a ((a,oe4)::(X.pn++pins))) [] τ6 G6 s6->(∀s7,Inv X pins (τ6.set i none) G6 s7->Q s7)->
       wpAny (model X.prog X.w) X.A (do bindName X.env n .none;unbindBehindTheSuite X.env n cp) (fun _ s7=>Q s7) X.xe s6:=fun S6 hq=>gone_ok (S6.unsuite ok) hN hi hl hq
     cases f with
     |ret u=>
      obtain⟨v6,τ6,G6,S6,r6,q6⟩:=sp6
      exact bye S6 fun s7 J7=>⟨_,_,_,J7,r6,q6⟩
     |next=>
      obtain⟨τ6,G6,S6,q6⟩:=sp6
      exact bye S6 fun s7 J7=>⟨_,_,J7,q6⟩
     |brk=>
      obtain⟨τ6,G6,S6,q6⟩:=sp6
      exact bye S6 fun s7 J7=>⟨_,_,J7,q6⟩
     |cont=>
      obtain⟨τ6,G6,S6,q6⟩:=sp6
      exact bye S6 fun s7 J7=>⟨_,_,J7,q6⟩
  exact all hh w) PassesOwn.looking).run [] s σ H D (I.toTry _) h
 refine wpAny_Try_except (wpAny_mono run ?_ (fun _ _ z=>z))
 intro f s1 sp1
 cases f with
 |ret u=>
  obtain⟨v,τ,G,J2,r,q⟩:=sp1
  exact⟨v,τ,G,J2.ofTry ok,r,q⟩
 |next=>
  obtain⟨τ,G,J2,q⟩:=sp1
  exact wpAny_execs_nil ⟨τ,G,J2.ofTry ok,q⟩
 |brk=>
  obtain⟨τ,G,J2,q⟩:=sp1
  exact⟨τ,G,J2.ofTry ok,q⟩
 |cont=>
  obtain⟨τ,G,J2,q⟩:=sp1
  exact⟨τ,G,J2.ofTry ok,q⟩
end
inductive El where
 |con (d:Dat)|fld (f:Str)|flds (fs:List Str)
def U8(y:Str)(x:dD)(f:Str):Option Dat:=match x.cls==y with
 |true=>(x.fs.lookup f).bind fun d=>match lf d with
  |true=>some d
  |false=>none
 |false=>none
def Nz(y:Str)(x:dD):List Str->Option (List Dat)
 |[]=>some []
 |f::fs=>(U8 y x f).bind fun d=>(Nz y x fs).bind fun ds=>some (d::ds)
def PL(y:Str)(x:dD):El->Option Dat
 |.con d=>some d
 |.fld f=>U8 y x f
 |.flds fs=>(Nz y x fs).bind fun ds=>some (.tuple ds)
def Ei(y:Str)(x:dD):List (Nat×El)->Env->Option Env
 |[],ρ=>some ρ
 |(j,e)::r,ρ=>(PL y x e).bind fun d=>Ei y x r (ρ.set j (some (.dat d)))
structure Hd where
 y:Str
 tk:Str->Option Bool
 nm:Option Nat
 st:List (Nat×El)
def U7(ρ:Env):Option Nat->Env
 |none=>ρ
 |some i=>ρ.set i none
def ac9(ρ:Env):Option Nat->Bool
 |none=>true
 |some i=>decide (i < ρ.length)
def hdl:List Hd->dD->Env->Mo->tV
 |[],x,ρ,M=>.exc x ρ M
 |h::r,x,ρ,M=>match h.tk x.cls with
  |some true=>match ac9 ρ h.nm with
   |true=>match Ei h.y x h.st (U7 ρ h.nm) with
    |some ρ2=>.next (U7 ρ2 h.nm) M
    |none=>.bad
   |false=>.bad
  |some false=>hdl r x ρ M
  |none=>.bad
def U6(f:SF)(hs:List Hd):SF:=fun M ρ=>match f M ρ with
 |.exc x ρ' M'=>hdl hs x ρ' M'
 |o=>o
structure XIn(K:asr)(aj:aU)(σ:L2.St)(H:Hp)(g:Gh)(ρ:Env)(M:Mo)(x:dD)(a:Addr)(cls:Value)(d:Option Addr)(i:Option Nat):Prop where
 inv:SInv K aj σ H g ρ M
 xr:qJ K aj g.fr H x cls d
 sl:∀j,i=some j->σ[j]?=some (some (.ref a))
section
variable(K:asr)(aj:aU)(a:Addr)(cls:Value)(d:Option Addr)(i:Option Nat)
def tU(f:dD->Option Dat):TE:=fun σ H Q=>∃g ρ M x z,XIn K aj σ H g ρ M x a cls d i/\f x=some z/\∀v H',Ex H H'->Rep K g H' v z->Q v H'
def tUA(f:dD->Option (List Dat)):TA:=fun σ H Q=>∃g ρ M x z,XIn K aj σ H g ρ M x a cls d i/\f x=some z/\∀v H',Ex H H'->aK K g H' v z->Q v H'
def tSu(y:Str)(st:List (Nat×El)):TS:=fun D σ H=>∃g ρ M x ρ2,XIn K aj σ H g ρ M x a cls d i/\Ei y x st ρ=some ρ2/\(∀p∈st,i≠some p.1)/\∀σ' H',Ex H H'->SInv K aj σ' H' g ρ2 M->D.nx σ' H'
end
section
variable{K:asr}{aj:aU}{a:Addr}{cls:Value}{d:Option Addr}{i:Option Nat}{σ:L2.St}{H H':Hp}{g:Gh}{ρ:Env}{M:Mo}{x:dD}
theorem lG.ex{fs:List (Str×V)}{gs:List (Str×Dat)}(e:Ex H H')(k:Kd g H)(h:lG K g H fs gs):lG K g H' fs gs:=h.gr (Gr.ex (q:=true) e) k
theorem qJ.ex{c:Value}{dd:Option Addr}(e:Ex H H')(k:Kd g H)(h:qJ K aj g H x c dd):qJ K aj g H' x c dd:=by
 obtain⟨C,h1,h2,h3⟩:=h
 exact⟨C,h1,h2,h3.imp id fun⟨b,fs,e1,e2,e3⟩=>⟨b,fs,e1,e _ _ e2,e3.ex e k⟩⟩
theorem XIn.ex(e:Ex H H')(h:XIn K aj σ H g ρ M x a cls d i):XIn K aj σ H' g ρ M x a cls d i:=⟨h.inv.ex e,h.xr.ex e h.inv.kd.fr,h.sl⟩
theorem lG.get{f:Str}{z:Dat}{fs:List (Str×V)}{gs:List (Str×Dat)}(h:lG K g H fs gs)(e:gs.lookup f=some z):∃v,fs.lookup f=some v/\Rep K g H v z:=by
 induction h with
 |nil=>cases e
 | @cons f' v d' _ _ r _ ih=>
  rw[as6]at e
  rw[as6]
  cases hb:f==f' with
  |true=>
   rw[hb]at e
   cases e
   exact⟨v,rfl,r⟩
  |false=>
   rw[hb]at e
   exact ih e
end
section
variable{X:Cx}{aj:aU}{a C:Addr}{oe:Obj}{cls:Value}{d:Option Addr}{pn:List (Addr×Obj)}{y n:Str}{pos p:Pos}{j:Nat}
theorem aee{e:Expr}{z:Dat}{i:Option Nat}{t:TE}(h:PE (X.suite a ((a,oe)::pn)) e t)(ht:∀σ H Q,tU X.K aj a cls d i (fun _=>some z) σ H Q->t σ H Q):PE (X.suite a ((a,oe)::pn)) e (tU X.K aj a cls d i fun _=>some z):=PE.weak h ht
theorem aeU{f:Str}(hC:aj y=some C)(T:XfC X.K C)(hno:PySem.W.findIn X.K (.ref C) f=some none)(hz:Zc cls d oe)(hf:∃vs,oe.data=.fields vs)(hN:X.N[j]?=some n)(hv:Vis X.env.scope n)(hd:(n==("__debug__" : Str))=false)(hcd:(n==("__classdict__" : Str))=false) :
  PE (X.suite a ((a,oe)::pn)) (.Attribute (.Name n p) f pos) (tU X.K aj a cls d (some j) fun x=>U8 y x f):=by
 refine PE.weak (pe_xf T hno hz hf (pe_var (i:=j) (X:=X.suite a ((a,oe)::pn)) hN hv hd hcd)) fun σ H Q ⟨g,ρ,M,x,z,I,e,k⟩=>?_
 have e:U8 y x f=some z:=e
 unfold U8 at e
 split at e
 ·next ey=>
  obtain⟨z',l,e⟩:=asq.mp e
  split at e
  ·next hl=>
   cases e
   obtain⟨C',c1,c2,c3⟩:=I.xr
   rw[eq_of_beq ey,hC]at c1
   cases c1
   rcases c3 with⟨c3,_⟩|⟨b,fs,c3,c4,c5⟩
   ·rw[c3]at l
    cases l
   ·obtain⟨v,l1,l2⟩:=c5.get l
    exact⟨.ref a,I.sl j rfl,rfl,c2,b,fs,v,c3,c4,l1,k v H (Ex.refl H) (Rep.free (g:=g.fr) (g':=g) rfl hl l2)⟩
  ·cases e
 ·cases e
theorem aeF{i:Option Nat}:PA (X.suite a ((a,oe)::pn)) [] (tUA X.K aj a cls d i fun _=>some []):=PA.weak pa_nil fun σ H Q ⟨g,ρ,M,x,z,I,e,k⟩=>by
 cases e
 exact k [] H (Ex.refl H) .nil
theorem ajg{e:Expr}{es:List Expr}{i:Option Nat}{f:dD->Option Dat}{fr:dD->Option (List Dat)}(h:PE (X.suite a ((a,oe)::pn)) e (tU X.K aj a cls d i f))(hr:PA (X.suite a ((a,oe)::pn)) es (tUA X.K aj a cls d i fr))(hs:nst e=true) :
  PA (X.suite a ((a,oe)::pn)) (e::es) (tUA X.K aj a cls d i fun x=>(f x).bind fun z=>(fr x).bind fun zs=>some (z::zs)):=by
 refine PA.weak (pa_cons h hr (cQ hs es)) fun σ H Q ⟨g,ρ,M,x,z,I,e,k⟩=>?_
 obtain⟨z1,e1,e⟩:=asq.mp e
 obtain⟨z2,e2,e⟩:=asq.mp e
 cases e
 exact⟨g,ρ,M,x,z1,I,e1,fun v H1 x1 r1=>⟨g,ρ,M,x,z2,I.ex x1,e2,fun vs H2 x2 r2=>k (v::vs) H2 (x1.trans x2) (.cons (r1.ex x2 (I.ex x1).inv.kd) r2)⟩⟩
theorem ae0{es:List Expr}{kk:Nat}{i:Option Nat}{fr:dD->Option (List Dat)}(hr:PA (X.suite a ((a,oe)::pn)) es (tUA X.K aj a cls d i fr))(hn:∀x zs,fr x=some zs->zs.length<=100000):PE (X.suite a ((a,oe)::pn)) (.Tuple es kk pos) (tU X.K aj a cls d i fun x=>(fr x).bind fun zs=>some (.tuple zs)):=by
 refine PE.weak (pe_tup hr) fun σ H Q ⟨g,ρ,M,x,z,I,e,k⟩=>?_
 obtain⟨zs,e1,e⟩:=asq.mp e
 cases e
 refine⟨g,ρ,M,x,zs,I,e1,fun vs H1 x1 r1=>⟨sz_of (by rw[r1.length];exact hn x zs e1),fun p np=>?_⟩⟩
 exact k (.ref p) _ (x1.trans (Ex.new np)) (.tup (st_of upd_same) (r1.ex (Ex.new np) (I.ex x1).inv.kd))
theorem Wj{x:dD}:∀{fs:List Str} {zs:List Dat},Nz y x fs=some zs->zs.length=fs.length
 |[],zs,h=>by cases h;rfl
 |f::fs,zs,h=>by
  rw[Nz]at h
  obtain⟨z1,e1,h⟩:=asq.mp h
  obtain⟨z2,e2,h⟩:=asq.mp h
  cases h
  simp[Wj e2]
theorem alb{i:Option Nat}{se:El}{st:List (Nat×El)}{D D':Ends}{σ:L2.St}{H:Hp}(h:tSu X.K aj a cls d i y ((j,se)::st) D σ H)(nx:∀σ' H',tSu X.K aj a cls d i y st D σ' H'->D'.nx σ' H') :
  tAsg (tU X.K aj a cls d i fun x=>PL y x se) (gName j) D' σ H:=by
 obtain⟨g,ρ,M,x,ρ2,I,e,nj,k⟩:=h
 rw[Ei]at e
 obtain⟨z,e1,e⟩:=asq.mp e
 refine⟨g,ρ,M,x,z,I,e1,fun v H' x1 r1=>nx _ _ ⟨g,ρ.set j (some (.dat z)),M,x,ρ2,⟨(I.ex x1).inv.set r1,(I.ex x1).xr,fun jj hj=>?_⟩,e,fun p hp=>nj p (asy _ hp),fun σ' H2 x2 I2=>k σ' H2 (x1.trans x2) I2⟩⟩
 have ne:j≠jj:=fun z=>nj (j,se) asz (by rw[hj,z])
 rw[asF ne]
 exact I.sl jj hj
theorem aly{i:Option Nat}{D:Ends}{σ:L2.St}{H:Hp}(h:tSu X.K aj a cls d i y [] D σ H):D.nx σ H:=by
 obtain⟨g,ρ,M,x,ρ2,I,e,nj,k⟩:=h
 cases e
 exact k σ H (Ex.refl H) I.inv
end
def anV(K:asr)(aj:aU)(h:Hd)(l:Cl):Prop:=(∃D,aj h.y=some D/\l.c=.ref D)/\acK K aj h.y h.tk/\l.nm=h.nm/\(l.ts=fun a cls d=>tSu K aj a cls d h.nm h.y h.st)/\∀p∈h.st,h.nm≠some p.1
inductive GP(K:asr)(aj:aU):List Hd->List Cl->Prop
 |nil:GP K aj [] []
 |cons {h:Hd} {l:Cl} {hs:List Hd} {ls:List Cl} (o:anV K aj h l) (r:GP K aj hs ls):GP K aj (h::hs) (l::ls)
theorem SInv.off{K:asr}{aj:aU}{σ:L2.St}{H:Hp}{g:Gh}{ρ:Env}{M:Mo}(I:SInv K aj σ H g ρ M)(i:Nat)(v:Option V):SInv K aj (σ.set i v) H g (ρ.set i none) M:=by
 have I2:=I.forget (j:=i)
 refine⟨I2.kd,I2.wok,by rw[asZ,asZ];exact I.len,fun j d h=>?_,fun j xs h=>?_,fun j k xs ys l ne h1 h2 h3=>?_⟩
 ·by_cases e:j=i
  ·subst e
   rw[atv]at h
   split at h <;> first | (split at h <;> cases h) | (exact absurd rfl ‹¬_›)
  ·obtain⟨v',a1,a2⟩:=I2.dat j d h
   rw[asF (Ne.symm e)]at a1
   exact⟨v',by rw[asF (Ne.symm e)];exact a1,a2⟩
 ·by_cases e:j=i
  ·subst e
   rw[atv]at h
   split at h <;> first | (split at h <;> cases h) | (exact absurd rfl ‹¬_›)
  ·obtain⟨l,us,a1,a2⟩:=I2.own j xs h
   rw[asF (Ne.symm e)]at a1
   exact⟨l,us,by rw[asF (Ne.symm e)];exact a1,a2⟩
 ·have n1:j≠i:=fun z=>by
   subst z
   rw[atv]at h1
   split at h1 <;> first | (split at h1 <;> cases h1) | (exact absurd rfl ‹¬_›)
  have n2:k≠i:=fun z=>by
   subst z
   rw[atv]at h2
   split at h2 <;> first | (split at h2 <;> cases h2) | (exact absurd rfl ‹¬_›)
  rw[asF (Ne.symm n1)]at h1 h3
  rw[asF (Ne.symm n2)]at h2 ⊢
  exact I.sep j k xs ys l ne h1 h2 h3
section
variable{X:Cx}{aj:aU}{W:WX}{q:Bool}{body:List Stmt}{h0:ExceptHandler}{hds:List ExceptHandler}{hs:List Hd}{ls:List Cl}{pos:Pos}{f:SF}
theorem alh{D:Ends}{g g':Gh}{H H':Hp}{σ':L2.St}{ρ':Env}{M':Mo}{x:dD}{c:Value}{dd:Option Addr}(ha:GP X.K aj hs ls)(r:Gr q g g' H H')(I:SInv X.K aj σ' H' g' ρ' M')(xr:qJ X.K aj g'.fr H' x c dd)
  (z:(hdl hs x ρ' M').sat (sN X.K aj q D.nx g H) (sR X.K aj q D.rt g H) (sN X.K aj q D.bk g H) (sN X.K aj q D.ct g H) (sX X.K aj W q g H)):YC X.K W D ls c dd σ' H':=by
 induction ha with
 |nil=>exact z σ' H' g' c dd r I xr
 | @cons h l hs ls o _ ih=>
  obtain⟨⟨D0,o1,o2⟩,o3,o4,o5,o6⟩:=o
  rw[hdl]at z
  obtain⟨C,c1,c2,c3⟩:=id xr
  split at z
  ·next ht=>
   refine⟨true,by rw[c2,o2];exact o3 _ _ _ ht c1 _ o1,fun _ a na=>?_,fun y=>nomatch y⟩
   rw[o4,o5]
   split at z
   ·next hm=>
    split at z
    ·next ρ2 hr=>
     cases hnm:h.nm with
     |none=>
      rw[hnm]at hr z o6
      exact⟨g',ρ',M',x,ρ2,⟨I,xr,fun j hj=>nomatch hj⟩,hr,o6,fun σ2 H2 e2 I2=>z σ2 H2 g' (r.trans (Gr.ex e2)) I2⟩
     |some i=>
      rw[hnm]at hr z o6 hm
      refine⟨g',ρ'.set i none,M',x,ρ2,⟨I.off i _,xr,fun j hj=>?_⟩,hr,o6,fun σ2 H2 e2 I2=>z _ H2 g' (r.trans (Gr.ex e2)) (I2.off i none)⟩
      cases hj
      have hl:i < ρ'.length:=of_decide_eq_true hm
      rw[asS (by rw[I.len];exact hl)]
    ·exact False.elim z
   ·exact False.elim z
  ·next ht=>exact⟨false,by rw[c2,o2];exact o3 _ _ _ ht c1 _ o1,(fun y=>nomatch y),fun _=>ih z⟩
  ·exact False.elim z
theorem ajR(st:X.stack=X.env::X.outer)(hf:X.env.frame=some X.env.locals)(hN:X.N.Nodup)(tk:Takes X W)
  (hb:∀(W':WX) (pn:List (Addr×Obj)) (xe:Value->Shared->Prop),Takes (X.tr pn xe) W'->PassesOwn (model X.prog X.w) X.A X.env xe->JK aj (X.tr pn xe) W' q body f)
  (hh:Ce X (h0::hds) ls) (ha:GP X.K aj hs ls):SE aj X W q (.Try body (h0::hds) [] [] pos) (U6 f hs):=by
 refine PS.weak (aii (tb:=fun W'=>tS X.K aj W' q f) st hf hN tk (fun W' pn xe t p=>hb W' pn xe t p) hh) fun D σ H ⟨g,ρ,M,I,z⟩=>?_
 refine⟨g,ρ,M,I,?_⟩
 unfold U6 at z
 cases hfm:f M ρ with
 |next ρ' M'=>rw[hfm]at z;exact z
 |ret d M'=>rw[hfm]at z;exact z
 |brk ρ' M'=>rw[hfm]at z;exact z
 |cont ρ' M'=>rw[hfm]at z;exact z
 |bad=>rw[hfm]at z;exact z
 |exc x ρ' M'=>
  rw[hfm]at z
  exact fun σ' H' g' c dd r I' xr=>alh ha r I' xr z
end
section
variable{K:asr}{aj:aU}{W:WX}{g g':Gh}{H H':Hp}{σ:L2.St}{ρ:Env}{M:Mo}
theorem jF.grow{l:Addr}(r:Gr false g g' H H')(e:Ex H H')(k:Kd g H):∀{n:Bool} {kvs:List (Dat×Dat)},jF K aj g H l n kvs->jF K aj g' H' l n kvs
 |false,_,⟨kv,h1,h2,h3⟩=>⟨kv,e _ _ h1,h2,h3.gr r k⟩
 |true,_,⟨o,xs,vs,h1,h2,h3,h4,h5,h6⟩=>⟨o,xs,vs,e _ _ h1,h2,h3,h4.gr r k,h5,h6.gr r k⟩
theorem dU.grow{h:Nat}{f:Str}{v:V}(r:Gr false g g' H H')(e:Ex H H')(o:g'.ow=g.ow)(k:Kd g H):∀{fl:jd},dU K aj g H h f v fl->dU K aj g' H' h f v fl
 |.dat _,z=>Rep.gr r k z
 |.lst _ _,⟨l,us,h1,h2,h3,h4,h5⟩=>⟨l,us,h1,e _ _ h2,by rw[o];exact h3,h4.gr r k,r.tb h5⟩
 |.dic _ _,⟨l,h1,h2,h3⟩=>⟨l,h1,by rw[o];exact h2,h3.grow r e k⟩
theorem cP.grow{h:Nat}(r:Gr false g g' H H')(e:Ex H H')(o:g'.ow=g.ow)(k:Kd g H){fs:List (Str×V)}{gs:List (Str×jd)}(t:cP K aj g H h fs gs):cP K aj g' H' h fs gs:=by
 induction t with
 |nil=>exact .nil
 |cons z _ ih=>exact .cons (z.grow r e o k) ih
def Gh.push(g:Gh)(x:Addr):Gh:={ g with tbl:=g.tbl++[x] }
theorem aah{x a:Addr}(z:(g.push x).A a):g.A a∨a=x:=by
 rcases z with(z|z)|z|z
 ·rcases asO.mp z with z|z
  ·exact .inl (.inl (.inl z))
  ·exact .inr (asB.mp z)
 ·exact .inl (.inl (.inr z))
 ·exact .inl (.inr (.inl z))
 ·exact .inl (.inr (.inr z))
theorem YH{x a:Addr}(z:(g.push x).W a):g.W a∨a=x:=by
 rcases z with z|z
 ·rcases asO.mp z with z|z
  ·exact .inl (.inl z)
  ·exact .inr (asB.mp z)
 ·exact .inl (.inr z)
theorem T9{x:Addr}(e:Ex H H')(nx:H x=none):Gr false g (g.push x) H H' where
 keep:=fun a o h _ _=>e a o h
 keepW:=fun z=>nomatch z
 dom:=DG e
 tbl:=⟨[x],rfl⟩
 W:=fun a z=>z.elim (fun z=>.inl (atf _ z)) .inr
 nW:=fun a z=>(YH z).imp id fun z=>by rw[z];exact nx
 qg:=fun z=>nomatch z
 Lc:=rfl
 Lo:=fun _ z=>z
 nLo:=fun _ z=>.inl z
theorem abI{x:Addr}{o:HO}(k:Kd g H)(e:Ex H H')(nx:H x=none)(hx:H' x=some o)(m:Ir o):Kd (g.push x) H' where
 ob:=fun a z=>by
  rcases aah z with z|rfl
  ·obtain⟨u,h1,h2⟩:=k.ob a z
   exact⟨u,e _ _ h1,h2⟩
  ·exact⟨o,hx,m⟩
 lo:=fun a z y=>by
  rcases YH y with y|rfl
  ·exact k.lo a z y
  ·obtain⟨u,h1,_⟩:=k.ob a (.inr (.inr z))
   rw[nx]at h1
   cases h1
 lc:=fun a z=>by
  refine⟨fun y=>?_,(k.lc a z).2⟩
  rcases YH y with y|rfl
  ·exact(k.lc a z).1 y
  ·obtain⟨u,h1,_⟩:=k.ob a (.inr (.inl z))
   rw[nx]at h1
   cases h1
theorem ZX{x:Addr}{c:Str}(k:Kd g H)(w:fZ K aj g H M)(e:Ex H H')(nx:H x=none)(hx:c=""∨∃C dx,aj c=some C/\H' x=some (.ins C dx [])):fZ K aj (g.push x) H' (M++[⟨c,[]⟩]):=by
 have gt:∀{h:Nat} {a:Addr},(g.push x).tbl[h]?=some a->(g.tbl[h]?=some a)∨(h=M.length/\a=x):=fun {h a} z=>by
  have z:(g.tbl++[x])[h]?=some a:=z
  by_cases hl:h < g.tbl.length
  ·rw[asK hl]at z
   exact .inl z
  ·rw[asR (by omega)]at z
   have:=(asv.mp z).1
   simp at this
   have e0:h - g.tbl.length=0:=by omega
   rw[e0]at z
   cases z
   exact .inr ⟨by rw[←w.len];omega,rfl⟩
 have nin:∀{h:Nat},¬g.tbl[h]?=some x:=fun {h} z=>by
  obtain⟨u,h1,_⟩:=k.ob x (.inl (.inl (asC z)))
  rw[nx]at h1
  cases h1
 have ex:∀{h:Nat} {i:Inst},(M++[(⟨c,[]⟩:Inst)])[h]?=some i->M[h]?=some i∨i=⟨c,[]⟩:=fun {h i} h1=>by
  by_cases hl:h < M.length
  ·rw[asK hl]at h1
   exact .inl h1
  ·rw[asR (by omega)]at h1
   exact .inr (asB.mp (asC h1))
 refine⟨by show(g.tbl++[x]).length=_;simp[w.len],fun h j a h1 h2=>?_,fun h a i h1 h2 hcn=>?_,fun h i h1=>?_,fun h i h1=>?_,fun h a i h1 h2 hcn=>?_,fun h i h1 hcn=>?_,w.nc⟩
 ·rcases gt h1 with z1|⟨z1,rfl⟩
  ·rcases gt h2 with z2|⟨z2,rfl⟩
   ·exact w.inj h j a z1 z2
   ·exact absurd z1 nin
  ·rcases gt h2 with z2|⟨z2,_⟩
   ·exact absurd z2 nin
   ·omega
 ·rcases gt h1 with z1|⟨rfl,rfl⟩
  ·have hl:h < M.length:=by rw[←w.len];exact(asv.mp z1).1
   rw[asK hl]at h2
   obtain⟨C',dx',fs,c1,c2,c3⟩:=w.ins h a i z1 h2 hcn
   exact⟨C',dx',fs,c1,e _ _ c2,c3.grow (T9 e nx) e rfl k⟩
  ·rw[asR (as3 _),Nat.sub_self]at h2
   cases h2
   rcases hx with rfl|⟨C,dx,hc,hx⟩
   ·exact absurd rfl hcn
   ·exact⟨C,dx,[],hc,hx,.nil⟩
 ·rcases ex h1 with h1|rfl
  ·exact w.nd h i h1
  ·exact atR
 ·rcases ex h1 with h1|rfl
  ·exact w.fd h i h1
  ·exact fun f hf=>absurd hf atc
 ·rcases gt h1 with z1|⟨_,rfl⟩
  ·have hl:h < M.length:=by rw[←w.len];exact(asv.mp z1).1
   rw[asK hl]at h2
   exact w.tw h a i z1 h2 hcn
  ·cases hz:g.ow a with
   |none=>exact hz
   |some p=>
    obtain⟨u,h2,_⟩:=k.ob a (.inl (.inr (by rw[hz];exact fun y=>nomatch y)))
    rw[nx]at h2
    cases h2
 ·rcases ex h1 with h1|rfl
  ·exact w.dm h i h1 hcn
  ·rfl
theorem SInv.grow{M':Mo}(r:Gr false g g' H H')(e:Ex H H')(lo:g'.Lo=g.Lo)(k':Kd g' H')(w':fZ K aj g' H' M')(I:SInv K aj σ H g ρ M):SInv K aj σ H' g' ρ M' where
 kd:=k'
 wok:=w'
 len:=I.len
 dat:=fun i d h=>by
  obtain⟨v,h1,h2⟩:=I.dat i d h
  exact⟨v,h1,h2.gr r I.kd⟩
 own:=fun i xs h=>by
  obtain⟨l,us,h1,h2,h3,h4⟩:=I.own i xs h
  exact⟨l,us,h1,e _ _ h2,by rw[lo];exact h3,h4.gr r I.kd⟩
 sep:=I.sep
end
theorem ac3{P:Program}{w:World}{K:asr}{mg:Str->Option Value}{base:Heap}{k:Nat}{f:Addr}{fd:FuncData}{ps:List Str}{sp:Sp}(F:FnOk P w K mg base (L2.CX P w) k f fd ps sp):FnOk P w K mg base L2.CX0 k f fd ps fun vs H Q _=>sp vs H Q fun _ _ _=>False:=
 ⟨fun vs H Q E h=>F.len vs H Q _ h,fun A outer s H args us vs Q E hr he hb hv h=>codeAny_mono (F.run A outer s H args us vs Q _ hr he hb hv h) fun r s' z=>by
  unfold CR at z ⊢
  split at z
  ·exact z
  ·exact z
  ·obtain⟨a,B,H',cls,d,_,_,_,_,_,_,_,y⟩:=z
   exact False.elim y⟩
def Bl(x:Str)(m:Mo->List Dat->bx Dat)(as:QA):GF:=fun M ρ=>((as M ρ).at M).bind fun ds _=>match m (M++[⟨x,[]⟩]) (obj M.length::ds) with
 |.ok .none M'=>.ok (obj M.length) M'
 |_=>.bad
section
variable{X:Cx}{aj:aU}{W:WX}{x:Str}{pos p:Pos}{k n:Nat}{m:Mo->List Dat->bx Dat}{as:QA}{t:TA}{e:Expr}{es:List Expr}
theorem adW{C f:Addr}{fd:FuncData}{ps:List Str}(hc:aj x=some C)(hp:ps.length=n+1)(hn:∀M ρ ds,as M ρ=.ok ds->ds.length=n)(ht:∀σ H Q,Ol X.K aj W as σ H Q->t σ H Q)(σ:L2.St)(H:Hp)(Q:VK)(h:tE X.K aj W false (Bl x m as) σ H Q) :
  tMake C (fun vs H Q _=>JV X.K aj ps.length m vs H Q fun _ _ _=>False) [] (fun _ _ _=>False) t σ H Q:=by
 obtain⟨g,ρ,M,I,h⟩:=h
 unfold Bl at h
 have h:=h.bnd
 refine ht σ H _ ⟨g,ρ,M,I,?_⟩
 cases has:as M ρ with
 |exc x=>rw[has]at h;exact fun H' c dd e r=>h H' g c dd (Gr.ex e) (I.ex e) r
 |bad=>rw[has]at h;exact False.elim h
 |ok ds=>
  rw[has]at h
  intro vs H1 e1 r1 y dx ny ndx ne
  have I1:=I.ex e1
  have e2:Ex H1 (upd (upd H1 dx (.own y)) y (.ins C dx [])):=by
   refine(Ex.new ndx).trans (Ex.new ?_)
   rw[upd_ne ne.symm]
   exact ny
  have hy:upd (upd H1 dx (.own y)) y (.ins C dx []) y=some (.ins C dx []):=upd_same
  have gr:=T9 (g:=g) e2 ny
  have kd:=abI I1.kd e2 ny hy trivial
  have wk:=ZX (c:=x) I1.kd I1.wok e2 ny (.inr ⟨C,dx,hc,hy⟩)
  have I2:=I1.grow gr e2 rfl kd wk
  have hb:(g.push y).tbl[M.length]?=some y:=by
   show(g.tbl++[y])[M.length]?=_
   rw[←I1.wok.len,asR (as3 _),Nat.sub_self]
   rfl
  refine⟨by rw[atm,asM,r1.length,hn M ρ ds has,hp],g.push y,M++[⟨x,[]⟩],obj M.length::ds,kd,wk,.cons (.obj hb) (by rw[atm];exact r1.gr gr I1.kd),?_⟩
  have h:bx.sat (match m (M++[(⟨x,[]⟩:Inst)]) (obj M.length::ds) with
   |.ok .none M'=>bx.ok (obj M.length) M'
   |_=>.bad) (fun d M'=>∀v H' g',Gr false g g' H H'->SInv X.K aj σ H' g' ρ M'->Rep X.K g' H' v d->Q v H') (gE X.K aj W false g H σ ρ):=h
  cases hm:m (M++[⟨x,[]⟩]) (obj M.length::ds) with
  |bad=>rw[hm]at h;exact False.elim h
  |exc z M'=>rw[hm]at h;exact False.elim h
  |ok d M'=>
   rw[hm]at h
   cases d with
   |none=>exact fun v H' g' c k' w' r'=>⟨by cases r';rfl,h (.ref y) H' g' (((Gr.ex e1).trans gr).trans c.gr) (I2.call c k' w') (.obj (c.gr.tb hb))⟩
   |_=>exact False.elim h
theorem alB(hr:Room k X.A)(g:aZ X.prog X.w X.K X.mg X.base aj k x (.cls n m))(hg:Gl X x)(hd:(x==("__debug__" : Str))=false)(ha:Fd aj X W (e::es) as)(hs:(e::es).all nst=true)(hn:∀M ρ ds,as M ρ=.ok ds->ds.length=n) :
  GE aj X W false (.Call (.Name x p) (e::es) [] pos) (Bl x m as):=by
 obtain⟨C,f,fd,ps,j,g1,g2,_,g3,hj,hp,hB,F⟩:=g
 have hs':=hs
 rw[ate,asu]at hs'
 exact PE.weak (pe_make (E:=fun _ _ _=>False) g3 (ac3 F) (hr.mono hj) hg g1 hB .nil pass0 ha hd (cQ hs'.1 es) (star_any es hs'.2)) fun σ H Q h=>adW (f:=f) (fd:=fd) g2 hp hn (fun _ _ _ z=>z) σ H Q h
theorem aiB(hr:Room k X.A)(g:aZ X.prog X.w X.K X.mg X.base aj k x (.cls 0 m))(hg:Gl X x)(hd:(x==("__debug__" : Str))=false):GE aj X W false (.Call (.Name x p) [] [] pos) (Bl x m au):=by
 obtain⟨C,f,fd,ps,j,g1,g2,_,g3,hj,hp,hB,F⟩:=g
 exact PE.weak (pe_make0 (E:=fun _ _ _=>False) g3 (ac3 F) (hr.mono hj) hg g1 hB .nil pass0 hd) fun σ H Q h=>adW (f:=f) (fd:=fd) (as:=au) g2 hp (fun M ρ ds z=>by cases z;rfl) (fun σ H Q ⟨g,ρ,M,I,z⟩=>z [] H (Ex.refl H) .nil) σ H Q h
end
def sJ(m:Mo->List Dat->bx Dat)(as:QA):GF:=fun M ρ=>((as M ρ).at M).bind fun ds _=>m M ds
section
variable{X:Cx}{aj:aU}{W:WX}{e:Expr}{es:List Expr}{pos p:Pos}{x:Str}{k:Nat}{f:Addr}{fd:FuncData}{ps:List Str}
theorem ahQ{m:Mo->List Dat->bx Dat}{as:QA}(tk:Takes X W)(F:FnOk X.prog X.w X.K X.mg X.base (L2.CX X.prog X.w) k f fd ps (JV X.K aj ps.length m))(hr:Room k X.A)(hg:Gl X x)(hm:X.mg x=some (.ref f))(hk:PySem.W.keepIn X.K (.ref f)=true)(hb:Binds X.K fd ps [])
  (ha:Fd aj X W (e::es) as) (hl:(e::es).length=ps.length) (hd:(x==("__debug__" : Str))=false) (hs:(e::es).all nst=true) (hn:∀M ρ ds,as M ρ=.ok ds->ds.length=(e::es).length):GE aj X W false (.Call (.Name x p) (e::es) [] pos) (sJ m as):=by
 have hs':=hs
 rw[ate,asu]at hs'
 refine PE.weak (pe_callS (E:=fun σ=>WE W σ) F hr hg hm hk hb (fun σ=>passAt tk σ) ha hd (cQ hs'.1 es) (star_any es hs'.2)) fun σ H Q ⟨g,ρ,M,I,h⟩=>?_
 refine⟨g,ρ,M,I,?_⟩
 have h:=h.bnd
 cases has:as M ρ with
 |exc x=>rw[has]at h;exact fun H' c dd e r=>h H' g c dd (Gr.ex e) (I.ex e) r
 |bad=>rw[has]at h;exact False.elim h
 |ok ds=>
  rw[has]at h
  have h:(m M ds).sat (fun d M'=>∀v H' g',Gr false g g' H H'->SInv X.K aj σ H' g' ρ M'->Rep X.K g' H' v d->Q v H') (gE X.K aj W false g H σ ρ):=h
  intro vs H1 e1 r1
  exact⟨by rw[r1.length,hn M ρ ds has];exact hl,g,M,ds,I.kd.ex e1,I.wok.ex e1 I.kd,r1,h.mono (fun d M' kk v H' g' c k' w' r'=>kk v H' g' ((Gr.ex e1).trans c.gr) ((I.ex e1).call c k' w') r') fun x M' kk H' g' cc dd c k' w' r'=>kk H' g' cc dd ((Gr.ex e1).trans c.gr) ((I.ex e1).call c k' w') r'⟩
end
def Ft.has(ft:Ft)(c f:Str):Bool:=match ft.lookup c with
 |some fs=>fs.contains f
 |none=>false
def KR(ft:Ft)(aj:aU):Prop:=∀c f,ft.has c f=true->f∈aj.fl c
def unH:Dat->Option Nat
 |.dict [(.none,.int (.ofNat h))]=>some h
 |_=>none
theorem afG{d:Dat}{h:Nat}(e:unH d=some h):d=obj h:=by
 unfold unH at e
 split at e
 ·cases e;rfl
 ·cases e
def kh(M:Mo)(d:Dat):Option (Nat×Inst):=(unH d).bind fun h=>(M[h]?).bind fun i=>match i.cls=="" with
 |true=>none
 |false=>some (h,i)
theorem Jq{M:Mo}{d:Dat}{h:Nat}{i:Inst}(e:kh M d=some (h,i)):d=obj h/\M[h]?=some i/\i.cls≠"":=by
 unfold kh at e
 obtain⟨h',e1,e⟩:=asq.mp e
 obtain⟨i',e2,e⟩:=asq.mp e
 split at e
 ·cases e
 ·next hc=>
  cases e
  exact⟨afG e1,e2,fun z=>by rw[z]at hc;cases hc⟩
def uM(ft:Ft)(o:QF)(f:Str)(e:GF):SF:=fun M ρ=>(e M ρ).then ρ fun d M1=>((o M1 ρ).at M1).then ρ fun od M2=>match kh M2 od with
 |some (h,i)=>match ft.has i.cls f&&decide (i.fs.length < 100) with
  |true=>.next ρ (M2.set h (i.put f (.dat d)))
  |false=>.bad
 |none=>.bad
theorem SInv.chg{K:asr}{aj:aU}{σ:L2.St}{H H':Hp}{g g':Gh}{ρ:Env}{M M':Mo}{h:Nat}{f:Str}(I:SInv K aj σ H g ρ M)(c:Chg M g g' H H' h f)(w:fZ K aj g' H' M'):SInv K aj σ H' g' ρ M':=I.call c.gc c.kd w
section
variable{X:Cx}{aj:aU}{W:WX}{o e:Expr}{f:Str}{pos pos':Pos}{ft:Ft}{fo:QF}
theorem Hq{K:asr}{g:Gh}{H:Hp}{M:Mo}{d:Dat}{v:V}{h:Nat}{i:Inst}(co:jH K aj)(fk:KR ft aj)(w:fZ K aj g H M)(r:eE K g H v d)(hi:kh M d=some (h,i))(hf:ft.has i.cls f=true):∃a C dx fs,d=obj h/\M[h]?=some i/\i.cls≠""/\g.tbl[h]?=some a/\v=.ref a/\aj i.cls=some C/\H a=some (.ins C dx fs)/\cP K aj g H h fs i.fs/\Cls K C/\NoAttr K C f/\f∈aj.fl i.cls:=by
 obtain⟨rfl,h1,h2⟩:=Jq hi
 obtain⟨a,rfl,ha⟩:=Kr r
 obtain⟨C,dx,fs,c1,c2,c3⟩:=w.ins h a i ha h1 h2
 have hfl:=fk _ _ hf
 obtain⟨k1,k2⟩:=co i.cls C f c1 hfl
 exact⟨a,C,dx,fs,rfl,h1,h2,ha,rfl,c1,c2,c3,k1,k2,hfl⟩
theorem aiP{fe:GF}(co:jH X.K aj)(fk:KR ft aj)(ho:QW aj X W o fo)(he:GE aj X W false e fe)(hs:swapsWith e (some (.Attribute o f pos')) pos.line X.env=pure false):SE aj X W false (.Assign [.Attribute o f pos'] e pos) (uM ft fo f fe):=by
 refine PS.weak (ps_fld ho he hs) fun D σ H ⟨g,ρ,M,I,z⟩=>?_
 refine tE.go I (dB (σ:=σ) z) fun d M1 v H1 g1 k1 r1 I1 rv=>?_
 refine tW.go I1 (k:=fun od=>((match kh M1 od with
  |some (h,i)=>match ft.has i.cls f&&decide (i.fs.length < 100) with
   |true=>tV.next ρ (M1.set h (i.put f (.dat d)))
   |false=>.bad
  |none=>.bad).sat (sN X.K aj false D.nx g H) (sR X.K aj false D.rt g H) (sN X.K aj false D.bk g H) (sN X.K aj false D.ct g H) (sX X.K aj W false g H))) ?_ fun od u H2 k2 e2 ru=>?_
 ·have k1:=Out.jf (dB (σ:=σ) k1)
  exact k1.mono (fun _ y=>y) fun x y H' c dd ex rx=>y H' g1 c dd (r1.trans (Gr.ex ex)) (I1.ex ex) rx
 ·have I2:=I1.ex e2
  split at k2
  ·next h i hi=>
   split at k2
   ·next hb=>
    rw[asu]at hb
    obtain⟨a,C,dx,fs,_,m1,m2,ha,rfl,c1,c2,c3,c4,c5,c6⟩:=Hq co fk I2.wok ru hi hb.1
    refine⟨a,C,dx,fs,rfl,c2,c4,c5,?_,?_⟩
    ·have:=of_decide_eq_true hb.2
     rw[c3.len]
     omega
    ·have ch:=Ux (f:=f) (C:=C) (dx:=dx) (fs':=putF f v fs) I2.kd I2.wok ha m1 m2
     have w':=I2.wok.chg I2.kd ch ha m1 m2 c6 c1 c3 upd_same (fl:=.dat d) (show Rep X.K g1 _ v d from(rv.ex e2 I1.kd).gr ch.gc.gr I2.kd)
     exact k2 σ _ g1 ((r1.trans (Gr.ex e2)).trans ch.gc.gr) (I2.chg ch w')
   ·exact False.elim k2
  ·exact False.elim k2
end
mutual
theorem Rep.mv{K:asr}{g g':Gh}{H:Hp}(tb:∀(h:Nat) (a:Addr),g.tbl[h]?=some a->g'.tbl[h]?=some a)(n:∀a,g'.A a->g.A a):∀{v:V} {d:Dat},Rep K g H v d->Rep K g' H v d
 |_,_,.non=>.non
 |_,_,.bl b=>.bl b
 |_,_,.int i=>.int i
 |_,_,.str x=>.str x
 |_,_,.tup h t=>.tup h (aK.mv tb n t)
 |_,_,.lst h t=>.lst (h.elim (fun z=>.inl ⟨z.1,fun y=>z.2 (n _ y)⟩) .inr) (aK.mv tb n t)
 |_,_,.obj h=>.obj (tb _ _ h)
theorem aK.mv{K:asr}{g g':Gh}{H:Hp}(tb:∀(h:Nat) (a:Addr),g.tbl[h]?=some a->g'.tbl[h]?=some a)(n:∀a,g'.A a->g.A a):∀{vs:List V} {ds:List Dat},aK K g H vs ds->aK K g' H vs ds
 |_,_,.nil=>.nil
 |_,_,.cons h t=>.cons (Rep.mv tb n h) (aK.mv tb n t)
end
def Es(ft:Ft)(o:QF)(f:Str)(e:IF):SF:=fun M ρ=>((e M ρ).at M).then ρ fun xs M0=>((o (M0++[⟨"",[]⟩]) ρ).at (M0++[⟨"",[]⟩])).then ρ fun od M2=>match kh M2 od with
 |some (h,i)=>match ft.has i.cls f&&decide (i.fs.length < 100) with
  |true=>.next ρ (M2.set h (i.put f (.lst M0.length xs)))
  |false=>.bad
 |none=>.bad
theorem Lr{K:asr}{aj:aU}{σ:L2.St}{H H':Hp}{g:Gh}{ρ:Env}{M:Mo}{l:Addr}{o:HO}(I:SInv K aj σ H g ρ M)(nl:H l=none)(e:Ex H H')(hl:H' l=some o)(m:Ir o):Gr false g (g.push l) H H'/\SInv K aj σ H' (g.push l) ρ (M++[⟨"",[]⟩])/\(g.push l).tbl[M.length]?=some l/\(g.push l).ow l=none/\(M++[(⟨"",[]⟩:Inst)])[M.length]?=some ⟨"",[]⟩:=by
 have gr:=T9 (g:=g) e nl
 have kd:=abI I.kd e nl hl m
 have wk:=ZX (c:="") I.kd I.wok e nl (.inl rfl)
 refine⟨gr,I.grow gr e rfl kd wk,?_,?_,?_⟩
 ·show(g.tbl++[l])[M.length]?=_
  rw[←I.wok.len,asR (as3 _),Nat.sub_self]
  rfl
 ·cases hz:g.ow l with
  |none=>exact hz
  |some p=>
   obtain⟨u,h1,_⟩:=I.kd.ob l (.inl (.inr (by rw[hz];exact fun y=>nomatch y)))
   rw[nl]at h1
   cases h1
 ·rw[asR (as3 _),Nat.sub_self]
  rfl
section
variable{X:Cx}{aj:aU}{W:WX}{o e:Expr}{f:Str}{pos pos' p1 apos epos spos:Pos}{ft:Ft}{fo:QF}
theorem ai3{fe:IF}(co:jH X.K aj)(fk:KR ft aj)(ho:QW aj X W o fo)(he:FE aj X W e fe)(hs:swapsWith e (some (.Attribute o f pos')) pos.line X.env=pure false):SE aj X W false (.Assign [.Attribute o f pos'] e pos) (Es ft fo f fe):=by
 refine PS.weak (ps_fld ho he hs) fun D σ H ⟨g,ρ,M,I,z⟩=>?_
 refine⟨g,ρ,M,I,?_⟩
 unfold Es at z
 cases hf:fe M ρ with
 |exc x=>rw[hf]at z;exact fun H' c dd e r=>z σ H' g c dd (Gr.ex e) (I.ex e) r.fr
 |bad=>rw[hf]at z;exact False.elim z
 |ok xs=>
  rw[hf]at z
  intro l us H1 nl e1 hl rs
  obtain⟨gr,I1,tb,ow,mm⟩:=Lr I nl e1 hl trivial
  have rs1:aK X.K (g.push l) H1 us xs:=aK.mv (g:=g.add l) (g':=g.push l) (fun h a z=>gr.tb (g:=g) z) (fun a z=>by
   rcases aah z with z|rfl
   ·rcases z with z|z|z
    ·exact .inl z
    ·exact .inr (.inl z)
    ·exact .inr (.inr (show g.Lo a∨a=l from Or.inl z))
   ·exact .inr (.inr (show g.Lo a∨a=a from Or.inr rfl))) rs
  have z:(((fo (M++[⟨"",[]⟩]) ρ).at (M++[⟨"",[]⟩])).then ρ fun od M2=>match kh M2 od with
   |some (h,i)=>match ft.has i.cls f&&decide (i.fs.length < 100) with
    |true=>.next ρ (M2.set h (i.put f (.lst M.length xs)))
    |false=>.bad
   |none=>.bad).sat (sN X.K aj false D.nx g H) (sR X.K aj false D.rt g H) (sN X.K aj false D.bk g H) (sN X.K aj false D.ct g H) (sX X.K aj W false g H):=z
  have k1:=Out.jf (dB (σ:=σ) z)
  refine tW.go I1 (k1.mono (fun _ y=>y) fun x y H' c dd ex rx=>y H' _ c dd (gr.trans (Gr.ex ex)) (I1.ex ex) rx) fun od u H2 k2 e2 ru=>?_
  have I2:=I1.ex e2
  split at k2
  ·next h i hi=>
   split at k2
   ·next hb=>
    rw[asu]at hb
    obtain⟨a,C,dx,fs,_,m1,m2,ha,rfl,c1,c2,c3,c4,c5,c6⟩:=Hq co fk I2.wok ru hi hb.1
    have nla:l≠a:=fun z=>by
     subst z
     cases I2.wok.inj _ _ _ ha tb
     rw[mm]at m1
     cases m1
     exact m2 rfl
    refine⟨a,C,dx,fs,rfl,c2,c4,c5,?_,?_⟩
    ·have:=of_decide_eq_true hb.2
     rw[c3.len]
     omega
    ·have ch:=Uz (f:=f) (C:=C) (dx:=dx) (fs':=putF f (.ref l) fs) I2.kd I2.wok ha m1 m2 tb mm ow
     have w':=I2.wok.chg I2.kd ch ha m1 m2 c6 c1 c3 upd_same (v:=.ref l) (fl:=.lst M.length xs) ⟨l,us,rfl,by rw[upd_ne nla];exact e2 _ _ hl,if_pos rfl,(rs1.ex e2 I1.kd).gr ch.gc.gr I2.kd,ch.gc.gr.tb tb⟩
     exact k2 σ _ _ ((gr.trans (Gr.ex e2)).trans ch.gc.gr) (I2.chg ch w')
   ·exact False.elim k2
  ·exact False.elim k2
def FZ(M:Mo)(f:Str)(d:Dat):Option (Nat×Inst×Nat×List Dat):=(kh M d).bind fun p=>match p.2.fs.lookup f with
 |some (.lst n xs)=>some (p.1,p.2,n,xs)
 |_=>none
theorem Uw{K:asr}{g:Gh}{H:Hp}{M:Mo}{d:Dat}{v:V}{h n:Nat}{i:Inst}{xs:List Dat}(co:jH K aj)(w:fZ K aj g H M)(r:eE K g H v d)(hi:FZ M f d=some (h,i,n,xs)) :
  ∃a C dx fs l us,d=obj h/\M[h]?=some i/\i.cls≠""/\i.fs.lookup f=some (.lst n xs)/\g.tbl[h]?=some a/\v=.ref a/\aj i.cls=some C/\H a=some (.ins C dx fs)/\cP K aj g H h fs i.fs/\Cls K C/\NoAttr K C f/\f∈aj.fl i.cls/\fs.lookup f=some (.ref l)/\H l=some (.lst us)/\g.ow l=some (h,f)/\aK K g H us xs/\g.tbl[n]?=some l:=by
 unfold FZ at hi
 obtain⟨⟨h',i'⟩,h1,hi⟩:=asq.mp hi
 split at hi
 ·next n' xs' hl=>
  cases hi
  obtain⟨rfl,m1,m2⟩:=Jq h1
  obtain⟨a,rfl,ha⟩:=Kr r
  obtain⟨C,dx,fs,c1,c2,c3⟩:=w.ins _ a _ ha m1 m2
  have hfl:=w.fd _ _ m1 f (lookup_mem hl)
  obtain⟨k1,k2⟩:=co _ C f c1 hfl
  obtain⟨u,l1,l,us,rfl,l3,l4,l5,l6⟩:=c3.get hl
  exact⟨a,C,dx,fs,l,us,rfl,m1,m2,hl,ha,rfl,c1,c2,c3,k1,k2,hfl,l1,l3,l4,l5,l6⟩
 ·cases hi
theorem abv{K:asr}{σ:L2.St}{ρ:Env}{g:Gh}{H:Hp}{M:Mo}{h n:Nat}{i:Inst}{ys:List Dat}{a C dx l:Addr}{fs:List (Str×V)}{us':List V}(I:SInv K aj σ H g ρ M)(m1:M[h]?=some i)(m2:i.cls≠"")(ha:g.tbl[h]?=some a)(c1:aj i.cls=some C)(c2:H a=some (.ins C dx fs))(c3:cP K aj g H h fs i.fs)(hfl:f∈aj.fl i.cls)(l1:fs.lookup f=some (.ref l))(l4:g.ow l=some (h,f))(l6:g.tbl[n]?=some l)(rs:aK K g H us' ys) :
  Gr false g g H (upd H l (.lst us'))/\SInv K aj σ (upd H l (.lst us')) g ρ (M.set h (i.put f (.lst n ys))):=by
 have ch:=aft (o':=.lst us') I.kd I.wok l4 trivial
 have nla:a≠l:=fun z=>by
  subst z
  rw[I.wok.tw h a i ha m1 m2]at l4
  cases l4
 have w':=I.wok.chg I.kd ch ha m1 m2 hfl c1 (dx:=dx) c3 (v:=.ref l) (fl:=.lst n ys) (by rw[upd_ne nla,Mq l1];exact c2) ⟨l,us',rfl,upd_same,l4,rs.gr ch.gc.gr I.kd,l6⟩
 exact⟨ch.gc.gr,I.chg ch w'⟩
def Ed(f:Str)(o:QF)(e:GF):SF:=fun M ρ=>((o M ρ).at M).then ρ fun od M0=>match FZ M0 f od with
 |some (_,_,n,_)=>(e M0 ρ).then ρ fun d M1=>match FZ M1 f od with
  |some (h,i,n',xs)=>match n==n'&&decide (xs.length < 100000) with
   |true=>.next ρ (M1.set h (i.put f (.lst n (xs++[d]))))
   |false=>.bad
  |none=>.bad
 |none=>.bad
theorem ain{fe:GF}(co:jH X.K aj)(ho:QW aj X W o fo)(hb:baseOk o=true)(he:GE aj X W false e fe)(hs:nst e=true)(hl:(apos.endLine==pos.line)=true) :
  SE aj X W false (.Expr (.Call (.Attribute (.Attribute o f p1) "append" apos) [e] [] pos) epos) (Ed f fo fe):=by
 have h0:=pe_fld (X:=X) (pos:=p1) (f:=f) ho (mH hb)
 have h1:=pa_cons he pa_nil (cQ hs [])
 have key:=pe_bm (X:=X) (cpos:=pos) (apos:=apos) PySem.F.plainAttrs_list PySem.F.slot_list_append PySem.F.type_list_append mt_append h0 h1 (mH rfl) (few (by simp[hs]) (by simp)) hl (cQ hs []) (by with_unfolding_all rfl)
 refine PS.weak (ps_expr key (by with_unfolding_all rfl)) fun D σ H ⟨g,ρ,M,I,z⟩=>?_
 unfold Ed at z
 have k1:=Out.jf (dB (σ:=σ) z)
 refine tW.go I (k1.mono (fun _ y=>y) fun x y H' c dd ex rx=>y H' _ c dd (Gr.ex ex) (I.ex ex) rx) fun od u H1 k2 e1 ru=>?_
 have I1:=I.ex e1
 split at k2
 ·next h0' i0 n xs0 hi=>
  obtain⟨a,C,dx,fs,l,us,rfl,m1,m2,ml,ha,rfl,c1,c2,c3,c4,c5,c6,l1,l3,l4,l5,l6⟩:=Uw co I1.wok ru hi
  refine⟨a,C,dx,fs,.ref l,rfl,c2,c4,c5,l1,.inl ⟨rfl,us,sq_of l3⟩,?_⟩
  refine tE.go I1 ((dB (σ:=σ) k2).mono (fun _ _ y=>y) fun x M' y=>y.gr (Gr.ex e1)) fun d M1 v H2 g2 k3 r2 I2 rv=>?_
  split at k3
  ·next h i n' xs hi2=>
   split at k3
   ·next hg=>
    rw[asu]at hg
    cases eq_of_beq hg.1
    have ru2:eE X.K g2 H2 (.ref a) (obj h0'):=Rep.weak (.obj (r2.tb ha))
    obtain⟨a',C',dx',fs',l',us',eh,n1,n2,nl,hb',ea,d1,d2,d3,d4,d5,d6,p1,p3,p4,p5,p6⟩:=Uw co I2.wok ru2 hi2
    cases ea
    have el:l'=l:=asW (p6.symm.trans (r2.tb l6))
    subst el
    obtain⟨gr,I3⟩:=abv (us':=us'++[v]) (ys:=xs++[d]) I2 n1 n2 hb' d1 d2 d3 d6 p1 p4 p6 (p5.append (.cons rv .nil))
    refine⟨l',us',v,rfl,rfl,p3,sz_lt (by rw[p5.length];exact of_decide_eq_true hg.2),?_⟩
    exact k3 σ _ g2 (((Gr.ex e1).trans r2).trans gr) I3
   ·exact False.elim k3
  ·exact False.elim k3
 ·exact False.elim k2
def Rk(f:Str)(o fi e:QF):SF:=fun M ρ=>((e M ρ).at M).then ρ fun d _=>((o M ρ).at M).then ρ fun od _=>match FZ M f od with
 |some (h,i,n,xs)=>((fi M ρ).at M).then ρ fun k _=>match k with
  |.int k=>match ixN xs.length k with
   |some j=>.next ρ (M.set h (i.put f (.lst n (xs.set j d))))
   |none=>.bad
  |_=>.bad
 |none=>.bad
theorem ah3{i:Expr}{fi fe:QF}(co:jH X.K aj)(ho:QW aj X W o fo)(hb:baseOk o=true)(he:QE aj X W e fe)(hi:QE aj X W i fi)
  (ha:∀v,assign (.Subscript (.Attribute o f p1) i spos) X.env v=(do
   let ov ←holding [v] (eval (.Attribute o f p1) X.env)
   let iv ←holding [v,ov] (eval i X.env)
   standAt spos
   holding [v,ov,iv] (setItem ov iv v)
   release [v,ov,iv] []))
  (hs:swapsWithSole [.Subscript (.Attribute o f p1) i spos] e pos.line X.env=pure false) (h1:(assignEach [.Subscript (.Attribute o f p1) i spos] X.env).map (·.2)=[assign (.Subscript (.Attribute o f p1) i spos) X.env]):SE aj X W false (.Assign [.Subscript (.Attribute o f p1) i spos] e pos) (Rk f fo fi fe):=by
 have h0:=pe_fld (X:=X) (pos:=p1) (f:=f) ho (mH hb)
 refine PS.weak (ps_asg he (pg_sub h0 hi set_list ha) hs (by with_unfolding_all rfl) h1) fun D σ H ⟨g,ρ,M,I,z⟩=>?_
 unfold Rk at z
 have k1:=Out.jf (dB (σ:=σ) z)
 refine tQ.go I (k1.mono (fun _ y=>y) fun x y H' c dd ex rx=>y H' _ c dd (Gr.ex ex) (I.ex ex) rx) fun d v H1 k2 e1 rv=>?_
 have I1:=I.ex e1
 have k2:=Out.jf (dB (σ:=σ) k2)
 refine tW.go I1 (k2.mono (fun _ y=>y) fun x y H' c dd ex rx=>y H' _ c dd ((Gr.ex e1).trans (Gr.ex ex)) (I1.ex ex) rx) fun od u H2 k3 e2 ru=>?_
 have I2:=I1.ex e2
 have e12:=e1.trans e2
 split at k3
 ·next h i' n xs hl=>
  obtain⟨a,C,dx,fs,l,us,rfl,m1,m2,ml,ha',rfl,c1,c2,c3,c4,c5,c6,l1,l3,l4,l5,l6⟩:=Uw co I2.wok ru hl
  refine⟨a,C,dx,fs,.ref l,rfl,c2,c4,c5,l1,?_⟩
  have k3:=Out.jf (dB (σ:=σ) k3)
  refine tQ.go I2 (k3.mono (fun _ y=>y) fun x y H' c dd ex rx=>y H' _ c dd ((Gr.ex e12).trans (Gr.ex ex)) (I2.ex ex) rx) fun k w H3 k4 e3 rw'=>?_
  have I3:=I2.ex e3
  cases k with
  |int k=>
   simp only at k4
   split at k4
   ·next j hj=>
    cases rw'
    obtain⟨gr,I4⟩:=abv (us':=us.set j v) (ys:=xs.set j d) I3 m1 m2 ha' c1 (e3 _ _ c2) (c3.ex e3 I2.kd) c6 l1 l4 l6 (((l5.ex e3 I2.kd).set ((rv.ex e2 I1.kd).ex e3 I2.kd) j))
    refine⟨l,us,k,j,rfl,rfl,e3 _ _ l3,by rw[l5.length];exact hj,?_⟩
    exact k4 σ _ g ((Gr.ex (e12.trans e3)).trans gr) I4
   ·exact False.elim k4
  |_=>exact False.elim k4
 ·exact False.elim k3
def Rh(ft:Ft)(f:Str)(o e:QF):SF:=fun M ρ=>((o M ρ).at M).then ρ fun od _=>match kh M od with
 |some (h,i)=>match i.fs.lookup f,ft.has i.cls f&&decide (i.fs.length < 100) with
  |some (.dat (.int a)),true=>((e M ρ).at M).then ρ fun d _=>match d with
   |.int b=>.next ρ (M.set h (i.put f (.dat (.int (a+b)))))
   |_=>.bad
  |_,_=>.bad
 |none=>.bad
theorem afX:InOp X .Add (fun x y H Q=>∃i j,x=.int i/\y=.int j/\Q (.int (i+j)) H):=by
 intro pins s σ H x y u v Q I rx ry h
 obtain⟨i,j,rfl,rfl,q⟩:=h
 exact iop_add pins s σ H _ _ u v Q I rx ry ⟨i,j,rfl,rfl,q⟩
theorem aiU{fe:QF}{tpos:Pos}(co:jH X.K aj)(fk:KR ft aj)(ho:QW aj X W o fo)(he:QE aj X W e fe):SE aj X W false (.AugAssign (.Attribute o f tpos) .Add e pos) (Rh ft f fo fe):=by
 refine PS.weak (ps_fldaug ho he afX) fun D σ H ⟨g,ρ,M,I,z⟩=>?_
 unfold Rh at z
 have k1:=Out.jf (dB (σ:=σ) z)
 refine tW.go I (k1.mono (fun _ y=>y) fun x y H' c dd ex rx=>y H' _ c dd (Gr.ex ex) (I.ex ex) rx) fun od u H1 k2 e1 ru=>?_
 have I1:=I.ex e1
 split at k2
 ·next h i hi=>
  split at k2
  ·next b hlk hb=>
   rw[asu]at hb
   obtain⟨a,C,dx,fs,_,m1,m2,ha,rfl,c1,c2,c3,c4,c5,c6⟩:=Hq co fk I1.wok ru hi hb.1
   obtain⟨v,l1,l2⟩:=c3.get hlk
   refine⟨a,C,dx,fs,v,rfl,c2,c4,c5,l1,?_⟩
   have k2:=Out.jf (dB (σ:=σ) k2)
   refine tQ.go I1 (k2.mono (fun _ y=>y) fun x y H' c dd ex rx=>y H' _ c dd ((Gr.ex e1).trans (Gr.ex ex)) (I1.ex ex) rx) fun d w H2 k3 e2 rd=>?_
   have I2:=I1.ex e2
   cases d with
   |int j=>
    cases rd
    have l2:Rep X.K g H1 v (.int b):=l2
    cases l2
    refine⟨b,j,rfl,rfl,dx,fs,e2 _ _ c2,?_,?_⟩
    ·have:=of_decide_eq_true hb.2
     rw[c3.len]
     omega
    ·have ch:=Ux (f:=f) (C:=C) (dx:=dx) (fs':=putF f (.int (b+j)) fs) I2.kd I2.wok ha m1 m2
     have w':=I2.wok.chg I2.kd ch ha m1 m2 c6 c1 (c3.ex e2 I1.kd) upd_same (v:=.int (b+j)) (fl:=.dat (.int (b+j))) (show Rep X.K g _ _ _ from .int _)
     exact k3 σ _ g ((Gr.ex (e1.trans e2)).trans ch.gc.gr) (I2.chg ch w')
   |_=>exact False.elim k3
  ·exact False.elim k2
 ·exact False.elim k2
end
mutual
def uD:Dat->Option NestedKey
 |.none=>some .none
 |.int i=>some (.num i)
 |.str x=>some (.text x)
 |.tuple ds=>(xX ds).map .tup
 |.bool _=>none
 |.list _=>none
 |.dict _=>none
def xX:List Dat->Option (List NestedKey)
 |[]=>some []
 |d::ds=>(uD d).bind fun k=>(xX ds).bind fun ks=>some (k::ks)
end
mutual
theorem Af:∀{d:Dat} {k:NestedKey},uD d=some k->k.data=d
 |.none,_,h=>by cases h;rfl
 |.int i,_,h=>by cases h;rfl
 |.str x,_,h=>by cases h;rfl
 |.tuple ds,_,h=>by
  rw[uD,atp]at h
  obtain⟨ks,h1,rfl⟩:=h
  rw[NestedKey.data,Tn h1]
theorem Tn:∀{ds:List Dat} {ks:List NestedKey},xX ds=some ks->NestedKey.datas ks=ds
 |[],_,h=>by cases h;rfl
 |d::ds,_,h=>by
  rw[xX]at h
  obtain⟨k,h1,h⟩:=asq.mp h
  obtain⟨ks,h2,h⟩:=asq.mp h
  cases h
  rw[NestedKey.datas,Af h1,Tn h2]
end
mutual
theorem ach:∀a b:NestedKey,PyData.eqv a.data b.data=NestedKey.beq a b
 |.none,.none=>by simp[NestedKey.data,PyData.eqv,NestedKey.beq]
 |.none,.num _=>by simp[NestedKey.data,PyData.eqv,NestedKey.beq]
 |.none,.text _=>by simp[NestedKey.data,PyData.eqv,NestedKey.beq]
 |.none,.tup _=>by simp[NestedKey.data,PyData.eqv,NestedKey.beq]
 |.num _,.none=>by simp[NestedKey.data,PyData.eqv,NestedKey.beq]
 |.num a,.num b=>by simp[NestedKey.data,PyData.eqv,NestedKey.beq];rfl
 |.num _,.text _=>by simp[NestedKey.data,PyData.eqv,NestedKey.beq]
 |.num _,.tup _=>by simp[NestedKey.data,PyData.eqv,NestedKey.beq]
 |.text _,.none=>by simp[NestedKey.data,PyData.eqv,NestedKey.beq]
 |.text _,.num _=>by simp[NestedKey.data,PyData.eqv,NestedKey.beq]
 |.text a,.text b=>by simp[NestedKey.data,PyData.eqv,NestedKey.beq];rfl
 |.text _,.tup _=>by simp[NestedKey.data,PyData.eqv,NestedKey.beq]
 |.tup _,.none=>by simp[NestedKey.data,PyData.eqv,NestedKey.beq]
 |.tup _,.num _=>by simp[NestedKey.data,PyData.eqv,NestedKey.beq]
 |.tup _,.text _=>by simp[NestedKey.data,PyData.eqv,NestedKey.beq]
 |.tup as,.tup bs=>by
  rw[NestedKey.data,NestedKey.data,PyData.eqv,NestedKey.beq]
  exact Yw as bs
theorem Yw:∀as bs:List NestedKey,PyData.eqvAll (NestedKey.datas as) (NestedKey.datas bs)=NestedKey.beqAll as bs
 |[],[]=>by simp[NestedKey.datas,PyData.eqvAll,NestedKey.beqAll]
 |[],_::_=>by simp[NestedKey.datas,PyData.eqvAll,NestedKey.beqAll]
 |_::_,[]=>by simp[NestedKey.datas,PyData.eqvAll,NestedKey.beqAll]
 |a::as,b::bs=>by
  rw[NestedKey.datas,NestedKey.datas,PyData.eqvAll,NestedKey.beqAll,ach a b,Yw as bs]
end
theorem abq(a b:NestedKey):PyData.eqv a.data b.data=decide (a=b):=by rw[ach,NestedKey.decide_eq]
section
variable{X:Cx}{pins:List (Addr×Obj)}{σ:L2.St}{H:Hp}{s:Shared}{g:Gh}
mutual
theorem key_is(I:L2.Inv X pins σ H s):∀{v:V} {d:Dat} {k:NestedKey} {u:Value},Rep X.K g H v d->uD d=some k->RelV v u->NestedIs s.heap k u
 |_,_,_,u,.non,e,r=>by
  cases e
  obtain rfl:u=.none:=r
  exact .none
 |_,_,_,_,.int i,e,r=>by
  cases e
  obtain⟨t,rfl⟩:=r
  exact .int i t
 |_,_,_,_,.str x,e,r=>by
  cases e
  obtain⟨t,rfl⟩:=r
  exact .text x t
 |_,_,_,u,.tup (a:=a) h t,e,r=>by
  rw[uD,atp]at e
  obtain⟨ks,h1,rfl⟩:=e
  obtain rfl:u=.ref a:=r
  obtain⟨its,r1,⟨o,e1,c1,n,d1⟩,_⟩:=I.tuple h
  exact .tup e1 c1 d1 (by simpa using abo I t h1 r1)
 |_,_,_,_,.bl b,e,r=>by cases e
 |_,_,_,_,.lst _ _,e,r=>by cases e
 |_,_,_,_,.obj _,e,r=>by cases e
theorem abo(I:L2.Inv X pins σ H s):∀{vs:List V} {ds:List Dat} {ks:List NestedKey} {us:List Value},aK X.K g H vs ds->xX ds=some ks->Vals vs us->NestedAll s.heap ks us
 |_,_,_,_,.nil,e,r=>by
  cases e
  cases r
  exact .nil
 |_,_,_,_,.cons h t,e,r=>by
  rw[xX]at e
  obtain⟨k,h1,e⟩:=asq.mp e
  obtain⟨ks,h2,e⟩:=asq.mp e
  cases e
  cases r with
  |cons r1 r2=>exact .cons (key_is I h h1 r1) (abo I t h2 r2)
end
end
mutual
theorem abO:∀k:NestedKey,uD k.data=some k
 |.none=>rfl
 |.num _=>rfl
 |.text _=>rfl
 |.tup ks=>by rw[NestedKey.data,uD,ZD ks];rfl
theorem ZD:∀ks:List NestedKey,xX (NestedKey.datas ks)=some ks
 |[]=>rfl
 |k::ks=>by rw[NestedKey.datas,xX,abO k,ZD ks];rfl
end
def dhas:Bool->List (Dat×Dat)->Dat->Out Bool
 |false,kvs,.int i=>.ok (kvs.any fun p=>PyData.eqv p.1 (.int i))
 |true,kvs,.tuple ds=>match uD (.tuple ds) with
  |some k=>match decide (k.depth<=8) with
   |true=>.ok (kvs.any fun p=>PyData.eqv p.1 (.tuple ds))
   |false=>.bad
  |none=>.bad
 |_,_,_=>.bad
def zE(M:Mo)(f:Str)(d:Dat):Option (Nat×Inst×Bool×List (Dat×Dat)):=(kh M d).bind fun p=>match p.2.fs.lookup f with
 |some (.dic b kvs)=>some (p.1,p.2,b,kvs)
 |_=>none
section
variable{aj:aU}{f:Str}
theorem Gn{K:asr}{g:Gh}{H:Hp}{M:Mo}{d:Dat}{v:V}{h:Nat}{i:Inst}{b:Bool}{kvs:List (Dat×Dat)}(co:jH K aj)(w:fZ K aj g H M)(r:eE K g H v d)(hi:zE M f d=some (h,i,b,kvs)) :
  ∃a C dx fs l,d=obj h/\M[h]?=some i/\i.cls≠""/\i.fs.lookup f=some (.dic b kvs)/\g.tbl[h]?=some a/\v=.ref a/\aj i.cls=some C/\H a=some (.ins C dx fs)/\cP K aj g H h fs i.fs/\Cls K C/\NoAttr K C f/\f∈aj.fl i.cls/\fs.lookup f=some (.ref l)/\g.ow l=some (h,f)/\jF K aj g H l b kvs:=by
 unfold zE at hi
 obtain⟨⟨h',i'⟩,h1,hi⟩:=asq.mp hi
 split at hi
 ·next b' kvs' hl=>
  cases hi
  obtain⟨rfl,m1,m2⟩:=Jq h1
  obtain⟨a,rfl,ha⟩:=Kr r
  obtain⟨C,dx,fs,c1,c2,c3⟩:=w.ins _ a _ ha m1 m2
  have hfl:=w.fd _ _ m1 f (lookup_mem hl)
  obtain⟨k1,k2⟩:=co _ C f c1 hfl
  obtain⟨u,l1,l,rfl,l3,l4⟩:=c3.get hl
  exact⟨a,C,dx,fs,l,rfl,m1,m2,hl,ha,rfl,c1,c2,c3,k1,k2,hfl,l1,l3,l4⟩
 ·cases hi
end
theorem Ub{kv:List (Key×V)}{i:Int}:∀{kvs:List (Dat×Dat)},kvs.map (·.1)=kv.map (fun p=>keyD p.1)->(kvs.any fun p=>PyData.eqv p.1 (.int i))=(valV kv (Sum.inl i)).isSome:=by
 induction kv with
 |nil=>
  intro kvs e
  cases kvs with
  |nil=>rfl
  |cons _ _=>cases e
 |cons p r ih=>
  intro kvs e
  cases kvs with
  |nil=>cases e
  |cons q t=>
   simp only[asx,List.cons.injEq]at e
   rw[atw,ih e.2,e.1]
   by_cases h:p.1=Sum.inl i
   ·rw[valV_pos h,h]
    simp[keyD,PyData.eqv]
   ·rw[valV_neg h]
    have:PyData.eqv (keyD p.1) (.int i)=false:=by
     cases hp:p.1 with
     |inl j=>
      have:j≠i:=fun z=>h (by rw[hp,z])
      simp[keyD,PyData.eqv,this]
     |inr x=>simp[keyD,PyData.eqv]
    rw[this,Bool.false_or]
theorem Iv{xs:List m9}{k:NestedKey}:∀{kvs:List (Dat×Dat)},kvs.map (·.1)=xs.map (fun x=>x.1.data)->(kvs.any fun p=>PyData.eqv p.1 k.data)=(atKey xs k).isSome:=by
 induction xs with
 |nil=>
  intro kvs e
  cases kvs with
  |nil=>rfl
  |cons _ _=>cases e
 |cons p r ih=>
  intro kvs e
  cases kvs with
  |nil=>cases e
  |cons q t=>
   simp only[asx,List.cons.injEq]at e
   rw[atw,ih e.2,e.1,abq]
   unfold atKey
   rw[List.find?_cons]
   cases hd:decide (p.1=k) with
   |true=>rfl
   |false=>rfl
theorem Hv{X:Cx}{pins:List (Addr×Obj)}{σ:L2.St}{H:Hp}{s:Shared}{g:Gh}{l:Addr}{o:Obj}{xs:List m9}{ks:List Dat}(I:L2.Inv X pins σ H s)(h1:H l=some (iT l o))(h2:lK X.w l o xs)(h3:ks=xs.map fun x=>x.1.data)(h4:aK X.K g H (xs.map fun x=>V.ref x.2.1) ks) :
  s.heap.DictOfH (nestedKind X.prog X.w) l xs:=by
 obtain⟨z1,_,_⟩:=(show ObjOk X.prog X.w H s.heap l (iT l o) from I.hok l _ h1)
 obtain⟨es,ep,e1,e2⟩:=h2.ent
 refine⟨o,es,ep,z1,h2.ex,e1,e2,fun x hx=>?_,h2.nd⟩
 refine⟨?_,h2.dep x hx⟩
 obtain⟨n,hn⟩:=List.mem_iff_getElem?.mp hx
 obtain⟨d,hd1,hd2⟩:=h4.get' (i:=n) (v:=V.ref x.2.1) (by rw[asI,hn];rfl)
 rw[h3,asI,hn]at hd1
 cases hd1
 exact key_is I hd2 (abO x.1) rfl
def rInD(X:Cx)(neg:Bool):R2:=fun x y H Q=>(∃l kv i,y=.ref l/\H l=some (.dK kv)/\x=.int i/\Q (.bl (neg ^^ (valV kv (Sum.inl i)).isSome)) H)∨
 ∃(l:Addr) (o:Obj) (xs:List m9) (g:Gh) (d:Dat) (b:Addr) (k:NestedKey),y=.ref l/\H l=some (iT l o)/\lK X.w l o xs/\aK X.K g H (xs.map fun x=>V.ref x.2.1) (xs.map fun x=>x.1.data)/\x=.ref b/\Rep X.K g H x d/\uD d=some k/\k.depth<=8/\Q (.bl (neg ^^ (atKey xs k).isSome)) H
section
variable{X:Cx}
theorem op_inD(hu:X.A.units+64 < cLine):OpR X (compareOp .In) (rInD X false):=by
 intro pins s σ H x y v u Q I rx ry h
 rcases h with⟨l,kv,i,rfl,hl,rfl,q⟩|⟨l,o,xs,g,d,b,k,rfl,h1,h2,h3,rfl,h4,h5,h6,q⟩
 ·obtain rfl:u=Value.ref l:=ry
  exact d_in (by omega) I (DGet.k (k:=Sum.inl i) hl) rx fun s' I'=>⟨.bl _,H,I',rfl,by simpa using q⟩
 ·obtain rfl:u=Value.ref l:=ry
  obtain rfl:v=Value.ref b:=rx
  refine wpAny_in_heap (knd:=nestedKind X.prog X.w) (k:=k) (show X.A.in1.units+8 < cLine by show X.A.units+1+8 < cLine;omega) ⟨key_is I h4 h5 rfl,h6⟩ h2.sys (Hv I h1 h2 rfl h3) ?_
  exact⟨.bl _,H,I.tok _,rfl,by simpa using q⟩
theorem op_notInD(hu:X.A.units+64 < cLine):OpR X (compareOp .NotIn) (rInD X true):=by
 intro pins s σ H x y v u Q I rx ry h
 rcases h with⟨l,kv,i,rfl,hl,rfl,q⟩|⟨l,o,xs,g,d,b,k,rfl,h1,h2,h3,rfl,h4,h5,h6,q⟩
 ·obtain rfl:u=Value.ref l:=ry
  exact d_notIn (by omega) I (DGet.k (k:=Sum.inl i) hl) rx fun s' I'=>⟨.bl _,H,I',rfl,by simpa using q⟩
 ·obtain rfl:u=Value.ref l:=ry
  obtain rfl:v=Value.ref b:=rx
  refine notIn_keyed (knd:=nestedKind X.prog X.w) (k:=k) (show X.A.in1.units+8 < cLine by show X.A.units+1+8 < cLine;omega) ⟨key_is I h4 h5 rfl,h6⟩ h2.sys ⟨xs,Hv I h1 h2 rfl h3,rfl⟩ ?_
  rw[valueAt_pairsH,Option.isSome_map]
  exact⟨.bl _,H,I.tok _,rfl,by simpa using q⟩
end
def Py(neg:Bool)(f:Str)(k o:QF):QF:=fun M ρ=>(k M ρ).bind fun d=>(o M ρ).bind fun od=>match zE M f od with
 |some (_,_,b,kvs)=>(dhas b kvs d).bind fun r=>.ok (.bool (neg ^^ r))
 |none=>.bad
section
variable{X:Cx}{aj:aU}{W:WX}{o k:Expr}{f:Str}{pos p1:Pos}{fo fk:QF}{neg:Bool}{op:CmpOp}
theorem ag0(co:jH X.K aj)(hw:aj.w=X.w)(σ:L2.St)(H:Hp)(Q:VK)(h:tQ X.K aj W (Py neg f fk fo) σ H Q):tOp (rInD X neg) (tQ X.K aj W fk) (tFld X.K (tW X.K aj W fo) f) σ H Q:=by
 obtain⟨g,ρ,M,I,h⟩:=h
 refine tQ.go I h.bnd fun d v H1 h1 e1 r1=>?_
 have I1:=I.ex e1
 refine tW.go I1 (h1.bnd.mono (fun _ z=>z) fun _ z=>z.ex e1) fun od u H2 h2 e2 r2=>?_
 have I2:=I1.ex e2
 split at h2
 ·next hh i b kvs hd=>
  obtain⟨a,C,dx,fs,l,rfl,m1,m2,ml,ha,rfl,c1,c2,c3,c4,c5,c6,l1,l2,l3⟩:=Gn co I2.wok r2 hd
  refine⟨a,C,dx,fs,.ref l,rfl,c2,c4,c5,l1,?_⟩
  have r1':=r1.ex e2 I1.kd
  unfold dhas at h2
  split at h2
  ·next i'=>
   obtain⟨kv,k1,k2,k3⟩:=l3
   cases r1'
   refine .inl ⟨l,kv,i',rfl,k1,rfl,?_⟩
   rw[Ub k2]at h2
   exact h2 _ H2 (e1.trans e2) (.bl _)
  ·next ds=>
   split at h2
   ·next kk hk=>
    split at h2
    ·next hdep=>
     obtain⟨o',xs,vs,k1,k2,k3,k4,k5,k6⟩:=l3
     have ek:=Af hk
     rw[←ek,Iv k3]at h2
     rw[k3]at k4
     rw[hw]at k2
     cases r1' with
     | @tup b us _ hs ht=>exact .inr ⟨l,o',xs,g,_,b,kk,rfl,k1,k2,k4,rfl,.tup hs ht,hk,of_decide_eq_true hdep,h2 _ H2 (e1.trans e2) (.bl _)⟩
    ·exact False.elim h2
   ·exact False.elim h2
  ·exact False.elim h2
 ·exact False.elim h2
theorem aji(co:jH X.K aj)(hw:aj.w=X.w)(hr:OpR X (compareOp op) (rInD X neg))(hk:QE aj X W k fk)(ho:QW aj X W o fo)(hb:baseOk o=true):QE aj X W (.Compare k [op] [.Attribute o f p1] pos) (Py neg f fk fo):=
 PE.weak (pe_cmpR hr hk (pe_fld ho (mH hb)) (by cases op <;> rfl)) fun σ H Q h=>ag0 co hw σ H Q h
end
def DPx(X:Cx)(H:Hp)(a:Addr)(y v:V)(R:Hp->Prop):Prop:=(∃kvs i,H a=some (.dK kvs)/\y=.int i/\kvs.length < sizeLine/\R (upd H a (.dK (putK kvs (Sum.inl i) v))))∨
 ∃(o:Obj) (xs:List m9) (g:Gh) (d:Dat) (b:Addr) (k:NestedKey),H a=some (iT a o)/\lK X.w a o xs/\aK X.K g H (xs.map fun x=>V.ref x.2.1) (xs.map fun x=>x.1.data)/\y=.ref b/\Rep X.K g H y d/\uD d=some k/\k.depth<=8/\xs.length < sizeLine/\∀(o':Obj) (u:Value),RelV v u->lK X.w a o' (storedH xs k b u)->R (upd H a (iT a o'))
theorem Lk{P:Program}{w:World}{H:Hp}{h:Heap}{l:Addr}{o:Obj}(e:h.get? l=some o):ObjOk P w H h l (iT l o):=⟨e,⟨o,e⟩,fun _ _ e1 k=>k _ e1⟩
theorem aaO{xs:List m9}{k:NestedKey}{b:Addr}{u:Value}:(storedH xs k b u).map (·.1)=if (atKey xs k).isSome then xs.map (·.1) else xs.map (·.1)++[k]:=by
 unfold storedH
 split
 ·rw[as8]
  refine List.map_congr_left fun x _=>?_
  show(putAt k u x).1=x.1
  unfold putAt
  split <;> rfl
 ·simp
theorem Ry{xs:List m9}{k:NestedKey}{b:Addr}{u:Value}:(storedH xs k b u).length<=xs.length+1:=by
 unfold storedH
 split <;> simp
theorem Tj{xs:List m9}{k:NestedKey}{b:Addr}{u:Value}(h:∀x∈xs,x.1.depth<=8)(hk:k.depth<=8):∀x∈storedH xs k b u,x.1.depth<=8:=fun x hx=>by
 have:x.1∈(storedH xs k b u).map (·.1):=asJ.mpr ⟨x,hx,rfl⟩
 rw[aaO]at this
 have old:∀{z:NestedKey},z∈xs.map (·.1)->z.depth<=8:=fun {z} m=>by
  obtain⟨y,hy,rfl⟩:=asJ.mp m
  exact h y hy
 split at this
 ·exact old this
 ·rcases asO.mp this with z|z
  ·exact old z
  ·rw[asB.mp z]
   exact hk
section
variable{X:Cx}{o i value:Expr}{td ty tv:TE}{pos pos':Pos}
def aoc(X:Cx)(td ty tv:TE):TS:=fun D σ H=>tv σ H fun v H1=>td σ H1 fun x H2=>ty σ H2 fun y H3=>∃a,x=.ref a/\DPx X H3 a y v fun H4=>D.nx σ H4
theorem ago(hu:X.A.units+64 < cLine)(ho:PE X o td)(hi:PE X i ty)(hv:PE X value tv)(hs:swapsWith value (some (.Subscript o i pos')) pos.line X.env=pure false):PS X (.Assign [.Subscript o i pos'] value pos) (aoc X td ty tv):=by
 refine⟨fun pins s σ H D I h=>?_⟩
 refine wpAny_Assign_Subscript (thn (hv.run pins s σ H _ I h) fun r s1 ⟨v,H1,I1,rv,q1⟩=>thn (ho.run pins s1 σ H1 _ I1 q1) fun u s2 ⟨x,H2,I2,rx,q2⟩=>thn (hi.run pins s2 σ H2 _ I2 q2) fun iv s3 ⟨y,H3,I3,ry,a,ex,q3⟩=>?_) hs
 subst ex
 obtain rfl:u=Value.ref a:=rx
 rcases q3 with⟨kvs,j,h1,rfl,hl,q⟩|⟨ob,xs,g,d,b,k,h1,h2,h3,rfl,h4,h5,h6,hl,q⟩
 ·exact d_setItem (by omega) I3 (DPut.k (k:=Sum.inl j) h1 hl) ry rv fun s4 I4=>⟨σ,_,I4,q⟩
 ·obtain rfl:iv=Value.ref b:=ry
  refine wpAny_setItem_heap (knd:=nestedKind X.prog X.w) (k:=k) (hsz:=Nat.le_of_lt hl) (show X.A.in1.units+8 < cLine by show X.A.units+1+8 < cLine;omega) ⟨key_is I3 h4 h5 rfl,h6⟩ (Hv I3 h1 h2 rfl h3) fun h' dd hs'=>?_
  obtain⟨o',es,ep,g1,g2,g3,g4,g5,g6⟩:=dd
  have nd:lK X.w a o' (storedH xs k b r):=⟨h2.sys,g2,⟨es,ep,g3,g4⟩,g6,by have:=Ry (xs:=xs) (k:=k) (b:=b) (u:=r);omega,Tj h2.dep h6⟩
  exact⟨σ,_,d_write I3 (by rw[h1];exact True.intro) hs' ⟨o',g1⟩ (Lk g1),q o' r rv nd⟩
end
theorem aK.back{K:asr}{g:Gh}{H:Hp}{vs:List V}{ds:List Dat}{v:V}{d:Dat}(h:aK K g H vs ds)(r:Rep K g H v d):aK K g H (vs++[v]) (ds++[d]):=h.append (.cons r .nil)
theorem Nb{K:asr}{aj:aU}{f:Str}{σ:L2.St}{ρ:Env}{g:Gh}{H:Hp}{M:Mo}{h:Nat}{i:Inst}{b:Bool}{kvs':List (Dat×Dat)}{a C dx l:Addr}{fs:List (Str×V)}{o':HO}(I:SInv K aj σ H g ρ M)(m1:M[h]?=some i)(m2:i.cls≠"")(ha:g.tbl[h]?=some a)(c1:aj i.cls=some C)(c2:H a=some (.ins C dx fs))(c3:cP K aj g H h fs i.fs)(hfl:f∈aj.fl i.cls)(l1:fs.lookup f=some (.ref l))(l4:g.ow l=some (h,f))(mu:Ir o')
  (new:Gr false g g H (upd H l o')->jF K aj g (upd H l o') l b kvs'):Gr false g g H (upd H l o')/\SInv K aj σ (upd H l o') g ρ (M.set h (i.put f (.dic b kvs'))):=by
 have ch:=aft (o':=o') I.kd I.wok l4 mu
 have nla:a≠l:=fun z=>by
  subst z
  rw[I.wok.tw h a i ha m1 m2]at l4
  cases l4
 have w':=I.wok.chg I.kd ch ha m1 m2 hfl c1 (dx:=dx) c3 (v:=.ref l) (fl:=.dic b kvs') (by rw[upd_ne nla,Mq l1];exact c2) ⟨l,rfl,l4,new ch.gc.gr⟩
 exact⟨ch.gc.gr,I.chg ch w'⟩
def N8(f:Str)(o k e:QF):SF:=fun M ρ=>((e M ρ).at M).then ρ fun v _=>((o M ρ).at M).then ρ fun od _=>match zE M f od with
 |some (h,i,b,kvs)=>((k M ρ).at M).then ρ fun d _=>match dhas b kvs d,decide (kvs.length < 100000) with
  |.ok false,true=>.next ρ (M.set h (i.put f (.dic b (kvs++[(d,v)]))))
  |_,_=>.bad
 |none=>.bad
def Oa(f:Str)(o k:QF):SF:=fun M ρ=>((o M ρ).at M).then ρ fun od _=>match zE M f od with
 |some (h,i,b,kvs)=>((k M ρ).at M).then ρ fun d _=>match dhas b kvs d,decide (kvs.length<=100000) with
  |.ok true,true=>.next ρ (M.set h (i.put f (.dic b (kvs.filter fun p=>!PyData.eqv p.1 d))))
  |_,_=>.bad
 |none=>.bad
theorem Vo{kvs:List (Dat×Dat)}{b r:Bool}{d:Dat}(h:dhas b kvs d=.ok r):(kvs.any fun p=>PyData.eqv p.1 d)=r/\((b=false/\∃i,d=.int i)∨(b=true/\∃ds k,d=.tuple ds/\uD d=some k/\k.depth<=8)):=by
 unfold dhas at h
 split at h
 ·next i=>
  cases h
  exact⟨rfl,.inl ⟨rfl,i,rfl⟩⟩
 ·next ds=>
  split at h
  ·next k hk=>
   split at h
   ·next hd=>
    cases h
    exact⟨rfl,.inr ⟨rfl,ds,k,rfl,hk,of_decide_eq_true hd⟩⟩
   ·cases h
  ·cases h
 ·cases h
section
variable{X:Cx}{aj:aU}{W:WX}{o e i:Expr}{f:Str}{pos pos' p1:Pos}{fo fe fk:QF}
theorem aiR(co:jH X.K aj)(hw:aj.w=X.w)(hu:X.A.units+64 < cLine)(ho:QW aj X W o fo)(hb:baseOk o=true)(hk:QE aj X W i fk)(he:QE aj X W e fe)(hs:swapsWith e (some (.Subscript (.Attribute o f p1) i pos')) pos.line X.env=pure false) :
  SE aj X W false (.Assign [.Subscript (.Attribute o f p1) i pos'] e pos) (N8 f fo fk fe):=by
 refine PS.weak (ago hu (pe_fld ho (mH hb)) hk he hs) fun D σ H ⟨g,ρ,M,I,z⟩=>?_
 unfold N8 at z
 have k1:=Out.jf (dB (σ:=σ) z)
 refine tQ.go I (k1.mono (fun _ y=>y) fun x y H' c dd ex rx=>y H' _ c dd (Gr.ex ex) (I.ex ex) rx) fun d v H1 k2 e1 rv=>?_
 have I1:=I.ex e1
 have k2:=Out.jf (dB (σ:=σ) k2)
 refine tW.go I1 (k2.mono (fun _ y=>y) fun x y H' c dd ex rx=>y H' _ c dd ((Gr.ex e1).trans (Gr.ex ex)) (I1.ex ex) rx) fun od u H2 k3 e2 ru=>?_
 have I2:=I1.ex e2
 have e12:=e1.trans e2
 split at k3
 ·next h i' b kvs hl=>
  obtain⟨a,C,dx,fs,l,rfl,m1,m2,ml,ha,rfl,c1,c2,c3,c4,c5,c6,l1,l2,l3⟩:=Gn co I2.wok ru hl
  refine⟨a,C,dx,fs,.ref l,rfl,c2,c4,c5,l1,?_⟩
  have k3:=Out.jf (dB (σ:=σ) k3)
  refine tQ.go I2 (k3.mono (fun _ y=>y) fun x y H' c dd ex rx=>y H' _ c dd ((Gr.ex e12).trans (Gr.ex ex)) (I2.ex ex) rx) fun kd w H3 k4 e3 rk=>?_
  have I3:=I2.ex e3
  have l3':=l3.ex e3 I2.kd
  have rv3:=(rv.ex e2 I1.kd).ex e3 I2.kd
  refine⟨l,rfl,?_⟩
  split at k4
  ·next hh hz=>
   obtain⟨ha2,hcase⟩:=Vo hh
   have hz:=of_decide_eq_true hz
   rcases hcase with⟨rfl,j,rfl⟩|⟨rfl,ds,kk,rfl,hkk,hdep⟩
   ·obtain⟨kv,q1,q2,q3⟩:=l3'
    cases rk
    have hlen:kv.length=kvs.length:=by
     have:=congrArg List.length q2
     simpa using this.symm
    rw[Ub q2]at ha2
    have hn:valV kv (Sum.inl j)=none:=by
     cases hv:valV kv (Sum.inl j) with
     |none=>rfl
     |some _=>rw[hv]at ha2;cases ha2
    refine .inl ⟨kv,j,q1,rfl,sz_lt (by rw[hlen];exact hz),?_⟩
    rw[putK_new v hn]
    obtain⟨gr,I4⟩:=Nb (b:=false) (kvs':=kvs++[(.int j,d)]) (o':=.dK (kv++[(Sum.inl j,v)])) I3 m1 m2 ha c1 (e3 _ _ c2) (c3.ex e3 I2.kd) c6 l1 l2 trivial fun gr=>⟨_,upd_same,by simp[q2,keyD],by
     rw[List.map_append,List.map_append]
     exact(q3.gr gr I3.kd).back (rv3.gr gr I3.kd)⟩
    exact k4 σ _ g ((Gr.ex (e12.trans e3)).trans gr) I4
   ·obtain⟨o',xs,vs,q1,q2,q3,q4,q5,q6⟩:=l3'
    have hlen:xs.length=kvs.length:=by
     have:=congrArg List.length q3
     simpa using this.symm
    have ek:=Af hkk
    rw[←ek,Iv q3]at ha2
    have hn:atKey xs kk=none:=by
     cases hv:atKey xs kk with
     |none=>rfl
     |some _=>rw[hv]at ha2;cases ha2
    have q4':=q4
    rw[q3]at q4'
    rw[hw]at q2
    cases rk with
    | @tup bb us _ hs' ht=>
     refine .inr ⟨o',xs,g,_,bb,kk,q1,q2,q4',rfl,.tup hs' ht,hkk,hdep,sz_lt (by rw[hlen];exact hz),fun o2 u2 ru2 nd=>?_⟩
     rw[storedH_new hn]at nd
     obtain⟨gr,I4⟩:=Nb (b:=true) (kvs':=kvs++[(.tuple ds,d)]) (o':=iT l o2) I3 m1 m2 ha c1 (e3 _ _ c2) (c3.ex e3 I2.kd) c6 l1 l2 trivial fun gr=>⟨o2,xs++[(kk,bb,u2)],vs++[v],upd_same,by rw[hw];exact nd,by simp[q3,ek],by
      rw[List.map_append,List.map_append]
      exact(q4.gr gr I3.kd).back ((Rep.tup hs' ht).gr gr I3.kd),by
      rw[List.map_append]
      exact q5.append (.cons ru2 .nil),by
      rw[List.map_append]
      exact(q6.gr gr I3.kd).back (rv3.gr gr I3.kd)⟩
     exact k4 σ _ g ((Gr.ex (e12.trans e3)).trans gr) I4
  ·exact False.elim k4
 ·exact False.elim k3
end
section
variable{X:Cx}{o i:Expr}{td ty:TE}{pos tpos:Pos}
def aoI(X:Cx)(td ty:TE):TS:=fun D σ H=>td σ H fun x H2=>ty σ H2 fun y H3=>∃a,x=.ref a/\((∃kvs i,H3 a=some (.dK kvs)/\y=.int i/\(valV kvs (Sum.inl i)).isSome=true/\D.nx σ (upd H3 a (.dK (dropK kvs (Sum.inl i)))))∨
 ∃(o:Obj) (xs:List m9) (g:Gh) (d:Dat) (b:Addr) (k:NestedKey),H3 a=some (iT a o)/\lK X.w a o xs/\aK X.K g H3 (xs.map fun x=>V.ref x.2.1) (xs.map fun x=>x.1.data)/\y=.ref b/\Rep X.K g H3 y d/\uD d=some k/\k.depth<=8/\(atKey xs k).isSome=true/\∀(o':Obj),lK X.w a o' (withoutH xs k)->D.nx σ (upd H3 a (iT a o')))
theorem af3(hu:X.A.units+64 < cLine)(ho:PE X o td)(hi:PE X i ty):PS X (.Delete [.Subscript o i tpos] pos) (aoI X td ty):=by
 refine⟨fun pins s σ H D I h=>?_⟩
 refine wpAny_Delete (wpAny_deleteEach_cons (wpAny_delete_Subscript (thn (ho.run pins s σ H _ I h) fun u s1 ⟨x,H1,I1,rx,q1⟩=>thn (hi.run pins s1 σ H1 _ I1 q1) fun iv s2 ⟨y,H2,I2,ry,a,ex,q2⟩=>?_)))
 subst ex
 obtain rfl:u=Value.ref a:=rx
 rcases q2 with⟨kvs,j,h1,rfl,hl,q⟩|⟨ob,xs,g,d,b,k,h1,h2,h3,rfl,h4,h5,h6,hl,q⟩
 ·exact d_delItem (k:=Sum.inl j) I2 h1 ry hl fun s3 I3=>wpAny_deleteEach_nil ⟨σ,_,I3,q⟩
 ·obtain rfl:iv=Value.ref b:=ry
  obtain⟨p,hp⟩:=Option.isSome_iff_exists.mp hl
  refine wpAny_delItem_heap (knd:=nestedKind X.prog X.w) (k:=k) (hsz:=h2.len) (show X.A.in1.units+8 < cLine by show X.A.units+1+8 < cLine;omega) ⟨key_is I2 h4 h5 rfl,h6⟩ h2.sys (Hv I2 h1 h2 rfl h3) hp fun h' dd hs'=>?_
  obtain⟨o',es,ep,g1,g2,g3,g4,g5,g6⟩:=dd
  have nd:lK X.w a o' (withoutH xs k):=⟨h2.sys,g2,⟨es,ep,g3,g4⟩,g6,as5 (asQ _ _) h2.len,fun x hx=>h2.dep x (asY.mp hx).1⟩
  exact wpAny_deleteEach_nil ⟨σ,_,d_write I2 (by rw[h1];exact True.intro) hs' ⟨o',g1⟩ (Lk g1),q o' nd⟩
end
theorem Qh{α β:Type}(f:α->β)(c:α->Bool):∀l:List α,(((l.map f).zip l).filter fun p=>c p.2).map (·.1)=(l.filter c).map f
 |[]=>rfl
 |a::l=>by
  rw[asx,atz,atg,atg]
  cases c a
  ·exact Qh f c l
  ·simp only[if_true,asx,Qh f c l]
theorem ag8{K:asr}{g:Gh}{H:Hp}(kk:NestedKey):∀{xs:List m9} {vs:List V} {kvs:List (Dat×Dat)},kvs.map (·.1)=xs.map (fun x=>x.1.data)->aK K g H (xs.map fun x=>V.ref x.2.1) (kvs.map (·.1))->Vals vs (xs.map (·.2.2))->aK K g H vs (kvs.map (·.2))->
  ∃vs',(kvs.filter fun p=>!PyData.eqv p.1 kk.data).map (·.1)=(withoutH xs kk).map (fun x=>x.1.data)/\aK K g H ((withoutH xs kk).map fun x=>V.ref x.2.1) ((kvs.filter fun p=>!PyData.eqv p.1 kk.data).map (·.1))/\Vals vs' ((withoutH xs kk).map (·.2.2))/\aK K g H vs' ((kvs.filter fun p=>!PyData.eqv p.1 kk.data).map (·.2))
 |[],_,[],_,_,.nil,_=>⟨[],rfl,.nil,.nil,.nil⟩
 |[],_,_::_,h,_,_,_=>by cases h
 |_::_,_,[],h,_,_,_=>by cases h
 |x::xs,_,q::qs,h1,.cons r1 t1,.cons w1 w2,.cons r2 t2=>by
  simp only[asx,List.cons.injEq]at h1
  obtain⟨vs',i1,i2,i3,i4⟩:=ag8 kk h1.2 t1 w2 t2
  have hq:(!PyData.eqv q.1 kk.data)=decide (x.1≠kk):=by
   rw[h1.1,abq]
   by_cases hz:x.1=kk <;> simp[hz]
  unfold withoutH
  rw[atg,atg,hq]
  cases hb:decide (x.1≠kk) with
  |true=>exact⟨_::vs',by simp only[if_true,asx,h1.1];exact congrArg _ i1,by simp only[if_true,asx];exact .cons r1 i2,by simp only[if_true,asx];exact .cons w1 i3,by simp only[if_true,asx];exact .cons r2 i4⟩
  |false=>
   simp only[as9,if_false]
   exact⟨vs',i1,i2,i3,i4⟩
theorem aki{K:asr}{g:Gh}{H:Hp}{α:Type}(c:α->Bool)(key:α->Dat)(dd:Dat->Bool):∀{vs:List V} {kvs:List (Dat×Dat)} {xs:List α},(∀x∈xs,c x=dd (key x))->kvs.map (·.1)=xs.map key->vs.length=xs.length->aK K g H vs (kvs.map (·.2))->
  (kvs.filter fun p=>dd p.1).map (·.1)=(xs.filter c).map key/\aK K g H (((vs.zip xs).filter fun p=>c p.2).map (·.1)) ((kvs.filter fun p=>dd p.1).map (·.2))
 |[],[],[],_,_,_,_=>⟨rfl,.nil⟩
 |[],[],_::_,_,h,_,_=>by cases h
 |[],_::_,_,_,_,_,h=>by cases h
 |_::_,[],_,_,_,_,h=>by cases h
 |_::_,_::_,[],_,h,_,_=>by cases h
 |u::us,q::qs,x::xs,hc,hk,hl,.cons h t=>by
  simp only[asx,List.cons.injEq]at hk
  have hq:=hc x asz
  rw[←hk.1]at hq
  obtain⟨i1,i2⟩:=aki c key dd (fun y hy=>hc y (asy _ hy)) hk.2 (ato hl) t
  rw[atz,atg,atg,atg,hq]
  cases hb:dd q.1 with
  |true=>exact⟨by simp only[if_true,asx,i1,hk.1],by simp only[if_true,asx];exact .cons h i2⟩
  |false=>exact⟨by simpa using i1,by simpa using i2⟩
section
variable{X:Cx}{aj:aU}{W:WX}{o i:Expr}{f:Str}{pos tpos p1:Pos}{fo fk:QF}
theorem ahV(co:jH X.K aj)(hw:aj.w=X.w)(hu:X.A.units+64 < cLine)(ho:QW aj X W o fo)(hb:baseOk o=true)(hk:QE aj X W i fk):SE aj X W false (.Delete [.Subscript (.Attribute o f p1) i tpos] pos) (Oa f fo fk):=by
 refine PS.weak (af3 hu (pe_fld ho (mH hb)) hk) fun D σ H ⟨g,ρ,M,I,z⟩=>?_
 unfold Oa at z
 have k2:=Out.jf (dB (σ:=σ) z)
 refine tW.go I (k2.mono (fun _ y=>y) fun x y H' c dd ex rx=>y H' _ c dd (Gr.ex ex) (I.ex ex) rx) fun od u H2 k3 e2 ru=>?_
 have I2:=I.ex e2
 split at k3
 ·next h i' b kvs hl=>
  obtain⟨a,C,dx,fs,l,rfl,m1,m2,ml,ha,rfl,c1,c2,c3,c4,c5,c6,l1,l2,l3⟩:=Gn co I2.wok ru hl
  refine⟨a,C,dx,fs,.ref l,rfl,c2,c4,c5,l1,?_⟩
  have k3:=Out.jf (dB (σ:=σ) k3)
  refine tQ.go I2 (k3.mono (fun _ y=>y) fun x y H' c dd ex rx=>y H' _ c dd ((Gr.ex e2).trans (Gr.ex ex)) (I2.ex ex) rx) fun kd w H3 k4 e3 rk=>?_
  have I3:=I2.ex e3
  have l3':=l3.ex e3 I2.kd
  refine⟨l,rfl,?_⟩
  split at k4
  ·next hh hz=>
   obtain⟨ha2,hcase⟩:=Vo hh
   rcases hcase with⟨rfl,j,rfl⟩|⟨rfl,ds,kk,rfl,hkk,hdep⟩
   ·obtain⟨kv,q1,q2,q3⟩:=l3'
    cases rk
    rw[Ub q2]at ha2
    refine .inl ⟨kv,j,q1,rfl,ha2,?_⟩
    have hf:=fun(H':Hp)(r:aK X.K g H' (kv.map (·.2)) (kvs.map (·.2)))=>aki (K:=X.K) (g:=g) (H:=H') (fun p:Key×V=>decide (p.1≠Sum.inl j)) (fun p=>keyD p.1) (fun z=>!PyData.eqv z (.int j)) (vs:=kv.map (·.2)) (kvs:=kvs) (xs:=kv) (fun x _=>by
     cases hx:x.1 with
     |inl z=>by_cases hz:z=j <;> simp[keyD,PyData.eqv,hz]
     |inr z=>simp[keyD,PyData.eqv]) q2 (by simp) r
    have ez:(((kv.map (·.2)).zip kv).filter fun p=>decide (p.2.1≠Sum.inl j)).map (·.1)=(dropK kv (Sum.inl j)).map (·.2):=Qh (·.2) (fun p:Key×V=>decide (p.1≠Sum.inl j)) kv
    obtain⟨gr,I4⟩:=Nb (b:=false) (kvs':=kvs.filter fun p=>!PyData.eqv p.1 (.int j)) (o':=.dK (dropK kv (Sum.inl j))) I3 m1 m2 ha c1 (e3 _ _ c2) (c3.ex e3 I2.kd) c6 l1 l2 trivial fun gr=>⟨_,upd_same,(hf _ (q3.gr gr I3.kd)).1,by
     rw[←ez]
     exact(hf _ (q3.gr gr I3.kd)).2⟩
    exact k4 σ _ g ((Gr.ex (e2.trans e3)).trans gr) I4
   ·obtain⟨o',xs,vs,q1,q2,q3,q4,q5,q6⟩:=l3'
    have ek:=Af hkk
    rw[←ek,Iv q3]at ha2
    rw[hw]at q2
    have q4':=q4
    rw[q3]at q4'
    cases rk with
    | @tup bb us _ hs' ht=>
     refine .inr ⟨o',xs,g,_,bb,kk,q1,q2,q4',rfl,.tup hs' ht,hkk,hdep,ha2,fun o2 nd=>?_⟩
     obtain⟨gr,I4⟩:=Nb (b:=true) (kvs':=kvs.filter fun p=>!PyData.eqv p.1 (.tuple ds)) (o':=iT l o2) I3 m1 m2 ha c1 (e3 _ _ c2) (c3.ex e3 I2.kd) c6 l1 l2 trivial fun gr=>by
      obtain⟨vs',i1,i2,i3,i4⟩:=ag8 kk q3 (q4.gr gr I3.kd) q5 (q6.gr gr I3.kd)
      rw[ek]at i1 i2 i4
      exact⟨o2,withoutH xs kk,vs',upd_same,by rw[hw];exact nd,i1,i2,i3,i4⟩
     exact k4 σ _ g ((Gr.ex (e2.trans e3)).trans gr) I4
  ·exact False.elim k4
 ·exact False.elim k3
end
def ItD(l:Addr)(o:Obj)(xs:List m9):It:=
 ⟨fun i H=>H l=some (iT l o)/\i < xs.length,fun i H x H'=>H'=H/\∃e,xs[i]?=some e/\x=.ref e.2.1,fun i H=>H l=some (iT l o)/\xs.length<=i⟩
theorem pin_at{X:Cx}{pins:List (Addr×Obj)}{σ:L2.St}{H:Hp}{s:Shared}{l:Addr}{o:Obj}(I:L2.Inv X pins σ H s)(h:H l=some (iT l o)):s.heap.get? l=some o:=(show ObjOk X.prog X.w H s.heap l (iT l o) from I.hok l _ h).1
theorem lK.at{w:World}{l:Addr}{o:Obj}{xs:List m9}{es:Array DictEntry}{ep:Nat}(n:lK w l o xs)(h:o.data=.dict es ep):es.size=xs.length/\∀(i:Nat) (e:m9),xs[i]?=some e->∃en,es[i]?=some en/\en.key=.ref e.2.1:=by
 obtain⟨es',ep',h1,h2⟩:=n.ent
 rw[h]at h1
 cases h1
 refine⟨?_,fun i e hi=>⟨afr w e,?_,rfl⟩⟩
 ·have:=congrArg List.length h2
  simpa using this
 ·rw[←ati,h2,asI,hi]
  rfl
theorem am3{P:Program}{w:World}{K:asr}{tg:Expr}{l:Addr}{o:Obj}{xs:List m9}{es:Array DictEntry}{ep:Nat}(it:Addr)(n:lK w l o xs)(hod:o.data=.dict es ep):Turn P w K tg (ItD l o xs) [it] it (fun i h=>h.IsKeyIter it l i xs.length ep) where
 mem:=asB.mpr rfl
 obj:=fun i h st b hb=>by
  cases asB.mp hb
  obtain⟨oi,e,c,dd⟩:=st
  refine⟨oi,e,fun v z=>?_⟩
  rw[dd]at z
  cases z
 keep:=fun i h h' st k=>st.at (k it (asB.mpr rfl))
 item:=by
  intro X hP hw hK hc i pins s σ H E I hf st hg
  subst hP hw hK
  obtain⟨g0,g1,g2,g3,g4,g5⟩:=hf it (asB.mpr rfl)
  obtain⟨sz,ent⟩:=n.at hod
  have hlt:i < xs.length:=hg.2
  have hx:xs[i]?=some xs[i]:=asw hlt
  obtain⟨en,e1,e2⟩:=ent i _ hx
  refine next_key_item st (pin_at I hg.1) hod sz e1 ?_
  intro h' st' sb
  have J:L2.Inv X pins σ H { s with heap:=h' }:=I.turned (t':=s.toks) (fun b ob hb e=>(sb.2 b hb).trans e) g0 g1 g3 g4 g5
  obtain⟨oi,a1,a2,a3⟩:=id st'
  exact⟨en.key,rfl,go_of (s:={ s with heap:=h' }) a1 a2 a3 (by decide) ⟨.ref xs[i].2.1,H,J,e2,⟨rfl,_,hx,rfl⟩,st',fun b hb=>(hf b hb).1⟩⟩
 done:=by
  intro X hP hw hK hc i pins s σ H E I hf st hg
  subst hP hw hK
  obtain⟨g0,g1,g2,g3,g4,g5⟩:=hf it (asB.mpr rfl)
  exact next_key_end (I.ok.hd hc) st (pin_at I hg.1) hod (n.at hod).1 hg.2 fun h' eb=>⟨rfl,I.turned (t':=s.toks) (fun b ob hb e=>eb b ob hb e) g0 g1 g3 g4 g5⟩
 self:=fun A i s Q E st h=>by
  refine wpAny_pyIter_slot st.typeIs PySem.F.slot_dict_keyiterator_iter (wpAny_call_entry PySem.F.slot_dict_keyiterator_iter st.typeIs PySem.F.entry_dict_keyiterator_iter ?_ (PySem.F.args_dict_keyiterator_iter_1 _))
  exact wpAny_pure ⟨_,rfl,"dict_keyiterator",_,st.typeIs,PySem.F.slot_dict_keyiterator_next.lookup,h⟩
def aoi(X:Cx)(td:TE):TI:=fun σ H R=>td σ H fun x H1=>∃l o xs,x=.ref l/\H1 l=some (iT l o)/\lK X.w l o xs/\R (ItD l o xs) H1
theorem akq{X:Cx}{tg e:Expr}{td:TE}(he:PE X e td):PI X tg e (aoi X td):=by
 constructor
 intro pins s σ H R I h
 refine thn (he.run pins s σ H _ I h) ?_
 rintro u s1 ⟨x,H1,I1,rx,l,o,xs,rfl,hl,n,q⟩
 obtain rfl:u=Value.ref l:=rx
 obtain⟨es,ep,hd,_⟩:=n.ent
 refine iter_keys n.sys (pin_at I1 hl) n.ex hd (pi_one (tk:=s1.toks) I1 _ (am3 _ n hd) ⟨_,Heap.get?_push_size _ rfl,rfl,?_⟩ q)
 rw[(n.at hd).1] <;> rfl
theorem aiC{K:asr}{aj:aU}{l:Addr}{o:Obj}{xs:List m9}{ks:List Dat}:JT K (ItD l o xs) (fun g H=>H l=some (iT l o)/\aK K g H (xs.map fun x=>V.ref x.2.1) ks) ks where
 go:=fun g i H c hi=>⟨c.1,by have:=c.2.length;simp at this;omega⟩
 yld:=fun g i H x H' d k c e y=>by
  obtain⟨rfl,en,h1,rfl⟩:=y
  obtain⟨v,h2,h3⟩:=c.2.get e
  rw[asI,h1]at h2
  cases h2
  exact⟨Ex.refl _,h3⟩
 stop:=fun g i H c e=>⟨c.1,by have:=c.2.length;simp at this;omega⟩
 ex:=fun g H H' k c e=>⟨e _ _ c.1,c.2.ex e k⟩
 add:=fun g g' H H' k c r e=>⟨e _ _ c.1,c.2.gr r k⟩
def DK(f:Str)(o:QF):IF:=fun M ρ=>(o M ρ).bind fun od=>match zE M f od with
 |some (_,_,true,kvs)=>.ok (kvs.map (·.1))
 |_=>.bad
def DN(f:Str)(o:QF):QF:=fun M ρ=>(o M ρ).bind fun od=>match zE M f od with
 |some (_,_,_,kvs)=>.ok (.list (kvs.map (·.1)))
 |none=>.bad
section
variable{X:Cx}{aj:aU}{W:WX}{o tg:Expr}{f:Str}{pos p p1:Pos}{fo:QF}
theorem agS(co:jH X.K aj)(hw:aj.w=X.w)(ho:QW aj X W o fo)(hb:baseOk o=true):QI aj X W false tg (.Attribute o f p1) (DK f fo):=by
 have h0:=akq (tg:=tg) (pe_fld (X:=X) (pos:=p1) (f:=f) ho (mH hb))
 refine⟨fun pins s σ H R I h=>h0.run pins s σ H R I ?_⟩
 obtain⟨g,ρ,M,J,h⟩:=h
 unfold DK at h
 refine tW.go J h.bnd fun od u H1 k2 e1 ru=>?_
 have J1:=J.ex e1
 split at k2
 ·next h i kvs hl=>
  obtain⟨a,C,dx,fs,l,rfl,m1,m2,ml,ha,rfl,c1,c2,c3,c4,c5,c6,l1,l2,o',xs,vs,q1,q2,q3,q4,q5,q6⟩:=Gn co J1.wok ru hl
  rw[hw]at q2
  exact⟨a,C,dx,fs,.ref l,rfl,c2,c4,c5,l1,l,o',xs,rfl,q1,q2,k2 _ _ H1 e1 (aiC (aj:=aj)) ⟨q1,q4⟩ fun z=>nomatch z⟩
 ·exact False.elim k2
end
theorem afT{P:Program}{w:World}{A:Around}{l I:Addr}{o:Obj}{xs:List m9}{es:Array DictEntry}{ep:Nat}(hh:A.handled=none)(hne:l≠I)(n:lK w l o xs)(hd:o.data=.dict es ep):Walks P w A I [I,l] [I] xs.length (fun i v=>∃e,xs[i]?=some e/\v=Value.ref e.2.1) (fun i h=>h.IsKeyIter I l i xs.length ep/\h.get? l=some o) where
 sub:=fun b hb=>by simp at hb;simp[hb]
 frame:=fun i h h' st k=>⟨st.1.at (k I (by simp)),k l (by simp) o st.2⟩
 item:=fun i s Q E hi st hQ=>by
  obtain⟨sz,ent⟩:=n.at hd
  have hx:xs[i]?=some xs[i]:=asw hi
  obtain⟨en,e1,e2⟩:=ent i _ hx
  refine next_key_item st.1 st.2 hd sz e1 ?_
  intro h' st' sb
  exact hQ en.key h' s.toks ⟨_,hx,e2⟩ ⟨st',(sb.2 l hne).trans st.2⟩ fun b ob hb e=>(sb.2 b fun z=>hb (by simp[z])).trans e
 done:=fun s Q E st hQ=>next_key_end hh st.1 st.2 hd (n.at hd).1 (as3 _) fun h' eb=>hQ h' s.toks fun b ob hb e=>eb b ob (fun z=>hb (by simp[z])) e
 self:=fun i s Q E st hQ=>wpAny_pyIter_keyiter st.1 hQ
theorem aiv{P:Program}{w:World}{l:Addr}{o:Obj}{xs:List m9}(n:lK w l o xs):PySem.W.KdlSrc P w "dict" l l xs.length (fun i v=>∃e,xs[i]?=some e/\v=Value.ref e.2.1) (fun h=>h.get? l=some o) where
 type:=fun s e=>⟨o,e,n.ex.1⟩
 there:=fun h e=>⟨Heap.lt_size e,Heap.lt_size e⟩
 keep:=fun h h' e k=>k l (.inl rfl) o e
 notList:=by decide
 notTuple:=by decide
 hint:=fun A E s Q e hq=>PySem.W.kdl_hint_dict ⟨o,e,n.ex.1⟩ hq
 iter:=fun A s hh e=>by
  obtain⟨es,ep,hd,_⟩:=n.ent
  refine⟨_,_,fun E Q hq=>iter_keys n.sys e n.ex hd hq,afT hh (ata (Heap.lt_size e)) n hd,⟨_,Heap.get?_push_size _ rfl,rfl,?_⟩,Heap.get?_push_of_some _ e⟩
  rw[(n.at hd).1] <;> rfl
def adY(X:Cx):List V->Hp->VK->Prop:=fun xs H Q=>(∃p kvs,xs=[.ref p]/\H p=some (.dK kvs)/\∀q,H q=none->Q (.ref q) (upd H q (.lst (kvs.map fun kv=>kV kv.1))))∨∃p o es,xs=[.ref p]/\H p=some (iT p o)/\lK X.w p o es/\∀q,H q=none->Q (.ref q) (upd H q (.lst (es.map fun e=>V.ref e.2.1)))
theorem acn{X:Cx}(hc:X.calm=true):CallR X (.type "list") (adY X):=by
 intro pins s σ H xs us Q I r h
 rcases h with h|⟨p,o,es,rfl,hp,n,q⟩
 ·exact call_list_dK hc pins s σ H xs us Q I r h
 ·obtain⟨u,rfl,rx⟩:=vals1 r
  obtain rfl:u=Value.ref p:=rx
  refine PySem.W.kdl_call (aiv n) (I.ok.hd hc) (pin_at I hp) n.len ?_
  intro h' tk acc c' keep hS hacc
  have el:acc.toList.length=es.length:=by
   rw[atd]
   exact hacc.1
  refine⟨.ref s.heap.objs.size,upd H s.heap.objs.size (.lst (es.map fun e=>V.ref e.2.1)),I.laid keep (as3 _) (show ObjOk X.prog X.w _ _ _ (.lst (es.map fun e=>V.ref e.2.1)) from⟨by rw[asH];exact n.len,acc.toList,c',?_,?_⟩),rfl,q _ (I.hok.fresh (as3 _))⟩
  ·refine vals_of_at (by rw[asH,el]) fun j x w h1 h2=>?_
   obtain⟨e,he,rfl⟩:=hacc.2 j w (by rw[←ati];exact h2)
   rw[asI,he]at h1
   cases h1
   rfl
  ·rw[Array.toArray_toList]
   exact hS
section
variable{X:Cx}{aj:aU}{W:WX}{o e:Expr}{f:Str}{pos p p1 pos':Pos}{fo:QF}
theorem aav{K:asr}{g:Gh}{H:Hp}:∀{kv:List (Key×V)} {kvs:List (Dat×Dat)},kvs.map (·.1)=kv.map (fun p=>keyD p.1)->aK K g H (kv.map fun p=>kV p.1) (kvs.map (·.1))
 |[],[],_=>.nil
 |[],_::_,h=>by cases h
 |_::_,[],h=>by cases h
 |a::kv,b::kvs,h=>by
  simp only[asx,List.cons.injEq]at h
  rw[asx,asx,h.1]
  refine .cons ?_ (aav h.2)
  cases a.1 with
  |inl i=>exact .int i
  |inr x=>exact .str x
theorem agE(co:jH X.K aj)(hw:aj.w=X.w)(σ:L2.St)(H:Hp)(Q:VK)(h:tQ X.K aj W (DN f fo) σ H Q):tFld X.K (tW X.K aj W fo) f σ H fun x H1=>adY X [x] H1 Q:=by
 obtain⟨g,ρ,M,J,h⟩:=h
 unfold DN at h
 refine tW.go J h.bnd fun od u H1 k2 e1 ru=>?_
 have J1:=J.ex e1
 split at k2
 ·next h i b kvs hl=>
  obtain⟨a,C,dx,fs,l,rfl,m1,m2,ml,ha,rfl,c1,c2,c3,c4,c5,c6,l1,l2,l3⟩:=Gn co J1.wok ru hl
  refine⟨a,C,dx,fs,.ref l,rfl,c2,c4,c5,l1,?_⟩
  cases b with
  |false=>
   obtain⟨kv,q1,q2,q3⟩:=l3
   exact .inl ⟨l,kv,rfl,q1,fun q nq=>k2 (.ref q) _ (e1.trans (Ex.new nq)) (.lst (.inl ⟨.inl upd_same,J1.kd.fresh nq⟩) (aav q2))⟩
  |true=>
   obtain⟨o',xs,vs,q1,q2,q3,q4,q5,q6⟩:=l3
   rw[hw]at q2
   exact .inr ⟨l,o',xs,rfl,q1,q2,fun q nq=>k2 (.ref q) _ (e1.trans (Ex.new nq)) (.lst (.inl ⟨.inl upd_same,J1.kd.fresh nq⟩) (q4.ex (Ex.new nq) J1.kd))⟩
 ·exact False.elim k2
theorem af9(co:jH X.K aj)(hw:aj.w=X.w)(hc:X.calm=true)(hg:Gl X "list")(hm:X.mg "list"=none)(ho:QW aj X W o fo)(hb:baseOk o=true):QE aj X W (.Call (.Name "list" p) [.Attribute o f p1] [] pos) (DN f fo):=by
 have h1:=pa_cons (pe_fld (X:=X) (pos:=p1) (f:=f) ho (mH hb)) pa_nil (cQ rfl [])
 have hv:BV (.type "list") "list":=⟨by decide +kernel,by decide,by decide⟩
 refine PE.weak (pe_callTy (pos:=pos) (p:=p) (acn hc) hg hm hv.1 h1 hv.2.1 hv.2.2 (cQ rfl []) (by with_unfolding_all rfl)) fun σ H Q h=>?_
 exact agE co hw σ H Q h
def Nq(ft:Ft)(o:QF)(f:Str)(b:Bool):SF:=fun M ρ=>((o (M++[⟨"",[]⟩]) ρ).at (M++[⟨"",[]⟩])).then ρ fun od M2=>match kh M2 od with
 |some (h,i)=>match ft.has i.cls f&&decide (i.fs.length < 100) with
  |true=>.next ρ (M2.set h (i.put f (.dic b [])))
  |false=>.bad
 |none=>.bad
def amd(X:Cx)(b:Bool):TE:=fun _ H Q=>∀p,H p=none->match b with
 |false=>Q (.ref p) (upd H p (.dK []))
 |true=>∀o,lK X.w p o []->Q (.ref p) (upd H p (iT p o))
theorem ai7{b:Bool}:PE X (.Dict [] [] pos) (amd X b):=by
 cases b with
 |false=>exact PE.weak pe_dnewK fun σ H Q h p np=>h p np
 |true=>
  refine⟨fun pins s σ H Q I h=>wpAny_Dict_empty ?_⟩
  have hz:(s.heap.push { cls:=.type "dict",data:=.dict #[] }).get? s.heap.objs.size=some { cls:=.type "dict",data:=.dict #[] }:=Heap.get?_push_size _ rfl
  have hs:(s.heap.objs.size==sysModules)=false:=beq_eq_false_iff_ne.mpr (Ne.symm (ata I.big))
  exact⟨.ref s.heap.objs.size,_,I.laid (a:=s.heap.objs.size) (o:=iT s.heap.objs.size _) (t':=s.toks) (fun _ _ q=>Heap.get?_push_of_some _ q) (as3 _) (Lk hz),rfl,h _ (I.hok.fresh (as3 _)) _ ⟨hs,⟨rfl,rfl,rfl⟩,⟨#[],0,rfl,rfl⟩,atR,ath _,fun x hx=>absurd hx atc⟩⟩
theorem ahO{ft:Ft}{b:Bool}(co:jH X.K aj)(fk:KR ft aj)(hw:aj.w=X.w)(ho:QW aj X W o fo)(hs:swapsWith (.Dict [] [] p) (some (.Attribute o f pos')) pos.line X.env=pure false):SE aj X W false (.Assign [.Attribute o f pos'] (.Dict [] [] p) pos) (Nq ft fo f b):=by
 refine PS.weak (ps_fld ho (ai7 (b:=b)) hs) fun D σ H ⟨g,ρ,M,I,z⟩=>?_
 have core:∀(l:Addr) (ob:HO),H l=none->Ir ob->(∀(g':Gh) (H':Hp),H' l=some ob->jF X.K aj g' H' l b [])->tW X.K aj W fo σ (upd H l ob) (fun x H2=>∃a C dx fs,x=.ref a/\H2 a=some (.ins C dx fs)/\Cls X.K C/\NoAttr X.K C f/\fs.length < 1000/\D.nx σ (upd H2 a (.ins C dx (putF f (.ref l) fs)))):=by
  intro l ob nl mu at'
  obtain⟨gr,I1,tb,ow,mm⟩:=Lr I nl (Ex.new nl) upd_same mu
  unfold Nq at z
  have k1:=Out.jf (dB (σ:=σ) z)
  refine tW.go I1 (k1.mono (fun _ y=>y) fun x y H' c dd ex rx=>y H' _ c dd (gr.trans (Gr.ex ex)) (I1.ex ex) rx) fun od u H2 k2 e2 ru=>?_
  have I2:=I1.ex e2
  split at k2
  ·next h i hi=>
   split at k2
   ·next hb=>
    rw[asu]at hb
    obtain⟨a,C,dx,fs,_,m1,m2,ha,rfl,c1,c2,c3,c4,c5,c6⟩:=Hq co fk I2.wok ru hi hb.1
    have nla:l≠a:=fun z=>by
     subst z
     cases I2.wok.inj _ _ _ ha tb
     rw[mm]at m1
     cases m1
     exact m2 rfl
    refine⟨a,C,dx,fs,rfl,c2,c4,c5,?_,?_⟩
    ·have:=of_decide_eq_true hb.2
     rw[c3.len]
     omega
    ·have ch:=Uz (f:=f) (C:=C) (dx:=dx) (fs':=putF f (.ref l) fs) I2.kd I2.wok ha m1 m2 tb mm ow
     have w':=I2.wok.chg I2.kd ch ha m1 m2 c6 c1 c3 upd_same (v:=.ref l) (fl:=.dic b []) ⟨l,rfl,if_pos rfl,at' _ _ (by rw[upd_ne nla];exact e2 _ _ upd_same)⟩
     exact k2 σ _ _ ((gr.trans (Gr.ex e2)).trans ch.gc.gr) (I2.chg ch w')
   ·exact False.elim k2
  ·exact False.elim k2
 intro l nl
 cases b with
 |false=>exact core l _ nl trivial fun g' H' h=>⟨[],h,rfl,.nil⟩
 |true=>exact fun ob nd=>core l _ nl trivial fun g' H' h=>⟨ob,[],[],h,by rw[hw];exact nd,rfl,.nil,.nil,.nil⟩
end
def aj0(X:Cx)(D:Addr)(vs:List Nat)(g:TG)(tk:TE)(σ:L2.St)(Nx:Hp->Prop)(x:V)(H:Hp):Prop:=
 g x (L2.wipe σ vs) H fun σ2 H2=>L2.wipe σ2 vs=L2.wipe σ vs/\tk σ2 H2 fun y H4=>∃(o:Obj) (xs:List m9) (gg:Gh) (d:Dat) (b:Addr) (k:NestedKey),y=.ref b/\H4 D=some (iT D o)/\lK X.w D o xs/\aK X.K gg H4 (xs.map fun x=>V.ref x.2.1) (xs.map fun x=>x.1.data)/\Rep X.K gg H4 y d/\uD d=some k/\k.depth<=8/\xs.length < sizeLine/\
  ∀o',lK X.w D o' (storedH xs k b (.bool true))->Nx (upd H4 D (iT D o'))
def akJ(X:Cx)(wi:TI)(g:TG)(tk:TE)(vs:List Nat):TE:=fun σ H Q=>wi σ H fun J H1=>∀D,H1 D=none->∃W:Nat->Nat->Hp->Prop,(∃m,∀o,lK X.w D o []->W 0 m (upd H1 D (iT D o)))/\
 ∀i m H,W i m H->(J.stop i H/\Q (.ref D) H)∨(J.go i H/\∃Nx:Hp->Prop,(∀H',Nx H'->∃m',m' < m/\W (i+1) m' H')/\∀x H',J.yld i H x H'->aj0 X D vs g tk σ Nx x H')
section
variable{X:Cx}
theorem agC{pins:List (Addr×Obj)}{σ:L2.St}{H:Hp}{s:Shared}{E:Value->Shared->Prop}{D b:Addr}{o:Obj}{xs:List m9}{gg:Gh}{d:Dat}{k:NestedKey}{u:Value}{Q:Unit->Shared->Prop}(hu:X.A.units+64 < cLine)(I:L2.Inv X pins σ H s)(hD:H D=some (iT D o))(n:lK X.w D o xs)(hr:aK X.K gg H (xs.map fun x=>V.ref x.2.1) (xs.map fun x=>x.1.data))(hk:Rep X.K gg H (.ref b) d)(hd:uD d=some k)(h8:k.depth<=8)(hz:xs.length < sizeLine)(ru:RelV (.bl true) u)
  (q:∀s' o',lK X.w D o' (storedH xs k b (.bool true))->L2.Inv X pins σ (upd H D (iT D o')) s'->Q () s'):wpAny (model X.prog X.w) X.A (dictSet D (.ref b) u) Q E s:=by
 obtain rfl:u=.bool true:=ru
 refine wpAny_dictSet_heap (knd:=nestedKind X.prog X.w) (k:=k) (hsz:=Nat.le_of_lt hz) (show X.A.units+8 < cLine by omega) ⟨key_is I hk hd rfl,h8⟩ (Hv I hD n rfl hr) ?_
 intro h' dd hs'
 obtain⟨o',es,ep,g1,g2,g3,g4,g5,g6⟩:=dd
 have nd:lK X.w D o' (storedH xs k b (.bool true)):=⟨n.sys,g2,⟨es,ep,g3,g4⟩,g6,by have:=Ry (xs:=xs) (k:=k) (b:=b) (u:=.bool true);omega,Tj n.dep h8⟩
 exact q _ o' nd (d_write I (by rw[hD];exact True.intro) hs' ⟨o',g1⟩ (Lk g1))
theorem al3{kx tg iter:Expr}{scope:Scope}{own:List (PySem.Str×Nat)}{pos vp:Pos}{vj:Nat}{wi:TI}{g:TG}{tk:TE}(hc:X.calm=true)(hN:X.N.Nodup)(hu:X.A.units+64 < cLine)(hi:PI X tg iter wi)(ok:BlkOk X.N X.env.scope scope own)
  (hg:∀(t:Shared) (G:Hp) (C:Addr) (cl:List (PySem.Str×Addr)) (fp:List Addr),PG (X.blk t G scope (compEnvC scope cl C X.env) fp) tg g)
  (hk:∀(t:Shared) (G:Hp) (C:Addr) (cl:List (PySem.Str×Addr)) (fp:List Addr),PE (X.blk t G scope (compEnvC scope cl C X.env) fp) kx tk) (hs:∀x,foldedSetIterable iter X.env x=pure x) :
  PE X (.DictComp kx (.Constant (.bool true) vj vp) [⟨tg,iter,[],0⟩] scope pos) (akJ X wi g tk (own.map (·.2))):=by
 refine⟨fun pins s σ H Q I h=>?_⟩
 rw[arm_eval_DictComp]
 have cells:∀y∈scope.names,y.2=.free->∃c,X.env.cells.lookup y.1=some c:=fun y hy e=>(ok.free y hy e).elim (fun k=>I.ok.has _ (.inl k)) (fun k=>I.ok.has _ (.inr k))
 refine wpAny_comprehension_free rfl hs (closure_ok cells) ok.kind (fun y hy e=>by rw[ok.uniq y hy,e]) (thn (hi.run pins s σ H _ I h) fun _ _ hx=>thn hx fun itv t0 h0=>?_)
 obtain⟨it,fp,tn,J,G0,rfl,I0,T,st0,f0,q⟩:=h0
 refine wpAny_newObj_type (newEnv_comp ?_)
 -- the new dict,at D
 obtain⟨D,hD⟩:∃D,D=t0.heap.objs.size:=⟨_,rfl⟩
 rw[←hD]
 obtain⟨W,⟨m0,w00⟩,turn⟩:=q D (I0.hok.fresh (Nat.le_of_eq hD.symm))
 obtain⟨ob,hob⟩:∃ob:Obj,ob={ cls:=.type "dict",data:=.dict #[] }:=⟨_,rfl⟩
 have nd0:lK X.w D ob []:=by
  rw[hob]
  exact⟨by rw[hD];exact beq_eq_false_iff_ne.mpr (Ne.symm (ata I0.big)),⟨rfl,rfl,rfl⟩,⟨#[],0,rfl,rfl⟩,atR,ath _,fun x hx=>absurd hx atc⟩
 have w0:=w00 ob nd0
 rw[←hob]
 obtain⟨t1,ht1⟩:∃t1:Shared,t1={ t0 with heap:=t0.heap.push ob }:=⟨_,rfl⟩
 obtain⟨G1,hG1⟩:∃G1,G1=upd G0 D (iT D ob):=⟨_,rfl⟩
 rw[←hG1]at w0
 have grow:∀b o,t0.heap.get? b=some o->t1.heap.get? b=some o:=fun b o e=>by rw[ht1];exact Heap.get?_push_of_some _ e
 have I1:L2.Inv X pins σ G1 t1:=by
  rw[ht1,hG1]
  refine I0.laid (t':=t0.toks) (fun b o e=>Heap.get?_push_of_some _ e) (Nat.le_of_eq hD.symm) (Lk ?_)
  rw[hD]
  exact Heap.get?_push_size _ (by rw[hob];rfl)
 have small:∀b∈fp,b < t0.heap.objs.size:=fun b hb=>by
  obtain⟨o,e,_⟩:=T.obj _ _ st0 b hb
  exact Heap.lt_size e
 have f1:∀b∈fp,FpOk X pins G1 b/\b < t1.heap.objs.size:=fun b hb=>by
  have hlt:=small b hb
  refine⟨⟨?_,(f0 b hb).2⟩,by rw[ht1];show b < (t0.heap.push ob).objs.size;rw[Heap.size_push];exact atF hlt⟩
  rw[hG1,upd_ne (by rw[hD];exact ata hlt)]
  exact(f0 b hb).1
 have st1:tn 0 t1.heap:=T.keep _ _ _ st0 fun b _ o e=>grow b o e
 have I2:=block_start I1 ok hN f1
 have pg:=hg t1 G1 t1.heap.objs.size (cellsFrom (t1.heap.objs.size+1) scope.names (cloFrom X.env.cells scope.names [])) fp
 have pk:=hk t1 G1 t1.heap.objs.size (cellsFrom (t1.heap.objs.size+1) scope.names (cloFrom X.env.cells scope.names [])) fp
 have none1:∀b∈fp,G1 b=none:=fun b hb=>(f1 b hb).1.1
 rw[show({ t0 with heap:=t0.heap.push ob }:Shared)=t1 from ht1.symm]
 obtain⟨ce,hce⟩:∃ce,ce=compEnvC scope (cellsFrom (t1.heap.objs.size+1) scope.names (cloFrom X.env.cells scope.names [])) t1.heap.objs.size X.env:=⟨_,rfl⟩
 rw[←hce]at I2 pg pk
 have cL:ce.locals=t1.heap.objs.size:=by rw[hce];rfl
 obtain⟨t2,ht2⟩:∃t2:Shared,t2={ t1 with heap:=pushCells (t1.heap.push { cls:=.type "dict",data:=.dict #[] }) scope.names }:=⟨_,rfl⟩
 rw[←ht2]at I2
 have st2:tn 0 t2.heap:=T.keep _ _ _ st1 fun b _ o e=>by rw[ht2];exact pushCells_keeps _ _ _ _ (Heap.get?_push_of_some _ e)
 have still:∀{σ':L2.St} {G':Hp} {t':Shared},L2.Inv (X.blk t1 G1 scope ce fp) [] σ' G' t'->(∀b∈fp,G' b=none)->∀b∈fp,FpOk (X.blk t1 G1 scope ce fp) [] G' b:=fun I' hn b hb=>
  ⟨hn b hb,(I'.ok.exf b hb).1,I'.ok.exfs b hb,.inl hb,fun x c e=>(I'.ok.exf b hb).2 x c e,fun p hp=>absurd (show p∈([]:List (Addr×Obj))++[] from hp) (by simp)⟩
 have pt:PTs (X.blk t1 G1 scope ce fp) [] tYes:=pts_nil
 have pv:PE (X.blk t1 G1 scope ce fp) (.Constant (.bool true) vj vp) (tC (.bl true)):=pe_bl
 have loop:codeAny (model X.prog X.w) X.A (.compLoop (.DictComp kx (.Constant (.bool true) vj vp) [⟨tg,iter,[],0⟩] scope pos) 0 (.ref it) (.ref D) ce) (compPost (model X.prog X.w) X.A X.xe none (EP X pins σ Q) (.ref D) t1.heap.objs.size) t2:=by
  refine compLoop_anyD (fun n t'=>∃i G',L2.Inv (X.blk t1 G1 scope ce fp) [] (L2.wipe σ (own.map (·.2))) G' t'/\tn i t'.heap/\(∀b∈fp,G' b=none)/\W i n G') ?_ m0 ⟨0,G1,I2,st2,none1,w0⟩
  rintro n t3 ⟨i,G3,I3,st3,n3,w3⟩
  rcases turn i n G3 w3 with⟨stop,fin⟩|⟨go,Nx,hNx,step⟩
  ·refine thnF (T.done (X.blk t1 G1 scope ce fp) rfl rfl rfl hc i [] t3 _ G3 (fun _ _=>False) I3 (still I3 n3) st3 stop) fun r t4 ⟨hr,I4⟩=>?_
   subst hr
   have I5:L2.Inv X pins σ G3 t4:=I1.call' (ch:=fp) I4.os I4.base I4.hok I4.bare fun b hb=>⟨(f1 b hb).1.2.2.2.1,(f1 b hb).1.2.1,(f1 b hb).1.2.2.2.2.1,(f1 b hb).1.2.2.2.2.2⟩
   have nC:G3 t1.heap.objs.size=none:=by rw[←cL];exact I4.free
   obtain⟨m,hn,_⟩:=I4.loc
   have hn':t4.heap.Ns t1.heap.objs.size m:=by rw[←cL];exact hn
   obtain⟨a0,a1,_,a3,a4,a5⟩:=I1.fpOk (as3 _) nC
   exact⟨m,hn',fun h'' sb=>⟨.ref D,G3,I5.turned (t':=t4.toks) (fun b o hb e=>(sb.2 b hb).trans e) a0 a1 a3 a4 a5,rfl,fin⟩⟩
  ·refine thnF (T.item (X.blk t1 G1 scope ce fp) rfl rfl rfl hc i [] t3 _ G3 (fun _ _=>False) I3 (still I3 n3) st3 go) fun r t4 ⟨u,hr,h4⟩=>?_
   subst hr
   refine thnF h4 fun _ t5 ⟨x,G5,I5,r5,y5,st5,n5⟩=>?_
   refine thnF (pg.run _ t5 _ G5 x u _ (I5.pinned (still I5 n5) (T.obj _ _ st5)) r5 (step x G5 y5)) fun _ t6 ⟨σ6,G6,I6,hw6,q6⟩=>?_
   refine thnF (pt.run _ t6 σ6 G6 (fun b G=>b=true/\G=G6) I6 ⟨rfl,rfl⟩) fun b t7 ⟨G7,I7,hb7,hG7⟩=>?_
   subst hb7 hG7
   have over:∀{t':Shared} {G':Hp},L2.Inv (X.blk t1 G1 scope ce fp) ([]++pinsAt fp t5.heap) σ6 G' t'->Nx G'->∃m,m < n/\∃i G',L2.Inv (X.blk t1 G1 scope ce fp) [] (L2.wipe σ (own.map (·.2))) G' t'/\tn i t'.heap/\(∀b∈fp,G' b=none)/\W i m G':=fun {t' G'} I' nx=>by
    obtain⟨m',hm,w'⟩:=hNx G' nx
    have pin:∀b∈fp,∀o,t5.heap.get? b=some o->t'.heap.get? b=some o/\G' b=none:=fun b hb o e=>
     let z:=I'.pin (b,o) (atD _ (atD _ (mem_pinsAt hb e)))
     ⟨z.1,z.2.1⟩
    refine⟨m',hm,i+1,G',(I'.unpinned (pins:=[])).weak (by rw[←hw6,wipe_length]) (fun j v e=>?_),T.keep _ _ _ st5 fun b hb o e=>(pin b hb o e).1,fun b hb=>?_,w'⟩
    ·rw[←hw6]at e
     exact(wipe_some e).1
    ·obtain⟨o,e,_⟩:=T.obj _ _ st5 b hb
     exact(pin b hb o e).2
   simp only[if_true]
   refine thnF (pk.run _ t7 σ6 _ _ I7 q6) fun z t8 ⟨yv,G8,I8,r8,o8,xs8,g8,d8,b8,k8,ey,hD8,n8,hr8,hk8,hd8,h88,hz8,nx⟩=>?_
   subst ey
   obtain rfl:z=Value.ref b8:=r8
   refine thnF (pv.run _ t8 σ6 G8 (fun v G=>v=.bl true/\G=G8) I8 ⟨rfl,rfl⟩) fun z2 t9 ⟨y9,G9,I9,r9,hv9,hG9⟩=>?_
   subst hv9 hG9
   exact agC (X:=X.blk t1 G1 scope ce fp) hu I9 hD8 n8 hr8 hk8 hd8 h88 hz8 r9 fun s' o' nd I10=>over I10 (nx o' nd)
 have done:=codeAny_compStart_dict loop (T.self X.A 0 _ _ _ st2 loop)
 rw[hce,ht2]at done
 subst hob
 exact done
end
def Fg(tg:fV)(tk:QF)(M:Mo)(ρ:Env):List Dat->List (Dat×Dat)->Out (List (Dat×Dat))
 |[],acc=>.ok acc
 |d::ds,acc=>match tg d ρ with
  |none=>.bad
  |some ρ1=>(yF (tk M ρ1)).bind fun kd=>(dhas true acc kd).bind fun r=>Fg tg tk M ρ ds (match r with
   |true=>acc
   |false=>acc++[(kd,.bool true)])
def qDc(it:IF)(tg:fV)(vs:List Nat)(tk:QF):Mo->Env->Out (List (Dat×Dat)):=fun M ρ=>(it M ρ).bind fun ds=>Out.when (decide (ds.length<=50000)) (Fg tg tk M (cC ρ vs) ds [])
def ajE(K:asr)(aj:aU)(W:WX)(f:Mo->Env->Out (List (Dat×Dat))):TE:=fun σ H Q=>∃g ρ M,SInv K aj σ H g ρ M/\(f M ρ).sat (fun kvs=>∀l o H',H l=none->Ex H H'->H' l=some (iT l o)->jF K aj (g.add l) H' l true kvs->Q (.ref l) H') (qX K aj W g H σ)
section
variable{X:Cx}{aj:aU}{W:WX}
theorem Wq{tg:fV}{tk:QF}{M:Mo}{ρ:Env}:∀{ds:List Dat} {acc:List (Dat×Dat)} {x:dD},Fg tg tk M ρ ds acc≠.exc x
 |[],_,_,h=>nomatch h
 |d::ds,acc,x,h=>by
  rw[Fg]at h
  split at h
  ·cases h
  ·next ρ1 e=>
   cases h1:tk M ρ1 with
   |bad=>rw[h1]at h;cases h
   |exc y=>rw[h1]at h;cases h
   |ok kd=>
    rw[h1]at h
    have h:((dhas true acc kd).bind fun r=>Fg tg tk M ρ ds (match r with
     |true=>acc
     |false=>acc++[(kd,.bool true)]))=.exc x:=h
    cases h2:dhas true acc kd with
    |bad=>rw[h2]at h;cases h
    |exc y=>
     unfold dhas at h2
     split at h2
     ·cases h2
     ·split at h2
      ·split at h2 <;> cases h2
      ·cases h2
     ·cases h2
    |ok r=>
     rw[h2]at h
     exact Wq h
theorem afQ{xs:List m9}{k:NestedKey}(h:∀x∈xs,x.2.2=.bool true):xs.map (putAt k (.bool true))=xs:=by
 have:∀x∈xs,putAt k (.bool true) x=x:=fun x hx=>by
  unfold putAt
  split
  ·obtain⟨a,b,c⟩:=x
   have:c=.bool true:=h _ hx
   rw[this]
  ·rfl
 calc xs.map (putAt k (.bool true))=xs.map id:=List.map_congr_left this
  _=xs:=List.map_id xs
theorem abP:∀{xs:List m9},(∀x∈xs,x.2.2=.bool true)->Vals (List.replicate xs.length (.bl true)) (xs.map (·.2.2))
 |[],_=>.nil
 |x::xs,h=>by
  rw[asM,List.replicate_succ,asx,h x asz]
  exact .cons rfl (abP fun y hy=>h y (asy _ hy))
theorem ab6{K:asr}{g:Gh}{H:Hp}:∀{kvs:List (Dat×Dat)} {n:Nat},n=kvs.length->(∀p∈kvs,p.2=.bool true)->aK K g H (List.replicate n (.bl true)) (kvs.map (·.2))
 |[],_,h,_=>by subst h;exact .nil
 |p::kvs,_,e,h=>by
  subst e
  rw[asM,List.replicate_succ,asx,h p asz]
  exact .cons (.bl true) (ab6 rfl fun y hy=>h y (asy _ hy))
theorem amg{it:IF}{tg:fV}{js vs:List Nat}{tk:QF}(hw:aj.w=X.w)(hj:∀j∈js,j∈vs)(σ:L2.St)(H:Hp)(Q:VK)(h:ajE X.K aj W (qDc it tg vs tk) σ H Q) :
  akJ X (tI X.K aj W false it) (Ac X.K aj js tg) (tQ X.K aj WF tk) vs σ H Q:=by
 obtain⟨g,ρ,M,I,h⟩:=h
 refine⟨g,ρ,M,I,h.bnd.mono (fun ds hk J C H1 e1 w c _ D nD=>?_) fun _ z=>z⟩
 obtain⟨hz,hk⟩:=hk.qp
 have hlen:=of_decide_eq_true hz
 obtain⟨total,htot,hQ⟩:∃total,Fg tg tk M (cC ρ vs) ds []=.ok total/\∀l o H',H l=none->Ex H H'->H' l=some (iT l o)->jF X.K aj (g.add l) H' l true total->Q (.ref l) H':=by
  cases hc:Fg tg tk M (cC ρ vs) ds [] with
  |bad=>rw[hc]at hk;exact False.elim hk
  |exc x=>exact absurd hc Wq
  |ok total=>
   rw[hc]at hk
   exact⟨total,rfl,hk⟩
 have I1:=(I.ex e1).wipe vs
 have kD:∀{Ha:Hp} {o:Obj},Ex H1 Ha->Ha D=some (iT D o)->SInv X.K aj (L2.wipe σ vs) Ha (g.add D) (cC ρ vs) M:=fun ea hu=>I1.add nD ea hu trivial
 let Pv:Nat->Hp->Prop:=fun i Ha=>Ex H1 Ha/\i<=ds.length/\∃o xs acc,Ha D=some (iT D o)/\lK X.w D o xs/\acc.map (·.1)=xs.map (fun x=>x.1.data)/\aK X.K (g.add D) Ha (xs.map fun x=>V.ref x.2.1) (acc.map (·.1))/\(∀x∈xs,x.2.2=.bool true)/\(∀p∈acc,p.2=.bool true)/\acc.length<=i/\Fg tg tk M (cC ρ vs) (ds.drop i) acc=.ok total
 refine⟨fun i m Ha=>m=ds.length - i/\Pv i Ha,⟨ds.length,fun o n0=>⟨rfl,Ex.new nD,ath _,o,[],[],upd_same,n0,rfl,.nil,fun x hx=>absurd hx atc,fun x hx=>absurd hx atc,as3 _,by rw[atZ];exact htot⟩⟩,?_⟩
 rintro i m Ha ⟨rfl,ea,hi,o,xs,acc,hu,nd,hK,hR,hT,hA,hy,hs⟩
 have Ia:=kD ea hu
 have Ca:=w.add g (g.add D) H1 Ha (I.kd.ex e1) c (Gh.Gu nD ea) ea
 have lxs:xs.length=acc.length:=by
  have:=congrArg List.length hK
  simpa using this.symm
 by_cases hlt:i < ds.length
 ·refine .inr ⟨w.go _ i Ha Ca hlt,Pv (i+1),fun H' p=>⟨ds.length - (i+1),by omega,rfl,p⟩,fun x H' y=>?_⟩
  have hd:ds[i]?=some ds[i]:=asw hlt
  obtain⟨e2,rx⟩:=w.yld _ i Ha x H' _ Ia.kd Ca hd y
  have I2:=Ia.ex e2
  rw[atq hlt,Fg]at hs
  split at hs
  ·cases hs
  ·next ρ1 he=>
   refine⟨g.add D,_,M,_,ρ1,I2,rx,he,fun ws I3=>⟨Ax js ws _ vs hj |>.trans (Ek σ vs),?_⟩⟩
   cases htk:tk M ρ1 with
   |bad=>rw[htk]at hs;cases hs
   |exc z=>rw[htk]at hs;cases hs
   |ok kd=>
    rw[htk]at hs
    have hs:((dhas true acc kd).bind fun r=>Fg tg tk M (cC ρ vs) (ds.drop (i+1)) (match r with
     |true=>acc
     |false=>acc++[(kd,.bool true)]))=.ok total:=hs
    refine⟨g.add D,ρ1,M,I3,?_⟩
    rw[htk]
    intro v H4 e4 ry
    have I4:=I3.ex e4
    have hu4:=e4 _ _ (e2 _ _ hu)
    have hR4:=(hR.ex e2 Ia.kd).ex e4 I2.kd
    cases hh:dhas true acc kd with
    |bad=>rw[hh]at hs;cases hs
    |exc z=>rw[hh]at hs;cases hs
    |ok r=>
     rw[hh]at hs
     obtain⟨ha2,hcase⟩:=Vo hh
     rcases hcase with⟨z,_⟩|⟨_,dd,kk,rfl,hkk,hdep⟩
     ·cases z
     ·have ek:=Af hkk
      rw[←ek,Iv hK]at ha2
      have hRx:=hR4
      rw[hK]at hRx
      cases ry with
      | @tup bb us _ hs' ht=>
       refine⟨o,xs,g.add D,_,bb,kk,rfl,hu4,nd,hRx,.tup hs' ht,hkk,hdep,sz_lt (by omega),fun o' nd'=>?_⟩
       have eD:Ex H1 (upd H4 D (iT D o')):=Ex.mut ((ea.trans e2).trans e4) nD
       have lD:(g.add D).Lo D:=.inr rfl
       have up:Gr true (g.add D) (g.add D) H4 (upd H4 D (iT D o')):=Gr.upd I4.kd hu4 (.inr lD)
       cases r with
       |true=>
        obtain⟨q,hq⟩:=Option.isSome_iff_exists.mp ha2
        rw[storedH_old hq,afQ hT]at nd'
        exact⟨eD,hlt,o',xs,acc,upd_same,nd',hK,hR4.gr up I4.kd,hT,hA,by omega,hs⟩
       |false=>
        have hn:atKey xs kk=none:=by
         cases hv:atKey xs kk with
         |none=>rfl
         |some _=>rw[hv]at ha2;cases ha2
        rw[storedH_new hn]at nd'
        have hs:Fg tg tk M (cC ρ vs) (ds.drop (i+1)) (acc++[(.tuple dd,.bool true)])=.ok total:=hs
        refine⟨eD,hlt,o',xs++[(kk,bb,.bool true)],acc++[(.tuple dd,.bool true)],upd_same,nd',by simp[hK,ek],?_,?_,?_,by simp;omega,hs⟩
        ·rw[List.map_append,List.map_append]
         exact(hR4.gr up I4.kd).back ((Rep.tup hs' ht).gr up I4.kd)
        ·intro x hx
         rcases asO.mp hx with z|z
         ·exact hT x z
         ·rw[asB.mp z]
        ·intro x hx
         rcases asO.mp hx with z|z
         ·exact hA x z
         ·rw[asB.mp z]
 ·have e:i=ds.length:=by omega
  refine .inl ⟨w.stop _ i Ha Ca e,?_⟩
  rw[e,atx]at hs
  cases hs
  exact hQ D o Ha (DG e1 D nD) (e1.trans ea) hu ⟨o,xs,List.replicate xs.length (.bl true),hu,by rw[hw];exact nd,hK,hR,abP hT,ab6 lxs hA⟩
def Sh(ft:Ft)(o:QF)(f:Str)(e:Mo->Env->Out (List (Dat×Dat))):SF:=fun M ρ=>((e M ρ).at M).then ρ fun kvs _=>((o (M++[⟨"",[]⟩]) ρ).at (M++[⟨"",[]⟩])).then ρ fun od M2=>match kh M2 od with
 |some (h,i)=>match ft.has i.cls f&&decide (i.fs.length < 100) with
  |true=>.next ρ (M2.set h (i.put f (.dic true kvs)))
  |false=>.bad
 |none=>.bad
end
theorem aax{K:asr}{g:Gh}{H:Hp}{l:Addr}{vs:List V}{ds:List Dat}(h:aK K (g.add l) H vs ds):aK K (g.push l) H vs ds:=aK.mv (g:=g.add l) (g':=g.push l) (fun h a z=>by
  have z:g.tbl[h]?=some a:=z
  show(g.tbl++[l])[h]?=some a
  rw[asK (asv.mp z).1]
  exact z) (fun a z=>by
  rcases aah z with z|rfl
  ·rcases z with z|z|z
   ·exact .inl z
   ·exact .inr (.inl z)
   ·exact .inr (.inr (show g.Lo a∨a=l from Or.inl z))
  ·exact .inr (.inr (show g.Lo a∨a=a from Or.inr rfl))) h
section
variable{X:Cx}{aj:aU}{W:WX}{o e:Expr}{f:Str}{pos pos':Pos}{ft:Ft}{fo:QF}
theorem aiG{fe:Mo->Env->Out (List (Dat×Dat))}{te:TE}(co:jH X.K aj)(fk:KR ft aj)(ho:QW aj X W o fo)(he:PE X e te)(hte:∀σ H Q,ajE X.K aj W fe σ H Q->te σ H Q)(hs:swapsWith e (some (.Attribute o f pos')) pos.line X.env=pure false):SE aj X W false (.Assign [.Attribute o f pos'] e pos) (Sh ft fo f fe):=by
 refine PS.weak (ps_fld ho he hs) fun D σ H ⟨g,ρ,M,I,z⟩=>hte σ H _ ⟨g,ρ,M,I,?_⟩
 unfold Sh at z
 cases hf:fe M ρ with
 |exc x=>rw[hf]at z;exact fun H' c dd e r=>z σ H' g c dd (Gr.ex e) (I.ex e) r.fr
 |bad=>rw[hf]at z;exact False.elim z
 |ok kvs=>
  rw[hf]at z
  intro l ob H1 nl e1 hl dic
  obtain⟨gr,I1,tb,ow,mm⟩:=Lr I nl e1 hl trivial
  have dic1:jF X.K aj (g.push l) H1 l true kvs:=by
   obtain⟨o',xs,vs,q1,q2,q3,q4,q5,q6⟩:=dic
   exact⟨o',xs,vs,q1,q2,q3,aax q4,q5,aax q6⟩
  have z:(((fo (M++[⟨"",[]⟩]) ρ).at (M++[⟨"",[]⟩])).then ρ fun od M2=>match kh M2 od with
   |some (h,i)=>match ft.has i.cls f&&decide (i.fs.length < 100) with
    |true=>.next ρ (M2.set h (i.put f (.dic true kvs)))
    |false=>.bad
   |none=>.bad).sat (sN X.K aj false D.nx g H) (sR X.K aj false D.rt g H) (sN X.K aj false D.bk g H) (sN X.K aj false D.ct g H) (sX X.K aj W false g H):=z
  have k1:=Out.jf (dB (σ:=σ) z)
  refine tW.go I1 (k1.mono (fun _ y=>y) fun x y H' c dd ex rx=>y H' _ c dd (gr.trans (Gr.ex ex)) (I1.ex ex) rx) fun od u H2 k2 e2 ru=>?_
  have I2:=I1.ex e2
  split at k2
  ·next h i hi=>
   split at k2
   ·next hb=>
    rw[asu]at hb
    obtain⟨a,C,dx,fs,_,m1,m2,ha,rfl,c1,c2,c3,c4,c5,c6⟩:=Hq co fk I2.wok ru hi hb.1
    have nla:l≠a:=fun z=>by
     subst z
     cases I2.wok.inj _ _ _ ha tb
     rw[mm]at m1
     cases m1
     exact m2 rfl
    refine⟨a,C,dx,fs,rfl,c2,c4,c5,?_,?_⟩
    ·have:=of_decide_eq_true hb.2
     rw[c3.len]
     omega
    ·have ch:=Uz (f:=f) (C:=C) (dx:=dx) (fs':=putF f (.ref l) fs) I2.kd I2.wok ha m1 m2 tb mm ow
     have w':=I2.wok.chg I2.kd ch ha m1 m2 c6 c1 c3 upd_same (v:=.ref l) (fl:=.dic true kvs) ⟨l,rfl,if_pos rfl,jF.chg ch.gc.gr I2.kd (upd_ne nla) (dic1.ex e2 I1.kd)⟩
     exact k2 σ _ _ ((gr.trans (Gr.ex e2)).trans ch.gc.gr) (I2.chg ch w')
   ·exact False.elim k2
  ·exact False.elim k2
end
end Rf
namespace Ear
open PySem PySem.Spec PyProof.Rows L2 Evl RZ
abbrev wX(K:asr)(H:Hp)(v:V)(r:Rw):Prop:=Dp K H v (rD r)
@[irreducible]def Lf (K:asr) (w:World):List V->Hp->VK->Prop:=fun vs H Q=>∃(l:Addr) (ws:List V) (R D:List Rw),vs=[V.ref l]/\SqL K H l ws/\fD (wX K H) ws R/\D.length<=76/\(∀r∈R,r∈D)/\
 ∀(p:Addr) (L:List Ent),H p=none->(∀e∈L,wX K H (.ref e.1) e.2)->(L.map Prod.snd).Nodup->(∀r,r∈L.map Prod.snd↔r∈R)->L.length<=76->Q (.ref p) (upd H p (NP w p L))
@[irreducible]def QC (K:asr) (w:World):List V->Hp->VK->Prop:=fun vs H Q=>∃(a:Addr) (L:List Ent),vs=[V.ref a]/\H a=some (NP w a L)/\(∀e∈L,wX K H (.ref e.1) e.2)/\(L.map Prod.snd).Nodup/\L.length<=76/\
 ∀(ys:List V) (M:List Rw) (p:Addr),fD (wX K H) ys M->Di M->(∀r,r∈M↔r∈L.map Prod.snd)->H p=none->Q (.ref p) (upd H p (.lst ys))
section
variable{X:Cx}
theorem afW{pins:List (Addr×Obj)}{σ:L2.St}{H:Hp}{s:Shared}(I:Inv X pins σ H s){t:Addr}{r:Rw}(h:wX X.K H (.ref t) r):RI s.heap r t:=by
 refine⟨?_,by rw[af0];decide⟩
 unfold wX rD dT at h
 cases h with
 |tup h1 t1=>
  cases t1 with
  |cons a1 t1=>
   cases t1 with
   |cons a2 t1=>
    cases t1
    cases a1
    cases a2 with
    |tup h2 t2=>
     obtain⟨us,rv,⟨o,ho,hc,n,hd⟩,_⟩:=I.tuple h1
     obtain⟨us2,rv2,⟨o2,ho2,hc2,n2,hd2⟩,_⟩:=I.tuple h2
     refine .tup ho hc hd ?_
     cases rv with
     |cons r1 rv=>
      cases rv with
      |cons r2 rv=>
       cases rv
       obtain⟨tk,rfl⟩:=r1
       cases r2
       have e:∀{vs:List V} {l:List Int},DpAll X.K H vs (l.map PyData.int)->vs=l.map V.int:=by
        intro vs l
        induction l generalizing vs with
        |nil=>intro z;cases z;rfl
        |cons i l ih=>
         intro z
         cases z with
         |cons b1 b2=>
          cases b1
          rw[ih b2]
          rfl
       rw[e t2]at rv2
       exact .cons (.int r.1 tk) (.cons (.tup ho2 hc2 hd2 (by simpa using W3 (P:=X.prog) (w:=X.w) r.2 us2 rv2)) .nil)
theorem Tv{K:asr}{H:Hp}:∀(ws:List V) (R:List Rw),fD (wX K H) ws R->∃ks:List Ent,ws=(ks.map fun p=>V.ref p.1)/\ks.map Prod.snd=R/\∀p∈ks,wX K H (.ref p.1) p.2
 |[],[],_=>⟨[],rfl,rfl,by simp⟩
 |[],_::_,h=>nomatch h.1
 |_::_,[],h=>nomatch h.1
 |v::ws,r::R,h=>by
  obtain⟨ks,e1,e2,e3⟩:=Tv ws R ⟨ato h.1,fun i v x a b=>h.2 (i+1) v x a b⟩
  have hr:wX K H v r:=h.2 0 v r rfl rfl
  have ev:∃t,v=.ref t:=by
   have z:=hr
   unfold wX rD at z
   cases z with
   |tup _ _=>exact⟨_,rfl⟩
  obtain⟨t,rfl⟩:=ev
  refine⟨(t,r)::ks,by rw[asx,←e1],by rw[asx,e2],fun p hp=>?_⟩
  rcases asN.mp hp with e|hp
  ·rw[e];exact hr
  ·exact e3 p hp
theorem aa8(hu:X.A.units+65 < cLine)(hc:X.calm=true):CallR X (.type "set") (Lf X.K X.w):=by
 intro pins s σ H vs us Q I r h
 unfold Lf at h
 obtain⟨l,ws,R,D,rfl,hl,hA,hD,hRD,q⟩:=h
 rw[Vals.ref1 r]
 obtain⟨ks,e1,e2,e3⟩:=Tv ws R hA
 obtain⟨its,rv,pl,hz⟩:=I.list hl
 rw[e1]at rv
 have mem:∀p∈ks,p.2∈R:=fun p hp=>by
  rw[←e2]
  exact asJ.mpr ⟨p,hp,rfl⟩
 have hn:H s.heap.objs.size=none:=I.hok.fresh (as3 _)
 refine aaS (P:=X.prog) (w:=X.w) (hf:=fun r=>(nR X.prog X.w).hash r) (fun _=>rfl) ks D hD (fun p hp=>hRD _ (mem p hp)) (I.ok.hd hc) pl.isList (by simpa using WK rv) (fun p hp=>afW I (e3 p hp)) (by omega) fun h' tk L es ep t S g k=>?_
 have fitL:t.fits es.size=true:=qP.fits (s:={ s with heap:=h',toks:=tk }) S
 have new:ObjOk X.prog X.w (upd H s.heap.objs.size (NP X.w s.heap.objs.size L)) h' s.heap.objs.size (NP X.w s.heap.objs.size L):=by
  obtain⟨o,ho,hr⟩:=S.ob
  refine⟨⟨_,es,ep,t,S.ob,S.en,fitL,S.tab.ris,S.ld⟩,⟨o,ho⟩,fun h1 h2 z k2=>?_⟩
  obtain⟨hf2,es2,ep2,t2,⟨o2,ho2,hr2⟩,rest⟩:=(show acL X.w h1 s.heap.objs.size L from z)
  exact⟨hf2,es2,ep2,t2,⟨o2,k2 o2 ho2,hr2⟩,rest⟩
 refine⟨.ref s.heap.objs.size,upd H s.heap.objs.size (NP X.w s.heap.objs.size L),I.laid (t':=tk) k (as3 _) new,rfl,q _ L hn (fun e he=>e3 e (atH (g.sub e he))) S.nd (fun r=>⟨fun m=>?_,fun m=>?_⟩) S.few⟩
 ·obtain⟨e,he,e5⟩:=asJ.mp m
  rw[←e5]
  exact mem e (atH (g.sub e he))
 ·rw[←e2]at m
  obtain⟨p,hp,e5⟩:=asJ.mp m
  rw[←e5]
  exact g.all p (by rw[List.take_length];exact hp)
theorem acA(hu:X.A.units+65 < cLine)(hc:X.calm=true):CallR X (.builtin "sorted") (QC X.K X.w):=by
 intro pins s σ H vs us Q I r h
 unfold QC at h
 obtain⟨a,L,rfl,ha,hL,nd,few,q⟩:=h
 rw[Vals.ref1 r]
 obtain⟨hf,es,ep,t,⟨o,ho,hex,hd⟩,en,fit,ris,led⟩:acL X.w s.heap a L:=(I.hok a _ ha).1
 have len:=yR en
 have ev:∀K:List Ent,(∀p∈K,p∈L)->PySem.W.EachIs (fun v (r:Rw)=>(∃p∈L,v=Value.ref p.1/\r=p.2)/\∃as,Reads s.heap v (rD r) as) ((ents hf K).map (·.2)) (K.map Prod.snd):=by
  intro K
  induction K with
  |nil=>exact fun _=>.nil
  |cons p K ih=>
   intro hK
   have hp:=hK p asz
   exact .cons ⟨⟨p,hp,rfl,rfl⟩,Dp.reads I (rD p.2) (.ref p.1) (.ref p.1) (hL p hp) rfl⟩ (ih fun x hx=>hK x (asy _ hx))
 refine aaK (enc:=rD) (bs:=L.map Prod.snd) (I.ok.hd hc) ⟨o,ho,hex.1,hd⟩ fit (by unfold scanBound;omega) ris led (by rw[en];exact ev L fun p hp=>hp) (PySem.W.AllAlike.of Ly) (PySem.W.Sortable.tuples fun b=>⟨_,_,rfl⟩) (fun b _=>by rw[(aeE b).2];omega) fun s' p out c cs k g' o' hp hg pc eo=>?_
 have mp:=List.mergeSort_perm cs (PySem.W.dataLe false rD)
 have ndm:(cs.mergeSort (PySem.W.dataLe false rD)).Nodup:=(mp.trans pc).nodup_iff.mpr nd
 have srt:=atL (le:=PySem.W.dataLe false rD) (fun a b c k1 k2=>by rw[Lz,decide_eq_true_eq]at *;exact List.le_trans k1 k2) (fun a b=>by rw[Lz,Lz,atN,decide_eq_true_eq,decide_eq_true_eq];exact List.le_total _ _) cs
 generalize cs.mergeSort (PySem.W.dataLe false rD)=M at mp ndm srt eo
 obtain⟨ys,v1,v2⟩:=WY out M eo
 have up:Di M:=by
  refine List.Pairwise.imp₂ (fun a b h1 h2=>?_) srt ndm
  rw[Lz,decide_eq_true_eq]at h1
  by_cases c:rk a < rk b
  ·exact c
  ·exact absurd (aaj (List.le_antisymm h1 (List.not_lt.mp c))) h2
 have hfr:H p=none:=I.hok.fresh hp
 have hlen:ys.length<=sizeLine:=by
  rw[v2.1,mp.length_eq,pc.length_eq,asH,sizeLine_eq]
  omega
 have J:Inv X pins σ (upd H p (.lst ys)) { s with heap:=s'.heap,gens:=s'.gens,drawn:=s'.drawn,toks:=s'.toks }:=
  I.call (ch:=[]) (Un.laid k hp hfr) (I.hok.laid k hp ⟨hlen,out,c,v1,hg⟩) (by rw[g'];exact I.bare) (fun _ z=>nomatch z)
 have es':s'={ s with heap:=s'.heap,gens:=s'.gens,drawn:=s'.drawn,toks:=s'.toks }:=by
  cases s'
  cases s
  cases o'
  rfl
 rw[es']
 refine⟨.ref p,_,J,rfl,q ys M p (v2.imp fun v r ⟨e,he,h1,h2⟩=>?_) up (fun r=>(mp.trans pc).mem_iff) hfr⟩
 subst h1 h2
 exact hL e he
end
end Ear
namespace Rf
open PySem PySem.Spec PyProof.Rows L2 Evl
def acW:Dat->Option Ear.Rw
 |.tuple [.int o,.tuple ds]=>(intsOf ds).map fun l=>(o,l)
 |_=>none
def Cq:List Dat->Option (List Ear.Rw)
 |[]=>some []
 |d::ds=>(acW d).bind fun r=>(Cq ds).bind fun rs=>some (r::rs)
theorem Ld:∀{ds:List Dat} {l:List Int},intsOf ds=some l->ds=l.map PyData.int
 |[],l,h=>by cases h;rfl
 |.int i::ds,l,h=>by
  rw[intsOf,atp]at h
  obtain⟨r,h1,rfl⟩:=h
  rw[Ld h1]
  rfl
 |.none::_,_,h=>by cases h
 |.bool _::_,_,h=>by cases h
 |.str _::_,_,h=>by cases h
 |.list _::_,_,h=>by cases h
 |.tuple _::_,_,h=>by cases h
 |.dict _::_,_,h=>by cases h
theorem ah4{d:Dat}{r:Ear.Rw}(h:acW d=some r):d=Ear.rD r:=by
 unfold acW at h
 split at h
 ·next o ds=>
  rw[atp]at h
  obtain⟨l,h1,rfl⟩:=h
  rw[Ld h1]
  rfl
 ·cases h
theorem Qu:∀{ds:List Dat} {rs:List Ear.Rw},Cq ds=some rs->ds=rs.map Ear.rD
 |[],_,h=>by cases h;rfl
 |d::ds,_,h=>by
  rw[Cq]at h
  obtain⟨r,h1,h⟩:=asq.mp h
  obtain⟨rs,h2,h⟩:=asq.mp h
  cases h
  rw[ah4 h1,Qu h2]
  rfl
def pA(R:List Ear.Rw):List Ear.Rw:=R.mergeSort fun a b=>decide (Ear.rk a<=Ear.rk b)
def sortI(l:List Int):List Int:=l.mergeSort fun a b=>decide (a<=b)
def bM(R:List Ear.Rw):List Ear.Rw:=pA R.eraseDups
def ag7(l:List Int):List Int:=sortI l.eraseDups
theorem YW:∀(n:Nat) (l:List Int),mY n (l.map PyData.int)=true:=fun n l=>by
 induction l with
 |nil=>rfl
 |cons i l ih=>simp[mY,okd,ih]
theorem Dz(n:Nat)(r:Ear.Rw):okd (n+2) (Ear.rD r)=true:=by
 unfold Ear.rD Ear.dT
 simp[okd,mY,YW]
theorem abj(n:Nat)(R:List Ear.Rw):mY (n+2) (R.map Ear.rD)=true:=by
 induction R with
 |nil=>rfl
 |cons r R ih=>simp[mY,Dz,ih]
def zR:Dat->Out Dat
 |.list ds=>match intsOf ds with
  |some l=>.ok (.list ((sortI l).map PyData.int))
  |none=>match Cq ds with
   |some R=>.ok (.list ((pA R).map Ear.rD))
   |none=>.bad
 |_=>.bad
def Q8:Dat->Out Dat
 |.list ds=>match Cq ds with
  |some R=>match decide (R.eraseDups.length<=76) with
   |true=>.ok (.list ((bM R).map Ear.rD))
   |false=>.bad
  |none=>.bad
 |_=>.bad
theorem V3{β:Type}{enc:β->Dat}{le:β->β->Bool}(h:∀a b,PySem.W.dataLe false id (enc a) (enc b)=le a b)(l:List β):(l.map enc).mergeSort (PySem.W.dataLe false id)=(l.mergeSort le).map enc:=by
 rw[List.map_mergeSort (r:=le) (s:=PySem.W.dataLe false id) (fun a _ b _=>(h a b).symm)]
theorem Bu{α:Type}[BEq α][LawfulBEq α]{l:List α}{x:α}:x∈l.eraseDups↔x∈l:=by
 induction hn:l.length using Nat.strongRecOn generalizing l with
 |_ n ih=>
  cases l with
  |nil=>simp
  |cons a r=>
   rw[atJ]
   simp only[asM]at hn
   have hl:(r.filter fun b=>!b==a).length<=r.length:=asQ _ _
   rw[asN,ih _ (by omega) rfl,asY,asN]
   constructor
   ·rintro(h|h)
    ·exact .inl h
    ·exact .inr h.1
   ·rintro(h|h)
    ·exact .inl h
    ·by_cases e:x=a
     ·exact .inl e
     ·exact .inr ⟨h,by simpa using e⟩
theorem SN{α:Type}[BEq α][LawfulBEq α]{l:List α}:l.eraseDups.Nodup:=by
 induction hn:l.length using Nat.strongRecOn generalizing l with
 |_ n ih=>
  cases l with
  |nil=>simp
  |cons a r=>
   rw[atJ]
   simp only[asM]at hn
   have hl:(r.filter fun b=>!b==a).length<=r.length:=asQ _ _
   refine atu.mpr ⟨fun h=>?_,ih _ (by omega) rfl⟩
   rw[Bu,asY]at h
   simpa using h.2
theorem jP{R:List Ear.Rw}{r:Ear.Rw}:r∈bM R↔r∈R:=by
 unfold bM pA
 rw[List.mem_mergeSort,Bu]
theorem zA(R:List Ear.Rw):Ear.Di (bM R):=by
 unfold Ear.Di bM pA
 have srt:=atL (le:=fun a b:Ear.Rw=>decide (Ear.rk a<=Ear.rk b)) (fun a b c k1 k2=>by rw[decide_eq_true_eq]at *;exact List.le_trans k1 k2) (fun a b=>by rw[atN,decide_eq_true_eq,decide_eq_true_eq];exact List.le_total _ _) R.eraseDups
 have nd:(R.eraseDups.mergeSort fun a b=>decide (Ear.rk a<=Ear.rk b)).Nodup:=(List.mergeSort_perm _ _).nodup_iff.mpr SN
 refine List.Pairwise.imp₂ (fun a b h1 h2=>?_) srt nd
 rw[decide_eq_true_eq]at h1
 by_cases c:Ear.rk a < Ear.rk b
 ·exact c
 ·exact absurd (Ear.aaj (List.le_antisymm h1 (List.not_lt.mp c))) h2
section
variable{K:asr}{g:Gh}{H:Hp}
theorem Qs{xs:List V}{ds:List Dat}(h:aK K g H xs ds):∀{ys:List V} {es:List Dat},Ear.fD (Ear.afB xs ds) ys es->aK K g H ys es
 |[],[],_=>.nil
 |[],_::_,z=>nomatch z.1
 |_::_,[],z=>nomatch z.1
 |y::ys,e::es,z=>by
  obtain⟨i,h1,h2⟩:=z.2 0 y e rfl rfl
  obtain⟨d,h3,h4⟩:=h.get' h1
  rw[h2]at h3
  cases h3
  exact .cons h4 (Qs h ⟨ato z.1,fun i v x a b=>z.2 (i+1) v x a b⟩)
end
section
variable{X:Cx}{aj:aU}{W:WX}{a:Expr}{fa:QF}{p p2 pos pos2:Pos}
theorem ahK:JW aj X.K W zR (Ear.Iu X.K):=fun σ g H x d Q k rx h=>by
 unfold zR at h
 split at h
 ·next ds=>
  obtain⟨l,us,rfl,h1,h2⟩:=ji rx
  unfold Ear.Iu
  split at h
  ·next ns hn=>
   have e:=Ld hn
   subst e
   refine⟨l,us,ns.map PyData.int,rfl,h1,h2.dp (n:=12) (YW 12 ns),PySem.W.AllAlike.of (fun a b=>by simp[PySem.W.alike]),PySem.W.Sortable.others (fun b=>⟨(fun z=>nomatch z),fun xs z=>nomatch z⟩),fun d hd=>by
    obtain⟨i,_,rfl⟩:=asJ.mp hd
    simp[PyData.depth],fun ys q hy nq=>?_⟩
   have hs:=V3 (enc:=PyData.int) (le:=fun a b:Int=>decide (a<=b)) (fun a b=>congrFun (congrFun (PySem.W.dataLe_int (fun k:Int=>k)) a) b) ns
   rw[hs]at hy
   exact h (.ref q) _ (Ex.new nq) (.lst (.inl ⟨.inl upd_same,k.fresh nq⟩) ((Qs h2 hy).ex (Ex.new nq) k))
  ·split at h
   ·next R hR=>
    have e:=Qu hR
    subst e
    refine⟨l,us,R.map Ear.rD,rfl,h1,h2.dp (n:=12) (abj 10 R),PySem.W.AllAlike.of Ear.Ly,PySem.W.Sortable.tuples (fun b=>⟨_,_,rfl⟩),fun d hd=>by
     obtain⟨i,_,rfl⟩:=asJ.mp hd
     rw[(Ear.aeE i).2]
     decide,fun ys q hy nq=>?_⟩
    ·have hs:=V3 (enc:=Ear.rD) (le:=fun a b:Ear.Rw=>decide (Ear.rk a<=Ear.rk b)) (fun a b=>by rw[←Ear.Lz];rfl) R
     rw[hs]at hy
     exact h (.ref q) _ (Ex.new nq) (.lst (.inl ⟨.inl upd_same,k.fresh nq⟩) ((Qs h2 hy).ex (Ex.new nq) k))
   ·exact False.elim h
 ·exact False.elim h
theorem ahR(hu:X.A.units+65 < cLine)(hg:Gl X "sorted")(hm:X.mg "sorted"=none)(ha:QW aj X W a fa)(hs:nst a=true):QE aj X W (.Call (.Name "sorted" p) [a] [] pos) (dZ zR fa):=
 ahg (.inl rfl) (Ear.acX hu) ahK hg hm ⟨by decide +kernel,by decide,by decide⟩ ha hs
theorem abw{K:asr}{g:Gh}{H:Hp}:∀{vs:List V} {l:List Int},DpAll K H vs (l.map PyData.int)->aK K g H vs (l.map PyData.int)
 |_,[],.nil=>.nil
 |_,_::_,.cons (.int i) t=>.cons (.int i) (abw t)
theorem afp{K:asr}{g:Gh}{H:Hp}{v:V}{r:Ear.Rw}(h:Ear.wX K H v r):Rep K g H v (Ear.rD r):=by
 unfold Ear.wX Ear.rD at h
 cases h with
 |tup h1 t1=>
  cases t1 with
  |cons a1 t1=>
   cases a1
   cases t1 with
   |cons a2 t2=>
    cases t2
    cases a2 with
    |tup h2 t3=>exact .tup h1 (.cons (.int _) (.cons (.tup h2 (abw t3)) .nil))
theorem VN{K:asr}{g:Gh}{H:Hp}:∀{vs:List V} {R:List Ear.Rw},aK K g H vs (R.map Ear.rD)->Ear.fD (Ear.wX K H) vs R
 |_,[],.nil=>⟨rfl,fun i v x a b=>by simp at a⟩
 |_,r::R,.cons h t=>by
  have ih:=VN t
  refine⟨congrArg (· + 1) ih.1,fun i v x a b=>?_⟩
  cases i with
  |zero=>
   simp at a b
   subst a b
   exact h.dp (n:=12) (Dz 10 _)
  |succ i=>exact ih.2 i v x (by simpa using a) (by simpa using b)
theorem Wk{K:asr}{g:Gh}{H:Hp}:∀{vs:List V} {R:List Ear.Rw},Ear.fD (Ear.wX K H) vs R->aK K g H vs (R.map Ear.rD)
 |[],[],_=>.nil
 |[],_::_,h=>nomatch h.1
 |_::_,[],h=>nomatch h.1
 |v::vs,r::R,h=>.cons (afp (h.2 0 v r rfl rfl)) (Wk ⟨ato h.1,fun i v x a b=>h.2 (i+1) v x a b⟩)
theorem ahv(hu:X.A.units+65 < cLine)(hc:X.calm=true)(hg:Gl X "sorted")(hm:X.mg "sorted"=none)(hg2:Gl X "set")(hm2:X.mg "set"=none)(ha:QW aj X W a fa)(hs:nst a=true):QE aj X W (.Call (.Name "sorted" p) [.Call (.Name "set" p2) [a] [] pos2] [] pos) (dZ Q8 fa):=by
 have h0:=pa_cons ha pa_nil (cQ hs [])
 have h1:PE X (.Call (.Name "set" p2) [a] [] pos2) _:=pe_callTy (Ear.aa8 hu hc) hg2 hm2 (by decide +kernel) h0 (by decide) (by decide) (cQ hs []) (by with_unfolding_all rfl)
 have h2:=pa_cons h1 pa_nil (cQ rfl [])
 refine PE.weak (pe_callB (p:=p) (pos:=pos) (Ear.acA hu hc) hg hm (by decide +kernel) h2 (by decide) (by decide) (cQ rfl []) (by with_unfolding_all rfl)) fun σ H Q ⟨g,ρ,M,I,h⟩=>?_
 refine tW.go I h.bnd fun d v H1 h1 e1 r1=>?_
 have I1:=I.ex e1
 unfold Q8 at h1
 split at h1
 ·next ds=>
  split at h1
  ·next R hR=>
   split at h1
   ·next hd=>
    have e:=Qu hR
    subst e
    obtain⟨l,us,rfl,s1,s2⟩:=ji r1
    unfold Ear.Lf
    refine⟨l,us,R,R.eraseDups,rfl,s1,VN s2,of_decide_eq_true hd,fun r hr=>Bu.mpr hr,fun q L nq hL nd mem few=>?_⟩
    have eq:Ex H1 (upd H1 q (Ear.NP X.w q L)):=Ex.new nq
    unfold Ear.QC
    refine⟨q,L,rfl,upd_same,fun e he=>?_,nd,few,fun ys S z hy up ms nz=>?_⟩
    ·exact(Rep.ex eq I1.kd (afp (g:=g) (hL e he))).dp (n:=12) (Dz 10 _)
    ·have hS:S=bM R:=Ear.aeZ up (zA R) fun r=>by rw[ms,mem,jP]
     subst hS
     have I2:=I1.ex eq
     exact h1 (.ref z) _ ((e1.trans eq).trans (Ex.new nz)) (.lst (.inl ⟨.inl upd_same,I2.kd.fresh nz⟩) ((Wk hy).ex (Ex.new nz) I2.kd))
   ·exact False.elim h1
  ·exact False.elim h1
 ·exact False.elim h1
def ahJ(it:IF)(tg:fV)(vs:List Nat)(tt:QT)(te:QF):QF:=fun M ρ=>(Bc it tg vs tt te M ρ).bind fun ds=>match intsOf ds with
 |some l=>Out.when (decide (l.length<=4000)) (.ok (.list ((ag7 l).map PyData.int)))
 |none=>.bad
end
def zU(ρ:Env):Bool:=ρ.all fun o=>match o with
 |some (.mut _)=>false
 |_=>true
theorem YZ{ρ:Env}(h:zU ρ=true){i:Nat}{xs:List Dat}:ρ[i]?≠some (some (.mut xs)):=fun z=>by
 have:=asV.mp h _ (asC z)
 cases this
theorem SInv.loc{K:asr}{aj:aU}{σ:L2.St}{H:Hp}{g:Gh}{ρ:Env}{M:Mo}{D:Addr}{us us':List V}(I:SInv K aj σ H g ρ M)(n:zU ρ=true)(hD:H D=some (.lst us))(lo:g.Lo D):SInv K aj σ (upd H D (.lst us')) g ρ M where
 kd:=I.kd.upd trivial
 wok:=I.wok.loc I.kd hD lo
 len:=I.len
 dat:=fun i d h=>by
  obtain⟨v,h1,h2⟩:=I.dat i d h
  exact⟨v,h1,ahU I.kd hD lo h2⟩
 own:=fun i xs h=>absurd h (YZ n)
 sep:=fun i j xs ys l ne h1=>absurd h1 (YZ n)
def ig(tg:fV)(tt:QT)(it1:IF)(tg1:fV)(vs1:List Nat)(tt1:QT)(te:QF)(M:Mo)(ρ:Env):List Dat->Out (List Dat)
 |[]=>.ok []
 |d::ds=>match tg d ρ with
  |none=>.bad
  |some ρ1=>(yF (tt M ρ1)).bind fun b=>if b=true then Out.when (zU ρ1) ((yF (it1 M ρ1)).bind fun es=>(dH tg1 tt1 te M (cC ρ1 vs1) es).bind fun r1=>(ig tg tt it1 tg1 vs1 tt1 te M ρ ds).bind fun r=>.ok (r1++r)) else ig tg tt it1 tg1 vs1 tt1 te M ρ ds
def ab1(it:IF)(tg:fV)(vs:List Nat)(tt:QT)(it1:IF)(tg1:fV)(vs1:List Nat)(tt1:QT)(te:QF):IF:=fun M ρ=>(it M ρ).bind fun ds=>(ig tg tt it1 tg1 vs1 tt1 te M (cC ρ vs) ds).bind fun r=>Out.when (decide (r.length<=50000)) (.ok r)
def DY(it:IF)(tg:fV)(vs:List Nat)(tt:QT)(it1:IF)(tg1:fV)(vs1:List Nat)(tt1:QT)(te:QF):QF:=fun M ρ=>(ab1 it tg vs tt it1 tg1 vs1 tt1 te M ρ).bind fun r=>.ok (.list r)
theorem yr{tg tg1:fV}{tt tt1:QT}{te:QF}{it1:IF}{vs1:List Nat}{M:Mo}{ρ:Env}:∀{ds:List Dat} {x:dD},ig tg tt it1 tg1 vs1 tt1 te M ρ ds≠.exc x
 |[],_,h=>nomatch h
 |d::ds,x,h=>by
  rw[ig]at h
  split at h
  ·cases h
  ·next ρ1 e=>
   cases h1:tt M ρ1 with
   |bad=>rw[h1]at h;cases h
   |exc y=>rw[h1]at h;cases h
   |ok b=>
    rw[h1]at h
    cases b with
    |false=>exact yr (ds:=ds) (x:=x) h
    |true=>
     cases hn:zU ρ1 with
     |false=>rw[hn]at h;cases h
     |true=>
      rw[hn]at h
      cases h2:it1 M ρ1 with
      |bad=>rw[h2]at h;cases h
      |exc y=>rw[h2]at h;cases h
      |ok es=>
       rw[h2]at h
       have h:((dH tg1 tt1 te M (cC ρ1 vs1) es).bind fun r1=>(ig tg tt it1 tg1 vs1 tt1 te M ρ ds).bind fun r=>Out.ok (r1++r))=.exc x:=h
       cases h3:dH tg1 tt1 te M (cC ρ1 vs1) es with
       |bad=>rw[h3]at h;cases h
       |exc y=>exact absurd h3 rF
       |ok r1=>
        rw[h3]at h
        have h:((ig tg tt it1 tg1 vs1 tt1 te M ρ ds).bind fun r=>Out.ok (r1++r))=.exc x:=h
        cases h4:ig tg tt it1 tg1 vs1 tt1 te M ρ ds with
        |bad=>rw[h4]at h;cases h
        |exc y=>exact absurd h4 yr
        |ok r=>rw[h4]at h;cases h
section
variable{K:asr}{aj:aU}{W:WX}
theorem ait{it it1:IF}{tg tg1:fV}{js vs js1 vs1:List Nat}{tt tt1:QT}{te:QF}(hj:∀j∈js,j∈vs)(hj1:∀j∈js1,j∈vs1)(σ:L2.St)(H:Hp)(Q:VK)(h:tFr K aj W (ab1 it tg vs tt it1 tg1 vs1 tt1 te) σ H Q) :
  tLc2 (tI K aj W false it) (Ac K aj js tg) (kJ K aj WF tt) (tI K aj WF true it1) (Ac K aj js1 tg1) (kJ K aj WF tt1) (tQ K aj WF te) vs vs1 σ H Q:=by
 obtain⟨g,ρ,M,I,h⟩:=h
 refine⟨g,ρ,M,I,h.bnd.mono (fun ds hk J C H1 e1 w c _ D nD=>?_) fun _ z=>z⟩
 obtain⟨total,htot,hlen,hQ⟩:∃total,ig tg tt it1 tg1 vs1 tt1 te M (cC ρ vs) ds=.ok total/\total.length<=50000/\∀l us H',H l=none->Ex H H'->H' l=some (.lst us)->aK K (g.add l) H' us total->Q (.ref l) H':=by
  cases hc:ig tg tt it1 tg1 vs1 tt1 te M (cC ρ vs) ds with
  |bad=>rw[hc]at hk;exact False.elim hk
  |exc x=>exact absurd hc yr
  |ok total=>
   rw[hc]at hk
   obtain⟨hz,hk⟩:=Out.sat.qp hk
   exact⟨total,rfl,of_decide_eq_true hz,hk⟩
 have I1:=(I.ex e1).wipe vs
 have kD:∀{Ha:Hp} {us:List V},Ex H1 Ha->Ha D=some (.lst us)->SInv K aj (L2.wipe σ vs) Ha (g.add D) (cC ρ vs) M:=fun ea hu=>I1.add nD ea hu trivial
 have lD:(g.add D).Lo D:=.inr rfl
 let Pv:Nat->Hp->Prop:=fun i Ha=>Ex H1 Ha/\i<=ds.length/\∃us ys,Ha D=some (.lst us)/\aK K (g.add D) Ha us ys/\(ig tg tt it1 tg1 vs1 tt1 te M (cC ρ vs) (ds.drop i)).sat (fun r=>total=ys++r) fun _=>False
 refine⟨fun i m Ha=>m=ds.length - i/\Pv i Ha,⟨ds.length,rfl,Ex.new nD,ath _,[],[],upd_same,.nil,?_⟩,?_⟩
 ·rw[atZ,htot]
  rfl
 ·rintro i m Ha ⟨rfl,ea,hi,us,ys,hu,hU,hs⟩
  have Ia:=kD ea hu
  have Ca:=w.add g (g.add D) H1 Ha (I.kd.ex e1) c (Gh.Gu nD ea) ea
  by_cases hlt:i < ds.length
  ·refine .inr ⟨w.go _ i Ha Ca hlt,Pv (i+1),fun H' p=>⟨ds.length - (i+1),by omega,rfl,p⟩,fun x H' y=>?_⟩
   have hd:ds[i]?=some ds[i]:=asw hlt
   obtain⟨e2,rx⟩:=w.yld _ i Ha x H' _ Ia.kd Ca hd y
   have I2:=Ia.ex e2
   rw[atq hlt,ig]at hs
   split at hs
   ·exact False.elim hs
   ·next ρ1 he=>
    refine⟨g.add D,_,M,_,ρ1,I2,rx,he,fun ws I3=>⟨Ax js ws _ vs hj |>.trans (Ek σ vs),?_⟩⟩
    refine kJ.go I3 (CJ hs.bnd) fun b H3 hb e3=>?_
    have I4:=I3.ex e3
    have hu3:=e3 _ _ (e2 _ _ hu)
    have hU3:=(hU.ex e2 Ia.kd).ex e3 I2.kd
    cases b with
    |false=>
     have hb:(ig tg tt it1 tg1 vs1 tt1 te M (cC ρ vs) (ds.drop (i+1))).sat (fun r=>total=ys++r) fun _=>False:=hb
     exact⟨(ea.trans e2).trans e3,hlt,us,ys,hu3,hU3,hb⟩
    |true=>
     have hb:(Out.when (zU ρ1) ((yF (it1 M ρ1)).bind fun es=>(dH tg1 tt1 te M (cC ρ1 vs1) es).bind fun r1=>(ig tg tt it1 tg1 vs1 tt1 te M (cC ρ vs) (ds.drop (i+1))).bind fun r=>Out.ok (r1++r))).sat (fun r=>total=ys++r) fun _=>False:=hb
     obtain⟨nm,hb⟩:=hb.qp
     refine⟨g.add D,ρ1,M,I4,(CJ (E':=qX K aj WF (g.add D) H3 _) hb.bnd).mono (fun es hk1 J1 C1 H4 e4 w1 c1 fm=>?_) fun _ z=>z⟩
     have fm:=fm rfl
     -- all that is added by this walk
     obtain⟨r1,r2,hr1,hr2,ht⟩:∃r1 r2,dH tg1 tt1 te M (cC ρ1 vs1) es=.ok r1/\ig tg tt it1 tg1 vs1 tt1 te M (cC ρ vs) (ds.drop (i+1))=.ok r2/\total=ys++(r1++r2):=by
      cases q1:dH tg1 tt1 te M (cC ρ1 vs1) es with
      |bad=>rw[q1]at hk1;exact False.elim hk1
      |exc y=>exact absurd q1 rF
      |ok r1=>
       rw[q1]at hk1
       have hk1:((ig tg tt it1 tg1 vs1 tt1 te M (cC ρ vs) (ds.drop (i+1))).bind fun r=>Out.ok (r1++r)).sat (fun r=>total=ys++r) fun _=>False:=hk1
       cases q2:ig tg tt it1 tg1 vs1 tt1 te M (cC ρ vs) (ds.drop (i+1)) with
       |bad=>rw[q2]at hk1;exact False.elim hk1
       |exc y=>exact absurd q2 yr
       |ok r2=>
        rw[q2]at hk1
        exact⟨r1,r2,rfl,rfl,hk1⟩
     let P1:Nat->Hp->Prop:=fun j Hb=>Ex H1 Hb/\SInv K aj (sets (L2.wipe σ vs) js ws) Hb (g.add D) ρ1 M/\C1 (g.add D) Hb/\j<=es.length/\∃us' zs,Hb D=some (.lst us')/\aK K (g.add D) Hb us' (ys++zs)/\(dH tg1 tt1 te M (cC ρ1 vs1) (es.drop j)).sat (fun r=>r1=zs++r) fun _=>False
     refine⟨fun j m Hb=>m=es.length - j/\P1 j Hb,⟨es.length,rfl,((ea.trans e2).trans e3).trans e4,I4.ex e4,c1,ath _,us,[],e4 _ _ hu3,by rw[atm];exact hU3.ex e4 I4.kd,?_⟩,?_⟩
     ·rw[atZ,hr1]
      rfl
     ·rintro j m Hb ⟨rfl,fb,Ib,Cb,hjl,us',zs,hub,hUb,hsb⟩
      by_cases hlj:j < es.length
      ·refine .inr ⟨w1.go _ j Hb Cb hlj,P1 (j+1),fun H' p=>⟨es.length - (j+1),by omega,rfl,p⟩,fun x H' y=>?_⟩
       have hdj:es[j]?=some es[j]:=asw hlj
       obtain⟨f2,rx⟩:=w1.yld _ j Hb x H' _ Ib.kd Cb hdj y
       have J2:=(Ib.ex f2).wipe vs1
       rw[atq hlj,dH]at hsb
       split at hsb
       ·exact False.elim hsb
       ·next ρ2 he1=>
        refine⟨g.add D,_,M,_,ρ2,J2,rx,he1,fun ws1 J3=>⟨Ax js1 ws1 _ vs1 hj1 |>.trans (Ek _ vs1),?_⟩⟩
        refine kJ.go J3 (CJ hsb.bnd) fun b H6 hb6 e6=>?_
        have f26:=f2.trans e6
        have hu6:=f26 _ _ hub
        have hU6:=hUb.ex f26 Ib.kd
        cases b with
        |false=>
         have hb6:(dH tg1 tt1 te M (cC ρ1 vs1) (es.drop (j+1))).sat (fun r=>r1=zs++r) fun _=>False:=hb6
         exact⟨fb.trans f26,Ib.ex f26,w1.ex _ _ _ Ib.kd Cb f26,hlj,us',zs,hu6,hU6,hb6⟩
        |true=>
         have hb6:((yF (te M ρ2)).bind fun y=>(dH tg1 tt1 te M (cC ρ1 vs1) (es.drop (j+1))).bind fun r=>Out.ok (y::r)).sat (fun r=>r1=zs++r) fun _=>False:=hb6
         refine tQ.go (J3.ex e6) (CJ hb6.bnd) fun y v H7 hyv e7 ry=>?_
         have f27:=f26.trans e7
         have Ib7:=Ib.ex f27
         have hu7:=f27 _ _ hub
         have hU7:=hUb.ex f27 Ib.kd
         have hyv:=hyv.bnd
         have hr:∃r,dH tg1 tt1 te M (cC ρ1 vs1) (es.drop (j+1))=.ok r/\r1=zs++y::r:=by
          cases q1:dH tg1 tt1 te M (cC ρ1 vs1) (es.drop (j+1)) with
          |bad=>rw[q1]at hyv;exact False.elim hyv
          |exc y=>exact absurd q1 rF
          |ok r=>
           rw[q1]at hyv
           exact⟨r,rfl,hyv⟩
         obtain⟨r,hr,hr1'⟩:=hr
         have hll:us'.length < 50000:=by
          rw[hUb.length]
          rw[ht,hr1']at hlen
          simp at hlen ⊢
          omega
         refine⟨us',hu7,sz_lt (Nat.lt_trans hll (by decide)),Ex.mut (fb.trans f27) nD,Ib7.loc nm hu7 lD,fm true _ _ _ _ Ib7.kd (w1.ex _ _ _ Ib.kd Cb f27) (Gr.upd Ib7.kd hu7 (.inr lD)),hlj,us'++[v],zs++[y],upd_same,?_,?_⟩
         ·rw[←List.append_assoc]
          exact Zh Ib7.kd hu7 lD (hU7.append (.cons ry .nil))
         ·rw[hr]
          show r1=_
          rw[hr1']
          simp
      ·have e:j=es.length:=by omega
       refine .inl ⟨w1.stop _ j Hb Cb e,?_⟩
       rw[e,atx]at hsb
       have hsb:r1=zs++[]:=hsb
       rw[atm]at hsb
       subst hsb
       refine⟨fb,hlt,us',ys++r1,hub,hUb,?_⟩
       rw[hr2]
       show total=_
       rw[ht,List.append_assoc]
  ·have e:i=ds.length:=by omega
   refine .inl ⟨w.stop _ i Ha Ca e,?_⟩
   rw[e,atx]at hs
   have hs:total=ys++[]:=hs
   rw[atm]at hs
   subst hs
   exact hQ D us Ha (DG e1 D nD) (e1.trans ea) hu hU
theorem adw{it it1:IF}{tg tg1:fV}{js vs js1 vs1:List Nat}{tt tt1:QT}{te:QF}(hj:∀j∈js,j∈vs)(hj1:∀j∈js1,j∈vs1)(σ:L2.St)(H:Hp)(Q:VK)(h:tQ K aj W (DY it tg vs tt it1 tg1 vs1 tt1 te) σ H Q) :
  tLc2 (tI K aj W false it) (Ac K aj js tg) (kJ K aj WF tt) (tI K aj WF true it1) (Ac K aj js1 tg1) (kJ K aj WF tt1) (tQ K aj WF te) vs vs1 σ H Q:=by
 obtain⟨g,ρ,M,I,h⟩:=h
 refine ait hj hj1 σ H Q ⟨g,ρ,M,I,h.bnd.mono (fun xs hk l us H' nl e hl r=>?_) fun _ z=>z⟩
 refine hk (.ref l) H' e (.lst (.inl ⟨.inl hl,fun z=>?_⟩) (aK.less (g:=g.add l) (g':=g) rfl (fun a z=>?_) r))
 ·exact I.kd.fresh nl z
 ·rcases z with z|z|z
  ·exact .inl z
  ·exact .inr (.inl z)
  ·exact .inr (.inr (.inl z))
end
section
variable{X:Cx}{aj:aU}{W:WX}{q:Bool}{elt tg iter tg1 iter1:Expr}{ifs ifs1:List Expr}{scope:Scope}{own:List (Str×Nat)}{it it1:IF}{tgf tgf1:fV}{js js1 vs1:List Nat}{tt tt1:QT}{te:QF}{pos cpos:Pos}
theorem alO(hc:X.calm=true)(hN:X.N.Nodup)(hi:QI aj X W false tg iter it)(ok:blkC X.N X.env.scope scope own=true)(hv:∀i∈vs1,i∈own.map (·.2))(hj:∀j∈js,j∈own.map (·.2))(hj1:∀j∈js1,j∈vs1)
  (hg:∀(s:Shared) (H:Hp) (C:Addr) (cl:List (Str×Addr)) (fp:List Addr),QG aj (X.blk s H scope (compEnvC scope cl C X.env) fp) tg js tgf)
  (ht:∀(s:Shared) (H:Hp) (C:Addr) (cl:List (Str×Addr)) (fp:List Addr),PTs (X.blk s H scope (compEnvC scope cl C X.env) fp) ifs (kJ X.K aj WF tt))
  (hi1:∀(s:Shared) (H:Hp) (C:Addr) (cl:List (Str×Addr)) (fp:List Addr),QI aj (X.blk s H scope (compEnvC scope cl C X.env) fp) WF true tg1 iter1 it1)
  (hg1:∀(s:Shared) (H:Hp) (C:Addr) (cl:List (Str×Addr)) (fp:List Addr),QG aj (X.blk s H scope (compEnvC scope cl C X.env) fp) tg1 js1 tgf1)
  (ht1:∀(s:Shared) (H:Hp) (C:Addr) (cl:List (Str×Addr)) (fp:List Addr),PTs (X.blk s H scope (compEnvC scope cl C X.env) fp) ifs1 (kJ X.K aj WF tt1))
  (he:∀(s:Shared) (H:Hp) (C:Addr) (cl:List (Str×Addr)) (fp:List Addr),QE aj (X.blk s H scope (compEnvC scope cl C X.env) fp) WF elt te) (hs:∀x,foldedSetIterable iter X.env x=pure x) (hs1:∀env x,foldedSetIterable iter1 env x=pure x) :
  QE aj X W (.ListComp elt [⟨tg,iter,ifs,0⟩,⟨tg1,iter1,ifs1,0⟩] scope pos) (DY it tgf (own.map (·.2)) tt it1 tgf1 vs1 tt1 te):=
 PE.weak (pe_lc2 (g:=Ac X.K aj js tgf) (tt:=kJ X.K aj WF tt) (wi1:=tI X.K aj WF true it1) (g1:=Ac X.K aj js1 tgf1) (tt1:=kJ X.K aj WF tt1) (te:=tQ X.K aj WF te) hc hN hi (blkOk_by ok) hv (fun s H C cl fp=>hg s H C cl fp) ht (fun s H C cl fp=>hi1 s H C cl fp) (fun s H C cl fp=>hg1 s H C cl fp) ht1 (fun s H C cl fp=>he s H C cl fp) hs hs1) fun σ H Q h=>adw hj hj1 σ H Q h
theorem ahH{j:Nat}{y:Str}{py:Pos}(hc:X.calm=true)(hN:X.N.Nodup)(hy:X.N[j]?=some y)(hyl:X.env.scope.names.lookup y=some .local)(hsw:swapsWith (.ListComp elt [⟨tg,iter,ifs,0⟩,⟨tg1,iter1,ifs1,0⟩] scope cpos) (some (.Name y py)) pos.line X.env=pure true)
  (hi:QI aj X W false tg iter it) (ok:blkC X.N X.env.scope scope own=true) (hv:∀i∈vs1,i∈own.map (·.2)) (hj:∀j∈js,j∈own.map (·.2)) (hj1:∀j∈js1,j∈vs1)
  (hg:∀(s:Shared) (H:Hp) (C:Addr) (cl:List (Str×Addr)) (fp:List Addr),QG aj (X.blk s H scope (compEnvC scope cl C X.env) fp) tg js tgf)
  (ht:∀(s:Shared) (H:Hp) (C:Addr) (cl:List (Str×Addr)) (fp:List Addr),PTs (X.blk s H scope (compEnvC scope cl C X.env) fp) ifs (kJ X.K aj WF tt))
  (hi1:∀(s:Shared) (H:Hp) (C:Addr) (cl:List (Str×Addr)) (fp:List Addr),QI aj (X.blk s H scope (compEnvC scope cl C X.env) fp) WF true tg1 iter1 it1)
  (hg1:∀(s:Shared) (H:Hp) (C:Addr) (cl:List (Str×Addr)) (fp:List Addr),QG aj (X.blk s H scope (compEnvC scope cl C X.env) fp) tg1 js1 tgf1)
  (ht1:∀(s:Shared) (H:Hp) (C:Addr) (cl:List (Str×Addr)) (fp:List Addr),PTs (X.blk s H scope (compEnvC scope cl C X.env) fp) ifs1 (kJ X.K aj WF tt1))
  (he:∀(s:Shared) (H:Hp) (C:Addr) (cl:List (Str×Addr)) (fp:List Addr),QE aj (X.blk s H scope (compEnvC scope cl C X.env) fp) WF elt te) (hs:∀x,foldedSetIterable iter X.env x=pure x) (hs1:∀env x,foldedSetIterable iter1 env x=pure x) :
  SE aj X W q (.Assign [.Name y py] (.ListComp elt [⟨tg,iter,ifs,0⟩,⟨tg1,iter1,ifs1,0⟩] scope cpos) pos) (aV (aF j) (gOf (DY it tgf (own.map (·.2)) tt it1 tgf1 vs1 tt1 te))):=by
 refine PS.weak (ps_setLc2 (g:=Ac X.K aj js tgf) (tt:=kJ X.K aj WF tt) (wi1:=tI X.K aj WF true it1) (g1:=Ac X.K aj js1 tgf1) (tt1:=kJ X.K aj WF tt1) (te:=tQ X.K aj WF te) hc hN hy hyl hsw hi (blkOk_by ok) hv (fun s H C cl fp=>hg s H C cl fp) ht (fun s H C cl fp=>hi1 s H C cl fp) (fun s H C cl fp=>hg1 s H C cl fp) ht1 (fun s H C cl fp=>he s H C cl fp) hs hs1) fun D σ H ⟨g,ρ,M,I,z⟩=>?_
 refine adw hj hj1 σ H _ ⟨g,ρ,M,I,(Out.jf (dB (σ:=σ) z)).mono (fun d kk v H' e r=>?_) fun x kk H' c dd e r=>kk H' g c dd (Gr.ex e) (I.ex e) r⟩
 exact kk _ H' g (Gr.ex e) ((I.ex e).set r)
end
def UG(neg:Bool)(kvs:List (Str×Dat))(k:QF):QF:=fun M ρ=>(k M ρ).bind fun d=>match d with
 |.str x=>.ok (.bool (neg ^^ (kvs.lookup x).isSome))
 |_=>.bad
def acS(kvs:List (Str×Dat))(k:QF):QF:=fun M ρ=>(k M ρ).bind fun d=>match d with
 |.str x=>match kvs.lookup x with
  |some y=>.ok y
  |none=>.bad
 |_=>.bad
section
variable{X:Cx}{aj:aU}{W:WX}{a:Expr}{fa:QF}{x:Str}{p pos:Pos}{kvs:List (Str×Dat)}{k:Nat}
theorem afj{neg:Bool}{d:Addr}(D:ac5 X.w X.K d kvs)(σ:L2.St)(H:Hp)(Q:VK)(h:tQ X.K aj W (UG neg kvs fa) σ H Q) :
  tOp (fun x y H Q=>∃(z:Str) (r:Option Value),x=.str z/\y=.ref d/\PySem.W.nsIn X.K d z=some r/\Q (.bl (neg ^^ r.isSome)) H) (tW X.K aj W fa) (tC (.ref d)) σ H Q:=by
 obtain⟨g,ρ,M,I,h⟩:=h
 refine tW.go I h.bnd fun e v H1 h1 e1 r1=>?_
 split at h1
 ·next z=>
  cases jX r1
  obtain⟨es,n,_,_,hl⟩:=D
  have hz:=hl z
  cases hk:kvs.lookup z with
  |none=>
   rw[hk]at hz h1
   exact⟨z,none,rfl,rfl,hz,h1 _ H1 e1 (.bl _)⟩
  |some d'=>
   rw[hk]at hz h1
   obtain⟨v,u,h2,_⟩:=hz
   exact⟨z,some u,rfl,rfl,h2,h1 _ H1 e1 (.bl _)⟩
 ·exact False.elim h1
theorem opG{neg:Bool}{op:CmpOp}{d:Addr}(hn:(op=.In/\neg=false)∨(op=.NotIn/\neg=true))(D:ac5 X.w X.K d kvs):OpR X (compareOp op) (fun x y H Q=>∃(z:Str) (r:Option Value),x=.str z/\y=.ref d/\PySem.W.nsIn X.K d z=some r/\Q (.bl (neg ^^ r.isSome)) H):=by
 obtain⟨es,n,D,_⟩:=D
 rcases hn with⟨rfl,rfl⟩|⟨rfl,rfl⟩
 ·have:=op_in_kd (X:=X) D
  simpa only[Bool.false_xor] using this
 ·have:=op_notIn_kd (X:=X) D
  simpa only[Bool.true_xor] using this
theorem al7{neg:Bool}{op:CmpOp}(hn:(op=.In/\neg=false)∨(op=.NotIn/\neg=true))(g:aZ X.prog X.w X.K X.mg X.base aj k x (.dic kvs))(hg:Gl X x)(hd:(x==("__debug__" : Str))=false)(ha:QW aj X W a fa):QE aj X W (.Compare a [op] [.Name x p] pos) (UG neg kvs fa)/\sG aj X W (.Compare a [op] [.Name x p] pos) (aY (UG neg kvs fa)):=by
 obtain⟨d,hm,D⟩:=g
 have hb:PE X (.Name x p) (tC (.ref d)):=pe_glob hg hm rfl hd
 refine⟨PE.weak (pe_cmpR (opG hn D) ha hb (by cases op <;> rfl)) fun σ H Q h=>afj D σ H Q h,PT.weak (pt_cmpR (opG hn D) ha hb (by cases op <;> rfl)) fun σ H Q ⟨g,ρ,M,I,h⟩=>?_⟩
 refine afj D σ H _ ⟨g,ρ,M,I,h.bnd.mono (fun d h1 v H' e' r'=>?_) fun _ z=>z⟩
 obtain⟨k,h2,h3⟩:=Ez r'.weak h1
 exact⟨k,h2,h3 H' e'⟩
theorem alX(g:aZ X.prog X.w X.K X.mg X.base aj k x (.dic kvs))(hg:Gl X x)(hd:(x==("__debug__" : Str))=false)(ha:QW aj X W a fa)(hp:PlainIx a):QE aj X W (.Subscript (.Name x p) a pos) (acS kvs fa):=by
 obtain⟨d,hm,es,n,D,_,hl⟩:=g
 have hb:PE X (.Name x p) (tC (.ref d)):=pe_glob hg hm rfl hd
 refine PE.weak (pe_ix ix_kdict hb ha hp) fun σ H Q ⟨g,ρ,M,I,h⟩=>?_
 refine tW.go I h.bnd fun e v H1 h1 e1 r1=>?_
 split at h1
 ·next z=>
  cases jX r1
  have hz:=hl z
  split at h1
  ·next y hk=>
   rw[hk]at hz
   obtain⟨v,u,h2,h3,h4⟩:=hz
   exact⟨d,z,v,rfl,rfl,⟨es,n,u,D.at_,D.lit,h2,h3⟩,h1 v H1 e1 (h4 g H1)⟩
  ·exact False.elim h1
 ·exact False.elim h1
end
structure Hs where
 Ms:List (Str×List (Str×MV))
 ft:Ft
 xm:List (Str×List (Str×Bool))
 df:List (Str×Bool)
 xf:List (Str×List Str)
structure Uo(P:Program)(w:World)(K:asr)(mg:Str->Option Value)(base:Heap)(aj:aU)(k:Nat)(h:Hs):Prop where
 ms:∀m tb,h.Ms.lookup m=some tb->∀c v,tb.lookup c=some v->bY P w K mg base aj k c m v
 fk:KR h.ft aj
 co:jH K aj
 hw:aj.w=w
 xm:∀y tab,h.xm.lookup y=some tab->(∃D,aj y=some D)/\acK K aj y fun x=>tab.lookup x
 xf:∀y fs,h.xf.lookup y=some fs->∃C,aj y=some C/\XfC K C/\∀f∈fs,PySem.W.findIn K (.ref C) f=some none
structure Tc where
 N:List Str
 sc:Scope
 G:List (Str×GV)
 B:List Str
 hs:Hs
 ml:List Str
 top:Bool
structure Amb(aj:aU)(c:Tc)(X:Cx)(W:WX)(k:Nat):Prop where
 hN:X.N=c.N
 hs:X.env.scope=c.sc
 calm:X.calm=true
 nd:X.N.Nodup
 tk:Takes X W
 rm:Room k X.A
 gl:∀x v,c.G.lookup x=some v->aZ X.prog X.w X.K X.mg X.base aj k x v
 bl:∀x,x∈c.B->X.mg x=none
 fn:c.top=true->∀x,X.fn x=true
 hk:Uo X.prog X.w X.K X.mg X.base aj k c.hs
def gd{α:Type}(b:Bool)(o:Option α):Option α:=match b with
 |true=>o
 |false=>none
theorem bf{α:Type}{b:Bool}{o:Option α}{x:α}:gd b o=some x↔b=true/\o=some x:=by
 cases b
 ·exact⟨fun h=>(nomatch h),fun h=>(nomatch h.1)⟩
 ·exact⟨fun h=>⟨rfl,h⟩,fun h=>h.2⟩
def idx:List Str->Str->Option Nat
 |[],_=>none
 |y::ys,x=>match y==x with
  |true=>some 0
  |false=>(idx ys x).map (· + 1)
theorem Gx:∀{N:List Str} {x:Str} {i:Nat},idx N x=some i->N[i]?=some x
 |[],_,_,h=>nomatch h
 |y::ys,x,i,h=>by
  rw[idx]at h
  split at h
  ·next e=>
   cases h
   rw[List.getElem?_cons_zero,eq_of_beq e]
  ·rw[atp]at h
   obtain⟨j,h1,rfl⟩:=h
   rw[List.getElem?_cons_succ]
   exact Gx h1
def afA(sc:Scope)(x:Str):Bool:=match sc.names.lookup x with
 |some .local=>true
 |some .cell=>true
 |some .free=>true
 |_=>false
theorem ai0{sc:Scope}{x:Str}(h:afA sc x=true):Vis sc x:=by
 unfold afA at h
 unfold Vis
 split at h
 ·next e=>exact .inl e
 ·next e=>exact .inr (.inl e)
 ·next e=>exact .inr (.inr e)
 ·cases h
def Gv(x:Str):Bool:=(x==("__debug__" : Str)) || (x==("__classdict__" : Str))
theorem tX{x:Str}(h:Gv x=false):(x==("__debug__" : Str))=false/\(x==("__classdict__" : Str))=false:=by
 unfold Gv at h
 rw[Bool.or_eq_false_iff]at h
 exact h
def Ij(sc:Scope)(x:Str):Bool:=match sc.names.lookup x with
 |some .globalImplicit=>true
 |_=>false
def Ml(c:Tc)(x:Str):Option Nat:=gd (afA c.sc x&&!Gv x) (idx c.N x)
def akV(c:Tc)(x:Str):Bool:=match c.sc.names.lookup x with
 |some .local=>true
 |some .cell=>c.top
 |_=>false
def vZ(c:Tc)(x:Str):Option Nat:=gd (akV c x) (idx c.N x)
section
variable{aj:aU}{c:Tc}{X:Cx}{W:WX}{k:Nat}{x:Str}{i:Nat}
theorem ug(a:Amb aj c X W k)(h:Ij c.sc x=true):Gl X x:=by
 unfold Ij at h
 unfold Gl PySem.Env.kindOf
 rw[a.hs]
 split at h
 ·assumption
 ·cases h
theorem Am(a:Amb aj c X W k)(h:Ml c x=some i):X.N[i]?=some x/\Vis X.env.scope x/\(x==("__debug__" : Str))=false/\(x==("__classdict__" : Str))=false:=by
 obtain⟨h1,h2⟩:=bf.mp h
 rw[asu]at h1
 obtain⟨d1,d2⟩:=tX (by simpa using h1.2)
 exact⟨by rw[a.hN];exact Gx h2,by rw[a.hs];exact ai0 h1.1,d1,d2⟩
theorem mZ(a:Amb aj c X W k)(h:vZ c x=some i):X.N[i]?=some x/\L2.Loc X.env.scope x/\(X.fn x=true∨X.env.scope.names.lookup x=some .local):=by
 obtain⟨h1,h2⟩:=bf.mp h
 unfold akV at h1
 refine⟨by rw[a.hN];exact Gx h2,?_⟩
 rw[a.hs]
 unfold L2.Loc
 split at h1
 ·next e=>exact⟨.inl e,.inr e⟩
 ·next e=>exact⟨.inr e,.inl (a.fn h1 x)⟩
 ·cases h1
def vf(c:Tc)(x y:Str):Bool:=(x==y)&&(Ij c.sc x&&c.B.contains x)
theorem nY{y:Str}(a:Amb aj c X W k)(h:vf c x y=true):x=y/\Gl X x/\X.mg x=none:=by
 unfold vf at h
 rw[asu,asu]at h
 exact⟨eq_of_beq h.1,ug a h.2.1,a.bl x (by simpa using h.2.2)⟩
end
def yQ:Expr->Bool
 |.Set _ _ _=>true
 |_=>false
theorem Dq{b:Expr}{op:CmpOp}(h:yQ b=false):behindInMarks op b=false:=by
 cases b <;> first | rfl | cases h
theorem V8{b c:Expr}{op op':CmpOp}(h:yQ c=false):lastMarks [op,op'] [b,c]=false:=Dq h
theorem rC{e:Expr}{env:PySem.Env}(h:yQ e=false):∀x,foldedSetIterable e env x=pure x:=fun x=>by
 cases e <;> first | rfl | cases h
def Zi:Expr->Bool
 |.Slice _ _ _ _=>true
 |_=>false
def ajx:Operator->Option (Dat->Dat->Out Dat)
 |.Add=>some fu
 |.Sub=>some iK
 |.Mult=>some xQ
 |.FloorDiv=>some uf
 |.Mod=>some jQ
 |.Pow=>some Qq
 |_=>none
def Qg:CmpOp->Option (Dat->Dat->Out Dat)
 |.Eq=>some bR
 |.NotEq=>some tH
 |.Lt=>some Ey
 |.LtE=>some pH
 |.Gt=>some ZC
 |.GtE=>some geD
 |.In=>some (inD false)
 |.NotIn=>some (inD true)
 |_=>none
theorem aiX{op:Operator}{o:Dat->Dat->Out Dat}(h:ajx op=some o)(X:Cx)(aj:aU)(W:WX):∃r,OpR X (binaryOp op) r/\ql aj X.K W o r:=by
 cases op <;> cases h
 ·exact⟨_,ahZ,ajY⟩
 ·exact⟨_,op_sub,akQ⟩
 ·exact⟨_,op_mul,ak0⟩
 ·exact⟨_,op_mod,akC⟩
 ·exact⟨_,op_pow,ak6⟩
 ·exact⟨_,op_fdiv,akA⟩
theorem CT{op:CmpOp}{o:Dat->Dat->Out Dat}(h:Qg op=some o){X:Cx}{k:Nat}(hr:Room k X.A)(aj:aU)(W:WX):∃r,OpR X (compareOp op) r/\ql aj X.K W o r:=by
 have h65:X.A.units+65 < cLine:=by have:=hr.un;omega
 cases op <;> cases h
 ·exact⟨_,akB hr.units,ani⟩
 ·exact⟨_,akG hr.units,amo⟩
 ·exact⟨_,ajo h65,am8⟩
 ·exact⟨_,op_le,am5⟩
 ·exact⟨_,op_gt,amC⟩
 ·exact⟨_,op_ge,amq⟩
 ·exact⟨_,al0 h65,ag5⟩
 ·exact⟨_,aep h65,ag5⟩
def T6:Expr->Option Dat
 |.Constant .none _ _=>some .none
 |.Constant (.bool b) _ _=>some (.bool b)
 |_=>none
theorem abF{e:Expr}{d:Dat}{X:Cx}(h:T6 e=some d):∃v,scD d=some v/\(v=.non∨∃b,v=.bl b)/\PE X e (tC v):=by
 unfold T6 at h
 split at h
 ·cases h;exact⟨_,rfl,.inl rfl,pe_non⟩
 ·cases h;exact⟨_,rfl,.inr ⟨_,rfl⟩,pe_bl⟩
 ·cases h
def isN:CmpOp->Option Bool
 |.Is=>some false
 |.IsNot=>some true
 |_=>none
theorem aeX{op:CmpOp}{neg:Bool}{v:V}{X:Cx}(h:isN op=some neg)(hv:v=.non∨∃b,v=.bl b):OpR X (compareOp op) (aaC neg v):=by
 cases op <;> cases h
 ·exact ajK hv
 ·exact aeg hv
def b1D(x:Str):Option (Dat->Out Dat):=
 if x=="len" then some mj else if x=="abs" then some Vb else if x=="sum" then some Va else if x=="max" then some maxD else if x=="all" then some O8 else if x=="any" then some O4
 else if x=="tuple" then some lQ else if x=="list" then some N5 else if x=="int" then some intD else
 none
def b2D(x:Str):Option (Dat->Dat->Out Dat):=if x=="max" then some oH else if x=="min" then some Ja else none
theorem akI{x:Str}{o:Dat->Out Dat}{X:Cx}(hc:X.calm=true)(h:b1D x=some o)(aj:aU)(W:WX):∃(f:Value) (id:String) (r:List V->Hp->VK->Prop),(f=.builtin id∨f=.type id)/\CallR X f r/\JW aj X.K W o r/\BV f x:=by
 unfold b1D at h
 split at h
 ·next e=>cases h;cases eq_of_beq e;exact⟨_,_,_,.inl rfl,alc,alo,by decide +kernel,by decide,by decide⟩
 split at h
 ·next e=>cases h;cases eq_of_beq e;exact⟨_,_,_,.inl rfl,call_abs,akj,by decide +kernel,by decide,by decide⟩
 split at h
 ·next e=>cases h;cases eq_of_beq e;exact⟨_,_,_,.inl rfl,cr_sum hc,ajB,by decide +kernel,by decide,by decide⟩
 split at h
 ·next e=>cases h;cases eq_of_beq e;exact⟨_,_,_,.inl rfl,cr_max hc,ajA,by decide +kernel,by decide,by decide⟩
 split at h
 ·next e=>cases h;cases eq_of_beq e;exact⟨_,_,_,.inl rfl,cr_all hc,alR,by decide +kernel,by decide,by decide⟩
 split at h
 ·next e=>cases h;cases eq_of_beq e;exact⟨_,_,_,.inl rfl,cr_any hc,aj9,by decide +kernel,by decide,by decide⟩
 split at h
 ·next e=>cases h;cases eq_of_beq e;exact⟨_,_,_,.inr rfl,call_tuple_of,af7,by decide +kernel,by decide,by decide⟩
 split at h
 ·next e=>cases h;cases eq_of_beq e;exact⟨_,_,_,.inr rfl,call_list_of,ahD,by decide +kernel,by decide,by decide⟩
 split at h
 ·next e=>cases h;cases eq_of_beq e;exact⟨_,_,_,.inr rfl,akW,ald,by decide +kernel,by decide,by decide⟩
 ·cases h
theorem akm{x:Str}{o:Dat->Dat->Out Dat}{X:Cx}(hc:X.calm=true)(h:b2D x=some o)(aj:aU)(W:WX):∃(f:Value) (id:String) (r:List V->Hp->VK->Prop),(f=.builtin id∨f=.type id)/\CallR X f r/\Fn2 aj X.K W o r/\BV f x:=by
 unfold b2D at h
 split at h
 ·next e=>cases h;cases eq_of_beq e;exact⟨_,_,_,.inl rfl,call_max2 hc,aiE,by decide +kernel,by decide,by decide⟩
 split at h
 ·next e=>cases h;cases eq_of_beq e;exact⟨_,_,_,.inl rfl,call_min2 hc,aiK,by decide +kernel,by decide,by decide⟩
 ·cases h
def tyN(x:Str):Option Om:=if x=="int" then some .int else if x=="bool" then some .bool else if x=="str" then some .str else if x=="tuple" then some .tuple else if x=="list" then some .list else none
theorem alQ{x:Str}{t:Om}(h:tyN x=some t):BV (.type t.name) x:=by
 unfold tyN at h
 split at h
 ·next e=>cases h;cases eq_of_beq e;exact⟨by decide +kernel,by decide,by decide⟩
 split at h
 ·next e=>cases h;cases eq_of_beq e;exact⟨by decide +kernel,by decide,by decide⟩
 split at h
 ·next e=>cases h;cases eq_of_beq e;exact⟨by decide +kernel,by decide,by decide⟩
 split at h
 ·next e=>cases h;cases eq_of_beq e;exact⟨by decide +kernel,by decide,by decide⟩
 split at h
 ·next e=>cases h;cases eq_of_beq e;exact⟨by decide +kernel,by decide,by decide⟩
 ·cases h
structure Tr where
 E:Tc->Expr->Option QF
 W:Tc->Expr->Option QF
 T:Tc->Expr->Option QT
 I:Tc->Bool->Expr->Expr->Option IF
structure Tr.Ok(t:Tr):Prop where
 oe:∀{aj:aU} {c:Tc} {X:Cx} {W:WX} {k:Nat},Amb aj c X W k->∀{e:Expr} {f:QF},t.E c e=some f->QE aj X W e f
 ow:∀{aj:aU} {c:Tc} {X:Cx} {W:WX} {k:Nat},Amb aj c X W k->∀{e:Expr} {f:QF},t.W c e=some f->QW aj X W e f
 ot:∀{aj:aU} {c:Tc} {X:Cx} {W:WX} {k:Nat},Amb aj c X W k->∀{e:Expr} {f:QT},t.T c e=some f->sG aj X W e f
 oi:∀{aj:aU} {c:Tc} {X:Cx} {W:WX} {k:Nat},Amb aj c X W k->∀{firm:Bool} {tg e:Expr} {f:IF},t.I c firm tg e=some f->QI aj X W firm tg e f
def G4(t:Tr)(c:Tc):List Expr->Option QA
 |[]=>some au
 |a::es=>gd (nst a) ((t.E c a).bind fun fa=>(G4 t c es).bind fun fr=>some (ak fa fr))
section
variable{aj:aU}{c:Tc}{X:Cx}{W:WX}{k:Nat}{t:Tr}
theorem tY(o:t.Ok)(a:Amb aj c X W k):∀{es:List Expr} {f:QA},G4 t c es=some f->Fd aj X W es f/\es.all nst=true/\∀M ρ ds,f M ρ=.ok ds->ds.length=es.length
 |[],f,h=>by
  cases h
  exact⟨ajH,rfl,fun M ρ ds e=>by cases e;rfl⟩
 |e::es,f,h=>by
  rw[G4,bf]at h
  obtain⟨hs,h⟩:=h
  obtain⟨fa,h1,h⟩:=asq.mp h
  obtain⟨fr,h2,h⟩:=asq.mp h
  cases h
  obtain⟨i1,i2,i3⟩:=tY o a h2
  refine⟨ahr (o.oe a h1) i1 (cQ hs es),by simp[hs,i2],fun M ρ ds e=>?_⟩
  unfold ak at e
  cases hf:fa M ρ with
  |ok d=>
   rw[hf]at e
   cases hr:fr M ρ with
   |ok dr=>
    rw[hr]at e
    cases e
    simp[i3 M ρ dr hr]
   |exc y=>rw[hr]at e;cases e
   |bad=>rw[hr]at e;cases e
  |exc y=>rw[hf]at e;cases e
  |bad=>rw[hf]at e;cases e
end
def trO(t:Tr)(c:Tc):Option Expr->Option QO
 |none=>some vJ
 |some a=>(t.W c a).bind fun fa=>some (oO fa)
theorem adI{aj:aU}{c:Tc}{X:Cx}{W:WX}{k:Nat}{t:Tr}(o:t.Ok)(a:Amb aj c X W k){e:Option Expr}{f:QO}(h:trO t c e=some f):QOe aj X W e f:=by
 cases e with
 |none=>cases h;exact ais
 |some e=>
  obtain⟨fa,h1,h⟩:=asq.mp h
  cases h
  exact aiT (o.ow a h1)
def Ym(c:Tc):List Expr->Option (List Nat)
 |[]=>some []
 |.Name x _::es=>(vZ c x).bind fun i=>(Ym c es).bind fun js=>some (i::js)
 |_::_=>none
def WL(c:Tc):Expr->Option (List Nat×fV)
 |.Name x _=>(vZ c x).bind fun i=>some ([i],aF i)
 |.Tuple es _ _=>(Ym c es).bind fun js=>some (js,bF js)
 |_=>none
theorem U9{aj:aU}{c:Tc}{X:Cx}{W:WX}{k:Nat}(a:Amb aj c X W k):∀{es:List Expr} {js:List Nat},Ym c es=some js->RG X es js
 |[],js,h=>by cases h;trivial
 |.Name x p::es,js,h=>by
  rw[Ym]at h
  obtain⟨i,h1,h⟩:=asq.mp h
  obtain⟨r,h2,h⟩:=asq.mp h
  cases h
  obtain⟨s1,s2,s3⟩:=mZ a h1
  exact⟨s1,s2,s3,U9 a h2⟩
theorem vH{aj:aU}{c:Tc}{X:Cx}{W:WX}{k:Nat}(a:Amb aj c X W k){e:Expr}{js:List Nat}{f:fV}(h:WL c e=some (js,f)):QG aj X e js f:=by
 unfold WL at h
 split at h
 ·obtain⟨i,h1,h⟩:=asq.mp h
  cases h
  obtain⟨s1,s2,s3⟩:=mZ a h1
  exact Vi a.nd s1 s2 s3
 ·obtain⟨js',h1,h⟩:=asq.mp h
  cases h
  exact ae5 a.calm a.nd (U9 a h1)
 ·cases h
def Tc.inn(c:Tc)(scope:Scope):Tc:={ c with sc:=relS scope c.sc,top:=false }
theorem Amb.inn{aj:aU}{c:Tc}{X:Cx}{W:WX}{k:Nat}(a:Amb aj c X W k)(scope:Scope)(s:Shared)(H:Hp)(C:Addr)(cl:List (Str×Addr))(fp:List Addr):Amb aj (c.inn scope) (X.blk s H scope (compEnvC scope cl C X.env) fp) WF k where
 hN:=a.hN
 hs:=by
  show relS scope X.env.scope=relS scope c.sc
  rw[a.hs]
 calm:=a.calm
 nd:=a.nd
 tk:=ajP
 rm:=a.rm
 gl:=a.gl
 bl:=a.bl
 fn:=fun z=>nomatch z
 hk:=a.hk
def Pk:List Expr->List Nat->List (Str×Nat)
 |.Name x _::es,j::js=>(x,j)::Pk es js
 |_,_=>[]
def pF:Expr->List Nat->List (Str×Nat)
 |.Name x _,[j]=>[(x,j)]
 |.Tuple es _ _,js=>Pk es js
 |_,_=>[]
def Qm(js vs:List Nat):Bool:=js.all fun j=>vs.contains j
theorem pC{js vs:List Nat}(h:Qm js vs=true):∀j∈js,j∈vs:=fun j hj=>by
 have:=asV.mp h j hj
 simpa using this
def Uq(t:Tr)(c:Tc):List Expr->Option QT
 |[]=>some iy
 |[a]=>t.T c a
 |_=>none
theorem PTs.weak{X:Cx}{e:List Expr}{t t':TT}(h:PTs X e t)(k:∀σ H Q,t' σ H Q->t σ H Q):PTs X e t':=⟨fun pins s σ H Q I q=>h.run pins s σ H Q I (k σ H Q q)⟩
theorem wU{aj:aU}{c:Tc}{X:Cx}{W:WX}{k:Nat}{t:Tr}(o:t.Ok)(a:Amb aj c X W k){ifs:List Expr}{f:QT}(h:Uq t c ifs=some f):PTs X ifs (kJ X.K aj W f):=by
 unfold Uq at h
 split at h
 ·cases h
  exact PTs.weak pts_nil fun σ H Q ⟨g,ρ,M,I,z⟩=>z H (Ex.refl H)
 ·exact pts_one (o.ot a h)
 ·cases h
def Yj(t:Tr)(c:Tc)(elt tg iter:Expr)(ifs:List Expr)(scope:Scope):Option QF:=
 (t.I c false tg iter).bind fun it=>(WL (c.inn scope) tg).bind fun jt=>(Uq t (c.inn scope) ifs).bind fun tt=>(t.E (c.inn scope) elt).bind fun te=>
  gd (blkC c.N c.sc scope (pF tg jt.1)&&(Qm jt.1 ((pF tg jt.1).map (·.2))&&!yQ iter)) (some (eO it jt.2 ((pF tg jt.1).map (·.2)) tt te))
theorem abB{aj:aU}{c:Tc}{X:Cx}{W:WX}{k:Nat}{t:Tr}(o:t.Ok)(a:Amb aj c X W k){elt tg iter:Expr}{ifs:List Expr}{scope:Scope}{pos:Pos}{f:QF}(h:Yj t c elt tg iter ifs scope=some f):QE aj X W (.ListComp elt [⟨tg,iter,ifs,0⟩] scope pos) f:=by
 unfold Yj at h
 obtain⟨it,h1,h⟩:=asq.mp h
 obtain⟨⟨js,tf⟩,h2,h⟩:=asq.mp h
 obtain⟨tt,h3,h⟩:=asq.mp h
 obtain⟨te,h4,h⟩:=asq.mp h
 obtain⟨hb,h⟩:=bf.mp h
 cases h
 simp only[asu,asT]at hb
 obtain⟨b1,b2,b3⟩:=hb
 exact amB a.calm a.nd (o.oi a h1) (by rw[a.hN,a.hs];exact b1) (pC b2) (fun s H C cl fp=>vH (a.inn scope s H C cl fp) h2) (fun s H C cl fp=>wU o (a.inn scope s H C cl fp) h3) (fun s H C cl fp=>o.oe (a.inn scope s H C cl fp) h4) (rC b3)
def Y5(t:Tr)(c:Tc)(x:Str)(e:Expr)(es:List Expr):Option QF:=match c.G.lookup x with
 |some (.fq n m)=>(G4 t c (e::es)).bind fun as=>gd (Ij c.sc x&&(!Gv x&&decide ((e::es).length=n))) (some (aR m as))
 |some _=>none
 |none=>match es with
  |[]=>(b1D x).bind fun o=>(t.W c e).bind fun fa=>gd (vf c x x&&nst e) (some (dZ o fa))
  |[.Name y p]=>match x=="isinstance" with
   |true=>(tyN y).bind fun ty=>(t.W c e).bind fun fa=>gd (vf c x x&&(vf c y y&&nst e)) (some (wV ty fa))
   |false=>(b2D x).bind fun o=>(t.W c e).bind fun fa=>(t.W c (.Name y p)).bind fun fb=>gd (vf c x x&&nst e) (some (aA o fa fb))
  |[e2]=>(b2D x).bind fun o=>(t.W c e).bind fun fa=>(t.W c e2).bind fun fb=>gd (vf c x x&&(nst e&&nst e2)) (some (aA o fa fb))
  |_=>none
theorem adU{aj:aU}{c:Tc}{X:Cx}{W:WX}{k:Nat}{x:Str}{o:Dat->Dat->Out Dat}{a b:Expr}{fa fb:QF}{p pos:Pos}(am:Amb aj c X W k)(h:b2D x=some o)(hg:vf c x x=true)(ha:QW aj X W a fa)(hb:QW aj X W b fb)(hs:nst a=true)(hs2:nst b=true):QE aj X W (.Call (.Name x p) [a,b] [] pos) (aA o fa fb):=by
 obtain⟨f,id,r,hf,hc,ho,hv⟩:=akm am.calm h aj W
 obtain⟨_,hg,hm⟩:=nY am hg
 exact amc hf hc ho hg hm hv ha hb hs hs2
theorem afk{aj:aU}{c:Tc}{X:Cx}{W:WX}{k:Nat}{t:Tr}(o:t.Ok)(a:Amb aj c X W k){x:Str}{e:Expr}{es:List Expr}{p pos:Pos}{f:QF}(h:Y5 t c x e es=some f):QE aj X W (.Call (.Name x p) (e::es) [] pos) f:=by
 unfold Y5 at h
 split at h
 ·next n m hl=>
  obtain⟨as,h1,h⟩:=asq.mp h
  obtain⟨hb,h⟩:=bf.mp h
  cases h
  simp only[asu,asT,decide_eq_true_eq]at hb
  obtain⟨b1,b2,b3⟩:=hb
  obtain⟨fa,hm,hk,fd,ps,j,hj,hp,hB,F⟩:=a.gl x _ hl
  obtain⟨i1,i2,i3⟩:=tY o a h1
  exact ahL a.tk F (a.rm.mono hj) (ug a b1) hm hk hB i1 (b3.trans hp.symm) (tX b2).1 i2 i3
 ·cases h
 ·split at h
  ·obtain⟨o1,h1,h⟩:=asq.mp h
   obtain⟨fa,h2,h⟩:=asq.mp h
   obtain⟨hb,h⟩:=bf.mp h
   cases h
   rw[asu]at hb
   obtain⟨f,id,r,hf,hc,ho,hv⟩:=akI a.calm h1 aj W
   obtain⟨_,hg,hm⟩:=nY a hb.1
   exact ahg hf hc ho hg hm hv (o.ow a h2) hb.2
  ·split at h
   ·next ex=>
    obtain⟨ty,h1,h⟩:=asq.mp h
    obtain⟨fa,h2,h⟩:=asq.mp h
    obtain⟨hb,h⟩:=bf.mp h
    cases h
    simp only[asu]at hb
    obtain⟨b1,b2,b3⟩:=hb
    obtain⟨_,hg,hm⟩:=nY a b1
    obtain⟨_,hg2,hm2⟩:=nY a b2
    cases eq_of_beq ex
    exact alr hg hm ⟨by decide +kernel,by decide,by decide⟩ hg2 hm2 (alQ h1) (o.ow a h2) b3
   ·obtain⟨o1,h1,h⟩:=asq.mp h
    obtain⟨fa,h2,h⟩:=asq.mp h
    obtain⟨fb,h3,h⟩:=asq.mp h
    obtain⟨hb,h⟩:=bf.mp h
    cases h
    rw[asu]at hb
    exact adU a h1 hb.1 (o.ow a h2) (o.ow a h3) hb.2 rfl
  ·obtain⟨o1,h1,h⟩:=asq.mp h
   obtain⟨fa,h2,h⟩:=asq.mp h
   obtain⟨fb,h3,h⟩:=asq.mp h
   obtain⟨hb,h⟩:=bf.mp h
   cases h
   simp only[asu]at hb
   exact adU a h1 hb.1 (o.ow a h2) (o.ow a h3) hb.2.1 hb.2.2
  ·cases h
def stE(t:Tr)(c:Tc):Expr->Option QF
 |.Name x _=>(match Ml c x with
  |some i=>some (aq i)
  |none=>match c.G.lookup x with
   |some (.con d)=>gd (Ij c.sc x&&!Gv x) (some (qC d))
   |_=>none)
 |.Constant (.int i) _ _=>some (qC (.int i))
 |.Constant (.str x) _ _=>some (qC (.str x))
 |.Constant (.bool x) _ _=>some (qC (.bool x))
 |.Constant .none _ _=>some (qC .none)
 |.BinOp a op b _=>(ajx op).bind fun o=>(t.W c a).bind fun fa=>(t.W c b).bind fun fb=>some (aA o fa fb)
 |.UnaryOp .USub a _=>(t.W c a).bind fun fa=>some (dZ QJ fa)
 |.UnaryOp .Not a _=>(t.W c a).bind fun fa=>some (TV fa)
 |.BoolOp _ [a] _=>t.E c a
 |.BoolOp .And (a::b::r) p=>(t.E c a).bind fun fa=>(t.E c (.BoolOp .And (b::r) p)).bind fun fb=>some (yq fa fb)
 |.BoolOp .Or (a::b::r) p=>(t.E c a).bind fun fa=>(t.E c (.BoolOp .Or (b::r) p)).bind fun fb=>some (afE fa fb)
 |.Compare a [op] [b] _=>(match isN op with
  |some neg=>(T6 b).bind fun d=>(t.W c a).bind fun fa=>some (tO neg d fa)
  |none=>(Qg op).bind fun o=>(t.W c a).bind fun fa=>(t.W c b).bind fun fb=>gd (!yQ b) (some (aA o fa fb)))
 |.Compare a [op,op'] [b,b2] _=>(Qg op).bind fun o=>(Qg op').bind fun o'=>(t.W c a).bind fun fa=>(t.W c b).bind fun fb=>(t.W c b2).bind fun fc=>gd (!yQ b2) (some (RP (jW o o' fa fb fc)))
 |.IfExp d a b _=>(t.T c d).bind fun ta=>(t.E c a).bind fun fa=>(t.E c b).bind fun fb=>some (Sy ta fa fb)
 |.Tuple es _ _=>(G4 t c es).bind fun fr=>some (bh fr)
 |.List es _=>(G4 t c es).bind fun fr=>some (xO fr)
 |.Subscript a b _=>(match b with
  |.Slice lo hi none _=>(t.W c a).bind fun fa=>(trO t c lo).bind fun fl=>(trO t c hi).bind fun fh=>some (Ka fa fl fh)
  |b=>gd (!Zi b) ((t.W c a).bind fun fa=>(t.W c b).bind fun fb=>some (aA aH fa fb)))
 |.ListComp elt [⟨tg,iter,ifs,0⟩] scope _=>Yj t c elt tg iter ifs scope
 |.Call (.Name x _) (e::es) [] _=>Y5 t c x e es
 |_=>none
def stW(t:Tr)(c:Tc):Expr->Option QF
 |.Name x p=>(match Ml c x with
  |some i=>some (ao i)
  |none=>t.E c (.Name x p))
 |e=>t.E c e
def valT:Expr->Bool
 |.UnaryOp .Not _ _=>false
 |.BoolOp _ _ _=>false
 |.IfExp _ _ _ _=>false
 |.Compare _ _ _ _=>false
 |_=>true
theorem aiL{e:Expr}{env:PySem.Env}(h:valT e=true):∀whole,isTrue e env whole=(do let v ←whole;standAt e.pos;holding [v] (truthy v)):=fun whole=>by
 cases e with
 | UnaryOp o a p=>cases o <;> first | (with_unfolding_all rfl) | cases h
 |BoolOp _ _ _=>cases h
 |IfExp _ _ _ _=>cases h
 |Compare _ _ _ _=>cases h
 |_=>with_unfolding_all rfl
def stT(t:Tr)(c:Tc):Expr->Option QT
 |.UnaryOp .Not a _=>(t.T c a).bind fun ta=>some (jT ta)
 |.BoolOp _ [a] _=>t.T c a
 |.BoolOp .And (a::b::r) p=>(t.T c a).bind fun ta=>(t.T c (.BoolOp .And (b::r) p)).bind fun tb=>some (gG ta tb)
 |.BoolOp .Or (a::b::r) p=>(t.T c a).bind fun ta=>(t.T c (.BoolOp .Or (b::r) p)).bind fun tb=>some (FW ta tb)
 |.Compare a [op] [b] _=>(match isN op with
  |some neg=>(T6 b).bind fun d=>(t.W c a).bind fun fa=>some (aY (tO neg d fa))
  |none=>(Qg op).bind fun o=>(t.W c a).bind fun fa=>(t.W c b).bind fun fb=>gd (!yQ b) (some (aY (aA o fa fb))))
 |.Compare a [op,op'] [b,b2] _=>(Qg op).bind fun o=>(Qg op').bind fun o'=>(t.W c a).bind fun fa=>(t.W c b).bind fun fb=>(t.W c b2).bind fun fc=>gd (!yQ b2) (some (jW o o' fa fb fc))
 |e=>gd (valT e) ((t.W c e).bind fun fa=>some (iw fa))
def trF(t:Tr)(c:Tc)(firm:Bool)(e:Expr):Option QF:=match firm with
 |true=>t.E c e
 |false=>t.W c e
def isTup:Expr->Bool
 |.Tuple _ _ _=>true
 |_=>false
def stI(t:Tr)(c:Tc)(firm:Bool)(tg:Expr):Expr->Option IF
 |.Call (.Name x p) [a] [] pos=>(match vf c x "range" with
  |true=>(t.W c a).bind fun fa=>gd (nst a) (some (Cz fa))
  |false=>match vf c x "enumerate" with
   |true=>(trF t c firm a).bind fun fa=>gd (nst a&&isTup tg) (some (xZ 0 fa))
   |false=>(trF t c firm (.Call (.Name x p) [a] [] pos)).bind fun fa=>some (cV fa))
 |.Call (.Name x p) [a,b] [] pos=>(match vf c x "range" with
  |true=>(t.W c a).bind fun fa=>(t.W c b).bind fun fb=>gd (nst a&&nst b) (some (Cv fa fb))
  |false=>match vf c x "zip" with
   |true=>(trF t c firm a).bind fun fa=>(trF t c firm b).bind fun fb=>gd (nst a&&(nst b&&isTup tg)) (some (Gk fa fb))
   |false=>(trF t c firm (.Call (.Name x p) [a,b] [] pos)).bind fun fa=>some (cV fa))
 |.Call (.Name x p) [a] [⟨some kw,.Constant (.int i) j kp,kp2⟩] pos=>gd (vf c x "enumerate"&&(kw=="start"&&(decide (-(2 ^ 63)<=i/\i < 2 ^ 63)&&(nst a&&isTup tg)))) ((trF t c firm a).bind fun fa=>some (xZ i fa))
 |e=>(trF t c firm e).bind fun fa=>some (cV fa)
theorem Zv{b:Expr}(h:(!Zi b)=true):PlainIx b:=fun v i=>by
 cases b <;> first | rfl | cases h
section
variable{aj:aU}{c:Tc}{X:Cx}{W:WX}{k:Nat}{t:Tr}
theorem alf(o:t.Ok)(a:Amb aj c X W k){e:Expr}{f:QF}(h:stE t c e=some f):QE aj X W e f:=by
 unfold stE at h
 split at h
 ·split at h
  ·next i hi=>
   cases h
   obtain⟨s1,s2,s3,s4⟩:=Am a hi
   exact ajj s1 s2 s3 s4
  ·split at h
   ·next d hl=>
    obtain⟨hb,h⟩:=bf.mp h
    cases h
    simp only[asu,asT]at hb
    obtain⟨v,u,h1,h2,h3⟩:=a.gl _ _ hl
    exact PE.weak (pe_glob (ug a hb.1) h1 h2 (tX hb.2).1) fun σ H Q ⟨g,ρ,M,I,z⟩=>z v H (Ex.refl H) (h3 g H)
   ·cases h
 ·cases h;exact alZ
 ·cases h;exact alE
 ·cases h;exact anp
 ·cases h;exact ajT
 ·obtain⟨op,h1,h⟩:=asq.mp h
  obtain⟨fa,h2,h⟩:=asq.mp h
  obtain⟨fb,h3,h⟩:=asq.mp h
  cases h
  obtain⟨r,r1,r2⟩:=aiX h1 X aj W
  exact ajv r1 r2 (o.ow a h2) (o.ow a h3)
 ·obtain⟨fa,h2,h⟩:=asq.mp h
  cases h
  exact akr (o.ow a h2)
 ·obtain⟨fa,h2,h⟩:=asq.mp h
  cases h
  exact ahw (o.ow a h2)
 ·exact pe_one (o.oe a h)
 ·obtain⟨fa,h2,h⟩:=asq.mp h
  obtain⟨fb,h3,h⟩:=asq.mp h
  cases h
  exact aiO (o.oe a h2) (o.oe a h3)
 ·obtain⟨fa,h2,h⟩:=asq.mp h
  obtain⟨fb,h3,h⟩:=asq.mp h
  cases h
  exact ajF (o.oe a h2) (o.oe a h3)
 ·split at h
  ·next neg hn=>
   obtain⟨d,h1,h⟩:=asq.mp h
   obtain⟨fa,h2,h⟩:=asq.mp h
   cases h
   obtain⟨v,v1,v2,v3⟩:=abF (X:=X) h1
   refine anl v1 (aeX hn v2) (o.ow a h2) v3 (Dq ?_)
   unfold T6 at h1
   split at h1 <;> first | rfl | cases h1
  ·obtain⟨op,h1,h⟩:=asq.mp h
   obtain⟨fa,h2,h⟩:=asq.mp h
   obtain⟨fb,h3,h⟩:=asq.mp h
   obtain⟨hb,h⟩:=bf.mp h
   cases h
   obtain⟨r,r1,r2⟩:=CT h1 a.rm aj W
   exact aiF r1 r2 (o.ow a h2) (o.ow a h3) (Dq (by simpa using hb))
 ·obtain⟨op,h1,h⟩:=asq.mp h
  obtain⟨op',h1',h⟩:=asq.mp h
  obtain⟨fa,h2,h⟩:=asq.mp h
  obtain⟨fb,h3,h⟩:=asq.mp h
  obtain⟨fc,h4,h⟩:=asq.mp h
  obtain⟨hb,h⟩:=bf.mp h
  cases h
  obtain⟨r,r1,r2⟩:=CT h1 a.rm aj W
  obtain⟨r',r1',r2'⟩:=CT h1' a.rm aj W
  exact agQ r1 r1' r2 r2' (o.ow a h2) (o.ow a h3) (o.ow a h4) (V8 (by simpa using hb))
 ·obtain⟨ta,h1,h⟩:=asq.mp h
  obtain⟨fa,h2,h⟩:=asq.mp h
  obtain⟨fb,h3,h⟩:=asq.mp h
  cases h
  exact afz (o.ot a h1) (o.oe a h2) (o.oe a h3)
 ·obtain⟨fr,h1,h⟩:=asq.mp h
  cases h
  exact aj4 (tY o a h1).1
 ·obtain⟨fr,h1,h⟩:=asq.mp h
  cases h
  exact alL (tY o a h1).1
 ·split at h
  ·obtain⟨fa,h1,h⟩:=asq.mp h
   obtain⟨fl,h2,h⟩:=asq.mp h
   obtain⟨fh,h3,h⟩:=asq.mp h
   cases h
   exact am0 (o.ow a h1) (adI o a h2) (adI o a h3)
  ·obtain⟨hb,h⟩:=bf.mp h
   obtain⟨fa,h1,h⟩:=asq.mp h
   obtain⟨fb,h2,h⟩:=asq.mp h
   cases h
   exact amM (o.ow a h1) (o.ow a h2) (Zv hb)
 ·exact abB o a h
 ·exact afk o a h
 ·cases h
theorem aj1(o:t.Ok)(a:Amb aj c X W k){e:Expr}{f:QF}(h:stW t c e=some f):QW aj X W e f:=by
 unfold stW at h
 split at h
 ·split at h
  ·next i hi=>
   cases h
   obtain⟨s1,s2,s3,s4⟩:=Am a hi
   exact akf s1 s2 s3 s4
  ·exact(o.oe a h).w
 ·exact(o.oe a h).w
theorem akT{a b:Expr}{rest:List Expr}{ta tb:QT}{pos:Pos}(ha:sG aj X W a ta)(hb:sG aj X W (.BoolOp .And (b::rest) pos) tb):sG aj X W (.BoolOp .And (a::b::rest) pos) (gG ta tb):=by
 have hb':QWt aj X W (.BoolOp .And (b::rest) pos) tb:=⟨fun wh pins s σ H Q I q=>hb.run pins s σ H Q I q⟩
 exact PW.pt (alW ha hb')
theorem amL{a b:Expr}{rest:List Expr}{ta tb:QT}{pos:Pos}(ha:sG aj X W a ta)(hb:sG aj X W (.BoolOp .Or (b::rest) pos) tb):sG aj X W (.BoolOp .Or (a::b::rest) pos) (FW ta tb):=by
 have hb':QWt aj X W (.BoolOp .Or (b::rest) pos) tb:=⟨fun wh pins s σ H Q I q=>hb.run pins s σ H Q I q⟩
 exact PW.pt (amX ha hb')
theorem akK(o:t.Ok)(a:Amb aj c X W k){e:Expr}{f:QT}(h:stT t c e=some f):sG aj X W e f:=by
 unfold stT at h
 split at h
 ·obtain⟨ta,h1,h⟩:=asq.mp h
  cases h
  exact akF (o.ot a h1)
 ·next op _ _=>
  cases op
  ·exact PW.pt (pw_and1 (o.ot a h))
  ·exact PW.pt (pw_or1 (o.ot a h))
 ·obtain⟨ta,h1,h⟩:=asq.mp h
  obtain⟨tb,h2,h⟩:=asq.mp h
  cases h
  exact akT (o.ot a h1) (o.ot a h2)
 ·obtain⟨ta,h1,h⟩:=asq.mp h
  obtain⟨tb,h2,h⟩:=asq.mp h
  cases h
  exact amL (o.ot a h1) (o.ot a h2)
 ·split at h
  ·next neg hn=>
   obtain⟨d,h1,h⟩:=asq.mp h
   obtain⟨fa,h2,h⟩:=asq.mp h
   cases h
   obtain⟨v,v1,v2,v3⟩:=abF (X:=X) h1
   refine anf v1 (aeX hn v2) (o.ow a h2) v3 (Dq ?_)
   unfold T6 at h1
   split at h1 <;> first | rfl | cases h1
  ·obtain⟨op,h1,h⟩:=asq.mp h
   obtain⟨fa,h2,h⟩:=asq.mp h
   obtain⟨fb,h3,h⟩:=asq.mp h
   obtain⟨hb,h⟩:=bf.mp h
   cases h
   obtain⟨r,r1,r2⟩:=CT h1 a.rm aj W
   exact aku r1 r2 (o.ow a h2) (o.ow a h3) (Dq (by simpa using hb))
 ·obtain⟨op,h1,h⟩:=asq.mp h
  obtain⟨op',h1',h⟩:=asq.mp h
  obtain⟨fa,h2,h⟩:=asq.mp h
  obtain⟨fb,h3,h⟩:=asq.mp h
  obtain⟨fc,h4,h⟩:=asq.mp h
  obtain⟨hb,h⟩:=bf.mp h
  cases h
  obtain⟨r,r1,r2⟩:=CT h1 a.rm aj W
  obtain⟨r',r1',r2'⟩:=CT h1' a.rm aj W
  exact agN r1 r1' r2 r2' (o.ow a h2) (o.ow a h3) (o.ow a h4) (V8 (by simpa using hb))
 ·obtain⟨hv,h⟩:=bf.mp h
  obtain⟨fa,h1,h⟩:=asq.mp h
  cases h
  exact akl (o.ow a h1) (aiL hv)
theorem CV(o:t.Ok)(a:Amb aj c X W k){firm:Bool}{e:Expr}{f:QF}(h:trF t c firm e=some f):QF' aj X W firm e f:=by
 cases firm
 ·exact o.ow a h
 ·exact o.oe a h
theorem Pn{e:Expr}(h:isTup e=true):∃es j p,e=.Tuple es j p:=by
 cases e <;> first | exact⟨_,_,_,rfl⟩ | cases h
theorem akn(o:t.Ok)(a:Amb aj c X W k){firm:Bool}{tg e:Expr}{f:IF}(h:stI t c firm tg e=some f):QI aj X W firm tg e f:=by
 unfold stI at h
 split at h
 ·split at h
  ·next hb=>
   obtain⟨fa,h1,h⟩:=asq.mp h
   obtain⟨hs,h⟩:=bf.mp h
   cases h
   obtain⟨rfl,hg,hm⟩:=nY a hb
   exact aem hg hm (o.ow a h1) hs
  ·split at h
   ·next hb=>
    obtain⟨fa,h1,h⟩:=asq.mp h
    obtain⟨hs,h⟩:=bf.mp h
    cases h
    obtain⟨rfl,hg,hm⟩:=nY a hb
    rw[asu]at hs
    obtain⟨es,j,p,rfl⟩:=Pn hs.2
    exact aiD hg hm (CV o a h1) hs.1
   ·obtain⟨fa,h1,h⟩:=asq.mp h
    cases h
    exact YK (CV o a h1)
 ·split at h
  ·next hb=>
   obtain⟨fa,h1,h⟩:=asq.mp h
   obtain⟨fb,h2,h⟩:=asq.mp h
   obtain⟨hs,h⟩:=bf.mp h
   cases h
   obtain⟨rfl,hg,hm⟩:=nY a hb
   rw[asu]at hs
   exact aeQ hg hm (o.ow a h1) (o.ow a h2) hs.1 hs.2
  ·split at h
   ·next hb=>
    obtain⟨fa,h1,h⟩:=asq.mp h
    obtain⟨fb,h2,h⟩:=asq.mp h
    obtain⟨hs,h⟩:=bf.mp h
    cases h
    obtain⟨rfl,hg,hm⟩:=nY a hb
    simp only[asu]at hs
    obtain⟨es,j,p,rfl⟩:=Pn hs.2.2
    exact akL hg hm (CV o a h1) (CV o a h2) hs.1 hs.2.1
   ·obtain⟨fa,h1,h⟩:=asq.mp h
    cases h
    exact YK (CV o a h1)
 ·obtain⟨hs,h⟩:=bf.mp h
  obtain⟨fa,h1,h⟩:=asq.mp h
  cases h
  simp only[asu,decide_eq_true_eq]at hs
  obtain⟨hb,hk,hi,hn,ht⟩:=hs
  obtain⟨rfl,hg,hm⟩:=nY a hb
  cases eq_of_beq hk
  obtain⟨es,j,p,rfl⟩:=Pn ht
  exact agL hi.1 hi.2 hg hm (CV o a h1) hn
 ·obtain⟨fa,h1,h⟩:=asq.mp h
  cases h
  exact YK (CV o a h1)
end
def MV.n:MV->Nat
 |.q n _=>n
 |.g n _=>n
def MV.qt:MV->Bool
 |.q _ _=>true
 |.g _ _=>false
def tbN(tb:List (Str×MV))(n:Nat):Bool:=tb.all fun p=>p.2.n==n
def tbQ(tb:List (Str×MV)):Bool:=tb.all fun p=>p.2.qt
theorem qm{α:Type}{c:Str}{v:α}:∀{tb:List (Str×α)},tb.lookup c=some v->(c,v)∈tb
 |[],h=>nomatch h
 |(y,u)::r,h=>by
  rw[as6]at h
  split at h
  ·next e=>
   cases h
   rw[eq_of_beq e]
   exact asz
  ·exact asy _ (qm h)
section
variable{aj:aU}{c:Tc}{X:Cx}{W:WX}{k:Nat}{t:Tr}
theorem X3(a:Amb aj c X W k){m:Str}{n:Nat}{tb:List (Str×MV)}(h:c.hs.Ms.lookup m=some tb)(hn:tbN tb n=true):Iz X aj k m n tb:=fun y v hv=>by
 refine⟨a.hk.ms m tb h y v hv,?_⟩
 have:=asV.mp hn _ (qm hv)
 cases v <;> exact eq_of_beq this
def Zo(t:Tr)(c:Tc)(o:Expr)(m:Str)(es:List Expr)(apos pos:Pos):Option QF:=
 (c.hs.Ms.lookup m).bind fun tb=>(t.W c o).bind fun fo=>(G4 t c es).bind fun as=>
  gd (tbQ tb&&(tbN tb (es.length+1)&&(baseOk o&&(decide (es.length < 30)&&(apos.endLine==pos.line))))) (some (aW tb fo as))
theorem adK(o:t.Ok)(a:Amb aj c X W k){b:Expr}{m:Str}{es:List Expr}{apos pos:Pos}{f:QF}(h:Zo t c b m es apos pos=some f):QE aj X W (.Call (.Attribute b m apos) es [] pos) f:=by
 unfold Zo at h
 obtain⟨tb,h1,h⟩:=asq.mp h
 obtain⟨fo,h2,h⟩:=asq.mp h
 obtain⟨as,h3,h⟩:=asq.mp h
 obtain⟨hb,h⟩:=bf.mp h
 cases h
 simp only[asu,decide_eq_true_eq]at hb
 obtain⟨_,b2,b3,b4,b5⟩:=hb
 obtain⟨i1,i2,i3⟩:=tY o a h3
 cases es with
 |nil=>
  cases h3
  exact af8 a.tk a.rm (X3 a h1 b2) (o.ow a h2) b3 b5
 |cons e es=>exact aiq a.tk a.rm (X3 a h1 b2) (o.ow a h2) i1 i3 b3 i2 b5 b4
def inN:CmpOp->Option Bool
 |.In=>some false
 |.NotIn=>some true
 |_=>none
theorem adx{op:CmpOp}{neg:Bool}(hr:Room k X.A)(h:inN op=some neg):OpR X (compareOp op) (rInD X neg):=by
 have h65:X.A.units+64 < cLine:=by have:=hr.un;omega
 cases op <;> cases h
 ·exact op_inD h65
 ·exact op_notInD h65
def acO(t:Tr)(c:Tc)(e:Expr)(op:CmpOp)(o:Expr)(f:Str):Option QF:=
 (inN op).bind fun neg=>(c.hs.df.lookup f).bind fun _=>(t.E c e).bind fun fe=>(t.W c o).bind fun fo=>gd (baseOk o) (some (Py neg f fe fo))
theorem ajl{o e:Expr}{f:Str}{p1 pos:Pos}{fo fk:QF}{neg:Bool}{op:CmpOp}(co:jH X.K aj)(hw:aj.w=X.w)(hr:OpR X (compareOp op) (rInD X neg))(hk:QE aj X W e fk)(ho:QW aj X W o fo)(hb:baseOk o=true):sG aj X W (.Compare e [op] [.Attribute o f p1] pos) (aY (Py neg f fk fo)):=
 PT.weak (pt_cmpR hr hk (pe_fld ho (mH hb)) (by cases op <;> rfl)) fun σ H Q ⟨g,ρ,M,I,h⟩=>by
  refine ag0 co hw σ H _ ⟨g,ρ,M,I,h.bnd.mono (fun d h1 v H' e' r'=>?_) fun _ z=>z⟩
  obtain⟨k,h2,h3⟩:=Ez r'.weak h1
  exact⟨k,h2,h3 H' e'⟩
theorem abp(o:t.Ok)(a:Amb aj c X W k){e b:Expr}{op:CmpOp}{m:Str}{p1 pos:Pos}{f:QF}(h:acO t c e op b m=some f):QE aj X W (.Compare e [op] [.Attribute b m p1] pos) f/\sG aj X W (.Compare e [op] [.Attribute b m p1] pos) (aY f):=by
 unfold acO at h
 obtain⟨neg,h1,h⟩:=asq.mp h
 obtain⟨_,_,h⟩:=asq.mp h
 obtain⟨fe,h2,h⟩:=asq.mp h
 obtain⟨fo,h3,h⟩:=asq.mp h
 obtain⟨hb,h⟩:=bf.mp h
 cases h
 exact⟨aji a.hk.co a.hk.hw (adx a.rm h1) (o.oe a h2) (o.ow a h3) hb,ajl a.hk.co a.hk.hw (adx a.rm h1) (o.oe a h2) (o.ow a h3) hb⟩
def X8(t:Tr)(c:Tc)(e:Expr)(op:CmpOp)(x:Str):Option QF:=
 (inN op).bind fun neg=>match c.G.lookup x with
  |some (.dic kvs)=>(t.W c e).bind fun fe=>gd (Ij c.sc x&&!Gv x) (some (UG neg kvs fe))
  |_=>none
theorem YG(o:t.Ok)(a:Amb aj c X W k){e:Expr}{op:CmpOp}{x:Str}{p1 pos:Pos}{f:QF}(h:X8 t c e op x=some f):QE aj X W (.Compare e [op] [.Name x p1] pos) f/\sG aj X W (.Compare e [op] [.Name x p1] pos) (aY f):=by
 unfold X8 at h
 obtain⟨neg,h1,h⟩:=asq.mp h
 split at h
 ·next kvs hl=>
  obtain⟨fe,h2,h⟩:=asq.mp h
  obtain⟨hb,h⟩:=bf.mp h
  cases h
  simp only[asu,asT]at hb
  refine al7 ?_ (a.gl x _ hl) (ug a hb.1) (tX hb.2).1 (o.ow a h2)
  cases op <;> cases h1
  ·exact .inl ⟨rfl,rfl⟩
  ·exact .inr ⟨rfl,rfl⟩
 ·cases h
def Yy(t:Tr)(c:Tc):Expr->Option QF
 |.Call (.Name y _) [b] [] _=>(match vf c y "set" with
  |true=>(t.W c b).bind fun fb=>gd (nst b) (some (dZ Q8 fb))
  |false=>(t.W c (.Call (.Name y ⟨0,0,0,0⟩) [b] [] ⟨0,0,0,0⟩)).bind fun _=>none)
 |e=>(t.W c e).bind fun fe=>gd (nst e) (some (dZ zR fe))
theorem alS(a:Amb aj c X W k):X.A.units+65 < cLine:=by have:=a.rm.un;omega
theorem afh(o:t.Ok)(a:Amb aj c X W k)(hg:Gl X "sorted")(hm:X.mg "sorted"=none){e:Expr}{p pos:Pos}{f:QF}(h:Yy t c e=some f):QE aj X W (.Call (.Name "sorted" p) [e] [] pos) f:=by
 unfold Yy at h
 split at h
 ·split at h
  ·next hb=>
   obtain⟨fb,h1,h⟩:=asq.mp h
   obtain⟨hn,h⟩:=bf.mp h
   cases h
   obtain⟨rfl,hg2,hm2⟩:=nY a hb
   exact ahv (alS a) a.calm hg hm hg2 hm2 (o.ow a h1) hn
  ·obtain⟨_,_,h⟩:=asq.mp h
   cases h
 ·obtain⟨fe,h1,h⟩:=asq.mp h
  obtain⟨hn,h⟩:=bf.mp h
  cases h
  exact ahR (alS a) hg hm (o.ow a h1) hn
def Tg(t:Tr)(c:Tc)(elt tg iter:Expr)(ifs:List Expr)(tg1 iter1:Expr)(ifs1:List Expr)(scope:Scope):Option QF:=
 (t.I c false tg iter).bind fun it=>(WL (c.inn scope) tg).bind fun jt=>(Uq t (c.inn scope) ifs).bind fun tt=>(t.I (c.inn scope) true tg1 iter1).bind fun it1=>(WL (c.inn scope) tg1).bind fun jt1=>(Uq t (c.inn scope) ifs1).bind fun tt1=>(t.E (c.inn scope) elt).bind fun te=>
  gd (blkC c.N c.sc scope (pF tg jt.1++pF tg1 jt1.1)&&(Qm ((pF tg1 jt1.1).map (·.2)) ((pF tg jt.1++pF tg1 jt1.1).map (·.2))&&(Qm jt.1 ((pF tg jt.1++pF tg1 jt1.1).map (·.2))&&(Qm jt1.1 ((pF tg1 jt1.1).map (·.2))&&(!yQ iter&&!yQ iter1)))))
   (some (DY it jt.2 ((pF tg jt.1++pF tg1 jt1.1).map (·.2)) tt it1 jt1.2 ((pF tg1 jt1.1).map (·.2)) tt1 te))
theorem agr(o:t.Ok)(a:Amb aj c X W k){elt tg iter tg1 iter1:Expr}{ifs ifs1:List Expr}{scope:Scope}{pos:Pos}{f:QF}(h:Tg t c elt tg iter ifs tg1 iter1 ifs1 scope=some f):QE aj X W (.ListComp elt [⟨tg,iter,ifs,0⟩,⟨tg1,iter1,ifs1,0⟩] scope pos) f:=by
 unfold Tg at h
 obtain⟨it,h1,h⟩:=asq.mp h
 obtain⟨⟨js,tf⟩,h2,h⟩:=asq.mp h
 obtain⟨tt,h3,h⟩:=asq.mp h
 obtain⟨it1,h4,h⟩:=asq.mp h
 obtain⟨⟨js1,tf1⟩,h5,h⟩:=asq.mp h
 obtain⟨tt1,h6,h⟩:=asq.mp h
 obtain⟨te,h7,h⟩:=asq.mp h
 obtain⟨hb,h⟩:=bf.mp h
 cases h
 simp only[asu,asT]at hb
 obtain⟨b1,b2,b3,b4,b5,b6⟩:=hb
 exact alO a.calm a.nd (o.oi a h1) (by rw[a.hN,a.hs];exact b1) (pC b2) (pC b3) (pC b4) (fun s H C cl fp=>vH (a.inn _ s H C cl fp) h2) (fun s H C cl fp=>wU o (a.inn _ s H C cl fp) h3) (fun s H C cl fp=>o.oi (a.inn _ s H C cl fp) h4) (fun s H C cl fp=>vH (a.inn _ s H C cl fp) h5) (fun s H C cl fp=>wU o (a.inn _ s H C cl fp) h6) (fun s H C cl fp=>o.oe (a.inn _ s H C cl fp) h7) (rC b5) (fun env=>rC b6)
def xE(t:Tr)(c:Tc):Expr->Option QF
 |.Attribute o f _=>gd (baseOk o) ((t.W c o).bind fun fo=>some (gQ f fo))
 |.Call (.Attribute o m apos) es [] pos=>Zo t c o m es apos pos
 |.Compare e [op] [.Attribute o f _] _=>acO t c e op o f
 |.Compare e [op] [.Name x _] _=>X8 t c e op x
 |.Subscript (.Name x _) e _=>(match c.G.lookup x with
  |some (.dic kvs)=>(t.W c e).bind fun fe=>gd (Ij c.sc x&&(!Gv x&&!Zi e)) (some (acS kvs fe))
  |_=>none)
 |.ListComp elt [⟨tg,iter,ifs,0⟩,⟨tg1,iter1,ifs1,0⟩] scope _=>Tg t c elt tg iter ifs tg1 iter1 ifs1 scope
 |.Call (.Name x _) [e] [] _=>(match vf c x "sorted" with
  |true=>Yy t c e
  |false=>match vf c x "list",e with
   |true,.Attribute o f _=>(c.hs.df.lookup f).bind fun _=>(t.W c o).bind fun fo=>gd (baseOk o) (some (DN f fo))
   |_,_=>none)
 |_=>none
theorem amS(o:t.Ok)(a:Amb aj c X W k){e:Expr}{f:QF}(h:xE t c e=some f):QE aj X W e f:=by
 unfold xE at h
 split at h
 ·obtain⟨hb,h⟩:=bf.mp h
  obtain⟨fo,h1,h⟩:=asq.mp h
  cases h
  exact alF a.hk.co (o.ow a h1) hb
 ·exact adK o a h
 ·exact(abp o a h).1
 ·exact(YG o a h).1
 ·split at h
  ·next kvs hl=>
   obtain⟨fe,h1,h⟩:=asq.mp h
   obtain⟨hb,h⟩:=bf.mp h
   cases h
   simp only[asu]at hb
   exact alX (a.gl _ _ hl) (ug a hb.1) (tX (by simpa using hb.2.1)).1 (o.ow a h1) (Zv hb.2.2)
  ·cases h
 ·exact agr o a h
 ·split at h
  ·next hb=>
   obtain⟨rfl,hg,hm⟩:=nY a hb
   exact afh o a hg hm h
  ·split at h
   ·next hb=>
    obtain⟨_,_,h⟩:=asq.mp h
    obtain⟨fo,h1,h⟩:=asq.mp h
    obtain⟨hb2,h⟩:=bf.mp h
    cases h
    obtain⟨rfl,hg,hm⟩:=nY a hb
    exact af9 a.hk.co a.hk.hw a.calm hg hm (o.ow a h1) hb2
   ·cases h
 ·cases h
def xW(t:Tr)(c:Tc):Expr->Option QF
 |.Attribute o f _=>gd (baseOk o) ((t.W c o).bind fun fo=>some (bL f fo))
 |_=>none
theorem amw(o:t.Ok)(a:Amb aj c X W k){e:Expr}{f:QF}(h:xW t c e=some f):QW aj X W e f:=by
 unfold xW at h
 split at h
 ·obtain⟨hb,h⟩:=bf.mp h
  obtain⟨fo,h1,h⟩:=asq.mp h
  cases h
  exact aln a.hk.co (o.ow a h1) hb
 ·cases h
def xT(t:Tr)(c:Tc):Expr->Option QT
 |.Compare e [op] [.Attribute o f _] _=>(acO t c e op o f).bind fun g=>some (aY g)
 |.Compare e [op] [.Name x _] _=>(X8 t c e op x).bind fun g=>some (aY g)
 |_=>none
theorem amh(o:t.Ok)(a:Amb aj c X W k){e:Expr}{f:QT}(h:xT t c e=some f):sG aj X W e f:=by
 unfold xT at h
 split at h
 ·obtain⟨g,h1,h⟩:=asq.mp h
  cases h
  exact(abp o a h1).2
 ·obtain⟨g,h1,h⟩:=asq.mp h
  cases h
  exact(YG o a h1).2
 ·cases h
def xI(t:Tr)(c:Tc)(firm:Bool):Expr->Option IF
 |.Attribute o f _=>(match firm with
  |true=>none
  |false=>(c.hs.df.lookup f).bind fun _=>gd (baseOk o) ((t.W c o).bind fun fo=>some (DK f fo)))
 |_=>none
theorem amN(o:t.Ok)(a:Amb aj c X W k){firm:Bool}{tg e:Expr}{f:IF}(h:xI t c firm e=some f):QI aj X W firm tg e f:=by
 unfold xI at h
 split at h
 ·split at h
  ·cases h
  ·obtain⟨_,_,h⟩:=asq.mp h
   obtain⟨hb,h⟩:=bf.mp h
   obtain⟨fo,h1,h⟩:=asq.mp h
   cases h
   exact agS a.hk.co a.hk.hw (o.ow a h1) hb
 ·cases h
def els{α:Type}(a b:Option α):Option α:=match a with
 |some x=>some x
 |none=>b
theorem wj{α:Type}{a b:Option α}{x:α}(h:els a b=some x):a=some x∨b=some x:=by
 cases a with
 |none=>exact .inr h
 |some y=>exact .inl h
def xtE(t:Tr)(c:Tc)(e:Expr):Option QF:=els (xE t c e) (stE t c e)
def xtW(t:Tr)(c:Tc)(e:Expr):Option QF:=els (xW t c e) (stW t c e)
def xtT(t:Tr)(c:Tc)(e:Expr):Option QT:=els (xT t c e) (stT t c e)
def xtI(t:Tr)(c:Tc)(firm:Bool)(tg e:Expr):Option IF:=els (xI t c firm e) (stI t c firm tg e)
end
structure u6(aj:aU)(c:Tc)(X:Cx)(W:WX)(k:Nat):Prop extends Amb aj c X W k where
 ps:PassesOwn (model X.prog X.w) X.A X.env X.xe
 st:X.stack=X.env::X.outer
 fr:X.env.frame=some X.env.locals
 kf:X.env.scope.kind=.function
structure Ts where
 G:Tc->Expr->Option GF
 H:Tc->Expr->Option GT
 S:Tc->Stmt->Option SF
 B:Tc->List Stmt->Option SF
structure Ts.Ok(s:Ts)(q:Bool):Prop where
 og:∀{aj:aU} {c:Tc} {X:Cx} {W:WX} {k:Nat},u6 aj c X W k->∀{e:Expr} {f:GF},s.G c e=some f->GE aj X W q e f
 oh:∀{aj:aU} {c:Tc} {X:Cx} {W:WX} {k:Nat},u6 aj c X W k->∀{e:Expr} {f:GT},s.H c e=some f->GTe aj X W q e f
 os:∀{aj:aU} {c:Tc} {X:Cx} {W:WX} {k:Nat},u6 aj c X W k->∀{e:Stmt} {f:SF},s.S c e=some f->SE aj X W q e f
 ob:∀{aj:aU} {c:Tc} {X:Cx} {W:WX} {k:Nat},u6 aj c X W k->∀{e:List Stmt} {f:SF},s.B c e=some f->JK aj X W q e f
def FT:Expr->Bool
 |.ListComp _ _ _ _=>true
 |.SetComp _ _ _ _=>true
 |.DictComp _ _ _ _ _=>true
 |_=>false
theorem GD{e:Expr}{tg:Option Expr}{l:Nat}{env:PySem.Env}(h:FT e=false):swapsWith e tg l env=pure false:=by
 cases e <;> first | rfl | cases h
def ac4:Expr->Bool
 |.Tuple _ _ _=>true
 |_=>false
def swB(sc:Scope)(v:Expr)(scope:Scope)(x:Str)(p:Pos):Bool:=(match sc.names.lookup x with
 |some .local=>true
 |_=>false)&&(p.line==v.pos.line&&!(scope.names.any fun(n,k)=>n==x&&(k==.local || k==.cell)))
theorem Rm{X:Cx}{elt:Expr}{gens:List Comprehension}{scope:Scope}{pos p:Pos}{x:Str}{l:Nat}(hk:X.env.scope.kind=.function)(h:swB X.env.scope (.ListComp elt gens scope pos) scope x p=true):X.env.scope.names.lookup x=some .local/\swapsWith (.ListComp elt gens scope pos) (some (.Name x p)) l X.env=pure true:=by
 unfold swB at h
 simp only[asu]at h
 obtain⟨h1,h2,h3⟩:=h
 have e1:X.env.scope.names.lookup x=some .local:=by
  split at h1
  ·assumption
  ·cases h1
 refine⟨e1,?_⟩
 have eb:X.env.blockKind=.function:=by
  unfold PySem.Env.blockKind
  rw[hk]
  rfl
 unfold swapsWith
 show(pure (X.env.blockKind==.function&&X.env.kindOf x==some .local&&p.line==(Expr.ListComp elt gens scope pos).pos.line&&!(scope.names.any fun(n,k)=>n==x&&(k==.local || k==.cell))):Sem Bool)=pure true
 rw[eb,h2,h3]
 unfold PySem.Env.kindOf
 rw[e1]
 rfl
theorem aeh{X:Cx}{elt:Expr}{gens:List Comprehension}{scope:Scope}{pos p:Pos}{x:Str}{l:Nat}(h:(p.line==(Expr.ListComp elt gens scope pos).pos.line)=false):swapsWith (.ListComp elt gens scope pos) (some (.Name x p)) l X.env=pure false:=by
 unfold swapsWith
 show(pure (X.env.blockKind==.function&&X.env.kindOf x==some .local&&p.line==(Expr.ListComp elt gens scope pos).pos.line&&!(scope.names.any fun(n,k)=>n==x&&(k==.local || k==.cell))):Sem Bool)=pure false
 rw[h,Bool.and_false,Bool.false_and]
def trN(t:Tr)(c:Tc):Expr->Option IF
 |.List es _=>(G4 t c es).bind fun fr=>some (Lw fr)
 |_=>none
theorem aen{aj:aU}{c:Tc}{X:Cx}{W:WX}{k:Nat}{t:Tr}(o:t.Ok)(a:Amb aj c X W k){e:Expr}{f:IF}(h:trN t c e=some f):FE aj X W e f/\FT e=false:=by
 unfold trN at h
 split at h
 ·obtain⟨fr,h1,h⟩:=asq.mp h
  cases h
  exact⟨ajp (tY o a h1).1,rfl⟩
 ·cases h
def Vj(c:Tc):List Str->Option (List Nat)
 |[]=>some []
 |x::xs=>(match c.sc.names.lookup x with
  |some .local=>(idx c.N x).bind fun i=>(Vj c xs).bind fun js=>some (i::js)
  |_=>none)
theorem abQ{aj:aU}{c:Tc}{X:Cx}{W:WX}{k:Nat}(a:Amb aj c X W k):∀{xs:List Str} {js:List Nat},Vj c xs=some js->xs.length=js.length/\∀(n:Nat) (x:Str) (j:Nat),xs[n]?=some x->js[n]?=some j->X.N[j]?=some x/\X.env.scope.names.lookup x=some .local
 |[],js,h=>by
  cases h
  exact⟨rfl,fun n x j e=>by simp at e⟩
 |x::xs,js,h=>by
  rw[Vj]at h
  split at h
  ·next e=>
   obtain⟨i,h1,h⟩:=asq.mp h
   obtain⟨r,h2,h⟩:=asq.mp h
   cases h
   obtain⟨i1,i2⟩:=abQ a h2
   refine⟨by simp[i1],fun n y j e1 e2=>?_⟩
   cases n with
   |zero=>
    simp at e1 e2
    subst e1 e2
    exact⟨by rw[a.hN];exact Gx h1,by rw[a.hs];exact e⟩
   |succ n=>exact i2 n y j (by simpa using e1) (by simpa using e2)
  ·cases h
def nmE:Expr->Option (Str×Nat)
 |.Name x p=>some (x,p.line)
 |_=>none
def Vv:List Expr->Option (List (Str×Nat))
 |[]=>some []
 |e::es=>(nmE e).bind fun x=>(Vv es).bind fun r=>some (x::r)
def pnB(c:Tc)(ts vs:List Expr):Option (List Nat):=
 (Vv ts).bind fun nls=>gd ((ts.length==2 || ts.length==3)&&(vs.length==ts.length&&(vs.all nst&&(nls.all (fun p=>p.2==((ts.head?.map (·.pos.line)).getD 0))&&((nls.map (·.1)).eraseDups.length==nls.length&&(!(vs.all (foldedForSure 8))&&!(vs.all (constantsAlone 8)))))))) (Vj c (nls.map (·.1)))
theorem Yz:∀{ts:List Expr} {nls:List (Str×Nat)},Vv ts=some nls->nls.length=ts.length
 |[],_,h=>by cases h;rfl
 |e::es,_,h=>by
  rw[Vv]at h
  obtain⟨x,h1,h⟩:=asq.mp h
  obtain⟨r,h2,h⟩:=asq.mp h
  cases h
  simp[Yz h2]
theorem RK{sc:Scope}{l:Nat}:∀{ts:List Expr} {nls:List (Str×Nat)},Vv ts=some nls->nls.all (fun p=>p.2==l)=true->(∀x∈nls.map (·.1),sc.names.lookup x=some .local)->
  (ts.filterMap fun e=>match e with
  |.Name id pos=>if sc.names.lookup id==some .local&&pos.line==l then some id else none
  |_=>none)=nls.map (·.1)
 |[],_,h,_,_=>by cases h;rfl
 |e::es,_,h,hl,hk=>by
  rw[Vv]at h
  obtain⟨x,h1,h⟩:=asq.mp h
  obtain⟨r,h2,h⟩:=asq.mp h
  cases h
  rw[ate,asu]at hl
  have ih:=RK (sc:=sc) h2 hl.2 fun y hy=>hk y (asy _ hy)
  cases e with
  |Name y p=>
   cases h1
   have e1:=hk y asz
   have e2:(if sc.names.lookup y==some .local&&p.line==l then some y else none)=some y:=by
    rw[e1,show(p.line==l)=true from hl.1]
    rfl
   simp only[List.filterMap_cons,e2,ih,asx]
  |_=>cases h1
theorem Kh:∀(n:Nat) (l:List Str),l.length=n->l.eraseDups.length=l.length->l.Nodup:=by
 intro n
 induction n using Nat.strongRecOn with
 |_ n ih=>
  intro l hn h
  cases l with
  |nil=>exact atR
  |cons a r=>
   rw[atJ]at h
   simp only[asM]at h hn
   have h1:(r.filter fun b=>!b==a).length<=r.length:=asQ _ _
   have h2:∀l:List Str,l.eraseDups.length<=l.length:=by
    intro l
    induction hm:l.length using Nat.strongRecOn generalizing l with
    |_ m ihm=>
     cases l with
     |nil=>simp
     |cons x xs=>
      rw[atJ]
      simp only[asM]at hm ⊢
      have z:(xs.filter fun b=>!b==x).length<=xs.length:=asQ _ _
      have:=ihm _ (by omega) (xs.filter fun b=>!b==x) rfl
      omega
   have h3:=h2 (r.filter fun b=>!b==a)
   have e1:(r.filter fun b=>!b==a).length=r.length:=by omega
   have e2:(r.filter fun b=>!b==a)=r:=atM.mpr (List.length_filter_eq_length_iff.mp e1)
   rw[e2]at h
   rw[atu]
   refine⟨fun z=>?_,ih r.length (by omega) r rfl (by omega)⟩
   have:=atM.mp e2 a z
   simp at this
theorem abH{aj:aU}{c:Tc}{X:Cx}{W:WX}{k:Nat}(a:Amb aj c X W k):∀{xs:List Str} {js:List Nat},Vj c xs=some js->xs.Nodup->js.Nodup/\∀j∈js,∃x∈xs,X.N[j]?=some x
 |[],js,h,_=>by
  cases h
  exact⟨atR,fun j hj=>by simp at hj⟩
 |x::xs,js,h,nd=>by
  rw[Vj]at h
  rw[atu]at nd
  split at h
  ·next e=>
   obtain⟨i,h1,h⟩:=asq.mp h
   obtain⟨r,h2,h⟩:=asq.mp h
   cases h
   obtain⟨i1,i2⟩:=abH a h2 nd.2
   have hi:X.N[i]?=some x:=by rw[a.hN];exact Gx h1
   refine⟨atu.mpr ⟨fun z=>?_,i1⟩,fun j hj=>?_⟩
   ·obtain⟨y,hy,e2⟩:=i2 i z
    rw[hi]at e2
    cases e2
    exact nd.1 hy
   ·rcases asN.mp hj with rfl|hj
    ·exact⟨x,asz,hi⟩
    ·obtain⟨y,hy,e2⟩:=i2 j hj
     exact⟨y,asy _ hy,e2⟩
  ·cases h
theorem ail{vs:List Expr}(h:vs.all nst=true):(vs.any fun e=>match e with
  |.Starred _ _=>true
  |_=>false)=false:=by
 induction vs with
 |nil=>rfl
 |cons v vs ih=>
  rw[ate,asu]at h
  rw[atw,ih h.2,Bool.or_false]
  cases v <;> first | rfl | cases h.1
theorem alD{aj:aU}{c:Tc}{X:Cx}{W:WX}{k:Nat}(a:u6 aj c X W k){ts vs:List Expr}{js:List Nat}{kt k2:Nat}{pt p2:Pos}(h:pnB c ts vs=some js) :
  ∃xs:List Str,xs.length=js.length/\js.length<=3/\js.Nodup/\(∀(n:Nat) (x:Str) (j:Nat),xs[n]?=some x->js[n]?=some j->X.N[j]?=some x/\X.env.scope.names.lookup x=some .local)/\swappedStores [.Tuple ts kt pt] (.Tuple vs k2 p2) X.env=pure (some xs):=by
 unfold pnB at h
 obtain⟨nls,h1,h⟩:=asq.mp h
 obtain⟨hb,h⟩:=bf.mp h
 simp only[asu,asT]at hb
 obtain⟨b1,b2,b3,b4,b5,b6,b7⟩:=hb
 have l1:=Yz h1
 obtain⟨i1,i2⟩:=abQ a.toAmb h
 have nd:=Kh _ _ rfl (by rw[asH];exact eq_of_beq b5)
 obtain⟨d1,d2⟩:=abH a.toAmb h nd
 have hloc:∀x∈nls.map (·.1),X.env.scope.names.lookup x=some .local:=fun x hx=>by
  obtain⟨n,hn,e⟩:=List.mem_iff_getElem.mp hx
  have hj:n < js.length:=by rw[←i1];exact hn
  exact(i2 n x js[n] (by rw[asw hn,e]) (asw hj)).2
 have hf:=RK (sc:=X.env.scope) h1 b4 hloc
 have h3:ts.length=2∨ts.length=3:=by
  rw[atN]at b1
  exact b1.imp eq_of_beq eq_of_beq
 refine⟨nls.map (·.1),i1,?_,d1,i2,?_⟩
 ·rw[←i1,asH,l1]
  omega
 ·have eb:X.env.blockKind=.function:=by
   unfold PySem.Env.blockKind
   rw[a.kf]
   rfl
  unfold swappedStores
  have e1:(!(ts.length==2 || ts.length==3) || vs.length != ts.length || X.env.blockKind != .function)=false:=by
   rw[b1,eb,eq_of_beq b2]
   simp
  have e2:=ail b3
  have e3:(nls.map (·.1)).length=ts.length:=by rw[asH,l1]
  have e4:((nls.map (·.1)).length != ts.length || (nls.map (·.1)).eraseDups.length != (nls.map (·.1)).length)=false:=by
   rw[e3,eq_of_beq b5,l1]
   simp
  simp only[e1,as9,if_false]
  generalize hA:List.filterMap (β:=Str) _ ts=A
  have eA:A=nls.map (·.1):=hA.symm.trans hf
  subst eA
  split
  ·next z=>exact absurd (z.symm.trans e2) (by decide)
  ·rw[e4,b6,b7]
   rfl
section
variable{X:Cx}{aj:aU}{W:WX}{q:Bool}{e:Expr}{pos:Pos}
theorem ajy{j:Nat}{y:Str}{py:Pos}{elt tg iter:Expr}{cpos:Pos}{scope:Scope}{own:List (Str×Nat)}{it:IF}{tgf:fV}{js:List Nat}{tt:QT}{te:QF}{ifs:List Expr}(hc:X.calm=true)(hN:X.N.Nodup)(hy:X.N[j]?=some y)(hyl:X.env.scope.names.lookup y=some .local)
  (hsw:swapsWith (.ListComp elt [⟨tg,iter,ifs,0⟩] scope cpos) (some (.Name y py)) pos.line X.env=pure true) (hi:QI aj X W false tg iter it) (ok:blkC X.N X.env.scope scope own=true) (hj:∀j∈js,j∈own.map (·.2))
  (hg:∀(s:Shared) (H:Hp) (C:Addr) (cl:List (Str×Addr)) (fp:List Addr),QG aj (X.blk s H scope (compEnvC scope cl C X.env) fp) tg js tgf)
  (ht:∀(s:Shared) (H:Hp) (C:Addr) (cl:List (Str×Addr)) (fp:List Addr),PTs (X.blk s H scope (compEnvC scope cl C X.env) fp) ifs (kJ X.K aj WF tt))
  (he:∀(s:Shared) (H:Hp) (C:Addr) (cl:List (Str×Addr)) (fp:List Addr),QE aj (X.blk s H scope (compEnvC scope cl C X.env) fp) WF elt te) (hs:∀x,foldedSetIterable iter X.env x=pure x) :
  SE aj X W q (.Assign [.Name y py] (.ListComp elt [⟨tg,iter,ifs,0⟩] scope cpos) pos) (Bh j (Bc it tgf (own.map (·.2)) tt te)):=by
 refine PS.weak (ps_setLc (g:=Ac X.K aj js tgf) (tt:=kJ X.K aj WF tt) (te:=tQ X.K aj WF te) hc hN hy hyl hsw hi (blkOk_by ok) (fun s H C cl fp=>hg s H C cl fp) ht (fun s H C cl fp=>he s H C cl fp) hs) fun D σ H h=>?_
 exact Zr hj σ H _ (aea D σ H h)
end
def ahc(t:Tr)(c:Tc)(elt tg iter:Expr)(ifs:List Expr)(scope:Scope):Option IF:=
 (t.I c false tg iter).bind fun it=>(WL (c.inn scope) tg).bind fun jt=>(Uq t (c.inn scope) ifs).bind fun tt=>(t.E (c.inn scope) elt).bind fun te=>
  gd (blkC c.N c.sc scope (pF tg jt.1)&&(Qm jt.1 ((pF tg jt.1).map (·.2))&&!yQ iter)) (some (Bc it jt.2 ((pF tg jt.1).map (·.2)) tt te))
def Vm(t:Tr)(c:Tc)(x:Str)(p:Pos)(elt tg iter:Expr)(ifs:List Expr)(scope:Scope)(cpos:Pos):Option SF:=
 (vZ c x).bind fun j=>gd (swB c.sc (.ListComp elt [⟨tg,iter,ifs,0⟩] scope cpos) scope x p || !(p.line==(Expr.ListComp elt [⟨tg,iter,ifs,0⟩] scope cpos).pos.line))
  (match c.ml.contains x with
  |true=>(ahc t c elt tg iter ifs scope).bind fun f=>some (Bh j f)
  |false=>(Yj t c elt tg iter ifs scope).bind fun f=>some (aV (aF j) (gOf f)))
section
variable{aj:aU}{c:Tc}{X:Cx}{W:WX}{k:Nat}{t:Tr}{q:Bool}
theorem acH(o:t.Ok)(a:u6 aj c X W k){x:Str}{p cpos pos:Pos}{elt tg iter:Expr}{ifs:List Expr}{scope:Scope}{f:SF}(h:Vm t c x p elt tg iter ifs scope cpos=some f):SE aj X W q (.Assign [.Name x p] (.ListComp elt [⟨tg,iter,ifs,0⟩] scope cpos) pos) f:=by
 unfold Vm at h
 obtain⟨j,hj,h⟩:=asq.mp h
 obtain⟨hsw,h⟩:=bf.mp h
 obtain⟨s1,s2,s3⟩:=mZ a.toAmb hj
 rw[atN]at hsw
 split at h
 ·obtain⟨f1,h1,h⟩:=asq.mp h
  cases h
  unfold ahc at h1
  obtain⟨it,h2,h1⟩:=asq.mp h1
  obtain⟨⟨js,tf⟩,h3,h1⟩:=asq.mp h1
  obtain⟨tt,h4,h1⟩:=asq.mp h1
  obtain⟨te,h5,h1⟩:=asq.mp h1
  obtain⟨hb,h1⟩:=bf.mp h1
  cases h1
  simp only[asu,asT]at hb
  obtain⟨b1,b2,b3⟩:=hb
  rcases hsw with hsw|hsw
  ·rw[←a.hs]at hsw
   obtain⟨l1,l2⟩:=Rm (l:=pos.line) a.kf hsw
   exact ajy a.calm a.nd s1 l1 l2 (o.oi a.toAmb h2) (by rw[a.hN,a.hs];exact b1) (pC b2) (fun s H C cl fp=>vH (a.toAmb.inn scope s H C cl fp) h3) (fun s H C cl fp=>wU o (a.toAmb.inn scope s H C cl fp) h4) (fun s H C cl fp=>o.oe (a.toAmb.inn scope s H C cl fp) h5) (rC b3)
  ·exact aeo a.nd s1 s2 s3 (ana a.calm a.nd (o.oi a.toAmb h2) (by rw[a.hN,a.hs];exact b1) (pC b2) (fun s H C cl fp=>vH (a.toAmb.inn scope s H C cl fp) h3) (fun s H C cl fp=>wU o (a.toAmb.inn scope s H C cl fp) h4) (fun s H C cl fp=>o.oe (a.toAmb.inn scope s H C cl fp) h5) (rC b3)) (aeh (by simpa using hsw))
 ·obtain⟨f1,h1,h⟩:=asq.mp h
  cases h
  rcases hsw with hsw|hsw
  ·rw[←a.hs]at hsw
   obtain⟨l1,l2⟩:=Rm (l:=pos.line) a.kf hsw
   unfold Yj at h1
   obtain⟨it,h2,h1⟩:=asq.mp h1
   obtain⟨⟨js,tf⟩,h3,h1⟩:=asq.mp h1
   obtain⟨tt,h4,h1⟩:=asq.mp h1
   obtain⟨te,h5,h1⟩:=asq.mp h1
   obtain⟨hb,h1⟩:=bf.mp h1
   cases h1
   simp only[asu,asT]at hb
   obtain⟨b1,b2,b3⟩:=hb
   exact alG a.calm a.nd s1 l1 l2 (o.oi a.toAmb h2) (by rw[a.hN,a.hs];exact b1) (pC b2) (fun s H C cl fp=>vH (a.toAmb.inn scope s H C cl fp) h3) (fun s H C cl fp=>wU o (a.toAmb.inn scope s H C cl fp) h4) (fun s H C cl fp=>o.oe (a.toAmb.inn scope s H C cl fp) h5) (rC b3)
  ·exact Z8 (ag3 (abB o a.toAmb h1)) (Vi a.nd s1 s2 s3) (aeh (l:=pos.line) (by simpa using hsw)) (by with_unfolding_all rfl) (by with_unfolding_all rfl)
end
theorem CQ{tg e:Expr}{l:Nat}{env:PySem.Env}(h:FT e=false):swapsWithSole [tg] e l env=pure false:=GD h
def acR(t:Tr)(s:Ts)(c:Tc):Expr->Expr->Option SF
 |.Name x p,.ListComp elt [⟨tg,iter,ifs,0⟩] scope cpos=>Vm t c x p elt tg iter ifs scope cpos
 |.Name x _,e=>(vZ c x).bind fun j=>match c.ml.contains x with
  |true=>(trN t c e).bind fun f=>some (Bh j f)
  |false=>gd (!FT e) ((s.G c e).bind fun f=>some (aV (aF j) f))
 |.Tuple [.Name x _,.Starred (.Name y _) _] _ _,e=>(vZ c x).bind fun i=>(vZ c y).bind fun j=>gd (!FT e&&!ac4 e) ((s.G c e).bind fun f=>some (Yh i j f))
 |.Tuple ts _ _,.Tuple vs _ _=>(pnB c ts vs).bind fun js=>(G4 t c vs).bind fun f=>some (sPN js f)
 |.Tuple ts _ _,e=>(Ym c ts).bind fun js=>gd (!FT e&&!ac4 e) ((s.G c e).bind fun f=>some (aV (bF js) f))
 |_,_=>none
theorem Rx{tg e:Expr}{env:PySem.Env}(h:ac4 e=false):swappedStores [tg] e env=pure none:=by
 cases tg <;> first | rfl | (cases e <;> first | rfl | cases h)
section
variable{aj:aU}{c:Tc}{X:Cx}{W:WX}{k:Nat}{t:Tr}{s:Ts}{q:Bool}
theorem afL(o:t.Ok)(os:s.Ok q)(a:u6 aj c X W k){tg e:Expr}{pos:Pos}{f:SF}(h:acR t s c tg e=some f):SE aj X W q (.Assign [tg] e pos) f:=by
 unfold acR at h
 split at h
 ·exact acH o a h
 ·obtain⟨j,hj,h⟩:=asq.mp h
  obtain⟨s1,s2,s3⟩:=mZ a.toAmb hj
  split at h
  ·obtain⟨f1,h1,h⟩:=asq.mp h
   cases h
   obtain⟨i1,i2⟩:=aen o a.toAmb h1
   exact aeo a.nd s1 s2 s3 i1 (GD i2)
  ·obtain⟨hc,h⟩:=bf.mp h
   obtain⟨f1,h1,h⟩:=asq.mp h
   cases h
   exact Z8 (os.og a h1) (Vi a.nd s1 s2 s3) (CQ (by simpa using hc)) (by with_unfolding_all rfl) (by with_unfolding_all rfl)
 ·obtain⟨i,hi,h⟩:=asq.mp h
  obtain⟨j,hj,h⟩:=asq.mp h
  obtain⟨hc,h⟩:=bf.mp h
  obtain⟨f1,h1,h⟩:=asq.mp h
  cases h
  simp only[asu,asT]at hc
  exact aiS a.calm a.nd (mZ a.toAmb hi) (mZ a.toAmb hj) (os.og a h1) (CQ hc.1) (Rx hc.2)
 ·obtain⟨js,hj,h⟩:=asq.mp h
  obtain⟨f1,h1,h⟩:=asq.mp h
  cases h
  obtain⟨xs,p1,p2,p3,p4,p5⟩:=alD a hj
  exact amr a.calm a.nd p3 p1 p2 p4 (tY o a.toAmb h1).1 p5 (CQ rfl)
 ·obtain⟨js,hj,h⟩:=asq.mp h
  obtain⟨hc,h⟩:=bf.mp h
  obtain⟨f1,h1,h⟩:=asq.mp h
  cases h
  simp only[asu,asT]at hc
  exact Z8 (os.og a h1) (ae5 a.calm a.nd (U9 a.toAmb hj)) (CQ hc.1) (Rx hc.2) (by with_unfolding_all rfl)
 ·cases h
end
def acM(s:Ts)(c:Tc):List Stmt->Option SF
 |[]=>some aP
 |[a]=>s.S c a
 |a::b::r=>(s.S c a).bind fun f=>(s.B c (b::r)).bind fun g=>some (aC f g)
def stS(t:Tr)(s:Ts)(c:Tc):Stmt->Option SF
 |.Assign [tg] e _=>acR t s c tg e
 |.Assign [.Name x _,.Name y _] e _=>(vZ c x).bind fun i=>(vZ c y).bind fun j=>gd (!ac4 e) ((s.G c e).bind fun f=>some (Ro i j f))
 |.AugAssign (.Name x _) .Add e _=>(vZ c x).bind fun j=>(t.E c e).bind fun f=>some (Qt j f)
 |.Expr (.Call (.Attribute (.Name x _) m apos) [e] [] pos) _=>(Ml c x).bind fun j=>gd (m=="append"&&(c.ml.contains x&&(nst e&&(apos.endLine==pos.line)))) ((t.E c e).bind fun f=>some (Gg j f))
 |.Return (some e) _=>(match t.E c e with
  |some f=>some (aO f)
  |none=>(s.G c e).bind fun f=>some (iD f))
 |.If d s1 s2 _=>(s.B c s1).bind fun f=>(s.B c s2).bind fun g=>(t.T c d).bind fun td=>some (bO td f g)
 |.For tg iter body [] _=>(t.I c true tg iter).bind fun it=>(WL c tg).bind fun jt=>(s.B c body).bind fun f=>gd (!yQ iter) (some (pZ it jt.2 f))
 |_=>none
section
variable{aj:aU}{c:Tc}{X:Cx}{W:WX}{k:Nat}{t:Tr}{s:Ts}{q:Bool}
theorem afP(os:s.Ok q)(a:u6 aj c X W k){b:List Stmt}{f:SF}(h:acM s c b=some f):JK aj X W q b f:=by
 unfold acM at h
 split at h
 ·cases h;exact alP
 ·exact ak2 (os.os a h)
 ·obtain⟨f1,h1,h⟩:=asq.mp h
  obtain⟨f2,h2,h⟩:=asq.mp h
  cases h
  exact ah1 (os.os a h1) (os.ob a h2)
theorem aj7(o:t.Ok)(os:s.Ok q)(a:u6 aj c X W k){st:Stmt}{f:SF}(h:stS t s c st=some f):SE aj X W q st f:=by
 unfold stS at h
 split at h
 ·exact afL o os a h
 ·obtain⟨i,hi,h⟩:=asq.mp h
  obtain⟨j,hj,h⟩:=asq.mp h
  obtain⟨hc,h⟩:=bf.mp h
  obtain⟨f1,h1,h⟩:=asq.mp h
  cases h
  exact ahS a.nd (mZ a.toAmb hi) (mZ a.toAmb hj) (os.og a h1) (by with_unfolding_all rfl)
 ·obtain⟨j,hj,h⟩:=asq.mp h
  obtain⟨f1,h1,h⟩:=asq.mp h
  cases h
  obtain⟨s1,s2,s3⟩:=mZ a.toAmb hj
  exact ak5 a.nd s1 s2 s3 (o.oe a.toAmb h1)
 ·obtain⟨j,hj,h⟩:=asq.mp h
  obtain⟨hc,h⟩:=bf.mp h
  obtain⟨f1,h1,h⟩:=asq.mp h
  cases h
  simp only[asu]at hc
  cases eq_of_beq hc.1
  obtain⟨s1,s2,s3,s4⟩:=Am a.toAmb hj
  exact ajz s1 s2 s3 s4 (o.oe a.toAmb h1) hc.2.2.1 hc.2.2.2
 ·split at h
  ·next f1 h1=>
   cases h
   exact akH (o.oe a.toAmb h1)
  ·obtain⟨f1,h1,h⟩:=asq.mp h
   cases h
   exact aiZ (os.og a h1)
 ·obtain⟨f1,h1,h⟩:=asq.mp h
  obtain⟨f2,h2,h⟩:=asq.mp h
  obtain⟨td,h3,h⟩:=asq.mp h
  cases h
  exact amk (o.ot a.toAmb h3) (os.ob a h1) (os.ob a h2)
 ·obtain⟨it,h1,h⟩:=asq.mp h
  obtain⟨⟨js,tf⟩,h2,h⟩:=asq.mp h
  obtain⟨f1,h3,h⟩:=asq.mp h
  obtain⟨hc,h⟩:=bf.mp h
  cases h
  exact ajw a.ps a.calm (o.oi a.toAmb h1) (vH a.toAmb h2) (os.ob a h3) (rC (by simpa using hc))
 ·cases h
end
abbrev GA:=Mo->Env->bx (List Dat)
def alC(a:GF)(r:GA):GA:=fun M ρ=>(a M ρ).bind fun d M1=>(r M1 ρ).bind fun ds M2=>.ok (d::ds) M2
def alA(m:Mo->List Dat->bx Dat)(as:GA):GF:=fun M ρ=>(as M ρ).bind fun ds M1=>m M1 ds
def akz(m:Mo->List Dat->Out Dat)(as:GA):GF:=fun M ρ=>(as M ρ).bind fun ds M1=>(m M1 ds).at M1
section
variable{X:Cx}{aj:aU}{W:WX}{q:Bool}{a b e:Expr}{es:List Expr}{pos p:Pos}
variable{x:Str}{k:Nat}{f:Addr}{fd:FuncData}{ps:List Str}
def ank(a:GT):GT:=fun M ρ=>(a M ρ).bind fun b M1=>.ok (!b) M1
def amI(a b:GT):GT:=fun M ρ=>(a M ρ).bind fun x M1=>if x=true then b M1 ρ else .ok false M1
def aoP(a b:GT):GT:=fun M ρ=>(a M ρ).bind fun x M1=>if x=true then .ok true M1 else b M1 ρ
def am9(a:GF):GT:=fun M ρ=>(a M ρ).bind fun d M1=>(JD d).at M1
end
section
variable{aj:aU}{c:Tc}{X:Cx}{W:WX}{k:Nat}{t:Tr}{s:Ts}{q:Bool}
def xG(t:Tr)(s:Ts)(c:Tc):Expr->Option GF
 |.Call (.Name x _) [] [] _=>(match c.G.lookup x with
  |some (.cls 0 m)=>gd (Ij c.sc x&&!Gv x) (some (Bl x m au))
  |_=>none)
 |.Call (.Name x _) (e::es) [] _=>(match c.G.lookup x with
  |some (.fg n m)=>gd (Ij c.sc x&&(!Gv x&&decide ((e::es).length=n))) ((G4 t c (e::es)).bind fun as=>some (sJ m as))
  |some (.cls n m)=>gd (Ij c.sc x&&(!Gv x&&decide ((e::es).length=n))) ((G4 t c (e::es)).bind fun as=>some (Bl x m as))
  |_=>none)
 |.Call (.Attribute o m apos) es [] pos=>(c.hs.Ms.lookup m).bind fun tb=>(t.W c o).bind fun fo=>(G4 t c es).bind fun as=>
  gd (tbN tb (es.length+1)&&(baseOk o&&(decide (es.length < 30)&&(apos.endLine==pos.line)))) (some (cO tb fo as))
 |_=>none
theorem amZ(o:t.Ok)(os:s.Ok false)(a:u6 aj c X W k){e:Expr}{f:GF}(h:xG t s c e=some f):GE aj X W false e f:=by
 unfold xG at h
 split at h
 ·split at h
  ·next m hl=>
   obtain⟨hb,h⟩:=bf.mp h
   cases h
   simp only[asu,asT]at hb
   exact aiB a.rm (a.gl _ _ hl) (ug a.toAmb hb.1) (tX hb.2).1
  ·cases h
 ·split at h
  ·next n m hl=>
   obtain⟨hb,h⟩:=bf.mp h
   simp only[asu,asT,decide_eq_true_eq]at hb
   obtain⟨b1,b2,b3⟩:=hb
   obtain⟨fa,hm,hk,fd,ps,j,hj,hp,hB,F⟩:=a.gl _ _ hl
   obtain⟨as,h1,h⟩:=asq.mp h
   cases h
   obtain⟨i1,i2,i3⟩:=tY o a.toAmb h1
   exact ahQ a.tk F (a.rm.mono hj) (ug a.toAmb b1) hm hk hB i1 (b3.trans hp.symm) (tX b2).1 i2 i3
  ·next n m hl=>
   obtain⟨hb,h⟩:=bf.mp h
   simp only[asu,asT,decide_eq_true_eq]at hb
   obtain⟨b1,b2,b3⟩:=hb
   obtain⟨as,h1,h⟩:=asq.mp h
   cases h
   obtain⟨i1,i2,i3⟩:=tY o a.toAmb h1
   exact alB a.rm (a.gl _ _ hl) (ug a.toAmb b1) (tX b2).1 i1 i2 (fun M ρ ds z=>by rw[i3 M ρ ds z];exact b3)
  ·cases h
 ·next b m apos es pos=>
  obtain⟨tb,h1,h⟩:=asq.mp h
  obtain⟨fo,h2,h⟩:=asq.mp h
  obtain⟨as,h3,h⟩:=asq.mp h
  obtain⟨hb,h⟩:=bf.mp h
  cases h
  simp only[asu,decide_eq_true_eq]at hb
  obtain⟨b2,b3,b4,b5⟩:=hb
  obtain⟨i1,i2,i3⟩:=tY o a.toAmb h3
  cases es with
  |nil=>
   cases h3
   exact afN a.tk a.rm (X3 a.toAmb h1 b2) (o.ow a.toAmb h2) b3 b5
  |cons e es=>exact ah6 a.tk a.rm (X3 a.toAmb h1 b2) (o.ow a.toAmb h2) i1 i3 b3 i2 b5 b4
 ·cases h
end
section
variable{aj:aU}{c:Tc}{X:Cx}{W:WX}{k:Nat}{t:Tr}{s:Ts}{q:Bool}
theorem Jm{e o:Expr}{f:Str}{p:Pos}{l:Nat}{env:PySem.Env}:swapsWith e (some (.Attribute o f p)) l env=pure false:=by
 cases e <;> rfl
theorem agv{e o:Expr}{i:Expr}{p:Pos}{l:Nat}{env:PySem.Env}:swapsWith e (some (.Subscript o i p)) l env=pure false:=by
 cases e <;> rfl
theorem agb{o:Expr}{f:Str}{p spos:Pos}{i:Expr}{env:PySem.Env}(h:Zi i=false):∀v,assign (.Subscript (.Attribute o f p) i spos) env v=(do
   let ov ←holding [v] (eval (.Attribute o f p) env)
   let iv ←holding [v,ov] (eval i env)
   standAt spos
   holding [v,ov,iv] (setItem ov iv v)
   release [v,ov,iv] []):=fun v=>by
 cases i <;> first | (with_unfolding_all rfl) | cases h
def ak4(t:Tr)(c:Tc)(kx tg iter:Expr)(scope:Scope):Option (Mo->Env->Out (List (Dat×Dat))):=
 (t.I c false tg iter).bind fun it=>(WL (c.inn scope) tg).bind fun jt=>(t.E (c.inn scope) kx).bind fun te=>
  gd (blkC c.N c.sc scope (pF tg jt.1)&&(Qm jt.1 ((pF tg jt.1).map (·.2))&&!yQ iter)) (some (qDc it jt.2 ((pF tg jt.1).map (·.2)) te))
theorem agB(a:Amb aj c X W k):X.A.units+64 < cLine:=by have:=a.rm.un;omega
def agk(t:Tr)(s:Ts)(c:Tc)(o:Expr)(f:Str):Expr->Option SF
 |.Dict [] [] _=>(t.W c o).bind fun fo=>(c.hs.df.lookup f).bind fun b=>some (Nq c.hs.ft fo f b)
 |.DictComp kx (.Constant (.bool true) _ _) [⟨tg,iter,[],0⟩] scope _=>(t.W c o).bind fun fo=>(ak4 t c kx tg iter scope).bind fun fe=>some (Sh c.hs.ft fo f fe)
 |.List es p=>(t.W c o).bind fun fo=>(trN t c (.List es p)).bind fun fe=>some (Es c.hs.ft fo f fe)
 |e=>gd (!FT e) ((t.W c o).bind fun fo=>(s.G c e).bind fun fe=>some (uM c.hs.ft fo f fe))
theorem aje(ot:t.Ok)(os:s.Ok false)(a:u6 aj c X W k){o e:Expr}{f:Str}{p pos:Pos}{sf:SF}(h:agk t s c o f e=some sf):SE aj X W false (.Assign [.Attribute o f p] e pos) sf:=by
 have hk:=a.hk
 unfold agk at h
 split at h
 ·obtain⟨fo,h1,h⟩:=asq.mp h
  obtain⟨b,h2,h⟩:=asq.mp h
  cases h
  exact ahO hk.co hk.fk hk.hw (ot.ow a.toAmb h1) Jm
 ·obtain⟨fo,h1,h⟩:=asq.mp h
  obtain⟨fe,h2,h⟩:=asq.mp h
  cases h
  unfold ak4 at h2
  obtain⟨it,i1,h2⟩:=asq.mp h2
  obtain⟨⟨js,tf⟩,i2,h2⟩:=asq.mp h2
  obtain⟨te,i3,h2⟩:=asq.mp h2
  obtain⟨hb,h2⟩:=bf.mp h2
  cases h2
  simp only[asu,asT]at hb
  obtain⟨b1,b2,b3⟩:=hb
  exact aiG hk.co hk.fk (ot.ow a.toAmb h1) (al3 (g:=Ac X.K aj js tf) (tk:=tQ X.K aj WF te) a.calm a.nd (agB a.toAmb) (ot.oi a.toAmb i1) (blkOk_by (by rw[a.hN,a.hs];exact b1)) (fun s H C cl fp=>vH (a.toAmb.inn _ s H C cl fp) i2) (fun s H C cl fp=>ot.oe (a.toAmb.inn _ s H C cl fp) i3) (rC b3)) (fun σ H Q z=>amg hk.hw (pC b2) σ H Q z) Jm
 ·obtain⟨fo,h1,h⟩:=asq.mp h
  obtain⟨fe,h2,h⟩:=asq.mp h
  cases h
  exact ai3 hk.co hk.fk (ot.ow a.toAmb h1) (aen ot a.toAmb h2).1 Jm
 ·obtain⟨hc,h⟩:=bf.mp h
  obtain⟨fo,h1,h⟩:=asq.mp h
  obtain⟨fe,h2,h⟩:=asq.mp h
  cases h
  exact aiP hk.co hk.fk (ot.ow a.toAmb h1) (os.og a h2) Jm
def YM(n:Str):List Expr->Option (List Str)
 |[]=>some []
 |.Attribute (.Name m _) f _::es=>gd (m==n) ((YM n es).bind fun fs=>some (f::fs))
 |_=>none
def acN(nm:Option Str):Expr->Option El
 |.Constant (.str x) _ _=>some (.con (.str x))
 |.Constant .none _ _=>some (.con .none)
 |.Tuple [] _ _=>some (.con (.tuple []))
 |.Attribute (.Name m _) f _=>nm.bind fun n=>gd (m==n) (some (.fld f))
 |.Tuple es _ _=>nm.bind fun n=>(YM n es).bind fun fs=>some (.flds fs)
 |_=>none
def El.fs:El->List Str
 |.con _=>[]
 |.fld f=>[f]
 |.flds fs=>fs
def aco(c:Tc)(nm:Option Str):List Stmt->Option (List (Nat×El))
 |[]=>some []
 |.Assign [.Name x _] e _::r=>(vZ c x).bind fun j=>(acN nm e).bind fun se=>(aco c nm r).bind fun st=>some ((j,se)::st)
 |_=>none
def Uc(c:Tc):Option Str->Option (Option Nat)
 |none=>some none
 |some n=>(Ml c n).bind fun i=>match c.sc.names.lookup n with
  |some .local=>some (some i)
  |_=>none
def ajt(c:Tc):ExceptHandler->Option Hd
 |.ExceptHandler (some (.Name y _)) nm (s0::su) _=>(c.hs.xm.lookup y).bind fun tab=>(Uc c nm).bind fun i=>(aco c nm (s0::su)).bind fun st=>
  (match c.G.lookup y with
  |some .exc=>some true
  |some (.exi _)=>some true
  |_=>none).bind fun _=>
  gd (Ij c.sc y&&(!Gv y&&(st.all (fun p=>match i with
   |some j=>!(j==p.1)
   |none=>true)&&st.all (fun p=>p.2.fs.all (fun f=>((c.hs.xf.lookup y).getD []).contains f)&&decide (p.2.fs.length<=100))))) (some ⟨y,fun x=>tab.lookup x,i,st⟩)
 |_=>none
def X7(c:Tc):List ExceptHandler->Option (List Hd)
 |[]=>some []
 |h::hs=>(ajt c h).bind fun d=>(X7 c hs).bind fun ds=>some (d::ds)
theorem abT{y n:Str}{C:Addr}{a:Addr}{oe:Obj}{cls:Value}{d:Option Addr}{pn:List (Addr×Obj)}{j:Nat}{fl:List Str}(hC:aj y=some C)(T:XfC X.K C)(hno:∀f∈fl,PySem.W.findIn X.K (.ref C) f=some none)(hz:Zc cls d oe)(hf:∃vs,oe.data=.fields vs)(hN:X.N[j]?=some n)(hv:Vis X.env.scope n)(hd:(n==("__debug__" : Str))=false)(hcd:(n==("__classdict__" : Str))=false) :
  ∀{es:List Expr} {fs:List Str},YM n es=some fs->(∀f∈fs,f∈fl)->PA (X.suite a ((a,oe)::pn)) es (tUA X.K aj a cls d (some j) fun x=>Nz y x fs)
 |[],fs,h,_=>by
  cases h
  exact aeF
 |.Attribute (.Name m p) f p2::es,fs,h,hs=>by
  rw[YM]at h
  obtain⟨hm,h⟩:=bf.mp h
  obtain⟨fr,h1,h⟩:=asq.mp h
  cases h
  cases eq_of_beq hm
  exact ajg (aeU hC T (hno f (hs f asz)) hz hf hN hv hd hcd) (abT hC T hno hz hf hN hv hd hcd h1 fun f hf=>hs f (asy _ hf)) rfl
theorem ah7{y:Str}{nm:Option Str}{i:Option Nat}{a:Addr}{oe:Obj}{cls:Value}{d:Option Addr}{pn:List (Addr×Obj)}{e:Expr}{se:El}(am:Amb aj c X W k)(hi:Uc c nm=some i)(hy:(c.hs.xf.lookup y).getD []=fl)(hfl:∀f∈se.fs,f∈fl)(hl:se.fs.length<=100)(hz:Zc cls d oe)(hf:∃vs,oe.data=.fields vs)(h:acN nm e=some se) :
  PE (X.suite a ((a,oe)::pn)) e (tU X.K aj a cls d i fun x=>PL y x se):=by
 have fld:∀n j,nm=some n->i=some j->X.N[j]?=some n/\Vis X.env.scope n/\(n==("__debug__" : Str))=false/\(n==("__classdict__" : Str))=false:=fun n j e1 e2=>by
  subst e1 e2
  unfold Uc at hi
  obtain⟨j',h1,hi⟩:=asq.mp hi
  split at hi
  ·cases hi
   exact Am am h1
  ·cases hi
 have hsome:∀n,nm=some n->∃j,i=some j:=fun n e1=>by
  subst e1
  unfold Uc at hi
  obtain⟨j',h1,hi⟩:=asq.mp hi
  split at hi
  ·cases hi
   exact⟨_,rfl⟩
  ·cases hi
 have hxf:fl≠[]->∃C,aj y=some C/\XfC X.K C/\∀f∈fl,PySem.W.findIn X.K (.ref C) f=some none:=fun ne=>by
  cases hx:c.hs.xf.lookup y with
  |none=>
   rw[hx]at hy
   exact absurd hy.symm ne
  |some l=>
   rw[hx]at hy
   cases hy
   exact am.hk.xf y _ hx
 unfold acN at h
 split at h
 ·cases h
  exact aee pe_str fun σ H Q ⟨g,ρ,M,x,z,I,e,kk⟩=>by
   cases e
   exact kk _ H (Ex.refl H) (.str _)
 ·cases h
  exact aee pe_non fun σ H Q ⟨g,ρ,M,x,z,I,e,kk⟩=>by
   cases e
   exact kk _ H (Ex.refl H) .non
 ·cases h
  exact PE.weak (ae0 (aj:=aj) (cls:=cls) (d:=d) (i:=i) aeF fun x zs e=>by cases e;exact ath _) fun σ H Q z=>z
 ·obtain⟨n,e1,h⟩:=asq.mp h
  obtain⟨hm,h⟩:=bf.mp h
  cases h
  cases eq_of_beq hm
  obtain⟨j,rfl⟩:=hsome _ e1
  obtain⟨f1,f2,f3,f4⟩:=fld _ j e1 rfl
  obtain⟨C,c1,c2,c3⟩:=hxf (List.ne_nil_of_mem (hfl _ (asB.mpr rfl)))
  exact aeU c1 c2 (c3 _ (hfl _ (asB.mpr rfl))) hz hf f1 f2 f3 f4
 ·next es _ _ hne=>
  obtain⟨n,e1,h⟩:=asq.mp h
  obtain⟨fs,e2,h⟩:=asq.mp h
  cases h
  obtain⟨j,rfl⟩:=hsome _ e1
  obtain⟨f1,f2,f3,f4⟩:=fld _ j e1 rfl
  have hfs:fs≠[]:=fun z=>by
   subst z
   match es,e2 with
   |[],_=>exact hne rfl
   |.Attribute (.Name m _) f _::es,e2=>
    rw[YM]at e2
    obtain⟨_,e2⟩:=bf.mp e2
    obtain⟨_,_,e2⟩:=asq.mp e2
    cases e2
  have hfn:fl≠[]:=by
   cases fs with
   |nil=>exact absurd rfl hfs
   |cons f r=>exact List.ne_nil_of_mem (hfl f asz)
  obtain⟨C,c1,c2,c3⟩:=hxf hfn
  exact ae0 (abT c1 c2 c3 hz hf f1 f2 f3 f4 e2 hfl) fun x zs e=>by
   have:=Wj e
   have hl:fs.length<=100:=hl
   omega
 ·cases h
theorem Vw{y:Str}{nm:Option Str}{i:Option Nat}{a:Addr}{oe:Obj}{cls:Value}{d:Option Addr}{pn:List (Addr×Obj)}{fl:List Str}(am:Amb aj c X W k)(hi:Uc c nm=some i)(hy:(c.hs.xf.lookup y).getD []=fl)(hz:Zc cls d oe)(hf:∃vs,oe.data=.fields vs) :
  ∀{ss:List Stmt} {st:List (Nat×El)},aco c nm ss=some st->(∀p∈st,(∀f∈p.2.fs,f∈fl)/\p.2.fs.length<=100)->PSs (X.suite a ((a,oe)::pn)) ss (tSu X.K aj a cls d i y st)
 |[],st,h,_=>by
  cases h
  exact PSs.weak pss_nil fun D σ H z=>aly z
 |.Assign [.Name x p] e p2::r,st,h,hs=>by
  rw[aco]at h
  obtain⟨j,h1,h⟩:=asq.mp h
  obtain⟨se,h2,h⟩:=asq.mp h
  obtain⟨st',h3,h⟩:=asq.mp h
  cases h
  obtain⟨s1,s2,s3⟩:=mZ am h1
  obtain⟨u1,u2⟩:=hs (j,se) asz
  have he:=ah7 (a:=a) (pn:=pn) am hi hy u1 u2 hz hf h2
  have hne:FT e=false/\swappedStores [.Name x p] e X.env=pure none:=by
   unfold acN at h2
   split at h2 <;> first | exact⟨rfl,rfl⟩ | cases h2
  refine PSs.weak (pss_cons (ps_asg he (pg_name (X:=X.suite a ((a,oe)::pn)) am.nd s1 s2 s3) (CQ hne.1) hne.2 (by with_unfolding_all rfl)) (Vw am hi hy hz hf h3 fun p hp=>hs p (asy _ hp))) fun D σ H z=>?_
  exact alb z fun σ' H' z'=>z'
def aoC(aj:aU)(K:asr)(h:Hd)(D:Addr):Cl:=⟨.ref D,h.nm,fun a cls d=>tSu K aj a cls d h.nm h.y h.st⟩
theorem Yu(am:Amb aj c X W k):∀{hds:List ExceptHandler} {hs:List Hd},X7 c hds=some hs->∃ls,Ce X hds ls/\GP X.K aj hs ls
 |[],hs,h=>by
  cases h
  exact⟨[],.nil,.nil⟩
 |h0::hds,hs,h=>by
  rw[X7]at h
  obtain⟨d,h1,h⟩:=asq.mp h
  obtain⟨ds,h2,h⟩:=asq.mp h
  cases h
  obtain⟨ls,i1,i2⟩:=Yu am h2
  unfold ajt at h1
  split at h1
  ·next y np nm s0 su cp=>
   obtain⟨tab,j1,h1⟩:=asq.mp h1
   obtain⟨i,j2,h1⟩:=asq.mp h1
   obtain⟨st,j3,h1⟩:=asq.mp h1
   obtain⟨_,j4,h1⟩:=asq.mp h1
   obtain⟨hb,h1⟩:=bf.mp h1
   cases h1
   simp only[asu,asT]at hb
   obtain⟨b1,b2,b3,b4⟩:=hb
   obtain⟨⟨D,hD⟩,hx⟩:=am.hk.xm y tab j1
   have hm:X.mg y=some (.ref D):=by
    split at j4
    ·next hl=>
     obtain⟨C,g1,g2,_⟩:=am.gl y _ hl
     rw[hD]at g2
     cases g2
     exact g1
    ·next hl=>
     obtain⟨C,fI,fd,ps,g1,g2,_⟩:=am.gl y _ hl
     rw[hD]at g2
     cases g2
     exact g1
    ·cases j4
   have hnames:Names X y (.ref D):=⟨ug am b1,(tX b2).1,.inl hm⟩
   have hst:∀p∈st,(∀f∈p.2.fs,f∈(c.hs.xf.lookup y).getD [])/\p.2.fs.length<=100:=fun p hp=>by
    have:=asV.mp b4 p hp
    rw[asu,decide_eq_true_eq]at this
    exact⟨fun f hf=>by simpa using asV.mp this.1 f hf,this.2⟩
   have hnj:∀p∈st,i≠some p.1:=fun p hp z=>by
    subst z
    have:=asV.mp b3 p hp
    simp at this
   refine⟨aoC aj X.K ⟨y,fun x=>tab.lookup x,i,st⟩ D::ls,?_,.cons ⟨⟨D,hD,rfl⟩,hx,rfl,rfl,hnj⟩ i2⟩
   cases nm with
   |none=>
    cases j2
    exact .one hnames rfl (fun a oe cls d pn hz hf=>Vw am rfl rfl hz hf j3 hst) i1
   |some n=>
    have j2':=j2
    unfold Uc at j2
    obtain⟨i',s1,j2⟩:=asq.mp j2
    split at j2
    ·next hloc=>
     cases j2
     refine .as hnames rfl (Am am s1).1 ?_ (fun a oe cls d pn hz hf=>Vw am j2' rfl hz hf j3 hst) i1
     unfold PySem.Env.kindOf
     rw[am.hs]
     exact hloc
    ·cases j2
  ·cases h1
theorem u6.tr(a:u6 aj c X W k){W':WX}{pn:List (Addr×Obj)}{xe:Value->Shared->Prop}(t:Takes (X.tr pn xe) W')(p:PassesOwn (model X.prog X.w) X.A X.env xe):u6 aj c (X.tr pn xe) W' k where
 hN:=a.hN
 hs:=a.hs
 calm:=a.calm
 nd:=a.nd
 tk:=t
 rm:=a.rm
 gl:=a.gl
 bl:=a.bl
 fn:=a.fn
 hk:=a.hk
 ps:=p
 st:=a.st
 fr:=a.fr
 kf:=a.kf
def xS(q:Bool)(t:Tr)(s:Ts)(c:Tc):Stmt->Option SF
 |.Raise (some (.Call (.Name x _) [] [] _)) none _=>(match c.G.lookup x with
  |some .exc=>gd (Ij c.sc x&&!Gv x) (some (eX x))
  |_=>none)
 |.Raise (some (.Call (.Name x _) (e::es) [] _)) none _=>(match c.G.lookup x with
  |some (.exi fs)=>(G4 t c (e::es)).bind fun as=>gd (Ij c.sc x&&(!Gv x&&(decide ((e::es).length=fs.length)&&decide (fs.length<=1000)))) (some (Cu x fs as))
  |_=>none)
 |.Try body (h::hds) [] [] _=>(s.B c body).bind fun f=>(X7 c (h::hds)).bind fun hs=>some (U6 f hs)
 |.Pass _=>some aP
 |.Expr (.Call (.Attribute (.Attribute o f p1) m apos) [e] [] pos) epos=>(match q with
  |true=>(s.G c (.Call (.Attribute (.Attribute o f p1) m apos) [e] [] pos)).bind fun f=>some (cJ f)
  |false=>match m=="append" with
   |true=>gd (baseOk o&&(nst e&&(apos.endLine==pos.line))) ((t.W c o).bind fun fo=>(s.G c e).bind fun fe=>some (Ed f fo fe))
   |false=>(s.G c (.Call (.Attribute (.Attribute o f p1) m apos) [e] [] pos)).bind fun f=>some (cJ f))
 |.Expr e _=>gd (!FT e) ((s.G c e).bind fun f=>some (cJ f))
 |.Assign [.Name x p] (.ListComp elt [⟨tg,iter,ifs,0⟩,⟨tg1,iter1,ifs1,0⟩] scope cpos) _=>(vZ c x).bind fun j=>
  gd (swB c.sc (.ListComp elt [⟨tg,iter,ifs,0⟩,⟨tg1,iter1,ifs1,0⟩] scope cpos) scope x p&&!c.ml.contains x) ((Tg t c elt tg iter ifs tg1 iter1 ifs1 scope).bind fun f=>some (aV (aF j) (gOf f)))
 |.Assign [.Attribute o f _] e _=>(match q with
  |true=>none
  |false=>agk t s c o f e)
 |.Assign [.Subscript (.Attribute o f _) i _] e _=>(match q with
  |true=>none
  |false=>gd (baseOk o&&(!Zi i&&!FT e)) ((t.W c o).bind fun fo=>(t.E c i).bind fun fi=>(t.E c e).bind fun fe=>match c.hs.df.lookup f with
   |some _=>some (N8 f fo fi fe)
   |none=>some (Rk f fo fi fe)))
 |.AugAssign (.Attribute o f _) .Add e _=>(match q with
  |true=>none
  |false=>(t.W c o).bind fun fo=>(t.E c e).bind fun fe=>some (Rh c.hs.ft f fo fe))
 |.Delete [.Subscript (.Attribute o f _) i _] _=>(match q with
  |true=>none
  |false=>gd (baseOk o) ((t.W c o).bind fun fo=>(t.E c i).bind fun fi=>some (Oa f fo fi)))
 |_=>none
theorem amA(o:t.Ok)(os:s.Ok q)(a:u6 aj c X W k){st:Stmt}{f:SF}(h:xS q t s c st=some f):SE aj X W q st f:=by
 have hk:=a.hk
 unfold xS at h
 split at h
 ·split at h
  ·next hl=>
   obtain⟨hb,h⟩:=bf.mp h
   cases h
   simp only[asu,asT]at hb
   exact agM a.calm a.tk (ug a.toAmb hb.1) (tX hb.2).1 (a.gl _ _ hl)
  ·cases h
 ·split at h
  ·next fs hl=>
   obtain⟨as,h1,h⟩:=asq.mp h
   obtain⟨hb,h⟩:=bf.mp h
   cases h
   simp only[asu,asT,decide_eq_true_eq]at hb
   obtain⟨b1,b2,b3,b4⟩:=hb
   obtain⟨i1,i2,i3⟩:=tY o a.toAmb h1
   exact adF a.calm a.tk a.rm (ug a.toAmb b1) (tX b2).1 (a.gl _ _ hl) i1 i2 (fun M ρ ds z=>by rw[i3 M ρ ds z];exact b3) b4
  ·cases h
 ·obtain⟨f1,h1,h⟩:=asq.mp h
  obtain⟨hs,h2,h⟩:=asq.mp h
  cases h
  obtain⟨ls,i1,i2⟩:=Yu a.toAmb h2
  exact ajR a.st a.fr a.nd a.tk (fun W' pn xe t p=>os.ob (a.tr t p) h1) i1 i2
 ·cases h
  exact PS.weak ps_pass fun D σ H ⟨g,ρ,M,I,z⟩=>z σ H g .refl I
 ·split at h
  ·obtain⟨f1,h1,h⟩:=asq.mp h
   cases h
   exact Us (os.og a h1) (GD rfl)
  ·split at h
   ·next hm=>
    obtain⟨hb,h⟩:=bf.mp h
    obtain⟨fo,h1,h⟩:=asq.mp h
    obtain⟨fe,h2,h⟩:=asq.mp h
    cases h
    simp only[asu]at hb
    cases eq_of_beq hm
    exact ain hk.co (o.ow a.toAmb h1) hb.1 (os.og a h2) hb.2.1 hb.2.2
   ·obtain⟨f1,h1,h⟩:=asq.mp h
    cases h
    exact Us (os.og a h1) (GD rfl)
 ·obtain⟨hb,h⟩:=bf.mp h
  obtain⟨f1,h1,h⟩:=asq.mp h
  cases h
  exact Us (os.og a h1) (GD (by simpa using hb))
 ·obtain⟨j,hj,h⟩:=asq.mp h
  obtain⟨hsw,h⟩:=bf.mp h
  rw[asu]at hsw
  obtain⟨f1,h1,h⟩:=asq.mp h
  cases h
  obtain⟨s1,s2,s3⟩:=mZ a.toAmb hj
  have hsw:=hsw.1
  rw[←a.hs]at hsw
  have l1:=(Rm (l:=0) a.kf hsw).1
  have l2:=fun l=>(Rm (l:=l) a.kf hsw).2
  clear h
  unfold Tg at h1
  obtain⟨it,g1,h⟩:=asq.mp h1
  obtain⟨⟨js,tf⟩,h2,h⟩:=asq.mp h
  obtain⟨tt,h3,h⟩:=asq.mp h
  obtain⟨it1,h4,h⟩:=asq.mp h
  obtain⟨⟨js1,tf1⟩,h5,h⟩:=asq.mp h
  obtain⟨tt1,h6,h⟩:=asq.mp h
  obtain⟨te,h7,h⟩:=asq.mp h
  obtain⟨hb,h⟩:=bf.mp h
  cases h
  simp only[asu,asT]at hb
  obtain⟨b1,b2,b3,b4,b5,b6⟩:=hb
  have am:=a.toAmb
  exact ahH a.calm a.nd s1 l1 (l2 _) (o.oi am g1) (by rw[a.hN,a.hs];exact b1) (pC b2) (pC b3) (pC b4) (fun s H C cl fp=>vH (am.inn _ s H C cl fp) h2) (fun s H C cl fp=>wU o (am.inn _ s H C cl fp) h3) (fun s H C cl fp=>o.oi (am.inn _ s H C cl fp) h4) (fun s H C cl fp=>vH (am.inn _ s H C cl fp) h5) (fun s H C cl fp=>wU o (am.inn _ s H C cl fp) h6) (fun s H C cl fp=>o.oe (am.inn _ s H C cl fp) h7) (rC b5) (fun env=>rC b6)
 ·split at h
  ·cases h
  ·exact aje o os a h
 ·split at h
  ·cases h
  ·obtain⟨hb,h⟩:=bf.mp h
   obtain⟨fo,h1,h⟩:=asq.mp h
   obtain⟨fi,h2,h⟩:=asq.mp h
   obtain⟨fe,h3,h⟩:=asq.mp h
   simp only[asu,asT]at hb
   obtain⟨b1,b2,b3⟩:=hb
   split at h
   ·cases h
    exact aiR hk.co hk.hw (agB a.toAmb) (o.ow a.toAmb h1) b1 (o.oe a.toAmb h2) (o.oe a.toAmb h3) agv
   ·cases h
    exact ah3 hk.co (o.ow a.toAmb h1) b1 (o.oe a.toAmb h3) (o.oe a.toAmb h2) (agb b2) (CQ b3) (by with_unfolding_all rfl)
 ·split at h
  ·cases h
  ·obtain⟨fo,h1,h⟩:=asq.mp h
   obtain⟨fe,h2,h⟩:=asq.mp h
   cases h
   exact aiU hk.co hk.fk (o.ow a.toAmb h1) (o.oe a.toAmb h2)
 ·split at h
  ·cases h
  ·obtain⟨hb,h⟩:=bf.mp h
   obtain⟨fo,h1,h⟩:=asq.mp h
   obtain⟨fi,h2,h⟩:=asq.mp h
   cases h
   exact ahV hk.co hk.hw (agB a.toAmb) (o.ow a.toAmb h1) hb (o.oe a.toAmb h2)
 ·cases h
end
def tr0:Tr:=⟨fun _ _=>none,fun _ _=>none,fun _ _=>none,fun _ _ _ _=>none⟩
def akY(t:Tr):Tr:=⟨xtE t,xtW t,xtT t,xtI t⟩
def tr:Nat->Tr
 |0=>tr0
 |n+1=>akY (tr n)
theorem zJ:∀n,(tr n).Ok
 |0=>⟨fun _=>(by intro _ _ h;cases h),fun _=>(by intro _ _ h;cases h),fun _=>(by intro _ _ h;cases h),fun _=>(by intros;rename_i h;cases h)⟩
 |n+1=>⟨fun a=>(by intro _ _ h;exact(wj h).elim (amS (zJ n) a) (alf (zJ n) a)),fun a=>(by intro _ _ h;exact(wj h).elim (amw (zJ n) a) (aj1 (zJ n) a)),fun a=>(by intro _ _ h;exact(wj h).elim (amh (zJ n) a) (akK (zJ n) a)),fun a=>(by intro _ _ _ _ h;exact(wj h).elim (amN (zJ n) a) (akn (zJ n) a))⟩
def ts0:Ts:=⟨fun _ _=>none,fun _ _=>none,fun _ _=>none,fun _ _=>none⟩
def ldG(q:Bool)(t:Tr)(s:Ts)(c:Tc)(e:Expr):Option GF:=match q with
 |true=>none
 |false=>xG t s c e
def ldH(_:Bool)(_:Ts)(_:Tc)(_:Expr):Option GT:=none
def aj2(q:Bool)(t:Tr)(s:Ts):Ts:=⟨fun c e=>els ((t.E c e).bind fun f=>some (gOf f)) (ldG q t s c e),fun c e=>els ((t.T c e).bind fun f=>some (agn f)) (ldH q s c e),fun c e=>els (stS t s c e) (xS q t s c e),acM s⟩
def ts(q:Bool)(t:Tr):Nat->Ts
 |0=>ts0
 |n+1=>aj2 q t (ts q t n)
theorem M8{t:Tr}(o:t.Ok)(q:Bool):∀n,(ts q t n).Ok q
 |0=>⟨fun _=>(by intro _ _ h;cases h),fun _=>(by intro _ _ h;cases h),fun _=>(by intro _ _ h;cases h),fun _=>(by intros;rename_i h;cases h)⟩
 |n+1=>⟨fun a=>by
   intro _ _ h
   rcases wj h with h|h
   ·obtain⟨f,h1,h⟩:=asq.mp h
    cases h
    exact ag3 (o.oe a.toAmb h1)
   ·cases q with
    |true=>cases h
    |false=>exact amZ o (M8 o false n) a h,fun a=>by
   intro _ _ h
   rcases wj h with h|h
   ·obtain⟨f,h1,h⟩:=asq.mp h
    cases h
    exact amU (o.ot a.toAmb h1)
   ·(cases h),fun a=>by
   intro _ _ h
   rcases wj h with h|h
   ·exact aj7 o (M8 o q n) a h
   ·exact amA o (M8 o q n) a h,fun a=>by
   intro _ _ h
   exact afP (M8 o q n) a h⟩
def rd(c:Tc)(b:List Stmt):Option SF:=(ts true (tr 40) 60).B c b
def rdG(c:Tc)(b:List Stmt):Option SF:=(ts false (tr 40) 60).B c b
def Df(P:Program)(w:World)(K:asr)(mg:Str->Option Value)(base:Heap)(aj:aU)(k:Nat):List (Str×GV)->Prop
 |[]=>True
 |(x,v)::r=>aZ P w K mg base aj k x v/\Df P w K mg base aj k r
def Du(mg:Str->Option Value):List Str->Prop
 |[]=>True
 |x::r=>mg x=none/\Du mg r
section
variable{P:Program}{w:World}{K:asr}{mg:Str->Option Value}{base:Heap}{aj:aU}{k:Nat}
theorem Df.get:∀{G:List (Str×GV)},Df P w K mg base aj k G->∀x v,G.lookup x=some v->aZ P w K mg base aj k x v
 |[],_,x,v,h=>nomatch h
 |(y,u)::r,g,x,v,h=>by
  rw[as6]at h
  split at h
  ·next e=>
   cases h
   rw[eq_of_beq e]
   exact g.1
  ·exact g.2.get x v h
theorem Du.get:∀{B:List Str},Du mg B->∀x,x∈B->mg x=none
 |[],_,x,h=>nomatch h
 |y::r,g,x,h=>by
  rcases asN.mp h with rfl|h
  ·exact g.1
  ·exact g.2.get x h
theorem aeI{qual:Str}{st:Stmt}{f:Addr}{N ps ml B:List Str}{G:List (Str×GV)}{Ms:Hs}(S:FnScope N ps (defScope st))(g:Df P w K mg base aj k G)(b:Du mg B)(hh:Uo P w K mg base aj k Ms)
  (cdv:Value) (A:Around) (outer:List PySem.Env) (s:Shared) (H:Hp) (E:XK) (hr:Room k (A.deeper (envOfC qual (defScope st) s.heap.objs.size f cdv))) :
  u6 aj ⟨N,defScope st,G,B,Ms,ml,true⟩ (cxOf (L2.CX P w) P w K mg base N qual (defScope st) f cdv A outer s H E) (afZ E) k where
 hN:=rfl
 hs:=rfl
 calm:=rfl
 nd:=S.nd
 tk:=takes_of rfl rfl rfl rfl
 rm:=hr
 gl:=g.get
 bl:=b.get
 fn:=fun _ _=>rfl
 hk:=hh
 ps:=passes_of rfl
 st:=rfl
 fr:=rfl
 kf:=S.kind
theorem Z9{x qual:Str}{st:Stmt}{f:Addr}{fd:FuncData}{N ps ml B:List Str}{G:List (Str×GV)}{Ms:Hs}{body:SF}(F:Fun K x qual st f fd)(S:FnScope N ps (defScope st))(g:Df P w K mg base aj k G)(b:Du mg B)(hh:Uo P w K mg base aj k Ms)
  (h:rd ⟨N,defScope st,G,B,Ms,ml,true⟩ (defBody st)=some body):FnOk P w K mg base (L2.CX P w) (k+1) f fd ps (V1 K aj ps.length (mQ N.length body)):=
 aoM F S fun cdv A outer s H E hr=>(M8 (zJ 40) true 60).ob (aeI S g b hh cdv A outer s H E hr) h
theorem S9{x qual:Str}{st:Stmt}{f:Addr}{fd:FuncData}{N ps ml B:List Str}{G:List (Str×GV)}{Ms:Hs}{body:SF}(F:Fun K x qual st f fd)(S:FnScope N ps (defScope st))(g:Df P w K mg base aj k G)(b:Du mg B)(hh:Uo P w K mg base aj k Ms)
  (h:rdG ⟨N,defScope st,G,B,Ms,ml,true⟩ (defBody st)=some body):FnOk P w K mg base (L2.CX P w) (k+1) f fd ps (JV K aj ps.length (mG N.length body)):=
 aoo F S fun cdv A outer s H E hr=>(M8 (zJ 40) false 60).ob (aeI S g b hh cdv A outer s H E hr) h
theorem alT{f:Addr}{fd:FuncData}{ps:List Str}{j:Nat}:FnOk P w K mg base (L2.CX P w) j f fd ps (V1 K aj ps.length fun _ _=>.bad):=
 ⟨fun vs H Q E h=>h.1,fun A outer s H args us vs Q E _ _ _ _ h=>by
  obtain⟨_,g,M,ds,_,_,_,z⟩:=h
  exact False.elim z⟩
theorem ags{x:Str}{f:Addr}{fd:FuncData}{ps:List Str}{j:Nat}{m:Mo->List Dat->Out Dat}(hj:j<=k)(hg:mg x=some (.ref f))(hk:PySem.W.keepIn K (.ref f)=true)(hB:Binds K fd ps [])(F:FnOk P w K mg base (L2.CX P w) j f fd ps (V1 K aj ps.length m)):aZ P w K mg base aj k x (.fq ps.length m):=
 ⟨f,hg,hk,fd,ps,j,hj,rfl,hB,F⟩
theorem LK{x:Str}{i:Int}{t:Tok}(h:mg x=some (.int i t)):aZ P w K mg base aj k x (.con (.int i)):=⟨.int i,_,h,⟨t,rfl⟩,fun _ _=>.int i⟩
theorem Wd{g:Gh}{H:Hp}:∀{vs:List V} {ds:List Dat},(vs.zip ds).all (fun p=>match p with
  |(.int i,.int j)=>decide (i=j)
  |(.str x,.str y)=>decide (x=y)
  |_=>false)=true->vs.length=ds.length->aK K g H vs ds
 |[],[],_,_=>.nil
 |[],_::_,_,h=>nomatch h
 |_::_,[],_,h=>nomatch h
 |v::vs,d::ds,h,hl=>by
  rw[atz,ate,asu]at h
  refine .cons ?_ (Wd h.2 (ato hl))
  have h1:=h.1
  split at h1
  ·next e=>cases e;cases of_decide_eq_true h1;exact .int _
  ·next e=>cases e;cases of_decide_eq_true h1;exact .str _
  ·cases h1
theorem aeV{x:Str}{a:Addr}{vs:List V}{ds:List Dat}(h:mg x=some (.ref a))(q:∀H:Hp,SqT K H a vs)(hf:(vs.zip ds).all (fun p=>match p with
  |(.int i,.int j)=>decide (i=j)
  |(.str x,.str y)=>decide (x=y)
  |_=>false)=true) (hl:vs.length=ds.length):aZ P w K mg base aj k x (.con (.tuple ds)):=⟨.ref a,_,h,rfl,fun _ H=>.tup (q H) (Wd hf hl)⟩
end
open PySem PySem.Spec PyProof.Rows L2
section
variable{fa:List He.Fa}{fn:List He.DefD}{tb:List He.Tab}{ex:asr->Bool}{w:World}{K:asr}
theorem Nu.o7(c:Nu fa fn tb ex w K)(i:Nat){f:He.Fa}(h:fa[i]?=some f:=by rfl):f.ok K=true:=c.t.d.fact i h
theorem Nu.WD(c:Nu fa fn tb ex w K)(i:Nat){d:He.DefD}(h:fn[i]?=some d:=by rfl):∃fd,FunD K d.name d.qual d.params d.body d.scope (d.dvs K) (d.kws K) (He.fAd K d.at_) fd:=c.t.d.def_ i h
theorem Fv{x qual:Str}{st:Stmt}{f:Addr}{fd:FuncData}(F:FunD K x qual (defArgs st) (defBody st) (defScope st) [] [] f fd):L2.Fun K x qual st f fd:=by
 obtain⟨oc,od,dV,kV,doc,pm,an,cdv,ct,osl,e,l,c,hd,_⟩:=F.ex
 rcases hd with⟨_,z⟩|⟨z,_⟩
 ·cases z
  exact⟨⟨oc,od,kV,doc,pm,an,cdv,ct,osl,e,l,c⟩,F.kp⟩
 ·exact absurd rfl z
end
def g0:Gh:=⟨[],fun _=>none,fun _=>False,fun _=>False⟩
theorem akO(a:Addr):¬g0.A a:=fun z=>by
 rcases z with(z|z)|z|z
 ·cases z
 ·exact z rfl
 ·exact z
 ·exact z
theorem amQ{H:Hp}:Kd g0 H:=⟨fun a z=>absurd z (akO a),fun a z=>False.elim z,fun a z=>False.elim z⟩
theorem alz{K:asr}{aj:aU}{H:Hp}(nc:aj ""=none):fZ K aj g0 H []:=⟨rfl,fun h k a e=>(by cases h <;> cases e),fun h a i e=>(by cases h <;> cases e),fun h i e=>(by cases h <;> cases e),fun h i e=>(by cases h <;> cases e),fun h a i e=>(by cases h <;> cases e),fun h i e=>(by cases h <;> cases e),nc⟩
theorem Wy{K:asr}{g:Gh}{H:Hp}:∀ns:List Int,aK K g H (ns.map V.int) (ns.map PyData.int)
 |[]=>.nil
 |n::ns=>.cons (.int n) (Wy ns)
theorem ala{K:asr}{H:Hp}{a:Addr}{ns:List Int}(hS:SqL K H a (ns.map V.int)):aK K g0 H [.ref a] [.list (ns.map PyData.int)]:=by
 refine .cons (.lst ?_ (Wy ns)) .nil
 rcases hS with h|h
 ·exact .inl ⟨h,akO a⟩
 ·exact .inr h
theorem amu{K:asr}{aj:aU}(nc:aj ""=none){m:Mo->List Dat->bx Dat}{H:Hp}{a:Addr}{ns:List Int}{M:Mo}(hS:SqL K H a (ns.map V.int))(h:m [] [.list (ns.map PyData.int)]=.ok (.bool true) M):JV K aj 1 m [.ref a] H (fun v _=>v=.bl true) fun _ _ _=>False:=
 ⟨rfl,g0,[],[.list (ns.map PyData.int)],amQ,alz nc,ala hS,by
  rw[h]
  exact fun v H' g' _ _ _ r=>by cases r;rfl⟩
section
variable{K:asr}{h:Heap}{mg:Str->Option Value}{w:World}
def oW(w:World)(K:asr)(xs:List Str)(ft:Ft):aU:=⟨fun x=>match xs.contains x with
 |true=>some (He.ga K x)
 |false=>none,fun c=>(ft.lookup c).getD [],w⟩
theorem QX{xs:List Str}{ft:Ft}{x:Str}{C:Addr}(e:oW w K xs ft x=some C):C=He.ga K x:=by
 have e:(match xs.contains x with
  |true=>some (He.ga K x)
  |false=>none)=some C:=e
 split at e
 ·exact(asW e).symm
 ·cases e
theorem Dd{xs:List Str}{ft:Ft}{x:Str}(e:xs.contains x=true):oW w K xs ft x=some (He.ga K x):=by
 show(match xs.contains x with
  |true=>some (He.ga K x)
  |false=>none)=_
 rw[e]
theorem aaE{ft:Ft}(hb:Lj K ft=true){c:Str}{fs:List Str}(hl:ft.lookup c=some fs):Cls K (He.ga K c)/\∀f∈fs,NoAttr K (He.ga K c) f:=by
 obtain⟨h1,h2⟩:=He.ba (asV.mp hb _ (qm hl))
 exact⟨He.cls_ok h1,fun f hf=>He.noat_ok (asV.mp h2 f hf)⟩
theorem aex{xs:List Str}{ft:Ft}(hb:Lj K ft=true):jH K (oW w K xs ft):=fun c C f e hf=>by
 have e:=QX e
 subst e
 have hf:f∈(ft.lookup c).getD []:=hf
 cases hl:ft.lookup c with
 |none=>rw[hl]at hf;cases hf
 |some fs=>
  rw[hl]at hf
  obtain⟨h1,h2⟩:=aaE hb hl
  exact⟨h1,h2 f hf⟩
theorem afO{xs:List Str}{ft:Ft}:KR ft (oW w K xs ft):=fun c f e=>by
 unfold Ft.has at e
 show f∈(ft.lookup c).getD []
 split at e
 ·next fs hl=>
  rw[hl]
  simpa using e
 ·cases e
def xmN(xs:List Str)(xm:List (Str×List (Str×Bool))):Bool:=xm.all fun p=>xs.contains p.1
theorem amy{xs:List Str}{ft:Ft}{xm:List (Str×List (Str×Bool))}(hb:xmB K xm=true)(hn:xmN xs xm=true)(y:Str)(tab:List (Str×Bool))(hl:xm.lookup y=some tab):(∃D,oW w K xs ft y=some D)/\acK K (oW w K xs ft) y fun x=>tab.lookup x:=by
 refine⟨⟨_,Dd (asV.mp hn _ (qm hl))⟩,fun x b C e1 e2 D e3=>?_⟩
 rw[QX e2,QX e3]
 exact He.exm_ok (asV.mp (asV.mp hb _ (qm hl)) _ (qm e1))
theorem ajd{C:Addr}(hb:ajN K C=true):OexC K C:=by
 obtain⟨h1,h2⟩:=He.ba hb
 obtain⟨h2,h3⟩:=He.ba h2
 obtain⟨h3,h4⟩:=He.ba h3
 obtain⟨h4,h5⟩:=He.ba h4
 refine⟨?_,He.eqO_ok h2,of_decide_eq_true h3,of_decide_eq_true h4,h5⟩
 split at h1
 ·next t dd cd sl hl=>
  obtain⟨t1,h1⟩:=He.ba h1
  split at h1
  ·next C' bm k0 k1 k2 k3 n k5 e1 e2=>
   obtain⟨a1,h1⟩:=He.ba h1
   obtain⟨a2,h1⟩:=He.ba h1
   obtain⟨a3,h1⟩:=He.ba h1
   obtain⟨a4,a5⟩:=He.ba h1
   have q1:=of_decide_eq_true t1
   have q2:=of_decide_eq_true a1
   have q3:=of_decide_eq_true a2
   have q4:cd.hasDel=false:=by simpa using a3
   have q5:sl=#[k0,k1,k2,k3,some (.builtin n),k5]:=by
    rw[←Array.toList_inj]
    exact e2
   obtain⟨nm,bs,mro,ns,qn,hd,sn,sub,ab,col,hdel⟩:=cd
   have e1:mro=.ref C'::bm:=e1
   have q4:hdel=false:=q4
   have a4:hd=true:=a4
   subst q1 q2 q3 q4 q5 e1 a4
   exact⟨nm,qn,ns,bs,bm,sn,sub,ab,col,dd,k0,k1,k2,k3,k5,hl,a5⟩
  ·cases h1
 ·cases h1
theorem Ue{x:Str}{fs:List Str}(hb:UJ K x fs=true):OexC K (He.ga K x)/\PySem.W.findIn K (.ref (He.ga K x)) "__init__"=some (some (.ref (He.ma K (He.ga K x) "__init__")))/\PySem.W.typeIn K (.ref (He.ma K (He.ga K x) "__init__"))=some (.type "function")/\XfC K (He.ga K x)/\∀f∈fs,PySem.W.findIn K (.ref (He.ga K x)) f=some none:=by
 obtain⟨h1,h2⟩:=He.ba hb
 obtain⟨h2,h3⟩:=He.ba h2
 obtain⟨h3,h4⟩:=He.ba h3
 obtain⟨h4,h5⟩:=He.ba h4
 exact⟨ajd h1,He.eqO_ok h2,of_decide_eq_true h3,xfB_ok h4,fun f hf=>He.eqO_ok (asV.mp h5 f hf)⟩
theorem agz{a:Addr}{xs:List Str}(hb:Ye K a xs=true)(H:Hp):SqT K H a (xs.map V.str):=by
 unfold Ye at hb
 split at hb
 ·next c d its n sl hl=>
  obtain⟨h1,h2⟩:=He.ba hb
  obtain⟨h3,h4⟩:=He.ba h2
  have q1:=of_decide_eq_true h1
  subst q1
  exact .inr ⟨_,its,n,hl,rfl,rfl,of_decide_eq_true h3,He.relAll_ok h4⟩
 ·cases hb
def zQ(kvs:List (Str×List Str)):List (Str×Dat):=kvs.map fun q=>(q.1,.tuple (q.2.map PyData.str))
theorem W0{g:Gh}{H:Hp}:∀xs:List Str,aK K g H (xs.map V.str) (xs.map PyData.str)
 |[]=>.nil
 |x::xs=>.cons (.str x) (W0 xs)
theorem RW{y:Str}:∀{kvs:List (Str×List Str)},(zQ kvs).lookup y=(kvs.lookup y).map fun xs=>PyData.tuple (xs.map PyData.str)
 |[]=>rfl
 |(z,xs)::r=>by
  show List.lookup y ((z,PyData.tuple (xs.map PyData.str))::zQ r)=_
  rw[as6,as6]
  split
  ·rfl
  ·exact RW
theorem look_none{α:Type}{y:Str}:∀{kvs:List (Str×α)},kvs.lookup y=none->y∉kvs.map (·.1)
 |[],_=>by simp
 |(z,a)::r,h=>by
  rw[as6]at h
  split at h
  ·cases h
  ·next hn=>
   rw[asx,asN]
   rintro(e|e)
   ·subst e
    simp at hn
   ·exact look_none h e
theorem ahE{x:Str}{kvs:List (Str×List Str)}(hb:agw K x kvs=true)(hk:∃es n,KDict K w (He.ga K x) es n):ac5 w K (He.ga K x) (zQ kvs):=by
 obtain⟨h1,h2⟩:=He.ba hb
 obtain⟨h2,h3⟩:=He.ba h2
 obtain⟨es,n,D⟩:=hk
 rw[D.at_]at h1
 refine⟨es,n,D,?_,fun y=>?_⟩
 ·unfold zQ
  rw[as8]
  exact of_decide_eq_true h2
 ·rw[RW]
  cases hl:kvs.lookup y with
  |some xs=>
   have h4:=asV.mp h3 _ (qm hl)
   show ∃v u,PySem.W.nsIn K (He.ga K x) y=some (some u)/\RelV v u/\∀g H,Rep K g H v (.tuple (xs.map PyData.str))
   have h4:(match PySem.W.nsIn K (He.ga K x) y with
    |some (some (.ref a))=>Ye K a xs
    |_=>false)=true:=h4
   split at h4
   ·next a he=>exact⟨.ref a,.ref a,he,rfl,fun g H=>.tup (agz h4 H) (W0 xs)⟩
   ·cases h4
  |none=>
   show PySem.W.nsIn K (He.ga K x) y=some none
   have ny:=look_none hl
   unfold PySem.W.nsIn
   rw[D.at_]
   have h1:es.toList.all (fun e=>(match e.key with
    |.str y _=>(kvs.map (·.1)).contains y
    |_=>false)&&!e.refKey)=true:=h1
   have f1:es.toList.find? (·.key.isStr y)=none:=by
    rw[List.find?_eq_none]
    intro e he z
    obtain⟨a1,a2⟩:=He.ba (asV.mp h1 e he)
    split at a1
    ·next y' tk hy=>
     rw[hy]at z
     have z:(y'==y)=true:=z
     have e':=eq_of_beq z
     subst e'
     exact ny (by simpa using a1)
    ·cases a1
   have f2:es.toList.any (·.refKey)=false:=by
    rw[List.any_eq_false]
    intro e he z
    obtain⟨a1,a2⟩:=He.ba (asV.mp h1 e he)
    rw[z]at a2
    cases a2
   show(match es.toList.find? (·.key.isStr y) with
    |some e=>some (some e.val)
    |none=>if es.toList.any (·.refKey) then none else some none)=some none
   rw[f1,f2]
   rfl
end
section
variable{P:Program}{w:World}{K:asr}{mg:Str->Option Value}{base:Heap}{k:Nat}{xs:List Str}{ft:Ft}
def Yc(P:Program)(w:World)(K:asr)(mg:Str->Option Value)(base:Heap)(aj:aU)(k:Nat)(m:Str):List (Str×MV)->Prop
 |[]=>True
 |(c,v)::r=>bY P w K mg base aj k c m v/\Yc P w K mg base aj k m r
def Fx(P:Program)(w:World)(K:asr)(mg:Str->Option Value)(base:Heap)(aj:aU)(k:Nat):List (Str×List (Str×MV))->Prop
 |[]=>True
 |(m,tb)::r=>Yc P w K mg base aj k m tb/\Fx P w K mg base aj k r
theorem Yc.get{aj:aU}{m:Str}:∀{tb:List (Str×MV)},Yc P w K mg base aj k m tb->∀c v,tb.lookup c=some v->bY P w K mg base aj k c m v
 |[],_,c,v,h=>nomatch h
 |(y,u)::r,g,c,v,h=>by
  rw[as6]at h
  split at h
  ·next e=>
   cases h
   rw[eq_of_beq e]
   exact g.1
  ·exact g.2.get c v h
theorem Fx.get{aj:aU}:∀{Ms:List (Str×List (Str×MV))},Fx P w K mg base aj k Ms->∀m tb,Ms.lookup m=some tb->∀c v,tb.lookup c=some v->bY P w K mg base aj k c m v
 |[],_,m,tb,h=>nomatch h
 |(y,u)::r,g,m,tb,h=>by
  rw[as6]at h
  split at h
  ·next e=>
   cases h
   rw[eq_of_beq e]
   exact g.1.get
  ·exact g.2.get m tb h
theorem anT{aj:aU}{x:Str}{f:Addr}{fd:FuncData}{ps:List Str}{j:Nat}{m:Mo->List Dat->bx Dat}(hj:j<=k)(hg:mg x=some (.ref f))(hk:PySem.W.keepIn K (.ref f)=true)(hB:Binds K fd ps [])(F:FnOk P w K mg base (L2.CX P w) j f fd ps (JV K aj ps.length m)):aZ P w K mg base aj k x (.fg ps.length m):=
 ⟨f,hg,hk,fd,ps,j,hj,rfl,hB,F⟩
theorem iV{x:Str}(hn:xs.contains x=true)(hg:mg x=some (.ref (He.ga K x)))(he:(He.Fa.exc x).ok K=true):aZ P w K mg base (oW w K xs ft) k x .exc:=by
 obtain⟨h1,h2,h3,h4⟩:=He.exc_ok he
 exact⟨_,hg,Dd hn,h1,h2,h3,h4⟩
theorem akN{x:Str}{fd:FuncData}{ps:List Str}{j n:Nat}{m:Mo->List Dat->bx Dat}(hj:j+1<=k)(hn:xs.contains x=true)(hg:mg x=some (.ref (He.ga K x)))(hc:Cls K (He.ga K x))(hm:(He.Fa.mkr x).ok K=true)(hp:ps.length=n+1)(hB:Binds K fd ps [])
  (F:FnOk P w K mg base (L2.CX P w) j (He.ma K (He.ga K x) "__init__") fd ps (JV K (oW w K xs ft) ps.length m)):aZ P w K mg base (oW w K xs ft) k x (.cls n m):=
 ⟨_,_,fd,ps,j,hg,Dd hn,hc,He.mkr_ok hm,hj,hp,hB,F⟩
theorem ak3{aj:aU}{x:Str}{kvs:List (Str×List Str)}(hg:mg x=some (.ref (He.ga K x)))(hb:agw K x kvs=true)(hk:∃es n,KDict K w (He.ga K x) es n):aZ P w K mg base aj k x (.dic (zQ kvs)):=⟨_,hg,ahE hb hk⟩
theorem ajC{x:Str}{fs:List Str}{fd:FuncData}{ps:List Str}(h2:2<=k)(hn:xs.contains x=true)(hg:mg x=some (.ref (He.ga K x)))(ho:UJ K x fs=true)(hp:ps.length=fs.length+1)(hB:Binds K fd ps [])(F:FnOk P w K mg base CX0 1 (He.ma K (He.ga K x) "__init__") fd ps (af6 (He.ga K x) fs)):aZ P w K mg base (oW w K xs ft) k x (.exi fs):=by
 obtain⟨h1,h3,h4,_,_⟩:=Ue ho
 exact⟨_,_,fd,ps,hg,Dd hn,h1,h3,h4,h2,hp,hB,F⟩
theorem ahp{m:Str}{l:List Str}(hf:l.contains m=false)(z:m∈l):False:=by
 rw[List.contains_iff_mem.mpr z]at hf
 cases hf
theorem aoh{c m:Str}{fd:FuncData}{ps:List Str}{j:Nat}{mm:Mo->List Dat->Out Dat}(hj:j<=k)(hn:xs.contains c=true)(hc:Cls K (He.ga K c))(hm:(He.Fa.meth c m).ok K=true)(hf:((ft.lookup c).getD []).contains m=false)(hB:Binds K fd ps [])(F:FnOk P w K mg base (L2.CX P w) j (He.ma K (He.ga K c) m) fd ps (V1 K (oW w K xs ft) ps.length mm)):bY P w K mg base (oW w K xs ft) k c m (.q ps.length mm):=
 ⟨_,_,Dd hn,hc,He.meth_ok hm,(fun z=>ahp hf z),fd,ps,j,hj,rfl,hB,F⟩
theorem aoq{c m:Str}{fd:FuncData}{ps:List Str}{j:Nat}{mm:Mo->List Dat->bx Dat}(hj:j<=k)(hn:xs.contains c=true)(hc:Cls K (He.ga K c))(hm:(He.Fa.meth c m).ok K=true)(hf:((ft.lookup c).getD []).contains m=false)(hB:Binds K fd ps [])(F:FnOk P w K mg base (L2.CX P w) j (He.ma K (He.ga K c) m) fd ps (JV K (oW w K xs ft) ps.length mm)):bY P w K mg base (oW w K xs ft) k c m (.g ps.length mm):=
 ⟨_,_,Dd hn,hc,He.meth_ok hm,(fun z=>ahp hf z),fd,ps,j,hj,rfl,hB,F⟩
theorem am1{Ms:List (Str×List (Str×MV))}{xm:List (Str×List (Str×Bool))}{df:List (Str×Bool)}{xf:List (Str×List Str)}(hm:Fx P w K mg base (oW w K xs ft) k Ms)(hb:Lj K ft=true)(hx:xmB K xm=true)(hn:xmN xs xm=true)(hf:(xf.all fun p=>xs.contains p.1&&UJ K p.1 p.2)=true):Uo P w K mg base (oW w K xs ft) k ⟨Ms,ft,xm,df,xf⟩ where
 ms:=hm.get
 fk:=afO
 co:=aex hb
 hw:=rfl
 xm:=amy hx hn
 xf:=fun y fs hl=>by
  obtain⟨h1,h2⟩:=He.ba (asV.mp hf _ (qm hl))
  obtain⟨_,_,_,h3,h4⟩:=Ue h2
  exact⟨_,Dd h1,h3,h4⟩
end
abbrev lI(l:List Int):Dat:=.list (l.map PyData.int)
abbrev aJ(l:List Int):Dat:=.tuple (l.map PyData.int)
theorem gK{tg:fV}{body:SF}{d:Dat}{ds:List Dat}{M M2:Mo}{ρ ρ1 ρ2:Env}(h1:tg d ρ=some ρ1)(h2:body M ρ1=.next ρ2 M2):eZ tg body (d::ds) M ρ=eZ tg body ds M2 ρ2:=by
 rw[eZ,h1]
 show(match body M ρ1 with
   |.next ρ2 M2=>eZ tg body ds M2 ρ2
   |.cont ρ2 M2=>eZ tg body ds M2 ρ2
   |.brk ρ2 M2=>.next ρ2 M2
   |.ret d M2=>.ret d M2
   |.exc x ρ2 M2=>.exc x ρ2 M2
   |.bad=>.bad)=_
 rw[h2]
theorem fU{α:Type}{tg:fV}{tt:QT}{te:QF}{M:Mo}{ρ:Env}(ds:α->Dat)(p:α->Bool)(f:α->Dat):∀(xs:List α),(∀x∈xs,∃ρ1,tg (ds x) ρ=some ρ1/\tt M ρ1=.ok (p x)/\(p x=true->te M ρ1=.ok (f x)))->dH tg tt te M ρ (xs.map ds)=.ok ((xs.filter p).map f)
 |[],_=>rfl
 |x::xs,h=>by
  obtain⟨ρ1,h1,h2,h3⟩:=h x asz
  have ih:=fU ds p f xs fun y hy=>h y (asy _ hy)
  rw[asx,dH,h1]
  show((yF (tt M ρ1)).bind fun b=>if b=true then(yF (te M ρ1)).bind fun y=>(dH tg tt te M ρ (xs.map ds)).bind fun r=>.ok (y::r) else dH tg tt te M ρ (xs.map ds))=_
  rw[h2,ih]
  cases hp:p x with
  |true=>
   show(if true=true then(yF (te M ρ1)).bind fun y=>(Out.ok ((xs.filter p).map f)).bind fun r=>.ok (y::r) else Out.ok ((xs.filter p).map f))=_
   rw[h3 hp,if_pos rfl,List.filter_cons_of_pos hp]
   rfl
  |false=>
   show(if false=true then(yF (te M ρ1)).bind fun y=>(Out.ok ((xs.filter p).map f)).bind fun r=>.ok (y::r) else Out.ok ((xs.filter p).map f))=_
   rw[if_neg (by decide),List.filter_cons_of_neg (by rw[hp];decide)]
theorem fj{α:Type}{tg:fV}{te:QF}{M:Mo}{ρ:Env}(ds:α->Dat)(f:α->Dat)(xs:List α)(h:∀x∈xs,∃ρ1,tg (ds x) ρ=some ρ1/\te M ρ1=.ok (f x)):dH tg iy te M ρ (xs.map ds)=.ok (xs.map f):=by
 have:=fU (tt:=iy) ds (fun _=>true) f xs fun x hx=>by
  obtain⟨ρ1,h1,h2⟩:=h x hx
  exact⟨ρ1,h1,rfl,fun _=>h2⟩
 rw[this,atM.mpr (fun _ _=>rfl)]
theorem ahi{i j:Int}(h : -(2 ^ 64) < i/\i < 2 ^ 64):decide (CMul i j)=true:=decide_eq_true (.inl h)
theorem mul_r{i j:Int}(h : -(2 ^ 64) < j/\j < 2 ^ 64):decide (CMul i j)=true:=decide_eq_true (.inr h)
section
variable(M:Mo)(ρ:Env)
@[simp]theorem ajQ (f k:SF):aC f k M ρ=match f M ρ with
 |.next ρ' M'=>k M' ρ'
 |o=>o:=rfl
@[simp]theorem aoY:aP M ρ=.next ρ M:=rfl
@[simp]theorem ap1 (tg:fV) (f:GF):aV tg f M ρ=(f M ρ).then ρ fun d M'=>match tg d ρ with
 |some ρ'=>.next ρ' M'
 |none=>.bad:=rfl
@[simp]theorem apE (i j:Nat) (f:GF):Ro i j f M ρ=(f M ρ).then ρ fun d M'=>.next ((ρ.set i (some (.dat d))).set j (some (.dat d))) M':=rfl
@[simp]theorem ev_if (t:QT) (f k:SF):bO t f k M ρ=((t M (rN ρ)).at M).then ρ fun c M'=>if c=true then f M' ρ else k M' ρ:=rfl
@[simp]theorem aql (f:QF):aO f M ρ=((f M (rN ρ)).at M).then ρ fun d M'=>.ret d M':=rfl
@[simp]theorem aqq (it:IF) (tg:fV) (body:SF):pZ it tg body M ρ=((it M ρ).at M).then ρ fun ds M'=>eZ tg body ds M' ρ:=rfl
@[simp]theorem apU (j:Nat) (f:IF):Bh j f M ρ=((f M ρ).at M).then ρ fun xs M'=>.next (ρ.set j (some (.mut xs))) M':=rfl
@[simp]theorem apc (f:GF):cJ f M ρ=(f M ρ).then ρ fun _ M'=>.next ρ M':=rfl
@[simp]theorem aqh (j:Nat) (f:QF):Gg j f M ρ=match ρ[j]? with
 |some (some (.mut xs))=>((f M ρ).at M).then ρ fun d M'=>if xs.length < 100000 then .next (ρ.set j (some (.mut (xs++[d])))) M' else .bad
 |_=>.bad:=rfl
@[simp]theorem apG (j:Nat) (fi f:QF):ame j fi f M ρ=match ρ[j]? with
 |some (some (.mut xs))=>((f M ρ).at M).then ρ fun d M'=>((fi M' ρ).at M').then ρ fun i M2=>match i with
  |.int k=>match ixN xs.length k with
   |some n=>.next (ρ.set j (some (.mut (xs.set n d)))) M2
   |none=>.bad
  |_=>.bad
 |_=>.bad:=rfl
@[simp]theorem aq2 (j:Nat) (f:QF):Qt j f M ρ=match ρ[j]? with
 |some (some (.dat (.int i)))=>((f M ρ).at M).then ρ fun d M'=>match d with
  |.int k=>.next (ρ.set j (some (.dat (.int (i+k))))) M'
  |_=>.bad
 |_=>.bad:=rfl
@[simp]theorem apk (i j:Nat) (f:GF):Yh i j f M ρ=(f M ρ).then ρ fun d M'=>match d with
 |.list (d0::ds)=>if ds.length<=16000 then .next ((ρ.set i (some (.dat d0))).set j (some (.dat (.list ds)))) M' else .bad
 |.tuple (d0::ds)=>if ds.length<=16000 then .next ((ρ.set i (some (.dat d0))).set j (some (.dat (.list ds)))) M' else .bad
 |_=>.bad:=rfl
@[simp]theorem asi (js:List Nat) (as:QA):sPN js as M ρ=((as M ρ).at M).then ρ fun ds M'=>match rB js ds ρ with
 |some ρ'=>.next ρ' M'
 |none=>.bad:=rfl
@[simp]theorem aq8 (f:QF):gOf f M ρ=(f M ρ).at M:=rfl
@[simp]theorem ev_op (o:Dat->Dat->Out Dat) (a b:QF):aA o a b M ρ=(a M ρ).bind fun x=>(b M ρ).bind fun y=>o x y:=rfl
@[simp]theorem ev_un (o:Dat->Out Dat) (a:QF):dZ o a M ρ=(a M ρ).bind o:=rfl
@[simp]theorem ev_c (d:Dat):qC d M ρ=.ok d:=rfl
@[simp]theorem ev_var (i:Nat):aq i M ρ=match ρ[i]? with
 |some (some (.dat d))=>.ok d
 |_=>.bad:=rfl
@[simp]theorem apC (i:Nat):ao i M ρ=match ρ[i]? with
 |some (some (.dat d))=>.ok d
 |some (some (.mut xs))=>.ok (.list xs)
 |_=>.bad:=rfl
@[simp]theorem arJ:au M ρ=.ok []:=rfl
@[simp]theorem apD (a:QF) (r:QA):ak a r M ρ=(a M ρ).bind fun x=>(r M ρ).bind fun xs=>.ok (x::xs):=rfl
@[simp]theorem aqn (r:QA):bh r M ρ=(r M ρ).bind fun xs=>Out.when (decide (xs.length<=100000)) (.ok (.tuple xs)):=rfl
@[simp]theorem aqJ (r:QA):xO r M ρ=(r M ρ).bind fun xs=>Out.when (decide (xs.length<=100000)) (.ok (.list xs)):=rfl
@[simp]theorem aqW (a:QF):iw a M ρ=(a M ρ).bind JD:=rfl
@[simp]theorem asj (a:QF):aY a M ρ=(a M ρ).bind BJ:=rfl
@[simp]theorem aoR (a:QT):jT a M ρ=(a M ρ).bind fun b=>.ok (!b):=rfl
@[simp]theorem apz (a b:QT):gG a b M ρ=(a M ρ).bind fun x=>if x=true then b M ρ else .ok false:=rfl
@[simp]theorem aqs (a b:QT):FW a b M ρ=(a M ρ).bind fun x=>if x=true then .ok true else b M ρ:=rfl
@[simp]theorem arZ (a:QT):RP a M ρ=(a M ρ).bind fun b=>.ok (.bool b):=rfl
@[simp]theorem aqD (t:QT) (a b:QF):Sy t a b M ρ=(t M ρ).bind fun x=>if x=true then a M ρ else b M ρ:=rfl
@[simp]theorem ev_is (neg:Bool) (c:Dat) (a:QF):tO neg c a M ρ=(a M ρ).bind fun d=>.ok (.bool (neg ^^ gR c d)):=rfl
@[simp]theorem ev_notV (a:QF):TV a M ρ=((a M ρ).bind BJ).bind fun b=>.ok (.bool (!b)):=by
 show(((a M ρ).bind BJ).bind fun b=>Out.ok (!b)).bind (fun b=>Out.ok (PyData.bool b))=_
 cases a M ρ with
 |ok d=>cases h:BJ d <;> simp[Out.bind,h]
 |exc x=>rfl
 |bad=>rfl
@[simp]theorem ev_andV (a b:QF):yq a b M ρ=(a M ρ).bind fun d=>(BJ d).bind fun x=>if x=true then b M ρ else .ok (.bool false):=rfl
@[simp]theorem ev_orV (a b:QF):afE a b M ρ=(a M ρ).bind fun d=>(BJ d).bind fun x=>if x=true then .ok (.bool true) else b M ρ:=rfl
@[simp]theorem an5 (o o':Dat->Dat->Out Dat) (a b c:QF):jW o o' a b c M ρ=(a M ρ).bind fun x=>(b M ρ).bind fun y=>(o x y).bind fun z=>(BJ z).bind fun k=>if k=true then(c M ρ).bind fun w=>(o' y w).bind BJ else .ok false:=rfl
@[simp]theorem arB (t:Om) (a:QF):wV t a M ρ=(a M ρ).bind (yV t):=rfl
@[simp]theorem arR (a:QF) (lo hi:QO):Ka a lo hi M ρ=(a M ρ).bind fun d=>(lo M ρ).bind fun l=>(hi M ρ).bind fun h=>slD d l h:=rfl
@[simp]theorem arP:vJ M ρ=.ok none:=rfl
@[simp]theorem arS (a:QF):oO a M ρ=(a M ρ).bind fun d=>(Bx d).bind fun i=>.ok (some i):=rfl
@[simp]theorem ev_call (m:Mo->List Dat->Out Dat) (as:QA):aR m as M ρ=(as M ρ).bind fun ds=>m M ds:=rfl
@[simp]theorem aov (a:QF):cV a M ρ=(a M ρ).bind oK:=rfl
@[simp]theorem anx (a:QF):Cz a M ρ=(a M ρ).bind fun d=>(Bx d).bind fun n=>Out.when (decide (n<=100000/\-100000<=n)) (.ok (jx 0 n.toNat)):=rfl
@[simp]theorem apB (k₀:Int) (a:QF):xZ k₀ a M ρ=(a M ρ).bind fun d=>(oK d).bind fun ds=>.ok (o9 k₀ ds):=rfl
@[simp]theorem arO (a b:QF):Gk a b M ρ=(a M ρ).bind fun d=>(b M ρ).bind fun e=>(oK d).bind fun ds=>(oK e).bind fun es=>.ok (wY ds es):=rfl
@[simp]theorem apm (it:IF) (tg:fV) (vs:List Nat) (tt:QT) (te:QF):eO it tg vs tt te M ρ=(it M ρ).bind fun ds=>Out.when (decide (ds.length<=50000)) ((dH tg tt te M (cC ρ vs) ds).bind fun r=>.ok (.list r)):=rfl
@[simp]theorem aom (it:IF) (tg:fV) (vs:List Nat) (tt:QT) (te:QF):Bc it tg vs tt te M ρ=(it M ρ).bind fun ds=>Out.when (decide (ds.length<=50000)) (dH tg tt te M (cC ρ vs) ds):=rfl
@[simp]theorem arq (f:QA):Lw f M ρ=(f M ρ).bind fun xs=>Out.when (decide (xs.length<=100000)) (.ok xs):=rfl
@[simp]theorem ama (f:QF):afK f M ρ=(f M ρ).bind Yg:=rfl
@[simp]theorem anC (j:Nat) (d:Dat):aF j d ρ=some (ρ.set j (some (.dat d))):=rfl
@[simp]theorem aoQ (js:List Nat) (ds:List Dat):bF js (.tuple ds) ρ=rB js ds ρ:=rfl
@[simp]theorem ar3 (n:Nat) (b:SF) (ds:List Dat):mQ n b M ds=match b M (ini n ds) with
 |.ret d _=>.ok d
 |.next _ _=>.ok .none
 |.exc x _ _=>.exc x
 |_=>.bad:=rfl
@[simp]theorem ar5 (n:Nat) (b:SF) (ds:List Dat):mG n b M ds=match b M (ini n ds) with
 |.ret d M'=>.ok d M'
 |.next _ M'=>.ok .none M'
 |.exc x _ M'=>.exc x M'
 |_=>.bad:=rfl
end
section
variable(i j:Int)(ds es:List Dat)(b c:Bool)(x y:Str)
@[simp]theorem apb:fu (.int i) (.int j)=.ok (.int (i+j)):=rfl
@[simp]theorem apf:fu (.list ds) (.list es)=Out.when (decide (ds.length+es.length<=100000)) (.ok (.list (ds++es))):=rfl
@[simp]theorem aph:fu (.tuple ds) (.tuple es)=Out.when (decide (ds.length+es.length<=100000)) (.ok (.tuple (ds++es))):=rfl
@[simp]theorem aru:iK (.int i) (.int j)=.ok (.int (i - j)):=rfl
@[simp]theorem aq0:xQ (.int i) (.int j)=Out.when (decide (CMul i j)) (.ok (.int (i * j))):=rfl
@[simp]theorem aq3:uf (.int i) (.int j)=Out.when (decide (CDiv i j)) (.ok (.int (i / j))):=rfl
@[simp]theorem aqd:jQ (.int i) (.int j)=Out.when (decide (0 < j)) (.ok (.int (i % j))):=rfl
@[simp]theorem aqS:Qq (.int i) (.int j)=Out.when (decide (CPow i j)) (.ok (.int (i ^ j.toNat))):=rfl
@[simp]theorem ar8:Ey (.int i) (.int j)=.ok (.bool (decide (i < j))):=rfl
@[simp]theorem arU:pH (.int i) (.int j)=.ok (.bool (decide (i<=j))):=rfl
@[simp]theorem arV:ZC (.int i) (.int j)=.ok (.bool (decide (j < i))):=rfl
@[simp]theorem asf:geD (.int i) (.int j)=.ok (.bool (decide (j<=i))):=rfl
@[simp]theorem apP:bR (.int i) (.int j)=.ok (.bool (i==j)):=rfl
@[simp]theorem aqb:bR (.str x) (.str y)=.ok (.bool (x==y)):=rfl
@[simp]theorem aq9:bR (.bool b) (.bool c)=.ok (.bool (b==c)):=rfl
@[simp]theorem aqX:tH (.int i) (.int j)=.ok (.bool (!(i==j))):=rfl
@[simp]theorem arz:tH (.str x) (.str y)=.ok (.bool (!(x==y))):=rfl
@[simp]theorem arL:QJ (.int i)=.ok (.int (-i)):=rfl
@[simp]theorem ao3:JD (.bool b)=.ok b:=rfl
@[simp]theorem apJ:JD (.list ds)=.ok (!ds.isEmpty):=rfl
@[simp]theorem aoU:JD (.tuple ds)=.ok (!ds.isEmpty):=rfl
@[simp]theorem arA:BJ (.bool b)=.ok b:=rfl
@[simp]theorem apq:mj (.list ds)=.ok (.int ds.length):=rfl
@[simp]theorem ao0:mj (.tuple ds)=.ok (.int ds.length):=rfl
@[simp]theorem aqA:Vb (.int i)=.ok (.int (if i < 0 then -i else i)):=rfl
@[simp]theorem ev_max2:oH (.int i) (.int j)=.ok (.int (if j > i then j else i)):=rfl
@[simp]theorem ao5:Ja (.int i) (.int j)=.ok (.int (if j < i then j else i)):=rfl
@[simp]theorem aqw:aH (.list ds) (.int i)=match atI ds i with
  |some d=>.ok d
  |none=>.bad:=rfl
@[simp]theorem aq1:aH (.tuple ds) (.int i)=match atI ds i with
  |some d=>.ok d
  |none=>.bad:=rfl
@[simp]theorem apr:Bx (.int i)=.ok i:=rfl
@[simp]theorem aqZ (lo hi:Option Int):slD (.list ds) lo hi=.ok (.list (cutD ds lo hi)):=rfl
@[simp]theorem ard (lo hi:Option Int):slD (.tuple ds) lo hi=.ok (.tuple (cutD ds lo hi)):=rfl
@[simp]theorem aps:lQ (.list ds)=.ok (.tuple ds):=rfl
@[simp]theorem apd:lQ (.tuple ds)=.ok (.tuple ds):=rfl
@[simp]theorem aos:N5 (.list ds)=.ok (.list ds):=rfl
@[simp]theorem aoa:N5 (.tuple ds)=.ok (.list ds):=rfl
@[simp]theorem arf:Yg (.list ds)=.ok ds:=rfl
@[simp]theorem aqB:Yg (.tuple ds)=.ok ds:=rfl
@[simp]theorem apT:oK (.list ds)=.ok ds:=rfl
@[simp]theorem arh:oK (.tuple ds)=.ok ds:=rfl
@[simp]theorem apw (o:Option Cell) (ρ:Env):rN (o::ρ)=o.map R4::rN ρ:=rfl
@[simp]theorem an3:rN []=[]:=rfl
@[simp]theorem aol (d:Dat):R4 (.dat d)=.dat d:=rfl
@[simp]theorem aoj (ds:List Dat):R4 (.mut ds)=.dat (.list ds):=rfl
@[simp]theorem apy (ρ:Env):rB [] [] ρ=some ρ:=rfl
@[simp]theorem apF (j:Nat) (js:List Nat) (d:Dat) (ρ:Env):rB (j::js) (d::ds) ρ=rB js ds (ρ.set j (some (.dat d))):=rfl
@[simp]theorem aoG (ρ:Env):cC ρ []=ρ:=rfl
@[simp]theorem an0 (ρ:Env) (j:Nat) (js:List Nat):cC ρ (j::js)=(cC ρ js).set j none:=rfl
@[simp]theorem anB {α:Type} (a:α) (l:List α):atI (a::l) 0=some a:=atI_nat (j:=0) rfl
@[simp]theorem ao4 (n:Nat):ini n ds=ds.map (fun d=>some (.dat d))++List.replicate (n - ds.length) none:=rfl
end
theorem abE{a b:String}:Str.ofString a=Str.ofString b↔a=b:=by
 constructor
 ·intro h
  rw[Str.ofString_eq_toList,Str.ofString_eq_toList]at h
  have h1:a.toList.map Char.toNat=b.toList.map Char.toNat:=by simpa using h
  have h2:a.toList=b.toList:=by
   refine List.map_inj_right (f:=Char.toNat) (fun x y e=>?_) |>.mp h1
   exact Char.ext (UInt32.toNat_inj.mp e)
  exact String.toList_inj.mp h2
 ·rintro rfl
  rfl
@[simp]theorem aqt (a b:String):(Str.ofString a=Str.ofString b)=(a=b):=propext abE
@[simp]theorem apn (a b:String):(Str.ofString a==Str.ofString b)=decide (a=b):=by
 rw[atA]
 simp[abE]
@[simp]theorem ase {α:Type} (a b:α) (l:List α):atI (a::b::l) 1=some b:=atI_nat (j:=1) rfl
@[simp]theorem arQ {α:Type} (a b c:α) (l:List α):atI (a::b::c::l) 2=some c:=atI_nat (j:=2) rfl
@[simp]theorem arW {α:Type} (a b c d:α) (l:List α):atI (a::b::c::d::l) 3=some d:=atI_nat (j:=3) rfl
@[simp]theorem arY {α:Type} (a b c d e:α) (l:List α):atI (a::b::c::d::e::l) 4=some e:=atI_nat (j:=4) rfl
@[simp]theorem ar9 {α:Type} (a b c d e f:α) (l:List α):atI (a::b::c::d::e::f::l) 5=some f:=atI_nat (j:=5) rfl
@[simp]theorem arT {α:Type} (a b c d e f g:α) (l:List α):atI (a::b::c::d::e::f::g::l) 6=some g:=atI_nat (j:=6) rfl
@[simp]theorem aoE (s:String):PyData.strOk (Str.ofString s)=true:=by
 rw[Str.ofString_eq_toList]
 unfold PyData.strOk
 simp only[Array.all_eq_true,decide_eq_true_eq]
 intro i h
 simp only[List.getElem_toArray,List.getElem_map]
 have:=s.toList[i]'(by simpa using h) |>.valid
 rcases this with z|⟨_,z⟩
 ·show(s.toList[i]'(by simpa using h)).val.toNat < _
  omega
 ·show(s.toList[i]'(by simpa using h)).val.toNat < _
  omega
section
variable(i j:Int)(x y:Str)(d e:Dat)(ds es:List Dat)(b c:Bool)
@[simp]theorem ZS:PyData.eqv (.int i) (.int j)=(i==j):=by simp[PyData.eqv]
@[simp]theorem ap9:PyData.eqv (.str x) (.str y)=(x==y):=by simp[PyData.eqv]
@[simp]theorem arD:PyData.eqv (.bool b) (.bool c)=(b==c):=by simp[PyData.eqv]
@[simp]theorem apS:PyData.eqv .none .none=true:=by simp[PyData.eqv]
@[simp]theorem aaF:PyData.eqv (.tuple ds) (.tuple es)=PyData.eqvAll ds es:=by simp[PyData.eqv]
@[simp]theorem alj:PyData.eqv (.list ds) (.list es)=PyData.eqvAll ds es:=by simp[PyData.eqv]
@[simp]theorem aqy:PyData.eqv (.tuple ds) .none=false:=by simp[PyData.eqv]
@[simp]theorem aqP:PyData.eqv .none (.tuple ds)=false:=by simp[PyData.eqv]
@[simp]theorem aqT:PyData.eqv (.str x) (.int i)=false:=by simp[PyData.eqv]
@[simp]theorem apZ:PyData.eqv (.int i) (.str x)=false:=by simp[PyData.eqv]
@[simp]theorem ahq:PyData.eqvAll [] []=true:=by simp[PyData.eqvAll]
@[simp]theorem apt:PyData.eqvAll [] (d::ds)=false:=by simp[PyData.eqvAll]
@[simp]theorem ah5:PyData.eqvAll (d::ds) []=false:=by simp[PyData.eqvAll]
@[simp]theorem abM:PyData.eqvAll (d::ds) (e::es)=(PyData.eqv d e&&PyData.eqvAll ds es):=by simp[PyData.eqvAll]
end
@[simp]theorem zP:∀l m:List Int,PyData.eqvAll (l.map PyData.int) (m.map PyData.int)=decide (l=m)
 |[],[]=>by simp
 |[],_::_=>by simp
 |_::_,[]=>by simp
 |a::l,b::m=>by
  rw[asx,asx,abM,zP l m,ZS]
  by_cases h:a=b <;> by_cases h2:l=m <;> simp[h,h2]
theorem DW{n:Nat}:∀{ds:List Dat},mY n ds=true↔∀d∈ds,okd n d=true
 |[]=>by simp[mY]
 |d::ds=>by simp[mY,DW (ds:=ds)]
@[simp]theorem ahB (n:Nat) (i:Int):okd n (.int i)=true:=by simp[okd]
@[simp]theorem V6 (n:Nat) (l:List Int):mY n (l.map PyData.int)=true:=DW.mpr fun d h=>by
 obtain⟨i,_,rfl⟩:=asJ.mp h
 simp
def ob(h:Nat):Dat:=obj h
section
variable(M:Mo)(ρ:Env)(h:Nat)(f:Str)
@[simp]theorem ao8:KH M f (ob h)=(M[h]?).bind fun i=>i.fs.lookup f:=rfl
@[simp]theorem aob (tb:List (Str×MV)):Em tb M (ob h)=(M[h]?).bind fun i=>tb.lookup i.cls:=rfl
@[simp]theorem Zd:kh M (ob h)=(M[h]?).bind fun i=>match i.cls=="" with
 |true=>none
 |false=>some (h,i):=rfl
@[simp]theorem arG (o:QF):gQ f o M ρ=(o M ρ).bind fun d=>match KH M f d with
 |some (.dat x)=>.ok x
 |_=>.bad:=rfl
@[simp]theorem aoV (o:QF):bL f o M ρ=(o M ρ).bind fun d=>match KH M f d with
 |some (.dat x)=>.ok x
 |some (.lst _ xs)=>.ok (.list xs)
 |_=>.bad:=rfl
@[simp]theorem apI (tb:List (Str×MV)) (o:QF) (as:QA):aW tb o as M ρ=(o M ρ).bind fun d=>match Em tb M d with
 |some (.q _ m)=>(as M ρ).bind fun ds=>m M (d::ds)
 |_=>.bad:=rfl
@[simp]theorem anO (tb:List (Str×MV)) (o:QF) (as:QA):cO tb o as M ρ=((o M ρ).at M).bind fun d _=>match Em tb M d with
 |some (.q _ m)=>((as M ρ).at M).bind fun ds _=>(m M (d::ds)).at M
 |some (.g _ m)=>((as M ρ).at M).bind fun ds _=>m M (d::ds)
 |none=>.bad:=rfl
@[simp]theorem apK (x:Str) (m:Mo->List Dat->bx Dat) (as:QA):Bl x m as M ρ=((as M ρ).at M).bind fun ds _=>match m (M++[⟨x,[]⟩]) (ob M.length::ds) with
 |.ok .none M'=>.ok (ob M.length) M'
 |_=>.bad:=rfl
@[simp]theorem anW (m:Mo->List Dat->bx Dat) (as:QA):sJ m as M ρ=((as M ρ).at M).bind fun ds _=>m M ds:=rfl
@[simp]theorem anJ (m:Mo->List Dat->bx Dat) (as:GA):alA m as M ρ=(as M ρ).bind fun ds M1=>m M1 ds:=rfl
@[simp]theorem anM (m:Mo->List Dat->Out Dat) (as:GA):akz m as M ρ=(as M ρ).bind fun ds M1=>(m M1 ds).at M1:=rfl
@[simp]theorem anN (a:GF) (r:GA):alC a r M ρ=(a M ρ).bind fun d M1=>(r M1 ρ).bind fun ds M2=>.ok (d::ds) M2:=rfl
@[simp]theorem apx (t:QT):agn t M ρ=(t M ρ).at M:=rfl
@[simp]theorem aof (a:GT):ank a M ρ=(a M ρ).bind fun b M1=>.ok (!b) M1:=rfl
@[simp]theorem an6 (a b:GT):amI a b M ρ=(a M ρ).bind fun x M1=>if x=true then b M1 ρ else .ok false M1:=rfl
@[simp]theorem ao7 (a b:GT):aoP a b M ρ=(a M ρ).bind fun x M1=>if x=true then .ok true M1 else b M1 ρ:=rfl
@[simp]theorem aoe (a:GF):am9 a M ρ=(a M ρ).bind fun d M1=>(JD d).at M1:=rfl
@[simp]theorem aoN (x:Str):eX x M ρ=.exc ⟨x,[]⟩ ρ M:=rfl
@[simp]theorem anv (x:Str) (fs:List Str) (as:QA):Cu x fs as M ρ=((as M ρ).at M).then ρ fun ds M'=>.exc ⟨x,(fs.zip ds).reverse⟩ ρ M':=rfl
@[simp]theorem aqR (b:SF) (hs:List Hd):U6 b hs M ρ=match b M ρ with
 |.exc x ρ' M'=>hdl hs x ρ' M'
 |o=>o:=rfl
@[simp]theorem aoW (x:dD):hdl [] x ρ M=.exc x ρ M:=rfl
@[simp]theorem apl (h:Hd) (r:List Hd) (x:dD):hdl (h::r) x ρ M=match h.tk x.cls with
  |some true=>match ac9 ρ h.nm with
   |true=>match Ei h.y x h.st (U7 ρ h.nm) with
    |some ρ2=>.next (U7 ρ2 h.nm) M
    |none=>.bad
   |false=>.bad
  |some false=>hdl r x ρ M
  |none=>.bad:=rfl
@[simp]theorem apo:U7 ρ none=ρ:=rfl
@[simp]theorem apa (i:Nat):U7 ρ (some i)=ρ.set i none:=rfl
@[simp]theorem aox:ac9 ρ none=true:=rfl
@[simp]theorem aoH (i:Nat):ac9 ρ (some i)=decide (i < ρ.length):=rfl
@[simp]theorem ap6 (y:Str) (x:dD):Ei y x [] ρ=some ρ:=rfl
@[simp]theorem aqr (y:Str) (x:dD) (j:Nat) (e:El) (r:List (Nat×El)):Ei y x ((j,e)::r) ρ=(PL y x e).bind fun d=>Ei y x r (ρ.set j (some (.dat d))):=rfl
@[simp]theorem aqg (y:Str) (x:dD) (d:Dat):PL y x (.con d)=some d:=rfl
@[simp]theorem aoS (g:GF):iD g M ρ=(g M ρ).then ρ fun d M'=>.ret d M':=rfl
@[simp]theorem apV (t:GT) (f k:SF):an8 t f k M ρ=(t M ρ).then ρ fun c M'=>if c=true then f M' ρ else k M' ρ:=rfl
@[simp]theorem anw (a b:QF):Cv a b M ρ=(a M ρ).bind fun d=>(b M ρ).bind fun e=>(Bx d).bind fun lo=>(Bx e).bind fun n=>Out.when (decide (n<=100000/\-100000<=n/\lo<=100000/\-100000<=lo)) (.ok (jx lo (n - lo).toNat)):=rfl
@[simp]theorem apv (ft:Ft) (o:QF) (e:GF):uM ft o f e M ρ=(e M ρ).then ρ fun d M1=>((o M1 ρ).at M1).then ρ fun od M2=>match kh M2 od with
 |some (h,i)=>match ft.has i.cls f&&decide (i.fs.length < 100) with
  |true=>.next ρ (M2.set h (i.put f (.dat d)))
  |false=>.bad
 |none=>.bad:=rfl
@[simp]theorem ape (ft:Ft) (o:QF) (e:IF):Es ft o f e M ρ=((e M ρ).at M).then ρ fun xs M0=>((o (M0++[⟨"",[]⟩]) ρ).at (M0++[⟨"",[]⟩])).then ρ fun od M2=>match kh M2 od with
 |some (h,i)=>match ft.has i.cls f&&decide (i.fs.length < 100) with
  |true=>.next ρ (M2.set h (i.put f (.lst M0.length xs)))
  |false=>.bad
 |none=>.bad:=rfl
@[simp]theorem aoX (ft:Ft) (o:QF) (b:Bool):Nq ft o f b M ρ=((o (M++[⟨"",[]⟩]) ρ).at (M++[⟨"",[]⟩])).then ρ fun od M2=>match kh M2 od with
 |some (h,i)=>match ft.has i.cls f&&decide (i.fs.length < 100) with
  |true=>.next ρ (M2.set h (i.put f (.dic b [])))
  |false=>.bad
 |none=>.bad:=rfl
@[simp]theorem apg (ft:Ft) (o:QF) (e:Mo->Env->Out (List (Dat×Dat))):Sh ft o f e M ρ=((e M ρ).at M).then ρ fun kvs _=>((o (M++[⟨"",[]⟩]) ρ).at (M++[⟨"",[]⟩])).then ρ fun od M2=>match kh M2 od with
 |some (h,i)=>match ft.has i.cls f&&decide (i.fs.length < 100) with
  |true=>.next ρ (M2.set h (i.put f (.dic true kvs)))
  |false=>.bad
 |none=>.bad:=rfl
@[simp]theorem apA (o:QF) (e:GF):Ed f o e M ρ=((o M ρ).at M).then ρ fun od M0=>match FZ M0 f od with
 |some (_,_,n,_)=>(e M0 ρ).then ρ fun d M1=>match FZ M1 f od with
  |some (h,i,n',xs)=>match n==n'&&decide (xs.length < 100000) with
   |true=>.next ρ (M1.set h (i.put f (.lst n (xs++[d]))))
   |false=>.bad
  |none=>.bad
 |none=>.bad:=rfl
@[simp]theorem apj (o fi e:QF):Rk f o fi e M ρ=((e M ρ).at M).then ρ fun d _=>((o M ρ).at M).then ρ fun od _=>match FZ M f od with
 |some (h,i,n,xs)=>((fi M ρ).at M).then ρ fun k _=>match k with
  |.int k=>match ixN xs.length k with
   |some j=>.next ρ (M.set h (i.put f (.lst n (xs.set j d))))
   |none=>.bad
  |_=>.bad
 |none=>.bad:=rfl
@[simp]theorem apu (ft:Ft) (o e:QF):Rh ft f o e M ρ=((o M ρ).at M).then ρ fun od _=>match kh M od with
 |some (h,i)=>match i.fs.lookup f,ft.has i.cls f&&decide (i.fs.length < 100) with
  |some (.dat (.int a)),true=>((e M ρ).at M).then ρ fun d _=>match d with
   |.int b=>.next ρ (M.set h (i.put f (.dat (.int (a+b)))))
   |_=>.bad
  |_,_=>.bad
 |none=>.bad:=rfl
theorem aiH(d:Dat):FZ M f d=(kh M d).bind fun p=>match p.2.fs.lookup f with
 |some (.lst n xs)=>some (p.1,p.2,n,xs)
 |_=>none:=rfl
@[simp]theorem ao1:FZ M f (ob h)=(M[h]?).bind fun i=>match i.cls=="" with
 |true=>none
 |false=>match i.fs.lookup f with
  |some (.lst n xs)=>some (h,i,n,xs)
  |_=>none:=by
 rw[aiH,Zd]
 cases M[h]? with
 |none=>rfl
 |some i=>
  show(match i.cls=="" with
   |true=>none
   |false=>some (h,i)).bind _=(match i.cls=="" with
   |true=>none
   |false=>_)
  cases i.cls=="" <;> rfl
@[simp]theorem apH (i:Inst) (x:jd):i.put f x=⟨i.cls,putL f x i.fs⟩:=rfl
@[simp]theorem ash (x:jd):putL f x []=[(f,x)]:=rfl
@[simp]theorem ar0 (x y:jd) (g:Str) (r:List (Str×jd)):putL f x ((g,y)::r)=if g=f then(g,x)::r else(g,y)::putL f x r:=rfl
@[simp]theorem ao2 (ft:Ft) (c:Str):Ft.has ft c f=match ft.lookup c with
 |some fs=>fs.contains f
 |none=>false:=rfl
@[simp]theorem ao6:zE M f (ob h)=(M[h]?).bind fun i=>match i.cls=="" with
 |true=>none
 |false=>match i.fs.lookup f with
  |some (.dic b kvs)=>some (h,i,b,kvs)
  |_=>none:=by
 show(kh M (ob h)).bind _=_
 rw[Zd]
 cases M[h]? with
 |none=>rfl
 |some i=>
  show(match i.cls=="" with
   |true=>none
   |false=>some (h,i)).bind _=(match i.cls=="" with
   |true=>none
   |false=>_)
  cases i.cls=="" <;> rfl
@[simp]theorem apY (neg:Bool) (k o:QF):Py neg f k o M ρ=(k M ρ).bind fun d=>(o M ρ).bind fun od=>match zE M f od with
 |some (_,_,b,kvs)=>(dhas b kvs d).bind fun r=>.ok (.bool (neg ^^ r))
 |none=>.bad:=rfl
@[simp]theorem aoZ (o k e:QF):N8 f o k e M ρ=((e M ρ).at M).then ρ fun v _=>((o M ρ).at M).then ρ fun od _=>match zE M f od with
 |some (h,i,b,kvs)=>((k M ρ).at M).then ρ fun d _=>match dhas b kvs d,decide (kvs.length < 100000) with
  |.ok false,true=>.next ρ (M.set h (i.put f (.dic b (kvs++[(d,v)]))))
  |_,_=>.bad
 |none=>.bad:=rfl
@[simp]theorem ao9 (o k:QF):Oa f o k M ρ=((o M ρ).at M).then ρ fun od _=>match zE M f od with
 |some (h,i,b,kvs)=>((k M ρ).at M).then ρ fun d _=>match dhas b kvs d,decide (kvs.length<=100000) with
  |.ok true,true=>.next ρ (M.set h (i.put f (.dic b (kvs.filter fun p=>!PyData.eqv p.1 d))))
  |_,_=>.bad
 |none=>.bad:=rfl
@[simp]theorem aou (o:QF):DK f o M ρ=(o M ρ).bind fun od=>match zE M f od with
 |some (_,_,true,kvs)=>.ok (kvs.map (·.1))
 |_=>.bad:=rfl
@[simp]theorem anP (o:QF):DN f o M ρ=(o M ρ).bind fun od=>match zE M f od with
 |some (_,_,_,kvs)=>.ok (.list (kvs.map (·.1)))
 |none=>.bad:=rfl
@[simp]theorem ar4 (it:IF) (tg:fV) (vs:List Nat) (tk:QF):qDc it tg vs tk M ρ=(it M ρ).bind fun ds=>Out.when (decide (ds.length<=50000)) (Fg tg tk M (cC ρ vs) ds []):=rfl
@[simp]theorem anR (kvs:List (Dat×Dat)) (i:Int):dhas false kvs (.int i)=.ok (kvs.any fun p=>PyData.eqv p.1 (.int i)):=rfl
@[simp]theorem aqV (neg:Bool) (kvs:List (Str×Dat)) (k:QF):UG neg kvs k M ρ=(k M ρ).bind fun d=>match d with
 |.str x=>.ok (.bool (neg ^^ (kvs.lookup x).isSome))
 |_=>.bad:=rfl
@[simp]theorem ars (kvs:List (Str×Dat)) (k:QF):acS kvs k M ρ=(k M ρ).bind fun d=>match d with
 |.str x=>match kvs.lookup x with
  |some y=>.ok y
  |none=>.bad
 |_=>.bad:=rfl
@[simp]theorem aoO (it:IF) (tg:fV) (vs:List Nat) (tt:QT) (it1:IF) (tg1:fV) (vs1:List Nat) (tt1:QT) (te:QF):DY it tg vs tt it1 tg1 vs1 tt1 te M ρ=((it M ρ).bind fun ds=>(ig tg tt it1 tg1 vs1 tt1 te M (cC ρ vs) ds).bind fun r=>Out.when (decide (r.length<=50000)) (.ok r)).bind fun r=>.ok (.list r):=rfl
@[simp]theorem anD (it:IF) (tg:fV) (vs:List Nat) (tt:QT) (te:QF):ahJ it tg vs tt te M ρ=((it M ρ).bind fun ds=>Out.when (decide (ds.length<=50000)) (dH tg tt te M (cC ρ vs) ds)).bind fun ds=>match intsOf ds with
 |some l=>Out.when (decide (l.length<=4000)) (.ok (.list ((ag7 l).map PyData.int)))
 |none=>.bad:=rfl
@[simp]theorem anH {α:Type} (k g:Str) (y:α) (r:List (Str×α)):List.lookup k ((g,y)::r)=if k=g then some y else List.lookup k r:=by
 rw[as6]
 by_cases e:k=g
 ·subst e
  simp
 ·have:(k==g)=false:=by simpa using e
  rw[this,if_neg e]
end
end Rf
namespace Pr
open PySem PySem.Spec PyProof.Rows L2 Evl Rf
def yK:SF:=
 (aC (Es j8 (ao 0) "allowances" (Lw au))
 (Es j8 (ao 0) "circles" (Lw au)))
def uW:Mo->List Dat->bx Dat:=mG 1 yK
def Bp:SF:=
 (Nq j8 (ao 0) "held" true)
def vR:Mo->List Dat->bx Dat:=mG 1 Bp
def Gi:SF:=
 (Es j8 (ao 0) "beasts" (Lw au))
def zN:Mo->List Dat->bx Dat:=mG 1 Gi
def zp:SF:=
 (aC (uM j8 (ao 0) "owner_count" (gOf (qC (.int 0))))
 (aC (Nq j8 (ao 0) "holders" false)
 (aC (uM j8 (ao 0) "grounds" (Bl "Grounds" uW au))
 (aC (uM j8 (ao 0) "rights" (Bl "Rights" vR au))
 (uM j8 (ao 0) "herd" (Bl "Herd" zN au))))))
def mK:Mo->List Dat->bx Dat:=mG 1 zp
def Bo:SF:=
 (aO (bh (ak (gQ "owner" (ao 0)) (ak (gQ "ground" (ao 0)) (ak (gQ "due" (ao 0)) (ak (gQ "ear" (ao 0)) (ak (gQ "alive" (ao 0)) au)))))))
def vO:Mo->List Dat->Out Dat:=mQ 1 Bo
def mV:List (Str×MV):=[("Beast",.q 1 vO)]
def CZ:SF:=
 (aO (aA fu (aW mV (ao 0) au) (bh (ak (gQ "mother" (ao 0)) (ak (dZ lQ (bL "story" (ao 0))) au)))))
def xP:Mo->List Dat->Out Dat:=mQ 1 CZ
def wF:SF:=
 (aO (DN "holders" (ao 0)))
def qH:Mo->List Dat->Out Dat:=mQ 1 wF
def u5:SF:=
 (aO (DN "held" (ao 0)))
def pq:Mo->List Dat->Out Dat:=mQ 1 u5
def uL:SF:=
 (aO (dZ mj (bL "allowances" (ao 0))))
def qb:Mo->List Dat->Out Dat:=mQ 1 uL
def eY:List (Str×MV):=[("Grounds",.q 1 qb)]
def Bj:SF:=
 (aO (RP (jW pH pH (qC (.int 1)) (ao 1) (aW eY (ao 0) au))))
def v7:Mo->List Dat->Out Dat:=mQ 2 Bj
def yM:List (Str×MV):=[("Grounds",.q 2 v7)]
def yS:SF:=
 (bO (jT (iw (aW yM (ao 0) (ak (aq 1) au)))) (eX "NoGround") aP)
def uO:Mo->List Dat->Out Dat:=mQ 2 yS
def aG:List (Str×MV):=[("Grounds",.q 2 uO)]
def nO:SF:=
 (aC (cJ (gOf (aW aG (ao 0) (ak (aq 1) au))))
 (aO (aA aH (bL "allowances" (ao 0)) (aA iK (ao 1) (qC (.int 1))))))
def jV:Mo->List Dat->Out Dat:=mQ 2 nO
def oR:SF:=
 (aC (cJ (gOf (aW aG (ao 0) (ak (aq 1) au))))
 (aO (dZ N5 (aA aH (bL "circles" (ao 0)) (aA iK (ao 1) (qC (.int 1)))))))
def kE:Mo->List Dat->Out Dat:=mQ 2 oR
def bD:List (Str×MV):=[("Grounds",.q 2 kE)]
def oN:SF:=
 (aO (aW bD (bL "grounds" (ao 0)) (ak (aq 1) au)))
def kZ:Mo->List Dat->Out Dat:=mQ 2 oN
def uh:List (Str×MV):=[("Rights",.q 1 pq)]
def uZ:List (Str×MV):=[("Commons",.q 1 qH)]
def vW:List (Str×MV):=[("Beast",.q 1 xP)]
def bT:List (Str×MV):=[("Commons",.q 2 kZ)]
def dR:List (Str×MV):=[("Grounds",.q 2 jV)]
def yZ:SF:=
 (aC (aV (aF 1) (gOf (eO (Cv (qC (.int 1)) (aA fu (aW eY (bL "grounds" (ao 0)) au) (qC (.int 1)))) (aF 3) [3] iy (bh (ak (aW dR (bL "grounds" (ao 0)) (ak (aq 3) au)) (ak (dZ lQ (aW bT (ao 0) (ak (aq 3) au))) au))))))
 (aC (aV (aF 2) (gOf (eO (cV (bL "beasts" (bL "herd" (ao 0)))) (aF 4) [4] iy (aW vW (ao 4) au))))
 (aO (bh (ak (aW uZ (ao 0) au) (ak (aq 1) (ak (aW uh (bL "rights" (ao 0)) au) (ak (aq 2) au))))))))
def mO:Mo->List Dat->Out Dat:=mQ 5 yZ
def VL:SF:=
 (aC (aV (aF 5) (gOf (aA jQ (aA fu (aA fu (aA xQ (ao 5) (qC (.int 48271))) (aA xQ (qC (.int 9973)) (ao 4))) (qC (.int 11))) (qC (.int 2147483647)))))
 (Gg 3 (aA jQ (aA uf (ao 5) (qC (.int 1021))) (ao 2))))
def VB:SF:=
 (aC (Gg 3 (aA jQ (ao 0) (ao 2)))
 (aV (aF 0) (gOf (aA uf (ao 0) (ao 2)))))
def acI:SF:=
 (aC (Bh 3 (Lw au))
 (aC (aV (aF 0) (gOf (dZ Vb (ao 0))))
 (aC (bO (aY (aA geD (ao 0) (aA Qq (qC (.int 10)) (qC (.int 18))))) (aC (pZ (Cz (ao 1)) (aF 4) VB)
 (aO (aq 3))) aP)
 (aC (aV (aF 5) (gOf (aA jQ (aA xQ (aA fu (aA jQ (ao 0) (qC (.int 1000003))) (qC (.int 17))) (qC (.int 69621))) (qC (.int 2147483647)))))
 (aC (pZ (Cz (ao 1)) (aF 4) VL)
 (aO (aq 3)))))))
def vY:Mo->List Dat->Out Dat:=mQ 6 acI
def Qa:SF:=
 (aC (bO (aY (aA bR (aA jQ (ao 1) (qC (.int 4))) (qC (.int 1)))) (aO (dZ lQ (eO (cV (ao 0)) (aF 2) [2] iy (aA oH (qC (.int 0)) (aA iK (ao 2) (qC (.int 7))))))) aP)
 (aC (bO (aY (aA bR (aA jQ (ao 1) (qC (.int 4))) (qC (.int 2)))) (aO (dZ lQ (eO (cV (ao 0)) (aF 2) [2] iy (aA jQ (ao 2) (qC (.int 3)))))) aP)
 (aO (dZ lQ (ao 0)))))
def ux:Mo->List Dat->Out Dat:=mQ 3 Qa
def acJ:SF:=
 (aC (aV (aF 1) (gOf (aR vY (ak (aq 0) (ak (qC (.int 7)) (ak (qC (.int 10)) au))))))
 (aO (aR ux (ak (Ka (ao 1) vJ (oO (qC (.int 6)))) (ak (aA aH (ao 1) (qC (.int 6))) au)))))
def zH:Mo->List Dat->Out Dat:=mQ 2 acJ
def Ge:SF:=
 (aC (bO (aY (aA bR (aA jQ (ao 0) (qC (.int 8))) (qC (.int 7)))) (aO (xO au)) aP)
 (aC (aV (aF 1) (gOf (xO (ak (bh (ak (qC (.str "ground")) (ak (qC (.int 0)) (ak (qC (.int 0)) au)))) (ak (bh (ak (qC (.str "owner")) (ak (qC (.int 0)) (ak (qC (.int 0)) au)))) (ak (bh (ak (qC (.str "owner")) (ak (qC (.int 0)) (ak (qC (.int 0)) au)))) (ak (bh (ak (qC (.str "enrol")) (ak (qC (.int 0)) (ak (qC (.int 0)) au)))) (ak (bh (ak (qC (.str "enrol")) (ak (qC (.int 1)) (ak (qC (.int 0)) au)))) au))))))))
 (aC (aV (aF 1) (gOf (aA fu (ao 1) (xO (ak (bh (ak (qC (.str "bring")) (ak (qC (.int 0)) (ak (qC (.int 0)) au)))) (ak (bh (ak (qC (.str "cut")) (ak (qC (.int 0)) (ak (qC (.int 0)) au)))) (ak (bh (ak (qC (.str "bring")) (ak (qC (.int 1)) (ak (qC (.int 0)) au)))) (ak (bh (ak (qC (.str "cut")) (ak (qC (.int 1)) (ak (qC (.int 0)) au)))) (ak (bh (ak (qC (.str "ground")) (ak (qC (.int 0)) (ak (qC (.int 0)) au)))) (ak (bh (ak (qC (.str "enrol")) (ak (qC (.int 0)) (ak (qC (.int 1)) au)))) au))))))))))
 (aO (aq 1)))))
def vL:Mo->List Dat->Out Dat:=mQ 2 Ge
def Mj:SF:=
 (aC (aV (aF 1) (gOf (xO (ak (qC (.str "tear")) (ak (qC (.str "cut")) (ak (qC (.str "bring")) (ak (qC (.str "sell")) (ak (qC (.str "move")) (ak (qC (.str "enrol")) (ak (qC (.str "bear")) (ak (qC (.str "tear")) (ak (qC (.str "cut")) (ak (qC (.str "sell")) (ak (qC (.str "move")) (ak (qC (.str "unite")) (ak (qC (.str "part")) au))))))))))))))))
 (aC (aV (aF 1) (gOf (aA fu (ao 1) (xO (ak (qC (.str "heir")) (ak (qC (.str "pass")) (ak (qC (.str "die")) (ak (qC (.str "leave")) (ak (qC (.str "ground")) (ak (qC (.str "owner")) (ak (qC (.str "enrol")) (ak (qC (.str "tear")) (ak (qC (.str "sell")) (ak (qC (.str "bring")) (ak (qC (.str "bear")) (ak (qC (.str "cut")) au))))))))))))))))
 (aO (aA aH (ao 1) (aA jQ (ao 0) (qC (.int 25)))))))
def Bg:Mo->List Dat->Out Dat:=mQ 2 Mj
def lY:SF:=
 (bO (aY (Py true "holders" (aq 1) (ao 0))) (eX "NoOwner") aP)
def jB:Mo->List Dat->Out Dat:=mQ 2 lY
def yJ:SF:=
 (aO (eO (DK "held" (ao 0)) (bF [3,4,5]) [3,4,5] (gG (aY (aA bR (ao 3) (ao 1))) (aY (aA bR (ao 4) (ao 2)))) (aq 5)))
def uG:Mo->List Dat->Out Dat:=mQ 6 yJ
def cM:List (Str×MV):=[("Rights",.q 3 uG)]
def uw:SF:=
 (aO (aA ZC (dZ mj (aW cM (ao 0) (ak (aq 1) (ak (aq 2) au)))) (qC (.int 0))))
def oM:Mo->List Dat->Out Dat:=mQ 3 uw
def rW:List (Str×MV):=[("Rights",.q 3 oM)]
def qR:SF:=
 (bO (jT (iw (aW rW (bL "rights" (ao 0)) (ak (aq 1) (ak (aq 2) au))))) (eX "NoRight") aP)
def lW:Mo->List Dat->Out Dat:=mQ 3 qR
def rH:SF:=
 (aC (Rh j8 "owner_count" (ao 0) (qC (.int 1)))
 (aC (N8 "holders" (ao 0) (gQ "owner_count" (ao 0)) (qC (.bool true)))
 (aO (gQ "owner_count" (ao 0)))))
def iI:Mo->List Dat->bx Dat:=mG 1 rH
def oG:SF:=
 (aC (aV (aF 4) (gOf (bh (ak (aq 1) (ak (aq 2) (ak (aq 3) au))))))
 (aC (bO (aY (Py false "held" (aq 4) (ao 0))) (eX "HasRight") aP)
 (N8 "held" (ao 0) (aq 4) (qC (.bool true)))))
def jk:Mo->List Dat->bx Dat:=mG 5 oG
def Dc:SF:=
 (aV (aF 2) (gOf (DY (cV (ao 2)) (bF [4,5]) [4,5,6] iy (Cv (ao 3) (aA fu (aA Ja (aA fu (ao 3) (ao 5)) (qC cU)) (qC (.int 1)))) (aF 6) [6] iy (bh (ak (aA fu (ao 4) (bh (ak (aq 6) au))) (ak (aA iK (ao 5) (aA iK (ao 6) (ao 3))) au))))))
def YS:SF:=
 (aC (aV (aF 2) (gOf (xO (ak (bh (ak (bh au) (ak (aq 1) au))) au))))
 (aC (pZ (cV (aq 0)) (aF 3) Dc)
 (aO (eO (cV (ao 2)) (bF [4,5]) [4,5] iy (aq 4)))))
def Ln:Mo->List Dat->Out Dat:=mQ 7 YS
def Vs:SF:=
 (aO (dZ Va (eO (Gk (ao 0) (ao 1)) (bF [2,3]) [2,3] (aY (aA ZC (ao 3) (ao 2))) (aA iK (ao 3) (ao 2)))))
def uK:Mo->List Dat->Out Dat:=mQ 4 Vs
def FP:SF:=
 (aO (eO (cV (aR Ln (ak (aq 0) (ak (aq 1) au)))) (aF 2) [2] (aY (aA bR (aR uK (ak (aq 0) (ak (aq 2) au))) (ao 1))) (aq 2)))
def vN:Mo->List Dat->Out Dat:=mQ 3 FP
def Ul:SF:=
 (aO (aA oH (aR uK (ak (aq 0) (ak (aq 1) au))) (aR uK (ak (aq 1) (ak (aq 0) au)))))
def Hw:Mo->List Dat->Out Dat:=mQ 2 Ul
def Y0:SF:=
 (aO (aA pH (aR Hw (ak (aq 0) (ak (aq 1) au))) (ao 2)))
def qU:Mo->List Dat->Out Dat:=mQ 3 Y0
def jZ:SF:=
 (bO (jT (iw (dZ O4 (eO (cV (ao 2)) (bF [5,6]) [5,6] iy (aR qU (ak (aq 4) (ak (aq 6) (ak (aq 3) au)))))))) (aO (aq 4)) aP)
def xU:SF:=
 (aC (pZ (cV (aR vN (ak (aq 0) (ak (aq 1) au)))) (aF 4) jZ)
 (eX "NoneFree"))
def pO:Mo->List Dat->Out Dat:=mQ 7 xU
def qK:SF:=
 (aO (aA aH (aW cM (bL "rights" (ao 0)) (ak (aq 1) (ak (aq 2) au))) (qC (.int 0))))
def lX:Mo->List Dat->Out Dat:=mQ 3 qK
def Qw:SF:=
 (aO (dZ Q8 (ao 0)))
def qL:Mo->List Dat->Out Dat:=mQ 1 Qw
def vh:SF:=
 (aO (eO (xZ 1 (bL "beasts" (ao 0))) (bF [1,2]) [1,2] (iw (bL "alive" (ao 2))) (bh (ak (aq 1) (ak (aq 2) au)))))
def pB:Mo->List Dat->Out Dat:=mQ 3 vh
def dO:List (Str×MV):=[("Herd",.q 1 pB)]
def zf:SF:=
 (aO (eO (cV (aW dO (ao 0) au)) (bF [2,3]) [2,3] (aY (aA (inD false) (bL "ground" (ao 3)) (ao 1))) (bh (ak (aq 2) (ak (aq 3) au)))))
def pP:Mo->List Dat->Out Dat:=mQ 4 zf
def rR:SF:=
 (aO (eO (DK "held" (ao 0)) (bF [2,3,4]) [2,3,4] (aY (aA (inD false) (ao 3) (ao 1))) (bh (ak (aq 2) (ak (aq 4) au)))))
def nu:Mo->List Dat->Out Dat:=mQ 5 rR
def qG:List (Str×MV):=[("Rights",.q 2 nu)]
def jE:List (Str×MV):=[("Herd",.q 2 pP)]
def j9:SF:=
 (aC (aV (aF 3) (gOf (aW bT (ao 0) (ak (aq 2) au))))
 (aC (aV (aF 4) (gOf (eO (cV (aW jE (bL "herd" (ao 0)) (ak (aq 3) au))) (bF [5,6]) [5,6] (gG (aY (tO true .none (bL "due" (ao 6)))) (aY (aA tH (ao 5) (ao 1)))) (bh (ak (gQ "owner" (ao 6)) (ak (gQ "due" (ao 6)) au))))))
 (aO (aR qL (ak (aA fu (aW qG (bL "rights" (ao 0)) (ak (aq 3) au)) (ao 4)) au)))))
def iQ:Mo->List Dat->Out Dat:=mQ 7 j9
def cY:List (Str×MV):=[("Commons",.q 3 iQ)]
def oU:SF:=
 (aO (aW cY (ao 0) (ak (qC (.int 0)) (ak (aq 1) au))))
def lg:Mo->List Dat->Out Dat:=mQ 2 oU
def uR:SF:=
 (aO (dZ maxD (eO (cV (aW bD (ao 0) (ak (aq 1) au))) (aF 2) [2] iy (aW dR (ao 0) (ak (aq 2) au)))))
def pU:Mo->List Dat->Out Dat:=mQ 3 uR
def sE:List (Str×MV):=[("Grounds",.q 2 pU)]
def uN:SF:=
 (aO (aW sE (bL "grounds" (ao 0)) (ak (aq 1) au)))
def pQ:Mo->List Dat->Out Dat:=mQ 2 uN
def iJ:List (Str×MV):=[("Rights",.g 4 jk)]
def gU:List (Str×MV):=[("Commons",.g 1 iI)]
def cA:List (Str×MV):=[("Commons",.q 2 pQ)]
def cH:List (Str×MV):=[("Commons",.q 2 lg)]
def bW:List (Str×MV):=[("Commons",.q 3 lX)]
def aN:List (Str×MV):=[("Commons",.q 3 lW)]
def aD:List (Str×MV):=[("Commons",.q 2 jB)]
def dW:SF:=
 (aC (cJ (gOf (aW aD (ao 0) (ak (aq 1) au))))
 (aC (cJ (gOf (aW aG (bL "grounds" (ao 0)) (ak (aq 2) au))))
 (aC (bO (jT (jW pH pH (qC jg) (ao 3) (qC kW))) (eX "BadExtra") aP)
 (aC (cJ (gOf (aW aN (ao 0) (ak (aq 1) (ak (aq 2) au)))))
 (aC (aV (aF 4) (gOf (aR pO (ak (aW bW (ao 0) (ak (aq 1) (ak (aq 2) au))) (ak (aq 3) (ak (aW cH (ao 0) (ak (aq 2) au)) (ak (aW cA (ao 0) (ak (aq 2) au)) au)))))))
 (aC (aV (aF 5) (cO gU (ao 0) au))
 (aC (cJ (cO iJ (bL "rights" (ao 0)) (ak (aq 5) (ak (aq 2) (ak (aq 4) au)))))
 (aO (bh (ak (aq 5) (ak (aq 4) au)))))))))))
def cW:Mo->List Dat->bx Dat:=mG 6 dW
def ju:SF:=
 (aC (bO (jT (jW pH pH (qC (.int 0)) (ao 1) (qC gW))) (eX "BadAllowance") aP)
 (aC (Ed "allowances" (ao 0) (gOf (aq 1)))
 (aC (Ed "circles" (ao 0) (gOf (bh (ak (aW eY (ao 0) au) au))))
 (aO (aW eY (ao 0) au)))))
def fB:Mo->List Dat->bx Dat:=mG 2 ju
def lH:List (Str×MV):=[("Grounds",.g 2 fB)]
def mD:SF:=
 (iD (cO lH (bL "grounds" (ao 0)) (ak (aq 1) au)))
def gM:Mo->List Dat->bx Dat:=mG 2 mD
def Mu:SF:=
 (aO (eO (cV (aR qL (ak (aq 2) au))) (bF [4,5]) [4,5] (gG (aY (aA tH (ao 4) (ao 0))) (iw (aR qU (ak (aq 1) (ak (aq 5) (ak (aq 3) au)))))) (bh (ak (aq 4) (ak (aq 5) au)))))
def Ba:Mo->List Dat->Out Dat:=mQ 6 Mu
def Uv:SF:=
 (aO (dZ lQ (eO (Gk (ao 0) (ao 1)) (bF [2,3]) [2,3] iy (aA oH (ao 2) (ao 3)))))
def pY:Mo->List Dat->Out Dat:=mQ 4 Uv
def Ck:SF:=
 (aC (aV (aF 4) (gOf (aR Ba (ak (aq 0) (ak (aq 1) (ak (aq 2) (ak (aq 3) au)))))))
 (bO (iw (ao 4)) (aC (aV (bF [5,6]) (gOf (aA aH (ao 4) (qC (.int 0)))))
 (Cu "Clash" ["ones","others","ear"] (ak (bh (ak (aq 0) (ak (aq 1) au))) (ak (bh (ak (aq 5) (ak (aq 6) au))) (ak (aR pY (ak (aq 1) (ak (aq 6) au))) au))))) aP))
def oX:Mo->List Dat->Out Dat:=mQ 7 Ck
def lZ:SF:=
 (cJ (gOf (aR oX (ak (aq 1) (ak (aq 2) (ak (aW cH (ao 0) (ak (aq 3) au)) (ak (aW cA (ao 0) (ak (aq 3) au)) au)))))))
def gY:Mo->List Dat->Out Dat:=mQ 4 lZ
def JH:SF:=
 (aO (yq (aA bR (dZ mj (ao 0)) (dZ mj (qC iY))) (dZ O8 (eO (cV (ao 0)) (aF 1) [1] iy (RP (jW pH pH (qC (.int 0)) (ao 1) (qC cU)))))))
def tG:Mo->List Dat->Out Dat:=mQ 2 JH
def JG:SF:=
 (bO (jT (iw (aR tG (ak (aq 0) au)))) (eX "BadEar") aP)
def qw:Mo->List Dat->Out Dat:=mQ 1 JG
def bV:List (Str×MV):=[("Commons",.q 4 gY)]
def fX:SF:=
 (aC (cJ (gOf (aW aD (ao 0) (ak (aq 1) au))))
 (aC (cJ (gOf (aW aG (bL "grounds" (ao 0)) (ak (aq 2) au))))
 (aC (cJ (gOf (aR qw (ak (aq 3) au))))
 (aC (bO (aY (aA bR (ao 3) (qC jw))) (eX "Bare") aP)
 (aC (bO (aY (aA (inD false) (ao 3) (aW cM (bL "rights" (ao 0)) (ak (aq 1) (ak (aq 2) au))))) (eX "HasRight") aP)
 (aC (cJ (gOf (aW bV (ao 0) (ak (aq 1) (ak (aq 3) (ak (aq 2) au))))))
 (cJ (cO iJ (bL "rights" (ao 0)) (ak (aq 1) (ak (aq 2) (ak (aq 3) au)))))))))))
def dY:Mo->List Dat->bx Dat:=mG 4 fX
def xq:SF:=
 (Oa "held" (ao 0) (bh (ak (aq 1) (ak (aq 2) (ak (aq 4) au)))))
def vX:SF:=
 (aC (aV (aF 3) (gOf (aW cM (ao 0) (ak (aq 1) (ak (aq 2) au)))))
 (aC (bO (jT (iw (ao 3))) (eX "NoRight") aP)
 (aC (pZ (cV (aq 3)) (aF 4) xq)
 (aO (aq 3)))))
def oE:Mo->List Dat->bx Dat:=mG 5 vX
def yL:List (Str×MV):=[("Rights",.g 3 oE)]
def jD:SF:=
 (aC (cJ (gOf (aW aD (ao 0) (ak (aq 1) au))))
 (aC (cJ (gOf (aW aG (bL "grounds" (ao 0)) (ak (aq 2) au))))
 (aC (cJ (gOf (aW aN (ao 0) (ak (aq 1) (ak (aq 2) au)))))
 (aC (bO (iw (dZ O4 (eO (cV (aW jE (bL "herd" (ao 0)) (ak (xO (ak (aq 2) au)) au))) (bF [3,4]) [3,4] iy (aA bR (bL "owner" (ao 4)) (ao 1))))) (eX "StillThere") aP)
 (iD (cO yL (bL "rights" (ao 0)) (ak (aq 1) (ak (aq 2) au))))))))
def gj:Mo->List Dat->bx Dat:=mG 5 jD
def qO:SF:=
 (aC (aV (bF [2,3,4,5,6]) (gOf (aq 1)))
 (aC (uM j8 (ao 0) "owner" (gOf (aq 2)))
 (aC (uM j8 (ao 0) "ground" (gOf (aq 3)))
 (aC (uM j8 (ao 0) "due" (gOf (aq 4)))
 (aC (uM j8 (ao 0) "ear" (gOf (aq 5)))
 (uM j8 (ao 0) "alive" (gOf (aq 6))))))))
def ni:Mo->List Dat->bx Dat:=mG 7 qO
def Nv:SF:=
 (aC (bO (aY (aA bR (aA aH (ao 0) (qC (.int 0))) (qC (.str "born")))) (aC (aV (bF [1,2,3,4]) (gOf (aq 0)))
 (aO (bh (ak (aq 3) (ak (aq 4) (ak (qC .none) (ak (qC jw) (ak (qC (.bool true)) au)))))))) aP)
 (aC (aV (bF [1,3,4,5]) (gOf (aq 0)))
 (aO (bh (ak (aq 3) (ak (aq 4) (ak (qC .none) (ak (aq 5) (ak (qC (.bool true)) au)))))))))
def CN:Mo->List Dat->Out Dat:=mQ 6 Nv
def jM:List (Str×MV):=[("Beast",.g 2 ni)]
def DR:SF:=
 (aC (Es j8 (ao 0) "story" (Lw (ak (aq 1) au)))
 (aC (uM j8 (ao 0) "mother" (gOf (Sy (aY (aA bR (aA aH (ao 1) (qC (.int 0))) (qC (.str "born")))) (aA aH (ao 1) (qC (.int 1))) (qC (.int 0)))))
 (cJ (cO jM (ao 0) (ak (aR CN (ak (aq 1) au)) au)))))
def tL:Mo->List Dat->bx Dat:=mG 2 DR
def wC:SF:=
 (aC (Ed "beasts" (ao 0) (Bl "Beast" tL (ak (aq 1) au)))
 (aO (dZ mj (bL "beasts" (ao 0)))))
def qD:Mo->List Dat->bx Dat:=mG 2 wC
def jK:List (Str×MV):=[("Herd",.g 2 qD)]
def jG:SF:=
 (aC (cJ (gOf (aW aD (ao 0) (ak (aq 1) au))))
 (aC (cJ (gOf (aW aG (bL "grounds" (ao 0)) (ak (aq 2) au))))
 (aC (cJ (gOf (aR qw (ak (aq 3) au))))
 (aC (cJ (gOf (aW aN (ao 0) (ak (aq 1) (ak (aq 2) au)))))
 (iD (cO jK (bL "herd" (ao 0)) (ak (bh (ak (qC (.str "brought")) (ak (aq 1) (ak (aq 2) (ak (aq 3) au))))) au)))))))
def fY:Mo->List Dat->bx Dat:=mG 4 jG
def uz:SF:=
 (aC (bO (jT (jW pH pH (qC (.int 1)) (ao 1) (dZ mj (bL "beasts" (ao 0))))) (eX "NoBeast") aP)
 (aO (aA aH (bL "beasts" (ao 0)) (aA iK (ao 1) (qC (.int 1))))))
def lB:Mo->List Dat->Out Dat:=mQ 2 uz
def fK:List (Str×MV):=[("Herd",.q 2 lB)]
def vP:SF:=
 (aC (aV (aF 2) (gOf (aW fK (ao 0) (ak (aq 1) au))))
 (aC (bO (jT (iw (bL "alive" (ao 2)))) (eX "Dead") aP)
 (aO (aq 2))))
def qY:Mo->List Dat->Out Dat:=mQ 3 vP
def bH:List (Str×MV):=[("Herd",.q 2 qY)]
def qT:SF:=
 (aC (aV (aF 2) (gOf (aW bH (ao 0) (ak (aq 1) au))))
 (aC (bO (aY (tO false .none (bL "due" (ao 2)))) (eX "Unmarked") aP)
 (aO (aq 2))))
def nZ:Mo->List Dat->Out Dat:=mQ 3 qT
def bB:List (Str×MV):=[("Herd",.q 2 nZ)]
def mJ:SF:=
 (aC (aV (aF 2) (gOf (aW bB (bL "herd" (ao 0)) (ak (aq 1) au))))
 (iD (cO jK (bL "herd" (ao 0)) (ak (bh (ak (qC (.str "born")) (ak (aq 1) (ak (gQ "owner" (ao 2)) (ak (gQ "ground" (ao 2)) au))))) au))))
def jh:Mo->List Dat->bx Dat:=mG 3 mJ
def JC:SF:=
 (aO (dZ lQ (eO (xZ 0 (ao 0)) (bF [2,3]) [2,3] iy (Sy (aY (aA bR (ao 2) (ao 1))) (aA fu (ao 3) (qC (.int 1))) (aq 3)))))
def xR:Mo->List Dat->Out Dat:=mQ 4 JC
def La:SF:=
 (aC (aV (bF [2,3,4,5,6]) (gOf (aq 0)))
 (aC (aV (aF 7) (gOf (aA aH (ao 1) (qC (.int 0)))))
 (aC (bO (aY (aA bR (ao 7) (qC (.str "cut")))) (Ro 4 5 (gOf (aA aH (ao 1) (qC (.int 1))))) (bO (aY (aA bR (ao 7) (qC (.str "torn")))) (aV (aF 5) (gOf (aR xR (ak (aq 5) (ak (aA aH (ao 1) (qC (.int 1))) au))))) (bO (aY (aA bR (ao 7) (qC (.str "sold")))) (aC (aV (aF 2) (gOf (aA aH (ao 1) (qC (.int 1)))))
 (Ro 4 5 (gOf (aA aH (ao 1) (qC (.int 2)))))) (bO (aY (aA bR (ao 7) (qC (.str "moved")))) (aV (aF 3) (gOf (aA aH (ao 1) (qC (.int 1))))) (bO (aY (aA bR (ao 7) (qC (.str "followed")))) (aC (aV (aF 2) (gOf (aA aH (ao 1) (qC (.int 1)))))
 (aV (aF 3) (gOf (aA aH (ao 1) (qC (.int 2)))))) (bO (aY (aA bR (ao 7) (qC (.str "passed")))) (aV (aF 2) (gOf (aA aH (ao 1) (qC (.int 1))))) (bO (aY (aA bR (ao 7) (qC (.str "died")))) (aV (aF 6) (gOf (qC (.bool false)))) aP)))))))
 (aO (bh (ak (aq 2) (ak (aq 3) (ak (aq 4) (ak (aq 5) (ak (aq 6) au))))))))))
def Ai:Mo->List Dat->Out Dat:=mQ 8 La
def yN:SF:=
 (aC (Ed "story" (ao 0) (gOf (aq 1)))
 (cJ (cO jM (ao 0) (ak (aR Ai (ak (aW mV (ao 0) au) (ak (aq 1) au))) au))))
def mU:Mo->List Dat->bx Dat:=mG 2 yN
def bQ:List (Str×MV):=[("Beast",.g 2 mU)]
def oA:SF:=
 (aC (aV (aF 2) (gOf (aW bH (bL "herd" (ao 0)) (ak (aq 1) au))))
 (aC (aV (aF 3) (gOf (aR pY (ak (gQ "ear" (ao 2)) (ak (aW bW (ao 0) (ak (gQ "owner" (ao 2)) (ak (gQ "ground" (ao 2)) au))) au)))))
 (aC (cJ (gOf (aW bV (ao 0) (ak (gQ "owner" (ao 2)) (ak (aq 3) (ak (gQ "ground" (ao 2)) au))))))
 (aC (cJ (cO bQ (ao 2) (ak (bh (ak (qC (.str "cut")) (ak (aq 3) au))) au)))
 (aO (aq 3))))))
def jN:Mo->List Dat->bx Dat:=mG 4 oA
def jc:SF:=
 (aC (aV (aF 3) (gOf (aW bH (bL "herd" (ao 0)) (ak (aq 1) au))))
 (aC (bO (jT (jW pH Ey (qC (.int 0)) (ao 2) (dZ mj (qC iY)))) (eX "NoPlace") aP)
 (aC (bO (aY (aA geD (aA aH (bL "ear" (ao 3)) (ao 2)) (qC cU))) (eX "Deepest") aP)
 (aC (cJ (cO bQ (ao 3) (ak (bh (ak (qC (.str "torn")) (ak (aq 2) au))) au)))
 (aO (gQ "ear" (ao 3)))))))
def fP:Mo->List Dat->bx Dat:=mG 4 jc
def v8:SF:=
 (aC (cJ (gOf (aW fK (ao 0) (ak (aq 1) au))))
 (aO (eO (cV (aW dO (ao 0) au)) (bF [2,3]) [2,3] (gG (aY (aA bR (bL "mother" (ao 3)) (ao 1))) (aY (tO false .none (bL "due" (ao 3))))) (bh (ak (aq 2) (ak (aq 3) au))))))
def qW:Mo->List Dat->Out Dat:=mQ 4 v8
def zF:List (Str×MV):=[("Herd",.q 2 qW)]
def qu:SF:=
 (cJ (cO bQ (ao 4) (ak (bh (ak (qC (.str "followed")) (ak (gQ "owner" (ao 2)) (ak (gQ "ground" (ao 2)) au)))) au)))
def sY:SF:=
 (aC (aV (aF 2) (gOf (aW fK (ao 0) (ak (aq 1) au))))
 (pZ (cV (aW zF (ao 0) (ak (aq 1) au))) (bF [3,4]) qu))
def oZ:Mo->List Dat->bx Dat:=mG 5 sY
def iH:List (Str×MV):=[("Herd",.g 2 oZ)]
def fQ:SF:=
 (aC (aV (aF 3) (gOf (aW bB (bL "herd" (ao 0)) (ak (aq 1) au))))
 (aC (cJ (gOf (aW aD (ao 0) (ak (aq 2) au))))
 (aC (bO (aY (aA bR (bL "owner" (ao 3)) (ao 2))) (eX "SameOwner") aP)
 (aC (cJ (gOf (aW aN (ao 0) (ak (aq 2) (ak (gQ "ground" (ao 3)) au)))))
 (aC (aV (aF 4) (gOf (aR pY (ak (gQ "ear" (ao 3)) (ak (aW bW (ao 0) (ak (aq 2) (ak (gQ "ground" (ao 3)) au))) au)))))
 (aC (cJ (gOf (aR oX (ak (aq 2) (ak (aq 4) (ak (aW cY (ao 0) (ak (aq 1) (ak (gQ "ground" (ao 3)) au))) (ak (aW cA (ao 0) (ak (gQ "ground" (ao 3)) au)) au)))))))
 (aC (cJ (cO bQ (ao 3) (ak (bh (ak (qC (.str "sold")) (ak (aq 2) (ak (aq 4) au)))) au)))
 (aC (cJ (cO iH (bL "herd" (ao 0)) (ak (aq 1) au)))
 (aO (aq 4))))))))))
def dN:Mo->List Dat->bx Dat:=mG 5 fQ
def fO:SF:=
 (aC (aV (aF 3) (gOf (aW bB (bL "herd" (ao 0)) (ak (aq 1) au))))
 (aC (cJ (gOf (aW aG (bL "grounds" (ao 0)) (ak (aq 2) au))))
 (aC (aV (aF 4) (gOf (gQ "ground" (ao 3))))
 (aC (bO (aY (aA bR (ao 4) (ao 2))) (eX "SameGround") aP)
 (aC (cJ (gOf (aW aN (ao 0) (ak (gQ "owner" (ao 3)) (ak (aq 2) au)))))
 (aC (cJ (gOf (aW bV (ao 0) (ak (gQ "owner" (ao 3)) (ak (gQ "due" (ao 3)) (ak (aq 2) au))))))
 (aC (cJ (cO bQ (ao 3) (ak (bh (ak (qC (.str "moved")) (ak (aq 2) au))) au)))
 (aC (cJ (cO iH (bL "herd" (ao 0)) (ak (aq 1) au)))
 (aO (aq 4))))))))))
def dJ:Mo->List Dat->bx Dat:=mG 5 fO
def qZ:SF:=
 (cJ (cO bQ (aW bH (bL "herd" (ao 0)) (ak (aq 1) au)) (ak (bh (ak (qC (.str "died")) au)) au)))
def lJ:Mo->List Dat->bx Dat:=mG 2 qZ
def Jh:SF:=
 (aC (aV (aF 2) (gOf (aR qL (ak (aq 0) au))))
 (aO (DY (xZ 0 (ao 2)) (bF [3,4]) [3,4,5] iy (cV (Ka (ao 2) (oO (aA fu (ao 3) (qC (.int 1)))) vJ)) (aF 5) [5] (gG (aY (aA tH (aA aH (ao 4) (qC (.int 0))) (aA aH (ao 5) (qC (.int 0))))) (iw (aR qU (ak (aA aH (ao 4) (qC (.int 1))) (ak (aA aH (ao 5) (qC (.int 1))) (ak (aq 1) au)))))) (bh (ak (aq 4) (ak (aq 5) au))))))
def uU:Mo->List Dat->Out Dat:=mQ 6 Jh
def tK:SF:=
 (aC (aV (aF 3) (gOf (aA oH (aW cA (ao 0) (ak (aq 1) au)) (aW cA (ao 0) (ak (aq 2) au)))))
 (aO (aR uU (ak (aA fu (aW cH (ao 0) (ak (aq 1) au)) (aW cH (ao 0) (ak (aq 2) au))) (ak (aq 3) au)))))
def kY:Mo->List Dat->Out Dat:=mQ 4 tK
def rJ:SF:=
 (Rk "circles" (ao 0) (aA iK (ao 3) (qC (.int 1))) (aq 2))
def u9:SF:=
 (aC (aV (aF 2) (gOf (dZ lQ (ao 1))))
 (aC (pZ (cV (aq 1)) (aF 3) rJ)
 (aO (aq 1))))
def lV:Mo->List Dat->bx Dat:=mG 4 u9
def gH:List (Str×MV):=[("Grounds",.g 2 lV)]
def sV:SF:=
 (aC (aV (aF 3) (gOf (aW bD (ao 0) (ak (aq 1) au))))
 (aC (aV (aF 4) (gOf (aW bD (ao 0) (ak (aq 2) au))))
 (aC (bO (aY (aA (inD false) (ao 2) (ao 3))) (eX "Together") aP)
 (iD (cO gH (ao 0) (ak (dZ zR (aA fu (ao 3) (ao 4))) au))))))
def lC:Mo->List Dat->bx Dat:=mG 5 sV
def wI:List (Str×MV):=[("Grounds",.g 3 lC)]
def nM:List (Str×MV):=[("Commons",.q 3 kY)]
def jC:SF:=
 (aC (cJ (gOf (aW aG (bL "grounds" (ao 0)) (ak (aq 2) au))))
 (aC (bO (aY (aA (inD false) (ao 2) (aW bT (ao 0) (ak (aq 1) au)))) (eX "Together") aP)
 (aC (aV (aF 3) (gOf (aW nM (ao 0) (ak (aq 1) (ak (aq 2) au)))))
 (aC (bO (iw (ao 3)) (aC (aV (bF [4,5]) (gOf (aA aH (ao 3) (qC (.int 0)))))
 (Cu "Clash" ["ones","others","ear"] (ak (aq 4) (ak (aq 5) (ak (aR pY (ak (aA aH (ao 4) (qC (.int 1))) (ak (aA aH (ao 5) (qC (.int 1))) au))) au))))) aP)
 (iD (cO wI (bL "grounds" (ao 0)) (ak (aq 1) (ak (aq 2) au))))))))
def gq:Mo->List Dat->bx Dat:=mG 6 jC
def pX:SF:=
 (aC (aV (aF 2) (gOf (eO (cV (aW bD (ao 0) (ak (aq 1) au))) (aF 3) [3] (aY (aA tH (ao 3) (ao 1))) (aq 3))))
 (aC (bO (jT (iw (ao 2))) (eX "Alone") aP)
 (aC (cJ (cO gH (ao 0) (ak (xO (ak (aq 1) au)) au)))
 (iD (cO gH (ao 0) (ak (aq 2) au))))))
def jo:Mo->List Dat->bx Dat:=mG 4 pX
def oJ:List (Str×MV):=[("Grounds",.g 2 jo)]
def pJ:SF:=
 (iD (cO oJ (bL "grounds" (ao 0)) (ak (aq 1) au)))
def j5:Mo->List Dat->bx Dat:=mG 2 pJ
def uF:SF:=
 (Sh j8 (ao 0) "held" (qDc (DK "held" (ao 0)) (bF [3,4,5]) [3,4,5] (bh (ak (Sy (aY (aA bR (ao 3) (ao 1))) (aq 2) (aq 3)) (ak (aq 4) (ak (aq 5) au))))))
def oV:Mo->List Dat->bx Dat:=mG 6 uF
def Dt:SF:=
 (aO (eO (cV (aW dO (ao 0) au)) (bF [2,3]) [2,3] (aY (aA bR (bL "owner" (ao 3)) (ao 1))) (bh (ak (aq 2) (ak (aq 3) au)))))
def yj:Mo->List Dat->Out Dat:=mQ 4 Dt
def Bw:List (Str×MV):=[("Herd",.q 2 yj)]
def rK:List (Str×MV):=[("Rights",.g 3 oV)]
def rQ:SF:=
 (cJ (cO bQ (ao 5) (ak (bh (ak (qC (.str "passed")) (ak (aq 2) au))) au)))
def jJ:SF:=
 (aC (cJ (gOf (aW aD (ao 0) (ak (aq 1) au))))
 (aC (cJ (gOf (aW aD (ao 0) (ak (aq 2) au))))
 (aC (bO (aY (aA bR (ao 1) (ao 2))) (eX "SameOwner") aP)
 (aC (cJ (cO rK (bL "rights" (ao 0)) (ak (aq 1) (ak (aq 2) au))))
 (aC (aV (aF 3) (gOf (aW Bw (bL "herd" (ao 0)) (ak (aq 1) au))))
 (aC (pZ (cV (aq 3)) (bF [4,5]) rQ)
 (aC (Oa "holders" (ao 0) (aq 1))
 (aO (eO (cV (ao 3)) (bF [4,5]) [4,5] iy (aq 4))))))))))
def fW:Mo->List Dat->bx Dat:=mG 6 jJ
def vB:SF:=
 (aC (bO (aY (aA bR (ao 0) (qC (.str "ear")))) (aO (yq (wV .tuple (ao 1)) (aR tG (ak (aq 1) au)))) aP)
 (aC (aV (aF 2) (gOf (Sy (aY (aA bR (ao 0) (qC (.str "place")))) (aA iK (dZ mj (qC iY)) (qC (.int 1))) (qC oY))))
 (aO (yq (wV .int (ao 1)) (RP (jW pH pH (qC (.int 0)) (ao 1) (ao 2)))))))
def iU:Mo->List Dat->Out Dat:=mQ 3 vB
def YX:SF:=
 (aC (bO (FW (aY (aA bR (dZ mj (ao 0)) (qC (.int 0)))) (aY (UG true (zQ zu) (aA aH (ao 0) (qC (.int 0)))))) (aO (qC (.bool false))) aP)
 (aC (aV (aF 1) (gOf (acS (zQ zu) (aA aH (ao 0) (qC (.int 0))))))
 (aC (aV (aF 2) (gOf (Ka (ao 0) (oO (qC (.int 1))) vJ)))
 (aO (yq (aA bR (dZ mj (ao 2)) (dZ mj (ao 1))) (dZ O8 (eO (Gk (ao 1) (ao 2)) (bF [3,4]) [3,4] iy (aR iU (ak (aq 3) (ak (aq 4) au))))))))))
def Gz:Mo->List Dat->Out Dat:=mQ 5 YX
def rG:List (Str×MV):=[("Commons",.g 4 cW)]
def uE:List (Str×MV):=[("Commons",.g 3 fW)]
def wW:List (Str×MV):=[("Commons",.g 2 j5)]
def wH:List (Str×MV):=[("Commons",.g 3 gq)]
def za:List (Str×MV):=[("Commons",.g 2 lJ)]
def iz:List (Str×MV):=[("Commons",.g 3 dJ)]
def yx:List (Str×MV):=[("Commons",.g 3 dN)]
def xH:List (Str×MV):=[("Commons",.g 3 fP)]
def yU:List (Str×MV):=[("Commons",.g 2 jN)]
def yd:List (Str×MV):=[("Commons",.g 2 jh)]
def wB:List (Str×MV):=[("Commons",.g 4 fY)]
def wz:List (Str×MV):=[("Commons",.g 3 gj)]
def wA:List (Str×MV):=[("Commons",.g 4 dY)]
def pK:List (Str×MV):=[("Commons",.g 2 gM)]
def cR:SF:=
 (aC (bO (jT (iw (aR Gz (ak (aq 1) au)))) (eX "BadDeed") aP)
 (aC (Yh 2 3 (gOf (aq 1)))
 (aC (bO (aY (aA bR (ao 2) (qC (.str "owner")))) (iD (cO gU (ao 0) au)) aP)
 (aC (bO (aY (aA bR (ao 2) (qC (.str "ground")))) (iD (cO pK (ao 0) (ak (aA aH (ao 3) (qC (.int 0))) au))) aP)
 (aC (bO (aY (aA bR (ao 2) (qC (.str "enrol")))) (iD (cO wA (ao 0) (ak (aA aH (ao 3) (qC (.int 0))) (ak (aA aH (ao 3) (qC (.int 1))) (ak (aA aH (ao 3) (qC (.int 2))) au))))) aP)
 (aC (bO (aY (aA bR (ao 2) (qC (.str "leave")))) (iD (cO wz (ao 0) (ak (aA aH (ao 3) (qC (.int 0))) (ak (aA aH (ao 3) (qC (.int 1))) au)))) aP)
 (aC (bO (aY (aA bR (ao 2) (qC (.str "bring")))) (iD (cO wB (ao 0) (ak (aA aH (ao 3) (qC (.int 0))) (ak (aA aH (ao 3) (qC (.int 1))) (ak (aA aH (ao 3) (qC (.int 2))) au))))) aP)
 (aC (bO (aY (aA bR (ao 2) (qC (.str "bear")))) (iD (cO yd (ao 0) (ak (aA aH (ao 3) (qC (.int 0))) au))) aP)
 (aC (bO (aY (aA bR (ao 2) (qC (.str "cut")))) (iD (cO yU (ao 0) (ak (aA aH (ao 3) (qC (.int 0))) au))) aP)
 (aC (bO (aY (aA bR (ao 2) (qC (.str "tear")))) (iD (cO xH (ao 0) (ak (aA aH (ao 3) (qC (.int 0))) (ak (aA aH (ao 3) (qC (.int 1))) au)))) aP)
 (aC (bO (aY (aA bR (ao 2) (qC (.str "sell")))) (iD (cO yx (ao 0) (ak (aA aH (ao 3) (qC (.int 0))) (ak (aA aH (ao 3) (qC (.int 1))) au)))) aP)
 (aC (bO (aY (aA bR (ao 2) (qC (.str "move")))) (iD (cO iz (ao 0) (ak (aA aH (ao 3) (qC (.int 0))) (ak (aA aH (ao 3) (qC (.int 1))) au)))) aP)
 (aC (bO (aY (aA bR (ao 2) (qC (.str "die")))) (iD (cO za (ao 0) (ak (aA aH (ao 3) (qC (.int 0))) au))) aP)
 (aC (bO (aY (aA bR (ao 2) (qC (.str "unite")))) (iD (cO wH (ao 0) (ak (aA aH (ao 3) (qC (.int 0))) (ak (aA aH (ao 3) (qC (.int 1))) au)))) aP)
 (aC (bO (aY (aA bR (ao 2) (qC (.str "part")))) (iD (cO wW (ao 0) (ak (aA aH (ao 3) (qC (.int 0))) au))) aP)
 (aC (bO (aY (aA bR (ao 2) (qC (.str "pass")))) (iD (cO uE (ao 0) (ak (aA aH (ao 3) (qC (.int 0))) (ak (aA aH (ao 3) (qC (.int 1))) au)))) aP)
 (iD (cO rG (ao 0) (ak (aA aH (ao 3) (qC (.int 0))) (ak (aA aH (ao 3) (qC (.int 1))) (ak (aA aH (ao 3) (qC (.int 2))) au)))))))))))))))))))))
def cD:Mo->List Dat->bx Dat:=mG 4 cR
def ou:List (Str×MV):=[("Commons",.g 2 cD)]
def Hu:SF:=
 (aC (aV (aF 3) (gOf (qC .none)))
 (aC (U6 (aV (aF 3) (cO ou (ao 0) (ak (aq 1) au))) [⟨"CommonError",fun x=>pN.lookup x,none,[(3,(.con .none))]⟩])
 (aC (bO (aY (tO false .none (ao 3))) (aO (aq 2)) aP)
 (aC (aV (bF [4,5,6]) (gOf (aq 2)))
 (aC (bO (FW (aY (aA bR (aA aH (ao 1) (qC (.int 0))) (qC (.str "owner")))) (aY (aA bR (aA aH (ao 1) (qC (.int 0))) (qC (.str "heir"))))) (Qt 4 (qC (.int 1))) aP)
 (aC (bO (aY (aA bR (aA aH (ao 1) (qC (.int 0))) (qC (.str "ground")))) (Qt 5 (qC (.int 1))) aP)
 (aC (bO (FW (aY (aA bR (aA aH (ao 1) (qC (.int 0))) (qC (.str "bring")))) (aY (aA bR (aA aH (ao 1) (qC (.int 0))) (qC (.str "bear"))))) (Qt 6 (qC (.int 1))) aP)
 (aO (bh (ak (aq 4) (ak (aq 5) (ak (aq 6) au))))))))))))
def fL:Mo->List Dat->bx Dat:=mG 7 Hu
def Pb:SF:=
 (aC (aV (aF 5) (gOf (aA aH (bh (ak (qC (.int 0)) (ak (qC (.int 0)) (ak (qC (.int 0)) (ak (qC (.int 0)) (ak (qC (.int 0)) (ak (qC (.int 1)) (ak (qC (.int 1)) (ak (qC (.int 2)) (ak (qC (.int 3)) (ak (dZ QJ (qC (.int 1))) au))))))))))) (ao 4))))
 (Gg 2 (aA oH (qC (.int 0)) (aA Ja (qC (.int 9)) (aA fu (ao 3) (ao 5))))))
def YJ:SF:=
 (aC (Bh 2 (Lw au))
 (aC (pZ (Gk (aq 0) (aq 1)) (bF [3,4]) Pb)
 (aO (dZ lQ (ao 2)))))
def Mw:Mo->List Dat->Out Dat:=mQ 6 YJ
def Kv:SF:=
 (aC (bO (aY (aA Ey (ao 1) (qC (.int 4)))) (aO (aR Mw (ak (aq 2) (ak (aq 0) au)))) aP)
 (aO (aR ux (ak (aq 0) (ak (aq 1) au)))))
def wO:Mo->List Dat->Out Dat:=mQ 3 Kv
def Yd:SF:=
 (aC (bO (iw (ao 2)) (aO (aA fu (qC (.int 1)) (aA jQ (ao 0) (aA oH (qC (.int 1)) (ao 1))))) aP)
 (aO (aA jQ (ao 0) (aA fu (ao 1) (qC (.int 2))))))
def jR:Mo->List Dat->Out Dat:=mQ 3 Yd
def jU:SF:=
 (aC (aV (aF 6) (gOf (aA tH (aA aH (ao 3) (qC (.int 6))) (qC (.int 9)))))
 (aC (aV (aF 7) (gOf (aR wO (ak (Ka (ao 3) (oO (qC (.int 8))) (oO (qC (.int 14)))) (ak (aA aH (ao 3) (qC (.int 7))) (ak (aq 5) au))))))
 (aC (bO (aY (aA bR (ao 0) (qC (.str "owner")))) (aO (bh (ak (qC (.str "owner")) au))) aP)
 (aC (bO (aY (aA bR (ao 0) (qC (.str "ground")))) (aO (bh (ak (qC (.str "ground")) (ak (aA fu (aA aH (bh (ak (qC (.int 0)) (ak (qC (.int 1)) (ak (qC (.int 2)) (ak (qC (.int 3)) (ak (qC (.int 0)) (ak (qC (.int 1)) (ak (qC (.int 5)) (ak (qC (.int 6)) (ak (qC (.int 7)) (ak (qC (.int 8)) au))))))))))) (aA aH (ao 3) (qC (.int 7)))) (aA xQ (qC (.int 4)) (dZ intD (TV (ao 6))))) au)))) aP)
 (aC (bO (gG (aY (aA bR (ao 0) (qC (.str "bring")))) (aY (aA Ey (aA aH (ao 3) (qC (.int 7))) (qC (.int 6))))) (aV (aF 7) (gOf (bh (ak (qC (.int 0)) (ak (qC (.int 0)) (ak (qC (.int 0)) (ak (qC (.int 0)) (ak (qC (.int 0)) (ak (qC (.int 0)) au))))))))) aP)
 (aC (bO (FW (aY (aA bR (ao 0) (qC (.str "enrol")))) (aY (aA bR (ao 0) (qC (.str "bring"))))) (aO (bh (ak (aq 0) (ak (aR jR (ak (aq 1) (ak (aA aH (ao 4) (qC (.int 0))) (ak (aq 6) au)))) (ak (aR jR (ak (aq 2) (ak (aA aH (ao 4) (qC (.int 1))) (ak (aq 6) au)))) (ak (aq 7) au)))))) aP)
 (aC (bO (aY (aA bR (ao 0) (qC (.str "leave")))) (aO (bh (ak (aq 0) (ak (aR jR (ak (aq 1) (ak (aA aH (ao 4) (qC (.int 0))) (ak (aq 6) au)))) (ak (aR jR (ak (aq 2) (ak (aA aH (ao 4) (qC (.int 1))) (ak (aq 6) au)))) au))))) aP)
 (aC (bO (aY (aA bR (ao 0) (qC (.str "heir")))) (aO (bh (ak (aq 0) (ak (aR jR (ak (aq 1) (ak (aA aH (ao 4) (qC (.int 0))) (ak (aq 6) au)))) (ak (aR jR (ak (aq 2) (ak (aA aH (ao 4) (qC (.int 1))) (ak (aq 6) au)))) (ak (aA jQ (aA aH (ao 3) (qC (.int 7))) (qC (.int 4))) au)))))) aP)
 (aC (bO (aY (aA bR (ao 0) (qC (.str "pass")))) (aO (bh (ak (aq 0) (ak (aR jR (ak (aq 1) (ak (aA aH (ao 4) (qC (.int 0))) (ak (aq 6) au)))) (ak (aR jR (ak (aq 2) (ak (aA aH (ao 4) (qC (.int 0))) (ak (aq 6) au)))) au))))) aP)
 (aC (bO (aY (aA bR (ao 0) (qC (.str "unite")))) (aO (bh (ak (aq 0) (ak (aR jR (ak (aq 1) (ak (aA aH (ao 4) (qC (.int 1))) (ak (aq 6) au)))) (ak (aR jR (ak (aq 2) (ak (aA aH (ao 4) (qC (.int 1))) (ak (aq 6) au)))) au))))) aP)
 (aC (bO (aY (aA bR (ao 0) (qC (.str "part")))) (aO (bh (ak (aq 0) (ak (aR jR (ak (aq 1) (ak (aA aH (ao 4) (qC (.int 1))) (ak (aq 6) au)))) au)))) aP)
 (aC (bO (aY (aA bR (ao 0) (qC (.str "tear")))) (aO (bh (ak (aq 0) (ak (aR jR (ak (aq 1) (ak (aA aH (ao 4) (qC (.int 2))) (ak (aq 6) au)))) (ak (aA jQ (aA aH (ao 3) (qC (.int 7))) (qC (.int 6))) au))))) aP)
 (aC (bO (aY (aA bR (ao 0) (qC (.str "sell")))) (aO (bh (ak (aq 0) (ak (aR jR (ak (aq 1) (ak (aA aH (ao 4) (qC (.int 2))) (ak (aq 6) au)))) (ak (aR jR (ak (aq 2) (ak (aA aH (ao 4) (qC (.int 0))) (ak (aq 6) au)))) au))))) aP)
 (aC (bO (aY (aA bR (ao 0) (qC (.str "move")))) (aO (bh (ak (aq 0) (ak (aR jR (ak (aq 1) (ak (aA aH (ao 4) (qC (.int 2))) (ak (aq 6) au)))) (ak (aR jR (ak (aq 2) (ak (aA aH (ao 4) (qC (.int 1))) (ak (aq 6) au)))) au))))) aP)
 (aO (bh (ak (aq 0) (ak (aR jR (ak (aq 1) (ak (aA aH (ao 4) (qC (.int 2))) (ak (aq 6) au)))) au))))))))))))))))))
def fM:Mo->List Dat->Out Dat:=mQ 8 jU
def Jl:SF:=
 (aC (aV (aF 3) (sJ fL (ak (aq 0) (ak (bh (ak (qC (.str "bring")) (ak (qC (.int 1)) (ak (qC (.int 1)) (ak (bh (ak (qC (.int 0)) (ak (qC (.int 0)) (ak (qC (.int 0)) (ak (qC (.int 0)) (ak (qC (.int 0)) (ak (qC (.int 0)) au))))))) au))))) (ak (aq 3) au)))))
 (aV (aF 3) (sJ fL (ak (aq 0) (ak (bh (ak (qC (.str "cut")) (ak (aA aH (ao 3) (qC (.int 2))) au))) (ak (aq 3) au))))))
def Dm:SF:=
 (aC (aV (aF 8) (gOf (aR vY (ak (aq 7) (ak (qC (.int 14)) (ak (qC (.int 10)) au))))))
 (aC (aV (aF 9) (gOf (aR Bg (ak (aA fu (aA xQ (aA aH (ao 8) (qC (.int 0))) (qC (.int 10))) (aA aH (ao 8) (qC (.int 1)))) au))))
 (aC (aV (aF 10) (gOf (aA fu (aA xQ (aA aH (ao 8) (qC (.int 2))) (qC (.int 10))) (aA aH (ao 8) (qC (.int 3))))))
 (aC (aV (aF 11) (gOf (aA fu (aA xQ (aA aH (ao 8) (qC (.int 4))) (qC (.int 10))) (aA aH (ao 8) (qC (.int 5))))))
 (aC (bO (aY (aA Ey (ao 6) (dZ mj (ao 5)))) (aV (bF [9,10,11]) (gOf (aA aH (ao 5) (ao 6)))) aP)
 (aV (aF 3) (sJ fL (ak (aq 0) (ak (aR fM (ak (aq 9) (ak (aq 10) (ak (aq 11) (ak (aq 8) (ak (aq 3) (ak (aq 4) au))))))) (ak (aq 3) au))))))))))
def SJ:SF:=
 (aC (aV (aF 3) (gOf (bh (ak (qC (.int 0)) (ak (qC (.int 0)) (ak (qC (.int 0)) au))))))
 (aC (aV (aF 4) (gOf (aR zH (ak (aA uf (ao 2) (qC (.int 512))) au))))
 (aC (aV (aF 5) (gOf (aR vL (ak (aq 2) au))))
 (aC (pZ (xZ 0 (aq 1)) (bF [6,7]) Dm)
 (aC (bO (aY (aA bR (aA jQ (aA uf (ao 2) (qC (.int 8))) (qC (.int 8))) (qC (.int 1)))) (pZ (Cz (aA xQ (aA jQ (aA uf (ao 2) (qC (.int 64))) (qC (.int 8))) (qC (.int 4)))) (aF 12) Jl) aP)
 (aO (aq 3)))))))
def Dr:Mo->List Dat->bx Dat:=mG 13 SJ
def ZJ:SF:=
 (aC (bO (aY (aA Ey (ao 1) (dZ mj (ao 0)))) (aO (aA aH (ao 0) (ao 1))) aP)
 (aO (qC (.int 0))))
def vo:Mo->List Dat->Out Dat:=mQ 2 ZJ
def T8:SF:=
 (aC (aV (aF 4) (gOf (aR vY (ak (aq 1) (ak (qC (.int 14)) (ak (qC (.int 10)) au))))))
 (aO (aR fM (ak (aq 0) (ak (aA fu (aA xQ (aA aH (ao 4) (qC (.int 2))) (qC (.int 10))) (aA aH (ao 4) (qC (.int 3)))) (ak (aA fu (aA xQ (aA aH (ao 4) (qC (.int 4))) (qC (.int 10))) (aA aH (ao 4) (qC (.int 5)))) (ak (aq 4) (ak (aq 2) (ak (aR zH (ak (aA uf (ao 3) (qC (.int 512))) au)) au)))))))))
def jL:Mo->List Dat->Out Dat:=mQ 5 T8
def uV:SF:=
 (aC (bO (jT (jW pH pH (qC (.int 1)) (ao 1) (dZ mj (aA aH (ao 0) (qC (.int 3)))))) (aO (qC (.str "NoBeast"))) aP)
 (aC (bO (jT (iw (aA aH (aA aH (aA aH (ao 0) (qC (.int 3))) (aA iK (ao 1) (qC (.int 1)))) (qC (.int 4))))) (aO (qC (.str "Dead"))) aP)
 (aC (bO (gG (iw (ao 2)) (aY (tO false .none (aA aH (aA aH (aA aH (ao 0) (qC (.int 3))) (aA iK (ao 1) (qC (.int 1)))) (qC (.int 2)))))) (aO (qC (.str "Unmarked"))) aP)
 (aO (qC (.str ""))))))
def oF:Mo->List Dat->Out Dat:=mQ 3 uV
def zm:SF:=
 (bO (FW (aY (aA bR (ao 1) (xO au))) (aY (aA tH (aA aH (ao 1) (dZ QJ (qC (.int 1)))) (ao 2)))) (Gg 1 (aq 2)) aP)
def aaf:SF:=
 (aC (Bh 1 (Lw au))
 (aC (pZ (cV (dZ zR (ao 0))) (aF 2) zm)
 (aO (aq 1))))
def LQ:Mo->List Dat->Out Dat:=mQ 3 aaf
def mF:SF:=
 (bO (gG (iw (aA aH (ao 5) (qC (.int 4)))) (gG (aY (tO true .none (aA aH (ao 5) (qC (.int 2))))) (gG (aY (aA (inD false) (aA aH (ao 5) (qC (.int 1))) (ao 1))) (aY (aA tH (aA fu (ao 4) (qC (.int 1))) (ao 2)))))) (Gg 3 (bh (ak (aA aH (ao 5) (qC (.int 0))) (ak (aA aH (ao 5) (qC (.int 2))) au)))) aP)
def M7:SF:=
 (aC (Bh 3 (Bc (cV (aA aH (ao 0) (qC (.int 2)))) (bF [6,7,8]) [6,7,8] (aY (aA (inD false) (ao 7) (ao 1))) (bh (ak (aq 6) (ak (aq 8) au)))))
 (aC (pZ (xZ 0 (aA aH (ao 0) (qC (.int 3)))) (bF [4,5]) mF)
 (aO (aR LQ (ak (aq 3) au)))))
def Bb:Mo->List Dat->Out Dat:=mQ 9 M7
def U0:SF:=
 (aO (dZ Va (eO (Gk (ao 0) (ao 1)) (bF [2,3]) [2,3] iy (aA oH (qC (.int 0)) (aA iK (ao 3) (ao 2))))))
def Cy:Mo->List Dat->Out Dat:=mQ 4 U0
def adb:SF:=
 (aO (aA oH (aR Cy (ak (aq 0) (ak (aq 1) au))) (aR Cy (ak (aq 1) (ak (aq 0) au)))))
def Tp:Mo->List Dat->Out Dat:=mQ 2 adb
def jO:SF:=
 (bO (gG (aY (aA tH (aA aH (ao 5) (qC (.int 0))) (ao 1))) (aY (aA pH (aR Tp (ak (aA aH (ao 5) (qC (.int 1))) (ak (aq 2) au))) (ao 3)))) (bO (FW (aY (tO false .none (ao 4))) (aY (aA Ey (ao 5) (ao 4)))) (aV (aF 4) (gOf (aq 5))) aP) aP)
def Gj:SF:=
 (aC (aV (aF 4) (gOf (qC .none)))
 (aC (pZ (cV (aq 0)) (aF 5) jO)
 (aO (aq 4))))
def vm:Mo->List Dat->Out Dat:=mQ 6 Gj
def MP:SF:=
 (aO (dZ maxD (eO (cV (aA aH (aA aH (aA aH (ao 0) (qC (.int 1))) (aA iK (ao 1) (qC (.int 1)))) (qC (.int 1)))) (aF 2) [2] iy (aA aH (aA aH (aA aH (ao 0) (qC (.int 1))) (aA iK (ao 2) (qC (.int 1)))) (qC (.int 0))))))
def Aa:Mo->List Dat->Out Dat:=mQ 3 MP
def acp:SF:=
 (aO (dZ lQ (eO (Gk (ao 0) (ao 1)) (bF [2,3]) [2,3] iy (aA oH (ao 2) (ao 3)))))
def Tq:Mo->List Dat->Out Dat:=mQ 4 acp
def NK:SF:=
 (aC (aV (aF 5) (gOf (aR Bb (ak (aq 0) (ak (aA aH (aA aH (aA aH (ao 0) (qC (.int 1))) (aA iK (ao 1) (qC (.int 1)))) (qC (.int 1))) (ak (aq 2) au))))))
 (aC (aV (aF 6) (gOf (aR vm (ak (aq 5) (ak (aq 3) (ak (aq 4) (ak (aR Aa (ak (aq 0) (ak (aq 1) au))) au)))))))
 (aC (bO (aY (tO false .none (ao 6))) (aO (qC .none)) aP)
 (aO (bh (ak (qC (.str "Clash")) (ak (bh (ak (bh (ak (aq 3) (ak (aq 4) au))) (ak (aq 6) (ak (aR Tq (ak (aq 4) (ak (aA aH (ao 6) (qC (.int 1))) au))) au)))) au)))))))
def CG:Mo->List Dat->Out Dat:=mQ 7 NK
def Io:SF:=
 (aO (bh (ak (aq 1) (ak (aq 2) (ak (aq 3) (ak (aq 4) (ak (aA aH (ao 0) (qC (.int 4))) (ak (aA aH (ao 0) (qC (.int 5))) (ak (aA fu (aA aH (ao 0) (qC (.int 6))) (bh (ak (aq 5) au))) au)))))))))
def qN:Mo->List Dat->Out Dat:=mQ 6 Io
def qI:SF:=
 (aC (bO (gG (aY (aA bR (aA aH (ao 4) (qC (.int 5))) (ao 1))) (gG (iw (aA aH (ao 4) (qC (.int 4)))) (aY (tO false .none (aA aH (ao 4) (qC (.int 2))))))) (aV (aF 4) (gOf (aR qN (ak (aq 4) (ak (aA aH (ao 3) (qC (.int 0))) (ak (aA aH (ao 3) (qC (.int 1))) (ak (qC .none) (ak (aA aH (ao 4) (qC (.int 3))) (ak (bh (ak (qC (.str "followed")) (ak (aA aH (ao 3) (qC (.int 0))) (ak (aA aH (ao 3) (qC (.int 1))) au)))) au))))))))) aP)
 (Gg 2 (aq 4)))
def Pa:SF:=
 (aC (Bh 2 (Lw au))
 (aC (aV (aF 3) (gOf (aA aH (ao 0) (aA iK (ao 1) (qC (.int 1))))))
 (aC (pZ (cV (aq 0)) (aF 4) qI)
 (aO (aq 2)))))
def DP:Mo->List Dat->Out Dat:=mQ 5 Pa
def yX:SF:=
 (aO (RP (jW pH pH (qC (.int 1)) (ao 1) (dZ mj (aA aH (ao 0) (qC (.int 1)))))))
def qd:Mo->List Dat->Out Dat:=mQ 2 yX
def Im:SF:=
 (aO (eO (cV (aA aH (ao 0) (qC (.int 2)))) (aF 3) [3] (gG (aY (aA bR (aA aH (ao 3) (qC (.int 0))) (ao 1))) (aY (aA bR (aA aH (ao 3) (qC (.int 1))) (ao 2)))) (aA aH (ao 3) (qC (.int 2)))))
def w6:Mo->List Dat->Out Dat:=mQ 4 Im
def zX:SF:=
 (aC (aV (aF 3) (gOf (aR oF (ak (aq 0) (ak (aq 1) (ak (qC (.bool true)) au))))))
 (aC (bO (aY (aA tH (ao 3) (qC (.str "")))) (aO (bh (ak (aq 3) (ak (qC .none) (ak (aq 0) au))))) aP)
 (aC (aV (aF 4) (gOf (aA aH (aA aH (ao 0) (qC (.int 3))) (aA iK (ao 1) (qC (.int 1))))))
 (aC (bO (jT (iw (aR qd (ak (aq 0) (ak (aq 2) au))))) (aV (aF 3) (gOf (qC (.str "NoGround")))) (bO (aY (aA bR (ao 2) (aA aH (ao 4) (qC (.int 1))))) (aV (aF 3) (gOf (qC (.str "SameGround")))) (bO (aY (aA bR (aR w6 (ak (aq 0) (ak (aA aH (ao 4) (qC (.int 0))) (ak (aq 2) au)))) (xO au))) (aV (aF 3) (gOf (qC (.str "NoRight")))) aP)))
 (aC (bO (aY (aA tH (ao 3) (qC (.str "")))) (aO (bh (ak (aq 3) (ak (qC .none) (ak (aq 0) au))))) aP)
 (aC (aV (aF 5) (gOf (aR CG (ak (aq 0) (ak (aq 2) (ak (qC (.int 0)) (ak (aA aH (ao 4) (qC (.int 0))) (ak (aA aH (ao 4) (qC (.int 2))) au))))))))
 (aC (bO (aY (tO true .none (ao 5))) (aO (bh (ak (aA aH (ao 5) (qC (.int 0))) (ak (aA aH (ao 5) (qC (.int 1))) (ak (aq 0) au))))) aP)
 (aC (aV (aF 6) (gOf (aA aH (ao 4) (qC (.int 1)))))
 (aC (aV (aF 4) (gOf (aR qN (ak (aq 4) (ak (aA aH (ao 4) (qC (.int 0))) (ak (aq 2) (ak (aA aH (ao 4) (qC (.int 2))) (ak (aA aH (ao 4) (qC (.int 3))) (ak (bh (ak (qC (.str "moved")) (ak (aq 2) au))) au)))))))))
 (aC (aV (aF 7) (gOf (aR DP (ak (aA fu (aA fu (Ka (aA aH (ao 0) (qC (.int 3))) vJ (oO (aA iK (ao 1) (qC (.int 1))))) (xO (ak (aq 4) au))) (Ka (aA aH (ao 0) (qC (.int 3))) (oO (ao 1)) vJ)) (ak (aq 1) au)))))
 (aO (bh (ak (qC (.str "")) (ak (aq 6) (ak (bh (ak (aA aH (ao 0) (qC (.int 0))) (ak (aA aH (ao 0) (qC (.int 1))) (ak (aA aH (ao 0) (qC (.int 2))) (ak (aq 7) au))))) au)))))))))))))))
def vU:Mo->List Dat->Out Dat:=mQ 8 zX
def Ky:SF:=
 (aC (aV (aF 3) (gOf (qC (.str ""))))
 (aC (aV (aF 4) (gOf (qC .none)))
 (aC (U6 (aV (aF 4) (cO iz (ao 0) (ak (aq 1) (ak (aq 2) au)))) [⟨"NoBeast",fun x=>BZ.lookup x,none,[(3,(.con (.str "NoBeast")))]⟩,⟨"Dead",fun x=>Nk.lookup x,none,[(3,(.con (.str "Dead")))]⟩,⟨"Unmarked",fun x=>zV.lookup x,none,[(3,(.con (.str "Unmarked")))]⟩,⟨"NoGround",fun x=>zY.lookup x,none,[(3,(.con (.str "NoGround")))]⟩,⟨"SameGround",fun x=>v9.lookup x,none,[(3,(.con (.str "SameGround")))]⟩,⟨"NoRight",fun x=>Cr.lookup x,none,[(3,(.con (.str "NoRight")))]⟩,⟨"Clash",fun x=>QM.lookup x,some 5,[(3,(.con (.str "Clash"))),(4,(.flds ["ones","others","ear"]))]⟩])
 (aO (bh (ak (aq 3) (ak (aq 4) au)))))))
def Ds:Mo->List Dat->bx Dat:=mG 6 Ky
def X4:SF:=
 (aC (bO (aY (aA Ey (ao 0) (qC (.int 0)))) (aO (aA iK (qC (.int 0)) (aA jQ (aA iK (qC (.int 0)) (ao 0)) (aA Qq (qC (.int 10)) (qC (.int 30)))))) aP)
 (aO (aA jQ (ao 0) (aA Qq (qC (.int 10)) (qC (.int 30))))))
def Nh:Mo->List Dat->Out Dat:=mQ 1 X4
def X5:SF:=
 (aC (bO (aY (aA bR (aA jQ (ao 1) (qC (.int 13))) (ao 2))) (aO (aR Nh (ak (aA uf (ao 1) (qC (.int 13))) au))) aP)
 (aO (aq 0)))
def IW:Mo->List Dat->Out Dat:=mQ 3 X5
def T5:SF:=
 (aO (yq (wV .int (ao 0)) (TV (wV .bool (ao 0)))))
def Ie:Mo->List Dat->Out Dat:=mQ 1 T5
def QD(r:Mo->List Dat->Out Dat):SF:=
 (bO (jT (iw (aR r (ak (aq 2) (ak (aq 3) au))))) (aO (qC (.bool false))) aP)
def Hz(r:Mo->List Dat->Out Dat):SF:=
 (aC (bO (aY (tO false .none (ao 1))) (aO (tO false .none (ao 0))) aP)
 (aC (bO (aY (tO false (.bool true) (ao 1))) (aO (tO false (.bool true) (ao 0))) aP)
 (aC (bO (aY (tO false (.bool false) (ao 1))) (aO (tO false (.bool false) (ao 0))) aP)
 (aC (bO (iw (wV .int (ao 1))) (aO (yq (aR Ie (ak (aq 0) au)) (aA bR (ao 0) (ao 1)))) aP)
 (aC (bO (iw (wV .str (ao 1))) (aO (yq (wV .str (ao 0)) (aA bR (ao 0) (ao 1)))) aP)
 (aC (bO (gG (iw (wV .tuple (ao 1))) (jT (iw (wV .tuple (ao 0))))) (aO (qC (.bool false))) aP)
 (aC (bO (gG (iw (wV .list (ao 1))) (jT (iw (wV .list (ao 0))))) (aO (qC (.bool false))) aP)
 (aC (bO (aY (aA tH (dZ mj (ao 0)) (dZ mj (ao 1)))) (aO (qC (.bool false))) aP)
 (aC (pZ (Gk (aq 0) (aq 1)) (bF [2,3]) (QD r))
 (aO (qC (.bool true))))))))))))
def lO:Nat->Mo->List Dat->Out Dat
 |0=>fun _ _=>.bad
 |n+1=>mQ 4 (Hz (lO n))
def lE:List (Str×MV):=[("Commons",.q 1 mO)]
def XS:SF:=
 (aC (aV (aF 1) (Bl "Commons" mK au))
 (aC (aV (aF 2) (gOf (dZ Vb (aR vo (ak (aq 0) (ak (qC (.int 0)) au))))))
 (aC (aV (aF 3) (sJ Dr (ak (aq 1) (ak (Ka (ao 0) (oO (qC (.int 2))) (oO (qC (.int 44)))) (ak (aq 2) au)))))
 (aC (aV (aF 4) (gOf (aR vo (ak (aq 0) (ak (qC (.int 1)) au)))))
 (aC (aV (aF 5) (gOf (aR jL (ak (qC (.str "move")) (ak (aq 4) (ak (aq 3) (ak (aq 2) au)))))))
 (aC (sPN [6,7] (ak (aR IW (ak (aA aH (ao 5) (qC (.int 1))) (ak (aq 4) (ak (qC (.int 3)) au)))) (ak (aR IW (ak (aA aH (ao 5) (qC (.int 2))) (ak (aq 4) (ak (qC (.int 4)) au)))) au)))
 (aC (bO (aY (aA bR (aA jQ (aA uf (ao 4) (qC (.int 3))) (qC (.int 2))) (qC (.int 0)))) (aC (aV (aF 3) (sJ fL (ak (aq 1) (ak (bh (ak (qC (.str "bear")) (ak (aA aH (ao 5) (qC (.int 1))) au))) (ak (aq 3) au)))))
 (aV (aF 3) (sJ fL (ak (aq 1) (ak (bh (ak (qC (.str "bear")) (ak (aA aH (ao 5) (qC (.int 1))) au))) (ak (aq 3) au)))))) aP)
 (aC (aV (aF 8) (gOf (aW lE (ao 1) au)))
 (aC (bO (gG (aY (aA bR (aA jQ (aA uf (ao 4) (qC (.int 7))) (qC (.int 2))) (qC (.int 0)))) (jW Ey pH (qC (.int 0)) (aA aH (ao 5) (qC (.int 1))) (dZ mj (aA aH (ao 8) (qC (.int 3)))))) (aC (aV (aF 9) (gOf (aR zH (ak (aA uf (ao 4) (qC (.int 5))) au))))
 (aV (aF 3) (sJ fL (ak (aq 1) (ak (bh (ak (qC (.str "enrol")) (ak (aA aH (aA aH (aA aH (ao 8) (qC (.int 3))) (aA iK (aA aH (ao 5) (qC (.int 1))) (qC (.int 1)))) (qC (.int 0))) (ak (aA aH (ao 5) (qC (.int 2))) (ak (aq 9) au))))) (ak (aq 3) au)))))) aP)
 (aC (aV (aF 8) (gOf (aW lE (ao 1) au)))
 (aC (aV (aF 10) (gOf (aR vU (ak (aq 8) (ak (aq 6) (ak (aq 7) au))))))
 (aC (aV (aF 11) (sJ Ds (ak (aq 1) (ak (aq 6) (ak (aq 7) au)))))
 (aO (yq (aR (lO 10) (ak (aq 11) (ak (Ka (ao 10) vJ (oO (qC (.int 2)))) au))) (aR (lO 10) (ak (aW lE (ao 1) au) (ak (aA aH (ao 10) (qC (.int 2))) au)))))))))))))))))
def SM:Mo->List Dat->bx Dat:=mG 12 XS
theorem Xp:FnScope ["self","ones","others","ear"] ["self","ones","others","ear"] (defScope Kw):=⟨rfl,rfl,rfl,by decide +kernel,rfl,by decide +kernel,by decide +kernel⟩
abbrev rX(N:List Str)(s:Stmt)(G:List (Str×GV))(B:List Str)(Ms:List (Str×List (Str×MV)))(ml:List Str):Option SF:=rd ⟨N,defScope s,G,B,⟨Ms,j8,xmH,dfH,Xf⟩,ml,true⟩ (defBody s)
abbrev rY(N:List Str)(s:Stmt)(G:List (Str×GV))(B:List Str)(Ms:List (Str×List (Str×MV)))(ml:List Str):Option SF:=rdG ⟨N,defScope s,G,B,⟨Ms,j8,xmH,dfH,Xf⟩,ml,true⟩ (defBody s)
theorem aiz:FnScope ["_law_found","_law_due_here","_law_one","_law_other"] ["_law_found","_law_due_here"] (defScope S7):=⟨rfl,rfl,rfl,by decide +kernel,rfl,by decide +kernel,by decide +kernel⟩
theorem akM:FnScope ["_law_script","_law_house","_law_head","_law_counts","_law_cell_here","_law_deed_here","_law_beast","_law_ground","_law_stand","_law_mark","_law_due_here","_law_told"] ["_law_script"] (defScope Nr):=⟨rfl,rfl,rfl,by decide +kernel,rfl,by decide +kernel,by decide +kernel⟩
theorem Ve:rY ["self"] Gq [] [] [] []=some yK:=by kernel_rfl
theorem XF:rY ["self"] JZ [] [] [] []=some Bp:=by kernel_rfl
theorem aaY:rY ["self"] O2 [] [] [] []=some Gi:=by kernel_rfl
theorem Vp:rY ["self"] HD [("Herd",.cls 0 zN),("Rights",.cls 0 vR),("Grounds",.cls 0 uW)] [] [] []=some zp:=by kernel_rfl
theorem Xi:rX ["self"] JL [] [] [] []=some Bo:=by kernel_rfl
theorem aaG:rX ["self"] K9 [] ["tuple"] [("stand",mV)] []=some CZ:=by kernel_rfl
theorem P0:rX ["self"] Dy [] ["list"] [] []=some wF:=by kernel_rfl
theorem Oh:rX ["self"] BX [] ["list"] [] []=some u5:=by kernel_rfl
theorem Vq:rX ["self"] Hh [] ["len"] [] []=some uL:=by kernel_rfl
theorem XH:rX ["self","ground"] JR [] [] [("many",eY)] []=some Bj:=by kernel_rfl
theorem Ur:rX ["self","ground"] Ik [("NoGround",.exc)] [] [("has",yM)] []=some yS:=by kernel_rfl
theorem Kl:rX ["self","ground"] yG [] [] [("need",aG)] []=some nO:=by kernel_rfl
theorem KY:rX ["self","ground"] Ar [] ["list"] [("need",aG)] []=some oR:=by kernel_rfl
theorem K7:rX ["self","ground"] Ae [] [] [("together",bD)] []=some oN:=by kernel_rfl
theorem Vk:rX ["self","grounds","beasts","ground","beast"] HJ [] ["range","tuple"] [("all_rows",uh),("owners",uZ),("told",vW),("many",eY),("together",bT),("allowance",dR)] []=some yZ:=by kernel_rfl
theorem ams:rX ["_law_cell_here","_law_many","_law_base","_law_found","_law_k","_law_turn"] s_row [] ["range","abs"] [] ["_law_found"]=some acI:=by kernel_rfl
theorem agJ:rX ["_law_figures","_law_mode","_law_figure"] ZM [] ["tuple","max"] [] []=some Qa:=by kernel_rfl
theorem amH:rX ["_law_cell_here","_law_figures"] agW [("_law_ear_by",.fq 2 ux),("_law_row",.fq 3 vY)] [] [] []=some acJ:=by kernel_rfl
theorem aa4:rX ["_law_head","_law_rows"] OD [] [] [] []=some Ge:=by kernel_rfl
theorem adG:rX ["_law_figure","_law_some"] W7 [] [] [] []=some Mj:=by kernel_rfl
theorem Jb:rX ["self","owner"] yc [("NoOwner",.exc)] [] [] []=some lY:=by kernel_rfl
theorem U4:rX ["self","owner","ground","holder","where","mark"] GZ [] [] [] []=some yJ:=by kernel_rfl
theorem KZ:rX ["self","owner","ground"] Ao [] ["len"] [("marks",cM)] []=some uw:=by kernel_rfl
theorem JB:rX ["self","owner","ground"] xg [("NoRight",.exc)] [] [("has_right",rW)] []=some qR:=by kernel_rfl
theorem Ke:rY ["self"] yD [] [] [] []=some rH:=by kernel_rfl
theorem KJ:rY ["self","owner","ground","mark","row"] Ay [("HasRight",.exc)] [] [] []=some oG:=by kernel_rfl
theorem alx:rX ["ear","many","heads","depth","head","left","cut"] adH [("GREATEST_DEPTH",.con cU)] ["range","min"] [] []=some YS:=by kernel_rfl
theorem aio:rX ["one","other","here","there"] abl [] ["sum","zip"] [] []=some Vs:=by kernel_rfl
theorem aaR:rX ["mark","extra","ear"] Ou [("lacks",.fq 2 uK),("torn",.fq 2 Ln)] [] [] []=some FP:=by kernel_rfl
theorem aiM:rX ["one","other"] abJ [("lacks",.fq 2 uK)] ["max"] [] []=some Ul:=by kernel_rfl
theorem alN:rX ["one","other","room"] adD [("apart",.fq 2 Hw)] [] [] []=some Y0:=by kernel_rfl
theorem ZF:rX ["mark","extra","rows","room","ear","owner","taken"] Kz [("NoneFree",.exc),("offspring",.fq 2 vN),("meet",.fq 3 qU)] ["any"] [] []=some xU:=by kernel_rfl
theorem Jy:rX ["self","owner","ground"] yh [] [] [("marks",cM)] []=some qK:=by kernel_rfl
theorem agG:rX ["rows"] Z4 [] ["sorted","set"] [] []=some Qw:=by kernel_rfl
theorem Oj:rX ["self","number","beast"] BK [] ["enumerate"] [] []=some vh:=by kernel_rfl
theorem Ug:rX ["self","grounds","number","beast"] Hj [] [] [("all_living",dO)] []=some zf:=by kernel_rfl
theorem Kf:rX ["self","grounds","owner","ground","mark"] yC [] [] [] []=some rR:=by kernel_rfl
theorem Gf:rX ["self","left_out","ground","near","due","number","beast"] vA [("tidied",.fq 1 qL)] [] [("in_grounds",qG),("grazing",jE),("together",bT)] []=some j9:=by kernel_rfl
theorem Mv:rX ["self","ground"] Aj [] [] [("standing_but",cY)] []=some oU:=by kernel_rfl
theorem U5:rX ["self","ground","near"] Il [] ["max"] [("together",bD),("allowance",dR)] []=some uR:=by kernel_rfl
theorem Uk:rX ["self","ground"] HF [] [] [("room",sE)] []=some uN:=by kernel_rfl
theorem K6:rY ["self","elder","ground","extra","mark","heir"] Ab [("first_free",.fq 4 pO),("BadExtra",.exc),("FEWEST_EXTRA",.con jg),("MOST_EXTRA",.con kW)] [] [("add_right",iJ),("new_owner",gU),("room",cA),("standing",cH),("first_mark",bW),("need_right",aN),("need",aG),("need_owner",aD)] []=some dW:=by kernel_rfl
theorem Ju:rY ["self","allowance"] xY [("BadAllowance",.exc),("GREATEST_ALLOWANCE",.con gW)] [] [("many",eY)] []=some ju:=by kernel_rfl
theorem Jk:rY ["self","allowance"] yw [] [] [("add_ground",lH)] []=some mD:=by kernel_rfl
theorem aew:rX ["owner","ear","rows","room","holder","mark"] V7 [("meet",.fq 3 qU),("tidied",.fq 1 qL)] [] [] []=some Mu:=by kernel_rfl
theorem ahA:rX ["one","other","here","there"] ab8 [] ["tuple","zip","max"] [] []=some Uv:=by kernel_rfl
theorem ac0:rX ["owner","ear","rows","room","bars","holder","mark"] QZ [("Clash",.exi ["ones","others","ear"]),("joint",.fq 2 pY),("barring",.fq 4 Ba)] [] [] []=some Ck:=by kernel_rfl
theorem JF:rX ["self","owner","ear","ground"] wZ [("ask_room",.fq 4 oX)] [] [("room",cA),("standing",cH)] []=some lZ:=by kernel_rfl
theorem agO:rX ["parts","depth"] Yx [("GREATEST_DEPTH",.con cU),("PLACES",.con iY)] ["all","len"] [] []=some JH:=by kernel_rfl
theorem acE:rX ["parts"] TX [("BadEar",.exc),("is_ear",.fq 1 tG)] [] [] []=some JG:=by kernel_rfl
theorem R8:rY ["self","owner","ground","mark"] Eb [("HasRight",.exc),("Bare",.exc),("BARE_EAR",.con jw),("need_ear",.fq 1 qw)] [] [("add_right",iJ),("ask_ground",bV),("marks",cM),("need",aG),("need_owner",aD)] []=some fX:=by kernel_rfl
theorem Xy:rY ["self","owner","ground","gone","mark"] JN [("NoRight",.exc)] [] [("marks",cM)] []=some vX:=by kernel_rfl
theorem Td:rY ["self","owner","ground","number","beast"] Ef [("StillThere",.exc)] ["any"] [("drop",yL),("grazing",jE),("need_right",aN),("need",aG),("need_owner",aD)] []=some jD:=by kernel_rfl
theorem Qi:rY ["self","stand","owner","ground","due","ear","alive"] Dg [] [] [] []=some qO:=by kernel_rfl
theorem ahy:rX ["first","word","mother","owner","ground","ear"] abA [("BARE_EAR",.con jw)] [] [] []=some Nv:=by kernel_rfl
theorem aak:rY ["self","first"] Le [("begun",.fq 1 CN)] [] [("stand_so",jM)] []=some DR:=by kernel_rfl
theorem QH:rY ["self","first"] DQ [("Beast",.cls 1 tL)] ["len"] [] []=some wC:=by kernel_rfl
theorem Sv:rY ["self","owner","ground","ear"] Fq [("need_ear",.fq 1 qw)] [] [("add_beast",jK),("need_right",aN),("need",aG),("need_owner",aD)] []=some jG:=by kernel_rfl
theorem Y7:rX ["self","number"] M6 [("NoBeast",.exc)] ["len"] [] []=some uz:=by kernel_rfl
theorem Xr:rX ["self","number","beast"] JX [("Dead",.exc)] [] [("known",fK)] []=some vP:=by kernel_rfl
theorem Xk:rX ["self","number","beast"] J8 [("Unmarked",.exc)] [] [("living",bH)] []=some qT:=by kernel_rfl
theorem Ua:rY ["self","mother","cow"] Ih [] [] [("add_beast",jK),("marked",bB)] []=some mJ:=by kernel_rfl
theorem acZ:rX ["ear","place","at","depth"] Rp [] ["tuple","enumerate"] [] []=some JC:=by kernel_rfl
theorem ado:rX ["stand","event","owner","ground","due","ear","alive","word"] V5 [("deepened",.fq 2 xR)] [] [] []=some La:=by kernel_rfl
theorem Vy:rY ["self","event"] Gm [("gone_on",.fq 2 Ai)] [] [("stand_so",jM),("stand",mV)] []=some yN:=by kernel_rfl
theorem Xz:rY ["self","beast","found","due"] J9 [("joint",.fq 2 pY)] [] [("befall",bQ),("ask_ground",bV),("first_mark",bW),("living",bH)] []=some oA:=by kernel_rfl
theorem Vl:rY ["self","beast","place","found"] Gp [("Deepest",.exc),("GREATEST_DEPTH",.con cU),("NoPlace",.exc),("PLACES",.con iY)] ["len"] [("befall",bQ),("living",bH)] []=some jc:=by kernel_rfl
theorem XD:rX ["self","mother","number","beast"] J5 [] [] [("all_living",dO),("known",fK)] []=some v8:=by kernel_rfl
theorem KD:rY ["self","mother","beast","number","calf"] Ah [] [] [("calves",zF),("befall",bQ),("known",fK)] []=some sY:=by kernel_rfl
theorem Ud:rY ["self","beast","buyer","found","due"] GX [("ask_room",.fq 4 oX),("joint",.fq 2 pY),("SameOwner",.exc)] [] [("lead_calves",iH),("befall",bQ),("room",cA),("standing_but",cY),("first_mark",bW),("need_right",aN),("need_owner",aD),("marked",bB)] []=some fQ:=by kernel_rfl
theorem VD:rY ["self","beast","ground","found","left"] HS [("SameGround",.exc)] [] [("lead_calves",iH),("befall",bQ),("ask_ground",bV),("need_right",aN),("need",aG),("marked",bB)] []=some fO:=by kernel_rfl
theorem XR:rY ["self","beast"] JQ [] [] [("befall",bQ),("living",bH)] []=some qZ:=by kernel_rfl
theorem acV:rX ["rows","room","tidy","at","row","greater"] R5 [("meet",.fq 3 qU),("tidied",.fq 1 qL)] ["enumerate"] [] []=some Jh:=by kernel_rfl
theorem Mg:rX ["self","ground","other","room"] Ad [("clashing",.fq 2 uU)] ["max"] [("standing",cH),("room",cA)] []=some tK:=by kernel_rfl
theorem Od:rY ["self","grounds","circle","ground"] BR [] ["tuple"] [] []=some u9:=by kernel_rfl
theorem Q7:rY ["self","ground","other","ones","others"] Fe [("Together",.exc)] ["sorted"] [("enclose",gH),("together",bD)] []=some sV:=by kernel_rfl
theorem Q5:rY ["self","ground","other","pairs","row","greater"] Et [("Clash",.exi ["ones","others","ear"]),("joint",.fq 2 pY),("Together",.exc)] [] [("unite",wI),("quarrels",nM),("together",bT),("need",aG)] []=some jC:=by kernel_rfl
theorem Vz:rY ["self","ground","left","near"] Ig [("Alone",.exc)] [] [("enclose",gH),("together",bD)] []=some pX:=by kernel_rfl
theorem VF:rY ["self","ground"] Hr [] [] [("part",oJ)] []=some pJ:=by kernel_rfl
theorem Mp:rY ["self","elder","heir","owner","ground","mark"] Bf [] [] [] []=some uF:=by kernel_rfl
theorem ZL:rX ["self","owner","number","beast"] Mr [] [] [("all_living",dO)] []=some Dt:=by kernel_rfl
theorem Oe:rY ["self","elder","heir","passed","number","beast"] BL [("SameOwner",.exc)] [] [("befall",bQ),("owned",Bw),("hand_over",rK),("need_owner",aD)] []=some jJ:=by kernel_rfl
theorem aaL:rX ["kind","part","greatest"] Ow [("PLACES",.con iY),("GREATEST_PART",.con oY),("is_ear",.fq 1 tG)] ["isinstance","int","len","tuple"] [] []=some vB:=by kernel_rfl
theorem ajn:rX ["deed","shape","parts","kind","part"] aeC [("part_fits",.fq 2 iU),("SHAPES",.dic (zQ zu))] ["all","zip","len"] [] []=some YX:=by kernel_rfl
theorem Zj:rY ["self","deed","word","parts"] MK [("BadDeed",.exc),("fits",.fq 1 Gz)] [] [("new_heir",rG),("pass_on",uE),("part",wW),("unite",wH),("die",za),("move",iz),("sell",yx),("tear",xH),("cut",yU),("bear",yd),("bring",wB),("leave",wz),("enrol",wA),("new_ground",pK),("new_owner",gU)] []=some cR:=by kernel_rfl
theorem akd:rY ["_law_house","_law_deed_here","_law_counts","_law_told","_law_owners","_law_grounds","_law_beasts"] aeS [("CommonError",.exc)] [] [("do",ou)] []=some Hu:=by kernel_rfl
theorem akh:rX ["_law_ear_here","_law_figures","_law_found","_law_depth","_law_figure","_law_more"] adp [] ["tuple","zip","max","min"] [] ["_law_found"]=some YJ:=by kernel_rfl
theorem adE:rX ["_law_figures","_law_mode","_law_base"] Wu [("_law_ear_by",.fq 2 ux),("_law_near",.fq 2 Mw)] [] [] []=some Kv:=by kernel_rfl
theorem amE:rX ["_law_figure","_law_many","_law_sure"] agV [] ["max"] [] []=some Yd:=by kernel_rfl
theorem akx:rX ["_law_word","_law_one","_law_two","_law_parts","_law_counts","_law_base","_law_sure","_law_mark"] aeN [("_law_ref",.fq 3 jR),("_law_mark_by",.fq 3 wO)] ["int"] [] []=some jU:=by kernel_rfl
theorem akb:rY ["_law_house","_law_cells","_law_head","_law_counts","_law_base","_law_begun_here","_law_at","_law_cell_here","_law_parts","_law_word","_law_one","_law_two","_law_k"] ae8 [("_law_done",.fg 3 fL),("_law_deed",.fq 6 fM),("_law_word_by",.fq 1 Bg),("_law_row",.fq 3 vY),("_law_begun",.fq 1 vL),("_law_ear",.fq 1 zH)] ["range","enumerate","len"] [] []=some SJ:=by kernel_rfl
theorem ajr:rX ["_law_script","_law_k"] ae7 [] ["len"] [] []=some ZJ:=by kernel_rfl
theorem aib:rX ["_law_word","_law_cell_here","_law_counts","_law_head","_law_parts"] abZ [("_law_deed",.fq 6 fM),("_law_ear",.fq 1 zH),("_law_row",.fq 3 vY)] [] [] []=some T8:=by kernel_rfl
theorem acs:rX ["_law_stand","_law_beast","_law_cut_here"] Q6 [] ["len"] [] []=some uV:=by kernel_rfl
theorem ajV:rX ["_law_rows","_law_found","_law_row_here"] aeL [] ["sorted"] [] ["_law_found"]=some aaf:=by kernel_rfl
theorem ae2:rX ["_law_stand","_law_grounds","_law_but","_law_rows","_law_at","_law_beast","_law_owner","_law_ground","_law_mark"] Xa [("_law_once",.fq 1 LQ)] ["enumerate"] [] ["_law_rows"]=some M7:=by kernel_rfl
theorem ah8:rX ["_law_one","_law_other","_law_a","_law_b"] abd [] ["sum","zip","max"] [] []=some U0:=by kernel_rfl
theorem amJ:rX ["_law_one","_law_other"] aha [("_law_tears",.fq 2 Cy)] ["max"] [] []=some adb:=by kernel_rfl
theorem aaX:rX ["_law_rows","_law_owner","_law_ear_here","_law_space","_law_found","_law_row_here"] Oq [("_law_far",.fq 2 Tp)] [] [] []=some Gj:=by kernel_rfl
theorem ady:rX ["_law_stand","_law_ground","_law_one"] Wm [] ["max"] [] []=some MP:=by kernel_rfl
theorem amx:rX ["_law_one","_law_other","_law_a","_law_b"] ahl [] ["tuple","zip","max"] [] []=some acp:=by kernel_rfl
theorem aht:rX ["_law_stand","_law_ground","_law_but","_law_owner","_law_ear_here","_law_rows","_law_bar"] abh [("_law_top",.fq 2 Tq),("_law_least_bar",.fq 4 vm),("_law_room_of",.fq 2 Aa),("_law_rows_of",.fq 3 Bb)] [] [] []=some NK:=by kernel_rfl
theorem afM:rX ["_law_row_here","_law_owner","_law_ground","_law_due_here","_law_ear_here","_law_entry"] Yp [] [] [] []=some Io:=by kernel_rfl
theorem agm:rX ["_law_beasts","_law_mother","_law_found","_law_dam","_law_row_here"] Yv [("_law_befell",.fq 6 qN)] [] [] ["_law_found"]=some Pa:=by kernel_rfl
theorem Vd:rX ["_law_stand","_law_ground"] Hf [] ["len"] [] []=some yX:=by kernel_rfl
theorem acB:rX ["_law_stand","_law_owner","_law_ground","_law_row_here"] RB [] [] [] []=some Im:=by kernel_rfl
theorem amF:rX ["_law_stand","_law_beast","_law_ground","_law_word","_law_row_here","_law_clash_here","_law_left","_law_beasts"] ag6 [("_law_follow",.fq 2 DP),("_law_befell",.fq 6 qN),("_law_clash",.fq 5 CG),("_law_marks_of",.fq 3 w6),("_law_ground_there",.fq 2 qd),("_law_herd_bad",.fq 3 oF)] [] [] []=some zX:=by kernel_rfl
theorem ajZ:rY ["_law_house","_law_beast","_law_ground","_law_word","_law_told","e"] aek [("NoBeast",.exc),("Dead",.exc),("Unmarked",.exc),("NoGround",.exc),("SameGround",.exc),("NoRight",.exc),("Clash",.exi ["ones","others","ear"])] [] [("move",iz)] []=some Ky:=by kernel_rfl
theorem amv:rX ["_law_cell_here"] ahj [] [] [] []=some X4:=by kernel_rfl
theorem amT:rX ["_law_value","_law_cell_here","_law_turn"] ahh [("_law_cut",.fq 1 Nh)] [] [] []=some X5:=by kernel_rfl
theorem ahP:rX ["_law_found"] abS [] ["isinstance","bool","int"] [] []=some T5:=by kernel_rfl
theorem alH(r:Mo->List Dat->Out Dat):rd ⟨["_law_found","_law_due_here","_law_one","_law_other"],defScope S7,[("_law_like",.fq 2 r),("_law_whole",.fq 1 Ie)],["zip","len","isinstance","list","tuple","str","int"],⟨[],j8,xmH,dfH,Xf⟩,[],true⟩ (defBody S7)=some (Hz r):=by kernel_rfl
theorem amt:rY ["_law_script","_law_house","_law_head","_law_counts","_law_cell_here","_law_deed_here","_law_beast","_law_ground","_law_stand","_law_mark","_law_due_here","_law_told"] Nr [("_law_like",.fq 2 (lO 10)),("_law_tell",.fg 3 Ds),("_law_due",.fq 3 vU),("_law_done",.fg 3 fL),("_law_ear",.fq 1 zH),("_law_raw",.fq 3 IW),("_law_asked",.fq 4 jL),("_law_cell",.fq 2 vo),("_law_play",.fg 3 Dr),("Commons",.cls 0 mK)] ["len","abs"] [("look",lE)] []=some XS:=by kernel_rfl
structure Top(w:World)(K:asr)(mg:Str->Option Value):Prop where
 ex:∃h:Heap,K.In h/\h.Ns mainGlobals mg
 c:Nu fa fn tbs exB w K
abbrev aj(w:World)(K:asr):aU:=oW w K xsH j8
section
variable{P:Program}{w:World}{K:asr}{mg:Str->Option Value}{base:Heap}{k:Nat}(T:Top w K mg)
include T
theorem Top.glo(i:Nat){x:Str}(h:fa[i]?=some (.glo x):=by rfl):mg x=some (.ref (He.ga K x)):=by
 obtain⟨_,X,G⟩:=T.ex
 exact He.glo_ok X G (T.c.o7 i h)
theorem Top.free(i:Nat){x:Str}(h:fa[i]?=some (.free x):=by rfl):mg x=none:=by
 obtain⟨_,X,G⟩:=T.ex
 exact He.free_ok X G (T.c.o7 i h)
theorem Top.int(i:Nat){x:Str}{j:Int}(h:fa[i]?=some (.int x j):=by rfl):∃t,mg x=some (.int j t):=by
 obtain⟨_,X,G⟩:=T.ex
 exact He.int_ok X G (T.c.o7 i h)
theorem Top.str(i:Nat){x j:Str}(h:fa[i]?=some (.str x j):=by rfl):∃t,mg x=some (.str j t):=by
 obtain⟨_,X,G⟩:=T.ex
 exact He.str_ok X G (T.c.o7 i h)
theorem wD:aZ P w K mg base (aj w K) k "GREATEST_DEPTH" (.con cU):=by
 obtain⟨t,h⟩:=T.int 162
 exact LK h
theorem Vc:aZ P w K mg base (aj w K) k "FEWEST_EXTRA" (.con jg):=by
 obtain⟨t,h⟩:=T.int 163
 exact LK h
theorem ZV:aZ P w K mg base (aj w K) k "MOST_EXTRA" (.con kW):=by
 obtain⟨t,h⟩:=T.int 164
 exact LK h
theorem Jd:aZ P w K mg base (aj w K) k "GREATEST_ALLOWANCE" (.con gW):=by
 obtain⟨t,h⟩:=T.int 165
 exact LK h
theorem Ph:aZ P w K mg base (aj w K) k "PLACES" (.con iY):=aeV (T.glo 166) (fun H=>He.tupB_ok (He.ba (He.ba T.c.more).1).2 H) rfl rfl
theorem RJ:aZ P w K mg base (aj w K) k "BARE_EAR" (.con jw):=aeV (T.glo 167) (fun H=>He.tupB_ok (He.ba T.c.more).2 H) rfl rfl
theorem RD:aZ P w K mg base (aj w K) k "GREATEST_PART" (.con oY):=by
 obtain⟨t,h⟩:=T.int 168
 exact LK h
theorem afD:aZ P w K mg base (aj w K) k "SHAPES" (.dic (zQ zu)):=ak3 (T.glo 161) (He.ba (He.ba (He.ba T.c.more).1).1).2 (T.c.t.tab 0)
theorem RL:aZ P w K mg base (aj w K) k "NoGround" .exc:=iV (by rfl) (T.glo 118) (T.c.o7 119)
theorem aeA:aZ P w K mg base (aj w K) k "NoOwner" .exc:=iV (by rfl) (T.glo 120) (T.c.o7 121)
theorem KQ:aZ P w K mg base (aj w K) k "NoRight" .exc:=iV (by rfl) (T.glo 122) (T.c.o7 123)
theorem Rr:aZ P w K mg base (aj w K) k "HasRight" .exc:=iV (by rfl) (T.glo 124) (T.c.o7 125)
theorem adg:aZ P w K mg base (aj w K) k "NoneFree" .exc:=iV (by rfl) (T.glo 126) (T.c.o7 127)
theorem ac7:aZ P w K mg base (aj w K) k "BadExtra" .exc:=iV (by rfl) (T.glo 128) (T.c.o7 129)
theorem Ui:aZ P w K mg base (aj w K) k "BadAllowance" .exc:=iV (by rfl) (T.glo 130) (T.c.o7 131)
theorem afS:aZ P w K mg base (aj w K) k "BadEar" .exc:=iV (by rfl) (T.glo 133) (T.c.o7 134)
theorem akP:aZ P w K mg base (aj w K) k "Bare" .exc:=iV (by rfl) (T.glo 135) (T.c.o7 136)
theorem ZW:aZ P w K mg base (aj w K) k "StillThere" .exc:=iV (by rfl) (T.glo 137) (T.c.o7 138)
theorem Wb:aZ P w K mg base (aj w K) k "NoBeast" .exc:=iV (by rfl) (T.glo 139) (T.c.o7 140)
theorem afu:aZ P w K mg base (aj w K) k "Dead" .exc:=iV (by rfl) (T.glo 141) (T.c.o7 142)
theorem Ri:aZ P w K mg base (aj w K) k "Unmarked" .exc:=iV (by rfl) (T.glo 143) (T.c.o7 144)
theorem aeO:aZ P w K mg base (aj w K) k "Deepest" .exc:=iV (by rfl) (T.glo 145) (T.c.o7 146)
theorem aes:aZ P w K mg base (aj w K) k "NoPlace" .exc:=iV (by rfl) (T.glo 147) (T.c.o7 148)
theorem Oo:aZ P w K mg base (aj w K) k "SameOwner" .exc:=iV (by rfl) (T.glo 149) (T.c.o7 150)
theorem Lp:aZ P w K mg base (aj w K) k "SameGround" .exc:=iV (by rfl) (T.glo 151) (T.c.o7 152)
theorem Rj:aZ P w K mg base (aj w K) k "Together" .exc:=iV (by rfl) (T.glo 153) (T.c.o7 154)
theorem ahM:aZ P w K mg base (aj w K) k "Alone" .exc:=iV (by rfl) (T.glo 155) (T.c.o7 156)
theorem aed:aZ P w K mg base (aj w K) k "BadDeed" .exc:=iV (by rfl) (T.glo 157) (T.c.o7 158)
theorem Xm:aZ P w K mg base (aj w K) k "CommonError" .exc:=iV (by rfl) (T.glo 159) (T.c.o7 160)
theorem Top.ag1:Lj K j8=true:=(He.ba (He.ba (He.ba (He.ba (He.ba (He.ba T.c.more).1).1).1).1).1).2
theorem Top.xf:(Xf.all fun p=>xsH.contains p.1&&UJ K p.1 p.2)=true:=(He.ba (He.ba (He.ba (He.ba T.c.more).1).1).1).2
theorem Top.hs{Ms:List (Str×List (Str×MV))}(h:Fx P w K mg base (aj w K) k Ms):Uo P w K mg base (aj w K) k ⟨Ms,j8,xmH,dfH,Xf⟩:=am1 h T.ag1 (He.ba (He.ba (He.ba (He.ba (He.ba T.c.more).1).1).1).1).2 (by rfl) T.xf
theorem Top.cls{c:Str}{fs:List Str}(h:j8.lookup c=some fs:=by rfl):Cls K (He.ga K c):=(aaE T.ag1 h).1
local macro_rules | `(tactic| nofun)=>`(tactic| first | (exact fun _ _ _ _ _ _ us hl=>match us,hl with | [_],_=>rfl) | (exact fun _ _ _ _ _ _ us hl=>match us,hl with | [_,_],_=>rfl) | (exact fun _ _ _ _ _ _ us hl=>match us,hl with | [_,_,_],_=>rfl) | (exact fun _ _ _ _ _ _ us hl=>match us,hl with | [_,_,_,_],_=>rfl) | (exact fun _ _ _ _ _ _ us hl=>match us,hl with | [_,_,_,_,_],_=>rfl) | (exact fun _ _ _ _ _ _ us hl=>match us,hl with | [_,_,_,_,_,_],_=>rfl) | (exact fun _ _ _ _ _ _ us hl=>match us,hl with | [_,_,_,_,_,_,_],_=>rfl) | (exact fun _ _ _ _ _ _ us hl=>match us,hl with | [_,_,_,_,_,_,_,_],_=>rfl))
theorem vQ(i j:Nat){x:Str}{k0:Nat}(hk:k0+1<=k){st:Stmt}{N ps ml B:List Str}{G:List (Str×GV)}{Ms:List (Str×List (Str×MV))}{body:SF}(h:rX N st G B Ms ml=some body)(g:Df P w K mg base (aj w K) k0 G)(b:Du mg B)(ms:Fx P w K mg base (aj w K) k0 Ms)(hi:fn[i]?=some (dF x st):=by rfl)(hj:fa[j]?=some (.glo x):=by rfl)(S:FnScope N ps (defScope st):=by exact⟨rfl,rfl,rfl,by decide +kernel,rfl,by decide +kernel,by decide +kernel⟩)(hb:∀(kV doc pm:Value) (an:Option Addr) (cdv ct:Value) (us:List Value),us.length=ps.length->bindArgs (PySem.W.fnOf x x (defArgs st) (defBody st) (defScope st) .none kV doc pm an cdv ct) ⟨us,[]⟩=pure (ps.zip us):=by nofun):aZ P w K mg base (aj w K) k x (.fq ps.length (mQ N.length body)):=by
 obtain⟨fd,F⟩:=T.c.WD i hi
 exact ags hk (T.glo j hj) F.kp (FunD.bindsN (ps:=ps) F hb) (Z9 (Fv F) S g b (T.hs ms) h)
theorem wQ(i j:Nat){c m q:Str}{k0:Nat}(hk:k0+1<=k){st:Stmt}{N ps ml B:List Str}{G:List (Str×GV)}{Ms:List (Str×List (Str×MV))}{body:SF}(h:rX N st G B Ms ml=some body)(g:Df P w K mg base (aj w K) k0 G)(b:Du mg B)(ms:Fx P w K mg base (aj w K) k0 Ms)(hi:fn[i]?=some (dM c m q st):=by rfl)(hj:fa[j]?=some (.meth c m):=by rfl)(hx:xsH.contains c=true:=by rfl){fs:List Str}(hc:j8.lookup c=some fs:=by rfl)(hf:((j8.lookup c).getD []).contains m=false:=by rfl)(S:FnScope N ps (defScope st):=by exact⟨rfl,rfl,rfl,by decide +kernel,rfl,by decide +kernel,by decide +kernel⟩)(hb:∀(kV doc pm:Value) (an:Option Addr) (cdv ct:Value) (us:List Value),us.length=ps.length->bindArgs (PySem.W.fnOf m q (defArgs st) (defBody st) (defScope st) .none kV doc pm an cdv ct) ⟨us,[]⟩=pure (ps.zip us):=by nofun):bY P w K mg base (aj w K) k c m (.q ps.length (mQ N.length body)):=by
 obtain⟨fd,F⟩:=T.c.WD i hi
 exact aoh hk hx (T.cls hc) (T.c.o7 j hj) hf (FunD.bindsN (ps:=ps) F hb) (Z9 (Fv F) S g b (T.hs ms) h)
theorem vG(i j:Nat){x:Str}{k0:Nat}(hk:k0+1<=k){st:Stmt}{N ps ml B:List Str}{G:List (Str×GV)}{Ms:List (Str×List (Str×MV))}{body:SF}(h:rY N st G B Ms ml=some body)(g:Df P w K mg base (aj w K) k0 G)(b:Du mg B)(ms:Fx P w K mg base (aj w K) k0 Ms)(hi:fn[i]?=some (dF x st):=by rfl)(hj:fa[j]?=some (.glo x):=by rfl)(S:FnScope N ps (defScope st):=by exact⟨rfl,rfl,rfl,by decide +kernel,rfl,by decide +kernel,by decide +kernel⟩)(hb:∀(kV doc pm:Value) (an:Option Addr) (cdv ct:Value) (us:List Value),us.length=ps.length->bindArgs (PySem.W.fnOf x x (defArgs st) (defBody st) (defScope st) .none kV doc pm an cdv ct) ⟨us,[]⟩=pure (ps.zip us):=by nofun):aZ P w K mg base (aj w K) k x (.fg ps.length (mG N.length body)):=by
 obtain⟨fd,F⟩:=T.c.WD i hi
 exact anT hk (T.glo j hj) F.kp (FunD.bindsN (ps:=ps) F hb) (S9 (Fv F) S g b (T.hs ms) h)
theorem wG(i j:Nat){c m q:Str}{k0:Nat}(hk:k0+1<=k){st:Stmt}{N ps ml B:List Str}{G:List (Str×GV)}{Ms:List (Str×List (Str×MV))}{body:SF}(h:rY N st G B Ms ml=some body)(g:Df P w K mg base (aj w K) k0 G)(b:Du mg B)(ms:Fx P w K mg base (aj w K) k0 Ms)(hi:fn[i]?=some (dM c m q st):=by rfl)(hj:fa[j]?=some (.meth c m):=by rfl)(hx:xsH.contains c=true:=by rfl){fs:List Str}(hc:j8.lookup c=some fs:=by rfl)(hf:((j8.lookup c).getD []).contains m=false:=by rfl)(S:FnScope N ps (defScope st):=by exact⟨rfl,rfl,rfl,by decide +kernel,rfl,by decide +kernel,by decide +kernel⟩)(hb:∀(kV doc pm:Value) (an:Option Addr) (cdv ct:Value) (us:List Value),us.length=ps.length->bindArgs (PySem.W.fnOf m q (defArgs st) (defBody st) (defScope st) .none kV doc pm an cdv ct) ⟨us,[]⟩=pure (ps.zip us):=by nofun):bY P w K mg base (aj w K) k c m (.g ps.length (mG N.length body)):=by
 obtain⟨fd,F⟩:=T.c.WD i hi
 exact aoq hk hx (T.cls hc) (T.c.o7 j hj) hf (FunD.bindsN (ps:=ps) F hb) (S9 (Fv F) S g b (T.hs ms) h)
theorem vI(i j l:Nat){c q:Str}{n:Nat}{k0:Nat}{st:Stmt}{N ps ml B:List Str}{G:List (Str×GV)}{Ms:List (Str×List (Str×MV))}{body:SF}(h:rY N st G B Ms ml=some body)(g:Df P w K mg base (aj w K) k0 G)(b:Du mg B)(ms:Fx P w K mg base (aj w K) k0 Ms)(hk:k0+1+1<=k)(hi:fn[i]?=some (dM c "__init__" q st):=by rfl)(hj:fa[j]?=some (.mkr c):=by rfl)(hg:fa[l]?=some (.glo c):=by rfl)(hx:xsH.contains c=true:=by rfl){fs:List Str}(hc:j8.lookup c=some fs:=by rfl)(hp:ps.length=n+1:=by rfl)(S:FnScope N ps (defScope st):=by exact⟨rfl,rfl,rfl,by decide +kernel,rfl,by decide +kernel,by decide +kernel⟩)(hb:∀(kV doc pm:Value) (an:Option Addr) (cdv ct:Value) (us:List Value),us.length=ps.length->bindArgs (PySem.W.fnOf "__init__" q (defArgs st) (defBody st) (defScope st) .none kV doc pm an cdv ct) ⟨us,[]⟩=pure (ps.zip us):=by nofun):aZ P w K mg base (aj w K) k c (.cls n (mG N.length body)):=by
 obtain⟨fd,F⟩:=T.c.WD i hi
 exact akN hk hx (T.glo l hg) (T.cls hc) (T.c.o7 j hj) hp (FunD.bindsN (ps:=ps) F hb) (S9 (Fv F) S g b (T.hs ms) h)
theorem UW(hk:2<=k):aZ P w K mg base (aj w K) k "Clash" (.exi ["ones","others","ear"]):=by
 have ho:UJ K "Clash" ["ones","others","ear"]=true:=(He.ba (asV.mp T.xf _ (show(("Clash" : Str),(["ones","others","ear"]:List Str))∈Xf by simp[Xf]))).2
 obtain⟨o1,o2,o3,o4,o5⟩:=Ue ho
 obtain⟨fd,F⟩:=T.c.WD 113
 have b:=FunD.bindsN (ps:=["self","ones","others","ear"]) F fun _ _ _ _ _ _ us hl=>match us,hl with|[_,_,_,_],_=>rfl
 exact ajC hk (by rfl) (T.glo 132) ho rfl b (afq (Fv F) Xp o1 (by rfl) (by decide) (o5 _ (by decide)) (o5 _ (by decide)) (o5 _ (by decide)))
theorem adt(hk:2<=k:=by omega):aZ P w K mg base (aj w K) k "Grounds" (.cls 0 uW):=vI T 0 0 113 (ps:=["self"]) Ve trivial trivial trivial hk
theorem aga(hk:2<=k:=by omega):aZ P w K mg base (aj w K) k "Rights" (.cls 0 vR):=vI T 1 1 114 (ps:=["self"]) XF trivial trivial trivial hk
theorem aks(hk:2<=k:=by omega):aZ P w K mg base (aj w K) k "Herd" (.cls 0 zN):=vI T 2 2 115 (ps:=["self"]) aaY trivial trivial trivial hk
theorem adM(hk:4<=k:=by omega):aZ P w K mg base (aj w K) k "Commons" (.cls 0 mK):=vI T 3 3 116 (ps:=["self"]) Vp ⟨aks T,aga T,adt T,trivial⟩ trivial trivial hk
theorem Ht(hk:1<=k:=by omega):bY P w K mg base (aj w K) k "Beast" "stand" (.q 1 vO):=wQ T 4 4 hk (ps:=["self"]) Xi trivial trivial trivial
theorem Xn(hk:2<=k:=by omega):bY P w K mg base (aj w K) k "Beast" "told" (.q 1 xP):=wQ T 5 5 hk (ps:=["self"]) aaG trivial ⟨T.free 169,trivial⟩ ⟨⟨Ht T,trivial⟩,trivial⟩
theorem Oi(hk:1<=k:=by omega):bY P w K mg base (aj w K) k "Commons" "owners" (.q 1 qH):=wQ T 6 6 hk (ps:=["self"]) P0 trivial ⟨T.free 170,trivial⟩ trivial
theorem Ls(hk:1<=k:=by omega):bY P w K mg base (aj w K) k "Rights" "all_rows" (.q 1 pq):=wQ T 7 7 hk (ps:=["self"]) Oh trivial ⟨T.free 170,trivial⟩ trivial
theorem xJ(hk:1<=k:=by omega):bY P w K mg base (aj w K) k "Grounds" "many" (.q 1 qb):=wQ T 8 8 hk (ps:=["self"]) Vq trivial ⟨T.free 171,trivial⟩ trivial
theorem UL(hk:2<=k:=by omega):bY P w K mg base (aj w K) k "Grounds" "has" (.q 2 v7):=wQ T 9 9 hk (ps:=["self","ground"]) XH trivial trivial ⟨⟨xJ T,trivial⟩,trivial⟩
theorem iG(hk:3<=k:=by omega):bY P w K mg base (aj w K) k "Grounds" "need" (.q 2 uO):=wQ T 10 10 hk (ps:=["self","ground"]) Ur ⟨RL T,trivial⟩ trivial ⟨⟨UL T,trivial⟩,trivial⟩
theorem yg(hk:4<=k:=by omega):bY P w K mg base (aj w K) k "Grounds" "allowance" (.q 2 jV):=wQ T 11 11 hk (ps:=["self","ground"]) Kl trivial trivial ⟨⟨iG T,trivial⟩,trivial⟩
theorem nJ(hk:4<=k:=by omega):bY P w K mg base (aj w K) k "Grounds" "together" (.q 2 kE):=wQ T 12 12 hk (ps:=["self","ground"]) KY trivial ⟨T.free 170,trivial⟩ ⟨⟨iG T,trivial⟩,trivial⟩
theorem rM(hk:5<=k:=by omega):bY P w K mg base (aj w K) k "Commons" "together" (.q 2 kZ):=wQ T 13 13 hk (ps:=["self","ground"]) K7 trivial trivial ⟨⟨nJ T,trivial⟩,trivial⟩
theorem Rg(hk:6<=k:=by omega):bY P w K mg base (aj w K) k "Commons" "look" (.q 1 mO):=wQ T 14 14 hk (ps:=["self"]) Vk trivial ⟨T.free 172,T.free 169,trivial⟩ ⟨⟨Ls T,trivial⟩,⟨Oi T,trivial⟩,⟨Xn T,trivial⟩,⟨xJ T,trivial⟩,⟨rM T,trivial⟩,⟨yg T,trivial⟩,trivial⟩
theorem acQ(hk:1<=k:=by omega):aZ P w K mg base (aj w K) k "_law_row" (.fq 3 vY):=vQ T 15 15 hk (ps:=["_law_cell_here","_law_many","_law_base"]) ams trivial ⟨T.free 172,T.free 173,trivial⟩ trivial
theorem aan(hk:1<=k:=by omega):aZ P w K mg base (aj w K) k "_law_ear_by" (.fq 2 ux):=vQ T 16 16 hk (ps:=["_law_figures","_law_mode"]) agJ trivial ⟨T.free 169,T.free 174,trivial⟩ trivial
theorem acj(hk:2<=k:=by omega):aZ P w K mg base (aj w K) k "_law_ear" (.fq 1 zH):=vQ T 17 17 hk (ps:=["_law_cell_here"]) amH ⟨aan T,acQ T,trivial⟩ trivial trivial
theorem aaN(hk:1<=k:=by omega):aZ P w K mg base (aj w K) k "_law_begun" (.fq 1 vL):=vQ T 18 18 hk (ps:=["_law_head"]) aa4 trivial trivial trivial
theorem aec(hk:1<=k:=by omega):aZ P w K mg base (aj w K) k "_law_word_by" (.fq 1 Bg):=vQ T 19 19 hk (ps:=["_law_figure"]) adG trivial trivial trivial
theorem gD(hk:1<=k:=by omega):bY P w K mg base (aj w K) k "Commons" "need_owner" (.q 2 jB):=wQ T 20 20 hk (ps:=["self","owner"]) Jb ⟨aeA T,trivial⟩ trivial trivial
theorem rZ(hk:1<=k:=by omega):bY P w K mg base (aj w K) k "Rights" "marks" (.q 3 uG):=wQ T 21 21 hk (ps:=["self","owner","ground"]) U4 trivial trivial trivial
theorem Ko(hk:2<=k:=by omega):bY P w K mg base (aj w K) k "Rights" "has_right" (.q 3 oM):=wQ T 22 22 hk (ps:=["self","owner","ground"]) KZ trivial ⟨T.free 171,trivial⟩ ⟨⟨rZ T,trivial⟩,trivial⟩
theorem jr(hk:3<=k:=by omega):bY P w K mg base (aj w K) k "Commons" "need_right" (.q 3 lW):=wQ T 23 23 hk (ps:=["self","owner","ground"]) JB ⟨KQ T,trivial⟩ trivial ⟨⟨Ko T,trivial⟩,trivial⟩
theorem xK(hk:1<=k:=by omega):bY P w K mg base (aj w K) k "Commons" "new_owner" (.g 1 iI):=wG T 24 24 hk (ps:=["self"]) Ke trivial trivial trivial
theorem yH(hk:1<=k:=by omega):bY P w K mg base (aj w K) k "Rights" "add_right" (.g 4 jk):=wG T 25 25 hk (ps:=["self","owner","ground","mark"]) KJ ⟨Rr T,trivial⟩ trivial trivial
theorem akD(hk:1<=k:=by omega):aZ P w K mg base (aj w K) k "torn" (.fq 2 Ln):=vQ T 26 26 hk (ps:=["ear","many"]) alx ⟨wD T,trivial⟩ ⟨T.free 172,T.free 175,trivial⟩ trivial
theorem ab0(hk:1<=k:=by omega):aZ P w K mg base (aj w K) k "lacks" (.fq 2 uK):=vQ T 27 27 hk (ps:=["one","other"]) aio trivial ⟨T.free 176,T.free 177,trivial⟩ trivial
theorem aaI(hk:2<=k:=by omega):aZ P w K mg base (aj w K) k "offspring" (.fq 2 vN):=vQ T 28 28 hk (ps:=["mark","extra"]) aaR ⟨ab0 T,akD T,trivial⟩ trivial trivial
theorem ahC(hk:2<=k:=by omega):aZ P w K mg base (aj w K) k "apart" (.fq 2 Hw):=vQ T 29 29 hk (ps:=["one","other"]) aiM ⟨ab0 T,trivial⟩ ⟨T.free 174,trivial⟩ trivial
theorem Zq(hk:3<=k:=by omega):aZ P w K mg base (aj w K) k "meet" (.fq 3 qU):=vQ T 30 30 hk (ps:=["one","other","room"]) alN ⟨ahC T,trivial⟩ trivial trivial
theorem YD(hk:4<=k:=by omega):aZ P w K mg base (aj w K) k "first_free" (.fq 4 pO):=vQ T 31 31 hk (ps:=["mark","extra","rows","room"]) ZF ⟨adg T,aaI T,Zq T,trivial⟩ ⟨T.free 178,trivial⟩ trivial
theorem pG(hk:2<=k:=by omega):bY P w K mg base (aj w K) k "Commons" "first_mark" (.q 3 lX):=wQ T 32 32 hk (ps:=["self","owner","ground"]) Jy trivial trivial ⟨⟨rZ T,trivial⟩,trivial⟩
theorem Pj(hk:1<=k:=by omega):aZ P w K mg base (aj w K) k "tidied" (.fq 1 qL):=vQ T 33 33 hk (ps:=["rows"]) agG trivial ⟨T.free 179,T.free 180,trivial⟩ trivial
theorem tR(hk:1<=k:=by omega):bY P w K mg base (aj w K) k "Herd" "all_living" (.q 1 pB):=wQ T 34 34 hk (ps:=["self"]) Oj trivial ⟨T.free 181,trivial⟩ trivial
theorem Fj(hk:2<=k:=by omega):bY P w K mg base (aj w K) k "Herd" "grazing" (.q 2 pP):=wQ T 35 35 hk (ps:=["self","grounds"]) Ug trivial trivial ⟨⟨tR T,trivial⟩,trivial⟩
theorem Jc(hk:1<=k:=by omega):bY P w K mg base (aj w K) k "Rights" "in_grounds" (.q 2 nu):=wQ T 36 36 hk (ps:=["self","grounds"]) Kf trivial trivial trivial
theorem uY(hk:6<=k:=by omega):bY P w K mg base (aj w K) k "Commons" "standing_but" (.q 3 iQ):=wQ T 37 37 hk (ps:=["self","left_out","ground"]) Gf ⟨Pj T,trivial⟩ trivial ⟨⟨Jc T,trivial⟩,⟨Fj T,trivial⟩,⟨rM T,trivial⟩,trivial⟩
theorem rP(hk:7<=k:=by omega):bY P w K mg base (aj w K) k "Commons" "standing" (.q 2 lg):=wQ T 38 38 hk (ps:=["self","ground"]) Mv trivial trivial ⟨⟨uY T,trivial⟩,trivial⟩
theorem R6(hk:5<=k:=by omega):bY P w K mg base (aj w K) k "Grounds" "room" (.q 2 pU):=wQ T 39 39 hk (ps:=["self","ground"]) U5 trivial ⟨T.free 174,trivial⟩ ⟨⟨nJ T,trivial⟩,⟨yg T,trivial⟩,trivial⟩
theorem sU(hk:6<=k:=by omega):bY P w K mg base (aj w K) k "Commons" "room" (.q 2 pQ):=wQ T 40 40 hk (ps:=["self","ground"]) Uk trivial trivial ⟨⟨R6 T,trivial⟩,trivial⟩
theorem Kc(hk:8<=k:=by omega):bY P w K mg base (aj w K) k "Commons" "new_heir" (.g 4 cW):=wG T 41 41 hk (ps:=["self","elder","ground","extra"]) K6 ⟨YD T,ac7 T,Vc T,ZV T,trivial⟩ trivial ⟨⟨yH T,trivial⟩,⟨xK T,trivial⟩,⟨sU T,trivial⟩,⟨rP T,trivial⟩,⟨pG T,trivial⟩,⟨jr T,trivial⟩,⟨iG T,trivial⟩,⟨gD T,trivial⟩,trivial⟩
theorem HY(hk:2<=k:=by omega):bY P w K mg base (aj w K) k "Grounds" "add_ground" (.g 2 fB):=wG T 42 42 hk (ps:=["self","allowance"]) Ju ⟨Ui T,Jd T,trivial⟩ trivial ⟨⟨xJ T,trivial⟩,trivial⟩
theorem Hg(hk:3<=k:=by omega):bY P w K mg base (aj w K) k "Commons" "new_ground" (.g 2 gM):=wG T 43 43 hk (ps:=["self","allowance"]) Jk trivial trivial ⟨⟨HY T,trivial⟩,trivial⟩
theorem ael(hk:4<=k:=by omega):aZ P w K mg base (aj w K) k "barring" (.fq 4 Ba):=vQ T 44 44 hk (ps:=["owner","ear","rows","room"]) aew ⟨Zq T,Pj T,trivial⟩ trivial trivial
theorem Nf(hk:1<=k:=by omega):aZ P w K mg base (aj w K) k "joint" (.fq 2 pY):=vQ T 45 45 hk (ps:=["one","other"]) ahA trivial ⟨T.free 169,T.free 177,T.free 174,trivial⟩ trivial
theorem Rv(hk:5<=k:=by omega):aZ P w K mg base (aj w K) k "ask_room" (.fq 4 oX):=vQ T 46 46 hk (ps:=["owner","ear","rows","room"]) ac0 ⟨UW T (by decide),Nf T,ael T,trivial⟩ trivial trivial
theorem qj(hk:8<=k:=by omega):bY P w K mg base (aj w K) k "Commons" "ask_ground" (.q 4 gY):=wQ T 47 47 hk (ps:=["self","owner","ear","ground"]) JF ⟨Rv T,trivial⟩ trivial ⟨⟨sU T,trivial⟩,⟨rP T,trivial⟩,trivial⟩
theorem Y6(hk:1<=k:=by omega):aZ P w K mg base (aj w K) k "is_ear" (.fq 1 tG):=vQ T 48 48 hk (ps:=["parts"]) agO ⟨wD T,Ph T,trivial⟩ ⟨T.free 182,T.free 171,trivial⟩ trivial
theorem TQ(hk:2<=k:=by omega):aZ P w K mg base (aj w K) k "need_ear" (.fq 1 qw):=vQ T 49 49 hk (ps:=["parts"]) acE ⟨afS T,Y6 T,trivial⟩ trivial trivial
theorem Qz(hk:9<=k:=by omega):bY P w K mg base (aj w K) k "Commons" "enrol" (.g 4 dY):=wG T 50 50 hk (ps:=["self","owner","ground","mark"]) R8 ⟨Rr T,akP T,RJ T,TQ T,trivial⟩ trivial ⟨⟨yH T,trivial⟩,⟨qj T,trivial⟩,⟨rZ T,trivial⟩,⟨iG T,trivial⟩,⟨gD T,trivial⟩,trivial⟩
theorem VG(hk:2<=k:=by omega):bY P w K mg base (aj w K) k "Rights" "drop" (.g 3 oE):=wG T 51 51 hk (ps:=["self","owner","ground"]) Xy ⟨KQ T,trivial⟩ trivial ⟨⟨rZ T,trivial⟩,trivial⟩
theorem Qx(hk:4<=k:=by omega):bY P w K mg base (aj w K) k "Commons" "leave" (.g 3 gj):=wG T 52 52 hk (ps:=["self","owner","ground"]) Td ⟨ZW T,trivial⟩ ⟨T.free 178,trivial⟩ ⟨⟨VG T,trivial⟩,⟨Fj T,trivial⟩,⟨jr T,trivial⟩,⟨iG T,trivial⟩,⟨gD T,trivial⟩,trivial⟩
theorem BP(hk:1<=k:=by omega):bY P w K mg base (aj w K) k "Beast" "stand_so" (.g 2 ni):=wG T 53 53 hk (ps:=["self","stand"]) Qi trivial trivial trivial
theorem ajf(hk:1<=k:=by omega):aZ P w K mg base (aj w K) k "begun" (.fq 1 CN):=vQ T 54 54 hk (ps:=["first"]) ahy ⟨RJ T,trivial⟩ trivial trivial
theorem ahT(hk:3<=k:=by omega):aZ P w K mg base (aj w K) k "Beast" (.cls 1 tL):=vI T 55 55 117 (ps:=["self","first"]) aak ⟨ajf T,trivial⟩ trivial ⟨⟨BP T,trivial⟩,trivial⟩ hk
theorem BW(hk:4<=k:=by omega):bY P w K mg base (aj w K) k "Herd" "add_beast" (.g 2 qD):=wG T 56 56 hk (ps:=["self","first"]) QH ⟨ahT T,trivial⟩ ⟨T.free 171,trivial⟩ trivial
theorem Qv(hk:5<=k:=by omega):bY P w K mg base (aj w K) k "Commons" "bring" (.g 4 fY):=wG T 57 57 hk (ps:=["self","owner","ground","ear"]) Sv ⟨TQ T,trivial⟩ trivial ⟨⟨BW T,trivial⟩,⟨jr T,trivial⟩,⟨iG T,trivial⟩,⟨gD T,trivial⟩,trivial⟩
theorem Bm(hk:1<=k:=by omega):bY P w K mg base (aj w K) k "Herd" "known" (.q 2 lB):=wQ T 58 58 hk (ps:=["self","number"]) Y7 ⟨Wb T,trivial⟩ ⟨T.free 171,trivial⟩ trivial
theorem uJ(hk:2<=k:=by omega):bY P w K mg base (aj w K) k "Herd" "living" (.q 2 qY):=wQ T 59 59 hk (ps:=["self","number"]) Xr ⟨afu T,trivial⟩ trivial ⟨⟨Bm T,trivial⟩,trivial⟩
theorem zB(hk:3<=k:=by omega):bY P w K mg base (aj w K) k "Herd" "marked" (.q 2 nZ):=wQ T 60 60 hk (ps:=["self","number"]) Xk ⟨Ri T,trivial⟩ trivial ⟨⟨uJ T,trivial⟩,trivial⟩
theorem S8(hk:5<=k:=by omega):bY P w K mg base (aj w K) k "Commons" "bear" (.g 2 jh):=wG T 61 61 hk (ps:=["self","mother"]) Ua trivial trivial ⟨⟨BW T,trivial⟩,⟨zB T,trivial⟩,trivial⟩
theorem ade(hk:1<=k:=by omega):aZ P w K mg base (aj w K) k "deepened" (.fq 2 xR):=vQ T 62 62 hk (ps:=["ear","place"]) acZ trivial ⟨T.free 169,T.free 181,trivial⟩ trivial
theorem adn(hk:2<=k:=by omega):aZ P w K mg base (aj w K) k "gone_on" (.fq 2 Ai):=vQ T 63 63 hk (ps:=["stand","event"]) ado ⟨ade T,trivial⟩ trivial trivial
theorem jA(hk:3<=k:=by omega):bY P w K mg base (aj w K) k "Beast" "befall" (.g 2 mU):=wG T 64 64 hk (ps:=["self","event"]) Vy ⟨adn T,trivial⟩ trivial ⟨⟨BP T,trivial⟩,⟨Ht T,trivial⟩,trivial⟩
theorem Vf(hk:9<=k:=by omega):bY P w K mg base (aj w K) k "Commons" "cut" (.g 2 jN):=wG T 65 65 hk (ps:=["self","beast"]) Xz ⟨Nf T,trivial⟩ trivial ⟨⟨jA T,trivial⟩,⟨qj T,trivial⟩,⟨pG T,trivial⟩,⟨uJ T,trivial⟩,trivial⟩
theorem RN(hk:4<=k:=by omega):bY P w K mg base (aj w K) k "Commons" "tear" (.g 3 fP):=wG T 66 66 hk (ps:=["self","beast","place"]) Vl ⟨aeO T,wD T,aes T,Ph T,trivial⟩ ⟨T.free 171,trivial⟩ ⟨⟨jA T,trivial⟩,⟨uJ T,trivial⟩,trivial⟩
theorem Um(hk:2<=k:=by omega):bY P w K mg base (aj w K) k "Herd" "calves" (.q 2 qW):=wQ T 67 67 hk (ps:=["self","mother"]) XD trivial trivial ⟨⟨tR T,trivial⟩,⟨Bm T,trivial⟩,trivial⟩
theorem yE(hk:4<=k:=by omega):bY P w K mg base (aj w K) k "Herd" "lead_calves" (.g 2 oZ):=wG T 68 68 hk (ps:=["self","mother"]) KD trivial trivial ⟨⟨Um T,trivial⟩,⟨jA T,trivial⟩,⟨Bm T,trivial⟩,trivial⟩
theorem RQ(hk:7<=k:=by omega):bY P w K mg base (aj w K) k "Commons" "sell" (.g 3 dN):=wG T 69 69 hk (ps:=["self","beast","buyer"]) Ud ⟨Rv T,Nf T,Oo T,trivial⟩ trivial ⟨⟨yE T,trivial⟩,⟨jA T,trivial⟩,⟨sU T,trivial⟩,⟨uY T,trivial⟩,⟨pG T,trivial⟩,⟨jr T,trivial⟩,⟨gD T,trivial⟩,⟨zB T,trivial⟩,trivial⟩
theorem EY(hk:9<=k:=by omega):bY P w K mg base (aj w K) k "Commons" "move" (.g 3 dJ):=wG T 70 70 hk (ps:=["self","beast","ground"]) VD ⟨Lp T,trivial⟩ trivial ⟨⟨yE T,trivial⟩,⟨jA T,trivial⟩,⟨qj T,trivial⟩,⟨jr T,trivial⟩,⟨iG T,trivial⟩,⟨zB T,trivial⟩,trivial⟩
theorem Vh(hk:4<=k:=by omega):bY P w K mg base (aj w K) k "Commons" "die" (.g 2 lJ):=wG T 71 71 hk (ps:=["self","beast"]) XR trivial trivial ⟨⟨jA T,trivial⟩,⟨uJ T,trivial⟩,trivial⟩
theorem adh(hk:4<=k:=by omega):aZ P w K mg base (aj w K) k "clashing" (.fq 2 uU):=vQ T 72 72 hk (ps:=["rows","room"]) acV ⟨Zq T,Pj T,trivial⟩ ⟨T.free 181,trivial⟩ trivial
theorem Kg(hk:8<=k:=by omega):bY P w K mg base (aj w K) k "Commons" "quarrels" (.q 3 kY):=wQ T 73 73 hk (ps:=["self","ground","other"]) Mg ⟨adh T,trivial⟩ ⟨T.free 174,trivial⟩ ⟨⟨rP T,trivial⟩,⟨sU T,trivial⟩,trivial⟩
theorem Ak(hk:1<=k:=by omega):bY P w K mg base (aj w K) k "Grounds" "enclose" (.g 2 lV):=wG T 74 74 hk (ps:=["self","grounds"]) Od trivial ⟨T.free 169,trivial⟩ trivial
theorem Qo(hk:5<=k:=by omega):bY P w K mg base (aj w K) k "Grounds" "unite" (.g 3 lC):=wG T 75 75 hk (ps:=["self","ground","other"]) Q7 ⟨Rj T,trivial⟩ ⟨T.free 179,trivial⟩ ⟨⟨Ak T,trivial⟩,⟨nJ T,trivial⟩,trivial⟩
theorem O9(hk:9<=k:=by omega):bY P w K mg base (aj w K) k "Commons" "unite" (.g 3 gq):=wG T 76 76 hk (ps:=["self","ground","other"]) Q5 ⟨UW T (by decide),Nf T,Rj T,trivial⟩ trivial ⟨⟨Qo T,trivial⟩,⟨Kg T,trivial⟩,⟨rM T,trivial⟩,⟨iG T,trivial⟩,trivial⟩
theorem Sq(hk:5<=k:=by omega):bY P w K mg base (aj w K) k "Grounds" "part" (.g 2 jo):=wG T 77 77 hk (ps:=["self","ground"]) Vz ⟨ahM T,trivial⟩ trivial ⟨⟨Ak T,trivial⟩,⟨nJ T,trivial⟩,trivial⟩
theorem Rc(hk:6<=k:=by omega):bY P w K mg base (aj w K) k "Commons" "part" (.g 2 j5):=wG T 78 78 hk (ps:=["self","ground"]) VF trivial trivial ⟨⟨Sq T,trivial⟩,trivial⟩
theorem Km(hk:1<=k:=by omega):bY P w K mg base (aj w K) k "Rights" "hand_over" (.g 3 oV):=wG T 79 79 hk (ps:=["self","elder","heir"]) Mp trivial trivial trivial
theorem XJ(hk:2<=k:=by omega):bY P w K mg base (aj w K) k "Herd" "owned" (.q 2 yj):=wQ T 80 80 hk (ps:=["self","owner"]) ZL trivial trivial ⟨⟨tR T,trivial⟩,trivial⟩
theorem MF(hk:4<=k:=by omega):bY P w K mg base (aj w K) k "Commons" "pass_on" (.g 3 fW):=wG T 81 81 hk (ps:=["self","elder","heir"]) Oe ⟨Oo T,trivial⟩ trivial ⟨⟨jA T,trivial⟩,⟨XJ T,trivial⟩,⟨Km T,trivial⟩,⟨gD T,trivial⟩,trivial⟩
theorem aa3(hk:2<=k:=by omega):aZ P w K mg base (aj w K) k "part_fits" (.fq 2 iU):=vQ T 82 82 hk (ps:=["kind","part"]) aaL ⟨Ph T,RD T,Y6 T,trivial⟩ ⟨T.free 183,T.free 184,T.free 171,T.free 169,trivial⟩ trivial
theorem akk(hk:3<=k:=by omega):aZ P w K mg base (aj w K) k "fits" (.fq 1 Gz):=vQ T 83 83 hk (ps:=["deed"]) ajn ⟨aa3 T,afD T,trivial⟩ ⟨T.free 182,T.free 177,T.free 171,trivial⟩ trivial
theorem Xu(hk:10<=k:=by omega):bY P w K mg base (aj w K) k "Commons" "do" (.g 2 cD):=wG T 84 84 hk (ps:=["self","deed"]) Zj ⟨aed T,akk T,trivial⟩ trivial ⟨⟨Kc T,trivial⟩,⟨MF T,trivial⟩,⟨Rc T,trivial⟩,⟨O9 T,trivial⟩,⟨Vh T,trivial⟩,⟨EY T,trivial⟩,⟨RQ T,trivial⟩,⟨RN T,trivial⟩,⟨Vf T,trivial⟩,⟨S8 T,trivial⟩,⟨Qv T,trivial⟩,⟨Qx T,trivial⟩,⟨Qz T,trivial⟩,⟨Hg T,trivial⟩,⟨xK T,trivial⟩,trivial⟩
theorem afs(hk:11<=k:=by omega):aZ P w K mg base (aj w K) k "_law_done" (.fg 3 fL):=vG T 85 85 hk (ps:=["_law_house","_law_deed_here","_law_counts"]) akd ⟨Xm T,trivial⟩ trivial ⟨⟨Xu T,trivial⟩,trivial⟩
theorem al6(hk:1<=k:=by omega):aZ P w K mg base (aj w K) k "_law_near" (.fq 2 Mw):=vQ T 86 86 hk (ps:=["_law_ear_here","_law_figures"]) akh trivial ⟨T.free 169,T.free 177,T.free 174,T.free 175,trivial⟩ trivial
theorem aeW(hk:2<=k:=by omega):aZ P w K mg base (aj w K) k "_law_mark_by" (.fq 3 wO):=vQ T 87 87 hk (ps:=["_law_figures","_law_mode","_law_base"]) adE ⟨aan T,al6 T,trivial⟩ trivial trivial
theorem anj(hk:1<=k:=by omega):aZ P w K mg base (aj w K) k "_law_ref" (.fq 3 jR):=vQ T 88 88 hk (ps:=["_law_figure","_law_many","_law_sure"]) amE trivial ⟨T.free 174,trivial⟩ trivial
theorem afw(hk:3<=k:=by omega):aZ P w K mg base (aj w K) k "_law_deed" (.fq 6 fM):=vQ T 89 89 hk (ps:=["_law_word","_law_one","_law_two","_law_parts","_law_counts","_law_base"]) akx ⟨anj T,aeW T,trivial⟩ ⟨T.free 184,trivial⟩ trivial
theorem ako(hk:12<=k:=by omega):aZ P w K mg base (aj w K) k "_law_play" (.fg 3 Dr):=vG T 90 90 hk (ps:=["_law_house","_law_cells","_law_head"]) akb ⟨afs T,afw T,aec T,acQ T,aaN T,acj T,trivial⟩ ⟨T.free 172,T.free 181,T.free 171,trivial⟩ trivial
theorem al2(hk:1<=k:=by omega):aZ P w K mg base (aj w K) k "_law_cell" (.fq 2 vo):=vQ T 91 91 hk (ps:=["_law_script","_law_k"]) ajr trivial ⟨T.free 171,trivial⟩ trivial
theorem ah2(hk:4<=k:=by omega):aZ P w K mg base (aj w K) k "_law_asked" (.fq 4 jL):=vQ T 92 92 hk (ps:=["_law_word","_law_cell_here","_law_counts","_law_head"]) aib ⟨afw T,acj T,acQ T,trivial⟩ trivial trivial
theorem acw(hk:1<=k:=by omega):aZ P w K mg base (aj w K) k "_law_herd_bad" (.fq 3 oF):=vQ T 93 93 hk (ps:=["_law_stand","_law_beast","_law_cut_here"]) acs trivial ⟨T.free 171,trivial⟩ trivial
theorem ak1(hk:1<=k:=by omega):aZ P w K mg base (aj w K) k "_law_once" (.fq 1 LQ):=vQ T 94 94 hk (ps:=["_law_rows"]) ajV trivial ⟨T.free 179,trivial⟩ trivial
theorem adT(hk:2<=k:=by omega):aZ P w K mg base (aj w K) k "_law_rows_of" (.fq 3 Bb):=vQ T 95 95 hk (ps:=["_law_stand","_law_grounds","_law_but"]) ae2 ⟨ak1 T,trivial⟩ ⟨T.free 181,trivial⟩ trivial
theorem ahF(hk:1<=k:=by omega):aZ P w K mg base (aj w K) k "_law_tears" (.fq 2 Cy):=vQ T 96 96 hk (ps:=["_law_one","_law_other"]) ah8 trivial ⟨T.free 176,T.free 177,T.free 174,trivial⟩ trivial
theorem am4(hk:2<=k:=by omega):aZ P w K mg base (aj w K) k "_law_far" (.fq 2 Tp):=vQ T 97 97 hk (ps:=["_law_one","_law_other"]) amJ ⟨ahF T,trivial⟩ ⟨T.free 174,trivial⟩ trivial
theorem aaU(hk:3<=k:=by omega):aZ P w K mg base (aj w K) k "_law_least_bar" (.fq 4 vm):=vQ T 98 98 hk (ps:=["_law_rows","_law_owner","_law_ear_here","_law_space"]) aaX ⟨am4 T,trivial⟩ trivial trivial
theorem adV(hk:1<=k:=by omega):aZ P w K mg base (aj w K) k "_law_room_of" (.fq 2 Aa):=vQ T 99 99 hk (ps:=["_law_stand","_law_ground"]) ady trivial ⟨T.free 174,trivial⟩ trivial
theorem anb(hk:1<=k:=by omega):aZ P w K mg base (aj w K) k "_law_top" (.fq 2 Tq):=vQ T 100 100 hk (ps:=["_law_one","_law_other"]) amx trivial ⟨T.free 169,T.free 177,T.free 174,trivial⟩ trivial
theorem ai6(hk:4<=k:=by omega):aZ P w K mg base (aj w K) k "_law_clash" (.fq 5 CG):=vQ T 101 101 hk (ps:=["_law_stand","_law_ground","_law_but","_law_owner","_law_ear_here"]) aht ⟨anb T,aaU T,adV T,adT T,trivial⟩ trivial trivial
theorem Zy(hk:1<=k:=by omega):aZ P w K mg base (aj w K) k "_law_befell" (.fq 6 qN):=vQ T 102 102 hk (ps:=["_law_row_here","_law_owner","_law_ground","_law_due_here","_law_ear_here","_law_entry"]) afM trivial trivial trivial
theorem agd(hk:2<=k:=by omega):aZ P w K mg base (aj w K) k "_law_follow" (.fq 2 DP):=vQ T 103 103 hk (ps:=["_law_beasts","_law_mother"]) agm ⟨Zy T,trivial⟩ trivial trivial
theorem U3(hk:1<=k:=by omega):aZ P w K mg base (aj w K) k "_law_ground_there" (.fq 2 qd):=vQ T 104 104 hk (ps:=["_law_stand","_law_ground"]) Vd trivial ⟨T.free 171,trivial⟩ trivial
theorem ac6(hk:1<=k:=by omega):aZ P w K mg base (aj w K) k "_law_marks_of" (.fq 3 w6):=vQ T 105 105 hk (ps:=["_law_stand","_law_owner","_law_ground"]) acB trivial trivial trivial
theorem anu(hk:5<=k:=by omega):aZ P w K mg base (aj w K) k "_law_due" (.fq 3 vU):=vQ T 106 106 hk (ps:=["_law_stand","_law_beast","_law_ground"]) amF ⟨agd T,Zy T,ai6 T,ac6 T,U3 T,acw T,trivial⟩ trivial trivial
theorem ak7(hk:10<=k:=by omega):aZ P w K mg base (aj w K) k "_law_tell" (.fg 3 Ds):=vG T 107 107 hk (ps:=["_law_house","_law_beast","_law_ground"]) ajZ ⟨Wb T,afu T,Ri T,RL T,Lp T,KQ T,UW T (by decide),trivial⟩ trivial ⟨⟨EY T,trivial⟩,trivial⟩
theorem v_cut(hk:1<=k:=by omega):aZ P w K mg base (aj w K) k "_law_cut" (.fq 1 Nh):=vQ T 108 108 hk (ps:=["_law_cell_here"]) amv trivial trivial trivial
theorem anc(hk:2<=k:=by omega):aZ P w K mg base (aj w K) k "_law_raw" (.fq 3 IW):=vQ T 109 109 hk (ps:=["_law_value","_law_cell_here","_law_turn"]) amT ⟨v_cut T,trivial⟩ trivial trivial
theorem ai8(hk:1<=k:=by omega):aZ P w K mg base (aj w K) k "_law_whole" (.fq 1 Ie):=vQ T 110 110 hk (ps:=["_law_found"]) ahP trivial ⟨T.free 183,T.free 185,T.free 184,trivial⟩ trivial
theorem ajM(hk:12<=k:=by omega):aZ P w K mg base (aj w K) k "_law_like" (.fq 2 (lO 10)):=by
 obtain⟨fd,F⟩:=T.c.WD 111
 have b:=FunD.bindsN (ps:=["_law_found","_law_due_here"]) F fun _ _ _ _ _ _ us hl=>match us,hl with|[_,_],_=>rfl
 have key:∀j:Nat,FnOk P w K mg base (L2.CX P w) (2+j) (He.ga K "_law_like") fd ["_law_found","_law_due_here"] (V1 K (aj w K) 2 (lO j)):=by
  intro j
  induction j with
  |zero=>exact alT
  |succ j ih'=>
   have ih:∀{k:Nat},2+j<=k->aZ P w K mg base (aj w K) k "_law_like" (.fq 2 (lO j)):=fun hk=>ags hk (T.glo 111) F.kp (b) ih'
   refine Z9 (k:=2+j) (Fv F) aiz ?_ ?_ ?_ (alH (lO j))
   ·exact⟨ih (as3 _),ai8 T,trivial⟩
   ·exact⟨T.free 177,T.free 171,T.free 183,T.free 170,T.free 169,T.free 186,T.free 184,trivial⟩
   ·exact T.hs trivial
 exact ags hk (T.glo 111) F.kp (b) (key 10)
theorem ano{fd:FuncData}(F:FunD K "law" "law" (defArgs Nr) (defBody Nr) (defScope Nr) [] [] (He.ga K "law") fd):FnOk P w K mg base (L2.CX P w) 13 (He.ga K "law") fd ["_law_script"] (JV K (aj w K) 1 SM):=by
 refine S9 (k:=12) (Fv F) akM ?_ ?_ ?_ amt
 ·exact⟨ajM T,ak7 T,anu T,afs T,acj T,anc T,ah2 T,al2 T,ako T,adM T,trivial⟩
 ·exact⟨T.free 171,T.free 173,trivial⟩
 ·exact T.hs ⟨⟨Rg T,trivial⟩,trivial⟩
end
def digs(b:Int):Nat->Int->List Int
 |0,_=>[]
 |n+1,c=>c % b::digs b n (c / b)
def Ov(b:Int):Nat->Int->Int->List Int
 |0,_,_=>[]
 |n+1,k,t=>((t * 48271+9973 * k+11) % 2147483647 / 1021 % b)::Ov b n (k+1) ((t * 48271+9973 * k+11) % 2147483647)
def Br(c:Int):Int:=if c < 0 then -c else c
def rowOf(c:Int)(n:Nat)(b:Int):List Int:=if 10 ^ 18<=Br c then digs b n (Br c) else Ov b n 0 ((Br c % 1000003+17) * 69621 % 2147483647)
theorem Zf(b:Int):∀n c,(digs b n c).length=n
 |0,_=>rfl
 |n+1,c=>by simp[digs,Zf b n]
theorem abV(b:Int):∀n k t,(Ov b n k t).length=n
 |0,_,_=>rfl
 |n+1,k,t=>by simp[Ov,abV b n]
theorem abm{b:Int}(hb:0 < b):∀n c,∀x∈digs b n c,0<=x/\x < b
 |0,_,x,h=>by simp[digs]at h
 |n+1,c,x,h=>by
  rcases asN.mp h with rfl|h
  ·exact⟨Int.emod_nonneg _ (by omega),Int.emod_lt_of_pos _ hb⟩
  ·exact abm hb n _ x h
theorem adZ{b:Int}(hb:0 < b):∀n k t,∀x∈Ov b n k t,0<=x/\x < b
 |0,_,_,x,h=>by simp[Ov]at h
 |n+1,k,t,x,h=>by
  rcases asN.mp h with rfl|h
  ·exact⟨Int.emod_nonneg _ (by omega),Int.emod_lt_of_pos _ hb⟩
  ·exact adZ hb n _ _ x h
@[simp]theorem ab3 (c:Int) (n:Nat) (b:Int):(rowOf c n b).length=n:=by
 unfold rowOf
 split
 ·exact Zf ..
 ·exact abV ..
theorem aeR{b:Int}(hb:0 < b)(c:Int)(n:Nat):∀x∈rowOf c n b,0<=x/\x < b:=by
 unfold rowOf
 split
 ·exact abm hb _ _
 ·exact adZ hb _ _ _
@[simp]theorem abr (M:Mo) (ns:List Int) (k:Nat):vo M [lI ns,.int k]=.ok (.int (ns.getD k 0)):=by
 unfold vo ZJ
 by_cases h:k < ns.length
 ·simp[h,atI,ixN]
 ·simp[h]
theorem YF(M:Mo)(b:Int)(hb:0 < b)(hb2:b < 1073741824):∀(n k:Nat) (c:Int) (x1:Option Cell) (acc:List Dat) (x4 x5:Option Cell),acc.length+n < 100000->∃c' x4',eZ (aF 4) VB ((List.range' k n).map fun(i:Nat)=>PyData.int (i:Int)) M [some (.dat (.int c)),x1,some (.dat (.int b)),some (.mut acc),x4,x5]=.next [c',x1,some (.dat (.int b)),some (.mut (acc++(digs b n c).map .int)),x4',x5] M
 |0,k,c,x1,acc,x4,x5,_=>⟨some (.dat (.int c)),x4,by simp[eZ,digs]⟩
 |n+1,k,c,x1,acc,x4,x5,hl=>by
  obtain⟨c',x4',ih⟩:=YF M b hb hb2 n (k+1) (c / b) x1 (acc++[.int (c % b)]) (some (.dat (.int k))) x5 (by simp;omega)
  refine⟨c',x4',?_⟩
  have h1:decide (CDiv c b)=true:=decide_eq_true ⟨hb,hb2⟩
  have hl:acc.length < 100000:=by omega
  rw[List.range'_succ,asx,gK (ρ1:=[some (.dat (.int c)),x1,some (.dat (.int b)),some (.mut acc),some (.dat (.int k)),x5]) (by simp) (ρ2:=[some (.dat (.int (c / b))),x1,some (.dat (.int b)),some (.mut (acc++[.int (c % b)])),some (.dat (.int k)),x5]) (M2:=M) (by simp[VB,h1,hb,hl])]
  rw[ih]
  simp[digs]
theorem abX(M:Mo)(b:Int)(hb:0 < b):∀(n k:Nat) (t:Int) (x0 x1:Option Cell) (acc:List Dat) (x4:Option Cell),acc.length+n < 100000->∃x4' x5',eZ (aF 4) VL ((List.range' k n).map fun(i:Nat)=>PyData.int (i:Int)) M [x0,x1,some (.dat (.int b)),some (.mut acc),x4,some (.dat (.int t))]=.next [x0,x1,some (.dat (.int b)),some (.mut (acc++(Ov b n k t).map .int)),x4',x5'] M
 |0,k,t,x0,x1,acc,x4,_=>⟨x4,some (.dat (.int t)),by simp[eZ,Ov]⟩
 |n+1,k,t,x0,x1,acc,x4,hl=>by
  obtain⟨x4',x5',ih⟩:=abX M b hb n (k+1) ((t * 48271+9973 * k+11) % 2147483647) x0 x1 (acc++[.int ((t * 48271+9973 * k+11) % 2147483647 / 1021 % b)]) (some (.dat (.int k))) (by simp;omega)
  refine⟨x4',x5',?_⟩
  have h1:decide (CMul t 48271)=true:=mul_r (by decide)
  have h2:decide (CMul 9973 (k:Int))=true:=ahi (by decide)
  have h3:∀x,decide (CDiv x 1021)=true:=fun x=>decide_eq_true ⟨by decide,by decide⟩
  have hl:acc.length < 100000:=by omega
  rw[List.range'_succ,asx,gK (ρ1:=[x0,x1,some (.dat (.int b)),some (.mut acc),some (.dat (.int k)),some (.dat (.int t))]) (by simp) (ρ2:=[x0,x1,some (.dat (.int b)),some (.mut (acc++[.int ((t * 48271+9973 * k+11) % 2147483647 / 1021 % b)])),some (.dat (.int k)),some (.dat (.int ((t * 48271+9973 * k+11) % 2147483647)))]) (M2:=M) (by simp[VL,h1,h2,h3,hb,hl])]
  rw[ih]
  simp[Ov]
theorem Ra(n:Nat):jx 0 n=(List.range' 0 n).map fun(i:Nat)=>PyData.int (i:Int):=by
 unfold jx
 rw[List.range_eq_range']
 simp
theorem Zk(M:Mo)(c:Int)(n:Nat)(b:Int)(hb:0 < b)(hb2:b < 1073741824)(hn:n<=1000):vY M [.int c,.int n,.int b]=.ok (lI (rowOf c n b)):=by
 unfold vY acI
 have hp:decide (CPow 10 18)=true:=decide_eq_true ⟨by decide,by decide,by decide⟩
 have hn1:(n:Int)<=100000:=by omega
 have hn2 : -100000<=(n:Int):=by omega
 have hm:∀x,decide (CMul x 69621)=true:=fun x=>mul_r (by decide)
 have ea:(if c < 0 then -c else c)=Br c:=rfl
 by_cases h:10 ^ 18<=Br c
 ·obtain⟨c',x4',e⟩:=YF M b hb hb2 n 0 (Br c) (some (.dat (.int n))) [] none none (by simp;omega)
  have e2:rowOf c n b=digs b n (Br c):=if_pos h
  have h':(1000000000000000000:Int)<=Br c:=by simpa using h
  simp[hp,ea,h',hn1,hn2,Ra,e,e2]
 ·obtain⟨x4',x5',e⟩:=abX M b hb n 0 ((Br c % 1000003+17) * 69621 % 2147483647) (some (.dat (.int (Br c)))) (some (.dat (.int n))) [] none (by simp;omega)
  have e2:rowOf c n b=Ov b n 0 ((Br c % 1000003+17) * 69621 % 2147483647):=if_neg h
  have h':¬(1000000000000000000:Int)<=Br c:=by simpa using h
  have e':=e
  simp[hp,ea,h',hn1,hn2,hm,Ra]at e ⊢
  rw[e]
  simp[e2]
def QS(i j:Int):Int:=if j > i then j else i
def zM(l:List Int)(m:Int):List Int:=if m % 4=1 then l.map fun f=>QS 0 (f - 7) else if m % 4=2 then l.map fun f=>f % 3 else l
theorem WM(M:Mo)(l:List Int)(m:Int)(hl:l.length<=1000):ux M [lI l,.int m]=.ok (aJ (zM l m)):=by
 unfold ux Qa
 have hl':l.length<=50000:=by omega
 have c1:=fj (tg:=aF 2) (te:=aA oH (qC (.int 0)) (aA iK (ao 2) (qC (.int 7)))) (M:=M) (ρ:=[some (.dat (lI l)),some (.dat (.int m)),none]) PyData.int (fun f=>.int (QS 0 (f - 7))) l fun x _=>⟨_,rfl,by simp[QS]⟩
 have c2:=fj (tg:=aF 2) (te:=aA jQ (ao 2) (qC (.int 3))) (M:=M) (ρ:=[some (.dat (lI l)),some (.dat (.int m)),none]) PyData.int (fun f=>.int (f % 3)) l fun x _=>⟨_,rfl,by simp⟩
 by_cases h1:m % 4=1
 ·simp[h1,hl',c1,zM,asU]
 ·by_cases h2:m % 4=2
  ·simp[h2,hl',c2,zM,asU]
  ·simp[h1,h2,zM]
def xM(c:Int):List Int:=zM ((rowOf c 7 10).take 6) ((rowOf c 7 10).getD 6 0)
theorem aap{α:Type}(l:List α)(n:Nat):Rf.cutD l none (some (n:Int))=l.take n:=by
 unfold Rf.cutD
 rw[HT.sIx_nat]
 simp[HT.sIx]
theorem PB{α:Type}(l:List α)(n:Nat):Rf.cutD l (some (n:Int)) none=l.drop n:=by
 unfold Rf.cutD
 rw[HT.sIx_nat]
 simp[HT.sIx]
 by_cases h:n<=l.length
 ·rw[Nat.min_eq_left h]
  exact List.take_of_length_le (by simp)
 ·rw[Nat.min_eq_right (by omega),List.drop_eq_nil_of_le (by omega),List.drop_eq_nil_of_le (by omega)]
  simp
theorem Y9(l:List Int)(n:Nat)(h:n < l.length):atI (l.map PyData.int) (n:Int)=some (.int (l.getD n 0)):=atI_nat (by simp[h])
theorem Zx(M:Mo)(c:Int):zH M [.int c]=.ok (aJ (xM c)):=by
 unfold zH acJ
 have h1:vY M [.int c,.int 7,.int 10]=.ok (.list ((rowOf c 7 10).map .int)):=Zk M c 7 10 (by decide) (by decide) (by decide)
 have h2:Rf.cutD ((rowOf c 7 10).map PyData.int) none (some 6)=((rowOf c 7 10).take 6).map PyData.int:=by
  rw[show(6:Int)=((6:Nat):Int) from rfl,aap,List.map_take]
 have h3:atI ((rowOf c 7 10).map PyData.int) 6=some (.int ((rowOf c 7 10).getD 6 0)):=Y9 _ 6 (by simp)
 have h4:ux M [.list (((rowOf c 7 10).take 6).map .int),.int ((rowOf c 7 10).getD 6 0)]=.ok (.tuple ((xM c).map .int)):=WM M _ _ (by simp)
 generalize (rowOf c 7 10).getD 6 0=z at h3 h4
 generalize ((rowOf c 7 10).take 6).map PyData.int=y at h2 h4
 simp[h1,h2,h3,h4]
theorem Mf(c:Int):(xM c).length=6:=by
 unfold xM zM
 split
 ·simp
 ·split <;> simp
theorem agK{l:List Int}{m:Int}(h:∀x∈l,0<=x/\x < 10):∀x∈zM l m,0<=x/\x < 10:=by
 unfold zM QS
 split
 ·intro x hx
  obtain⟨y,hy,rfl⟩:=asJ.mp hx
  have:=h y hy
  split <;> omega
 ·split
  ·intro x hx
   obtain⟨y,hy,rfl⟩:=asJ.mp hx
   have:=h y hy
   omega
  ·exact h
mutual
def lk:Nat->Dat->Bool
 |_,.none=>true
 |_,.bool _=>true
 |_,.int _=>true
 |_,.str _=>true
 |n+1,.list ds=>vD n ds
 |n+1,.tuple ds=>vD n ds
 |0,.list _=>false
 |0,.tuple _=>false
 |_,.dict _=>false
def vD:Nat->List Dat->Bool
 |_,[]=>true
 |n,d::ds=>lk n d&&vD n ds
end
theorem wL{n:Nat}:∀{ds:List Dat},vD n ds=true↔∀d∈ds,lk n d=true
 |[]=>by simp[vD]
 |d::ds=>by simp[vD,wL (ds:=ds)]
@[simp]theorem afF (n:Nat) (l:List Int):vD n (l.map PyData.int)=true:=wL.mpr fun d h=>by
 obtain⟨i,_,rfl⟩:=asJ.mp h
 simp[lk]
theorem W4(M:Mo)(i:Int):Ie M [.int i]=.ok (.bool true):=by
 unfold Ie T5
 simp[yV,Bq]
theorem zip_self(ds:List Dat):wY ds ds=ds.map fun d=>.tuple [d,d]:=by
 unfold wY
 rw[List.zipWith_self]
theorem M5(M:Mo)(r:Mo->List Dat->Out Dat)(x0 x1:Option Cell):∀(ds:List Dat) (x2 x3:Option Cell),(∀d∈ds,r M [d,d]=.ok (.bool true))->∃x2' x3',eZ (bF [2,3]) (QD r) (ds.map fun d=>PyData.tuple [d,d]) M [x0,x1,x2,x3]=.next [x0,x1,x2',x3'] M
 |[],x2,x3,_=>⟨x2,x3,rfl⟩
 |d::ds,x2,x3,h=>by
  obtain⟨x2',x3',ih⟩:=M5 M r x0 x1 ds (some (.dat d)) (some (.dat d)) fun d hd=>h d (asy _ hd)
  refine⟨x2',x3',?_⟩
  have hd:=h d asz
  rw[asx,gK (ρ1:=[x0,x1,some (.dat d),some (.dat d)]) (by simp) (ρ2:=[x0,x1,some (.dat d),some (.dat d)]) (M2:=M) (by simp[QD,hd])]
  exact ih
theorem Uu(M:Mo):∀(n:Nat) (d:Dat),lk n d=true->lO (n+1) M [d,d]=.ok (.bool true):=by
 intro n
 induction n with
 |zero=>
  intro d h
  show mQ 4 (Hz (lO 0)) M [d,d]=_
  unfold Hz
  cases d with
  |none=>simp[gR]
  |bool b=>cases b <;> simp[gR]
  |int i=>simp[gR,yV,Bq,W4]
  |str x=>simp[gR,yV,Bq]
  |list ds=>simp[lk]at h
  |tuple ds=>simp[lk]at h
  |dict kv=>simp[lk]at h
 |succ n ih=>
  intro d h
  show mQ 4 (Hz (lO (n+1))) M [d,d]=_
  unfold Hz
  cases d with
  |none=>simp[gR]
  |bool b=>cases b <;> simp[gR]
  |int i=>simp[gR,yV,Bq,W4]
  |str x=>simp[gR,yV,Bq]
  |list ds=>
   rw[lk,wL]at h
   obtain⟨x2',x3',e⟩:=M5 M (lO (n+1)) (some (.dat (.list ds))) (some (.dat (.list ds))) ds none none fun d hd=>ih d (h d hd)
   simp[gR,yV,Bq,zip_self,e]
  |tuple ds=>
   rw[lk,wL]at h
   obtain⟨x2',x3',e⟩:=M5 M (lO (n+1)) (some (.dat (.tuple ds))) (some (.dat (.tuple ds))) ds none none fun d hd=>ih d (h d hd)
   simp[gR,yV,Bq,zip_self,e]
  |dict kv=>simp[lk]at h
inductive En where
 |torn (p:Nat)|cut (e:List Int)|sold (o:Int) (e:List Int)|moved (g:Int)|followed (o g:Int)|passed (o:Int)|died
def En.dat:En->Dat
 |.torn p=>.tuple [.str "torn",.int p]
 |.cut e=>.tuple [.str "cut",aJ e]
 |.sold o e=>.tuple [.str "sold",.int o,aJ e]
 |.moved g=>.tuple [.str "moved",.int g]
 |.followed o g=>.tuple [.str "followed",.int o,.int g]
 |.passed o=>.tuple [.str "passed",.int o]
 |.died=>.tuple [.str "died"]
inductive Fi where
 |brought (o g:Int) (e:List Int)|born (m o g:Int)
def Fi.dat:Fi->Dat
 |.brought o g e=>.tuple [.str "brought",.int o,.int g,aJ e]
 |.born m o g=>.tuple [.str "born",.int m,.int o,.int g]
structure Sd where
 o:Int
 g:Int
 due:Option (List Int)
 ear:List Int
 al:Bool
def jy:Option (List Int)->Dat
 |none=>.none
 |some e=>aJ e
def Sd.dat(s:Sd):Dat:=.tuple [.int s.o,.int s.g,jy s.due,aJ s.ear,.bool s.al]
def yu(l:List Int)(p:Nat):List Int:=l.mapIdx fun i x=>if i=p then x+1 else x
def go(s:Sd):En->Sd
 |.torn p=>{ s with ear:=yu s.ear p }
 |.cut e=>{ s with due:=some e,ear:=e }
 |.sold o e=>{ s with o:=o,due:=some e,ear:=e }
 |.moved g=>{ s with g:=g }
 |.followed o g=>{ s with o:=o,g:=g }
 |.passed o=>{ s with o:=o }
 |.died=>{ s with al:=false }
def beg:Fi->Sd
 |.brought o g e=>⟨o,g,none,e,true⟩
 |.born _ o g=>⟨o,g,none,[0,0,0,0,0,0],true⟩
theorem afy(M:Mo)(f:Fi):CN M [f.dat]=.ok (beg f).dat:=by
 cases f <;> simp[CN,Nv,Fi.dat,beg,Sd.dat,jy,jw]
theorem aaZ(M:Mo)(l:List Int)(p:Nat)(hl:l.length<=1000):xR M [aJ l,.int p]=.ok (aJ (yu l p)):=by
 unfold xR JC
 have c:o9 0 (l.map PyData.int)=(l.mapIdx fun i x=>(i,x)).map fun(q:Nat×Int)=>PyData.tuple [.int q.1,.int q.2]:=by
  unfold o9
  rw[List.mapIdx_eq_mapIdx_iff.mpr (fun i h=>rfl)]
  apply as4
  intro i
  simp
  cases l[i]? <;> simp
 have c2:=fj (tg:=bF [2,3]) (te:=Sy (aY (aA bR (ao 2) (ao 1))) (aA fu (ao 3) (qC (.int 1))) (aq 3)) (M:=M) (ρ:=[some (.dat (aJ l)),some (.dat (.int p)),none,none]) (fun(q:Nat×Int)=>PyData.tuple [.int q.1,.int q.2]) (fun q=>.int (if q.1=p then q.2+1 else q.2)) (l.mapIdx fun i x=>(i,x)) fun x _=>⟨[some (.dat (aJ l)),some (.dat (.int p)),some (.dat (.int x.1)),some (.dat (.int x.2))],by simp,by
  by_cases h:x.1=p
  ·simp[h]
  ·have h':¬((x.1:Int)=p):=by omega
   simp[h,h']⟩
 have hl':l.length<=50000:=by omega
 simp[c,c2,hl',yu]
 apply as4
 intro i
 simp
 cases l[i]? <;> simp
theorem acv(l:List Int)(p:Nat):(yu l p).length=l.length:=by simp[yu]
theorem gone_ok(M:Mo)(s:Sd)(e:En)(hl:s.ear.length<=1000):Ai M [s.dat,e.dat]=.ok (go s e).dat:=by
 have h:=fun p=>aaZ M s.ear p hl
 cases e <;> simp[Ai,La,En.dat,go,Sd.dat,jy,h]
abbrev Row3:=Int×Int×List Int
def fJ(r:Row3):Dat:=.tuple [.int r.1,.int r.2.1,aJ r.2.2]
structure cZ where
 fi:Fi
 en:List En
 mo:Int
 sd:Sd
structure aM where
 count:Int
 own:List Int
 al:List Int
 ci:List (List Int)
 held:List Row3
 bs:List cZ
structure Lay where
 c:Nat
 g:Nat
 r:Nat
 h:Nat
 bs:List Nat
 fr:List (Nat×Inst)
def aQ(L:Lay)(c:aM):Inst:=⟨"Commons",[("owner_count",.dat (.int c.count)),("holders",.dic false (c.own.map fun o=>(.int o,.bool true))),("grounds",.dat (ob L.g)),("rights",.dat (ob L.r)),("herd",.dat (ob L.h))]⟩
def dw(n m:Nat)(c:aM):Inst:=⟨"Grounds",[("allowances",.lst n (c.al.map PyData.int)),("circles",.lst m (c.ci.map aJ))]⟩
def nQ(c:aM):Inst:=⟨"Rights",[("held",.dic true (c.held.map fun r=>(fJ r,.bool true)))]⟩
def dI(n:Nat)(L:Lay):Inst:=⟨"Herd",[("beasts",.lst n (L.bs.map ob))]⟩
def iB(n:Nat)(b:cZ):Inst:=⟨"Beast",[("story",.lst n (b.fi.dat::b.en.map En.dat)),("mother",.dat (.int b.mo)),("owner",.dat (.int b.sd.o)),("ground",.dat (.int b.sd.g)),("due",.dat (jy b.sd.due)),("ear",.dat (aJ b.sd.ear)),("alive",.dat (.bool b.sd.al))]⟩
structure At(M:Mo)(L:Lay)(c:aM):Prop where
 hc:M[L.c]?=some (aQ L c)
 hg:∃n m,M[L.g]?=some (dw n m c)
 hr:M[L.r]?=some (nQ c)
 hh:∃n,M[L.h]?=some (dI n L)
 len:L.bs.length=c.bs.length
 hb:∀(i h:Nat) (b:cZ),L.bs[i]?=some h->c.bs[i]?=some b->∃n,M[h]?=some (iB n b)
 nd:(L.c::L.g::L.r::L.h::L.bs).Nodup
 fr:∀p∈L.fr,M[p.1]?=some p.2/\p.1∉L.c::L.g::L.r::L.h::L.bs
section
variable{M:Mo}{L:Lay}{c:aM}(a:At M L c)
include a
theorem abY:qb M [ob L.g]=.ok (.int c.al.length):=by
 obtain⟨n,m,hg⟩:=a.hg
 simp[qb,uL,hg,dw]
theorem akg(g:Int):v7 M [ob L.g,.int g]=.ok (.bool (decide (1<=g/\g<=c.al.length))):=by
 obtain⟨n,m,hg⟩:=a.hg
 have:=abY a
 by_cases h:1<=g <;> simp[v7,Bj,hg,dw,this,eY,h]
end
@[simp]theorem agF {α:Type} (l:List α) (n:Nat):atI l (n:Int)=l[n]?:=by
 cases h:l[n]? with
 |some a=>exact atI_nat h
 |none=>
  have hl:=List.getElem?_eq_none_iff.mp h
  unfold atI ixN
  rw[if_pos (by omega),if_neg (by omega)]
  rfl
abbrev Vg(c:aM)(x:Int):Prop:=1<=x/\x<=c.al.length
theorem Az{c:aM}{x:Int}(h:Vg c x):∃k:Nat,k < c.al.length/\x=(k:Int)+1:=⟨(x - 1).toNat,by omega,by omega⟩
structure dh(c:aM):Prop where
 len:c.ci.length=c.al.length
 few:c.al.length<=200
 al:∀x∈c.al,0<=x/\x<=9
 mem:∀(k:Nat) (l:List Int),c.ci[k]?=some l->∀y∈l,Vg c y
 own:∀(k:Nat) (l:List Int),c.ci[k]?=some l->(k:Int)+1∈l
 up:∀(k:Nat) (l:List Int),c.ci[k]?=some l->l.Pairwise (· < ·)
 one:∀(k j:Nat) (l:List Int),c.ci[k]?=some l->(j:Int)+1∈l->c.ci[j]?=some l
def bA(c:aM)(x:Int):List Int:=(c.ci[(x - 1).toNat]?).getD []
def Jx(c:aM)(x:Int):Int:=(c.al[(x - 1).toNat]?).getD 0
def alI:List Int->Int
 |[]=>0
 |n::ns=>Fy n ns
def roomOf(c:aM)(x:Int):Int:=alI ((bA c x).map (Jx c))
theorem afm:∀{l:List Int} {lo hi:Int},l.Pairwise (· < ·)->(∀y∈l,lo<=y/\y<=hi)->(l.length:Int)<=max 0 (hi - lo+1)
 |[],_,_,_,_=>by simp;omega
 |x::l,lo,hi,h,hb=>by
  rw[List.pairwise_cons]at h
  have:=afm (lo:=x+1) (hi:=hi) h.2 fun y hy=>⟨by have:=h.1 y hy;omega,(hb y (asy _ hy)).2⟩
  have:=hb x asz
  simp
  omega
theorem maxD_ints{l:List Int}(h:l≠[]):maxD (.list (l.map PyData.int))=.ok (.int (alI l)):=by
 cases l with
 |nil=>exact absurd rfl h
 |cons n ns=>
  show(match intsOf ((n::ns).map PyData.int) with
   |some (n::ns)=>Out.ok (PyData.int (Fy n ns))
   |_=>Out.bad)=_
  rw[Cm]
  rfl
theorem dh.clen{c:aM}(i:dh c){k:Nat}{l:List Int}(h:c.ci[k]?=some l):l.length<=200:=by
 have:=afm (lo:=1) (hi:=c.al.length) (i.up k l h) fun y hy=>i.mem k l h y hy
 have:=i.few
 omega
section
variable{M:Mo}{L:Lay}{c:aM}(a:At M L c)
include a
theorem wN(x:Int):uO M [ob L.g,.int x]=if Vg c x then .ok .none else .exc ⟨"NoGround",[]⟩:=by
 obtain⟨n,m,hg⟩:=a.hg
 have:=akg a x
 by_cases h:Vg c x <;> simp[uO,yS,hg,dw,this,yM,h]
theorem Mz(x:Int):jV M [ob L.g,.int x]=if Vg c x then .ok (.int (Jx c x)) else .exc ⟨"NoGround",[]⟩:=by
 obtain⟨n,m,hg⟩:=a.hg
 have hn:=wN a x
 by_cases h:Vg c x
 ·obtain⟨k,hk,rfl⟩:=Az h
  rw[if_pos h]at hn ⊢
  simp[jV,nO,hg,dw,hn,aG,Jx,hk]
 ·rw[if_neg h]at hn ⊢
  simp[jV,nO,hg,dw,hn,aG]
theorem vK(i:dh c)(x:Int):kE M [ob L.g,.int x]=if Vg c x then .ok (lI (bA c x)) else .exc ⟨"NoGround",[]⟩:=by
 obtain⟨n,m,hg⟩:=a.hg
 have hn:=wN a x
 by_cases h:Vg c x
 ·obtain⟨k,hk,rfl⟩:=Az h
  have hk':k < c.ci.length:=by rw[i.len];exact hk
  rw[if_pos h]at hn ⊢
  simp[kE,oR,hg,dw,hn,aG,bA,hk']
 ·rw[if_neg h]at hn ⊢
  simp[kE,oR,hg,dw,hn,aG]
theorem aja(i:dh c)(x:Int):pU M [ob L.g,.int x]=if Vg c x then .ok (.int (roomOf c x)) else .exc ⟨"NoGround",[]⟩:=by
 obtain⟨n,m,hg⟩:=a.hg
 have hn:=vK a i x
 by_cases h:Vg c x
 ·rw[if_pos h]at hn ⊢
  obtain⟨k,hk,rfl⟩:=Az h
  have hk':k < c.ci.length:=by rw[i.len];exact hk
  have hc:c.ci[k]?=some (bA c ((k:Int)+1)):=by simp[bA,hk']
  unfold roomOf
  generalize bA c ((k:Int)+1)=l at hc hn ⊢
  have hl:l.length<=50000:=by have:=i.clen hc;omega
  have hne:l.map (Jx c)≠[]:=fun z=>by
   have:=i.own k l hc
   rw[List.map_eq_nil_iff.mp z]at this
   cases this
  have key:=fj (tg:=aF 2) (te:=aW dR (ao 0) (ak (aq 2) au)) (M:=M) (ρ:=[some (.dat (ob L.g)),some (.dat (.int ((k:Int)+1))),none]) PyData.int (fun y=>.int (Jx c y)) l fun y hy=>⟨[some (.dat (ob L.g)),some (.dat (.int ((k:Int)+1))),some (.dat (.int y))],by simp,by
   have:=Mz a y
   rw[if_pos (i.mem k l hc y hy)]at this
   simp[hg,dw,dR,this]⟩
  simp[pU,uR,hg,dw,hn,bD,key,hl]
  have:=maxD_ints hne
  rw[as8]at this
  simp[asU]at this ⊢
  simp[this]
 ·rw[if_neg h]at hn ⊢
  simp[pU,uR,hg,dw,hn,bD]
end
theorem bG{M:Mo}{h k:Nat}{i j:Inst}(hm:M[h]?=some j):(M.set h i)[k]?=if h=k then some i else M[k]?:=by
 have hl:h < M.length:=(asv.mp hm).1
 rw[atv]
 by_cases e:h=k
 ·subst e
  rw[if_pos rfl,if_pos hl,if_pos rfl]
 ·rw[if_neg e,if_neg e]
theorem At.neq{M:Mo}{L:Lay}{c:aM}(a:At M L c):L.c≠L.g/\L.c≠L.r/\L.c≠L.h/\L.g≠L.r/\L.g≠L.h/\L.r≠L.h/\(∀x∈L.bs,L.c≠x/\L.g≠x/\L.r≠x/\L.h≠x)/\L.bs.Nodup:=by
 have nd:=a.nd
 simp only[atu,asN,not_or]at nd
 obtain⟨⟨n1,n2,n3,n4⟩,⟨n5,n6,n7⟩,⟨n8,n9⟩,n10,n11⟩:=nd
 exact⟨n1,n2,n3,n5,n6,n8,fun x hx=>⟨fun z=>n4 (z ▸ hx),fun z=>n7 (z ▸ hx),fun z=>n9 (z ▸ hx),fun z=>n10 (z ▸ hx)⟩,n11⟩
theorem At.frS{M:Mo}{L:Lay}{c:aM}(a:At M L c){h:Nat}{i j:Inst}(hm:M[h]?=some j)(hh:h∈L.c::L.g::L.r::L.h::L.bs):∀p∈L.fr,(M.set h i)[p.1]?=some p.2/\p.1∉L.c::L.g::L.r::L.h::L.bs:=fun p hp=>by
 obtain⟨h1,h2⟩:=a.fr p hp
 refine⟨?_,h2⟩
 rw[bG hm,if_neg (fun(z:h=p.1)=>h2 (z ▸ hh))]
 exact h1
theorem At.setG{M:Mo}{L:Lay}{c:aM}(a:At M L c){al:List Int}{ci:List (List Int)}{n m:Nat}:At (M.set L.g (dw n m { c with al:=al,ci:=ci })) L { c with al:=al,ci:=ci }:=by
 obtain⟨n',m',hg⟩:=a.hg
 obtain⟨e1,e2,e3,e4,e5,e6,e7,e8⟩:=a.neq
 have e1':=Ne.symm e1
 refine⟨?_,⟨n,m,?_⟩,?_,?_,a.len,fun i h b h1 h2=>?_,a.nd,a.frS hg (by simp)⟩
 ·rw[bG hg,if_neg e1']
  exact a.hc
 ·rw[bG hg,if_pos rfl]
 ·rw[bG hg,if_neg e4]
  exact a.hr
 ·rw[bG hg,if_neg e5]
  exact a.hh
 ·rw[bG hg,if_neg (e7 h (asC h1)).2.1]
  exact a.hb i h b h1 h2
theorem At.agi{M:Mo}{L:Lay}{c:aM}(a:At M L c){held:List Row3}:At (M.set L.r (nQ { c with held:=held })) L { c with held:=held }:=by
 obtain⟨e1,e2,e3,e4,e5,e6,e7,e8⟩:=a.neq
 have e2':=Ne.symm e2
 have e4':=Ne.symm e4
 have hr:=a.hr
 refine⟨?_,?_,?_,?_,a.len,fun i h b h1 h2=>?_,a.nd,a.frS hr (by simp)⟩
 ·rw[bG hr,if_neg e2']
  exact a.hc
 ·rw[bG hr,if_neg e4']
  exact a.hg
 ·rw[bG hr,if_pos rfl]
 ·rw[bG hr,if_neg e6]
  exact a.hh
 ·rw[bG hr,if_neg (e7 h (asC h1)).2.2.1]
  exact a.hb i h b h1 h2
theorem At.setC{M:Mo}{L:Lay}{c:aM}(a:At M L c){n:Int}{own:List Int}:At (M.set L.c (aQ L { c with count:=n,own:=own })) L { c with count:=n,own:=own }:=by
 obtain⟨e1,e2,e3,e4,e5,e6,e7,e8⟩:=a.neq
 have hc:=a.hc
 refine⟨?_,?_,?_,?_,a.len,fun i h b h1 h2=>?_,a.nd,a.frS hc (by simp)⟩
 ·rw[bG hc,if_pos rfl]
 ·rw[bG hc,if_neg e1]
  exact a.hg
 ·rw[bG hc,if_neg e2]
  exact a.hr
 ·rw[bG hc,if_neg e3]
  exact a.hh
 ·rw[bG hc,if_neg (e7 h (asC h1)).1]
  exact a.hb i h b h1 h2
theorem At.setB{M:Mo}{L:Lay}{c:aM}(a:At M L c){k h n:Nat}{b':cZ}(hk:L.bs[k]?=some h):At (M.set h (iB n b')) L { c with bs:=c.bs.set k b' }:=by
 obtain⟨e1,e2,e3,e4,e5,e6,e7,e8⟩:=a.neq
 have hl:k < c.bs.length:=by rw[←a.len];exact(asv.mp hk).1
 obtain⟨n0,hb⟩:=a.hb k h _ hk (asw hl)
 obtain⟨q1,q2,q3,q4⟩:=e7 h (asC hk)
 refine⟨?_,?_,?_,?_,by simp[a.len],fun i h2 b h3 h4=>?_,a.nd,a.frS hb (by simp[asC hk])⟩
 ·rw[bG hb,if_neg (Ne.symm q1)]
  exact a.hc
 ·rw[bG hb,if_neg (Ne.symm q2)]
  exact a.hg
 ·rw[bG hb,if_neg (Ne.symm q3)]
  exact a.hr
 ·rw[bG hb,if_neg (Ne.symm q4)]
  exact a.hh
 ·by_cases e:i=k
  ·subst e
   rw[hk]at h3
   cases h3
   have h4:(c.bs.set i b')[i]?=some b:=h4
   rw[asS hl]at h4
   cases h4
   exact⟨n,by rw[bG hb,if_pos rfl]⟩
  ·have h4:(c.bs.set k b')[i]?=some b:=h4
   rw[asF (Ne.symm e)]at h4
   have ne:h≠h2:=fun z=>by
    subst z
    exact e ((List.getElem?_inj (asv.mp h3).1 e8).mp (h3.trans hk.symm))
   rw[bG hb,if_neg ne]
   exact a.hb i h2 b h3 h4
theorem At.aoK{M:Mo}{L:Lay}{c:aM}(a:At M L c){M2:Mo}{h n n2:Nat}{b:cZ}(hh:M.length<=h)(hM:∀k,k < M.length->M2[k]?=M[k]?)(hb:M2[h]?=some (iB n b)):At (M2.set L.h (dI n2 { L with bs:=L.bs++[h] })) { L with bs:=L.bs++[h] } { c with bs:=c.bs++[b] }:=by
 obtain⟨e1,e2,e3,e4,e5,e6,e7,e8⟩:=a.neq
 have lt:∀{k:Nat} {i:Inst},M[k]?=some i->k < M.length:=fun z=>(asv.mp z).1
 obtain⟨n0,m0,hg⟩:=a.hg
 obtain⟨n1,hh1⟩:=a.hh
 have l1:=lt a.hc
 have l2:=lt hg
 have l3:=lt a.hr
 have l4:=lt hh1
 have lb:∀x∈L.bs,x < M.length:=fun x hx=>by
  obtain⟨i,hi,e⟩:=List.mem_iff_getElem.mp hx
  obtain⟨n',z⟩:=a.hb i x _ (by rw[asw hi,e]) (asw (by rw[←a.len];exact hi))
  exact lt z
 have g4:M2[L.h]?=some (dI n1 L):=by rw[hM _ l4];exact hh1
 refine⟨?_,⟨n0,m0,?_⟩,?_,⟨n2,?_⟩,by simp[a.len],fun i h2 b2 h3 h4=>?_,?_,fun p hp=>?_⟩
 ·show(M2.set L.h _)[L.c]?=_
  rw[bG g4,if_neg (Ne.symm e3),hM _ l1]
  exact a.hc
 ·show(M2.set L.h _)[L.g]?=_
  rw[bG g4,if_neg (Ne.symm e5),hM _ l2]
  exact hg
 ·show(M2.set L.h _)[L.r]?=_
  rw[bG g4,if_neg (Ne.symm e6),hM _ l3]
  exact a.hr
 ·show(M2.set L.h _)[L.h]?=_
  rw[bG g4,if_pos rfl]
 ·have h3:(L.bs++[h])[i]?=some h2:=h3
  have h4:(c.bs++[b])[i]?=some b2:=h4
  by_cases hi:i < L.bs.length
  ·rw[asK hi]at h3
   rw[asK (by rw[←a.len];exact hi)]at h4
   have m:=asC h3
   rw[bG g4,if_neg (e7 h2 m).2.2.2,hM _ (lb h2 m)]
   exact a.hb i h2 b2 h3 h4
  ·rw[asR (by omega)]at h3
   rw[asR (by rw[←a.len];omega),←a.len]at h4
   have e0:i - L.bs.length=0:=by
    have:=(asv.mp h3).1
    simp at this
    omega
   rw[e0]at h3 h4
   cases h3
   cases h4
   exact⟨n,by rw[bG g4,if_neg (by omega)];exact hb⟩
 ·have nd:=a.nd
  show(L.c::L.g::L.r::L.h::(L.bs++[h])).Nodup
  have:(L.c::L.g::L.r::L.h::(L.bs++[h]))=(L.c::L.g::L.r::L.h::L.bs)++[h]:=by simp
  rw[this,atl]
  refine⟨nd,by simp,fun x hx y hy=>?_⟩
  rw[asB.mp hy]
  rcases asN.mp hx with rfl|hx
  ·omega
  rcases asN.mp hx with rfl|hx
  ·omega
  rcases asN.mp hx with rfl|hx
  ·omega
  rcases asN.mp hx with rfl|hx
  ·omega
  have:=lb x hx
  omega
 ·obtain⟨h1,h2⟩:=a.fr p hp
  have hl:=lt h1
  refine⟨?_,?_⟩
  ·show(M2.set L.h _)[p.1]?=_
   rw[bG g4,if_neg (fun(z:L.h=p.1)=>h2 (by simp[←z])),hM _ hl]
   exact h1
  ·show p.1∉L.c::L.g::L.r::L.h::(L.bs++[h])
   intro z
   have:p.1∈(L.c::L.g::L.r::L.h::L.bs)++[h]:=by simpa using z
   rcases asO.mp this with z|z
   ·exact h2 z
   ·rw[asB]at z
    omega
section
variable{M:Mo}{L:Lay}{c:aM}(a:At M L c)
include a
theorem XQ(i:dh c)(hf:c.al.length < 200)(x:Int):if 0<=x/\x<=9 then ∃M',fB M [ob L.g,.int x]=.ok (.int (c.al.length+1)) M'/\At M' L { c with al:=c.al++[x],ci:=c.ci++[[(c.al.length:Int)+1]] } else fB M [ob L.g,.int x]=.exc ⟨"BadAllowance",[]⟩ M:=by
 obtain⟨n,m,hg⟩:=a.hg
 have hl:∀i,(M.set L.g i)[L.g]?=some i:=fun i=>by rw[bG hg,if_pos rfl]
 by_cases h:0<=x/\x<=9
 ·rw[if_pos h]
  refine⟨_,?_,a.setG (n:=n) (m:=m)⟩
  have h2:c.ci.length < 100000:=by rw[i.len];omega
  have h3:c.al.length < 100000:=by omega
  simp[fB,ju,qb,uL,eY,hg,dw,hl,h,gW,h2,h3]
  rfl
 ·rw[if_neg h]
  have:decide (0<=x)=true->decide (x<=9)=false:=by simp;omega
  by_cases h0:0<=x
  ·have h9:¬x<=9:=by omega
   simp[fB,ju,gW,h0,h9]
  ·simp[fB,ju,gW,h0]
end
def encl(ci:List (List Int))(l:List Int):List (List Int):=l.foldl (fun s y=>s.set (y - 1).toNat l) ci
theorem yW(l:List Int):∀(k:List Int) (ci:List (List Int)),(k.foldl (fun s y=>s.set (y - 1).toNat l) ci).length=ci.length
 |[],_=>rfl
 |y::k,ci=>by rw[atE,yW l k];simp
@[simp]theorem an4 (n k:Nat):ixN n (k:Int)=if k < n then some k else none:=by
 unfold ixN
 rw[if_pos (by omega)]
 by_cases h:k < n
 ·rw[if_pos (by omega),if_pos h]
  simp
 ·rw[if_neg (by omega),if_neg h]
section
variable{M:Mo}{L:Lay}{c:aM}{n m:Nat}(hg:M[L.g]?=some (dw n m c))
include hg
theorem Wr(l:List Int):∀(k:List Int) (s:List (List Int)) (o:Option Cell),(∀y∈k,1<=y/\y<=s.length)->
  ∃o',eZ (aF 3) rJ (k.map PyData.int) (M.set L.g (dw n m { c with ci:=s })) [some (.dat (ob L.g)),some (.dat (lI l)),some (.dat (aJ l)),o]=.next [some (.dat (ob L.g)),some (.dat (lI l)),some (.dat (aJ l)),o'] (M.set L.g (dw n m { c with ci:=k.foldl (fun s y=>s.set (y - 1).toNat l) s }))
 |[],s,o,_=>⟨o,rfl⟩
 |y::k,s,o,h=>by
  have hl:∀i,(M.set L.g i)[L.g]?=some i:=fun i=>by rw[bG hg,if_pos rfl]
  obtain⟨j,hj,rfl⟩:∃j:Nat,j < s.length/\y=(j:Int)+1:=⟨(y - 1).toNat,by have:=h y asz;omega,by have:=h y asz;omega⟩
  obtain⟨o',ih⟩:=Wr l k (s.set j l) (some (.dat (.int ((j:Int)+1)))) fun z hz=>by
   have:=h z (asy _ hz)
   simpa using this
  refine⟨o',?_⟩
  rw[asx,gK (ρ1:=[some (.dat (ob L.g)),some (.dat (lI l)),some (.dat (aJ l)),some (.dat (.int ((j:Int)+1)))]) (M2:=M.set L.g (dw n m { c with ci:=s.set j l })) (ρ2:=[some (.dat (ob L.g)),some (.dat (lI l)),some (.dat (aJ l)),some (.dat (.int ((j:Int)+1)))]) (by simp) (by simp[rJ,hl,dw,hj,List.map_set]),ih]
  simp
end
theorem Y4{M:Mo}{h:Nat}{i:Inst}(e:M[h]?=some i):M.set h i=M:=by
 apply as4
 intro k
 rw[bG e]
 split
 ·next z=>rw[←z,e]
 ·rfl
section
variable{M:Mo}{L:Lay}{c:aM}(a:At M L c)
include a
theorem Jf(l:List Int)(h:∀y∈l,1<=y/\y<=c.ci.length):∃M',lV M [ob L.g,lI l]=.ok (lI l) M'/\At M' L { c with ci:=encl c.ci l }:=by
 obtain⟨n,m,hg⟩:=a.hg
 obtain⟨o',key⟩:=Wr hg l l c.ci none h
 have e:(dw n m { c with ci:=c.ci })=dw n m c:=rfl
 rw[e,Y4 hg]at key
 refine⟨_,?_,a.setG (n:=n) (m:=m) (al:=c.al)⟩
 simp[lV,u9,key,encl]
end
theorem any_ints(y:Int)(l:List Int):((l.map PyData.int).any fun d=>PyData.eqv d (.int y))=decide (y∈l):=by
 induction l with
 |nil=>simp
 |cons x l ih=>
  rw[asx,atw,ih,ZS]
  by_cases h:x=y
  ·simp[h]
  ·have:¬y=x:=fun z=>h z.symm
   simp[h,this]
theorem HW(neg:Bool)(y:Int)(l:List Int):inD neg (.int y) (lI l)=.ok (.bool (neg ^^ decide (y∈l))):=by
 show(Out.when (okd 12 (.int y)&&mY 12 (l.map PyData.int)) (.ok ((l.map PyData.int).any fun z=>PyData.eqv z (.int y)))).bind _=_
 rw[any_ints,ahB,V6]
 rfl
section
variable{M:Mo}{L:Lay}{c:aM}(a:At M L c)
include a
theorem acy(i:dh c)(x y:Int)(hx:Vg c x)(hy:Vg c y):if y∈bA c x then lC M [ob L.g,.int x,.int y]=.exc ⟨"Together",[]⟩ M else
  ∃M',lC M [ob L.g,.int x,.int y]=.ok (lI (sortI (bA c x++bA c y))) M'/\At M' L { c with ci:=encl c.ci (sortI (bA c x++bA c y)) }:=by
 have t1:=vK a i x
 have t2:=vK a i y
 rw[if_pos hx]at t1
 rw[if_pos hy]at t2
 obtain⟨n,m,hg⟩:=a.hg
 have hcx:c.ci[(x - 1).toNat]?=some (bA c x):=by
  obtain⟨k,hk,rfl⟩:=Az hx
  have hk':k < c.ci.length:=by rw[i.len];exact hk
  simp[bA,hk']
 have hcy:c.ci[(y - 1).toNat]?=some (bA c y):=by
  obtain⟨k,hk,rfl⟩:=Az hy
  have hk':k < c.ci.length:=by rw[i.len];exact hk
  simp[bA,hk']
 by_cases h:y∈bA c x
 ·rw[if_pos h]
  simp[lC,sV,hg,dw,bD,t1,t2,HW,h]
 ·rw[if_neg h]
  have hm:∀z∈sortI (bA c x++bA c y),1<=z/\z<=c.ci.length:=fun z hz=>by
   unfold sortI at hz
   rw[List.mem_mergeSort,asO]at hz
   rw[i.len]
   rcases hz with hz|hz
   ·exact i.mem _ _ hcx z hz
   ·exact i.mem _ _ hcy z hz
  obtain⟨M',h1,h2⟩:=Jf a _ hm
  refine⟨M',?_,h2⟩
  have l1:=i.clen hcx
  have l2:=i.clen hcy
  have hs:zR (lI (bA c x++bA c y))=.ok (lI (sortI (bA c x++bA c y))):=by
   show(match intsOf ((bA c x++bA c y).map PyData.int) with
    |some l=>Out.ok (PyData.list ((sortI l).map PyData.int))
    |none=>_)=_
   rw[Cm]
  have hz:(bA c x).length+(bA c y).length<=100000:=by omega
  have hs:zR (.list ((bA c x).map PyData.int++(bA c y).map PyData.int))=.ok (lI (sortI (bA c x++bA c y))):=by rw[←List.map_append];exact hs
  simp[lC,sV,hg,dw,bD,gH,t1,t2,HW,h,hz,hs,h1]
theorem aeK(i:dh c)(x:Int):if Vg c x then(if (bA c x).filter (fun y=>!(y==x))=[] then jo M [ob L.g,.int x]=.exc ⟨"Alone",[]⟩ M else
  ∃M',jo M [ob L.g,.int x]=.ok (lI ((bA c x).filter (fun y=>!(y==x)))) M'/\At M' L { c with ci:=encl (encl c.ci [x]) ((bA c x).filter (fun y=>!(y==x))) }) else jo M [ob L.g,.int x]=.exc ⟨"NoGround",[]⟩ M:=by
 have t1:=vK a i x
 obtain⟨n,m,hg⟩:=a.hg
 by_cases hx:Vg c x
 ·rw[if_pos hx]at t1 ⊢
  have hcx:c.ci[(x - 1).toNat]?=some (bA c x):=by
   obtain⟨k,hk,rfl⟩:=Az hx
   have hk':k < c.ci.length:=by rw[i.len];exact hk
   simp[bA,hk']
  have hl:(bA c x).length<=50000:=by have:=i.clen hcx;omega
  have key:=fU (tg:=aF 3) (tt:=aY (aA tH (ao 3) (ao 1))) (te:=aq 3) (M:=M) (ρ:=[some (.dat (ob L.g)),some (.dat (.int x)),none,none]) PyData.int (fun y=>!(y==x)) PyData.int (bA c x) fun y _=>⟨[some (.dat (ob L.g)),some (.dat (.int x)),none,some (.dat (.int y))],by simp,by simp,fun _=>by simp⟩
  by_cases he:(bA c x).filter (fun y=>!(y==x))=[]
  ·rw[if_pos he]
   rw[he]at key
   simp only[aty]at key
   simp[jo,pX,hg,dw,bD,t1,key,hl]
  ·rw[if_neg he]
   generalize hL:(bA c x).filter (fun y=>!(y==x))=left at he key
   have hm:∀z∈left,1<=z/\z<=(encl c.ci [x]).length:=fun z hz=>by
    rw[←hL,asY]at hz
    unfold encl
    rw[yW,i.len]
    exact i.mem _ _ hcx z hz.1
   obtain⟨M1,h1,a1⟩:=Jf a [x] (fun z hz=>by rw[asB.mp hz,i.len];exact hx)
   obtain⟨M2,h2,a2⟩:=Jf a1 left hm
   refine⟨M2,?_,a2⟩
   obtain⟨n1,m1,hg1⟩:=a1.hg
   have h1:lV M [ob L.g,.list [.int x]]=.ok (.list [.int x]) M1:=h1
   have he':left.isEmpty=false:=by cases left with
    |nil=>exact absurd rfl he
    |cons _ _=>rfl
   simp[jo,pX,hg,hg1,dw,bD,gH,t1,key,hl,h1,h2,he']
 ·rw[if_neg hx]at t1 ⊢
  simp[jo,pX,hg,dw,bD,t1]
end
theorem aiY(o g:Int)(m:List Int)(o' g':Int)(m':List Int):PyData.eqv (fJ (o,g,m)) (fJ (o',g',m'))=decide ((o,g,m)=(o',g',m')):=by
 simp only[fJ,aaF,abM,ZS,zP,ahq,Bool.and_true]
 by_cases h1:o=o' <;> by_cases h2:g=g' <;> by_cases h3:m=m' <;> simp[h1,h2,h3]
theorem ae9(r s:Row3):PyData.eqv (fJ r) (fJ s)=decide (r=s):=aiY _ _ _ _ _ _
theorem Wx:∀l:List Int,xX (l.map PyData.int)=some (l.map NestedKey.num)
 |[]=>rfl
 |i::l=>by rw[asx,xX,Wx l];rfl
theorem akv(r:Row3):uD (fJ r)=some (.tup [.num r.1,.num r.2.1,.tup (r.2.2.map .num)]):=by
 simp[fJ,uD,xX,Wx]
theorem depth_ints:∀l:List Int,NestedKey.depthAll (l.map NestedKey.num)<=1
 |[]=>by simp[NestedKey.depthAll]
 |i::l=>by
  have:=depth_ints l
  simp[NestedKey.depthAll,NestedKey.depth]
  omega
theorem Vn(kvs:List (Dat×Dat))(r:Row3):dhas true kvs (fJ r)=.ok (kvs.any fun p=>PyData.eqv p.1 (fJ r)):=by
 have hk:=akv r
 have hd:NestedKey.depth (.tup [.num r.1,.num r.2.1,.tup (r.2.2.map .num)])<=8:=by
  have:=depth_ints r.2.2
  simp[NestedKey.depth,NestedKey.depthAll]
  omega
 show(match uD (fJ r) with
  |some k=>match decide (k.depth<=8) with
   |true=>Out.ok (kvs.any fun p=>PyData.eqv p.1 (fJ r))
   |false=>.bad
  |none=>.bad)=_
 rw[hk]
 show(match decide (NestedKey.depth (.tup [.num r.1,.num r.2.1,.tup (r.2.2.map .num)])<=8) with
   |true=>Out.ok (kvs.any fun p=>PyData.eqv p.1 (fJ r))
   |false=>.bad)=_
 rw[decide_eq_true hd]
theorem aay(held:List Row3)(r:Row3):((held.map fun r=>(fJ r,PyData.bool true)).any fun p=>PyData.eqv p.1 (fJ r))=decide (r∈held):=by
 induction held with
 |nil=>simp
 |cons s held ih=>
  rw[asx,atw,ih,ae9]
  by_cases h:s=r
  ·simp[h]
  ·have:¬r=s:=fun z=>h z.symm
   simp[h,this]
def bK(c:aM)(o g:Int):List (List Int):=(c.held.filter fun r=>(r.1==o)&&(r.2.1==g)).map fun r=>r.2.2
section
variable{M:Mo}{L:Lay}{c:aM}(a:At M L c)(few:c.held.length<=50000)
include a few
theorem Jr(o g:Int):uG M [ob L.r,.int o,.int g]=.ok (.list ((bK c o g).map aJ)):=by
 have hr:=a.hr
 have key:=fU (tg:=bF [3,4,5]) (tt:=gG (aY (aA bR (ao 3) (ao 1))) (aY (aA bR (ao 4) (ao 2)))) (te:=aq 5) (M:=M) (ρ:=[some (.dat (ob L.r)),some (.dat (.int o)),some (.dat (.int g)),none,none,none]) fJ (fun r=>(r.1==o)&&(r.2.1==g)) (fun r=>aJ r.2.2) c.held fun r _=>⟨[some (.dat (ob L.r)),some (.dat (.int o)),some (.dat (.int g)),some (.dat (.int r.1)),some (.dat (.int r.2.1)),some (.dat (aJ r.2.2))],by simp[fJ],by
  by_cases h:r.1=o <;> simp[h],fun _=>by simp⟩
 have e:(c.held.map fun r=>(fJ r,PyData.bool true)).map (·.1)=c.held.map fJ:=by simp
 simp[uG,yJ,hr,nQ,bK]
 simp[asU,key,few]
theorem aaB(o g:Int):oM M [ob L.r,.int o,.int g]=.ok (.bool (decide (bK c o g≠[]))):=by
 have hr:=a.hr
 have h:=Jr a few o g
 simp[oM,uw,hr,nQ,cM,h,List.length_pos_iff]
theorem Xj(near:List Int):nu M [ob L.r,lI near]=.ok (.list ((c.held.filter fun r=>decide (r.2.1∈near)).map fun r=>Ear.rD (r.1,r.2.2))):=by
 have hr:=a.hr
 have key:=fU (tg:=bF [2,3,4]) (tt:=aY (aA (inD false) (ao 3) (ao 1))) (te:=bh (ak (aq 2) (ak (aq 4) au))) (M:=M) (ρ:=[some (.dat (ob L.r)),some (.dat (lI near)),none,none,none]) fJ (fun r=>decide (r.2.1∈near)) (fun r=>Ear.rD (r.1,r.2.2)) c.held fun r _=>⟨[some (.dat (ob L.r)),some (.dat (lI near)),some (.dat (.int r.1)),some (.dat (.int r.2.1)),some (.dat (aJ r.2.2))],by simp[fJ],by simp[HW],fun _=>by simp[Ear.rD,Ear.dT]⟩
 simp[nu,rR,hr,nQ]
 simp[asU,key,few]
theorem aa5:pq M [ob L.r]=.ok (.list (c.held.map fJ)):=by
 have hr:=a.hr
 simp[pq,u5,hr,nQ,asU]
theorem KC(o g:Int)(m:List Int):if (o,g,m)∈c.held then jk M [ob L.r,.int o,.int g,aJ m]=.exc ⟨"HasRight",[]⟩ M else
  ∃M',jk M [ob L.r,.int o,.int g,aJ m]=.ok .none M'/\At M' L { c with held:=c.held++[(o,g,m)] }:=by
 have hr:=a.hr
 have h1:=Vn (c.held.map fun r=>(fJ r,PyData.bool true)) (o,g,m)
 rw[aay]at h1
 simp only[fJ]at h1
 have f2:c.held.length < 100000:=by omega
 by_cases h:(o,g,m)∈c.held
 ·rw[if_pos h]
  simp[h]at h1
  simp[jk,oG,hr,nQ,fJ,h1]
 ·rw[if_neg h]
  refine⟨_,?_,a.agi⟩
  simp[h]at h1
  simp[jk,oG,hr,nQ,fJ,h1,f2]
end
theorem aey(held:List Row3)(r:Row3):((held.map fun r=>(fJ r,PyData.bool true)).filter fun p=>!PyData.eqv p.1 (fJ r))=(held.filter fun s=>decide (s≠r)).map fun r=>(fJ r,PyData.bool true):=by
 induction held with
 |nil=>rfl
 |cons s held ih=>
  simp only[asx,atg,ae9,ih]
  by_cases h:s=r <;> simp[h]
def Yi(o g:Int)(k:List (List Int))(s:List Row3):List Row3:=k.foldl (fun s mk=>s.filter fun r=>decide (r≠(o,g,mk))) s
section
variable{M:Mo}{L:Lay}{c:aM}(hr:M[L.r]?=some (nQ c))
include hr
theorem Wt(o g:Int)(all:List (List Int)):∀(k:List (List Int)) (s:List Row3) (x:Option Cell),k.Nodup->(∀mk∈k,(o,g,mk)∈s)->s.length<=50000->
  ∃x',eZ (aF 4) xq (k.map aJ) (M.set L.r (nQ { c with held:=s })) [some (.dat (ob L.r)),some (.dat (.int o)),some (.dat (.int g)),some (.dat (.list (all.map aJ))),x]=.next [some (.dat (ob L.r)),some (.dat (.int o)),some (.dat (.int g)),some (.dat (.list (all.map aJ))),x'] (M.set L.r (nQ { c with held:=Yi o g k s }))
 |[],s,x,_,_,_=>⟨x,rfl⟩
 |mk::k,s,x,nd,h,hf=>by
  have hl:∀i,(M.set L.r i)[L.r]?=some i:=fun i=>by rw[bG hr,if_pos rfl]
  rw[atu]at nd
  have h1:=Vn (s.map fun r=>(fJ r,PyData.bool true)) (o,g,mk)
  rw[aay,decide_eq_true (h mk asz)]at h1
  have h2:=aey s (o,g,mk)
  have f2:s.length<=100000:=by omega
  obtain⟨x',ih⟩:=Wt o g all k (s.filter fun r=>decide (r≠(o,g,mk))) (some (.dat (aJ mk))) nd.2 (fun z hz=>by
   rw[asY]
   refine⟨h z (asy _ hz),decide_eq_true fun e=>?_⟩
   have:z=mk:=by simpa using e
   exact nd.1 (this ▸ hz)) (as5 (asQ _ _) hf)
  refine⟨x',?_⟩
  rw[asx,gK (ρ1:=[some (.dat (ob L.r)),some (.dat (.int o)),some (.dat (.int g)),some (.dat (.list (all.map aJ))),some (.dat (aJ mk))]) (M2:=M.set L.r (nQ { c with held:=s.filter fun r=>decide (r≠(o,g,mk)) })) (ρ2:=[some (.dat (ob L.r)),some (.dat (.int o)),some (.dat (.int g)),some (.dat (.list (all.map aJ))),some (.dat (aJ mk))]) (by simp) ?_,ih]
  ·rfl
  ·have h1':dhas true (s.map fun r=>(fJ r,PyData.bool true)) (.tuple [.int o,.int g,aJ mk])=.ok true:=h1
   have h2':((s.map fun r=>(fJ r,PyData.bool true)).filter fun p=>!PyData.eqv p.1 (.tuple [.int o,.int g,aJ mk]))=(s.filter fun s=>decide (s≠(o,g,mk))).map fun r=>(fJ r,PyData.bool true):=h2
   simp[xq,hl,nQ,h1',f2]
   rw[h2']
   simp
end
theorem YB(o g:Int):∀(k:List (List Int)) (s:List Row3),Yi o g k s=s.filter fun r=>decide (∀mk∈k,r≠(o,g,mk))
 |[],s=>(atM.mpr (by simp)).symm
 |mk::k,s=>by
  show Yi o g k (s.filter _)=_
  rw[YB o g k,atO]
  congr 1
  funext r
  by_cases h1:r=(o,g,mk) <;> simp[h1]
def dropped(c:aM)(o g:Int):List Row3:=c.held.filter fun r=>!((r.1==o)&&(r.2.1==g))
theorem adf(c:aM)(o g:Int):Yi o g (bK c o g) c.held=dropped c o g:=by
 rw[YB]
 unfold dropped
 refine List.filter_congr fun r hr=>?_
 obtain⟨x,y,z⟩:=r
 by_cases h:x=o/\y=g
 ·obtain⟨rfl,rfl⟩:=h
  have:z∈bK c x y:=by
   unfold bK
   rw[asJ]
   exact⟨(x,y,z),by rw[asY];exact⟨hr,by simp⟩,rfl⟩
  simp
  exact this
 ·have e:(!((x==o)&&(y==g)))=true:=by
   by_cases h1:x=o <;> by_cases h2:y=g <;> simp_all
  have e2:∀mk∈bK c o g,(x,y,z)≠(o,g,mk):=fun mk _ z=>by
   simp at z
   exact h ⟨z.1,z.2.1⟩
  rw[e,decide_eq_true e2]
theorem aaV{c:aM}(h:c.held.Nodup)(o g:Int):(bK c o g).Nodup:=by
 unfold bK
 have h1:(c.held.filter fun r=>(r.1==o)&&(r.2.1==g)).Nodup:=h.filter _
 unfold List.Nodup at h1 ⊢
 rw[List.pairwise_map]
 refine List.Pairwise.imp_of_mem (fun {r s} hr hs ne e=>ne ?_) h1
 rw[asY]at hr hs
 obtain⟨r1,r2,r3⟩:=r
 obtain⟨s1,s2,s3⟩:=s
 have:=hr.2
 have:=hs.2
 simp at *
 obtain⟨rfl,rfl⟩:=hr.2
 obtain⟨rfl,rfl⟩:=hs.2
 exact⟨rfl,rfl,e⟩
section
variable{M:Mo}{L:Lay}{c:aM}(a:At M L c)(few:c.held.length<=50000)(nd:c.held.Nodup)
include a few nd
theorem ai4(o g:Int):if bK c o g=[] then oE M [ob L.r,.int o,.int g]=.exc ⟨"NoRight",[]⟩ M else
  ∃M',oE M [ob L.r,.int o,.int g]=.ok (.list ((bK c o g).map aJ)) M'/\At M' L { c with held:=dropped c o g }:=by
 have hr:=a.hr
 have h1:=Jr a few o g
 by_cases h:bK c o g=[]
 ·rw[if_pos h]
  rw[h]at h1
  simp[oE,vX,hr,nQ,cM,h1]
 ·rw[if_neg h]
  obtain⟨x',key⟩:=Wt hr o g (bK c o g) (bK c o g) c.held none (aaV nd o g) (fun mk hm=>by
   unfold bK at hm
   rw[asJ]at hm
   obtain⟨⟨r1,r2,r3⟩,h3,rfl⟩:=hm
   rw[asY]at h3
   have:=h3.2
   simp at this
   obtain⟨rfl,rfl⟩:=this
   exact h3.1) few
  have e:(nQ { c with held:=c.held })=nQ c:=rfl
  rw[e,Y4 hr,adf]at key
  refine⟨_,?_,a.agi⟩
  have he:(bK c o g).isEmpty=false:=by
   cases hm:bK c o g with
   |nil=>exact absurd hm h
   |cons _ _=>rfl
  simp[oE,vX,hr,nQ,cM,h1,he]
  simp[key]
  rfl
end
def FJ(acc:List Row3)(r:Row3):List Row3:=if r∈acc then acc else acc++[r]
def Cp(e h:Int)(r:Row3):Row3:=(if r.1=e then h else r.1,r.2.1,r.2.2)
def handed(c:aM)(e h:Int):List Row3:=(c.held.map (Cp e h)).foldl FJ []
theorem abf{tg:fV}{tk:QF}{M:Mo}{ρ:Rf.Env}(f:Row3->Row3):∀(xs acc:List Row3),(∀x∈xs,∃ρ1,tg (fJ x) ρ=some ρ1/\tk M ρ1=.ok (fJ (f x)))->Fg tg tk M ρ (xs.map fJ) (acc.map fun r=>(fJ r,PyData.bool true))=.ok (((xs.map f).foldl FJ acc).map fun r=>(fJ r,PyData.bool true))
 |[],acc,_=>rfl
 |x::xs,acc,h=>by
  obtain⟨ρ1,h1,h2⟩:=h x asz
  rw[asx,Fg,h1]
  show((yF (tk M ρ1)).bind fun kd=>(dhas true _ kd).bind fun r=>_)=_
  rw[h2,Z7,Out.zj,Vn,aay,Out.zj,asx,atE]
  have ih:=abf f xs (FJ acc (f x)) fun y hy=>h y (asy _ hy)
  unfold FJ at ih ⊢
  by_cases hm:f x∈acc
  ·rw[if_pos hm]at ih ⊢
   rw[decide_eq_true hm]
   exact ih
  ·rw[if_neg hm]at ih ⊢
   rw[decide_eq_false hm]
   rw[List.map_append]at ih
   exact ih
section
variable{M:Mo}{L:Lay}{c:aM}(a:At M L c)(few:c.held.length<=50000)
include a few
theorem Z0(e h:Int):∃M',oV M [ob L.r,.int e,.int h]=.ok .none M'/\At M' L { c with held:=handed c e h }:=by
 have hr:=a.hr
 have hl:L.r < M.length:=(asv.mp hr).1
 have hr2:(M++[(⟨"",[]⟩:Inst)])[L.r]?=some (nQ c):=by rw[asK hl];exact hr
 have key:=abf (tg:=bF [3,4,5]) (tk:=bh (ak (Sy (aY (aA bR (ao 3) (ao 1))) (aq 2) (aq 3)) (ak (aq 4) (ak (aq 5) au)))) (M:=M) (ρ:=[some (.dat (ob L.r)),some (.dat (.int e)),some (.dat (.int h)),none,none,none]) (Cp e h) c.held [] fun r _=>⟨[some (.dat (ob L.r)),some (.dat (.int e)),some (.dat (.int h)),some (.dat (.int r.1)),some (.dat (.int r.2.1)),some (.dat (aJ r.2.2))],by simp[fJ],by
  by_cases z:r.1=e <;> simp[z,Cp,fJ]⟩
 have ex:At (M++[⟨"",[]⟩]) L c:=by
  have lt:∀{k:Nat} {i:Inst},M[k]?=some i->(M++[(⟨"",[]⟩:Inst)])[k]?=some i:=fun z=>by rw[asK (asv.mp z).1];exact z
  obtain⟨n,m,hg⟩:=a.hg
  obtain⟨n1,hh⟩:=a.hh
  exact⟨lt a.hc,⟨n,m,lt hg⟩,lt a.hr,⟨n1,lt hh⟩,a.len,fun i h b h1 h2=>by
   obtain⟨n2,z⟩:=a.hb i h b h1 h2
   exact⟨n2,lt z⟩,a.nd,fun p hp=>⟨lt (a.fr p hp).1,(a.fr p hp).2⟩⟩
 refine⟨_,?_,ex.agi⟩
 simp only[aty]at key
 simp[oV,uF,hr,hr2,nQ,j8]
 simp[asU,key,few,handed]
end
@[simp]theorem ari (n:Nat) (b:cZ):(iB n b).cls="Beast":=rfl
theorem aa2{M:Mo}{h n:Nat}{b:cZ}(hb:M[h]?=some (iB n b))(s:Sd):ni M [ob h,s.dat]=.ok .none (M.set h (iB n { b with sd:=s })):=by
 have hl:∀i,(M.set h i)[h]?=some i:=fun i=>by rw[bG hb,if_pos rfl]
 simp[ni,qO,Sd.dat,hb,iB,hl,j8]
theorem YT{M:Mo}{h n:Nat}{b:cZ}(hb:M[h]?=some (iB n b)):vO M [ob h]=.ok b.sd.dat:=by
 simp[vO,Bo,Sd.dat,hb,iB]
theorem sW{M:Mo}{h n:Nat}{b:cZ}(hb:M[h]?=some (iB n b))(e:En)(he:b.sd.ear.length<=1000)(hf:b.en.length<=50000):mU M [ob h,e.dat]=.ok .none (M.set h (iB n { b with en:=b.en++[e],sd:=go b.sd e })):=by
 have hl:∀i,(M.set h i)[h]?=some i:=fun i=>by rw[bG hb,if_pos rfl]
 have h1:(M.set h (iB n { b with en:=b.en++[e] }))[h]?=some (iB n { b with en:=b.en++[e] }):=hl _
 have h2:=YT h1
 have h3:=gone_ok (M.set h (iB n { b with en:=b.en++[e] })) b.sd e he
 have h4:=aa2 h1 (go b.sd e)
 have h5:b.en.length+1 < 100000:=by omega
 have e1:M.set h ⟨"Beast",[("story",.lst n (b.fi.dat::(b.en.map En.dat++[e.dat]))),("mother",.dat (.int b.mo)),("owner",.dat (.int b.sd.o)),("ground",.dat (.int b.sd.g)),("due",.dat (jy b.sd.due)),("ear",.dat (aJ b.sd.ear)),("alive",.dat (.bool b.sd.al))]⟩=M.set h (iB n { b with en:=b.en++[e] }):=by simp[iB]
 simp[mU,yN,hb,iB,h5]
 rw[e1]
 simp[h1,mV,jM,h2,h3,h4]
 simp[iB]
def ajh:Fi->Int
 |.born m _ _=>m
 |_=>0
def Fw(f:Fi):cZ:=⟨f,[],ajh f,beg f⟩
theorem ah0(M:Mo)(f:Fi):tL (M++[⟨"Beast",[]⟩]) [ob M.length,f.dat]=.ok .none (M++[iB (M.length+1) (Fw f),⟨"",[]⟩]):=by
 have hbeg:=fun M=>afy M f
 have hg:∀i (r:List Inst),(M++i::r)[M.length]?=some i:=fun i r=>by simp
 have hs:∀i j (r:List Inst),(M++i::r).set M.length j=M++j::r:=fun i j r=>by simp
 cases f <;> simp[tL,DR,Fi.dat,hg,hs,j8,ni,qO,jM,CN,Nv,jw,iB,Fw,ajh,beg,jy,Fi.dat]
def bZ(L:Lay)(c:aM):List (Nat×Nat×cZ):=(L.bs.zip c.bs).mapIdx fun i p=>(i,p.1,p.2)
def nb(x:Nat×Nat×cZ):Dat:=.tuple [.int ((x.1:Int)+1),ob x.2.1]
theorem Fb{L:Lay}{c:aM}{x:Nat×Nat×cZ}(h:x∈bZ L c):L.bs[x.1]?=some x.2.1/\c.bs[x.1]?=some x.2.2:=by
 unfold bZ at h
 obtain⟨i,hi,e⟩:=List.mem_mapIdx.mp h
 have hz:=asw hi
 rw[atr]at hz
 subst e
 exact hz
theorem At.hb'{M:Mo}{L:Lay}{c:aM}(a:At M L c){x:Nat×Nat×cZ}(h:x∈bZ L c):∃n,M[x.2.1]?=some (iB n x.2.2):=by
 obtain⟨h1,h2⟩:=Fb h
 exact a.hb _ _ _ h1 h2
theorem At.len'{M:Mo}{L:Lay}{c:aM}(a:At M L c):(bZ L c).length=c.bs.length:=by
 unfold bZ
 simp[a.len]
theorem At.enum{M:Mo}{L:Lay}{c:aM}(a:At M L c):o9 1 (L.bs.map ob)=(bZ L c).map nb:=by
 unfold o9 bZ
 apply as4
 intro i
 simp only[atk,asI]
 by_cases hi:i < L.bs.length
 ·have hi2:i < c.bs.length:=by rw[←a.len];exact hi
  have hz:(L.bs.zip c.bs)[i]?=some (L.bs[i],c.bs[i]):=by
   rw[atr]
   exact⟨asw hi,asw hi2⟩
  rw[hz]
  simp[hi,nb,Int.add_comm]
 ·have hi2:¬i < c.bs.length:=by rw[←a.len];exact hi
  have:(L.bs.zip c.bs)[i]?=none:=by
   rw[List.getElem?_eq_none_iff,List.length_zip]
   omega
  simp[as7 (by omega:L.bs.length<=i),this]
section
variable{M:Mo}{L:Lay}{c:aM}(a:At M L c)(few:c.bs.length<=50000)
include a few
theorem Bt:pB M [ob L.h]=.ok (.list (((bZ L c).filter fun x=>x.2.2.sd.al).map nb)):=by
 obtain⟨n,hh⟩:=a.hh
 have hl:=a.len'
 have he:=a.enum
 have key:=fU (tg:=bF [1,2]) (tt:=iw (bL "alive" (ao 2))) (te:=bh (ak (aq 1) (ak (aq 2) au))) (M:=M) (ρ:=[some (.dat (ob L.h)),none,none]) nb (fun x=>x.2.2.sd.al) nb (bZ L c) fun x hx=>⟨[some (.dat (ob L.h)),some (.dat (.int ((x.1:Int)+1))),some (.dat (ob x.2.1))],by simp[nb],by
  obtain⟨n,hb⟩:=a.hb' hx
  simp[hb,iB],fun _=>by simp[nb]⟩
 simp[pB,vh,hh,dI]
 rw[he]
 simp[key,hl,few]
theorem SQ(near:List Int):pP M [ob L.h,lI near]=.ok (.list (((bZ L c).filter fun x=>decide (x.2.2.sd.g∈near)&&x.2.2.sd.al).map nb)):=by
 obtain⟨n,hh⟩:=a.hh
 have h1:=Bt a few
 have hl:((bZ L c).filter fun x=>x.2.2.sd.al).length<=50000:=as5 (asQ _ _) (by rw[a.len'];exact few)
 have key:=fU (tg:=bF [2,3]) (tt:=aY (aA (inD false) (bL "ground" (ao 3)) (ao 1))) (te:=bh (ak (aq 2) (ak (aq 3) au))) (M:=M) (ρ:=[some (.dat (ob L.h)),some (.dat (lI near)),none,none]) nb (fun x=>decide (x.2.2.sd.g∈near)) nb ((bZ L c).filter fun x=>x.2.2.sd.al) fun x hx=>⟨[some (.dat (ob L.h)),some (.dat (lI near)),some (.dat (.int ((x.1:Int)+1))),some (.dat (ob x.2.1))],by simp[nb],by
  obtain⟨n,hb⟩:=a.hb' (asY.mp hx).1
  simp[hb,iB,HW],fun _=>by simp[nb]⟩
 rw[atO]at key
 simp[pP,zf,hh,dI,dO,h1,key,hl]
theorem agI(o:Int):yj M [ob L.h,.int o]=.ok (.list (((bZ L c).filter fun x=>(x.2.2.sd.o==o)&&x.2.2.sd.al).map nb)):=by
 obtain⟨n,hh⟩:=a.hh
 have h1:=Bt a few
 have hl:((bZ L c).filter fun x=>x.2.2.sd.al).length<=50000:=as5 (asQ _ _) (by rw[a.len'];exact few)
 have key:=fU (tg:=bF [2,3]) (tt:=aY (aA bR (bL "owner" (ao 3)) (ao 1))) (te:=bh (ak (aq 2) (ak (aq 3) au))) (M:=M) (ρ:=[some (.dat (ob L.h)),some (.dat (.int o)),none,none]) nb (fun x=>x.2.2.sd.o==o) nb ((bZ L c).filter fun x=>x.2.2.sd.al) fun x hx=>⟨[some (.dat (ob L.h)),some (.dat (.int o)),some (.dat (.int ((x.1:Int)+1))),some (.dat (ob x.2.1))],by simp[nb],by
  obtain⟨n,hb⟩:=a.hb' (asY.mp hx).1
  simp[hb,iB],fun _=>by simp[nb]⟩
 rw[atO]at key
 simp[yj,Dt,hh,dI,dO,h1,key,hl]
theorem aaA(k:Int):lB M [ob L.h,.int k]=if 1<=k/\k<=c.bs.length then .ok (ob ((L.bs[(k - 1).toNat]?).getD 0)) else .exc ⟨"NoBeast",[]⟩:=by
 obtain⟨n,hh⟩:=a.hh
 have hlen:(L.bs.length:Int)=c.bs.length:=by rw[a.len]
 by_cases h:1<=k/\k<=c.bs.length
 ·rw[if_pos h]
  obtain⟨j,rfl⟩:∃j:Nat,k=(j:Int)+1:=⟨(k - 1).toNat,by omega⟩
  have hj:j < L.bs.length:=by have:=a.len;omega
  have h1:(1:Int)<=j+1:=by omega
  have h2:(j:Int)+1<=L.bs.length:=by omega
  simp[lB,uz,hh,dI,h1,h2,hj]
 ·rw[if_neg h]
  by_cases h1:1<=k
  ·have h2:¬k<=L.bs.length:=by omega
   simp[lB,uz,hh,dI,h1,h2]
  ·simp[lB,uz,hh,dI,h1]
end
def bk(c:aM)(k:Int):Option cZ:=if 1<=k/\k<=c.bs.length then c.bs[(k - 1).toNat]? else none
def hk(L:Lay)(k:Int):Nat:=(L.bs[(k - 1).toNat]?).getD 0
def lF(b:cZ)(e:En):cZ:={ b with en:=b.en++[e],sd:=go b.sd e }
def dX(c:aM)(i:Nat)(e:En):aM:={ c with bs:=c.bs.modify i fun b=>lF b e }
theorem rE{M:Mo}{L:Lay}{c:aM}(a:At M L c){k:Int}{b:cZ}(h:bk c k=some b):1<=k/\k<=c.bs.length/\L.bs[(k - 1).toNat]?=some (hk L k)/\c.bs[(k - 1).toNat]?=some b/\∃n,M[hk L k]?=some (iB n b):=by
 unfold bk at h
 split at h
 ·next hh=>
  have hl:(k - 1).toNat < L.bs.length:=by have:=a.len;omega
  have e:L.bs[(k - 1).toNat]?=some (hk L k):=by
   unfold hk
   rw[asw hl]
   rfl
  exact⟨hh.1,hh.2,e,h,a.hb _ _ _ e h⟩
 ·cases h
theorem aby{c:aM}{k:Int}(h:bk c k=none):¬(1<=k/\k<=c.bs.length):=fun z=>by
 unfold bk at h
 rw[if_pos z,List.getElem?_eq_none_iff]at h
 omega
section
variable{M:Mo}{L:Lay}{c:aM}(a:At M L c)(few:c.bs.length<=50000)
include a few
theorem Jz{k:Int}{b:cZ}(h:bk c k=some b):lB M [ob L.h,.int k]=.ok (ob (hk L k)):=by
 obtain⟨h1,h2,_⟩:=rE a h
 rw[aaA a few,if_pos ⟨h1,h2⟩]
 rfl
theorem Tt{k:Int}(h:bk c k=none):lB M [ob L.h,.int k]=.exc ⟨"NoBeast",[]⟩:=by
 rw[aaA a few,if_neg (aby h)]
theorem Ep(k:Int):qY M [ob L.h,.int k]=match bk c k with
  |none=>.exc ⟨"NoBeast",[]⟩
  |some b=>if b.sd.al then .ok (ob (hk L k)) else .exc ⟨"Dead",[]⟩:=by
 obtain⟨n,hh⟩:=a.hh
 cases h:bk c k with
 |none=>
  have h1:=Tt a few h
  simp[qY,vP,hh,dI,fK,h1]
 |some b=>
  have h1:=Jz a few h
  obtain⟨_,_,_,_,n',hb⟩:=rE a h
  cases h2:b.sd.al <;> simp[qY,vP,hh,dI,fK,h1,hb,iB,h2]
theorem KN(k:Int):nZ M [ob L.h,.int k]=match bk c k with
  |none=>.exc ⟨"NoBeast",[]⟩
  |some b=>if b.sd.al then(if b.sd.due=none then .exc ⟨"Unmarked",[]⟩ else .ok (ob (hk L k))) else .exc ⟨"Dead",[]⟩:=by
 obtain⟨n,hh⟩:=a.hh
 have h0:=Ep a few k
 cases h:bk c k with
 |none=>
  rw[h]at h0
  simp[nZ,qT,hh,dI,bH,h0]
 |some b=>
  rw[h]at h0
  obtain⟨_,_,_,_,n',hb⟩:=rE a h
  cases h2:b.sd.al with
  |false=>
   simp[h2]at h0
   simp[nZ,qT,hh,dI,bH,h0,h2]
  |true=>
   simp[h2]at h0
   cases h3:b.sd.due <;> simp[nZ,qT,hh,dI,bH,h0,hb,iB,h2,h3,jy,gR]
def sO(k:Int)(b:cZ):Bool:=(b.mo==k)&&b.sd.due.isNone
theorem adR(k:Int):qW M [ob L.h,.int k]=match bk c k with
  |none=>.exc ⟨"NoBeast",[]⟩
  |some _=>.ok (.list (((bZ L c).filter fun x=>sO k x.2.2&&x.2.2.sd.al).map nb)):=by
 obtain⟨n,hh⟩:=a.hh
 have h1:=Bt a few
 have hl:((bZ L c).filter fun x=>x.2.2.sd.al).length<=50000:=as5 (asQ _ _) (by rw[a.len'];exact few)
 have key:=fU (tg:=bF [2,3]) (tt:=gG (aY (aA bR (bL "mother" (ao 3)) (ao 1))) (aY (tO false .none (bL "due" (ao 3))))) (te:=bh (ak (aq 2) (ak (aq 3) au))) (M:=M) (ρ:=[some (.dat (ob L.h)),some (.dat (.int k)),none,none]) nb (fun x=>sO k x.2.2) nb ((bZ L c).filter fun x=>x.2.2.sd.al) fun x hx=>⟨[some (.dat (ob L.h)),some (.dat (.int k)),some (.dat (.int ((x.1:Int)+1))),some (.dat (ob x.2.1))],by simp[nb],by
  obtain⟨n,hb⟩:=a.hb' (asY.mp hx).1
  by_cases h2:x.2.2.mo=k <;> cases h3:x.2.2.sd.due <;> simp[hb,iB,sO,h2,h3,jy,gR],fun _=>by simp[nb]⟩
 rw[atO]at key
 cases h:bk c k with
 |none=>
  have h2:=Tt a few h
  simp[qW,v8,hh,dI,fK,h2]
 |some b=>
  have h2:=Jz a few h
  simp[qW,v8,hh,dI,fK,dO,h1,h2,key,hl]
theorem K8(f:Fi)(hf:c.bs.length < 50000):∃M' h,qD M [ob L.h,f.dat]=.ok (.int (c.bs.length+1)) M'/\At M' { L with bs:=L.bs++[h] } { c with bs:=c.bs++[Fw f] }:=by
 obtain⟨n,hh⟩:=a.hh
 have hl:L.h < M.length:=(asv.mp hh).1
 have hi:=ah0 M f
 have hh2:(M++[iB (M.length+1) (Fw f),⟨"",[]⟩])[L.h]?=some (dI n L):=by rw[asK hl];exact hh
 have hs:∀i,((M++[iB (M.length+1) (Fw f),(⟨"",[]⟩:Inst)]).set L.h i)[L.h]?=some i:=fun i=>by rw[bG hh2,if_pos rfl]
 have hz:c.bs.length < 100000:=by omega
 refine⟨_,M.length,?_,a.aoK (M2:=M++[iB (M.length+1) (Fw f),⟨"",[]⟩]) (n:=M.length+1) (n2:=n) (as3 _) (fun k hk=>by rw[asK hk]) (by simp)⟩
 simp[qD,wC,hh,dI,hi,hh2,hs,hz,a.len]
end
theorem zq{M:Mo}{L:Lay}{c:aM}(a:At M L c){i h n:Nat}{b:cZ}{e:En}(h1:L.bs[i]?=some h)(h2:c.bs[i]?=some b):At (M.set h (iB n (lF b e))) L (dX c i e):=by
 have:=a.setB (n:=n) (b':=lF b e) h1
 have hm:c.bs.modify i (fun b=>lF b e)=c.bs.set i (lF b e):=by
  apply as4
  intro j
  rw[List.getElem?_modify,atv]
  by_cases hj:i=j
  ·subst hj
   have hl:=(asv.mp h2).1
   simp[hl,h2]
   have:=(asv.mp h2).2
   rw[this]
  ·simp[hj]
 unfold dX
 rw[hm]
 exact this
theorem tD(c:aM)(i j:Nat)(e:En):(dX c i e).bs[j]?=if i=j then(c.bs[j]?).map fun b=>lF b e else c.bs[j]?:=by
 unfold dX
 simp only[List.getElem?_modify]
 by_cases h:i=j <;> simp[h]
def vC(xs:List (Nat×Nat×cZ))(e:En)(c:aM):aM:=xs.foldl (fun c x=>dX c x.1 e) c
theorem Qc{tg:fV}{body:SF}(Q:Rf.Env->Prop)(P:Nat->aM->Prop)(e:En)(L:Lay)(T:Nat):∀(xs:List (Nat×Nat×cZ)) (M:Mo) (c:aM) (ρ:Rf.Env) (i:Nat),i+xs.length<=T->At M L c->P i c->Q ρ->
  (∀M c ρ x i,i < T->At M L c->P i c->Q ρ->x∈xs->∃ρ1 ρ2 M2,tg (nb x) ρ=some ρ1/\body M ρ1=.next ρ2 M2/\Q ρ2/\At M2 L (dX c x.1 e)/\P (i+1) (dX c x.1 e))->
  ∃ρ' M',eZ tg body (xs.map nb) M ρ=.next ρ' M'/\Q ρ'/\At M' L (vC xs e c)
 |[],M,c,ρ,i,_,a,p,q,_=>⟨ρ,M,rfl,q,a⟩
 |x::xs,M,c,ρ,i,hT,a,p,q,h=>by
  rw[asM]at hT
  obtain⟨ρ1,ρ2,M2,h1,h2,h3,h4,h5⟩:=h M c ρ x i (by omega) a p q asz
  obtain⟨ρ',M',g1,g2,g3⟩:=Qc Q P e L T xs M2 _ ρ2 (i+1) (by omega) h4 h5 h3 fun M c ρ y i hi a p q hy=>h M c ρ y i hi a p q (asy _ hy)
  exact⟨ρ',M',by rw[asx,gK h1 h2];exact g1,g2,g3⟩
structure Jp(n:Nat)(c:aM):Prop where
 ear:∀b∈c.bs,b.sd.ear.length=6
 en:∀b∈c.bs,b.en.length<=n
theorem alk(s:Sd)(e:En)(he:s.ear.length=6)(h2:match e with|.cut l=>l.length=6|.sold _ l=>l.length=6|_=>True):(go s e).ear.length=6:=by
 cases e <;> simp_all [go,yu]
theorem Ss(e:En):∀(xs:List (Nat×Nat×cZ)) (c:aM) (j:Nat),(xs.map (·.1)).Nodup->(vC xs e c).bs[j]?=if j∈xs.map (·.1) then(c.bs[j]?).map fun b=>lF b e else c.bs[j]?
 |[],c,j,_=>by simp[vC]
 |x::xs,c,j,nd=>by
  rw[asx,atu]at nd
  show(vC xs e (dX c x.1 e)).bs[j]?=_
  rw[Ss e xs _ j nd.2,tD]
  by_cases h1:x.1=j
  ·subst h1
   rw[if_neg nd.1,if_pos rfl,if_pos (by simp)]
  ·rw[if_neg h1]
   by_cases h2:j∈xs.map (·.1)
   ·rw[if_pos h2,if_pos (by rw[asx];exact asy _ h2)]
   ·rw[if_neg h2,if_neg (by
     rw[asx,asN]
     rintro(z|z)
     ·exact h1 z.symm
     ·exact h2 z)]
theorem Oz(e:En):∀(xs:List (Nat×Nat×cZ)) (c:aM),(vC xs e c)={ c with bs:=(vC xs e c).bs }
 |[],_=>rfl
 |x::xs,c=>by
  show vC xs e (dX c x.1 e)={ c with bs:=(vC xs e (dX c x.1 e)).bs }
  rw[Oz e xs]
  rfl
theorem ae1{L:Lay}{c:aM}(p:Nat×Nat×cZ->Bool):(((bZ L c).filter p).map (·.1)).Nodup:=by
 have h:((bZ L c).map (·.1)).Nodup:=by
  have e:(bZ L c).map (·.1)=List.range (L.bs.zip c.bs).length:=by
   unfold bZ
   apply as4
   intro i
   simp only[asI,atk]
   by_cases hi:i < (L.bs.zip c.bs).length
   ·rw[asw hi,List.getElem?_range hi]
    rfl
   ·rw[as7 (by omega:(L.bs.zip c.bs).length<=i),as7 (by rw[List.length_range];omega:(List.range (L.bs.zip c.bs).length).length<=i)]
    rfl
  rw[e]
  exact List.nodup_range
 exact h.sublist (List.Sublist.map _ List.filter_sublist)
def nH(p:cZ->Bool)(e:En)(c:aM):aM:={ c with bs:=c.bs.map fun b=>if p b then lF b e else b }
theorem WR{M:Mo}{L:Lay}{c:aM}(a:At M L c)(p:cZ->Bool)(e:En):vC ((bZ L c).filter fun x=>p x.2.2) e c=nH p e c:=by
 rw[Oz]
 unfold nH
 congr 1
 apply as4
 intro j
 rw[Ss _ _ _ _ (ae1 _),asI]
 by_cases hj:j < c.bs.length
 ·have hb:=asw hj
  rw[hb]
  have hl:j < L.bs.length:=by rw[a.len];exact hj
  have mem:(j,L.bs[j],c.bs[j])∈bZ L c:=by
   unfold bZ
   rw[List.mem_mapIdx]
   refine⟨j,by simp;omega,by simp⟩
  by_cases hp:p c.bs[j]=true
  ·have:j∈((bZ L c).filter fun x=>p x.2.2).map (·.1):=asJ.mpr ⟨_,asY.mpr ⟨mem,hp⟩,rfl⟩
   rw[if_pos this]
   simp[hp]
  ·have:j∉((bZ L c).filter fun x=>p x.2.2).map (·.1):=fun z=>by
    obtain⟨x,h1,h2⟩:=asJ.mp z
    obtain⟨h3,h4⟩:=asY.mp h1
    obtain⟨_,h5⟩:=Fb h3
    rw[h2,hb]at h5
    rw[←asW h5]at h4
    exact hp h4
   rw[if_neg this]
   simp[hp]
 ·rw[as7 (by omega:c.bs.length<=j)]
  simp
theorem Jp.step{n:Nat}{c:aM}(bi:Jp n c)(i:Nat)(e:En)(h2:match e with|.cut l=>l.length=6|.sold _ l=>l.length=6|_=>True):Jp (n+1) (dX c i e):=by
 have key:∀b∈(dX c i e).bs,b∈c.bs∨∃b0∈c.bs,b=lF b0 e:=fun b hb=>by
  obtain⟨j,hj⟩:=List.mem_iff_getElem?.mp hb
  rw[tD]at hj
  split at hj
  ·obtain⟨b0,h3,h4⟩:=atp.mp hj
   exact .inr ⟨b0,asC h3,h4.symm⟩
  ·exact .inl (asC hj)
 refine⟨fun b hb=>?_,fun b hb=>?_⟩
 ·rcases key b hb with h|⟨b0,h,rfl⟩
  ·exact bi.ear b h
  ·exact alk _ _ (bi.ear b0 h) h2
 ·rcases key b hb with h|⟨b0,h,rfl⟩
  ·have:=bi.en b h
   omega
  ·have:=bi.en b0 h
   simp[lF]
   omega
section
variable{M:Mo}{L:Lay}{c:aM}(a:At M L c)(few:c.bs.length<=1000){n:Nat}(bi:Jp n c)(hn:n<=40000)
include a few bi hn
theorem Gy(k:Int){b:cZ}(hk':bk c k=some b):∃M',oZ M [ob L.h,.int k]=.ok .none M'/\At M' L (nH (fun x=>sO k x&&x.sd.al) (.followed b.sd.o b.sd.g) c):=by
 obtain⟨m,hh⟩:=a.hh
 have few2:c.bs.length<=50000:=by omega
 have h1:=Jz a few2 hk'
 have h2:=adR a few2 k
 rw[hk']at h2
 obtain⟨k1,k2,k3,k4,k5⟩:=rE a hk'
 have hlen:((bZ L c).filter fun x=>sO k x.2.2&&x.2.2.sd.al).length<=1000:=as5 (asQ _ _) (by rw[a.len'];exact few)
 obtain⟨ρ',M',g1,g2,g3⟩:=Qc (tg:=bF [3,4]) (body:=qu) (fun ρ=>∃x y,ρ=[some (.dat (ob L.h)),some (.dat (.int k)),some (.dat (ob (hk L k))),x,y])
  (fun i c1=>(∃b1,c1.bs[(k - 1).toNat]?=some b1/\b1.sd.o=b.sd.o/\b1.sd.g=b.sd.g)/\Jp (n+i) c1/\c1.bs.length=c.bs.length) (.followed b.sd.o b.sd.g) L 1000 ((bZ L c).filter fun x=>sO k x.2.2&&x.2.2.sd.al) M c [some (.dat (ob L.h)),some (.dat (.int k)),some (.dat (ob (hk L k))),none,none] 0 (by omega) a ⟨⟨b,k4,rfl,rfl⟩,bi,rfl⟩ ⟨none,none,rfl⟩ (fun M1 c1 ρ x i hi a1 p1 q1 hx=>by
   obtain⟨⟨bm,m1,m2,m3⟩,bi1,l1⟩:=p1
   obtain⟨x0,y0,rfl⟩:=q1
   obtain⟨nm,hm⟩:=a1.hb _ _ _ k3 m1
   obtain⟨e1,e2⟩:=Fb (asY.mp hx).1
   have hl:x.1 < c1.bs.length:=by rw[l1];exact(asv.mp e2).1
   have e3:=asw hl
   obtain⟨nx,hx1⟩:=a1.hb _ _ _ e1 e3
   have mem:=atj hl
   have hb:=sW hx1 (.followed b.sd.o b.sd.g) (by rw[bi1.ear _ mem];decide) (by have:=bi1.en _ mem;omega)
   refine⟨[some (.dat (ob L.h)),some (.dat (.int k)),some (.dat (ob (hk L k))),some (.dat (.int ((x.1:Int)+1))),some (.dat (ob x.2.1))],[some (.dat (ob L.h)),some (.dat (.int k)),some (.dat (ob (hk L k))),some (.dat (.int ((x.1:Int)+1))),some (.dat (ob x.2.1))],_,by simp[nb],?_,⟨_,_,rfl⟩,zq (n:=nx) a1 e1 e3,?_,bi1.step _ _ trivial,by simp[dX,l1]⟩
   ·have hb:mU M1 [ob x.2.1,.tuple [.str "followed",.int b.sd.o,.int b.sd.g]]=_:=hb
    simp[qu,hx1,hm,bQ]
    simp[iB]at hb ⊢
    simp[m2,m3,hb,lF]
   ·rw[tD,m1]
    by_cases z:x.1=(k - 1).toNat
    ·exact⟨lF bm (.followed b.sd.o b.sd.g),by rw[if_pos z];rfl,rfl,rfl⟩
    ·exact⟨bm,by rw[if_neg z],m2,m3⟩)
 rw[WR a (fun x=>sO k x&&x.sd.al)]at g3
 refine⟨M',?_,g3⟩
 simp[oZ,sY,hh,dI,fK,zF,h1,h2,g1]
end
def pD(p:Int×Int):Dat:=.tuple [.int p.1,.int p.2]
theorem yP:∀(x y:List Int),wY (x.map PyData.int) (y.map PyData.int)=(x.zip y).map pD
 |[],_=>by simp[wY]
 |_::_,[]=>by simp[wY]
 |a::x,b::y=>by
  have:=yP x y
  unfold wY at this ⊢
  rw[asx,asx,List.zipWith_cons_cons,this,atz,asx]
  rfl
def vq(x y:List Int):Int:=(((x.zip y).filter fun p=>decide (p.1 < p.2)).map fun p=>p.2 - p.1).sum
def jm(x y:List Int):Int:=if vq y x > vq x y then vq y x else vq x y
def gA(x y:List Int):List Int:=(x.zip y).map fun p=>if p.2 > p.1 then p.2 else p.1
theorem aix(x y:List Int)(h:x.length<=1000):(x.zip y).length<=50000:=by
 rw[List.length_zip]
 omega
theorem Wc(l:List Int):Va (.list (l.map PyData.int))=.ok (.int l.sum):=by
 show(match intsOf (l.map PyData.int) with
  |some ns=>Out.ok (PyData.int ns.sum)
  |none=>.bad)=_
 rw[Cm]
theorem QL(M:Mo)(x y:List Int)(h:x.length<=1000):uK M [aJ x,aJ y]=.ok (.int (vq x y)):=by
 have key:=fU (tg:=bF [2,3]) (tt:=aY (aA ZC (ao 3) (ao 2))) (te:=aA iK (ao 3) (ao 2)) (M:=M) (ρ:=[some (.dat (aJ x)),some (.dat (aJ y)),none,none]) pD (fun p=>decide (p.1 < p.2)) (fun p=>.int (p.2 - p.1)) (x.zip y) fun p _=>⟨[some (.dat (aJ x)),some (.dat (aJ y)),some (.dat (.int p.1)),some (.dat (.int p.2))],by simp[pD],by simp,fun _=>by simp⟩
 have hz:=aix x y h
 have hs:=Wc (((x.zip y).filter fun p=>decide (p.1 < p.2)).map fun p=>p.2 - p.1)
 rw[as8]at hs
 have hz2:min x.length y.length<=50000:=by omega
 simp[uK,Vs,yP,key,hz2]
 simp[asU]at hs
 simp[hs,vq]
theorem agp(M:Mo)(x y:List Int)(h:x.length<=1000)(h2:y.length<=1000):Hw M [aJ x,aJ y]=.ok (.int (jm x y)):=by
 simp[Hw,Ul,QL M x y h,QL M y x h2,jm]
theorem acY(x y:List Int):jm x y=jm y x:=by
 unfold jm
 split <;> split <;> omega
theorem VH(M:Mo)(x y:List Int)(r:Int)(h:x.length<=1000)(h2:y.length<=1000):qU M [aJ x,aJ y,.int r]=.ok (.bool (decide (jm x y<=r))):=by
 simp[qU,Y0,agp M x y h h2]
theorem Iw(M:Mo)(x y:List Int)(h:x.length<=1000):pY M [aJ x,aJ y]=.ok (aJ (gA x y)):=by
 have key:=fj (tg:=bF [2,3]) (te:=aA oH (ao 2) (ao 3)) (M:=M) (ρ:=[some (.dat (aJ x)),some (.dat (aJ y)),none,none]) pD (fun p=>.int (if p.2 > p.1 then p.2 else p.1)) (x.zip y) fun p _=>⟨[some (.dat (aJ x)),some (.dat (aJ y)),some (.dat (.int p.1)),some (.dat (.int p.2))],by simp[pD],by simp⟩
 have hz2:min x.length y.length<=50000:=by omega
 simp[pY,Uv,yP,key,hz2,gA]
abbrev Rw:=Ear.Rw
theorem Mx:∀R:List Rw,Cq (R.map Ear.rD)=some R
 |[]=>rfl
 |r::R=>by
  rw[asx,Cq,Mx R]
  have:acW (Ear.rD r)=some r:=by
   unfold Ear.rD Ear.dT
   show(intsOf (r.2.map PyData.int)).map _=_
   rw[Cm]
   rfl
  rw[this]
  rfl
theorem Lg(M:Mo)(R:List Rw)(h:R.eraseDups.length<=76):qL M [.list (R.map Ear.rD)]=.ok (.list ((bM R).map Ear.rD)):=by
 have:Q8 (.list (R.map Ear.rD))=.ok (.list ((bM R).map Ear.rD)):=by
  show(match Cq (R.map Ear.rD) with
   |some R=>match decide (R.eraseDups.length<=76) with
    |true=>Out.ok (PyData.list ((bM R).map Ear.rD))
    |false=>.bad
   |none=>.bad)=_
  rw[Mx]
  show(match decide (R.eraseDups.length<=76) with
    |true=>Out.ok (PyData.list ((bM R).map Ear.rD))
    |false=>.bad)=_
  rw[decide_eq_true h]
 simp[qL,Qw,this]
theorem tM(R:List Rw):(bM R).length=R.eraseDups.length:=by
 unfold bM pA
 rw[List.length_mergeSort]
def qQ(o:Int)(e:List Int)(R:List Rw)(room:Int):List Rw:=(bM R).filter fun r=>!(r.1==o)&&decide (jm e r.2<=room)
def sS(R:List Rw):Prop:=∀r∈R,r.2.length=6
theorem acz(M:Mo)(o:Int)(e:List Int)(R:List Rw)(room:Int)(he:e.length=6)(hR:sS R)(h:R.eraseDups.length<=76):Ba M [.int o,aJ e,.list (R.map Ear.rD),.int room]=.ok (.list ((qQ o e R room).map Ear.rD)):=by
 have ht:=Lg M R h
 have hl:(bM R).length<=50000:=by rw[tM];omega
 have key:=fU (tg:=bF [4,5]) (tt:=gG (aY (aA tH (ao 4) (ao 0))) (iw (aR qU (ak (aq 1) (ak (aq 5) (ak (aq 3) au)))))) (te:=bh (ak (aq 4) (ak (aq 5) au))) (M:=M) (ρ:=[some (.dat (.int o)),some (.dat (aJ e)),some (.dat (.list (R.map Ear.rD))),some (.dat (.int room)),none,none]) Ear.rD (fun r=>!(r.1==o)&&decide (jm e r.2<=room)) Ear.rD (bM R) fun r hr=>⟨[some (.dat (.int o)),some (.dat (aJ e)),some (.dat (.list (R.map Ear.rD))),some (.dat (.int room)),some (.dat (.int r.1)),some (.dat (aJ r.2))],by simp[Ear.rD,Ear.dT],by
  have:=VH M e r.2 room (by omega) (by rw[hR r (jP.mp hr)];decide)
  by_cases hz:r.1=o <;> simp[this,hz],fun _=>by simp[Ear.rD,Ear.dT]⟩
 simp[Ba,Mu,ht,key,hl,qQ]
theorem OJ(M:Mo)(o:Int)(e:List Int)(R:List Rw)(room:Int)(he:e.length=6)(hR:sS R)(h:R.eraseDups.length<=76):oX M [.int o,aJ e,.list (R.map Ear.rD),.int room]=match qQ o e R room with
  |[]=>.ok .none
  |r::_=>.exc ⟨"Clash",[("ear",aJ (gA e r.2)),("others",Ear.rD r),("ones",Ear.rD (o,e))]⟩:=by
 have hb:=acz M o e R room he hR h
 cases hx:qQ o e R room with
 |nil=>
  rw[hx]at hb
  simp[oX,Ck,hb]
 |cons r rs=>
  rw[hx]at hb
  have hj:=Iw M e r.2 (by omega)
  simp[oX,Ck,hb]
  simp[Ear.rD,Ear.dT,hj]
theorem Jw{α β:Type}{tg tg1:fV}{tt tt1:QT}{it1:IF}{vs1:List Nat}{te:QF}{M:Mo}{ρ:Rf.Env}(ds:α->Dat)(ys:α->List β)(ds1:β->Dat)(p:α->β->Bool)(f:α->β->Dat):∀(xs:List α),(∀x∈xs,∃ρ1,tg (ds x) ρ=some ρ1/\tt M ρ1=.ok true/\zU ρ1=true/\it1 M ρ1=.ok ((ys x).map ds1)/\∀y∈ys x,∃ρ2,tg1 (ds1 y) (cC ρ1 vs1)=some ρ2/\tt1 M ρ2=.ok (p x y)/\(p x y=true->te M ρ2=.ok (f x y)))->
  ig tg tt it1 tg1 vs1 tt1 te M ρ (xs.map ds)=.ok (xs.flatMap fun x=>((ys x).filter (p x)).map (f x))
 |[],_=>rfl
 |x::xs,h=>by
  obtain⟨ρ1,h1,h2,h3,h4,h5⟩:=h x asz
  have ih:=Jw ds ys ds1 p f xs fun y hy=>h y (asy _ hy)
  have hc:=fU (tg:=tg1) (tt:=tt1) (te:=te) (M:=M) (ρ:=cC ρ1 vs1) ds1 (p x) (f x) (ys x) h5
  rw[asx,ig,h1]
  show((yF (tt M ρ1)).bind fun b=>if b=true then Out.when (zU ρ1) ((yF (it1 M ρ1)).bind fun es=>(dH tg1 tt1 te M (cC ρ1 vs1) es).bind fun r1=>(ig tg tt it1 tg1 vs1 tt1 te M ρ (xs.map ds)).bind fun r=>Out.ok (r1++r)) else ig tg tt it1 tg1 vs1 tt1 te M ρ (xs.map ds))=_
  rw[h2,Z7,Out.zj,if_pos rfl,h3,Out.Wv,h4,Z7,Out.zj,hc,Out.zj,ih,Out.zj,List.flatMap_cons]
def cX(x:List Int):Bool:=decide (x.length=6)&&x.all fun d=>decide (0<=d)&&decide (d<=9)
theorem Fp(l:List Bool):uQ (l.map PyData.bool)=some l:=by
 induction l with
 |nil=>rfl
 |cons b l ih=>rw[asx,uQ,ih];rfl
theorem Wh(M:Mo)(x:List Int)(h:x.length<=1000):tG M [aJ x]=.ok (.bool (cX x)):=by
 have key:=fj (tg:=aF 1) (te:=RP (jW pH pH (qC (.int 0)) (ao 1) (qC cU))) (M:=M) (ρ:=[some (.dat (aJ x)),none]) PyData.int (fun d=>.bool (decide (0<=d)&&decide (d<=9))) x fun d _=>⟨[some (.dat (aJ x)),some (.dat (.int d))],by simp,by
  by_cases h0:0<=d <;> simp[h0,cU]⟩
 have ha:O8 (.list (x.map fun d=>PyData.bool (decide (0<=d)&&decide (d<=9))))=.ok (.bool (x.all fun d=>decide (0<=d)&&decide (d<=9))):=by
  have e:(x.map fun d=>PyData.bool (decide (0<=d)&&decide (d<=9)))=(x.map fun d=>decide (0<=d)&&decide (d<=9)).map PyData.bool:=by rw[as8];rfl
  rw[e]
  show(match uQ _ with
   |some bs=>Out.ok (PyData.bool (bs.all id))
   |none=>.bad)=_
  rw[Fp]
  simp[List.all_map,asU]
 have hl:x.length<=50000:=by omega
 by_cases h6:x.length=6
 ·have h6':((x.length:Int)==6)=true:=by simp[h6]
  simp[tG,JH,iY,key,hl,ha,cX,h6]
 ·have h6':¬(x.length:Int)=6:=by omega
  simp[tG,JH,iY,cX,h6,h6']
theorem Ox(M:Mo)(x:List Int)(h:x.length<=1000):qw M [aJ x]=if cX x then .ok .none else .exc ⟨"BadEar",[]⟩:=by
 have:=Wh M x h
 cases hb:cX x <;> simp[qw,JG,this,hb]
def pairD(p:Rw×Rw):Dat:=.tuple [Ear.rD p.1,Ear.rD p.2]
def mW(T:List Rw)(room:Int):List (Rw×Rw):=(T.mapIdx fun i r=>(i,r)).flatMap fun x=>((T.drop (x.1+1)).filter fun s=>!(x.2.1==s.1)&&decide (jm x.2.2 s.2<=room)).map fun s=>(x.2,s)
theorem aaH(T:List Rw)(room:Int):(mW T room).length<=T.length * T.length:=by
 unfold mW
 rw[List.length_flatMap]
 have key:∀(l:List (Nat×Rw)),(l.map fun x=>(((T.drop (x.1+1)).filter fun s=>!(x.2.1==s.1)&&decide (jm x.2.2 s.2<=room)).map fun s=>(x.2,s)).length).sum<=l.length * T.length:=by
  intro l
  induction l with
  |nil=>simp
  |cons x l ih=>
   rw[asx,List.sum_cons,asM,Nat.add_mul,Nat.one_mul]
   have:(((T.drop (x.1+1)).filter fun s=>!(x.2.1==s.1)&&decide (jm x.2.2 s.2<=room)).map fun s=>(x.2,s)).length<=T.length:=by
    rw[asH]
    refine as5 (asQ _ _) ?_
    rw[atV]
    omega
   omega
 have:=key (T.mapIdx fun i r=>(i,r))
 rw[List.length_mapIdx]at this
 exact this
theorem aaQ(M:Mo)(R:List Rw)(room:Int)(hR:sS R)(h:R.eraseDups.length<=76):uU M [.list (R.map Ear.rD),.int room]=.ok (.list ((mW (bM R) room).map pairD)):=by
 have ht:=Lg M R h
 have hl:(bM R).length<=76:=by rw[tM];exact h
 have hE:∀r∈bM R,r.2.length=6:=fun r hr=>hR r (jP.mp hr)
 generalize bM R=T at ht hl hE
 have he:o9 0 (T.map Ear.rD)=(T.mapIdx fun i r=>(i,r)).map fun(x:Nat×Rw)=>PyData.tuple [.int x.1,Ear.rD x.2]:=by
  unfold o9
  apply as4
  intro i
  simp
  cases T[i]? <;> simp
 have key:=Jw (tg:=bF [3,4]) (tg1:=aF 5) (tt:=iy) (it1:=cV (Ka (ao 2) (oO (aA fu (ao 3) (qC (.int 1)))) vJ)) (vs1:=[5]) (tt1:=gG (aY (aA tH (aA aH (ao 4) (qC (.int 0))) (aA aH (ao 5) (qC (.int 0))))) (iw (aR qU (ak (aA aH (ao 4) (qC (.int 1))) (ak (aA aH (ao 5) (qC (.int 1))) (ak (aq 1) au)))))) (te:=bh (ak (aq 4) (ak (aq 5) au))) (M:=M) (ρ:=[some (.dat (.list (R.map Ear.rD))),some (.dat (.int room)),some (.dat (.list (T.map Ear.rD))),none,none,none])
  (fun(x:Nat×Rw)=>PyData.tuple [.int x.1,Ear.rD x.2]) (fun x=>T.drop (x.1+1)) Ear.rD (fun x s=>!(x.2.1==s.1)&&decide (jm x.2.2 s.2<=room)) (fun x s=>pairD (x.2,s)) (T.mapIdx fun i r=>(i,r)) fun x hx=>⟨[some (.dat (.list (R.map Ear.rD))),some (.dat (.int room)),some (.dat (.list (T.map Ear.rD))),some (.dat (.int x.1)),some (.dat (Ear.rD x.2)),none],by simp,rfl,rfl,by
   have:=PB (T.map Ear.rD) (x.1+1)
   simp at this ⊢
   rw[this],fun s hs=>⟨[some (.dat (.list (R.map Ear.rD))),some (.dat (.int room)),some (.dat (.list (T.map Ear.rD))),some (.dat (.int x.1)),some (.dat (Ear.rD x.2)),some (.dat (Ear.rD s))],by simp,by
   obtain⟨i,hi,rfl⟩:=List.mem_mapIdx.mp hx
   have h1:=hE _ (atj hi)
   have h2:=hE s (List.mem_of_mem_drop hs)
   have:=VH M (T[i]).2 s.2 room (by omega) (by omega)
   by_cases hz:(T[i]).1=s.1 <;> simp[Ear.rD,Ear.dT,this,hz],fun _=>by simp[pairD]⟩⟩
 have e2:((T.mapIdx fun i r=>(i,r)).flatMap fun x=>((T.drop (x.1+1)).filter fun s=>!(x.2.1==s.1)&&decide (jm x.2.2 s.2<=room)).map fun s=>pairD (x.2,s))=(mW T room).map pairD:=by
  unfold mW
  rw[List.map_flatMap]
  congr 1
  funext x
  rw[as8]
  rfl
 rw[e2]at key
 have hc:(mW T room).length<=50000:=by
  have:=aaH T room
  have:T.length * T.length<=76 * 76:=Nat.mul_le_mul hl hl
  omega
 simp[uU,Jh,ht]
 rw[he]
 simp[key,hc]
def hdD(x:List Int×Int):Dat:=.tuple [aJ x.1,.int x.2]
def LC(d l:Int):Int:=(if 9 < d+l then 9 else d+l)+1
def Cd(d l:Int):List Int:=(List.range (LC d l - d).toNat).map fun(i:Nat)=>d+(i:Int)
def stepT(d:Int)(H:List (List Int×Int)):List (List Int×Int):=H.flatMap fun x=>(Cd d x.2).map fun cut=>(x.1++[cut],x.2 - (cut - d))
structure Qe(k:Nat)(H:List (List Int×Int)):Prop where
 len:H.length<=4 ^ k
 left:∀x∈H,0<=x.2/\x.2<=3
 hd:∀x∈H,x.1.length=k/\∀y∈x.1,0<=y/\y<=9
theorem aeM{d l:Int}(hl:0<=l/\l<=3):(Cd d l).length<=4:=by
 unfold Cd LC
 simp
 split <;> omega
theorem Wf{d l y:Int}(h:y∈Cd d l):d<=y/\y<=d+l/\y<=9:=by
 unfold Cd LC at h
 obtain⟨i,hi,rfl⟩:=asJ.mp h
 rw[List.mem_range]at hi
 split at hi <;> omega
theorem Ww{k:Nat}{H:List (List Int×Int)}{d:Int}(i:Qe k H)(hd:0<=d/\d<=9):Qe (k+1) (stepT d H):=by
 refine⟨?_,fun x hx=>?_,fun x hx=>?_⟩
 ·have key:∀l:List (List Int×Int),(∀x∈l,0<=x.2/\x.2<=3)->(stepT d l).length<=l.length * 4:=by
   intro l
   induction l with
   |nil=>intro _;simp[stepT]
   |cons x l ih=>
    intro h
    have h1:=ih fun y hy=>h y (asy _ hy)
    have h2:=aeM (d:=d) (h x asz)
    unfold stepT at h1 ⊢
    rw[List.flatMap_cons,atb,asH,asM]
    omega
  have:=key H i.left
  have:=i.len
  rw[Nat.pow_succ]
  omega
 ·unfold stepT at hx
  obtain⟨y,hy,hx⟩:=List.mem_flatMap.mp hx
  obtain⟨c,hc,rfl⟩:=asJ.mp hx
  have:=Wf hc
  have:=i.left y hy
  show 0<=y.2 - (c - d)/\y.2 - (c - d)<=3
  omega
 ·unfold stepT at hx
  obtain⟨y,hy,hx⟩:=List.mem_flatMap.mp hx
  obtain⟨c,hc,rfl⟩:=asJ.mp hx
  have:=Wf hc
  obtain⟨h1,h2⟩:=i.hd y hy
  refine⟨by simp[h1],fun z hz=>?_⟩
  rcases asO.mp hz with hz|hz
  ·exact h2 z hz
  ·rw[asB.mp hz]
   omega
theorem aei(M:Mo)(e m:Option Cell)(he:zU [e,m]=true){k:Nat}{H:List (List Int×Int)}{d:Int}(i:Qe k H)(hk:k<=5)(hd:0<=d/\d<=9):Dc M [e,m,some (.dat (.list (H.map hdD))),some (.dat (.int d)),none,none,none]=.next [e,m,some (.dat (.list ((stepT d H).map hdD))),some (.dat (.int d)),none,none,none] M:=by
 have key:=Jw (tg:=bF [4,5]) (tg1:=aF 6) (tt:=iy) (it1:=Cv (ao 3) (aA fu (aA Ja (aA fu (ao 3) (ao 5)) (qC cU)) (qC (.int 1)))) (vs1:=[6]) (tt1:=iy) (te:=bh (ak (aA fu (ao 4) (bh (ak (aq 6) au))) (ak (aA iK (ao 5) (aA iK (ao 6) (ao 3))) au))) (M:=M) (ρ:=[e,m,some (.dat (.list (H.map hdD))),some (.dat (.int d)),none,none,none])
  hdD (fun x=>Cd d x.2) PyData.int (fun _ _=>true) (fun x c=>hdD (x.1++[c],x.2 - (c - d))) H fun x hx=>⟨[e,m,some (.dat (.list (H.map hdD))),some (.dat (.int d)),some (.dat (aJ x.1)),some (.dat (.int x.2)),none],by simp[hdD],rfl,by
   simp[zU]at he ⊢
   exact he,by
   have hl:=i.left x hx
   have hz:LC d x.2<=100000/\-100000<=LC d x.2/\d<=100000/\-100000<=d:=by unfold LC;split <;> omega
   have e1:jx d (LC d x.2 - d).toNat=(Cd d x.2).map PyData.int:=by
    unfold jx Cd
    rw[as8]
    rfl
   have e2:(if 9 < d+x.2 then(9:Int) else d+x.2)+1=LC d x.2:=rfl
   simp[cU,e2,e1,hz],fun c hc=>⟨[e,m,some (.dat (.list (H.map hdD))),some (.dat (.int d)),some (.dat (aJ x.1)),some (.dat (.int x.2)),some (.dat (.int c))],by simp,rfl,fun _=>by
   have h1:=(i.hd x hx).1
   have h2:x.1.length+1<=100000:=by omega
   simp[hdD,h2]⟩⟩
 have e2:(H.flatMap fun x=>((Cd d x.2).filter fun _=>true).map fun c=>hdD (x.1++[c],x.2 - (c - d)))=(stepT d H).map hdD:=by
  unfold stepT
  rw[List.map_flatMap]
  congr 1
  funext x
  rw[atM.mpr (fun _ _=>rfl),as8]
  rfl
 rw[e2]at key
 have hl:(stepT d H).length<=50000:=by
  have:=(Ww i hd).len
  have:4 ^ (k+1)<=4 ^ 6:=Nat.pow_le_pow_right (by decide) (by omega)
  omega
 simp[Dc,key,hl]
theorem Lq(M:Mo)(e m:Option Cell)(he:zU [e,m]=true):∀(ear:List Int) (k:Nat) (H:List (List Int×Int)) (o:Option Cell),Qe k H->k+ear.length<=6->(∀d∈ear,0<=d/\d<=9)->
  (∃o',eZ (aF 3) Dc (ear.map PyData.int) M [e,m,some (.dat (.list (H.map hdD))),o,none,none,none]=.next [e,m,some (.dat (.list ((ear.foldl (fun H d=>stepT d H) H).map hdD))),o',none,none,none] M)/\Qe (k+ear.length) (ear.foldl (fun H d=>stepT d H) H)
 |[],k,H,o,i,_,_=>⟨⟨o,rfl⟩,i⟩
 |d::ear,k,H,o,i,hk,hd=>by
  rw[asM]at hk
  have h1:=hd d asz
  obtain⟨⟨o',ih⟩,i2⟩:=Lq M e m he ear (k+1) (stepT d H) (some (.dat (.int d))) (Ww i h1) (by omega) fun y hy=>hd y (asy _ hy)
  refine⟨⟨o',?_⟩,?_⟩
  ·rw[asx,gK (ρ1:=[e,m,some (.dat (.list (H.map hdD))),some (.dat (.int d)),none,none,none]) (by simp) (aei M e m he i (by omega) h1),ih]
   rfl
  ·rw[asM,show k+(ear.length+1)=k+1+ear.length by omega]
   exact i2
def Ec(ear:List Int)(many:Int):List (List Int):=(ear.foldl (fun H d=>stepT d H) [([],many)]).map (·.1)
theorem ae4{many:Int}(hm:0<=many/\many<=3):Qe 0 [([],many)]:=⟨by simp,fun x hx=>by rw[asB.mp hx];exact hm,fun x hx=>by rw[asB.mp hx];simp⟩
theorem Qn{ear:List Int}{many:Int}(he:cX ear=true)(hm:0<=many/\many<=3):Qe 6 (ear.foldl (fun H d=>stepT d H) [([],many)]):=by
 unfold cX at he
 rw[asu,decide_eq_true_eq,asV]at he
 have:=(Lq [] none none rfl ear 0 [([],many)] none (ae4 hm) (by omega) fun d hd=>by simpa using he.2 d hd).2
 rw[he.1]at this
 exact this
theorem aiA(M:Mo)(ear:List Int)(many:Int)(he:cX ear=true)(hm:0<=many/\many<=3):Ln M [aJ ear,.int many]=.ok (.list ((Ec ear many).map aJ)):=by
 have he':=he
 unfold cX at he'
 rw[asu,decide_eq_true_eq,asV]at he'
 obtain⟨⟨o',h1⟩,_⟩:=Lq M (some (.dat (aJ ear))) (some (.dat (.int many))) rfl ear 0 [([],many)] none (ae4 hm) (by omega) fun d hd=>by simpa using he'.2 d hd
 have hi:=Qn he hm
 generalize hH:ear.foldl (fun H d=>stepT d H) [([],many)]=H at h1 hi
 have key:=fj (tg:=bF [4,5]) (te:=aq 4) (M:=M) (ρ:=[some (.dat (aJ ear)),some (.dat (.int many)),some (.dat (.list (H.map hdD))),o',none,none,none]) hdD (fun x=>aJ x.1) H fun x _=>⟨[some (.dat (aJ ear)),some (.dat (.int many)),some (.dat (.list (H.map hdD))),o',some (.dat (aJ x.1)),some (.dat (.int x.2)),none],by simp[hdD],by simp⟩
 have hl:H.length<=50000:=by
  have:=hi.len
  have:(4:Nat) ^ 6=4096:=by decide
  omega
 have h1':eZ (aF 3) Dc (ear.map PyData.int) M [some (.dat (aJ ear)),some (.dat (.int many)),some (.dat (.list [.tuple [.tuple [],.int many]])),none,none,none,none]=_:=h1
 have key2:∀o2:Option Cell,dH (bF [4,5]) iy (aq 4) M [some (.dat (aJ ear)),some (.dat (.int many)),some (.dat (.list (H.map hdD))),o2,none,none,none] (H.map hdD)=.ok (H.map fun x=>aJ x.1):=fun o2=>fj (tg:=bF [4,5]) (te:=aq 4) (M:=M) (ρ:=[some (.dat (aJ ear)),some (.dat (.int many)),some (.dat (.list (H.map hdD))),o2,none,none,none]) hdD (fun x=>aJ x.1) H fun x _=>⟨[some (.dat (aJ ear)),some (.dat (.int many)),some (.dat (.list (H.map hdD))),o2,some (.dat (aJ x.1)),some (.dat (.int x.2)),none],by simp[hdD],by simp⟩
 simp[Ln,YS,h1',key2,hl,Ec,hH]
def O5(mark:List Int)(extra:Int):List (List Int):=(Ec mark extra).filter fun e=>vq mark e==extra
theorem W8{ear:List Int}{many:Int}(he:cX ear=true)(hm:0<=many/\many<=3){x:List Int}(h:x∈Ec ear many):cX x=true:=by
 obtain⟨y,hy,rfl⟩:=asJ.mp h
 obtain⟨h1,h2⟩:=(Qn he hm).hd y hy
 unfold cX
 rw[asu,decide_eq_true_eq,asV]
 exact⟨h1,fun d hd=>by simpa using h2 d hd⟩
theorem ae3{ear:List Int}{many:Int}(he:cX ear=true)(hm:0<=many/\many<=3):(Ec ear many).length<=4096:=by
 unfold Ec
 rw[asH]
 exact(Qn he hm).len
theorem Zg(M:Mo)(mark:List Int)(extra:Int)(he:cX mark=true)(hm:0<=extra/\extra<=3):vN M [aJ mark,.int extra]=.ok (.list ((O5 mark extra).map aJ)):=by
 have h1:=aiA M mark extra he hm
 have hl:=ae3 he hm
 have h6:mark.length<=1000:=by
  unfold cX at he
  rw[asu,decide_eq_true_eq]at he
  omega
 have key:=fU (tg:=aF 2) (tt:=aY (aA bR (aR uK (ak (aq 0) (ak (aq 2) au))) (ao 1))) (te:=aq 2) (M:=M) (ρ:=[some (.dat (aJ mark)),some (.dat (.int extra)),none]) aJ (fun e=>vq mark e==extra) aJ (Ec mark extra) fun x _=>⟨[some (.dat (aJ mark)),some (.dat (.int extra)),some (.dat (aJ x))],by simp,by
  have:=QL M mark x h6
  simp[this],fun _=>by simp⟩
 have hl2:(Ec mark extra).length<=50000:=by omega
 simp[vN,FP,h1,key,hl2,O5]
def Cg(R:List Rw)(room:Int)(e:List Int):Bool:=!(R.any fun r=>decide (jm e r.2<=room))
theorem Yo(l:List Bool):O4 (.list (l.map PyData.bool))=.ok (.bool (l.any id)):=by
 show(match uQ (l.map PyData.bool) with
  |some bs=>Out.ok (PyData.bool (bs.any id))
  |none=>.bad)=_
 rw[Fp]
theorem acu(M:Mo)(R:List Rw)(room:Int)(hR:sS R)(hl:R.length<=50000)(mk:List Int)(x:Int)(e:List Int)(he:e.length=6) :
  jZ M [some (.dat (aJ mk)),some (.dat (.int x)),some (.dat (.list (R.map Ear.rD))),some (.dat (.int room)),some (.dat (aJ e)),none,none]=if Cg R room e then .ret (aJ e) M else .next [some (.dat (aJ mk)),some (.dat (.int x)),some (.dat (.list (R.map Ear.rD))),some (.dat (.int room)),some (.dat (aJ e)),none,none] M:=by
 have key:=fj (tg:=bF [5,6]) (te:=aR qU (ak (aq 4) (ak (aq 6) (ak (aq 3) au)))) (M:=M) (ρ:=[some (.dat (aJ mk)),some (.dat (.int x)),some (.dat (.list (R.map Ear.rD))),some (.dat (.int room)),some (.dat (aJ e)),none,none]) Ear.rD (fun r=>.bool (decide (jm e r.2<=room))) R fun r hr=>⟨[some (.dat (aJ mk)),some (.dat (.int x)),some (.dat (.list (R.map Ear.rD))),some (.dat (.int room)),some (.dat (aJ e)),some (.dat (.int r.1)),some (.dat (aJ r.2))],by simp[Ear.rD,Ear.dT],by
  have:=VH M e r.2 room (by omega) (by rw[hR r hr];decide)
  simp[this]⟩
 have ha:=Yo (R.map fun r=>decide (jm e r.2<=room))
 rw[as8]at ha
 simp only[asU,atU]at ha
 cases hf:Cg R room e <;> simp[jZ,key,hl,ha] <;> simp[Cg]at hf <;> simpa using hf
theorem Tw(M:Mo)(R:List Rw)(room:Int)(hR:sS R)(hl:R.length<=50000)(mk:List Int)(x:Int):∀(es:List (List Int)) (o:Option Cell),(∀e∈es,e.length=6)->
  match es.find? (Cg R room) with
   |some e=>eZ (aF 4) jZ (es.map aJ) M [some (.dat (aJ mk)),some (.dat (.int x)),some (.dat (.list (R.map Ear.rD))),some (.dat (.int room)),o,none,none]=.ret (aJ e) M
   |none=>∃ρ',eZ (aF 4) jZ (es.map aJ) M [some (.dat (aJ mk)),some (.dat (.int x)),some (.dat (.list (R.map Ear.rD))),some (.dat (.int room)),o,none,none]=.next ρ' M
 |[],o,_=>⟨_,rfl⟩
 |e::es,o,he=>by
  have h1:=acu M R room hR hl mk x e (he e asz)
  have ih:=Tw M R room hR hl mk x es (some (.dat (aJ e))) fun y hy=>he y (asy _ hy)
  rw[List.find?_cons]
  cases hf:Cg R room e with
  |true=>
   rw[hf,if_pos rfl]at h1
   show eZ _ _ _ _ _=_
   rw[asx,eZ]
   simp[h1]
  |false=>
   rw[hf,if_neg (by decide)]at h1
   have e1:eZ (aF 4) jZ ((e::es).map aJ) M [some (.dat (aJ mk)),some (.dat (.int x)),some (.dat (.list (R.map Ear.rD))),some (.dat (.int room)),o,none,none]=eZ (aF 4) jZ (es.map aJ) M [some (.dat (aJ mk)),some (.dat (.int x)),some (.dat (.list (R.map Ear.rD))),some (.dat (.int room)),some (.dat (aJ e)),none,none]:=by
    rw[asx,gK (by simp) h1]
   rw[e1]
   exact ih
theorem XC(M:Mo)(mark:List Int)(extra:Int)(R:List Rw)(room:Int)(he:cX mark=true)(hm:0<=extra/\extra<=3)(hR:sS R)(hl:R.length<=50000):pO M [aJ mark,.int extra,.list (R.map Ear.rD),.int room]=match (O5 mark extra).find? (Cg R room) with
  |some e=>.ok (aJ e)
  |none=>.exc ⟨"NoneFree",[]⟩:=by
 have h1:=Zg M mark extra he hm
 have h2:=Tw M R room hR hl mark extra (O5 mark extra) none fun e h=>by
  have:=W8 he hm (asY.mp h).1
  unfold cX at this
  rw[asu,decide_eq_true_eq]at this
  exact this.1
 cases hf:(O5 mark extra).find? (Cg R room) with
 |some e=>
  rw[hf]at h2
  simp[pO,xU,h1,h2]
 |none=>
  rw[hf]at h2
  obtain⟨ρ',h2⟩:=h2
  simp[pO,xU,h1,h2]
@[simp]theorem aoB (L:Lay) (c:aM):(aQ L c).cls="Commons":=rfl
theorem any_keys(y:Int)(l:List Int):((l.map fun o=>(PyData.int o,PyData.bool true)).any fun p=>PyData.eqv p.1 (.int y))=decide (y∈l):=by
 have:=any_ints y l
 rw[atU]at this ⊢
 exact this
section
variable{M:Mo}{L:Lay}{c:aM}(a:At M L c)
include a
theorem lM(o:Int):jB M [ob L.c,.int o]=if o∈c.own then .ok .none else .exc ⟨"NoOwner",[]⟩:=by
 have hc:=a.hc
 have hk:=any_keys o c.own
 simp only[atU,asU]at hk
 by_cases h:o∈c.own
 ·rw[decide_eq_true h]at hk
  rw[if_pos h]
  simp[jB,lY,hc,aQ,asU,hk]
  rw[if_neg (fun z=>z o h rfl)]
 ·rw[decide_eq_false h]at hk
  rw[if_neg h]
  simp[jB,lY,hc,aQ,asU,hk]
  have hz:∀x:Int,x∈c.own->¬x=o:=fun x hx e=>h (e ▸ hx)
  rw[if_pos hz]
theorem Aq(i:dh c)(x:Int):pQ M [ob L.c,.int x]=if Vg c x then .ok (.int (roomOf c x)) else .exc ⟨"NoGround",[]⟩:=by
 have hc:=a.hc
 obtain⟨n,m,hg⟩:=a.hg
 have h1:=aja a i x
 by_cases h:Vg c x
 ·rw[if_pos h]at h1 ⊢
  simp[pQ,uN,hc,aQ,hg,dw,sE,h1]
 ·rw[if_neg h]at h1 ⊢
  simp[pQ,uN,hc,aQ,hg,dw,sE,h1]
theorem Bv(i:dh c)(x:Int):kZ M [ob L.c,.int x]=if Vg c x then .ok (lI (bA c x)) else .exc ⟨"NoGround",[]⟩:=by
 have hc:=a.hc
 obtain⟨n,m,hg⟩:=a.hg
 have h1:=vK a i x
 by_cases h:Vg c x
 ·rw[if_pos h]at h1 ⊢
  simp[kZ,oN,hc,aQ,hg,dw,bD,h1]
 ·rw[if_neg h]at h1 ⊢
  simp[kZ,oN,hc,aQ,hg,dw,bD,h1]
theorem afv:qH M [ob L.c]=.ok (lI c.own):=by
 have hc:=a.hc
 simp[qH,wF,hc,aQ,asU]
theorem rA(few:c.held.length<=50000)(o g:Int):lW M [ob L.c,.int o,.int g]=if bK c o g=[] then .exc ⟨"NoRight",[]⟩ else .ok .none:=by
 have hc:=a.hc
 have hr:=a.hr
 have h1:=aaB a few o g
 by_cases h:bK c o g=[] <;> simp[lW,qR,hc,aQ,hr,nQ,rW,h1,h]
theorem Bs(few:c.held.length<=50000)(o g:Int){mk:List Int}{r:List (List Int)}(h:bK c o g=mk::r):lX M [ob L.c,.int o,.int g]=.ok (aJ mk):=by
 have hc:=a.hc
 have hr:=a.hr
 have h1:=Jr a few o g
 rw[h]at h1
 simp[lX,qK,hc,aQ,hr,nQ,cM,h1]
end
def inR(c:aM)(near:List Int):List Rw:=(c.held.filter fun r=>decide (r.2.1∈near)).map fun r=>(r.1,r.2.2)
def aau(lo:Int)(x:Nat×Nat×cZ):Bool:=x.2.2.sd.due.isSome&&!(((x.1:Int)+1)==lo)
def PN(L:Lay)(c:aM)(lo:Int)(near:List Int):List Rw:=(((bZ L c).filter fun x=>decide (x.2.2.sd.g∈near)&&x.2.2.sd.al).filter (aau lo)).map fun x=>(x.2.2.sd.o,x.2.2.sd.due.getD [])
def fH(L:Lay)(c:aM)(lo x:Int):List Rw:=inR c (bA c x)++PN L c lo (bA c x)
section
variable{M:Mo}{L:Lay}{c:aM}(a:At M L c)
include a
theorem Eh(i:dh c)(few:c.held.length<=20000)(fewb:c.bs.length<=20000)(lo x:Int)(h76:(fH L c lo x).eraseDups.length<=76):iQ M [ob L.c,.int lo,.int x]=if Vg c x then .ok (.list ((bM (fH L c lo x)).map Ear.rD)) else .exc ⟨"NoGround",[]⟩:=by
 have hc:=a.hc
 have hr:=a.hr
 obtain⟨n,hh⟩:=a.hh
 have h1:=Bv a i x
 by_cases h:Vg c x
 ·rw[if_pos h]at h1 ⊢
  have h2:=SQ a (by omega:c.bs.length<=50000) (bA c x)
  have h3:=Xj a (by omega:c.held.length<=50000) (bA c x)
  have h4:=Lg M (fH L c lo x) h76
  have hl:((bZ L c).filter fun y=>decide (y.2.2.sd.g∈bA c x)&&y.2.2.sd.al).length<=20000:=as5 (asQ _ _) (by rw[a.len'];exact fewb)
  have hl2:((bZ L c).filter fun y=>decide (y.2.2.sd.g∈bA c x)&&y.2.2.sd.al).length<=50000:=by omega
  have key:=fU (tg:=bF [5,6]) (tt:=gG (aY (tO true .none (bL "due" (ao 6)))) (aY (aA tH (ao 5) (ao 1)))) (te:=bh (ak (gQ "owner" (ao 6)) (ak (gQ "due" (ao 6)) au))) (M:=M) (ρ:=[some (.dat (ob L.c)),some (.dat (.int lo)),some (.dat (.int x)),some (.dat (lI (bA c x))),none,none,none]) nb (aau lo) (fun y=>Ear.rD (y.2.2.sd.o,y.2.2.sd.due.getD [])) ((bZ L c).filter fun y=>decide (y.2.2.sd.g∈bA c x)&&y.2.2.sd.al) fun y hy=>⟨[some (.dat (ob L.c)),some (.dat (.int lo)),some (.dat (.int x)),some (.dat (lI (bA c x))),none,some (.dat (.int ((y.1:Int)+1))),some (.dat (ob y.2.1))],by simp[nb],by
   obtain⟨n',hb⟩:=a.hb' (asY.mp hy).1
   cases hd:y.2.2.sd.due <;> simp[hb,iB,hd,jy,aau,gR],fun hp=>by
   obtain⟨n',hb⟩:=a.hb' (asY.mp hy).1
   cases hd:y.2.2.sd.due with
   |none=>simp[aau,hd]at hp
   |some e=>simp[hb,iB,hd,jy,Ear.rD,Ear.dT]⟩
  have e1:(c.held.filter fun r=>decide (r.2.1∈bA c x)).map (fun r=>Ear.rD (r.1,r.2.2))=(inR c (bA c x)).map Ear.rD:=by
   unfold inR
   rw[as8]
   rfl
  have e2:(((bZ L c).filter fun y=>decide (y.2.2.sd.g∈bA c x)&&y.2.2.sd.al).filter (aau lo)).map (fun y=>Ear.rD (y.2.2.sd.o,y.2.2.sd.due.getD []))=(PN L c lo (bA c x)).map Ear.rD:=by
   unfold PN
   rw[as8]
   rfl
  rw[e1]at h3
  rw[e2]at key
  have z1:(inR c (bA c x)).length<=20000:=by
   unfold inR
   rw[asH]
   exact as5 (asQ _ _) few
  have z2:(PN L c lo (bA c x)).length<=20000:=by
   unfold PN
   rw[asH]
   exact as5 (asQ _ _) hl
  have z3:(inR c (bA c x)).length+(PN L c lo (bA c x)).length<=100000:=by omega
  unfold fH at h4 ⊢
  rw[List.map_append]at h4
  simp[iQ,j9,hc,aQ,bT,h1,hh,dI,jE,h2,hr,nQ,qG,h3]
  simp[key,hl2,z3,h4,hc,aQ,hr,nQ,h3]
 ·rw[if_neg h]at h1 ⊢
  simp[iQ,j9,hc,aQ,bT,h1]
end
def bU(b:cZ):Dat:=.tuple [.int b.sd.o,.int b.sd.g,jy b.sd.due,aJ b.sd.ear,.bool b.sd.al,.int b.mo,.tuple (b.fi.dat::b.en.map En.dat)]
theorem ahI{M:Mo}{h n:Nat}{b:cZ}(hb:M[h]?=some (iB n b)):xP M [ob h]=.ok (bU b):=by
 have h1:=YT hb
 simp[xP,CZ,hb,mV,h1]
 simp[iB,Sd.dat,bU]
def Ru(c:aM)(k:Nat):Dat:=.tuple [.int (Jx c ((k:Int)+1)),aJ (bA c ((k:Int)+1))]
def eG(c:aM):Dat:=.tuple [lI c.own,.list ((List.range c.al.length).map (Ru c)),.list (c.held.map fJ),.list (c.bs.map bU)]
section
variable{M:Mo}{L:Lay}{c:aM}(a:At M L c)
include a
theorem abR(i:dh c)(few:c.held.length<=20000)(fewb:c.bs.length<=20000):mO M [ob L.c]=.ok (eG c):=by
 have hc:=a.hc
 have hr:=a.hr
 obtain⟨n,m,hg⟩:=a.hg
 obtain⟨n1,hh⟩:=a.hh
 have h1:=abY a
 have h2:=afv a
 have h3:=aa5 a (by omega:c.held.length<=50000)
 have hf:=i.few
 have k1:=fj (tg:=aF 3) (te:=bh (ak (aW dR (bL "grounds" (ao 0)) (ak (aq 3) au)) (ak (dZ lQ (aW bT (ao 0) (ak (aq 3) au))) au))) (M:=M) (ρ:=[some (.dat (ob L.c)),none,none,none,none]) (fun(k:Nat)=>PyData.int (1+(k:Int))) (Ru c) (List.range c.al.length) fun k hk=>⟨[some (.dat (ob L.c)),none,none,some (.dat (.int ((k:Int)+1))),none],by simp[Int.add_comm],by
  rw[List.mem_range]at hk
  have hv:Vg c ((k:Int)+1):=by constructor <;> omega
  have g1:=Mz a ((k:Int)+1)
  have g2:=Bv a i ((k:Int)+1)
  rw[if_pos hv]at g1 g2
  simp[hc,aQ,hg,dw,dR,bT,g1,g2,Ru]⟩
 have hl:=a.len'
 have k2:=fun(o1:Option Cell)=>fj (tg:=aF 4) (te:=aW vW (ao 4) au) (M:=M) (ρ:=[some (.dat (ob L.c)),o1,none,none,none]) (fun(x:Nat×Nat×cZ)=>ob x.2.1) (fun x=>bU x.2.2) (bZ L c) fun x hx=>⟨[some (.dat (ob L.c)),o1,none,none,some (.dat (ob x.2.1))],by simp,by
  obtain⟨n',hb⟩:=a.hb' hx
  have:=ahI hb
  simp[hb,vW,this]⟩
 have e1:(bZ L c).map (fun x=>ob x.2.1)=L.bs.map ob:=by
  unfold bZ
  apply as4
  intro j
  simp only[asI,atk]
  by_cases hj:j < L.bs.length
  ·have hz:(L.bs.zip c.bs)[j]?=some (L.bs[j],c.bs[j]'(by rw[←a.len];exact hj)):=by
    rw[atr]
    exact⟨asw hj,asw _⟩
   rw[hz,asw hj]
   rfl
  ·rw[as7 (by omega:L.bs.length<=j),as7 (by rw[List.length_zip];omega)]
   rfl
 have e2:(bZ L c).map (fun x=>bU x.2.2)=c.bs.map bU:=by
  unfold bZ
  apply as4
  intro j
  simp only[asI,atk]
  by_cases hj:j < c.bs.length
  ·have hz:(L.bs.zip c.bs)[j]?=some (L.bs[j]'(by rw[a.len];exact hj),c.bs[j]):=by
    rw[atr]
    exact⟨asw _,asw hj⟩
   rw[hz,asw hj]
   rfl
  ·rw[as7 (by omega:c.bs.length<=j),as7 (by rw[List.length_zip];omega)]
   rfl
 simp only[e1,e2]at k2
 have r1:jx 1 c.al.length=(List.range c.al.length).map fun(k:Nat)=>PyData.int (1+(k:Int)):=rfl
 have z1:(c.al.length:Int)+1<=100000:=by omega
 have z2 : -100000<=(c.al.length:Int)+1:=by omega
 have z3:c.al.length<=50000:=by omega
 have z4:L.bs.length<=50000:=by rw[a.len];omega
 simp[mO,yZ,hc,aQ,hg,dw,eY,h1,z1,z2,r1,k1,z3]
 simp[hc,aQ,hh,dI,hr,nQ,k2,z4,uZ,uh,h2,h3,eG]
end
section
variable{M:Mo}{L:Lay}{c:aM}(a:At M L c)
include a
theorem zK(i:dh c)(few:c.held.length<=20000)(fewb:c.bs.length<=20000)(x:Int)(h76:(fH L c 0 x).eraseDups.length<=76):lg M [ob L.c,.int x]=if Vg c x then .ok (.list ((bM (fH L c 0 x)).map Ear.rD)) else .exc ⟨"NoGround",[]⟩:=by
 have hc:=a.hc
 have h1:=Eh a i few fewb 0 x h76
 by_cases h:Vg c x
 ·rw[if_pos h]at h1 ⊢
  simp[lg,oU,hc,cY,h1]
 ·rw[if_neg h]at h1 ⊢
  simp[lg,oU,hc,cY,h1]
def alm(o:Int)(e:List Int)(R:List Rw)(room:Int):Out Dat:=match qQ o e R room with
 |[]=>.ok .none
 |r::_=>.exc ⟨"Clash",[("ear",aJ (gA e r.2)),("others",Ear.rD r),("ones",Ear.rD (o,e))]⟩
omit a in
theorem af4{T:List Rw}(h:Ear.Di T):T.Nodup:=by
 unfold Ear.Di at h
 unfold List.Nodup
 exact h.imp fun {x y} z e=>by
  subst e
  exact List.lt_irrefl _ z
theorem LR(ho:∀o∈c.own,o<=c.count)(few:c.own.length<=20000):∃M',iI M [ob L.c]=.ok (.int (c.count+1)) M'/\At M' L { c with count:=c.count+1,own:=c.own++[c.count+1] }:=by
 have hc:=a.hc
 have hl:∀i,(M.set L.c i)[L.c]?=some i:=fun i=>by rw[bG hc,if_pos rfl]
 have hk:=any_keys (c.count+1) c.own
 have hn:¬(c.count+1)∈c.own:=fun z=>by have:=ho _ z;omega
 rw[decide_eq_false hn]at hk
 have hz:∀x∈c.own,¬x=c.count+1:=fun x hx e=>hn (e ▸ hx)
 have f2:c.own.length < 100000:=by omega
 refine⟨_,?_,a.setC⟩
 simp only[atU,asU]at hk
 have hd:(c.own.any fun x=>x==c.count+1)=false:=by
  rw[List.any_eq_false]
  intro x hx
  simpa using hz x hx
 simp[iI,rH,hc,aQ,hl,j8,f2,asU,hd]
end
theorem aaz{α:Type}[BEq α][LawfulBEq α](l:List α):l.eraseDups.length<=l.length:=by
 induction hn:l.length using Nat.strongRecOn generalizing l with
 |_ n ih=>
  cases l with
  |nil=>simp
  |cons a r=>
   rw[atJ]
   simp only[asM]at hn ⊢
   have hl:(r.filter fun b=>!b==a).length<=r.length:=asQ _ _
   have:=ih _ (by omega) (r.filter fun b=>!b==a) rfl
   omega
theorem Y8{S:List Rw}(h:S.eraseDups.length<=76):(bM S).eraseDups.length<=76:=as5 (aaz _) (by rw[tM];exact h)
theorem wM{S:List Rw}(h:sS S):sS (bM S):=fun r hr=>h r (jP.mp hr)
section
variable{M:Mo}{L:Lay}{c:aM}(a:At M L c)
include a
theorem Xg(i:dh c)(few:c.held.length<=20000)(fewb:c.bs.length<=20000)(o x:Int)(e:List Int)(he:e.length=6)(hv:Vg c x)(h76:(fH L c 0 x).eraseDups.length<=76)(hE:sS (fH L c 0 x)):gY M [ob L.c,.int o,aJ e,.int x]=alm o e (bM (fH L c 0 x)) (roomOf c x):=by
 have hc:=a.hc
 have h1:=zK a i few fewb x h76
 have h2:=Aq a i x
 rw[if_pos hv]at h1 h2
 have h3:=OJ M o e (bM (fH L c 0 x)) (roomOf c x) he (wM hE) (Y8 h76)
 unfold alm
 cases hb:qQ o e (bM (fH L c 0 x)) (roomOf c x) with
 |nil=>
  rw[hb]at h3
  simp[gY,lZ,hc,cH,cA,h1,h2,h3]
 |cons r rs=>
  rw[hb]at h3
  simp[gY,lZ,hc,cH,cA,h1,h2,h3]
end
section
variable{M:Mo}{L:Lay}{c:aM}(a:At M L c)
include a
def IV(L:Lay)(c:aM)(x y:Int):List Rw:=bM (fH L c 0 x)++bM (fH L c 0 y)
def wg(c:aM)(x y:Int):Int:=if roomOf c y > roomOf c x then roomOf c y else roomOf c x
theorem aa9(i:dh c)(few:c.held.length<=20000)(fewb:c.bs.length<=20000)(x y:Int)(hx:Vg c x)(hy:Vg c y)(h1:(fH L c 0 x).eraseDups.length<=76)(h2:(fH L c 0 y).eraseDups.length<=76)(h3:(IV L c x y).eraseDups.length<=76)(e1:sS (fH L c 0 x))(e2:sS (fH L c 0 y)):kY M [ob L.c,.int x,.int y]=.ok (.list ((mW (bM (IV L c x y)) (wg c x y)).map pairD)):=by
 have hc:=a.hc
 have s1:=zK a i few fewb x h1
 have s2:=zK a i few fewb y h2
 have r1:=Aq a i x
 have r2:=Aq a i y
 rw[if_pos hx]at s1 r1
 rw[if_pos hy]at s2 r2
 have hE:sS (IV L c x y):=fun r hr=>by
  rcases asO.mp hr with hr|hr
  ·exact wM e1 r hr
  ·exact wM e2 r hr
 have k:=aaQ M (IV L c x y) (wg c x y) hE h3
 have l1:(bM (fH L c 0 x)).length<=76:=by rw[tM];exact h1
 have l2:(bM (fH L c 0 y)).length<=76:=by rw[tM];exact h2
 have l3:(bM (fH L c 0 x)).length+(bM (fH L c 0 y)).length<=100000:=by omega
 have k':uU M [.list ((bM (fH L c 0 x)).map Ear.rD++(bM (fH L c 0 y)).map Ear.rD),.int (if roomOf c y > roomOf c x then roomOf c y else roomOf c x)]=.ok (.list ((mW (bM (IV L c x y)) (wg c x y)).map pairD)):=by
  rw[←List.map_append]
  exact k
 simp[kY,tK,hc,cH,cA,s1,s2,r1,r2,l3]
 simp at k'
 exact k' ▸ (by simp[k'])
end
def Dj(c:aM)(lo:Int)(near:List Int):List Rw:=((c.bs.mapIdx fun i b=>(i,b)).filter fun x=>(x.2.sd.due.isSome&&!(((x.1:Int)+1)==lo))&&(decide (x.2.sd.g∈near)&&x.2.sd.al)).map fun x=>(x.2.sd.o,x.2.sd.due.getD [])
def eV(c:aM)(lo x:Int):List Rw:=inR c (bA c x)++Dj c lo (bA c x)
theorem MJ{M:Mo}{L:Lay}{c:aM}(a:At M L c):(bZ L c).map (fun x=>(x.1,x.2.2))=c.bs.mapIdx fun i b=>(i,b):=by
 unfold bZ
 apply as4
 intro j
 simp only[asI,atk]
 by_cases hj:j < c.bs.length
 ·have hz:(L.bs.zip c.bs)[j]?=some (L.bs[j]'(by rw[a.len];exact hj),c.bs[j]):=by
   rw[atr]
   exact⟨asw _,asw hj⟩
  rw[hz,asw hj]
  rfl
 ·rw[as7 (by omega:c.bs.length<=j),as7 (by rw[List.length_zip];omega)]
  rfl
theorem j7{M:Mo}{L:Lay}{c:aM}(a:At M L c)(lo x:Int):fH L c lo x=eV c lo x:=by
 unfold fH eV PN Dj
 rw[←MJ a,List.filter_map,as8,atO]
 rfl
inductive bJ where
 |owner|ground (x:Int)|enrol (o g:Int) (m:List Int)|leave (o g:Int)|bring (o g:Int) (e:List Int)|bear (k:Int)|cut (k:Int)|tear (k p:Int)|sell (k o:Int)|move (k g:Int)|die (k:Int)|zW (x y:Int)|part (x:Int)|pass (e h:Int)|heir (e g x:Int)
def bJ.dat:bJ->Dat
 |.owner=>.tuple [.str "owner"]
 |.ground x=>.tuple [.str "ground",.int x]
 |.enrol o g m=>.tuple [.str "enrol",.int o,.int g,aJ m]
 |.leave o g=>.tuple [.str "leave",.int o,.int g]
 |.bring o g m=>.tuple [.str "bring",.int o,.int g,aJ m]
 |.bear k=>.tuple [.str "bear",.int k]
 |.cut k=>.tuple [.str "cut",.int k]
 |.tear k p=>.tuple [.str "tear",.int k,.int p]
 |.sell k o=>.tuple [.str "sell",.int k,.int o]
 |.move k g=>.tuple [.str "move",.int k,.int g]
 |.die k=>.tuple [.str "die",.int k]
 |.zW x y=>.tuple [.str "unite",.int x,.int y]
 |.part x=>.tuple [.str "part",.int x]
 |.pass e h=>.tuple [.str "pass",.int e,.int h]
 |.heir e g x=>.tuple [.str "heir",.int e,.int g,.int x]
inductive Res where
 |ok (d:Dat) (c:aM)|no (x:dD)
def pW(o:Int)(e:List Int)(r:Rw):dD:=⟨"Clash",[("ear",aJ (gA e r.2)),("others",Ear.rD r),("ones",Ear.rD (o,e))]⟩
def firstM(c:aM)(o g:Int):List Int:=(bK c o g).headD []
def rO(o:Int)(e:List Int)(R:List Rw)(room:Int)(r:Res):Res:=match qQ o e (bM R) room with
 |[]=>r
 |x::_=>.no (pW o e x)
def Ip(c:aM)(x y:Int):List Rw:=bM (eV c 0 x)++bM (eV c 0 y)
def sH(c:aM)(x:Int):List Int:=(bA c x).filter fun y=>!(y==x)
def Q9(c:aM)(e:Int):List Int:=((c.bs.mapIdx fun i b=>(i,b)).filter fun x=>(x.2.sd.o==e)&&x.2.sd.al).map fun x=>(x.1:Int)+1
def X6(o g:Int)(b:cZ):Bool:=(decide (b.sd.g∈[g])&&b.sd.al)&&(b.sd.o==o)
def uo(c:aM)(k:Int)(f:cZ->Res):Res:=match bk c k with
 |none=>.no ⟨"NoBeast",[]⟩
 |some b=>if b.sd.al=true then f b else .no ⟨"Dead",[]⟩
def markB(c:aM)(k:Int)(f:cZ->List Int->Res):Res:=uo c k fun b=>match b.sd.due with
 |none=>.no ⟨"Unmarked",[]⟩
 |some e=>f b e
def j6(c:aM)(k o g:Int):aM:=nH (fun x=>sO k x&&x.sd.al) (.followed o g) c
def tZ(c:aM)(o:Int)(r:Res):Res:=if o∈c.own then r else .no ⟨"NoOwner",[]⟩
def uX(c:aM)(g:Int)(r:Res):Res:=if Vg c g then r else .no ⟨"NoGround",[]⟩
def Ks(e:List Int)(r:Res):Res:=if cX e=true then r else .no ⟨"BadEar",[]⟩
def lu(c:aM)(o g:Int)(r:Res):Res:=if bK c o g=[] then .no ⟨"NoRight",[]⟩ else r
def cG(c:aM):bJ->Res
 |.owner=>.ok (.int (c.count+1)) { c with count:=c.count+1,own:=c.own++[c.count+1] }
 |.ground x=>if 0<=x/\x<=9 then .ok (.int (c.al.length+1)) { c with al:=c.al++[x],ci:=c.ci++[[(c.al.length:Int)+1]] } else .no ⟨"BadAllowance",[]⟩
 |.enrol o g m=>tZ c o <|uX c g <|Ks m <|if m=[0,0,0,0,0,0] then .no ⟨"Bare",[]⟩ else if m∈bK c o g then .no ⟨"HasRight",[]⟩ else rO o m (eV c 0 g) (roomOf c g) (.ok .none { c with held:=c.held++[(o,g,m)] })
 |.leave o g=>tZ c o <|uX c g <|lu c o g <|if c.bs.any (X6 o g)=true then .no ⟨"StillThere",[]⟩ else .ok (.list ((bK c o g).map aJ)) { c with held:=dropped c o g }
 |.bring o g e=>tZ c o <|uX c g <|Ks e <|lu c o g <|.ok (.int (c.bs.length+1)) { c with bs:=c.bs++[Fw (.brought o g e)] }
 |.bear k=>markB c k fun b _=>.ok (.int (c.bs.length+1)) { c with bs:=c.bs++[Fw (.born k b.sd.o b.sd.g)] }
 | .cut k=>uo c k fun b=>rO b.sd.o (gA b.sd.ear (firstM c b.sd.o b.sd.g)) (eV c 0 b.sd.g) (roomOf c b.sd.g) (.ok (aJ (gA b.sd.ear (firstM c b.sd.o b.sd.g))) (dX c (k - 1).toNat (.cut (gA b.sd.ear (firstM c b.sd.o b.sd.g)))))
 |.tear k p=>uo c k fun b=>if 0<=p/\p < 6 then(if 9<=b.sd.ear.getD p.toNat 0 then .no ⟨"Deepest",[]⟩ else .ok (aJ (yu b.sd.ear p.toNat)) (dX c (k - 1).toNat (.torn p.toNat))) else .no ⟨"NoPlace",[]⟩
 |.sell k o=>markB c k fun b _=>tZ c o <|if b.sd.o=o then .no ⟨"SameOwner",[]⟩ else lu c o b.sd.g <| rO o (gA b.sd.ear (firstM c o b.sd.g)) (eV c k b.sd.g) (roomOf c b.sd.g) (.ok (aJ (gA b.sd.ear (firstM c o b.sd.g))) (j6 (dX c (k - 1).toNat (.sold o (gA b.sd.ear (firstM c o b.sd.g)))) k o b.sd.g))
 |.move k g=>markB c k fun b e=>uX c g <|if b.sd.g=g then .no ⟨"SameGround",[]⟩ else lu c b.sd.o g <|rO b.sd.o e (eV c 0 g) (roomOf c g) (.ok (.int b.sd.g) (j6 (dX c (k - 1).toNat (.moved g)) k b.sd.o g))
 |.die k=>uo c k fun _=>.ok .none (dX c (k - 1).toNat .died)
 |.zW x y=>uX c y <|uX c x <|if y∈bA c x then .no ⟨"Together",[]⟩ else match mW (bM (Ip c x y)) (wg c x y) with
  |p::_=>.no (pW p.1.1 p.1.2 p.2)
  |[]=>.ok (lI (sortI (bA c x++bA c y))) { c with ci:=encl c.ci (sortI (bA c x++bA c y)) }
 |.part x=>uX c x <|if sH c x=[] then .no ⟨"Alone",[]⟩ else .ok (lI (sH c x)) { c with ci:=encl (encl c.ci [x]) (sH c x) }
 |.pass e h=>tZ c e <|tZ c h <|if e=h then .no ⟨"SameOwner",[]⟩ else .ok (lI (Q9 c e)) { nH (fun b=>(b.sd.o==e)&&b.sd.al) (.passed h) c with own:=c.own.filter (fun o=>!(o==e)),held:=handed c e h }
 | .heir e g x=>tZ c e <| uX c g <| if 1<=x/\x<=3 then lu c e g (match (O5 (firstM c e g) x).find? (Cg (bM (eV c 0 g)) (roomOf c g)) with
  |some mk=>.ok (.tuple [.int (c.count+1),aJ mk]) { c with count:=c.count+1,own:=c.own++[c.count+1],held:=c.held++[(c.count+1,g,mk)] }
  |none=>.no ⟨"NoneFree",[]⟩) else .no ⟨"BadExtra",[]⟩
structure Inv(n s:Nat)(c:aM):Prop where
 gr:dh c
 al:c.al.length<=n
 cnt:0<=c.count/\c.count<=n
 own:∀o∈c.own,1<=o/\o<=c.count
 Pk:c.own.Nodup
 ownL:c.own.length<=n
 held:c.held.Nodup
 hL:c.held.length+c.bs.length<=s
 hE:∀r∈c.held,r.1∈c.own/\Vg c r.2.1/\cX r.2.2=true
 ear:∀b∈c.bs,cX b.sd.ear=true
 due:∀b∈c.bs,∀e,b.sd.due=some e->cX e=true
 en:∀b∈c.bs,b.en.length<=2 * n
 rt:∀b∈c.bs,b.sd.al=true->∃m,(b.sd.o,b.sd.g,m)∈c.held
theorem gJ{x:List Int}(h:cX x=true):x.length=6:=by
 unfold cX at h
 simp at h
 exact h.1
theorem Dh{α:Type}[BEq α][LawfulBEq α]:∀{l S:List α},l.Nodup->(∀x∈l,x∈S)->l.length<=S.length
 |[],_,_,_=>by simp
 |x::l,S,nd,h=>by
  rw[atu]at nd
  have hx:=h x asz
  have:=Dh (l:=l) (S:=S.erase x) nd.2 fun y hy=>by
   have:y≠x:=fun z=>nd.1 (z ▸ hy)
   exact(List.mem_erase_of_ne this).mpr (h y (asy _ hy))
  rw[List.length_erase_of_mem hx]at this
  have:=List.length_pos_of_mem hx
  rw[asM]
  omega
def N7(c:aM):List Rw:=c.held.map (fun r=>(r.1,r.2.2))++c.bs.map fun b=>(b.sd.o,b.sd.due.getD [])
theorem abx{c:aM}{near:List Int}{r:Rw}(h:r∈inR c near):∃g,(r.1,g,r.2)∈c.held/\g∈near:=by
 unfold inR at h
 obtain⟨x,h1,rfl⟩:=asJ.mp h
 obtain⟨h2,h3⟩:=asY.mp h1
 exact⟨x.2.1,h2,by simpa using h3⟩
theorem aae{c:aM}{lo:Int}{near:List Int}{r:Rw}(h:r∈Dj c lo near):∃(i:Nat) (b:cZ),c.bs[i]?=some b/\b.sd.o=r.1/\b.sd.due=some r.2/\b.sd.al=true/\b.sd.g∈near/\(i:Int)+1≠lo:=by
 unfold Dj at h
 obtain⟨x,h1,rfl⟩:=asJ.mp h
 obtain⟨h2,h3⟩:=asY.mp h1
 obtain⟨i,hi,rfl⟩:=List.mem_mapIdx.mp h2
 simp only[asu,decide_eq_true_eq,asT,beq_eq_false_iff_ne]at h3
 obtain⟨⟨h4,h5⟩,h6,h7⟩:=h3
 refine⟨i,c.bs[i],asw hi,rfl,?_,h7,h6,h5⟩
 cases hd:c.bs[i].sd.due with
 |none=>simp[hd]at h4
 |some e=>rfl
theorem qM{c:aM}{lo x:Int}{r:Rw}(h:r∈eV c lo x):r∈N7 c:=by
 unfold N7
 rcases asO.mp h with h|h
 ·obtain⟨g,h1,_⟩:=abx h
  exact atf _ (asJ.mpr ⟨_,h1,rfl⟩)
 ·obtain⟨i,b,h1,h2,h3,_⟩:=aae h
  refine atD _ (asJ.mpr ⟨b,asC h1,?_⟩)
  rw[h2,h3]
  rfl
section
variable{n s:Nat}{c:aM}(I:Inv n s c)
include I
theorem Inv.few{R:List Rw}(h:∀r∈R,r∈N7 c):R.eraseDups.length<=s:=by
 have h1:=Dh (l:=bM R) (S:=N7 c) (af4 (zA R)) fun r hr=>h r (jP.mp hr)
 rw[tM]at h1
 have:(N7 c).length=c.held.length+c.bs.length:=by simp[N7]
 have:=I.hL
 omega
theorem Inv.Mh{lo x:Int}:sS (eV c lo x):=fun r hr=>by
 rcases asO.mp hr with h|h
 ·obtain⟨g,h1,_⟩:=abx h
  exact gJ (I.hE _ h1).2.2
 ·obtain⟨i,b,h1,h2,h3,_⟩:=aae h
  exact gJ (I.due b (asC h1) _ h3)
theorem Inv.bi:Jp (2 * n) c:=⟨fun b hb=>gJ (I.ear b hb),I.en⟩
theorem Inv.mk1{o g:Int}(h:bK c o g≠[]):∃r,bK c o g=firstM c o g::r/\cX (firstM c o g)=true:=by
 cases hm:bK c o g with
 |nil=>exact absurd hm h
 |cons m r=>
  refine⟨r,by simp[firstM,hm],?_⟩
  have:m∈bK c o g:=by rw[hm];exact asz
  unfold bK at this
  obtain⟨x,h1,rfl⟩:=asJ.mp this
  have e:firstM c o g=x.2.2:=by simp[firstM,hm]
  rw[e]
  exact(I.hE x (asY.mp h1).1).2.2
end
theorem Fo{c:aM}{o g:Int}{m:List Int}:m∈bK c o g↔(o,g,m)∈c.held:=by
 unfold bK
 rw[asJ]
 constructor
 ·rintro⟨⟨x,y,z⟩,h,rfl⟩
  obtain⟨h1,h2⟩:=asY.mp h
  simp at h2
  obtain⟨rfl,rfl⟩:=h2
  exact h1
 ·intro h
  exact⟨_,asY.mpr ⟨h,by simp⟩,rfl⟩
theorem yO{c:aM}{o g:Int}:bK c o g≠[]↔∃m,(o,g,m)∈c.held:=by
 constructor
 ·intro h
  obtain⟨m,hm⟩:=List.exists_mem_of_ne_nil _ h
  exact⟨m,Fo.mp hm⟩
 ·rintro⟨m,hm⟩ z
  have:=Fo.mpr hm
  rw[z]at this
  cases this
theorem Fl{x y:List Int}(hx:cX x=true)(hy:cX y=true):cX (gA x y)=true:=by
 have lx:=gJ hx
 have ly:=gJ hy
 unfold cX at *
 simp only[asu,decide_eq_true_eq,asV]at *
 refine⟨by simp[gA];omega,fun d hd=>?_⟩
 unfold gA at hd
 obtain⟨p,hp,rfl⟩:=asJ.mp hd
 have h1:=hx.2 p.1 (List.of_mem_zip hp).1
 have h2:=hy.2 p.2 (List.of_mem_zip hp).2
 split <;> omega
theorem CP(n:Nat)(x:List Int):okd (n+1) (aJ x)=true:=by
 show okd (n+1) (.tuple (x.map PyData.int))=true
 rw[okd]
 exact V6 n x
theorem aiu(x y:List Int):bR (aJ x) (aJ y)=.ok (.bool (decide (x=y))):=by
 show(Out.when (okd 12 (aJ x)&&okd 12 (aJ y)) (.ok (PyData.eqv (aJ x) (aJ y)))).bind _=_
 rw[CP 11,CP 11,aaF,zP]
 rfl
theorem aiI(neg:Bool)(m:List Int)(ms:List (List Int)):inD neg (aJ m) (.list (ms.map aJ))=.ok (.bool (neg ^^ decide (m∈ms))):=by
 have h1:mY 12 (ms.map aJ)=true:=DW.mpr fun d hd=>by
  obtain⟨x,_,rfl⟩:=asJ.mp hd
  exact CP 11 x
 have h2:((ms.map aJ).any fun z=>PyData.eqv z (aJ m))=decide (m∈ms):=by
  induction ms with
  |nil=>simp
  |cons x ms ih=>
   have h1':mY 12 (ms.map aJ)=true:=DW.mpr fun d hd=>by
    obtain⟨x,_,rfl⟩:=asJ.mp hd
    exact CP 11 x
   rw[asx,atw,ih h1',aaF,zP]
   by_cases h:x=m
   ·simp[h]
   ·have:¬m=x:=fun z=>h z.symm
    simp[h,this]
 show(Out.when (okd 12 (aJ m)&&mY 12 (ms.map aJ)) (.ok ((ms.map aJ).any fun z=>PyData.eqv z (aJ m)))).bind _=_
 rw[h1,h2,CP 11]
 rfl
def Sp(M:Mo)(L:Lay)(o:bx Dat):Res->Prop
 |.ok d c'=>∃M' bs,o=.ok d M'/\At M' { L with bs:=bs } c'
 |.no x=>o=.exc x M
section
variable{M:Mo}{L:Lay}{c:aM}(a:At M L c){n s:Nat}(I:Inv n s c)(hs:s<=76)(hn:n<=199)
include a I hn
theorem aia:Sp M L (iI M [ob L.c]) (cG c .owner):=by
 obtain⟨M',h1,h2⟩:=LR a (fun o ho=>(I.own o ho).2) (by have:=I.ownL;omega)
 exact⟨M',L.bs,h1,h2⟩
theorem afI(x:Int):Sp M L (gM M [ob L.c,.int x]) (cG c (.ground x)):=by
 have hc:=a.hc
 obtain⟨n,m,hg⟩:=a.hg
 have hl:=I.al
 have h1:=XQ a I.gr (by omega) x
 simp only[cG]
 by_cases h:0<=x/\x<=9
 ·rw[if_pos h]at h1 ⊢
  obtain⟨M',h1,h2⟩:=h1
  exact⟨M',L.bs,by simp[gM,mD,hc,aQ,hg,dw,lH,h1],h2⟩
 ·rw[if_neg h]at h1 ⊢
  show _=_
  simp[gM,mD,hc,aQ,hg,dw,lH,h1]
include hs
omit hn
theorem YQ(o x:Int)(e:List Int)(he:e.length=6)(hv:Vg c x):gY M [ob L.c,.int o,aJ e,.int x]=match qQ o e (bM (eV c 0 x)) (roomOf c x) with
  |[]=>.ok .none
  |r::_=>.exc (pW o e r):=by
 have h1:=I.hL
 have h76:=I.few (R:=eV c 0 x) fun r hr=>qM hr
 have:=Xg a I.gr (by omega) (by omega) o x e he hv (by rw[j7 a];omega) (by rw[j7 a];exact I.Mh)
 rw[j7 a]at this
 exact this
theorem ai9(o g:Int)(m:List Int)(hm:m.length<=1000):Sp M L (dY M [ob L.c,.int o,.int g,aJ m]) (cG c (.enrol o g m)):=by
 have hc:=a.hc
 have hr:=a.hr
 obtain⟨n1,m1,hg⟩:=a.hg
 have hL:=I.hL
 have h1:=lM a o
 have h2:=wN a g
 have h3:=Ox M m hm
 have h4:=Jr a (by omega) o g
 simp only[cG,tZ,uX,Ks,rO]
 by_cases e1:o∈c.own
 rotate_left
 ·rw[if_neg e1]at h1 ⊢
  show _=_
  simp[dY,fX,hc,aQ,aD,h1]
 rw[if_pos e1]at h1 ⊢
 by_cases e2:Vg c g
 rotate_left
 ·rw[if_neg e2]at h2 ⊢
  show _=_
  simp[dY,fX,hc,aQ,aD,h1,hg,dw,aG,h2]
 rw[if_pos e2]at h2 ⊢
 by_cases e3:cX m=true
 rotate_left
 ·rw[if_neg e3]at h3 ⊢
  show _=_
  simp[dY,fX,hc,aQ,aD,h1,hg,dw,aG,h2,h3]
 rw[if_pos e3]at h3 ⊢
 have h5:bR (.tuple (m.map PyData.int)) (.tuple [.int 0,.int 0,.int 0,.int 0,.int 0,.int 0])=_:=aiu m [0,0,0,0,0,0]
 by_cases e4:m=[0,0,0,0,0,0]
 ·rw[if_pos e4]
  rw[decide_eq_true e4]at h5
  show _=_
  simp[dY,fX,hc,aQ,aD,h1,hg,dw,aG,h2,h3,jw]
  simp[h5]
 rw[if_neg e4]
 rw[decide_eq_false e4]at h5
 have h6:=aiI false m (bK c o g)
 by_cases e5:m∈bK c o g
 ·rw[if_pos e5]
  rw[decide_eq_true e5]at h6
  simp at h6
  show _=_
  simp[dY,fX,hc,aQ,aD,h1,hg,dw,aG,h2,h3,jw,h5,hr,nQ,cM,h4,h6]
 rw[if_neg e5]
 rw[decide_eq_false e5]at h6
 simp at h6
 have h7:=YQ a I hs o g m (gJ e3) e2
 cases e6:qQ o m (bM (eV c 0 g)) (roomOf c g) with
 |cons r rs=>
  rw[e6]at h7
  show _=_
  simp[dY,fX,hc,aQ,aD,h1,hg,dw,aG,h2,h3,jw,h5,hr,nQ,cM,h4,h6,bV,h7]
 |nil=>
  rw[e6]at h7
  have h8:=KC a (by omega) o g m
  rw[if_neg fun z=>e5 (Fo.mpr z)]at h8
  obtain⟨M',h8,h9⟩:=h8
  refine⟨M',L.bs,?_,h9⟩
  simp[dY,fX,hc,aQ,aD,h1,hg,dw,aG,h2,h3,jw,h5,hr,nQ,cM,h4,h6,bV,h7,iJ,h8]
end
@[simp]theorem aso (n:Nat) (b:cZ):List.lookup ("owner" : Str) (iB n b).fs=some (.dat (.int b.sd.o)):=by simp[iB]
@[simp]theorem asl (n:Nat) (b:cZ):List.lookup ("ground" : Str) (iB n b).fs=some (.dat (.int b.sd.g)):=by simp[iB]
@[simp]theorem asp (n:Nat) (b:cZ):List.lookup ("due" : Str) (iB n b).fs=some (.dat (jy b.sd.due)):=by simp[iB]
@[simp]theorem asn (n:Nat) (b:cZ):List.lookup ("ear" : Str) (iB n b).fs=some (.dat (aJ b.sd.ear)):=by simp[iB]
@[simp]theorem ar6 (n:Nat) (b:cZ):List.lookup ("alive" : Str) (iB n b).fs=some (.dat (.bool b.sd.al)):=by simp[iB]
section
variable{M:Mo}{L:Lay}{c:aM}(a:At M L c){n s:Nat}(I:Inv n s c)(hs:s<=76)
include a I hs
theorem ahY(o g:Int):Sp M L (gj M [ob L.c,.int o,.int g]) (cG c (.leave o g)):=by
 have hc:=a.hc
 have hr:=a.hr
 obtain⟨n1,m1,hg⟩:=a.hg
 obtain⟨n2,hh⟩:=a.hh
 have hL:=I.hL
 have h1:=lM a o
 have h2:=wN a g
 have h3:=rA a (by omega) o g
 simp only[cG,tZ,uX,lu]
 by_cases e1:o∈c.own
 rotate_left
 ·rw[if_neg e1]at h1 ⊢
  show _=_
  simp[gj,jD,hc,aQ,aD,h1]
 rw[if_pos e1]at h1 ⊢
 by_cases e2:Vg c g
 rotate_left
 ·rw[if_neg e2]at h2 ⊢
  show _=_
  simp[gj,jD,hc,aQ,aD,h1,hg,dw,aG,h2]
 rw[if_pos e2]at h2 ⊢
 by_cases e3:bK c o g=[]
 ·rw[if_pos e3]at h3 ⊢
  show _=_
  simp[gj,jD,hc,aQ,aD,h1,hg,dw,aG,h2,aN,h3]
 rw[if_neg e3]at h3 ⊢
 have h4:pP M [ob L.h,.list [.int g]]=_:=SQ a (by omega) [g]
 have key:=fj (tg:=bF [3,4]) (te:=aA bR (bL "owner" (ao 4)) (ao 1)) (M:=M) (ρ:=[some (.dat (ob L.c)),some (.dat (.int o)),some (.dat (.int g)),none,none]) nb (fun x=>.bool (x.2.2.sd.o==o)) ((bZ L c).filter fun x=>decide (x.2.2.sd.g∈[g])&&x.2.2.sd.al) fun x hx=>⟨[some (.dat (ob L.c)),some (.dat (.int o)),some (.dat (.int g)),some (.dat (.int ((x.1:Int)+1))),some (.dat (ob x.2.1))],by simp[nb],by
  obtain⟨n,hb⟩:=a.hb' (asY.mp hx).1
  simp[hb,iB]⟩
 have hl:((bZ L c).filter fun x=>decide (x.2.2.sd.g∈[g])&&x.2.2.sd.al).length<=50000:=as5 (asQ _ _) (by rw[a.len'];omega)
 have h5:O4 (.list (((bZ L c).filter fun x=>decide (x.2.2.sd.g∈[g])&&x.2.2.sd.al).map fun x=>PyData.bool (x.2.2.sd.o==o)))=.ok (.bool (c.bs.any (X6 o g))):=by
  have e:(((bZ L c).filter fun x=>decide (x.2.2.sd.g∈[g])&&x.2.2.sd.al).map fun x=>PyData.bool (x.2.2.sd.o==o))=(((bZ L c).filter fun x=>decide (x.2.2.sd.g∈[g])&&x.2.2.sd.al).map fun x=>(x.2.2.sd.o==o)).map PyData.bool:=by rw[as8];rfl
  rw[e,Yo,atU,List.any_filter]
  have e2:=MJ a
  have e3:(bZ L c).map (fun x=>x.2.2)=c.bs:=by
   have:(bZ L c).map (fun x=>x.2.2)=((bZ L c).map (fun x=>(x.1,x.2.2))).map (·.2):=by rw[as8];rfl
   rw[this,e2]
   apply as4
   intro i
   simp
   cases c.bs[i]? <;> rfl
  conv=>rhs;rw[←e3]
  rw[atU]
  rfl
 cases e4:c.bs.any (X6 o g) with
 |true=>
  rw[e4]at h5
  show _=_
  simp[gj,jD,hc,aQ,aD,h1,hg,dw,aG,h2,aN,h3,hh,dI,jE]
  simp at h4 key h5 hl
  simp[h4,key,hl,h5]
 |false=>
  rw[e4]at h5
  have h6:=ai4 a (by omega) I.held o g
  rw[if_neg e3]at h6
  obtain⟨M',h6,h7⟩:=h6
  refine⟨M',L.bs,?_,h7⟩
  simp[gj,jD,hc,aQ,aD,h1,hg,dw,aG,h2,aN,h3,hh,dI,jE]
  simp at h4 key h5 hl
  simp[h4,key,hl,h5,hc,aQ,hr,nQ,yL,h6]
theorem aif(o g:Int)(m:List Int)(hm:m.length<=1000):Sp M L (fY M [ob L.c,.int o,.int g,aJ m]) (cG c (.bring o g m)):=by
 have hc:=a.hc
 have hr:=a.hr
 obtain⟨n1,m1,hg⟩:=a.hg
 obtain⟨n2,hh⟩:=a.hh
 have hL:=I.hL
 have h1:=lM a o
 have h2:=wN a g
 have h3:=Ox M m hm
 have h4:=rA a (by omega) o g
 simp only[cG,tZ,uX,Ks,lu]
 by_cases e1:o∈c.own
 rotate_left
 ·rw[if_neg e1]at h1 ⊢
  show _=_
  simp[fY,jG,hc,aQ,aD,h1]
 rw[if_pos e1]at h1 ⊢
 by_cases e2:Vg c g
 rotate_left
 ·rw[if_neg e2]at h2 ⊢
  show _=_
  simp[fY,jG,hc,aQ,aD,h1,hg,dw,aG,h2]
 rw[if_pos e2]at h2 ⊢
 by_cases e3:cX m=true
 rotate_left
 ·rw[if_neg e3]at h3 ⊢
  show _=_
  simp[fY,jG,hc,aQ,aD,h1,hg,dw,aG,h2,h3]
 rw[if_pos e3]at h3 ⊢
 by_cases e4:bK c o g=[]
 ·rw[if_pos e4]at h4 ⊢
  show _=_
  simp[fY,jG,hc,aQ,aD,h1,hg,dw,aG,h2,h3,aN,h4]
 rw[if_neg e4]at h4 ⊢
 obtain⟨M',h,h5,h6⟩:=K8 a (by omega) (.brought o g m) (by omega)
 refine⟨M',L.bs++[h],?_,h6⟩
 simp[Fi.dat]at h5
 simp[fY,jG,hc,aQ,aD,h1,hg,dw,aG,h2,h3,aN,h4,hh,dI,jK,h5]
theorem alV(k:Int):Sp M L (jh M [ob L.c,.int k]) (cG c (.bear k)):=by
 have hc:=a.hc
 obtain⟨n2,hh⟩:=a.hh
 have hL:=I.hL
 have h1:=KN a (by omega) k
 simp only[cG,markB,uo]
 cases hk:bk c k with
 |none=>
  rw[hk]at h1
  show _=_
  simp[jh,mJ,hc,aQ,hh,dI,bB,h1]
 |some b=>
  rw[hk]at h1
  obtain⟨_,_,_,_,n3,hb⟩:=rE a hk
  show Sp M L _ (if b.sd.al=true then _ else _)
  cases e1:b.sd.al with
  |false=>
   simp[e1]at h1
   show _=_
   simp[jh,mJ,hc,aQ,hh,dI,bB,h1]
  |true=>
   simp[e1]at h1
   cases e2:b.sd.due with
   |none=>
    simp[e2]at h1
    show _=_
    simp[jh,mJ,hc,aQ,hh,dI,bB,h1]
   |some e=>
    simp[e2]at h1
    simp only[if_true]
    obtain⟨M',h,h5,h6⟩:=K8 a (by omega) (.born k b.sd.o b.sd.g) (by omega)
    refine⟨M',L.bs++[h],?_,h6⟩
    simp[Fi.dat]at h5
    simp[jh,mJ,hc,aQ,hh,dI,bB,h1,hb,iB,jK,h5]
theorem amn(k:Int)(hn:n<=1000):Sp M L (lJ M [ob L.c,.int k]) (cG c (.die k)):=by
 have hc:=a.hc
 obtain⟨n2,hh⟩:=a.hh
 have hL:=I.hL
 have h1:=Ep a (by omega) k
 simp only[cG,uo]
 cases hk:bk c k with
 |none=>
  rw[hk]at h1
  show _=_
  simp[lJ,qZ,hc,aQ,hh,dI,bH,h1]
 |some b=>
  rw[hk]at h1
  obtain⟨_,_,h3,h4,n3,hb⟩:=rE a hk
  show Sp M L _ (if b.sd.al=true then _ else _)
  cases e1:b.sd.al with
  |false=>
   simp[e1]at h1
   show _=_
   simp[lJ,qZ,hc,aQ,hh,dI,bH,h1]
  |true=>
   simp[e1]at h1
   have mem:=asC h4
   simp only[if_true]
   have h5:=sW hb .died (by rw[gJ (I.ear b mem)];decide) (by have:=I.en b mem;omega)
   refine⟨_,L.bs,?_,zq (n:=n3) (e:=.died) a h3 h4⟩
   simp[En.dat]at h5
   simp[lJ,qZ,hc,aQ,hh,dI,bH,h1,hb,bQ,h5,lF]
theorem akt(k p:Int)(hn:n<=1000):Sp M L (fP M [ob L.c,.int k,.int p]) (cG c (.tear k p)):=by
 have hc:=a.hc
 obtain⟨n2,hh⟩:=a.hh
 have hL:=I.hL
 have h1:=Ep a (by omega) k
 simp only[cG,uo]
 cases hk:bk c k with
 |none=>
  rw[hk]at h1
  show _=_
  simp[fP,jc,hc,aQ,hh,dI,bH,h1]
 |some b=>
  rw[hk]at h1
  obtain⟨_,_,h3,h4,n3,hb⟩:=rE a hk
  show Sp M L _ (if b.sd.al=true then _ else _)
  cases e1:b.sd.al with
  |false=>
   simp[e1]at h1
   show _=_
   simp[fP,jc,hc,aQ,hh,dI,bH,h1]
  |true=>
   simp[e1]at h1
   have mem:=asC h4
   have h6:=gJ (I.ear b mem)
   simp only[if_true]
   by_cases e2:0<=p/\p < 6
   ·rw[if_pos e2]
    obtain⟨q,rfl⟩:∃q:Nat,p=q:=⟨p.toNat,by omega⟩
    have hq:q < 6:=by omega
    have hq2:q < b.sd.ear.length:=by omega
    have hq3:(q:Int) < 6:=by omega
    have h7:b.sd.ear[q]?.getD 0=b.sd.ear[q]:=by simp[hq2]
    simp only[Int.toNat_natCast,List.getD_eq_getElem?_getD,h7]
    have h5:=sW hb (.torn q) (by omega) (by have:=I.en b mem;omega)
    by_cases e3:9<=b.sd.ear[q]
    ·rw[if_pos e3]
     show _=_
     simp[fP,jc,hc,aQ,hh,dI,bH,h1,hb,iB,iY,hq3,cU,hq2,e3]
    ·rw[if_neg e3]
     refine⟨_,L.bs,?_,zq (n:=n3) (e:=.torn q) a h3 h4⟩
     simp[En.dat]at h5
     have hl:∀i,(M.set (Pr.hk L k) i)[Pr.hk L k]?=some i:=fun i=>by rw[bG hb,if_pos rfl]
     simp[fP,jc,hc,aQ,hh,dI,bH,h1,hb,iY,hq3,cU,bQ,h5,hl,hq2,e3,lF,go]
   ·rw[if_neg e2]
    show _=_
    by_cases e3:0<=p
    ·have e4:¬p < 6:=fun z=>e2 ⟨e3,z⟩
     simp[fP,jc,hc,aQ,hh,dI,bH,h1,iY,e3,e4]
    ·simp[fP,jc,hc,aQ,hh,dI,bH,h1,iY,e3]
end
theorem Inv.alive{n s:Nat}{c:aM}(I:Inv n s c){b:cZ}(h:b∈c.bs)(h2:b.sd.al=true):bK c b.sd.o b.sd.g≠[]/\Vg c b.sd.g/\b.sd.o∈c.own:=by
 obtain⟨m,hm⟩:=I.rt b h h2
 exact⟨yO.mpr ⟨m,hm⟩,(I.hE _ hm).2.1,(I.hE _ hm).1⟩
section
variable{M:Mo}{L:Lay}{c:aM}(a:At M L c){n s:Nat}(I:Inv n s c)(hs:s<=76)(hn:n<=1000)
include a I hs hn
theorem ane(k:Int):Sp M L (jN M [ob L.c,.int k]) (cG c (.cut k)):=by
 have hc:=a.hc
 obtain⟨n2,hh⟩:=a.hh
 have hL:=I.hL
 have h1:=Ep a (by omega) k
 simp only[cG,uo,rO]
 cases hk:bk c k with
 |none=>
  rw[hk]at h1
  show _=_
  simp[jN,oA,hc,aQ,hh,dI,bH,h1]
 |some b=>
  rw[hk]at h1
  obtain⟨_,_,h3,h4,n3,hb⟩:=rE a hk
  show Sp M L _ (if b.sd.al=true then _ else _)
  cases e1:b.sd.al with
  |false=>
   simp[e1]at h1
   show _=_
   simp[jN,oA,hc,aQ,hh,dI,bH,h1]
  |true=>
   simp[e1]at h1
   simp only[if_true]
   have mem:=asC h4
   obtain⟨q1,q2,q3⟩:=I.alive mem e1
   obtain⟨r,q4,q5⟩:=I.mk1 q1
   have h6:=gJ (I.ear b mem)
   have h7:=Bs a (by omega) _ _ q4
   have h8:=Iw M b.sd.ear (firstM c b.sd.o b.sd.g) (by omega)
   have q6:=gJ (Fl (I.ear b mem) q5)
   generalize gA b.sd.ear (firstM c b.sd.o b.sd.g)=e at h8 q6 ⊢
   have h9:=YQ a I hs b.sd.o b.sd.g e q6 q2
   cases e2:qQ b.sd.o e (bM (eV c 0 b.sd.g)) (roomOf c b.sd.g) with
   |cons r rs=>
    rw[e2]at h9
    show _=_
    simp[jN,oA,hc,aQ,hh,dI,bH,h1,hb,iB,bW,h7,h8,bV,h9]
   |nil=>
    rw[e2]at h9
    have h5:=sW hb (.cut e) (by omega) (by have:=I.en b mem;omega)
    refine⟨_,L.bs,?_,zq (n:=n3) (e:=.cut e) a h3 h4⟩
    simp[En.dat]at h5
    simp[jN,oA,hc,aQ,hh,dI,bH,h1,hb,bW,bQ,h5,bV,h7,h8,h9,lF]
theorem alM(x:Int):Sp M L (j5 M [ob L.c,.int x]) (cG c (.part x)):=by
 have hc:=a.hc
 obtain⟨n1,m1,hg⟩:=a.hg
 have h1:=aeK a I.gr x
 have e0:(bA c x).filter (fun y=>!(y==x))=sH c x:=rfl
 rw[e0]at h1
 simp only[cG,uX]
 by_cases e1:Vg c x
 ·rw[if_pos e1]at h1 ⊢
  by_cases e2:sH c x=[]
  ·rw[if_pos e2]at h1 ⊢
   show _=_
   simp[j5,pJ,hc,aQ,hg,dw,oJ,h1]
  ·rw[if_neg e2]at h1 ⊢
   obtain⟨M',h1,h2⟩:=h1
   refine⟨M',L.bs,?_,h2⟩
   simp[j5,pJ,hc,aQ,hg,dw,oJ,h1]
 ·rw[if_neg e1]at h1 ⊢
  show _=_
  simp[j5,pJ,hc,aQ,hg,dw,oJ,h1]
theorem ahN(x y:Int)(hx:Vg c x)(hy:Vg c y):kY M [ob L.c,.int x,.int y]=.ok (.list ((mW (bM (Ip c x y)) (wg c x y)).map pairD)):=by
 have h1:=I.hL
 have f1:=I.few (R:=eV c 0 x) fun r hr=>qM hr
 have f2:=I.few (R:=eV c 0 y) fun r hr=>qM hr
 have f3:=I.few (R:=Ip c x y) fun r hr=>by
  rcases asO.mp hr with h|h
  ·exact qM (jP.mp h)
  ·exact qM (jP.mp h)
 have e:IV L c x y=Ip c x y:=by unfold IV Ip;rw[j7 a,j7 a]
 have:=aa9 a I.gr (by omega) (by omega) x y hx hy (by rw[j7 a];omega) (by rw[j7 a];omega) (by rw[e];omega) (by rw[j7 a];exact I.Mh) (by rw[j7 a];exact I.Mh)
 rw[e]at this
 exact this
theorem aiN(x y:Int):Sp M L (gq M [ob L.c,.int x,.int y]) (cG c (.zW x y)):=by
 have hc:=a.hc
 obtain⟨n1,m1,hg⟩:=a.hg
 have h1:=wN a y
 have h2:=Bv a I.gr x
 simp only[cG,uX]
 by_cases e1:Vg c y
 rotate_left
 ·rw[if_neg e1]at h1 ⊢
  show _=_
  simp[gq,jC,hc,aQ,hg,dw,aG,h1]
 rw[if_pos e1]at h1 ⊢
 by_cases e2:Vg c x
 rotate_left
 ·rw[if_neg e2]at h2 ⊢
  show _=_
  simp[gq,jC,hc,aQ,hg,dw,aG,h1,bT,h2]
 rw[if_pos e2]at h2 ⊢
 have h3:=HW false y (bA c x)
 have h4:=acy a I.gr x y e2 e1
 by_cases e3:y∈bA c x
 ·rw[if_pos e3]
  rw[decide_eq_true e3]at h3
  show _=_
  simp[gq,jC,hc,aQ,hg,dw,aG,h1,bT,h2,h3]
 rw[if_neg e3]at h4 ⊢
 rw[decide_eq_false e3]at h3
 have h5:=ahN a I hs hn x y e2 e1
 have h6:∀p∈mW (bM (Ip c x y)) (wg c x y),p.1.2.length=6:=fun p hp=>by
  unfold mW at hp
  obtain⟨q,hq,hp⟩:=List.mem_flatMap.mp hp
  obtain⟨r,_,rfl⟩:=asJ.mp hp
  obtain⟨i,hi,rfl⟩:=List.mem_mapIdx.mp hq
  have hm:=jP.mp (atj hi)
  rcases asO.mp hm with h|h
  ·exact I.Mh _ (jP.mp h)
  ·exact I.Mh _ (jP.mp h)
 cases e4:mW (bM (Ip c x y)) (wg c x y) with
 |cons p ps=>
  rw[e4]at h5 h6
  have h7:=Iw M p.1.2 p.2.2 (by have:=h6 p asz;omega)
  show _=_
  simp[gq,jC,hc,aQ,hg,dw,aG,h1,bT,h2,h3,nM,h5]
  simp[pairD,Ear.rD,Ear.dT,h7,pW]
 |nil=>
  rw[e4]at h5
  obtain⟨M',h4,h7⟩:=h4
  refine⟨M',L.bs,?_,h7⟩
  simp[gq,jC,hc,aQ,hg,dw,aG,h1,bT,h2,h3,nM,h5,wI,h4]
theorem akZ(e g x:Int):Sp M L (cW M [ob L.c,.int e,.int g,.int x]) (cG c (.heir e g x)):=by
 have hc:=a.hc
 have hr:=a.hr
 obtain⟨n1,m1,hg⟩:=a.hg
 have hL:=I.hL
 have h1:=lM a e
 have h2:=wN a g
 have h3:=rA a (by omega) e g
 simp only[cG,tZ,uX,lu]
 by_cases e1:e∈c.own
 rotate_left
 ·rw[if_neg e1]at h1 ⊢
  show _=_
  simp[cW,dW,hc,aQ,aD,h1]
 rw[if_pos e1]at h1 ⊢
 by_cases e2:Vg c g
 rotate_left
 ·rw[if_neg e2]at h2 ⊢
  show _=_
  simp[cW,dW,hc,aQ,aD,h1,hg,dw,aG,h2]
 rw[if_pos e2]at h2 ⊢
 by_cases e3:1<=x/\x<=3
 rotate_left
 ·rw[if_neg e3]
  show _=_
  by_cases e4:1<=x
  ·have e5:¬x<=3:=fun z=>e3 ⟨e4,z⟩
   simp[cW,dW,hc,aQ,aD,h1,hg,dw,aG,h2,jg,kW,e4,e5]
  ·simp[cW,dW,hc,aQ,aD,h1,hg,dw,aG,h2,jg,kW,e4]
 rw[if_pos e3]
 obtain⟨e4,e5⟩:=e3
 by_cases e6:bK c e g=[]
 ·rw[if_pos e6]at h3 ⊢
  show _=_
  simp[cW,dW,hc,aQ,aD,h1,hg,dw,aG,h2,jg,kW,e4,e5,aN,h3]
 rw[if_neg e6]at h3 ⊢
 obtain⟨r,q4,q5⟩:=I.mk1 e6
 have h7:=Bs a (by omega) _ _ q4
 have f1:=I.few (R:=eV c 0 g) fun r hr=>qM hr
 have h8:=zK a I.gr (by omega) (by omega) g (by rw[j7 a];omega)
 rw[if_pos e2,j7 a]at h8
 have h9:=Aq a I.gr g
 rw[if_pos e2]at h9
 have h10:=XC M (firstM c e g) x (bM (eV c 0 g)) (roomOf c g) q5 ⟨by omega,e5⟩ (wM I.Mh) (by rw[tM];omega)
 cases e7:(O5 (firstM c e g) x).find? (Cg (bM (eV c 0 g)) (roomOf c g)) with
 |none=>
  rw[e7]at h10
  show _=_
  simp[cW,dW,hc,aQ,aD,h1,hg,dw,aG,h2,jg,kW,e4,e5,aN,h3,bW,h7,cH,h8,cA,h9,h10]
 |some mk=>
  rw[e7]at h10
  obtain⟨M1,k1,a1⟩:=LR a (fun o ho=>(I.own o ho).2) (by have:=I.ownL;omega)
  have k2:=KC a1 (by show c.held.length<=50000;omega) (c.count+1) g mk
  rw[if_neg (fun z=>by
   have:=(I.own _ (I.hE _ z).1).2
   simp at this
   omega)]at k2
  obtain⟨M2,k2,a2⟩:=k2
  have hc1:=a1.hc
  have hr1:=a1.hr
  refine⟨M2,L.bs,?_,a2⟩
  simp[cW,dW,hc,aQ,aD,h1,hg,dw,aG,h2,jg,kW,e4,e5,aN,h3,bW,h7,cH,h8,cA,h9,h10,gU,k1]
  simp[hc1,aQ,hr1,nQ,iJ,k2]
end
theorem agH{n s:Nat}{c:aM}(I:Inv n s c){k:Nat}{b:cZ}(hb:c.bs[k]?=some b)(e:En)(h2:match e with|.cut l=>l.length=6|.sold _ l=>l.length=6|_=>True):Jp (2 * n+1) (dX c k e):=I.bi.step k e h2
section
variable{M:Mo}{L:Lay}{c:aM}(a:At M L c){n s:Nat}(I:Inv n s c)(hs:s<=76)(hn:n<=1000)
include a I hs hn
theorem ajq(k o:Int):Sp M L (dN M [ob L.c,.int k,.int o]) (cG c (.sell k o)):=by
 have hc:=a.hc
 obtain⟨n2,hh⟩:=a.hh
 have hL:=I.hL
 have h1:=KN a (by omega) k
 have h2:=lM a o
 simp only[cG,markB,uo,rO,tZ,lu]
 cases hk:bk c k with
 |none=>
  rw[hk]at h1
  show _=_
  simp[dN,fQ,hc,aQ,hh,dI,bB,h1]
 |some b=>
  rw[hk]at h1
  obtain⟨k1,k2,h3,h4,n3,hb⟩:=rE a hk
  show Sp M L _ (if b.sd.al=true then _ else _)
  cases e1:b.sd.al with
  |false=>
   simp[e1]at h1
   show _=_
   simp[dN,fQ,hc,aQ,hh,dI,bB,h1]
  |true=>
   simp[e1]at h1
   simp only[if_true]
   cases e2:b.sd.due with
   |none=>
    simp[e2]at h1
    show _=_
    simp[dN,fQ,hc,aQ,hh,dI,bB,h1]
   |some e0=>
    simp[e2]at h1
    show Sp M L _ (if o∈c.own then _ else _)
    by_cases e3:o∈c.own
    rotate_left
    ·rw[if_neg e3]at h2 ⊢
     show _=_
     simp[dN,fQ,hc,aQ,hh,dI,bB,h1,aD,h2]
    rw[if_pos e3]at h2 ⊢
    by_cases e4:b.sd.o=o
    ·rw[if_pos e4]
     show _=_
     simp[dN,fQ,hc,aQ,hh,dI,bB,h1,aD,h2,hb,e4]
    rw[if_neg e4]
    have h5:=rA a (by omega) o b.sd.g
    by_cases e5:bK c o b.sd.g=[]
    ·rw[if_pos e5]at h5 ⊢
     show _=_
     simp[dN,fQ,hc,aQ,hh,dI,bB,h1,aD,h2,hb,e4,aN,h5]
    rw[if_neg e5]at h5 ⊢
    have mem:=asC h4
    obtain⟨q1,q2,q3⟩:=I.alive mem e1
    obtain⟨r,q4,q5⟩:=I.mk1 e5
    have h6:=gJ (I.ear b mem)
    have h7:=Bs a (by omega) _ _ q4
    have h8:=Iw M b.sd.ear (firstM c o b.sd.g) (by omega)
    have q6:=gJ (Fl (I.ear b mem) q5)
    generalize gA b.sd.ear (firstM c o b.sd.g)=e at h8 q6 ⊢
    have f1:=I.few (R:=eV c k b.sd.g) fun r hr=>qM hr
    have h9:=Eh a I.gr (by omega) (by omega) k b.sd.g (by rw[j7 a];omega)
    rw[if_pos q2,j7 a]at h9
    have h10:=Aq a I.gr b.sd.g
    rw[if_pos q2]at h10
    have h11:=OJ M o e (bM (eV c k b.sd.g)) (roomOf c b.sd.g) q6 (wM I.Mh) (Y8 (by omega))
    cases e6:qQ o e (bM (eV c k b.sd.g)) (roomOf c b.sd.g) with
    |cons r rs=>
     rw[e6]at h11
     show _=_
     simp[dN,fQ,hc,aQ,hh,dI,bB,h1,aD,h2,hb,e4,aN,h5,bW,h7,h8,cY,h9,cA,h10,h11,pW]
    |nil=>
     rw[e6]at h11
     have h12:=sW hb (.sold o e) (by omega) (by have:=I.en b mem;omega)
     have a1:=zq (n:=n3) (e:=.sold o e) a h3 h4
     have hk2:bk (dX c (k - 1).toNat (.sold o e)) k=some (lF b (.sold o e)):=by
      unfold bk
      rw[if_pos ⟨k1,by simpa [dX] using k2⟩,tD,if_pos rfl,h4]
      rfl
     obtain⟨M',h13,a2⟩:=Gy a1 (by simp[dX];omega) (I.bi.step _ _ q6) (by omega) k hk2
     have hc1:=a1.hc
     obtain⟨n4,hh1⟩:=a1.hh
     refine⟨M',L.bs,?_,a2⟩
     simp[En.dat]at h12
     simp only[lF]at h13 hc1 hh1
     simp[dN,fQ,hc,aQ,hh,dI,bB,h1,aD,h2,hb,e4,aN,h5,bW,h7,h8,cY,h9,cA,h10,h11,bQ,h12]
     simp[hc1,aQ,hh1,dI,iH,h13]
theorem adQ(k g:Int):Sp M L (dJ M [ob L.c,.int k,.int g]) (cG c (.move k g)):=by
 have hc:=a.hc
 obtain⟨n2,hh⟩:=a.hh
 obtain⟨n5,m5,hg⟩:=a.hg
 have hL:=I.hL
 have h1:=KN a (by omega) k
 have h2:=wN a g
 simp only[cG,markB,uo,rO,uX,lu]
 cases hk:bk c k with
 |none=>
  rw[hk]at h1
  show _=_
  simp[dJ,fO,hc,aQ,hh,dI,bB,h1]
 |some b=>
  rw[hk]at h1
  obtain⟨k1,k2,h3,h4,n3,hb⟩:=rE a hk
  show Sp M L _ (if b.sd.al=true then _ else _)
  cases e1:b.sd.al with
  |false=>
   simp[e1]at h1
   show _=_
   simp[dJ,fO,hc,aQ,hh,dI,bB,h1]
  |true=>
   simp[e1]at h1
   simp only[if_true]
   cases e2:b.sd.due with
   |none=>
    simp[e2]at h1
    show _=_
    simp[dJ,fO,hc,aQ,hh,dI,bB,h1]
   |some e=>
    simp[e2]at h1
    show Sp M L _ (if Vg c g then _ else _)
    by_cases e3:Vg c g
    rotate_left
    ·rw[if_neg e3]at h2 ⊢
     show _=_
     simp[dJ,fO,hc,aQ,hh,dI,bB,h1,hg,dw,aG,h2]
    rw[if_pos e3]at h2 ⊢
    by_cases e4:b.sd.g=g
    ·rw[if_pos e4]
     show _=_
     simp[dJ,fO,hc,aQ,hh,dI,bB,h1,hg,dw,aG,h2,hb,e4]
    rw[if_neg e4]
    have h5:=rA a (by omega) b.sd.o g
    by_cases e5:bK c b.sd.o g=[]
    ·rw[if_pos e5]at h5 ⊢
     show _=_
     simp[dJ,fO,hc,aQ,hh,dI,bB,h1,hg,dw,aG,h2,hb,e4,aN,h5]
    rw[if_neg e5]at h5 ⊢
    have mem:=asC h4
    have h6:=gJ (I.ear b mem)
    have q6:=gJ (I.due b mem e e2)
    have h11:=YQ a I hs b.sd.o g e q6 e3
    cases e6:qQ b.sd.o e (bM (eV c 0 g)) (roomOf c g) with
    |cons r rs=>
     rw[e6]at h11
     show _=_
     simp[dJ,fO,hc,aQ,hh,dI,bB,h1,hg,dw,aG,h2,hb,e4,aN,h5,e2,jy,bV,h11]
    |nil=>
     rw[e6]at h11
     have h12:=sW hb (.moved g) (by omega) (by have:=I.en b mem;omega)
     have a1:=zq (n:=n3) (e:=.moved g) a h3 h4
     have hk2:bk (dX c (k - 1).toNat (.moved g)) k=some (lF b (.moved g)):=by
      unfold bk
      rw[if_pos ⟨k1,by simpa [dX] using k2⟩,tD,if_pos rfl,h4]
      rfl
     obtain⟨M',h13,a2⟩:=Gy a1 (by simp[dX];omega) (I.bi.step _ _ trivial) (by omega) k hk2
     have hc1:=a1.hc
     obtain⟨n4,hh1⟩:=a1.hh
     refine⟨M',L.bs,?_,a2⟩
     simp[En.dat]at h12
     simp only[lF]at h13 hc1 hh1
     simp[dJ,fO,hc,aQ,hh,dI,bB,h1,hg,dw,aG,h2,hb,e4,aN,h5,e2,jy,bV,h11,bQ,h12]
     simp[hc1,aQ,hh1,dI,iH,h13]
theorem aj3(e h:Int):Sp M L (fW M [ob L.c,.int e,.int h]) (cG c (.pass e h)):=by
 have hc:=a.hc
 have hr:=a.hr
 have hL:=I.hL
 have h1:=lM a e
 have h2:=lM a h
 simp only[cG,tZ]
 by_cases e1:e∈c.own
 rotate_left
 ·rw[if_neg e1]at h1 ⊢
  show _=_
  simp[fW,jJ,hc,aQ,aD,h1]
 rw[if_pos e1]at h1 ⊢
 by_cases e2:h∈c.own
 rotate_left
 ·rw[if_neg e2]at h2 ⊢
  show _=_
  simp[fW,jJ,hc,aQ,aD,h1,h2]
 rw[if_pos e2]at h2 ⊢
 by_cases e3:e=h
 ·rw[if_pos e3]
  show _=_
  simp[fW,jJ,hc,aQ,aD,h1,h2,e3]
 rw[if_neg e3]
 obtain⟨M1,h3,a1⟩:=Z0 a (by omega) e h
 have hc1:=a1.hc
 obtain⟨n1,hh1⟩:=a1.hh
 have h4:=agI a1 (by show c.bs.length<=50000;omega) e
 have ehd:bZ L { c with held:=handed c e h }=bZ L c:=rfl
 rw[ehd]at h4
 generalize hX:((bZ L c).filter fun x=>(x.2.2.sd.o==e)&&x.2.2.sd.al)=X at h4
 have hXl:X.length<=1000:=by
  rw[←hX]
  exact as5 (asQ _ _) (by rw[a.len'];omega)
 have bi1:Jp (2 * n) { c with held:=handed c e h }:=⟨I.bi.ear,I.bi.en⟩
 obtain⟨ρ',M2,g1,g2,g3⟩:=Qc (tg:=bF [4,5]) (body:=rQ) (fun ρ=>∃x y,ρ=[some (.dat (ob L.c)),some (.dat (.int e)),some (.dat (.int h)),some (.dat (.list (X.map nb))),x,y])
  (fun i c1=>Jp (2 * n+i) c1/\c1.bs.length=c.bs.length) (.passed h) L 1000 X M1 { c with held:=handed c e h } [some (.dat (ob L.c)),some (.dat (.int e)),some (.dat (.int h)),some (.dat (.list (X.map nb))),none,none] 0 (by omega) a1 ⟨bi1,rfl⟩ ⟨none,none,rfl⟩ (fun M1 c1 ρ x i hi a1 p1 q1 hx=>by
   obtain⟨bi1,l1⟩:=p1
   obtain⟨x0,y0,rfl⟩:=q1
   rw[←hX]at hx
   obtain⟨z1,z2⟩:=Fb (asY.mp hx).1
   have hl:x.1 < c1.bs.length:=by rw[l1];exact(asv.mp z2).1
   have z3:=asw hl
   obtain⟨nx,hx1⟩:=a1.hb _ _ _ z1 z3
   have mem:=atj hl
   have hb:=sW hx1 (.passed h) (by rw[bi1.ear _ mem];decide) (by have:=bi1.en _ mem;omega)
   refine⟨[some (.dat (ob L.c)),some (.dat (.int e)),some (.dat (.int h)),some (.dat (.list (X.map nb))),some (.dat (.int ((x.1:Int)+1))),some (.dat (ob x.2.1))],[some (.dat (ob L.c)),some (.dat (.int e)),some (.dat (.int h)),some (.dat (.list (X.map nb))),some (.dat (.int ((x.1:Int)+1))),some (.dat (ob x.2.1))],_,by simp[nb],?_,⟨_,_,rfl⟩,zq (n:=nx) a1 z1 z3,bi1.step _ _ trivial,by simp[dX,l1]⟩
   have hb:mU M1 [ob x.2.1,.tuple [.str "passed",.int h]]=_:=hb
   simp[rQ,hx1,bQ,hb,lF])
 obtain⟨x0,y0,rfl⟩:=g2
 have g4:vC X (.passed h) { c with held:=handed c e h }=nH (fun x=>(x.sd.o==e)&&x.sd.al) (.passed h) { c with held:=handed c e h }:=by
  rw[←hX]
  exact WR a1 (fun x=>(x.sd.o==e)&&x.sd.al) (.passed h)
 rw[g4]at g3
 have hc2:=g3.hc
 have hl:∀i,(M2.set L.c i)[L.c]?=some i:=fun i=>by rw[bG hc2,if_pos rfl]
 have hk:=any_keys e c.own
 rw[decide_eq_true e1]at hk
 have hf:((c.own.map fun o=>(PyData.int o,PyData.bool true)).filter fun p=>!PyData.eqv p.1 (.int e))=(c.own.filter fun o=>!(o==e)).map fun o=>(PyData.int o,PyData.bool true):=by
  rw[List.filter_map]
  congr 1
 have a3:=g3.setC (n:=c.count) (own:=c.own.filter fun o=>!(o==e))
 refine⟨_,L.bs,?_,a3⟩
 have key:=fj (tg:=bF [4,5]) (te:=aq 4) (M:=M2.set L.c (aQ L { nH (fun x=>(x.sd.o==e)&&x.sd.al) (.passed h) { c with held:=handed c e h } with count:=c.count,own:=c.own.filter fun o=>!(o==e) })) (ρ:=[some (.dat (ob L.c)),some (.dat (.int e)),some (.dat (.int h)),some (.dat (.list (X.map nb))),none,none]) nb (fun x=>.int ((x.1:Int)+1)) X fun x _=>⟨[some (.dat (ob L.c)),some (.dat (.int e)),some (.dat (.int h)),some (.dat (.list (X.map nb))),some (.dat (.int ((x.1:Int)+1))),some (.dat (ob x.2.1))],by simp[nb],by simp⟩
 have eo:(Q9 c e).map PyData.int=X.map fun x=>.int ((x.1:Int)+1):=by
  unfold Q9
  rw[←MJ a,List.filter_map,as8,as8,←hX]
  rfl
 have eo:lI (Q9 c e)=.list (X.map fun x=>.int ((x.1:Int)+1)):=congrArg PyData.list eo
 have hX2:X.length<=50000:=by omega
 have f2:c.own.length<=100000:=by have:=I.ownL;omega
 rw[eo]
 simp[fW,jJ,hc,aQ,aD,h1,h2,e3,hr,nQ,rK,h3]
 simp[hc1,aQ,hh1,dI,Bw,h4,g1]
 simp only[nH]at hc2 key ⊢
 have hk':(c.own.any ((fun p=>PyData.eqv p.1 (.int e)) ∘ fun o=>(PyData.int o,PyData.bool true)))=true:=by
  rw[←atU]
  exact hk
 simp[hc2,aQ,f2]
 rw[hk',hf]
 simp only[aQ]at key
 simp[key,hX2]
end
theorem dh.same{c c':aM}(i:dh c)(h1:c'.al=c.al)(h2:c'.ci=c.ci):dh c':=by
 cases c
 cases c'
 simp at h1 h2
 subst h1 h2
 exact⟨i.len,i.few,i.al,i.mem,i.own,i.up,i.one⟩
theorem dh.lt{c:aM}(i:dh c){k:Nat}{l:List Int}(h:c.ci[k]?=some l):k < c.al.length:=by
 rw[←i.len]
 exact(asv.mp h).1
theorem dh.add{c:aM}(i:dh c)(hf:c.al.length < 200){x:Int}(hx:0<=x/\x<=9):dh { c with al:=c.al++[x],ci:=c.ci++[[(c.al.length:Int)+1]] }:=by
 have key:∀(k:Nat) (l:List Int),(c.ci++[[(c.al.length:Int)+1]])[k]?=some l->(c.ci[k]?=some l/\k < c.al.length)∨(k=c.al.length/\l=[(c.al.length:Int)+1]):=fun k l h=>by
  by_cases hk:k < c.ci.length
  ·rw[asK hk]at h
   exact .inl ⟨h,i.lt h⟩
  ·rw[asR (by omega)]at h
   have hk2:k - c.ci.length=0:=by
    have:=(asv.mp h).1
    simp at this
    omega
   rw[hk2]at h
   simp at h
   exact .inr ⟨by have:=i.len;omega,h.symm⟩
 refine⟨by simp[i.len],by simp;omega,fun y hy=>?_,fun k l h y hy=>?_,fun k l h=>?_,fun k l h=>?_,fun k j l h hj=>?_⟩
 ·rcases asO.mp hy with hy|hy
  ·exact i.al y hy
  ·rw[asB.mp hy]
   exact hx
 ·show 1<=y/\y<=((c.al++[x]).length:Int)
  rw[atb,List.length_singleton]
  rcases key k l h with⟨h,_⟩|⟨_,rfl⟩
  ·have:=i.mem k l h y hy
   omega
  ·rw[asB.mp hy]
   omega
 ·rcases key k l h with⟨h,_⟩|⟨rfl,rfl⟩
  ·exact i.own k l h
  ·simp
 ·rcases key k l h with⟨h,_⟩|⟨rfl,rfl⟩
  ·exact i.up k l h
  ·simp
 ·show(c.ci++[[(c.al.length:Int)+1]])[j]?=some l
  rcases key k l h with⟨h,_⟩|⟨rfl,rfl⟩
  ·have h2:=i.one k j l h hj
   rw[asK (asv.mp h2).1]
   exact h2
  ·have:j=c.al.length:=by
    rw[asB]at hj
    omega
   rw[this,←i.len]
   simp
theorem Zm(l:List Int):∀(s:List Int) (ci:List (List Int)) (k:Nat),(∀y∈s,1<=y)->(s.foldl (fun s y=>s.set (y - 1).toNat l) ci)[k]?=if ((k:Int)+1∈s)/\k < ci.length then some l else ci[k]?
 |[],ci,k,_=>by simp
 |y::s,ci,k,h=>by
  rw[atE,Zm l s _ k fun z hz=>h z (asy _ hz),asZ]
  have hy:=h y asz
  by_cases h1:(k:Int)+1∈s/\k < ci.length
  ·rw[if_pos h1,if_pos ⟨asy _ h1.1,h1.2⟩]
  ·rw[if_neg h1,atv]
   by_cases h2:(y - 1).toNat=k
   ·rw[if_pos h2]
    have e:(k:Int)+1=y:=by omega
    by_cases h3:k < ci.length
    ·rw[if_pos (by omega),if_pos ⟨by rw[e];exact asz,h3⟩]
    ·rw[if_neg (by omega),if_neg (fun z=>h3 z.2),as7 (by omega)]
   ·rw[if_neg h2,if_neg]
    rintro⟨z,h3⟩
    rcases asN.mp z with z|z
    ·omega
    ·exact h1 ⟨z,h3⟩
theorem Qp(ci:List (List Int))(l:List Int)(k:Nat)(h:∀y∈l,1<=y):(encl ci l)[k]?=if ((k:Int)+1∈l)/\k < ci.length then some l else ci[k]?:=Zm l l ci k h
theorem dh.again{c:aM}(i:dh c){ci:List (List Int)}(hl:ci.length=c.ci.length)(P:List Int->Prop)
  (h1:∀(k:Nat) (l:List Int),ci[k]?=some l->(P l/\(k:Int)+1∈l)∨c.ci[k]?=some l)
  (h2:∀l,P l->l.Pairwise (· < ·)/\∀y∈l,Vg c y/\ci[(y - 1).toNat]?=some l)
  (h3:∀(k j:Nat) (l:List Int),ci[k]?=some l->c.ci[k]?=some l->c.ci[j]?=some l->(k:Int)+1∈l->¬P l->ci[j]?=some l):dh { c with ci:=ci }:=by
 refine⟨by show ci.length=_;rw[hl,i.len],i.few,i.al,fun k l h y hy=>?_,fun k l h=>?_,fun k l h=>?_,fun k j l h hj=>?_⟩
 ·rcases h1 k l h with⟨p,_⟩|h
  ·exact((h2 l p).2 y hy).1
  ·exact i.mem k l h y hy
 ·rcases h1 k l h with⟨_,p⟩|h
  ·exact p
  ·exact i.own k l h
 ·rcases h1 k l h with⟨p,_⟩|h
  ·exact(h2 l p).1
  ·exact i.up k l h
 ·show ci[j]?=some l
  have pj:P l->ci[j]?=some l:=fun p=>by
   have:=((h2 l p).2 _ hj).2
   rwa [show((j:Int)+1 - 1).toNat=j by omega]at this
  rcases h1 k l h with⟨p,_⟩|h'
  ·exact pj p
  ·by_cases p:P l
   ·exact pj p
   ·exact h3 k j l h h' (i.one k j l h' hj) (i.own k l h') p
theorem dh.at{c:aM}(i:dh c){x:Int}(h:Vg c x):c.ci[(x - 1).toNat]?=some (bA c x):=by
 obtain⟨k,hk,rfl⟩:=Az h
 have hk':k < c.ci.length:=by rw[i.len];exact hk
 simp[bA,hk']
theorem dh.self{c:aM}(i:dh c){x:Int}(h:Vg c x):x∈bA c x:=by
 have:=i.own _ _ (i.at h)
 rwa [show(((x - 1).toNat:Nat):Int)+1=x by omega]at this
theorem dh.eq{c:aM}(i:dh c){x y:Int}(h:Vg c x)(hy:y∈bA c x):bA c y=bA c x:=by
 have v:=i.mem _ _ (i.at h) y hy
 have:=i.one _ (y - 1).toNat _ (i.at h) (by rw[show(((y - 1).toNat:Nat):Int)+1=y by omega];exact hy)
 rw[i.at v]at this
 exact asW this
theorem aej{l:List Int}{i:Int}:i∈sortI l↔i∈l:=by
 unfold sortI
 rw[List.mem_mergeSort]
theorem agP{l:List Int}(h:l.Nodup):(sortI l).Pairwise (· < ·):=by
 unfold sortI
 have srt:=atL (le:=fun a b:Int=>decide (a<=b)) (fun a b c k1 k2=>by rw[decide_eq_true_eq]at *;omega) (fun a b=>by rw[atN,decide_eq_true_eq,decide_eq_true_eq];omega) l
 have nd:(l.mergeSort fun a b=>decide (a<=b)).Nodup:=(List.mergeSort_perm _ _).nodup_iff.mpr h
 refine List.Pairwise.imp₂ (fun a b h1 h2=>?_) srt nd
 rw[decide_eq_true_eq]at h1
 have:a≠b:=h2
 omega
theorem dh.zW{c:aM}(i:dh c){x y:Int}(hx:Vg c x)(hy:Vg c y)(hn:y∉bA c x):dh { c with ci:=encl c.ci (sortI (bA c x++bA c y)) }:=by
 generalize hS:sortI (bA c x++bA c y)=S
 have mem:∀z,z∈S↔z∈bA c x∨z∈bA c y:=fun z=>by rw[←hS,aej,asO]
 have vg:∀z∈S,Vg c z:=fun z hz=>by
  rcases(mem z).mp hz with h|h
  ·exact i.mem _ _ (i.at hx) z h
  ·exact i.mem _ _ (i.at hy) z h
 have up:S.Pairwise (· < ·):=by
  rw[←hS]
  refine agP ?_
  rw[atl]
  have nd:∀{l:List Int},l.Pairwise (· < ·)->l.Nodup:=fun h=>h.imp fun {a b} z e=>by omega
  refine⟨nd (i.up _ _ (i.at hx)),nd (i.up _ _ (i.at hy)),fun a ha b hb e=>?_⟩
  subst e
  have e1:=i.eq hx ha
  have e2:=i.eq hy hb
  rw[e1]at e2
  exact hn (e2 ▸ i.self hy)
 have get:=fun k=>Qp c.ci S k fun z hz=>(vg z hz).1
 refine i.again (P:=fun l=>l=S) (by unfold encl;rw[yW]) (fun k l h=>?_) (fun l hl=>?_) (fun k j l h h' hj hk np=>?_)
 ·rw[get]at h
  split at h
  ·next z=>
   cases h
   exact .inl ⟨rfl,z.1⟩
  ·exact .inr h
 ·subst hl
  refine⟨up,fun z hz=>⟨vg z hz,?_⟩⟩
  have v:=vg z hz
  have e:(((z - 1).toNat:Nat):Int)+1=z:=by omega
  rw[get,e,if_pos ⟨hz,by rw[i.len];omega⟩]
 ·rw[get]
  by_cases z:(j:Int)+1∈S/\j < c.ci.length
  ·exfalso
   have v:=vg _ z.1
   have ej:bA c ((j:Int)+1)=l:=by
    have:=i.at v
    rw[show((j:Int)+1 - 1).toNat=j by omega,hj]at this
    exact(asW this).symm
   have hk2:(k:Int)+1∈S:=by
    rw[mem]
    rcases(mem _).mp z.1 with q|q
    ·exact .inl (by rw[←i.eq hx q,ej];exact hk)
    ·exact .inr (by rw[←i.eq hy q,ej];exact hk)
   rw[get,if_pos ⟨hk2,(asv.mp h').1⟩]at h
   exact np (asW h).symm
  ·rw[if_neg z]
   exact hj
theorem dh.part{c:aM}(i:dh c){x:Int}(hx:Vg c x):dh { c with ci:=encl (encl c.ci [x]) (sH c x) }:=by
 have mem:∀z,z∈sH c x↔z∈bA c x/\z≠x:=fun z=>by
  unfold sH
  rw[asY]
  simp
 have vg:∀z∈sH c x,Vg c z:=fun z hz=>i.mem _ _ (i.at hx) z ((mem z).mp hz).1
 have l1:(encl c.ci [x]).length=c.ci.length:=by unfold encl;rw[yW]
 have get:∀k:Nat,(encl (encl c.ci [x]) (sH c x))[k]?=if ((k:Int)+1∈sH c x)/\k < c.ci.length then some (sH c x) else if ((k:Int)+1=x)/\k < c.ci.length then some [x] else c.ci[k]?:=fun k=>by
  rw[Qp _ _ _ fun z hz=>(vg z hz).1,l1,Qp _ _ _ fun z hz=>by rw[asB.mp hz];exact hx.1]
  simp only[asB]
 refine i.again (P:=fun l=>l=sH c x/\l≠[]∨l=[x]) (by unfold encl;rw[yW,yW]) (fun k l h=>?_) (fun l hl=>?_) (fun k j l h h' hj hk np=>?_)
 ·rw[get]at h
  split at h
  ·next z=>
   cases h
   exact .inl ⟨.inl ⟨rfl,List.ne_nil_of_mem z.1⟩,z.1⟩
  ·split at h
   ·next z=>
    cases h
    exact .inl ⟨.inr rfl,by rw[z.1];simp⟩
   ·exact .inr h
 ·rcases hl with⟨rfl,_⟩|rfl
  ·refine⟨(i.up _ _ (i.at hx)).filter _,fun z hz=>⟨vg z hz,?_⟩⟩
   have v:=vg z hz
   have e:(((z - 1).toNat:Nat):Int)+1=z:=by omega
   rw[get,e,if_pos ⟨hz,by rw[i.len];omega⟩]
  ·refine⟨by simp,fun z hz=>?_⟩
   rw[asB.mp hz]
   refine⟨hx,?_⟩
   have e:(((x - 1).toNat:Nat):Int)+1=x:=by omega
   rw[get,e,if_neg (fun z=>((mem x).mp z.1).2 rfl),if_pos ⟨rfl,by rw[i.len];omega⟩]
 ·have key:∀m:Nat,c.ci[m]?=some l->(m:Int)+1∈bA c x->l=bA c x:=fun m hm q=>by
   have v:=i.mem _ _ (i.at hx) _ q
   have:=i.at v
   rw[show((m:Int)+1 - 1).toNat=m by omega,hm,i.eq hx q]at this
   exact asW this
  have out:(k:Int)+1∉bA c x:=fun q=>by
   rw[get]at h
   by_cases e:(k:Int)+1=x
   ·rw[if_neg (fun z=>((mem _).mp z.1).2 e),if_pos ⟨e,(asv.mp h').1⟩]at h
    exact np (.inr (asW h).symm)
   ·rw[if_pos ⟨(mem _).mpr ⟨q,e⟩,(asv.mp h').1⟩]at h
    have e2:=(asW h).symm
    exact np (.inl ⟨e2,fun z=>by rw[z]at hk;cases hk⟩)
  have outj:(j:Int)+1∉bA c x:=fun q=>out (key j hj q ▸ hk)
  have o1:¬((j:Int)+1∈sH c x/\j < c.ci.length):=fun z=>outj ((mem _).mp z.1).1
  have o2:¬((j:Int)+1=x/\j < c.ci.length):=fun z=>outj (by rw[z.1];exact i.self hx)
  rw[get,if_neg o1,if_neg o2]
  exact hj
def Good(held:List Row3)(s:Sd):Prop:=cX s.ear=true/\(∀e,s.due=some e->cX e=true)/\(s.al=true->∃m,(s.o,s.g,m)∈held)
structure Tz(m:Nat)(c:aM):Prop where
 g:∀b∈c.bs,Good c.held b.sd
 en:∀b∈c.bs,b.en.length<=m
theorem Inv.Wn{n s:Nat}{c:aM}(I:Inv n s c):Tz (2 * n) c:=⟨fun b hb=>⟨I.ear b hb,I.due b hb,I.rt b hb⟩,I.en⟩
theorem Zt{c:aM}{i:Nat}{e:En}{b:cZ}(h:b∈(dX c i e).bs):b∈c.bs∨∃b0,c.bs[i]?=some b0/\b=lF b0 e:=by
 obtain⟨j,hj⟩:=List.mem_iff_getElem?.mp h
 rw[tD]at hj
 split at hj
 ·next z=>
  subst z
  obtain⟨b0,h3,h4⟩:=atp.mp hj
  exact .inr ⟨b0,h3,h4.symm⟩
 ·exact .inl (asC hj)
theorem Tz.one{m:Nat}{c:aM}(B:Tz m c){i:Nat}{e:En}(h:∀b,c.bs[i]?=some b->Good c.held (go b.sd e)):Tz (m+1) (dX c i e):=by
 refine⟨fun b hb=>?_,fun b hb=>?_⟩
 ·rcases Zt hb with h1|⟨b0,h1,rfl⟩
  ·exact B.g b h1
  ·exact h b0 h1
 ·rcases Zt hb with h1|⟨b0,h1,rfl⟩
  ·have:=B.en b h1
   omega
  ·have:=B.en b0 (asC h1)
   simp[lF]
   omega
theorem Tz.many{m:Nat}{c:aM}(B:Tz m c){p:cZ->Bool}{e:En}(h:∀b∈c.bs,p b=true->Good c.held (go b.sd e)):Tz (m+1) (nH p e c):=by
 refine⟨fun b hb=>?_,fun b hb=>?_⟩
 ·obtain⟨b0,h1,rfl⟩:=asJ.mp hb
  cases hp:p b0 with
  |true=>
   rw[if_pos rfl]
   exact h b0 h1 hp
  |false=>
   rw[if_neg (by simp)]
   exact B.g b0 h1
 ·obtain⟨b0,h1,rfl⟩:=asJ.mp hb
  have:=B.en b0 h1
  cases hp:p b0 <;> simp[lF] <;> omega
theorem Good.mono{held held':List Row3}{s:Sd}(g:Good held s)(h:∀r∈held,r∈held'):Good held' s:=⟨g.1,g.2.1,fun z=>by
 obtain⟨m,hm⟩:=g.2.2 z
 exact⟨m,h _ hm⟩⟩
theorem Inv.of{n s n' s':Nat}{c c':aM}(I:Inv n s c)(hn:n<=n')(gr:dh c')(hal:c'.al.length<=n')(ec:c'.count=c.count)(eo:c'.own=c.own)(hd:c'.held.Nodup)(hL:c'.held.length+c'.bs.length<=s')(hE:∀r∈c'.held,r.1∈c'.own/\Vg c' r.2.1/\cX r.2.2=true)(B:Tz (2 * n') c'):Inv n' s' c':=
 ⟨gr,hal,by have:=I.cnt;rw[ec];omega,by rw[ec,eo];exact I.own,by rw[eo];exact I.Pk,by have:=I.ownL;rw[eo];omega,hd,hL,hE,fun b hb=>(B.g b hb).1,fun b hb=>(B.g b hb).2.1,B.en,fun b hb=>(B.g b hb).2.2⟩
theorem ac8{x:List Int}{p:Nat}(h:cX x=true)(h9:¬9<=x.getD p 0):cX (yu x p)=true:=by
 unfold cX at *
 simp only[asu,decide_eq_true_eq,asV]at *
 refine⟨by rw[acv];exact h.1,fun d hd=>?_⟩
 unfold yu at hd
 obtain⟨i,hi,rfl⟩:=List.mem_mapIdx.mp hd
 have:=h.2 _ (atj hi)
 split
 ·next e=>
  subst e
  have:x.getD i 0=x[i]:=by simp[hi]
  omega
 ·exact this
theorem Pg{r:Row3}:∀(l acc:List Row3),r∈l.foldl FJ acc↔r∈acc∨r∈l
 |[],acc=>by simp
 |x::l,acc=>by
  rw[atE,Pg l]
  unfold FJ
  split
  ·next h=>
   constructor
   ·rintro(z|z)
    ·exact .inl z
    ·exact .inr (asy _ z)
   ·rintro(z|z)
    ·exact .inl z
    ·rcases asN.mp z with rfl|z
     ·exact .inl h
     ·exact .inr z
  ·simp[or_assoc]
theorem Rb:∀(l acc:List Row3),acc.Nodup->(l.foldl FJ acc).Nodup
 |[],acc,h=>h
 |x::l,acc,h=>by
  rw[atE]
  refine Rb l _ ?_
  unfold FJ
  split
  ·exact h
  ·next z=>
   rw[atl]
   exact⟨h,by simp,fun a ha b hb e=>z (by rw[asB.mp hb]at e;exact e ▸ ha)⟩
theorem Ys:∀(l acc:List Row3),(l.foldl FJ acc).length<=acc.length+l.length
 |[],acc=>by simp
 |x::l,acc=>by
  rw[atE]
  refine as5 (Ys l _) ?_
  unfold FJ
  split <;> simp <;> omega
def cost:bJ->Nat
 |.enrol ..=>1
 |.bring ..=>1
 |.bear ..=>1
 |.heir ..=>1
 |_=>0
theorem NQ{o room:Int}{e:List Int}{R:List Rw}{x:Res}{d:Dat}{c':aM}(h:rO o e R room x=.ok d c'):x=.ok d c':=by
 unfold rO at h
 split at h
 ·exact h
 ·cases h
theorem yI{c:aM}{o:Int}{x:Res}{d:Dat}{c':aM}(h:tZ c o x=.ok d c'):o∈c.own/\x=.ok d c':=by
 unfold tZ at h
 split at h
 ·next z=>exact⟨z,h⟩
 ·cases h
theorem Ag{c:aM}{g:Int}{x:Res}{d:Dat}{c':aM}(h:uX c g x=.ok d c'):Vg c g/\x=.ok d c':=by
 unfold uX at h
 split at h
 ·next z=>exact⟨z,h⟩
 ·cases h
theorem abC{e:List Int}{x:Res}{d:Dat}{c':aM}(h:Ks e x=.ok d c'):cX e=true/\x=.ok d c':=by
 unfold Ks at h
 split at h
 ·next z=>exact⟨z,h⟩
 ·cases h
theorem Av{c:aM}{o g:Int}{x:Res}{d:Dat}{c':aM}(h:lu c o g x=.ok d c'):bK c o g≠[]/\x=.ok d c':=by
 unfold lu at h
 split at h
 ·cases h
 ·next z=>exact⟨z,h⟩
theorem Nm{c:aM}{k:Int}{f:cZ->Res}{d:Dat}{c':aM}(h:uo c k f=.ok d c'):∃b,bk c k=some b/\b.sd.al=true/\f b=.ok d c':=by
 unfold uo at h
 split at h
 ·cases h
 ·next b hb=>
  split at h
  ·next z=>exact⟨b,hb,z,h⟩
  ·cases h
theorem Ql{c:aM}{k:Int}{f:cZ->List Int->Res}{d:Dat}{c':aM}(h:markB c k f=.ok d c'):∃b e,bk c k=some b/\b.sd.al=true/\b.sd.due=some e/\f b e=.ok d c':=by
 obtain⟨b,h1,h2,h3⟩:=Nm h
 split at h3
 ·cases h3
 ·next e he=>exact⟨b,e,h1,h2,he,h3⟩
theorem xV{p:Prop}[Decidable p]{x:dD}{y:Res}{d:Dat}{c':aM}(h:(if p then .no x else y)=Res.ok d c'):¬p/\y=.ok d c':=by
 split at h
 ·cases h
 ·next z=>exact⟨z,h⟩
theorem T7{p:Prop}[Decidable p]{x:dD}{y:Res}{d:Dat}{c':aM}(h:(if p then y else .no x)=Res.ok d c'):p/\y=.ok d c':=by
 split at h
 ·next z=>exact⟨z,h⟩
 ·cases h
theorem lU{c:aM}{k:Int}{b:cZ}(h:bk c k=some b):c.bs[(k - 1).toNat]?=some b/\1<=k/\k<=c.bs.length:=by
 unfold bk at h
 split at h
 ·next z=>exact⟨h,z⟩
 ·cases h
theorem R9(c:aM)(k o g:Int):(j6 c k o g).bs.length=c.bs.length:=by simp[j6,nH]
theorem wu(c:aM)(i:Nat)(e:En):(dX c i e).bs.length=c.bs.length:=by simp[dX]
theorem Yl{n s:Nat}{c c':aM}{d:bJ}{r:Dat}(I:Inv n s c)(hn:n<=199)(h:cG c d=.ok r c'):Inv (n+1) (s+cost d) c':=by
 have L0:=I.hL
 have A0:=I.al
 have C0:=I.cnt
 have O0:=I.ownL
 have up:Tz (2 * (n+1)) c:=⟨I.Wn.g,fun b hb=>by have:=I.en b hb;omega⟩
 cases d with
 |owner=>
  cases h
  refine⟨I.gr.same rfl rfl,by show c.al.length<=_;omega,⟨by show 0<=c.count+1;omega,by show c.count+1<=((n+1:Nat):Int);omega⟩,fun o ho=>?_,?_,by simp;omega,I.held,by simp[cost];omega,fun r hr=>?_,I.ear,I.due,up.en,I.rt⟩
  ·show 1<=o/\o<=c.count+1
   rcases asO.mp ho with ho|ho
   ·have:=I.own o ho
    omega
   ·rw[asB.mp ho]
    omega
  ·rw[atl]
   refine⟨I.Pk,by simp,fun a ha b hb e=>?_⟩
   rw[asB.mp hb]at e
   have:=I.own a ha
   omega
  ·obtain⟨h1,h2,h3⟩:=I.hE r hr
   exact⟨atf _ h1,h2,h3⟩
 |ground x=>
  obtain⟨hx,h⟩:=T7 h
  cases h
  refine I.of (by omega) (I.gr.add (by omega) hx) (by simp;omega) rfl rfl I.held (by simp[cost];omega) (fun r hr=>?_) ⟨up.g,up.en⟩
  obtain⟨h1,h2,h3⟩:=I.hE r hr
  refine⟨h1,?_,h3⟩
  show 1<=_/\_<=((c.al++[x]).length:Int)
  rw[atb]
  have:=h2.2
  exact⟨h2.1,by omega⟩
 |enrol o g m=>
  obtain⟨h1,h⟩:=yI h
  obtain⟨h2,h⟩:=Ag h
  obtain⟨h3,h⟩:=abC h
  obtain⟨h4,h⟩:=xV h
  obtain⟨h5,h⟩:=xV h
  have h:=NQ h
  cases h
  refine I.of (by omega) (I.gr.same rfl rfl) (by show c.al.length<=_;omega) rfl rfl ?_ (by simp[cost];omega) (fun r hr=>?_) ⟨fun b hb=>(up.g b hb).mono fun r hr=>atf _ hr,up.en⟩
  ·rw[atl]
   refine⟨I.held,by simp,fun a ha b hb e=>?_⟩
   rw[asB.mp hb]at e
   exact h5 (Fo.mpr (e ▸ ha))
  ·rcases asO.mp hr with hr|hr
   ·exact I.hE r hr
   ·rw[asB.mp hr]
    exact⟨h1,h2,h3⟩
 |leave o g=>
  obtain⟨h1,h⟩:=yI h
  obtain⟨h2,h⟩:=Ag h
  obtain⟨h3,h⟩:=Av h
  obtain⟨h4,h⟩:=xV h
  cases h
  have sub:∀r∈dropped c o g,r∈c.held:=fun r hr=>(asY.mp hr).1
  have ln:(dropped c o g).length<=c.held.length:=asQ _ _
  refine I.of (by omega) (I.gr.same rfl rfl) (by show c.al.length<=_;omega) rfl rfl (I.held.filter _) (by simp[cost];omega) (fun r hr=>I.hE r (sub r hr)) ⟨fun b hb=>⟨(up.g b hb).1,(up.g b hb).2.1,fun hal=>?_⟩,up.en⟩
  obtain⟨m,hm⟩:=(up.g b hb).2.2 hal
  refine⟨m,asY.mpr ⟨hm,?_⟩⟩
  simp only[asT,Bool.and_eq_false_iff,beq_eq_false_iff_ne]
  by_cases e:b.sd.o=o/\b.sd.g=g
  ·exfalso
   refine h4 (List.any_eq_true.mpr ⟨b,hb,?_⟩)
   simp[X6,hal,e.1,e.2]
  ·by_cases e1:b.sd.o=o
   ·exact .inr fun z=>e ⟨e1,z⟩
   ·exact .inl e1
 |bring o g e=>
  obtain⟨h1,h⟩:=yI h
  obtain⟨h2,h⟩:=Ag h
  obtain⟨h3,h⟩:=abC h
  obtain⟨h4,h⟩:=Av h
  cases h
  refine I.of (by omega) (I.gr.same rfl rfl) (by show c.al.length<=_;omega) rfl rfl I.held (by simp[cost];omega) I.hE ⟨fun b hb=>?_,fun b hb=>?_⟩
  ·rcases asO.mp hb with hb|hb
   ·exact up.g b hb
   ·rw[asB.mp hb]
    exact⟨h3,fun e z=>(by cases z),fun _=>yO.mp h4⟩
  ·rcases asO.mp hb with hb|hb
   ·exact up.en b hb
   ·rw[asB.mp hb]
    simp[Fw]
 |bear k=>
  obtain⟨b0,e0,h1,h2,h3,h⟩:=Ql h
  cases h
  refine I.of (by omega) (I.gr.same rfl rfl) (by show c.al.length<=_;omega) rfl rfl I.held (by simp[cost];omega) I.hE ⟨fun b hb=>?_,fun b hb=>?_⟩
  ·rcases asO.mp hb with hb|hb
   ·exact up.g b hb
   ·rw[asB.mp hb]
    exact⟨(by decide:cX [0,0,0,0,0,0]=true),fun e z=>(by cases z),fun _=>(up.g b0 (asC (lU h1).1)).2.2 h2⟩
  ·rcases asO.mp hb with hb|hb
   ·exact up.en b hb
   ·rw[asB.mp hb]
    simp[Fw]
 |cut k=>
  obtain⟨b0,h1,h2,h⟩:=Nm h
  have h:=NQ h
  cases h
  have hm:=asC (lU h1).1
  obtain⟨r,q4,q5⟩:=I.mk1 (I.alive hm h2).1
  have je:=Fl (I.ear b0 hm) q5
  generalize gA b0.sd.ear (firstM c b0.sd.o b0.sd.g)=e at je ⊢
  have B:=I.Wn.one (i:=(k - 1).toNat) (e:=.cut e) fun b hb=>by
   rw[(lU h1).1]at hb
   cases hb
   exact⟨je,fun e z=>(by cases z;exact je),fun _=>I.rt b0 hm h2⟩
  exact I.of (by omega) (I.gr.same rfl rfl) (by show c.al.length<=_;omega) rfl rfl I.held (by rw[wu];simp[cost,dX];omega) I.hE ⟨B.g,fun b hb=>by have:=B.en b hb;omega⟩
 |tear k p=>
  obtain⟨b0,h1,h2,h⟩:=Nm h
  obtain⟨h3,h⟩:=T7 h
  obtain⟨h4,h⟩:=xV h
  cases h
  have hm:=asC (lU h1).1
  have B:=I.Wn.one (i:=(k - 1).toNat) (e:=.torn p.toNat) fun b hb=>by
   rw[(lU h1).1]at hb
   cases hb
   exact⟨ac8 (I.ear b0 hm) h4,I.due b0 hm,I.rt b0 hm⟩
  exact I.of (by omega) (I.gr.same rfl rfl) (by show c.al.length<=_;omega) rfl rfl I.held (by rw[wu];simp[cost,dX];omega) I.hE ⟨B.g,fun b hb=>by have:=B.en b hb;omega⟩
 |die k=>
  obtain⟨b0,h1,h2,h⟩:=Nm h
  cases h
  have hm:=asC (lU h1).1
  have B:=I.Wn.one (i:=(k - 1).toNat) (e:=.died) fun b hb=>by
   rw[(lU h1).1]at hb
   cases hb
   exact⟨I.ear b0 hm,I.due b0 hm,fun z=>by cases z⟩
  exact I.of (by omega) (I.gr.same rfl rfl) (by show c.al.length<=_;omega) rfl rfl I.held (by rw[wu];simp[cost,dX];omega) I.hE ⟨B.g,fun b hb=>by have:=B.en b hb;omega⟩
 |sell k o=>
  obtain⟨b0,e0,h1,h2,h3,h⟩:=Ql h
  obtain⟨h4,h⟩:=yI h
  obtain⟨h5,h⟩:=xV h
  obtain⟨h6,h⟩:=Av h
  have h:=NQ h
  cases h
  have hm:=asC (lU h1).1
  obtain⟨r,q4,q5⟩:=I.mk1 h6
  have je:=Fl (I.ear b0 hm) q5
  generalize gA b0.sd.ear (firstM c o b0.sd.g)=e at je ⊢
  have B:=I.Wn.one (i:=(k - 1).toNat) (e:=.sold o e) fun b hb=>by
   rw[(lU h1).1]at hb
   cases hb
   exact⟨je,fun e z=>(by cases z;exact je),fun _=>yO.mp h6⟩
  have B2:=B.many (p:=fun x=>sO k x&&x.sd.al) (e:=.followed o b0.sd.g) fun b hb _=>⟨(B.g b hb).1,(B.g b hb).2.1,fun _=>yO.mp h6⟩
  exact I.of (by omega) (I.gr.same rfl rfl) (by show c.al.length<=_;omega) rfl rfl I.held (by rw[R9,wu];simp[cost,dX,j6,nH];omega) I.hE ⟨B2.g,fun b hb=>by have:=B2.en b hb;omega⟩
 |move k g=>
  obtain⟨b0,e0,h1,h2,h3,h⟩:=Ql h
  obtain⟨h4,h⟩:=Ag h
  obtain⟨h5,h⟩:=xV h
  obtain⟨h6,h⟩:=Av h
  have h:=NQ h
  cases h
  have hm:=asC (lU h1).1
  have B:=I.Wn.one (i:=(k - 1).toNat) (e:=.moved g) fun b hb=>by
   rw[(lU h1).1]at hb
   cases hb
   exact⟨I.ear b0 hm,I.due b0 hm,fun _=>yO.mp h6⟩
  have B2:=B.many (p:=fun x=>sO k x&&x.sd.al) (e:=.followed b0.sd.o g) fun b hb _=>⟨(B.g b hb).1,(B.g b hb).2.1,fun _=>yO.mp h6⟩
  exact I.of (by omega) (I.gr.same rfl rfl) (by show c.al.length<=_;omega) rfl rfl I.held (by rw[R9,wu];simp[cost,dX,j6,nH];omega) I.hE ⟨B2.g,fun b hb=>by have:=B2.en b hb;omega⟩
 |zW x y=>
  obtain⟨h1,h⟩:=Ag h
  obtain⟨h2,h⟩:=Ag h
  obtain⟨h3,h⟩:=xV h
  split at h
  ·cases h
  ·cases h
   exact I.of (by omega) (I.gr.zW h2 h1 h3) (by show c.al.length<=_;omega) rfl rfl I.held (by show c.held.length+c.bs.length<=_;omega) I.hE ⟨up.g,up.en⟩
 |part x=>
  obtain⟨h1,h⟩:=Ag h
  obtain⟨h3,h⟩:=xV h
  cases h
  exact I.of (by omega) (I.gr.part h1) (by show c.al.length<=_;omega) rfl rfl I.held (by show c.held.length+c.bs.length<=_;omega) I.hE ⟨up.g,up.en⟩
 |pass e h'=>
  obtain⟨h1,h⟩:=yI h
  obtain⟨h2,h⟩:=yI h
  obtain⟨h3,h⟩:=xV h
  cases h
  have hin:∀r∈c.held,Cp e h' r∈handed c e h':=fun r hr=>(Pg _ _).mpr (.inr (asJ.mpr ⟨r,hr,rfl⟩))
  have hout:∀r∈handed c e h',∃r0∈c.held,Cp e h' r0=r:=fun r hr=>by
   rcases(Pg _ _).mp hr with z|z
   ·cases z
   ·obtain⟨r0,z1,z2⟩:=asJ.mp z
    exact⟨r0,z1,z2⟩
  have hl:(handed c e h').length<=c.held.length:=by
   have:=Ys (c.held.map (Cp e h')) []
   simpa [handed] using this
  have ow:∀o,o∈c.own.filter (fun o=>!(o==e))↔o∈c.own/\o≠e:=fun o=>by
   rw[asY]
   simp
  have g:∀b∈(nH (fun b=>(b.sd.o==e)&&b.sd.al) (.passed h') c).bs,Good (handed c e h') b.sd:=fun b hb=>by
   obtain⟨b0,hb0,rfl⟩:=asJ.mp hb
   have G:=up.g b0 hb0
   cases hp:((b0.sd.o==e)&&b0.sd.al) with
   |true=>
    simp only[hp,if_true]
    refine⟨G.1,G.2.1,fun hal=>?_⟩
    obtain⟨m,hm⟩:=G.2.2 hal
    have:=hin _ hm
    simp at hp
    rw[hp.1]at this
    exact⟨m,by simpa [Cp,lF,go] using this⟩
   |false=>
    simp only[hp]
    refine⟨G.1,G.2.1,fun hal=>?_⟩
    obtain⟨m,hm⟩:=G.2.2 hal
    have:=hin _ hm
    have hal:b0.sd.al=true:=hal
    rw[hal]at hp
    simp at hp
    exact⟨m,by simpa [Cp,hp] using this⟩
  have en:∀b∈(nH (fun b=>(b.sd.o==e)&&b.sd.al) (.passed h') c).bs,b.en.length<=2 * (n+1):=fun b hb=>by
   obtain⟨b0,hb0,rfl⟩:=asJ.mp hb
   have:=I.en b0 hb0
   dsimp only
   split
   ·simp[lF]
    omega
   ·omega
  refine⟨I.gr.same rfl rfl,by show c.al.length<=_;omega,⟨C0.1,by show c.count<=_;omega⟩,fun o ho=>I.own o ((ow o).mp ho).1,I.Pk.filter _,?_,Rb _ _ (by simp),?_,fun r hr=>?_,fun b hb=>(g b hb).1,fun b hb=>(g b hb).2.1,en,fun b hb=>(g b hb).2.2⟩
  ·show(c.own.filter _).length<=_
   have:=asQ (fun o=>!(o==e)) c.own
   omega
  ·show(handed c e h').length+(nH _ _ c).bs.length<=_
   simp[nH]
   omega
  ·obtain⟨r0,z1,rfl⟩:=hout r hr
   obtain⟨q1,q2,q3⟩:=I.hE r0 z1
   refine⟨(ow _).mpr ?_,q2,q3⟩
   unfold Cp
   by_cases z:r0.1=e
   ·simp only[z,if_true]
    exact⟨h2,fun q=>h3 q.symm⟩
   ·simp only[z,if_false]
    exact⟨q1,z⟩
 |heir e g x=>
  obtain⟨h1,h⟩:=yI h
  obtain⟨h2,h⟩:=Ag h
  obtain⟨h3,h⟩:=T7 h
  obtain⟨h4,h⟩:=Av h
  split at h
  ·next mk hmk=>
   cases h
   obtain⟨r,q4,q5⟩:=I.mk1 h4
   have hme:cX mk=true:=W8 q5 ⟨by omega,h3.2⟩ (asY.mp (List.mem_of_find?_eq_some hmk)).1
   refine⟨I.gr.same rfl rfl,by show c.al.length<=_;omega,⟨by show 0<=c.count+1;omega,by show c.count+1<=((n+1:Nat):Int);omega⟩,fun o ho=>?_,?_,by simp;omega,?_,by simp[cost];omega,fun r hr=>?_,I.ear,I.due,up.en,fun b hb hal=>?_⟩
   ·show 1<=o/\o<=c.count+1
    rcases asO.mp ho with ho|ho
    ·have:=I.own o ho
     omega
    ·rw[asB.mp ho]
     omega
   ·rw[atl]
    refine⟨I.Pk,by simp,fun a ha b hb e=>?_⟩
    rw[asB.mp hb]at e
    have:=I.own a ha
    omega
   ·rw[atl]
    refine⟨I.held,by simp,fun a ha b hb e=>?_⟩
    rw[asB.mp hb]at e
    have:=I.own _ (I.hE a ha).1
    rw[e]at this
    simp at this
    omega
   ·rcases asO.mp hr with hr|hr
    ·obtain⟨z1,z2,z3⟩:=I.hE r hr
     exact⟨atf _ z1,z2,z3⟩
    ·rw[asB.mp hr]
     exact⟨atD _ (by simp),h2,hme⟩
   ·obtain⟨m,hm⟩:=I.rt b hb hal
    exact⟨m,atf _ hm⟩
  ·cases h
def nB(x:Int):Bool:=decide (0<=x)&&decide (x<=999999999)
def plB(x:Int):Bool:=decide (0<=x)&&decide (x<=5)
theorem m7(M:Mo)(x:Int):iU M [.str "number",.int x]=.ok (.bool (nB x)):=by
 by_cases h:0<=x <;> simp[iU,vB,oY,iY,yV,Bq,h,nB]
theorem iW(M:Mo)(x:Int):iU M [.str "place",.int x]=.ok (.bool (plB x)):=by
 by_cases h:0<=x <;> simp[iU,vB,oY,iY,yV,Bq,h,plB]
theorem afg(M:Mo)(x:List Int)(h:x.length<=1000):iU M [.str "ear",aJ x]=.ok (.bool (cX x)):=by
 have:=Wh M x h
 simp[iU,vB,yV,Bq,this]
def fG:bJ->Bool
 |.owner=>true
 |.ground x=>nB x
 |.enrol o g m=>nB o&&nB g&&cX m
 |.leave o g=>nB o&&nB g
 |.bring o g m=>nB o&&nB g&&cX m
 |.bear k=>nB k
 |.cut k=>nB k
 |.tear k p=>nB k&&plB p
 |.sell k o=>nB k&&nB o
 |.move k g=>nB k&&nB g
 |.die k=>nB k
 |.zW x y=>nB x&&nB y
 |.part x=>nB x
 |.pass e h=>nB e&&nB h
 |.heir e g x=>nB e&&nB g&&nB x
def Eu:bJ->Prop
 |.enrol _ _ m=>m.length<=1000
 |.bring _ _ m=>m.length<=1000
 |_=>True
theorem iZ(M:Mo)(w:Str)(T:List (Str×Dat×Bool))(hk:(zQ zu).lookup w=some (.tuple (T.map fun t=>.str t.1)))(hl:T.length<=10)(hp:∀t∈T,iU M [.str t.1,t.2.1]=.ok (.bool t.2.2)):Gz M [.tuple (.str w::T.map fun t=>t.2.1)]=.ok (.bool (T.all fun t=>t.2.2)):=by
 have hs:Rf.cutD (PyData.str w::T.map fun t=>t.2.1) (some 1) none=T.map fun t=>t.2.1:=PB _ 1
 have hz:wY (T.map fun t=>PyData.str t.1) (T.map fun t=>t.2.1)=T.map fun t=>.tuple [.str t.1,t.2.1]:=by
  unfold wY
  rw[List.zipWith_map_left,List.zipWith_map_right,List.zipWith_self]
 have key:=fj (tg:=bF [3,4]) (te:=aR iU (ak (aq 3) (ak (aq 4) au))) (M:=M) (ρ:=[some (.dat (.tuple (.str w::T.map fun t=>t.2.1))),some (.dat (.tuple (T.map fun t=>.str t.1))),some (.dat (.tuple (T.map fun t=>t.2.1))),none,none]) (fun(t:Str×Dat×Bool)=>PyData.tuple [.str t.1,t.2.1]) (fun t=>.bool t.2.2) T fun t ht=>⟨[some (.dat (.tuple (.str w::T.map fun t=>t.2.1))),some (.dat (.tuple (T.map fun t=>.str t.1))),some (.dat (.tuple (T.map fun t=>t.2.1))),some (.dat (.str t.1)),some (.dat t.2.1)],by simp,by simp[hp t ht]⟩
 have ha:O8 (.list (T.map fun t=>PyData.bool t.2.2))=.ok (.bool (T.all fun t=>t.2.2)):=by
  have e:(T.map fun t=>PyData.bool t.2.2)=(T.map fun t=>t.2.2).map PyData.bool:=by rw[as8];rfl
  rw[e]
  show(match uQ _ with
   |some bs=>Out.ok (PyData.bool (bs.all id))
   |none=>.bad)=_
  rw[Fp]
  simp[List.all_map,asU]
 have hl2:T.length<=50000:=by omega
 have hne:¬(T.length:Int)+1=0:=by omega
 simp[Gz,YX,hk,hs,hz,key,hl2,ha,hne]
theorem abN(M:Mo)(d:bJ)(hd:Eu d):Gz M [d.dat]=.ok (.bool (fG d)):=by
 cases d with
 |owner=>simpa [fG,bJ.dat,Bool.and_assoc] using iZ M "owner" [] (by rfl) (by simp) (by simp[m7,iW])
 |ground x=>simpa [fG,bJ.dat,Bool.and_assoc] using iZ M "ground" [("number",.int x,nB x)] (by rfl) (by simp) (by simp[m7,iW])
 |enrol o g m=>simpa [fG,bJ.dat,Bool.and_assoc] using iZ M "enrol" [("number",.int o,nB o),("number",.int g,nB g),("ear",aJ m,cX m)] (by rfl) (by simp) (by simp[m7,iW,afg M m hd])
 |leave o g=>simpa [fG,bJ.dat,Bool.and_assoc] using iZ M "leave" [("number",.int o,nB o),("number",.int g,nB g)] (by rfl) (by simp) (by simp[m7,iW])
 |bring o g m=>simpa [fG,bJ.dat,Bool.and_assoc] using iZ M "bring" [("number",.int o,nB o),("number",.int g,nB g),("ear",aJ m,cX m)] (by rfl) (by simp) (by simp[m7,iW,afg M m hd])
 |bear k=>simpa [fG,bJ.dat,Bool.and_assoc] using iZ M "bear" [("number",.int k,nB k)] (by rfl) (by simp) (by simp[m7,iW])
 |cut k=>simpa [fG,bJ.dat,Bool.and_assoc] using iZ M "cut" [("number",.int k,nB k)] (by rfl) (by simp) (by simp[m7,iW])
 |tear k p=>simpa [fG,bJ.dat,Bool.and_assoc] using iZ M "tear" [("number",.int k,nB k),("place",.int p,plB p)] (by rfl) (by simp) (by simp[m7,iW])
 |sell k o=>simpa [fG,bJ.dat,Bool.and_assoc] using iZ M "sell" [("number",.int k,nB k),("number",.int o,nB o)] (by rfl) (by simp) (by simp[m7,iW])
 |move k g=>simpa [fG,bJ.dat,Bool.and_assoc] using iZ M "move" [("number",.int k,nB k),("number",.int g,nB g)] (by rfl) (by simp) (by simp[m7,iW])
 |die k=>simpa [fG,bJ.dat,Bool.and_assoc] using iZ M "die" [("number",.int k,nB k)] (by rfl) (by simp) (by simp[m7,iW])
 |zW x y=>simpa [fG,bJ.dat,Bool.and_assoc] using iZ M "unite" [("number",.int x,nB x),("number",.int y,nB y)] (by rfl) (by simp) (by simp[m7,iW])
 |part x=>simpa [fG,bJ.dat,Bool.and_assoc] using iZ M "part" [("number",.int x,nB x)] (by rfl) (by simp) (by simp[m7,iW])
 |pass e h=>simpa [fG,bJ.dat,Bool.and_assoc] using iZ M "pass" [("number",.int e,nB e),("number",.int h,nB h)] (by rfl) (by simp) (by simp[m7,iW])
 |heir e g x=>simpa [fG,bJ.dat,Bool.and_assoc] using iZ M "heir" [("number",.int e,nB e),("number",.int g,nB g),("number",.int x,nB x)] (by rfl) (by simp) (by simp[m7,iW])
theorem jY{M:Mo}{L:Lay}{o o':bx Dat}{r:Res}(h:Sp M L o r)(e:o'=o):Sp M L o' r:=e ▸ h
section
variable{M:Mo}{L:Lay}{c:aM}(a:At M L c){n s:Nat}(I:Inv n s c)(hs:s<=76)(hn:n<=199)
include a I hs hn
theorem amD(d:bJ)(hd:Eu d)(hf:fG d=true):Sp M L (cD M [ob L.c,d.dat]) (cG c d):=by
 have hc:=a.hc
 have h0:=abN M d hd
 rw[hf]at h0
 cases d with
 |owner=>
  simp only[bJ.dat]at h0 ⊢
  refine jY (aia a I hn) ?_
  simp[cD,cR,h0,hc,aQ,gU]
  cases iI M _ <;> rfl
 |ground x=>
  simp only[bJ.dat]at h0 ⊢
  refine jY (afI a I hn x) ?_
  simp[cD,cR,h0,hc,aQ,pK]
  cases gM M _ <;> rfl
 |enrol o g m=>
  simp only[bJ.dat]at h0 ⊢
  refine jY (ai9 a I hs o g m hd) ?_
  simp[cD,cR,h0,hc,aQ,wA]
  cases dY M _ <;> rfl
 |leave o g=>
  simp only[bJ.dat]at h0 ⊢
  refine jY (ahY a I hs o g) ?_
  simp[cD,cR,h0,hc,aQ,wz]
  cases gj M _ <;> rfl
 |bring o g m=>
  simp only[bJ.dat]at h0 ⊢
  refine jY (aif a I hs o g m hd) ?_
  simp[cD,cR,h0,hc,aQ,wB]
  cases fY M _ <;> rfl
 |bear k=>
  simp only[bJ.dat]at h0 ⊢
  refine jY (alV a I hs k) ?_
  simp[cD,cR,h0,hc,aQ,yd]
  cases jh M _ <;> rfl
 |cut k=>
  simp only[bJ.dat]at h0 ⊢
  refine jY (ane a I hs (by omega) k) ?_
  simp[cD,cR,h0,hc,aQ,yU]
  cases jN M _ <;> rfl
 |tear k p=>
  simp only[bJ.dat]at h0 ⊢
  refine jY (akt a I hs k p (by omega)) ?_
  simp[cD,cR,h0,hc,aQ,xH]
  cases fP M _ <;> rfl
 |sell k o=>
  simp only[bJ.dat]at h0 ⊢
  refine jY (ajq a I hs (by omega) k o) ?_
  simp[cD,cR,h0,hc,aQ,yx]
  cases dN M _ <;> rfl
 |move k g=>
  simp only[bJ.dat]at h0 ⊢
  refine jY (adQ a I hs (by omega) k g) ?_
  simp[cD,cR,h0,hc,aQ,iz]
  cases dJ M _ <;> rfl
 |die k=>
  simp only[bJ.dat]at h0 ⊢
  refine jY (amn a I hs k (by omega)) ?_
  simp[cD,cR,h0,hc,aQ,za]
  cases lJ M _ <;> rfl
 |zW x y=>
  simp only[bJ.dat]at h0 ⊢
  refine jY (aiN a I hs (by omega) x y) ?_
  simp[cD,cR,h0,hc,aQ,wH]
  cases gq M _ <;> rfl
 |part x=>
  simp only[bJ.dat]at h0 ⊢
  refine jY (alM a I hs (by omega) x) ?_
  simp[cD,cR,h0,hc,aQ,wW]
  cases j5 M _ <;> rfl
 |pass e h=>
  simp only[bJ.dat]at h0 ⊢
  refine jY (aj3 a I hs (by omega) e h) ?_
  simp[cD,cR,h0,hc,aQ,uE]
  cases fW M _ <;> rfl
 |heir e g x=>
  simp only[bJ.dat]at h0 ⊢
  refine jY (akZ a I hs (by omega) e g x) ?_
  simp[cD,cR,h0,hc,aQ,rG]
  cases cW M _ <;> rfl
end
theorem afR{c:aM}{d:bJ}{x:dD}(h:cG c d=.no x):pN.lookup x.cls=some true:=by
 cases d <;> simp only[cG,tZ,uX,Ks,lu,rO,uo,markB,pW]at h <;> (repeat' split at h) <;> cases h <;> simp[pN]
def aci:bJ->Nat
 |.owner=>1
 |.heir ..=>1
 |_=>0
def dGr:bJ->Nat
 |.ground _=>1
 |_=>0
def dBs:bJ->Nat
 |.bring ..=>1
 |.bear _=>1
 |_=>0
theorem abb{c c':aM}{d:bJ}{r:Dat}(h:cG c d=.ok r c'):c'.count=c.count+(aci d:Int)/\c'.al.length=c.al.length+dGr d/\c'.bs.length=c.bs.length+dBs d/\(gR .none r=true->aci d=0/\dGr d=0/\dBs d=0):=by
 cases d <;> simp only[cG,tZ,uX,Ks,lu,rO,uo,markB]at h <;> (repeat' split at h) <;> cases h <;> simp[aci,dGr,dBs,gR,dX,j6,nH,lI]
def uH(c:aM)(d:bJ):aM:=match cG c d with
 |.ok _ c'=>c'
 |.no _=>c
def dG(c:aM):Dat:=.tuple [.int c.count,.int c.al.length,.int c.bs.length]
section
variable{M:Mo}{L:Lay}{c:aM}(a:At M L c){n s:Nat}(I:Inv n s c)(hs:s<=76)(hn:n<=199)
include I hn
omit hn in
theorem agA(d:bJ)(hn:n<=199):Inv (n+1) (s+cost d) (uH c d):=by
 unfold uH
 cases h:cG c d with
 |ok r c'=>exact Yl I hn h
 |no x=>
  have h1:=I.hL
  have h2:=I.al
  exact I.of (by omega) I.gr (by show c.al.length<=_;omega) rfl rfl I.held (by show c.held.length+c.bs.length<=_;omega) I.hE ⟨I.Wn.g,fun b hb=>by have:=I.en b hb;omega⟩
include a hs
theorem ai2(d:bJ)(hd:Eu d)(hf:fG d=true):∃M' bs,fL M [ob L.c,d.dat,dG c]=.ok (dG (uH c d)) M'/\At M' { L with bs:=bs } (uH c d):=by
 have hc:=a.hc
 have h0:=amD a I hs hn d hd hf
 unfold uH
 cases e:cG c d with
 |no x=>
  rw[e]at h0
  have h0:_=_:=h0
  have h1:=afR e
  exact⟨M,L.bs,by simp[fL,Hu,hc,aQ,ou,h0,h1,gR],a⟩
 |ok r c'=>
  rw[e]at h0
  obtain⟨M',bs,h0,h2⟩:=h0
  obtain⟨q1,q2,q3,q4⟩:=abb e
  refine⟨M',bs,?_,h2⟩
  have e1:(c'.al.length:Int)=c.al.length+(dGr d:Int):=by omega
  have e2:(c'.bs.length:Int)=c.bs.length+(dBs d:Int):=by omega
  cases hr:gR .none r with
  |true=>
   obtain⟨z1,z2,z3⟩:=q4 hr
   simp[z1,z2,z3]at q1 e1 e2
   simp[fL,Hu,hc,aQ,ou,h0,hr,dG,q1,e1,e2]
  |false=>
   clear q4 q2 q3 e hf hd
   cases d <;> simp[aci,dGr,dBs]at q1 e1 e2 <;> simp[fL,Hu,hc,aQ,ou,h0,hr,dG,q1,e1,e2] <;> simp[bJ.dat]
end
def N6(f:Int):Int:=if f=9 then -1 else if f=8 then 3 else if f=7 then 2 else if f=6 then 1 else if f=5 then 1 else 0
def Ny(d f:Int):Int:=QS 0 (if d+N6 f < 9 then d+N6 f else 9)
def R7(x f:List Int):List Int:=(x.zip f).map fun p=>Ny p.1 p.2
theorem afb(M:Mo)(x0 x1:Option Cell)(acc:List Dat)(d f:Int)(x5:Option Cell)(hf:0<=f/\f < 10)(hl:acc.length < 1000):∃x5',Pb M [x0,x1,some (.mut acc),some (.dat (.int d)),some (.dat (.int f)),x5]=.next [x0,x1,some (.mut (acc++[.int (Ny d f)])),some (.dat (.int d)),some (.dat (.int f)),x5'] M:=by
 have hl2:acc.length < 100000:=by omega
 have key:∀k:Nat,k < 10->([0,0,0,0,0,1,1,2,3,-1]:List Int)[k]?=some (N6 k):=by decide
 obtain⟨k,rfl⟩:∃k:Nat,f=k:=⟨f.toNat,by omega⟩
 have hk:=key k (by omega)
 have h2:atI (([0,0,0,0,0,1,1,2,3,-1]:List Int).map PyData.int) (k:Int)=some (.int (N6 k)):=atI_nat (by rw[asI,hk];rfl)
 refine⟨some (.dat (.int (N6 k))),?_⟩
 have h3:aV (aF 5) (gOf (aA aH (bh (ak (qC (.int 0)) (ak (qC (.int 0)) (ak (qC (.int 0)) (ak (qC (.int 0)) (ak (qC (.int 0)) (ak (qC (.int 1)) (ak (qC (.int 1)) (ak (qC (.int 2)) (ak (qC (.int 3)) (ak (dZ QJ (qC (.int 1))) au))))))))))) (ao 4))) M [x0,x1,some (.mut acc),some (.dat (.int d)),some (.dat (.int k)),x5]=.next [x0,x1,some (.mut acc),some (.dat (.int d)),some (.dat (.int k)),some (.dat (.int (N6 k)))] M:=by
  show(((match atI (([0,0,0,0,0,1,1,2,3,-1]:List Int).map PyData.int) (k:Int) with
   |some d=>Out.ok d
   |none=>.bad).at M).then _ fun d M'=>_)=_
  rw[h2]
  rfl
 show aC _ _ _ _=_
 rw[ajQ,h3]
 simp[hl2,Ny,QS]
theorem Ws(M:Mo)(x0 x1:Option Cell):∀(ps:List (Int×Int)) (acc:List Dat) (x3 x4 x5:Option Cell),(∀p∈ps,0<=p.2/\p.2 < 10)->acc.length+ps.length<=500->∃x3' x4' x5',eZ (bF [3,4]) Pb (ps.map pD) M [x0,x1,some (.mut acc),x3,x4,x5]=.next [x0,x1,some (.mut (acc++ps.map fun p=>.int (Ny p.1 p.2))),x3',x4',x5'] M
 |[],acc,x3,x4,x5,_,_=>⟨x3,x4,x5,by simp[eZ]⟩
 |p::ps,acc,x3,x4,x5,h,hl=>by
  rw[asM]at hl
  obtain⟨x5',e⟩:=afb M x0 x1 acc p.1 p.2 x5 (h p asz) (by omega)
  obtain⟨y3,y4,y5,ih⟩:=Ws M x0 x1 ps (acc++[.int (Ny p.1 p.2)]) (some (.dat (.int p.1))) (some (.dat (.int p.2))) x5' (fun q hq=>h q (asy _ hq)) (by simp;omega)
  refine⟨y3,y4,y5,?_⟩
  rw[asx,gK (ρ1:=[x0,x1,some (.mut acc),some (.dat (.int p.1)),some (.dat (.int p.2)),x5]) (by simp[pD]) e,ih]
  simp
theorem aiQ(M:Mo)(x f:List Int)(hx:x.length<=100)(hf:∀d∈f,0<=d/\d < 10):Mw M [aJ x,lI f]=.ok (aJ (R7 x f)):=by
 obtain⟨y3,y4,y5,e⟩:=Ws M (some (.dat (aJ x))) (some (.dat (lI f))) (x.zip f) [] none none none (fun p hp=>hf _ (List.of_mem_zip hp).2) (by simp;omega)
 simp[Mw,YJ,yP,e,R7]
def Hl(f:List Int)(m:Int)(x:List Int):List Int:=if m < 4 then R7 x f else zM f m
theorem ac2(M:Mo)(x f:List Int)(m:Int)(hx:x.length<=100)(hl:f.length<=1000)(hf:∀d∈f,0<=d/\d < 10):wO M [lI f,.int m,aJ x]=.ok (aJ (Hl f m x)):=by
 have h1:=aiQ M x f hx hf
 have h2:=WM M f m hl
 unfold Hl
 by_cases h:m < 4 <;> simp[wO,Kv,h,h1,h2]
theorem ab7{x:List Int}(h:x.length=6)(h2:∀d∈x,0<=d/\d < 10):cX x=true:=by
 unfold cX
 simp only[asu,decide_eq_true_eq,asV]
 refine⟨h,fun d hd=>?_⟩
 have:=h2 d hd
 omega
theorem aer{x f:List Int}(hx:x.length=6)(hf:f.length=6):cX (R7 x f)=true:=by
 refine ab7 (by simp[R7];omega) fun d hd=>?_
 obtain⟨p,hp,rfl⟩:=asJ.mp hd
 unfold Ny QS
 split <;> split <;> omega
theorem adi{f x:List Int}{m:Int}(hx:x.length=6)(hl:f.length=6)(hf:∀d∈f,0<=d/\d < 10):cX (Hl f m x)=true:=by
 unfold Hl
 split
 ·exact aer hx hl
 ·refine ab7 ?_ (agK hf)
  unfold zM
  split
  ·simpa using hl
  ·split
   ·simpa using hl
   ·exact hl
def lA(f many:Int)(sure:Bool):Int:=if sure then 1+f % (if many > 1 then many else 1) else f % (many+2)
theorem Za(M:Mo)(f many:Int)(sure:Bool)(hm:0<=many):jR M [.int f,.int many,.bool sure]=.ok (.int (lA f many sure)):=by
 have h2:0 < many+2:=by omega
 have h3:0 < (if 1 < many then many else 1):=by split <;> omega
 cases sure
 ·simp[jR,Yd,lA,h2]
 ·simp[jR,Yd,lA,h3]
theorem CK{f many:Int}{sure:Bool}(hf:0<=f/\f<=1000)(hm:0<=many):nB (lA f many sure)=true:=by
 unfold lA nB
 have key:∀m:Int,0 < m->0<=f % m/\f % m<=f:=fun m h=>⟨Int.emod_nonneg _ (by omega),by
  have h1:=Int.mul_ediv_add_emod f m
  have h2:=Int.mul_nonneg (by omega:0<=m) (Int.ediv_nonneg hf.1 (by omega:0<=m))
  omega⟩
 simp only[asu,decide_eq_true_eq]
 cases sure
 ·have:=key (many+2) (by omega)
  simp
  omega
 ·have:=key (if many > 1 then many else 1) (by split <;> omega)
  simp only[if_true]
  omega
abbrev dd(M:Mo)(w:Str)(one two:Int)(p base:List Int)(n0 n1 n2:Int):Out Dat:=fM M [.str w,.int one,.int two,lI p,.tuple [.int n0,.int n1,.int n2],aJ base]
def eU(p:List Int):Bool:=!(p.getD 6 0==9)
def Jg(p base:List Int):List Int:=Hl (p.drop 8) (p.getD 7 0) base
def grT(f:Int):Int:=if f=9 then 8 else if f=8 then 7 else if f=7 then 6 else if f=6 then 5 else if f=5 then 1 else if f=4 then 0 else f
def HX(p base:List Int):List Int:=if p.getD 7 0 < 6 then[0,0,0,0,0,0] else Jg p base
structure Pts(p base:List Int):Prop where
 len:p.length=14
 dig:∀d∈p,0<=d/\d < 10
 base:base.length=6
theorem amY{p:List Int}(h:p.length=14):∃a b c d e f g i j k l m n o:Int,p=[a,b,c,d,e,f,g,i,j,k,l,m,n,o]:=by
 match p,h with
 |[a,b,c,d,e,f,g,i,j,k,l,m,n,o],_=>exact⟨a,b,c,d,e,f,g,i,j,k,l,m,n,o,rfl⟩
theorem Pts.mark{p base:List Int}(P:Pts p base):cX (Jg p base)=true:=adi P.base (by rw[atV,P.len]) fun d hd=>P.dig d (List.mem_of_mem_drop hd)
theorem Pts.bring{p base:List Int}(P:Pts p base):cX (HX p base)=true:=by
 unfold HX
 split
 ·decide
 ·exact P.mark
section
variable(M:Mo){p base:List Int}(P:Pts p base)(one two n0 n1 n2:Int)(h0:0<=n0)(h1:0<=n1)(h2:0<=n2)
include P h0 h1 h2
theorem Yk :
  dd M "owner" one two p base n0 n1 n2=.ok (bJ.dat (.owner))/\
  dd M "ground" one two p base n0 n1 n2=.ok (bJ.dat (.ground (grT (p.getD 7 0)+4 * (if eU p then 0 else 1))))/\
  dd M "enrol" one two p base n0 n1 n2=.ok (bJ.dat (.enrol (lA one n0 (eU p)) (lA two n1 (eU p)) (Jg p base)))/\
  dd M "bring" one two p base n0 n1 n2=.ok (bJ.dat (.bring (lA one n0 (eU p)) (lA two n1 (eU p)) (HX p base)))/\
  dd M "leave" one two p base n0 n1 n2=.ok (bJ.dat (.leave (lA one n0 (eU p)) (lA two n1 (eU p))))/\
  dd M "heir" one two p base n0 n1 n2=.ok (bJ.dat (.heir (lA one n0 (eU p)) (lA two n1 (eU p)) (p.getD 7 0 % 4)))/\
  dd M "pass" one two p base n0 n1 n2=.ok (bJ.dat (.pass (lA one n0 (eU p)) (lA two n0 (eU p))))/\
  dd M "unite" one two p base n0 n1 n2=.ok (bJ.dat (.zW (lA one n1 (eU p)) (lA two n1 (eU p))))/\
  dd M "part" one two p base n0 n1 n2=.ok (bJ.dat (.part (lA one n1 (eU p))))/\
  dd M "tear" one two p base n0 n1 n2=.ok (bJ.dat (.tear (lA one n2 (eU p)) (p.getD 7 0 % 6)))/\
  dd M "sell" one two p base n0 n1 n2=.ok (bJ.dat (.sell (lA one n2 (eU p)) (lA two n0 (eU p))))/\
  dd M "move" one two p base n0 n1 n2=.ok (bJ.dat (.move (lA one n2 (eU p)) (lA two n1 (eU p))))/\
  dd M "bear" one two p base n0 n1 n2=.ok (bJ.dat (.bear (lA one n2 (eU p))))/\
  dd M "cut" one two p base n0 n1 n2=.ok (bJ.dat (.cut (lA one n2 (eU p))))/\
  dd M "die" one two p base n0 n1 n2=.ok (bJ.dat (.die (lA one n2 (eU p)))):=by
 have hm:=ac2 M base (p.drop 8) (p.getD 7 0) (by rw[P.base];decide) (by rw[atV,P.len];decide) fun d hd=>P.dig d (List.mem_of_mem_drop hd)
 have hr0:=fun f=>Za M f n0 (eU p) h0
 have hr1:=fun f=>Za M f n1 (eU p) h1
 have hr2:=fun f=>Za M f n2 (eU p) h2
 have hd:=P.dig
 have hbr:HX p base=if p.getD 7 0 < 6 then[0,0,0,0,0,0] else Jg p base:=rfl
 have hmp:Jg p base=Hl (p.drop 8) (p.getD 7 0) base:=rfl
 have hsb:eU p=!(p.getD 6 0==9):=rfl
 obtain⟨x0,x1,x2,x3,x4,x5,x6,x7,x8,x9,x10,x11,x12,x13,rfl⟩:=amY P.len
 generalize hp:[x0,x1,x2,x3,x4,x5,x6,x7,x8,x9,x10,x11,x12,x13]=p at *
 have h6:p.getD 6 0=x6:=by rw[←hp];rfl
 have h7:p.getD 7 0=x7:=by rw[←hp];rfl
 have h8:p.drop 8=[x8,x9,x10,x11,x12,x13]:=by rw[←hp];rfl
 have hx7:=hd x7 (by rw[←hp];simp)
 rw[h7,h8]at hm hmp
 rw[h7]at hbr
 rw[h6]at hsb
 simp only[h7]
 generalize eU p=su at *
 generalize Jg p base=mk at *
 generalize HX p base=br at *
 have c1:Rf.cutD (p.map PyData.int) (some 8) (some 14)=[PyData.int x8,.int x9,.int x10,.int x11,.int x12,.int x13]:=by rw[←hp];rfl
 have c2:atI (p.map PyData.int) 7=some (.int x7):=by rw[←hp];rfl
 have c3:atI (p.map PyData.int) 6=some (.int x6):=by rw[←hp];rfl
 have hm:wO M [.list [PyData.int x8,.int x9,.int x10,.int x11,.int x12,.int x13],.int x7,aJ base]=.ok (aJ mk):=by rw[hmp];exact hm
 have key:∀k:Nat,k < 10->([0,1,2,3,0,1,5,6,7,8]:List Int)[k]?=some (grT k):=by decide
 have hk:atI (([0,1,2,3,0,1,5,6,7,8]:List Int).map PyData.int) x7=some (.int (grT x7)):=by
  obtain⟨k,rfl⟩:∃k:Nat,x7=k:=⟨x7.toNat,by omega⟩
  exact atI_nat (by rw[asI,key k (by omega)];rfl)
 simp at hk
 have hm4:∀z,decide (CMul 4 z)=true:=fun z=>ahi (by decide)
 clear hp hd P
 refine⟨?_,?_,?_,?_,?_,?_,?_,?_,?_,?_,?_,?_,?_,?_,?_⟩
 ·simp[dd,fM,jU,c1,c2,c3,hm,←hsb,hr0,hr1,hr2,bJ.dat]
 ·cases su <;> simp[dd,fM,jU,c1,c2,c3,hm,←hsb,hk,hm4,Rf.intD,bJ.dat]
 ·simp[dd,fM,jU,c1,c2,c3,hm,←hsb,hr0,hr1,hr2,bJ.dat]
 ·by_cases h76:x7 < 6
  ·rw[if_pos h76]at hbr
   simp[dd,fM,jU,c1,c2,c3,hm,←hsb,hr0,hr1,hr2,bJ.dat,h76,hbr]
  ·rw[if_neg h76]at hbr
   simp[dd,fM,jU,c1,c2,c3,hm,←hsb,hr0,hr1,hr2,bJ.dat,h76,hbr]
 ·simp[dd,fM,jU,c1,c2,c3,hm,←hsb,hr0,hr1,hr2,bJ.dat]
 ·simp[dd,fM,jU,c1,c2,c3,hm,←hsb,hr0,hr1,hr2,bJ.dat]
 ·simp[dd,fM,jU,c1,c2,c3,hm,←hsb,hr0,hr1,hr2,bJ.dat]
 ·simp[dd,fM,jU,c1,c2,c3,hm,←hsb,hr0,hr1,hr2,bJ.dat]
 ·simp[dd,fM,jU,c1,c2,c3,hm,←hsb,hr0,hr1,hr2,bJ.dat]
 ·simp[dd,fM,jU,c1,c2,c3,hm,←hsb,hr0,hr1,hr2,bJ.dat]
 ·simp[dd,fM,jU,c1,c2,c3,hm,←hsb,hr0,hr1,hr2,bJ.dat]
 ·simp[dd,fM,jU,c1,c2,c3,hm,←hsb,hr0,hr1,hr2,bJ.dat]
 ·simp[dd,fM,jU,c1,c2,c3,hm,←hsb,hr0,hr1,hr2,bJ.dat]
 ·simp[dd,fM,jU,c1,c2,c3,hm,←hsb,hr0,hr1,hr2,bJ.dat]
 ·simp[dd,fM,jU,c1,c2,c3,hm,←hsb,hr0,hr1,hr2,bJ.dat]
theorem ZK{w:Str}(hw:w∈(["owner","ground","enrol","bring","leave","heir","pass","unite","part","tear","sell","move","bear","cut","die"]:List Str))(ho:0<=one/\one<=1000)(ht:0<=two/\two<=1000):∃d:bJ,fM M [.str w,.int one,.int two,lI p,.tuple [.int n0,.int n1,.int n2],aJ base]=.ok d.dat/\fG d=true/\Eu d:=by
 have r10:=CK (f:=one) (sure:=eU p) ho h0
 have r11:=CK (f:=one) (sure:=eU p) ho h1
 have r12:=CK (f:=one) (sure:=eU p) ho h2
 have r20:=CK (f:=two) (sure:=eU p) ht h0
 have r21:=CK (f:=two) (sure:=eU p) ht h1
 have r22:=CK (f:=two) (sure:=eU p) ht h2
 have m1:=P.mark
 have m2:=P.bring
 have l1:(Jg p base).length<=1000:=by rw[gJ m1];decide
 have l2:(HX p base).length<=1000:=by rw[gJ m2];decide
 have h7:0<=p.getD 7 0/\p.getD 7 0 < 10:=P.dig _ (by
  have:=P.len
  rw[List.getD_eq_getElem?_getD,asw (by omega)]
  exact atj _)
 have q4:nB (p.getD 7 0 % 4)=true:=by unfold nB;simp only[asu,decide_eq_true_eq];omega
 have q6:plB (p.getD 7 0 % 6)=true:=by unfold plB;simp only[asu,decide_eq_true_eq];omega
 have qg:nB (grT (p.getD 7 0)+4 * (if eU p then 0 else 1))=true:=by
  unfold nB grT
  simp only[asu,decide_eq_true_eq]
  split <;> (repeat' split) <;> omega
 simp only[asN,atc,or_false]at hw
 obtain⟨d0,d1,d2,d3,d4,d5,d6,d7,d8,d9,d10,d11,d12,d13,d14⟩:=Yk M P one two n0 n1 n2 h0 h1 h2
 rcases hw with rfl|rfl|rfl|rfl|rfl|rfl|rfl|rfl|rfl|rfl|rfl|rfl|rfl|rfl|rfl
 ·exact⟨_,d0,by simp[fG,r10,r11,r12,r20,r21,r22,m1,m2,q4,q6,-List.getD_eq_getElem?_getD],by first | trivial | assumption⟩
 ·exact⟨_,d1,qg,by first | trivial | assumption⟩
 ·exact⟨_,d2,by simp[fG,r10,r11,r12,r20,r21,r22,m1,m2,q4,q6,-List.getD_eq_getElem?_getD],by first | trivial | assumption⟩
 ·exact⟨_,d3,by simp[fG,r10,r11,r12,r20,r21,r22,m1,m2,q4,q6,-List.getD_eq_getElem?_getD],by first | trivial | assumption⟩
 ·exact⟨_,d4,by simp[fG,r10,r11,r12,r20,r21,r22,m1,m2,q4,q6,-List.getD_eq_getElem?_getD],by first | trivial | assumption⟩
 ·exact⟨_,d5,by simp[fG,r10,r11,r12,r20,r21,r22,m1,m2,q4,q6,-List.getD_eq_getElem?_getD],by first | trivial | assumption⟩
 ·exact⟨_,d6,by simp[fG,r10,r11,r12,r20,r21,r22,m1,m2,q4,q6,-List.getD_eq_getElem?_getD],by first | trivial | assumption⟩
 ·exact⟨_,d7,by simp[fG,r10,r11,r12,r20,r21,r22,m1,m2,q4,q6,-List.getD_eq_getElem?_getD],by first | trivial | assumption⟩
 ·exact⟨_,d8,by simp[fG,r10,r11,r12,r20,r21,r22,m1,m2,q4,q6,-List.getD_eq_getElem?_getD],by first | trivial | assumption⟩
 ·exact⟨_,d9,by simp[fG,r10,r11,r12,r20,r21,r22,m1,m2,q4,q6,-List.getD_eq_getElem?_getD],by first | trivial | assumption⟩
 ·exact⟨_,d10,by simp[fG,r10,r11,r12,r20,r21,r22,m1,m2,q4,q6,-List.getD_eq_getElem?_getD],by first | trivial | assumption⟩
 ·exact⟨_,d11,by simp[fG,r10,r11,r12,r20,r21,r22,m1,m2,q4,q6,-List.getD_eq_getElem?_getD],by first | trivial | assumption⟩
 ·exact⟨_,d12,by simp[fG,r10,r11,r12,r20,r21,r22,m1,m2,q4,q6,-List.getD_eq_getElem?_getD],by first | trivial | assumption⟩
 ·exact⟨_,d13,by simp[fG,r10,r11,r12,r20,r21,r22,m1,m2,q4,q6,-List.getD_eq_getElem?_getD],by first | trivial | assumption⟩
 ·exact⟨_,d14,by simp[fG,r10,r11,r12,r20,r21,r22,m1,m2,q4,q6,-List.getD_eq_getElem?_getD],by first | trivial | assumption⟩
end
abbrev words:List Str:=["owner","ground","enrol","bring","leave","heir","pass","unite","part","tear","sell","move","bear","cut","die"]
def WW:List Str:=["tear","cut","bring","sell","move","enrol","bear","tear","cut","sell","move","unite","part","heir","pass","die","leave","ground","owner","enrol","tear","sell","bring","bear","cut"]
theorem aic(M:Mo)(f:Int):∃w∈words,Bg M [.int f]=.ok (.str w):=by
 have h1:0<=f % 25/\f % 25 < 25:=by omega
 obtain⟨k,hk⟩:∃k:Nat,f % 25=k:=⟨(f % 25).toNat,by omega⟩
 have hl:k < WW.length:=by show k < 25;omega
 have h2:atI (WW.map PyData.str) (k:Int)=some (.str WW[k]):=atI_nat (by rw[asI,asw hl];rfl)
 have h3:∀w∈WW,w∈words:=by simp[WW]
 refine⟨WW[k],h3 _ (atj hl),?_⟩
 generalize WW[k]=z at h2
 simp[WW]at h2
 simp[Bg,Mj,hk,h2]
def yt(h:Int):List (Str×Int×Int):=if h % 8=7 then[] else[("ground",0,0),("owner",0,0),("owner",0,0),("enrol",0,0),("enrol",1,0),("bring",0,0),("cut",0,0),("bring",1,0),("cut",1,0),("ground",0,0),("enrol",0,1)]
def Ji(r:Str×Int×Int):Dat:=.tuple [.str r.1,.int r.2.1,.int r.2.2]
theorem aeG(M:Mo)(h:Int):vL M [.int h]=.ok (.list ((yt h).map Ji)):=by
 unfold yt
 by_cases e:h % 8=7 <;> simp[vL,Ge,e,Ji]
theorem ahG{h:Int}:∀r∈yt h,r.1∈words/\(0<=r.2.1/\r.2.1<=1000)/\0<=r.2.2/\r.2.2<=1000:=by
 unfold yt
 split
 ·simp
 ·simp
inductive Rch:Nat->aM->Prop where
 |nil:Rch 0 ⟨0,[],[],[],[],[]⟩
 |step {n:Nat} {c:aM} (d:bJ):Rch n c->fG d=true->Rch (n+1) (uH c d)
 |le {n m:Nat} {c:aM}:Rch n c->n<=m->Rch m c
theorem Inv.mono{n s n' s':Nat}{c:aM}(I:Inv n s c)(h1:n<=n')(h2:s<=s'):Inv n' s' c:=
 I.of h1 I.gr (as5 I.al h1) rfl rfl I.held (as5 I.hL h2) I.hE ⟨I.Wn.g,fun b hb=>by have:=I.en b hb;omega⟩
theorem aiV(d:bJ):cost d<=1:=by cases d <;> simp[cost]
theorem anY:Inv 0 0 ⟨0,[],[],[],[],[]⟩:=⟨⟨rfl,by simp,by simp,by simp,by simp,by simp,by simp⟩,by simp,by simp,by simp,by simp,by simp,by simp,by simp,by simp,by simp,by simp,by simp,by simp⟩
structure Now(M:Mo)(L:Lay)(n s:Nat)(c:aM):Prop where
 at_:At M L c
 inv:Inv n s c
 rch:Rch n c
theorem Now.done{M:Mo}{L:Lay}{n s:Nat}{c:aM}(N:Now M L n s c)(hs:s<=76)(hn:n<=199)(d:bJ)(hd:Eu d)(hf:fG d=true):∃M' bs,fL M [ob L.c,d.dat,dG c]=.ok (dG (uH c d)) M'/\Now M' { L with bs:=bs } (n+1) (s+cost d) (uH c d):=by
 obtain⟨M',bs,h1,h2⟩:=ai2 N.at_ N.inv hs hn d hd hf
 exact⟨M',bs,h1,h2,agA N.inv d hn,.step d N.rch hf⟩
theorem abG(x:Int){base:List Int}(h:base.length=6):Pts (rowOf x 14 10) base:=⟨ab3 ..,aeR (by decide) _ _,h⟩
theorem vM(x:Int)(k:Nat)(h:k < 14):atI ((rowOf x 14 10).map PyData.int) (k:Int)=some (.int ((rowOf x 14 10).getD k 0))/\0<=(rowOf x 14 10).getD k 0/\(rowOf x 14 10).getD k 0<=9:=by
 have hl:k < (rowOf x 14 10).length:=by rw[ab3];exact h
 refine⟨Y9 _ k hl,?_⟩
 rw[List.getD_eq_getElem?_getD,asw hl]
 have:=aeR (by decide) x 14 _ (atj hl)
 simp
 omega
theorem aeD{M:Mo}{L:Lay}{n s:Nat}{c:aM}(N:Now M L n s c)(hs:s<=76)(hn:n<=199)(x1:Option Cell)(head:Int)(base:List Int)(hb:base.length=6)(i:Nat)(x:Int)(x8 x9 x10 x11 x12:Option Cell) :
  ∃d M' bs y8 y9 y10 y11,fG d=true/\Dm M [some (.dat (ob L.c)),x1,some (.dat (.int head)),some (.dat (dG c)),some (.dat (aJ base)),some (.dat (.list ((yt head).map Ji))),some (.dat (.int i)),some (.dat (.int x)),x8,x9,x10,x11,x12]=.next [some (.dat (ob L.c)),x1,some (.dat (.int head)),some (.dat (dG (uH c d))),some (.dat (aJ base)),some (.dat (.list ((yt head).map Ji))),some (.dat (.int i)),some (.dat (.int x)),y8,y9,y10,y11,x12] M'/\Now M' { L with bs:=bs } (n+1) (s+cost d) (uH c d):=by
 have h1:vY M [.int x,.int 14,.int 10]=.ok (lI (rowOf x 14 10)):=Zk M x 14 10 (by decide) (by decide) (by decide)
 have P:=abG x hb
 obtain⟨r0,q0,q0'⟩:=vM x 0 (by decide)
 obtain⟨r1,q1,q1'⟩:=vM x 1 (by decide)
 obtain⟨r2,q2,q2'⟩:=vM x 2 (by decide)
 obtain⟨r3,q3,q3'⟩:=vM x 3 (by decide)
 obtain⟨r4,q4,q4'⟩:=vM x 4 (by decide)
 obtain⟨r5,q5,q5'⟩:=vM x 5 (by decide)
 generalize rowOf x 14 10=p at *
 generalize p.getD 0 0=d0 at *
 generalize p.getD 1 0=d1 at *
 generalize p.getD 2 0=d2 at *
 generalize p.getD 3 0=d3 at *
 generalize p.getD 4 0=d4 at *
 generalize p.getD 5 0=d5 at *
 obtain⟨w,hw,h2⟩:=aic M (d0 * 10+d1)
 have hm:∀z,decide (CMul z 10)=true:=fun z=>mul_r (by decide)
 have c0:=N.inv.cnt.1
 simp only[Int.natCast_zero,Int.natCast_one,show((2:Nat):Int)=2 from rfl,show((3:Nat):Int)=3 from rfl,show((4:Nat):Int)=4 from rfl,show((5:Nat):Int)=5 from rfl]at r0 r1 r2 r3 r4 r5
 by_cases hi:i < (yt head).length
 ·have hi':(i:Int) < (yt head).length:=by omega
  have g:=asw hi
  obtain⟨b1,b2,b3⟩:=ahG _ (atj hi)
  generalize (yt head)[i]=b at *
  obtain⟨d,e1,e2,e3⟩:=ZK M P b.2.1 b.2.2 c.count c.al.length c.bs.length c0 (by omega) (by omega) b1 b2 b3
  obtain⟨M',bs,e4,e5⟩:=N.done hs hn d e3 e2
  refine⟨d,M',bs,some (.dat (lI p)),some (.dat (.str b.1)),some (.dat (.int b.2.1)),some (.dat (.int b.2.2)),e2,?_,e5⟩
  have e1:fM M [.str b.1,.int b.2.1,.int b.2.2,lI p,dG c,aJ base]=.ok d.dat:=e1
  simp[Dm,h1,r0,r1,r2,r3,r4,r5,hm,h2,hi',g]
  simp[Ji,e1,e4]
 ·have hi':¬(i:Int) < (yt head).length:=by omega
  obtain⟨d,e1,e2,e3⟩:=ZK M P (d2 * 10+d3) (d4 * 10+d5) c.count c.al.length c.bs.length c0 (by omega) (by omega) hw (by omega) (by omega)
  obtain⟨M',bs,e4,e5⟩:=N.done hs hn d e3 e2
  refine⟨d,M',bs,some (.dat (lI p)),some (.dat (.str w)),some (.dat (.int (d2 * 10+d3))),some (.dat (.int (d4 * 10+d5))),e2,?_,e5⟩
  have e1:fM M [.str w,.int (d2 * 10+d3),.int (d4 * 10+d5),lI p,dG c,aJ base]=.ok d.dat:=e1
  simp[Dm,h1,r0,r1,r2,r3,r4,r5,hm,h2,hi']
  simp[e1,e4]
theorem VR(x1:Option Cell)(head:Int)(base:List Int)(hb:base.length=6)(x12:Option Cell):∀(xs:List (Nat×Int)) (M:Mo) (L:Lay) (n:Nat) (c:aM) (x6 x7 x8 x9 x10 x11:Option Cell),Now M L n n c->n+xs.length<=76->
  ∃c' M' bs y6 y7 y8 y9 y10 y11,eZ (bF [6,7]) Dm (xs.map fun q=>PyData.tuple [.int q.1,.int q.2]) M [some (.dat (ob L.c)),x1,some (.dat (.int head)),some (.dat (dG c)),some (.dat (aJ base)),some (.dat (.list ((yt head).map Ji))),x6,x7,x8,x9,x10,x11,x12]=.next [some (.dat (ob L.c)),x1,some (.dat (.int head)),some (.dat (dG c')),some (.dat (aJ base)),some (.dat (.list ((yt head).map Ji))),y6,y7,y8,y9,y10,y11,x12] M'/\Now M' { L with bs:=bs } (n+xs.length) (n+xs.length) c'
 |[],M,L,n,c,x6,x7,x8,x9,x10,x11,N,_=>⟨c,M,L.bs,x6,x7,x8,x9,x10,x11,rfl,N⟩
 |q::xs,M,L,n,c,x6,x7,x8,x9,x10,x11,N,hl=>by
  rw[asM]at hl
  obtain⟨d,M1,bs,y8,y9,y10,y11,h0,h1,N1⟩:=aeD N (by omega) (by omega) x1 head base hb q.1 q.2 x8 x9 x10 x11 x12
  have N1:Now M1 { L with bs:=bs } (n+1) (n+1) (uH c d):=⟨N1.at_,N1.inv.mono (as3 _) (by have:=aiV d;omega),N1.rch⟩
  obtain⟨c',M',bs',z6,z7,z8,z9,z10,z11,h2,N2⟩:=VR x1 head base hb x12 xs M1 { L with bs:=bs } (n+1) (uH c d) (some (.dat (.int q.1))) (some (.dat (.int q.2))) y8 y9 y10 y11 N1 (by omega)
  refine⟨c',M',bs',z6,z7,z8,z9,z10,z11,?_,?_⟩
  ·rw[asx,gK (ρ1:=[some (.dat (ob L.c)),x1,some (.dat (.int head)),some (.dat (dG c)),some (.dat (aJ base)),some (.dat (.list ((yt head).map Ji))),some (.dat (.int q.1)),some (.dat (.int q.2)),x8,x9,x10,x11,x12]) (by simp) h1]
   exact h2
  ·rw[asM,show n+(xs.length+1)=n+1+xs.length by omega]
   exact N2
theorem acG{M:Mo}{L:Lay}{n s:Nat}{c:aM}(N:Now M L n s c)(hs:s<=75)(hn:n<=198)(x1 x2 x4 x5 x6 x7 x8 x9 x10 x11 x12:Option Cell) :
  ∃c' M' bs,Jl M [some (.dat (ob L.c)),x1,x2,some (.dat (dG c)),x4,x5,x6,x7,x8,x9,x10,x11,x12]=.next [some (.dat (ob L.c)),x1,x2,some (.dat (dG c')),x4,x5,x6,x7,x8,x9,x10,x11,x12] M'/\Now M' { L with bs:=bs } (n+2) (s+1) c':=by
 obtain⟨M1,bs1,h1,N1⟩:=N.done (by omega) (by omega) (.bring 1 1 [0,0,0,0,0,0]) (by simp[Eu]) (by decide)
 have hl:=N1.inv.hL
 have hc:cost (.bring 1 1 [0,0,0,0,0,0])=1:=rfl
 generalize uH c (.bring 1 1 [0,0,0,0,0,0])=c1 at *
 obtain⟨M2,bs2,h2,N2⟩:=N1.done (by omega) (by omega) (.cut c1.bs.length) trivial (by simp only[fG,nB,asu,decide_eq_true_eq];omega)
 refine⟨_,M2,bs2,?_,N2.at_,N2.inv,N2.rch⟩
 have h1:fL M [ob L.c,.tuple [.str "bring",.int 1,.int 1,.tuple [.int 0,.int 0,.int 0,.int 0,.int 0,.int 0]],dG c]=.ok (dG c1) M1:=h1
 have h2:fL M1 [ob L.c,.tuple [.str "cut",.int c1.bs.length],dG c1]=_:=h2
 simp[Jl,h1]
 have e:atI [PyData.int c1.count,.int c1.al.length,.int c1.bs.length] 2=some (.int c1.bs.length):=rfl
 simp[dG]at h2 ⊢
 simp[h2]
theorem RM(x1 x2 x4 x5 x6 x7 x8 x9 x10 x11:Option Cell):∀(xs:List Dat) (M:Mo) (L:Lay) (n s:Nat) (c:aM) (x12:Option Cell),Now M L n s c->n+2 * xs.length<=198->s+xs.length<=75->
  ∃c' M' bs y12,eZ (aF 12) Jl xs M [some (.dat (ob L.c)),x1,x2,some (.dat (dG c)),x4,x5,x6,x7,x8,x9,x10,x11,x12]=.next [some (.dat (ob L.c)),x1,x2,some (.dat (dG c')),x4,x5,x6,x7,x8,x9,x10,x11,y12] M'/\Now M' { L with bs:=bs } (n+2 * xs.length) (s+xs.length) c'
 |[],M,L,n,s,c,x12,N,_,_=>⟨c,M,L.bs,x12,rfl,N⟩
 |q::xs,M,L,n,s,c,x12,N,h1,h2=>by
  rw[asM]at h1 h2
  obtain⟨c1,M1,bs1,e1,N1⟩:=acG N (by omega) (by omega) x1 x2 x4 x5 x6 x7 x8 x9 x10 x11 (some (.dat q))
  obtain⟨c',M',bs',y12,e2,N2⟩:=RM x1 x2 x4 x5 x6 x7 x8 x9 x10 x11 xs M1 { L with bs:=bs1 } (n+2) (s+1) c1 (some (.dat q)) N1 (by omega) (by omega)
  refine⟨c',M',bs',y12,?_,?_⟩
  ·rw[gK (ρ1:=[some (.dat (ob L.c)),x1,x2,some (.dat (dG c)),x4,x5,x6,x7,x8,x9,x10,x11,some (.dat q)]) (by simp) e1]
   exact e2
  ·rw[asM,show n+2 * (xs.length+1)=n+2+2 * xs.length by omega,show s+(xs.length+1)=s+1+xs.length by omega]
   exact N2
def Zz:aM:=⟨0,[],[],[],[],[]⟩
theorem ai5{M:Mo}{L:Lay}(a:At M L Zz)(cells:List Int)(hl:cells.length<=43)(head:Int):∃c M' L',L'.c=L.c/\Dr M [ob L.c,lI cells,.int head]=.ok (dG c) M'/\Now M' L' 99 71 c:=by
 have hb:=Mf (head / 512)
 have h1:=Zx M (head / 512)
 have h2:=aeG M head
 have N0:Now M L 0 0 Zz:=⟨a,anY,.nil⟩
 have hen:o9 0 (cells.map PyData.int)=(cells.mapIdx fun i x=>(i,x)).map fun(q:Nat×Int)=>PyData.tuple [.int q.1,.int q.2]:=by
  unfold o9
  apply as4
  intro i
  simp
  cases cells[i]? <;> simp
 obtain⟨c1,M1,bs1,y6,y7,y8,y9,y10,y11,e1,N1⟩:=VR (some (.dat (lI cells))) head (xM (head / 512)) hb none (cells.mapIdx fun i x=>(i,x)) M L 0 Zz none none none none none none N0 (by simp;omega)
 simp only[List.length_mapIdx,Nat.zero_add]at N1
 have hd:∀z,decide (CDiv z 512)=true:=fun z=>decide_eq_true ⟨by decide,by decide⟩
 have hd8:∀z,decide (CDiv z 8)=true:=fun z=>decide_eq_true ⟨by decide,by decide⟩
 have hd64:∀z,decide (CDiv z 64)=true:=fun z=>decide_eq_true ⟨by decide,by decide⟩
 have hm:∀z,decide (CMul z 4)=true:=fun z=>mul_r (by decide)
 have z0:dG Zz=.tuple [.int 0,.int 0,.int 0]:=rfl
 rw[z0]at e1
 by_cases hh:head / 8 % 8=1
 ·obtain⟨k,hk,hk2⟩:∃k:Nat,head / 64 % 8 * 4=k/\k<=28:=⟨(head / 64 % 8 * 4).toNat,by omega,by omega⟩
  obtain⟨c2,M2,bs2,y12,e2,N2⟩:=RM (some (.dat (lI cells))) (some (.dat (.int head))) (some (.dat (aJ (xM (head / 512))))) (some (.dat (.list ((yt head).map Ji)))) y6 y7 y8 y9 y10 y11 (jx 0 k) M1 { L with bs:=bs1 } cells.length cells.length c1 none N1 (by simp[jx];omega) (by simp[jx];omega)
  refine⟨c2,M2,{ L with bs:=bs2 },rfl,?_,N2.at_,N2.inv.mono (by simp[jx];omega) (by simp[jx];omega),N2.rch.le (by simp[jx];omega)⟩
  have k1:(k:Int)<=100000:=by omega
  have k2 : -100000<=(k:Int):=by omega
  simp[Dr,SJ,hd,h1,h2,hen,e1,hd8,hh,hd64,hm,hk,k1,k2,e2]
 ·refine⟨c1,M1,{ L with bs:=bs1 },rfl,?_,N1.at_,N1.inv.mono (by omega) (by omega),N1.rch.le (by omega)⟩
  simp[Dr,SJ,hd,h1,h2,hen,e1,hd8,hh]
def L0:Lay:=⟨0,2,5,7,[],[]⟩
theorem aow:∃M L,L.c=0/\mK [⟨"Commons",[]⟩] [ob 0]=.ok .none M/\At M L Zz:=by
 refine⟨_,L0,rfl,by simp[mK,zp,j8,uW,yK,vR,Bp,zN,Gi];rfl,?_⟩
 exact⟨rfl,⟨_,_,rfl⟩,rfl,⟨_,rfl⟩,rfl,fun i h b z _=>(by cases z),by decide,fun p hp=>(by cases hp)⟩
theorem ajJ(n:Nat)(x:List Int):lk (n+1) (aJ x)=true:=by
 show lk (n+1) (.tuple (x.map PyData.int))=true
 rw[lk]
 exact afF n x
theorem aky(n:Nat)(x:Option (List Int)):lk (n+1) (jy x)=true:=by
 cases x with
 |none=>rw[jy,lk]
 |some e=>exact ajJ n e
theorem amO(n:Nat)(f:Fi):lk (n+2) f.dat=true:=by
 cases f <;> simp[Fi.dat,lk,vD]
theorem am7(n:Nat)(e:En):lk (n+2) e.dat=true:=by
 cases e <;> simp[En.dat,lk,vD]
theorem aik(n:Nat)(b:cZ):lk (n+4) (bU b)=true:=by
 have h1:vD (n+2) (b.en.map En.dat)=true:=wL.mpr fun d hd=>by
  obtain⟨e,_,rfl⟩:=asJ.mp hd
  exact am7 n e
 have h2:=amO n b.fi
 have h3:=aky (n+2) b.sd.due
 simp[bU,lk,vD,h1,h2,h3]
theorem ah9(c:aM):lk 9 (eG c)=true:=by
 have h1:∀n,vD (n+2) ((List.range c.al.length).map (Ru c))=true:=fun n=>wL.mpr fun d hd=>by
  obtain⟨e,_,rfl⟩:=asJ.mp hd
  simp[Ru,lk,vD]
 have h2:∀n,vD (n+2) (c.held.map fJ)=true:=fun n=>wL.mpr fun d hd=>by
  obtain⟨e,_,rfl⟩:=asJ.mp hd
  simp[fJ,lk,vD]
 have h3:∀n,vD (n+4) (c.bs.map bU)=true:=fun n=>wL.mpr fun d hd=>by
  obtain⟨e,_,rfl⟩:=asJ.mp hd
  exact aik n e
 simp[eG,lk,vD,h1,h2,h3]
theorem V2(M:Mo)(c:aM):lO 10 M [eG c,eG c]=.ok (.bool true):=Uu M 9 _ (ah9 c)
theorem Now.look{M:Mo}{L:Lay}{n s:Nat}{c:aM}(N:Now M L n s c)(hs:s<=1000):mO M [ob L.c]=.ok (eG c):=by
 have:=N.inv.hL
 exact abR N.at_ N.inv.gr (by omega) (by omega)
def Spn(M:Mo)(L:Lay)(n s:Nat)(o:bx Dat):Res->Prop
 |.ok d c'=>∃M' L',L'.c=L.c/\o=.ok d M'/\At M' L' c'/\Inv n s c'
 |.no x=>o=.exc x M
theorem ake{M:Mo}{L:Lay}{c:aM}{n s:Nat}(I:Inv n s c)(hn:n<=199){d:bJ}{o:bx Dat}(h:Sp M L o (cG c d)):Spn M L (n+1) (s+cost d) o (cG c d):=by
 cases e:cG c d with
 |no x=>
  rw[e]at h
  exact h
 |ok r c'=>
  rw[e]at h
  obtain⟨M',bs,h1,h2⟩:=h
  exact⟨M',{ L with bs:=bs },rfl,h1,h2,Yl I hn e⟩
theorem ahu{M:Mo}{L:Lay}{c:aM}{n s:Nat}(a:At M L c)(I:Inv n s c)(hs:s<=1000):mO M [ob L.c]=.ok (eG c):=by
 have:=I.hL
 exact abR a I.gr (by omega) (by omega)
theorem alu(M:Mo)(x:Int):∃y,Nh M [.int x]=.ok (.int y):=by
 have hp:decide (CPow 10 30)=true:=decide_eq_true ⟨by decide,by decide,by decide⟩
 by_cases h:x < 0
 ·exact⟨_,by simp[Nh,X4,hp,h];rfl⟩
 ·exact⟨_,by simp[Nh,X4,hp,h];rfl⟩
theorem aev(M:Mo)(v x t:Int):∃y,IW M [.int v,.int x,.int t]=.ok (.int y):=by
 obtain⟨y,h⟩:=alu M (x / 13)
 have hd:∀z,decide (CDiv z 13)=true:=fun z=>decide_eq_true ⟨by decide,by decide⟩
 by_cases e:x % 13=t
 ·exact⟨y,by simp[IW,X5,e,hd,h]⟩
 ·exact⟨v,by simp[IW,X5,e]⟩
theorem aij(l:List Int)(lo hi:Option Int):Rf.cutD (l.map PyData.int) lo hi=(Rf.cutD l lo hi).map PyData.int:=by
 unfold Rf.cutD
 rw[asH,List.map_take,List.map_drop]
theorem ahX{α:Type}(l:List α)(a b:Nat)(h:a<=b):(Rf.cutD l (some (a:Int)) (some (b:Int))).length<=b - a:=by
 unfold Rf.cutD
 rw[HT.sIx_nat,HT.sIx_nat,List.length_take]
 omega
theorem mX(M:Mo)(w:Str)(x head n0 n1 n2:Int){d:Dat}(h:dd M w ((rowOf x 14 10).getD 2 0 * 10+(rowOf x 14 10).getD 3 0) ((rowOf x 14 10).getD 4 0 * 10+(rowOf x 14 10).getD 5 0) (rowOf x 14 10) (xM (head / 512)) n0 n1 n2=.ok d):jL M [.str w,.int x,.tuple [.int n0,.int n1,.int n2],.int head]=.ok d:=by
 have h1:vY M [.int x,.int 14,.int 10]=.ok (lI (rowOf x 14 10)):=Zk M x 14 10 (by decide) (by decide) (by decide)
 have h2:=Zx M (head / 512)
 obtain⟨r2,_⟩:=vM x 2 (by decide)
 obtain⟨r3,_⟩:=vM x 3 (by decide)
 obtain⟨r4,_⟩:=vM x 4 (by decide)
 obtain⟨r5,_⟩:=vM x 5 (by decide)
 generalize rowOf x 14 10=p at *
 generalize p.getD 2 0=d2 at *
 generalize p.getD 3 0=d3 at *
 generalize p.getD 4 0=d4 at *
 generalize p.getD 5 0=d5 at *
 have hm:∀z,decide (CMul z 10)=true:=fun z=>mul_r (by decide)
 have hd:∀z,decide (CDiv z 512)=true:=fun z=>decide_eq_true ⟨by decide,by decide⟩
 simp only[show((2:Nat):Int)=2 from rfl,show((3:Nat):Int)=3 from rfl,show((4:Nat):Int)=4 from rfl,show((5:Nat):Int)=5 from rfl]at r2 r3 r4 r5
 unfold dd at h
 simp[jL,T8,h1,h2,r2,r3,r4,r5,hm,hd,h]
theorem aeJ(M:Mo)(c:aM)(hc:0<=c.count)(x head:Int):(∃a b,jL M [.str "leave",.int x,dG c,.int head]=.ok (.tuple [.str "leave",.int a,.int b]))/\(∃a b e,cX e=true/\jL M [.str "enrol",.int x,dG c,.int head]=.ok (.tuple [.str "enrol",.int a,.int b,aJ e]))/\
  (∃a,jL M [.str "bear",.int x,dG c,.int head]=.ok (.tuple [.str "bear",.int a]))/\(∃a,jL M [.str "cut",.int x,dG c,.int head]=.ok (.tuple [.str "cut",.int a]))/\(∃a,jL M [.str "die",.int x,dG c,.int head]=.ok (.tuple [.str "die",.int a]))/\(∃a,jL M [.str "part",.int x,dG c,.int head]=.ok (.tuple [.str "part",.int a]))/\
  (∃a b,jL M [.str "tear",.int x,dG c,.int head]=.ok (.tuple [.str "tear",.int a,.int b]))/\(∃a b,jL M [.str "sell",.int x,dG c,.int head]=.ok (.tuple [.str "sell",.int a,.int b]))/\(∃a b,jL M [.str "move",.int x,dG c,.int head]=.ok (.tuple [.str "move",.int a,.int b]))/\(∃a b,jL M [.str "unite",.int x,dG c,.int head]=.ok (.tuple [.str "unite",.int a,.int b]))/\(∃a b,jL M [.str "pass",.int x,dG c,.int head]=.ok (.tuple [.str "pass",.int a,.int b])):=by
 have P:=abG x (Mf (head / 512))
 obtain⟨_,_,d2,_,d4,_,d6,d7,d8,d9,d10,d11,d12,d13,d14⟩:=Yk M P ((rowOf x 14 10).getD 2 0 * 10+(rowOf x 14 10).getD 3 0) ((rowOf x 14 10).getD 4 0 * 10+(rowOf x 14 10).getD 5 0) c.count c.al.length c.bs.length hc (by omega) (by omega)
 exact⟨⟨_,_,mX M _ x head _ _ _ d4⟩,⟨_,_,_,P.mark,mX M _ x head _ _ _ d2⟩,⟨_,mX M _ x head _ _ _ d12⟩,⟨_,mX M _ x head _ _ _ d13⟩,⟨_,mX M _ x head _ _ _ d14⟩,⟨_,mX M _ x head _ _ _ d8⟩,⟨_,_,mX M _ x head _ _ _ d9⟩,⟨_,_,mX M _ x head _ _ _ d10⟩,⟨_,_,mX M _ x head _ _ _ d11⟩,⟨_,_,mX M _ x head _ _ _ d7⟩,⟨_,_,mX M _ x head _ _ _ d6⟩⟩
@[simp]theorem arH (c:aM):aH (eG c) (.int 0)=.ok (lI c.own):=rfl
@[simp]theorem aqH (c:aM):aH (eG c) (.int 1)=.ok (.list ((List.range c.al.length).map (Ru c))):=rfl
@[simp]theorem arj (c:aM):aH (eG c) (.int 2)=.ok (.list (c.held.map fJ)):=rfl
@[simp]theorem aqi (c:aM):aH (eG c) (.int 3)=.ok (.list (c.bs.map bU)):=rfl
theorem eq_nil(xs:List Dat)(h:mY 11 xs=true):bR (.list xs) (.list [])=.ok (.bool xs.isEmpty)/\tH (.list xs) (.list [])=.ok (.bool (!xs.isEmpty)):=by
 have e:eqB (.list xs) (.list [])=.ok xs.isEmpty:=by
  show Out.when (okd 12 (.list xs)&&okd 12 (.list [])) (.ok (PyData.eqv (.list xs) (.list [])))=_
  rw[okd,okd,h,alj]
  cases xs with
  |nil=>rfl
  |cons a r=>rw[ah5];rfl
 exact⟨by unfold bR;rw[e];rfl,by unfold tH;rw[e];rfl⟩
theorem played(ns:List Int):∃(c:aM) (M1:Mo) (L1:Lay) (head:Int) (M0:Mo),L1.c=0/\mK [⟨"Commons",[]⟩] [ob 0]=.ok .none M0/\vo M0 [lI ns,.int 0]=.ok (.int (ns.getD 0 0))/\head=(if ns.getD 0 0 < 0 then -(ns.getD 0 0) else ns.getD 0 0)/\Dr M0 [ob 0,.list (Rf.cutD (ns.map PyData.int) (some 2) (some 44)),.int head]=.ok (dG c) M1/\Now M1 L1 99 71 c/\vo M1 [lI ns,.int 1]=.ok (.int (ns.getD 1 0)):=by
 obtain⟨M0,L,hL,h0,a0⟩:=aow
 have cell0:vo M0 [lI ns,.int 0]=_:=abr M0 ns 0
 have hl:=ahX ns 2 44 (by decide)
 obtain⟨c,M1,L1,hL1,h1,N1⟩:=ai5 a0 (Rf.cutD ns (some ((2:Nat):Int)) (some ((44:Nat):Int))) (by omega) (if ns.getD 0 0 < 0 then -(ns.getD 0 0) else ns.getD 0 0)
 have cell1:vo M1 [lI ns,.int 1]=_:=abr M1 ns 1
 refine⟨c,M1,L1,_,M0,hL1.trans hL,h0,cell0,rfl,?_,N1,cell1⟩
 rw[aij]
 rw[hL]at h1
 exact h1
theorem TY(M:Mo)(c:aM)(g:Int):qd M [eG c,.int g]=.ok (.bool (decide (Vg c g))):=by
 by_cases h:1<=g <;> simp[qd,yX,h,Vg]
theorem aa1(M:Mo)(c:aM)(hf:c.held.length<=50000)(o g:Int):w6 M [eG c,.int o,.int g]=.ok (.list ((bK c o g).map aJ)):=by
 have key:=fU (tg:=aF 3) (tt:=gG (aY (aA bR (aA aH (ao 3) (qC (.int 0))) (ao 1))) (aY (aA bR (aA aH (ao 3) (qC (.int 1))) (ao 2)))) (te:=aA aH (ao 3) (qC (.int 2))) (M:=M) (ρ:=[some (.dat (eG c)),some (.dat (.int o)),some (.dat (.int g)),none]) fJ (fun r=>(r.1==o)&&(r.2.1==g)) (fun r=>aJ r.2.2) c.held fun r _=>⟨[some (.dat (eG c)),some (.dat (.int o)),some (.dat (.int g)),some (.dat (fJ r))],by simp,by
  by_cases h:r.1=o <;> simp[fJ,h],fun _=>by simp[fJ]⟩
 simp[w6,Im,key,hf,bK]
@[simp]theorem aqc (b:cZ):aH (bU b) (.int 0)=.ok (.int b.sd.o):=rfl
@[simp]theorem arI (b:cZ):aH (bU b) (.int 1)=.ok (.int b.sd.g):=rfl
@[simp]theorem arn (b:cZ):aH (bU b) (.int 2)=.ok (jy b.sd.due):=rfl
@[simp]theorem aqj (b:cZ):aH (bU b) (.int 3)=.ok (aJ b.sd.ear):=rfl
@[simp]theorem aqe (b:cZ):aH (bU b) (.int 4)=.ok (.bool b.sd.al):=rfl
@[simp]theorem apM (b:cZ):aH (bU b) (.int 5)=.ok (.int b.mo):=rfl
@[simp]theorem apR (b:cZ):aH (bU b) (.int 6)=.ok (.tuple (b.fi.dat::b.en.map En.dat)):=rfl
theorem QV{c:aM}{k:Int}{b:cZ}(h:bk c k=some b):atI (c.bs.map bU) (k - 1)=some (bU b):=by
 obtain⟨h1,h2,h3⟩:=lU h
 have e:k - 1=(((k - 1).toNat:Nat):Int):=by omega
 rw[e]
 exact atI_nat (by rw[asI,h1];rfl)
def hbW(c:aM)(k:Int)(cut:Bool):Str:=match bk c k with
 |none=>"NoBeast"
 |some b=>if b.sd.al=true then(if (cut&&b.sd.due.isNone)=true then "Unmarked" else "") else "Dead"
theorem aa7(M:Mo)(c:aM)(k:Int)(cut:Bool):oF M [eG c,.int k,.bool cut]=.ok (.str (hbW c k cut)):=by
 unfold hbW
 cases h:bk c k with
 |none=>
  have hn:=aby h
  by_cases h1:1<=k
  ·have h2:¬k<=c.bs.length:=fun z=>hn ⟨h1,z⟩
   simp[oF,uV,h1,h2]
  ·simp[oF,uV,h1]
 |some b=>
  obtain⟨_,h1,h2⟩:=lU h
  have h3:=QV h
  cases e1:b.sd.al with
  |false=>simp[oF,uV,h1,h2,h3,e1]
  |true=>cases cut <;> cases e2:b.sd.due <;> simp[oF,uV,h1,h2,h3,e1,e2,jy,gR]
theorem agD{c:aM}{k:Int}{b:cZ}(h:bk c k=some b)(e:En):(dX c (k - 1).toNat e).bs.map bU=(c.bs.map bU).take (k - 1).toNat++[bU (lF b e)]++(c.bs.map bU).drop k.toNat:=by
 obtain⟨h1,h2,h3⟩:=lU h
 generalize hj:(k - 1).toNat=j at *
 have e1:k.toNat=j+1:=by omega
 rw[e1]
 have hl:j < c.bs.length:=(asv.mp h1).1
 apply as4
 intro i
 rw[asI,tD]
 by_cases q:i < j
 ·rw[if_neg (by omega),List.append_assoc,asK (by simp;omega),List.getElem?_take_of_lt q,asI]
 ·by_cases q2:i=j
  ·subst q2
   rw[if_pos rfl,h1,List.append_assoc,asR (by simp;omega)]
   simp[Nat.min_eq_left (by omega:i<=c.bs.length)]
  ·rw[if_neg (by omega),asR (by simp;omega)]
   simp only[atb,List.length_take,asH,List.length_singleton,List.getElem?_drop,asI]
   congr 2
   omega
theorem alK{α:Type}(l:List α)(k:Int)(h:1<=k):Rf.cutD l none (some (k - 1))=l.take (k - 1).toNat:=by
 obtain⟨j,hj⟩:∃j:Nat,k - 1=j:=⟨(k - 1).toNat,by omega⟩
 rw[hj,aap]
 rfl
theorem agR{α:Type}(l:List α)(k:Int)(h:1<=k):Rf.cutD l (some k) none=l.drop k.toNat:=by
 obtain⟨j,rfl⟩:∃j:Nat,k=j:=⟨k.toNat,by omega⟩
 rw[PB]
 rfl
@[simp]theorem aod (b:cZ):slD (bU b) none (some 4)=.ok (.tuple [.int b.sd.o,.int b.sd.g,jy b.sd.due,aJ b.sd.ear]):=rfl
theorem adk{c:aM}{x:Int}(h:Vg c x):atI ((List.range c.al.length).map (Ru c)) (x - 1)=some (.tuple [.int (Jx c x),aJ (bA c x)]):=by
 obtain⟨k,hk,rfl⟩:=Az h
 rw[show(k:Int)+1 - 1=(k:Int) by omega,agF]
 simp[hk,Ru]
theorem ajD(neg:Bool)(y:Int)(l:List Int)(h:l.length<=1000):inD neg (.int y) (aJ l)=.ok (.bool (neg ^^ decide (y∈l))):=by
 have:=any_ints y l
 have h2:(JM (PyData.int y)&&l.all (JM ∘ PyData.int))=true:=by simp[JM,asU]
 simp[inD,inB,this,h2]
theorem acU(M:Mo)(c:aM)(i:dh c)(x:Int)(h:Vg c x):Aa M [eG c,.int x]=.ok (.int (roomOf c x)):=by
 have h1:=adk h
 have hc:=i.at h
 have hl:(bA c x).length<=50000:=by have:=i.clen hc;omega
 have hne:(bA c x).map (Jx c)≠[]:=fun z=>by
  have:=i.self h
  rw[List.map_eq_nil_iff.mp z]at this
  cases this
 have key:=fj (tg:=aF 2) (te:=aA aH (aA aH (aA aH (ao 0) (qC (.int 1))) (aA iK (ao 2) (qC (.int 1)))) (qC (.int 0))) (M:=M) (ρ:=[some (.dat (eG c)),some (.dat (.int x)),none]) PyData.int (fun y=>.int (Jx c y)) (bA c x) fun y hy=>⟨[some (.dat (eG c)),some (.dat (.int x)),some (.dat (.int y))],by simp,by
  have:=adk (i.mem _ _ hc y hy)
  simp[this]⟩
 have hm:=maxD_ints hne
 rw[as8]at hm
 simp[asU]at hm
 simp[Aa,MP,h1,key,hl,hm,roomOf]
theorem up_eq:∀{S T:List Rw},Ear.Di S->Ear.Di T->(∀r,r∈S↔r∈T)->S=T
 |[],[],_,_,_=>rfl
 |[],t::T,_,_,m=>by have:=(m t).mpr asz;cases this
 |s::S,[],_,_,m=>by have:=(m s).mp asz;cases this
 |s::S,t::T,hs,ht,m=>by
  have hs':=List.pairwise_cons.mp hs
  have ht':=List.pairwise_cons.mp ht
  have e:s=t:=by
   rcases asN.mp ((m s).mp asz) with h1|h1
   ·exact h1
   rcases asN.mp ((m t).mpr asz) with h2|h2
   ·exact h2.symm
   exact absurd (List.lt_trans (ht'.1 s h1) (hs'.1 t h2)) (List.lt_irrefl _)
  subst e
  congr 1
  refine up_eq hs'.2 ht'.2 fun r=>⟨fun h=>?_,fun h=>?_⟩
  ·rcases asN.mp ((m r).mp (asy _ h)) with z|z
   ·subst z
    exact absurd (hs'.1 _ h) (List.lt_irrefl _)
   ·exact z
  ·rcases asN.mp ((m r).mpr (asy _ h)) with z|z
   ·subst z
    exact absurd (ht'.1 _ h) (List.lt_irrefl _)
   ·exact z
theorem afx(R:List Rw):bM (bM R)=bM R:=up_eq (zA _) (zA _) fun _=>jP
theorem ajs(r s:Rw):tH (Ear.rD r) (Ear.rD s)=.ok (.bool (!decide (r=s))):=by
 have e:PyData.eqv (Ear.rD r) (Ear.rD s)=decide (r=s):=by
  rw[atA]
  simp[Ear.rD,Ear.dT,Prod.ext_iff]
 have:eqB (Ear.rD r) (Ear.rD s)=.ok (decide (r=s)):=by
  show Out.when (okd 12 (Ear.rD r)&&okd 12 (Ear.rD s)) (.ok (PyData.eqv (Ear.rD r) (Ear.rD s)))=_
  rw[Dz 10,Dz 10,e]
  rfl
 unfold tH
 rw[this]
 rfl
theorem ahs(r s:Rw):Ey (Ear.rD r) (Ear.rD s)=.ok (.bool (decide (Ear.rk r < Ear.rk s))):=by
 show Out.when (okd 12 (Ear.rD r)&&okd 12 (Ear.rD s)&&PySem.W.alike (Ear.rD r) (Ear.rD s)) (.ok (PyData.bool (PySem.W.dataLt (Ear.rD r) (Ear.rD s))))=_
 rw[Dz 10,Dz 10,Ear.Ly,Ear.afl]
 rfl
theorem atI_last{α:Type}(l:List α)(a:α):atI (l++[a]) (-1)=some a:=by
 unfold atI ixN
 have:(-1+((l.length:Int)+1)).toNat=l.length:=by omega
 have h2:(1:Int)<=l.length+1:=by omega
 simp[this,h2]
def qF(acc:List Rw)(r:Rw):List Rw:=if acc.getLast?=some r then acc else acc++[r]
theorem aez(M:Mo)(x0:Option Cell)(acc:List Rw)(r:Rw)(h:acc.length<=5000):zm M [x0,some (.mut (acc.map Ear.rD)),some (.dat (Ear.rD r))]=.next [x0,some (.mut ((qF acc r).map Ear.rD)),some (.dat (Ear.rD r))] M:=by
 have h1:=(eq_nil (acc.map Ear.rD) (abj 9 acc)).1
 have h0:acc.length < 100000:=by omega
 rcases List.eq_nil_or_concat acc with rfl|⟨l,a,rfl⟩
 ·simp at h1
  simp[zm,h1,qF]
 ·have h2:((l++[a]).map Ear.rD).isEmpty=false:=by simp
  rw[List.concat_eq_append]at *
  rw[h2]at h1
  rw[List.map_append]at h1 ⊢
  have h3:=ajs a r
  have h4:=atI_last (l.map Ear.rD) (Ear.rD a)
  simp at h0
  by_cases e:a=r
  ·subst e
   simp at h1 h4 h3
   simp[zm,h1,h4,h3,qF]
  ·simp[e]at h1 h4 h3
   simp[zm,h1,h4,h3,qF,e,h0]
theorem W6(M:Mo)(x0:Option Cell):∀(R acc:List Rw) (x2:Option Cell),acc.length+R.length<=5000->∃y2,eZ (aF 2) zm (R.map Ear.rD) M [x0,some (.mut (acc.map Ear.rD)),x2]=.next [x0,some (.mut ((R.foldl qF acc).map Ear.rD)),y2] M
 |[],acc,x2,_=>⟨x2,rfl⟩
 |r::R,acc,x2,h=>by
  rw[asM]at h
  have hl:(qF acc r).length<=acc.length+1:=by
   unfold qF
   split <;> simp
  obtain⟨y2,h2⟩:=W6 M x0 R (qF acc r) (some (.dat (Ear.rD r))) (by omega)
  exact⟨y2,by rw[asx,gK (ρ1:=[x0,some (.mut (acc.map Ear.rD)),some (.dat (Ear.rD r))]) (by simp) (aez M x0 acc r (by omega))];exact h2⟩
theorem Vu:∀(R acc:List Rw),Ear.Di acc->R.Pairwise (fun a b=>Ear.rk a<=Ear.rk b)->(∀a∈acc,∀r∈R,Ear.rk a<=Ear.rk r)->Ear.Di (R.foldl qF acc)/\∀x,x∈R.foldl qF acc↔x∈acc∨x∈R
 |[],acc,ha,_,_=>⟨ha,by simp⟩
 |r::R,acc,ha,hR,hb=>by
  have hR':=List.pairwise_cons.mp hR
  rw[atE]
  by_cases e:acc.getLast?=some r
  ·have e1:qF acc r=acc:=by rw[qF,if_pos e]
   rw[e1]
   obtain⟨k1,k2⟩:=Vu R acc ha hR'.2 fun a m x hx=>hb a m x (asy _ hx)
   have mr:r∈acc:=List.mem_of_getLast? e
   refine⟨k1,fun x=>?_⟩
   rw[k2,asN]
   constructor
   ·rintro(h|h)
    ·exact .inl h
    ·exact .inr (.inr h)
   ·rintro(h|h|h)
    ·exact .inl h
    ·subst h;exact .inl mr
    ·exact .inr h
  ·have e1:qF acc r=acc++[r]:=by rw[qF,if_neg e]
   rw[e1]
   have hup:Ear.Di (acc++[r]):=by
    rcases List.eq_nil_or_concat acc with rfl|⟨l,a,rfl⟩
    ·exact List.pairwise_singleton _ _
    ·rw[List.concat_eq_append]at *
     have ne:a≠r:=fun z=>e (by simp[z])
     have lt:Ear.rk a < Ear.rk r:=by
      have:=hb a (by simp) r asz
      by_cases c:Ear.rk a < Ear.rk r
      ·exact c
      ·exact absurd (Ear.aaj (List.le_antisymm this (List.not_lt.mp c))) ne
     refine List.pairwise_append.mpr ⟨ha,List.pairwise_singleton _ _,fun x hx y hy=>?_⟩
     rw[asB.mp hy]
     rcases asO.mp hx with hx|hx
     ·exact List.lt_trans ((List.pairwise_append.mp ha).2.2 x hx a (by simp)) lt
     ·rw[asB.mp hx]
      exact lt
   obtain⟨k1,k2⟩:=Vu R (acc++[r]) hup hR'.2 fun a m x hx=>by
    rcases asO.mp m with m|m
    ·exact hb a m x (asy _ hx)
    ·rw[asB.mp m]
     exact hR'.1 x hx
   refine⟨k1,fun x=>?_⟩
   rw[k2,asO,asB,asN,or_assoc]
theorem agl(R:List Rw):(pA R).Pairwise fun a b=>Ear.rk a<=Ear.rk b:=by
 unfold pA
 have srt:=atL (le:=fun a b:Ear.Rw=>decide (Ear.rk a<=Ear.rk b)) (fun a b c k1 k2=>by rw[decide_eq_true_eq]at *;exact List.le_trans k1 k2) (fun a b=>by rw[atN,decide_eq_true_eq,decide_eq_true_eq];exact List.le_total _ _) R
 exact srt.imp fun h=>by simpa using h
theorem acr(R:List Rw):zR (.list (R.map Ear.rD))=.ok (.list ((pA R).map Ear.rD)):=by
 cases R with
 |nil=>simp[zR,intsOf,sortI,pA]
 |cons r R=>
  have h1:intsOf ((r::R).map Ear.rD)=none:=by simp[intsOf,Ear.rD]
  show(match intsOf ((r::R).map Ear.rD) with
   |some l=>Out.ok (PyData.list ((sortI l).map PyData.int))
   |none=>match Cq ((r::R).map Ear.rD) with
    |some R=>.ok (.list ((pA R).map Ear.rD))
    |none=>.bad)=_
  rw[h1,Mx]
theorem aip(M:Mo)(R:List Rw)(h:R.length<=5000):LQ M [.list (R.map Ear.rD)]=.ok (.list ((bM R).map Ear.rD)):=by
 have hl:(pA R).length=R.length:=by simp[pA]
 obtain⟨y2,h1⟩:=W6 M (some (.dat (.list (R.map Ear.rD)))) (pA R) [] none (by simp;omega)
 have h2:=Vu (pA R) [] List.Pairwise.nil (agl R) (by simp)
 have e:(pA R).foldl qF []=bM R:=up_eq h2.1 (zA R) fun x=>by
  rw[h2.2,jP]
  simp[pA]
 rw[e]at h1
 simp only[aty]at h1
 simp[LQ,aaf,acr,h1]
theorem adB(M:Mo)(x0 x2:Option Cell)(x6 x7 x8:Option Cell)(nD:Dat)(near:List Int)(hn:∀y,inD false (.int y) nD=.ok (.bool (decide (y∈near))))(lo:Int)(acc:List Rw)(i:Int)(b:cZ)(h:acc.length<=5000) :
  mF M [x0,some (.dat nD),some (.dat (.int lo)),some (.mut (acc.map Ear.rD)),some (.dat (.int i)),some (.dat (bU b)),x6,x7,x8]=.next [x0,some (.dat nD),some (.dat (.int lo)),some (.mut ((acc++if (b.sd.due.isSome&&!((i+1)==lo))&&(decide (b.sd.g∈near)&&b.sd.al) then[(b.sd.o,b.sd.due.getD [])] else[]).map Ear.rD)),some (.dat (.int i)),some (.dat (bU b)),x6,x7,x8] M:=by
 have h0:acc.length < 100000:=by omega
 have h1:=hn b.sd.g
 cases e1:b.sd.al with
 |false=>simp[mF,e1]
 |true=>
  cases e2:b.sd.due with
  |none=>simp[mF,e1,e2,jy,gR]
  |some e=>
   by_cases e3:b.sd.g∈near
   ·by_cases e4:i+1=lo
    ·simp[mF,e1,e2,jy,gR,h1,e3,e4]
    ·simp[mF,e1,e2,jy,gR,h1,e3,e4,h0,Ear.rD,Ear.dT]
   ·simp[mF,e1,e2,jy,gR,h1,e3]
theorem V4(M:Mo)(x0:Option Cell)(x6 x7 x8:Option Cell)(nD:Dat)(near:List Int)(hn:∀y,inD false (.int y) nD=.ok (.bool (decide (y∈near))))(lo:Int):∀(xs:List (Nat×cZ)) (acc:List Rw) (x4 x5:Option Cell),acc.length+xs.length<=5000->∃y4 y5,
  eZ (bF [4,5]) mF (xs.map fun x=>.tuple [.int (x.1:Int),bU x.2]) M [x0,some (.dat nD),some (.dat (.int lo)),some (.mut (acc.map Ear.rD)),x4,x5,x6,x7,x8]=.next [x0,some (.dat nD),some (.dat (.int lo)),some (.mut ((acc++((xs.filter fun x=>(x.2.sd.due.isSome&&!(((x.1:Int)+1)==lo))&&(decide (x.2.sd.g∈near)&&x.2.sd.al)).map fun x=>(x.2.sd.o,x.2.sd.due.getD []))).map Ear.rD)),y4,y5,x6,x7,x8] M
 |[],acc,x4,x5,_=>⟨x4,x5,by simp[eZ]⟩
 |x::xs,acc,x4,x5,h=>by
  rw[asM]at h
  have hs:=adB M x0 (some (.dat (.int lo))) x6 x7 x8 nD near hn lo acc (x.1:Int) x.2 (by omega)
  generalize hz:(if (x.2.sd.due.isSome&&!(((x.1:Int)+1)==lo))&&(decide (x.2.sd.g∈near)&&x.2.sd.al) then[(x.2.sd.o,x.2.sd.due.getD [])] else[])=z at hs
  have hl:z.length<=1:=by rw[←hz];split <;> simp
  obtain⟨y4,y5,h2⟩:=V4 M x0 x6 x7 x8 nD near hn lo xs (acc++z) (some (.dat (.int x.1))) (some (.dat (bU x.2))) (by rw[atb];omega)
  refine⟨y4,y5,?_⟩
  rw[asx,gK (ρ1:=[x0,some (.dat nD),some (.dat (.int lo)),some (.mut (acc.map Ear.rD)),some (.dat (.int x.1)),some (.dat (bU x.2)),x6,x7,x8]) (by simp) hs,h2,←hz]
  congr 6
  rw[atg]
  split <;> simp
theorem afd(c:aM):o9 0 (c.bs.map bU)=(c.bs.mapIdx fun i b=>(i,b)).map fun x=>.tuple [.int (x.1:Int),bU x.2]:=by
 unfold o9
 apply as4
 intro j
 simp only[asI,atk]
 cases c.bs[j]? <;> simp
theorem acF(M:Mo)(c:aM)(hh:c.held.length<=2000)(hb:c.bs.length<=2000)(nD:Dat)(near:List Int)(hn:∀y,inD false (.int y) nD=.ok (.bool (decide (y∈near))))(lo:Int):Bb M [eG c,nD,.int lo]=.ok (.list ((bM (inR c near++Dj c lo near)).map Ear.rD)):=by
 have k1:=fU (tg:=bF [6,7,8]) (tt:=aY (aA (inD false) (ao 7) (ao 1))) (te:=bh (ak (aq 6) (ak (aq 8) au))) (M:=M) (ρ:=[some (.dat (eG c)),some (.dat nD),some (.dat (.int lo)),none,none,none,none,none,none]) fJ (fun r=>decide (r.2.1∈near)) (fun r=>Ear.rD (r.1,r.2.2)) c.held fun r _=>⟨[some (.dat (eG c)),some (.dat nD),some (.dat (.int lo)),none,none,none,some (.dat (.int r.1)),some (.dat (.int r.2.1)),some (.dat (aJ r.2.2))],by simp[fJ],by simp[hn],fun _=>by simp[Ear.rD,Ear.dT]⟩
 have e1:((c.held.filter fun r=>decide (r.2.1∈near)).map fun r=>Ear.rD (r.1,r.2.2))=(inR c near).map Ear.rD:=by simp[inR,asU]
 rw[e1]at k1
 have l1:(inR c near).length<=2000:=by
  unfold inR
  rw[asH]
  exact as5 (asQ _ _) hh
 obtain⟨y4,y5,k2⟩:=V4 M (some (.dat (eG c))) none none none nD near hn lo (c.bs.mapIdx fun i b=>(i,b)) (inR c near) none none (by simp;omega)
 rw[←afd]at k2
 have e2:((c.bs.mapIdx fun i b=>(i,b)).filter fun x=>(x.2.sd.due.isSome&&!(((x.1:Int)+1)==lo))&&(decide (x.2.sd.g∈near)&&x.2.sd.al)).map (fun x=>(x.2.sd.o,x.2.sd.due.getD []))=Dj c lo near:=rfl
 rw[e2]at k2
 have l2:(Dj c lo near).length<=2000:=by
  unfold Dj
  rw[asH]
  exact as5 (asQ _ _) (by simp;omega)
 have k3:=aip M (inR c near++Dj c lo near) (by simp;omega)
 have h5:c.held.length<=50000:=by omega
 simp[-List.map_append,Bb,M7,k1,h5,k2,k3]
theorem Xd:∀(l:List (Int×Int)),(l.map fun p=>if p.2 - p.1 > 0 then p.2 - p.1 else 0).sum=((l.filter fun p=>decide (p.1 < p.2)).map fun p=>p.2 - p.1).sum
 |[]=>rfl
 |p::l=>by
  rw[asx,List.sum_cons,Xd l,atg]
  by_cases h:p.1 < p.2
  ·rw[if_pos (by omega),if_pos (by simpa using h),asx,List.sum_cons]
  ·rw[if_neg (by omega),if_neg (by simpa using h)]
   omega
theorem Yr(M:Mo)(x y:List Int)(h:x.length<=1000):Cy M [aJ x,aJ y]=.ok (.int (vq x y)):=by
 have key:=fj (tg:=bF [2,3]) (te:=aA oH (qC (.int 0)) (aA iK (ao 3) (ao 2))) (M:=M) (ρ:=[some (.dat (aJ x)),some (.dat (aJ y)),none,none]) pD (fun p=>.int (if p.2 - p.1 > 0 then p.2 - p.1 else 0)) (x.zip y) fun p _=>⟨[some (.dat (aJ x)),some (.dat (aJ y)),some (.dat (.int p.1)),some (.dat (.int p.2))],by simp[pD],by simp⟩
 have hs:=Wc ((x.zip y).map fun p=>if p.2 - p.1 > 0 then p.2 - p.1 else 0)
 rw[Xd,as8]at hs
 have hz2:min x.length y.length<=50000:=by omega
 simp[Cy,U0,yP,key,hz2]
 simp[asU]at hs
 simp[hs,vq]
theorem alw(M:Mo)(x y:List Int)(h:x.length<=1000)(h2:y.length<=1000):Tp M [aJ x,aJ y]=.ok (.int (jm x y)):=by
 simp[Tp,adb,Yr M x y h,Yr M y x h2,jm]
theorem al8(M:Mo)(x y:List Int)(h:x.length<=1000):Tq M [aJ x,aJ y]=.ok (aJ (gA x y)):=by
 have key:=fj (tg:=bF [2,3]) (te:=aA oH (ao 2) (ao 3)) (M:=M) (ρ:=[some (.dat (aJ x)),some (.dat (aJ y)),none,none]) pD (fun p=>.int (if p.2 > p.1 then p.2 else p.1)) (x.zip y) fun p _=>⟨[some (.dat (aJ x)),some (.dat (aJ y)),some (.dat (.int p.1)),some (.dat (.int p.2))],by simp[pD],by simp⟩
 have hz2:min x.length y.length<=50000:=by omega
 simp[Tq,acp,yP,key,hz2,gA]
def Dk(o:Int)(e:List Int)(room:Int)(r:Rw):Bool:=!(r.1==o)&&decide (jm e r.2<=room)
def zG:Option Rw->Dat
 |none=>.none
 |some r=>Ear.rD r
theorem agq(M:Mo)(x0:Option Cell)(o:Int)(e:List Int)(room:Int)(he:e.length<=1000)(f:Option Rw)(r:Rw)(hr:r.2.length<=1000)(hf:∀s,f=some s->Ear.rk s < Ear.rk r) :
  jO M [x0,some (.dat (.int o)),some (.dat (aJ e)),some (.dat (.int room)),some (.dat (zG f)),some (.dat (Ear.rD r))]=.next [x0,some (.dat (.int o)),some (.dat (aJ e)),some (.dat (.int room)),some (.dat (zG (f.or (if Dk o e room r=true then some r else none)))),some (.dat (Ear.rD r))] M:=by
 have h1:=alw M r.2 e hr he
 rw[acY]at h1
 have i0:aH (Ear.rD r) (.int 0)=.ok (.int r.1):=rfl
 have i1:aH (Ear.rD r) (.int 1)=.ok (aJ r.2):=rfl
 by_cases e1:r.1=o
 ·cases f <;> simp[jO,i0,e1,Dk,zG]
 ·by_cases e2:jm e r.2<=room
  ·cases f with
   |none=>simp[jO,i0,i1,e1,h1,e2,Dk,zG,gR]
   |some s=>
    have h2:=ahs r s
    rw[decide_eq_false (fun z=>List.lt_irrefl _ (List.lt_trans z (hf s rfl)))]at h2
    have h3:gR .none (Ear.rD s)=false:=rfl
    simp[jO,i0,i1,e1,h1,e2,Dk,zG,h2,h3]
  ·cases f <;> simp[jO,i0,i1,e1,h1,e2,Dk,zG]
theorem Z6(M:Mo)(x0:Option Cell)(o:Int)(e:List Int)(room:Int)(he:e.length<=1000):∀(T:List Rw) (f:Option Rw) (x5:Option Cell),Ear.Di T->(∀r∈T,r.2.length<=1000)->(∀s,f=some s->∀r∈T,Ear.rk s < Ear.rk r)->∃y5,
  eZ (aF 5) jO (T.map Ear.rD) M [x0,some (.dat (.int o)),some (.dat (aJ e)),some (.dat (.int room)),some (.dat (zG f)),x5]=.next [x0,some (.dat (.int o)),some (.dat (aJ e)),some (.dat (.int room)),some (.dat (zG (f.or (T.find? (Dk o e room))))),y5] M
 |[],f,x5,_,_,_=>⟨x5,by simp[eZ]⟩
 |r::T,f,x5,hu,hl,hf=>by
  have hu':=List.pairwise_cons.mp hu
  have hs:=agq M x0 o e room he f r (hl r asz) fun s z=>hf s z r asz
  obtain⟨y5,h2⟩:=Z6 M x0 o e room he T (f.or (if Dk o e room r=true then some r else none)) (some (.dat (Ear.rD r))) hu'.2 (fun s hs=>hl s (asy _ hs)) fun s z t ht=>by
   cases f with
   |some u=>exact hf s (by simpa using z) t (asy _ ht)
   |none=>
    simp at z
    rw[←z.2]
    exact hu'.1 t ht
  refine⟨y5,?_⟩
  rw[asx,gK (ρ1:=[x0,some (.dat (.int o)),some (.dat (aJ e)),some (.dat (.int room)),some (.dat (zG f)),some (.dat (Ear.rD r))]) (by simp) hs,h2,List.find?_cons]
  cases f <;> cases Dk o e room r <;> simp
theorem Yn(M:Mo)(T:List Rw)(hu:Ear.Di T)(hl:sS T)(o:Int)(e:List Int)(he:e.length<=1000)(room:Int):vm M [.list (T.map Ear.rD),.int o,aJ e,.int room]=.ok (zG (T.find? (Dk o e room))):=by
 obtain⟨y5,h⟩:=Z6 M (some (.dat (.list (T.map Ear.rD)))) o e room he T none none hu (fun r hr=>by rw[hl r hr];decide) (fun s z=>nomatch z)
 have h:eZ (aF 5) jO (T.map Ear.rD) M [some (.dat (.list (T.map Ear.rD))),some (.dat (.int o)),some (.dat (aJ e)),some (.dat (.int room)),some (.dat .none),none]=.next [some (.dat (.list (T.map Ear.rD))),some (.dat (.int o)),some (.dat (aJ e)),some (.dat (.int room)),some (.dat (zG (T.find? (Dk o e room)))),y5] M:=h
 simp[vm,Gj,h]
theorem aeP(o:Int)(e:List Int)(R:List Rw)(room:Int):(bM R).find? (Dk o e room)=(qQ o e (bM R) room).head?:=by
 unfold qQ
 rw[afx,List.head?_filter]
 rfl
def clD(o:Int)(e:List Int):Option Rw->Dat
 |none=>.none
 |some r=>.tuple [.str "Clash",.tuple [Ear.rD (o,e),Ear.rD r,aJ (gA e r.2)]]
theorem agj(M:Mo){n s:Nat}(c:aM)(I:Inv n s c)(hs:s<=76)(x lo o:Int)(h:Vg c x)(e:List Int)(he:e.length=6):CG M [eG c,.int x,.int lo,.int o,aJ e]=.ok (clD o e (qQ o e (bM (eV c lo x)) (roomOf c x)).head?):=by
 have f0:=I.hL
 have h1:=adk h
 have hc:=I.gr.at h
 have hl:(bA c x).length<=1000:=by have:=I.gr.clen hc;omega
 have h2:=acF M c (by omega) (by omega) (aJ (bA c x)) (bA c x) (fun y=>by have:=ajD false y _ hl;simpa using this) lo
 have h3:=Yn M (bM (inR c (bA c x)++Dj c lo (bA c x))) (zA _) (wM I.Mh) o e (by omega) (roomOf c x)
 have h4:=acU M c I.gr x h
 rw[aeP]at h3
 have e1:inR c (bA c x)++Dj c lo (bA c x)=eV c lo x:=rfl
 rw[e1]at h2 h3
 generalize (qQ o e (bM (eV c lo x)) (roomOf c x)).head?=f at h3 ⊢
 cases f with
 |none=>simp[CG,NK,h1,h2,h4,h3,zG,clD,gR]
 |some r=>
  have i1:aH (Ear.rD r) (.int 1)=.ok (aJ r.2):=rfl
  have i2:gR .none (Ear.rD r)=false:=rfl
  have h5:=al8 M e r.2 (by omega)
  simp[CG,NK,h1,h2,h4,h3,zG,clD,i1,i2,h5]
  rfl
def GJ(x:dD):Dat:=match x.fs with
 |[(_,e),(_,b),(_,a)]=>.tuple [a,b,e]
 |_=>.none
def CW(c:aM):Res->Dat
 |.ok d c'=>.tuple [.str "",d,eG c']
 |.no x=>.tuple [.str x.cls,GJ x,eG c]
def an1(M:Mo)(L:Lay)(n s:Nat)(o:bx Dat):Res->Prop
 |.ok d c'=>∃M' L',L'.c=L.c/\o=.ok (.tuple [.str "",d]) M'/\At M' L' c'/\Inv n s c'
 |.no x=>o=.ok (.tuple [.str x.cls,GJ x]) M
@[simp]theorem aop (o:Int) (e:List Int) (r:Rw):PL "Clash" (pW o e r) (.flds ["ones","others","ear"])=some (.tuple [Ear.rD (o,e),Ear.rD r,aJ (gA e r.2)]):=by
 have h1:lf (aJ (gA e r.2))=true:=by
  have:∀l:List Int,Ot (l.map PyData.int)=true:=fun l=>by
   induction l with
   |nil=>rfl
   |cons i l ih=>rw[asx,Ot,lf,ih];rfl
  rw[lf,this]
 have h2:∀r:Rw,lf (Ear.rD r)=true:=fun r=>by
  have:∀l:List Int,Ot (l.map PyData.int)=true:=fun l=>by
   induction l with
   |nil=>rfl
   |cons i l ih=>rw[asx,Ot,lf,ih];rfl
  simp[Ear.rD,Ear.dT,lf,Ot,this]
 simp[PL,Nz,U8,pW,h1,h2]
@[simp]theorem anE (o:Int) (e:List Int) (r:Rw):(pW o e r).cls="Clash":=rfl
@[simp]theorem anG (o:Int) (e:List Int) (r:Rw):GJ (pW o e r)=.tuple [Ear.rD (o,e),Ear.rD r,aJ (gA e r.2)]:=rfl
@[simp]theorem arX (x:Str):GJ ⟨x,[]⟩=.none:=rfl
theorem lk_row(n:Nat)(r:Rw):lk (n+2) (Ear.rD r)=true:=by simp[Ear.rD,Ear.dT,lk,vD]
theorem amV(x:dD)(h:x.fs=[]∨∃o e r,x=pW o e r):lk 8 (GJ x)=true:=by
 rcases h with h|⟨o,e,r,rfl⟩
 ·simp[GJ,h,lk]
 ·have h1:=lk_row 5 r
  have h2:=lk_row 5 (o,e)
  simp[lk,vD,h1,h2]
theorem acT{c:aM}(o:Int)(e:List Int)(R:List Rw)(room:Int)(r:Res):(qQ o e (bM R) room=[]/\rO o e R room r=r)∨∃x l,qQ o e (bM R) room=x::l/\rO o e R room r=.no (pW o e x):=by
 cases h:qQ o e (bM R) room with
 |nil=>exact .inl ⟨rfl,by simp[rO,h]⟩
 |cons x l=>exact .inr ⟨x,l,rfl,by simp[rO,h]⟩
def Ma(k o g:Int)(b:cZ):cZ:=if sO k b&&b.sd.al then lF b (.followed o g) else b
theorem ai1(M:Mo)(x0:Option Cell)(k o g:Int)(X:Dat)(h0:aH X (.int 0)=.ok (.int o))(h1:aH X (.int 1)=.ok (.int g))(acc:List Dat)(b:cZ)(he:b.en.length<=5000)(ha:acc.length<=1000):qI M [x0,some (.dat (.int k)),some (.mut acc),some (.dat X),some (.dat (bU b))]=.next [x0,some (.dat (.int k)),some (.mut (acc++[bU (Ma k o g b)])),some (.dat X),some (.dat (bU (Ma k o g b)))] M:=by
 have ha:acc.length < 100000:=by omega
 have e2:b.en.length<=99998:=by omega
 have hbe:b.sd.due=none->b.sd.al=true->qN M [bU b,.int o,.int g,.none,aJ b.sd.ear,.tuple [.str "followed",.int o,.int g]]=.ok (bU (lF b (.followed o g))):=fun d1 d2=>by
  simp[qN,Io,e2,d2]
  simp[bU,lF,go,En.dat,d1,d2,jy]
 by_cases q1:b.mo=k
 ·cases q2:b.sd.al with
  |false=>simp[qI,q1,q2,Ma,ha]
  |true=>
   cases q3:b.sd.due with
   |none=>
    have hbe:=hbe q3 q2
    simp[qI,q1,q2,q3,Ma,sO,ha,jy,gR,h0,h1,hbe]
   |some e=>simp[qI,q1,q2,q3,Ma,sO,ha,jy,gR]
 ·simp[qI,q1,Ma,sO,ha]
theorem ab5(M:Mo)(x0:Option Cell)(k o g:Int)(X:Dat)(h0:aH X (.int 0)=.ok (.int o))(h1:aH X (.int 1)=.ok (.int g)):∀(bs:List cZ) (acc:List Dat) (x4:Option Cell),(∀b∈bs,b.en.length<=5000)->acc.length+bs.length<=1000->∃y4,
  eZ (aF 4) qI (bs.map bU) M [x0,some (.dat (.int k)),some (.mut acc),some (.dat X),x4]=.next [x0,some (.dat (.int k)),some (.mut (acc++bs.map fun b=>bU (Ma k o g b))),some (.dat X),y4] M
 |[],acc,x4,_,_=>⟨x4,by simp[eZ]⟩
 |b::bs,acc,x4,he,ha=>by
  rw[asM]at ha
  obtain⟨y4,h2⟩:=ab5 M x0 k o g X h0 h1 bs (acc++[bU (Ma k o g b)]) (some (.dat (bU (Ma k o g b)))) (fun b hb=>he b (asy _ hb)) (by rw[atb,List.length_singleton];omega)
  refine⟨y4,?_⟩
  rw[asx,gK (ρ1:=[x0,some (.dat (.int k)),some (.mut acc),some (.dat X),some (.dat (bU b))]) (by simp) (ai1 M x0 k o g X h0 h1 acc b (he b asz) (by omega)),h2]
  simp
theorem adS(M:Mo)(c:aM)(hb:c.bs.length<=1000)(he:∀b∈c.bs,b.en.length<=5000)(k:Int){d:cZ}(hk:bk c k=some d):DP M [.list (c.bs.map bU),.int k]=.ok (.list ((j6 c k d.sd.o d.sd.g).bs.map bU)):=by
 obtain⟨y4,h⟩:=ab5 M (some (.dat (.list (c.bs.map bU)))) k d.sd.o d.sd.g (bU d) rfl rfl c.bs [] none he (by simp;omega)
 have h1:=QV hk
 have e:(j6 c k d.sd.o d.sd.g).bs.map bU=c.bs.map fun b=>bU (Ma k d.sd.o d.sd.g b):=by
  simp[j6,nH,asU,Ma]
 rw[e]
 simp only[List.nil_append]at h
 simp[DP,Pa,h1,h]
theorem aiy{c:aM}{k:Int}{b:cZ}(h:bk c k=some b)(e:En):bk (dX c (k - 1).toNat e) k=some (lF b e):=by
 obtain⟨h1,h2,h3⟩:=lU h
 have hl:=wu c (k - 1).toNat e
 unfold bk
 rw[hl,if_pos ⟨h2,h3⟩,tD,if_pos rfl,h1]
 rfl
theorem agu{M:Mo}{L:Lay}{c:aM}(a:At M L c)(d:bJ)(hd:Eu d)(hf:fG d=false):fL M [ob L.c,d.dat,dG c]=.ok (dG c) M:=by
 have hc:=a.hc
 have h0:=abN M d hd
 rw[hf]at h0
 have h1:cD M [ob L.c,d.dat]=.exc ⟨"BadDeed",[]⟩ M:=by
  simp[cD,cR,h0]
 simp[fL,Hu,hc,aQ,ou,h1,gR,pN]
theorem Now.QK{M:Mo}{L:Lay}{n s:Nat}{c:aM}(N:Now M L n s c)(hs:s<=76)(hn:n<=199)(d:bJ)(hd:Eu d):∃M' bs c',fL M [ob L.c,d.dat,dG c]=.ok (dG c') M'/\Now M' { L with bs:=bs } (n+1) (s+cost d) c':=by
 cases hf:fG d with
 |true=>
  obtain⟨M',bs,h1,h2⟩:=N.done hs hn d hd hf
  exact⟨M',bs,_,h1,h2⟩
 |false=>exact⟨M,L.bs,c,agu N.at_ d hd hf,N.at_,N.inv.mono (by omega) (by omega),N.rch.le (by omega)⟩
theorem acf{c:aM}{k g:Int}{x:dD}(e:cG c (.move k g)=.no x):x.fs=[]/\(x.cls="NoBeast"∨x.cls="Dead"∨x.cls="Unmarked"∨x.cls="NoGround"∨x.cls="SameGround"∨x.cls="NoRight")∨∃o e r,x=pW o e r:=by
 simp only[cG,markB,uo,uX,lu,rO]at e
 (repeat' split at e) <;> cases e <;> first | exact .inr ⟨_,_,_,rfl⟩ | (left;simp)
theorem akX{x:dD}(h:x.fs=[]):GJ x=.none:=by simp[GJ,h]
theorem ahW{M:Mo}{L:Lay}{n s:Nat}{c:aM}(a:At M L c)(I:Inv n s c)(hs:s<=76)(hn:n<=199)(k g:Int):an1 M L (n+1) s (Ds M [ob L.c,.int k,.int g]) (cG c (.move k g)):=by
 have hc:=a.hc
 have h1:=ake I hn (adQ a I hs (by omega) k g)
 cases e:cG c (.move k g) with
 |ok r c'=>
  rw[e]at h1
  obtain⟨M',L',hL,h1,h2,h3⟩:=h1
  exact⟨M',L',hL,by simp[Ds,Ky,hc,aQ,iz,h1],h2,h3⟩
 |no x=>
  rw[e]at h1
  have h1:_=_:=h1
  show _=_
  rcases acf e with⟨hf,hx⟩|⟨o,e,r,rfl⟩
  ·have hf:=akX hf
   rcases hx with hx|hx|hx|hx|hx|hx <;> simp[Ds,Ky,hc,aQ,iz,h1,hx,hf,BZ,Nk,zV,zY,v9,Cr]
  ·simp[Ds,Ky,hc,aQ,iz,h1,BZ,Nk,zV,zY,v9,Cr,QM]
theorem als(M:Mo){n s:Nat}(c:aM)(I:Inv n s c)(hs:s<=76)(hn:n<=199)(k g:Int):vU M [eG c,.int k,.int g]=.ok (CW c (cG c (.move k g))):=by
 have f0:=I.hL
 have hb:c.bs.length<=50000:=by omega
 have h1:=aa7 M c k true
 unfold hbW at h1
 simp only[cG,markB,uo]
 cases h:bk c k with
 |none=>
  rw[h]at h1
  simp[vU,zX,CW,h1]
 |some b=>
  rw[h]at h1
  have h3:=QV h
  show _=Out.ok (CW c (if b.sd.al=true then _ else _))
  cases e1:b.sd.al with
  |false=>
   simp[e1]at h1
   simp[vU,zX,CW,h1]
  |true=>
   simp only[if_true]
   cases e0:b.sd.due with
   |none=>
    simp[e1,e0]at h1
    simp[vU,zX,CW,h1]
   |some e=>
    simp[e1,e0]at h1
    obtain⟨h4,h5,h6⟩:=lU h
    have mem:=asC h4
    have h2:=TY M c g
    have h7:=aa1 M c (by omega) b.sd.o g
    have hn1:=(eq_nil ((bK c b.sd.o g).map aJ) (DW.mpr fun d hd=>by
     obtain⟨e,_,rfl⟩:=asJ.mp hd
     exact CP 10 e)).1
    have en1:((bK c b.sd.o g).map aJ).isEmpty=decide (bK c b.sd.o g=[]):=by cases bK c b.sd.o g <;> simp
    rw[en1]at hn1
    simp only[uX]
    by_cases q1:Vg c g
    rotate_left
    ·rw[if_neg q1]
     rw[decide_eq_false q1]at h2
     simp[vU,zX,CW,h1,h3,h2]
    rw[if_pos q1]
    rw[decide_eq_true q1]at h2
    by_cases q2:b.sd.g=g
    ·rw[if_pos q2]
     simp[vU,zX,CW,h1,h3,h2,q2]
    rw[if_neg q2]
    have q2':¬g=b.sd.g:=fun z=>q2 z.symm
    simp only[lu]
    by_cases q3:bK c b.sd.o g=[]
    ·rw[if_pos q3]
     rw[decide_eq_true q3]at hn1
     simp[vU,zX,CW,h1,h3,h7,h2,q2',hn1]
    rw[if_neg q3]
    rw[decide_eq_false q3]at hn1
    have hje:=gJ (I.due b mem e e0)
    have h9:=agj M c I hs g 0 b.sd.o q1 e hje
    rcases acT (c:=c) b.sd.o e (eV c 0 g) (roomOf c g) (.ok (.int b.sd.g) (j6 (dX c (k - 1).toNat (.moved g)) k b.sd.o g)) with⟨p1,p2⟩|⟨x,l,p1,p2⟩
    rotate_left
    ·rw[p1]at h9
     rw[p2]
     simp[clD]at h9
     simp[vU,zX,CW,h1,h3,h7,h2,q2',hn1,h9,gR,e0,jy]
    rw[p1]at h9
    rw[p2]
    simp[clD]at h9
    have c1:=alK (c.bs.map bU) k h5
    have c2:=agR (c.bs.map bU) k h5
    have c3:=agD h (.moved g)
    have en:=I.en b mem
    have en2:b.en.length<=99998:=by omega
    have hbe:qN M [bU b,.int b.sd.o,.int g,aJ e,aJ b.sd.ear,.tuple [.str "moved",.int g]]=.ok (bU (lF b (.moved g))):=by
     simp[qN,Io,en2,e1]
     simp[bU,lF,go,En.dat,jy,e1,e0]
    have l2:min (k.toNat - 1) c.bs.length<=99999:=by omega
    have l3:min (k.toNat - 1) c.bs.length+(c.bs.length - k.toNat+1)<=100000:=by omega
    have l4:min (k.toNat - 1) c.bs.length+1+(c.bs.length - k.toNat)<=100000:=by omega
    have bi:=agH I h4 (.moved g) trivial
    have fo:=adS M (dX c (k - 1).toNat (.moved g)) (by rw[wu];omega) (fun b hb=>by have:=bi.en b hb;omega) k (aiy h (.moved g))
    rw[c3]at fo
    have e6:eG (j6 (dX c (k - 1).toNat (.moved g)) k b.sd.o g)=.tuple [lI c.own,.list ((List.range c.al.length).map (Ru c)),.list (c.held.map fJ),.list ((j6 (dX c (k - 1).toNat (.moved g)) k b.sd.o g).bs.map bU)]:=rfl
    have e7:(lF b (.moved g)).sd.o=b.sd.o/\(lF b (.moved g)).sd.g=g:=⟨rfl,rfl⟩
    rw[e7.1,e7.2]at fo
    show _=Out.ok (PyData.tuple [.str "",.int b.sd.g,eG (j6 (dX c (k - 1).toNat (.moved g)) k b.sd.o g)])
    rw[e6]
    generalize (j6 (dX c (k - 1).toNat (.moved g)) k b.sd.o g).bs.map bU=R at fo ⊢
    simp at fo
    simp[vU,zX,h1,h3,h7,h2,q2',hn1,h9,c1,c2,hbe,gR,l2,l3,l4,fo,e0,jy]
theorem agg(ns:List Int)(h:ns.length<=63):∃M,SM [] [.list (ns.map PyData.int)]=.ok (.bool true) M:=by
 obtain⟨c,M1,L1,head,M0,hL,h0,c0,hh,h1,N,c1⟩:=played ns
 generalize ns.getD 0 0=x0 at *
 generalize ns.getD 1 0=x at *
 have I:=N.inv
 obtain⟨_,_,_,_,_,_,_,_,⟨a,b,h2⟩,_⟩:=aeJ M1 c I.cnt.1 x head
 obtain⟨k,h3⟩:=aev M1 a x 3
 obtain⟨g,h4⟩:=aev M1 b x 4
 have E:∃M2 L2 c2,L2.c=0/\Now M2 L2 101 73 c2/\(bO (aY (aA bR (aA jQ (aA uf (ao 4) (qC (.int 3))) (qC (.int 2))) (qC (.int 0)))) (aC (aV (aF 3) (sJ fL (ak (aq 1) (ak (bh (ak (qC (.str "bear")) (ak (aA aH (ao 5) (qC (.int 1))) au))) (ak (aq 3) au)))))
 (aV (aF 3) (sJ fL (ak (aq 1) (ak (bh (ak (qC (.str "bear")) (ak (aA aH (ao 5) (qC (.int 1))) au))) (ak (aq 3) au)))))) aP) M1 [some (.dat (lI ns)),some (.dat (ob 0)),some (.dat (.int head)),some (.dat (dG c)),some (.dat (.int x)),some (.dat (.tuple [.str "move",.int a,.int b])),some (.dat (.int k)),some (.dat (.int g)),none,none,none,none]=.next [some (.dat (lI ns)),some (.dat (ob 0)),some (.dat (.int head)),some (.dat (dG c2)),some (.dat (.int x)),some (.dat (.tuple [.str "move",.int a,.int b])),some (.dat (.int k)),some (.dat (.int g)),none,none,none,none] M2:=by
  have hd3:∀z,decide (CDiv z 3)=true:=fun z=>decide_eq_true ⟨by decide,by decide⟩
  by_cases q:x / 3 % 2=0
  ·obtain⟨M2,b2,c2,w1,N2⟩:=N.QK (by decide) (by decide) (.bear a) trivial
   obtain⟨M3,b3,c3,w2,N3⟩:=N2.QK (show 72<=76 by decide) (by decide) (.bear a) trivial
   have w1:fL M1 [ob L1.c,.tuple [.str "bear",.int a],dG c]=_:=w1
   have w2:fL M2 [ob L1.c,.tuple [.str "bear",.int a],dG c2]=_:=w2
   rw[hL]at w1 w2
   exact⟨M3,{ L1 with bs:=b3 },_,hL,N3,by simp[hd3,q,w1,w2]⟩
  ·exact⟨M1,L1,c,hL,⟨N.at_,I.mono (by decide) (by decide),N.rch.le (by decide)⟩,by simp[hd3,q]⟩
 obtain⟨M2,L2,c2,hL2,N2,hE⟩:=E
 have l0:=N2.look (by decide)
 have hc0:=N2.at_.hc
 have F:∃M3 L3 c3 y9,L3.c=0/\Now M3 L3 102 74 c3/\(bO (gG (aY (aA bR (aA jQ (aA uf (ao 4) (qC (.int 7))) (qC (.int 2))) (qC (.int 0)))) (jW Ey pH (qC (.int 0)) (aA aH (ao 5) (qC (.int 1))) (dZ mj (aA aH (ao 8) (qC (.int 3)))))) (aC (aV (aF 9) (gOf (aR zH (ak (aA uf (ao 4) (qC (.int 5))) au))))
 (aV (aF 3) (sJ fL (ak (aq 1) (ak (bh (ak (qC (.str "enrol")) (ak (aA aH (aA aH (aA aH (ao 8) (qC (.int 3))) (aA iK (aA aH (ao 5) (qC (.int 1))) (qC (.int 1)))) (qC (.int 0))) (ak (aA aH (ao 5) (qC (.int 2))) (ak (aq 9) au))))) (ak (aq 3) au)))))) aP) M2 [some (.dat (lI ns)),some (.dat (ob 0)),some (.dat (.int head)),some (.dat (dG c2)),some (.dat (.int x)),some (.dat (.tuple [.str "move",.int a,.int b])),some (.dat (.int k)),some (.dat (.int g)),some (.dat (eG c2)),none,none,none]=.next [some (.dat (lI ns)),some (.dat (ob 0)),some (.dat (.int head)),some (.dat (dG c3)),some (.dat (.int x)),some (.dat (.tuple [.str "move",.int a,.int b])),some (.dat (.int k)),some (.dat (.int g)),some (.dat (eG c2)),y9,none,none] M3:=by
  have hd7:∀z,decide (CDiv z 7)=true:=fun z=>decide_eq_true ⟨by decide,by decide⟩
  have hd5:∀z,decide (CDiv z 5)=true:=fun z=>decide_eq_true ⟨by decide,by decide⟩
  have stay:∃M3 L3 c3,L3.c=0/\Now M3 L3 102 74 c3/\M3=M2/\c3=c2:=⟨M2,L2,c2,hL2,⟨N2.at_,N2.inv.mono (by decide) (by decide),N2.rch.le (by decide)⟩,rfl,rfl⟩
  obtain⟨M3,L3,c3,s1,s2,rfl,rfl⟩:=stay
  by_cases q:x / 7 % 2=0
  rotate_left
  ·exact⟨M3,L3,c3,none,s1,s2,by simp[hd7,q]⟩
  by_cases q1:0 < a
  rotate_left
  ·exact⟨M3,L3,c3,none,s1,s2,by simp[hd7,q,q1]⟩
  by_cases q2:a<=c3.bs.length
  rotate_left
  ·exact⟨M3,L3,c3,none,s1,s2,by simp[hd7,q,q1,q2]⟩
  obtain⟨j,hj,hjl⟩:∃j:Nat,a - 1=j/\j < c3.bs.length:=⟨(a - 1).toNat,by omega,by omega⟩
  have hat:c3.bs[j]?=some c3.bs[j]:=asw hjl
  generalize c3.bs[j]=bb at hat
  have he:=Zx M3 (x / 5)
  have hel:=Mf (x / 5)
  obtain⟨M4,b4,c4,w1,N4⟩:=N2.QK (by decide) (by decide) (.enrol bb.sd.o b (xM (x / 5))) (by show(xM (x / 5)).length<=1000;omega)
  have w1:fL M3 [ob L2.c,.tuple [.str "enrol",.int bb.sd.o,.int b,aJ (xM (x / 5))],dG c3]=_:=w1
  rw[hL2]at w1
  refine⟨M4,{ L2 with bs:=b4 },c4,some (.dat (aJ (xM (x / 5)))),hL2,N4,?_⟩
  simp[hd7,hd5,q,q1,q2,hj,hat,he,w1]
 obtain⟨M3,L3,c3,y9,hL3,N3,hF⟩:=F
 have I3:=N3.inv
 have l1:=N3.look (by decide)
 have hc1:=N3.at_.hc
 have h5:=als M3 c3 I3 (by decide) (by decide) k g
 have h6:=ahW N3.at_ I3 (by decide) (by decide) k g
 rw[hL2]at l0 hc0
 rw[hL3]at l1 hc1 h6
 cases e:cG c3 (.move k g) with
 |ok d c'=>
  rw[e]at h5 h6
  obtain⟨M4,L4,hL4,h6,a2,I4⟩:=h6
  have hd:lk 8 d=true:=by
   simp only[cG,markB,uo,uX,lu,rO]at e
   (repeat' split at e) <;> cases e
   simp[lk]
  have k1:lO 10 M4 [.tuple [.str "",d],.tuple [.str "",d]]=.ok (.bool true):=Uu M4 9 _ (by simp[lk,vD,hd])
  have k2:=V2 M4 c'
  have l2:=ahu a2 I4 (by decide)
  have hc2:=a2.hc
  rw[hL4,hL3]at l2 hc2
  refine⟨M4,?_⟩
  have z:Rf.cutD [PyData.str "",d,eG c'] none (some 2)=[PyData.str "",d]:=rfl
  simp[-Rf.ev_if,SM,XS,h0,c0,←hh,h1,c1,h2,h3,h4,hE,hc0,l0,hF,hc1,aQ,lE,l1,h5]
  simp[h6,hc2,aQ,l2,CW,z,k1,k2]
 |no y=>
  rw[e]at h5 h6
  have h6:_=_:=h6
  have hy:lk 8 (GJ y)=true:=amV y (by rcases acf e with h|h;exact .inl h.1;exact .inr h)
  have k1:lO 10 M3 [.tuple [.str y.cls,GJ y],.tuple [.str y.cls,GJ y]]=.ok (.bool true):=Uu M3 9 _ (by simp[lk,vD,hy])
  have k2:=V2 M3 c3
  refine⟨M3,?_⟩
  have z:Rf.cutD [PyData.str y.cls,GJ y,eG c3] none (some 2)=[PyData.str y.cls,GJ y]:=rfl
  simp[-Rf.ev_if,SM,XS,h0,c0,←hh,h1,c1,h2,h3,h4,hE,hc0,l0,hF,hc1,aQ,lE,l1,h5]
  simp[h6,hc1,aQ,l1,CW,z,k1,k2]
end Pr
open PySem PySem.W PySem.Calls PyProof.Rows
set_option maxHeartbeats 0 in
theorem PySem.Challenge.cw_earmarks_k39_moved_holds : PySem.Challenge.rw_earmarks_k39_moved.Holds := by
 w_on;o_law
 refine HandSHeadRun.head_any (r:=OpenLaw.row PySem.Challenge.rw_earmarks_k39_moved) (q:=view (OpenLaw.row PySem.Challenge.rw_earmarks_k39_moved).prog [100]) (H:=Pr.hkE) (ob:=Pr.obE) (M:=40000) (loose:=Pr.nm) (d:=HandSHeadRun.topDef (OpenLaw.row PySem.Challenge.rw_earmarks_k39_moved).prog 100) (kwd:=[]) Pr.akc (by kernel_rfl) (fun s=>by kernel_rfl) Pr.run (by kernel_rfl) (by kernel_rfl) (by kernel_rfl) (by rfl) (by first | assumption | decide +kernel) (by decide +kernel) ⟨rfl,rfl,rfl,rfl,rfl,by decide +kernel⟩ ?hw ?hc
 case hw=>w_witness2
 case hc=>
  refine L2.walk_ofE (l:=PySem.Challenge.rw_earmarks_k39_moved) (n:=63) (k:=13) (x:="_law_script") (CX:=L2.CX0) rfl (by decide) (by kernel_rfl) ⟨rfl,by decide,by decide⟩ ?F (fun _ _ _ _ z=>z)
  intro w mg fa h Y G hmg0
  obtain⟨K,KX,c⟩:=Y
  have hmg:mg ("law" : PySem.Str)=some (.ref fa):=by
   have e:(HandSHeadRun.topDef (OpenLaw.row PySem.Challenge.rw_earmarks_k39_moved).prog 100).name=("law" : PySem.Str):=by kernel_rfl
   rw[←e]
   exact hmg0
  have T:Pr.Top w K mg:=⟨⟨h,KX,G⟩,c⟩
  have e:=hmg.symm.trans (T.glo 112)
  cases e
  obtain⟨fd,F⟩:=T.c.WD 112
  have b:=L2.FunD.bindsA (ps:=["_law_script"]) F fun _ _ _ _ _ _ us hl=>match us,hl with|[_],_=>rfl
  exact⟨K,fd,fun vs H Q _=>Rf.JV K (Pr.aj w K) 1 Pr.SM vs H Q fun _ _ _=>False,KX,fun s v=>b s [v] rfl,fun H a ns hl _ hS=>(Pr.agg ns hl).elim fun _ z=>Rf.amu rfl hS z,fun base _ _=>Rf.ac3 (Pr.ano T F)⟩

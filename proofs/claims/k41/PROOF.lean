import PyProof.Rows.All
import Wide.All
import OpenK.AllK
import Wide.FinOn
import HandS.ForMost
import HandS.Evl
import HandS.Walk
import HandS.Zip
import HandS.IsInst
import HandS.Style
import HandS.FStr
import HandS.Strs
import HandS.TupAny
import HandS.Deep
import HandS.Exc
import HandS.TryOnly
import HandS.ExcOwn
import HandS.WordsExc
import KE.GoesMore
import KE.GoesEnum
import KE.DataMinMax
import KE.SortData
import HandS.SortKw
import HandS.TupSets
import HandS.SetBool
import KE.KeyNested
import PyProof.Transfer
import HandS.DictComp
import HandS.Conv
import KE.KDictKeyed
import HandS.ExcField
import HandS.ExcInit
import HandS.TryMany
import HandS.HeadHook4
import HandS.HeadHook3
import HandS.HeadHook2
import HandS.HeadHook1
import HandS.HeadEnd
import HandS.Head2
import HandS.Head1
import HandS.Head0
import KE.KStateDown
import HandS.Flow
import KE.KUnpackStar
import KE.GoesEnumKw
import KE.KTupSum
import PySem.Challenge.RW_earmarks_k41_grounds_lie_together
set_option Elab.async false
set_option linter.all false
set_option maxRecDepth 100000
set_option maxHeartbeats 2000000
abbrev arI:=@Option.bind_eq_some_iff
abbrev arJ:=@PySem.W.Frag
abbrev arK:=@Bool.and_eq_true
abbrev arL:=@List.getElem?_eq_some_iff
abbrev arM:=@List.getElem?_eq_getElem
abbrev arN:=@List.map_cons
abbrev arO:=@List.mem_cons_of_mem
abbrev arP:=@List.mem_cons_self
abbrev arQ:=@List.mem_singleton
abbrev arR:=@List.mem_of_getElem?
abbrev arS:=@List.getElem?_set_ne
abbrev arT:=@List.length_map
abbrev arU:=@List.length_cons
abbrev arV:=@List.mem_map
abbrev arW:=@List.mem_append
abbrev arX:=@List.getElem?_append_left
abbrev arY:=@List.getElem?_map
abbrev arZ:=@List.mem_cons
abbrev ar0:=@List.length_filter_le
abbrev ar3:=@List.getElem?_set_self
abbrev ar4:=@Bool.not_eq_true'
abbrev ar5:=@Function.comp_def
abbrev ar6:=@List.getElem?_append_right
abbrev ar7:=@List.all_eq_true
abbrev ar8:=@Option.some.inj
abbrev ar9:=@List.mem_filter
abbrev ase:=@List.ext_getElem?
abbrev asf:=@List.length_set
abbrev ash:=@Nat.le_refl
abbrev asi:=@Nat.le_trans
abbrev asj:=@List.lookup_cons
abbrev asl:=@List.getElem?_eq_none
abbrev asn:=@List.map_map
abbrev aso:=@Bool.false_eq_true
abbrev asp:=@Nat.ne_of_lt
abbrev asq:=@List.mem_append_left
abbrev asr:=@List.not_mem_nil
abbrev asu:=@Array.length_toList
abbrev asv:=@List.all_cons
abbrev asw:=@List.length_append
abbrev asx:=@Nat.zero_le
abbrev asy:=@List.getElem?_mapIdx
abbrev asz:=@List.filter_cons
abbrev asB:=@List.getElem_mem
abbrev asC:=@Array.getElem?_toList
abbrev asF:=@List.mem_append_right
abbrev asH:=@List.nodup_append
abbrev asI:=@List.append_nil
abbrev asJ:=@List.length_reverse
abbrev asK:=@Nat.succ.inj
abbrev asM:=@Option.map_eq_some_iff
abbrev asN:=@List.drop_eq_getElem_cons
abbrev asO:=@List.getElem?_zip_eq_some
abbrev asQ:=@List.nodup_cons
abbrev asR:=@List.getElem?_set
abbrev asS:=@List.any_cons
abbrev asT:=@List.drop_length
abbrev asU:=@List.map_nil
abbrev asV:=@List.zip_cons_cons
abbrev asW:=@Bool.eq_iff_iff
abbrev asY:=@List.foldl_cons
abbrev asZ:=@Nat.lt_succ_of_lt
abbrev as3:=@List.size_toArray
abbrev as4:=@List.reverse_cons
abbrev as5:=@List.mem_of_mem_take
abbrev as6:=@List.eraseDups_cons
abbrev as7:=@List.pairwise_mergeSort
abbrev as8:=@List.filter_eq_self
abbrev as9:=@Bool.or_eq_true
abbrev ata:=@List.filter_filter
abbrev atb:=@List.nodup_nil
abbrev atc:=@List.any_map
abbrev atd:=@List.length_drop
abbrev ate:=@Nat.add_sub_cancel'
abbrev atf:=@Nat.add_left_cancel
abbrev atg:=@PySem.W.AllAlike.of
abbrev ath:=@List.drop_zero
namespace Rf
open PySem PySem.Spec PyProof.Rows L2 HandSHeadRun
abbrev Dat:=PyData
abbrev Ft:=List (Str×List Str)
structure Np(fa:List He.Fa)(fn:List He.DefD)(tb:List He.Tab)(ex:arJ->Bool)(w:World)(K:arJ):Prop where
 t:He.SaysT fa fn tb w K
 more:ex K=true
def acE(as:List Addr)(fa:List He.Fa)(fn:List He.DefD)(tb:List He.Tab)(ex:arJ->Bool)(g:Addr->Option Obj):He.AlX:=(He.obsT fa fn tb (He.frG g as),ex (He.frG g as))
def acd(as:List Addr)(fa:List He.Fa)(fn:List He.DefD)(tb:List He.Tab)(ex:arJ->Bool):PySem.W.Hook where
 α:=He.AlX
 obs:=fun s=>acE as fa fn tb ex s.heap.get?
 val:=fun w=>He.valX fn tb w
 says:=fun w h=>∃K:arJ,K.In h/\Np fa fn tb ex w K
 of:=fun w s e=>⟨_,He.frG_in,⟨congrArg (fun z:He.AlX=>z.1) e,congrArg (fun z:He.AlX=>z.2) e⟩⟩
 keeps:=fun _ _ _ ⟨K,hK,c⟩ k=>⟨K,PySem.W.Frag.In.keeps hK k,c⟩
theorem aiF{as:List Addr}{fa:List He.Fa}{fn:List He.DefD}{tb:List He.Tab}{ex:arJ->Bool}{g:Addr->Option Obj}{s:Shared}(h:∀a,g a=s.heap.get? a):acE as fa fn tb ex g=(acd as fa fn tb ex).obs s:=by
 rw[show g=s.heap.get? from funext h]
 rfl
def La(K:arJ)(ft:Ft):Bool:=ft.all fun p=>(He.Fa.cls p.1).ok K&&p.2.all fun f=>(He.Fa.noat p.1 f).ok K
def xmB(K:arJ)(xm:List (Str×List (Str×Bool))):Bool:=xm.all fun p=>p.2.all fun q=>(He.Fa.exm q.1 p.1 q.2).ok K
def akz(K:arJ)(C:Addr):Bool:=(match K.lookup C with
 |some ⟨.type t,_,.cls cd,sl⟩=>decide (t="type")&&(match cd.mro,sl.toList with
  |.ref C'::bm,[_,_,_,_,some (.builtin n),_]=>decide (C'=C)&&(decide (n="ValueError.__new__")&&(!cd.hasDel&&(cd.hasDict&&PySem.HandSPX.refsVE bm)))
  |_,_=>false)
 |_=>false)&&(He.eqO (PySem.W.findIn K (.ref C) "__setattr__") (some (some (.builtin "object.__setattr__")))&&(decide (PySem.W.subIn K (.ref C) (.type "BaseException")=some true)&&(decide (PySem.W.typeIn K (.ref C)=some (.type "type"))&&PySem.W.keepIn K (.ref C))))
def TQ(K:arJ)(x:Str)(fs:List Str):Bool:=akz K (He.ga K x)&&(He.eqO (PySem.W.findIn K (.ref (He.ga K x)) "__init__") (some (some (.ref (He.ma K (He.ga K x) "__init__"))))&&(decide (PySem.W.typeIn K (.ref (He.ma K (He.ga K x) "__init__"))=some (.type "function"))&&(xfB K (He.ga K x)&&fs.all fun f=>He.eqO (PySem.W.findIn K (.ref (He.ga K x)) f) (some none))))
def XM(K:arJ)(a:Addr)(xs:List Str):Bool:=match K.lookup a with
 |some ⟨.type c,_,.seq its _,_⟩=>decide (c="tuple")&&(decide (its.size<=sizeLine)&&He.relAll (xs.map V.str) its.toList)
 |_=>false
def agb(K:arJ)(x:Str)(kvs:List (Str×List Str)):Bool:=(match K.lookup (He.ga K x) with
 |some ⟨_,_,.dict es _,_⟩=>es.toList.all (fun e=>(match e.key with
   |.str y _=>(kvs.map (·.1)).contains y
   |_=>false)&&!e.refKey)
 |_=>false)&&(decide ((kvs.map (·.1)).Nodup)&&kvs.all fun q=>match PySem.W.nsIn K (He.ga K x) q.1 with
  |some (some (.ref a))=>XM K a q.2
  |_=>false)
section
open PySem.W PySem.Calls
noncomputable abbrev alx (r:PySem.W.OpenRow) (M:Nat) (w:World) (os:PySem.OsState):Option PySem.W.SharedT:=endF (stepQ (denQ tabQ) r.prog w) M r.prog w os
def afx(r:PySem.W.OpenRow)(q:Program)(as:List Addr)(ex:arJ->Bool)(M:Nat)(loose:List Str)(w:World):Prop:=∀os,(alx r M w os).map (fun s=>(looksF r.prog (boot_heap w.params) s.abs,HandSHeadRun.seenQ q loose (importedModules r.prog.main.body) (fun s=>PySem.W.xlAt q [] s&&PySem.W.recOk r.toRowW.records s) s.abs,ex (He.frG (getT s) as)))=some (true,PySem.W.openGood q loose,true)
def afD(r:PySem.W.OpenRow)(as:List Addr)(fa:List He.Fa)(fn:List He.DefD)(tb:List He.Tab)(M:Nat)(w:World):Prop:=∀os,(alx r M w os).map (fun s=>He.obsT fa fn tb (He.frG (getT s) as))=some (He.valT fn tb w)
theorem VN{r:PySem.W.OpenRow}{q:Program}{as:List Addr}{fa:List He.Fa}{fn:List He.DefD}{i:List He.Tab}{e:arJ->Bool}{M:Nat}{b:List Str}{w:World}(a:afx r q as e M b w)(c:afD r as [] fn i M w)(z:afD r as fa [] [] M w):RunEq r q (acd as fa fn i e) (λs=>acE as fa fn i e (getT s)) M b w:=λos=>by
 obtain⟨s,j,f⟩:=Option.map_eq_some_iff.mp (a os);obtain⟨f,g⟩:=Prod.mk.inj f;obtain⟨g,k⟩:=Prod.mk.inj g;have d:=c os;have l:=z os;have h:endF (stepQ (denQ tabQ) r.prog w) M r.prog w os=some s:=j;rw[j,Option.map_some]at d l;have l:=(He.ba (Prod.mk.inj (Prod.mk.inj (Option.some.inj l)).1).1).1
 have o:He.obsT fa fn i (He.frG (getT s) as)=He.valT fn i w:=by
  show ((fa.all (λf=>f.ok _)&&_,_),_)=_
  rw[l];exact Option.some.inj d
 rw[h,Option.map_some];exact congrArg some (Prod.ext f (Prod.ext g (Prod.ext o k)))
end
end Rf
namespace Pr
open PySem PySem.Spec PyProof.Rows L2 Evl Rf
def cR:Dat:=.int 9
def ju:Dat:=.int 1
def j9:Dat:=.int 3
def gR:Dat:=.int 9
def iW:Dat:=.tuple [.str "lt",.str "lf",.str "lh",.str "rt",.str "rf",.str "rh"]
def jC:Dat:=.tuple [.int 0,.int 0,.int 0,.int 0,.int 0,.int 0]
def oO:Dat:=.int 999999999
def yu:List (Str×List Str):=[("owner",[]),("ground",["number"]),("enrol",["number","number","ear"]),("leave",["number","number"]),("bring",["number","number","ear"]),("bear",["number"]),("cut",["number"]),("tear",["number","place"]),("sell",["number","number"]),("move",["number","number"]),("die",["number"]),("unite",["number","number"]),("part",["number"]),("pass",["number","number"]),("heir",["number","number","number"])]
def jZ:Ft:=[("Beast",["story","mother","owner","ground","due","ear","alive"]),("Herd",["beasts"]),("Grounds",["allowances","circles"]),("Rights",["held"]),("Commons",["owner_count","holders","grounds","rights","herd"])]
def pX:List (Str×Bool):=[("NoGround",true),("NoOwner",true),("NoRight",true),("HasRight",true),("NoneFree",true),("BadExtra",true),("BadAllowance",true),("Clash",true),("BadEar",true),("Bare",true),("StillThere",true),("NoBeast",true),("Dead",true),("Unmarked",true),("Deepest",true),("NoPlace",true),("SameOwner",true),("SameGround",true),("Together",true),("Alone",true),("BadDeed",true)]
def zM:List (Str×Bool):=[("NoGround",true),("NoOwner",false),("NoRight",false),("HasRight",false),("NoneFree",false),("BadExtra",false),("BadAllowance",false),("Clash",false),("BadEar",false),("Bare",false),("StillThere",false),("NoBeast",false),("Dead",false),("Unmarked",false),("Deepest",false),("NoPlace",false),("SameOwner",false),("SameGround",false),("Together",false),("Alone",false),("BadDeed",false)]
def zq:List (Str×Bool):=[("NoGround",false),("NoOwner",false),("NoRight",false),("HasRight",false),("NoneFree",false),("BadExtra",false),("BadAllowance",false),("Clash",false),("BadEar",false),("Bare",false),("StillThere",false),("NoBeast",false),("Dead",false),("Unmarked",false),("Deepest",false),("NoPlace",false),("SameOwner",false),("SameGround",false),("Together",true),("Alone",false),("BadDeed",false)]
def O4:List (Str×Bool):=[("NoGround",false),("NoOwner",false),("NoRight",false),("HasRight",false),("NoneFree",false),("BadExtra",false),("BadAllowance",false),("Clash",true),("BadEar",false),("Bare",false),("StillThere",false),("NoBeast",false),("Dead",false),("Unmarked",false),("Deepest",false),("NoPlace",false),("SameOwner",false),("SameGround",false),("Together",false),("Alone",false),("BadDeed",false)]
def xmH:List (Str×List (Str×Bool)):=[("CommonError",pX),("NoGround",zM),("Together",zq),("Clash",O4)]
def dfH:List (Str×Bool):=[("held",true),("holders",false)]
def Ws:List (Str×List Str):=[("Clash",["ones","others","ear"])]
def aY(i:Nat):Stmt:=PySem.Challenge.pw_earmarks_k41_grounds_lie_together.main.body.getD i (.Pass ⟨0,0,0,0⟩)
abbrev Gm:Stmt:=inClass (aY 50) 0
abbrev JV:Stmt:=inClass (aY 55) 0
abbrev Ot:Stmt:=inClass (aY 35) 0
abbrev G4:Stmt:=inClass (aY 66) 0
abbrev JW:Stmt:=inClass (aY 34) 2
abbrev LC:Stmt:=inClass (aY 34) 4
abbrev Di:Stmt:=inClass (aY 66) 17
abbrev Bu:Stmt:=inClass (aY 55) 1
abbrev GP:Stmt:=inClass (aY 50) 3
abbrev JX:Stmt:=inClass (aY 50) 2
abbrev Gn:Stmt:=inClass (aY 50) 4
abbrev yr:Stmt:=inClass (aY 50) 5
abbrev zX:Stmt:=inClass (aY 50) 6
abbrev zQ:Stmt:=inClass (aY 66) 19
abbrev Hz:Stmt:=inClass (aY 66) 32
abbrev s_row:Stmt:=aY 76
abbrev aag:Stmt:=aY 77
abbrev agw:Stmt:=aY 78
abbrev Oo:Stmt:=aY 79
abbrev WL:Stmt:=aY 80
abbrev yc:Stmt:=inClass (aY 66) 33
abbrev Hu:Stmt:=inClass (aY 55) 3
abbrev Av:Stmt:=inClass (aY 55) 4
abbrev wU:Stmt:=inClass (aY 66) 34
abbrev yg:Stmt:=inClass (aY 66) 1
abbrev Aq:Stmt:=inClass (aY 55) 2
abbrev aen:Stmt:=aY 47
abbrev abT:Stmt:=aY 44
abbrev Oj:Stmt:=aY 52
abbrev ab1:Stmt:=aY 45
abbrev ae3:Stmt:=aY 46
abbrev Mf:Stmt:=aY 53
abbrev wC:Stmt:=inClass (aY 66) 35
abbrev YW:Stmt:=aY 57
abbrev Bw:Stmt:=inClass (aY 35) 5
abbrev Ge:Stmt:=inClass (aY 35) 6
abbrev yq:Stmt:=inClass (aY 55) 7
abbrev vq:Stmt:=inClass (aY 66) 22
abbrev Ab:Stmt:=inClass (aY 66) 21
abbrev HX:Stmt:=inClass (aY 50) 7
abbrev Ie:Stmt:=inClass (aY 66) 18
abbrev Ad:Stmt:=inClass (aY 66) 15
abbrev wF:Stmt:=inClass (aY 50) 1
abbrev yd:Stmt:=inClass (aY 66) 2
abbrev W3:Stmt:=aY 58
abbrev abt:Stmt:=aY 43
abbrev Ss:Stmt:=aY 59
abbrev xJ:Stmt:=inClass (aY 66) 36
abbrev Yd:Stmt:=aY 28
abbrev Q9:Stmt:=aY 65
abbrev Ey:Stmt:=inClass (aY 66) 3
abbrev JG:Stmt:=inClass (aY 55) 5
abbrev Ea:Stmt:=inClass (aY 66) 4
abbrev Dq:Stmt:=inClass (aY 34) 1
abbrev abN:Stmt:=aY 30
abbrev MK:Stmt:=inClass (aY 34) 0
abbrev Ds:Stmt:=inClass (aY 35) 1
abbrev Et:Stmt:=inClass (aY 66) 5
abbrev Mu:Stmt:=inClass (aY 35) 2
abbrev JT:Stmt:=inClass (aY 35) 3
abbrev JH:Stmt:=inClass (aY 35) 4
abbrev Gg:Stmt:=inClass (aY 66) 6
abbrev QL:Stmt:=aY 32
abbrev Wy:Stmt:=aY 31
abbrev Gv:Stmt:=inClass (aY 34) 3
abbrev JK:Stmt:=inClass (aY 66) 7
abbrev Ht:Stmt:=inClass (aY 66) 8
abbrev JF:Stmt:=inClass (aY 35) 8
abbrev zN:Stmt:=inClass (aY 35) 9
abbrev HW:Stmt:=inClass (aY 66) 9
abbrev HY:Stmt:=inClass (aY 66) 10
abbrev JQ:Stmt:=inClass (aY 66) 11
abbrev SQ:Stmt:=aY 60
abbrev Ah:Stmt:=inClass (aY 66) 24
abbrev Bt:Stmt:=inClass (aY 50) 10
abbrev Ek:Stmt:=inClass (aY 50) 8
abbrev DN:Stmt:=inClass (aY 66) 12
abbrev FW:Stmt:=inClass (aY 50) 9
abbrev GZ:Stmt:=inClass (aY 66) 13
abbrev Af:Stmt:=inClass (aY 55) 6
abbrev K7:Stmt:=inClass (aY 35) 7
abbrev Bv:Stmt:=inClass (aY 66) 14
abbrev Oi:Stmt:=aY 40
abbrev aey:Stmt:=aY 39
abbrev Lz:Stmt:=inClass (aY 66) 16
abbrev aeZ:Stmt:=aY 81
abbrev adw:Stmt:=aY 82
abbrev WW:Stmt:=aY 83
abbrev agH:Stmt:=aY 84
abbrev adY:Stmt:=aY 85
abbrev ac5:Stmt:=aY 86
abbrev aeB:Stmt:=aY 75
abbrev abZ:Stmt:=aY 87
abbrev abE:Stmt:=aY 68
abbrev agL:Stmt:=aY 69
abbrev agF:Stmt:=aY 70
abbrev aeO:Stmt:=aY 92
abbrev aeg:Stmt:=aY 72
abbrev Wx:Stmt:=aY 73
abbrev Hv:Stmt:=aY 71
abbrev WD:Stmt:=aY 74
abbrev agC:Stmt:=aY 93
abbrev aes:Stmt:=aY 94
abbrev agz:Stmt:=aY 88
abbrev agV:Stmt:=aY 89
abbrev abL:Stmt:=aY 90
abbrev Q5:Stmt:=aY 91
abbrev M9:Stmt:=aY 95
abbrev LK:Stmt:=inClass (aY 23) 0
abbrev dM(c m q:Str)(s:Stmt):He.DefD:=⟨(c,some m),m,q,defArgs s,defBody s,defScope s,[],[]⟩
abbrev dF(x:Str)(s:Stmt):He.DefD:=⟨(x,none),x,x,defArgs s,defBody s,defScope s,[],[]⟩
def xsH:List Str:=["Grounds","Rights","Herd","Commons","Beast","NoGround","NoOwner","NoRight","HasRight","NoneFree","BadExtra","BadAllowance","Clash","BadEar","Bare","StillThere","NoBeast","Dead","Unmarked","Deepest","NoPlace","SameOwner","SameGround","Together","Alone","BadDeed","CommonError"]
def tbs:List He.Tab:=[(fun K=>He.ga K "SHAPES",["owner","ground","enrol","leave","bring","bear","cut","tear","sell","move","die","unite","part","pass","heir"])]
def nm0:List PySem.Str:=["_wall","CommonError","BadEar","Bare","BadAllowance","BadExtra","NoPlace","Deepest","NoOwner","NoGround","NoBeast","NoRight"]
def nm1:List PySem.Str:=["HasRight","StillThere","Dead","Unmarked","SameOwner","SameGround","Together","Alone","NoneFree","BadDeed","Clash","PLACES"]
def nm2:List PySem.Str:=["GREATEST_DEPTH","BARE_EAR","is_ear","begun","gone_on","deepened","Beast","Herd","SHAPES","GREATEST_PART","fits","part_fits"]
def nm3:List PySem.Str:=["deeper","joint","lacks","apart","meet","torn","GREATEST_ALLOWANCE","Grounds","offspring","first_free","Rights","tidied"]
def nm4:List PySem.Str:=["barring","ask_room","clashing","owners_of","FEWEST_EXTRA","MOST_EXTRA","need_ear","Commons","_law_tears","_law_far","_law_top","_law_ground_there"]
def nm5:List PySem.Str:=["_law_once","_law_rows_of","_law_room_of","_law_cell","_law_row","_law_ear_by","_law_ear","_law_begun","_law_word_by","_law_done","_law_near","_law_mark_by"]
def nm6:List PySem.Str:=["_law_ref","_law_deed","_law_play","_law_asked","_law_cut","_law_raw","_law_whole","_law_like","_law_pair","_law_due","_law_tell"]
def nm:List PySem.Str:=nm0++nm1++nm2++nm3++nm4++nm5++nm6
def fa0:List He.Fa:=[.mkr "Grounds",.mkr "Rights",.mkr "Herd",.mkr "Commons",.meth "Beast" "stand",.meth "Beast" "told",.meth "Commons" "owners",.meth "Rights" "all_rows",.meth "Grounds" "many",.meth "Grounds" "has",.meth "Grounds" "need",.meth "Grounds" "allowance"]
def fa1:List He.Fa:=[.meth "Grounds" "together",.meth "Commons" "together",.meth "Commons" "look",.glo "_law_row",.glo "_law_ear_by",.glo "_law_ear",.glo "_law_begun",.glo "_law_word_by",.meth "Commons" "need_owner",.meth "Rights" "marks",.meth "Rights" "has_right",.meth "Commons" "need_right"]
def fa2:List He.Fa:=[.meth "Commons" "new_owner",.meth "Rights" "add_right",.glo "torn",.glo "lacks",.glo "offspring",.glo "apart",.glo "meet",.glo "first_free",.meth "Commons" "first_mark",.glo "tidied",.meth "Herd" "all_living",.meth "Herd" "grazing"]
def fa3:List He.Fa:=[.meth "Rights" "in_grounds",.meth "Commons" "standing_but",.meth "Commons" "standing",.meth "Grounds" "room",.meth "Commons" "room",.meth "Commons" "new_heir",.meth "Grounds" "add_ground",.meth "Commons" "new_ground",.glo "barring",.glo "joint",.glo "ask_room",.meth "Commons" "ask_ground"]
def fa4:List He.Fa:=[.glo "is_ear",.glo "need_ear",.meth "Commons" "enrol",.meth "Rights" "drop",.meth "Commons" "leave",.meth "Beast" "stand_so",.glo "begun",.mkr "Beast",.meth "Herd" "add_beast",.meth "Commons" "bring",.meth "Herd" "known",.meth "Herd" "living"]
def fa5:List He.Fa:=[.meth "Herd" "marked",.meth "Commons" "bear",.glo "deepened",.glo "gone_on",.meth "Beast" "befall",.meth "Commons" "cut",.meth "Commons" "tear",.meth "Herd" "calves",.meth "Herd" "lead_calves",.meth "Commons" "sell",.meth "Commons" "move",.meth "Commons" "die"]
def fa6:List He.Fa:=[.glo "clashing",.meth "Commons" "quarrels",.meth "Grounds" "enclose",.meth "Grounds" "unite",.meth "Commons" "unite",.meth "Grounds" "part",.meth "Commons" "part",.meth "Rights" "hand_over",.meth "Herd" "owned",.meth "Commons" "pass_on",.glo "part_fits",.glo "fits"]
def fa7:List He.Fa:=[.meth "Commons" "do",.glo "_law_done",.glo "_law_near",.glo "_law_mark_by",.glo "_law_ref",.glo "_law_deed",.glo "_law_play",.glo "_law_cell",.glo "_law_asked",.glo "_law_tears",.glo "_law_far",.glo "_law_top"]
def fa8:List He.Fa:=[.glo "_law_pair",.glo "_law_once",.glo "_law_rows_of",.glo "_law_ground_there",.glo "_law_room_of",.glo "_law_due",.glo "_law_tell",.glo "_law_cut",.glo "_law_raw",.glo "_law_whole",.glo "_law_like",.glo "law"]
def fa9:List He.Fa:=[.glo "Grounds",.glo "Rights",.glo "Herd",.glo "Commons",.glo "Beast",.glo "NoGround",.exc "NoGround",.glo "NoOwner",.exc "NoOwner",.glo "NoRight",.exc "NoRight",.glo "HasRight"]
def an8:List He.Fa:=[.exc "HasRight",.glo "NoneFree",.exc "NoneFree",.glo "BadExtra",.exc "BadExtra",.glo "BadAllowance",.exc "BadAllowance",.glo "Clash",.glo "BadEar",.exc "BadEar",.glo "Bare",.exc "Bare"]
def ang:List He.Fa:=[.glo "StillThere",.exc "StillThere",.glo "NoBeast",.exc "NoBeast",.glo "Dead",.exc "Dead",.glo "Unmarked",.exc "Unmarked",.glo "Deepest",.exc "Deepest",.glo "NoPlace",.exc "NoPlace"]
def anN:List He.Fa:=[.glo "SameOwner",.exc "SameOwner",.glo "SameGround",.exc "SameGround",.glo "Together",.exc "Together",.glo "Alone",.exc "Alone",.glo "BadDeed",.exc "BadDeed",.glo "CommonError",.exc "CommonError"]
def ank:List He.Fa:=[.glo "SHAPES",.int "GREATEST_DEPTH" 9,.int "FEWEST_EXTRA" 1,.int "MOST_EXTRA" 3,.int "GREATEST_ALLOWANCE" 9,.glo "PLACES",.glo "BARE_EAR",.int "GREATEST_PART" 999999999,.free "tuple",.free "list",.free "len",.free "range"]
def ani:List He.Fa:=[.free "abs",.free "max",.free "min",.free "sum",.free "zip",.free "any",.free "sorted",.free "set",.free "enumerate",.free "all",.free "isinstance",.free "int"]
def anu:List He.Fa:=[.free "bool",.free "str"]
def fa:List He.Fa:=fa0++fa1++fa2++fa3++fa4++fa5++fa6++fa7++fa8++fa9++an8++ang++anN++ank++ani++anu
def fn0:List He.DefD:=[dM "Grounds" "__init__" "Grounds.__init__" Gm,dM "Rights" "__init__" "Rights.__init__" JV,dM "Herd" "__init__" "Herd.__init__" Ot,dM "Commons" "__init__" "Commons.__init__" G4,dM "Beast" "stand" "Beast.stand" JW,dM "Beast" "told" "Beast.told" LC,dM "Commons" "owners" "Commons.owners" Di,dM "Rights" "all_rows" "Rights.all_rows" Bu,dM "Grounds" "many" "Grounds.many" GP,dM "Grounds" "has" "Grounds.has" JX,dM "Grounds" "need" "Grounds.need" Gn,dM "Grounds" "allowance" "Grounds.allowance" yr]
def fn1:List He.DefD:=[dM "Grounds" "together" "Grounds.together" zX,dM "Commons" "together" "Commons.together" zQ,dM "Commons" "look" "Commons.look" Hz,dF "_law_row" s_row,dF "_law_ear_by" aag,dF "_law_ear" agw,dF "_law_begun" Oo,dF "_law_word_by" WL,dM "Commons" "need_owner" "Commons.need_owner" yc,dM "Rights" "marks" "Rights.marks" Hu,dM "Rights" "has_right" "Rights.has_right" Av,dM "Commons" "need_right" "Commons.need_right" wU]
def fn2:List He.DefD:=[dM "Commons" "new_owner" "Commons.new_owner" yg,dM "Rights" "add_right" "Rights.add_right" Aq,dF "torn" aen,dF "lacks" abT,dF "offspring" Oj,dF "apart" ab1,dF "meet" ae3,dF "first_free" Mf,dM "Commons" "first_mark" "Commons.first_mark" wC,dF "tidied" YW,dM "Herd" "all_living" "Herd.all_living" Bw,dM "Herd" "grazing" "Herd.grazing" Ge]
def fn3:List He.DefD:=[dM "Rights" "in_grounds" "Rights.in_grounds" yq,dM "Commons" "standing_but" "Commons.standing_but" vq,dM "Commons" "standing" "Commons.standing" Ab,dM "Grounds" "room" "Grounds.room" HX,dM "Commons" "room" "Commons.room" Ie,dM "Commons" "new_heir" "Commons.new_heir" Ad,dM "Grounds" "add_ground" "Grounds.add_ground" wF,dM "Commons" "new_ground" "Commons.new_ground" yd,dF "barring" W3,dF "joint" abt,dF "ask_room" Ss,dM "Commons" "ask_ground" "Commons.ask_ground" xJ]
def fn4:List He.DefD:=[dF "is_ear" Yd,dF "need_ear" Q9,dM "Commons" "enrol" "Commons.enrol" Ey,dM "Rights" "drop" "Rights.drop" JG,dM "Commons" "leave" "Commons.leave" Ea,dM "Beast" "stand_so" "Beast.stand_so" Dq,dF "begun" abN,dM "Beast" "__init__" "Beast.__init__" MK,dM "Herd" "add_beast" "Herd.add_beast" Ds,dM "Commons" "bring" "Commons.bring" Et,dM "Herd" "known" "Herd.known" Mu,dM "Herd" "living" "Herd.living" JT]
def fn5:List He.DefD:=[dM "Herd" "marked" "Herd.marked" JH,dM "Commons" "bear" "Commons.bear" Gg,dF "deepened" QL,dF "gone_on" Wy,dM "Beast" "befall" "Beast.befall" Gv,dM "Commons" "cut" "Commons.cut" JK,dM "Commons" "tear" "Commons.tear" Ht,dM "Herd" "calves" "Herd.calves" JF,dM "Herd" "lead_calves" "Herd.lead_calves" zN,dM "Commons" "sell" "Commons.sell" HW,dM "Commons" "move" "Commons.move" HY,dM "Commons" "die" "Commons.die" JQ]
def fn6:List He.DefD:=[dF "clashing" SQ,dM "Commons" "quarrels" "Commons.quarrels" Ah,dM "Grounds" "enclose" "Grounds.enclose" Bt,dM "Grounds" "unite" "Grounds.unite" Ek,dM "Commons" "unite" "Commons.unite" DN,dM "Grounds" "part" "Grounds.part" FW,dM "Commons" "part" "Commons.part" GZ,dM "Rights" "hand_over" "Rights.hand_over" Af,dM "Herd" "owned" "Herd.owned" K7,dM "Commons" "pass_on" "Commons.pass_on" Bv,dF "part_fits" Oi,dF "fits" aey]
def fn7:List He.DefD:=[dM "Commons" "do" "Commons.do" Lz,dF "_law_done" aeZ,dF "_law_near" adw,dF "_law_mark_by" WW,dF "_law_ref" agH,dF "_law_deed" adY,dF "_law_play" ac5,dF "_law_cell" aeB,dF "_law_asked" abZ,dF "_law_tears" abE,dF "_law_far" agL,dF "_law_top" agF]
def fn8:List He.DefD:=[dF "_law_pair" aeO,dF "_law_once" aeg,dF "_law_rows_of" Wx,dF "_law_ground_there" Hv,dF "_law_room_of" WD,dF "_law_due" agC,dF "_law_tell" aes,dF "_law_cut" agz,dF "_law_raw" agV,dF "_law_whole" abL,dF "_law_like" Q5,dF "law" M9]
def fn9:List He.DefD:=[dM "Clash" "__init__" "Clash.__init__" LK]
def fn:List He.DefD:=fn0++fn1++fn2++fn3++fn4++fn5++fn6++fn7++fn8++fn9
def exB(K:arJ):Bool:=true&&La K jZ&&xmB K xmH&&(Ws.all fun p=>xsH.contains p.1&&TQ K p.1 p.2)&&agb K "SHAPES" yu&&He.tupB K "PLACES" [.str "lt",.str "lf",.str "lh",.str "rt",.str "rf",.str "rh"]&&He.tupB K "BARE_EAR" [.int 0,.int 0,.int 0,.int 0,.int 0,.int 0]
def ad0:List Addr:=[3,31,44,56,68,80,92,104,116,128,140,152,164,176,188,200,212,224,236,248,260,272,291,294]
def ad1:List Addr:=[295,300,307,314,319,364,447,452,472,479,484,489,494,501,508,513,596,605,610,670,681,686,693,698]
def ad2:List Addr:=[703,710,969,978,985,990,997,1004,1009,1014,1021,1028,1033,1040,1047,1054,1061,1068,1075,1082,1089,1096,1103,1110]
def ad3:List Addr:=[1117,1124,1131,1138,1145,1152,1159,30,43,55,67,79,91,103,115,127,139,151,163,175,187,199,211,223]
def ad4:List Addr:=[235,247,259,271,290,299,306,313,318,363,446,453,454,455,456,457,458,459,460,461,462,463,464,465]
def ad5:List Addr:=[466,467,471,478,483,488,493,500,507,512,595,604,609,669,680,685,692,697,702,709,968,977,984,989]
def ad6:List Addr:=[996,1003,1008,1013,1020,1027,1032,1039,1046,1053,1060,1067,1074,1081,1088,1095,1102,1109,1116,1123,1130,1137,1144,1151]
def ad7:List Addr:=[1158,29,32,42,54,66,78,90,102,114,126,138,150,162,174,186,198,210,222,234,246,258,270,288]
def ad8:List Addr:=[289,333,340,347,354,361,362,365,366,382,389,396,403,410,415,420,425,430,437,444,445,448,449,527]
def ad9:List Addr:=[534,541,548,555,562,569,574,581,586,593,594,597,598,624,631,638,643,650,657,662,667,668,671,672]
def anx:List Addr:=[724,731,738,745,750,757,764,771,778,785,792,799,806,813,818,825,832,839,846,853,860,867,872,879]
def an2:List Addr:=[886,893,900,907,914,919,926,933,938,945,952,959,966,967,970,971,287,332,339,346,353,360,381,388]
def aoh:List Addr:=[395,402,409,414,419,424,429,436,443,526,533,540,547,554,561,568,573,580,585,592,623,630,637,642]
def anD:List Addr:=[649,656,661,666,723,730,737,744,749,756,763,770,777,784,791,798,805,812,817,824,831,838,845,852]
def anW:List Addr:=[859,866,871,878,885,892,899,906,913,918,925,932,937,944,951,958,965]
def ad:List Addr:=ad0++ad1++ad2++ad3++ad4++ad5++ad6++ad7++ad8++ad9++anx++an2++aoh++anD++anW
abbrev R:PySem.W.OpenRow:=PySem.W.OpenLaw.row PySem.Challenge.rw_earmarks_k41_grounds_lie_together
abbrev hkE:PySem.W.Hook:=acd ad fa fn tbs exB
def obE(s:PySem.W.SharedT):He.AlX:=acE ad fa fn tbs exB (HandSHeadRun.getT s)
theorem ajf(s:PySem.W.SharedT):obE s=hkE.obs s.abs:=aiF (HandSHeadRun.getT_eq s)
abbrev wR(w:World)(b:Bool):World:=w.withFollow "special-get-raises" b
theorem amB(w:World):afx R (PySem.W.view R.prog [95]) ad exB 40000 nm (wR w false):=λos=>by kernel_rfl
theorem amE(w:World):afD R ad [] fn tbs 40000 (wR w false):=λos=>by kernel_rfl
theorem zzf(w:World):afD R ad fa [] [] 40000 (wR w false):=λos=>by kernel_rfl
theorem runAt(w:World):afx R (PySem.W.view R.prog [95]) ad exB 40000 nm (wR w true):=λos=>by kernel_rfl
theorem ami(w:World):afD R ad [] fn tbs 40000 (wR w true):=λos=>by kernel_rfl
theorem zzt(w:World):afD R ad fa [] [] 40000 (wR w true):=λos=>by kernel_rfl
theorem run(w:World):HandSHeadRun.RunEq R (PySem.W.view R.prog [95]) hkE obE 40000 nm w:=PySem.W.byRow2 "special-get-raises" (P:=fun w=>HandSHeadRun.RunEq R (PySem.W.view R.prog [95]) hkE obE 40000 nm w) (fun w=>VN (amB w) (amE w) (zzf w)) (fun w=>VN (runAt w) (ami w) (zzt w)) w
end Pr
namespace Ear
open PySem PySem.Spec PyProof.Rows L2 Evl RZ
section
variable{X:Cx}{C:Addr}{bmB:List Value}{B newId initId:String}
theorem afj{x:Str}{p pos:Pos}(F:ExcBaseFacts B newId initId bmB)(q:PySem.W.excIn X.K C bmB newId=true)(gC:X.mg x=some (.ref C))(kC:PySem.W.keepIn X.K (.ref C)=true)(r:Raises X (.ref C))(hg:Gl X x)
  (hn:(x==("__debug__" : Str))=false:=by decide):PMk X (.Call (.Name x p) [] [] pos) (fun _ H Q=>Q (.ref C) none H):=by
 intro pins s σ H Q I h
 refine wpAny_Call_Name_kw (ld_glob I hg gC ?_ hn)
 refine PySem.W.callWith_K0 I.kIn kC ?_
 show wpAny _ _ (call (.ref C) []) _ _ _
 obtain⟨bm,N,nm,qn,bs,hdct,sn,sub,ab,col,dd,k0,k1,k2,k3,k5,mN,hC,hN,hni,T⟩:=exc_obj I.kIn q
 refine wpAny_call_exc_subT F T hC hN hni (fun h' e hm=>?_) (asx _)
 exact mk_of I hm r h (I.hok.gone hm.new)
end
theorem exm_one{K:arJ}{S:Addr}(h1:PySem.W.subIn K (.ref S) (.type "BaseException")=some true)(h2:PySem.W.isClsIn K S=true)(h3:PySem.W.typeIn K (.ref S)=some (.type "type"))(h4:PySem.W.subIn K (.ref S) (.ref S)=some true) :
  PySem.W.exmOne K (.ref S) (.ref S)=some true:=by
 have e1:(PySem.W.subIn K (.ref S) (.type "BaseException")==some true)=true:=by rw[h1] <;> rfl
 have e2:((PySem.W.clsIn K S).isSome&&PySem.W.typeIn K (.ref S)==some (.type "type"))=true:=by
  rw[h3,arK]
  exact⟨h2,rfl⟩
 show(if (PySem.W.subIn K (.ref S) (.type "BaseException")==some true)=true then(if ((PySem.W.clsIn K S).isSome&&PySem.W.typeIn K (.ref S)==some (.type "type"))=true then PySem.W.subIn K (.ref S) (.ref S) else none) else none)=some true
 rw[if_pos e1,if_pos e2]
 exact h4
def aoi(xs:List Int):Prop:=xs.length=6/\∀x∈xs,0<=x/\x<=9
section
variable{K:arJ}{σ:L2.St}{H:Hp}{te tl:TE}{tt:TT}{vs:List Nat}
def EvS(te:TE)(σ:L2.St)(H:Hp)(P:V->Hp->Prop):Prop:=∀H1,Ex H H1->∀Q:VK,(∀v H2,Ex H1 H2->P v H2->Q v H2)->te σ H1 Q
end
section
variable{K:arJ}{σ:L2.St}{H H':Hp}{te ta tb:TE}{t:TT}{P R:V->Hp->Prop}{v:V}
theorem EvS.mono(e:Ex H H')(h:EvS te σ H P):EvS te σ H' P:=fun H1 a Q q=>h H1 (e.trans a) Q q
theorem EvS.imp(h:EvS te σ H P)(k:∀v H',P v H'->R v H'):EvS te σ H R:=fun H1 e Q q=>h H1 e Q fun v H2 e2 p=>q v H2 e2 (k v H2 p)
end
end Ear
namespace Ear
open PySem PySem.Spec PyProof.Rows L2 Evl RZ
def eZ{α:Type}(R:V->α->Prop)(ws:List V)(L:List α):Prop:=ws.length=L.length/\∀(i:Nat) (v:V) (x:α),ws[i]?=some v->L[i]?=some x->R v x
theorem eZ.imp{α:Type}{R S:V->α->Prop}{ws:List V}{L:List α}(h:eZ R ws L)(k:∀v x,R v x->S v x):eZ S ws L:=⟨h.1,fun i v x a b=>k v x (h.2 i v x a b)⟩
theorem eZ.nil{α:Type}{R:V->α->Prop}:eZ R [] []:=⟨rfl,fun i v x a _=>by simp at a⟩
theorem eZ.snoc{α:Type}{R:V->α->Prop}{ws:List V}{L:List α}{v:V}{x:α}(h:eZ R ws L)(k:R v x):eZ R (ws++[v]) (L++[x]):=by
 refine⟨by rw[asw,asw,h.1];rfl,fun i u y a b=>?_⟩
 by_cases hi:i < ws.length
 ·rw[arX hi]at a
  rw[arX (by rw[←h.1];exact hi)]at b
  exact h.2 i u y a b
 ·rw[ar6 (by omega)]at a
  rw[ar6 (by rw[←h.1];omega),←h.1]at b
  have hj:i - ws.length=0:=by
   have:=(arL.mp a).1
   simp only[arU,List.length_nil]at this
   omega
  rw[hj]at a b
  cases a
  cases b
  exact k
def Jc(H:Hp)(v:V)(l:List Int):Prop:=∃h:Addr,v=.ref h/\H h=some (.tup (l.map V.int))
theorem Jc.mono{H H':Hp}(e:Ex H H'){v:V}{l:List Int}(h:Jc H v l):Jc H' v l:=by
 obtain⟨a,e1,h1⟩:=h
 exact⟨a,e1,e _ _ h1⟩
theorem Jc.upd{H:Hp}{D:Addr}{acc:List V}{o:HO}(hD:H D=some (.lst acc)){v:V}{l:List Int}(h:Jc H v l):Jc (upd H D o) v l:=by
 obtain⟨a,e1,h1⟩:=h
 refine⟨a,e1,?_⟩
 rw[upd_ne (fun z=>by rw[z,hD]at h1;cases h1)]
 exact h1
abbrev Rw:Type:=Int×List Int
def M8(H:Hp)(v:V)(r:Rw):Prop:=∃t m:Addr,v=.ref t/\H t=some (.tup [.int r.1,.ref m])/\H m=some (.tup (r.2.map V.int))
theorem M8.mono{H H':Hp}(e:Ex H H'){v:V}{r:Rw}(h:M8 H v r):M8 H' v r:=by
 obtain⟨t,m,e1,h1,h2⟩:=h
 exact⟨t,m,e1,e _ _ h1,e _ _ h2⟩
theorem M8.upd{H:Hp}{D:Addr}{acc:List V}{o:HO}(hD:H D=some (.lst acc)){v:V}{r:Rw}(h:M8 H v r):M8 (upd H D o) v r:=by
 obtain⟨t,m,e1,h1,h2⟩:=h
 refine⟨t,m,e1,?_,?_⟩
 ·rw[upd_ne (fun z=>by rw[z,hD]at h1;cases h1)]
  exact h1
 ·rw[upd_ne (fun z=>by rw[z,hD]at h2;cases h2)]
  exact h2
def amU(r:Rw):Prop:=1<=r.1/\aoi r.2
structure Tab(R:List Rw):Prop where
 len:R.length<=128
 ok:∀r∈R,amU r
 few:∃D:List Rw,D.length<=64/\∀r∈R,r∈D
theorem Tab.sub{R S:List Rw}(h:Tab R)(hs:∀r∈S,r∈R)(hl:S.length<=128):Tab S:=by
 obtain⟨D,d1,d2⟩:=h.few
 exact⟨hl,fun r hr=>h.ok r (hs r hr),D,d1,fun r hr=>d2 r (hs r hr)⟩
theorem eZ.get{α:Type}{R:V->α->Prop}{ws:List V}{L:List α}(h:eZ R ws L){i:Nat}{v:V}(g:ws[i]?=some v):∃x,L[i]?=some x/\R v x:=by
 have hi:=(arL.mp g).1
 have hi':i < L.length:=by
  rw[←h.1]
  exact hi
 exact⟨L[i],arM hi',h.2 i v _ g (arM hi')⟩
theorem eZ.mem{α:Type}{R:V->α->Prop}{ws:List V}{L:List α}(h:eZ R ws L){v:V}(m:v∈ws):∃x,x∈L/\R v x:=by
 obtain⟨i,hi,e⟩:=List.getElem_of_mem m
 obtain⟨x,g,r⟩:=h.get (arL.mpr ⟨hi,e⟩)
 exact⟨x,arR g,r⟩
theorem eZ.take{α:Type}{R:V->α->Prop}{ws:List V}{L:List α}(h:eZ R ws L)(n:Nat):eZ R (ws.take n) (L.take n):=by
 refine⟨by rw[List.length_take,List.length_take,h.1],fun i v x a b=>?_⟩
 rw[List.getElem?_take]at a b
 by_cases c:i < n
 ·rw[if_pos c]at a b
  exact h.2 i v x a b
 ·rw[if_neg c]at a
  cases a
theorem eZ.drop{α:Type}{R:V->α->Prop}{ws:List V}{L:List α}(h:eZ R ws L)(n:Nat):eZ R (ws.drop n) (L.drop n):=by
 refine⟨by rw[atd,atd,h.1],fun i v x a b=>?_⟩
 rw[List.getElem?_drop]at a b
 exact h.2 _ v x a b
section
variable{X:Cx}
def acQ(xs:List V)(ds:List PyData)(x:V)(d:PyData):Prop:=∃i:Nat,xs[i]?=some x/\ds[i]?=some d
@[irreducible]def Ih (K:arJ):List V->Hp->VK->Prop:=fun vs H Q=>∃(a:Addr) (xs:List V) (ds:List PyData),vs=[V.ref a]/\SqL K H a xs/\DpAll K H xs ds/\PySem.W.AllAlike ds/\PySem.W.Sortable ds/\(∀d∈ds,d.depth<=60)/\
 ∀(ys:List V) (p:Addr),eZ (acQ xs ds) ys (ds.mergeSort (PySem.W.dataLe false id))->H p=none->Q (.ref p) (upd H p (.lst ys))
theorem Pa:∀(xs:List V) (ds:List PyData) (its:List Value) (P:Value->PyData->Prop),Vals xs its->PySem.W.EachIs P its ds->
  PySem.W.EachIs (fun v d=>∃(i:Nat) (x:V),RelV x v/\xs[i]?=some x/\ds[i]?=some d) its ds
 |[],_,_,_,.nil,.nil=>.nil
 |_::_,[],_,_,.cons _ _,k=>nomatch k
 |x::xs,d::ds,u::us,P,.cons r t,.cons _ k=>.cons ⟨0,x,r,rfl,rfl⟩ ((Pa xs ds us P t k).mono fun v d ⟨i,y,a,b,c⟩=>⟨i+1,y,a,b,c⟩)
theorem K8{xs:List V}{ds:List PyData}:∀(out:List Value) (L:List PyData),PySem.W.EachIs (fun v d=>∃(i:Nat) (x:V),RelV x v/\xs[i]?=some x/\ds[i]?=some d) out L->∃ys,Vals ys out/\eZ (acQ xs ds) ys L
 |[],[],.nil=>⟨[],.nil,eZ.nil⟩
 |v::out,d::L,.cons ⟨i,x,r,a,b⟩ k=>by
  obtain⟨ys,h1,h2⟩:=K8 out L k
  refine⟨x::ys,.cons r h1,by rw[arU,arU,h2.1],fun j u y g1 g2=>?_⟩
  cases j with
  |zero=>
   cases g1
   cases g2
   exact⟨i,a,b⟩
  |succ j=>exact h2.2 j u y g1 g2
theorem acL(hu:X.A.units+65 < cLine):CallR X (.builtin "sorted") (Ih X.K):=by
 intro pins s σ H vs us Q I r h
 unfold Ih at h
 obtain⟨a,xs,ds,rfl,hs,hd,hal,hk,hz,q⟩:=h
 obtain⟨u,rfl,ru⟩:=vals1 r
 obtain rfl:u=Value.ref a:=ru
 obtain⟨its,rv,hl,hsz⟩:=I.list hs
 obtain⟨as,hr⟩:=Dp.readsAll I ds xs its hd rv
 have er:PySem.W.EachIs (fun v d=>∃as,Reads s.heap v (id d) as) its ds:=PySem.W.readsAll_each id (by rw[List.map_id];exact hr)
 have hn:=SeqAt.ReadsAll.length ds its as hr
 have hl2:=rv.length
 refine PySem.W.sorted_data (enc:=id) hl.isList (Pa xs ds its _ rv er) er (by rw[List.map_id];exact hal) (by rw[List.map_id];exact hk) (by omega) (fun d m=>?_) fun out hlen hout=>?_
 ·have:=hz d m
  show X.A.units+2+d.depth < cLine
  omega
 ·obtain⟨ys,v1,v2⟩:=K8 out _ hout
  obtain⟨ep,he'⟩:=PyProof.Rows.sortedAll_at s.heap its out.toArray
  have hy:ys.length=ds.length:=by
   rw[v2.1,List.length_mergeSort]
  refine⟨.ref _,upd H (s.heap.objs.size+1) (.lst ys),I.laid (t':=s.toks) (fun _ _=>PyProof.Rows.sortedAll_old) (Nat.le_succ _) ⟨by omega,out,ep,v1,by simpa using he'⟩,rfl,q ys _ v2 (I.hok.fresh (Nat.le_succ _))⟩
end
@[irreducible]def QC (K:arJ):R2:=fun x y H Q=>∃d e:PyData,Dp K H x d/\Dp K H y e/\PySem.W.alike d e=true/\d≠.none/\d.depth<=60/\Q (.bl (PySem.W.dataLt d e)) H
theorem afJ{X:Cx}(hu:X.A.units+65 < cLine):OpR X (compareOp .Lt) (QC X.K):=by
 intro pins s σ H x y v u Q I rx ry h
 unfold QC at h
 obtain⟨d,e,hd,he,ha,hn,hz,q⟩:=h
 obtain⟨as,r1⟩:=Dp.reads I d x v hd rx
 obtain⟨bs,r2⟩:=Dp.reads I e y u he ry
 exact PySem.W.lt_data r1 r2 ha hn (by omega) ⟨.bl _,H,I,rfl,q⟩
def EvR(te:TE)(σ:L2.St)(H:Hp)(P:List V->Hp->Prop):Prop:=∀H1,Ex H H1->∀Q:VK,(∀p H2 us,Ex H1 H2->H2 p=some (.lst us)->P us H2->Q (.ref p) H2)->te σ H1 Q
def EvM(te:TE)(σ:L2.St)(H:Hp)(P:List V->Hp->Prop):Prop:=∀H1,Ex H H1->∀Q:VK,(∀p H2 us,H1 p=none->Ex H1 H2->H2 p=some (.lst us)->P us H2->Q (.ref p) H2)->te σ H1 Q
structure ali{α:Type}(Rel:Hp->V->α->Prop):Prop where
 mono:∀{H H':Hp} {v:V} {x:α},Ex H H'->Rel H v x->Rel H' v x
 upd:∀{H:Hp} {D:Addr} {acc:List V} {o:HO} {v:V} {x:α},H D=some (.lst acc)->Rel H v x->Rel (upd H D o) v x
theorem eZ.mono{α:Type}{Rel:Hp->V->α->Prop}(S:ali Rel){H H':Hp}(e:Ex H H'){ws:List V}{L:List α}(h:eZ (Rel H) ws L):eZ (Rel H') ws L:=h.imp fun _ _ r=>S.mono e r
theorem eZ.upd{α:Type}{Rel:Hp->V->α->Prop}(S:ali Rel){H:Hp}{D:Addr}{acc:List V}{o:HO}(hD:H D=some (.lst acc)){ws:List V}{L:List α}(h:eZ (Rel H) ws L):eZ (Rel (upd H D o)) ws L:=h.imp fun _ _ r=>S.upd hD r
section
variable{K:arJ}{σ:L2.St}{H:Hp}{te tl:TE}{tt:TT}{vs:List Nat}{α:Type}
theorem EvM.r{P:List V->Hp->Prop}(h:EvM te σ H P):EvR te σ H P:=fun H1 e Q q=>h H1 e Q fun p H2 us _ a b c=>q p H2 us a b c
theorem EvM.imp{P R:List V->Hp->Prop}(h:EvM te σ H P)(k:∀us H',P us H'->R us H'):EvM te σ H R:=fun H1 e Q q=>h H1 e Q fun p H2 us n a b c=>q p H2 us n a b (k us H2 c)
end
theorem Ys:∀a b:List Int,PyData.eqvAll (a.map PyData.int) (b.map PyData.int)=decide (a=b)
 |[],[]=>by rw[asU,PyData.eqvAll];rfl
 |[],y::ys=>by rw[asU,arN,PyData.eqvAll];rfl
 |x::xs,[]=>by rw[asU,arN,PyData.eqvAll];rfl
 |x::xs,y::ys=>by
  rw[arN,arN,PyData.eqvAll,Ys xs ys,PyData.eqv,asW]
  simp
def dT(l:List Int):PyData:=.tuple (l.map PyData.int)
theorem lay_ints:∀l:List Int,PyData.canLayAll0 (l.map PyData.int)=true/\PyData.depthAll (l.map PyData.int)=0
 |[]=>⟨by rw[asU,PyData.canLayAll0],by rw[asU,PyData.depthAll]⟩
 |x::xs=>by
  have ih:=lay_ints xs
  refine⟨?_,?_⟩
  ·rw[arN,PyData.canLayAll0,PyData.canLay0,ih.1]
   rfl
  ·rw[arN,PyData.depthAll,PyData.depth,ih.2]
   rfl
def rD(r:Rw):PyData:=.tuple [.int r.1,dT r.2]
theorem ado(r:Rw):(rD r).canLay0=true/\(rD r).depth=2:=by
 have h:=lay_ints r.2
 unfold rD dT
 refine⟨?_,?_⟩
 ·rw[PyData.canLay0,PyData.canLayAll0,PyData.canLayAll0,PyData.canLayAll0,PyData.canLay0,PyData.canLay0,h.1]
  rfl
 ·rw[PyData.depth,PyData.depthAll,PyData.depthAll,PyData.depthAll,PyData.depth,PyData.depth,h.2]
  rfl
def rk(r:Rw):List Int:=r.1::r.2
theorem aer:PySem.W.rowLt [] []=false:=PyProof.Rows.lex_irrefl _
theorem ait(l m:List Int):PySem.W.rowLt [dT l] [dT m]=decide (l < m):=by
 have al:PySem.W.alike (dT l) (dT m)=true:=by
  unfold dT
  rw[PySem.W.alike]
  exact PySem.W.alike_ints l m
 have ev:PyData.eqv (dT l) (dT m)=decide (l=m):=by
  unfold dT
  rw[PyData.eqv,Ys]
 have h:PySem.W.rowLt [dT l] [dT m]=if PyData.eqv (dT l) (dT m)=true then PySem.W.rowLt [] [] else PySem.W.dataLt (dT l) (dT m):=PySem.W.dataLt_cons al [] []
 rw[h,ev,aer]
 by_cases c:l=m
 ·rw[if_pos (decide_eq_true c),c]
  exact(decide_eq_false (List.lt_irrefl _)).symm
 ·rw[if_neg (by rw[decide_eq_true_eq];exact c)]
  show PySem.W.dataLt (.tuple (l.map PyData.int)) (.tuple (m.map PyData.int))=_
  rw[PySem.W.dataLt_tuple]
  exact PySem.W.dataLt_ints l m
theorem aaQ(x y:Int)(ds es:List PyData)(l m:List Int)(h:PySem.W.rowLt ds es=decide (l < m)):PySem.W.rowLt (.int x::ds) (.int y::es)=decide (x::l < y::m):=by
 have al:PySem.W.alike (.int x) (.int y)=true:=by rw[PySem.W.alike]
 have h2:PySem.W.rowLt (.int x::ds) (.int y::es)=if PyData.eqv (.int x) (.int y)=true then PySem.W.rowLt ds es else PySem.W.dataLt (.int x) (.int y):=PySem.W.dataLt_cons al ds es
 rw[h2,h,PySem.W.dataLt_int,PyData.eqv]
 by_cases c:x=y
 ·subst c
  rw[if_pos (by simp),asW,decide_eq_true_eq,decide_eq_true_eq,List.cons_lt_cons_iff]
  constructor
  ·exact fun k=>Or.inr ⟨rfl,k⟩
  ·rintro(k|k)
   ·omega
   ·exact k.2
 ·rw[if_neg (by simpa using c),asW,decide_eq_true_eq,decide_eq_true_eq,List.cons_lt_cons_iff]
  constructor
  ·exact Or.inl
  ·rintro(k|k)
   ·exact k
   ·exact absurd k.1 c
theorem aiK(a b:Rw):PySem.W.dataLt (rD a) (rD b)=decide (rk a < rk b):=by
 unfold rD
 rw[PySem.W.dataLt_tuple]
 exact aaQ _ _ _ _ _ _ (ait a.2 b.2)
theorem WT(a b:Rw):PySem.W.alike (rD a) (rD b)=true:=by
 unfold rD dT
 rw[PySem.W.alike,PySem.W.alikeAll,PySem.W.alikeAll,PySem.W.alike,PySem.W.alike,PySem.W.alike_ints,PySem.W.alikeAll]
 rfl
theorem eZ.map{α β:Type}{P:V->β->Prop}(f:α->β){ws:List V}{L:List α}(h:eZ (fun v x=>P v (f x)) ws L):eZ P ws (L.map f):=by
 refine⟨by rw[arT,h.1],fun i v x a b=>?_⟩
 rw[arY]at b
 obtain⟨y,hy,e⟩:=asM.mp b
 rw[←e]
 exact h.2 i v y a hy
theorem Zt{a b:Rw}(h:rk a=rk b):a=b:=by
 unfold rk at h
 injection h with h1 h2
 exact Prod.ext h1 h2
def Hw(S:List Rw):Prop:=S.Pairwise fun a b=>rk a < rk b
theorem adM:∀{S T:List Rw},Hw S->Hw T->(∀r,r∈S↔r∈T)->S=T
 |[],[],_,_,_=>rfl
 |[],t::T,_,_,h=>absurd ((h t).mpr arP) (by simp)
 |s::S,[],_,_,h=>absurd ((h s).mp arP) (by simp)
 |s::S,t::T,hs,ht,h=>by
  obtain⟨hs1,hs2⟩:=List.pairwise_cons.mp hs
  obtain⟨ht1,ht2⟩:=List.pairwise_cons.mp ht
  have e:s=t:=by
   rcases arZ.mp ((h s).mp arP) with e|m
   ·exact e
   ·rcases arZ.mp ((h t).mpr arP) with e2|m2
    ·exact e2.symm
    ·exact absurd (ht1 s m) (List.lt_asymm (hs1 t m2))
  subst e
  have hn:∀{L:List Rw},(∀r∈L,rk s < rk r)->s∉L:=fun hL m=>List.lt_irrefl _ (hL s m)
  rw[adM hs2 ht2 fun r=>?_]
  constructor
  ·intro m
   rcases arZ.mp ((h r).mp (arO _ m)) with e|m2
   ·rw[e]at m
    exact absurd m (hn hs1)
   ·exact m2
  ·intro m
   rcases arZ.mp ((h r).mpr (arO _ m)) with e|m2
   ·rw[e]at m
    exact absurd m (hn ht1)
   ·exact m2
theorem Lj(a b:Rw):PySem.W.dataLe false rD a b=decide (rk a<=rk b):=by
 show(!PySem.W.dataLt (rD b) (rD a))=_
 rw[aiK,asW,ar4,decide_eq_false_iff_not,decide_eq_true_eq]
 exact List.not_lt
theorem aea{α β:Type}{R:α->β->Prop}{as cs:List α}(p:as.Perm cs):∀{bs:List β},PySem.W.EachIs R as bs->∃ds,ds.Perm bs/\PySem.W.EachIs R cs ds:=by
 induction p with
 |nil=>
  intro bs h
  cases h
  exact⟨[],List.Perm.refl _,.nil⟩
 |cons x _ ih=>
  intro bs h
  cases h with
  |cons r t=>
   obtain⟨ds,h1,h2⟩:=ih t
   exact⟨_::ds,h1.cons _,.cons r h2⟩
 |swap x y l=>
  intro bs h
  cases h with
  |cons r t=>
   cases t with
   |cons r2 t2=>exact⟨_,List.Perm.swap _ _ _,.cons r2 (.cons r t2)⟩
 |trans _ _ ih1 ih2=>
  intro bs h
  obtain⟨ds,a1,a2⟩:=ih1 h
  obtain⟨es,b1,b2⟩:=ih2 a2
  exact⟨es,b1.trans a1,b2⟩
section
variable{P:Program}{w:World}{A:Around}{E:Value->Shared->Prop}{s:Shared}
theorem aaN{β:Type}{a:Addr}{es:Array (Int×Value)}{ep:Nat}{t:SetTable}{enc:β->PyData}{bs:List β}{R:Value->β->Prop}{Q:Value->Shared->Prop}(hh:A.handled=none)(ha:SetAt s.heap a es ep t)(hf:t.fits es.size=true)(hsz:es.size < scanBound)(hr:Ris t.place.toList)
  (hl:w.params.followText "set-order"=true∨t.led=true) (e:PySem.W.EachIs (fun v b=>R v b/\∃as,Reads s.heap v (enc b) as) (es.toList.map (·.2)) bs) (hal:PySem.W.AllAlike (bs.map enc)) (hk:PySem.W.Sortable (bs.map enc)) (hu:∀b∈bs,A.units+2+(enc b).depth < cLine)
  (hQ:∀(s':Shared) (p:Addr) (out:List Value) (c:Nat) (cs:List β),(∀b o,s.heap.get? b=some o->s'.heap.get? b=some o)->s'.gens=s.gens->s'.os=s.os->s.heap.objs.size<=p->s'.heap.get? p=some (seqObj "list" out.toArray c)->
   cs.Perm bs->PySem.W.EachIs R out (cs.mergeSort (PySem.W.dataLe false enc))->Q (.ref p) s') :
  wpAny (model P w) A (call (.builtin "sorted") [.ref a]) Q E s:=by
 refine Calls.call_function_entry kind_sorted plain_sorted entry_sorted (args_sorted1 _) ?_
 unfold Builtin.«sorted»
 refine wpAny_bind (m:=checkCount "sorted" 1 1 _) (wpAny_pure ?_)
 refine wpAny_bind (collect_set (A:=A.in1) hh ha hf hsz hr hl fun t1 vals kept grown g1 o1 pm=>?_)
 obtain⟨cs,pc,ec⟩:=aea pm.symm e
 have lc:vals.length=cs.length:=ec.length
 have lb:cs.length=bs.length:=pc.length_eq
 have lz:vals.length<=sizeLine:=by
  rw[pm.length_eq,arT,asu,sizeLine_eq]
  unfold scanBound at hsz
  omega
 refine wpAny_bind (wpAny_newList ?_ lz)
 have here:(t1.heap.push (seqObj "list" vals.toArray 0)).get? t1.heap.objs.size=some (seqObj "list" vals.toArray 0):=Heap.get?_push_size _ rfl
 have stays:∀b o,s.heap.get? b=some o->(t1.heap.push (seqObj "list" vals.toArray 0)).get? b=some o:=fun b o q=>Heap.get?_push_of_some _ (kept b o q)
 have al:PySem.W.AllAlike (cs.map enc):=fun d hd d' hd'=>hal d ((pc.map enc).mem_iff.mp hd) d' ((pc.map enc).mem_iff.mp hd')
 have sk:PySem.W.Sortable (cs.map enc):=by
  rcases hk with k|k
  ·exact .inl fun d hd=>k d ((pc.map enc).mem_iff.mp hd)
  ·exact .inr fun d hd=>k d ((pc.map enc).mem_iff.mp hd)
 refine wpAny_bind (wpAny_holding (PySem.W.list_sort_data (s:={ t1 with heap:=t1.heap.push (seqObj "list" vals.toArray 0) }) (enc:=enc) here (ec.mono fun v b h=>h.1) (ec.mono fun v b ⟨_,as,r⟩=>⟨as,PySem.W.reads_keeps stays r,fun m=>?rd⟩) al sk (by omega) (fun b hb=>?un) fun out lo eo=>?fin))
 case rd=>
  obtain⟨o,q⟩:=PyProof.On.reads_mem_get r _ m
  have hlt:t1.heap.objs.size < s.heap.objs.size:=Heap.lt_size q
  exact absurd grown (Nat.not_le_of_lt hlt)
 case fin=>
  obtain⟨c,hc⟩:=sortedHeap_at (vs:=vals) (out:=out.toArray) here
  refine wpAny_pure ⟨_,rfl,hQ _ t1.heap.objs.size out c cs (fun b o q=>?_) g1 o1 grown hc pc eo⟩
  have hlt:=Heap.lt_size (kept b o q)
  show(sortedHeap (t1.heap.push (seqObj "list" vals.toArray 0)) t1.heap.objs.size vals out.toArray).get? b=some o
  rw[sortedHeap_old (asp hlt) (by rw[size_push'];exact asZ hlt)]
  exact stays b o q
 case un=>
  have:=hu b (pc.mem_iff.mp hb)
  show A.in1.units+1+_ < _
  have e1:A.in1.units=A.units+1:=rfl
  omega
end
section
variable{P:Program}{w:World}{A:Around}{E:Value->Shared->Prop}{s:Shared}
def nk(r:Rw):NestedKey:=.tup [.num r.1,.tup (r.2.map .num)]
theorem YD:∀a b:List Int,a.map NestedKey.num=b.map NestedKey.num->a=b
 |[],[],_=>rfl
 |[],_::_,h=>by cases h
 |_::_,[],h=>by cases h
 |x::a,y::b,h=>by
  rw[arN,arN]at h
  injection h with h1 h2
  injection h1 with h1
  rw[h1,YD a b h2]
theorem adE{a b:Rw}(h:nk a=nk b):a=b:=by
 unfold nk at h
 injection h with h
 injection h with h1 h
 injection h with h2 _
 injection h1 with h1
 injection h2 with h2
 exact Prod.ext h1 (YD _ _ h2)
theorem QV:∀l:List Int,NestedKey.depthAll (l.map .num)=0
 |[]=>by rw[asU,NestedKey.depthAll]
 |x::l=>by
  rw[arN,NestedKey.depthAll,NestedKey.depth,QV l]
  rfl
theorem afl(r:Rw):(nk r).depth=2:=by
 unfold nk
 rw[NestedKey.depth,NestedKey.depthAll,NestedKey.depthAll,NestedKey.depthAll,NestedKey.depth,NestedKey.depth,QV]
 rfl
def nH(P:Program)(w:World):HeapKind P w Rw where
 is:=fun h r a=>(nestedKind P w).is h (nk r) a
 hash:=fun r=>(nestedKind P w).hash (nk r)
 draws:=fun r=>(nestedKind P w).draws (nk r)
 room:=(nestedKind P w).room
 inj:=fun hx hy=>adE ((nestedKind P w).inj hx hy)
 keeps:=fun x ho hd hs=>(nestedKind P w).keeps x ho hd hs
 pyHash:=fun hu hk h=>(nestedKind P w).pyHash hu hk h
 eqBool:=fun {A E s x y a b Q} hu hx hy h=>(nestedKind P w).eqBool hu hx hy (by
  have e:decide (nk x=nk y)=decide (x=y):=by
   rw[decide_eq_decide]
   exact⟨adE,fun h=>by rw[h]⟩
  rw[e]
  exact h)
 quiet:=fun hk h=>(nestedKind P w).quiet hk h
abbrev RI(h:Heap)(r:Rw)(a:Addr):Prop:=NestedIs h (nk r) (.ref a)/\(nk r).depth<=8
theorem Tz{h h':Heap}{r:Rw}{a:Addr}(x:RI h r a)(k:∀c o,h.get? c=some o->h'.get? c=some o):RI h' r a:=⟨NestedIs.at (fun b o _ _ e _=>k b o e) _ _ x.1,x.2⟩
theorem ZD{h h':Heap}{r:Rw}{a d:Addr}{o:Obj}{es:Array (Int×Value)}{ep:Nat}{t:SetTable}(x:RI h r a)(ho:h.get? d=some o)(hd:o.data=.set es ep t)(sb:Heap.SameBut d h h'):RI h' r a:=by
 refine⟨NestedIs.at (fun b ob vs n hb hc=>(sb.2 b fun e=>?_).trans hb) _ _ x.1,x.2⟩
 subst e
 obtain rfl:ob=o:=ar8 (hb.symm.trans ho)
 rw[hd]at hc
 cases hc
theorem Iz{h:Heap}{i:Int}{v:Value}(x:NestedIs h (.num i) v)(n:Nat):ofAClassStatement n v=pure false/\hashByValue n v=pure true:=by
 cases x with
 |bool _=>cases n <;> exact⟨rfl,rfl⟩
 |int _ t=>cases n <;> exact⟨rfl,rfl⟩
theorem aar{h:Heap}:∀(l:List Int) (vs:List Value),NestedAll h (l.map .num) vs->∀v∈vs,∃i,NestedIs h (.num i) v
 |[],_,x,v,hv=>by
  cases x
  cases hv
 |i::l,_,x,v,hv=>by
  rw[arN]at x
  cases x with
  |cons x1 x2=>
   rcases arZ.mp hv with e|hv
   ·exact⟨i,by rw[e];exact x1⟩
   ·exact aar l _ x2 v hv
theorem abW{n:Nat}{a:Addr}{o:Obj}{vs:Array Value}{m:Nat}(ho:s.heap.get? a=some o)(hc:o.cls=.type "tuple")(hd:o.data=.seq vs m)(hq:∀v∈vs.toList,∀(E:Value->Shared->Prop) (Q:Bool->Shared->Prop),Q false s->wpAny (model P w) A (ofAClassStatement n v) Q E s){Q:Bool->Shared->Prop}(q:Q false s) :
  wpAny (model P w) A (ofAClassStatement (n+1) (.ref a)) Q E s:=by
 have hT:s.TypeIs (.ref a) "tuple":=⟨o,ho,hc⟩
 unfold ofAClassStatement
 refine wpAny_bind (wpAny_typeOf hT ?_)
 dsimp only
 have eq1:(("tuple" : String)=="tuple")=true:=by decide
 simp only[eq1,if_true,Bool.not_true,aso,if_false]
 try refine wpAny_bind (wpAny_pure ?_)
 try simp only[Bool.not_true,aso,if_false]
 refine wpAny_bind (wpAny_seqItems ho hd ?_)
 dsimp only
 refine wpAny_bind ?_
 rw[←Array.forIn_toList]
 refine wpAny_forIn_list _ (fun left r u=>r.1=none/\u=s/\∀v∈left,v∈vs.toList) _ ?_ ?_ _ _ ⟨rfl,rfl,fun v hv=>hv⟩
 ·rintro v left r u ⟨hr,rfl,hall⟩
  refine wpAny_bind (hq v (hall v arP) _ _ ?_)
  simp only[aso,if_false]
  exact wpAny_pure ⟨rfl,rfl,fun y hy=>hall y (arO _ hy)⟩
 ·rintro⟨r1,r2⟩ u ⟨hr,rfl,_⟩
  simp only at hr
  subst hr
  exact wpAny_pure q
theorem Z8{n:Nat}{a:Addr}{o:Obj}{vs:Array Value}{m:Nat}(ho:s.heap.get? a=some o)(hc:o.cls=.type "tuple")(hd:o.data=.seq vs m)(hq:∀v∈vs.toList,∀(E:Value->Shared->Prop) (Q:Bool->Shared->Prop),Q true s->wpAny (model P w) A (hashByValue n v) Q E s){Q:Bool->Shared->Prop}(q:Q true s) :
  wpAny (model P w) A (hashByValue (n+1) (.ref a)) Q E s:=by
 have hT:s.TypeIs (.ref a) "tuple":=⟨o,ho,hc⟩
 unfold hashByValue
 refine wpAny_bind (wpAny_specialOf hT PySem.F.slot_tuple_hash.lookup ?_)
 show wpAny _ _ (seqItems? (.ref a) >>= _) _ _ s
 refine wpAny_bind (wpAny_seqItems ho hd ?_)
 refine wpAny_bind ?_
 show wpAny _ _ (forIn vs _ _) _ _ s
 rw[←Array.forIn_toList]
 refine wpAny_forIn_list _ (fun left r u=>r.1=none/\u=s/\∀v∈left,v∈vs.toList) _ ?_ ?_ _ _ ⟨rfl,rfl,fun v hv=>hv⟩
 ·rintro v left r u ⟨hr,rfl,hall⟩
  refine wpAny_bind (hq v (hall v arP) _ _ ?_)
  simp only[Bool.not_true,aso,if_false]
  exact wpAny_pure ⟨rfl,rfl,fun y hy=>hall y (arO _ hy)⟩
 ·rintro⟨r1,r2⟩ u ⟨hr,rfl,_⟩
  simp only at hr
  subst hr
  exact wpAny_pure q
theorem Iv{r:Rw}{a:Addr}(x:RI s.heap r a):(∀{Q:Bool->Shared->Prop},Q false s->wpAny (model P w) A (ofAClassStatement 8 (.ref a)) Q E s)/\∀{Q:Bool->Shared->Prop},Q true s->wpAny (model P w) A (hashByValue 8 (.ref a)) Q E s:=by
 obtain⟨x,_⟩:=x
 unfold nk at x
 cases x with
 | @tup _ o vs m _ ho hc hd x=>
  have items:∀v∈vs.toList,(∃i,NestedIs s.heap (.num i) v)∨∃b,v=.ref b/\∃o us k,s.heap.get? b=some o/\o.cls=.type "tuple"/\o.data=.seq us k/\∀u∈us.toList,∃i,NestedIs s.heap (.num i) u:=by
   generalize vs.toList=l at x
   cases x with
   |cons x1 x=>
    cases x with
    |cons x2 x=>
     cases x
     intro v hv
     rcases arZ.mp hv with e|hv
     ·exact Or.inl ⟨_,by rw[e];exact x1⟩
     ·have e:=arQ.mp hv
      cases x2 with
      |tup k1 k2 k3 k4=>exact Or.inr ⟨_,e,_,_,_,k1,k2,k3,aar _ _ k4⟩
  refine⟨fun q=>abW ho hc hd (fun v hv E' Q' q'=>?_) q,fun q=>Z8 ho hc hd (fun v hv E' Q' q'=>?_) q⟩
  ·rcases items v hv with⟨i,y⟩|⟨b,rfl,o',us,k,k1,k2,k3,k4⟩
   ·rw[(Iz y 7).1]
    exact wpAny_pure q'
   ·refine abW k1 k2 k3 (fun u hu E2 Q2 q2=>?_) q'
    obtain⟨i,y⟩:=k4 u hu
    rw[(Iz y 6).1]
    exact wpAny_pure q2
  ·rcases items v hv with⟨i,y⟩|⟨b,rfl,o',us,k,k1,k2,k3,k4⟩
   ·rw[(Iz y 7).2]
    exact wpAny_pure q'
   ·refine Z8 k1 k2 k3 (fun u hu E2 Q2 q2=>?_) q'
    obtain⟨i,y⟩:=k4 u hu
    rw[(Iz y 6).2]
    exact wpAny_pure q2
end
abbrev Ent:Type:=Addr×Rw
section
variable{P:Program}{w:World}{A:Around}{E:Value->Shared->Prop}{s:Shared}
def ents(hf:Rw->Int)(L:List Ent):List (Int×Value):=L.map fun p=>(hf p.2,Value.ref p.1)
structure qL(hf:Rw->Int)(w:World)(h:Heap)(a:Addr)(L:List Ent)(es:Array (Int×Value))(ep:Nat)(t:SetTable):Prop where
 ob:∃o,h.get? a=some o/\o.ExactSet/\o.data=.set es ep t
 en:es.toList=ents hf L
 tab:TabOk t (L.map fun p=>hf p.2)
 nd:(L.map Prod.snd).Nodup
 ky:∀p∈L,RI h p.2 p.1
 pl:t.plain=true
 ld:w.params.followText "set-order"=true∨t.led=true
 free:L.length * 5 < t.mask * 3
 few:L.length<=76
variable{hf:Rw->Int}{a:Addr}{L:List Ent}{es:Array (Int×Value)}{ep:Nat}{t:SetTable}
theorem yM(h:es.toList=ents hf L):es.size=L.length:=by
 rw[←asu,h]
 exact arT _
theorem Nu(h:es.toList=ents hf L){i:Nat}{p:Ent}(g:L[i]?=some p):es[i]?=some (hf p.2,Value.ref p.1):=by
 rw[←asC,h]
 unfold ents
 rw[arY,g]
 rfl
theorem fits_of(h1:t.place.size=es.size)(h2:t.dummies=#[])(h3:es.size<=t.mask):t.fits es.size=true:=by
 unfold SetTable.fits SetTable.fill
 rw[h2,arK,beq_iff_eq,decide_eq_true_eq]
 exact⟨h1,by show t.place.size+0<=t.mask;omega⟩
theorem qL.fits(R:qL hf w s.heap a L es ep t):t.fits es.size=true:=by
 have l1:=yM R.en
 have l2:=R.tab.sz
 rw[arT]at l2
 have l3:=R.free
 exact fits_of (by omega) R.tab.dm (by omega)
theorem qL.sound(R:qL hf w s.heap a L es ep t):¬t.gaveWay=true:=by
 unfold SetTable.gaveWay
 rw[mask_odd R.tab.mok]
 decide
theorem ai4{r:Rw}{b:Addr}{Q:Bool->Shared->Prop}(hx:RI s.heap r b){ys:List Value}(hy:∀y∈ys,∃q c,y=Value.ref c/\RI s.heap q c)(q:Q false s):wpAny (model P w) A (searchCouldBeSeen (.ref b) ys) Q E s:=by
 unfold searchCouldBeSeen
 refine wpAny_bind ?_
 refine wpAny_forIn_list _ (fun left r u=>r.1=none/\u=s/\∀y∈left,∃q c,y=Value.ref c/\RI s.heap q c) _ ?_ ?_ _ _ ⟨rfl,rfl,hy⟩
 ·rintro v left r u ⟨hr,rfl,hall⟩
  obtain⟨q',c,rfl,hc⟩:=hall v arP
  have more:∀y∈left,∃q c,y=Value.ref c/\RI u.heap q c:=fun y m=>hall y (arO _ m)
  dsimp only
  by_cases hv:(b==c || (carriedByValue (.ref b)&&carriedByValue (.ref c)))=true
  ·exact wp_if_pos hv (wpAny_pure ⟨rfl,rfl,more⟩)
  ·refine wp_if_neg hv ?_
   refine wpAny_bind ((nH P w).quiet hx ?_)
   simp only[Bool.not_true,aso,if_false]
   refine wpAny_bind ((nH P w).quiet hc ?_)
   simp only[Bool.not_true,aso,if_false]
   refine wpAny_bind ((Iv hx).1 ?_)
   simp only[aso,if_false]
   refine wpAny_bind ((Iv hc).1 ?_)
   simp only[aso,if_false]
   exact wpAny_pure ⟨rfl,rfl,more⟩
 ·rintro⟨r1,r2⟩ u ⟨hr,rfl,_⟩
  simp only at hr
  subst hr
  exact wpAny_pure q
abbrev uD(m:Nat)(h:Int)(c:Nat):SetTable.Probe:=nth m (runAt m (SetTable.bits h % (m+1)) (SetTable.bits h)) c
theorem aaJ(m:Nat)(h:Int)(c:Nat):(uD m h c).dummy=none:=by
 have all:∀(n:Nat) (p:SetTable.Probe),p.dummy=none->(nth m p n).dummy=none:=by
  intro n
  induction n with
  |zero=>exact fun p k=>k
  |succ n ih=>
   intro p k
   refine ih (adv m p) ?_
   unfold adv
   split <;> exact k
 exact all c _ rfl
theorem Wg(m:Nat)(h:Int)(c d:Nat):nth m (uD m h c) d=uD m h (c+d):=(nth_add m c _ d).symm
theorem seek(R:qL hf w s.heap a L es ep t){x:Addr}{r:Rw}(hx:RI s.heap r x){h:Int}(hh:hf r=h)(hu:(nH P w).room A){N:Nat}(hN:N < 10 * SetTable.turns t.mask)(out:way t.mask (h) N∉t.place.toList)(inn:∀c,c < N->way t.mask (h) c∈t.place.toList){Q:SetFound->Shared->Prop}
  (yes:r∈L.map Prod.snd->Q (.there none) s) (no:r∉L.map Prod.snd->Q (.free (way t.mask (h) N) false) s) :
  ∀(f c:Nat) (st:Option SetTable.Probe),st.getD (t.probeStart (h))=uD t.mask (h) c->c<=N->N - c < f->
   (∀(i:Nat) (p:Ent),L[i]?=some p->p.2=r->∃d,c<=d/\d < N/\t.place.toList[i]?=some (way t.mask (h) d))->
   wpAny (model P w) A (setSearchFrom a (.ref x) (h) true f st) Q E s:=by
 intro f
 induction f with
 |zero=>exact fun _ _ _ _ hfl _=>absurd hfl (Nat.not_lt_zero _)
 |succ f ih=>
  intro c st hst hc hfl left
  obtain⟨o,ho,hex,hd⟩:=R.ob
  rw[setSearchFrom_succ]
  refine wpAny_bind (wpAny_setState_of ho hd R.fits ?_)
  dsimp only
  refine wp_if_neg R.sound ?_
  try refine wpAny_bind (wpAny_pure ?_)
  have jAt:∀d,(nth t.mask (uD t.mask h c) d).j=way t.mask h (c+d):=fun d=>congrArg SetTable.Probe.j (Wg t.mask h c d)
  have hashOf:∀(i:Nat) (p:Ent),L[i]?=some p->(es[i]?.map (·.1)).getD 0=hf p.2:=fun i p g=>by
   rw[Nu R.en g]
   rfl
  have spec:=go_spec t R.tab.ris R.tab.dm (fun i=>(es[i]?.map (·.1)).getD 0) h (10 * SetTable.turns t.mask) (N - c) (uD t.mask h c) (aaJ _ _ _) (by omega) (fun d hdn=>by rw[jAt];exact inn (c+d) (by omega)) (by rw[jAt,ate hc];exact out)
  rcases spec with⟨d,i,hdn,hi,hhi,hno,hpr⟩|⟨hno,hpr⟩
  ·have hpr':t.probe (fun i=>(es[i]?.map (·.1)).getD 0) h (st.getD (t.probeStart h))=some (.candidate (way t.mask h (c+d)) i (uD t.mask h (c+(d+1)))):=by
    rw[hst,←jAt,←Wg]
    exact hpr
   rw[hpr']
   dsimp only
   rw[jAt]at hi
   have hil:i < L.length:=by
    have k1:=(arL.mp hi).1
    have k2:=R.tab.sz
    rw[arT]at k2
    rw[asu]at k1
    omega
   obtain⟨p,hp⟩:∃p,L[i]?=some p:=⟨_,arM hil⟩
   have pm:=arR hp
   have go:wpAny (model P w) A (searchRest a (.ref x) h true f es t (way t.mask h (c+d)) i (uD t.mask h (c+(d+1)))) Q E s:=by
    unfold searchRest
    rw[Nu R.en hp]
    dsimp only
    refine wpAny_bind (wpAny_holding ((nH P w).eqBool hu (R.ky p pm) hx ?_))
    refine wpAny_bind (wpAny_setState_of ho hd R.fits ?_)
    dsimp only
    by_cases same:p.2=r
    ·exact wp_if_pos (by simp[same]) (wpAny_pure (yes (arV.mpr ⟨p,pm,same⟩)))
    ·refine wp_if_neg (by simp[same]) ?_
     try refine wpAny_bind (wpAny_pure ?_)
     rw[sameMem]
     dsimp only
     have live:t.slot (way t.mask h (c+d))=.live i:=slot_live R.tab.ris hi
     simp only[if_true,live,Nu R.en hp]
     refine wpAny_bind (wpAny_isSame_ref_self (wpAny_bind (wpAny_pure ?_)))
     simp only[if_true]
     refine wp_if_neg (by simp[same]) ?_
     refine ih (c+(d+1)) _ rfl (by omega) (by omega) fun i0 p0 g0 e0=>?_
     obtain⟨d0,a1,a2,a3⟩:=left i0 p0 g0 e0
     refine⟨d0,?_,a2,a3⟩
     by_cases c1:d0 < c+d
     ·exact absurd ((hashOf i0 p0 g0).trans ((congrArg hf e0).trans hh)) (hno (d0 - c) i0 (by omega) (by rw[jAt,ate a1];exact a3))
     ·by_cases c2:d0=c+d
      ·rw[c2]at a3
       have live0:=slot_live R.tab.ris a3
       rw[live]at live0
       injection live0 with ei
       rw[←ei,hp]at g0
       exact absurd ((congrArg Prod.snd (ar8 g0)).trans e0) same
      ·omega
   by_cases hl:t.led=true
   ·refine wp_if_neg (by simp[hl]) ?_
    try refine wpAny_bind (wpAny_pure ?_)
    exact go
   ·refine wp_if_pos (by simp[hl]) ?_
    refine wpAny_bind (ai4 hx (fun y hy=>?_) ?_)
    ·obtain⟨e,he,ee⟩:=arV.mp hy
     have h1:e∈es/\e.1=h:=by simpa using he
     have h2:e∈es.toList:=by simpa using h1.1
     rw[R.en]at h2
     obtain⟨p2,hp2,e2⟩:=arV.mp h2
     exact⟨p2.2,p2.1,by rw[←ee,←e2],R.ky p2 hp2⟩
    ·refine wp_if_neg (by decide) ?_
     try refine wpAny_bind (wpAny_pure ?_)
     exact go
  ·have hpr':t.probe (fun i=>(es[i]?.map (·.1)).getD 0) h (st.getD (t.probeStart h))=some (.empty (way t.mask h N) none):=by
    have e2:way t.mask h N=(nth t.mask (uD t.mask h c) (N - c)).j:=by rw[jAt,ate hc]
    rw[hst,e2]
    exact hpr
   rw[hpr']
   dsimp only
   refine wpAny_pure (no fun hm=>?_)
   obtain⟨p0,m0,e0⟩:=arV.mp hm
   obtain⟨i0,hi0,e1⟩:=List.getElem_of_mem m0
   have g0:L[i0]?=some p0:=by rw[arM hi0,e1]
   obtain⟨d0,a1,a2,a3⟩:=left i0 p0 g0 e0
   exact hno (d0 - c) i0 (by omega) (by rw[jAt,ate a1];exact a3) ((hashOf i0 p0 g0).trans ((congrArg hf e0).trans hh))
theorem look(R:qL hf w s.heap a L es ep t){x:Addr}{r:Rw}(hx:RI s.heap r x)(hu:(nH P w).room A){Q:SetFound->Shared->Prop}(yes:r∈L.map Prod.snd->Q (.there none) s)
  (no:∀N,r∉L.map Prod.snd->way t.mask (hf r) N∉t.place.toList->(∀c,c < N->way t.mask (hf r) c∈t.place.toList)->Q (.free (way t.mask (hf r) N) false) s):wpAny (model P w) A (setSearch a (.ref x) (hf r) true) Q E s:=by
 have hfree:=R.free
 obtain⟨N,hN,out,inn⟩:=R.tab.first (by rw[arT];omega) (hf r)
 have small:N < 100000:=by
  have:10 * SetTable.turns t.mask<=1420:=by
   unfold SetTable.turns
   rcases R.tab.mok with e|e|e <;> omega
  omega
 unfold setSearch
 refine seek R hx rfl hu hN out inn yes (fun hn=>no N hn out inn) 100000 0 none rfl (asx _) (by omega) fun i p g e=>?_
 have hi:(L.map fun p=>hf p.2)[i]?=some (hf r):=by
  rw[arY,g,←e]
  rfl
 have hil:i < t.place.toList.length:=by
  have k1:=(arL.mp g).1
  have k2:=R.tab.sz
  rw[arT]at k2
  rw[asu]
  omega
 obtain⟨c,hc,ec⟩:=R.tab.before out hi (arM hil)
 exact⟨c,asx _,hc,by rw[arM hil,ec]⟩
end
section
variable{P:Program}{w:World}{A:Around}{E:Value->Shared->Prop}{s:Shared}{hf:Rw->Int}{a:Addr}{L:List Ent}{es:Array (Int×Value)}{ep:Nat}{t:SetTable}
theorem afk(L:List Ent)(n:Nat)(x:Addr)(r:Rw):ents hf (L.take n++(x,r)::L.drop n)=(ents hf L).take n++(hf r,Value.ref x)::(ents hf L).drop n:=by
 unfold ents
 rw[List.map_append,arN,List.map_take,List.map_drop]
theorem range_all(L:List Ent):(List.range L.length).filterMap (fun i=>L[i]?)=L:=by
 have part:∀n,n<=L.length->(List.range n).filterMap (fun i=>L[i]?)=L.take n:=by
  intro n
  induction n with
  |zero=>exact fun _=>rfl
  |succ n ih=>
   intro hn
   rw[List.range_succ,List.filterMap_append,ih (by omega),List.take_add_one,arM (show n < L.length by omega)]
   congr 1
   rw[List.filterMap_cons_some (arM (show n < L.length by omega))]
   rfl
 rw[part _ (ash _),List.take_length]
theorem adX(h:es.toList=ents hf L){order:Array Nat}(hp:order.toList.Perm (List.range L.length)) :
  ∃M:List Ent,(order.filterMap (es[·]?)).toList=ents hf M/\M.Perm L/\(M.map fun p=>hf p.2)=order.toList.map fun i=>(es.map (·.1)).getD i 0:=by
 have inside:∀i∈order.toList,i < L.length:=fun i hi=>List.mem_range.mp (hp.mem_iff.mp hi)
 refine⟨order.toList.filterMap (fun i=>L[i]?),?_,?_,?_⟩
 ·have e1:(order.filterMap (es[·]?)).toList=order.toList.filterMap (fun i=>es[i]?):=by
   first | rw[Array.toList_filterMap] | simp
  rw[e1]
  unfold ents
  rw[List.map_filterMap]
  congr 1
  funext i
  rw[←asC,h]
  unfold ents
  rw[arY]
 ·have:=hp.filterMap (fun i=>L[i]?)
  rw[range_all]at this
  exact this
 ·generalize order.toList=l at inside
  induction l with
  |nil=>rfl
  |cons i l ih=>
   have hi:=inside i arP
   have e5:(es.map (·.1))[i]?=some (hf (L[i]).2):=by
    rw[Array.getElem?_map,Nu h (arM hi)]
    rfl
   rw[List.filterMap_cons_some (arM hi),arN,arN,ih fun j hj=>inside j (arO _ hj),Array.getD_eq_getD_getElem?,e5]
   rfl
theorem amO{o:Obj}(ho:s.heap.get? a=some o)(hex:o.ExactSet)(hd:o.data=.set es ep t)(he:es.toList=ents hf L)(hsz:t.place.size=es.size)(hdm:t.dummies=#[])(hfl:es.size<=t.mask)(nd:(L.map Prod.snd).Nodup)(ky:∀p∈L,RI s.heap p.2 p.1)(pl:t.plain=true)
  (ld:w.params.followText "set-order"=true∨t.led=true) (few:L.length<=76) {wanted M:Nat} (hw:SetTable.sizeAbove wanted - 1=M) (hM:MaskOk M) (hw2:SetTable.sizeAbove wanted<=128) (hn:L.length * 5 < M * 3) {Q:Unit->Shared->Prop}
  (q:∀h' K es' ep' t',Heap.SameBut a s.heap h'->qL hf w h' a K es' ep' t'->K.Perm L->Q () { s with heap:=h' }):wpAny (model P w) A (setRelay a wanted) Q E s:=by
 have len:=yM he
 obtain⟨t',order,e,hp,T,em,el,epl,ed⟩:=relaid_ok t (hs:=es.map (·.1)) (wanted:=wanted) hw hM (by rw[Array.size_map,len];omega)
 rw[Array.size_map,len]at hp
 obtain⟨K,k1,k2,k3⟩:=adX he hp
 rw[←k3]at T
 have ks:(order.filterMap (es[·]?)).size=es.size:=by
  rw[yM k1,k2.length_eq,len]
 rw[setRelay_eq]
 refine wpAny_bind (wpAny_setState_of ho hd (fits_of hsz hdm hfl) ?_)
 dsimp only
 refine wp_if_neg (by rw[sizeLine_eq];omega) ?_
 try refine wpAny_bind (wpAny_pure ?_)
 rw[e]
 dsimp only
 refine wpAny_bind ?_
 refine wp_if_neg (by rw[ks];simp) ?_
 try refine wpAny_bind (wpAny_pure ?_)
 refine wpAny_pure ?_
 dsimp only
 refine wpAny_storeSet_of ho hd ?_ (by rw[ks,len,sizeLine_eq];omega)
 have sb:Heap.SameBut a s.heap (s.heap.update a (Obj.putSet (order.filterMap (es[·]?)) t')):=Heap.SameBut.update ..
 refine q _ K (order.filterMap (es[·]?)) (ep+1) t' sb ⟨⟨_,store_at ho hd,⟨hex.1,hex.2.1,hex.2.2⟩,rfl⟩,k1,T,(k2.map Prod.snd).nodup_iff.mpr nd,fun p hp=>ZD (ky p (k2.mem_iff.mp hp)) ho hd sb,by rw[epl];exact pl,by rw[el];exact ld,?_,by rw[k2.length_eq];exact few⟩ k2
 rw[k2.length_eq,em]
 exact hn
theorem akH(R:qL hf w s.heap a L es ep t){x:Addr}{r:Rw}(hx:RI s.heap r x)(hu:(nH P w).room A)(hfew:r∉L.map Prod.snd->L.length+1<=76){Q:Bool->Shared->Prop}
  (q:∀b h' K es' ep' t',Heap.SameBut a s.heap h'->qL hf w h' a K es' ep' t'->(r∈L.map Prod.snd->K=L)->(r∉L.map Prod.snd->K.Perm ((x,r)::L))->Q b { s with heap:=h' }):wpAny (model P w) A (setAddHashed a (.ref x) (hf r)) Q E s:=by
 obtain⟨o,ho,hex,hd⟩:=R.ob
 have len:=yM R.en
 have hfree:=R.free
 unfold setAddHashed
 refine wpAny_holding ?_
 rw[show(100000:Nat)=99999+1 from rfl,setAddHashedIn_succ]
 refine wpAny_bind (wpAny_setState_of ho hd R.fits ?_)
 dsimp only
 refine wp_if_neg (by simp[byScan,Value.scannable]) ?_
 try refine wpAny_bind (wpAny_pure ?_)
 refine wpAny_bind (look R hx hu (fun hm=>?_) fun N hm out inn=>?_)
 ·dsimp only
  exact wpAny_pure (q false s.heap L es ep t (Heap.SameBut.refl a s.heap) R (fun _=>rfl) fun z=>absurd hm z)
 have few1:=hfew hm
 dsimp only
 refine wpAny_bind (wpAny_setState_of ho hd R.fits ?_)
 dsimp only
 obtain⟨q1,q2,q3,q4,q5,q6,q7,q8,q9⟩:=R.tab.put out inn
 have pl1:(t.put (way t.mask (hf r) N)).1.plain=true:=by rw[q6];exact R.pl
 generalize hpt:t.put (way t.mask (hf r) N)=pt at q1 q3 q4 q5 q6 q7 q8 q9 pl1 ⊢
 obtain⟨t1,n⟩:=pt
 dsimp only at q1 q3 q4 q5 q6 q7 q8 q9 pl1 ⊢
 subst q1
 first
  |(refine wpAny_bind ?_;refine wp_if_pos pl1 ?_;refine(Iv hx).2 ?_)
  |refine wp_if_pos pl1 (wpAny_bind ((Iv hx).2 ?_))
 simp only[if_true]
 have ein:(SetTable.insertAt es (SetTable.below t.place (way t.mask (hf r) N)) (hf r,Value.ref x)).toList=ents hf (L.take (SetTable.below t.place (way t.mask (hf r) N))++(x,r)::L.drop (SetTable.below t.place (way t.mask (hf r) N))):=by
  rw[SetTable.toList_insertAt,afk,R.en]
 generalize hnn:SetTable.below t.place (way t.mask (hf r) N)=n at q2 q3 ein ⊢
 have pm:=put_perm L n (x,r)
 have hs1:(L.take n++(x,r)::L.drop n).map (fun p=>hf p.2)=(L.map fun p=>hf p.2).take n++hf r::(L.map fun p=>hf p.2).drop n:=by
  rw[List.map_append,arN,List.map_take,List.map_drop]
 rw[←hs1]at q3
 have nd1:((L.take n++(x,r)::L.drop n).map Prod.snd).Nodup:=by
  refine(pm.map Prod.snd).nodup_iff.mpr ?_
  rw[arN]
  exact asQ.mpr ⟨hm,R.nd⟩
 have len1:(SetTable.insertAt es n (hf r,Value.ref x)).size=L.length+1:=by
  rw[yM ein,pm.length_eq]
  rfl
 generalize SetTable.insertAt es n (hf r,Value.ref x)=es1 at ein len1 ⊢
 have lenM:(L.take n++(x,r)::L.drop n).length=L.length+1:=pm.length_eq
 generalize L.take n++(x,r)::L.drop n=M at pm q3 nd1 ein lenM
 refine wpAny_bind (wpAny_storeSet_of ho hd ?_ (by rw[len1,sizeLine_eq];omega))
 have sb:Heap.SameBut a s.heap (s.heap.update a (Obj.putSet es1 t1)):=Heap.SameBut.update ..
 have ho1:=store_at (es':=es1) (t':=t1) ho hd
 generalize s.heap.update a (Obj.putSet es1 t1)=h1 at sb ho1 ⊢
 have ky1:∀p∈M,RI h1 p.2 p.1:=fun p hp=>by
  rcases arZ.mp (pm.mem_iff.mp hp) with e|m
  ·rw[e];exact ZD hx ho hd sb
  ·exact ZD (R.ky p m) ho hd sb
 have ld1:w.params.followText "set-order"=true∨t1.led=true:=by rw[q5];exact R.ld
 have full:t1.tooFull=true↔(L.length+1) * 5 ≥ t1.mask * 3:=by
  unfold SetTable.tooFull
  rw[decide_eq_true_eq,q9,arT]
 by_cases hfu:t1.tooFull=true
 ·first
   |(refine wpAny_bind ?_;refine wp_if_pos (by simp[hfu]) ?_)
   |(refine wp_if_pos (by simp[hfu]) ?_;refine wpAny_bind ?_)
  have over:=full.mp hfu
  rw[len]
  have psz:t1.place.size=es1.size:=by
   have:=q3.sz
   rw[arT,lenM]at this
   rw[this,len1]
  have which:(t.mask=7/\L.length=4)∨(t.mask=31/\L.length=18):=by
   rcases R.tab.mok with e|e|e
   ·rw[q4,e]at over;rw[e]at hfree;exact Or.inl ⟨e,by omega⟩
   ·rw[q4,e]at over;rw[e]at hfree;exact Or.inr ⟨e,by omega⟩
   ·rw[q4,e]at over;omega
  have go:∀m,SetTable.sizeAbove (SetTable.grown (L.length+1)) - 1=m->MaskOk m->SetTable.sizeAbove (SetTable.grown (L.length+1))<=128->(L.length+1) * 5 < m * 3->
    wpAny (model P w) A (setRelay a (SetTable.grown (L.length+1))) (fun _ u=>wpAny (model P w) A (pure true) Q E u) E { s with heap:=h1 }:=fun m g1 g2 g3 g4=>
   amO (s:={ s with heap:=h1 }) ho1 ⟨hex.1,hex.2.1,hex.2.2⟩ rfl ein psz q3.dm (by rw[len1,q4];rcases which with⟨e,e2⟩|⟨e,e2⟩ <;> omega) nd1 ky1 pl1 ld1 (by rw[lenM];exact few1) g1 g2 g3 (by rw[lenM];exact g4)
    fun h2 K es2 ep2 t2 sb2 R2 pm2=>wpAny_pure (q true h2 K es2 ep2 t2 (sb.trans sb2) R2 (fun z=>absurd z hm) fun _=>pm2.trans pm)
  rcases which with⟨_,e2⟩|⟨_,e2⟩
  ·exact go 31 (by rw[e2,size_20]) (.inr (.inl rfl)) (by rw[e2,size_20];decide) (by omega)
  ·exact go 127 (by rw[e2,size_76]) (.inr (.inr rfl)) (by rw[e2,size_76];decide) (by omega)
 ·first
   |refine wp_if_neg (by simp[hfu]) ?_
   |(refine wpAny_bind ?_;refine wp_if_neg (by simp[hfu]) ?_;refine wpAny_pure ?_)
  have under:¬(L.length+1) * 5 ≥ t1.mask * 3:=fun z=>hfu (full.mpr z)
  exact wpAny_pure (q true h1 M es1 (ep+1) t1 sb ⟨⟨_,ho1,⟨hex.1,hex.2.1,hex.2.2⟩,rfl⟩,ein,q3,nd1,ky1,pl1,ld1,by rw[lenM];omega,by rw[lenM];exact few1⟩ (fun z=>absurd z hm) fun _=>pm)
end
theorem Dg{α:Type}[DecidableEq α]:∀(l D:List α),l.Nodup->(∀x∈l,x∈D)->l.length<=D.length
 |[],_,_,_=>asx _
 |x::l,D,hn,hs=>by
  obtain⟨h1,h2⟩:=asQ.mp hn
  have mx:=hs x arP
  have ih:=Dg l (D.erase x) h2 fun y hy=>(List.mem_erase_of_ne (fun e=>h1 (by rw[←e];exact hy))).2 (hs y (arO _ hy))
  have e:=List.length_erase_of_mem mx
  have hp:=List.length_pos_of_mem mx
  rw[arU]
  omega
structure Has(ks:List Ent)(i:Nat)(L:List Ent):Prop where
 sub:∀p∈L,p∈ks.take i
 all:∀p∈ks.take i,p.2∈L.map Prod.snd
theorem Ep{α:Type}{l:List α}{i:Nat}{x:α}(h:l[i]?=some x):l.take (i+1)=l.take i++[x]:=by
 rw[List.take_add_one,h]
 rfl
theorem Has.next{ks L K:List Ent}{i:Nat}{x:Ent}(g:Has ks i L)(h:ks[i]?=some x)(h1:x.2∈L.map Prod.snd->K=L)(h2:x.2∉L.map Prod.snd->K.Perm (x::L)):Has ks (i+1) K:=by
 by_cases c:x.2∈L.map Prod.snd
 ·rw[h1 c]
  refine⟨fun p hp=>?_,fun p hp=>?_⟩
  ·rw[Ep h]
   exact asq _ (g.sub p hp)
  ·rw[Ep h]at hp
   rcases arW.mp hp with m|m
   ·exact g.all p m
   ·rw[arQ.mp m]
    exact c
 ·have pm:=h2 c
  refine⟨fun p hp=>?_,fun p hp=>?_⟩
  ·rw[Ep h]
   rcases arZ.mp (pm.mem_iff.mp hp) with e|m
   ·exact asF _ (arQ.mpr e)
   ·exact asq _ (g.sub p m)
  ·rw[(pm.map Prod.snd).mem_iff,arN]
   rw[Ep h]at hp
   rcases arW.mp hp with m|m
   ·exact arO _ (g.all p m)
   ·rw[arQ.mp m]
    exact arP
def zF(w:World):Obj:={ cls:=.type "set",dict:=none,data:=.set #[] 0 (.fresh 0 0 (!w.params.followText "set-order")) }
section
variable{P:Program}{w:World}{A:Around}{E:Value->Shared->Prop}{s:Shared}{hf:Rw->Int}
theorem qL.stay{h h':Heap}{a:Addr}{L:List Ent}{es:Array (Int×Value)}{ep:Nat}{t:SetTable}(R:qL hf w h a L es ep t)(ha:∀o,h.get? a=some o->h'.get? a=some o)(hk:∀p∈L,RI h' p.2 p.1):qL hf w h' a L es ep t:=by
 obtain⟨o,ho,r⟩:=R.ob
 exact⟨⟨o,ha o ho,r⟩,R.en,R.tab,R.nd,hk,R.pl,R.ld,R.free,R.few⟩
theorem afW{h:Heap}{a:Addr}(ho:h.get? a=some (zF w)):qL hf w h a [] #[] 0 (.fresh 0 0 (!w.params.followText "set-order")):=by
 refine⟨⟨_,ho,⟨rfl,rfl,rfl⟩,rfl⟩,rfl,⟨List.Pairwise.nil,rfl,rfl,.inl rfl,fun x hx=>(by cases hx),fun i h j hi=>(by simp at hi)⟩,atb,fun p hp=>(by cases hp),rfl,?_,(show 0 * 5 < 7 * 3 by decide),asx _⟩
 show _∨(!w.params.followText "set-order")=true
 cases w.params.followText "set-order"
 ·exact .inr rfl
 ·exact .inl rfl
theorem ahY(hhf:∀r,(nH P w).hash r=hf r){I:Addr}{fp wr:List Addr}{G:Array GenState->Array GenState->Prop}{n:Nat}{Pv:Nat->Value->Prop}{St:Nat->Shared->Prop}{R:Result->Shared->Prop}(W:WalksS P w A.in1 I fp wr G n Pv St)(S:Addr)(hSf:S∉fp)(ks:List Ent)(hn:n=ks.length)
  (D:List Rw) (hD:D.length<=76) (hkD:∀p∈ks,p.2∈D) (hval:∀i v,Pv i v->∃p,ks[i]?=some p/\v=.ref p.1) (h0:Heap) (hk:∀p∈ks,RI h0 p.2 p.1) (hS0:h0.get? S=none) (hw0:∀b∈wr,h0.get? b=none) (hu:(nH P w).room A.in1) :
  ∀(m i:Nat) (s:Shared),n - i=m->i<=n->St i s->(∀b o,h0.get? b=some o->s.heap.get? b=some o)->(∃L es ep t,qL hf w s.heap S L es ep t/\Has ks i L)->
   (∀u L es ep t,Moved (S::wr) G s u->qL hf w u.heap S L es ep t->Has ks n L->(∀b o,h0.get? b=some o->u.heap.get? b=some o)->R (.ok (.ret .none)) u)->
   codeAny (model P w) A (.builtin "set.update.loop" ⟨[.ref S,.ref I],[]⟩) R s:=by
 have Sw:S∉wr:=fun h=>hSf (W.sub _ h)
 have wS:∀b∈wr,b∈S::wr:=fun b hb=>arO _ hb
 have old:∀{s u:Shared},Moved wr G s u->(∀b o,h0.get? b=some o->s.heap.get? b=some o)->∀b o,h0.get? b=some o->u.heap.get? b=some o:=fun hm hkp b o e=>hm.heap b o (fun hb=>by rw[hw0 b hb]at e;cases e) (hkp b o e)
 intro m
 induction m with
 |zero=>
  intro i s hm0 hi hst hkp ⟨L,es,ep,t,hS,g⟩ hR
  obtain rfl:i=n:=by omega
  refine codeAny_builtin PyProof.Rows.F.entry_set_update_loop ?_
  rw[Around.under_plainId PyProof.Rows.F.plain_set_update_loop _]
  refine wpAny_bind (W.done s _ _ hst fun u hm=>?_)
  have kept:=old hm hkp
  exact wpAny_pure (hR u L es ep t (hm.mono wS) (hS.stay (fun o e=>hm.heap S o Sw e) fun p hp=>Tz (hk p (as5 (g.sub p hp))) kept) g kept)
 |succ m ih=>
  intro i s hm0 hi hst hkp ⟨L,es,ep,t,hS,g⟩ hR
  have hlt:i < n:=by omega
  refine codeAny_builtin PyProof.Rows.F.entry_set_update_loop ?_
  rw[Around.under_plainId PyProof.Rows.F.plain_set_update_loop _]
  refine wpAny_bind (W.item i s _ _ hlt hst fun v u hP hst' hm=>?_)
  obtain⟨p,hp,rfl⟩:=hval i v hP
  have kept:=old hm hkp
  have hS':qL hf w u.heap S L es ep t:=hS.stay (fun o e=>hm.heap S o Sw e) fun q hq=>Tz (hk q (as5 (g.sub q hq))) kept
  have hx:RI u.heap p.2 p.1:=Tz (hk p (arR hp)) kept
  refine wpAny_bind (wpAny_holding ?_)
  unfold setAdd
  refine wpAny_holding ?_
  refine wpAny_bind ((nH P w).pyHash hu hx ?_)
  rw[hhf]
  have inD:∀y∈L.map Prod.snd,y∈D:=fun y hy=>by
   obtain⟨q,hq,e⟩:=arV.mp hy
   rw[←e]
   exact hkD q (as5 (g.sub q hq))
  refine akH (s:={ u with toks:=u.toks+(nH P w).draws p.2 }) hS' hx hu (fun hnew=>?_) fun b h' K es' ep' t' sb hS2 c1 c2=>?_
  ·have:=Dg (p.2::L.map Prod.snd) D (asQ.mpr ⟨hnew,hS.nd⟩) fun y hy=>by
    rcases arZ.mp hy with e|hy
    ·rw[e];exact hkD p (arR hp)
    ·exact inD y hy
   rw[arU,arT]at this
   omega
  have kept2:∀b o,h0.get? b=some o->h'.get? b=some o:=fun b o e=>(sb.2 b (fun z=>by rw[z,hS0]at e;cases e)).trans (kept b o e)
  refine wpAny_pure ⟨plainId_quiet PyProof.Rows.F.plain_set_update_loop _,ih (i+1) _ (by omega) hlt (W.frame _ u _ _ hst' (Nat.le_add_right _ _) fun b hb o e=>?_) kept2 ⟨K,es',ep',t',hS2,g.next hp c1 c2⟩ fun v L2 es2 ep2 t2 hm2 hS3 g3 k3=>?_⟩
  ·rw[sb.2 b (fun h:b=S=>hSf (by rw[←h];exact hb))];exact e
  ·refine hR v L2 es2 ep2 t2 (Moved.trans W.gtrans ((hm.mono wS).then_heap (Nat.le_add_right _ _) fun b o hb e=>?_) hm2) hS3 g3 k3
   rw[sb.2 b (fun h:b=S=>hb (by rw[h];exact arP))];exact e
set_option maxHeartbeats 4000000 in
theorem aaX(hhf:∀r,(nH P w).hash r=hf r){l:Addr}{items:Array Value}(ks:List Ent)(D:List Rw)(hD:D.length<=76)(hkD:∀p∈ks,p.2∈D){Q:Value->Shared->Prop}(hh:A.handled=none)(hl:s.heap.IsList l items)(hit:items.toList=ks.map fun p=>Value.ref p.1)
  (hk:∀p∈ks,RI s.heap p.2 p.1) (hu:A.units+3+8 < cLine)
  (h:∀(h':Heap) (tk:Nat) L es ep t,qL hf w h' s.heap.objs.size L es ep t->Has ks ks.length L->(∀b o,s.heap.get? b=some o->h'.get? b=some o)->Q (.ref s.heap.objs.size) { s with heap:=h',toks:=tk }) :
  wpAny (model P w) A (call (.type "set") [.ref l]) Q E s:=by
 have isz:items.size=ks.length:=by
  rw[←asu,hit,arT]
 obtain⟨cc,tl,hmro⟩:=PySem.F.called_set.mro
 have hmade:=PySem.F.called_set.made
 have hsub:=PySem.F.called_set.sub
 refine wpAny_call (codeAny_of_tree ?_)
 show wpAny _ _ (callAny (.type "set") _) _ _ _
 refine wpAny_pure ⟨Code.quiet_builtin _ (by decide +kernel),codeAny_builtin PySem.F.entry_type_call ?_⟩
 rw[Around.under_plain (weight_type_call_type "set" [.ref l] []) rfl]
 have nt:=PySem.F.called_set.notType
 have cr:=PySem.F.called_set.canCreate
 have hct:=PySem.F.typeCall_set_1 (.ref l)
 (repeat (any_goals first | assumption | wp_step))
 refine codeAny_mono (code_set_led1 (.ref l) (E:=E) (Q₁:=fun v u=>v=.ref s.heap.objs.size/\u={ s with heap:=s.heap.push (zF w) }) ⟨rfl,rfl⟩) fun r u hr=>?_
 cases r with
 |error e=>exact hr
 |ok fl=>
  cases fl with
  |ret v=>
   obtain⟨rfl,rfl⟩:=hr
   have hS:(s.heap.push (zF w)).get? s.heap.objs.size=some (zF w):=Heap.get?_push_size _ rfl
   have hT:Shared.TypeIs { s with heap:=s.heap.push (zF w) } (.ref s.heap.objs.size) "set":=⟨_,hS,rfl⟩
   have hli:=PySem.F.called_set.init.lookup
   have hbi:=PySem.F.called_set.init.bind (.ref s.heap.objs.size)
   (repeat (any_goals first | assumption | wp_step))
   refine codeAny_mono (codeAny_call_builtin (R:=wants (fun r u=>r=.none/\∃h' tk L es ep t,u={ s with heap:=h',toks:=tk }/\qL hf w h' s.heap.objs.size L es ep t/\Has ks ks.length L/\∀b o,s.heap.get? b=some o->h'.get? b=some o) E) PySem.F.called_set.init.plain PySem.F.entry_set_init (check_set_init_1 hT ?_)) fun r₂ u₂ hr₂=>?_
   ·obtain⟨ol,hol,hcl,nl,hdl⟩:=hl
    obtain⟨ocls,odict,odata,oslots⟩:=ol
    simp only at hcl hdl
    subst hcl;subst hdl
    have hol':(s.heap.push (zF w)).get? l=some { cls:=.type "list",dict:=odict,data:=.seq items nl,slots:=oslots }:=Heap.get?_push_of_some _ hol
    have sl1:=PySem.F.sub_list_set
    have sl2:=PySem.F.sub_list_frozenset
    have nd:(Value.type "list"==Value.type "dict")=false:=by decide
    have hl1:(s.heap.push (zF w)).IsList l items:=⟨_,hol',rfl,nl,rfl⟩
    unfold Builtin.«set.__init__» noKeywords Builtin.Frozenset.updateFrom
    generalize hPI:pyIter=PI
    wp_walk
    subst hPI
    refine wpAny_pyIter_list hl1 ?_
    refine wpAny_bind (wpAny_runValue ?_)
    have lS:l < s.heap.objs.size:=Heap.lt_size hol
    have h3:A.in1.in1.in1.handled=none:=by simp[hh]
    have sz1:(s.heap.push (zF w)).objs.size=s.heap.objs.size+1:=Heap.size_push ..
    have lI:l≠(s.heap.push (zF w)).objs.size:=by rw[sz1];exact asp (asZ lS)
    have Sf:s.heap.objs.size∉[(s.heap.push (zF w)).objs.size,l]:=by
     rw[sz1]
     simp only[arZ,asr,or_false,not_or]
     exact⟨asp (Nat.lt_succ_self _),Nat.ne_of_gt lS⟩
    have hval:∀(i:Nat) (v:Value),items[i]?=some v->∃p,ks[i]?=some p/\v=.ref p.1:=fun i v hv=>by
     rw[←asC,hit,arY]at hv
     obtain⟨p,g1,g2⟩:=asM.mp hv
     exact⟨p,g1,g2.symm⟩
    have fresh:∀b,s.heap.objs.size<=b->s.heap.get? b=none:=fun b hb=>by
     cases q:s.heap.get? b with
     |none=>rfl
     |some o=>exact absurd (Heap.lt_size q) (Nat.not_lt_of_le hb)
    refine ahY hhf ((Walks.list h3 _ l lI items).toS) s.heap.objs.size Sf ks isz D hD hkD hval s.heap hk (fresh _ (ash _)) (fun b hb=>fresh b (by rw[arQ.mp hb,sz1];exact Nat.le_succ _)) hu (items.size - 0) 0 _ (by omega) (asx _)
     ⟨⟨_,Heap.get?_push_size _ rfl,rfl,rfl⟩,(hl1.push _)⟩ (fun b o e=>Heap.get?_push_of_some _ (Heap.get?_push_of_some _ e)) ⟨[],#[],0,_,afW (Heap.get?_push_of_some _ hS),⟨fun p hp=>(by cases hp),fun p hp=>(by simp at hp)⟩⟩ fun u L es ep t hm hS' g' kp=>?_
    obtain⟨h',g2,d',tk',os'⟩:=u
    have eg:g2=s.gens:=hm.gens
    have ed:d'=s.drawn:=hm.drawn
    have eo:os'=s.os:=hm.os
    subst eg;subst ed;subst eo
    refine wpAny_pure ?_
    rw[isz]at g'
    exact wpAny_pure ⟨rfl,h',tk',L,es,ep,t,rfl,hS',g',kp⟩
   ·cases r₂ with
    |error e=>exact hr₂
    |ok fl₂=>
     cases fl₂ with
     |ret r=>
      obtain⟨rfl,h',tk,L,es,ep,t,rfl,hS',g',hk'⟩:=hr₂
      (repeat (any_goals first | assumption | wp_step))
      exact h _ _ _ _ _ _ hS' g' hk'
     |_=>exact hr₂.elim
  |_=>exact hr.elim
end
def acy(w:World)(h:Heap)(a:Addr)(L:List Ent):Prop:=∃(hf:Rw->Int) (es:Array (Int×Value)) (ep:Nat) (t:SetTable),(∃o,h.get? a=some o/\o.ExactSet/\o.data=.set es ep t)/\es.toList=ents hf L/\t.fits es.size=true/\Ris t.place.toList/\(w.params.followText "set-order"=true∨t.led=true)
def Nm(w:World)(a:Addr)(L:List Ent):HO:=.ext fun h=>acy w h a L
section
variable{X:Cx}
theorem Wd{P:Program}{w:World}{h:Heap}:∀(l:List Int) (us:List Value),Vals (l.map V.int) us->NestedAll h (l.map .num) us
 |[],_,.nil=>.nil
 |i::l,_,.cons r t=>by
  obtain⟨tk,rfl⟩:=r
  exact .cons (.int i tk) (Wd (P:=P) (w:=w) l _ t)
theorem VL:∀{ks:List Ent} {us:List Value},Vals (ks.map fun p=>V.ref p.1) us->us=ks.map fun p=>Value.ref p.1
 |[],_,.nil=>rfl
 |p::ks,_,.cons r t=>by
  cases r
  rw[VL t]
  rfl
theorem Wk{L:List Ent}:∀(out:List Value) (M:List Rw),PySem.W.EachIs (fun v (r:Rw)=>∃p∈L,v=Value.ref p.1/\r=p.2) out M->∃ys:List V,Vals ys out/\eZ (fun v (r:Rw)=>∃p∈L,v=V.ref p.1/\r=p.2) ys M
 |[],[],.nil=>⟨[],.nil,eZ.nil⟩
 |_::out,_::M,.cons ⟨p,hp,e1,e2⟩ k=>by
  obtain⟨ys,h1,h2⟩:=Wk out M k
  subst e1 e2
  refine⟨.ref p.1::ys,.cons rfl h1,by rw[arU,arU,h2.1],fun j u y g1 g2=>?_⟩
  cases j with
  |zero=>
   cases g1
   cases g2
   exact⟨p,hp,rfl,rfl⟩
  |succ j=>exact h2.2 j u y g1 g2
end
def gF(da dc:Addr):List (Str×V):=putF ("circles" : Str) (.ref dc) (putF ("allowances" : Str) (.ref da) [])
structure afb(C:Addr)(H:Hp)(p da dc:Addr)(al:List Int)(ci:List (List Int)):Prop where
 ob:∃dx,H p=some (.ins C dx (gF da dc))
 la:H da=some (.lst (al.map V.int))
 lc:∃us,H dc=some (.lst us)/\eZ (Jc H) us ci
 ne:da≠dc
theorem afb.mono{C:Addr}{H H':Hp}(e:Ex H H'){p da dc:Addr}{al:List Int}{ci:List (List Int)}(g:afb C H p da dc al ci):afb C H' p da dc al ci:=by
 obtain⟨⟨dx,ob⟩,la,⟨us,h1,h2⟩,ne⟩:=g
 exact⟨⟨dx,e _ _ ob⟩,e _ _ la,⟨us,e _ _ h1,h2.imp fun _ _ r=>r.mono e⟩,ne⟩
end Ear
namespace Rf
open PySem PySem.Spec PyProof.Rows L2 Evl
abbrev obj(h:Nat):Dat:=PyData.dict [(PyData.none,PyData.int (Int.ofNat h))]
inductive jd where
 |dat (d:Dat)|lst (n:Nat) (xs:List Dat)|dic (n:Bool) (kvs:List (Dat×Dat))
structure aQ where
 f:Str->Option Addr
 fl:Str->List Str
 w:World
instance:CoeFun aQ fun _=>Str->Option Addr:=⟨aQ.f⟩
structure Inst where
 cls:Str
 fs:List (Str×jd)
abbrev Mo:=List Inst
inductive Cell where
 |dat (d:Dat)|mut (xs:List Dat)
abbrev Env:=List (Option Cell)
structure dB where
 cls:Str
 fs:List (Str×Dat)
inductive Out(α:Type) where
 |ok (a:α)|exc (x:dB)|bad
inductive bx(α:Type) where
 |ok (a:α) (M:Mo)|exc (x:dB) (M:Mo)|bad
inductive sS where
 |next (ρ:Env) (M:Mo)|ret (d:Dat) (M:Mo)|brk (ρ:Env) (M:Mo)|cont (ρ:Env) (M:Mo)|exc (x:dB) (ρ:Env) (M:Mo)|bad
structure Gh where
 tbl:List Addr
 ow:Addr->Option (Nat×Str)
 Lc:Addr->Prop
 Lo:Addr->Prop
def Gh.W(g:Gh)(a:Addr):Prop:=a∈g.tbl∨g.ow a≠none
def Gh.A(g:Gh)(a:Addr):Prop:=g.W a∨g.Lc a∨g.Lo a
def Ig:HO->Prop
 |.tup _=>False
 |.frz _ _=>False
 |_=>True
def aoa(K:arJ)(a:Addr)(xs:List V):Prop:=∃(o:Obj) (its:Array Value) (n:Nat),K.lookup a=some o/\o.cls=.type "list"/\o.dict=none/\o.data=.seq its n/\its.size<=sizeLine/\Vals xs its.toList
def Qo(K:arJ)(g:Gh)(H:Hp)(a:Addr)(xs:List V):Prop:=(Rd H a (.lst xs)/\¬g.A a)∨aoa K a xs
theorem Qo.sq{K:arJ}{g:Gh}{H:Hp}{a:Addr}{xs:List V}(h:Qo K g H a xs):SqL K H a xs:=h.elim (fun z=>.inl z.1) .inr
mutual
inductive Rep(K:arJ)(g:Gh)(H:Hp):V->Dat->Prop
 |non:Rep K g H .non .none
 |bl (b:Bool):Rep K g H (.bl b) (.bool b)
 |int (i:Int):Rep K g H (.int i) (.int i)
 |str (x:Str):Rep K g H (.str x) (.str x)
 |tup {a:Addr} {xs:List V} {ds:List Dat}:SqT K H a xs->aJ K g H xs ds->Rep K g H (.ref a) (.tuple ds)
 |lst {a:Addr} {xs:List V} {ds:List Dat}:Qo K g H a xs->aJ K g H xs ds->Rep K g H (.ref a) (.list ds)
 |obj {a:Addr} {h:Nat}:g.tbl[h]?=some a->Rep K g H (.ref a) (obj h)
inductive aJ(K:arJ)(g:Gh)(H:Hp):List V->List Dat->Prop
 |nil:aJ K g H [] []
 |cons {v:V} {vs:List V} {d:Dat} {ds:List Dat}:Rep K g H v d->aJ K g H vs ds->aJ K g H (v::vs) (d::ds)
end
structure Kd(g:Gh)(H:Hp):Prop where
 ob:∀a,g.A a->∃o,H a=some o/\Ig o
 lo:∀a,g.Lo a->¬g.W a
 lc:∀a,g.Lc a->¬g.W a/\¬g.Lo a
structure Gr(q:Bool)(g g':Gh)(H H':Hp):Prop where
 keep:∀a o,H a=some o->¬g.W a->¬g.Lo a->H' a=some o
 keepW:q=true->∀a o,H a=some o->g.W a->H' a=some o
 dom:∀a,H' a=none->H a=none
 tbl:∃more,g'.tbl=g.tbl++more
 W:∀a,g.W a->g'.W a
 nW:∀a,g'.W a->g.W a∨H a=none
 qg:q=true->g'.tbl=g.tbl/\g'.ow=g.ow
 Lc:g'.Lc=g.Lc
 Lo:∀a,g.Lo a->g'.Lo a
 nLo:∀a,g'.Lo a->g.Lo a∨H a=none
section
variable{K:arJ}{q:Bool}{g g' g2:Gh}{H H' H2:Hp}{v:V}{d:Dat}
theorem Gr.refl:Gr q g g H H:=⟨fun _ _ h _ _=>h,fun _ _ _ h _=>h,fun _ h=>h,⟨[],by simp⟩,fun _ h=>h,fun _ h=>.inl h,fun _=>⟨rfl,rfl⟩,rfl,fun _ h=>h,fun _ h=>.inl h⟩
theorem Dj(e:Ex H H'):∀a,H' a=none->H a=none:=fun a h=>by
 cases h1:H a with
 |none=>rfl
 |some o=>
  rw[e a o h1]at h
  cases h
theorem Gr.ex(e:Ex H H'):Gr q g g H H':=⟨fun a o h _ _=>e a o h,fun _ a o h _=>e a o h,Dj e,⟨[],by simp⟩,fun _ h=>h,fun _ h=>.inl h,fun _=>⟨rfl,rfl⟩,rfl,fun _ h=>h,fun _ h=>.inl h⟩
theorem Gr.trans(a:Gr q g g' H H')(b:Gr q g' g2 H' H2):Gr q g g2 H H2 where
 keep:=fun x o h nw nl=>by
  have h1:=a.keep x o h nw nl
  refine b.keep x o h1 (fun z=>?_) (fun z=>?_)
  ·rcases a.nW x z with z|z
   ·exact nw z
   ·rw[h]at z
    cases z
  ·rcases a.nLo x z with z|z
   ·exact nl z
   ·rw[h]at z
    cases z
 keepW:=fun hq x o h w=>b.keepW hq x o (a.keepW hq x o h w) (a.W x w)
 dom:=fun x h=>a.dom x (b.dom x h)
 tbl:=by
  obtain⟨m1,e1⟩:=a.tbl
  obtain⟨m2,e2⟩:=b.tbl
  exact⟨m1++m2,by rw[e2,e1,List.append_assoc]⟩
 W:=fun x h=>b.W x (a.W x h)
 nW:=fun x h=>by
  rcases b.nW x h with z|z
  ·exact a.nW x z
  ·exact .inr (a.dom x z)
 qg:=fun hq=>by
  obtain⟨e1,e2⟩:=a.qg hq
  obtain⟨f1,f2⟩:=b.qg hq
  exact⟨f1.trans e1,f2.trans e2⟩
 Lc:=b.Lc.trans a.Lc
 Lo:=fun x h=>b.Lo x (a.Lo x h)
 nLo:=fun x h=>by
  rcases b.nLo x h with z|z
  ·exact a.nLo x z
  ·exact .inr (a.dom x z)
theorem Gr.loud(a:Gr q g g' H H'):Gr false g g' H H':=⟨a.keep,(fun h=>nomatch h),a.dom,a.tbl,a.W,a.nW,(fun h=>nomatch h),a.Lc,a.Lo,a.nLo⟩
theorem Gr.nA(r:Gr q g g' H H'){a:Addr}{o:HO}(h:H a=some o)(n:¬g.A a):¬g'.A a:=fun z=>by
 rcases z with z|z|z
 ·rcases r.nW a z with z|z
  ·exact n (.inl z)
  ·rw[h]at z
   cases z
 ·rw[r.Lc]at z
  exact n (.inr (.inl z))
 ·rcases r.nLo a z with z|z
  ·exact n (.inr (.inr z))
  ·rw[h]at z
   cases z
theorem Gr.rd(r:Gr q g g' H H'){a:Addr}{o:HO}(h:Rd H a o)(n:¬g.A a):Rd H' a o/\¬g'.A a:=by
 rcases h with h|⟨z,h⟩
 ·exact⟨.inl (r.keep a _ h (fun w=>n (.inl w)) fun w=>n (.inr (.inr w))),r.nA h n⟩
 ·exact⟨.inr ⟨z,r.keep a _ h (fun w=>n (.inl w)) fun w=>n (.inr (.inr w))⟩,r.nA h n⟩
theorem Kd.tup(k:Kd g H){a:Addr}{xs:List V}(h:Rd H a (.tup xs)):¬g.A a:=fun z=>by
 obtain⟨o,e,m⟩:=k.ob a z
 rcases h with h|⟨y,h⟩ <;> (rw[h]at e;cases e;exact m)
theorem Gr.sqT(r:Gr q g g' H H')(k:Kd g H){a:Addr}{xs:List V}(h:SqT K H a xs):SqT K H' a xs:=by
 rcases h with h|h
 ·exact .inl (r.rd h (k.tup h)).1
 ·exact .inr h
theorem Gr.ls(r:Gr q g g' H H'){a:Addr}{xs:List V}(h:Qo K g H a xs):Qo K g' H' a xs:=by
 rcases h with⟨h,n⟩|h
 ·exact .inl (r.rd h n)
 ·exact .inr h
theorem Gr.tb(r:Gr q g g' H H'){h:Nat}{a:Addr}(e:g.tbl[h]?=some a):g'.tbl[h]?=some a:=by
 obtain⟨m,em⟩:=r.tbl
 rw[em,arX (arL.mp e).1]
 exact e
mutual
theorem Rep.gr(r:Gr q g g' H H')(k:Kd g H):∀{v:V} {d:Dat},Rep K g H v d->Rep K g' H' v d
 |_,_,.non=>.non
 |_,_,.bl b=>.bl b
 |_,_,.int i=>.int i
 |_,_,.str x=>.str x
 |_,_,.tup h t=>.tup (r.sqT k h) (aJ.gr r k t)
 |_,_,.lst h t=>.lst (r.ls h) (aJ.gr r k t)
 |_,_,.obj h=>.obj (r.tb h)
theorem aJ.gr(r:Gr q g g' H H')(k:Kd g H):∀{vs:List V} {ds:List Dat},aJ K g H vs ds->aJ K g' H' vs ds
 |_,_,.nil=>.nil
 |_,_,.cons h t=>.cons (Rep.gr r k h) (aJ.gr r k t)
end
mutual
theorem Rep.less(e:g'.tbl=g.tbl)(n:∀a,g'.A a->g.A a):∀{v:V} {d:Dat},Rep K g H v d->Rep K g' H v d
 |_,_,.non=>.non
 |_,_,.bl b=>.bl b
 |_,_,.int i=>.int i
 |_,_,.str x=>.str x
 |_,_,.tup h t=>.tup h (aJ.less e n t)
 |_,_,.lst h t=>.lst (h.elim (fun z=>.inl ⟨z.1,fun y=>z.2 (n _ y)⟩) .inr) (aJ.less e n t)
 |_,_,.obj h=>.obj (by rw[e];exact h)
theorem aJ.less(e:g'.tbl=g.tbl)(n:∀a,g'.A a->g.A a):∀{vs:List V} {ds:List Dat},aJ K g H vs ds->aJ K g' H vs ds
 |_,_,.nil=>.nil
 |_,_,.cons h t=>.cons (Rep.less e n h) (aJ.less e n t)
end
mutual
def lf:Dat->Bool
 |.list _=>false
 |.tuple ds=>Oh ds
 |.dict _=>true
 |.none=>true
 |.bool _=>true
 |.int _=>true
 |.str _=>true
def Oh:List Dat->Bool
 |[]=>true
 |d::ds=>lf d&&Oh ds
end
mutual
theorem Rep.free(e:g'.tbl=g.tbl):∀{v:V} {d:Dat},lf d=true->Rep K g H v d->Rep K g' H v d
 |_,_,_,.non=>.non
 |_,_,_,.bl b=>.bl b
 |_,_,_,.int i=>.int i
 |_,_,_,.str x=>.str x
 |_,_,f,.tup h t=>.tup h (aJ.free e (by rw[lf]at f;exact f) t)
 |_,_,f,.lst h t=>by rw[lf]at f;cases f
 |_,_,_,.obj h=>.obj (by rw[e];exact h)
theorem aJ.free(e:g'.tbl=g.tbl):∀{vs:List V} {ds:List Dat},Oh ds=true->aJ K g H vs ds->aJ K g' H vs ds
 |_,_,_,.nil=>.nil
 |_,_,f,.cons h t=>.cons (Rep.free e (by rw[Oh,arK]at f;exact f.1) h) (aJ.free e (by rw[Oh,arK]at f;exact f.2) t)
end
theorem aJ.length:∀{vs:List V} {ds:List Dat},aJ K g H vs ds->vs.length=ds.length
 |_,_,.nil=>rfl
 |_,_,.cons _ t=>congrArg (· + 1) t.length
theorem aJ.get:∀{vs:List V} {ds:List Dat} {i:Nat} {d:Dat},aJ K g H vs ds->ds[i]?=some d->∃v,vs[i]?=some v/\Rep K g H v d
 |_,_,_,_,.nil,e=>by simp at e
 |_,_,0,_,.cons h _,e=>by simp at e;subst e;exact⟨_,rfl,h⟩
 |_,_,i+1,_,.cons _ t,e=>by simpa using t.get (i:=i) (by simpa using e)
theorem aJ.get':∀{vs:List V} {ds:List Dat} {i:Nat} {v:V},aJ K g H vs ds->vs[i]?=some v->∃d,ds[i]?=some d/\Rep K g H v d
 |_,_,_,_,.nil,e=>by simp at e
 |_,_,0,_,.cons h _,e=>by simp at e;subst e;exact⟨_,rfl,h⟩
 |_,_,i+1,_,.cons _ t,e=>by simpa using t.get' (i:=i) (by simpa using e)
theorem aJ.append:∀{vs ws:List V} {ds es:List Dat},aJ K g H vs ds->aJ K g H ws es->aJ K g H (vs++ws) (ds++es)
 |_,_,_,_,.nil,t=>t
 |_,_,_,_,.cons h r,t=>.cons h (r.append t)
theorem aJ.take:∀{vs:List V} {ds:List Dat} (n:Nat),aJ K g H vs ds->aJ K g H (vs.take n) (ds.take n)
 |_,_,0,_=>.nil
 |_,_,_+1,.nil=>.nil
 |_,_,n+1,.cons h t=>.cons h (t.take n)
theorem aJ.drop:∀{vs:List V} {ds:List Dat} (n:Nat),aJ K g H vs ds->aJ K g H (vs.drop n) (ds.drop n)
 |_,_,0,t=>t
 |_,_,_+1,.nil=>.nil
 |_,_,n+1,.cons _ t=>t.drop n
theorem aJ.set{v:V}{d:Dat}(r:Rep K g H v d):∀{vs:List V} {ds:List Dat} (i:Nat),aJ K g H vs ds->aJ K g H (vs.set i v) (ds.set i d)
 |_,_,_,.nil=>.nil
 |_,_,0,.cons _ t=>.cons r t
 |_,_,i+1,.cons h t=>.cons h (t.set r i)
theorem Gr.upd{l:Addr}{o o':HO}(k:Kd g H)(h:H l=some o)(w:(g.W l/\q=false)∨g.Lo l):Gr q g g H (L2.upd H l o') where
 keep:=fun a u e nw nl=>by
  rw[upd_ne (fun z=>by subst z;exact w.elim (fun w=>nw w.1) nl)]
  exact e
 keepW:=fun hq a u e wa=>by
  rcases w with w|w
  ·rw[hq]at w
   cases w.2
  ·rw[upd_ne (fun z=>by subst z;exact k.lo _ w wa)]
   exact e
 dom:=fun a e=>by
  by_cases z:a=l
  ·subst z
   rw[upd_same]at e
   cases e
  ·rw[upd_ne z]at e
   exact e
 tbl:=⟨[],by simp⟩
 W:=fun _ h=>h
 nW:=fun _ h=>.inl h
 qg:=fun _=>⟨rfl,rfl⟩
 Lc:=rfl
 Lo:=fun _ h=>h
 nLo:=fun _ h=>.inl h
theorem Kd.ex(k:Kd g H)(e:Ex H H'):Kd g H':=⟨fun a z=>let ⟨o,h,m⟩:=k.ob a z;⟨o,e a o h,m⟩,k.lo,k.lc⟩
theorem Kd.upd(k:Kd g H){l:Addr}{o:HO}(m:Ig o):Kd g (L2.upd H l o):=⟨fun a z=>by
 by_cases e:a=l
 ·subst e
  exact⟨o,upd_same,m⟩
 ·rw[upd_ne e]
  exact k.ob a z,k.lo,k.lc⟩
theorem Rep.ex(e:Ex H H')(k:Kd g H)(h:Rep K g H v d):Rep K g H' v d:=h.gr (Gr.ex (q:=true) e) k
theorem aJ.ex{vs:List V}{ds:List Dat}(e:Ex H H')(k:Kd g H)(h:aJ K g H vs ds):aJ K g H' vs ds:=h.gr (Gr.ex (q:=true) e) k
end
def keyD:Key->Dat
 |.inl i=>.int i
 |.inr x=>.str x
def iU(l:Addr)(o:Obj):HO:=.ext fun h=>h.get? l=some o
abbrev mY:Type:=NestedKey×Addr×Value
def adk(w:World)(x:mY):DictEntry:=⟨x.1.hash w,.ref x.2.1,x.2.2⟩
structure lF(w:World)(l:Addr)(o:Obj)(xs:List mY):Prop where
 sys:(l==sysModules)=false
 ex:o.ExactDict
 ent:∃es ep,o.data=.dict es ep/\es.toList=xs.map (adk w)
 nd:(xs.map (·.1)).Nodup
 len:xs.length<=sizeLine
 dep:∀x∈xs,x.1.depth<=8
def jE(K:arJ)(aj:aQ)(g:Gh)(H:Hp)(l:Addr):Bool->List (Dat×Dat)->Prop
 |false,kvs=>∃kv:List (Key×V),H l=some (.dK kv)/\kvs.map (·.1)=kv.map (fun p=>keyD p.1)/\aJ K g H (kv.map (·.2)) (kvs.map (·.2))
 |true,kvs=>∃(o:Obj) (xs:List mY) (vs:List V),H l=some (iU l o)/\lF aj.w l o xs/\kvs.map (·.1)=xs.map (fun x=>x.1.data)/\aJ K g H (xs.map fun x=>V.ref x.2.1) (kvs.map (·.1))/\Vals vs (xs.map (·.2.2))/\aJ K g H vs (kvs.map (·.2))
def dN(K:arJ)(aj:aQ)(g:Gh)(H:Hp)(h:Nat)(f:Str)(v:V):jd->Prop
 |.dat d=>Rep K g H v d
 |.lst n xs=>∃l us,v=.ref l/\H l=some (.lst us)/\g.ow l=some (h,f)/\aJ K g H us xs/\g.tbl[n]?=some l
 |.dic n kvs=>∃l,v=.ref l/\g.ow l=some (h,f)/\jE K aj g H l n kvs
inductive cM(K:arJ)(aj:aQ)(g:Gh)(H:Hp)(h:Nat):List (Str×V)->List (Str×jd)->Prop
 |nil:cM K aj g H h [] []
 |cons {f:Str} {v:V} {fl:jd} {fs:List (Str×V)} {gs:List (Str×jd)}:dN K aj g H h f v fl->cM K aj g H h fs gs->cM K aj g H h ((f,v)::fs) ((f,fl)::gs)
structure fV(K:arJ)(aj:aQ)(g:Gh)(H:Hp)(M:Mo):Prop where
 len:g.tbl.length=M.length
 inj:∀(h k:Nat) (a:Addr),g.tbl[h]?=some a->g.tbl[k]?=some a->h=k
 ins:∀(h:Nat) (a:Addr) (i:Inst),g.tbl[h]?=some a->M[h]?=some i->i.cls≠""->∃C dx fs,aj i.cls=some C/\H a=some (.ins C dx fs)/\cM K aj g H h fs i.fs
 nd:∀(h:Nat) (i:Inst),M[h]?=some i->(i.fs.map (·.1)).Nodup
 fd:∀(h:Nat) (i:Inst),M[h]?=some i->∀f∈i.fs.map (·.1),f∈aj.fl i.cls
 tw:∀(h:Nat) (a:Addr) (i:Inst),g.tbl[h]?=some a->M[h]?=some i->i.cls≠""->g.ow a=none
 dm:∀(h:Nat) (i:Inst),M[h]?=some i->i.cls=""->i.fs=[]
 nc:aj ""=none
structure SInv(K:arJ)(aj:aQ)(σ:L2.St)(H:Hp)(g:Gh)(ρ:Env)(M:Mo):Prop where
 kd:Kd g H
 wok:fV K aj g H M
 len:σ.length=ρ.length
 dat:∀(i:Nat) (d:Dat),ρ[i]?=some (some (.dat d))->∃v,σ[i]?=some (some v)/\Rep K g H v d
 own:∀(i:Nat) (xs:List Dat),ρ[i]?=some (some (.mut xs))->∃l us,σ[i]?=some (some (.ref l))/\H l=some (.lst us)/\g.Lo l/\aJ K g H us xs
 sep:∀(i j:Nat) (xs ys:List Dat) (l:Addr),i≠j->ρ[i]?=some (some (.mut xs))->ρ[j]?=some (some (.mut ys))->σ[i]?=some (some (.ref l))->σ[j]?≠some (some (.ref l))
section
variable{K:arJ}{aj:aQ}{q:Bool}{g g' g2:Gh}{H H' H2:Hp}{v:V}{d:Dat}{σ:L2.St}{ρ:Env}{M:Mo}
theorem jE.ex{l:Addr}:∀{n:Bool} {kvs:List (Dat×Dat)} (e:Ex H H') (k:Kd g H) (h:jE K aj g H l n kvs),jE K aj g H' l n kvs
 |false,_,e,k,⟨kv,h1,h2,h3⟩=>⟨kv,e _ _ h1,h2,h3.ex e k⟩
 |true,_,e,k,⟨o,xs,vs,h1,h2,h3,h4,h5,h6⟩=>⟨o,xs,vs,e _ _ h1,h2,h3,h4.ex e k,h5,h6.ex e k⟩
theorem dN.ex{h:Nat}{f:Str}(e:Ex H H')(k:Kd g H):∀{fl:jd},dN K aj g H h f v fl->dN K aj g H' h f v fl
 |.dat _,r=>Rep.ex e k r
 |.lst _ _,⟨l,us,h1,h2,h3,h4,h5⟩=>⟨l,us,h1,e _ _ h2,h3,h4.ex e k,h5⟩
 |.dic _ _,⟨l,h1,h2,h3⟩=>⟨l,h1,h2,h3.ex e k⟩
theorem cM.ex{h:Nat}(e:Ex H H')(k:Kd g H):∀{fs:List (Str×V)} {gs:List (Str×jd)},cM K aj g H h fs gs->cM K aj g H' h fs gs
 |_,_,.nil=>.nil
 |_,_,.cons r t=>.cons (dN.ex e k r) (cM.ex e k t)
theorem fV.ex(e:Ex H H')(k:Kd g H)(w:fV K aj g H M):fV K aj g H' M:=⟨w.len,w.inj,fun h a i ha hi hc=>by
 obtain⟨C,dx,fs,c1,c2,c3⟩:=w.ins h a i ha hi hc
 exact⟨C,dx,fs,c1,e _ _ c2,c3.ex e k⟩,w.nd,w.fd,w.tw,w.dm,w.nc⟩
theorem SInv.ex(e:Ex H H')(I:SInv K aj σ H g ρ M):SInv K aj σ H' g ρ M:=⟨I.kd.ex e,I.wok.ex e I.kd,I.len,fun i d h=>by
 obtain⟨v,h1,h2⟩:=I.dat i d h
 exact⟨v,h1,h2.ex e I.kd⟩,fun i xs h=>by
 obtain⟨l,us,h1,h2,h3,h4⟩:=I.own i xs h
 exact⟨l,us,h1,e _ _ h2,h3,h4.ex e I.kd⟩,I.sep⟩
theorem cM.get{h:Nat}{f:Str}{fl:jd}:∀{fs:List (Str×V)} {gs:List (Str×jd)},cM K aj g H h fs gs->gs.lookup f=some fl->∃v,fs.lookup f=some v/\dN K aj g H h f v fl
 |_,_,.nil,e=>nomatch e
 |_,_,.cons (f:=f') (v:=v) (fl:=fl') r t,e=>by
  rw[asj]at e
  rw[asj]
  cases hb:f==f' with
  |true=>
   rw[hb]at e
   cases e
   have ef:f=f':=by simpa using hb
   subst ef
   exact⟨v,rfl,r⟩
  |false=>
   rw[hb]at e
   exact t.get e
theorem cM.no{h:Nat}{f:Str}:∀{fs:List (Str×V)} {gs:List (Str×jd)},cM K aj g H h fs gs->gs.lookup f=none->fs.lookup f=none
 |_,_,.nil,_=>rfl
 |_,_,.cons (f:=f') (v:=v) (fl:=fl') r t,e=>by
  rw[asj]at e
  rw[asj]
  cases hb:f==f' with
  |true=>
   rw[hb]at e
   cases e
  |false=>
   rw[hb]at e
   exact t.no e
end
def Out.bind{α β:Type}(o:Out α)(k:α->Out β):Out β:=
 match o with
 |.ok a=>k a
 |.exc x=>.exc x
 |.bad=>.bad
def Out.sat{α:Type}(o:Out α)(P:α->Prop)(E:dB->Prop):Prop:=
 match o with
 |.ok a=>P a
 |.exc x=>E x
 |.bad=>False
@[simp]theorem Out.yO {α β:Type} (a:α) (k:α->Out β):(Out.ok a).bind k=k a:=rfl
@[simp]theorem Out.agc {α β:Type} (x:dB) (k:α->Out β):(Out.exc x:Out α).bind k=.exc x:=rfl
@[simp]theorem Out.agn {α β:Type} (k:α->Out β):(Out.bad:Out α).bind k=.bad:=rfl
theorem Out.sat.bnd{α β:Type}{o:Out α}{k:α->Out β}{P:β->Prop}{E:dB->Prop}(h:(o.bind k).sat P E):o.sat (fun a=>(k a).sat P E) E:=by
 cases o <;> exact h
theorem Out.sat.mono{α:Type}{o:Out α}{P P':α->Prop}{E E':dB->Prop}(h:o.sat P E)(hp:∀a,P a->P' a)(he:∀x,E x->E' x):o.sat P' E':=by
 cases o
 ·exact hp _ h
 ·exact he _ h
 ·exact h
def Out.when{α:Type}(b:Bool)(o:Out α):Out α:=if b=true then o else .bad
@[simp]theorem Out.Wb {α:Type} (o:Out α):Out.when true o=o:=rfl
@[simp]theorem Out.alG {α:Type} (o:Out α):Out.when false o=.bad:=rfl
theorem Out.sat.pY{α:Type}{b:Bool}{o:Out α}{P:α->Prop}{E:dB->Prop}(h:(Out.when b o).sat P E):b=true/\o.sat P E:=by
 cases b
 ·exact False.elim h
 ·exact⟨rfl,h⟩
inductive lC(K:arJ)(g:Gh)(H:Hp):List (Str×V)->List (Str×Dat)->Prop
 |nil:lC K g H [] []
 |cons {f:Str} {v:V} {d:Dat} {fs:List (Str×V)} {gs:List (Str×Dat)}:Rep K g H v d->lC K g H fs gs->lC K g H ((f,v)::fs) ((f,d)::gs)
def qF(K:arJ)(aj:aQ)(g:Gh)(H:Hp)(x:dB)(c:Value)(dd:Option Addr):Prop:=
 ∃C,aj x.cls=some C/\c=.ref C/\((x.fs=[]/\dd=none)∨∃a fs,dd=some a/\H a=some (.xd fs)/\lC K g H fs x.fs)
abbrev QF:=Mo->Env->Out Dat
abbrev QT:=Mo->Env->Out Bool
abbrev QA:=Mo->Env->Out (List Dat)
section
variable(K:arJ)(aj:aQ)(W:WX)
def qO(g:Gh)(H:Hp)(σ:L2.St)(x:dB):Prop:=∀H' c dd,Ex H H'->qF K aj g H' x c dd->W c dd σ H'
def tQ(f:QF):TE:=fun σ H Q=>∃g ρ M,SInv K aj σ H g ρ M/\(f M ρ).sat (fun d=>∀v H',Ex H H'->Rep K g H' v d->Q v H') (qO K aj W g H σ)
def kh(f:QT):TT:=fun σ H Q=>∃g ρ M,SInv K aj σ H g ρ M/\(f M ρ).sat (fun b=>∀H',Ex H H'->Q b H') (qO K aj W g H σ)
def Ou(f:QA):TA:=fun σ H Q=>∃g ρ M,SInv K aj σ H g ρ M/\(f M ρ).sat (fun ds=>∀vs H',Ex H H'->aJ K g H' vs ds->Q vs H') (qO K aj W g H σ)
end
section
variable{K:arJ}{aj:aQ}{W:WX}{g:Gh}{H H1:Hp}{σ:L2.St}{ρ:Env}{M:Mo}
theorem qO.ex{x:dB}(e:Ex H H1)(h:qO K aj W g H σ x):qO K aj W g H1 σ x:=fun H' c dd e' r=>h H' c dd (e.trans e') r
theorem tQ.go{f:QF}{k:Dat->Prop}{Q:VK}(I:SInv K aj σ H g ρ M)(h:(f M ρ).sat k (qO K aj W g H σ))(hk:∀d v H',k d->Ex H H'->Rep K g H' v d->Q v H'):tQ K aj W f σ H Q:=
 ⟨g,ρ,M,I,h.mono (fun d hd v H' e r=>hk d v H' hd e r) fun _ z=>z⟩
theorem kh.go{f:QT}{k:Bool->Prop}{Q:Bool->Hp->Prop}(I:SInv K aj σ H g ρ M)(h:(f M ρ).sat k (qO K aj W g H σ))(hk:∀b H',k b->Ex H H'->Q b H'):kh K aj W f σ H Q:=
 ⟨g,ρ,M,I,h.mono (fun d hd H' e=>hk d H' hd e) fun _ z=>z⟩
theorem Ou.go{f:QA}{k:List Dat->Prop}{Q:List V->Hp->Prop}(I:SInv K aj σ H g ρ M)(h:(f M ρ).sat k (qO K aj W g H σ))(hk:∀ds vs H',k ds->Ex H H'->aJ K g H' vs ds->Q vs H'):Ou K aj W f σ H Q:=
 ⟨g,ρ,M,I,h.mono (fun d hd v H' e r=>hk d v H' hd e r) fun _ z=>z⟩
end
def QE(aj:aQ)(X:Cx)(W:WX)(e:Expr)(f:QF):Prop:=PE X e (tQ X.K aj W f)
def rP(aj:aQ)(X:Cx)(W:WX)(e:Expr)(f:QT):Prop:=PT X e (kh X.K aj W f)
def Ed(aj:aQ)(X:Cx)(W:WX)(es:List Expr)(f:QA):Prop:=PA X es (Ou X.K aj W f)
theorem PE.weak{X:Cx}{e:Expr}{t t':TE}(h:PE X e t)(k:∀σ H Q,t' σ H Q->t σ H Q):PE X e t':=⟨fun pins s σ H Q I q=>h.run pins s σ H Q I (k σ H Q q)⟩
theorem PT.weak{X:Cx}{e:Expr}{t t':TT}(h:PT X e t)(k:∀σ H Q,t' σ H Q->t σ H Q):PT X e t':=⟨fun pins s σ H Q I q=>h.run pins s σ H Q I (k σ H Q q)⟩
theorem PA.weak{X:Cx}{e:List Expr}{t t':TA}(h:PA X e t)(k:∀σ H Q,t' σ H Q->t σ H Q):PA X e t':=⟨fun pos pins s σ H Q I q=>h.run pos pins s σ H Q I (k σ H Q q)⟩
def aq(i:Nat):QF:=fun _ ρ=>match ρ[i]? with
 |some (some (.dat d))=>.ok d
 |_=>.bad
def qC(d:Dat):QF:=fun _ _=>.ok d
def aA(o:Dat->Dat->Out Dat)(a b:QF):QF:=fun M ρ=>(a M ρ).bind fun x=>(b M ρ).bind fun y=>o x y
def eE(o:Dat->Out Dat)(a:QF):QF:=fun M ρ=>(a M ρ).bind o
def au:QA:=fun _ _=>.ok []
def ak(a:QF)(r:QA):QA:=fun M ρ=>(a M ρ).bind fun x=>(r M ρ).bind fun xs=>.ok (x::xs)
def bB(r:QA):QF:=fun M ρ=>(r M ρ).bind fun xs=>Out.when (decide (xs.length<=100000)) (.ok (.tuple xs))
def Bs(r:QA):QF:=fun M ρ=>(r M ρ).bind fun xs=>Out.when (decide (xs.length<=100000)) (.ok (.list xs))
section
variable{X:Cx}{aj:aQ}{W:WX}{a b:Expr}{fa fb:QF}{pos:Pos}
theorem akm{i:Nat}{x:Str}(hN:X.N[i]?=some x)(hv:Vis X.env.scope x)(hd:(x==("__debug__" : Str))=false)(hcd:(x==("__classdict__" : Str))=false):QE aj X W (.Name x pos) (aq i):=
 PE.weak (pe_var hN hv hd hcd) fun σ H Q ⟨g,ρ,M,I,h⟩=>by
  unfold aq at h
  split at h
  ·next d e=>
   obtain⟨v,h1,h2⟩:=I.dat i d e
   exact⟨v,h1,h v H (Ex.refl H) h2⟩
  ·exact False.elim h
theorem ajp{i:Int}{j:Nat}:QE aj X W (.Constant (.int i) j pos) (qC (.int i)):=PE.weak pe_int fun σ H Q ⟨g,ρ,M,I,h⟩=>h _ H (Ex.refl H) (.int i)
theorem ak3{x:Str}{j:Nat}:QE aj X W (.Constant (.str x) j pos) (qC (.str x)):=PE.weak pe_str fun σ H Q ⟨g,ρ,M,I,h⟩=>h _ H (Ex.refl H) (.str x)
theorem amv{x:Bool}{j:Nat}:QE aj X W (.Constant (.bool x) j pos) (qC (.bool x)):=PE.weak pe_bl fun σ H Q ⟨g,ρ,M,I,h⟩=>h _ H (Ex.refl H) (.bl x)
theorem akP{j:Nat}:QE aj X W (.Constant .none j pos) (qC .none):=PE.weak pe_non fun σ H Q ⟨g,ρ,M,I,h⟩=>h _ H (Ex.refl H) .non
theorem ajE:Ed aj X W [] au:=PA.weak pa_nil fun σ H Q ⟨g,ρ,M,I,h⟩=>h [] H (Ex.refl H) .nil
theorem ah9{es:List Expr}{fr:QA}(ha:QE aj X W a fa)(hr:Ed aj X W es fr)(hs:starEach (a::es) X.env=(false,eval a X.env)::starEach es X.env):Ed aj X W (a::es) (ak fa fr):=
 PA.weak (pa_cons ha hr hs) fun σ H Q ⟨g,ρ,M,I,h⟩=>by
  refine tQ.go I h.bnd fun d v H1 h1 e1 r1=>?_
  refine Ou.go (I.ex e1) (h1.bnd.mono (fun _ z=>z) fun _ z=>z.ex e1) fun ds vs H2 h2 e2 r2=>?_
  exact h2 (v::vs) H2 (e1.trans e2) (.cons (r1.ex e2 (I.kd.ex e1)) r2)
theorem ai7{es:List Expr}{fr:QA}{k:Nat}(h:Ed aj X W es fr):QE aj X W (.Tuple es k pos) (bB fr):=
 PE.weak (pe_tup h) fun σ H Q ⟨g,ρ,M,I,h⟩=>by
  refine Ou.go I h.bnd fun ds vs H1 h1 e1 r1=>?_
  obtain⟨hz,h1⟩:=h1.pY
  have hl:vs.length<=100000:=by
   rw[r1.length]
   exact of_decide_eq_true hz
  refine⟨sz_of hl,fun p np=>h1 (.ref p) _ (e1.trans (Ex.new np)) (.tup (st_of upd_same) (r1.ex (Ex.new np) (I.kd.ex e1)))⟩
theorem Kd.fresh{g:Gh}{H:Hp}(k:Kd g H){p:Addr}(n:H p=none):¬g.A p:=fun z=>by
 obtain⟨o,e,_⟩:=k.ob p z
 rw[n]at e
 cases e
theorem aj4{es:List Expr}{fr:QA}(h:Ed aj X W es fr):QE aj X W (.List es pos) (Bs fr):=
 PE.weak (pe_lst h) fun σ H Q ⟨g,ρ,M,I,h⟩=>by
  refine Ou.go I h.bnd fun ds vs H1 h1 e1 r1=>?_
  obtain⟨hz,h1⟩:=h1.pY
  have hl:vs.length<=100000:=by
   rw[r1.length]
   exact of_decide_eq_true hz
  refine⟨sz_of hl,fun p np=>h1 (.ref p) _ (e1.trans (Ex.new np)) (.lst (.inl ⟨.inl upd_same,(I.kd.ex e1).fresh np⟩) (r1.ex (Ex.new np) (I.kd.ex e1)))⟩
end
def dY(K:arJ)(g:Gh)(H:Hp)(v:V):Dat->Prop
 |.list ds=>∃a us,v=.ref a/\SqL K H a us/\aJ K g H us ds
 |d=>Rep K g H v d
section
variable{K:arJ}{g:Gh}{H H':Hp}{v:V}{d:Dat}
theorem Rep.weak(h:Rep K g H v d):dY K g H v d:=by
 cases h with
 |lst a t=>exact⟨_,_,rfl,a.sq,t⟩
 |non=>exact .non
 |bl b=>exact .bl b
 |int i=>exact .int i
 |str x=>exact .str x
 |tup a t=>exact .tup a t
 |obj a=>exact .obj a
theorem dY.ex(e:Ex H H')(k:Kd g H)(h:dY K g H v d):dY K g H' v d:=by
 cases d with
 |list ds=>
  obtain⟨a,us,h1,h2,h3⟩:=h
  exact⟨a,us,h1,ex_l e h2,h3.ex e k⟩
 |_=>exact Rep.ex e k h
theorem cH{i:Int}(h:dY K g H v (.int i)):v=.int i:=by cases h;rfl
theorem jQ{x:Str}(h:dY K g H v (.str x)):v=.str x:=by cases h;rfl
theorem Ef{b:Bool}(h:dY K g H v (.bool b)):v=.bl b:=by cases h;rfl
theorem Gi(h:dY K g H v .none):v=.non:=by cases h;rfl
theorem kE{ds:List Dat}(h:dY K g H v (.tuple ds)):∃a us,v=.ref a/\SqT K H a us/\aJ K g H us ds:=by
 cases h with
 |tup a t=>exact⟨_,_,rfl,a,t⟩
theorem jk{ds:List Dat}(h:dY K g H v (.list ds)):∃a us,v=.ref a/\SqL K H a us/\aJ K g H us ds:=h
theorem Ks{n:Nat}(h:dY K g H v (obj n)):∃a,v=.ref a/\g.tbl[n]?=some a:=by
 cases h with
 |obj a=>exact⟨_,rfl,a⟩
end
section
variable(K:arJ)(aj:aQ)(W:WX)
def tW(f:QF):TE:=fun σ H Q=>∃g ρ M,SInv K aj σ H g ρ M/\(f M ρ).sat (fun d=>∀v H',Ex H H'->dY K g H' v d->Q v H') (qO K aj W g H σ)
end
theorem tW.go{K:arJ}{aj:aQ}{W:WX}{g:Gh}{H:Hp}{σ:L2.St}{ρ:Env}{M:Mo}{f:QF}{k:Dat->Prop}{Q:VK}(I:SInv K aj σ H g ρ M)(h:(f M ρ).sat k (qO K aj W g H σ))(hk:∀d v H',k d->Ex H H'->dY K g H' v d->Q v H'):tW K aj W f σ H Q:=
 ⟨g,ρ,M,I,h.mono (fun d hd v H' e r=>hk d v H' hd e r) fun _ z=>z⟩
def QW(aj:aQ)(X:Cx)(W:WX)(e:Expr)(f:QF):Prop:=PE X e (tW X.K aj W f)
theorem QE.w{aj:aQ}{X:Cx}{W:WX}{e:Expr}{f:QF}(h:QE aj X W e f):QW aj X W e f:=
 PE.weak h fun σ H Q ⟨g,ρ,M,I,z⟩=>⟨g,ρ,M,I,z.mono (fun _ k v H' e r=>k v H' e r.weak) fun _ y=>y⟩
def ao(i:Nat):QF:=fun _ ρ=>match ρ[i]? with
 |some (some (.dat d))=>.ok d
 |some (some (.mut xs))=>.ok (.list xs)
 |_=>.bad
def qb(aj:aQ)(K:arJ)(W:WX)(o:Dat->Dat->Out Dat)(r:R2):Prop:=∀(σ:L2.St) (g:Gh) (H:Hp) (x y:V) (d e:Dat) (Q:VK),Kd g H->dY K g H x d->dY K g H y e->
 (o d e).sat (fun z=>∀v H',Ex H H'->Rep K g H' v z->Q v H') (qO K aj W g H σ)->r x y H Q
section
variable{X:Cx}{aj:aQ}{W:WX}{a b c:Expr}{fa fb fc:QF}{pos:Pos}
theorem ai1{i:Nat}{x:Str}(hN:X.N[i]?=some x)(hv:Vis X.env.scope x)(hd:(x==("__debug__" : Str))=false)(hcd:(x==("__classdict__" : Str))=false):QW aj X W (.Name x pos) (ao i):=
 PE.weak (pe_var hN hv hd hcd) fun σ H Q ⟨g,ρ,M,I,h⟩=>by
  unfold ao at h
  split at h
  ·next d e=>
   obtain⟨v,h1,h2⟩:=I.dat i d e
   exact⟨v,h1,h v H (Ex.refl H) h2.weak⟩
  ·next xs e=>
   obtain⟨l,us,h1,h2,h3,h4⟩:=I.own i xs e
   exact⟨.ref l,h1,h _ H (Ex.refl H) ⟨l,us,rfl,sq_of h2,h4⟩⟩
  ·exact False.elim h
theorem QH{o:Dat->Dat->Out Dat}{r:R2}(ho:qb aj X.K W o r)(σ:L2.St)(H:Hp)(Q:VK)(h:tQ X.K aj W (aA o fa fb) σ H Q):tOp r (tW X.K aj W fa) (tW X.K aj W fb) σ H Q:=by
 obtain⟨g,ρ,M,I,h⟩:=h
 refine tW.go I h.bnd fun d v H1 h1 e1 r1=>?_
 refine tW.go (I.ex e1) (h1.bnd.mono (fun _ z=>z) fun _ z=>z.ex e1) fun d2 v2 H2 h2 e2 r2=>?_
 refine ho σ g H2 v v2 d d2 Q ((I.kd.ex e1).ex e2) (r1.ex e2 (I.kd.ex e1)) r2 (h2.mono (fun z hz u H' e' r'=>hz u H' ((e1.trans e2).trans e') r') fun _ z=>(z.ex e1).ex e2)
theorem ajI{op:Operator}{r:R2}{o:Dat->Dat->Out Dat}(hr:OpR X (binaryOp op) r)(ho:qb aj X.K W o r)(ha:QW aj X W a fa)(hb:QW aj X W b fb):QE aj X W (.BinOp a op b pos) (aA o fa fb):=
 PE.weak (pe_op hr ha hb) fun σ H Q h=>QH ho σ H Q h
theorem ahX{op:CmpOp}{r:R2}{o:Dat->Dat->Out Dat}(hr:OpR X (compareOp op) r)(ho:qb aj X.K W o r)(ha:QW aj X W a fa)(hb:QW aj X W b fb)(hm:behindInMarks op b=false):QE aj X W (.Compare a [op] [b] pos) (aA o fa fb):=
 PE.weak (pe_cmpR hr ha hb hm) fun σ H Q h=>QH ho σ H Q h
end
instance:DecidableRel CMul:=fun i j=>by unfold CMul;infer_instance
instance:DecidableRel CDiv:=fun i j=>by unfold CDiv;infer_instance
instance:DecidableRel CPow:=fun i j=>by unfold CPow;infer_instance
def eG:Dat->Dat->Out Dat
 |.int i,.int j=>.ok (.int (i+j))
 |.str x,.str y=>Out.when (decide (x.length+y.length<=100000)) (.ok (.str (x++y)))
 |.list xs,.list ys=>Out.when (decide (xs.length+ys.length<=100000)) (.ok (.list (xs++ys)))
 |.tuple xs,.tuple ys=>Out.when (decide (xs.length+ys.length<=100000)) (.ok (.tuple (xs++ys)))
 |_,_=>.bad
def jX:Dat->Dat->Out Dat
 |.int i,.int j=>.ok (.int (i - j))
 |_,_=>.bad
def wO:Dat->Dat->Out Dat
 |.int i,.int j=>Out.when (decide (CMul i j)) (.ok (.int (i * j)))
 |_,_=>.bad
def sY:Dat->Dat->Out Dat
 |.int i,.int j=>Out.when (decide (CDiv i j)) (.ok (.int (i / j)))
 |_,_=>.bad
def gY:Dat->Dat->Out Dat
 |.int i,.int j=>Out.when (decide (0 < j)) (.ok (.int (i % j)))
 |_,_=>.bad
def Pq:Dat->Dat->Out Dat
 |.int i,.int j=>Out.when (decide (CPow i j)) (.ok (.int (i ^ j.toNat)))
 |_,_=>.bad
def rCatS(K:arJ):R2:=fun x y H Q=>∃l b xs zs,x=.ref l/\y=.ref b/\SqL K H l xs/\SqL K H b zs/\xs.length+zs.length<=sizeLine/\∀p,H p=none->Q (.ref p) (upd H p (.lst (xs++zs)))
theorem ahn{X:Cx}:OpR X (binaryOp .Add) (rCatS X.K):=by
 intro pins s σ H x y v u Q I rx ry h
 obtain⟨l,b,xs,zs,rfl,rfl,hH,hB,hz,q⟩:=h
 cases rx
 cases ry
 obtain⟨its,r,⟨⟨c1,d1,da1,s1⟩,n,e,hc,hd,hs⟩,_⟩:=I.list hH
 obtain⟨its2,r2,⟨⟨c2,d2,da2,s2⟩,n2,e2,hc2,hd2,hs2⟩,_⟩:=I.list hB
 simp only at hc hd hs hc2 hd2 hs2
 subst hc hd hs hc2 hd2 hs2
 have l1:=r.length
 have l2:=r2.length
 have ea:its.toArray++its2.toArray=(its++its2).toArray:=by simp
 refine concat_meets ⟨_,e,rfl⟩ ⟨_,e2,rfl⟩ noFill_list_add seq_list_add PySem.F.slot_list_add PySem.F.entry_list_add (PySem.F.args_list_add_2 _ _) (list_addW l b its.toArray its2.toArray n n2 none none s1 s2 (by rw[as3,as3];omega)) ⟨e,e2,?_⟩
 rw[ea]
 exact⟨.ref _,_,I.lnew (t':=s.toks) (r.append r2) (by rw[asw];omega),rfl,q _ I.fresh⟩
def agN(K:arJ):R2:=fun x y H Q=>rI0 (fun i j=>.int (i+j)) x y H Q∨(∃i j,x=.str i/\y=.str j/\i.length+j.length<=sizeLine/\Q (.str (i++j)) H)∨rCatS K x y H Q∨rCatA K x y H Q
theorem ahk{X:Cx}:OpR X (binaryOp .Add) (agN X.K):=by
 intro pins s σ H x y v u Q I rx ry h
 rcases h with h|h|h|h
 ·exact op_add pins s σ H x y v u Q I rx ry h
 ·exact op_add_str pins s σ H x y v u Q I rx ry h
 ·exact ahn pins s σ H x y v u Q I rx ry h
 ·exact op_catA pins s σ H x y v u Q I rx ry h
section
variable{K:arJ}{aj:aQ}{W:WX}
theorem akR:qb aj K W eG (agN K):=fun σ g H x y d e Q k rx ry h=>by
 unfold eG at h
 split at h
 ·exact .inl ⟨_,_,cH rx,cH ry,h _ H (Ex.refl H) (.int _)⟩
 ·obtain⟨hz,h⟩:=h.pY
  exact .inr (.inl ⟨_,_,jQ rx,jQ ry,sz_of (of_decide_eq_true hz),h _ H (Ex.refl H) (.str _)⟩)
 ·obtain⟨hz,h⟩:=h.pY
  obtain⟨l,us,e1,s1,t1⟩:=jk rx
  obtain⟨l2,us2,e2,s2,t2⟩:=jk ry
  have hl:=of_decide_eq_true hz
  rw[←t1.length,←t2.length]at hl
  refine .inr (.inr (.inl ⟨l,l2,us,us2,e1,e2,s1,s2,sz_of hl,fun p np=>h _ _ (Ex.new np) (.lst (.inl ⟨.inl upd_same,k.fresh np⟩) ((t1.append t2).ex (Ex.new np) k))⟩))
 ·obtain⟨hz,h⟩:=h.pY
  obtain⟨l,us,e1,s1,t1⟩:=kE rx
  obtain⟨l2,us2,e2,s2,t2⟩:=kE ry
  have hl:=of_decide_eq_true hz
  rw[←t1.length,←t2.length]at hl
  refine .inr (.inr (.inr ⟨l,l2,us,us2,e1,e2,s1,s2,sz_of hl,fun z=>?_,fun _ z=>?_,fun _ _ p np=>h _ _ (Ex.new np) (.tup (st_of upd_same) ((t1.append t2).ex (Ex.new np) k))⟩))
  ·subst z
   cases t1
   exact h _ H (Ex.refl H) (.tup s2 t2)
  ·subst z
   cases t2
   rw[asI]at h
   exact h _ H (Ex.refl H) (.tup s1 t1)
 ·exact False.elim h
theorem aki:qb aj K W jX (rI0 fun i j=>.int (i - j)):=fun σ g H x y d e Q k rx ry h=>by
 unfold jX at h
 split at h
 ·exact⟨_,_,cH rx,cH ry,h _ H (Ex.refl H) (.int _)⟩
 ·exact False.elim h
theorem ajD:qb aj K W wO (rI CMul fun i j=>.int (i * j)):=fun σ g H x y d e Q k rx ry h=>by
 unfold wO at h
 split at h
 ·obtain⟨hz,h⟩:=h.pY
  exact⟨_,_,cH rx,cH ry,of_decide_eq_true hz,h _ H (Ex.refl H) (.int _)⟩
 ·exact False.elim h
theorem ak8:qb aj K W sY (rI CDiv fun i j=>.int (i / j)):=fun σ g H x y d e Q k rx ry h=>by
 unfold sY at h
 split at h
 ·obtain⟨hz,h⟩:=h.pY
  exact⟨_,_,cH rx,cH ry,of_decide_eq_true hz,h _ H (Ex.refl H) (.int _)⟩
 ·exact False.elim h
theorem ajV:qb aj K W gY (rI (fun _ j=>0 < j) fun i j=>.int (i % j)):=fun σ g H x y d e Q k rx ry h=>by
 unfold gY at h
 split at h
 ·obtain⟨hz,h⟩:=h.pY
  exact⟨_,_,cH rx,cH ry,of_decide_eq_true hz,h _ H (Ex.refl H) (.int _)⟩
 ·exact False.elim h
theorem akh:qb aj K W Pq (rI CPow fun i j=>.int (i ^ j.toNat)):=fun σ g H x y d e Q k rx ry h=>by
 unfold Pq at h
 split at h
 ·obtain⟨hz,h⟩:=h.pY
  exact⟨_,_,cH rx,cH ry,of_decide_eq_true hz,h _ H (Ex.refl H) (.int _)⟩
 ·exact False.elim h
end
mutual
def okd:Nat->Dat->Bool
 |_,.none=>true
 |_,.bool _=>true
 |_,.int _=>true
 |_,.str x=>PyData.strOk x
 |n+1,.list ds=>mK n ds
 |n+1,.tuple ds=>mK n ds
 |0,.list _=>false
 |0,.tuple _=>false
 |_,.dict _=>false
def mK:Nat->List Dat->Bool
 |_,[]=>true
 |n,d::ds=>okd n d&&mK n ds
end
mutual
theorem TV:∀(n:Nat) (d:Dat),okd n d=true->d.canLay0=true/\d.depth<=n
 |n,.none,_=>⟨by simp[PyData.canLay0],by simp[PyData.depth]⟩
 |n,.bool _,_=>⟨by simp[PyData.canLay0],by simp[PyData.depth]⟩
 |n,.int _,_=>⟨by simp[PyData.canLay0],by simp[PyData.depth]⟩
 |n,.str x,h=>⟨by rw[okd]at h;simp[PyData.canLay0,h],by simp[PyData.depth]⟩
 |n+1,.list ds,h=>by
  rw[okd]at h
  obtain⟨h1,h2⟩:=OJ n ds h
  exact⟨by simp[PyData.canLay0,h1],by simp[PyData.depth];omega⟩
 |n+1,.tuple ds,h=>by
  rw[okd]at h
  obtain⟨h1,h2⟩:=OJ n ds h
  exact⟨by simp[PyData.canLay0,h1],by simp[PyData.depth];omega⟩
 |0,.list _,h=>by rw[okd]at h;cases h
 |0,.tuple _,h=>by rw[okd]at h;cases h
 |n,.dict _,h=>by rw[okd]at h;cases h
theorem OJ:∀(n:Nat) (ds:List Dat),mK n ds=true->PyData.canLayAll0 ds=true/\PyData.depthAll ds<=n
 |n,[],_=>⟨by simp[PyData.canLayAll0],by simp[PyData.depthAll]⟩
 |n,d::ds,h=>by
  rw[mK,arK]at h
  obtain⟨h1,h2⟩:=TV n d h.1
  obtain⟨h3,h4⟩:=OJ n ds h.2
  exact⟨by simp[PyData.canLayAll0,h1,h3],by simp[PyData.depthAll];omega⟩
end
mutual
theorem Rep.dp{K:arJ}{g:Gh}{H:Hp}:∀{n:Nat} {v:V} {d:Dat},okd n d=true->Rep K g H v d->Dp K H v d
 |_,_,_,_,.non=>.non
 |_,_,_,_,.bl b=>.bl b
 |_,_,_,_,.int i=>.int i
 |_,_,_,_,.str x=>.str x
 |n+1,_,_,f,.tup h t=>.tup h (aJ.dp (n:=n) (by rw[okd]at f;exact f) t)
 |n+1,_,_,f,.lst h t=>.lst h.sq (aJ.dp (n:=n) (by rw[okd]at f;exact f) t)
 |0,_,_,f,.tup h t=>by rw[okd]at f;cases f
 |0,_,_,f,.lst h t=>by rw[okd]at f;cases f
 |_,_,_,f,.obj h=>by rw[okd]at f;cases f
theorem aJ.dp{K:arJ}{g:Gh}{H:Hp}:∀{n:Nat} {vs:List V} {ds:List Dat},mK n ds=true->aJ K g H vs ds->DpAll K H vs ds
 |_,_,_,_,.nil=>.nil
 |n,_,_,f,.cons h t=>.cons (Rep.dp (n:=n) (by rw[mK,arK]at f;exact f.1) h) (aJ.dp (n:=n) (by rw[mK,arK]at f;exact f.2) t)
end
theorem dY.dp{K:arJ}{g:Gh}{H:Hp}{n:Nat}{v:V}{d:Dat}(f:okd n d=true)(h:dY K g H v d):Dp K H v d:=by
 cases d with
 |list ds=>
  obtain⟨a,us,rfl,h2,h3⟩:=h
  cases n with
  |zero=>rw[okd]at f;cases f
  |succ n=>
   rw[okd]at f
   exact .lst h2 (h3.dp f)
 |_=>exact Rep.dp f h
theorem BW{n:Nat}{d:Dat}(h:okd n d=true)(hn:n<=64):SeqAt.shaped d=true:=by
 obtain⟨h1,h2⟩:=TV n d h
 unfold SeqAt.shaped
 rw[h1,Bool.true_and]
 exact decide_eq_true (asi h2 hn)
def eqB:Dat->Dat->Out Bool
 |.int i,.int j=>.ok (i==j)
 |.str x,.str y=>.ok (x==y)
 |.bool x,.bool y=>.ok (x==y)
 |.none,.none=>.ok true
 |d,e=>Out.when (okd 12 d&&okd 12 e) (.ok (PyData.eqv d e))
def cA(d e:Dat):Out Dat:=(eqB d e).bind fun b=>.ok (.bool b)
def rZ(d e:Dat):Out Dat:=(eqB d e).bind fun b=>.ok (.bool (!b))
def akf(K:arJ):R2:=fun x y H Q=>rEq x y H Q∨rEqD K x y H Q
def ajM(K:arJ):R2:=fun x y H Q=>rNe x y H Q∨rNeD K x y H Q
theorem ai3{X:Cx}(hu:X.A.units+64 < cLine):OpR X (compareOp .Eq) (akf X.K):=fun pins s σ H x y v u Q I rx ry h=>h.elim (fun h=>op_eq pins s σ H x y v u Q I rx ry h) (fun h=>op_eqD hu pins s σ H x y v u Q I rx ry h)
theorem ajQ{X:Cx}(hu:X.A.units+64 < cLine):OpR X (compareOp .NotEq) (ajM X.K):=fun pins s σ H x y v u Q I rx ry h=>h.elim (fun h=>op_ne pins s σ H x y v u Q I rx ry h) (fun h=>op_neD hu pins s σ H x y v u Q I rx ry h)
section
variable{K:arJ}{aj:aQ}{W:WX}{g:Gh}{H:Hp}
theorem adH{x y:V}{d e:Dat}{P:Bool->Prop}{E:dB->Prop}(rx:dY K g H x d)(ry:dY K g H y e)(h:(eqB d e).sat P E):(scal x y=true/\P (decide (x=y)))∨(∃d e,Dp K H x d/\Dp K H y e/\SeqAt.shaped d=true/\SeqAt.shaped e=true/\P (PyData.eqv d e)):=by
 unfold eqB at h
 split at h
 ·cases cH rx;cases cH ry
  rw[dec_int]
  exact .inl ⟨rfl,h⟩
 ·cases jQ rx;cases jQ ry
  rw[dec_str]
  exact .inl ⟨rfl,h⟩
 ·cases Ef rx;cases Ef ry
  rw[dec_bl]
  exact .inl ⟨rfl,h⟩
 ·cases Gi rx;cases Gi ry
  exact .inl ⟨rfl,h⟩
 ·obtain⟨hz,h⟩:=h.pY
  rw[arK]at hz
  exact .inr ⟨_,_,rx.dp hz.1,ry.dp hz.2,BW hz.1 (by decide),BW hz.2 (by decide),h⟩
theorem alP:qb aj K W cA (akf K):=fun σ g H x y d e Q k rx ry h=>by
 rcases adH rx ry h.bnd with⟨h1,h2⟩|⟨d,e,h1,h2,h3,h4,h5⟩
 ·exact .inl ⟨h1,h2 _ H (Ex.refl H) (.bl _)⟩
 ·exact .inr ⟨d,e,h1,h2,h3,h4,h5 _ H (Ex.refl H) (.bl _)⟩
theorem al1:qb aj K W rZ (ajM K):=fun σ g H x y d e Q k rx ry h=>by
 rcases adH rx ry h.bnd with⟨h1,h2⟩|⟨d,e,h1,h2,h3,h4,h5⟩
 ·exact .inl ⟨h1,h2 _ H (Ex.refl H) (.bl _)⟩
 ·exact .inr ⟨d,e,h1,h2,h3,h4,h5 _ H (Ex.refl H) (.bl _)⟩
end
def JZ:Dat->Dat->Out Dat
 |.int i,.int j=>.ok (.bool (decide (i < j)))
 |.tuple ds,.tuple es=>Out.when (okd 12 (.tuple ds)&&okd 12 (.tuple es)&&PySem.W.alike (.tuple ds) (.tuple es)) (.ok (.bool (PySem.W.dataLt (.tuple ds) (.tuple es))))
 |_,_=>.bad
def tV:Dat->Dat->Out Dat
 |.int i,.int j=>.ok (.bool (decide (i<=j)))
 |_,_=>.bad
def Zy:Dat->Dat->Out Dat
 |.int i,.int j=>.ok (.bool (decide (j < i)))
 |_,_=>.bad
def geD:Dat->Dat->Out Dat
 |.int i,.int j=>.ok (.bool (decide (j<=i)))
 |_,_=>.bad
def aiX(K:arJ):R2:=fun x y H Q=>rI0 (fun i j=>.bl (decide (i < j))) x y H Q∨Ear.QC K x y H Q
theorem ajU{X:Cx}(hu:X.A.units+65 < cLine):OpR X (compareOp .Lt) (aiX X.K):=fun pins s σ H x y v u Q I rx ry h=>h.elim (fun h=>op_lt pins s σ H x y v u Q I rx ry h) (fun h=>Ear.afJ hu pins s σ H x y v u Q I rx ry h)
section
variable{K:arJ}{aj:aQ}{W:WX}{g:Gh}{H:Hp}
theorem alH:qb aj K W JZ (aiX K):=fun σ g H x y d e Q k rx ry h=>by
 unfold JZ at h
 split at h
 ·exact .inl ⟨_,_,cH rx,cH ry,h _ H (Ex.refl H) (.bl _)⟩
 ·obtain⟨hz,h⟩:=h.pY
  simp only[arK]at hz
  refine .inr ?_
  unfold Ear.QC
  exact⟨_,_,rx.dp hz.1.1,ry.dp hz.1.2,hz.2,(fun z=>nomatch z),asi (TV _ _ hz.1.1).2 (by decide),h _ H (Ex.refl H) (.bl _)⟩
 ·exact False.elim h
theorem alK:qb aj K W tV (rI0 fun i j=>.bl (decide (i<=j))):=fun σ g H x y d e Q k rx ry h=>by
 unfold tV at h
 split at h
 ·exact⟨_,_,cH rx,cH ry,h _ H (Ex.refl H) (.bl _)⟩
 ·exact False.elim h
theorem amN:qb aj K W Zy (rI0 fun i j=>.bl (decide (j < i))):=fun σ g H x y d e Q k rx ry h=>by
 unfold Zy at h
 split at h
 ·exact⟨_,_,cH rx,cH ry,h _ H (Ex.refl H) (.bl _)⟩
 ·exact False.elim h
theorem alU:qb aj K W geD (rI0 fun i j=>.bl (decide (j<=i))):=fun σ g H x y d e Q k rx ry h=>by
 unfold geD at h
 split at h
 ·exact⟨_,_,cH rx,cH ry,h _ H (Ex.refl H) (.bl _)⟩
 ·exact False.elim h
end
def jW(c:Dat):Dat->Bool
 |.none=>match c with
  |.none=>true
  |_=>false
 |.bool b=>match c with
  |.bool b'=>b==b'
  |_=>false
 |_=>false
def scD:Dat->Option V
 |.none=>some .non
 |.bool b=>some (.bl b)
 |_=>none
theorem abx{K:arJ}{g:Gh}{H:Hp}{x:V}{d c:Dat}{v:V}(h:dY K g H x d)(hc:scD c=some v):decide (x=v)=jW c d:=by
 cases c with
 |none=>
  cases hc
  cases d with
  |none=>cases Gi h;rfl
  |bool b=>cases Ef h;rfl
  |int b=>cases cH h;rfl
  |str b=>cases jQ h;rfl
  |list b=>obtain⟨a,us,rfl,_⟩:=jk h;rfl
  |tuple b=>obtain⟨a,us,rfl,_⟩:=kE h;rfl
  |dict b=>cases h;rfl
 |bool c=>
  cases hc
  cases d with
  |none=>cases Gi h;rfl
  |bool b=>cases Ef h;exact dec_bl
  |int b=>cases cH h;rfl
  |str b=>cases jQ h;rfl
  |list b=>obtain⟨a,us,rfl,_⟩:=jk h;rfl
  |tuple b=>obtain⟨a,us,rfl,_⟩:=kE h;rfl
  |dict b=>cases h;rfl
 |_=>cases hc
def Zj(neg:Bool)(v:V):R2:=fun x y H Q=>y=v/\Q (.bl (neg ^^ decide (x=v))) H
theorem adU{x v:V}{u w:Value}(hv:v=.non∨∃b,v=.bl b)(rx:RelV x u)(rv:RelV v w):(u==w)=decide (x=v):=by
 rcases hv with rfl|⟨b,rfl⟩
 ·cases rv
  exact rx.none_iff
 ·cases rv
  rw[asW,beq_iff_eq,decide_eq_true_eq]
  constructor
  ·rintro rfl
   cases x with
   |bl c=>cases rx;rfl
   |non=>cases rx
   |ref _=>cases rx
   |ty _=>cases rx
   |_=>obtain⟨t,z⟩:=rx;cases z
  ·rintro rfl
   exact rx
theorem Wf{x v:V}{u w:Value}(hv:v=.non∨∃b,v=.bl b)(rx:RelV x u)(rv:RelV v w):plainIs u w=true:=by
 rcases hv with rfl | ⟨b,rfl⟩ <;> (cases rv;cases x <;> first | (cases rx;rfl) | (obtain⟨t,rfl⟩:=rx;rfl))
theorem ak7{X:Cx}{v:V}(hv:v=.non∨∃b,v=.bl b):OpR X (compareOp .Is) (Zj false v):=by
 intro pins s σ H x y u w Q I rx ry h
 obtain⟨rfl,q⟩:=h
 refine wpAny_is_plain (Wf hv rx ry) ?_
 rw[adU hv rx ry]
 rw[Bool.false_xor]at q
 exact⟨.bl _,H,I,rfl,q⟩
theorem adP{X:Cx}{v:V}(hv:v=.non∨∃b,v=.bl b):OpR X (compareOp .IsNot) (Zj true v):=by
 intro pins s σ H x y u w Q I rx ry h
 obtain⟨rfl,q⟩:=h
 refine wpAny_isNot_plain (Wf hv rx ry) ?_
 rw[adU hv rx ry]
 rw[Bool.true_xor]at q
 exact⟨.bl _,H,I,rfl,q⟩
def xM(neg:Bool)(c:Dat)(a:QF):QF:=fun M ρ=>(a M ρ).bind fun d=>.ok (.bool (neg ^^ jW c d))
section
variable{X:Cx}{aj:aQ}{W:WX}{a b c:Expr}{fa fb fc:QF}{pos:Pos}
theorem amP{op:CmpOp}{neg:Bool}{d:Dat}{v:V}(hc:scD d=some v)(hr:OpR X (compareOp op) (Zj neg v))(ha:QW aj X W a fa)(hb:PE X b (tC v))(hm:behindInMarks op b=false):QE aj X W (.Compare a [op] [b] pos) (xM neg d fa):=
 PE.weak (pe_cmpR hr ha hb hm) fun σ H Q ⟨g,ρ,M,I,h⟩=>by
  refine tW.go I h.bnd fun e x H1 h1 e1 r1=>?_
  refine⟨rfl,?_⟩
  rw[abx r1 hc]
  exact h1 _ H1 e1 (.bl _)
end
def JM:Dat->Bool
 |.none=>true
 |.bool _=>true
 |.int _=>true
 |.str _=>true
 |_=>false
def inB:Dat->Dat->Out Bool
 |d,.list ds=>Out.when (okd 12 d&&mK 12 ds) (.ok (ds.any fun z=>PyData.eqv z d))
 |d,.tuple ds=>Out.when (JM d&&ds.all JM) (.ok (ds.any fun z=>PyData.eqv z d))
 |.str x,.str z=>match x.cps.toList with
  |[c]=>.ok (decide (c∈z.cps.toList))
  |_=>.bad
 |_,_=>.bad
def inD(neg:Bool)(d e:Dat):Out Dat:=(inB d e).bind fun b=>.ok (.bool (neg ^^ b))
section
variable{K:arJ}{g:Gh}{H:Hp}
theorem Y4{v:V}{d:Dat}(f:JM d=true)(h:Rep K g H v d):flatV v=true:=by
 cases h with
 |tup _ _=>cases f
 |lst _ _=>cases f
 |obj _=>cases f
 |_=>rfl
theorem Wr:∀{vs:List V} {ds:List Dat},ds.all JM=true->aJ K g H vs ds->vs.all flatV=true
 |_,_,_,.nil=>rfl
 |_,_,f,.cons h t=>by
  rw[asv,arK]at f
  rw[asv,Y4 f.1 h,Wr f.2 t]
  rfl
theorem ahb{v w:V}{d e:Dat}(f1:JM d=true)(f2:JM e=true)(h1:Rep K g H v d)(h2:Rep K g H w e):eqV v w=PyData.eqv d e:=by
 cases h1 with
 |tup _ _=>cases f1
 |lst _ _=>cases f1
 |obj _=>cases f1
 |non=>cases h2 with
  |tup _ _=>cases f2
  |lst _ _=>cases f2
  |obj _=>cases f2
  |_=>simp[eqV,PyData.eqv]
 |bl b=>cases h2 with
  |tup _ _=>cases f2
  |lst _ _=>cases f2
  |obj _=>cases f2
  |_=>simp[eqV,PyData.eqv]
 |int b=>cases h2 with
  |tup _ _=>cases f2
  |lst _ _=>cases f2
  |obj _=>cases f2
  |_=>simp[eqV,PyData.eqv]
 |str b=>cases h2 with
  |tup _ _=>cases f2
  |lst _ _=>cases f2
  |obj _=>cases f2
  |_=>simp[eqV,PyData.eqv]
theorem abg{w:V}{e:Dat}(f2:JM e=true)(h2:Rep K g H w e):∀{vs:List V} {ds:List Dat},ds.all JM=true->aJ K g H vs ds->inV w vs=ds.any fun z=>PyData.eqv z e
 |_,_,_,.nil=>rfl
 |v::vs,d::ds,f,.cons h t=>by
  rw[asv,arK]at f
  have ih:=abg f2 h2 f.2 t
  unfold inV at ih ⊢
  rw[asS,asS,ih,ahb f.1 f2 h h2]
theorem aiD{v:V}{d:Dat}(f:JM d=true)(h:dY K g H v d):Rep K g H v d:=by
 cases d with
 |list _=>cases f
 |_=>exact h
end
def Zf(K:arJ)(neg:Bool):R2:=fun x y H Q=>(∃d ds,Dp K H x d/\Dp K H y (.list ds)/\SeqAt.shaped d=true/\SeqAt.shaped (.list ds)=true/\Q (.bl (neg ^^ (ds.any fun z=>PyData.eqv z d))) H)∨
 (∃p xs,y=.ref p/\(SqL K H p xs∨SqT K H p xs)/\flatV x=true/\xs.all flatV=true/\Q (.bl (neg ^^ inV x xs)) H)∨∃(c:Nat) (z:Str),x=.str ⟨#[c]⟩/\y=.str z/\Q (.bl (neg ^^ decide (c∈z.cps.toList))) H
theorem ajt{X:Cx}(hu:X.A.units+65 < cLine):OpR X (compareOp .In) (Zf X.K false):=fun pins s σ H x y v u Q I rx ry h=>by
 unfold Zf at h
 simp only[Bool.false_xor]at h
 rcases h with⟨d,ds,h⟩|⟨p,xs,h⟩|h
 ·exact op_inD hu pins s σ H x y v u Q I rx ry ⟨d,ds,h⟩
 ·exact op_in_seq pins s σ H x y v u Q I rx ry ⟨p,xs,h⟩
 ·exact op_in_sign pins s σ H x y v u Q I rx ry h
theorem aez{X:Cx}(hu:X.A.units+65 < cLine):OpR X (compareOp .NotIn) (Zf X.K true):=fun pins s σ H x y v u Q I rx ry h=>by
 unfold Zf at h
 simp only[Bool.true_xor]at h
 rcases h with⟨d,ds,h⟩|⟨p,xs,h⟩|h
 ·exact op_notInD hu pins s σ H x y v u Q I rx ry ⟨d,ds,h⟩
 ·exact op_notIn_seq pins s σ H x y v u Q I rx ry ⟨p,xs,h⟩
 ·exact op_notIn_sign pins s σ H x y v u Q I rx ry h
theorem agG{K:arJ}{aj:aQ}{W:WX}{neg:Bool}:qb aj K W (inD neg) (Zf K neg):=fun σ g H x y d e Q k rx ry h=>by
 replace h:=Out.sat.bnd h
 unfold inB at h
 split at h
 ·next ds=>
  obtain⟨hz,h⟩:=h.pY
  rw[arK]at hz
  have e2:okd 13 (.list ds)=true:=by rw[okd];exact hz.2
  exact .inl ⟨_,ds,rx.dp hz.1,ry.dp e2,BW hz.1 (by decide),BW e2 (by decide),h _ H (Ex.refl H) (.bl _)⟩
 ·next ds=>
  obtain⟨hz,h⟩:=h.pY
  rw[arK]at hz
  obtain⟨p,us,rfl,h1,h2⟩:=kE ry
  have rx':=aiD hz.1 rx
  refine .inr (.inl ⟨p,us,rfl,.inr h1,Y4 hz.1 rx',Wr hz.2 h2,?_⟩)
  rw[abg hz.1 rx' hz.2 h2]
  exact h _ H (Ex.refl H) (.bl _)
 ·next xs z=>
  split at h
  ·next c e=>
   refine .inr (.inr ⟨c,z,?_,jQ ry,h _ H (Ex.refl H) (.bl _)⟩)
   rw[jQ rx]
   congr 1
   have:xs.cps=#[c]:=by
    apply Array.toList_inj.mp
    rw[e]
   cases xs
   simp only at this
   rw[this]
  ·exact False.elim h
 ·exact False.elim h
def Qe:Dat->Out Dat
 |.int i=>.ok (.int (-i))
 |_=>.bad
def Jq:Dat->Out Bool
 |.none=>.ok false
 |.bool b=>.ok b
 |.int i=>.ok (i != 0)
 |.str x=>Out.when (decide (x.length<=100000)) (.ok (!x.cps.toList.isEmpty))
 |.list ds=>.ok (!ds.isEmpty)
 |.tuple ds=>.ok (!ds.isEmpty)
 |_=>.bad
def iZ(a:QF):QT:=fun M ρ=>(a M ρ).bind Jq
def BK:Dat->Out Bool
 |.bool b=>.ok b
 |_=>.bad
def bh(a:QF):QT:=fun M ρ=>(a M ρ).bind BK
def j7(a:QT):QT:=fun M ρ=>(a M ρ).bind fun b=>.ok (!b)
def j5(a b:QT):QT:=fun M ρ=>(a M ρ).bind fun x=>if x=true then b M ρ else .ok false
def Fw(a b:QT):QT:=fun M ρ=>(a M ρ).bind fun x=>if x=true then .ok true else b M ρ
def Tg(a:QT):QF:=fun M ρ=>(a M ρ).bind fun b=>.ok (.bool b)
def RW(t:QT)(a b:QF):QF:=fun M ρ=>(t M ρ).bind fun x=>if x=true then a M ρ else b M ρ
theorem R8{K:arJ}{g:Gh}{H:Hp}{us:List V}{ds:List Dat}(h:aJ K g H us ds):(!ds.isEmpty)=!us.isEmpty:=by cases h <;> rfl
section
variable{X:Cx}{aj:aQ}{W:WX}{a b c:Expr}{fa fb fc:QF}{ta tb:QT}{pos:Pos}
theorem aja(ha:QW aj X W a fa):QE aj X W (.UnaryOp .USub a pos) (eE Qe fa):=
 PE.weak (pe_un un_neg ha) fun σ H Q ⟨g,ρ,M,I,h⟩=>by
  refine tW.go I h.bnd fun d v H1 h1 e1 r1=>?_
  unfold Qe at h1
  split at h1
  ·exact⟨_,cH r1,h1 _ H1 e1 (.int _)⟩
  ·exact False.elim h1
theorem akJ{g:Gh}{H:Hp}{v:V}{d:Dat}{P:Bool->Prop}{E:dB->Prop}(r:dY X.K g H v d)(h:(Jq d).sat P E):∃k,TruV X.K v H k/\P k:=by
 unfold Jq at h
 split at h
 ·cases Gi r;exact⟨_,rfl,h⟩
 ·cases Ef r;exact⟨_,rfl,h⟩
 ·cases cH r;exact⟨_,rfl,h⟩
 ·next x=>
  obtain⟨hz,h⟩:=h.pY
  cases jQ r
  refine⟨_,⟨sz_of (of_decide_eq_true hz),?_⟩,h⟩
  have e:x.length=x.cps.toList.length:=by
   rw[asu]
   rfl
  rw[e]
  cases x.cps.toList with
  |nil=>rfl
  |cons y ys=>
   refine Eq.symm (bne_iff_ne.mpr ?_)
   simp
   omega
 ·obtain⟨p,us,rfl,h1,h2⟩:=jk r
  rw[R8 h2]at h
  exact⟨_,.inl ⟨us,h1,rfl⟩,h⟩
 ·obtain⟨p,us,rfl,h1,h2⟩:=kE r
  rw[R8 h2]at h
  exact⟨_,.inr (.inl ⟨us,h1,rfl⟩),h⟩
 ·exact False.elim h
theorem akO(ha:QW aj X W a fa)(he:∀whole,isTrue a X.env whole=(do let v ←whole;standAt a.pos;holding [v] (truthy v))):rP aj X W a (iZ fa):=
 PT.weak (pt_truth ha he) fun σ H Q ⟨g,ρ,M,I,h⟩=>by
  refine tW.go I h.bnd fun d v H1 h1 e1 r1=>?_
  obtain⟨k,h2,h3⟩:=akJ r1 h1
  exact⟨k,h2,h3 H1 e1⟩
theorem Eo{g:Gh}{H:Hp}{v:V}{d:Dat}{P:Bool->Prop}{E:dB->Prop}(r:dY X.K g H v d)(h:(BK d).sat P E):∃k,v=.bl k/\P k:=by
 unfold BK at h
 split at h
 ·cases Ef r;exact⟨_,rfl,h⟩
 ·exact False.elim h
theorem akd{op:CmpOp}{r:R2}{o:Dat->Dat->Out Dat}(hr:OpR X (compareOp op) r)(ho:qb aj X.K W o r)(ha:QW aj X W a fa)(hb:QW aj X W b fb)(hm:behindInMarks op b=false):rP aj X W (.Compare a [op] [b] pos) (bh (aA o fa fb)):=
 PT.weak (pt_cmpR hr ha hb hm) fun σ H Q ⟨g,ρ,M,I,h⟩=>by
  refine QH ho σ H _ ⟨g,ρ,M,I,h.bnd.mono (fun d h1 v H' e' r'=>?_) fun _ z=>z⟩
  obtain⟨k,h2,h3⟩:=Eo r'.weak h1
  exact⟨k,h2,h3 H' e'⟩
theorem amx{op:CmpOp}{neg:Bool}{d:Dat}{v:V}(hc:scD d=some v)(hr:OpR X (compareOp op) (Zj neg v))(ha:QW aj X W a fa)(hb:PE X b (tC v))(hm:behindInMarks op b=false):rP aj X W (.Compare a [op] [b] pos) (bh (xM neg d fa)):=
 PT.weak (pt_cmpR hr ha hb hm) fun σ H Q ⟨g,ρ,M,I,h⟩=>by
  refine tW.go I h.bnd.bnd fun e x H1 h1 e1 r1=>?_
  refine⟨rfl,_,rfl,?_⟩
  rw[abx r1 hc]
  exact h1 H1 e1
theorem ajL(ha:rP aj X W a ta):rP aj X W (.UnaryOp .Not a pos) (j7 ta):=
 PT.weak (pt_not ha) fun σ H Q ⟨g,ρ,M,I,h⟩=>kh.go I h.bnd fun b H1 h1 e1=>h1 H1 e1
def QWt(aj:aQ)(X:Cx)(W:WX)(e:Expr)(f:QT):Prop:=PW X e (kh X.K aj W f)
theorem PW.weak{X:Cx}{e:Expr}{t t':TT}(h:PW X e t)(k:∀σ H Q,t' σ H Q->t σ H Q):PW X e t':=⟨fun wh pins s σ H Q I q=>h.run wh pins s σ H Q I (k σ H Q q)⟩
theorem aju{rest:List Expr}(ha:rP aj X W a ta)(hb:QWt aj X W (.BoolOp .And (b::rest) pos) tb):QWt aj X W (.BoolOp .And (a::b::rest) pos) (j5 ta tb):=
 PW.weak (pw_and ha hb) fun σ H Q ⟨g,ρ,M,I,h⟩=>by
  refine kh.go I h.bnd fun x H1 h1 e1=>?_
  cases x with
  |true=>exact⟨g,ρ,M,I.ex e1,h1.mono (fun b k H' e'=>k H' (e1.trans e')) fun _ z=>z.ex e1⟩
  |false=>exact h1 H1 e1
theorem alM{rest:List Expr}(ha:rP aj X W a ta)(hb:QWt aj X W (.BoolOp .Or (b::rest) pos) tb):QWt aj X W (.BoolOp .Or (a::b::rest) pos) (Fw ta tb):=
 PW.weak (pw_or ha hb) fun σ H Q ⟨g,ρ,M,I,h⟩=>by
  refine kh.go I h.bnd fun x H1 h1 e1=>?_
  cases x with
  |true=>exact h1 H1 e1
  |false=>exact⟨g,ρ,M,I.ex e1,h1.mono (fun b k H' e'=>k H' (e1.trans e')) fun _ z=>z.ex e1⟩
def R3(a:QF):QF:=Tg (j7 (bh a))
def wX(a b:QF):QF:=fun M ρ=>(a M ρ).bind fun d=>(BK d).bind fun x=>if x=true then b M ρ else .ok (.bool false)
def af7(a b:QF):QF:=fun M ρ=>(a M ρ).bind fun d=>(BK d).bind fun x=>if x=true then .ok (.bool true) else b M ρ
theorem ahw(ha:QW aj X W a fa):QE aj X W (.UnaryOp .Not a pos) (R3 fa):=
 PE.weak (pe_not ha) fun σ H Q ⟨g,ρ,M,I,h⟩=>by
  refine tW.go I h.bnd.bnd.bnd fun d v H1 h1 e1 r1=>?_
  obtain⟨k,h2,h3⟩:=Eo r1 h1
  exact⟨k,h2,h3 _ H1 e1 (.bl _)⟩
theorem ag8{rest:List Expr}(ha:QE aj X W a fa)(hb:QE aj X W (.BoolOp .And (b::rest) pos) fb):QE aj X W (.BoolOp .And (a::b::rest) pos) (wX fa fb):=
 PE.weak (pe_and ha hb) fun σ H Q ⟨g,ρ,M,I,h⟩=>by
  refine tQ.go I h.bnd fun d v H1 h1 e1 r1=>?_
  obtain⟨k,h2,h3⟩:=Eo r1.weak h1.bnd
  refine⟨k,h2,?_⟩
  cases k with
  |true=>exact⟨g,ρ,M,I.ex e1,h3.mono (fun b k v' H' e' r'=>k v' H' (e1.trans e') r') fun _ z=>z.ex e1⟩
  |false=>exact h3 _ H1 e1 (.bl false)
theorem aiN{rest:List Expr}(ha:QE aj X W a fa)(hb:QE aj X W (.BoolOp .Or (b::rest) pos) fb):QE aj X W (.BoolOp .Or (a::b::rest) pos) (af7 fa fb):=
 PE.weak (pe_or ha hb) fun σ H Q ⟨g,ρ,M,I,h⟩=>by
  refine tQ.go I h.bnd fun d v H1 h1 e1 r1=>?_
  obtain⟨k,h2,h3⟩:=Eo r1.weak h1.bnd
  refine⟨k,h2,?_⟩
  cases k with
  |false=>exact⟨g,ρ,M,I.ex e1,h3.mono (fun b k v' H' e' r'=>k v' H' (e1.trans e') r') fun _ z=>z.ex e1⟩
  |true=>exact h3 _ H1 e1 (.bl true)
theorem afY(hc:rP aj X W c ta)(ha:QE aj X W a fa)(hb:QE aj X W b fb):QE aj X W (.IfExp c a b pos) (RW ta fa fb):=
 PE.weak (pe_ifExp hc ha hb) fun σ H Q ⟨g,ρ,M,I,h⟩=>by
  refine kh.go I h.bnd fun x H1 h1 e1=>?_
  cases x with
  |true=>exact⟨g,ρ,M,I.ex e1,h1.mono (fun b k v' H' e' r'=>k v' H' (e1.trans e') r') fun _ z=>z.ex e1⟩
  |false=>exact⟨g,ρ,M,I.ex e1,h1.mono (fun b k v' H' e' r'=>k v' H' (e1.trans e') r') fun _ z=>z.ex e1⟩
def mO(o o':Dat->Dat->Out Dat)(a b c:QF):QT:=fun M ρ=>(a M ρ).bind fun x=>(b M ρ).bind fun y=>(o x y).bind fun z=>(BK z).bind fun k=>if k=true then(c M ρ).bind fun w=>(o' y w).bind BK else .ok false
theorem YZ{r r':R2}{o o':Dat->Dat->Out Dat}(ho:qb aj X.K W o r)(ho':qb aj X.K W o' r'){σ:L2.St}{H:Hp}{Q:VK}{P:Bool->Hp->Prop}(hP:∀k H',P k H'->Q (.bl k) H')(h:kh X.K aj W (mO o o' fa fb fc) σ H P):tChain r r' (tW X.K aj W fa) (tW X.K aj W fb) (tW X.K aj W fc) σ H Q:=by
 obtain⟨g,ρ,M,I,h⟩:=h
 refine tW.go I h.bnd fun d v H1 h1 e1 r1=>?_
 have I1:=I.ex e1
 refine tW.go I1 (h1.bnd.mono (fun _ z=>z) fun _ z=>z.ex e1) fun d2 v2 H2 h2 e2 r2=>?_
 have I2:=I1.ex e2
 have r1':=r1.ex e2 I1.kd
 refine ho σ g H2 v v2 d d2 _ I2.kd r1' r2 (h2.bnd.mono (fun z hz u H3 e3 r3=>?_) fun _ z=>(z.ex e1).ex e2)
 obtain⟨k,h4,h5⟩:=Eo r3.weak hz.bnd
 refine⟨k,h4,?_⟩
 have I3:=I2.ex e3
 have e13:=(e1.trans e2).trans e3
 cases k with
 |false=>exact hP _ _ (h5 H3 e13)
 |true=>
  refine tW.go I3 (h5.bnd.mono (fun _ z=>z) fun _ z=>z.ex e13) fun d4 v4 H4 h6 e4 r4=>?_
  refine ho' σ g H4 v2 v4 d2 d4 _ (I3.ex e4).kd ((r2.ex e3 I2.kd).ex e4 I3.kd) r4 (h6.bnd.mono (fun z hz u H5 e5 r5=>?_) fun _ z=>(z.ex e13).ex e4)
  obtain⟨k,rfl,h8⟩:=Eo r5.weak hz
  exact hP _ _ (h8 H5 ((e13.trans e4).trans e5))
theorem afV{op op':CmpOp}{r r':R2}{o o':Dat->Dat->Out Dat}(hr:OpR X (compareOp op) r)(hr':OpR X (compareOp op') r')(ho:qb aj X.K W o r)(ho':qb aj X.K W o' r')(ha:QW aj X W a fa)(hb:QW aj X W b fb)(hc:QW aj X W c fc)(hm:lastMarks [op,op'] [b,c]=false) :
  rP aj X W (.Compare a [op,op'] [b,c] pos) (mO o o' fa fb fc):=
 PT.weak (pt_chain hr hr' ha hb hc hm) fun σ H Q h=>YZ ho ho' (fun k H' z=>⟨k,rfl,z⟩) h
theorem af3{op op':CmpOp}{r r':R2}{o o':Dat->Dat->Out Dat}(hr:OpR X (compareOp op) r)(hr':OpR X (compareOp op') r')(ho:qb aj X.K W o r)(ho':qb aj X.K W o' r')(ha:QW aj X W a fa)(hb:QW aj X W b fb)(hc:QW aj X W c fc)(hm:lastMarks [op,op'] [b,c]=false) :
  QE aj X W (.Compare a [op,op'] [b,c] pos) (Tg (mO o o' fa fb fc)):=
 PE.weak (pe_chain hr hr' ha hb hc hm) fun σ H Q ⟨g,ρ,M,I,h⟩=>YZ (P:=fun b H1=>Q (.bl b) H1) ho ho' (fun k H' z=>z) ⟨g,ρ,M,I,h.bnd.mono (fun b h1 H' e'=>h1 _ H' e' (.bl b)) fun _ z=>z⟩
end
def aN:Dat->Dat->Out Dat
 |.list ds,.int i=>match atI ds i with
  |some d=>.ok d
  |none=>.bad
 |.tuple ds,.int i=>match atI ds i with
  |some d=>.ok d
  |none=>.bad
 |.str z,.int i=>Out.when (decide (z.length<=100000)) (match atI z.cps.toList i with
  |some c=>.ok (.str ⟨#[c]⟩)
  |none=>.bad)
 |_,_=>.bad
theorem abf{K:arJ}{g:Gh}{H:Hp}{us:List V}{ds:List Dat}{i:Int}{d:Dat}(h:aJ K g H us ds)(e:atI ds i=some d):∃v,atI us i=some v/\Rep K g H v d:=by
 unfold atI at e ⊢
 rw[h.length]
 cases hj:ixN ds.length i with
 |none=>rw[hj]at e;cases e
 |some j=>
  rw[hj]at e
  obtain⟨v,h1,h2⟩:=h.get (i:=j) e
  exact⟨v,h1,h2⟩
def aiW(K:arJ):R2:=fun x y H Q=>rIxL K x y H Q∨rIxT K x y H Q∨rIxS x y H Q
theorem ant{X:Cx}:IxR X (aiW X.K):=fun value slice pins s σ H x y v u Q I rx ry h hs=>by
 rcases h with h|h|h
 ·exact ix_list value slice pins s σ H x y v u Q I rx ry h hs
 ·exact ix_tup value slice pins s σ H x y v u Q I rx ry h hs
 ·exact ix_str value slice pins s σ H x y v u Q I rx ry h hs
theorem amo{K:arJ}{aj:aQ}{W:WX}:qb aj K W aN (aiW K):=fun σ g H x y d e Q k rx ry h=>by
 unfold aN at h
 split at h
 ·split at h
  ·next z hz=>
   obtain⟨p,us,rfl,h1,h2⟩:=jk rx
   obtain⟨v,h3,h4⟩:=abf h2 hz
   exact .inl ⟨p,us,_,v,rfl,cH ry,h1,h3,h v H (Ex.refl H) h4⟩
  ·exact False.elim h
 ·split at h
  ·next z hz=>
   obtain⟨p,us,rfl,h1,h2⟩:=kE rx
   obtain⟨v,h3,h4⟩:=abf h2 hz
   exact .inr (.inl ⟨p,us,_,v,rfl,cH ry,h1,h3,h v H (Ex.refl H) h4⟩)
  ·exact False.elim h
 ·obtain⟨hl,h⟩:=h.pY
  split at h
  ·next c hz=>exact .inr (.inr ⟨_,_,c,jQ rx,cH ry,sz_of (of_decide_eq_true hl),hz,h _ H (Ex.refl H) (.str _)⟩)
  ·exact False.elim h
 ·exact False.elim h
def cutD{α:Type}(xs:List α)(lo hi:Option Int):List α:=(xs.drop (HT.sIx xs.length 0 lo)).take (HT.sIx xs.length xs.length hi - HT.sIx xs.length 0 lo)
abbrev QO:=Mo->Env->Out (Option Int)
def xV:QO:=fun _ _=>.ok none
def Bf:Dat->Out Int
 |.int i=>.ok i
 |_=>.bad
def pW(a:QF):QO:=fun M ρ=>(a M ρ).bind fun d=>(Bf d).bind fun i=>.ok (some i)
def slD(d:Dat)(lo hi:Option Int):Out Dat:=
 match d with
 |.list ds=>.ok (.list (cutD ds lo hi))
 |.tuple ds=>.ok (.tuple (cutD ds lo hi))
 |.str z=>Out.when (decide (z.length<=100000)) (.ok (.str (cutS z lo hi)))
 |_=>.bad
def Mq(a:QF)(lo hi:QO):QF:=fun M ρ=>(a M ρ).bind fun d=>(lo M ρ).bind fun l=>(hi M ρ).bind fun h=>slD d l h
def tQO(K:arJ)(aj:aQ)(W:WX)(f:QO):TO:=fun σ H Q=>∃g ρ M,SInv K aj σ H g ρ M/\(f M ρ).sat (fun o=>∀H',Ex H H'->Q o H') (qO K aj W g H σ)
def QOe(aj:aQ)(X:Cx)(W:WX)(e:Option Expr)(f:QO):Prop:=PO X e (tQO X.K aj W f)
def aky(K:arJ):V->Option Int->Option Int->Hp->VK->Prop:=fun x lo hi H Q=>rSlL K x lo hi H Q∨rSlA K x lo hi H Q∨rSlS x lo hi H Q
theorem aob{X:Cx}:SlR X (aky X.K):=fun pins s σ H x v vl vu lo hi sl Q I rx hs pl pu h=>by
 rcases h with h|h|h
 ·exact sl_list pins s σ H x v vl vu lo hi sl Q I rx hs pl pu h
 ·exact sl_tupA pins s σ H x v vl vu lo hi sl Q I rx hs pl pu h
 ·exact sl_str pins s σ H x v vl vu lo hi sl Q I rx hs pl pu h
theorem amy{K:arJ}{g:Gh}{H:Hp}{x:V}{d:Dat}{lo hi:Option Int}{Q:VK}{E:dB->Prop}(k:Kd g H)(rx:dY K g H x d)(h:(slD d lo hi).sat (fun z=>∀v H',Ex H H'->Rep K g H' v z->Q v H') E):aky K x lo hi H Q:=by
 unfold slD at h
 have hc:∀{us:List V} {ds:List Dat},aJ K g H us ds->aJ K g H (cutV us lo hi) (cutD ds lo hi):=fun {us ds} t=>by
  unfold cutV cutD
  rw[t.length]
  exact(t.drop _).take _
 split at h
 ·obtain⟨p,us,rfl,h1,h2⟩:=jk rx
  exact .inl ⟨p,us,rfl,h1,fun q nq=>h _ _ (Ex.new nq) (.lst (.inl ⟨.inl upd_same,k.fresh nq⟩) ((hc h2).ex (Ex.new nq) k))⟩
 ·next ds=>
  obtain⟨p,us,rfl,h1,h2⟩:=kE rx
  refine .inr (.inl ⟨p,us,rfl,h1,fun z=>?_,fun _ q nq=>h _ _ (Ex.new nq) (.tup (st_of upd_same) ((hc h2).ex (Ex.new nq) k))⟩)
  have e:cutD ds lo hi=ds:=by
   unfold cutD
   rw[←h2.length,z.1,z.2,h2.length]
   simp
  rw[e]at h
  exact h _ H (Ex.refl H) (.tup h1 h2)
 ·obtain⟨hz,h⟩:=h.pY
  exact .inr (.inr ⟨_,jQ rx,sz_of (of_decide_eq_true hz),h _ H (Ex.refl H) (.str _)⟩)
 ·exact False.elim h
section
variable{X:Cx}{aj:aQ}{W:WX}{a b:Expr}{fa fb:QF}{pos p2:Pos}
theorem alV(ha:QW aj X W a fa)(hb:QW aj X W b fb)(hs:PlainIx b):QE aj X W (.Subscript a b pos) (aA aN fa fb):=
 PE.weak (pe_ix ant ha hb hs) fun σ H Q h=>QH amo σ H Q h
theorem PO.weak{X:Cx}{e:Option Expr}{t t':TO}(h:PO X e t)(k:∀σ H Q,t' σ H Q->t σ H Q):PO X e t':=⟨fun pins s σ H Q I q=>h.run pins s σ H Q I (k σ H Q q)⟩
theorem aix:QOe aj X W none xV:=PO.weak po_none fun σ H Q ⟨g,ρ,M,I,h⟩=>h H (Ex.refl H)
theorem ahz(ha:QW aj X W a fa):QOe aj X W (some a) (pW fa):=PO.weak (po_some ha) fun σ H Q ⟨g,ρ,M,I,h⟩=>by
 refine tW.go I h.bnd fun d v H1 h1 e1 r1=>?_
 have h1:=h1.bnd
 unfold Bf at h1
 split at h1
 ·exact⟨_,cH r1,h1 H1 e1⟩
 ·exact False.elim h1
theorem alN{lo hi:Option Expr}{fl fh:QO}(ha:QW aj X W a fa)(hl:QOe aj X W lo fl)(hh:QOe aj X W hi fh):QE aj X W (.Subscript a (.Slice lo hi none p2) pos) (Mq fa fl fh):=
 PE.weak (pe_slice aob ha hl hh) fun σ H Q ⟨g,ρ,M,I,h⟩=>by
  refine tW.go I h.bnd fun d v H1 h1 e1 r1=>?_
  have I1:=I.ex e1
  refine⟨g,ρ,M,I1,h1.bnd.mono (fun l h2 H2 e2=>?_) fun _ z=>z.ex e1⟩
  have I2:=I1.ex e2
  refine⟨g,ρ,M,I2,h2.bnd.mono (fun u h3 H3 e3=>?_) fun _ z=>(z.ex e1).ex e2⟩
  exact amy (I2.ex e3).kd ((r1.ex e2 I1.kd).ex e3 I2.kd) (h3.mono (fun z hz v' H' e' r'=>hz v' H' (((e1.trans e2).trans e3).trans e') r') fun _ z=>z)
end
def J5(aj:aQ)(K:arJ)(W:WX)(o:Dat->Out Dat)(r:List V->Hp->VK->Prop):Prop:=∀(σ:L2.St) (g:Gh) (H:Hp) (x:V) (d:Dat) (Q:VK),Kd g H->dY K g H x d->
 (o d).sat (fun z=>∀v H',Ex H H'->Rep K g H' v z->Q v H') (qO K aj W g H σ)->r [x] H Q
def Fn2(aj:aQ)(K:arJ)(W:WX)(o:Dat->Dat->Out Dat)(r:List V->Hp->VK->Prop):Prop:=∀(σ:L2.St) (g:Gh) (H:Hp) (x y:V) (d e:Dat) (Q:VK),Kd g H->dY K g H x d->dY K g H y e->
 (o d e).sat (fun z=>∀v H',Ex H H'->Rep K g H' v z->Q v H') (qO K aj W g H σ)->r [x,y] H Q
def BV(f:Value)(x:Str):Prop:=bootBuiltins x=some f/\x≠"__name__"/\(x==("__debug__" : Str))=false
def nst:Expr->Bool
 |.Starred _ _=>false
 |_=>true
section
variable{X:Cx}{aj:aQ}{W:WX}{a b c:Expr}{fa fb fc:QF}{pos p:Pos}{x:Str}
theorem cP{env:PySem.Env}{a:Expr}(h:nst a=true)(es:List Expr):starEach (a::es) env=(false,eval a env)::starEach es env:=by
 cases a <;> first | rfl | cases h
theorem star_any{env:PySem.Env}{pos:Pos}:∀(es:List Expr),es.all nst=true->(backTo pos (starEach es env)).any (·.1)=false
 |[],_=>by with_unfolding_all rfl
 |a::es,h=>by
  rw[asv,arK]at h
  rw[cP h.1]
  have ih:=star_any (env:=env) (pos:=pos) es h.2
  unfold backTo at ih ⊢
  rw[arN,asS,ih]
  rfl
theorem agv{f:Value}{id:String}{r:List V->Hp->VK->Prop}{o:Dat->Out Dat}(hf:f=.builtin id∨f=.type id)(hc:CallR X f r)(ho:J5 aj X.K W o r)(hg:Gl X x)(hm:X.mg x=none)(hv:BV f x)(ha:QW aj X W a fa)(hs:nst a=true):QE aj X W (.Call (.Name x p) [a] [] pos) (eE o fa):=by
 have h1:=pa_cons ha pa_nil (cP hs [])
 have key:PE X (.Call (.Name x p) [a] [] pos) (tCB r (tCons (tW X.K aj W fa) tNil)):=by
  rcases hf with rfl|rfl
  ·exact pe_callB hc hg hm hv.1 h1 hv.2.1 hv.2.2 (cP hs []) (by with_unfolding_all rfl)
  ·exact pe_callTy hc hg hm hv.1 h1 hv.2.1 hv.2.2 (cP hs []) (by with_unfolding_all rfl)
 refine PE.weak key fun σ H Q ⟨g,ρ,M,I,h⟩=>?_
 refine tW.go I h.bnd fun d v H1 h1 e1 r1=>?_
 exact ho σ g H1 v d Q (I.kd.ex e1) r1 (h1.mono (fun z hz u H' e' r'=>hz u H' (e1.trans e') r') fun _ z=>z.ex e1)
theorem ams{f:Value}{id:String}{r:List V->Hp->VK->Prop}{o:Dat->Dat->Out Dat}(hf:f=.builtin id∨f=.type id)(hc:CallR X f r)(ho:Fn2 aj X.K W o r)(hg:Gl X x)(hm:X.mg x=none)(hv:BV f x)(ha:QW aj X W a fa)(hb:QW aj X W b fb)(hs:nst a=true)(hs2:nst b=true):QE aj X W (.Call (.Name x p) [a,b] [] pos) (aA o fa fb):=by
 have h1:=pa_cons ha (pa_cons hb pa_nil (cP hs2 [])) (cP hs [b])
 have key:PE X (.Call (.Name x p) [a,b] [] pos) (tCB r (tCons (tW X.K aj W fa) (tCons (tW X.K aj W fb) tNil))):=by
  rcases hf with rfl|rfl
  ·exact pe_callB hc hg hm hv.1 h1 hv.2.1 hv.2.2 (cP hs [b]) (star_any [b] (by simp[hs2]))
  ·exact pe_callTy hc hg hm hv.1 h1 hv.2.1 hv.2.2 (cP hs [b]) (star_any [b] (by simp[hs2]))
 refine PE.weak key fun σ H Q ⟨g,ρ,M,I,h⟩=>?_
 refine tW.go I h.bnd fun d v H1 h1 e1 r1=>?_
 have I1:=I.ex e1
 refine tW.go I1 (h1.bnd.mono (fun _ z=>z) fun _ z=>z.ex e1) fun d2 v2 H2 h2 e2 r2=>?_
 exact ho σ g H2 v v2 d d2 Q (I1.ex e2).kd (r1.ex e2 I1.kd) r2 (h2.mono (fun z hz u H' e' r'=>hz u H' ((e1.trans e2).trans e') r') fun _ z=>(z.ex e1).ex e2)
end
def oW:Dat->Out Dat
 |.list ds=>.ok (.int ds.length)
 |.tuple ds=>.ok (.int ds.length)
 |.str x=>Out.when (decide (x.length<=100000)) (.ok (.int x.length))
 |_=>.bad
def Ui:Dat->Out Dat
 |.int i=>.ok (.int (if i < 0 then -i else i))
 |_=>.bad
def lU:Dat->Dat->Out Dat
 |.int i,.int j=>.ok (.int (if j > i then j else i))
 |_,_=>.bad
def Ja:Dat->Dat->Out Dat
 |.int i,.int j=>.ok (.int (if j < i then j else i))
 |_,_=>.bad
def intsOf:List Dat->Option (List Int)
 |[]=>some []
 |.int i::r=>(intsOf r).map (i::·)
 |_::_=>none
def uh:List Dat->Option (List Bool)
 |[]=>some []
 |.bool i::r=>(uh r).map (i::·)
 |_::_=>none
theorem Jx{K:arJ}{g:Gh}{H:Hp}:∀{us:List V} {ds:List Dat} {ns:List Int},aJ K g H us ds->intsOf ds=some ns->us=ns.map V.int
 |_,_,ns,.nil,e=>by cases e;rfl
 |_,_,ns,.cons (d:=d) (ds:=ds) h t,e=>by
  cases d with
  |int i=>
   rw[intsOf]at e
   cases hr:intsOf ds with
   |none=>rw[hr]at e;cases e
   |some r=>
    rw[hr]at e
    cases e
    cases h
    rw[Jx t hr]
    rfl
  |_=>cases e
theorem K6{K:arJ}{g:Gh}{H:Hp}:∀{us:List V} {ds:List Dat} {ns:List Bool},aJ K g H us ds->uh ds=some ns->us=ns.map V.bl
 |_,_,ns,.nil,e=>by cases e;rfl
 |_,_,ns,.cons (d:=d) (ds:=ds) h t,e=>by
  cases d with
  |bool i=>
   rw[uh]at e
   cases hr:uh ds with
   |none=>rw[hr]at e;cases e
   |some r=>
    rw[hr]at e
    cases e
    cases h
    rw[K6 t hr]
    rfl
  |_=>cases e
@[simp]theorem wI (ns:List Int):intsOf (ns.map PyData.int)=some ns:=by
 induction ns with
 |nil=>rfl
 |cons n ns ih=>rw[arN,intsOf,ih];rfl
@[simp]theorem Ew (ns:List Bool):uh (ns.map PyData.bool)=some ns:=by
 induction ns with
 |nil=>rfl
 |cons n ns ih=>rw[arN,uh,ih];rfl
def U5:Dat->Out Dat
 |.list ds=>match intsOf ds with
  |some ns=>.ok (.int ns.sum)
  |none=>.bad
 |_=>.bad
def Fp:Int->List Int->Int
 |m,[]=>m
 |m,n::ns=>Fp (if n > m then n else m) ns
theorem Wq:∀(ns:List Int) (m:Int),(Fp m ns∈m::ns)/\∀y∈m::ns,y<=Fp m ns
 |[],m=>⟨by simp[Fp],fun y h=>by simp at h;subst h;exact Int.le_refl _⟩
 |n::ns,m=>by
  obtain⟨h1,h2⟩:=Wq ns (if n > m then n else m)
  have hm:m<=(if n > m then n else m):=by split <;> omega
  have hn:n<=(if n > m then n else m):=by split <;> omega
  have h3:=h2 _ arP
  refine⟨?_,fun y hy=>?_⟩
  ·show Fp (if n > m then n else m) ns∈_
   rcases arZ.mp h1 with e|e
   ·rw[e]
    split
    ·exact arO _ arP
    ·exact arP
   ·exact arO _ (arO _ e)
  ·show y<=Fp (if n > m then n else m) ns
   rcases arZ.mp hy with e|hy
   ·omega
   ·rcases arZ.mp hy with e|hy
    ·omega
    ·exact h2 y (arO _ hy)
def maxD:Dat->Out Dat
 |.list ds=>match intsOf ds with
  |some (n::ns)=>.ok (.int (Fp n ns))
  |_=>.bad
 |_=>.bad
def Qp:Dat->Out Dat
 |.list ds=>match uh ds with
  |some bs=>.ok (.bool (bs.all id))
  |none=>.bad
 |_=>.bad
def Qx:Dat->Out Dat
 |.list ds=>match uh ds with
  |some bs=>.ok (.bool (bs.any id))
  |none=>.bad
 |_=>.bad
def kW:Dat->Out Dat
 |.list ds=>.ok (.tuple ds)
 |.tuple ds=>.ok (.tuple ds)
 |_=>.bad
def Nh:Dat->Out Dat
 |.list ds=>.ok (.list ds)
 |.tuple ds=>.ok (.list ds)
 |_=>.bad
def intD:Dat->Out Dat
 |.int i=>.ok (.int i)
 |.bool k=>.ok (.int (if k then 1 else 0))
 |.str x=>Out.when (decide (x.length<=640)) (match PySem.intText? x with
  |some n=>.ok (.int n)
  |none=>.bad)
 |_=>.bad
def agt(K:arJ):List V->Hp->VK->Prop:=fun xs H Q=>(∃p ys,xs=[.ref p]/\(SqL K H p ys∨SqT K H p ys)/\Q (.int ys.length) H)∨∃z,xs=[.str z]/\z.length<=sizeLine/\Q (.int z.length) H
theorem alB{X:Cx}:CallR X (.builtin "len") (agt X.K):=fun pins s σ H xs us Q I r h=>h.elim (fun h=>call_len_seq pins s σ H xs us Q I r h) fun h=>call_len_str pins s σ H xs us Q I r h
def agq:List V->Hp->VK->Prop:=fun xs H Q=>((∃i,xs=[.int i]/\Q (.int i) H)∨∃k,xs=[.bl k]/\Q (.int (if k then 1 else 0)) H)∨∃a n,xs=[.str a]/\PySem.intText? a=some n/\a.length<=640/\Q (.int n) H
theorem akn{X:Cx}:CallR X (.type "int") agq:=fun pins s σ H xs us Q I r h=>h.elim (fun h=>call_int1 pins s σ H xs us Q I r h) fun h=>call_int_str pins s σ H xs us Q I r h
section
variable{K:arJ}{aj:aQ}{W:WX}
theorem ai0:J5 aj K W oW (agt K):=fun σ g H x d Q k rx h=>by
 unfold oW at h
 split at h
 ·obtain⟨p,us,rfl,h1,h2⟩:=jk rx
  rw[←h2.length]at h
  exact .inl ⟨p,us,rfl,.inl h1,h _ H (Ex.refl H) (.int _)⟩
 ·obtain⟨p,us,rfl,h1,h2⟩:=kE rx
  rw[←h2.length]at h
  exact .inl ⟨p,us,rfl,.inr h1,h _ H (Ex.refl H) (.int _)⟩
 ·obtain⟨hz,h⟩:=h.pY
  cases jQ rx
  exact .inr ⟨_,rfl,sz_of (of_decide_eq_true hz),h _ H (Ex.refl H) (.int _)⟩
 ·exact False.elim h
theorem aiV:J5 aj K W Ui (fun xs H Q=>∃i,xs=[.int i]/\Q (.int (if i < 0 then -i else i)) H):=fun σ g H x d Q k rx h=>by
 unfold Ui at h
 split at h
 ·cases cH rx
  exact⟨_,rfl,h _ H (Ex.refl H) (.int _)⟩
 ·exact False.elim h
theorem aiz:Fn2 aj K W lU (fun xs H Q=>∃i j,xs=[.int i,.int j]/\Q (.int (if j > i then j else i)) H):=fun σ g H x y d e Q k rx ry h=>by
 unfold lU at h
 split at h
 ·cases cH rx;cases cH ry
  exact⟨_,_,rfl,h _ H (Ex.refl H) (.int _)⟩
 ·exact False.elim h
theorem aiB:Fn2 aj K W Ja (fun xs H Q=>∃i j,xs=[.int i,.int j]/\Q (.int (if j < i then j else i)) H):=fun σ g H x y d e Q k rx ry h=>by
 unfold Ja at h
 split at h
 ·cases cH rx;cases cH ry
  exact⟨_,_,rfl,h _ H (Ex.refl H) (.int _)⟩
 ·exact False.elim h
theorem aiJ:J5 aj K W U5 (rSum K):=fun σ g H x d Q k rx h=>by
 unfold U5 at h
 split at h
 ·split at h
  ·next ns e=>
   obtain⟨p,us,rfl,h1,h2⟩:=jk rx
   have:=Jx h2 e
   subst this
   exact⟨p,ns,rfl,h1,h _ H (Ex.refl H) (.int _)⟩
  ·exact False.elim h
 ·exact False.elim h
theorem ai8:J5 aj K W maxD (rMax K):=fun σ g H x d Q k rx h=>by
 unfold maxD at h
 split at h
 ·split at h
  ·next n ns e=>
   obtain⟨p,us,rfl,h1,h2⟩:=jk rx
   have:=Jx h2 e
   subst this
   obtain⟨m1,m2⟩:=Wq ns n
   refine⟨p,n::ns,rfl,h1,by simp,fun m hm hy=>?_⟩
   have e2:m=Fp n ns:=Int.le_antisymm (m2 m hm) (hy _ m1)
   rw[e2]
   exact h _ H (Ex.refl H) (.int _)
  ·exact False.elim h
 ·exact False.elim h
theorem aj3:J5 aj K W Qp (rAll K):=fun σ g H x d Q k rx h=>by
 unfold Qp at h
 split at h
 ·split at h
  ·next ns e=>
   obtain⟨p,us,rfl,h1,h2⟩:=jk rx
   have:=K6 h2 e
   subst this
   exact⟨p,ns,rfl,h1,h _ H (Ex.refl H) (.bl _)⟩
  ·exact False.elim h
 ·exact False.elim h
theorem ajo:J5 aj K W Qx (rAny K):=fun σ g H x d Q k rx h=>by
 unfold Qx at h
 split at h
 ·split at h
  ·next ns e=>
   obtain⟨p,us,rfl,h1,h2⟩:=jk rx
   have:=K6 h2 e
   subst this
   exact⟨p,ns,rfl,h1,h _ H (Ex.refl H) (.bl _)⟩
  ·exact False.elim h
 ·exact False.elim h
theorem afH:J5 aj K W kW (fun xs H Q=>∃p ys,xs=[.ref p]/\((SqL K H p ys/\∀l,H l=none->Q (.ref l) (upd H l (.tup ys)))∨(SqT K H p ys/\Q (.ref p) H))):=fun σ g H x d Q k rx h=>by
 unfold kW at h
 split at h
 ·obtain⟨p,us,rfl,h1,h2⟩:=jk rx
  exact⟨p,us,rfl,.inl ⟨h1,fun l nl=>h _ _ (Ex.new nl) (.tup (st_of upd_same) (h2.ex (Ex.new nl) k))⟩⟩
 ·obtain⟨p,us,rfl,h1,h2⟩:=kE rx
  exact⟨p,us,rfl,.inr ⟨h1,h _ H (Ex.refl H) (.tup h1 h2)⟩⟩
 ·exact False.elim h
theorem aif:J5 aj K W Nh (fun xs H Q=>∃p ys,xs=[.ref p]/\(SqL K H p ys∨SqT K H p ys)/\∀l,H l=none->Q (.ref l) (upd H l (.lst ys))):=fun σ g H x d Q k rx h=>by
 unfold Nh at h
 split at h
 ·obtain⟨p,us,rfl,h1,h2⟩:=jk rx
  exact⟨p,us,rfl,.inl h1,fun l nl=>h _ _ (Ex.new nl) (.lst (.inl ⟨.inl upd_same,k.fresh nl⟩) (h2.ex (Ex.new nl) k))⟩
 ·obtain⟨p,us,rfl,h1,h2⟩:=kE rx
  exact⟨p,us,rfl,.inr h1,fun l nl=>h _ _ (Ex.new nl) (.lst (.inl ⟨.inl upd_same,k.fresh nl⟩) (h2.ex (Ex.new nl) k))⟩
 ·exact False.elim h
theorem alf:J5 aj K W intD agq:=fun σ g H x d Q k rx h=>by
 unfold intD at h
 split at h
 ·cases cH rx
  exact .inl (.inl ⟨_,rfl,h _ H (Ex.refl H) (.int _)⟩)
 ·cases Ef rx
  exact .inl (.inr ⟨_,rfl,h _ H (Ex.refl H) (.int _)⟩)
 ·obtain⟨hz,h⟩:=h.pY
  split at h
  ·next n e=>
   cases jQ rx
   exact .inr ⟨_,n,rfl,e,of_decide_eq_true hz,h _ H (Ex.refl H) (.int _)⟩
  ·exact False.elim h
 ·exact False.elim h
end
inductive Ol where
 |int|bool|str|tuple|list
def Ol.name:Ol->String
 |.int=>"int"
 |.bool=>"bool"
 |.str=>"str"
 |.tuple=>"tuple"
 |.list=>"list"
def Bl(t:Ol):Dat->Option Bool
 |.none=>some false
 |.int _=>some (match t with
  |.int=>true
  |_=>false)
 |.bool _=>some (match t with
  |.int=>true
  |.bool=>true
  |_=>false)
 |.str _=>some (match t with
  |.str=>true
  |_=>false)
 |.tuple _=>some (match t with
  |.tuple=>true
  |_=>false)
 |.list _=>some (match t with
  |.list=>true
  |_=>false)
 |.dict _=>none
def yE(t:Ol)(d:Dat):Out Dat:=match Bl t d with
 |some b=>.ok (.bool b)
 |none=>.bad
def ajR:Dat->String
 |.none=>"NoneType"
 |.int _=>"int"
 |.bool _=>"bool"
 |.str _=>"str"
 |.tuple _=>"tuple"
 |.list _=>"list"
 |.dict _=>"dict"
theorem akS{K:arJ}{H:Hp}{a:Addr}{xs:List V}(h:SqL K H a xs):TyX K H (.ref a) (.type "list"):=by
 rcases h with(h|⟨o,h⟩)|⟨o,its,n,h1,h2,_⟩
 ·exact .base (.lst h)
 ·exact .base (.frz h)
 ·exact .kList h1 h2
theorem ajP{K:arJ}{H:Hp}{a:Addr}{xs:List V}(h:SqT K H a xs):TyX K H (.ref a) (.type "tuple"):=by
 rcases h with(h|⟨o,h⟩)|⟨o,its,n,h1,h2,_⟩
 ·exact .base (.tup h)
 ·exact .fTuple h
 ·exact .kTuple h1 h2
theorem amm{K:arJ}{g:Gh}{H:Hp}{x:V}{d:Dat}(h:dY K g H x d)(hd:∀kv,d≠.dict kv):TyX K H x (.type (ajR d)):=by
 cases d with
 |none=>cases Gi h;exact .base .non
 |bool b=>cases Ef h;exact .base (.bl _)
 |int b=>cases cH h;exact .base (.int _)
 |str b=>cases jQ h;exact .base (.str _)
 |list b=>obtain⟨a,us,rfl,h1,_⟩:=jk h;exact akS h1
 |tuple b=>obtain⟨a,us,rfl,h1,_⟩:=kE h;exact ajP h1
 |dict kv=>exact absurd rfl (hd kv)
theorem aaC{K:arJ}:PySem.W.kitOne K (.type "int") (.type "int")=some true:=kit_ty (by decide +kernel)
theorem Yo{K:arJ}:PySem.W.kitOne K (.type "int") (.type "bool")=some false:=kit_ty (by decide +kernel)
theorem aaW{K:arJ}:PySem.W.kitOne K (.type "int") (.type "str")=some false:=kit_ty (by decide +kernel)
theorem Xo{K:arJ}:PySem.W.kitOne K (.type "int") (.type "tuple")=some false:=kit_ty (by decide +kernel)
theorem Z6{K:arJ}:PySem.W.kitOne K (.type "int") (.type "list")=some false:=kit_ty (by decide +kernel)
theorem aam{K:arJ}:PySem.W.kitOne K (.type "bool") (.type "int")=some true:=kit_ty (by decide +kernel)
theorem Xk{K:arJ}:PySem.W.kitOne K (.type "bool") (.type "bool")=some true:=kit_ty (by decide +kernel)
theorem YT{K:arJ}:PySem.W.kitOne K (.type "bool") (.type "str")=some false:=kit_ty (by decide +kernel)
theorem Vh{K:arJ}:PySem.W.kitOne K (.type "bool") (.type "tuple")=some false:=kit_ty (by decide +kernel)
theorem Xm{K:arJ}:PySem.W.kitOne K (.type "bool") (.type "list")=some false:=kit_ty (by decide +kernel)
theorem aaV{K:arJ}:PySem.W.kitOne K (.type "str") (.type "int")=some false:=kit_ty (by decide +kernel)
theorem Zh{K:arJ}:PySem.W.kitOne K (.type "str") (.type "bool")=some false:=kit_ty (by decide +kernel)
theorem aaK{K:arJ}:PySem.W.kitOne K (.type "str") (.type "str")=some true:=kit_ty (by decide +kernel)
theorem Xe{K:arJ}:PySem.W.kitOne K (.type "str") (.type "tuple")=some false:=kit_ty (by decide +kernel)
theorem Zu{K:arJ}:PySem.W.kitOne K (.type "str") (.type "list")=some false:=kit_ty (by decide +kernel)
theorem Xx{K:arJ}:PySem.W.kitOne K (.type "tuple") (.type "int")=some false:=kit_ty (by decide +kernel)
theorem Ul{K:arJ}:PySem.W.kitOne K (.type "tuple") (.type "bool")=some false:=kit_ty (by decide +kernel)
theorem Xl{K:arJ}:PySem.W.kitOne K (.type "tuple") (.type "str")=some false:=kit_ty (by decide +kernel)
theorem Q8{K:arJ}:PySem.W.kitOne K (.type "tuple") (.type "tuple")=some true:=kit_ty (by decide +kernel)
theorem Um{K:arJ}:PySem.W.kitOne K (.type "tuple") (.type "list")=some false:=kit_ty (by decide +kernel)
theorem Z4{K:arJ}:PySem.W.kitOne K (.type "list") (.type "int")=some false:=kit_ty (by decide +kernel)
theorem Xw{K:arJ}:PySem.W.kitOne K (.type "list") (.type "bool")=some false:=kit_ty (by decide +kernel)
theorem ZK{K:arJ}:PySem.W.kitOne K (.type "list") (.type "str")=some false:=kit_ty (by decide +kernel)
theorem Ug{K:arJ}:PySem.W.kitOne K (.type "list") (.type "tuple")=some false:=kit_ty (by decide +kernel)
theorem Xi{K:arJ}:PySem.W.kitOne K (.type "list") (.type "list")=some true:=kit_ty (by decide +kernel)
theorem Pu{K:arJ}:PySem.W.kitOne K (.type "NoneType") (.type "int")=some false:=kit_ty (by decide +kernel)
theorem Oa{K:arJ}:PySem.W.kitOne K (.type "NoneType") (.type "bool")=some false:=kit_ty (by decide +kernel)
theorem O2{K:arJ}:PySem.W.kitOne K (.type "NoneType") (.type "str")=some false:=kit_ty (by decide +kernel)
theorem Lr{K:arJ}:PySem.W.kitOne K (.type "NoneType") (.type "tuple")=some false:=kit_ty (by decide +kernel)
theorem N7{K:arJ}:PySem.W.kitOne K (.type "NoneType") (.type "list")=some false:=kit_ty (by decide +kernel)
theorem aiu{K:arJ}{t:Ol}{d:Dat}{b:Bool}(h:Bl t d=some b):PySem.W.kitOne K (.type (ajR d)) (.type t.name)=some b/\∀kv,d≠.dict kv:=by
 cases d with
 |dict kv=>cases h
 |none=>
  refine⟨?_,fun _ z=>nomatch z⟩
  cases t <;> cases h
  ·exact Pu
  ·exact Oa
  ·exact O2
  ·exact Lr
  ·exact N7
 |bool x=>
  refine⟨?_,fun _ z=>nomatch z⟩
  cases t <;> cases h
  ·exact aam
  ·exact Xk
  ·exact YT
  ·exact Vh
  ·exact Xm
 |int x=>
  refine⟨?_,fun _ z=>nomatch z⟩
  cases t <;> cases h
  ·exact aaC
  ·exact Yo
  ·exact aaW
  ·exact Xo
  ·exact Z6
 |str x=>
  refine⟨?_,fun _ z=>nomatch z⟩
  cases t <;> cases h
  ·exact aaV
  ·exact Zh
  ·exact aaK
  ·exact Xe
  ·exact Zu
 |list x=>
  refine⟨?_,fun _ z=>nomatch z⟩
  cases t <;> cases h
  ·exact Z4
  ·exact Xw
  ·exact ZK
  ·exact Ug
  ·exact Xi
 |tuple x=>
  refine⟨?_,fun _ z=>nomatch z⟩
  cases t <;> cases h
  ·exact Xx
  ·exact Ul
  ·exact Xl
  ·exact Q8
  ·exact Um
def wZ(t:Ol)(a:QF):QF:=eE (yE t) a
section
variable{X:Cx}{aj:aQ}{W:WX}{a b:Expr}{fa:QF}{pos p p2:Pos}{x y:Str}
theorem akI{t:Ol}(hg:Gl X x)(hm:X.mg x=none)(hv:BV (.builtin "isinstance") x)(hg2:Gl X y)(hm2:X.mg y=none)(hv2:BV (.type t.name) y)(ha:QW aj X W a fa)(hs:nst a=true):QE aj X W (.Call (.Name x p) [a,.Name y p2] [] pos) (wZ t fa):=by
 have hb:PE X (.Name y p2) (tC (.ty t.name)):=pe_bltn hg2 hm2 hv2.1 rfl hv2.2.1 hv2.2.2
 have h1:=pa_cons ha (pa_cons hb pa_nil (cP (a:=.Name y p2) rfl [])) (cP hs [.Name y p2])
 have key:=pe_callB (pos:=pos) (p:=p) call_isi hg hm hv.1 h1 hv.2.1 hv.2.2 (cP hs [.Name y p2]) (star_any [.Name y p2] rfl)
 refine PE.weak key fun σ H Q ⟨g,ρ,M,I,h⟩=>?_
 refine tW.go I h.bnd fun d v H1 h1 e1 r1=>?_
 unfold yE at h1
 split at h1
 ·next bb e=>
  obtain⟨k1,k2⟩:=aiu (K:=X.K) e
  exact⟨v,_,_,_,bb,rfl,.ty _,amm r1 k2,k1,h1 _ H1 e1 (.bl _)⟩
 ·exact False.elim h1
end
inductive Src where
 |lst (a:Addr)|tup (a:Addr)|str (x:Str)
def chars(x:Str):List V:=x.cps.toList.map fun c=>V.str ⟨#[c]⟩
def Src.sq(K:arJ)(H:Hp)(us:List V):Src->Prop
 |.lst a=>SqL K H a us
 |.tup a=>SqT K H a us
 |.str x=>us=chars x
def Src.it(h:Heap)(i:Addr)(n:Nat):Src->Prop
 |.lst a=>h.IsListIter i a n
 |.tup a=>h.IsTupleIter i a n
 |.str x=>∃t,h.IsStrIter i (strIterType x) x t n
def Src.ad:Src->List Addr
 |.lst a=>[a]
 |.tup a=>[a]
 |.str _=>[]
section
variable{X:Cx}{pins:List (Addr×Obj)}{σ:L2.St}{H:Hp}{s:Shared}
theorem Src.inj{S:Src}{us ws:List V}(I:L2.Inv X pins σ H s)(h:S.sq X.K H us)(h':S.sq X.K H ws):us=ws:=by
 cases S with
 |lst a=>exact I.list_inj h h'
 |tup a=>exact I.tuple_inj h h'
 |str x=>exact Eq.trans h (Eq.symm h')
theorem Src.draws{S:Src}{us:List V}{i:Addr}{n:Nat}(I:L2.Inv X pins σ H s)(hA:X.A.handled=none)(hs:S.sq X.K H us)(hi:S.it s.heap i n)(hne:∀a∈S.ad,a≠i) :
  ∃(P:Nat->Value->Prop) (St:Nat->Heap->Prop),Draws X.prog X.w X.A.in1 i (i::S.ad) us.length P St/\St n s.heap/\(∀m h,St m h->S.it h i m)/\∀(m:Nat) (v:Value) (x:V),P m v->us[m]?=some x->RelV x v:=by
 cases S with
 |lst a=>
  obtain⟨its,rv,p,hz⟩:=I.list hs
  have hl:=rv.length
  have D:=Draws.list (prog:=X.prog) (w:=X.w) (A:=X.A.in1) hA i a (hne a (by simp[Src.ad])) its.toArray
  rw[as3,←hl]at D
  refine⟨_,_,D,⟨hi,p.isList⟩,fun m h z=>z.1,fun m v x hv hx=>?_⟩
  obtain⟨u,hu,ru⟩:=rv.get hx
  have:v=u:=ar8 (hv.symm.trans (by simpa using hu))
  rw[this]
  exact ru
 |tup a=>
  obtain⟨its,rv,p,hz⟩:=I.tuple hs
  have hl:=rv.length
  have D:=Draws.tuple (prog:=X.prog) (w:=X.w) (A:=X.A.in1) hA i a (hne a (by simp[Src.ad])) its.toArray
  rw[as3,←hl]at D
  refine⟨_,_,D,⟨hi,p⟩,fun m h z=>z.1,fun m v x hv hx=>?_⟩
  obtain⟨u,hu,ru⟩:=rv.get hx
  have:v=u:=ar8 (hv.symm.trans (by simpa using hu))
  rw[this]
  exact ru
 |str x=>
  obtain⟨t,hi⟩:=hi
  have hl:us.length=x.cps.size:=by
   rw[show us=chars x from hs]
   unfold chars
   rw[arT,asu]
  have D:=Draws.text (prog:=X.prog) (w:=X.w) (A:=X.A.in1) hA i x t
  rw[←hl]at D
  refine⟨_,_,D,hi,fun m h z=>⟨t,z⟩,fun m v y hv hy=>?_⟩
  obtain⟨c,u,hc,rfl⟩:=hv
  rw[show us=chars x from hs]at hy
  unfold chars at hy
  rw[arY,asC,hc]at hy
  cases hy
  exact⟨u,rfl⟩
theorem Src.NT{S:Src}{h:Heap}{i:Addr}{n:Nat}(hi:S.it h i n):∃o,h.get? i=some o/\∀v,o.data≠.cell v:=by
 cases S with
 |lst a=>obtain⟨o,e,_,d⟩:=hi;exact⟨o,e,fun v q=>by rw[d]at q;cases q⟩
 |tup a=>obtain⟨o,e,_,d⟩:=hi;exact⟨o,e,fun v q=>by rw[d]at q;cases q⟩
 |str x=>obtain⟨t,o,e,_,d⟩:=hi;exact⟨o,e,fun v q=>by rw[d]at q;cases q⟩
theorem Src.NP{S:Src}{h h':Heap}{i:Addr}{n:Nat}(hi:S.it h i n)(k:∀o,h.get? i=some o->h'.get? i=some o):S.it h' i n:=by
 cases S with
 |lst a=>exact hi.at k
 |tup a=>exact hi.at k
 |str x=>obtain⟨t,o,e,r⟩:=hi;exact⟨t,o,k o e,r⟩
end
def ItE(K:arJ)(S:Src)(k₀:Int):It:=
 ⟨fun i H=>∃(us:List V) (x:V),S.sq K H us/\us[i]?=some x,fun i H v H'=>∃T x,v=.ref T/\H T=none/\H'=upd H T (.tup [.int (k₀+(i:Int)),x])/\∀us,S.sq K H us->us[i]?=some x,fun i H=>∃us:List V,S.sq K H us/\us.length=i⟩
theorem amk{P:Program}{w:World}{K:arJ}{elts:List Expr}{kk:Nat}{tpos:Pos}(S:Src)(e i0:Addr)(k₀:Int)(hne:e≠i0)(ha:∀a∈S.ad,e≠a/\a≠i0) :
  Turn P w K (.Tuple elts kk tpos) (ItE K S k₀) [e,i0] e (fun i h=>(∃old,IsEnum h e i0 (k₀+(i:Int)) old)/\S.it h i0 i) where
 mem:=by simp
 obj:=fun i h st b hb=>by
  obtain⟨⟨old,he⟩,hi⟩:=st
  have e':b=e∨b=i0:=by simpa using hb
  rcases e' with z|z
  ·rw[z];exact⟨_,he,fun v q=>nomatch q⟩
  ·rw[z];exact Src.NT hi
 keep:=fun i h h' st k=>let ⟨⟨old,he⟩,hi⟩:=st;⟨⟨old,k e (by simp) _ he⟩,Src.NP hi fun o q=>k i0 (by simp) o q⟩
 item:=by
  intro X hP hw hK hc i pins s σ H E I hf st hg
  subst hP hw hK
  obtain⟨⟨old,he⟩,hit⟩:=st
  obtain⟨us,x,hq,hx⟩:=hg
  obtain⟨PP,St,D,st0,stI,rel⟩:=Src.draws I (I.ok.hd hc) hq hit fun a z=>(ha a z).2
  have hel:e < s.heap.objs.size:=Heap.lt_size he
  have hil:i0 < s.heap.objs.size:=by obtain⟨_,q,_⟩:=Src.NT hit;exact Heap.lt_size q
  have hin:i < us.length:=(arL.mp hx).1
  refine wpAny_pyNext_enum_itemC D he st0 hin hne (fun z=>?_) fun v h' tk hP ho hst' hT hsz hk=>?_
  ·rcases arZ.mp z with z|z
   ·exact hne z
   ·exact(ha e z).1 rfl
  have ru:=rel i v x hP hx
  refine⟨_,rfl,wpAny_letOwnedTupleGo_enum (s:={ s with heap:=h',toks:=tk+1 }) ho fun h'' he' sb=>?_⟩
  have hT2:h''.get? s.heap.objs.size=some { cls:=.type "tuple",data:=.seq #[.int (k₀+(i:Int)) tk,v] }:=(sb.2 _ (Nat.ne_of_gt hel)).trans hT
  have new:ObjOk X.prog X.w (upd H s.heap.objs.size (.tup [.int (k₀+(i:Int)),x])) h'' s.heap.objs.size (.tup [.int (k₀+(i:Int)),x]):=
   ⟨by show 2<=sizeLine;decide,[.int (k₀+(i:Int)) tk,v],.cons ⟨_,rfl⟩ (.cons ru .nil),⟨_,hT2,rfl,_,rfl⟩⟩
  have I1:L2.Inv X pins σ (upd H s.heap.objs.size (.tup [.int (k₀+(i:Int)),x])) { s with heap:=h'',toks:=tk+1 }:=
   I.turnedNew (ch:=[e,i0]) (fun b ob hb q=>(sb.2 b (fun z=>hb (by simp[z]))).trans (hk b ob (fun z=>hb (by simp[z])) (fun z=>hb (by simp[z])) q)) hf (ash _) new
  refine⟨.ref s.heap.objs.size,_,I1,rfl,⟨_,x,rfl,I.hok.fresh (ash _),rfl,fun ys hy=>by rw[Src.inj I hy hq];exact hx⟩,⟨⟨v,?_⟩,Src.NP (stI _ _ hst') fun o q=>(sb.2 i0 (Ne.symm hne)).trans q⟩,fun b hb=>?_⟩
  ·have e1:k₀+((i+1:Nat):Int)=k₀+(i:Int)+1:=by omega
   rw[e1];exact he'
  ·have hb':b < s.heap.objs.size:=by
    have e':b=e∨b=i0:=by simpa using hb
    rcases e' with z|z
    ·rw[z];exact hel
    ·rw[z];exact hil
   rw[upd_ne (asp hb')]
   exact(hf b hb).1
 done:=by
  intro X hP hw hK hc i pins s σ H E I hf st hg
  subst hP hw hK
  obtain⟨⟨old,he⟩,hit⟩:=st
  obtain⟨us,hq,hx⟩:=hg
  obtain⟨PP,St,D,st0,stI,rel⟩:=Src.draws I (I.ok.hd hc) hq hit fun a z=>(ha a z).2
  obtain⟨f0,f1,f2,f3,f4,f5⟩:=hf i0 (by simp)
  rw[←hx]at st0
  exact wpAny_pyNext_enum_endD D he st0 fun h' eb=>⟨rfl,I.turned (t':=s.toks) (fun b o hb q=>eb b o hb q) f0 f1 f3 f4 f5⟩
 self:=fun A i s Q E st h=>let ⟨⟨_,he⟩,_⟩:=st;wpAny_pyIter_enum he h
theorem Src.begins{X:Cx}{pins:List (Addr×Obj)}{σ:L2.St}{H:Hp}{s:Shared}{S:Src}{us:List V}{x:V}{v:Value}(I:L2.Inv X pins σ H s)(hs:S.sq X.K H us)(hx:(∃a,x=.ref a/\S.ad=[a]/\(S=.lst a∨S=.tup a))∨∃y,S=.str y/\x=.str y)(r:RelV x v) :
  ∃(o:Obj) (B:Heap->Prop),Begins v o B/\B s.heap/\(∀h i,h.get? i=some o->S.it h i 0)/\∀a∈S.ad,a < s.heap.objs.size:=by
 rcases hx with⟨a,rfl,ha,h|h⟩|⟨y,h,rfl⟩
 ·subst h
  cases r
  obtain⟨its,rv,p,_⟩:=I.list hs
  obtain⟨o1,ho1,_⟩:=id p.isList
  refine⟨_,_,begins_list a its.toArray,p.isList,fun h i e=>⟨_,e,rfl,rfl⟩,fun b hb=>?_⟩
  rw[ha]at hb
  rw[arQ.mp hb]
  exact Heap.lt_size ho1
 ·subst h
  cases r
  obtain⟨its,rv,p,_⟩:=I.tuple hs
  obtain⟨o1,ho1,_⟩:=id p
  refine⟨_,_,begins_tuple a its.toArray,p,fun h i e=>⟨_,e,rfl,rfl⟩,fun b hb=>?_⟩
  rw[ha]at hb
  rw[arQ.mp hb]
  exact Heap.lt_size ho1
 ·subst h
  obtain⟨t,rfl⟩:=r
  exact⟨_,_,begins_text y t,trivial,fun h i e=>⟨t,_,e,rfl,rfl⟩,fun b hb=>nomatch hb⟩
def srcOf(x:V)(S:Src):Prop:=(∃a,x=.ref a/\S.ad=[a]/\(S=.lst a∨S=.tup a))∨∃y,S=.str y/\x=.str y
def iEn(K:arJ)(ta:TA)(k₀:Int):TI:=fun σ H R=>ta σ H fun vs H1=>∃x S us,vs=[x]/\srcOf x S/\S.sq K H1 us/\R (ItE K S k₀) H1
section
variable{X:Cx}{a b:Expr}{ta tb:TA}{p pos tpos:Pos}{elts:List Expr}{kk:Nat}
theorem ajl{pins:List (Addr×Obj)}{σ:L2.St}{H:Hp}{s:Shared}(I:L2.Inv X pins σ H s):∀b∈[s.heap.objs.size+1,s.heap.objs.size],FpOk X pins H b:=fun b hb=>by
 have e':b=s.heap.objs.size+1∨b=s.heap.objs.size:=by simpa using hb
 have hle:s.heap.objs.size<=b:=by
  rcases e' with z|z
  ·rw[z];exact Nat.le_add_right _ _
  ·rw[z];exact ash _
 exact I.fpOk hle (I.hok.fresh hle)
theorem agD{pins:List (Addr×Obj)}{σ:L2.St}{H:Hp}{s:Shared}{S:Src}{us:List V}{x:V}{v:Value}{o:Obj}{k₀:Int}{R:It->Hp->Prop}{h':Heap}(I:L2.Inv X pins σ H s)(hlt:∀a∈S.ad,a < s.heap.objs.size)(hit:∀h i,h.get? i=some o->S.it h i 0)
  (he:IsEnum h' (s.heap.objs.size+1) s.heap.objs.size k₀ .none) (ho:h'.get? s.heap.objs.size=some o) (hk:∀b o,s.heap.get? b=some o->h'.get? b=some o) (q:R (ItE X.K S k₀) H) :
  wpAny (model X.prog X.w) X.A (pyIter (.ref (s.heap.objs.size+1))) (PIE X pins σ (.Tuple elts kk tpos) R) X.xe { s with heap:=h' }:=by
 refine wpAny_pyIter_enum he ?_
 have I2:L2.Inv X pins σ H { s with heap:=h' }:=I.kept (t':=s.toks) hk
 refine⟨s.heap.objs.size+1,[s.heap.objs.size+1,s.heap.objs.size],_,_,H,rfl,I2,amk S (s.heap.objs.size+1) s.heap.objs.size k₀ (Nat.succ_ne_self _) (fun a z=>?_),⟨⟨.none,?_⟩,hit _ _ ho⟩,ajl I,q⟩
 ·have:=hlt a z
  exact⟨Nat.ne_of_gt (asZ this),asp this⟩
 ·rw[show k₀+((0:Nat):Int)=k₀ by simp]
  exact he
theorem afp{v:Value}{o:Obj}{B:Heap->Prop}(hB:Begins v o B) :
  Meets (Builtin.«enumerate.__new__» ⟨[.type "enumerate",v],[]⟩) (fun _ R s=>B s.heap/\
   R (.ok (.ret (.ref (s.heap.push o).objs.size))) { s with heap:=(s.heap.push o).push { cls:=.type "enumerate",data:=.fields #[.none,.bool false,.ref s.heap.objs.size,rawInt 0,.none,.none] } }):=
 .of_wp fun prog w A R s hh=>by
  obtain⟨hp,gs,dr,tk,os⟩:=s
  obtain⟨hb,hr⟩:=hh
  have hsub:=sub_enumerate
  have qi:∀{A':Around} {E:Value->Shared->Prop} {Q:Value->Shared->Prop},Q (.ref hp.objs.size) ⟨hp.push o,gs,dr,tk,os⟩->wpAny (model prog w) A' (pyIter v) Q E ⟨hp,gs,dr,tk,os⟩:=fun z=>hB.iter prog w _ _ ⟨hp,gs,dr,tk,os⟩ _ hb z
  wp_walk using qi
  refine wpAny_stack_any fun st=>wpAny_pure ?_
  split
  ·next c _ _ _ _ _=>
   cases(c==Value.type "enumerate") <;> (wp_walk using qi;exact⟨_,rfl,hr⟩)
  ·wp_walk using qi
   exact⟨_,rfl,hr⟩
theorem adR{prog:Program}{w:World}{A:Around}{E:Value->Shared->Prop}{s:Shared}{v:Value}{o:Obj}{B:Heap->Prop}{Q:Value->Shared->Prop}(hB:Begins v o B)(hb:B s.heap)
  (h:∀h',IsEnum h' (s.heap.objs.size+1) s.heap.objs.size 0 .none->h'.get? s.heap.objs.size=some o->(∀b o,s.heap.get? b=some o->h'.get? b=some o)->Q (.ref (s.heap.objs.size+1)) { s with heap:=h' }) :
  wpAny (model prog w) A (call (.type "enumerate") [v]) Q E s:=by
 refine callType_new F.called_enumerate (by decide) (F.typeCall_enumerate_1 _) (F.newCall_enumerate_1 _) (fun ob=>F.args_object_init_2 ob _) F.entry_enumerate_new (afp hB) ⟨hb,?_⟩
 have hz:(s.heap.push o).objs.size=s.heap.objs.size+1:=Heap.size_push ..
 have he:=Heap.get?_push_size (s.heap.push o) (o:={ cls:=.type "enumerate",data:=.fields #[.none,.bool false,.ref s.heap.objs.size,rawInt 0,.none,.none] }) rfl
 show _/\_
 rw[hz]at he ⊢
 exact⟨⟨_,he,rfl⟩,h _ he (Heap.get?_push_of_some _ (Heap.get?_push_size _ hB.free)) fun b u z=>Heap.get?_push_of_some _ (Heap.get?_push_of_some _ z)⟩
theorem alT(hg:Gl X "enumerate")(hm:X.mg "enumerate"=none)(ha:PA X [a] ta)(hs:nst a=true):PI X (.Tuple elts kk tpos) (.Call (.Name "enumerate" p) [a] [] pos) (iEn X.K ta 0):=by
 refine⟨fun pins s σ H R I h=>?_⟩
 refine Call_ (ld_blt I hg hm boot_enumerate (PyProof.Rows.callWith_type1 (thn (ha.run pos pins s σ H _ I h) fun us s1 ⟨vs,H1,I1,r1,x,S,us',ev,hx,hq,q⟩=>?_) (cP hs []) (by with_unfolding_all rfl)))
 subst ev
 obtain⟨v,rfl,r⟩:=vals1 r1
 obtain⟨o,B,hB,hb,hit,hlt⟩:=Src.begins I1 hq hx r
 exact adR hB hb fun h' he ho hk=>agD (x:=x) (v:=v) (us:=us') I1 hlt hit he ho hk q
theorem ael{M:Model}{A:Around}{E:Value->Shared->Prop}{s:Shared}{pos:Pos}{T:String}{args:List (Bool×Sem Value)}{kws:List (Option Str×Sem Value)}{Q:Value->Shared->Prop}(h1:args.any (·.1)=false)(h2:kws.any (·.1.isNone)=false)
  (h:wpAny M A (evalArgs (.type T) true args kws) (fun z s₁=>wpAny M A (call (.type T) z.pos z.kw) Q E s₁) E s):wpAny M A (callWith pos (.type T) [] args kws) Q E s:=by
 unfold callWith
 refine wpAny_bind (wpAny_holding (wpAny_mono h (fun z s₁ hz=>wpAny_bind (wpAny_standAt ?_)) fun _ _ y=>y))
 rw[h1,h2]
 refine wpAny_bind (wpAny_pure ?_)
 exact wpAny_bind (wpAny_mono hz (fun r s₂ hr=>wpAny_bind (wpAny_holding (wpAny_point (wpAny_pure hr)))) fun _ _ y=>y)
theorem aiU{k₀:Int}{j:Nat}{kp kp2:Pos}(hk0 : -(2 ^ 63)<=k₀)(hk1:k₀ < 2 ^ 63)(hg:Gl X "enumerate")(hm:X.mg "enumerate"=none)(ha:PA X [a] ta)(hs:nst a=true) :
  PI X (.Tuple elts kk tpos) (.Call (.Name "enumerate" p) [a] [⟨some "start",.Constant (.int k₀) j kp,kp2⟩] pos) (iEn X.K ta k₀):=by
 refine⟨fun pins s σ H R I h=>?_⟩
 have hpk:PK X [⟨some "start",.Constant (.int k₀) j kp,kp2⟩] (tCons (tC (.int k₀)) tNil):=pk_cons pe_int pk_nil
 refine wpAny_Call_Name_kw (ld_blt I hg hm boot_enumerate (ael (star_any [a] (by simp[hs])) (by with_unfolding_all rfl) ?_))
 refine PyProof.Rows.evalArgs_kw2 (by with_unfolding_all rfl) (thn (ha.run pos pins s σ H _ I h) fun us s1 ⟨vs,H1,I1,r1,x,S,us',ev,hx,hq,q⟩=>?_) (by first | (rw[cP hs];done) | (rw[cP hs];rfl) | rw[cP hs])
 refine thn (hpk.run pos pins s1 σ H1 (fun zs H2=>zs=[.int k₀]/\H2=H1) I1 ⟨rfl,rfl⟩) fun ws s2 ⟨zs,H2,I2,r2,e1,e2⟩=>?_
 subst ev e1 e2
 obtain⟨v,rfl,r⟩:=vals1 r1
 obtain⟨w,rfl,t,rfl⟩:=vals1 r2
 obtain⟨o,B,hB,hb,hit,hlt⟩:=Src.begins I2 hq hx r
 exact enum_begins_start hB hb hk0 hk1 fun h' he ho _ hk=>agD (x:=x) (v:=v) (us:=us') I2 hlt hit he ho hk q
def ItZ(K:arJ)(S T:Src):It:=
 ⟨fun i H=>∃(us ws:List V) (x y:V),S.sq K H us/\T.sq K H ws/\us[i]?=some x/\ws[i]?=some y,fun i H v H'=>∃U x y,v=.ref U/\H U=none/\H'=upd H U (.tup [x,y])/\(∀us,S.sq K H us->us[i]?=some x)/\∀ws,T.sq K H ws->ws[i]?=some y,
  fun i H=>∃us ws:List V,S.sq K H us/\T.sq K H ws/\i=min us.length ws.length⟩
theorem amu{P:Program}{w:World}{K:arJ}{S T:Src}{N:Addr}(h1:∀a∈S.ad,a < N)(h2:∀a∈T.ad,a < N) :
  Turn P w K (.Tuple elts kk tpos) (ItZ K S T) [N+4,N+2,N+3,N,N+1] (N+4) (fun n h=>IsZip h (N+4) (N+2) (N+3) .none/\IsPair h (N+2) (.ref N) (.ref (N+1))/\(∃x y,IsPair h (N+3) x y)/\S.it h N n/\T.it h (N+1) n) where
 mem:=by simp
 obj:=fun n h q c hc=>by
  obtain⟨gz,gI,⟨x,y,gO⟩,i1,i2⟩:=q
  simp only[arZ,asr,or_false]at hc
  rcases hc with rfl|rfl|rfl|rfl|rfl
  ·exact⟨_,gz,fun v q=>nomatch q⟩
  ·exact⟨_,gI,fun v q=>nomatch q⟩
  ·exact⟨_,gO,fun v q=>nomatch q⟩
  ·exact Src.NT i1
  ·exact Src.NT i2
 keep:=fun n h h' q k=>by
  obtain⟨gz,gI,⟨x,y,gO⟩,i1,i2⟩:=q
  exact⟨k _ (by simp) _ gz,k _ (by simp) _ gI,⟨x,y,k _ (by simp) _ gO⟩,Src.NP i1 fun o e=>k _ (by simp) o e,Src.NP i2 fun o e=>k _ (by simp) o e⟩
 item:=by
  intro X hP hw hK hc n pins s σ H E I hf q hg
  subst hP hw hK
  obtain⟨gz,gI,⟨x0,y0,gO⟩,i1,i2⟩:=q
  obtain⟨us,ws,x,y,qx,qy,hx,hy⟩:=hg
  obtain⟨P1,St1,D1,st1,b1,rel1⟩:=Src.draws I (I.ok.hd hc) qx i1 fun a z=>asp (h1 a z)
  obtain⟨P2,St2,D2,st2,b2,rel2⟩:=Src.draws I (I.ok.hd hc) qy i2 fun a z=>asp (asZ (h2 a z))
  have hzl:N+4 < s.heap.objs.size:=Heap.lt_size gz
  refine wpAny_pyNext_zipD2_item (zip_sep2 h1 h2) D1 D2 gz gI gO st1 st2 (arL.mp hx).1 (arL.mp hy).1 fun v1 v2 h' tk p1 p2 z' o' s1 s2 hT hsz hk=>?_
  refine⟨_,rfl,wpAny_letOwnedTupleGo_zip (s:={ s with heap:=h',toks:=tk }) z' fun h'' z'' sb=>?_⟩
  have hT2:=(sb.2 _ (Nat.ne_of_gt hzl)).trans hT
  have new:ObjOk X.prog X.w (upd H s.heap.objs.size (.tup [x,y])) h'' s.heap.objs.size (.tup [x,y]):=⟨by show 2<=sizeLine;decide,[v1,v2],.cons (rel1 n v1 x p1 hx) (.cons (rel2 n v2 y p2 hy) .nil),⟨_,hT2,rfl,_,rfl⟩⟩
  have I1:L2.Inv X pins σ (upd H s.heap.objs.size (.tup [x,y])) { s with heap:=h'',toks:=tk }:=by
   refine I.turnedNew (t':=tk) (ch:=[N+4,N+2,N+3,N,N+1]) (fun c o hb e=>?_) hf (ash _) new
   simp only[arZ,asr,or_false,not_or]at hb
   exact(sb.2 c hb.1).trans (hk c o hb.1 hb.2.2.1 hb.2.2.2.1 hb.2.2.2.2 e)
  have ne4:∀k,k≠4->N+k≠N+4:=fun k hk z=>hk (atf z)
  refine⟨.ref s.heap.objs.size,_,I1,rfl,⟨_,x,y,rfl,I.hok.fresh (ash _),rfl,fun l hl=>by rw[Src.inj I hl qx];exact hx,fun l hl=>by rw[Src.inj I hl qy];exact hy⟩,⟨z'',?_,⟨v1,v2,?_⟩,?_,?_⟩,fun c hcm=>?_⟩
  ·exact(sb.2 _ (ne4 2 (by decide))).trans (hk _ _ (ne4 2 (by decide)) (fun z=>absurd (atf z) (by decide)) (fun z=>absurd (atf (z.trans (Nat.add_zero N).symm)) (by decide)) (fun z=>absurd (atf z) (by decide)) gI)
  ·exact(sb.2 _ (ne4 3 (by decide))).trans o'
  ·exact Src.NP (b1 _ _ s1) fun o e=>(sb.2 _ (ne4 0 (by decide))).trans e
  ·exact Src.NP (b2 _ _ s2) fun o e=>(sb.2 _ (ne4 1 (by decide))).trans e
  ·have hlt:c < s.heap.objs.size:=by
    simp only[arZ,asr,or_false]at hcm
    rcases hcm with rfl|rfl|rfl|rfl|rfl
    ·exact hzl
    ·exact Heap.lt_size gI
    ·exact Heap.lt_size gO
    ·obtain⟨_,e1,_⟩:=Src.NT i1
     exact Heap.lt_size e1
    ·obtain⟨_,e2,_⟩:=Src.NT i2
     exact Heap.lt_size e2
   rw[upd_ne (asp hlt)]
   exact(hf c hcm).1
 done:=by
  intro X hP hw hK hc n pins s σ H E I hf q hg
  subst hP hw hK
  obtain⟨gz,gI,⟨x0,y0,gO⟩,i1,i2⟩:=q
  obtain⟨us,ws,qx,qy,hn⟩:=hg
  obtain⟨P1,St1,D1,st1,b1,rel1⟩:=Src.draws I (I.ok.hd hc) qx i1 fun a z=>asp (h1 a z)
  obtain⟨P2,St2,D2,st2,b2,rel2⟩:=Src.draws I (I.ok.hd hc) qy i2 fun a z=>asp (asZ (h2 a z))
  refine wpAny_pyNext_zipD2_end (zip_sep2 h1 h2) D1 D2 gz gI gO st1 st2 (by omega) (by omega) (by omega) fun h' tk hk=>⟨rfl,?_⟩
  refine I.turnedL (t':=tk) (ch:=[N+4,N+2,N+3,N,N+1]) (fun c o hb e=>?_) hf
  simp only[arZ,asr,or_false,not_or]at hb
  exact hk c o hb.1 hb.2.2.1 hb.2.2.2.1 hb.2.2.2.2 e
 self:=fun A n s Q E q h=>wpAny_pyIter_zip q.1 h
def iZp(K:arJ)(ta:TA):TI:=fun σ H R=>ta σ H fun vs H1=>∃x y S T us ws,vs=[x,y]/\srcOf x S/\srcOf y T/\S.sq K H1 us/\T.sq K H1 ws/\R (ItZ K S T) H1
theorem amr(hg:Gl X "zip")(hm:X.mg "zip"=none)(ha:PA X [a,b] ta)(hs:nst a=true)(hs2:nst b=true):PI X (.Tuple elts kk tpos) (.Call (.Name "zip" p) [a,b] [] pos) (iZp X.K ta):=by
 refine⟨fun pins s σ H R I h=>?_⟩
 refine Call_ (ld_blt I hg hm PyProof.Rows.boot_zip (PyProof.Rows.callWith_type1 (thn (ha.run pos pins s σ H _ I h) fun us s1 ⟨vs,H1,I1,r1,x,y,S,T,us',ws',ev,hx,hy,hq,hq2,q⟩=>?_) (cP hs [b]) (star_any [b] (by simp[hs2]))))
 subst ev
 obtain⟨v1,v2,rfl,rv1,rv2⟩:=vals2 r1
 obtain⟨o1,B1,hB1,hb1,hit1,hlt1⟩:=Src.begins I1 hq hx rv1
 obtain⟨o2,B2,hB2,hb2,hit2,hlt2⟩:=Src.begins I1 hq2 hy rv2
 refine zip_begins2 hB1 hB2 hb1 hb2 fun h' hz hTI hTO e1 e2 hsz hk=>wpAny_pyIter_zip hz ?_
 have I2:L2.Inv X pins σ H1 { s1 with heap:=h' }:=I1.kept (t':=s1.toks) hk
 refine⟨s1.heap.objs.size+4,_,_,_,H1,rfl,I2,amu hlt1 hlt2,⟨hz,hTI,⟨_,_,hTO⟩,hit1 _ _ e1,hit2 _ _ e2⟩,fun c hcm=>?_,q⟩
 have hle:s1.heap.objs.size<=c:=by
  simp only[arZ,asr,or_false]at hcm
  rcases hcm with rfl | rfl | rfl | rfl | rfl <;> first | exact ash _ | exact Nat.le_add_right _ _
 exact I1.fpOk hle (I1.hok.fresh hle)
end
section
variable{K:arJ}{aj:aQ}{q:Bool}{g g':Gh}{H H':Hp}{v:V}{d:Dat}{σ:L2.St}{ρ:Env}{M:Mo}
theorem jE.up{l:Addr}:∀{n:Bool} {kvs:List (Dat×Dat)} (r:Gr true g g' H H') (e:Ex H H') (k:Kd g H) (h:jE K aj g H l n kvs),jE K aj g' H' l n kvs
 |false,_,r,e,k,⟨kv,h1,h2,h3⟩=>⟨kv,e _ _ h1,h2,h3.gr r k⟩
 |true,_,r,e,k,⟨o,xs,vs,h1,h2,h3,h4,h5,h6⟩=>⟨o,xs,vs,e _ _ h1,h2,h3,h4.gr r k,h5,h6.gr r k⟩
theorem dN.up{h:Nat}{f:Str}(r:Gr true g g' H H')(e:Ex H H')(k:Kd g H):∀{fl:jd},dN K aj g H h f v fl->dN K aj g' H' h f v fl
 |.dat _,z=>Rep.gr r k z
 |.lst _ _,⟨l,us,h1,h2,h3,h4,h5⟩=>⟨l,us,h1,e _ _ h2,by rw[(r.qg rfl).2];exact h3,h4.gr r k,r.tb h5⟩
 |.dic _ _,⟨l,h1,h2,h3⟩=>⟨l,h1,by rw[(r.qg rfl).2];exact h2,h3.up r e k⟩
theorem cM.up{h:Nat}(r:Gr true g g' H H')(e:Ex H H')(k:Kd g H):∀{fs:List (Str×V)} {gs:List (Str×jd)},cM K aj g H h fs gs->cM K aj g' H' h fs gs
 |_,_,.nil=>.nil
 |_,_,.cons z t=>.cons (dN.up r e k z) (cM.up r e k t)
theorem fV.up(r:Gr true g g' H H')(e:Ex H H')(k:Kd g H)(w:fV K aj g H M):fV K aj g' H' M where
 len:=by rw[(r.qg rfl).1];exact w.len
 inj:=by rw[(r.qg rfl).1];exact w.inj
 ins:=fun h a i ha hi hc=>by
  rw[(r.qg rfl).1]at ha
  obtain⟨C,dx,fs,c1,c2,c3⟩:=w.ins h a i ha hi hc
  exact⟨C,dx,fs,c1,e _ _ c2,c3.up r e k⟩
 nd:=w.nd
 fd:=w.fd
 tw:=by rw[(r.qg rfl).1,(r.qg rfl).2];exact w.tw
 dm:=w.dm
 nc:=w.nc
theorem SInv.up(r:Gr true g g' H H')(e:Ex H H')(k':Kd g' H')(I:SInv K aj σ H g ρ M):SInv K aj σ H' g' ρ M where
 kd:=k'
 wok:=I.wok.up r e I.kd
 len:=I.len
 dat:=fun i d h=>by
  obtain⟨v,h1,h2⟩:=I.dat i d h
  exact⟨v,h1,h2.gr r I.kd⟩
 own:=fun i xs h=>by
  obtain⟨l,us,h1,h2,h3,h4⟩:=I.own i xs h
  exact⟨l,us,h1,e _ _ h2,r.Lo l h3,h4.gr r I.kd⟩
 sep:=I.sep
def Gh.add(g:Gh)(D:Addr):Gh:={ g with Lo:=fun a=>g.Lo a∨a=D }
theorem Gh.Hq{D:Addr}(n:H D=none)(e:Ex H H'):Gr true g (g.add D) H H' where
 keep:=fun a o h _ _=>e a o h
 keepW:=fun _ a o h _=>e a o h
 dom:=Dj e
 tbl:=⟨[],by simp[Gh.add]⟩
 W:=fun _ h=>h
 nW:=fun _ h=>.inl h
 qg:=fun _=>⟨rfl,rfl⟩
 Lc:=rfl
 Lo:=fun _ h=>.inl h
 nLo:=fun a h=>h.elim .inl fun z=>.inr (by rw[z];exact n)
theorem Gh.ajA{D:Addr}{o:HO}(k:Kd g H)(n:H D=none)(e:Ex H H')(hD:H' D=some o)(m:Ig o):Kd (g.add D) H' where
 ob:=fun a z=>by
  rcases z with z|z|z|z
  ·obtain⟨o,h,m⟩:=k.ob a (.inl z);exact⟨o,e a o h,m⟩
  ·obtain⟨o,h,m⟩:=k.ob a (.inr (.inl z));exact⟨o,e a o h,m⟩
  ·obtain⟨o,h,m⟩:=k.ob a (.inr (.inr z));exact⟨o,e a o h,m⟩
  ·rw[z];exact⟨o,hD,m⟩
 lo:=fun a z=>by
  rcases z with z|z
  ·exact k.lo a z
  ·intro w
   subst z
   exact k.fresh n (.inl w)
 lc:=fun a z=>⟨(k.lc a z).1,fun y=>y.elim (k.lc a z).2 fun y=>by subst y;exact k.fresh n (.inr (.inl z))⟩
theorem SInv.add{D:Addr}{o:HO}(I:SInv K aj σ H g ρ M)(n:H D=none)(e:Ex H H')(hD:H' D=some o)(m:Ig o):SInv K aj σ H' (g.add D) ρ M:=
 I.up (Gh.Hq n e) e (Gh.ajA I.kd n e hD m)
theorem SInv.set{j:Nat}(I:SInv K aj σ H g ρ M)(r:Rep K g H v d):SInv K aj (σ.set j (some v)) H g (ρ.set j (some (.dat d))) M where
 kd:=I.kd
 wok:=I.wok
 len:=by rw[asf,asf];exact I.len
 dat:=fun i e h=>by
  by_cases z:j=i
  ·subst z
   have hj:j < ρ.length:=by
    have:=(arL.mp h).1
    rw[asf]at this
    exact this
   rw[ar3 hj]at h
   cases h
   exact⟨v,by rw[ar3 (by rw[I.len];exact hj)],r⟩
  ·rw[arS z]at h
   obtain⟨u,h1,h2⟩:=I.dat i e h
   exact⟨u,by rw[arS z];exact h1,h2⟩
 own:=fun i xs h=>by
  by_cases z:j=i
  ·subst z
   have hj:j < ρ.length:=by
    have:=(arL.mp h).1
    rw[asf]at this
    exact this
   rw[ar3 hj]at h
   cases h
  ·rw[arS z]at h
   obtain⟨l,us,h1,h2⟩:=I.own i xs h
   exact⟨l,us,by rw[arS z];exact h1,h2⟩
 sep:=fun i k xs ys l ne h1 h2 h3=>by
  have nj:∀{i:Nat} {xs:List Dat},(ρ.set j (some (.dat d)))[i]?=some (some (.mut xs))->j≠i:=fun {i xs} h z=>by
   subst z
   have hj:j < ρ.length:=by
    have:=(arL.mp h).1
    rw[asf]at this
    exact this
   rw[ar3 hj]at h
   cases h
  have n1:=nj h1
  have n2:=nj h2
  rw[arS n1]at h1 h3
  rw[arS n2]at h2
  rw[arS n2]
  exact I.sep i k xs ys l ne h1 h2 h3
theorem SInv.forget{j:Nat}(I:SInv K aj σ H g ρ M):SInv K aj (σ.set j none) H g (ρ.set j none) M where
 kd:=I.kd
 wok:=I.wok
 len:=by rw[asf,asf];exact I.len
 dat:=fun i e h=>by
  by_cases z:j=i
  ·subst z
   have hj:j < ρ.length:=by
    have:=(arL.mp h).1
    rw[asf]at this
    exact this
   rw[ar3 hj]at h
   cases h
  ·rw[arS z]at h ⊢
   exact I.dat i e h
 own:=fun i xs h=>by
  by_cases z:j=i
  ·subst z
   have hj:j < ρ.length:=by
    have:=(arL.mp h).1
    rw[asf]at this
    exact this
   rw[ar3 hj]at h
   cases h
  ·rw[arS z]at h ⊢
   exact I.own i xs h
 sep:=fun i k xs ys l ne h1 h2 h3=>by
  have nj:∀{i:Nat} {xs:List Dat},(ρ.set j none)[i]?=some (some (.mut xs))->j≠i:=fun {i xs} h z=>by
   subst z
   have hj:j < ρ.length:=by
    have:=(arL.mp h).1
    rw[asf]at this
    exact this
   rw[ar3 hj]at h
   cases h
  have n1:=nj h1
  have n2:=nj h2
  rw[arS n1]at h1 h3
  rw[arS n2]at h2
  rw[arS n2]
  exact I.sep i k xs ys l ne h1 h2 h3
def bZ(ρ:Env):List Nat->Env
 |[]=>ρ
 |j::js=>(bZ ρ js).set j none
theorem SInv.wipe(I:SInv K aj σ H g ρ M):∀vs:List Nat,SInv K aj (L2.wipe σ vs) H g (bZ ρ vs) M
 |[]=>I
 |j::js=>(SInv.wipe I js).forget
end
abbrev fU:=Dat->Env->Option Env
def aF(j:Nat):fU:=fun d ρ=>some (ρ.set j (some (.dat d)))
def rA:List Nat->List Dat->Env->Option Env
 |[],[],ρ=>some ρ
 |j::js,d::ds,ρ=>rA js ds (ρ.set j (some (.dat d)))
 |_,_,_=>none
def bA(js:List Nat):fU:=fun d ρ=>match d with
 |.tuple ds=>rA js ds ρ
 |_=>none
def sets(σ:L2.St):List Nat->List V->L2.St
 |j::js,v::vs=>sets (σ.set j (some v)) js vs
 |_,_=>σ
def zW(K:arJ)(aj:aQ)(js:List Nat)(f:fU):TG:=fun v σ H Q=>∃g ρ M d ρ',SInv K aj σ H g ρ M/\Rep K g H v d/\f d ρ=some ρ'/\∀vs,SInv K aj (sets σ js vs) H g ρ' M->Q (sets σ js vs) H
def QG(aj:aQ)(X:Cx)(tg:Expr)(js:List Nat)(f:fU):Prop:=PG X tg (zW X.K aj js f)
theorem PG.weak{X:Cx}{e:Expr}{t t':TG}(h:PG X e t)(k:∀v σ H Q,t' v σ H Q->t v σ H Q):PG X e t':=⟨fun pins s σ H v u Q I r q=>h.run pins s σ H v u Q I r (k v σ H Q q)⟩
section
variable{X:Cx}{aj:aQ}{pos:Pos}
theorem Vm{j:Nat}{x:Str}(hN:X.N.Nodup)(hi:X.N[j]?=some x)(hx:Loc X.env.scope x)(hf:X.fn x=true∨X.env.scope.names.lookup x=some .local):QG aj X (.Name x pos) [j] (aF j):=
 PG.weak (pg_name hN hi hx hf) fun v σ H Q ⟨g,ρ,M,d,ρ',I,r,e,q⟩=>by
  cases e
  exact q [v] (I.set r)
def SN(X:Cx):List Expr->List Nat->Prop
 |[],[]=>True
 |.Name x _::es,j::js=>X.N[j]?=some x/\Loc X.env.scope x/\(X.fn x=true∨X.env.scope.names.lookup x=some .local)/\SN X es js
 |_,_=>False
theorem agj{es:List Expr}{js:List Nat}(h:SN X es js):(assignEach es X.env).length=js.length/\(assignEach es X.env).findIdx? (·.1)=none:=by
 induction es generalizing js with
 |nil=>
  cases js with
  |nil=>exact⟨by with_unfolding_all rfl,by with_unfolding_all rfl⟩
  |cons j js=>exact False.elim h
 |cons e es ih=>
  cases js with
  |nil=>cases e <;> exact False.elim h
  |cons j js=>
   cases e with
   |Name x p=>
    obtain⟨h1,h2⟩:=ih h.2.2.2
    have e1:assignEach (.Name x p::es) X.env=(false,assign (.Name x p) X.env)::assignEach es X.env:=by with_unfolding_all rfl
    rw[e1]
    refine⟨by simp[h1],?_⟩
    rw[List.findIdx?_cons,h2]
    rfl
   |_=>exact False.elim h
def gNs(js:List Nat):TGs:=fun vs σ H Q=>vs.length=js.length/\Q (sets σ js vs) H
theorem WY(hN:X.N.Nodup):∀{es:List Expr} {js:List Nat},SN X es js->PGs X es (gNs js)
 |[],[],_=>⟨fun pins s σ H vs us Q I r h=>by
  obtain⟨e,h⟩:=h
  have:vs=[]:=List.length_eq_zero_iff.mp e
  subst this
  exact pgs_nil.run pins s σ H [] us Q I r ⟨rfl,h⟩⟩
 |.Name x p::es,j::js,h=>by
  have hp:=pgs_cons (pg_name (pos:=p) hN h.1 h.2.1 h.2.2.1) (WY hN h.2.2.2) (by with_unfolding_all rfl)
  refine⟨fun pins s σ H vs us Q I r hq=>?_⟩
  obtain⟨e,hq⟩:=hq
  cases vs with
  |nil=>cases e
  |cons v vs=>exact hp.run pins s σ H (v::vs) us Q I r ⟨v,vs,rfl,asK e,hq⟩
 |[],_::_,h=>False.elim h
 |.Name _ _::_,[],h=>False.elim h
theorem Iw{K:arJ}{g:Gh}{H:Hp}{M:Mo}:∀{js:List Nat} {ds:List Dat} {vs:List V} {σ:L2.St} {ρ ρ':Env},SInv K aj σ H g ρ M->aJ K g H vs ds->rA js ds ρ=some ρ'->vs.length=js.length/\SInv K aj (sets σ js vs) H g ρ' M
 |[],_,_,_,_,_,I,.nil,e=>by cases e;exact⟨rfl,I⟩
 |[],_,_,_,_,_,I,.cons _ _,e=>by cases e
 |j::js,_,_,_,_,_,I,.nil,e=>by cases e
 |j::js,_,_,_,_,_,I,.cons r t,e=>by
  obtain⟨h1,h2⟩:=Iw (js:=js) (I.set (j:=j) r) t e
  exact⟨by simp[h1],h2⟩
theorem aeR{es:List Expr}{js:List Nat}{k:Nat}(hc:X.calm=true)(hN:X.N.Nodup)(h:SN X es js):QG aj X (.Tuple es k pos) js (bA js):=by
 obtain⟨h1,h2⟩:=agj h
 refine PG.weak (pg_tup (n:=js.length) hc (WY hN h) h1 h2) fun v σ H Q ⟨g,ρ,M,d,ρ',I,r,e,q⟩=>?_
 unfold bA at e
 split at e
 ·obtain⟨a,us,rfl,s1,t1⟩:=kE r.weak
  obtain⟨l1,I1⟩:=Iw I t1 e
  exact⟨a,us,rfl,s1,l1,l1,q us I1⟩
 ·cases e
theorem zP:∀(js:List Nat) (vs:List V) (σ:L2.St) (ws:List Nat),(∀j∈js,j∈ws)->L2.wipe (sets σ js vs) ws=L2.wipe σ ws
 |[],_,_,_,_=>by unfold sets;rfl
 |_::_,[],_,_,_=>by unfold sets;rfl
 |j::js,v::vs,σ,ws,h=>by
  show L2.wipe (sets (σ.set j (some v)) js vs) ws=_
  rw[zP js vs _ ws fun k hk=>h k (arO _ hk)]
  have hj:j∈ws:=h j arP
  have key:∀(ws:List Nat) (σ:L2.St),j∈ws->L2.wipe (σ.set j (some v)) ws=L2.wipe σ ws:=by
   intro ws
   induction ws with
   |nil=>intro σ z;cases z
   |cons k ws ih=>
    intro σ z
    show(L2.wipe (σ.set j (some v)) ws).set k none=(L2.wipe σ ws).set k none
    by_cases hk:j∈ws
    ·rw[ih σ hk]
    ·have e:j=k:=by
      rcases arZ.mp z with z|z
      ·exact z
      ·exact absurd z hk
     subst e
     have comm:∀(ws:List Nat),j∉ws->L2.wipe (σ.set j (some v)) ws=(L2.wipe σ ws).set j (some v):=by
      intro ws
      induction ws with
      |nil=>intro _;rfl
      |cons m ws ih2=>
       intro hm
       show(L2.wipe (σ.set j (some v)) ws).set m none=((L2.wipe σ ws).set m none).set j (some v)
       rw[ih2 fun z=>hm (arO _ z),List.set_comm _ _ (fun z=>hm (by rw[z];exact arP))]
     rw[comm ws hk,List.set_set]
  exact key ws σ hj
end
structure JL(K:arJ)(J:It)(C:Gh->Hp->Prop)(ds:List Dat):Prop where
 go:∀g i H,C g H->i < ds.length->J.go i H
 yld:∀g i H x H' d,Kd g H->C g H->ds[i]?=some d->J.yld i H x H'->Ex H H'/\Rep K g H' x d
 stop:∀g i H,C g H->i=ds.length->J.stop i H
 ex:∀g H H',Kd g H->C g H->Ex H H'->C g H'
 add:∀g g' H H',Kd g H->C g H->Gr true g g' H H'->Ex H H'->C g' H'
def acH(C:Gh->Hp->Prop):Prop:=∀q g g' H H',Kd g H->C g H->Gr q g g' H H'->C g' H'
abbrev IF:=Mo->Env->Out (List Dat)
def tI(K:arJ)(aj:aQ)(W:WX)(firm:Bool)(f:IF):TI:=fun σ H R=>∃g ρ M,SInv K aj σ H g ρ M/\(f M ρ).sat (fun ds=>∀J C H',Ex H H'->JL K J C ds->C g H'->(firm=true->acH C)->R J H') (qO K aj W g H σ)
def QI(aj:aQ)(X:Cx)(W:WX)(firm:Bool)(tg e:Expr)(f:IF):Prop:=PI X tg e (tI X.K aj W firm f)
def aay(x:Str):List Dat:=x.cps.toList.map fun c=>.str ⟨#[c]⟩
def oA:Dat->Out (List Dat)
 |.list ds=>.ok ds
 |.tuple ds=>.ok ds
 |.str x=>.ok (aay x)
 |_=>.bad
def cX(a:QF):IF:=fun M ρ=>(a M ρ).bind oA
def Src.cw(K:arJ)(S:Src)(ds:List Dat)(g:Gh)(H:Hp):Prop:=∃us,S.sq K H us/\aJ K g H us ds
def Src.cf(K:arJ)(S:Src)(ds:List Dat)(g:Gh)(H:Hp):Prop:=∃us,(match S with
 |.lst a=>Qo K g H a us
 |.tup a=>SqT K H a us
 |.str x=>us=chars x)/\aJ K g H us ds
section
variable{K:arJ}{g g':Gh}{H H':Hp}{ds es:List Dat}{S T:Src}
theorem Src.al2{us:List V}(e:Ex H H')(h:S.sq K H us):S.sq K H' us:=by
 cases S with
 |lst a=>exact ex_l e h
 |tup a=>exact ex_t e h
 |str x=>exact h
theorem Src.ach(h:S.cf K ds g H):S.cw K ds g H:=by
 obtain⟨us,h1,h2⟩:=h
 refine⟨us,?_,h2⟩
 cases S with
 |lst a=>exact Qo.sq h1
 |tup a=>exact h1
 |str x=>exact h1
theorem Src.uE:acH (S.cf K ds):=fun q g g' H H' k ⟨us,h1,h2⟩ r=>by
 refine⟨us,?_,h2.gr r k⟩
 cases S with
 |lst a=>exact r.ls h1
 |tup a=>exact r.sqT k h1
 |str x=>exact h1
theorem Src.Mh(k:Kd g H)(h:S.cw K ds g H)(r:Gr true g g' H H')(e:Ex H H'):S.cw K ds g' H':=by
 obtain⟨us,h1,h2⟩:=h
 exact⟨us,Src.al2 e h1,h2.gr r k⟩
theorem Src.X8(k:Kd g H)(h:S.cw K ds g H)(e:Ex H H'):S.cw K ds g H':=Src.Mh k h (Gr.ex e) e
end
section
variable{K:arJ}{ds es:List Dat}{S T:Src}
def ItS(K:arJ):Src->It
 |.lst a=>Itl K a
 |.tup a=>Itt K a
 |.str x=>Its x
theorem Es{g:Gh}{H:Hp}(x:Str):aJ K g H (chars x) (aay x):=by
 unfold chars aay
 induction x.cps.toList with
 |nil=>exact .nil
 |cons c cs ih=>exact .cons (.str _) ih
theorem JL.of{J:It}{C C':Gh->Hp->Prop}(w:JL K J C ds)(h:∀g H,C' g H->C g H)(e:∀g H H',Kd g H->C' g H->Ex H H'->C' g H')(a:∀g g' H H',Kd g H->C' g H->Gr true g g' H H'->Ex H H'->C' g' H'):JL K J C' ds where
 go:=fun g i H c hi=>w.go g i H (h g H c) hi
 yld:=fun g i H x H' d k c e y=>w.yld g i H x H' d k (h g H c) e y
 stop:=fun g i H c e=>w.stop g i H (h g H c) e
 ex:=e
 add:=a
theorem abn:JL K (ItS K S) (S.cw K ds) ds where
 go:=fun g i H ⟨us,h1,h2⟩ hi=>by
  have hx:us[i]?=some (us[i]'(by rw[h2.length];exact hi)):=arM _
  cases S with
  |lst a=>exact⟨us,_,h1,hx⟩
  |tup a=>exact⟨us,_,h1,hx⟩
  |str x=>
   show i < x.cps.size
   have:=h2.length
   rw[show us=chars x from h1]at this
   unfold chars at this
   rw[arT,asu]at this
   omega
 yld:=fun g i H x H' d k ⟨us,h1,h2⟩ e y=>by
  obtain⟨v,hv,rv⟩:=h2.get e
  cases S with
  |lst a=>
   obtain⟨rfl,y⟩:=y
   have:x=v:=ar8 ((y us h1).symm.trans hv)
   rw[this]
   exact⟨Ex.refl _,rv⟩
  |tup a=>
   obtain⟨rfl,y⟩:=y
   have:x=v:=ar8 ((y us h1).symm.trans hv)
   rw[this]
   exact⟨Ex.refl _,rv⟩
  |str z=>
   obtain⟨rfl,c,hc,rfl⟩:=y
   rw[show us=chars z from h1]at hv
   unfold chars at hv
   rw[arY,asC,hc]at hv
   cases hv
   exact⟨Ex.refl _,rv⟩
 stop:=fun g i H ⟨us,h1,h2⟩ e=>by
  have hl:=h2.length
  cases S with
  |lst a=>exact⟨us,h1,by omega⟩
  |tup a=>exact⟨us,h1,by omega⟩
  |str x=>
   show x.cps.size<=i
   rw[show us=chars x from h1]at hl
   unfold chars at hl
   rw[arT,asu]at hl
   omega
 ex:=fun g H H' k h e=>Src.X8 k h e
 add:=fun g g' H H' k h r e=>Src.Mh k h r e
def lE(k₀:Int)(ds:List Dat):List Dat:=ds.mapIdx fun i d=>.tuple [.int (k₀+(i:Int)),d]
theorem afe{k₀:Int}:JL K (ItE K S k₀) (S.cw K ds) (lE k₀ ds) where
 go:=fun g i H ⟨us,h1,h2⟩ hi=>by
  have hl:i < us.length:=by
   rw[h2.length]
   unfold lE at hi
   rw[List.length_mapIdx]at hi
   exact hi
  exact⟨us,us[i],h1,arM hl⟩
 yld:=fun g i H x H' d k ⟨us,h1,h2⟩ e y=>by
  unfold lE at e
  rw[asy]at e
  cases hd:ds[i]? with
  |none=>rw[hd]at e;cases e
  |some d0=>
   rw[hd]at e
   cases e
   obtain⟨v,hv,rv⟩:=h2.get hd
   obtain⟨T,x0,rfl,nT,rfl,y⟩:=y
   have:x0=v:=ar8 ((y us h1).symm.trans hv)
   subst this
   exact⟨Ex.new nT,.tup (st_of upd_same) (.cons (.int _) (.cons (rv.ex (Ex.new nT) k) .nil))⟩
 stop:=fun g i H ⟨us,h1,h2⟩ e=>by
  unfold lE at e
  rw[List.length_mapIdx,←h2.length]at e
  exact⟨us,h1,e.symm⟩
 ex:=fun g H H' k h e=>Src.X8 k h e
 add:=fun g g' H H' k h r e=>Src.Mh k h r e
def xO(ds es:List Dat):List Dat:=List.zipWith (fun d e=>.tuple [d,e]) ds es
theorem abS:JL K (ItZ K S T) (fun g H=>S.cw K ds g H/\T.cw K es g H) (xO ds es) where
 go:=fun g i H ⟨⟨us,h1,h2⟩,⟨ws,h3,h4⟩⟩ hi=>by
  unfold xO at hi
  rw[List.length_zipWith,←h2.length,←h4.length]at hi
  exact⟨us,ws,us[i],ws[i],h1,h3,arM (by omega),arM (by omega)⟩
 yld:=fun g i H x H' d k ⟨⟨us,h1,h2⟩,⟨ws,h3,h4⟩⟩ e y=>by
  unfold xO at e
  rw[List.getElem?_zipWith]at e
  cases hd:ds[i]? with
  |none=>rw[hd]at e;cases e
  |some d0=>
   cases he:es[i]? with
   |none=>rw[hd,he]at e;cases e
   |some e0=>
    rw[hd,he]at e
    cases e
    obtain⟨v,hv,rv⟩:=h2.get hd
    obtain⟨u,hu,ru⟩:=h4.get he
    obtain⟨U,x0,y0,rfl,nU,rfl,y1,y2⟩:=y
    have:x0=v:=ar8 ((y1 us h1).symm.trans hv)
    subst this
    have:y0=u:=ar8 ((y2 ws h3).symm.trans hu)
    subst this
    exact⟨Ex.new nU,.tup (st_of upd_same) (.cons (rv.ex (Ex.new nU) k) (.cons (ru.ex (Ex.new nU) k) .nil))⟩
 stop:=fun g i H ⟨⟨us,h1,h2⟩,⟨ws,h3,h4⟩⟩ e=>by
  unfold xO at e
  rw[List.length_zipWith,←h2.length,←h4.length]at e
  exact⟨us,ws,h1,h3,e⟩
 ex:=fun g H H' k h e=>⟨Src.X8 k h.1 e,Src.X8 k h.2 e⟩
 add:=fun g g' H H' k h r e=>⟨Src.Mh k h.1 r e,Src.Mh k h.2 r e⟩
def iH(lo:Int)(n:Nat):List Dat:=(List.range n).map fun(i:Nat)=>.int (lo+(i:Int))
theorem WR{lo:Int}{n:Nat}:JL K (Itr lo n) (fun _ _=>True) (iH lo n) where
 go:=fun g i H _ hi=>by
  unfold iH at hi
  rw[arT,List.length_range]at hi
  exact hi
 yld:=fun g i H x H' d k _ e y=>by
  obtain⟨rfl,rfl⟩:=y
  unfold iH at e
  rw[arY]at e
  cases hr:(List.range n)[i]? with
  |none=>rw[hr]at e;cases e
  |some j=>
   rw[hr]at e
   cases e
   have:j=i:=by
    obtain⟨h1,h2⟩:=arL.mp hr
    rw[List.getElem_range]at h2
    exact h2.symm
   subst this
   exact⟨Ex.refl _,.int _⟩
 stop:=fun g i H _ e=>by
  unfold iH at e
  rw[arT,List.length_range]at e
  show n<=i
  omega
 ex:=fun _ _ _ _ _ _=>trivial
 add:=fun _ _ _ _ _ _ _ _=>trivial
end
section
variable{X:Cx}{aj:aQ}{W:WX}{tg a b:Expr}{fa fb:QF}{pos p tpos:Pos}{elts:List Expr}{kk:Nat}
theorem Nt{K:arJ}{g:Gh}{H:Hp}{v:V}{d:Dat}{ds:List Dat}{firm:Bool}(r:if firm=true then Rep K g H v d else dY K g H v d)(h:oA d=.ok ds):∃S,srcOf v S/\S.cw K ds g H/\(firm=true->S.cf K ds g H):=by
 have rw:dY K g H v d:=by
  cases firm with
  |true=>exact Rep.weak r
  |false=>exact r
 cases d with
 |list es=>
  cases h
  obtain⟨l,us,rfl,h1,h2⟩:=jk rw
  refine⟨.lst l,.inl ⟨l,rfl,rfl,.inl rfl⟩,⟨us,h1,h2⟩,fun z=>?_⟩
  subst z
  have r:Rep K g H (.ref l) (.list ds):=r
  cases r with
  |lst h3 h4=>exact⟨_,h3,h4⟩
 |tuple es=>
  cases h
  obtain⟨l,us,rfl,h1,h2⟩:=kE rw
  exact⟨.tup l,.inl ⟨l,rfl,rfl,.inr rfl⟩,⟨us,h1,h2⟩,fun _=>⟨us,h1,h2⟩⟩
 |str x=>
  cases h
  cases jQ rw
  exact⟨.str x,.inr ⟨x,rfl,rfl⟩,⟨_,rfl,Es x⟩,fun _=>⟨_,rfl,Es x⟩⟩
 |_=>cases h
def tF(K:arJ)(aj:aQ)(W:WX)(firm:Bool)(f:QF):TE:=if firm=true then tQ K aj W f else tW K aj W f
def QF'(aj:aQ)(X:Cx)(W:WX)(firm:Bool)(e:Expr)(f:QF):Prop:=PE X e (tF X.K aj W firm f)
theorem tF.go{K:arJ}{firm:Bool}{g:Gh}{H:Hp}{σ:L2.St}{ρ:Env}{M:Mo}{f:QF}{k:Dat->Prop}{Q:VK}(I:SInv K aj σ H g ρ M)(h:(f M ρ).sat k (qO K aj W g H σ))(hk:∀d v H',k d->Ex H H'->(if firm=true then Rep K g H' v d else dY K g H' v d)->Q v H'):tF K aj W firm f σ H Q:=by
 cases firm with
 |true=>exact tQ.go I h hk
 |false=>exact tW.go I h hk
theorem alI{K:arJ}{firm:Bool}{g:Gh}{H H':Hp}{v:V}{d:Dat}(e:Ex H H')(k:Kd g H)(r:if firm=true then Rep K g H v d else dY K g H v d):if firm=true then Rep K g H' v d else dY K g H' v d:=by
 cases firm with
 |true=>exact Rep.ex e k r
 |false=>exact dY.ex e k r
theorem wf{K:arJ}{S:Src}{firm:Bool}{J:It}{ds es:List Dat}{R:It->Hp->Prop}{g:Gh}{H H1:Hp}(h:∀J C H',Ex H H'->JL K J C ds->C g H'->(firm=true->acH C)->R J H')(e1:Ex H H1)(w:JL K J (S.cw K es) ds)(hw:S.cw K es g H1)(hf:firm=true->S.cf K es g H1):R J H1:=by
 cases firm with
 |true=>exact h J (S.cf K es) H1 e1 (w.of (fun _ _ z=>Src.ach z) (fun g H H' k c e=>Src.uE true g g H H' k c (Gr.ex e)) fun g g' H H' k c r e=>Src.uE true g g' H H' k c r) (hf rfl) fun _=>Src.uE
 |false=>exact h J (S.cw K es) H1 e1 w hw fun z=>nomatch z
theorem Zk{firm:Bool}(ha:QF' aj X W firm a fa):QI aj X W firm tg a (cX fa):=by
 refine⟨fun pins s σ H R I h=>?_⟩
 obtain⟨g,ρ,M,SI,hs⟩:=h
 have hs:=hs.bnd
 have fin:∀(S:Src) (x:V) (H1:Hp) (ds:List Dat),(∀J C H',Ex H H'->JL X.K J C ds->C g H'->(firm=true->acH C)->R J H')->Ex H H1->S.cw X.K ds g H1->(firm=true->S.cf X.K ds g H1)->R (ItS X.K S) H1:=fun S x H1 ds h e1 hw hf=>wf h e1 abn hw hf
 cases hfa:fa M ρ with
 |bad=>rw[hfa]at hs;exact False.elim hs
 |exc x=>
  rw[hfa]at hs
  exact(pi_list ha).run pins s σ H R I (tF.go (k:=fun _=>False) SI (by rw[hfa];exact hs) fun d v H' z=>False.elim z)
 |ok d=>
  rw[hfa]at hs
  cases d with
  |list ds=>
   refine(pi_list ha).run pins s σ H R I (tF.go (k:=fun z=>z=.list ds) SI (by rw[hfa];rfl) fun d v H' z e1 r=>?_)
   subst z
   obtain⟨S,hS,hw,hf⟩:=Nt (firm:=firm) r (ds:=ds) rfl
   have rw:dY X.K g H' v (.list ds):=by
    cases firm with
    |true=>exact Rep.weak r
    |false=>exact r
   obtain⟨l,us,rfl,h1,h2⟩:=jk rw
   refine⟨l,rfl,⟨us,h1⟩,?_⟩
   rcases hS with⟨a',e,ha',hl|ht⟩|⟨y,_,e⟩
   ·cases e
    subst hl
    exact fin (.lst l) (.ref l) H' ds hs e1 hw hf
   ·cases e
    subst ht
    refine wf (S:=.lst l) hs e1 (abn (S:=.lst l)) ⟨us,h1,h2⟩ fun z=>?_
    subst z
    have r:Rep X.K g H' (.ref l) (.list ds):=r
    cases r with
    |lst h3 h4=>exact⟨_,h3,h4⟩
   ·cases e
  |tuple ds=>
   refine(pi_tup ha).run pins s σ H R I (tF.go (k:=fun z=>z=.tuple ds) SI (by rw[hfa];rfl) fun d v H' z e1 r=>?_)
   subst z
   have rw:dY X.K g H' v (.tuple ds):=by
    cases firm with
    |true=>exact Rep.weak r
    |false=>exact r
   obtain⟨l,us,rfl,h1,h2⟩:=kE rw
   exact⟨l,rfl,⟨us,h1⟩,fin (.tup l) (.ref l) H' ds hs e1 ⟨us,h1,h2⟩ fun _=>⟨us,h1,h2⟩⟩
  |str x=>
   refine(pi_str ha).run pins s σ H R I (tF.go (k:=fun z=>z=.str x) SI (by rw[hfa];rfl) fun d v H' z e1 r=>?_)
   subst z
   have rw:dY X.K g H' v (.str x):=by
    cases firm with
    |true=>exact Rep.weak r
    |false=>exact r
   cases jQ rw
   exact⟨x,rfl,fin (.str x) (.str x) H' _ hs e1 ⟨_,rfl,Es x⟩ fun _=>⟨_,rfl,Es x⟩⟩
  |_=>exact False.elim hs
def wB(a:QF):IF:=fun M ρ=>(a M ρ).bind fun d=>(Bf d).bind fun n=>Out.when (decide (n<=100000/\-100000<=n)) (.ok (iH 0 n.toNat))
def Cj(a b:QF):IF:=fun M ρ=>(a M ρ).bind fun d=>(b M ρ).bind fun e=>(Bf d).bind fun lo=>(Bf e).bind fun n=>Out.when (decide (n<=100000/\-100000<=n/\lo<=100000/\-100000<=lo)) (.ok (iH lo (n - lo).toNat))
def uK(k₀:Int)(a:QF):IF:=fun M ρ=>(a M ρ).bind fun d=>(oA d).bind fun ds=>.ok (lE k₀ ds)
def Fe(a b:QF):IF:=fun M ρ=>(a M ρ).bind fun d=>(b M ρ).bind fun e=>(oA d).bind fun ds=>(oA e).bind fun es=>.ok (xO ds es)
theorem adS{firm:Bool}(hg:Gl X "range")(hm:X.mg "range"=none)(ha:QW aj X W a fa)(hs:nst a=true):QI aj X W firm tg (.Call (.Name "range" p) [a] [] pos) (wB fa):=by
 refine⟨fun pins s σ H R I h=>?_⟩
 refine(pi_range1 hg hm (pa_cons ha pa_nil (cP hs [])) (cP hs [])).run pins s σ H R I ?_
 obtain⟨g,ρ,M,SI,h⟩:=h
 refine tW.go SI h.bnd fun d v H1 h1 e1 r1=>?_
 have h1:=h1.bnd
 unfold Bf at h1
 split at h1
 ·obtain⟨hz,h1⟩:=h1.pY
  have hz:=of_decide_eq_true hz
  cases cH r1
  exact⟨_,rfl,by omega,by omega,h1 _ _ H1 e1 WR trivial fun _=>fun _ _ _ _ _ _ _ _=>trivial⟩
 ·exact False.elim h1
theorem adG{firm:Bool}(hg:Gl X "range")(hm:X.mg "range"=none)(ha:QW aj X W a fa)(hb:QW aj X W b fb)(hs:nst a=true)(hs2:nst b=true):QI aj X W firm tg (.Call (.Name "range" p) [a,b] [] pos) (Cj fa fb):=by
 refine⟨fun pins s σ H R I h=>?_⟩
 refine(pi_range2 hg hm (pa_cons ha (pa_cons hb pa_nil (cP hs2 [])) (cP hs [b])) (by rw[cP hs,cP hs2];rfl) (cP hs2 [])).run pins s σ H R I ?_
 obtain⟨g,ρ,M,SI,h⟩:=h
 refine tW.go SI h.bnd fun d v H1 h1 e1 r1=>?_
 refine tW.go (SI.ex e1) (h1.bnd.mono (fun _ z=>z) fun _ z=>z.ex e1) fun d2 v2 H2 h2 e2 r2=>?_
 have h2:=h2.bnd
 unfold Bf at h2
 split at h2
 ·have h2:=Out.sat.bnd h2
  split at h2
  ·obtain⟨hz,h2⟩:=Out.sat.pY h2
   have hz:=of_decide_eq_true hz
   cases cH r1
   cases cH r2
   exact⟨_,_,rfl,⟨by omega,by omega,by omega,by omega⟩,h2 _ _ H2 (e1.trans e2) WR trivial fun _=>fun _ _ _ _ _ _ _ _=>trivial⟩
  ·exact False.elim h2
 ·exact False.elim h2
theorem agU{firm:Bool}{k₀:Int}(σ:L2.St)(H:Hp)(R:It->Hp->Prop)(h:tI X.K aj W firm (uK k₀ fa) σ H R):iEn X.K (tCons (tF X.K aj W firm fa) tNil) k₀ σ H R:=by
 obtain⟨g,ρ,M,SI,h⟩:=h
 refine tF.go SI h.bnd fun d v H1 h1 e1 r1=>?_
 cases hd:oA d with
 |bad=>rw[hd]at h1;exact False.elim h1
 |exc x=>cases d <;> cases hd
 |ok ds=>
  rw[hd]at h1
  obtain⟨S,hS,hw,hf⟩:=Nt r1 hd
  exact⟨v,S,_,rfl,hS,hw.choose_spec.1,wf h1 e1 afe hw hf⟩
theorem agX{firm:Bool}(hg:Gl X "enumerate")(hm:X.mg "enumerate"=none)(ha:QF' aj X W firm a fa)(hs:nst a=true):QI aj X W firm (.Tuple elts kk tpos) (.Call (.Name "enumerate" p) [a] [] pos) (uK 0 fa):=
 ⟨fun pins s σ H R I h=>(alT hg hm (pa_cons ha pa_nil (cP hs [])) hs).run pins s σ H R I (agU σ H R h)⟩
theorem afu{firm:Bool}{k₀:Int}{j:Nat}{kp kp2:Pos}(hk0 : -(2 ^ 63)<=k₀)(hk1:k₀ < 2 ^ 63)(hg:Gl X "enumerate")(hm:X.mg "enumerate"=none)(ha:QF' aj X W firm a fa)(hs:nst a=true):QI aj X W firm (.Tuple elts kk tpos) (.Call (.Name "enumerate" p) [a] [⟨some "start",.Constant (.int k₀) j kp,kp2⟩] pos) (uK k₀ fa):=
 ⟨fun pins s σ H R I h=>(aiU hk0 hk1 hg hm (pa_cons ha pa_nil (cP hs [])) hs).run pins s σ H R I (agU σ H R h)⟩
theorem aiT{firm:Bool}(hg:Gl X "zip")(hm:X.mg "zip"=none)(ha:QF' aj X W firm a fa)(hb:QF' aj X W firm b fb)(hs:nst a=true)(hs2:nst b=true):QI aj X W firm (.Tuple elts kk tpos) (.Call (.Name "zip" p) [a,b] [] pos) (Fe fa fb):=by
 refine⟨fun pins s σ H R I h=>(amr hg hm (pa_cons ha (pa_cons hb pa_nil (cP hs2 [])) (cP hs [b])) hs hs2).run pins s σ H R I ?_⟩
 obtain⟨g,ρ,M,SI,h⟩:=h
 refine tF.go SI h.bnd fun d v H1 h1 e1 r1=>?_
 refine tF.go (SI.ex e1) (h1.bnd.mono (fun _ z=>z) fun _ z=>z.ex e1) fun d2 v2 H2 h2 e2 r2=>?_
 cases hd:oA d with
 |bad=>rw[hd]at h2;exact False.elim h2
 |exc x=>cases d <;> cases hd
 |ok ds=>
  cases he:oA d2 with
  |bad=>rw[hd,he]at h2;exact False.elim h2
  |exc x=>cases d2 <;> cases he
  |ok es=>
   rw[hd,he]at h2
   obtain⟨S,hS,hw,hf⟩:=Nt (alI e2 (SI.ex e1).kd r1) hd
   obtain⟨T,hT,hw2,hf2⟩:=Nt r2 he
   refine⟨v,v2,S,T,_,_,rfl,hS,hT,hw.choose_spec.1,hw2.choose_spec.1,?_⟩
   cases firm with
   |true=>exact h2 _ (fun g H=>S.cf X.K ds g H/\T.cf X.K es g H) H2 (e1.trans e2) (abS.of (fun _ _ z=>⟨Src.ach z.1,Src.ach z.2⟩) (fun g H H' k c e=>⟨Src.uE true g g H H' k c.1 (Gr.ex e),Src.uE true g g H H' k c.2 (Gr.ex e)⟩) fun g g' H H' k c r e=>⟨Src.uE true g g' H H' k c.1 r,Src.uE true g g' H H' k c.2 r⟩) ⟨hf rfl,hf2 rfl⟩ fun _=>fun q g g' H H' k c r=>⟨Src.uE q g g' H H' k c.1 r,Src.uE q g g' H H' k c.2 r⟩
   |false=>exact h2 _ _ H2 (e1.trans e2) abS ⟨hw,hw2⟩ fun z=>nomatch z
end
def WF:WX:=fun _ _ _ _=>False
def yh{α:Type}:Out α->Out α
 |.ok a=>.ok a
 |_=>.bad
@[simp]theorem YK {α:Type} (a:α):yh (.ok a)=.ok a:=rfl
theorem Cq{α:Type}{o:Out α}{P:α->Prop}{E E':dB->Prop}(h:(yh o).sat P E):o.sat P E':=by
 cases o
 ·exact h
 ·exact False.elim h
 ·exact h
def dD(tg:fU)(tt:QT)(te:QF)(M:Mo)(ρ:Env):List Dat->Out (List Dat)
 |[]=>.ok []
 |d::ds=>match tg d ρ with
  |none=>.bad
  |some ρ1=>(yh (tt M ρ1)).bind fun b=>if b=true then(yh (te M ρ1)).bind fun y=>(dD tg tt te M ρ ds).bind fun r=>.ok (y::r) else dD tg tt te M ρ ds
def eU(it:IF)(tg:fU)(vs:List Nat)(tt:QT)(te:QF):QF:=fun M ρ=>(it M ρ).bind fun ds=>Out.when (decide (ds.length<=50000)) ((dD tg tt te M (bZ ρ vs) ds).bind fun r=>.ok (.list r))
def iy:QT:=fun _ _=>.ok true
def tFr(K:arJ)(aj:aQ)(W:WX)(f:IF):TE:=fun σ H Q=>∃g ρ M,SInv K aj σ H g ρ M/\(f M ρ).sat (fun xs=>∀l us H',H l=none->Ex H H'->H' l=some (.lst us)->aJ K (g.add l) H' us xs->Q (.ref l) H') (qO K aj W g H σ)
def zY(it:IF)(tg:fU)(vs:List Nat)(tt:QT)(te:QF):IF:=fun M ρ=>(it M ρ).bind fun ds=>Out.when (decide (ds.length<=50000)) (dD tg tt te M (bZ ρ vs) ds)
section
variable{K:arJ}{aj:aQ}{W:WX}
theorem Yw{g:Gh}{H:Hp}{D:Addr}{o o':HO}{vs:List V}{ds:List Dat}(k:Kd g H)(h:H D=some o)(l:g.Lo D)(r:aJ K g H vs ds):aJ K g (upd H D o') vs ds:=r.gr (Gr.upd (q:=true) k h (.inr l)) k
theorem ag6{g:Gh}{H:Hp}{D:Addr}{o o':HO}{v:V}{d:Dat}(k:Kd g H)(h:H D=some o)(l:g.Lo D)(r:Rep K g H v d):Rep K g (upd H D o') v d:=r.gr (Gr.upd (q:=true) k h (.inr l)) k
theorem qZ{tg:fU}{tt:QT}{te:QF}{M:Mo}{ρ:Env}:∀{ds:List Dat} {x:dB},dD tg tt te M ρ ds≠.exc x
 |[],_,h=>nomatch h
 |d::ds,x,h=>by
  rw[dD]at h
  split at h
  ·cases h
  ·next ρ1 e=>
   cases h1:tt M ρ1 with
   |bad=>rw[h1]at h;cases h
   |exc y=>rw[h1]at h;cases h
   |ok b=>
    rw[h1]at h
    cases b with
    |false=>exact qZ h
    |true=>
     have h:((yh (te M ρ1)).bind fun y=>(dD tg tt te M ρ ds).bind fun r=>Out.ok (y::r))=.exc x:=h
     cases h2:te M ρ1 with
     |bad=>rw[h2]at h;cases h
     |exc y=>rw[h2]at h;cases h
     |ok y=>
      rw[h2]at h
      cases h3:dD tg tt te M ρ ds with
      |bad=>rw[h3]at h;cases h
      |exc z=>exact qZ h3
      |ok r=>rw[h3]at h;cases h
theorem O6(σ:L2.St)(i:Nat):∀vs:List Nat,(L2.wipe σ vs)[i]?=if i∈vs then(σ[i]?).map (fun _=>none) else σ[i]?
 |[]=>by simp[L2.wipe]
 |v::vs=>by
  show((L2.wipe σ vs).set v none)[i]?=_
  by_cases h:v=i
  ·subst h
   by_cases hl:v < σ.length
   ·rw[ar3 (by rw[wipe_length];exact hl),if_pos arP,arM hl]
    rfl
   ·have h1:σ[v]?=none:=List.getElem?_eq_none_iff.mpr (by omega)
    rw[if_pos arP,h1,List.getElem?_eq_none_iff.mpr (by rw[asf,wipe_length];omega)]
    rfl
  ·rw[arS h,O6 σ i vs]
   have:i∈v::vs↔i∈vs:=⟨fun z=>by
    rcases arZ.mp z with z|z
    ·exact absurd z.symm h
    ·exact z,arO _⟩
   simp only[this]
theorem DQ(σ:L2.St)(vs:List Nat):L2.wipe (L2.wipe σ vs) vs=L2.wipe σ vs:=by
 apply ase
 intro i
 rw[O6 (L2.wipe σ vs) i vs,O6 σ i vs]
 split
 ·cases σ[i]? <;> rfl
 ·rfl
theorem ZV{it:IF}{tg:fU}{js vs:List Nat}{tt:QT}{te:QF}(hj:∀j∈js,j∈vs)(σ:L2.St)(H:Hp)(Q:VK)(h:tFr K aj W (zY it tg vs tt te) σ H Q) :
  tLc (tI K aj W false it) (zW K aj js tg) (kh K aj WF tt) (tQ K aj WF te) vs σ H Q:=by
 obtain⟨g,ρ,M,I,h⟩:=h
 refine⟨g,ρ,M,I,h.bnd.mono (fun ds hk J C H1 e1 w c _ D nD=>?_) fun _ z=>z⟩
 obtain⟨hz,hk⟩:=hk.pY
 have hlen:=of_decide_eq_true hz
 obtain⟨total,htot,hQ⟩:∃total,dD tg tt te M (bZ ρ vs) ds=.ok total/\∀l us H',H l=none->Ex H H'->H' l=some (.lst us)->aJ K (g.add l) H' us total->Q (.ref l) H':=by
  cases hc:dD tg tt te M (bZ ρ vs) ds with
  |bad=>rw[hc]at hk;exact False.elim hk
  |exc x=>exact absurd hc qZ
  |ok total=>
   rw[hc]at hk
   exact⟨total,rfl,hk⟩
 have I1:=(I.ex e1).wipe vs
 have kD:∀{Ha:Hp} {us:List V},Ex H1 Ha->Ha D=some (.lst us)->SInv K aj (L2.wipe σ vs) Ha (g.add D) (bZ ρ vs) M:=fun ea hu=>I1.add nD ea hu trivial
 let Pv:Nat->Hp->Prop:=fun i Ha=>Ex H1 Ha/\i<=ds.length/\∃us ys,Ha D=some (.lst us)/\aJ K (g.add D) Ha us ys/\ys.length<=i/\(dD tg tt te M (bZ ρ vs) (ds.drop i)).sat (fun r=>total=ys++r) fun _=>False
 refine⟨fun i m Ha=>m=ds.length - i/\Pv i Ha,⟨ds.length,rfl,Ex.new nD,asx _,[],[],upd_same,.nil,ash _,?_⟩,?_⟩
 ·rw[ath,htot]
  rfl
 ·rintro i m Ha ⟨rfl,ea,hi,us,ys,hu,hU,hy,hs⟩
  have Ia:=kD ea hu
  have Ca:=w.add g (g.add D) H1 Ha (I.kd.ex e1) c (Gh.Hq nD ea) ea
  by_cases hlt:i < ds.length
  ·refine .inr ⟨w.go _ i Ha Ca hlt,Pv (i+1),fun H' p=>⟨ds.length - (i+1),by omega,rfl,p⟩,fun x H' y=>?_⟩
   have hd:ds[i]?=some ds[i]:=arM hlt
   obtain⟨e2,rx⟩:=w.yld _ i Ha x H' _ Ia.kd Ca hd y
   have I2:=Ia.ex e2
   rw[asN hlt,dD]at hs
   split at hs
   ·exact False.elim hs
   ·next ρ1 he=>
    refine⟨g.add D,_,M,_,ρ1,I2,rx,he,fun ws I3=>⟨zP js ws _ vs hj |>.trans (DQ σ vs),?_⟩⟩
    refine kh.go I3 (Cq hs.bnd) fun b H3 hb e3=>?_
    have I4:=I3.ex e3
    have hu3:=e3 _ _ (e2 _ _ hu)
    have hU3:=(hU.ex e2 Ia.kd).ex e3 I2.kd
    cases b with
    |false=>
     have hb:(dD tg tt te M (bZ ρ vs) (ds.drop (i+1))).sat (fun r=>total=ys++r) fun _=>False:=hb
     exact⟨(ea.trans e2).trans e3,hlt,us,ys,hu3,hU3,Nat.le_succ_of_le hy,hb⟩
    |true=>
     have hb:((yh (te M ρ1)).bind fun y=>(dD tg tt te M (bZ ρ vs) (ds.drop (i+1))).bind fun r=>Out.ok (y::r)).sat (fun r=>total=ys++r) fun _=>False:=hb
     refine tQ.go I4 (Cq hb.bnd) fun y v H4 hyv e4 ry=>?_
     have I5:=I4.ex e4
     have hu4:=e4 _ _ hu3
     have hU4:=hU3.ex e4 I4.kd
     have lD:(g.add D).Lo D:=.inr rfl
     refine⟨us,hu4,sz_lt (by rw[hU.length];omega),Ex.mut (((ea.trans e2).trans e3).trans e4) nD,hlt,us++[v],ys++[y],upd_same,?_,by simp;omega,hyv.bnd.mono (fun r hr=>?_) fun _ z=>z⟩
     ·exact Yw I5.kd hu4 lD (hU4.append (.cons ry .nil))
     ·have hr:total=ys++y::r:=hr
      rw[hr]
      simp
  ·have e:i=ds.length:=by omega
   refine .inl ⟨w.stop _ i Ha Ca e,?_⟩
   rw[e,asT]at hs
   have hs:total=ys++[]:=hs
   rw[asI]at hs
   subst hs
   exact hQ D us Ha (Dj e1 D nD) (e1.trans ea) hu hU
theorem agr{it:IF}{tg:fU}{js vs:List Nat}{tt:QT}{te:QF}(hj:∀j∈js,j∈vs)(σ:L2.St)(H:Hp)(Q:VK)(h:tQ K aj W (eU it tg vs tt te) σ H Q) :
  tLc (tI K aj W false it) (zW K aj js tg) (kh K aj WF tt) (tQ K aj WF te) vs σ H Q:=by
 obtain⟨g,ρ,M,I,h⟩:=h
 refine ZV hj σ H Q ⟨g,ρ,M,I,?_⟩
 unfold zY
 unfold eU at h
 cases hi:it M ρ with
 |bad=>rw[hi]at h;exact False.elim h
 |exc x=>rw[hi]at h;exact h
 |ok ds=>
  rw[hi]at h
  obtain⟨hz,h⟩:=Out.sat.pY h
  have h:=h.bnd
  show(Out.when (decide (ds.length<=50000)) (dD tg tt te M (bZ ρ vs) ds)).sat _ _
  rw[hz,Out.Wb]
  exact h.mono (fun xs z l us H' n e hl r=>z _ H' e (.lst (.inl ⟨.inl hl,I.kd.fresh n⟩) (aJ.less (g:=g.add l) (g':=g) rfl (fun a z=>z.elim .inl fun z=>.inr (z.elim .inl fun z=>.inr (.inl z))) r))) fun _ z=>z
end
section
variable{X:Cx}{aj:aQ}{W:WX}{elt tg iter:Expr}{pos p tpos:Pos}
theorem aj8{X:Cx}:Takes X WF:=fun u s' ⟨a,B,sI,pins,σ,H,cls,d,e,I,nb,up,sky,na,os,ag,w⟩=>False.elim w
theorem amb{scope:Scope}{own:List (Str×Nat)}{it:IF}{tgf:fU}{js:List Nat}{tt:QT}{te:QF}{ifs:List Expr}(hc:X.calm=true)(hN:X.N.Nodup)(hi:QI aj X W false tg iter it)(ok:blkC X.N X.env.scope scope own=true)(hj:∀j∈js,j∈own.map (·.2))
  (hg:∀(s:Shared) (H:Hp) (C:Addr) (cl:List (Str×Addr)) (fp:List Addr),QG aj (X.blk s H scope (compEnvC scope cl C X.env) fp) tg js tgf)
  (ht:∀(s:Shared) (H:Hp) (C:Addr) (cl:List (Str×Addr)) (fp:List Addr),PTs (X.blk s H scope (compEnvC scope cl C X.env) fp) ifs (kh X.K aj WF tt))
  (he:∀(s:Shared) (H:Hp) (C:Addr) (cl:List (Str×Addr)) (fp:List Addr),QE aj (X.blk s H scope (compEnvC scope cl C X.env) fp) WF elt te) (hs:∀x,foldedSetIterable iter X.env x=pure x) :
  QE aj X W (.ListComp elt [⟨tg,iter,ifs,0⟩] scope pos) (eU it tgf (own.map (·.2)) tt te):=
 PE.weak (pe_lc (g:=zW X.K aj js tgf) (tt:=kh X.K aj WF tt) (te:=tQ X.K aj WF te) hc hN hi (blkOk_by ok) (fun s H C cl fp=>hg s H C cl fp) ht (fun s H C cl fp=>he s H C cl fp) hs) fun σ H Q h=>agr hj σ H Q h
theorem alF{scope:Scope}{own:List (Str×Nat)}{it:IF}{tgf:fU}{js:List Nat}{tt:QT}{te:QF}{ifs:List Expr}(hc:X.calm=true)(hN:X.N.Nodup)(hi:QI aj X W false tg iter it)(ok:blkC X.N X.env.scope scope own=true)(hj:∀j∈js,j∈own.map (·.2))
  (hg:∀(s:Shared) (H:Hp) (C:Addr) (cl:List (Str×Addr)) (fp:List Addr),QG aj (X.blk s H scope (compEnvC scope cl C X.env) fp) tg js tgf)
  (ht:∀(s:Shared) (H:Hp) (C:Addr) (cl:List (Str×Addr)) (fp:List Addr),PTs (X.blk s H scope (compEnvC scope cl C X.env) fp) ifs (kh X.K aj WF tt))
  (he:∀(s:Shared) (H:Hp) (C:Addr) (cl:List (Str×Addr)) (fp:List Addr),QE aj (X.blk s H scope (compEnvC scope cl C X.env) fp) WF elt te) (hs:∀x,foldedSetIterable iter X.env x=pure x) :
  PE X (.ListComp elt [⟨tg,iter,ifs,0⟩] scope pos) (tFr X.K aj W (zY it tgf (own.map (·.2)) tt te)):=
 PE.weak (pe_lc (g:=zW X.K aj js tgf) (tt:=kh X.K aj WF tt) (te:=tQ X.K aj WF te) hc hN hi (blkOk_by ok) (fun s H C cl fp=>hg s H C cl fp) ht (fun s H C cl fp=>he s H C cl fp) hs) fun σ H Q h=>ZV hj σ H Q h
end
def bx.sat{α:Type}(o:bx α)(P:α->Mo->Prop)(E:dB->Mo->Prop):Prop:=
 match o with
 |.ok a M=>P a M
 |.exc x M=>E x M
 |.bad=>False
def bx.bind{α β:Type}(o:bx α)(k:α->Mo->bx β):bx β:=
 match o with
 |.ok a M=>k a M
 |.exc x M=>.exc x M
 |.bad=>.bad
@[simp]theorem bx.yO {α β:Type} (a:α) (M:Mo) (k:α->Mo->bx β):(bx.ok a M).bind k=k a M:=rfl
@[simp]theorem bx.agc {α β:Type} (x:dB) (M:Mo) (k:α->Mo->bx β):(bx.exc x M:bx α).bind k=.exc x M:=rfl
@[simp]theorem bx.agn {α β:Type} (k:α->Mo->bx β):(bx.bad:bx α).bind k=.bad:=rfl
theorem bx.sat.bnd{α β:Type}{o:bx α}{k:α->Mo->bx β}{P:β->Mo->Prop}{E:dB->Mo->Prop}(h:(o.bind k).sat P E):o.sat (fun a M=>(k a M).sat P E) E:=by
 cases o <;> exact h
theorem bx.sat.mono{α:Type}{o:bx α}{P P':α->Mo->Prop}{E E':dB->Mo->Prop}(h:o.sat P E)(hp:∀a M,P a M->P' a M)(he:∀x M,E x M->E' x M):o.sat P' E':=by
 cases o
 ·exact hp _ _ h
 ·exact he _ _ h
 ·exact h
def Out.at{α:Type}(o:Out α)(M:Mo):bx α:=
 match o with
 |.ok a=>.ok a M
 |.exc x=>.exc x M
 |.bad=>.bad
@[simp]theorem Out.aru {α:Type} (a:α) (M:Mo):(Out.ok a).at M=.ok a M:=rfl
@[simp]theorem Out.aqq {α:Type} (x:dB) (M:Mo):(Out.exc x:Out α).at M=.exc x M:=rfl
@[simp]theorem Out.apz {α:Type} (M:Mo):(Out.bad:Out α).at M=.bad:=rfl
theorem Out.jf{α:Type}{o:Out α}{M:Mo}{P:α->Mo->Prop}{E:dB->Mo->Prop}(h:(o.at M).sat P E):o.sat (fun a=>P a M) fun x=>E x M:=by
 cases o <;> exact h
abbrev GF:=Mo->Env->bx Dat
abbrev GT:=Mo->Env->bx Bool
def sS.sat(o:sS)(nx:Env->Mo->Prop)(rt:Dat->Mo->Prop)(bk ct:Env->Mo->Prop)(ex:dB->Env->Mo->Prop):Prop:=
 match o with
 |.next ρ M=>nx ρ M
 |.ret d M=>rt d M
 |.brk ρ M=>bk ρ M
 |.cont ρ M=>ct ρ M
 |.exc x ρ M=>ex x ρ M
 |.bad=>False
theorem sS.sat.mono{o:sS}{nx nx':Env->Mo->Prop}{rt rt':Dat->Mo->Prop}{bk bk' ct ct':Env->Mo->Prop}{ex ex':dB->Env->Mo->Prop}(h:o.sat nx rt bk ct ex)(h1:∀ρ M,nx ρ M->nx' ρ M)(h2:∀d M,rt d M->rt' d M)(h3:∀ρ M,bk ρ M->bk' ρ M)(h4:∀ρ M,ct ρ M->ct' ρ M)(h5:∀x ρ M,ex x ρ M->ex' x ρ M):o.sat nx' rt' bk' ct' ex':=by
 cases o
 ·exact h1 _ _ h
 ·exact h2 _ _ h
 ·exact h3 _ _ h
 ·exact h4 _ _ h
 ·exact h5 _ _ _ h
 ·exact h
abbrev SF:=Mo->Env->sS
def Gh.fr(g:Gh):Gh:={ g with Lo:=fun _=>False }
section
variable(K:arJ)(aj:aQ)(W:WX)(q:Bool)
def gE(g:Gh)(H:Hp)(σ:L2.St)(ρ:Env)(x:dB)(M':Mo):Prop:=∀H' g' c dd,Gr q g g' H H'->SInv K aj σ H' g' ρ M'->qF K aj g' H' x c dd->W c dd σ H'
def tE(f:GF):TE:=fun σ H Q=>∃g ρ M,SInv K aj σ H g ρ M/\(f M ρ).sat (fun d M'=>∀v H' g',Gr q g g' H H'->SInv K aj σ H' g' ρ M'->Rep K g' H' v d->Q v H') (gE K aj W q g H σ ρ)
def tET(f:GT):TT:=fun σ H Q=>∃g ρ M,SInv K aj σ H g ρ M/\(f M ρ).sat (fun b M'=>∀H' g',Gr q g g' H H'->SInv K aj σ H' g' ρ M'->Q b H') (gE K aj W q g H σ ρ)
def sN(k:L2.St->Hp->Prop)(g:Gh)(H:Hp)(ρ':Env)(M':Mo):Prop:=∀σ' H' g',Gr q g g' H H'->SInv K aj σ' H' g' ρ' M'->k σ' H'
def sR(k:VK)(g:Gh)(H:Hp)(d:Dat)(M':Mo):Prop:=∀v H' g',Gr q g g' H H'->Kd g'.fr H'->fV K aj g'.fr H' M'->Rep K g'.fr H' v d->k v H'
def sX(g:Gh)(H:Hp)(x:dB)(ρ':Env)(M':Mo):Prop:=∀σ' H' g' c dd,Gr q g g' H H'->SInv K aj σ' H' g' ρ' M'->qF K aj g'.fr H' x c dd->W c dd σ' H'
def tS(f:SF):TS:=fun D σ H=>∃g ρ M,SInv K aj σ H g ρ M/\(f M ρ).sat (sN K aj q D.nx g H) (sR K aj q D.rt g H) (sN K aj q D.bk g H) (sN K aj q D.ct g H) (sX K aj W q g H)
end
section
variable{K:arJ}{aj:aQ}{W:WX}{q:Bool}{g g1:Gh}{H H1:Hp}{σ:L2.St}{ρ:Env}{M:Mo}
theorem gE.gr{x:dB}{M':Mo}(r:Gr q g g1 H H1)(h:gE K aj W q g H σ ρ x M'):gE K aj W q g1 H1 σ ρ x M':=fun H' g' c dd r' I z=>h H' g' c dd (r.trans r') I z
theorem sN.gr{k:L2.St->Hp->Prop}{ρ':Env}{M':Mo}(r:Gr q g g1 H H1)(h:sN K aj q k g H ρ' M'):sN K aj q k g1 H1 ρ' M':=fun σ' H' g' r' I=>h σ' H' g' (r.trans r') I
theorem sR.gr{k:VK}{d:Dat}{M':Mo}(r:Gr q g g1 H H1)(h:sR K aj q k g H d M'):sR K aj q k g1 H1 d M':=fun v H' g' r' I z y=>h v H' g' (r.trans r') I z y
theorem sX.gr{x:dB}{ρ':Env}{M':Mo}(r:Gr q g g1 H H1)(h:sX K aj W q g H x ρ' M'):sX K aj W q g1 H1 x ρ' M':=fun σ' H' g' c dd r' I z=>h σ' H' g' c dd (r.trans r') I z
theorem tE.go{f:GF}{k:Dat->Mo->Prop}{Q:VK}(I:SInv K aj σ H g ρ M)(h:(f M ρ).sat k (gE K aj W q g H σ ρ))(hk:∀d M' v H' g',k d M'->Gr q g g' H H'->SInv K aj σ H' g' ρ M'->Rep K g' H' v d->Q v H'):tE K aj W q f σ H Q:=
 ⟨g,ρ,M,I,h.mono (fun d M' hd v H' g' e I' r=>hk d M' v H' g' hd e I' r) fun _ _ z=>z⟩
theorem tET.go{f:GT}{k:Bool->Mo->Prop}{Q:Bool->Hp->Prop}(I:SInv K aj σ H g ρ M)(h:(f M ρ).sat k (gE K aj W q g H σ ρ))(hk:∀b M' H' g',k b M'->Gr q g g' H H'->SInv K aj σ H' g' ρ M'->Q b H'):tET K aj W q f σ H Q:=
 ⟨g,ρ,M,I,h.mono (fun d M' hd H' g' e I'=>hk d M' H' g' hd e I') fun _ _ z=>z⟩
theorem tS.go{f:SF}{D:Ends}(I:SInv K aj σ H1 g1 ρ M)(r:Gr q g g1 H H1)(h:(f M ρ).sat (sN K aj q D.nx g H) (sR K aj q D.rt g H) (sN K aj q D.bk g H) (sN K aj q D.ct g H) (sX K aj W q g H)):tS K aj W q f D σ H1:=
 ⟨g1,ρ,M,I,h.mono (fun _ _ z=>z.gr r) (fun _ _ z=>z.gr r) (fun _ _ z=>z.gr r) (fun _ _ z=>z.gr r) (fun _ _ _ z=>z.gr r)⟩
theorem lC.less{g':Gh}{fs:List (Str×V)}{gs:List (Str×Dat)}(e:g'.tbl=g.tbl)(n:∀a,g'.A a->g.A a)(h:lC K g H fs gs):lC K g' H fs gs:=by
 induction h with
 |nil=>exact .nil
 |cons r _ ih=>exact .cons (r.less e n) ih
theorem qF.less{g':Gh}{x:dB}{c:Value}{dd:Option Addr}(e:g'.tbl=g.tbl)(n:∀a,g'.A a->g.A a)(h:qF K aj g H x c dd):qF K aj g' H x c dd:=by
 obtain⟨C,h1,h2,h3⟩:=h
 refine⟨C,h1,h2,h3.imp id fun⟨a,fs,e1,e2,e3⟩=>⟨a,fs,e1,e2,e3.less e n⟩⟩
theorem wj(g:Gh):∀a,g.fr.A a->g.A a:=fun a z=>z.elim .inl fun z=>.inr (z.elim .inl fun z=>False.elim z)
theorem Rep.fr{v:V}{d:Dat}(h:Rep K g H v d):Rep K g.fr H v d:=Rep.less (g:=g) (g':=g.fr) rfl (wj g) h
theorem aJ.fr{v:List V}{d:List Dat}(h:aJ K g H v d):aJ K g.fr H v d:=aJ.less (g:=g) (g':=g.fr) rfl (wj g) h
theorem qF.fr{x:dB}{c:Value}{dd:Option Addr}(h:qF K aj g H x c dd):qF K aj g.fr H x c dd:=qF.less (g:=g) (g':=g.fr) rfl (wj g) h
end
def GE(aj:aQ)(X:Cx)(W:WX)(q:Bool)(e:Expr)(f:GF):Prop:=PE X e (tE X.K aj W q f)
def GTe(aj:aQ)(X:Cx)(W:WX)(q:Bool)(e:Expr)(f:GT):Prop:=PT X e (tET X.K aj W q f)
def SE(aj:aQ)(X:Cx)(W:WX)(q:Bool)(s:Stmt)(f:SF):Prop:=PS X s (tS X.K aj W q f)
def JN(aj:aQ)(X:Cx)(W:WX)(q:Bool)(s:List Stmt)(f:SF):Prop:=PSs X s (tS X.K aj W q f)
theorem PS.weak{X:Cx}{e:Stmt}{t t':TS}(h:PS X e t)(k:∀D σ H,t' D σ H->t D σ H):PS X e t':=⟨fun pins s σ H D I z=>h.run pins s σ H D I (k D σ H z)⟩
theorem PSs.weak{X:Cx}{e:List Stmt}{t t':TS}(h:PSs X e t)(k:∀D σ H,t' D σ H->t D σ H):PSs X e t':=⟨fun pins s σ H D I z=>h.run pins s σ H D I (k D σ H z)⟩
def gOf(f:QF):GF:=fun M ρ=>(f M ρ).at M
def af4(f:QT):GT:=fun M ρ=>(f M ρ).at M
section
variable{X:Cx}{aj:aQ}{W:WX}{q:Bool}{a b e:Expr}{pos:Pos}
theorem agJ{f:QF}(h:QE aj X W e f):GE aj X W q e (gOf f):=PE.weak h fun σ H Q ⟨g,ρ,M,I,z⟩=>
 ⟨g,ρ,M,I,(Out.jf z).mono (fun d k v H' e r=>k v H' g (Gr.ex e) (I.ex e) r) fun x k H' c dd e r=>k H' g c dd (Gr.ex e) (I.ex e) r⟩
theorem amc{f:QT}(h:rP aj X W e f):GTe aj X W q e (af4 f):=PT.weak h fun σ H Q ⟨g,ρ,M,I,z⟩=>
 ⟨g,ρ,M,I,(Out.jf z).mono (fun d k H' e=>k H' g (Gr.ex e) (I.ex e)) fun x k H' c dd e r=>k H' g c dd (Gr.ex e) (I.ex e) r⟩
def aR:SF:=fun M ρ=>.next ρ M
def aD(f k:SF):SF:=fun M ρ=>match f M ρ with
 |.next ρ' M'=>k M' ρ'
 |o=>o
theorem aks:JN aj X W q [] aR:=PSs.weak pss_nil fun D σ H ⟨g,ρ,M,I,z⟩=>z σ H g .refl I
theorem ake{s:Stmt}{f:SF}(h:SE aj X W q s f):JN aj X W q [s] f:=pss_one h
theorem aic{s:Stmt}{ss:List Stmt}{f k:SF}(h:SE aj X W q s f)(hs:JN aj X W q ss k):JN aj X W q (s::ss) (aD f k):=by
 refine PSs.weak (pss_cons h hs) fun D σ H ⟨g,ρ,M,I,z⟩=>?_
 refine⟨g,ρ,M,I,?_⟩
 unfold aD at z
 cases hf:f M ρ with
 |next ρ' M'=>
  rw[hf]at z
  exact fun σ' H' g' r I'=>tS.go I' r z
 |ret d M'=>rw[hf]at z;exact z
 |brk ρ' M'=>rw[hf]at z;exact z
 |cont ρ' M'=>rw[hf]at z;exact z
 |exc x ρ' M'=>rw[hf]at z;exact z
 |bad=>rw[hf]at z;exact z
def bx.then{α:Type}(o:bx α)(ρ:Env)(k:α->Mo->sS):sS:=
 match o with
 |.ok a M=>k a M
 |.exc x M=>.exc x ρ M
 |.bad=>.bad
@[simp]theorem bx.aoq {α:Type} (a:α) (M:Mo) (ρ:Env) (k:α->Mo->sS):(bx.ok a M).then ρ k=k a M:=rfl
@[simp]theorem bx.anC {α:Type} (x:dB) (M:Mo) (ρ:Env) (k:α->Mo->sS):(bx.exc x M:bx α).then ρ k=.exc x ρ M:=rfl
@[simp]theorem bx.anw {α:Type} (ρ:Env) (k:α->Mo->sS):(bx.bad:bx α).then ρ k=.bad:=rfl
theorem dw{α:Type}{K:arJ}{g:Gh}{H:Hp}{σ:L2.St}{ρ:Env}{o:bx α}{k:α->Mo->sS}{nx bk ct:Env->Mo->Prop}{rt:Dat->Mo->Prop}(h:(o.then ρ k).sat nx rt bk ct (sX K aj W q g H)):o.sat (fun a M=>(k a M).sat nx rt bk ct (sX K aj W q g H)) (gE K aj W q g H σ ρ):=by
 cases o with
 |ok a M=>exact h
 |exc x M=>exact fun H' g' c dd r I z=>h σ H' g' c dd r I z.fr
 |bad=>exact h
def aX(tg:fU)(f:GF):SF:=fun M ρ=>(f M ρ).then ρ fun d M'=>match tg d ρ with
 |some ρ'=>.next ρ' M'
 |none=>.bad
theorem Ym{tg:Expr}{js:List Nat}{tf:fU}{f:GF}(he:GE aj X W q e f)(hg:QG aj X tg js tf)(hs:swapsWithSole [tg] e pos.line X.env=pure false)(hw:swappedStores [tg] e X.env=pure none)(h1:(assignEach [tg] X.env).map (·.2)=[assign tg X.env]):SE aj X W q (.Assign [tg] e pos) (aX tf f):=by
 refine PS.weak (ps_asg he hg hs hw h1) fun D σ H ⟨g,ρ,M,I,z⟩=>?_
 refine tE.go I (dw (σ:=σ) z) fun d M' v H' g' k r I' rv=>?_
 split at k
 ·next ρ' e'=>exact⟨g',ρ,M',d,ρ',I',rv,e',fun vs I2=>k _ H' g' r I2⟩
 ·exact False.elim k
def cI(f:GF):SF:=fun M ρ=>(f M ρ).then ρ fun _ M'=>.next ρ M'
theorem Vd{f:GF}(he:GE aj X W q e f)(hs:swapsWith e none pos.line X.env=pure false):SE aj X W q (.Expr e pos) (cI f):=by
 refine PS.weak (ps_expr he hs) fun D σ H ⟨g,ρ,M,I,z⟩=>?_
 exact tE.go I (dw (σ:=σ) z) fun d M' v H' g' k r I' rv=>k σ H' g' r I'
end
def RJ:Cell->Cell
 |.mut xs=>.dat (.list xs)
 |c=>c
def rN(ρ:Env):Env:=ρ.map fun o=>o.map RJ
section
variable{K:arJ}{aj:aQ}{W:WX}{q:Bool}{g:Gh}{H:Hp}{σ:L2.St}{ρ:Env}{M:Mo}
theorem jE.less{g':Gh}{l:Addr}(e:g'.tbl=g.tbl)(n:∀a,g'.A a->g.A a):∀{b:Bool} {kvs:List (Dat×Dat)},jE K aj g H l b kvs->jE K aj g' H l b kvs
 |false,_,⟨kv,h1,h2,h3⟩=>⟨kv,h1,h2,h3.less e n⟩
 |true,_,⟨o,xs,vs,h1,h2,h3,h4,h5,h6⟩=>⟨o,xs,vs,h1,h2,h3,h4.less e n,h5,h6.less e n⟩
theorem dN.less{g':Gh}{h:Nat}{f:Str}{v:V}(e:g'.tbl=g.tbl)(e2:g'.ow=g.ow)(n:∀a,g'.A a->g.A a):∀{fl:jd},dN K aj g H h f v fl->dN K aj g' H h f v fl
 |.dat _,z=>Rep.less e n z
 |.lst _ _,⟨l,us,h1,h2,h3,h4,h5⟩=>⟨l,us,h1,h2,by rw[e2];exact h3,h4.less e n,by rw[e];exact h5⟩
 |.dic _ _,⟨l,h1,h2,h3⟩=>⟨l,h1,by rw[e2];exact h2,h3.less e n⟩
theorem cM.less{g':Gh}{h:Nat}(e:g'.tbl=g.tbl)(e2:g'.ow=g.ow)(n:∀a,g'.A a->g.A a):∀{fs:List (Str×V)} {gs:List (Str×jd)},cM K aj g H h fs gs->cM K aj g' H h fs gs
 |_,_,.nil=>.nil
 |_,_,.cons z t=>.cons (dN.less e e2 n z) (cM.less e e2 n t)
theorem fV.less{g':Gh}(e:g'.tbl=g.tbl)(e2:g'.ow=g.ow)(n:∀a,g'.A a->g.A a)(w:fV K aj g H M):fV K aj g' H M where
 len:=by rw[e];exact w.len
 inj:=by rw[e];exact w.inj
 ins:=fun h a i ha hi hc=>by
  rw[e]at ha
  obtain⟨C,dx,fs,c1,c2,c3⟩:=w.ins h a i ha hi hc
  exact⟨C,dx,fs,c1,c2,c3.less e e2 n⟩
 nd:=w.nd
 fd:=w.fd
 tw:=by rw[e,e2];exact w.tw
 dm:=w.dm
 nc:=w.nc
theorem Ql{i:Nat}{c:Cell}(h:(rN ρ)[i]?=some (some c)):∃c',ρ[i]?=some (some c')/\c=RJ c':=by
 unfold rN at h
 rw[arY]at h
 cases hr:ρ[i]? with
 |none=>rw[hr]at h;cases h
 |some o=>
  rw[hr]at h
  cases o with
  |none=>cases h
  |some c'=>
   cases h
   exact⟨c',rfl,rfl⟩
theorem SInv.rN(I:SInv K aj σ H g ρ M):SInv K aj σ H g.fr (rN ρ) M where
 kd:=⟨fun a z=>I.kd.ob a (wj g a z),fun a z=>False.elim z,fun a z=>⟨(I.kd.lc a z).1,fun y=>y⟩⟩
 wok:=fV.less (g:=g) (g':=g.fr) rfl rfl (wj g) I.wok
 len:=by unfold Rf.rN;rw[arT];exact I.len
 dat:=fun i d h=>by
  obtain⟨c,h1,h2⟩:=Ql h
  cases c with
  |dat d'=>
   cases h2
   obtain⟨v,e1,e2⟩:=I.dat i _ h1
   exact⟨v,e1,e2.fr⟩
  | «mut» xs=>
   cases h2
   obtain⟨l,us,e1,e2,e3,e4⟩:=I.own i _ h1
   refine⟨_,e1,.lst (.inl ⟨.inl e2,fun z=>?_⟩) e4.fr⟩
   rcases z with z|z|z
   ·exact I.kd.lo l e3 z
   ·exact(I.kd.lc l z).2 e3
   ·exact z
 own:=fun i xs h=>by
  obtain⟨c,h1,h2⟩:=Ql h
  cases c <;> cases h2
 sep:=fun i j xs ys l ne h1=>by
  obtain⟨c,h1,h2⟩:=Ql h1
  cases c <;> cases h2
end
section
variable{K:arJ}{aj:aQ}{W:WX}{q:Bool}{g g':Gh}{H H':Hp}{σ:L2.St}{ρ:Env}{M:Mo}
theorem Kd.fr(k:Kd g H):Kd g.fr H:=⟨fun a z=>k.ob a (wj g a z),fun a z=>False.elim z,fun a z=>⟨(k.lc a z).1,fun y=>y⟩⟩
theorem fV.fr(w:fV K aj g H M):fV K aj g.fr H M:=fV.less (g:=g) (g':=g.fr) rfl rfl (wj g) w
theorem bG{α:Type}{l:List (Option α)}{j i:Nat}{c:α}{o:Option α}(h:(l.set j o)[i]?=some (some c)):(j=i/\o=some c/\j < l.length)∨(j≠i/\l[i]?=some (some c)):=by
 by_cases z:j=i
 ·subst z
  have hj:j < l.length:=by
   have:=(arL.mp h).1
   rw[asf]at this
   exact this
  rw[ar3 hj]at h
  exact .inl ⟨rfl,ar8 h,hj⟩
 ·rw[arS z]at h
  exact .inr ⟨z,h⟩
theorem SInv.ak9{j:Nat}{l:Addr}{us:List V}{xs:List Dat}(I:SInv K aj σ H g ρ M)(n:H l=none)(e:Ex H H')(hl:H' l=some (.lst us))(r:aJ K (g.add l) H' us xs):SInv K aj (σ.set j (some (.ref l))) H' (g.add l) (ρ.set j (some (.mut xs))) M:=by
 have I1:=I.add n e hl trivial
 have nl:∀(i:Nat) (ys:List Dat),ρ[i]?=some (some (.mut ys))->σ[i]?≠some (some (.ref l)):=fun i ys h z=>by
  obtain⟨l',us',h1,h2,_⟩:=I.own i ys h
  rw[z]at h1
  cases h1
  rw[n]at h2
  cases h2
 refine⟨I1.kd,I1.wok,by rw[asf,asf];exact I.len,fun i d h=>?_,fun i ys h=>?_,fun i k ys zs a ne h1 h2 h3 h4=>?_⟩
 ·rcases bG h with⟨_,h,_⟩|⟨ne,h⟩
  ·cases h
  ·rw[arS ne]
   exact I1.dat i d h
 ·rcases bG h with⟨rfl,h,hj⟩|⟨ne,h⟩
  ·cases h
   exact⟨l,us,by rw[ar3 (by rw[I.len];exact hj)],hl,.inr rfl,r⟩
  ·rw[arS ne]
   exact I1.own i ys h
 ·rcases bG h1 with⟨rfl,h1,hj⟩|⟨n1,h1⟩
  ·rcases bG h2 with⟨rfl,h2,_⟩|⟨n2,h2⟩
   ·exact ne rfl
   ·rw[ar3 (by rw[I.len];exact hj)]at h3
    cases h3
    rw[arS n2]at h4
    exact nl k zs h2 h4
  ·rcases bG h2 with⟨rfl,h2,hj⟩|⟨n2,h2⟩
   ·rw[ar3 (by rw[I.len];exact hj)]at h4
    cases h4
    rw[arS n1]at h3
    exact nl i ys h1 h3
   ·rw[arS n1]at h3
    rw[arS n2]at h4
    exact I.sep i k ys zs a ne h1 h2 h3 h4
theorem dN.loc{l:Addr}{us us':List V}{h:Nat}{f:Str}{v:V}(k:Kd g H)(hl:H l=some (.lst us))(lo:g.Lo l):∀{fl:jd},dN K aj g H h f v fl->dN K aj g (upd H l (.lst us')) h f v fl:=fun {fl} z=>by
 have r:Gr true g g H (upd H l (.lst us')):=Gr.upd k hl (.inr lo)
 cases fl with
 |dat d=>exact Rep.gr r k z
 |lst n xs=>
  obtain⟨a,ws,h1,h2,h3,h4,h5⟩:=z
  exact⟨a,ws,h1,by rw[upd_ne (fun z=>by subst z;exact k.lo _ lo (.inr (by rw[h3];exact fun z=>nomatch z)))];exact h2,h3,h4.gr r k,h5⟩
 |dic n kvs=>
  obtain⟨a,h1,h2,h3⟩:=z
  have na:a≠l:=fun z=>by subst z;exact k.lo _ lo (.inr (by rw[h2];exact fun z=>nomatch z))
  refine⟨a,h1,h2,?_⟩
  cases n with
  |false=>
   obtain⟨kv,h3,h4,h5⟩:=h3
   exact⟨kv,by rw[upd_ne na];exact h3,h4,h5.gr r k⟩
  |true=>
   obtain⟨o,xs,vs,h3,h4,h5,h6,h7,h8⟩:=h3
   exact⟨o,xs,vs,by rw[upd_ne na];exact h3,h4,h5,h6.gr r k,h7,h8.gr r k⟩
theorem cM.loc{l:Addr}{us us':List V}{h:Nat}(k:Kd g H)(hl:H l=some (.lst us))(lo:g.Lo l):∀{fs:List (Str×V)} {gs:List (Str×jd)},cM K aj g H h fs gs->cM K aj g (upd H l (.lst us')) h fs gs
 |_,_,.nil=>.nil
 |_,_,.cons z t=>.cons (dN.loc k hl lo z) (cM.loc k hl lo t)
theorem fV.loc{l:Addr}{us us':List V}(k:Kd g H)(hl:H l=some (.lst us))(lo:g.Lo l)(w:fV K aj g H M):fV K aj g (upd H l (.lst us')) M where
 len:=w.len
 inj:=w.inj
 ins:=fun h a i ha hi hc=>by
  obtain⟨C,dx,fs,c1,c2,c3⟩:=w.ins h a i ha hi hc
  exact⟨C,dx,fs,c1,by rw[upd_ne (fun z=>by subst z;exact k.lo _ lo (.inl (arR ha)))];exact c2,c3.loc k hl lo⟩
 nd:=w.nd
 fd:=w.fd
 tw:=w.tw
 dm:=w.dm
 nc:=w.nc
theorem SInv.change{j:Nat}{xs ys:List Dat}(I:SInv K aj σ H g ρ M)(hj:ρ[j]?=some (some (.mut xs))):∃l us,σ[j]?=some (some (.ref l))/\H l=some (.lst us)/\g.Lo l/\aJ K g H us xs/\∀us',aJ K g H us' ys->SInv K aj σ (upd H l (.lst us')) g (ρ.set j (some (.mut ys))) M:=by
 obtain⟨l,us,h1,h2,h3,h4⟩:=I.own j xs hj
 refine⟨l,us,h1,h2,h3,h4,fun us' r=>?_⟩
 have gr:Gr true g g H (upd H l (.lst us')):=Gr.upd I.kd h2 (.inr h3)
 refine⟨I.kd.upd trivial,I.wok.loc I.kd h2 h3,by rw[asf];exact I.len,fun i d h=>?_,fun i zs h=>?_,fun i k zs ws a ne e1 e2 e3 e4=>?_⟩
 ·rcases bG h with⟨_,h,_⟩|⟨ne,h⟩
  ·cases h
  ·obtain⟨v,e1,e2⟩:=I.dat i d h
   exact⟨v,e1,e2.gr gr I.kd⟩
 ·rcases bG h with⟨rfl,h,_⟩|⟨ne,h⟩
  ·cases h
   exact⟨l,us',h1,upd_same,h3,r.gr gr I.kd⟩
  ·obtain⟨l',ws,e1,e2,e3,e4⟩:=I.own i zs h
   have nl:l'≠l:=fun z=>by
    subst z
    exact I.sep i j zs xs l' (Ne.symm ne) h hj e1 h1
   exact⟨l',ws,e1,by rw[upd_ne nl];exact e2,e3,e4.gr gr I.kd⟩
 ·have k1:∃xs,ρ[i]?=some (some (.mut xs)):=by
   rcases bG e1 with⟨rfl,_,_⟩|⟨_,h⟩
   ·exact⟨xs,hj⟩
   ·exact⟨zs,h⟩
  have k2:∃xs,ρ[k]?=some (some (.mut xs)):=by
   rcases bG e2 with⟨rfl,_,_⟩|⟨_,h⟩
   ·exact⟨xs,hj⟩
   ·exact⟨ws,h⟩
  obtain⟨x1,k1⟩:=k1
  obtain⟨x2,k2⟩:=k2
  exact I.sep i k x1 x2 a ne k1 k2 e3 e4
end
section
variable{X:Cx}{aj:aQ}{W:WX}{q:Bool}{a b e:Expr}{pos:Pos}
def aP(f:QF):SF:=fun M ρ=>((f M (rN ρ)).at M).then ρ fun d M'=>.ret d M'
def iw(f:GF):SF:=fun M ρ=>(f M ρ).then ρ fun d M'=>.ret d M'
theorem ajG{f:QF}(he:QE aj X W e f):SE aj X W q (.Return (some e) pos) (aP f):=by
 refine PS.weak (ps_ret he) fun D σ H ⟨g,ρ,M,I,z⟩=>?_
 refine⟨g.fr,rN ρ,M,I.rN,?_⟩
 unfold aP at z
 cases hf:f M (rN ρ) with
 |ok d=>
  rw[hf]at z
  exact fun v H' e r=>z v H' g (Gr.ex e) (I.ex e).kd.fr (I.ex e).wok.fr r
 |exc x=>
  rw[hf]at z
  exact fun H' c dd e r=>z σ H' g c dd (Gr.ex e) (I.ex e) r
 |bad=>rw[hf]at z;exact False.elim z
theorem agW{f:GF}(he:GE aj X W q e f):SE aj X W q (.Return (some e) pos) (iw f):=by
 refine PS.weak (ps_ret he) fun D σ H ⟨g,ρ,M,I,z⟩=>?_
 exact tE.go I (dw (σ:=σ) z) fun d M' v H' g' k r I' rv=>k v H' g' r I'.kd.fr I'.wok.fr rv.fr
def bO(t:QT)(f k:SF):SF:=fun M ρ=>((t M (rN ρ)).at M).then ρ fun c M'=>if c=true then f M' ρ else k M' ρ
def anU(t:GT)(f k:SF):SF:=fun M ρ=>(t M ρ).then ρ fun c M'=>if c=true then f M' ρ else k M' ρ
theorem alS{c:Expr}{s1 s2:List Stmt}{t:QT}{f k:SF}(hc:rP aj X W c t)(h1:JN aj X W q s1 f)(h2:JN aj X W q s2 k):SE aj X W q (.If c s1 s2 pos) (bO t f k):=by
 refine PS.weak (ps_if hc h1 h2) fun D σ H ⟨g,ρ,M,I,z⟩=>?_
 refine⟨g.fr,rN ρ,M,I.rN,?_⟩
 unfold bO at z
 cases hf:t M (rN ρ) with
 |ok d=>
  rw[hf]at z
  intro H' e
  cases d with
  |true=>exact tS.go (I.ex e) (Gr.ex e) z
  |false=>exact tS.go (I.ex e) (Gr.ex e) z
 |exc x=>
  rw[hf]at z
  exact fun H' c dd e r=>z σ H' g c dd (Gr.ex e) (I.ex e) r
 |bad=>rw[hf]at z;exact False.elim z
def dR(tg:fU)(body:SF):List Dat->Mo->Env->sS
 |[],M,ρ=>.next ρ M
 |d::ds,M,ρ=>match tg d ρ with
  |none=>.bad
  |some ρ1=>match body M ρ1 with
   |.next ρ2 M2=>dR tg body ds M2 ρ2
   |.cont ρ2 M2=>dR tg body ds M2 ρ2
   |.brk ρ2 M2=>.next ρ2 M2
   |.ret d M2=>.ret d M2
   |.exc x ρ2 M2=>.exc x ρ2 M2
   |.bad=>.bad
def mJ(it:IF)(tg:fU)(body:SF):SF:=fun M ρ=>((it M ρ).at M).then ρ fun ds M'=>dR tg body ds M' ρ
theorem alz{tg iter:Expr}{body:List Stmt}{it:IF}{js:List Nat}{tf:fU}{f:SF}(hp:PassesOwn (model X.prog X.w) X.A X.env X.xe)(hc:X.calm=true)(hi:QI aj X W true tg iter it)(hg:QG aj X tg js tf)(hb:JN aj X W q body f)(hs:∀x,foldedSetIterable iter X.env x=pure x) :
  SE aj X W q (.For tg iter body [] pos) (mJ it tf f):=by
 refine PS.weak (ps_for hp hc hi hg hb hs) fun D σ H ⟨g,ρ,M,I,z⟩=>?_
 refine⟨g,ρ,M,I,?_⟩
 unfold mJ at z
 cases hf:it M ρ with
 |exc x=>
  rw[hf]at z
  exact fun H' c dd e r=>z σ H' g c dd (Gr.ex e) (I.ex e) r.fr
 |bad=>rw[hf]at z;exact False.elim z
 |ok ds=>
  rw[hf]at z
  intro J C H1 e1 w c1 firm
  have firm:=firm rfl
  have z:(dR tf f ds M ρ).sat (sN X.K aj q D.nx g H) (sR X.K aj q D.rt g H) (sN X.K aj q D.bk g H) (sN X.K aj q D.ct g H) (sX X.K aj W q g H):=z
  let Pv:Nat->L2.St->Hp->Prop:=fun i σi Hi=>i<=ds.length/\∃gi ρi Mi,Gr q g gi H Hi/\SInv X.K aj σi Hi gi ρi Mi/\C gi Hi/\(dR tf f (ds.drop i) Mi ρi).sat (sN X.K aj q D.nx g H) (sR X.K aj q D.rt g H) (sN X.K aj q D.bk g H) (sN X.K aj q D.ct g H) (sX X.K aj W q g H)
  refine⟨fun i m σi Hi=>m=ds.length - i/\Pv i σi Hi,⟨ds.length,rfl,asx _,g,ρ,M,Gr.ex e1,I.ex e1,c1,by rw[ath];exact z⟩,?_⟩
  rintro i m σi Hi ⟨rfl,hi,gi,ρi,Mi,ri,Ii,Ci,zi⟩
  by_cases hlt:i < ds.length
  ·refine .inr ⟨w.go _ i Hi Ci hlt,Pv (i+1),fun σ' H' p=>⟨ds.length - (i+1),by omega,rfl,p⟩,fun x H' y=>?_⟩
   have hd:ds[i]?=some ds[i]:=arM hlt
   obtain⟨e2,rx⟩:=w.yld _ i Hi x H' _ Ii.kd Ci hd y
   rw[asN hlt,dR]at zi
   split at zi
   ·exact False.elim zi
   ·next ρ1 he=>
    have I2:=Ii.ex e2
    refine⟨gi,ρi,Mi,_,ρ1,I2,rx,he,fun vs I3=>⟨gi,ρ1,Mi,I3,?_⟩⟩
    have r2:=ri.trans (Gr.ex e2)
    cases hb':f Mi ρ1 with
    |next ρ2 M2=>
     rw[hb']at zi
     exact fun σ' H2 g2 r I'=>⟨hlt,g2,ρ2,M2,r2.trans r,I',firm q gi g2 H' H2 I2.kd (w.ex _ _ _ Ii.kd Ci e2) r,zi⟩
    |cont ρ2 M2=>
     rw[hb']at zi
     exact fun σ' H2 g2 r I'=>⟨hlt,g2,ρ2,M2,r2.trans r,I',firm q gi g2 H' H2 I2.kd (w.ex _ _ _ Ii.kd Ci e2) r,zi⟩
    |brk ρ2 M2=>
     rw[hb']at zi
     exact sN.gr r2 zi
    |ret d M2=>
     rw[hb']at zi
     exact sR.gr r2 zi
    |exc x ρ2 M2=>
     rw[hb']at zi
     exact sX.gr r2 zi
    |bad=>rw[hb']at zi;exact False.elim zi
  ·have e:i=ds.length:=by omega
   refine .inl ⟨w.stop _ i Hi Ci e,?_⟩
   rw[e,asT]at zi
   exact zi σi Hi gi ri Ii
def PN(j:Nat)(f:QF):SF:=fun M ρ=>match ρ[j]? with
 |some (some (.dat (.int i)))=>((f M ρ).at M).then ρ fun d M'=>match d with
  |.int k=>.next (ρ.set j (some (.dat (.int (i+k))))) M'
  |_=>.bad
 |_=>.bad
theorem ai6{j:Nat}{x:Str}{f:QF}{pos':Pos}(hN:X.N.Nodup)(hi:X.N[j]?=some x)(hx:Loc X.env.scope x)(hf:X.fn x=true∨X.env.scope.names.lookup x=some .local)(he:QE aj X W e f):SE aj X W q (.AugAssign (.Name x pos') .Add e pos) (PN j f):=by
 refine PS.weak (ps_aug hN hi hx he ip_add hf) fun D σ H ⟨g,ρ,M,I,z⟩=>?_
 unfold PN at z
 split at z
 ·next i hj=>
  obtain⟨v,h1,h2⟩:=I.dat j _ hj
  cases h2
  refine⟨.int i,h1,⟨g,ρ,M,I,?_⟩⟩
  cases hf':f M ρ with
  |exc x=>rw[hf']at z;exact fun H' c dd e r=>z σ H' g c dd (Gr.ex e) (I.ex e) r.fr
  |bad=>rw[hf']at z;exact False.elim z
  |ok d=>
   rw[hf']at z
   intro u H' e r
   cases d with
   |int k=>
    cases r
    exact⟨i,k,rfl,rfl,z _ H' g (Gr.ex e) ((I.ex e).set (.int _))⟩
   |_=>exact False.elim z
 ·exact False.elim z
def FE(aj:aQ)(X:Cx)(W:WX)(e:Expr)(f:IF):Prop:=PE X e (tFr X.K aj W f)
def Az(j:Nat)(f:IF):SF:=fun M ρ=>((f M ρ).at M).then ρ fun xs M'=>.next (ρ.set j (some (.mut xs))) M'
theorem ac2{j:Nat}{f:IF}(D:Ends)(σ:L2.St)(H:Hp)(h:tS X.K aj W q (Az j f) D σ H):tAsg (tFr X.K aj W f) (gName j) D σ H:=by
 obtain⟨g,ρ,M,I,z⟩:=h
 refine⟨g,ρ,M,I,?_⟩
 unfold Az at z
 cases hf:f M ρ with
 |exc x=>rw[hf]at z;exact fun H' c dd e r=>z σ H' g c dd (Gr.ex e) (I.ex e) r.fr
 |bad=>rw[hf]at z;exact False.elim z
 |ok xs=>
  rw[hf]at z
  intro l us H' n e hl r
  have gr:Gr true g (g.add l) H H':=Gh.Hq n e
  refine z _ H' (g.add l) ?_ (I.ak9 n e hl r)
  cases q with
  |true=>exact gr
  |false=>exact gr.loud
theorem adl{j:Nat}{x:Str}{f:IF}{pos':Pos}(hN:X.N.Nodup)(hi:X.N[j]?=some x)(hx:Loc X.env.scope x)(hf:X.fn x=true∨X.env.scope.names.lookup x=some .local)(he:FE aj X W e f)(hs:swapsWith e (some (.Name x pos')) pos.line X.env=pure false):SE aj X W q (.Assign [.Name x pos'] e pos) (Az j f):=
 PS.weak (ps_set hN hi hx he hs hf) fun D σ H h=>ac2 D σ H h
def LR(f:QA):IF:=fun M ρ=>(f M ρ).bind fun xs=>Out.when (decide (xs.length<=100000)) (.ok xs)
theorem agi{K:arJ}{g:Gh}{H:Hp}{l:Addr}{vs:List V}{ds:List Dat}(k:Kd g H)(n:H l=none)(r:aJ K g H vs ds){o:HO}:aJ K (g.add l) (upd H l o) vs ds:=r.gr (Gh.Hq n (Ex.new n)) k
theorem alw{es:List Expr}{fr:QA}(h:Ed aj X W es fr):FE aj X W (.List es pos) (LR fr):=
 PE.weak (pe_lst h) fun σ H Q ⟨g,ρ,M,I,h⟩=>by
  refine Ou.go I h.bnd fun ds vs H1 h1 e1 r1=>?_
  obtain⟨hz,h1⟩:=h1.pY
  have hl:vs.length<=100000:=by
   rw[r1.length]
   exact of_decide_eq_true hz
  exact⟨sz_of hl,fun p np=>h1 p vs _ (Dj e1 p np) (e1.trans (Ex.new np)) upd_same (agi (I.kd.ex e1) np r1)⟩
def XH:Dat->Out (List Dat)
 |.list ds=>.ok ds
 |.tuple ds=>.ok ds
 |_=>.bad
def afL(f:QF):IF:=fun M ρ=>(f M ρ).bind XH
def baseOk:Expr->Bool
 |.Call (.Name _ _) _ _ _=>false
 |_=>true
theorem mF{o:Expr}{m:Str}{env:PySem.Env}{w:Sem Value}(h:baseOk o=true):attributeBase o m env w=w:=by
 cases o with
 | Call f as ks p=>cases f <;> first | rfl | cases h
 |_=>rfl
theorem Zq{env:PySem.Env}{pos:Pos}:∀(es:List Expr),es.all nst=true->(backTo pos (starEach es env)).all (fun x=>!x.1)=true
 |[],_=>by with_unfolding_all rfl
 |a::es,h=>by
  rw[asv,arK]at h
  rw[cP h.1]
  have ih:=Zq (env:=env) (pos:=pos) es h.2
  unfold backTo at ih ⊢
  rw[arN,asv,ih]
  rfl
theorem few{env:PySem.Env}{pos:Pos}{es:List Expr}(h:es.all nst=true)(hl:es.length < 30):((backTo pos (starEach es env)).all (fun x=>!x.1)&&(backToKw pos (keywordEach [] env)).all (fun x=>x.1.isSome)&&decide (es.length+([]:List Keyword).length+(if ([]:List Keyword).isEmpty then 0 else 1) < 30))=true:=by
 rw[Zq es h]
 have:(backToKw pos (keywordEach [] env)).all (fun x=>x.1.isSome)=true:=by with_unfolding_all rfl
 rw[this]
 simpa using hl
def Fl(j:Nat)(f:QF):SF:=fun M ρ=>match ρ[j]? with
 |some (some (.mut xs))=>((f M ρ).at M).then ρ fun d M'=>if xs.length < 100000 then .next (ρ.set j (some (.mut (xs++[d])))) M' else .bad
 |_=>.bad
theorem akE{j:Nat}{x:Str}{f:QF}{p apos:Pos}{epos:Pos}(hN:X.N[j]?=some x)(hv:Vis X.env.scope x)(hd:(x==("__debug__" : Str))=false)(hcd:(x==("__classdict__" : Str))=false)(he:QE aj X W e f)(hs:nst e=true)
  (hl:(apos.endLine==pos.line)=true):SE aj X W q (.Expr (.Call (.Attribute (.Name x p) "append" apos) [e] [] pos) epos) (Fl j f):=by
 have h0:=pe_var (X:=X) (pos:=p) hN hv hd hcd
 have h1:=pa_cons he pa_nil (cP hs [])
 have key:=pe_bm (X:=X) (cpos:=pos) (apos:=apos) PySem.F.plainAttrs_list PySem.F.slot_list_append PySem.F.type_list_append mt_append h0 h1 (mF rfl) (few (by simp[hs]) (by simp)) hl (cP hs []) (by with_unfolding_all rfl)
 refine PS.weak (ps_expr key (by with_unfolding_all rfl)) fun D σ H ⟨g,ρ,M,I,z⟩=>?_
 unfold Fl at z
 split at z
 ·next xs hj=>
  obtain⟨l,us,e1,e2,e3,e4⟩:=I.own j xs hj
  refine⟨.ref l,e1,.inl ⟨rfl,us,sq_of e2⟩,⟨g,ρ,M,I,?_⟩⟩
  cases hf:f M ρ with
  |exc x=>rw[hf]at z;exact fun H' c dd e r=>z σ H' g c dd (Gr.ex e) (I.ex e) r.fr
  |bad=>rw[hf]at z;exact False.elim z
  |ok d=>
   rw[hf]at z
   intro v H' e r
   have z:(if xs.length < 100000 then sS.next (ρ.set j (some (.mut (xs++[d])))) M else .bad).sat (sN X.K aj q D.nx g H) (sR X.K aj q D.rt g H) (sN X.K aj q D.bk g H) (sN X.K aj q D.ct g H) (sX X.K aj W q g H):=z
   split at z
   ·next hlen=>
    have I1:=I.ex e
    obtain⟨l',us',f1,f2,f3,f4,f5⟩:=I1.change (ys:=xs++[d]) hj
    rw[e1]at f1
    cases f1
    rw[e _ _ e2]at f2
    cases f2
    refine⟨l,us,v,rfl,rfl,e _ _ e2,sz_lt (by rw[e4.length];exact hlen),?_⟩
    exact z _ _ g ((Gr.ex e).trans (Gr.upd I1.kd (e _ _ e2) (.inr f3))) (f5 _ (f4.append (.cons r .nil)))
   ·exact False.elim z
 ·exact False.elim z
def alW(j:Nat)(fi f:QF):SF:=fun M ρ=>match ρ[j]? with
 |some (some (.mut xs))=>((f M ρ).at M).then ρ fun d M'=>((fi M' ρ).at M').then ρ fun i M2=>match i with
  |.int k=>match ixN xs.length k with
   |some n=>.next (ρ.set j (some (.mut (xs.set n d)))) M2
   |none=>.bad
  |_=>.bad
 |_=>.bad
end
structure Gc(g g':Gh)(H H':Hp):Prop where
 keep:∀a o,H a=some o->¬g.W a->H' a=some o
 dom:∀a,H' a=none->H a=none
 tbl:∃more,g'.tbl=g.tbl++more
 W:∀a,g.W a->g'.W a
 nW:∀a,g'.W a->g.W a∨H a=none
 Lc:g'.Lc=g.Lc
 Lo:g'.Lo=g.Lo
def V9(K:arJ)(aj:aQ)(n:Nat)(m:Mo->List Dat->Out Dat):Sp:=fun vs H Q E=>vs.length=n/\∃g M ds,Kd g H/\fV K aj g H M/\aJ K g H vs ds/\
 (m M ds).sat (fun d=>∀v H',Ex H H'->Rep K g H' v d->Q v H') fun x=>∀H' c dd,Ex H H'->qF K aj g H' x c dd->E c dd H'
def JR(K:arJ)(aj:aQ)(n:Nat)(m:Mo->List Dat->bx Dat):Sp:=fun vs H Q E=>vs.length=n/\∃g M ds,Kd g H/\fV K aj g H M/\aJ K g H vs ds/\
 (m M ds).sat (fun d M'=>∀v H' g',Gc g g' H H'->Kd g' H'->fV K aj g' H' M'->Rep K g' H' v d->Q v H') fun x M'=>∀H' g' c dd,Gc g g' H H'->Kd g' H'->fV K aj g' H' M'->qF K aj g' H' x c dd->E c dd H'
section
variable{K:arJ}{aj:aQ}{W:WX}{g g':Gh}{H H':Hp}{σ:L2.St}{ρ:Env}{M M':Mo}
theorem Gc.gr(r:Gc g g' H H'):Gr false g g' H H':=⟨fun a o h n _=>r.keep a o h n,(fun z=>nomatch z),r.dom,r.tbl,r.W,r.nW,(fun z=>nomatch z),r.Lc,fun a h=>by rw[r.Lo];exact h,fun a h=>by rw[r.Lo]at h;exact .inl h⟩
theorem SInv.call(r:Gc g g' H H')(k':Kd g' H')(w':fV K aj g' H' M')(I:SInv K aj σ H g ρ M):SInv K aj σ H' g' ρ M' where
 kd:=k'
 wok:=w'
 len:=I.len
 dat:=fun i d h=>by
  obtain⟨v,h1,h2⟩:=I.dat i d h
  exact⟨v,h1,h2.gr r.gr I.kd⟩
 own:=fun i xs h=>by
  obtain⟨l,us,h1,h2,h3,h4⟩:=I.own i xs h
  exact⟨l,us,h1,r.keep _ _ h2 (I.kd.lo l h3),by rw[r.Lo];exact h3,h4.gr r.gr I.kd⟩
 sep:=I.sep
def Gh.in(g:Gh):Gh:={ g with Lc:=fun a=>g.Lc a∨g.Lo a,Lo:=fun _=>False }
theorem Ye(g:Gh)(a:Addr):g.in.A a↔g.A a:=by
 constructor
 ·rintro(z|(z|z)|z)
  ·exact .inl z
  ·exact .inr (.inl z)
  ·exact .inr (.inr z)
  ·exact False.elim z
 ·rintro(z|z|z)
  ·exact .inl z
  ·exact .inr (.inl (.inl z))
  ·exact .inr (.inl (.inr z))
theorem Kd.in(k:Kd g H):Kd g.in H:=⟨fun a z=>k.ob a ((Ye g a).mp z),fun a z=>False.elim z,fun a z=>⟨z.elim (fun z=>(k.lc a z).1) (fun z=>k.lo a z),fun y=>y⟩⟩
def ini(n:Nat)(ds:List Dat):Env:=ds.map (fun d=>some (.dat d))++List.replicate (n - ds.length) none
theorem aa8{N:List Str}{vs:List V}{ds:List Dat}(k:Kd g H)(w:fV K aj g H M)(r:aJ K g H vs ds):SInv K aj (start N vs) H g (ini N.length ds) M where
 kd:=k
 wok:=w
 len:=by
  unfold L2.start ini
  rw[asw,asw,arT,arT,List.length_replicate,List.length_replicate,r.length]
 dat:=fun i d h=>by
  unfold ini at h
  unfold L2.start
  by_cases hi:i < ds.length
  ·rw[arX (by rw[arT];exact hi),arY]at h
   cases hd:ds[i]? with
   |none=>rw[hd]at h;cases h
   |some d'=>
    rw[hd]at h
    cases h
    obtain⟨v,h1,h2⟩:=r.get hd
    refine⟨v,?_,h2⟩
    rw[arX (by rw[arT,r.length];exact hi),arY,h1]
    rfl
  ·rw[ar6 (by rw[arT];omega)]at h
   rw[List.getElem?_replicate]at h
   split at h <;> cases h
 own:=fun i xs h=>by
  unfold ini at h
  by_cases hi:i < ds.length
  ·rw[arX (by rw[arT];exact hi),arY]at h
   cases hd:ds[i]? with
   |none=>rw[hd]at h;cases h
   |some d'=>rw[hd]at h;cases h
  ·rw[ar6 (by rw[arT];omega)]at h
   rw[List.getElem?_replicate]at h
   split at h <;> cases h
 sep:=fun i j xs ys l ne h=>by
  unfold ini at h
  by_cases hi:i < ds.length
  ·rw[arX (by rw[arT];exact hi),arY]at h
   cases hd:ds[i]? with
   |none=>rw[hd]at h;cases h
   |some d'=>rw[hd]at h;cases h
  ·rw[ar6 (by rw[arT];omega)]at h
   rw[List.getElem?_replicate]at h
   split at h <;> cases h
end
def mQ(n:Nat)(body:SF):Mo->List Dat->Out Dat:=fun M ds=>match body M (ini n ds) with
 |.ret d _=>.ok d
 |.next _ _=>.ok .none
 |.exc x _ _=>.exc x
 |_=>.bad
def mG(n:Nat)(body:SF):Mo->List Dat->bx Dat:=fun M ds=>match body M (ini n ds) with
 |.ret d M'=>.ok d M'
 |.next _ M'=>.ok .none M'
 |.exc x _ M'=>.exc x M'
 |_=>.bad
section
variable{P:Program}{w:World}{K:arJ}{mg:Str->Option Value}{base:Heap}{aj:aQ}
def afs(E:XK):WX:=fun c d _ H=>E c d H
theorem Rep.same{g g':Gh}{H:Hp}{v:V}{d:Dat}(e:g'.tbl=g.tbl)(n:∀a,g'.A a↔g.A a)(h:Rep K g H v d):Rep K g' H v d:=h.less e fun a z=>(n a).mp z
theorem acu{g g':Gh}{H H':Hp}(r:Gr true g.in g' H H'):Ex H H':=fun a o h=>by
 by_cases w:g.W a
 ·exact r.keepW rfl a o h w
 ·exact r.keep a o h w fun z=>z
theorem akB{q:Bool}{g g':Gh}{H H':Hp}(r:Gr q g.in g' H H')(a:Addr):g'.fr.A a↔(g'.W a∨g.Lc a∨g.Lo a):=by
 have hl:g'.Lc=g.in.Lc:=r.Lc
 constructor
 ·rintro(z|z|z)
  ·exact .inl z
  ·have z:g'.Lc a:=z
   rw[hl]at z
   exact .inr z
  ·exact False.elim z
 ·rintro(z|z)
  ·exact .inl z
  ·refine .inr (.inl ?_)
   show g'.Lc a
   rw[hl]
   exact z
theorem aoe{x qual:Str}{st:Stmt}{f:Addr}{fd:FuncData}{N ps:List Str}{k:Nat}{body:SF}(F:Fun K x qual st f fd)(S:FnScope N ps (defScope st))
  (hb:∀(cdv:Value) (A:Around) (outer:List PySem.Env) (s:Shared) (H:Hp) (E:XK),Room k (A.deeper (envOfC qual (defScope st) s.heap.objs.size f cdv))->JN aj (cxOf (L2.CX P w) P w K mg base N qual (defScope st) f cdv A outer s H E) (afs E) true (defBody st) body) :
  FnOk P w K mg base (L2.CX P w) (k+1) f fd ps (V9 K aj ps.length (mQ N.length body)):=by
 refine F.okX S (fun vs H Q E h=>h.1) (fun cdv A outer s H vs Q E hr h=>⟨_,hb cdv A outer s H E hr,?_⟩)
 obtain⟨hl,g,M,ds,kd,wk,rs,h⟩:=h
 have wk':fV K aj g.in H M:=fV.less (g:=g) (g':=g.in) rfl rfl (fun a z=>(Ye g a).mp z) wk
 refine⟨g.in,ini N.length ds,M,aa8 kd.in wk' (aJ.less (g:=g) (g':=g.in) rfl (fun a z=>(Ye g a).mp z) rs),?_⟩
 have back:∀{g':Gh} {H':Hp},Gr true g.in g' H H'->∀a,g.A a↔g'.fr.A a:=fun {g' H'} r a=>by
  rw[akB r a]
  have e:=(r.qg rfl)
  have ew:g'.W a↔g.W a:=by
   unfold Gh.W
   rw[e.1,e.2]
   rfl
  unfold Gh.A
  rw[ew]
 unfold mQ at h
 cases hf:body M (ini N.length ds) with
 |next ρ' M'=>
  rw[hf]at h
  exact fun σ' H' g' r I'=>h _ H' (acu r) .non
 |ret d M'=>
  rw[hf]at h
  exact fun v H' g' r k' w' rv=>h v H' (acu r) (Rep.same (g:=g'.fr) (g':=g) (r.qg rfl).1.symm (back r) rv)
 |exc x ρ' M'=>
  rw[hf]at h
  exact fun σ' H' g' c dd r I' rx=>h H' c dd (acu r) (qF.less (g:=g'.fr) (g':=g) (r.qg rfl).1.symm (fun a z=>(back r a).mp z) rx)
 |brk ρ' M'=>rw[hf]at h;exact False.elim h
 |cont ρ' M'=>rw[hf]at h;exact False.elim h
 |bad=>rw[hf]at h;exact False.elim h
theorem aoc{x qual:Str}{st:Stmt}{f:Addr}{fd:FuncData}{N ps:List Str}{k:Nat}{body:SF}(F:Fun K x qual st f fd)(S:FnScope N ps (defScope st))
  (hb:∀(cdv:Value) (A:Around) (outer:List PySem.Env) (s:Shared) (H:Hp) (E:XK),Room k (A.deeper (envOfC qual (defScope st) s.heap.objs.size f cdv))->JN aj (cxOf (L2.CX P w) P w K mg base N qual (defScope st) f cdv A outer s H E) (afs E) false (defBody st) body) :
  FnOk P w K mg base (L2.CX P w) (k+1) f fd ps (JR K aj ps.length (mG N.length body)):=by
 refine F.okX S (fun vs H Q E h=>h.1) (fun cdv A outer s H vs Q E hr h=>⟨_,hb cdv A outer s H E hr,?_⟩)
 obtain⟨hl,g,M,ds,kd,wk,rs,h⟩:=h
 have wk':fV K aj g.in H M:=fV.less (g:=g) (g':=g.in) rfl rfl (fun a z=>(Ye g a).mp z) wk
 refine⟨g.in,ini N.length ds,M,aa8 kd.in wk' (aJ.less (g:=g) (g':=g.in) rfl (fun a z=>(Ye g a).mp z) rs),?_⟩
 let gb:Gh->Gh:=fun g'=>{ tbl:=g'.tbl,ow:=g'.ow,Lc:=g.Lc,Lo:=g.Lo }
 have gc:∀{g':Gh} {H':Hp},Gr false g.in g' H H'->Gc g (gb g') H H':=fun {g' H'} r=>⟨fun a o h n=>r.keep a o h n fun z=>z,r.dom,r.tbl,r.W,r.nW,rfl,rfl⟩
 have eA:∀{g':Gh} {H':Hp},Gr false g.in g' H H'->∀a,(gb g').A a↔g'.fr.A a:=fun {g' H'} r a=>by
  rw[akB r a]
  exact Iff.rfl
 have kk:∀{g':Gh} {H':Hp},Gr false g.in g' H H'->Kd g'.fr H'->Kd (gb g') H':=fun {g' H'} r k'=>by
  have nw:∀a,(g.Lc a∨g.Lo a)->¬g'.W a:=fun a z y=>by
   have:g'.fr.Lc a:=by
    show g'.Lc a
    rw[show g'.Lc=g.in.Lc from r.Lc]
    exact z
   exact(k'.lc a this).1 y
  exact⟨fun a z=>k'.ob a ((eA r a).mp z),fun a z=>nw a (.inr z),fun a z=>⟨nw a (.inl z),(kd.lc a z).2⟩⟩
 unfold mG at h
 cases hf:body M (ini N.length ds) with
 |next ρ' M'=>
  rw[hf]at h
  exact fun σ' H' g' r I'=>h _ H' (gb g') (gc r) (kk r I'.kd.fr) (fV.less (g:=g'.fr) (g':=gb g') rfl rfl (fun a z=>(eA r a).mp z) I'.wok.fr) .non
 |ret d M'=>
  rw[hf]at h
  exact fun v H' g' r k' w' rv=>h v H' (gb g') (gc r) (kk r k') (fV.less (g:=g'.fr) (g':=gb g') rfl rfl (fun a z=>(eA r a).mp z) w') (Rep.same (g:=g'.fr) (g':=gb g') rfl (eA r) rv)
 |exc x ρ' M'=>
  rw[hf]at h
  exact fun σ' H' g' c dd r I' rx=>h H' (gb g') c dd (gc r) (kk r I'.kd.fr) (fV.less (g:=g'.fr) (g':=gb g') rfl rfl (fun a z=>(eA r a).mp z) I'.wok.fr) (qF.less (g:=g'.fr) (g':=gb g') rfl (fun a z=>(eA r a).mp z) rx)
 |brk ρ' M'=>rw[hf]at h;exact False.elim h
 |cont ρ' M'=>rw[hf]at h;exact False.elim h
 |bad=>rw[hf]at h;exact False.elim h
end
def aU(m:Mo->List Dat->Out Dat)(as:QA):QF:=fun M ρ=>(as M ρ).bind fun ds=>m M ds
section
variable{X:Cx}{aj:aQ}{W:WX}{q:Bool}{a b e:Expr}{es:List Expr}{pos p:Pos}{x:Str}{k:Nat}{f:Addr}{fd:FuncData}{ps:List Str}
theorem ah6{m:Mo->List Dat->Out Dat}{as:QA}(tk:Takes X W)(F:FnOk X.prog X.w X.K X.mg X.base (L2.CX X.prog X.w) k f fd ps (V9 X.K aj ps.length m))(hr:Room k X.A)(hg:Gl X x)(hm:X.mg x=some (.ref f))(hk:PySem.W.keepIn X.K (.ref f)=true)(hb:Binds X.K fd ps [])
  (ha:Ed aj X W (e::es) as) (hl:(e::es).length=ps.length) (hd:(x==("__debug__" : Str))=false) (hs:(e::es).all nst=true) (hn:∀M ρ ds,as M ρ=.ok ds->ds.length=(e::es).length):QE aj X W (.Call (.Name x p) (e::es) [] pos) (aU m as):=by
 have hs':=hs
 rw[asv,arK]at hs'
 refine PE.weak (pe_callS (E:=fun σ=>WE W σ) F hr hg hm hk hb (fun σ=>passAt tk σ) ha hd (cP hs'.1 es) (star_any es hs'.2)) fun σ H Q ⟨g,ρ,M,I,h⟩=>?_
 refine⟨g,ρ,M,I,?_⟩
 have h:=h.bnd
 cases has:as M ρ with
 |exc x=>rw[has]at h;exact h
 |bad=>rw[has]at h;exact h
 |ok ds=>
  rw[has]at h
  have h:(m M ds).sat (fun d=>∀v H',Ex H H'->Rep X.K g H' v d->Q v H') (qO X.K aj W g H σ):=h
  intro vs H1 e1 r1
  refine⟨by rw[r1.length,hn M ρ ds has];exact hl,g,M,ds,I.kd.ex e1,I.wok.ex e1 I.kd,r1,h.mono (fun d k v H' e' r'=>k v H' (e1.trans e') r') fun x k H' c dd e' r'=>k H' c dd (e1.trans e') r'⟩
end
theorem afB{n:Nat}(h:n<=16001):n<=sizeLine:=asi h (by decide)
theorem amH{prog:Program}{w:World}{A:Around}{E:Value->Shared->Prop}{s:Shared}{l:Addr}{v0:Value}{vs:List Value}{Q:List Value->Shared->Prop}(hh:A.handled=none)(hl:s.heap.IsList l (v0::vs).toArray∨IsTup s.heap l (v0::vs).toArray)(hz:vs.length<=16000)
  (h:∀(h₂:Heap) (tk:Nat),(∀b o,s.heap.get? b=some o->h₂.get? b=some o)->Q [v0,.ref h₂.objs.size] { s with heap:=h₂.push { cls:=.type "list",data:=.seq vs.toArray },toks:=tk }):wpAny (model prog w) A (unpackItems (.ref l) 2 (some 1)) Q E s:=by
 have hll:l < s.heap.objs.size:=by
  rcases hl with⟨o,ho,_⟩|⟨o,ho,_⟩ <;> exact Heap.lt_size ho
 have hlt:l≠s.heap.objs.size:=asp hll
 have hsz:(v0::vs).toArray.size=vs.length+1:=by simp
 have hb:(v0::vs).toArray.size<=sizeLine:=afB (by rw[hsz];omega)
 have hd:(v0::vs).toArray.toList.drop 1=vs:=by simp
 have ht:((v0::vs).toArray.toList.drop 0).take 1=[v0]:=by simp
 have fin:∀(h₂:Heap) (tk:Nat),(∀b o,b≠s.heap.objs.size->s.heap.get? b=some o->h₂.get? b=some o)->wpAny (model prog w) A (newList vs >>= fun d=>pure ([v0]++[d]++[])) Q E { s with heap:=h₂,toks:=tk }:=fun h₂ tk k=>by
  refine wpAny_bind (wpAny_newObj_type (wpAny_pure ?_) (afB (by simp;omega)))
  exact h h₂ tk fun b o e=>k b o (asp (Heap.lt_size e)) e
 unfold unpackItems
 refine wpAny_bind ?_
 unfold notIterableAtAll
 rcases hl with hl|hl
 ·refine wpAny_bind (wpAny_specialOf hl.typeIs slot_list_iter.lookup (wpAny_pure ?_))
  simp only[aso,if_false]
  refine wpAny_bind (wpAny_holding (wpAny_pyIter_list hl ?_))
  refine wpAny_bind (wpAny_holding (PySem.W.kun_draw hlt 1 0 _ _ ⟨_,Heap.get?_push_size _ rfl,rfl,rfl⟩ (hl.push _) (by rw[hsz];omega) fun h₁ i1 b1=>?_))
  have hl₁:=(hl.push _).extBut b1.extBut hlt
  obtain⟨oi,hoi,_⟩:=id i1
  obtain⟨ol,hol,_⟩:=id hl₁
  rw[ht]
  refine wpAny_bind (wpAny_holding (PySem.W.kun_collect (s:={ s with heap:=h₁ }) (T:="list_iterator") (.inr (.inr (.inl rfl))) (Walks.list (A:=A.in1) hh s.heap.objs.size l hlt (v0::vs).toArray) (fun j u st=>st.1.typeIs) (k:=1) (by rw[hsz];omega) ⟨i1,hl₁⟩ (Heap.lt_size hoi) (Heap.lt_size hol) (fun h₂ tk hk=>?_) hb))
  rw[hd]
  show wpAny _ _ (if vs.length < 0 then _ else newList (vs.take (vs.length - 0)) >>= fun d=>pure ([v0]++[d]++vs.drop (vs.length - 0))) _ _ _
  rw[if_neg (Nat.not_lt_zero _),Nat.sub_zero,List.take_length,asT]
  exact fin h₂ tk fun b o ne e=>hk b o ne (b1.extBut b o ne (Heap.get?_push_of_some _ e))
 ·refine wpAny_bind (wpAny_specialOf hl.typeIs slot_tuple_iter.lookup (wpAny_pure ?_))
  simp only[aso,if_false]
  refine wpAny_bind (wpAny_holding (iter_tuple hl ?_))
  refine wpAny_bind (wpAny_holding (draw_tuple hlt 1 0 _ _ ⟨_,Heap.get?_push_size _ rfl,rfl,rfl⟩ (hl.push _) (by rw[hsz];omega) fun h₁ i1 b1=>?_))
  have hl₁:IsTup h₁ l (v0::vs).toArray:=(hl.push _).extBut b1.extBut hlt
  obtain⟨oi,hoi,_⟩:=id i1
  obtain⟨ol,hol,_⟩:=id hl₁
  rw[ht]
  refine wpAny_bind (wpAny_holding (PySem.W.kun_collect (s:={ s with heap:=h₁ }) (T:="tuple_iterator") (.inr (.inr (.inr rfl))) (Walks.tuple (A:=A.in1) hh s.heap.objs.size l hlt (v0::vs).toArray) (fun j u st=>st.1.typeIs) (k:=1) (by rw[hsz];omega) ⟨i1,hl₁⟩ (Heap.lt_size hoi) (Heap.lt_size hol) (fun h₂ tk hk=>?_) hb))
  rw[hd]
  show wpAny _ _ (if vs.length < 0 then _ else newList (vs.take (vs.length - 0)) >>= fun d=>pure ([v0]++[d]++vs.drop (vs.length - 0))) _ _ _
  rw[if_neg (Nat.not_lt_zero _),Nat.sub_zero,List.take_length,asT]
  exact fin h₂ tk fun b o ne e=>hk b o ne (b1.extBut b o ne (Heap.get?_push_of_some _ e))
def agu(K:arJ)(i j:Nat):TG:=fun v σ H Q=>∃a v0 us,v=.ref a/\(SqL K H a (v0::us)∨SqT K H a (v0::us))/\us.length<=16000/\∀D,H D=none->Q ((σ.set i (some v0)).set j (some (.ref D))) (upd H D (.lst us))
def U6(X:Cx)(j:Nat)(x:Str):Prop:=X.N[j]?=some x/\Loc X.env.scope x/\(X.fn x=true∨X.env.scope.names.lookup x=some .local)
theorem ahH{X:Cx}{i j k:Nat}{x y:Str}{px py ps pos:Pos}(hc:X.calm=true)(hN:X.N.Nodup)(hx:U6 X i x)(hy:U6 X j y):PG X (.Tuple [.Name x px,.Starred (.Name y py) ps] k pos) (agu X.K i j):=by
 refine⟨fun pins s σ H v u Q I r h=>?_⟩
 obtain⟨a,v0,us,rfl,hq,hz,q⟩:=h
 cases r
 have e1:assign (.Tuple [.Name x px,.Starred (.Name y py) ps] k pos) X.env (.ref a)=(do standAt pos;unpack (.ref a) (assignEach [.Name x px,.Starred (.Name y py) ps] X.env)):=by with_unfolding_all rfl
 have e2:assignEach [.Name x px,.Starred (.Name y py) ps] X.env=[(false,assign (.Name x px) X.env),(true,assign (.Name y py) X.env)]:=by with_unfolding_all rfl
 rw[e1,e2]
 refine wpAny_bind (wpAny_standAt ?_)
 unfold unpack
 obtain⟨w0,ws,hlw,rv0,rvs⟩:∃w0 ws,(s.heap.IsList a (w0::ws).toArray∨IsTup s.heap a (w0::ws).toArray)/\RelV v0 w0/\Vals us ws:=by
  rcases hq with hq|hq
  ·obtain⟨its,rv,p,_⟩:=I.list hq
   cases rv with
   |cons r t=>exact⟨_,_,.inl p.isList,r,t⟩
  ·obtain⟨its,rv,p,_⟩:=I.tuple hq
   cases rv with
   |cons r t=>exact⟨_,_,.inr p,r,t⟩
 refine wpAny_bind (wpAny_holding (amH (I.ok.hd hc) hlw (by rw[←rvs.length];exact hz) fun h₂ tk hk=>?_))
 have I2:L2.Inv X pins σ H { s with heap:=h₂,toks:=tk }:=I.kept (t':=tk) hk
 have I3:=I2.lnew (t':=tk) rvs (afB (by omega))
 refine assignInOrder_cons (wpAny_assign_Name (store_ok I3 hN hx.1 hx.2.1 rv0 (fun s4 I4=>?_) hx.2.2))
 refine assignInOrder_cons (wpAny_assign_Name (store_ok I4 hN hy.1 hy.2.1 (v:=.ref h₂.objs.size) rfl (fun s5 I5=>assignInOrder_nil ?_) hy.2.2))
 exact⟨_,_,I5,q _ I2.fresh⟩
section
variable{X:Cx}{aj:aQ}{W:WX}{q:Bool}{e:Expr}{pos:Pos}
def Yb(i j:Nat)(f:GF):SF:=fun M ρ=>(f M ρ).then ρ fun d M'=>match d with
 |.list (d0::ds)=>if ds.length<=16000 then .next ((ρ.set i (some (.dat d0))).set j (some (.dat (.list ds)))) M' else .bad
 |.tuple (d0::ds)=>if ds.length<=16000 then .next ((ρ.set i (some (.dat d0))).set j (some (.dat (.list ds)))) M' else .bad
 |_=>.bad
theorem ahf{i j k:Nat}{x y:Str}{px py ps tp:Pos}{f:GF}(hc:X.calm=true)(hN:X.N.Nodup)(hx:U6 X i x)(hy:U6 X j y)(he:GE aj X W q e f)(hs:swapsWithSole [.Tuple [.Name x px,.Starred (.Name y py) ps] k tp] e pos.line X.env=pure false)(hw:swappedStores [.Tuple [.Name x px,.Starred (.Name y py) ps] k tp] e X.env=pure none) :
  SE aj X W q (.Assign [.Tuple [.Name x px,.Starred (.Name y py) ps] k tp] e pos) (Yb i j f):=by
 refine PS.weak (ps_asg he (ahH hc hN hx hy) hs hw (by with_unfolding_all rfl)) fun D σ H ⟨g,ρ,M,I,z⟩=>?_
 refine tE.go I (dw (σ:=σ) z) fun d M' v H' g' kk r I' rv=>?_
 have fin:∀{a:Addr} {v0:V} {us:List V} {d0:Dat} {ds:List Dat},v=.ref a->(SqL X.K H' a (v0::us)∨SqT X.K H' a (v0::us))->Rep X.K g' H' v0 d0->aJ X.K g' H' us ds->(if ds.length<=16000 then sS.next ((ρ.set i (some (.dat d0))).set j (some (.dat (.list ds)))) M' else .bad).sat (sN X.K aj q D.nx g H) (sR X.K aj q D.rt g H) (sN X.K aj q D.bk g H) (sN X.K aj q D.ct g H) (sX X.K aj W q g H)->agu X.K i j v σ H' D.nx:=fun {a v0 us d0 ds} ev hq r0 rs kk=>by
  split at kk
  ·next hz=>
   refine⟨a,v0,us,ev,hq,by rw[rs.length];exact hz,fun p np=>?_⟩
   have e1:=Ex.new (o:=.lst us) np
   have I2:=I'.ex e1
   refine kk _ _ g' (r.trans (Gr.ex e1)) ((I2.set (r0.ex e1 I'.kd)).set (.lst (.inl ⟨.inl upd_same,I'.kd.fresh np⟩) (rs.ex e1 I'.kd)))
  ·exact False.elim kk
 split at kk
 ·obtain⟨a,us,ev,s1,t1⟩:=jk rv.weak
  cases t1 with
  |cons r0 rs=>exact fin ev (.inl s1) r0 rs kk
 ·obtain⟨a,us,ev,s1,t1⟩:=kE rv.weak
  cases t1 with
  |cons r0 rs=>exact fin ev (.inr s1) r0 rs kk
 ·exact False.elim kk
def Ri(i j:Nat)(f:GF):SF:=fun M ρ=>(f M ρ).then ρ fun d M'=>.next ((ρ.set i (some (.dat d))).set j (some (.dat d))) M'
theorem aiH{i j:Nat}{x y:Str}{px py:Pos}{f:GF}(hN:X.N.Nodup)(hx:U6 X i x)(hy:U6 X j y)(he:GE aj X W q e f)(hw:swappedStores [.Name x px,.Name y py] e X.env=pure none):SE aj X W q (.Assign [.Name x px,.Name y py] e pos) (Ri i j f):=by
 refine PS.weak (ps_asg2 he (pg_name hN hx.1 hx.2.1 hx.2.2) (pg_name hN hy.1 hy.2.1 hy.2.2) (by with_unfolding_all rfl) hw) fun D σ H ⟨g,ρ,M,I,z⟩=>?_
 exact tE.go I (dw (σ:=σ) z) fun d M' v H' g' kk r I' rv=>kk _ H' g' r ((I'.set rv).set rv)
theorem Rj{pins:List (Addr×Obj)}{H:Hp}{Q:Unit->Shared->Prop}(hN:X.N.Nodup):∀{xs:List Str} {js:List Nat} {vs:List V} {us:List Value} {σ:L2.St} {s:Shared},xs.length=js.length->Vals vs us->us.length=js.length->(∀(n:Nat) (x:Str) (j:Nat),xs[n]?=some x->js[n]?=some j->X.N[j]?=some x/\X.env.scope.names.lookup x=some .local)->L2.Inv X pins σ H s->
  (∀s',L2.Inv X pins (sets σ js vs) H s'->Q () s')->wpAny (model X.prog X.w) X.A (assignInOrder (xs.map fun n=>bindName X.env n) us) Q X.xe s
 |[],[],_,[],σ,s,_,.nil,_,_,I,h=>assignInOrder_nil (h s I)
 |[],[],_,_::_,_,_,_,_,e,_,_,_=>nomatch e
 |[],_::_,_,_,_,_,e,_,_,_,_,_=>nomatch e
 |_::_,[],_,_,_,_,e,_,_,_,_,_=>nomatch e
 |x::xs,j::js,_,[],_,_,_,.nil,e,_,_,_=>nomatch e
 |x::xs,j::js,_,_::_,σ,s,e1,.cons r t,e2,hn,I,h=>by
  obtain⟨h1,h2⟩:=hn 0 x j rfl rfl
  refine assignInOrder_cons (wpAny_bindName (store_ok I hN h1 (.inl h2) r (fun s2 I2=>?_) (.inr h2)))
  exact Rj hN (asK e1) t (asK e2) (fun n x j a b=>hn (n+1) x j a b) I2 h
theorem aaR(σ:L2.St):∀(js:List Nat) (vs:List V) (ks:List Nat) (ws:List V),js.length=vs.length->sets σ (js++ks) (vs++ws)=sets (sets σ js vs) ks ws:=by
 intro js
 induction js generalizing σ with
 |nil=>
  intro vs ks ws e
  cases vs with
  |nil=>rfl
  |cons v vs=>cases e
 |cons j js ih=>
  intro vs ks ws e
  cases vs with
  |nil=>cases e
  |cons v vs=>exact ih (σ.set j (some v)) vs ks ws (asK e)
theorem Vz(j:Nat)(v:V):∀(js:List Nat) (vs:List V) (σ:L2.St),j∉js->(sets σ js vs).set j (some v)=sets (σ.set j (some v)) js vs
 |[],_,_,_=>by unfold sets;rfl
 |_::_,[],_,_=>by unfold sets;rfl
 |k::js,w::vs,σ,h=>by
  show(sets (σ.set k (some w)) js vs).set j (some v)=sets ((σ.set j (some v)).set k (some w)) js vs
  rw[Vz j v js vs _ fun z=>h (arO _ z),List.set_comm _ _ (fun z=>h (by rw[z];exact arP))]
theorem aaj:∀(js:List Nat) (vs:List V) (σ:L2.St),js.Nodup->js.length=vs.length->sets σ js.reverse vs.reverse=sets σ js vs
 |[],[],_,_,_=>rfl
 |[],_::_,_,_,e=>nomatch e
 |_::_,[],_,_,e=>nomatch e
 |j::js,v::vs,σ,nd,e=>by
  rw[asQ]at nd
  rw[as4,as4,aaR _ _ _ _ _ (by rw[asJ,asJ];exact asK e),aaj js vs σ nd.2 (asK e)]
  show(sets σ js vs).set j (some v)=sets (σ.set j (some v)) js vs
  exact Vz j v js vs σ nd.1
theorem vals_rev{vs:List V}{us:List Value}(r:Vals vs us):Vals vs.reverse us.reverse:=by
 induction r with
 |nil=>exact .nil
 |cons h t ih=>
  rw[as4,as4]
  exact Vals.append ih (.cons h .nil)
def tPN(js:List Nat)(ta:TA):TS:=fun D σ H=>ta σ H fun vs H1=>vs.length=js.length/\D.nx (sets σ js vs) H1
theorem al4{ts es:List Expr}{xs:List Str}{js:List Nat}{ta:TA}{kt k2:Nat}{pt p2:Pos}(hc:X.calm=true)(hN:X.N.Nodup)(hnd:js.Nodup)(hl:xs.length=js.length)(h3:js.length<=3)(hn:∀(n:Nat) (x:Str) (j:Nat),xs[n]?=some x->js[n]?=some j->X.N[j]?=some x/\X.env.scope.names.lookup x=some .local)(ha:PA X es ta)
  (hw:swappedStores [.Tuple ts kt pt] (.Tuple es k2 p2) X.env=pure (some xs)) (hs:swapsWithSole [.Tuple ts kt pt] (.Tuple es k2 p2) pos.line X.env=pure false):PS X (.Assign [.Tuple ts kt pt] (.Tuple es k2 p2) pos) (tPN js ta):=by
 refine⟨fun pins s σ H D I h=>?_⟩
 rw[exec_Assign_arm]
 refine wpAny_bind (wpAny_standAt ?_)
 rw[hs]
 refine wpAny_bind (wpAny_pure ?_)
 rw[if_neg (by decide)]
 refine wpAny_bind (Tuple_ (thn (ha.run _ pins s σ H _ I h) fun us s1 ⟨vs,H1,I1,r1,e1,q1⟩=>?_))
 have hu:us.length=js.length:=by
  rw[←r1.length]
  exact e1
 refine wpAny_newObj_type ?_ (asi (by simp;omega) (show 3<=sizeLine by decide))
 have I2:L2.Inv X pins σ H1 { s1 with heap:=s1.heap.push { cls:=.type "tuple",data:=.seq us.toArray } }:=I1.kept (t':=s1.toks) fun b o z=>Heap.get?_push_of_some _ z
 rw[hw]
 refine wpAny_bind (wpAny_pure ?_)
 show wpAny (model X.prog X.w) X.A (do rule "assign.swapped-stores";let items ←unpackItems (.ref s1.heap.objs.size) xs.length none;assignInOrder (xs.reverse.map fun n=>bindName X.env n) items.reverse;pure Flow.next) _ _ _
 have hz:us.toArray.size=xs.length:=by
  rw[as3,hu,hl]
 have hup:=fun {Q:List Value->Shared->Prop} hQ=>unpackItems_tuple (prog:=X.prog) (w:=X.w) (A:=X.A) (E:=X.xe) (s:={ s1 with heap:=s1.heap.push { cls:=.type "tuple",data:=.seq us.toArray } }) (items:=us.toArray) (Q:=Q) (I.ok.hd hc) (IsTup.new s1.heap _) hQ
 rw[hz]at hup
 refine wpAny_bind (wpAny_rule (wpAny_bind (hup fun h' hx'=>?_)))
 have I3:=I2.kept (h':=h') (t':=s1.toks) fun b o z=>hx' b o (asp (Heap.lt_size z)) z
 refine wpAny_bind (Rj hN (js:=js.reverse) (vs:=vs.reverse) (by rw[asJ,asJ];exact hl) (vals_rev r1) (by rw[asJ,asJ];exact hu) (fun n x j a b=>?_) I3 fun s4 I4=>wpAny_pure ?_)
 ·have n1:=(arL.mp a).1
  have n2:=(arL.mp b).1
  rw[asJ]at n1 n2
  rw[List.getElem?_reverse n1]at a
  rw[List.getElem?_reverse n2,←hl]at b
  exact hn _ x j a b
 ·rw[aaj js vs σ hnd e1.symm]at I4
  exact⟨_,H1,I4,q1⟩
def sPN(js:List Nat)(as:QA):SF:=fun M ρ=>((as M ρ).at M).then ρ fun ds M'=>match rA js ds ρ with
 |some ρ'=>.next ρ' M'
 |none=>.bad
theorem ame{ts es:List Expr}{xs:List Str}{js:List Nat}{as:QA}{kt k2:Nat}{pt p2:Pos}(hc:X.calm=true)(hN:X.N.Nodup)(hnd:js.Nodup)(hl:xs.length=js.length)(h3:js.length<=3)(hn:∀(n:Nat) (x:Str) (j:Nat),xs[n]?=some x->js[n]?=some j->X.N[j]?=some x/\X.env.scope.names.lookup x=some .local)(ha:Ed aj X W es as)
  (hw:swappedStores [.Tuple ts kt pt] (.Tuple es k2 p2) X.env=pure (some xs)) (hs:swapsWithSole [.Tuple ts kt pt] (.Tuple es k2 p2) pos.line X.env=pure false):SE aj X W q (.Assign [.Tuple ts kt pt] (.Tuple es k2 p2) pos) (sPN js as):=by
 refine PS.weak (al4 hc hN hnd hl h3 hn ha hw hs) fun D σ H ⟨g,ρ,M,I,z⟩=>?_
 refine⟨g,ρ,M,I,?_⟩
 unfold sPN at z
 cases hf:as M ρ with
 |exc x=>rw[hf]at z;exact fun H' c dd e r=>z σ H' g c dd (Gr.ex e) (I.ex e) r.fr
 |bad=>rw[hf]at z;exact False.elim z
 |ok ds=>
  rw[hf]at z
  intro vs H' e r
  have z:(match rA js ds ρ with
   |some ρ'=>sS.next ρ' M
   |none=>.bad).sat (sN X.K aj q D.nx g H) (sR X.K aj q D.rt g H) (sN X.K aj q D.bk g H) (sN X.K aj q D.ct g H) (sX X.K aj W q g H):=z
  split at z
  ·next ρ' e'=>
   obtain⟨l1,I1⟩:=Iw (I.ex e) r e'
   exact⟨l1,z _ H' g (Gr.ex e) I1⟩
  ·exact False.elim z
theorem ajC{j:Nat}{y:Str}{py:Pos}{elt tg iter:Expr}{cpos:Pos}{scope:Scope}{own:List (Str×Nat)}{it:IF}{tgf:fU}{js:List Nat}{tt:QT}{te:QF}{ifs:List Expr}(hc:X.calm=true)(hN:X.N.Nodup)(hy:X.N[j]?=some y)(hyl:X.env.scope.names.lookup y=some .local)
  (hsw:swapsWith (.ListComp elt [⟨tg,iter,ifs,0⟩] scope cpos) (some (.Name y py)) pos.line X.env=pure true) (hi:QI aj X W false tg iter it) (ok:blkC X.N X.env.scope scope own=true) (hj:∀j∈js,j∈own.map (·.2))
  (hg:∀(s:Shared) (H:Hp) (C:Addr) (cl:List (Str×Addr)) (fp:List Addr),QG aj (X.blk s H scope (compEnvC scope cl C X.env) fp) tg js tgf)
  (ht:∀(s:Shared) (H:Hp) (C:Addr) (cl:List (Str×Addr)) (fp:List Addr),PTs (X.blk s H scope (compEnvC scope cl C X.env) fp) ifs (kh X.K aj WF tt))
  (he:∀(s:Shared) (H:Hp) (C:Addr) (cl:List (Str×Addr)) (fp:List Addr),QE aj (X.blk s H scope (compEnvC scope cl C X.env) fp) WF elt te) (hs:∀x,foldedSetIterable iter X.env x=pure x) :
  SE aj X W q (.Assign [.Name y py] (.ListComp elt [⟨tg,iter,ifs,0⟩] scope cpos) pos) (aX (aF j) (gOf (eU it tgf (own.map (·.2)) tt te))):=by
 refine PS.weak (ps_setLc (g:=zW X.K aj js tgf) (tt:=kh X.K aj WF tt) (te:=tQ X.K aj WF te) hc hN hy hyl hsw hi (blkOk_by ok) (fun s H C cl fp=>hg s H C cl fp) ht (fun s H C cl fp=>he s H C cl fp) hs) fun D σ H ⟨g,ρ,M,I,z⟩=>?_
 refine agr hj σ H _ ⟨g,ρ,M,I,(Out.jf (dw (σ:=σ) z)).mono (fun d kk v H' e r=>?_) fun x kk H' c dd e r=>kk H' g c dd (Gr.ex e) (I.ex e) r⟩
 exact kk _ H' g (Gr.ex e) ((I.ex e).set r)
end
inductive GV where
 |con (d:Dat)
 |fq (n:Nat) (m:Mo->List Dat->Out Dat)
 |fg (n:Nat) (m:Mo->List Dat->bx Dat)
 |dic (kvs:List (Str×Dat))
 |exc
 |exi (fs:List Str)
 |cls (n:Nat) (m:Mo->List Dat->bx Dat)
inductive MV where
 |q (n:Nat) (m:Mo->List Dat->Out Dat)
 |g (n:Nat) (m:Mo->List Dat->bx Dat)
def FQ(P:Program)(w:World)(K:arJ)(mg:Str->Option Value)(base:Heap)(aj:aQ)(k:Nat)(f:Addr)(n:Nat)(m:Mo->List Dat->Out Dat):Prop:=
 ∃(fd:FuncData) (ps:List Str) (j:Nat),j<=k/\ps.length=n/\Binds K fd ps []/\FnOk P w K mg base (L2.CX P w) j f fd ps (V9 K aj ps.length m)
def FG(P:Program)(w:World)(K:arJ)(mg:Str->Option Value)(base:Heap)(aj:aQ)(k:Nat)(f:Addr)(n:Nat)(m:Mo->List Dat->bx Dat):Prop:=
 ∃(fd:FuncData) (ps:List Str) (j:Nat),j<=k/\ps.length=n/\Binds K fd ps []/\FnOk P w K mg base (L2.CX P w) j f fd ps (JR K aj ps.length m)
def jy(K:arJ)(aj:aQ):Prop:=∀c C f,aj c=some C->f∈aj.fl c->Cls K C/\NoAttr K C f
def bV(P:Program)(w:World)(K:arJ)(mg:Str->Option Value)(base:Heap)(aj:aQ)(k:Nat)(c m:Str)(v:MV):Prop:=
 ∃C f,aj c=some C/\Cls K C/\Meth K C m f/\m∉aj.fl c/\match v with
  |.q n mm=>FQ P w K mg base aj k f n mm
  |.g n mm=>FG P w K mg base aj k f n mm
def agh(C:Addr)(fs:List Str):Sp:=fun vs H Q _=>∃(a:Addr) (xs:List V),vs=.ref a::xs/\xs.length=fs.length/\H a=some (exo a C none)/\
 ∀(dx:Addr) (H':Hp),H dx=none->(∀b o,b≠a->H b=some o->H' b=some o)->(∀b,H' b=none->H b=none)->H' a=some (exo a C (some dx))->H' dx=some (exd dx (fs.zip xs).reverse)->Q .non H'
def acp(w:World)(K:arJ)(a:Addr)(kvs:List (Str×Dat)):Prop:=∃(es:Array DictEntry) (n:Nat),KDict K w a es n/\(kvs.map (·.1)).Nodup/\
 ∀x:Str,match kvs.lookup x with
  |some d=>∃v u,PySem.W.nsIn K a x=some (some u)/\RelV v u/\∀g H,Rep K g H v d
  |none=>PySem.W.nsIn K a x=some none
def bf(P:Program)(w:World)(K:arJ)(mg:Str->Option Value)(base:Heap)(aj:aQ)(k:Nat)(x:Str):GV->Prop
 |.con d=>∃v u,mg x=some u/\RelV v u/\∀g H,Rep K g H v d
 |.fq n m=>∃f,mg x=some (.ref f)/\PySem.W.keepIn K (.ref f)=true/\FQ P w K mg base aj k f n m
 |.fg n m=>∃f,mg x=some (.ref f)/\PySem.W.keepIn K (.ref f)=true/\FG P w K mg base aj k f n m
 |.dic kvs=>∃a,mg x=some (.ref a)/\acp w K a kvs
 |.exc=>∃C,mg x=some (.ref C)/\aj x=some C/\PySem.W.excIn K C He.veBase "ValueError.__new__"=true/\PySem.W.keepIn K (.ref C)=true/\PySem.W.subIn K (.ref C) (.type "BaseException")=some true/\PySem.W.typeIn K (.ref C)=some (.type "type")
 |.exi fs=>∃(C fI:Addr) (fd:FuncData) (ps:List Str),mg x=some (.ref C)/\aj x=some C/\OexC K C/\PySem.W.findIn K (.ref C) "__init__"=some (some (.ref fI))/\PySem.W.typeIn K (.ref fI)=some (.type "function")/\2<=k/\ps.length=fs.length+1/\Binds K fd ps []/\FnOk P w K mg base CX0 1 fI fd ps (agh C fs)
 |.cls n m=>∃(C f:Addr) (fd:FuncData) (ps:List Str) (j:Nat),mg x=some (.ref C)/\aj x=some C/\Cls K C/\Mk K C f/\j+1<=k/\ps.length=n+1/\Binds K fd ps []/\FnOk P w K mg base (L2.CX P w) j f fd ps (JR K aj ps.length m)
def acY(K:arJ)(aj:aQ)(y:Str)(tk:Str->Option Bool):Prop:=∀x b C,tk x=some b->aj x=some C->∀D,aj y=some D->PySem.W.exmOne K (.ref C) (.ref D)=some b
def putL(f:Str)(x:jd):List (Str×jd)->List (Str×jd)
 |[]=>[(f,x)]
 |(g,y)::r=>if g=f then(g,x)::r else(g,y)::putL f x r
def Inst.put(i:Inst)(f:Str)(x:jd):Inst:=⟨i.cls,putL f x i.fs⟩
theorem Jv(f:Str)(x:jd):∀gs:List (Str×jd),(putL f x gs).map (·.1)=if f∈gs.map (·.1) then gs.map (·.1) else gs.map (·.1)++[f]
 |[]=>by simp[putL]
 |(g,y)::r=>by
  have ih:=Jv f x r
  rw[putL]
  by_cases e:g=f
  ·subst e
   simp
  ·rw[if_neg e,arN,ih]
   by_cases h:f∈r.map (·.1)
   ·rw[if_pos h,if_pos (by simp[h])]
    rfl
   ·rw[if_neg h,if_neg (by
     rw[arN,arZ]
     rintro(z|z)
     ·exact e z.symm
     ·exact h z)]
    rfl
theorem acI{f:Str}{x:jd}{gs:List (Str×jd)}(h:(gs.map (·.1)).Nodup):((putL f x gs).map (·.1)).Nodup:=by
 rw[Jv]
 split
 ·exact h
 ·next n=>
  rw[asH]
  refine⟨h,by simp,fun a ha b hb e=>?_⟩
  subst e
  rw[arQ]at hb
  subst hb
  exact n ha
theorem Lw{f:Str}{v:V}:∀{fs:List (Str×V)},fs.lookup f=some v->putF f v fs=fs
 |[],h=>nomatch h
 |(g,y)::r,h=>by
  rw[asj]at h
  rw[show putF f v ((g,y)::r)=(if g=f then(g,v)::r else(g,y)::putF f v r) from rfl]
  by_cases e:g=f
  ·subst e
   simp at h
   rw[if_pos rfl,h]
  ·have ne:(f==g)=false:=by simpa using fun z=>e z.symm
   rw[ne]at h
   rw[if_neg e,Lw h]
section
variable{K:arJ}{aj:aQ}{W:WX}{g g':Gh}{H H':Hp}{σ:L2.St}{ρ:Env}{M:Mo}{h:Nat}{f:Str}{v:V}{fl:jd}
theorem cM.put(hk:∀f' v' fl',f'≠f->dN K aj g H h f' v' fl'->dN K aj g' H' h f' v' fl')(new:dN K aj g' H' h f v fl):∀{fs:List (Str×V)} {gs:List (Str×jd)},cM K aj g H h fs gs->(gs.map (·.1)).Nodup->cM K aj g' H' h (putF f v fs) (putL f fl gs)
 |_,_,.nil,_=>.cons new .nil
 |_,_,.cons (f:=f') (v:=v') (fl:=fl') (fs:=fs) (gs:=gs) z t,nd=>by
  rw[show putF f v ((f',v')::fs)=(if f'=f then(f',v)::fs else(f',v')::putF f v fs) from rfl,putL]
  rw[arN,asQ]at nd
  by_cases e:f'=f
  ·subst e
   rw[if_pos rfl,if_pos rfl]
   refine .cons new ?_
   have go:∀{fs:List (Str×V)} {gs:List (Str×jd)},cM K aj g H h fs gs->f'∉gs.map (·.1)->cM K aj g' H' h fs gs:=fun {fs gs} t=>by
    induction t with
    |nil=>exact fun _=>.nil
    |cons z _ ih=>
     intro n
     rw[arN,arZ,not_or]at n
     exact .cons (hk _ _ _ (fun q=>n.1 q.symm) z) (ih n.2)
   exact go t nd.1
  ·rw[if_neg e,if_neg e]
   exact .cons (hk _ _ _ e z) (cM.put hk new t nd.2)
structure Chg(M:Mo)(g g':Gh)(H H':Hp)(h:Nat)(f:Str):Prop where
 gc:Gc g g' H H'
 kd:Kd g' H'
 tbl:g'.tbl=g.tbl
 ow:∀a p,g.ow a=some p->g'.ow a=some p
 oth:∀a p,g.ow a=some p->p≠(h,f)->H' a=H a
 ins:∀(k:Nat) (a:Addr) (i:Inst),g.tbl[k]?=some a->M[k]?=some i->i.cls≠""->k≠h->H' a=H a
 nt:∀(k:Nat) (a:Addr) (i:Inst),g.tbl[k]?=some a->M[k]?=some i->i.cls≠""->∀p,g'.ow a≠some p
theorem jE.chg{l:Addr}(r:Gr false g g' H H')(k:Kd g H)(e:H' l=H l):∀{n:Bool} {kvs:List (Dat×Dat)},jE K aj g H l n kvs->jE K aj g' H' l n kvs
 |false,_,⟨kv,h1,h2,h3⟩=>⟨kv,e.trans h1,h2,h3.gr r k⟩
 |true,_,⟨o,xs,vs,h1,h2,h3,h4,h5,h6⟩=>⟨o,xs,vs,e.trans h1,h2,h3,h4.gr r k,h5,h6.gr r k⟩
theorem dN.chg(c:Chg M g g' H H' h f)(k:Kd g H){h':Nat}{f':Str}{v':V}(ne:(h',f')≠(h,f)):∀{fl':jd},dN K aj g H h' f' v' fl'->dN K aj g' H' h' f' v' fl'
 |.dat _,z=>Rep.gr c.gc.gr k z
 |.lst _ _,⟨l,us,h1,h2,h3,h4,h5⟩=>⟨l,us,h1,(c.oth l _ h3 ne).trans h2,c.ow l _ h3,h4.gr c.gc.gr k,c.gc.gr.tb h5⟩
 |.dic _ _,⟨l,h1,h2,h3⟩=>⟨l,h1,c.ow l _ h2,h3.chg c.gc.gr k (c.oth l _ h2 ne)⟩
theorem fV.chg(w:fV K aj g H M)(k:Kd g H)(c:Chg M g g' H H' h f){a:Addr}{i:Inst}(ha:g.tbl[h]?=some a)(hi:M[h]?=some i)(hne:i.cls≠"")(hf:f∈aj.fl i.cls){C dx:Addr}{fs:List (Str×V)}(hC:aj i.cls=some C)(R:cM K aj g H h fs i.fs)
  (e':H' a=some (.ins C dx (putF f v fs))) (new:dN K aj g' H' h f v fl):fV K aj g' H' (M.set h (i.put f fl)) where
 len:=by rw[c.tbl,asf];exact w.len
 inj:=by rw[c.tbl];exact w.inj
 ins:=fun h' a' i' ha' hi' hc'=>by
  rw[c.tbl]at ha'
  by_cases z:h'=h
  ·subst z
   rw[ha]at ha'
   cases ha'
   rw[ar3 (arL.mp hi).1]at hi'
   cases hi'
   exact⟨C,dx,_,hC,e',R.put (fun f' v' fl' ne z=>z.chg c k fun q=>ne (congrArg Prod.snd q)) new (w.nd _ i hi)⟩
  ·rw[arS (Ne.symm z)]at hi'
   obtain⟨C',dx',fs',c1,c2,c3⟩:=w.ins h' a' i' ha' hi' hc'
   refine⟨C',dx',fs',c1,(c.ins h' a' i' ha' hi' hc' z).trans c2,?_⟩
   have go:∀{fs:List (Str×V)} {gs:List (Str×jd)},cM K aj g H h' fs gs->cM K aj g' H' h' fs gs:=fun {fs gs} t=>by
    induction t with
    |nil=>exact .nil
    |cons y _ ih=>exact .cons (y.chg c k fun q=>z (congrArg Prod.fst q)) ih
   exact go c3
 nd:=fun h' i' hi'=>by
  by_cases z:h'=h
  ·subst z
   rw[ar3 (arL.mp hi).1]at hi'
   cases hi'
   exact acI (w.nd _ i hi)
  ·rw[arS (Ne.symm z)]at hi'
   exact w.nd h' i' hi'
 fd:=fun h' i' hi' f' hf'=>by
  by_cases z:h'=h
  ·subst z
   rw[ar3 (arL.mp hi).1]at hi'
   cases hi'
   have hf':f'∈(putL f fl i.fs).map (·.1):=hf'
   rw[Jv]at hf'
   split at hf'
   ·exact w.fd _ i hi f' hf'
   ·rcases arW.mp hf' with y|y
    ·exact w.fd _ i hi f' y
    ·rw[arQ]at y
     rw[y]
     exact hf
  ·rw[arS (Ne.symm z)]at hi'
   exact w.fd h' i' hi' f' hf'
 tw:=fun k' a' i' ha' hi' hc'=>by
  rw[c.tbl]at ha'
  have:∃i0,M[k']?=some i0/\i0.cls≠"":=by
   by_cases z:k'=h
   ·subst z
    exact⟨i,hi,hne⟩
   ·rw[arS (Ne.symm z)]at hi'
    exact⟨i',hi',hc'⟩
  obtain⟨i0,m1,m2⟩:=this
  cases hz:g'.ow a' with
  |none=>rfl
  |some p=>exact absurd hz (c.nt k' a' i0 ha' m1 m2 p)
 dm:=fun h' i' hi' hc'=>by
  by_cases z:h'=h
  ·subst z
   rw[ar3 (arL.mp hi).1]at hi'
   cases hi'
   exact absurd hc' hne
  ·rw[arS (Ne.symm z)]at hi'
   exact w.dm h' i' hi' hc'
 nc:=w.nc
theorem amV{a:Addr}(ha:g.tbl[h]?=some a):g.W a:=.inl (arR ha)
theorem U7(k:Kd g H)(w:fV K aj g H M){a:Addr}{i:Inst}(ha:g.tbl[h]?=some a)(hi:M[h]?=some i)(hc:i.cls≠""){C dx:Addr}{fs':List (Str×V)}:Chg M g g H (upd H a (.ins C dx fs')) h f where
 gc:=⟨fun b o hb n=>by rw[upd_ne (fun z=>by subst z;exact n (amV ha))];exact hb,fun b hb=>by
  by_cases z:b=a
  ·subst z
   rw[upd_same]at hb
   cases hb
  ·rw[upd_ne z]at hb
   exact hb,⟨[],by simp⟩,fun _ z=>z,fun _ z=>.inl z,rfl,rfl⟩
 kd:=k.upd trivial
 tbl:=rfl
 ow:=fun _ _ z=>z
 oth:=fun b p hb _=>upd_ne fun z=>by
  subst z
  rw[w.tw h _ i ha hi hc]at hb
  cases hb
 ins:=fun j b i' hb _ _ ne=>upd_ne fun z=>by
  subst z
  exact ne (w.inj _ _ _ hb ha)
 nt:=fun j b i' hb hj hcj p z=>by
  rw[w.tw j b i' hb hj hcj]at z
  cases z
def Gh.own(g:Gh)(l:Addr)(h:Nat)(f:Str):Gh:={ g with ow:=fun b=>if b=l then some (h,f) else g.ow b }
theorem amn{l a:Addr}(hl:l∈g.tbl):(g.own l h f).W a↔g.W a:=by
 constructor
 ·rintro(z|z)
  ·exact .inl z
  ·by_cases y:a=l
   ·subst y
    exact .inl hl
   ·have z:(if a=l then some (h,f) else g.ow a)≠none:=z
    rw[if_neg y]at z
    exact .inr z
 ·rintro(z|z)
  ·exact .inl z
  ·refine .inr ?_
   show(if a=l then some (h,f) else g.ow a)≠none
   split
   ·exact fun q=>nomatch q
   ·exact z
theorem Uo(k:Kd g H)(w:fV K aj g H M){a l:Addr}{n:Nat}{i:Inst}(ha:g.tbl[h]?=some a)(hi:M[h]?=some i)(hc:i.cls≠"")(hl:g.tbl[n]?=some l)(hn:M[n]?=some ⟨"",[]⟩)(nl:g.ow l=none){C dx:Addr}{fs':List (Str×V)}:Chg M g (g.own l h f) H (upd H a (.ins C dx fs')) h f:=by
 have W':∀{b:Addr},(g.own l h f).W b↔g.W b:=fun {b}=>amn (arR hl)
 have d:=U7 (f:=f) (C:=C) (dx:=dx) (fs':=fs') k w ha hi hc
 refine⟨⟨d.gc.keep,d.gc.dom,⟨[],by simp[Gh.own]⟩,fun b z=>W'.mpr z,fun b z=>.inl (W'.mp z),rfl,rfl⟩,⟨fun b z=>d.kd.ob b ?_,fun b z y=>d.kd.lo b z (W'.mp y),fun b z=>⟨fun y=>(d.kd.lc b z).1 (W'.mp y),(d.kd.lc b z).2⟩⟩,rfl,fun b p z=>?_,d.oth,d.ins,fun j b i' hb hj hcj p z=>?_⟩
 ·rcases z with z|z|z
  ·exact .inl (W'.mp z)
  ·exact .inr (.inl z)
  ·exact .inr (.inr z)
 ·show(if b=l then some (h,f) else g.ow b)=some p
  rw[if_neg (fun y=>by subst y;rw[nl]at z;cases z)]
  exact z
 ·have z:(if b=l then some (h,f) else g.ow b)=some p:=z
  by_cases y:b=l
  ·subst y
   cases w.inj _ _ _ hb hl
   rw[hn]at hj
   cases hj
   exact hcj rfl
  ·rw[if_neg y,w.tw j b i' hb hj hcj]at z
   cases z
theorem aeh(k:Kd g H)(w:fV K aj g H M){l:Addr}{o':HO}(ho:g.ow l=some (h,f))(mo:Ig o'):Chg M g g H (upd H l o') h f where
 gc:=⟨fun b u hb n=>by rw[upd_ne (fun z=>by subst z;exact n (.inr (by rw[ho];exact fun y=>nomatch y)))];exact hb,fun b hb=>by
  by_cases z:b=l
  ·subst z
   rw[upd_same]at hb
   cases hb
  ·rw[upd_ne z]at hb
   exact hb,⟨[],by simp⟩,fun _ z=>z,fun _ z=>.inl z,rfl,rfl⟩
 kd:=k.upd mo
 tbl:=rfl
 ow:=fun _ _ z=>z
 oth:=fun b p hb ne=>upd_ne fun z=>by
  subst z
  rw[ho]at hb
  exact ne (ar8 hb).symm
 ins:=fun j b i' hb hj hcj ne=>upd_ne fun z=>by
  subst z
  rw[w.tw j _ i' hb hj hcj]at ho
  cases ho
 nt:=fun j b i' hb hj hcj p z=>by
  rw[w.tw j b i' hb hj hcj]at z
  cases z
theorem cM.len{fs:List (Str×V)}{gs:List (Str×jd)}(t:cM K aj g H h fs gs):fs.length=gs.length:=by
 induction t with
 |nil=>rfl
 |cons _ _ ih=>simp[ih]
end
def Ls(M:Mo)(f:Str):Dat->Option jd
 |.dict [(.none,.int (.ofNat h))]=>(M[h]?).bind fun i=>i.fs.lookup f
 |_=>none
def gK(f:Str)(o:QF):QF:=fun M ρ=>(o M ρ).bind fun d=>match Ls M f d with
 |some (.dat x)=>.ok x
 |_=>.bad
def bK(f:Str)(o:QF):QF:=fun M ρ=>(o M ρ).bind fun d=>match Ls M f d with
 |some (.dat x)=>.ok x
 |some (.lst _ xs)=>.ok (.list xs)
 |_=>.bad
theorem aeQ{M:Mo}{f:Str}{d:Dat}{fl:jd}(h:Ls M f d=some fl):∃n i,d=obj n/\M[n]?=some i/\i.fs.lookup f=some fl:=by
 unfold Ls at h
 split at h
 ·next n=>
  obtain⟨i,h1,h2⟩:=arI.mp h
  exact⟨n,i,rfl,h1,h2⟩
 ·cases h
theorem lookup_mem{f:Str}{fl:jd}:∀{gs:List (Str×jd)},gs.lookup f=some fl->f∈gs.map (·.1)
 |[],h=>nomatch h
 |(g,y)::r,h=>by
  rw[asj]at h
  cases hb:f==g with
  |true=>rw[eq_of_beq hb];simp
  |false=>
   rw[hb]at h
   exact arO _ (lookup_mem h)
section
variable{K:arJ}{aj:aQ}{g:Gh}{H:Hp}{M:Mo}
theorem YL(co:jy K aj)(w:fV K aj g H M){f:Str}{d:Dat}{fl:jd}{v:V}(h:Ls M f d=some fl)(r:dY K g H v d):∃n i a C dx fs u,d=obj n/\M[n]?=some i/\i.fs.lookup f=some fl/\g.tbl[n]?=some a/\v=.ref a/\aj i.cls=some C/\H a=some (.ins C dx fs)/\cM K aj g H n fs i.fs/\Cls K C/\NoAttr K C f/\fs.lookup f=some u/\dN K aj g H n f u fl:=by
 obtain⟨n,i,rfl,h1,h2⟩:=aeQ h
 obtain⟨a,rfl,ha⟩:=Ks r
 have hc:i.cls≠"":=fun z=>by
  rw[w.dm n i h1 z]at h2
  cases h2
 obtain⟨C,dx,fs,c1,c2,c3⟩:=w.ins n a i ha h1 hc
 obtain⟨u,l1,l2⟩:=c3.get h2
 obtain⟨k1,k2⟩:=co i.cls C f c1 (w.fd n i h1 f (lookup_mem h2))
 exact⟨n,i,a,C,dx,fs,u,rfl,h1,h2,ha,rfl,c1,c2,c3,k1,k2,l1,l2⟩
end
section
variable{X:Cx}{aj:aQ}{W:WX}{o e:Expr}{es:List Expr}{fo:QF}{f m:Str}{pos apos:Pos}
theorem ajc(co:jy X.K aj)(ho:QW aj X W o fo)(hb:baseOk o=true):QE aj X W (.Attribute o f pos) (gK f fo):=
 PE.weak (pe_fld ho (mF hb)) fun σ H Q ⟨g,ρ,M,I,h⟩=>by
  refine tW.go I h.bnd fun d v H1 h1 e1 r1=>?_
  split at h1
  ·next x hx=>
   obtain⟨n,i,a,C,dx,fs,u,_,_,_,_,rfl,_,c2,_,k1,k2,l1,l2⟩:=YL co (I.ex e1).wok hx r1
   exact⟨a,C,dx,fs,u,rfl,c2,k1,k2,l1,h1 u H1 e1 l2⟩
  ·exact False.elim h1
theorem alC(co:jy X.K aj)(ho:QW aj X W o fo)(hb:baseOk o=true):QW aj X W (.Attribute o f pos) (bK f fo):=
 PE.weak (pe_fld ho (mF hb)) fun σ H Q ⟨g,ρ,M,I,h⟩=>by
  refine tW.go I h.bnd fun d v H1 h1 e1 r1=>?_
  split at h1
  ·next x hx=>
   obtain⟨n,i,a,C,dx,fs,u,_,_,_,_,rfl,_,c2,_,k1,k2,l1,l2⟩:=YL co (I.ex e1).wok hx r1
   exact⟨a,C,dx,fs,u,rfl,c2,k1,k2,l1,h1 u H1 e1 (Rep.weak l2)⟩
  ·next xs hx=>
   obtain⟨n,i,a,C,dx,fs,u,_,_,_,_,rfl,_,c2,_,k1,k2,l1,l,us,rfl,s1,s2,s3,_⟩:=YL co (I.ex e1).wok hx r1
   exact⟨a,C,dx,fs,_,rfl,c2,k1,k2,l1,h1 _ H1 e1 ⟨l,us,rfl,sq_of s1,s3⟩⟩
  ·exact False.elim h1
def R5(X:Cx)(W:WX)(m:Str)(ta:TE)(t:TA):TE:=fun σ H Q=>ta σ H fun x H1=>∃(a C dx:Addr) (fs:List (Str×V)) (f:Addr) (fd:FuncData) (ps:List Str) (sp:Sp) (k:Nat),x=.ref a/\H1 a=some (.ins C dx fs)/\fs.lookup m=none/\Cls X.K C/\Meth X.K C m f/\Room k X.A/\Binds X.K fd ps []/\
 FnOk X.prog X.w X.K X.mg X.base (L2.CX X.prog X.w) k f fd ps sp/\t σ H1 fun vs H2=>sp (x::vs) H2 Q (WE W σ)
theorem Wt{M:Model}{A:Around}{E:Value->Shared->Prop}{s:Shared}{env:PySem.Env}{args:List Expr}{Q:Value->Shared->Prop}(hbase:baseOk o=true)(hs:args.all nst=true)(hz:args.length < 30)(hl:(apos.endLine==pos.line)=true)
  (h:wpAny M A (eval o env) (fun ov s₁=>∀pl:Sem Bool,wpAny M A (getMethod ov m pl) (fun fx s₂=>wpAny M A (callWith pos fx.1 fx.2 (backTo pos (starEach args env)) (backToKw pos (keywordEach [] env))) Q E s₂) E s₁) E s) :
  wpAny M A (eval (.Call (.Attribute o m apos) args [] pos) env) Q E s:=by
 have hform:methodCallForm (args.length+([]:List Keyword).length) (backTo pos (starEach args env)) (backToKw pos (keywordEach [] env))=true:=few hs hz
 have hpos:methodCallPos true o env apos pos=pure pos:=by unfold methodCallPos;simp[hl]
 rw[arm_eval_Call,mF hbase]
 refine wpAny_bind (wpAny_mono h (fun ov s₁ h₁=>?_) fun _ _ e=>e)
 refine wpAny_bind (wpAny_standAt ?_)
 unfold methodCall
 rw[hform]
 refine wpAny_bind (wpAny_holding ?_)
 refine wpAny_mono (h₁ _) (fun fx s₂ h₂=>?_) fun _ _ e=>e
 exact wpAny_bind (wpAny_of_eq hpos h₂)
theorem Zx{ta:TE}{t:TA}(tk:Takes X W)(ho:PE X o ta)(ha:PA X (e::es) t)(hb:baseOk o=true)(hs:(e::es).all nst=true)(hl:(apos.endLine==pos.line)=true)(hz:(e::es).length < 30):PE X (.Call (.Attribute o m apos) (e::es) [] pos) (R5 X W m ta t):=by
 have hs':=hs
 rw[asv,arK]at hs'
 refine⟨fun pins s σ H Q I h=>?_⟩
 refine Wt hb hs hz hl (thn (ho.run pins s σ H _ I h) fun u s1 ⟨x,G,J,rx,a,C,dx,fs,f,fd,ps,sp,k,ex,ea,l,c,hm,hr,hB,F,q⟩ pl=>?_)
 subst ex
 cases rx
 refine getmeth_ok J ea c hm l ?_
 refine PySem.W.callWith_K (first:=[.ref a]) (h₀:=X.base) I.ok.mod.kin hm.kp (thn (ha.run pos pins s1 σ G _ J q) fun us s2 ⟨vs,G2,J2,r,q2⟩=>⟨J2.kIn,?_⟩) (cP hs'.1 es) (star_any es hs'.2)
 exact run_fnS (us:=.ref a::us) (vs:=.ref a::vs) F hr hB (passAt tk σ) J2 (.cons rfl r) q2
theorem Wu{ta:TE}(tk:Takes X W)(ho:PE X o ta)(hb:baseOk o=true)(hl:(apos.endLine==pos.line)=true):PE X (.Call (.Attribute o m apos) [] [] pos) (R5 X W m ta tNil):=by
 refine⟨fun pins s σ H Q I h=>?_⟩
 refine Wt hb rfl (by decide) hl (thn (ho.run pins s σ H _ I h) fun u s1 ⟨x,G,J,rx,a,C,dx,fs,f,fd,ps,sp,k,ex,ea,l,c,hm,hr,hB,F,q⟩ pl=>?_)
 subst ex
 cases rx
 refine getmeth_ok J ea c hm l ?_
 exact PySem.W.callWith_K0 (first:=[.ref a]) J.kIn hm.kp (run_fnS (us:=[.ref a]) (vs:=[.ref a]) F hr hB (passAt tk σ) J (.cons rfl .nil) q)
def El(tb:List (Str×MV))(M:Mo):Dat->Option MV
 |.dict [(.none,.int (.ofNat h))]=>(M[h]?).bind fun i=>tb.lookup i.cls
 |_=>none
def aV(tb:List (Str×MV))(o:QF)(as:QA):QF:=fun M ρ=>(o M ρ).bind fun d=>match El tb M d with
 |some (.q _ m)=>(as M ρ).bind fun ds=>m M (d::ds)
 |_=>.bad
def cO(tb:List (Str×MV))(o:QF)(as:QA):GF:=fun M ρ=>((o M ρ).at M).bind fun d _=>match El tb M d with
 |some (.q _ m)=>((as M ρ).at M).bind fun ds _=>(m M (d::ds)).at M
 |some (.g _ m)=>((as M ρ).at M).bind fun ds _=>m M (d::ds)
 |none=>.bad
def Ip(X:Cx)(aj:aQ)(k:Nat)(m:Str)(n:Nat)(tb:List (Str×MV)):Prop:=∀c v,tb.lookup c=some v->bV X.prog X.w X.K X.mg X.base aj k c m v/\match v with
  |.q j _=>j=n
  |.g j _=>j=n
theorem Ip.cls{k n:Nat}{tb:List (Str×MV)}(T:Ip X aj k m n tb):∀c v,tb.lookup c=some v->aj c≠none:=fun c v h z=>by
 obtain⟨⟨C,f,c1,_⟩,_⟩:=T c v h
 rw[z]at c1
 cases c1
theorem TX{K:arJ}{g:Gh}{H:Hp}{M:Mo}{tb:List (Str×MV)}{d:Dat}{v:V}{mv:MV}(ht:∀c v,tb.lookup c=some v->aj c≠none)(w:fV K aj g H M)(h:El tb M d=some mv)(r:dY K g H v d):∃n i a C dx fs,d=obj n/\M[n]?=some i/\tb.lookup i.cls=some mv/\g.tbl[n]?=some a/\v=.ref a/\aj i.cls=some C/\H a=some (.ins C dx fs)/\cM K aj g H n fs i.fs:=by
 unfold El at h
 split at h
 ·next n=>
  obtain⟨i,h1,h2⟩:=arI.mp h
  obtain⟨a,rfl,ha⟩:=Ks r
  obtain⟨C,dx,fs,c1,c2,c3⟩:=w.ins n a i ha h1 fun z=>ht _ _ h2 (by rw[z];exact w.nc)
  exact⟨n,i,a,C,dx,fs,rfl,h1,h2,ha,rfl,c1,c2,c3⟩
 ·cases h
theorem Y8{K:arJ}{g:Gh}{H:Hp}{M:Mo}{n:Nat}{i:Inst}{fs:List (Str×V)}(w:fV K aj g H M)(hi:M[n]?=some i)(R:cM K aj g H n fs i.fs)(h:m∉aj.fl i.cls):fs.lookup m=none:=by
 refine R.no ?_
 cases hl:i.fs.lookup m with
 |none=>rfl
 |some x=>exact absurd (w.fd n i hi m (lookup_mem hl)) h
theorem aeD{tb:List (Str×MV)}{as:QA}{n k:Nat}{t:TA}(hr:Room k X.A)(T:Ip X aj k m n tb)(hn:∀M ρ ds,as M ρ=.ok ds->ds.length+1=n)(ht:∀σ H Q,Ou X.K aj W as σ H Q->t σ H Q)(σ:L2.St)(H:Hp)(Q:VK)(h:tQ X.K aj W (aV tb fo as) σ H Q):R5 X W m (tW X.K aj W fo) t σ H Q:=by
 obtain⟨g,ρ,M,I,h⟩:=h
 refine tW.go I h.bnd fun d v H1 h1 e1 r1=>?_
 have I1:=I.ex e1
 split at h1
 ·next j mm hmv=>
  obtain⟨hd,i,a,C,dx,fs,rfl,hi,hl,ha,rfl,c1,c2,c3⟩:=TX T.cls I1.wok hmv r1
  obtain⟨⟨C',f,cc,cl,me,nf,fd,ps,j',hj,hp,hB,F⟩,en⟩:=T _ _ hl
  have en:j=n:=en
  rw[c1]at cc
  cases cc
  refine⟨a,C,dx,fs,f,fd,ps,_,j',rfl,c2,Y8 I1.wok hi c3 nf,cl,me,hr.mono hj,hB,F,ht σ H1 _ ⟨g,ρ,M,I1,?_⟩⟩
  have h2:=h1.bnd
  cases has:as M ρ with
  |exc x=>rw[has]at h2;exact qO.ex e1 h2
  |bad=>rw[has]at h2;exact False.elim h2
  |ok ds=>
   rw[has]at h2
   intro vs H2 e2 r2
   refine⟨by rw[hp,en,←hn M ρ ds has,arU,r2.length],g,M,obj hd::ds,(I1.ex e2).kd,(I1.ex e2).wok,.cons (.obj ha) r2,?_⟩
   exact Out.sat.mono h2 (fun d k v H' e' r'=>k v H' ((e1.trans e2).trans e') r') fun x k H' c dd e' r'=>k H' c dd ((e1.trans e2).trans e') r'
 ·exact False.elim h1
theorem ahr{tb:List (Str×MV)}{as:QA}{k:Nat}(tk:Takes X W)(hr:Room k X.A)(T:Ip X aj k m ((e::es).length+1) tb)(ho:QW aj X W o fo)(ha:Ed aj X W (e::es) as)(hn:∀M ρ ds,as M ρ=.ok ds->ds.length=(e::es).length)(hb:baseOk o=true)(hs:(e::es).all nst=true)(hl:(apos.endLine==pos.line)=true)(hz:(e::es).length < 30) :
  QE aj X W (.Call (.Attribute o m apos) (e::es) [] pos) (aV tb fo as):=
 PE.weak (Zx tk ho ha hb hs hl hz) fun σ H Q h=>aeD hr T (fun M ρ ds z=>by rw[hn M ρ ds z]) (fun _ _ _ z=>z) σ H Q h
theorem afo{tb:List (Str×MV)}{k:Nat}(tk:Takes X W)(hr:Room k X.A)(T:Ip X aj k m 1 tb)(ho:QW aj X W o fo)(hb:baseOk o=true)(hl:(apos.endLine==pos.line)=true) :
  QE aj X W (.Call (.Attribute o m apos) [] [] pos) (aV tb fo au):=
 PE.weak (Wu tk ho hb hl) fun σ H Q h=>aeD hr T (fun M ρ ds z=>by cases z;rfl) (fun σ H Q ⟨g,ρ,M,I,z⟩=>z [] H (Ex.refl H) .nil) σ H Q h
theorem adF{tb:List (Str×MV)}{as:QA}{n k:Nat}{t:TA}(hr:Room k X.A)(T:Ip X aj k m n tb)(hn:∀M ρ ds,as M ρ=.ok ds->ds.length+1=n)(ht:∀σ H Q,Ou X.K aj W as σ H Q->t σ H Q)(σ:L2.St)(H:Hp)(Q:VK)(h:tE X.K aj W false (cO tb fo as) σ H Q):R5 X W m (tW X.K aj W fo) t σ H Q:=by
 obtain⟨g,ρ,M,I,h⟩:=h
 have quiet:∀{x:dB},gE X.K aj W false g H σ ρ x M->qO X.K aj W g H σ x:=fun {x} z H' c dd e r=>z H' g c dd (Gr.ex e) (I.ex e) r
 have h:=h.bnd
 refine⟨g,ρ,M,I,?_⟩
 cases ho:fo M ρ with
 |exc x=>rw[ho]at h;exact quiet h
 |bad=>rw[ho]at h;exact False.elim h
 |ok d=>
  rw[ho]at h
  intro v H1 e1 r1
  have I1:=I.ex e1
  have h:(match El tb M d with
   |some (.q _ m)=>((as M ρ).at M).bind fun ds _=>(m M (d::ds)).at M
   |some (.g _ m)=>((as M ρ).at M).bind fun ds _=>m M (d::ds)
   |none=>.bad).sat (fun d M'=>∀v H' g',Gr false g g' H H'->SInv X.K aj σ H' g' ρ M'->Rep X.K g' H' v d->Q v H') (gE X.K aj W false g H σ ρ):=h
  split at h
  ·next j mm hmv=>
   obtain⟨hd,i,a,C,dx,fs,rfl,hi,hl,ha,rfl,c1,c2,c3⟩:=TX T.cls I1.wok hmv r1
   obtain⟨⟨C',f,cc,cl,me,nf,fd,ps,j',hj,hp,hB,F⟩,en⟩:=T _ _ hl
   have en:j=n:=en
   rw[c1]at cc
   cases cc
   refine⟨a,C,dx,fs,f,fd,ps,_,j',rfl,c2,Y8 I1.wok hi c3 nf,cl,me,hr.mono hj,hB,F,ht σ H1 _ ⟨g,ρ,M,I1,?_⟩⟩
   have h2:=h.bnd
   cases has:as M ρ with
   |exc x=>rw[has]at h2;exact qO.ex e1 (quiet h2)
   |bad=>rw[has]at h2;exact False.elim h2
   |ok ds=>
    rw[has]at h2
    intro vs H2 e2 r2
    have e12:=e1.trans e2
    refine⟨by rw[hp,en,←hn M ρ ds has,arU,r2.length],g,M,obj hd::ds,(I1.ex e2).kd,(I1.ex e2).wok,.cons (.obj ha) r2,?_⟩
    exact Out.sat.mono (Out.jf h2) (fun d k v H' e' r'=>k v H' g (Gr.ex (e12.trans e')) (I.ex (e12.trans e')) r') fun x k H' c dd e' r'=>k H' g c dd (Gr.ex (e12.trans e')) (I.ex (e12.trans e')) r'
  ·next j mm hmv=>
   obtain⟨hd,i,a,C,dx,fs,rfl,hi,hl,ha,rfl,c1,c2,c3⟩:=TX T.cls I1.wok hmv r1
   obtain⟨⟨C',f,cc,cl,me,nf,fd,ps,j',hj,hp,hB,F⟩,en⟩:=T _ _ hl
   have en:j=n:=en
   rw[c1]at cc
   cases cc
   refine⟨a,C,dx,fs,f,fd,ps,_,j',rfl,c2,Y8 I1.wok hi c3 nf,cl,me,hr.mono hj,hB,F,ht σ H1 _ ⟨g,ρ,M,I1,?_⟩⟩
   have h2:=h.bnd
   cases has:as M ρ with
   |exc x=>rw[has]at h2;exact qO.ex e1 (quiet h2)
   |bad=>rw[has]at h2;exact False.elim h2
   |ok ds=>
    rw[has]at h2
    intro vs H2 e2 r2
    have e12:=e1.trans e2
    refine⟨by rw[hp,en,←hn M ρ ds has,arU,r2.length],g,M,obj hd::ds,(I1.ex e2).kd,(I1.ex e2).wok,.cons (.obj ha) r2,?_⟩
    exact bx.sat.mono h2 (fun d M' k v H' g' c kd wk r'=>k v H' g' ((Gr.ex e12).trans c.gr) ((I.ex e12).call c kd wk) r') fun x M' k H' g' cc dd c kd wk r'=>k H' g' cc dd ((Gr.ex e12).trans c.gr) ((I.ex e12).call c kd wk) r'
  ·exact False.elim h
theorem aho{tb:List (Str×MV)}{as:QA}{k:Nat}(tk:Takes X W)(hr:Room k X.A)(T:Ip X aj k m ((e::es).length+1) tb)(ho:QW aj X W o fo)(ha:Ed aj X W (e::es) as)(hn:∀M ρ ds,as M ρ=.ok ds->ds.length=(e::es).length)(hb:baseOk o=true)(hs:(e::es).all nst=true)(hl:(apos.endLine==pos.line)=true)(hz:(e::es).length < 30) :
  GE aj X W false (.Call (.Attribute o m apos) (e::es) [] pos) (cO tb fo as):=
 PE.weak (Zx tk ho ha hb hs hl hz) fun σ H Q h=>adF hr T (fun M ρ ds z=>by rw[hn M ρ ds z]) (fun _ _ _ z=>z) σ H Q h
theorem agl{tb:List (Str×MV)}{k:Nat}(tk:Takes X W)(hr:Room k X.A)(T:Ip X aj k m 1 tb)(ho:QW aj X W o fo)(hb:baseOk o=true)(hl:(apos.endLine==pos.line)=true) :
  GE aj X W false (.Call (.Attribute o m apos) [] [] pos) (cO tb fo au):=
 PE.weak (Wu tk ho hb hl) fun σ H Q h=>adF hr T (fun M ρ ds z=>by cases z;rfl) (fun σ H Q ⟨g,ρ,M,I,z⟩=>z [] H (Ex.refl H) .nil) σ H Q h
end
def eV(x:Str):SF:=fun M ρ=>.exc ⟨x,[]⟩ ρ M
def Cp(x:Str)(fs:List Str)(as:QA):SF:=fun M ρ=>((as M ρ).at M).then ρ fun ds M'=>.exc ⟨x,(fs.zip ds).reverse⟩ ρ M'
section
variable{X:Cx}{aj:aQ}{W:WX}{q:Bool}{x:Str}{pos p p1:Pos}{k:Nat}
theorem afr(hc:X.calm=true)(tk:Takes X W)(hg:Gl X x)(hd:(x==("__debug__" : Str))=false)(g:bf X.prog X.w X.K X.mg X.base aj k x .exc):SE aj X W q (.Raise (some (.Call (.Name x p) [] [] p1)) none pos) (eV x):=by
 obtain⟨C,g1,g2,g3,g4,g5,g6⟩:=g
 exact PS.weak (ps_raise hc tk (Ear.afj PySem.F.excBase_ValueError g3 g1 g4 (raises_own g5 g6) hg hd)) fun D σ H ⟨g,ρ,M,I,z⟩=>z σ H g (.ref C) none Gr.refl I ⟨C,g2,rfl,.inl ⟨rfl,rfl⟩⟩
theorem lC.gr{K:arJ}{g g':Gh}{H H':Hp}{q:Bool}(r:Gr q g g' H H')(k:Kd g H){fs:List (Str×V)}{gs:List (Str×Dat)}(h:lC K g H fs gs):lC K g' H' fs gs:=by
 induction h with
 |nil=>exact .nil
 |cons z _ ih=>exact .cons (z.gr r k) ih
theorem lC.snoc{K:arJ}{g:Gh}{H:Hp}{f:Str}{v:V}{d:Dat}(z:Rep K g H v d){fs:List (Str×V)}{gs:List (Str×Dat)}(h:lC K g H fs gs):lC K g H (fs++[(f,v)]) (gs++[(f,d)]):=by
 induction h with
 |nil=>exact .cons z .nil
 |cons y _ ih=>exact .cons y ih
theorem aeU{K:arJ}{g:Gh}{H:Hp}:∀{fs:List Str} {vs:List V} {ds:List Dat},aJ K g H vs ds->lC K g H (fs.zip vs).reverse (fs.zip ds).reverse
 |[],_,_,_=>.nil
 |_::_,_,_,.nil=>.nil
 |f::fs,_,_,.cons z t=>by
  rw[asV,asV,as4,as4]
  exact(aeU t).snoc z
theorem adV{e:Expr}{es:List Expr}{fs:List Str}{as:QA}(hc:X.calm=true)(tk:Takes X W)(hr:Room k X.A)(hg:Gl X x)(hd:(x==("__debug__" : Str))=false)(g:bf X.prog X.w X.K X.mg X.base aj k x (.exi fs))(ha:Ed aj X W (e::es) as)
  (hs:(e::es).all nst=true) (hn:∀M ρ ds,as M ρ=.ok ds->ds.length=fs.length) (hz:fs.length<=1000):SE aj X W q (.Raise (some (.Call (.Name x p) (e::es) [] p1)) none pos) (Cp x fs as):=by
 obtain⟨C,fI,fd,ps,g1,g2,g3,g4,g5,hk,hp,hB,F⟩:=g
 have hs':=hs
 rw[asv,arK]at hs'
 refine PS.weak (ps_raise hc tk (pmk_oex g3 g4 g5 F (hr.mono hk) hB .nil pass0 hg g1 ha hd (cP hs'.1 es) (star_any es hs'.2))) fun D σ H ⟨g,ρ,M,I,z⟩=>?_
 refine⟨g,ρ,M,I,?_⟩
 unfold Cp at z
 cases has:as M ρ with
 |exc y=>rw[has]at z;exact fun H' c dd e r=>z σ H' g c dd (Gr.ex e) (I.ex e) r.fr
 |bad=>rw[has]at z;exact False.elim z
 |ok ds=>
  rw[has]at z
  intro vs H1 e1 r1
  have hl:vs.length=fs.length:=by rw[r1.length,hn M ρ ds has]
  refine⟨by omega,fun a na=>⟨a,vs++[],rfl,by simpa using hl,upd_same,fun dx H' nd kp dm ha' hd'=>?_⟩⟩
  have ne:dx≠a:=fun z=>by
   subst z
   rw[upd_same]at nd
   cases nd
  rw[upd_ne ne]at nd
  refine⟨rfl,dx,_,ha',hd',nd,?_⟩
  have kp':∀b o,H1 b=some o->(upd (del H' a) dx (.xd (fs.zip (vs++[])).reverse)) b=some o:=fun b o hb=>by
   have nb:b≠a:=fun z=>by subst z;rw[na]at hb;cases hb
   have nd':b≠dx:=fun z=>by subst z;rw[nd]at hb;cases hb
   rw[upd_ne nd',del_ne nb]
   exact kp b o nb (by rw[upd_ne nb];exact hb)
  have ex:Ex H1 (upd (del H' a) dx (.xd (fs.zip (vs++[])).reverse)):=fun b o hb=>kp' b o hb
  have I1:=I.ex e1
  refine z σ _ g (.ref C) (some dx) (Gr.ex (e1.trans ex)) (I1.ex ex) ⟨C,g2,rfl,.inr ⟨dx,_,rfl,upd_same,?_⟩⟩
  rw[asI]
  have:=(aeU (fs:=fs) r1).gr (Gr.ex (q:=true) ex) I1.kd
  rw[asI]at this
  exact lC.less (g:=g) (g':=g.fr) rfl (wj g) this
end
section
variable{P:Program}{w:World}{K:arJ}{mg:Str->Option Value}{base:Heap}{C f:Addr}{fd:FuncData}{qual:Str}{st:Stmt}
theorem vis_par{N ps:List Str}{sc:Scope}(S:FnScope N ps sc){y:Str}(h:y∈ps):Vis sc y:=(S.par y h).elim (fun z=>.inl z) fun z=>.inr (.inl z)
theorem aex{s a1 a2 a3 f1 f2 f3:Str}{p1 p2 p3 p4 p5 p6 p7 p8 p9 p10 p11 p12:Pos}(F:L2.Fun K "__init__" qual st f fd)(S:FnScope [s,a1,a2,a3] [s,a1,a2,a3] (defScope st))(T:OexC K C)
  (hb:defBody st=[.Assign [.Attribute (.Name s p1) f1 p2] (.Name a1 p3) p4,.Assign [.Attribute (.Name s p5) f2 p6] (.Name a2 p7) p8,.Assign [.Attribute (.Name s p9) f3 p10] (.Name a3 p11) p12])
  (dz:∀y∈[s,a1,a2,a3],(y==("__debug__" : Str))=false/\(y==("__classdict__" : Str))=false) (n1:PySem.W.findIn K (.ref C) f1=some none) (n2:PySem.W.findIn K (.ref C) f2=some none) (n3:PySem.W.findIn K (.ref C) f3=some none) :
  FnOk P w K mg base CX0 1 f fd [s,a1,a2,a3] (agh C [f1,f2,f3]):=by
 refine F.ok S (fun vs H Q E h=>?_) (fun cdv A outer s0 H vs Q E hr h=>?_)
 ·obtain⟨a,xs,rfl,hl,_⟩:=h
  simp[hl]
 ·obtain⟨a,xs,rfl,hl,ha,q⟩:=h
  match xs,hl with
  |[x,y,z],_=>
  rw[hb]
  have v0:=vis_par S (y:=s) (by simp)
  have v1:=vis_par S (y:=a1) (by simp)
  have v2:=vis_par S (y:=a2) (by simp)
  have v3:=vis_par S (y:=a3) (by simp)
  obtain⟨c0,k0⟩:=dz s (by simp)
  obtain⟨c1,k1⟩:=dz a1 (by simp)
  obtain⟨c2,k2⟩:=dz a2 (by simp)
  obtain⟨c3,k3⟩:=dz a3 (by simp)
  refine⟨_,pss_cons (ps_ost (pe_var (i:=0) rfl v0 c0 k0) (pe_var (i:=1) rfl v1 c1 k1)) (pss_cons (ps_ost (pe_var (i:=0) rfl v0 c0 k0) (pe_var (i:=2) rfl v2 c2 k2)) (pss_one (ps_ost (pe_var (i:=0) rfl v0 c0 k0) (pe_var (i:=3) rfl v3 c3 k3)))),?_⟩
  refine⟨_,rfl,_,rfl,a,C,rfl,T,n1,.inl ⟨ha,fun dx nd ne=>?_⟩⟩
  refine⟨_,rfl,_,rfl,a,C,rfl,T,n2,.inr ⟨dx,[(f1,x)],upd_same,(by rw[upd_ne ne];exact upd_same),(show 1<=900 by decide),?_⟩⟩
  refine⟨_,rfl,_,rfl,a,C,rfl,T,n3,.inr ⟨dx,_,(by rw[upd_ne ne.symm];exact upd_same),upd_same,(show 2<=900 by decide),?_⟩⟩
  refine q dx _ nd (fun b o hb hB=>?_) (fun b hB=>?_) (by rw[upd_ne ne.symm,upd_ne ne.symm];exact upd_same) upd_same
  ·have hbd:b≠dx:=ne_of_none hB nd
   rw[upd_ne hbd,upd_ne hbd,upd_ne hb,upd_ne hbd]
   exact hB
  ·by_cases e:b=dx
   ·rw[e];exact nd
   ·by_cases e2:b=a
    ·subst e2
     rw[upd_ne e,upd_ne e,upd_same]at hB
     cases hB
    ·rw[upd_ne e,upd_ne e,upd_ne e2,upd_ne e]at hB
     exact hB
end
structure Cl where
 c:Value
 nm:Option Nat
 ts:Addr->Value->Option Addr->TS
def anZ(D:Ends)(i:Nat):Ends:={ nx:=fun τ G=>D.nx (τ.set i none) G,rt:=D.rt,bk:=fun τ G=>D.bk (τ.set i none) G,ct:=fun τ G=>D.ct (τ.set i none) G }
def Yk(K:arJ)(Wo:WX)(D:Ends):List Cl->WX
 |[]=>Wo
 |l::r=>fun cls d τ G=>∃b,PySem.W.exmOne K cls l.c=some b/\(b=true->∀a,G a=none->(match l.nm with
   |none=>l.ts a cls d D τ G
   |some i=>l.ts a cls d (anZ D i) (τ.set i (some (.ref a))) G))/\(b=false->Yk K Wo D r cls d τ G)
inductive Ce(X:Cx):List ExceptHandler->List Cl->Prop
 |nil:Ce X [] []
 |one {x:Str} {l:Cl} {s0:Stmt} {su:List Stmt} {np cp:Pos} {hds:List ExceptHandler} {ls:List Cl} (hc:Names X x l.c) (hn:l.nm=none)
   (hsu:∀(a:Addr) (oe:Obj) (cls:Value) (d:Option Addr) (pn:List (Addr×Obj)),Zc cls d oe->(∃vs,oe.data=.fields vs)->PSs (X.suite a ((a,oe)::pn)) (s0::su) (l.ts a cls d)) (r:Ce X hds ls) :
   Ce X (.ExceptHandler (some (.Name x np)) none (s0::su) cp::hds) (l::ls)
 |as {x n:Str} {i:Nat} {l:Cl} {s0:Stmt} {su:List Stmt} {np cp:Pos} {hds:List ExceptHandler} {ls:List Cl} (hc:Names X x l.c) (hn:l.nm=some i) (hi:X.N[i]?=some n) (hl:X.env.kindOf n=some .local)
   (hsu:∀(a:Addr) (oe:Obj) (cls:Value) (d:Option Addr) (pn:List (Addr×Obj)),Zc cls d oe->(∃vs,oe.data=.fields vs)->PSs (X.suite a ((a,oe)::pn)) (s0::su) (l.ts a cls d)) (r:Ce X hds ls) :
   Ce X (.ExceptHandler (some (.Name x np)) (some n) (s0::su) cp::hds) (l::ls)
section
variable{X:Cx}{body:List Stmt}{h0:ExceptHandler}{hds:List ExceptHandler}{ls:List Cl}{pos:Pos}{tb:WX->TS}{Wo:WX}
theorem ahx(hs:X.stack=X.env::X.outer)(hf:X.env.frame=some X.env.locals)(hN:X.N.Nodup)(tk:Takes X Wo)
  (hb:∀(W:WX) (pn:List (Addr×Obj)) (xe:Value->Shared->Prop),Takes (X.tr pn xe) W->PassesOwn (model X.prog X.w) X.A X.env xe->PSs (X.tr pn xe) body (tb W))
  (hh:Ce X (h0::hds) ls):PS X (.Try body (h0::hds) [] [] pos) (fun D σ H=>tb (Yk X.K Wo D ls) D σ H):=by
 constructor
 intro pins s σ H D I h
 have ok:=I.ok
 have frm:X.A.frames=some (X.env::X.outer):=by rw[ok.frames,hs]
 have run:=(hb (Yk X.K Wo D ls) (X.pn++pins) (fun e t₁=>wpAny (model X.prog X.w) X.A (noteFrame e X.env) (fun _ t₂=>wpAny (model X.prog X.w) X.A (setFlight e none) (fun _ t₃=>wpAny (model X.prog X.w) X.A (handleBy e X.env (h0::hds)) (SP X pins D) X.xe t₃) X.xe t₂) X.xe t₁) (fun u t xx=>by
  obtain⟨a,B,sI,pins2,τ,G,cls,d,rfl,J2,nb,up,sky,na,os,ag,w⟩:=xx
  have J:Inv X pins τ G sI:=J2.ofTry ok
  have sky2:Sky B (X.env::X.outer) a (Zc cls d) X.env.locals t.heap:=by
   rw[←hs]
   exact sky
  show wpAny (model X.prog X.w) X.A (noteFrame (.ref a) X.env) _ _ _
  refine Sky.land Zc.steady frm hf sky2 ?_
  intro h3 fl3 up3
  have J3:Inv X pins τ G { t with heap:=h3 }:=J.landed nb fl3.1 (up.trans up3) os ag
  obtain⟨oe3,vs3,he3,hz3,hd3⟩:=fl3.there
  have notF:a∉frs (X.env::X.outer):=fun hm=>by
   obtain⟨_,o,eo,hnf⟩:=Heap.FunFrames.mem fl3.2.2.1 hm
   rw[he3]at eo
   cases eo
   exact hnf _ hd3
  have nL:a≠X.env.locals:=fun z=>notF (List.mem_filterMap.mpr ⟨X.env,arP,(by rw[hf,z])⟩)
  have nF:a∉X.fs:=fun hm=>by
   obtain⟨e,he,q⟩:=List.mem_filterMap.mp hm
   exact notF (List.mem_filterMap.mpr ⟨e,arO _ he,q⟩)
  have S3:=J3.suite he3 hd3 na nL nF
  have look:PySem.W.Looks (model X.prog X.w) h3 (typeOf (.ref a)) cls:=fun A Q E s k q=>wpAny_typeOf_ref (k _ _ he3) (by rw[hz3.1];exact q)
  have named:∀{x:Str} {c:Value} {np:Pos} {Q:Value->Shared->Prop} {E:Value->Shared->Prop},Names X x c->Q c { t with heap:=h3 }->wpAny (model X.prog X.w) (X.A.mark (some (.ref a))) (eval (.Name x np) X.env) Q E { t with heap:=h3 }:=by
   intro x c np Q E hc q
   obtain⟨hg,hdb,hm⟩:=hc
   rcases hm with hm|⟨hm,hv,hnn⟩
   ·exact ld_glob (X:=X.suite a ((a,oe3)::(X.pn++pins))) S3 hg hm q hdb
   ·exact ld_blt (X:=X.suite a ((a,oe3)::(X.pn++pins))) S3 hg hm hv q hnn hdb
  have all:∀{hds2:List ExceptHandler} {ls2:List Cl},Ce X hds2 ls2->Yk X.K Wo D ls2 cls d τ G->wpAny (model X.prog X.w) X.A (handleBy (.ref a) X.env hds2) (SP X pins D) X.xe { t with heap:=h3 }:=by
   intro hds2 ls2 hk
   induction hk with
   |nil=>
    intro w
    refine wpAny_handleBy_nil ?_
    obtain⟨k1,k2,k3,oe,vs,T,oT,ts2,he,hz,hd,h1,hr⟩:=id fl3
    unfold PySem.passOn
    refine wpAny_bind (wpAny_field he hd h1 ?_)
    have nT:¬((Value.ref T==Value.none)=true):=by simp
    rw[if_neg nT]
    have fin:wpAny (model X.prog X.w) X.A (setFlight (.ref a) X.env.frame) (fun _ s4=>wpAny (model X.prog X.w) X.A (throw (.ref a):Sem Flow) (SP X pins D) X.xe s4) X.xe { t with heap:=h3 }:=by
     rw[hf]
     refine HandSPX.setFlight_upZ fl3 ?_
     intro h4 hh4 up4
     refine wpAny_throw (tk _ _ ?_)
     exact⟨a,B,sI,pins,τ,G,cls,d,rfl,J,nb,(up.trans up3).trans up4,.inr (.inr (by rw[hs];exact hh4)),na,os,ag,w⟩
    first
     |exact wpAny_bind (wpAny_pure (wpAny_bind fin))
     |exact wpAny_bind fin
   | @one x l s0 su np cp hds3 ls3 hc hn hsu r ih=>
    intro w
    obtain⟨b,hb1,yes,no⟩:=w
    rw[hn]at yes
    have LM:=PySem.W.exm_one (M:=model X.prog X.w) J3.kIn look hb1
    refine wpAny_handleBy_cons (codeAny_handlers_test ?_) (by intro q;cases q)
    refine named hc (LM.here ?_)
    cases b with
    |false=>exact ih (no rfl)
    |true=>
     refine codeAny_handlers_suite ?_
     refine HandSPX.lands_againZ fl3 ?_
     intro h4 fl4 up4
     have J4:Inv X pins τ G { t with heap:=h4 }:=J.landed nb fl4.1 ((up.trans up3).trans up4) os ag
     obtain⟨oe4,vs4,he4,hz4,hd4⟩:=fl4.there
     have S4:=J4.suite he4 hd4 na nL nF
     refine wpAny_mono ((hsu a oe4 cls d (X.pn++pins) hz4 ⟨_,hd4⟩).run [] _ _ G _ S4 (yes rfl a na)) ?_ (fun _ _ z=>False.elim z)
     intro f s6 sp6
     cases f with
     |ret u=>
      obtain⟨v6,τ6,G6,S6,r6,q6⟩:=sp6
      exact⟨_,_,_,S6.unsuite ok,r6,q6⟩
     |next=>
      obtain⟨τ6,G6,S6,q6⟩:=sp6
      exact⟨_,_,S6.unsuite ok,q6⟩
     |brk=>
      obtain⟨τ6,G6,S6,q6⟩:=sp6
      exact⟨_,_,S6.unsuite ok,q6⟩
     |cont=>
      obtain⟨τ6,G6,S6,q6⟩:=sp6
      exact⟨_,_,S6.unsuite ok,q6⟩
   | @as x n i l s0 su np cp hds3 ls3 hc hn hi hl hsu r ih=>
    intro w
    obtain⟨b,hb1,yes,no⟩:=w
    rw[hn]at yes
    have LM:=PySem.W.exm_one (M:=model X.prog X.w) J3.kIn look hb1
    refine wpAny_handleBy_cons (codeAny_handlers_test ?_) (by intro q;cases q)
    refine named hc (LM.here ?_)
    cases b with
    |false=>exact ih (no rfl)
    |true=>
     refine codeAny_handlers_suite_as ?_
     refine HandSPX.lands_againZ fl3 ?_
     intro h4 fl4 up4
     have J4:Inv X pins τ G { t with heap:=h4 }:=J.landed nb fl4.1 ((up.trans up3).trans up4) os ag
     obtain⟨oe4,vs4,he4,hz4,hd4⟩:=fl4.there
     have S4:=J4.suite he4 hd4 na nL nF
     refine store_ok (X:=X.suite a ((a,oe4)::(X.pn++pins))) (v:=.ref a) S4 hN hi (.inl hl) rfl ?_ (.inr hl)
     intro s5 S5
     refine wpAny_mono ((hsu a oe4 cls d (X.pn++pins) hz4 ⟨_,hd4⟩).run [] s5 _ G _ S5 (yes rfl a na)) ?_ (fun _ _ z=>False.elim z)
     intro f s6 sp6
     have bye:∀{τ6:L2.St} {G6:Hp} {Q:Shared->Prop},Inv (X.suite a ((a,oe4)::(X.pn++pins))) [] τ6 G6 s6->(∀s7,Inv X pins (τ6.set i none) G6 s7->Q s7)->
       wpAny (model X.prog X.w) X.A (do bindName X.env n .none;unbindBehindTheSuite X.env n cp) (fun _ s7=>Q s7) X.xe s6:=fun S6 hq=>gone_ok (S6.unsuite ok) hN hi hl hq
     cases f with
     |ret u=>
      obtain⟨v6,τ6,G6,S6,r6,q6⟩:=sp6
      exact bye S6 fun s7 J7=>⟨_,_,_,J7,r6,q6⟩
     |next=>
      obtain⟨τ6,G6,S6,q6⟩:=sp6
      exact bye S6 fun s7 J7=>⟨_,_,J7,q6⟩
     |brk=>
      obtain⟨τ6,G6,S6,q6⟩:=sp6
      exact bye S6 fun s7 J7=>⟨_,_,J7,q6⟩
     |cont=>
      obtain⟨τ6,G6,S6,q6⟩:=sp6
      exact bye S6 fun s7 J7=>⟨_,_,J7,q6⟩
  exact all hh w) PassesOwn.looking).run [] s σ H D (I.toTry _) h
 refine wpAny_Try_except (wpAny_mono run ?_ (fun _ _ z=>z))
 intro f s1 sp1
 cases f with
 |ret u=>
  obtain⟨v,τ,G,J2,r,q⟩:=sp1
  exact⟨v,τ,G,J2.ofTry ok,r,q⟩
 |next=>
  obtain⟨τ,G,J2,q⟩:=sp1
  exact wpAny_execs_nil ⟨τ,G,J2.ofTry ok,q⟩
 |brk=>
  obtain⟨τ,G,J2,q⟩:=sp1
  exact⟨τ,G,J2.ofTry ok,q⟩
 |cont=>
  obtain⟨τ,G,J2,q⟩:=sp1
  exact⟨τ,G,J2.ofTry ok,q⟩
end
inductive Ez where
 |con (d:Dat)|fld (f:Str)|flds (fs:List Str)
def Ub(y:Str)(x:dB)(f:Str):Option Dat:=match x.cls==y with
 |true=>(x.fs.lookup f).bind fun d=>match lf d with
  |true=>some d
  |false=>none
 |false=>none
def M5(y:Str)(x:dB):List Str->Option (List Dat)
 |[]=>some []
 |f::fs=>(Ub y x f).bind fun d=>(M5 y x fs).bind fun ds=>some (d::ds)
def Px(y:Str)(x:dB):Ez->Option Dat
 |.con d=>some d
 |.fld f=>Ub y x f
 |.flds fs=>(M5 y x fs).bind fun ds=>some (.tuple ds)
def Ei(y:Str)(x:dB):List (Nat×Ez)->Env->Option Env
 |[],ρ=>some ρ
 |(j,e)::r,ρ=>(Px y x e).bind fun d=>Ei y x r (ρ.set j (some (.dat d)))
structure Hd where
 y:Str
 tk:Str->Option Bool
 nm:Option Nat
 st:List (Nat×Ez)
def Vq(ρ:Env):Option Nat->Env
 |none=>ρ
 |some i=>ρ.set i none
def aco(ρ:Env):Option Nat->Bool
 |none=>true
 |some i=>decide (i < ρ.length)
def hdl:List Hd->dB->Env->Mo->sS
 |[],x,ρ,M=>.exc x ρ M
 |h::r,x,ρ,M=>match h.tk x.cls with
  |some true=>match aco ρ h.nm with
   |true=>match Ei h.y x h.st (Vq ρ h.nm) with
    |some ρ2=>.next (Vq ρ2 h.nm) M
    |none=>.bad
   |false=>.bad
  |some false=>hdl r x ρ M
  |none=>.bad
def U0(f:SF)(hs:List Hd):SF:=fun M ρ=>match f M ρ with
 |.exc x ρ' M'=>hdl hs x ρ' M'
 |o=>o
structure XIn(K:arJ)(aj:aQ)(σ:L2.St)(H:Hp)(g:Gh)(ρ:Env)(M:Mo)(x:dB)(a:Addr)(cls:Value)(d:Option Addr)(i:Option Nat):Prop where
 inv:SInv K aj σ H g ρ M
 xr:qF K aj g.fr H x cls d
 sl:∀j,i=some j->σ[j]?=some (some (.ref a))
section
variable(K:arJ)(aj:aQ)(a:Addr)(cls:Value)(d:Option Addr)(i:Option Nat)
def tU(f:dB->Option Dat):TE:=fun σ H Q=>∃g ρ M x z,XIn K aj σ H g ρ M x a cls d i/\f x=some z/\∀v H',Ex H H'->Rep K g H' v z->Q v H'
def tUA(f:dB->Option (List Dat)):TA:=fun σ H Q=>∃g ρ M x z,XIn K aj σ H g ρ M x a cls d i/\f x=some z/\∀v H',Ex H H'->aJ K g H' v z->Q v H'
def tSu(y:Str)(st:List (Nat×Ez)):TS:=fun D σ H=>∃g ρ M x ρ2,XIn K aj σ H g ρ M x a cls d i/\Ei y x st ρ=some ρ2/\(∀p∈st,i≠some p.1)/\∀σ' H',Ex H H'->SInv K aj σ' H' g ρ2 M->D.nx σ' H'
end
section
variable{K:arJ}{aj:aQ}{a:Addr}{cls:Value}{d:Option Addr}{i:Option Nat}{σ:L2.St}{H H':Hp}{g:Gh}{ρ:Env}{M:Mo}{x:dB}
theorem lC.ex{fs:List (Str×V)}{gs:List (Str×Dat)}(e:Ex H H')(k:Kd g H)(h:lC K g H fs gs):lC K g H' fs gs:=h.gr (Gr.ex (q:=true) e) k
theorem qF.ex{c:Value}{dd:Option Addr}(e:Ex H H')(k:Kd g H)(h:qF K aj g H x c dd):qF K aj g H' x c dd:=by
 obtain⟨C,h1,h2,h3⟩:=h
 exact⟨C,h1,h2,h3.imp id fun⟨b,fs,e1,e2,e3⟩=>⟨b,fs,e1,e _ _ e2,e3.ex e k⟩⟩
theorem XIn.ex(e:Ex H H')(h:XIn K aj σ H g ρ M x a cls d i):XIn K aj σ H' g ρ M x a cls d i:=⟨h.inv.ex e,h.xr.ex e h.inv.kd.fr,h.sl⟩
theorem lC.get{f:Str}{z:Dat}{fs:List (Str×V)}{gs:List (Str×Dat)}(h:lC K g H fs gs)(e:gs.lookup f=some z):∃v,fs.lookup f=some v/\Rep K g H v z:=by
 induction h with
 |nil=>cases e
 | @cons f' v d' _ _ r _ ih=>
  rw[asj]at e
  rw[asj]
  cases hb:f==f' with
  |true=>
   rw[hb]at e
   cases e
   exact⟨v,rfl,r⟩
  |false=>
   rw[hb]at e
   exact ih e
end
section
variable{X:Cx}{aj:aQ}{a C:Addr}{oe:Obj}{cls:Value}{d:Option Addr}{pn:List (Addr×Obj)}{y n:Str}{pos p:Pos}{j:Nat}
theorem aeJ{e:Expr}{z:Dat}{i:Option Nat}{t:TE}(h:PE (X.suite a ((a,oe)::pn)) e t)(ht:∀σ H Q,tU X.K aj a cls d i (fun _=>some z) σ H Q->t σ H Q):PE (X.suite a ((a,oe)::pn)) e (tU X.K aj a cls d i fun _=>some z):=PE.weak h ht
theorem aeE{f:Str}(hC:aj y=some C)(T:XfC X.K C)(hno:PySem.W.findIn X.K (.ref C) f=some none)(hz:Zc cls d oe)(hf:∃vs,oe.data=.fields vs)(hN:X.N[j]?=some n)(hv:Vis X.env.scope n)(hd:(n==("__debug__" : Str))=false)(hcd:(n==("__classdict__" : Str))=false) :
  PE (X.suite a ((a,oe)::pn)) (.Attribute (.Name n p) f pos) (tU X.K aj a cls d (some j) fun x=>Ub y x f):=by
 refine PE.weak (pe_xf T hno hz hf (pe_var (i:=j) (X:=X.suite a ((a,oe)::pn)) hN hv hd hcd)) fun σ H Q ⟨g,ρ,M,x,z,I,e,k⟩=>?_
 have e:Ub y x f=some z:=e
 unfold Ub at e
 split at e
 ·next ey=>
  obtain⟨z',l,e⟩:=arI.mp e
  split at e
  ·next hl=>
   cases e
   obtain⟨C',c1,c2,c3⟩:=I.xr
   rw[eq_of_beq ey,hC]at c1
   cases c1
   rcases c3 with⟨c3,_⟩|⟨b,fs,c3,c4,c5⟩
   ·rw[c3]at l
    cases l
   ·obtain⟨v,l1,l2⟩:=c5.get l
    exact⟨.ref a,I.sl j rfl,rfl,c2,b,fs,v,c3,c4,l1,k v H (Ex.refl H) (Rep.free (g:=g.fr) (g':=g) rfl hl l2)⟩
  ·cases e
 ·cases e
theorem adW{i:Option Nat}:PA (X.suite a ((a,oe)::pn)) [] (tUA X.K aj a cls d i fun _=>some []):=PA.weak pa_nil fun σ H Q ⟨g,ρ,M,x,z,I,e,k⟩=>by
 cases e
 exact k [] H (Ex.refl H) .nil
theorem aiC{e:Expr}{es:List Expr}{i:Option Nat}{f:dB->Option Dat}{fr:dB->Option (List Dat)}(h:PE (X.suite a ((a,oe)::pn)) e (tU X.K aj a cls d i f))(hr:PA (X.suite a ((a,oe)::pn)) es (tUA X.K aj a cls d i fr))(hs:nst e=true) :
  PA (X.suite a ((a,oe)::pn)) (e::es) (tUA X.K aj a cls d i fun x=>(f x).bind fun z=>(fr x).bind fun zs=>some (z::zs)):=by
 refine PA.weak (pa_cons h hr (cP hs es)) fun σ H Q ⟨g,ρ,M,x,z,I,e,k⟩=>?_
 obtain⟨z1,e1,e⟩:=arI.mp e
 obtain⟨z2,e2,e⟩:=arI.mp e
 cases e
 exact⟨g,ρ,M,x,z1,I,e1,fun v H1 x1 r1=>⟨g,ρ,M,x,z2,I.ex x1,e2,fun vs H2 x2 r2=>k (v::vs) H2 (x1.trans x2) (.cons (r1.ex x2 (I.ex x1).inv.kd) r2)⟩⟩
theorem adC{es:List Expr}{kk:Nat}{i:Option Nat}{fr:dB->Option (List Dat)}(hr:PA (X.suite a ((a,oe)::pn)) es (tUA X.K aj a cls d i fr))(hn:∀x zs,fr x=some zs->zs.length<=100000):PE (X.suite a ((a,oe)::pn)) (.Tuple es kk pos) (tU X.K aj a cls d i fun x=>(fr x).bind fun zs=>some (.tuple zs)):=by
 refine PE.weak (pe_tup hr) fun σ H Q ⟨g,ρ,M,x,z,I,e,k⟩=>?_
 obtain⟨zs,e1,e⟩:=arI.mp e
 cases e
 refine⟨g,ρ,M,x,zs,I,e1,fun vs H1 x1 r1=>⟨sz_of (by rw[r1.length];exact hn x zs e1),fun p np=>?_⟩⟩
 exact k (.ref p) _ (x1.trans (Ex.new np)) (.tup (st_of upd_same) (r1.ex (Ex.new np) (I.ex x1).inv.kd))
theorem VD{x:dB}:∀{fs:List Str} {zs:List Dat},M5 y x fs=some zs->zs.length=fs.length
 |[],zs,h=>by cases h;rfl
 |f::fs,zs,h=>by
  rw[M5]at h
  obtain⟨z1,e1,h⟩:=arI.mp h
  obtain⟨z2,e2,h⟩:=arI.mp h
  cases h
  simp[VD e2]
theorem aj1{i:Option Nat}{se:Ez}{st:List (Nat×Ez)}{D D':Ends}{σ:L2.St}{H:Hp}(h:tSu X.K aj a cls d i y ((j,se)::st) D σ H)(nx:∀σ' H',tSu X.K aj a cls d i y st D σ' H'->D'.nx σ' H') :
  tAsg (tU X.K aj a cls d i fun x=>Px y x se) (gName j) D' σ H:=by
 obtain⟨g,ρ,M,x,ρ2,I,e,nj,k⟩:=h
 rw[Ei]at e
 obtain⟨z,e1,e⟩:=arI.mp e
 refine⟨g,ρ,M,x,z,I,e1,fun v H' x1 r1=>nx _ _ ⟨g,ρ.set j (some (.dat z)),M,x,ρ2,⟨(I.ex x1).inv.set r1,(I.ex x1).xr,fun jj hj=>?_⟩,e,fun p hp=>nj p (arO _ hp),fun σ' H2 x2 I2=>k σ' H2 (x1.trans x2) I2⟩⟩
 have ne:j≠jj:=fun z=>nj (j,se) arP (by rw[hj,z])
 rw[arS ne]
 exact I.sl jj hj
theorem akq{i:Option Nat}{D:Ends}{σ:L2.St}{H:Hp}(h:tSu X.K aj a cls d i y [] D σ H):D.nx σ H:=by
 obtain⟨g,ρ,M,x,ρ2,I,e,nj,k⟩:=h
 cases e
 exact k σ H (Ex.refl H) I.inv
end
def anz(K:arJ)(aj:aQ)(h:Hd)(l:Cl):Prop:=(∃D,aj h.y=some D/\l.c=.ref D)/\acY K aj h.y h.tk/\l.nm=h.nm/\(l.ts=fun a cls d=>tSu K aj a cls d h.nm h.y h.st)/\∀p∈h.st,h.nm≠some p.1
inductive Gj(K:arJ)(aj:aQ):List Hd->List Cl->Prop
 |nil:Gj K aj [] []
 |cons {h:Hd} {l:Cl} {hs:List Hd} {ls:List Cl} (o:anz K aj h l) (r:Gj K aj hs ls):Gj K aj (h::hs) (l::ls)
theorem SInv.off{K:arJ}{aj:aQ}{σ:L2.St}{H:Hp}{g:Gh}{ρ:Env}{M:Mo}(I:SInv K aj σ H g ρ M)(i:Nat)(v:Option V):SInv K aj (σ.set i v) H g (ρ.set i none) M:=by
 have I2:=I.forget (j:=i)
 refine⟨I2.kd,I2.wok,by rw[asf,asf];exact I.len,fun j d h=>?_,fun j xs h=>?_,fun j k xs ys l ne h1 h2 h3=>?_⟩
 ·by_cases e:j=i
  ·subst e
   rw[asR]at h
   split at h <;> first | (split at h <;> cases h) | (exact absurd rfl ‹¬_›)
  ·obtain⟨v',a1,a2⟩:=I2.dat j d h
   rw[arS (Ne.symm e)]at a1
   exact⟨v',by rw[arS (Ne.symm e)];exact a1,a2⟩
 ·by_cases e:j=i
  ·subst e
   rw[asR]at h
   split at h <;> first | (split at h <;> cases h) | (exact absurd rfl ‹¬_›)
  ·obtain⟨l,us,a1,a2⟩:=I2.own j xs h
   rw[arS (Ne.symm e)]at a1
   exact⟨l,us,by rw[arS (Ne.symm e)];exact a1,a2⟩
 ·have n1:j≠i:=fun z=>by
   subst z
   rw[asR]at h1
   split at h1 <;> first | (split at h1 <;> cases h1) | (exact absurd rfl ‹¬_›)
  have n2:k≠i:=fun z=>by
   subst z
   rw[asR]at h2
   split at h2 <;> first | (split at h2 <;> cases h2) | (exact absurd rfl ‹¬_›)
  rw[arS (Ne.symm n1)]at h1 h3
  rw[arS (Ne.symm n2)]at h2 ⊢
  exact I.sep j k xs ys l ne h1 h2 h3
section
variable{X:Cx}{aj:aQ}{W:WX}{q:Bool}{body:List Stmt}{h0:ExceptHandler}{hds:List ExceptHandler}{hs:List Hd}{ls:List Cl}{pos:Pos}{f:SF}
theorem akW{D:Ends}{g g':Gh}{H H':Hp}{σ':L2.St}{ρ':Env}{M':Mo}{x:dB}{c:Value}{dd:Option Addr}(ha:Gj X.K aj hs ls)(r:Gr q g g' H H')(I:SInv X.K aj σ' H' g' ρ' M')(xr:qF X.K aj g'.fr H' x c dd)
  (z:(hdl hs x ρ' M').sat (sN X.K aj q D.nx g H) (sR X.K aj q D.rt g H) (sN X.K aj q D.bk g H) (sN X.K aj q D.ct g H) (sX X.K aj W q g H)):Yk X.K W D ls c dd σ' H':=by
 induction ha with
 |nil=>exact z σ' H' g' c dd r I xr
 | @cons h l hs ls o _ ih=>
  obtain⟨⟨D0,o1,o2⟩,o3,o4,o5,o6⟩:=o
  rw[hdl]at z
  obtain⟨C,c1,c2,c3⟩:=id xr
  split at z
  ·next ht=>
   refine⟨true,by rw[c2,o2];exact o3 _ _ _ ht c1 _ o1,fun _ a na=>?_,fun y=>nomatch y⟩
   rw[o4,o5]
   split at z
   ·next hm=>
    split at z
    ·next ρ2 hr=>
     cases hnm:h.nm with
     |none=>
      rw[hnm]at hr z o6
      exact⟨g',ρ',M',x,ρ2,⟨I,xr,fun j hj=>nomatch hj⟩,hr,o6,fun σ2 H2 e2 I2=>z σ2 H2 g' (r.trans (Gr.ex e2)) I2⟩
     |some i=>
      rw[hnm]at hr z o6 hm
      refine⟨g',ρ'.set i none,M',x,ρ2,⟨I.off i _,xr,fun j hj=>?_⟩,hr,o6,fun σ2 H2 e2 I2=>z _ H2 g' (r.trans (Gr.ex e2)) (I2.off i none)⟩
      cases hj
      have hl:i < ρ'.length:=of_decide_eq_true hm
      rw[ar3 (by rw[I.len];exact hl)]
    ·exact False.elim z
   ·exact False.elim z
  ·next ht=>exact⟨false,by rw[c2,o2];exact o3 _ _ _ ht c1 _ o1,(fun y=>nomatch y),fun _=>ih z⟩
  ·exact False.elim z
theorem akk(st:X.stack=X.env::X.outer)(hf:X.env.frame=some X.env.locals)(hN:X.N.Nodup)(tk:Takes X W)
  (hb:∀(W':WX) (pn:List (Addr×Obj)) (xe:Value->Shared->Prop),Takes (X.tr pn xe) W'->PassesOwn (model X.prog X.w) X.A X.env xe->JN aj (X.tr pn xe) W' q body f)
  (hh:Ce X (h0::hds) ls) (ha:Gj X.K aj hs ls):SE aj X W q (.Try body (h0::hds) [] [] pos) (U0 f hs):=by
 refine PS.weak (ahx (tb:=fun W'=>tS X.K aj W' q f) st hf hN tk (fun W' pn xe t p=>hb W' pn xe t p) hh) fun D σ H ⟨g,ρ,M,I,z⟩=>?_
 refine⟨g,ρ,M,I,?_⟩
 unfold U0 at z
 cases hfm:f M ρ with
 |next ρ' M'=>rw[hfm]at z;exact z
 |ret d M'=>rw[hfm]at z;exact z
 |brk ρ' M'=>rw[hfm]at z;exact z
 |cont ρ' M'=>rw[hfm]at z;exact z
 |bad=>rw[hfm]at z;exact z
 |exc x ρ' M'=>
  rw[hfm]at z
  exact fun σ' H' g' c dd r I' xr=>akW ha r I' xr z
end
section
variable{K:arJ}{aj:aQ}{W:WX}{g g':Gh}{H H':Hp}{σ:L2.St}{ρ:Env}{M:Mo}
theorem jE.grow{l:Addr}(r:Gr false g g' H H')(e:Ex H H')(k:Kd g H):∀{n:Bool} {kvs:List (Dat×Dat)},jE K aj g H l n kvs->jE K aj g' H' l n kvs
 |false,_,⟨kv,h1,h2,h3⟩=>⟨kv,e _ _ h1,h2,h3.gr r k⟩
 |true,_,⟨o,xs,vs,h1,h2,h3,h4,h5,h6⟩=>⟨o,xs,vs,e _ _ h1,h2,h3,h4.gr r k,h5,h6.gr r k⟩
theorem dN.grow{h:Nat}{f:Str}{v:V}(r:Gr false g g' H H')(e:Ex H H')(o:g'.ow=g.ow)(k:Kd g H):∀{fl:jd},dN K aj g H h f v fl->dN K aj g' H' h f v fl
 |.dat _,z=>Rep.gr r k z
 |.lst _ _,⟨l,us,h1,h2,h3,h4,h5⟩=>⟨l,us,h1,e _ _ h2,by rw[o];exact h3,h4.gr r k,r.tb h5⟩
 |.dic _ _,⟨l,h1,h2,h3⟩=>⟨l,h1,by rw[o];exact h2,h3.grow r e k⟩
theorem cM.grow{h:Nat}(r:Gr false g g' H H')(e:Ex H H')(o:g'.ow=g.ow)(k:Kd g H){fs:List (Str×V)}{gs:List (Str×jd)}(t:cM K aj g H h fs gs):cM K aj g' H' h fs gs:=by
 induction t with
 |nil=>exact .nil
 |cons z _ ih=>exact .cons (z.grow r e o k) ih
def Gh.push(g:Gh)(x:Addr):Gh:={ g with tbl:=g.tbl++[x] }
theorem aae{x a:Addr}(z:(g.push x).A a):g.A a∨a=x:=by
 rcases z with(z|z)|z|z
 ·rcases arW.mp z with z|z
  ·exact .inl (.inl (.inl z))
  ·exact .inr (arQ.mp z)
 ·exact .inl (.inl (.inr z))
 ·exact .inl (.inr (.inl z))
 ·exact .inl (.inr (.inr z))
theorem Zr{x a:Addr}(z:(g.push x).W a):g.W a∨a=x:=by
 rcases z with z|z
 ·rcases arW.mp z with z|z
  ·exact .inl (.inl z)
  ·exact .inr (arQ.mp z)
 ·exact .inl (.inr z)
theorem Vf{x:Addr}(e:Ex H H')(nx:H x=none):Gr false g (g.push x) H H' where
 keep:=fun a o h _ _=>e a o h
 keepW:=fun z=>nomatch z
 dom:=Dj e
 tbl:=⟨[x],rfl⟩
 W:=fun a z=>z.elim (fun z=>.inl (asq _ z)) .inr
 nW:=fun a z=>(Zr z).imp id fun z=>by rw[z];exact nx
 qg:=fun z=>nomatch z
 Lc:=rfl
 Lo:=fun _ z=>z
 nLo:=fun _ z=>.inl z
theorem aby{x:Addr}{o:HO}(k:Kd g H)(e:Ex H H')(nx:H x=none)(hx:H' x=some o)(m:Ig o):Kd (g.push x) H' where
 ob:=fun a z=>by
  rcases aae z with z|rfl
  ·obtain⟨u,h1,h2⟩:=k.ob a z
   exact⟨u,e _ _ h1,h2⟩
  ·exact⟨o,hx,m⟩
 lo:=fun a z y=>by
  rcases Zr y with y|rfl
  ·exact k.lo a z y
  ·obtain⟨u,h1,_⟩:=k.ob a (.inr (.inr z))
   rw[nx]at h1
   cases h1
 lc:=fun a z=>by
  refine⟨fun y=>?_,(k.lc a z).2⟩
  rcases Zr y with y|rfl
  ·exact(k.lc a z).1 y
  ·obtain⟨u,h1,_⟩:=k.ob a (.inr (.inl z))
   rw[nx]at h1
   cases h1
theorem YH{x:Addr}{c:Str}(k:Kd g H)(w:fV K aj g H M)(e:Ex H H')(nx:H x=none)(hx:c=""∨∃C dx,aj c=some C/\H' x=some (.ins C dx [])):fV K aj (g.push x) H' (M++[⟨c,[]⟩]):=by
 have gt:∀{h:Nat} {a:Addr},(g.push x).tbl[h]?=some a->(g.tbl[h]?=some a)∨(h=M.length/\a=x):=fun {h a} z=>by
  have z:(g.tbl++[x])[h]?=some a:=z
  by_cases hl:h < g.tbl.length
  ·rw[arX hl]at z
   exact .inl z
  ·rw[ar6 (by omega)]at z
   have:=(arL.mp z).1
   simp at this
   have e0:h - g.tbl.length=0:=by omega
   rw[e0]at z
   cases z
   exact .inr ⟨by rw[←w.len];omega,rfl⟩
 have nin:∀{h:Nat},¬g.tbl[h]?=some x:=fun {h} z=>by
  obtain⟨u,h1,_⟩:=k.ob x (.inl (.inl (arR z)))
  rw[nx]at h1
  cases h1
 have ex:∀{h:Nat} {i:Inst},(M++[(⟨c,[]⟩:Inst)])[h]?=some i->M[h]?=some i∨i=⟨c,[]⟩:=fun {h i} h1=>by
  by_cases hl:h < M.length
  ·rw[arX hl]at h1
   exact .inl h1
  ·rw[ar6 (by omega)]at h1
   exact .inr (arQ.mp (arR h1))
 refine⟨by show(g.tbl++[x]).length=_;simp[w.len],fun h j a h1 h2=>?_,fun h a i h1 h2 hcn=>?_,fun h i h1=>?_,fun h i h1=>?_,fun h a i h1 h2 hcn=>?_,fun h i h1 hcn=>?_,w.nc⟩
 ·rcases gt h1 with z1|⟨z1,rfl⟩
  ·rcases gt h2 with z2|⟨z2,rfl⟩
   ·exact w.inj h j a z1 z2
   ·exact absurd z1 nin
  ·rcases gt h2 with z2|⟨z2,_⟩
   ·exact absurd z2 nin
   ·omega
 ·rcases gt h1 with z1|⟨rfl,rfl⟩
  ·have hl:h < M.length:=by rw[←w.len];exact(arL.mp z1).1
   rw[arX hl]at h2
   obtain⟨C',dx',fs,c1,c2,c3⟩:=w.ins h a i z1 h2 hcn
   exact⟨C',dx',fs,c1,e _ _ c2,c3.grow (Vf e nx) e rfl k⟩
  ·rw[ar6 (ash _),Nat.sub_self]at h2
   cases h2
   rcases hx with rfl|⟨C,dx,hc,hx⟩
   ·exact absurd rfl hcn
   ·exact⟨C,dx,[],hc,hx,.nil⟩
 ·rcases ex h1 with h1|rfl
  ·exact w.nd h i h1
  ·exact atb
 ·rcases ex h1 with h1|rfl
  ·exact w.fd h i h1
  ·exact fun f hf=>absurd hf asr
 ·rcases gt h1 with z1|⟨_,rfl⟩
  ·have hl:h < M.length:=by rw[←w.len];exact(arL.mp z1).1
   rw[arX hl]at h2
   exact w.tw h a i z1 h2 hcn
  ·cases hz:g.ow a with
   |none=>exact hz
   |some p=>
    obtain⟨u,h2,_⟩:=k.ob a (.inl (.inr (by rw[hz];exact fun y=>nomatch y)))
    rw[nx]at h2
    cases h2
 ·rcases ex h1 with h1|rfl
  ·exact w.dm h i h1 hcn
  ·rfl
theorem SInv.grow{M':Mo}(r:Gr false g g' H H')(e:Ex H H')(lo:g'.Lo=g.Lo)(k':Kd g' H')(w':fV K aj g' H' M')(I:SInv K aj σ H g ρ M):SInv K aj σ H' g' ρ M' where
 kd:=k'
 wok:=w'
 len:=I.len
 dat:=fun i d h=>by
  obtain⟨v,h1,h2⟩:=I.dat i d h
  exact⟨v,h1,h2.gr r I.kd⟩
 own:=fun i xs h=>by
  obtain⟨l,us,h1,h2,h3,h4⟩:=I.own i xs h
  exact⟨l,us,h1,e _ _ h2,by rw[lo];exact h3,h4.gr r I.kd⟩
 sep:=I.sep
end
theorem acf{P:Program}{w:World}{K:arJ}{mg:Str->Option Value}{base:Heap}{k:Nat}{f:Addr}{fd:FuncData}{ps:List Str}{sp:Sp}(F:FnOk P w K mg base (L2.CX P w) k f fd ps sp):FnOk P w K mg base L2.CX0 k f fd ps fun vs H Q _=>sp vs H Q fun _ _ _=>False:=
 ⟨fun vs H Q E h=>F.len vs H Q _ h,fun A outer s H args us vs Q E hr he hb hv h=>codeAny_mono (F.run A outer s H args us vs Q _ hr he hb hv h) fun r s' z=>by
  unfold CR at z ⊢
  split at z
  ·exact z
  ·exact z
  ·obtain⟨a,B,H',cls,d,_,_,_,_,_,_,_,y⟩:=z
   exact False.elim y⟩
def Bg(x:Str)(m:Mo->List Dat->bx Dat)(as:QA):GF:=fun M ρ=>((as M ρ).at M).bind fun ds _=>match m (M++[⟨x,[]⟩]) (obj M.length::ds) with
 |.ok .none M'=>.ok (obj M.length) M'
 |_=>.bad
section
variable{X:Cx}{aj:aQ}{W:WX}{x:Str}{pos p:Pos}{k n:Nat}{m:Mo->List Dat->bx Dat}{as:QA}{t:TA}{e:Expr}{es:List Expr}
theorem aeA{C f:Addr}{fd:FuncData}{ps:List Str}(hc:aj x=some C)(hp:ps.length=n+1)(hn:∀M ρ ds,as M ρ=.ok ds->ds.length=n)(ht:∀σ H Q,Ou X.K aj W as σ H Q->t σ H Q)(σ:L2.St)(H:Hp)(Q:VK)(h:tE X.K aj W false (Bg x m as) σ H Q) :
  tMake C (fun vs H Q _=>JR X.K aj ps.length m vs H Q fun _ _ _=>False) [] (fun _ _ _=>False) t σ H Q:=by
 obtain⟨g,ρ,M,I,h⟩:=h
 unfold Bg at h
 have h:=h.bnd
 refine ht σ H _ ⟨g,ρ,M,I,?_⟩
 cases has:as M ρ with
 |exc x=>rw[has]at h;exact fun H' c dd e r=>h H' g c dd (Gr.ex e) (I.ex e) r
 |bad=>rw[has]at h;exact False.elim h
 |ok ds=>
  rw[has]at h
  intro vs H1 e1 r1 y dx ny ndx ne
  have I1:=I.ex e1
  have e2:Ex H1 (upd (upd H1 dx (.own y)) y (.ins C dx [])):=by
   refine(Ex.new ndx).trans (Ex.new ?_)
   rw[upd_ne ne.symm]
   exact ny
  have hy:upd (upd H1 dx (.own y)) y (.ins C dx []) y=some (.ins C dx []):=upd_same
  have gr:=Vf (g:=g) e2 ny
  have kd:=aby I1.kd e2 ny hy trivial
  have wk:=YH (c:=x) I1.kd I1.wok e2 ny (.inr ⟨C,dx,hc,hy⟩)
  have I2:=I1.grow gr e2 rfl kd wk
  have hb:(g.push y).tbl[M.length]?=some y:=by
   show(g.tbl++[y])[M.length]?=_
   rw[←I1.wok.len,ar6 (ash _),Nat.sub_self]
   rfl
  refine⟨by rw[asI,arU,r1.length,hn M ρ ds has,hp],g.push y,M++[⟨x,[]⟩],obj M.length::ds,kd,wk,.cons (.obj hb) (by rw[asI];exact r1.gr gr I1.kd),?_⟩
  have h:bx.sat (match m (M++[(⟨x,[]⟩:Inst)]) (obj M.length::ds) with
   |.ok .none M'=>bx.ok (obj M.length) M'
   |_=>.bad) (fun d M'=>∀v H' g',Gr false g g' H H'->SInv X.K aj σ H' g' ρ M'->Rep X.K g' H' v d->Q v H') (gE X.K aj W false g H σ ρ):=h
  cases hm:m (M++[⟨x,[]⟩]) (obj M.length::ds) with
  |bad=>rw[hm]at h;exact False.elim h
  |exc z M'=>rw[hm]at h;exact False.elim h
  |ok d M'=>
   rw[hm]at h
   cases d with
   |none=>exact fun v H' g' c k' w' r'=>⟨by cases r';rfl,h (.ref y) H' g' (((Gr.ex e1).trans gr).trans c.gr) (I2.call c k' w') (.obj (c.gr.tb hb))⟩
   |_=>exact False.elim h
theorem akG(hr:Room k X.A)(g:bf X.prog X.w X.K X.mg X.base aj k x (.cls n m))(hg:Gl X x)(hd:(x==("__debug__" : Str))=false)(ha:Ed aj X W (e::es) as)(hs:(e::es).all nst=true)(hn:∀M ρ ds,as M ρ=.ok ds->ds.length=n) :
  GE aj X W false (.Call (.Name x p) (e::es) [] pos) (Bg x m as):=by
 obtain⟨C,f,fd,ps,j,g1,g2,_,g3,hj,hp,hB,F⟩:=g
 have hs':=hs
 rw[asv,arK]at hs'
 exact PE.weak (pe_make (E:=fun _ _ _=>False) g3 (acf F) (hr.mono hj) hg g1 hB .nil pass0 ha hd (cP hs'.1 es) (star_any es hs'.2)) fun σ H Q h=>aeA (f:=f) (fd:=fd) g2 hp hn (fun _ _ _ z=>z) σ H Q h
theorem aiI(hr:Room k X.A)(g:bf X.prog X.w X.K X.mg X.base aj k x (.cls 0 m))(hg:Gl X x)(hd:(x==("__debug__" : Str))=false):GE aj X W false (.Call (.Name x p) [] [] pos) (Bg x m au):=by
 obtain⟨C,f,fd,ps,j,g1,g2,_,g3,hj,hp,hB,F⟩:=g
 exact PE.weak (pe_make0 (E:=fun _ _ _=>False) g3 (acf F) (hr.mono hj) hg g1 hB .nil pass0 hd) fun σ H Q h=>aeA (f:=f) (fd:=fd) (as:=au) g2 hp (fun M ρ ds z=>by cases z;rfl) (fun σ H Q ⟨g,ρ,M,I,z⟩=>z [] H (Ex.refl H) .nil) σ H Q h
end
def xg(m:Mo->List Dat->bx Dat)(as:QA):GF:=fun M ρ=>((as M ρ).at M).bind fun ds _=>m M ds
section
variable{X:Cx}{aj:aQ}{W:WX}{e:Expr}{es:List Expr}{pos p:Pos}{x:Str}{k:Nat}{f:Addr}{fd:FuncData}{ps:List Str}
theorem ain{m:Mo->List Dat->bx Dat}{as:QA}(tk:Takes X W)(F:FnOk X.prog X.w X.K X.mg X.base (L2.CX X.prog X.w) k f fd ps (JR X.K aj ps.length m))(hr:Room k X.A)(hg:Gl X x)(hm:X.mg x=some (.ref f))(hk:PySem.W.keepIn X.K (.ref f)=true)(hb:Binds X.K fd ps [])
  (ha:Ed aj X W (e::es) as) (hl:(e::es).length=ps.length) (hd:(x==("__debug__" : Str))=false) (hs:(e::es).all nst=true) (hn:∀M ρ ds,as M ρ=.ok ds->ds.length=(e::es).length):GE aj X W false (.Call (.Name x p) (e::es) [] pos) (xg m as):=by
 have hs':=hs
 rw[asv,arK]at hs'
 refine PE.weak (pe_callS (E:=fun σ=>WE W σ) F hr hg hm hk hb (fun σ=>passAt tk σ) ha hd (cP hs'.1 es) (star_any es hs'.2)) fun σ H Q ⟨g,ρ,M,I,h⟩=>?_
 refine⟨g,ρ,M,I,?_⟩
 have h:=h.bnd
 cases has:as M ρ with
 |exc x=>rw[has]at h;exact fun H' c dd e r=>h H' g c dd (Gr.ex e) (I.ex e) r
 |bad=>rw[has]at h;exact False.elim h
 |ok ds=>
  rw[has]at h
  have h:(m M ds).sat (fun d M'=>∀v H' g',Gr false g g' H H'->SInv X.K aj σ H' g' ρ M'->Rep X.K g' H' v d->Q v H') (gE X.K aj W false g H σ ρ):=h
  intro vs H1 e1 r1
  exact⟨by rw[r1.length,hn M ρ ds has];exact hl,g,M,ds,I.kd.ex e1,I.wok.ex e1 I.kd,r1,h.mono (fun d M' kk v H' g' c k' w' r'=>kk v H' g' ((Gr.ex e1).trans c.gr) ((I.ex e1).call c k' w') r') fun x M' kk H' g' cc dd c k' w' r'=>kk H' g' cc dd ((Gr.ex e1).trans c.gr) ((I.ex e1).call c k' w') r'⟩
end
def Ft.has(ft:Ft)(c f:Str):Bool:=match ft.lookup c with
 |some fs=>fs.contains f
 |none=>false
def Mj(ft:Ft)(aj:aQ):Prop:=∀c f,ft.has c f=true->f∈aj.fl c
def unH:Dat->Option Nat
 |.dict [(.none,.int (.ofNat h))]=>some h
 |_=>none
theorem afh{d:Dat}{h:Nat}(e:unH d=some h):d=obj h:=by
 unfold unH at e
 split at e
 ·cases e;rfl
 ·cases e
def j6(M:Mo)(d:Dat):Option (Nat×Inst):=(unH d).bind fun h=>(M[h]?).bind fun i=>match i.cls=="" with
 |true=>none
 |false=>some (h,i)
theorem Ji{M:Mo}{d:Dat}{h:Nat}{i:Inst}(e:j6 M d=some (h,i)):d=obj h/\M[h]?=some i/\i.cls≠"":=by
 unfold j6 at e
 obtain⟨h',e1,e⟩:=arI.mp e
 obtain⟨i',e2,e⟩:=arI.mp e
 split at e
 ·cases e
 ·next hc=>
  cases e
  exact⟨afh e1,e2,fun z=>by rw[z]at hc;cases hc⟩
def uH(ft:Ft)(o:QF)(f:Str)(e:GF):SF:=fun M ρ=>(e M ρ).then ρ fun d M1=>((o M1 ρ).at M1).then ρ fun od M2=>match j6 M2 od with
 |some (h,i)=>match ft.has i.cls f&&decide (i.fs.length < 100) with
  |true=>.next ρ (M2.set h (i.put f (.dat d)))
  |false=>.bad
 |none=>.bad
theorem SInv.chg{K:arJ}{aj:aQ}{σ:L2.St}{H H':Hp}{g g':Gh}{ρ:Env}{M M':Mo}{h:Nat}{f:Str}(I:SInv K aj σ H g ρ M)(c:Chg M g g' H H' h f)(w:fV K aj g' H' M'):SInv K aj σ H' g' ρ M':=I.call c.gc c.kd w
section
variable{X:Cx}{aj:aQ}{W:WX}{o e:Expr}{f:Str}{pos pos':Pos}{ft:Ft}{fo:QF}
theorem Gy{K:arJ}{g:Gh}{H:Hp}{M:Mo}{d:Dat}{v:V}{h:Nat}{i:Inst}(co:jy K aj)(fk:Mj ft aj)(w:fV K aj g H M)(r:dY K g H v d)(hi:j6 M d=some (h,i))(hf:ft.has i.cls f=true):∃a C dx fs,d=obj h/\M[h]?=some i/\i.cls≠""/\g.tbl[h]?=some a/\v=.ref a/\aj i.cls=some C/\H a=some (.ins C dx fs)/\cM K aj g H h fs i.fs/\Cls K C/\NoAttr K C f/\f∈aj.fl i.cls:=by
 obtain⟨rfl,h1,h2⟩:=Ji hi
 obtain⟨a,rfl,ha⟩:=Ks r
 obtain⟨C,dx,fs,c1,c2,c3⟩:=w.ins h a i ha h1 h2
 have hfl:=fk _ _ hf
 obtain⟨k1,k2⟩:=co i.cls C f c1 hfl
 exact⟨a,C,dx,fs,rfl,h1,h2,ha,rfl,c1,c2,c3,k1,k2,hfl⟩
theorem ahh{fe:GF}(co:jy X.K aj)(fk:Mj ft aj)(ho:QW aj X W o fo)(he:GE aj X W false e fe)(hs:swapsWith e (some (.Attribute o f pos')) pos.line X.env=pure false):SE aj X W false (.Assign [.Attribute o f pos'] e pos) (uH ft fo f fe):=by
 refine PS.weak (ps_fld ho he hs) fun D σ H ⟨g,ρ,M,I,z⟩=>?_
 refine tE.go I (dw (σ:=σ) z) fun d M1 v H1 g1 k1 r1 I1 rv=>?_
 refine tW.go I1 (k:=fun od=>((match j6 M1 od with
  |some (h,i)=>match ft.has i.cls f&&decide (i.fs.length < 100) with
   |true=>sS.next ρ (M1.set h (i.put f (.dat d)))
   |false=>.bad
  |none=>.bad).sat (sN X.K aj false D.nx g H) (sR X.K aj false D.rt g H) (sN X.K aj false D.bk g H) (sN X.K aj false D.ct g H) (sX X.K aj W false g H))) ?_ fun od u H2 k2 e2 ru=>?_
 ·have k1:=Out.jf (dw (σ:=σ) k1)
  exact k1.mono (fun _ y=>y) fun x y H' c dd ex rx=>y H' g1 c dd (r1.trans (Gr.ex ex)) (I1.ex ex) rx
 ·have I2:=I1.ex e2
  split at k2
  ·next h i hi=>
   split at k2
   ·next hb=>
    rw[arK]at hb
    obtain⟨a,C,dx,fs,_,m1,m2,ha,rfl,c1,c2,c3,c4,c5,c6⟩:=Gy co fk I2.wok ru hi hb.1
    refine⟨a,C,dx,fs,rfl,c2,c4,c5,?_,?_⟩
    ·have:=of_decide_eq_true hb.2
     rw[c3.len]
     omega
    ·have ch:=U7 (f:=f) (C:=C) (dx:=dx) (fs':=putF f v fs) I2.kd I2.wok ha m1 m2
     have w':=I2.wok.chg I2.kd ch ha m1 m2 c6 c1 c3 upd_same (fl:=.dat d) (show Rep X.K g1 _ v d from(rv.ex e2 I1.kd).gr ch.gc.gr I2.kd)
     exact k2 σ _ g1 ((r1.trans (Gr.ex e2)).trans ch.gc.gr) (I2.chg ch w')
   ·exact False.elim k2
  ·exact False.elim k2
end
mutual
theorem Rep.mv{K:arJ}{g g':Gh}{H:Hp}(tb:∀(h:Nat) (a:Addr),g.tbl[h]?=some a->g'.tbl[h]?=some a)(n:∀a,g'.A a->g.A a):∀{v:V} {d:Dat},Rep K g H v d->Rep K g' H v d
 |_,_,.non=>.non
 |_,_,.bl b=>.bl b
 |_,_,.int i=>.int i
 |_,_,.str x=>.str x
 |_,_,.tup h t=>.tup h (aJ.mv tb n t)
 |_,_,.lst h t=>.lst (h.elim (fun z=>.inl ⟨z.1,fun y=>z.2 (n _ y)⟩) .inr) (aJ.mv tb n t)
 |_,_,.obj h=>.obj (tb _ _ h)
theorem aJ.mv{K:arJ}{g g':Gh}{H:Hp}(tb:∀(h:Nat) (a:Addr),g.tbl[h]?=some a->g'.tbl[h]?=some a)(n:∀a,g'.A a->g.A a):∀{vs:List V} {ds:List Dat},aJ K g H vs ds->aJ K g' H vs ds
 |_,_,.nil=>.nil
 |_,_,.cons h t=>.cons (Rep.mv tb n h) (aJ.mv tb n t)
end
def DY(ft:Ft)(o:QF)(f:Str)(e:IF):SF:=fun M ρ=>((e M ρ).at M).then ρ fun xs M0=>((o (M0++[⟨"",[]⟩]) ρ).at (M0++[⟨"",[]⟩])).then ρ fun od M2=>match j6 M2 od with
 |some (h,i)=>match ft.has i.cls f&&decide (i.fs.length < 100) with
  |true=>.next ρ (M2.set h (i.put f (.lst M0.length xs)))
  |false=>.bad
 |none=>.bad
theorem MJ{K:arJ}{aj:aQ}{σ:L2.St}{H H':Hp}{g:Gh}{ρ:Env}{M:Mo}{l:Addr}{o:HO}(I:SInv K aj σ H g ρ M)(nl:H l=none)(e:Ex H H')(hl:H' l=some o)(m:Ig o):Gr false g (g.push l) H H'/\SInv K aj σ H' (g.push l) ρ (M++[⟨"",[]⟩])/\(g.push l).tbl[M.length]?=some l/\(g.push l).ow l=none/\(M++[(⟨"",[]⟩:Inst)])[M.length]?=some ⟨"",[]⟩:=by
 have gr:=Vf (g:=g) e nl
 have kd:=aby I.kd e nl hl m
 have wk:=YH (c:="") I.kd I.wok e nl (.inl rfl)
 refine⟨gr,I.grow gr e rfl kd wk,?_,?_,?_⟩
 ·show(g.tbl++[l])[M.length]?=_
  rw[←I.wok.len,ar6 (ash _),Nat.sub_self]
  rfl
 ·cases hz:g.ow l with
  |none=>exact hz
  |some p=>
   obtain⟨u,h1,_⟩:=I.kd.ob l (.inl (.inr (by rw[hz];exact fun y=>nomatch y)))
   rw[nl]at h1
   cases h1
 ·rw[ar6 (ash _),Nat.sub_self]
  rfl
section
variable{X:Cx}{aj:aQ}{W:WX}{o e:Expr}{f:Str}{pos pos' p1 apos epos spos:Pos}{ft:Ft}{fo:QF}
theorem ahg{fe:IF}(co:jy X.K aj)(fk:Mj ft aj)(ho:QW aj X W o fo)(he:FE aj X W e fe)(hs:swapsWith e (some (.Attribute o f pos')) pos.line X.env=pure false):SE aj X W false (.Assign [.Attribute o f pos'] e pos) (DY ft fo f fe):=by
 refine PS.weak (ps_fld ho he hs) fun D σ H ⟨g,ρ,M,I,z⟩=>?_
 refine⟨g,ρ,M,I,?_⟩
 unfold DY at z
 cases hf:fe M ρ with
 |exc x=>rw[hf]at z;exact fun H' c dd e r=>z σ H' g c dd (Gr.ex e) (I.ex e) r.fr
 |bad=>rw[hf]at z;exact False.elim z
 |ok xs=>
  rw[hf]at z
  intro l us H1 nl e1 hl rs
  obtain⟨gr,I1,tb,ow,mm⟩:=MJ I nl e1 hl trivial
  have rs1:aJ X.K (g.push l) H1 us xs:=aJ.mv (g:=g.add l) (g':=g.push l) (fun h a z=>gr.tb (g:=g) z) (fun a z=>by
   rcases aae z with z|rfl
   ·rcases z with z|z|z
    ·exact .inl z
    ·exact .inr (.inl z)
    ·exact .inr (.inr (show g.Lo a∨a=l from Or.inl z))
   ·exact .inr (.inr (show g.Lo a∨a=a from Or.inr rfl))) rs
  have z:(((fo (M++[⟨"",[]⟩]) ρ).at (M++[⟨"",[]⟩])).then ρ fun od M2=>match j6 M2 od with
   |some (h,i)=>match ft.has i.cls f&&decide (i.fs.length < 100) with
    |true=>.next ρ (M2.set h (i.put f (.lst M.length xs)))
    |false=>.bad
   |none=>.bad).sat (sN X.K aj false D.nx g H) (sR X.K aj false D.rt g H) (sN X.K aj false D.bk g H) (sN X.K aj false D.ct g H) (sX X.K aj W false g H):=z
  have k1:=Out.jf (dw (σ:=σ) z)
  refine tW.go I1 (k1.mono (fun _ y=>y) fun x y H' c dd ex rx=>y H' _ c dd (gr.trans (Gr.ex ex)) (I1.ex ex) rx) fun od u H2 k2 e2 ru=>?_
  have I2:=I1.ex e2
  split at k2
  ·next h i hi=>
   split at k2
   ·next hb=>
    rw[arK]at hb
    obtain⟨a,C,dx,fs,_,m1,m2,ha,rfl,c1,c2,c3,c4,c5,c6⟩:=Gy co fk I2.wok ru hi hb.1
    have nla:l≠a:=fun z=>by
     subst z
     cases I2.wok.inj _ _ _ ha tb
     rw[mm]at m1
     cases m1
     exact m2 rfl
    refine⟨a,C,dx,fs,rfl,c2,c4,c5,?_,?_⟩
    ·have:=of_decide_eq_true hb.2
     rw[c3.len]
     omega
    ·have ch:=Uo (f:=f) (C:=C) (dx:=dx) (fs':=putF f (.ref l) fs) I2.kd I2.wok ha m1 m2 tb mm ow
     have w':=I2.wok.chg I2.kd ch ha m1 m2 c6 c1 c3 upd_same (v:=.ref l) (fl:=.lst M.length xs) ⟨l,us,rfl,by rw[upd_ne nla];exact e2 _ _ hl,if_pos rfl,(rs1.ex e2 I1.kd).gr ch.gc.gr I2.kd,ch.gc.gr.tb tb⟩
     exact k2 σ _ _ ((gr.trans (Gr.ex e2)).trans ch.gc.gr) (I2.chg ch w')
   ·exact False.elim k2
  ·exact False.elim k2
def FT(M:Mo)(f:Str)(d:Dat):Option (Nat×Inst×Nat×List Dat):=(j6 M d).bind fun p=>match p.2.fs.lookup f with
 |some (.lst n xs)=>some (p.1,p.2,n,xs)
 |_=>none
theorem UG{K:arJ}{g:Gh}{H:Hp}{M:Mo}{d:Dat}{v:V}{h n:Nat}{i:Inst}{xs:List Dat}(co:jy K aj)(w:fV K aj g H M)(r:dY K g H v d)(hi:FT M f d=some (h,i,n,xs)) :
  ∃a C dx fs l us,d=obj h/\M[h]?=some i/\i.cls≠""/\i.fs.lookup f=some (.lst n xs)/\g.tbl[h]?=some a/\v=.ref a/\aj i.cls=some C/\H a=some (.ins C dx fs)/\cM K aj g H h fs i.fs/\Cls K C/\NoAttr K C f/\f∈aj.fl i.cls/\fs.lookup f=some (.ref l)/\H l=some (.lst us)/\g.ow l=some (h,f)/\aJ K g H us xs/\g.tbl[n]?=some l:=by
 unfold FT at hi
 obtain⟨⟨h',i'⟩,h1,hi⟩:=arI.mp hi
 split at hi
 ·next n' xs' hl=>
  cases hi
  obtain⟨rfl,m1,m2⟩:=Ji h1
  obtain⟨a,rfl,ha⟩:=Ks r
  obtain⟨C,dx,fs,c1,c2,c3⟩:=w.ins _ a _ ha m1 m2
  have hfl:=w.fd _ _ m1 f (lookup_mem hl)
  obtain⟨k1,k2⟩:=co _ C f c1 hfl
  obtain⟨u,l1,l,us,rfl,l3,l4,l5,l6⟩:=c3.get hl
  exact⟨a,C,dx,fs,l,us,rfl,m1,m2,hl,ha,rfl,c1,c2,c3,k1,k2,hfl,l1,l3,l4,l5,l6⟩
 ·cases hi
theorem abw{K:arJ}{σ:L2.St}{ρ:Env}{g:Gh}{H:Hp}{M:Mo}{h n:Nat}{i:Inst}{ys:List Dat}{a C dx l:Addr}{fs:List (Str×V)}{us':List V}(I:SInv K aj σ H g ρ M)(m1:M[h]?=some i)(m2:i.cls≠"")(ha:g.tbl[h]?=some a)(c1:aj i.cls=some C)(c2:H a=some (.ins C dx fs))(c3:cM K aj g H h fs i.fs)(hfl:f∈aj.fl i.cls)(l1:fs.lookup f=some (.ref l))(l4:g.ow l=some (h,f))(l6:g.tbl[n]?=some l)(rs:aJ K g H us' ys) :
  Gr false g g H (upd H l (.lst us'))/\SInv K aj σ (upd H l (.lst us')) g ρ (M.set h (i.put f (.lst n ys))):=by
 have ch:=aeh (o':=.lst us') I.kd I.wok l4 trivial
 have nla:a≠l:=fun z=>by
  subst z
  rw[I.wok.tw h a i ha m1 m2]at l4
  cases l4
 have w':=I.wok.chg I.kd ch ha m1 m2 hfl c1 (dx:=dx) c3 (v:=.ref l) (fl:=.lst n ys) (by rw[upd_ne nla,Lw l1];exact c2) ⟨l,us',rfl,upd_same,l4,rs.gr ch.gc.gr I.kd,l6⟩
 exact⟨ch.gc.gr,I.chg ch w'⟩
def Fd(f:Str)(o:QF)(e:GF):SF:=fun M ρ=>((o M ρ).at M).then ρ fun od M0=>match FT M0 f od with
 |some (_,_,n,_)=>(e M0 ρ).then ρ fun d M1=>match FT M1 f od with
  |some (h,i,n',xs)=>match n==n'&&decide (xs.length < 100000) with
   |true=>.next ρ (M1.set h (i.put f (.lst n (xs++[d]))))
   |false=>.bad
  |none=>.bad
 |none=>.bad
theorem ah2{fe:GF}(co:jy X.K aj)(ho:QW aj X W o fo)(hb:baseOk o=true)(he:GE aj X W false e fe)(hs:nst e=true)(hl:(apos.endLine==pos.line)=true) :
  SE aj X W false (.Expr (.Call (.Attribute (.Attribute o f p1) "append" apos) [e] [] pos) epos) (Fd f fo fe):=by
 have h0:=pe_fld (X:=X) (pos:=p1) (f:=f) ho (mF hb)
 have h1:=pa_cons he pa_nil (cP hs [])
 have key:=pe_bm (X:=X) (cpos:=pos) (apos:=apos) PySem.F.plainAttrs_list PySem.F.slot_list_append PySem.F.type_list_append mt_append h0 h1 (mF rfl) (few (by simp[hs]) (by simp)) hl (cP hs []) (by with_unfolding_all rfl)
 refine PS.weak (ps_expr key (by with_unfolding_all rfl)) fun D σ H ⟨g,ρ,M,I,z⟩=>?_
 unfold Fd at z
 have k1:=Out.jf (dw (σ:=σ) z)
 refine tW.go I (k1.mono (fun _ y=>y) fun x y H' c dd ex rx=>y H' _ c dd (Gr.ex ex) (I.ex ex) rx) fun od u H1 k2 e1 ru=>?_
 have I1:=I.ex e1
 split at k2
 ·next h0' i0 n xs0 hi=>
  obtain⟨a,C,dx,fs,l,us,rfl,m1,m2,ml,ha,rfl,c1,c2,c3,c4,c5,c6,l1,l3,l4,l5,l6⟩:=UG co I1.wok ru hi
  refine⟨a,C,dx,fs,.ref l,rfl,c2,c4,c5,l1,.inl ⟨rfl,us,sq_of l3⟩,?_⟩
  refine tE.go I1 ((dw (σ:=σ) k2).mono (fun _ _ y=>y) fun x M' y=>y.gr (Gr.ex e1)) fun d M1 v H2 g2 k3 r2 I2 rv=>?_
  split at k3
  ·next h i n' xs hi2=>
   split at k3
   ·next hg=>
    rw[arK]at hg
    cases eq_of_beq hg.1
    have ru2:dY X.K g2 H2 (.ref a) (obj h0'):=Rep.weak (.obj (r2.tb ha))
    obtain⟨a',C',dx',fs',l',us',eh,n1,n2,nl,hb',ea,d1,d2,d3,d4,d5,d6,p1,p3,p4,p5,p6⟩:=UG co I2.wok ru2 hi2
    cases ea
    have el:l'=l:=ar8 (p6.symm.trans (r2.tb l6))
    subst el
    obtain⟨gr,I3⟩:=abw (us':=us'++[v]) (ys:=xs++[d]) I2 n1 n2 hb' d1 d2 d3 d6 p1 p4 p6 (p5.append (.cons rv .nil))
    refine⟨l',us',v,rfl,rfl,p3,sz_lt (by rw[p5.length];exact of_decide_eq_true hg.2),?_⟩
    exact k3 σ _ g2 (((Gr.ex e1).trans r2).trans gr) I3
   ·exact False.elim k3
  ·exact False.elim k3
 ·exact False.elim k2
def Ro(f:Str)(o fi e:QF):SF:=fun M ρ=>((e M ρ).at M).then ρ fun d _=>((o M ρ).at M).then ρ fun od _=>match FT M f od with
 |some (h,i,n,xs)=>((fi M ρ).at M).then ρ fun k _=>match k with
  |.int k=>match ixN xs.length k with
   |some j=>.next ρ (M.set h (i.put f (.lst n (xs.set j d))))
   |none=>.bad
  |_=>.bad
 |none=>.bad
theorem ah5{i:Expr}{fi fe:QF}(co:jy X.K aj)(ho:QW aj X W o fo)(hb:baseOk o=true)(he:QE aj X W e fe)(hi:QE aj X W i fi)
  (ha:∀v,assign (.Subscript (.Attribute o f p1) i spos) X.env v=(do
   let ov ←holding [v] (eval (.Attribute o f p1) X.env)
   let iv ←holding [v,ov] (eval i X.env)
   standAt spos
   holding [v,ov,iv] (setItem ov iv v)
   release [v,ov,iv] []))
  (hs:swapsWithSole [.Subscript (.Attribute o f p1) i spos] e pos.line X.env=pure false) (h1:(assignEach [.Subscript (.Attribute o f p1) i spos] X.env).map (·.2)=[assign (.Subscript (.Attribute o f p1) i spos) X.env]):SE aj X W false (.Assign [.Subscript (.Attribute o f p1) i spos] e pos) (Ro f fo fi fe):=by
 have h0:=pe_fld (X:=X) (pos:=p1) (f:=f) ho (mF hb)
 refine PS.weak (ps_asg he (pg_sub h0 hi set_list ha) hs (by with_unfolding_all rfl) h1) fun D σ H ⟨g,ρ,M,I,z⟩=>?_
 unfold Ro at z
 have k1:=Out.jf (dw (σ:=σ) z)
 refine tQ.go I (k1.mono (fun _ y=>y) fun x y H' c dd ex rx=>y H' _ c dd (Gr.ex ex) (I.ex ex) rx) fun d v H1 k2 e1 rv=>?_
 have I1:=I.ex e1
 have k2:=Out.jf (dw (σ:=σ) k2)
 refine tW.go I1 (k2.mono (fun _ y=>y) fun x y H' c dd ex rx=>y H' _ c dd ((Gr.ex e1).trans (Gr.ex ex)) (I1.ex ex) rx) fun od u H2 k3 e2 ru=>?_
 have I2:=I1.ex e2
 have e12:=e1.trans e2
 split at k3
 ·next h i' n xs hl=>
  obtain⟨a,C,dx,fs,l,us,rfl,m1,m2,ml,ha',rfl,c1,c2,c3,c4,c5,c6,l1,l3,l4,l5,l6⟩:=UG co I2.wok ru hl
  refine⟨a,C,dx,fs,.ref l,rfl,c2,c4,c5,l1,?_⟩
  have k3:=Out.jf (dw (σ:=σ) k3)
  refine tQ.go I2 (k3.mono (fun _ y=>y) fun x y H' c dd ex rx=>y H' _ c dd ((Gr.ex e12).trans (Gr.ex ex)) (I2.ex ex) rx) fun k w H3 k4 e3 rw'=>?_
  have I3:=I2.ex e3
  cases k with
  |int k=>
   simp only at k4
   split at k4
   ·next j hj=>
    cases rw'
    obtain⟨gr,I4⟩:=abw (us':=us.set j v) (ys:=xs.set j d) I3 m1 m2 ha' c1 (e3 _ _ c2) (c3.ex e3 I2.kd) c6 l1 l4 l6 (((l5.ex e3 I2.kd).set ((rv.ex e2 I1.kd).ex e3 I2.kd) j))
    refine⟨l,us,k,j,rfl,rfl,e3 _ _ l3,by rw[l5.length];exact hj,?_⟩
    exact k4 σ _ g ((Gr.ex (e12.trans e3)).trans gr) I4
   ·exact False.elim k4
  |_=>exact False.elim k4
 ·exact False.elim k3
def R7(ft:Ft)(f:Str)(o e:QF):SF:=fun M ρ=>((o M ρ).at M).then ρ fun od _=>match j6 M od with
 |some (h,i)=>match i.fs.lookup f,ft.has i.cls f&&decide (i.fs.length < 100) with
  |some (.dat (.int a)),true=>((e M ρ).at M).then ρ fun d _=>match d with
   |.int b=>.next ρ (M.set h (i.put f (.dat (.int (a+b)))))
   |_=>.bad
  |_,_=>.bad
 |none=>.bad
theorem afG:InOp X .Add (fun x y H Q=>∃i j,x=.int i/\y=.int j/\Q (.int (i+j)) H):=by
 intro pins s σ H x y u v Q I rx ry h
 obtain⟨i,j,rfl,rfl,q⟩:=h
 exact iop_add pins s σ H _ _ u v Q I rx ry ⟨i,j,rfl,rfl,q⟩
theorem aik{fe:QF}{tpos:Pos}(co:jy X.K aj)(fk:Mj ft aj)(ho:QW aj X W o fo)(he:QE aj X W e fe):SE aj X W false (.AugAssign (.Attribute o f tpos) .Add e pos) (R7 ft f fo fe):=by
 refine PS.weak (ps_fldaug ho he afG) fun D σ H ⟨g,ρ,M,I,z⟩=>?_
 unfold R7 at z
 have k1:=Out.jf (dw (σ:=σ) z)
 refine tW.go I (k1.mono (fun _ y=>y) fun x y H' c dd ex rx=>y H' _ c dd (Gr.ex ex) (I.ex ex) rx) fun od u H1 k2 e1 ru=>?_
 have I1:=I.ex e1
 split at k2
 ·next h i hi=>
  split at k2
  ·next b hlk hb=>
   rw[arK]at hb
   obtain⟨a,C,dx,fs,_,m1,m2,ha,rfl,c1,c2,c3,c4,c5,c6⟩:=Gy co fk I1.wok ru hi hb.1
   obtain⟨v,l1,l2⟩:=c3.get hlk
   refine⟨a,C,dx,fs,v,rfl,c2,c4,c5,l1,?_⟩
   have k2:=Out.jf (dw (σ:=σ) k2)
   refine tQ.go I1 (k2.mono (fun _ y=>y) fun x y H' c dd ex rx=>y H' _ c dd ((Gr.ex e1).trans (Gr.ex ex)) (I1.ex ex) rx) fun d w H2 k3 e2 rd=>?_
   have I2:=I1.ex e2
   cases d with
   |int j=>
    cases rd
    have l2:Rep X.K g H1 v (.int b):=l2
    cases l2
    refine⟨b,j,rfl,rfl,dx,fs,e2 _ _ c2,?_,?_⟩
    ·have:=of_decide_eq_true hb.2
     rw[c3.len]
     omega
    ·have ch:=U7 (f:=f) (C:=C) (dx:=dx) (fs':=putF f (.int (b+j)) fs) I2.kd I2.wok ha m1 m2
     have w':=I2.wok.chg I2.kd ch ha m1 m2 c6 c1 (c3.ex e2 I1.kd) upd_same (v:=.int (b+j)) (fl:=.dat (.int (b+j))) (show Rep X.K g _ _ _ from .int _)
     exact k3 σ _ g ((Gr.ex (e1.trans e2)).trans ch.gc.gr) (I2.chg ch w')
   |_=>exact False.elim k3
  ·exact False.elim k2
 ·exact False.elim k2
end
mutual
def sO:Dat->Option NestedKey
 |.none=>some .none
 |.int i=>some (.num i)
 |.str x=>some (.text x)
 |.tuple ds=>(xK ds).map .tup
 |.bool _=>none
 |.list _=>none
 |.dict _=>none
def xK:List Dat->Option (List NestedKey)
 |[]=>some []
 |d::ds=>(sO d).bind fun k=>(xK ds).bind fun ks=>some (k::ks)
end
mutual
theorem Aa:∀{d:Dat} {k:NestedKey},sO d=some k->k.data=d
 |.none,_,h=>by cases h;rfl
 |.int i,_,h=>by cases h;rfl
 |.str x,_,h=>by cases h;rfl
 |.tuple ds,_,h=>by
  rw[sO,asM]at h
  obtain⟨ks,h1,rfl⟩:=h
  rw[NestedKey.data,Ra h1]
theorem Ra:∀{ds:List Dat} {ks:List NestedKey},xK ds=some ks->NestedKey.datas ks=ds
 |[],_,h=>by cases h;rfl
 |d::ds,_,h=>by
  rw[xK]at h
  obtain⟨k,h1,h⟩:=arI.mp h
  obtain⟨ks,h2,h⟩:=arI.mp h
  cases h
  rw[NestedKey.datas,Aa h1,Ra h2]
end
mutual
theorem abh:∀a b:NestedKey,PyData.eqv a.data b.data=NestedKey.beq a b
 |.none,.none=>by simp[NestedKey.data,PyData.eqv,NestedKey.beq]
 |.none,.num _=>by simp[NestedKey.data,PyData.eqv,NestedKey.beq]
 |.none,.text _=>by simp[NestedKey.data,PyData.eqv,NestedKey.beq]
 |.none,.tup _=>by simp[NestedKey.data,PyData.eqv,NestedKey.beq]
 |.num _,.none=>by simp[NestedKey.data,PyData.eqv,NestedKey.beq]
 |.num a,.num b=>by simp[NestedKey.data,PyData.eqv,NestedKey.beq];rfl
 |.num _,.text _=>by simp[NestedKey.data,PyData.eqv,NestedKey.beq]
 |.num _,.tup _=>by simp[NestedKey.data,PyData.eqv,NestedKey.beq]
 |.text _,.none=>by simp[NestedKey.data,PyData.eqv,NestedKey.beq]
 |.text _,.num _=>by simp[NestedKey.data,PyData.eqv,NestedKey.beq]
 |.text a,.text b=>by simp[NestedKey.data,PyData.eqv,NestedKey.beq];rfl
 |.text _,.tup _=>by simp[NestedKey.data,PyData.eqv,NestedKey.beq]
 |.tup _,.none=>by simp[NestedKey.data,PyData.eqv,NestedKey.beq]
 |.tup _,.num _=>by simp[NestedKey.data,PyData.eqv,NestedKey.beq]
 |.tup _,.text _=>by simp[NestedKey.data,PyData.eqv,NestedKey.beq]
 |.tup as,.tup bs=>by
  rw[NestedKey.data,NestedKey.data,PyData.eqv,NestedKey.beq]
  exact aaw as bs
theorem aaw:∀as bs:List NestedKey,PyData.eqvAll (NestedKey.datas as) (NestedKey.datas bs)=NestedKey.beqAll as bs
 |[],[]=>by simp[NestedKey.datas,PyData.eqvAll,NestedKey.beqAll]
 |[],_::_=>by simp[NestedKey.datas,PyData.eqvAll,NestedKey.beqAll]
 |_::_,[]=>by simp[NestedKey.datas,PyData.eqvAll,NestedKey.beqAll]
 |a::as,b::bs=>by
  rw[NestedKey.datas,NestedKey.datas,PyData.eqvAll,NestedKey.beqAll,abh a b,aaw as bs]
end
theorem ab4(a b:NestedKey):PyData.eqv a.data b.data=decide (a=b):=by rw[abh,NestedKey.decide_eq]
section
variable{X:Cx}{pins:List (Addr×Obj)}{σ:L2.St}{H:Hp}{s:Shared}{g:Gh}
mutual
theorem key_is(I:L2.Inv X pins σ H s):∀{v:V} {d:Dat} {k:NestedKey} {u:Value},Rep X.K g H v d->sO d=some k->RelV v u->NestedIs s.heap k u
 |_,_,_,u,.non,e,r=>by
  cases e
  obtain rfl:u=.none:=r
  exact .none
 |_,_,_,_,.int i,e,r=>by
  cases e
  obtain⟨t,rfl⟩:=r
  exact .int i t
 |_,_,_,_,.str x,e,r=>by
  cases e
  obtain⟨t,rfl⟩:=r
  exact .text x t
 |_,_,_,u,.tup (a:=a) h t,e,r=>by
  rw[sO,asM]at e
  obtain⟨ks,h1,rfl⟩:=e
  obtain rfl:u=.ref a:=r
  obtain⟨its,r1,⟨o,e1,c1,n,d1⟩,_⟩:=I.tuple h
  exact .tup e1 c1 d1 (by simpa using abm I t h1 r1)
 |_,_,_,_,.bl b,e,r=>by cases e
 |_,_,_,_,.lst _ _,e,r=>by cases e
 |_,_,_,_,.obj _,e,r=>by cases e
theorem abm(I:L2.Inv X pins σ H s):∀{vs:List V} {ds:List Dat} {ks:List NestedKey} {us:List Value},aJ X.K g H vs ds->xK ds=some ks->Vals vs us->NestedAll s.heap ks us
 |_,_,_,_,.nil,e,r=>by
  cases e
  cases r
  exact .nil
 |_,_,_,_,.cons h t,e,r=>by
  rw[xK]at e
  obtain⟨k,h1,e⟩:=arI.mp e
  obtain⟨ks,h2,e⟩:=arI.mp e
  cases e
  cases r with
  |cons r1 r2=>exact .cons (key_is I h h1 r1) (abm I t h2 r2)
end
end
mutual
theorem ab2:∀k:NestedKey,sO k.data=some k
 |.none=>rfl
 |.num _=>rfl
 |.text _=>rfl
 |.tup ks=>by rw[NestedKey.data,sO,ZP ks];rfl
theorem ZP:∀ks:List NestedKey,xK (NestedKey.datas ks)=some ks
 |[]=>rfl
 |k::ks=>by rw[NestedKey.datas,xK,ab2 k,ZP ks];rfl
end
def dhas:Bool->List (Dat×Dat)->Dat->Out Bool
 |false,kvs,.int i=>.ok (kvs.any fun p=>PyData.eqv p.1 (.int i))
 |true,kvs,.tuple ds=>match sO (.tuple ds) with
  |some k=>match decide (k.depth<=8) with
   |true=>.ok (kvs.any fun p=>PyData.eqv p.1 (.tuple ds))
   |false=>.bad
  |none=>.bad
 |_,_,_=>.bad
def yW(M:Mo)(f:Str)(d:Dat):Option (Nat×Inst×Bool×List (Dat×Dat)):=(j6 M d).bind fun p=>match p.2.fs.lookup f with
 |some (.dic b kvs)=>some (p.1,p.2,b,kvs)
 |_=>none
section
variable{aj:aQ}{f:Str}
theorem GX{K:arJ}{g:Gh}{H:Hp}{M:Mo}{d:Dat}{v:V}{h:Nat}{i:Inst}{b:Bool}{kvs:List (Dat×Dat)}(co:jy K aj)(w:fV K aj g H M)(r:dY K g H v d)(hi:yW M f d=some (h,i,b,kvs)) :
  ∃a C dx fs l,d=obj h/\M[h]?=some i/\i.cls≠""/\i.fs.lookup f=some (.dic b kvs)/\g.tbl[h]?=some a/\v=.ref a/\aj i.cls=some C/\H a=some (.ins C dx fs)/\cM K aj g H h fs i.fs/\Cls K C/\NoAttr K C f/\f∈aj.fl i.cls/\fs.lookup f=some (.ref l)/\g.ow l=some (h,f)/\jE K aj g H l b kvs:=by
 unfold yW at hi
 obtain⟨⟨h',i'⟩,h1,hi⟩:=arI.mp hi
 split at hi
 ·next b' kvs' hl=>
  cases hi
  obtain⟨rfl,m1,m2⟩:=Ji h1
  obtain⟨a,rfl,ha⟩:=Ks r
  obtain⟨C,dx,fs,c1,c2,c3⟩:=w.ins _ a _ ha m1 m2
  have hfl:=w.fd _ _ m1 f (lookup_mem hl)
  obtain⟨k1,k2⟩:=co _ C f c1 hfl
  obtain⟨u,l1,l,rfl,l3,l4⟩:=c3.get hl
  exact⟨a,C,dx,fs,l,rfl,m1,m2,hl,ha,rfl,c1,c2,c3,k1,k2,hfl,l1,l3,l4⟩
 ·cases hi
end
theorem Vl{kv:List (Key×V)}{i:Int}:∀{kvs:List (Dat×Dat)},kvs.map (·.1)=kv.map (fun p=>keyD p.1)->(kvs.any fun p=>PyData.eqv p.1 (.int i))=(valV kv (Sum.inl i)).isSome:=by
 induction kv with
 |nil=>
  intro kvs e
  cases kvs with
  |nil=>rfl
  |cons _ _=>cases e
 |cons p r ih=>
  intro kvs e
  cases kvs with
  |nil=>cases e
  |cons q t=>
   simp only[arN,List.cons.injEq]at e
   rw[asS,ih e.2,e.1]
   by_cases h:p.1=Sum.inl i
   ·rw[valV_pos h,h]
    simp[keyD,PyData.eqv]
   ·rw[valV_neg h]
    have:PyData.eqv (keyD p.1) (.int i)=false:=by
     cases hp:p.1 with
     |inl j=>
      have:j≠i:=fun z=>h (by rw[hp,z])
      simp[keyD,PyData.eqv,this]
     |inr x=>simp[keyD,PyData.eqv]
    rw[this,Bool.false_or]
theorem Jf{xs:List mY}{k:NestedKey}:∀{kvs:List (Dat×Dat)},kvs.map (·.1)=xs.map (fun x=>x.1.data)->(kvs.any fun p=>PyData.eqv p.1 k.data)=(atKey xs k).isSome:=by
 induction xs with
 |nil=>
  intro kvs e
  cases kvs with
  |nil=>rfl
  |cons _ _=>cases e
 |cons p r ih=>
  intro kvs e
  cases kvs with
  |nil=>cases e
  |cons q t=>
   simp only[arN,List.cons.injEq]at e
   rw[asS,ih e.2,e.1,ab4]
   unfold atKey
   rw[List.find?_cons]
   cases hd:decide (p.1=k) with
   |true=>rfl
   |false=>rfl
theorem Hj{X:Cx}{pins:List (Addr×Obj)}{σ:L2.St}{H:Hp}{s:Shared}{g:Gh}{l:Addr}{o:Obj}{xs:List mY}{ks:List Dat}(I:L2.Inv X pins σ H s)(h1:H l=some (iU l o))(h2:lF X.w l o xs)(h3:ks=xs.map fun x=>x.1.data)(h4:aJ X.K g H (xs.map fun x=>V.ref x.2.1) ks) :
  s.heap.DictOfH (nestedKind X.prog X.w) l xs:=by
 obtain⟨z1,_,_⟩:=(show ObjOk X.prog X.w H s.heap l (iU l o) from I.hok l _ h1)
 obtain⟨es,ep,e1,e2⟩:=h2.ent
 refine⟨o,es,ep,z1,h2.ex,e1,e2,fun x hx=>?_,h2.nd⟩
 refine⟨?_,h2.dep x hx⟩
 obtain⟨n,hn⟩:=List.mem_iff_getElem?.mp hx
 obtain⟨d,hd1,hd2⟩:=h4.get' (i:=n) (v:=V.ref x.2.1) (by rw[arY,hn];rfl)
 rw[h3,arY,hn]at hd1
 cases hd1
 exact key_is I hd2 (ab2 x.1) rfl
def rInD(X:Cx)(neg:Bool):R2:=fun x y H Q=>(∃l kv i,y=.ref l/\H l=some (.dK kv)/\x=.int i/\Q (.bl (neg ^^ (valV kv (Sum.inl i)).isSome)) H)∨
 ∃(l:Addr) (o:Obj) (xs:List mY) (g:Gh) (d:Dat) (b:Addr) (k:NestedKey),y=.ref l/\H l=some (iU l o)/\lF X.w l o xs/\aJ X.K g H (xs.map fun x=>V.ref x.2.1) (xs.map fun x=>x.1.data)/\x=.ref b/\Rep X.K g H x d/\sO d=some k/\k.depth<=8/\Q (.bl (neg ^^ (atKey xs k).isSome)) H
section
variable{X:Cx}
theorem op_inD(hu:X.A.units+64 < cLine):OpR X (compareOp .In) (rInD X false):=by
 intro pins s σ H x y v u Q I rx ry h
 rcases h with⟨l,kv,i,rfl,hl,rfl,q⟩|⟨l,o,xs,g,d,b,k,rfl,h1,h2,h3,rfl,h4,h5,h6,q⟩
 ·obtain rfl:u=Value.ref l:=ry
  exact d_in (by omega) I (DGet.k (k:=Sum.inl i) hl) rx fun s' I'=>⟨.bl _,H,I',rfl,by simpa using q⟩
 ·obtain rfl:u=Value.ref l:=ry
  obtain rfl:v=Value.ref b:=rx
  refine wpAny_in_heap (knd:=nestedKind X.prog X.w) (k:=k) (show X.A.in1.units+8 < cLine by show X.A.units+1+8 < cLine;omega) ⟨key_is I h4 h5 rfl,h6⟩ h2.sys (Hj I h1 h2 rfl h3) ?_
  exact⟨.bl _,H,I.tok _,rfl,by simpa using q⟩
theorem op_notInD(hu:X.A.units+64 < cLine):OpR X (compareOp .NotIn) (rInD X true):=by
 intro pins s σ H x y v u Q I rx ry h
 rcases h with⟨l,kv,i,rfl,hl,rfl,q⟩|⟨l,o,xs,g,d,b,k,rfl,h1,h2,h3,rfl,h4,h5,h6,q⟩
 ·obtain rfl:u=Value.ref l:=ry
  exact d_notIn (by omega) I (DGet.k (k:=Sum.inl i) hl) rx fun s' I'=>⟨.bl _,H,I',rfl,by simpa using q⟩
 ·obtain rfl:u=Value.ref l:=ry
  obtain rfl:v=Value.ref b:=rx
  refine notIn_keyed (knd:=nestedKind X.prog X.w) (k:=k) (show X.A.in1.units+8 < cLine by show X.A.units+1+8 < cLine;omega) ⟨key_is I h4 h5 rfl,h6⟩ h2.sys ⟨xs,Hj I h1 h2 rfl h3,rfl⟩ ?_
  rw[valueAt_pairsH,Option.isSome_map]
  exact⟨.bl _,H,I.tok _,rfl,by simpa using q⟩
end
def Qy(neg:Bool)(f:Str)(k o:QF):QF:=fun M ρ=>(k M ρ).bind fun d=>(o M ρ).bind fun od=>match yW M f od with
 |some (_,_,b,kvs)=>(dhas b kvs d).bind fun r=>.ok (.bool (neg ^^ r))
 |none=>.bad
section
variable{X:Cx}{aj:aQ}{W:WX}{o k:Expr}{f:Str}{pos p1:Pos}{fo fk:QF}{neg:Bool}{op:CmpOp}
theorem agA(co:jy X.K aj)(hw:aj.w=X.w)(σ:L2.St)(H:Hp)(Q:VK)(h:tQ X.K aj W (Qy neg f fk fo) σ H Q):tOp (rInD X neg) (tQ X.K aj W fk) (tFld X.K (tW X.K aj W fo) f) σ H Q:=by
 obtain⟨g,ρ,M,I,h⟩:=h
 refine tQ.go I h.bnd fun d v H1 h1 e1 r1=>?_
 have I1:=I.ex e1
 refine tW.go I1 (h1.bnd.mono (fun _ z=>z) fun _ z=>z.ex e1) fun od u H2 h2 e2 r2=>?_
 have I2:=I1.ex e2
 split at h2
 ·next hh i b kvs hd=>
  obtain⟨a,C,dx,fs,l,rfl,m1,m2,ml,ha,rfl,c1,c2,c3,c4,c5,c6,l1,l2,l3⟩:=GX co I2.wok r2 hd
  refine⟨a,C,dx,fs,.ref l,rfl,c2,c4,c5,l1,?_⟩
  have r1':=r1.ex e2 I1.kd
  unfold dhas at h2
  split at h2
  ·next i'=>
   obtain⟨kv,k1,k2,k3⟩:=l3
   cases r1'
   refine .inl ⟨l,kv,i',rfl,k1,rfl,?_⟩
   rw[Vl k2]at h2
   exact h2 _ H2 (e1.trans e2) (.bl _)
  ·next ds=>
   split at h2
   ·next kk hk=>
    split at h2
    ·next hdep=>
     obtain⟨o',xs,vs,k1,k2,k3,k4,k5,k6⟩:=l3
     have ek:=Aa hk
     rw[←ek,Jf k3]at h2
     rw[k3]at k4
     rw[hw]at k2
     cases r1' with
     | @tup b us _ hs ht=>exact .inr ⟨l,o',xs,g,_,b,kk,rfl,k1,k2,k4,rfl,.tup hs ht,hk,of_decide_eq_true hdep,h2 _ H2 (e1.trans e2) (.bl _)⟩
    ·exact False.elim h2
   ·exact False.elim h2
  ·exact False.elim h2
 ·exact False.elim h2
theorem aj6(co:jy X.K aj)(hw:aj.w=X.w)(hr:OpR X (compareOp op) (rInD X neg))(hk:QE aj X W k fk)(ho:QW aj X W o fo)(hb:baseOk o=true):QE aj X W (.Compare k [op] [.Attribute o f p1] pos) (Qy neg f fk fo):=
 PE.weak (pe_cmpR hr hk (pe_fld ho (mF hb)) (by cases op <;> rfl)) fun σ H Q h=>agA co hw σ H Q h
end
def DPx(X:Cx)(H:Hp)(a:Addr)(y v:V)(R:Hp->Prop):Prop:=(∃kvs i,H a=some (.dK kvs)/\y=.int i/\kvs.length < sizeLine/\R (upd H a (.dK (putK kvs (Sum.inl i) v))))∨
 ∃(o:Obj) (xs:List mY) (g:Gh) (d:Dat) (b:Addr) (k:NestedKey),H a=some (iU a o)/\lF X.w a o xs/\aJ X.K g H (xs.map fun x=>V.ref x.2.1) (xs.map fun x=>x.1.data)/\y=.ref b/\Rep X.K g H y d/\sO d=some k/\k.depth<=8/\xs.length < sizeLine/\∀(o':Obj) (u:Value),RelV v u->lF X.w a o' (storedH xs k b u)->R (upd H a (iU a o'))
theorem Km{P:Program}{w:World}{H:Hp}{h:Heap}{l:Addr}{o:Obj}(e:h.get? l=some o):ObjOk P w H h l (iU l o):=⟨e,⟨o,e⟩,fun _ _ e1 k=>k _ e1⟩
theorem aa0{xs:List mY}{k:NestedKey}{b:Addr}{u:Value}:(storedH xs k b u).map (·.1)=if (atKey xs k).isSome then xs.map (·.1) else xs.map (·.1)++[k]:=by
 unfold storedH
 split
 ·rw[asn]
  refine List.map_congr_left fun x _=>?_
  show(putAt k u x).1=x.1
  unfold putAt
  split <;> rfl
 ·simp
theorem Rp{xs:List mY}{k:NestedKey}{b:Addr}{u:Value}:(storedH xs k b u).length<=xs.length+1:=by
 unfold storedH
 split <;> simp
theorem RK{xs:List mY}{k:NestedKey}{b:Addr}{u:Value}(h:∀x∈xs,x.1.depth<=8)(hk:k.depth<=8):∀x∈storedH xs k b u,x.1.depth<=8:=fun x hx=>by
 have:x.1∈(storedH xs k b u).map (·.1):=arV.mpr ⟨x,hx,rfl⟩
 rw[aa0]at this
 have old:∀{z:NestedKey},z∈xs.map (·.1)->z.depth<=8:=fun {z} m=>by
  obtain⟨y,hy,rfl⟩:=arV.mp m
  exact h y hy
 split at this
 ·exact old this
 ·rcases arW.mp this with z|z
  ·exact old z
  ·rw[arQ.mp z]
   exact hk
section
variable{X:Cx}{o i value:Expr}{td ty tv:TE}{pos pos':Pos}
def anq(X:Cx)(td ty tv:TE):TS:=fun D σ H=>tv σ H fun v H1=>td σ H1 fun x H2=>ty σ H2 fun y H3=>∃a,x=.ref a/\DPx X H3 a y v fun H4=>D.nx σ H4
theorem agm(hu:X.A.units+64 < cLine)(ho:PE X o td)(hi:PE X i ty)(hv:PE X value tv)(hs:swapsWith value (some (.Subscript o i pos')) pos.line X.env=pure false):PS X (.Assign [.Subscript o i pos'] value pos) (anq X td ty tv):=by
 refine⟨fun pins s σ H D I h=>?_⟩
 refine wpAny_Assign_Subscript (thn (hv.run pins s σ H _ I h) fun r s1 ⟨v,H1,I1,rv,q1⟩=>thn (ho.run pins s1 σ H1 _ I1 q1) fun u s2 ⟨x,H2,I2,rx,q2⟩=>thn (hi.run pins s2 σ H2 _ I2 q2) fun iv s3 ⟨y,H3,I3,ry,a,ex,q3⟩=>?_) hs
 subst ex
 obtain rfl:u=Value.ref a:=rx
 rcases q3 with⟨kvs,j,h1,rfl,hl,q⟩|⟨ob,xs,g,d,b,k,h1,h2,h3,rfl,h4,h5,h6,hl,q⟩
 ·exact d_setItem (by omega) I3 (DPut.k (k:=Sum.inl j) h1 hl) ry rv fun s4 I4=>⟨σ,_,I4,q⟩
 ·obtain rfl:iv=Value.ref b:=ry
  refine wpAny_setItem_heap (knd:=nestedKind X.prog X.w) (k:=k) (hsz:=Nat.le_of_lt hl) (show X.A.in1.units+8 < cLine by show X.A.units+1+8 < cLine;omega) ⟨key_is I3 h4 h5 rfl,h6⟩ (Hj I3 h1 h2 rfl h3) fun h' dd hs'=>?_
  obtain⟨o',es,ep,g1,g2,g3,g4,g5,g6⟩:=dd
  have nd:lF X.w a o' (storedH xs k b r):=⟨h2.sys,g2,⟨es,ep,g3,g4⟩,g6,by have:=Rp (xs:=xs) (k:=k) (b:=b) (u:=r);omega,RK h2.dep h6⟩
  exact⟨σ,_,d_write I3 (by rw[h1];exact True.intro) hs' ⟨o',g1⟩ (Km g1),q o' r rv nd⟩
end
theorem aJ.back{K:arJ}{g:Gh}{H:Hp}{vs:List V}{ds:List Dat}{v:V}{d:Dat}(h:aJ K g H vs ds)(r:Rep K g H v d):aJ K g H (vs++[v]) (ds++[d]):=h.append (.cons r .nil)
theorem Nb{K:arJ}{aj:aQ}{f:Str}{σ:L2.St}{ρ:Env}{g:Gh}{H:Hp}{M:Mo}{h:Nat}{i:Inst}{b:Bool}{kvs':List (Dat×Dat)}{a C dx l:Addr}{fs:List (Str×V)}{o':HO}(I:SInv K aj σ H g ρ M)(m1:M[h]?=some i)(m2:i.cls≠"")(ha:g.tbl[h]?=some a)(c1:aj i.cls=some C)(c2:H a=some (.ins C dx fs))(c3:cM K aj g H h fs i.fs)(hfl:f∈aj.fl i.cls)(l1:fs.lookup f=some (.ref l))(l4:g.ow l=some (h,f))(mu:Ig o')
  (new:Gr false g g H (upd H l o')->jE K aj g (upd H l o') l b kvs'):Gr false g g H (upd H l o')/\SInv K aj σ (upd H l o') g ρ (M.set h (i.put f (.dic b kvs'))):=by
 have ch:=aeh (o':=o') I.kd I.wok l4 mu
 have nla:a≠l:=fun z=>by
  subst z
  rw[I.wok.tw h a i ha m1 m2]at l4
  cases l4
 have w':=I.wok.chg I.kd ch ha m1 m2 hfl c1 (dx:=dx) c3 (v:=.ref l) (fl:=.dic b kvs') (by rw[upd_ne nla,Lw l1];exact c2) ⟨l,rfl,l4,new ch.gc.gr⟩
 exact⟨ch.gc.gr,I.chg ch w'⟩
def NQ(f:Str)(o k e:QF):SF:=fun M ρ=>((e M ρ).at M).then ρ fun v _=>((o M ρ).at M).then ρ fun od _=>match yW M f od with
 |some (h,i,b,kvs)=>((k M ρ).at M).then ρ fun d _=>match dhas b kvs d,decide (kvs.length < 100000) with
  |.ok false,true=>.next ρ (M.set h (i.put f (.dic b (kvs++[(d,v)]))))
  |_,_=>.bad
 |none=>.bad
def MP(f:Str)(o k:QF):SF:=fun M ρ=>((o M ρ).at M).then ρ fun od _=>match yW M f od with
 |some (h,i,b,kvs)=>((k M ρ).at M).then ρ fun d _=>match dhas b kvs d,decide (kvs.length<=100000) with
  |.ok true,true=>.next ρ (M.set h (i.put f (.dic b (kvs.filter fun p=>!PyData.eqv p.1 d))))
  |_,_=>.bad
 |none=>.bad
theorem Uj{kvs:List (Dat×Dat)}{b r:Bool}{d:Dat}(h:dhas b kvs d=.ok r):(kvs.any fun p=>PyData.eqv p.1 d)=r/\((b=false/\∃i,d=.int i)∨(b=true/\∃ds k,d=.tuple ds/\sO d=some k/\k.depth<=8)):=by
 unfold dhas at h
 split at h
 ·next i=>
  cases h
  exact⟨rfl,.inl ⟨rfl,i,rfl⟩⟩
 ·next ds=>
  split at h
  ·next k hk=>
   split at h
   ·next hd=>
    cases h
    exact⟨rfl,.inr ⟨rfl,ds,k,rfl,hk,of_decide_eq_true hd⟩⟩
   ·cases h
  ·cases h
 ·cases h
section
variable{X:Cx}{aj:aQ}{W:WX}{o e i:Expr}{f:Str}{pos pos' p1:Pos}{fo fe fk:QF}
theorem ahN(co:jy X.K aj)(hw:aj.w=X.w)(hu:X.A.units+64 < cLine)(ho:QW aj X W o fo)(hb:baseOk o=true)(hk:QE aj X W i fk)(he:QE aj X W e fe)(hs:swapsWith e (some (.Subscript (.Attribute o f p1) i pos')) pos.line X.env=pure false) :
  SE aj X W false (.Assign [.Subscript (.Attribute o f p1) i pos'] e pos) (NQ f fo fk fe):=by
 refine PS.weak (agm hu (pe_fld ho (mF hb)) hk he hs) fun D σ H ⟨g,ρ,M,I,z⟩=>?_
 unfold NQ at z
 have k1:=Out.jf (dw (σ:=σ) z)
 refine tQ.go I (k1.mono (fun _ y=>y) fun x y H' c dd ex rx=>y H' _ c dd (Gr.ex ex) (I.ex ex) rx) fun d v H1 k2 e1 rv=>?_
 have I1:=I.ex e1
 have k2:=Out.jf (dw (σ:=σ) k2)
 refine tW.go I1 (k2.mono (fun _ y=>y) fun x y H' c dd ex rx=>y H' _ c dd ((Gr.ex e1).trans (Gr.ex ex)) (I1.ex ex) rx) fun od u H2 k3 e2 ru=>?_
 have I2:=I1.ex e2
 have e12:=e1.trans e2
 split at k3
 ·next h i' b kvs hl=>
  obtain⟨a,C,dx,fs,l,rfl,m1,m2,ml,ha,rfl,c1,c2,c3,c4,c5,c6,l1,l2,l3⟩:=GX co I2.wok ru hl
  refine⟨a,C,dx,fs,.ref l,rfl,c2,c4,c5,l1,?_⟩
  have k3:=Out.jf (dw (σ:=σ) k3)
  refine tQ.go I2 (k3.mono (fun _ y=>y) fun x y H' c dd ex rx=>y H' _ c dd ((Gr.ex e12).trans (Gr.ex ex)) (I2.ex ex) rx) fun kd w H3 k4 e3 rk=>?_
  have I3:=I2.ex e3
  have l3':=l3.ex e3 I2.kd
  have rv3:=(rv.ex e2 I1.kd).ex e3 I2.kd
  refine⟨l,rfl,?_⟩
  split at k4
  ·next hh hz=>
   obtain⟨ha2,hcase⟩:=Uj hh
   have hz:=of_decide_eq_true hz
   rcases hcase with⟨rfl,j,rfl⟩|⟨rfl,ds,kk,rfl,hkk,hdep⟩
   ·obtain⟨kv,q1,q2,q3⟩:=l3'
    cases rk
    have hlen:kv.length=kvs.length:=by
     have:=congrArg List.length q2
     simpa using this.symm
    rw[Vl q2]at ha2
    have hn:valV kv (Sum.inl j)=none:=by
     cases hv:valV kv (Sum.inl j) with
     |none=>rfl
     |some _=>rw[hv]at ha2;cases ha2
    refine .inl ⟨kv,j,q1,rfl,sz_lt (by rw[hlen];exact hz),?_⟩
    rw[putK_new v hn]
    obtain⟨gr,I4⟩:=Nb (b:=false) (kvs':=kvs++[(.int j,d)]) (o':=.dK (kv++[(Sum.inl j,v)])) I3 m1 m2 ha c1 (e3 _ _ c2) (c3.ex e3 I2.kd) c6 l1 l2 trivial fun gr=>⟨_,upd_same,by simp[q2,keyD],by
     rw[List.map_append,List.map_append]
     exact(q3.gr gr I3.kd).back (rv3.gr gr I3.kd)⟩
    exact k4 σ _ g ((Gr.ex (e12.trans e3)).trans gr) I4
   ·obtain⟨o',xs,vs,q1,q2,q3,q4,q5,q6⟩:=l3'
    have hlen:xs.length=kvs.length:=by
     have:=congrArg List.length q3
     simpa using this.symm
    have ek:=Aa hkk
    rw[←ek,Jf q3]at ha2
    have hn:atKey xs kk=none:=by
     cases hv:atKey xs kk with
     |none=>rfl
     |some _=>rw[hv]at ha2;cases ha2
    have q4':=q4
    rw[q3]at q4'
    rw[hw]at q2
    cases rk with
    | @tup bb us _ hs' ht=>
     refine .inr ⟨o',xs,g,_,bb,kk,q1,q2,q4',rfl,.tup hs' ht,hkk,hdep,sz_lt (by rw[hlen];exact hz),fun o2 u2 ru2 nd=>?_⟩
     rw[storedH_new hn]at nd
     obtain⟨gr,I4⟩:=Nb (b:=true) (kvs':=kvs++[(.tuple ds,d)]) (o':=iU l o2) I3 m1 m2 ha c1 (e3 _ _ c2) (c3.ex e3 I2.kd) c6 l1 l2 trivial fun gr=>⟨o2,xs++[(kk,bb,u2)],vs++[v],upd_same,by rw[hw];exact nd,by simp[q3,ek],by
      rw[List.map_append,List.map_append]
      exact(q4.gr gr I3.kd).back ((Rep.tup hs' ht).gr gr I3.kd),by
      rw[List.map_append]
      exact q5.append (.cons ru2 .nil),by
      rw[List.map_append]
      exact(q6.gr gr I3.kd).back (rv3.gr gr I3.kd)⟩
     exact k4 σ _ g ((Gr.ex (e12.trans e3)).trans gr) I4
  ·exact False.elim k4
 ·exact False.elim k3
end
section
variable{X:Cx}{o i:Expr}{td ty:TE}{pos tpos:Pos}
def anr(X:Cx)(td ty:TE):TS:=fun D σ H=>td σ H fun x H2=>ty σ H2 fun y H3=>∃a,x=.ref a/\((∃kvs i,H3 a=some (.dK kvs)/\y=.int i/\(valV kvs (Sum.inl i)).isSome=true/\D.nx σ (upd H3 a (.dK (dropK kvs (Sum.inl i)))))∨
 ∃(o:Obj) (xs:List mY) (g:Gh) (d:Dat) (b:Addr) (k:NestedKey),H3 a=some (iU a o)/\lF X.w a o xs/\aJ X.K g H3 (xs.map fun x=>V.ref x.2.1) (xs.map fun x=>x.1.data)/\y=.ref b/\Rep X.K g H3 y d/\sO d=some k/\k.depth<=8/\(atKey xs k).isSome=true/\∀(o':Obj),lF X.w a o' (withoutH xs k)->D.nx σ (upd H3 a (iU a o')))
theorem afK(hu:X.A.units+64 < cLine)(ho:PE X o td)(hi:PE X i ty):PS X (.Delete [.Subscript o i tpos] pos) (anr X td ty):=by
 refine⟨fun pins s σ H D I h=>?_⟩
 refine wpAny_Delete (wpAny_deleteEach_cons (wpAny_delete_Subscript (thn (ho.run pins s σ H _ I h) fun u s1 ⟨x,H1,I1,rx,q1⟩=>thn (hi.run pins s1 σ H1 _ I1 q1) fun iv s2 ⟨y,H2,I2,ry,a,ex,q2⟩=>?_)))
 subst ex
 obtain rfl:u=Value.ref a:=rx
 rcases q2 with⟨kvs,j,h1,rfl,hl,q⟩|⟨ob,xs,g,d,b,k,h1,h2,h3,rfl,h4,h5,h6,hl,q⟩
 ·exact d_delItem (k:=Sum.inl j) I2 h1 ry hl fun s3 I3=>wpAny_deleteEach_nil ⟨σ,_,I3,q⟩
 ·obtain rfl:iv=Value.ref b:=ry
  obtain⟨p,hp⟩:=Option.isSome_iff_exists.mp hl
  refine wpAny_delItem_heap (knd:=nestedKind X.prog X.w) (k:=k) (hsz:=h2.len) (show X.A.in1.units+8 < cLine by show X.A.units+1+8 < cLine;omega) ⟨key_is I2 h4 h5 rfl,h6⟩ h2.sys (Hj I2 h1 h2 rfl h3) hp fun h' dd hs'=>?_
  obtain⟨o',es,ep,g1,g2,g3,g4,g5,g6⟩:=dd
  have nd:lF X.w a o' (withoutH xs k):=⟨h2.sys,g2,⟨es,ep,g3,g4⟩,g6,asi (ar0 _ _) h2.len,fun x hx=>h2.dep x (ar9.mp hx).1⟩
  exact wpAny_deleteEach_nil ⟨σ,_,d_write I2 (by rw[h1];exact True.intro) hs' ⟨o',g1⟩ (Km g1),q o' nd⟩
end
theorem Ph{α β:Type}(f:α->β)(c:α->Bool):∀l:List α,(((l.map f).zip l).filter fun p=>c p.2).map (·.1)=(l.filter c).map f
 |[]=>rfl
 |a::l=>by
  rw[arN,asV,asz,asz]
  cases c a
  ·exact Ph f c l
  ·simp only[if_true,arN,Ph f c l]
theorem agT{K:arJ}{g:Gh}{H:Hp}(kk:NestedKey):∀{xs:List mY} {vs:List V} {kvs:List (Dat×Dat)},kvs.map (·.1)=xs.map (fun x=>x.1.data)->aJ K g H (xs.map fun x=>V.ref x.2.1) (kvs.map (·.1))->Vals vs (xs.map (·.2.2))->aJ K g H vs (kvs.map (·.2))->
  ∃vs',(kvs.filter fun p=>!PyData.eqv p.1 kk.data).map (·.1)=(withoutH xs kk).map (fun x=>x.1.data)/\aJ K g H ((withoutH xs kk).map fun x=>V.ref x.2.1) ((kvs.filter fun p=>!PyData.eqv p.1 kk.data).map (·.1))/\Vals vs' ((withoutH xs kk).map (·.2.2))/\aJ K g H vs' ((kvs.filter fun p=>!PyData.eqv p.1 kk.data).map (·.2))
 |[],_,[],_,_,.nil,_=>⟨[],rfl,.nil,.nil,.nil⟩
 |[],_,_::_,h,_,_,_=>by cases h
 |_::_,_,[],h,_,_,_=>by cases h
 |x::xs,_,q::qs,h1,.cons r1 t1,.cons w1 w2,.cons r2 t2=>by
  simp only[arN,List.cons.injEq]at h1
  obtain⟨vs',i1,i2,i3,i4⟩:=agT kk h1.2 t1 w2 t2
  have hq:(!PyData.eqv q.1 kk.data)=decide (x.1≠kk):=by
   rw[h1.1,ab4]
   by_cases hz:x.1=kk <;> simp[hz]
  unfold withoutH
  rw[asz,asz,hq]
  cases hb:decide (x.1≠kk) with
  |true=>exact⟨_::vs',by simp only[if_true,arN,h1.1];exact congrArg _ i1,by simp only[if_true,arN];exact .cons r1 i2,by simp only[if_true,arN];exact .cons w1 i3,by simp only[if_true,arN];exact .cons r2 i4⟩
  |false=>
   simp only[aso,if_false]
   exact⟨vs',i1,i2,i3,i4⟩
theorem ajT{K:arJ}{g:Gh}{H:Hp}{α:Type}(c:α->Bool)(key:α->Dat)(dd:Dat->Bool):∀{vs:List V} {kvs:List (Dat×Dat)} {xs:List α},(∀x∈xs,c x=dd (key x))->kvs.map (·.1)=xs.map key->vs.length=xs.length->aJ K g H vs (kvs.map (·.2))->
  (kvs.filter fun p=>dd p.1).map (·.1)=(xs.filter c).map key/\aJ K g H (((vs.zip xs).filter fun p=>c p.2).map (·.1)) ((kvs.filter fun p=>dd p.1).map (·.2))
 |[],[],[],_,_,_,_=>⟨rfl,.nil⟩
 |[],[],_::_,_,h,_,_=>by cases h
 |[],_::_,_,_,_,_,h=>by cases h
 |_::_,[],_,_,_,_,h=>by cases h
 |_::_,_::_,[],_,h,_,_=>by cases h
 |u::us,q::qs,x::xs,hc,hk,hl,.cons h t=>by
  simp only[arN,List.cons.injEq]at hk
  have hq:=hc x arP
  rw[←hk.1]at hq
  obtain⟨i1,i2⟩:=ajT c key dd (fun y hy=>hc y (arO _ hy)) hk.2 (asK hl) t
  rw[asV,asz,asz,asz,hq]
  cases hb:dd q.1 with
  |true=>exact⟨by simp only[if_true,arN,i1,hk.1],by simp only[if_true,arN];exact .cons h i2⟩
  |false=>exact⟨by simpa using i1,by simpa using i2⟩
section
variable{X:Cx}{aj:aQ}{W:WX}{o i:Expr}{f:Str}{pos tpos p1:Pos}{fo fk:QF}
theorem ahJ(co:jy X.K aj)(hw:aj.w=X.w)(hu:X.A.units+64 < cLine)(ho:QW aj X W o fo)(hb:baseOk o=true)(hk:QE aj X W i fk):SE aj X W false (.Delete [.Subscript (.Attribute o f p1) i tpos] pos) (MP f fo fk):=by
 refine PS.weak (afK hu (pe_fld ho (mF hb)) hk) fun D σ H ⟨g,ρ,M,I,z⟩=>?_
 unfold MP at z
 have k2:=Out.jf (dw (σ:=σ) z)
 refine tW.go I (k2.mono (fun _ y=>y) fun x y H' c dd ex rx=>y H' _ c dd (Gr.ex ex) (I.ex ex) rx) fun od u H2 k3 e2 ru=>?_
 have I2:=I.ex e2
 split at k3
 ·next h i' b kvs hl=>
  obtain⟨a,C,dx,fs,l,rfl,m1,m2,ml,ha,rfl,c1,c2,c3,c4,c5,c6,l1,l2,l3⟩:=GX co I2.wok ru hl
  refine⟨a,C,dx,fs,.ref l,rfl,c2,c4,c5,l1,?_⟩
  have k3:=Out.jf (dw (σ:=σ) k3)
  refine tQ.go I2 (k3.mono (fun _ y=>y) fun x y H' c dd ex rx=>y H' _ c dd ((Gr.ex e2).trans (Gr.ex ex)) (I2.ex ex) rx) fun kd w H3 k4 e3 rk=>?_
  have I3:=I2.ex e3
  have l3':=l3.ex e3 I2.kd
  refine⟨l,rfl,?_⟩
  split at k4
  ·next hh hz=>
   obtain⟨ha2,hcase⟩:=Uj hh
   rcases hcase with⟨rfl,j,rfl⟩|⟨rfl,ds,kk,rfl,hkk,hdep⟩
   ·obtain⟨kv,q1,q2,q3⟩:=l3'
    cases rk
    rw[Vl q2]at ha2
    refine .inl ⟨kv,j,q1,rfl,ha2,?_⟩
    have hf:=fun(H':Hp)(r:aJ X.K g H' (kv.map (·.2)) (kvs.map (·.2)))=>ajT (K:=X.K) (g:=g) (H:=H') (fun p:Key×V=>decide (p.1≠Sum.inl j)) (fun p=>keyD p.1) (fun z=>!PyData.eqv z (.int j)) (vs:=kv.map (·.2)) (kvs:=kvs) (xs:=kv) (fun x _=>by
     cases hx:x.1 with
     |inl z=>by_cases hz:z=j <;> simp[keyD,PyData.eqv,hz]
     |inr z=>simp[keyD,PyData.eqv]) q2 (by simp) r
    have ez:(((kv.map (·.2)).zip kv).filter fun p=>decide (p.2.1≠Sum.inl j)).map (·.1)=(dropK kv (Sum.inl j)).map (·.2):=Ph (·.2) (fun p:Key×V=>decide (p.1≠Sum.inl j)) kv
    obtain⟨gr,I4⟩:=Nb (b:=false) (kvs':=kvs.filter fun p=>!PyData.eqv p.1 (.int j)) (o':=.dK (dropK kv (Sum.inl j))) I3 m1 m2 ha c1 (e3 _ _ c2) (c3.ex e3 I2.kd) c6 l1 l2 trivial fun gr=>⟨_,upd_same,(hf _ (q3.gr gr I3.kd)).1,by
     rw[←ez]
     exact(hf _ (q3.gr gr I3.kd)).2⟩
    exact k4 σ _ g ((Gr.ex (e2.trans e3)).trans gr) I4
   ·obtain⟨o',xs,vs,q1,q2,q3,q4,q5,q6⟩:=l3'
    have ek:=Aa hkk
    rw[←ek,Jf q3]at ha2
    rw[hw]at q2
    have q4':=q4
    rw[q3]at q4'
    cases rk with
    | @tup bb us _ hs' ht=>
     refine .inr ⟨o',xs,g,_,bb,kk,q1,q2,q4',rfl,.tup hs' ht,hkk,hdep,ha2,fun o2 nd=>?_⟩
     obtain⟨gr,I4⟩:=Nb (b:=true) (kvs':=kvs.filter fun p=>!PyData.eqv p.1 (.tuple ds)) (o':=iU l o2) I3 m1 m2 ha c1 (e3 _ _ c2) (c3.ex e3 I2.kd) c6 l1 l2 trivial fun gr=>by
      obtain⟨vs',i1,i2,i3,i4⟩:=agT kk q3 (q4.gr gr I3.kd) q5 (q6.gr gr I3.kd)
      rw[ek]at i1 i2 i4
      exact⟨o2,withoutH xs kk,vs',upd_same,by rw[hw];exact nd,i1,i2,i3,i4⟩
     exact k4 σ _ g ((Gr.ex (e2.trans e3)).trans gr) I4
  ·exact False.elim k4
 ·exact False.elim k3
end
def ItD(l:Addr)(o:Obj)(xs:List mY):It:=
 ⟨fun i H=>H l=some (iU l o)/\i < xs.length,fun i H x H'=>H'=H/\∃e,xs[i]?=some e/\x=.ref e.2.1,fun i H=>H l=some (iU l o)/\xs.length<=i⟩
theorem pin_at{X:Cx}{pins:List (Addr×Obj)}{σ:L2.St}{H:Hp}{s:Shared}{l:Addr}{o:Obj}(I:L2.Inv X pins σ H s)(h:H l=some (iU l o)):s.heap.get? l=some o:=(show ObjOk X.prog X.w H s.heap l (iU l o) from I.hok l _ h).1
theorem lF.at{w:World}{l:Addr}{o:Obj}{xs:List mY}{es:Array DictEntry}{ep:Nat}(n:lF w l o xs)(h:o.data=.dict es ep):es.size=xs.length/\∀(i:Nat) (e:mY),xs[i]?=some e->∃en,es[i]?=some en/\en.key=.ref e.2.1:=by
 obtain⟨es',ep',h1,h2⟩:=n.ent
 rw[h]at h1
 cases h1
 refine⟨?_,fun i e hi=>⟨adk w e,?_,rfl⟩⟩
 ·have:=congrArg List.length h2
  simpa using this
 ·rw[←asC,h2,arY,hi]
  rfl
theorem alO{P:Program}{w:World}{K:arJ}{tg:Expr}{l:Addr}{o:Obj}{xs:List mY}{es:Array DictEntry}{ep:Nat}(it:Addr)(n:lF w l o xs)(hod:o.data=.dict es ep):Turn P w K tg (ItD l o xs) [it] it (fun i h=>h.IsKeyIter it l i xs.length ep) where
 mem:=arQ.mpr rfl
 obj:=fun i h st b hb=>by
  cases arQ.mp hb
  obtain⟨oi,e,c,dd⟩:=st
  refine⟨oi,e,fun v z=>?_⟩
  rw[dd]at z
  cases z
 keep:=fun i h h' st k=>st.at (k it (arQ.mpr rfl))
 item:=by
  intro X hP hw hK hc i pins s σ H E I hf st hg
  subst hP hw hK
  obtain⟨g0,g1,g2,g3,g4,g5⟩:=hf it (arQ.mpr rfl)
  obtain⟨sz,ent⟩:=n.at hod
  have hlt:i < xs.length:=hg.2
  have hx:xs[i]?=some xs[i]:=arM hlt
  obtain⟨en,e1,e2⟩:=ent i _ hx
  refine next_key_item st (pin_at I hg.1) hod sz e1 ?_
  intro h' st' sb
  have J:L2.Inv X pins σ H { s with heap:=h' }:=I.turned (t':=s.toks) (fun b ob hb e=>(sb.2 b hb).trans e) g0 g1 g3 g4 g5
  obtain⟨oi,a1,a2,a3⟩:=id st'
  exact⟨en.key,rfl,go_of (s:={ s with heap:=h' }) a1 a2 a3 (by decide) ⟨.ref xs[i].2.1,H,J,e2,⟨rfl,_,hx,rfl⟩,st',fun b hb=>(hf b hb).1⟩⟩
 done:=by
  intro X hP hw hK hc i pins s σ H E I hf st hg
  subst hP hw hK
  obtain⟨g0,g1,g2,g3,g4,g5⟩:=hf it (arQ.mpr rfl)
  exact next_key_end (I.ok.hd hc) st (pin_at I hg.1) hod (n.at hod).1 hg.2 fun h' eb=>⟨rfl,I.turned (t':=s.toks) (fun b ob hb e=>eb b ob hb e) g0 g1 g3 g4 g5⟩
 self:=fun A i s Q E st h=>by
  refine wpAny_pyIter_slot st.typeIs PySem.F.slot_dict_keyiterator_iter (wpAny_call_entry PySem.F.slot_dict_keyiterator_iter st.typeIs PySem.F.entry_dict_keyiterator_iter ?_ (PySem.F.args_dict_keyiterator_iter_1 _))
  exact wpAny_pure ⟨_,rfl,"dict_keyiterator",_,st.typeIs,PySem.F.slot_dict_keyiterator_next.lookup,h⟩
def anG(X:Cx)(td:TE):TI:=fun σ H R=>td σ H fun x H1=>∃l o xs,x=.ref l/\H1 l=some (iU l o)/\lF X.w l o xs/\R (ItD l o xs) H1
theorem aj0{X:Cx}{tg e:Expr}{td:TE}(he:PE X e td):PI X tg e (anG X td):=by
 constructor
 intro pins s σ H R I h
 refine thn (he.run pins s σ H _ I h) ?_
 rintro u s1 ⟨x,H1,I1,rx,l,o,xs,rfl,hl,n,q⟩
 obtain rfl:u=Value.ref l:=rx
 obtain⟨es,ep,hd,_⟩:=n.ent
 refine iter_keys n.sys (pin_at I1 hl) n.ex hd (pi_one (tk:=s1.toks) I1 _ (alO _ n hd) ⟨_,Heap.get?_push_size _ rfl,rfl,?_⟩ q)
 rw[(n.at hd).1] <;> rfl
theorem ail{K:arJ}{aj:aQ}{l:Addr}{o:Obj}{xs:List mY}{ks:List Dat}:JL K (ItD l o xs) (fun g H=>H l=some (iU l o)/\aJ K g H (xs.map fun x=>V.ref x.2.1) ks) ks where
 go:=fun g i H c hi=>⟨c.1,by have:=c.2.length;simp at this;omega⟩
 yld:=fun g i H x H' d k c e y=>by
  obtain⟨rfl,en,h1,rfl⟩:=y
  obtain⟨v,h2,h3⟩:=c.2.get e
  rw[arY,h1]at h2
  cases h2
  exact⟨Ex.refl _,h3⟩
 stop:=fun g i H c e=>⟨c.1,by have:=c.2.length;simp at this;omega⟩
 ex:=fun g H H' k c e=>⟨e _ _ c.1,c.2.ex e k⟩
 add:=fun g g' H H' k c r e=>⟨e _ _ c.1,c.2.gr r k⟩
def CK(f:Str)(o:QF):IF:=fun M ρ=>(o M ρ).bind fun od=>match yW M f od with
 |some (_,_,true,kvs)=>.ok (kvs.map (·.1))
 |_=>.bad
def Du(f:Str)(o:QF):QF:=fun M ρ=>(o M ρ).bind fun od=>match yW M f od with
 |some (_,_,_,kvs)=>.ok (.list (kvs.map (·.1)))
 |none=>.bad
section
variable{X:Cx}{aj:aQ}{W:WX}{o tg:Expr}{f:Str}{pos p p1:Pos}{fo:QF}
theorem af0(co:jy X.K aj)(hw:aj.w=X.w)(ho:QW aj X W o fo)(hb:baseOk o=true):QI aj X W false tg (.Attribute o f p1) (CK f fo):=by
 have h0:=aj0 (tg:=tg) (pe_fld (X:=X) (pos:=p1) (f:=f) ho (mF hb))
 refine⟨fun pins s σ H R I h=>h0.run pins s σ H R I ?_⟩
 obtain⟨g,ρ,M,J,h⟩:=h
 unfold CK at h
 refine tW.go J h.bnd fun od u H1 k2 e1 ru=>?_
 have J1:=J.ex e1
 split at k2
 ·next h i kvs hl=>
  obtain⟨a,C,dx,fs,l,rfl,m1,m2,ml,ha,rfl,c1,c2,c3,c4,c5,c6,l1,l2,o',xs,vs,q1,q2,q3,q4,q5,q6⟩:=GX co J1.wok ru hl
  rw[hw]at q2
  exact⟨a,C,dx,fs,.ref l,rfl,c2,c4,c5,l1,l,o',xs,rfl,q1,q2,k2 _ _ H1 e1 (ail (aj:=aj)) ⟨q1,q4⟩ fun z=>nomatch z⟩
 ·exact False.elim k2
end
theorem afw{P:Program}{w:World}{A:Around}{l I:Addr}{o:Obj}{xs:List mY}{es:Array DictEntry}{ep:Nat}(hh:A.handled=none)(hne:l≠I)(n:lF w l o xs)(hd:o.data=.dict es ep):Walks P w A I [I,l] [I] xs.length (fun i v=>∃e,xs[i]?=some e/\v=Value.ref e.2.1) (fun i h=>h.IsKeyIter I l i xs.length ep/\h.get? l=some o) where
 sub:=fun b hb=>by simp at hb;simp[hb]
 frame:=fun i h h' st k=>⟨st.1.at (k I (by simp)),k l (by simp) o st.2⟩
 item:=fun i s Q E hi st hQ=>by
  obtain⟨sz,ent⟩:=n.at hd
  have hx:xs[i]?=some xs[i]:=arM hi
  obtain⟨en,e1,e2⟩:=ent i _ hx
  refine next_key_item st.1 st.2 hd sz e1 ?_
  intro h' st' sb
  exact hQ en.key h' s.toks ⟨_,hx,e2⟩ ⟨st',(sb.2 l hne).trans st.2⟩ fun b ob hb e=>(sb.2 b fun z=>hb (by simp[z])).trans e
 done:=fun s Q E st hQ=>next_key_end hh st.1 st.2 hd (n.at hd).1 (ash _) fun h' eb=>hQ h' s.toks fun b ob hb e=>eb b ob (fun z=>hb (by simp[z])) e
 self:=fun i s Q E st hQ=>wpAny_pyIter_keyiter st.1 hQ
theorem aij{P:Program}{w:World}{l:Addr}{o:Obj}{xs:List mY}(n:lF w l o xs):PySem.W.KdlSrc P w "dict" l l xs.length (fun i v=>∃e,xs[i]?=some e/\v=Value.ref e.2.1) (fun h=>h.get? l=some o) where
 type:=fun s e=>⟨o,e,n.ex.1⟩
 there:=fun h e=>⟨Heap.lt_size e,Heap.lt_size e⟩
 keep:=fun h h' e k=>k l (.inl rfl) o e
 notList:=by decide
 notTuple:=by decide
 hint:=fun A E s Q e hq=>PySem.W.kdl_hint_dict ⟨o,e,n.ex.1⟩ hq
 iter:=fun A s hh e=>by
  obtain⟨es,ep,hd,_⟩:=n.ent
  refine⟨_,_,fun E Q hq=>iter_keys n.sys e n.ex hd hq,afw hh (asp (Heap.lt_size e)) n hd,⟨_,Heap.get?_push_size _ rfl,rfl,?_⟩,Heap.get?_push_of_some _ e⟩
  rw[(n.at hd).1] <;> rfl
def adB(X:Cx):List V->Hp->VK->Prop:=fun xs H Q=>(∃p kvs,xs=[.ref p]/\H p=some (.dK kvs)/\∀q,H q=none->Q (.ref q) (upd H q (.lst (kvs.map fun kv=>kV kv.1))))∨∃p o es,xs=[.ref p]/\H p=some (iU p o)/\lF X.w p o es/\∀q,H q=none->Q (.ref q) (upd H q (.lst (es.map fun e=>V.ref e.2.1)))
theorem acZ{X:Cx}(hc:X.calm=true):CallR X (.type "list") (adB X):=by
 intro pins s σ H xs us Q I r h
 rcases h with h|⟨p,o,es,rfl,hp,n,q⟩
 ·exact call_list_dK hc pins s σ H xs us Q I r h
 ·obtain⟨u,rfl,rx⟩:=vals1 r
  obtain rfl:u=Value.ref p:=rx
  refine PySem.W.kdl_call (aij n) (I.ok.hd hc) (pin_at I hp) n.len ?_
  intro h' tk acc c' keep hS hacc
  have el:acc.toList.length=es.length:=by
   rw[asu]
   exact hacc.1
  refine⟨.ref s.heap.objs.size,upd H s.heap.objs.size (.lst (es.map fun e=>V.ref e.2.1)),I.laid keep (ash _) (show ObjOk X.prog X.w _ _ _ (.lst (es.map fun e=>V.ref e.2.1)) from⟨by rw[arT];exact n.len,acc.toList,c',?_,?_⟩),rfl,q _ (I.hok.fresh (ash _))⟩
  ·refine vals_of_at (by rw[arT,el]) fun j x w h1 h2=>?_
   obtain⟨e,he,rfl⟩:=hacc.2 j w (by rw[←asC];exact h2)
   rw[arY,he]at h1
   cases h1
   rfl
  ·rw[Array.toArray_toList]
   exact hS
section
variable{X:Cx}{aj:aQ}{W:WX}{o e:Expr}{f:Str}{pos p p1 pos':Pos}{fo:QF}
theorem YF{K:arJ}{g:Gh}{H:Hp}:∀{kv:List (Key×V)} {kvs:List (Dat×Dat)},kvs.map (·.1)=kv.map (fun p=>keyD p.1)->aJ K g H (kv.map fun p=>kV p.1) (kvs.map (·.1))
 |[],[],_=>.nil
 |[],_::_,h=>by cases h
 |_::_,[],h=>by cases h
 |a::kv,b::kvs,h=>by
  simp only[arN,List.cons.injEq]at h
  rw[arN,arN,h.1]
  refine .cons ?_ (YF h.2)
  cases a.1 with
  |inl i=>exact .int i
  |inr x=>exact .str x
theorem afC(co:jy X.K aj)(hw:aj.w=X.w)(σ:L2.St)(H:Hp)(Q:VK)(h:tQ X.K aj W (Du f fo) σ H Q):tFld X.K (tW X.K aj W fo) f σ H fun x H1=>adB X [x] H1 Q:=by
 obtain⟨g,ρ,M,J,h⟩:=h
 unfold Du at h
 refine tW.go J h.bnd fun od u H1 k2 e1 ru=>?_
 have J1:=J.ex e1
 split at k2
 ·next h i b kvs hl=>
  obtain⟨a,C,dx,fs,l,rfl,m1,m2,ml,ha,rfl,c1,c2,c3,c4,c5,c6,l1,l2,l3⟩:=GX co J1.wok ru hl
  refine⟨a,C,dx,fs,.ref l,rfl,c2,c4,c5,l1,?_⟩
  cases b with
  |false=>
   obtain⟨kv,q1,q2,q3⟩:=l3
   exact .inl ⟨l,kv,rfl,q1,fun q nq=>k2 (.ref q) _ (e1.trans (Ex.new nq)) (.lst (.inl ⟨.inl upd_same,J1.kd.fresh nq⟩) (YF q2))⟩
  |true=>
   obtain⟨o',xs,vs,q1,q2,q3,q4,q5,q6⟩:=l3
   rw[hw]at q2
   exact .inr ⟨l,o',xs,rfl,q1,q2,fun q nq=>k2 (.ref q) _ (e1.trans (Ex.new nq)) (.lst (.inl ⟨.inl upd_same,J1.kd.fresh nq⟩) (q4.ex (Ex.new nq) J1.kd))⟩
 ·exact False.elim k2
theorem agp(co:jy X.K aj)(hw:aj.w=X.w)(hc:X.calm=true)(hg:Gl X "list")(hm:X.mg "list"=none)(ho:QW aj X W o fo)(hb:baseOk o=true):QE aj X W (.Call (.Name "list" p) [.Attribute o f p1] [] pos) (Du f fo):=by
 have h1:=pa_cons (pe_fld (X:=X) (pos:=p1) (f:=f) ho (mF hb)) pa_nil (cP rfl [])
 have hv:BV (.type "list") "list":=⟨by decide +kernel,by decide,by decide⟩
 refine PE.weak (pe_callTy (pos:=pos) (p:=p) (acZ hc) hg hm hv.1 h1 hv.2.1 hv.2.2 (cP rfl []) (by with_unfolding_all rfl)) fun σ H Q h=>?_
 exact afC co hw σ H Q h
def Ny(ft:Ft)(o:QF)(f:Str)(b:Bool):SF:=fun M ρ=>((o (M++[⟨"",[]⟩]) ρ).at (M++[⟨"",[]⟩])).then ρ fun od M2=>match j6 M2 od with
 |some (h,i)=>match ft.has i.cls f&&decide (i.fs.length < 100) with
  |true=>.next ρ (M2.set h (i.put f (.dic b [])))
  |false=>.bad
 |none=>.bad
def amg(X:Cx)(b:Bool):TE:=fun _ H Q=>∀p,H p=none->match b with
 |false=>Q (.ref p) (upd H p (.dK []))
 |true=>∀o,lF X.w p o []->Q (.ref p) (upd H p (iU p o))
theorem aiq{b:Bool}:PE X (.Dict [] [] pos) (amg X b):=by
 cases b with
 |false=>exact PE.weak pe_dnewK fun σ H Q h p np=>h p np
 |true=>
  refine⟨fun pins s σ H Q I h=>wpAny_Dict_empty ?_⟩
  have hz:(s.heap.push { cls:=.type "dict",data:=.dict #[] }).get? s.heap.objs.size=some { cls:=.type "dict",data:=.dict #[] }:=Heap.get?_push_size _ rfl
  have hs:(s.heap.objs.size==sysModules)=false:=beq_eq_false_iff_ne.mpr (Ne.symm (asp I.big))
  exact⟨.ref s.heap.objs.size,_,I.laid (a:=s.heap.objs.size) (o:=iU s.heap.objs.size _) (t':=s.toks) (fun _ _ q=>Heap.get?_push_of_some _ q) (ash _) (Km hz),rfl,h _ (I.hok.fresh (ash _)) _ ⟨hs,⟨rfl,rfl,rfl⟩,⟨#[],0,rfl,rfl⟩,atb,asx _,fun x hx=>absurd hx asr⟩⟩
theorem ahy{ft:Ft}{b:Bool}(co:jy X.K aj)(fk:Mj ft aj)(hw:aj.w=X.w)(ho:QW aj X W o fo)(hs:swapsWith (.Dict [] [] p) (some (.Attribute o f pos')) pos.line X.env=pure false):SE aj X W false (.Assign [.Attribute o f pos'] (.Dict [] [] p) pos) (Ny ft fo f b):=by
 refine PS.weak (ps_fld ho (aiq (b:=b)) hs) fun D σ H ⟨g,ρ,M,I,z⟩=>?_
 have core:∀(l:Addr) (ob:HO),H l=none->Ig ob->(∀(g':Gh) (H':Hp),H' l=some ob->jE X.K aj g' H' l b [])->tW X.K aj W fo σ (upd H l ob) (fun x H2=>∃a C dx fs,x=.ref a/\H2 a=some (.ins C dx fs)/\Cls X.K C/\NoAttr X.K C f/\fs.length < 1000/\D.nx σ (upd H2 a (.ins C dx (putF f (.ref l) fs)))):=by
  intro l ob nl mu at'
  obtain⟨gr,I1,tb,ow,mm⟩:=MJ I nl (Ex.new nl) upd_same mu
  unfold Ny at z
  have k1:=Out.jf (dw (σ:=σ) z)
  refine tW.go I1 (k1.mono (fun _ y=>y) fun x y H' c dd ex rx=>y H' _ c dd (gr.trans (Gr.ex ex)) (I1.ex ex) rx) fun od u H2 k2 e2 ru=>?_
  have I2:=I1.ex e2
  split at k2
  ·next h i hi=>
   split at k2
   ·next hb=>
    rw[arK]at hb
    obtain⟨a,C,dx,fs,_,m1,m2,ha,rfl,c1,c2,c3,c4,c5,c6⟩:=Gy co fk I2.wok ru hi hb.1
    have nla:l≠a:=fun z=>by
     subst z
     cases I2.wok.inj _ _ _ ha tb
     rw[mm]at m1
     cases m1
     exact m2 rfl
    refine⟨a,C,dx,fs,rfl,c2,c4,c5,?_,?_⟩
    ·have:=of_decide_eq_true hb.2
     rw[c3.len]
     omega
    ·have ch:=Uo (f:=f) (C:=C) (dx:=dx) (fs':=putF f (.ref l) fs) I2.kd I2.wok ha m1 m2 tb mm ow
     have w':=I2.wok.chg I2.kd ch ha m1 m2 c6 c1 c3 upd_same (v:=.ref l) (fl:=.dic b []) ⟨l,rfl,if_pos rfl,at' _ _ (by rw[upd_ne nla];exact e2 _ _ upd_same)⟩
     exact k2 σ _ _ ((gr.trans (Gr.ex e2)).trans ch.gc.gr) (I2.chg ch w')
   ·exact False.elim k2
  ·exact False.elim k2
 intro l nl
 cases b with
 |false=>exact core l _ nl trivial fun g' H' h=>⟨[],h,rfl,.nil⟩
 |true=>exact fun ob nd=>core l _ nl trivial fun g' H' h=>⟨ob,[],[],h,by rw[hw];exact nd,rfl,.nil,.nil,.nil⟩
end
def ajx(X:Cx)(D:Addr)(vs:List Nat)(g:TG)(tk:TE)(σ:L2.St)(Nx:Hp->Prop)(x:V)(H:Hp):Prop:=
 g x (L2.wipe σ vs) H fun σ2 H2=>L2.wipe σ2 vs=L2.wipe σ vs/\tk σ2 H2 fun y H4=>∃(o:Obj) (xs:List mY) (gg:Gh) (d:Dat) (b:Addr) (k:NestedKey),y=.ref b/\H4 D=some (iU D o)/\lF X.w D o xs/\aJ X.K gg H4 (xs.map fun x=>V.ref x.2.1) (xs.map fun x=>x.1.data)/\Rep X.K gg H4 y d/\sO d=some k/\k.depth<=8/\xs.length < sizeLine/\
  ∀o',lF X.w D o' (storedH xs k b (.bool true))->Nx (upd H4 D (iU D o'))
def alg(X:Cx)(wi:TI)(g:TG)(tk:TE)(vs:List Nat):TE:=fun σ H Q=>wi σ H fun J H1=>∀D,H1 D=none->∃W:Nat->Nat->Hp->Prop,(∃m,∀o,lF X.w D o []->W 0 m (upd H1 D (iU D o)))/\
 ∀i m H,W i m H->(J.stop i H/\Q (.ref D) H)∨(J.go i H/\∃Nx:Hp->Prop,(∀H',Nx H'->∃m',m' < m/\W (i+1) m' H')/\∀x H',J.yld i H x H'->ajx X D vs g tk σ Nx x H')
section
variable{X:Cx}
theorem aft{pins:List (Addr×Obj)}{σ:L2.St}{H:Hp}{s:Shared}{E:Value->Shared->Prop}{D b:Addr}{o:Obj}{xs:List mY}{gg:Gh}{d:Dat}{k:NestedKey}{u:Value}{Q:Unit->Shared->Prop}(hu:X.A.units+64 < cLine)(I:L2.Inv X pins σ H s)(hD:H D=some (iU D o))(n:lF X.w D o xs)(hr:aJ X.K gg H (xs.map fun x=>V.ref x.2.1) (xs.map fun x=>x.1.data))(hk:Rep X.K gg H (.ref b) d)(hd:sO d=some k)(h8:k.depth<=8)(hz:xs.length < sizeLine)(ru:RelV (.bl true) u)
  (q:∀s' o',lF X.w D o' (storedH xs k b (.bool true))->L2.Inv X pins σ (upd H D (iU D o')) s'->Q () s'):wpAny (model X.prog X.w) X.A (dictSet D (.ref b) u) Q E s:=by
 obtain rfl:u=.bool true:=ru
 refine wpAny_dictSet_heap (knd:=nestedKind X.prog X.w) (k:=k) (hsz:=Nat.le_of_lt hz) (show X.A.units+8 < cLine by omega) ⟨key_is I hk hd rfl,h8⟩ (Hj I hD n rfl hr) ?_
 intro h' dd hs'
 obtain⟨o',es,ep,g1,g2,g3,g4,g5,g6⟩:=dd
 have nd:lF X.w D o' (storedH xs k b (.bool true)):=⟨n.sys,g2,⟨es,ep,g3,g4⟩,g6,by have:=Rp (xs:=xs) (k:=k) (b:=b) (u:=.bool true);omega,RK n.dep h8⟩
 exact q _ o' nd (d_write I (by rw[hD];exact True.intro) hs' ⟨o',g1⟩ (Km g1))
theorem akc{kx tg iter:Expr}{scope:Scope}{own:List (PySem.Str×Nat)}{pos vp:Pos}{vj:Nat}{wi:TI}{g:TG}{tk:TE}(hc:X.calm=true)(hN:X.N.Nodup)(hu:X.A.units+64 < cLine)(hi:PI X tg iter wi)(ok:BlkOk X.N X.env.scope scope own)
  (hg:∀(t:Shared) (G:Hp) (C:Addr) (cl:List (PySem.Str×Addr)) (fp:List Addr),PG (X.blk t G scope (compEnvC scope cl C X.env) fp) tg g)
  (hk:∀(t:Shared) (G:Hp) (C:Addr) (cl:List (PySem.Str×Addr)) (fp:List Addr),PE (X.blk t G scope (compEnvC scope cl C X.env) fp) kx tk) (hs:∀x,foldedSetIterable iter X.env x=pure x) :
  PE X (.DictComp kx (.Constant (.bool true) vj vp) [⟨tg,iter,[],0⟩] scope pos) (alg X wi g tk (own.map (·.2))):=by
 refine⟨fun pins s σ H Q I h=>?_⟩
 rw[arm_eval_DictComp]
 have cells:∀y∈scope.names,y.2=.free->∃c,X.env.cells.lookup y.1=some c:=fun y hy e=>(ok.free y hy e).elim (fun k=>I.ok.has _ (.inl k)) (fun k=>I.ok.has _ (.inr k))
 refine wpAny_comprehension_free rfl hs (closure_ok cells) ok.kind (fun y hy e=>by rw[ok.uniq y hy,e]) (thn (hi.run pins s σ H _ I h) fun _ _ hx=>thn hx fun itv t0 h0=>?_)
 obtain⟨it,fp,tn,J,G0,rfl,I0,T,st0,f0,q⟩:=h0
 refine wpAny_newObj_type (newEnv_comp ?_)
 -- the new dict,at D
 obtain⟨D,hD⟩:∃D,D=t0.heap.objs.size:=⟨_,rfl⟩
 rw[←hD]
 obtain⟨W,⟨m0,w00⟩,turn⟩:=q D (I0.hok.fresh (Nat.le_of_eq hD.symm))
 obtain⟨ob,hob⟩:∃ob:Obj,ob={ cls:=.type "dict",data:=.dict #[] }:=⟨_,rfl⟩
 have nd0:lF X.w D ob []:=by
  rw[hob]
  exact⟨by rw[hD];exact beq_eq_false_iff_ne.mpr (Ne.symm (asp I0.big)),⟨rfl,rfl,rfl⟩,⟨#[],0,rfl,rfl⟩,atb,asx _,fun x hx=>absurd hx asr⟩
 have w0:=w00 ob nd0
 rw[←hob]
 obtain⟨t1,ht1⟩:∃t1:Shared,t1={ t0 with heap:=t0.heap.push ob }:=⟨_,rfl⟩
 obtain⟨G1,hG1⟩:∃G1,G1=upd G0 D (iU D ob):=⟨_,rfl⟩
 rw[←hG1]at w0
 have grow:∀b o,t0.heap.get? b=some o->t1.heap.get? b=some o:=fun b o e=>by rw[ht1];exact Heap.get?_push_of_some _ e
 have I1:L2.Inv X pins σ G1 t1:=by
  rw[ht1,hG1]
  refine I0.laid (t':=t0.toks) (fun b o e=>Heap.get?_push_of_some _ e) (Nat.le_of_eq hD.symm) (Km ?_)
  rw[hD]
  exact Heap.get?_push_size _ (by rw[hob];rfl)
 have small:∀b∈fp,b < t0.heap.objs.size:=fun b hb=>by
  obtain⟨o,e,_⟩:=T.obj _ _ st0 b hb
  exact Heap.lt_size e
 have f1:∀b∈fp,FpOk X pins G1 b/\b < t1.heap.objs.size:=fun b hb=>by
  have hlt:=small b hb
  refine⟨⟨?_,(f0 b hb).2⟩,by rw[ht1];show b < (t0.heap.push ob).objs.size;rw[Heap.size_push];exact asZ hlt⟩
  rw[hG1,upd_ne (by rw[hD];exact asp hlt)]
  exact(f0 b hb).1
 have st1:tn 0 t1.heap:=T.keep _ _ _ st0 fun b _ o e=>grow b o e
 have I2:=block_start I1 ok hN f1
 have pg:=hg t1 G1 t1.heap.objs.size (cellsFrom (t1.heap.objs.size+1) scope.names (cloFrom X.env.cells scope.names [])) fp
 have pk:=hk t1 G1 t1.heap.objs.size (cellsFrom (t1.heap.objs.size+1) scope.names (cloFrom X.env.cells scope.names [])) fp
 have none1:∀b∈fp,G1 b=none:=fun b hb=>(f1 b hb).1.1
 rw[show({ t0 with heap:=t0.heap.push ob }:Shared)=t1 from ht1.symm]
 obtain⟨ce,hce⟩:∃ce,ce=compEnvC scope (cellsFrom (t1.heap.objs.size+1) scope.names (cloFrom X.env.cells scope.names [])) t1.heap.objs.size X.env:=⟨_,rfl⟩
 rw[←hce]at I2 pg pk
 have cL:ce.locals=t1.heap.objs.size:=by rw[hce];rfl
 obtain⟨t2,ht2⟩:∃t2:Shared,t2={ t1 with heap:=pushCells (t1.heap.push { cls:=.type "dict",data:=.dict #[] }) scope.names }:=⟨_,rfl⟩
 rw[←ht2]at I2
 have st2:tn 0 t2.heap:=T.keep _ _ _ st1 fun b _ o e=>by rw[ht2];exact pushCells_keeps _ _ _ _ (Heap.get?_push_of_some _ e)
 have still:∀{σ':L2.St} {G':Hp} {t':Shared},L2.Inv (X.blk t1 G1 scope ce fp) [] σ' G' t'->(∀b∈fp,G' b=none)->∀b∈fp,FpOk (X.blk t1 G1 scope ce fp) [] G' b:=fun I' hn b hb=>
  ⟨hn b hb,(I'.ok.exf b hb).1,I'.ok.exfs b hb,.inl hb,fun x c e=>(I'.ok.exf b hb).2 x c e,fun p hp=>absurd (show p∈([]:List (Addr×Obj))++[] from hp) (by simp)⟩
 have pt:PTs (X.blk t1 G1 scope ce fp) [] tYes:=pts_nil
 have pv:PE (X.blk t1 G1 scope ce fp) (.Constant (.bool true) vj vp) (tC (.bl true)):=pe_bl
 have loop:codeAny (model X.prog X.w) X.A (.compLoop (.DictComp kx (.Constant (.bool true) vj vp) [⟨tg,iter,[],0⟩] scope pos) 0 (.ref it) (.ref D) ce) (compPost (model X.prog X.w) X.A X.xe none (EP X pins σ Q) (.ref D) t1.heap.objs.size) t2:=by
  refine compLoop_anyD (fun n t'=>∃i G',L2.Inv (X.blk t1 G1 scope ce fp) [] (L2.wipe σ (own.map (·.2))) G' t'/\tn i t'.heap/\(∀b∈fp,G' b=none)/\W i n G') ?_ m0 ⟨0,G1,I2,st2,none1,w0⟩
  rintro n t3 ⟨i,G3,I3,st3,n3,w3⟩
  rcases turn i n G3 w3 with⟨stop,fin⟩|⟨go,Nx,hNx,step⟩
  ·refine thnF (T.done (X.blk t1 G1 scope ce fp) rfl rfl rfl hc i [] t3 _ G3 (fun _ _=>False) I3 (still I3 n3) st3 stop) fun r t4 ⟨hr,I4⟩=>?_
   subst hr
   have I5:L2.Inv X pins σ G3 t4:=I1.call' (ch:=fp) I4.os I4.base I4.hok I4.bare fun b hb=>⟨(f1 b hb).1.2.2.2.1,(f1 b hb).1.2.1,(f1 b hb).1.2.2.2.2.1,(f1 b hb).1.2.2.2.2.2⟩
   have nC:G3 t1.heap.objs.size=none:=by rw[←cL];exact I4.free
   obtain⟨m,hn,_⟩:=I4.loc
   have hn':t4.heap.Ns t1.heap.objs.size m:=by rw[←cL];exact hn
   obtain⟨a0,a1,_,a3,a4,a5⟩:=I1.fpOk (ash _) nC
   exact⟨m,hn',fun h'' sb=>⟨.ref D,G3,I5.turned (t':=t4.toks) (fun b o hb e=>(sb.2 b hb).trans e) a0 a1 a3 a4 a5,rfl,fin⟩⟩
  ·refine thnF (T.item (X.blk t1 G1 scope ce fp) rfl rfl rfl hc i [] t3 _ G3 (fun _ _=>False) I3 (still I3 n3) st3 go) fun r t4 ⟨u,hr,h4⟩=>?_
   subst hr
   refine thnF h4 fun _ t5 ⟨x,G5,I5,r5,y5,st5,n5⟩=>?_
   refine thnF (pg.run _ t5 _ G5 x u _ (I5.pinned (still I5 n5) (T.obj _ _ st5)) r5 (step x G5 y5)) fun _ t6 ⟨σ6,G6,I6,hw6,q6⟩=>?_
   refine thnF (pt.run _ t6 σ6 G6 (fun b G=>b=true/\G=G6) I6 ⟨rfl,rfl⟩) fun b t7 ⟨G7,I7,hb7,hG7⟩=>?_
   subst hb7 hG7
   have over:∀{t':Shared} {G':Hp},L2.Inv (X.blk t1 G1 scope ce fp) ([]++pinsAt fp t5.heap) σ6 G' t'->Nx G'->∃m,m < n/\∃i G',L2.Inv (X.blk t1 G1 scope ce fp) [] (L2.wipe σ (own.map (·.2))) G' t'/\tn i t'.heap/\(∀b∈fp,G' b=none)/\W i m G':=fun {t' G'} I' nx=>by
    obtain⟨m',hm,w'⟩:=hNx G' nx
    have pin:∀b∈fp,∀o,t5.heap.get? b=some o->t'.heap.get? b=some o/\G' b=none:=fun b hb o e=>
     let z:=I'.pin (b,o) (asF _ (asF _ (mem_pinsAt hb e)))
     ⟨z.1,z.2.1⟩
    refine⟨m',hm,i+1,G',(I'.unpinned (pins:=[])).weak (by rw[←hw6,wipe_length]) (fun j v e=>?_),T.keep _ _ _ st5 fun b hb o e=>(pin b hb o e).1,fun b hb=>?_,w'⟩
    ·rw[←hw6]at e
     exact(wipe_some e).1
    ·obtain⟨o,e,_⟩:=T.obj _ _ st5 b hb
     exact(pin b hb o e).2
   simp only[if_true]
   refine thnF (pk.run _ t7 σ6 _ _ I7 q6) fun z t8 ⟨yv,G8,I8,r8,o8,xs8,g8,d8,b8,k8,ey,hD8,n8,hr8,hk8,hd8,h88,hz8,nx⟩=>?_
   subst ey
   obtain rfl:z=Value.ref b8:=r8
   refine thnF (pv.run _ t8 σ6 G8 (fun v G=>v=.bl true/\G=G8) I8 ⟨rfl,rfl⟩) fun z2 t9 ⟨y9,G9,I9,r9,hv9,hG9⟩=>?_
   subst hv9 hG9
   exact aft (X:=X.blk t1 G1 scope ce fp) hu I9 hD8 n8 hr8 hk8 hd8 h88 hz8 r9 fun s' o' nd I10=>over I10 (nx o' nd)
 have done:=codeAny_compStart_dict loop (T.self X.A 0 _ _ _ st2 loop)
 rw[hce,ht2]at done
 subst hob
 exact done
end
def Eu(tg:fU)(tk:QF)(M:Mo)(ρ:Env):List Dat->List (Dat×Dat)->Out (List (Dat×Dat))
 |[],acc=>.ok acc
 |d::ds,acc=>match tg d ρ with
  |none=>.bad
  |some ρ1=>(yh (tk M ρ1)).bind fun kd=>(dhas true acc kd).bind fun r=>Eu tg tk M ρ ds (match r with
   |true=>acc
   |false=>acc++[(kd,.bool true)])
def qDc(it:IF)(tg:fU)(vs:List Nat)(tk:QF):Mo->Env->Out (List (Dat×Dat)):=fun M ρ=>(it M ρ).bind fun ds=>Out.when (decide (ds.length<=50000)) (Eu tg tk M (bZ ρ vs) ds [])
def ajW(K:arJ)(aj:aQ)(W:WX)(f:Mo->Env->Out (List (Dat×Dat))):TE:=fun σ H Q=>∃g ρ M,SInv K aj σ H g ρ M/\(f M ρ).sat (fun kvs=>∀l o H',H l=none->Ex H H'->H' l=some (iU l o)->jE K aj (g.add l) H' l true kvs->Q (.ref l) H') (qO K aj W g H σ)
section
variable{X:Cx}{aj:aQ}{W:WX}
theorem VH{tg:fU}{tk:QF}{M:Mo}{ρ:Env}:∀{ds:List Dat} {acc:List (Dat×Dat)} {x:dB},Eu tg tk M ρ ds acc≠.exc x
 |[],_,_,h=>nomatch h
 |d::ds,acc,x,h=>by
  rw[Eu]at h
  split at h
  ·cases h
  ·next ρ1 e=>
   cases h1:tk M ρ1 with
   |bad=>rw[h1]at h;cases h
   |exc y=>rw[h1]at h;cases h
   |ok kd=>
    rw[h1]at h
    have h:((dhas true acc kd).bind fun r=>Eu tg tk M ρ ds (match r with
     |true=>acc
     |false=>acc++[(kd,.bool true)]))=.exc x:=h
    cases h2:dhas true acc kd with
    |bad=>rw[h2]at h;cases h
    |exc y=>
     unfold dhas at h2
     split at h2
     ·cases h2
     ·split at h2
      ·split at h2 <;> cases h2
      ·cases h2
     ·cases h2
    |ok r=>
     rw[h2]at h
     exact VH h
theorem afF{xs:List mY}{k:NestedKey}(h:∀x∈xs,x.2.2=.bool true):xs.map (putAt k (.bool true))=xs:=by
 have:∀x∈xs,putAt k (.bool true) x=x:=fun x hx=>by
  unfold putAt
  split
  ·obtain⟨a,b,c⟩:=x
   have:c=.bool true:=h _ hx
   rw[this]
  ·rfl
 calc xs.map (putAt k (.bool true))=xs.map id:=List.map_congr_left this
  _=xs:=List.map_id xs
theorem abb:∀{xs:List mY},(∀x∈xs,x.2.2=.bool true)->Vals (List.replicate xs.length (.bl true)) (xs.map (·.2.2))
 |[],_=>.nil
 |x::xs,h=>by
  rw[arU,List.replicate_succ,arN,h x arP]
  exact .cons rfl (abb fun y hy=>h y (arO _ hy))
theorem abd{K:arJ}{g:Gh}{H:Hp}:∀{kvs:List (Dat×Dat)} {n:Nat},n=kvs.length->(∀p∈kvs,p.2=.bool true)->aJ K g H (List.replicate n (.bl true)) (kvs.map (·.2))
 |[],_,h,_=>by subst h;exact .nil
 |p::kvs,_,e,h=>by
  subst e
  rw[arU,List.replicate_succ,arN,h p arP]
  exact .cons (.bl true) (abd rfl fun y hy=>h y (arO _ hy))
theorem amD{it:IF}{tg:fU}{js vs:List Nat}{tk:QF}(hw:aj.w=X.w)(hj:∀j∈js,j∈vs)(σ:L2.St)(H:Hp)(Q:VK)(h:ajW X.K aj W (qDc it tg vs tk) σ H Q) :
  alg X (tI X.K aj W false it) (zW X.K aj js tg) (tQ X.K aj WF tk) vs σ H Q:=by
 obtain⟨g,ρ,M,I,h⟩:=h
 refine⟨g,ρ,M,I,h.bnd.mono (fun ds hk J C H1 e1 w c _ D nD=>?_) fun _ z=>z⟩
 obtain⟨hz,hk⟩:=hk.pY
 have hlen:=of_decide_eq_true hz
 obtain⟨total,htot,hQ⟩:∃total,Eu tg tk M (bZ ρ vs) ds []=.ok total/\∀l o H',H l=none->Ex H H'->H' l=some (iU l o)->jE X.K aj (g.add l) H' l true total->Q (.ref l) H':=by
  cases hc:Eu tg tk M (bZ ρ vs) ds [] with
  |bad=>rw[hc]at hk;exact False.elim hk
  |exc x=>exact absurd hc VH
  |ok total=>
   rw[hc]at hk
   exact⟨total,rfl,hk⟩
 have I1:=(I.ex e1).wipe vs
 have kD:∀{Ha:Hp} {o:Obj},Ex H1 Ha->Ha D=some (iU D o)->SInv X.K aj (L2.wipe σ vs) Ha (g.add D) (bZ ρ vs) M:=fun ea hu=>I1.add nD ea hu trivial
 let Pv:Nat->Hp->Prop:=fun i Ha=>Ex H1 Ha/\i<=ds.length/\∃o xs acc,Ha D=some (iU D o)/\lF X.w D o xs/\acc.map (·.1)=xs.map (fun x=>x.1.data)/\aJ X.K (g.add D) Ha (xs.map fun x=>V.ref x.2.1) (acc.map (·.1))/\(∀x∈xs,x.2.2=.bool true)/\(∀p∈acc,p.2=.bool true)/\acc.length<=i/\Eu tg tk M (bZ ρ vs) (ds.drop i) acc=.ok total
 refine⟨fun i m Ha=>m=ds.length - i/\Pv i Ha,⟨ds.length,fun o n0=>⟨rfl,Ex.new nD,asx _,o,[],[],upd_same,n0,rfl,.nil,fun x hx=>absurd hx asr,fun x hx=>absurd hx asr,ash _,by rw[ath];exact htot⟩⟩,?_⟩
 rintro i m Ha ⟨rfl,ea,hi,o,xs,acc,hu,nd,hK,hR,hT,hA,hy,hs⟩
 have Ia:=kD ea hu
 have Ca:=w.add g (g.add D) H1 Ha (I.kd.ex e1) c (Gh.Hq nD ea) ea
 have lxs:xs.length=acc.length:=by
  have:=congrArg List.length hK
  simpa using this.symm
 by_cases hlt:i < ds.length
 ·refine .inr ⟨w.go _ i Ha Ca hlt,Pv (i+1),fun H' p=>⟨ds.length - (i+1),by omega,rfl,p⟩,fun x H' y=>?_⟩
  have hd:ds[i]?=some ds[i]:=arM hlt
  obtain⟨e2,rx⟩:=w.yld _ i Ha x H' _ Ia.kd Ca hd y
  have I2:=Ia.ex e2
  rw[asN hlt,Eu]at hs
  split at hs
  ·cases hs
  ·next ρ1 he=>
   refine⟨g.add D,_,M,_,ρ1,I2,rx,he,fun ws I3=>⟨zP js ws _ vs hj |>.trans (DQ σ vs),?_⟩⟩
   cases htk:tk M ρ1 with
   |bad=>rw[htk]at hs;cases hs
   |exc z=>rw[htk]at hs;cases hs
   |ok kd=>
    rw[htk]at hs
    have hs:((dhas true acc kd).bind fun r=>Eu tg tk M (bZ ρ vs) (ds.drop (i+1)) (match r with
     |true=>acc
     |false=>acc++[(kd,.bool true)]))=.ok total:=hs
    refine⟨g.add D,ρ1,M,I3,?_⟩
    rw[htk]
    intro v H4 e4 ry
    have I4:=I3.ex e4
    have hu4:=e4 _ _ (e2 _ _ hu)
    have hR4:=(hR.ex e2 Ia.kd).ex e4 I2.kd
    cases hh:dhas true acc kd with
    |bad=>rw[hh]at hs;cases hs
    |exc z=>rw[hh]at hs;cases hs
    |ok r=>
     rw[hh]at hs
     obtain⟨ha2,hcase⟩:=Uj hh
     rcases hcase with⟨z,_⟩|⟨_,dd,kk,rfl,hkk,hdep⟩
     ·cases z
     ·have ek:=Aa hkk
      rw[←ek,Jf hK]at ha2
      have hRx:=hR4
      rw[hK]at hRx
      cases ry with
      | @tup bb us _ hs' ht=>
       refine⟨o,xs,g.add D,_,bb,kk,rfl,hu4,nd,hRx,.tup hs' ht,hkk,hdep,sz_lt (by omega),fun o' nd'=>?_⟩
       have eD:Ex H1 (upd H4 D (iU D o')):=Ex.mut ((ea.trans e2).trans e4) nD
       have lD:(g.add D).Lo D:=.inr rfl
       have up:Gr true (g.add D) (g.add D) H4 (upd H4 D (iU D o')):=Gr.upd I4.kd hu4 (.inr lD)
       cases r with
       |true=>
        obtain⟨q,hq⟩:=Option.isSome_iff_exists.mp ha2
        rw[storedH_old hq,afF hT]at nd'
        exact⟨eD,hlt,o',xs,acc,upd_same,nd',hK,hR4.gr up I4.kd,hT,hA,by omega,hs⟩
       |false=>
        have hn:atKey xs kk=none:=by
         cases hv:atKey xs kk with
         |none=>rfl
         |some _=>rw[hv]at ha2;cases ha2
        rw[storedH_new hn]at nd'
        have hs:Eu tg tk M (bZ ρ vs) (ds.drop (i+1)) (acc++[(.tuple dd,.bool true)])=.ok total:=hs
        refine⟨eD,hlt,o',xs++[(kk,bb,.bool true)],acc++[(.tuple dd,.bool true)],upd_same,nd',by simp[hK,ek],?_,?_,?_,by simp;omega,hs⟩
        ·rw[List.map_append,List.map_append]
         exact(hR4.gr up I4.kd).back ((Rep.tup hs' ht).gr up I4.kd)
        ·intro x hx
         rcases arW.mp hx with z|z
         ·exact hT x z
         ·rw[arQ.mp z]
        ·intro x hx
         rcases arW.mp hx with z|z
         ·exact hA x z
         ·rw[arQ.mp z]
 ·have e:i=ds.length:=by omega
  refine .inl ⟨w.stop _ i Ha Ca e,?_⟩
  rw[e,asT]at hs
  cases hs
  exact hQ D o Ha (Dj e1 D nD) (e1.trans ea) hu ⟨o,xs,List.replicate xs.length (.bl true),hu,by rw[hw];exact nd,hK,hR,abb hT,abd lxs hA⟩
def Rc(ft:Ft)(o:QF)(f:Str)(e:Mo->Env->Out (List (Dat×Dat))):SF:=fun M ρ=>((e M ρ).at M).then ρ fun kvs _=>((o (M++[⟨"",[]⟩]) ρ).at (M++[⟨"",[]⟩])).then ρ fun od M2=>match j6 M2 od with
 |some (h,i)=>match ft.has i.cls f&&decide (i.fs.length < 100) with
  |true=>.next ρ (M2.set h (i.put f (.dic true kvs)))
  |false=>.bad
 |none=>.bad
end
theorem YX{K:arJ}{g:Gh}{H:Hp}{l:Addr}{vs:List V}{ds:List Dat}(h:aJ K (g.add l) H vs ds):aJ K (g.push l) H vs ds:=aJ.mv (g:=g.add l) (g':=g.push l) (fun h a z=>by
  have z:g.tbl[h]?=some a:=z
  show(g.tbl++[l])[h]?=some a
  rw[arX (arL.mp z).1]
  exact z) (fun a z=>by
  rcases aae z with z|rfl
  ·rcases z with z|z|z
   ·exact .inl z
   ·exact .inr (.inl z)
   ·exact .inr (.inr (show g.Lo a∨a=l from Or.inl z))
  ·exact .inr (.inr (show g.Lo a∨a=a from Or.inr rfl))) h
section
variable{X:Cx}{aj:aQ}{W:WX}{o e:Expr}{f:Str}{pos pos':Pos}{ft:Ft}{fo:QF}
theorem ahp{fe:Mo->Env->Out (List (Dat×Dat))}{te:TE}(co:jy X.K aj)(fk:Mj ft aj)(ho:QW aj X W o fo)(he:PE X e te)(hte:∀σ H Q,ajW X.K aj W fe σ H Q->te σ H Q)(hs:swapsWith e (some (.Attribute o f pos')) pos.line X.env=pure false):SE aj X W false (.Assign [.Attribute o f pos'] e pos) (Rc ft fo f fe):=by
 refine PS.weak (ps_fld ho he hs) fun D σ H ⟨g,ρ,M,I,z⟩=>hte σ H _ ⟨g,ρ,M,I,?_⟩
 unfold Rc at z
 cases hf:fe M ρ with
 |exc x=>rw[hf]at z;exact fun H' c dd e r=>z σ H' g c dd (Gr.ex e) (I.ex e) r.fr
 |bad=>rw[hf]at z;exact False.elim z
 |ok kvs=>
  rw[hf]at z
  intro l ob H1 nl e1 hl dic
  obtain⟨gr,I1,tb,ow,mm⟩:=MJ I nl e1 hl trivial
  have dic1:jE X.K aj (g.push l) H1 l true kvs:=by
   obtain⟨o',xs,vs,q1,q2,q3,q4,q5,q6⟩:=dic
   exact⟨o',xs,vs,q1,q2,q3,YX q4,q5,YX q6⟩
  have z:(((fo (M++[⟨"",[]⟩]) ρ).at (M++[⟨"",[]⟩])).then ρ fun od M2=>match j6 M2 od with
   |some (h,i)=>match ft.has i.cls f&&decide (i.fs.length < 100) with
    |true=>.next ρ (M2.set h (i.put f (.dic true kvs)))
    |false=>.bad
   |none=>.bad).sat (sN X.K aj false D.nx g H) (sR X.K aj false D.rt g H) (sN X.K aj false D.bk g H) (sN X.K aj false D.ct g H) (sX X.K aj W false g H):=z
  have k1:=Out.jf (dw (σ:=σ) z)
  refine tW.go I1 (k1.mono (fun _ y=>y) fun x y H' c dd ex rx=>y H' _ c dd (gr.trans (Gr.ex ex)) (I1.ex ex) rx) fun od u H2 k2 e2 ru=>?_
  have I2:=I1.ex e2
  split at k2
  ·next h i hi=>
   split at k2
   ·next hb=>
    rw[arK]at hb
    obtain⟨a,C,dx,fs,_,m1,m2,ha,rfl,c1,c2,c3,c4,c5,c6⟩:=Gy co fk I2.wok ru hi hb.1
    have nla:l≠a:=fun z=>by
     subst z
     cases I2.wok.inj _ _ _ ha tb
     rw[mm]at m1
     cases m1
     exact m2 rfl
    refine⟨a,C,dx,fs,rfl,c2,c4,c5,?_,?_⟩
    ·have:=of_decide_eq_true hb.2
     rw[c3.len]
     omega
    ·have ch:=Uo (f:=f) (C:=C) (dx:=dx) (fs':=putF f (.ref l) fs) I2.kd I2.wok ha m1 m2 tb mm ow
     have w':=I2.wok.chg I2.kd ch ha m1 m2 c6 c1 c3 upd_same (v:=.ref l) (fl:=.dic true kvs) ⟨l,rfl,if_pos rfl,jE.chg ch.gc.gr I2.kd (upd_ne nla) (dic1.ex e2 I1.kd)⟩
     exact k2 σ _ _ ((gr.trans (Gr.ex e2)).trans ch.gc.gr) (I2.chg ch w')
   ·exact False.elim k2
  ·exact False.elim k2
end
end Rf
namespace Ear
open PySem PySem.Spec PyProof.Rows L2 Evl RZ
abbrev xH(K:arJ)(H:Hp)(v:V)(r:Rw):Prop:=Dp K H v (rD r)
@[irreducible]def Kv (K:arJ) (w:World):List V->Hp->VK->Prop:=fun vs H Q=>∃(l:Addr) (ws:List V) (R D:List Rw),vs=[V.ref l]/\SqL K H l ws/\eZ (xH K H) ws R/\D.length<=76/\(∀r∈R,r∈D)/\
 ∀(p:Addr) (L:List Ent),H p=none->(∀e∈L,xH K H (.ref e.1) e.2)->(L.map Prod.snd).Nodup->(∀r,r∈L.map Prod.snd↔r∈R)->L.length<=76->Q (.ref p) (upd H p (Nm w p L))
@[irreducible]def Qs (K:arJ) (w:World):List V->Hp->VK->Prop:=fun vs H Q=>∃(a:Addr) (L:List Ent),vs=[V.ref a]/\H a=some (Nm w a L)/\(∀e∈L,xH K H (.ref e.1) e.2)/\(L.map Prod.snd).Nodup/\L.length<=76/\
 ∀(ys:List V) (M:List Rw) (p:Addr),eZ (xH K H) ys M->Hw M->(∀r,r∈M↔r∈L.map Prod.snd)->H p=none->Q (.ref p) (upd H p (.lst ys))
section
variable{X:Cx}
theorem afv{pins:List (Addr×Obj)}{σ:L2.St}{H:Hp}{s:Shared}(I:Inv X pins σ H s){t:Addr}{r:Rw}(h:xH X.K H (.ref t) r):RI s.heap r t:=by
 refine⟨?_,by rw[afl];decide⟩
 unfold xH rD dT at h
 cases h with
 |tup h1 t1=>
  cases t1 with
  |cons a1 t1=>
   cases t1 with
   |cons a2 t1=>
    cases t1
    cases a1
    cases a2 with
    |tup h2 t2=>
     obtain⟨us,rv,⟨o,ho,hc,n,hd⟩,_⟩:=I.tuple h1
     obtain⟨us2,rv2,⟨o2,ho2,hc2,n2,hd2⟩,_⟩:=I.tuple h2
     refine .tup ho hc hd ?_
     cases rv with
     |cons r1 rv=>
      cases rv with
      |cons r2 rv=>
       cases rv
       obtain⟨tk,rfl⟩:=r1
       cases r2
       have e:∀{vs:List V} {l:List Int},DpAll X.K H vs (l.map PyData.int)->vs=l.map V.int:=by
        intro vs l
        induction l generalizing vs with
        |nil=>intro z;cases z;rfl
        |cons i l ih=>
         intro z
         cases z with
         |cons b1 b2=>
          cases b1
          rw[ih b2]
          rfl
       rw[e t2]at rv2
       exact .cons (.int r.1 tk) (.cons (.tup ho2 hc2 hd2 (by simpa using Wd (P:=X.prog) (w:=X.w) r.2 us2 rv2)) .nil)
theorem R4{K:arJ}{H:Hp}:∀(ws:List V) (R:List Rw),eZ (xH K H) ws R->∃ks:List Ent,ws=(ks.map fun p=>V.ref p.1)/\ks.map Prod.snd=R/\∀p∈ks,xH K H (.ref p.1) p.2
 |[],[],_=>⟨[],rfl,rfl,by simp⟩
 |[],_::_,h=>nomatch h.1
 |_::_,[],h=>nomatch h.1
 |v::ws,r::R,h=>by
  obtain⟨ks,e1,e2,e3⟩:=R4 ws R ⟨asK h.1,fun i v x a b=>h.2 (i+1) v x a b⟩
  have hr:xH K H v r:=h.2 0 v r rfl rfl
  have ev:∃t,v=.ref t:=by
   have z:=hr
   unfold xH rD at z
   cases z with
   |tup _ _=>exact⟨_,rfl⟩
  obtain⟨t,rfl⟩:=ev
  refine⟨(t,r)::ks,by rw[arN,←e1],by rw[arN,e2],fun p hp=>?_⟩
  rcases arZ.mp hp with e|hp
  ·rw[e];exact hr
  ·exact e3 p hp
theorem aaU(hu:X.A.units+65 < cLine)(hc:X.calm=true):CallR X (.type "set") (Kv X.K X.w):=by
 intro pins s σ H vs us Q I r h
 unfold Kv at h
 obtain⟨l,ws,R,D,rfl,hl,hA,hD,hRD,q⟩:=h
 rw[Vals.ref1 r]
 obtain⟨ks,e1,e2,e3⟩:=R4 ws R hA
 obtain⟨its,rv,pl,hz⟩:=I.list hl
 rw[e1]at rv
 have mem:∀p∈ks,p.2∈R:=fun p hp=>by
  rw[←e2]
  exact arV.mpr ⟨p,hp,rfl⟩
 have hn:H s.heap.objs.size=none:=I.hok.fresh (ash _)
 refine aaX (P:=X.prog) (w:=X.w) (hf:=fun r=>(nH X.prog X.w).hash r) (fun _=>rfl) ks D hD (fun p hp=>hRD _ (mem p hp)) (I.ok.hd hc) pl.isList (by simpa using VL rv) (fun p hp=>afv I (e3 p hp)) (by omega) fun h' tk L es ep t S g k=>?_
 have fitL:t.fits es.size=true:=qL.fits (s:={ s with heap:=h',toks:=tk }) S
 have new:ObjOk X.prog X.w (upd H s.heap.objs.size (Nm X.w s.heap.objs.size L)) h' s.heap.objs.size (Nm X.w s.heap.objs.size L):=by
  obtain⟨o,ho,hr⟩:=S.ob
  refine⟨⟨_,es,ep,t,S.ob,S.en,fitL,S.tab.ris,S.ld⟩,⟨o,ho⟩,fun h1 h2 z k2=>?_⟩
  obtain⟨hf2,es2,ep2,t2,⟨o2,ho2,hr2⟩,rest⟩:=(show acy X.w h1 s.heap.objs.size L from z)
  exact⟨hf2,es2,ep2,t2,⟨o2,k2 o2 ho2,hr2⟩,rest⟩
 refine⟨.ref s.heap.objs.size,upd H s.heap.objs.size (Nm X.w s.heap.objs.size L),I.laid (t':=tk) k (ash _) new,rfl,q _ L hn (fun e he=>e3 e (as5 (g.sub e he))) S.nd (fun r=>⟨fun m=>?_,fun m=>?_⟩) S.few⟩
 ·obtain⟨e,he,e5⟩:=arV.mp m
  rw[←e5]
  exact mem e (as5 (g.sub e he))
 ·rw[←e2]at m
  obtain⟨p,hp,e5⟩:=arV.mp m
  rw[←e5]
  exact g.all p (by rw[List.take_length];exact hp)
theorem acw(hu:X.A.units+65 < cLine)(hc:X.calm=true):CallR X (.builtin "sorted") (Qs X.K X.w):=by
 intro pins s σ H vs us Q I r h
 unfold Qs at h
 obtain⟨a,L,rfl,ha,hL,nd,few,q⟩:=h
 rw[Vals.ref1 r]
 obtain⟨hf,es,ep,t,⟨o,ho,hex,hd⟩,en,fit,ris,led⟩:acy X.w s.heap a L:=(I.hok a _ ha).1
 have len:=yM en
 have ev:∀K:List Ent,(∀p∈K,p∈L)->PySem.W.EachIs (fun v (r:Rw)=>(∃p∈L,v=Value.ref p.1/\r=p.2)/\∃as,Reads s.heap v (rD r) as) ((ents hf K).map (·.2)) (K.map Prod.snd):=by
  intro K
  induction K with
  |nil=>exact fun _=>.nil
  |cons p K ih=>
   intro hK
   have hp:=hK p arP
   exact .cons ⟨⟨p,hp,rfl,rfl⟩,Dp.reads I (rD p.2) (.ref p.1) (.ref p.1) (hL p hp) rfl⟩ (ih fun x hx=>hK x (arO _ hx))
 refine aaN (enc:=rD) (bs:=L.map Prod.snd) (I.ok.hd hc) ⟨o,ho,hex.1,hd⟩ fit (by unfold scanBound;omega) ris led (by rw[en];exact ev L fun p hp=>hp) (atg WT) (PySem.W.Sortable.tuples fun b=>⟨_,_,rfl⟩) (fun b _=>by rw[(ado b).2];omega) fun s' p out c cs k g' o' hp hg pc eo=>?_
 have mp:=List.mergeSort_perm cs (PySem.W.dataLe false rD)
 have ndm:(cs.mergeSort (PySem.W.dataLe false rD)).Nodup:=(mp.trans pc).nodup_iff.mpr nd
 have srt:=as7 (le:=PySem.W.dataLe false rD) (fun a b c k1 k2=>by rw[Lj,decide_eq_true_eq]at *;exact List.le_trans k1 k2) (fun a b=>by rw[Lj,Lj,as9,decide_eq_true_eq,decide_eq_true_eq];exact List.le_total _ _) cs
 generalize cs.mergeSort (PySem.W.dataLe false rD)=M at mp ndm srt eo
 obtain⟨ys,v1,v2⟩:=Wk out M eo
 have up:Hw M:=by
  refine List.Pairwise.imp₂ (fun a b h1 h2=>?_) srt ndm
  rw[Lj,decide_eq_true_eq]at h1
  by_cases c:rk a < rk b
  ·exact c
  ·exact absurd (Zt (List.le_antisymm h1 (List.not_lt.mp c))) h2
 have hfr:H p=none:=I.hok.fresh hp
 have hlen:ys.length<=sizeLine:=by
  rw[v2.1,mp.length_eq,pc.length_eq,arT,sizeLine_eq]
  omega
 have J:Inv X pins σ (upd H p (.lst ys)) { s with heap:=s'.heap,gens:=s'.gens,drawn:=s'.drawn,toks:=s'.toks }:=
  I.call (ch:=[]) (Un.laid k hp hfr) (I.hok.laid k hp ⟨hlen,out,c,v1,hg⟩) (by rw[g'];exact I.bare) (fun _ z=>nomatch z)
 have es':s'={ s with heap:=s'.heap,gens:=s'.gens,drawn:=s'.drawn,toks:=s'.toks }:=by
  cases s'
  cases s
  cases o'
  rfl
 rw[es']
 refine⟨.ref p,_,J,rfl,q ys M p (v2.imp fun v r ⟨e,he,h1,h2⟩=>?_) up (fun r=>(mp.trans pc).mem_iff) hfr⟩
 subst h1 h2
 exact hL e he
end
section
variable{prog:Program}{w:World}{A:Around}{E:Value->Shared->Prop}{s:Shared}
theorem Y6{l:Addr}{vs:List Value}{Q:List Value->Shared->Prop}(hl:s.heap.IsTuple l vs.toArray)
  (h:Q vs { s with heap:=(s.heap.push (seqObj "list" #[] 0)).update s.heap.objs.size (Obj.mapSeq (·++vs.toArray)) }) (hsz:vs.length<=sizeLine) :
  wpAny (model prog w) A (collect (.ref l)) Q E s:=by
 obtain⟨o,ho,hc,n,hd⟩:=id hl
 unfold collect
 refine wpAny_bind (wpAny_runValue (codeAny_builtin entry_proto_collect' ?_))
 show wpAny _ _ (do again (.builtin "list.__iadd__" ⟨[←newList [],.ref l],[]⟩)) _ _ s
 refine wpAny_bind (wpAny_newList (wpAny_pure ⟨Code.quiet_builtin _ (by decide +kernel),codeAny_builtin entry_list_iadd' ?_⟩))
 show wpAny _ _ (Builtin.List.listExtendWith (.ref s.heap.objs.size) (.ref l) (.ref s.heap.objs.size)) _ _ { s with heap:=s.heap.push (seqObj "list" #[] 0) }
 unfold Builtin.List.listExtendWith
 have ho':(s.heap.push (seqObj "list" #[] 0)).get? l=some o:=Heap.get?_push_of_some _ ho
 refine wpAny_bind (wpAny_typeOf (T:="tuple") ⟨o,ho',hc⟩ ?_)
 have ht:(Value.type "tuple"==Value.type "tuple")=true:=by rfl
 rw[if_pos (by rw[ht];simp)]
 refine wpAny_bind (listItems_at ho' hd ?_)
 refine wpAny_bind (listItems_at (xs:=#[]) (n:=0) (Heap.get?_push_size _ rfl) rfl ?_)
 rw[if_neg (by simp)]
 refine wpAny_bind (listUpdate_at (xs:=#[]) (n:=0) (Heap.get?_push_size _ rfl) rfl ?_ (asx _) (by show(#[]++vs.toArray).size<=sizeLine+1;simp only[Array.size_append,as3,List.length_nil];omega))
 refine wpAny_pure ?_
 show wpAny (model prog w) A (do
   let o ←load s.heap.objs.size
   match o.data with
   |.seq xs _=>pure xs.toList
   |_=>unsupported "internal:collect") Q E { s with heap:=(s.heap.push (seqObj "list" #[] 0)).update s.heap.objs.size (Obj.mapSeq (·++vs.toArray)) }
 refine wpAny_bind (wpAny_load (get?_update_seq (Heap.get?_push_size _ rfl) _) ?_)
 show wpAny _ _ (pure ((#[]:Array Value)++vs.toArray).toList) Q E _
 rw[show((#[]:Array Value)++vs.toArray).toList=vs by simp]
 exact wpAny_pure h
theorem aa1{β:Type}{vs:List Value}{bs:List β}{enc:β->PyData}{R:Value->β->Prop}{l:Addr}{Q:Value->Shared->Prop}(hl:s.heap.IsTuple l vs.toArray)(e:PySem.W.EachIs R vs bs)(er:PySem.W.EachIs (fun v b=>∃as,Reads s.heap v (enc b) as) vs bs)(hal:PySem.W.AllAlike (bs.map enc))(hk:PySem.W.Sortable (bs.map enc))(hL:bs.length<=sizeLine)
  (hu:∀b,b∈bs->A.units+2+(enc b).depth < cLine) (h:∀out,out.length=bs.length->PySem.W.EachIs R out (bs.mergeSort (PySem.W.dataLe false enc))->Q (.ref (s.heap.objs.size+1)) { s with heap:=sortedAll s.heap vs (List.toArray out) }) :
  wpAny (model prog w) A (call (.builtin "sorted") [.ref l]) Q E s:=by
 have er':PySem.W.EachIs (fun v b=>∃as,Reads (PySem.W.sortingHeap (PySem.W.copyHeap s.heap vs) (s.heap.objs.size+1) vs) v (enc b) as) vs bs:=er.mono fun _ _ ⟨as,r⟩=>⟨as,PyProof.Rows.Reads.keeps (fun _ _=>PySem.W.sorting_copy_old) r⟩
 have hL':vs.length<=sizeLine:=by rw[e.length];exact hL
 have S:=PySem.W.SortsAt.data (prog:=prog) (w:=w) (A:=A.in1.in1) (s:={ s with heap:=PySem.W.sortingHeap (PySem.W.copyHeap s.heap vs) (s.heap.objs.size+1) vs }) (PySem.W.each_map (R:=fun v d=>∃as,Reads (PySem.W.sortingHeap (PySem.W.copyHeap s.heap vs) (s.heap.objs.size+1) vs) v d as) enc er') hal hk (PySem.W.bound_map hu)
 have fin:=h _ (by rw[PySem.W.sortVals_length false rfl];exact e.length) (PySem.W.sortVals_data false e er' hal)
 refine call_function_entry_kw kind_sorted plain_sorted entry_sorted (args_sorted1 _) ?_
 unfold Builtin.«sorted»
 refine wpAny_bind (m:=checkCount "sorted" 1 1 _) (wpAny_pure ?_)
 refine wpAny_bind (Y6 hl ?_ hL')
 refine wpAny_bind (wpAny_newList ?_ hL')
 have hsz:((s.heap.push (seqObj "list" #[] 0)).update s.heap.objs.size (Obj.mapSeq (·++vs.toArray))).objs.size=s.heap.objs.size+1:=by
  rw[Heap.size_update,size_push']
 show wpAny _ _ _ _ _ { s with heap:=PySem.W.copyHeap s.heap vs }
 rw[hsz]
 refine wpAny_bind (wpAny_holding (wpAny_call_entry_kw slot_list_sort ⟨_,PySem.W.copyHeap_at s.heap vs,rfl⟩ entry_list_sort ?body (args_list_sort _)))
 case body=>
  show wpAny (model prog w) A.in1.in1 (Builtin.«list.sort» ⟨[.ref (s.heap.objs.size+1)],[]⟩) _ _ _
  exact PySem.W.list_sort_vals (s:={ s with heap:=PySem.W.copyHeap s.heap vs }) (PySem.W.copyHeap_at s.heap vs) S hL' ⟨_,rfl,wpAny_pure ⟨_,rfl,fin⟩⟩
end
@[irreducible]def Eh (K:arJ):List V->Hp->VK->Prop:=fun vs H Q=>∃(a:Addr) (xs:List V) (ds:List PyData),vs=[V.ref a]/\SqT K H a xs/\DpAll K H xs ds/\PySem.W.AllAlike ds/\PySem.W.Sortable ds/\(∀d∈ds,d.depth<=60)/\
 ∀(ys:List V) (p:Addr),eZ (acQ xs ds) ys (ds.mergeSort (PySem.W.dataLe false id))->H p=none->Q (.ref p) (upd H p (.lst ys))
theorem aaE{X:Cx}(hu:X.A.units+65 < cLine):CallR X (.builtin "sorted") (Eh X.K):=by
 intro pins s σ H vs us Q I r h
 unfold Eh at h
 obtain⟨a,xs,ds,rfl,hs,hd,hal,hk,hz,q⟩:=h
 obtain⟨u,rfl,ru⟩:=vals1 r
 obtain rfl:u=Value.ref a:=ru
 obtain⟨its,rv,hl,hsz⟩:=I.tuple hs
 obtain⟨as,hr⟩:=Dp.readsAll I ds xs its hd rv
 have er:PySem.W.EachIs (fun v d=>∃as,Reads s.heap v (id d) as) its ds:=PySem.W.readsAll_each id (by rw[List.map_id];exact hr)
 have hn:=SeqAt.ReadsAll.length ds its as hr
 have hl2:=rv.length
 refine aa1 (enc:=id) hl (Pa xs ds its _ rv er) er (by rw[List.map_id];exact hal) (by rw[List.map_id];exact hk) (by omega) (fun d m=>?_) fun out hlen hout=>?_
 ·have:=hz d m
  show X.A.units+2+d.depth < cLine
  omega
 ·obtain⟨ys,v1,v2⟩:=K8 out _ hout
  obtain⟨ep,he'⟩:=PyProof.Rows.sortedAll_at s.heap its out.toArray
  have hy:ys.length=ds.length:=by
   rw[v2.1,List.length_mergeSort]
  refine⟨.ref _,upd H (s.heap.objs.size+1) (.lst ys),I.laid (t':=s.toks) (fun _ _=>PyProof.Rows.sortedAll_old) (Nat.le_succ _) ⟨by omega,out,ep,v1,by simpa using he'⟩,rfl,q ys _ v2 (I.hok.fresh (Nat.le_succ _))⟩
def VG(K:arJ):List V->Hp->VK->Prop:=fun vs H Q=>Ih K vs H Q∨Eh K vs H Q
theorem aaS{X:Cx}(hu:X.A.units+65 < cLine):CallR X (.builtin "sorted") (VG X.K):=fun pins s σ H xs us Q I r h=>h.elim (fun h=>acL hu pins s σ H xs us Q I r h) fun h=>aaE hu pins s σ H xs us Q I r h
end Ear
namespace Rf
open PySem PySem.Spec PyProof.Rows L2 Evl
def ab6:Dat->Option Ear.Rw
 |.tuple [.int o,.tuple ds]=>(intsOf ds).map fun l=>(o,l)
 |_=>none
def BZ:List Dat->Option (List Ear.Rw)
 |[]=>some []
 |d::ds=>(ab6 d).bind fun r=>(BZ ds).bind fun rs=>some (r::rs)
theorem DP:∀{ds:List Dat} {l:List Int},intsOf ds=some l->ds=l.map PyData.int
 |[],l,h=>by cases h;rfl
 |.int i::ds,l,h=>by
  rw[intsOf,asM]at h
  obtain⟨r,h1,rfl⟩:=h
  rw[DP h1]
  rfl
 |.none::_,_,h=>by cases h
 |.bool _::_,_,h=>by cases h
 |.str _::_,_,h=>by cases h
 |.list _::_,_,h=>by cases h
 |.tuple _::_,_,h=>by cases h
 |.dict _::_,_,h=>by cases h
theorem ah8{d:Dat}{r:Ear.Rw}(h:ab6 d=some r):d=Ear.rD r:=by
 unfold ab6 at h
 split at h
 ·next o ds=>
  rw[asM]at h
  obtain⟨l,h1,rfl⟩:=h
  rw[DP h1]
  rfl
 ·cases h
theorem Qu:∀{ds:List Dat} {rs:List Ear.Rw},BZ ds=some rs->ds=rs.map Ear.rD
 |[],_,h=>by cases h;rfl
 |d::ds,_,h=>by
  rw[BZ]at h
  obtain⟨r,h1,h⟩:=arI.mp h
  obtain⟨rs,h2,h⟩:=arI.mp h
  cases h
  rw[ah8 h1,Qu h2]
  rfl
def oZ(R:List Ear.Rw):List Ear.Rw:=R.mergeSort fun a b=>decide (Ear.rk a<=Ear.rk b)
def sortI(l:List Int):List Int:=l.mergeSort fun a b=>decide (a<=b)
def bM(R:List Ear.Rw):List Ear.Rw:=oZ R.eraseDups
def agE(l:List Int):List Int:=sortI l.eraseDups
theorem Qh:∀(n:Nat) (l:List Int),mK n (l.map PyData.int)=true:=fun n l=>by
 induction l with
 |nil=>rfl
 |cons i l ih=>simp[mK,okd,ih]
theorem Mw(n:Nat)(r:Ear.Rw):okd (n+2) (Ear.rD r)=true:=by
 unfold Ear.rD Ear.dT
 simp[okd,mK,Qh]
theorem aa4(n:Nat)(R:List Ear.Rw):mK (n+2) (R.map Ear.rD)=true:=by
 induction R with
 |nil=>rfl
 |cons r R ih=>simp[mK,Mw,ih]
def vN:Dat->Out Dat
 |.list ds=>match intsOf ds with
  |some l=>.ok (.list ((sortI l).map PyData.int))
  |none=>match BZ ds with
   |some R=>.ok (.list ((oZ R).map Ear.rD))
   |none=>.bad
 |.tuple ds=>match intsOf ds with
  |some l=>.ok (.list ((sortI l).map PyData.int))
  |none=>.bad
 |_=>.bad
def Tn:Dat->Out Dat
 |.list ds=>match BZ ds with
  |some R=>match decide (R.eraseDups.length<=76) with
   |true=>.ok (.list ((bM R).map Ear.rD))
   |false=>.bad
  |none=>.bad
 |_=>.bad
theorem Ky{β:Type}{enc:β->Dat}{le:β->β->Bool}(h:∀a b,PySem.W.dataLe false id (enc a) (enc b)=le a b)(l:List β):(l.map enc).mergeSort (PySem.W.dataLe false id)=(l.mergeSort le).map enc:=by
 rw[List.map_mergeSort (r:=le) (s:=PySem.W.dataLe false id) (fun a _ b _=>(h a b).symm)]
theorem Bq{α:Type}[BEq α][LawfulBEq α]{l:List α}{x:α}:x∈l.eraseDups↔x∈l:=by
 induction hn:l.length using Nat.strongRecOn generalizing l with
 |_ n ih=>
  cases l with
  |nil=>simp
  |cons a r=>
   rw[as6]
   simp only[arU]at hn
   have hl:(r.filter fun b=>!b==a).length<=r.length:=ar0 _ _
   rw[arZ,ih _ (by omega) rfl,ar9,arZ]
   constructor
   ·rintro(h|h)
    ·exact .inl h
    ·exact .inr h.1
   ·rintro(h|h)
    ·exact .inl h
    ·by_cases e:x=a
     ·exact .inl e
     ·exact .inr ⟨h,by simpa using e⟩
theorem RG{α:Type}[BEq α][LawfulBEq α]{l:List α}:l.eraseDups.Nodup:=by
 induction hn:l.length using Nat.strongRecOn generalizing l with
 |_ n ih=>
  cases l with
  |nil=>simp
  |cons a r=>
   rw[as6]
   simp only[arU]at hn
   have hl:(r.filter fun b=>!b==a).length<=r.length:=ar0 _ _
   refine asQ.mpr ⟨fun h=>?_,ih _ (by omega) rfl⟩
   rw[Bq,ar9]at h
   simpa using h.2
theorem eO{R:List Ear.Rw}{r:Ear.Rw}:r∈bM R↔r∈R:=by
 unfold bM oZ
 rw[List.mem_mergeSort,Bq]
theorem Dr(R:List Ear.Rw):Ear.Hw (bM R):=by
 unfold Ear.Hw bM oZ
 have srt:=as7 (le:=fun a b:Ear.Rw=>decide (Ear.rk a<=Ear.rk b)) (fun a b c k1 k2=>by rw[decide_eq_true_eq]at *;exact List.le_trans k1 k2) (fun a b=>by rw[as9,decide_eq_true_eq,decide_eq_true_eq];exact List.le_total _ _) R.eraseDups
 have nd:(R.eraseDups.mergeSort fun a b=>decide (Ear.rk a<=Ear.rk b)).Nodup:=(List.mergeSort_perm _ _).nodup_iff.mpr RG
 refine List.Pairwise.imp₂ (fun a b h1 h2=>?_) srt nd
 rw[decide_eq_true_eq]at h1
 by_cases c:Ear.rk a < Ear.rk b
 ·exact c
 ·exact absurd (Ear.Zt (List.le_antisymm h1 (List.not_lt.mp c))) h2
section
variable{K:arJ}{g:Gh}{H:Hp}
theorem Jp{xs:List V}{ds:List Dat}(h:aJ K g H xs ds):∀{ys:List V} {es:List Dat},Ear.eZ (Ear.acQ xs ds) ys es->aJ K g H ys es
 |[],[],_=>.nil
 |[],_::_,z=>nomatch z.1
 |_::_,[],z=>nomatch z.1
 |y::ys,e::es,z=>by
  obtain⟨i,h1,h2⟩:=z.2 0 y e rfl rfl
  obtain⟨d,h3,h4⟩:=h.get' h1
  rw[h2]at h3
  cases h3
  exact .cons h4 (Jp h ⟨asK z.1,fun i v x a b=>z.2 (i+1) v x a b⟩)
end
section
variable{X:Cx}{aj:aQ}{W:WX}{a:Expr}{fa:QF}{p p2 pos pos2:Pos}
theorem ahe:J5 aj X.K W vN (Ear.VG X.K):=fun σ g H x d Q k rx h=>by
 unfold vN at h
 split at h
 ·next ds=>
  obtain⟨l,us,rfl,h1,h2⟩:=jk rx
  refine .inl ?_
  unfold Ear.Ih
  split at h
  ·next ns hn=>
   have e:=DP hn
   subst e
   refine⟨l,us,ns.map PyData.int,rfl,h1,h2.dp (n:=12) (Qh 12 ns),atg (fun a b=>by simp[PySem.W.alike]),PySem.W.Sortable.others (fun b=>⟨(fun z=>nomatch z),fun xs z=>nomatch z⟩),fun d hd=>by
    obtain⟨i,_,rfl⟩:=arV.mp hd
    simp[PyData.depth],fun ys q hy nq=>?_⟩
   have hs:=Ky (enc:=PyData.int) (le:=fun a b:Int=>decide (a<=b)) (fun a b=>congrFun (congrFun (PySem.W.dataLe_int (fun k:Int=>k)) a) b) ns
   rw[hs]at hy
   exact h (.ref q) _ (Ex.new nq) (.lst (.inl ⟨.inl upd_same,k.fresh nq⟩) ((Jp h2 hy).ex (Ex.new nq) k))
  ·split at h
   ·next R hR=>
    have e:=Qu hR
    subst e
    refine⟨l,us,R.map Ear.rD,rfl,h1,h2.dp (n:=12) (aa4 10 R),atg Ear.WT,PySem.W.Sortable.tuples (fun b=>⟨_,_,rfl⟩),fun d hd=>by
     obtain⟨i,_,rfl⟩:=arV.mp hd
     rw[(Ear.ado i).2]
     decide,fun ys q hy nq=>?_⟩
    ·have hs:=Ky (enc:=Ear.rD) (le:=fun a b:Ear.Rw=>decide (Ear.rk a<=Ear.rk b)) (fun a b=>by rw[←Ear.Lj];rfl) R
     rw[hs]at hy
     exact h (.ref q) _ (Ex.new nq) (.lst (.inl ⟨.inl upd_same,k.fresh nq⟩) ((Jp h2 hy).ex (Ex.new nq) k))
   ·exact False.elim h
 ·next ds=>
  obtain⟨l,us,rfl,h1,h2⟩:=kE rx
  refine .inr ?_
  unfold Ear.Eh
  split at h
  ·next ns hn=>
   have e:=DP hn
   subst e
   refine⟨l,us,ns.map PyData.int,rfl,h1,h2.dp (n:=12) (Qh 12 ns),atg (fun a b=>by simp[PySem.W.alike]),PySem.W.Sortable.others (fun b=>⟨(fun z=>nomatch z),fun xs z=>nomatch z⟩),fun d hd=>by
    obtain⟨i,_,rfl⟩:=arV.mp hd
    simp[PyData.depth],fun ys q hy nq=>?_⟩
   have hs:=Ky (enc:=PyData.int) (le:=fun a b:Int=>decide (a<=b)) (fun a b=>congrFun (congrFun (PySem.W.dataLe_int (fun k:Int=>k)) a) b) ns
   rw[hs]at hy
   exact h (.ref q) _ (Ex.new nq) (.lst (.inl ⟨.inl upd_same,k.fresh nq⟩) ((Jp h2 hy).ex (Ex.new nq) k))
  ·exact False.elim h
 ·exact False.elim h
theorem ah7(hu:X.A.units+65 < cLine)(hg:Gl X "sorted")(hm:X.mg "sorted"=none)(ha:QW aj X W a fa)(hs:nst a=true):QE aj X W (.Call (.Name "sorted" p) [a] [] pos) (eE vN fa):=
 agv (.inl rfl) (Ear.aaS hu) ahe hg hm ⟨by decide +kernel,by decide,by decide⟩ ha hs
theorem aa2{K:arJ}{g:Gh}{H:Hp}:∀{vs:List V} {l:List Int},DpAll K H vs (l.map PyData.int)->aJ K g H vs (l.map PyData.int)
 |_,[],.nil=>.nil
 |_,_::_,.cons (.int i) t=>.cons (.int i) (aa2 t)
theorem ae0{K:arJ}{g:Gh}{H:Hp}{v:V}{r:Ear.Rw}(h:Ear.xH K H v r):Rep K g H v (Ear.rD r):=by
 unfold Ear.xH Ear.rD at h
 cases h with
 |tup h1 t1=>
  cases t1 with
  |cons a1 t1=>
   cases a1
   cases t1 with
   |cons a2 t2=>
    cases t2
    cases a2 with
    |tup h2 t3=>exact .tup h1 (.cons (.int _) (.cons (.tup h2 (aa2 t3)) .nil))
theorem VF{K:arJ}{g:Gh}{H:Hp}:∀{vs:List V} {R:List Ear.Rw},aJ K g H vs (R.map Ear.rD)->Ear.eZ (Ear.xH K H) vs R
 |_,[],.nil=>⟨rfl,fun i v x a b=>by simp at a⟩
 |_,r::R,.cons h t=>by
  have ih:=VF t
  refine⟨congrArg (· + 1) ih.1,fun i v x a b=>?_⟩
  cases i with
  |zero=>
   simp at a b
   subst a b
   exact h.dp (n:=12) (Mw 10 _)
  |succ i=>exact ih.2 i v x (by simpa using a) (by simpa using b)
theorem Wz{K:arJ}{g:Gh}{H:Hp}:∀{vs:List V} {R:List Ear.Rw},Ear.eZ (Ear.xH K H) vs R->aJ K g H vs (R.map Ear.rD)
 |[],[],_=>.nil
 |[],_::_,h=>nomatch h.1
 |_::_,[],h=>nomatch h.1
 |v::vs,r::R,h=>.cons (ae0 (h.2 0 v r rfl rfl)) (Wz ⟨asK h.1,fun i v x a b=>h.2 (i+1) v x a b⟩)
theorem ahK(hu:X.A.units+65 < cLine)(hc:X.calm=true)(hg:Gl X "sorted")(hm:X.mg "sorted"=none)(hg2:Gl X "set")(hm2:X.mg "set"=none)(ha:QW aj X W a fa)(hs:nst a=true):QE aj X W (.Call (.Name "sorted" p) [.Call (.Name "set" p2) [a] [] pos2] [] pos) (eE Tn fa):=by
 have h0:=pa_cons ha pa_nil (cP hs [])
 have h1:PE X (.Call (.Name "set" p2) [a] [] pos2) _:=pe_callTy (Ear.aaU hu hc) hg2 hm2 (by decide +kernel) h0 (by decide) (by decide) (cP hs []) (by with_unfolding_all rfl)
 have h2:=pa_cons h1 pa_nil (cP rfl [])
 refine PE.weak (pe_callB (p:=p) (pos:=pos) (Ear.acw hu hc) hg hm (by decide +kernel) h2 (by decide) (by decide) (cP rfl []) (by with_unfolding_all rfl)) fun σ H Q ⟨g,ρ,M,I,h⟩=>?_
 refine tW.go I h.bnd fun d v H1 h1 e1 r1=>?_
 have I1:=I.ex e1
 unfold Tn at h1
 split at h1
 ·next ds=>
  split at h1
  ·next R hR=>
   split at h1
   ·next hd=>
    have e:=Qu hR
    subst e
    obtain⟨l,us,rfl,s1,s2⟩:=jk r1
    unfold Ear.Kv
    refine⟨l,us,R,R.eraseDups,rfl,s1,VF s2,of_decide_eq_true hd,fun r hr=>Bq.mpr hr,fun q L nq hL nd mem few=>?_⟩
    have eq:Ex H1 (upd H1 q (Ear.Nm X.w q L)):=Ex.new nq
    unfold Ear.Qs
    refine⟨q,L,rfl,upd_same,fun e he=>?_,nd,few,fun ys S z hy up ms nz=>?_⟩
    ·exact(Rep.ex eq I1.kd (ae0 (g:=g) (hL e he))).dp (n:=12) (Mw 10 _)
    ·have hS:S=bM R:=Ear.adM up (Dr R) fun r=>by rw[ms,mem,eO]
     subst hS
     have I2:=I1.ex eq
     exact h1 (.ref z) _ ((e1.trans eq).trans (Ex.new nz)) (.lst (.inl ⟨.inl upd_same,I2.kd.fresh nz⟩) ((Wz hy).ex (Ex.new nz) I2.kd))
   ·exact False.elim h1
  ·exact False.elim h1
 ·exact False.elim h1
def ahc(it:IF)(tg:fU)(vs:List Nat)(tt:QT)(te:QF):QF:=fun M ρ=>(zY it tg vs tt te M ρ).bind fun ds=>match intsOf ds with
 |some l=>Out.when (decide (l.length<=4000)) (.ok (.list ((agE l).map PyData.int)))
 |none=>.bad
end
def zG(ρ:Env):Bool:=ρ.all fun o=>match o with
 |some (.mut _)=>false
 |_=>true
theorem Zo{ρ:Env}(h:zG ρ=true){i:Nat}{xs:List Dat}:ρ[i]?≠some (some (.mut xs)):=fun z=>by
 have:=ar7.mp h _ (arR z)
 cases this
theorem SInv.loc{K:arJ}{aj:aQ}{σ:L2.St}{H:Hp}{g:Gh}{ρ:Env}{M:Mo}{D:Addr}{us us':List V}(I:SInv K aj σ H g ρ M)(n:zG ρ=true)(hD:H D=some (.lst us))(lo:g.Lo D):SInv K aj σ (upd H D (.lst us')) g ρ M where
 kd:=I.kd.upd trivial
 wok:=I.wok.loc I.kd hD lo
 len:=I.len
 dat:=fun i d h=>by
  obtain⟨v,h1,h2⟩:=I.dat i d h
  exact⟨v,h1,ag6 I.kd hD lo h2⟩
 own:=fun i xs h=>absurd h (Zo n)
 sep:=fun i j xs ys l ne h1=>absurd h1 (Zo n)
def gW(tg:fU)(tt:QT)(it1:IF)(tg1:fU)(vs1:List Nat)(tt1:QT)(te:QF)(M:Mo)(ρ:Env):List Dat->Out (List Dat)
 |[]=>.ok []
 |d::ds=>match tg d ρ with
  |none=>.bad
  |some ρ1=>(yh (tt M ρ1)).bind fun b=>if b=true then Out.when (zG ρ1) ((yh (it1 M ρ1)).bind fun es=>(dD tg1 tt1 te M (bZ ρ1 vs1) es).bind fun r1=>(gW tg tt it1 tg1 vs1 tt1 te M ρ ds).bind fun r=>.ok (r1++r)) else gW tg tt it1 tg1 vs1 tt1 te M ρ ds
def abP(it:IF)(tg:fU)(vs:List Nat)(tt:QT)(it1:IF)(tg1:fU)(vs1:List Nat)(tt1:QT)(te:QF):IF:=fun M ρ=>(it M ρ).bind fun ds=>(gW tg tt it1 tg1 vs1 tt1 te M (bZ ρ vs) ds).bind fun r=>Out.when (decide (r.length<=50000)) (.ok r)
def Df(it:IF)(tg:fU)(vs:List Nat)(tt:QT)(it1:IF)(tg1:fU)(vs1:List Nat)(tt1:QT)(te:QF):QF:=fun M ρ=>(abP it tg vs tt it1 tg1 vs1 tt1 te M ρ).bind fun r=>.ok (.list r)
theorem wD{tg tg1:fU}{tt tt1:QT}{te:QF}{it1:IF}{vs1:List Nat}{M:Mo}{ρ:Env}:∀{ds:List Dat} {x:dB},gW tg tt it1 tg1 vs1 tt1 te M ρ ds≠.exc x
 |[],_,h=>nomatch h
 |d::ds,x,h=>by
  rw[gW]at h
  split at h
  ·cases h
  ·next ρ1 e=>
   cases h1:tt M ρ1 with
   |bad=>rw[h1]at h;cases h
   |exc y=>rw[h1]at h;cases h
   |ok b=>
    rw[h1]at h
    cases b with
    |false=>exact wD (ds:=ds) (x:=x) h
    |true=>
     cases hn:zG ρ1 with
     |false=>rw[hn]at h;cases h
     |true=>
      rw[hn]at h
      cases h2:it1 M ρ1 with
      |bad=>rw[h2]at h;cases h
      |exc y=>rw[h2]at h;cases h
      |ok es=>
       rw[h2]at h
       have h:((dD tg1 tt1 te M (bZ ρ1 vs1) es).bind fun r1=>(gW tg tt it1 tg1 vs1 tt1 te M ρ ds).bind fun r=>Out.ok (r1++r))=.exc x:=h
       cases h3:dD tg1 tt1 te M (bZ ρ1 vs1) es with
       |bad=>rw[h3]at h;cases h
       |exc y=>exact absurd h3 qZ
       |ok r1=>
        rw[h3]at h
        have h:((gW tg tt it1 tg1 vs1 tt1 te M ρ ds).bind fun r=>Out.ok (r1++r))=.exc x:=h
        cases h4:gW tg tt it1 tg1 vs1 tt1 te M ρ ds with
        |bad=>rw[h4]at h;cases h
        |exc y=>exact absurd h4 wD
        |ok r=>rw[h4]at h;cases h
section
variable{K:arJ}{aj:aQ}{W:WX}
theorem aiw{it it1:IF}{tg tg1:fU}{js vs js1 vs1:List Nat}{tt tt1:QT}{te:QF}(hj:∀j∈js,j∈vs)(hj1:∀j∈js1,j∈vs1)(σ:L2.St)(H:Hp)(Q:VK)(h:tFr K aj W (abP it tg vs tt it1 tg1 vs1 tt1 te) σ H Q) :
  tLc2 (tI K aj W false it) (zW K aj js tg) (kh K aj WF tt) (tI K aj WF true it1) (zW K aj js1 tg1) (kh K aj WF tt1) (tQ K aj WF te) vs vs1 σ H Q:=by
 obtain⟨g,ρ,M,I,h⟩:=h
 refine⟨g,ρ,M,I,h.bnd.mono (fun ds hk J C H1 e1 w c _ D nD=>?_) fun _ z=>z⟩
 obtain⟨total,htot,hlen,hQ⟩:∃total,gW tg tt it1 tg1 vs1 tt1 te M (bZ ρ vs) ds=.ok total/\total.length<=50000/\∀l us H',H l=none->Ex H H'->H' l=some (.lst us)->aJ K (g.add l) H' us total->Q (.ref l) H':=by
  cases hc:gW tg tt it1 tg1 vs1 tt1 te M (bZ ρ vs) ds with
  |bad=>rw[hc]at hk;exact False.elim hk
  |exc x=>exact absurd hc wD
  |ok total=>
   rw[hc]at hk
   obtain⟨hz,hk⟩:=Out.sat.pY hk
   exact⟨total,rfl,of_decide_eq_true hz,hk⟩
 have I1:=(I.ex e1).wipe vs
 have kD:∀{Ha:Hp} {us:List V},Ex H1 Ha->Ha D=some (.lst us)->SInv K aj (L2.wipe σ vs) Ha (g.add D) (bZ ρ vs) M:=fun ea hu=>I1.add nD ea hu trivial
 have lD:(g.add D).Lo D:=.inr rfl
 let Pv:Nat->Hp->Prop:=fun i Ha=>Ex H1 Ha/\i<=ds.length/\∃us ys,Ha D=some (.lst us)/\aJ K (g.add D) Ha us ys/\(gW tg tt it1 tg1 vs1 tt1 te M (bZ ρ vs) (ds.drop i)).sat (fun r=>total=ys++r) fun _=>False
 refine⟨fun i m Ha=>m=ds.length - i/\Pv i Ha,⟨ds.length,rfl,Ex.new nD,asx _,[],[],upd_same,.nil,?_⟩,?_⟩
 ·rw[ath,htot]
  rfl
 ·rintro i m Ha ⟨rfl,ea,hi,us,ys,hu,hU,hs⟩
  have Ia:=kD ea hu
  have Ca:=w.add g (g.add D) H1 Ha (I.kd.ex e1) c (Gh.Hq nD ea) ea
  by_cases hlt:i < ds.length
  ·refine .inr ⟨w.go _ i Ha Ca hlt,Pv (i+1),fun H' p=>⟨ds.length - (i+1),by omega,rfl,p⟩,fun x H' y=>?_⟩
   have hd:ds[i]?=some ds[i]:=arM hlt
   obtain⟨e2,rx⟩:=w.yld _ i Ha x H' _ Ia.kd Ca hd y
   have I2:=Ia.ex e2
   rw[asN hlt,gW]at hs
   split at hs
   ·exact False.elim hs
   ·next ρ1 he=>
    refine⟨g.add D,_,M,_,ρ1,I2,rx,he,fun ws I3=>⟨zP js ws _ vs hj |>.trans (DQ σ vs),?_⟩⟩
    refine kh.go I3 (Cq hs.bnd) fun b H3 hb e3=>?_
    have I4:=I3.ex e3
    have hu3:=e3 _ _ (e2 _ _ hu)
    have hU3:=(hU.ex e2 Ia.kd).ex e3 I2.kd
    cases b with
    |false=>
     have hb:(gW tg tt it1 tg1 vs1 tt1 te M (bZ ρ vs) (ds.drop (i+1))).sat (fun r=>total=ys++r) fun _=>False:=hb
     exact⟨(ea.trans e2).trans e3,hlt,us,ys,hu3,hU3,hb⟩
    |true=>
     have hb:(Out.when (zG ρ1) ((yh (it1 M ρ1)).bind fun es=>(dD tg1 tt1 te M (bZ ρ1 vs1) es).bind fun r1=>(gW tg tt it1 tg1 vs1 tt1 te M (bZ ρ vs) (ds.drop (i+1))).bind fun r=>Out.ok (r1++r))).sat (fun r=>total=ys++r) fun _=>False:=hb
     obtain⟨nm,hb⟩:=hb.pY
     refine⟨g.add D,ρ1,M,I4,(Cq (E':=qO K aj WF (g.add D) H3 _) hb.bnd).mono (fun es hk1 J1 C1 H4 e4 w1 c1 fm=>?_) fun _ z=>z⟩
     have fm:=fm rfl
     -- all that is added by this walk
     obtain⟨r1,r2,hr1,hr2,ht⟩:∃r1 r2,dD tg1 tt1 te M (bZ ρ1 vs1) es=.ok r1/\gW tg tt it1 tg1 vs1 tt1 te M (bZ ρ vs) (ds.drop (i+1))=.ok r2/\total=ys++(r1++r2):=by
      cases q1:dD tg1 tt1 te M (bZ ρ1 vs1) es with
      |bad=>rw[q1]at hk1;exact False.elim hk1
      |exc y=>exact absurd q1 qZ
      |ok r1=>
       rw[q1]at hk1
       have hk1:((gW tg tt it1 tg1 vs1 tt1 te M (bZ ρ vs) (ds.drop (i+1))).bind fun r=>Out.ok (r1++r)).sat (fun r=>total=ys++r) fun _=>False:=hk1
       cases q2:gW tg tt it1 tg1 vs1 tt1 te M (bZ ρ vs) (ds.drop (i+1)) with
       |bad=>rw[q2]at hk1;exact False.elim hk1
       |exc y=>exact absurd q2 wD
       |ok r2=>
        rw[q2]at hk1
        exact⟨r1,r2,rfl,rfl,hk1⟩
     let P1:Nat->Hp->Prop:=fun j Hb=>Ex H1 Hb/\SInv K aj (sets (L2.wipe σ vs) js ws) Hb (g.add D) ρ1 M/\C1 (g.add D) Hb/\j<=es.length/\∃us' zs,Hb D=some (.lst us')/\aJ K (g.add D) Hb us' (ys++zs)/\(dD tg1 tt1 te M (bZ ρ1 vs1) (es.drop j)).sat (fun r=>r1=zs++r) fun _=>False
     refine⟨fun j m Hb=>m=es.length - j/\P1 j Hb,⟨es.length,rfl,((ea.trans e2).trans e3).trans e4,I4.ex e4,c1,asx _,us,[],e4 _ _ hu3,by rw[asI];exact hU3.ex e4 I4.kd,?_⟩,?_⟩
     ·rw[ath,hr1]
      rfl
     ·rintro j m Hb ⟨rfl,fb,Ib,Cb,hjl,us',zs,hub,hUb,hsb⟩
      by_cases hlj:j < es.length
      ·refine .inr ⟨w1.go _ j Hb Cb hlj,P1 (j+1),fun H' p=>⟨es.length - (j+1),by omega,rfl,p⟩,fun x H' y=>?_⟩
       have hdj:es[j]?=some es[j]:=arM hlj
       obtain⟨f2,rx⟩:=w1.yld _ j Hb x H' _ Ib.kd Cb hdj y
       have J2:=(Ib.ex f2).wipe vs1
       rw[asN hlj,dD]at hsb
       split at hsb
       ·exact False.elim hsb
       ·next ρ2 he1=>
        refine⟨g.add D,_,M,_,ρ2,J2,rx,he1,fun ws1 J3=>⟨zP js1 ws1 _ vs1 hj1 |>.trans (DQ _ vs1),?_⟩⟩
        refine kh.go J3 (Cq hsb.bnd) fun b H6 hb6 e6=>?_
        have f26:=f2.trans e6
        have hu6:=f26 _ _ hub
        have hU6:=hUb.ex f26 Ib.kd
        cases b with
        |false=>
         have hb6:(dD tg1 tt1 te M (bZ ρ1 vs1) (es.drop (j+1))).sat (fun r=>r1=zs++r) fun _=>False:=hb6
         exact⟨fb.trans f26,Ib.ex f26,w1.ex _ _ _ Ib.kd Cb f26,hlj,us',zs,hu6,hU6,hb6⟩
        |true=>
         have hb6:((yh (te M ρ2)).bind fun y=>(dD tg1 tt1 te M (bZ ρ1 vs1) (es.drop (j+1))).bind fun r=>Out.ok (y::r)).sat (fun r=>r1=zs++r) fun _=>False:=hb6
         refine tQ.go (J3.ex e6) (Cq hb6.bnd) fun y v H7 hyv e7 ry=>?_
         have f27:=f26.trans e7
         have Ib7:=Ib.ex f27
         have hu7:=f27 _ _ hub
         have hU7:=hUb.ex f27 Ib.kd
         have hyv:=hyv.bnd
         have hr:∃r,dD tg1 tt1 te M (bZ ρ1 vs1) (es.drop (j+1))=.ok r/\r1=zs++y::r:=by
          cases q1:dD tg1 tt1 te M (bZ ρ1 vs1) (es.drop (j+1)) with
          |bad=>rw[q1]at hyv;exact False.elim hyv
          |exc y=>exact absurd q1 qZ
          |ok r=>
           rw[q1]at hyv
           exact⟨r,rfl,hyv⟩
         obtain⟨r,hr,hr1'⟩:=hr
         have hll:us'.length < 50000:=by
          rw[hUb.length]
          rw[ht,hr1']at hlen
          simp at hlen ⊢
          omega
         refine⟨us',hu7,sz_lt (Nat.lt_trans hll (by decide)),Ex.mut (fb.trans f27) nD,Ib7.loc nm hu7 lD,fm true _ _ _ _ Ib7.kd (w1.ex _ _ _ Ib.kd Cb f27) (Gr.upd Ib7.kd hu7 (.inr lD)),hlj,us'++[v],zs++[y],upd_same,?_,?_⟩
         ·rw[←List.append_assoc]
          exact Yw Ib7.kd hu7 lD (hU7.append (.cons ry .nil))
         ·rw[hr]
          show r1=_
          rw[hr1']
          simp
      ·have e:j=es.length:=by omega
       refine .inl ⟨w1.stop _ j Hb Cb e,?_⟩
       rw[e,asT]at hsb
       have hsb:r1=zs++[]:=hsb
       rw[asI]at hsb
       subst hsb
       refine⟨fb,hlt,us',ys++r1,hub,hUb,?_⟩
       rw[hr2]
       show total=_
       rw[ht,List.append_assoc]
  ·have e:i=ds.length:=by omega
   refine .inl ⟨w.stop _ i Ha Ca e,?_⟩
   rw[e,asT]at hs
   have hs:total=ys++[]:=hs
   rw[asI]at hs
   subst hs
   exact hQ D us Ha (Dj e1 D nD) (e1.trans ea) hu hU
theorem adg{it it1:IF}{tg tg1:fU}{js vs js1 vs1:List Nat}{tt tt1:QT}{te:QF}(hj:∀j∈js,j∈vs)(hj1:∀j∈js1,j∈vs1)(σ:L2.St)(H:Hp)(Q:VK)(h:tQ K aj W (Df it tg vs tt it1 tg1 vs1 tt1 te) σ H Q) :
  tLc2 (tI K aj W false it) (zW K aj js tg) (kh K aj WF tt) (tI K aj WF true it1) (zW K aj js1 tg1) (kh K aj WF tt1) (tQ K aj WF te) vs vs1 σ H Q:=by
 obtain⟨g,ρ,M,I,h⟩:=h
 refine aiw hj hj1 σ H Q ⟨g,ρ,M,I,h.bnd.mono (fun xs hk l us H' nl e hl r=>?_) fun _ z=>z⟩
 refine hk (.ref l) H' e (.lst (.inl ⟨.inl hl,fun z=>?_⟩) (aJ.less (g:=g.add l) (g':=g) rfl (fun a z=>?_) r))
 ·exact I.kd.fresh nl z
 ·rcases z with z|z|z
  ·exact .inl z
  ·exact .inr (.inl z)
  ·exact .inr (.inr (.inl z))
end
section
variable{X:Cx}{aj:aQ}{W:WX}{q:Bool}{elt tg iter tg1 iter1:Expr}{ifs ifs1:List Expr}{scope:Scope}{own:List (Str×Nat)}{it it1:IF}{tgf tgf1:fU}{js js1 vs1:List Nat}{tt tt1:QT}{te:QF}{pos cpos:Pos}
theorem ala(hc:X.calm=true)(hN:X.N.Nodup)(hi:QI aj X W false tg iter it)(ok:blkC X.N X.env.scope scope own=true)(hv:∀i∈vs1,i∈own.map (·.2))(hj:∀j∈js,j∈own.map (·.2))(hj1:∀j∈js1,j∈vs1)
  (hg:∀(s:Shared) (H:Hp) (C:Addr) (cl:List (Str×Addr)) (fp:List Addr),QG aj (X.blk s H scope (compEnvC scope cl C X.env) fp) tg js tgf)
  (ht:∀(s:Shared) (H:Hp) (C:Addr) (cl:List (Str×Addr)) (fp:List Addr),PTs (X.blk s H scope (compEnvC scope cl C X.env) fp) ifs (kh X.K aj WF tt))
  (hi1:∀(s:Shared) (H:Hp) (C:Addr) (cl:List (Str×Addr)) (fp:List Addr),QI aj (X.blk s H scope (compEnvC scope cl C X.env) fp) WF true tg1 iter1 it1)
  (hg1:∀(s:Shared) (H:Hp) (C:Addr) (cl:List (Str×Addr)) (fp:List Addr),QG aj (X.blk s H scope (compEnvC scope cl C X.env) fp) tg1 js1 tgf1)
  (ht1:∀(s:Shared) (H:Hp) (C:Addr) (cl:List (Str×Addr)) (fp:List Addr),PTs (X.blk s H scope (compEnvC scope cl C X.env) fp) ifs1 (kh X.K aj WF tt1))
  (he:∀(s:Shared) (H:Hp) (C:Addr) (cl:List (Str×Addr)) (fp:List Addr),QE aj (X.blk s H scope (compEnvC scope cl C X.env) fp) WF elt te) (hs:∀x,foldedSetIterable iter X.env x=pure x) (hs1:∀env x,foldedSetIterable iter1 env x=pure x) :
  QE aj X W (.ListComp elt [⟨tg,iter,ifs,0⟩,⟨tg1,iter1,ifs1,0⟩] scope pos) (Df it tgf (own.map (·.2)) tt it1 tgf1 vs1 tt1 te):=
 PE.weak (pe_lc2 (g:=zW X.K aj js tgf) (tt:=kh X.K aj WF tt) (wi1:=tI X.K aj WF true it1) (g1:=zW X.K aj js1 tgf1) (tt1:=kh X.K aj WF tt1) (te:=tQ X.K aj WF te) hc hN hi (blkOk_by ok) hv (fun s H C cl fp=>hg s H C cl fp) ht (fun s H C cl fp=>hi1 s H C cl fp) (fun s H C cl fp=>hg1 s H C cl fp) ht1 (fun s H C cl fp=>he s H C cl fp) hs hs1) fun σ H Q h=>adg hj hj1 σ H Q h
theorem aiy{j:Nat}{y:Str}{py:Pos}(hc:X.calm=true)(hN:X.N.Nodup)(hy:X.N[j]?=some y)(hyl:X.env.scope.names.lookup y=some .local)(hsw:swapsWith (.ListComp elt [⟨tg,iter,ifs,0⟩,⟨tg1,iter1,ifs1,0⟩] scope cpos) (some (.Name y py)) pos.line X.env=pure true)
  (hi:QI aj X W false tg iter it) (ok:blkC X.N X.env.scope scope own=true) (hv:∀i∈vs1,i∈own.map (·.2)) (hj:∀j∈js,j∈own.map (·.2)) (hj1:∀j∈js1,j∈vs1)
  (hg:∀(s:Shared) (H:Hp) (C:Addr) (cl:List (Str×Addr)) (fp:List Addr),QG aj (X.blk s H scope (compEnvC scope cl C X.env) fp) tg js tgf)
  (ht:∀(s:Shared) (H:Hp) (C:Addr) (cl:List (Str×Addr)) (fp:List Addr),PTs (X.blk s H scope (compEnvC scope cl C X.env) fp) ifs (kh X.K aj WF tt))
  (hi1:∀(s:Shared) (H:Hp) (C:Addr) (cl:List (Str×Addr)) (fp:List Addr),QI aj (X.blk s H scope (compEnvC scope cl C X.env) fp) WF true tg1 iter1 it1)
  (hg1:∀(s:Shared) (H:Hp) (C:Addr) (cl:List (Str×Addr)) (fp:List Addr),QG aj (X.blk s H scope (compEnvC scope cl C X.env) fp) tg1 js1 tgf1)
  (ht1:∀(s:Shared) (H:Hp) (C:Addr) (cl:List (Str×Addr)) (fp:List Addr),PTs (X.blk s H scope (compEnvC scope cl C X.env) fp) ifs1 (kh X.K aj WF tt1))
  (he:∀(s:Shared) (H:Hp) (C:Addr) (cl:List (Str×Addr)) (fp:List Addr),QE aj (X.blk s H scope (compEnvC scope cl C X.env) fp) WF elt te) (hs:∀x,foldedSetIterable iter X.env x=pure x) (hs1:∀env x,foldedSetIterable iter1 env x=pure x) :
  SE aj X W q (.Assign [.Name y py] (.ListComp elt [⟨tg,iter,ifs,0⟩,⟨tg1,iter1,ifs1,0⟩] scope cpos) pos) (aX (aF j) (gOf (Df it tgf (own.map (·.2)) tt it1 tgf1 vs1 tt1 te))):=by
 refine PS.weak (ps_setLc2 (g:=zW X.K aj js tgf) (tt:=kh X.K aj WF tt) (wi1:=tI X.K aj WF true it1) (g1:=zW X.K aj js1 tgf1) (tt1:=kh X.K aj WF tt1) (te:=tQ X.K aj WF te) hc hN hy hyl hsw hi (blkOk_by ok) hv (fun s H C cl fp=>hg s H C cl fp) ht (fun s H C cl fp=>hi1 s H C cl fp) (fun s H C cl fp=>hg1 s H C cl fp) ht1 (fun s H C cl fp=>he s H C cl fp) hs hs1) fun D σ H ⟨g,ρ,M,I,z⟩=>?_
 refine adg hj hj1 σ H _ ⟨g,ρ,M,I,(Out.jf (dw (σ:=σ) z)).mono (fun d kk v H' e r=>?_) fun x kk H' c dd e r=>kk H' g c dd (Gr.ex e) (I.ex e) r⟩
 exact kk _ H' g (Gr.ex e) ((I.ex e).set r)
end
def UW(neg:Bool)(kvs:List (Str×Dat))(k:QF):QF:=fun M ρ=>(k M ρ).bind fun d=>match d with
 |.str x=>.ok (.bool (neg ^^ (kvs.lookup x).isSome))
 |_=>.bad
def acK(kvs:List (Str×Dat))(k:QF):QF:=fun M ρ=>(k M ρ).bind fun d=>match d with
 |.str x=>match kvs.lookup x with
  |some y=>.ok y
  |none=>.bad
 |_=>.bad
section
variable{X:Cx}{aj:aQ}{W:WX}{a:Expr}{fa:QF}{x:Str}{p pos:Pos}{kvs:List (Str×Dat)}{k:Nat}
theorem ae2{neg:Bool}{d:Addr}(D:acp X.w X.K d kvs)(σ:L2.St)(H:Hp)(Q:VK)(h:tQ X.K aj W (UW neg kvs fa) σ H Q) :
  tOp (fun x y H Q=>∃(z:Str) (r:Option Value),x=.str z/\y=.ref d/\PySem.W.nsIn X.K d z=some r/\Q (.bl (neg ^^ r.isSome)) H) (tW X.K aj W fa) (tC (.ref d)) σ H Q:=by
 obtain⟨g,ρ,M,I,h⟩:=h
 refine tW.go I h.bnd fun e v H1 h1 e1 r1=>?_
 split at h1
 ·next z=>
  cases jQ r1
  obtain⟨es,n,_,_,hl⟩:=D
  have hz:=hl z
  cases hk:kvs.lookup z with
  |none=>
   rw[hk]at hz h1
   exact⟨z,none,rfl,rfl,hz,h1 _ H1 e1 (.bl _)⟩
  |some d'=>
   rw[hk]at hz h1
   obtain⟨v,u,h2,_⟩:=hz
   exact⟨z,some u,rfl,rfl,h2,h1 _ H1 e1 (.bl _)⟩
 ·exact False.elim h1
theorem opG{neg:Bool}{op:CmpOp}{d:Addr}(hn:(op=.In/\neg=false)∨(op=.NotIn/\neg=true))(D:acp X.w X.K d kvs):OpR X (compareOp op) (fun x y H Q=>∃(z:Str) (r:Option Value),x=.str z/\y=.ref d/\PySem.W.nsIn X.K d z=some r/\Q (.bl (neg ^^ r.isSome)) H):=by
 obtain⟨es,n,D,_⟩:=D
 rcases hn with⟨rfl,rfl⟩|⟨rfl,rfl⟩
 ·have:=op_in_kd (X:=X) D
  simpa only[Bool.false_xor] using this
 ·have:=op_notIn_kd (X:=X) D
  simpa only[Bool.true_xor] using this
theorem ako{neg:Bool}{op:CmpOp}(hn:(op=.In/\neg=false)∨(op=.NotIn/\neg=true))(g:bf X.prog X.w X.K X.mg X.base aj k x (.dic kvs))(hg:Gl X x)(hd:(x==("__debug__" : Str))=false)(ha:QW aj X W a fa):QE aj X W (.Compare a [op] [.Name x p] pos) (UW neg kvs fa)/\rP aj X W (.Compare a [op] [.Name x p] pos) (bh (UW neg kvs fa)):=by
 obtain⟨d,hm,D⟩:=g
 have hb:PE X (.Name x p) (tC (.ref d)):=pe_glob hg hm rfl hd
 refine⟨PE.weak (pe_cmpR (opG hn D) ha hb (by cases op <;> rfl)) fun σ H Q h=>ae2 D σ H Q h,PT.weak (pt_cmpR (opG hn D) ha hb (by cases op <;> rfl)) fun σ H Q ⟨g,ρ,M,I,h⟩=>?_⟩
 refine ae2 D σ H _ ⟨g,ρ,M,I,h.bnd.mono (fun d h1 v H' e' r'=>?_) fun _ z=>z⟩
 obtain⟨k,h2,h3⟩:=Eo r'.weak h1
 exact⟨k,h2,h3 H' e'⟩
theorem ak5(g:bf X.prog X.w X.K X.mg X.base aj k x (.dic kvs))(hg:Gl X x)(hd:(x==("__debug__" : Str))=false)(ha:QW aj X W a fa)(hp:PlainIx a):QE aj X W (.Subscript (.Name x p) a pos) (acK kvs fa):=by
 obtain⟨d,hm,es,n,D,_,hl⟩:=g
 have hb:PE X (.Name x p) (tC (.ref d)):=pe_glob hg hm rfl hd
 refine PE.weak (pe_ix ix_kdict hb ha hp) fun σ H Q ⟨g,ρ,M,I,h⟩=>?_
 refine tW.go I h.bnd fun e v H1 h1 e1 r1=>?_
 split at h1
 ·next z=>
  cases jQ r1
  have hz:=hl z
  split at h1
  ·next y hk=>
   rw[hk]at hz
   obtain⟨v,u,h2,h3,h4⟩:=hz
   exact⟨d,z,v,rfl,rfl,⟨es,n,u,D.at_,D.lit,h2,h3⟩,h1 v H1 e1 (h4 g H1)⟩
  ·exact False.elim h1
 ·exact False.elim h1
end
structure Hs where
 Ms:List (Str×List (Str×MV))
 ft:Ft
 xm:List (Str×List (Str×Bool))
 df:List (Str×Bool)
 xf:List (Str×List Str)
structure Tv(P:Program)(w:World)(K:arJ)(mg:Str->Option Value)(base:Heap)(aj:aQ)(k:Nat)(h:Hs):Prop where
 ms:∀m tb,h.Ms.lookup m=some tb->∀c v,tb.lookup c=some v->bV P w K mg base aj k c m v
 fk:Mj h.ft aj
 co:jy K aj
 hw:aj.w=w
 xm:∀y tab,h.xm.lookup y=some tab->(∃D,aj y=some D)/\acY K aj y fun x=>tab.lookup x
 xf:∀y fs,h.xf.lookup y=some fs->∃C,aj y=some C/\XfC K C/\∀f∈fs,PySem.W.findIn K (.ref C) f=some none
structure Tc where
 N:List Str
 sc:Scope
 G:List (Str×GV)
 B:List Str
 hs:Hs
 ml:List Str
 top:Bool
structure Amb(aj:aQ)(c:Tc)(X:Cx)(W:WX)(k:Nat):Prop where
 hN:X.N=c.N
 hs:X.env.scope=c.sc
 calm:X.calm=true
 nd:X.N.Nodup
 tk:Takes X W
 rm:Room k X.A
 gl:∀x v,c.G.lookup x=some v->bf X.prog X.w X.K X.mg X.base aj k x v
 bl:∀x,x∈c.B->X.mg x=none
 fn:c.top=true->∀x,X.fn x=true
 hk:Tv X.prog X.w X.K X.mg X.base aj k c.hs
def gd{α:Type}(b:Bool)(o:Option α):Option α:=match b with
 |true=>o
 |false=>none
theorem aZ{α:Type}{b:Bool}{o:Option α}{x:α}:gd b o=some x↔b=true/\o=some x:=by
 cases b
 ·exact⟨fun h=>(nomatch h),fun h=>(nomatch h.1)⟩
 ·exact⟨fun h=>⟨rfl,h⟩,fun h=>h.2⟩
def idx:List Str->Str->Option Nat
 |[],_=>none
 |y::ys,x=>match y==x with
  |true=>some 0
  |false=>(idx ys x).map (· + 1)
theorem GJ:∀{N:List Str} {x:Str} {i:Nat},idx N x=some i->N[i]?=some x
 |[],_,_,h=>nomatch h
 |y::ys,x,i,h=>by
  rw[idx]at h
  split at h
  ·next e=>
   cases h
   rw[List.getElem?_cons_zero,eq_of_beq e]
  ·rw[asM]at h
   obtain⟨j,h1,rfl⟩:=h
   rw[List.getElem?_cons_succ]
   exact GJ h1
def agk(sc:Scope)(x:Str):Bool:=match sc.names.lookup x with
 |some .local=>true
 |some .cell=>true
 |some .free=>true
 |_=>false
theorem ahE{sc:Scope}{x:Str}(h:agk sc x=true):Vis sc x:=by
 unfold agk at h
 unfold Vis
 split at h
 ·next e=>exact .inl e
 ·next e=>exact .inr (.inl e)
 ·next e=>exact .inr (.inr e)
 ·cases h
def Gu(x:Str):Bool:=(x==("__debug__" : Str)) || (x==("__classdict__" : Str))
theorem tK{x:Str}(h:Gu x=false):(x==("__debug__" : Str))=false/\(x==("__classdict__" : Str))=false:=by
 unfold Gu at h
 rw[Bool.or_eq_false_iff]at h
 exact h
def HD(sc:Scope)(x:Str):Bool:=match sc.names.lookup x with
 |some .globalImplicit=>true
 |_=>false
def Lk(c:Tc)(x:Str):Option Nat:=gd (agk c.sc x&&!Gu x) (idx c.N x)
def alr(c:Tc)(x:Str):Bool:=match c.sc.names.lookup x with
 |some .local=>true
 |some .cell=>c.top
 |_=>false
def vJ(c:Tc)(x:Str):Option Nat:=gd (alr c x) (idx c.N x)
section
variable{aj:aQ}{c:Tc}{X:Cx}{W:WX}{k:Nat}{x:Str}{i:Nat}
theorem tL(a:Amb aj c X W k)(h:HD c.sc x=true):Gl X x:=by
 unfold HD at h
 unfold Gl PySem.Env.kindOf
 rw[a.hs]
 split at h
 ·assumption
 ·cases h
theorem Ao(a:Amb aj c X W k)(h:Lk c x=some i):X.N[i]?=some x/\Vis X.env.scope x/\(x==("__debug__" : Str))=false/\(x==("__classdict__" : Str))=false:=by
 obtain⟨h1,h2⟩:=aZ.mp h
 rw[arK]at h1
 obtain⟨d1,d2⟩:=tK (by simpa using h1.2)
 exact⟨by rw[a.hN];exact GJ h2,by rw[a.hs];exact ahE h1.1,d1,d2⟩
theorem mX(a:Amb aj c X W k)(h:vJ c x=some i):X.N[i]?=some x/\L2.Loc X.env.scope x/\(X.fn x=true∨X.env.scope.names.lookup x=some .local):=by
 obtain⟨h1,h2⟩:=aZ.mp h
 unfold alr at h1
 refine⟨by rw[a.hN];exact GJ h2,?_⟩
 rw[a.hs]
 unfold L2.Loc
 split at h1
 ·next e=>exact⟨.inl e,.inr e⟩
 ·next e=>exact⟨.inr e,.inl (a.fn h1 x)⟩
 ·cases h1
def uV(c:Tc)(x y:Str):Bool:=(x==y)&&(HD c.sc x&&c.B.contains x)
theorem nO{y:Str}(a:Amb aj c X W k)(h:uV c x y=true):x=y/\Gl X x/\X.mg x=none:=by
 unfold uV at h
 rw[arK,arK]at h
 exact⟨eq_of_beq h.1,tL a h.2.1,a.bl x (by simpa using h.2.2)⟩
end
def yN:Expr->Bool
 |.Set _ _ _=>true
 |_=>false
theorem CW{b:Expr}{op:CmpOp}(h:yN b=false):behindInMarks op b=false:=by
 cases b <;> first | rfl | cases h
theorem Wm{b c:Expr}{op op':CmpOp}(h:yN c=false):lastMarks [op,op'] [b,c]=false:=CW h
theorem qY{e:Expr}{env:PySem.Env}(h:yN e=false):∀x,foldedSetIterable e env x=pure x:=fun x=>by
 cases e <;> first | rfl | cases h
def aah:Expr->Bool
 |.Slice _ _ _ _=>true
 |_=>false
def aiM:Operator->Option (Dat->Dat->Out Dat)
 |.Add=>some eG
 |.Sub=>some jX
 |.Mult=>some wO
 |.FloorDiv=>some sY
 |.Mod=>some gY
 |.Pow=>some Pq
 |_=>none
def Qa:CmpOp->Option (Dat->Dat->Out Dat)
 |.Eq=>some cA
 |.NotEq=>some rZ
 |.Lt=>some JZ
 |.LtE=>some tV
 |.Gt=>some Zy
 |.GtE=>some geD
 |.In=>some (inD false)
 |.NotIn=>some (inD true)
 |_=>none
theorem ahj{op:Operator}{o:Dat->Dat->Out Dat}(h:aiM op=some o)(X:Cx)(aj:aQ)(W:WX):∃r,OpR X (binaryOp op) r/\qb aj X.K W o r:=by
 cases op <;> cases h
 ·exact⟨_,ahk,akR⟩
 ·exact⟨_,op_sub,aki⟩
 ·exact⟨_,op_mul,ajD⟩
 ·exact⟨_,op_mod,ajV⟩
 ·exact⟨_,op_pow,akh⟩
 ·exact⟨_,op_fdiv,ak8⟩
theorem Cu{op:CmpOp}{o:Dat->Dat->Out Dat}(h:Qa op=some o){X:Cx}{k:Nat}(hr:Room k X.A)(aj:aQ)(W:WX):∃r,OpR X (compareOp op) r/\qb aj X.K W o r:=by
 have h65:X.A.units+65 < cLine:=by have:=hr.un;omega
 cases op <;> cases h
 ·exact⟨_,ai3 hr.units,alP⟩
 ·exact⟨_,ajQ hr.units,al1⟩
 ·exact⟨_,ajU h65,alH⟩
 ·exact⟨_,op_le,alK⟩
 ·exact⟨_,op_gt,amN⟩
 ·exact⟨_,op_ge,alU⟩
 ·exact⟨_,ajt h65,agG⟩
 ·exact⟨_,aez h65,agG⟩
def Vk:Expr->Option Dat
 |.Constant .none _ _=>some .none
 |.Constant (.bool b) _ _=>some (.bool b)
 |_=>none
theorem abe{e:Expr}{d:Dat}{X:Cx}(h:Vk e=some d):∃v,scD d=some v/\(v=.non∨∃b,v=.bl b)/\PE X e (tC v):=by
 unfold Vk at h
 split at h
 ·cases h;exact⟨_,rfl,.inl rfl,pe_non⟩
 ·cases h;exact⟨_,rfl,.inr ⟨_,rfl⟩,pe_bl⟩
 ·cases h
def isN:CmpOp->Option Bool
 |.Is=>some false
 |.IsNot=>some true
 |_=>none
theorem ae5{op:CmpOp}{neg:Bool}{v:V}{X:Cx}(h:isN op=some neg)(hv:v=.non∨∃b,v=.bl b):OpR X (compareOp op) (Zj neg v):=by
 cases op <;> cases h
 ·exact ak7 hv
 ·exact adP hv
def b1D(x:Str):Option (Dat->Out Dat):=
 if x=="len" then some oW else if x=="abs" then some Ui else if x=="sum" then some U5 else if x=="max" then some maxD else if x=="all" then some Qp else if x=="any" then some Qx
 else if x=="tuple" then some kW else if x=="list" then some Nh else if x=="int" then some intD else
 none
def b2D(x:Str):Option (Dat->Dat->Out Dat):=if x=="max" then some lU else if x=="min" then some Ja else none
theorem akK{x:Str}{o:Dat->Out Dat}{X:Cx}(hc:X.calm=true)(h:b1D x=some o)(aj:aQ)(W:WX):∃(f:Value) (id:String) (r:List V->Hp->VK->Prop),(f=.builtin id∨f=.type id)/\CallR X f r/\J5 aj X.K W o r/\BV f x:=by
 unfold b1D at h
 split at h
 ·next e=>cases h;cases eq_of_beq e;exact⟨_,_,_,.inl rfl,alB,ai0,by decide +kernel,by decide,by decide⟩
 split at h
 ·next e=>cases h;cases eq_of_beq e;exact⟨_,_,_,.inl rfl,call_abs,aiV,by decide +kernel,by decide,by decide⟩
 split at h
 ·next e=>cases h;cases eq_of_beq e;exact⟨_,_,_,.inl rfl,cr_sum hc,aiJ,by decide +kernel,by decide,by decide⟩
 split at h
 ·next e=>cases h;cases eq_of_beq e;exact⟨_,_,_,.inl rfl,cr_max hc,ai8,by decide +kernel,by decide,by decide⟩
 split at h
 ·next e=>cases h;cases eq_of_beq e;exact⟨_,_,_,.inl rfl,cr_all hc,aj3,by decide +kernel,by decide,by decide⟩
 split at h
 ·next e=>cases h;cases eq_of_beq e;exact⟨_,_,_,.inl rfl,cr_any hc,ajo,by decide +kernel,by decide,by decide⟩
 split at h
 ·next e=>cases h;cases eq_of_beq e;exact⟨_,_,_,.inr rfl,call_tuple_of,afH,by decide +kernel,by decide,by decide⟩
 split at h
 ·next e=>cases h;cases eq_of_beq e;exact⟨_,_,_,.inr rfl,call_list_of,aif,by decide +kernel,by decide,by decide⟩
 split at h
 ·next e=>cases h;cases eq_of_beq e;exact⟨_,_,_,.inr rfl,akn,alf,by decide +kernel,by decide,by decide⟩
 ·cases h
theorem akX{x:Str}{o:Dat->Dat->Out Dat}{X:Cx}(hc:X.calm=true)(h:b2D x=some o)(aj:aQ)(W:WX):∃(f:Value) (id:String) (r:List V->Hp->VK->Prop),(f=.builtin id∨f=.type id)/\CallR X f r/\Fn2 aj X.K W o r/\BV f x:=by
 unfold b2D at h
 split at h
 ·next e=>cases h;cases eq_of_beq e;exact⟨_,_,_,.inl rfl,call_max2 hc,aiz,by decide +kernel,by decide,by decide⟩
 split at h
 ·next e=>cases h;cases eq_of_beq e;exact⟨_,_,_,.inl rfl,call_min2 hc,aiB,by decide +kernel,by decide,by decide⟩
 ·cases h
def tyN(x:Str):Option Ol:=if x=="int" then some .int else if x=="bool" then some .bool else if x=="str" then some .str else if x=="tuple" then some .tuple else if x=="list" then some .list else none
theorem akU{x:Str}{t:Ol}(h:tyN x=some t):BV (.type t.name) x:=by
 unfold tyN at h
 split at h
 ·next e=>cases h;cases eq_of_beq e;exact⟨by decide +kernel,by decide,by decide⟩
 split at h
 ·next e=>cases h;cases eq_of_beq e;exact⟨by decide +kernel,by decide,by decide⟩
 split at h
 ·next e=>cases h;cases eq_of_beq e;exact⟨by decide +kernel,by decide,by decide⟩
 split at h
 ·next e=>cases h;cases eq_of_beq e;exact⟨by decide +kernel,by decide,by decide⟩
 split at h
 ·next e=>cases h;cases eq_of_beq e;exact⟨by decide +kernel,by decide,by decide⟩
 ·cases h
structure Tr where
 E:Tc->Expr->Option QF
 W:Tc->Expr->Option QF
 T:Tc->Expr->Option QT
 I:Tc->Bool->Expr->Expr->Option IF
structure Tr.Ok(t:Tr):Prop where
 oe:∀{aj:aQ} {c:Tc} {X:Cx} {W:WX} {k:Nat},Amb aj c X W k->∀{e:Expr} {f:QF},t.E c e=some f->QE aj X W e f
 ow:∀{aj:aQ} {c:Tc} {X:Cx} {W:WX} {k:Nat},Amb aj c X W k->∀{e:Expr} {f:QF},t.W c e=some f->QW aj X W e f
 ot:∀{aj:aQ} {c:Tc} {X:Cx} {W:WX} {k:Nat},Amb aj c X W k->∀{e:Expr} {f:QT},t.T c e=some f->rP aj X W e f
 oi:∀{aj:aQ} {c:Tc} {X:Cx} {W:WX} {k:Nat},Amb aj c X W k->∀{firm:Bool} {tg e:Expr} {f:IF},t.I c firm tg e=some f->QI aj X W firm tg e f
def HF(t:Tr)(c:Tc):List Expr->Option QA
 |[]=>some au
 |a::es=>gd (nst a) ((t.E c a).bind fun fa=>(HF t c es).bind fun fr=>some (ak fa fr))
section
variable{aj:aQ}{c:Tc}{X:Cx}{W:WX}{k:Nat}{t:Tr}
theorem tX(o:t.Ok)(a:Amb aj c X W k):∀{es:List Expr} {f:QA},HF t c es=some f->Ed aj X W es f/\es.all nst=true/\∀M ρ ds,f M ρ=.ok ds->ds.length=es.length
 |[],f,h=>by
  cases h
  exact⟨ajE,rfl,fun M ρ ds e=>by cases e;rfl⟩
 |e::es,f,h=>by
  rw[HF,aZ]at h
  obtain⟨hs,h⟩:=h
  obtain⟨fa,h1,h⟩:=arI.mp h
  obtain⟨fr,h2,h⟩:=arI.mp h
  cases h
  obtain⟨i1,i2,i3⟩:=tX o a h2
  refine⟨ah9 (o.oe a h1) i1 (cP hs es),by simp[hs,i2],fun M ρ ds e=>?_⟩
  unfold ak at e
  cases hf:fa M ρ with
  |ok d=>
   rw[hf]at e
   cases hr:fr M ρ with
   |ok dr=>
    rw[hr]at e
    cases e
    simp[i3 M ρ dr hr]
   |exc y=>rw[hr]at e;cases e
   |bad=>rw[hr]at e;cases e
  |exc y=>rw[hf]at e;cases e
  |bad=>rw[hf]at e;cases e
end
def trO(t:Tr)(c:Tc):Option Expr->Option QO
 |none=>some xV
 |some a=>(t.W c a).bind fun fa=>some (pW fa)
theorem aeY{aj:aQ}{c:Tc}{X:Cx}{W:WX}{k:Nat}{t:Tr}(o:t.Ok)(a:Amb aj c X W k){e:Option Expr}{f:QO}(h:trO t c e=some f):QOe aj X W e f:=by
 cases e with
 |none=>cases h;exact aix
 |some e=>
  obtain⟨fa,h1,h⟩:=arI.mp h
  cases h
  exact ahz (o.ow a h1)
def Y7(c:Tc):List Expr->Option (List Nat)
 |[]=>some []
 |.Name x _::es=>(vJ c x).bind fun i=>(Y7 c es).bind fun js=>some (i::js)
 |_::_=>none
def Wi(c:Tc):Expr->Option (List Nat×fU)
 |.Name x _=>(vJ c x).bind fun i=>some ([i],aF i)
 |.Tuple es _ _=>(Y7 c es).bind fun js=>some (js,bA js)
 |_=>none
theorem Ue{aj:aQ}{c:Tc}{X:Cx}{W:WX}{k:Nat}(a:Amb aj c X W k):∀{es:List Expr} {js:List Nat},Y7 c es=some js->SN X es js
 |[],js,h=>by cases h;trivial
 |.Name x p::es,js,h=>by
  rw[Y7]at h
  obtain⟨i,h1,h⟩:=arI.mp h
  obtain⟨r,h2,h⟩:=arI.mp h
  cases h
  obtain⟨s1,s2,s3⟩:=mX a h1
  exact⟨s1,s2,s3,Ue a h2⟩
theorem uY{aj:aQ}{c:Tc}{X:Cx}{W:WX}{k:Nat}(a:Amb aj c X W k){e:Expr}{js:List Nat}{f:fU}(h:Wi c e=some (js,f)):QG aj X e js f:=by
 unfold Wi at h
 split at h
 ·obtain⟨i,h1,h⟩:=arI.mp h
  cases h
  obtain⟨s1,s2,s3⟩:=mX a h1
  exact Vm a.nd s1 s2 s3
 ·obtain⟨js',h1,h⟩:=arI.mp h
  cases h
  exact aeR a.calm a.nd (Ue a h1)
 ·cases h
def Tc.inn(c:Tc)(scope:Scope):Tc:={ c with sc:=relS scope c.sc,top:=false }
theorem Amb.inn{aj:aQ}{c:Tc}{X:Cx}{W:WX}{k:Nat}(a:Amb aj c X W k)(scope:Scope)(s:Shared)(H:Hp)(C:Addr)(cl:List (Str×Addr))(fp:List Addr):Amb aj (c.inn scope) (X.blk s H scope (compEnvC scope cl C X.env) fp) WF k where
 hN:=a.hN
 hs:=by
  show relS scope X.env.scope=relS scope c.sc
  rw[a.hs]
 calm:=a.calm
 nd:=a.nd
 tk:=aj8
 rm:=a.rm
 gl:=a.gl
 bl:=a.bl
 fn:=fun z=>nomatch z
 hk:=a.hk
def O5:List Expr->List Nat->List (Str×Nat)
 |.Name x _::es,j::js=>(x,j)::O5 es js
 |_,_=>[]
def pF:Expr->List Nat->List (Str×Nat)
 |.Name x _,[j]=>[(x,j)]
 |.Tuple es _ _,js=>O5 es js
 |_,_=>[]
def Qv(js vs:List Nat):Bool:=js.all fun j=>vs.contains j
theorem pO{js vs:List Nat}(h:Qv js vs=true):∀j∈js,j∈vs:=fun j hj=>by
 have:=ar7.mp h j hj
 simpa using this
def Tp(t:Tr)(c:Tc):List Expr->Option QT
 |[]=>some iy
 |[a]=>t.T c a
 |_=>none
theorem PTs.weak{X:Cx}{e:List Expr}{t t':TT}(h:PTs X e t)(k:∀σ H Q,t' σ H Q->t σ H Q):PTs X e t':=⟨fun pins s σ H Q I q=>h.run pins s σ H Q I (k σ H Q q)⟩
theorem wg{aj:aQ}{c:Tc}{X:Cx}{W:WX}{k:Nat}{t:Tr}(o:t.Ok)(a:Amb aj c X W k){ifs:List Expr}{f:QT}(h:Tp t c ifs=some f):PTs X ifs (kh X.K aj W f):=by
 unfold Tp at h
 split at h
 ·cases h
  exact PTs.weak pts_nil fun σ H Q ⟨g,ρ,M,I,z⟩=>z H (Ex.refl H)
 ·exact pts_one (o.ot a h)
 ·cases h
def Z0(t:Tr)(c:Tc)(elt tg iter:Expr)(ifs:List Expr)(scope:Scope):Option QF:=
 (t.I c false tg iter).bind fun it=>(Wi (c.inn scope) tg).bind fun jt=>(Tp t (c.inn scope) ifs).bind fun tt=>(t.E (c.inn scope) elt).bind fun te=>
  gd (blkC c.N c.sc scope (pF tg jt.1)&&(Qv jt.1 ((pF tg jt.1).map (·.2))&&!yN iter)) (some (eU it jt.2 ((pF tg jt.1).map (·.2)) tt te))
theorem abU{aj:aQ}{c:Tc}{X:Cx}{W:WX}{k:Nat}{t:Tr}(o:t.Ok)(a:Amb aj c X W k){elt tg iter:Expr}{ifs:List Expr}{scope:Scope}{pos:Pos}{f:QF}(h:Z0 t c elt tg iter ifs scope=some f):QE aj X W (.ListComp elt [⟨tg,iter,ifs,0⟩] scope pos) f:=by
 unfold Z0 at h
 obtain⟨it,h1,h⟩:=arI.mp h
 obtain⟨⟨js,tf⟩,h2,h⟩:=arI.mp h
 obtain⟨tt,h3,h⟩:=arI.mp h
 obtain⟨te,h4,h⟩:=arI.mp h
 obtain⟨hb,h⟩:=aZ.mp h
 cases h
 simp only[arK,ar4]at hb
 obtain⟨b1,b2,b3⟩:=hb
 exact amb a.calm a.nd (o.oi a h1) (by rw[a.hN,a.hs];exact b1) (pO b2) (fun s H C cl fp=>uY (a.inn scope s H C cl fp) h2) (fun s H C cl fp=>wg o (a.inn scope s H C cl fp) h3) (fun s H C cl fp=>o.oe (a.inn scope s H C cl fp) h4) (qY b3)
def aan(t:Tr)(c:Tc)(x:Str)(e:Expr)(es:List Expr):Option QF:=match c.G.lookup x with
 |some (.fq n m)=>(HF t c (e::es)).bind fun as=>gd (HD c.sc x&&(!Gu x&&decide ((e::es).length=n))) (some (aU m as))
 |some _=>none
 |none=>match es with
  |[]=>(b1D x).bind fun o=>(t.W c e).bind fun fa=>gd (uV c x x&&nst e) (some (eE o fa))
  |[.Name y p]=>match x=="isinstance" with
   |true=>(tyN y).bind fun ty=>(t.W c e).bind fun fa=>gd (uV c x x&&(uV c y y&&nst e)) (some (wZ ty fa))
   |false=>(b2D x).bind fun o=>(t.W c e).bind fun fa=>(t.W c (.Name y p)).bind fun fb=>gd (uV c x x&&nst e) (some (aA o fa fb))
  |[e2]=>(b2D x).bind fun o=>(t.W c e).bind fun fa=>(t.W c e2).bind fun fb=>gd (uV c x x&&(nst e&&nst e2)) (some (aA o fa fb))
  |_=>none
theorem adQ{aj:aQ}{c:Tc}{X:Cx}{W:WX}{k:Nat}{x:Str}{o:Dat->Dat->Out Dat}{a b:Expr}{fa fb:QF}{p pos:Pos}(am:Amb aj c X W k)(h:b2D x=some o)(hg:uV c x x=true)(ha:QW aj X W a fa)(hb:QW aj X W b fb)(hs:nst a=true)(hs2:nst b=true):QE aj X W (.Call (.Name x p) [a,b] [] pos) (aA o fa fb):=by
 obtain⟨f,id,r,hf,hc,ho,hv⟩:=akX am.calm h aj W
 obtain⟨_,hg,hm⟩:=nO am hg
 exact ams hf hc ho hg hm hv ha hb hs hs2
theorem aeM{aj:aQ}{c:Tc}{X:Cx}{W:WX}{k:Nat}{t:Tr}(o:t.Ok)(a:Amb aj c X W k){x:Str}{e:Expr}{es:List Expr}{p pos:Pos}{f:QF}(h:aan t c x e es=some f):QE aj X W (.Call (.Name x p) (e::es) [] pos) f:=by
 unfold aan at h
 split at h
 ·next n m hl=>
  obtain⟨as,h1,h⟩:=arI.mp h
  obtain⟨hb,h⟩:=aZ.mp h
  cases h
  simp only[arK,ar4,decide_eq_true_eq]at hb
  obtain⟨b1,b2,b3⟩:=hb
  obtain⟨fa,hm,hk,fd,ps,j,hj,hp,hB,F⟩:=a.gl x _ hl
  obtain⟨i1,i2,i3⟩:=tX o a h1
  exact ah6 a.tk F (a.rm.mono hj) (tL a b1) hm hk hB i1 (b3.trans hp.symm) (tK b2).1 i2 i3
 ·cases h
 ·split at h
  ·obtain⟨o1,h1,h⟩:=arI.mp h
   obtain⟨fa,h2,h⟩:=arI.mp h
   obtain⟨hb,h⟩:=aZ.mp h
   cases h
   rw[arK]at hb
   obtain⟨f,id,r,hf,hc,ho,hv⟩:=akK a.calm h1 aj W
   obtain⟨_,hg,hm⟩:=nO a hb.1
   exact agv hf hc ho hg hm hv (o.ow a h2) hb.2
  ·split at h
   ·next ex=>
    obtain⟨ty,h1,h⟩:=arI.mp h
    obtain⟨fa,h2,h⟩:=arI.mp h
    obtain⟨hb,h⟩:=aZ.mp h
    cases h
    simp only[arK]at hb
    obtain⟨b1,b2,b3⟩:=hb
    obtain⟨_,hg,hm⟩:=nO a b1
    obtain⟨_,hg2,hm2⟩:=nO a b2
    cases eq_of_beq ex
    exact akI hg hm ⟨by decide +kernel,by decide,by decide⟩ hg2 hm2 (akU h1) (o.ow a h2) b3
   ·obtain⟨o1,h1,h⟩:=arI.mp h
    obtain⟨fa,h2,h⟩:=arI.mp h
    obtain⟨fb,h3,h⟩:=arI.mp h
    obtain⟨hb,h⟩:=aZ.mp h
    cases h
    rw[arK]at hb
    exact adQ a h1 hb.1 (o.ow a h2) (o.ow a h3) hb.2 rfl
  ·obtain⟨o1,h1,h⟩:=arI.mp h
   obtain⟨fa,h2,h⟩:=arI.mp h
   obtain⟨fb,h3,h⟩:=arI.mp h
   obtain⟨hb,h⟩:=aZ.mp h
   cases h
   simp only[arK]at hb
   exact adQ a h1 hb.1 (o.ow a h2) (o.ow a h3) hb.2.1 hb.2.2
  ·cases h
def stE(t:Tr)(c:Tc):Expr->Option QF
 |.Name x _=>(match Lk c x with
  |some i=>some (aq i)
  |none=>match c.G.lookup x with
   |some (.con d)=>gd (HD c.sc x&&!Gu x) (some (qC d))
   |_=>none)
 |.Constant (.int i) _ _=>some (qC (.int i))
 |.Constant (.str x) _ _=>some (qC (.str x))
 |.Constant (.bool x) _ _=>some (qC (.bool x))
 |.Constant .none _ _=>some (qC .none)
 |.BinOp a op b _=>(aiM op).bind fun o=>(t.W c a).bind fun fa=>(t.W c b).bind fun fb=>some (aA o fa fb)
 |.UnaryOp .USub a _=>(t.W c a).bind fun fa=>some (eE Qe fa)
 |.UnaryOp .Not a _=>(t.W c a).bind fun fa=>some (R3 fa)
 |.BoolOp _ [a] _=>t.E c a
 |.BoolOp .And (a::b::r) p=>(t.E c a).bind fun fa=>(t.E c (.BoolOp .And (b::r) p)).bind fun fb=>some (wX fa fb)
 |.BoolOp .Or (a::b::r) p=>(t.E c a).bind fun fa=>(t.E c (.BoolOp .Or (b::r) p)).bind fun fb=>some (af7 fa fb)
 |.Compare a [op] [b] _=>(match isN op with
  |some neg=>(Vk b).bind fun d=>(t.W c a).bind fun fa=>some (xM neg d fa)
  |none=>(Qa op).bind fun o=>(t.W c a).bind fun fa=>(t.W c b).bind fun fb=>gd (!yN b) (some (aA o fa fb)))
 |.Compare a [op,op'] [b,b2] _=>(Qa op).bind fun o=>(Qa op').bind fun o'=>(t.W c a).bind fun fa=>(t.W c b).bind fun fb=>(t.W c b2).bind fun fc=>gd (!yN b2) (some (Tg (mO o o' fa fb fc)))
 |.IfExp d a b _=>(t.T c d).bind fun ta=>(t.E c a).bind fun fa=>(t.E c b).bind fun fb=>some (RW ta fa fb)
 |.Tuple es _ _=>(HF t c es).bind fun fr=>some (bB fr)
 |.List es _=>(HF t c es).bind fun fr=>some (Bs fr)
 |.Subscript a b _=>(match b with
  |.Slice lo hi none _=>(t.W c a).bind fun fa=>(trO t c lo).bind fun fl=>(trO t c hi).bind fun fh=>some (Mq fa fl fh)
  |b=>gd (!aah b) ((t.W c a).bind fun fa=>(t.W c b).bind fun fb=>some (aA aN fa fb)))
 |.ListComp elt [⟨tg,iter,ifs,0⟩] scope _=>Z0 t c elt tg iter ifs scope
 |.Call (.Name x _) (e::es) [] _=>aan t c x e es
 |_=>none
def stW(t:Tr)(c:Tc):Expr->Option QF
 |.Name x p=>(match Lk c x with
  |some i=>some (ao i)
  |none=>t.E c (.Name x p))
 |e=>t.E c e
def valT:Expr->Bool
 |.UnaryOp .Not _ _=>false
 |.BoolOp _ _ _=>false
 |.IfExp _ _ _ _=>false
 |.Compare _ _ _ _=>false
 |_=>true
theorem ahB{e:Expr}{env:PySem.Env}(h:valT e=true):∀whole,isTrue e env whole=(do let v ←whole;standAt e.pos;holding [v] (truthy v)):=fun whole=>by
 cases e with
 | UnaryOp o a p=>cases o <;> first | (with_unfolding_all rfl) | cases h
 |BoolOp _ _ _=>cases h
 |IfExp _ _ _ _=>cases h
 |Compare _ _ _ _=>cases h
 |_=>with_unfolding_all rfl
def stT(t:Tr)(c:Tc):Expr->Option QT
 |.UnaryOp .Not a _=>(t.T c a).bind fun ta=>some (j7 ta)
 |.BoolOp _ [a] _=>t.T c a
 |.BoolOp .And (a::b::r) p=>(t.T c a).bind fun ta=>(t.T c (.BoolOp .And (b::r) p)).bind fun tb=>some (j5 ta tb)
 |.BoolOp .Or (a::b::r) p=>(t.T c a).bind fun ta=>(t.T c (.BoolOp .Or (b::r) p)).bind fun tb=>some (Fw ta tb)
 |.Compare a [op] [b] _=>(match isN op with
  |some neg=>(Vk b).bind fun d=>(t.W c a).bind fun fa=>some (bh (xM neg d fa))
  |none=>(Qa op).bind fun o=>(t.W c a).bind fun fa=>(t.W c b).bind fun fb=>gd (!yN b) (some (bh (aA o fa fb))))
 |.Compare a [op,op'] [b,b2] _=>(Qa op).bind fun o=>(Qa op').bind fun o'=>(t.W c a).bind fun fa=>(t.W c b).bind fun fb=>(t.W c b2).bind fun fc=>gd (!yN b2) (some (mO o o' fa fb fc))
 |e=>gd (valT e) ((t.W c e).bind fun fa=>some (iZ fa))
def trF(t:Tr)(c:Tc)(firm:Bool)(e:Expr):Option QF:=match firm with
 |true=>t.E c e
 |false=>t.W c e
def isTup:Expr->Bool
 |.Tuple _ _ _=>true
 |_=>false
def stI(t:Tr)(c:Tc)(firm:Bool)(tg:Expr):Expr->Option IF
 |.Call (.Name x p) [a] [] pos=>(match uV c x "range" with
  |true=>(t.W c a).bind fun fa=>gd (nst a) (some (wB fa))
  |false=>match uV c x "enumerate" with
   |true=>(trF t c firm a).bind fun fa=>gd (nst a&&isTup tg) (some (uK 0 fa))
   |false=>(trF t c firm (.Call (.Name x p) [a] [] pos)).bind fun fa=>some (cX fa))
 |.Call (.Name x p) [a,b] [] pos=>(match uV c x "range" with
  |true=>(t.W c a).bind fun fa=>(t.W c b).bind fun fb=>gd (nst a&&nst b) (some (Cj fa fb))
  |false=>match uV c x "zip" with
   |true=>(trF t c firm a).bind fun fa=>(trF t c firm b).bind fun fb=>gd (nst a&&(nst b&&isTup tg)) (some (Fe fa fb))
   |false=>(trF t c firm (.Call (.Name x p) [a,b] [] pos)).bind fun fa=>some (cX fa))
 |.Call (.Name x p) [a] [⟨some kw,.Constant (.int i) j kp,kp2⟩] pos=>gd (uV c x "enumerate"&&(kw=="start"&&(decide (-(2 ^ 63)<=i/\i < 2 ^ 63)&&(nst a&&isTup tg)))) ((trF t c firm a).bind fun fa=>some (uK i fa))
 |e=>(trF t c firm e).bind fun fa=>some (cX fa)
theorem aat{b:Expr}(h:(!aah b)=true):PlainIx b:=fun v i=>by
 cases b <;> first | rfl | cases h
section
variable{aj:aQ}{c:Tc}{X:Cx}{W:WX}{k:Nat}{t:Tr}
theorem ajn(o:t.Ok)(a:Amb aj c X W k){e:Expr}{f:QF}(h:stE t c e=some f):QE aj X W e f:=by
 unfold stE at h
 split at h
 ·split at h
  ·next i hi=>
   cases h
   obtain⟨s1,s2,s3,s4⟩:=Ao a hi
   exact akm s1 s2 s3 s4
  ·split at h
   ·next d hl=>
    obtain⟨hb,h⟩:=aZ.mp h
    cases h
    simp only[arK,ar4]at hb
    obtain⟨v,u,h1,h2,h3⟩:=a.gl _ _ hl
    exact PE.weak (pe_glob (tL a hb.1) h1 h2 (tK hb.2).1) fun σ H Q ⟨g,ρ,M,I,z⟩=>z v H (Ex.refl H) (h3 g H)
   ·cases h
 ·cases h;exact ajp
 ·cases h;exact ak3
 ·cases h;exact amv
 ·cases h;exact akP
 ·obtain⟨op,h1,h⟩:=arI.mp h
  obtain⟨fa,h2,h⟩:=arI.mp h
  obtain⟨fb,h3,h⟩:=arI.mp h
  cases h
  obtain⟨r,r1,r2⟩:=ahj h1 X aj W
  exact ajI r1 r2 (o.ow a h2) (o.ow a h3)
 ·obtain⟨fa,h2,h⟩:=arI.mp h
  cases h
  exact aja (o.ow a h2)
 ·obtain⟨fa,h2,h⟩:=arI.mp h
  cases h
  exact ahw (o.ow a h2)
 ·exact pe_one (o.oe a h)
 ·obtain⟨fa,h2,h⟩:=arI.mp h
  obtain⟨fb,h3,h⟩:=arI.mp h
  cases h
  exact ag8 (o.oe a h2) (o.oe a h3)
 ·obtain⟨fa,h2,h⟩:=arI.mp h
  obtain⟨fb,h3,h⟩:=arI.mp h
  cases h
  exact aiN (o.oe a h2) (o.oe a h3)
 ·split at h
  ·next neg hn=>
   obtain⟨d,h1,h⟩:=arI.mp h
   obtain⟨fa,h2,h⟩:=arI.mp h
   cases h
   obtain⟨v,v1,v2,v3⟩:=abe (X:=X) h1
   refine amP v1 (ae5 hn v2) (o.ow a h2) v3 (CW ?_)
   unfold Vk at h1
   split at h1 <;> first | rfl | cases h1
  ·obtain⟨op,h1,h⟩:=arI.mp h
   obtain⟨fa,h2,h⟩:=arI.mp h
   obtain⟨fb,h3,h⟩:=arI.mp h
   obtain⟨hb,h⟩:=aZ.mp h
   cases h
   obtain⟨r,r1,r2⟩:=Cu h1 a.rm aj W
   exact ahX r1 r2 (o.ow a h2) (o.ow a h3) (CW (by simpa using hb))
 ·obtain⟨op,h1,h⟩:=arI.mp h
  obtain⟨op',h1',h⟩:=arI.mp h
  obtain⟨fa,h2,h⟩:=arI.mp h
  obtain⟨fb,h3,h⟩:=arI.mp h
  obtain⟨fc,h4,h⟩:=arI.mp h
  obtain⟨hb,h⟩:=aZ.mp h
  cases h
  obtain⟨r,r1,r2⟩:=Cu h1 a.rm aj W
  obtain⟨r',r1',r2'⟩:=Cu h1' a.rm aj W
  exact af3 r1 r1' r2 r2' (o.ow a h2) (o.ow a h3) (o.ow a h4) (Wm (by simpa using hb))
 ·obtain⟨ta,h1,h⟩:=arI.mp h
  obtain⟨fa,h2,h⟩:=arI.mp h
  obtain⟨fb,h3,h⟩:=arI.mp h
  cases h
  exact afY (o.ot a h1) (o.oe a h2) (o.oe a h3)
 ·obtain⟨fr,h1,h⟩:=arI.mp h
  cases h
  exact ai7 (tX o a h1).1
 ·obtain⟨fr,h1,h⟩:=arI.mp h
  cases h
  exact aj4 (tX o a h1).1
 ·split at h
  ·obtain⟨fa,h1,h⟩:=arI.mp h
   obtain⟨fl,h2,h⟩:=arI.mp h
   obtain⟨fh,h3,h⟩:=arI.mp h
   cases h
   exact alN (o.ow a h1) (aeY o a h2) (aeY o a h3)
  ·obtain⟨hb,h⟩:=aZ.mp h
   obtain⟨fa,h1,h⟩:=arI.mp h
   obtain⟨fb,h2,h⟩:=arI.mp h
   cases h
   exact alV (o.ow a h1) (o.ow a h2) (aat hb)
 ·exact abU o a h
 ·exact aeM o a h
 ·cases h
theorem alh(o:t.Ok)(a:Amb aj c X W k){e:Expr}{f:QF}(h:stW t c e=some f):QW aj X W e f:=by
 unfold stW at h
 split at h
 ·split at h
  ·next i hi=>
   cases h
   obtain⟨s1,s2,s3,s4⟩:=Ao a hi
   exact ai1 s1 s2 s3 s4
  ·exact(o.oe a h).w
 ·exact(o.oe a h).w
theorem ak2{a b:Expr}{rest:List Expr}{ta tb:QT}{pos:Pos}(ha:rP aj X W a ta)(hb:rP aj X W (.BoolOp .And (b::rest) pos) tb):rP aj X W (.BoolOp .And (a::b::rest) pos) (j5 ta tb):=by
 have hb':QWt aj X W (.BoolOp .And (b::rest) pos) tb:=⟨fun wh pins s σ H Q I q=>hb.run pins s σ H Q I q⟩
 exact PW.pt (aju ha hb')
theorem amT{a b:Expr}{rest:List Expr}{ta tb:QT}{pos:Pos}(ha:rP aj X W a ta)(hb:rP aj X W (.BoolOp .Or (b::rest) pos) tb):rP aj X W (.BoolOp .Or (a::b::rest) pos) (Fw ta tb):=by
 have hb':QWt aj X W (.BoolOp .Or (b::rest) pos) tb:=⟨fun wh pins s σ H Q I q=>hb.run pins s σ H Q I q⟩
 exact PW.pt (alM ha hb')
theorem ajs(o:t.Ok)(a:Amb aj c X W k){e:Expr}{f:QT}(h:stT t c e=some f):rP aj X W e f:=by
 unfold stT at h
 split at h
 ·obtain⟨ta,h1,h⟩:=arI.mp h
  cases h
  exact ajL (o.ot a h1)
 ·next op _ _=>
  cases op
  ·exact PW.pt (pw_and1 (o.ot a h))
  ·exact PW.pt (pw_or1 (o.ot a h))
 ·obtain⟨ta,h1,h⟩:=arI.mp h
  obtain⟨tb,h2,h⟩:=arI.mp h
  cases h
  exact ak2 (o.ot a h1) (o.ot a h2)
 ·obtain⟨ta,h1,h⟩:=arI.mp h
  obtain⟨tb,h2,h⟩:=arI.mp h
  cases h
  exact amT (o.ot a h1) (o.ot a h2)
 ·split at h
  ·next neg hn=>
   obtain⟨d,h1,h⟩:=arI.mp h
   obtain⟨fa,h2,h⟩:=arI.mp h
   cases h
   obtain⟨v,v1,v2,v3⟩:=abe (X:=X) h1
   refine amx v1 (ae5 hn v2) (o.ow a h2) v3 (CW ?_)
   unfold Vk at h1
   split at h1 <;> first | rfl | cases h1
  ·obtain⟨op,h1,h⟩:=arI.mp h
   obtain⟨fa,h2,h⟩:=arI.mp h
   obtain⟨fb,h3,h⟩:=arI.mp h
   obtain⟨hb,h⟩:=aZ.mp h
   cases h
   obtain⟨r,r1,r2⟩:=Cu h1 a.rm aj W
   exact akd r1 r2 (o.ow a h2) (o.ow a h3) (CW (by simpa using hb))
 ·obtain⟨op,h1,h⟩:=arI.mp h
  obtain⟨op',h1',h⟩:=arI.mp h
  obtain⟨fa,h2,h⟩:=arI.mp h
  obtain⟨fb,h3,h⟩:=arI.mp h
  obtain⟨fc,h4,h⟩:=arI.mp h
  obtain⟨hb,h⟩:=aZ.mp h
  cases h
  obtain⟨r,r1,r2⟩:=Cu h1 a.rm aj W
  obtain⟨r',r1',r2'⟩:=Cu h1' a.rm aj W
  exact afV r1 r1' r2 r2' (o.ow a h2) (o.ow a h3) (o.ow a h4) (Wm (by simpa using hb))
 ·obtain⟨hv,h⟩:=aZ.mp h
  obtain⟨fa,h1,h⟩:=arI.mp h
  cases h
  exact akO (o.ow a h1) (ahB hv)
theorem Dk(o:t.Ok)(a:Amb aj c X W k){firm:Bool}{e:Expr}{f:QF}(h:trF t c firm e=some f):QF' aj X W firm e f:=by
 cases firm
 ·exact o.ow a h
 ·exact o.oe a h
theorem O9{e:Expr}(h:isTup e=true):∃es j p,e=.Tuple es j p:=by
 cases e <;> first | exact⟨_,_,_,rfl⟩ | cases h
theorem akt(o:t.Ok)(a:Amb aj c X W k){firm:Bool}{tg e:Expr}{f:IF}(h:stI t c firm tg e=some f):QI aj X W firm tg e f:=by
 unfold stI at h
 split at h
 ·split at h
  ·next hb=>
   obtain⟨fa,h1,h⟩:=arI.mp h
   obtain⟨hs,h⟩:=aZ.mp h
   cases h
   obtain⟨rfl,hg,hm⟩:=nO a hb
   exact adS hg hm (o.ow a h1) hs
  ·split at h
   ·next hb=>
    obtain⟨fa,h1,h⟩:=arI.mp h
    obtain⟨hs,h⟩:=aZ.mp h
    cases h
    obtain⟨rfl,hg,hm⟩:=nO a hb
    rw[arK]at hs
    obtain⟨es,j,p,rfl⟩:=O9 hs.2
    exact agX hg hm (Dk o a h1) hs.1
   ·obtain⟨fa,h1,h⟩:=arI.mp h
    cases h
    exact Zk (Dk o a h1)
 ·split at h
  ·next hb=>
   obtain⟨fa,h1,h⟩:=arI.mp h
   obtain⟨fb,h2,h⟩:=arI.mp h
   obtain⟨hs,h⟩:=aZ.mp h
   cases h
   obtain⟨rfl,hg,hm⟩:=nO a hb
   rw[arK]at hs
   exact adG hg hm (o.ow a h1) (o.ow a h2) hs.1 hs.2
  ·split at h
   ·next hb=>
    obtain⟨fa,h1,h⟩:=arI.mp h
    obtain⟨fb,h2,h⟩:=arI.mp h
    obtain⟨hs,h⟩:=aZ.mp h
    cases h
    obtain⟨rfl,hg,hm⟩:=nO a hb
    simp only[arK]at hs
    obtain⟨es,j,p,rfl⟩:=O9 hs.2.2
    exact aiT hg hm (Dk o a h1) (Dk o a h2) hs.1 hs.2.1
   ·obtain⟨fa,h1,h⟩:=arI.mp h
    cases h
    exact Zk (Dk o a h1)
 ·obtain⟨hs,h⟩:=aZ.mp h
  obtain⟨fa,h1,h⟩:=arI.mp h
  cases h
  simp only[arK,decide_eq_true_eq]at hs
  obtain⟨hb,hk,hi,hn,ht⟩:=hs
  obtain⟨rfl,hg,hm⟩:=nO a hb
  cases eq_of_beq hk
  obtain⟨es,j,p,rfl⟩:=O9 ht
  exact afu hi.1 hi.2 hg hm (Dk o a h1) hn
 ·obtain⟨fa,h1,h⟩:=arI.mp h
  cases h
  exact Zk (Dk o a h1)
end
def MV.n:MV->Nat
 |.q n _=>n
 |.g n _=>n
def MV.qt:MV->Bool
 |.q _ _=>true
 |.g _ _=>false
def tbN(tb:List (Str×MV))(n:Nat):Bool:=tb.all fun p=>p.2.n==n
def tbQ(tb:List (Str×MV)):Bool:=tb.all fun p=>p.2.qt
theorem pZ{α:Type}{c:Str}{v:α}:∀{tb:List (Str×α)},tb.lookup c=some v->(c,v)∈tb
 |[],h=>nomatch h
 |(y,u)::r,h=>by
  rw[asj]at h
  split at h
  ·next e=>
   cases h
   rw[eq_of_beq e]
   exact arP
  ·exact arO _ (pZ h)
section
variable{aj:aQ}{c:Tc}{X:Cx}{W:WX}{k:Nat}{t:Tr}
theorem XS(a:Amb aj c X W k){m:Str}{n:Nat}{tb:List (Str×MV)}(h:c.hs.Ms.lookup m=some tb)(hn:tbN tb n=true):Ip X aj k m n tb:=fun y v hv=>by
 refine⟨a.hk.ms m tb h y v hv,?_⟩
 have:=ar7.mp hn _ (pZ hv)
 cases v <;> exact eq_of_beq this
def aav(t:Tr)(c:Tc)(o:Expr)(m:Str)(es:List Expr)(apos pos:Pos):Option QF:=
 (c.hs.Ms.lookup m).bind fun tb=>(t.W c o).bind fun fo=>(HF t c es).bind fun as=>
  gd (tbQ tb&&(tbN tb (es.length+1)&&(baseOk o&&(decide (es.length < 30)&&(apos.endLine==pos.line))))) (some (aV tb fo as))
theorem aeo(o:t.Ok)(a:Amb aj c X W k){b:Expr}{m:Str}{es:List Expr}{apos pos:Pos}{f:QF}(h:aav t c b m es apos pos=some f):QE aj X W (.Call (.Attribute b m apos) es [] pos) f:=by
 unfold aav at h
 obtain⟨tb,h1,h⟩:=arI.mp h
 obtain⟨fo,h2,h⟩:=arI.mp h
 obtain⟨as,h3,h⟩:=arI.mp h
 obtain⟨hb,h⟩:=aZ.mp h
 cases h
 simp only[arK,decide_eq_true_eq]at hb
 obtain⟨_,b2,b3,b4,b5⟩:=hb
 obtain⟨i1,i2,i3⟩:=tX o a h3
 cases es with
 |nil=>
  cases h3
  exact afo a.tk a.rm (XS a h1 b2) (o.ow a h2) b3 b5
 |cons e es=>exact ahr a.tk a.rm (XS a h1 b2) (o.ow a h2) i1 i3 b3 i2 b5 b4
def inN:CmpOp->Option Bool
 |.In=>some false
 |.NotIn=>some true
 |_=>none
theorem aep{op:CmpOp}{neg:Bool}(hr:Room k X.A)(h:inN op=some neg):OpR X (compareOp op) (rInD X neg):=by
 have h65:X.A.units+64 < cLine:=by have:=hr.un;omega
 cases op <;> cases h
 ·exact op_inD h65
 ·exact op_notInD h65
def acN(t:Tr)(c:Tc)(e:Expr)(op:CmpOp)(o:Expr)(f:Str):Option QF:=
 (inN op).bind fun neg=>(c.hs.df.lookup f).bind fun _=>(t.E c e).bind fun fe=>(t.W c o).bind fun fo=>gd (baseOk o) (some (Qy neg f fe fo))
theorem aiQ{o e:Expr}{f:Str}{p1 pos:Pos}{fo fk:QF}{neg:Bool}{op:CmpOp}(co:jy X.K aj)(hw:aj.w=X.w)(hr:OpR X (compareOp op) (rInD X neg))(hk:QE aj X W e fk)(ho:QW aj X W o fo)(hb:baseOk o=true):rP aj X W (.Compare e [op] [.Attribute o f p1] pos) (bh (Qy neg f fk fo)):=
 PT.weak (pt_cmpR hr hk (pe_fld ho (mF hb)) (by cases op <;> rfl)) fun σ H Q ⟨g,ρ,M,I,h⟩=>by
  refine agA co hw σ H _ ⟨g,ρ,M,I,h.bnd.mono (fun d h1 v H' e' r'=>?_) fun _ z=>z⟩
  obtain⟨k,h2,h3⟩:=Eo r'.weak h1
  exact⟨k,h2,h3 H' e'⟩
theorem abG(o:t.Ok)(a:Amb aj c X W k){e b:Expr}{op:CmpOp}{m:Str}{p1 pos:Pos}{f:QF}(h:acN t c e op b m=some f):QE aj X W (.Compare e [op] [.Attribute b m p1] pos) f/\rP aj X W (.Compare e [op] [.Attribute b m p1] pos) (bh f):=by
 unfold acN at h
 obtain⟨neg,h1,h⟩:=arI.mp h
 obtain⟨_,_,h⟩:=arI.mp h
 obtain⟨fe,h2,h⟩:=arI.mp h
 obtain⟨fo,h3,h⟩:=arI.mp h
 obtain⟨hb,h⟩:=aZ.mp h
 cases h
 exact⟨aj6 a.hk.co a.hk.hw (aep a.rm h1) (o.oe a h2) (o.ow a h3) hb,aiQ a.hk.co a.hk.hw (aep a.rm h1) (o.oe a h2) (o.ow a h3) hb⟩
def X6(t:Tr)(c:Tc)(e:Expr)(op:CmpOp)(x:Str):Option QF:=
 (inN op).bind fun neg=>match c.G.lookup x with
  |some (.dic kvs)=>(t.W c e).bind fun fe=>gd (HD c.sc x&&!Gu x) (some (UW neg kvs fe))
  |_=>none
theorem Yi(o:t.Ok)(a:Amb aj c X W k){e:Expr}{op:CmpOp}{x:Str}{p1 pos:Pos}{f:QF}(h:X6 t c e op x=some f):QE aj X W (.Compare e [op] [.Name x p1] pos) f/\rP aj X W (.Compare e [op] [.Name x p1] pos) (bh f):=by
 unfold X6 at h
 obtain⟨neg,h1,h⟩:=arI.mp h
 split at h
 ·next kvs hl=>
  obtain⟨fe,h2,h⟩:=arI.mp h
  obtain⟨hb,h⟩:=aZ.mp h
  cases h
  simp only[arK,ar4]at hb
  refine ako ?_ (a.gl x _ hl) (tL a hb.1) (tK hb.2).1 (o.ow a h2)
  cases op <;> cases h1
  ·exact .inl ⟨rfl,rfl⟩
  ·exact .inr ⟨rfl,rfl⟩
 ·cases h
def Zb(t:Tr)(c:Tc):Expr->Option QF
 |.Call (.Name y _) [b] [] _=>(match uV c y "set" with
  |true=>(t.W c b).bind fun fb=>gd (nst b) (some (eE Tn fb))
  |false=>(t.W c (.Call (.Name y ⟨0,0,0,0⟩) [b] [] ⟨0,0,0,0⟩)).bind fun _=>none)
 |e=>(t.W c e).bind fun fe=>gd (nst e) (some (eE vN fe))
theorem alo(a:Amb aj c X W k):X.A.units+65 < cLine:=by have:=a.rm.un;omega
theorem adf(o:t.Ok)(a:Amb aj c X W k)(hg:Gl X "sorted")(hm:X.mg "sorted"=none){e:Expr}{p pos:Pos}{f:QF}(h:Zb t c e=some f):QE aj X W (.Call (.Name "sorted" p) [e] [] pos) f:=by
 unfold Zb at h
 split at h
 ·split at h
  ·next hb=>
   obtain⟨fb,h1,h⟩:=arI.mp h
   obtain⟨hn,h⟩:=aZ.mp h
   cases h
   obtain⟨rfl,hg2,hm2⟩:=nO a hb
   exact ahK (alo a) a.calm hg hm hg2 hm2 (o.ow a h1) hn
  ·obtain⟨_,_,h⟩:=arI.mp h
   cases h
 ·obtain⟨fe,h1,h⟩:=arI.mp h
  obtain⟨hn,h⟩:=aZ.mp h
  cases h
  exact ah7 (alo a) hg hm (o.ow a h1) hn
def Ry(t:Tr)(c:Tc)(elt tg iter:Expr)(ifs:List Expr)(tg1 iter1:Expr)(ifs1:List Expr)(scope:Scope):Option QF:=
 (t.I c false tg iter).bind fun it=>(Wi (c.inn scope) tg).bind fun jt=>(Tp t (c.inn scope) ifs).bind fun tt=>(t.I (c.inn scope) true tg1 iter1).bind fun it1=>(Wi (c.inn scope) tg1).bind fun jt1=>(Tp t (c.inn scope) ifs1).bind fun tt1=>(t.E (c.inn scope) elt).bind fun te=>
  gd (blkC c.N c.sc scope (pF tg jt.1++pF tg1 jt1.1)&&(Qv ((pF tg1 jt1.1).map (·.2)) ((pF tg jt.1++pF tg1 jt1.1).map (·.2))&&(Qv jt.1 ((pF tg jt.1++pF tg1 jt1.1).map (·.2))&&(Qv jt1.1 ((pF tg1 jt1.1).map (·.2))&&(!yN iter&&!yN iter1)))))
   (some (Df it jt.2 ((pF tg jt.1++pF tg1 jt1.1).map (·.2)) tt it1 jt1.2 ((pF tg1 jt1.1).map (·.2)) tt1 te))
theorem afm(o:t.Ok)(a:Amb aj c X W k){elt tg iter tg1 iter1:Expr}{ifs ifs1:List Expr}{scope:Scope}{pos:Pos}{f:QF}(h:Ry t c elt tg iter ifs tg1 iter1 ifs1 scope=some f):QE aj X W (.ListComp elt [⟨tg,iter,ifs,0⟩,⟨tg1,iter1,ifs1,0⟩] scope pos) f:=by
 unfold Ry at h
 obtain⟨it,h1,h⟩:=arI.mp h
 obtain⟨⟨js,tf⟩,h2,h⟩:=arI.mp h
 obtain⟨tt,h3,h⟩:=arI.mp h
 obtain⟨it1,h4,h⟩:=arI.mp h
 obtain⟨⟨js1,tf1⟩,h5,h⟩:=arI.mp h
 obtain⟨tt1,h6,h⟩:=arI.mp h
 obtain⟨te,h7,h⟩:=arI.mp h
 obtain⟨hb,h⟩:=aZ.mp h
 cases h
 simp only[arK,ar4]at hb
 obtain⟨b1,b2,b3,b4,b5,b6⟩:=hb
 exact ala a.calm a.nd (o.oi a h1) (by rw[a.hN,a.hs];exact b1) (pO b2) (pO b3) (pO b4) (fun s H C cl fp=>uY (a.inn _ s H C cl fp) h2) (fun s H C cl fp=>wg o (a.inn _ s H C cl fp) h3) (fun s H C cl fp=>o.oi (a.inn _ s H C cl fp) h4) (fun s H C cl fp=>uY (a.inn _ s H C cl fp) h5) (fun s H C cl fp=>wg o (a.inn _ s H C cl fp) h6) (fun s H C cl fp=>o.oe (a.inn _ s H C cl fp) h7) (qY b5) (fun env=>qY b6)
def xE(t:Tr)(c:Tc):Expr->Option QF
 |.Attribute o f _=>gd (baseOk o) ((t.W c o).bind fun fo=>some (gK f fo))
 |.Call (.Attribute o m apos) es [] pos=>aav t c o m es apos pos
 |.Compare e [op] [.Attribute o f _] _=>acN t c e op o f
 |.Compare e [op] [.Name x _] _=>X6 t c e op x
 |.Subscript (.Name x _) e _=>(match c.G.lookup x with
  |some (.dic kvs)=>(t.W c e).bind fun fe=>gd (HD c.sc x&&(!Gu x&&!aah e)) (some (acK kvs fe))
  |_=>none)
 |.ListComp elt [⟨tg,iter,ifs,0⟩,⟨tg1,iter1,ifs1,0⟩] scope _=>Ry t c elt tg iter ifs tg1 iter1 ifs1 scope
 |.Call (.Name x _) [e] [] _=>(match uV c x "sorted" with
  |true=>Zb t c e
  |false=>match uV c x "list",e with
   |true,.Attribute o f _=>(c.hs.df.lookup f).bind fun _=>(t.W c o).bind fun fo=>gd (baseOk o) (some (Du f fo))
   |_,_=>none)
 |_=>none
theorem amM(o:t.Ok)(a:Amb aj c X W k){e:Expr}{f:QF}(h:xE t c e=some f):QE aj X W e f:=by
 unfold xE at h
 split at h
 ·obtain⟨hb,h⟩:=aZ.mp h
  obtain⟨fo,h1,h⟩:=arI.mp h
  cases h
  exact ajc a.hk.co (o.ow a h1) hb
 ·exact aeo o a h
 ·exact(abG o a h).1
 ·exact(Yi o a h).1
 ·split at h
  ·next kvs hl=>
   obtain⟨fe,h1,h⟩:=arI.mp h
   obtain⟨hb,h⟩:=aZ.mp h
   cases h
   simp only[arK]at hb
   exact ak5 (a.gl _ _ hl) (tL a hb.1) (tK (by simpa using hb.2.1)).1 (o.ow a h1) (aat hb.2.2)
  ·cases h
 ·exact afm o a h
 ·split at h
  ·next hb=>
   obtain⟨rfl,hg,hm⟩:=nO a hb
   exact adf o a hg hm h
  ·split at h
   ·next hb=>
    obtain⟨_,_,h⟩:=arI.mp h
    obtain⟨fo,h1,h⟩:=arI.mp h
    obtain⟨hb2,h⟩:=aZ.mp h
    cases h
    obtain⟨rfl,hg,hm⟩:=nO a hb
    exact agp a.hk.co a.hk.hw a.calm hg hm (o.ow a h1) hb2
   ·cases h
 ·cases h
def xW(t:Tr)(c:Tc):Expr->Option QF
 |.Attribute o f _=>gd (baseOk o) ((t.W c o).bind fun fo=>some (bK f fo))
 |_=>none
theorem amF(o:t.Ok)(a:Amb aj c X W k){e:Expr}{f:QF}(h:xW t c e=some f):QW aj X W e f:=by
 unfold xW at h
 split at h
 ·obtain⟨hb,h⟩:=aZ.mp h
  obtain⟨fo,h1,h⟩:=arI.mp h
  cases h
  exact alC a.hk.co (o.ow a h1) hb
 ·cases h
def xT(t:Tr)(c:Tc):Expr->Option QT
 |.Compare e [op] [.Attribute o f _] _=>(acN t c e op o f).bind fun g=>some (bh g)
 |.Compare e [op] [.Name x _] _=>(X6 t c e op x).bind fun g=>some (bh g)
 |_=>none
theorem amf(o:t.Ok)(a:Amb aj c X W k){e:Expr}{f:QT}(h:xT t c e=some f):rP aj X W e f:=by
 unfold xT at h
 split at h
 ·obtain⟨g,h1,h⟩:=arI.mp h
  cases h
  exact(abG o a h1).2
 ·obtain⟨g,h1,h⟩:=arI.mp h
  cases h
  exact(Yi o a h1).2
 ·cases h
def xI(t:Tr)(c:Tc)(firm:Bool):Expr->Option IF
 |.Attribute o f _=>(match firm with
  |true=>none
  |false=>(c.hs.df.lookup f).bind fun _=>gd (baseOk o) ((t.W c o).bind fun fo=>some (CK f fo)))
 |_=>none
theorem alX(o:t.Ok)(a:Amb aj c X W k){firm:Bool}{tg e:Expr}{f:IF}(h:xI t c firm e=some f):QI aj X W firm tg e f:=by
 unfold xI at h
 split at h
 ·split at h
  ·cases h
  ·obtain⟨_,_,h⟩:=arI.mp h
   obtain⟨hb,h⟩:=aZ.mp h
   obtain⟨fo,h1,h⟩:=arI.mp h
   cases h
   exact af0 a.hk.co a.hk.hw (o.ow a h1) hb
 ·cases h
def els{α:Type}(a b:Option α):Option α:=match a with
 |some x=>some x
 |none=>b
theorem vW{α:Type}{a b:Option α}{x:α}(h:els a b=some x):a=some x∨b=some x:=by
 cases a with
 |none=>exact .inr h
 |some y=>exact .inl h
def xtE(t:Tr)(c:Tc)(e:Expr):Option QF:=els (xE t c e) (stE t c e)
def xtW(t:Tr)(c:Tc)(e:Expr):Option QF:=els (xW t c e) (stW t c e)
def xtT(t:Tr)(c:Tc)(e:Expr):Option QT:=els (xT t c e) (stT t c e)
def xtI(t:Tr)(c:Tc)(firm:Bool)(tg e:Expr):Option IF:=els (xI t c firm e) (stI t c firm tg e)
end
structure uR(aj:aQ)(c:Tc)(X:Cx)(W:WX)(k:Nat):Prop extends Amb aj c X W k where
 ps:PassesOwn (model X.prog X.w) X.A X.env X.xe
 st:X.stack=X.env::X.outer
 fr:X.env.frame=some X.env.locals
 kf:X.env.scope.kind=.function
structure Ts where
 G:Tc->Expr->Option GF
 H:Tc->Expr->Option GT
 S:Tc->Stmt->Option SF
 B:Tc->List Stmt->Option SF
structure Ts.Ok(s:Ts)(q:Bool):Prop where
 og:∀{aj:aQ} {c:Tc} {X:Cx} {W:WX} {k:Nat},uR aj c X W k->∀{e:Expr} {f:GF},s.G c e=some f->GE aj X W q e f
 oh:∀{aj:aQ} {c:Tc} {X:Cx} {W:WX} {k:Nat},uR aj c X W k->∀{e:Expr} {f:GT},s.H c e=some f->GTe aj X W q e f
 os:∀{aj:aQ} {c:Tc} {X:Cx} {W:WX} {k:Nat},uR aj c X W k->∀{e:Stmt} {f:SF},s.S c e=some f->SE aj X W q e f
 ob:∀{aj:aQ} {c:Tc} {X:Cx} {W:WX} {k:Nat},uR aj c X W k->∀{e:List Stmt} {f:SF},s.B c e=some f->JN aj X W q e f
def Fx:Expr->Bool
 |.ListComp _ _ _ _=>true
 |.SetComp _ _ _ _=>true
 |.DictComp _ _ _ _ _=>true
 |_=>false
theorem Hr{e:Expr}{tg:Option Expr}{l:Nat}{env:PySem.Env}(h:Fx e=false):swapsWith e tg l env=pure false:=by
 cases e <;> first | rfl | cases h
def acr:Expr->Bool
 |.Tuple _ _ _=>true
 |_=>false
def swB(sc:Scope)(v:Expr)(scope:Scope)(x:Str)(p:Pos):Bool:=(match sc.names.lookup x with
 |some .local=>true
 |_=>false)&&(p.line==v.pos.line&&!(scope.names.any fun(n,k)=>n==x&&(k==.local || k==.cell)))
theorem Rm{X:Cx}{elt:Expr}{gens:List Comprehension}{scope:Scope}{pos p:Pos}{x:Str}{l:Nat}(hk:X.env.scope.kind=.function)(h:swB X.env.scope (.ListComp elt gens scope pos) scope x p=true):X.env.scope.names.lookup x=some .local/\swapsWith (.ListComp elt gens scope pos) (some (.Name x p)) l X.env=pure true:=by
 unfold swB at h
 simp only[arK]at h
 obtain⟨h1,h2,h3⟩:=h
 have e1:X.env.scope.names.lookup x=some .local:=by
  split at h1
  ·assumption
  ·cases h1
 refine⟨e1,?_⟩
 have eb:X.env.blockKind=.function:=by
  unfold PySem.Env.blockKind
  rw[hk]
  rfl
 unfold swapsWith
 show(pure (X.env.blockKind==.function&&X.env.kindOf x==some .local&&p.line==(Expr.ListComp elt gens scope pos).pos.line&&!(scope.names.any fun(n,k)=>n==x&&(k==.local || k==.cell))):Sem Bool)=pure true
 rw[eb,h2,h3]
 unfold PySem.Env.kindOf
 rw[e1]
 rfl
theorem ac4{X:Cx}{elt:Expr}{gens:List Comprehension}{scope:Scope}{pos p:Pos}{x:Str}{l:Nat}(h:(p.line==(Expr.ListComp elt gens scope pos).pos.line)=false):swapsWith (.ListComp elt gens scope pos) (some (.Name x p)) l X.env=pure false:=by
 unfold swapsWith
 show(pure (X.env.blockKind==.function&&X.env.kindOf x==some .local&&p.line==(Expr.ListComp elt gens scope pos).pos.line&&!(scope.names.any fun(n,k)=>n==x&&(k==.local || k==.cell))):Sem Bool)=pure false
 rw[h,Bool.and_false,Bool.false_and]
def trN(t:Tr)(c:Tc):Expr->Option IF
 |.List es _=>(HF t c es).bind fun fr=>some (LR fr)
 |_=>none
theorem aeb{aj:aQ}{c:Tc}{X:Cx}{W:WX}{k:Nat}{t:Tr}(o:t.Ok)(a:Amb aj c X W k){e:Expr}{f:IF}(h:trN t c e=some f):FE aj X W e f/\Fx e=false:=by
 unfold trN at h
 split at h
 ·obtain⟨fr,h1,h⟩:=arI.mp h
  cases h
  exact⟨alw (tX o a h1).1,rfl⟩
 ·cases h
def Uh(c:Tc):List Str->Option (List Nat)
 |[]=>some []
 |x::xs=>(match c.sc.names.lookup x with
  |some .local=>(idx c.N x).bind fun i=>(Uh c xs).bind fun js=>some (i::js)
  |_=>none)
theorem abC{aj:aQ}{c:Tc}{X:Cx}{W:WX}{k:Nat}(a:Amb aj c X W k):∀{xs:List Str} {js:List Nat},Uh c xs=some js->xs.length=js.length/\∀(n:Nat) (x:Str) (j:Nat),xs[n]?=some x->js[n]?=some j->X.N[j]?=some x/\X.env.scope.names.lookup x=some .local
 |[],js,h=>by
  cases h
  exact⟨rfl,fun n x j e=>by simp at e⟩
 |x::xs,js,h=>by
  rw[Uh]at h
  split at h
  ·next e=>
   obtain⟨i,h1,h⟩:=arI.mp h
   obtain⟨r,h2,h⟩:=arI.mp h
   cases h
   obtain⟨i1,i2⟩:=abC a h2
   refine⟨by simp[i1],fun n y j e1 e2=>?_⟩
   cases n with
   |zero=>
    simp at e1 e2
    subst e1 e2
    exact⟨by rw[a.hN];exact GJ h1,by rw[a.hs];exact e⟩
   |succ n=>exact i2 n y j (by simpa using e1) (by simpa using e2)
  ·cases h
def nmE:Expr->Option (Str×Nat)
 |.Name x p=>some (x,p.line)
 |_=>none
def T6:List Expr->Option (List (Str×Nat))
 |[]=>some []
 |e::es=>(nmE e).bind fun x=>(T6 es).bind fun r=>some (x::r)
def pnB(c:Tc)(ts vs:List Expr):Option (List Nat):=
 (T6 ts).bind fun nls=>gd ((ts.length==2 || ts.length==3)&&(vs.length==ts.length&&(vs.all nst&&(nls.all (fun p=>p.2==((ts.head?.map (·.pos.line)).getD 0))&&((nls.map (·.1)).eraseDups.length==nls.length&&(!(vs.all (foldedForSure 8))&&!(vs.all (constantsAlone 8)))))))) (Uh c (nls.map (·.1)))
theorem Zv:∀{ts:List Expr} {nls:List (Str×Nat)},T6 ts=some nls->nls.length=ts.length
 |[],_,h=>by cases h;rfl
 |e::es,_,h=>by
  rw[T6]at h
  obtain⟨x,h1,h⟩:=arI.mp h
  obtain⟨r,h2,h⟩:=arI.mp h
  cases h
  simp[Zv h2]
theorem Rr{sc:Scope}{l:Nat}:∀{ts:List Expr} {nls:List (Str×Nat)},T6 ts=some nls->nls.all (fun p=>p.2==l)=true->(∀x∈nls.map (·.1),sc.names.lookup x=some .local)->
  (ts.filterMap fun e=>match e with
  |.Name id pos=>if sc.names.lookup id==some .local&&pos.line==l then some id else none
  |_=>none)=nls.map (·.1)
 |[],_,h,_,_=>by cases h;rfl
 |e::es,_,h,hl,hk=>by
  rw[T6]at h
  obtain⟨x,h1,h⟩:=arI.mp h
  obtain⟨r,h2,h⟩:=arI.mp h
  cases h
  rw[asv,arK]at hl
  have ih:=Rr (sc:=sc) h2 hl.2 fun y hy=>hk y (arO _ hy)
  cases e with
  |Name y p=>
   cases h1
   have e1:=hk y arP
   have e2:(if sc.names.lookup y==some .local&&p.line==l then some y else none)=some y:=by
    rw[e1,show(p.line==l)=true from hl.1]
    rfl
   simp only[List.filterMap_cons,e2,ih,arN]
  |_=>cases h1
theorem Kc:∀(n:Nat) (l:List Str),l.length=n->l.eraseDups.length=l.length->l.Nodup:=by
 intro n
 induction n using Nat.strongRecOn with
 |_ n ih=>
  intro l hn h
  cases l with
  |nil=>exact atb
  |cons a r=>
   rw[as6]at h
   simp only[arU]at h hn
   have h1:(r.filter fun b=>!b==a).length<=r.length:=ar0 _ _
   have h2:∀l:List Str,l.eraseDups.length<=l.length:=by
    intro l
    induction hm:l.length using Nat.strongRecOn generalizing l with
    |_ m ihm=>
     cases l with
     |nil=>simp
     |cons x xs=>
      rw[as6]
      simp only[arU]at hm ⊢
      have z:(xs.filter fun b=>!b==x).length<=xs.length:=ar0 _ _
      have:=ihm _ (by omega) (xs.filter fun b=>!b==x) rfl
      omega
   have h3:=h2 (r.filter fun b=>!b==a)
   have e1:(r.filter fun b=>!b==a).length=r.length:=by omega
   have e2:(r.filter fun b=>!b==a)=r:=as8.mpr (List.length_filter_eq_length_iff.mp e1)
   rw[e2]at h
   rw[asQ]
   refine⟨fun z=>?_,ih r.length (by omega) r rfl (by omega)⟩
   have:=as8.mp e2 a z
   simp at this
theorem abM{aj:aQ}{c:Tc}{X:Cx}{W:WX}{k:Nat}(a:Amb aj c X W k):∀{xs:List Str} {js:List Nat},Uh c xs=some js->xs.Nodup->js.Nodup/\∀j∈js,∃x∈xs,X.N[j]?=some x
 |[],js,h,_=>by
  cases h
  exact⟨atb,fun j hj=>by simp at hj⟩
 |x::xs,js,h,nd=>by
  rw[Uh]at h
  rw[asQ]at nd
  split at h
  ·next e=>
   obtain⟨i,h1,h⟩:=arI.mp h
   obtain⟨r,h2,h⟩:=arI.mp h
   cases h
   obtain⟨i1,i2⟩:=abM a h2 nd.2
   have hi:X.N[i]?=some x:=by rw[a.hN];exact GJ h1
   refine⟨asQ.mpr ⟨fun z=>?_,i1⟩,fun j hj=>?_⟩
   ·obtain⟨y,hy,e2⟩:=i2 i z
    rw[hi]at e2
    cases e2
    exact nd.1 hy
   ·rcases arZ.mp hj with rfl|hj
    ·exact⟨x,arP,hi⟩
    ·obtain⟨y,hy,e2⟩:=i2 j hj
     exact⟨y,arO _ hy,e2⟩
  ·cases h
theorem ag3{vs:List Expr}(h:vs.all nst=true):(vs.any fun e=>match e with
  |.Starred _ _=>true
  |_=>false)=false:=by
 induction vs with
 |nil=>rfl
 |cons v vs ih=>
  rw[asv,arK]at h
  rw[asS,ih h.2,Bool.or_false]
  cases v <;> first | rfl | cases h.1
theorem alv{aj:aQ}{c:Tc}{X:Cx}{W:WX}{k:Nat}(a:uR aj c X W k){ts vs:List Expr}{js:List Nat}{kt k2:Nat}{pt p2:Pos}(h:pnB c ts vs=some js) :
  ∃xs:List Str,xs.length=js.length/\js.length<=3/\js.Nodup/\(∀(n:Nat) (x:Str) (j:Nat),xs[n]?=some x->js[n]?=some j->X.N[j]?=some x/\X.env.scope.names.lookup x=some .local)/\swappedStores [.Tuple ts kt pt] (.Tuple vs k2 p2) X.env=pure (some xs):=by
 unfold pnB at h
 obtain⟨nls,h1,h⟩:=arI.mp h
 obtain⟨hb,h⟩:=aZ.mp h
 simp only[arK,ar4]at hb
 obtain⟨b1,b2,b3,b4,b5,b6,b7⟩:=hb
 have l1:=Zv h1
 obtain⟨i1,i2⟩:=abC a.toAmb h
 have nd:=Kc _ _ rfl (by rw[arT];exact eq_of_beq b5)
 obtain⟨d1,d2⟩:=abM a.toAmb h nd
 have hloc:∀x∈nls.map (·.1),X.env.scope.names.lookup x=some .local:=fun x hx=>by
  obtain⟨n,hn,e⟩:=List.mem_iff_getElem.mp hx
  have hj:n < js.length:=by rw[←i1];exact hn
  exact(i2 n x js[n] (by rw[arM hn,e]) (arM hj)).2
 have hf:=Rr (sc:=X.env.scope) h1 b4 hloc
 have h3:ts.length=2∨ts.length=3:=by
  rw[as9]at b1
  exact b1.imp eq_of_beq eq_of_beq
 refine⟨nls.map (·.1),i1,?_,d1,i2,?_⟩
 ·rw[←i1,arT,l1]
  omega
 ·have eb:X.env.blockKind=.function:=by
   unfold PySem.Env.blockKind
   rw[a.kf]
   rfl
  unfold swappedStores
  have e1:(!(ts.length==2 || ts.length==3) || vs.length != ts.length || X.env.blockKind != .function)=false:=by
   rw[b1,eb,eq_of_beq b2]
   simp
  have e2:=ag3 b3
  have e3:(nls.map (·.1)).length=ts.length:=by rw[arT,l1]
  have e4:((nls.map (·.1)).length != ts.length || (nls.map (·.1)).eraseDups.length != (nls.map (·.1)).length)=false:=by
   rw[e3,eq_of_beq b5,l1]
   simp
  simp only[e1,aso,if_false]
  generalize hA:List.filterMap (β:=Str) _ ts=A
  have eA:A=nls.map (·.1):=hA.symm.trans hf
  subst eA
  split
  ·next z=>exact absurd (z.symm.trans e2) (by decide)
  ·rw[e4,b6,b7]
   rfl
section
variable{X:Cx}{aj:aQ}{W:WX}{q:Bool}{e:Expr}{pos:Pos}
theorem akQ{j:Nat}{y:Str}{py:Pos}{elt tg iter:Expr}{cpos:Pos}{scope:Scope}{own:List (Str×Nat)}{it:IF}{tgf:fU}{js:List Nat}{tt:QT}{te:QF}{ifs:List Expr}(hc:X.calm=true)(hN:X.N.Nodup)(hy:X.N[j]?=some y)(hyl:X.env.scope.names.lookup y=some .local)
  (hsw:swapsWith (.ListComp elt [⟨tg,iter,ifs,0⟩] scope cpos) (some (.Name y py)) pos.line X.env=pure true) (hi:QI aj X W false tg iter it) (ok:blkC X.N X.env.scope scope own=true) (hj:∀j∈js,j∈own.map (·.2))
  (hg:∀(s:Shared) (H:Hp) (C:Addr) (cl:List (Str×Addr)) (fp:List Addr),QG aj (X.blk s H scope (compEnvC scope cl C X.env) fp) tg js tgf)
  (ht:∀(s:Shared) (H:Hp) (C:Addr) (cl:List (Str×Addr)) (fp:List Addr),PTs (X.blk s H scope (compEnvC scope cl C X.env) fp) ifs (kh X.K aj WF tt))
  (he:∀(s:Shared) (H:Hp) (C:Addr) (cl:List (Str×Addr)) (fp:List Addr),QE aj (X.blk s H scope (compEnvC scope cl C X.env) fp) WF elt te) (hs:∀x,foldedSetIterable iter X.env x=pure x) :
  SE aj X W q (.Assign [.Name y py] (.ListComp elt [⟨tg,iter,ifs,0⟩] scope cpos) pos) (Az j (zY it tgf (own.map (·.2)) tt te)):=by
 refine PS.weak (ps_setLc (g:=zW X.K aj js tgf) (tt:=kh X.K aj WF tt) (te:=tQ X.K aj WF te) hc hN hy hyl hsw hi (blkOk_by ok) (fun s H C cl fp=>hg s H C cl fp) ht (fun s H C cl fp=>he s H C cl fp) hs) fun D σ H h=>?_
 exact ZV hj σ H _ (ac2 D σ H h)
end
def agK(t:Tr)(c:Tc)(elt tg iter:Expr)(ifs:List Expr)(scope:Scope):Option IF:=
 (t.I c false tg iter).bind fun it=>(Wi (c.inn scope) tg).bind fun jt=>(Tp t (c.inn scope) ifs).bind fun tt=>(t.E (c.inn scope) elt).bind fun te=>
  gd (blkC c.N c.sc scope (pF tg jt.1)&&(Qv jt.1 ((pF tg jt.1).map (·.2))&&!yN iter)) (some (zY it jt.2 ((pF tg jt.1).map (·.2)) tt te))
def Vp(t:Tr)(c:Tc)(x:Str)(p:Pos)(elt tg iter:Expr)(ifs:List Expr)(scope:Scope)(cpos:Pos):Option SF:=
 (vJ c x).bind fun j=>gd (swB c.sc (.ListComp elt [⟨tg,iter,ifs,0⟩] scope cpos) scope x p || !(p.line==(Expr.ListComp elt [⟨tg,iter,ifs,0⟩] scope cpos).pos.line))
  (match c.ml.contains x with
  |true=>(agK t c elt tg iter ifs scope).bind fun f=>some (Az j f)
  |false=>(Z0 t c elt tg iter ifs scope).bind fun f=>some (aX (aF j) (gOf f)))
section
variable{aj:aQ}{c:Tc}{X:Cx}{W:WX}{k:Nat}{t:Tr}{q:Bool}
theorem acF(o:t.Ok)(a:uR aj c X W k){x:Str}{p cpos pos:Pos}{elt tg iter:Expr}{ifs:List Expr}{scope:Scope}{f:SF}(h:Vp t c x p elt tg iter ifs scope cpos=some f):SE aj X W q (.Assign [.Name x p] (.ListComp elt [⟨tg,iter,ifs,0⟩] scope cpos) pos) f:=by
 unfold Vp at h
 obtain⟨j,hj,h⟩:=arI.mp h
 obtain⟨hsw,h⟩:=aZ.mp h
 obtain⟨s1,s2,s3⟩:=mX a.toAmb hj
 rw[as9]at hsw
 split at h
 ·obtain⟨f1,h1,h⟩:=arI.mp h
  cases h
  unfold agK at h1
  obtain⟨it,h2,h1⟩:=arI.mp h1
  obtain⟨⟨js,tf⟩,h3,h1⟩:=arI.mp h1
  obtain⟨tt,h4,h1⟩:=arI.mp h1
  obtain⟨te,h5,h1⟩:=arI.mp h1
  obtain⟨hb,h1⟩:=aZ.mp h1
  cases h1
  simp only[arK,ar4]at hb
  obtain⟨b1,b2,b3⟩:=hb
  rcases hsw with hsw|hsw
  ·rw[←a.hs]at hsw
   obtain⟨l1,l2⟩:=Rm (l:=pos.line) a.kf hsw
   exact akQ a.calm a.nd s1 l1 l2 (o.oi a.toAmb h2) (by rw[a.hN,a.hs];exact b1) (pO b2) (fun s H C cl fp=>uY (a.toAmb.inn scope s H C cl fp) h3) (fun s H C cl fp=>wg o (a.toAmb.inn scope s H C cl fp) h4) (fun s H C cl fp=>o.oe (a.toAmb.inn scope s H C cl fp) h5) (qY b3)
  ·exact adl a.nd s1 s2 s3 (alF a.calm a.nd (o.oi a.toAmb h2) (by rw[a.hN,a.hs];exact b1) (pO b2) (fun s H C cl fp=>uY (a.toAmb.inn scope s H C cl fp) h3) (fun s H C cl fp=>wg o (a.toAmb.inn scope s H C cl fp) h4) (fun s H C cl fp=>o.oe (a.toAmb.inn scope s H C cl fp) h5) (qY b3)) (ac4 (by simpa using hsw))
 ·obtain⟨f1,h1,h⟩:=arI.mp h
  cases h
  rcases hsw with hsw|hsw
  ·rw[←a.hs]at hsw
   obtain⟨l1,l2⟩:=Rm (l:=pos.line) a.kf hsw
   unfold Z0 at h1
   obtain⟨it,h2,h1⟩:=arI.mp h1
   obtain⟨⟨js,tf⟩,h3,h1⟩:=arI.mp h1
   obtain⟨tt,h4,h1⟩:=arI.mp h1
   obtain⟨te,h5,h1⟩:=arI.mp h1
   obtain⟨hb,h1⟩:=aZ.mp h1
   cases h1
   simp only[arK,ar4]at hb
   obtain⟨b1,b2,b3⟩:=hb
   exact ajC a.calm a.nd s1 l1 l2 (o.oi a.toAmb h2) (by rw[a.hN,a.hs];exact b1) (pO b2) (fun s H C cl fp=>uY (a.toAmb.inn scope s H C cl fp) h3) (fun s H C cl fp=>wg o (a.toAmb.inn scope s H C cl fp) h4) (fun s H C cl fp=>o.oe (a.toAmb.inn scope s H C cl fp) h5) (qY b3)
  ·exact Ym (agJ (abU o a.toAmb h1)) (Vm a.nd s1 s2 s3) (ac4 (l:=pos.line) (by simpa using hsw)) (by with_unfolding_all rfl) (by with_unfolding_all rfl)
end
theorem Cm{tg e:Expr}{l:Nat}{env:PySem.Env}(h:Fx e=false):swapsWithSole [tg] e l env=pure false:=Hr h
def ab7(t:Tr)(s:Ts)(c:Tc):Expr->Expr->Option SF
 |.Name x p,.ListComp elt [⟨tg,iter,ifs,0⟩] scope cpos=>Vp t c x p elt tg iter ifs scope cpos
 |.Name x _,e=>(vJ c x).bind fun j=>match c.ml.contains x with
  |true=>(trN t c e).bind fun f=>some (Az j f)
  |false=>gd (!Fx e) ((s.G c e).bind fun f=>some (aX (aF j) f))
 |.Tuple [.Name x _,.Starred (.Name y _) _] _ _,e=>(vJ c x).bind fun i=>(vJ c y).bind fun j=>gd (!Fx e&&!acr e) ((s.G c e).bind fun f=>some (Yb i j f))
 |.Tuple ts _ _,.Tuple vs _ _=>(pnB c ts vs).bind fun js=>(HF t c vs).bind fun f=>some (sPN js f)
 |.Tuple ts _ _,e=>(Y7 c ts).bind fun js=>gd (!Fx e&&!acr e) ((s.G c e).bind fun f=>some (aX (bA js) f))
 |_,_=>none
theorem Rq{tg e:Expr}{env:PySem.Env}(h:acr e=false):swappedStores [tg] e env=pure none:=by
 cases tg <;> first | rfl | (cases e <;> first | rfl | cases h)
section
variable{aj:aQ}{c:Tc}{X:Cx}{W:WX}{k:Nat}{t:Tr}{s:Ts}{q:Bool}
theorem agf(o:t.Ok)(os:s.Ok q)(a:uR aj c X W k){tg e:Expr}{pos:Pos}{f:SF}(h:ab7 t s c tg e=some f):SE aj X W q (.Assign [tg] e pos) f:=by
 unfold ab7 at h
 split at h
 ·exact acF o a h
 ·obtain⟨j,hj,h⟩:=arI.mp h
  obtain⟨s1,s2,s3⟩:=mX a.toAmb hj
  split at h
  ·obtain⟨f1,h1,h⟩:=arI.mp h
   cases h
   obtain⟨i1,i2⟩:=aeb o a.toAmb h1
   exact adl a.nd s1 s2 s3 i1 (Hr i2)
  ·obtain⟨hc,h⟩:=aZ.mp h
   obtain⟨f1,h1,h⟩:=arI.mp h
   cases h
   exact Ym (os.og a h1) (Vm a.nd s1 s2 s3) (Cm (by simpa using hc)) (by with_unfolding_all rfl) (by with_unfolding_all rfl)
 ·obtain⟨i,hi,h⟩:=arI.mp h
  obtain⟨j,hj,h⟩:=arI.mp h
  obtain⟨hc,h⟩:=aZ.mp h
  obtain⟨f1,h1,h⟩:=arI.mp h
  cases h
  simp only[arK,ar4]at hc
  exact ahf a.calm a.nd (mX a.toAmb hi) (mX a.toAmb hj) (os.og a h1) (Cm hc.1) (Rq hc.2)
 ·obtain⟨js,hj,h⟩:=arI.mp h
  obtain⟨f1,h1,h⟩:=arI.mp h
  cases h
  obtain⟨xs,p1,p2,p3,p4,p5⟩:=alv a hj
  exact ame a.calm a.nd p3 p1 p2 p4 (tX o a.toAmb h1).1 p5 (Cm rfl)
 ·obtain⟨js,hj,h⟩:=arI.mp h
  obtain⟨hc,h⟩:=aZ.mp h
  obtain⟨f1,h1,h⟩:=arI.mp h
  cases h
  simp only[arK,ar4]at hc
  exact Ym (os.og a h1) (aeR a.calm a.nd (Ue a.toAmb hj)) (Cm hc.1) (Rq hc.2) (by with_unfolding_all rfl)
 ·cases h
end
def acA(s:Ts)(c:Tc):List Stmt->Option SF
 |[]=>some aR
 |[a]=>s.S c a
 |a::b::r=>(s.S c a).bind fun f=>(s.B c (b::r)).bind fun g=>some (aD f g)
def stS(t:Tr)(s:Ts)(c:Tc):Stmt->Option SF
 |.Assign [tg] e _=>ab7 t s c tg e
 |.Assign [.Name x _,.Name y _] e _=>(vJ c x).bind fun i=>(vJ c y).bind fun j=>gd (!acr e) ((s.G c e).bind fun f=>some (Ri i j f))
 |.AugAssign (.Name x _) .Add e _=>(vJ c x).bind fun j=>(t.E c e).bind fun f=>some (PN j f)
 |.Expr (.Call (.Attribute (.Name x _) m apos) [e] [] pos) _=>(Lk c x).bind fun j=>gd (m=="append"&&(c.ml.contains x&&(nst e&&(apos.endLine==pos.line)))) ((t.E c e).bind fun f=>some (Fl j f))
 |.Return (some e) _=>(match t.E c e with
  |some f=>some (aP f)
  |none=>(s.G c e).bind fun f=>some (iw f))
 |.If d s1 s2 _=>(s.B c s1).bind fun f=>(s.B c s2).bind fun g=>(t.T c d).bind fun td=>some (bO td f g)
 |.For tg iter body [] _=>(t.I c true tg iter).bind fun it=>(Wi c tg).bind fun jt=>(s.B c body).bind fun f=>gd (!yN iter) (some (mJ it jt.2 f))
 |_=>none
section
variable{aj:aQ}{c:Tc}{X:Cx}{W:WX}{k:Nat}{t:Tr}{s:Ts}{q:Bool}
theorem afy(os:s.Ok q)(a:uR aj c X W k){b:List Stmt}{f:SF}(h:acA s c b=some f):JN aj X W q b f:=by
 unfold acA at h
 split at h
 ·cases h;exact aks
 ·exact ake (os.os a h)
 ·obtain⟨f1,h1,h⟩:=arI.mp h
  obtain⟨f2,h2,h⟩:=arI.mp h
  cases h
  exact aic (os.os a h1) (os.ob a h2)
theorem akL(o:t.Ok)(os:s.Ok q)(a:uR aj c X W k){st:Stmt}{f:SF}(h:stS t s c st=some f):SE aj X W q st f:=by
 unfold stS at h
 split at h
 ·exact agf o os a h
 ·obtain⟨i,hi,h⟩:=arI.mp h
  obtain⟨j,hj,h⟩:=arI.mp h
  obtain⟨hc,h⟩:=aZ.mp h
  obtain⟨f1,h1,h⟩:=arI.mp h
  cases h
  exact aiH a.nd (mX a.toAmb hi) (mX a.toAmb hj) (os.og a h1) (by with_unfolding_all rfl)
 ·obtain⟨j,hj,h⟩:=arI.mp h
  obtain⟨f1,h1,h⟩:=arI.mp h
  cases h
  obtain⟨s1,s2,s3⟩:=mX a.toAmb hj
  exact ai6 a.nd s1 s2 s3 (o.oe a.toAmb h1)
 ·obtain⟨j,hj,h⟩:=arI.mp h
  obtain⟨hc,h⟩:=aZ.mp h
  obtain⟨f1,h1,h⟩:=arI.mp h
  cases h
  simp only[arK]at hc
  cases eq_of_beq hc.1
  obtain⟨s1,s2,s3,s4⟩:=Ao a.toAmb hj
  exact akE s1 s2 s3 s4 (o.oe a.toAmb h1) hc.2.2.1 hc.2.2.2
 ·split at h
  ·next f1 h1=>
   cases h
   exact ajG (o.oe a.toAmb h1)
  ·obtain⟨f1,h1,h⟩:=arI.mp h
   cases h
   exact agW (os.og a h1)
 ·obtain⟨f1,h1,h⟩:=arI.mp h
  obtain⟨f2,h2,h⟩:=arI.mp h
  obtain⟨td,h3,h⟩:=arI.mp h
  cases h
  exact alS (o.ot a.toAmb h3) (os.ob a h1) (os.ob a h2)
 ·obtain⟨it,h1,h⟩:=arI.mp h
  obtain⟨⟨js,tf⟩,h2,h⟩:=arI.mp h
  obtain⟨f1,h3,h⟩:=arI.mp h
  obtain⟨hc,h⟩:=aZ.mp h
  cases h
  exact alz a.ps a.calm (o.oi a.toAmb h1) (uY a.toAmb h2) (os.ob a h3) (qY (by simpa using hc))
 ·cases h
end
abbrev GA:=Mo->Env->bx (List Dat)
def akb(a:GF)(r:GA):GA:=fun M ρ=>(a M ρ).bind fun d M1=>(r M1 ρ).bind fun ds M2=>.ok (d::ds) M2
def akv(m:Mo->List Dat->bx Dat)(as:GA):GF:=fun M ρ=>(as M ρ).bind fun ds M1=>m M1 ds
def aiY(m:Mo->List Dat->Out Dat)(as:GA):GF:=fun M ρ=>(as M ρ).bind fun ds M1=>(m M1 ds).at M1
section
variable{X:Cx}{aj:aQ}{W:WX}{q:Bool}{a b e:Expr}{es:List Expr}{pos p:Pos}
variable{x:Str}{k:Nat}{f:Addr}{fd:FuncData}{ps:List Str}
def amw(a:GT):GT:=fun M ρ=>(a M ρ).bind fun b M1=>.ok (!b) M1
def amQ(a b:GT):GT:=fun M ρ=>(a M ρ).bind fun x M1=>if x=true then b M1 ρ else .ok false M1
def an3(a b:GT):GT:=fun M ρ=>(a M ρ).bind fun x M1=>if x=true then .ok true M1 else b M1 ρ
def amj(a:GF):GT:=fun M ρ=>(a M ρ).bind fun d M1=>(Jq d).at M1
end
section
variable{aj:aQ}{c:Tc}{X:Cx}{W:WX}{k:Nat}{t:Tr}{s:Ts}{q:Bool}
def xG(t:Tr)(s:Ts)(c:Tc):Expr->Option GF
 |.Call (.Name x _) [] [] _=>(match c.G.lookup x with
  |some (.cls 0 m)=>gd (HD c.sc x&&!Gu x) (some (Bg x m au))
  |_=>none)
 |.Call (.Name x _) (e::es) [] _=>(match c.G.lookup x with
  |some (.fg n m)=>gd (HD c.sc x&&(!Gu x&&decide ((e::es).length=n))) ((HF t c (e::es)).bind fun as=>some (xg m as))
  |some (.cls n m)=>gd (HD c.sc x&&(!Gu x&&decide ((e::es).length=n))) ((HF t c (e::es)).bind fun as=>some (Bg x m as))
  |_=>none)
 |.Call (.Attribute o m apos) es [] pos=>(c.hs.Ms.lookup m).bind fun tb=>(t.W c o).bind fun fo=>(HF t c es).bind fun as=>
  gd (tbN tb (es.length+1)&&(baseOk o&&(decide (es.length < 30)&&(apos.endLine==pos.line)))) (some (cO tb fo as))
 |_=>none
theorem al8(o:t.Ok)(os:s.Ok false)(a:uR aj c X W k){e:Expr}{f:GF}(h:xG t s c e=some f):GE aj X W false e f:=by
 unfold xG at h
 split at h
 ·split at h
  ·next m hl=>
   obtain⟨hb,h⟩:=aZ.mp h
   cases h
   simp only[arK,ar4]at hb
   exact aiI a.rm (a.gl _ _ hl) (tL a.toAmb hb.1) (tK hb.2).1
  ·cases h
 ·split at h
  ·next n m hl=>
   obtain⟨hb,h⟩:=aZ.mp h
   simp only[arK,ar4,decide_eq_true_eq]at hb
   obtain⟨b1,b2,b3⟩:=hb
   obtain⟨fa,hm,hk,fd,ps,j,hj,hp,hB,F⟩:=a.gl _ _ hl
   obtain⟨as,h1,h⟩:=arI.mp h
   cases h
   obtain⟨i1,i2,i3⟩:=tX o a.toAmb h1
   exact ain a.tk F (a.rm.mono hj) (tL a.toAmb b1) hm hk hB i1 (b3.trans hp.symm) (tK b2).1 i2 i3
  ·next n m hl=>
   obtain⟨hb,h⟩:=aZ.mp h
   simp only[arK,ar4,decide_eq_true_eq]at hb
   obtain⟨b1,b2,b3⟩:=hb
   obtain⟨as,h1,h⟩:=arI.mp h
   cases h
   obtain⟨i1,i2,i3⟩:=tX o a.toAmb h1
   exact akG a.rm (a.gl _ _ hl) (tL a.toAmb b1) (tK b2).1 i1 i2 (fun M ρ ds z=>by rw[i3 M ρ ds z];exact b3)
  ·cases h
 ·next b m apos es pos=>
  obtain⟨tb,h1,h⟩:=arI.mp h
  obtain⟨fo,h2,h⟩:=arI.mp h
  obtain⟨as,h3,h⟩:=arI.mp h
  obtain⟨hb,h⟩:=aZ.mp h
  cases h
  simp only[arK,decide_eq_true_eq]at hb
  obtain⟨b2,b3,b4,b5⟩:=hb
  obtain⟨i1,i2,i3⟩:=tX o a.toAmb h3
  cases es with
  |nil=>
   cases h3
   exact agl a.tk a.rm (XS a.toAmb h1 b2) (o.ow a.toAmb h2) b3 b5
  |cons e es=>exact aho a.tk a.rm (XS a.toAmb h1 b2) (o.ow a.toAmb h2) i1 i3 b3 i2 b5 b4
 ·cases h
end
section
variable{aj:aQ}{c:Tc}{X:Cx}{W:WX}{k:Nat}{t:Tr}{s:Ts}{q:Bool}
theorem Jy{e o:Expr}{f:Str}{p:Pos}{l:Nat}{env:PySem.Env}:swapsWith e (some (.Attribute o f p)) l env=pure false:=by
 cases e <;> rfl
theorem afA{e o:Expr}{i:Expr}{p:Pos}{l:Nat}{env:PySem.Env}:swapsWith e (some (.Subscript o i p)) l env=pure false:=by
 cases e <;> rfl
theorem afS{o:Expr}{f:Str}{p spos:Pos}{i:Expr}{env:PySem.Env}(h:aah i=false):∀v,assign (.Subscript (.Attribute o f p) i spos) env v=(do
   let ov ←holding [v] (eval (.Attribute o f p) env)
   let iv ←holding [v,ov] (eval i env)
   standAt spos
   holding [v,ov,iv] (setItem ov iv v)
   release [v,ov,iv] []):=fun v=>by
 cases i <;> first | (with_unfolding_all rfl) | cases h
def ajv(t:Tr)(c:Tc)(kx tg iter:Expr)(scope:Scope):Option (Mo->Env->Out (List (Dat×Dat))):=
 (t.I c false tg iter).bind fun it=>(Wi (c.inn scope) tg).bind fun jt=>(t.E (c.inn scope) kx).bind fun te=>
  gd (blkC c.N c.sc scope (pF tg jt.1)&&(Qv jt.1 ((pF tg jt.1).map (·.2))&&!yN iter)) (some (qDc it jt.2 ((pF tg jt.1).map (·.2)) te))
theorem afE(a:Amb aj c X W k):X.A.units+64 < cLine:=by have:=a.rm.un;omega
def af9(t:Tr)(s:Ts)(c:Tc)(o:Expr)(f:Str):Expr->Option SF
 |.Dict [] [] _=>(t.W c o).bind fun fo=>(c.hs.df.lookup f).bind fun b=>some (Ny c.hs.ft fo f b)
 |.DictComp kx (.Constant (.bool true) _ _) [⟨tg,iter,[],0⟩] scope _=>(t.W c o).bind fun fo=>(ajv t c kx tg iter scope).bind fun fe=>some (Rc c.hs.ft fo f fe)
 |.List es p=>(t.W c o).bind fun fo=>(trN t c (.List es p)).bind fun fe=>some (DY c.hs.ft fo f fe)
 |e=>gd (!Fx e) ((t.W c o).bind fun fo=>(s.G c e).bind fun fe=>some (uH c.hs.ft fo f fe))
theorem aiA(ot:t.Ok)(os:s.Ok false)(a:uR aj c X W k){o e:Expr}{f:Str}{p pos:Pos}{sf:SF}(h:af9 t s c o f e=some sf):SE aj X W false (.Assign [.Attribute o f p] e pos) sf:=by
 have hk:=a.hk
 unfold af9 at h
 split at h
 ·obtain⟨fo,h1,h⟩:=arI.mp h
  obtain⟨b,h2,h⟩:=arI.mp h
  cases h
  exact ahy hk.co hk.fk hk.hw (ot.ow a.toAmb h1) Jy
 ·obtain⟨fo,h1,h⟩:=arI.mp h
  obtain⟨fe,h2,h⟩:=arI.mp h
  cases h
  unfold ajv at h2
  obtain⟨it,i1,h2⟩:=arI.mp h2
  obtain⟨⟨js,tf⟩,i2,h2⟩:=arI.mp h2
  obtain⟨te,i3,h2⟩:=arI.mp h2
  obtain⟨hb,h2⟩:=aZ.mp h2
  cases h2
  simp only[arK,ar4]at hb
  obtain⟨b1,b2,b3⟩:=hb
  exact ahp hk.co hk.fk (ot.ow a.toAmb h1) (akc (g:=zW X.K aj js tf) (tk:=tQ X.K aj WF te) a.calm a.nd (afE a.toAmb) (ot.oi a.toAmb i1) (blkOk_by (by rw[a.hN,a.hs];exact b1)) (fun s H C cl fp=>uY (a.toAmb.inn _ s H C cl fp) i2) (fun s H C cl fp=>ot.oe (a.toAmb.inn _ s H C cl fp) i3) (qY b3)) (fun σ H Q z=>amD hk.hw (pO b2) σ H Q z) Jy
 ·obtain⟨fo,h1,h⟩:=arI.mp h
  obtain⟨fe,h2,h⟩:=arI.mp h
  cases h
  exact ahg hk.co hk.fk (ot.ow a.toAmb h1) (aeb ot a.toAmb h2).1 Jy
 ·obtain⟨hc,h⟩:=aZ.mp h
  obtain⟨fo,h1,h⟩:=arI.mp h
  obtain⟨fe,h2,h⟩:=arI.mp h
  cases h
  exact ahh hk.co hk.fk (ot.ow a.toAmb h1) (os.og a h2) Jy
def aad(n:Str):List Expr->Option (List Str)
 |[]=>some []
 |.Attribute (.Name m _) f _::es=>gd (m==n) ((aad n es).bind fun fs=>some (f::fs))
 |_=>none
def acB(nm:Option Str):Expr->Option Ez
 |.Constant (.str x) _ _=>some (.con (.str x))
 |.Constant .none _ _=>some (.con .none)
 |.Tuple [] _ _=>some (.con (.tuple []))
 |.Attribute (.Name m _) f _=>nm.bind fun n=>gd (m==n) (some (.fld f))
 |.Tuple es _ _=>nm.bind fun n=>(aad n es).bind fun fs=>some (.flds fs)
 |_=>none
def Ez.fs:Ez->List Str
 |.con _=>[]
 |.fld f=>[f]
 |.flds fs=>fs
def ab8(c:Tc)(nm:Option Str):List Stmt->Option (List (Nat×Ez))
 |[]=>some []
 |.Assign [.Name x _] e _::r=>(vJ c x).bind fun j=>(acB nm e).bind fun se=>(ab8 c nm r).bind fun st=>some ((j,se)::st)
 |_=>none
def Uu(c:Tc):Option Str->Option (Option Nat)
 |none=>some none
 |some n=>(Lk c n).bind fun i=>match c.sc.names.lookup n with
  |some .local=>some (some i)
  |_=>none
def aje(c:Tc):ExceptHandler->Option Hd
 |.ExceptHandler (some (.Name y _)) nm (s0::su) _=>(c.hs.xm.lookup y).bind fun tab=>(Uu c nm).bind fun i=>(ab8 c nm (s0::su)).bind fun st=>
  (match c.G.lookup y with
  |some .exc=>some true
  |some (.exi _)=>some true
  |_=>none).bind fun _=>
  gd (HD c.sc y&&(!Gu y&&(st.all (fun p=>match i with
   |some j=>!(j==p.1)
   |none=>true)&&st.all (fun p=>p.2.fs.all (fun f=>((c.hs.xf.lookup y).getD []).contains f)&&decide (p.2.fs.length<=100))))) (some ⟨y,fun x=>tab.lookup x,i,st⟩)
 |_=>none
def X3(c:Tc):List ExceptHandler->Option (List Hd)
 |[]=>some []
 |h::hs=>(aje c h).bind fun d=>(X3 c hs).bind fun ds=>some (d::ds)
theorem abO{y n:Str}{C:Addr}{a:Addr}{oe:Obj}{cls:Value}{d:Option Addr}{pn:List (Addr×Obj)}{j:Nat}{fl:List Str}(hC:aj y=some C)(T:XfC X.K C)(hno:∀f∈fl,PySem.W.findIn X.K (.ref C) f=some none)(hz:Zc cls d oe)(hf:∃vs,oe.data=.fields vs)(hN:X.N[j]?=some n)(hv:Vis X.env.scope n)(hd:(n==("__debug__" : Str))=false)(hcd:(n==("__classdict__" : Str))=false) :
  ∀{es:List Expr} {fs:List Str},aad n es=some fs->(∀f∈fs,f∈fl)->PA (X.suite a ((a,oe)::pn)) es (tUA X.K aj a cls d (some j) fun x=>M5 y x fs)
 |[],fs,h,_=>by
  cases h
  exact adW
 |.Attribute (.Name m p) f p2::es,fs,h,hs=>by
  rw[aad]at h
  obtain⟨hm,h⟩:=aZ.mp h
  obtain⟨fr,h1,h⟩:=arI.mp h
  cases h
  cases eq_of_beq hm
  exact aiC (aeE hC T (hno f (hs f arP)) hz hf hN hv hd hcd) (abO hC T hno hz hf hN hv hd hcd h1 fun f hf=>hs f (arO _ hf)) rfl
theorem ahD{y:Str}{nm:Option Str}{i:Option Nat}{a:Addr}{oe:Obj}{cls:Value}{d:Option Addr}{pn:List (Addr×Obj)}{e:Expr}{se:Ez}(am:Amb aj c X W k)(hi:Uu c nm=some i)(hy:(c.hs.xf.lookup y).getD []=fl)(hfl:∀f∈se.fs,f∈fl)(hl:se.fs.length<=100)(hz:Zc cls d oe)(hf:∃vs,oe.data=.fields vs)(h:acB nm e=some se) :
  PE (X.suite a ((a,oe)::pn)) e (tU X.K aj a cls d i fun x=>Px y x se):=by
 have fld:∀n j,nm=some n->i=some j->X.N[j]?=some n/\Vis X.env.scope n/\(n==("__debug__" : Str))=false/\(n==("__classdict__" : Str))=false:=fun n j e1 e2=>by
  subst e1 e2
  unfold Uu at hi
  obtain⟨j',h1,hi⟩:=arI.mp hi
  split at hi
  ·cases hi
   exact Ao am h1
  ·cases hi
 have hsome:∀n,nm=some n->∃j,i=some j:=fun n e1=>by
  subst e1
  unfold Uu at hi
  obtain⟨j',h1,hi⟩:=arI.mp hi
  split at hi
  ·cases hi
   exact⟨_,rfl⟩
  ·cases hi
 have hxf:fl≠[]->∃C,aj y=some C/\XfC X.K C/\∀f∈fl,PySem.W.findIn X.K (.ref C) f=some none:=fun ne=>by
  cases hx:c.hs.xf.lookup y with
  |none=>
   rw[hx]at hy
   exact absurd hy.symm ne
  |some l=>
   rw[hx]at hy
   cases hy
   exact am.hk.xf y _ hx
 unfold acB at h
 split at h
 ·cases h
  exact aeJ pe_str fun σ H Q ⟨g,ρ,M,x,z,I,e,kk⟩=>by
   cases e
   exact kk _ H (Ex.refl H) (.str _)
 ·cases h
  exact aeJ pe_non fun σ H Q ⟨g,ρ,M,x,z,I,e,kk⟩=>by
   cases e
   exact kk _ H (Ex.refl H) .non
 ·cases h
  exact PE.weak (adC (aj:=aj) (cls:=cls) (d:=d) (i:=i) adW fun x zs e=>by cases e;exact asx _) fun σ H Q z=>z
 ·obtain⟨n,e1,h⟩:=arI.mp h
  obtain⟨hm,h⟩:=aZ.mp h
  cases h
  cases eq_of_beq hm
  obtain⟨j,rfl⟩:=hsome _ e1
  obtain⟨f1,f2,f3,f4⟩:=fld _ j e1 rfl
  obtain⟨C,c1,c2,c3⟩:=hxf (List.ne_nil_of_mem (hfl _ (arQ.mpr rfl)))
  exact aeE c1 c2 (c3 _ (hfl _ (arQ.mpr rfl))) hz hf f1 f2 f3 f4
 ·next es _ _ hne=>
  obtain⟨n,e1,h⟩:=arI.mp h
  obtain⟨fs,e2,h⟩:=arI.mp h
  cases h
  obtain⟨j,rfl⟩:=hsome _ e1
  obtain⟨f1,f2,f3,f4⟩:=fld _ j e1 rfl
  have hfs:fs≠[]:=fun z=>by
   subst z
   match es,e2 with
   |[],_=>exact hne rfl
   |.Attribute (.Name m _) f _::es,e2=>
    rw[aad]at e2
    obtain⟨_,e2⟩:=aZ.mp e2
    obtain⟨_,_,e2⟩:=arI.mp e2
    cases e2
  have hfn:fl≠[]:=by
   cases fs with
   |nil=>exact absurd rfl hfs
   |cons f r=>exact List.ne_nil_of_mem (hfl f arP)
  obtain⟨C,c1,c2,c3⟩:=hxf hfn
  exact adC (abO c1 c2 c3 hz hf f1 f2 f3 f4 e2 hfl) fun x zs e=>by
   have:=VD e
   have hl:fs.length<=100:=hl
   omega
 ·cases h
theorem T9{y:Str}{nm:Option Str}{i:Option Nat}{a:Addr}{oe:Obj}{cls:Value}{d:Option Addr}{pn:List (Addr×Obj)}{fl:List Str}(am:Amb aj c X W k)(hi:Uu c nm=some i)(hy:(c.hs.xf.lookup y).getD []=fl)(hz:Zc cls d oe)(hf:∃vs,oe.data=.fields vs) :
  ∀{ss:List Stmt} {st:List (Nat×Ez)},ab8 c nm ss=some st->(∀p∈st,(∀f∈p.2.fs,f∈fl)/\p.2.fs.length<=100)->PSs (X.suite a ((a,oe)::pn)) ss (tSu X.K aj a cls d i y st)
 |[],st,h,_=>by
  cases h
  exact PSs.weak pss_nil fun D σ H z=>akq z
 |.Assign [.Name x p] e p2::r,st,h,hs=>by
  rw[ab8]at h
  obtain⟨j,h1,h⟩:=arI.mp h
  obtain⟨se,h2,h⟩:=arI.mp h
  obtain⟨st',h3,h⟩:=arI.mp h
  cases h
  obtain⟨s1,s2,s3⟩:=mX am h1
  obtain⟨u1,u2⟩:=hs (j,se) arP
  have he:=ahD (a:=a) (pn:=pn) am hi hy u1 u2 hz hf h2
  have hne:Fx e=false/\swappedStores [.Name x p] e X.env=pure none:=by
   unfold acB at h2
   split at h2 <;> first | exact⟨rfl,rfl⟩ | cases h2
  refine PSs.weak (pss_cons (ps_asg he (pg_name (X:=X.suite a ((a,oe)::pn)) am.nd s1 s2 s3) (Cm hne.1) hne.2 (by with_unfolding_all rfl)) (T9 am hi hy hz hf h3 fun p hp=>hs p (arO _ hp))) fun D σ H z=>?_
  exact aj1 z fun σ' H' z'=>z'
def anE(aj:aQ)(K:arJ)(h:Hd)(D:Addr):Cl:=⟨.ref D,h.nm,fun a cls d=>tSu K aj a cls d h.nm h.y h.st⟩
theorem aaq(am:Amb aj c X W k):∀{hds:List ExceptHandler} {hs:List Hd},X3 c hds=some hs->∃ls,Ce X hds ls/\Gj X.K aj hs ls
 |[],hs,h=>by
  cases h
  exact⟨[],.nil,.nil⟩
 |h0::hds,hs,h=>by
  rw[X3]at h
  obtain⟨d,h1,h⟩:=arI.mp h
  obtain⟨ds,h2,h⟩:=arI.mp h
  cases h
  obtain⟨ls,i1,i2⟩:=aaq am h2
  unfold aje at h1
  split at h1
  ·next y np nm s0 su cp=>
   obtain⟨tab,j1,h1⟩:=arI.mp h1
   obtain⟨i,j2,h1⟩:=arI.mp h1
   obtain⟨st,j3,h1⟩:=arI.mp h1
   obtain⟨_,j4,h1⟩:=arI.mp h1
   obtain⟨hb,h1⟩:=aZ.mp h1
   cases h1
   simp only[arK,ar4]at hb
   obtain⟨b1,b2,b3,b4⟩:=hb
   obtain⟨⟨D,hD⟩,hx⟩:=am.hk.xm y tab j1
   have hm:X.mg y=some (.ref D):=by
    split at j4
    ·next hl=>
     obtain⟨C,g1,g2,_⟩:=am.gl y _ hl
     rw[hD]at g2
     cases g2
     exact g1
    ·next hl=>
     obtain⟨C,fI,fd,ps,g1,g2,_⟩:=am.gl y _ hl
     rw[hD]at g2
     cases g2
     exact g1
    ·cases j4
   have hnames:Names X y (.ref D):=⟨tL am b1,(tK b2).1,.inl hm⟩
   have hst:∀p∈st,(∀f∈p.2.fs,f∈(c.hs.xf.lookup y).getD [])/\p.2.fs.length<=100:=fun p hp=>by
    have:=ar7.mp b4 p hp
    rw[arK,decide_eq_true_eq]at this
    exact⟨fun f hf=>by simpa using ar7.mp this.1 f hf,this.2⟩
   have hnj:∀p∈st,i≠some p.1:=fun p hp z=>by
    subst z
    have:=ar7.mp b3 p hp
    simp at this
   refine⟨anE aj X.K ⟨y,fun x=>tab.lookup x,i,st⟩ D::ls,?_,.cons ⟨⟨D,hD,rfl⟩,hx,rfl,rfl,hnj⟩ i2⟩
   cases nm with
   |none=>
    cases j2
    exact .one hnames rfl (fun a oe cls d pn hz hf=>T9 am rfl rfl hz hf j3 hst) i1
   |some n=>
    have j2':=j2
    unfold Uu at j2
    obtain⟨i',s1,j2⟩:=arI.mp j2
    split at j2
    ·next hloc=>
     cases j2
     refine .as hnames rfl (Ao am s1).1 ?_ (fun a oe cls d pn hz hf=>T9 am j2' rfl hz hf j3 hst) i1
     unfold PySem.Env.kindOf
     rw[am.hs]
     exact hloc
    ·cases j2
  ·cases h1
theorem uR.tr(a:uR aj c X W k){W':WX}{pn:List (Addr×Obj)}{xe:Value->Shared->Prop}(t:Takes (X.tr pn xe) W')(p:PassesOwn (model X.prog X.w) X.A X.env xe):uR aj c (X.tr pn xe) W' k where
 hN:=a.hN
 hs:=a.hs
 calm:=a.calm
 nd:=a.nd
 tk:=t
 rm:=a.rm
 gl:=a.gl
 bl:=a.bl
 fn:=a.fn
 hk:=a.hk
 ps:=p
 st:=a.st
 fr:=a.fr
 kf:=a.kf
def xS(q:Bool)(t:Tr)(s:Ts)(c:Tc):Stmt->Option SF
 |.Raise (some (.Call (.Name x _) [] [] _)) none _=>(match c.G.lookup x with
  |some .exc=>gd (HD c.sc x&&!Gu x) (some (eV x))
  |_=>none)
 |.Raise (some (.Call (.Name x _) (e::es) [] _)) none _=>(match c.G.lookup x with
  |some (.exi fs)=>(HF t c (e::es)).bind fun as=>gd (HD c.sc x&&(!Gu x&&(decide ((e::es).length=fs.length)&&decide (fs.length<=1000)))) (some (Cp x fs as))
  |_=>none)
 |.Try body (h::hds) [] [] _=>(s.B c body).bind fun f=>(X3 c (h::hds)).bind fun hs=>some (U0 f hs)
 |.Pass _=>some aR
 |.Expr (.Call (.Attribute (.Attribute o f p1) m apos) [e] [] pos) epos=>(match q with
  |true=>(s.G c (.Call (.Attribute (.Attribute o f p1) m apos) [e] [] pos)).bind fun f=>some (cI f)
  |false=>match m=="append" with
   |true=>gd (baseOk o&&(nst e&&(apos.endLine==pos.line))) ((t.W c o).bind fun fo=>(s.G c e).bind fun fe=>some (Fd f fo fe))
   |false=>(s.G c (.Call (.Attribute (.Attribute o f p1) m apos) [e] [] pos)).bind fun f=>some (cI f))
 |.Expr e _=>gd (!Fx e) ((s.G c e).bind fun f=>some (cI f))
 |.Assign [.Name x p] (.ListComp elt [⟨tg,iter,ifs,0⟩,⟨tg1,iter1,ifs1,0⟩] scope cpos) _=>(vJ c x).bind fun j=>
  gd (swB c.sc (.ListComp elt [⟨tg,iter,ifs,0⟩,⟨tg1,iter1,ifs1,0⟩] scope cpos) scope x p&&!c.ml.contains x) ((Ry t c elt tg iter ifs tg1 iter1 ifs1 scope).bind fun f=>some (aX (aF j) (gOf f)))
 |.Assign [.Attribute o f _] e _=>(match q with
  |true=>none
  |false=>af9 t s c o f e)
 |.Assign [.Subscript (.Attribute o f _) i _] e _=>(match q with
  |true=>none
  |false=>gd (baseOk o&&(!aah i&&!Fx e)) ((t.W c o).bind fun fo=>(t.E c i).bind fun fi=>(t.E c e).bind fun fe=>match c.hs.df.lookup f with
   |some _=>some (NQ f fo fi fe)
   |none=>some (Ro f fo fi fe)))
 |.AugAssign (.Attribute o f _) .Add e _=>(match q with
  |true=>none
  |false=>(t.W c o).bind fun fo=>(t.E c e).bind fun fe=>some (R7 c.hs.ft f fo fe))
 |.Delete [.Subscript (.Attribute o f _) i _] _=>(match q with
  |true=>none
  |false=>gd (baseOk o) ((t.W c o).bind fun fo=>(t.E c i).bind fun fi=>some (MP f fo fi)))
 |_=>none
theorem amL(o:t.Ok)(os:s.Ok q)(a:uR aj c X W k){st:Stmt}{f:SF}(h:xS q t s c st=some f):SE aj X W q st f:=by
 have hk:=a.hk
 unfold xS at h
 split at h
 ·split at h
  ·next hl=>
   obtain⟨hb,h⟩:=aZ.mp h
   cases h
   simp only[arK,ar4]at hb
   exact afr a.calm a.tk (tL a.toAmb hb.1) (tK hb.2).1 (a.gl _ _ hl)
  ·cases h
 ·split at h
  ·next fs hl=>
   obtain⟨as,h1,h⟩:=arI.mp h
   obtain⟨hb,h⟩:=aZ.mp h
   cases h
   simp only[arK,ar4,decide_eq_true_eq]at hb
   obtain⟨b1,b2,b3,b4⟩:=hb
   obtain⟨i1,i2,i3⟩:=tX o a.toAmb h1
   exact adV a.calm a.tk a.rm (tL a.toAmb b1) (tK b2).1 (a.gl _ _ hl) i1 i2 (fun M ρ ds z=>by rw[i3 M ρ ds z];exact b3) b4
  ·cases h
 ·obtain⟨f1,h1,h⟩:=arI.mp h
  obtain⟨hs,h2,h⟩:=arI.mp h
  cases h
  obtain⟨ls,i1,i2⟩:=aaq a.toAmb h2
  exact akk a.st a.fr a.nd a.tk (fun W' pn xe t p=>os.ob (a.tr t p) h1) i1 i2
 ·cases h
  exact PS.weak ps_pass fun D σ H ⟨g,ρ,M,I,z⟩=>z σ H g .refl I
 ·split at h
  ·obtain⟨f1,h1,h⟩:=arI.mp h
   cases h
   exact Vd (os.og a h1) (Hr rfl)
  ·split at h
   ·next hm=>
    obtain⟨hb,h⟩:=aZ.mp h
    obtain⟨fo,h1,h⟩:=arI.mp h
    obtain⟨fe,h2,h⟩:=arI.mp h
    cases h
    simp only[arK]at hb
    cases eq_of_beq hm
    exact ah2 hk.co (o.ow a.toAmb h1) hb.1 (os.og a h2) hb.2.1 hb.2.2
   ·obtain⟨f1,h1,h⟩:=arI.mp h
    cases h
    exact Vd (os.og a h1) (Hr rfl)
 ·obtain⟨hb,h⟩:=aZ.mp h
  obtain⟨f1,h1,h⟩:=arI.mp h
  cases h
  exact Vd (os.og a h1) (Hr (by simpa using hb))
 ·obtain⟨j,hj,h⟩:=arI.mp h
  obtain⟨hsw,h⟩:=aZ.mp h
  rw[arK]at hsw
  obtain⟨f1,h1,h⟩:=arI.mp h
  cases h
  obtain⟨s1,s2,s3⟩:=mX a.toAmb hj
  have hsw:=hsw.1
  rw[←a.hs]at hsw
  have l1:=(Rm (l:=0) a.kf hsw).1
  have l2:=fun l=>(Rm (l:=l) a.kf hsw).2
  clear h
  unfold Ry at h1
  obtain⟨it,g1,h⟩:=arI.mp h1
  obtain⟨⟨js,tf⟩,h2,h⟩:=arI.mp h
  obtain⟨tt,h3,h⟩:=arI.mp h
  obtain⟨it1,h4,h⟩:=arI.mp h
  obtain⟨⟨js1,tf1⟩,h5,h⟩:=arI.mp h
  obtain⟨tt1,h6,h⟩:=arI.mp h
  obtain⟨te,h7,h⟩:=arI.mp h
  obtain⟨hb,h⟩:=aZ.mp h
  cases h
  simp only[arK,ar4]at hb
  obtain⟨b1,b2,b3,b4,b5,b6⟩:=hb
  have am:=a.toAmb
  exact aiy a.calm a.nd s1 l1 (l2 _) (o.oi am g1) (by rw[a.hN,a.hs];exact b1) (pO b2) (pO b3) (pO b4) (fun s H C cl fp=>uY (am.inn _ s H C cl fp) h2) (fun s H C cl fp=>wg o (am.inn _ s H C cl fp) h3) (fun s H C cl fp=>o.oi (am.inn _ s H C cl fp) h4) (fun s H C cl fp=>uY (am.inn _ s H C cl fp) h5) (fun s H C cl fp=>wg o (am.inn _ s H C cl fp) h6) (fun s H C cl fp=>o.oe (am.inn _ s H C cl fp) h7) (qY b5) (fun env=>qY b6)
 ·split at h
  ·cases h
  ·exact aiA o os a h
 ·split at h
  ·cases h
  ·obtain⟨hb,h⟩:=aZ.mp h
   obtain⟨fo,h1,h⟩:=arI.mp h
   obtain⟨fi,h2,h⟩:=arI.mp h
   obtain⟨fe,h3,h⟩:=arI.mp h
   simp only[arK,ar4]at hb
   obtain⟨b1,b2,b3⟩:=hb
   split at h
   ·cases h
    exact ahN hk.co hk.hw (afE a.toAmb) (o.ow a.toAmb h1) b1 (o.oe a.toAmb h2) (o.oe a.toAmb h3) afA
   ·cases h
    exact ah5 hk.co (o.ow a.toAmb h1) b1 (o.oe a.toAmb h3) (o.oe a.toAmb h2) (afS b2) (Cm b3) (by with_unfolding_all rfl)
 ·split at h
  ·cases h
  ·obtain⟨fo,h1,h⟩:=arI.mp h
   obtain⟨fe,h2,h⟩:=arI.mp h
   cases h
   exact aik hk.co hk.fk (o.ow a.toAmb h1) (o.oe a.toAmb h2)
 ·split at h
  ·cases h
  ·obtain⟨hb,h⟩:=aZ.mp h
   obtain⟨fo,h1,h⟩:=arI.mp h
   obtain⟨fi,h2,h⟩:=arI.mp h
   cases h
   exact ahJ hk.co hk.hw (afE a.toAmb) (o.ow a.toAmb h1) hb (o.oe a.toAmb h2)
 ·cases h
end
def tr0:Tr:=⟨fun _ _=>none,fun _ _=>none,fun _ _=>none,fun _ _ _ _=>none⟩
def ald(t:Tr):Tr:=⟨xtE t,xtW t,xtT t,xtI t⟩
def tr:Nat->Tr
 |0=>tr0
 |n+1=>ald (tr n)
theorem zL:∀n,(tr n).Ok
 |0=>⟨fun _=>(by intro _ _ h;cases h),fun _=>(by intro _ _ h;cases h),fun _=>(by intro _ _ h;cases h),fun _=>(by intros;rename_i h;cases h)⟩
 |n+1=>⟨fun a=>(by intro _ _ h;exact(vW h).elim (amM (zL n) a) (ajn (zL n) a)),fun a=>(by intro _ _ h;exact(vW h).elim (amF (zL n) a) (alh (zL n) a)),fun a=>(by intro _ _ h;exact(vW h).elim (amf (zL n) a) (ajs (zL n) a)),fun a=>(by intro _ _ _ _ h;exact(vW h).elim (alX (zL n) a) (akt (zL n) a))⟩
def ts0:Ts:=⟨fun _ _=>none,fun _ _=>none,fun _ _=>none,fun _ _=>none⟩
def ldG(q:Bool)(t:Tr)(s:Ts)(c:Tc)(e:Expr):Option GF:=match q with
 |true=>none
 |false=>xG t s c e
def ldH(_:Bool)(_:Ts)(_:Tc)(_:Expr):Option GT:=none
def aj2(q:Bool)(t:Tr)(s:Ts):Ts:=⟨fun c e=>els ((t.E c e).bind fun f=>some (gOf f)) (ldG q t s c e),fun c e=>els ((t.T c e).bind fun f=>some (af4 f)) (ldH q s c e),fun c e=>els (stS t s c e) (xS q t s c e),acA s⟩
def ts(q:Bool)(t:Tr):Nat->Ts
 |0=>ts0
 |n+1=>aj2 q t (ts q t n)
theorem Nv{t:Tr}(o:t.Ok)(q:Bool):∀n,(ts q t n).Ok q
 |0=>⟨fun _=>(by intro _ _ h;cases h),fun _=>(by intro _ _ h;cases h),fun _=>(by intro _ _ h;cases h),fun _=>(by intros;rename_i h;cases h)⟩
 |n+1=>⟨fun a=>by
   intro _ _ h
   rcases vW h with h|h
   ·obtain⟨f,h1,h⟩:=arI.mp h
    cases h
    exact agJ (o.oe a.toAmb h1)
   ·cases q with
    |true=>cases h
    |false=>exact al8 o (Nv o false n) a h,fun a=>by
   intro _ _ h
   rcases vW h with h|h
   ·obtain⟨f,h1,h⟩:=arI.mp h
    cases h
    exact amc (o.ot a.toAmb h1)
   ·(cases h),fun a=>by
   intro _ _ h
   rcases vW h with h|h
   ·exact akL o (Nv o q n) a h
   ·exact amL o (Nv o q n) a h,fun a=>by
   intro _ _ h
   exact afy (Nv o q n) a h⟩
def rd(c:Tc)(b:List Stmt):Option SF:=(ts true (tr 40) 60).B c b
def rdG(c:Tc)(b:List Stmt):Option SF:=(ts false (tr 40) 60).B c b
def CP(P:Program)(w:World)(K:arJ)(mg:Str->Option Value)(base:Heap)(aj:aQ)(k:Nat):List (Str×GV)->Prop
 |[]=>True
 |(x,v)::r=>bf P w K mg base aj k x v/\CP P w K mg base aj k r
def Cy(mg:Str->Option Value):List Str->Prop
 |[]=>True
 |x::r=>mg x=none/\Cy mg r
section
variable{P:Program}{w:World}{K:arJ}{mg:Str->Option Value}{base:Heap}{aj:aQ}{k:Nat}
theorem CP.get:∀{G:List (Str×GV)},CP P w K mg base aj k G->∀x v,G.lookup x=some v->bf P w K mg base aj k x v
 |[],_,x,v,h=>nomatch h
 |(y,u)::r,g,x,v,h=>by
  rw[asj]at h
  split at h
  ·next e=>
   cases h
   rw[eq_of_beq e]
   exact g.1
  ·exact g.2.get x v h
theorem Cy.get:∀{B:List Str},Cy mg B->∀x,x∈B->mg x=none
 |[],_,x,h=>nomatch h
 |y::r,g,x,h=>by
  rcases arZ.mp h with rfl|h
  ·exact g.1
  ·exact g.2.get x h
theorem adI{qual:Str}{st:Stmt}{f:Addr}{N ps ml B:List Str}{G:List (Str×GV)}{Ms:Hs}(S:FnScope N ps (defScope st))(g:CP P w K mg base aj k G)(b:Cy mg B)(hh:Tv P w K mg base aj k Ms)
  (cdv:Value) (A:Around) (outer:List PySem.Env) (s:Shared) (H:Hp) (E:XK) (hr:Room k (A.deeper (envOfC qual (defScope st) s.heap.objs.size f cdv))) :
  uR aj ⟨N,defScope st,G,B,Ms,ml,true⟩ (cxOf (L2.CX P w) P w K mg base N qual (defScope st) f cdv A outer s H E) (afs E) k where
 hN:=rfl
 hs:=rfl
 calm:=rfl
 nd:=S.nd
 tk:=takes_of rfl rfl rfl rfl
 rm:=hr
 gl:=g.get
 bl:=b.get
 fn:=fun _ _=>rfl
 hk:=hh
 ps:=passes_of rfl
 st:=rfl
 fr:=rfl
 kf:=S.kind
theorem Yy{x qual:Str}{st:Stmt}{f:Addr}{fd:FuncData}{N ps ml B:List Str}{G:List (Str×GV)}{Ms:Hs}{body:SF}(F:Fun K x qual st f fd)(S:FnScope N ps (defScope st))(g:CP P w K mg base aj k G)(b:Cy mg B)(hh:Tv P w K mg base aj k Ms)
  (h:rd ⟨N,defScope st,G,B,Ms,ml,true⟩ (defBody st)=some body):FnOk P w K mg base (L2.CX P w) (k+1) f fd ps (V9 K aj ps.length (mQ N.length body)):=
 aoe F S fun cdv A outer s H E hr=>(Nv (zL 40) true 60).ob (adI S g b hh cdv A outer s H E hr) h
theorem R9{x qual:Str}{st:Stmt}{f:Addr}{fd:FuncData}{N ps ml B:List Str}{G:List (Str×GV)}{Ms:Hs}{body:SF}(F:Fun K x qual st f fd)(S:FnScope N ps (defScope st))(g:CP P w K mg base aj k G)(b:Cy mg B)(hh:Tv P w K mg base aj k Ms)
  (h:rdG ⟨N,defScope st,G,B,Ms,ml,true⟩ (defBody st)=some body):FnOk P w K mg base (L2.CX P w) (k+1) f fd ps (JR K aj ps.length (mG N.length body)):=
 aoc F S fun cdv A outer s H E hr=>(Nv (zL 40) false 60).ob (adI S g b hh cdv A outer s H E hr) h
theorem aiP{f:Addr}{fd:FuncData}{ps:List Str}{j:Nat}:FnOk P w K mg base (L2.CX P w) j f fd ps (V9 K aj ps.length fun _ _=>.bad):=
 ⟨fun vs H Q E h=>h.1,fun A outer s H args us vs Q E _ _ _ _ h=>by
  obtain⟨_,g,M,ds,_,_,_,z⟩:=h
  exact False.elim z⟩
theorem afP{x:Str}{f:Addr}{fd:FuncData}{ps:List Str}{j:Nat}{m:Mo->List Dat->Out Dat}(hj:j<=k)(hg:mg x=some (.ref f))(hk:PySem.W.keepIn K (.ref f)=true)(hB:Binds K fd ps [])(F:FnOk P w K mg base (L2.CX P w) j f fd ps (V9 K aj ps.length m)):bf P w K mg base aj k x (.fq ps.length m):=
 ⟨f,hg,hk,fd,ps,j,hj,rfl,hB,F⟩
theorem Mg{x:Str}{i:Int}{t:Tok}(h:mg x=some (.int i t)):bf P w K mg base aj k x (.con (.int i)):=⟨.int i,_,h,⟨t,rfl⟩,fun _ _=>.int i⟩
theorem Ww{g:Gh}{H:Hp}:∀{vs:List V} {ds:List Dat},(vs.zip ds).all (fun p=>match p with
  |(.int i,.int j)=>decide (i=j)
  |(.str x,.str y)=>decide (x=y)
  |_=>false)=true->vs.length=ds.length->aJ K g H vs ds
 |[],[],_,_=>.nil
 |[],_::_,_,h=>nomatch h
 |_::_,[],_,h=>nomatch h
 |v::vs,d::ds,h,hl=>by
  rw[asV,asv,arK]at h
  refine .cons ?_ (Ww h.2 (asK hl))
  have h1:=h.1
  split at h1
  ·next e=>cases e;cases of_decide_eq_true h1;exact .int _
  ·next e=>cases e;cases of_decide_eq_true h1;exact .str _
  ·cases h1
theorem aeN{x:Str}{a:Addr}{vs:List V}{ds:List Dat}(h:mg x=some (.ref a))(q:∀H:Hp,SqT K H a vs)(hf:(vs.zip ds).all (fun p=>match p with
  |(.int i,.int j)=>decide (i=j)
  |(.str x,.str y)=>decide (x=y)
  |_=>false)=true) (hl:vs.length=ds.length):bf P w K mg base aj k x (.con (.tuple ds)):=⟨.ref a,_,h,rfl,fun _ H=>.tup (q H) (Ww hf hl)⟩
end
open PySem PySem.Spec PyProof.Rows L2
section
variable{fa:List He.Fa}{fn:List He.DefD}{tb:List He.Tab}{ex:arJ->Bool}{w:World}{K:arJ}
theorem Np.oY(c:Np fa fn tb ex w K)(i:Nat){f:He.Fa}(h:fa[i]?=some f:=by rfl):f.ok K=true:=c.t.d.fact i h
theorem Np.W4(c:Np fa fn tb ex w K)(i:Nat){d:He.DefD}(h:fn[i]?=some d:=by rfl):∃fd,FunD K d.name d.qual d.params d.body d.scope (d.dvs K) (d.kws K) (He.fAd K d.at_) fd:=c.t.d.def_ i h
theorem DR{x qual:Str}{st:Stmt}{f:Addr}{fd:FuncData}(F:FunD K x qual (defArgs st) (defBody st) (defScope st) [] [] f fd):L2.Fun K x qual st f fd:=by
 obtain⟨oc,od,dV,kV,doc,pm,an,cdv,ct,osl,e,l,c,hd,_⟩:=F.ex
 rcases hd with⟨_,z⟩|⟨z,_⟩
 ·cases z
  exact⟨⟨oc,od,kV,doc,pm,an,cdv,ct,osl,e,l,c⟩,F.kp⟩
 ·exact absurd rfl z
end
def g0:Gh:=⟨[],fun _=>none,fun _=>False,fun _=>False⟩
theorem aj7(a:Addr):¬g0.A a:=fun z=>by
 rcases z with(z|z)|z|z
 ·cases z
 ·exact z rfl
 ·exact z
 ·exact z
theorem amK{H:Hp}:Kd g0 H:=⟨fun a z=>absurd z (aj7 a),fun a z=>False.elim z,fun a z=>False.elim z⟩
theorem ale{K:arJ}{aj:aQ}{H:Hp}(nc:aj ""=none):fV K aj g0 H []:=⟨rfl,fun h k a e=>(by cases h <;> cases e),fun h a i e=>(by cases h <;> cases e),fun h i e=>(by cases h <;> cases e),fun h i e=>(by cases h <;> cases e),fun h a i e=>(by cases h <;> cases e),fun h i e=>(by cases h <;> cases e),nc⟩
theorem WM{K:arJ}{g:Gh}{H:Hp}:∀ns:List Int,aJ K g H (ns.map V.int) (ns.map PyData.int)
 |[]=>.nil
 |n::ns=>.cons (.int n) (WM ns)
theorem alA{K:arJ}{H:Hp}{a:Addr}{ns:List Int}(hS:SqL K H a (ns.map V.int)):aJ K g0 H [.ref a] [.list (ns.map PyData.int)]:=by
 refine .cons (.lst ?_ (WM ns)) .nil
 rcases hS with h|h
 ·exact .inl ⟨h,aj7 a⟩
 ·exact .inr h
theorem amS{K:arJ}{aj:aQ}(nc:aj ""=none){m:Mo->List Dat->bx Dat}{H:Hp}{a:Addr}{ns:List Int}{M:Mo}(hS:SqL K H a (ns.map V.int))(h:m [] [.list (ns.map PyData.int)]=.ok (.bool true) M):JR K aj 1 m [.ref a] H (fun v _=>v=.bl true) fun _ _ _=>False:=
 ⟨rfl,g0,[],[.list (ns.map PyData.int)],amK,ale nc,alA hS,by
  rw[h]
  exact fun v H' g' _ _ _ r=>by cases r;rfl⟩
section
variable{K:arJ}{h:Heap}{mg:Str->Option Value}{w:World}
def oF(w:World)(K:arJ)(xs:List Str)(ft:Ft):aQ:=⟨fun x=>match xs.contains x with
 |true=>some (He.ga K x)
 |false=>none,fun c=>(ft.lookup c).getD [],w⟩
theorem Pb{xs:List Str}{ft:Ft}{x:Str}{C:Addr}(e:oF w K xs ft x=some C):C=He.ga K x:=by
 have e:(match xs.contains x with
  |true=>some (He.ga K x)
  |false=>none)=some C:=e
 split at e
 ·exact(ar8 e).symm
 ·cases e
theorem CT{xs:List Str}{ft:Ft}{x:Str}(e:xs.contains x=true):oF w K xs ft x=some (He.ga K x):=by
 show(match xs.contains x with
  |true=>some (He.ga K x)
  |false=>none)=_
 rw[e]
theorem YG{ft:Ft}(hb:La K ft=true){c:Str}{fs:List Str}(hl:ft.lookup c=some fs):Cls K (He.ga K c)/\∀f∈fs,NoAttr K (He.ga K c) f:=by
 obtain⟨h1,h2⟩:=He.ba (ar7.mp hb _ (pZ hl))
 exact⟨He.cls_ok h1,fun f hf=>He.noat_ok (ar7.mp h2 f hf)⟩
theorem ae4{xs:List Str}{ft:Ft}(hb:La K ft=true):jy K (oF w K xs ft):=fun c C f e hf=>by
 have e:=Pb e
 subst e
 have hf:f∈(ft.lookup c).getD []:=hf
 cases hl:ft.lookup c with
 |none=>rw[hl]at hf;cases hf
 |some fs=>
  rw[hl]at hf
  obtain⟨h1,h2⟩:=YG hb hl
  exact⟨h1,h2 f hf⟩
theorem afQ{xs:List Str}{ft:Ft}:Mj ft (oF w K xs ft):=fun c f e=>by
 unfold Ft.has at e
 show f∈(ft.lookup c).getD []
 split at e
 ·next fs hl=>
  rw[hl]
  simpa using e
 ·cases e
def xmN(xs:List Str)(xm:List (Str×List (Str×Bool))):Bool:=xm.all fun p=>xs.contains p.1
theorem amR{xs:List Str}{ft:Ft}{xm:List (Str×List (Str×Bool))}(hb:xmB K xm=true)(hn:xmN xs xm=true)(y:Str)(tab:List (Str×Bool))(hl:xm.lookup y=some tab):(∃D,oF w K xs ft y=some D)/\acY K (oF w K xs ft) y fun x=>tab.lookup x:=by
 refine⟨⟨_,CT (ar7.mp hn _ (pZ hl))⟩,fun x b C e1 e2 D e3=>?_⟩
 rw[Pb e2,Pb e3]
 exact He.exm_ok (ar7.mp (ar7.mp hb _ (pZ hl)) _ (pZ e1))
theorem ahR{C:Addr}(hb:akz K C=true):OexC K C:=by
 obtain⟨h1,h2⟩:=He.ba hb
 obtain⟨h2,h3⟩:=He.ba h2
 obtain⟨h3,h4⟩:=He.ba h3
 obtain⟨h4,h5⟩:=He.ba h4
 refine⟨?_,He.eqO_ok h2,of_decide_eq_true h3,of_decide_eq_true h4,h5⟩
 split at h1
 ·next t dd cd sl hl=>
  obtain⟨t1,h1⟩:=He.ba h1
  split at h1
  ·next C' bm k0 k1 k2 k3 n k5 e1 e2=>
   obtain⟨a1,h1⟩:=He.ba h1
   obtain⟨a2,h1⟩:=He.ba h1
   obtain⟨a3,h1⟩:=He.ba h1
   obtain⟨a4,a5⟩:=He.ba h1
   have q1:=of_decide_eq_true t1
   have q2:=of_decide_eq_true a1
   have q3:=of_decide_eq_true a2
   have q4:cd.hasDel=false:=by simpa using a3
   have q5:sl=#[k0,k1,k2,k3,some (.builtin n),k5]:=by
    rw[←Array.toList_inj]
    exact e2
   obtain⟨nm,bs,mro,ns,qn,hd,sn,sub,ab,col,hdel⟩:=cd
   have e1:mro=.ref C'::bm:=e1
   have q4:hdel=false:=q4
   have a4:hd=true:=a4
   subst q1 q2 q3 q4 q5 e1 a4
   exact⟨nm,qn,ns,bs,bm,sn,sub,ab,col,dd,k0,k1,k2,k3,k5,hl,a5⟩
  ·cases h1
 ·cases h1
theorem Vo{x:Str}{fs:List Str}(hb:TQ K x fs=true):OexC K (He.ga K x)/\PySem.W.findIn K (.ref (He.ga K x)) "__init__"=some (some (.ref (He.ma K (He.ga K x) "__init__")))/\PySem.W.typeIn K (.ref (He.ma K (He.ga K x) "__init__"))=some (.type "function")/\XfC K (He.ga K x)/\∀f∈fs,PySem.W.findIn K (.ref (He.ga K x)) f=some none:=by
 obtain⟨h1,h2⟩:=He.ba hb
 obtain⟨h2,h3⟩:=He.ba h2
 obtain⟨h3,h4⟩:=He.ba h3
 obtain⟨h4,h5⟩:=He.ba h4
 exact⟨ahR h1,He.eqO_ok h2,of_decide_eq_true h3,xfB_ok h4,fun f hf=>He.eqO_ok (ar7.mp h5 f hf)⟩
theorem af2{a:Addr}{xs:List Str}(hb:XM K a xs=true)(H:Hp):SqT K H a (xs.map V.str):=by
 unfold XM at hb
 split at hb
 ·next c d its n sl hl=>
  obtain⟨h1,h2⟩:=He.ba hb
  obtain⟨h3,h4⟩:=He.ba h2
  have q1:=of_decide_eq_true h1
  subst q1
  exact .inr ⟨_,its,n,hl,rfl,rfl,of_decide_eq_true h3,He.relAll_ok h4⟩
 ·cases hb
def zu(kvs:List (Str×List Str)):List (Str×Dat):=kvs.map fun q=>(q.1,.tuple (q.2.map PyData.str))
theorem V7{g:Gh}{H:Hp}:∀xs:List Str,aJ K g H (xs.map V.str) (xs.map PyData.str)
 |[]=>.nil
 |x::xs=>.cons (.str x) (V7 xs)
theorem QD{y:Str}:∀{kvs:List (Str×List Str)},(zu kvs).lookup y=(kvs.lookup y).map fun xs=>PyData.tuple (xs.map PyData.str)
 |[]=>rfl
 |(z,xs)::r=>by
  show List.lookup y ((z,PyData.tuple (xs.map PyData.str))::zu r)=_
  rw[asj,asj]
  split
  ·rfl
  ·exact QD
theorem look_none{α:Type}{y:Str}:∀{kvs:List (Str×α)},kvs.lookup y=none->y∉kvs.map (·.1)
 |[],_=>by simp
 |(z,a)::r,h=>by
  rw[asj]at h
  split at h
  ·cases h
  ·next hn=>
   rw[arN,arZ]
   rintro(e|e)
   ·subst e
    simp at hn
   ·exact look_none h e
theorem agY{x:Str}{kvs:List (Str×List Str)}(hb:agb K x kvs=true)(hk:∃es n,KDict K w (He.ga K x) es n):acp w K (He.ga K x) (zu kvs):=by
 obtain⟨h1,h2⟩:=He.ba hb
 obtain⟨h2,h3⟩:=He.ba h2
 obtain⟨es,n,D⟩:=hk
 rw[D.at_]at h1
 refine⟨es,n,D,?_,fun y=>?_⟩
 ·unfold zu
  rw[asn]
  exact of_decide_eq_true h2
 ·rw[QD]
  cases hl:kvs.lookup y with
  |some xs=>
   have h4:=ar7.mp h3 _ (pZ hl)
   show ∃v u,PySem.W.nsIn K (He.ga K x) y=some (some u)/\RelV v u/\∀g H,Rep K g H v (.tuple (xs.map PyData.str))
   have h4:(match PySem.W.nsIn K (He.ga K x) y with
    |some (some (.ref a))=>XM K a xs
    |_=>false)=true:=h4
   split at h4
   ·next a he=>exact⟨.ref a,.ref a,he,rfl,fun g H=>.tup (af2 h4 H) (V7 xs)⟩
   ·cases h4
  |none=>
   show PySem.W.nsIn K (He.ga K x) y=some none
   have ny:=look_none hl
   unfold PySem.W.nsIn
   rw[D.at_]
   have h1:es.toList.all (fun e=>(match e.key with
    |.str y _=>(kvs.map (·.1)).contains y
    |_=>false)&&!e.refKey)=true:=h1
   have f1:es.toList.find? (·.key.isStr y)=none:=by
    rw[List.find?_eq_none]
    intro e he z
    obtain⟨a1,a2⟩:=He.ba (ar7.mp h1 e he)
    split at a1
    ·next y' tk hy=>
     rw[hy]at z
     have z:(y'==y)=true:=z
     have e':=eq_of_beq z
     subst e'
     exact ny (by simpa using a1)
    ·cases a1
   have f2:es.toList.any (·.refKey)=false:=by
    rw[List.any_eq_false]
    intro e he z
    obtain⟨a1,a2⟩:=He.ba (ar7.mp h1 e he)
    rw[z]at a2
    cases a2
   show(match es.toList.find? (·.key.isStr y) with
    |some e=>some (some e.val)
    |none=>if es.toList.any (·.refKey) then none else some none)=some none
   rw[f1,f2]
   rfl
end
section
variable{P:Program}{w:World}{K:arJ}{mg:Str->Option Value}{base:Heap}{k:Nat}{xs:List Str}{ft:Ft}
def XQ(P:Program)(w:World)(K:arJ)(mg:Str->Option Value)(base:Heap)(aj:aQ)(k:Nat)(m:Str):List (Str×MV)->Prop
 |[]=>True
 |(c,v)::r=>bV P w K mg base aj k c m v/\XQ P w K mg base aj k m r
def Fv(P:Program)(w:World)(K:arJ)(mg:Str->Option Value)(base:Heap)(aj:aQ)(k:Nat):List (Str×List (Str×MV))->Prop
 |[]=>True
 |(m,tb)::r=>XQ P w K mg base aj k m tb/\Fv P w K mg base aj k r
theorem XQ.get{aj:aQ}{m:Str}:∀{tb:List (Str×MV)},XQ P w K mg base aj k m tb->∀c v,tb.lookup c=some v->bV P w K mg base aj k c m v
 |[],_,c,v,h=>nomatch h
 |(y,u)::r,g,c,v,h=>by
  rw[asj]at h
  split at h
  ·next e=>
   cases h
   rw[eq_of_beq e]
   exact g.1
  ·exact g.2.get c v h
theorem Fv.get{aj:aQ}:∀{Ms:List (Str×List (Str×MV))},Fv P w K mg base aj k Ms->∀m tb,Ms.lookup m=some tb->∀c v,tb.lookup c=some v->bV P w K mg base aj k c m v
 |[],_,m,tb,h=>nomatch h
 |(y,u)::r,g,m,tb,h=>by
  rw[asj]at h
  split at h
  ·next e=>
   cases h
   rw[eq_of_beq e]
   exact g.1.get
  ·exact g.2.get m tb h
theorem anB{aj:aQ}{x:Str}{f:Addr}{fd:FuncData}{ps:List Str}{j:Nat}{m:Mo->List Dat->bx Dat}(hj:j<=k)(hg:mg x=some (.ref f))(hk:PySem.W.keepIn K (.ref f)=true)(hB:Binds K fd ps [])(F:FnOk P w K mg base (L2.CX P w) j f fd ps (JR K aj ps.length m)):bf P w K mg base aj k x (.fg ps.length m):=
 ⟨f,hg,hk,fd,ps,j,hj,rfl,hB,F⟩
theorem iQ{x:Str}(hn:xs.contains x=true)(hg:mg x=some (.ref (He.ga K x)))(he:(He.Fa.exc x).ok K=true):bf P w K mg base (oF w K xs ft) k x .exc:=by
 obtain⟨h1,h2,h3,h4⟩:=He.exc_ok he
 exact⟨_,hg,CT hn,h1,h2,h3,h4⟩
theorem aiL{x:Str}{fd:FuncData}{ps:List Str}{j n:Nat}{m:Mo->List Dat->bx Dat}(hj:j+1<=k)(hn:xs.contains x=true)(hg:mg x=some (.ref (He.ga K x)))(hc:Cls K (He.ga K x))(hm:(He.Fa.mkr x).ok K=true)(hp:ps.length=n+1)(hB:Binds K fd ps [])
  (F:FnOk P w K mg base (L2.CX P w) j (He.ma K (He.ga K x) "__init__") fd ps (JR K (oF w K xs ft) ps.length m)):bf P w K mg base (oF w K xs ft) k x (.cls n m):=
 ⟨_,_,fd,ps,j,hg,CT hn,hc,He.mkr_ok hm,hj,hp,hB,F⟩
theorem akT{aj:aQ}{x:Str}{kvs:List (Str×List Str)}(hg:mg x=some (.ref (He.ga K x)))(hb:agb K x kvs=true)(hk:∃es n,KDict K w (He.ga K x) es n):bf P w K mg base aj k x (.dic (zu kvs)):=⟨_,hg,agY hb hk⟩
theorem ai9{x:Str}{fs:List Str}{fd:FuncData}{ps:List Str}(h2:2<=k)(hn:xs.contains x=true)(hg:mg x=some (.ref (He.ga K x)))(ho:TQ K x fs=true)(hp:ps.length=fs.length+1)(hB:Binds K fd ps [])(F:FnOk P w K mg base CX0 1 (He.ma K (He.ga K x) "__init__") fd ps (agh (He.ga K x) fs)):bf P w K mg base (oF w K xs ft) k x (.exi fs):=by
 obtain⟨h1,h3,h4,_,_⟩:=Vo ho
 exact⟨_,_,fd,ps,hg,CT hn,h1,h3,h4,h2,hp,hB,F⟩
theorem agR{m:Str}{l:List Str}(hf:l.contains m=false)(z:m∈l):False:=by
 rw[List.contains_iff_mem.mpr z]at hf
 cases hf
theorem anA{c m:Str}{fd:FuncData}{ps:List Str}{j:Nat}{mm:Mo->List Dat->Out Dat}(hj:j<=k)(hn:xs.contains c=true)(hc:Cls K (He.ga K c))(hm:(He.Fa.meth c m).ok K=true)(hf:((ft.lookup c).getD []).contains m=false)(hB:Binds K fd ps [])(F:FnOk P w K mg base (L2.CX P w) j (He.ma K (He.ga K c) m) fd ps (V9 K (oF w K xs ft) ps.length mm)):bV P w K mg base (oF w K xs ft) k c m (.q ps.length mm):=
 ⟨_,_,CT hn,hc,He.meth_ok hm,(fun z=>agR hf z),fd,ps,j,hj,rfl,hB,F⟩
theorem anf{c m:Str}{fd:FuncData}{ps:List Str}{j:Nat}{mm:Mo->List Dat->bx Dat}(hj:j<=k)(hn:xs.contains c=true)(hc:Cls K (He.ga K c))(hm:(He.Fa.meth c m).ok K=true)(hf:((ft.lookup c).getD []).contains m=false)(hB:Binds K fd ps [])(F:FnOk P w K mg base (L2.CX P w) j (He.ma K (He.ga K c) m) fd ps (JR K (oF w K xs ft) ps.length mm)):bV P w K mg base (oF w K xs ft) k c m (.g ps.length mm):=
 ⟨_,_,CT hn,hc,He.meth_ok hm,(fun z=>agR hf z),fd,ps,j,hj,rfl,hB,F⟩
theorem amt{Ms:List (Str×List (Str×MV))}{xm:List (Str×List (Str×Bool))}{df:List (Str×Bool)}{xf:List (Str×List Str)}(hm:Fv P w K mg base (oF w K xs ft) k Ms)(hb:La K ft=true)(hx:xmB K xm=true)(hn:xmN xs xm=true)(hf:(xf.all fun p=>xs.contains p.1&&TQ K p.1 p.2)=true):Tv P w K mg base (oF w K xs ft) k ⟨Ms,ft,xm,df,xf⟩ where
 ms:=hm.get
 fk:=afQ
 co:=ae4 hb
 hw:=rfl
 xm:=amR hx hn
 xf:=fun y fs hl=>by
  obtain⟨h1,h2⟩:=He.ba (ar7.mp hf _ (pZ hl))
  obtain⟨_,_,_,h3,h4⟩:=Vo h2
  exact⟨_,CT h1,h3,h4⟩
end
abbrev lI(l:List Int):Dat:=.list (l.map PyData.int)
abbrev aH(l:List Int):Dat:=.tuple (l.map PyData.int)
theorem fj{tg:fU}{body:SF}{d:Dat}{ds:List Dat}{M M2:Mo}{ρ ρ1 ρ2:Env}(h1:tg d ρ=some ρ1)(h2:body M ρ1=.next ρ2 M2):dR tg body (d::ds) M ρ=dR tg body ds M2 ρ2:=by
 rw[dR,h1]
 show(match body M ρ1 with
   |.next ρ2 M2=>dR tg body ds M2 ρ2
   |.cont ρ2 M2=>dR tg body ds M2 ρ2
   |.brk ρ2 M2=>.next ρ2 M2
   |.ret d M2=>.ret d M2
   |.exc x ρ2 M2=>.exc x ρ2 M2
   |.bad=>.bad)=_
 rw[h2]
theorem gq{α:Type}{tg:fU}{tt:QT}{te:QF}{M:Mo}{ρ:Env}(ds:α->Dat)(p:α->Bool)(f:α->Dat):∀(xs:List α),(∀x∈xs,∃ρ1,tg (ds x) ρ=some ρ1/\tt M ρ1=.ok (p x)/\(p x=true->te M ρ1=.ok (f x)))->dD tg tt te M ρ (xs.map ds)=.ok ((xs.filter p).map f)
 |[],_=>rfl
 |x::xs,h=>by
  obtain⟨ρ1,h1,h2,h3⟩:=h x arP
  have ih:=gq ds p f xs fun y hy=>h y (arO _ hy)
  rw[arN,dD,h1]
  show((yh (tt M ρ1)).bind fun b=>if b=true then(yh (te M ρ1)).bind fun y=>(dD tg tt te M ρ (xs.map ds)).bind fun r=>.ok (y::r) else dD tg tt te M ρ (xs.map ds))=_
  rw[h2,ih]
  cases hp:p x with
  |true=>
   show(if true=true then(yh (te M ρ1)).bind fun y=>(Out.ok ((xs.filter p).map f)).bind fun r=>.ok (y::r) else Out.ok ((xs.filter p).map f))=_
   rw[h3 hp,if_pos rfl,List.filter_cons_of_pos hp]
   rfl
  |false=>
   show(if false=true then(yh (te M ρ1)).bind fun y=>(Out.ok ((xs.filter p).map f)).bind fun r=>.ok (y::r) else Out.ok ((xs.filter p).map f))=_
   rw[if_neg (by decide),List.filter_cons_of_neg (by rw[hp];decide)]
theorem fu{α:Type}{tg:fU}{te:QF}{M:Mo}{ρ:Env}(ds:α->Dat)(f:α->Dat)(xs:List α)(h:∀x∈xs,∃ρ1,tg (ds x) ρ=some ρ1/\te M ρ1=.ok (f x)):dD tg iy te M ρ (xs.map ds)=.ok (xs.map f):=by
 have:=gq (tt:=iy) ds (fun _=>true) f xs fun x hx=>by
  obtain⟨ρ1,h1,h2⟩:=h x hx
  exact⟨ρ1,h1,rfl,fun _=>h2⟩
 rw[this,as8.mpr (fun _ _=>rfl)]
theorem ags{i j:Int}(h : -(2 ^ 64) < i/\i < 2 ^ 64):decide (CMul i j)=true:=decide_eq_true (.inl h)
theorem mul_r{i j:Int}(h : -(2 ^ 64) < j/\j < 2 ^ 64):decide (CMul i j)=true:=decide_eq_true (.inr h)
section
variable(M:Mo)(ρ:Env)
@[simp]theorem alq (f k:SF):aD f k M ρ=match f M ρ with
 |.next ρ' M'=>k M' ρ'
 |o=>o:=rfl
@[simp]theorem aon:aR M ρ=.next ρ M:=rfl
@[simp]theorem apq (tg:fU) (f:GF):aX tg f M ρ=(f M ρ).then ρ fun d M'=>match tg d ρ with
 |some ρ'=>.next ρ' M'
 |none=>.bad:=rfl
@[simp]theorem aoM (i j:Nat) (f:GF):Ri i j f M ρ=(f M ρ).then ρ fun d M'=>.next ((ρ.set i (some (.dat d))).set j (some (.dat d))) M':=rfl
@[simp]theorem ev_if (t:QT) (f k:SF):bO t f k M ρ=((t M (rN ρ)).at M).then ρ fun c M'=>if c=true then f M' ρ else k M' ρ:=rfl
@[simp]theorem aq8 (f:QF):aP f M ρ=((f M (rN ρ)).at M).then ρ fun d M'=>.ret d M':=rfl
@[simp]theorem aqS (it:IF) (tg:fU) (body:SF):mJ it tg body M ρ=((it M ρ).at M).then ρ fun ds M'=>dR tg body ds M' ρ:=rfl
@[simp]theorem apc (j:Nat) (f:IF):Az j f M ρ=((f M ρ).at M).then ρ fun xs M'=>.next (ρ.set j (some (.mut xs))) M':=rfl
@[simp]theorem aoN (f:GF):cI f M ρ=(f M ρ).then ρ fun _ M'=>.next ρ M':=rfl
@[simp]theorem ap8 (j:Nat) (f:QF):Fl j f M ρ=match ρ[j]? with
 |some (some (.mut xs))=>((f M ρ).at M).then ρ fun d M'=>if xs.length < 100000 then .next (ρ.set j (some (.mut (xs++[d])))) M' else .bad
 |_=>.bad:=rfl
@[simp]theorem aoX (j:Nat) (fi f:QF):alW j fi f M ρ=match ρ[j]? with
 |some (some (.mut xs))=>((f M ρ).at M).then ρ fun d M'=>((fi M' ρ).at M').then ρ fun i M2=>match i with
  |.int k=>match ixN xs.length k with
   |some n=>.next (ρ.set j (some (.mut (xs.set n d)))) M2
   |none=>.bad
  |_=>.bad
 |_=>.bad:=rfl
@[simp]theorem apj (j:Nat) (f:QF):PN j f M ρ=match ρ[j]? with
 |some (some (.dat (.int i)))=>((f M ρ).at M).then ρ fun d M'=>match d with
  |.int k=>.next (ρ.set j (some (.dat (.int (i+k))))) M'
  |_=>.bad
 |_=>.bad:=rfl
@[simp]theorem aou (i j:Nat) (f:GF):Yb i j f M ρ=(f M ρ).then ρ fun d M'=>match d with
 |.list (d0::ds)=>if ds.length<=16000 then .next ((ρ.set i (some (.dat d0))).set j (some (.dat (.list ds)))) M' else .bad
 |.tuple (d0::ds)=>if ds.length<=16000 then .next ((ρ.set i (some (.dat d0))).set j (some (.dat (.list ds)))) M' else .bad
 |_=>.bad:=rfl
@[simp]theorem arp (js:List Nat) (as:QA):sPN js as M ρ=((as M ρ).at M).then ρ fun ds M'=>match rA js ds ρ with
 |some ρ'=>.next ρ' M'
 |none=>.bad:=rfl
@[simp]theorem aq0 (f:QF):gOf f M ρ=(f M ρ).at M:=rfl
@[simp]theorem ev_op (o:Dat->Dat->Out Dat) (a b:QF):aA o a b M ρ=(a M ρ).bind fun x=>(b M ρ).bind fun y=>o x y:=rfl
@[simp]theorem ev_un (o:Dat->Out Dat) (a:QF):eE o a M ρ=(a M ρ).bind o:=rfl
@[simp]theorem ev_c (d:Dat):qC d M ρ=.ok d:=rfl
@[simp]theorem ev_var (i:Nat):aq i M ρ=match ρ[i]? with
 |some (some (.dat d))=>.ok d
 |_=>.bad:=rfl
@[simp]theorem aoV (i:Nat):ao i M ρ=match ρ[i]? with
 |some (some (.dat d))=>.ok d
 |some (some (.mut xs))=>.ok (.list xs)
 |_=>.bad:=rfl
@[simp]theorem apl:au M ρ=.ok []:=rfl
@[simp]theorem aok (a:QF) (r:QA):ak a r M ρ=(a M ρ).bind fun x=>(r M ρ).bind fun xs=>.ok (x::xs):=rfl
@[simp]theorem aqY (r:QA):bB r M ρ=(r M ρ).bind fun xs=>Out.when (decide (xs.length<=100000)) (.ok (.tuple xs)):=rfl
@[simp]theorem aqx (r:QA):Bs r M ρ=(r M ρ).bind fun xs=>Out.when (decide (xs.length<=100000)) (.ok (.list xs)):=rfl
@[simp]theorem aqh (a:QF):iZ a M ρ=(a M ρ).bind Jq:=rfl
@[simp]theorem arl (a:QF):bh a M ρ=(a M ρ).bind BK:=rfl
@[simp]theorem aoR (a:QT):j7 a M ρ=(a M ρ).bind fun b=>.ok (!b):=rfl
@[simp]theorem aoz (a b:QT):j5 a b M ρ=(a M ρ).bind fun x=>if x=true then b M ρ else .ok false:=rfl
@[simp]theorem apu (a b:QT):Fw a b M ρ=(a M ρ).bind fun x=>if x=true then .ok true else b M ρ:=rfl
@[simp]theorem arq (a:QT):Tg a M ρ=(a M ρ).bind fun b=>.ok (.bool b):=rfl
@[simp]theorem aqK (t:QT) (a b:QF):RW t a b M ρ=(t M ρ).bind fun x=>if x=true then a M ρ else b M ρ:=rfl
@[simp]theorem ev_is (neg:Bool) (c:Dat) (a:QF):xM neg c a M ρ=(a M ρ).bind fun d=>.ok (.bool (neg ^^ jW c d)):=rfl
@[simp]theorem ev_notV (a:QF):R3 a M ρ=((a M ρ).bind BK).bind fun b=>.ok (.bool (!b)):=by
 show(((a M ρ).bind BK).bind fun b=>Out.ok (!b)).bind (fun b=>Out.ok (PyData.bool b))=_
 cases a M ρ with
 |ok d=>cases h:BK d <;> simp[Out.bind,h]
 |exc x=>rfl
 |bad=>rfl
@[simp]theorem ev_andV (a b:QF):wX a b M ρ=(a M ρ).bind fun d=>(BK d).bind fun x=>if x=true then b M ρ else .ok (.bool false):=rfl
@[simp]theorem ev_orV (a b:QF):af7 a b M ρ=(a M ρ).bind fun d=>(BK d).bind fun x=>if x=true then .ok (.bool true) else b M ρ:=rfl
@[simp]theorem anV (o o':Dat->Dat->Out Dat) (a b c:QF):mO o o' a b c M ρ=(a M ρ).bind fun x=>(b M ρ).bind fun y=>(o x y).bind fun z=>(BK z).bind fun k=>if k=true then(c M ρ).bind fun w=>(o' y w).bind BK else .ok false:=rfl
@[simp]theorem apm (t:Ol) (a:QF):wZ t a M ρ=(a M ρ).bind (yE t):=rfl
@[simp]theorem arv (a:QF) (lo hi:QO):Mq a lo hi M ρ=(a M ρ).bind fun d=>(lo M ρ).bind fun l=>(hi M ρ).bind fun h=>slD d l h:=rfl
@[simp]theorem arh:xV M ρ=.ok none:=rfl
@[simp]theorem arw (a:QF):pW a M ρ=(a M ρ).bind fun d=>(Bf d).bind fun i=>.ok (some i):=rfl
@[simp]theorem ev_call (m:Mo->List Dat->Out Dat) (as:QA):aU m as M ρ=(as M ρ).bind fun ds=>m M ds:=rfl
@[simp]theorem anO (a:QF):cX a M ρ=(a M ρ).bind oA:=rfl
@[simp]theorem anc (a:QF):wB a M ρ=(a M ρ).bind fun d=>(Bf d).bind fun n=>Out.when (decide (n<=100000/\-100000<=n)) (.ok (iH 0 n.toNat)):=rfl
@[simp]theorem ao0 (k₀:Int) (a:QF):uK k₀ a M ρ=(a M ρ).bind fun d=>(oA d).bind fun ds=>.ok (lE k₀ ds):=rfl
@[simp]theorem aph (a b:QF):Fe a b M ρ=(a M ρ).bind fun d=>(b M ρ).bind fun e=>(oA d).bind fun ds=>(oA e).bind fun es=>.ok (xO ds es):=rfl
@[simp]theorem ao2 (it:IF) (tg:fU) (vs:List Nat) (tt:QT) (te:QF):eU it tg vs tt te M ρ=(it M ρ).bind fun ds=>Out.when (decide (ds.length<=50000)) ((dD tg tt te M (bZ ρ vs) ds).bind fun r=>.ok (.list r)):=rfl
@[simp]theorem anM (it:IF) (tg:fU) (vs:List Nat) (tt:QT) (te:QF):zY it tg vs tt te M ρ=(it M ρ).bind fun ds=>Out.when (decide (ds.length<=50000)) (dD tg tt te M (bZ ρ vs) ds):=rfl
@[simp]theorem aq1 (f:QA):LR f M ρ=(f M ρ).bind fun xs=>Out.when (decide (xs.length<=100000)) (.ok xs):=rfl
@[simp]theorem alD (f:QF):afL f M ρ=(f M ρ).bind XH:=rfl
@[simp]theorem ane (j:Nat) (d:Dat):aF j d ρ=some (ρ.set j (some (.dat d))):=rfl
@[simp]theorem anm (js:List Nat) (ds:List Dat):bA js (.tuple ds) ρ=rA js ds ρ:=rfl
@[simp]theorem ari (n:Nat) (b:SF) (ds:List Dat):mQ n b M ds=match b M (ini n ds) with
 |.ret d _=>.ok d
 |.next _ _=>.ok .none
 |.exc x _ _=>.exc x
 |_=>.bad:=rfl
@[simp]theorem arA (n:Nat) (b:SF) (ds:List Dat):mG n b M ds=match b M (ini n ds) with
 |.ret d M'=>.ok d M'
 |.next _ M'=>.ok .none M'
 |.exc x _ M'=>.exc x M'
 |_=>.bad:=rfl
end
section
variable(i j:Int)(ds es:List Dat)(b c:Bool)(x y:Str)
@[simp]theorem aop:eG (.int i) (.int j)=.ok (.int (i+j)):=rfl
@[simp]theorem aoP:eG (.list ds) (.list es)=Out.when (decide (ds.length+es.length<=100000)) (.ok (.list (ds++es))):=rfl
@[simp]theorem aoF:eG (.tuple ds) (.tuple es)=Out.when (decide (ds.length+es.length<=100000)) (.ok (.tuple (ds++es))):=rfl
@[simp]theorem aqm:jX (.int i) (.int j)=.ok (.int (i - j)):=rfl
@[simp]theorem aqN:wO (.int i) (.int j)=Out.when (decide (CMul i j)) (.ok (.int (i * j))):=rfl
@[simp]theorem apG:sY (.int i) (.int j)=Out.when (decide (CDiv i j)) (.ok (.int (i / j))):=rfl
@[simp]theorem aqd:gY (.int i) (.int j)=Out.when (decide (0 < j)) (.ok (.int (i % j))):=rfl
@[simp]theorem aqU:Pq (.int i) (.int j)=Out.when (decide (CPow i j)) (.ok (.int (i ^ j.toNat))):=rfl
@[simp]theorem ark:JZ (.int i) (.int j)=.ok (.bool (decide (i < j))):=rfl
@[simp]theorem arj:tV (.int i) (.int j)=.ok (.bool (decide (i<=j))):=rfl
@[simp]theorem arz:Zy (.int i) (.int j)=.ok (.bool (decide (j < i))):=rfl
@[simp]theorem arn:geD (.int i) (.int j)=.ok (.bool (decide (j<=i))):=rfl
@[simp]theorem aqi:cA (.int i) (.int j)=.ok (.bool (i==j)):=rfl
@[simp]theorem aq4:cA (.str x) (.str y)=.ok (.bool (x==y)):=rfl
@[simp]theorem aqT:cA (.bool b) (.bool c)=.ok (.bool (b==c)):=rfl
@[simp]theorem aqM:rZ (.int i) (.int j)=.ok (.bool (!(i==j))):=rfl
@[simp]theorem aqb:rZ (.str x) (.str y)=.ok (.bool (!(x==y))):=rfl
@[simp]theorem apk:Qe (.int i)=.ok (.int (-i)):=rfl
@[simp]theorem aoJ:Jq (.bool b)=.ok b:=rfl
@[simp]theorem aoy:Jq (.list ds)=.ok (!ds.isEmpty):=rfl
@[simp]theorem aoW:Jq (.tuple ds)=.ok (!ds.isEmpty):=rfl
@[simp]theorem aqa:BK (.bool b)=.ok b:=rfl
@[simp]theorem aov:oW (.list ds)=.ok (.int ds.length):=rfl
@[simp]theorem aoE:oW (.tuple ds)=.ok (.int ds.length):=rfl
@[simp]theorem aqP:Ui (.int i)=.ok (.int (if i < 0 then -i else i)):=rfl
@[simp]theorem ev_max2:lU (.int i) (.int j)=.ok (.int (if j > i then j else i)):=rfl
@[simp]theorem aoj:Ja (.int i) (.int j)=.ok (.int (if j < i then j else i)):=rfl
@[simp]theorem ap0:aN (.list ds) (.int i)=match atI ds i with
  |some d=>.ok d
  |none=>.bad:=rfl
@[simp]theorem aqL:aN (.tuple ds) (.int i)=match atI ds i with
  |some d=>.ok d
  |none=>.bad:=rfl
@[simp]theorem ao7:Bf (.int i)=.ok i:=rfl
@[simp]theorem aqk (lo hi:Option Int):slD (.list ds) lo hi=.ok (.list (cutD ds lo hi)):=rfl
@[simp]theorem aqV (lo hi:Option Int):slD (.tuple ds) lo hi=.ok (.tuple (cutD ds lo hi)):=rfl
@[simp]theorem aow:kW (.list ds)=.ok (.tuple ds):=rfl
@[simp]theorem aoK:kW (.tuple ds)=.ok (.tuple ds):=rfl
@[simp]theorem anv:Nh (.list ds)=.ok (.list ds):=rfl
@[simp]theorem anQ:Nh (.tuple ds)=.ok (.list ds):=rfl
@[simp]theorem apK:XH (.list ds)=.ok ds:=rfl
@[simp]theorem aqG:XH (.tuple ds)=.ok ds:=rfl
@[simp]theorem aqB:oA (.list ds)=.ok ds:=rfl
@[simp]theorem aqs:oA (.tuple ds)=.ok ds:=rfl
@[simp]theorem aoD (o:Option Cell) (ρ:Env):rN (o::ρ)=o.map RJ::rN ρ:=rfl
@[simp]theorem anS:rN []=[]:=rfl
@[simp]theorem an6 (d:Dat):RJ (.dat d)=.dat d:=rfl
@[simp]theorem anR (ds:List Dat):RJ (.mut ds)=.dat (.list ds):=rfl
@[simp]theorem aoo (ρ:Env):rA [] [] ρ=some ρ:=rfl
@[simp]theorem ao1 (j:Nat) (js:List Nat) (d:Dat) (ρ:Env):rA (j::js) (d::ds) ρ=rA js ds (ρ.set j (some (.dat d))):=rfl
@[simp]theorem anp (ρ:Env):bZ ρ []=ρ:=rfl
@[simp]theorem anL (ρ:Env) (j:Nat) (js:List Nat):bZ ρ (j::js)=(bZ ρ js).set j none:=rfl
@[simp]theorem amX {α:Type} (a:α) (l:List α):atI (a::l) 0=some a:=atI_nat (j:=0) rfl
@[simp]theorem aoT (n:Nat):ini n ds=ds.map (fun d=>some (.dat d))++List.replicate (n - ds.length) none:=rfl
end
theorem abp{a b:String}:Str.ofString a=Str.ofString b↔a=b:=by
 constructor
 ·intro h
  rw[Str.ofString_eq_toList,Str.ofString_eq_toList]at h
  have h1:a.toList.map Char.toNat=b.toList.map Char.toNat:=by simpa using h
  have h2:a.toList=b.toList:=by
   refine List.map_inj_right (f:=Char.toNat) (fun x y e=>?_) |>.mp h1
   exact Char.ext (UInt32.toNat_inj.mp e)
  exact String.toList_inj.mp h2
 ·rintro rfl
  rfl
@[simp]theorem apA (a b:String):(Str.ofString a=Str.ofString b)=(a=b):=propext abp
@[simp]theorem ao3 (a b:String):(Str.ofString a==Str.ofString b)=decide (a=b):=by
 rw[asW]
 simp[abp]
@[simp]theorem arx {α:Type} (a b:α) (l:List α):atI (a::b::l) 1=some b:=atI_nat (j:=1) rfl
@[simp]theorem ard {α:Type} (a b c:α) (l:List α):atI (a::b::c::l) 2=some c:=atI_nat (j:=2) rfl
@[simp]theorem aro {α:Type} (a b c d:α) (l:List α):atI (a::b::c::d::l) 3=some d:=atI_nat (j:=3) rfl
@[simp]theorem arC {α:Type} (a b c d e:α) (l:List α):atI (a::b::c::d::e::l) 4=some e:=atI_nat (j:=4) rfl
@[simp]theorem arb {α:Type} (a b c d e f:α) (l:List α):atI (a::b::c::d::e::f::l) 5=some f:=atI_nat (j:=5) rfl
@[simp]theorem aq9 {α:Type} (a b c d e f g:α) (l:List α):atI (a::b::c::d::e::f::g::l) 6=some g:=atI_nat (j:=6) rfl
@[simp]theorem anJ (s:String):PyData.strOk (Str.ofString s)=true:=by
 rw[Str.ofString_eq_toList]
 unfold PyData.strOk
 simp only[Array.all_eq_true,decide_eq_true_eq]
 intro i h
 simp only[List.getElem_toArray,List.getElem_map]
 have:=s.toList[i]'(by simpa using h) |>.valid
 rcases this with z|⟨_,z⟩
 ·show(s.toList[i]'(by simpa using h)).val.toNat < _
  omega
 ·show(s.toList[i]'(by simpa using h)).val.toNat < _
  omega
section
variable(i j:Int)(x y:Str)(d e:Dat)(ds es:List Dat)(b c:Bool)
@[simp]theorem YQ:PyData.eqv (.int i) (.int j)=(i==j):=by simp[PyData.eqv]
@[simp]theorem aqn:PyData.eqv (.str x) (.str y)=(x==y):=by simp[PyData.eqv]
@[simp]theorem apP:PyData.eqv (.bool b) (.bool c)=(b==c):=by simp[PyData.eqv]
@[simp]theorem aqg:PyData.eqv .none .none=true:=by simp[PyData.eqv]
@[simp]theorem Yt:PyData.eqv (.tuple ds) (.tuple es)=PyData.eqvAll ds es:=by simp[PyData.eqv]
@[simp]theorem akr:PyData.eqv (.list ds) (.list es)=PyData.eqvAll ds es:=by simp[PyData.eqv]
@[simp]theorem ap3:PyData.eqv (.tuple ds) .none=false:=by simp[PyData.eqv]
@[simp]theorem apn:PyData.eqv .none (.tuple ds)=false:=by simp[PyData.eqv]
@[simp]theorem aqZ:PyData.eqv (.str x) (.int i)=false:=by simp[PyData.eqv]
@[simp]theorem aq5:PyData.eqv (.int i) (.str x)=false:=by simp[PyData.eqv]
@[simp]theorem ahC:PyData.eqvAll [] []=true:=by simp[PyData.eqvAll]
@[simp]theorem aoH:PyData.eqvAll [] (d::ds)=false:=by simp[PyData.eqvAll]
@[simp]theorem ahu:PyData.eqvAll (d::ds) []=false:=by simp[PyData.eqvAll]
@[simp]theorem abv:PyData.eqvAll (d::ds) (e::es)=(PyData.eqv d e&&PyData.eqvAll ds es):=by simp[PyData.eqvAll]
end
@[simp]theorem zB:∀l m:List Int,PyData.eqvAll (l.map PyData.int) (m.map PyData.int)=decide (l=m)
 |[],[]=>by simp
 |[],_::_=>by simp
 |_::_,[]=>by simp
 |a::l,b::m=>by
  rw[arN,arN,abv,zB l m,YQ]
  by_cases h:a=b <;> by_cases h2:l=m <;> simp[h,h2]
theorem JD{n:Nat}:∀{ds:List Dat},mK n ds=true↔∀d∈ds,okd n d=true
 |[]=>by simp[mK]
 |d::ds=>by simp[mK,JD (ds:=ds)]
@[simp]theorem ahi (n:Nat) (i:Int):okd n (.int i)=true:=by simp[okd]
@[simp]theorem Vw (n:Nat) (l:List Int):mK n (l.map PyData.int)=true:=JD.mpr fun d h=>by
 obtain⟨i,_,rfl⟩:=arV.mp h
 simp
def ob(h:Nat):Dat:=obj h
section
variable(M:Mo)(ρ:Env)(h:Nat)(f:Str)
@[simp]theorem ao6:Ls M f (ob h)=(M[h]?).bind fun i=>i.fs.lookup f:=rfl
@[simp]theorem aof (tb:List (Str×MV)):El tb M (ob h)=(M[h]?).bind fun i=>tb.lookup i.cls:=rfl
@[simp]theorem Y5:j6 M (ob h)=(M[h]?).bind fun i=>match i.cls=="" with
 |true=>none
 |false=>some (h,i):=rfl
@[simp]theorem apM (o:QF):gK f o M ρ=(o M ρ).bind fun d=>match Ls M f d with
 |some (.dat x)=>.ok x
 |_=>.bad:=rfl
@[simp]theorem aol (o:QF):bK f o M ρ=(o M ρ).bind fun d=>match Ls M f d with
 |some (.dat x)=>.ok x
 |some (.lst _ xs)=>.ok (.list xs)
 |_=>.bad:=rfl
@[simp]theorem ao5 (tb:List (Str×MV)) (o:QF) (as:QA):aV tb o as M ρ=(o M ρ).bind fun d=>match El tb M d with
 |some (.q _ m)=>(as M ρ).bind fun ds=>m M (d::ds)
 |_=>.bad:=rfl
@[simp]theorem an9 (tb:List (Str×MV)) (o:QF) (as:QA):cO tb o as M ρ=((o M ρ).at M).bind fun d _=>match El tb M d with
 |some (.q _ m)=>((as M ρ).at M).bind fun ds _=>(m M (d::ds)).at M
 |some (.g _ m)=>((as M ρ).at M).bind fun ds _=>m M (d::ds)
 |none=>.bad:=rfl
@[simp]theorem aos (x:Str) (m:Mo->List Dat->bx Dat) (as:QA):Bg x m as M ρ=((as M ρ).at M).bind fun ds _=>match m (M++[⟨x,[]⟩]) (ob M.length::ds) with
 |.ok .none M'=>.ok (ob M.length) M'
 |_=>.bad:=rfl
@[simp]theorem anh (m:Mo->List Dat->bx Dat) (as:QA):xg m as M ρ=((as M ρ).at M).bind fun ds _=>m M ds:=rfl
@[simp]theorem am1 (m:Mo->List Dat->bx Dat) (as:GA):akv m as M ρ=(as M ρ).bind fun ds M1=>m M1 ds:=rfl
@[simp]theorem am7 (m:Mo->List Dat->Out Dat) (as:GA):aiY m as M ρ=(as M ρ).bind fun ds M1=>(m M1 ds).at M1:=rfl
@[simp]theorem am5 (a:GF) (r:GA):akb a r M ρ=(a M ρ).bind fun d M1=>(r M1 ρ).bind fun ds M2=>.ok (d::ds) M2:=rfl
@[simp]theorem aoL (t:QT):af4 t M ρ=(t M ρ).at M:=rfl
@[simp]theorem ano (a:GT):amw a M ρ=(a M ρ).bind fun b M1=>.ok (!b) M1:=rfl
@[simp]theorem aod (a b:GT):amQ a b M ρ=(a M ρ).bind fun x M1=>if x=true then b M1 ρ else .ok false M1:=rfl
@[simp]theorem aoI (a b:GT):an3 a b M ρ=(a M ρ).bind fun x M1=>if x=true then .ok true M1 else b M1 ρ:=rfl
@[simp]theorem an0 (a:GF):amj a M ρ=(a M ρ).bind fun d M1=>(Jq d).at M1:=rfl
@[simp]theorem an5 (x:Str):eV x M ρ=.exc ⟨x,[]⟩ ρ M:=rfl
@[simp]theorem am9 (x:Str) (fs:List Str) (as:QA):Cp x fs as M ρ=((as M ρ).at M).then ρ fun ds M'=>.exc ⟨x,(fs.zip ds).reverse⟩ ρ M':=rfl
@[simp]theorem apY (b:SF) (hs:List Hd):U0 b hs M ρ=match b M ρ with
 |.exc x ρ' M'=>hdl hs x ρ' M'
 |o=>o:=rfl
@[simp]theorem aoU (x:dB):hdl [] x ρ M=.exc x ρ M:=rfl
@[simp]theorem aoQ (h:Hd) (r:List Hd) (x:dB):hdl (h::r) x ρ M=match h.tk x.cls with
  |some true=>match aco ρ h.nm with
   |true=>match Ei h.y x h.st (Vq ρ h.nm) with
    |some ρ2=>.next (Vq ρ2 h.nm) M
    |none=>.bad
   |false=>.bad
  |some false=>hdl r x ρ M
  |none=>.bad:=rfl
@[simp]theorem aoS:Vq ρ none=ρ:=rfl
@[simp]theorem aot (i:Nat):Vq ρ (some i)=ρ.set i none:=rfl
@[simp]theorem anT:aco ρ none=true:=rfl
@[simp]theorem anH (i:Nat):aco ρ (some i)=decide (i < ρ.length):=rfl
@[simp]theorem aq2 (y:Str) (x:dB):Ei y x [] ρ=some ρ:=rfl
@[simp]theorem aqe (y:Str) (x:dB) (j:Nat) (e:Ez) (r:List (Nat×Ez)):Ei y x ((j,e)::r) ρ=(Px y x e).bind fun d=>Ei y x r (ρ.set j (some (.dat d))):=rfl
@[simp]theorem apd (y:Str) (x:dB) (d:Dat):Px y x (.con d)=some d:=rfl
@[simp]theorem aoC (g:GF):iw g M ρ=(g M ρ).then ρ fun d M'=>.ret d M':=rfl
@[simp]theorem aqf (t:GT) (f k:SF):anU t f k M ρ=(t M ρ).then ρ fun c M'=>if c=true then f M' ρ else k M' ρ:=rfl
@[simp]theorem am2 (a b:QF):Cj a b M ρ=(a M ρ).bind fun d=>(b M ρ).bind fun e=>(Bf d).bind fun lo=>(Bf e).bind fun n=>Out.when (decide (n<=100000/\-100000<=n/\lo<=100000/\-100000<=lo)) (.ok (iH lo (n - lo).toNat)):=rfl
@[simp]theorem apa (ft:Ft) (o:QF) (e:GF):uH ft o f e M ρ=(e M ρ).then ρ fun d M1=>((o M1 ρ).at M1).then ρ fun od M2=>match j6 M2 od with
 |some (h,i)=>match ft.has i.cls f&&decide (i.fs.length < 100) with
  |true=>.next ρ (M2.set h (i.put f (.dat d)))
  |false=>.bad
 |none=>.bad:=rfl
@[simp]theorem aox (ft:Ft) (o:QF) (e:IF):DY ft o f e M ρ=((e M ρ).at M).then ρ fun xs M0=>((o (M0++[⟨"",[]⟩]) ρ).at (M0++[⟨"",[]⟩])).then ρ fun od M2=>match j6 M2 od with
 |some (h,i)=>match ft.has i.cls f&&decide (i.fs.length < 100) with
  |true=>.next ρ (M2.set h (i.put f (.lst M0.length xs)))
  |false=>.bad
 |none=>.bad:=rfl
@[simp]theorem aoG (ft:Ft) (o:QF) (b:Bool):Ny ft o f b M ρ=((o (M++[⟨"",[]⟩]) ρ).at (M++[⟨"",[]⟩])).then ρ fun od M2=>match j6 M2 od with
 |some (h,i)=>match ft.has i.cls f&&decide (i.fs.length < 100) with
  |true=>.next ρ (M2.set h (i.put f (.dic b [])))
  |false=>.bad
 |none=>.bad:=rfl
@[simp]theorem aor (ft:Ft) (o:QF) (e:Mo->Env->Out (List (Dat×Dat))):Rc ft o f e M ρ=((e M ρ).at M).then ρ fun kvs _=>((o (M++[⟨"",[]⟩]) ρ).at (M++[⟨"",[]⟩])).then ρ fun od M2=>match j6 M2 od with
 |some (h,i)=>match ft.has i.cls f&&decide (i.fs.length < 100) with
  |true=>.next ρ (M2.set h (i.put f (.dic true kvs)))
  |false=>.bad
 |none=>.bad:=rfl
@[simp]theorem aoY (o:QF) (e:GF):Fd f o e M ρ=((o M ρ).at M).then ρ fun od M0=>match FT M0 f od with
 |some (_,_,n,_)=>(e M0 ρ).then ρ fun d M1=>match FT M1 f od with
  |some (h,i,n',xs)=>match n==n'&&decide (xs.length < 100000) with
   |true=>.next ρ (M1.set h (i.put f (.lst n (xs++[d]))))
   |false=>.bad
  |none=>.bad
 |none=>.bad:=rfl
@[simp]theorem aoB (o fi e:QF):Ro f o fi e M ρ=((e M ρ).at M).then ρ fun d _=>((o M ρ).at M).then ρ fun od _=>match FT M f od with
 |some (h,i,n,xs)=>((fi M ρ).at M).then ρ fun k _=>match k with
  |.int k=>match ixN xs.length k with
   |some j=>.next ρ (M.set h (i.put f (.lst n (xs.set j d))))
   |none=>.bad
  |_=>.bad
 |none=>.bad:=rfl
@[simp]theorem ao4 (ft:Ft) (o e:QF):R7 ft f o e M ρ=((o M ρ).at M).then ρ fun od _=>match j6 M od with
 |some (h,i)=>match i.fs.lookup f,ft.has i.cls f&&decide (i.fs.length < 100) with
  |some (.dat (.int a)),true=>((e M ρ).at M).then ρ fun d _=>match d with
   |.int b=>.next ρ (M.set h (i.put f (.dat (.int (a+b)))))
   |_=>.bad
  |_,_=>.bad
 |none=>.bad:=rfl
theorem agZ(d:Dat):FT M f d=(j6 M d).bind fun p=>match p.2.fs.lookup f with
 |some (.lst n xs)=>some (p.1,p.2,n,xs)
 |_=>none:=rfl
@[simp]theorem aoA:FT M f (ob h)=(M[h]?).bind fun i=>match i.cls=="" with
 |true=>none
 |false=>match i.fs.lookup f with
  |some (.lst n xs)=>some (h,i,n,xs)
  |_=>none:=by
 rw[agZ,Y5]
 cases M[h]? with
 |none=>rfl
 |some i=>
  show(match i.cls=="" with
   |true=>none
   |false=>some (h,i)).bind _=(match i.cls=="" with
   |true=>none
   |false=>_)
  cases i.cls=="" <;> rfl
@[simp]theorem aoZ (i:Inst) (x:jd):i.put f x=⟨i.cls,putL f x i.fs⟩:=rfl
@[simp]theorem ars (x:jd):putL f x []=[(f,x)]:=rfl
@[simp]theorem arB (x y:jd) (g:Str) (r:List (Str×jd)):putL f x ((g,y)::r)=if g=f then(g,x)::r else(g,y)::putL f x r:=rfl
@[simp]theorem ao8 (ft:Ft) (c:Str):Ft.has ft c f=match ft.lookup c with
 |some fs=>fs.contains f
 |none=>false:=rfl
@[simp]theorem aom:yW M f (ob h)=(M[h]?).bind fun i=>match i.cls=="" with
 |true=>none
 |false=>match i.fs.lookup f with
  |some (.dic b kvs)=>some (h,i,b,kvs)
  |_=>none:=by
 show(j6 M (ob h)).bind _=_
 rw[Y5]
 cases M[h]? with
 |none=>rfl
 |some i=>
  show(match i.cls=="" with
   |true=>none
   |false=>some (h,i)).bind _=(match i.cls=="" with
   |true=>none
   |false=>_)
  cases i.cls=="" <;> rfl
@[simp]theorem ap1 (neg:Bool) (k o:QF):Qy neg f k o M ρ=(k M ρ).bind fun d=>(o M ρ).bind fun od=>match yW M f od with
 |some (_,_,b,kvs)=>(dhas b kvs d).bind fun r=>.ok (.bool (neg ^^ r))
 |none=>.bad:=rfl
@[simp]theorem aoO (o k e:QF):NQ f o k e M ρ=((e M ρ).at M).then ρ fun v _=>((o M ρ).at M).then ρ fun od _=>match yW M f od with
 |some (h,i,b,kvs)=>((k M ρ).at M).then ρ fun d _=>match dhas b kvs d,decide (kvs.length < 100000) with
  |.ok false,true=>.next ρ (M.set h (i.put f (.dic b (kvs++[(d,v)]))))
  |_,_=>.bad
 |none=>.bad:=rfl
@[simp]theorem ao9 (o k:QF):MP f o k M ρ=((o M ρ).at M).then ρ fun od _=>match yW M f od with
 |some (h,i,b,kvs)=>((k M ρ).at M).then ρ fun d _=>match dhas b kvs d,decide (kvs.length<=100000) with
  |.ok true,true=>.next ρ (M.set h (i.put f (.dic b (kvs.filter fun p=>!PyData.eqv p.1 d))))
  |_,_=>.bad
 |none=>.bad:=rfl
@[simp]theorem aog (o:QF):CK f o M ρ=(o M ρ).bind fun od=>match yW M f od with
 |some (_,_,true,kvs)=>.ok (kvs.map (·.1))
 |_=>.bad:=rfl
@[simp]theorem anF (o:QF):Du f o M ρ=(o M ρ).bind fun od=>match yW M f od with
 |some (_,_,_,kvs)=>.ok (.list (kvs.map (·.1)))
 |none=>.bad:=rfl
@[simp]theorem arD (it:IF) (tg:fU) (vs:List Nat) (tk:QF):qDc it tg vs tk M ρ=(it M ρ).bind fun ds=>Out.when (decide (ds.length<=50000)) (Eu tg tk M (bZ ρ vs) ds []):=rfl
@[simp]theorem an1 (kvs:List (Dat×Dat)) (i:Int):dhas false kvs (.int i)=.ok (kvs.any fun p=>PyData.eqv p.1 (.int i)):=rfl
@[simp]theorem apC (neg:Bool) (kvs:List (Str×Dat)) (k:QF):UW neg kvs k M ρ=(k M ρ).bind fun d=>match d with
 |.str x=>.ok (.bool (neg ^^ (kvs.lookup x).isSome))
 |_=>.bad:=rfl
@[simp]theorem aqj (kvs:List (Str×Dat)) (k:QF):acK kvs k M ρ=(k M ρ).bind fun d=>match d with
 |.str x=>match kvs.lookup x with
  |some y=>.ok y
  |none=>.bad
 |_=>.bad:=rfl
@[simp]theorem anY (it:IF) (tg:fU) (vs:List Nat) (tt:QT) (it1:IF) (tg1:fU) (vs1:List Nat) (tt1:QT) (te:QF):Df it tg vs tt it1 tg1 vs1 tt1 te M ρ=((it M ρ).bind fun ds=>(gW tg tt it1 tg1 vs1 tt1 te M (bZ ρ vs) ds).bind fun r=>Out.when (decide (r.length<=50000)) (.ok r)).bind fun r=>.ok (.list r):=rfl
@[simp]theorem amZ (it:IF) (tg:fU) (vs:List Nat) (tt:QT) (te:QF):ahc it tg vs tt te M ρ=((it M ρ).bind fun ds=>Out.when (decide (ds.length<=50000)) (dD tg tt te M (bZ ρ vs) ds)).bind fun ds=>match intsOf ds with
 |some l=>Out.when (decide (l.length<=4000)) (.ok (.list ((agE l).map PyData.int)))
 |none=>.bad:=rfl
@[simp]theorem anb {α:Type} (k g:Str) (y:α) (r:List (Str×α)):List.lookup k ((g,y)::r)=if k=g then some y else List.lookup k r:=by
 rw[asj]
 by_cases e:k=g
 ·subst e
  simp
 ·have:(k==g)=false:=by simpa using e
  rw[this,if_neg e]
end
end Rf
namespace Pr
open PySem PySem.Spec PyProof.Rows L2 Evl Rf
def yL:SF:=
 (aD (DY jZ (ao 0) "allowances" (LR au))
 (DY jZ (ao 0) "circles" (LR au)))
def uF:Mo->List Dat->bx Dat:=mG 1 yL
def Bo:SF:=
 (Ny jZ (ao 0) "held" true)
def vL:Mo->List Dat->bx Dat:=mG 1 Bo
def Fo:SF:=
 (DY jZ (ao 0) "beasts" (LR au))
def zA:Mo->List Dat->bx Dat:=mG 1 Fo
def zp:SF:=
 (aD (uH jZ (ao 0) "owner_count" (gOf (qC (.int 0))))
 (aD (Ny jZ (ao 0) "holders" false)
 (aD (uH jZ (ao 0) "grounds" (Bg "Grounds" uF au))
 (aD (uH jZ (ao 0) "rights" (Bg "Rights" vL au))
 (uH jZ (ao 0) "herd" (Bg "Herd" zA au))))))
def lY:Mo->List Dat->bx Dat:=mG 1 zp
def Bh:SF:=
 (aP (bB (ak (gK "owner" (ao 0)) (ak (gK "ground" (ao 0)) (ak (gK "due" (ao 0)) (ak (gK "ear" (ao 0)) (ak (gK "alive" (ao 0)) au)))))))
def vA:Mo->List Dat->Out Dat:=mQ 1 Bh
def mj:List (Str×MV):=[("Beast",.q 1 vA)]
def Dd:SF:=
 (aP (aA eG (aV mj (ao 0) au) (bB (ak (gK "mother" (ao 0)) (ak (eE kW (bK "story" (ao 0))) au)))))
def wV:Mo->List Dat->Out Dat:=mQ 1 Dd
def v8:SF:=
 (aP (Du "holders" (ao 0)))
def qu:Mo->List Dat->Out Dat:=mQ 1 v8
def uW:SF:=
 (aP (Du "held" (ao 0)))
def o7:Mo->List Dat->Out Dat:=mQ 1 uW
def uo:SF:=
 (aP (eE oW (bK "allowances" (ao 0))))
def pQ:Mo->List Dat->Out Dat:=mQ 1 uo
def eY:List (Str×MV):=[("Grounds",.q 1 pQ)]
def Bj:SF:=
 (aP (Tg (mO tV tV (qC (.int 1)) (ao 1) (aV eY (ao 0) au))))
def vH:Mo->List Dat->Out Dat:=mQ 2 Bj
def yH:List (Str×MV):=[("Grounds",.q 2 vH)]
def yV:SF:=
 (bO (j7 (iZ (aV yH (ao 0) (ak (aq 1) au)))) (eV "NoGround") aR)
def ux:Mo->List Dat->Out Dat:=mQ 2 yV
def aG:List (Str×MV):=[("Grounds",.q 2 ux)]
def m7:SF:=
 (aD (cI (gOf (aV aG (ao 0) (ak (aq 1) au))))
 (aP (aA aN (bK "allowances" (ao 0)) (aA jX (ao 1) (qC (.int 1))))))
def jP:Mo->List Dat->Out Dat:=mQ 2 m7
def oJ:SF:=
 (aD (cI (gOf (aV aG (ao 0) (ak (aq 1) au))))
 (aP (eE Nh (aA aN (bK "circles" (ao 0)) (aA jX (ao 1) (qC (.int 1)))))))
def lg:Mo->List Dat->Out Dat:=mQ 2 oJ
def bF:List (Str×MV):=[("Grounds",.q 2 lg)]
def oM:SF:=
 (aP (aV bF (bK "grounds" (ao 0)) (ak (aq 1) au)))
def lu:Mo->List Dat->Out Dat:=mQ 2 oM
def tM:List (Str×MV):=[("Rights",.q 1 o7)]
def uU:List (Str×MV):=[("Commons",.q 1 qu)]
def vM:List (Str×MV):=[("Beast",.q 1 wV)]
def bR:List (Str×MV):=[("Commons",.q 2 lu)]
def dJ:List (Str×MV):=[("Grounds",.q 2 jP)]
def yI:SF:=
 (aD (aX (aF 1) (gOf (eU (Cj (qC (.int 1)) (aA eG (aV eY (bK "grounds" (ao 0)) au) (qC (.int 1)))) (aF 3) [3] iy (bB (ak (aV dJ (bK "grounds" (ao 0)) (ak (aq 3) au)) (ak (eE kW (aV bR (ao 0) (ak (aq 3) au))) au))))))
 (aD (aX (aF 2) (gOf (eU (cX (bK "beasts" (bK "herd" (ao 0)))) (aF 4) [4] iy (aV vM (ao 4) au))))
 (aP (bB (ak (aV uU (ao 0) au) (ak (aq 1) (ak (aV tM (bK "rights" (ao 0)) au) (ak (aq 2) au))))))))
def lX:Mo->List Dat->Out Dat:=mQ 5 yI
def Ur:SF:=
 (aD (aX (aF 5) (gOf (aA gY (aA eG (aA eG (aA wO (ao 5) (qC (.int 48271))) (aA wO (qC (.int 9973)) (ao 4))) (qC (.int 11))) (qC (.int 2147483647)))))
 (Fl 3 (aA gY (aA sY (ao 5) (qC (.int 1021))) (ao 2))))
def U9:SF:=
 (aD (Fl 3 (aA gY (ao 0) (ao 2)))
 (aX (aF 0) (gOf (aA sY (ao 0) (ao 2)))))
def acz:SF:=
 (aD (Az 3 (LR au))
 (aD (aX (aF 0) (gOf (eE Ui (ao 0))))
 (aD (bO (bh (aA geD (ao 0) (aA Pq (qC (.int 10)) (qC (.int 18))))) (aD (mJ (wB (ao 1)) (aF 4) U9)
 (aP (aq 3))) aR)
 (aD (aX (aF 5) (gOf (aA gY (aA wO (aA eG (aA gY (ao 0) (qC (.int 1000003))) (qC (.int 17))) (qC (.int 69621))) (qC (.int 2147483647)))))
 (aD (mJ (wB (ao 1)) (aF 4) Ur)
 (aP (aq 3)))))))
def qM:Mo->List Dat->Out Dat:=mQ 6 acz
def Qz:SF:=
 (aD (bO (bh (aA cA (aA gY (ao 1) (qC (.int 4))) (qC (.int 1)))) (aP (eE kW (eU (cX (ao 0)) (aF 2) [2] iy (aA lU (qC (.int 0)) (aA jX (ao 2) (qC (.int 7))))))) aR)
 (aD (bO (bh (aA cA (aA gY (ao 1) (qC (.int 4))) (qC (.int 2)))) (aP (eE kW (eU (cX (ao 0)) (aF 2) [2] iy (aA gY (ao 2) (qC (.int 3)))))) aR)
 (aP (eE kW (ao 0)))))
def tH:Mo->List Dat->Out Dat:=mQ 3 Qz
def acM:SF:=
 (aD (aX (aF 1) (gOf (aU qM (ak (aq 0) (ak (qC (.int 7)) (ak (qC (.int 10)) au))))))
 (aP (aU tH (ak (Mq (ao 1) xV (pW (qC (.int 6)))) (ak (aA aN (ao 1) (qC (.int 6))) au)))))
def zK:Mo->List Dat->Out Dat:=mQ 2 acM
def Fg:SF:=
 (aD (bO (bh (aA cA (aA gY (ao 0) (qC (.int 8))) (qC (.int 7)))) (aP (Bs au)) aR)
 (aD (aX (aF 1) (gOf (Bs (ak (bB (ak (qC (.str "ground")) (ak (qC (.int 0)) (ak (qC (.int 0)) au)))) (ak (bB (ak (qC (.str "owner")) (ak (qC (.int 0)) (ak (qC (.int 0)) au)))) (ak (bB (ak (qC (.str "owner")) (ak (qC (.int 0)) (ak (qC (.int 0)) au)))) (ak (bB (ak (qC (.str "enrol")) (ak (qC (.int 0)) (ak (qC (.int 0)) au)))) (ak (bB (ak (qC (.str "enrol")) (ak (qC (.int 1)) (ak (qC (.int 0)) au)))) au))))))))
 (aD (aX (aF 1) (gOf (aA eG (ao 1) (Bs (ak (bB (ak (qC (.str "bring")) (ak (qC (.int 0)) (ak (qC (.int 0)) au)))) (ak (bB (ak (qC (.str "cut")) (ak (qC (.int 0)) (ak (qC (.int 0)) au)))) (ak (bB (ak (qC (.str "bring")) (ak (qC (.int 1)) (ak (qC (.int 0)) au)))) (ak (bB (ak (qC (.str "cut")) (ak (qC (.int 1)) (ak (qC (.int 0)) au)))) (ak (bB (ak (qC (.str "ground")) (ak (qC (.int 0)) (ak (qC (.int 0)) au)))) (ak (bB (ak (qC (.str "enrol")) (ak (qC (.int 0)) (ak (qC (.int 1)) au)))) au))))))))))
 (aP (aq 1)))))
def uX:Mo->List Dat->Out Dat:=mQ 2 Fg
def Mx:SF:=
 (aD (aX (aF 1) (gOf (Bs (ak (qC (.str "tear")) (ak (qC (.str "cut")) (ak (qC (.str "bring")) (ak (qC (.str "sell")) (ak (qC (.str "move")) (ak (qC (.str "enrol")) (ak (qC (.str "bear")) (ak (qC (.str "tear")) (ak (qC (.str "cut")) (ak (qC (.str "sell")) (ak (qC (.str "move")) (ak (qC (.str "unite")) (ak (qC (.str "part")) au))))))))))))))))
 (aD (aX (aF 1) (gOf (aA eG (ao 1) (Bs (ak (qC (.str "heir")) (ak (qC (.str "pass")) (ak (qC (.str "die")) (ak (qC (.str "leave")) (ak (qC (.str "ground")) (ak (qC (.str "owner")) (ak (qC (.str "enrol")) (ak (qC (.str "tear")) (ak (qC (.str "sell")) (ak (qC (.str "bring")) (ak (qC (.str "bear")) (ak (qC (.str "cut")) au))))))))))))))))
 (aP (aA aN (ao 1) (aA gY (ao 0) (qC (.int 25)))))))
def Ag:Mo->List Dat->Out Dat:=mQ 2 Mx
def lO:SF:=
 (bO (bh (Qy true "holders" (aq 1) (ao 0))) (eV "NoOwner") aR)
def jG:Mo->List Dat->Out Dat:=mQ 2 lO
def yx:SF:=
 (aP (eU (CK "held" (ao 0)) (bA [3,4,5]) [3,4,5] (j5 (bh (aA cA (ao 3) (ao 1))) (bh (aA cA (ao 4) (ao 2)))) (aq 5)))
def uJ:Mo->List Dat->Out Dat:=mQ 6 yx
def cJ:List (Str×MV):=[("Rights",.q 3 uJ)]
def sW:SF:=
 (aP (aA Zy (eE oW (aV cJ (ao 0) (ak (aq 1) (ak (aq 2) au)))) (qC (.int 0))))
def oK:Mo->List Dat->Out Dat:=mQ 3 sW
def rE:List (Str×MV):=[("Rights",.q 3 oK)]
def qK:SF:=
 (bO (j7 (iZ (aV rE (bK "rights" (ao 0)) (ak (aq 1) (ak (aq 2) au))))) (eV "NoRight") aR)
def lV:Mo->List Dat->Out Dat:=mQ 3 qK
def rC:SF:=
 (aD (R7 jZ "owner_count" (ao 0) (qC (.int 1)))
 (aD (NQ "holders" (ao 0) (gK "owner_count" (ao 0)) (qC (.bool true)))
 (aP (gK "owner_count" (ao 0)))))
def iG:Mo->List Dat->bx Dat:=mG 1 rC
def oE:SF:=
 (aD (aX (aF 4) (gOf (bB (ak (aq 1) (ak (aq 2) (ak (aq 3) au))))))
 (aD (bO (bh (Qy false "held" (aq 4) (ao 0))) (eV "HasRight") aR)
 (NQ "held" (ao 0) (aq 4) (qC (.bool true)))))
def jg:Mo->List Dat->bx Dat:=mG 5 oE
def Dh:SF:=
 (aX (aF 2) (gOf (Df (cX (ao 2)) (bA [4,5]) [4,5,6] iy (Cj (ao 3) (aA eG (aA Ja (aA eG (ao 3) (ao 5)) (qC cR)) (qC (.int 1)))) (aF 6) [6] iy (bB (ak (aA eG (ao 4) (bB (ak (aq 6) au))) (ak (aA jX (ao 5) (aA jX (ao 6) (ao 3))) au))))))
def aau:SF:=
 (aD (aX (aF 2) (gOf (Bs (ak (bB (ak (bB au) (ak (aq 1) au))) au))))
 (aD (mJ (cX (aq 0)) (aF 3) Dh)
 (aP (eU (cX (ao 2)) (bA [4,5]) [4,5] iy (aq 4)))))
def Mr:Mo->List Dat->Out Dat:=mQ 7 aau
def Uz:SF:=
 (aP (eE U5 (eU (Fe (ao 0) (ao 1)) (bA [2,3]) [2,3] (bh (aA Zy (ao 3) (ao 2))) (aA jX (ao 3) (ao 2)))))
def uw:Mo->List Dat->Out Dat:=mQ 4 Uz
def Fj:SF:=
 (aP (eU (cX (aU Mr (ak (aq 0) (ak (aq 1) au)))) (aF 2) [2] (bh (aA cA (aU uw (ak (aq 0) (ak (aq 2) au))) (ao 1))) (aq 2)))
def u5:Mo->List Dat->Out Dat:=mQ 3 Fj
def Ve:SF:=
 (aP (aA lU (aU uw (ak (aq 0) (ak (aq 1) au))) (aU uw (ak (aq 1) (ak (aq 0) au)))))
def HS:Mo->List Dat->Out Dat:=mQ 2 Ve
def Yz:SF:=
 (aP (aA tV (aU HS (ak (aq 0) (ak (aq 1) au))) (ao 2)))
def qR:Mo->List Dat->Out Dat:=mQ 3 Yz
def jT:SF:=
 (bO (j7 (iZ (eE Qx (eU (cX (ao 2)) (bA [5,6]) [5,6] iy (aU qR (ak (aq 4) (ak (aq 6) (ak (aq 3) au)))))))) (aP (aq 4)) aR)
def xQ:SF:=
 (aD (mJ (cX (aU u5 (ak (aq 0) (ak (aq 1) au)))) (aF 4) jT)
 (eV "NoneFree"))
def pN:Mo->List Dat->Out Dat:=mQ 7 xQ
def qj:SF:=
 (aP (aA aN (aV cJ (bK "rights" (ao 0)) (ak (aq 1) (ak (aq 2) au))) (qC (.int 0))))
def lQ:Mo->List Dat->Out Dat:=mQ 3 qj
def Qt:SF:=
 (aP (eE Tn (ao 0)))
def qG:Mo->List Dat->Out Dat:=mQ 1 Qt
def uP:SF:=
 (aP (eU (uK 1 (bK "beasts" (ao 0))) (bA [1,2]) [1,2] (iZ (bK "alive" (ao 2))) (bB (ak (aq 1) (ak (aq 2) au)))))
def o9:Mo->List Dat->Out Dat:=mQ 3 uP
def dX:List (Str×MV):=[("Herd",.q 1 o9)]
def yG:SF:=
 (aP (eU (cX (aV dX (ao 0) au)) (bA [2,3]) [2,3] (bh (aA (inD false) (bK "ground" (ao 3)) (ao 1))) (bB (ak (aq 2) (ak (aq 3) au)))))
def pB:Mo->List Dat->Out Dat:=mQ 4 yG
def rM:SF:=
 (aP (eU (CK "held" (ao 0)) (bA [2,3,4]) [2,3,4] (bh (aA (inD false) (ao 3) (ao 1))) (bB (ak (aq 2) (ak (aq 4) au)))))
def m9:Mo->List Dat->Out Dat:=mQ 5 rM
def qm:List (Str×MV):=[("Rights",.q 2 m9)]
def jx:List (Str×MV):=[("Herd",.q 2 pB)]
def j8:SF:=
 (aD (aX (aF 3) (gOf (aV bR (ao 0) (ak (aq 2) au))))
 (aD (aX (aF 4) (gOf (eU (cX (aV jx (bK "herd" (ao 0)) (ak (aq 3) au))) (bA [5,6]) [5,6] (j5 (bh (xM true .none (bK "due" (ao 6)))) (bh (aA rZ (ao 5) (ao 1)))) (bB (ak (gK "owner" (ao 6)) (ak (gK "due" (ao 6)) au))))))
 (aP (aU qG (ak (aA eG (aV qm (bK "rights" (ao 0)) (ak (aq 3) au)) (ao 4)) au)))))
def iK:Mo->List Dat->Out Dat:=mQ 7 j8
def cZ:List (Str×MV):=[("Commons",.q 3 iK)]
def oN:SF:=
 (aP (aV cZ (ao 0) (ak (qC (.int 0)) (ak (aq 1) au))))
def kJ:Mo->List Dat->Out Dat:=mQ 2 oN
def uL:SF:=
 (aP (eE maxD (eU (cX (aV bF (ao 0) (ak (aq 1) au))) (aF 2) [2] iy (aV dJ (ao 0) (ak (aq 2) au)))))
def pP:Mo->List Dat->Out Dat:=mQ 3 uL
def rR:List (Str×MV):=[("Grounds",.q 2 pP)]
def uI:SF:=
 (aP (aV rR (bK "grounds" (ao 0)) (ak (aq 1) au)))
def pU:Mo->List Dat->Out Dat:=mQ 2 uI
def iz:List (Str×MV):=[("Rights",.g 4 jg)]
def gU:List (Str×MV):=[("Commons",.g 1 iG)]
def bY:List (Str×MV):=[("Commons",.q 2 pU)]
def cG:List (Str×MV):=[("Commons",.q 2 kJ)]
def bT:List (Str×MV):=[("Commons",.q 3 lQ)]
def aM:List (Str×MV):=[("Commons",.q 3 lV)]
def aC:List (Str×MV):=[("Commons",.q 2 jG)]
def dW:SF:=
 (aD (cI (gOf (aV aC (ao 0) (ak (aq 1) au))))
 (aD (cI (gOf (aV aG (bK "grounds" (ao 0)) (ak (aq 2) au))))
 (aD (bO (j7 (mO tV tV (qC ju) (ao 3) (qC j9))) (eV "BadExtra") aR)
 (aD (cI (gOf (aV aM (ao 0) (ak (aq 1) (ak (aq 2) au)))))
 (aD (aX (aF 4) (gOf (aU pN (ak (aV bT (ao 0) (ak (aq 1) (ak (aq 2) au))) (ak (aq 3) (ak (aV cG (ao 0) (ak (aq 2) au)) (ak (aV bY (ao 0) (ak (aq 2) au)) au)))))))
 (aD (aX (aF 5) (cO gU (ao 0) au))
 (aD (cI (cO iz (bK "rights" (ao 0)) (ak (aq 5) (ak (aq 2) (ak (aq 4) au)))))
 (aP (bB (ak (aq 5) (ak (aq 4) au)))))))))))
def cW:Mo->List Dat->bx Dat:=mG 6 dW
def jF:SF:=
 (aD (bO (j7 (mO tV tV (qC (.int 0)) (ao 1) (qC gR))) (eV "BadAllowance") aR)
 (aD (Fd "allowances" (ao 0) (gOf (aq 1)))
 (aD (Fd "circles" (ao 0) (gOf (bB (ak (aV eY (ao 0) au) au))))
 (aP (aV eY (ao 0) au)))))
def fB:Mo->List Dat->bx Dat:=mG 2 jF
def lB:List (Str×MV):=[("Grounds",.g 2 fB)]
def lN:SF:=
 (iw (cO lB (bK "grounds" (ao 0)) (ak (aq 1) au)))
def gM:Mo->List Dat->bx Dat:=mG 2 lN
def KC:SF:=
 (aP (eU (cX (aU qG (ak (aq 2) au))) (bA [4,5]) [4,5] (j5 (bh (aA rZ (ao 4) (ao 0))) (iZ (aU qR (ak (aq 1) (ak (aq 5) (ak (aq 3) au)))))) (bB (ak (aq 4) (ak (aq 5) au)))))
def Ac:Mo->List Dat->Out Dat:=mQ 6 KC
def Ud:SF:=
 (aP (eE kW (eU (Fe (ao 0) (ao 1)) (bA [2,3]) [2,3] iy (aA lU (ao 2) (ao 3)))))
def pq:Mo->List Dat->Out Dat:=mQ 4 Ud
def BL:SF:=
 (aD (aX (aF 4) (gOf (aU Ac (ak (aq 0) (ak (aq 1) (ak (aq 2) (ak (aq 3) au)))))))
 (bO (iZ (ao 4)) (aD (aX (bA [5,6]) (gOf (aA aN (ao 4) (qC (.int 0)))))
 (Cp "Clash" ["ones","others","ear"] (ak (bB (ak (aq 0) (ak (aq 1) au))) (ak (bB (ak (aq 5) (ak (aq 6) au))) (ak (aU pq (ak (aq 1) (ak (aq 6) au))) au))))) aR))
def nZ:Mo->List Dat->Out Dat:=mQ 7 BL
def lM:SF:=
 (cI (gOf (aU nZ (ak (aq 1) (ak (aq 2) (ak (aV cG (ao 0) (ak (aq 3) au)) (ak (aV bY (ao 0) (ak (aq 3) au)) au)))))))
def gQ:Mo->List Dat->Out Dat:=mQ 4 lM
def IW:SF:=
 (aP (wX (aA cA (eE oW (ao 0)) (eE oW (qC iW))) (eE Qp (eU (cX (ao 0)) (aF 1) [1] iy (Tg (mO tV tV (qC (.int 0)) (ao 1) (qC cR)))))))
def sU:Mo->List Dat->Out Dat:=mQ 2 IW
def Jd:SF:=
 (bO (j7 (iZ (aU sU (ak (aq 0) au)))) (eV "BadEar") aR)
def qd:Mo->List Dat->Out Dat:=mQ 1 Jd
def bU:List (Str×MV):=[("Commons",.q 4 gQ)]
def fX:SF:=
 (aD (cI (gOf (aV aC (ao 0) (ak (aq 1) au))))
 (aD (cI (gOf (aV aG (bK "grounds" (ao 0)) (ak (aq 2) au))))
 (aD (cI (gOf (aU qd (ak (aq 3) au))))
 (aD (bO (bh (aA cA (ao 3) (qC jC))) (eV "Bare") aR)
 (aD (bO (bh (aA (inD false) (ao 3) (aV cJ (bK "rights" (ao 0)) (ak (aq 1) (ak (aq 2) au))))) (eV "HasRight") aR)
 (aD (cI (gOf (aV bU (ao 0) (ak (aq 1) (ak (aq 3) (ak (aq 2) au))))))
 (cI (cO iz (bK "rights" (ao 0)) (ak (aq 1) (ak (aq 2) (ak (aq 3) au)))))))))))
def dU:Mo->List Dat->bx Dat:=mG 4 fX
def wH:SF:=
 (MP "held" (ao 0) (bB (ak (aq 1) (ak (aq 2) (ak (aq 4) au)))))
def vC:SF:=
 (aD (aX (aF 3) (gOf (aV cJ (ao 0) (ak (aq 1) (ak (aq 2) au)))))
 (aD (bO (j7 (iZ (ao 3))) (eV "NoRight") aR)
 (aD (mJ (cX (aq 3)) (aF 4) wH)
 (aP (aq 3)))))
def nJ:Mo->List Dat->bx Dat:=mG 5 vC
def zf:List (Str×MV):=[("Rights",.g 3 nJ)]
def jD:SF:=
 (aD (cI (gOf (aV aC (ao 0) (ak (aq 1) au))))
 (aD (cI (gOf (aV aG (bK "grounds" (ao 0)) (ak (aq 2) au))))
 (aD (cI (gOf (aV aM (ao 0) (ak (aq 1) (ak (aq 2) au)))))
 (aD (bO (iZ (eE Qx (eU (cX (aV jx (bK "herd" (ao 0)) (ak (Bs (ak (aq 2) au)) au))) (bA [3,4]) [3,4] iy (aA cA (bK "owner" (ao 4)) (ao 1))))) (eV "StillThere") aR)
 (iw (cO zf (bK "rights" (ao 0)) (ak (aq 1) (ak (aq 2) au))))))))
def fY:Mo->List Dat->bx Dat:=mG 5 jD
def ql:SF:=
 (aD (aX (bA [2,3,4,5,6]) (gOf (aq 1)))
 (aD (uH jZ (ao 0) "owner" (gOf (aq 2)))
 (aD (uH jZ (ao 0) "ground" (gOf (aq 3)))
 (aD (uH jZ (ao 0) "due" (gOf (aq 4)))
 (aD (uH jZ (ao 0) "ear" (gOf (aq 5)))
 (uH jZ (ao 0) "alive" (gOf (aq 6))))))))
def mW:Mo->List Dat->bx Dat:=mG 7 ql
def Nz:SF:=
 (aD (bO (bh (aA cA (aA aN (ao 0) (qC (.int 0))) (qC (.str "born")))) (aD (aX (bA [1,2,3,4]) (gOf (aq 0)))
 (aP (bB (ak (aq 3) (ak (aq 4) (ak (qC .none) (ak (qC jC) (ak (qC (.bool true)) au)))))))) aR)
 (aD (aX (bA [1,3,4,5]) (gOf (aq 0)))
 (aP (bB (ak (aq 3) (ak (aq 4) (ak (qC .none) (ak (aq 5) (ak (qC (.bool true)) au)))))))))
def Cv:Mo->List Dat->Out Dat:=mQ 6 Nz
def jJ:List (Str×MV):=[("Beast",.g 2 mW)]
def CQ:SF:=
 (aD (DY jZ (ao 0) "story" (LR (ak (aq 1) au)))
 (aD (uH jZ (ao 0) "mother" (gOf (RW (bh (aA cA (aA aN (ao 1) (qC (.int 0))) (qC (.str "born")))) (aA aN (ao 1) (qC (.int 1))) (qC (.int 0)))))
 (cI (cO jJ (ao 0) (ak (aU Cv (ak (aq 1) au)) au)))))
def uf:Mo->List Dat->bx Dat:=mG 2 CQ
def vR:SF:=
 (aD (Fd "beasts" (ao 0) (Bg "Beast" uf (ak (aq 1) au)))
 (aP (eE oW (bK "beasts" (ao 0)))))
def qw:Mo->List Dat->bx Dat:=mG 2 vR
def jK:List (Str×MV):=[("Herd",.g 2 qw)]
def jB:SF:=
 (aD (cI (gOf (aV aC (ao 0) (ak (aq 1) au))))
 (aD (cI (gOf (aV aG (bK "grounds" (ao 0)) (ak (aq 2) au))))
 (aD (cI (gOf (aU qd (ak (aq 3) au))))
 (aD (cI (gOf (aV aM (ao 0) (ak (aq 1) (ak (aq 2) au)))))
 (iw (cO jK (bK "herd" (ao 0)) (ak (bB (ak (qC (.str "brought")) (ak (aq 1) (ak (aq 2) (ak (aq 3) au))))) au)))))))
def fW:Mo->List Dat->bx Dat:=mG 4 jB
def tG:SF:=
 (aD (bO (j7 (mO tV tV (qC (.int 1)) (ao 1) (eE oW (bK "beasts" (ao 0))))) (eV "NoBeast") aR)
 (aP (aA aN (bK "beasts" (ao 0)) (aA jX (ao 1) (qC (.int 1))))))
def lA:Mo->List Dat->Out Dat:=mQ 2 tG
def fL:List (Str×MV):=[("Herd",.q 2 lA)]
def vB:SF:=
 (aD (aX (aF 2) (gOf (aV fL (ao 0) (ak (aq 1) au))))
 (aD (bO (j7 (iZ (bK "alive" (ao 2)))) (eV "Dead") aR)
 (aP (aq 2))))
def qQ:Mo->List Dat->Out Dat:=mQ 3 vB
def bH:List (Str×MV):=[("Herd",.q 2 qQ)]
def qP:SF:=
 (aD (aX (aF 2) (gOf (aV bH (ao 0) (ak (aq 1) au))))
 (aD (bO (bh (xM false .none (bK "due" (ao 2)))) (eV "Unmarked") aR)
 (aP (aq 2))))
def nM:Mo->List Dat->Out Dat:=mQ 3 qP
def bD:List (Str×MV):=[("Herd",.q 2 nM)]
def lZ:SF:=
 (aD (aX (aF 2) (gOf (aV bD (bK "herd" (ao 0)) (ak (aq 1) au))))
 (iw (cO jK (bK "herd" (ao 0)) (ak (bB (ak (qC (.str "born")) (ak (aq 1) (ak (gK "owner" (ao 2)) (ak (gK "ground" (ao 2)) au))))) au))))
def ji:Mo->List Dat->bx Dat:=mG 3 lZ
def JC:SF:=
 (aP (eE kW (eU (uK 0 (ao 0)) (bA [2,3]) [2,3] iy (RW (bh (aA cA (ao 2) (ao 1))) (aA eG (ao 3) (qC (.int 1))) (aq 3)))))
def wL:Mo->List Dat->Out Dat:=mQ 4 JC
def K9:SF:=
 (aD (aX (bA [2,3,4,5,6]) (gOf (aq 0)))
 (aD (aX (aF 7) (gOf (aA aN (ao 1) (qC (.int 0)))))
 (aD (bO (bh (aA cA (ao 7) (qC (.str "cut")))) (Ri 4 5 (gOf (aA aN (ao 1) (qC (.int 1))))) (bO (bh (aA cA (ao 7) (qC (.str "torn")))) (aX (aF 5) (gOf (aU wL (ak (aq 5) (ak (aA aN (ao 1) (qC (.int 1))) au))))) (bO (bh (aA cA (ao 7) (qC (.str "sold")))) (aD (aX (aF 2) (gOf (aA aN (ao 1) (qC (.int 1)))))
 (Ri 4 5 (gOf (aA aN (ao 1) (qC (.int 2)))))) (bO (bh (aA cA (ao 7) (qC (.str "moved")))) (aX (aF 3) (gOf (aA aN (ao 1) (qC (.int 1))))) (bO (bh (aA cA (ao 7) (qC (.str "followed")))) (aD (aX (aF 2) (gOf (aA aN (ao 1) (qC (.int 1)))))
 (aX (aF 3) (gOf (aA aN (ao 1) (qC (.int 2)))))) (bO (bh (aA cA (ao 7) (qC (.str "passed")))) (aX (aF 2) (gOf (aA aN (ao 1) (qC (.int 1))))) (bO (bh (aA cA (ao 7) (qC (.str "died")))) (aX (aF 6) (gOf (qC (.bool false)))) aR)))))))
 (aP (bB (ak (aq 2) (ak (aq 3) (ak (aq 4) (ak (aq 5) (ak (aq 6) au))))))))))
def Ae:Mo->List Dat->Out Dat:=mQ 8 K9
def yJ:SF:=
 (aD (Fd "story" (ao 0) (gOf (aq 1)))
 (cI (cO jJ (ao 0) (ak (aU Ae (ak (aV mj (ao 0) au) (ak (aq 1) au))) au))))
def mH:Mo->List Dat->bx Dat:=mG 2 yJ
def bL:List (Str×MV):=[("Beast",.g 2 mH)]
def nR:SF:=
 (aD (aX (aF 2) (gOf (aV bH (bK "herd" (ao 0)) (ak (aq 1) au))))
 (aD (aX (aF 3) (gOf (aU pq (ak (gK "ear" (ao 2)) (ak (aV bT (ao 0) (ak (gK "owner" (ao 2)) (ak (gK "ground" (ao 2)) au))) au)))))
 (aD (cI (gOf (aV bU (ao 0) (ak (gK "owner" (ao 2)) (ak (aq 3) (ak (gK "ground" (ao 2)) au))))))
 (aD (cI (cO bL (ao 2) (ak (bB (ak (qC (.str "cut")) (ak (aq 3) au))) au)))
 (aP (aq 3))))))
def jN:Mo->List Dat->bx Dat:=mG 4 nR
def jr:SF:=
 (aD (aX (aF 3) (gOf (aV bH (bK "herd" (ao 0)) (ak (aq 1) au))))
 (aD (bO (j7 (mO tV JZ (qC (.int 0)) (ao 2) (eE oW (qC iW)))) (eV "NoPlace") aR)
 (aD (bO (bh (aA geD (aA aN (bK "ear" (ao 3)) (ao 2)) (qC cR))) (eV "Deepest") aR)
 (aD (cI (cO bL (ao 3) (ak (bB (ak (qC (.str "torn")) (ak (aq 2) au))) au)))
 (aP (gK "ear" (ao 3)))))))
def fM:Mo->List Dat->bx Dat:=mG 4 jr
def vD:SF:=
 (aD (cI (gOf (aV fL (ao 0) (ak (aq 1) au))))
 (aP (eU (cX (aV dX (ao 0) au)) (bA [2,3]) [2,3] (j5 (bh (aA cA (bK "mother" (ao 3)) (ao 1))) (bh (xM false .none (bK "due" (ao 3))))) (bB (ak (aq 2) (ak (aq 3) au))))))
def qN:Mo->List Dat->Out Dat:=mQ 4 vD
def yS:List (Str×MV):=[("Herd",.q 2 qN)]
def qH:SF:=
 (cI (cO bL (ao 4) (ak (bB (ak (qC (.str "followed")) (ak (gK "owner" (ao 2)) (ak (gK "ground" (ao 2)) au)))) au)))
def tO:SF:=
 (aD (aX (aF 2) (gOf (aV fL (ao 0) (ak (aq 1) au))))
 (mJ (cX (aV yS (ao 0) (ak (aq 1) au))) (bA [3,4]) qH))
def oH:Mo->List Dat->bx Dat:=mG 5 tO
def iD:List (Str×MV):=[("Herd",.g 2 oH)]
def fO:SF:=
 (aD (aX (aF 3) (gOf (aV bD (bK "herd" (ao 0)) (ak (aq 1) au))))
 (aD (cI (gOf (aV aC (ao 0) (ak (aq 2) au))))
 (aD (bO (bh (aA cA (bK "owner" (ao 3)) (ao 2))) (eV "SameOwner") aR)
 (aD (cI (gOf (aV aM (ao 0) (ak (aq 2) (ak (gK "ground" (ao 3)) au)))))
 (aD (aX (aF 4) (gOf (aU pq (ak (gK "ear" (ao 3)) (ak (aV bT (ao 0) (ak (aq 2) (ak (gK "ground" (ao 3)) au))) au)))))
 (aD (cI (gOf (aU nZ (ak (aq 2) (ak (aq 4) (ak (aV cZ (ao 0) (ak (aq 1) (ak (gK "ground" (ao 3)) au))) (ak (aV bY (ao 0) (ak (gK "ground" (ao 3)) au)) au)))))))
 (aD (cI (cO bL (ao 3) (ak (bB (ak (qC (.str "sold")) (ak (aq 2) (ak (aq 4) au)))) au)))
 (aD (cI (cO iD (bK "herd" (ao 0)) (ak (aq 1) au)))
 (aP (aq 4))))))))))
def dH:Mo->List Dat->bx Dat:=mG 5 fO
def fP:SF:=
 (aD (aX (aF 3) (gOf (aV bD (bK "herd" (ao 0)) (ak (aq 1) au))))
 (aD (cI (gOf (aV aG (bK "grounds" (ao 0)) (ak (aq 2) au))))
 (aD (aX (aF 4) (gOf (gK "ground" (ao 3))))
 (aD (bO (bh (aA cA (ao 4) (ao 2))) (eV "SameGround") aR)
 (aD (cI (gOf (aV aM (ao 0) (ak (gK "owner" (ao 3)) (ak (aq 2) au)))))
 (aD (cI (gOf (aV bU (ao 0) (ak (gK "owner" (ao 3)) (ak (gK "due" (ao 3)) (ak (aq 2) au))))))
 (aD (cI (cO bL (ao 3) (ak (bB (ak (qC (.str "moved")) (ak (aq 2) au))) au)))
 (aD (cI (cO iD (bK "herd" (ao 0)) (ak (aq 1) au)))
 (aP (aq 4))))))))))
def dI:Mo->List Dat->bx Dat:=mG 5 fP
def qU:SF:=
 (cI (cO bL (aV bH (bK "herd" (ao 0)) (ak (aq 1) au)) (ak (bB (ak (qC (.str "died")) au)) au)))
def lH:Mo->List Dat->bx Dat:=mG 2 qU
def Iu:SF:=
 (aD (aX (aF 2) (gOf (aU qG (ak (aq 0) au))))
 (aP (Df (uK 0 (ao 2)) (bA [3,4]) [3,4,5] iy (cX (Mq (ao 2) (pW (aA eG (ao 3) (qC (.int 1)))) xV)) (aF 5) [5] (j5 (bh (aA rZ (aA aN (ao 4) (qC (.int 0))) (aA aN (ao 5) (qC (.int 0))))) (iZ (aU qR (ak (aA aN (ao 4) (qC (.int 1))) (ak (aA aN (ao 5) (qC (.int 1))) (ak (aq 1) au)))))) (bB (ak (aq 4) (ak (aq 5) au))))))
def uz:Mo->List Dat->Out Dat:=mQ 6 Iu
def tR:SF:=
 (aD (aX (aF 3) (gOf (aA lU (aV bY (ao 0) (ak (aq 1) au)) (aV bY (ao 0) (ak (aq 2) au)))))
 (aP (aU uz (ak (aA eG (aV cG (ao 0) (ak (aq 1) au)) (aV cG (ao 0) (ak (aq 2) au))) (ak (aq 3) au)))))
def kY:Mo->List Dat->Out Dat:=mQ 4 tR
def rG:SF:=
 (Ro "circles" (ao 0) (aA jX (ao 3) (qC (.int 1))) (aq 2))
def uQ:SF:=
 (aD (aX (aF 2) (gOf (eE kW (ao 1))))
 (aD (mJ (cX (aq 1)) (aF 3) rG)
 (aP (aq 1))))
def lK:Mo->List Dat->bx Dat:=mG 4 uQ
def gG:List (Str×MV):=[("Grounds",.g 2 lK)]
def rQ:SF:=
 (aD (aX (aF 3) (gOf (aV bF (ao 0) (ak (aq 1) au))))
 (aD (aX (aF 4) (gOf (aV bF (ao 0) (ak (aq 2) au))))
 (aD (bO (bh (aA (inD false) (ao 2) (ao 3))) (eV "Together") aR)
 (iw (cO gG (ao 0) (ak (eE vN (aA eG (ao 3) (ao 4))) au))))))
def jH:Mo->List Dat->bx Dat:=mG 5 rQ
def vU:List (Str×MV):=[("Grounds",.g 3 jH)]
def ni:List (Str×MV):=[("Commons",.q 3 kY)]
def jA:SF:=
 (aD (cI (gOf (aV aG (bK "grounds" (ao 0)) (ak (aq 2) au))))
 (aD (bO (bh (aA (inD false) (ao 2) (aV bR (ao 0) (ak (aq 1) au)))) (eV "Together") aR)
 (aD (aX (aF 3) (gOf (aV ni (ao 0) (ak (aq 1) (ak (aq 2) au)))))
 (aD (bO (iZ (ao 3)) (aD (aX (bA [4,5]) (gOf (aA aN (ao 3) (qC (.int 0)))))
 (Cp "Clash" ["ones","others","ear"] (ak (aq 4) (ak (aq 5) (ak (aU pq (ak (aA aN (ao 4) (qC (.int 1))) (ak (aA aN (ao 5) (qC (.int 1))) au))) au))))) aR)
 (iw (cO vU (bK "grounds" (ao 0)) (ak (aq 1) (ak (aq 2) au))))))))
def eX:Mo->List Dat->bx Dat:=mG 6 jA
def pC:SF:=
 (aD (aX (aF 2) (gOf (eU (cX (aV bF (ao 0) (ak (aq 1) au))) (aF 3) [3] (bh (aA rZ (ao 3) (ao 1))) (aq 3))))
 (aD (bO (j7 (iZ (ao 2))) (eV "Alone") aR)
 (aD (cI (cO gG (ao 0) (ak (Bs (ak (aq 1) au)) au)))
 (iw (cO gG (ao 0) (ak (aq 2) au))))))
def jm:Mo->List Dat->bx Dat:=mG 4 pC
def nY:List (Str×MV):=[("Grounds",.g 2 jm)]
def pG:SF:=
 (iw (cO nY (bK "grounds" (ao 0)) (ak (aq 1) au)))
def jU:Mo->List Dat->bx Dat:=mG 2 pG
def tZ:SF:=
 (Rc jZ (ao 0) "held" (qDc (CK "held" (ao 0)) (bA [3,4,5]) [3,4,5] (bB (ak (RW (bh (aA cA (ao 3) (ao 1))) (aq 2) (aq 3)) (ak (aq 4) (ak (aq 5) au))))))
def oU:Mo->List Dat->bx Dat:=mG 6 tZ
def CJ:SF:=
 (aP (eU (cX (aV dX (ao 0) au)) (bA [2,3]) [2,3] (bh (aA cA (bK "owner" (ao 3)) (ao 1))) (bB (ak (aq 2) (ak (aq 3) au)))))
def xq:Mo->List Dat->Out Dat:=mQ 4 CJ
def Bm:List (Str×MV):=[("Herd",.q 2 xq)]
def rJ:List (Str×MV):=[("Rights",.g 3 oU)]
def rK:SF:=
 (cI (cO bL (ao 5) (ak (bB (ak (qC (.str "passed")) (ak (aq 2) au))) au)))
def jL:SF:=
 (aD (cI (gOf (aV aC (ao 0) (ak (aq 1) au))))
 (aD (cI (gOf (aV aC (ao 0) (ak (aq 2) au))))
 (aD (bO (bh (aA cA (ao 1) (ao 2))) (eV "SameOwner") aR)
 (aD (cI (cO rJ (bK "rights" (ao 0)) (ak (aq 1) (ak (aq 2) au))))
 (aD (aX (aF 3) (gOf (aV Bm (bK "herd" (ao 0)) (ak (aq 1) au))))
 (aD (mJ (cX (aq 3)) (bA [4,5]) rK)
 (aD (MP "holders" (ao 0) (aq 1))
 (aP (eU (cX (ao 3)) (bA [4,5]) [4,5] iy (aq 4))))))))))
def fQ:Mo->List Dat->bx Dat:=mG 6 jL
def u9:SF:=
 (aD (bO (bh (aA cA (ao 0) (qC (.str "ear")))) (aP (wX (wZ .tuple (ao 1)) (aU sU (ak (aq 1) au)))) aR)
 (aD (aX (aF 2) (gOf (RW (bh (aA cA (ao 0) (qC (.str "place")))) (aA jX (eE oW (qC iW)) (qC (.int 1))) (qC oO))))
 (aP (wX (wZ .int (ao 1)) (Tg (mO tV tV (qC (.int 0)) (ao 1) (ao 2)))))))
def iJ:Mo->List Dat->Out Dat:=mQ 3 u9
def Yu:SF:=
 (aD (bO (Fw (bh (aA cA (eE oW (ao 0)) (qC (.int 0)))) (bh (UW true (zu yu) (aA aN (ao 0) (qC (.int 0)))))) (aP (qC (.bool false))) aR)
 (aD (aX (aF 1) (gOf (acK (zu yu) (aA aN (ao 0) (qC (.int 0))))))
 (aD (aX (aF 2) (gOf (Mq (ao 0) (pW (qC (.int 1))) xV)))
 (aP (wX (aA cA (eE oW (ao 2)) (eE oW (ao 1))) (eE Qp (eU (Fe (ao 1) (ao 2)) (bA [3,4]) [3,4] iy (aU iJ (ak (aq 3) (ak (aq 4) au))))))))))
def GD:Mo->List Dat->Out Dat:=mQ 5 Yu
def rF:List (Str×MV):=[("Commons",.g 4 cW)]
def sG:List (Str×MV):=[("Commons",.g 3 fQ)]
def xU:List (Str×MV):=[("Commons",.g 2 jU)]
def vP:List (Str×MV):=[("Commons",.g 3 eX)]
def yw:List (Str×MV):=[("Commons",.g 2 lH)]
def wJ:List (Str×MV):=[("Commons",.g 3 dI)]
def wW:List (Str×MV):=[("Commons",.g 3 dH)]
def xR:List (Str×MV):=[("Commons",.g 3 fM)]
def yU:List (Str×MV):=[("Commons",.g 2 jN)]
def w6:List (Str×MV):=[("Commons",.g 2 ji)]
def vY:List (Str×MV):=[("Commons",.g 4 fW)]
def v7:List (Str×MV):=[("Commons",.g 3 fY)]
def vO:List (Str×MV):=[("Commons",.g 4 dU)]
def pK:List (Str×MV):=[("Commons",.g 2 gM)]
def cQ:SF:=
 (aD (bO (j7 (iZ (aU GD (ak (aq 1) au)))) (eV "BadDeed") aR)
 (aD (Yb 2 3 (gOf (aq 1)))
 (aD (bO (bh (aA cA (ao 2) (qC (.str "owner")))) (iw (cO gU (ao 0) au)) aR)
 (aD (bO (bh (aA cA (ao 2) (qC (.str "ground")))) (iw (cO pK (ao 0) (ak (aA aN (ao 3) (qC (.int 0))) au))) aR)
 (aD (bO (bh (aA cA (ao 2) (qC (.str "enrol")))) (iw (cO vO (ao 0) (ak (aA aN (ao 3) (qC (.int 0))) (ak (aA aN (ao 3) (qC (.int 1))) (ak (aA aN (ao 3) (qC (.int 2))) au))))) aR)
 (aD (bO (bh (aA cA (ao 2) (qC (.str "leave")))) (iw (cO v7 (ao 0) (ak (aA aN (ao 3) (qC (.int 0))) (ak (aA aN (ao 3) (qC (.int 1))) au)))) aR)
 (aD (bO (bh (aA cA (ao 2) (qC (.str "bring")))) (iw (cO vY (ao 0) (ak (aA aN (ao 3) (qC (.int 0))) (ak (aA aN (ao 3) (qC (.int 1))) (ak (aA aN (ao 3) (qC (.int 2))) au))))) aR)
 (aD (bO (bh (aA cA (ao 2) (qC (.str "bear")))) (iw (cO w6 (ao 0) (ak (aA aN (ao 3) (qC (.int 0))) au))) aR)
 (aD (bO (bh (aA cA (ao 2) (qC (.str "cut")))) (iw (cO yU (ao 0) (ak (aA aN (ao 3) (qC (.int 0))) au))) aR)
 (aD (bO (bh (aA cA (ao 2) (qC (.str "tear")))) (iw (cO xR (ao 0) (ak (aA aN (ao 3) (qC (.int 0))) (ak (aA aN (ao 3) (qC (.int 1))) au)))) aR)
 (aD (bO (bh (aA cA (ao 2) (qC (.str "sell")))) (iw (cO wW (ao 0) (ak (aA aN (ao 3) (qC (.int 0))) (ak (aA aN (ao 3) (qC (.int 1))) au)))) aR)
 (aD (bO (bh (aA cA (ao 2) (qC (.str "move")))) (iw (cO wJ (ao 0) (ak (aA aN (ao 3) (qC (.int 0))) (ak (aA aN (ao 3) (qC (.int 1))) au)))) aR)
 (aD (bO (bh (aA cA (ao 2) (qC (.str "die")))) (iw (cO yw (ao 0) (ak (aA aN (ao 3) (qC (.int 0))) au))) aR)
 (aD (bO (bh (aA cA (ao 2) (qC (.str "unite")))) (iw (cO vP (ao 0) (ak (aA aN (ao 3) (qC (.int 0))) (ak (aA aN (ao 3) (qC (.int 1))) au)))) aR)
 (aD (bO (bh (aA cA (ao 2) (qC (.str "part")))) (iw (cO xU (ao 0) (ak (aA aN (ao 3) (qC (.int 0))) au))) aR)
 (aD (bO (bh (aA cA (ao 2) (qC (.str "pass")))) (iw (cO sG (ao 0) (ak (aA aN (ao 3) (qC (.int 0))) (ak (aA aN (ao 3) (qC (.int 1))) au)))) aR)
 (iw (cO rF (ao 0) (ak (aA aN (ao 3) (qC (.int 0))) (ak (aA aN (ao 3) (qC (.int 1))) (ak (aA aN (ao 3) (qC (.int 2))) au)))))))))))))))))))))
def cC:Mo->List Dat->bx Dat:=mG 4 cQ
def nQ:List (Str×MV):=[("Commons",.g 2 cC)]
def Gz:SF:=
 (aD (aX (aF 3) (gOf (qC .none)))
 (aD (U0 (aX (aF 3) (cO nQ (ao 0) (ak (aq 1) au))) [⟨"CommonError",fun x=>pX.lookup x,none,[(3,(.con .none))]⟩])
 (aD (bO (bh (xM false .none (ao 3))) (aP (aq 2)) aR)
 (aD (aX (bA [4,5,6]) (gOf (aq 2)))
 (aD (bO (Fw (bh (aA cA (aA aN (ao 1) (qC (.int 0))) (qC (.str "owner")))) (bh (aA cA (aA aN (ao 1) (qC (.int 0))) (qC (.str "heir"))))) (PN 4 (qC (.int 1))) aR)
 (aD (bO (bh (aA cA (aA aN (ao 1) (qC (.int 0))) (qC (.str "ground")))) (PN 5 (qC (.int 1))) aR)
 (aD (bO (Fw (bh (aA cA (aA aN (ao 1) (qC (.int 0))) (qC (.str "bring")))) (bh (aA cA (aA aN (ao 1) (qC (.int 0))) (qC (.str "bear"))))) (PN 6 (qC (.int 1))) aR)
 (aP (bB (ak (aq 4) (ak (aq 5) (ak (aq 6) au))))))))))))
def iI:Mo->List Dat->bx Dat:=mG 7 Gz
def Py:SF:=
 (aD (aX (aF 5) (gOf (aA aN (bB (ak (qC (.int 0)) (ak (qC (.int 0)) (ak (qC (.int 0)) (ak (qC (.int 0)) (ak (qC (.int 0)) (ak (qC (.int 1)) (ak (qC (.int 1)) (ak (qC (.int 2)) (ak (qC (.int 3)) (ak (eE Qe (qC (.int 1))) au))))))))))) (ao 4))))
 (Fl 2 (aA lU (qC (.int 0)) (aA Ja (qC (.int 9)) (aA eG (ao 3) (ao 5))))))
def ZF:SF:=
 (aD (Az 2 (LR au))
 (aD (mJ (Fe (aq 0) (aq 1)) (bA [3,4]) Py)
 (aP (eE kW (ao 2)))))
def CZ:Mo->List Dat->Out Dat:=mQ 6 ZF
def Ln:SF:=
 (aD (bO (bh (aA JZ (ao 1) (qC (.int 4)))) (aP (aU CZ (ak (aq 2) (ak (aq 0) au)))) aR)
 (aP (aU tH (ak (aq 0) (ak (aq 1) au)))))
def wA:Mo->List Dat->Out Dat:=mQ 3 Ln
def X4:SF:=
 (aD (bO (iZ (ao 2)) (aP (aA eG (qC (.int 1)) (aA gY (ao 0) (aA lU (qC (.int 1)) (ao 1))))) aR)
 (aP (aA gY (ao 0) (aA eG (ao 1) (qC (.int 2))))))
def jO:Mo->List Dat->Out Dat:=mQ 3 X4
def jR:SF:=
 (aD (aX (aF 6) (gOf (aA rZ (aA aN (ao 3) (qC (.int 6))) (qC (.int 9)))))
 (aD (aX (aF 7) (gOf (aU wA (ak (Mq (ao 3) (pW (qC (.int 8))) (pW (qC (.int 14)))) (ak (aA aN (ao 3) (qC (.int 7))) (ak (aq 5) au))))))
 (aD (bO (bh (aA cA (ao 0) (qC (.str "owner")))) (aP (bB (ak (qC (.str "owner")) au))) aR)
 (aD (bO (bh (aA cA (ao 0) (qC (.str "ground")))) (aP (bB (ak (qC (.str "ground")) (ak (aA eG (aA aN (bB (ak (qC (.int 0)) (ak (qC (.int 1)) (ak (qC (.int 2)) (ak (qC (.int 3)) (ak (qC (.int 0)) (ak (qC (.int 1)) (ak (qC (.int 5)) (ak (qC (.int 6)) (ak (qC (.int 7)) (ak (qC (.int 8)) au))))))))))) (aA aN (ao 3) (qC (.int 7)))) (aA wO (qC (.int 4)) (eE intD (R3 (ao 6))))) au)))) aR)
 (aD (bO (j5 (bh (aA cA (ao 0) (qC (.str "bring")))) (bh (aA JZ (aA aN (ao 3) (qC (.int 7))) (qC (.int 6))))) (aX (aF 7) (gOf (bB (ak (qC (.int 0)) (ak (qC (.int 0)) (ak (qC (.int 0)) (ak (qC (.int 0)) (ak (qC (.int 0)) (ak (qC (.int 0)) au))))))))) aR)
 (aD (bO (Fw (bh (aA cA (ao 0) (qC (.str "enrol")))) (bh (aA cA (ao 0) (qC (.str "bring"))))) (aP (bB (ak (aq 0) (ak (aU jO (ak (aq 1) (ak (aA aN (ao 4) (qC (.int 0))) (ak (aq 6) au)))) (ak (aU jO (ak (aq 2) (ak (aA aN (ao 4) (qC (.int 1))) (ak (aq 6) au)))) (ak (aq 7) au)))))) aR)
 (aD (bO (bh (aA cA (ao 0) (qC (.str "leave")))) (aP (bB (ak (aq 0) (ak (aU jO (ak (aq 1) (ak (aA aN (ao 4) (qC (.int 0))) (ak (aq 6) au)))) (ak (aU jO (ak (aq 2) (ak (aA aN (ao 4) (qC (.int 1))) (ak (aq 6) au)))) au))))) aR)
 (aD (bO (bh (aA cA (ao 0) (qC (.str "heir")))) (aP (bB (ak (aq 0) (ak (aU jO (ak (aq 1) (ak (aA aN (ao 4) (qC (.int 0))) (ak (aq 6) au)))) (ak (aU jO (ak (aq 2) (ak (aA aN (ao 4) (qC (.int 1))) (ak (aq 6) au)))) (ak (aA gY (aA aN (ao 3) (qC (.int 7))) (qC (.int 4))) au)))))) aR)
 (aD (bO (bh (aA cA (ao 0) (qC (.str "pass")))) (aP (bB (ak (aq 0) (ak (aU jO (ak (aq 1) (ak (aA aN (ao 4) (qC (.int 0))) (ak (aq 6) au)))) (ak (aU jO (ak (aq 2) (ak (aA aN (ao 4) (qC (.int 0))) (ak (aq 6) au)))) au))))) aR)
 (aD (bO (bh (aA cA (ao 0) (qC (.str "unite")))) (aP (bB (ak (aq 0) (ak (aU jO (ak (aq 1) (ak (aA aN (ao 4) (qC (.int 1))) (ak (aq 6) au)))) (ak (aU jO (ak (aq 2) (ak (aA aN (ao 4) (qC (.int 1))) (ak (aq 6) au)))) au))))) aR)
 (aD (bO (bh (aA cA (ao 0) (qC (.str "part")))) (aP (bB (ak (aq 0) (ak (aU jO (ak (aq 1) (ak (aA aN (ao 4) (qC (.int 1))) (ak (aq 6) au)))) au)))) aR)
 (aD (bO (bh (aA cA (ao 0) (qC (.str "tear")))) (aP (bB (ak (aq 0) (ak (aU jO (ak (aq 1) (ak (aA aN (ao 4) (qC (.int 2))) (ak (aq 6) au)))) (ak (aA gY (aA aN (ao 3) (qC (.int 7))) (qC (.int 6))) au))))) aR)
 (aD (bO (bh (aA cA (ao 0) (qC (.str "sell")))) (aP (bB (ak (aq 0) (ak (aU jO (ak (aq 1) (ak (aA aN (ao 4) (qC (.int 2))) (ak (aq 6) au)))) (ak (aU jO (ak (aq 2) (ak (aA aN (ao 4) (qC (.int 0))) (ak (aq 6) au)))) au))))) aR)
 (aD (bO (bh (aA cA (ao 0) (qC (.str "move")))) (aP (bB (ak (aq 0) (ak (aU jO (ak (aq 1) (ak (aA aN (ao 4) (qC (.int 2))) (ak (aq 6) au)))) (ak (aU jO (ak (aq 2) (ak (aA aN (ao 4) (qC (.int 1))) (ak (aq 6) au)))) au))))) aR)
 (aP (bB (ak (aq 0) (ak (aU jO (ak (aq 1) (ak (aA aN (ao 4) (qC (.int 2))) (ak (aq 6) au)))) au))))))))))))))))))
def fJ:Mo->List Dat->Out Dat:=mQ 8 jR
def Jl:SF:=
 (aD (aX (aF 3) (xg iI (ak (aq 0) (ak (bB (ak (qC (.str "bring")) (ak (qC (.int 1)) (ak (qC (.int 1)) (ak (bB (ak (qC (.int 0)) (ak (qC (.int 0)) (ak (qC (.int 0)) (ak (qC (.int 0)) (ak (qC (.int 0)) (ak (qC (.int 0)) au))))))) au))))) (ak (aq 3) au)))))
 (aX (aF 3) (xg iI (ak (aq 0) (ak (bB (ak (qC (.str "cut")) (ak (aA aN (ao 3) (qC (.int 2))) au))) (ak (aq 3) au))))))
def CN:SF:=
 (aD (aX (aF 8) (gOf (aU qM (ak (aq 7) (ak (qC (.int 14)) (ak (qC (.int 10)) au))))))
 (aD (aX (aF 9) (gOf (aU Ag (ak (aA eG (aA wO (aA aN (ao 8) (qC (.int 0))) (qC (.int 10))) (aA aN (ao 8) (qC (.int 1)))) au))))
 (aD (aX (aF 10) (gOf (aA eG (aA wO (aA aN (ao 8) (qC (.int 2))) (qC (.int 10))) (aA aN (ao 8) (qC (.int 3))))))
 (aD (aX (aF 11) (gOf (aA eG (aA wO (aA aN (ao 8) (qC (.int 4))) (qC (.int 10))) (aA aN (ao 8) (qC (.int 5))))))
 (aD (bO (bh (aA JZ (ao 6) (eE oW (ao 5)))) (aX (bA [9,10,11]) (gOf (aA aN (ao 5) (ao 6)))) aR)
 (aX (aF 3) (xg iI (ak (aq 0) (ak (aU fJ (ak (aq 9) (ak (aq 10) (ak (aq 11) (ak (aq 8) (ak (aq 3) (ak (aq 4) au))))))) (ak (aq 3) au))))))))))
def QK:SF:=
 (aD (aX (aF 3) (gOf (bB (ak (qC (.int 0)) (ak (qC (.int 0)) (ak (qC (.int 0)) au))))))
 (aD (aX (aF 4) (gOf (aU zK (ak (aA sY (ao 2) (qC (.int 512))) au))))
 (aD (aX (aF 5) (gOf (aU uX (ak (aq 2) au))))
 (aD (mJ (uK 0 (aq 1)) (bA [6,7]) CN)
 (aD (bO (bh (aA cA (aA gY (aA sY (ao 2) (qC (.int 8))) (qC (.int 8))) (qC (.int 1)))) (mJ (wB (aA wO (aA gY (aA sY (ao 2) (qC (.int 64))) (qC (.int 8))) (qC (.int 4)))) (aF 12) Jl) aR)
 (aP (aq 3)))))))
def Dc:Mo->List Dat->bx Dat:=mG 13 QK
def Yv:SF:=
 (aD (bO (bh (aA JZ (ao 1) (eE oW (ao 0)))) (aP (aA aN (ao 0) (ao 1))) aR)
 (aP (qC (.int 0))))
def uZ:Mo->List Dat->Out Dat:=mQ 2 Yv
def Uq:SF:=
 (aD (aX (aF 4) (gOf (aU qM (ak (aq 1) (ak (qC (.int 14)) (ak (qC (.int 10)) au))))))
 (aP (aU fJ (ak (aq 0) (ak (aA eG (aA wO (aA aN (ao 4) (qC (.int 2))) (qC (.int 10))) (aA aN (ao 4) (qC (.int 3)))) (ak (aA eG (aA wO (aA aN (ao 4) (qC (.int 4))) (qC (.int 10))) (aA aN (ao 4) (qC (.int 5)))) (ak (aq 4) (ak (aq 2) (ak (aU zK (ak (aA sY (ao 3) (qC (.int 512))) au)) au)))))))))
def jM:Mo->List Dat->Out Dat:=mQ 5 Uq
def UL:SF:=
 (aP (eE U5 (eU (Fe (ao 0) (ao 1)) (bA [2,3]) [2,3] iy (aA lU (qC (.int 0)) (aA jX (ao 3) (ao 2))))))
def Cr:Mo->List Dat->Out Dat:=mQ 4 UL
def acg:SF:=
 (aP (aA lU (aU Cr (ak (aq 0) (ak (aq 1) au))) (aU Cr (ak (aq 1) (ak (aq 0) au)))))
def QX:Mo->List Dat->Out Dat:=mQ 2 acg
def acP:SF:=
 (aP (eE kW (eU (Fe (ao 0) (ao 1)) (bA [2,3]) [2,3] iy (aA lU (ao 2) (ao 3)))))
def RX:Mo->List Dat->Out Dat:=mQ 4 acP
def vX:SF:=
 (bO (j5 (bh (aA rZ (aA aN (ao 3) (qC (.int 0))) (aA aN (ao 4) (qC (.int 0))))) (bh (aA tV (aU QX (ak (aA aN (ao 3) (qC (.int 1))) (ak (aA aN (ao 4) (qC (.int 1))) au))) (ao 1)))) (aP (bB (ak (aq 3) (ak (aq 4) (ak (aU RX (ak (aA aN (ao 3) (qC (.int 1))) (ak (aA aN (ao 4) (qC (.int 1))) au))) au))))) aR)
def zm:SF:=
 (mJ (cX (Mq (ao 0) (pW (aA eG (ao 2) (qC (.int 1)))) xV)) (aF 4) vX)
def RB:SF:=
 (aD (mJ (uK 0 (aq 0)) (bA [2,3]) zm)
 (aP (qC .none)))
def Hh:Mo->List Dat->Out Dat:=mQ 5 RB
def yK:SF:=
 (bO (Fw (bh (aA cA (ao 1) (Bs au))) (bh (aA rZ (aA aN (ao 1) (eE Qe (qC (.int 1)))) (ao 2)))) (Fl 1 (aq 2)) aR)
def aao:SF:=
 (aD (Az 1 (LR au))
 (aD (mJ (cX (eE vN (ao 0))) (aF 2) yK)
 (aP (aq 1))))
def KN:Mo->List Dat->Out Dat:=mQ 3 aao
def lW:SF:=
 (bO (j5 (iZ (aA aN (ao 5) (qC (.int 4)))) (j5 (bh (xM true .none (aA aN (ao 5) (qC (.int 2))))) (j5 (bh (aA (inD false) (aA aN (ao 5) (qC (.int 1))) (ao 1))) (bh (aA rZ (aA eG (ao 4) (qC (.int 1))) (ao 2)))))) (Fl 3 (bB (ak (aA aN (ao 5) (qC (.int 0))) (ak (aA aN (ao 5) (qC (.int 2))) au)))) aR)
def Lq:SF:=
 (aD (Az 3 (zY (cX (aA aN (ao 0) (qC (.int 2)))) (bA [6,7,8]) [6,7,8] (bh (aA (inD false) (ao 7) (ao 1))) (bB (ak (aq 6) (ak (aq 8) au)))))
 (aD (mJ (uK 0 (aA aN (ao 0) (qC (.int 3)))) (bA [4,5]) lW)
 (aP (aU KN (ak (aq 3) au)))))
def Am:Mo->List Dat->Out Dat:=mQ 9 Lq
def zj:SF:=
 (aP (Tg (mO tV tV (qC (.int 1)) (ao 1) (eE oW (aA aN (ao 0) (qC (.int 1)))))))
def mD:Mo->List Dat->Out Dat:=mQ 2 zj
def Mp:SF:=
 (aP (eE maxD (eU (cX (aA aN (aA aN (aA aN (ao 0) (qC (.int 1))) (aA jX (ao 1) (qC (.int 1)))) (qC (.int 1)))) (aF 2) [2] iy (aA aN (aA aN (aA aN (ao 0) (qC (.int 1))) (aA jX (ao 2) (qC (.int 1)))) (qC (.int 0))))))
def wz:Mo->List Dat->Out Dat:=mQ 3 Mp
def NZ:SF:=
 (aD (bO (bh (aA (inD false) (aA eG (ao 7) (qC (.int 1))) (ao 4))) (aX (aF 8) (gOf (bB (ak (aA aN (ao 8) (qC (.int 0))) (ak (eE kW (ao 4)) au))))) aR)
 (Fl 6 (aq 8)))
def Jh:SF:=
 (aD (aX (aF 3) (gOf (qC (.str ""))))
 (aD (bO (Fw (j7 (iZ (aU mD (ak (aq 0) (ak (aq 1) au))))) (j7 (iZ (aU mD (ak (aq 0) (ak (aq 2) au)))))) (aX (aF 3) (gOf (qC (.str "NoGround")))) (bO (bh (aA (inD false) (ao 2) (aA aN (aA aN (aA aN (ao 0) (qC (.int 1))) (aA jX (ao 1) (qC (.int 1)))) (qC (.int 1))))) (aX (aF 3) (gOf (qC (.str "Together")))) aR))
 (aD (bO (bh (aA rZ (ao 3) (qC (.str "")))) (aP (bB (ak (aq 3) (ak (qC .none) (ak (aq 0) au))))) aR)
 (aD (aX (aF 4) (gOf (eE vN (aA eG (aA aN (aA aN (aA aN (ao 0) (qC (.int 1))) (aA jX (ao 1) (qC (.int 1)))) (qC (.int 1))) (aA aN (aA aN (aA aN (ao 0) (qC (.int 1))) (aA jX (ao 2) (qC (.int 1)))) (qC (.int 1)))))))
 (aD (aX (aF 5) (gOf (aU Hh (ak (aU Am (ak (aq 0) (ak (aq 4) (ak (qC (.int 0)) au)))) (ak (aA lU (aU wz (ak (aq 0) (ak (aq 1) au))) (aU wz (ak (aq 0) (ak (aq 2) au)))) au)))))
 (aD (bO (bh (xM true .none (ao 5))) (aP (bB (ak (qC (.str "Clash")) (ak (aq 5) (ak (aq 0) au))))) aR)
 (aD (Az 6 (LR au))
 (aD (mJ (uK 0 (aA aN (ao 0) (qC (.int 1)))) (bA [7,8]) NZ)
 (aP (bB (ak (qC (.str "")) (ak (aq 4) (ak (bB (ak (aA aN (ao 0) (qC (.int 0))) (ak (aq 6) (ak (aA aN (ao 0) (qC (.int 2))) (ak (aA aN (ao 0) (qC (.int 3))) au))))) au)))))))))))))
def BR:Mo->List Dat->Out Dat:=mQ 9 Jh
def gA:List (Str×MV):=[("Grounds",.g 3 jH),("Commons",.g 3 eX)]
def Lp:SF:=
 (aD (aX (aF 3) (gOf (qC (.str ""))))
 (aD (aX (aF 4) (gOf (qC .none)))
 (aD (U0 (aX (aF 4) (cO gA (ao 0) (ak (aq 1) (ak (aq 2) au)))) [⟨"NoGround",fun x=>zM.lookup x,none,[(3,(.con (.str "NoGround")))]⟩,⟨"Together",fun x=>zq.lookup x,none,[(3,(.con (.str "Together")))]⟩,⟨"Clash",fun x=>O4.lookup x,some 5,[(3,(.con (.str "Clash"))),(4,(.flds ["ones","others","ear"]))]⟩])
 (aP (bB (ak (aq 3) (ak (aq 4) au)))))))
def Cz:Mo->List Dat->bx Dat:=mG 6 Lp
def XC:SF:=
 (aD (bO (bh (aA JZ (ao 0) (qC (.int 0)))) (aP (aA jX (qC (.int 0)) (aA gY (aA jX (qC (.int 0)) (ao 0)) (aA Pq (qC (.int 10)) (qC (.int 30)))))) aR)
 (aP (aA gY (ao 0) (aA Pq (qC (.int 10)) (qC (.int 30))))))
def MN:Mo->List Dat->Out Dat:=mQ 1 XC
def X7:SF:=
 (aD (bO (bh (aA cA (aA gY (ao 1) (qC (.int 13))) (ao 2))) (aP (aU MN (ak (aA sY (ao 1) (qC (.int 13))) au))) aR)
 (aP (aq 0)))
def Jm:Mo->List Dat->Out Dat:=mQ 3 X7
def Vi:SF:=
 (aP (wX (wZ .int (ao 0)) (R3 (wZ .bool (ao 0)))))
def Hf:Mo->List Dat->Out Dat:=mQ 1 Vi
def Qm(r:Mo->List Dat->Out Dat):SF:=
 (bO (j7 (iZ (aU r (ak (aq 2) (ak (aq 3) au))))) (aP (qC (.bool false))) aR)
def Gq(r:Mo->List Dat->Out Dat):SF:=
 (aD (bO (bh (xM false .none (ao 1))) (aP (xM false .none (ao 0))) aR)
 (aD (bO (bh (xM false (.bool true) (ao 1))) (aP (xM false (.bool true) (ao 0))) aR)
 (aD (bO (bh (xM false (.bool false) (ao 1))) (aP (xM false (.bool false) (ao 0))) aR)
 (aD (bO (iZ (wZ .int (ao 1))) (aP (wX (aU Hf (ak (aq 0) au)) (aA cA (ao 0) (ao 1)))) aR)
 (aD (bO (iZ (wZ .str (ao 1))) (aP (wX (wZ .str (ao 0)) (aA cA (ao 0) (ao 1)))) aR)
 (aD (bO (j5 (iZ (wZ .tuple (ao 1))) (j7 (iZ (wZ .tuple (ao 0))))) (aP (qC (.bool false))) aR)
 (aD (bO (j5 (iZ (wZ .list (ao 1))) (j7 (iZ (wZ .list (ao 0))))) (aP (qC (.bool false))) aR)
 (aD (bO (bh (aA rZ (eE oW (ao 0)) (eE oW (ao 1)))) (aP (qC (.bool false))) aR)
 (aD (mJ (Fe (aq 0) (aq 1)) (bA [2,3]) (Qm r))
 (aP (qC (.bool true))))))))))))
def lJ:Nat->Mo->List Dat->Out Dat
 |0=>fun _ _=>.bad
 |n+1=>mQ 4 (Gq (lJ n))
def ou:List (Str×MV):=[("Commons",.q 1 lX)]
def Hg:SF:=
 (aD (aX (aF 7) (gOf (aU CZ (ak (aq 5) (ak (aU qM (ak (aA eG (ao 4) (ao 6)) (ak (qC (.int 6)) (ak (qC (.int 10)) au)))) au)))))
 (aX (aF 3) (xg iI (ak (aq 1) (ak (bB (ak (qC (.str "enrol")) (ak (aA eG (qC (.int 1)) (aA gY (aA eG (ao 4) (ao 6)) (aA lU (qC (.int 1)) (aA aN (ao 3) (qC (.int 0)))))) (ak (aA aN (ao 3) (qC (.int 1))) (ak (aq 7) au))))) (ak (aq 3) au))))))
def XF:SF:=
 (aD (aX (aF 1) (Bg "Commons" lY au))
 (aD (aX (aF 2) (gOf (eE Ui (aU uZ (ak (aq 0) (ak (qC (.int 0)) au))))))
 (aD (aX (aF 3) (xg Dc (ak (aq 1) (ak (Mq (ao 0) (pW (qC (.int 2))) (pW (qC (.int 44)))) (ak (aq 2) au)))))
 (aD (aX (aF 4) (gOf (aU uZ (ak (aq 0) (ak (qC (.int 1)) au)))))
 (aD (bO (bh (aA rZ (aA gY (ao 4) (qC (.int 4))) (qC (.int 1)))) (aD (aX (aF 3) (xg iI (ak (aq 1) (ak (bB (ak (qC (.str "ground")) (ak (aA gY (aA sY (ao 4) (qC (.int 4))) (qC (.int 5))) au))) (ak (aq 3) au)))))
 (aD (aX (aF 5) (gOf (aU zK (ak (aA sY (ao 2) (qC (.int 512))) au))))
 (mJ (wB (aA gY (aA sY (ao 4) (qC (.int 20))) (qC (.int 3)))) (aF 6) Hg))) aR)
 (aD (aX (aF 8) (gOf (aU jM (ak (qC (.str "unite")) (ak (aq 4) (ak (aq 3) (ak (aq 2) au)))))))
 (aD (sPN [9,10] (ak (aU Jm (ak (aA aN (ao 8) (qC (.int 1))) (ak (aq 4) (ak (qC (.int 3)) au)))) (ak (aU Jm (ak (aA aN (ao 8) (qC (.int 2))) (ak (aq 4) (ak (qC (.int 4)) au)))) au)))
 (aD (bO (bh (aA JZ (aA gY (ao 4) (qC (.int 5))) (qC (.int 2)))) (aX (aF 9) (gOf (aA aN (ao 3) (qC (.int 1))))) aR)
 (aD (aX (aF 11) (gOf (aV ou (ao 1) au)))
 (aD (aX (aF 12) (gOf (aU BR (ak (aq 11) (ak (aq 9) (ak (aq 10) au))))))
 (aD (aX (aF 13) (xg Cz (ak (aq 1) (ak (aq 9) (ak (aq 10) au)))))
 (aP (wX (aU (lJ 10) (ak (aq 13) (ak (Mq (ao 12) xV (pW (qC (.int 2)))) au))) (aU (lJ 10) (ak (aV ou (ao 1) au) (ak (aA aN (ao 12) (qC (.int 2))) au))))))))))))))))
def Sv:Mo->List Dat->bx Dat:=mG 14 XF
theorem Xv:FnScope ["self","ones","others","ear"] ["self","ones","others","ear"] (defScope LK):=⟨rfl,rfl,rfl,by decide +kernel,rfl,by decide +kernel,by decide +kernel⟩
abbrev rX(N:List Str)(s:Stmt)(G:List (Str×GV))(B:List Str)(Ms:List (Str×List (Str×MV)))(ml:List Str):Option SF:=rd ⟨N,defScope s,G,B,⟨Ms,jZ,xmH,dfH,Ws⟩,ml,true⟩ (defBody s)
abbrev rY(N:List Str)(s:Stmt)(G:List (Str×GV))(B:List Str)(Ms:List (Str×List (Str×MV)))(ml:List Str):Option SF:=rdG ⟨N,defScope s,G,B,⟨Ms,jZ,xmH,dfH,Ws⟩,ml,true⟩ (defBody s)
theorem aiE:FnScope ["_law_found","_law_due_here","_law_one","_law_other"] ["_law_found","_law_due_here"] (defScope Q5):=⟨rfl,rfl,rfl,by decide +kernel,rfl,by decide +kernel,by decide +kernel⟩
theorem ak4:FnScope ["_law_script","_law_house","_law_head","_law_counts","_law_cell_here","_law_base","_law_turn","_law_mark","_law_deed_here","_law_one","_law_two","_law_stand","_law_due_here","_law_told"] ["_law_script"] (defScope M9):=⟨rfl,rfl,rfl,by decide +kernel,rfl,by decide +kernel,by decide +kernel⟩
theorem TY:rY ["self"] Gm [] [] [] []=some yL:=by kernel_rfl
theorem Xq:rY ["self"] JV [] [] [] []=some Bo:=by kernel_rfl
theorem aaD:rY ["self"] Ot [] [] [] []=some Fo:=by kernel_rfl
theorem Uw:rY ["self"] G4 [("Herd",.cls 0 zA),("Rights",.cls 0 vL),("Grounds",.cls 0 uF)] [] [] []=some zp:=by kernel_rfl
theorem Xg:rX ["self"] JW [] [] [] []=some Bh:=by kernel_rfl
theorem ZX:rX ["self"] LC [] ["tuple"] [("stand",mj)] []=some Dd:=by kernel_rfl
theorem O7:rX ["self"] Di [] ["list"] [] []=some v8:=by kernel_rfl
theorem Oc:rX ["self"] Bu [] ["list"] [] []=some uW:=by kernel_rfl
theorem Vt:rX ["self"] GP [] ["len"] [] []=some uo:=by kernel_rfl
theorem W8:rX ["self","ground"] JX [] [] [("many",eY)] []=some Bj:=by kernel_rfl
theorem Vj:rX ["self","ground"] Gn [("NoGround",.exc)] [] [("has",yH)] []=some yV:=by kernel_rfl
theorem Kg:rX ["self","ground"] yr [] [] [("need",aG)] []=some m7:=by kernel_rfl
theorem Kr:rX ["self","ground"] zX [] ["list"] [("need",aG)] []=some oJ:=by kernel_rfl
theorem Ko:rX ["self","ground"] zQ [] [] [("together",bF)] []=some oM:=by kernel_rfl
theorem Tt:rX ["self","grounds","beasts","ground","beast"] Hz [] ["range","tuple"] [("all_rows",tM),("owners",uU),("told",vM),("many",eY),("together",bR),("allowance",dJ)] []=some yI:=by kernel_rfl
theorem al6:rX ["_law_cell_here","_law_many","_law_base","_law_found","_law_k","_law_turn"] s_row [] ["range","abs"] [] ["_law_found"]=some acz:=by kernel_rfl
theorem afX:rX ["_law_figures","_law_mode","_law_figure"] aag [] ["tuple","max"] [] []=some Qz:=by kernel_rfl
theorem amq:rX ["_law_cell_here","_law_figures"] agw [("_law_ear_by",.fq 2 tH),("_law_row",.fq 3 qM)] [] [] []=some acM:=by kernel_rfl
theorem aaA:rX ["_law_head","_law_rows"] Oo [] [] [] []=some Fg:=by kernel_rfl
theorem adT:rX ["_law_figure","_law_some"] WL [] [] [] []=some Mx:=by kernel_rfl
theorem Jw:rX ["self","owner"] yc [("NoOwner",.exc)] [] [] []=some lO:=by kernel_rfl
theorem Vv:rX ["self","owner","ground","holder","where","mark"] Hu [] [] [] []=some yx:=by kernel_rfl
theorem LQ:rX ["self","owner","ground"] Av [] ["len"] [("marks",cJ)] []=some sW:=by kernel_rfl
theorem Jt:rX ["self","owner","ground"] wU [("NoRight",.exc)] [] [("has_right",rE)] []=some qK:=by kernel_rfl
theorem Ka:rY ["self"] yg [] [] [] []=some rC:=by kernel_rfl
theorem Ma:rY ["self","owner","ground","mark","row"] Aq [("HasRight",.exc)] [] [] []=some oE:=by kernel_rfl
theorem ajS:rX ["ear","many","heads","depth","head","left","cut"] aen [("GREATEST_DEPTH",.con cR)] ["range","min"] [] []=some aau:=by kernel_rfl
theorem ahm:rX ["one","other","here","there"] abT [] ["sum","zip"] [] []=some Uz:=by kernel_rfl
theorem aaP:rX ["mark","extra","ear"] Oj [("lacks",.fq 2 uw),("torn",.fq 2 Mr)] [] [] []=some Fj:=by kernel_rfl
theorem ahA:rX ["one","other"] ab1 [("lacks",.fq 2 uw)] ["max"] [] []=some Ve:=by kernel_rfl
theorem ak1:rX ["one","other","room"] ae3 [("apart",.fq 2 HS)] [] [] []=some Yz:=by kernel_rfl
theorem YM:rX ["mark","extra","rows","room","ear","owner","taken"] Mf [("NoneFree",.exc),("offspring",.fq 2 u5),("meet",.fq 3 qR)] ["any"] [] []=some xQ:=by kernel_rfl
theorem Io:rX ["self","owner","ground"] wC [] [] [("marks",cJ)] []=some qj:=by kernel_rfl
theorem afR:rX ["rows"] YW [] ["sorted","set"] [] []=some Qt:=by kernel_rfl
theorem N8:rX ["self","number","beast"] Bw [] ["enumerate"] [] []=some uP:=by kernel_rfl
theorem Ux:rX ["self","grounds","number","beast"] Ge [] [] [("all_living",dX)] []=some yG:=by kernel_rfl
theorem Ke:rX ["self","grounds","owner","ground","mark"] yq [] [] [] []=some rM:=by kernel_rfl
theorem Fq:rX ["self","left_out","ground","near","due","number","beast"] vq [("tidied",.fq 1 qG)] [] [("in_grounds",qm),("grazing",jx),("together",bR)] []=some j8:=by kernel_rfl
theorem Lh:rX ["self","ground"] Ab [] [] [("standing_but",cZ)] []=some oN:=by kernel_rfl
theorem Tw:rX ["self","ground","near"] HX [] ["max"] [("together",bF),("allowance",dJ)] []=some uL:=by kernel_rfl
theorem Vs:rX ["self","ground"] Ie [] [] [("room",rR)] []=some uI:=by kernel_rfl
theorem MF:rY ["self","elder","ground","extra","mark","heir"] Ad [("first_free",.fq 4 pN),("BadExtra",.exc),("FEWEST_EXTRA",.con ju),("MOST_EXTRA",.con j9)] [] [("add_right",iz),("new_owner",gU),("room",bY),("standing",cG),("first_mark",bT),("need_right",aM),("need",aG),("need_owner",aC)] []=some dW:=by kernel_rfl
theorem IK:rY ["self","allowance"] wF [("BadAllowance",.exc),("GREATEST_ALLOWANCE",.con gR)] [] [("many",eY)] []=some jF:=by kernel_rfl
theorem Jz:rY ["self","allowance"] yd [] [] [("add_ground",lB)] []=some lN:=by kernel_rfl
theorem aeH:rX ["owner","ear","rows","room","holder","mark"] W3 [("meet",.fq 3 qR),("tidied",.fq 1 qG)] [] [] []=some KC:=by kernel_rfl
theorem aht:rX ["one","other","here","there"] abt [] ["tuple","zip","max"] [] []=some Ud:=by kernel_rfl
theorem acU:rX ["owner","ear","rows","room","bars","holder","mark"] Ss [("Clash",.exi ["ones","others","ear"]),("joint",.fq 2 pq),("barring",.fq 4 Ac)] [] [] []=some BL:=by kernel_rfl
theorem Je:rX ["self","owner","ear","ground"] xJ [("ask_room",.fq 4 nZ)] [] [("room",bY),("standing",cG)] []=some lM:=by kernel_rfl
theorem afi:rX ["parts","depth"] Yd [("GREATEST_DEPTH",.con cR),("PLACES",.con iW)] ["all","len"] [] []=some IW:=by kernel_rfl
theorem acW:rX ["parts"] Q9 [("BadEar",.exc),("is_ear",.fq 1 sU)] [] [] []=some Jd:=by kernel_rfl
theorem Q7:rY ["self","owner","ground","mark"] Ey [("HasRight",.exc),("Bare",.exc),("BARE_EAR",.con jC),("need_ear",.fq 1 qd)] [] [("add_right",iz),("ask_ground",bU),("marks",cJ),("need",aG),("need_owner",aC)] []=some fX:=by kernel_rfl
theorem Xb:rY ["self","owner","ground","gone","mark"] JG [("NoRight",.exc)] [] [("marks",cJ)] []=some vC:=by kernel_rfl
theorem SM:rY ["self","owner","ground","number","beast"] Ea [("StillThere",.exc)] ["any"] [("drop",zf),("grazing",jx),("need_right",aM),("need",aG),("need_owner",aC)] []=some jD:=by kernel_rfl
theorem Oz:rY ["self","stand","owner","ground","due","ear","alive"] Dq [] [] [] []=some ql:=by kernel_rfl
theorem ahL:rX ["first","word","mother","owner","ground","ear"] abN [("BARE_EAR",.con jC)] [] [] []=some Nz:=by kernel_rfl
theorem aak:rY ["self","first"] MK [("begun",.fq 1 Cv)] [] [("stand_so",jJ)] []=some CQ:=by kernel_rfl
theorem Qq:rY ["self","first"] Ds [("Beast",.cls 1 uf)] ["len"] [] []=some vR:=by kernel_rfl
theorem RM:rY ["self","owner","ground","ear"] Et [("need_ear",.fq 1 qd)] [] [("add_beast",jK),("need_right",aM),("need",aG),("need_owner",aC)] []=some jB:=by kernel_rfl
theorem aac:rX ["self","number"] Mu [("NoBeast",.exc)] ["len"] [] []=some tG:=by kernel_rfl
theorem Xy:rX ["self","number","beast"] JT [("Dead",.exc)] [] [("known",fL)] []=some vB:=by kernel_rfl
theorem Xn:rX ["self","number","beast"] JH [("Unmarked",.exc)] [] [("living",bH)] []=some qP:=by kernel_rfl
theorem T5:rY ["self","mother","cow"] Gg [] [] [("add_beast",jK),("marked",bD)] []=some lZ:=by kernel_rfl
theorem ac0:rX ["ear","place","at","depth"] QL [] ["tuple","enumerate"] [] []=some JC:=by kernel_rfl
theorem aem:rX ["stand","event","owner","ground","due","ear","alive","word"] Wy [("deepened",.fq 2 wL)] [] [] []=some K9:=by kernel_rfl
theorem Ut:rY ["self","event"] Gv [("gone_on",.fq 2 Ae)] [] [("stand_so",jJ),("stand",mj)] []=some yJ:=by kernel_rfl
theorem Xc:rY ["self","beast","found","due"] JK [("joint",.fq 2 pq)] [] [("befall",bL),("ask_ground",bU),("first_mark",bT),("living",bH)] []=some nR:=by kernel_rfl
theorem Us:rY ["self","beast","place","found"] Ht [("Deepest",.exc),("GREATEST_DEPTH",.con cR),("NoPlace",.exc),("PLACES",.con iW)] ["len"] [("befall",bL),("living",bH)] []=some jr:=by kernel_rfl
theorem Xj:rX ["self","mother","number","beast"] JF [] [] [("all_living",dX),("known",fL)] []=some vD:=by kernel_rfl
theorem KY:rY ["self","mother","beast","number","calf"] zN [] [] [("calves",yS),("befall",bL),("known",fL)] []=some tO:=by kernel_rfl
theorem Vb:rY ["self","beast","buyer","found","due"] HW [("ask_room",.fq 4 nZ),("joint",.fq 2 pq),("SameOwner",.exc)] [] [("lead_calves",iD),("befall",bL),("room",bY),("standing_but",cZ),("first_mark",bT),("need_right",aM),("need_owner",aC),("marked",bD)] []=some fO:=by kernel_rfl
theorem U8:rY ["self","beast","ground","found","left"] HY [("SameGround",.exc)] [] [("lead_calves",iD),("befall",bL),("ask_ground",bU),("need_right",aM),("need",aG),("marked",bD)] []=some fP:=by kernel_rfl
theorem Xz:rY ["self","beast"] JQ [] [] [("befall",bL),("living",bH)] []=some qU:=by kernel_rfl
theorem acX:rX ["rows","room","tidy","at","row","greater"] SQ [("meet",.fq 3 qR),("tidied",.fq 1 qG)] ["enumerate"] [] []=some Iu:=by kernel_rfl
theorem Mv:rX ["self","ground","other","room"] Ah [("clashing",.fq 2 uz)] ["max"] [("standing",cG),("room",bY)] []=some tR:=by kernel_rfl
theorem N6:rY ["self","grounds","circle","ground"] Bt [] ["tuple"] [] []=some uQ:=by kernel_rfl
theorem Rb:rY ["self","ground","other","ones","others"] Ek [("Together",.exc)] ["sorted"] [("enclose",gG),("together",bF)] []=some rQ:=by kernel_rfl
theorem S8:rY ["self","ground","other","pairs","row","greater"] DN [("Clash",.exi ["ones","others","ear"]),("joint",.fq 2 pq),("Together",.exc)] [] [("unite",vU),("quarrels",ni),("together",bR),("need",aG)] []=some jA:=by kernel_rfl
theorem Va:rY ["self","ground","left","near"] FW [("Alone",.exc)] [] [("enclose",gG),("together",bF)] []=some pC:=by kernel_rfl
theorem Uy:rY ["self","ground"] GZ [] [] [("part",nY)] []=some pG:=by kernel_rfl
theorem KH:rY ["self","elder","heir","owner","ground","mark"] Af [] [] [] []=some tZ:=by kernel_rfl
theorem Yx:rX ["self","owner","number","beast"] K7 [] [] [("all_living",dX)] []=some CJ:=by kernel_rfl
theorem N5:rY ["self","elder","heir","passed","number","beast"] Bv [("SameOwner",.exc)] [] [("befall",bL),("owned",Bm),("hand_over",rJ),("need_owner",aC)] []=some jL:=by kernel_rfl
theorem aaH:rX ["kind","part","greatest"] Oi [("PLACES",.con iW),("GREATEST_PART",.con oO),("is_ear",.fq 1 sU)] ["isinstance","int","len","tuple"] [] []=some u9:=by kernel_rfl
theorem ai5:rX ["deed","shape","parts","kind","part"] aey [("part_fits",.fq 2 iJ),("SHAPES",.dic (zu yu))] ["all","zip","len"] [] []=some Yu:=by kernel_rfl
theorem ZJ:rY ["self","deed","word","parts"] Lz [("BadDeed",.exc),("fits",.fq 1 GD)] [] [("new_heir",rF),("pass_on",sG),("part",xU),("unite",vP),("die",yw),("move",wJ),("sell",wW),("tear",xR),("cut",yU),("bear",w6),("bring",vY),("leave",v7),("enrol",vO),("new_ground",pK),("new_owner",gU)] []=some cQ:=by kernel_rfl
theorem akp:rY ["_law_house","_law_deed_here","_law_counts","_law_told","_law_owners","_law_grounds","_law_beasts"] aeZ [("CommonError",.exc)] [] [("do",nQ)] []=some Gz:=by kernel_rfl
theorem aiO:rX ["_law_ear_here","_law_figures","_law_found","_law_depth","_law_figure","_law_more"] adw [] ["tuple","zip","max","min"] [] ["_law_found"]=some ZF:=by kernel_rfl
theorem aeS:rX ["_law_figures","_law_mode","_law_base"] WW [("_law_ear_by",.fq 2 tH),("_law_near",.fq 2 CZ)] [] [] []=some Ln:=by kernel_rfl
theorem amJ:rX ["_law_figure","_law_many","_law_sure"] agH [] ["max"] [] []=some X4:=by kernel_rfl
theorem ajw:rX ["_law_word","_law_one","_law_two","_law_parts","_law_counts","_law_base","_law_sure","_law_mark"] adY [("_law_ref",.fq 3 jO),("_law_mark_by",.fq 3 wA)] ["int"] [] []=some jR:=by kernel_rfl
theorem akF:rY ["_law_house","_law_cells","_law_head","_law_counts","_law_base","_law_begun_here","_law_at","_law_cell_here","_law_parts","_law_word","_law_one","_law_two","_law_k"] ac5 [("_law_done",.fg 3 iI),("_law_deed",.fq 6 fJ),("_law_word_by",.fq 1 Ag),("_law_row",.fq 3 qM),("_law_begun",.fq 1 uX),("_law_ear",.fq 1 zK)] ["range","enumerate","len"] [] []=some QK:=by kernel_rfl
theorem ajk:rX ["_law_script","_law_k"] aeB [] ["len"] [] []=some Yv:=by kernel_rfl
theorem ahl:rX ["_law_word","_law_cell_here","_law_counts","_law_head","_law_parts"] abZ [("_law_deed",.fq 6 fJ),("_law_ear",.fq 1 zK),("_law_row",.fq 3 qM)] [] [] []=some Uq:=by kernel_rfl
theorem aio:rX ["_law_one","_law_other","_law_a","_law_b"] abE [] ["sum","zip","max"] [] []=some UL:=by kernel_rfl
theorem alY:rX ["_law_one","_law_other"] agL [("_law_tears",.fq 2 Cr)] ["max"] [] []=some acg:=by kernel_rfl
theorem al5:rX ["_law_one","_law_other","_law_a","_law_b"] agF [] ["tuple","zip","max"] [] []=some acP:=by kernel_rfl
theorem als:rX ["_law_rows","_law_space","_law_at","_law_one","_law_other"] aeO [("_law_top",.fq 2 RX),("_law_far",.fq 2 QX)] ["enumerate"] [] []=some RB:=by kernel_rfl
theorem akN:rX ["_law_rows","_law_found","_law_row_here"] aeg [] ["sorted"] [] ["_law_found"]=some aao:=by kernel_rfl
theorem aeK:rX ["_law_stand","_law_grounds","_law_but","_law_rows","_law_at","_law_beast","_law_owner","_law_ground","_law_mark"] Wx [("_law_once",.fq 1 KN)] ["enumerate"] [] ["_law_rows"]=some Lq:=by kernel_rfl
theorem UJ:rX ["_law_stand","_law_ground"] Hv [] ["len"] [] []=some zj:=by kernel_rfl
theorem aek:rX ["_law_stand","_law_ground","_law_one"] WD [] ["max"] [] []=some Mp:=by kernel_rfl
theorem ama:rX ["_law_stand","_law_one","_law_two","_law_word","_law_both","_law_pair_here","_law_grounds","_law_at","_law_row_here"] agC [("_law_pair",.fq 2 Hh),("_law_room_of",.fq 2 wz),("_law_rows_of",.fq 3 Am),("_law_ground_there",.fq 2 mD)] ["enumerate","tuple","max","sorted"] [] ["_law_grounds"]=some Jh:=by kernel_rfl
theorem aiR:rY ["_law_house","_law_one","_law_two","_law_word","_law_told","e"] aes [("NoGround",.exc),("Together",.exc),("Clash",.exi ["ones","others","ear"])] [] [("unite",gA)] []=some Lp:=by kernel_rfl
theorem alE:rX ["_law_cell_here"] agz [] [] [] []=some XC:=by kernel_rfl
theorem amI:rX ["_law_value","_law_cell_here","_law_turn"] agV [("_law_cut",.fq 1 MN)] [] [] []=some X7:=by kernel_rfl
theorem ahG:rX ["_law_found"] abL [] ["isinstance","bool","int"] [] []=some Vi:=by kernel_rfl
theorem ajr(r:Mo->List Dat->Out Dat):rd ⟨["_law_found","_law_due_here","_law_one","_law_other"],defScope Q5,[("_law_like",.fq 2 r),("_law_whole",.fq 1 Hf)],["zip","len","isinstance","list","tuple","str","int"],⟨[],jZ,xmH,dfH,Ws⟩,[],true⟩ (defBody Q5)=some (Gq r):=by kernel_rfl
theorem al3:rY ["_law_script","_law_house","_law_head","_law_counts","_law_cell_here","_law_base","_law_turn","_law_mark","_law_deed_here","_law_one","_law_two","_law_stand","_law_due_here","_law_told"] M9 [("_law_like",.fq 2 (lJ 10)),("_law_tell",.fg 3 Cz),("_law_due",.fq 3 BR),("_law_raw",.fq 3 Jm),("_law_asked",.fq 4 jM),("_law_done",.fg 3 iI),("_law_near",.fq 2 CZ),("_law_row",.fq 3 qM),("_law_ear",.fq 1 zK),("_law_cell",.fq 2 uZ),("_law_play",.fg 3 Dc),("Commons",.cls 0 lY)] ["range","max","abs"] [("look",ou)] []=some XF:=by kernel_rfl
structure Top(w:World)(K:arJ)(mg:Str->Option Value):Prop where
 ex:∃h:Heap,K.In h/\h.Ns mainGlobals mg
 c:Np fa fn tbs exB w K
abbrev aj(w:World)(K:arJ):aQ:=oF w K xsH jZ
section
variable{P:Program}{w:World}{K:arJ}{mg:Str->Option Value}{base:Heap}{k:Nat}(T:Top w K mg)
include T
theorem Top.glo(i:Nat){x:Str}(h:fa[i]?=some (.glo x):=by rfl):mg x=some (.ref (He.ga K x)):=by
 obtain⟨_,X,G⟩:=T.ex
 exact He.glo_ok X G (T.c.oY i h)
theorem Top.free(i:Nat){x:Str}(h:fa[i]?=some (.free x):=by rfl):mg x=none:=by
 obtain⟨_,X,G⟩:=T.ex
 exact He.free_ok X G (T.c.oY i h)
theorem Top.int(i:Nat){x:Str}{j:Int}(h:fa[i]?=some (.int x j):=by rfl):∃t,mg x=some (.int j t):=by
 obtain⟨_,X,G⟩:=T.ex
 exact He.int_ok X G (T.c.oY i h)
theorem Top.str(i:Nat){x j:Str}(h:fa[i]?=some (.str x j):=by rfl):∃t,mg x=some (.str j t):=by
 obtain⟨_,X,G⟩:=T.ex
 exact He.str_ok X G (T.c.oY i h)
theorem vZ:bf P w K mg base (aj w K) k "GREATEST_DEPTH" (.con cR):=by
 obtain⟨t,h⟩:=T.int 157
 exact Mg h
theorem Vr:bf P w K mg base (aj w K) k "FEWEST_EXTRA" (.con ju):=by
 obtain⟨t,h⟩:=T.int 158
 exact Mg h
theorem Zz:bf P w K mg base (aj w K) k "MOST_EXTRA" (.con j9):=by
 obtain⟨t,h⟩:=T.int 159
 exact Mg h
theorem Ir:bf P w K mg base (aj w K) k "GREATEST_ALLOWANCE" (.con gR):=by
 obtain⟨t,h⟩:=T.int 160
 exact Mg h
theorem Qw:bf P w K mg base (aj w K) k "PLACES" (.con iW):=aeN (T.glo 161) (fun H=>He.tupB_ok (He.ba (He.ba T.c.more).1).2 H) rfl rfl
theorem Sy:bf P w K mg base (aj w K) k "BARE_EAR" (.con jC):=aeN (T.glo 162) (fun H=>He.tupB_ok (He.ba T.c.more).2 H) rfl rfl
theorem QZ:bf P w K mg base (aj w K) k "GREATEST_PART" (.con oO):=by
 obtain⟨t,h⟩:=T.int 163
 exact Mg h
theorem agg:bf P w K mg base (aj w K) k "SHAPES" (.dic (zu yu)):=akT (T.glo 156) (He.ba (He.ba (He.ba T.c.more).1).1).2 (T.c.t.tab 0)
theorem Q6:bf P w K mg base (aj w K) k "NoGround" .exc:=iQ (by rfl) (T.glo 113) (T.c.oY 114)
theorem adb:bf P w K mg base (aj w K) k "NoOwner" .exc:=iQ (by rfl) (T.glo 115) (T.c.oY 116)
theorem Wh:bf P w K mg base (aj w K) k "NoRight" .exc:=iQ (by rfl) (T.glo 117) (T.c.oY 118)
theorem Rh:bf P w K mg base (aj w K) k "HasRight" .exc:=iQ (by rfl) (T.glo 119) (T.c.oY 120)
theorem acD:bf P w K mg base (aj w K) k "NoneFree" .exc:=iQ (by rfl) (T.glo 121) (T.c.oY 122)
theorem acV:bf P w K mg base (aj w K) k "BadExtra" .exc:=iQ (by rfl) (T.glo 123) (T.c.oY 124)
theorem T8:bf P w K mg base (aj w K) k "BadAllowance" .exc:=iQ (by rfl) (T.glo 125) (T.c.oY 126)
theorem af6:bf P w K mg base (aj w K) k "BadEar" .exc:=iQ (by rfl) (T.glo 128) (T.c.oY 129)
theorem akl:bf P w K mg base (aj w K) k "Bare" .exc:=iQ (by rfl) (T.glo 130) (T.c.oY 131)
theorem Yn:bf P w K mg base (aj w K) k "StillThere" .exc:=iQ (by rfl) (T.glo 132) (T.c.oY 133)
theorem ae9:bf P w K mg base (aj w K) k "NoBeast" .exc:=iQ (by rfl) (T.glo 134) (T.c.oY 135)
theorem ajF:bf P w K mg base (aj w K) k "Dead" .exc:=iQ (by rfl) (T.glo 136) (T.c.oY 137)
theorem acj:bf P w K mg base (aj w K) k "Unmarked" .exc:=iQ (by rfl) (T.glo 138) (T.c.oY 139)
theorem aei:bf P w K mg base (aj w K) k "Deepest" .exc:=iQ (by rfl) (T.glo 140) (T.c.oY 141)
theorem aeI:bf P w K mg base (aj w K) k "NoPlace" .exc:=iQ (by rfl) (T.glo 142) (T.c.oY 143)
theorem Oq:bf P w K mg base (aj w K) k "SameOwner" .exc:=iQ (by rfl) (T.glo 144) (T.c.oY 145)
theorem ZM:bf P w K mg base (aj w K) k "SameGround" .exc:=iQ (by rfl) (T.glo 146) (T.c.oY 147)
theorem Im:bf P w K mg base (aj w K) k "Together" .exc:=iQ (by rfl) (T.glo 148) (T.c.oY 149)
theorem ahF:bf P w K mg base (aj w K) k "Alone" .exc:=iQ (by rfl) (T.glo 150) (T.c.oY 151)
theorem adn:bf P w K mg base (aj w K) k "BadDeed" .exc:=iQ (by rfl) (T.glo 152) (T.c.oY 153)
theorem Xp:bf P w K mg base (aj w K) k "CommonError" .exc:=iQ (by rfl) (T.glo 154) (T.c.oY 155)
theorem Top.agB:La K jZ=true:=(He.ba (He.ba (He.ba (He.ba (He.ba (He.ba T.c.more).1).1).1).1).1).2
theorem Top.xf:(Ws.all fun p=>xsH.contains p.1&&TQ K p.1 p.2)=true:=(He.ba (He.ba (He.ba (He.ba T.c.more).1).1).1).2
theorem Top.hs{Ms:List (Str×List (Str×MV))}(h:Fv P w K mg base (aj w K) k Ms):Tv P w K mg base (aj w K) k ⟨Ms,jZ,xmH,dfH,Ws⟩:=amt h T.agB (He.ba (He.ba (He.ba (He.ba (He.ba T.c.more).1).1).1).1).2 (by rfl) T.xf
theorem Top.cls{c:Str}{fs:List Str}(h:jZ.lookup c=some fs:=by rfl):Cls K (He.ga K c):=(YG T.agB h).1
local macro_rules | `(tactic| nofun)=>`(tactic| first | (exact fun _ _ _ _ _ _ us hl=>match us,hl with | [_],_=>rfl) | (exact fun _ _ _ _ _ _ us hl=>match us,hl with | [_,_],_=>rfl) | (exact fun _ _ _ _ _ _ us hl=>match us,hl with | [_,_,_],_=>rfl) | (exact fun _ _ _ _ _ _ us hl=>match us,hl with | [_,_,_,_],_=>rfl) | (exact fun _ _ _ _ _ _ us hl=>match us,hl with | [_,_,_,_,_],_=>rfl) | (exact fun _ _ _ _ _ _ us hl=>match us,hl with | [_,_,_,_,_,_],_=>rfl) | (exact fun _ _ _ _ _ _ us hl=>match us,hl with | [_,_,_,_,_,_,_],_=>rfl) | (exact fun _ _ _ _ _ _ us hl=>match us,hl with | [_,_,_,_,_,_,_,_],_=>rfl))
theorem vQ(i j:Nat){x:Str}{k0:Nat}(hk:k0+1<=k){st:Stmt}{N ps ml B:List Str}{G:List (Str×GV)}{Ms:List (Str×List (Str×MV))}{body:SF}(h:rX N st G B Ms ml=some body)(g:CP P w K mg base (aj w K) k0 G)(b:Cy mg B)(ms:Fv P w K mg base (aj w K) k0 Ms)(hi:fn[i]?=some (dF x st):=by rfl)(hj:fa[j]?=some (.glo x):=by rfl)(S:FnScope N ps (defScope st):=by exact⟨rfl,rfl,rfl,by decide +kernel,rfl,by decide +kernel,by decide +kernel⟩)(hb:∀(kV doc pm:Value) (an:Option Addr) (cdv ct:Value) (us:List Value),us.length=ps.length->bindArgs (PySem.W.fnOf x x (defArgs st) (defBody st) (defScope st) .none kV doc pm an cdv ct) ⟨us,[]⟩=pure (ps.zip us):=by nofun):bf P w K mg base (aj w K) k x (.fq ps.length (mQ N.length body)):=by
 obtain⟨fd,F⟩:=T.c.W4 i hi
 exact afP hk (T.glo j hj) F.kp (FunD.bindsN (ps:=ps) F hb) (Yy (DR F) S g b (T.hs ms) h)
theorem wQ(i j:Nat){c m q:Str}{k0:Nat}(hk:k0+1<=k){st:Stmt}{N ps ml B:List Str}{G:List (Str×GV)}{Ms:List (Str×List (Str×MV))}{body:SF}(h:rX N st G B Ms ml=some body)(g:CP P w K mg base (aj w K) k0 G)(b:Cy mg B)(ms:Fv P w K mg base (aj w K) k0 Ms)(hi:fn[i]?=some (dM c m q st):=by rfl)(hj:fa[j]?=some (.meth c m):=by rfl)(hx:xsH.contains c=true:=by rfl){fs:List Str}(hc:jZ.lookup c=some fs:=by rfl)(hf:((jZ.lookup c).getD []).contains m=false:=by rfl)(S:FnScope N ps (defScope st):=by exact⟨rfl,rfl,rfl,by decide +kernel,rfl,by decide +kernel,by decide +kernel⟩)(hb:∀(kV doc pm:Value) (an:Option Addr) (cdv ct:Value) (us:List Value),us.length=ps.length->bindArgs (PySem.W.fnOf m q (defArgs st) (defBody st) (defScope st) .none kV doc pm an cdv ct) ⟨us,[]⟩=pure (ps.zip us):=by nofun):bV P w K mg base (aj w K) k c m (.q ps.length (mQ N.length body)):=by
 obtain⟨fd,F⟩:=T.c.W4 i hi
 exact anA hk hx (T.cls hc) (T.c.oY j hj) hf (FunD.bindsN (ps:=ps) F hb) (Yy (DR F) S g b (T.hs ms) h)
theorem vG(i j:Nat){x:Str}{k0:Nat}(hk:k0+1<=k){st:Stmt}{N ps ml B:List Str}{G:List (Str×GV)}{Ms:List (Str×List (Str×MV))}{body:SF}(h:rY N st G B Ms ml=some body)(g:CP P w K mg base (aj w K) k0 G)(b:Cy mg B)(ms:Fv P w K mg base (aj w K) k0 Ms)(hi:fn[i]?=some (dF x st):=by rfl)(hj:fa[j]?=some (.glo x):=by rfl)(S:FnScope N ps (defScope st):=by exact⟨rfl,rfl,rfl,by decide +kernel,rfl,by decide +kernel,by decide +kernel⟩)(hb:∀(kV doc pm:Value) (an:Option Addr) (cdv ct:Value) (us:List Value),us.length=ps.length->bindArgs (PySem.W.fnOf x x (defArgs st) (defBody st) (defScope st) .none kV doc pm an cdv ct) ⟨us,[]⟩=pure (ps.zip us):=by nofun):bf P w K mg base (aj w K) k x (.fg ps.length (mG N.length body)):=by
 obtain⟨fd,F⟩:=T.c.W4 i hi
 exact anB hk (T.glo j hj) F.kp (FunD.bindsN (ps:=ps) F hb) (R9 (DR F) S g b (T.hs ms) h)
theorem wG(i j:Nat){c m q:Str}{k0:Nat}(hk:k0+1<=k){st:Stmt}{N ps ml B:List Str}{G:List (Str×GV)}{Ms:List (Str×List (Str×MV))}{body:SF}(h:rY N st G B Ms ml=some body)(g:CP P w K mg base (aj w K) k0 G)(b:Cy mg B)(ms:Fv P w K mg base (aj w K) k0 Ms)(hi:fn[i]?=some (dM c m q st):=by rfl)(hj:fa[j]?=some (.meth c m):=by rfl)(hx:xsH.contains c=true:=by rfl){fs:List Str}(hc:jZ.lookup c=some fs:=by rfl)(hf:((jZ.lookup c).getD []).contains m=false:=by rfl)(S:FnScope N ps (defScope st):=by exact⟨rfl,rfl,rfl,by decide +kernel,rfl,by decide +kernel,by decide +kernel⟩)(hb:∀(kV doc pm:Value) (an:Option Addr) (cdv ct:Value) (us:List Value),us.length=ps.length->bindArgs (PySem.W.fnOf m q (defArgs st) (defBody st) (defScope st) .none kV doc pm an cdv ct) ⟨us,[]⟩=pure (ps.zip us):=by nofun):bV P w K mg base (aj w K) k c m (.g ps.length (mG N.length body)):=by
 obtain⟨fd,F⟩:=T.c.W4 i hi
 exact anf hk hx (T.cls hc) (T.c.oY j hj) hf (FunD.bindsN (ps:=ps) F hb) (R9 (DR F) S g b (T.hs ms) h)
theorem vI(i j l:Nat){c q:Str}{n:Nat}{k0:Nat}{st:Stmt}{N ps ml B:List Str}{G:List (Str×GV)}{Ms:List (Str×List (Str×MV))}{body:SF}(h:rY N st G B Ms ml=some body)(g:CP P w K mg base (aj w K) k0 G)(b:Cy mg B)(ms:Fv P w K mg base (aj w K) k0 Ms)(hk:k0+1+1<=k)(hi:fn[i]?=some (dM c "__init__" q st):=by rfl)(hj:fa[j]?=some (.mkr c):=by rfl)(hg:fa[l]?=some (.glo c):=by rfl)(hx:xsH.contains c=true:=by rfl){fs:List Str}(hc:jZ.lookup c=some fs:=by rfl)(hp:ps.length=n+1:=by rfl)(S:FnScope N ps (defScope st):=by exact⟨rfl,rfl,rfl,by decide +kernel,rfl,by decide +kernel,by decide +kernel⟩)(hb:∀(kV doc pm:Value) (an:Option Addr) (cdv ct:Value) (us:List Value),us.length=ps.length->bindArgs (PySem.W.fnOf "__init__" q (defArgs st) (defBody st) (defScope st) .none kV doc pm an cdv ct) ⟨us,[]⟩=pure (ps.zip us):=by nofun):bf P w K mg base (aj w K) k c (.cls n (mG N.length body)):=by
 obtain⟨fd,F⟩:=T.c.W4 i hi
 exact aiL hk hx (T.glo l hg) (T.cls hc) (T.c.oY j hj) hp (FunD.bindsN (ps:=ps) F hb) (R9 (DR F) S g b (T.hs ms) h)
theorem Uk(hk:2<=k):bf P w K mg base (aj w K) k "Clash" (.exi ["ones","others","ear"]):=by
 have ho:TQ K "Clash" ["ones","others","ear"]=true:=(He.ba (ar7.mp T.xf _ (show(("Clash" : Str),(["ones","others","ear"]:List Str))∈Ws by simp[Ws]))).2
 obtain⟨o1,o2,o3,o4,o5⟩:=Vo ho
 obtain⟨fd,F⟩:=T.c.W4 108
 have b:=FunD.bindsN (ps:=["self","ones","others","ear"]) F fun _ _ _ _ _ _ us hl=>match us,hl with|[_,_,_,_],_=>rfl
 exact ai9 hk (by rfl) (T.glo 127) ho rfl b (aex (DR F) Xv o1 (by rfl) (by decide) (o5 _ (by decide)) (o5 _ (by decide)) (o5 _ (by decide)))
theorem ac9(hk:2<=k:=by omega):bf P w K mg base (aj w K) k "Grounds" (.cls 0 uF):=vI T 0 0 108 (ps:=["self"]) TY trivial trivial trivial hk
theorem afd(hk:2<=k:=by omega):bf P w K mg base (aj w K) k "Rights" (.cls 0 vL):=vI T 1 1 109 (ps:=["self"]) Xq trivial trivial trivial hk
theorem alj(hk:2<=k:=by omega):bf P w K mg base (aj w K) k "Herd" (.cls 0 zA):=vI T 2 2 110 (ps:=["self"]) aaD trivial trivial trivial hk
theorem adi(hk:4<=k:=by omega):bf P w K mg base (aj w K) k "Commons" (.cls 0 lY):=vI T 3 3 111 (ps:=["self"]) Uw ⟨alj T,afd T,ac9 T,trivial⟩ trivial trivial hk
theorem Hl(hk:1<=k:=by omega):bV P w K mg base (aj w K) k "Beast" "stand" (.q 1 vA):=wQ T 4 4 hk (ps:=["self"]) Xg trivial trivial trivial
theorem Xu(hk:2<=k:=by omega):bV P w K mg base (aj w K) k "Beast" "told" (.q 1 wV):=wQ T 5 5 hk (ps:=["self"]) ZX trivial ⟨T.free 164,trivial⟩ ⟨⟨Hl T,trivial⟩,trivial⟩
theorem Od(hk:1<=k:=by omega):bV P w K mg base (aj w K) k "Commons" "owners" (.q 1 qu):=wQ T 6 6 hk (ps:=["self"]) O7 trivial ⟨T.free 165,trivial⟩ trivial
theorem Ld(hk:1<=k:=by omega):bV P w K mg base (aj w K) k "Rights" "all_rows" (.q 1 o7):=wQ T 7 7 hk (ps:=["self"]) Oc trivial ⟨T.free 165,trivial⟩ trivial
theorem wN(hk:1<=k:=by omega):bV P w K mg base (aj w K) k "Grounds" "many" (.q 1 pQ):=wQ T 8 8 hk (ps:=["self"]) Vt trivial ⟨T.free 166,trivial⟩ trivial
theorem U3(hk:2<=k:=by omega):bV P w K mg base (aj w K) k "Grounds" "has" (.q 2 vH):=wQ T 9 9 hk (ps:=["self","ground"]) W8 trivial trivial ⟨⟨wN T,trivial⟩,trivial⟩
theorem ig(hk:3<=k:=by omega):bV P w K mg base (aj w K) k "Grounds" "need" (.q 2 ux):=wQ T 10 10 hk (ps:=["self","ground"]) Vj ⟨Q6 T,trivial⟩ trivial ⟨⟨U3 T,trivial⟩,trivial⟩
theorem xZ(hk:4<=k:=by omega):bV P w K mg base (aj w K) k "Grounds" "allowance" (.q 2 jP):=wQ T 11 11 hk (ps:=["self","ground"]) Kg trivial trivial ⟨⟨ig T,trivial⟩,trivial⟩
theorem mZ(hk:4<=k:=by omega):bV P w K mg base (aj w K) k "Grounds" "together" (.q 2 lg):=wQ T 12 12 hk (ps:=["self","ground"]) Kr trivial ⟨T.free 165,trivial⟩ ⟨⟨ig T,trivial⟩,trivial⟩
theorem rH(hk:5<=k:=by omega):bV P w K mg base (aj w K) k "Commons" "together" (.q 2 lu):=wQ T 13 13 hk (ps:=["self","ground"]) Ko trivial trivial ⟨⟨mZ T,trivial⟩,trivial⟩
theorem Ru(hk:6<=k:=by omega):bV P w K mg base (aj w K) k "Commons" "look" (.q 1 lX):=wQ T 14 14 hk (ps:=["self"]) Tt trivial ⟨T.free 167,T.free 164,trivial⟩ ⟨⟨Ld T,trivial⟩,⟨Od T,trivial⟩,⟨Xu T,trivial⟩,⟨wN T,trivial⟩,⟨rH T,trivial⟩,⟨xZ T,trivial⟩,trivial⟩
theorem X5(hk:1<=k:=by omega):bf P w K mg base (aj w K) k "_law_row" (.fq 3 qM):=vQ T 15 15 hk (ps:=["_law_cell_here","_law_many","_law_base"]) al6 trivial ⟨T.free 167,T.free 168,trivial⟩ trivial
theorem Yc(hk:1<=k:=by omega):bf P w K mg base (aj w K) k "_law_ear_by" (.fq 2 tH):=vQ T 16 16 hk (ps:=["_law_figures","_law_mode"]) afX trivial ⟨T.free 164,T.free 169,trivial⟩ trivial
theorem acR(hk:2<=k:=by omega):bf P w K mg base (aj w K) k "_law_ear" (.fq 1 zK):=vQ T 17 17 hk (ps:=["_law_cell_here"]) amq ⟨Yc T,X5 T,trivial⟩ trivial trivial
theorem aaY(hk:1<=k:=by omega):bf P w K mg base (aj w K) k "_law_begun" (.fq 1 uX):=vQ T 18 18 hk (ps:=["_law_head"]) aaA trivial trivial trivial
theorem adu(hk:1<=k:=by omega):bf P w K mg base (aj w K) k "_law_word_by" (.fq 1 Ag):=vQ T 19 19 hk (ps:=["_law_figure"]) adT trivial trivial trivial
theorem fZ(hk:1<=k:=by omega):bV P w K mg base (aj w K) k "Commons" "need_owner" (.q 2 jG):=wQ T 20 20 hk (ps:=["self","owner"]) Jw ⟨adb T,trivial⟩ trivial trivial
theorem rW(hk:1<=k:=by omega):bV P w K mg base (aj w K) k "Rights" "marks" (.q 3 uJ):=wQ T 21 21 hk (ps:=["self","owner","ground"]) Vv trivial trivial trivial
theorem Kh(hk:2<=k:=by omega):bV P w K mg base (aj w K) k "Rights" "has_right" (.q 3 oK):=wQ T 22 22 hk (ps:=["self","owner","ground"]) LQ trivial ⟨T.free 166,trivial⟩ ⟨⟨rW T,trivial⟩,trivial⟩
theorem jo(hk:3<=k:=by omega):bV P w K mg base (aj w K) k "Commons" "need_right" (.q 3 lV):=wQ T 23 23 hk (ps:=["self","owner","ground"]) Jt ⟨Wh T,trivial⟩ trivial ⟨⟨Kh T,trivial⟩,trivial⟩
theorem xY(hk:1<=k:=by omega):bV P w K mg base (aj w K) k "Commons" "new_owner" (.g 1 iG):=wG T 24 24 hk (ps:=["self"]) Ka trivial trivial trivial
theorem yj(hk:1<=k:=by omega):bV P w K mg base (aj w K) k "Rights" "add_right" (.g 4 jg):=wG T 25 25 hk (ps:=["self","owner","ground","mark"]) Ma ⟨Rh T,trivial⟩ trivial trivial
theorem akY(hk:1<=k:=by omega):bf P w K mg base (aj w K) k "torn" (.fq 2 Mr):=vQ T 26 26 hk (ps:=["ear","many"]) ajS ⟨vZ T,trivial⟩ ⟨T.free 167,T.free 170,trivial⟩ trivial
theorem abk(hk:1<=k:=by omega):bf P w K mg base (aj w K) k "lacks" (.fq 2 uw):=vQ T 27 27 hk (ps:=["one","other"]) ahm trivial ⟨T.free 171,T.free 172,trivial⟩ trivial
theorem aaI(hk:2<=k:=by omega):bf P w K mg base (aj w K) k "offspring" (.fq 2 u5):=vQ T 28 28 hk (ps:=["mark","extra"]) aaP ⟨abk T,akY T,trivial⟩ trivial trivial
theorem ahP(hk:2<=k:=by omega):bf P w K mg base (aj w K) k "apart" (.fq 2 HS):=vQ T 29 29 hk (ps:=["one","other"]) ahA ⟨abk T,trivial⟩ ⟨T.free 169,trivial⟩ trivial
theorem Z5(hk:3<=k:=by omega):bf P w K mg base (aj w K) k "meet" (.fq 3 qR):=vQ T 30 30 hk (ps:=["one","other","room"]) ak1 ⟨ahP T,trivial⟩ trivial trivial
theorem Yq(hk:4<=k:=by omega):bf P w K mg base (aj w K) k "first_free" (.fq 4 pN):=vQ T 31 31 hk (ps:=["mark","extra","rows","room"]) YM ⟨acD T,aaI T,Z5 T,trivial⟩ ⟨T.free 173,trivial⟩ trivial
theorem pJ(hk:2<=k:=by omega):bV P w K mg base (aj w K) k "Commons" "first_mark" (.q 3 lQ):=wQ T 32 32 hk (ps:=["self","owner","ground"]) Io trivial trivial ⟨⟨rW T,trivial⟩,trivial⟩
theorem Qi(hk:1<=k:=by omega):bf P w K mg base (aj w K) k "tidied" (.fq 1 qG):=vQ T 33 33 hk (ps:=["rows"]) afR trivial ⟨T.free 174,T.free 175,trivial⟩ trivial
theorem tY(hk:1<=k:=by omega):bV P w K mg base (aj w K) k "Herd" "all_living" (.q 1 o9):=wQ T 34 34 hk (ps:=["self"]) N8 trivial ⟨T.free 176,trivial⟩ trivial
theorem Eb(hk:2<=k:=by omega):bV P w K mg base (aj w K) k "Herd" "grazing" (.q 2 pB):=wQ T 35 35 hk (ps:=["self","grounds"]) Ux trivial trivial ⟨⟨tY T,trivial⟩,trivial⟩
theorem Jo(hk:1<=k:=by omega):bV P w K mg base (aj w K) k "Rights" "in_grounds" (.q 2 m9):=wQ T 36 36 hk (ps:=["self","grounds"]) Ke trivial trivial trivial
theorem uO(hk:6<=k:=by omega):bV P w K mg base (aj w K) k "Commons" "standing_but" (.q 3 iK):=wQ T 37 37 hk (ps:=["self","left_out","ground"]) Fq ⟨Qi T,trivial⟩ trivial ⟨⟨Jo T,trivial⟩,⟨Eb T,trivial⟩,⟨rH T,trivial⟩,trivial⟩
theorem rB(hk:7<=k:=by omega):bV P w K mg base (aj w K) k "Commons" "standing" (.q 2 kJ):=wQ T 38 38 hk (ps:=["self","ground"]) Lh trivial trivial ⟨⟨uO T,trivial⟩,trivial⟩
theorem RD(hk:5<=k:=by omega):bV P w K mg base (aj w K) k "Grounds" "room" (.q 2 pP):=wQ T 39 39 hk (ps:=["self","ground"]) Tw trivial ⟨T.free 169,trivial⟩ ⟨⟨mZ T,trivial⟩,⟨xZ T,trivial⟩,trivial⟩
theorem rO(hk:6<=k:=by omega):bV P w K mg base (aj w K) k "Commons" "room" (.q 2 pU):=wQ T 40 40 hk (ps:=["self","ground"]) Vs trivial trivial ⟨⟨RD T,trivial⟩,trivial⟩
theorem J9(hk:8<=k:=by omega):bV P w K mg base (aj w K) k "Commons" "new_heir" (.g 4 cW):=wG T 41 41 hk (ps:=["self","elder","ground","extra"]) MF ⟨Yq T,acV T,Vr T,Zz T,trivial⟩ trivial ⟨⟨yj T,trivial⟩,⟨xY T,trivial⟩,⟨rO T,trivial⟩,⟨rB T,trivial⟩,⟨pJ T,trivial⟩,⟨jo T,trivial⟩,⟨ig T,trivial⟩,⟨fZ T,trivial⟩,trivial⟩
theorem Gp(hk:2<=k:=by omega):bV P w K mg base (aj w K) k "Grounds" "add_ground" (.g 2 fB):=wG T 42 42 hk (ps:=["self","allowance"]) IK ⟨T8 T,Ir T,trivial⟩ trivial ⟨⟨wN T,trivial⟩,trivial⟩
theorem FZ(hk:3<=k:=by omega):bV P w K mg base (aj w K) k "Commons" "new_ground" (.g 2 gM):=wG T 43 43 hk (ps:=["self","allowance"]) Jz trivial trivial ⟨⟨Gp T,trivial⟩,trivial⟩
theorem ade(hk:4<=k:=by omega):bf P w K mg base (aj w K) k "barring" (.fq 4 Ac):=vQ T 44 44 hk (ps:=["owner","ear","rows","room"]) aeH ⟨Z5 T,Qi T,trivial⟩ trivial trivial
theorem Nf(hk:1<=k:=by omega):bf P w K mg base (aj w K) k "joint" (.fq 2 pq):=vQ T 45 45 hk (ps:=["one","other"]) aht trivial ⟨T.free 164,T.free 172,T.free 169,trivial⟩ trivial
theorem S7(hk:5<=k:=by omega):bf P w K mg base (aj w K) k "ask_room" (.fq 4 nZ):=vQ T 46 46 hk (ps:=["owner","ear","rows","room"]) acU ⟨Uk T (by decide),Nf T,ade T,trivial⟩ trivial trivial
theorem pA(hk:8<=k:=by omega):bV P w K mg base (aj w K) k "Commons" "ask_ground" (.q 4 gQ):=wQ T 47 47 hk (ps:=["self","owner","ear","ground"]) Je ⟨S7 T,trivial⟩ trivial ⟨⟨rO T,trivial⟩,⟨rB T,trivial⟩,trivial⟩
theorem aal(hk:1<=k:=by omega):bf P w K mg base (aj w K) k "is_ear" (.fq 1 sU):=vQ T 48 48 hk (ps:=["parts"]) afi ⟨vZ T,Qw T,trivial⟩ ⟨T.free 177,T.free 166,trivial⟩ trivial
theorem RL(hk:2<=k:=by omega):bf P w K mg base (aj w K) k "need_ear" (.fq 1 qd):=vQ T 49 49 hk (ps:=["parts"]) acW ⟨af6 T,aal T,trivial⟩ trivial trivial
theorem PL(hk:9<=k:=by omega):bV P w K mg base (aj w K) k "Commons" "enrol" (.g 4 dU):=wG T 50 50 hk (ps:=["self","owner","ground","mark"]) Q7 ⟨Rh T,akl T,Sy T,RL T,trivial⟩ trivial ⟨⟨yj T,trivial⟩,⟨pA T,trivial⟩,⟨rW T,trivial⟩,⟨ig T,trivial⟩,⟨fZ T,trivial⟩,trivial⟩
theorem Uc(hk:2<=k:=by omega):bV P w K mg base (aj w K) k "Rights" "drop" (.g 3 nJ):=wG T 51 51 hk (ps:=["self","owner","ground"]) Xb ⟨Wh T,trivial⟩ trivial ⟨⟨rW T,trivial⟩,trivial⟩
theorem P0(hk:4<=k:=by omega):bV P w K mg base (aj w K) k "Commons" "leave" (.g 3 fY):=wG T 52 52 hk (ps:=["self","owner","ground"]) SM ⟨Yn T,trivial⟩ ⟨T.free 173,trivial⟩ ⟨⟨Uc T,trivial⟩,⟨Eb T,trivial⟩,⟨jo T,trivial⟩,⟨ig T,trivial⟩,⟨fZ T,trivial⟩,trivial⟩
theorem BJ(hk:1<=k:=by omega):bV P w K mg base (aj w K) k "Beast" "stand_so" (.g 2 mW):=wG T 53 53 hk (ps:=["self","stand"]) Oz trivial trivial trivial
theorem aip(hk:1<=k:=by omega):bf P w K mg base (aj w K) k "begun" (.fq 1 Cv):=vQ T 54 54 hk (ps:=["first"]) ahL ⟨Sy T,trivial⟩ trivial trivial
theorem ahT(hk:3<=k:=by omega):bf P w K mg base (aj w K) k "Beast" (.cls 1 uf):=vI T 55 55 112 (ps:=["self","first"]) aak ⟨aip T,trivial⟩ trivial ⟨⟨BJ T,trivial⟩,trivial⟩ hk
theorem Bx(hk:4<=k:=by omega):bV P w K mg base (aj w K) k "Herd" "add_beast" (.g 2 qw):=wG T 56 56 hk (ps:=["self","first"]) Qq ⟨ahT T,trivial⟩ ⟨T.free 166,trivial⟩ trivial
theorem Pn(hk:5<=k:=by omega):bV P w K mg base (aj w K) k "Commons" "bring" (.g 4 fW):=wG T 57 57 hk (ps:=["self","owner","ground","ear"]) RM ⟨RL T,trivial⟩ trivial ⟨⟨Bx T,trivial⟩,⟨jo T,trivial⟩,⟨ig T,trivial⟩,⟨fZ T,trivial⟩,trivial⟩
theorem Bc(hk:1<=k:=by omega):bV P w K mg base (aj w K) k "Herd" "known" (.q 2 lA):=wQ T 58 58 hk (ps:=["self","number"]) aac ⟨ae9 T,trivial⟩ ⟨T.free 166,trivial⟩ trivial
theorem uG(hk:2<=k:=by omega):bV P w K mg base (aj w K) k "Herd" "living" (.q 2 qQ):=wQ T 59 59 hk (ps:=["self","number"]) Xy ⟨ajF T,trivial⟩ trivial ⟨⟨Bc T,trivial⟩,trivial⟩
theorem yF(hk:3<=k:=by omega):bV P w K mg base (aj w K) k "Herd" "marked" (.q 2 nM):=wQ T 60 60 hk (ps:=["self","number"]) Xn ⟨acj T,trivial⟩ trivial ⟨⟨uG T,trivial⟩,trivial⟩
theorem Rz(hk:5<=k:=by omega):bV P w K mg base (aj w K) k "Commons" "bear" (.g 2 ji):=wG T 61 61 hk (ps:=["self","mother"]) T5 trivial trivial ⟨⟨Bx T,trivial⟩,⟨yF T,trivial⟩,trivial⟩
theorem acT(hk:1<=k:=by omega):bf P w K mg base (aj w K) k "deepened" (.fq 2 wL):=vQ T 62 62 hk (ps:=["ear","place"]) ac0 trivial ⟨T.free 164,T.free 176,trivial⟩ trivial
theorem adt(hk:2<=k:=by omega):bf P w K mg base (aj w K) k "gone_on" (.fq 2 Ae):=vQ T 63 63 hk (ps:=["stand","event"]) aem ⟨acT T,trivial⟩ trivial trivial
theorem jw(hk:3<=k:=by omega):bV P w K mg base (aj w K) k "Beast" "befall" (.g 2 mH):=wG T 64 64 hk (ps:=["self","event"]) Ut ⟨adt T,trivial⟩ trivial ⟨⟨BJ T,trivial⟩,⟨Hl T,trivial⟩,trivial⟩
theorem Vn(hk:9<=k:=by omega):bV P w K mg base (aj w K) k "Commons" "cut" (.g 2 jN):=wG T 65 65 hk (ps:=["self","beast"]) Xc ⟨Nf T,trivial⟩ trivial ⟨⟨jw T,trivial⟩,⟨pA T,trivial⟩,⟨pJ T,trivial⟩,⟨uG T,trivial⟩,trivial⟩
theorem QS(hk:4<=k:=by omega):bV P w K mg base (aj w K) k "Commons" "tear" (.g 3 fM):=wG T 66 66 hk (ps:=["self","beast","place"]) Us ⟨aei T,vZ T,aeI T,Qw T,trivial⟩ ⟨T.free 166,trivial⟩ ⟨⟨jw T,trivial⟩,⟨uG T,trivial⟩,trivial⟩
theorem TF(hk:2<=k:=by omega):bV P w K mg base (aj w K) k "Herd" "calves" (.q 2 qN):=wQ T 67 67 hk (ps:=["self","mother"]) Xj trivial trivial ⟨⟨tY T,trivial⟩,⟨Bc T,trivial⟩,trivial⟩
theorem yt(hk:4<=k:=by omega):bV P w K mg base (aj w K) k "Herd" "lead_calves" (.g 2 oH):=wG T 68 68 hk (ps:=["self","mother"]) KY trivial trivial ⟨⟨TF T,trivial⟩,⟨jw T,trivial⟩,⟨Bc T,trivial⟩,trivial⟩
theorem Tj(hk:7<=k:=by omega):bV P w K mg base (aj w K) k "Commons" "sell" (.g 3 dH):=wG T 69 69 hk (ps:=["self","beast","buyer"]) Vb ⟨S7 T,Nf T,Oq T,trivial⟩ trivial ⟨⟨yt T,trivial⟩,⟨jw T,trivial⟩,⟨rO T,trivial⟩,⟨uO T,trivial⟩,⟨pJ T,trivial⟩,⟨jo T,trivial⟩,⟨fZ T,trivial⟩,⟨yF T,trivial⟩,trivial⟩
theorem Sh(hk:9<=k:=by omega):bV P w K mg base (aj w K) k "Commons" "move" (.g 3 dI):=wG T 70 70 hk (ps:=["self","beast","ground"]) U8 ⟨ZM T,trivial⟩ trivial ⟨⟨yt T,trivial⟩,⟨jw T,trivial⟩,⟨pA T,trivial⟩,⟨jo T,trivial⟩,⟨ig T,trivial⟩,⟨yF T,trivial⟩,trivial⟩
theorem Vc(hk:4<=k:=by omega):bV P w K mg base (aj w K) k "Commons" "die" (.g 2 lH):=wG T 71 71 hk (ps:=["self","beast"]) Xz trivial trivial ⟨⟨jw T,trivial⟩,⟨uG T,trivial⟩,trivial⟩
theorem ab5(hk:4<=k:=by omega):bf P w K mg base (aj w K) k "clashing" (.fq 2 uz):=vQ T 72 72 hk (ps:=["rows","room"]) acX ⟨Z5 T,Qi T,trivial⟩ ⟨T.free 176,trivial⟩ trivial
theorem Kf(hk:8<=k:=by omega):bV P w K mg base (aj w K) k "Commons" "quarrels" (.q 3 kY):=wQ T 73 73 hk (ps:=["self","ground","other"]) Mv ⟨ab5 T,trivial⟩ ⟨T.free 169,trivial⟩ ⟨⟨rB T,trivial⟩,⟨rO T,trivial⟩,trivial⟩
theorem zU(hk:1<=k:=by omega):bV P w K mg base (aj w K) k "Grounds" "enclose" (.g 2 lK):=wG T 74 74 hk (ps:=["self","grounds"]) N6 trivial ⟨T.free 164,trivial⟩ trivial
theorem CG(hk:5<=k:=by omega):bV P w K mg base (aj w K) k "Grounds" "unite" (.g 3 jH):=wG T 75 75 hk (ps:=["self","ground","other"]) Rb ⟨Im T,trivial⟩ ⟨T.free 174,trivial⟩ ⟨⟨zU T,trivial⟩,⟨mZ T,trivial⟩,trivial⟩
theorem CV(hk:9<=k:=by omega):bV P w K mg base (aj w K) k "Commons" "unite" (.g 3 eX):=wG T 76 76 hk (ps:=["self","ground","other"]) S8 ⟨Uk T (by decide),Nf T,Im T,trivial⟩ trivial ⟨⟨CG T,trivial⟩,⟨Kf T,trivial⟩,⟨rH T,trivial⟩,⟨ig T,trivial⟩,trivial⟩
theorem Rg(hk:5<=k:=by omega):bV P w K mg base (aj w K) k "Grounds" "part" (.g 2 jm):=wG T 77 77 hk (ps:=["self","ground"]) Va ⟨ahF T,trivial⟩ trivial ⟨⟨zU T,trivial⟩,⟨mZ T,trivial⟩,trivial⟩
theorem Rk(hk:6<=k:=by omega):bV P w K mg base (aj w K) k "Commons" "part" (.g 2 jU):=wG T 78 78 hk (ps:=["self","ground"]) Uy trivial trivial ⟨⟨Rg T,trivial⟩,trivial⟩
theorem J8(hk:1<=k:=by omega):bV P w K mg base (aj w K) k "Rights" "hand_over" (.g 3 oU):=wG T 79 79 hk (ps:=["self","elder","heir"]) KH trivial trivial trivial
theorem W9(hk:2<=k:=by omega):bV P w K mg base (aj w K) k "Herd" "owned" (.q 2 xq):=wQ T 80 80 hk (ps:=["self","owner"]) Yx trivial trivial ⟨⟨tY T,trivial⟩,trivial⟩
theorem Ml(hk:4<=k:=by omega):bV P w K mg base (aj w K) k "Commons" "pass_on" (.g 3 fQ):=wG T 81 81 hk (ps:=["self","elder","heir"]) N5 ⟨Oq T,trivial⟩ trivial ⟨⟨jw T,trivial⟩,⟨W9 T,trivial⟩,⟨J8 T,trivial⟩,⟨fZ T,trivial⟩,trivial⟩
theorem aaT(hk:2<=k:=by omega):bf P w K mg base (aj w K) k "part_fits" (.fq 2 iJ):=vQ T 82 82 hk (ps:=["kind","part"]) aaH ⟨Qw T,QZ T,aal T,trivial⟩ ⟨T.free 178,T.free 179,T.free 166,T.free 164,trivial⟩ trivial
theorem ajY(hk:3<=k:=by omega):bf P w K mg base (aj w K) k "fits" (.fq 1 GD):=vQ T 83 83 hk (ps:=["deed"]) ai5 ⟨aaT T,agg T,trivial⟩ ⟨T.free 177,T.free 172,T.free 166,trivial⟩ trivial
theorem Xd(hk:10<=k:=by omega):bV P w K mg base (aj w K) k "Commons" "do" (.g 2 cC):=wG T 84 84 hk (ps:=["self","deed"]) ZJ ⟨adn T,ajY T,trivial⟩ trivial ⟨⟨J9 T,trivial⟩,⟨Ml T,trivial⟩,⟨Rk T,trivial⟩,⟨CV T,trivial⟩,⟨Vc T,trivial⟩,⟨Sh T,trivial⟩,⟨Tj T,trivial⟩,⟨QS T,trivial⟩,⟨Vn T,trivial⟩,⟨Rz T,trivial⟩,⟨Pn T,trivial⟩,⟨P0 T,trivial⟩,⟨PL T,trivial⟩,⟨FZ T,trivial⟩,⟨xY T,trivial⟩,trivial⟩
theorem ac3(hk:11<=k:=by omega):bf P w K mg base (aj w K) k "_law_done" (.fg 3 iI):=vG T 85 85 hk (ps:=["_law_house","_law_deed_here","_law_counts"]) akp ⟨Xp T,trivial⟩ trivial ⟨⟨Xd T,trivial⟩,trivial⟩
theorem adh(hk:1<=k:=by omega):bf P w K mg base (aj w K) k "_law_near" (.fq 2 CZ):=vQ T 86 86 hk (ps:=["_law_ear_here","_law_figures"]) aiO trivial ⟨T.free 164,T.free 172,T.free 169,T.free 170,trivial⟩ trivial
theorem aeF(hk:2<=k:=by omega):bf P w K mg base (aj w K) k "_law_mark_by" (.fq 3 wA):=vQ T 87 87 hk (ps:=["_law_figures","_law_mode","_law_base"]) aeS ⟨Yc T,adh T,trivial⟩ trivial trivial
theorem amC(hk:1<=k:=by omega):bf P w K mg base (aj w K) k "_law_ref" (.fq 3 jO):=vQ T 88 88 hk (ps:=["_law_figure","_law_many","_law_sure"]) amJ trivial ⟨T.free 169,trivial⟩ trivial
theorem adx(hk:3<=k:=by omega):bf P w K mg base (aj w K) k "_law_deed" (.fq 6 fJ):=vQ T 89 89 hk (ps:=["_law_word","_law_one","_law_two","_law_parts","_law_counts","_law_base"]) ajw ⟨amC T,aeF T,trivial⟩ ⟨T.free 179,trivial⟩ trivial
theorem ak0(hk:12<=k:=by omega):bf P w K mg base (aj w K) k "_law_play" (.fg 3 Dc):=vG T 90 90 hk (ps:=["_law_house","_law_cells","_law_head"]) akF ⟨ac3 T,adx T,adu T,X5 T,aaY T,acR T,trivial⟩ ⟨T.free 167,T.free 176,T.free 166,trivial⟩ trivial
theorem ai2(hk:1<=k:=by omega):bf P w K mg base (aj w K) k "_law_cell" (.fq 2 uZ):=vQ T 91 91 hk (ps:=["_law_script","_law_k"]) ajk trivial ⟨T.free 166,trivial⟩ trivial
theorem ag5(hk:4<=k:=by omega):bf P w K mg base (aj w K) k "_law_asked" (.fq 4 jM):=vQ T 92 92 hk (ps:=["_law_word","_law_cell_here","_law_counts","_law_head"]) ahl ⟨adx T,acR T,X5 T,trivial⟩ trivial trivial
theorem aiv(hk:1<=k:=by omega):bf P w K mg base (aj w K) k "_law_tears" (.fq 2 Cr):=vQ T 93 93 hk (ps:=["_law_one","_law_other"]) aio trivial ⟨T.free 171,T.free 172,T.free 169,trivial⟩ trivial
theorem amG(hk:2<=k:=by omega):bf P w K mg base (aj w K) k "_law_far" (.fq 2 QX):=vQ T 94 94 hk (ps:=["_law_one","_law_other"]) alY ⟨aiv T,trivial⟩ ⟨T.free 169,trivial⟩ trivial
theorem alL(hk:1<=k:=by omega):bf P w K mg base (aj w K) k "_law_top" (.fq 2 RX):=vQ T 95 95 hk (ps:=["_law_one","_law_other"]) al5 trivial ⟨T.free 164,T.free 172,T.free 169,trivial⟩ trivial
theorem v_pair(hk:3<=k:=by omega):bf P w K mg base (aj w K) k "_law_pair" (.fq 2 Hh):=vQ T 96 96 hk (ps:=["_law_rows","_law_space"]) als ⟨alL T,amG T,trivial⟩ ⟨T.free 176,trivial⟩ trivial
theorem ajd(hk:1<=k:=by omega):bf P w K mg base (aj w K) k "_law_once" (.fq 1 KN):=vQ T 97 97 hk (ps:=["_law_rows"]) akN trivial ⟨T.free 174,trivial⟩ trivial
theorem aee(hk:2<=k:=by omega):bf P w K mg base (aj w K) k "_law_rows_of" (.fq 3 Am):=vQ T 98 98 hk (ps:=["_law_stand","_law_grounds","_law_but"]) aeK ⟨ajd T,trivial⟩ ⟨T.free 176,trivial⟩ trivial
theorem Ua(hk:1<=k:=by omega):bf P w K mg base (aj w K) k "_law_ground_there" (.fq 2 mD):=vQ T 99 99 hk (ps:=["_law_stand","_law_ground"]) UJ trivial ⟨T.free 166,trivial⟩ trivial
theorem adq(hk:1<=k:=by omega):bf P w K mg base (aj w K) k "_law_room_of" (.fq 2 wz):=vQ T 100 100 hk (ps:=["_law_stand","_law_ground"]) aek trivial ⟨T.free 169,trivial⟩ trivial
theorem al0(hk:4<=k:=by omega):bf P w K mg base (aj w K) k "_law_due" (.fq 3 BR):=vQ T 101 101 hk (ps:=["_law_stand","_law_one","_law_two"]) ama ⟨v_pair T,adq T,aee T,Ua T,trivial⟩ ⟨T.free 176,T.free 164,T.free 169,T.free 174,trivial⟩ trivial
theorem aji(hk:10<=k:=by omega):bf P w K mg base (aj w K) k "_law_tell" (.fg 3 Cz):=vG T 102 102 hk (ps:=["_law_house","_law_one","_law_two"]) aiR ⟨Q6 T,Im T,Uk T (by decide),trivial⟩ trivial ⟨⟨CG T,CV T,trivial⟩,trivial⟩
theorem v_cut(hk:1<=k:=by omega):bf P w K mg base (aj w K) k "_law_cut" (.fq 1 MN):=vQ T 103 103 hk (ps:=["_law_cell_here"]) alE trivial trivial trivial
theorem amA(hk:2<=k:=by omega):bf P w K mg base (aj w K) k "_law_raw" (.fq 3 Jm):=vQ T 104 104 hk (ps:=["_law_value","_law_cell_here","_law_turn"]) amI ⟨v_cut T,trivial⟩ trivial trivial
theorem ah3(hk:1<=k:=by omega):bf P w K mg base (aj w K) k "_law_whole" (.fq 1 Hf):=vQ T 105 105 hk (ps:=["_law_found"]) ahG trivial ⟨T.free 178,T.free 180,T.free 179,trivial⟩ trivial
theorem alc(hk:12<=k:=by omega):bf P w K mg base (aj w K) k "_law_like" (.fq 2 (lJ 10)):=by
 obtain⟨fd,F⟩:=T.c.W4 106
 have b:=FunD.bindsN (ps:=["_law_found","_law_due_here"]) F fun _ _ _ _ _ _ us hl=>match us,hl with|[_,_],_=>rfl
 have key:∀j:Nat,FnOk P w K mg base (L2.CX P w) (2+j) (He.ga K "_law_like") fd ["_law_found","_law_due_here"] (V9 K (aj w K) 2 (lJ j)):=by
  intro j
  induction j with
  |zero=>exact aiP
  |succ j ih'=>
   have ih:∀{k:Nat},2+j<=k->bf P w K mg base (aj w K) k "_law_like" (.fq 2 (lJ j)):=fun hk=>afP hk (T.glo 106) F.kp (b) ih'
   refine Yy (k:=2+j) (DR F) aiE ?_ ?_ ?_ (ajr (lJ j))
   ·exact⟨ih (ash _),ah3 T,trivial⟩
   ·exact⟨T.free 172,T.free 166,T.free 178,T.free 165,T.free 164,T.free 181,T.free 179,trivial⟩
   ·exact T.hs trivial
 exact afP hk (T.glo 106) F.kp (b) (key 10)
theorem amh{fd:FuncData}(F:FunD K "law" "law" (defArgs M9) (defBody M9) (defScope M9) [] [] (He.ga K "law") fd):FnOk P w K mg base (L2.CX P w) 13 (He.ga K "law") fd ["_law_script"] (JR K (aj w K) 1 Sv):=by
 refine R9 (k:=12) (DR F) ak4 ?_ ?_ ?_ al3
 ·exact⟨alc T,aji T,al0 T,amA T,ag5 T,ac3 T,adh T,X5 T,acR T,ai2 T,ak0 T,adi T,trivial⟩
 ·exact⟨T.free 167,T.free 169,T.free 168,trivial⟩
 ·exact T.hs ⟨⟨Ru T,trivial⟩,trivial⟩
end
def digs(b:Int):Nat->Int->List Int
 |0,_=>[]
 |n+1,c=>c % b::digs b n (c / b)
def Og(b:Int):Nat->Int->Int->List Int
 |0,_,_=>[]
 |n+1,k,t=>((t * 48271+9973 * k+11) % 2147483647 / 1021 % b)::Og b n (k+1) ((t * 48271+9973 * k+11) % 2147483647)
def Br(c:Int):Int:=if c < 0 then -c else c
def rowOf(c:Int)(n:Nat)(b:Int):List Int:=if 10 ^ 18<=Br c then digs b n (Br c) else Og b n 0 ((Br c % 1000003+17) * 69621 % 2147483647)
theorem YJ(b:Int):∀n c,(digs b n c).length=n
 |0,_=>rfl
 |n+1,c=>by simp[digs,YJ b n]
theorem abu(b:Int):∀n k t,(Og b n k t).length=n
 |0,_,_=>rfl
 |n+1,k,t=>by simp[Og,abu b n]
theorem aa7{b:Int}(hb:0 < b):∀n c,∀x∈digs b n c,0<=x/\x < b
 |0,_,x,h=>by simp[digs]at h
 |n+1,c,x,h=>by
  rcases arZ.mp h with rfl|h
  ·exact⟨Int.emod_nonneg _ (by omega),Int.emod_lt_of_pos _ hb⟩
  ·exact aa7 hb n _ x h
theorem adz{b:Int}(hb:0 < b):∀n k t,∀x∈Og b n k t,0<=x/\x < b
 |0,_,_,x,h=>by simp[Og]at h
 |n+1,k,t,x,h=>by
  rcases arZ.mp h with rfl|h
  ·exact⟨Int.emod_nonneg _ (by omega),Int.emod_lt_of_pos _ hb⟩
  ·exact adz hb n _ _ x h
@[simp]theorem abF (c:Int) (n:Nat) (b:Int):(rowOf c n b).length=n:=by
 unfold rowOf
 split
 ·exact YJ ..
 ·exact abu ..
theorem ZS{b:Int}(hb:0 < b)(c:Int)(n:Nat):∀x∈rowOf c n b,0<=x/\x < b:=by
 unfold rowOf
 split
 ·exact aa7 hb _ _
 ·exact adz hb _ _ _
@[simp]theorem ab0 (M:Mo) (ns:List Int) (k:Nat):uZ M [lI ns,.int k]=.ok (.int (ns.getD k 0)):=by
 unfold uZ Yv
 by_cases h:k < ns.length
 ·simp[h,atI,ixN]
 ·simp[h]
theorem YC(M:Mo)(b:Int)(hb:0 < b)(hb2:b < 1073741824):∀(n k:Nat) (c:Int) (x1:Option Cell) (acc:List Dat) (x4 x5:Option Cell),acc.length+n < 100000->∃c' x4',dR (aF 4) U9 ((List.range' k n).map fun(i:Nat)=>PyData.int (i:Int)) M [some (.dat (.int c)),x1,some (.dat (.int b)),some (.mut acc),x4,x5]=.next [c',x1,some (.dat (.int b)),some (.mut (acc++(digs b n c).map .int)),x4',x5] M
 |0,k,c,x1,acc,x4,x5,_=>⟨some (.dat (.int c)),x4,by simp[dR,digs]⟩
 |n+1,k,c,x1,acc,x4,x5,hl=>by
  obtain⟨c',x4',ih⟩:=YC M b hb hb2 n (k+1) (c / b) x1 (acc++[.int (c % b)]) (some (.dat (.int k))) x5 (by simp;omega)
  refine⟨c',x4',?_⟩
  have h1:decide (CDiv c b)=true:=decide_eq_true ⟨hb,hb2⟩
  have hl:acc.length < 100000:=by omega
  rw[List.range'_succ,arN,fj (ρ1:=[some (.dat (.int c)),x1,some (.dat (.int b)),some (.mut acc),some (.dat (.int k)),x5]) (by simp) (ρ2:=[some (.dat (.int (c / b))),x1,some (.dat (.int b)),some (.mut (acc++[.int (c % b)])),some (.dat (.int k)),x5]) (M2:=M) (by simp[U9,h1,hb,hl])]
  rw[ih]
  simp[digs]
theorem aa9(M:Mo)(b:Int)(hb:0 < b):∀(n k:Nat) (t:Int) (x0 x1:Option Cell) (acc:List Dat) (x4:Option Cell),acc.length+n < 100000->∃x4' x5',dR (aF 4) Ur ((List.range' k n).map fun(i:Nat)=>PyData.int (i:Int)) M [x0,x1,some (.dat (.int b)),some (.mut acc),x4,some (.dat (.int t))]=.next [x0,x1,some (.dat (.int b)),some (.mut (acc++(Og b n k t).map .int)),x4',x5'] M
 |0,k,t,x0,x1,acc,x4,_=>⟨x4,some (.dat (.int t)),by simp[dR,Og]⟩
 |n+1,k,t,x0,x1,acc,x4,hl=>by
  obtain⟨x4',x5',ih⟩:=aa9 M b hb n (k+1) ((t * 48271+9973 * k+11) % 2147483647) x0 x1 (acc++[.int ((t * 48271+9973 * k+11) % 2147483647 / 1021 % b)]) (some (.dat (.int k))) (by simp;omega)
  refine⟨x4',x5',?_⟩
  have h1:decide (CMul t 48271)=true:=mul_r (by decide)
  have h2:decide (CMul 9973 (k:Int))=true:=ags (by decide)
  have h3:∀x,decide (CDiv x 1021)=true:=fun x=>decide_eq_true ⟨by decide,by decide⟩
  have hl:acc.length < 100000:=by omega
  rw[List.range'_succ,arN,fj (ρ1:=[x0,x1,some (.dat (.int b)),some (.mut acc),some (.dat (.int k)),some (.dat (.int t))]) (by simp) (ρ2:=[x0,x1,some (.dat (.int b)),some (.mut (acc++[.int ((t * 48271+9973 * k+11) % 2147483647 / 1021 % b)])),some (.dat (.int k)),some (.dat (.int ((t * 48271+9973 * k+11) % 2147483647)))]) (M2:=M) (by simp[Ur,h1,h2,h3,hb,hl])]
  rw[ih]
  simp[Og]
theorem Tf(n:Nat):iH 0 n=(List.range' 0 n).map fun(i:Nat)=>PyData.int (i:Int):=by
 unfold iH
 rw[List.range_eq_range']
 simp
theorem SJ(M:Mo)(c:Int)(n:Nat)(b:Int)(hb:0 < b)(hb2:b < 1073741824)(hn:n<=1000):qM M [.int c,.int n,.int b]=.ok (lI (rowOf c n b)):=by
 unfold qM acz
 have hp:decide (CPow 10 18)=true:=decide_eq_true ⟨by decide,by decide,by decide⟩
 have hn1:(n:Int)<=100000:=by omega
 have hn2 : -100000<=(n:Int):=by omega
 have hm:∀x,decide (CMul x 69621)=true:=fun x=>mul_r (by decide)
 have ea:(if c < 0 then -c else c)=Br c:=rfl
 by_cases h:10 ^ 18<=Br c
 ·obtain⟨c',x4',e⟩:=YC M b hb hb2 n 0 (Br c) (some (.dat (.int n))) [] none none (by simp;omega)
  have e2:rowOf c n b=digs b n (Br c):=if_pos h
  have h':(1000000000000000000:Int)<=Br c:=by simpa using h
  simp[hp,ea,h',hn1,hn2,Tf,e,e2]
 ·obtain⟨x4',x5',e⟩:=aa9 M b hb n 0 ((Br c % 1000003+17) * 69621 % 2147483647) (some (.dat (.int (Br c)))) (some (.dat (.int n))) [] none (by simp;omega)
  have e2:rowOf c n b=Og b n 0 ((Br c % 1000003+17) * 69621 % 2147483647):=if_neg h
  have h':¬(1000000000000000000:Int)<=Br c:=by simpa using h
  have e':=e
  simp[hp,ea,h',hn1,hn2,hm,Tf]at e ⊢
  rw[e]
  simp[e2]
def OD(i j:Int):Int:=if j > i then j else i
def zH(l:List Int)(m:Int):List Int:=if m % 4=1 then l.map fun f=>OD 0 (f - 7) else if m % 4=2 then l.map fun f=>f % 3 else l
theorem Wc(M:Mo)(l:List Int)(m:Int)(hl:l.length<=1000):tH M [lI l,.int m]=.ok (aH (zH l m)):=by
 unfold tH Qz
 have hl':l.length<=50000:=by omega
 have c1:=fu (tg:=aF 2) (te:=aA lU (qC (.int 0)) (aA jX (ao 2) (qC (.int 7)))) (M:=M) (ρ:=[some (.dat (lI l)),some (.dat (.int m)),none]) PyData.int (fun f=>.int (OD 0 (f - 7))) l fun x _=>⟨_,rfl,by simp[OD]⟩
 have c2:=fu (tg:=aF 2) (te:=aA gY (ao 2) (qC (.int 3))) (M:=M) (ρ:=[some (.dat (lI l)),some (.dat (.int m)),none]) PyData.int (fun f=>.int (f % 3)) l fun x _=>⟨_,rfl,by simp⟩
 by_cases h1:m % 4=1
 ·simp[h1,hl',c1,zH,ar5]
 ·by_cases h2:m % 4=2
  ·simp[h2,hl',c2,zH,ar5]
  ·simp[h1,h2,zH]
def BP(c:Int):List Int:=zH ((rowOf c 7 10).take 6) ((rowOf c 7 10).getD 6 0)
theorem afM{α:Type}(l:List α)(n:Nat):Rf.cutD l none (some (n:Int))=l.take n:=by
 unfold Rf.cutD
 rw[HT.sIx_nat]
 simp[HT.sIx]
theorem Pj{α:Type}(l:List α)(n:Nat):Rf.cutD l (some (n:Int)) none=l.drop n:=by
 unfold Rf.cutD
 rw[HT.sIx_nat]
 simp[HT.sIx]
 by_cases h:n<=l.length
 ·rw[Nat.min_eq_left h]
  exact List.take_of_length_le (by simp)
 ·rw[Nat.min_eq_right (by omega),List.drop_eq_nil_of_le (by omega),List.drop_eq_nil_of_le (by omega)]
  simp
theorem ZG(l:List Int)(n:Nat)(h:n < l.length):atI (l.map PyData.int) (n:Int)=some (.int (l.getD n 0)):=atI_nat (by simp[h])
theorem ZW(M:Mo)(c:Int):zK M [.int c]=.ok (aH (BP c)):=by
 unfold zK acM
 have h1:qM M [.int c,.int 7,.int 10]=.ok (.list ((rowOf c 7 10).map .int)):=SJ M c 7 10 (by decide) (by decide) (by decide)
 have h2:Rf.cutD ((rowOf c 7 10).map PyData.int) none (some 6)=((rowOf c 7 10).take 6).map PyData.int:=by
  rw[show(6:Int)=((6:Nat):Int) from rfl,afM,List.map_take]
 have h3:atI ((rowOf c 7 10).map PyData.int) 6=some (.int ((rowOf c 7 10).getD 6 0)):=ZG _ 6 (by simp)
 have h4:tH M [.list (((rowOf c 7 10).take 6).map .int),.int ((rowOf c 7 10).getD 6 0)]=.ok (.tuple ((BP c).map .int)):=Wc M _ _ (by simp)
 generalize (rowOf c 7 10).getD 6 0=z at h3 h4
 generalize ((rowOf c 7 10).take 6).map PyData.int=y at h2 h4
 simp[h1,h2,h3,h4]
theorem Kz(c:Int):(BP c).length=6:=by
 unfold BP zH
 split
 ·simp
 ·split <;> simp
theorem afq{l:List Int}{m:Int}(h:∀x∈l,0<=x/\x < 10):∀x∈zH l m,0<=x/\x < 10:=by
 unfold zH OD
 split
 ·intro x hx
  obtain⟨y,hy,rfl⟩:=arV.mp hx
  have:=h y hy
  split <;> omega
 ·split
  ·intro x hx
   obtain⟨y,hy,rfl⟩:=arV.mp hx
   have:=h y hy
   omega
  ·exact h
mutual
def lk:Nat->Dat->Bool
 |_,.none=>true
 |_,.bool _=>true
 |_,.int _=>true
 |_,.str _=>true
 |n+1,.list ds=>vo n ds
 |n+1,.tuple ds=>vo n ds
 |0,.list _=>false
 |0,.tuple _=>false
 |_,.dict _=>false
def vo:Nat->List Dat->Bool
 |_,[]=>true
 |n,d::ds=>lk n d&&vo n ds
end
theorem v9{n:Nat}:∀{ds:List Dat},vo n ds=true↔∀d∈ds,lk n d=true
 |[]=>by simp[vo]
 |d::ds=>by simp[vo,v9 (ds:=ds)]
@[simp]theorem afc (n:Nat) (l:List Int):vo n (l.map PyData.int)=true:=v9.mpr fun d h=>by
 obtain⟨i,_,rfl⟩:=arV.mp h
 simp[lk]
theorem V6(M:Mo)(i:Int):Hf M [.int i]=.ok (.bool true):=by
 unfold Hf Vi
 simp[yE,Bl]
theorem zip_self(ds:List Dat):xO ds ds=ds.map fun d=>.tuple [d,d]:=by
 unfold xO
 rw[List.zipWith_self]
theorem Lg(M:Mo)(r:Mo->List Dat->Out Dat)(x0 x1:Option Cell):∀(ds:List Dat) (x2 x3:Option Cell),(∀d∈ds,r M [d,d]=.ok (.bool true))->∃x2' x3',dR (bA [2,3]) (Qm r) (ds.map fun d=>PyData.tuple [d,d]) M [x0,x1,x2,x3]=.next [x0,x1,x2',x3'] M
 |[],x2,x3,_=>⟨x2,x3,rfl⟩
 |d::ds,x2,x3,h=>by
  obtain⟨x2',x3',ih⟩:=Lg M r x0 x1 ds (some (.dat d)) (some (.dat d)) fun d hd=>h d (arO _ hd)
  refine⟨x2',x3',?_⟩
  have hd:=h d arP
  rw[arN,fj (ρ1:=[x0,x1,some (.dat d),some (.dat d)]) (by simp) (ρ2:=[x0,x1,some (.dat d),some (.dat d)]) (M2:=M) (by simp[Qm,hd])]
  exact ih
theorem U4(M:Mo):∀(n:Nat) (d:Dat),lk n d=true->lJ (n+1) M [d,d]=.ok (.bool true):=by
 intro n
 induction n with
 |zero=>
  intro d h
  show mQ 4 (Gq (lJ 0)) M [d,d]=_
  unfold Gq
  cases d with
  |none=>simp[jW]
  |bool b=>cases b <;> simp[jW]
  |int i=>simp[jW,yE,Bl,V6]
  |str x=>simp[jW,yE,Bl]
  |list ds=>simp[lk]at h
  |tuple ds=>simp[lk]at h
  |dict kv=>simp[lk]at h
 |succ n ih=>
  intro d h
  show mQ 4 (Gq (lJ (n+1))) M [d,d]=_
  unfold Gq
  cases d with
  |none=>simp[jW]
  |bool b=>cases b <;> simp[jW]
  |int i=>simp[jW,yE,Bl,V6]
  |str x=>simp[jW,yE,Bl]
  |list ds=>
   rw[lk,v9]at h
   obtain⟨x2',x3',e⟩:=Lg M (lJ (n+1)) (some (.dat (.list ds))) (some (.dat (.list ds))) ds none none fun d hd=>ih d (h d hd)
   simp[jW,yE,Bl,zip_self,e]
  |tuple ds=>
   rw[lk,v9]at h
   obtain⟨x2',x3',e⟩:=Lg M (lJ (n+1)) (some (.dat (.tuple ds))) (some (.dat (.tuple ds))) ds none none fun d hd=>ih d (h d hd)
   simp[jW,yE,Bl,zip_self,e]
  |dict kv=>simp[lk]at h
inductive En where
 |torn (p:Nat)|cut (e:List Int)|sold (o:Int) (e:List Int)|moved (g:Int)|followed (o g:Int)|passed (o:Int)|died
def En.dat:En->Dat
 |.torn p=>.tuple [.str "torn",.int p]
 |.cut e=>.tuple [.str "cut",aH e]
 |.sold o e=>.tuple [.str "sold",.int o,aH e]
 |.moved g=>.tuple [.str "moved",.int g]
 |.followed o g=>.tuple [.str "followed",.int o,.int g]
 |.passed o=>.tuple [.str "passed",.int o]
 |.died=>.tuple [.str "died"]
inductive Fi where
 |brought (o g:Int) (e:List Int)|born (m o g:Int)
def Fi.dat:Fi->Dat
 |.brought o g e=>.tuple [.str "brought",.int o,.int g,aH e]
 |.born m o g=>.tuple [.str "born",.int m,.int o,.int g]
structure Sd where
 o:Int
 g:Int
 due:Option (List Int)
 ear:List Int
 al:Bool
def oV:Option (List Int)->Dat
 |none=>.none
 |some e=>aH e
def Sd.dat(s:Sd):Dat:=.tuple [.int s.o,.int s.g,oV s.due,aH s.ear,.bool s.al]
def wY(l:List Int)(p:Nat):List Int:=l.mapIdx fun i x=>if i=p then x+1 else x
def go(s:Sd):En->Sd
 |.torn p=>{ s with ear:=wY s.ear p }
 |.cut e=>{ s with due:=some e,ear:=e }
 |.sold o e=>{ s with o:=o,due:=some e,ear:=e }
 |.moved g=>{ s with g:=g }
 |.followed o g=>{ s with o:=o,g:=g }
 |.passed o=>{ s with o:=o }
 |.died=>{ s with al:=false }
def beg:Fi->Sd
 |.brought o g e=>⟨o,g,none,e,true⟩
 |.born _ o g=>⟨o,g,none,[0,0,0,0,0,0],true⟩
theorem aga(M:Mo)(f:Fi):Cv M [f.dat]=.ok (beg f).dat:=by
 cases f <;> simp[Cv,Nz,Fi.dat,beg,Sd.dat,oV,jC]
theorem aaM(M:Mo)(l:List Int)(p:Nat)(hl:l.length<=1000):wL M [aH l,.int p]=.ok (aH (wY l p)):=by
 unfold wL JC
 have c:lE 0 (l.map PyData.int)=(l.mapIdx fun i x=>(i,x)).map fun(q:Nat×Int)=>PyData.tuple [.int q.1,.int q.2]:=by
  unfold lE
  rw[List.mapIdx_eq_mapIdx_iff.mpr (fun i h=>rfl)]
  apply ase
  intro i
  simp
  cases l[i]? <;> simp
 have c2:=fu (tg:=bA [2,3]) (te:=RW (bh (aA cA (ao 2) (ao 1))) (aA eG (ao 3) (qC (.int 1))) (aq 3)) (M:=M) (ρ:=[some (.dat (aH l)),some (.dat (.int p)),none,none]) (fun(q:Nat×Int)=>PyData.tuple [.int q.1,.int q.2]) (fun q=>.int (if q.1=p then q.2+1 else q.2)) (l.mapIdx fun i x=>(i,x)) fun x _=>⟨[some (.dat (aH l)),some (.dat (.int p)),some (.dat (.int x.1)),some (.dat (.int x.2))],by simp,by
  by_cases h:x.1=p
  ·simp[h]
  ·have h':¬((x.1:Int)=p):=by omega
   simp[h,h']⟩
 have hl':l.length<=50000:=by omega
 simp[c,c2,hl',wY]
 apply ase
 intro i
 simp
 cases l[i]? <;> simp
theorem acG(l:List Int)(p:Nat):(wY l p).length=l.length:=by simp[wY]
theorem gone_ok(M:Mo)(s:Sd)(e:En)(hl:s.ear.length<=1000):Ae M [s.dat,e.dat]=.ok (go s e).dat:=by
 have h:=fun p=>aaM M s.ear p hl
 cases e <;> simp[Ae,K9,En.dat,go,Sd.dat,oV,h]
abbrev Row3:=Int×Int×List Int
def gJ(r:Row3):Dat:=.tuple [.int r.1,.int r.2.1,aH r.2.2]
structure dO where
 fi:Fi
 en:List En
 mo:Int
 sd:Sd
structure aK where
 count:Int
 own:List Int
 al:List Int
 ci:List (List Int)
 held:List Row3
 bs:List dO
structure Lay where
 c:Nat
 g:Nat
 r:Nat
 h:Nat
 bs:List Nat
 fr:List (Nat×Inst)
def aO(L:Lay)(c:aK):Inst:=⟨"Commons",[("owner_count",.dat (.int c.count)),("holders",.dic false (c.own.map fun o=>(.int o,.bool true))),("grounds",.dat (ob L.g)),("rights",.dat (ob L.r)),("herd",.dat (ob L.h))]⟩
def dh(n m:Nat)(c:aK):Inst:=⟨"Grounds",[("allowances",.lst n (c.al.map PyData.int)),("circles",.lst m (c.ci.map aH))]⟩
def nu(c:aK):Inst:=⟨"Rights",[("held",.dic true (c.held.map fun r=>(gJ r,.bool true)))]⟩
def dG(n:Nat)(L:Lay):Inst:=⟨"Herd",[("beasts",.lst n (L.bs.map ob))]⟩
def iB(n:Nat)(b:dO):Inst:=⟨"Beast",[("story",.lst n (b.fi.dat::b.en.map En.dat)),("mother",.dat (.int b.mo)),("owner",.dat (.int b.sd.o)),("ground",.dat (.int b.sd.g)),("due",.dat (oV b.sd.due)),("ear",.dat (aH b.sd.ear)),("alive",.dat (.bool b.sd.al))]⟩
structure At(M:Mo)(L:Lay)(c:aK):Prop where
 hc:M[L.c]?=some (aO L c)
 hg:∃n m,M[L.g]?=some (dh n m c)
 hr:M[L.r]?=some (nu c)
 hh:∃n,M[L.h]?=some (dG n L)
 len:L.bs.length=c.bs.length
 hb:∀(i h:Nat) (b:dO),L.bs[i]?=some h->c.bs[i]?=some b->∃n,M[h]?=some (iB n b)
 nd:(L.c::L.g::L.r::L.h::L.bs).Nodup
 fr:∀p∈L.fr,M[p.1]?=some p.2/\p.1∉L.c::L.g::L.r::L.h::L.bs
section
variable{M:Mo}{L:Lay}{c:aK}(a:At M L c)
include a
theorem abD:pQ M [ob L.g]=.ok (.int c.al.length):=by
 obtain⟨n,m,hg⟩:=a.hg
 simp[pQ,uo,hg,dh]
theorem aln(g:Int):vH M [ob L.g,.int g]=.ok (.bool (decide (1<=g/\g<=c.al.length))):=by
 obtain⟨n,m,hg⟩:=a.hg
 have:=abD a
 by_cases h:1<=g <;> simp[vH,Bj,hg,dh,this,eY,h]
end
@[simp]theorem afN {α:Type} (l:List α) (n:Nat):atI l (n:Int)=l[n]?:=by
 cases h:l[n]? with
 |some a=>exact atI_nat h
 |none=>
  have hl:=List.getElem?_eq_none_iff.mp h
  unfold atI ixN
  rw[if_pos (by omega),if_neg (by omega)]
  rfl
abbrev Vg(c:aK)(x:Int):Prop:=1<=x/\x<=c.al.length
theorem Ak{c:aK}{x:Int}(h:Vg c x):∃k:Nat,k < c.al.length/\x=(k:Int)+1:=⟨(x - 1).toNat,by omega,by omega⟩
structure cU(c:aK):Prop where
 len:c.ci.length=c.al.length
 few:c.al.length<=200
 al:∀x∈c.al,0<=x/\x<=9
 mem:∀(k:Nat) (l:List Int),c.ci[k]?=some l->∀y∈l,Vg c y
 own:∀(k:Nat) (l:List Int),c.ci[k]?=some l->(k:Int)+1∈l
 up:∀(k:Nat) (l:List Int),c.ci[k]?=some l->l.Pairwise (· < ·)
 one:∀(k j:Nat) (l:List Int),c.ci[k]?=some l->(j:Int)+1∈l->c.ci[j]?=some l
def aW(c:aK)(x:Int):List Int:=(c.ci[(x - 1).toNat]?).getD []
def Fy(c:aK)(x:Int):Int:=(c.al[(x - 1).toNat]?).getD 0
def ajH:List Int->Int
 |[]=>0
 |n::ns=>Fp n ns
def roomOf(c:aK)(x:Int):Int:=ajH ((aW c x).map (Fy c))
theorem aeL:∀{l:List Int} {lo hi:Int},l.Pairwise (· < ·)->(∀y∈l,lo<=y/\y<=hi)->(l.length:Int)<=max 0 (hi - lo+1)
 |[],_,_,_,_=>by simp;omega
 |x::l,lo,hi,h,hb=>by
  rw[List.pairwise_cons]at h
  have:=aeL (lo:=x+1) (hi:=hi) h.2 fun y hy=>⟨by have:=h.1 y hy;omega,(hb y (arO _ hy)).2⟩
  have:=hb x arP
  simp
  omega
theorem maxD_ints{l:List Int}(h:l≠[]):maxD (.list (l.map PyData.int))=.ok (.int (ajH l)):=by
 cases l with
 |nil=>exact absurd rfl h
 |cons n ns=>
  show(match intsOf ((n::ns).map PyData.int) with
   |some (n::ns)=>Out.ok (PyData.int (Fp n ns))
   |_=>Out.bad)=_
  rw[wI]
  rfl
theorem cU.clen{c:aK}(i:cU c){k:Nat}{l:List Int}(h:c.ci[k]?=some l):l.length<=200:=by
 have:=aeL (lo:=1) (hi:=c.al.length) (i.up k l h) fun y hy=>i.mem k l h y hy
 have:=i.few
 omega
section
variable{M:Mo}{L:Lay}{c:aK}(a:At M L c)
include a
theorem wu(x:Int):ux M [ob L.g,.int x]=if Vg c x then .ok .none else .exc ⟨"NoGround",[]⟩:=by
 obtain⟨n,m,hg⟩:=a.hg
 have:=aln a x
 by_cases h:Vg c x <;> simp[ux,yV,hg,dh,this,yH,h]
theorem KJ(x:Int):jP M [ob L.g,.int x]=if Vg c x then .ok (.int (Fy c x)) else .exc ⟨"NoGround",[]⟩:=by
 obtain⟨n,m,hg⟩:=a.hg
 have hn:=wu a x
 by_cases h:Vg c x
 ·obtain⟨k,hk,rfl⟩:=Ak h
  rw[if_pos h]at hn ⊢
  simp[jP,m7,hg,dh,hn,aG,Fy,hk]
 ·rw[if_neg h]at hn ⊢
  simp[jP,m7,hg,dh,hn,aG]
theorem vm(i:cU c)(x:Int):lg M [ob L.g,.int x]=if Vg c x then .ok (lI (aW c x)) else .exc ⟨"NoGround",[]⟩:=by
 obtain⟨n,m,hg⟩:=a.hg
 have hn:=wu a x
 by_cases h:Vg c x
 ·obtain⟨k,hk,rfl⟩:=Ak h
  have hk':k < c.ci.length:=by rw[i.len];exact hk
  rw[if_pos h]at hn ⊢
  simp[lg,oJ,hg,dh,hn,aG,aW,hk']
 ·rw[if_neg h]at hn ⊢
  simp[lg,oJ,hg,dh,hn,aG]
theorem ahQ(i:cU c)(x:Int):pP M [ob L.g,.int x]=if Vg c x then .ok (.int (roomOf c x)) else .exc ⟨"NoGround",[]⟩:=by
 obtain⟨n,m,hg⟩:=a.hg
 have hn:=vm a i x
 by_cases h:Vg c x
 ·rw[if_pos h]at hn ⊢
  obtain⟨k,hk,rfl⟩:=Ak h
  have hk':k < c.ci.length:=by rw[i.len];exact hk
  have hc:c.ci[k]?=some (aW c ((k:Int)+1)):=by simp[aW,hk']
  unfold roomOf
  generalize aW c ((k:Int)+1)=l at hc hn ⊢
  have hl:l.length<=50000:=by have:=i.clen hc;omega
  have hne:l.map (Fy c)≠[]:=fun z=>by
   have:=i.own k l hc
   rw[List.map_eq_nil_iff.mp z]at this
   cases this
  have key:=fu (tg:=aF 2) (te:=aV dJ (ao 0) (ak (aq 2) au)) (M:=M) (ρ:=[some (.dat (ob L.g)),some (.dat (.int ((k:Int)+1))),none]) PyData.int (fun y=>.int (Fy c y)) l fun y hy=>⟨[some (.dat (ob L.g)),some (.dat (.int ((k:Int)+1))),some (.dat (.int y))],by simp,by
   have:=KJ a y
   rw[if_pos (i.mem k l hc y hy)]at this
   simp[hg,dh,dJ,this]⟩
  simp[pP,uL,hg,dh,hn,bF,key,hl]
  have:=maxD_ints hne
  rw[asn]at this
  simp[ar5]at this ⊢
  simp[this]
 ·rw[if_neg h]at hn ⊢
  simp[pP,uL,hg,dh,hn,bF]
end
theorem bG{M:Mo}{h k:Nat}{i j:Inst}(hm:M[h]?=some j):(M.set h i)[k]?=if h=k then some i else M[k]?:=by
 have hl:h < M.length:=(arL.mp hm).1
 rw[asR]
 by_cases e:h=k
 ·subst e
  rw[if_pos rfl,if_pos hl,if_pos rfl]
 ·rw[if_neg e,if_neg e]
theorem At.neq{M:Mo}{L:Lay}{c:aK}(a:At M L c):L.c≠L.g/\L.c≠L.r/\L.c≠L.h/\L.g≠L.r/\L.g≠L.h/\L.r≠L.h/\(∀x∈L.bs,L.c≠x/\L.g≠x/\L.r≠x/\L.h≠x)/\L.bs.Nodup:=by
 have nd:=a.nd
 simp only[asQ,arZ,not_or]at nd
 obtain⟨⟨n1,n2,n3,n4⟩,⟨n5,n6,n7⟩,⟨n8,n9⟩,n10,n11⟩:=nd
 exact⟨n1,n2,n3,n5,n6,n8,fun x hx=>⟨fun z=>n4 (z ▸ hx),fun z=>n7 (z ▸ hx),fun z=>n9 (z ▸ hx),fun z=>n10 (z ▸ hx)⟩,n11⟩
theorem At.frS{M:Mo}{L:Lay}{c:aK}(a:At M L c){h:Nat}{i j:Inst}(hm:M[h]?=some j)(hh:h∈L.c::L.g::L.r::L.h::L.bs):∀p∈L.fr,(M.set h i)[p.1]?=some p.2/\p.1∉L.c::L.g::L.r::L.h::L.bs:=fun p hp=>by
 obtain⟨h1,h2⟩:=a.fr p hp
 refine⟨?_,h2⟩
 rw[bG hm,if_neg (fun(z:h=p.1)=>h2 (z ▸ hh))]
 exact h1
theorem At.setG{M:Mo}{L:Lay}{c:aK}(a:At M L c){al:List Int}{ci:List (List Int)}{n m:Nat}:At (M.set L.g (dh n m { c with al:=al,ci:=ci })) L { c with al:=al,ci:=ci }:=by
 obtain⟨n',m',hg⟩:=a.hg
 obtain⟨e1,e2,e3,e4,e5,e6,e7,e8⟩:=a.neq
 have e1':=Ne.symm e1
 refine⟨?_,⟨n,m,?_⟩,?_,?_,a.len,fun i h b h1 h2=>?_,a.nd,a.frS hg (by simp)⟩
 ·rw[bG hg,if_neg e1']
  exact a.hc
 ·rw[bG hg,if_pos rfl]
 ·rw[bG hg,if_neg e4]
  exact a.hr
 ·rw[bG hg,if_neg e5]
  exact a.hh
 ·rw[bG hg,if_neg (e7 h (arR h1)).2.1]
  exact a.hb i h b h1 h2
theorem At.afZ{M:Mo}{L:Lay}{c:aK}(a:At M L c){held:List Row3}:At (M.set L.r (nu { c with held:=held })) L { c with held:=held }:=by
 obtain⟨e1,e2,e3,e4,e5,e6,e7,e8⟩:=a.neq
 have e2':=Ne.symm e2
 have e4':=Ne.symm e4
 have hr:=a.hr
 refine⟨?_,?_,?_,?_,a.len,fun i h b h1 h2=>?_,a.nd,a.frS hr (by simp)⟩
 ·rw[bG hr,if_neg e2']
  exact a.hc
 ·rw[bG hr,if_neg e4']
  exact a.hg
 ·rw[bG hr,if_pos rfl]
 ·rw[bG hr,if_neg e6]
  exact a.hh
 ·rw[bG hr,if_neg (e7 h (arR h1)).2.2.1]
  exact a.hb i h b h1 h2
theorem At.setC{M:Mo}{L:Lay}{c:aK}(a:At M L c){n:Int}{own:List Int}:At (M.set L.c (aO L { c with count:=n,own:=own })) L { c with count:=n,own:=own }:=by
 obtain⟨e1,e2,e3,e4,e5,e6,e7,e8⟩:=a.neq
 have hc:=a.hc
 refine⟨?_,?_,?_,?_,a.len,fun i h b h1 h2=>?_,a.nd,a.frS hc (by simp)⟩
 ·rw[bG hc,if_pos rfl]
 ·rw[bG hc,if_neg e1]
  exact a.hg
 ·rw[bG hc,if_neg e2]
  exact a.hr
 ·rw[bG hc,if_neg e3]
  exact a.hh
 ·rw[bG hc,if_neg (e7 h (arR h1)).1]
  exact a.hb i h b h1 h2
theorem At.setB{M:Mo}{L:Lay}{c:aK}(a:At M L c){k h n:Nat}{b':dO}(hk:L.bs[k]?=some h):At (M.set h (iB n b')) L { c with bs:=c.bs.set k b' }:=by
 obtain⟨e1,e2,e3,e4,e5,e6,e7,e8⟩:=a.neq
 have hl:k < c.bs.length:=by rw[←a.len];exact(arL.mp hk).1
 obtain⟨n0,hb⟩:=a.hb k h _ hk (arM hl)
 obtain⟨q1,q2,q3,q4⟩:=e7 h (arR hk)
 refine⟨?_,?_,?_,?_,by simp[a.len],fun i h2 b h3 h4=>?_,a.nd,a.frS hb (by simp[arR hk])⟩
 ·rw[bG hb,if_neg (Ne.symm q1)]
  exact a.hc
 ·rw[bG hb,if_neg (Ne.symm q2)]
  exact a.hg
 ·rw[bG hb,if_neg (Ne.symm q3)]
  exact a.hr
 ·rw[bG hb,if_neg (Ne.symm q4)]
  exact a.hh
 ·by_cases e:i=k
  ·subst e
   rw[hk]at h3
   cases h3
   have h4:(c.bs.set i b')[i]?=some b:=h4
   rw[ar3 hl]at h4
   cases h4
   exact⟨n,by rw[bG hb,if_pos rfl]⟩
  ·have h4:(c.bs.set k b')[i]?=some b:=h4
   rw[arS (Ne.symm e)]at h4
   have ne:h≠h2:=fun z=>by
    subst z
    exact e ((List.getElem?_inj (arL.mp h3).1 e8).mp (h3.trans hk.symm))
   rw[bG hb,if_neg ne]
   exact a.hb i h2 b h3 h4
theorem At.an7{M:Mo}{L:Lay}{c:aK}(a:At M L c){M2:Mo}{h n n2:Nat}{b:dO}(hh:M.length<=h)(hM:∀k,k < M.length->M2[k]?=M[k]?)(hb:M2[h]?=some (iB n b)):At (M2.set L.h (dG n2 { L with bs:=L.bs++[h] })) { L with bs:=L.bs++[h] } { c with bs:=c.bs++[b] }:=by
 obtain⟨e1,e2,e3,e4,e5,e6,e7,e8⟩:=a.neq
 have lt:∀{k:Nat} {i:Inst},M[k]?=some i->k < M.length:=fun z=>(arL.mp z).1
 obtain⟨n0,m0,hg⟩:=a.hg
 obtain⟨n1,hh1⟩:=a.hh
 have l1:=lt a.hc
 have l2:=lt hg
 have l3:=lt a.hr
 have l4:=lt hh1
 have lb:∀x∈L.bs,x < M.length:=fun x hx=>by
  obtain⟨i,hi,e⟩:=List.mem_iff_getElem.mp hx
  obtain⟨n',z⟩:=a.hb i x _ (by rw[arM hi,e]) (arM (by rw[←a.len];exact hi))
  exact lt z
 have g4:M2[L.h]?=some (dG n1 L):=by rw[hM _ l4];exact hh1
 refine⟨?_,⟨n0,m0,?_⟩,?_,⟨n2,?_⟩,by simp[a.len],fun i h2 b2 h3 h4=>?_,?_,fun p hp=>?_⟩
 ·show(M2.set L.h _)[L.c]?=_
  rw[bG g4,if_neg (Ne.symm e3),hM _ l1]
  exact a.hc
 ·show(M2.set L.h _)[L.g]?=_
  rw[bG g4,if_neg (Ne.symm e5),hM _ l2]
  exact hg
 ·show(M2.set L.h _)[L.r]?=_
  rw[bG g4,if_neg (Ne.symm e6),hM _ l3]
  exact a.hr
 ·show(M2.set L.h _)[L.h]?=_
  rw[bG g4,if_pos rfl]
 ·have h3:(L.bs++[h])[i]?=some h2:=h3
  have h4:(c.bs++[b])[i]?=some b2:=h4
  by_cases hi:i < L.bs.length
  ·rw[arX hi]at h3
   rw[arX (by rw[←a.len];exact hi)]at h4
   have m:=arR h3
   rw[bG g4,if_neg (e7 h2 m).2.2.2,hM _ (lb h2 m)]
   exact a.hb i h2 b2 h3 h4
  ·rw[ar6 (by omega)]at h3
   rw[ar6 (by rw[←a.len];omega),←a.len]at h4
   have e0:i - L.bs.length=0:=by
    have:=(arL.mp h3).1
    simp at this
    omega
   rw[e0]at h3 h4
   cases h3
   cases h4
   exact⟨n,by rw[bG g4,if_neg (by omega)];exact hb⟩
 ·have nd:=a.nd
  show(L.c::L.g::L.r::L.h::(L.bs++[h])).Nodup
  have:(L.c::L.g::L.r::L.h::(L.bs++[h]))=(L.c::L.g::L.r::L.h::L.bs)++[h]:=by simp
  rw[this,asH]
  refine⟨nd,by simp,fun x hx y hy=>?_⟩
  rw[arQ.mp hy]
  rcases arZ.mp hx with rfl|hx
  ·omega
  rcases arZ.mp hx with rfl|hx
  ·omega
  rcases arZ.mp hx with rfl|hx
  ·omega
  rcases arZ.mp hx with rfl|hx
  ·omega
  have:=lb x hx
  omega
 ·obtain⟨h1,h2⟩:=a.fr p hp
  have hl:=lt h1
  refine⟨?_,?_⟩
  ·show(M2.set L.h _)[p.1]?=_
   rw[bG g4,if_neg (fun(z:L.h=p.1)=>h2 (by simp[←z])),hM _ hl]
   exact h1
  ·show p.1∉L.c::L.g::L.r::L.h::(L.bs++[h])
   intro z
   have:p.1∈(L.c::L.g::L.r::L.h::L.bs)++[h]:=by simpa using z
   rcases arW.mp this with z|z
   ·exact h2 z
   ·rw[arQ]at z
    omega
section
variable{M:Mo}{L:Lay}{c:aK}(a:At M L c)
include a
theorem Xf(i:cU c)(hf:c.al.length < 200)(x:Int):if 0<=x/\x<=9 then ∃M',fB M [ob L.g,.int x]=.ok (.int (c.al.length+1)) M'/\At M' L { c with al:=c.al++[x],ci:=c.ci++[[(c.al.length:Int)+1]] } else fB M [ob L.g,.int x]=.exc ⟨"BadAllowance",[]⟩ M:=by
 obtain⟨n,m,hg⟩:=a.hg
 have hl:∀i,(M.set L.g i)[L.g]?=some i:=fun i=>by rw[bG hg,if_pos rfl]
 by_cases h:0<=x/\x<=9
 ·rw[if_pos h]
  refine⟨_,?_,a.setG (n:=n) (m:=m)⟩
  have h2:c.ci.length < 100000:=by rw[i.len];omega
  have h3:c.al.length < 100000:=by omega
  simp[fB,jF,pQ,uo,eY,hg,dh,hl,h,gR,h2,h3]
  rfl
 ·rw[if_neg h]
  have:decide (0<=x)=true->decide (x<=9)=false:=by simp;omega
  by_cases h0:0<=x
  ·have h9:¬x<=9:=by omega
   simp[fB,jF,gR,h0,h9]
  ·simp[fB,jF,gR,h0]
end
def encl(ci:List (List Int))(l:List Int):List (List Int):=l.foldl (fun s y=>s.set (y - 1).toNat l) ci
theorem yQ(l:List Int):∀(k:List Int) (ci:List (List Int)),(k.foldl (fun s y=>s.set (y - 1).toNat l) ci).length=ci.length
 |[],_=>rfl
 |y::k,ci=>by rw[asY,yQ l k];simp
@[simp]theorem anj (n k:Nat):ixN n (k:Int)=if k < n then some k else none:=by
 unfold ixN
 rw[if_pos (by omega)]
 by_cases h:k < n
 ·rw[if_pos (by omega),if_pos h]
  simp
 ·rw[if_neg (by omega),if_neg h]
section
variable{M:Mo}{L:Lay}{c:aK}{n m:Nat}(hg:M[L.g]?=some (dh n m c))
include hg
theorem Vx(l:List Int):∀(k:List Int) (s:List (List Int)) (o:Option Cell),(∀y∈k,1<=y/\y<=s.length)->
  ∃o',dR (aF 3) rG (k.map PyData.int) (M.set L.g (dh n m { c with ci:=s })) [some (.dat (ob L.g)),some (.dat (lI l)),some (.dat (aH l)),o]=.next [some (.dat (ob L.g)),some (.dat (lI l)),some (.dat (aH l)),o'] (M.set L.g (dh n m { c with ci:=k.foldl (fun s y=>s.set (y - 1).toNat l) s }))
 |[],s,o,_=>⟨o,rfl⟩
 |y::k,s,o,h=>by
  have hl:∀i,(M.set L.g i)[L.g]?=some i:=fun i=>by rw[bG hg,if_pos rfl]
  obtain⟨j,hj,rfl⟩:∃j:Nat,j < s.length/\y=(j:Int)+1:=⟨(y - 1).toNat,by have:=h y arP;omega,by have:=h y arP;omega⟩
  obtain⟨o',ih⟩:=Vx l k (s.set j l) (some (.dat (.int ((j:Int)+1)))) fun z hz=>by
   have:=h z (arO _ hz)
   simpa using this
  refine⟨o',?_⟩
  rw[arN,fj (ρ1:=[some (.dat (ob L.g)),some (.dat (lI l)),some (.dat (aH l)),some (.dat (.int ((j:Int)+1)))]) (M2:=M.set L.g (dh n m { c with ci:=s.set j l })) (ρ2:=[some (.dat (ob L.g)),some (.dat (lI l)),some (.dat (aH l)),some (.dat (.int ((j:Int)+1)))]) (by simp) (by simp[rG,hl,dh,hj,List.map_set]),ih]
  simp
end
theorem ZQ{M:Mo}{h:Nat}{i:Inst}(e:M[h]?=some i):M.set h i=M:=by
 apply ase
 intro k
 rw[bG e]
 split
 ·next z=>rw[←z,e]
 ·rfl
section
variable{M:Mo}{L:Lay}{c:aK}(a:At M L c)
include a
theorem Jj(l:List Int)(h:∀y∈l,1<=y/\y<=c.ci.length):∃M',lK M [ob L.g,lI l]=.ok (lI l) M'/\At M' L { c with ci:=encl c.ci l }:=by
 obtain⟨n,m,hg⟩:=a.hg
 obtain⟨o',key⟩:=Vx hg l l c.ci none h
 have e:(dh n m { c with ci:=c.ci })=dh n m c:=rfl
 rw[e,ZQ hg]at key
 refine⟨_,?_,a.setG (n:=n) (m:=m) (al:=c.al)⟩
 simp[lK,uQ,key,encl]
end
theorem any_ints(y:Int)(l:List Int):((l.map PyData.int).any fun d=>PyData.eqv d (.int y))=decide (y∈l):=by
 induction l with
 |nil=>simp
 |cons x l ih=>
  rw[arN,asS,ih,YQ]
  by_cases h:x=y
  ·simp[h]
  ·have:¬y=x:=fun z=>h z.symm
   simp[h,this]
theorem yD(neg:Bool)(y:Int)(l:List Int):inD neg (.int y) (lI l)=.ok (.bool (neg ^^ decide (y∈l))):=by
 show(Out.when (okd 12 (.int y)&&mK 12 (l.map PyData.int)) (.ok ((l.map PyData.int).any fun z=>PyData.eqv z (.int y)))).bind _=_
 rw[any_ints,ahi,Vw]
 rfl
section
variable{M:Mo}{L:Lay}{c:aK}(a:At M L c)
include a
theorem acO(i:cU c)(x y:Int)(hx:Vg c x)(hy:Vg c y):if y∈aW c x then jH M [ob L.g,.int x,.int y]=.exc ⟨"Together",[]⟩ M else
  ∃M',jH M [ob L.g,.int x,.int y]=.ok (lI (sortI (aW c x++aW c y))) M'/\At M' L { c with ci:=encl c.ci (sortI (aW c x++aW c y)) }:=by
 have t1:=vm a i x
 have t2:=vm a i y
 rw[if_pos hx]at t1
 rw[if_pos hy]at t2
 obtain⟨n,m,hg⟩:=a.hg
 have hcx:c.ci[(x - 1).toNat]?=some (aW c x):=by
  obtain⟨k,hk,rfl⟩:=Ak hx
  have hk':k < c.ci.length:=by rw[i.len];exact hk
  simp[aW,hk']
 have hcy:c.ci[(y - 1).toNat]?=some (aW c y):=by
  obtain⟨k,hk,rfl⟩:=Ak hy
  have hk':k < c.ci.length:=by rw[i.len];exact hk
  simp[aW,hk']
 by_cases h:y∈aW c x
 ·rw[if_pos h]
  simp[jH,rQ,hg,dh,bF,t1,t2,yD,h]
 ·rw[if_neg h]
  have hm:∀z∈sortI (aW c x++aW c y),1<=z/\z<=c.ci.length:=fun z hz=>by
   unfold sortI at hz
   rw[List.mem_mergeSort,arW]at hz
   rw[i.len]
   rcases hz with hz|hz
   ·exact i.mem _ _ hcx z hz
   ·exact i.mem _ _ hcy z hz
  obtain⟨M',h1,h2⟩:=Jj a _ hm
  refine⟨M',?_,h2⟩
  have l1:=i.clen hcx
  have l2:=i.clen hcy
  have hs:vN (lI (aW c x++aW c y))=.ok (lI (sortI (aW c x++aW c y))):=by
   show(match intsOf ((aW c x++aW c y).map PyData.int) with
    |some l=>Out.ok (PyData.list ((sortI l).map PyData.int))
    |none=>_)=_
   rw[wI]
  have hz:(aW c x).length+(aW c y).length<=100000:=by omega
  have hs:vN (.list ((aW c x).map PyData.int++(aW c y).map PyData.int))=.ok (lI (sortI (aW c x++aW c y))):=by rw[←List.map_append];exact hs
  simp[jH,rQ,hg,dh,bF,gG,t1,t2,yD,h,hz,hs,h1]
theorem ada(i:cU c)(x:Int):if Vg c x then(if (aW c x).filter (fun y=>!(y==x))=[] then jm M [ob L.g,.int x]=.exc ⟨"Alone",[]⟩ M else
  ∃M',jm M [ob L.g,.int x]=.ok (lI ((aW c x).filter (fun y=>!(y==x)))) M'/\At M' L { c with ci:=encl (encl c.ci [x]) ((aW c x).filter (fun y=>!(y==x))) }) else jm M [ob L.g,.int x]=.exc ⟨"NoGround",[]⟩ M:=by
 have t1:=vm a i x
 obtain⟨n,m,hg⟩:=a.hg
 by_cases hx:Vg c x
 ·rw[if_pos hx]at t1 ⊢
  have hcx:c.ci[(x - 1).toNat]?=some (aW c x):=by
   obtain⟨k,hk,rfl⟩:=Ak hx
   have hk':k < c.ci.length:=by rw[i.len];exact hk
   simp[aW,hk']
  have hl:(aW c x).length<=50000:=by have:=i.clen hcx;omega
  have key:=gq (tg:=aF 3) (tt:=bh (aA rZ (ao 3) (ao 1))) (te:=aq 3) (M:=M) (ρ:=[some (.dat (ob L.g)),some (.dat (.int x)),none,none]) PyData.int (fun y=>!(y==x)) PyData.int (aW c x) fun y _=>⟨[some (.dat (ob L.g)),some (.dat (.int x)),none,some (.dat (.int y))],by simp,by simp,fun _=>by simp⟩
  by_cases he:(aW c x).filter (fun y=>!(y==x))=[]
  ·rw[if_pos he]
   rw[he]at key
   simp only[asU]at key
   simp[jm,pC,hg,dh,bF,t1,key,hl]
  ·rw[if_neg he]
   generalize hL:(aW c x).filter (fun y=>!(y==x))=left at he key
   have hm:∀z∈left,1<=z/\z<=(encl c.ci [x]).length:=fun z hz=>by
    rw[←hL,ar9]at hz
    unfold encl
    rw[yQ,i.len]
    exact i.mem _ _ hcx z hz.1
   obtain⟨M1,h1,a1⟩:=Jj a [x] (fun z hz=>by rw[arQ.mp hz,i.len];exact hx)
   obtain⟨M2,h2,a2⟩:=Jj a1 left hm
   refine⟨M2,?_,a2⟩
   obtain⟨n1,m1,hg1⟩:=a1.hg
   have h1:lK M [ob L.g,.list [.int x]]=.ok (.list [.int x]) M1:=h1
   have he':left.isEmpty=false:=by cases left with
    |nil=>exact absurd rfl he
    |cons _ _=>rfl
   simp[jm,pC,hg,hg1,dh,bF,gG,t1,key,hl,h1,h2,he']
 ·rw[if_neg hx]at t1 ⊢
  simp[jm,pC,hg,dh,bF,t1]
end
theorem ag4(o g:Int)(m:List Int)(o' g':Int)(m':List Int):PyData.eqv (gJ (o,g,m)) (gJ (o',g',m'))=decide ((o,g,m)=(o',g',m')):=by
 simp only[gJ,Yt,abv,YQ,zB,ahC,Bool.and_true]
 by_cases h1:o=o' <;> by_cases h2:g=g' <;> by_cases h3:m=m' <;> simp[h1,h2,h3]
theorem ady(r s:Row3):PyData.eqv (gJ r) (gJ s)=decide (r=s):=ag4 _ _ _ _ _ _
theorem VB:∀l:List Int,xK (l.map PyData.int)=some (l.map NestedKey.num)
 |[]=>rfl
 |i::l=>by rw[arN,xK,VB l];rfl
theorem ajN(r:Row3):sO (gJ r)=some (.tup [.num r.1,.num r.2.1,.tup (r.2.2.map .num)]):=by
 simp[gJ,sO,xK,VB]
theorem depth_ints:∀l:List Int,NestedKey.depthAll (l.map NestedKey.num)<=1
 |[]=>by simp[NestedKey.depthAll]
 |i::l=>by
  have:=depth_ints l
  simp[NestedKey.depthAll,NestedKey.depth]
  omega
theorem Vu(kvs:List (Dat×Dat))(r:Row3):dhas true kvs (gJ r)=.ok (kvs.any fun p=>PyData.eqv p.1 (gJ r)):=by
 have hk:=ajN r
 have hd:NestedKey.depth (.tup [.num r.1,.num r.2.1,.tup (r.2.2.map .num)])<=8:=by
  have:=depth_ints r.2.2
  simp[NestedKey.depth,NestedKey.depthAll]
  omega
 show(match sO (gJ r) with
  |some k=>match decide (k.depth<=8) with
   |true=>Out.ok (kvs.any fun p=>PyData.eqv p.1 (gJ r))
   |false=>.bad
  |none=>.bad)=_
 rw[hk]
 show(match decide (NestedKey.depth (.tup [.num r.1,.num r.2.1,.tup (r.2.2.map .num)])<=8) with
   |true=>Out.ok (kvs.any fun p=>PyData.eqv p.1 (gJ r))
   |false=>.bad)=_
 rw[decide_eq_true hd]
theorem aax(held:List Row3)(r:Row3):((held.map fun r=>(gJ r,PyData.bool true)).any fun p=>PyData.eqv p.1 (gJ r))=decide (r∈held):=by
 induction held with
 |nil=>simp
 |cons s held ih=>
  rw[arN,asS,ih,ady]
  by_cases h:s=r
  ·simp[h]
  ·have:¬r=s:=fun z=>h z.symm
   simp[h,this]
def bQ(c:aK)(o g:Int):List (List Int):=(c.held.filter fun r=>(r.1==o)&&(r.2.1==g)).map fun r=>r.2.2
section
variable{M:Mo}{L:Lay}{c:aK}(a:At M L c)(few:c.held.length<=50000)
include a few
theorem Jr(o g:Int):uJ M [ob L.r,.int o,.int g]=.ok (.list ((bQ c o g).map aH)):=by
 have hr:=a.hr
 have key:=gq (tg:=bA [3,4,5]) (tt:=j5 (bh (aA cA (ao 3) (ao 1))) (bh (aA cA (ao 4) (ao 2)))) (te:=aq 5) (M:=M) (ρ:=[some (.dat (ob L.r)),some (.dat (.int o)),some (.dat (.int g)),none,none,none]) gJ (fun r=>(r.1==o)&&(r.2.1==g)) (fun r=>aH r.2.2) c.held fun r _=>⟨[some (.dat (ob L.r)),some (.dat (.int o)),some (.dat (.int g)),some (.dat (.int r.1)),some (.dat (.int r.2.1)),some (.dat (aH r.2.2))],by simp[gJ],by
  by_cases h:r.1=o <;> simp[h],fun _=>by simp⟩
 have e:(c.held.map fun r=>(gJ r,PyData.bool true)).map (·.1)=c.held.map gJ:=by simp
 simp[uJ,yx,hr,nu,bQ]
 simp[ar5,key,few]
theorem aap(o g:Int):oK M [ob L.r,.int o,.int g]=.ok (.bool (decide (bQ c o g≠[]))):=by
 have hr:=a.hr
 have h:=Jr a few o g
 simp[oK,sW,hr,nu,cJ,h,List.length_pos_iff]
theorem Xh(near:List Int):m9 M [ob L.r,lI near]=.ok (.list ((c.held.filter fun r=>decide (r.2.1∈near)).map fun r=>Ear.rD (r.1,r.2.2))):=by
 have hr:=a.hr
 have key:=gq (tg:=bA [2,3,4]) (tt:=bh (aA (inD false) (ao 3) (ao 1))) (te:=bB (ak (aq 2) (ak (aq 4) au))) (M:=M) (ρ:=[some (.dat (ob L.r)),some (.dat (lI near)),none,none,none]) gJ (fun r=>decide (r.2.1∈near)) (fun r=>Ear.rD (r.1,r.2.2)) c.held fun r _=>⟨[some (.dat (ob L.r)),some (.dat (lI near)),some (.dat (.int r.1)),some (.dat (.int r.2.1)),some (.dat (aH r.2.2))],by simp[gJ],by simp[yD],fun _=>by simp[Ear.rD,Ear.dT]⟩
 simp[m9,rM,hr,nu]
 simp[ar5,key,few]
theorem aaB:o7 M [ob L.r]=.ok (.list (c.held.map gJ)):=by
 have hr:=a.hr
 simp[o7,uW,hr,nu,ar5]
theorem KQ(o g:Int)(m:List Int):if (o,g,m)∈c.held then jg M [ob L.r,.int o,.int g,aH m]=.exc ⟨"HasRight",[]⟩ M else
  ∃M',jg M [ob L.r,.int o,.int g,aH m]=.ok .none M'/\At M' L { c with held:=c.held++[(o,g,m)] }:=by
 have hr:=a.hr
 have h1:=Vu (c.held.map fun r=>(gJ r,PyData.bool true)) (o,g,m)
 rw[aax]at h1
 simp only[gJ]at h1
 have f2:c.held.length < 100000:=by omega
 by_cases h:(o,g,m)∈c.held
 ·rw[if_pos h]
  simp[h]at h1
  simp[jg,oE,hr,nu,gJ,h1]
 ·rw[if_neg h]
  refine⟨_,?_,a.afZ⟩
  simp[h]at h1
  simp[jg,oE,hr,nu,gJ,h1,f2]
end
theorem aef(held:List Row3)(r:Row3):((held.map fun r=>(gJ r,PyData.bool true)).filter fun p=>!PyData.eqv p.1 (gJ r))=(held.filter fun s=>decide (s≠r)).map fun r=>(gJ r,PyData.bool true):=by
 induction held with
 |nil=>rfl
 |cons s held ih=>
  simp only[arN,asz,ady,ih]
  by_cases h:s=r <;> simp[h]
def XD(o g:Int)(k:List (List Int))(s:List Row3):List Row3:=k.foldl (fun s mk=>s.filter fun r=>decide (r≠(o,g,mk))) s
section
variable{M:Mo}{L:Lay}{c:aK}(hr:M[L.r]?=some (nu c))
include hr
theorem W6(o g:Int)(all:List (List Int)):∀(k:List (List Int)) (s:List Row3) (x:Option Cell),k.Nodup->(∀mk∈k,(o,g,mk)∈s)->s.length<=50000->
  ∃x',dR (aF 4) wH (k.map aH) (M.set L.r (nu { c with held:=s })) [some (.dat (ob L.r)),some (.dat (.int o)),some (.dat (.int g)),some (.dat (.list (all.map aH))),x]=.next [some (.dat (ob L.r)),some (.dat (.int o)),some (.dat (.int g)),some (.dat (.list (all.map aH))),x'] (M.set L.r (nu { c with held:=XD o g k s }))
 |[],s,x,_,_,_=>⟨x,rfl⟩
 |mk::k,s,x,nd,h,hf=>by
  have hl:∀i,(M.set L.r i)[L.r]?=some i:=fun i=>by rw[bG hr,if_pos rfl]
  rw[asQ]at nd
  have h1:=Vu (s.map fun r=>(gJ r,PyData.bool true)) (o,g,mk)
  rw[aax,decide_eq_true (h mk arP)]at h1
  have h2:=aef s (o,g,mk)
  have f2:s.length<=100000:=by omega
  obtain⟨x',ih⟩:=W6 o g all k (s.filter fun r=>decide (r≠(o,g,mk))) (some (.dat (aH mk))) nd.2 (fun z hz=>by
   rw[ar9]
   refine⟨h z (arO _ hz),decide_eq_true fun e=>?_⟩
   have:z=mk:=by simpa using e
   exact nd.1 (this ▸ hz)) (asi (ar0 _ _) hf)
  refine⟨x',?_⟩
  rw[arN,fj (ρ1:=[some (.dat (ob L.r)),some (.dat (.int o)),some (.dat (.int g)),some (.dat (.list (all.map aH))),some (.dat (aH mk))]) (M2:=M.set L.r (nu { c with held:=s.filter fun r=>decide (r≠(o,g,mk)) })) (ρ2:=[some (.dat (ob L.r)),some (.dat (.int o)),some (.dat (.int g)),some (.dat (.list (all.map aH))),some (.dat (aH mk))]) (by simp) ?_,ih]
  ·rfl
  ·have h1':dhas true (s.map fun r=>(gJ r,PyData.bool true)) (.tuple [.int o,.int g,aH mk])=.ok true:=h1
   have h2':((s.map fun r=>(gJ r,PyData.bool true)).filter fun p=>!PyData.eqv p.1 (.tuple [.int o,.int g,aH mk]))=(s.filter fun s=>decide (s≠(o,g,mk))).map fun r=>(gJ r,PyData.bool true):=h2
   simp[wH,hl,nu,h1',f2]
   rw[h2']
   simp
end
theorem YB(o g:Int):∀(k:List (List Int)) (s:List Row3),XD o g k s=s.filter fun r=>decide (∀mk∈k,r≠(o,g,mk))
 |[],s=>(as8.mpr (by simp)).symm
 |mk::k,s=>by
  show XD o g k (s.filter _)=_
  rw[YB o g k,ata]
  congr 1
  funext r
  by_cases h1:r=(o,g,mk) <;> simp[h1]
def dropped(c:aK)(o g:Int):List Row3:=c.held.filter fun r=>!((r.1==o)&&(r.2.1==g))
theorem acq(c:aK)(o g:Int):XD o g (bQ c o g) c.held=dropped c o g:=by
 rw[YB]
 unfold dropped
 refine List.filter_congr fun r hr=>?_
 obtain⟨x,y,z⟩:=r
 by_cases h:x=o/\y=g
 ·obtain⟨rfl,rfl⟩:=h
  have:z∈bQ c x y:=by
   unfold bQ
   rw[arV]
   exact⟨(x,y,z),by rw[ar9];exact⟨hr,by simp⟩,rfl⟩
  simp
  exact this
 ·have e:(!((x==o)&&(y==g)))=true:=by
   by_cases h1:x=o <;> by_cases h2:y=g <;> simp_all
  have e2:∀mk∈bQ c o g,(x,y,z)≠(o,g,mk):=fun mk _ z=>by
   simp at z
   exact h ⟨z.1,z.2.1⟩
  rw[e,decide_eq_true e2]
theorem aaZ{c:aK}(h:c.held.Nodup)(o g:Int):(bQ c o g).Nodup:=by
 unfold bQ
 have h1:(c.held.filter fun r=>(r.1==o)&&(r.2.1==g)).Nodup:=h.filter _
 unfold List.Nodup at h1 ⊢
 rw[List.pairwise_map]
 refine List.Pairwise.imp_of_mem (fun {r s} hr hs ne e=>ne ?_) h1
 rw[ar9]at hr hs
 obtain⟨r1,r2,r3⟩:=r
 obtain⟨s1,s2,s3⟩:=s
 have:=hr.2
 have:=hs.2
 simp at *
 obtain⟨rfl,rfl⟩:=hr.2
 obtain⟨rfl,rfl⟩:=hs.2
 exact⟨rfl,rfl,e⟩
section
variable{M:Mo}{L:Lay}{c:aK}(a:At M L c)(few:c.held.length<=50000)(nd:c.held.Nodup)
include a few nd
theorem ag7(o g:Int):if bQ c o g=[] then nJ M [ob L.r,.int o,.int g]=.exc ⟨"NoRight",[]⟩ M else
  ∃M',nJ M [ob L.r,.int o,.int g]=.ok (.list ((bQ c o g).map aH)) M'/\At M' L { c with held:=dropped c o g }:=by
 have hr:=a.hr
 have h1:=Jr a few o g
 by_cases h:bQ c o g=[]
 ·rw[if_pos h]
  rw[h]at h1
  simp[nJ,vC,hr,nu,cJ,h1]
 ·rw[if_neg h]
  obtain⟨x',key⟩:=W6 hr o g (bQ c o g) (bQ c o g) c.held none (aaZ nd o g) (fun mk hm=>by
   unfold bQ at hm
   rw[arV]at hm
   obtain⟨⟨r1,r2,r3⟩,h3,rfl⟩:=hm
   rw[ar9]at h3
   have:=h3.2
   simp at this
   obtain⟨rfl,rfl⟩:=this
   exact h3.1) few
  have e:(nu { c with held:=c.held })=nu c:=rfl
  rw[e,ZQ hr,acq]at key
  refine⟨_,?_,a.afZ⟩
  have he:(bQ c o g).isEmpty=false:=by
   cases hm:bQ c o g with
   |nil=>exact absurd hm h
   |cons _ _=>rfl
  simp[nJ,vC,hr,nu,cJ,h1,he]
  simp[key]
  rfl
end
def FJ(acc:List Row3)(r:Row3):List Row3:=if r∈acc then acc else acc++[r]
def BX(e h:Int)(r:Row3):Row3:=(if r.1=e then h else r.1,r.2.1,r.2.2)
def handed(c:aK)(e h:Int):List Row3:=(c.held.map (BX e h)).foldl FJ []
theorem abl{tg:fU}{tk:QF}{M:Mo}{ρ:Rf.Env}(f:Row3->Row3):∀(xs acc:List Row3),(∀x∈xs,∃ρ1,tg (gJ x) ρ=some ρ1/\tk M ρ1=.ok (gJ (f x)))->Eu tg tk M ρ (xs.map gJ) (acc.map fun r=>(gJ r,PyData.bool true))=.ok (((xs.map f).foldl FJ acc).map fun r=>(gJ r,PyData.bool true))
 |[],acc,_=>rfl
 |x::xs,acc,h=>by
  obtain⟨ρ1,h1,h2⟩:=h x arP
  rw[arN,Eu,h1]
  show((yh (tk M ρ1)).bind fun kd=>(dhas true _ kd).bind fun r=>_)=_
  rw[h2,YK,Out.yO,Vu,aax,Out.yO,arN,asY]
  have ih:=abl f xs (FJ acc (f x)) fun y hy=>h y (arO _ hy)
  unfold FJ at ih ⊢
  by_cases hm:f x∈acc
  ·rw[if_pos hm]at ih ⊢
   rw[decide_eq_true hm]
   exact ih
  ·rw[if_neg hm]at ih ⊢
   rw[decide_eq_false hm]
   rw[List.map_append]at ih
   exact ih
section
variable{M:Mo}{L:Lay}{c:aK}(a:At M L c)(few:c.held.length<=50000)
include a few
theorem Za(e h:Int):∃M',oU M [ob L.r,.int e,.int h]=.ok .none M'/\At M' L { c with held:=handed c e h }:=by
 have hr:=a.hr
 have hl:L.r < M.length:=(arL.mp hr).1
 have hr2:(M++[(⟨"",[]⟩:Inst)])[L.r]?=some (nu c):=by rw[arX hl];exact hr
 have key:=abl (tg:=bA [3,4,5]) (tk:=bB (ak (RW (bh (aA cA (ao 3) (ao 1))) (aq 2) (aq 3)) (ak (aq 4) (ak (aq 5) au)))) (M:=M) (ρ:=[some (.dat (ob L.r)),some (.dat (.int e)),some (.dat (.int h)),none,none,none]) (BX e h) c.held [] fun r _=>⟨[some (.dat (ob L.r)),some (.dat (.int e)),some (.dat (.int h)),some (.dat (.int r.1)),some (.dat (.int r.2.1)),some (.dat (aH r.2.2))],by simp[gJ],by
  by_cases z:r.1=e <;> simp[z,BX,gJ]⟩
 have ex:At (M++[⟨"",[]⟩]) L c:=by
  have lt:∀{k:Nat} {i:Inst},M[k]?=some i->(M++[(⟨"",[]⟩:Inst)])[k]?=some i:=fun z=>by rw[arX (arL.mp z).1];exact z
  obtain⟨n,m,hg⟩:=a.hg
  obtain⟨n1,hh⟩:=a.hh
  exact⟨lt a.hc,⟨n,m,lt hg⟩,lt a.hr,⟨n1,lt hh⟩,a.len,fun i h b h1 h2=>by
   obtain⟨n2,z⟩:=a.hb i h b h1 h2
   exact⟨n2,lt z⟩,a.nd,fun p hp=>⟨lt (a.fr p hp).1,(a.fr p hp).2⟩⟩
 refine⟨_,?_,ex.afZ⟩
 simp only[asU]at key
 simp[oU,tZ,hr,hr2,nu,jZ]
 simp[ar5,key,few,handed]
end
@[simp]theorem aqD (n:Nat) (b:dO):(iB n b).cls="Beast":=rfl
theorem aaG{M:Mo}{h n:Nat}{b:dO}(hb:M[h]?=some (iB n b))(s:Sd):mW M [ob h,s.dat]=.ok .none (M.set h (iB n { b with sd:=s })):=by
 have hl:∀i,(M.set h i)[h]?=some i:=fun i=>by rw[bG hb,if_pos rfl]
 simp[mW,ql,Sd.dat,hb,iB,hl,jZ]
theorem Yr{M:Mo}{h n:Nat}{b:dO}(hb:M[h]?=some (iB n b)):vA M [ob h]=.ok b.sd.dat:=by
 simp[vA,Bh,Sd.dat,hb,iB]
theorem sJ{M:Mo}{h n:Nat}{b:dO}(hb:M[h]?=some (iB n b))(e:En)(he:b.sd.ear.length<=1000)(hf:b.en.length<=50000):mH M [ob h,e.dat]=.ok .none (M.set h (iB n { b with en:=b.en++[e],sd:=go b.sd e })):=by
 have hl:∀i,(M.set h i)[h]?=some i:=fun i=>by rw[bG hb,if_pos rfl]
 have h1:(M.set h (iB n { b with en:=b.en++[e] }))[h]?=some (iB n { b with en:=b.en++[e] }):=hl _
 have h2:=Yr h1
 have h3:=gone_ok (M.set h (iB n { b with en:=b.en++[e] })) b.sd e he
 have h4:=aaG h1 (go b.sd e)
 have h5:b.en.length+1 < 100000:=by omega
 have e1:M.set h ⟨"Beast",[("story",.lst n (b.fi.dat::(b.en.map En.dat++[e.dat]))),("mother",.dat (.int b.mo)),("owner",.dat (.int b.sd.o)),("ground",.dat (.int b.sd.g)),("due",.dat (oV b.sd.due)),("ear",.dat (aH b.sd.ear)),("alive",.dat (.bool b.sd.al))]⟩=M.set h (iB n { b with en:=b.en++[e] }):=by simp[iB]
 simp[mH,yJ,hb,iB,h5]
 rw[e1]
 simp[h1,mj,jJ,h2,h3,h4]
 simp[iB]
def aly:Fi->Int
 |.born m _ _=>m
 |_=>0
def FP(f:Fi):dO:=⟨f,[],aly f,beg f⟩
theorem ahS(M:Mo)(f:Fi):uf (M++[⟨"Beast",[]⟩]) [ob M.length,f.dat]=.ok .none (M++[iB (M.length+1) (FP f),⟨"",[]⟩]):=by
 have hbeg:=fun M=>aga M f
 have hg:∀i (r:List Inst),(M++i::r)[M.length]?=some i:=fun i r=>by simp
 have hs:∀i j (r:List Inst),(M++i::r).set M.length j=M++j::r:=fun i j r=>by simp
 cases f <;> simp[uf,CQ,Fi.dat,hg,hs,jZ,mW,ql,jJ,Cv,Nz,jC,iB,FP,aly,beg,oV,Fi.dat]
def bW(L:Lay)(c:aK):List (Nat×Nat×dO):=(L.bs.zip c.bs).mapIdx fun i p=>(i,p.1,p.2)
def nb(x:Nat×Nat×dO):Dat:=.tuple [.int ((x.1:Int)+1),ob x.2.1]
theorem EY{L:Lay}{c:aK}{x:Nat×Nat×dO}(h:x∈bW L c):L.bs[x.1]?=some x.2.1/\c.bs[x.1]?=some x.2.2:=by
 unfold bW at h
 obtain⟨i,hi,e⟩:=List.mem_mapIdx.mp h
 have hz:=arM hi
 rw[asO]at hz
 subst e
 exact hz
theorem At.hb'{M:Mo}{L:Lay}{c:aK}(a:At M L c){x:Nat×Nat×dO}(h:x∈bW L c):∃n,M[x.2.1]?=some (iB n x.2.2):=by
 obtain⟨h1,h2⟩:=EY h
 exact a.hb _ _ _ h1 h2
theorem At.len'{M:Mo}{L:Lay}{c:aK}(a:At M L c):(bW L c).length=c.bs.length:=by
 unfold bW
 simp[a.len]
theorem At.enum{M:Mo}{L:Lay}{c:aK}(a:At M L c):lE 1 (L.bs.map ob)=(bW L c).map nb:=by
 unfold lE bW
 apply ase
 intro i
 simp only[asy,arY]
 by_cases hi:i < L.bs.length
 ·have hi2:i < c.bs.length:=by rw[←a.len];exact hi
  have hz:(L.bs.zip c.bs)[i]?=some (L.bs[i],c.bs[i]):=by
   rw[asO]
   exact⟨arM hi,arM hi2⟩
  rw[hz]
  simp[hi,nb,Int.add_comm]
 ·have hi2:¬i < c.bs.length:=by rw[←a.len];exact hi
  have:(L.bs.zip c.bs)[i]?=none:=by
   rw[List.getElem?_eq_none_iff,List.length_zip]
   omega
  simp[asl (by omega:L.bs.length<=i),this]
section
variable{M:Mo}{L:Lay}{c:aK}(a:At M L c)(few:c.bs.length<=50000)
include a few
theorem Ba:o9 M [ob L.h]=.ok (.list (((bW L c).filter fun x=>x.2.2.sd.al).map nb)):=by
 obtain⟨n,hh⟩:=a.hh
 have hl:=a.len'
 have he:=a.enum
 have key:=gq (tg:=bA [1,2]) (tt:=iZ (bK "alive" (ao 2))) (te:=bB (ak (aq 1) (ak (aq 2) au))) (M:=M) (ρ:=[some (.dat (ob L.h)),none,none]) nb (fun x=>x.2.2.sd.al) nb (bW L c) fun x hx=>⟨[some (.dat (ob L.h)),some (.dat (.int ((x.1:Int)+1))),some (.dat (ob x.2.1))],by simp[nb],by
  obtain⟨n,hb⟩:=a.hb' hx
  simp[hb,iB],fun _=>by simp[nb]⟩
 simp[o9,uP,hh,dG]
 rw[he]
 simp[key,hl,few]
theorem Td(near:List Int):pB M [ob L.h,lI near]=.ok (.list (((bW L c).filter fun x=>decide (x.2.2.sd.g∈near)&&x.2.2.sd.al).map nb)):=by
 obtain⟨n,hh⟩:=a.hh
 have h1:=Ba a few
 have hl:((bW L c).filter fun x=>x.2.2.sd.al).length<=50000:=asi (ar0 _ _) (by rw[a.len'];exact few)
 have key:=gq (tg:=bA [2,3]) (tt:=bh (aA (inD false) (bK "ground" (ao 3)) (ao 1))) (te:=bB (ak (aq 2) (ak (aq 3) au))) (M:=M) (ρ:=[some (.dat (ob L.h)),some (.dat (lI near)),none,none]) nb (fun x=>decide (x.2.2.sd.g∈near)) nb ((bW L c).filter fun x=>x.2.2.sd.al) fun x hx=>⟨[some (.dat (ob L.h)),some (.dat (lI near)),some (.dat (.int ((x.1:Int)+1))),some (.dat (ob x.2.1))],by simp[nb],by
  obtain⟨n,hb⟩:=a.hb' (ar9.mp hx).1
  simp[hb,iB,yD],fun _=>by simp[nb]⟩
 rw[ata]at key
 simp[pB,yG,hh,dG,dX,h1,key,hl]
theorem afT(o:Int):xq M [ob L.h,.int o]=.ok (.list (((bW L c).filter fun x=>(x.2.2.sd.o==o)&&x.2.2.sd.al).map nb)):=by
 obtain⟨n,hh⟩:=a.hh
 have h1:=Ba a few
 have hl:((bW L c).filter fun x=>x.2.2.sd.al).length<=50000:=asi (ar0 _ _) (by rw[a.len'];exact few)
 have key:=gq (tg:=bA [2,3]) (tt:=bh (aA cA (bK "owner" (ao 3)) (ao 1))) (te:=bB (ak (aq 2) (ak (aq 3) au))) (M:=M) (ρ:=[some (.dat (ob L.h)),some (.dat (.int o)),none,none]) nb (fun x=>x.2.2.sd.o==o) nb ((bW L c).filter fun x=>x.2.2.sd.al) fun x hx=>⟨[some (.dat (ob L.h)),some (.dat (.int o)),some (.dat (.int ((x.1:Int)+1))),some (.dat (ob x.2.1))],by simp[nb],by
  obtain⟨n,hb⟩:=a.hb' (ar9.mp hx).1
  simp[hb,iB],fun _=>by simp[nb]⟩
 rw[ata]at key
 simp[xq,CJ,hh,dG,dX,h1,key,hl]
theorem Y9(k:Int):lA M [ob L.h,.int k]=if 1<=k/\k<=c.bs.length then .ok (ob ((L.bs[(k - 1).toNat]?).getD 0)) else .exc ⟨"NoBeast",[]⟩:=by
 obtain⟨n,hh⟩:=a.hh
 have hlen:(L.bs.length:Int)=c.bs.length:=by rw[a.len]
 by_cases h:1<=k/\k<=c.bs.length
 ·rw[if_pos h]
  obtain⟨j,rfl⟩:∃j:Nat,k=(j:Int)+1:=⟨(k - 1).toNat,by omega⟩
  have hj:j < L.bs.length:=by have:=a.len;omega
  have h1:(1:Int)<=j+1:=by omega
  have h2:(j:Int)+1<=L.bs.length:=by omega
  simp[lA,tG,hh,dG,h1,h2,hj]
 ·rw[if_neg h]
  by_cases h1:1<=k
  ·have h2:¬k<=L.bs.length:=by omega
   simp[lA,tG,hh,dG,h1,h2]
  ·simp[lA,tG,hh,dG,h1]
end
def bk(c:aK)(k:Int):Option dO:=if 1<=k/\k<=c.bs.length then c.bs[(k - 1).toNat]? else none
def hk(L:Lay)(k:Int):Nat:=(L.bs[(k - 1).toNat]?).getD 0
def qT(b:dO)(e:En):dO:={ b with en:=b.en++[e],sd:=go b.sd e }
def gH(c:aK)(i:Nat)(e:En):aK:={ c with bs:=c.bs.modify i fun b=>qT b e }
theorem qX{M:Mo}{L:Lay}{c:aK}(a:At M L c){k:Int}{b:dO}(h:bk c k=some b):1<=k/\k<=c.bs.length/\L.bs[(k - 1).toNat]?=some (hk L k)/\c.bs[(k - 1).toNat]?=some b/\∃n,M[hk L k]?=some (iB n b):=by
 unfold bk at h
 split at h
 ·next hh=>
  have hl:(k - 1).toNat < L.bs.length:=by have:=a.len;omega
  have e:L.bs[(k - 1).toNat]?=some (hk L k):=by
   unfold hk
   rw[arM hl]
   rfl
  exact⟨hh.1,hh.2,e,h,a.hb _ _ _ e h⟩
 ·cases h
theorem ahs{c:aK}{k:Int}(h:bk c k=none):¬(1<=k/\k<=c.bs.length):=fun z=>by
 unfold bk at h
 rw[if_pos z,List.getElem?_eq_none_iff]at h
 omega
section
variable{M:Mo}{L:Lay}{c:aK}(a:At M L c)(few:c.bs.length<=50000)
include a few
theorem Il{k:Int}{b:dO}(h:bk c k=some b):lA M [ob L.h,.int k]=.ok (ob (hk L k)):=by
 obtain⟨h1,h2,_⟩:=qX a h
 rw[Y9 a few,if_pos ⟨h1,h2⟩]
 rfl
theorem QJ{k:Int}(h:bk c k=none):lA M [ob L.h,.int k]=.exc ⟨"NoBeast",[]⟩:=by
 rw[Y9 a few,if_neg (ahs h)]
theorem DG(k:Int):qQ M [ob L.h,.int k]=match bk c k with
  |none=>.exc ⟨"NoBeast",[]⟩
  |some b=>if b.sd.al then .ok (ob (hk L k)) else .exc ⟨"Dead",[]⟩:=by
 obtain⟨n,hh⟩:=a.hh
 cases h:bk c k with
 |none=>
  have h1:=QJ a few h
  simp[qQ,vB,hh,dG,fL,h1]
 |some b=>
  have h1:=Il a few h
  obtain⟨_,_,_,_,n',hb⟩:=qX a h
  cases h2:b.sd.al <;> simp[qQ,vB,hh,dG,fL,h1,hb,iB,h2]
theorem Ly(k:Int):nM M [ob L.h,.int k]=match bk c k with
  |none=>.exc ⟨"NoBeast",[]⟩
  |some b=>if b.sd.al then(if b.sd.due=none then .exc ⟨"Unmarked",[]⟩ else .ok (ob (hk L k))) else .exc ⟨"Dead",[]⟩:=by
 obtain⟨n,hh⟩:=a.hh
 have h0:=DG a few k
 cases h:bk c k with
 |none=>
  rw[h]at h0
  simp[nM,qP,hh,dG,bH,h0]
 |some b=>
  rw[h]at h0
  obtain⟨_,_,_,_,n',hb⟩:=qX a h
  cases h2:b.sd.al with
  |false=>
   simp[h2]at h0
   simp[nM,qP,hh,dG,bH,h0,h2]
  |true=>
   simp[h2]at h0
   cases h3:b.sd.due <;> simp[nM,qP,hh,dG,bH,h0,hb,iB,h2,h3,oV,jW]
def zE(k:Int)(b:dO):Bool:=(b.mo==k)&&b.sd.due.isNone
theorem ac7(k:Int):qN M [ob L.h,.int k]=match bk c k with
  |none=>.exc ⟨"NoBeast",[]⟩
  |some _=>.ok (.list (((bW L c).filter fun x=>zE k x.2.2&&x.2.2.sd.al).map nb)):=by
 obtain⟨n,hh⟩:=a.hh
 have h1:=Ba a few
 have hl:((bW L c).filter fun x=>x.2.2.sd.al).length<=50000:=asi (ar0 _ _) (by rw[a.len'];exact few)
 have key:=gq (tg:=bA [2,3]) (tt:=j5 (bh (aA cA (bK "mother" (ao 3)) (ao 1))) (bh (xM false .none (bK "due" (ao 3))))) (te:=bB (ak (aq 2) (ak (aq 3) au))) (M:=M) (ρ:=[some (.dat (ob L.h)),some (.dat (.int k)),none,none]) nb (fun x=>zE k x.2.2) nb ((bW L c).filter fun x=>x.2.2.sd.al) fun x hx=>⟨[some (.dat (ob L.h)),some (.dat (.int k)),some (.dat (.int ((x.1:Int)+1))),some (.dat (ob x.2.1))],by simp[nb],by
  obtain⟨n,hb⟩:=a.hb' (ar9.mp hx).1
  by_cases h2:x.2.2.mo=k <;> cases h3:x.2.2.sd.due <;> simp[hb,iB,zE,h2,h3,oV,jW],fun _=>by simp[nb]⟩
 rw[ata]at key
 cases h:bk c k with
 |none=>
  have h2:=QJ a few h
  simp[qN,vD,hh,dG,fL,h2]
 |some b=>
  have h2:=Il a few h
  simp[qN,vD,hh,dG,fL,dX,h1,h2,key,hl]
theorem Lf(f:Fi)(hf:c.bs.length < 50000):∃M' h,qw M [ob L.h,f.dat]=.ok (.int (c.bs.length+1)) M'/\At M' { L with bs:=L.bs++[h] } { c with bs:=c.bs++[FP f] }:=by
 obtain⟨n,hh⟩:=a.hh
 have hl:L.h < M.length:=(arL.mp hh).1
 have hi:=ahS M f
 have hh2:(M++[iB (M.length+1) (FP f),⟨"",[]⟩])[L.h]?=some (dG n L):=by rw[arX hl];exact hh
 have hs:∀i,((M++[iB (M.length+1) (FP f),(⟨"",[]⟩:Inst)]).set L.h i)[L.h]?=some i:=fun i=>by rw[bG hh2,if_pos rfl]
 have hz:c.bs.length < 100000:=by omega
 refine⟨_,M.length,?_,a.an7 (M2:=M++[iB (M.length+1) (FP f),⟨"",[]⟩]) (n:=M.length+1) (n2:=n) (ash _) (fun k hk=>by rw[arX hk]) (by simp)⟩
 simp[qw,vR,hh,dG,hi,hh2,hs,hz,a.len]
end
theorem yR{M:Mo}{L:Lay}{c:aK}(a:At M L c){i h n:Nat}{b:dO}{e:En}(h1:L.bs[i]?=some h)(h2:c.bs[i]?=some b):At (M.set h (iB n (qT b e))) L (gH c i e):=by
 have:=a.setB (n:=n) (b':=qT b e) h1
 have hm:c.bs.modify i (fun b=>qT b e)=c.bs.set i (qT b e):=by
  apply ase
  intro j
  rw[List.getElem?_modify,asR]
  by_cases hj:i=j
  ·subst hj
   have hl:=(arL.mp h2).1
   simp[hl,h2]
   have:=(arL.mp h2).2
   rw[this]
  ·simp[hj]
 unfold gH
 rw[hm]
 exact this
theorem yC(c:aK)(i j:Nat)(e:En):(gH c i e).bs[j]?=if i=j then(c.bs[j]?).map fun b=>qT b e else c.bs[j]?:=by
 unfold gH
 simp only[List.getElem?_modify]
 by_cases h:i=j <;> simp[h]
def vf(xs:List (Nat×Nat×dO))(e:En)(c:aK):aK:=xs.foldl (fun c x=>gH c x.1 e) c
theorem PB{tg:fU}{body:SF}(Q:Rf.Env->Prop)(P:Nat->aK->Prop)(e:En)(L:Lay)(T:Nat):∀(xs:List (Nat×Nat×dO)) (M:Mo) (c:aK) (ρ:Rf.Env) (i:Nat),i+xs.length<=T->At M L c->P i c->Q ρ->
  (∀M c ρ x i,i < T->At M L c->P i c->Q ρ->x∈xs->∃ρ1 ρ2 M2,tg (nb x) ρ=some ρ1/\body M ρ1=.next ρ2 M2/\Q ρ2/\At M2 L (gH c x.1 e)/\P (i+1) (gH c x.1 e))->
  ∃ρ' M',dR tg body (xs.map nb) M ρ=.next ρ' M'/\Q ρ'/\At M' L (vf xs e c)
 |[],M,c,ρ,i,_,a,p,q,_=>⟨ρ,M,rfl,q,a⟩
 |x::xs,M,c,ρ,i,hT,a,p,q,h=>by
  rw[arU]at hT
  obtain⟨ρ1,ρ2,M2,h1,h2,h3,h4,h5⟩:=h M c ρ x i (by omega) a p q arP
  obtain⟨ρ',M',g1,g2,g3⟩:=PB Q P e L T xs M2 _ ρ2 (i+1) (by omega) h4 h5 h3 fun M c ρ y i hi a p q hy=>h M c ρ y i hi a p q (arO _ hy)
  exact⟨ρ',M',by rw[arN,fj h1 h2];exact g1,g2,g3⟩
structure Ku(n:Nat)(c:aK):Prop where
 ear:∀b∈c.bs,b.sd.ear.length=6
 en:∀b∈c.bs,b.en.length<=n
theorem ajZ(s:Sd)(e:En)(he:s.ear.length=6)(h2:match e with|.cut l=>l.length=6|.sold _ l=>l.length=6|_=>True):(go s e).ear.length=6:=by
 cases e <;> simp_all [go,wY]
theorem QM(e:En):∀(xs:List (Nat×Nat×dO)) (c:aK) (j:Nat),(xs.map (·.1)).Nodup->(vf xs e c).bs[j]?=if j∈xs.map (·.1) then(c.bs[j]?).map fun b=>qT b e else c.bs[j]?
 |[],c,j,_=>by simp[vf]
 |x::xs,c,j,nd=>by
  rw[arN,asQ]at nd
  show(vf xs e (gH c x.1 e)).bs[j]?=_
  rw[QM e xs _ j nd.2,yC]
  by_cases h1:x.1=j
  ·subst h1
   rw[if_neg nd.1,if_pos rfl,if_pos (by simp)]
  ·rw[if_neg h1]
   by_cases h2:j∈xs.map (·.1)
   ·rw[if_pos h2,if_pos (by rw[arN];exact arO _ h2)]
   ·rw[if_neg h2,if_neg (by
     rw[arN,arZ]
     rintro(z|z)
     ·exact h1 z.symm
     ·exact h2 z)]
theorem Om(e:En):∀(xs:List (Nat×Nat×dO)) (c:aK),(vf xs e c)={ c with bs:=(vf xs e c).bs }
 |[],_=>rfl
 |x::xs,c=>by
  show vf xs e (gH c x.1 e)={ c with bs:=(vf xs e (gH c x.1 e)).bs }
  rw[Om e xs]
  rfl
theorem ae7{L:Lay}{c:aK}(p:Nat×Nat×dO->Bool):(((bW L c).filter p).map (·.1)).Nodup:=by
 have h:((bW L c).map (·.1)).Nodup:=by
  have e:(bW L c).map (·.1)=List.range (L.bs.zip c.bs).length:=by
   unfold bW
   apply ase
   intro i
   simp only[arY,asy]
   by_cases hi:i < (L.bs.zip c.bs).length
   ·rw[arM hi,List.getElem?_range hi]
    rfl
   ·rw[asl (by omega:(L.bs.zip c.bs).length<=i),asl (by rw[List.length_range];omega:(List.range (L.bs.zip c.bs).length).length<=i)]
    rfl
  rw[e]
  exact List.nodup_range
 exact h.sublist (List.Sublist.map _ List.filter_sublist)
def oR(p:dO->Bool)(e:En)(c:aK):aK:={ c with bs:=c.bs.map fun b=>if p b then qT b e else b }
theorem W7{M:Mo}{L:Lay}{c:aK}(a:At M L c)(p:dO->Bool)(e:En):vf ((bW L c).filter fun x=>p x.2.2) e c=oR p e c:=by
 rw[Om]
 unfold oR
 congr 1
 apply ase
 intro j
 rw[QM _ _ _ _ (ae7 _),arY]
 by_cases hj:j < c.bs.length
 ·have hb:=arM hj
  rw[hb]
  have hl:j < L.bs.length:=by rw[a.len];exact hj
  have mem:(j,L.bs[j],c.bs[j])∈bW L c:=by
   unfold bW
   rw[List.mem_mapIdx]
   refine⟨j,by simp;omega,by simp⟩
  by_cases hp:p c.bs[j]=true
  ·have:j∈((bW L c).filter fun x=>p x.2.2).map (·.1):=arV.mpr ⟨_,ar9.mpr ⟨mem,hp⟩,rfl⟩
   rw[if_pos this]
   simp[hp]
  ·have:j∉((bW L c).filter fun x=>p x.2.2).map (·.1):=fun z=>by
    obtain⟨x,h1,h2⟩:=arV.mp z
    obtain⟨h3,h4⟩:=ar9.mp h1
    obtain⟨_,h5⟩:=EY h3
    rw[h2,hb]at h5
    rw[←ar8 h5]at h4
    exact hp h4
   rw[if_neg this]
   simp[hp]
 ·rw[asl (by omega:c.bs.length<=j)]
  simp
theorem Ku.step{n:Nat}{c:aK}(bi:Ku n c)(i:Nat)(e:En)(h2:match e with|.cut l=>l.length=6|.sold _ l=>l.length=6|_=>True):Ku (n+1) (gH c i e):=by
 have key:∀b∈(gH c i e).bs,b∈c.bs∨∃b0∈c.bs,b=qT b0 e:=fun b hb=>by
  obtain⟨j,hj⟩:=List.mem_iff_getElem?.mp hb
  rw[yC]at hj
  split at hj
  ·obtain⟨b0,h3,h4⟩:=asM.mp hj
   exact .inr ⟨b0,arR h3,h4.symm⟩
  ·exact .inl (arR hj)
 refine⟨fun b hb=>?_,fun b hb=>?_⟩
 ·rcases key b hb with h|⟨b0,h,rfl⟩
  ·exact bi.ear b h
  ·exact ajZ _ _ (bi.ear b0 h) h2
 ·rcases key b hb with h|⟨b0,h,rfl⟩
  ·have:=bi.en b h
   omega
  ·have:=bi.en b0 h
   simp[qT]
   omega
section
variable{M:Mo}{L:Lay}{c:aK}(a:At M L c)(few:c.bs.length<=1000){n:Nat}(bi:Ku n c)(hn:n<=40000)
include a few bi hn
theorem Gk(k:Int){b:dO}(hk':bk c k=some b):∃M',oH M [ob L.h,.int k]=.ok .none M'/\At M' L (oR (fun x=>zE k x&&x.sd.al) (.followed b.sd.o b.sd.g) c):=by
 obtain⟨m,hh⟩:=a.hh
 have few2:c.bs.length<=50000:=by omega
 have h1:=Il a few2 hk'
 have h2:=ac7 a few2 k
 rw[hk']at h2
 obtain⟨k1,k2,k3,k4,k5⟩:=qX a hk'
 have hlen:((bW L c).filter fun x=>zE k x.2.2&&x.2.2.sd.al).length<=1000:=asi (ar0 _ _) (by rw[a.len'];exact few)
 obtain⟨ρ',M',g1,g2,g3⟩:=PB (tg:=bA [3,4]) (body:=qH) (fun ρ=>∃x y,ρ=[some (.dat (ob L.h)),some (.dat (.int k)),some (.dat (ob (hk L k))),x,y])
  (fun i c1=>(∃b1,c1.bs[(k - 1).toNat]?=some b1/\b1.sd.o=b.sd.o/\b1.sd.g=b.sd.g)/\Ku (n+i) c1/\c1.bs.length=c.bs.length) (.followed b.sd.o b.sd.g) L 1000 ((bW L c).filter fun x=>zE k x.2.2&&x.2.2.sd.al) M c [some (.dat (ob L.h)),some (.dat (.int k)),some (.dat (ob (hk L k))),none,none] 0 (by omega) a ⟨⟨b,k4,rfl,rfl⟩,bi,rfl⟩ ⟨none,none,rfl⟩ (fun M1 c1 ρ x i hi a1 p1 q1 hx=>by
   obtain⟨⟨bm,m1,m2,m3⟩,bi1,l1⟩:=p1
   obtain⟨x0,y0,rfl⟩:=q1
   obtain⟨nm,hm⟩:=a1.hb _ _ _ k3 m1
   obtain⟨e1,e2⟩:=EY (ar9.mp hx).1
   have hl:x.1 < c1.bs.length:=by rw[l1];exact(arL.mp e2).1
   have e3:=arM hl
   obtain⟨nx,hx1⟩:=a1.hb _ _ _ e1 e3
   have mem:=asB hl
   have hb:=sJ hx1 (.followed b.sd.o b.sd.g) (by rw[bi1.ear _ mem];decide) (by have:=bi1.en _ mem;omega)
   refine⟨[some (.dat (ob L.h)),some (.dat (.int k)),some (.dat (ob (hk L k))),some (.dat (.int ((x.1:Int)+1))),some (.dat (ob x.2.1))],[some (.dat (ob L.h)),some (.dat (.int k)),some (.dat (ob (hk L k))),some (.dat (.int ((x.1:Int)+1))),some (.dat (ob x.2.1))],_,by simp[nb],?_,⟨_,_,rfl⟩,yR (n:=nx) a1 e1 e3,?_,bi1.step _ _ trivial,by simp[gH,l1]⟩
   ·have hb:mH M1 [ob x.2.1,.tuple [.str "followed",.int b.sd.o,.int b.sd.g]]=_:=hb
    simp[qH,hx1,hm,bL]
    simp[iB]at hb ⊢
    simp[m2,m3,hb,qT]
   ·rw[yC,m1]
    by_cases z:x.1=(k - 1).toNat
    ·exact⟨qT bm (.followed b.sd.o b.sd.g),by rw[if_pos z];rfl,rfl,rfl⟩
    ·exact⟨bm,by rw[if_neg z],m2,m3⟩)
 rw[W7 a (fun x=>zE k x&&x.sd.al)]at g3
 refine⟨M',?_,g3⟩
 simp[oH,tO,hh,dG,fL,yS,h1,h2,g1]
end
def pD(p:Int×Int):Dat:=.tuple [.int p.1,.int p.2]
theorem yP:∀(x y:List Int),xO (x.map PyData.int) (y.map PyData.int)=(x.zip y).map pD
 |[],_=>by simp[xO]
 |_::_,[]=>by simp[xO]
 |a::x,b::y=>by
  have:=yP x y
  unfold xO at this ⊢
  rw[arN,arN,List.zipWith_cons_cons,this,asV,arN]
  rfl
def u6(x y:List Int):Int:=(((x.zip y).filter fun p=>decide (p.1 < p.2)).map fun p=>p.2 - p.1).sum
def iT(x y:List Int):Int:=if u6 y x > u6 x y then u6 y x else u6 x y
def fG(x y:List Int):List Int:=(x.zip y).map fun p=>if p.2 > p.1 then p.2 else p.1
theorem ahM(x y:List Int)(h:x.length<=1000):(x.zip y).length<=50000:=by
 rw[List.length_zip]
 omega
theorem V3(l:List Int):U5 (.list (l.map PyData.int))=.ok (.int l.sum):=by
 show(match intsOf (l.map PyData.int) with
  |some ns=>Out.ok (PyData.int ns.sum)
  |none=>.bad)=_
 rw[wI]
theorem Qn(M:Mo)(x y:List Int)(h:x.length<=1000):uw M [aH x,aH y]=.ok (.int (u6 x y)):=by
 have key:=gq (tg:=bA [2,3]) (tt:=bh (aA Zy (ao 3) (ao 2))) (te:=aA jX (ao 3) (ao 2)) (M:=M) (ρ:=[some (.dat (aH x)),some (.dat (aH y)),none,none]) pD (fun p=>decide (p.1 < p.2)) (fun p=>.int (p.2 - p.1)) (x.zip y) fun p _=>⟨[some (.dat (aH x)),some (.dat (aH y)),some (.dat (.int p.1)),some (.dat (.int p.2))],by simp[pD],by simp,fun _=>by simp⟩
 have hz:=ahM x y h
 have hs:=V3 (((x.zip y).filter fun p=>decide (p.1 < p.2)).map fun p=>p.2 - p.1)
 rw[asn]at hs
 have hz2:min x.length y.length<=50000:=by omega
 simp[uw,Uz,yP,key,hz2]
 simp[ar5]at hs
 simp[hs,u6]
theorem afn(M:Mo)(x y:List Int)(h:x.length<=1000)(h2:y.length<=1000):HS M [aH x,aH y]=.ok (.int (iT x y)):=by
 simp[HS,Ve,Qn M x y h,Qn M y x h2,iT]
theorem T7(M:Mo)(x y:List Int)(r:Int)(h:x.length<=1000)(h2:y.length<=1000):qR M [aH x,aH y,.int r]=.ok (.bool (decide (iT x y<=r))):=by
 simp[qR,Yz,afn M x y h h2]
theorem JB(M:Mo)(x y:List Int)(h:x.length<=1000):pq M [aH x,aH y]=.ok (aH (fG x y)):=by
 have key:=fu (tg:=bA [2,3]) (te:=aA lU (ao 2) (ao 3)) (M:=M) (ρ:=[some (.dat (aH x)),some (.dat (aH y)),none,none]) pD (fun p=>.int (if p.2 > p.1 then p.2 else p.1)) (x.zip y) fun p _=>⟨[some (.dat (aH x)),some (.dat (aH y)),some (.dat (.int p.1)),some (.dat (.int p.2))],by simp[pD],by simp⟩
 have hz2:min x.length y.length<=50000:=by omega
 simp[pq,Ud,yP,key,hz2,fG]
abbrev Rw:=Ear.Rw
theorem Kl:∀R:List Rw,BZ (R.map Ear.rD)=some R
 |[]=>rfl
 |r::R=>by
  rw[arN,BZ,Kl R]
  have:ab6 (Ear.rD r)=some r:=by
   unfold Ear.rD Ear.dT
   show(intsOf (r.2.map PyData.int)).map _=_
   rw[wI]
   rfl
  rw[this]
  rfl
theorem Mz(M:Mo)(R:List Rw)(h:R.eraseDups.length<=76):qG M [.list (R.map Ear.rD)]=.ok (.list ((bM R).map Ear.rD)):=by
 have:Tn (.list (R.map Ear.rD))=.ok (.list ((bM R).map Ear.rD)):=by
  show(match BZ (R.map Ear.rD) with
   |some R=>match decide (R.eraseDups.length<=76) with
    |true=>Out.ok (PyData.list ((bM R).map Ear.rD))
    |false=>.bad
   |none=>.bad)=_
  rw[Kl]
  show(match decide (R.eraseDups.length<=76) with
    |true=>Out.ok (PyData.list ((bM R).map Ear.rD))
    |false=>.bad)=_
  rw[decide_eq_true h]
 simp[qG,Qt,this]
theorem tD(R:List Rw):(bM R).length=R.eraseDups.length:=by
 unfold bM oZ
 rw[List.length_mergeSort]
def Bp(o:Int)(e:List Int)(R:List Rw)(room:Int):List Rw:=(bM R).filter fun r=>!(r.1==o)&&decide (iT e r.2<=room)
def qI(R:List Rw):Prop:=∀r∈R,r.2.length=6
theorem acC(M:Mo)(o:Int)(e:List Int)(R:List Rw)(room:Int)(he:e.length=6)(hR:qI R)(h:R.eraseDups.length<=76):Ac M [.int o,aH e,.list (R.map Ear.rD),.int room]=.ok (.list ((Bp o e R room).map Ear.rD)):=by
 have ht:=Mz M R h
 have hl:(bM R).length<=50000:=by rw[tD];omega
 have key:=gq (tg:=bA [4,5]) (tt:=j5 (bh (aA rZ (ao 4) (ao 0))) (iZ (aU qR (ak (aq 1) (ak (aq 5) (ak (aq 3) au)))))) (te:=bB (ak (aq 4) (ak (aq 5) au))) (M:=M) (ρ:=[some (.dat (.int o)),some (.dat (aH e)),some (.dat (.list (R.map Ear.rD))),some (.dat (.int room)),none,none]) Ear.rD (fun r=>!(r.1==o)&&decide (iT e r.2<=room)) Ear.rD (bM R) fun r hr=>⟨[some (.dat (.int o)),some (.dat (aH e)),some (.dat (.list (R.map Ear.rD))),some (.dat (.int room)),some (.dat (.int r.1)),some (.dat (aH r.2))],by simp[Ear.rD,Ear.dT],by
  have:=T7 M e r.2 room (by omega) (by rw[hR r (eO.mp hr)];decide)
  by_cases hz:r.1=o <;> simp[this,hz],fun _=>by simp[Ear.rD,Ear.dT]⟩
 simp[Ac,KC,ht,key,hl,Bp]
theorem Ov(M:Mo)(o:Int)(e:List Int)(R:List Rw)(room:Int)(he:e.length=6)(hR:qI R)(h:R.eraseDups.length<=76):nZ M [.int o,aH e,.list (R.map Ear.rD),.int room]=match Bp o e R room with
  |[]=>.ok .none
  |r::_=>.exc ⟨"Clash",[("ear",aH (fG e r.2)),("others",Ear.rD r),("ones",Ear.rD (o,e))]⟩:=by
 have hb:=acC M o e R room he hR h
 cases hx:Bp o e R room with
 |nil=>
  rw[hx]at hb
  simp[nZ,BL,hb]
 |cons r rs=>
  rw[hx]at hb
  have hj:=JB M e r.2 (by omega)
  simp[nZ,BL,hb]
  simp[Ear.rD,Ear.dT,hj]
theorem Jb{α β:Type}{tg tg1:fU}{tt tt1:QT}{it1:IF}{vs1:List Nat}{te:QF}{M:Mo}{ρ:Rf.Env}(ds:α->Dat)(ys:α->List β)(ds1:β->Dat)(p:α->β->Bool)(f:α->β->Dat):∀(xs:List α),(∀x∈xs,∃ρ1,tg (ds x) ρ=some ρ1/\tt M ρ1=.ok true/\zG ρ1=true/\it1 M ρ1=.ok ((ys x).map ds1)/\∀y∈ys x,∃ρ2,tg1 (ds1 y) (bZ ρ1 vs1)=some ρ2/\tt1 M ρ2=.ok (p x y)/\(p x y=true->te M ρ2=.ok (f x y)))->
  gW tg tt it1 tg1 vs1 tt1 te M ρ (xs.map ds)=.ok (xs.flatMap fun x=>((ys x).filter (p x)).map (f x))
 |[],_=>rfl
 |x::xs,h=>by
  obtain⟨ρ1,h1,h2,h3,h4,h5⟩:=h x arP
  have ih:=Jb ds ys ds1 p f xs fun y hy=>h y (arO _ hy)
  have hc:=gq (tg:=tg1) (tt:=tt1) (te:=te) (M:=M) (ρ:=bZ ρ1 vs1) ds1 (p x) (f x) (ys x) h5
  rw[arN,gW,h1]
  show((yh (tt M ρ1)).bind fun b=>if b=true then Out.when (zG ρ1) ((yh (it1 M ρ1)).bind fun es=>(dD tg1 tt1 te M (bZ ρ1 vs1) es).bind fun r1=>(gW tg tt it1 tg1 vs1 tt1 te M ρ (xs.map ds)).bind fun r=>Out.ok (r1++r)) else gW tg tt it1 tg1 vs1 tt1 te M ρ (xs.map ds))=_
  rw[h2,YK,Out.yO,if_pos rfl,h3,Out.Wb,h4,YK,Out.yO,hc,Out.yO,ih,Out.yO,List.flatMap_cons]
def cY(x:List Int):Bool:=decide (x.length=6)&&x.all fun d=>decide (0<=d)&&decide (d<=9)
theorem Ew(l:List Bool):uh (l.map PyData.bool)=some l:=by
 induction l with
 |nil=>rfl
 |cons b l ih=>rw[arN,uh,ih];rfl
theorem WK(M:Mo)(x:List Int)(h:x.length<=1000):sU M [aH x]=.ok (.bool (cY x)):=by
 have key:=fu (tg:=aF 1) (te:=Tg (mO tV tV (qC (.int 0)) (ao 1) (qC cR))) (M:=M) (ρ:=[some (.dat (aH x)),none]) PyData.int (fun d=>.bool (decide (0<=d)&&decide (d<=9))) x fun d _=>⟨[some (.dat (aH x)),some (.dat (.int d))],by simp,by
  by_cases h0:0<=d <;> simp[h0,cR]⟩
 have ha:Qp (.list (x.map fun d=>PyData.bool (decide (0<=d)&&decide (d<=9))))=.ok (.bool (x.all fun d=>decide (0<=d)&&decide (d<=9))):=by
  have e:(x.map fun d=>PyData.bool (decide (0<=d)&&decide (d<=9)))=(x.map fun d=>decide (0<=d)&&decide (d<=9)).map PyData.bool:=by rw[asn];rfl
  rw[e]
  show(match uh _ with
   |some bs=>Out.ok (PyData.bool (bs.all id))
   |none=>.bad)=_
  rw[Ew]
  simp[List.all_map,ar5]
 have hl:x.length<=50000:=by omega
 by_cases h6:x.length=6
 ·have h6':((x.length:Int)==6)=true:=by simp[h6]
  simp[sU,IW,iW,key,hl,ha,cY,h6]
 ·have h6':¬(x.length:Int)=6:=by omega
  simp[sU,IW,iW,cY,h6,h6']
theorem Oe(M:Mo)(x:List Int)(h:x.length<=1000):qd M [aH x]=if cY x then .ok .none else .exc ⟨"BadEar",[]⟩:=by
 have:=WK M x h
 cases hb:cY x <;> simp[qd,Jd,this,hb]
def pairD(p:Rw×Rw):Dat:=.tuple [Ear.rD p.1,Ear.rD p.2]
def jh(T:List Rw)(room:Int):List (Rw×Rw):=(T.mapIdx fun i r=>(i,r)).flatMap fun x=>((T.drop (x.1+1)).filter fun s=>!(x.2.1==s.1)&&decide (iT x.2.2 s.2<=room)).map fun s=>(x.2,s)
theorem aaL(T:List Rw)(room:Int):(jh T room).length<=T.length * T.length:=by
 unfold jh
 rw[List.length_flatMap]
 have key:∀(l:List (Nat×Rw)),(l.map fun x=>(((T.drop (x.1+1)).filter fun s=>!(x.2.1==s.1)&&decide (iT x.2.2 s.2<=room)).map fun s=>(x.2,s)).length).sum<=l.length * T.length:=by
  intro l
  induction l with
  |nil=>simp
  |cons x l ih=>
   rw[arN,List.sum_cons,arU,Nat.add_mul,Nat.one_mul]
   have:(((T.drop (x.1+1)).filter fun s=>!(x.2.1==s.1)&&decide (iT x.2.2 s.2<=room)).map fun s=>(x.2,s)).length<=T.length:=by
    rw[arT]
    refine asi (ar0 _ _) ?_
    rw[atd]
    omega
   omega
 have:=key (T.mapIdx fun i r=>(i,r))
 rw[List.length_mapIdx]at this
 exact this
theorem aaF(M:Mo)(R:List Rw)(room:Int)(hR:qI R)(h:R.eraseDups.length<=76):uz M [.list (R.map Ear.rD),.int room]=.ok (.list ((jh (bM R) room).map pairD)):=by
 have ht:=Mz M R h
 have hl:(bM R).length<=76:=by rw[tD];exact h
 have hE:∀r∈bM R,r.2.length=6:=fun r hr=>hR r (eO.mp hr)
 generalize bM R=T at ht hl hE
 have he:lE 0 (T.map Ear.rD)=(T.mapIdx fun i r=>(i,r)).map fun(x:Nat×Rw)=>PyData.tuple [.int x.1,Ear.rD x.2]:=by
  unfold lE
  apply ase
  intro i
  simp
  cases T[i]? <;> simp
 have key:=Jb (tg:=bA [3,4]) (tg1:=aF 5) (tt:=iy) (it1:=cX (Mq (ao 2) (pW (aA eG (ao 3) (qC (.int 1)))) xV)) (vs1:=[5]) (tt1:=j5 (bh (aA rZ (aA aN (ao 4) (qC (.int 0))) (aA aN (ao 5) (qC (.int 0))))) (iZ (aU qR (ak (aA aN (ao 4) (qC (.int 1))) (ak (aA aN (ao 5) (qC (.int 1))) (ak (aq 1) au)))))) (te:=bB (ak (aq 4) (ak (aq 5) au))) (M:=M) (ρ:=[some (.dat (.list (R.map Ear.rD))),some (.dat (.int room)),some (.dat (.list (T.map Ear.rD))),none,none,none])
  (fun(x:Nat×Rw)=>PyData.tuple [.int x.1,Ear.rD x.2]) (fun x=>T.drop (x.1+1)) Ear.rD (fun x s=>!(x.2.1==s.1)&&decide (iT x.2.2 s.2<=room)) (fun x s=>pairD (x.2,s)) (T.mapIdx fun i r=>(i,r)) fun x hx=>⟨[some (.dat (.list (R.map Ear.rD))),some (.dat (.int room)),some (.dat (.list (T.map Ear.rD))),some (.dat (.int x.1)),some (.dat (Ear.rD x.2)),none],by simp,rfl,rfl,by
   have:=Pj (T.map Ear.rD) (x.1+1)
   simp at this ⊢
   rw[this],fun s hs=>⟨[some (.dat (.list (R.map Ear.rD))),some (.dat (.int room)),some (.dat (.list (T.map Ear.rD))),some (.dat (.int x.1)),some (.dat (Ear.rD x.2)),some (.dat (Ear.rD s))],by simp,by
   obtain⟨i,hi,rfl⟩:=List.mem_mapIdx.mp hx
   have h1:=hE _ (asB hi)
   have h2:=hE s (List.mem_of_mem_drop hs)
   have:=T7 M (T[i]).2 s.2 room (by omega) (by omega)
   by_cases hz:(T[i]).1=s.1 <;> simp[Ear.rD,Ear.dT,this,hz],fun _=>by simp[pairD]⟩⟩
 have e2:((T.mapIdx fun i r=>(i,r)).flatMap fun x=>((T.drop (x.1+1)).filter fun s=>!(x.2.1==s.1)&&decide (iT x.2.2 s.2<=room)).map fun s=>pairD (x.2,s))=(jh T room).map pairD:=by
  unfold jh
  rw[List.map_flatMap]
  congr 1
  funext x
  rw[asn]
  rfl
 rw[e2]at key
 have hc:(jh T room).length<=50000:=by
  have:=aaL T room
  have:T.length * T.length<=76 * 76:=Nat.mul_le_mul hl hl
  omega
 simp[uz,Iu,ht]
 rw[he]
 simp[key,hc]
def hdD(x:List Int×Int):Dat:=.tuple [aH x.1,.int x.2]
def Le(d l:Int):Int:=(if 9 < d+l then 9 else d+l)+1
def Cd(d l:Int):List Int:=(List.range (Le d l - d).toNat).map fun(i:Nat)=>d+(i:Int)
def stepT(d:Int)(H:List (List Int×Int)):List (List Int×Int):=H.flatMap fun x=>(Cd d x.2).map fun cut=>(x.1++[cut],x.2 - (cut - d))
structure Pk(k:Nat)(H:List (List Int×Int)):Prop where
 len:H.length<=4 ^ k
 left:∀x∈H,0<=x.2/\x.2<=3
 hd:∀x∈H,x.1.length=k/\∀y∈x.1,0<=y/\y<=9
theorem aeW{d l:Int}(hl:0<=l/\l<=3):(Cd d l).length<=4:=by
 unfold Cd Le
 simp
 split <;> omega
theorem Wv{d l y:Int}(h:y∈Cd d l):d<=y/\y<=d+l/\y<=9:=by
 unfold Cd Le at h
 obtain⟨i,hi,rfl⟩:=arV.mp h
 rw[List.mem_range]at hi
 split at hi <;> omega
theorem Wn{k:Nat}{H:List (List Int×Int)}{d:Int}(i:Pk k H)(hd:0<=d/\d<=9):Pk (k+1) (stepT d H):=by
 refine⟨?_,fun x hx=>?_,fun x hx=>?_⟩
 ·have key:∀l:List (List Int×Int),(∀x∈l,0<=x.2/\x.2<=3)->(stepT d l).length<=l.length * 4:=by
   intro l
   induction l with
   |nil=>intro _;simp[stepT]
   |cons x l ih=>
    intro h
    have h1:=ih fun y hy=>h y (arO _ hy)
    have h2:=aeW (d:=d) (h x arP)
    unfold stepT at h1 ⊢
    rw[List.flatMap_cons,asw,arT,arU]
    omega
  have:=key H i.left
  have:=i.len
  rw[Nat.pow_succ]
  omega
 ·unfold stepT at hx
  obtain⟨y,hy,hx⟩:=List.mem_flatMap.mp hx
  obtain⟨c,hc,rfl⟩:=arV.mp hx
  have:=Wv hc
  have:=i.left y hy
  show 0<=y.2 - (c - d)/\y.2 - (c - d)<=3
  omega
 ·unfold stepT at hx
  obtain⟨y,hy,hx⟩:=List.mem_flatMap.mp hx
  obtain⟨c,hc,rfl⟩:=arV.mp hx
  have:=Wv hc
  obtain⟨h1,h2⟩:=i.hd y hy
  refine⟨by simp[h1],fun z hz=>?_⟩
  rcases arW.mp hz with hz|hz
  ·exact h2 z hz
  ·rw[arQ.mp hz]
   omega
theorem adL(M:Mo)(e m:Option Cell)(he:zG [e,m]=true){k:Nat}{H:List (List Int×Int)}{d:Int}(i:Pk k H)(hk:k<=5)(hd:0<=d/\d<=9):Dh M [e,m,some (.dat (.list (H.map hdD))),some (.dat (.int d)),none,none,none]=.next [e,m,some (.dat (.list ((stepT d H).map hdD))),some (.dat (.int d)),none,none,none] M:=by
 have key:=Jb (tg:=bA [4,5]) (tg1:=aF 6) (tt:=iy) (it1:=Cj (ao 3) (aA eG (aA Ja (aA eG (ao 3) (ao 5)) (qC cR)) (qC (.int 1)))) (vs1:=[6]) (tt1:=iy) (te:=bB (ak (aA eG (ao 4) (bB (ak (aq 6) au))) (ak (aA jX (ao 5) (aA jX (ao 6) (ao 3))) au))) (M:=M) (ρ:=[e,m,some (.dat (.list (H.map hdD))),some (.dat (.int d)),none,none,none])
  hdD (fun x=>Cd d x.2) PyData.int (fun _ _=>true) (fun x c=>hdD (x.1++[c],x.2 - (c - d))) H fun x hx=>⟨[e,m,some (.dat (.list (H.map hdD))),some (.dat (.int d)),some (.dat (aH x.1)),some (.dat (.int x.2)),none],by simp[hdD],rfl,by
   simp[zG]at he ⊢
   exact he,by
   have hl:=i.left x hx
   have hz:Le d x.2<=100000/\-100000<=Le d x.2/\d<=100000/\-100000<=d:=by unfold Le;split <;> omega
   have e1:iH d (Le d x.2 - d).toNat=(Cd d x.2).map PyData.int:=by
    unfold iH Cd
    rw[asn]
    rfl
   have e2:(if 9 < d+x.2 then(9:Int) else d+x.2)+1=Le d x.2:=rfl
   simp[cR,e2,e1,hz],fun c hc=>⟨[e,m,some (.dat (.list (H.map hdD))),some (.dat (.int d)),some (.dat (aH x.1)),some (.dat (.int x.2)),some (.dat (.int c))],by simp,rfl,fun _=>by
   have h1:=(i.hd x hx).1
   have h2:x.1.length+1<=100000:=by omega
   simp[hdD,h2]⟩⟩
 have e2:(H.flatMap fun x=>((Cd d x.2).filter fun _=>true).map fun c=>hdD (x.1++[c],x.2 - (c - d)))=(stepT d H).map hdD:=by
  unfold stepT
  rw[List.map_flatMap]
  congr 1
  funext x
  rw[as8.mpr (fun _ _=>rfl),asn]
  rfl
 rw[e2]at key
 have hl:(stepT d H).length<=50000:=by
  have:=(Wn i hd).len
  have:4 ^ (k+1)<=4 ^ 6:=Nat.pow_le_pow_right (by decide) (by omega)
  omega
 simp[Dh,key,hl]
theorem KZ(M:Mo)(e m:Option Cell)(he:zG [e,m]=true):∀(ear:List Int) (k:Nat) (H:List (List Int×Int)) (o:Option Cell),Pk k H->k+ear.length<=6->(∀d∈ear,0<=d/\d<=9)->
  (∃o',dR (aF 3) Dh (ear.map PyData.int) M [e,m,some (.dat (.list (H.map hdD))),o,none,none,none]=.next [e,m,some (.dat (.list ((ear.foldl (fun H d=>stepT d H) H).map hdD))),o',none,none,none] M)/\Pk (k+ear.length) (ear.foldl (fun H d=>stepT d H) H)
 |[],k,H,o,i,_,_=>⟨⟨o,rfl⟩,i⟩
 |d::ear,k,H,o,i,hk,hd=>by
  rw[arU]at hk
  have h1:=hd d arP
  obtain⟨⟨o',ih⟩,i2⟩:=KZ M e m he ear (k+1) (stepT d H) (some (.dat (.int d))) (Wn i h1) (by omega) fun y hy=>hd y (arO _ hy)
  refine⟨⟨o',?_⟩,?_⟩
  ·rw[arN,fj (ρ1:=[e,m,some (.dat (.list (H.map hdD))),some (.dat (.int d)),none,none,none]) (by simp) (adL M e m he i (by omega) h1),ih]
   rfl
  ·rw[arU,show k+(ear.length+1)=k+1+ear.length by omega]
   exact i2
def DK(ear:List Int)(many:Int):List (List Int):=(ear.foldl (fun H d=>stepT d H) [([],many)]).map (·.1)
theorem aew{many:Int}(hm:0<=many/\many<=3):Pk 0 [([],many)]:=⟨by simp,fun x hx=>by rw[arQ.mp hx];exact hm,fun x hx=>by rw[arQ.mp hx];simp⟩
theorem Ow{ear:List Int}{many:Int}(he:cY ear=true)(hm:0<=many/\many<=3):Pk 6 (ear.foldl (fun H d=>stepT d H) [([],many)]):=by
 unfold cY at he
 rw[arK,decide_eq_true_eq,ar7]at he
 have:=(KZ [] none none rfl ear 0 [([],many)] none (aew hm) (by omega) fun d hd=>by simpa using he.2 d hd).2
 rw[he.1]at this
 exact this
theorem aha(M:Mo)(ear:List Int)(many:Int)(he:cY ear=true)(hm:0<=many/\many<=3):Mr M [aH ear,.int many]=.ok (.list ((DK ear many).map aH)):=by
 have he':=he
 unfold cY at he'
 rw[arK,decide_eq_true_eq,ar7]at he'
 obtain⟨⟨o',h1⟩,_⟩:=KZ M (some (.dat (aH ear))) (some (.dat (.int many))) rfl ear 0 [([],many)] none (aew hm) (by omega) fun d hd=>by simpa using he'.2 d hd
 have hi:=Ow he hm
 generalize hH:ear.foldl (fun H d=>stepT d H) [([],many)]=H at h1 hi
 have key:=fu (tg:=bA [4,5]) (te:=aq 4) (M:=M) (ρ:=[some (.dat (aH ear)),some (.dat (.int many)),some (.dat (.list (H.map hdD))),o',none,none,none]) hdD (fun x=>aH x.1) H fun x _=>⟨[some (.dat (aH ear)),some (.dat (.int many)),some (.dat (.list (H.map hdD))),o',some (.dat (aH x.1)),some (.dat (.int x.2)),none],by simp[hdD],by simp⟩
 have hl:H.length<=50000:=by
  have:=hi.len
  have:(4:Nat) ^ 6=4096:=by decide
  omega
 have h1':dR (aF 3) Dh (ear.map PyData.int) M [some (.dat (aH ear)),some (.dat (.int many)),some (.dat (.list [.tuple [.tuple [],.int many]])),none,none,none,none]=_:=h1
 have key2:∀o2:Option Cell,dD (bA [4,5]) iy (aq 4) M [some (.dat (aH ear)),some (.dat (.int many)),some (.dat (.list (H.map hdD))),o2,none,none,none] (H.map hdD)=.ok (H.map fun x=>aH x.1):=fun o2=>fu (tg:=bA [4,5]) (te:=aq 4) (M:=M) (ρ:=[some (.dat (aH ear)),some (.dat (.int many)),some (.dat (.list (H.map hdD))),o2,none,none,none]) hdD (fun x=>aH x.1) H fun x _=>⟨[some (.dat (aH ear)),some (.dat (.int many)),some (.dat (.list (H.map hdD))),o2,some (.dat (aH x.1)),some (.dat (.int x.2)),none],by simp[hdD],by simp⟩
 simp[Mr,aau,h1',key2,hl,DK,hH]
def Qg(mark:List Int)(extra:Int):List (List Int):=(DK mark extra).filter fun e=>u6 mark e==extra
theorem V2{ear:List Int}{many:Int}(he:cY ear=true)(hm:0<=many/\many<=3){x:List Int}(h:x∈DK ear many):cY x=true:=by
 obtain⟨y,hy,rfl⟩:=arV.mp h
 obtain⟨h1,h2⟩:=(Ow he hm).hd y hy
 unfold cY
 rw[arK,decide_eq_true_eq,ar7]
 exact⟨h1,fun d hd=>by simpa using h2 d hd⟩
theorem aev{ear:List Int}{many:Int}(he:cY ear=true)(hm:0<=many/\many<=3):(DK ear many).length<=4096:=by
 unfold DK
 rw[arT]
 exact(Ow he hm).len
theorem ZC(M:Mo)(mark:List Int)(extra:Int)(he:cY mark=true)(hm:0<=extra/\extra<=3):u5 M [aH mark,.int extra]=.ok (.list ((Qg mark extra).map aH)):=by
 have h1:=aha M mark extra he hm
 have hl:=aev he hm
 have h6:mark.length<=1000:=by
  unfold cY at he
  rw[arK,decide_eq_true_eq]at he
  omega
 have key:=gq (tg:=aF 2) (tt:=bh (aA cA (aU uw (ak (aq 0) (ak (aq 2) au))) (ao 1))) (te:=aq 2) (M:=M) (ρ:=[some (.dat (aH mark)),some (.dat (.int extra)),none]) aH (fun e=>u6 mark e==extra) aH (DK mark extra) fun x _=>⟨[some (.dat (aH mark)),some (.dat (.int extra)),some (.dat (aH x))],by simp,by
  have:=Qn M mark x h6
  simp[this],fun _=>by simp⟩
 have hl2:(DK mark extra).length<=50000:=by omega
 simp[u5,Fj,h1,key,hl2,Qg]
def Cg(R:List Rw)(room:Int)(e:List Int):Bool:=!(R.any fun r=>decide (iT e r.2<=room))
theorem ZR(l:List Bool):Qx (.list (l.map PyData.bool))=.ok (.bool (l.any id)):=by
 show(match uh (l.map PyData.bool) with
  |some bs=>Out.ok (PyData.bool (bs.any id))
  |none=>.bad)=_
 rw[Ew]
theorem acs(M:Mo)(R:List Rw)(room:Int)(hR:qI R)(hl:R.length<=50000)(mk:List Int)(x:Int)(e:List Int)(he:e.length=6) :
  jT M [some (.dat (aH mk)),some (.dat (.int x)),some (.dat (.list (R.map Ear.rD))),some (.dat (.int room)),some (.dat (aH e)),none,none]=if Cg R room e then .ret (aH e) M else .next [some (.dat (aH mk)),some (.dat (.int x)),some (.dat (.list (R.map Ear.rD))),some (.dat (.int room)),some (.dat (aH e)),none,none] M:=by
 have key:=fu (tg:=bA [5,6]) (te:=aU qR (ak (aq 4) (ak (aq 6) (ak (aq 3) au)))) (M:=M) (ρ:=[some (.dat (aH mk)),some (.dat (.int x)),some (.dat (.list (R.map Ear.rD))),some (.dat (.int room)),some (.dat (aH e)),none,none]) Ear.rD (fun r=>.bool (decide (iT e r.2<=room))) R fun r hr=>⟨[some (.dat (aH mk)),some (.dat (.int x)),some (.dat (.list (R.map Ear.rD))),some (.dat (.int room)),some (.dat (aH e)),some (.dat (.int r.1)),some (.dat (aH r.2))],by simp[Ear.rD,Ear.dT],by
  have:=T7 M e r.2 room (by omega) (by rw[hR r hr];decide)
  simp[this]⟩
 have ha:=ZR (R.map fun r=>decide (iT e r.2<=room))
 rw[asn]at ha
 simp only[ar5,atc]at ha
 cases hf:Cg R room e <;> simp[jT,key,hl,ha] <;> simp[Cg]at hf <;> simpa using hf
theorem Rx(M:Mo)(R:List Rw)(room:Int)(hR:qI R)(hl:R.length<=50000)(mk:List Int)(x:Int):∀(es:List (List Int)) (o:Option Cell),(∀e∈es,e.length=6)->
  match es.find? (Cg R room) with
   |some e=>dR (aF 4) jT (es.map aH) M [some (.dat (aH mk)),some (.dat (.int x)),some (.dat (.list (R.map Ear.rD))),some (.dat (.int room)),o,none,none]=.ret (aH e) M
   |none=>∃ρ',dR (aF 4) jT (es.map aH) M [some (.dat (aH mk)),some (.dat (.int x)),some (.dat (.list (R.map Ear.rD))),some (.dat (.int room)),o,none,none]=.next ρ' M
 |[],o,_=>⟨_,rfl⟩
 |e::es,o,he=>by
  have h1:=acs M R room hR hl mk x e (he e arP)
  have ih:=Rx M R room hR hl mk x es (some (.dat (aH e))) fun y hy=>he y (arO _ hy)
  rw[List.find?_cons]
  cases hf:Cg R room e with
  |true=>
   rw[hf,if_pos rfl]at h1
   show dR _ _ _ _ _=_
   rw[arN,dR]
   simp[h1]
  |false=>
   rw[hf,if_neg (by decide)]at h1
   have e1:dR (aF 4) jT ((e::es).map aH) M [some (.dat (aH mk)),some (.dat (.int x)),some (.dat (.list (R.map Ear.rD))),some (.dat (.int room)),o,none,none]=dR (aF 4) jT (es.map aH) M [some (.dat (aH mk)),some (.dat (.int x)),some (.dat (.list (R.map Ear.rD))),some (.dat (.int room)),some (.dat (aH e)),none,none]:=by
    rw[arN,fj (by simp) h1]
   rw[e1]
   exact ih
theorem Xr(M:Mo)(mark:List Int)(extra:Int)(R:List Rw)(room:Int)(he:cY mark=true)(hm:0<=extra/\extra<=3)(hR:qI R)(hl:R.length<=50000):pN M [aH mark,.int extra,.list (R.map Ear.rD),.int room]=match (Qg mark extra).find? (Cg R room) with
  |some e=>.ok (aH e)
  |none=>.exc ⟨"NoneFree",[]⟩:=by
 have h1:=ZC M mark extra he hm
 have h2:=Rx M R room hR hl mark extra (Qg mark extra) none fun e h=>by
  have:=V2 he hm (ar9.mp h).1
  unfold cY at this
  rw[arK,decide_eq_true_eq]at this
  exact this.1
 cases hf:(Qg mark extra).find? (Cg R room) with
 |some e=>
  rw[hf]at h2
  simp[pN,xQ,h1,h2]
 |none=>
  rw[hf]at h2
  obtain⟨ρ',h2⟩:=h2
  simp[pN,xQ,h1,h2]
@[simp]theorem an4 (L:Lay) (c:aK):(aO L c).cls="Commons":=rfl
theorem any_keys(y:Int)(l:List Int):((l.map fun o=>(PyData.int o,PyData.bool true)).any fun p=>PyData.eqv p.1 (.int y))=decide (y∈l):=by
 have:=any_ints y l
 rw[atc]at this ⊢
 exact this
section
variable{M:Mo}{L:Lay}{c:aK}(a:At M L c)
include a
theorem lG(o:Int):jG M [ob L.c,.int o]=if o∈c.own then .ok .none else .exc ⟨"NoOwner",[]⟩:=by
 have hc:=a.hc
 have hk:=any_keys o c.own
 simp only[atc,ar5]at hk
 by_cases h:o∈c.own
 ·rw[decide_eq_true h]at hk
  rw[if_pos h]
  simp[jG,lO,hc,aO,ar5,hk]
  rw[if_neg (fun z=>z o h rfl)]
 ·rw[decide_eq_false h]at hk
  rw[if_neg h]
  simp[jG,lO,hc,aO,ar5,hk]
  have hz:∀x:Int,x∈c.own->¬x=o:=fun x hx e=>h (e ▸ hx)
  rw[if_pos hz]
theorem zR(i:cU c)(x:Int):pU M [ob L.c,.int x]=if Vg c x then .ok (.int (roomOf c x)) else .exc ⟨"NoGround",[]⟩:=by
 have hc:=a.hc
 obtain⟨n,m,hg⟩:=a.hg
 have h1:=ahQ a i x
 by_cases h:Vg c x
 ·rw[if_pos h]at h1 ⊢
  simp[pU,uI,hc,aO,hg,dh,rR,h1]
 ·rw[if_neg h]at h1 ⊢
  simp[pU,uI,hc,aO,hg,dh,rR,h1]
theorem Ax(i:cU c)(x:Int):lu M [ob L.c,.int x]=if Vg c x then .ok (lI (aW c x)) else .exc ⟨"NoGround",[]⟩:=by
 have hc:=a.hc
 obtain⟨n,m,hg⟩:=a.hg
 have h1:=vm a i x
 by_cases h:Vg c x
 ·rw[if_pos h]at h1 ⊢
  simp[lu,oM,hc,aO,hg,dh,bF,h1]
 ·rw[if_neg h]at h1 ⊢
  simp[lu,oM,hc,aO,hg,dh,bF,h1]
theorem aeu:qu M [ob L.c]=.ok (lI c.own):=by
 have hc:=a.hc
 simp[qu,v8,hc,aO,ar5]
theorem qW(few:c.held.length<=50000)(o g:Int):lV M [ob L.c,.int o,.int g]=if bQ c o g=[] then .exc ⟨"NoRight",[]⟩ else .ok .none:=by
 have hc:=a.hc
 have hr:=a.hr
 have h1:=aap a few o g
 by_cases h:bQ c o g=[] <;> simp[lV,qK,hc,aO,hr,nu,rE,h1,h]
theorem Ay(few:c.held.length<=50000)(o g:Int){mk:List Int}{r:List (List Int)}(h:bQ c o g=mk::r):lQ M [ob L.c,.int o,.int g]=.ok (aH mk):=by
 have hc:=a.hc
 have hr:=a.hr
 have h1:=Jr a few o g
 rw[h]at h1
 simp[lQ,qj,hc,aO,hr,nu,cJ,h1]
end
def inR(c:aK)(near:List Int):List Rw:=(c.held.filter fun r=>decide (r.2.1∈near)).map fun r=>(r.1,r.2.2)
def Yg(lo:Int)(x:Nat×Nat×dO):Bool:=x.2.2.sd.due.isSome&&!(((x.1:Int)+1)==lo)
def Ox(L:Lay)(c:aK)(lo:Int)(near:List Int):List Rw:=(((bW L c).filter fun x=>decide (x.2.2.sd.g∈near)&&x.2.2.sd.al).filter (Yg lo)).map fun x=>(x.2.2.sd.o,x.2.2.sd.due.getD [])
def fH(L:Lay)(c:aK)(lo x:Int):List Rw:=inR c (aW c x)++Ox L c lo (aW c x)
section
variable{M:Mo}{L:Lay}{c:aK}(a:At M L c)
include a
theorem Fb(i:cU c)(few:c.held.length<=20000)(fewb:c.bs.length<=20000)(lo x:Int)(h76:(fH L c lo x).eraseDups.length<=76):iK M [ob L.c,.int lo,.int x]=if Vg c x then .ok (.list ((bM (fH L c lo x)).map Ear.rD)) else .exc ⟨"NoGround",[]⟩:=by
 have hc:=a.hc
 have hr:=a.hr
 obtain⟨n,hh⟩:=a.hh
 have h1:=Ax a i x
 by_cases h:Vg c x
 ·rw[if_pos h]at h1 ⊢
  have h2:=Td a (by omega:c.bs.length<=50000) (aW c x)
  have h3:=Xh a (by omega:c.held.length<=50000) (aW c x)
  have h4:=Mz M (fH L c lo x) h76
  have hl:((bW L c).filter fun y=>decide (y.2.2.sd.g∈aW c x)&&y.2.2.sd.al).length<=20000:=asi (ar0 _ _) (by rw[a.len'];exact fewb)
  have hl2:((bW L c).filter fun y=>decide (y.2.2.sd.g∈aW c x)&&y.2.2.sd.al).length<=50000:=by omega
  have key:=gq (tg:=bA [5,6]) (tt:=j5 (bh (xM true .none (bK "due" (ao 6)))) (bh (aA rZ (ao 5) (ao 1)))) (te:=bB (ak (gK "owner" (ao 6)) (ak (gK "due" (ao 6)) au))) (M:=M) (ρ:=[some (.dat (ob L.c)),some (.dat (.int lo)),some (.dat (.int x)),some (.dat (lI (aW c x))),none,none,none]) nb (Yg lo) (fun y=>Ear.rD (y.2.2.sd.o,y.2.2.sd.due.getD [])) ((bW L c).filter fun y=>decide (y.2.2.sd.g∈aW c x)&&y.2.2.sd.al) fun y hy=>⟨[some (.dat (ob L.c)),some (.dat (.int lo)),some (.dat (.int x)),some (.dat (lI (aW c x))),none,some (.dat (.int ((y.1:Int)+1))),some (.dat (ob y.2.1))],by simp[nb],by
   obtain⟨n',hb⟩:=a.hb' (ar9.mp hy).1
   cases hd:y.2.2.sd.due <;> simp[hb,iB,hd,oV,Yg,jW],fun hp=>by
   obtain⟨n',hb⟩:=a.hb' (ar9.mp hy).1
   cases hd:y.2.2.sd.due with
   |none=>simp[Yg,hd]at hp
   |some e=>simp[hb,iB,hd,oV,Ear.rD,Ear.dT]⟩
  have e1:(c.held.filter fun r=>decide (r.2.1∈aW c x)).map (fun r=>Ear.rD (r.1,r.2.2))=(inR c (aW c x)).map Ear.rD:=by
   unfold inR
   rw[asn]
   rfl
  have e2:(((bW L c).filter fun y=>decide (y.2.2.sd.g∈aW c x)&&y.2.2.sd.al).filter (Yg lo)).map (fun y=>Ear.rD (y.2.2.sd.o,y.2.2.sd.due.getD []))=(Ox L c lo (aW c x)).map Ear.rD:=by
   unfold Ox
   rw[asn]
   rfl
  rw[e1]at h3
  rw[e2]at key
  have z1:(inR c (aW c x)).length<=20000:=by
   unfold inR
   rw[arT]
   exact asi (ar0 _ _) few
  have z2:(Ox L c lo (aW c x)).length<=20000:=by
   unfold Ox
   rw[arT]
   exact asi (ar0 _ _) hl
  have z3:(inR c (aW c x)).length+(Ox L c lo (aW c x)).length<=100000:=by omega
  unfold fH at h4 ⊢
  rw[List.map_append]at h4
  simp[iK,j8,hc,aO,bR,h1,hh,dG,jx,h2,hr,nu,qm,h3]
  simp[key,hl2,z3,h4,hc,aO,hr,nu,h3]
 ·rw[if_neg h]at h1 ⊢
  simp[iK,j8,hc,aO,bR,h1]
end
def iV(b:dO):Dat:=.tuple [.int b.sd.o,.int b.sd.g,oV b.sd.due,aH b.sd.ear,.bool b.sd.al,.int b.mo,.tuple (b.fi.dat::b.en.map En.dat)]
theorem ag1{M:Mo}{h n:Nat}{b:dO}(hb:M[h]?=some (iB n b)):wV M [ob h]=.ok (iV b):=by
 have h1:=Yr hb
 simp[wV,Dd,hb,mj,h1]
 simp[iB,Sd.dat,iV]
def uN(c:aK)(k:Nat):Dat:=.tuple [.int (Fy c ((k:Int)+1)),aH (aW c ((k:Int)+1))]
def gj(c:aK):Dat:=.tuple [lI c.own,.list ((List.range c.al.length).map (uN c)),.list (c.held.map gJ),.list (c.bs.map iV)]
section
variable{M:Mo}{L:Lay}{c:aK}(a:At M L c)
include a
theorem abA(i:cU c)(few:c.held.length<=20000)(fewb:c.bs.length<=20000):lX M [ob L.c]=.ok (gj c):=by
 have hc:=a.hc
 have hr:=a.hr
 obtain⟨n,m,hg⟩:=a.hg
 obtain⟨n1,hh⟩:=a.hh
 have h1:=abD a
 have h2:=aeu a
 have h3:=aaB a (by omega:c.held.length<=50000)
 have hf:=i.few
 have k1:=fu (tg:=aF 3) (te:=bB (ak (aV dJ (bK "grounds" (ao 0)) (ak (aq 3) au)) (ak (eE kW (aV bR (ao 0) (ak (aq 3) au))) au))) (M:=M) (ρ:=[some (.dat (ob L.c)),none,none,none,none]) (fun(k:Nat)=>PyData.int (1+(k:Int))) (uN c) (List.range c.al.length) fun k hk=>⟨[some (.dat (ob L.c)),none,none,some (.dat (.int ((k:Int)+1))),none],by simp[Int.add_comm],by
  rw[List.mem_range]at hk
  have hv:Vg c ((k:Int)+1):=by constructor <;> omega
  have g1:=KJ a ((k:Int)+1)
  have g2:=Ax a i ((k:Int)+1)
  rw[if_pos hv]at g1 g2
  simp[hc,aO,hg,dh,dJ,bR,g1,g2,uN]⟩
 have hl:=a.len'
 have k2:=fun(o1:Option Cell)=>fu (tg:=aF 4) (te:=aV vM (ao 4) au) (M:=M) (ρ:=[some (.dat (ob L.c)),o1,none,none,none]) (fun(x:Nat×Nat×dO)=>ob x.2.1) (fun x=>iV x.2.2) (bW L c) fun x hx=>⟨[some (.dat (ob L.c)),o1,none,none,some (.dat (ob x.2.1))],by simp,by
  obtain⟨n',hb⟩:=a.hb' hx
  have:=ag1 hb
  simp[hb,vM,this]⟩
 have e1:(bW L c).map (fun x=>ob x.2.1)=L.bs.map ob:=by
  unfold bW
  apply ase
  intro j
  simp only[arY,asy]
  by_cases hj:j < L.bs.length
  ·have hz:(L.bs.zip c.bs)[j]?=some (L.bs[j],c.bs[j]'(by rw[←a.len];exact hj)):=by
    rw[asO]
    exact⟨arM hj,arM _⟩
   rw[hz,arM hj]
   rfl
  ·rw[asl (by omega:L.bs.length<=j),asl (by rw[List.length_zip];omega)]
   rfl
 have e2:(bW L c).map (fun x=>iV x.2.2)=c.bs.map iV:=by
  unfold bW
  apply ase
  intro j
  simp only[arY,asy]
  by_cases hj:j < c.bs.length
  ·have hz:(L.bs.zip c.bs)[j]?=some (L.bs[j]'(by rw[a.len];exact hj),c.bs[j]):=by
    rw[asO]
    exact⟨arM _,arM hj⟩
   rw[hz,arM hj]
   rfl
  ·rw[asl (by omega:c.bs.length<=j),asl (by rw[List.length_zip];omega)]
   rfl
 simp only[e1,e2]at k2
 have r1:iH 1 c.al.length=(List.range c.al.length).map fun(k:Nat)=>PyData.int (1+(k:Int)):=rfl
 have z1:(c.al.length:Int)+1<=100000:=by omega
 have z2 : -100000<=(c.al.length:Int)+1:=by omega
 have z3:c.al.length<=50000:=by omega
 have z4:L.bs.length<=50000:=by rw[a.len];omega
 simp[lX,yI,hc,aO,hg,dh,eY,h1,z1,z2,r1,k1,z3]
 simp[hc,aO,hh,dG,hr,nu,k2,z4,uU,tM,h2,h3,gj]
end
section
variable{M:Mo}{L:Lay}{c:aK}(a:At M L c)
include a
theorem zJ(i:cU c)(few:c.held.length<=20000)(fewb:c.bs.length<=20000)(x:Int)(h76:(fH L c 0 x).eraseDups.length<=76):kJ M [ob L.c,.int x]=if Vg c x then .ok (.list ((bM (fH L c 0 x)).map Ear.rD)) else .exc ⟨"NoGround",[]⟩:=by
 have hc:=a.hc
 have h1:=Fb a i few fewb 0 x h76
 by_cases h:Vg c x
 ·rw[if_pos h]at h1 ⊢
  simp[kJ,oN,hc,cZ,h1]
 ·rw[if_neg h]at h1 ⊢
  simp[kJ,oN,hc,cZ,h1]
def ajh(o:Int)(e:List Int)(R:List Rw)(room:Int):Out Dat:=match Bp o e R room with
 |[]=>.ok .none
 |r::_=>.exc ⟨"Clash",[("ear",aH (fG e r.2)),("others",Ear.rD r),("ones",Ear.rD (o,e))]⟩
omit a in
theorem af5{T:List Rw}(h:Ear.Hw T):T.Nodup:=by
 unfold Ear.Hw at h
 unfold List.Nodup
 exact h.imp fun {x y} z e=>by
  subst e
  exact List.lt_irrefl _ z
theorem KR(ho:∀o∈c.own,o<=c.count)(few:c.own.length<=20000):∃M',iG M [ob L.c]=.ok (.int (c.count+1)) M'/\At M' L { c with count:=c.count+1,own:=c.own++[c.count+1] }:=by
 have hc:=a.hc
 have hl:∀i,(M.set L.c i)[L.c]?=some i:=fun i=>by rw[bG hc,if_pos rfl]
 have hk:=any_keys (c.count+1) c.own
 have hn:¬(c.count+1)∈c.own:=fun z=>by have:=ho _ z;omega
 rw[decide_eq_false hn]at hk
 have hz:∀x∈c.own,¬x=c.count+1:=fun x hx e=>hn (e ▸ hx)
 have f2:c.own.length < 100000:=by omega
 refine⟨_,?_,a.setC⟩
 simp only[atc,ar5]at hk
 have hd:(c.own.any fun x=>x==c.count+1)=false:=by
  rw[List.any_eq_false]
  intro x hx
  simpa using hz x hx
 simp[iG,rC,hc,aO,hl,jZ,f2,ar5,hd]
end
theorem YS{α:Type}[BEq α][LawfulBEq α](l:List α):l.eraseDups.length<=l.length:=by
 induction hn:l.length using Nat.strongRecOn generalizing l with
 |_ n ih=>
  cases l with
  |nil=>simp
  |cons a r=>
   rw[as6]
   simp only[arU]at hn ⊢
   have hl:(r.filter fun b=>!b==a).length<=r.length:=ar0 _ _
   have:=ih _ (by omega) (r.filter fun b=>!b==a) rfl
   omega
theorem ZL{S:List Rw}(h:S.eraseDups.length<=76):(bM S).eraseDups.length<=76:=asi (YS _) (by rw[tD];exact h)
theorem Ai{S:List Rw}(h:qI S):qI (bM S):=fun r hr=>h r (eO.mp hr)
section
variable{M:Mo}{L:Lay}{c:aK}(a:At M L c)
include a
theorem Xa(i:cU c)(few:c.held.length<=20000)(fewb:c.bs.length<=20000)(o x:Int)(e:List Int)(he:e.length=6)(hv:Vg c x)(h76:(fH L c 0 x).eraseDups.length<=76)(hE:qI (fH L c 0 x)):gQ M [ob L.c,.int o,aH e,.int x]=ajh o e (bM (fH L c 0 x)) (roomOf c x):=by
 have hc:=a.hc
 have h1:=zJ a i few fewb x h76
 have h2:=zR a i x
 rw[if_pos hv]at h1 h2
 have h3:=Ov M o e (bM (fH L c 0 x)) (roomOf c x) he (Ai hE) (ZL h76)
 unfold ajh
 cases hb:Bp o e (bM (fH L c 0 x)) (roomOf c x) with
 |nil=>
  rw[hb]at h3
  simp[gQ,lM,hc,cG,bY,h1,h2,h3]
 |cons r rs=>
  rw[hb]at h3
  simp[gQ,lM,hc,cG,bY,h1,h2,h3]
end
section
variable{M:Mo}{L:Lay}{c:aK}(a:At M L c)
include a
def IV(L:Lay)(c:aK)(x y:Int):List Rw:=bM (fH L c 0 x)++bM (fH L c 0 y)
def oX(c:aK)(x y:Int):Int:=if roomOf c y > roomOf c x then roomOf c y else roomOf c x
theorem aaO(i:cU c)(few:c.held.length<=20000)(fewb:c.bs.length<=20000)(x y:Int)(hx:Vg c x)(hy:Vg c y)(h1:(fH L c 0 x).eraseDups.length<=76)(h2:(fH L c 0 y).eraseDups.length<=76)(h3:(IV L c x y).eraseDups.length<=76)(e1:qI (fH L c 0 x))(e2:qI (fH L c 0 y)):kY M [ob L.c,.int x,.int y]=.ok (.list ((jh (bM (IV L c x y)) (oX c x y)).map pairD)):=by
 have hc:=a.hc
 have s1:=zJ a i few fewb x h1
 have s2:=zJ a i few fewb y h2
 have r1:=zR a i x
 have r2:=zR a i y
 rw[if_pos hx]at s1 r1
 rw[if_pos hy]at s2 r2
 have hE:qI (IV L c x y):=fun r hr=>by
  rcases arW.mp hr with hr|hr
  ·exact Ai e1 r hr
  ·exact Ai e2 r hr
 have k:=aaF M (IV L c x y) (oX c x y) hE h3
 have l1:(bM (fH L c 0 x)).length<=76:=by rw[tD];exact h1
 have l2:(bM (fH L c 0 y)).length<=76:=by rw[tD];exact h2
 have l3:(bM (fH L c 0 x)).length+(bM (fH L c 0 y)).length<=100000:=by omega
 have k':uz M [.list ((bM (fH L c 0 x)).map Ear.rD++(bM (fH L c 0 y)).map Ear.rD),.int (if roomOf c y > roomOf c x then roomOf c y else roomOf c x)]=.ok (.list ((jh (bM (IV L c x y)) (oX c x y)).map pairD)):=by
  rw[←List.map_append]
  exact k
 simp[kY,tR,hc,cG,bY,s1,s2,r1,r2,l3]
 simp at k'
 exact k' ▸ (by simp[k'])
end
def Dt(c:aK)(lo:Int)(near:List Int):List Rw:=((c.bs.mapIdx fun i b=>(i,b)).filter fun x=>(x.2.sd.due.isSome&&!(((x.1:Int)+1)==lo))&&(decide (x.2.sd.g∈near)&&x.2.sd.al)).map fun x=>(x.2.sd.o,x.2.sd.due.getD [])
def fK(c:aK)(lo x:Int):List Rw:=inR c (aW c x)++Dt c lo (aW c x)
theorem Kw{M:Mo}{L:Lay}{c:aK}(a:At M L c):(bW L c).map (fun x=>(x.1,x.2.2))=c.bs.mapIdx fun i b=>(i,b):=by
 unfold bW
 apply ase
 intro j
 simp only[arY,asy]
 by_cases hj:j < c.bs.length
 ·have hz:(L.bs.zip c.bs)[j]?=some (L.bs[j]'(by rw[a.len];exact hj),c.bs[j]):=by
   rw[asO]
   exact⟨arM _,arM hj⟩
  rw[hz,arM hj]
  rfl
 ·rw[asl (by omega:c.bs.length<=j),asl (by rw[List.length_zip];omega)]
  rfl
theorem jV{M:Mo}{L:Lay}{c:aK}(a:At M L c)(lo x:Int):fH L c lo x=fK c lo x:=by
 unfold fH fK Ox Dt
 rw[←Kw a,List.filter_map,asn,ata]
 rfl
inductive bJ where
 |owner|ground (x:Int)|enrol (o g:Int) (m:List Int)|leave (o g:Int)|bring (o g:Int) (e:List Int)|bear (k:Int)|cut (k:Int)|tear (k p:Int)|sell (k o:Int)|move (k g:Int)|die (k:Int)|qD (x y:Int)|part (x:Int)|pass (e h:Int)|heir (e g x:Int)
def bJ.dat:bJ->Dat
 |.owner=>.tuple [.str "owner"]
 |.ground x=>.tuple [.str "ground",.int x]
 |.enrol o g m=>.tuple [.str "enrol",.int o,.int g,aH m]
 |.leave o g=>.tuple [.str "leave",.int o,.int g]
 |.bring o g m=>.tuple [.str "bring",.int o,.int g,aH m]
 |.bear k=>.tuple [.str "bear",.int k]
 |.cut k=>.tuple [.str "cut",.int k]
 |.tear k p=>.tuple [.str "tear",.int k,.int p]
 |.sell k o=>.tuple [.str "sell",.int k,.int o]
 |.move k g=>.tuple [.str "move",.int k,.int g]
 |.die k=>.tuple [.str "die",.int k]
 |.qD x y=>.tuple [.str "unite",.int x,.int y]
 |.part x=>.tuple [.str "part",.int x]
 |.pass e h=>.tuple [.str "pass",.int e,.int h]
 |.heir e g x=>.tuple [.str "heir",.int e,.int g,.int x]
inductive Res where
 |ok (d:Dat) (c:aK)|no (x:dB)
def pH(o:Int)(e:List Int)(r:Rw):dB:=⟨"Clash",[("ear",aH (fG e r.2)),("others",Ear.rD r),("ones",Ear.rD (o,e))]⟩
def firstM(c:aK)(o g:Int):List Int:=(bQ c o g).headD []
def Bb(o:Int)(e:List Int)(R:List Rw)(room:Int)(r:Res):Res:=match Bp o e (bM R) room with
 |[]=>r
 |x::_=>.no (pH o e x)
def vK(c:aK)(x y:Int):List Rw:=bM (fK c 0 x)++bM (fK c 0 y)
def sE(c:aK)(x:Int):List Int:=(aW c x).filter fun y=>!(y==x)
def RN(c:aK)(e:Int):List Int:=((c.bs.mapIdx fun i b=>(i,b)).filter fun x=>(x.2.sd.o==e)&&x.2.sd.al).map fun x=>(x.1:Int)+1
def XR(o g:Int)(b:dO):Bool:=(decide (b.sd.g∈[g])&&b.sd.al)&&(b.sd.o==o)
def wM(c:aK)(k:Int)(f:dO->Res):Res:=match bk c k with
 |none=>.no ⟨"NoBeast",[]⟩
 |some b=>if b.sd.al=true then f b else .no ⟨"Dead",[]⟩
def markB(c:aK)(k:Int)(f:dO->List Int->Res):Res:=wM c k fun b=>match b.sd.due with
 |none=>.no ⟨"Unmarked",[]⟩
 |some e=>f b e
def yZ(c:aK)(k o g:Int):aK:=oR (fun x=>zE k x&&x.sd.al) (.followed o g) c
def sV(c:aK)(o:Int)(r:Res):Res:=if o∈c.own then r else .no ⟨"NoOwner",[]⟩
def uM(c:aK)(g:Int)(r:Res):Res:=if Vg c g then r else .no ⟨"NoGround",[]⟩
def KD(e:List Int)(r:Res):Res:=if cY e=true then r else .no ⟨"BadEar",[]⟩
def oG(c:aK)(o g:Int)(r:Res):Res:=if bQ c o g=[] then .no ⟨"NoRight",[]⟩ else r
def cD(c:aK):bJ->Res
 |.owner=>.ok (.int (c.count+1)) { c with count:=c.count+1,own:=c.own++[c.count+1] }
 |.ground x=>if 0<=x/\x<=9 then .ok (.int (c.al.length+1)) { c with al:=c.al++[x],ci:=c.ci++[[(c.al.length:Int)+1]] } else .no ⟨"BadAllowance",[]⟩
 |.enrol o g m=>sV c o <|uM c g <|KD m <|if m=[0,0,0,0,0,0] then .no ⟨"Bare",[]⟩ else if m∈bQ c o g then .no ⟨"HasRight",[]⟩ else Bb o m (fK c 0 g) (roomOf c g) (.ok .none { c with held:=c.held++[(o,g,m)] })
 |.leave o g=>sV c o <|uM c g <|oG c o g <|if c.bs.any (XR o g)=true then .no ⟨"StillThere",[]⟩ else .ok (.list ((bQ c o g).map aH)) { c with held:=dropped c o g }
 |.bring o g e=>sV c o <|uM c g <|KD e <|oG c o g <|.ok (.int (c.bs.length+1)) { c with bs:=c.bs++[FP (.brought o g e)] }
 |.bear k=>markB c k fun b _=>.ok (.int (c.bs.length+1)) { c with bs:=c.bs++[FP (.born k b.sd.o b.sd.g)] }
 | .cut k=>wM c k fun b=>Bb b.sd.o (fG b.sd.ear (firstM c b.sd.o b.sd.g)) (fK c 0 b.sd.g) (roomOf c b.sd.g) (.ok (aH (fG b.sd.ear (firstM c b.sd.o b.sd.g))) (gH c (k - 1).toNat (.cut (fG b.sd.ear (firstM c b.sd.o b.sd.g)))))
 |.tear k p=>wM c k fun b=>if 0<=p/\p < 6 then(if 9<=b.sd.ear.getD p.toNat 0 then .no ⟨"Deepest",[]⟩ else .ok (aH (wY b.sd.ear p.toNat)) (gH c (k - 1).toNat (.torn p.toNat))) else .no ⟨"NoPlace",[]⟩
 |.sell k o=>markB c k fun b _=>sV c o <|if b.sd.o=o then .no ⟨"SameOwner",[]⟩ else oG c o b.sd.g <| Bb o (fG b.sd.ear (firstM c o b.sd.g)) (fK c k b.sd.g) (roomOf c b.sd.g) (.ok (aH (fG b.sd.ear (firstM c o b.sd.g))) (yZ (gH c (k - 1).toNat (.sold o (fG b.sd.ear (firstM c o b.sd.g)))) k o b.sd.g))
 |.move k g=>markB c k fun b e=>uM c g <|if b.sd.g=g then .no ⟨"SameGround",[]⟩ else oG c b.sd.o g <|Bb b.sd.o e (fK c 0 g) (roomOf c g) (.ok (.int b.sd.g) (yZ (gH c (k - 1).toNat (.moved g)) k b.sd.o g))
 |.die k=>wM c k fun _=>.ok .none (gH c (k - 1).toNat .died)
 |.qD x y=>uM c y <|uM c x <|if y∈aW c x then .no ⟨"Together",[]⟩ else match jh (bM (vK c x y)) (oX c x y) with
  |p::_=>.no (pH p.1.1 p.1.2 p.2)
  |[]=>.ok (lI (sortI (aW c x++aW c y))) { c with ci:=encl c.ci (sortI (aW c x++aW c y)) }
 |.part x=>uM c x <|if sE c x=[] then .no ⟨"Alone",[]⟩ else .ok (lI (sE c x)) { c with ci:=encl (encl c.ci [x]) (sE c x) }
 |.pass e h=>sV c e <|sV c h <|if e=h then .no ⟨"SameOwner",[]⟩ else .ok (lI (RN c e)) { oR (fun b=>(b.sd.o==e)&&b.sd.al) (.passed h) c with own:=c.own.filter (fun o=>!(o==e)),held:=handed c e h }
 | .heir e g x=>sV c e <| uM c g <| if 1<=x/\x<=3 then oG c e g (match (Qg (firstM c e g) x).find? (Cg (bM (fK c 0 g)) (roomOf c g)) with
  |some mk=>.ok (.tuple [.int (c.count+1),aH mk]) { c with count:=c.count+1,own:=c.own++[c.count+1],held:=c.held++[(c.count+1,g,mk)] }
  |none=>.no ⟨"NoneFree",[]⟩) else .no ⟨"BadExtra",[]⟩
structure Inv(n s:Nat)(c:aK):Prop where
 gr:cU c
 al:c.al.length<=n
 cnt:0<=c.count/\c.count<=n
 own:∀o∈c.own,1<=o/\o<=c.count
 O5:c.own.Nodup
 ownL:c.own.length<=n
 held:c.held.Nodup
 hL:c.held.length+c.bs.length<=s
 hE:∀r∈c.held,r.1∈c.own/\Vg c r.2.1/\cY r.2.2=true
 ear:∀b∈c.bs,cY b.sd.ear=true
 due:∀b∈c.bs,∀e,b.sd.due=some e->cY e=true
 en:∀b∈c.bs,b.en.length<=2 * n
 rt:∀b∈c.bs,b.sd.al=true->∃m,(b.sd.o,b.sd.g,m)∈c.held
theorem gD{x:List Int}(h:cY x=true):x.length=6:=by
 unfold cY at h
 simp at h
 exact h.1
theorem Dg{α:Type}[BEq α][LawfulBEq α]:∀{l S:List α},l.Nodup->(∀x∈l,x∈S)->l.length<=S.length
 |[],_,_,_=>by simp
 |x::l,S,nd,h=>by
  rw[asQ]at nd
  have hx:=h x arP
  have:=Dg (l:=l) (S:=S.erase x) nd.2 fun y hy=>by
   have:y≠x:=fun z=>nd.1 (z ▸ hy)
   exact(List.mem_erase_of_ne this).mpr (h y (arO _ hy))
  rw[List.length_erase_of_mem hx]at this
  have:=List.length_pos_of_mem hx
  rw[arU]
  omega
def Nk(c:aK):List Rw:=c.held.map (fun r=>(r.1,r.2.2))++c.bs.map fun b=>(b.sd.o,b.sd.due.getD [])
theorem Uv{c:aK}{near:List Int}{r:Rw}(h:r∈inR c near):∃g,(r.1,g,r.2)∈c.held/\g∈near:=by
 unfold inR at h
 obtain⟨x,h1,rfl⟩:=arV.mp h
 obtain⟨h2,h3⟩:=ar9.mp h1
 exact⟨x.2.1,h2,by simpa using h3⟩
theorem O8{c:aK}{lo:Int}{near:List Int}{r:Rw}(h:r∈Dt c lo near):∃(i:Nat) (b:dO),c.bs[i]?=some b/\b.sd.o=r.1/\b.sd.due=some r.2/\b.sd.al=true/\b.sd.g∈near/\(i:Int)+1≠lo:=by
 unfold Dt at h
 obtain⟨x,h1,rfl⟩:=arV.mp h
 obtain⟨h2,h3⟩:=ar9.mp h1
 obtain⟨i,hi,rfl⟩:=List.mem_mapIdx.mp h2
 simp only[arK,decide_eq_true_eq,ar4,beq_eq_false_iff_ne]at h3
 obtain⟨⟨h4,h5⟩,h6,h7⟩:=h3
 refine⟨i,c.bs[i],arM hi,rfl,?_,h7,h6,h5⟩
 cases hd:c.bs[i].sd.due with
 |none=>simp[hd]at h4
 |some e=>rfl
theorem qp{c:aK}{lo x:Int}{r:Rw}(h:r∈fK c lo x):r∈Nk c:=by
 unfold Nk
 rcases arW.mp h with h|h
 ·obtain⟨g,h1,_⟩:=Uv h
  exact asq _ (arV.mpr ⟨_,h1,rfl⟩)
 ·obtain⟨i,b,h1,h2,h3,_⟩:=O8 h
  refine asF _ (arV.mpr ⟨b,arR h1,?_⟩)
  rw[h2,h3]
  rfl
section
variable{n s:Nat}{c:aK}(I:Inv n s c)
include I
theorem Inv.few{R:List Rw}(h:∀r∈R,r∈Nk c):R.eraseDups.length<=s:=by
 have h1:=Dg (l:=bM R) (S:=Nk c) (af5 (Dr R)) fun r hr=>h r (eO.mp hr)
 rw[tD]at h1
 have:(Nk c).length=c.held.length+c.bs.length:=by simp[Nk]
 have:=I.hL
 omega
theorem Inv.Ju{lo x:Int}:qI (fK c lo x):=fun r hr=>by
 rcases arW.mp hr with h|h
 ·obtain⟨g,h1,_⟩:=Uv h
  exact gD (I.hE _ h1).2.2
 ·obtain⟨i,b,h1,h2,h3,_⟩:=O8 h
  exact gD (I.due b (arR h1) _ h3)
theorem Inv.bi:Ku (2 * n) c:=⟨fun b hb=>gD (I.ear b hb),I.en⟩
theorem Inv.mk1{o g:Int}(h:bQ c o g≠[]):∃r,bQ c o g=firstM c o g::r/\cY (firstM c o g)=true:=by
 cases hm:bQ c o g with
 |nil=>exact absurd hm h
 |cons m r=>
  refine⟨r,by simp[firstM,hm],?_⟩
  have:m∈bQ c o g:=by rw[hm];exact arP
  unfold bQ at this
  obtain⟨x,h1,rfl⟩:=arV.mp this
  have e:firstM c o g=x.2.2:=by simp[firstM,hm]
  rw[e]
  exact(I.hE x (ar9.mp h1).1).2.2
end
theorem Em{c:aK}{o g:Int}{m:List Int}:m∈bQ c o g↔(o,g,m)∈c.held:=by
 unfold bQ
 rw[arV]
 constructor
 ·rintro⟨⟨x,y,z⟩,h,rfl⟩
  obtain⟨h1,h2⟩:=ar9.mp h
  simp at h2
  obtain⟨rfl,rfl⟩:=h2
  exact h1
 ·intro h
  exact⟨_,ar9.mpr ⟨h,by simp⟩,rfl⟩
theorem za{c:aK}{o g:Int}:bQ c o g≠[]↔∃m,(o,g,m)∈c.held:=by
 constructor
 ·intro h
  obtain⟨m,hm⟩:=List.exists_mem_of_ne_nil _ h
  exact⟨m,Em.mp hm⟩
 ·rintro⟨m,hm⟩ z
  have:=Em.mpr hm
  rw[z]at this
  cases this
theorem DW{x y:List Int}(hx:cY x=true)(hy:cY y=true):cY (fG x y)=true:=by
 have lx:=gD hx
 have ly:=gD hy
 unfold cY at *
 simp only[arK,decide_eq_true_eq,ar7]at *
 refine⟨by simp[fG];omega,fun d hd=>?_⟩
 unfold fG at hd
 obtain⟨p,hp,rfl⟩:=arV.mp hd
 have h1:=hx.2 p.1 (List.of_mem_zip hp).1
 have h2:=hy.2 p.2 (List.of_mem_zip hp).2
 split <;> omega
theorem Gf(n:Nat)(x:List Int):okd (n+1) (aH x)=true:=by
 show okd (n+1) (.tuple (x.map PyData.int))=true
 rw[okd]
 exact Vw n x
theorem ahq(x y:List Int):cA (aH x) (aH y)=.ok (.bool (decide (x=y))):=by
 show(Out.when (okd 12 (aH x)&&okd 12 (aH y)) (.ok (PyData.eqv (aH x) (aH y)))).bind _=_
 rw[Gf 11,Gf 11,Yt,zB]
 rfl
theorem ahU(neg:Bool)(m:List Int)(ms:List (List Int)):inD neg (aH m) (.list (ms.map aH))=.ok (.bool (neg ^^ decide (m∈ms))):=by
 have h1:mK 12 (ms.map aH)=true:=JD.mpr fun d hd=>by
  obtain⟨x,_,rfl⟩:=arV.mp hd
  exact Gf 11 x
 have h2:((ms.map aH).any fun z=>PyData.eqv z (aH m))=decide (m∈ms):=by
  induction ms with
  |nil=>simp
  |cons x ms ih=>
   have h1':mK 12 (ms.map aH)=true:=JD.mpr fun d hd=>by
    obtain⟨x,_,rfl⟩:=arV.mp hd
    exact Gf 11 x
   rw[arN,asS,ih h1',Yt,zB]
   by_cases h:x=m
   ·simp[h]
   ·have:¬m=x:=fun z=>h z.symm
    simp[h,this]
 show(Out.when (okd 12 (aH m)&&mK 12 (ms.map aH)) (.ok ((ms.map aH).any fun z=>PyData.eqv z (aH m)))).bind _=_
 rw[h1,h2,Gf 11]
 rfl
def Sp(M:Mo)(L:Lay)(o:bx Dat):Res->Prop
 |.ok d c'=>∃M' bs,o=.ok d M'/\At M' { L with bs:=bs } c'
 |.no x=>o=.exc x M
section
variable{M:Mo}{L:Lay}{c:aK}(a:At M L c){n s:Nat}(I:Inv n s c)(hs:s<=76)(hn:n<=199)
include a I hn
theorem aie:Sp M L (iG M [ob L.c]) (cD c .owner):=by
 obtain⟨M',h1,h2⟩:=KR a (fun o ho=>(I.own o ho).2) (by have:=I.ownL;omega)
 exact⟨M',L.bs,h1,h2⟩
theorem agd(x:Int):Sp M L (gM M [ob L.c,.int x]) (cD c (.ground x)):=by
 have hc:=a.hc
 obtain⟨n,m,hg⟩:=a.hg
 have hl:=I.al
 have h1:=Xf a I.gr (by omega) x
 simp only[cD]
 by_cases h:0<=x/\x<=9
 ·rw[if_pos h]at h1 ⊢
  obtain⟨M',h1,h2⟩:=h1
  exact⟨M',L.bs,by simp[gM,lN,hc,aO,hg,dh,lB,h1],h2⟩
 ·rw[if_neg h]at h1 ⊢
  show _=_
  simp[gM,lN,hc,aO,hg,dh,lB,h1]
include hs
omit hn
theorem aai(o x:Int)(e:List Int)(he:e.length=6)(hv:Vg c x):gQ M [ob L.c,.int o,aH e,.int x]=match Bp o e (bM (fK c 0 x)) (roomOf c x) with
  |[]=>.ok .none
  |r::_=>.exc (pH o e r):=by
 have h1:=I.hL
 have h76:=I.few (R:=fK c 0 x) fun r hr=>qp hr
 have:=Xa a I.gr (by omega) (by omega) o x e he hv (by rw[jV a];omega) (by rw[jV a];exact I.Ju)
 rw[jV a]at this
 exact this
theorem ahv(o g:Int)(m:List Int)(hm:m.length<=1000):Sp M L (dU M [ob L.c,.int o,.int g,aH m]) (cD c (.enrol o g m)):=by
 have hc:=a.hc
 have hr:=a.hr
 obtain⟨n1,m1,hg⟩:=a.hg
 have hL:=I.hL
 have h1:=lG a o
 have h2:=wu a g
 have h3:=Oe M m hm
 have h4:=Jr a (by omega) o g
 simp only[cD,sV,uM,KD,Bb]
 by_cases e1:o∈c.own
 rotate_left
 ·rw[if_neg e1]at h1 ⊢
  show _=_
  simp[dU,fX,hc,aO,aC,h1]
 rw[if_pos e1]at h1 ⊢
 by_cases e2:Vg c g
 rotate_left
 ·rw[if_neg e2]at h2 ⊢
  show _=_
  simp[dU,fX,hc,aO,aC,h1,hg,dh,aG,h2]
 rw[if_pos e2]at h2 ⊢
 by_cases e3:cY m=true
 rotate_left
 ·rw[if_neg e3]at h3 ⊢
  show _=_
  simp[dU,fX,hc,aO,aC,h1,hg,dh,aG,h2,h3]
 rw[if_pos e3]at h3 ⊢
 have h5:cA (.tuple (m.map PyData.int)) (.tuple [.int 0,.int 0,.int 0,.int 0,.int 0,.int 0])=_:=ahq m [0,0,0,0,0,0]
 by_cases e4:m=[0,0,0,0,0,0]
 ·rw[if_pos e4]
  rw[decide_eq_true e4]at h5
  show _=_
  simp[dU,fX,hc,aO,aC,h1,hg,dh,aG,h2,h3,jC]
  simp[h5]
 rw[if_neg e4]
 rw[decide_eq_false e4]at h5
 have h6:=ahU false m (bQ c o g)
 by_cases e5:m∈bQ c o g
 ·rw[if_pos e5]
  rw[decide_eq_true e5]at h6
  simp at h6
  show _=_
  simp[dU,fX,hc,aO,aC,h1,hg,dh,aG,h2,h3,jC,h5,hr,nu,cJ,h4,h6]
 rw[if_neg e5]
 rw[decide_eq_false e5]at h6
 simp at h6
 have h7:=aai a I hs o g m (gD e3) e2
 cases e6:Bp o m (bM (fK c 0 g)) (roomOf c g) with
 |cons r rs=>
  rw[e6]at h7
  show _=_
  simp[dU,fX,hc,aO,aC,h1,hg,dh,aG,h2,h3,jC,h5,hr,nu,cJ,h4,h6,bU,h7]
 |nil=>
  rw[e6]at h7
  have h8:=KQ a (by omega) o g m
  rw[if_neg fun z=>e5 (Em.mpr z)]at h8
  obtain⟨M',h8,h9⟩:=h8
  refine⟨M',L.bs,?_,h9⟩
  simp[dU,fX,hc,aO,aC,h1,hg,dh,aG,h2,h3,jC,h5,hr,nu,cJ,h4,h6,bU,h7,iz,h8]
end
@[simp]theorem arH (n:Nat) (b:dO):List.lookup ("owner" : Str) (iB n b).fs=some (.dat (.int b.sd.o)):=by simp[iB]
@[simp]theorem arE (n:Nat) (b:dO):List.lookup ("ground" : Str) (iB n b).fs=some (.dat (.int b.sd.g)):=by simp[iB]
@[simp]theorem arF (n:Nat) (b:dO):List.lookup ("due" : Str) (iB n b).fs=some (.dat (oV b.sd.due)):=by simp[iB]
@[simp]theorem arG (n:Nat) (b:dO):List.lookup ("ear" : Str) (iB n b).fs=some (.dat (aH b.sd.ear)):=by simp[iB]
@[simp]theorem ara (n:Nat) (b:dO):List.lookup ("alive" : Str) (iB n b).fs=some (.dat (.bool b.sd.al)):=by simp[iB]
section
variable{M:Mo}{L:Lay}{c:aK}(a:At M L c){n s:Nat}(I:Inv n s c)(hs:s<=76)
include a I hs
theorem ahO(o g:Int):Sp M L (fY M [ob L.c,.int o,.int g]) (cD c (.leave o g)):=by
 have hc:=a.hc
 have hr:=a.hr
 obtain⟨n1,m1,hg⟩:=a.hg
 obtain⟨n2,hh⟩:=a.hh
 have hL:=I.hL
 have h1:=lG a o
 have h2:=wu a g
 have h3:=qW a (by omega) o g
 simp only[cD,sV,uM,oG]
 by_cases e1:o∈c.own
 rotate_left
 ·rw[if_neg e1]at h1 ⊢
  show _=_
  simp[fY,jD,hc,aO,aC,h1]
 rw[if_pos e1]at h1 ⊢
 by_cases e2:Vg c g
 rotate_left
 ·rw[if_neg e2]at h2 ⊢
  show _=_
  simp[fY,jD,hc,aO,aC,h1,hg,dh,aG,h2]
 rw[if_pos e2]at h2 ⊢
 by_cases e3:bQ c o g=[]
 ·rw[if_pos e3]at h3 ⊢
  show _=_
  simp[fY,jD,hc,aO,aC,h1,hg,dh,aG,h2,aM,h3]
 rw[if_neg e3]at h3 ⊢
 have h4:pB M [ob L.h,.list [.int g]]=_:=Td a (by omega) [g]
 have key:=fu (tg:=bA [3,4]) (te:=aA cA (bK "owner" (ao 4)) (ao 1)) (M:=M) (ρ:=[some (.dat (ob L.c)),some (.dat (.int o)),some (.dat (.int g)),none,none]) nb (fun x=>.bool (x.2.2.sd.o==o)) ((bW L c).filter fun x=>decide (x.2.2.sd.g∈[g])&&x.2.2.sd.al) fun x hx=>⟨[some (.dat (ob L.c)),some (.dat (.int o)),some (.dat (.int g)),some (.dat (.int ((x.1:Int)+1))),some (.dat (ob x.2.1))],by simp[nb],by
  obtain⟨n,hb⟩:=a.hb' (ar9.mp hx).1
  simp[hb,iB]⟩
 have hl:((bW L c).filter fun x=>decide (x.2.2.sd.g∈[g])&&x.2.2.sd.al).length<=50000:=asi (ar0 _ _) (by rw[a.len'];omega)
 have h5:Qx (.list (((bW L c).filter fun x=>decide (x.2.2.sd.g∈[g])&&x.2.2.sd.al).map fun x=>PyData.bool (x.2.2.sd.o==o)))=.ok (.bool (c.bs.any (XR o g))):=by
  have e:(((bW L c).filter fun x=>decide (x.2.2.sd.g∈[g])&&x.2.2.sd.al).map fun x=>PyData.bool (x.2.2.sd.o==o))=(((bW L c).filter fun x=>decide (x.2.2.sd.g∈[g])&&x.2.2.sd.al).map fun x=>(x.2.2.sd.o==o)).map PyData.bool:=by rw[asn];rfl
  rw[e,ZR,atc,List.any_filter]
  have e2:=Kw a
  have e3:(bW L c).map (fun x=>x.2.2)=c.bs:=by
   have:(bW L c).map (fun x=>x.2.2)=((bW L c).map (fun x=>(x.1,x.2.2))).map (·.2):=by rw[asn];rfl
   rw[this,e2]
   apply ase
   intro i
   simp
   cases c.bs[i]? <;> rfl
  conv=>rhs;rw[←e3]
  rw[atc]
  rfl
 cases e4:c.bs.any (XR o g) with
 |true=>
  rw[e4]at h5
  show _=_
  simp[fY,jD,hc,aO,aC,h1,hg,dh,aG,h2,aM,h3,hh,dG,jx]
  simp at h4 key h5 hl
  simp[h4,key,hl,h5]
 |false=>
  rw[e4]at h5
  have h6:=ag7 a (by omega) I.held o g
  rw[if_neg e3]at h6
  obtain⟨M',h6,h7⟩:=h6
  refine⟨M',L.bs,?_,h7⟩
  simp[fY,jD,hc,aO,aC,h1,hg,dh,aG,h2,aM,h3,hh,dG,jx]
  simp at h4 key h5 hl
  simp[h4,key,hl,h5,hc,aO,hr,nu,zf,h6]
theorem ahZ(o g:Int)(m:List Int)(hm:m.length<=1000):Sp M L (fW M [ob L.c,.int o,.int g,aH m]) (cD c (.bring o g m)):=by
 have hc:=a.hc
 have hr:=a.hr
 obtain⟨n1,m1,hg⟩:=a.hg
 obtain⟨n2,hh⟩:=a.hh
 have hL:=I.hL
 have h1:=lG a o
 have h2:=wu a g
 have h3:=Oe M m hm
 have h4:=qW a (by omega) o g
 simp only[cD,sV,uM,KD,oG]
 by_cases e1:o∈c.own
 rotate_left
 ·rw[if_neg e1]at h1 ⊢
  show _=_
  simp[fW,jB,hc,aO,aC,h1]
 rw[if_pos e1]at h1 ⊢
 by_cases e2:Vg c g
 rotate_left
 ·rw[if_neg e2]at h2 ⊢
  show _=_
  simp[fW,jB,hc,aO,aC,h1,hg,dh,aG,h2]
 rw[if_pos e2]at h2 ⊢
 by_cases e3:cY m=true
 rotate_left
 ·rw[if_neg e3]at h3 ⊢
  show _=_
  simp[fW,jB,hc,aO,aC,h1,hg,dh,aG,h2,h3]
 rw[if_pos e3]at h3 ⊢
 by_cases e4:bQ c o g=[]
 ·rw[if_pos e4]at h4 ⊢
  show _=_
  simp[fW,jB,hc,aO,aC,h1,hg,dh,aG,h2,h3,aM,h4]
 rw[if_neg e4]at h4 ⊢
 obtain⟨M',h,h5,h6⟩:=Lf a (by omega) (.brought o g m) (by omega)
 refine⟨M',L.bs++[h],?_,h6⟩
 simp[Fi.dat]at h5
 simp[fW,jB,hc,aO,aC,h1,hg,dh,aG,h2,h3,aM,h4,hh,dG,jK,h5]
theorem akD(k:Int):Sp M L (ji M [ob L.c,.int k]) (cD c (.bear k)):=by
 have hc:=a.hc
 obtain⟨n2,hh⟩:=a.hh
 have hL:=I.hL
 have h1:=Ly a (by omega) k
 simp only[cD,markB,wM]
 cases hk:bk c k with
 |none=>
  rw[hk]at h1
  show _=_
  simp[ji,lZ,hc,aO,hh,dG,bD,h1]
 |some b=>
  rw[hk]at h1
  obtain⟨_,_,_,_,n3,hb⟩:=qX a hk
  show Sp M L _ (if b.sd.al=true then _ else _)
  cases e1:b.sd.al with
  |false=>
   simp[e1]at h1
   show _=_
   simp[ji,lZ,hc,aO,hh,dG,bD,h1]
  |true=>
   simp[e1]at h1
   cases e2:b.sd.due with
   |none=>
    simp[e2]at h1
    show _=_
    simp[ji,lZ,hc,aO,hh,dG,bD,h1]
   |some e=>
    simp[e2]at h1
    simp only[if_true]
    obtain⟨M',h,h5,h6⟩:=Lf a (by omega) (.born k b.sd.o b.sd.g) (by omega)
    refine⟨M',L.bs++[h],?_,h6⟩
    simp[Fi.dat]at h5
    simp[ji,lZ,hc,aO,hh,dG,bD,h1,hb,iB,jK,h5]
theorem alZ(k:Int)(hn:n<=1000):Sp M L (lH M [ob L.c,.int k]) (cD c (.die k)):=by
 have hc:=a.hc
 obtain⟨n2,hh⟩:=a.hh
 have hL:=I.hL
 have h1:=DG a (by omega) k
 simp only[cD,wM]
 cases hk:bk c k with
 |none=>
  rw[hk]at h1
  show _=_
  simp[lH,qU,hc,aO,hh,dG,bH,h1]
 |some b=>
  rw[hk]at h1
  obtain⟨_,_,h3,h4,n3,hb⟩:=qX a hk
  show Sp M L _ (if b.sd.al=true then _ else _)
  cases e1:b.sd.al with
  |false=>
   simp[e1]at h1
   show _=_
   simp[lH,qU,hc,aO,hh,dG,bH,h1]
  |true=>
   simp[e1]at h1
   have mem:=arR h4
   simp only[if_true]
   have h5:=sJ hb .died (by rw[gD (I.ear b mem)];decide) (by have:=I.en b mem;omega)
   refine⟨_,L.bs,?_,yR (n:=n3) (e:=.died) a h3 h4⟩
   simp[En.dat]at h5
   simp[lH,qU,hc,aO,hh,dG,bH,h1,hb,bL,h5,qT]
theorem akZ(k p:Int)(hn:n<=1000):Sp M L (fM M [ob L.c,.int k,.int p]) (cD c (.tear k p)):=by
 have hc:=a.hc
 obtain⟨n2,hh⟩:=a.hh
 have hL:=I.hL
 have h1:=DG a (by omega) k
 simp only[cD,wM]
 cases hk:bk c k with
 |none=>
  rw[hk]at h1
  show _=_
  simp[fM,jr,hc,aO,hh,dG,bH,h1]
 |some b=>
  rw[hk]at h1
  obtain⟨_,_,h3,h4,n3,hb⟩:=qX a hk
  show Sp M L _ (if b.sd.al=true then _ else _)
  cases e1:b.sd.al with
  |false=>
   simp[e1]at h1
   show _=_
   simp[fM,jr,hc,aO,hh,dG,bH,h1]
  |true=>
   simp[e1]at h1
   have mem:=arR h4
   have h6:=gD (I.ear b mem)
   simp only[if_true]
   by_cases e2:0<=p/\p < 6
   ·rw[if_pos e2]
    obtain⟨q,rfl⟩:∃q:Nat,p=q:=⟨p.toNat,by omega⟩
    have hq:q < 6:=by omega
    have hq2:q < b.sd.ear.length:=by omega
    have hq3:(q:Int) < 6:=by omega
    have h7:b.sd.ear[q]?.getD 0=b.sd.ear[q]:=by simp[hq2]
    simp only[Int.toNat_natCast,List.getD_eq_getElem?_getD,h7]
    have h5:=sJ hb (.torn q) (by omega) (by have:=I.en b mem;omega)
    by_cases e3:9<=b.sd.ear[q]
    ·rw[if_pos e3]
     show _=_
     simp[fM,jr,hc,aO,hh,dG,bH,h1,hb,iB,iW,hq3,cR,hq2,e3]
    ·rw[if_neg e3]
     refine⟨_,L.bs,?_,yR (n:=n3) (e:=.torn q) a h3 h4⟩
     simp[En.dat]at h5
     have hl:∀i,(M.set (Pr.hk L k) i)[Pr.hk L k]?=some i:=fun i=>by rw[bG hb,if_pos rfl]
     simp[fM,jr,hc,aO,hh,dG,bH,h1,hb,iW,hq3,cR,bL,h5,hl,hq2,e3,qT,go]
   ·rw[if_neg e2]
    show _=_
    by_cases e3:0<=p
    ·have e4:¬p < 6:=fun z=>e2 ⟨e3,z⟩
     simp[fM,jr,hc,aO,hh,dG,bH,h1,iW,e3,e4]
    ·simp[fM,jr,hc,aO,hh,dG,bH,h1,iW,e3]
end
theorem Inv.alive{n s:Nat}{c:aK}(I:Inv n s c){b:dO}(h:b∈c.bs)(h2:b.sd.al=true):bQ c b.sd.o b.sd.g≠[]/\Vg c b.sd.g/\b.sd.o∈c.own:=by
 obtain⟨m,hm⟩:=I.rt b h h2
 exact⟨za.mpr ⟨m,hm⟩,(I.hE _ hm).2.1,(I.hE _ hm).1⟩
section
variable{M:Mo}{L:Lay}{c:aK}(a:At M L c){n s:Nat}(I:Inv n s c)(hs:s<=76)(hn:n<=1000)
include a I hs hn
theorem amd(k:Int):Sp M L (jN M [ob L.c,.int k]) (cD c (.cut k)):=by
 have hc:=a.hc
 obtain⟨n2,hh⟩:=a.hh
 have hL:=I.hL
 have h1:=DG a (by omega) k
 simp only[cD,wM,Bb]
 cases hk:bk c k with
 |none=>
  rw[hk]at h1
  show _=_
  simp[jN,nR,hc,aO,hh,dG,bH,h1]
 |some b=>
  rw[hk]at h1
  obtain⟨_,_,h3,h4,n3,hb⟩:=qX a hk
  show Sp M L _ (if b.sd.al=true then _ else _)
  cases e1:b.sd.al with
  |false=>
   simp[e1]at h1
   show _=_
   simp[jN,nR,hc,aO,hh,dG,bH,h1]
  |true=>
   simp[e1]at h1
   simp only[if_true]
   have mem:=arR h4
   obtain⟨q1,q2,q3⟩:=I.alive mem e1
   obtain⟨r,q4,q5⟩:=I.mk1 q1
   have h6:=gD (I.ear b mem)
   have h7:=Ay a (by omega) _ _ q4
   have h8:=JB M b.sd.ear (firstM c b.sd.o b.sd.g) (by omega)
   have q6:=gD (DW (I.ear b mem) q5)
   generalize fG b.sd.ear (firstM c b.sd.o b.sd.g)=e at h8 q6 ⊢
   have h9:=aai a I hs b.sd.o b.sd.g e q6 q2
   cases e2:Bp b.sd.o e (bM (fK c 0 b.sd.g)) (roomOf c b.sd.g) with
   |cons r rs=>
    rw[e2]at h9
    show _=_
    simp[jN,nR,hc,aO,hh,dG,bH,h1,hb,iB,bT,h7,h8,bU,h9]
   |nil=>
    rw[e2]at h9
    have h5:=sJ hb (.cut e) (by omega) (by have:=I.en b mem;omega)
    refine⟨_,L.bs,?_,yR (n:=n3) (e:=.cut e) a h3 h4⟩
    simp[En.dat]at h5
    simp[jN,nR,hc,aO,hh,dG,bH,h1,hb,bT,bL,h5,bU,h7,h8,h9,qT]
theorem akj(x:Int):Sp M L (jU M [ob L.c,.int x]) (cD c (.part x)):=by
 have hc:=a.hc
 obtain⟨n1,m1,hg⟩:=a.hg
 have h1:=ada a I.gr x
 have e0:(aW c x).filter (fun y=>!(y==x))=sE c x:=rfl
 rw[e0]at h1
 simp only[cD,uM]
 by_cases e1:Vg c x
 ·rw[if_pos e1]at h1 ⊢
  by_cases e2:sE c x=[]
  ·rw[if_pos e2]at h1 ⊢
   show _=_
   simp[jU,pG,hc,aO,hg,dh,nY,h1]
  ·rw[if_neg e2]at h1 ⊢
   obtain⟨M',h1,h2⟩:=h1
   refine⟨M',L.bs,?_,h2⟩
   simp[jU,pG,hc,aO,hg,dh,nY,h1]
 ·rw[if_neg e1]at h1 ⊢
  show _=_
  simp[jU,pG,hc,aO,hg,dh,nY,h1]
theorem ah1(x y:Int)(hx:Vg c x)(hy:Vg c y):kY M [ob L.c,.int x,.int y]=.ok (.list ((jh (bM (vK c x y)) (oX c x y)).map pairD)):=by
 have h1:=I.hL
 have f1:=I.few (R:=fK c 0 x) fun r hr=>qp hr
 have f2:=I.few (R:=fK c 0 y) fun r hr=>qp hr
 have f3:=I.few (R:=vK c x y) fun r hr=>by
  rcases arW.mp hr with h|h
  ·exact qp (eO.mp h)
  ·exact qp (eO.mp h)
 have e:IV L c x y=vK c x y:=by unfold IV vK;rw[jV a,jV a]
 have:=aaO a I.gr (by omega) (by omega) x y hx hy (by rw[jV a];omega) (by rw[jV a];omega) (by rw[e];omega) (by rw[jV a];exact I.Ju) (by rw[jV a];exact I.Ju)
 rw[e]at this
 exact this
theorem abj(x y:Int):Sp M L (eX M [ob L.c,.int x,.int y]) (cD c (.qD x y)):=by
 have hc:=a.hc
 obtain⟨n1,m1,hg⟩:=a.hg
 have h1:=wu a y
 have h2:=Ax a I.gr x
 simp only[cD,uM]
 by_cases e1:Vg c y
 rotate_left
 ·rw[if_neg e1]at h1 ⊢
  show _=_
  simp[eX,jA,hc,aO,hg,dh,aG,h1]
 rw[if_pos e1]at h1 ⊢
 by_cases e2:Vg c x
 rotate_left
 ·rw[if_neg e2]at h2 ⊢
  show _=_
  simp[eX,jA,hc,aO,hg,dh,aG,h1,bR,h2]
 rw[if_pos e2]at h2 ⊢
 have h3:=yD false y (aW c x)
 have h4:=acO a I.gr x y e2 e1
 by_cases e3:y∈aW c x
 ·rw[if_pos e3]
  rw[decide_eq_true e3]at h3
  show _=_
  simp[eX,jA,hc,aO,hg,dh,aG,h1,bR,h2,h3]
 rw[if_neg e3]at h4 ⊢
 rw[decide_eq_false e3]at h3
 have h5:=ah1 a I hs hn x y e2 e1
 have h6:∀p∈jh (bM (vK c x y)) (oX c x y),p.1.2.length=6:=fun p hp=>by
  unfold jh at hp
  obtain⟨q,hq,hp⟩:=List.mem_flatMap.mp hp
  obtain⟨r,_,rfl⟩:=arV.mp hp
  obtain⟨i,hi,rfl⟩:=List.mem_mapIdx.mp hq
  have hm:=eO.mp (asB hi)
  rcases arW.mp hm with h|h
  ·exact I.Ju _ (eO.mp h)
  ·exact I.Ju _ (eO.mp h)
 cases e4:jh (bM (vK c x y)) (oX c x y) with
 |cons p ps=>
  rw[e4]at h5 h6
  have h7:=JB M p.1.2 p.2.2 (by have:=h6 p arP;omega)
  show _=_
  simp[eX,jA,hc,aO,hg,dh,aG,h1,bR,h2,h3,ni,h5]
  simp[pairD,Ear.rD,Ear.dT,h7,pH]
 |nil=>
  rw[e4]at h5
  obtain⟨M',h4,h7⟩:=h4
  refine⟨M',L.bs,?_,h7⟩
  simp[eX,jA,hc,aO,hg,dh,aG,h1,bR,h2,h3,ni,h5,vU,h4]
theorem akM(e g x:Int):Sp M L (cW M [ob L.c,.int e,.int g,.int x]) (cD c (.heir e g x)):=by
 have hc:=a.hc
 have hr:=a.hr
 obtain⟨n1,m1,hg⟩:=a.hg
 have hL:=I.hL
 have h1:=lG a e
 have h2:=wu a g
 have h3:=qW a (by omega) e g
 simp only[cD,sV,uM,oG]
 by_cases e1:e∈c.own
 rotate_left
 ·rw[if_neg e1]at h1 ⊢
  show _=_
  simp[cW,dW,hc,aO,aC,h1]
 rw[if_pos e1]at h1 ⊢
 by_cases e2:Vg c g
 rotate_left
 ·rw[if_neg e2]at h2 ⊢
  show _=_
  simp[cW,dW,hc,aO,aC,h1,hg,dh,aG,h2]
 rw[if_pos e2]at h2 ⊢
 by_cases e3:1<=x/\x<=3
 rotate_left
 ·rw[if_neg e3]
  show _=_
  by_cases e4:1<=x
  ·have e5:¬x<=3:=fun z=>e3 ⟨e4,z⟩
   simp[cW,dW,hc,aO,aC,h1,hg,dh,aG,h2,ju,j9,e4,e5]
  ·simp[cW,dW,hc,aO,aC,h1,hg,dh,aG,h2,ju,j9,e4]
 rw[if_pos e3]
 obtain⟨e4,e5⟩:=e3
 by_cases e6:bQ c e g=[]
 ·rw[if_pos e6]at h3 ⊢
  show _=_
  simp[cW,dW,hc,aO,aC,h1,hg,dh,aG,h2,ju,j9,e4,e5,aM,h3]
 rw[if_neg e6]at h3 ⊢
 obtain⟨r,q4,q5⟩:=I.mk1 e6
 have h7:=Ay a (by omega) _ _ q4
 have f1:=I.few (R:=fK c 0 g) fun r hr=>qp hr
 have h8:=zJ a I.gr (by omega) (by omega) g (by rw[jV a];omega)
 rw[if_pos e2,jV a]at h8
 have h9:=zR a I.gr g
 rw[if_pos e2]at h9
 have h10:=Xr M (firstM c e g) x (bM (fK c 0 g)) (roomOf c g) q5 ⟨by omega,e5⟩ (Ai I.Ju) (by rw[tD];omega)
 cases e7:(Qg (firstM c e g) x).find? (Cg (bM (fK c 0 g)) (roomOf c g)) with
 |none=>
  rw[e7]at h10
  show _=_
  simp[cW,dW,hc,aO,aC,h1,hg,dh,aG,h2,ju,j9,e4,e5,aM,h3,bT,h7,cG,h8,bY,h9,h10]
 |some mk=>
  rw[e7]at h10
  obtain⟨M1,k1,a1⟩:=KR a (fun o ho=>(I.own o ho).2) (by have:=I.ownL;omega)
  have k2:=KQ a1 (by show c.held.length<=50000;omega) (c.count+1) g mk
  rw[if_neg (fun z=>by
   have:=(I.own _ (I.hE _ z).1).2
   simp at this
   omega)]at k2
  obtain⟨M2,k2,a2⟩:=k2
  have hc1:=a1.hc
  have hr1:=a1.hr
  refine⟨M2,L.bs,?_,a2⟩
  simp[cW,dW,hc,aO,aC,h1,hg,dh,aG,h2,ju,j9,e4,e5,aM,h3,bT,h7,cG,h8,bY,h9,h10,gU,k1]
  simp[hc1,aO,hr1,nu,iz,k2]
end
section
variable{M:Mo}{L:Lay}{c:aK}(a:At M L c){n s:Nat}(I:Inv n s c)(hs:s<=76)(hn:n<=1000)
include a I hs hn
theorem ajO(k o:Int):Sp M L (dH M [ob L.c,.int k,.int o]) (cD c (.sell k o)):=by
 have hc:=a.hc
 obtain⟨n2,hh⟩:=a.hh
 have hL:=I.hL
 have h1:=Ly a (by omega) k
 have h2:=lG a o
 simp only[cD,markB,wM,Bb,sV,oG]
 cases hk:bk c k with
 |none=>
  rw[hk]at h1
  show _=_
  simp[dH,fO,hc,aO,hh,dG,bD,h1]
 |some b=>
  rw[hk]at h1
  obtain⟨k1,k2,h3,h4,n3,hb⟩:=qX a hk
  show Sp M L _ (if b.sd.al=true then _ else _)
  cases e1:b.sd.al with
  |false=>
   simp[e1]at h1
   show _=_
   simp[dH,fO,hc,aO,hh,dG,bD,h1]
  |true=>
   simp[e1]at h1
   simp only[if_true]
   cases e2:b.sd.due with
   |none=>
    simp[e2]at h1
    show _=_
    simp[dH,fO,hc,aO,hh,dG,bD,h1]
   |some e0=>
    simp[e2]at h1
    show Sp M L _ (if o∈c.own then _ else _)
    by_cases e3:o∈c.own
    rotate_left
    ·rw[if_neg e3]at h2 ⊢
     show _=_
     simp[dH,fO,hc,aO,hh,dG,bD,h1,aC,h2]
    rw[if_pos e3]at h2 ⊢
    by_cases e4:b.sd.o=o
    ·rw[if_pos e4]
     show _=_
     simp[dH,fO,hc,aO,hh,dG,bD,h1,aC,h2,hb,e4]
    rw[if_neg e4]
    have h5:=qW a (by omega) o b.sd.g
    by_cases e5:bQ c o b.sd.g=[]
    ·rw[if_pos e5]at h5 ⊢
     show _=_
     simp[dH,fO,hc,aO,hh,dG,bD,h1,aC,h2,hb,e4,aM,h5]
    rw[if_neg e5]at h5 ⊢
    have mem:=arR h4
    obtain⟨q1,q2,q3⟩:=I.alive mem e1
    obtain⟨r,q4,q5⟩:=I.mk1 e5
    have h6:=gD (I.ear b mem)
    have h7:=Ay a (by omega) _ _ q4
    have h8:=JB M b.sd.ear (firstM c o b.sd.g) (by omega)
    have q6:=gD (DW (I.ear b mem) q5)
    generalize fG b.sd.ear (firstM c o b.sd.g)=e at h8 q6 ⊢
    have f1:=I.few (R:=fK c k b.sd.g) fun r hr=>qp hr
    have h9:=Fb a I.gr (by omega) (by omega) k b.sd.g (by rw[jV a];omega)
    rw[if_pos q2,jV a]at h9
    have h10:=zR a I.gr b.sd.g
    rw[if_pos q2]at h10
    have h11:=Ov M o e (bM (fK c k b.sd.g)) (roomOf c b.sd.g) q6 (Ai I.Ju) (ZL (by omega))
    cases e6:Bp o e (bM (fK c k b.sd.g)) (roomOf c b.sd.g) with
    |cons r rs=>
     rw[e6]at h11
     show _=_
     simp[dH,fO,hc,aO,hh,dG,bD,h1,aC,h2,hb,e4,aM,h5,bT,h7,h8,cZ,h9,bY,h10,h11,pH]
    |nil=>
     rw[e6]at h11
     have h12:=sJ hb (.sold o e) (by omega) (by have:=I.en b mem;omega)
     have a1:=yR (n:=n3) (e:=.sold o e) a h3 h4
     have hk2:bk (gH c (k - 1).toNat (.sold o e)) k=some (qT b (.sold o e)):=by
      unfold bk
      rw[if_pos ⟨k1,by simpa [gH] using k2⟩,yC,if_pos rfl,h4]
      rfl
     obtain⟨M',h13,a2⟩:=Gk a1 (by simp[gH];omega) (I.bi.step _ _ q6) (by omega) k hk2
     have hc1:=a1.hc
     obtain⟨n4,hh1⟩:=a1.hh
     refine⟨M',L.bs,?_,a2⟩
     simp[En.dat]at h12
     simp only[qT]at h13 hc1 hh1
     simp[dH,fO,hc,aO,hh,dG,bD,h1,aC,h2,hb,e4,aM,h5,bT,h7,h8,cZ,h9,bY,h10,h11,bL,h12]
     simp[hc1,aO,hh1,dG,iD,h13]
theorem aiS(k g:Int):Sp M L (dI M [ob L.c,.int k,.int g]) (cD c (.move k g)):=by
 have hc:=a.hc
 obtain⟨n2,hh⟩:=a.hh
 obtain⟨n5,m5,hg⟩:=a.hg
 have hL:=I.hL
 have h1:=Ly a (by omega) k
 have h2:=wu a g
 simp only[cD,markB,wM,Bb,uM,oG]
 cases hk:bk c k with
 |none=>
  rw[hk]at h1
  show _=_
  simp[dI,fP,hc,aO,hh,dG,bD,h1]
 |some b=>
  rw[hk]at h1
  obtain⟨k1,k2,h3,h4,n3,hb⟩:=qX a hk
  show Sp M L _ (if b.sd.al=true then _ else _)
  cases e1:b.sd.al with
  |false=>
   simp[e1]at h1
   show _=_
   simp[dI,fP,hc,aO,hh,dG,bD,h1]
  |true=>
   simp[e1]at h1
   simp only[if_true]
   cases e2:b.sd.due with
   |none=>
    simp[e2]at h1
    show _=_
    simp[dI,fP,hc,aO,hh,dG,bD,h1]
   |some e=>
    simp[e2]at h1
    show Sp M L _ (if Vg c g then _ else _)
    by_cases e3:Vg c g
    rotate_left
    ·rw[if_neg e3]at h2 ⊢
     show _=_
     simp[dI,fP,hc,aO,hh,dG,bD,h1,hg,dh,aG,h2]
    rw[if_pos e3]at h2 ⊢
    by_cases e4:b.sd.g=g
    ·rw[if_pos e4]
     show _=_
     simp[dI,fP,hc,aO,hh,dG,bD,h1,hg,dh,aG,h2,hb,e4]
    rw[if_neg e4]
    have h5:=qW a (by omega) b.sd.o g
    by_cases e5:bQ c b.sd.o g=[]
    ·rw[if_pos e5]at h5 ⊢
     show _=_
     simp[dI,fP,hc,aO,hh,dG,bD,h1,hg,dh,aG,h2,hb,e4,aM,h5]
    rw[if_neg e5]at h5 ⊢
    have mem:=arR h4
    have h6:=gD (I.ear b mem)
    have q6:=gD (I.due b mem e e2)
    have h11:=aai a I hs b.sd.o g e q6 e3
    cases e6:Bp b.sd.o e (bM (fK c 0 g)) (roomOf c g) with
    |cons r rs=>
     rw[e6]at h11
     show _=_
     simp[dI,fP,hc,aO,hh,dG,bD,h1,hg,dh,aG,h2,hb,e4,aM,h5,e2,oV,bU,h11]
    |nil=>
     rw[e6]at h11
     have h12:=sJ hb (.moved g) (by omega) (by have:=I.en b mem;omega)
     have a1:=yR (n:=n3) (e:=.moved g) a h3 h4
     have hk2:bk (gH c (k - 1).toNat (.moved g)) k=some (qT b (.moved g)):=by
      unfold bk
      rw[if_pos ⟨k1,by simpa [gH] using k2⟩,yC,if_pos rfl,h4]
      rfl
     obtain⟨M',h13,a2⟩:=Gk a1 (by simp[gH];omega) (I.bi.step _ _ trivial) (by omega) k hk2
     have hc1:=a1.hc
     obtain⟨n4,hh1⟩:=a1.hh
     refine⟨M',L.bs,?_,a2⟩
     simp[En.dat]at h12
     simp only[qT]at h13 hc1 hh1
     simp[dI,fP,hc,aO,hh,dG,bD,h1,hg,dh,aG,h2,hb,e4,aM,h5,e2,oV,bU,h11,bL,h12]
     simp[hc1,aO,hh1,dG,iD,h13]
theorem akV(e h:Int):Sp M L (fQ M [ob L.c,.int e,.int h]) (cD c (.pass e h)):=by
 have hc:=a.hc
 have hr:=a.hr
 have hL:=I.hL
 have h1:=lG a e
 have h2:=lG a h
 simp only[cD,sV]
 by_cases e1:e∈c.own
 rotate_left
 ·rw[if_neg e1]at h1 ⊢
  show _=_
  simp[fQ,jL,hc,aO,aC,h1]
 rw[if_pos e1]at h1 ⊢
 by_cases e2:h∈c.own
 rotate_left
 ·rw[if_neg e2]at h2 ⊢
  show _=_
  simp[fQ,jL,hc,aO,aC,h1,h2]
 rw[if_pos e2]at h2 ⊢
 by_cases e3:e=h
 ·rw[if_pos e3]
  show _=_
  simp[fQ,jL,hc,aO,aC,h1,h2,e3]
 rw[if_neg e3]
 obtain⟨M1,h3,a1⟩:=Za a (by omega) e h
 have hc1:=a1.hc
 obtain⟨n1,hh1⟩:=a1.hh
 have h4:=afT a1 (by show c.bs.length<=50000;omega) e
 have ehd:bW L { c with held:=handed c e h }=bW L c:=rfl
 rw[ehd]at h4
 generalize hX:((bW L c).filter fun x=>(x.2.2.sd.o==e)&&x.2.2.sd.al)=X at h4
 have hXl:X.length<=1000:=by
  rw[←hX]
  exact asi (ar0 _ _) (by rw[a.len'];omega)
 have bi1:Ku (2 * n) { c with held:=handed c e h }:=⟨I.bi.ear,I.bi.en⟩
 obtain⟨ρ',M2,g1,g2,g3⟩:=PB (tg:=bA [4,5]) (body:=rK) (fun ρ=>∃x y,ρ=[some (.dat (ob L.c)),some (.dat (.int e)),some (.dat (.int h)),some (.dat (.list (X.map nb))),x,y])
  (fun i c1=>Ku (2 * n+i) c1/\c1.bs.length=c.bs.length) (.passed h) L 1000 X M1 { c with held:=handed c e h } [some (.dat (ob L.c)),some (.dat (.int e)),some (.dat (.int h)),some (.dat (.list (X.map nb))),none,none] 0 (by omega) a1 ⟨bi1,rfl⟩ ⟨none,none,rfl⟩ (fun M1 c1 ρ x i hi a1 p1 q1 hx=>by
   obtain⟨bi1,l1⟩:=p1
   obtain⟨x0,y0,rfl⟩:=q1
   rw[←hX]at hx
   obtain⟨z1,z2⟩:=EY (ar9.mp hx).1
   have hl:x.1 < c1.bs.length:=by rw[l1];exact(arL.mp z2).1
   have z3:=arM hl
   obtain⟨nx,hx1⟩:=a1.hb _ _ _ z1 z3
   have mem:=asB hl
   have hb:=sJ hx1 (.passed h) (by rw[bi1.ear _ mem];decide) (by have:=bi1.en _ mem;omega)
   refine⟨[some (.dat (ob L.c)),some (.dat (.int e)),some (.dat (.int h)),some (.dat (.list (X.map nb))),some (.dat (.int ((x.1:Int)+1))),some (.dat (ob x.2.1))],[some (.dat (ob L.c)),some (.dat (.int e)),some (.dat (.int h)),some (.dat (.list (X.map nb))),some (.dat (.int ((x.1:Int)+1))),some (.dat (ob x.2.1))],_,by simp[nb],?_,⟨_,_,rfl⟩,yR (n:=nx) a1 z1 z3,bi1.step _ _ trivial,by simp[gH,l1]⟩
   have hb:mH M1 [ob x.2.1,.tuple [.str "passed",.int h]]=_:=hb
   simp[rK,hx1,bL,hb,qT])
 obtain⟨x0,y0,rfl⟩:=g2
 have g4:vf X (.passed h) { c with held:=handed c e h }=oR (fun x=>(x.sd.o==e)&&x.sd.al) (.passed h) { c with held:=handed c e h }:=by
  rw[←hX]
  exact W7 a1 (fun x=>(x.sd.o==e)&&x.sd.al) (.passed h)
 rw[g4]at g3
 have hc2:=g3.hc
 have hl:∀i,(M2.set L.c i)[L.c]?=some i:=fun i=>by rw[bG hc2,if_pos rfl]
 have hk:=any_keys e c.own
 rw[decide_eq_true e1]at hk
 have hf:((c.own.map fun o=>(PyData.int o,PyData.bool true)).filter fun p=>!PyData.eqv p.1 (.int e))=(c.own.filter fun o=>!(o==e)).map fun o=>(PyData.int o,PyData.bool true):=by
  rw[List.filter_map]
  congr 1
 have a3:=g3.setC (n:=c.count) (own:=c.own.filter fun o=>!(o==e))
 refine⟨_,L.bs,?_,a3⟩
 have key:=fu (tg:=bA [4,5]) (te:=aq 4) (M:=M2.set L.c (aO L { oR (fun x=>(x.sd.o==e)&&x.sd.al) (.passed h) { c with held:=handed c e h } with count:=c.count,own:=c.own.filter fun o=>!(o==e) })) (ρ:=[some (.dat (ob L.c)),some (.dat (.int e)),some (.dat (.int h)),some (.dat (.list (X.map nb))),none,none]) nb (fun x=>.int ((x.1:Int)+1)) X fun x _=>⟨[some (.dat (ob L.c)),some (.dat (.int e)),some (.dat (.int h)),some (.dat (.list (X.map nb))),some (.dat (.int ((x.1:Int)+1))),some (.dat (ob x.2.1))],by simp[nb],by simp⟩
 have eo:(RN c e).map PyData.int=X.map fun x=>.int ((x.1:Int)+1):=by
  unfold RN
  rw[←Kw a,List.filter_map,asn,asn,←hX]
  rfl
 have eo:lI (RN c e)=.list (X.map fun x=>.int ((x.1:Int)+1)):=congrArg PyData.list eo
 have hX2:X.length<=50000:=by omega
 have f2:c.own.length<=100000:=by have:=I.ownL;omega
 rw[eo]
 simp[fQ,jL,hc,aO,aC,h1,h2,e3,hr,nu,rJ,h3]
 simp[hc1,aO,hh1,dG,Bm,h4,g1]
 simp only[oR]at hc2 key ⊢
 have hk':(c.own.any ((fun p=>PyData.eqv p.1 (.int e)) ∘ fun o=>(PyData.int o,PyData.bool true)))=true:=by
  rw[←atc]
  exact hk
 simp[hc2,aO,f2]
 rw[hk',hf]
 simp only[aO]at key
 simp[key,hX2]
end
theorem cU.same{c c':aK}(i:cU c)(h1:c'.al=c.al)(h2:c'.ci=c.ci):cU c':=by
 cases c
 cases c'
 simp at h1 h2
 subst h1 h2
 exact⟨i.len,i.few,i.al,i.mem,i.own,i.up,i.one⟩
theorem cU.lt{c:aK}(i:cU c){k:Nat}{l:List Int}(h:c.ci[k]?=some l):k < c.al.length:=by
 rw[←i.len]
 exact(arL.mp h).1
theorem cU.add{c:aK}(i:cU c)(hf:c.al.length < 200){x:Int}(hx:0<=x/\x<=9):cU { c with al:=c.al++[x],ci:=c.ci++[[(c.al.length:Int)+1]] }:=by
 have key:∀(k:Nat) (l:List Int),(c.ci++[[(c.al.length:Int)+1]])[k]?=some l->(c.ci[k]?=some l/\k < c.al.length)∨(k=c.al.length/\l=[(c.al.length:Int)+1]):=fun k l h=>by
  by_cases hk:k < c.ci.length
  ·rw[arX hk]at h
   exact .inl ⟨h,i.lt h⟩
  ·rw[ar6 (by omega)]at h
   have hk2:k - c.ci.length=0:=by
    have:=(arL.mp h).1
    simp at this
    omega
   rw[hk2]at h
   simp at h
   exact .inr ⟨by have:=i.len;omega,h.symm⟩
 refine⟨by simp[i.len],by simp;omega,fun y hy=>?_,fun k l h y hy=>?_,fun k l h=>?_,fun k l h=>?_,fun k j l h hj=>?_⟩
 ·rcases arW.mp hy with hy|hy
  ·exact i.al y hy
  ·rw[arQ.mp hy]
   exact hx
 ·show 1<=y/\y<=((c.al++[x]).length:Int)
  rw[asw,List.length_singleton]
  rcases key k l h with⟨h,_⟩|⟨_,rfl⟩
  ·have:=i.mem k l h y hy
   omega
  ·rw[arQ.mp hy]
   omega
 ·rcases key k l h with⟨h,_⟩|⟨rfl,rfl⟩
  ·exact i.own k l h
  ·simp
 ·rcases key k l h with⟨h,_⟩|⟨rfl,rfl⟩
  ·exact i.up k l h
  ·simp
 ·show(c.ci++[[(c.al.length:Int)+1]])[j]?=some l
  rcases key k l h with⟨h,_⟩|⟨rfl,rfl⟩
  ·have h2:=i.one k j l h hj
   rw[arX (arL.mp h2).1]
   exact h2
  ·have:j=c.al.length:=by
    rw[arQ]at hj
    omega
   rw[this,←i.len]
   simp
theorem aas(l:List Int):∀(s:List Int) (ci:List (List Int)) (k:Nat),(∀y∈s,1<=y)->(s.foldl (fun s y=>s.set (y - 1).toNat l) ci)[k]?=if ((k:Int)+1∈s)/\k < ci.length then some l else ci[k]?
 |[],ci,k,_=>by simp
 |y::s,ci,k,h=>by
  rw[asY,aas l s _ k fun z hz=>h z (arO _ hz),asf]
  have hy:=h y arP
  by_cases h1:(k:Int)+1∈s/\k < ci.length
  ·rw[if_pos h1,if_pos ⟨arO _ h1.1,h1.2⟩]
  ·rw[if_neg h1,asR]
   by_cases h2:(y - 1).toNat=k
   ·rw[if_pos h2]
    have e:(k:Int)+1=y:=by omega
    by_cases h3:k < ci.length
    ·rw[if_pos (by omega),if_pos ⟨by rw[e];exact arP,h3⟩]
    ·rw[if_neg (by omega),if_neg (fun z=>h3 z.2),asl (by omega)]
   ·rw[if_neg h2,if_neg]
    rintro⟨z,h3⟩
    rcases arZ.mp z with z|z
    ·omega
    ·exact h1 ⟨z,h3⟩
theorem Jg(ci:List (List Int))(l:List Int)(k:Nat)(h:∀y∈l,1<=y):(encl ci l)[k]?=if ((k:Int)+1∈l)/\k < ci.length then some l else ci[k]?:=aas l l ci k h
theorem cU.again{c:aK}(i:cU c){ci:List (List Int)}(hl:ci.length=c.ci.length)(P:List Int->Prop)
  (h1:∀(k:Nat) (l:List Int),ci[k]?=some l->(P l/\(k:Int)+1∈l)∨c.ci[k]?=some l)
  (h2:∀l,P l->l.Pairwise (· < ·)/\∀y∈l,Vg c y/\ci[(y - 1).toNat]?=some l)
  (h3:∀(k j:Nat) (l:List Int),ci[k]?=some l->c.ci[k]?=some l->c.ci[j]?=some l->(k:Int)+1∈l->¬P l->ci[j]?=some l):cU { c with ci:=ci }:=by
 refine⟨by show ci.length=_;rw[hl,i.len],i.few,i.al,fun k l h y hy=>?_,fun k l h=>?_,fun k l h=>?_,fun k j l h hj=>?_⟩
 ·rcases h1 k l h with⟨p,_⟩|h
  ·exact((h2 l p).2 y hy).1
  ·exact i.mem k l h y hy
 ·rcases h1 k l h with⟨_,p⟩|h
  ·exact p
  ·exact i.own k l h
 ·rcases h1 k l h with⟨p,_⟩|h
  ·exact(h2 l p).1
  ·exact i.up k l h
 ·show ci[j]?=some l
  have pj:P l->ci[j]?=some l:=fun p=>by
   have:=((h2 l p).2 _ hj).2
   rwa [show((j:Int)+1 - 1).toNat=j by omega]at this
  rcases h1 k l h with⟨p,_⟩|h'
  ·exact pj p
  ·by_cases p:P l
   ·exact pj p
   ·exact h3 k j l h h' (i.one k j l h' hj) (i.own k l h') p
theorem cU.at{c:aK}(i:cU c){x:Int}(h:Vg c x):c.ci[(x - 1).toNat]?=some (aW c x):=by
 obtain⟨k,hk,rfl⟩:=Ak h
 have hk':k < c.ci.length:=by rw[i.len];exact hk
 simp[aW,hk']
theorem cU.self{c:aK}(i:cU c){x:Int}(h:Vg c x):x∈aW c x:=by
 have:=i.own _ _ (i.at h)
 rwa [show(((x - 1).toNat:Nat):Int)+1=x by omega]at this
theorem cU.eq{c:aK}(i:cU c){x y:Int}(h:Vg c x)(hy:y∈aW c x):aW c y=aW c x:=by
 have v:=i.mem _ _ (i.at h) y hy
 have:=i.one _ (y - 1).toNat _ (i.at h) (by rw[show(((y - 1).toNat:Nat):Int)+1=y by omega];exact hy)
 rw[i.at v]at this
 exact ar8 this
theorem Ar{l:List Int}{i:Int}:i∈sortI l↔i∈l:=by
 unfold sortI
 rw[List.mem_mergeSort]
theorem af8{l:List Int}(h:l.Nodup):(sortI l).Pairwise (· < ·):=by
 unfold sortI
 have srt:=as7 (le:=fun a b:Int=>decide (a<=b)) (fun a b c k1 k2=>by rw[decide_eq_true_eq]at *;omega) (fun a b=>by rw[as9,decide_eq_true_eq,decide_eq_true_eq];omega) l
 have nd:(l.mergeSort fun a b=>decide (a<=b)).Nodup:=(List.mergeSort_perm _ _).nodup_iff.mpr h
 refine List.Pairwise.imp₂ (fun a b h1 h2=>?_) srt nd
 rw[decide_eq_true_eq]at h1
 have:a≠b:=h2
 omega
theorem cU.qD{c:aK}(i:cU c){x y:Int}(hx:Vg c x)(hy:Vg c y)(hn:y∉aW c x):cU { c with ci:=encl c.ci (sortI (aW c x++aW c y)) }:=by
 generalize hS:sortI (aW c x++aW c y)=S
 have mem:∀z,z∈S↔z∈aW c x∨z∈aW c y:=fun z=>by rw[←hS,Ar,arW]
 have vg:∀z∈S,Vg c z:=fun z hz=>by
  rcases(mem z).mp hz with h|h
  ·exact i.mem _ _ (i.at hx) z h
  ·exact i.mem _ _ (i.at hy) z h
 have up:S.Pairwise (· < ·):=by
  rw[←hS]
  refine af8 ?_
  rw[asH]
  have nd:∀{l:List Int},l.Pairwise (· < ·)->l.Nodup:=fun h=>h.imp fun {a b} z e=>by omega
  refine⟨nd (i.up _ _ (i.at hx)),nd (i.up _ _ (i.at hy)),fun a ha b hb e=>?_⟩
  subst e
  have e1:=i.eq hx ha
  have e2:=i.eq hy hb
  rw[e1]at e2
  exact hn (e2 ▸ i.self hy)
 have get:=fun k=>Jg c.ci S k fun z hz=>(vg z hz).1
 refine i.again (P:=fun l=>l=S) (by unfold encl;rw[yQ]) (fun k l h=>?_) (fun l hl=>?_) (fun k j l h h' hj hk np=>?_)
 ·rw[get]at h
  split at h
  ·next z=>
   cases h
   exact .inl ⟨rfl,z.1⟩
  ·exact .inr h
 ·subst hl
  refine⟨up,fun z hz=>⟨vg z hz,?_⟩⟩
  have v:=vg z hz
  have e:(((z - 1).toNat:Nat):Int)+1=z:=by omega
  rw[get,e,if_pos ⟨hz,by rw[i.len];omega⟩]
 ·rw[get]
  by_cases z:(j:Int)+1∈S/\j < c.ci.length
  ·exfalso
   have v:=vg _ z.1
   have ej:aW c ((j:Int)+1)=l:=by
    have:=i.at v
    rw[show((j:Int)+1 - 1).toNat=j by omega,hj]at this
    exact(ar8 this).symm
   have hk2:(k:Int)+1∈S:=by
    rw[mem]
    rcases(mem _).mp z.1 with q|q
    ·exact .inl (by rw[←i.eq hx q,ej];exact hk)
    ·exact .inr (by rw[←i.eq hy q,ej];exact hk)
   rw[get,if_pos ⟨hk2,(arL.mp h').1⟩]at h
   exact np (ar8 h).symm
  ·rw[if_neg z]
   exact hj
theorem cU.part{c:aK}(i:cU c){x:Int}(hx:Vg c x):cU { c with ci:=encl (encl c.ci [x]) (sE c x) }:=by
 have mem:∀z,z∈sE c x↔z∈aW c x/\z≠x:=fun z=>by
  unfold sE
  rw[ar9]
  simp
 have vg:∀z∈sE c x,Vg c z:=fun z hz=>i.mem _ _ (i.at hx) z ((mem z).mp hz).1
 have l1:(encl c.ci [x]).length=c.ci.length:=by unfold encl;rw[yQ]
 have get:∀k:Nat,(encl (encl c.ci [x]) (sE c x))[k]?=if ((k:Int)+1∈sE c x)/\k < c.ci.length then some (sE c x) else if ((k:Int)+1=x)/\k < c.ci.length then some [x] else c.ci[k]?:=fun k=>by
  rw[Jg _ _ _ fun z hz=>(vg z hz).1,l1,Jg _ _ _ fun z hz=>by rw[arQ.mp hz];exact hx.1]
  simp only[arQ]
 refine i.again (P:=fun l=>l=sE c x/\l≠[]∨l=[x]) (by unfold encl;rw[yQ,yQ]) (fun k l h=>?_) (fun l hl=>?_) (fun k j l h h' hj hk np=>?_)
 ·rw[get]at h
  split at h
  ·next z=>
   cases h
   exact .inl ⟨.inl ⟨rfl,List.ne_nil_of_mem z.1⟩,z.1⟩
  ·split at h
   ·next z=>
    cases h
    exact .inl ⟨.inr rfl,by rw[z.1];simp⟩
   ·exact .inr h
 ·rcases hl with⟨rfl,_⟩|rfl
  ·refine⟨(i.up _ _ (i.at hx)).filter _,fun z hz=>⟨vg z hz,?_⟩⟩
   have v:=vg z hz
   have e:(((z - 1).toNat:Nat):Int)+1=z:=by omega
   rw[get,e,if_pos ⟨hz,by rw[i.len];omega⟩]
  ·refine⟨by simp,fun z hz=>?_⟩
   rw[arQ.mp hz]
   refine⟨hx,?_⟩
   have e:(((x - 1).toNat:Nat):Int)+1=x:=by omega
   rw[get,e,if_neg (fun z=>((mem x).mp z.1).2 rfl),if_pos ⟨rfl,by rw[i.len];omega⟩]
 ·have key:∀m:Nat,c.ci[m]?=some l->(m:Int)+1∈aW c x->l=aW c x:=fun m hm q=>by
   have v:=i.mem _ _ (i.at hx) _ q
   have:=i.at v
   rw[show((m:Int)+1 - 1).toNat=m by omega,hm,i.eq hx q]at this
   exact ar8 this
  have out:(k:Int)+1∉aW c x:=fun q=>by
   rw[get]at h
   by_cases e:(k:Int)+1=x
   ·rw[if_neg (fun z=>((mem _).mp z.1).2 e),if_pos ⟨e,(arL.mp h').1⟩]at h
    exact np (.inr (ar8 h).symm)
   ·rw[if_pos ⟨(mem _).mpr ⟨q,e⟩,(arL.mp h').1⟩]at h
    have e2:=(ar8 h).symm
    exact np (.inl ⟨e2,fun z=>by rw[z]at hk;cases hk⟩)
  have outj:(j:Int)+1∉aW c x:=fun q=>out (key j hj q ▸ hk)
  have o1:¬((j:Int)+1∈sE c x/\j < c.ci.length):=fun z=>outj ((mem _).mp z.1).1
  have o2:¬((j:Int)+1=x/\j < c.ci.length):=fun z=>outj (by rw[z.1];exact i.self hx)
  rw[get,if_neg o1,if_neg o2]
  exact hj
def Good(held:List Row3)(s:Sd):Prop:=cY s.ear=true/\(∀e,s.due=some e->cY e=true)/\(s.al=true->∃m,(s.o,s.g,m)∈held)
structure S9(m:Nat)(c:aK):Prop where
 g:∀b∈c.bs,Good c.held b.sd
 en:∀b∈c.bs,b.en.length<=m
theorem Inv.V8{n s:Nat}{c:aK}(I:Inv n s c):S9 (2 * n) c:=⟨fun b hb=>⟨I.ear b hb,I.due b hb,I.rt b hb⟩,I.en⟩
theorem Y0{c:aK}{i:Nat}{e:En}{b:dO}(h:b∈(gH c i e).bs):b∈c.bs∨∃b0,c.bs[i]?=some b0/\b=qT b0 e:=by
 obtain⟨j,hj⟩:=List.mem_iff_getElem?.mp h
 rw[yC]at hj
 split at hj
 ·next z=>
  subst z
  obtain⟨b0,h3,h4⟩:=asM.mp hj
  exact .inr ⟨b0,h3,h4.symm⟩
 ·exact .inl (arR hj)
theorem S9.one{m:Nat}{c:aK}(B:S9 m c){i:Nat}{e:En}(h:∀b,c.bs[i]?=some b->Good c.held (go b.sd e)):S9 (m+1) (gH c i e):=by
 refine⟨fun b hb=>?_,fun b hb=>?_⟩
 ·rcases Y0 hb with h1|⟨b0,h1,rfl⟩
  ·exact B.g b h1
  ·exact h b0 h1
 ·rcases Y0 hb with h1|⟨b0,h1,rfl⟩
  ·have:=B.en b h1
   omega
  ·have:=B.en b0 (arR h1)
   simp[qT]
   omega
theorem S9.many{m:Nat}{c:aK}(B:S9 m c){p:dO->Bool}{e:En}(h:∀b∈c.bs,p b=true->Good c.held (go b.sd e)):S9 (m+1) (oR p e c):=by
 refine⟨fun b hb=>?_,fun b hb=>?_⟩
 ·obtain⟨b0,h1,rfl⟩:=arV.mp hb
  cases hp:p b0 with
  |true=>
   rw[if_pos rfl]
   exact h b0 h1 hp
  |false=>
   rw[if_neg (by simp)]
   exact B.g b0 h1
 ·obtain⟨b0,h1,rfl⟩:=arV.mp hb
  have:=B.en b0 h1
  cases hp:p b0 <;> simp[qT] <;> omega
theorem Good.mono{held held':List Row3}{s:Sd}(g:Good held s)(h:∀r∈held,r∈held'):Good held' s:=⟨g.1,g.2.1,fun z=>by
 obtain⟨m,hm⟩:=g.2.2 z
 exact⟨m,h _ hm⟩⟩
theorem Inv.of{n s n' s':Nat}{c c':aK}(I:Inv n s c)(hn:n<=n')(gr:cU c')(hal:c'.al.length<=n')(ec:c'.count=c.count)(eo:c'.own=c.own)(hd:c'.held.Nodup)(hL:c'.held.length+c'.bs.length<=s')(hE:∀r∈c'.held,r.1∈c'.own/\Vg c' r.2.1/\cY r.2.2=true)(B:S9 (2 * n') c'):Inv n' s' c':=
 ⟨gr,hal,by have:=I.cnt;rw[ec];omega,by rw[ec,eo];exact I.own,by rw[eo];exact I.O5,by have:=I.ownL;rw[eo];omega,hd,hL,hE,fun b hb=>(B.g b hb).1,fun b hb=>(B.g b hb).2.1,B.en,fun b hb=>(B.g b hb).2.2⟩
theorem acn{x:List Int}{p:Nat}(h:cY x=true)(h9:¬9<=x.getD p 0):cY (wY x p)=true:=by
 unfold cY at *
 simp only[arK,decide_eq_true_eq,ar7]at *
 refine⟨by rw[acG];exact h.1,fun d hd=>?_⟩
 unfold wY at hd
 obtain⟨i,hi,rfl⟩:=List.mem_mapIdx.mp hd
 have:=h.2 _ (asB hi)
 split
 ·next e=>
  subst e
  have:x.getD i 0=x[i]:=by simp[hi]
  omega
 ·exact this
theorem Pg{r:Row3}:∀(l acc:List Row3),r∈l.foldl FJ acc↔r∈acc∨r∈l
 |[],acc=>by simp
 |x::l,acc=>by
  rw[asY,Pg l]
  unfold FJ
  split
  ·next h=>
   constructor
   ·rintro(z|z)
    ·exact .inl z
    ·exact .inr (arO _ z)
   ·rintro(z|z)
    ·exact .inl z
    ·rcases arZ.mp z with rfl|z
     ·exact .inl h
     ·exact .inr z
  ·simp[or_assoc]
theorem Sq:∀(l acc:List Row3),acc.Nodup->(l.foldl FJ acc).Nodup
 |[],acc,h=>h
 |x::l,acc,h=>by
  rw[asY]
  refine Sq l _ ?_
  unfold FJ
  split
  ·exact h
  ·next z=>
   rw[asH]
   exact⟨h,by simp,fun a ha b hb e=>z (by rw[arQ.mp hb]at e;exact e ▸ ha)⟩
theorem Yj:∀(l acc:List Row3),(l.foldl FJ acc).length<=acc.length+l.length
 |[],acc=>by simp
 |x::l,acc=>by
  rw[asY]
  refine asi (Yj l _) ?_
  unfold FJ
  split <;> simp <;> omega
def cost:bJ->Nat
 |.enrol ..=>1
 |.bring ..=>1
 |.bear ..=>1
 |.heir ..=>1
 |_=>0
theorem Nq{o room:Int}{e:List Int}{R:List Rw}{x:Res}{d:Dat}{c':aK}(h:Bb o e R room x=.ok d c'):x=.ok d c':=by
 unfold Bb at h
 split at h
 ·exact h
 ·cases h
theorem yX{c:aK}{o:Int}{x:Res}{d:Dat}{c':aK}(h:sV c o x=.ok d c'):o∈c.own/\x=.ok d c':=by
 unfold sV at h
 split at h
 ·next z=>exact⟨z,h⟩
 ·cases h
theorem Aj{c:aK}{g:Int}{x:Res}{d:Dat}{c':aK}(h:uM c g x=.ok d c'):Vg c g/\x=.ok d c':=by
 unfold uM at h
 split at h
 ·next z=>exact⟨z,h⟩
 ·cases h
theorem abK{e:List Int}{x:Res}{d:Dat}{c':aK}(h:KD e x=.ok d c'):cY e=true/\x=.ok d c':=by
 unfold KD at h
 split at h
 ·next z=>exact⟨z,h⟩
 ·cases h
theorem zV{c:aK}{o g:Int}{x:Res}{d:Dat}{c':aK}(h:oG c o g x=.ok d c'):bQ c o g≠[]/\x=.ok d c':=by
 unfold oG at h
 split at h
 ·cases h
 ·next z=>exact⟨z,h⟩
theorem NK{c:aK}{k:Int}{f:dO->Res}{d:Dat}{c':aK}(h:wM c k f=.ok d c'):∃b,bk c k=some b/\b.sd.al=true/\f b=.ok d c':=by
 unfold wM at h
 split at h
 ·cases h
 ·next b hb=>
  split at h
  ·next z=>exact⟨b,hb,z,h⟩
  ·cases h
theorem Qc{c:aK}{k:Int}{f:dO->List Int->Res}{d:Dat}{c':aK}(h:markB c k f=.ok d c'):∃b e,bk c k=some b/\b.sd.al=true/\b.sd.due=some e/\f b e=.ok d c':=by
 obtain⟨b,h1,h2,h3⟩:=NK h
 split at h3
 ·cases h3
 ·next e he=>exact⟨b,e,h1,h2,he,h3⟩
theorem xX{p:Prop}[Decidable p]{x:dB}{y:Res}{d:Dat}{c':aK}(h:(if p then .no x else y)=Res.ok d c'):¬p/\y=.ok d c':=by
 split at h
 ·cases h
 ·next z=>exact⟨z,h⟩
theorem Tq{p:Prop}[Decidable p]{x:dB}{y:Res}{d:Dat}{c':aK}(h:(if p then y else .no x)=Res.ok d c'):p/\y=.ok d c':=by
 split at h
 ·next z=>exact⟨z,h⟩
 ·cases h
theorem sH{c:aK}{k:Int}{b:dO}(h:bk c k=some b):c.bs[(k - 1).toNat]?=some b/\1<=k/\k<=c.bs.length:=by
 unfold bk at h
 split at h
 ·next z=>exact⟨h,z⟩
 ·cases h
theorem RQ(c:aK)(k o g:Int):(yZ c k o g).bs.length=c.bs.length:=by simp[yZ,oR]
theorem Dm(c:aK)(i:Nat)(e:En):(gH c i e).bs.length=c.bs.length:=by simp[gH]
theorem Yh{n s:Nat}{c c':aK}{d:bJ}{r:Dat}(I:Inv n s c)(hn:n<=199)(h:cD c d=.ok r c'):Inv (n+1) (s+cost d) c':=by
 have L0:=I.hL
 have A0:=I.al
 have C0:=I.cnt
 have O0:=I.ownL
 have up:S9 (2 * (n+1)) c:=⟨I.V8.g,fun b hb=>by have:=I.en b hb;omega⟩
 cases d with
 |owner=>
  cases h
  refine⟨I.gr.same rfl rfl,by show c.al.length<=_;omega,⟨by show 0<=c.count+1;omega,by show c.count+1<=((n+1:Nat):Int);omega⟩,fun o ho=>?_,?_,by simp;omega,I.held,by simp[cost];omega,fun r hr=>?_,I.ear,I.due,up.en,I.rt⟩
  ·show 1<=o/\o<=c.count+1
   rcases arW.mp ho with ho|ho
   ·have:=I.own o ho
    omega
   ·rw[arQ.mp ho]
    omega
  ·rw[asH]
   refine⟨I.O5,by simp,fun a ha b hb e=>?_⟩
   rw[arQ.mp hb]at e
   have:=I.own a ha
   omega
  ·obtain⟨h1,h2,h3⟩:=I.hE r hr
   exact⟨asq _ h1,h2,h3⟩
 |ground x=>
  obtain⟨hx,h⟩:=Tq h
  cases h
  refine I.of (by omega) (I.gr.add (by omega) hx) (by simp;omega) rfl rfl I.held (by simp[cost];omega) (fun r hr=>?_) ⟨up.g,up.en⟩
  obtain⟨h1,h2,h3⟩:=I.hE r hr
  refine⟨h1,?_,h3⟩
  show 1<=_/\_<=((c.al++[x]).length:Int)
  rw[asw]
  have:=h2.2
  exact⟨h2.1,by omega⟩
 |enrol o g m=>
  obtain⟨h1,h⟩:=yX h
  obtain⟨h2,h⟩:=Aj h
  obtain⟨h3,h⟩:=abK h
  obtain⟨h4,h⟩:=xX h
  obtain⟨h5,h⟩:=xX h
  have h:=Nq h
  cases h
  refine I.of (by omega) (I.gr.same rfl rfl) (by show c.al.length<=_;omega) rfl rfl ?_ (by simp[cost];omega) (fun r hr=>?_) ⟨fun b hb=>(up.g b hb).mono fun r hr=>asq _ hr,up.en⟩
  ·rw[asH]
   refine⟨I.held,by simp,fun a ha b hb e=>?_⟩
   rw[arQ.mp hb]at e
   exact h5 (Em.mpr (e ▸ ha))
  ·rcases arW.mp hr with hr|hr
   ·exact I.hE r hr
   ·rw[arQ.mp hr]
    exact⟨h1,h2,h3⟩
 |leave o g=>
  obtain⟨h1,h⟩:=yX h
  obtain⟨h2,h⟩:=Aj h
  obtain⟨h3,h⟩:=zV h
  obtain⟨h4,h⟩:=xX h
  cases h
  have sub:∀r∈dropped c o g,r∈c.held:=fun r hr=>(ar9.mp hr).1
  have ln:(dropped c o g).length<=c.held.length:=ar0 _ _
  refine I.of (by omega) (I.gr.same rfl rfl) (by show c.al.length<=_;omega) rfl rfl (I.held.filter _) (by simp[cost];omega) (fun r hr=>I.hE r (sub r hr)) ⟨fun b hb=>⟨(up.g b hb).1,(up.g b hb).2.1,fun hal=>?_⟩,up.en⟩
  obtain⟨m,hm⟩:=(up.g b hb).2.2 hal
  refine⟨m,ar9.mpr ⟨hm,?_⟩⟩
  simp only[ar4,Bool.and_eq_false_iff,beq_eq_false_iff_ne]
  by_cases e:b.sd.o=o/\b.sd.g=g
  ·exfalso
   refine h4 (List.any_eq_true.mpr ⟨b,hb,?_⟩)
   simp[XR,hal,e.1,e.2]
  ·by_cases e1:b.sd.o=o
   ·exact .inr fun z=>e ⟨e1,z⟩
   ·exact .inl e1
 |bring o g e=>
  obtain⟨h1,h⟩:=yX h
  obtain⟨h2,h⟩:=Aj h
  obtain⟨h3,h⟩:=abK h
  obtain⟨h4,h⟩:=zV h
  cases h
  refine I.of (by omega) (I.gr.same rfl rfl) (by show c.al.length<=_;omega) rfl rfl I.held (by simp[cost];omega) I.hE ⟨fun b hb=>?_,fun b hb=>?_⟩
  ·rcases arW.mp hb with hb|hb
   ·exact up.g b hb
   ·rw[arQ.mp hb]
    exact⟨h3,fun e z=>(by cases z),fun _=>za.mp h4⟩
  ·rcases arW.mp hb with hb|hb
   ·exact up.en b hb
   ·rw[arQ.mp hb]
    simp[FP]
 |bear k=>
  obtain⟨b0,e0,h1,h2,h3,h⟩:=Qc h
  cases h
  refine I.of (by omega) (I.gr.same rfl rfl) (by show c.al.length<=_;omega) rfl rfl I.held (by simp[cost];omega) I.hE ⟨fun b hb=>?_,fun b hb=>?_⟩
  ·rcases arW.mp hb with hb|hb
   ·exact up.g b hb
   ·rw[arQ.mp hb]
    exact⟨(by decide:cY [0,0,0,0,0,0]=true),fun e z=>(by cases z),fun _=>(up.g b0 (arR (sH h1).1)).2.2 h2⟩
  ·rcases arW.mp hb with hb|hb
   ·exact up.en b hb
   ·rw[arQ.mp hb]
    simp[FP]
 |cut k=>
  obtain⟨b0,h1,h2,h⟩:=NK h
  have h:=Nq h
  cases h
  have hm:=arR (sH h1).1
  obtain⟨r,q4,q5⟩:=I.mk1 (I.alive hm h2).1
  have je:=DW (I.ear b0 hm) q5
  generalize fG b0.sd.ear (firstM c b0.sd.o b0.sd.g)=e at je ⊢
  have B:=I.V8.one (i:=(k - 1).toNat) (e:=.cut e) fun b hb=>by
   rw[(sH h1).1]at hb
   cases hb
   exact⟨je,fun e z=>(by cases z;exact je),fun _=>I.rt b0 hm h2⟩
  exact I.of (by omega) (I.gr.same rfl rfl) (by show c.al.length<=_;omega) rfl rfl I.held (by rw[Dm];simp[cost,gH];omega) I.hE ⟨B.g,fun b hb=>by have:=B.en b hb;omega⟩
 |tear k p=>
  obtain⟨b0,h1,h2,h⟩:=NK h
  obtain⟨h3,h⟩:=Tq h
  obtain⟨h4,h⟩:=xX h
  cases h
  have hm:=arR (sH h1).1
  have B:=I.V8.one (i:=(k - 1).toNat) (e:=.torn p.toNat) fun b hb=>by
   rw[(sH h1).1]at hb
   cases hb
   exact⟨acn (I.ear b0 hm) h4,I.due b0 hm,I.rt b0 hm⟩
  exact I.of (by omega) (I.gr.same rfl rfl) (by show c.al.length<=_;omega) rfl rfl I.held (by rw[Dm];simp[cost,gH];omega) I.hE ⟨B.g,fun b hb=>by have:=B.en b hb;omega⟩
 |die k=>
  obtain⟨b0,h1,h2,h⟩:=NK h
  cases h
  have hm:=arR (sH h1).1
  have B:=I.V8.one (i:=(k - 1).toNat) (e:=.died) fun b hb=>by
   rw[(sH h1).1]at hb
   cases hb
   exact⟨I.ear b0 hm,I.due b0 hm,fun z=>by cases z⟩
  exact I.of (by omega) (I.gr.same rfl rfl) (by show c.al.length<=_;omega) rfl rfl I.held (by rw[Dm];simp[cost,gH];omega) I.hE ⟨B.g,fun b hb=>by have:=B.en b hb;omega⟩
 |sell k o=>
  obtain⟨b0,e0,h1,h2,h3,h⟩:=Qc h
  obtain⟨h4,h⟩:=yX h
  obtain⟨h5,h⟩:=xX h
  obtain⟨h6,h⟩:=zV h
  have h:=Nq h
  cases h
  have hm:=arR (sH h1).1
  obtain⟨r,q4,q5⟩:=I.mk1 h6
  have je:=DW (I.ear b0 hm) q5
  generalize fG b0.sd.ear (firstM c o b0.sd.g)=e at je ⊢
  have B:=I.V8.one (i:=(k - 1).toNat) (e:=.sold o e) fun b hb=>by
   rw[(sH h1).1]at hb
   cases hb
   exact⟨je,fun e z=>(by cases z;exact je),fun _=>za.mp h6⟩
  have B2:=B.many (p:=fun x=>zE k x&&x.sd.al) (e:=.followed o b0.sd.g) fun b hb _=>⟨(B.g b hb).1,(B.g b hb).2.1,fun _=>za.mp h6⟩
  exact I.of (by omega) (I.gr.same rfl rfl) (by show c.al.length<=_;omega) rfl rfl I.held (by rw[RQ,Dm];simp[cost,gH,yZ,oR];omega) I.hE ⟨B2.g,fun b hb=>by have:=B2.en b hb;omega⟩
 |move k g=>
  obtain⟨b0,e0,h1,h2,h3,h⟩:=Qc h
  obtain⟨h4,h⟩:=Aj h
  obtain⟨h5,h⟩:=xX h
  obtain⟨h6,h⟩:=zV h
  have h:=Nq h
  cases h
  have hm:=arR (sH h1).1
  have B:=I.V8.one (i:=(k - 1).toNat) (e:=.moved g) fun b hb=>by
   rw[(sH h1).1]at hb
   cases hb
   exact⟨I.ear b0 hm,I.due b0 hm,fun _=>za.mp h6⟩
  have B2:=B.many (p:=fun x=>zE k x&&x.sd.al) (e:=.followed b0.sd.o g) fun b hb _=>⟨(B.g b hb).1,(B.g b hb).2.1,fun _=>za.mp h6⟩
  exact I.of (by omega) (I.gr.same rfl rfl) (by show c.al.length<=_;omega) rfl rfl I.held (by rw[RQ,Dm];simp[cost,gH,yZ,oR];omega) I.hE ⟨B2.g,fun b hb=>by have:=B2.en b hb;omega⟩
 |qD x y=>
  obtain⟨h1,h⟩:=Aj h
  obtain⟨h2,h⟩:=Aj h
  obtain⟨h3,h⟩:=xX h
  split at h
  ·cases h
  ·cases h
   exact I.of (by omega) (I.gr.qD h2 h1 h3) (by show c.al.length<=_;omega) rfl rfl I.held (by show c.held.length+c.bs.length<=_;omega) I.hE ⟨up.g,up.en⟩
 |part x=>
  obtain⟨h1,h⟩:=Aj h
  obtain⟨h3,h⟩:=xX h
  cases h
  exact I.of (by omega) (I.gr.part h1) (by show c.al.length<=_;omega) rfl rfl I.held (by show c.held.length+c.bs.length<=_;omega) I.hE ⟨up.g,up.en⟩
 |pass e h'=>
  obtain⟨h1,h⟩:=yX h
  obtain⟨h2,h⟩:=yX h
  obtain⟨h3,h⟩:=xX h
  cases h
  have hin:∀r∈c.held,BX e h' r∈handed c e h':=fun r hr=>(Pg _ _).mpr (.inr (arV.mpr ⟨r,hr,rfl⟩))
  have hout:∀r∈handed c e h',∃r0∈c.held,BX e h' r0=r:=fun r hr=>by
   rcases(Pg _ _).mp hr with z|z
   ·cases z
   ·obtain⟨r0,z1,z2⟩:=arV.mp z
    exact⟨r0,z1,z2⟩
  have hl:(handed c e h').length<=c.held.length:=by
   have:=Yj (c.held.map (BX e h')) []
   simpa [handed] using this
  have ow:∀o,o∈c.own.filter (fun o=>!(o==e))↔o∈c.own/\o≠e:=fun o=>by
   rw[ar9]
   simp
  have g:∀b∈(oR (fun b=>(b.sd.o==e)&&b.sd.al) (.passed h') c).bs,Good (handed c e h') b.sd:=fun b hb=>by
   obtain⟨b0,hb0,rfl⟩:=arV.mp hb
   have G:=up.g b0 hb0
   cases hp:((b0.sd.o==e)&&b0.sd.al) with
   |true=>
    simp only[hp,if_true]
    refine⟨G.1,G.2.1,fun hal=>?_⟩
    obtain⟨m,hm⟩:=G.2.2 hal
    have:=hin _ hm
    simp at hp
    rw[hp.1]at this
    exact⟨m,by simpa [BX,qT,go] using this⟩
   |false=>
    simp only[hp]
    refine⟨G.1,G.2.1,fun hal=>?_⟩
    obtain⟨m,hm⟩:=G.2.2 hal
    have:=hin _ hm
    have hal:b0.sd.al=true:=hal
    rw[hal]at hp
    simp at hp
    exact⟨m,by simpa [BX,hp] using this⟩
  have en:∀b∈(oR (fun b=>(b.sd.o==e)&&b.sd.al) (.passed h') c).bs,b.en.length<=2 * (n+1):=fun b hb=>by
   obtain⟨b0,hb0,rfl⟩:=arV.mp hb
   have:=I.en b0 hb0
   dsimp only
   split
   ·simp[qT]
    omega
   ·omega
  refine⟨I.gr.same rfl rfl,by show c.al.length<=_;omega,⟨C0.1,by show c.count<=_;omega⟩,fun o ho=>I.own o ((ow o).mp ho).1,I.O5.filter _,?_,Sq _ _ (by simp),?_,fun r hr=>?_,fun b hb=>(g b hb).1,fun b hb=>(g b hb).2.1,en,fun b hb=>(g b hb).2.2⟩
  ·show(c.own.filter _).length<=_
   have:=ar0 (fun o=>!(o==e)) c.own
   omega
  ·show(handed c e h').length+(oR _ _ c).bs.length<=_
   simp[oR]
   omega
  ·obtain⟨r0,z1,rfl⟩:=hout r hr
   obtain⟨q1,q2,q3⟩:=I.hE r0 z1
   refine⟨(ow _).mpr ?_,q2,q3⟩
   unfold BX
   by_cases z:r0.1=e
   ·simp only[z,if_true]
    exact⟨h2,fun q=>h3 q.symm⟩
   ·simp only[z,if_false]
    exact⟨q1,z⟩
 |heir e g x=>
  obtain⟨h1,h⟩:=yX h
  obtain⟨h2,h⟩:=Aj h
  obtain⟨h3,h⟩:=Tq h
  obtain⟨h4,h⟩:=zV h
  split at h
  ·next mk hmk=>
   cases h
   obtain⟨r,q4,q5⟩:=I.mk1 h4
   have hme:cY mk=true:=V2 q5 ⟨by omega,h3.2⟩ (ar9.mp (List.mem_of_find?_eq_some hmk)).1
   refine⟨I.gr.same rfl rfl,by show c.al.length<=_;omega,⟨by show 0<=c.count+1;omega,by show c.count+1<=((n+1:Nat):Int);omega⟩,fun o ho=>?_,?_,by simp;omega,?_,by simp[cost];omega,fun r hr=>?_,I.ear,I.due,up.en,fun b hb hal=>?_⟩
   ·show 1<=o/\o<=c.count+1
    rcases arW.mp ho with ho|ho
    ·have:=I.own o ho
     omega
    ·rw[arQ.mp ho]
     omega
   ·rw[asH]
    refine⟨I.O5,by simp,fun a ha b hb e=>?_⟩
    rw[arQ.mp hb]at e
    have:=I.own a ha
    omega
   ·rw[asH]
    refine⟨I.held,by simp,fun a ha b hb e=>?_⟩
    rw[arQ.mp hb]at e
    have:=I.own _ (I.hE a ha).1
    rw[e]at this
    simp at this
    omega
   ·rcases arW.mp hr with hr|hr
    ·obtain⟨z1,z2,z3⟩:=I.hE r hr
     exact⟨asq _ z1,z2,z3⟩
    ·rw[arQ.mp hr]
     exact⟨asF _ (by simp),h2,hme⟩
   ·obtain⟨m,hm⟩:=I.rt b hb hal
    exact⟨m,asq _ hm⟩
  ·cases h
def nB(x:Int):Bool:=decide (0<=x)&&decide (x<=999999999)
def plB(x:Int):Bool:=decide (0<=x)&&decide (x<=5)
theorem mV(M:Mo)(x:Int):iJ M [.str "number",.int x]=.ok (.bool (nB x)):=by
 by_cases h:0<=x <;> simp[iJ,u9,oO,iW,yE,Bl,h,nB]
theorem iY(M:Mo)(x:Int):iJ M [.str "place",.int x]=.ok (.bool (plB x)):=by
 by_cases h:0<=x <;> simp[iJ,u9,oO,iW,yE,Bl,h,plB]
theorem ae6(M:Mo)(x:List Int)(h:x.length<=1000):iJ M [.str "ear",aH x]=.ok (.bool (cY x)):=by
 have:=WK M x h
 simp[iJ,u9,yE,Bl,this]
def fD:bJ->Bool
 |.owner=>true
 |.ground x=>nB x
 |.enrol o g m=>nB o&&nB g&&cY m
 |.leave o g=>nB o&&nB g
 |.bring o g m=>nB o&&nB g&&cY m
 |.bear k=>nB k
 |.cut k=>nB k
 |.tear k p=>nB k&&plB p
 |.sell k o=>nB k&&nB o
 |.move k g=>nB k&&nB g
 |.die k=>nB k
 |.qD x y=>nB x&&nB y
 |.part x=>nB x
 |.pass e h=>nB e&&nB h
 |.heir e g x=>nB e&&nB g&&nB x
def Ec:bJ->Prop
 |.enrol _ _ m=>m.length<=1000
 |.bring _ _ m=>m.length<=1000
 |_=>True
theorem jc(M:Mo)(w:Str)(T:List (Str×Dat×Bool))(hk:(zu yu).lookup w=some (.tuple (T.map fun t=>.str t.1)))(hl:T.length<=10)(hp:∀t∈T,iJ M [.str t.1,t.2.1]=.ok (.bool t.2.2)):GD M [.tuple (.str w::T.map fun t=>t.2.1)]=.ok (.bool (T.all fun t=>t.2.2)):=by
 have hs:Rf.cutD (PyData.str w::T.map fun t=>t.2.1) (some 1) none=T.map fun t=>t.2.1:=Pj _ 1
 have hz:xO (T.map fun t=>PyData.str t.1) (T.map fun t=>t.2.1)=T.map fun t=>.tuple [.str t.1,t.2.1]:=by
  unfold xO
  rw[List.zipWith_map_left,List.zipWith_map_right,List.zipWith_self]
 have key:=fu (tg:=bA [3,4]) (te:=aU iJ (ak (aq 3) (ak (aq 4) au))) (M:=M) (ρ:=[some (.dat (.tuple (.str w::T.map fun t=>t.2.1))),some (.dat (.tuple (T.map fun t=>.str t.1))),some (.dat (.tuple (T.map fun t=>t.2.1))),none,none]) (fun(t:Str×Dat×Bool)=>PyData.tuple [.str t.1,t.2.1]) (fun t=>.bool t.2.2) T fun t ht=>⟨[some (.dat (.tuple (.str w::T.map fun t=>t.2.1))),some (.dat (.tuple (T.map fun t=>.str t.1))),some (.dat (.tuple (T.map fun t=>t.2.1))),some (.dat (.str t.1)),some (.dat t.2.1)],by simp,by simp[hp t ht]⟩
 have ha:Qp (.list (T.map fun t=>PyData.bool t.2.2))=.ok (.bool (T.all fun t=>t.2.2)):=by
  have e:(T.map fun t=>PyData.bool t.2.2)=(T.map fun t=>t.2.2).map PyData.bool:=by rw[asn];rfl
  rw[e]
  show(match uh _ with
   |some bs=>Out.ok (PyData.bool (bs.all id))
   |none=>.bad)=_
  rw[Ew]
  simp[List.all_map,ar5]
 have hl2:T.length<=50000:=by omega
 have hne:¬(T.length:Int)+1=0:=by omega
 simp[GD,Yu,hk,hs,hz,key,hl2,ha,hne]
theorem abH(M:Mo)(d:bJ)(hd:Ec d):GD M [d.dat]=.ok (.bool (fD d)):=by
 cases d with
 |owner=>simpa [fD,bJ.dat,Bool.and_assoc] using jc M "owner" [] (by rfl) (by simp) (by simp[mV,iY])
 |ground x=>simpa [fD,bJ.dat,Bool.and_assoc] using jc M "ground" [("number",.int x,nB x)] (by rfl) (by simp) (by simp[mV,iY])
 |enrol o g m=>simpa [fD,bJ.dat,Bool.and_assoc] using jc M "enrol" [("number",.int o,nB o),("number",.int g,nB g),("ear",aH m,cY m)] (by rfl) (by simp) (by simp[mV,iY,ae6 M m hd])
 |leave o g=>simpa [fD,bJ.dat,Bool.and_assoc] using jc M "leave" [("number",.int o,nB o),("number",.int g,nB g)] (by rfl) (by simp) (by simp[mV,iY])
 |bring o g m=>simpa [fD,bJ.dat,Bool.and_assoc] using jc M "bring" [("number",.int o,nB o),("number",.int g,nB g),("ear",aH m,cY m)] (by rfl) (by simp) (by simp[mV,iY,ae6 M m hd])
 |bear k=>simpa [fD,bJ.dat,Bool.and_assoc] using jc M "bear" [("number",.int k,nB k)] (by rfl) (by simp) (by simp[mV,iY])
 |cut k=>simpa [fD,bJ.dat,Bool.and_assoc] using jc M "cut" [("number",.int k,nB k)] (by rfl) (by simp) (by simp[mV,iY])
 |tear k p=>simpa [fD,bJ.dat,Bool.and_assoc] using jc M "tear" [("number",.int k,nB k),("place",.int p,plB p)] (by rfl) (by simp) (by simp[mV,iY])
 |sell k o=>simpa [fD,bJ.dat,Bool.and_assoc] using jc M "sell" [("number",.int k,nB k),("number",.int o,nB o)] (by rfl) (by simp) (by simp[mV,iY])
 |move k g=>simpa [fD,bJ.dat,Bool.and_assoc] using jc M "move" [("number",.int k,nB k),("number",.int g,nB g)] (by rfl) (by simp) (by simp[mV,iY])
 |die k=>simpa [fD,bJ.dat,Bool.and_assoc] using jc M "die" [("number",.int k,nB k)] (by rfl) (by simp) (by simp[mV,iY])
 |qD x y=>simpa [fD,bJ.dat,Bool.and_assoc] using jc M "unite" [("number",.int x,nB x),("number",.int y,nB y)] (by rfl) (by simp) (by simp[mV,iY])
 |part x=>simpa [fD,bJ.dat,Bool.and_assoc] using jc M "part" [("number",.int x,nB x)] (by rfl) (by simp) (by simp[mV,iY])
 |pass e h=>simpa [fD,bJ.dat,Bool.and_assoc] using jc M "pass" [("number",.int e,nB e),("number",.int h,nB h)] (by rfl) (by simp) (by simp[mV,iY])
 |heir e g x=>simpa [fD,bJ.dat,Bool.and_assoc] using jc M "heir" [("number",.int e,nB e),("number",.int g,nB g),("number",.int x,nB x)] (by rfl) (by simp) (by simp[mV,iY])
theorem jY{M:Mo}{L:Lay}{o o':bx Dat}{r:Res}(h:Sp M L o r)(e:o'=o):Sp M L o' r:=e ▸ h
section
variable{M:Mo}{L:Lay}{c:aK}(a:At M L c){n s:Nat}(I:Inv n s c)(hs:s<=76)(hn:n<=199)
include a I hs hn
theorem al7(d:bJ)(hd:Ec d)(hf:fD d=true):Sp M L (cC M [ob L.c,d.dat]) (cD c d):=by
 have hc:=a.hc
 have h0:=abH M d hd
 rw[hf]at h0
 cases d with
 |owner=>
  simp only[bJ.dat]at h0 ⊢
  refine jY (aie a I hn) ?_
  simp[cC,cQ,h0,hc,aO,gU]
  cases iG M _ <;> rfl
 |ground x=>
  simp only[bJ.dat]at h0 ⊢
  refine jY (agd a I hn x) ?_
  simp[cC,cQ,h0,hc,aO,pK]
  cases gM M _ <;> rfl
 |enrol o g m=>
  simp only[bJ.dat]at h0 ⊢
  refine jY (ahv a I hs o g m hd) ?_
  simp[cC,cQ,h0,hc,aO,vO]
  cases dU M _ <;> rfl
 |leave o g=>
  simp only[bJ.dat]at h0 ⊢
  refine jY (ahO a I hs o g) ?_
  simp[cC,cQ,h0,hc,aO,v7]
  cases fY M _ <;> rfl
 |bring o g m=>
  simp only[bJ.dat]at h0 ⊢
  refine jY (ahZ a I hs o g m hd) ?_
  simp[cC,cQ,h0,hc,aO,vY]
  cases fW M _ <;> rfl
 |bear k=>
  simp only[bJ.dat]at h0 ⊢
  refine jY (akD a I hs k) ?_
  simp[cC,cQ,h0,hc,aO,w6]
  cases ji M _ <;> rfl
 |cut k=>
  simp only[bJ.dat]at h0 ⊢
  refine jY (amd a I hs (by omega) k) ?_
  simp[cC,cQ,h0,hc,aO,yU]
  cases jN M _ <;> rfl
 |tear k p=>
  simp only[bJ.dat]at h0 ⊢
  refine jY (akZ a I hs k p (by omega)) ?_
  simp[cC,cQ,h0,hc,aO,xR]
  cases fM M _ <;> rfl
 |sell k o=>
  simp only[bJ.dat]at h0 ⊢
  refine jY (ajO a I hs (by omega) k o) ?_
  simp[cC,cQ,h0,hc,aO,wW]
  cases dH M _ <;> rfl
 |move k g=>
  simp only[bJ.dat]at h0 ⊢
  refine jY (aiS a I hs (by omega) k g) ?_
  simp[cC,cQ,h0,hc,aO,wJ]
  cases dI M _ <;> rfl
 |die k=>
  simp only[bJ.dat]at h0 ⊢
  refine jY (alZ a I hs k (by omega)) ?_
  simp[cC,cQ,h0,hc,aO,yw]
  cases lH M _ <;> rfl
 |qD x y=>
  simp only[bJ.dat]at h0 ⊢
  refine jY (abj a I hs (by omega) x y) ?_
  simp[cC,cQ,h0,hc,aO,vP]
  cases eX M _ <;> rfl
 |part x=>
  simp only[bJ.dat]at h0 ⊢
  refine jY (akj a I hs (by omega) x) ?_
  simp[cC,cQ,h0,hc,aO,xU]
  cases jU M _ <;> rfl
 |pass e h=>
  simp only[bJ.dat]at h0 ⊢
  refine jY (akV a I hs (by omega) e h) ?_
  simp[cC,cQ,h0,hc,aO,sG]
  cases fQ M _ <;> rfl
 |heir e g x=>
  simp only[bJ.dat]at h0 ⊢
  refine jY (akM a I hs (by omega) e g x) ?_
  simp[cC,cQ,h0,hc,aO,rF]
  cases cW M _ <;> rfl
end
theorem afg{c:aK}{d:bJ}{x:dB}(h:cD c d=.no x):pX.lookup x.cls=some true:=by
 cases d <;> simp only[cD,sV,uM,KD,oG,Bb,wM,markB,pH]at h <;> (repeat' split at h) <;> cases h <;> simp[pX]
def ace:bJ->Nat
 |.owner=>1
 |.heir ..=>1
 |_=>0
def dGr:bJ->Nat
 |.ground _=>1
 |_=>0
def dBs:bJ->Nat
 |.bring ..=>1
 |.bear _=>1
 |_=>0
theorem aaz{c c':aK}{d:bJ}{r:Dat}(h:cD c d=.ok r c'):c'.count=c.count+(ace d:Int)/\c'.al.length=c.al.length+dGr d/\c'.bs.length=c.bs.length+dBs d/\(jW .none r=true->ace d=0/\dGr d=0/\dBs d=0):=by
 cases d <;> simp only[cD,sV,uM,KD,oG,Bb,wM,markB]at h <;> (repeat' split at h) <;> cases h <;> simp[ace,dGr,dBs,jW,gH,yZ,oR,lI]
def ug(c:aK)(d:bJ):aK:=match cD c d with
 |.ok _ c'=>c'
 |.no _=>c
def cV(c:aK):Dat:=.tuple [.int c.count,.int c.al.length,.int c.bs.length]
section
variable{M:Mo}{L:Lay}{c:aK}(a:At M L c){n s:Nat}(I:Inv n s c)(hs:s<=76)(hn:n<=199)
include I hn
omit hn in
theorem afz(d:bJ)(hn:n<=199):Inv (n+1) (s+cost d) (ug c d):=by
 unfold ug
 cases h:cD c d with
 |ok r c'=>exact Yh I hn h
 |no x=>
  have h1:=I.hL
  have h2:=I.al
  exact I.of (by omega) I.gr (by show c.al.length<=_;omega) rfl rfl I.held (by show c.held.length+c.bs.length<=_;omega) I.hE ⟨I.V8.g,fun b hb=>by have:=I.en b hb;omega⟩
include a hs
theorem aib(d:bJ)(hd:Ec d)(hf:fD d=true):∃M' bs,iI M [ob L.c,d.dat,cV c]=.ok (cV (ug c d)) M'/\At M' { L with bs:=bs } (ug c d):=by
 have hc:=a.hc
 have h0:=al7 a I hs hn d hd hf
 unfold ug
 cases e:cD c d with
 |no x=>
  rw[e]at h0
  have h0:_=_:=h0
  have h1:=afg e
  exact⟨M,L.bs,by simp[iI,Gz,hc,aO,nQ,h0,h1,jW],a⟩
 |ok r c'=>
  rw[e]at h0
  obtain⟨M',bs,h0,h2⟩:=h0
  obtain⟨q1,q2,q3,q4⟩:=aaz e
  refine⟨M',bs,?_,h2⟩
  have e1:(c'.al.length:Int)=c.al.length+(dGr d:Int):=by omega
  have e2:(c'.bs.length:Int)=c.bs.length+(dBs d:Int):=by omega
  cases hr:jW .none r with
  |true=>
   obtain⟨z1,z2,z3⟩:=q4 hr
   simp[z1,z2,z3]at q1 e1 e2
   simp[iI,Gz,hc,aO,nQ,h0,hr,cV,q1,e1,e2]
  |false=>
   clear q4 q2 q3 e hf hd
   cases d <;> simp[ace,dGr,dBs]at q1 e1 e2 <;> simp[iI,Gz,hc,aO,nQ,h0,hr,cV,q1,e1,e2] <;> simp[bJ.dat]
end
def M4(f:Int):Int:=if f=9 then -1 else if f=8 then 3 else if f=7 then 2 else if f=6 then 1 else if f=5 then 1 else 0
def Nr(d f:Int):Int:=OD 0 (if d+M4 f < 9 then d+M4 f else 9)
def M7(x f:List Int):List Int:=(x.zip f).map fun p=>Nr p.1 p.2
theorem aej(M:Mo)(x0 x1:Option Cell)(acc:List Dat)(d f:Int)(x5:Option Cell)(hf:0<=f/\f < 10)(hl:acc.length < 1000):∃x5',Py M [x0,x1,some (.mut acc),some (.dat (.int d)),some (.dat (.int f)),x5]=.next [x0,x1,some (.mut (acc++[.int (Nr d f)])),some (.dat (.int d)),some (.dat (.int f)),x5'] M:=by
 have hl2:acc.length < 100000:=by omega
 have key:∀k:Nat,k < 10->([0,0,0,0,0,1,1,2,3,-1]:List Int)[k]?=some (M4 k):=by decide
 obtain⟨k,rfl⟩:∃k:Nat,f=k:=⟨f.toNat,by omega⟩
 have hk:=key k (by omega)
 have h2:atI (([0,0,0,0,0,1,1,2,3,-1]:List Int).map PyData.int) (k:Int)=some (.int (M4 k)):=atI_nat (by rw[arY,hk];rfl)
 refine⟨some (.dat (.int (M4 k))),?_⟩
 have h3:aX (aF 5) (gOf (aA aN (bB (ak (qC (.int 0)) (ak (qC (.int 0)) (ak (qC (.int 0)) (ak (qC (.int 0)) (ak (qC (.int 0)) (ak (qC (.int 1)) (ak (qC (.int 1)) (ak (qC (.int 2)) (ak (qC (.int 3)) (ak (eE Qe (qC (.int 1))) au))))))))))) (ao 4))) M [x0,x1,some (.mut acc),some (.dat (.int d)),some (.dat (.int k)),x5]=.next [x0,x1,some (.mut acc),some (.dat (.int d)),some (.dat (.int k)),some (.dat (.int (M4 k)))] M:=by
  show(((match atI (([0,0,0,0,0,1,1,2,3,-1]:List Int).map PyData.int) (k:Int) with
   |some d=>Out.ok d
   |none=>.bad).at M).then _ fun d M'=>_)=_
  rw[h2]
  rfl
 show aD _ _ _ _=_
 rw[alq,h3]
 simp[hl2,Nr,OD]
theorem VR(M:Mo)(x0 x1:Option Cell):∀(ps:List (Int×Int)) (acc:List Dat) (x3 x4 x5:Option Cell),(∀p∈ps,0<=p.2/\p.2 < 10)->acc.length+ps.length<=500->∃x3' x4' x5',dR (bA [3,4]) Py (ps.map pD) M [x0,x1,some (.mut acc),x3,x4,x5]=.next [x0,x1,some (.mut (acc++ps.map fun p=>.int (Nr p.1 p.2))),x3',x4',x5'] M
 |[],acc,x3,x4,x5,_,_=>⟨x3,x4,x5,by simp[dR]⟩
 |p::ps,acc,x3,x4,x5,h,hl=>by
  rw[arU]at hl
  obtain⟨x5',e⟩:=aej M x0 x1 acc p.1 p.2 x5 (h p arP) (by omega)
  obtain⟨y3,y4,y5,ih⟩:=VR M x0 x1 ps (acc++[.int (Nr p.1 p.2)]) (some (.dat (.int p.1))) (some (.dat (.int p.2))) x5' (fun q hq=>h q (arO _ hq)) (by simp;omega)
  refine⟨y3,y4,y5,?_⟩
  rw[arN,fj (ρ1:=[x0,x1,some (.mut acc),some (.dat (.int p.1)),some (.dat (.int p.2)),x5]) (by simp[pD]) e,ih]
  simp
theorem abX(M:Mo)(x f:List Int)(hx:x.length<=100)(hf:∀d∈f,0<=d/\d < 10):CZ M [aH x,lI f]=.ok (aH (M7 x f)):=by
 obtain⟨y3,y4,y5,e⟩:=VR M (some (.dat (aH x))) (some (.dat (lI f))) (x.zip f) [] none none none (fun p hp=>hf _ (List.of_mem_zip hp).2) (by simp;omega)
 simp[CZ,ZF,yP,e,M7]
def HJ(f:List Int)(m:Int)(x:List Int):List Int:=if m < 4 then M7 x f else zH f m
theorem ac1(M:Mo)(x f:List Int)(m:Int)(hx:x.length<=100)(hl:f.length<=1000)(hf:∀d∈f,0<=d/\d < 10):wA M [lI f,.int m,aH x]=.ok (aH (HJ f m x)):=by
 have h1:=abX M x f hx hf
 have h2:=Wc M f m hl
 unfold HJ
 by_cases h:m < 4 <;> simp[wA,Ln,h,h1,h2]
theorem abz{x:List Int}(h:x.length=6)(h2:∀d∈x,0<=d/\d < 10):cY x=true:=by
 unfold cY
 simp only[arK,decide_eq_true_eq,ar7]
 refine⟨h,fun d hd=>?_⟩
 have:=h2 d hd
 omega
theorem V5{x f:List Int}(hx:x.length=6)(hf:f.length=6):cY (M7 x f)=true:=by
 refine abz (by simp[M7];omega) fun d hd=>?_
 obtain⟨p,hp,rfl⟩:=arV.mp hd
 unfold Nr OD
 split <;> split <;> omega
theorem aci{f x:List Int}{m:Int}(hx:x.length=6)(hl:f.length=6)(hf:∀d∈f,0<=d/\d < 10):cY (HJ f m x)=true:=by
 unfold HJ
 split
 ·exact V5 hx hl
 ·refine abz ?_ (afq hf)
  unfold zH
  split
  ·simpa using hl
  ·split
   ·simpa using hl
   ·exact hl
def kZ(f many:Int)(sure:Bool):Int:=if sure then 1+f % (if many > 1 then many else 1) else f % (many+2)
theorem aaf(M:Mo)(f many:Int)(sure:Bool)(hm:0<=many):jO M [.int f,.int many,.bool sure]=.ok (.int (kZ f many sure)):=by
 have h2:0 < many+2:=by omega
 have h3:0 < (if 1 < many then many else 1):=by split <;> omega
 cases sure
 ·simp[jO,X4,kZ,h2]
 ·simp[jO,X4,kZ,h3]
theorem Ck{f many:Int}{sure:Bool}(hf:0<=f/\f<=1000)(hm:0<=many):nB (kZ f many sure)=true:=by
 unfold kZ nB
 have key:∀m:Int,0 < m->0<=f % m/\f % m<=f:=fun m h=>⟨Int.emod_nonneg _ (by omega),by
  have h1:=Int.mul_ediv_add_emod f m
  have h2:=Int.mul_nonneg (by omega:0<=m) (Int.ediv_nonneg hf.1 (by omega:0<=m))
  omega⟩
 simp only[arK,decide_eq_true_eq]
 cases sure
 ·have:=key (many+2) (by omega)
  simp
  omega
 ·have:=key (if many > 1 then many else 1) (by split <;> omega)
  simp only[if_true]
  omega
abbrev dd(M:Mo)(w:Str)(one two:Int)(p base:List Int)(n0 n1 n2:Int):Out Dat:=fJ M [.str w,.int one,.int two,lI p,.tuple [.int n0,.int n1,.int n2],aH base]
def dZ(p:List Int):Bool:=!(p.getD 6 0==9)
def Jk(p base:List Int):List Int:=HJ (p.drop 8) (p.getD 7 0) base
def grT(f:Int):Int:=if f=9 then 8 else if f=8 then 7 else if f=7 then 6 else if f=6 then 5 else if f=5 then 1 else if f=4 then 0 else f
def Gx(p base:List Int):List Int:=if p.getD 7 0 < 6 then[0,0,0,0,0,0] else Jk p base
structure Pts(p base:List Int):Prop where
 len:p.length=14
 dig:∀d∈p,0<=d/\d < 10
 base:base.length=6
theorem alJ{p:List Int}(h:p.length=14):∃a b c d e f g i j k l m n o:Int,p=[a,b,c,d,e,f,g,i,j,k,l,m,n,o]:=by
 match p,h with
 |[a,b,c,d,e,f,g,i,j,k,l,m,n,o],_=>exact⟨a,b,c,d,e,f,g,i,j,k,l,m,n,o,rfl⟩
theorem Pts.mark{p base:List Int}(P:Pts p base):cY (Jk p base)=true:=aci P.base (by rw[atd,P.len]) fun d hd=>P.dig d (List.mem_of_mem_drop hd)
theorem Pts.bring{p base:List Int}(P:Pts p base):cY (Gx p base)=true:=by
 unfold Gx
 split
 ·decide
 ·exact P.mark
section
variable(M:Mo){p base:List Int}(P:Pts p base)(one two n0 n1 n2:Int)(h0:0<=n0)(h1:0<=n1)(h2:0<=n2)
include P h0 h1 h2
theorem Zw :
  dd M "owner" one two p base n0 n1 n2=.ok (bJ.dat (.owner))/\
  dd M "ground" one two p base n0 n1 n2=.ok (bJ.dat (.ground (grT (p.getD 7 0)+4 * (if dZ p then 0 else 1))))/\
  dd M "enrol" one two p base n0 n1 n2=.ok (bJ.dat (.enrol (kZ one n0 (dZ p)) (kZ two n1 (dZ p)) (Jk p base)))/\
  dd M "bring" one two p base n0 n1 n2=.ok (bJ.dat (.bring (kZ one n0 (dZ p)) (kZ two n1 (dZ p)) (Gx p base)))/\
  dd M "leave" one two p base n0 n1 n2=.ok (bJ.dat (.leave (kZ one n0 (dZ p)) (kZ two n1 (dZ p))))/\
  dd M "heir" one two p base n0 n1 n2=.ok (bJ.dat (.heir (kZ one n0 (dZ p)) (kZ two n1 (dZ p)) (p.getD 7 0 % 4)))/\
  dd M "pass" one two p base n0 n1 n2=.ok (bJ.dat (.pass (kZ one n0 (dZ p)) (kZ two n0 (dZ p))))/\
  dd M "unite" one two p base n0 n1 n2=.ok (bJ.dat (.qD (kZ one n1 (dZ p)) (kZ two n1 (dZ p))))/\
  dd M "part" one two p base n0 n1 n2=.ok (bJ.dat (.part (kZ one n1 (dZ p))))/\
  dd M "tear" one two p base n0 n1 n2=.ok (bJ.dat (.tear (kZ one n2 (dZ p)) (p.getD 7 0 % 6)))/\
  dd M "sell" one two p base n0 n1 n2=.ok (bJ.dat (.sell (kZ one n2 (dZ p)) (kZ two n0 (dZ p))))/\
  dd M "move" one two p base n0 n1 n2=.ok (bJ.dat (.move (kZ one n2 (dZ p)) (kZ two n1 (dZ p))))/\
  dd M "bear" one two p base n0 n1 n2=.ok (bJ.dat (.bear (kZ one n2 (dZ p))))/\
  dd M "cut" one two p base n0 n1 n2=.ok (bJ.dat (.cut (kZ one n2 (dZ p))))/\
  dd M "die" one two p base n0 n1 n2=.ok (bJ.dat (.die (kZ one n2 (dZ p)))):=by
 have hm:=ac1 M base (p.drop 8) (p.getD 7 0) (by rw[P.base];decide) (by rw[atd,P.len];decide) fun d hd=>P.dig d (List.mem_of_mem_drop hd)
 have hr0:=fun f=>aaf M f n0 (dZ p) h0
 have hr1:=fun f=>aaf M f n1 (dZ p) h1
 have hr2:=fun f=>aaf M f n2 (dZ p) h2
 have hd:=P.dig
 have hbr:Gx p base=if p.getD 7 0 < 6 then[0,0,0,0,0,0] else Jk p base:=rfl
 have hmp:Jk p base=HJ (p.drop 8) (p.getD 7 0) base:=rfl
 have hsb:dZ p=!(p.getD 6 0==9):=rfl
 obtain⟨x0,x1,x2,x3,x4,x5,x6,x7,x8,x9,x10,x11,x12,x13,rfl⟩:=alJ P.len
 generalize hp:[x0,x1,x2,x3,x4,x5,x6,x7,x8,x9,x10,x11,x12,x13]=p at *
 have h6:p.getD 6 0=x6:=by rw[←hp];rfl
 have h7:p.getD 7 0=x7:=by rw[←hp];rfl
 have h8:p.drop 8=[x8,x9,x10,x11,x12,x13]:=by rw[←hp];rfl
 have hx7:=hd x7 (by rw[←hp];simp)
 rw[h7,h8]at hm hmp
 rw[h7]at hbr
 rw[h6]at hsb
 simp only[h7]
 generalize dZ p=su at *
 generalize Jk p base=mk at *
 generalize Gx p base=br at *
 have c1:Rf.cutD (p.map PyData.int) (some 8) (some 14)=[PyData.int x8,.int x9,.int x10,.int x11,.int x12,.int x13]:=by rw[←hp];rfl
 have c2:atI (p.map PyData.int) 7=some (.int x7):=by rw[←hp];rfl
 have c3:atI (p.map PyData.int) 6=some (.int x6):=by rw[←hp];rfl
 have hm:wA M [.list [PyData.int x8,.int x9,.int x10,.int x11,.int x12,.int x13],.int x7,aH base]=.ok (aH mk):=by rw[hmp];exact hm
 have key:∀k:Nat,k < 10->([0,1,2,3,0,1,5,6,7,8]:List Int)[k]?=some (grT k):=by decide
 have hk:atI (([0,1,2,3,0,1,5,6,7,8]:List Int).map PyData.int) x7=some (.int (grT x7)):=by
  obtain⟨k,rfl⟩:∃k:Nat,x7=k:=⟨x7.toNat,by omega⟩
  exact atI_nat (by rw[arY,key k (by omega)];rfl)
 simp at hk
 have hm4:∀z,decide (CMul 4 z)=true:=fun z=>ags (by decide)
 clear hp hd P
 refine⟨?_,?_,?_,?_,?_,?_,?_,?_,?_,?_,?_,?_,?_,?_,?_⟩
 ·simp[dd,fJ,jR,c1,c2,c3,hm,←hsb,hr0,hr1,hr2,bJ.dat]
 ·cases su <;> simp[dd,fJ,jR,c1,c2,c3,hm,←hsb,hk,hm4,Rf.intD,bJ.dat]
 ·simp[dd,fJ,jR,c1,c2,c3,hm,←hsb,hr0,hr1,hr2,bJ.dat]
 ·by_cases h76:x7 < 6
  ·rw[if_pos h76]at hbr
   simp[dd,fJ,jR,c1,c2,c3,hm,←hsb,hr0,hr1,hr2,bJ.dat,h76,hbr]
  ·rw[if_neg h76]at hbr
   simp[dd,fJ,jR,c1,c2,c3,hm,←hsb,hr0,hr1,hr2,bJ.dat,h76,hbr]
 ·simp[dd,fJ,jR,c1,c2,c3,hm,←hsb,hr0,hr1,hr2,bJ.dat]
 ·simp[dd,fJ,jR,c1,c2,c3,hm,←hsb,hr0,hr1,hr2,bJ.dat]
 ·simp[dd,fJ,jR,c1,c2,c3,hm,←hsb,hr0,hr1,hr2,bJ.dat]
 ·simp[dd,fJ,jR,c1,c2,c3,hm,←hsb,hr0,hr1,hr2,bJ.dat]
 ·simp[dd,fJ,jR,c1,c2,c3,hm,←hsb,hr0,hr1,hr2,bJ.dat]
 ·simp[dd,fJ,jR,c1,c2,c3,hm,←hsb,hr0,hr1,hr2,bJ.dat]
 ·simp[dd,fJ,jR,c1,c2,c3,hm,←hsb,hr0,hr1,hr2,bJ.dat]
 ·simp[dd,fJ,jR,c1,c2,c3,hm,←hsb,hr0,hr1,hr2,bJ.dat]
 ·simp[dd,fJ,jR,c1,c2,c3,hm,←hsb,hr0,hr1,hr2,bJ.dat]
 ·simp[dd,fJ,jR,c1,c2,c3,hm,←hsb,hr0,hr1,hr2,bJ.dat]
 ·simp[dd,fJ,jR,c1,c2,c3,hm,←hsb,hr0,hr1,hr2,bJ.dat]
theorem Zm{w:Str}(hw:w∈(["owner","ground","enrol","bring","leave","heir","pass","unite","part","tear","sell","move","bear","cut","die"]:List Str))(ho:0<=one/\one<=1000)(ht:0<=two/\two<=1000):∃d:bJ,fJ M [.str w,.int one,.int two,lI p,.tuple [.int n0,.int n1,.int n2],aH base]=.ok d.dat/\fD d=true/\Ec d:=by
 have r10:=Ck (f:=one) (sure:=dZ p) ho h0
 have r11:=Ck (f:=one) (sure:=dZ p) ho h1
 have r12:=Ck (f:=one) (sure:=dZ p) ho h2
 have r20:=Ck (f:=two) (sure:=dZ p) ht h0
 have r21:=Ck (f:=two) (sure:=dZ p) ht h1
 have r22:=Ck (f:=two) (sure:=dZ p) ht h2
 have m1:=P.mark
 have m2:=P.bring
 have l1:(Jk p base).length<=1000:=by rw[gD m1];decide
 have l2:(Gx p base).length<=1000:=by rw[gD m2];decide
 have h7:0<=p.getD 7 0/\p.getD 7 0 < 10:=P.dig _ (by
  have:=P.len
  rw[List.getD_eq_getElem?_getD,arM (by omega)]
  exact asB _)
 have q4:nB (p.getD 7 0 % 4)=true:=by unfold nB;simp only[arK,decide_eq_true_eq];omega
 have q6:plB (p.getD 7 0 % 6)=true:=by unfold plB;simp only[arK,decide_eq_true_eq];omega
 have qg:nB (grT (p.getD 7 0)+4 * (if dZ p then 0 else 1))=true:=by
  unfold nB grT
  simp only[arK,decide_eq_true_eq]
  split <;> (repeat' split) <;> omega
 simp only[arZ,asr,or_false]at hw
 obtain⟨d0,d1,d2,d3,d4,d5,d6,d7,d8,d9,d10,d11,d12,d13,d14⟩:=Zw M P one two n0 n1 n2 h0 h1 h2
 rcases hw with rfl|rfl|rfl|rfl|rfl|rfl|rfl|rfl|rfl|rfl|rfl|rfl|rfl|rfl|rfl
 ·exact⟨_,d0,by simp[fD,r10,r11,r12,r20,r21,r22,m1,m2,q4,q6,-List.getD_eq_getElem?_getD],by first | trivial | assumption⟩
 ·exact⟨_,d1,qg,by first | trivial | assumption⟩
 ·exact⟨_,d2,by simp[fD,r10,r11,r12,r20,r21,r22,m1,m2,q4,q6,-List.getD_eq_getElem?_getD],by first | trivial | assumption⟩
 ·exact⟨_,d3,by simp[fD,r10,r11,r12,r20,r21,r22,m1,m2,q4,q6,-List.getD_eq_getElem?_getD],by first | trivial | assumption⟩
 ·exact⟨_,d4,by simp[fD,r10,r11,r12,r20,r21,r22,m1,m2,q4,q6,-List.getD_eq_getElem?_getD],by first | trivial | assumption⟩
 ·exact⟨_,d5,by simp[fD,r10,r11,r12,r20,r21,r22,m1,m2,q4,q6,-List.getD_eq_getElem?_getD],by first | trivial | assumption⟩
 ·exact⟨_,d6,by simp[fD,r10,r11,r12,r20,r21,r22,m1,m2,q4,q6,-List.getD_eq_getElem?_getD],by first | trivial | assumption⟩
 ·exact⟨_,d7,by simp[fD,r10,r11,r12,r20,r21,r22,m1,m2,q4,q6,-List.getD_eq_getElem?_getD],by first | trivial | assumption⟩
 ·exact⟨_,d8,by simp[fD,r10,r11,r12,r20,r21,r22,m1,m2,q4,q6,-List.getD_eq_getElem?_getD],by first | trivial | assumption⟩
 ·exact⟨_,d9,by simp[fD,r10,r11,r12,r20,r21,r22,m1,m2,q4,q6,-List.getD_eq_getElem?_getD],by first | trivial | assumption⟩
 ·exact⟨_,d10,by simp[fD,r10,r11,r12,r20,r21,r22,m1,m2,q4,q6,-List.getD_eq_getElem?_getD],by first | trivial | assumption⟩
 ·exact⟨_,d11,by simp[fD,r10,r11,r12,r20,r21,r22,m1,m2,q4,q6,-List.getD_eq_getElem?_getD],by first | trivial | assumption⟩
 ·exact⟨_,d12,by simp[fD,r10,r11,r12,r20,r21,r22,m1,m2,q4,q6,-List.getD_eq_getElem?_getD],by first | trivial | assumption⟩
 ·exact⟨_,d13,by simp[fD,r10,r11,r12,r20,r21,r22,m1,m2,q4,q6,-List.getD_eq_getElem?_getD],by first | trivial | assumption⟩
 ·exact⟨_,d14,by simp[fD,r10,r11,r12,r20,r21,r22,m1,m2,q4,q6,-List.getD_eq_getElem?_getD],by first | trivial | assumption⟩
end
abbrev words:List Str:=["owner","ground","enrol","bring","leave","heir","pass","unite","part","tear","sell","move","bear","cut","die"]
def Wj:List Str:=["tear","cut","bring","sell","move","enrol","bear","tear","cut","sell","move","unite","part","heir","pass","die","leave","ground","owner","enrol","tear","sell","bring","bear","cut"]
theorem ahV(M:Mo)(f:Int):∃w∈words,Ag M [.int f]=.ok (.str w):=by
 have h1:0<=f % 25/\f % 25 < 25:=by omega
 obtain⟨k,hk⟩:∃k:Nat,f % 25=k:=⟨(f % 25).toNat,by omega⟩
 have hl:k < Wj.length:=by show k < 25;omega
 have h2:atI (Wj.map PyData.str) (k:Int)=some (.str Wj[k]):=atI_nat (by rw[arY,arM hl];rfl)
 have h3:∀w∈Wj,w∈words:=by simp[Wj]
 refine⟨Wj[k],h3 _ (asB hl),?_⟩
 generalize Wj[k]=z at h2
 simp[Wj]at h2
 simp[Ag,Mx,hk,h2]
def xP(h:Int):List (Str×Int×Int):=if h % 8=7 then[] else[("ground",0,0),("owner",0,0),("owner",0,0),("enrol",0,0),("enrol",1,0),("bring",0,0),("cut",0,0),("bring",1,0),("cut",1,0),("ground",0,0),("enrol",0,1)]
def Ik(r:Str×Int×Int):Dat:=.tuple [.str r.1,.int r.2.1,.int r.2.2]
theorem adD(M:Mo)(h:Int):uX M [.int h]=.ok (.list ((xP h).map Ik)):=by
 unfold xP
 by_cases e:h % 8=7 <;> simp[uX,Fg,e,Ik]
theorem ah0{h:Int}:∀r∈xP h,r.1∈words/\(0<=r.2.1/\r.2.1<=1000)/\0<=r.2.2/\r.2.2<=1000:=by
 unfold xP
 split
 ·simp
 ·simp
inductive Rch:Nat->aK->Prop where
 |nil:Rch 0 ⟨0,[],[],[],[],[]⟩
 |step {n:Nat} {c:aK} (d:bJ):Rch n c->fD d=true->Rch (n+1) (ug c d)
 |le {n m:Nat} {c:aK}:Rch n c->n<=m->Rch m c
theorem Inv.mono{n s n' s':Nat}{c:aK}(I:Inv n s c)(h1:n<=n')(h2:s<=s'):Inv n' s' c:=
 I.of h1 I.gr (asi I.al h1) rfl rfl I.held (asi I.hL h2) I.hE ⟨I.V8.g,fun b hb=>by have:=I.en b hb;omega⟩
theorem aia(d:bJ):cost d<=1:=by cases d <;> simp[cost]
theorem anI:Inv 0 0 ⟨0,[],[],[],[],[]⟩:=⟨⟨rfl,by simp,by simp,by simp,by simp,by simp,by simp⟩,by simp,by simp,by simp,by simp,by simp,by simp,by simp,by simp,by simp,by simp,by simp,by simp⟩
structure Now(M:Mo)(L:Lay)(n s:Nat)(c:aK):Prop where
 at_:At M L c
 inv:Inv n s c
 rch:Rch n c
theorem Now.done{M:Mo}{L:Lay}{n s:Nat}{c:aK}(N:Now M L n s c)(hs:s<=76)(hn:n<=199)(d:bJ)(hd:Ec d)(hf:fD d=true):∃M' bs,iI M [ob L.c,d.dat,cV c]=.ok (cV (ug c d)) M'/\Now M' { L with bs:=bs } (n+1) (s+cost d) (ug c d):=by
 obtain⟨M',bs,h1,h2⟩:=aib N.at_ N.inv hs hn d hd hf
 exact⟨M',bs,h1,h2,afz N.inv d hn,.step d N.rch hf⟩
theorem abR(x:Int){base:List Int}(h:base.length=6):Pts (rowOf x 14 10) base:=⟨abF ..,ZS (by decide) _ _,h⟩
theorem vh(x:Int)(k:Nat)(h:k < 14):atI ((rowOf x 14 10).map PyData.int) (k:Int)=some (.int ((rowOf x 14 10).getD k 0))/\0<=(rowOf x 14 10).getD k 0/\(rowOf x 14 10).getD k 0<=9:=by
 have hl:k < (rowOf x 14 10).length:=by rw[abF];exact h
 refine⟨ZG _ k hl,?_⟩
 rw[List.getD_eq_getElem?_getD,arM hl]
 have:=ZS (by decide) x 14 _ (asB hl)
 simp
 omega
theorem ae1{M:Mo}{L:Lay}{n s:Nat}{c:aK}(N:Now M L n s c)(hs:s<=76)(hn:n<=199)(x1:Option Cell)(head:Int)(base:List Int)(hb:base.length=6)(i:Nat)(x:Int)(x8 x9 x10 x11 x12:Option Cell) :
  ∃d M' bs y8 y9 y10 y11,fD d=true/\CN M [some (.dat (ob L.c)),x1,some (.dat (.int head)),some (.dat (cV c)),some (.dat (aH base)),some (.dat (.list ((xP head).map Ik))),some (.dat (.int i)),some (.dat (.int x)),x8,x9,x10,x11,x12]=.next [some (.dat (ob L.c)),x1,some (.dat (.int head)),some (.dat (cV (ug c d))),some (.dat (aH base)),some (.dat (.list ((xP head).map Ik))),some (.dat (.int i)),some (.dat (.int x)),y8,y9,y10,y11,x12] M'/\Now M' { L with bs:=bs } (n+1) (s+cost d) (ug c d):=by
 have h1:qM M [.int x,.int 14,.int 10]=.ok (lI (rowOf x 14 10)):=SJ M x 14 10 (by decide) (by decide) (by decide)
 have P:=abR x hb
 obtain⟨r0,q0,q0'⟩:=vh x 0 (by decide)
 obtain⟨r1,q1,q1'⟩:=vh x 1 (by decide)
 obtain⟨r2,q2,q2'⟩:=vh x 2 (by decide)
 obtain⟨r3,q3,q3'⟩:=vh x 3 (by decide)
 obtain⟨r4,q4,q4'⟩:=vh x 4 (by decide)
 obtain⟨r5,q5,q5'⟩:=vh x 5 (by decide)
 generalize rowOf x 14 10=p at *
 generalize p.getD 0 0=d0 at *
 generalize p.getD 1 0=d1 at *
 generalize p.getD 2 0=d2 at *
 generalize p.getD 3 0=d3 at *
 generalize p.getD 4 0=d4 at *
 generalize p.getD 5 0=d5 at *
 obtain⟨w,hw,h2⟩:=ahV M (d0 * 10+d1)
 have hm:∀z,decide (CMul z 10)=true:=fun z=>mul_r (by decide)
 have c0:=N.inv.cnt.1
 simp only[Int.natCast_zero,Int.natCast_one,show((2:Nat):Int)=2 from rfl,show((3:Nat):Int)=3 from rfl,show((4:Nat):Int)=4 from rfl,show((5:Nat):Int)=5 from rfl]at r0 r1 r2 r3 r4 r5
 by_cases hi:i < (xP head).length
 ·have hi':(i:Int) < (xP head).length:=by omega
  have g:=arM hi
  obtain⟨b1,b2,b3⟩:=ah0 _ (asB hi)
  generalize (xP head)[i]=b at *
  obtain⟨d,e1,e2,e3⟩:=Zm M P b.2.1 b.2.2 c.count c.al.length c.bs.length c0 (by omega) (by omega) b1 b2 b3
  obtain⟨M',bs,e4,e5⟩:=N.done hs hn d e3 e2
  refine⟨d,M',bs,some (.dat (lI p)),some (.dat (.str b.1)),some (.dat (.int b.2.1)),some (.dat (.int b.2.2)),e2,?_,e5⟩
  have e1:fJ M [.str b.1,.int b.2.1,.int b.2.2,lI p,cV c,aH base]=.ok d.dat:=e1
  simp[CN,h1,r0,r1,r2,r3,r4,r5,hm,h2,hi',g]
  simp[Ik,e1,e4]
 ·have hi':¬(i:Int) < (xP head).length:=by omega
  obtain⟨d,e1,e2,e3⟩:=Zm M P (d2 * 10+d3) (d4 * 10+d5) c.count c.al.length c.bs.length c0 (by omega) (by omega) hw (by omega) (by omega)
  obtain⟨M',bs,e4,e5⟩:=N.done hs hn d e3 e2
  refine⟨d,M',bs,some (.dat (lI p)),some (.dat (.str w)),some (.dat (.int (d2 * 10+d3))),some (.dat (.int (d4 * 10+d5))),e2,?_,e5⟩
  have e1:fJ M [.str w,.int (d2 * 10+d3),.int (d4 * 10+d5),lI p,cV c,aH base]=.ok d.dat:=e1
  simp[CN,h1,r0,r1,r2,r3,r4,r5,hm,h2,hi']
  simp[e1,e4]
theorem W0(x1:Option Cell)(head:Int)(base:List Int)(hb:base.length=6)(x12:Option Cell):∀(xs:List (Nat×Int)) (M:Mo) (L:Lay) (n:Nat) (c:aK) (x6 x7 x8 x9 x10 x11:Option Cell),Now M L n n c->n+xs.length<=76->
  ∃c' M' bs y6 y7 y8 y9 y10 y11,dR (bA [6,7]) CN (xs.map fun q=>PyData.tuple [.int q.1,.int q.2]) M [some (.dat (ob L.c)),x1,some (.dat (.int head)),some (.dat (cV c)),some (.dat (aH base)),some (.dat (.list ((xP head).map Ik))),x6,x7,x8,x9,x10,x11,x12]=.next [some (.dat (ob L.c)),x1,some (.dat (.int head)),some (.dat (cV c')),some (.dat (aH base)),some (.dat (.list ((xP head).map Ik))),y6,y7,y8,y9,y10,y11,x12] M'/\Now M' { L with bs:=bs } (n+xs.length) (n+xs.length) c'
 |[],M,L,n,c,x6,x7,x8,x9,x10,x11,N,_=>⟨c,M,L.bs,x6,x7,x8,x9,x10,x11,rfl,N⟩
 |q::xs,M,L,n,c,x6,x7,x8,x9,x10,x11,N,hl=>by
  rw[arU]at hl
  obtain⟨d,M1,bs,y8,y9,y10,y11,h0,h1,N1⟩:=ae1 N (by omega) (by omega) x1 head base hb q.1 q.2 x8 x9 x10 x11 x12
  have N1:Now M1 { L with bs:=bs } (n+1) (n+1) (ug c d):=⟨N1.at_,N1.inv.mono (ash _) (by have:=aia d;omega),N1.rch⟩
  obtain⟨c',M',bs',z6,z7,z8,z9,z10,z11,h2,N2⟩:=W0 x1 head base hb x12 xs M1 { L with bs:=bs } (n+1) (ug c d) (some (.dat (.int q.1))) (some (.dat (.int q.2))) y8 y9 y10 y11 N1 (by omega)
  refine⟨c',M',bs',z6,z7,z8,z9,z10,z11,?_,?_⟩
  ·rw[arN,fj (ρ1:=[some (.dat (ob L.c)),x1,some (.dat (.int head)),some (.dat (cV c)),some (.dat (aH base)),some (.dat (.list ((xP head).map Ik))),some (.dat (.int q.1)),some (.dat (.int q.2)),x8,x9,x10,x11,x12]) (by simp) h1]
   exact h2
  ·rw[arU,show n+(xs.length+1)=n+1+xs.length by omega]
   exact N2
theorem acJ{M:Mo}{L:Lay}{n s:Nat}{c:aK}(N:Now M L n s c)(hs:s<=75)(hn:n<=198)(x1 x2 x4 x5 x6 x7 x8 x9 x10 x11 x12:Option Cell) :
  ∃c' M' bs,Jl M [some (.dat (ob L.c)),x1,x2,some (.dat (cV c)),x4,x5,x6,x7,x8,x9,x10,x11,x12]=.next [some (.dat (ob L.c)),x1,x2,some (.dat (cV c')),x4,x5,x6,x7,x8,x9,x10,x11,x12] M'/\Now M' { L with bs:=bs } (n+2) (s+1) c':=by
 obtain⟨M1,bs1,h1,N1⟩:=N.done (by omega) (by omega) (.bring 1 1 [0,0,0,0,0,0]) (by simp[Ec]) (by decide)
 have hl:=N1.inv.hL
 have hc:cost (.bring 1 1 [0,0,0,0,0,0])=1:=rfl
 generalize ug c (.bring 1 1 [0,0,0,0,0,0])=c1 at *
 obtain⟨M2,bs2,h2,N2⟩:=N1.done (by omega) (by omega) (.cut c1.bs.length) trivial (by simp only[fD,nB,arK,decide_eq_true_eq];omega)
 refine⟨_,M2,bs2,?_,N2.at_,N2.inv,N2.rch⟩
 have h1:iI M [ob L.c,.tuple [.str "bring",.int 1,.int 1,.tuple [.int 0,.int 0,.int 0,.int 0,.int 0,.int 0]],cV c]=.ok (cV c1) M1:=h1
 have h2:iI M1 [ob L.c,.tuple [.str "cut",.int c1.bs.length],cV c1]=_:=h2
 simp[Jl,h1]
 have e:atI [PyData.int c1.count,.int c1.al.length,.int c1.bs.length] 2=some (.int c1.bs.length):=rfl
 simp[cV]at h2 ⊢
 simp[h2]
theorem RP(x1 x2 x4 x5 x6 x7 x8 x9 x10 x11:Option Cell):∀(xs:List Dat) (M:Mo) (L:Lay) (n s:Nat) (c:aK) (x12:Option Cell),Now M L n s c->n+2 * xs.length<=198->s+xs.length<=75->
  ∃c' M' bs y12,dR (aF 12) Jl xs M [some (.dat (ob L.c)),x1,x2,some (.dat (cV c)),x4,x5,x6,x7,x8,x9,x10,x11,x12]=.next [some (.dat (ob L.c)),x1,x2,some (.dat (cV c')),x4,x5,x6,x7,x8,x9,x10,x11,y12] M'/\Now M' { L with bs:=bs } (n+2 * xs.length) (s+xs.length) c'
 |[],M,L,n,s,c,x12,N,_,_=>⟨c,M,L.bs,x12,rfl,N⟩
 |q::xs,M,L,n,s,c,x12,N,h1,h2=>by
  rw[arU]at h1 h2
  obtain⟨c1,M1,bs1,e1,N1⟩:=acJ N (by omega) (by omega) x1 x2 x4 x5 x6 x7 x8 x9 x10 x11 (some (.dat q))
  obtain⟨c',M',bs',y12,e2,N2⟩:=RP x1 x2 x4 x5 x6 x7 x8 x9 x10 x11 xs M1 { L with bs:=bs1 } (n+2) (s+1) c1 (some (.dat q)) N1 (by omega) (by omega)
  refine⟨c',M',bs',y12,?_,?_⟩
  ·rw[fj (ρ1:=[some (.dat (ob L.c)),x1,x2,some (.dat (cV c)),x4,x5,x6,x7,x8,x9,x10,x11,some (.dat q)]) (by simp) e1]
   exact e2
  ·rw[arU,show n+2 * (xs.length+1)=n+2+2 * xs.length by omega,show s+(xs.length+1)=s+1+xs.length by omega]
   exact N2
def Zi:aK:=⟨0,[],[],[],[],[]⟩
theorem ah4{M:Mo}{L:Lay}(a:At M L Zi)(cells:List Int)(hl:cells.length<=43)(head:Int):∃c M' L',L'.c=L.c/\Dc M [ob L.c,lI cells,.int head]=.ok (cV c) M'/\Now M' L' 99 71 c:=by
 have hb:=Kz (head / 512)
 have h1:=ZW M (head / 512)
 have h2:=adD M head
 have N0:Now M L 0 0 Zi:=⟨a,anI,.nil⟩
 have hen:lE 0 (cells.map PyData.int)=(cells.mapIdx fun i x=>(i,x)).map fun(q:Nat×Int)=>PyData.tuple [.int q.1,.int q.2]:=by
  unfold lE
  apply ase
  intro i
  simp
  cases cells[i]? <;> simp
 obtain⟨c1,M1,bs1,y6,y7,y8,y9,y10,y11,e1,N1⟩:=W0 (some (.dat (lI cells))) head (BP (head / 512)) hb none (cells.mapIdx fun i x=>(i,x)) M L 0 Zi none none none none none none N0 (by simp;omega)
 simp only[List.length_mapIdx,Nat.zero_add]at N1
 have hd:∀z,decide (CDiv z 512)=true:=fun z=>decide_eq_true ⟨by decide,by decide⟩
 have hd8:∀z,decide (CDiv z 8)=true:=fun z=>decide_eq_true ⟨by decide,by decide⟩
 have hd64:∀z,decide (CDiv z 64)=true:=fun z=>decide_eq_true ⟨by decide,by decide⟩
 have hm:∀z,decide (CMul z 4)=true:=fun z=>mul_r (by decide)
 have z0:cV Zi=.tuple [.int 0,.int 0,.int 0]:=rfl
 rw[z0]at e1
 by_cases hh:head / 8 % 8=1
 ·obtain⟨k,hk,hk2⟩:∃k:Nat,head / 64 % 8 * 4=k/\k<=28:=⟨(head / 64 % 8 * 4).toNat,by omega,by omega⟩
  obtain⟨c2,M2,bs2,y12,e2,N2⟩:=RP (some (.dat (lI cells))) (some (.dat (.int head))) (some (.dat (aH (BP (head / 512))))) (some (.dat (.list ((xP head).map Ik)))) y6 y7 y8 y9 y10 y11 (iH 0 k) M1 { L with bs:=bs1 } cells.length cells.length c1 none N1 (by simp[iH];omega) (by simp[iH];omega)
  refine⟨c2,M2,{ L with bs:=bs2 },rfl,?_,N2.at_,N2.inv.mono (by simp[iH];omega) (by simp[iH];omega),N2.rch.le (by simp[iH];omega)⟩
  have k1:(k:Int)<=100000:=by omega
  have k2 : -100000<=(k:Int):=by omega
  simp[Dc,QK,hd,h1,h2,hen,e1,hd8,hh,hd64,hm,hk,k1,k2,e2]
 ·refine⟨c1,M1,{ L with bs:=bs1 },rfl,?_,N1.at_,N1.inv.mono (by omega) (by omega),N1.rch.le (by omega)⟩
  simp[Dc,QK,hd,h1,h2,hen,e1,hd8,hh]
def L0:Lay:=⟨0,2,5,7,[],[]⟩
theorem anK:∃M L,L.c=0/\lY [⟨"Commons",[]⟩] [ob 0]=.ok .none M/\At M L Zi:=by
 refine⟨_,L0,rfl,by simp[lY,zp,jZ,uF,yL,vL,Bo,zA,Fo];rfl,?_⟩
 exact⟨rfl,⟨_,_,rfl⟩,rfl,⟨_,rfl⟩,rfl,fun i h b z _=>(by cases z),by decide,fun p hp=>(by cases hp)⟩
theorem ajK(n:Nat)(x:List Int):lk (n+1) (aH x)=true:=by
 show lk (n+1) (.tuple (x.map PyData.int))=true
 rw[lk]
 exact afc n x
theorem ak6(n:Nat)(x:Option (List Int)):lk (n+1) (oV x)=true:=by
 cases x with
 |none=>rw[oV,lk]
 |some e=>exact ajK n e
theorem alR(n:Nat)(f:Fi):lk (n+2) f.dat=true:=by
 cases f <;> simp[Fi.dat,lk,vo]
theorem alQ(n:Nat)(e:En):lk (n+2) e.dat=true:=by
 cases e <;> simp[En.dat,lk,vo]
theorem ahI(n:Nat)(b:dO):lk (n+4) (iV b)=true:=by
 have h1:vo (n+2) (b.en.map En.dat)=true:=v9.mpr fun d hd=>by
  obtain⟨e,_,rfl⟩:=arV.mp hd
  exact alQ n e
 have h2:=alR n b.fi
 have h3:=ak6 (n+2) b.sd.due
 simp[iV,lk,vo,h1,h2,h3]
theorem ahW(c:aK):lk 9 (gj c)=true:=by
 have h1:∀n,vo (n+2) ((List.range c.al.length).map (uN c))=true:=fun n=>v9.mpr fun d hd=>by
  obtain⟨e,_,rfl⟩:=arV.mp hd
  simp[uN,lk,vo]
 have h2:∀n,vo (n+2) (c.held.map gJ)=true:=fun n=>v9.mpr fun d hd=>by
  obtain⟨e,_,rfl⟩:=arV.mp hd
  simp[gJ,lk,vo]
 have h3:∀n,vo (n+4) (c.bs.map iV)=true:=fun n=>v9.mpr fun d hd=>by
  obtain⟨e,_,rfl⟩:=arV.mp hd
  exact ahI n e
 simp[gj,lk,vo,h1,h2,h3]
theorem V1(M:Mo)(c:aK):lJ 10 M [gj c,gj c]=.ok (.bool true):=U4 M 9 _ (ahW c)
theorem Now.look{M:Mo}{L:Lay}{n s:Nat}{c:aK}(N:Now M L n s c)(hs:s<=1000):lX M [ob L.c]=.ok (gj c):=by
 have:=N.inv.hL
 exact abA N.at_ N.inv.gr (by omega) (by omega)
def Spn(M:Mo)(L:Lay)(n s:Nat)(o:bx Dat):Res->Prop
 |.ok d c'=>∃M' L',L'.c=L.c/\o=.ok d M'/\At M' L' c'/\Inv n s c'
 |.no x=>o=.exc x M
theorem akx{M:Mo}{L:Lay}{c:aK}{n s:Nat}(I:Inv n s c)(hn:n<=199){d:bJ}{o:bx Dat}(h:Sp M L o (cD c d)):Spn M L (n+1) (s+cost d) o (cD c d):=by
 cases e:cD c d with
 |no x=>
  rw[e]at h
  exact h
 |ok r c'=>
  rw[e]at h
  obtain⟨M',bs,h1,h2⟩:=h
  exact⟨M',{ L with bs:=bs },rfl,h1,h2,Yh I hn e⟩
theorem aii{M:Mo}{L:Lay}{c:aK}{n s:Nat}(a:At M L c)(I:Inv n s c)(hs:s<=1000):lX M [ob L.c]=.ok (gj c):=by
 have:=I.hL
 exact abA a I.gr (by omega) (by omega)
theorem ais(l:List Int)(lo hi:Option Int):Rf.cutD (l.map PyData.int) lo hi=(Rf.cutD l lo hi).map PyData.int:=by
 unfold Rf.cutD
 rw[arT,List.map_take,List.map_drop]
theorem aiG{α:Type}(l:List α)(a b:Nat)(h:a<=b):(Rf.cutD l (some (a:Int)) (some (b:Int))).length<=b - a:=by
 unfold Rf.cutD
 rw[HT.sIx_nat,HT.sIx_nat,List.length_take]
 omega
theorem akC(M:Mo)(x:Int):∃y,MN M [.int x]=.ok (.int y):=by
 have hp:decide (CPow 10 30)=true:=decide_eq_true ⟨by decide,by decide,by decide⟩
 by_cases h:x < 0
 ·exact⟨_,by simp[MN,XC,hp,h];rfl⟩
 ·exact⟨_,by simp[MN,XC,hp,h];rfl⟩
theorem adN(M:Mo)(v x t:Int):∃y,Jm M [.int v,.int x,.int t]=.ok (.int y):=by
 obtain⟨y,h⟩:=akC M (x / 13)
 have hd:∀z,decide (CDiv z 13)=true:=fun z=>decide_eq_true ⟨by decide,by decide⟩
 by_cases e:x % 13=t
 ·exact⟨y,by simp[Jm,X7,e,hd,h]⟩
 ·exact⟨v,by simp[Jm,X7,e]⟩
@[simp]theorem ap2 (c:aK):aN (gj c) (.int 0)=.ok (lI c.own):=rfl
@[simp]theorem aqw (c:aK):aN (gj c) (.int 1)=.ok (.list ((List.range c.al.length).map (uN c))):=rfl
@[simp]theorem apx (c:aK):aN (gj c) (.int 2)=.ok (.list (c.held.map gJ)):=rfl
@[simp]theorem aq6 (c:aK):aN (gj c) (.int 3)=.ok (.list (c.bs.map iV)):=rfl
theorem eq_nil(xs:List Dat)(h:mK 11 xs=true):cA (.list xs) (.list [])=.ok (.bool xs.isEmpty)/\rZ (.list xs) (.list [])=.ok (.bool (!xs.isEmpty)):=by
 have e:eqB (.list xs) (.list [])=.ok xs.isEmpty:=by
  show Out.when (okd 12 (.list xs)&&okd 12 (.list [])) (.ok (PyData.eqv (.list xs) (.list [])))=_
  rw[okd,okd,h,akr]
  cases xs with
  |nil=>rfl
  |cons a r=>rw[ahu];rfl
 exact⟨by unfold cA;rw[e];rfl,by unfold rZ;rw[e];rfl⟩
theorem mU(M:Mo)(w:Str)(x head n0 n1 n2:Int){d:Dat}(h:dd M w ((rowOf x 14 10).getD 2 0 * 10+(rowOf x 14 10).getD 3 0) ((rowOf x 14 10).getD 4 0 * 10+(rowOf x 14 10).getD 5 0) (rowOf x 14 10) (BP (head / 512)) n0 n1 n2=.ok d):jM M [.str w,.int x,.tuple [.int n0,.int n1,.int n2],.int head]=.ok d:=by
 have h1:qM M [.int x,.int 14,.int 10]=.ok (lI (rowOf x 14 10)):=SJ M x 14 10 (by decide) (by decide) (by decide)
 have h2:=ZW M (head / 512)
 obtain⟨r2,_⟩:=vh x 2 (by decide)
 obtain⟨r3,_⟩:=vh x 3 (by decide)
 obtain⟨r4,_⟩:=vh x 4 (by decide)
 obtain⟨r5,_⟩:=vh x 5 (by decide)
 generalize rowOf x 14 10=p at *
 generalize p.getD 2 0=d2 at *
 generalize p.getD 3 0=d3 at *
 generalize p.getD 4 0=d4 at *
 generalize p.getD 5 0=d5 at *
 have hm:∀z,decide (CMul z 10)=true:=fun z=>mul_r (by decide)
 have hd:∀z,decide (CDiv z 512)=true:=fun z=>decide_eq_true ⟨by decide,by decide⟩
 simp only[show((2:Nat):Int)=2 from rfl,show((3:Nat):Int)=3 from rfl,show((4:Nat):Int)=4 from rfl,show((5:Nat):Int)=5 from rfl]at r2 r3 r4 r5
 unfold dd at h
 simp[jM,Uq,h1,h2,r2,r3,r4,r5,hm,hd,h]
theorem ae8(M:Mo)(c:aK)(hc:0<=c.count)(x head:Int):(∃a b,jM M [.str "leave",.int x,cV c,.int head]=.ok (.tuple [.str "leave",.int a,.int b]))/\(∃a b e,cY e=true/\jM M [.str "enrol",.int x,cV c,.int head]=.ok (.tuple [.str "enrol",.int a,.int b,aH e]))/\
  (∃a,jM M [.str "bear",.int x,cV c,.int head]=.ok (.tuple [.str "bear",.int a]))/\(∃a,jM M [.str "cut",.int x,cV c,.int head]=.ok (.tuple [.str "cut",.int a]))/\(∃a,jM M [.str "die",.int x,cV c,.int head]=.ok (.tuple [.str "die",.int a]))/\(∃a,jM M [.str "part",.int x,cV c,.int head]=.ok (.tuple [.str "part",.int a]))/\
  (∃a b,jM M [.str "tear",.int x,cV c,.int head]=.ok (.tuple [.str "tear",.int a,.int b]))/\(∃a b,jM M [.str "sell",.int x,cV c,.int head]=.ok (.tuple [.str "sell",.int a,.int b]))/\(∃a b,jM M [.str "move",.int x,cV c,.int head]=.ok (.tuple [.str "move",.int a,.int b]))/\(∃a b,jM M [.str "unite",.int x,cV c,.int head]=.ok (.tuple [.str "unite",.int a,.int b]))/\(∃a b,jM M [.str "pass",.int x,cV c,.int head]=.ok (.tuple [.str "pass",.int a,.int b])):=by
 have P:=abR x (Kz (head / 512))
 obtain⟨_,_,d2,_,d4,_,d6,d7,d8,d9,d10,d11,d12,d13,d14⟩:=Zw M P ((rowOf x 14 10).getD 2 0 * 10+(rowOf x 14 10).getD 3 0) ((rowOf x 14 10).getD 4 0 * 10+(rowOf x 14 10).getD 5 0) c.count c.al.length c.bs.length hc (by omega) (by omega)
 exact⟨⟨_,_,mU M _ x head _ _ _ d4⟩,⟨_,_,_,P.mark,mU M _ x head _ _ _ d2⟩,⟨_,mU M _ x head _ _ _ d12⟩,⟨_,mU M _ x head _ _ _ d13⟩,⟨_,mU M _ x head _ _ _ d14⟩,⟨_,mU M _ x head _ _ _ d8⟩,⟨_,_,mU M _ x head _ _ _ d9⟩,⟨_,_,mU M _ x head _ _ _ d10⟩,⟨_,_,mU M _ x head _ _ _ d11⟩,⟨_,_,mU M _ x head _ _ _ d7⟩,⟨_,_,mU M _ x head _ _ _ d6⟩⟩
theorem played(ns:List Int):∃(c:aK) (M1:Mo) (L1:Lay) (head:Int) (M0:Mo),L1.c=0/\lY [⟨"Commons",[]⟩] [ob 0]=.ok .none M0/\uZ M0 [lI ns,.int 0]=.ok (.int (ns.getD 0 0))/\head=(if ns.getD 0 0 < 0 then -(ns.getD 0 0) else ns.getD 0 0)/\Dc M0 [ob 0,.list (Rf.cutD (ns.map PyData.int) (some 2) (some 44)),.int head]=.ok (cV c) M1/\Now M1 L1 99 71 c/\uZ M1 [lI ns,.int 1]=.ok (.int (ns.getD 1 0)):=by
 obtain⟨M0,L,hL,h0,a0⟩:=anK
 have cell0:uZ M0 [lI ns,.int 0]=_:=ab0 M0 ns 0
 have hl:=aiG ns 2 44 (by decide)
 obtain⟨c,M1,L1,hL1,h1,N1⟩:=ah4 a0 (Rf.cutD ns (some ((2:Nat):Int)) (some ((44:Nat):Int))) (by omega) (if ns.getD 0 0 < 0 then -(ns.getD 0 0) else ns.getD 0 0)
 have cell1:uZ M1 [lI ns,.int 1]=_:=ab0 M1 ns 1
 refine⟨c,M1,L1,_,M0,hL1.trans hL,h0,cell0,rfl,?_,N1,cell1⟩
 rw[ais]
 rw[hL]at h1
 exact h1
theorem Dz(M:Mo)(c:aK)(g:Int):mD M [gj c,.int g]=.ok (.bool (decide (Vg c g))):=by
 by_cases h:1<=g <;> simp[mD,zj,h,Vg]
@[simp]theorem aqz (b:dO):aN (iV b) (.int 0)=.ok (.int b.sd.o):=rfl
@[simp]theorem apt (b:dO):aN (iV b) (.int 1)=.ok (.int b.sd.g):=rfl
@[simp]theorem apv (b:dO):aN (iV b) (.int 2)=.ok (oV b.sd.due):=rfl
@[simp]theorem aqv (b:dO):aN (iV b) (.int 3)=.ok (aH b.sd.ear):=rfl
@[simp]theorem apR (b:dO):aN (iV b) (.int 4)=.ok (.bool b.sd.al):=rfl
@[simp]theorem ap5 (b:dO):aN (iV b) (.int 5)=.ok (.int b.mo):=rfl
@[simp]theorem aqQ (b:dO):aN (iV b) (.int 6)=.ok (.tuple (b.fi.dat::b.en.map En.dat)):=rfl
theorem XJ{c:aK}{x:Int}(h:Vg c x):atI ((List.range c.al.length).map (uN c)) (x - 1)=some (.tuple [.int (Fy c x),aH (aW c x)]):=by
 obtain⟨k,hk,rfl⟩:=Ak h
 rw[show(k:Int)+1 - 1=(k:Int) by omega,afN]
 simp[hk,uN]
theorem ajX(neg:Bool)(y:Int)(l:List Int)(h:l.length<=1000):inD neg (.int y) (aH l)=.ok (.bool (neg ^^ decide (y∈l))):=by
 have:=any_ints y l
 have h2:(JM (PyData.int y)&&l.all (JM ∘ PyData.int))=true:=by simp[JM,ar5]
 simp[inD,inB,this,h2]
theorem Rv(M:Mo)(c:aK)(i:cU c)(x:Int)(h:Vg c x):wz M [gj c,.int x]=.ok (.int (roomOf c x)):=by
 have h1:=XJ h
 have hc:=i.at h
 have hl:(aW c x).length<=50000:=by have:=i.clen hc;omega
 have hne:(aW c x).map (Fy c)≠[]:=fun z=>by
  have:=i.self h
  rw[List.map_eq_nil_iff.mp z]at this
  cases this
 have key:=fu (tg:=aF 2) (te:=aA aN (aA aN (aA aN (ao 0) (qC (.int 1))) (aA jX (ao 2) (qC (.int 1)))) (qC (.int 0))) (M:=M) (ρ:=[some (.dat (gj c)),some (.dat (.int x)),none]) PyData.int (fun y=>.int (Fy c y)) (aW c x) fun y hy=>⟨[some (.dat (gj c)),some (.dat (.int x)),some (.dat (.int y))],by simp,by
  have:=XJ (i.mem _ _ hc y hy)
  simp[this]⟩
 have hm:=maxD_ints hne
 rw[asn]at hm
 simp[ar5]at hm
 simp[wz,Mp,h1,key,hl,hm,roomOf]
theorem up_eq:∀{S T:List Rw},Ear.Hw S->Ear.Hw T->(∀r,r∈S↔r∈T)->S=T
 |[],[],_,_,_=>rfl
 |[],t::T,_,_,m=>by have:=(m t).mpr arP;cases this
 |s::S,[],_,_,m=>by have:=(m s).mp arP;cases this
 |s::S,t::T,hs,ht,m=>by
  have hs':=List.pairwise_cons.mp hs
  have ht':=List.pairwise_cons.mp ht
  have e:s=t:=by
   rcases arZ.mp ((m s).mp arP) with h1|h1
   ·exact h1
   rcases arZ.mp ((m t).mpr arP) with h2|h2
   ·exact h2.symm
   exact absurd (List.lt_trans (ht'.1 s h1) (hs'.1 t h2)) (List.lt_irrefl _)
  subst e
  congr 1
  refine up_eq hs'.2 ht'.2 fun r=>⟨fun h=>?_,fun h=>?_⟩
  ·rcases arZ.mp ((m r).mp (arO _ h)) with z|z
   ·subst z
    exact absurd (hs'.1 _ h) (List.lt_irrefl _)
   ·exact z
  ·rcases arZ.mp ((m r).mpr (arO _ h)) with z|z
   ·subst z
    exact absurd (ht'.1 _ h) (List.lt_irrefl _)
   ·exact z
theorem aj9(r s:Rw):rZ (Ear.rD r) (Ear.rD s)=.ok (.bool (!decide (r=s))):=by
 have e:PyData.eqv (Ear.rD r) (Ear.rD s)=decide (r=s):=by
  rw[asW]
  simp[Ear.rD,Ear.dT,Prod.ext_iff]
 have:eqB (Ear.rD r) (Ear.rD s)=.ok (decide (r=s)):=by
  show Out.when (okd 12 (Ear.rD r)&&okd 12 (Ear.rD s)) (.ok (PyData.eqv (Ear.rD r) (Ear.rD s)))=_
  rw[Mw 10,Mw 10,e]
  rfl
 unfold rZ
 rw[this]
 rfl
theorem atI_last{α:Type}(l:List α)(a:α):atI (l++[a]) (-1)=some a:=by
 unfold atI ixN
 have:(-1+((l.length:Int)+1)).toNat=l.length:=by omega
 have h2:(1:Int)<=l.length+1:=by omega
 simp[this,h2]
def qJ(acc:List Rw)(r:Rw):List Rw:=if acc.getLast?=some r then acc else acc++[r]
theorem adZ(M:Mo)(x0:Option Cell)(acc:List Rw)(r:Rw)(h:acc.length<=5000):yK M [x0,some (.mut (acc.map Ear.rD)),some (.dat (Ear.rD r))]=.next [x0,some (.mut ((qJ acc r).map Ear.rD)),some (.dat (Ear.rD r))] M:=by
 have h1:=(eq_nil (acc.map Ear.rD) (aa4 9 acc)).1
 have h0:acc.length < 100000:=by omega
 rcases List.eq_nil_or_concat acc with rfl|⟨l,a,rfl⟩
 ·simp at h1
  simp[yK,h1,qJ]
 ·have h2:((l++[a]).map Ear.rD).isEmpty=false:=by simp
  rw[List.concat_eq_append]at *
  rw[h2]at h1
  rw[List.map_append]at h1 ⊢
  have h3:=aj9 a r
  have h4:=atI_last (l.map Ear.rD) (Ear.rD a)
  simp at h0
  by_cases e:a=r
  ·subst e
   simp at h1 h4 h3
   simp[yK,h1,h4,h3,qJ]
  ·simp[e]at h1 h4 h3
   simp[yK,h1,h4,h3,qJ,e,h0]
theorem Vy(M:Mo)(x0:Option Cell):∀(R acc:List Rw) (x2:Option Cell),acc.length+R.length<=5000->∃y2,dR (aF 2) yK (R.map Ear.rD) M [x0,some (.mut (acc.map Ear.rD)),x2]=.next [x0,some (.mut ((R.foldl qJ acc).map Ear.rD)),y2] M
 |[],acc,x2,_=>⟨x2,rfl⟩
 |r::R,acc,x2,h=>by
  rw[arU]at h
  have hl:(qJ acc r).length<=acc.length+1:=by
   unfold qJ
   split <;> simp
  obtain⟨y2,h2⟩:=Vy M x0 R (qJ acc r) (some (.dat (Ear.rD r))) (by omega)
  exact⟨y2,by rw[arN,fj (ρ1:=[x0,some (.mut (acc.map Ear.rD)),some (.dat (Ear.rD r))]) (by simp) (adZ M x0 acc r (by omega))];exact h2⟩
theorem TJ:∀(R acc:List Rw),Ear.Hw acc->R.Pairwise (fun a b=>Ear.rk a<=Ear.rk b)->(∀a∈acc,∀r∈R,Ear.rk a<=Ear.rk r)->Ear.Hw (R.foldl qJ acc)/\∀x,x∈R.foldl qJ acc↔x∈acc∨x∈R
 |[],acc,ha,_,_=>⟨ha,by simp⟩
 |r::R,acc,ha,hR,hb=>by
  have hR':=List.pairwise_cons.mp hR
  rw[asY]
  by_cases e:acc.getLast?=some r
  ·have e1:qJ acc r=acc:=by rw[qJ,if_pos e]
   rw[e1]
   obtain⟨k1,k2⟩:=TJ R acc ha hR'.2 fun a m x hx=>hb a m x (arO _ hx)
   have mr:r∈acc:=List.mem_of_getLast? e
   refine⟨k1,fun x=>?_⟩
   rw[k2,arZ]
   constructor
   ·rintro(h|h)
    ·exact .inl h
    ·exact .inr (.inr h)
   ·rintro(h|h|h)
    ·exact .inl h
    ·subst h;exact .inl mr
    ·exact .inr h
  ·have e1:qJ acc r=acc++[r]:=by rw[qJ,if_neg e]
   rw[e1]
   have hup:Ear.Hw (acc++[r]):=by
    rcases List.eq_nil_or_concat acc with rfl|⟨l,a,rfl⟩
    ·exact List.pairwise_singleton _ _
    ·rw[List.concat_eq_append]at *
     have ne:a≠r:=fun z=>e (by simp[z])
     have lt:Ear.rk a < Ear.rk r:=by
      have:=hb a (by simp) r arP
      by_cases c:Ear.rk a < Ear.rk r
      ·exact c
      ·exact absurd (Ear.Zt (List.le_antisymm this (List.not_lt.mp c))) ne
     refine List.pairwise_append.mpr ⟨ha,List.pairwise_singleton _ _,fun x hx y hy=>?_⟩
     rw[arQ.mp hy]
     rcases arW.mp hx with hx|hx
     ·exact List.lt_trans ((List.pairwise_append.mp ha).2.2 x hx a (by simp)) lt
     ·rw[arQ.mp hx]
      exact lt
   obtain⟨k1,k2⟩:=TJ R (acc++[r]) hup hR'.2 fun a m x hx=>by
    rcases arW.mp m with m|m
    ·exact hb a m x (arO _ hx)
    ·rw[arQ.mp m]
     exact hR'.1 x hx
   refine⟨k1,fun x=>?_⟩
   rw[k2,arW,arQ,arZ,or_assoc]
theorem afO(R:List Rw):(oZ R).Pairwise fun a b=>Ear.rk a<=Ear.rk b:=by
 unfold oZ
 have srt:=as7 (le:=fun a b:Ear.Rw=>decide (Ear.rk a<=Ear.rk b)) (fun a b c k1 k2=>by rw[decide_eq_true_eq]at *;exact List.le_trans k1 k2) (fun a b=>by rw[as9,decide_eq_true_eq,decide_eq_true_eq];exact List.le_total _ _) R
 exact srt.imp fun h=>by simpa using h
theorem acv(R:List Rw):vN (.list (R.map Ear.rD))=.ok (.list ((oZ R).map Ear.rD)):=by
 cases R with
 |nil=>simp[vN,intsOf,sortI,oZ]
 |cons r R=>
  have h1:intsOf ((r::R).map Ear.rD)=none:=by simp[intsOf,Ear.rD]
  show(match intsOf ((r::R).map Ear.rD) with
   |some l=>Out.ok (PyData.list ((sortI l).map PyData.int))
   |none=>match BZ ((r::R).map Ear.rD) with
    |some R=>.ok (.list ((oZ R).map Ear.rD))
    |none=>.bad)=_
  rw[h1,Kl]
theorem ag9(M:Mo)(R:List Rw)(h:R.length<=5000):KN M [.list (R.map Ear.rD)]=.ok (.list ((bM R).map Ear.rD)):=by
 have hl:(oZ R).length=R.length:=by simp[oZ]
 obtain⟨y2,h1⟩:=Vy M (some (.dat (.list (R.map Ear.rD)))) (oZ R) [] none (by simp;omega)
 have h2:=TJ (oZ R) [] List.Pairwise.nil (afO R) (by simp)
 have e:(oZ R).foldl qJ []=bM R:=up_eq h2.1 (Dr R) fun x=>by
  rw[h2.2,eO]
  simp[oZ]
 rw[e]at h1
 simp only[asU]at h1
 simp[KN,aao,acv,h1]
theorem adp(M:Mo)(x0 x2:Option Cell)(x6 x7 x8:Option Cell)(nD:Dat)(near:List Int)(hn:∀y,inD false (.int y) nD=.ok (.bool (decide (y∈near))))(lo:Int)(acc:List Rw)(i:Int)(b:dO)(h:acc.length<=5000) :
  lW M [x0,some (.dat nD),some (.dat (.int lo)),some (.mut (acc.map Ear.rD)),some (.dat (.int i)),some (.dat (iV b)),x6,x7,x8]=.next [x0,some (.dat nD),some (.dat (.int lo)),some (.mut ((acc++if (b.sd.due.isSome&&!((i+1)==lo))&&(decide (b.sd.g∈near)&&b.sd.al) then[(b.sd.o,b.sd.due.getD [])] else[]).map Ear.rD)),some (.dat (.int i)),some (.dat (iV b)),x6,x7,x8] M:=by
 have h0:acc.length < 100000:=by omega
 have h1:=hn b.sd.g
 cases e1:b.sd.al with
 |false=>simp[lW,e1]
 |true=>
  cases e2:b.sd.due with
  |none=>simp[lW,e1,e2,oV,jW]
  |some e=>
   by_cases e3:b.sd.g∈near
   ·by_cases e4:i+1=lo
    ·simp[lW,e1,e2,oV,jW,h1,e3,e4]
    ·simp[lW,e1,e2,oV,jW,h1,e3,e4,h0,Ear.rD,Ear.dT]
   ·simp[lW,e1,e2,oV,jW,h1,e3]
theorem VJ(M:Mo)(x0:Option Cell)(x6 x7 x8:Option Cell)(nD:Dat)(near:List Int)(hn:∀y,inD false (.int y) nD=.ok (.bool (decide (y∈near))))(lo:Int):∀(xs:List (Nat×dO)) (acc:List Rw) (x4 x5:Option Cell),acc.length+xs.length<=5000->∃y4 y5,
  dR (bA [4,5]) lW (xs.map fun x=>.tuple [.int (x.1:Int),iV x.2]) M [x0,some (.dat nD),some (.dat (.int lo)),some (.mut (acc.map Ear.rD)),x4,x5,x6,x7,x8]=.next [x0,some (.dat nD),some (.dat (.int lo)),some (.mut ((acc++((xs.filter fun x=>(x.2.sd.due.isSome&&!(((x.1:Int)+1)==lo))&&(decide (x.2.sd.g∈near)&&x.2.sd.al)).map fun x=>(x.2.sd.o,x.2.sd.due.getD []))).map Ear.rD)),y4,y5,x6,x7,x8] M
 |[],acc,x4,x5,_=>⟨x4,x5,by simp[dR]⟩
 |x::xs,acc,x4,x5,h=>by
  rw[arU]at h
  have hs:=adp M x0 (some (.dat (.int lo))) x6 x7 x8 nD near hn lo acc (x.1:Int) x.2 (by omega)
  generalize hz:(if (x.2.sd.due.isSome&&!(((x.1:Int)+1)==lo))&&(decide (x.2.sd.g∈near)&&x.2.sd.al) then[(x.2.sd.o,x.2.sd.due.getD [])] else[])=z at hs
  have hl:z.length<=1:=by rw[←hz];split <;> simp
  obtain⟨y4,y5,h2⟩:=VJ M x0 x6 x7 x8 nD near hn lo xs (acc++z) (some (.dat (.int x.1))) (some (.dat (iV x.2))) (by rw[asw];omega)
  refine⟨y4,y5,?_⟩
  rw[arN,fj (ρ1:=[x0,some (.dat nD),some (.dat (.int lo)),some (.mut (acc.map Ear.rD)),some (.dat (.int x.1)),some (.dat (iV x.2)),x6,x7,x8]) (by simp) hs,h2,←hz]
  congr 6
  rw[asz]
  split <;> simp
theorem aeG(c:aK):lE 0 (c.bs.map iV)=(c.bs.mapIdx fun i b=>(i,b)).map fun x=>.tuple [.int (x.1:Int),iV x.2]:=by
 unfold lE
 apply ase
 intro j
 simp only[arY,asy]
 cases c.bs[j]? <;> simp
theorem acS(M:Mo)(c:aK)(hh:c.held.length<=2000)(hb:c.bs.length<=2000)(nD:Dat)(near:List Int)(hn:∀y,inD false (.int y) nD=.ok (.bool (decide (y∈near))))(lo:Int):Am M [gj c,nD,.int lo]=.ok (.list ((bM (inR c near++Dt c lo near)).map Ear.rD)):=by
 have k1:=gq (tg:=bA [6,7,8]) (tt:=bh (aA (inD false) (ao 7) (ao 1))) (te:=bB (ak (aq 6) (ak (aq 8) au))) (M:=M) (ρ:=[some (.dat (gj c)),some (.dat nD),some (.dat (.int lo)),none,none,none,none,none,none]) gJ (fun r=>decide (r.2.1∈near)) (fun r=>Ear.rD (r.1,r.2.2)) c.held fun r _=>⟨[some (.dat (gj c)),some (.dat nD),some (.dat (.int lo)),none,none,none,some (.dat (.int r.1)),some (.dat (.int r.2.1)),some (.dat (aH r.2.2))],by simp[gJ],by simp[hn],fun _=>by simp[Ear.rD,Ear.dT]⟩
 have e1:((c.held.filter fun r=>decide (r.2.1∈near)).map fun r=>Ear.rD (r.1,r.2.2))=(inR c near).map Ear.rD:=by simp[inR,ar5]
 rw[e1]at k1
 have l1:(inR c near).length<=2000:=by
  unfold inR
  rw[arT]
  exact asi (ar0 _ _) hh
 obtain⟨y4,y5,k2⟩:=VJ M (some (.dat (gj c))) none none none nD near hn lo (c.bs.mapIdx fun i b=>(i,b)) (inR c near) none none (by simp;omega)
 rw[←aeG]at k2
 have e2:((c.bs.mapIdx fun i b=>(i,b)).filter fun x=>(x.2.sd.due.isSome&&!(((x.1:Int)+1)==lo))&&(decide (x.2.sd.g∈near)&&x.2.sd.al)).map (fun x=>(x.2.sd.o,x.2.sd.due.getD []))=Dt c lo near:=rfl
 rw[e2]at k2
 have l2:(Dt c lo near).length<=2000:=by
  unfold Dt
  rw[arT]
  exact asi (ar0 _ _) (by simp;omega)
 have k3:=ag9 M (inR c near++Dt c lo near) (by simp;omega)
 have h5:c.held.length<=50000:=by omega
 simp[-List.map_append,Am,Lq,k1,h5,k2,k3]
theorem V4:∀(l:List (Int×Int)),(l.map fun p=>if p.2 - p.1 > 0 then p.2 - p.1 else 0).sum=((l.filter fun p=>decide (p.1 < p.2)).map fun p=>p.2 - p.1).sum
 |[]=>rfl
 |p::l=>by
  rw[arN,List.sum_cons,V4 l,asz]
  by_cases h:p.1 < p.2
  ·rw[if_pos (by omega),if_pos (by simpa using h),arN,List.sum_cons]
  ·rw[if_neg (by omega),if_neg (by simpa using h)]
   omega
theorem Yl(M:Mo)(x y:List Int)(h:x.length<=1000):Cr M [aH x,aH y]=.ok (.int (u6 x y)):=by
 have key:=fu (tg:=bA [2,3]) (te:=aA lU (qC (.int 0)) (aA jX (ao 3) (ao 2))) (M:=M) (ρ:=[some (.dat (aH x)),some (.dat (aH y)),none,none]) pD (fun p=>.int (if p.2 - p.1 > 0 then p.2 - p.1 else 0)) (x.zip y) fun p _=>⟨[some (.dat (aH x)),some (.dat (aH y)),some (.dat (.int p.1)),some (.dat (.int p.2))],by simp[pD],by simp⟩
 have hs:=V3 ((x.zip y).map fun p=>if p.2 - p.1 > 0 then p.2 - p.1 else 0)
 rw[V4,asn]at hs
 have hz2:min x.length y.length<=50000:=by omega
 simp[Cr,UL,yP,key,hz2]
 simp[ar5]at hs
 simp[hs,u6]
theorem ajb(M:Mo)(x y:List Int)(h:x.length<=1000)(h2:y.length<=1000):QX M [aH x,aH y]=.ok (.int (iT x y)):=by
 simp[QX,acg,Yl M x y h,Yl M y x h2,iT]
theorem aku(M:Mo)(x y:List Int)(h:x.length<=1000):RX M [aH x,aH y]=.ok (aH (fG x y)):=by
 have key:=fu (tg:=bA [2,3]) (te:=aA lU (ao 2) (ao 3)) (M:=M) (ρ:=[some (.dat (aH x)),some (.dat (aH y)),none,none]) pD (fun p=>.int (if p.2 > p.1 then p.2 else p.1)) (x.zip y) fun p _=>⟨[some (.dat (aH x)),some (.dat (aH y)),some (.dat (.int p.1)),some (.dat (.int p.2))],by simp[pD],by simp⟩
 have hz2:min x.length y.length<=50000:=by omega
 simp[RX,acP,yP,key,hz2,fG]
def Rwl(c:aK)(lo g:Int)(r:Rw):Prop:=(r.1,g,r.2)∈c.held∨∃(i:Nat) (b:dO),c.bs[i]?=some b/\b.sd.al=true/\b.sd.due=some r.2/\b.sd.o=r.1/\b.sd.g=g/\(i:Int)+1≠lo
theorem Rwl.all{c:aK}{lo g:Int}{r:Rw}(h:Rwl c lo g r):Rwl c 0 g r:=h.imp id fun⟨i,b,h1,h2,h3,h4,h5,_⟩=>⟨i,b,h1,h2,h3,h4,h5,by omega⟩
theorem Ze{c:aK}{lo:Int}{near:List Int}{r:Rw}:r∈inR c near++Dt c lo near↔∃g∈near,Rwl c lo g r:=by
 constructor
 ·intro h
  rcases arW.mp h with h|h
  ·obtain⟨g,h1,h2⟩:=Uv h
   exact⟨g,h2,.inl h1⟩
  ·obtain⟨i,b,h1,h2,h3,h4,h5,h6⟩:=O8 h
   exact⟨b.sd.g,h5,.inr ⟨i,b,h1,h4,h3,h2,rfl,h6⟩⟩
 ·rintro⟨g,hg,h|⟨i,b,h1,h2,h3,h4,h5,h6⟩⟩
  ·exact asq _ (arV.mpr ⟨_,ar9.mpr ⟨h,by simpa using hg⟩,rfl⟩)
  ·refine asF _ (arV.mpr ⟨(i,b),ar9.mpr ⟨?_,?_⟩,?_⟩)
   ·obtain⟨hi,e⟩:=arL.mp h1
    exact List.mem_mapIdx.mpr ⟨i,hi,by rw[e]⟩
   ·have h6':((i:Int)+1==lo)=false:=by simpa using h6
    subst h5
    simp[h3,h2,hg,h6']
   ·simp[h3,h4]
theorem VP{c:aK}{lo x:Int}{r:Rw}:r∈fK c lo x↔∃g∈aW c x,Rwl c lo g r:=Ze
def Ho(x:dB):Dat:=match x.fs with
 |[(_,e),(_,b),(_,a)]=>.tuple [a,b,e]
 |_=>.none
def Ij(c:aK):Res->Dat
 |.ok d c'=>.tuple [.str "",d,gj c']
 |.no x=>.tuple [.str x.cls,Ho x,gj c]
def anP(M:Mo)(L:Lay)(n s:Nat)(o:bx Dat):Res->Prop
 |.ok d c'=>∃M' L',L'.c=L.c/\o=.ok (.tuple [.str "",d]) M'/\At M' L' c'/\Inv n s c'
 |.no x=>o=.ok (.tuple [.str x.cls,Ho x]) M
@[simp]theorem anl (o:Int) (e:List Int) (r:Rw):Px "Clash" (pH o e r) (.flds ["ones","others","ear"])=some (.tuple [Ear.rD (o,e),Ear.rD r,aH (fG e r.2)]):=by
 have h1:lf (aH (fG e r.2))=true:=by
  have:∀l:List Int,Oh (l.map PyData.int)=true:=fun l=>by
   induction l with
   |nil=>rfl
   |cons i l ih=>rw[arN,Oh,lf,ih];rfl
  rw[lf,this]
 have h2:∀r:Rw,lf (Ear.rD r)=true:=fun r=>by
  have:∀l:List Int,Oh (l.map PyData.int)=true:=fun l=>by
   induction l with
   |nil=>rfl
   |cons i l ih=>rw[arN,Oh,lf,ih];rfl
  simp[Ear.rD,Ear.dT,lf,Oh,this]
 simp[Px,M5,Ub,pH,h1,h2]
@[simp]theorem ana (o:Int) (e:List Int) (r:Rw):(pH o e r).cls="Clash":=rfl
@[simp]theorem am4 (o:Int) (e:List Int) (r:Rw):Ho (pH o e r)=.tuple [Ear.rD (o,e),Ear.rD r,aH (fG e r.2)]:=rfl
@[simp]theorem arf (x:Str):Ho ⟨x,[]⟩=.none:=rfl
theorem lk_row(n:Nat)(r:Rw):lk (n+2) (Ear.rD r)=true:=by simp[Ear.rD,Ear.dT,lk,vo]
theorem aml(x:dB)(h:x.fs=[]∨∃o e r,x=pH o e r):lk 8 (Ho x)=true:=by
 rcases h with h|⟨o,e,r,rfl⟩
 ·simp[Ho,h,lk]
 ·have h1:=lk_row 5 r
  have h2:=lk_row 5 (o,e)
  simp[lk,vo,h1,h2]
theorem afU{M:Mo}{L:Lay}{c:aK}(a:At M L c)(d:bJ)(hd:Ec d)(hf:fD d=false):iI M [ob L.c,d.dat,cV c]=.ok (cV c) M:=by
 have hc:=a.hc
 have h0:=abH M d hd
 rw[hf]at h0
 have h1:cC M [ob L.c,d.dat]=.exc ⟨"BadDeed",[]⟩ M:=by
  simp[cC,cQ,h0]
 simp[iI,Gz,hc,aO,nQ,h1,jW,pX]
theorem Now.Z9{M:Mo}{L:Lay}{n s:Nat}{c:aK}(N:Now M L n s c)(hs:s<=76)(hn:n<=199)(d:bJ)(hd:Ec d):∃M' bs c',iI M [ob L.c,d.dat,cV c]=.ok (cV c') M'/\Now M' { L with bs:=bs } (n+1) (s+cost d) c':=by
 cases hf:fD d with
 |true=>
  obtain⟨M',bs,h1,h2⟩:=N.done hs hn d hd hf
  exact⟨M',bs,_,h1,h2⟩
 |false=>exact⟨M,L.bs,c,afU N.at_ d hd hf,N.at_,N.inv.mono (by omega) (by omega),N.rch.le (by omega)⟩
def WQ(room:Int)(r s:Rw):Bool:=!(r.1==s.1)&&decide (iT r.2 s.2<=room)
def M6(p:Rw×Rw):Dat:=.tuple [Ear.rD p.1,Ear.rD p.2,aH (fG p.1.2 p.2.2)]
theorem aa6(M:Mo)(x0 x2:Option Cell)(room:Int)(r:Rw)(hr:r.2.length<=1000):∀(T:List Rw) (x4:Option Cell),(∀s∈T,s.2.length<=1000)->(∃s,T.find? (WQ room r)=some s/\dR (aF 4) vX (T.map Ear.rD) M [x0,some (.dat (.int room)),x2,some (.dat (Ear.rD r)),x4]=.ret (M6 (r,s)) M)∨(T.find? (WQ room r)=none/\∃y4,dR (aF 4) vX (T.map Ear.rD) M [x0,some (.dat (.int room)),x2,some (.dat (Ear.rD r)),x4]=.next [x0,some (.dat (.int room)),x2,some (.dat (Ear.rD r)),y4] M)
 |[],x4,_=>.inr ⟨rfl,x4,rfl⟩
 |s::T,x4,h=>by
  have hs:=h s arP
  have h1:=ajb M r.2 s.2 hr hs
  have h2:=aku M r.2 s.2 hr
  have i0:∀r:Rw,aN (Ear.rD r) (.int 0)=.ok (.int r.1):=fun _=>rfl
  have i1:∀r:Rw,aN (Ear.rD r) (.int 1)=.ok (aH r.2):=fun _=>rfl
  cases q:WQ room r s with
  |true=>
   refine .inl ⟨s,by rw[List.find?_cons,q],?_⟩
   have q:=q
   unfold WQ at q
   simp only[arK,ar4,beq_eq_false_iff_ne,decide_eq_true_eq]at q
   rw[arN,dR]
   simp[vX,i0,i1,q.1,h1,q.2,h2,M6]
  |false=>
   have hb:vX M [x0,some (.dat (.int room)),x2,some (.dat (Ear.rD r)),some (.dat (Ear.rD s))]=.next [x0,some (.dat (.int room)),x2,some (.dat (Ear.rD r)),some (.dat (Ear.rD s))] M:=by
    by_cases z:r.1=s.1
    ·simp[vX,i0,z]
    ·have:¬iT r.2 s.2<=room:=fun y=>by simp[WQ,z,y]at q
     simp[vX,i0,i1,z,h1,this]
   have ih:=aa6 M x0 x2 room r hr T (some (.dat (Ear.rD s))) fun s hs=>h s (arO _ hs)
   rw[List.find?_cons,q,arN,fj (ρ1:=[x0,some (.dat (.int room)),x2,some (.dat (Ear.rD r)),some (.dat (Ear.rD s))]) (by simp) hb]
   exact ih
theorem ab9(T:List Rw)(room:Int)(x:Nat×Rw)(xs:List (Nat×Rw)):((x::xs).flatMap fun x=>((T.drop (x.1+1)).filter fun s=>!(x.2.1==s.1)&&decide (iT x.2.2 s.2<=room)).map fun s=>(x.2,s)).head?=match (T.drop (x.1+1)).find? (WQ room x.2) with
 |some s=>some (x.2,s)
 |none=>(xs.flatMap fun x=>((T.drop (x.1+1)).filter fun s=>!(x.2.1==s.1)&&decide (iT x.2.2 s.2<=room)).map fun s=>(x.2,s)).head?:=by
 rw[List.flatMap_cons,List.head?_append,List.head?_map,List.head?_filter]
 show(Option.map _ ((T.drop (x.1+1)).find? (WQ room x.2))).or _=_
 cases(T.drop (x.1+1)).find? (WQ room x.2) <;> rfl
theorem Zg(M:Mo)(room:Int)(T:List Rw)(hT:∀r∈T,r.2.length<=1000):∀(xs:List (Nat×Rw)) (x2 x3 x4:Option Cell),(∀x∈xs,x.2∈T)->(∃p,(xs.flatMap fun x=>((T.drop (x.1+1)).filter fun s=>!(x.2.1==s.1)&&decide (iT x.2.2 s.2<=room)).map fun s=>(x.2,s)).head?=some p/\dR (bA [2,3]) zm (xs.map fun x=>.tuple [.int (x.1:Int),Ear.rD x.2]) M [some (.dat (.list (T.map Ear.rD))),some (.dat (.int room)),x2,x3,x4]=.ret (M6 p) M)∨((xs.flatMap fun x=>((T.drop (x.1+1)).filter fun s=>!(x.2.1==s.1)&&decide (iT x.2.2 s.2<=room)).map fun s=>(x.2,s)).head?=none/\∃ρ,dR (bA [2,3]) zm (xs.map fun x=>.tuple [.int (x.1:Int),Ear.rD x.2]) M [some (.dat (.list (T.map Ear.rD))),some (.dat (.int room)),x2,x3,x4]=.next ρ M)
 |[],x2,x3,x4,_=>.inr ⟨rfl,_,rfl⟩
 |x::xs,x2,x3,x4,h=>by
  have mx:=h x arP
  have hc:Rf.cutD (T.map Ear.rD) (some ((x.1:Int)+1)) none=(T.drop (x.1+1)).map Ear.rD:=by
   rw[show(x.1:Int)+1=((x.1+1:Nat):Int) by omega,Pj,List.map_drop]
  rw[ab9]
  rcases aa6 M (some (.dat (.list (T.map Ear.rD)))) (some (.dat (.int (x.1:Int)))) room x.2 (hT _ mx) (T.drop (x.1+1)) x4 (fun s hs=>hT s (List.mem_of_mem_drop hs)) with⟨s,q,h1⟩|⟨q,y4,h1⟩
  ·refine .inl ⟨(x.2,s),by rw[q],?_⟩
   rw[arN,dR]
   simp[zm,hc,h1,-List.map_drop]
  ·rw[q]
   have hb:zm M [some (.dat (.list (T.map Ear.rD))),some (.dat (.int room)),some (.dat (.int (x.1:Int))),some (.dat (Ear.rD x.2)),x4]=.next [some (.dat (.list (T.map Ear.rD))),some (.dat (.int room)),some (.dat (.int (x.1:Int))),some (.dat (Ear.rD x.2)),y4] M:=by
    simp[zm,hc,h1,-List.map_drop]
   have ih:=Zg M room T hT xs (some (.dat (.int (x.1:Int)))) (some (.dat (Ear.rD x.2))) y4 fun y hy=>h y (arO _ hy)
   rw[arN,fj (ρ1:=[some (.dat (.list (T.map Ear.rD))),some (.dat (.int room)),some (.dat (.int (x.1:Int))),some (.dat (Ear.rD x.2)),x4]) (by simp) hb]
   exact ih
def Z7:Option (Rw×Rw)->Dat
 |none=>.none
 |some p=>M6 p
theorem ahd(M:Mo)(T:List Rw)(room:Int)(hT:qI T):Hh M [.list (T.map Ear.rD),.int room]=.ok (Z7 (jh T room).head?):=by
 have hen:lE 0 (T.map Ear.rD)=(T.mapIdx fun i r=>(i,r)).map fun x=>.tuple [.int (x.1:Int),Ear.rD x.2]:=by
  unfold lE
  apply ase
  intro j
  simp only[arY,asy]
  cases T[j]? <;> simp
 rcases Zg M room T (fun r hr=>by rw[hT r hr];decide) (T.mapIdx fun i r=>(i,r)) none none none (fun y hy=>by
  obtain⟨i,hi,rfl⟩:=List.mem_mapIdx.mp hy
  exact asB hi) with⟨p,q,h⟩|⟨q,ρ,h⟩
 ·rw[←hen]at h
  unfold jh
  rw[q]
  simp[Hh,RB,h,Z7]
 ·rw[←hen]at h
  unfold jh
  rw[q]
  simp[Hh,RB,h,Z7]
abbrev Zc(c:aK)(x y:Int):List Int:=sortI (aW c x++aW c y)
def Dy(c:aK)(x y:Int):aK:={ c with ci:=encl c.ci (Zc c x y) }
theorem al9{c:aK}(i:cU c){x y:Int}(hx:Vg c x)(hy:Vg c y){k:Nat}(hk:k < c.al.length):aW (Dy c x y) ((k:Int)+1)=if (k:Int)+1∈Zc c x y then Zc c x y else aW c ((k:Int)+1):=by
 have h1:=Jg c.ci (Zc c x y) k (fun z hz=>by
  rcases arW.mp (Ar.mp hz) with hz|hz
  ·exact(i.mem _ _ (i.at hx) z hz).1
  ·exact(i.mem _ _ (i.at hy) z hz).1)
 have hk':k < c.ci.length:=by rw[i.len];exact hk
 have e:aW (Dy c x y) ((k:Int)+1)=((encl c.ci (Zc c x y))[k]?).getD []:=by simp[aW,Dy]
 rw[e,h1]
 by_cases q:(k:Int)+1∈Zc c x y
 ·rw[if_pos ⟨q,hk'⟩,if_pos q]
  rfl
 ·rw[if_neg (fun z=>q z.1),if_neg q]
  simp[aW]
theorem ago(M:Mo)(c:aK)(i:cU c)(x y:Int)(hx:Vg c x)(hy:Vg c y)(x0 x1 x2 x3 x5:Option Cell)(acc:List Dat)(k:Nat)(hk:k < c.al.length)(ha:acc.length < 1000):NZ M [x0,x1,x2,x3,some (.dat (lI (Zc c x y))),x5,some (.mut acc),some (.dat (.int (k:Int))),some (.dat (uN c k))]=.next [x0,x1,x2,x3,some (.dat (lI (Zc c x y))),x5,some (.mut (acc++[uN (Dy c x y) k])),some (.dat (.int (k:Int))),some (.dat (uN (Dy c x y) k))] M:=by
 have h1:=al9 i hx hy hk
 have h2:=yD false ((k:Int)+1) (Zc c x y)
 have h3:acc.length < 100000:=by omega
 have e:uN (Dy c x y) k=.tuple [.int (Fy c ((k:Int)+1)),aH (aW (Dy c x y) ((k:Int)+1))]:=rfl
 rw[e,h1]
 generalize Zc c x y=Z at h2 ⊢
 by_cases a:(k:Int)+1∈Z <;> simp[NZ,h2,a,uN,h3]
theorem Yp(M:Mo)(c:aK)(i:cU c)(x y:Int)(hx:Vg c x)(hy:Vg c y)(x0 x1 x2 x3 x5:Option Cell):∀(ks:List Nat) (acc:List Dat) (x7 x8:Option Cell),(∀k∈ks,k < c.al.length)->acc.length+ks.length<=1000->∃y7 y8,
  dR (bA [7,8]) NZ (ks.map fun(k:Nat)=>.tuple [.int (k:Int),uN c k]) M [x0,x1,x2,x3,some (.dat (lI (Zc c x y))),x5,some (.mut acc),x7,x8]=.next [x0,x1,x2,x3,some (.dat (lI (Zc c x y))),x5,some (.mut (acc++ks.map (uN (Dy c x y)))),y7,y8] M
 |[],acc,x7,x8,_,_=>⟨x7,x8,by simp[dR]⟩
 |k::ks,acc,x7,x8,hk,ha=>by
  rw[arU]at ha
  have h1:=ago M c i x y hx hy x0 x1 x2 x3 x5 acc k (hk k arP) (by omega)
  obtain⟨z7,z8,h2⟩:=Yp M c i x y hx hy x0 x1 x2 x3 x5 ks (acc++[uN (Dy c x y) k]) (some (.dat (.int (k:Int)))) (some (.dat (uN (Dy c x y) k))) (fun j hj=>hk j (arO _ hj)) (by rw[asw,List.length_singleton];omega)
  refine⟨z7,z8,?_⟩
  rw[arN,fj (ρ1:=[x0,x1,x2,x3,some (.dat (lI (Zc c x y))),x5,some (.mut acc),some (.dat (.int (k:Int))),some (.dat (uN c k))]) (by simp) h1,h2]
  simp
theorem akA(M:Mo){n s:Nat}(c:aK)(I:Inv n s c)(hs:s<=76)(hn:n<=199)(x y:Int):BR M [gj c,.int x,.int y]=.ok (Ij c (cD c (.qD x y))):=by
 have f0:=I.hL
 have h1:=Dz M c x
 have h2:=Dz M c y
 simp only[cD,uM]
 by_cases q2:Vg c y
 rotate_left
 ·rw[if_neg q2]
  rw[decide_eq_false q2]at h2
  cases hq:decide (Vg c x) <;> (rw[hq]at h1;simp[BR,Jh,Ij,h1,h2])
 rw[if_pos q2]
 rw[decide_eq_true q2]at h2
 by_cases q1:Vg c x
 rotate_left
 ·rw[if_neg q1]
  rw[decide_eq_false q1]at h1
  simp[BR,Jh,Ij,h1]
 rw[if_pos q1]
 rw[decide_eq_true q1]at h1
 have g1:=XJ q1
 have g2:=XJ q2
 have hcx:=I.gr.at q1
 have hcy:=I.gr.at q2
 have l1:(aW c x).length<=1000:=by have:=I.gr.clen hcx;omega
 have l2:(aW c y).length<=1000:=by have:=I.gr.clen hcy;omega
 have h3:=ajX false y (aW c x) l1
 by_cases q3:y∈aW c x
 ·rw[if_pos q3]
  rw[decide_eq_true q3]at h3
  simp[BR,Jh,Ij,h1,h2,g1,h3]
 rw[if_neg q3]
 rw[decide_eq_false q3]at h3
 have hso:vN (.tuple ((aW c x).map PyData.int++(aW c y).map PyData.int))=.ok (lI (Zc c x y)):=by
  rw[←List.map_append]
  show(match intsOf ((aW c x++aW c y).map PyData.int) with
   |some l=>Out.ok (PyData.list ((sortI l).map PyData.int))
   |none=>.bad)=_
  rw[wI]
 have hr:=acS M c (by omega) (by omega) (lI (Zc c x y)) (Zc c x y) (fun z=>by have:=yD false z (Zc c x y);simpa using this) 0
 have hT:bM (inR c (Zc c x y)++Dt c 0 (Zc c x y))=bM (vK c x y):=up_eq (Dr _) (Dr _) fun r=>by
  rw[eO,eO,Ze]
  unfold vK
  rw[arW,eO,eO,VP,VP]
  constructor
  ·rintro⟨g,hg,h⟩
   rcases arW.mp (Ar.mp hg) with hg|hg
   ·exact .inl ⟨g,hg,h⟩
   ·exact .inr ⟨g,hg,h⟩
  ·rintro(⟨g,hg,h⟩|⟨g,hg,h⟩)
   ·exact⟨g,Ar.mpr (asq _ hg),h⟩
   ·exact⟨g,Ar.mpr (asF _ hg),h⟩
 rw[hT]at hr
 have hE:qI (bM (vK c x y)):=fun r hr=>by
  rcases arW.mp (eO.mp hr) with z|z
  ·exact I.Ju r (eO.mp z)
  ·exact I.Ju r (eO.mp z)
 have r1:=Rv M c I.gr x q1
 have r2:=Rv M c I.gr y q2
 have hp:=ahd M (bM (vK c x y)) (oX c x y) hE
 have eq:(if roomOf c y > roomOf c x then roomOf c y else roomOf c x)=oX c x y:=rfl
 have lz:(aW c x).length+(aW c y).length<=100000:=by omega
 cases hcl:jh (bM (vK c x y)) (oX c x y) with
 |cons p l=>
  rw[hcl]at hp
  show _=Out.ok (Ij c (.no (pH p.1.1 p.1.2 p.2)))
  simp only[List.head?_cons,Z7]at hp
  have i2:jW .none (M6 p)=false:=rfl
  have e2:M6 p=.tuple [Ear.rD (p.1.1,p.1.2),Ear.rD p.2,aH (fG p.1.2 p.2.2)]:=rfl
  simp[BR,Jh,Ij,h1,h2,g1,g2,h3,lz,hso,hr,r1,r2,eq,hp,i2]
  rw[e2]
 |nil=>
  rw[hcl]at hp
  show _=Out.ok (Ij c (.ok (lI (Zc c x y)) (Dy c x y)))
  simp only[List.head?_nil,Z7]at hp
  have al:=I.al
  obtain⟨y7,y8,h4⟩:=Yp M c I.gr x y q1 q2 (some (.dat (gj c))) (some (.dat (.int x))) (some (.dat (.int y))) (some (.dat (.str ""))) (some (.dat .none)) (List.range c.al.length) [] none none (fun k hk=>List.mem_range.mp hk) (by simp;omega)
  have hen:lE 0 ((List.range c.al.length).map (uN c))=(List.range c.al.length).map fun(k:Nat)=>.tuple [.int (k:Int),uN c k]:=by
   unfold lE
   apply ase
   intro j
   by_cases h:j < c.al.length <;> simp[h]
  rw[←hen,List.nil_append]at h4
  have e3:gj (Dy c x y)=.tuple [lI c.own,.list ((List.range c.al.length).map (uN (Dy c x y))),.list (c.held.map gJ),.list (c.bs.map iV)]:=rfl
  generalize hz:(List.range c.al.length).map (uN (Dy c x y))=G at h4 e3
  show _=Out.ok (PyData.tuple [.str "",lI (Zc c x y),gj (Dy c x y)])
  rw[e3]
  simp[BR,Jh,h1,h2,g1,g2,h3,lz,hso,hr,r1,r2,eq,hp,jW,h4]
theorem Zd{c:aK}{x y:Int}{e:dB}(h:cD c (.qD x y)=.no e):e.fs=[]/\(e.cls="NoGround"∨e.cls="Together")∨∃o m r,e=pH o m r:=by
 simp only[cD,uM]at h
 (repeat' split at h) <;> cases h <;> first | exact .inr ⟨_,_,_,rfl⟩ | (left;simp)
theorem alu{x:dB}(h:x.fs=[]):Ho x=.none:=by simp[Ho,h]
theorem ag0{M:Mo}{L:Lay}{n s:Nat}{c:aK}(a:At M L c)(I:Inv n s c)(hs:s<=76)(hn:n<=199)(x y:Int):anP M L (n+1) s (Cz M [ob L.c,.int x,.int y]) (cD c (.qD x y)):=by
 have hc:=a.hc
 have h1:=akx I hn (abj a I hs (by omega) x y)
 cases e:cD c (.qD x y) with
 |ok r c'=>
  rw[e]at h1
  obtain⟨M',L',hL,h1,h2,h3⟩:=h1
  exact⟨M',L',hL,by simp[Cz,Lp,hc,aO,gA,h1],h2,h3⟩
 |no z=>
  rw[e]at h1
  have h1:_=_:=h1
  show _=_
  rcases Zd e with⟨hf,hx⟩|⟨o,e,r,rfl⟩
  ·have hf:=alu hf
   rcases hx with hx|hx <;> simp[Cz,Lp,hc,aO,gA,h1,hx,hf,zM,zq]
  ·simp[Cz,Lp,hc,aO,gA,h1,zM,zq,O4]
theorem R6(x0 x2 x8 x9 x10 x11 x12 x13:Option Cell)(x:Int)(base:List Int)(hb:base.length=6):∀(ts:List Int) (M:Mo) (L:Lay) (n s:Nat) (c:aK) (x6 x7:Option Cell),L.c=0->Now M L n s c->s+ts.length<=76->n+ts.length<=199->∃M' L' c' y6 y7,L'.c=0/\Now M' L' (n+ts.length) (s+ts.length) c'/\dR (aF 6) Hg (ts.map PyData.int) M [x0,some (.dat (ob 0)),x2,some (.dat (cV c)),some (.dat (.int x)),some (.dat (aH base)),x6,x7,x8,x9,x10,x11,x12,x13]=.next [x0,some (.dat (ob 0)),x2,some (.dat (cV c')),some (.dat (.int x)),some (.dat (aH base)),y6,y7,x8,x9,x10,x11,x12,x13] M'
 |[],M,L,n,s,c,x6,x7,hL,N,_,_=>⟨M,L,c,x6,x7,hL,N,rfl⟩
 |t::ts,M,L,n,s,c,x6,x7,hL,N,hs,hn=>by
  rw[arU]at hs hn
  have h1:qM M [.int (x+t),.int 6,.int 10]=.ok (lI (rowOf (x+t) 6 10)):=SJ M (x+t) 6 10 (by decide) (by decide) (by decide)
  have h2:=abX M base (rowOf (x+t) 6 10) (by omega) (ZS (by decide) _ _)
  have he:=V5 (x:=base) (f:=rowOf (x+t) 6 10) hb (by simp)
  generalize M7 base (rowOf (x+t) 6 10)=mk at h2 he
  obtain⟨M1,b1,c1,w1,N1⟩:=N.Z9 (by omega) (by omega) (.enrol (1+(x+t) % (if c.count > 1 then c.count else 1)) c.al.length mk) (by show mk.length<=1000;rw[gD he];decide)
  have w1:iI M [ob L.c,.tuple [.str "enrol",.int (1+(x+t) % (if c.count > 1 then c.count else 1)),.int c.al.length,aH mk],cV c]=_:=w1
  rw[hL]at w1
  have hp:(0:Int) < if c.count > 1 then c.count else 1:=by split <;> omega
  have e0:aN (cV c) (.int 0)=.ok (.int c.count):=rfl
  have e1:aN (cV c) (.int 1)=.ok (.int c.al.length):=rfl
  have hb1:Hg M [x0,some (.dat (ob 0)),x2,some (.dat (cV c)),some (.dat (.int x)),some (.dat (aH base)),some (.dat (.int t)),x7,x8,x9,x10,x11,x12,x13]=.next [x0,some (.dat (ob 0)),x2,some (.dat (cV c1)),some (.dat (.int x)),some (.dat (aH base)),some (.dat (.int t)),some (.dat (aH mk)),x8,x9,x10,x11,x12,x13] M1:=by
   generalize hw:(if c.count > 1 then c.count else 1)=w at hp w1
   simp[Hg,h1,h2,e0,e1,hw,hp,w1]
  obtain⟨M2,L2,c2,y6,y7,hL2,N2,w2⟩:=R6 x0 x2 x8 x9 x10 x11 x12 x13 x base hb ts M1 { L with bs:=b1 } (n+1) (s+1) c1 (some (.dat (.int t))) (some (.dat (aH mk))) hL N1 (by omega) (by omega)
  refine⟨M2,L2,c2,y6,y7,hL2,by rw[arU,show n+(ts.length+1)=n+1+ts.length by omega,show s+(ts.length+1)=s+1+ts.length by omega];exact N2,?_⟩
  rw[arN,fj (ρ1:=[x0,some (.dat (ob 0)),x2,some (.dat (cV c)),some (.dat (.int x)),some (.dat (aH base)),some (.dat (.int t)),x7,x8,x9,x10,x11,x12,x13]) (by simp) hb1]
  exact w2
theorem afI(ns:List Int)(h:ns.length<=63):∃M,Sv [] [.list (ns.map PyData.int)]=.ok (.bool true) M:=by
 obtain⟨c,M1,L1,head,M0,hL,h0,c0,hh,h1,N,c1⟩:=played ns
 generalize ns.getD 0 0=x0 at *
 generalize ns.getD 1 0=x at *
 have E:∃M2 L2 c2 y5 y6 y7,L2.c=0/\Now M2 L2 102 73 c2/\(bO (bh (aA rZ (aA gY (ao 4) (qC (.int 4))) (qC (.int 1)))) (aD (aX (aF 3) (xg iI (ak (aq 1) (ak (bB (ak (qC (.str "ground")) (ak (aA gY (aA sY (ao 4) (qC (.int 4))) (qC (.int 5))) au))) (ak (aq 3) au)))))
 (aD (aX (aF 5) (gOf (aU zK (ak (aA sY (ao 2) (qC (.int 512))) au))))
 (mJ (wB (aA gY (aA sY (ao 4) (qC (.int 20))) (qC (.int 3)))) (aF 6) Hg))) aR) M1 [some (.dat (lI ns)),some (.dat (ob 0)),some (.dat (.int head)),some (.dat (cV c)),some (.dat (.int x)),none,none,none,none,none,none,none,none,none]=.next [some (.dat (lI ns)),some (.dat (ob 0)),some (.dat (.int head)),some (.dat (cV c2)),some (.dat (.int x)),y5,y6,y7,none,none,none,none,none,none] M2:=by
  have hd4:∀z,decide (CDiv z 4)=true:=fun z=>decide_eq_true ⟨by decide,by decide⟩
  have hd20:∀z,decide (CDiv z 20)=true:=fun z=>decide_eq_true ⟨by decide,by decide⟩
  have hd512:∀z,decide (CDiv z 512)=true:=fun z=>decide_eq_true ⟨by decide,by decide⟩
  by_cases q:x % 4=1
  ·exact⟨M1,L1,c,none,none,none,hL,⟨N.at_,N.inv.mono (by decide) (by decide),N.rch.le (by decide)⟩,by simp[q]⟩
  obtain⟨M2,b2,c2,w1,N2⟩:=N.Z9 (by decide) (by decide) (.ground (x / 4 % 5)) trivial
  have w1:iI M1 [ob L1.c,.tuple [.str "ground",.int (x / 4 % 5)],cV c]=_:=w1
  rw[hL]at w1
  have he:=ZW M2 (head / 512)
  obtain⟨j,hj,hj2⟩:∃j:Nat,x / 20 % 3=j/\j<=2:=⟨(x / 20 % 3).toNat,by omega,by omega⟩
  have hr:iH 0 j=((List.range j).map fun(i:Nat)=>(i:Int)).map PyData.int:=by simp[iH,ar5]
  obtain⟨M3,L3,c3,y6,y7,hL3,N3,w2⟩:=R6 (some (.dat (lI ns))) (some (.dat (.int head))) none none none none none none x (BP (head / 512)) (Kz _) ((List.range j).map fun(i:Nat)=>(i:Int)) M2 { L1 with bs:=b2 } 100 71 c2 none none hL N2 (by simp;omega) (by simp;omega)
  rw[←hr]at w2
  simp only[arT,List.length_range]at N3
  refine⟨M3,L3,c3,some (.dat (aH (BP (head / 512)))),y6,y7,hL3,⟨N3.at_,N3.inv.mono (by omega) (by omega),N3.rch.le (by omega)⟩,?_⟩
  have a1:(j:Int)<=100000:=by omega
  have a2 : -100000<=(j:Int):=by omega
  simp[q,hd4,w1,hd512,he,hd20,hj,a1,a2,w2]
 obtain⟨M2,L2,c2,y5,y6,y7,hL2,N2,hE⟩:=E
 have I:=N2.inv
 obtain⟨_,_,_,_,_,_,_,_,_,⟨a,b,h2⟩,_⟩:=ae8 M2 c2 I.cnt.1 x head
 obtain⟨k0,h3⟩:=adN M2 a x 3
 obtain⟨g,h4⟩:=adN M2 b x 4
 have e1:aN (cV c2) (.int 1)=.ok (.int c2.al.length):=rfl
 have F:∃k:Int,(bO (bh (aA JZ (aA gY (ao 4) (qC (.int 5))) (qC (.int 2)))) (aX (aF 9) (gOf (aA aN (ao 3) (qC (.int 1))))) aR) M2 [some (.dat (lI ns)),some (.dat (ob 0)),some (.dat (.int head)),some (.dat (cV c2)),some (.dat (.int x)),y5,y6,y7,some (.dat (.tuple [.str "unite",.int a,.int b])),some (.dat (.int k0)),some (.dat (.int g)),none,none,none]=.next [some (.dat (lI ns)),some (.dat (ob 0)),some (.dat (.int head)),some (.dat (cV c2)),some (.dat (.int x)),y5,y6,y7,some (.dat (.tuple [.str "unite",.int a,.int b])),some (.dat (.int k)),some (.dat (.int g)),none,none,none] M2:=by
  by_cases q:x % 5 < 2
  ·exact⟨_,by simp[q,e1];rfl⟩
  ·exact⟨k0,by simp[q]⟩
 obtain⟨k,hF⟩:=F
 have l1:=N2.look (by decide)
 have hc1:=N2.at_.hc
 have h5:=akA M2 c2 I (by decide) (by decide) k g
 have h6:=ag0 N2.at_ I (by decide) (by decide) k g
 rw[hL2]at l1 hc1 h6
 cases e:cD c2 (.qD k g) with
 |ok d c'=>
  rw[e]at h5 h6
  obtain⟨M3,L3,hL3,h6,a2,I3⟩:=h6
  have hd:lk 8 d=true:=by
   simp only[cD,uM]at e
   (repeat' split at e) <;> cases e
   simp[lk]
  have k1:lJ 10 M3 [.tuple [.str "",d],.tuple [.str "",d]]=.ok (.bool true):=U4 M3 9 _ (by simp[lk,vo,hd])
  have k2:=V1 M3 c'
  have l2:=aii a2 I3 (by decide)
  have hc2:=a2.hc
  rw[hL3,hL2]at l2 hc2
  refine⟨M3,?_⟩
  have z:Rf.cutD [PyData.str "",d,gj c'] none (some 2)=[PyData.str "",d]:=rfl
  simp[-Rf.ev_if,Sv,XF,h0,c0,←hh,h1,c1,hE,h2,h3,h4,hF,hc1,aO,ou,l1,h5]
  simp[h6,hc2,aO,l2,Ij,z,k1,k2]
 |no y=>
  rw[e]at h5 h6
  have h6:_=_:=h6
  have hy:lk 8 (Ho y)=true:=aml y (by rcases Zd e with h|h;exact .inl h.1;exact .inr h)
  have k1:lJ 10 M2 [.tuple [.str y.cls,Ho y],.tuple [.str y.cls,Ho y]]=.ok (.bool true):=U4 M2 9 _ (by simp[lk,vo,hy])
  have k2:=V1 M2 c2
  refine⟨M2,?_⟩
  have z:Rf.cutD [PyData.str y.cls,Ho y,gj c2] none (some 2)=[PyData.str y.cls,Ho y]:=rfl
  simp[-Rf.ev_if,Sv,XF,h0,c0,←hh,h1,c1,hE,h2,h3,h4,hF,hc1,aO,ou,l1,h5]
  simp[h6,hc1,aO,l1,Ij,z,k1,k2]
end Pr
open PySem PySem.W PySem.Calls PyProof.Rows
set_option maxHeartbeats 0 in
theorem PySem.Challenge.cw_earmarks_k41_grounds_lie_together_holds : PySem.Challenge.rw_earmarks_k41_grounds_lie_together.Holds := by
 w_on;o_law
 refine HandSHeadRun.head_any (r:=OpenLaw.row PySem.Challenge.rw_earmarks_k41_grounds_lie_together) (q:=view (OpenLaw.row PySem.Challenge.rw_earmarks_k41_grounds_lie_together).prog [95]) (H:=Pr.hkE) (ob:=Pr.obE) (M:=40000) (loose:=Pr.nm) (d:=HandSHeadRun.topDef (OpenLaw.row PySem.Challenge.rw_earmarks_k41_grounds_lie_together).prog 95) (kwd:=[]) Pr.ajf (by kernel_rfl) (fun s=>by kernel_rfl) Pr.run (by kernel_rfl) (by kernel_rfl) (by kernel_rfl) (by rfl) (by first | assumption | decide +kernel) (by decide +kernel) ⟨rfl,rfl,rfl,rfl,rfl,by decide +kernel⟩ ?hw ?hc
 case hw=>w_witness2
 case hc=>
  refine L2.walk_ofE (l:=PySem.Challenge.rw_earmarks_k41_grounds_lie_together) (n:=63) (k:=13) (x:="_law_script") (CX:=L2.CX0) rfl (by decide) (by kernel_rfl) ⟨rfl,by decide,by decide⟩ ?F (fun _ _ _ _ z=>z)
  intro w mg fa h Y G hmg0
  obtain⟨K,KX,c⟩:=Y
  have hmg:mg ("law" : PySem.Str)=some (.ref fa):=by
   have e:(HandSHeadRun.topDef (OpenLaw.row PySem.Challenge.rw_earmarks_k41_grounds_lie_together).prog 95).name=("law" : PySem.Str):=by kernel_rfl
   rw[←e]
   exact hmg0
  have T:Pr.Top w K mg:=⟨⟨h,KX,G⟩,c⟩
  have e:=hmg.symm.trans (T.glo 107)
  cases e
  obtain⟨fd,F⟩:=T.c.W4 107
  have b:=L2.FunD.bindsA (ps:=["_law_script"]) F fun _ _ _ _ _ _ us hl=>match us,hl with|[_],_=>rfl
  exact⟨K,fd,fun vs H Q _=>Rf.JR K (Pr.aj w K) 1 Pr.Sv vs H Q fun _ _ _=>False,KX,fun s v=>b s [v] rfl,fun H a ns hl _ hS=>(Pr.afI ns hl).elim fun _ z=>Rf.amS rfl hS z,fun base _ _=>Rf.acf (Pr.amh T F)⟩

import PyProof.Rows.All
import Wide.All
import OpenK.AllK
import Wide.FinOn
import HandS.ForMost
import HandS.Evl
import HandS.Walk
import HandS.Zip
import HandS.IsInst
import HandS.Style
import HandS.FStr
import HandS.Strs
import HandS.TupAny
import HandS.Deep
import HandS.Exc
import HandS.TryOnly
import HandS.ExcOwn
import HandS.WordsExc
import KE.GoesMore
import KE.GoesEnum
import KE.DataMinMax
import KE.SortData
import HandS.SortKw
import HandS.TupSets
import HandS.SetBool
import KE.KeyNested
import PyProof.Transfer
import HandS.DictComp
import HandS.Conv
import KE.KDictKeyed
import HandS.ExcField
import HandS.ExcInit
import HandS.TryMany
import HandS.HeadHook4
import HandS.HeadHook3
import HandS.HeadHook2
import HandS.HeadHook1
import HandS.HeadEnd
import HandS.Head2
import HandS.Head1
import HandS.Head0
import KE.KStateDown
import HandS.Flow
import KE.KUnpackStar
import KE.GoesEnumKw
import KE.KTupSum
import PySem.Challenge.RW_earmarks_k54_whole_thief_needs_more
set_option Elab.async false
set_option linter.all false
set_option maxRecDepth 100000
set_option maxHeartbeats 2000000
def atc:True:=trivial
abbrev atd:=@False.elim
abbrev ate:=@decide_eq_true_eq
abbrev atf:=@of_decide_eq_true
def arF:=@Option.bind_eq_some_iff
def arG:=@PySem.W.Frag
def arH:=@Bool.and_eq_true
def arI:=@List.getElem?_eq_getElem
def arJ:=@List.getElem?_eq_some_iff
def arK:=@List.map_cons
def arL:=@List.mem_cons_of_mem
def arM:=@List.mem_cons_self
def arN:=@List.mem_of_getElem?
def arO:=@List.mem_singleton
def arP:=@List.getElem?_set_ne
def arQ:=@List.mem_map
def arR:=@List.mem_append
def arS:=@List.getElem?_append_left
def arT:=@List.getElem?_map
def arU:=@List.length_map
def arV:=@List.mem_cons
def arW:=@List.length_cons
def arX:=@Bool.not_eq_true'
def arY:=@Option.some.inj
def arZ:=@List.getElem?_set_self
def ar0:=@List.getElem?_append_right
def ar3:=@List.length_filter_le
def ar4:=@List.mem_filter
def ar5:=@Function.comp_def
def ar6:=@Bool.false_eq_true
def ar7:=@List.all_eq_true
def ar8:=@Nat.le_trans
def ar9:=@Nat.le_refl
def ase:=@List.length_set
def asf:=@List.filter_cons
def ash:=@List.zip_cons_cons
def asi:=@List.map_map
def asj:=@List.lookup_cons
def asl:=@List.ext_getElem?
def asn:=@List.getElem?_eq_none
def aso:=@Option.map_eq_some_iff
def asp:=@List.not_mem_nil
def asq:=@List.map_append
def asr:=@Array.length_toList
def asu:=@Nat.ne_of_lt
def asv:=@List.mem_append_left
def asw:=@List.mem_append_right
def asx:=@List.all_cons
def asy:=@List.getElem?_zip_eq_some
def asz:=@Nat.zero_le
def asB:=@List.getElem_mem
def asC:=@List.getElem?_mapIdx
def asF:=@List.append_nil
def asH:=@List.drop_eq_getElem_cons
def asI:=@Array.getElem?_toList
def asJ:=@List.length_append
def asK:=@List.nodup_append
def asM:=@List.getElem?_set
def asN:=@List.drop_length
def asO:=@Nat.lt_succ_of_lt
def asQ:=@List.pairwise_mergeSort
def asR:=@List.any_cons
def asS:=@List.mem_of_mem_take
def asT:=@List.map_nil
def asU:=@List.mergeSort_perm
def asV:=@Bool.eq_iff_iff
def asW:=@Bool.or_eq_true
def asY:=@List.foldl_cons
def asZ:=@List.filter_filter
def as3:=@List.Pairwise.imp
def as4:=@List.drop_zero
def as5:=@List.any_map
def as6:=@List.length_drop
def as7:=@PySem.W.AllAlike.of
def as8:=@Nat.add_sub_cancel'
def as9:=@Nat.add_left_cancel
def ata:=@List.nodup_cons
def atb:=@Nat.succ.inj
namespace Rf
open PySem PySem.Spec PyProof.Rows L2 HandSHeadRun
abbrev Dat:=PyData
abbrev Ft:=List (Str×List Str)
structure N8(fa:List He.Fa)(fn:List He.DefD)(tb:List He.Tab)(ex:arG->Bool)(w:World)(K:arG):Prop where
 t:He.SaysT fa fn tb w K
 more:ex K=true
def acG(as:List Addr)(fa:List He.Fa)(fn:List He.DefD)(tb:List He.Tab)(ex:arG->Bool)(g:Addr->Option Obj):He.AlX:=(He.obsT fa fn tb (He.frG g as),ex (He.frG g as))
def acJ(as:List Addr)(fa:List He.Fa)(fn:List He.DefD)(tb:List He.Tab)(ex:arG->Bool):PySem.W.Hook where
 α:=He.AlX
 obs:=λs=>acG as fa fn tb ex s.heap.get?
 val:=λw=>He.valX fn tb w
 says:=λw h=>∃K:arG,K.In h/\N8 fa fn tb ex w K
 of:=λw s e=>⟨_,He.frG_in,⟨congrArg (λz:He.AlX=>z.1) e,congrArg (λz:He.AlX=>z.2) e⟩⟩
 keeps:=λ_ _ _ ⟨K,hK,c⟩ k=>⟨K,PySem.W.Frag.In.keeps hK k,c⟩
theorem ahh{as:List Addr}{fa:List He.Fa}{fn:List He.DefD}{tb:List He.Tab}{ex:arG->Bool}{g:Addr->Option Obj}{s:Shared}(h:∀a,g a=s.heap.get? a):acG as fa fn tb ex g=(acJ as fa fn tb ex).obs s:=by rw[show g=s.heap.get? from funext h];rfl
def LK(K:arG)(ft:Ft):Bool:=ft.all λp=>(He.Fa.cls p.1).ok K&&p.2.all λf=>(He.Fa.noat p.1 f).ok K
def xmB(K:arG)(xm:List (Str×List (Str×Bool))):Bool:=xm.all λp=>p.2.all λq=>(He.Fa.exm q.1 p.1 q.2).ok K
def ajo(K:arG)(C:Addr):Bool:=(match K.lookup C with
 |some ⟨.type t,_,.cls cd,sl⟩=>decide (t="type")&&(match cd.mro,sl.toList with
  |.ref C'::bm,[_,_,_,_,some (.builtin n),_]=>decide (C'=C)&&(decide (n="ValueError.__new__")&&(!cd.hasDel&&(cd.hasDict&&PySem.HandSPX.refsVE bm)))
  |_,_=>false)
 |_=>false)&&(He.eqO (PySem.W.findIn K (.ref C) "__setattr__") (some (some (.builtin "object.__setattr__")))&&(decide (PySem.W.subIn K (.ref C) (.type "BaseException")=some true)&&(decide (PySem.W.typeIn K (.ref C)=some (.type "type"))&&PySem.W.keepIn K (.ref C))))
def Uk(K:arG)(x:Str)(fs:List Str):Bool:=ajo K (He.ga K x)&&(He.eqO (PySem.W.findIn K (.ref (He.ga K x)) "__init__") (some (some (.ref (He.ma K (He.ga K x) "__init__"))))&&(decide (PySem.W.typeIn K (.ref (He.ma K (He.ga K x) "__init__"))=some (.type "function"))&&(xfB K (He.ga K x)&&fs.all λf=>He.eqO (PySem.W.findIn K (.ref (He.ga K x)) f) (some none))))
def Yn(K:arG)(a:Addr)(xs:List Str):Bool:=match K.lookup a with
 |some ⟨.type c,_,.seq its _,_⟩=>decide (c="tuple")&&(decide (its.size<=sizeLine)&&He.relAll (xs.map V.str) its.toList)
 |_=>false
def afT(K:arG)(x:Str)(kvs:List (Str×List Str)):Bool:=(match K.lookup (He.ga K x) with
 |some ⟨_,_,.dict es _,_⟩=>es.toList.all (λe=>(match e.key with
   |.str y _=>(kvs.map (·.1)).contains y
   |_=>false)&&!e.refKey)
 |_=>false)&&(decide ((kvs.map (·.1)).Nodup)&&kvs.all λq=>match PySem.W.nsIn K (He.ga K x) q.1 with
  |some (some (.ref a))=>Yn K a q.2
  |_=>false)
section
open PySem.W PySem.Calls
noncomputable abbrev aku (r:PySem.W.OpenRow) (M:Nat) (w:World) (os:PySem.OsState):Option PySem.W.SharedT:=endF (stepQ (denQ tabQ) r.prog w) M r.prog w os
def agr(r:PySem.W.OpenRow)(q:Program)(as:List Addr)(ex:arG->Bool)(M:Nat)(loose:List Str)(w:World):Prop:=∀os,(aku r M w os).map (λs=>(looksF r.prog (boot_heap w.params) s.abs,HandSHeadRun.seenQ q loose (importedModules r.prog.main.body) (λs=>PySem.W.xlAt q [] s&&PySem.W.recOk r.toRowW.records s) s.abs,ex (He.frG (getT s) as)))=some (true,PySem.W.openGood q loose,true)
def agC(r:PySem.W.OpenRow)(as:List Addr)(fa:List He.Fa)(fn:List He.DefD)(tb:List He.Tab)(M:Nat)(w:World):Prop:=∀os,(aku r M w os).map (λs=>He.obsT fa fn tb (He.frG (getT s) as))=some (He.valT fn tb w)
theorem WQ{r:PySem.W.OpenRow}{q:Program}{as:List Addr}{fa:List He.Fa}{fn:List He.DefD}{tb:List He.Tab}{ex:arG->Bool}{M:Nat}{loose:List Str}{w:World}
  (a:agr r q as ex M loose w) (c:agC r as fa fn tb M w):RunEq r q (acJ as fa fn tb ex) (λs=>acG as fa fn tb ex (getT s)) M loose w:=λos=>by
 obtain⟨s,hs,h1⟩:=aso.mp (a os);obtain⟨h1,h2⟩:=Prod.mk.inj h1;obtain⟨h2,h4⟩:=Prod.mk.inj h2;have h3:=c os;have hs':endF (stepQ (denQ tabQ) r.prog w) M r.prog w os=some s:=hs;rw[hs,Option.map_some]at h3;have h3:=arY h3;rw[hs',Option.map_some];exact congrArg some (Prod.ext h1 (Prod.ext h2 (Prod.ext h3 h4)))
end
end Rf
namespace Pr
open PySem PySem.Spec PyProof.Rows L2 Evl Rf
def cX:Dat:=.int 9
def jo:Dat:=.int 1
def kY:Dat:=.int 3
def iy:Dat:=.int 9
def jc:Dat:=.tuple [.str "lt",.str "lf",.str "lh",.str "rt",.str "rf",.str "rh"]
def jE:Dat:=.tuple [.int 0,.int 0,.int 0,.int 0,.int 0,.int 0]
def pH:Dat:=.int 999999999
def zL:List (Str×List Str):=[("owner",[]),("ground",["number"]),("enrol",["number","number","ear"]),("leave",["number","number"]),("bring",["number","number","ear"]),("bear",["number"]),("cut",["number"]),("tear",["number","place"]),("sell",["number","number"]),("move",["number","number"]),("die",["number"]),("unite",["number","number"]),("part",["number"]),("pass",["number","number"]),("heir",["number","number","number"])]
def j8:Ft:=[("Beast",["story","mother","owner","ground","due","ear","alive"]),("Herd",["beasts"]),("Grounds",["allowances","circles"]),("Rights",["held"]),("Commons",["owner_count","holders","grounds","rights","herd"])]
def uR:List (Str×Bool):=[("NoGround",true),("NoOwner",true),("NoRight",true),("HasRight",true),("NoneFree",true),("BadExtra",true),("BadAllowance",true),("Clash",true),("BadEar",true),("Bare",true),("StillThere",true),("NoBeast",true),("Dead",true),("Unmarked",true),("Deepest",true),("NoPlace",true),("SameOwner",true),("SameGround",true),("Together",true),("Alone",true),("BadDeed",true)]
def xmH:List (Str×List (Str×Bool)):=[("CommonError",uR)]
def dfH:List (Str×Bool):=[("held",true),("holders",false)]
def V9:List (Str×List Str):=[("Clash",["ones","others","ear"])]
def aY(i:Nat):Stmt:=PySem.Challenge.pw_earmarks_k54_whole_thief_needs_more.main.body.getD i (.Pass ⟨0,0,0,0⟩)
abbrev Iw:Stmt:=inClass (aY 50) 0
abbrev J8:Stmt:=inClass (aY 55) 0
abbrev O7:Stmt:=inClass (aY 35) 0
abbrev Io:Stmt:=inClass (aY 67) 0
abbrev Ke:Stmt:=inClass (aY 34) 2
abbrev Lr:Stmt:=inClass (aY 34) 4
abbrev Ds:Stmt:=inClass (aY 67) 17
abbrev BX:Stmt:=inClass (aY 55) 1
abbrev Hv:Stmt:=inClass (aY 50) 3
abbrev Kr:Stmt:=inClass (aY 50) 2
abbrev Hr:Stmt:=inClass (aY 50) 4
abbrev yS:Stmt:=inClass (aY 50) 5
abbrev Bl:Stmt:=inClass (aY 50) 6
abbrev Az:Stmt:=inClass (aY 67) 19
abbrev Ip:Stmt:=inClass (aY 67) 32
abbrev s_row:Stmt:=aY 75
abbrev Yx:Stmt:=aY 76
abbrev ag3:Stmt:=aY 77
abbrev Pg:Stmt:=aY 78
abbrev Xc:Stmt:=aY 79
abbrev yN:Stmt:=inClass (aY 67) 33
abbrev GP:Stmt:=inClass (aY 55) 3
abbrev Bj:Stmt:=inClass (aY 55) 4
abbrev xK:Stmt:=inClass (aY 67) 34
abbrev yX:Stmt:=inClass (aY 67) 1
abbrev Ar:Stmt:=inClass (aY 55) 2
abbrev adR:Stmt:=aY 47
abbrev abv:Stmt:=aY 44
abbrev Pb:Stmt:=aY 52
abbrev abH:Stmt:=aY 45
abbrev adz:Stmt:=aY 46
abbrev Lz:Stmt:=aY 53
abbrev yH:Stmt:=inClass (aY 67) 35
abbrev aav:Stmt:=aY 57
abbrev BZ:Stmt:=inClass (aY 35) 5
abbrev Gz:Stmt:=inClass (aY 35) 6
abbrev yV:Stmt:=inClass (aY 55) 7
abbrev vL:Stmt:=inClass (aY 67) 22
abbrev Bo:Stmt:=inClass (aY 67) 21
abbrev HD:Stmt:=inClass (aY 50) 7
abbrev HS:Stmt:=inClass (aY 67) 18
abbrev Av:Stmt:=inClass (aY 67) 15
abbrev xU:Stmt:=inClass (aY 50) 1
abbrev yu:Stmt:=inClass (aY 67) 2
abbrev Ww:Stmt:=aY 58
abbrev abO:Stmt:=aY 43
abbrev Ue:Stmt:=aY 59
abbrev yh:Stmt:=inClass (aY 67) 36
abbrev ZR:Stmt:=aY 28
abbrev SJ:Stmt:=aY 66
abbrev Ei:Stmt:=inClass (aY 67) 3
abbrev Km:Stmt:=inClass (aY 55) 5
abbrev FP:Stmt:=inClass (aY 67) 4
abbrev DP:Stmt:=inClass (aY 34) 1
abbrev abf:Stmt:=aY 30
abbrev MP:Stmt:=inClass (aY 34) 0
abbrev Ed:Stmt:=inClass (aY 35) 1
abbrev Fp:Stmt:=inClass (aY 67) 5
abbrev M7:Stmt:=inClass (aY 35) 2
abbrev Ka:Stmt:=inClass (aY 35) 3
abbrev Ks:Stmt:=inClass (aY 35) 4
abbrev Ho:Stmt:=inClass (aY 67) 6
abbrev T6:Stmt:=aY 32
abbrev Wb:Stmt:=aY 31
abbrev Gv:Stmt:=inClass (aY 34) 3
abbrev J9:Stmt:=inClass (aY 67) 7
abbrev Hu:Stmt:=inClass (aY 67) 8
abbrev J5:Stmt:=inClass (aY 35) 8
abbrev Ba:Stmt:=inClass (aY 35) 9
abbrev GD:Stmt:=inClass (aY 67) 9
abbrev HF:Stmt:=inClass (aY 67) 10
abbrev Kg:Stmt:=inClass (aY 67) 11
abbrev Rb:Stmt:=aY 60
abbrev Bh:Stmt:=inClass (aY 67) 24
abbrev Cd:Stmt:=inClass (aY 50) 10
abbrev Fg:Stmt:=inClass (aY 50) 8
abbrev Eo:Stmt:=inClass (aY 67) 12
abbrev Ij:Stmt:=inClass (aY 50) 9
abbrev Hl:Stmt:=inClass (aY 67) 13
abbrev Ax:Stmt:=inClass (aY 55) 6
abbrev Ml:Stmt:=inClass (aY 35) 7
abbrev Ce:Stmt:=inClass (aY 67) 14
abbrev Oz:Stmt:=aY 40
abbrev adn:Stmt:=aY 39
abbrev Lj:Stmt:=inClass (aY 67) 16
abbrev aeJ:Stmt:=aY 80
abbrev adJ:Stmt:=aY 81
abbrev W8:Stmt:=aY 82
abbrev agT:Stmt:=aY 83
abbrev aeg:Stmt:=aY 84
abbrev adh:Stmt:=aY 85
abbrev ae4:Stmt:=aY 86
abbrev Xo:Stmt:=aY 62
abbrev Ey:Stmt:=inClass (aY 67) 28
abbrev V4:Stmt:=aY 69
abbrev ab4:Stmt:=aY 70
abbrev abo:Stmt:=aY 71
abbrev TJ:Stmt:=aY 72
abbrev Yw:Stmt:=aY 42
abbrev O8:Stmt:=aY 61
abbrev Ew:Stmt:=inClass (aY 67) 25
abbrev abE:Stmt:=aY 74
abbrev WW:Stmt:=aY 73
abbrev adW:Stmt:=aY 87
abbrev Om:Stmt:=aY 88
abbrev Np:Stmt:=inClass (aY 23) 0
abbrev dM(c m q:Str)(s:Stmt):He.DefD:=⟨(c,some m),m,q,defArgs s,defBody s,defScope s,[],[]⟩
abbrev dF(x:Str)(s:Stmt):He.DefD:=⟨(x,none),x,x,defArgs s,defBody s,defScope s,[],[]⟩
def xsH:List Str:=["Grounds","Rights","Herd","Commons","Beast","NoGround","NoOwner","NoRight","HasRight","NoneFree","BadExtra","BadAllowance","Clash","BadEar","Bare","StillThere","NoBeast","Dead","Unmarked","Deepest","NoPlace","SameOwner","SameGround","Together","Alone","BadDeed","CommonError"]
def tbs:List He.Tab:=[(λK=>He.ga K "SHAPES",["owner","ground","enrol","leave","bring","bear","cut","tear","sell","move","die","unite","part","pass","heir"])]
def nm0:List PySem.Str:=["_wall","CommonError","BadEar","Bare","BadAllowance","BadExtra","NoPlace","Deepest","NoOwner","NoGround","NoBeast","NoRight"]
def nm1:List PySem.Str:=["HasRight","StillThere","Dead","Unmarked","SameOwner","SameGround","Together","Alone","NoneFree","BadDeed","Clash","PLACES"]
def nm2:List PySem.Str:=["GREATEST_DEPTH","BARE_EAR","is_ear","begun","gone_on","deepened","Beast","Herd","SHAPES","GREATEST_PART","fits","part_fits"]
def nm3:List PySem.Str:=["deeper","joint","lacks","apart","meet","torn","GREATEST_ALLOWANCE","Grounds","offspring","first_free","Rights","tidied"]
def nm4:List PySem.Str:=["barring","ask_room","clashing","owners_of","passing","FEWEST_EXTRA","MOST_EXTRA","need_ear","Commons","_law_room_of","_law_tears","_law_whole"]
def nm5:List PySem.Str:=["_law_like","_law_torn_by","_law_below","_law_row","_law_ear_by","_law_ear","_law_begun","_law_word_by","_law_done","_law_near","_law_mark_by","_law_ref"]
def nm6:List PySem.Str:=["_law_deed","_law_play","_law_cell","_law_held"]
def nm:List PySem.Str:=nm0++nm1++nm2++nm3++nm4++nm5++nm6
def fa0:List He.Fa:=[.mkr "Grounds",.mkr "Rights",.mkr "Herd",.mkr "Commons",.meth "Beast" "stand",.meth "Beast" "told",.meth "Commons" "owners",.meth "Rights" "all_rows",.meth "Grounds" "many",.meth "Grounds" "has",.meth "Grounds" "need",.meth "Grounds" "allowance"]
def fa1:List He.Fa:=[.meth "Grounds" "together",.meth "Commons" "together",.meth "Commons" "look",.glo "_law_row",.glo "_law_ear_by",.glo "_law_ear",.glo "_law_begun",.glo "_law_word_by",.meth "Commons" "need_owner",.meth "Rights" "marks",.meth "Rights" "has_right",.meth "Commons" "need_right"]
def fa2:List He.Fa:=[.meth "Commons" "new_owner",.meth "Rights" "add_right",.glo "torn",.glo "lacks",.glo "offspring",.glo "apart",.glo "meet",.glo "first_free",.meth "Commons" "first_mark",.glo "tidied",.meth "Herd" "all_living",.meth "Herd" "grazing"]
def fa3:List He.Fa:=[.meth "Rights" "in_grounds",.meth "Commons" "standing_but",.meth "Commons" "standing",.meth "Grounds" "room",.meth "Commons" "room",.meth "Commons" "new_heir",.meth "Grounds" "add_ground",.meth "Commons" "new_ground",.glo "barring",.glo "joint",.glo "ask_room",.meth "Commons" "ask_ground"]
def fa4:List He.Fa:=[.glo "is_ear",.glo "need_ear",.meth "Commons" "enrol",.meth "Rights" "drop",.meth "Commons" "leave",.meth "Beast" "stand_so",.glo "begun",.mkr "Beast",.meth "Herd" "add_beast",.meth "Commons" "bring",.meth "Herd" "known",.meth "Herd" "living"]
def fa5:List He.Fa:=[.meth "Herd" "marked",.meth "Commons" "bear",.glo "deepened",.glo "gone_on",.meth "Beast" "befall",.meth "Commons" "cut",.meth "Commons" "tear",.meth "Herd" "calves",.meth "Herd" "lead_calves",.meth "Commons" "sell",.meth "Commons" "move",.meth "Commons" "die"]
def fa6:List He.Fa:=[.glo "clashing",.meth "Commons" "quarrels",.meth "Grounds" "enclose",.meth "Grounds" "unite",.meth "Commons" "unite",.meth "Grounds" "part",.meth "Commons" "part",.meth "Rights" "hand_over",.meth "Herd" "owned",.meth "Commons" "pass_on",.glo "part_fits",.glo "fits"]
def fa7:List He.Fa:=[.meth "Commons" "do",.glo "_law_done",.glo "_law_near",.glo "_law_mark_by",.glo "_law_ref",.glo "_law_deed",.glo "_law_play",.glo "_law_cell",.glo "passing",.meth "Commons" "price",.glo "_law_room_of",.glo "_law_tears"]
def fa8:List He.Fa:=[.glo "_law_whole",.glo "_law_like",.glo "deeper",.glo "owners_of",.meth "Commons" "whose",.glo "_law_below",.glo "_law_torn_by",.glo "_law_held",.glo "law",.glo "Grounds",.glo "Rights",.glo "Herd"]
def fa9:List He.Fa:=[.glo "Commons",.glo "Beast",.glo "NoGround",.exc "NoGround",.glo "NoOwner",.exc "NoOwner",.glo "NoRight",.exc "NoRight",.glo "HasRight",.exc "HasRight",.glo "NoneFree",.exc "NoneFree"]
def aoc:List He.Fa:=[.glo "BadExtra",.exc "BadExtra",.glo "BadAllowance",.exc "BadAllowance",.glo "Clash",.glo "BadEar",.exc "BadEar",.glo "Bare",.exc "Bare",.glo "StillThere",.exc "StillThere",.glo "NoBeast"]
def an0:List He.Fa:=[.exc "NoBeast",.glo "Dead",.exc "Dead",.glo "Unmarked",.exc "Unmarked",.glo "Deepest",.exc "Deepest",.glo "NoPlace",.exc "NoPlace",.glo "SameOwner",.exc "SameOwner",.glo "SameGround"]
def an1:List He.Fa:=[.exc "SameGround",.glo "Together",.exc "Together",.glo "Alone",.exc "Alone",.glo "BadDeed",.exc "BadDeed",.glo "CommonError",.exc "CommonError",.glo "SHAPES",.int "GREATEST_DEPTH" 9,.int "FEWEST_EXTRA" 1]
def anO:List He.Fa:=[.int "MOST_EXTRA" 3,.int "GREATEST_ALLOWANCE" 9,.glo "PLACES",.glo "BARE_EAR",.int "GREATEST_PART" 999999999,.free "tuple",.free "list",.free "len",.free "range",.free "abs",.free "max",.free "min"]
def anU:List He.Fa:=[.free "sum",.free "zip",.free "any",.free "sorted",.free "set",.free "enumerate",.free "all",.free "isinstance",.free "int",.free "bool",.free "str"]
def fa:List He.Fa:=fa0++fa1++fa2++fa3++fa4++fa5++fa6++fa7++fa8++fa9++aoc++an0++an1++anO++anU
def fn0:List He.DefD:=[dM "Grounds" "__init__" "Grounds.__init__" Iw,dM "Rights" "__init__" "Rights.__init__" J8,dM "Herd" "__init__" "Herd.__init__" O7,dM "Commons" "__init__" "Commons.__init__" Io,dM "Beast" "stand" "Beast.stand" Ke,dM "Beast" "told" "Beast.told" Lr,dM "Commons" "owners" "Commons.owners" Ds,dM "Rights" "all_rows" "Rights.all_rows" BX,dM "Grounds" "many" "Grounds.many" Hv,dM "Grounds" "has" "Grounds.has" Kr,dM "Grounds" "need" "Grounds.need" Hr,dM "Grounds" "allowance" "Grounds.allowance" yS]
def fn1:List He.DefD:=[dM "Grounds" "together" "Grounds.together" Bl,dM "Commons" "together" "Commons.together" Az,dM "Commons" "look" "Commons.look" Ip,dF "_law_row" s_row,dF "_law_ear_by" Yx,dF "_law_ear" ag3,dF "_law_begun" Pg,dF "_law_word_by" Xc,dM "Commons" "need_owner" "Commons.need_owner" yN,dM "Rights" "marks" "Rights.marks" GP,dM "Rights" "has_right" "Rights.has_right" Bj,dM "Commons" "need_right" "Commons.need_right" xK]
def fn2:List He.DefD:=[dM "Commons" "new_owner" "Commons.new_owner" yX,dM "Rights" "add_right" "Rights.add_right" Ar,dF "torn" adR,dF "lacks" abv,dF "offspring" Pb,dF "apart" abH,dF "meet" adz,dF "first_free" Lz,dM "Commons" "first_mark" "Commons.first_mark" yH,dF "tidied" aav,dM "Herd" "all_living" "Herd.all_living" BZ,dM "Herd" "grazing" "Herd.grazing" Gz]
def fn3:List He.DefD:=[dM "Rights" "in_grounds" "Rights.in_grounds" yV,dM "Commons" "standing_but" "Commons.standing_but" vL,dM "Commons" "standing" "Commons.standing" Bo,dM "Grounds" "room" "Grounds.room" HD,dM "Commons" "room" "Commons.room" HS,dM "Commons" "new_heir" "Commons.new_heir" Av,dM "Grounds" "add_ground" "Grounds.add_ground" xU,dM "Commons" "new_ground" "Commons.new_ground" yu,dF "barring" Ww,dF "joint" abO,dF "ask_room" Ue,dM "Commons" "ask_ground" "Commons.ask_ground" yh]
def fn4:List He.DefD:=[dF "is_ear" ZR,dF "need_ear" SJ,dM "Commons" "enrol" "Commons.enrol" Ei,dM "Rights" "drop" "Rights.drop" Km,dM "Commons" "leave" "Commons.leave" FP,dM "Beast" "stand_so" "Beast.stand_so" DP,dF "begun" abf,dM "Beast" "__init__" "Beast.__init__" MP,dM "Herd" "add_beast" "Herd.add_beast" Ed,dM "Commons" "bring" "Commons.bring" Fp,dM "Herd" "known" "Herd.known" M7,dM "Herd" "living" "Herd.living" Ka]
def fn5:List He.DefD:=[dM "Herd" "marked" "Herd.marked" Ks,dM "Commons" "bear" "Commons.bear" Ho,dF "deepened" T6,dF "gone_on" Wb,dM "Beast" "befall" "Beast.befall" Gv,dM "Commons" "cut" "Commons.cut" J9,dM "Commons" "tear" "Commons.tear" Hu,dM "Herd" "calves" "Herd.calves" J5,dM "Herd" "lead_calves" "Herd.lead_calves" Ba,dM "Commons" "sell" "Commons.sell" GD,dM "Commons" "move" "Commons.move" HF,dM "Commons" "die" "Commons.die" Kg]
def fn6:List He.DefD:=[dF "clashing" Rb,dM "Commons" "quarrels" "Commons.quarrels" Bh,dM "Grounds" "enclose" "Grounds.enclose" Cd,dM "Grounds" "unite" "Grounds.unite" Fg,dM "Commons" "unite" "Commons.unite" Eo,dM "Grounds" "part" "Grounds.part" Ij,dM "Commons" "part" "Commons.part" Hl,dM "Rights" "hand_over" "Rights.hand_over" Ax,dM "Herd" "owned" "Herd.owned" Ml,dM "Commons" "pass_on" "Commons.pass_on" Ce,dF "part_fits" Oz,dF "fits" adn]
def fn7:List He.DefD:=[dM "Commons" "do" "Commons.do" Lj,dF "_law_done" aeJ,dF "_law_near" adJ,dF "_law_mark_by" W8,dF "_law_ref" agT,dF "_law_deed" aeg,dF "_law_play" adh,dF "_law_cell" ae4,dF "passing" Xo,dM "Commons" "price" "Commons.price" Ey,dF "_law_room_of" V4,dF "_law_tears" ab4]
def fn8:List He.DefD:=[dF "_law_whole" abo,dF "_law_like" TJ,dF "deeper" Yw,dF "owners_of" O8,dM "Commons" "whose" "Commons.whose" Ew,dF "_law_below" abE,dF "_law_torn_by" WW,dF "_law_held" adW,dF "law" Om,dM "Clash" "__init__" "Clash.__init__" Np]
def fn:List He.DefD:=fn0++fn1++fn2++fn3++fn4++fn5++fn6++fn7++fn8
def exB(K:arG):Bool:=true&&LK K j8&&xmB K xmH&&(V9.all λp=>xsH.contains p.1&&Uk K p.1 p.2)&&afT K "SHAPES" zL&&He.tupB K "PLACES" [.str "lt",.str "lf",.str "lh",.str "rt",.str "rf",.str "rh"]&&He.tupB K "BARE_EAR" [.int 0,.int 0,.int 0,.int 0,.int 0,.int 0]
def ad0:List Addr:=[3,31,44,56,68,80,92,104,116,128,140,152,164,176,188,200,212,224,236,248,260,272,291,294]
def ad1:List Addr:=[295,300,307,314,319,364,447,452,472,479,484,489,494,501,508,513,596,605,610,670,681,686,693,698]
def ad2:List Addr:=[703,708,715,974,983,988,995,1002,1009,1016,1023,1028,1035,1042,1049,1056,1063,1070,1077,1084,1091,1098,1105,1112]
def ad3:List Addr:=[30,43,55,67,79,91,103,115,127,139,151,163,175,187,199,211,223,235,247,259,271,290,299,306]
def ad4:List Addr:=[313,318,363,446,453,454,455,456,457,458,459,460,461,462,463,464,465,466,467,471,478,483,488,493]
def ad5:List Addr:=[500,507,512,595,604,609,669,680,685,692,697,702,707,714,973,982,987,994,1001,1008,1015,1022,1027,1034]
def ad6:List Addr:=[1041,1048,1055,1062,1069,1076,1083,1090,1097,1104,1111,29,32,42,54,66,78,90,102,114,126,138,150,162]
def ad7:List Addr:=[174,186,198,210,222,234,246,258,270,288,289,333,340,347,354,361,362,365,366,382,389,396,403,410]
def ad8:List Addr:=[415,420,425,430,437,444,445,448,449,527,534,541,548,555,562,569,574,581,586,593,594,597,598,624]
def ad9:List Addr:=[631,638,643,650,657,662,667,668,671,672,729,736,743,750,755,762,769,776,783,790,797,804,811,818]
def an9:List Addr:=[823,830,837,844,851,858,865,872,877,884,891,898,905,912,919,924,931,938,943,950,957,964,971,972]
def anY:List Addr:=[975,976,287,332,339,346,353,360,381,388,395,402,409,414,419,424,429,436,443,526,533,540,547,554]
def anB:List Addr:=[561,568,573,580,585,592,623,630,637,642,649,656,661,666,728,735,742,749,754,761,768,775,782,789]
def anT:List Addr:=[796,803,810,817,822,829,836,843,850,857,864,871,876,883,890,897,904,911,918,923,930,937,942,949]
def anA:List Addr:=[956,963,970]
def ad:List Addr:=ad0++ad1++ad2++ad3++ad4++ad5++ad6++ad7++ad8++ad9++an9++anY++anB++anT++anA
abbrev R:PySem.W.OpenRow:=PySem.W.OpenLaw.row PySem.Challenge.rw_earmarks_k54_whole_thief_needs_more
abbrev hkE:PySem.W.Hook:=acJ ad fa fn tbs exB
def obE(s:PySem.W.SharedT):He.AlX:=acG ad fa fn tbs exB (HandSHeadRun.getT s)
theorem akN(s:PySem.W.SharedT):obE s=hkE.obs s.abs:=ahh (HandSHeadRun.getT_eq s)
abbrev wR(w:World)(b:Bool):World:=w.withFollow "special-get-raises" b
theorem amv(w:World):agr R (PySem.W.view R.prog [88]) ad exB 40000 nm (wR w false):=by
 intro os
 kernel_rfl
theorem al3(w:World):agC R ad fa fn tbs 40000 (wR w false):=by
 intro os
 kernel_rfl
theorem runAt(w:World):agr R (PySem.W.view R.prog [88]) ad exB 40000 nm (wR w true):=by
 intro os
 kernel_rfl
theorem ami(w:World):agC R ad fa fn tbs 40000 (wR w true):=by
 intro os
 kernel_rfl
theorem run(w:World):HandSHeadRun.RunEq R (PySem.W.view R.prog [88]) hkE obE 40000 nm w:=PySem.W.byRow2 "special-get-raises" (P:=λw=>HandSHeadRun.RunEq R (PySem.W.view R.prog [88]) hkE obE 40000 nm w) (λw=>WQ (amv w) (al3 w)) (λw=>WQ (runAt w) (ami w)) w
end Pr
namespace Ear
open PySem PySem.Spec PyProof.Rows L2 Evl RZ
section
variable{X:Cx}{C:Addr}{bmB:List Value}{B newId initId:String}
theorem agk{x:Str}{p pos:Pos}(F:ExcBaseFacts B newId initId bmB)(q:PySem.W.excIn X.K C bmB newId=true)(gC:X.mg x=some (.ref C))(kC:PySem.W.keepIn X.K (.ref C)=true)(r:Raises X (.ref C))(hg:Gl X x)
  (hn:(x==("__debug__" : Str))=false:=by decide):PMk X (.Call (.Name x p) [] [] pos) (λ_ H Q=>Q (.ref C) none H):=by
 intro pins s σ H Q I h;refine wpAny_Call_Name_kw (ld_glob I hg gC ?_ hn);refine PySem.W.callWith_K0 I.kIn kC ?_;show wpAny _ _ (call (.ref C) []) _ _ _;obtain⟨bm,N,nm,qn,bs,hdct,sn,sub,ab,col,dd,k0,k1,k2,k3,k5,mN,hC,hN,hni,T⟩:=exc_obj I.kIn q;refine wpAny_call_exc_subT F T hC hN hni (λh' e hm=>?_) (asz _);exact mk_of I hm r h (I.hok.gone hm.new)
end
theorem exm_one{K:arG}{S:Addr}(h1:PySem.W.subIn K (.ref S) (.type "BaseException")=some true)(h2:PySem.W.isClsIn K S=true)(h3:PySem.W.typeIn K (.ref S)=some (.type "type"))(h4:PySem.W.subIn K (.ref S) (.ref S)=some true) :
  PySem.W.exmOne K (.ref S) (.ref S)=some true:=by
 have e1:(PySem.W.subIn K (.ref S) (.type "BaseException")==some true)=true:=by rw[h1]<;>rfl
 have e2:((PySem.W.clsIn K S).isSome&&PySem.W.typeIn K (.ref S)==some (.type "type"))=true:=by rw[h3,arH];exact⟨h2,rfl⟩
 show(if (PySem.W.subIn K (.ref S) (.type "BaseException")==some true)=true then(if ((PySem.W.clsIn K S).isSome&&PySem.W.typeIn K (.ref S)==some (.type "type"))=true then PySem.W.subIn K (.ref S) (.ref S) else none) else none)=some true
 rw[if_pos e1,if_pos e2];exact h4
def ant(xs:List Int):Prop:=xs.length=6/\∀x∈xs,0<=x/\x<=9
section
variable{K:arG}{σ:L2.St}{H:Hp}{te tl:TE}{tt:TT}{vs:List Nat}
def EvS(te:TE)(σ:L2.St)(H:Hp)(P:V->Hp->Prop):Prop:=∀H1,Ex H H1->∀Q:VK,(∀v H2,Ex H1 H2->P v H2->Q v H2)->te σ H1 Q
end
section
variable{K:arG}{σ:L2.St}{H H':Hp}{te ta tb:TE}{t:TT}{P R:V->Hp->Prop}{v:V}
theorem EvS.mono(e:Ex H H')(h:EvS te σ H P):EvS te σ H' P:=λH1 a Q q=>h H1 (e.trans a) Q q
theorem EvS.imp(h:EvS te σ H P)(k:∀v H',P v H'->R v H'):EvS te σ H R:=λH1 e Q q=>h H1 e Q λv H2 e2 p=>q v H2 e2 (k v H2 p)
end
end Ear
namespace Ear
open PySem PySem.Spec PyProof.Rows L2 Evl RZ
def fD{α:Type}(R:V->α->Prop)(ws:List V)(L:List α):Prop:=ws.length=L.length/\∀(i:Nat) (v:V) (x:α),ws[i]?=some v->L[i]?=some x->R v x
theorem fD.imp{α:Type}{R S:V->α->Prop}{ws:List V}{L:List α}(h:fD R ws L)(k:∀v x,R v x->S v x):fD S ws L:=⟨h.1,λi v x a b=>k v x (h.2 i v x a b)⟩
theorem fD.nil{α:Type}{R:V->α->Prop}:fD R [] []:=⟨rfl,λi v x a _=>by simp at a⟩
theorem fD.snoc{α:Type}{R:V->α->Prop}{ws:List V}{L:List α}{v:V}{x:α}(h:fD R ws L)(k:R v x):fD R (ws++[v]) (L++[x]):=by
 refine⟨by rw[asJ,asJ,h.1];rfl,λi u y a b=>?_⟩;by_cases hi:i < ws.length
 ·rw[arS hi]at a;rw[arS (by rw[←h.1];exact hi)]at b;exact h.2 i u y a b
 ·rw[ar0 (by omega)]at a;rw[ar0 (by rw[←h.1];omega),←h.1]at b;have hj:i - ws.length=0:=by
   have:=(arJ.mp a).1;simp only[arW,List.length_nil]at this;omega
  rw[hj]at a b;cases a;cases b;exact k
def Jp(H:Hp)(v:V)(l:List Int):Prop:=∃h:Addr,v=.ref h/\H h=some (.tup (l.map V.int))
theorem Jp.mono{H H':Hp}(e:Ex H H'){v:V}{l:List Int}(h:Jp H v l):Jp H' v l:=by obtain⟨a,e1,h1⟩:=h;exact⟨a,e1,e _ _ h1⟩
theorem Jp.upd{H:Hp}{D:Addr}{acc:List V}{o:HO}(hD:H D=some (.lst acc)){v:V}{l:List Int}(h:Jp H v l):Jp (upd H D o) v l:=by obtain⟨a,e1,h1⟩:=h;refine⟨a,e1,?_⟩;rw[upd_ne (λz=>by rw[z,hD]at h1;cases h1)];exact h1
abbrev Rw:Type:=Int×List Int
def NK(H:Hp)(v:V)(r:Rw):Prop:=∃t m:Addr,v=.ref t/\H t=some (.tup [.int r.1,.ref m])/\H m=some (.tup (r.2.map V.int))
theorem NK.mono{H H':Hp}(e:Ex H H'){v:V}{r:Rw}(h:NK H v r):NK H' v r:=by obtain⟨t,m,e1,h1,h2⟩:=h;exact⟨t,m,e1,e _ _ h1,e _ _ h2⟩
theorem NK.upd{H:Hp}{D:Addr}{acc:List V}{o:HO}(hD:H D=some (.lst acc)){v:V}{r:Rw}(h:NK H v r):NK (upd H D o) v r:=by
 obtain⟨t,m,e1,h1,h2⟩:=h;refine⟨t,m,e1,?_,?_⟩
 ·rw[upd_ne (λz=>by rw[z,hD]at h1;cases h1)];exact h1
 ·rw[upd_ne (λz=>by rw[z,hD]at h2;cases h2)];exact h2
def amb(r:Rw):Prop:=1<=r.1/\ant r.2
structure Tab(R:List Rw):Prop where
 len:R.length<=128
 ok:∀r∈R,amb r
 few:∃D:List Rw,D.length<=64/\∀r∈R,r∈D
theorem Tab.sub{R S:List Rw}(h:Tab R)(hs:∀r∈S,r∈R)(hl:S.length<=128):Tab S:=by obtain⟨D,d1,d2⟩:=h.few;exact⟨hl,λr hr=>h.ok r (hs r hr),D,d1,λr hr=>d2 r (hs r hr)⟩
theorem fD.get{α:Type}{R:V->α->Prop}{ws:List V}{L:List α}(h:fD R ws L){i:Nat}{v:V}(g:ws[i]?=some v):∃x,L[i]?=some x/\R v x:=by
 have hi:=(arJ.mp g).1;have hi':i < L.length:=by rw[←h.1];exact hi
 exact⟨L[i],arI hi',h.2 i v _ g (arI hi')⟩
theorem fD.mem{α:Type}{R:V->α->Prop}{ws:List V}{L:List α}(h:fD R ws L){v:V}(m:v∈ws):∃x,x∈L/\R v x:=by obtain⟨i,hi,e⟩:=List.getElem_of_mem m;obtain⟨x,g,r⟩:=h.get (arJ.mpr ⟨hi,e⟩);exact⟨x,arN g,r⟩
theorem fD.take{α:Type}{R:V->α->Prop}{ws:List V}{L:List α}(h:fD R ws L)(n:Nat):fD R (ws.take n) (L.take n):=by
 refine⟨by rw[List.length_take,List.length_take,h.1],λi v x a b=>?_⟩;rw[List.getElem?_take]at a b;by_cases c:i < n
 ·rw[if_pos c]at a b;exact h.2 i v x a b
 ·rw[if_neg c]at a;cases a
theorem fD.drop{α:Type}{R:V->α->Prop}{ws:List V}{L:List α}(h:fD R ws L)(n:Nat):fD R (ws.drop n) (L.drop n):=by refine⟨by rw[as6,as6,h.1],λi v x a b=>?_⟩;rw[List.getElem?_drop]at a b;exact h.2 _ v x a b
theorem minD_mem:∀(xs:List PyData) (x:PyData),PySem.W.minD x xs∈x::xs
 |[],x=>arO.mpr rfl
 |y::ys,x=>by
  show PySem.W.minD (if PySem.W.dataLt y x then y else x) ys∈x::y::ys;have ih:=minD_mem ys (if PySem.W.dataLt y x then y else x);rcases arV.mp ih with e|m
  ·rw[e];split
   ·exact arL _ arM
   ·exact arM
  ·exact arL _ (arL _ m)
@[irreducible]def zJ (K:arG):List V->List V->Hp->VK->Prop:=λvs zs H Q=>∃(a:Addr) (xs:List V) (ds:List PyData) (d:V),vs=[V.ref a]/\zs=[d]/\SqL K H a xs/\DpAll K H xs ds/\PySem.W.AlikeAll ds/\PyData.depthAll ds<=60/\
 (ds=[]->Q d H)/\∀(y:PyData) (ys:List PyData) (i:Nat) (x:V),ds=y::ys->xs[i]?=some x->ds[i]?=some (PySem.W.minD y ys)->Q x H
section
variable{X:Cx}
theorem adC(hu:X.A.units+65 < cLine)(hc:X.calm=true):CallRK X (.builtin "min") [Str.ofString "default"] (zJ X.K):=by
 intro pins s σ H vs zs us ws Q I r1 r2 h;unfold zJ at h;obtain⟨a,xs,ds,d,rfl,rfl,hs,hd,ha,hz,q0,q⟩:=h;obtain⟨u,rfl,ru⟩:=vals1 r1;obtain⟨wd,rfl,rd⟩:=vals1 r2
 obtain rfl:u=Value.ref a:=ru
 obtain⟨its,rv,hl,_⟩:=I.list hs;obtain⟨as,hr⟩:=Dp.readsAll I ds xs its hd rv;refine PySem.W.min_list_default (I.ok.hd hc) hl.isList hr ha (by omega) (λe h' tk k=>?_) (λy ys i v h' tk bs e hv rm k=>?_)
 ·exact⟨d,H,I.kept (t':=tk) k,rd,q0 e⟩
 ·have hv':its[i]?=some v:=by simpa using hv
  have hi:i < its.length:=(arJ.mp hv').1;have hx:i < xs.length:=by rw[rv.length];exact hi
  obtain⟨v',gv,rx⟩:=rv.get (arI hx)
  obtain rfl:v'=v:=arY (gv.symm.trans hv')
  have hn:=SeqAt.ReadsAll.length ds its as hr;have hdi:i < ds.length:=by omega
  obtain⟨bs2,r,_⟩:=PySem.W.readsAll_atA (vs:=its.toArray) hr i v' (by simpa using hv');have eg:ds.getD i .none=ds[i]:=by rw[List.getD_eq_getElem?_getD,arI hdi];rfl
  rw[eg]at r;have m1:ds[i]∈ds:=asB hdi;have m2:PySem.W.minD y ys∈ds:=by rw[e];exact minD_mem ys y
  have eq:=PySem.W.alike_unique _ _ _ _ _ (ha.1 _ m1 _ m2) (PySem.W.reads_keeps k r) rm;exact⟨xs[i],H,I.kept (t':=tk) k,rx,q y ys i _ e (arI hx) (by rw[arI hdi,eq])⟩
def afW(xs:List V)(ds:List PyData)(x:V)(d:PyData):Prop:=∃i:Nat,xs[i]?=some x/\ds[i]?=some d
@[irreducible]def JQ (K:arG):List V->Hp->VK->Prop:=λvs H Q=>∃(a:Addr) (xs:List V) (ds:List PyData),vs=[V.ref a]/\SqL K H a xs/\DpAll K H xs ds/\PySem.W.AllAlike ds/\PySem.W.Sortable ds/\(∀d∈ds,d.depth<=60)/\
 ∀(ys:List V) (p:Addr),fD (afW xs ds) ys (ds.mergeSort (PySem.W.dataLe false id))->H p=none->Q (.ref p) (upd H p (.lst ys))
theorem aaH:∀(xs:List V) (ds:List PyData) (its:List Value) (P:Value->PyData->Prop),Vals xs its->PySem.W.EachIs P its ds->
  PySem.W.EachIs (λv d=>∃(i:Nat) (x:V),RelV x v/\xs[i]?=some x/\ds[i]?=some d) its ds
 |[],_,_,_,.nil,.nil=>.nil
 |_::_,[],_,_,.cons _ _,k=>nomatch k
 |x::xs,d::ds,u::us,P,.cons r t,.cons _ k=>.cons ⟨0,x,r,rfl,rfl⟩ ((aaH xs ds us P t k).mono λv d ⟨i,y,a,b,c⟩=>⟨i+1,y,a,b,c⟩)
theorem Xe{xs:List V}{ds:List PyData}:∀(out:List Value) (L:List PyData),PySem.W.EachIs (λv d=>∃(i:Nat) (x:V),RelV x v/\xs[i]?=some x/\ds[i]?=some d) out L->∃ys,Vals ys out/\fD (afW xs ds) ys L
 |[],[],.nil=>⟨[],.nil,fD.nil⟩
 |v::out,d::L,.cons ⟨i,x,r,a,b⟩ k=>by
  obtain⟨ys,h1,h2⟩:=Xe out L k;refine⟨x::ys,.cons r h1,by rw[arW,arW,h2.1],λj u y g1 g2=>?_⟩;cases j with
  |zero=>
   cases g1;cases g2;exact⟨i,a,b⟩
  |succ j=>exact h2.2 j u y g1 g2
theorem ac8(hu:X.A.units+65 < cLine):CallR X (.builtin "sorted") (JQ X.K):=by
 intro pins s σ H vs us Q I r h;unfold JQ at h;obtain⟨a,xs,ds,rfl,hs,hd,hal,hk,hz,q⟩:=h;obtain⟨u,rfl,ru⟩:=vals1 r
 obtain rfl:u=Value.ref a:=ru
 obtain⟨its,rv,hl,hsz⟩:=I.list hs;obtain⟨as,hr⟩:=Dp.readsAll I ds xs its hd rv;have er:PySem.W.EachIs (λv d=>∃as,Reads s.heap v (id d) as) its ds:=PySem.W.readsAll_each id (by rw[List.map_id];exact hr);have hn:=SeqAt.ReadsAll.length ds its as hr;have hl2:=rv.length;refine PySem.W.sorted_data (enc:=id) hl.isList (aaH xs ds its _ rv er) er (by rw[List.map_id];exact hal) (by rw[List.map_id];exact hk) (by omega) (λd m=>?_) λout hlen hout=>?_
 ·have:=hz d m;show X.A.units+2+d.depth < cLine;omega
 ·obtain⟨ys,v1,v2⟩:=Xe out _ hout;obtain⟨ep,he'⟩:=PyProof.Rows.sortedAll_at s.heap its out.toArray;have hy:ys.length=ds.length:=by
   rw[v2.1,List.length_mergeSort]
  refine⟨.ref _,upd H (s.heap.objs.size+1) (.lst ys),I.laid (t':=s.toks) (λ_ _=>PyProof.Rows.sortedAll_old) (Nat.le_succ _) ⟨by omega,out,ep,v1,by simpa using he'⟩,rfl,q ys _ v2 (I.hok.fresh (Nat.le_succ _))⟩
end
@[irreducible]def Rx (K:arG):R2:=λx y H Q=>∃d e:PyData,Dp K H x d/\Dp K H y e/\PySem.W.alike d e=true/\d≠.none/\d.depth<=60/\Q (.bl (PySem.W.dataLt d e)) H
theorem afz{X:Cx}(hu:X.A.units+65 < cLine):OpR X (compareOp .Lt) (Rx X.K):=by intro pins s σ H x y v u Q I rx ry h;unfold Rx at h;obtain⟨d,e,hd,he,ha,hn,hz,q⟩:=h;obtain⟨as,r1⟩:=Dp.reads I d x v hd rx;obtain⟨bs,r2⟩:=Dp.reads I e y u he ry;exact PySem.W.lt_data r1 r2 ha hn (by omega) ⟨.bl _,H,I,rfl,q⟩
def EvR(te:TE)(σ:L2.St)(H:Hp)(P:List V->Hp->Prop):Prop:=∀H1,Ex H H1->∀Q:VK,(∀p H2 us,Ex H1 H2->H2 p=some (.lst us)->P us H2->Q (.ref p) H2)->te σ H1 Q
def EvM(te:TE)(σ:L2.St)(H:Hp)(P:List V->Hp->Prop):Prop:=∀H1,Ex H H1->∀Q:VK,(∀p H2 us,H1 p=none->Ex H1 H2->H2 p=some (.lst us)->P us H2->Q (.ref p) H2)->te σ H1 Q
structure akq{α:Type}(Rel:Hp->V->α->Prop):Prop where
 mono:∀{H H':Hp} {v:V} {x:α},Ex H H'->Rel H v x->Rel H' v x
 upd:∀{H:Hp} {D:Addr} {acc:List V} {o:HO} {v:V} {x:α},H D=some (.lst acc)->Rel H v x->Rel (upd H D o) v x
theorem fD.mono{α:Type}{Rel:Hp->V->α->Prop}(S:akq Rel){H H':Hp}(e:Ex H H'){ws:List V}{L:List α}(h:fD (Rel H) ws L):fD (Rel H') ws L:=h.imp λ_ _ r=>S.mono e r
theorem fD.upd{α:Type}{Rel:Hp->V->α->Prop}(S:akq Rel){H:Hp}{D:Addr}{acc:List V}{o:HO}(hD:H D=some (.lst acc)){ws:List V}{L:List α}(h:fD (Rel H) ws L):fD (Rel (upd H D o)) ws L:=h.imp λ_ _ r=>S.upd hD r
section
variable{K:arG}{σ:L2.St}{H:Hp}{te tl:TE}{tt:TT}{vs:List Nat}{α:Type}
theorem EvM.r{P:List V->Hp->Prop}(h:EvM te σ H P):EvR te σ H P:=λH1 e Q q=>h H1 e Q λp H2 us _ a b c=>q p H2 us a b c
theorem EvM.imp{P R:List V->Hp->Prop}(h:EvM te σ H P)(k:∀us H',P us H'->R us H'):EvM te σ H R:=λH1 e Q q=>h H1 e Q λp H2 us n a b c=>q p H2 us n a b (k us H2 c)
end
theorem YH:∀a b:List Int,PyData.eqvAll (a.map PyData.int) (b.map PyData.int)=decide (a=b)
 |[],[]=>by rw[asT,PyData.eqvAll];rfl
 |[],y::ys=>by rw[asT,arK,PyData.eqvAll];rfl
 |x::xs,[]=>by rw[asT,arK,PyData.eqvAll];rfl
 |x::xs,y::ys=>by
  rw[arK,arK,PyData.eqvAll,YH xs ys,PyData.eqv,asV];simp
def dT(l:List Int):PyData:=.tuple (l.map PyData.int)
theorem lay_ints:∀l:List Int,PyData.canLayAll0 (l.map PyData.int)=true/\PyData.depthAll (l.map PyData.int)=0
 |[]=>⟨by rw[asT,PyData.canLayAll0],by rw[asT,PyData.depthAll]⟩
 |x::xs=>by
  have ih:=lay_ints xs;refine⟨?_,?_⟩
  ·rw[arK,PyData.canLayAll0,PyData.canLay0,ih.1];rfl
  ·rw[arK,PyData.depthAll,PyData.depth,ih.2];rfl
theorem Ie{K:arG}{H:Hp}:∀l:List Int,DpAll K H (l.map V.int) (l.map PyData.int)
 |[]=>.nil
 |x::xs=>.cons (.int x) (Ie xs)
def rD(r:Rw):PyData:=.tuple [.int r.1,dT r.2]
theorem adM(r:Rw):(rD r).canLay0=true/\(rD r).depth=2:=by
 have h:=lay_ints r.2;unfold rD dT;refine⟨?_,?_⟩
 ·rw[PyData.canLay0,PyData.canLayAll0,PyData.canLayAll0,PyData.canLayAll0,PyData.canLay0,PyData.canLay0,h.1];rfl
 ·rw[PyData.depth,PyData.depthAll,PyData.depthAll,PyData.depthAll,PyData.depth,PyData.depth,h.2];rfl
def rk(r:Rw):List Int:=r.1::r.2
abbrev Wy:Type:=Int×Int×List Int
def wk(w:Wy):List Int:=w.1::w.2.1::w.2.2
def wD(w:Wy):PyData:=.tuple [.int w.1,.int w.2.1,dT w.2.2]
theorem adA:PySem.W.rowLt [] []=false:=PyProof.Rows.lex_irrefl _
theorem abe(l m:List Int):PySem.W.rowLt [dT l] [dT m]=decide (l < m):=by
 have al:PySem.W.alike (dT l) (dT m)=true:=by unfold dT;rw[PySem.W.alike];exact PySem.W.alike_ints l m
 have ev:PyData.eqv (dT l) (dT m)=decide (l=m):=by unfold dT;rw[PyData.eqv,YH]
 have h:PySem.W.rowLt [dT l] [dT m]=if PyData.eqv (dT l) (dT m)=true then PySem.W.rowLt [] [] else PySem.W.dataLt (dT l) (dT m):=PySem.W.dataLt_cons al [] []
 rw[h,ev,adA];by_cases c:l=m
 ·rw[if_pos (decide_eq_true c),c];exact(decide_eq_false (List.lt_irrefl _)).symm
 ·rw[if_neg (by rw[ate];exact c)];show PySem.W.dataLt (.tuple (l.map PyData.int)) (.tuple (m.map PyData.int))=_;rw[PySem.W.dataLt_tuple];exact PySem.W.dataLt_ints l m
theorem Gq(x y:Int)(ds es:List PyData)(l m:List Int)(h:PySem.W.rowLt ds es=decide (l < m)):PySem.W.rowLt (.int x::ds) (.int y::es)=decide (x::l < y::m):=by
 have al:PySem.W.alike (.int x) (.int y)=true:=by rw[PySem.W.alike]
 have h2:PySem.W.rowLt (.int x::ds) (.int y::es)=if PyData.eqv (.int x) (.int y)=true then PySem.W.rowLt ds es else PySem.W.dataLt (.int x) (.int y):=PySem.W.dataLt_cons al ds es
 rw[h2,h,PySem.W.dataLt_int,PyData.eqv];by_cases c:x=y
 ·subst c;rw[if_pos (by simp),asV,ate,ate,List.cons_lt_cons_iff];constructor
  ·exact λk=>Or.inr ⟨rfl,k⟩
  ·rintro(k|k)
   ·omega
   ·exact k.2
 ·rw[if_neg (by simpa using c),asV,ate,ate,List.cons_lt_cons_iff];constructor
  ·exact Or.inl
  ·rintro(k|k)
   ·exact k
   ·exact absurd k.1 c
theorem ale(a b:Rw):PySem.W.dataLt (rD a) (rD b)=decide (rk a < rk b):=by unfold rD;rw[PySem.W.dataLt_tuple];exact Gq _ _ _ _ _ _ (abe a.2 b.2)
theorem alx(a b:Wy):PySem.W.dataLt (wD a) (wD b)=decide (wk a < wk b):=by unfold wD;rw[PySem.W.dataLt_tuple];exact Gq _ _ _ _ _ _ (Gq _ _ _ _ _ _ (abe a.2.2 b.2.2))
theorem Wd(a b:Rw):PySem.W.alike (rD a) (rD b)=true:=by unfold rD dT;rw[PySem.W.alike,PySem.W.alikeAll,PySem.W.alikeAll,PySem.W.alike,PySem.W.alike,PySem.W.alike_ints,PySem.W.alikeAll];rfl
theorem afn(a b:Wy):PySem.W.alike (wD a) (wD b)=true:=by unfold wD dT;rw[PySem.W.alike,PySem.W.alikeAll,PySem.W.alikeAll,PySem.W.alikeAll,PySem.W.alike,PySem.W.alike,PySem.W.alike,PySem.W.alike_ints,PySem.W.alikeAll];rfl
theorem fD.map{α β:Type}{P:V->β->Prop}(f:α->β){ws:List V}{L:List α}(h:fD (λv x=>P v (f x)) ws L):fD P ws (L.map f):=by refine⟨by rw[arU,h.1],λi v x a b=>?_⟩;rw[arT]at b;obtain⟨y,hy,e⟩:=aso.mp b;rw[←e];exact h.2 i v y a hy
theorem adU{a b:Rw}(h:rk a=rk b):a=b:=by unfold rk at h;injection h with h1 h2;exact Prod.ext h1 h2
def Xb(S:List Rw):Prop:=S.Pairwise λa b=>rk a < rk b
theorem Tj:∀{S T:List Rw},Xb S->Xb T->(∀r,r∈S↔r∈T)->S=T
 |[],[],_,_,_=>rfl
 |[],t::T,_,_,h=>absurd ((h t).mpr arM) (by simp)
 |s::S,[],_,_,h=>absurd ((h s).mp arM) (by simp)
 |s::S,t::T,hs,ht,h=>by
  obtain⟨hs1,hs2⟩:=List.pairwise_cons.mp hs;obtain⟨ht1,ht2⟩:=List.pairwise_cons.mp ht;have e:s=t:=by
   rcases arV.mp ((h s).mp arM) with e|m
   ·exact e
   ·rcases arV.mp ((h t).mpr arM) with e2|m2
    ·exact e2.symm
    ·exact absurd (ht1 s m) (List.lt_asymm (hs1 t m2))
  subst e;have hn:∀{L:List Rw},(∀r∈L,rk s < rk r)->s∉L:=λhL m=>List.lt_irrefl _ (hL s m);rw[Tj hs2 ht2 λr=>?_];constructor
  ·intro m;rcases arV.mp ((h r).mp (arL _ m)) with e|m2
   ·rw[e]at m;exact absurd m (hn hs1)
   ·exact m2
  ·intro m;rcases arV.mp ((h r).mpr (arL _ m)) with e|m2
   ·rw[e]at m;exact absurd m (hn ht1)
   ·exact m2
theorem Ls(a b:Rw):PySem.W.dataLe false rD a b=decide (rk a<=rk b):=by
 show(!PySem.W.dataLt (rD b) (rD a))=_
 rw[ale,asV,arX,decide_eq_false_iff_not,ate];exact List.not_lt
theorem aee{α β:Type}{R:α->β->Prop}{as cs:List α}(p:as.Perm cs):∀{bs:List β},PySem.W.EachIs R as bs->∃ds,ds.Perm bs/\PySem.W.EachIs R cs ds:=by
 induction p with
 |nil=>
  intro bs h;cases h;exact⟨[],List.Perm.refl _,.nil⟩
 |cons x _ ih=>
  intro bs h;cases h with
  |cons r t=>
   obtain⟨ds,h1,h2⟩:=ih t;exact⟨_::ds,h1.cons _,.cons r h2⟩
 |swap x y l=>
  intro bs h;cases h with
  |cons r t=>
   cases t with
   |cons r2 t2=>exact⟨_,List.Perm.swap _ _ _,.cons r2 (.cons r t2)⟩
 |trans _ _ ih1 ih2=>
  intro bs h;obtain⟨ds,a1,a2⟩:=ih1 h;obtain⟨es,b1,b2⟩:=ih2 a2;exact⟨es,b1.trans a1,b2⟩
section
variable{P:Program}{w:World}{A:Around}{E:Value->Shared->Prop}{s:Shared}
theorem O2{β:Type}{a:Addr}{es:Array (Int×Value)}{ep:Nat}{t:SetTable}{enc:β->PyData}{bs:List β}{R:Value->β->Prop}{Q:Value->Shared->Prop}(hh:A.handled=none)(ha:SetAt s.heap a es ep t)(hf:t.fits es.size=true)(hsz:es.size < scanBound)(hr:Ris t.place.toList)
  (hl:w.params.followText "set-order"=true∨t.led=true) (e:PySem.W.EachIs (λv b=>R v b/\∃as,Reads s.heap v (enc b) as) (es.toList.map (·.2)) bs) (hal:PySem.W.AllAlike (bs.map enc)) (hk:PySem.W.Sortable (bs.map enc)) (hu:∀b∈bs,A.units+2+(enc b).depth < cLine)
  (hQ:∀(s':Shared) (p:Addr) (out:List Value) (c:Nat) (cs:List β),(∀b o,s.heap.get? b=some o->s'.heap.get? b=some o)->s'.gens=s.gens->s'.os=s.os->s.heap.objs.size<=p->s'.heap.get? p=some (seqObj "list" out.toArray c)->
   cs.Perm bs->PySem.W.EachIs R out (cs.mergeSort (PySem.W.dataLe false enc))->Q (.ref p) s') :
  wpAny (model P w) A (call (.builtin "sorted") [.ref a]) Q E s:=by
 refine Calls.call_function_entry kind_sorted plain_sorted entry_sorted (args_sorted1 _) ?_;unfold Builtin.«sorted»;refine wpAny_bind (m:=checkCount "sorted" 1 1 _) (wpAny_pure ?_)
 refine wpAny_bind (collect_set (A:=A.in1) hh ha hf hsz hr hl λt1 vals kept grown g1 o1 pm=>?_);obtain⟨cs,pc,ec⟩:=aee pm.symm e;have lc:vals.length=cs.length:=ec.length;have lb:cs.length=bs.length:=pc.length_eq;have lz:vals.length<=sizeLine:=by rw[pm.length_eq,arU,asr,sizeLine_eq];unfold scanBound at hsz;omega
 refine wpAny_bind (wpAny_newList ?_ lz);have here:(t1.heap.push (seqObj "list" vals.toArray 0)).get? t1.heap.objs.size=some (seqObj "list" vals.toArray 0):=Heap.get?_push_size _ rfl
 have stays:∀b o,s.heap.get? b=some o->(t1.heap.push (seqObj "list" vals.toArray 0)).get? b=some o:=λb o q=>Heap.get?_push_of_some _ (kept b o q)
 have al:PySem.W.AllAlike (cs.map enc):=λd hd d' hd'=>hal d ((pc.map enc).mem_iff.mp hd) d' ((pc.map enc).mem_iff.mp hd');have sk:PySem.W.Sortable (cs.map enc):=by
  rcases hk with k|k
  ·exact .inl λd hd=>k d ((pc.map enc).mem_iff.mp hd)
  ·exact .inr λd hd=>k d ((pc.map enc).mem_iff.mp hd)
 refine wpAny_bind (wpAny_holding (PySem.W.list_sort_data (s:={ t1 with heap:=t1.heap.push (seqObj "list" vals.toArray 0) }) (enc:=enc) here (ec.mono λv b h=>h.1) (ec.mono λv b ⟨_,as,r⟩=>⟨as,PySem.W.reads_keeps stays r,λm=>?rd⟩) al sk (by omega) (λb hb=>?un) λout lo eo=>?fin))
 case rd=>
  obtain⟨o,q⟩:=PyProof.On.reads_mem_get r _ m;have hlt:t1.heap.objs.size < s.heap.objs.size:=Heap.lt_size q;exact absurd grown (Nat.not_le_of_lt hlt)
 case fin=>
  obtain⟨c,hc⟩:=sortedHeap_at (vs:=vals) (out:=out.toArray) here;refine wpAny_pure ⟨_,rfl,hQ _ t1.heap.objs.size out c cs (λb o q=>?_) g1 o1 grown hc pc eo⟩;have hlt:=Heap.lt_size (kept b o q)
  show(sortedHeap (t1.heap.push (seqObj "list" vals.toArray 0)) t1.heap.objs.size vals out.toArray).get? b=some o
  rw[sortedHeap_old (asu hlt) (by rw[size_push'];exact asO hlt)];exact stays b o q
 case un=>
  have:=hu b (pc.mem_iff.mp hb);show A.in1.units+1+_ < _;have e1:A.in1.units=A.units+1:=rfl;omega
end
@[irreducible]def NQ (w:World):List V->Hp->VK->Prop:=λvs H Q=>∃(a:Addr) (S:Int->Bool) (n:Nat),vs=[V.ref a]/\H a=some (SetO w a S n)/\
 ∀(ns:List Int) (p:Addr),ns.Pairwise (· < ·)->(∀k:Int,k∈ns↔S k=true)->ns.length=n->H p=none->Q (.ref p) (upd H p (.lst (ns.map V.int)))
theorem V8:∀(out:List Value) (ns:List Int),PySem.W.EachIs (λv (k:Int)=>∃tk,v=Value.int k tk) out ns->Vals (ns.map V.int) out
 |[],[],.nil=>.nil
 |_::out,k::ns,.cons ⟨tk,e⟩ t=>by
  subst e;exact .cons ⟨tk,rfl⟩ (V8 out ns t)
theorem aiB{ns:List Int}(h:ns.Pairwise λa b=>(PySem.W.dataLe false (λk:Int=>PyData.int k)) a b=true)(nd:ns.Nodup):ns.Pairwise (· < ·):=by refine List.Pairwise.imp₂ (λa b h1 h2=>?_) h nd;rw[PySem.W.dataLe_int,ate]at h1;omega
section
variable{X:Cx}
theorem adV(hu:X.A.units+65 < cLine)(hc:X.calm=true):CallR X (.builtin "sorted") (NQ X.w):=by
 intro pins s σ H vs us Q I r h;unfold NQ at h;obtain⟨a,S,n,rfl,ha,q⟩:=h;obtain⟨o,es,ep,t,ho,hex,hd,g,nd,hm,hb,hf,hn,hr,hl⟩:=setO_get I ha;rw[Vals.ref1 r];have ev:∀l:List (Int×Value),(∀e∈l,GoodE e)->PySem.W.EachIs (λv (k:Int)=>(∃tk,v=Value.int k tk)/\∃as,Reads s.heap v (PyData.int k) as) (l.map (·.2)) (l.map keyOf):=by
  intro l
  induction l with
  |nil=>exact λ_=>.nil
  |cons e l ih=>
   intro hg;obtain⟨k,tk,h1,h2⟩:=hg e arM;have ek:keyOf e=k:=by unfold keyOf;rw[h1]
   refine .cons ?_ (ih λx hx=>hg x (arL _ hx));rw[ek];exact⟨⟨tk,h1⟩,[],by show Reads s.heap e.2 (PyData.int k) [];rw[h1];exact .int k tk⟩
 refine O2 (enc:=λk:Int=>PyData.int k) (I.ok.hd hc) ⟨o,ho,hex.1,hd⟩ hf hb hr hl (ev es.toList g) (as7 λx y=>by rw[PySem.W.alike]) (PySem.W.Sortable.others λx=>⟨(λz=>by cases z),(λxs z=>by cases z)⟩) (λk _=>by rw[PyData.depth];omega) λs' p out c cs k g' o' hp hg pc eo=>?_;have mp:=asU cs (PySem.W.dataLe false (λk:Int=>PyData.int k));have ndm:(cs.mergeSort (PySem.W.dataLe false (λk:Int=>PyData.int k))).Nodup:=(mp.trans pc).nodup_iff.mpr nd;have srt:=asQ (le:=PySem.W.dataLe false (λk:Int=>PyData.int k)) (λa b c h1 h2=>by rw[PySem.W.dataLe_int,ate]at *;omega) (λa b=>by rw[PySem.W.dataLe_int,asW,ate,ate];omega) cs;generalize cs.mergeSort (PySem.W.dataLe false (λk:Int=>PyData.int k))=ns at mp ndm srt eo;have hv:Vals (ns.map V.int) out:=V8 out ns eo;have lns:ns.length=n:=by rw[mp.length_eq,pc.length_eq,arU,asr,hn]
 have hlen:(ns.map V.int).length<=sizeLine:=by rw[arU,lns,←hn,sizeLine_eq];unfold scanBound at hb;omega
 have hfr:H p=none:=I.hok.fresh hp;have J:Inv X pins σ (upd H p (.lst (ns.map V.int))) { s with heap:=s'.heap,gens:=s'.gens,drawn:=s'.drawn,toks:=s'.toks }:=
  I.call (ch:=[]) (Un.laid k hp hfr) (I.hok.laid k hp ⟨hlen,out,c,hv,hg⟩) (by rw[g'];exact I.bare) (λ_ z=>nomatch z)
 have es':s'={ s with heap:=s'.heap,gens:=s'.gens,drawn:=s'.drawn,toks:=s'.toks }:=by cases s';cases s;cases o';rfl
 rw[es'];exact⟨.ref p,_,J,rfl,q ns p (aiB srt ndm) (λk=>by rw[(mp.trans pc).mem_iff,hm]) lns hfr⟩
end
section
variable{X:Cx}
def ajx(w:World)(D:Addr)(vs:List Nat)(g:TG)(tt:TT)(te:TE)(σ:L2.St)(Nx:Hp->Prop)(x:V)(H:Hp):Prop:=
 g x (wipe σ vs) H λσ2 H2=>wipe σ2 vs=wipe σ vs/\tt σ2 H2 λb H3=>if b=true then te σ2 H3 λy H4=>∃(k:Int) (S:Int->Bool) (n:Nat),y=.int k/\H4 D=some (SetO w D S n)/\n+1 < scanBound/\Nx (upd H4 D (SetO w D (λj=>S j || decide (j=k)) (if S k=true then n else n+1))) else Nx H3
def als(w:World)(wi:TI)(g:TG)(tt:TT)(te:TE)(vs:List Nat):TE:=λσ H Q=>wi σ H λJ H1=>∀D,H1 D=none->∃W:Nat->Nat->Hp->Prop,(∃m,W 0 m (upd H1 D (SetO w D (λ_=>false) 0)))/\
 ∀i m H,W i m H->(J.stop i H/\Q (.ref D) H)∨(J.go i H/\∃Nx:Hp->Prop,(∀H',Nx H'->∃m',m' < m/\W (i+1) m' H')/\∀x H',J.yld i H x H'->ajx w D vs g tt te σ Nx x H')
theorem add_int{pins:List (Addr×Obj)}{σ:L2.St}{H:Hp}{s:Shared}{E:Value->Shared->Prop}{D:Addr}{S:Int->Bool}{n:Nat}{k:Int}{v:Value}{Q:Value->Shared->Prop}(I:Inv X pins σ H s)(hD:H D=some (SetO X.w D S n))(room:n+1 < scanBound)(rv:RelV (.int k) v)
  (q:∀t,Inv X pins σ (upd H D (SetO X.w D (λj=>S j || decide (j=k)) (if S k=true then n else n+1))) t->Q .none t):wpAny (model X.prog X.w) X.A (call (.builtin "set.add") [.ref D,v]) Q E s:=by
 obtain⟨tk,rfl⟩:=rv;refine setR_add (setO_get I hD) room λh' sb new=>q _ (I.write (e:=D) (t':=s.toks+1) (by rw[hD];trivial) (.inl rfl) (λb u hb hu=>(sb.2 b hb).trans hu) ?_ (setO_new new));have ⟨o,_,_,_,ho,_⟩:=new;exact⟨o,ho⟩
theorem alA{elt tg iter:Expr}{ifs:List Expr}{scope:Scope}{own:List (PySem.Str×Nat)}{pos:Pos}{wi:TI}{g:TG}{tt:TT}{te:TE}(hc:X.calm=true)(hN:X.N.Nodup)(hi:PI X tg iter wi)(ok:BlkOk X.N X.env.scope scope own)
  (hg:∀(t:Shared) (G:Hp) (C:Addr) (cl:List (PySem.Str×Addr)) (fp:List Addr),PG (X.blk t G scope (compEnvC scope cl C X.env) fp) tg g) (ht:∀(t:Shared) (G:Hp) (C:Addr) (cl:List (PySem.Str×Addr)) (fp:List Addr),PTs (X.blk t G scope (compEnvC scope cl C X.env) fp) ifs tt)
  (he:∀(t:Shared) (G:Hp) (C:Addr) (cl:List (PySem.Str×Addr)) (fp:List Addr),PE (X.blk t G scope (compEnvC scope cl C X.env) fp) elt te) (hs:∀x,foldedSetIterable iter X.env x=pure x:=by intro _;rfl) :
  PE X (.SetComp elt [⟨tg,iter,ifs,0⟩] scope pos) (als X.w wi g tt te (own.map (·.2))):=by
 refine⟨λpins s σ H Q I h=>?_⟩;rw[PpSet.eval_SetComp];have cells:∀y∈scope.names,y.2=.free->∃c,X.env.cells.lookup y.1=some c:=λy hy e=>(ok.free y hy e).elim (λk=>I.ok.has _ (.inl k)) (λk=>I.ok.has _ (.inr k));refine wpAny_comprehension_free rfl hs (closure_ok cells) ok.kind (λy hy e=>by rw[ok.uniq y hy,e]) (thn (hi.run pins s σ H _ I h) λ_ _ hx=>thn hx λitv t0 h0=>?_);obtain⟨it,fp,tn,J,G0,rfl,I0,T,st0,f0,q⟩:=h0;refine PpSet.newSet_ok (newEnv_comp ?_)
 -- the new set,at D
 obtain⟨D,hD⟩:∃D,D=t0.heap.objs.size:=⟨_,rfl⟩;rw[←hD];obtain⟨W,⟨m0,w0⟩,turn⟩:=q D (I0.hok.fresh (Nat.le_of_eq hD.symm));obtain⟨ob,hob⟩:∃ob:Obj,ob={ cls:=.type "set",dict:=none,data:=.set #[] 0 (.fresh 0 0 (!X.w.params.followText "set-order")) }:=⟨_,rfl⟩
 rw[←hob];obtain⟨t1,ht1⟩:∃t1:Shared,t1={ t0 with heap:=t0.heap.push ob }:=⟨_,rfl⟩;obtain⟨G1,hG1⟩:∃G1,G1=upd G0 D (SetO X.w D (λ_=>false) 0):=⟨_,rfl⟩;rw[←hG1]at w0;have grow:∀b o,t0.heap.get? b=some o->t1.heap.get? b=some o:=λb o e=>by rw[ht1];exact Heap.get?_push_of_some _ e
 have I1:Inv X pins σ G1 t1:=by rw[ht1,hG1];refine I0.laid (t':=t0.toks) (λb o e=>Heap.get?_push_of_some _ e) (Nat.le_of_eq hD.symm) ?_;rw[hD,hob];exact setO_new (setR_fresh X.w)
 have small:∀b∈fp,b < t0.heap.objs.size:=λb hb=>by
  obtain⟨o,e,_⟩:=T.obj _ _ st0 b hb;exact Heap.lt_size e
 have f1:∀b∈fp,FpOk X pins G1 b/\b < t1.heap.objs.size:=λb hb=>by
  have hlt:=small b hb;refine⟨⟨?_,(f0 b hb).2⟩,by rw[ht1];show b < (t0.heap.push ob).objs.size;rw[Heap.size_push];exact asO hlt⟩;rw[hG1,upd_ne (by rw[hD];exact asu hlt)];exact(f0 b hb).1
 have st1:tn 0 t1.heap:=T.keep _ _ _ st0 λb _ o e=>grow b o e;have I2:=block_start I1 ok hN f1;have pg:=hg t1 G1 t1.heap.objs.size (cellsFrom (t1.heap.objs.size+1) scope.names (cloFrom X.env.cells scope.names [])) fp;have pt:=ht t1 G1 t1.heap.objs.size (cellsFrom (t1.heap.objs.size+1) scope.names (cloFrom X.env.cells scope.names [])) fp;have pe:=he t1 G1 t1.heap.objs.size (cellsFrom (t1.heap.objs.size+1) scope.names (cloFrom X.env.cells scope.names [])) fp;have none1:∀b∈fp,G1 b=none:=λb hb=>(f1 b hb).1.1;rw[show({ t0 with heap:=t0.heap.push ob }:Shared)=t1 from ht1.symm];obtain⟨ce,hce⟩:∃ce,ce=compEnvC scope (cellsFrom (t1.heap.objs.size+1) scope.names (cloFrom X.env.cells scope.names [])) t1.heap.objs.size X.env:=⟨_,rfl⟩;rw[←hce]at I2 pg pt pe;have cL:ce.locals=t1.heap.objs.size:=by rw[hce];rfl
 obtain⟨t2,ht2⟩:∃t2:Shared,t2={ t1 with heap:=pushCells (t1.heap.push { cls:=.type "dict",data:=.dict #[] }) scope.names }:=⟨_,rfl⟩
 rw[←ht2]at I2;have st2:tn 0 t2.heap:=T.keep _ _ _ st1 λb _ o e=>by rw[ht2];exact pushCells_keeps _ _ _ _ (Heap.get?_push_of_some _ e)
 have still:∀{σ':L2.St} {G':Hp} {t':Shared},Inv (X.blk t1 G1 scope ce fp) [] σ' G' t'->(∀b∈fp,G' b=none)->∀b∈fp,FpOk (X.blk t1 G1 scope ce fp) [] G' b:=λI' hn b hb=>
  ⟨hn b hb,(I'.ok.exf b hb).1,I'.ok.exfs b hb,.inl hb,λx c e=>(I'.ok.exf b hb).2 x c e,λp hp=>absurd (show p∈([]:List (Addr×Obj))++[] from hp) (by simp)⟩
 have loop:codeAny (model X.prog X.w) X.A (.compLoop (.SetComp elt [⟨tg,iter,ifs,0⟩] scope pos) 0 (.ref it) (.ref D) ce) (compPost (model X.prog X.w) X.A X.xe none (EP X pins σ Q) (.ref D) t1.heap.objs.size) t2:=by
  refine PpSet.compLoopS_any (λn t'=>∃i G',Inv (X.blk t1 G1 scope ce fp) [] (wipe σ (own.map (·.2))) G' t'/\tn i t'.heap/\(∀b∈fp,G' b=none)/\W i n G') ?_ m0 ⟨0,G1,I2,st2,none1,w0⟩;rintro n t3 ⟨i,G3,I3,st3,n3,w3⟩;rcases turn i n G3 w3 with⟨stop,fin⟩|⟨go,Nx,hNx,step⟩
  ·refine thnF (T.done (X.blk t1 G1 scope ce fp) rfl rfl rfl hc i [] t3 _ G3 (λ_ _=>False) I3 (still I3 n3) st3 stop) λr t4 ⟨hr,I4⟩=>?_;subst hr;have I5:Inv X pins σ G3 t4:=I1.call' (ch:=fp) I4.os I4.base I4.hok I4.bare λb hb=>⟨(f1 b hb).1.2.2.2.1,(f1 b hb).1.2.1,(f1 b hb).1.2.2.2.2.1,(f1 b hb).1.2.2.2.2.2⟩;have nC:G3 t1.heap.objs.size=none:=by rw[←cL];exact I4.free
   obtain⟨m,hn,_⟩:=I4.loc;have hn':t4.heap.Ns t1.heap.objs.size m:=by rw[←cL];exact hn
   obtain⟨a0,a1,_,a3,a4,a5⟩:=I1.fpOk (ar9 _) nC;exact⟨m,hn',λh'' sb=>⟨.ref D,G3,I5.turned (t':=t4.toks) (λb o hb e=>(sb.2 b hb).trans e) a0 a1 a3 a4 a5,rfl,fin⟩⟩
  ·refine thnF (T.item (X.blk t1 G1 scope ce fp) rfl rfl rfl hc i [] t3 _ G3 (λ_ _=>False) I3 (still I3 n3) st3 go) λr t4 ⟨u,hr,h4⟩=>?_;subst hr;refine thnF h4 λ_ t5 ⟨x,G5,I5,r5,y5,st5,n5⟩=>?_;refine thnF (pg.run _ t5 _ G5 x u _ (I5.pinned (still I5 n5) (T.obj _ _ st5)) r5 (step x G5 y5)) λ_ t6 ⟨σ6,G6,I6,hw6,q6⟩=>?_;refine thnF (pt.run _ t6 σ6 G6 _ I6 q6) λb t7 ⟨G7,I7,q7⟩=>?_;have over:∀{t':Shared} {G':Hp},Inv (X.blk t1 G1 scope ce fp) ([]++pinsAt fp t5.heap) σ6 G' t'->Nx G'->∃m,m < n/\∃i G',Inv (X.blk t1 G1 scope ce fp) [] (wipe σ (own.map (·.2))) G' t'/\tn i t'.heap/\(∀b∈fp,G' b=none)/\W i m G':=λ{t' G'} I' nx=>by
    obtain⟨m',hm,w'⟩:=hNx G' nx;have pin:∀b∈fp,∀o,t5.heap.get? b=some o->t'.heap.get? b=some o/\G' b=none:=λb hb o e=>
     let z:=I'.pin (b,o) (asw _ (asw _ (mem_pinsAt hb e)))
     ⟨z.1,z.2.1⟩
    refine⟨m',hm,i+1,G',(I'.unpinned (pins:=[])).weak (by rw[←hw6,wipe_length]) (λj v e=>?_),T.keep _ _ _ st5 λb hb o e=>(pin b hb o e).1,λb hb=>?_,w'⟩
    ·rw[←hw6]at e;exact(wipe_some e).1
    ·obtain⟨o,e,_⟩:=T.obj _ _ st5 b hb;exact(pin b hb o e).2
   cases b with
   |false=>
    simp only[ar6,if_false]at q7 ⊢;exact over I7 q7
   |true=>
    simp only[if_true]at q7 ⊢;refine thnF (pe.run _ t7 σ6 G7 _ I7 q7) λz t8 ⟨yv,G8,I8,r8,k,S,c,ey,hD8,hz8,nx⟩=>?_;subst ey;exact add_int (X:=X.blk t1 G1 scope ce fp) I8 hD8 hz8 r8 λt9 I9=>over I9 nx
 have done:=PpSet.codeAny_compStart_set loop (T.self X.A 0 _ _ _ st2 loop);rw[hce,ht2]at done;exact done
end
section
variable{P:Program}{w:World}{A:Around}{E:Value->Shared->Prop}{s:Shared}
def nk(r:Rw):NestedKey:=.tup [.num r.1,.tup (r.2.map .num)]
theorem YS:∀a b:List Int,a.map NestedKey.num=b.map NestedKey.num->a=b
 |[],[],_=>rfl
 |[],_::_,h=>by cases h
 |_::_,[],h=>by cases h
 |x::a,y::b,h=>by
  rw[arK,arK]at h;injection h with h1 h2;injection h1 with h1;rw[h1,YS a b h2]
theorem adw{a b:Rw}(h:nk a=nk b):a=b:=by unfold nk at h;injection h with h;injection h with h1 h;injection h with h2 _;injection h1 with h1;injection h2 with h2;exact Prod.ext h1 (YS _ _ h2)
theorem TQ:∀l:List Int,NestedKey.depthAll (l.map .num)=0
 |[]=>by rw[asT,NestedKey.depthAll]
 |x::l=>by
  rw[arK,NestedKey.depthAll,NestedKey.depth,TQ l];rfl
theorem agc(r:Rw):(nk r).depth=2:=by unfold nk;rw[NestedKey.depth,NestedKey.depthAll,NestedKey.depthAll,NestedKey.depthAll,NestedKey.depth,NestedKey.depth,TQ];rfl
def oN(P:Program)(w:World):HeapKind P w Rw where
 is:=λh r a=>(nestedKind P w).is h (nk r) a
 hash:=λr=>(nestedKind P w).hash (nk r)
 draws:=λr=>(nestedKind P w).draws (nk r)
 room:=(nestedKind P w).room
 inj:=λhx hy=>adw ((nestedKind P w).inj hx hy)
 keeps:=λx ho hd hs=>(nestedKind P w).keeps x ho hd hs
 pyHash:=λhu hk h=>(nestedKind P w).pyHash hu hk h
 eqBool:=λ{A E s x y a b Q} hu hx hy h=>(nestedKind P w).eqBool hu hx hy (by
  have e:decide (nk x=nk y)=decide (x=y):=by rw[decide_eq_decide];exact⟨adw,λh=>by rw[h]⟩
  rw[e];exact h)
 quiet:=λhk h=>(nestedKind P w).quiet hk h
abbrev RI(h:Heap)(r:Rw)(a:Addr):Prop:=NestedIs h (nk r) (.ref a)/\(nk r).depth<=8
theorem Uz{h h':Heap}{r:Rw}{a:Addr}(x:RI h r a)(k:∀c o,h.get? c=some o->h'.get? c=some o):RI h' r a:=⟨NestedIs.at (λb o _ _ e _=>k b o e) _ _ x.1,x.2⟩
theorem aam{h h':Heap}{r:Rw}{a d:Addr}{o:Obj}{es:Array (Int×Value)}{ep:Nat}{t:SetTable}(x:RI h r a)(ho:h.get? d=some o)(hd:o.data=.set es ep t)(sb:Heap.SameBut d h h'):RI h' r a:=by
 refine⟨NestedIs.at (λb ob vs n hb hc=>(sb.2 b λe=>?_).trans hb) _ _ x.1,x.2⟩;subst e
 obtain rfl:ob=o:=arY (hb.symm.trans ho)
 rw[hd]at hc;cases hc
theorem JN{h:Heap}{i:Int}{v:Value}(x:NestedIs h (.num i) v)(n:Nat):ofAClassStatement n v=pure false/\hashByValue n v=pure true:=by
 cases x with
 |bool _=>cases n<;>exact⟨rfl,rfl⟩
 |int _ t=>cases n<;>exact⟨rfl,rfl⟩
theorem ZQ{h:Heap}:∀(l:List Int) (vs:List Value),NestedAll h (l.map .num) vs->∀v∈vs,∃i,NestedIs h (.num i) v
 |[],_,x,v,hv=>by
  cases x;cases hv
 |i::l,_,x,v,hv=>by
  rw[arK]at x;cases x with
  |cons x1 x2=>
   rcases arV.mp hv with e|hv
   ·exact⟨i,by rw[e];exact x1⟩
   ·exact ZQ l _ x2 v hv
theorem abM{n:Nat}{a:Addr}{o:Obj}{vs:Array Value}{m:Nat}(ho:s.heap.get? a=some o)(hc:o.cls=.type "tuple")(hd:o.data=.seq vs m)(hq:∀v∈vs.toList,∀(E:Value->Shared->Prop) (Q:Bool->Shared->Prop),Q false s->wpAny (model P w) A (ofAClassStatement n v) Q E s){Q:Bool->Shared->Prop}(q:Q false s) :
  wpAny (model P w) A (ofAClassStatement (n+1) (.ref a)) Q E s:=by
 have hT:s.TypeIs (.ref a) "tuple":=⟨o,ho,hc⟩
 unfold ofAClassStatement;refine wpAny_bind (wpAny_typeOf hT ?_)
 dsimp only
 have eq1:(("tuple" : String)=="tuple")=true:=by decide
 simp only[eq1,if_true,Bool.not_true,ar6,if_false]
 try refine wpAny_bind (wpAny_pure ?_)
 try simp only[Bool.not_true,ar6,if_false]
 refine wpAny_bind (wpAny_seqItems ho hd ?_)
 dsimp only
 refine wpAny_bind ?_;rw[←Array.forIn_toList];refine wpAny_forIn_list _ (λleft r u=>r.1=none/\u=s/\∀v∈left,v∈vs.toList) _ ?_ ?_ _ _ ⟨rfl,rfl,λv hv=>hv⟩
 ·rintro v left r u ⟨hr,rfl,hall⟩;refine wpAny_bind (hq v (hall v arM) _ _ ?_);simp only[ar6,if_false];exact wpAny_pure ⟨rfl,rfl,λy hy=>hall y (arL _ hy)⟩
 ·rintro⟨r1,r2⟩ u ⟨hr,rfl,_⟩;simp only at hr;subst hr;exact wpAny_pure q
theorem aaq{n:Nat}{a:Addr}{o:Obj}{vs:Array Value}{m:Nat}(ho:s.heap.get? a=some o)(hc:o.cls=.type "tuple")(hd:o.data=.seq vs m)(hq:∀v∈vs.toList,∀(E:Value->Shared->Prop) (Q:Bool->Shared->Prop),Q true s->wpAny (model P w) A (hashByValue n v) Q E s){Q:Bool->Shared->Prop}(q:Q true s) :
  wpAny (model P w) A (hashByValue (n+1) (.ref a)) Q E s:=by
 have hT:s.TypeIs (.ref a) "tuple":=⟨o,ho,hc⟩
 unfold hashByValue;refine wpAny_bind (wpAny_specialOf hT PySem.F.slot_tuple_hash.lookup ?_);show wpAny _ _ (seqItems? (.ref a) >>= _) _ _ s;refine wpAny_bind (wpAny_seqItems ho hd ?_);refine wpAny_bind ?_;show wpAny _ _ (forIn vs _ _) _ _ s;rw[←Array.forIn_toList];refine wpAny_forIn_list _ (λleft r u=>r.1=none/\u=s/\∀v∈left,v∈vs.toList) _ ?_ ?_ _ _ ⟨rfl,rfl,λv hv=>hv⟩
 ·rintro v left r u ⟨hr,rfl,hall⟩;refine wpAny_bind (hq v (hall v arM) _ _ ?_);simp only[Bool.not_true,ar6,if_false];exact wpAny_pure ⟨rfl,rfl,λy hy=>hall y (arL _ hy)⟩
 ·rintro⟨r1,r2⟩ u ⟨hr,rfl,_⟩;simp only at hr;subst hr;exact wpAny_pure q
theorem Ji{r:Rw}{a:Addr}(x:RI s.heap r a):(∀{Q:Bool->Shared->Prop},Q false s->wpAny (model P w) A (ofAClassStatement 8 (.ref a)) Q E s)/\∀{Q:Bool->Shared->Prop},Q true s->wpAny (model P w) A (hashByValue 8 (.ref a)) Q E s:=by
 obtain⟨x,_⟩:=x;unfold nk at x;cases x with
 | @tup _ o vs m _ ho hc hd x=>
  have items:∀v∈vs.toList,(∃i,NestedIs s.heap (.num i) v)∨∃b,v=.ref b/\∃o us k,s.heap.get? b=some o/\o.cls=.type "tuple"/\o.data=.seq us k/\∀u∈us.toList,∃i,NestedIs s.heap (.num i) u:=by
   generalize vs.toList=l at x;cases x with
   |cons x1 x=>
    cases x with
    |cons x2 x=>
     cases x;intro v hv;rcases arV.mp hv with e|hv
     ·exact Or.inl ⟨_,by rw[e];exact x1⟩
     ·have e:=arO.mp hv;cases x2 with
      |tup k1 k2 k3 k4=>exact Or.inr ⟨_,e,_,_,_,k1,k2,k3,ZQ _ _ k4⟩
  refine⟨λq=>abM ho hc hd (λv hv E' Q' q'=>?_) q,λq=>aaq ho hc hd (λv hv E' Q' q'=>?_) q⟩
  ·rcases items v hv with⟨i,y⟩|⟨b,rfl,o',us,k,k1,k2,k3,k4⟩
   ·rw[(JN y 7).1];exact wpAny_pure q'
   ·refine abM k1 k2 k3 (λu hu E2 Q2 q2=>?_) q';obtain⟨i,y⟩:=k4 u hu;rw[(JN y 6).1];exact wpAny_pure q2
  ·rcases items v hv with⟨i,y⟩|⟨b,rfl,o',us,k,k1,k2,k3,k4⟩
   ·rw[(JN y 7).2];exact wpAny_pure q'
   ·refine aaq k1 k2 k3 (λu hu E2 Q2 q2=>?_) q';obtain⟨i,y⟩:=k4 u hu;rw[(JN y 6).2];exact wpAny_pure q2
end
abbrev Ent:Type:=Addr×Rw
section
variable{P:Program}{w:World}{A:Around}{E:Value->Shared->Prop}{s:Shared}
def ents(hf:Rw->Int)(L:List Ent):List (Int×Value):=L.map λp=>(hf p.2,Value.ref p.1)
structure rE(hf:Rw->Int)(w:World)(h:Heap)(a:Addr)(L:List Ent)(es:Array (Int×Value))(ep:Nat)(t:SetTable):Prop where
 ob:∃o,h.get? a=some o/\o.ExactSet/\o.data=.set es ep t
 en:es.toList=ents hf L
 tab:TabOk t (L.map λp=>hf p.2)
 nd:(L.map Prod.snd).Nodup
 ky:∀p∈L,RI h p.2 p.1
 pl:t.plain=true
 ld:w.params.followText "set-order"=true∨t.led=true
 free:L.length * 5 < t.mask * 3
 few:L.length<=76
variable{hf:Rw->Int}{a:Addr}{L:List Ent}{es:Array (Int×Value)}{ep:Nat}{t:SetTable}
theorem zV(h:es.toList=ents hf L):es.size=L.length:=by rw[←asr,h];exact arU _
theorem Oe(h:es.toList=ents hf L){i:Nat}{p:Ent}(g:L[i]?=some p):es[i]?=some (hf p.2,Value.ref p.1):=by rw[←asI,h];unfold ents;rw[arT,g];rfl
theorem fits_of(h1:t.place.size=es.size)(h2:t.dummies=#[])(h3:es.size<=t.mask):t.fits es.size=true:=by unfold SetTable.fits SetTable.fill;rw[h2,arH,beq_iff_eq,ate];exact⟨h1,by show t.place.size+0<=t.mask;omega⟩
theorem rE.fits(R:rE hf w s.heap a L es ep t):t.fits es.size=true:=by have l1:=zV R.en;have l2:=R.tab.sz;rw[arU]at l2;have l3:=R.free;exact fits_of (by omega) R.tab.dm (by omega)
theorem rE.sound(R:rE hf w s.heap a L es ep t):¬t.gaveWay=true:=by unfold SetTable.gaveWay;rw[mask_odd R.tab.mok];decide
theorem alc{r:Rw}{b:Addr}{Q:Bool->Shared->Prop}(hx:RI s.heap r b){ys:List Value}(hy:∀y∈ys,∃q c,y=Value.ref c/\RI s.heap q c)(q:Q false s):wpAny (model P w) A (searchCouldBeSeen (.ref b) ys) Q E s:=by
 unfold searchCouldBeSeen;refine wpAny_bind ?_;refine wpAny_forIn_list _ (λleft r u=>r.1=none/\u=s/\∀y∈left,∃q c,y=Value.ref c/\RI s.heap q c) _ ?_ ?_ _ _ ⟨rfl,rfl,hy⟩
 ·rintro v left r u ⟨hr,rfl,hall⟩;obtain⟨q',c,rfl,hc⟩:=hall v arM;have more:∀y∈left,∃q c,y=Value.ref c/\RI u.heap q c:=λy m=>hall y (arL _ m)
  dsimp only
  by_cases hv:(b==c || (carriedByValue (.ref b)&&carriedByValue (.ref c)))=true
  ·exact wp_if_pos hv (wpAny_pure ⟨rfl,rfl,more⟩)
  ·refine wp_if_neg hv ?_;refine wpAny_bind ((oN P w).quiet hx ?_);simp only[Bool.not_true,ar6,if_false];refine wpAny_bind ((oN P w).quiet hc ?_);simp only[Bool.not_true,ar6,if_false];refine wpAny_bind ((Ji hx).1 ?_);simp only[ar6,if_false];refine wpAny_bind ((Ji hc).1 ?_);simp only[ar6,if_false];exact wpAny_pure ⟨rfl,rfl,more⟩
 ·rintro⟨r1,r2⟩ u ⟨hr,rfl,_⟩;simp only at hr;subst hr;exact wpAny_pure q
abbrev u9(m:Nat)(h:Int)(c:Nat):SetTable.Probe:=nth m (runAt m (SetTable.bits h % (m+1)) (SetTable.bits h)) c
theorem aaU(m:Nat)(h:Int)(c:Nat):(u9 m h c).dummy=none:=by
 have all:∀(n:Nat) (p:SetTable.Probe),p.dummy=none->(nth m p n).dummy=none:=by
  intro n
  induction n with
  |zero=>exact λp k=>k
  |succ n ih=>
   intro p k;refine ih (adv m p) ?_;unfold adv
   split<;>exact k
 exact all c _ rfl
theorem WT(m:Nat)(h:Int)(c d:Nat):nth m (u9 m h c) d=u9 m h (c+d):=(nth_add m c _ d).symm
theorem seek(R:rE hf w s.heap a L es ep t){x:Addr}{r:Rw}(hx:RI s.heap r x){h:Int}(hh:hf r=h)(hu:(oN P w).room A){N:Nat}(hN:N < 10 * SetTable.turns t.mask)(out:way t.mask (h) N∉t.place.toList)(inn:∀c,c < N->way t.mask (h) c∈t.place.toList){Q:SetFound->Shared->Prop}
  (yes:r∈L.map Prod.snd->Q (.there none) s) (no:r∉L.map Prod.snd->Q (.free (way t.mask (h) N) false) s) :
  ∀(f c:Nat) (st:Option SetTable.Probe),st.getD (t.probeStart (h))=u9 t.mask (h) c->c<=N->N - c < f->
   (∀(i:Nat) (p:Ent),L[i]?=some p->p.2=r->∃d,c<=d/\d < N/\t.place.toList[i]?=some (way t.mask (h) d))->
   wpAny (model P w) A (setSearchFrom a (.ref x) (h) true f st) Q E s:=by
 intro f
 induction f with
 |zero=>exact λ_ _ _ _ hfl _=>absurd hfl (Nat.not_lt_zero _)
 |succ f ih=>
  intro c st hst hc hfl left;obtain⟨o,ho,hex,hd⟩:=R.ob;rw[setSearchFrom_succ];refine wpAny_bind (wpAny_setState_of ho hd R.fits ?_)
  dsimp only
  refine wp_if_neg R.sound ?_
  try refine wpAny_bind (wpAny_pure ?_)
  have jAt:∀d,(nth t.mask (u9 t.mask h c) d).j=way t.mask h (c+d):=λd=>congrArg SetTable.Probe.j (WT t.mask h c d);have hashOf:∀(i:Nat) (p:Ent),L[i]?=some p->(es[i]?.map (·.1)).getD 0=hf p.2:=λi p g=>by
   rw[Oe R.en g];rfl
  have spec:=go_spec t R.tab.ris R.tab.dm (λi=>(es[i]?.map (·.1)).getD 0) h (10 * SetTable.turns t.mask) (N - c) (u9 t.mask h c) (aaU _ _ _) (by omega) (λd hdn=>by rw[jAt];exact inn (c+d) (by omega)) (by rw[jAt,as8 hc];exact out);rcases spec with⟨d,i,hdn,hi,hhi,hno,hpr⟩|⟨hno,hpr⟩
  ·have hpr':t.probe (λi=>(es[i]?.map (·.1)).getD 0) h (st.getD (t.probeStart h))=some (.candidate (way t.mask h (c+d)) i (u9 t.mask h (c+(d+1)))):=by
    rw[hst,←jAt,←WT];exact hpr
   rw[hpr']
   dsimp only
   rw[jAt]at hi;have hil:i < L.length:=by have k1:=(arJ.mp hi).1;have k2:=R.tab.sz;rw[arU]at k2;rw[asr]at k1;omega
   obtain⟨p,hp⟩:∃p,L[i]?=some p:=⟨_,arI hil⟩;have pm:=arN hp;have go:wpAny (model P w) A (searchRest a (.ref x) h true f es t (way t.mask h (c+d)) i (u9 t.mask h (c+(d+1)))) Q E s:=by
    unfold searchRest;rw[Oe R.en hp]
    dsimp only
    refine wpAny_bind (wpAny_holding ((oN P w).eqBool hu (R.ky p pm) hx ?_));refine wpAny_bind (wpAny_setState_of ho hd R.fits ?_)
    dsimp only
    by_cases same:p.2=r
    ·exact wp_if_pos (by simp[same]) (wpAny_pure (yes (arQ.mpr ⟨p,pm,same⟩)))
    ·refine wp_if_neg (by simp[same]) ?_
     try refine wpAny_bind (wpAny_pure ?_)
     rw[sameMem]
     dsimp only
     have live:t.slot (way t.mask h (c+d))=.live i:=slot_live R.tab.ris hi;simp only[if_true,live,Oe R.en hp];refine wpAny_bind (wpAny_isSame_ref_self (wpAny_bind (wpAny_pure ?_)));simp only[if_true];refine wp_if_neg (by simp[same]) ?_;refine ih (c+(d+1)) _ rfl (by omega) (by omega) λi0 p0 g0 e0=>?_;obtain⟨d0,a1,a2,a3⟩:=left i0 p0 g0 e0;refine⟨d0,?_,a2,a3⟩;by_cases c1:d0 < c+d
     ·exact absurd ((hashOf i0 p0 g0).trans ((congrArg hf e0).trans hh)) (hno (d0 - c) i0 (by omega) (by rw[jAt,as8 a1];exact a3))
     ·by_cases c2:d0=c+d
      ·rw[c2]at a3;have live0:=slot_live R.tab.ris a3;rw[live]at live0;injection live0 with ei;rw[←ei,hp]at g0;exact absurd ((congrArg Prod.snd (arY g0)).trans e0) same
      ·omega
   by_cases hl:t.led=true
   ·refine wp_if_neg (by simp[hl]) ?_
    try refine wpAny_bind (wpAny_pure ?_)
    exact go
   ·refine wp_if_pos (by simp[hl]) ?_;refine wpAny_bind (alc hx (λy hy=>?_) ?_)
    ·obtain⟨e,he,ee⟩:=arQ.mp hy;have h1:e∈es/\e.1=h:=by simpa using he
     have h2:e∈es.toList:=by simpa using h1.1
     rw[R.en]at h2;obtain⟨p2,hp2,e2⟩:=arQ.mp h2;exact⟨p2.2,p2.1,by rw[←ee,←e2],R.ky p2 hp2⟩
    ·refine wp_if_neg (by decide) ?_
     try refine wpAny_bind (wpAny_pure ?_)
     exact go
  ·have hpr':t.probe (λi=>(es[i]?.map (·.1)).getD 0) h (st.getD (t.probeStart h))=some (.empty (way t.mask h N) none):=by
    have e2:way t.mask h N=(nth t.mask (u9 t.mask h c) (N - c)).j:=by rw[jAt,as8 hc]
    rw[hst,e2];exact hpr
   rw[hpr']
   dsimp only
   refine wpAny_pure (no λhm=>?_);obtain⟨p0,m0,e0⟩:=arQ.mp hm;obtain⟨i0,hi0,e1⟩:=List.getElem_of_mem m0;have g0:L[i0]?=some p0:=by rw[arI hi0,e1]
   obtain⟨d0,a1,a2,a3⟩:=left i0 p0 g0 e0;exact hno (d0 - c) i0 (by omega) (by rw[jAt,as8 a1];exact a3) ((hashOf i0 p0 g0).trans ((congrArg hf e0).trans hh))
theorem look(R:rE hf w s.heap a L es ep t){x:Addr}{r:Rw}(hx:RI s.heap r x)(hu:(oN P w).room A){Q:SetFound->Shared->Prop}(yes:r∈L.map Prod.snd->Q (.there none) s)
  (no:∀N,r∉L.map Prod.snd->way t.mask (hf r) N∉t.place.toList->(∀c,c < N->way t.mask (hf r) c∈t.place.toList)->Q (.free (way t.mask (hf r) N) false) s):wpAny (model P w) A (setSearch a (.ref x) (hf r) true) Q E s:=by
 have hfree:=R.free;obtain⟨N,hN,out,inn⟩:=R.tab.first (by rw[arU];omega) (hf r);have small:N < 100000:=by
  have:10 * SetTable.turns t.mask<=1420:=by unfold SetTable.turns;rcases R.tab.mok with e|e|e<;>omega
  omega
 unfold setSearch;refine seek R hx rfl hu hN out inn yes (λhn=>no N hn out inn) 100000 0 none rfl (asz _) (by omega) λi p g e=>?_;have hi:(L.map λp=>hf p.2)[i]?=some (hf r):=by rw[arT,g,←e];rfl
 have hil:i < t.place.toList.length:=by have k1:=(arJ.mp g).1;have k2:=R.tab.sz;rw[arU]at k2;rw[asr];omega
 obtain⟨c,hc,ec⟩:=R.tab.before out hi (arI hil);exact⟨c,asz _,hc,by rw[arI hil,ec]⟩
end
section
variable{P:Program}{w:World}{A:Around}{E:Value->Shared->Prop}{s:Shared}{hf:Rw->Int}{a:Addr}{L:List Ent}{es:Array (Int×Value)}{ep:Nat}{t:SetTable}
theorem ags(L:List Ent)(n:Nat)(x:Addr)(r:Rw):ents hf (L.take n++(x,r)::L.drop n)=(ents hf L).take n++(hf r,Value.ref x)::(ents hf L).drop n:=by unfold ents;rw[asq,arK,List.map_take,List.map_drop]
theorem range_all(L:List Ent):(List.range L.length).filterMap (λi=>L[i]?)=L:=by
 have part:∀n,n<=L.length->(List.range n).filterMap (λi=>L[i]?)=L.take n:=by
  intro n
  induction n with
  |zero=>exact λ_=>rfl
  |succ n ih=>
   intro hn;rw[List.range_succ,List.filterMap_append,ih (by omega),List.take_add_one,arI (show n < L.length by omega)];congr 1;rw[List.filterMap_cons_some (arI (show n < L.length by omega))];rfl
 rw[part _ (ar9 _),List.take_length]
theorem aeC(h:es.toList=ents hf L){order:Array Nat}(hp:order.toList.Perm (List.range L.length)) :
  ∃M:List Ent,(order.filterMap (es[·]?)).toList=ents hf M/\M.Perm L/\(M.map λp=>hf p.2)=order.toList.map λi=>(es.map (·.1)).getD i 0:=by
 have inside:∀i∈order.toList,i < L.length:=λi hi=>List.mem_range.mp (hp.mem_iff.mp hi);refine⟨order.toList.filterMap (λi=>L[i]?),?_,?_,?_⟩
 ·have e1:(order.filterMap (es[·]?)).toList=order.toList.filterMap (λi=>es[i]?):=by
   first | rw[Array.toList_filterMap] | simp
  rw[e1];unfold ents;rw[List.map_filterMap];congr 1;funext i;rw[←asI,h];unfold ents;rw[arT]
 ·have:=hp.filterMap (λi=>L[i]?);rw[range_all]at this;exact this
 ·generalize order.toList=l at inside
  induction l with
  |nil=>rfl
  |cons i l ih=>
   have hi:=inside i arM;have e5:(es.map (·.1))[i]?=some (hf (L[i]).2):=by rw[Array.getElem?_map,Oe h (arI hi)];rfl
   rw[List.filterMap_cons_some (arI hi),arK,arK,ih λj hj=>inside j (arL _ hj),Array.getD_eq_getD_getElem?,e5];rfl
theorem amY{o:Obj}(ho:s.heap.get? a=some o)(hex:o.ExactSet)(hd:o.data=.set es ep t)(he:es.toList=ents hf L)(hsz:t.place.size=es.size)(hdm:t.dummies=#[])(hfl:es.size<=t.mask)(nd:(L.map Prod.snd).Nodup)(ky:∀p∈L,RI s.heap p.2 p.1)(pl:t.plain=true)
  (ld:w.params.followText "set-order"=true∨t.led=true) (few:L.length<=76) {wanted M:Nat} (hw:SetTable.sizeAbove wanted - 1=M) (hM:MaskOk M) (hw2:SetTable.sizeAbove wanted<=128) (hn:L.length * 5 < M * 3) {Q:Unit->Shared->Prop}
  (q:∀h' K es' ep' t',Heap.SameBut a s.heap h'->rE hf w h' a K es' ep' t'->K.Perm L->Q () { s with heap:=h' }):wpAny (model P w) A (setRelay a wanted) Q E s:=by
 have len:=zV he;obtain⟨t',order,e,hp,T,em,el,epl,ed⟩:=relaid_ok t (hs:=es.map (·.1)) (wanted:=wanted) hw hM (by rw[Array.size_map,len];omega);rw[Array.size_map,len]at hp;obtain⟨K,k1,k2,k3⟩:=aeC he hp;rw[←k3]at T;have ks:(order.filterMap (es[·]?)).size=es.size:=by rw[zV k1,k2.length_eq,len]
 rw[setRelay_eq];refine wpAny_bind (wpAny_setState_of ho hd (fits_of hsz hdm hfl) ?_)
 dsimp only
 refine wp_if_neg (by rw[sizeLine_eq];omega) ?_
 try refine wpAny_bind (wpAny_pure ?_)
 rw[e]
 dsimp only
 refine wpAny_bind ?_;refine wp_if_neg (by rw[ks];simp) ?_
 try refine wpAny_bind (wpAny_pure ?_)
 refine wpAny_pure ?_
 dsimp only
 refine wpAny_storeSet_of ho hd ?_ (by rw[ks,len,sizeLine_eq];omega);have sb:Heap.SameBut a s.heap (s.heap.update a (Obj.putSet (order.filterMap (es[·]?)) t')):=Heap.SameBut.update ..;refine q _ K (order.filterMap (es[·]?)) (ep+1) t' sb ⟨⟨_,store_at ho hd,⟨hex.1,hex.2.1,hex.2.2⟩,rfl⟩,k1,T,(k2.map Prod.snd).nodup_iff.mpr nd,λp hp=>aam (ky p (k2.mem_iff.mp hp)) ho hd sb,by rw[epl];exact pl,by rw[el];exact ld,?_,by rw[k2.length_eq];exact few⟩ k2;rw[k2.length_eq,em];exact hn
theorem ajC(R:rE hf w s.heap a L es ep t){x:Addr}{r:Rw}(hx:RI s.heap r x)(hu:(oN P w).room A)(hfew:r∉L.map Prod.snd->L.length+1<=76){Q:Bool->Shared->Prop}
  (q:∀b h' K es' ep' t',Heap.SameBut a s.heap h'->rE hf w h' a K es' ep' t'->(r∈L.map Prod.snd->K=L)->(r∉L.map Prod.snd->K.Perm ((x,r)::L))->Q b { s with heap:=h' }):wpAny (model P w) A (setAddHashed a (.ref x) (hf r)) Q E s:=by
 obtain⟨o,ho,hex,hd⟩:=R.ob;have len:=zV R.en;have hfree:=R.free;unfold setAddHashed;refine wpAny_holding ?_;rw[show(100000:Nat)=99999+1 from rfl,setAddHashedIn_succ];refine wpAny_bind (wpAny_setState_of ho hd R.fits ?_)
 dsimp only
 refine wp_if_neg (by simp[byScan,Value.scannable]) ?_
 try refine wpAny_bind (wpAny_pure ?_)
 refine wpAny_bind (look R hx hu (λhm=>?_) λN hm out inn=>?_)
 ·dsimp only
  exact wpAny_pure (q false s.heap L es ep t (Heap.SameBut.refl a s.heap) R (λ_=>rfl) λz=>absurd hm z)
 have few1:=hfew hm
 dsimp only
 refine wpAny_bind (wpAny_setState_of ho hd R.fits ?_)
 dsimp only
 obtain⟨q1,q2,q3,q4,q5,q6,q7,q8,q9⟩:=R.tab.put out inn;have pl1:(t.put (way t.mask (hf r) N)).1.plain=true:=by rw[q6];exact R.pl
 generalize hpt:t.put (way t.mask (hf r) N)=pt at q1 q3 q4 q5 q6 q7 q8 q9 pl1 ⊢;obtain⟨t1,n⟩:=pt
 dsimp only at q1 q3 q4 q5 q6 q7 q8 q9 pl1 ⊢
 subst q1
 first
  |(refine wpAny_bind ?_;refine wp_if_pos pl1 ?_;refine(Ji hx).2 ?_)
  |refine wp_if_pos pl1 (wpAny_bind ((Ji hx).2 ?_))
 simp only[if_true];have ein:(SetTable.insertAt es (SetTable.below t.place (way t.mask (hf r) N)) (hf r,Value.ref x)).toList=ents hf (L.take (SetTable.below t.place (way t.mask (hf r) N))++(x,r)::L.drop (SetTable.below t.place (way t.mask (hf r) N))):=by rw[SetTable.toList_insertAt,ags,R.en]
 generalize hnn:SetTable.below t.place (way t.mask (hf r) N)=n at q2 q3 ein ⊢;have pm:=put_perm L n (x,r);have hs1:(L.take n++(x,r)::L.drop n).map (λp=>hf p.2)=(L.map λp=>hf p.2).take n++hf r::(L.map λp=>hf p.2).drop n:=by rw[asq,arK,List.map_take,List.map_drop]
 rw[←hs1]at q3;have nd1:((L.take n++(x,r)::L.drop n).map Prod.snd).Nodup:=by refine(pm.map Prod.snd).nodup_iff.mpr ?_;rw[arK];exact ata.mpr ⟨hm,R.nd⟩
 have len1:(SetTable.insertAt es n (hf r,Value.ref x)).size=L.length+1:=by rw[zV ein,pm.length_eq];rfl
 generalize SetTable.insertAt es n (hf r,Value.ref x)=es1 at ein len1 ⊢;have lenM:(L.take n++(x,r)::L.drop n).length=L.length+1:=pm.length_eq;generalize L.take n++(x,r)::L.drop n=M at pm q3 nd1 ein lenM;refine wpAny_bind (wpAny_storeSet_of ho hd ?_ (by rw[len1,sizeLine_eq];omega));have sb:Heap.SameBut a s.heap (s.heap.update a (Obj.putSet es1 t1)):=Heap.SameBut.update ..;have ho1:=store_at (es':=es1) (t':=t1) ho hd;generalize s.heap.update a (Obj.putSet es1 t1)=h1 at sb ho1 ⊢;have ky1:∀p∈M,RI h1 p.2 p.1:=λp hp=>by
  rcases arV.mp (pm.mem_iff.mp hp) with e|m
  ·rw[e];exact aam hx ho hd sb
  ·exact aam (R.ky p m) ho hd sb
 have ld1:w.params.followText "set-order"=true∨t1.led=true:=by rw[q5];exact R.ld
 have full:t1.tooFull=true↔(L.length+1) * 5 ≥ t1.mask * 3:=by unfold SetTable.tooFull;rw[ate,q9,arU]
 by_cases hfu:t1.tooFull=true
 ·first
   |(refine wpAny_bind ?_;refine wp_if_pos (by simp[hfu]) ?_)
   |(refine wp_if_pos (by simp[hfu]) ?_;refine wpAny_bind ?_)
  have over:=full.mp hfu;rw[len];have psz:t1.place.size=es1.size:=by have:=q3.sz;rw[arU,lenM]at this;rw[this,len1]
  have which:(t.mask=7/\L.length=4)∨(t.mask=31/\L.length=18):=by
   rcases R.tab.mok with e|e|e
   ·rw[q4,e]at over;rw[e]at hfree;exact Or.inl ⟨e,by omega⟩
   ·rw[q4,e]at over;rw[e]at hfree;exact Or.inr ⟨e,by omega⟩
   ·rw[q4,e]at over;omega
  have go:∀m,SetTable.sizeAbove (SetTable.grown (L.length+1)) - 1=m->MaskOk m->SetTable.sizeAbove (SetTable.grown (L.length+1))<=128->(L.length+1) * 5 < m * 3->
    wpAny (model P w) A (setRelay a (SetTable.grown (L.length+1))) (λ_ u=>wpAny (model P w) A (pure true) Q E u) E { s with heap:=h1 }:=λm g1 g2 g3 g4=>
   amY (s:={ s with heap:=h1 }) ho1 ⟨hex.1,hex.2.1,hex.2.2⟩ rfl ein psz q3.dm (by rw[len1,q4];rcases which with⟨e,e2⟩|⟨e,e2⟩<;>omega) nd1 ky1 pl1 ld1 (by rw[lenM];exact few1) g1 g2 g3 (by rw[lenM];exact g4)
    λh2 K es2 ep2 t2 sb2 R2 pm2=>wpAny_pure (q true h2 K es2 ep2 t2 (sb.trans sb2) R2 (λz=>absurd z hm) λ_=>pm2.trans pm)
  rcases which with⟨_,e2⟩|⟨_,e2⟩
  ·exact go 31 (by rw[e2,size_20]) (.inr (.inl rfl)) (by rw[e2,size_20];decide) (by omega)
  ·exact go 127 (by rw[e2,size_76]) (.inr (.inr rfl)) (by rw[e2,size_76];decide) (by omega)
 ·first
   |refine wp_if_neg (by simp[hfu]) ?_
   |(refine wpAny_bind ?_;refine wp_if_neg (by simp[hfu]) ?_;refine wpAny_pure ?_)
  have under:¬(L.length+1) * 5 ≥ t1.mask * 3:=λz=>hfu (full.mpr z);exact wpAny_pure (q true h1 M es1 (ep+1) t1 sb ⟨⟨_,ho1,⟨hex.1,hex.2.1,hex.2.2⟩,rfl⟩,ein,q3,nd1,ky1,pl1,ld1,by rw[lenM];omega,by rw[lenM];exact few1⟩ (λz=>absurd z hm) λ_=>pm)
end
theorem Dy{α:Type}[DecidableEq α]:∀(l D:List α),l.Nodup->(∀x∈l,x∈D)->l.length<=D.length
 |[],_,_,_=>asz _
 |x::l,D,hn,hs=>by
  obtain⟨h1,h2⟩:=ata.mp hn;have mx:=hs x arM;have ih:=Dy l (D.erase x) h2 λy hy=>(List.mem_erase_of_ne (λe=>h1 (by rw[←e];exact hy))).2 (hs y (arL _ hy));have e:=List.length_erase_of_mem mx;have hp:=List.length_pos_of_mem mx;rw[arW];omega
structure Has(ks:List Ent)(i:Nat)(L:List Ent):Prop where
 sub:∀p∈L,p∈ks.take i
 all:∀p∈ks.take i,p.2∈L.map Prod.snd
theorem Fx{α:Type}{l:List α}{i:Nat}{x:α}(h:l[i]?=some x):l.take (i+1)=l.take i++[x]:=by rw[List.take_add_one,h];rfl
theorem Has.next{ks L K:List Ent}{i:Nat}{x:Ent}(g:Has ks i L)(h:ks[i]?=some x)(h1:x.2∈L.map Prod.snd->K=L)(h2:x.2∉L.map Prod.snd->K.Perm (x::L)):Has ks (i+1) K:=by
 by_cases c:x.2∈L.map Prod.snd
 ·rw[h1 c];refine⟨λp hp=>?_,λp hp=>?_⟩
  ·rw[Fx h];exact asv _ (g.sub p hp)
  ·rw[Fx h]at hp;rcases arR.mp hp with m|m
   ·exact g.all p m
   ·rw[arO.mp m];exact c
 ·have pm:=h2 c;refine⟨λp hp=>?_,λp hp=>?_⟩
  ·rw[Fx h];rcases arV.mp (pm.mem_iff.mp hp) with e|m
   ·exact asw _ (arO.mpr e)
   ·exact asv _ (g.sub p m)
  ·rw[(pm.map Prod.snd).mem_iff,arK];rw[Fx h]at hp;rcases arR.mp hp with m|m
   ·exact arL _ (g.all p m)
   ·rw[arO.mp m];exact arM
def Aa(w:World):Obj:={ cls:=.type "set",dict:=none,data:=.set #[] 0 (.fresh 0 0 (!w.params.followText "set-order")) }
section
variable{P:Program}{w:World}{A:Around}{E:Value->Shared->Prop}{s:Shared}{hf:Rw->Int}
theorem rE.stay{h h':Heap}{a:Addr}{L:List Ent}{es:Array (Int×Value)}{ep:Nat}{t:SetTable}(R:rE hf w h a L es ep t)(ha:∀o,h.get? a=some o->h'.get? a=some o)(hk:∀p∈L,RI h' p.2 p.1):rE hf w h' a L es ep t:=by obtain⟨o,ho,r⟩:=R.ob;exact⟨⟨o,ha o ho,r⟩,R.en,R.tab,R.nd,hk,R.pl,R.ld,R.free,R.few⟩
theorem af2{h:Heap}{a:Addr}(ho:h.get? a=some (Aa w)):rE hf w h a [] #[] 0 (.fresh 0 0 (!w.params.followText "set-order")):=by
 refine⟨⟨_,ho,⟨rfl,rfl,rfl⟩,rfl⟩,rfl,⟨List.Pairwise.nil,rfl,rfl,.inl rfl,λx hx=>(by cases hx),λi h j hi=>(by simp at hi)⟩,List.nodup_nil,λp hp=>(by cases hp),rfl,?_,(show 0 * 5 < 7 * 3 by decide),asz _⟩;show _∨(!w.params.followText "set-order")=true
 cases w.params.followText "set-order"
 ·exact .inr rfl
 ·exact .inl rfl
theorem ai3(hhf:∀r,(oN P w).hash r=hf r){I:Addr}{fp wr:List Addr}{G:Array GenState->Array GenState->Prop}{n:Nat}{Pv:Nat->Value->Prop}{St:Nat->Shared->Prop}{R:Result->Shared->Prop}(W:WalksS P w A.in1 I fp wr G n Pv St)(S:Addr)(hSf:S∉fp)(ks:List Ent)(hn:n=ks.length)
  (D:List Rw) (hD:D.length<=76) (hkD:∀p∈ks,p.2∈D) (hval:∀i v,Pv i v->∃p,ks[i]?=some p/\v=.ref p.1) (h0:Heap) (hk:∀p∈ks,RI h0 p.2 p.1) (hS0:h0.get? S=none) (hw0:∀b∈wr,h0.get? b=none) (hu:(oN P w).room A.in1) :
  ∀(m i:Nat) (s:Shared),n - i=m->i<=n->St i s->(∀b o,h0.get? b=some o->s.heap.get? b=some o)->(∃L es ep t,rE hf w s.heap S L es ep t/\Has ks i L)->
   (∀u L es ep t,Moved (S::wr) G s u->rE hf w u.heap S L es ep t->Has ks n L->(∀b o,h0.get? b=some o->u.heap.get? b=some o)->R (.ok (.ret .none)) u)->
   codeAny (model P w) A (.builtin "set.update.loop" ⟨[.ref S,.ref I],[]⟩) R s:=by
 have Sw:S∉wr:=λh=>hSf (W.sub _ h);have wS:∀b∈wr,b∈S::wr:=λb hb=>arL _ hb;have old:∀{s u:Shared},Moved wr G s u->(∀b o,h0.get? b=some o->s.heap.get? b=some o)->∀b o,h0.get? b=some o->u.heap.get? b=some o:=λhm hkp b o e=>hm.heap b o (λhb=>by rw[hw0 b hb]at e;cases e) (hkp b o e);intro m
 induction m with
 |zero=>
  intro i s hm0 hi hst hkp ⟨L,es,ep,t,hS,g⟩ hR
  obtain rfl:i=n:=by omega
  refine codeAny_builtin PyProof.Rows.F.entry_set_update_loop ?_;rw[Around.under_plainId PyProof.Rows.F.plain_set_update_loop _];refine wpAny_bind (W.done s _ _ hst λu hm=>?_);have kept:=old hm hkp;exact wpAny_pure (hR u L es ep t (hm.mono wS) (hS.stay (λo e=>hm.heap S o Sw e) λp hp=>Uz (hk p (asS (g.sub p hp))) kept) g kept)
 |succ m ih=>
  intro i s hm0 hi hst hkp ⟨L,es,ep,t,hS,g⟩ hR;have hlt:i < n:=by omega
  refine codeAny_builtin PyProof.Rows.F.entry_set_update_loop ?_;rw[Around.under_plainId PyProof.Rows.F.plain_set_update_loop _];refine wpAny_bind (W.item i s _ _ hlt hst λv u hP hst' hm=>?_);obtain⟨p,hp,rfl⟩:=hval i v hP;have kept:=old hm hkp;have hS':rE hf w u.heap S L es ep t:=hS.stay (λo e=>hm.heap S o Sw e) λq hq=>Uz (hk q (asS (g.sub q hq))) kept;have hx:RI u.heap p.2 p.1:=Uz (hk p (arN hp)) kept;refine wpAny_bind (wpAny_holding ?_);unfold setAdd;refine wpAny_holding ?_;refine wpAny_bind ((oN P w).pyHash hu hx ?_);rw[hhf];have inD:∀y∈L.map Prod.snd,y∈D:=λy hy=>by
   obtain⟨q,hq,e⟩:=arQ.mp hy;rw[←e];exact hkD q (asS (g.sub q hq))
  refine ajC (s:={ u with toks:=u.toks+(oN P w).draws p.2 }) hS' hx hu (λhnew=>?_) λb h' K es' ep' t' sb hS2 c1 c2=>?_
  ·have:=Dy (p.2::L.map Prod.snd) D (ata.mpr ⟨hnew,hS.nd⟩) λy hy=>by
    rcases arV.mp hy with e|hy
    ·rw[e];exact hkD p (arN hp)
    ·exact inD y hy
   rw[arW,arU]at this;omega
  have kept2:∀b o,h0.get? b=some o->h'.get? b=some o:=λb o e=>(sb.2 b (λz=>by rw[z,hS0]at e;cases e)).trans (kept b o e);refine wpAny_pure ⟨plainId_quiet PyProof.Rows.F.plain_set_update_loop _,ih (i+1) _ (by omega) hlt (W.frame _ u _ _ hst' (Nat.le_add_right _ _) λb hb o e=>?_) kept2 ⟨K,es',ep',t',hS2,g.next hp c1 c2⟩ λv L2 es2 ep2 t2 hm2 hS3 g3 k3=>?_⟩
  ·rw[sb.2 b (λh:b=S=>hSf (by rw[←h];exact hb))];exact e
  ·refine hR v L2 es2 ep2 t2 (Moved.trans W.gtrans ((hm.mono wS).then_heap (Nat.le_add_right _ _) λb o hb e=>?_) hm2) hS3 g3 k3;rw[sb.2 b (λh:b=S=>hb (by rw[h];exact arM))];exact e
set_option maxHeartbeats 4000000 in
theorem aa1(hhf:∀r,(oN P w).hash r=hf r){l:Addr}{items:Array Value}(ks:List Ent)(D:List Rw)(hD:D.length<=76)(hkD:∀p∈ks,p.2∈D){Q:Value->Shared->Prop}(hh:A.handled=none)(hl:s.heap.IsList l items)(hit:items.toList=ks.map λp=>Value.ref p.1)
  (hk:∀p∈ks,RI s.heap p.2 p.1) (hu:A.units+3+8 < cLine)
  (h:∀(h':Heap) (tk:Nat) L es ep t,rE hf w h' s.heap.objs.size L es ep t->Has ks ks.length L->(∀b o,s.heap.get? b=some o->h'.get? b=some o)->Q (.ref s.heap.objs.size) { s with heap:=h',toks:=tk }) :
  wpAny (model P w) A (call (.type "set") [.ref l]) Q E s:=by
 have isz:items.size=ks.length:=by rw[←asr,hit,arU]
 obtain⟨cc,tl,hmro⟩:=PySem.F.called_set.mro;have hmade:=PySem.F.called_set.made;have hsub:=PySem.F.called_set.sub;refine wpAny_call (codeAny_of_tree ?_);show wpAny _ _ (callAny (.type "set") _) _ _ _
 refine wpAny_pure ⟨Code.quiet_builtin _ (by decide +kernel),codeAny_builtin PySem.F.entry_type_call ?_⟩;rw[Around.under_plain (weight_type_call_type "set" [.ref l] []) rfl]
 have nt:=PySem.F.called_set.notType;have cr:=PySem.F.called_set.canCreate;have hct:=PySem.F.typeCall_set_1 (.ref l)
 (repeat (any_goals first | assumption | wp_step))
 refine codeAny_mono (code_set_led1 (.ref l) (E:=E) (Q₁:=λv u=>v=.ref s.heap.objs.size/\u={ s with heap:=s.heap.push (Aa w) }) ⟨rfl,rfl⟩) λr u hr=>?_;cases r with
 |error e=>exact hr
 |ok fl=>
  cases fl with
  |ret v=>
   obtain⟨rfl,rfl⟩:=hr;have hS:(s.heap.push (Aa w)).get? s.heap.objs.size=some (Aa w):=Heap.get?_push_size _ rfl;have hT:Shared.TypeIs { s with heap:=s.heap.push (Aa w) } (.ref s.heap.objs.size) "set":=⟨_,hS,rfl⟩
   have hli:=PySem.F.called_set.init.lookup;have hbi:=PySem.F.called_set.init.bind (.ref s.heap.objs.size)
   (repeat (any_goals first | assumption | wp_step))
   refine codeAny_mono (codeAny_call_builtin (R:=wants (λr u=>r=.none/\∃h' tk L es ep t,u={ s with heap:=h',toks:=tk }/\rE hf w h' s.heap.objs.size L es ep t/\Has ks ks.length L/\∀b o,s.heap.get? b=some o->h'.get? b=some o) E) PySem.F.called_set.init.plain PySem.F.entry_set_init (check_set_init_1 hT ?_)) λr₂ u₂ hr₂=>?_
   ·obtain⟨ol,hol,hcl,nl,hdl⟩:=hl;obtain⟨ocls,odict,odata,oslots⟩:=ol;simp only at hcl hdl;subst hcl;subst hdl;have hol':(s.heap.push (Aa w)).get? l=some { cls:=.type "list",dict:=odict,data:=.seq items nl,slots:=oslots }:=Heap.get?_push_of_some _ hol
    have sl1:=PySem.F.sub_list_set;have sl2:=PySem.F.sub_list_frozenset;have nd:(Value.type "list"==Value.type "dict")=false:=by decide
    have hl1:(s.heap.push (Aa w)).IsList l items:=⟨_,hol',rfl,nl,rfl⟩;unfold Builtin.«set.__init__» noKeywords Builtin.Frozenset.updateFrom;generalize hPI:pyIter=PI
    wp_walk
    subst hPI;refine wpAny_pyIter_list hl1 ?_;refine wpAny_bind (wpAny_runValue ?_);have lS:l < s.heap.objs.size:=Heap.lt_size hol;have h3:A.in1.in1.in1.handled=none:=by simp[hh]
    have sz1:(s.heap.push (Aa w)).objs.size=s.heap.objs.size+1:=Heap.size_push ..;have lI:l≠(s.heap.push (Aa w)).objs.size:=by rw[sz1];exact asu (asO lS)
    have Sf:s.heap.objs.size∉[(s.heap.push (Aa w)).objs.size,l]:=by rw[sz1];simp only[arV,asp,or_false,not_or];exact⟨asu (Nat.lt_succ_self _),Nat.ne_of_gt lS⟩
    have hval:∀(i:Nat) (v:Value),items[i]?=some v->∃p,ks[i]?=some p/\v=.ref p.1:=λi v hv=>by
     rw[←asI,hit,arT]at hv;obtain⟨p,g1,g2⟩:=aso.mp hv;exact⟨p,g1,g2.symm⟩
    have fresh:∀b,s.heap.objs.size<=b->s.heap.get? b=none:=λb hb=>by
     cases q:s.heap.get? b with
     |none=>rfl
     |some o=>exact absurd (Heap.lt_size q) (Nat.not_lt_of_le hb)
    refine ai3 hhf ((Walks.list h3 _ l lI items).toS) s.heap.objs.size Sf ks isz D hD hkD hval s.heap hk (fresh _ (ar9 _)) (λb hb=>fresh b (by rw[arO.mp hb,sz1];exact Nat.le_succ _)) hu (items.size - 0) 0 _ (by omega) (asz _)
     ⟨⟨_,Heap.get?_push_size _ rfl,rfl,rfl⟩,(hl1.push _)⟩ (λb o e=>Heap.get?_push_of_some _ (Heap.get?_push_of_some _ e)) ⟨[],#[],0,_,af2 (Heap.get?_push_of_some _ hS),⟨λp hp=>(by cases hp),λp hp=>(by simp at hp)⟩⟩ λu L es ep t hm hS' g' kp=>?_
    obtain⟨h',g2,d',tk',os'⟩:=u;have eg:g2=s.gens:=hm.gens;have ed:d'=s.drawn:=hm.drawn;have eo:os'=s.os:=hm.os;subst eg;subst ed;subst eo;refine wpAny_pure ?_;rw[isz]at g';exact wpAny_pure ⟨rfl,h',tk',L,es,ep,t,rfl,hS',g',kp⟩
   ·cases r₂ with
    |error e=>exact hr₂
    |ok fl₂=>
     cases fl₂ with
     |ret r=>
      obtain⟨rfl,h',tk,L,es,ep,t,rfl,hS',g',hk'⟩:=hr₂
      (repeat (any_goals first | assumption | wp_step))
      exact h _ _ _ _ _ _ hS' g' hk'
     |_=>exact hr₂.elim
  |_=>exact hr.elim
end
def acw(w:World)(h:Heap)(a:Addr)(L:List Ent):Prop:=∃(hf:Rw->Int) (es:Array (Int×Value)) (ep:Nat) (t:SetTable),(∃o,h.get? a=some o/\o.ExactSet/\o.data=.set es ep t)/\es.toList=ents hf L/\t.fits es.size=true/\Ris t.place.toList/\(w.params.followText "set-order"=true∨t.led=true)
def Og(w:World)(a:Addr)(L:List Ent):HO:=.ext λh=>acw w h a L
section
variable{X:Cx}
theorem Xj{P:Program}{w:World}{h:Heap}:∀(l:List Int) (us:List Value),Vals (l.map V.int) us->NestedAll h (l.map .num) us
 |[],_,.nil=>.nil
 |i::l,_,.cons r t=>by
  obtain⟨tk,rfl⟩:=r;exact .cons (.int i tk) (Xj (P:=P) (w:=w) l _ t)
theorem V7:∀{ks:List Ent} {us:List Value},Vals (ks.map λp=>V.ref p.1) us->us=ks.map λp=>Value.ref p.1
 |[],_,.nil=>rfl
 |p::ks,_,.cons r t=>by
  cases r;rw[V7 t];rfl
theorem Xi{L:List Ent}:∀(out:List Value) (M:List Rw),PySem.W.EachIs (λv (r:Rw)=>∃p∈L,v=Value.ref p.1/\r=p.2) out M->∃ys:List V,Vals ys out/\fD (λv (r:Rw)=>∃p∈L,v=V.ref p.1/\r=p.2) ys M
 |[],[],.nil=>⟨[],.nil,fD.nil⟩
 |_::out,_::M,.cons ⟨p,hp,e1,e2⟩ k=>by
  obtain⟨ys,h1,h2⟩:=Xi out M k;subst e1 e2;refine⟨.ref p.1::ys,.cons rfl h1,by rw[arW,arW,h2.1],λj u y g1 g2=>?_⟩;cases j with
  |zero=>
   cases g1;cases g2;exact⟨p,hp,rfl,rfl⟩
  |succ j=>exact h2.2 j u y g1 g2
end
def gF(da dc:Addr):List (Str×V):=putF ("circles" : Str) (.ref dc) (putF ("allowances" : Str) (.ref da) [])
structure afJ(C:Addr)(H:Hp)(p da dc:Addr)(al:List Int)(ci:List (List Int)):Prop where
 ob:∃dx,H p=some (.ins C dx (gF da dc))
 la:H da=some (.lst (al.map V.int))
 lc:∃us,H dc=some (.lst us)/\fD (Jp H) us ci
 ne:da≠dc
theorem afJ.mono{C:Addr}{H H':Hp}(e:Ex H H'){p da dc:Addr}{al:List Int}{ci:List (List Int)}(g:afJ C H p da dc al ci):afJ C H' p da dc al ci:=by obtain⟨⟨dx,ob⟩,la,⟨us,h1,h2⟩,ne⟩:=g;exact⟨⟨dx,e _ _ ob⟩,e _ _ la,⟨us,e _ _ h1,h2.imp λ_ _ r=>r.mono e⟩,ne⟩
end Ear
namespace Rf
open PySem PySem.Spec PyProof.Rows L2 Evl
abbrev obj(h:Nat):Dat:=PyData.dict [(PyData.none,PyData.int (Int.ofNat h))]
inductive jm where
 |dat (d:Dat)|lst (n:Nat) (xs:List Dat)|dic (n:Bool) (kvs:List (Dat×Dat))
structure aR where
 f:Str->Option Addr
 fl:Str->List Str
 w:World
instance:CoeFun aR λ_=>Str->Option Addr:=⟨aR.f⟩
structure Inst where
 cls:Str
 fs:List (Str×jm)
abbrev Mo:=List Inst
inductive Cell where
 |dat (d:Dat)|mut (xs:List Dat)
abbrev Env:=List (Option Cell)
structure dR where
 cls:Str
 fs:List (Str×Dat)
inductive Out(α:Type) where
 |ok (a:α)|exc (x:dR)|bad
inductive bf(α:Type) where
 |ok (a:α) (M:Mo)|exc (x:dR) (M:Mo)|bad
inductive vq where
 |next (Z:Env) (M:Mo)|ret (d:Dat) (M:Mo)|brk (Z:Env) (M:Mo)|cont (Z:Env) (M:Mo)|exc (x:dR) (Z:Env) (M:Mo)|bad
structure Gh where
 tbl:List Addr
 ow:Addr->Option (Nat×Str)
 Lc:Addr->Prop
 Lo:Addr->Prop
def Gh.W(g:Gh)(a:Addr):Prop:=a∈g.tbl∨g.ow a≠none
def Gh.A(g:Gh)(a:Addr):Prop:=g.W a∨g.Lc a∨g.Lo a
def Ju:HO->Prop
 |.tup _=>False
 |.frz _ _=>False
 |_=>True
def anH(K:arG)(a:Addr)(xs:List V):Prop:=∃(o:Obj) (its:Array Value) (n:Nat),K.lookup a=some o/\o.cls=.type "list"/\o.dict=none/\o.data=.seq its n/\its.size<=sizeLine/\Vals xs its.toList
def Qw(K:arG)(g:Gh)(H:Hp)(a:Addr)(xs:List V):Prop:=(Rd H a (.lst xs)/\¬g.A a)∨anH K a xs
theorem Qw.sq{K:arG}{g:Gh}{H:Hp}{a:Addr}{xs:List V}(h:Qw K g H a xs):SqL K H a xs:=h.elim (λz=>.inl z.1) .inr
mutual
inductive Rep(K:arG)(g:Gh)(H:Hp):V->Dat->Prop
 |non:Rep K g H .non .none
 |bl (b:Bool):Rep K g H (.bl b) (.bool b)
 |int (i:Int):Rep K g H (.int i) (.int i)
 |str (x:Str):Rep K g H (.str x) (.str x)
 |tup {a:Addr} {xs:List V} {ds:List Dat}:SqT K H a xs->aM K g H xs ds->Rep K g H (.ref a) (.tuple ds)
 |lst {a:Addr} {xs:List V} {ds:List Dat}:Qw K g H a xs->aM K g H xs ds->Rep K g H (.ref a) (.list ds)
 |obj {a:Addr} {h:Nat}:g.tbl[h]?=some a->Rep K g H (.ref a) (obj h)
inductive aM(K:arG)(g:Gh)(H:Hp):List V->List Dat->Prop
 |nil:aM K g H [] []
 |cons {v:V} {vs:List V} {d:Dat} {ds:List Dat}:Rep K g H v d->aM K g H vs ds->aM K g H (v::vs) (d::ds)
end
structure Kd(g:Gh)(H:Hp):Prop where
 ob:∀a,g.A a->∃o,H a=some o/\Ju o
 lo:∀a,g.Lo a->¬g.W a
 lc:∀a,g.Lc a->¬g.W a/\¬g.Lo a
structure Gr(q:Bool)(g g':Gh)(H H':Hp):Prop where
 keep:∀a o,H a=some o->¬g.W a->¬g.Lo a->H' a=some o
 keepW:q=true->∀a o,H a=some o->g.W a->H' a=some o
 dom:∀a,H' a=none->H a=none
 tbl:∃more,g'.tbl=g.tbl++more
 W:∀a,g.W a->g'.W a
 nW:∀a,g'.W a->g.W a∨H a=none
 qg:q=true->g'.tbl=g.tbl/\g'.ow=g.ow
 Lc:g'.Lc=g.Lc
 Lo:∀a,g.Lo a->g'.Lo a
 nLo:∀a,g'.Lo a->g.Lo a∨H a=none
section
variable{K:arG}{q:Bool}{g g' g2:Gh}{H H' H2:Hp}{v:V}{d:Dat}
theorem Gr.refl:Gr q g g H H:=⟨λ_ _ h _ _=>h,λ_ _ _ h _=>h,λ_ h=>h,⟨[],by simp⟩,λ_ h=>h,λ_ h=>.inl h,λ_=>⟨rfl,rfl⟩,rfl,λ_ h=>h,λ_ h=>.inl h⟩
theorem yM(e:Ex H H'):∀a,H' a=none->H a=none:=λa h=>by
 cases h1:H a with
 |none=>rfl
 |some o=>
  rw[e a o h1]at h;cases h
theorem Gr.ex(e:Ex H H'):Gr q g g H H':=⟨λa o h _ _=>e a o h,λ_ a o h _=>e a o h,yM e,⟨[],by simp⟩,λ_ h=>h,λ_ h=>.inl h,λ_=>⟨rfl,rfl⟩,rfl,λ_ h=>h,λ_ h=>.inl h⟩
theorem Gr.trans(a:Gr q g g' H H')(b:Gr q g' g2 H' H2):Gr q g g2 H H2 where
 keep:=λx o h nw nl=>by
  have h1:=a.keep x o h nw nl;refine b.keep x o h1 (λz=>?_) (λz=>?_)
  ·rcases a.nW x z with z|z
   ·exact nw z
   ·rw[h]at z;cases z
  ·rcases a.nLo x z with z|z
   ·exact nl z
   ·rw[h]at z;cases z
 keepW:=λhq x o h w=>b.keepW hq x o (a.keepW hq x o h w) (a.W x w)
 dom:=λx h=>a.dom x (b.dom x h)
 tbl:=by obtain⟨m1,e1⟩:=a.tbl;obtain⟨m2,e2⟩:=b.tbl;exact⟨m1++m2,by rw[e2,e1,List.append_assoc]⟩
 W:=λx h=>b.W x (a.W x h)
 nW:=λx h=>by
  rcases b.nW x h with z|z
  ·exact a.nW x z
  ·exact .inr (a.dom x z)
 qg:=λhq=>by
  obtain⟨e1,e2⟩:=a.qg hq;obtain⟨f1,f2⟩:=b.qg hq;exact⟨f1.trans e1,f2.trans e2⟩
 Lc:=b.Lc.trans a.Lc
 Lo:=λx h=>b.Lo x (a.Lo x h)
 nLo:=λx h=>by
  rcases b.nLo x h with z|z
  ·exact a.nLo x z
  ·exact .inr (a.dom x z)
theorem Gr.loud(a:Gr q g g' H H'):Gr false g g' H H':=⟨a.keep,(λh=>nomatch h),a.dom,a.tbl,a.W,a.nW,(λh=>nomatch h),a.Lc,a.Lo,a.nLo⟩
theorem Gr.nA(r:Gr q g g' H H'){a:Addr}{o:HO}(h:H a=some o)(n:¬g.A a):¬g'.A a:=λz=>by
 rcases z with z|z|z
 ·rcases r.nW a z with z|z
  ·exact n (.inl z)
  ·rw[h]at z;cases z
 ·rw[r.Lc]at z;exact n (.inr (.inl z))
 ·rcases r.nLo a z with z|z
  ·exact n (.inr (.inr z))
  ·rw[h]at z;cases z
theorem Gr.rd(r:Gr q g g' H H'){a:Addr}{o:HO}(h:Rd H a o)(n:¬g.A a):Rd H' a o/\¬g'.A a:=by
 rcases h with h|⟨z,h⟩
 ·exact⟨.inl (r.keep a _ h (λw=>n (.inl w)) λw=>n (.inr (.inr w))),r.nA h n⟩
 ·exact⟨.inr ⟨z,r.keep a _ h (λw=>n (.inl w)) λw=>n (.inr (.inr w))⟩,r.nA h n⟩
theorem Kd.tup(k:Kd g H){a:Addr}{xs:List V}(h:Rd H a (.tup xs)):¬g.A a:=λz=>by
 obtain⟨o,e,m⟩:=k.ob a z;rcases h with h|⟨y,h⟩<;>(rw[h]at e;cases e;exact m)
theorem Gr.sqT(r:Gr q g g' H H')(k:Kd g H){a:Addr}{xs:List V}(h:SqT K H a xs):SqT K H' a xs:=by
 rcases h with h|h
 ·exact .inl (r.rd h (k.tup h)).1
 ·exact .inr h
theorem Gr.ls(r:Gr q g g' H H'){a:Addr}{xs:List V}(h:Qw K g H a xs):Qw K g' H' a xs:=by
 rcases h with⟨h,n⟩|h
 ·exact .inl (r.rd h n)
 ·exact .inr h
theorem Gr.tb(r:Gr q g g' H H'){h:Nat}{a:Addr}(e:g.tbl[h]?=some a):g'.tbl[h]?=some a:=by obtain⟨m,em⟩:=r.tbl;rw[em,arS (arJ.mp e).1];exact e
mutual
theorem Rep.gr(r:Gr q g g' H H')(k:Kd g H):∀{v:V} {d:Dat},Rep K g H v d->Rep K g' H' v d
 |_,_,.non=>.non
 |_,_,.bl b=>.bl b
 |_,_,.int i=>.int i
 |_,_,.str x=>.str x
 |_,_,.tup h t=>.tup (r.sqT k h) (aM.gr r k t)
 |_,_,.lst h t=>.lst (r.ls h) (aM.gr r k t)
 |_,_,.obj h=>.obj (r.tb h)
theorem aM.gr(r:Gr q g g' H H')(k:Kd g H):∀{vs:List V} {ds:List Dat},aM K g H vs ds->aM K g' H' vs ds
 |_,_,.nil=>.nil
 |_,_,.cons h t=>.cons (Rep.gr r k h) (aM.gr r k t)
end
mutual
theorem Rep.less(e:g'.tbl=g.tbl)(n:∀a,g'.A a->g.A a):∀{v:V} {d:Dat},Rep K g H v d->Rep K g' H v d
 |_,_,.non=>.non
 |_,_,.bl b=>.bl b
 |_,_,.int i=>.int i
 |_,_,.str x=>.str x
 |_,_,.tup h t=>.tup h (aM.less e n t)
 |_,_,.lst h t=>.lst (h.elim (λz=>.inl ⟨z.1,λy=>z.2 (n _ y)⟩) .inr) (aM.less e n t)
 |_,_,.obj h=>.obj (by rw[e];exact h)
theorem aM.less(e:g'.tbl=g.tbl)(n:∀a,g'.A a->g.A a):∀{vs:List V} {ds:List Dat},aM K g H vs ds->aM K g' H vs ds
 |_,_,.nil=>.nil
 |_,_,.cons h t=>.cons (Rep.less e n h) (aM.less e n t)
end
mutual
def lf:Dat->Bool
 |.list _=>false
 |.tuple ds=>lfs ds
 |.dict _=>true
 |.none=>true
 |.bool _=>true
 |.int _=>true
 |.str _=>true
def lfs:List Dat->Bool
 |[]=>true
 |d::ds=>lf d&&lfs ds
end
mutual
theorem Rep.free(e:g'.tbl=g.tbl):∀{v:V} {d:Dat},lf d=true->Rep K g H v d->Rep K g' H v d
 |_,_,_,.non=>.non
 |_,_,_,.bl b=>.bl b
 |_,_,_,.int i=>.int i
 |_,_,_,.str x=>.str x
 |_,_,f,.tup h t=>.tup h (aM.free e (by rw[lf]at f;exact f) t)
 |_,_,f,.lst h t=>by rw[lf]at f;cases f
 |_,_,_,.obj h=>.obj (by rw[e];exact h)
theorem aM.free(e:g'.tbl=g.tbl):∀{vs:List V} {ds:List Dat},lfs ds=true->aM K g H vs ds->aM K g' H vs ds
 |_,_,_,.nil=>.nil
 |_,_,f,.cons h t=>.cons (Rep.free e (by rw[lfs,arH]at f;exact f.1) h) (aM.free e (by rw[lfs,arH]at f;exact f.2) t)
end
theorem aM.length:∀{vs:List V} {ds:List Dat},aM K g H vs ds->vs.length=ds.length
 |_,_,.nil=>rfl
 |_,_,.cons _ t=>congrArg (· + 1) t.length
theorem aM.get:∀{vs:List V} {ds:List Dat} {i:Nat} {d:Dat},aM K g H vs ds->ds[i]?=some d->∃v,vs[i]?=some v/\Rep K g H v d
 |_,_,_,_,.nil,e=>by simp at e
 |_,_,0,_,.cons h _,e=>by simp at e;subst e;exact⟨_,rfl,h⟩
 |_,_,i+1,_,.cons _ t,e=>by simpa using t.get (i:=i) (by simpa using e)
theorem aM.get':∀{vs:List V} {ds:List Dat} {i:Nat} {v:V},aM K g H vs ds->vs[i]?=some v->∃d,ds[i]?=some d/\Rep K g H v d
 |_,_,_,_,.nil,e=>by simp at e
 |_,_,0,_,.cons h _,e=>by simp at e;subst e;exact⟨_,rfl,h⟩
 |_,_,i+1,_,.cons _ t,e=>by simpa using t.get' (i:=i) (by simpa using e)
theorem aM.append:∀{vs ws:List V} {ds es:List Dat},aM K g H vs ds->aM K g H ws es->aM K g H (vs++ws) (ds++es)
 |_,_,_,_,.nil,t=>t
 |_,_,_,_,.cons h r,t=>.cons h (r.append t)
theorem aM.take:∀{vs:List V} {ds:List Dat} (n:Nat),aM K g H vs ds->aM K g H (vs.take n) (ds.take n)
 |_,_,0,_=>.nil
 |_,_,_+1,.nil=>.nil
 |_,_,n+1,.cons h t=>.cons h (t.take n)
theorem aM.drop:∀{vs:List V} {ds:List Dat} (n:Nat),aM K g H vs ds->aM K g H (vs.drop n) (ds.drop n)
 |_,_,0,t=>t
 |_,_,_+1,.nil=>.nil
 |_,_,n+1,.cons _ t=>t.drop n
theorem aM.set{v:V}{d:Dat}(r:Rep K g H v d):∀{vs:List V} {ds:List Dat} (i:Nat),aM K g H vs ds->aM K g H (vs.set i v) (ds.set i d)
 |_,_,_,.nil=>.nil
 |_,_,0,.cons _ t=>.cons r t
 |_,_,i+1,.cons h t=>.cons h (t.set r i)
theorem Gr.upd{l:Addr}{o o':HO}(k:Kd g H)(h:H l=some o)(w:(g.W l/\q=false)∨g.Lo l):Gr q g g H (L2.upd H l o') where
 keep:=λa u e nw nl=>by
  rw[upd_ne (λz=>by subst z;exact w.elim (λw=>nw w.1) nl)];exact e
 keepW:=λhq a u e wa=>by
  rcases w with w|w
  ·rw[hq]at w;cases w.2
  ·rw[upd_ne (λz=>by subst z;exact k.lo _ w wa)];exact e
 dom:=λa e=>by
  by_cases z:a=l
  ·subst z;rw[upd_same]at e;cases e
  ·rw[upd_ne z]at e;exact e
 tbl:=⟨[],by simp⟩
 W:=λ_ h=>h
 nW:=λ_ h=>.inl h
 qg:=λ_=>⟨rfl,rfl⟩
 Lc:=rfl
 Lo:=λ_ h=>h
 nLo:=λ_ h=>.inl h
theorem Kd.ex(k:Kd g H)(e:Ex H H'):Kd g H':=⟨λa z=>let ⟨o,h,m⟩:=k.ob a z;⟨o,e a o h,m⟩,k.lo,k.lc⟩
theorem Kd.upd(k:Kd g H){l:Addr}{o:HO}(m:Ju o):Kd g (L2.upd H l o):=⟨λa z=>by
 by_cases e:a=l
 ·subst e;exact⟨o,upd_same,m⟩
 ·rw[upd_ne e];exact k.ob a z,k.lo,k.lc⟩
theorem Rep.ex(e:Ex H H')(k:Kd g H)(h:Rep K g H v d):Rep K g H' v d:=h.gr (Gr.ex (q:=true) e) k
theorem aM.ex{vs:List V}{ds:List Dat}(e:Ex H H')(k:Kd g H)(h:aM K g H vs ds):aM K g H' vs ds:=h.gr (Gr.ex (q:=true) e) k
end
def keyD:Key->Dat
 |.inl i=>.int i
 |.inr x=>.str x
def iW(l:Addr)(o:Obj):HO:=.ext λh=>h.get? l=some o
abbrev nR:Type:=NestedKey×Addr×Value
def ae5(w:World)(x:nR):DictEntry:=⟨x.1.hash w,.ref x.2.1,x.2.2⟩
structure lO(w:World)(l:Addr)(o:Obj)(xs:List nR):Prop where
 sys:(l==sysModules)=false
 ex:o.ExactDict
 ent:∃es ep,o.data=.dict es ep/\es.toList=xs.map (ae5 w)
 nd:(xs.map (·.1)).Nodup
 len:xs.length<=sizeLine
 dep:∀x∈xs,x.1.depth<=8
def jH(K:arG)(aj:aR)(g:Gh)(H:Hp)(l:Addr):Bool->List (Dat×Dat)->Prop
 |false,kvs=>∃kv:List (Key×V),H l=some (.dK kv)/\kvs.map (·.1)=kv.map (λp=>keyD p.1)/\aM K g H (kv.map (·.2)) (kvs.map (·.2))
 |true,kvs=>∃(o:Obj) (xs:List nR) (vs:List V),H l=some (iW l o)/\lO aj.w l o xs/\kvs.map (·.1)=xs.map (λx=>x.1.data)/\aM K g H (xs.map λx=>V.ref x.2.1) (kvs.map (·.1))/\Vals vs (xs.map (·.2.2))/\aM K g H vs (kvs.map (·.2))
def dZ(K:arG)(aj:aR)(g:Gh)(H:Hp)(h:Nat)(f:Str)(v:V):jm->Prop
 |.dat d=>Rep K g H v d
 |.lst n xs=>∃l us,v=.ref l/\H l=some (.lst us)/\g.ow l=some (h,f)/\aM K g H us xs/\g.tbl[n]?=some l
 |.dic n kvs=>∃l,v=.ref l/\g.ow l=some (h,f)/\jH K aj g H l n kvs
inductive cQ(K:arG)(aj:aR)(g:Gh)(H:Hp)(h:Nat):List (Str×V)->List (Str×jm)->Prop
 |nil:cQ K aj g H h [] []
 |cons {f:Str} {v:V} {fl:jm} {fs:List (Str×V)} {gs:List (Str×jm)}:dZ K aj g H h f v fl->cQ K aj g H h fs gs->cQ K aj g H h ((f,v)::fs) ((f,fl)::gs)
structure gD(K:arG)(aj:aR)(g:Gh)(H:Hp)(M:Mo):Prop where
 len:g.tbl.length=M.length
 inj:∀(h k:Nat) (a:Addr),g.tbl[h]?=some a->g.tbl[k]?=some a->h=k
 ins:∀(h:Nat) (a:Addr) (i:Inst),g.tbl[h]?=some a->M[h]?=some i->i.cls≠""->∃C dx fs,aj i.cls=some C/\H a=some (.ins C dx fs)/\cQ K aj g H h fs i.fs
 nd:∀(h:Nat) (i:Inst),M[h]?=some i->(i.fs.map (·.1)).Nodup
 fd:∀(h:Nat) (i:Inst),M[h]?=some i->∀f∈i.fs.map (·.1),f∈aj.fl i.cls
 tw:∀(h:Nat) (a:Addr) (i:Inst),g.tbl[h]?=some a->M[h]?=some i->i.cls≠""->g.ow a=none
 dm:∀(h:Nat) (i:Inst),M[h]?=some i->i.cls=""->i.fs=[]
 nc:aj ""=none
structure SInv(K:arG)(aj:aR)(σ:L2.St)(H:Hp)(g:Gh)(Z:Env)(M:Mo):Prop where
 kd:Kd g H
 wok:gD K aj g H M
 len:σ.length=Z.length
 dat:∀(i:Nat) (d:Dat),Z[i]?=some (some (.dat d))->∃v,σ[i]?=some (some v)/\Rep K g H v d
 own:∀(i:Nat) (xs:List Dat),Z[i]?=some (some (.mut xs))->∃l us,σ[i]?=some (some (.ref l))/\H l=some (.lst us)/\g.Lo l/\aM K g H us xs
 sep:∀(i j:Nat) (xs ys:List Dat) (l:Addr),i≠j->Z[i]?=some (some (.mut xs))->Z[j]?=some (some (.mut ys))->σ[i]?=some (some (.ref l))->σ[j]?≠some (some (.ref l))
section
variable{K:arG}{aj:aR}{q:Bool}{g g' g2:Gh}{H H' H2:Hp}{v:V}{d:Dat}{σ:L2.St}{Z:Env}{M:Mo}
theorem jH.ex{l:Addr}:∀{n:Bool} {kvs:List (Dat×Dat)} (e:Ex H H') (k:Kd g H) (h:jH K aj g H l n kvs),jH K aj g H' l n kvs
 |false,_,e,k,⟨kv,h1,h2,h3⟩=>⟨kv,e _ _ h1,h2,h3.ex e k⟩
 |true,_,e,k,⟨o,xs,vs,h1,h2,h3,h4,h5,h6⟩=>⟨o,xs,vs,e _ _ h1,h2,h3,h4.ex e k,h5,h6.ex e k⟩
theorem dZ.ex{h:Nat}{f:Str}(e:Ex H H')(k:Kd g H):∀{fl:jm},dZ K aj g H h f v fl->dZ K aj g H' h f v fl
 |.dat _,r=>Rep.ex e k r
 |.lst _ _,⟨l,us,h1,h2,h3,h4,h5⟩=>⟨l,us,h1,e _ _ h2,h3,h4.ex e k,h5⟩
 |.dic _ _,⟨l,h1,h2,h3⟩=>⟨l,h1,h2,h3.ex e k⟩
theorem cQ.ex{h:Nat}(e:Ex H H')(k:Kd g H):∀{fs:List (Str×V)} {gs:List (Str×jm)},cQ K aj g H h fs gs->cQ K aj g H' h fs gs
 |_,_,.nil=>.nil
 |_,_,.cons r t=>.cons (dZ.ex e k r) (cQ.ex e k t)
theorem gD.ex(e:Ex H H')(k:Kd g H)(w:gD K aj g H M):gD K aj g H' M:=⟨w.len,w.inj,λh a i ha hi hc=>by
 obtain⟨C,dx,fs,c1,c2,c3⟩:=w.ins h a i ha hi hc;exact⟨C,dx,fs,c1,e _ _ c2,c3.ex e k⟩,w.nd,w.fd,w.tw,w.dm,w.nc⟩
theorem SInv.ex(e:Ex H H')(I:SInv K aj σ H g Z M):SInv K aj σ H' g Z M:=⟨I.kd.ex e,I.wok.ex e I.kd,I.len,λi d h=>by
 obtain⟨v,h1,h2⟩:=I.dat i d h;exact⟨v,h1,h2.ex e I.kd⟩,λi xs h=>by
 obtain⟨l,us,h1,h2,h3,h4⟩:=I.own i xs h;exact⟨l,us,h1,e _ _ h2,h3,h4.ex e I.kd⟩,I.sep⟩
theorem cQ.get{h:Nat}{f:Str}{fl:jm}:∀{fs:List (Str×V)} {gs:List (Str×jm)},cQ K aj g H h fs gs->gs.lookup f=some fl->∃v,fs.lookup f=some v/\dZ K aj g H h f v fl
 |_,_,.nil,e=>nomatch e
 |_,_,.cons (f:=f') (v:=v) (fl:=fl') r t,e=>by
  rw[asj]at e;rw[asj];cases hb:f==f' with
  |true=>
   rw[hb]at e;cases e;have ef:f=f':=by simpa using hb
   subst ef;exact⟨v,rfl,r⟩
  |false=>
   rw[hb]at e;exact t.get e
theorem cQ.no{h:Nat}{f:Str}:∀{fs:List (Str×V)} {gs:List (Str×jm)},cQ K aj g H h fs gs->gs.lookup f=none->fs.lookup f=none
 |_,_,.nil,_=>rfl
 |_,_,.cons (f:=f') (v:=v) (fl:=fl') r t,e=>by
  rw[asj]at e;rw[asj];cases hb:f==f' with
  |true=>
   rw[hb]at e;cases e
  |false=>
   rw[hb]at e;exact t.no e
end
def Out.bind{α β:Type}(o:Out α)(k:α->Out β):Out β:=
 match o with
 |.ok a=>k a
 |.exc x=>.exc x
 |.bad=>.bad
def Out.sat{α:Type}(o:Out α)(P:α->Prop)(E:dR->Prop):Prop:=
 match o with
 |.ok a=>P a
 |.exc x=>E x
 |.bad=>False
@[simp]theorem Out.zA {α β:Type} (a:α) (k:α->Out β):(Out.ok a).bind k=k a:=rfl
@[simp]theorem Out.aft {α β:Type} (x:dR) (k:α->Out β):(Out.exc x:Out α).bind k=.exc x:=rfl
@[simp]theorem Out.afG {α β:Type} (k:α->Out β):(Out.bad:Out α).bind k=.bad:=rfl
theorem Out.sat.bnd{α β:Type}{o:Out α}{k:α->Out β}{P:β->Prop}{E:dR->Prop}(h:(o.bind k).sat P E):o.sat (λa=>(k a).sat P E) E:=by cases o<;>exact h
theorem Out.sat.mono{α:Type}{o:Out α}{P P':α->Prop}{E E':dR->Prop}(h:o.sat P E)(hp:∀a,P a->P' a)(he:∀x,E x->E' x):o.sat P' E':=by
 cases o
 ·exact hp _ h
 ·exact he _ h
 ·exact h
def Out.when{α:Type}(b:Bool)(o:Out α):Out α:=if b=true then o else .bad
@[simp]theorem Out.Xp {α:Type} (o:Out α):Out.when true o=o:=rfl
@[simp]theorem Out.amB {α:Type} (o:Out α):Out.when false o=.bad:=rfl
theorem Out.sat.o9{α:Type}{b:Bool}{o:Out α}{P:α->Prop}{E:dR->Prop}(h:(Out.when b o).sat P E):b=true/\o.sat P E:=by
 cases b
 ·exact atd h
 ·exact⟨rfl,h⟩
inductive lE(K:arG)(g:Gh)(H:Hp):List (Str×V)->List (Str×Dat)->Prop
 |nil:lE K g H [] []
 |cons {f:Str} {v:V} {d:Dat} {fs:List (Str×V)} {gs:List (Str×Dat)}:Rep K g H v d->lE K g H fs gs->lE K g H ((f,v)::fs) ((f,d)::gs)
def rB(K:arG)(aj:aR)(g:Gh)(H:Hp)(x:dR)(c:Value)(dd:Option Addr):Prop:=
 ∃C,aj x.cls=some C/\c=.ref C/\((x.fs=[]/\dd=none)∨∃a fs,dd=some a/\H a=some (.xd fs)/\lE K g H fs x.fs)
abbrev QF:=Mo->Env->Out Dat
abbrev QT:=Mo->Env->Out Bool
abbrev QA:=Mo->Env->Out (List Dat)
section
variable(K:arG)(aj:aR)(W:WX)
def qJ(g:Gh)(H:Hp)(σ:L2.St)(x:dR):Prop:=∀H' c dd,Ex H H'->rB K aj g H' x c dd->W c dd σ H'
def tQ(f:QF):TE:=λσ H Q=>∃g Z M,SInv K aj σ H g Z M/\(f M Z).sat (λd=>∀v H',Ex H H'->Rep K g H' v d->Q v H') (qJ K aj W g H σ)
def jK(f:QT):TT:=λσ H Q=>∃g Z M,SInv K aj σ H g Z M/\(f M Z).sat (λb=>∀H',Ex H H'->Q b H') (qJ K aj W g H σ)
def OJ(f:QA):TA:=λσ H Q=>∃g Z M,SInv K aj σ H g Z M/\(f M Z).sat (λds=>∀vs H',Ex H H'->aM K g H' vs ds->Q vs H') (qJ K aj W g H σ)
end
section
variable{K:arG}{aj:aR}{W:WX}{g:Gh}{H H1:Hp}{σ:L2.St}{Z:Env}{M:Mo}
theorem qJ.ex{x:dR}(e:Ex H H1)(h:qJ K aj W g H σ x):qJ K aj W g H1 σ x:=λH' c dd e' r=>h H' c dd (e.trans e') r
theorem tQ.go{f:QF}{k:Dat->Prop}{Q:VK}(I:SInv K aj σ H g Z M)(h:(f M Z).sat k (qJ K aj W g H σ))(hk:∀d v H',k d->Ex H H'->Rep K g H' v d->Q v H'):tQ K aj W f σ H Q:=
 ⟨g,Z,M,I,h.mono (λd hd v H' e r=>hk d v H' hd e r) λ_ z=>z⟩
theorem jK.go{f:QT}{k:Bool->Prop}{Q:Bool->Hp->Prop}(I:SInv K aj σ H g Z M)(h:(f M Z).sat k (qJ K aj W g H σ))(hk:∀b H',k b->Ex H H'->Q b H'):jK K aj W f σ H Q:=
 ⟨g,Z,M,I,h.mono (λd hd H' e=>hk d H' hd e) λ_ z=>z⟩
theorem OJ.go{f:QA}{k:List Dat->Prop}{Q:List V->Hp->Prop}(I:SInv K aj σ H g Z M)(h:(f M Z).sat k (qJ K aj W g H σ))(hk:∀ds vs H',k ds->Ex H H'->aM K g H' vs ds->Q vs H'):OJ K aj W f σ H Q:=
 ⟨g,Z,M,I,h.mono (λd hd v H' e r=>hk d v H' hd e r) λ_ z=>z⟩
end
def QE(aj:aR)(X:Cx)(W:WX)(e:Expr)(f:QF):Prop:=PE X e (tQ X.K aj W f)
def tH(aj:aR)(X:Cx)(W:WX)(e:Expr)(f:QT):Prop:=PT X e (jK X.K aj W f)
def GJ(aj:aR)(X:Cx)(W:WX)(es:List Expr)(f:QA):Prop:=PA X es (OJ X.K aj W f)
theorem PE.weak{X:Cx}{e:Expr}{t t':TE}(h:PE X e t)(k:∀σ H Q,t' σ H Q->t σ H Q):PE X e t':=⟨λpins s σ H Q I q=>h.run pins s σ H Q I (k σ H Q q)⟩
theorem PT.weak{X:Cx}{e:Expr}{t t':TT}(h:PT X e t)(k:∀σ H Q,t' σ H Q->t σ H Q):PT X e t':=⟨λpins s σ H Q I q=>h.run pins s σ H Q I (k σ H Q q)⟩
theorem PA.weak{X:Cx}{e:List Expr}{t t':TA}(h:PA X e t)(k:∀σ H Q,t' σ H Q->t σ H Q):PA X e t':=⟨λpos pins s σ H Q I q=>h.run pos pins s σ H Q I (k σ H Q q)⟩
def aq(i:Nat):QF:=λ_ Z=>match Z[i]? with
 |some (some (.dat d))=>.ok d
 |_=>.bad
def qC(d:Dat):QF:=λ_ _=>.ok d
def aA(o:Dat->Dat->Out Dat)(a b:QF):QF:=λM Z=>(a M Z).bind λx=>(b M Z).bind λy=>o x y
def eZ(o:Dat->Out Dat)(a:QF):QF:=λM Z=>(a M Z).bind o
def au:QA:=λ_ _=>.ok []
def ak(a:QF)(r:QA):QA:=λM Z=>(a M Z).bind λx=>(r M Z).bind λxs=>.ok (x::xs)
def bO(r:QA):QF:=λM Z=>(r M Z).bind λxs=>Out.when (decide (xs.length<=100000)) (.ok (.tuple xs))
def Dh(r:QA):QF:=λM Z=>(r M Z).bind λxs=>Out.when (decide (xs.length<=100000)) (.ok (.list xs))
section
variable{X:Cx}{aj:aR}{W:WX}{a b:Expr}{fa fb:QF}{pos:Pos}
theorem alK{i:Nat}{x:Str}(hN:X.N[i]?=some x)(hv:Vis X.env.scope x)(hd:(x==("__debug__" : Str))=false)(hcd:(x==("__classdict__" : Str))=false):QE aj X W (.Name x pos) (aq i):=
 PE.weak (pe_var hN hv hd hcd) λσ H Q ⟨g,Z,M,I,h⟩=>by
  unfold aq at h;split at h
  ·next d e=>
   obtain⟨v,h1,h2⟩:=I.dat i d e;exact⟨v,h1,h v H (Ex.refl H) h2⟩
  ·exact atd h
theorem akR{i:Int}{j:Nat}:QE aj X W (.Constant (.int i) j pos) (qC (.int i)):=PE.weak pe_int λσ H Q ⟨g,Z,M,I,h⟩=>h _ H (Ex.refl H) (.int i)
theorem aj3{x:Str}{j:Nat}:QE aj X W (.Constant (.str x) j pos) (qC (.str x)):=PE.weak pe_str λσ H Q ⟨g,Z,M,I,h⟩=>h _ H (Ex.refl H) (.str x)
theorem al4{x:Bool}{j:Nat}:QE aj X W (.Constant (.bool x) j pos) (qC (.bool x)):=PE.weak pe_bl λσ H Q ⟨g,Z,M,I,h⟩=>h _ H (Ex.refl H) (.bl x)
theorem ajq{j:Nat}:QE aj X W (.Constant .none j pos) (qC .none):=PE.weak pe_non λσ H Q ⟨g,Z,M,I,h⟩=>h _ H (Ex.refl H) .non
theorem aky:GJ aj X W [] au:=PA.weak pa_nil λσ H Q ⟨g,Z,M,I,h⟩=>h [] H (Ex.refl H) .nil
theorem aiE{es:List Expr}{fr:QA}(ha:QE aj X W a fa)(hr:GJ aj X W es fr)(hs:starEach (a::es) X.env=(false,eval a X.env)::starEach es X.env):GJ aj X W (a::es) (ak fa fr):=
 PA.weak (pa_cons ha hr hs) λσ H Q ⟨g,Z,M,I,h⟩=>by
  refine tQ.go I h.bnd λd v H1 h1 e1 r1=>?_;refine OJ.go (I.ex e1) (h1.bnd.mono (λ_ z=>z) λ_ z=>z.ex e1) λds vs H2 h2 e2 r2=>?_;exact h2 (v::vs) H2 (e1.trans e2) (.cons (r1.ex e2 (I.kd.ex e1)) r2)
theorem alJ{es:List Expr}{fr:QA}{k:Nat}(h:GJ aj X W es fr):QE aj X W (.Tuple es k pos) (bO fr):=
 PE.weak (pe_tup h) λσ H Q ⟨g,Z,M,I,h⟩=>by
  refine OJ.go I h.bnd λds vs H1 h1 e1 r1=>?_;obtain⟨hz,h1⟩:=h1.o9;have hl:vs.length<=100000:=by rw[r1.length];exact atf hz
  refine⟨sz_of hl,λp np=>h1 (.ref p) _ (e1.trans (Ex.new np)) (.tup (st_of upd_same) (r1.ex (Ex.new np) (I.kd.ex e1)))⟩
theorem Kd.fresh{g:Gh}{H:Hp}(k:Kd g H){p:Addr}(n:H p=none):¬g.A p:=λz=>by
 obtain⟨o,e,_⟩:=k.ob p z;rw[n]at e;cases e
theorem aj9{es:List Expr}{fr:QA}(h:GJ aj X W es fr):QE aj X W (.List es pos) (Dh fr):=
 PE.weak (pe_lst h) λσ H Q ⟨g,Z,M,I,h⟩=>by
  refine OJ.go I h.bnd λds vs H1 h1 e1 r1=>?_;obtain⟨hz,h1⟩:=h1.o9;have hl:vs.length<=100000:=by rw[r1.length];exact atf hz
  refine⟨sz_of hl,λp np=>h1 (.ref p) _ (e1.trans (Ex.new np)) (.lst (.inl ⟨.inl upd_same,(I.kd.ex e1).fresh np⟩) (r1.ex (Ex.new np) (I.kd.ex e1)))⟩
end
def eG(K:arG)(g:Gh)(H:Hp)(v:V):Dat->Prop
 |.list ds=>∃a us,v=.ref a/\SqL K H a us/\aM K g H us ds
 |d=>Rep K g H v d
section
variable{K:arG}{g:Gh}{H H':Hp}{v:V}{d:Dat}
theorem Rep.weak(h:Rep K g H v d):eG K g H v d:=by
 cases h with
 |lst a t=>exact⟨_,_,rfl,a.sq,t⟩
 |non=>exact .non
 |bl b=>exact .bl b
 |int i=>exact .int i
 |str x=>exact .str x
 |tup a t=>exact .tup a t
 |obj a=>exact .obj a
theorem eG.ex(e:Ex H H')(k:Kd g H)(h:eG K g H v d):eG K g H' v d:=by
 cases d with
 |list ds=>
  obtain⟨a,us,h1,h2,h3⟩:=h;exact⟨a,us,h1,ex_l e h2,h3.ex e k⟩
 |_=>exact Rep.ex e k h
theorem cI{i:Int}(h:eG K g H v (.int i)):v=.int i:=by cases h;rfl
theorem jW{x:Str}(h:eG K g H v (.str x)):v=.str x:=by cases h;rfl
theorem Et{b:Bool}(h:eG K g H v (.bool b)):v=.bl b:=by cases h;rfl
theorem Gy(h:eG K g H v .none):v=.non:=by cases h;rfl
theorem kW{ds:List Dat}(h:eG K g H v (.tuple ds)):∃a us,v=.ref a/\SqT K H a us/\aM K g H us ds:=by
 cases h with
 |tup a t=>exact⟨_,_,rfl,a,t⟩
theorem gK{ds:List Dat}(h:eG K g H v (.list ds)):∃a us,v=.ref a/\SqL K H a us/\aM K g H us ds:=h
theorem LC{n:Nat}(h:eG K g H v (obj n)):∃a,v=.ref a/\g.tbl[n]?=some a:=by
 cases h with
 |obj a=>exact⟨_,rfl,a⟩
end
section
variable(K:arG)(aj:aR)(W:WX)
def tW(f:QF):TE:=λσ H Q=>∃g Z M,SInv K aj σ H g Z M/\(f M Z).sat (λd=>∀v H',Ex H H'->eG K g H' v d->Q v H') (qJ K aj W g H σ)
end
theorem tW.go{K:arG}{aj:aR}{W:WX}{g:Gh}{H:Hp}{σ:L2.St}{Z:Env}{M:Mo}{f:QF}{k:Dat->Prop}{Q:VK}(I:SInv K aj σ H g Z M)(h:(f M Z).sat k (qJ K aj W g H σ))(hk:∀d v H',k d->Ex H H'->eG K g H' v d->Q v H'):tW K aj W f σ H Q:=
 ⟨g,Z,M,I,h.mono (λd hd v H' e r=>hk d v H' hd e r) λ_ z=>z⟩
def QW(aj:aR)(X:Cx)(W:WX)(e:Expr)(f:QF):Prop:=PE X e (tW X.K aj W f)
theorem QE.w{aj:aR}{X:Cx}{W:WX}{e:Expr}{f:QF}(h:QE aj X W e f):QW aj X W e f:=
 PE.weak h λσ H Q ⟨g,Z,M,I,z⟩=>⟨g,Z,M,I,z.mono (λ_ k v H' e r=>k v H' e r.weak) λ_ y=>y⟩
def ao(i:Nat):QF:=λ_ Z=>match Z[i]? with
 |some (some (.dat d))=>.ok d
 |some (some (.mut xs))=>.ok (.list xs)
 |_=>.bad
def qI(aj:aR)(K:arG)(W:WX)(o:Dat->Dat->Out Dat)(r:R2):Prop:=∀(σ:L2.St) (g:Gh) (H:Hp) (x y:V) (d e:Dat) (Q:VK),Kd g H->eG K g H x d->eG K g H y e->
 (o d e).sat (λz=>∀v H',Ex H H'->Rep K g H' v z->Q v H') (qJ K aj W g H σ)->r x y H Q
section
variable{X:Cx}{aj:aR}{W:WX}{a b c:Expr}{fa fb fc:QF}{pos:Pos}
theorem akW{i:Nat}{x:Str}(hN:X.N[i]?=some x)(hv:Vis X.env.scope x)(hd:(x==("__debug__" : Str))=false)(hcd:(x==("__classdict__" : Str))=false):QW aj X W (.Name x pos) (ao i):=
 PE.weak (pe_var hN hv hd hcd) λσ H Q ⟨g,Z,M,I,h⟩=>by
  unfold ao at h;split at h
  ·next d e=>
   obtain⟨v,h1,h2⟩:=I.dat i d e;exact⟨v,h1,h v H (Ex.refl H) h2.weak⟩
  ·next xs e=>
   obtain⟨l,us,h1,h2,h3,h4⟩:=I.own i xs e;exact⟨.ref l,h1,h _ H (Ex.refl H) ⟨l,us,rfl,sq_of h2,h4⟩⟩
  ·exact atd h
theorem R3{o:Dat->Dat->Out Dat}{r:R2}(ho:qI aj X.K W o r)(σ:L2.St)(H:Hp)(Q:VK)(h:tQ X.K aj W (aA o fa fb) σ H Q):tOp r (tW X.K aj W fa) (tW X.K aj W fb) σ H Q:=by obtain⟨g,Z,M,I,h⟩:=h;refine tW.go I h.bnd λd v H1 h1 e1 r1=>?_;refine tW.go (I.ex e1) (h1.bnd.mono (λ_ z=>z) λ_ z=>z.ex e1) λd2 v2 H2 h2 e2 r2=>?_;refine ho σ g H2 v v2 d d2 Q ((I.kd.ex e1).ex e2) (r1.ex e2 (I.kd.ex e1)) r2 (h2.mono (λz hz u H' e' r'=>hz u H' ((e1.trans e2).trans e') r') λ_ z=>(z.ex e1).ex e2)
theorem akG{op:Operator}{r:R2}{o:Dat->Dat->Out Dat}(hr:OpR X (binaryOp op) r)(ho:qI aj X.K W o r)(ha:QW aj X W a fa)(hb:QW aj X W b fb):QE aj X W (.BinOp a op b pos) (aA o fa fb):=
 PE.weak (pe_op hr ha hb) λσ H Q h=>R3 ho σ H Q h
theorem ah3{op:CmpOp}{r:R2}{o:Dat->Dat->Out Dat}(hr:OpR X (compareOp op) r)(ho:qI aj X.K W o r)(ha:QW aj X W a fa)(hb:QW aj X W b fb)(hm:behindInMarks op b=false):QE aj X W (.Compare a [op] [b] pos) (aA o fa fb):=
 PE.weak (pe_cmpR hr ha hb hm) λσ H Q h=>R3 ho σ H Q h
end
instance:DecidableRel CMul:=λi j=>by unfold CMul;infer_instance
instance:DecidableRel CDiv:=λi j=>by unfold CDiv;infer_instance
instance:DecidableRel CPow:=λi j=>by unfold CPow;infer_instance
def gR:Dat->Dat->Out Dat
 |.int i,.int j=>.ok (.int (i+j))
 |.str x,.str y=>Out.when (decide (x.length+y.length<=100000)) (.ok (.str (x++y)))
 |.list xs,.list ys=>Out.when (decide (xs.length+ys.length<=100000)) (.ok (.list (xs++ys)))
 |.tuple xs,.tuple ys=>Out.when (decide (xs.length+ys.length<=100000)) (.ok (.tuple (xs++ys)))
 |_,_=>.bad
def lU:Dat->Dat->Out Dat
 |.int i,.int j=>.ok (.int (i - j))
 |_,_=>.bad
def Bx:Dat->Dat->Out Dat
 |.int i,.int j=>Out.when (decide (CMul i j)) (.ok (.int (i * j)))
 |_,_=>.bad
def JV:Dat->Dat->Out Dat
 |.int i,.int j=>Out.when (decide (CDiv i j)) (.ok (.int (i / j)))
 |_,_=>.bad
def mJ:Dat->Dat->Out Dat
 |.int i,.int j=>Out.when (decide (0 < j)) (.ok (.int (i % j)))
 |_,_=>.bad
def Yr:Dat->Dat->Out Dat
 |.int i,.int j=>Out.when (decide (CPow i j)) (.ok (.int (i ^ j.toNat)))
 |_,_=>.bad
def rCatS(K:arG):R2:=λx y H Q=>∃l b xs zs,x=.ref l/\y=.ref b/\SqL K H l xs/\SqL K H b zs/\xs.length+zs.length<=sizeLine/\∀p,H p=none->Q (.ref p) (upd H p (.lst (xs++zs)))
theorem ahv{X:Cx}:OpR X (binaryOp .Add) (rCatS X.K):=by
 intro pins s σ H x y v u Q I rx ry h;obtain⟨l,b,xs,zs,rfl,rfl,hH,hB,hz,q⟩:=h;cases rx;cases ry;obtain⟨its,r,⟨⟨c1,d1,da1,s1⟩,n,e,hc,hd,hs⟩,_⟩:=I.list hH;obtain⟨its2,r2,⟨⟨c2,d2,da2,s2⟩,n2,e2,hc2,hd2,hs2⟩,_⟩:=I.list hB;simp only at hc hd hs hc2 hd2 hs2;subst hc hd hs hc2 hd2 hs2;have l1:=r.length;have l2:=r2.length;have ea:its.toArray++its2.toArray=(its++its2).toArray:=by simp
 refine concat_meets ⟨_,e,rfl⟩ ⟨_,e2,rfl⟩ noFill_list_add seq_list_add PySem.F.slot_list_add PySem.F.entry_list_add (PySem.F.args_list_add_2 _ _) (list_addW l b its.toArray its2.toArray n n2 none none s1 s2 (by rw[List.size_toArray,List.size_toArray];omega)) ⟨e,e2,?_⟩;rw[ea];exact⟨.ref _,_,I.lnew (t':=s.toks) (r.append r2) (by rw[asJ];omega),rfl,q _ I.fresh⟩
def agR(K:arG):R2:=λx y H Q=>rI0 (λi j=>.int (i+j)) x y H Q∨(∃i j,x=.str i/\y=.str j/\i.length+j.length<=sizeLine/\Q (.str (i++j)) H)∨rCatS K x y H Q∨rCatA K x y H Q
theorem ais{X:Cx}:OpR X (binaryOp .Add) (agR X.K):=by
 intro pins s σ H x y v u Q I rx ry h;rcases h with h|h|h|h
 ·exact op_add pins s σ H x y v u Q I rx ry h
 ·exact op_add_str pins s σ H x y v u Q I rx ry h
 ·exact ahv pins s σ H x y v u Q I rx ry h
 ·exact op_catA pins s σ H x y v u Q I rx ry h
section
variable{K:arG}{aj:aR}{W:WX}
theorem aja:qI aj K W gR (agR K):=λσ g H x y d e Q k rx ry h=>by
 unfold gR at h;split at h
 ·exact .inl ⟨_,_,cI rx,cI ry,h _ H (Ex.refl H) (.int _)⟩
 ·obtain⟨hz,h⟩:=h.o9;exact .inr (.inl ⟨_,_,jW rx,jW ry,sz_of (atf hz),h _ H (Ex.refl H) (.str _)⟩)
 ·obtain⟨hz,h⟩:=h.o9;obtain⟨l,us,e1,s1,t1⟩:=gK rx;obtain⟨l2,us2,e2,s2,t2⟩:=gK ry;have hl:=atf hz;rw[←t1.length,←t2.length]at hl;refine .inr (.inr (.inl ⟨l,l2,us,us2,e1,e2,s1,s2,sz_of hl,λp np=>h _ _ (Ex.new np) (.lst (.inl ⟨.inl upd_same,k.fresh np⟩) ((t1.append t2).ex (Ex.new np) k))⟩))
 ·obtain⟨hz,h⟩:=h.o9;obtain⟨l,us,e1,s1,t1⟩:=kW rx;obtain⟨l2,us2,e2,s2,t2⟩:=kW ry;have hl:=atf hz;rw[←t1.length,←t2.length]at hl;refine .inr (.inr (.inr ⟨l,l2,us,us2,e1,e2,s1,s2,sz_of hl,λz=>?_,λ_ z=>?_,λ_ _ p np=>h _ _ (Ex.new np) (.tup (st_of upd_same) ((t1.append t2).ex (Ex.new np) k))⟩))
  ·subst z;cases t1;exact h _ H (Ex.refl H) (.tup s2 t2)
  ·subst z;cases t2;rw[asF]at h;exact h _ H (Ex.refl H) (.tup s1 t1)
 ·exact atd h
theorem ajJ:qI aj K W lU (rI0 λi j=>.int (i - j)):=λσ g H x y d e Q k rx ry h=>by
 unfold lU at h;split at h
 ·exact⟨_,_,cI rx,cI ry,h _ H (Ex.refl H) (.int _)⟩
 ·exact atd h
theorem akS:qI aj K W Bx (rI CMul λi j=>.int (i * j)):=λσ g H x y d e Q k rx ry h=>by
 unfold Bx at h;split at h
 ·obtain⟨hz,h⟩:=h.o9;exact⟨_,_,cI rx,cI ry,atf hz,h _ H (Ex.refl H) (.int _)⟩
 ·exact atd h
theorem aln:qI aj K W JV (rI CDiv λi j=>.int (i / j)):=λσ g H x y d e Q k rx ry h=>by
 unfold JV at h;split at h
 ·obtain⟨hz,h⟩:=h.o9;exact⟨_,_,cI rx,cI ry,atf hz,h _ H (Ex.refl H) (.int _)⟩
 ·exact atd h
theorem ai8:qI aj K W mJ (rI (λ_ j=>0 < j) λi j=>.int (i % j)):=λσ g H x y d e Q k rx ry h=>by
 unfold mJ at h;split at h
 ·obtain⟨hz,h⟩:=h.o9;exact⟨_,_,cI rx,cI ry,atf hz,h _ H (Ex.refl H) (.int _)⟩
 ·exact atd h
theorem akr:qI aj K W Yr (rI CPow λi j=>.int (i ^ j.toNat)):=λσ g H x y d e Q k rx ry h=>by
 unfold Yr at h;split at h
 ·obtain⟨hz,h⟩:=h.o9;exact⟨_,_,cI rx,cI ry,atf hz,h _ H (Ex.refl H) (.int _)⟩
 ·exact atd h
end
mutual
def okd:Nat->Dat->Bool
 |_,.none=>true
 |_,.bool _=>true
 |_,.int _=>true
 |_,.str x=>PyData.strOk x
 |n+1,.list ds=>lB n ds
 |n+1,.tuple ds=>lB n ds
 |0,.list _=>false
 |0,.tuple _=>false
 |_,.dict _=>false
def lB:Nat->List Dat->Bool
 |_,[]=>true
 |n,d::ds=>okd n d&&lB n ds
end
mutual
theorem Vr:∀(n:Nat) (d:Dat),okd n d=true->d.canLay0=true/\d.depth<=n
 |n,.none,_=>⟨by simp[PyData.canLay0],by simp[PyData.depth]⟩
 |n,.bool _,_=>⟨by simp[PyData.canLay0],by simp[PyData.depth]⟩
 |n,.int _,_=>⟨by simp[PyData.canLay0],by simp[PyData.depth]⟩
 |n,.str x,h=>⟨by rw[okd]at h;simp[PyData.canLay0,h],by simp[PyData.depth]⟩
 |n+1,.list ds,h=>by
  rw[okd]at h;obtain⟨h1,h2⟩:=JD n ds h;exact⟨by simp[PyData.canLay0,h1],by simp[PyData.depth];omega⟩
 |n+1,.tuple ds,h=>by
  rw[okd]at h;obtain⟨h1,h2⟩:=JD n ds h;exact⟨by simp[PyData.canLay0,h1],by simp[PyData.depth];omega⟩
 |0,.list _,h=>by rw[okd]at h;cases h
 |0,.tuple _,h=>by rw[okd]at h;cases h
 |n,.dict _,h=>by rw[okd]at h;cases h
theorem JD:∀(n:Nat) (ds:List Dat),lB n ds=true->PyData.canLayAll0 ds=true/\PyData.depthAll ds<=n
 |n,[],_=>⟨by simp[PyData.canLayAll0],by simp[PyData.depthAll]⟩
 |n,d::ds,h=>by
  rw[lB,arH]at h;obtain⟨h1,h2⟩:=Vr n d h.1;obtain⟨h3,h4⟩:=JD n ds h.2;exact⟨by simp[PyData.canLayAll0,h1,h3],by simp[PyData.depthAll];omega⟩
end
mutual
theorem Rep.dp{K:arG}{g:Gh}{H:Hp}:∀{n:Nat} {v:V} {d:Dat},okd n d=true->Rep K g H v d->Dp K H v d
 |_,_,_,_,.non=>.non
 |_,_,_,_,.bl b=>.bl b
 |_,_,_,_,.int i=>.int i
 |_,_,_,_,.str x=>.str x
 |n+1,_,_,f,.tup h t=>.tup h (aM.dp (n:=n) (by rw[okd]at f;exact f) t)
 |n+1,_,_,f,.lst h t=>.lst h.sq (aM.dp (n:=n) (by rw[okd]at f;exact f) t)
 |0,_,_,f,.tup h t=>by rw[okd]at f;cases f
 |0,_,_,f,.lst h t=>by rw[okd]at f;cases f
 |_,_,_,f,.obj h=>by rw[okd]at f;cases f
theorem aM.dp{K:arG}{g:Gh}{H:Hp}:∀{n:Nat} {vs:List V} {ds:List Dat},lB n ds=true->aM K g H vs ds->DpAll K H vs ds
 |_,_,_,_,.nil=>.nil
 |n,_,_,f,.cons h t=>.cons (Rep.dp (n:=n) (by rw[lB,arH]at f;exact f.1) h) (aM.dp (n:=n) (by rw[lB,arH]at f;exact f.2) t)
end
theorem eG.dp{K:arG}{g:Gh}{H:Hp}{n:Nat}{v:V}{d:Dat}(f:okd n d=true)(h:eG K g H v d):Dp K H v d:=by
 cases d with
 |list ds=>
  obtain⟨a,us,rfl,h2,h3⟩:=h;cases n with
  |zero=>rw[okd]at f;cases f
  |succ n=>
   rw[okd]at f;exact .lst h2 (h3.dp f)
 |_=>exact Rep.dp f h
theorem Cr{n:Nat}{d:Dat}(h:okd n d=true)(hn:n<=64):SeqAt.shaped d=true:=by obtain⟨h1,h2⟩:=Vr n d h;unfold SeqAt.shaped;rw[h1,Bool.true_and];exact decide_eq_true (ar8 h2 hn)
def eqB:Dat->Dat->Out Bool
 |.int i,.int j=>.ok (i==j)
 |.str x,.str y=>.ok (x==y)
 |.bool x,.bool y=>.ok (x==y)
 |.none,.none=>.ok true
 |d,e=>Out.when (okd 12 d&&okd 12 e) (.ok (PyData.eqv d e))
def cJ(d e:Dat):Out Dat:=(eqB d e).bind λb=>.ok (.bool b)
def yU(d e:Dat):Out Dat:=(eqB d e).bind λb=>.ok (.bool (!b))
def akC(K:arG):R2:=λx y H Q=>rEq x y H Q∨rEqD K x y H Q
def akA(K:arG):R2:=λx y H Q=>rNe x y H Q∨rNeD K x y H Q
theorem ajr{X:Cx}(hu:X.A.units+64 < cLine):OpR X (compareOp .Eq) (akC X.K):=λpins s σ H x y v u Q I rx ry h=>h.elim (λh=>op_eq pins s σ H x y v u Q I rx ry h) (λh=>op_eqD hu pins s σ H x y v u Q I rx ry h)
theorem ala{X:Cx}(hu:X.A.units+64 < cLine):OpR X (compareOp .NotEq) (akA X.K):=λpins s σ H x y v u Q I rx ry h=>h.elim (λh=>op_ne pins s σ H x y v u Q I rx ry h) (λh=>op_neD hu pins s σ H x y v u Q I rx ry h)
section
variable{K:arG}{aj:aR}{W:WX}{g:Gh}{H:Hp}
theorem aeQ{x y:V}{d e:Dat}{P:Bool->Prop}{E:dR->Prop}(rx:eG K g H x d)(ry:eG K g H y e)(h:(eqB d e).sat P E):(scal x y=true/\P (decide (x=y)))∨(∃d e,Dp K H x d/\Dp K H y e/\SeqAt.shaped d=true/\SeqAt.shaped e=true/\P (PyData.eqv d e)):=by
 unfold eqB at h;split at h
 ·cases cI rx;cases cI ry;rw[dec_int];exact .inl ⟨rfl,h⟩
 ·cases jW rx;cases jW ry;rw[dec_str];exact .inl ⟨rfl,h⟩
 ·cases Et rx;cases Et ry;rw[dec_bl];exact .inl ⟨rfl,h⟩
 ·cases Gy rx;cases Gy ry;exact .inl ⟨rfl,h⟩
 ·obtain⟨hz,h⟩:=h.o9;rw[arH]at hz;exact .inr ⟨_,_,rx.dp hz.1,ry.dp hz.2,Cr hz.1 (by decide),Cr hz.2 (by decide),h⟩
theorem amX:qI aj K W cJ (akC K):=λσ g H x y d e Q k rx ry h=>by
 rcases aeQ rx ry h.bnd with⟨h1,h2⟩|⟨d,e,h1,h2,h3,h4,h5⟩
 ·exact .inl ⟨h1,h2 _ H (Ex.refl H) (.bl _)⟩
 ·exact .inr ⟨d,e,h1,h2,h3,h4,h5 _ H (Ex.refl H) (.bl _)⟩
theorem al5:qI aj K W yU (akA K):=λσ g H x y d e Q k rx ry h=>by
 rcases aeQ rx ry h.bnd with⟨h1,h2⟩|⟨d,e,h1,h2,h3,h4,h5⟩
 ·exact .inl ⟨h1,h2 _ H (Ex.refl H) (.bl _)⟩
 ·exact .inr ⟨d,e,h1,h2,h3,h4,h5 _ H (Ex.refl H) (.bl _)⟩
end
def M8:Dat->Dat->Out Dat
 |.int i,.int j=>.ok (.bool (decide (i < j)))
 |.tuple ds,.tuple es=>Out.when (okd 12 (.tuple ds)&&okd 12 (.tuple es)&&PySem.W.alike (.tuple ds) (.tuple es)) (.ok (.bool (PySem.W.dataLt (.tuple ds) (.tuple es))))
 |_,_=>.bad
def qp:Dat->Dat->Out Dat
 |.int i,.int j=>.ok (.bool (decide (i<=j)))
 |_,_=>.bad
def Tp:Dat->Dat->Out Dat
 |.int i,.int j=>.ok (.bool (decide (j < i)))
 |_,_=>.bad
def geD:Dat->Dat->Out Dat
 |.int i,.int j=>.ok (.bool (decide (j<=i)))
 |_,_=>.bad
def alk(K:arG):R2:=λx y H Q=>rI0 (λi j=>.bl (decide (i < j))) x y H Q∨Ear.Rx K x y H Q
theorem ajZ{X:Cx}(hu:X.A.units+65 < cLine):OpR X (compareOp .Lt) (alk X.K):=λpins s σ H x y v u Q I rx ry h=>h.elim (λh=>op_lt pins s σ H x y v u Q I rx ry h) (λh=>Ear.afz hu pins s σ H x y v u Q I rx ry h)
section
variable{K:arG}{aj:aR}{W:WX}{g:Gh}{H:Hp}
theorem amt:qI aj K W M8 (alk K):=λσ g H x y d e Q k rx ry h=>by
 unfold M8 at h;split at h
 ·exact .inl ⟨_,_,cI rx,cI ry,h _ H (Ex.refl H) (.bl _)⟩
 ·obtain⟨hz,h⟩:=h.o9;simp only[arH]at hz;refine .inr ?_;unfold Ear.Rx;exact⟨_,_,rx.dp hz.1.1,ry.dp hz.1.2,hz.2,(λz=>nomatch z),ar8 (Vr _ _ hz.1.1).2 (by decide),h _ H (Ex.refl H) (.bl _)⟩
 ·exact atd h
theorem amN:qI aj K W qp (rI0 λi j=>.bl (decide (i<=j))):=λσ g H x y d e Q k rx ry h=>by
 unfold qp at h;split at h
 ·exact⟨_,_,cI rx,cI ry,h _ H (Ex.refl H) (.bl _)⟩
 ·exact atd h
theorem amA:qI aj K W Tp (rI0 λi j=>.bl (decide (j < i))):=λσ g H x y d e Q k rx ry h=>by
 unfold Tp at h;split at h
 ·exact⟨_,_,cI rx,cI ry,h _ H (Ex.refl H) (.bl _)⟩
 ·exact atd h
theorem al8:qI aj K W geD (rI0 λi j=>.bl (decide (j<=i))):=λσ g H x y d e Q k rx ry h=>by
 unfold geD at h;split at h
 ·exact⟨_,_,cI rx,cI ry,h _ H (Ex.refl H) (.bl _)⟩
 ·exact atd h
end
def mO(c:Dat):Dat->Bool
 |.none=>match c with
  |.none=>true
  |_=>false
 |.bool b=>match c with
  |.bool b'=>b==b'
  |_=>false
 |_=>false
def scD:Dat->Option V
 |.none=>some .non
 |.bool b=>some (.bl b)
 |_=>none
theorem abu{K:arG}{g:Gh}{H:Hp}{x:V}{d c:Dat}{v:V}(h:eG K g H x d)(hc:scD c=some v):decide (x=v)=mO c d:=by
 cases c with
 |none=>
  cases hc;cases d with
  |none=>cases Gy h;rfl
  |bool b=>cases Et h;rfl
  |int b=>cases cI h;rfl
  |str b=>cases jW h;rfl
  |list b=>obtain⟨a,us,rfl,_⟩:=gK h;rfl
  |tuple b=>obtain⟨a,us,rfl,_⟩:=kW h;rfl
  |dict b=>cases h;rfl
 |bool c=>
  cases hc;cases d with
  |none=>cases Gy h;rfl
  |bool b=>cases Et h;exact dec_bl
  |int b=>cases cI h;rfl
  |str b=>cases jW h;rfl
  |list b=>obtain⟨a,us,rfl,_⟩:=gK h;rfl
  |tuple b=>obtain⟨a,us,rfl,_⟩:=kW h;rfl
  |dict b=>cases h;rfl
 |_=>cases hc
def aar(neg:Bool)(v:V):R2:=λx y H Q=>y=v/\Q (.bl (neg ^^ decide (x=v))) H
theorem adH{x v:V}{u w:Value}(hv:v=.non∨∃b,v=.bl b)(rx:RelV x u)(rv:RelV v w):(u==w)=decide (x=v):=by
 rcases hv with rfl|⟨b,rfl⟩
 ·cases rv;exact rx.none_iff
 ·cases rv;rw[asV,beq_iff_eq,ate];constructor
  ·rintro rfl;cases x with
   |bl c=>cases rx;rfl
   |non=>cases rx
   |ref _=>cases rx
   |ty _=>cases rx
   |_=>obtain⟨t,z⟩:=rx;cases z
  ·rintro rfl;exact rx
theorem V3{x v:V}{u w:Value}(hv:v=.non∨∃b,v=.bl b)(rx:RelV x u)(rv:RelV v w):plainIs u w=true:=by rcases hv with rfl | ⟨b,rfl⟩<;>(cases rv;cases x<;>first | (cases rx;rfl) | (obtain⟨t,rfl⟩:=rx;rfl))
theorem ai7{X:Cx}{v:V}(hv:v=.non∨∃b,v=.bl b):OpR X (compareOp .Is) (aar false v):=by intro pins s σ H x y u w Q I rx ry h;obtain⟨rfl,q⟩:=h;refine wpAny_is_plain (V3 hv rx ry) ?_;rw[adH hv rx ry];rw[Bool.false_xor]at q;exact⟨.bl _,H,I,rfl,q⟩
theorem aej{X:Cx}{v:V}(hv:v=.non∨∃b,v=.bl b):OpR X (compareOp .IsNot) (aar true v):=by intro pins s σ H x y u w Q I rx ry h;obtain⟨rfl,q⟩:=h;refine wpAny_isNot_plain (V3 hv rx ry) ?_;rw[adH hv rx ry];rw[Bool.true_xor]at q;exact⟨.bl _,H,I,rfl,q⟩
def xO(neg:Bool)(c:Dat)(a:QF):QF:=λM Z=>(a M Z).bind λd=>.ok (.bool (neg ^^ mO c d))
section
variable{X:Cx}{aj:aR}{W:WX}{a b c:Expr}{fa fb fc:QF}{pos:Pos}
theorem amd{op:CmpOp}{neg:Bool}{d:Dat}{v:V}(hc:scD d=some v)(hr:OpR X (compareOp op) (aar neg v))(ha:QW aj X W a fa)(hb:PE X b (tC v))(hm:behindInMarks op b=false):QE aj X W (.Compare a [op] [b] pos) (xO neg d fa):=
 PE.weak (pe_cmpR hr ha hb hm) λσ H Q ⟨g,Z,M,I,h⟩=>by
  refine tW.go I h.bnd λe x H1 h1 e1 r1=>?_;refine⟨rfl,?_⟩;rw[abu r1 hc];exact h1 _ H1 e1 (.bl _)
end
def KY:Dat->Bool
 |.none=>true
 |.bool _=>true
 |.int _=>true
 |.str _=>true
 |_=>false
def inB:Dat->Dat->Out Bool
 |d,.list ds=>Out.when (okd 12 d&&lB 12 ds) (.ok (ds.any λz=>PyData.eqv z d))
 |d,.tuple ds=>Out.when (KY d&&ds.all KY) (.ok (ds.any λz=>PyData.eqv z d))
 |.str x,.str z=>match x.cps.toList with
  |[c]=>.ok (decide (c∈z.cps.toList))
  |_=>.bad
 |_,_=>.bad
def inD(neg:Bool)(d e:Dat):Out Dat:=(inB d e).bind λb=>.ok (.bool (neg ^^ b))
section
variable{K:arG}{g:Gh}{H:Hp}
theorem Yu{v:V}{d:Dat}(f:KY d=true)(h:Rep K g H v d):flatV v=true:=by
 cases h with
 |tup _ _=>cases f
 |lst _ _=>cases f
 |obj _=>cases f
 |_=>rfl
theorem WD:∀{vs:List V} {ds:List Dat},ds.all KY=true->aM K g H vs ds->vs.all flatV=true
 |_,_,_,.nil=>rfl
 |_,_,f,.cons h t=>by
  rw[asx,arH]at f;rw[asx,Yu f.1 h,WD f.2 t];rfl
theorem aiQ{v w:V}{d e:Dat}(f1:KY d=true)(f2:KY e=true)(h1:Rep K g H v d)(h2:Rep K g H w e):eqV v w=PyData.eqv d e:=by
 cases h1 with
 |tup _ _=>cases f1
 |lst _ _=>cases f1
 |obj _=>cases f1
 |non=>cases h2 with
  |tup _ _=>cases f2
  |lst _ _=>cases f2
  |obj _=>cases f2
  |_=>simp[eqV,PyData.eqv]
 |bl b=>cases h2 with
  |tup _ _=>cases f2
  |lst _ _=>cases f2
  |obj _=>cases f2
  |_=>simp[eqV,PyData.eqv]
 |int b=>cases h2 with
  |tup _ _=>cases f2
  |lst _ _=>cases f2
  |obj _=>cases f2
  |_=>simp[eqV,PyData.eqv]
 |str b=>cases h2 with
  |tup _ _=>cases f2
  |lst _ _=>cases f2
  |obj _=>cases f2
  |_=>simp[eqV,PyData.eqv]
theorem abX{w:V}{e:Dat}(f2:KY e=true)(h2:Rep K g H w e):∀{vs:List V} {ds:List Dat},ds.all KY=true->aM K g H vs ds->inV w vs=ds.any λz=>PyData.eqv z e
 |_,_,_,.nil=>rfl
 |v::vs,d::ds,f,.cons h t=>by
  rw[asx,arH]at f;have ih:=abX f2 h2 f.2 t;unfold inV at ih ⊢;rw[asR,asR,ih,aiQ f.1 f2 h h2]
theorem abd{v:V}{d:Dat}(f:KY d=true)(h:eG K g H v d):Rep K g H v d:=by
 cases d with
 |list _=>cases f
 |_=>exact h
end
def aat(K:arG)(neg:Bool):R2:=λx y H Q=>(∃d ds,Dp K H x d/\Dp K H y (.list ds)/\SeqAt.shaped d=true/\SeqAt.shaped (.list ds)=true/\Q (.bl (neg ^^ (ds.any λz=>PyData.eqv z d))) H)∨
 (∃p xs,y=.ref p/\(SqL K H p xs∨SqT K H p xs)/\flatV x=true/\xs.all flatV=true/\Q (.bl (neg ^^ inV x xs)) H)∨∃(c:Nat) (z:Str),x=.str ⟨#[c]⟩/\y=.str z/\Q (.bl (neg ^^ decide (c∈z.cps.toList))) H
theorem ak1{X:Cx}(hu:X.A.units+65 < cLine):OpR X (compareOp .In) (aat X.K false):=λpins s σ H x y v u Q I rx ry h=>by
 unfold aat at h;simp only[Bool.false_xor]at h;rcases h with⟨d,ds,h⟩|⟨p,xs,h⟩|h
 ·exact op_inD hu pins s σ H x y v u Q I rx ry ⟨d,ds,h⟩
 ·exact op_in_seq pins s σ H x y v u Q I rx ry ⟨p,xs,h⟩
 ·exact op_in_sign pins s σ H x y v u Q I rx ry h
theorem aeZ{X:Cx}(hu:X.A.units+65 < cLine):OpR X (compareOp .NotIn) (aat X.K true):=λpins s σ H x y v u Q I rx ry h=>by
 unfold aat at h;simp only[Bool.true_xor]at h;rcases h with⟨d,ds,h⟩|⟨p,xs,h⟩|h
 ·exact op_notInD hu pins s σ H x y v u Q I rx ry ⟨d,ds,h⟩
 ·exact op_notIn_seq pins s σ H x y v u Q I rx ry ⟨p,xs,h⟩
 ·exact op_notIn_sign pins s σ H x y v u Q I rx ry h
theorem ahd{K:arG}{aj:aR}{W:WX}{neg:Bool}:qI aj K W (inD neg) (aat K neg):=λσ g H x y d e Q k rx ry h=>by
 replace h:=Out.sat.bnd h
 unfold inB at h;split at h
 ·next ds=>
  obtain⟨hz,h⟩:=h.o9;rw[arH]at hz;have e2:okd 13 (.list ds)=true:=by rw[okd];exact hz.2
  exact .inl ⟨_,ds,rx.dp hz.1,ry.dp e2,Cr hz.1 (by decide),Cr e2 (by decide),h _ H (Ex.refl H) (.bl _)⟩
 ·next ds=>
  obtain⟨hz,h⟩:=h.o9;rw[arH]at hz;obtain⟨p,us,rfl,h1,h2⟩:=kW ry;have rx':=abd hz.1 rx;refine .inr (.inl ⟨p,us,rfl,.inr h1,Yu hz.1 rx',WD hz.2 h2,?_⟩);rw[abX hz.1 rx' hz.2 h2];exact h _ H (Ex.refl H) (.bl _)
 ·next xs z=>
  split at h
  ·next c e=>
   refine .inr (.inr ⟨c,z,?_,jW ry,h _ H (Ex.refl H) (.bl _)⟩);rw[jW rx];congr 1;have:xs.cps=#[c]:=by apply Array.toList_inj.mp;rw[e]
   cases xs;simp only at this;rw[this]
  ·exact atd h
 ·exact atd h
def Vt:Dat->Out Dat
 |.int i=>.ok (.int (-i))
 |_=>.bad
def Jx:Dat->Out Bool
 |.none=>.ok false
 |.bool b=>.ok b
 |.int i=>.ok (i != 0)
 |.str x=>Out.when (decide (x.length<=100000)) (.ok (!x.cps.toList.isEmpty))
 |.list ds=>.ok (!ds.isEmpty)
 |.tuple ds=>.ok (!ds.isEmpty)
 |_=>.bad
def gY(a:QF):QT:=λM Z=>(a M Z).bind Jx
def Ck:Dat->Out Bool
 |.bool b=>.ok b
 |_=>.bad
def bh(a:QF):QT:=λM Z=>(a M Z).bind Ck
def jC(a:QT):QT:=λM Z=>(a M Z).bind λb=>.ok (!b)
def jx(a b:QT):QT:=λM Z=>(a M Z).bind λx=>if x=true then b M Z else .ok false
def BL(a b:QT):QT:=λM Z=>(a M Z).bind λx=>if x=true then .ok true else b M Z
def Wn(a:QT):QF:=λM Z=>(a M Z).bind λb=>.ok (.bool b)
def Ua(t:QT)(a b:QF):QF:=λM Z=>(t M Z).bind λx=>if x=true then a M Z else b M Z
theorem SM{K:arG}{g:Gh}{H:Hp}{us:List V}{ds:List Dat}(h:aM K g H us ds):(!ds.isEmpty)=!us.isEmpty:=by cases h<;>rfl
section
variable{X:Cx}{aj:aR}{W:WX}{a b c:Expr}{fa fb fc:QF}{ta tb:QT}{pos:Pos}
theorem ak6(ha:QW aj X W a fa):QE aj X W (.UnaryOp .USub a pos) (eZ Vt fa):=
 PE.weak (pe_un un_neg ha) λσ H Q ⟨g,Z,M,I,h⟩=>by
  refine tW.go I h.bnd λd v H1 h1 e1 r1=>?_;unfold Vt at h1;split at h1
  ·exact⟨_,cI r1,h1 _ H1 e1 (.int _)⟩
  ·exact atd h1
theorem alm{g:Gh}{H:Hp}{v:V}{d:Dat}{P:Bool->Prop}{E:dR->Prop}(r:eG X.K g H v d)(h:(Jx d).sat P E):∃k,TruV X.K v H k/\P k:=by
 unfold Jx at h;split at h
 ·cases Gy r;exact⟨_,rfl,h⟩
 ·cases Et r;exact⟨_,rfl,h⟩
 ·cases cI r;exact⟨_,rfl,h⟩
 ·next x=>
  obtain⟨hz,h⟩:=h.o9;cases jW r;refine⟨_,⟨sz_of (atf hz),?_⟩,h⟩;have e:x.length=x.cps.toList.length:=by rw[asr];rfl
  rw[e];cases x.cps.toList with
  |nil=>rfl
  |cons y ys=>
   refine Eq.symm (bne_iff_ne.mpr ?_);simp;omega
 ·obtain⟨p,us,rfl,h1,h2⟩:=gK r;rw[SM h2]at h;exact⟨_,.inl ⟨us,h1,rfl⟩,h⟩
 ·obtain⟨p,us,rfl,h1,h2⟩:=kW r;rw[SM h2]at h;exact⟨_,.inr (.inl ⟨us,h1,rfl⟩),h⟩
 ·exact atd h
theorem ak9(ha:QW aj X W a fa)(he:∀whole,isTrue a X.env whole=(do let v ←whole;standAt a.pos;holding [v] (truthy v))):tH aj X W a (gY fa):=
 PT.weak (pt_truth ha he) λσ H Q ⟨g,Z,M,I,h⟩=>by
  refine tW.go I h.bnd λd v H1 h1 e1 r1=>?_;obtain⟨k,h2,h3⟩:=alm r1 h1;exact⟨k,h2,h3 H1 e1⟩
theorem Fe{g:Gh}{H:Hp}{v:V}{d:Dat}{P:Bool->Prop}{E:dR->Prop}(r:eG X.K g H v d)(h:(Ck d).sat P E):∃k,v=.bl k/\P k:=by
 unfold Ck at h;split at h
 ·cases Et r;exact⟨_,rfl,h⟩
 ·exact atd h
theorem akj{op:CmpOp}{r:R2}{o:Dat->Dat->Out Dat}(hr:OpR X (compareOp op) r)(ho:qI aj X.K W o r)(ha:QW aj X W a fa)(hb:QW aj X W b fb)(hm:behindInMarks op b=false):tH aj X W (.Compare a [op] [b] pos) (bh (aA o fa fb)):=
 PT.weak (pt_cmpR hr ha hb hm) λσ H Q ⟨g,Z,M,I,h⟩=>by
  refine R3 ho σ H _ ⟨g,Z,M,I,h.bnd.mono (λd h1 v H' e' r'=>?_) λ_ z=>z⟩;obtain⟨k,h2,h3⟩:=Fe r'.weak h1;exact⟨k,h2,h3 H' e'⟩
theorem amg{op:CmpOp}{neg:Bool}{d:Dat}{v:V}(hc:scD d=some v)(hr:OpR X (compareOp op) (aar neg v))(ha:QW aj X W a fa)(hb:PE X b (tC v))(hm:behindInMarks op b=false):tH aj X W (.Compare a [op] [b] pos) (bh (xO neg d fa)):=
 PT.weak (pt_cmpR hr ha hb hm) λσ H Q ⟨g,Z,M,I,h⟩=>by
  refine tW.go I h.bnd.bnd λe x H1 h1 e1 r1=>?_;refine⟨rfl,_,rfl,?_⟩;rw[abu r1 hc];exact h1 H1 e1
theorem akJ(ha:tH aj X W a ta):tH aj X W (.UnaryOp .Not a pos) (jC ta):=
 PT.weak (pt_not ha) λσ H Q ⟨g,Z,M,I,h⟩=>jK.go I h.bnd λb H1 h1 e1=>h1 H1 e1
def QWt(aj:aR)(X:Cx)(W:WX)(e:Expr)(f:QT):Prop:=PW X e (jK X.K aj W f)
theorem PW.weak{X:Cx}{e:Expr}{t t':TT}(h:PW X e t)(k:∀σ H Q,t' σ H Q->t σ H Q):PW X e t':=⟨λwh pins s σ H Q I q=>h.run wh pins s σ H Q I (k σ H Q q)⟩
theorem ajt{rest:List Expr}(ha:tH aj X W a ta)(hb:QWt aj X W (.BoolOp .And (b::rest) pos) tb):QWt aj X W (.BoolOp .And (a::b::rest) pos) (jx ta tb):=
 PW.weak (pw_and ha hb) λσ H Q ⟨g,Z,M,I,h⟩=>by
  refine jK.go I h.bnd λx H1 h1 e1=>?_;cases x with
  |true=>exact⟨g,Z,M,I.ex e1,h1.mono (λb k H' e'=>k H' (e1.trans e')) λ_ z=>z.ex e1⟩
  |false=>exact h1 H1 e1
theorem amr{rest:List Expr}(ha:tH aj X W a ta)(hb:QWt aj X W (.BoolOp .Or (b::rest) pos) tb):QWt aj X W (.BoolOp .Or (a::b::rest) pos) (BL ta tb):=
 PW.weak (pw_or ha hb) λσ H Q ⟨g,Z,M,I,h⟩=>by
  refine jK.go I h.bnd λx H1 h1 e1=>?_;cases x with
  |true=>exact h1 H1 e1
  |false=>exact⟨g,Z,M,I.ex e1,h1.mono (λb k H' e'=>k H' (e1.trans e')) λ_ z=>z.ex e1⟩
def Q9(a:QF):QF:=Wn (jC (bh a))
def yc(a b:QF):QF:=λM Z=>(a M Z).bind λd=>(Ck d).bind λx=>if x=true then b M Z else .ok (.bool false)
def agD(a b:QF):QF:=λM Z=>(a M Z).bind λd=>(Ck d).bind λx=>if x=true then .ok (.bool true) else b M Z
theorem aiJ(ha:QW aj X W a fa):QE aj X W (.UnaryOp .Not a pos) (Q9 fa):=
 PE.weak (pe_not ha) λσ H Q ⟨g,Z,M,I,h⟩=>by
  refine tW.go I h.bnd.bnd.bnd λd v H1 h1 e1 r1=>?_;obtain⟨k,h2,h3⟩:=Fe r1 h1;exact⟨k,h2,h3 _ H1 e1 (.bl _)⟩
theorem ail{rest:List Expr}(ha:QE aj X W a fa)(hb:QE aj X W (.BoolOp .And (b::rest) pos) fb):QE aj X W (.BoolOp .And (a::b::rest) pos) (yc fa fb):=
 PE.weak (pe_and ha hb) λσ H Q ⟨g,Z,M,I,h⟩=>by
  refine tQ.go I h.bnd λd v H1 h1 e1 r1=>?_;obtain⟨k,h2,h3⟩:=Fe r1.weak h1.bnd;refine⟨k,h2,?_⟩;cases k with
  |true=>exact⟨g,Z,M,I.ex e1,h3.mono (λb k v' H' e' r'=>k v' H' (e1.trans e') r') λ_ z=>z.ex e1⟩
  |false=>exact h3 _ H1 e1 (.bl false)
theorem alq{rest:List Expr}(ha:QE aj X W a fa)(hb:QE aj X W (.BoolOp .Or (b::rest) pos) fb):QE aj X W (.BoolOp .Or (a::b::rest) pos) (agD fa fb):=
 PE.weak (pe_or ha hb) λσ H Q ⟨g,Z,M,I,h⟩=>by
  refine tQ.go I h.bnd λd v H1 h1 e1 r1=>?_;obtain⟨k,h2,h3⟩:=Fe r1.weak h1.bnd;refine⟨k,h2,?_⟩;cases k with
  |false=>exact⟨g,Z,M,I.ex e1,h3.mono (λb k v' H' e' r'=>k v' H' (e1.trans e') r') λ_ z=>z.ex e1⟩
  |true=>exact h3 _ H1 e1 (.bl true)
theorem afQ(hc:tH aj X W c ta)(ha:QE aj X W a fa)(hb:QE aj X W b fb):QE aj X W (.IfExp c a b pos) (Ua ta fa fb):=
 PE.weak (pe_ifExp hc ha hb) λσ H Q ⟨g,Z,M,I,h⟩=>by
  refine jK.go I h.bnd λx H1 h1 e1=>?_;cases x with
  |true=>exact⟨g,Z,M,I.ex e1,h1.mono (λb k v' H' e' r'=>k v' H' (e1.trans e') r') λ_ z=>z.ex e1⟩
  |false=>exact⟨g,Z,M,I.ex e1,h1.mono (λb k v' H' e' r'=>k v' H' (e1.trans e') r') λ_ z=>z.ex e1⟩
def pq(o o':Dat->Dat->Out Dat)(a b c:QF):QT:=λM Z=>(a M Z).bind λx=>(b M Z).bind λy=>(o x y).bind λz=>(Ck z).bind λk=>if k=true then(c M Z).bind λw=>(o' y w).bind Ck else .ok false
theorem Yz{r r':R2}{o o':Dat->Dat->Out Dat}(ho:qI aj X.K W o r)(ho':qI aj X.K W o' r'){σ:L2.St}{H:Hp}{Q:VK}{P:Bool->Hp->Prop}(hP:∀k H',P k H'->Q (.bl k) H')(h:jK X.K aj W (pq o o' fa fb fc) σ H P):tChain r r' (tW X.K aj W fa) (tW X.K aj W fb) (tW X.K aj W fc) σ H Q:=by
 obtain⟨g,Z,M,I,h⟩:=h;refine tW.go I h.bnd λd v H1 h1 e1 r1=>?_;have I1:=I.ex e1;refine tW.go I1 (h1.bnd.mono (λ_ z=>z) λ_ z=>z.ex e1) λd2 v2 H2 h2 e2 r2=>?_;have I2:=I1.ex e2;have r1':=r1.ex e2 I1.kd;refine ho σ g H2 v v2 d d2 _ I2.kd r1' r2 (h2.bnd.mono (λz hz u H3 e3 r3=>?_) λ_ z=>(z.ex e1).ex e2);obtain⟨k,h4,h5⟩:=Fe r3.weak hz.bnd;refine⟨k,h4,?_⟩;have I3:=I2.ex e3;have e13:=(e1.trans e2).trans e3;cases k with
 |false=>exact hP _ _ (h5 H3 e13)
 |true=>
  refine tW.go I3 (h5.bnd.mono (λ_ z=>z) λ_ z=>z.ex e13) λd4 v4 H4 h6 e4 r4=>?_;refine ho' σ g H4 v2 v4 d2 d4 _ (I3.ex e4).kd ((r2.ex e3 I2.kd).ex e4 I3.kd) r4 (h6.bnd.mono (λz hz u H5 e5 r5=>?_) λ_ z=>(z.ex e13).ex e4);obtain⟨k,rfl,h8⟩:=Fe r5.weak hz;exact hP _ _ (h8 H5 ((e13.trans e4).trans e5))
theorem afO{op op':CmpOp}{r r':R2}{o o':Dat->Dat->Out Dat}(hr:OpR X (compareOp op) r)(hr':OpR X (compareOp op') r')(ho:qI aj X.K W o r)(ho':qI aj X.K W o' r')(ha:QW aj X W a fa)(hb:QW aj X W b fb)(hc:QW aj X W c fc)(hm:lastMarks [op,op'] [b,c]=false) :
  tH aj X W (.Compare a [op,op'] [b,c] pos) (pq o o' fa fb fc):=
 PT.weak (pt_chain hr hr' ha hb hc hm) λσ H Q h=>Yz ho ho' (λk H' z=>⟨k,rfl,z⟩) h
theorem afP{op op':CmpOp}{r r':R2}{o o':Dat->Dat->Out Dat}(hr:OpR X (compareOp op) r)(hr':OpR X (compareOp op') r')(ho:qI aj X.K W o r)(ho':qI aj X.K W o' r')(ha:QW aj X W a fa)(hb:QW aj X W b fb)(hc:QW aj X W c fc)(hm:lastMarks [op,op'] [b,c]=false) :
  QE aj X W (.Compare a [op,op'] [b,c] pos) (Wn (pq o o' fa fb fc)):=
 PE.weak (pe_chain hr hr' ha hb hc hm) λσ H Q ⟨g,Z,M,I,h⟩=>Yz (P:=λb H1=>Q (.bl b) H1) ho ho' (λk H' z=>z) ⟨g,Z,M,I,h.bnd.mono (λb h1 H' e'=>h1 _ H' e' (.bl b)) λ_ z=>z⟩
end
def aW:Dat->Dat->Out Dat
 |.list ds,.int i=>match atI ds i with
  |some d=>.ok d
  |none=>.bad
 |.tuple ds,.int i=>match atI ds i with
  |some d=>.ok d
  |none=>.bad
 |.str z,.int i=>Out.when (decide (z.length<=100000)) (match atI z.cps.toList i with
  |some c=>.ok (.str ⟨#[c]⟩)
  |none=>.bad)
 |_,_=>.bad
theorem abR{K:arG}{g:Gh}{H:Hp}{us:List V}{ds:List Dat}{i:Int}{d:Dat}(h:aM K g H us ds)(e:atI ds i=some d):∃v,atI us i=some v/\Rep K g H v d:=by
 unfold atI at e ⊢;rw[h.length];cases hj:ixN ds.length i with
 |none=>rw[hj]at e;cases e
 |some j=>
  rw[hj]at e;obtain⟨v,h1,h2⟩:=h.get (i:=j) e;exact⟨v,h1,h2⟩
def akc(K:arG):R2:=λx y H Q=>rIxL K x y H Q∨rIxT K x y H Q∨rIxS x y H Q
theorem aoj{X:Cx}:IxR X (akc X.K):=λvalue slice pins s σ H x y v u Q I rx ry h hs=>by
 rcases h with h|h|h
 ·exact ix_list value slice pins s σ H x y v u Q I rx ry h hs
 ·exact ix_tup value slice pins s σ H x y v u Q I rx ry h hs
 ·exact ix_str value slice pins s σ H x y v u Q I rx ry h hs
theorem amx{K:arG}{aj:aR}{W:WX}:qI aj K W aW (akc K):=λσ g H x y d e Q k rx ry h=>by
 unfold aW at h;split at h
 ·split at h
  ·next z hz=>
   obtain⟨p,us,rfl,h1,h2⟩:=gK rx;obtain⟨v,h3,h4⟩:=abR h2 hz;exact .inl ⟨p,us,_,v,rfl,cI ry,h1,h3,h v H (Ex.refl H) h4⟩
  ·exact atd h
 ·split at h
  ·next z hz=>
   obtain⟨p,us,rfl,h1,h2⟩:=kW rx;obtain⟨v,h3,h4⟩:=abR h2 hz;exact .inr (.inl ⟨p,us,_,v,rfl,cI ry,h1,h3,h v H (Ex.refl H) h4⟩)
  ·exact atd h
 ·obtain⟨hl,h⟩:=h.o9;split at h
  ·next c hz=>exact .inr (.inr ⟨_,_,c,jW rx,cI ry,sz_of (atf hl),hz,h _ H (Ex.refl H) (.str _)⟩)
  ·exact atd h
 ·exact atd h
def cutD{α:Type}(xs:List α)(lo hi:Option Int):List α:=(xs.drop (HT.sIx xs.length 0 lo)).take (HT.sIx xs.length xs.length hi - HT.sIx xs.length 0 lo)
abbrev QO:=Mo->Env->Out (Option Int)
def DK:QO:=λ_ _=>.ok none
def Bv:Dat->Out Int
 |.int i=>.ok i
 |_=>.bad
def uK(a:QF):QO:=λM Z=>(a M Z).bind λd=>(Bv d).bind λi=>.ok (some i)
def slD(d:Dat)(lo hi:Option Int):Out Dat:=
 match d with
 |.list ds=>.ok (.list (cutD ds lo hi))
 |.tuple ds=>.ok (.tuple (cutD ds lo hi))
 |.str z=>Out.when (decide (z.length<=100000)) (.ok (.str (cutS z lo hi)))
 |_=>.bad
def SN(a:QF)(lo hi:QO):QF:=λM Z=>(a M Z).bind λd=>(lo M Z).bind λl=>(hi M Z).bind λh=>slD d l h
def tQO(K:arG)(aj:aR)(W:WX)(f:QO):TO:=λσ H Q=>∃g Z M,SInv K aj σ H g Z M/\(f M Z).sat (λo=>∀H',Ex H H'->Q o H') (qJ K aj W g H σ)
def QOe(aj:aR)(X:Cx)(W:WX)(e:Option Expr)(f:QO):Prop:=PO X e (tQO X.K aj W f)
def ajE(K:arG):V->Option Int->Option Int->Hp->VK->Prop:=λx lo hi H Q=>rSlL K x lo hi H Q∨rSlA K x lo hi H Q∨rSlS x lo hi H Q
theorem anr{X:Cx}:SlR X (ajE X.K):=λpins s σ H x v vl vu lo hi sl Q I rx hs pl pu h=>by
 rcases h with h|h|h
 ·exact sl_list pins s σ H x v vl vu lo hi sl Q I rx hs pl pu h
 ·exact sl_tupA pins s σ H x v vl vu lo hi sl Q I rx hs pl pu h
 ·exact sl_str pins s σ H x v vl vu lo hi sl Q I rx hs pl pu h
theorem amc{K:arG}{g:Gh}{H:Hp}{x:V}{d:Dat}{lo hi:Option Int}{Q:VK}{E:dR->Prop}(k:Kd g H)(rx:eG K g H x d)(h:(slD d lo hi).sat (λz=>∀v H',Ex H H'->Rep K g H' v z->Q v H') E):ajE K x lo hi H Q:=by
 unfold slD at h;have hc:∀{us:List V} {ds:List Dat},aM K g H us ds->aM K g H (cutV us lo hi) (cutD ds lo hi):=λ{us ds} t=>by
  unfold cutV cutD;rw[t.length];exact(t.drop _).take _
 split at h
 ·obtain⟨p,us,rfl,h1,h2⟩:=gK rx;exact .inl ⟨p,us,rfl,h1,λq nq=>h _ _ (Ex.new nq) (.lst (.inl ⟨.inl upd_same,k.fresh nq⟩) ((hc h2).ex (Ex.new nq) k))⟩
 ·next ds=>
  obtain⟨p,us,rfl,h1,h2⟩:=kW rx;refine .inr (.inl ⟨p,us,rfl,h1,λz=>?_,λ_ q nq=>h _ _ (Ex.new nq) (.tup (st_of upd_same) ((hc h2).ex (Ex.new nq) k))⟩);have e:cutD ds lo hi=ds:=by unfold cutD;rw[←h2.length,z.1,z.2,h2.length];simp
  rw[e]at h;exact h _ H (Ex.refl H) (.tup h1 h2)
 ·obtain⟨hz,h⟩:=h.o9;exact .inr (.inr ⟨_,jW rx,sz_of (atf hz),h _ H (Ex.refl H) (.str _)⟩)
 ·exact atd h
section
variable{X:Cx}{aj:aR}{W:WX}{a b:Expr}{fa fb:QF}{pos p2:Pos}
theorem ams(ha:QW aj X W a fa)(hb:QW aj X W b fb)(hs:PlainIx b):QE aj X W (.Subscript a b pos) (aA aW fa fb):=
 PE.weak (pe_ix aoj ha hb hs) λσ H Q h=>R3 amx σ H Q h
theorem PO.weak{X:Cx}{e:Option Expr}{t t':TO}(h:PO X e t)(k:∀σ H Q,t' σ H Q->t σ H Q):PO X e t':=⟨λpins s σ H Q I q=>h.run pins s σ H Q I (k σ H Q q)⟩
theorem ahJ:QOe aj X W none DK:=PO.weak po_none λσ H Q ⟨g,Z,M,I,h⟩=>h H (Ex.refl H)
theorem aik(ha:QW aj X W a fa):QOe aj X W (some a) (uK fa):=PO.weak (po_some ha) λσ H Q ⟨g,Z,M,I,h⟩=>by
 refine tW.go I h.bnd λd v H1 h1 e1 r1=>?_;have h1:=h1.bnd;unfold Bv at h1;split at h1
 ·exact⟨_,cI r1,h1 H1 e1⟩
 ·exact atd h1
theorem amm{lo hi:Option Expr}{fl fh:QO}(ha:QW aj X W a fa)(hl:QOe aj X W lo fl)(hh:QOe aj X W hi fh):QE aj X W (.Subscript a (.Slice lo hi none p2) pos) (SN fa fl fh):=
 PE.weak (pe_slice anr ha hl hh) λσ H Q ⟨g,Z,M,I,h⟩=>by
  refine tW.go I h.bnd λd v H1 h1 e1 r1=>?_;have I1:=I.ex e1;refine⟨g,Z,M,I1,h1.bnd.mono (λl h2 H2 e2=>?_) λ_ z=>z.ex e1⟩;have I2:=I1.ex e2;refine⟨g,Z,M,I2,h2.bnd.mono (λu h3 H3 e3=>?_) λ_ z=>(z.ex e1).ex e2⟩;exact amc (I2.ex e3).kd ((r1.ex e2 I1.kd).ex e3 I2.kd) (h3.mono (λz hz v' H' e' r'=>hz v' H' (((e1.trans e2).trans e3).trans e') r') λ_ z=>z)
end
def Kl(aj:aR)(K:arG)(W:WX)(o:Dat->Out Dat)(r:List V->Hp->VK->Prop):Prop:=∀(σ:L2.St) (g:Gh) (H:Hp) (x:V) (d:Dat) (Q:VK),Kd g H->eG K g H x d->
 (o d).sat (λz=>∀v H',Ex H H'->Rep K g H' v z->Q v H') (qJ K aj W g H σ)->r [x] H Q
def Fn2(aj:aR)(K:arG)(W:WX)(o:Dat->Dat->Out Dat)(r:List V->Hp->VK->Prop):Prop:=∀(σ:L2.St) (g:Gh) (H:Hp) (x y:V) (d e:Dat) (Q:VK),Kd g H->eG K g H x d->eG K g H y e->
 (o d e).sat (λz=>∀v H',Ex H H'->Rep K g H' v z->Q v H') (qJ K aj W g H σ)->r [x,y] H Q
def BV(f:Value)(x:Str):Prop:=bootBuiltins x=some f/\x≠"__name__"/\(x==("__debug__" : Str))=false
def nst:Expr->Bool
 |.Starred _ _=>false
 |_=>true
section
variable{X:Cx}{aj:aR}{W:WX}{a b c:Expr}{fa fb fc:QF}{pos p:Pos}{x:Str}
theorem cH{env:PySem.Env}{a:Expr}(h:nst a=true)(es:List Expr):starEach (a::es) env=(false,eval a env)::starEach es env:=by cases a<;>first | rfl | cases h
theorem star_any{env:PySem.Env}{pos:Pos}:∀(es:List Expr),es.all nst=true->(backTo pos (starEach es env)).any (·.1)=false
 |[],_=>by with_unfolding_all rfl
 |a::es,h=>by
  rw[asx,arH]at h;rw[cH h.1];have ih:=star_any (env:=env) (pos:=pos) es h.2;unfold backTo at ih ⊢;rw[arK,asR,ih];rfl
theorem ag8{f:Value}{id:String}{r:List V->Hp->VK->Prop}{o:Dat->Out Dat}(hf:f=.builtin id∨f=.type id)(hc:CallR X f r)(ho:Kl aj X.K W o r)(hg:Gl X x)(hm:X.mg x=none)(hv:BV f x)(ha:QW aj X W a fa)(hs:nst a=true):QE aj X W (.Call (.Name x p) [a] [] pos) (eZ o fa):=by
 have h1:=pa_cons ha pa_nil (cH hs []);have key:PE X (.Call (.Name x p) [a] [] pos) (tCB r (tCons (tW X.K aj W fa) tNil)):=by
  rcases hf with rfl|rfl
  ·exact pe_callB hc hg hm hv.1 h1 hv.2.1 hv.2.2 (cH hs []) (by with_unfolding_all rfl)
  ·exact pe_callTy hc hg hm hv.1 h1 hv.2.1 hv.2.2 (cH hs []) (by with_unfolding_all rfl)
 refine PE.weak key λσ H Q ⟨g,Z,M,I,h⟩=>?_;refine tW.go I h.bnd λd v H1 h1 e1 r1=>?_;exact ho σ g H1 v d Q (I.kd.ex e1) r1 (h1.mono (λz hz u H' e' r'=>hz u H' (e1.trans e') r') λ_ z=>z.ex e1)
theorem ama{f:Value}{id:String}{r:List V->Hp->VK->Prop}{o:Dat->Dat->Out Dat}(hf:f=.builtin id∨f=.type id)(hc:CallR X f r)(ho:Fn2 aj X.K W o r)(hg:Gl X x)(hm:X.mg x=none)(hv:BV f x)(ha:QW aj X W a fa)(hb:QW aj X W b fb)(hs:nst a=true)(hs2:nst b=true):QE aj X W (.Call (.Name x p) [a,b] [] pos) (aA o fa fb):=by
 have h1:=pa_cons ha (pa_cons hb pa_nil (cH hs2 [])) (cH hs [b]);have key:PE X (.Call (.Name x p) [a,b] [] pos) (tCB r (tCons (tW X.K aj W fa) (tCons (tW X.K aj W fb) tNil))):=by
  rcases hf with rfl|rfl
  ·exact pe_callB hc hg hm hv.1 h1 hv.2.1 hv.2.2 (cH hs [b]) (star_any [b] (by simp[hs2]))
  ·exact pe_callTy hc hg hm hv.1 h1 hv.2.1 hv.2.2 (cH hs [b]) (star_any [b] (by simp[hs2]))
 refine PE.weak key λσ H Q ⟨g,Z,M,I,h⟩=>?_;refine tW.go I h.bnd λd v H1 h1 e1 r1=>?_;have I1:=I.ex e1;refine tW.go I1 (h1.bnd.mono (λ_ z=>z) λ_ z=>z.ex e1) λd2 v2 H2 h2 e2 r2=>?_;exact ho σ g H2 v v2 d d2 Q (I1.ex e2).kd (r1.ex e2 I1.kd) r2 (h2.mono (λz hz u H' e' r'=>hz u H' ((e1.trans e2).trans e') r') λ_ z=>(z.ex e1).ex e2)
end
def pJ:Dat->Out Dat
 |.list ds=>.ok (.int ds.length)
 |.tuple ds=>.ok (.int ds.length)
 |.str x=>Out.when (decide (x.length<=100000)) (.ok (.int x.length))
 |_=>.bad
def Ui:Dat->Out Dat
 |.int i=>.ok (.int (if i < 0 then -i else i))
 |_=>.bad
def tD:Dat->Dat->Out Dat
 |.int i,.int j=>.ok (.int (if j > i then j else i))
 |_,_=>.bad
def Jd:Dat->Dat->Out Dat
 |.int i,.int j=>.ok (.int (if j < i then j else i))
 |_,_=>.bad
def intsOf:List Dat->Option (List Int)
 |[]=>some []
 |.int i::r=>(intsOf r).map (i::·)
 |_::_=>none
def qY:List Dat->Option (List Bool)
 |[]=>some []
 |.bool i::r=>(qY r).map (i::·)
 |_::_=>none
theorem yd{K:arG}{g:Gh}{H:Hp}:∀{us:List V} {ds:List Dat} {ns:List Int},aM K g H us ds->intsOf ds=some ns->us=ns.map V.int
 |_,_,ns,.nil,e=>by cases e;rfl
 |_,_,ns,.cons (d:=d) (ds:=ds) h t,e=>by
  cases d with
  |int i=>
   rw[intsOf]at e;cases hr:intsOf ds with
   |none=>rw[hr]at e;cases e
   |some r=>
    rw[hr]at e;cases e;cases h;rw[yd t hr];rfl
  |_=>cases e
theorem Ly{K:arG}{g:Gh}{H:Hp}:∀{us:List V} {ds:List Dat} {ns:List Bool},aM K g H us ds->qY ds=some ns->us=ns.map V.bl
 |_,_,ns,.nil,e=>by cases e;rfl
 |_,_,ns,.cons (d:=d) (ds:=ds) h t,e=>by
  cases d with
  |bool i=>
   rw[qY]at e;cases hr:qY ds with
   |none=>rw[hr]at e;cases e
   |some r=>
    rw[hr]at e;cases e;cases h;rw[Ly t hr];rfl
  |_=>cases e
@[simp]theorem mF (ns:List Int):intsOf (ns.map PyData.int)=some ns:=by
 induction ns with
 |nil=>rfl
 |cons n ns ih=>rw[arK,intsOf,ih];rfl
@[simp]theorem Ao (ns:List Bool):qY (ns.map PyData.bool)=some ns:=by
 induction ns with
 |nil=>rfl
 |cons n ns ih=>rw[arK,qY,ih];rfl
def Vw:Dat->Out Dat
 |.list ds=>match intsOf ds with
  |some ns=>.ok (.int ns.sum)
  |none=>.bad
 |_=>.bad
def FZ:Int->List Int->Int
 |m,[]=>m
 |m,n::ns=>FZ (if n > m then n else m) ns
theorem Ez:∀(ns:List Int) (m:Int),(FZ m ns∈m::ns)/\∀y∈m::ns,y<=FZ m ns
 |[],m=>⟨by simp[FZ],λy h=>by simp at h;subst h;exact Int.le_refl _⟩
 |n::ns,m=>by
  obtain⟨h1,h2⟩:=Ez ns (if n > m then n else m);have hm:m<=(if n > m then n else m):=by split<;>omega
  have hn:n<=(if n > m then n else m):=by split<;>omega
  have h3:=h2 _ arM;refine⟨?_,λy hy=>?_⟩
  ·show FZ (if n > m then n else m) ns∈_;rcases arV.mp h1 with e|e
   ·rw[e];split
    ·exact arL _ arM
    ·exact arM
   ·exact arL _ (arL _ e)
  ·show y<=FZ (if n > m then n else m) ns;rcases arV.mp hy with e|hy
   ·omega
   ·rcases arV.mp hy with e|hy
    ·omega
    ·exact h2 y (arL _ hy)
def maxD:Dat->Out Dat
 |.list ds=>match intsOf ds with
  |some (n::ns)=>.ok (.int (FZ n ns))
  |_=>.bad
 |_=>.bad
def Jr:Dat->Out Dat
 |.list ds=>match qY ds with
  |some bs=>.ok (.bool (bs.all id))
  |none=>.bad
 |_=>.bad
def Qc:Dat->Out Dat
 |.list ds=>match qY ds with
  |some bs=>.ok (.bool (bs.any id))
  |none=>.bad
 |_=>.bad
def kE:Dat->Out Dat
 |.list ds=>.ok (.tuple ds)
 |.tuple ds=>.ok (.tuple ds)
 |_=>.bad
def N6:Dat->Out Dat
 |.list ds=>.ok (.list ds)
 |.tuple ds=>.ok (.list ds)
 |_=>.bad
def intD:Dat->Out Dat
 |.int i=>.ok (.int i)
 |.bool k=>.ok (.int (if k then 1 else 0))
 |.str x=>Out.when (decide (x.length<=640)) (match PySem.intText? x with
  |some n=>.ok (.int n)
  |none=>.bad)
 |_=>.bad
def ag6(K:arG):List V->Hp->VK->Prop:=λxs H Q=>(∃p ys,xs=[.ref p]/\(SqL K H p ys∨SqT K H p ys)/\Q (.int ys.length) H)∨∃z,xs=[.str z]/\z.length<=sizeLine/\Q (.int z.length) H
theorem akg{X:Cx}:CallR X (.builtin "len") (ag6 X.K):=λpins s σ H xs us Q I r h=>h.elim (λh=>call_len_seq pins s σ H xs us Q I r h) λh=>call_len_str pins s σ H xs us Q I r h
def agZ:List V->Hp->VK->Prop:=λxs H Q=>((∃i,xs=[.int i]/\Q (.int i) H)∨∃k,xs=[.bl k]/\Q (.int (if k then 1 else 0)) H)∨∃a n,xs=[.str a]/\PySem.intText? a=some n/\a.length<=640/\Q (.int n) H
theorem ak8{X:Cx}:CallR X (.type "int") agZ:=λpins s σ H xs us Q I r h=>h.elim (λh=>call_int1 pins s σ H xs us Q I r h) λh=>call_int_str pins s σ H xs us Q I r h
section
variable{K:arG}{aj:aR}{W:WX}
theorem aje:Kl aj K W pJ (ag6 K):=λσ g H x d Q k rx h=>by
 unfold pJ at h;split at h
 ·obtain⟨p,us,rfl,h1,h2⟩:=gK rx;rw[←h2.length]at h;exact .inl ⟨p,us,rfl,.inl h1,h _ H (Ex.refl H) (.int _)⟩
 ·obtain⟨p,us,rfl,h1,h2⟩:=kW rx;rw[←h2.length]at h;exact .inl ⟨p,us,rfl,.inr h1,h _ H (Ex.refl H) (.int _)⟩
 ·obtain⟨hz,h⟩:=h.o9;cases jW rx;exact .inr ⟨_,rfl,sz_of (atf hz),h _ H (Ex.refl H) (.int _)⟩
 ·exact atd h
theorem alR:Kl aj K W Ui (λxs H Q=>∃i,xs=[.int i]/\Q (.int (if i < 0 then -i else i)) H):=λσ g H x d Q k rx h=>by
 unfold Ui at h;split at h
 ·cases cI rx;exact⟨_,rfl,h _ H (Ex.refl H) (.int _)⟩
 ·exact atd h
theorem ahx:Fn2 aj K W tD (λxs H Q=>∃i j,xs=[.int i,.int j]/\Q (.int (if j > i then j else i)) H):=λσ g H x y d e Q k rx ry h=>by
 unfold tD at h;split at h
 ·cases cI rx;cases cI ry;exact⟨_,_,rfl,h _ H (Ex.refl H) (.int _)⟩
 ·exact atd h
theorem aix:Fn2 aj K W Jd (λxs H Q=>∃i j,xs=[.int i,.int j]/\Q (.int (if j < i then j else i)) H):=λσ g H x y d e Q k rx ry h=>by
 unfold Jd at h;split at h
 ·cases cI rx;cases cI ry;exact⟨_,_,rfl,h _ H (Ex.refl H) (.int _)⟩
 ·exact atd h
theorem akI:Kl aj K W Vw (rSum K):=λσ g H x d Q k rx h=>by
 unfold Vw at h;split at h
 ·split at h
  ·next ns e=>
   obtain⟨p,us,rfl,h1,h2⟩:=gK rx;have:=yd h2 e;subst this;exact⟨p,ns,rfl,h1,h _ H (Ex.refl H) (.int _)⟩
  ·exact atd h
 ·exact atd h
theorem ajd:Kl aj K W maxD (rMax K):=λσ g H x d Q k rx h=>by
 unfold maxD at h;split at h
 ·split at h
  ·next n ns e=>
   obtain⟨p,us,rfl,h1,h2⟩:=gK rx;have:=yd h2 e;subst this;obtain⟨m1,m2⟩:=Ez ns n;refine⟨p,n::ns,rfl,h1,by simp,λm hm hy=>?_⟩;have e2:m=FZ n ns:=Int.le_antisymm (m2 m hm) (hy _ m1);rw[e2];exact h _ H (Ex.refl H) (.int _)
  ·exact atd h
 ·exact atd h
theorem ajB:Kl aj K W Jr (rAll K):=λσ g H x d Q k rx h=>by
 unfold Jr at h;split at h
 ·split at h
  ·next ns e=>
   obtain⟨p,us,rfl,h1,h2⟩:=gK rx;have:=Ly h2 e;subst this;exact⟨p,ns,rfl,h1,h _ H (Ex.refl H) (.bl _)⟩
  ·exact atd h
 ·exact atd h
theorem akV:Kl aj K W Qc (rAny K):=λσ g H x d Q k rx h=>by
 unfold Qc at h;split at h
 ·split at h
  ·next ns e=>
   obtain⟨p,us,rfl,h1,h2⟩:=gK rx;have:=Ly h2 e;subst this;exact⟨p,ns,rfl,h1,h _ H (Ex.refl H) (.bl _)⟩
  ·exact atd h
 ·exact atd h
theorem agG:Kl aj K W kE (λxs H Q=>∃p ys,xs=[.ref p]/\((SqL K H p ys/\∀l,H l=none->Q (.ref l) (upd H l (.tup ys)))∨(SqT K H p ys/\Q (.ref p) H))):=λσ g H x d Q k rx h=>by
 unfold kE at h;split at h
 ·obtain⟨p,us,rfl,h1,h2⟩:=gK rx;exact⟨p,us,rfl,.inl ⟨h1,λl nl=>h _ _ (Ex.new nl) (.tup (st_of upd_same) (h2.ex (Ex.new nl) k))⟩⟩
 ·obtain⟨p,us,rfl,h1,h2⟩:=kW rx;exact⟨p,us,rfl,.inr ⟨h1,h _ H (Ex.refl H) (.tup h1 h2)⟩⟩
 ·exact atd h
theorem aip:Kl aj K W N6 (λxs H Q=>∃p ys,xs=[.ref p]/\(SqL K H p ys∨SqT K H p ys)/\∀l,H l=none->Q (.ref l) (upd H l (.lst ys))):=λσ g H x d Q k rx h=>by
 unfold N6 at h;split at h
 ·obtain⟨p,us,rfl,h1,h2⟩:=gK rx;exact⟨p,us,rfl,.inl h1,λl nl=>h _ _ (Ex.new nl) (.lst (.inl ⟨.inl upd_same,k.fresh nl⟩) (h2.ex (Ex.new nl) k))⟩
 ·obtain⟨p,us,rfl,h1,h2⟩:=kW rx;exact⟨p,us,rfl,.inr h1,λl nl=>h _ _ (Ex.new nl) (.lst (.inl ⟨.inl upd_same,k.fresh nl⟩) (h2.ex (Ex.new nl) k))⟩
 ·exact atd h
theorem aj8:Kl aj K W intD agZ:=λσ g H x d Q k rx h=>by
 unfold intD at h;split at h
 ·cases cI rx;exact .inl (.inl ⟨_,rfl,h _ H (Ex.refl H) (.int _)⟩)
 ·cases Et rx;exact .inl (.inr ⟨_,rfl,h _ H (Ex.refl H) (.int _)⟩)
 ·obtain⟨hz,h⟩:=h.o9;split at h
  ·next n e=>
   cases jW rx;exact .inr ⟨_,n,rfl,e,atf hz,h _ H (Ex.refl H) (.int _)⟩
  ·exact atd h
 ·exact atd h
end
inductive O6 where
 |int|bool|str|tuple|list
def O6.name:O6->String
 |.int=>"int"
 |.bool=>"bool"
 |.str=>"str"
 |.tuple=>"tuple"
 |.list=>"list"
def Bp(t:O6):Dat->Option Bool
 |.none=>some false
 |.int _=>some (match t with
  |.int=>true
  |_=>false)
 |.bool _=>some (match t with
  |.int=>true
  |.bool=>true
  |_=>false)
 |.str _=>some (match t with
  |.str=>true
  |_=>false)
 |.tuple _=>some (match t with
  |.tuple=>true
  |_=>false)
 |.list _=>some (match t with
  |.list=>true
  |_=>false)
 |.dict _=>none
def xV(t:O6)(d:Dat):Out Dat:=match Bp t d with
 |some b=>.ok (.bool b)
 |none=>.bad
def akQ:Dat->String
 |.none=>"NoneType"
 |.int _=>"int"
 |.bool _=>"bool"
 |.str _=>"str"
 |.tuple _=>"tuple"
 |.list _=>"list"
 |.dict _=>"dict"
theorem ajb{K:arG}{H:Hp}{a:Addr}{xs:List V}(h:SqL K H a xs):TyX K H (.ref a) (.type "list"):=by
 rcases h with(h|⟨o,h⟩)|⟨o,its,n,h1,h2,_⟩
 ·exact .base (.lst h)
 ·exact .base (.frz h)
 ·exact .kList h1 h2
theorem alS{K:arG}{H:Hp}{a:Addr}{xs:List V}(h:SqT K H a xs):TyX K H (.ref a) (.type "tuple"):=by
 rcases h with(h|⟨o,h⟩)|⟨o,its,n,h1,h2,_⟩
 ·exact .base (.tup h)
 ·exact .fTuple h
 ·exact .kTuple h1 h2
theorem amf{K:arG}{g:Gh}{H:Hp}{x:V}{d:Dat}(h:eG K g H x d)(hd:∀kv,d≠.dict kv):TyX K H x (.type (akQ d)):=by
 cases d with
 |none=>cases Gy h;exact .base .non
 |bool b=>cases Et h;exact .base (.bl _)
 |int b=>cases cI h;exact .base (.int _)
 |str b=>cases jW h;exact .base (.str _)
 |list b=>obtain⟨a,us,rfl,h1,_⟩:=gK h;exact ajb h1
 |tuple b=>obtain⟨a,us,rfl,h1,_⟩:=kW h;exact alS h1
 |dict kv=>exact absurd rfl (hd kv)
theorem aaX{K:arG}:PySem.W.kitOne K (.type "int") (.type "int")=some true:=kit_ty (by decide +kernel)
theorem aay{K:arG}:PySem.W.kitOne K (.type "int") (.type "bool")=some false:=kit_ty (by decide +kernel)
theorem aa0{K:arG}:PySem.W.kitOne K (.type "int") (.type "str")=some false:=kit_ty (by decide +kernel)
theorem Yd{K:arG}:PySem.W.kitOne K (.type "int") (.type "tuple")=some false:=kit_ty (by decide +kernel)
theorem Y7{K:arG}:PySem.W.kitOne K (.type "int") (.type "list")=some false:=kit_ty (by decide +kernel)
theorem Zv{K:arG}:PySem.W.kitOne K (.type "bool") (.type "int")=some true:=kit_ty (by decide +kernel)
theorem XR{K:arG}:PySem.W.kitOne K (.type "bool") (.type "bool")=some true:=kit_ty (by decide +kernel)
theorem Z0{K:arG}:PySem.W.kitOne K (.type "bool") (.type "str")=some false:=kit_ty (by decide +kernel)
theorem Vc{K:arG}:PySem.W.kitOne K (.type "bool") (.type "tuple")=some false:=kit_ty (by decide +kernel)
theorem XF{K:arG}:PySem.W.kitOne K (.type "bool") (.type "list")=some false:=kit_ty (by decide +kernel)
theorem aa9{K:arG}:PySem.W.kitOne K (.type "str") (.type "int")=some false:=kit_ty (by decide +kernel)
theorem Zr{K:arG}:PySem.W.kitOne K (.type "str") (.type "bool")=some false:=kit_ty (by decide +kernel)
theorem aaM{K:arG}:PySem.W.kitOne K (.type "str") (.type "str")=some true:=kit_ty (by decide +kernel)
theorem XD{K:arG}:PySem.W.kitOne K (.type "str") (.type "tuple")=some false:=kit_ty (by decide +kernel)
theorem aan{K:arG}:PySem.W.kitOne K (.type "str") (.type "list")=some false:=kit_ty (by decide +kernel)
theorem Ye{K:arG}:PySem.W.kitOne K (.type "tuple") (.type "int")=some false:=kit_ty (by decide +kernel)
theorem Uy{K:arG}:PySem.W.kitOne K (.type "tuple") (.type "bool")=some false:=kit_ty (by decide +kernel)
theorem X5{K:arG}:PySem.W.kitOne K (.type "tuple") (.type "str")=some false:=kit_ty (by decide +kernel)
theorem Sv{K:arG}:PySem.W.kitOne K (.type "tuple") (.type "tuple")=some true:=kit_ty (by decide +kernel)
theorem U5{K:arG}:PySem.W.kitOne K (.type "tuple") (.type "list")=some false:=kit_ty (by decide +kernel)
theorem ZC{K:arG}:PySem.W.kitOne K (.type "list") (.type "int")=some false:=kit_ty (by decide +kernel)
theorem Xy{K:arG}:PySem.W.kitOne K (.type "list") (.type "bool")=some false:=kit_ty (by decide +kernel)
theorem aae{K:arG}:PySem.W.kitOne K (.type "list") (.type "str")=some false:=kit_ty (by decide +kernel)
theorem Vx{K:arG}:PySem.W.kitOne K (.type "list") (.type "tuple")=some false:=kit_ty (by decide +kernel)
theorem XS{K:arG}:PySem.W.kitOne K (.type "list") (.type "list")=some true:=kit_ty (by decide +kernel)
theorem Q8{K:arG}:PySem.W.kitOne K (.type "NoneType") (.type "int")=some false:=kit_ty (by decide +kernel)
theorem Ov{K:arG}:PySem.W.kitOne K (.type "NoneType") (.type "bool")=some false:=kit_ty (by decide +kernel)
theorem QV{K:arG}:PySem.W.kitOne K (.type "NoneType") (.type "str")=some false:=kit_ty (by decide +kernel)
theorem Nf{K:arG}:PySem.W.kitOne K (.type "NoneType") (.type "tuple")=some false:=kit_ty (by decide +kernel)
theorem Ou{K:arG}:PySem.W.kitOne K (.type "NoneType") (.type "list")=some false:=kit_ty (by decide +kernel)
theorem aio{K:arG}{t:O6}{d:Dat}{b:Bool}(h:Bp t d=some b):PySem.W.kitOne K (.type (akQ d)) (.type t.name)=some b/\∀kv,d≠.dict kv:=by
 cases d with
 |dict kv=>cases h
 |none=>
  refine⟨?_,λ_ z=>nomatch z⟩;cases t<;>cases h
  ·exact Q8
  ·exact Ov
  ·exact QV
  ·exact Nf
  ·exact Ou
 |bool x=>
  refine⟨?_,λ_ z=>nomatch z⟩;cases t<;>cases h
  ·exact Zv
  ·exact XR
  ·exact Z0
  ·exact Vc
  ·exact XF
 |int x=>
  refine⟨?_,λ_ z=>nomatch z⟩;cases t<;>cases h
  ·exact aaX
  ·exact aay
  ·exact aa0
  ·exact Yd
  ·exact Y7
 |str x=>
  refine⟨?_,λ_ z=>nomatch z⟩;cases t<;>cases h
  ·exact aa9
  ·exact Zr
  ·exact aaM
  ·exact XD
  ·exact aan
 |list x=>
  refine⟨?_,λ_ z=>nomatch z⟩;cases t<;>cases h
  ·exact ZC
  ·exact Xy
  ·exact aae
  ·exact Vx
  ·exact XS
 |tuple x=>
  refine⟨?_,λ_ z=>nomatch z⟩;cases t<;>cases h
  ·exact Ye
  ·exact Uy
  ·exact X5
  ·exact Sv
  ·exact U5
def wB(t:O6)(a:QF):QF:=eZ (xV t) a
section
variable{X:Cx}{aj:aR}{W:WX}{a b:Expr}{fa:QF}{pos p p2:Pos}{x y:Str}
theorem alg{t:O6}(hg:Gl X x)(hm:X.mg x=none)(hv:BV (.builtin "isinstance") x)(hg2:Gl X y)(hm2:X.mg y=none)(hv2:BV (.type t.name) y)(ha:QW aj X W a fa)(hs:nst a=true):QE aj X W (.Call (.Name x p) [a,.Name y p2] [] pos) (wB t fa):=by
 have hb:PE X (.Name y p2) (tC (.ty t.name)):=pe_bltn hg2 hm2 hv2.1 rfl hv2.2.1 hv2.2.2;have h1:=pa_cons ha (pa_cons hb pa_nil (cH (a:=.Name y p2) rfl [])) (cH hs [.Name y p2]);have key:=pe_callB (pos:=pos) (p:=p) call_isi hg hm hv.1 h1 hv.2.1 hv.2.2 (cH hs [.Name y p2]) (star_any [.Name y p2] rfl);refine PE.weak key λσ H Q ⟨g,Z,M,I,h⟩=>?_;refine tW.go I h.bnd λd v H1 h1 e1 r1=>?_;unfold xV at h1;split at h1
 ·next bb e=>
  obtain⟨k1,k2⟩:=aio (K:=X.K) e;exact⟨v,_,_,_,bb,rfl,.ty _,amf r1 k2,k1,h1 _ H1 e1 (.bl _)⟩
 ·exact atd h1
end
inductive Src where
 |lst (a:Addr)|tup (a:Addr)|str (x:Str)
def chars(x:Str):List V:=x.cps.toList.map λc=>V.str ⟨#[c]⟩
def Src.sq(K:arG)(H:Hp)(us:List V):Src->Prop
 |.lst a=>SqL K H a us
 |.tup a=>SqT K H a us
 |.str x=>us=chars x
def Src.it(h:Heap)(i:Addr)(n:Nat):Src->Prop
 |.lst a=>h.IsListIter i a n
 |.tup a=>h.IsTupleIter i a n
 |.str x=>∃t,h.IsStrIter i (strIterType x) x t n
def Src.ad:Src->List Addr
 |.lst a=>[a]
 |.tup a=>[a]
 |.str _=>[]
section
variable{X:Cx}{pins:List (Addr×Obj)}{σ:L2.St}{H:Hp}{s:Shared}
theorem Src.inj{S:Src}{us ws:List V}(I:L2.Inv X pins σ H s)(h:S.sq X.K H us)(h':S.sq X.K H ws):us=ws:=by
 cases S with
 |lst a=>exact I.list_inj h h'
 |tup a=>exact I.tuple_inj h h'
 |str x=>exact Eq.trans h (Eq.symm h')
theorem Src.draws{S:Src}{us:List V}{i:Addr}{n:Nat}(I:L2.Inv X pins σ H s)(hA:X.A.handled=none)(hs:S.sq X.K H us)(hi:S.it s.heap i n)(hne:∀a∈S.ad,a≠i) :
  ∃(P:Nat->Value->Prop) (St:Nat->Heap->Prop),Draws X.prog X.w X.A.in1 i (i::S.ad) us.length P St/\St n s.heap/\(∀m h,St m h->S.it h i m)/\∀(m:Nat) (v:Value) (x:V),P m v->us[m]?=some x->RelV x v:=by
 cases S with
 |lst a=>
  obtain⟨its,rv,p,hz⟩:=I.list hs;have hl:=rv.length;have D:=Draws.list (prog:=X.prog) (w:=X.w) (A:=X.A.in1) hA i a (hne a (by simp[Src.ad])) its.toArray;rw[List.size_toArray,←hl]at D;refine⟨_,_,D,⟨hi,p.isList⟩,λm h z=>z.1,λm v x hv hx=>?_⟩;obtain⟨u,hu,ru⟩:=rv.get hx;have:v=u:=arY (hv.symm.trans (by simpa using hu));rw[this];exact ru
 |tup a=>
  obtain⟨its,rv,p,hz⟩:=I.tuple hs;have hl:=rv.length;have D:=Draws.tuple (prog:=X.prog) (w:=X.w) (A:=X.A.in1) hA i a (hne a (by simp[Src.ad])) its.toArray;rw[List.size_toArray,←hl]at D;refine⟨_,_,D,⟨hi,p⟩,λm h z=>z.1,λm v x hv hx=>?_⟩;obtain⟨u,hu,ru⟩:=rv.get hx;have:v=u:=arY (hv.symm.trans (by simpa using hu));rw[this];exact ru
 |str x=>
  obtain⟨t,hi⟩:=hi;have hl:us.length=x.cps.size:=by rw[show us=chars x from hs];unfold chars;rw[arU,asr]
  have D:=Draws.text (prog:=X.prog) (w:=X.w) (A:=X.A.in1) hA i x t;rw[←hl]at D;refine⟨_,_,D,hi,λm h z=>⟨t,z⟩,λm v y hv hy=>?_⟩;obtain⟨c,u,hc,rfl⟩:=hv;rw[show us=chars x from hs]at hy;unfold chars at hy;rw[arT,asI,hc]at hy;cases hy;exact⟨u,rfl⟩
theorem Src.N5{S:Src}{h:Heap}{i:Addr}{n:Nat}(hi:S.it h i n):∃o,h.get? i=some o/\∀v,o.data≠.cell v:=by
 cases S with
 |lst a=>obtain⟨o,e,_,d⟩:=hi;exact⟨o,e,λv q=>by rw[d]at q;cases q⟩
 |tup a=>obtain⟨o,e,_,d⟩:=hi;exact⟨o,e,λv q=>by rw[d]at q;cases q⟩
 |str x=>obtain⟨t,o,e,_,d⟩:=hi;exact⟨o,e,λv q=>by rw[d]at q;cases q⟩
theorem Src.Ny{S:Src}{h h':Heap}{i:Addr}{n:Nat}(hi:S.it h i n)(k:∀o,h.get? i=some o->h'.get? i=some o):S.it h' i n:=by
 cases S with
 |lst a=>exact hi.at k
 |tup a=>exact hi.at k
 |str x=>obtain⟨t,o,e,r⟩:=hi;exact⟨t,o,k o e,r⟩
end
def ItE(K:arG)(S:Src)(k₀:Int):It:=
 ⟨λi H=>∃(us:List V) (x:V),S.sq K H us/\us[i]?=some x,λi H v H'=>∃T x,v=.ref T/\H T=none/\H'=upd H T (.tup [.int (k₀+(i:Int)),x])/\∀us,S.sq K H us->us[i]?=some x,λi H=>∃us:List V,S.sq K H us/\us.length=i⟩
theorem alX{P:Program}{w:World}{K:arG}{elts:List Expr}{kk:Nat}{tpos:Pos}(S:Src)(e i0:Addr)(k₀:Int)(hne:e≠i0)(ha:∀a∈S.ad,e≠a/\a≠i0) :
  Turn P w K (.Tuple elts kk tpos) (ItE K S k₀) [e,i0] e (λi h=>(∃old,IsEnum h e i0 (k₀+(i:Int)) old)/\S.it h i0 i) where
 mem:=by simp
 obj:=λi h st b hb=>by
  obtain⟨⟨old,he⟩,hi⟩:=st;have e':b=e∨b=i0:=by simpa using hb
  rcases e' with z|z
  ·rw[z];exact⟨_,he,λv q=>nomatch q⟩
  ·rw[z];exact Src.N5 hi
 keep:=λi h h' st k=>let ⟨⟨old,he⟩,hi⟩:=st;⟨⟨old,k e (by simp) _ he⟩,Src.Ny hi λo q=>k i0 (by simp) o q⟩
 item:=by
  intro X hP hw hK hc i pins s σ H E I hf st hg;subst hP hw hK;obtain⟨⟨old,he⟩,hit⟩:=st;obtain⟨us,x,hq,hx⟩:=hg;obtain⟨PP,St,D,st0,stI,rel⟩:=Src.draws I (I.ok.hd hc) hq hit λa z=>(ha a z).2;have hel:e < s.heap.objs.size:=Heap.lt_size he;have hil:i0 < s.heap.objs.size:=by obtain⟨_,q,_⟩:=Src.N5 hit;exact Heap.lt_size q
  have hin:i < us.length:=(arJ.mp hx).1;refine wpAny_pyNext_enum_itemC D he st0 hin hne (λz=>?_) λv h' tk hP ho hst' hT hsz hk=>?_
  ·rcases arV.mp z with z|z
   ·exact hne z
   ·exact(ha e z).1 rfl
  have ru:=rel i v x hP hx;refine⟨_,rfl,wpAny_letOwnedTupleGo_enum (s:={ s with heap:=h',toks:=tk+1 }) ho λh'' he' sb=>?_⟩;have hT2:h''.get? s.heap.objs.size=some { cls:=.type "tuple",data:=.seq #[.int (k₀+(i:Int)) tk,v] }:=(sb.2 _ (Nat.ne_of_gt hel)).trans hT
  have new:ObjOk X.prog X.w (upd H s.heap.objs.size (.tup [.int (k₀+(i:Int)),x])) h'' s.heap.objs.size (.tup [.int (k₀+(i:Int)),x]):=
   ⟨by show 2<=sizeLine;decide,[.int (k₀+(i:Int)) tk,v],.cons ⟨_,rfl⟩ (.cons ru .nil),⟨_,hT2,rfl,_,rfl⟩⟩
  have I1:L2.Inv X pins σ (upd H s.heap.objs.size (.tup [.int (k₀+(i:Int)),x])) { s with heap:=h'',toks:=tk+1 }:=
   I.turnedNew (ch:=[e,i0]) (λb ob hb q=>(sb.2 b (λz=>hb (by simp[z]))).trans (hk b ob (λz=>hb (by simp[z])) (λz=>hb (by simp[z])) q)) hf (ar9 _) new
  refine⟨.ref s.heap.objs.size,_,I1,rfl,⟨_,x,rfl,I.hok.fresh (ar9 _),rfl,λys hy=>by rw[Src.inj I hy hq];exact hx⟩,⟨⟨v,?_⟩,Src.Ny (stI _ _ hst') λo q=>(sb.2 i0 (Ne.symm hne)).trans q⟩,λb hb=>?_⟩
  ·have e1:k₀+((i+1:Nat):Int)=k₀+(i:Int)+1:=by omega
   rw[e1];exact he'
  ·have hb':b < s.heap.objs.size:=by
    have e':b=e∨b=i0:=by simpa using hb
    rcases e' with z|z
    ·rw[z];exact hel
    ·rw[z];exact hil
   rw[upd_ne (asu hb')];exact(hf b hb).1
 done:=by intro X hP hw hK hc i pins s σ H E I hf st hg;subst hP hw hK;obtain⟨⟨old,he⟩,hit⟩:=st;obtain⟨us,hq,hx⟩:=hg;obtain⟨PP,St,D,st0,stI,rel⟩:=Src.draws I (I.ok.hd hc) hq hit λa z=>(ha a z).2;obtain⟨f0,f1,f2,f3,f4,f5⟩:=hf i0 (by simp);rw[←hx]at st0;exact wpAny_pyNext_enum_endD D he st0 λh' eb=>⟨rfl,I.turned (t':=s.toks) (λb o hb q=>eb b o hb q) f0 f1 f3 f4 f5⟩
 self:=λA i s Q E st h=>let ⟨⟨_,he⟩,_⟩:=st;wpAny_pyIter_enum he h
theorem Src.begins{X:Cx}{pins:List (Addr×Obj)}{σ:L2.St}{H:Hp}{s:Shared}{S:Src}{us:List V}{x:V}{v:Value}(I:L2.Inv X pins σ H s)(hs:S.sq X.K H us)(hx:(∃a,x=.ref a/\S.ad=[a]/\(S=.lst a∨S=.tup a))∨∃y,S=.str y/\x=.str y)(r:RelV x v) :
  ∃(o:Obj) (B:Heap->Prop),Begins v o B/\B s.heap/\(∀h i,h.get? i=some o->S.it h i 0)/\∀a∈S.ad,a < s.heap.objs.size:=by
 rcases hx with⟨a,rfl,ha,h|h⟩|⟨y,h,rfl⟩
 ·subst h;cases r;obtain⟨its,rv,p,_⟩:=I.list hs;obtain⟨o1,ho1,_⟩:=id p.isList;refine⟨_,_,begins_list a its.toArray,p.isList,λh i e=>⟨_,e,rfl,rfl⟩,λb hb=>?_⟩;rw[ha]at hb;rw[arO.mp hb];exact Heap.lt_size ho1
 ·subst h;cases r;obtain⟨its,rv,p,_⟩:=I.tuple hs;obtain⟨o1,ho1,_⟩:=id p;refine⟨_,_,begins_tuple a its.toArray,p,λh i e=>⟨_,e,rfl,rfl⟩,λb hb=>?_⟩;rw[ha]at hb;rw[arO.mp hb];exact Heap.lt_size ho1
 ·subst h;obtain⟨t,rfl⟩:=r;exact⟨_,_,begins_text y t,atc,λh i e=>⟨t,_,e,rfl,rfl⟩,λb hb=>nomatch hb⟩
def srcOf(x:V)(S:Src):Prop:=(∃a,x=.ref a/\S.ad=[a]/\(S=.lst a∨S=.tup a))∨∃y,S=.str y/\x=.str y
def iEn(K:arG)(ta:TA)(k₀:Int):TI:=λσ H R=>ta σ H λvs H1=>∃x S us,vs=[x]/\srcOf x S/\S.sq K H1 us/\R (ItE K S k₀) H1
section
variable{X:Cx}{a b:Expr}{ta tb:TA}{p pos tpos:Pos}{elts:List Expr}{kk:Nat}
theorem ak3{pins:List (Addr×Obj)}{σ:L2.St}{H:Hp}{s:Shared}(I:L2.Inv X pins σ H s):∀b∈[s.heap.objs.size+1,s.heap.objs.size],FpOk X pins H b:=λb hb=>by
 have e':b=s.heap.objs.size+1∨b=s.heap.objs.size:=by simpa using hb
 have hle:s.heap.objs.size<=b:=by
  rcases e' with z|z
  ·rw[z];exact Nat.le_add_right _ _
  ·rw[z];exact ar9 _
 exact I.fpOk hle (I.hok.fresh hle)
theorem agN{pins:List (Addr×Obj)}{σ:L2.St}{H:Hp}{s:Shared}{S:Src}{us:List V}{x:V}{v:Value}{o:Obj}{k₀:Int}{R:It->Hp->Prop}{h':Heap}(I:L2.Inv X pins σ H s)(hlt:∀a∈S.ad,a < s.heap.objs.size)(hit:∀h i,h.get? i=some o->S.it h i 0)
  (he:IsEnum h' (s.heap.objs.size+1) s.heap.objs.size k₀ .none) (ho:h'.get? s.heap.objs.size=some o) (hk:∀b o,s.heap.get? b=some o->h'.get? b=some o) (q:R (ItE X.K S k₀) H) :
  wpAny (model X.prog X.w) X.A (pyIter (.ref (s.heap.objs.size+1))) (PIE X pins σ (.Tuple elts kk tpos) R) X.xe { s with heap:=h' }:=by
 refine wpAny_pyIter_enum he ?_;have I2:L2.Inv X pins σ H { s with heap:=h' }:=I.kept (t':=s.toks) hk;refine⟨s.heap.objs.size+1,[s.heap.objs.size+1,s.heap.objs.size],_,_,H,rfl,I2,alX S (s.heap.objs.size+1) s.heap.objs.size k₀ (Nat.succ_ne_self _) (λa z=>?_),⟨⟨.none,?_⟩,hit _ _ ho⟩,ak3 I,q⟩
 ·have:=hlt a z;exact⟨Nat.ne_of_gt (asO this),asu this⟩
 ·rw[show k₀+((0:Nat):Int)=k₀ by simp];exact he
theorem afr{v:Value}{o:Obj}{B:Heap->Prop}(hB:Begins v o B) :
  Meets (Builtin.«enumerate.__new__» ⟨[.type "enumerate",v],[]⟩) (λ_ R s=>B s.heap/\
   R (.ok (.ret (.ref (s.heap.push o).objs.size))) { s with heap:=(s.heap.push o).push { cls:=.type "enumerate",data:=.fields #[.none,.bool false,.ref s.heap.objs.size,rawInt 0,.none,.none] } }):=
 .of_wp λprog w A R s hh=>by
  obtain⟨hp,gs,dr,tk,os⟩:=s;obtain⟨hb,hr⟩:=hh;have hsub:=sub_enumerate;have qi:∀{A':Around} {E:Value->Shared->Prop} {Q:Value->Shared->Prop},Q (.ref hp.objs.size) ⟨hp.push o,gs,dr,tk,os⟩->wpAny (model prog w) A' (pyIter v) Q E ⟨hp,gs,dr,tk,os⟩:=λz=>hB.iter prog w _ _ ⟨hp,gs,dr,tk,os⟩ _ hb z
  wp_walk using qi
  refine wpAny_stack_any λst=>wpAny_pure ?_;split
  ·next c _ _ _ _ _=>
   cases(c==Value.type "enumerate")<;>(wp_walk using qi;exact⟨_,rfl,hr⟩)
  ·wp_walk using qi
   exact⟨_,rfl,hr⟩
theorem ae1{prog:Program}{w:World}{A:Around}{E:Value->Shared->Prop}{s:Shared}{v:Value}{o:Obj}{B:Heap->Prop}{Q:Value->Shared->Prop}(hB:Begins v o B)(hb:B s.heap)
  (h:∀h',IsEnum h' (s.heap.objs.size+1) s.heap.objs.size 0 .none->h'.get? s.heap.objs.size=some o->(∀b o,s.heap.get? b=some o->h'.get? b=some o)->Q (.ref (s.heap.objs.size+1)) { s with heap:=h' }) :
  wpAny (model prog w) A (call (.type "enumerate") [v]) Q E s:=by
 refine callType_new F.called_enumerate (by decide) (F.typeCall_enumerate_1 _) (F.newCall_enumerate_1 _) (λob=>F.args_object_init_2 ob _) F.entry_enumerate_new (afr hB) ⟨hb,?_⟩;have hz:(s.heap.push o).objs.size=s.heap.objs.size+1:=Heap.size_push ..;have he:=Heap.get?_push_size (s.heap.push o) (o:={ cls:=.type "enumerate",data:=.fields #[.none,.bool false,.ref s.heap.objs.size,rawInt 0,.none,.none] }) rfl
 show _/\_;rw[hz]at he ⊢;exact⟨⟨_,he,rfl⟩,h _ he (Heap.get?_push_of_some _ (Heap.get?_push_size _ hB.free)) λb u z=>Heap.get?_push_of_some _ (Heap.get?_push_of_some _ z)⟩
theorem amL(hg:Gl X "enumerate")(hm:X.mg "enumerate"=none)(ha:PA X [a] ta)(hs:nst a=true):PI X (.Tuple elts kk tpos) (.Call (.Name "enumerate" p) [a] [] pos) (iEn X.K ta 0):=by refine⟨λpins s σ H R I h=>?_⟩;refine Call_ (ld_blt I hg hm boot_enumerate (PyProof.Rows.callWith_type1 (thn (ha.run pos pins s σ H _ I h) λus s1 ⟨vs,H1,I1,r1,x,S,us',ev,hx,hq,q⟩=>?_) (cH hs []) (by with_unfolding_all rfl)));subst ev;obtain⟨v,rfl,r⟩:=vals1 r1;obtain⟨o,B,hB,hb,hit,hlt⟩:=Src.begins I1 hq hx r;exact ae1 hB hb λh' he ho hk=>agN (x:=x) (v:=v) (us:=us') I1 hlt hit he ho hk q
theorem ae0{M:Model}{A:Around}{E:Value->Shared->Prop}{s:Shared}{pos:Pos}{T:String}{args:List (Bool×Sem Value)}{kws:List (Option Str×Sem Value)}{Q:Value->Shared->Prop}(h1:args.any (·.1)=false)(h2:kws.any (·.1.isNone)=false)
  (h:wpAny M A (evalArgs (.type T) true args kws) (λz s₁=>wpAny M A (call (.type T) z.pos z.kw) Q E s₁) E s):wpAny M A (callWith pos (.type T) [] args kws) Q E s:=by
 unfold callWith;refine wpAny_bind (wpAny_holding (wpAny_mono h (λz s₁ hz=>wpAny_bind (wpAny_standAt ?_)) λ_ _ y=>y));rw[h1,h2];refine wpAny_bind (wpAny_pure ?_);exact wpAny_bind (wpAny_mono hz (λr s₂ hr=>wpAny_bind (wpAny_holding (wpAny_point (wpAny_pure hr)))) λ_ _ y=>y)
theorem akd{k₀:Int}{j:Nat}{kp kp2:Pos}(hk0 : -(2 ^ 63)<=k₀)(hk1:k₀ < 2 ^ 63)(hg:Gl X "enumerate")(hm:X.mg "enumerate"=none)(ha:PA X [a] ta)(hs:nst a=true) :
  PI X (.Tuple elts kk tpos) (.Call (.Name "enumerate" p) [a] [⟨some "start",.Constant (.int k₀) j kp,kp2⟩] pos) (iEn X.K ta k₀):=by
 refine⟨λpins s σ H R I h=>?_⟩;have hpk:PK X [⟨some "start",.Constant (.int k₀) j kp,kp2⟩] (tCons (tC (.int k₀)) tNil):=pk_cons pe_int pk_nil
 refine wpAny_Call_Name_kw (ld_blt I hg hm boot_enumerate (ae0 (star_any [a] (by simp[hs])) (by with_unfolding_all rfl) ?_));refine PyProof.Rows.evalArgs_kw2 (by with_unfolding_all rfl) (thn (ha.run pos pins s σ H _ I h) λus s1 ⟨vs,H1,I1,r1,x,S,us',ev,hx,hq,q⟩=>?_) (by first | (rw[cH hs];done) | (rw[cH hs];rfl) | rw[cH hs]);refine thn (hpk.run pos pins s1 σ H1 (λzs H2=>zs=[.int k₀]/\H2=H1) I1 ⟨rfl,rfl⟩) λws s2 ⟨zs,H2,I2,r2,e1,e2⟩=>?_;subst ev e1 e2;obtain⟨v,rfl,r⟩:=vals1 r1;obtain⟨w,rfl,t,rfl⟩:=vals1 r2;obtain⟨o,B,hB,hb,hit,hlt⟩:=Src.begins I2 hq hx r;exact enum_begins_start hB hb hk0 hk1 λh' he ho _ hk=>agN (x:=x) (v:=v) (us:=us') I2 hlt hit he ho hk q
def ItZ(K:arG)(S T:Src):It:=
 ⟨λi H=>∃(us ws:List V) (x y:V),S.sq K H us/\T.sq K H ws/\us[i]?=some x/\ws[i]?=some y,λi H v H'=>∃U x y,v=.ref U/\H U=none/\H'=upd H U (.tup [x,y])/\(∀us,S.sq K H us->us[i]?=some x)/\∀ws,T.sq K H ws->ws[i]?=some y,
  λi H=>∃us ws:List V,S.sq K H us/\T.sq K H ws/\i=min us.length ws.length⟩
theorem amZ{P:Program}{w:World}{K:arG}{S T:Src}{N:Addr}(h1:∀a∈S.ad,a < N)(h2:∀a∈T.ad,a < N) :
  Turn P w K (.Tuple elts kk tpos) (ItZ K S T) [N+4,N+2,N+3,N,N+1] (N+4) (λn h=>IsZip h (N+4) (N+2) (N+3) .none/\IsPair h (N+2) (.ref N) (.ref (N+1))/\(∃x y,IsPair h (N+3) x y)/\S.it h N n/\T.it h (N+1) n) where
 mem:=by simp
 obj:=λn h q c hc=>by
  obtain⟨gz,gI,⟨x,y,gO⟩,i1,i2⟩:=q;simp only[arV,asp,or_false]at hc;rcases hc with rfl|rfl|rfl|rfl|rfl
  ·exact⟨_,gz,λv q=>nomatch q⟩
  ·exact⟨_,gI,λv q=>nomatch q⟩
  ·exact⟨_,gO,λv q=>nomatch q⟩
  ·exact Src.N5 i1
  ·exact Src.N5 i2
 keep:=λn h h' q k=>by
  obtain⟨gz,gI,⟨x,y,gO⟩,i1,i2⟩:=q;exact⟨k _ (by simp) _ gz,k _ (by simp) _ gI,⟨x,y,k _ (by simp) _ gO⟩,Src.Ny i1 λo e=>k _ (by simp) o e,Src.Ny i2 λo e=>k _ (by simp) o e⟩
 item:=by
  intro X hP hw hK hc n pins s σ H E I hf q hg;subst hP hw hK;obtain⟨gz,gI,⟨x0,y0,gO⟩,i1,i2⟩:=q;obtain⟨us,ws,x,y,qx,qy,hx,hy⟩:=hg;obtain⟨P1,St1,D1,st1,b1,rel1⟩:=Src.draws I (I.ok.hd hc) qx i1 λa z=>asu (h1 a z);obtain⟨P2,St2,D2,st2,b2,rel2⟩:=Src.draws I (I.ok.hd hc) qy i2 λa z=>asu (asO (h2 a z));have hzl:N+4 < s.heap.objs.size:=Heap.lt_size gz;refine wpAny_pyNext_zipD2_item (zip_sep2 h1 h2) D1 D2 gz gI gO st1 st2 (arJ.mp hx).1 (arJ.mp hy).1 λv1 v2 h' tk p1 p2 z' o' s1 s2 hT hsz hk=>?_;refine⟨_,rfl,wpAny_letOwnedTupleGo_zip (s:={ s with heap:=h',toks:=tk }) z' λh'' z'' sb=>?_⟩;have hT2:=(sb.2 _ (Nat.ne_of_gt hzl)).trans hT;have new:ObjOk X.prog X.w (upd H s.heap.objs.size (.tup [x,y])) h'' s.heap.objs.size (.tup [x,y]):=⟨by show 2<=sizeLine;decide,[v1,v2],.cons (rel1 n v1 x p1 hx) (.cons (rel2 n v2 y p2 hy) .nil),⟨_,hT2,rfl,_,rfl⟩⟩;have I1:L2.Inv X pins σ (upd H s.heap.objs.size (.tup [x,y])) { s with heap:=h'',toks:=tk }:=by refine I.turnedNew (t':=tk) (ch:=[N+4,N+2,N+3,N,N+1]) (λc o hb e=>?_) hf (ar9 _) new;simp only[arV,asp,or_false,not_or]at hb;exact(sb.2 c hb.1).trans (hk c o hb.1 hb.2.2.1 hb.2.2.2.1 hb.2.2.2.2 e)
  have ne4:∀k,k≠4->N+k≠N+4:=λk hk z=>hk (as9 z);refine⟨.ref s.heap.objs.size,_,I1,rfl,⟨_,x,y,rfl,I.hok.fresh (ar9 _),rfl,λl hl=>by rw[Src.inj I hl qx];exact hx,λl hl=>by rw[Src.inj I hl qy];exact hy⟩,⟨z'',?_,⟨v1,v2,?_⟩,?_,?_⟩,λc hcm=>?_⟩
  ·exact(sb.2 _ (ne4 2 (by decide))).trans (hk _ _ (ne4 2 (by decide)) (λz=>absurd (as9 z) (by decide)) (λz=>absurd (as9 (z.trans (Nat.add_zero N).symm)) (by decide)) (λz=>absurd (as9 z) (by decide)) gI)
  ·exact(sb.2 _ (ne4 3 (by decide))).trans o'
  ·exact Src.Ny (b1 _ _ s1) λo e=>(sb.2 _ (ne4 0 (by decide))).trans e
  ·exact Src.Ny (b2 _ _ s2) λo e=>(sb.2 _ (ne4 1 (by decide))).trans e
  ·have hlt:c < s.heap.objs.size:=by
    simp only[arV,asp,or_false]at hcm;rcases hcm with rfl|rfl|rfl|rfl|rfl
    ·exact hzl
    ·exact Heap.lt_size gI
    ·exact Heap.lt_size gO
    ·obtain⟨_,e1,_⟩:=Src.N5 i1;exact Heap.lt_size e1
    ·obtain⟨_,e2,_⟩:=Src.N5 i2;exact Heap.lt_size e2
   rw[upd_ne (asu hlt)];exact(hf c hcm).1
 done:=by intro X hP hw hK hc n pins s σ H E I hf q hg;subst hP hw hK;obtain⟨gz,gI,⟨x0,y0,gO⟩,i1,i2⟩:=q;obtain⟨us,ws,qx,qy,hn⟩:=hg;obtain⟨P1,St1,D1,st1,b1,rel1⟩:=Src.draws I (I.ok.hd hc) qx i1 λa z=>asu (h1 a z);obtain⟨P2,St2,D2,st2,b2,rel2⟩:=Src.draws I (I.ok.hd hc) qy i2 λa z=>asu (asO (h2 a z));refine wpAny_pyNext_zipD2_end (zip_sep2 h1 h2) D1 D2 gz gI gO st1 st2 (by omega) (by omega) (by omega) λh' tk hk=>⟨rfl,?_⟩;refine I.turnedL (t':=tk) (ch:=[N+4,N+2,N+3,N,N+1]) (λc o hb e=>?_) hf;simp only[arV,asp,or_false,not_or]at hb;exact hk c o hb.1 hb.2.2.1 hb.2.2.2.1 hb.2.2.2.2 e
 self:=λA n s Q E q h=>wpAny_pyIter_zip q.1 h
def iZp(K:arG)(ta:TA):TI:=λσ H R=>ta σ H λvs H1=>∃x y S T us ws,vs=[x,y]/\srcOf x S/\srcOf y T/\S.sq K H1 us/\T.sq K H1 ws/\R (ItZ K S T) H1
theorem amO(hg:Gl X "zip")(hm:X.mg "zip"=none)(ha:PA X [a,b] ta)(hs:nst a=true)(hs2:nst b=true):PI X (.Tuple elts kk tpos) (.Call (.Name "zip" p) [a,b] [] pos) (iZp X.K ta):=by
 refine⟨λpins s σ H R I h=>?_⟩;refine Call_ (ld_blt I hg hm PyProof.Rows.boot_zip (PyProof.Rows.callWith_type1 (thn (ha.run pos pins s σ H _ I h) λus s1 ⟨vs,H1,I1,r1,x,y,S,T,us',ws',ev,hx,hy,hq,hq2,q⟩=>?_) (cH hs [b]) (star_any [b] (by simp[hs2]))));subst ev;obtain⟨v1,v2,rfl,rv1,rv2⟩:=vals2 r1;obtain⟨o1,B1,hB1,hb1,hit1,hlt1⟩:=Src.begins I1 hq hx rv1;obtain⟨o2,B2,hB2,hb2,hit2,hlt2⟩:=Src.begins I1 hq2 hy rv2;refine zip_begins2 hB1 hB2 hb1 hb2 λh' hz hTI hTO e1 e2 hsz hk=>wpAny_pyIter_zip hz ?_;have I2:L2.Inv X pins σ H1 { s1 with heap:=h' }:=I1.kept (t':=s1.toks) hk;refine⟨s1.heap.objs.size+4,_,_,_,H1,rfl,I2,amZ hlt1 hlt2,⟨hz,hTI,⟨_,_,hTO⟩,hit1 _ _ e1,hit2 _ _ e2⟩,λc hcm=>?_,q⟩;have hle:s1.heap.objs.size<=c:=by simp only[arV,asp,or_false]at hcm;rcases hcm with rfl | rfl | rfl | rfl | rfl<;>first | exact ar9 _ | exact Nat.le_add_right _ _
 exact I1.fpOk hle (I1.hok.fresh hle)
end
section
variable{K:arG}{aj:aR}{q:Bool}{g g':Gh}{H H':Hp}{v:V}{d:Dat}{σ:L2.St}{Z:Env}{M:Mo}
theorem jH.up{l:Addr}:∀{n:Bool} {kvs:List (Dat×Dat)} (r:Gr true g g' H H') (e:Ex H H') (k:Kd g H) (h:jH K aj g H l n kvs),jH K aj g' H' l n kvs
 |false,_,r,e,k,⟨kv,h1,h2,h3⟩=>⟨kv,e _ _ h1,h2,h3.gr r k⟩
 |true,_,r,e,k,⟨o,xs,vs,h1,h2,h3,h4,h5,h6⟩=>⟨o,xs,vs,e _ _ h1,h2,h3,h4.gr r k,h5,h6.gr r k⟩
theorem dZ.up{h:Nat}{f:Str}(r:Gr true g g' H H')(e:Ex H H')(k:Kd g H):∀{fl:jm},dZ K aj g H h f v fl->dZ K aj g' H' h f v fl
 |.dat _,z=>Rep.gr r k z
 |.lst _ _,⟨l,us,h1,h2,h3,h4,h5⟩=>⟨l,us,h1,e _ _ h2,by rw[(r.qg rfl).2];exact h3,h4.gr r k,r.tb h5⟩
 |.dic _ _,⟨l,h1,h2,h3⟩=>⟨l,h1,by rw[(r.qg rfl).2];exact h2,h3.up r e k⟩
theorem cQ.up{h:Nat}(r:Gr true g g' H H')(e:Ex H H')(k:Kd g H):∀{fs:List (Str×V)} {gs:List (Str×jm)},cQ K aj g H h fs gs->cQ K aj g' H' h fs gs
 |_,_,.nil=>.nil
 |_,_,.cons z t=>.cons (dZ.up r e k z) (cQ.up r e k t)
theorem gD.up(r:Gr true g g' H H')(e:Ex H H')(k:Kd g H)(w:gD K aj g H M):gD K aj g' H' M where
 len:=by rw[(r.qg rfl).1];exact w.len
 inj:=by rw[(r.qg rfl).1];exact w.inj
 ins:=λh a i ha hi hc=>by
  rw[(r.qg rfl).1]at ha;obtain⟨C,dx,fs,c1,c2,c3⟩:=w.ins h a i ha hi hc;exact⟨C,dx,fs,c1,e _ _ c2,c3.up r e k⟩
 nd:=w.nd
 fd:=w.fd
 tw:=by rw[(r.qg rfl).1,(r.qg rfl).2];exact w.tw
 dm:=w.dm
 nc:=w.nc
theorem SInv.up(r:Gr true g g' H H')(e:Ex H H')(k':Kd g' H')(I:SInv K aj σ H g Z M):SInv K aj σ H' g' Z M where
 kd:=k'
 wok:=I.wok.up r e I.kd
 len:=I.len
 dat:=λi d h=>by
  obtain⟨v,h1,h2⟩:=I.dat i d h;exact⟨v,h1,h2.gr r I.kd⟩
 own:=λi xs h=>by
  obtain⟨l,us,h1,h2,h3,h4⟩:=I.own i xs h;exact⟨l,us,h1,e _ _ h2,r.Lo l h3,h4.gr r I.kd⟩
 sep:=I.sep
def Gh.add(g:Gh)(D:Addr):Gh:={ g with Lo:=λa=>g.Lo a∨a=D }
theorem Gh.Di{D:Addr}(n:H D=none)(e:Ex H H'):Gr true g (g.add D) H H' where
 keep:=λa o h _ _=>e a o h
 keepW:=λ_ a o h _=>e a o h
 dom:=yM e
 tbl:=⟨[],by simp[Gh.add]⟩
 W:=λ_ h=>h
 nW:=λ_ h=>.inl h
 qg:=λ_=>⟨rfl,rfl⟩
 Lc:=rfl
 Lo:=λ_ h=>.inl h
 nLo:=λa h=>h.elim .inl λz=>.inr (by rw[z];exact n)
theorem Gh.akX{D:Addr}{o:HO}(k:Kd g H)(n:H D=none)(e:Ex H H')(hD:H' D=some o)(m:Ju o):Kd (g.add D) H' where
 ob:=λa z=>by
  rcases z with z|z|z|z
  ·obtain⟨o,h,m⟩:=k.ob a (.inl z);exact⟨o,e a o h,m⟩
  ·obtain⟨o,h,m⟩:=k.ob a (.inr (.inl z));exact⟨o,e a o h,m⟩
  ·obtain⟨o,h,m⟩:=k.ob a (.inr (.inr z));exact⟨o,e a o h,m⟩
  ·rw[z];exact⟨o,hD,m⟩
 lo:=λa z=>by
  rcases z with z|z
  ·exact k.lo a z
  ·intro w;subst z;exact k.fresh n (.inl w)
 lc:=λa z=>⟨(k.lc a z).1,λy=>y.elim (k.lc a z).2 λy=>by subst y;exact k.fresh n (.inr (.inl z))⟩
theorem SInv.add{D:Addr}{o:HO}(I:SInv K aj σ H g Z M)(n:H D=none)(e:Ex H H')(hD:H' D=some o)(m:Ju o):SInv K aj σ H' (g.add D) Z M:=
 I.up (Gh.Di n e) e (Gh.akX I.kd n e hD m)
theorem SInv.set{j:Nat}(I:SInv K aj σ H g Z M)(r:Rep K g H v d):SInv K aj (σ.set j (some v)) H g (Z.set j (some (.dat d))) M where
 kd:=I.kd
 wok:=I.wok
 len:=by rw[ase,ase];exact I.len
 dat:=λi e h=>by
  by_cases z:j=i
  ·subst z;have hj:j < Z.length:=by
    have:=(arJ.mp h).1;rw[ase]at this;exact this
   rw[arZ hj]at h;cases h;exact⟨v,by rw[arZ (by rw[I.len];exact hj)],r⟩
  ·rw[arP z]at h;obtain⟨u,h1,h2⟩:=I.dat i e h;exact⟨u,by rw[arP z];exact h1,h2⟩
 own:=λi xs h=>by
  by_cases z:j=i
  ·subst z;have hj:j < Z.length:=by
    have:=(arJ.mp h).1;rw[ase]at this;exact this
   rw[arZ hj]at h;cases h
  ·rw[arP z]at h;obtain⟨l,us,h1,h2⟩:=I.own i xs h;exact⟨l,us,by rw[arP z];exact h1,h2⟩
 sep:=λi k xs ys l ne h1 h2 h3=>by
  have nj:∀{i:Nat} {xs:List Dat},(Z.set j (some (.dat d)))[i]?=some (some (.mut xs))->j≠i:=λ{i xs} h z=>by
   subst z;have hj:j < Z.length:=by have:=(arJ.mp h).1;rw[ase]at this;exact this
   rw[arZ hj]at h;cases h
  have n1:=nj h1;have n2:=nj h2;rw[arP n1]at h1 h3;rw[arP n2]at h2;rw[arP n2];exact I.sep i k xs ys l ne h1 h2 h3
theorem SInv.forget{j:Nat}(I:SInv K aj σ H g Z M):SInv K aj (σ.set j none) H g (Z.set j none) M where
 kd:=I.kd
 wok:=I.wok
 len:=by rw[ase,ase];exact I.len
 dat:=λi e h=>by
  by_cases z:j=i
  ·subst z;have hj:j < Z.length:=by
    have:=(arJ.mp h).1;rw[ase]at this;exact this
   rw[arZ hj]at h;cases h
  ·rw[arP z]at h ⊢;exact I.dat i e h
 own:=λi xs h=>by
  by_cases z:j=i
  ·subst z;have hj:j < Z.length:=by
    have:=(arJ.mp h).1;rw[ase]at this;exact this
   rw[arZ hj]at h;cases h
  ·rw[arP z]at h ⊢;exact I.own i xs h
 sep:=λi k xs ys l ne h1 h2 h3=>by
  have nj:∀{i:Nat} {xs:List Dat},(Z.set j none)[i]?=some (some (.mut xs))->j≠i:=λ{i xs} h z=>by
   subst z;have hj:j < Z.length:=by have:=(arJ.mp h).1;rw[ase]at this;exact this
   rw[arZ hj]at h;cases h
  have n1:=nj h1;have n2:=nj h2;rw[arP n1]at h1 h3;rw[arP n2]at h2;rw[arP n2];exact I.sep i k xs ys l ne h1 h2 h3
def bT(Z:Env):List Nat->Env
 |[]=>Z
 |j::js=>(bT Z js).set j none
theorem SInv.wipe(I:SInv K aj σ H g Z M):∀vs:List Nat,SInv K aj (L2.wipe σ vs) H g (bT Z vs) M
 |[]=>I
 |j::js=>(SInv.wipe I js).forget
end
abbrev fH:=Dat->Env->Option Env
def aG(j:Nat):fH:=λd Z=>some (Z.set j (some (.dat d)))
def uM:List Nat->List Dat->Env->Option Env
 |[],[],Z=>some Z
 |j::js,d::ds,Z=>uM js ds (Z.set j (some (.dat d)))
 |_,_,_=>none
def bx(js:List Nat):fH:=λd Z=>match d with
 |.tuple ds=>uM js ds Z
 |_=>none
def sets(σ:L2.St):List Nat->List V->L2.St
 |j::js,v::vs=>sets (σ.set j (some v)) js vs
 |_,_=>σ
def yI(K:arG)(aj:aR)(js:List Nat)(f:fH):TG:=λv σ H Q=>∃g Z M d Z',SInv K aj σ H g Z M/\Rep K g H v d/\f d Z=some Z'/\∀vs,SInv K aj (sets σ js vs) H g Z' M->Q (sets σ js vs) H
def QG(aj:aR)(X:Cx)(tg:Expr)(js:List Nat)(f:fH):Prop:=PG X tg (yI X.K aj js f)
theorem PG.weak{X:Cx}{e:Expr}{t t':TG}(h:PG X e t)(k:∀v σ H Q,t' v σ H Q->t v σ H Q):PG X e t':=⟨λpins s σ H v u Q I r q=>h.run pins s σ H v u Q I r (k v σ H Q q)⟩
section
variable{X:Cx}{aj:aR}{pos:Pos}
theorem UG{j:Nat}{x:Str}(hN:X.N.Nodup)(hi:X.N[j]?=some x)(hx:Loc X.env.scope x)(hf:X.fn x=true∨X.env.scope.names.lookup x=some .local):QG aj X (.Name x pos) [j] (aG j):=
 PG.weak (pg_name hN hi hx hf) λv σ H Q ⟨g,Z,M,d,Z',I,r,e,q⟩=>by
  cases e;exact q [v] (I.set r)
def Rk(X:Cx):List Expr->List Nat->Prop
 |[],[]=>True
 |.Name x _::es,j::js=>X.N[j]?=some x/\Loc X.env.scope x/\(X.fn x=true∨X.env.scope.names.lookup x=some .local)/\Rk X es js
 |_,_=>False
theorem afV{es:List Expr}{js:List Nat}(h:Rk X es js):(assignEach es X.env).length=js.length/\(assignEach es X.env).findIdx? (·.1)=none:=by
 induction es generalizing js with
 |nil=>
  cases js with
  |nil=>exact⟨by with_unfolding_all rfl,by with_unfolding_all rfl⟩
  |cons j js=>exact atd h
 |cons e es ih=>
  cases js with
  |nil=>cases e<;>exact atd h
  |cons j js=>
   cases e with
   |Name x p=>
    obtain⟨h1,h2⟩:=ih h.2.2.2;have e1:assignEach (.Name x p::es) X.env=(false,assign (.Name x p) X.env)::assignEach es X.env:=by with_unfolding_all rfl
    rw[e1];refine⟨by simp[h1],?_⟩;rw[List.findIdx?_cons,h2];rfl
   |_=>exact atd h
def gNs(js:List Nat):TGs:=λvs σ H Q=>vs.length=js.length/\Q (sets σ js vs) H
theorem Xh(hN:X.N.Nodup):∀{es:List Expr} {js:List Nat},Rk X es js->PGs X es (gNs js)
 |[],[],_=>⟨λpins s σ H vs us Q I r h=>by
  obtain⟨e,h⟩:=h;have:vs=[]:=List.length_eq_zero_iff.mp e;subst this;exact pgs_nil.run pins s σ H [] us Q I r ⟨rfl,h⟩⟩
 |.Name x p::es,j::js,h=>by
  have hp:=pgs_cons (pg_name (pos:=p) hN h.1 h.2.1 h.2.2.1) (Xh hN h.2.2.2) (by with_unfolding_all rfl);refine⟨λpins s σ H vs us Q I r hq=>?_⟩;obtain⟨e,hq⟩:=hq;cases vs with
  |nil=>cases e
  |cons v vs=>exact hp.run pins s σ H (v::vs) us Q I r ⟨v,vs,rfl,atb e,hq⟩
 |[],_::_,h=>atd h
 |.Name _ _::_,[],h=>atd h
theorem Tw{K:arG}{g:Gh}{H:Hp}{M:Mo}:∀{js:List Nat} {ds:List Dat} {vs:List V} {σ:L2.St} {Z Z':Env},SInv K aj σ H g Z M->aM K g H vs ds->uM js ds Z=some Z'->vs.length=js.length/\SInv K aj (sets σ js vs) H g Z' M
 |[],_,_,_,_,_,I,.nil,e=>by cases e;exact⟨rfl,I⟩
 |[],_,_,_,_,_,I,.cons _ _,e=>by cases e
 |j::js,_,_,_,_,_,I,.nil,e=>by cases e
 |j::js,_,_,_,_,_,I,.cons r t,e=>by
  obtain⟨h1,h2⟩:=Tw (js:=js) (I.set (j:=j) r) t e;exact⟨by simp[h1],h2⟩
theorem aez{es:List Expr}{js:List Nat}{k:Nat}(hc:X.calm=true)(hN:X.N.Nodup)(h:Rk X es js):QG aj X (.Tuple es k pos) js (bx js):=by
 obtain⟨h1,h2⟩:=afV h;refine PG.weak (pg_tup (n:=js.length) hc (Xh hN h) h1 h2) λv σ H Q ⟨g,Z,M,d,Z',I,r,e,q⟩=>?_;unfold bx at e;split at e
 ·obtain⟨a,us,rfl,s1,t1⟩:=kW r.weak;obtain⟨l1,I1⟩:=Tw I t1 e;exact⟨a,us,rfl,s1,l1,l1,q us I1⟩
 ·cases e
theorem xJ:∀(js:List Nat) (vs:List V) (σ:L2.St) (ws:List Nat),(∀j∈js,j∈ws)->L2.wipe (sets σ js vs) ws=L2.wipe σ ws
 |[],_,_,_,_=>by unfold sets;rfl
 |_::_,[],_,_,_=>by unfold sets;rfl
 |j::js,v::vs,σ,ws,h=>by
  show L2.wipe (sets (σ.set j (some v)) js vs) ws=_;rw[xJ js vs _ ws λk hk=>h k (arL _ hk)];have hj:j∈ws:=h j arM;have key:∀(ws:List Nat) (σ:L2.St),j∈ws->L2.wipe (σ.set j (some v)) ws=L2.wipe σ ws:=by
   intro ws
   induction ws with
   |nil=>intro σ z;cases z
   |cons k ws ih=>
    intro σ z
    show(L2.wipe (σ.set j (some v)) ws).set k none=(L2.wipe σ ws).set k none
    by_cases hk:j∈ws
    ·rw[ih σ hk]
    ·have e:j=k:=by
      rcases arV.mp z with z|z
      ·exact z
      ·exact absurd z hk
     subst e;have comm:∀(ws:List Nat),j∉ws->L2.wipe (σ.set j (some v)) ws=(L2.wipe σ ws).set j (some v):=by
      intro ws
      induction ws with
      |nil=>intro _;rfl
      |cons m ws ih2=>
       intro hm
       show(L2.wipe (σ.set j (some v)) ws).set m none=((L2.wipe σ ws).set m none).set j (some v)
       rw[ih2 λz=>hm (arL _ z),List.set_comm _ _ (λz=>hm (by rw[z];exact arM))]
     rw[comm ws hk,List.set_set]
  exact key ws σ hj
end
structure Kh(K:arG)(J:It)(C:Gh->Hp->Prop)(ds:List Dat):Prop where
 go:∀g i H,C g H->i < ds.length->J.go i H
 yld:∀g i H x H' d,Kd g H->C g H->ds[i]?=some d->J.yld i H x H'->Ex H H'/\Rep K g H' x d
 stop:∀g i H,C g H->i=ds.length->J.stop i H
 ex:∀g H H',Kd g H->C g H->Ex H H'->C g H'
 add:∀g g' H H',Kd g H->C g H->Gr true g g' H H'->Ex H H'->C g' H'
def acV(C:Gh->Hp->Prop):Prop:=∀q g g' H H',Kd g H->C g H->Gr q g g' H H'->C g' H'
abbrev IF:=Mo->Env->Out (List Dat)
def tI(K:arG)(aj:aR)(W:WX)(firm:Bool)(f:IF):TI:=λσ H R=>∃g Z M,SInv K aj σ H g Z M/\(f M Z).sat (λds=>∀J C H',Ex H H'->Kh K J C ds->C g H'->(firm=true->acV C)->R J H') (qJ K aj W g H σ)
def QI(aj:aR)(X:Cx)(W:WX)(firm:Bool)(tg e:Expr)(f:IF):Prop:=PI X tg e (tI X.K aj W firm f)
def Y8(x:Str):List Dat:=x.cps.toList.map λc=>.str ⟨#[c]⟩
def pC:Dat->Out (List Dat)
 |.list ds=>.ok ds
 |.tuple ds=>.ok ds
 |.str x=>.ok (Y8 x)
 |_=>.bad
def dB(a:QF):IF:=λM Z=>(a M Z).bind pC
def Src.cw(K:arG)(S:Src)(ds:List Dat)(g:Gh)(H:Hp):Prop:=∃us,S.sq K H us/\aM K g H us ds
def Src.cf(K:arG)(S:Src)(ds:List Dat)(g:Gh)(H:Hp):Prop:=∃us,(match S with
 |.lst a=>Qw K g H a us
 |.tup a=>SqT K H a us
 |.str x=>us=chars x)/\aM K g H us ds
section
variable{K:arG}{g g':Gh}{H H':Hp}{ds es:List Dat}{S T:Src}
theorem Src.alZ{us:List V}(e:Ex H H')(h:S.sq K H us):S.sq K H' us:=by
 cases S with
 |lst a=>exact ex_l e h
 |tup a=>exact ex_t e h
 |str x=>exact h
theorem Src.acU(h:S.cf K ds g H):S.cw K ds g H:=by
 obtain⟨us,h1,h2⟩:=h;refine⟨us,?_,h2⟩;cases S with
 |lst a=>exact Qw.sq h1
 |tup a=>exact h1
 |str x=>exact h1
theorem Src.u5:acV (S.cf K ds):=λq g g' H H' k ⟨us,h1,h2⟩ r=>by
 refine⟨us,?_,h2.gr r k⟩;cases S with
 |lst a=>exact r.ls h1
 |tup a=>exact r.sqT k h1
 |str x=>exact h1
theorem Src.Mq(k:Kd g H)(h:S.cw K ds g H)(r:Gr true g g' H H')(e:Ex H H'):S.cw K ds g' H':=by obtain⟨us,h1,h2⟩:=h;exact⟨us,Src.alZ e h1,h2.gr r k⟩
theorem Src.Yl(k:Kd g H)(h:S.cw K ds g H)(e:Ex H H'):S.cw K ds g H':=Src.Mq k h (Gr.ex e) e
end
section
variable{K:arG}{ds es:List Dat}{S T:Src}
def ItS(K:arG):Src->It
 |.lst a=>Itl K a
 |.tup a=>Itt K a
 |.str x=>Its x
theorem Ep{g:Gh}{H:Hp}(x:Str):aM K g H (chars x) (Y8 x):=by
 unfold chars Y8
 induction x.cps.toList with
 |nil=>exact .nil
 |cons c cs ih=>exact .cons (.str _) ih
theorem Kh.of{J:It}{C C':Gh->Hp->Prop}(w:Kh K J C ds)(h:∀g H,C' g H->C g H)(e:∀g H H',Kd g H->C' g H->Ex H H'->C' g H')(a:∀g g' H H',Kd g H->C' g H->Gr true g g' H H'->Ex H H'->C' g' H'):Kh K J C' ds where
 go:=λg i H c hi=>w.go g i H (h g H c) hi
 yld:=λg i H x H' d k c e y=>w.yld g i H x H' d k (h g H c) e y
 stop:=λg i H c e=>w.stop g i H (h g H c) e
 ex:=e
 add:=a
theorem abF:Kh K (ItS K S) (S.cw K ds) ds where
 go:=λg i H ⟨us,h1,h2⟩ hi=>by
  have hx:us[i]?=some (us[i]'(by rw[h2.length];exact hi)):=arI _;cases S with
  |lst a=>exact⟨us,_,h1,hx⟩
  |tup a=>exact⟨us,_,h1,hx⟩
  |str x=>
   show i < x.cps.size;have:=h2.length;rw[show us=chars x from h1]at this;unfold chars at this;rw[arU,asr]at this;omega
 yld:=λg i H x H' d k ⟨us,h1,h2⟩ e y=>by
  obtain⟨v,hv,rv⟩:=h2.get e;cases S with
  |lst a=>
   obtain⟨rfl,y⟩:=y;have:x=v:=arY ((y us h1).symm.trans hv);rw[this];exact⟨Ex.refl _,rv⟩
  |tup a=>
   obtain⟨rfl,y⟩:=y;have:x=v:=arY ((y us h1).symm.trans hv);rw[this];exact⟨Ex.refl _,rv⟩
  |str z=>
   obtain⟨rfl,c,hc,rfl⟩:=y;rw[show us=chars z from h1]at hv;unfold chars at hv;rw[arT,asI,hc]at hv;cases hv;exact⟨Ex.refl _,rv⟩
 stop:=λg i H ⟨us,h1,h2⟩ e=>by
  have hl:=h2.length;cases S with
  |lst a=>exact⟨us,h1,by omega⟩
  |tup a=>exact⟨us,h1,by omega⟩
  |str x=>
   show x.cps.size<=i;rw[show us=chars x from h1]at hl;unfold chars at hl;rw[arU,asr]at hl;omega
 ex:=λg H H' k h e=>Src.Yl k h e
 add:=λg g' H H' k h r e=>Src.Mq k h r e
def pQ(k₀:Int)(ds:List Dat):List Dat:=ds.mapIdx λi d=>.tuple [.int (k₀+(i:Int)),d]
theorem afL{k₀:Int}:Kh K (ItE K S k₀) (S.cw K ds) (pQ k₀ ds) where
 go:=λg i H ⟨us,h1,h2⟩ hi=>by
  have hl:i < us.length:=by rw[h2.length];unfold pQ at hi;rw[List.length_mapIdx]at hi;exact hi
  exact⟨us,us[i],h1,arI hl⟩
 yld:=λg i H x H' d k ⟨us,h1,h2⟩ e y=>by
  unfold pQ at e;rw[asC]at e;cases hd:ds[i]? with
  |none=>rw[hd]at e;cases e
  |some d0=>
   rw[hd]at e;cases e;obtain⟨v,hv,rv⟩:=h2.get hd;obtain⟨T,x0,rfl,nT,rfl,y⟩:=y;have:x0=v:=arY ((y us h1).symm.trans hv);subst this;exact⟨Ex.new nT,.tup (st_of upd_same) (.cons (.int _) (.cons (rv.ex (Ex.new nT) k) .nil))⟩
 stop:=λg i H ⟨us,h1,h2⟩ e=>by
  unfold pQ at e;rw[List.length_mapIdx,←h2.length]at e;exact⟨us,h1,e.symm⟩
 ex:=λg H H' k h e=>Src.Yl k h e
 add:=λg g' H H' k h r e=>Src.Mq k h r e
def xZ(ds es:List Dat):List Dat:=List.zipWith (λd e=>.tuple [d,e]) ds es
theorem abq:Kh K (ItZ K S T) (λg H=>S.cw K ds g H/\T.cw K es g H) (xZ ds es) where
 go:=λg i H ⟨⟨us,h1,h2⟩,⟨ws,h3,h4⟩⟩ hi=>by
  unfold xZ at hi;rw[List.length_zipWith,←h2.length,←h4.length]at hi;exact⟨us,ws,us[i],ws[i],h1,h3,arI (by omega),arI (by omega)⟩
 yld:=λg i H x H' d k ⟨⟨us,h1,h2⟩,⟨ws,h3,h4⟩⟩ e y=>by
  unfold xZ at e;rw[List.getElem?_zipWith]at e;cases hd:ds[i]? with
  |none=>rw[hd]at e;cases e
  |some d0=>
   cases he:es[i]? with
   |none=>rw[hd,he]at e;cases e
   |some e0=>
    rw[hd,he]at e;cases e;obtain⟨v,hv,rv⟩:=h2.get hd;obtain⟨u,hu,ru⟩:=h4.get he;obtain⟨U,x0,y0,rfl,nU,rfl,y1,y2⟩:=y;have:x0=v:=arY ((y1 us h1).symm.trans hv);subst this;have:y0=u:=arY ((y2 ws h3).symm.trans hu);subst this;exact⟨Ex.new nU,.tup (st_of upd_same) (.cons (rv.ex (Ex.new nU) k) (.cons (ru.ex (Ex.new nU) k) .nil))⟩
 stop:=λg i H ⟨⟨us,h1,h2⟩,⟨ws,h3,h4⟩⟩ e=>by
  unfold xZ at e;rw[List.length_zipWith,←h2.length,←h4.length]at e;exact⟨us,ws,h1,h3,e⟩
 ex:=λg H H' k h e=>⟨Src.Yl k h.1 e,Src.Yl k h.2 e⟩
 add:=λg g' H H' k h r e=>⟨Src.Mq k h.1 r e,Src.Mq k h.2 r e⟩
def jy(lo:Int)(n:Nat):List Dat:=(List.range n).map λ(i:Nat)=>.int (lo+(i:Int))
theorem Xq{lo:Int}{n:Nat}:Kh K (Itr lo n) (λ_ _=>True) (jy lo n) where
 go:=λg i H _ hi=>by
  unfold jy at hi;rw[arU,List.length_range]at hi;exact hi
 yld:=λg i H x H' d k _ e y=>by
  obtain⟨rfl,rfl⟩:=y;unfold jy at e;rw[arT]at e;cases hr:(List.range n)[i]? with
  |none=>rw[hr]at e;cases e
  |some j=>
   rw[hr]at e;cases e;have:j=i:=by obtain⟨h1,h2⟩:=arJ.mp hr;rw[List.getElem_range]at h2;exact h2.symm
   subst this;exact⟨Ex.refl _,.int _⟩
 stop:=λg i H _ e=>by
  unfold jy at e;rw[arU,List.length_range]at e;show n<=i;omega
 ex:=λ_ _ _ _ _ _=>trivial
 add:=λ_ _ _ _ _ _ _ _=>trivial
end
section
variable{X:Cx}{aj:aR}{W:WX}{tg a b:Expr}{fa fb:QF}{pos p tpos:Pos}{elts:List Expr}{kk:Nat}
theorem Oj{K:arG}{g:Gh}{H:Hp}{v:V}{d:Dat}{ds:List Dat}{firm:Bool}(r:if firm=true then Rep K g H v d else eG K g H v d)(h:pC d=.ok ds):∃S,srcOf v S/\S.cw K ds g H/\(firm=true->S.cf K ds g H):=by
 have rw:eG K g H v d:=by
  cases firm with
  |true=>exact Rep.weak r
  |false=>exact r
 cases d with
 |list es=>
  cases h;obtain⟨l,us,rfl,h1,h2⟩:=gK rw;refine⟨.lst l,.inl ⟨l,rfl,rfl,.inl rfl⟩,⟨us,h1,h2⟩,λz=>?_⟩;subst z;have r:Rep K g H (.ref l) (.list ds):=r;cases r with
  |lst h3 h4=>exact⟨_,h3,h4⟩
 |tuple es=>
  cases h;obtain⟨l,us,rfl,h1,h2⟩:=kW rw;exact⟨.tup l,.inl ⟨l,rfl,rfl,.inr rfl⟩,⟨us,h1,h2⟩,λ_=>⟨us,h1,h2⟩⟩
 |str x=>
  cases h;cases jW rw;exact⟨.str x,.inr ⟨x,rfl,rfl⟩,⟨_,rfl,Ep x⟩,λ_=>⟨_,rfl,Ep x⟩⟩
 |_=>cases h
def tF(K:arG)(aj:aR)(W:WX)(firm:Bool)(f:QF):TE:=if firm=true then tQ K aj W f else tW K aj W f
def QF'(aj:aR)(X:Cx)(W:WX)(firm:Bool)(e:Expr)(f:QF):Prop:=PE X e (tF X.K aj W firm f)
theorem tF.go{K:arG}{firm:Bool}{g:Gh}{H:Hp}{σ:L2.St}{Z:Env}{M:Mo}{f:QF}{k:Dat->Prop}{Q:VK}(I:SInv K aj σ H g Z M)(h:(f M Z).sat k (qJ K aj W g H σ))(hk:∀d v H',k d->Ex H H'->(if firm=true then Rep K g H' v d else eG K g H' v d)->Q v H'):tF K aj W firm f σ H Q:=by
 cases firm with
 |true=>exact tQ.go I h hk
 |false=>exact tW.go I h hk
theorem amK{K:arG}{firm:Bool}{g:Gh}{H H':Hp}{v:V}{d:Dat}(e:Ex H H')(k:Kd g H)(r:if firm=true then Rep K g H v d else eG K g H v d):if firm=true then Rep K g H' v d else eG K g H' v d:=by
 cases firm with
 |true=>exact Rep.ex e k r
 |false=>exact eG.ex e k r
theorem wf{K:arG}{S:Src}{firm:Bool}{J:It}{ds es:List Dat}{R:It->Hp->Prop}{g:Gh}{H H1:Hp}(h:∀J C H',Ex H H'->Kh K J C ds->C g H'->(firm=true->acV C)->R J H')(e1:Ex H H1)(w:Kh K J (S.cw K es) ds)(hw:S.cw K es g H1)(hf:firm=true->S.cf K es g H1):R J H1:=by
 cases firm with
 |true=>exact h J (S.cf K es) H1 e1 (w.of (λ_ _ z=>Src.acU z) (λg H H' k c e=>Src.u5 true g g H H' k c (Gr.ex e)) λg g' H H' k c r e=>Src.u5 true g g' H H' k c r) (hf rfl) λ_=>Src.u5
 |false=>exact h J (S.cw K es) H1 e1 w hw λz=>nomatch z
theorem YB{firm:Bool}(ha:QF' aj X W firm a fa):QI aj X W firm tg a (dB fa):=by
 refine⟨λpins s σ H R I h=>?_⟩;obtain⟨g,Z,M,SI,hs⟩:=h;have hs:=hs.bnd;have fin:∀(S:Src) (x:V) (H1:Hp) (ds:List Dat),(∀J C H',Ex H H'->Kh X.K J C ds->C g H'->(firm=true->acV C)->R J H')->Ex H H1->S.cw X.K ds g H1->(firm=true->S.cf X.K ds g H1)->R (ItS X.K S) H1:=λS x H1 ds h e1 hw hf=>wf h e1 abF hw hf;cases hfa:fa M Z with
 |bad=>rw[hfa]at hs;exact atd hs
 |exc x=>
  rw[hfa]at hs;exact(pi_list ha).run pins s σ H R I (tF.go (k:=λ_=>False) SI (by rw[hfa];exact hs) λd v H' z=>atd z)
 |ok d=>
  rw[hfa]at hs;cases d with
  |list ds=>
   refine(pi_list ha).run pins s σ H R I (tF.go (k:=λz=>z=.list ds) SI (by rw[hfa];rfl) λd v H' z e1 r=>?_);subst z;obtain⟨S,hS,hw,hf⟩:=Oj (firm:=firm) r (ds:=ds) rfl;have rw:eG X.K g H' v (.list ds):=by
    cases firm with
    |true=>exact Rep.weak r
    |false=>exact r
   obtain⟨l,us,rfl,h1,h2⟩:=gK rw;refine⟨l,rfl,⟨us,h1⟩,?_⟩;rcases hS with⟨a',e,ha',hl|ht⟩|⟨y,_,e⟩
   ·cases e;subst hl;exact fin (.lst l) (.ref l) H' ds hs e1 hw hf
   ·cases e;subst ht;refine wf (S:=.lst l) hs e1 (abF (S:=.lst l)) ⟨us,h1,h2⟩ λz=>?_;subst z;have r:Rep X.K g H' (.ref l) (.list ds):=r;cases r with
    |lst h3 h4=>exact⟨_,h3,h4⟩
   ·cases e
  |tuple ds=>
   refine(pi_tup ha).run pins s σ H R I (tF.go (k:=λz=>z=.tuple ds) SI (by rw[hfa];rfl) λd v H' z e1 r=>?_);subst z;have rw:eG X.K g H' v (.tuple ds):=by
    cases firm with
    |true=>exact Rep.weak r
    |false=>exact r
   obtain⟨l,us,rfl,h1,h2⟩:=kW rw;exact⟨l,rfl,⟨us,h1⟩,fin (.tup l) (.ref l) H' ds hs e1 ⟨us,h1,h2⟩ λ_=>⟨us,h1,h2⟩⟩
  |str x=>
   refine(pi_str ha).run pins s σ H R I (tF.go (k:=λz=>z=.str x) SI (by rw[hfa];rfl) λd v H' z e1 r=>?_);subst z;have rw:eG X.K g H' v (.str x):=by
    cases firm with
    |true=>exact Rep.weak r
    |false=>exact r
   cases jW rw;exact⟨x,rfl,fin (.str x) (.str x) H' _ hs e1 ⟨_,rfl,Ep x⟩ λ_=>⟨_,rfl,Ep x⟩⟩
  |_=>exact atd hs
def CJ(a:QF):IF:=λM Z=>(a M Z).bind λd=>(Bv d).bind λn=>Out.when (decide (n<=100000/\-100000<=n)) (.ok (jy 0 n.toNat))
def CW(a b:QF):IF:=λM Z=>(a M Z).bind λd=>(b M Z).bind λe=>(Bv d).bind λlo=>(Bv e).bind λn=>Out.when (decide (n<=100000/\-100000<=n/\lo<=100000/\-100000<=lo)) (.ok (jy lo (n - lo).toNat))
def yw(k₀:Int)(a:QF):IF:=λM Z=>(a M Z).bind λd=>(pC d).bind λds=>.ok (pQ k₀ ds)
def DY(a b:QF):IF:=λM Z=>(a M Z).bind λd=>(b M Z).bind λe=>(pC d).bind λds=>(pC e).bind λes=>.ok (xZ ds es)
theorem aeN{firm:Bool}(hg:Gl X "range")(hm:X.mg "range"=none)(ha:QW aj X W a fa)(hs:nst a=true):QI aj X W firm tg (.Call (.Name "range" p) [a] [] pos) (CJ fa):=by
 refine⟨λpins s σ H R I h=>?_⟩;refine(pi_range1 hg hm (pa_cons ha pa_nil (cH hs [])) (cH hs [])).run pins s σ H R I ?_;obtain⟨g,Z,M,SI,h⟩:=h;refine tW.go SI h.bnd λd v H1 h1 e1 r1=>?_;have h1:=h1.bnd;unfold Bv at h1;split at h1
 ·obtain⟨hz,h1⟩:=h1.o9;have hz:=atf hz;cases cI r1;exact⟨_,rfl,by omega,by omega,h1 _ _ H1 e1 Xq trivial λ_=>λ_ _ _ _ _ _ _ _=>trivial⟩
 ·exact atd h1
theorem aeM{firm:Bool}(hg:Gl X "range")(hm:X.mg "range"=none)(ha:QW aj X W a fa)(hb:QW aj X W b fb)(hs:nst a=true)(hs2:nst b=true):QI aj X W firm tg (.Call (.Name "range" p) [a,b] [] pos) (CW fa fb):=by
 refine⟨λpins s σ H R I h=>?_⟩;refine(pi_range2 hg hm (pa_cons ha (pa_cons hb pa_nil (cH hs2 [])) (cH hs [b])) (by rw[cH hs,cH hs2];rfl) (cH hs2 [])).run pins s σ H R I ?_;obtain⟨g,Z,M,SI,h⟩:=h;refine tW.go SI h.bnd λd v H1 h1 e1 r1=>?_;refine tW.go (SI.ex e1) (h1.bnd.mono (λ_ z=>z) λ_ z=>z.ex e1) λd2 v2 H2 h2 e2 r2=>?_;have h2:=h2.bnd;unfold Bv at h2;split at h2
 ·have h2:=Out.sat.bnd h2;split at h2
  ·obtain⟨hz,h2⟩:=Out.sat.o9 h2;have hz:=atf hz;cases cI r1;cases cI r2;exact⟨_,_,rfl,⟨by omega,by omega,by omega,by omega⟩,h2 _ _ H2 (e1.trans e2) Xq trivial λ_=>λ_ _ _ _ _ _ _ _=>trivial⟩
  ·exact atd h2
 ·exact atd h2
theorem agO{firm:Bool}{k₀:Int}(σ:L2.St)(H:Hp)(R:It->Hp->Prop)(h:tI X.K aj W firm (yw k₀ fa) σ H R):iEn X.K (tCons (tF X.K aj W firm fa) tNil) k₀ σ H R:=by
 obtain⟨g,Z,M,SI,h⟩:=h;refine tF.go SI h.bnd λd v H1 h1 e1 r1=>?_;cases hd:pC d with
 |bad=>rw[hd]at h1;exact atd h1
 |exc x=>cases d<;>cases hd
 |ok ds=>
  rw[hd]at h1;obtain⟨S,hS,hw,hf⟩:=Oj r1 hd;exact⟨v,S,_,rfl,hS,hw.choose_spec.1,wf h1 e1 afL hw hf⟩
theorem aiC{firm:Bool}(hg:Gl X "enumerate")(hm:X.mg "enumerate"=none)(ha:QF' aj X W firm a fa)(hs:nst a=true):QI aj X W firm (.Tuple elts kk tpos) (.Call (.Name "enumerate" p) [a] [] pos) (yw 0 fa):=
 ⟨λpins s σ H R I h=>(amL hg hm (pa_cons ha pa_nil (cH hs [])) hs).run pins s σ H R I (agO σ H R h)⟩
theorem agh{firm:Bool}{k₀:Int}{j:Nat}{kp kp2:Pos}(hk0 : -(2 ^ 63)<=k₀)(hk1:k₀ < 2 ^ 63)(hg:Gl X "enumerate")(hm:X.mg "enumerate"=none)(ha:QF' aj X W firm a fa)(hs:nst a=true):QI aj X W firm (.Tuple elts kk tpos) (.Call (.Name "enumerate" p) [a] [⟨some "start",.Constant (.int k₀) j kp,kp2⟩] pos) (yw k₀ fa):=
 ⟨λpins s σ H R I h=>(akd hk0 hk1 hg hm (pa_cons ha pa_nil (cH hs [])) hs).run pins s σ H R I (agO σ H R h)⟩
theorem ak0{firm:Bool}(hg:Gl X "zip")(hm:X.mg "zip"=none)(ha:QF' aj X W firm a fa)(hb:QF' aj X W firm b fb)(hs:nst a=true)(hs2:nst b=true):QI aj X W firm (.Tuple elts kk tpos) (.Call (.Name "zip" p) [a,b] [] pos) (DY fa fb):=by
 refine⟨λpins s σ H R I h=>(amO hg hm (pa_cons ha (pa_cons hb pa_nil (cH hs2 [])) (cH hs [b])) hs hs2).run pins s σ H R I ?_⟩;obtain⟨g,Z,M,SI,h⟩:=h;refine tF.go SI h.bnd λd v H1 h1 e1 r1=>?_;refine tF.go (SI.ex e1) (h1.bnd.mono (λ_ z=>z) λ_ z=>z.ex e1) λd2 v2 H2 h2 e2 r2=>?_;cases hd:pC d with
 |bad=>rw[hd]at h2;exact atd h2
 |exc x=>cases d<;>cases hd
 |ok ds=>
  cases he:pC d2 with
  |bad=>rw[hd,he]at h2;exact atd h2
  |exc x=>cases d2<;>cases he
  |ok es=>
   rw[hd,he]at h2;obtain⟨S,hS,hw,hf⟩:=Oj (amK e2 (SI.ex e1).kd r1) hd;obtain⟨T,hT,hw2,hf2⟩:=Oj r2 he;refine⟨v,v2,S,T,_,_,rfl,hS,hT,hw.choose_spec.1,hw2.choose_spec.1,?_⟩;cases firm with
   |true=>exact h2 _ (λg H=>S.cf X.K ds g H/\T.cf X.K es g H) H2 (e1.trans e2) (abq.of (λ_ _ z=>⟨Src.acU z.1,Src.acU z.2⟩) (λg H H' k c e=>⟨Src.u5 true g g H H' k c.1 (Gr.ex e),Src.u5 true g g H H' k c.2 (Gr.ex e)⟩) λg g' H H' k c r e=>⟨Src.u5 true g g' H H' k c.1 r,Src.u5 true g g' H H' k c.2 r⟩) ⟨hf rfl,hf2 rfl⟩ λ_=>λq g g' H H' k c r=>⟨Src.u5 q g g' H H' k c.1 r,Src.u5 q g g' H H' k c.2 r⟩
   |false=>exact h2 _ _ H2 (e1.trans e2) abq ⟨hw,hw2⟩ λz=>nomatch z
end
def WF:WX:=λ_ _ _ _=>False
def yt{α:Type}:Out α->Out α
 |.ok a=>.ok a
 |_=>.bad
@[simp]theorem Zu {α:Type} (a:α):yt (.ok a)=.ok a:=rfl
theorem xq{α:Type}{o:Out α}{P:α->Prop}{E E':dR->Prop}(h:(yt o).sat P E):o.sat P E':=by
 cases o
 ·exact h
 ·exact atd h
 ·exact h
def cR(tg:fH)(tt:QT)(te:QF)(M:Mo)(Z:Env):List Dat->Out (List Dat)
 |[]=>.ok []
 |d::ds=>match tg d Z with
  |none=>.bad
  |some Z1=>(yt (tt M Z1)).bind λb=>if b=true then(yt (te M Z1)).bind λy=>(cR tg tt te M Z ds).bind λr=>.ok (y::r) else cR tg tt te M Z ds
def eU(it:IF)(tg:fH)(vs:List Nat)(tt:QT)(te:QF):QF:=λM Z=>(it M Z).bind λds=>Out.when (decide (ds.length<=50000)) ((cR tg tt te M (bT Z vs) ds).bind λr=>.ok (.list r))
def iI:QT:=λ_ _=>.ok true
def tFr(K:arG)(aj:aR)(W:WX)(f:IF):TE:=λσ H Q=>∃g Z M,SInv K aj σ H g Z M/\(f M Z).sat (λxs=>∀l us H',H l=none->Ex H H'->H' l=some (.lst us)->aM K (g.add l) H' us xs->Q (.ref l) H') (qJ K aj W g H σ)
def Bm(it:IF)(tg:fH)(vs:List Nat)(tt:QT)(te:QF):IF:=λM Z=>(it M Z).bind λds=>Out.when (decide (ds.length<=50000)) (cR tg tt te M (bT Z vs) ds)
section
variable{K:arG}{aj:aR}{W:WX}
theorem Y9{g:Gh}{H:Hp}{D:Addr}{o o':HO}{vs:List V}{ds:List Dat}(k:Kd g H)(h:H D=some o)(l:g.Lo D)(r:aM K g H vs ds):aM K g (upd H D o') vs ds:=r.gr (Gr.upd (q:=true) k h (.inr l)) k
theorem ahs{g:Gh}{H:Hp}{D:Addr}{o o':HO}{v:V}{d:Dat}(k:Kd g H)(h:H D=some o)(l:g.Lo D)(r:Rep K g H v d):Rep K g (upd H D o') v d:=r.gr (Gr.upd (q:=true) k h (.inr l)) k
theorem mV{tg:fH}{tt:QT}{te:QF}{M:Mo}{Z:Env}:∀{ds:List Dat} {x:dR},cR tg tt te M Z ds≠.exc x
 |[],_,h=>nomatch h
 |d::ds,x,h=>by
  rw[cR]at h;split at h
  ·cases h
  ·next Z1 e=>
   cases h1:tt M Z1 with
   |bad=>rw[h1]at h;cases h
   |exc y=>rw[h1]at h;cases h
   |ok b=>
    rw[h1]at h;cases b with
    |false=>exact mV h
    |true=>
     have h:((yt (te M Z1)).bind λy=>(cR tg tt te M Z ds).bind λr=>Out.ok (y::r))=.exc x:=h;cases h2:te M Z1 with
     |bad=>rw[h2]at h;cases h
     |exc y=>rw[h2]at h;cases h
     |ok y=>
      rw[h2]at h;cases h3:cR tg tt te M Z ds with
      |bad=>rw[h3]at h;cases h
      |exc z=>exact mV h3
      |ok r=>rw[h3]at h;cases h
theorem Pj(σ:L2.St)(i:Nat):∀vs:List Nat,(L2.wipe σ vs)[i]?=if i∈vs then(σ[i]?).map (λ_=>none) else σ[i]?
 |[]=>by simp[L2.wipe]
 |v::vs=>by
  show((L2.wipe σ vs).set v none)[i]?=_
  by_cases h:v=i
  ·subst h;by_cases hl:v < σ.length
   ·rw[arZ (by rw[wipe_length];exact hl),if_pos arM,arI hl];rfl
   ·have h1:σ[v]?=none:=List.getElem?_eq_none_iff.mpr (by omega);rw[if_pos arM,h1,List.getElem?_eq_none_iff.mpr (by rw[ase,wipe_length];omega)];rfl
  ·rw[arP h,Pj σ i vs];have:i∈v::vs↔i∈vs:=⟨λz=>by
    rcases arV.mp z with z|z
    ·exact absurd z.symm h
    ·exact z,arL _⟩
   simp only[this]
theorem Ay(σ:L2.St)(vs:List Nat):L2.wipe (L2.wipe σ vs) vs=L2.wipe σ vs:=by
 apply asl;intro i;rw[Pj (L2.wipe σ vs) i vs,Pj σ i vs];split
 ·cases σ[i]?<;>rfl
 ·rfl
theorem Zk{it:IF}{tg:fH}{js vs:List Nat}{tt:QT}{te:QF}(hj:∀j∈js,j∈vs)(σ:L2.St)(H:Hp)(Q:VK)(h:tFr K aj W (Bm it tg vs tt te) σ H Q) :
  tLc (tI K aj W false it) (yI K aj js tg) (jK K aj WF tt) (tQ K aj WF te) vs σ H Q:=by
 obtain⟨g,Z,M,I,h⟩:=h;refine⟨g,Z,M,I,h.bnd.mono (λds hk J C H1 e1 w c _ D nD=>?_) λ_ z=>z⟩;obtain⟨hz,hk⟩:=hk.o9;have hlen:=atf hz;obtain⟨total,htot,hQ⟩:∃total,cR tg tt te M (bT Z vs) ds=.ok total/\∀l us H',H l=none->Ex H H'->H' l=some (.lst us)->aM K (g.add l) H' us total->Q (.ref l) H':=by
  cases hc:cR tg tt te M (bT Z vs) ds with
  |bad=>rw[hc]at hk;exact atd hk
  |exc x=>exact absurd hc mV
  |ok total=>
   rw[hc]at hk;exact⟨total,rfl,hk⟩
 have I1:=(I.ex e1).wipe vs;have kD:∀{Ha:Hp} {us:List V},Ex H1 Ha->Ha D=some (.lst us)->SInv K aj (L2.wipe σ vs) Ha (g.add D) (bT Z vs) M:=λea hu=>I1.add nD ea hu trivial
 let Pv:Nat->Hp->Prop:=λi Ha=>Ex H1 Ha/\i<=ds.length/\∃us ys,Ha D=some (.lst us)/\aM K (g.add D) Ha us ys/\ys.length<=i/\(cR tg tt te M (bT Z vs) (ds.drop i)).sat (λr=>total=ys++r) λ_=>False
 refine⟨λi m Ha=>m=ds.length - i/\Pv i Ha,⟨ds.length,rfl,Ex.new nD,asz _,[],[],upd_same,.nil,ar9 _,?_⟩,?_⟩
 ·rw[as4,htot];rfl
 ·rintro i m Ha ⟨rfl,ea,hi,us,ys,hu,hU,hy,hs⟩;have Ia:=kD ea hu;have Ca:=w.add g (g.add D) H1 Ha (I.kd.ex e1) c (Gh.Di nD ea) ea;by_cases hlt:i < ds.length
  ·refine .inr ⟨w.go _ i Ha Ca hlt,Pv (i+1),λH' p=>⟨ds.length - (i+1),by omega,rfl,p⟩,λx H' y=>?_⟩;have hd:ds[i]?=some ds[i]:=arI hlt;obtain⟨e2,rx⟩:=w.yld _ i Ha x H' _ Ia.kd Ca hd y;have I2:=Ia.ex e2;rw[asH hlt,cR]at hs;split at hs
   ·exact atd hs
   ·next Z1 he=>
    refine⟨g.add D,_,M,_,Z1,I2,rx,he,λws I3=>⟨xJ js ws _ vs hj |>.trans (Ay σ vs),?_⟩⟩;refine jK.go I3 (xq hs.bnd) λb H3 hb e3=>?_;have I4:=I3.ex e3;have hu3:=e3 _ _ (e2 _ _ hu);have hU3:=(hU.ex e2 Ia.kd).ex e3 I2.kd;cases b with
    |false=>
     have hb:(cR tg tt te M (bT Z vs) (ds.drop (i+1))).sat (λr=>total=ys++r) λ_=>False:=hb;exact⟨(ea.trans e2).trans e3,hlt,us,ys,hu3,hU3,Nat.le_succ_of_le hy,hb⟩
    |true=>
     have hb:((yt (te M Z1)).bind λy=>(cR tg tt te M (bT Z vs) (ds.drop (i+1))).bind λr=>Out.ok (y::r)).sat (λr=>total=ys++r) λ_=>False:=hb;refine tQ.go I4 (xq hb.bnd) λy v H4 hyv e4 ry=>?_;have I5:=I4.ex e4;have hu4:=e4 _ _ hu3;have hU4:=hU3.ex e4 I4.kd;have lD:(g.add D).Lo D:=.inr rfl;refine⟨us,hu4,sz_lt (by rw[hU.length];omega),Ex.mut (((ea.trans e2).trans e3).trans e4) nD,hlt,us++[v],ys++[y],upd_same,?_,by simp;omega,hyv.bnd.mono (λr hr=>?_) λ_ z=>z⟩
     ·exact Y9 I5.kd hu4 lD (hU4.append (.cons ry .nil))
     ·have hr:total=ys++y::r:=hr;rw[hr];simp
  ·have e:i=ds.length:=by omega
   refine .inl ⟨w.stop _ i Ha Ca e,?_⟩;rw[e,asN]at hs;have hs:total=ys++[]:=hs;rw[asF]at hs;subst hs;exact hQ D us Ha (yM e1 D nD) (e1.trans ea) hu hU
theorem agV{it:IF}{tg:fH}{js vs:List Nat}{tt:QT}{te:QF}(hj:∀j∈js,j∈vs)(σ:L2.St)(H:Hp)(Q:VK)(h:tQ K aj W (eU it tg vs tt te) σ H Q) :
  tLc (tI K aj W false it) (yI K aj js tg) (jK K aj WF tt) (tQ K aj WF te) vs σ H Q:=by
 obtain⟨g,Z,M,I,h⟩:=h;refine Zk hj σ H Q ⟨g,Z,M,I,?_⟩;unfold Bm;unfold eU at h;cases hi:it M Z with
 |bad=>rw[hi]at h;exact atd h
 |exc x=>rw[hi]at h;exact h
 |ok ds=>
  rw[hi]at h;obtain⟨hz,h⟩:=Out.sat.o9 h;have h:=h.bnd
  show(Out.when (decide (ds.length<=50000)) (cR tg tt te M (bT Z vs) ds)).sat _ _
  rw[hz,Out.Xp];exact h.mono (λxs z l us H' n e hl r=>z _ H' e (.lst (.inl ⟨.inl hl,I.kd.fresh n⟩) (aM.less (g:=g.add l) (g':=g) rfl (λa z=>z.elim .inl λz=>.inr (z.elim .inl λz=>.inr (.inl z))) r))) λ_ z=>z
end
section
variable{X:Cx}{aj:aR}{W:WX}{elt tg iter:Expr}{pos p tpos:Pos}
theorem alV{X:Cx}:Takes X WF:=λu s' ⟨a,B,sI,pins,σ,H,cls,d,e,I,nb,up,sky,na,os,ag,w⟩=>atd w
theorem al9{scope:Scope}{own:List (Str×Nat)}{it:IF}{tgf:fH}{js:List Nat}{tt:QT}{te:QF}{ifs:List Expr}(hc:X.calm=true)(hN:X.N.Nodup)(hi:QI aj X W false tg iter it)(ok:blkC X.N X.env.scope scope own=true)(hj:∀j∈js,j∈own.map (·.2))
  (hg:∀(s:Shared) (H:Hp) (C:Addr) (cl:List (Str×Addr)) (fp:List Addr),QG aj (X.blk s H scope (compEnvC scope cl C X.env) fp) tg js tgf)
  (ht:∀(s:Shared) (H:Hp) (C:Addr) (cl:List (Str×Addr)) (fp:List Addr),PTs (X.blk s H scope (compEnvC scope cl C X.env) fp) ifs (jK X.K aj WF tt))
  (he:∀(s:Shared) (H:Hp) (C:Addr) (cl:List (Str×Addr)) (fp:List Addr),QE aj (X.blk s H scope (compEnvC scope cl C X.env) fp) WF elt te) (hs:∀x,foldedSetIterable iter X.env x=pure x) :
  QE aj X W (.ListComp elt [⟨tg,iter,ifs,0⟩] scope pos) (eU it tgf (own.map (·.2)) tt te):=
 PE.weak (pe_lc (g:=yI X.K aj js tgf) (tt:=jK X.K aj WF tt) (te:=tQ X.K aj WF te) hc hN hi (blkOk_by ok) (λs H C cl fp=>hg s H C cl fp) ht (λs H C cl fp=>he s H C cl fp) hs) λσ H Q h=>agV hj σ H Q h
theorem al2{scope:Scope}{own:List (Str×Nat)}{it:IF}{tgf:fH}{js:List Nat}{tt:QT}{te:QF}{ifs:List Expr}(hc:X.calm=true)(hN:X.N.Nodup)(hi:QI aj X W false tg iter it)(ok:blkC X.N X.env.scope scope own=true)(hj:∀j∈js,j∈own.map (·.2))
  (hg:∀(s:Shared) (H:Hp) (C:Addr) (cl:List (Str×Addr)) (fp:List Addr),QG aj (X.blk s H scope (compEnvC scope cl C X.env) fp) tg js tgf)
  (ht:∀(s:Shared) (H:Hp) (C:Addr) (cl:List (Str×Addr)) (fp:List Addr),PTs (X.blk s H scope (compEnvC scope cl C X.env) fp) ifs (jK X.K aj WF tt))
  (he:∀(s:Shared) (H:Hp) (C:Addr) (cl:List (Str×Addr)) (fp:List Addr),QE aj (X.blk s H scope (compEnvC scope cl C X.env) fp) WF elt te) (hs:∀x,foldedSetIterable iter X.env x=pure x) :
  PE X (.ListComp elt [⟨tg,iter,ifs,0⟩] scope pos) (tFr X.K aj W (Bm it tgf (own.map (·.2)) tt te)):=
 PE.weak (pe_lc (g:=yI X.K aj js tgf) (tt:=jK X.K aj WF tt) (te:=tQ X.K aj WF te) hc hN hi (blkOk_by ok) (λs H C cl fp=>hg s H C cl fp) ht (λs H C cl fp=>he s H C cl fp) hs) λσ H Q h=>Zk hj σ H Q h
end
def bf.sat{α:Type}(o:bf α)(P:α->Mo->Prop)(E:dR->Mo->Prop):Prop:=
 match o with
 |.ok a M=>P a M
 |.exc x M=>E x M
 |.bad=>False
def bf.bind{α β:Type}(o:bf α)(k:α->Mo->bf β):bf β:=
 match o with
 |.ok a M=>k a M
 |.exc x M=>.exc x M
 |.bad=>.bad
@[simp]theorem bf.zA {α β:Type} (a:α) (M:Mo) (k:α->Mo->bf β):(bf.ok a M).bind k=k a M:=rfl
@[simp]theorem bf.aft {α β:Type} (x:dR) (M:Mo) (k:α->Mo->bf β):(bf.exc x M:bf α).bind k=.exc x M:=rfl
@[simp]theorem bf.afG {α β:Type} (k:α->Mo->bf β):(bf.bad:bf α).bind k=.bad:=rfl
theorem bf.sat.bnd{α β:Type}{o:bf α}{k:α->Mo->bf β}{P:β->Mo->Prop}{E:dR->Mo->Prop}(h:(o.bind k).sat P E):o.sat (λa M=>(k a M).sat P E) E:=by cases o<;>exact h
theorem bf.sat.mono{α:Type}{o:bf α}{P P':α->Mo->Prop}{E E':dR->Mo->Prop}(h:o.sat P E)(hp:∀a M,P a M->P' a M)(he:∀x M,E x M->E' x M):o.sat P' E':=by
 cases o
 ·exact hp _ _ h
 ·exact he _ _ h
 ·exact h
def Out.at{α:Type}(o:Out α)(M:Mo):bf α:=
 match o with
 |.ok a=>.ok a M
 |.exc x=>.exc x M
 |.bad=>.bad
@[simp]theorem Out.acs {α:Type} (a:α) (M:Mo):(Out.ok a).at M=.ok a M:=rfl
@[simp]theorem Out.aj2 {α:Type} (x:dR) (M:Mo):(Out.exc x:Out α).at M=.exc x M:=rfl
@[simp]theorem Out.ajD {α:Type} (M:Mo):(Out.bad:Out α).at M=.bad:=rfl
theorem Out.jh{α:Type}{o:Out α}{M:Mo}{P:α->Mo->Prop}{E:dR->Mo->Prop}(h:(o.at M).sat P E):o.sat (λa=>P a M) λx=>E x M:=by cases o<;>exact h
abbrev GF:=Mo->Env->bf Dat
abbrev GT:=Mo->Env->bf Bool
def vq.sat(o:vq)(nx:Env->Mo->Prop)(rt:Dat->Mo->Prop)(bk ct:Env->Mo->Prop)(ex:dR->Env->Mo->Prop):Prop:=
 match o with
 |.next Z M=>nx Z M
 |.ret d M=>rt d M
 |.brk Z M=>bk Z M
 |.cont Z M=>ct Z M
 |.exc x Z M=>ex x Z M
 |.bad=>False
theorem vq.sat.mono{o:vq}{nx nx':Env->Mo->Prop}{rt rt':Dat->Mo->Prop}{bk bk' ct ct':Env->Mo->Prop}{ex ex':dR->Env->Mo->Prop}(h:o.sat nx rt bk ct ex)(h1:∀Z M,nx Z M->nx' Z M)(h2:∀d M,rt d M->rt' d M)(h3:∀Z M,bk Z M->bk' Z M)(h4:∀Z M,ct Z M->ct' Z M)(h5:∀x Z M,ex x Z M->ex' x Z M):o.sat nx' rt' bk' ct' ex':=by
 cases o
 ·exact h1 _ _ h
 ·exact h2 _ _ h
 ·exact h3 _ _ h
 ·exact h4 _ _ h
 ·exact h5 _ _ _ h
 ·exact h
abbrev SF:=Mo->Env->vq
def Gh.fr(g:Gh):Gh:={ g with Lo:=λ_=>False }
section
variable(K:arG)(aj:aR)(W:WX)(q:Bool)
def gE(g:Gh)(H:Hp)(σ:L2.St)(Z:Env)(x:dR)(M':Mo):Prop:=∀H' g' c dd,Gr q g g' H H'->SInv K aj σ H' g' Z M'->rB K aj g' H' x c dd->W c dd σ H'
def tE(f:GF):TE:=λσ H Q=>∃g Z M,SInv K aj σ H g Z M/\(f M Z).sat (λd M'=>∀v H' g',Gr q g g' H H'->SInv K aj σ H' g' Z M'->Rep K g' H' v d->Q v H') (gE K aj W q g H σ Z)
def tET(f:GT):TT:=λσ H Q=>∃g Z M,SInv K aj σ H g Z M/\(f M Z).sat (λb M'=>∀H' g',Gr q g g' H H'->SInv K aj σ H' g' Z M'->Q b H') (gE K aj W q g H σ Z)
def sN(k:L2.St->Hp->Prop)(g:Gh)(H:Hp)(Z':Env)(M':Mo):Prop:=∀σ' H' g',Gr q g g' H H'->SInv K aj σ' H' g' Z' M'->k σ' H'
def sR(k:VK)(g:Gh)(H:Hp)(d:Dat)(M':Mo):Prop:=∀v H' g',Gr q g g' H H'->Kd g'.fr H'->gD K aj g'.fr H' M'->Rep K g'.fr H' v d->k v H'
def sX(g:Gh)(H:Hp)(x:dR)(Z':Env)(M':Mo):Prop:=∀σ' H' g' c dd,Gr q g g' H H'->SInv K aj σ' H' g' Z' M'->rB K aj g'.fr H' x c dd->W c dd σ' H'
def tS(f:SF):TS:=λD σ H=>∃g Z M,SInv K aj σ H g Z M/\(f M Z).sat (sN K aj q D.nx g H) (sR K aj q D.rt g H) (sN K aj q D.bk g H) (sN K aj q D.ct g H) (sX K aj W q g H)
end
section
variable{K:arG}{aj:aR}{W:WX}{q:Bool}{g g1:Gh}{H H1:Hp}{σ:L2.St}{Z:Env}{M:Mo}
theorem gE.gr{x:dR}{M':Mo}(r:Gr q g g1 H H1)(h:gE K aj W q g H σ Z x M'):gE K aj W q g1 H1 σ Z x M':=λH' g' c dd r' I z=>h H' g' c dd (r.trans r') I z
theorem sN.gr{k:L2.St->Hp->Prop}{Z':Env}{M':Mo}(r:Gr q g g1 H H1)(h:sN K aj q k g H Z' M'):sN K aj q k g1 H1 Z' M':=λσ' H' g' r' I=>h σ' H' g' (r.trans r') I
theorem sR.gr{k:VK}{d:Dat}{M':Mo}(r:Gr q g g1 H H1)(h:sR K aj q k g H d M'):sR K aj q k g1 H1 d M':=λv H' g' r' I z y=>h v H' g' (r.trans r') I z y
theorem sX.gr{x:dR}{Z':Env}{M':Mo}(r:Gr q g g1 H H1)(h:sX K aj W q g H x Z' M'):sX K aj W q g1 H1 x Z' M':=λσ' H' g' c dd r' I z=>h σ' H' g' c dd (r.trans r') I z
theorem tE.go{f:GF}{k:Dat->Mo->Prop}{Q:VK}(I:SInv K aj σ H g Z M)(h:(f M Z).sat k (gE K aj W q g H σ Z))(hk:∀d M' v H' g',k d M'->Gr q g g' H H'->SInv K aj σ H' g' Z M'->Rep K g' H' v d->Q v H'):tE K aj W q f σ H Q:=
 ⟨g,Z,M,I,h.mono (λd M' hd v H' g' e I' r=>hk d M' v H' g' hd e I' r) λ_ _ z=>z⟩
theorem tET.go{f:GT}{k:Bool->Mo->Prop}{Q:Bool->Hp->Prop}(I:SInv K aj σ H g Z M)(h:(f M Z).sat k (gE K aj W q g H σ Z))(hk:∀b M' H' g',k b M'->Gr q g g' H H'->SInv K aj σ H' g' Z M'->Q b H'):tET K aj W q f σ H Q:=
 ⟨g,Z,M,I,h.mono (λd M' hd H' g' e I'=>hk d M' H' g' hd e I') λ_ _ z=>z⟩
theorem tS.go{f:SF}{D:Ends}(I:SInv K aj σ H1 g1 Z M)(r:Gr q g g1 H H1)(h:(f M Z).sat (sN K aj q D.nx g H) (sR K aj q D.rt g H) (sN K aj q D.bk g H) (sN K aj q D.ct g H) (sX K aj W q g H)):tS K aj W q f D σ H1:=
 ⟨g1,Z,M,I,h.mono (λ_ _ z=>z.gr r) (λ_ _ z=>z.gr r) (λ_ _ z=>z.gr r) (λ_ _ z=>z.gr r) (λ_ _ _ z=>z.gr r)⟩
theorem lE.less{g':Gh}{fs:List (Str×V)}{gs:List (Str×Dat)}(e:g'.tbl=g.tbl)(n:∀a,g'.A a->g.A a)(h:lE K g H fs gs):lE K g' H fs gs:=by
 induction h with
 |nil=>exact .nil
 |cons r _ ih=>exact .cons (r.less e n) ih
theorem rB.less{g':Gh}{x:dR}{c:Value}{dd:Option Addr}(e:g'.tbl=g.tbl)(n:∀a,g'.A a->g.A a)(h:rB K aj g H x c dd):rB K aj g' H x c dd:=by obtain⟨C,h1,h2,h3⟩:=h;refine⟨C,h1,h2,h3.imp id λ⟨a,fs,e1,e2,e3⟩=>⟨a,fs,e1,e2,e3.less e n⟩⟩
theorem w6(g:Gh):∀a,g.fr.A a->g.A a:=λa z=>z.elim .inl λz=>.inr (z.elim .inl λz=>atd z)
theorem Rep.fr{v:V}{d:Dat}(h:Rep K g H v d):Rep K g.fr H v d:=Rep.less (g:=g) (g':=g.fr) rfl (w6 g) h
theorem aM.fr{v:List V}{d:List Dat}(h:aM K g H v d):aM K g.fr H v d:=aM.less (g:=g) (g':=g.fr) rfl (w6 g) h
theorem rB.fr{x:dR}{c:Value}{dd:Option Addr}(h:rB K aj g H x c dd):rB K aj g.fr H x c dd:=rB.less (g:=g) (g':=g.fr) rfl (w6 g) h
end
def GE(aj:aR)(X:Cx)(W:WX)(q:Bool)(e:Expr)(f:GF):Prop:=PE X e (tE X.K aj W q f)
def GTe(aj:aR)(X:Cx)(W:WX)(q:Bool)(e:Expr)(f:GT):Prop:=PT X e (tET X.K aj W q f)
def SE(aj:aR)(X:Cx)(W:WX)(q:Bool)(s:Stmt)(f:SF):Prop:=PS X s (tS X.K aj W q f)
def Kc(aj:aR)(X:Cx)(W:WX)(q:Bool)(s:List Stmt)(f:SF):Prop:=PSs X s (tS X.K aj W q f)
theorem PS.weak{X:Cx}{e:Stmt}{t t':TS}(h:PS X e t)(k:∀D σ H,t' D σ H->t D σ H):PS X e t':=⟨λpins s σ H D I z=>h.run pins s σ H D I (k D σ H z)⟩
theorem PSs.weak{X:Cx}{e:List Stmt}{t t':TS}(h:PSs X e t)(k:∀D σ H,t' D σ H->t D σ H):PSs X e t':=⟨λpins s σ H D I z=>h.run pins s σ H D I (k D σ H z)⟩
def gOf(f:QF):GF:=λM Z=>(f M Z).at M
def aga(f:QT):GT:=λM Z=>(f M Z).at M
section
variable{X:Cx}{aj:aR}{W:WX}{q:Bool}{a b e:Expr}{pos:Pos}
theorem agU{f:QF}(h:QE aj X W e f):GE aj X W q e (gOf f):=PE.weak h λσ H Q ⟨g,Z,M,I,z⟩=>
 ⟨g,Z,M,I,(Out.jh z).mono (λd k v H' e r=>k v H' g (Gr.ex e) (I.ex e) r) λx k H' c dd e r=>k H' g c dd (Gr.ex e) (I.ex e) r⟩
theorem amG{f:QT}(h:tH aj X W e f):GTe aj X W q e (aga f):=PT.weak h λσ H Q ⟨g,Z,M,I,z⟩=>
 ⟨g,Z,M,I,(Out.jh z).mono (λd k H' e=>k H' g (Gr.ex e) (I.ex e)) λx k H' c dd e r=>k H' g c dd (Gr.ex e) (I.ex e) r⟩
def aV:SF:=λM Z=>.next Z M
def aD(f k:SF):SF:=λM Z=>match f M Z with
 |.next Z' M'=>k M' Z'
 |o=>o
theorem akO:Kc aj X W q [] aV:=PSs.weak pss_nil λD σ H ⟨g,Z,M,I,z⟩=>z σ H g .refl I
theorem ajA{s:Stmt}{f:SF}(h:SE aj X W q s f):Kc aj X W q [s] f:=pss_one h
theorem ahy{s:Stmt}{ss:List Stmt}{f k:SF}(h:SE aj X W q s f)(hs:Kc aj X W q ss k):Kc aj X W q (s::ss) (aD f k):=by
 refine PSs.weak (pss_cons h hs) λD σ H ⟨g,Z,M,I,z⟩=>?_;refine⟨g,Z,M,I,?_⟩;unfold aD at z;cases hf:f M Z with
 |next Z' M'=>
  rw[hf]at z;exact λσ' H' g' r I'=>tS.go I' r z
 |ret d M'=>rw[hf]at z;exact z
 |brk Z' M'=>rw[hf]at z;exact z
 |cont Z' M'=>rw[hf]at z;exact z
 |exc x Z' M'=>rw[hf]at z;exact z
 |bad=>rw[hf]at z;exact z
def bf.then{α:Type}(o:bf α)(Z:Env)(k:α->Mo->vq):vq:=
 match o with
 |.ok a M=>k a M
 |.exc x M=>.exc x Z M
 |.bad=>.bad
@[simp]theorem bf.V2 {α:Type} (a:α) (M:Mo) (Z:Env) (k:α->Mo->vq):(bf.ok a M).then Z k=k a M:=rfl
@[simp]theorem bf.afu {α:Type} (x:dR) (M:Mo) (Z:Env) (k:α->Mo->vq):(bf.exc x M:bf α).then Z k=.exc x Z M:=rfl
@[simp]theorem bf.agv {α:Type} (Z:Env) (k:α->Mo->vq):(bf.bad:bf α).then Z k=.bad:=rfl
theorem dI{α:Type}{K:arG}{g:Gh}{H:Hp}{σ:L2.St}{Z:Env}{o:bf α}{k:α->Mo->vq}{nx bk ct:Env->Mo->Prop}{rt:Dat->Mo->Prop}(h:(o.then Z k).sat nx rt bk ct (sX K aj W q g H)):o.sat (λa M=>(k a M).sat nx rt bk ct (sX K aj W q g H)) (gE K aj W q g H σ Z):=by
 cases o with
 |ok a M=>exact h
 |exc x M=>exact λH' g' c dd r I z=>h σ H' g' c dd r I z.fr
 |bad=>exact h
def bF(tg:fH)(f:GF):SF:=λM Z=>(f M Z).then Z λd M'=>match tg d Z with
 |some Z'=>.next Z' M'
 |none=>.bad
theorem YD{tg:Expr}{js:List Nat}{tf:fH}{f:GF}(he:GE aj X W q e f)(hg:QG aj X tg js tf)(hs:swapsWithSole [tg] e pos.line X.env=pure false)(hw:swappedStores [tg] e X.env=pure none)(h1:(assignEach [tg] X.env).map (·.2)=[assign tg X.env]):SE aj X W q (.Assign [tg] e pos) (bF tf f):=by
 refine PS.weak (ps_asg he hg hs hw h1) λD σ H ⟨g,Z,M,I,z⟩=>?_;refine tE.go I (dI (σ:=σ) z) λd M' v H' g' k r I' rv=>?_;split at k
 ·next Z' e'=>exact⟨g',Z,M',d,Z',I',rv,e',λvs I2=>k _ H' g' r I2⟩
 ·exact atd k
def cG(f:GF):SF:=λM Z=>(f M Z).then Z λ_ M'=>.next Z M'
theorem Vk{f:GF}(he:GE aj X W q e f)(hs:swapsWith e none pos.line X.env=pure false):SE aj X W q (.Expr e pos) (cG f):=by refine PS.weak (ps_expr he hs) λD σ H ⟨g,Z,M,I,z⟩=>?_;exact tE.go I (dI (σ:=σ) z) λd M' v H' g' k r I' rv=>k σ H' g' r I'
end
def Rh:Cell->Cell
 |.mut xs=>.dat (.list xs)
 |c=>c
def sU(Z:Env):Env:=Z.map λo=>o.map Rh
section
variable{K:arG}{aj:aR}{W:WX}{q:Bool}{g:Gh}{H:Hp}{σ:L2.St}{Z:Env}{M:Mo}
theorem jH.less{g':Gh}{l:Addr}(e:g'.tbl=g.tbl)(n:∀a,g'.A a->g.A a):∀{b:Bool} {kvs:List (Dat×Dat)},jH K aj g H l b kvs->jH K aj g' H l b kvs
 |false,_,⟨kv,h1,h2,h3⟩=>⟨kv,h1,h2,h3.less e n⟩
 |true,_,⟨o,xs,vs,h1,h2,h3,h4,h5,h6⟩=>⟨o,xs,vs,h1,h2,h3,h4.less e n,h5,h6.less e n⟩
theorem dZ.less{g':Gh}{h:Nat}{f:Str}{v:V}(e:g'.tbl=g.tbl)(e2:g'.ow=g.ow)(n:∀a,g'.A a->g.A a):∀{fl:jm},dZ K aj g H h f v fl->dZ K aj g' H h f v fl
 |.dat _,z=>Rep.less e n z
 |.lst _ _,⟨l,us,h1,h2,h3,h4,h5⟩=>⟨l,us,h1,h2,by rw[e2];exact h3,h4.less e n,by rw[e];exact h5⟩
 |.dic _ _,⟨l,h1,h2,h3⟩=>⟨l,h1,by rw[e2];exact h2,h3.less e n⟩
theorem cQ.less{g':Gh}{h:Nat}(e:g'.tbl=g.tbl)(e2:g'.ow=g.ow)(n:∀a,g'.A a->g.A a):∀{fs:List (Str×V)} {gs:List (Str×jm)},cQ K aj g H h fs gs->cQ K aj g' H h fs gs
 |_,_,.nil=>.nil
 |_,_,.cons z t=>.cons (dZ.less e e2 n z) (cQ.less e e2 n t)
theorem gD.less{g':Gh}(e:g'.tbl=g.tbl)(e2:g'.ow=g.ow)(n:∀a,g'.A a->g.A a)(w:gD K aj g H M):gD K aj g' H M where
 len:=by rw[e];exact w.len
 inj:=by rw[e];exact w.inj
 ins:=λh a i ha hi hc=>by
  rw[e]at ha;obtain⟨C,dx,fs,c1,c2,c3⟩:=w.ins h a i ha hi hc;exact⟨C,dx,fs,c1,c2,c3.less e e2 n⟩
 nd:=w.nd
 fd:=w.fd
 tw:=by rw[e,e2];exact w.tw
 dm:=w.dm
 nc:=w.nc
theorem Qo{i:Nat}{c:Cell}(h:(sU Z)[i]?=some (some c)):∃c',Z[i]?=some (some c')/\c=Rh c':=by
 unfold sU at h;rw[arT]at h;cases hr:Z[i]? with
 |none=>rw[hr]at h;cases h
 |some o=>
  rw[hr]at h;cases o with
  |none=>cases h
  |some c'=>
   cases h;exact⟨c',rfl,rfl⟩
theorem SInv.sU(I:SInv K aj σ H g Z M):SInv K aj σ H g.fr (sU Z) M where
 kd:=⟨λa z=>I.kd.ob a (w6 g a z),λa z=>atd z,λa z=>⟨(I.kd.lc a z).1,λy=>y⟩⟩
 wok:=gD.less (g:=g) (g':=g.fr) rfl rfl (w6 g) I.wok
 len:=by unfold Rf.sU;rw[arU];exact I.len
 dat:=λi d h=>by
  obtain⟨c,h1,h2⟩:=Qo h;cases c with
  |dat d'=>
   cases h2;obtain⟨v,e1,e2⟩:=I.dat i _ h1;exact⟨v,e1,e2.fr⟩
  | «mut» xs=>
   cases h2;obtain⟨l,us,e1,e2,e3,e4⟩:=I.own i _ h1;refine⟨_,e1,.lst (.inl ⟨.inl e2,λz=>?_⟩) e4.fr⟩;rcases z with z|z|z
   ·exact I.kd.lo l e3 z
   ·exact(I.kd.lc l z).2 e3
   ·exact z
 own:=λi xs h=>by
  obtain⟨c,h1,h2⟩:=Qo h;cases c<;>cases h2
 sep:=λi j xs ys l ne h1=>by
  obtain⟨c,h1,h2⟩:=Qo h1;cases c<;>cases h2
end
section
variable{K:arG}{aj:aR}{W:WX}{q:Bool}{g g':Gh}{H H':Hp}{σ:L2.St}{Z:Env}{M:Mo}
theorem Kd.fr(k:Kd g H):Kd g.fr H:=⟨λa z=>k.ob a (w6 g a z),λa z=>atd z,λa z=>⟨(k.lc a z).1,λy=>y⟩⟩
theorem gD.fr(w:gD K aj g H M):gD K aj g.fr H M:=gD.less (g:=g) (g':=g.fr) rfl rfl (w6 g) w
theorem bM{α:Type}{l:List (Option α)}{j i:Nat}{c:α}{o:Option α}(h:(l.set j o)[i]?=some (some c)):(j=i/\o=some c/\j < l.length)∨(j≠i/\l[i]?=some (some c)):=by
 by_cases z:j=i
 ·subst z;have hj:j < l.length:=by
   have:=(arJ.mp h).1;rw[ase]at this;exact this
  rw[arZ hj]at h;exact .inl ⟨rfl,arY h,hj⟩
 ·rw[arP z]at h;exact .inr ⟨z,h⟩
theorem SInv.akT{j:Nat}{l:Addr}{us:List V}{xs:List Dat}(I:SInv K aj σ H g Z M)(n:H l=none)(e:Ex H H')(hl:H' l=some (.lst us))(r:aM K (g.add l) H' us xs):SInv K aj (σ.set j (some (.ref l))) H' (g.add l) (Z.set j (some (.mut xs))) M:=by
 have I1:=I.add n e hl trivial;have nl:∀(i:Nat) (ys:List Dat),Z[i]?=some (some (.mut ys))->σ[i]?≠some (some (.ref l)):=λi ys h z=>by
  obtain⟨l',us',h1,h2,_⟩:=I.own i ys h;rw[z]at h1;cases h1;rw[n]at h2;cases h2
 refine⟨I1.kd,I1.wok,by rw[ase,ase];exact I.len,λi d h=>?_,λi ys h=>?_,λi k ys zs a ne h1 h2 h3 h4=>?_⟩
 ·rcases bM h with⟨_,h,_⟩|⟨ne,h⟩
  ·cases h
  ·rw[arP ne];exact I1.dat i d h
 ·rcases bM h with⟨rfl,h,hj⟩|⟨ne,h⟩
  ·cases h;exact⟨l,us,by rw[arZ (by rw[I.len];exact hj)],hl,.inr rfl,r⟩
  ·rw[arP ne];exact I1.own i ys h
 ·rcases bM h1 with⟨rfl,h1,hj⟩|⟨n1,h1⟩
  ·rcases bM h2 with⟨rfl,h2,_⟩|⟨n2,h2⟩
   ·exact ne rfl
   ·rw[arZ (by rw[I.len];exact hj)]at h3;cases h3;rw[arP n2]at h4;exact nl k zs h2 h4
  ·rcases bM h2 with⟨rfl,h2,hj⟩|⟨n2,h2⟩
   ·rw[arZ (by rw[I.len];exact hj)]at h4;cases h4;rw[arP n1]at h3;exact nl i ys h1 h3
   ·rw[arP n1]at h3;rw[arP n2]at h4;exact I.sep i k ys zs a ne h1 h2 h3 h4
theorem dZ.loc{l:Addr}{us us':List V}{h:Nat}{f:Str}{v:V}(k:Kd g H)(hl:H l=some (.lst us))(lo:g.Lo l):∀{fl:jm},dZ K aj g H h f v fl->dZ K aj g (upd H l (.lst us')) h f v fl:=λ{fl} z=>by
 have r:Gr true g g H (upd H l (.lst us')):=Gr.upd k hl (.inr lo);cases fl with
 |dat d=>exact Rep.gr r k z
 |lst n xs=>
  obtain⟨a,ws,h1,h2,h3,h4,h5⟩:=z;exact⟨a,ws,h1,by rw[upd_ne (λz=>by subst z;exact k.lo _ lo (.inr (by rw[h3];exact λz=>nomatch z)))];exact h2,h3,h4.gr r k,h5⟩
 |dic n kvs=>
  obtain⟨a,h1,h2,h3⟩:=z;have na:a≠l:=λz=>by subst z;exact k.lo _ lo (.inr (by rw[h2];exact λz=>nomatch z))
  refine⟨a,h1,h2,?_⟩;cases n with
  |false=>
   obtain⟨kv,h3,h4,h5⟩:=h3;exact⟨kv,by rw[upd_ne na];exact h3,h4,h5.gr r k⟩
  |true=>
   obtain⟨o,xs,vs,h3,h4,h5,h6,h7,h8⟩:=h3;exact⟨o,xs,vs,by rw[upd_ne na];exact h3,h4,h5,h6.gr r k,h7,h8.gr r k⟩
theorem cQ.loc{l:Addr}{us us':List V}{h:Nat}(k:Kd g H)(hl:H l=some (.lst us))(lo:g.Lo l):∀{fs:List (Str×V)} {gs:List (Str×jm)},cQ K aj g H h fs gs->cQ K aj g (upd H l (.lst us')) h fs gs
 |_,_,.nil=>.nil
 |_,_,.cons z t=>.cons (dZ.loc k hl lo z) (cQ.loc k hl lo t)
theorem gD.loc{l:Addr}{us us':List V}(k:Kd g H)(hl:H l=some (.lst us))(lo:g.Lo l)(w:gD K aj g H M):gD K aj g (upd H l (.lst us')) M where
 len:=w.len
 inj:=w.inj
 ins:=λh a i ha hi hc=>by
  obtain⟨C,dx,fs,c1,c2,c3⟩:=w.ins h a i ha hi hc;exact⟨C,dx,fs,c1,by rw[upd_ne (λz=>by subst z;exact k.lo _ lo (.inl (arN ha)))];exact c2,c3.loc k hl lo⟩
 nd:=w.nd
 fd:=w.fd
 tw:=w.tw
 dm:=w.dm
 nc:=w.nc
theorem SInv.change{j:Nat}{xs ys:List Dat}(I:SInv K aj σ H g Z M)(hj:Z[j]?=some (some (.mut xs))):∃l us,σ[j]?=some (some (.ref l))/\H l=some (.lst us)/\g.Lo l/\aM K g H us xs/\∀us',aM K g H us' ys->SInv K aj σ (upd H l (.lst us')) g (Z.set j (some (.mut ys))) M:=by
 obtain⟨l,us,h1,h2,h3,h4⟩:=I.own j xs hj;refine⟨l,us,h1,h2,h3,h4,λus' r=>?_⟩;have gr:Gr true g g H (upd H l (.lst us')):=Gr.upd I.kd h2 (.inr h3);refine⟨I.kd.upd trivial,I.wok.loc I.kd h2 h3,by rw[ase];exact I.len,λi d h=>?_,λi zs h=>?_,λi k zs ws a ne e1 e2 e3 e4=>?_⟩
 ·rcases bM h with⟨_,h,_⟩|⟨ne,h⟩
  ·cases h
  ·obtain⟨v,e1,e2⟩:=I.dat i d h;exact⟨v,e1,e2.gr gr I.kd⟩
 ·rcases bM h with⟨rfl,h,_⟩|⟨ne,h⟩
  ·cases h;exact⟨l,us',h1,upd_same,h3,r.gr gr I.kd⟩
  ·obtain⟨l',ws,e1,e2,e3,e4⟩:=I.own i zs h;have nl:l'≠l:=λz=>by
    subst z;exact I.sep i j zs xs l' (Ne.symm ne) h hj e1 h1
   exact⟨l',ws,e1,by rw[upd_ne nl];exact e2,e3,e4.gr gr I.kd⟩
 ·have k1:∃xs,Z[i]?=some (some (.mut xs)):=by
   rcases bM e1 with⟨rfl,_,_⟩|⟨_,h⟩
   ·exact⟨xs,hj⟩
   ·exact⟨zs,h⟩
  have k2:∃xs,Z[k]?=some (some (.mut xs)):=by
   rcases bM e2 with⟨rfl,_,_⟩|⟨_,h⟩
   ·exact⟨xs,hj⟩
   ·exact⟨ws,h⟩
  obtain⟨x1,k1⟩:=k1;obtain⟨x2,k2⟩:=k2;exact I.sep i k x1 x2 a ne k1 k2 e3 e4
end
section
variable{X:Cx}{aj:aR}{W:WX}{q:Bool}{a b e:Expr}{pos:Pos}
def aQ(f:QF):SF:=λM Z=>((f M (sU Z)).at M).then Z λd M'=>.ret d M'
def iJ(f:GF):SF:=λM Z=>(f M Z).then Z λd M'=>.ret d M'
theorem alD{f:QF}(he:QE aj X W e f):SE aj X W q (.Return (some e) pos) (aQ f):=by
 refine PS.weak (ps_ret he) λD σ H ⟨g,Z,M,I,z⟩=>?_;refine⟨g.fr,sU Z,M,I.sU,?_⟩;unfold aQ at z;cases hf:f M (sU Z) with
 |ok d=>
  rw[hf]at z;exact λv H' e r=>z v H' g (Gr.ex e) (I.ex e).kd.fr (I.ex e).wok.fr r
 |exc x=>
  rw[hf]at z;exact λH' c dd e r=>z σ H' g c dd (Gr.ex e) (I.ex e) r
 |bad=>rw[hf]at z;exact atd z
theorem aiW{f:GF}(he:GE aj X W q e f):SE aj X W q (.Return (some e) pos) (iJ f):=by refine PS.weak (ps_ret he) λD σ H ⟨g,Z,M,I,z⟩=>?_;exact tE.go I (dI (σ:=σ) z) λd M' v H' g' k r I' rv=>k v H' g' r I'.kd.fr I'.wok.fr rv.fr
def bV(t:QT)(f k:SF):SF:=λM Z=>((t M (sU Z)).at M).then Z λc M'=>if c=true then f M' Z else k M' Z
def an7(t:GT)(f k:SF):SF:=λM Z=>(t M Z).then Z λc M'=>if c=true then f M' Z else k M' Z
theorem amP{c:Expr}{s1 s2:List Stmt}{t:QT}{f k:SF}(hc:tH aj X W c t)(h1:Kc aj X W q s1 f)(h2:Kc aj X W q s2 k):SE aj X W q (.If c s1 s2 pos) (bV t f k):=by
 refine PS.weak (ps_if hc h1 h2) λD σ H ⟨g,Z,M,I,z⟩=>?_;refine⟨g.fr,sU Z,M,I.sU,?_⟩;unfold bV at z;cases hf:t M (sU Z) with
 |ok d=>
  rw[hf]at z;intro H' e;cases d with
  |true=>exact tS.go (I.ex e) (Gr.ex e) z
  |false=>exact tS.go (I.ex e) (Gr.ex e) z
 |exc x=>
  rw[hf]at z;exact λH' c dd e r=>z σ H' g c dd (Gr.ex e) (I.ex e) r
 |bad=>rw[hf]at z;exact atd z
def fY(tg:fH)(body:SF):List Dat->Mo->Env->vq
 |[],M,Z=>.next Z M
 |d::ds,M,Z=>match tg d Z with
  |none=>.bad
  |some Z1=>match body M Z1 with
   |.next Z2 M2=>fY tg body ds M2 Z2
   |.cont Z2 M2=>fY tg body ds M2 Z2
   |.brk Z2 M2=>.next Z2 M2
   |.ret d M2=>.ret d M2
   |.exc x Z2 M2=>.exc x Z2 M2
   |.bad=>.bad
def rA(it:IF)(tg:fH)(body:SF):SF:=λM Z=>((it M Z).at M).then Z λds M'=>fY tg body ds M' Z
theorem alb{tg iter:Expr}{body:List Stmt}{it:IF}{js:List Nat}{tf:fH}{f:SF}(hp:PassesOwn (model X.prog X.w) X.A X.env X.xe)(hc:X.calm=true)(hi:QI aj X W true tg iter it)(hg:QG aj X tg js tf)(hb:Kc aj X W q body f)(hs:∀x,foldedSetIterable iter X.env x=pure x) :
  SE aj X W q (.For tg iter body [] pos) (rA it tf f):=by
 refine PS.weak (ps_for hp hc hi hg hb hs) λD σ H ⟨g,Z,M,I,z⟩=>?_;refine⟨g,Z,M,I,?_⟩;unfold rA at z;cases hf:it M Z with
 |exc x=>
  rw[hf]at z;exact λH' c dd e r=>z σ H' g c dd (Gr.ex e) (I.ex e) r.fr
 |bad=>rw[hf]at z;exact atd z
 |ok ds=>
  rw[hf]at z;intro J C H1 e1 w c1 firm;have firm:=firm rfl;have z:(fY tf f ds M Z).sat (sN X.K aj q D.nx g H) (sR X.K aj q D.rt g H) (sN X.K aj q D.bk g H) (sN X.K aj q D.ct g H) (sX X.K aj W q g H):=z
  let Pv:Nat->L2.St->Hp->Prop:=λi σi Hi=>i<=ds.length/\∃gi ρi Mi,Gr q g gi H Hi/\SInv X.K aj σi Hi gi ρi Mi/\C gi Hi/\(fY tf f (ds.drop i) Mi ρi).sat (sN X.K aj q D.nx g H) (sR X.K aj q D.rt g H) (sN X.K aj q D.bk g H) (sN X.K aj q D.ct g H) (sX X.K aj W q g H)
  refine⟨λi m σi Hi=>m=ds.length - i/\Pv i σi Hi,⟨ds.length,rfl,asz _,g,Z,M,Gr.ex e1,I.ex e1,c1,by rw[as4];exact z⟩,?_⟩;rintro i m σi Hi ⟨rfl,hi,gi,ρi,Mi,ri,Ii,Ci,zi⟩;by_cases hlt:i < ds.length
  ·refine .inr ⟨w.go _ i Hi Ci hlt,Pv (i+1),λσ' H' p=>⟨ds.length - (i+1),by omega,rfl,p⟩,λx H' y=>?_⟩;have hd:ds[i]?=some ds[i]:=arI hlt;obtain⟨e2,rx⟩:=w.yld _ i Hi x H' _ Ii.kd Ci hd y;rw[asH hlt,fY]at zi;split at zi
   ·exact atd zi
   ·next Z1 he=>
    have I2:=Ii.ex e2;refine⟨gi,ρi,Mi,_,Z1,I2,rx,he,λvs I3=>⟨gi,Z1,Mi,I3,?_⟩⟩;have r2:=ri.trans (Gr.ex e2);cases hb':f Mi Z1 with
    |next Z2 M2=>
     rw[hb']at zi;exact λσ' H2 g2 r I'=>⟨hlt,g2,Z2,M2,r2.trans r,I',firm q gi g2 H' H2 I2.kd (w.ex _ _ _ Ii.kd Ci e2) r,zi⟩
    |cont Z2 M2=>
     rw[hb']at zi;exact λσ' H2 g2 r I'=>⟨hlt,g2,Z2,M2,r2.trans r,I',firm q gi g2 H' H2 I2.kd (w.ex _ _ _ Ii.kd Ci e2) r,zi⟩
    |brk Z2 M2=>
     rw[hb']at zi;exact sN.gr r2 zi
    |ret d M2=>
     rw[hb']at zi;exact sR.gr r2 zi
    |exc x Z2 M2=>
     rw[hb']at zi;exact sX.gr r2 zi
    |bad=>rw[hb']at zi;exact atd zi
  ·have e:i=ds.length:=by omega
   refine .inl ⟨w.stop _ i Hi Ci e,?_⟩;rw[e,asN]at zi;exact zi σi Hi gi ri Ii
def Q7(j:Nat)(f:QF):SF:=λM Z=>match Z[j]? with
 |some (some (.dat (.int i)))=>((f M Z).at M).then Z λd M'=>match d with
  |.int k=>.next (Z.set j (some (.dat (.int (i+k))))) M'
  |_=>.bad
 |_=>.bad
theorem akz{j:Nat}{x:Str}{f:QF}{pos':Pos}(hN:X.N.Nodup)(hi:X.N[j]?=some x)(hx:Loc X.env.scope x)(hf:X.fn x=true∨X.env.scope.names.lookup x=some .local)(he:QE aj X W e f):SE aj X W q (.AugAssign (.Name x pos') .Add e pos) (Q7 j f):=by
 refine PS.weak (ps_aug hN hi hx he ip_add hf) λD σ H ⟨g,Z,M,I,z⟩=>?_;unfold Q7 at z;split at z
 ·next i hj=>
  obtain⟨v,h1,h2⟩:=I.dat j _ hj;cases h2;refine⟨.int i,h1,⟨g,Z,M,I,?_⟩⟩;cases hf':f M Z with
  |exc x=>rw[hf']at z;exact λH' c dd e r=>z σ H' g c dd (Gr.ex e) (I.ex e) r.fr
  |bad=>rw[hf']at z;exact atd z
  |ok d=>
   rw[hf']at z;intro u H' e r;cases d with
   |int k=>
    cases r;exact⟨i,k,rfl,rfl,z _ H' g (Gr.ex e) ((I.ex e).set (.int _))⟩
   |_=>exact atd z
 ·exact atd z
def FE(aj:aR)(X:Cx)(W:WX)(e:Expr)(f:IF):Prop:=PE X e (tFr X.K aj W f)
def Gp(j:Nat)(f:IF):SF:=λM Z=>((f M Z).at M).then Z λxs M'=>.next (Z.set j (some (.mut xs))) M'
theorem aea{j:Nat}{f:IF}(D:Ends)(σ:L2.St)(H:Hp)(h:tS X.K aj W q (Gp j f) D σ H):tAsg (tFr X.K aj W f) (gName j) D σ H:=by
 obtain⟨g,Z,M,I,z⟩:=h;refine⟨g,Z,M,I,?_⟩;unfold Gp at z;cases hf:f M Z with
 |exc x=>rw[hf]at z;exact λH' c dd e r=>z σ H' g c dd (Gr.ex e) (I.ex e) r.fr
 |bad=>rw[hf]at z;exact atd z
 |ok xs=>
  rw[hf]at z;intro l us H' n e hl r;have gr:Gr true g (g.add l) H H':=Gh.Di n e;refine z _ H' (g.add l) ?_ (I.akT n e hl r);cases q with
  |true=>exact gr
  |false=>exact gr.loud
theorem ae7{j:Nat}{x:Str}{f:IF}{pos':Pos}(hN:X.N.Nodup)(hi:X.N[j]?=some x)(hx:Loc X.env.scope x)(hf:X.fn x=true∨X.env.scope.names.lookup x=some .local)(he:FE aj X W e f)(hs:swapsWith e (some (.Name x pos')) pos.line X.env=pure false):SE aj X W q (.Assign [.Name x pos'] e pos) (Gp j f):=
 PS.weak (ps_set hN hi hx he hs hf) λD σ H h=>aea D σ H h
def S9(f:QA):IF:=λM Z=>(f M Z).bind λxs=>Out.when (decide (xs.length<=100000)) (.ok xs)
theorem QX{K:arG}{g:Gh}{H:Hp}{l:Addr}{vs:List V}{ds:List Dat}(k:Kd g H)(n:H l=none)(r:aM K g H vs ds){o:HO}:aM K (g.add l) (upd H l o) vs ds:=r.gr (Gh.Di n (Ex.new n)) k
theorem akl{es:List Expr}{fr:QA}(h:GJ aj X W es fr):FE aj X W (.List es pos) (S9 fr):=
 PE.weak (pe_lst h) λσ H Q ⟨g,Z,M,I,h⟩=>by
  refine OJ.go I h.bnd λds vs H1 h1 e1 r1=>?_;obtain⟨hz,h1⟩:=h1.o9;have hl:vs.length<=100000:=by rw[r1.length];exact atf hz
  exact⟨sz_of hl,λp np=>h1 p vs _ (yM e1 p np) (e1.trans (Ex.new np)) upd_same (QX (I.kd.ex e1) np r1)⟩
def Od:Dat->Out (List Dat)
 |.list ds=>.ok ds
 |.tuple ds=>.ok ds
 |_=>.bad
def Jc(f:QF):IF:=λM Z=>(f M Z).bind Od
theorem ahK{f:QF}{p:Pos}(hg:Gl X "list")(hm:X.mg "list"=none)(hv:BV (.type "list") "list")(ha:QW aj X W a f)(hs:nst a=true):FE aj X W (.Call (.Name "list" p) [a] [] pos) (Jc f):=by
 have h1:=pa_cons ha pa_nil (cH hs []);refine PE.weak (pe_callTy (pos:=pos) (p:=p) call_list_of hg hm hv.1 h1 hv.2.1 hv.2.2 (cH hs []) (by with_unfolding_all rfl)) λσ H Q ⟨g,Z,M,I,h⟩=>?_;refine tW.go I h.bnd λd v H1 h1 e1 r1=>?_;unfold Od at h1;split at h1
 ·obtain⟨p,us,rfl,s1,t1⟩:=gK r1;exact⟨p,us,rfl,.inl s1,λl nl=>h1 l us _ (yM e1 l nl) (e1.trans (Ex.new nl)) upd_same (QX (I.kd.ex e1) nl t1)⟩
 ·obtain⟨p,us,rfl,s1,t1⟩:=kW r1;exact⟨p,us,rfl,.inr s1,λl nl=>h1 l us _ (yM e1 l nl) (e1.trans (Ex.new nl)) upd_same (QX (I.kd.ex e1) nl t1)⟩
 ·exact atd h1
def baseOk:Expr->Bool
 |.Call (.Name _ _) _ _ _=>false
 |_=>true
theorem ni{o:Expr}{m:Str}{env:PySem.Env}{w:Sem Value}(h:baseOk o=true):attributeBase o m env w=w:=by
 cases o with
 | Call f as ks p=>cases f<;>first | rfl | cases h
 |_=>rfl
theorem aaB{env:PySem.Env}{pos:Pos}:∀(es:List Expr),es.all nst=true->(backTo pos (starEach es env)).all (λx=>!x.1)=true
 |[],_=>by with_unfolding_all rfl
 |a::es,h=>by
  rw[asx,arH]at h;rw[cH h.1];have ih:=aaB (env:=env) (pos:=pos) es h.2;unfold backTo at ih ⊢;rw[arK,asx,ih];rfl
theorem few{env:PySem.Env}{pos:Pos}{es:List Expr}(h:es.all nst=true)(hl:es.length < 30):((backTo pos (starEach es env)).all (λx=>!x.1)&&(backToKw pos (keywordEach [] env)).all (λx=>x.1.isSome)&&decide (es.length+([]:List Keyword).length+(if ([]:List Keyword).isEmpty then 0 else 1) < 30))=true:=by
 rw[aaB es h];have:(backToKw pos (keywordEach [] env)).all (λx=>x.1.isSome)=true:=by with_unfolding_all rfl
 rw[this];simpa using hl
def Qm(j:Nat)(f:QF):SF:=λM Z=>match Z[j]? with
 |some (some (.mut xs))=>((f M Z).at M).then Z λd M'=>if xs.length < 100000 then .next (Z.set j (some (.mut (xs++[d])))) M' else .bad
 |_=>.bad
theorem ak4{j:Nat}{x:Str}{f:QF}{p apos:Pos}{epos:Pos}(hN:X.N[j]?=some x)(hv:Vis X.env.scope x)(hd:(x==("__debug__" : Str))=false)(hcd:(x==("__classdict__" : Str))=false)(he:QE aj X W e f)(hs:nst e=true)
  (hl:(apos.endLine==pos.line)=true):SE aj X W q (.Expr (.Call (.Attribute (.Name x p) "append" apos) [e] [] pos) epos) (Qm j f):=by
 have h0:=pe_var (X:=X) (pos:=p) hN hv hd hcd;have h1:=pa_cons he pa_nil (cH hs []);have key:=pe_bm (X:=X) (cpos:=pos) (apos:=apos) PySem.F.plainAttrs_list PySem.F.slot_list_append PySem.F.type_list_append mt_append h0 h1 (ni rfl) (few (by simp[hs]) (by simp)) hl (cH hs []) (by with_unfolding_all rfl);refine PS.weak (ps_expr key (by with_unfolding_all rfl)) λD σ H ⟨g,Z,M,I,z⟩=>?_;unfold Qm at z;split at z
 ·next xs hj=>
  obtain⟨l,us,e1,e2,e3,e4⟩:=I.own j xs hj;refine⟨.ref l,e1,.inl ⟨rfl,us,sq_of e2⟩,⟨g,Z,M,I,?_⟩⟩;cases hf:f M Z with
  |exc x=>rw[hf]at z;exact λH' c dd e r=>z σ H' g c dd (Gr.ex e) (I.ex e) r.fr
  |bad=>rw[hf]at z;exact atd z
  |ok d=>
   rw[hf]at z;intro v H' e r;have z:(if xs.length < 100000 then vq.next (Z.set j (some (.mut (xs++[d])))) M else .bad).sat (sN X.K aj q D.nx g H) (sR X.K aj q D.rt g H) (sN X.K aj q D.bk g H) (sN X.K aj q D.ct g H) (sX X.K aj W q g H):=z;split at z
   ·next hlen=>
    have I1:=I.ex e;obtain⟨l',us',f1,f2,f3,f4,f5⟩:=I1.change (ys:=xs++[d]) hj;rw[e1]at f1;cases f1;rw[e _ _ e2]at f2;cases f2;refine⟨l,us,v,rfl,rfl,e _ _ e2,sz_lt (by rw[e4.length];exact hlen),?_⟩;exact z _ _ g ((Gr.ex e).trans (Gr.upd I1.kd (e _ _ e2) (.inr f3))) (f5 _ (f4.append (.cons r .nil)))
   ·exact atd z
 ·exact atd z
def TF(j:Nat)(fi f:QF):SF:=λM Z=>match Z[j]? with
 |some (some (.mut xs))=>((f M Z).at M).then Z λd M'=>((fi M' Z).at M').then Z λi M2=>match i with
  |.int k=>match ixN xs.length k with
   |some n=>.next (Z.set j (some (.mut (xs.set n d)))) M2
   |none=>.bad
  |_=>.bad
 |_=>.bad
theorem aiD{j:Nat}{x:Str}{i:Expr}{f fi:QF}{p spos:Pos}(hN:X.N[j]?=some x)(hv:Vis X.env.scope x)(hd:(x==("__debug__" : Str))=false)(hcd:(x==("__classdict__" : Str))=false)(he:QE aj X W e f)(hi:QE aj X W i fi)
  (ha:∀v,assign (.Subscript (.Name x p) i spos) X.env v=(do
   let ov ←holding [v] (eval (.Name x p) X.env)
   let iv ←holding [v,ov] (eval i X.env)
   standAt spos
   holding [v,ov,iv] (setItem ov iv v)
   release [v,ov,iv] []))
  (hs:swapsWithSole [.Subscript (.Name x p) i spos] e pos.line X.env=pure false) (h1:(assignEach [.Subscript (.Name x p) i spos] X.env).map (·.2)=[assign (.Subscript (.Name x p) i spos) X.env]):SE aj X W q (.Assign [.Subscript (.Name x p) i spos] e pos) (TF j fi f):=by
 have h0:=pe_var (X:=X) (pos:=p) hN hv hd hcd;refine PS.weak (ps_asg he (pg_sub h0 hi set_list ha) hs (by with_unfolding_all rfl) h1) λD σ H ⟨g,Z,M,I,z⟩=>?_;unfold TF at z;split at z
 ·next xs hj=>
  refine⟨g,Z,M,I,?_⟩;cases hf:f M Z with
  |exc x=>rw[hf]at z;exact λH' c dd e r=>z σ H' g c dd (Gr.ex e) (I.ex e) r.fr
  |bad=>rw[hf]at z;exact atd z
  |ok d=>
   rw[hf]at z;intro v H1 e1 r1;have I1:=I.ex e1;obtain⟨l,us,f1,f2,f3,f4⟩:=I1.own j xs hj;refine⟨.ref l,f1,⟨g,Z,M,I1,?_⟩⟩;cases hfi:fi M Z with
   |exc x=>
    simp only[Out.acs,bf.V2,hfi,Out.aj2,bf.afu]at z;exact λH' c dd e r=>z σ H' g c dd ((Gr.ex e1).trans (Gr.ex e)) (I1.ex e) r.fr
   |bad=>
    simp only[Out.acs,bf.V2,hfi,Out.ajD,bf.agv]at z;exact atd z
   |ok k=>
    simp only[Out.acs,bf.V2,hfi]at z;intro w H2 e2 r2;cases k with
    |int k=>
     simp only at z;split at z
     ·next n hn=>
      have I2:=I1.ex e2;obtain⟨l',us',k1,k2,k3,k4,k5⟩:=I2.change (ys:=xs.set n d) hj;rw[f1]at k1;cases k1;rw[e2 _ _ f2]at k2;cases k2;cases r2;refine⟨l,us,k,n,rfl,rfl,e2 _ _ f2,by rw[f4.length];exact hn,?_⟩;exact z _ _ g (((Gr.ex e1).trans (Gr.ex e2)).trans (Gr.upd I2.kd (e2 _ _ f2) (.inr k3))) (k5 _ (k4.set (r1.ex e2 I1.kd) n))
     ·exact atd z
    |_=>exact atd z
 ·exact atd z
end
structure Gc(g g':Gh)(H H':Hp):Prop where
 keep:∀a o,H a=some o->¬g.W a->H' a=some o
 dom:∀a,H' a=none->H a=none
 tbl:∃more,g'.tbl=g.tbl++more
 W:∀a,g.W a->g'.W a
 nW:∀a,g'.W a->g.W a∨H a=none
 Lc:g'.Lc=g.Lc
 Lo:g'.Lo=g.Lo
def Wj(K:arG)(aj:aR)(n:Nat)(m:Mo->List Dat->Out Dat):Sp:=λvs H Q E=>vs.length=n/\∃g M ds,Kd g H/\gD K aj g H M/\aM K g H vs ds/\
 (m M ds).sat (λd=>∀v H',Ex H H'->Rep K g H' v d->Q v H') λx=>∀H' c dd,Ex H H'->rB K aj g H' x c dd->E c dd H'
def Ko(K:arG)(aj:aR)(n:Nat)(m:Mo->List Dat->bf Dat):Sp:=λvs H Q E=>vs.length=n/\∃g M ds,Kd g H/\gD K aj g H M/\aM K g H vs ds/\
 (m M ds).sat (λd M'=>∀v H' g',Gc g g' H H'->Kd g' H'->gD K aj g' H' M'->Rep K g' H' v d->Q v H') λx M'=>∀H' g' c dd,Gc g g' H H'->Kd g' H'->gD K aj g' H' M'->rB K aj g' H' x c dd->E c dd H'
section
variable{K:arG}{aj:aR}{W:WX}{g g':Gh}{H H':Hp}{σ:L2.St}{Z:Env}{M M':Mo}
theorem Gc.gr(r:Gc g g' H H'):Gr false g g' H H':=⟨λa o h n _=>r.keep a o h n,(λz=>nomatch z),r.dom,r.tbl,r.W,r.nW,(λz=>nomatch z),r.Lc,λa h=>by rw[r.Lo];exact h,λa h=>by rw[r.Lo]at h;exact .inl h⟩
theorem SInv.call(r:Gc g g' H H')(k':Kd g' H')(w':gD K aj g' H' M')(I:SInv K aj σ H g Z M):SInv K aj σ H' g' Z M' where
 kd:=k'
 wok:=w'
 len:=I.len
 dat:=λi d h=>by
  obtain⟨v,h1,h2⟩:=I.dat i d h;exact⟨v,h1,h2.gr r.gr I.kd⟩
 own:=λi xs h=>by
  obtain⟨l,us,h1,h2,h3,h4⟩:=I.own i xs h;exact⟨l,us,h1,r.keep _ _ h2 (I.kd.lo l h3),by rw[r.Lo];exact h3,h4.gr r.gr I.kd⟩
 sep:=I.sep
def Gh.in(g:Gh):Gh:={ g with Lc:=λa=>g.Lc a∨g.Lo a,Lo:=λ_=>False }
theorem ZS(g:Gh)(a:Addr):g.in.A a↔g.A a:=by
 constructor
 ·rintro(z|(z|z)|z)
  ·exact .inl z
  ·exact .inr (.inl z)
  ·exact .inr (.inr z)
  ·exact atd z
 ·rintro(z|z|z)
  ·exact .inl z
  ·exact .inr (.inl (.inl z))
  ·exact .inr (.inl (.inr z))
theorem Kd.in(k:Kd g H):Kd g.in H:=⟨λa z=>k.ob a ((ZS g a).mp z),λa z=>atd z,λa z=>⟨z.elim (λz=>(k.lc a z).1) (λz=>k.lo a z),λy=>y⟩⟩
def ini(n:Nat)(ds:List Dat):Env:=ds.map (λd=>some (.dat d))++List.replicate (n - ds.length) none
theorem abr{N:List Str}{vs:List V}{ds:List Dat}(k:Kd g H)(w:gD K aj g H M)(r:aM K g H vs ds):SInv K aj (start N vs) H g (ini N.length ds) M where
 kd:=k
 wok:=w
 len:=by unfold L2.start ini;rw[asJ,asJ,arU,arU,List.length_replicate,List.length_replicate,r.length]
 dat:=λi d h=>by
  unfold ini at h;unfold L2.start;by_cases hi:i < ds.length
  ·rw[arS (by rw[arU];exact hi),arT]at h;cases hd:ds[i]? with
   |none=>rw[hd]at h;cases h
   |some d'=>
    rw[hd]at h;cases h;obtain⟨v,h1,h2⟩:=r.get hd;refine⟨v,?_,h2⟩;rw[arS (by rw[arU,r.length];exact hi),arT,h1];rfl
  ·rw[ar0 (by rw[arU];omega)]at h;rw[List.getElem?_replicate]at h;split at h<;>cases h
 own:=λi xs h=>by
  unfold ini at h;by_cases hi:i < ds.length
  ·rw[arS (by rw[arU];exact hi),arT]at h;cases hd:ds[i]? with
   |none=>rw[hd]at h;cases h
   |some d'=>rw[hd]at h;cases h
  ·rw[ar0 (by rw[arU];omega)]at h;rw[List.getElem?_replicate]at h;split at h<;>cases h
 sep:=λi j xs ys l ne h=>by
  unfold ini at h;by_cases hi:i < ds.length
  ·rw[arS (by rw[arU];exact hi),arT]at h;cases hd:ds[i]? with
   |none=>rw[hd]at h;cases h
   |some d'=>rw[hd]at h;cases h
  ·rw[ar0 (by rw[arU];omega)]at h;rw[List.getElem?_replicate]at h;split at h<;>cases h
end
def mQ(n:Nat)(body:SF):Mo->List Dat->Out Dat:=λM ds=>match body M (ini n ds) with
 |.ret d _=>.ok d
 |.next _ _=>.ok .none
 |.exc x _ _=>.exc x
 |_=>.bad
def mG(n:Nat)(body:SF):Mo->List Dat->bf Dat:=λM ds=>match body M (ini n ds) with
 |.ret d M'=>.ok d M'
 |.next _ M'=>.ok .none M'
 |.exc x _ M'=>.exc x M'
 |_=>.bad
section
variable{P:Program}{w:World}{K:arG}{mg:Str->Option Value}{base:Heap}{aj:aR}
def agB(E:XK):WX:=λc d _ H=>E c d H
theorem Rep.same{g g':Gh}{H:Hp}{v:V}{d:Dat}(e:g'.tbl=g.tbl)(n:∀a,g'.A a↔g.A a)(h:Rep K g H v d):Rep K g' H v d:=h.less e λa z=>(n a).mp z
theorem ac3{g g':Gh}{H H':Hp}(r:Gr true g.in g' H H'):Ex H H':=λa o h=>by
 by_cases w:g.W a
 ·exact r.keepW rfl a o h w
 ·exact r.keep a o h w λz=>z
theorem ald{q:Bool}{g g':Gh}{H H':Hp}(r:Gr q g.in g' H H')(a:Addr):g'.fr.A a↔(g'.W a∨g.Lc a∨g.Lo a):=by
 have hl:g'.Lc=g.in.Lc:=r.Lc;constructor
 ·rintro(z|z|z)
  ·exact .inl z
  ·have z:g'.Lc a:=z;rw[hl]at z;exact .inr z
  ·exact atd z
 ·rintro(z|z)
  ·exact .inl z
  ·refine .inr (.inl ?_);show g'.Lc a;rw[hl];exact z
theorem anq{x qual:Str}{st:Stmt}{f:Addr}{fd:FuncData}{N ps:List Str}{k:Nat}{body:SF}(F:Fun K x qual st f fd)(S:FnScope N ps (defScope st))
  (hb:∀(cdv:Value) (A:Around) (outer:List PySem.Env) (s:Shared) (H:Hp) (E:XK),Room k (A.deeper (envOfC qual (defScope st) s.heap.objs.size f cdv))->Kc aj (cxOf (L2.CX P w) P w K mg base N qual (defScope st) f cdv A outer s H E) (agB E) true (defBody st) body) :
  FnOk P w K mg base (L2.CX P w) (k+1) f fd ps (Wj K aj ps.length (mQ N.length body)):=by
 refine F.okX S (λvs H Q E h=>h.1) (λcdv A outer s H vs Q E hr h=>⟨_,hb cdv A outer s H E hr,?_⟩);obtain⟨hl,g,M,ds,kd,wk,rs,h⟩:=h;have wk':gD K aj g.in H M:=gD.less (g:=g) (g':=g.in) rfl rfl (λa z=>(ZS g a).mp z) wk;refine⟨g.in,ini N.length ds,M,abr kd.in wk' (aM.less (g:=g) (g':=g.in) rfl (λa z=>(ZS g a).mp z) rs),?_⟩;have back:∀{g':Gh} {H':Hp},Gr true g.in g' H H'->∀a,g.A a↔g'.fr.A a:=λ{g' H'} r a=>by
  rw[ald r a];have e:=(r.qg rfl);have ew:g'.W a↔g.W a:=by unfold Gh.W;rw[e.1,e.2];rfl
  unfold Gh.A;rw[ew]
 unfold mQ at h;cases hf:body M (ini N.length ds) with
 |next Z' M'=>
  rw[hf]at h;exact λσ' H' g' r I'=>h _ H' (ac3 r) .non
 |ret d M'=>
  rw[hf]at h;exact λv H' g' r k' w' rv=>h v H' (ac3 r) (Rep.same (g:=g'.fr) (g':=g) (r.qg rfl).1.symm (back r) rv)
 |exc x Z' M'=>
  rw[hf]at h;exact λσ' H' g' c dd r I' rx=>h H' c dd (ac3 r) (rB.less (g:=g'.fr) (g':=g) (r.qg rfl).1.symm (λa z=>(back r a).mp z) rx)
 |brk Z' M'=>rw[hf]at h;exact atd h
 |cont Z' M'=>rw[hf]at h;exact atd h
 |bad=>rw[hf]at h;exact atd h
theorem anE{x qual:Str}{st:Stmt}{f:Addr}{fd:FuncData}{N ps:List Str}{k:Nat}{body:SF}(F:Fun K x qual st f fd)(S:FnScope N ps (defScope st))
  (hb:∀(cdv:Value) (A:Around) (outer:List PySem.Env) (s:Shared) (H:Hp) (E:XK),Room k (A.deeper (envOfC qual (defScope st) s.heap.objs.size f cdv))->Kc aj (cxOf (L2.CX P w) P w K mg base N qual (defScope st) f cdv A outer s H E) (agB E) false (defBody st) body) :
  FnOk P w K mg base (L2.CX P w) (k+1) f fd ps (Ko K aj ps.length (mG N.length body)):=by
 refine F.okX S (λvs H Q E h=>h.1) (λcdv A outer s H vs Q E hr h=>⟨_,hb cdv A outer s H E hr,?_⟩);obtain⟨hl,g,M,ds,kd,wk,rs,h⟩:=h;have wk':gD K aj g.in H M:=gD.less (g:=g) (g':=g.in) rfl rfl (λa z=>(ZS g a).mp z) wk;refine⟨g.in,ini N.length ds,M,abr kd.in wk' (aM.less (g:=g) (g':=g.in) rfl (λa z=>(ZS g a).mp z) rs),?_⟩
 let gb:Gh->Gh:=λg'=>{ tbl:=g'.tbl,ow:=g'.ow,Lc:=g.Lc,Lo:=g.Lo }
 have gc:∀{g':Gh} {H':Hp},Gr false g.in g' H H'->Gc g (gb g') H H':=λ{g' H'} r=>⟨λa o h n=>r.keep a o h n λz=>z,r.dom,r.tbl,r.W,r.nW,rfl,rfl⟩;have eA:∀{g':Gh} {H':Hp},Gr false g.in g' H H'->∀a,(gb g').A a↔g'.fr.A a:=λ{g' H'} r a=>by
  rw[ald r a];exact Iff.rfl
 have kk:∀{g':Gh} {H':Hp},Gr false g.in g' H H'->Kd g'.fr H'->Kd (gb g') H':=λ{g' H'} r k'=>by
  have nw:∀a,(g.Lc a∨g.Lo a)->¬g'.W a:=λa z y=>by
   have:g'.fr.Lc a:=by show g'.Lc a;rw[show g'.Lc=g.in.Lc from r.Lc];exact z
   exact(k'.lc a this).1 y
  exact⟨λa z=>k'.ob a ((eA r a).mp z),λa z=>nw a (.inr z),λa z=>⟨nw a (.inl z),(kd.lc a z).2⟩⟩
 unfold mG at h;cases hf:body M (ini N.length ds) with
 |next Z' M'=>
  rw[hf]at h;exact λσ' H' g' r I'=>h _ H' (gb g') (gc r) (kk r I'.kd.fr) (gD.less (g:=g'.fr) (g':=gb g') rfl rfl (λa z=>(eA r a).mp z) I'.wok.fr) .non
 |ret d M'=>
  rw[hf]at h;exact λv H' g' r k' w' rv=>h v H' (gb g') (gc r) (kk r k') (gD.less (g:=g'.fr) (g':=gb g') rfl rfl (λa z=>(eA r a).mp z) w') (Rep.same (g:=g'.fr) (g':=gb g') rfl (eA r) rv)
 |exc x Z' M'=>
  rw[hf]at h;exact λσ' H' g' c dd r I' rx=>h H' (gb g') c dd (gc r) (kk r I'.kd.fr) (gD.less (g:=g'.fr) (g':=gb g') rfl rfl (λa z=>(eA r a).mp z) I'.wok.fr) (rB.less (g:=g'.fr) (g':=gb g') rfl (λa z=>(eA r a).mp z) rx)
 |brk Z' M'=>rw[hf]at h;exact atd h
 |cont Z' M'=>rw[hf]at h;exact atd h
 |bad=>rw[hf]at h;exact atd h
end
def aU(m:Mo->List Dat->Out Dat)(as:QA):QF:=λM Z=>(as M Z).bind λds=>m M ds
section
variable{X:Cx}{aj:aR}{W:WX}{q:Bool}{a b e:Expr}{es:List Expr}{pos p:Pos}{x:Str}{k:Nat}{f:Addr}{fd:FuncData}{ps:List Str}
theorem ahN{m:Mo->List Dat->Out Dat}{as:QA}(tk:Takes X W)(F:FnOk X.prog X.w X.K X.mg X.base (L2.CX X.prog X.w) k f fd ps (Wj X.K aj ps.length m))(hr:Room k X.A)(hg:Gl X x)(hm:X.mg x=some (.ref f))(hk:PySem.W.keepIn X.K (.ref f)=true)(hb:Binds X.K fd ps [])
  (ha:GJ aj X W (e::es) as) (hl:(e::es).length=ps.length) (hd:(x==("__debug__" : Str))=false) (hs:(e::es).all nst=true) (hn:∀M Z ds,as M Z=.ok ds->ds.length=(e::es).length):QE aj X W (.Call (.Name x p) (e::es) [] pos) (aU m as):=by
 have hs':=hs;rw[asx,arH]at hs';refine PE.weak (pe_callS (E:=λσ=>WE W σ) F hr hg hm hk hb (λσ=>passAt tk σ) ha hd (cH hs'.1 es) (star_any es hs'.2)) λσ H Q ⟨g,Z,M,I,h⟩=>?_;refine⟨g,Z,M,I,?_⟩;have h:=h.bnd;cases has:as M Z with
 |exc x=>rw[has]at h;exact h
 |bad=>rw[has]at h;exact h
 |ok ds=>
  rw[has]at h;have h:(m M ds).sat (λd=>∀v H',Ex H H'->Rep X.K g H' v d->Q v H') (qJ X.K aj W g H σ):=h;intro vs H1 e1 r1;refine⟨by rw[r1.length,hn M Z ds has];exact hl,g,M,ds,I.kd.ex e1,I.wok.ex e1 I.kd,r1,h.mono (λd k v H' e' r'=>k v H' (e1.trans e') r') λx k H' c dd e' r'=>k H' c dd (e1.trans e') r'⟩
end
theorem afN{n:Nat}(h:n<=16001):n<=sizeLine:=ar8 h (by decide)
theorem amM{prog:Program}{w:World}{A:Around}{E:Value->Shared->Prop}{s:Shared}{l:Addr}{v0:Value}{vs:List Value}{Q:List Value->Shared->Prop}(hh:A.handled=none)(hl:s.heap.IsList l (v0::vs).toArray∨IsTup s.heap l (v0::vs).toArray)(hz:vs.length<=16000)
  (h:∀(h₂:Heap) (tk:Nat),(∀b o,s.heap.get? b=some o->h₂.get? b=some o)->Q [v0,.ref h₂.objs.size] { s with heap:=h₂.push { cls:=.type "list",data:=.seq vs.toArray },toks:=tk }):wpAny (model prog w) A (unpackItems (.ref l) 2 (some 1)) Q E s:=by
 have hll:l < s.heap.objs.size:=by rcases hl with⟨o,ho,_⟩|⟨o,ho,_⟩<;>exact Heap.lt_size ho
 have hlt:l≠s.heap.objs.size:=asu hll;have hsz:(v0::vs).toArray.size=vs.length+1:=by simp
 have hb:(v0::vs).toArray.size<=sizeLine:=afN (by rw[hsz];omega);have hd:(v0::vs).toArray.toList.drop 1=vs:=by simp
 have ht:((v0::vs).toArray.toList.drop 0).take 1=[v0]:=by simp
 have fin:∀(h₂:Heap) (tk:Nat),(∀b o,b≠s.heap.objs.size->s.heap.get? b=some o->h₂.get? b=some o)->wpAny (model prog w) A (newList vs >>= λd=>pure ([v0]++[d]++[])) Q E { s with heap:=h₂,toks:=tk }:=λh₂ tk k=>by
  refine wpAny_bind (wpAny_newObj_type (wpAny_pure ?_) (afN (by simp;omega)));exact h h₂ tk λb o e=>k b o (asu (Heap.lt_size e)) e
 unfold unpackItems;refine wpAny_bind ?_;unfold notIterableAtAll;rcases hl with hl|hl
 ·refine wpAny_bind (wpAny_specialOf hl.typeIs slot_list_iter.lookup (wpAny_pure ?_));simp only[ar6,if_false];refine wpAny_bind (wpAny_holding (wpAny_pyIter_list hl ?_));refine wpAny_bind (wpAny_holding (PySem.W.kun_draw hlt 1 0 _ _ ⟨_,Heap.get?_push_size _ rfl,rfl,rfl⟩ (hl.push _) (by rw[hsz];omega) λh₁ i1 b1=>?_));have hl₁:=(hl.push _).extBut b1.extBut hlt;obtain⟨oi,hoi,_⟩:=id i1;obtain⟨ol,hol,_⟩:=id hl₁;rw[ht];refine wpAny_bind (wpAny_holding (PySem.W.kun_collect (s:={ s with heap:=h₁ }) (T:="list_iterator") (.inr (.inr (.inl rfl))) (Walks.list (A:=A.in1) hh s.heap.objs.size l hlt (v0::vs).toArray) (λj u st=>st.1.typeIs) (k:=1) (by rw[hsz];omega) ⟨i1,hl₁⟩ (Heap.lt_size hoi) (Heap.lt_size hol) (λh₂ tk hk=>?_) hb))
  rw[hd];show wpAny _ _ (if vs.length < 0 then _ else newList (vs.take (vs.length - 0)) >>= λd=>pure ([v0]++[d]++vs.drop (vs.length - 0))) _ _ _;rw[if_neg (Nat.not_lt_zero _),Nat.sub_zero,List.take_length,asN];exact fin h₂ tk λb o ne e=>hk b o ne (b1.extBut b o ne (Heap.get?_push_of_some _ e))
 ·refine wpAny_bind (wpAny_specialOf hl.typeIs slot_tuple_iter.lookup (wpAny_pure ?_));simp only[ar6,if_false];refine wpAny_bind (wpAny_holding (iter_tuple hl ?_));refine wpAny_bind (wpAny_holding (draw_tuple hlt 1 0 _ _ ⟨_,Heap.get?_push_size _ rfl,rfl,rfl⟩ (hl.push _) (by rw[hsz];omega) λh₁ i1 b1=>?_));have hl₁:IsTup h₁ l (v0::vs).toArray:=(hl.push _).extBut b1.extBut hlt;obtain⟨oi,hoi,_⟩:=id i1;obtain⟨ol,hol,_⟩:=id hl₁;rw[ht];refine wpAny_bind (wpAny_holding (PySem.W.kun_collect (s:={ s with heap:=h₁ }) (T:="tuple_iterator") (.inr (.inr (.inr rfl))) (Walks.tuple (A:=A.in1) hh s.heap.objs.size l hlt (v0::vs).toArray) (λj u st=>st.1.typeIs) (k:=1) (by rw[hsz];omega) ⟨i1,hl₁⟩ (Heap.lt_size hoi) (Heap.lt_size hol) (λh₂ tk hk=>?_) hb))
  rw[hd];show wpAny _ _ (if vs.length < 0 then _ else newList (vs.take (vs.length - 0)) >>= λd=>pure ([v0]++[d]++vs.drop (vs.length - 0))) _ _ _;rw[if_neg (Nat.not_lt_zero _),Nat.sub_zero,List.take_length,asN];exact fin h₂ tk λb o ne e=>hk b o ne (b1.extBut b o ne (Heap.get?_push_of_some _ e))
def agX(K:arG)(i j:Nat):TG:=λv σ H Q=>∃a v0 us,v=.ref a/\(SqL K H a (v0::us)∨SqT K H a (v0::us))/\us.length<=16000/\∀D,H D=none->Q ((σ.set i (some v0)).set j (some (.ref D))) (upd H D (.lst us))
def Uu(X:Cx)(j:Nat)(x:Str):Prop:=X.N[j]?=some x/\Loc X.env.scope x/\(X.fn x=true∨X.env.scope.names.lookup x=some .local)
theorem ai0{X:Cx}{i j k:Nat}{x y:Str}{px py ps pos:Pos}(hc:X.calm=true)(hN:X.N.Nodup)(hx:Uu X i x)(hy:Uu X j y):PG X (.Tuple [.Name x px,.Starred (.Name y py) ps] k pos) (agX X.K i j):=by
 refine⟨λpins s σ H v u Q I r h=>?_⟩;obtain⟨a,v0,us,rfl,hq,hz,q⟩:=h;cases r;have e1:assign (.Tuple [.Name x px,.Starred (.Name y py) ps] k pos) X.env (.ref a)=(do standAt pos;unpack (.ref a) (assignEach [.Name x px,.Starred (.Name y py) ps] X.env)):=by with_unfolding_all rfl
 have e2:assignEach [.Name x px,.Starred (.Name y py) ps] X.env=[(false,assign (.Name x px) X.env),(true,assign (.Name y py) X.env)]:=by with_unfolding_all rfl
 rw[e1,e2];refine wpAny_bind (wpAny_standAt ?_);unfold unpack;obtain⟨w0,ws,hlw,rv0,rvs⟩:∃w0 ws,(s.heap.IsList a (w0::ws).toArray∨IsTup s.heap a (w0::ws).toArray)/\RelV v0 w0/\Vals us ws:=by
  rcases hq with hq|hq
  ·obtain⟨its,rv,p,_⟩:=I.list hq;cases rv with
   |cons r t=>exact⟨_,_,.inl p.isList,r,t⟩
  ·obtain⟨its,rv,p,_⟩:=I.tuple hq;cases rv with
   |cons r t=>exact⟨_,_,.inr p,r,t⟩
 refine wpAny_bind (wpAny_holding (amM (I.ok.hd hc) hlw (by rw[←rvs.length];exact hz) λh₂ tk hk=>?_));have I2:L2.Inv X pins σ H { s with heap:=h₂,toks:=tk }:=I.kept (t':=tk) hk;have I3:=I2.lnew (t':=tk) rvs (afN (by omega));refine assignInOrder_cons (wpAny_assign_Name (store_ok I3 hN hx.1 hx.2.1 rv0 (λs4 I4=>?_) hx.2.2));refine assignInOrder_cons (wpAny_assign_Name (store_ok I4 hN hy.1 hy.2.1 (v:=.ref h₂.objs.size) rfl (λs5 I5=>assignInOrder_nil ?_) hy.2.2));exact⟨_,_,I5,q _ I2.fresh⟩
section
variable{X:Cx}{aj:aR}{W:WX}{q:Bool}{e:Expr}{pos:Pos}
def Yj(i j:Nat)(f:GF):SF:=λM Z=>(f M Z).then Z λd M'=>match d with
 |.list (d0::ds)=>if ds.length<=16000 then .next ((Z.set i (some (.dat d0))).set j (some (.dat (.list ds)))) M' else .bad
 |.tuple (d0::ds)=>if ds.length<=16000 then .next ((Z.set i (some (.dat d0))).set j (some (.dat (.list ds)))) M' else .bad
 |_=>.bad
theorem aiv{i j k:Nat}{x y:Str}{px py ps tp:Pos}{f:GF}(hc:X.calm=true)(hN:X.N.Nodup)(hx:Uu X i x)(hy:Uu X j y)(he:GE aj X W q e f)(hs:swapsWithSole [.Tuple [.Name x px,.Starred (.Name y py) ps] k tp] e pos.line X.env=pure false)(hw:swappedStores [.Tuple [.Name x px,.Starred (.Name y py) ps] k tp] e X.env=pure none) :
  SE aj X W q (.Assign [.Tuple [.Name x px,.Starred (.Name y py) ps] k tp] e pos) (Yj i j f):=by
 refine PS.weak (ps_asg he (ai0 hc hN hx hy) hs hw (by with_unfolding_all rfl)) λD σ H ⟨g,Z,M,I,z⟩=>?_;refine tE.go I (dI (σ:=σ) z) λd M' v H' g' kk r I' rv=>?_;have fin:∀{a:Addr} {v0:V} {us:List V} {d0:Dat} {ds:List Dat},v=.ref a->(SqL X.K H' a (v0::us)∨SqT X.K H' a (v0::us))->Rep X.K g' H' v0 d0->aM X.K g' H' us ds->(if ds.length<=16000 then vq.next ((Z.set i (some (.dat d0))).set j (some (.dat (.list ds)))) M' else .bad).sat (sN X.K aj q D.nx g H) (sR X.K aj q D.rt g H) (sN X.K aj q D.bk g H) (sN X.K aj q D.ct g H) (sX X.K aj W q g H)->agX X.K i j v σ H' D.nx:=λ{a v0 us d0 ds} ev hq r0 rs kk=>by
  split at kk
  ·next hz=>
   refine⟨a,v0,us,ev,hq,by rw[rs.length];exact hz,λp np=>?_⟩;have e1:=Ex.new (o:=.lst us) np;have I2:=I'.ex e1;refine kk _ _ g' (r.trans (Gr.ex e1)) ((I2.set (r0.ex e1 I'.kd)).set (.lst (.inl ⟨.inl upd_same,I'.kd.fresh np⟩) (rs.ex e1 I'.kd)))
  ·exact atd kk
 split at kk
 ·obtain⟨a,us,ev,s1,t1⟩:=gK rv.weak;cases t1 with
  |cons r0 rs=>exact fin ev (.inl s1) r0 rs kk
 ·obtain⟨a,us,ev,s1,t1⟩:=kW rv.weak;cases t1 with
  |cons r0 rs=>exact fin ev (.inr s1) r0 rs kk
 ·exact atd kk
def Ro(i j:Nat)(f:GF):SF:=λM Z=>(f M Z).then Z λd M'=>.next ((Z.set i (some (.dat d))).set j (some (.dat d))) M'
theorem aiA{i j:Nat}{x y:Str}{px py:Pos}{f:GF}(hN:X.N.Nodup)(hx:Uu X i x)(hy:Uu X j y)(he:GE aj X W q e f)(hw:swappedStores [.Name x px,.Name y py] e X.env=pure none):SE aj X W q (.Assign [.Name x px,.Name y py] e pos) (Ro i j f):=by refine PS.weak (ps_asg2 he (pg_name hN hx.1 hx.2.1 hx.2.2) (pg_name hN hy.1 hy.2.1 hy.2.2) (by with_unfolding_all rfl) hw) λD σ H ⟨g,Z,M,I,z⟩=>?_;exact tE.go I (dI (σ:=σ) z) λd M' v H' g' kk r I' rv=>kk _ H' g' r ((I'.set rv).set rv)
def sPN(js:List Nat)(as:QA):SF:=λM Z=>((as M Z).at M).then Z λds M'=>match uM js ds Z with
 |some Z'=>.next Z' M'
 |none=>.bad
theorem aj5{j:Nat}{y:Str}{py:Pos}{elt tg iter:Expr}{cpos:Pos}{scope:Scope}{own:List (Str×Nat)}{it:IF}{tgf:fH}{js:List Nat}{tt:QT}{te:QF}{ifs:List Expr}(hc:X.calm=true)(hN:X.N.Nodup)(hy:X.N[j]?=some y)(hyl:X.env.scope.names.lookup y=some .local)
  (hsw:swapsWith (.ListComp elt [⟨tg,iter,ifs,0⟩] scope cpos) (some (.Name y py)) pos.line X.env=pure true) (hi:QI aj X W false tg iter it) (ok:blkC X.N X.env.scope scope own=true) (hj:∀j∈js,j∈own.map (·.2))
  (hg:∀(s:Shared) (H:Hp) (C:Addr) (cl:List (Str×Addr)) (fp:List Addr),QG aj (X.blk s H scope (compEnvC scope cl C X.env) fp) tg js tgf)
  (ht:∀(s:Shared) (H:Hp) (C:Addr) (cl:List (Str×Addr)) (fp:List Addr),PTs (X.blk s H scope (compEnvC scope cl C X.env) fp) ifs (jK X.K aj WF tt))
  (he:∀(s:Shared) (H:Hp) (C:Addr) (cl:List (Str×Addr)) (fp:List Addr),QE aj (X.blk s H scope (compEnvC scope cl C X.env) fp) WF elt te) (hs:∀x,foldedSetIterable iter X.env x=pure x) :
  SE aj X W q (.Assign [.Name y py] (.ListComp elt [⟨tg,iter,ifs,0⟩] scope cpos) pos) (bF (aG j) (gOf (eU it tgf (own.map (·.2)) tt te))):=by
 refine PS.weak (ps_setLc (g:=yI X.K aj js tgf) (tt:=jK X.K aj WF tt) (te:=tQ X.K aj WF te) hc hN hy hyl hsw hi (blkOk_by ok) (λs H C cl fp=>hg s H C cl fp) ht (λs H C cl fp=>he s H C cl fp) hs) λD σ H ⟨g,Z,M,I,z⟩=>?_;refine agV hj σ H _ ⟨g,Z,M,I,(Out.jh (dI (σ:=σ) z)).mono (λd kk v H' e r=>?_) λx kk H' c dd e r=>kk H' g c dd (Gr.ex e) (I.ex e) r⟩;exact kk _ H' g (Gr.ex e) ((I.ex e).set r)
end
inductive GV where
 |con (d:Dat)
 |fq (n:Nat) (m:Mo->List Dat->Out Dat)
 |fg (n:Nat) (m:Mo->List Dat->bf Dat)
 |dic (kvs:List (Str×Dat))
 |exc
 |exi (fs:List Str)
 |cls (n:Nat) (m:Mo->List Dat->bf Dat)
inductive MV where
 |q (n:Nat) (m:Mo->List Dat->Out Dat)
 |g (n:Nat) (m:Mo->List Dat->bf Dat)
def FQ(P:Program)(w:World)(K:arG)(mg:Str->Option Value)(base:Heap)(aj:aR)(k:Nat)(f:Addr)(n:Nat)(m:Mo->List Dat->Out Dat):Prop:=
 ∃(fd:FuncData) (ps:List Str) (j:Nat),j<=k/\ps.length=n/\Binds K fd ps []/\FnOk P w K mg base (L2.CX P w) j f fd ps (Wj K aj ps.length m)
def FG(P:Program)(w:World)(K:arG)(mg:Str->Option Value)(base:Heap)(aj:aR)(k:Nat)(f:Addr)(n:Nat)(m:Mo->List Dat->bf Dat):Prop:=
 ∃(fd:FuncData) (ps:List Str) (j:Nat),j<=k/\ps.length=n/\Binds K fd ps []/\FnOk P w K mg base (L2.CX P w) j f fd ps (Ko K aj ps.length m)
def jM(K:arG)(aj:aR):Prop:=∀c C f,aj c=some C->f∈aj.fl c->Cls K C/\NoAttr K C f
def bZ(P:Program)(w:World)(K:arG)(mg:Str->Option Value)(base:Heap)(aj:aR)(k:Nat)(c m:Str)(v:MV):Prop:=
 ∃C f,aj c=some C/\Cls K C/\Meth K C m f/\m∉aj.fl c/\match v with
  |.q n mm=>FQ P w K mg base aj k f n mm
  |.g n mm=>FG P w K mg base aj k f n mm
def afY(C:Addr)(fs:List Str):Sp:=λvs H Q _=>∃(a:Addr) (xs:List V),vs=.ref a::xs/\xs.length=fs.length/\H a=some (exo a C none)/\
 ∀(dx:Addr) (H':Hp),H dx=none->(∀b o,b≠a->H b=some o->H' b=some o)->(∀b,H' b=none->H b=none)->H' a=some (exo a C (some dx))->H' dx=some (exd dx (fs.zip xs).reverse)->Q .non H'
def ac1(w:World)(K:arG)(a:Addr)(kvs:List (Str×Dat)):Prop:=∃(es:Array DictEntry) (n:Nat),KDict K w a es n/\(kvs.map (·.1)).Nodup/\
 ∀x:Str,match kvs.lookup x with
  |some d=>∃v u,PySem.W.nsIn K a x=some (some u)/\RelV v u/\∀g H,Rep K g H v d
  |none=>PySem.W.nsIn K a x=some none
def bA(P:Program)(w:World)(K:arG)(mg:Str->Option Value)(base:Heap)(aj:aR)(k:Nat)(x:Str):GV->Prop
 |.con d=>∃v u,mg x=some u/\RelV v u/\∀g H,Rep K g H v d
 |.fq n m=>∃f,mg x=some (.ref f)/\PySem.W.keepIn K (.ref f)=true/\FQ P w K mg base aj k f n m
 |.fg n m=>∃f,mg x=some (.ref f)/\PySem.W.keepIn K (.ref f)=true/\FG P w K mg base aj k f n m
 |.dic kvs=>∃a,mg x=some (.ref a)/\ac1 w K a kvs
 |.exc=>∃C,mg x=some (.ref C)/\aj x=some C/\PySem.W.excIn K C He.veBase "ValueError.__new__"=true/\PySem.W.keepIn K (.ref C)=true/\PySem.W.subIn K (.ref C) (.type "BaseException")=some true/\PySem.W.typeIn K (.ref C)=some (.type "type")
 |.exi fs=>∃(C fI:Addr) (fd:FuncData) (ps:List Str),mg x=some (.ref C)/\aj x=some C/\OexC K C/\PySem.W.findIn K (.ref C) "__init__"=some (some (.ref fI))/\PySem.W.typeIn K (.ref fI)=some (.type "function")/\2<=k/\ps.length=fs.length+1/\Binds K fd ps []/\FnOk P w K mg base CX0 1 fI fd ps (afY C fs)
 |.cls n m=>∃(C f:Addr) (fd:FuncData) (ps:List Str) (j:Nat),mg x=some (.ref C)/\aj x=some C/\Cls K C/\Mk K C f/\j+1<=k/\ps.length=n+1/\Binds K fd ps []/\FnOk P w K mg base (L2.CX P w) j f fd ps (Ko K aj ps.length m)
def ach(K:arG)(aj:aR)(y:Str)(tk:Str->Option Bool):Prop:=∀x b C,tk x=some b->aj x=some C->∀D,aj y=some D->PySem.W.exmOne K (.ref C) (.ref D)=some b
def putL(f:Str)(x:jm):List (Str×jm)->List (Str×jm)
 |[]=>[(f,x)]
 |(g,y)::r=>if g=f then(g,x)::r else(g,y)::putL f x r
def Inst.put(i:Inst)(f:Str)(x:jm):Inst:=⟨i.cls,putL f x i.fs⟩
theorem Jg(f:Str)(x:jm):∀gs:List (Str×jm),(putL f x gs).map (·.1)=if f∈gs.map (·.1) then gs.map (·.1) else gs.map (·.1)++[f]
 |[]=>by simp[putL]
 |(g,y)::r=>by
  have ih:=Jg f x r;rw[putL];by_cases e:g=f
  ·subst e;simp
  ·rw[if_neg e,arK,ih];by_cases h:f∈r.map (·.1)
   ·rw[if_pos h,if_pos (by simp[h])];rfl
   ·rw[if_neg h,if_neg (by
     rw[arK,arV]
     rintro(z|z)
     ·exact e z.symm
     ·exact h z)]
    rfl
theorem ada{f:Str}{x:jm}{gs:List (Str×jm)}(h:(gs.map (·.1)).Nodup):((putL f x gs).map (·.1)).Nodup:=by
 rw[Jg];split
 ·exact h
 ·next n=>
  rw[asK];refine⟨h,by simp,λa ha b hb e=>?_⟩;subst e;rw[arO]at hb;subst hb;exact n ha
theorem Mp{f:Str}{v:V}:∀{fs:List (Str×V)},fs.lookup f=some v->putF f v fs=fs
 |[],h=>nomatch h
 |(g,y)::r,h=>by
  rw[asj]at h;rw[show putF f v ((g,y)::r)=(if g=f then(g,v)::r else(g,y)::putF f v r) from rfl];by_cases e:g=f
  ·subst e;simp at h;rw[if_pos rfl,h]
  ·have ne:(f==g)=false:=by simpa using λz=>e z.symm
   rw[ne]at h;rw[if_neg e,Mp h]
section
variable{K:arG}{aj:aR}{W:WX}{g g':Gh}{H H':Hp}{σ:L2.St}{Z:Env}{M:Mo}{h:Nat}{f:Str}{v:V}{fl:jm}
theorem cQ.put(hk:∀f' v' fl',f'≠f->dZ K aj g H h f' v' fl'->dZ K aj g' H' h f' v' fl')(new:dZ K aj g' H' h f v fl):∀{fs:List (Str×V)} {gs:List (Str×jm)},cQ K aj g H h fs gs->(gs.map (·.1)).Nodup->cQ K aj g' H' h (putF f v fs) (putL f fl gs)
 |_,_,.nil,_=>.cons new .nil
 |_,_,.cons (f:=f') (v:=v') (fl:=fl') (fs:=fs) (gs:=gs) z t,nd=>by
  rw[show putF f v ((f',v')::fs)=(if f'=f then(f',v)::fs else(f',v')::putF f v fs) from rfl,putL];rw[arK,ata]at nd;by_cases e:f'=f
  ·subst e;rw[if_pos rfl,if_pos rfl];refine .cons new ?_;have go:∀{fs:List (Str×V)} {gs:List (Str×jm)},cQ K aj g H h fs gs->f'∉gs.map (·.1)->cQ K aj g' H' h fs gs:=λ{fs gs} t=>by
    induction t with
    |nil=>exact λ_=>.nil
    |cons z _ ih=>
     intro n;rw[arK,arV,not_or]at n;exact .cons (hk _ _ _ (λq=>n.1 q.symm) z) (ih n.2)
   exact go t nd.1
  ·rw[if_neg e,if_neg e];exact .cons (hk _ _ _ e z) (cQ.put hk new t nd.2)
structure Chg(M:Mo)(g g':Gh)(H H':Hp)(h:Nat)(f:Str):Prop where
 gc:Gc g g' H H'
 kd:Kd g' H'
 tbl:g'.tbl=g.tbl
 ow:∀a p,g.ow a=some p->g'.ow a=some p
 oth:∀a p,g.ow a=some p->p≠(h,f)->H' a=H a
 ins:∀(k:Nat) (a:Addr) (i:Inst),g.tbl[k]?=some a->M[k]?=some i->i.cls≠""->k≠h->H' a=H a
 nt:∀(k:Nat) (a:Addr) (i:Inst),g.tbl[k]?=some a->M[k]?=some i->i.cls≠""->∀p,g'.ow a≠some p
theorem jH.chg{l:Addr}(r:Gr false g g' H H')(k:Kd g H)(e:H' l=H l):∀{n:Bool} {kvs:List (Dat×Dat)},jH K aj g H l n kvs->jH K aj g' H' l n kvs
 |false,_,⟨kv,h1,h2,h3⟩=>⟨kv,e.trans h1,h2,h3.gr r k⟩
 |true,_,⟨o,xs,vs,h1,h2,h3,h4,h5,h6⟩=>⟨o,xs,vs,e.trans h1,h2,h3,h4.gr r k,h5,h6.gr r k⟩
theorem dZ.chg(c:Chg M g g' H H' h f)(k:Kd g H){h':Nat}{f':Str}{v':V}(ne:(h',f')≠(h,f)):∀{fl':jm},dZ K aj g H h' f' v' fl'->dZ K aj g' H' h' f' v' fl'
 |.dat _,z=>Rep.gr c.gc.gr k z
 |.lst _ _,⟨l,us,h1,h2,h3,h4,h5⟩=>⟨l,us,h1,(c.oth l _ h3 ne).trans h2,c.ow l _ h3,h4.gr c.gc.gr k,c.gc.gr.tb h5⟩
 |.dic _ _,⟨l,h1,h2,h3⟩=>⟨l,h1,c.ow l _ h2,h3.chg c.gc.gr k (c.oth l _ h2 ne)⟩
theorem gD.chg(w:gD K aj g H M)(k:Kd g H)(c:Chg M g g' H H' h f){a:Addr}{i:Inst}(ha:g.tbl[h]?=some a)(hi:M[h]?=some i)(hne:i.cls≠"")(hf:f∈aj.fl i.cls){C dx:Addr}{fs:List (Str×V)}(hC:aj i.cls=some C)(R:cQ K aj g H h fs i.fs)
  (e':H' a=some (.ins C dx (putF f v fs))) (new:dZ K aj g' H' h f v fl):gD K aj g' H' (M.set h (i.put f fl)) where
 len:=by rw[c.tbl,ase];exact w.len
 inj:=by rw[c.tbl];exact w.inj
 ins:=λh' a' i' ha' hi' hc'=>by
  rw[c.tbl]at ha';by_cases z:h'=h
  ·subst z;rw[ha]at ha';cases ha';rw[arZ (arJ.mp hi).1]at hi';cases hi';exact⟨C,dx,_,hC,e',R.put (λf' v' fl' ne z=>z.chg c k λq=>ne (congrArg Prod.snd q)) new (w.nd _ i hi)⟩
  ·rw[arP (Ne.symm z)]at hi';obtain⟨C',dx',fs',c1,c2,c3⟩:=w.ins h' a' i' ha' hi' hc';refine⟨C',dx',fs',c1,(c.ins h' a' i' ha' hi' hc' z).trans c2,?_⟩;have go:∀{fs:List (Str×V)} {gs:List (Str×jm)},cQ K aj g H h' fs gs->cQ K aj g' H' h' fs gs:=λ{fs gs} t=>by
    induction t with
    |nil=>exact .nil
    |cons y _ ih=>exact .cons (y.chg c k λq=>z (congrArg Prod.fst q)) ih
   exact go c3
 nd:=λh' i' hi'=>by
  by_cases z:h'=h
  ·subst z;rw[arZ (arJ.mp hi).1]at hi';cases hi';exact ada (w.nd _ i hi)
  ·rw[arP (Ne.symm z)]at hi';exact w.nd h' i' hi'
 fd:=λh' i' hi' f' hf'=>by
  by_cases z:h'=h
  ·subst z;rw[arZ (arJ.mp hi).1]at hi';cases hi';have hf':f'∈(putL f fl i.fs).map (·.1):=hf';rw[Jg]at hf';split at hf'
   ·exact w.fd _ i hi f' hf'
   ·rcases arR.mp hf' with y|y
    ·exact w.fd _ i hi f' y
    ·rw[arO]at y;rw[y];exact hf
  ·rw[arP (Ne.symm z)]at hi';exact w.fd h' i' hi' f' hf'
 tw:=λk' a' i' ha' hi' hc'=>by
  rw[c.tbl]at ha';have:∃i0,M[k']?=some i0/\i0.cls≠"":=by
   by_cases z:k'=h
   ·subst z;exact⟨i,hi,hne⟩
   ·rw[arP (Ne.symm z)]at hi';exact⟨i',hi',hc'⟩
  obtain⟨i0,m1,m2⟩:=this;cases hz:g'.ow a' with
  |none=>rfl
  |some p=>exact absurd hz (c.nt k' a' i0 ha' m1 m2 p)
 dm:=λh' i' hi' hc'=>by
  by_cases z:h'=h
  ·subst z;rw[arZ (arJ.mp hi).1]at hi';cases hi';exact absurd hc' hne
  ·rw[arP (Ne.symm z)]at hi';exact w.dm h' i' hi' hc'
 nc:=w.nc
theorem amC{a:Addr}(ha:g.tbl[h]?=some a):g.W a:=.inl (arN ha)
theorem U6(k:Kd g H)(w:gD K aj g H M){a:Addr}{i:Inst}(ha:g.tbl[h]?=some a)(hi:M[h]?=some i)(hc:i.cls≠""){C dx:Addr}{fs':List (Str×V)}:Chg M g g H (upd H a (.ins C dx fs')) h f where
 gc:=⟨λb o hb n=>by rw[upd_ne (λz=>by subst z;exact n (amC ha))];exact hb,λb hb=>by
  by_cases z:b=a
  ·subst z;rw[upd_same]at hb;cases hb
  ·rw[upd_ne z]at hb;exact hb,⟨[],by simp⟩,λ_ z=>z,λ_ z=>.inl z,rfl,rfl⟩
 kd:=k.upd trivial
 tbl:=rfl
 ow:=λ_ _ z=>z
 oth:=λb p hb _=>upd_ne λz=>by
  subst z;rw[w.tw h _ i ha hi hc]at hb;cases hb
 ins:=λj b i' hb _ _ ne=>upd_ne λz=>by
  subst z;exact ne (w.inj _ _ _ hb ha)
 nt:=λj b i' hb hj hcj p z=>by
  rw[w.tw j b i' hb hj hcj]at z;cases z
def Gh.own(g:Gh)(l:Addr)(h:Nat)(f:Str):Gh:={ g with ow:=λb=>if b=l then some (h,f) else g.ow b }
theorem amh{l a:Addr}(hl:l∈g.tbl):(g.own l h f).W a↔g.W a:=by
 constructor
 ·rintro(z|z)
  ·exact .inl z
  ·by_cases y:a=l
   ·subst y;exact .inl hl
   ·have z:(if a=l then some (h,f) else g.ow a)≠none:=z;rw[if_neg y]at z;exact .inr z
 ·rintro(z|z)
  ·exact .inl z
  ·refine .inr ?_
   show(if a=l then some (h,f) else g.ow a)≠none
   split
   ·exact λq=>nomatch q
   ·exact z
theorem Vm(k:Kd g H)(w:gD K aj g H M){a l:Addr}{n:Nat}{i:Inst}(ha:g.tbl[h]?=some a)(hi:M[h]?=some i)(hc:i.cls≠"")(hl:g.tbl[n]?=some l)(hn:M[n]?=some ⟨"",[]⟩)(nl:g.ow l=none){C dx:Addr}{fs':List (Str×V)}:Chg M g (g.own l h f) H (upd H a (.ins C dx fs')) h f:=by
 have W':∀{b:Addr},(g.own l h f).W b↔g.W b:=λ{b}=>amh (arN hl);have d:=U6 (f:=f) (C:=C) (dx:=dx) (fs':=fs') k w ha hi hc;refine⟨⟨d.gc.keep,d.gc.dom,⟨[],by simp[Gh.own]⟩,λb z=>W'.mpr z,λb z=>.inl (W'.mp z),rfl,rfl⟩,⟨λb z=>d.kd.ob b ?_,λb z y=>d.kd.lo b z (W'.mp y),λb z=>⟨λy=>(d.kd.lc b z).1 (W'.mp y),(d.kd.lc b z).2⟩⟩,rfl,λb p z=>?_,d.oth,d.ins,λj b i' hb hj hcj p z=>?_⟩
 ·rcases z with z|z|z
  ·exact .inl (W'.mp z)
  ·exact .inr (.inl z)
  ·exact .inr (.inr z)
 ·show(if b=l then some (h,f) else g.ow b)=some p
  rw[if_neg (λy=>by subst y;rw[nl]at z;cases z)];exact z
 ·have z:(if b=l then some (h,f) else g.ow b)=some p:=z;by_cases y:b=l
  ·subst y;cases w.inj _ _ _ hb hl;rw[hn]at hj;cases hj;exact hcj rfl
  ·rw[if_neg y,w.tw j b i' hb hj hcj]at z;cases z
theorem ae3(k:Kd g H)(w:gD K aj g H M){l:Addr}{o':HO}(ho:g.ow l=some (h,f))(mo:Ju o'):Chg M g g H (upd H l o') h f where
 gc:=⟨λb u hb n=>by rw[upd_ne (λz=>by subst z;exact n (.inr (by rw[ho];exact λy=>nomatch y)))];exact hb,λb hb=>by
  by_cases z:b=l
  ·subst z;rw[upd_same]at hb;cases hb
  ·rw[upd_ne z]at hb;exact hb,⟨[],by simp⟩,λ_ z=>z,λ_ z=>.inl z,rfl,rfl⟩
 kd:=k.upd mo
 tbl:=rfl
 ow:=λ_ _ z=>z
 oth:=λb p hb ne=>upd_ne λz=>by
  subst z;rw[ho]at hb;exact ne (arY hb).symm
 ins:=λj b i' hb hj hcj ne=>upd_ne λz=>by
  subst z;rw[w.tw j _ i' hb hj hcj]at ho;cases ho
 nt:=λj b i' hb hj hcj p z=>by
  rw[w.tw j b i' hb hj hcj]at z;cases z
theorem cQ.len{fs:List (Str×V)}{gs:List (Str×jm)}(t:cQ K aj g H h fs gs):fs.length=gs.length:=by
 induction t with
 |nil=>rfl
 |cons _ _ ih=>simp[ih]
end
def MJ(M:Mo)(f:Str):Dat->Option jm
 |.dict [(.none,.int (.ofNat h))]=>(M[h]?).bind λi=>i.fs.lookup f
 |_=>none
def fL(f:Str)(o:QF):QF:=λM Z=>(o M Z).bind λd=>match MJ M f d with
 |some (.dat x)=>.ok x
 |_=>.bad
def bK(f:Str)(o:QF):QF:=λM Z=>(o M Z).bind λd=>match MJ M f d with
 |some (.dat x)=>.ok x
 |some (.lst _ xs)=>.ok (.list xs)
 |_=>.bad
theorem afp{M:Mo}{f:Str}{d:Dat}{fl:jm}(h:MJ M f d=some fl):∃n i,d=obj n/\M[n]?=some i/\i.fs.lookup f=some fl:=by
 unfold MJ at h;split at h
 ·next n=>
  obtain⟨i,h1,h2⟩:=arF.mp h;exact⟨n,i,rfl,h1,h2⟩
 ·cases h
theorem lookup_mem{f:Str}{fl:jm}:∀{gs:List (Str×jm)},gs.lookup f=some fl->f∈gs.map (·.1)
 |[],h=>nomatch h
 |(g,y)::r,h=>by
  rw[asj]at h;cases hb:f==g with
  |true=>rw[eq_of_beq hb];simp
  |false=>
   rw[hb]at h;exact arL _ (lookup_mem h)
section
variable{K:arG}{aj:aR}{g:Gh}{H:Hp}{M:Mo}
theorem aaC(co:jM K aj)(w:gD K aj g H M){f:Str}{d:Dat}{fl:jm}{v:V}(h:MJ M f d=some fl)(r:eG K g H v d):∃n i a C dx fs u,d=obj n/\M[n]?=some i/\i.fs.lookup f=some fl/\g.tbl[n]?=some a/\v=.ref a/\aj i.cls=some C/\H a=some (.ins C dx fs)/\cQ K aj g H n fs i.fs/\Cls K C/\NoAttr K C f/\fs.lookup f=some u/\dZ K aj g H n f u fl:=by
 obtain⟨n,i,rfl,h1,h2⟩:=afp h;obtain⟨a,rfl,ha⟩:=LC r;have hc:i.cls≠"":=λz=>by
  rw[w.dm n i h1 z]at h2;cases h2
 obtain⟨C,dx,fs,c1,c2,c3⟩:=w.ins n a i ha h1 hc;obtain⟨u,l1,l2⟩:=c3.get h2;obtain⟨k1,k2⟩:=co i.cls C f c1 (w.fd n i h1 f (lookup_mem h2));exact⟨n,i,a,C,dx,fs,u,rfl,h1,h2,ha,rfl,c1,c2,c3,k1,k2,l1,l2⟩
end
section
variable{X:Cx}{aj:aR}{W:WX}{o e:Expr}{es:List Expr}{fo:QF}{f m:Str}{pos apos:Pos}
theorem ajQ(co:jM X.K aj)(ho:QW aj X W o fo)(hb:baseOk o=true):QE aj X W (.Attribute o f pos) (fL f fo):=
 PE.weak (pe_fld ho (ni hb)) λσ H Q ⟨g,Z,M,I,h⟩=>by
  refine tW.go I h.bnd λd v H1 h1 e1 r1=>?_;split at h1
  ·next x hx=>
   obtain⟨n,i,a,C,dx,fs,u,_,_,_,_,rfl,_,c2,_,k1,k2,l1,l2⟩:=aaC co (I.ex e1).wok hx r1;exact⟨a,C,dx,fs,u,rfl,c2,k1,k2,l1,h1 u H1 e1 l2⟩
  ·exact atd h1
theorem alL(co:jM X.K aj)(ho:QW aj X W o fo)(hb:baseOk o=true):QW aj X W (.Attribute o f pos) (bK f fo):=
 PE.weak (pe_fld ho (ni hb)) λσ H Q ⟨g,Z,M,I,h⟩=>by
  refine tW.go I h.bnd λd v H1 h1 e1 r1=>?_;split at h1
  ·next x hx=>
   obtain⟨n,i,a,C,dx,fs,u,_,_,_,_,rfl,_,c2,_,k1,k2,l1,l2⟩:=aaC co (I.ex e1).wok hx r1;exact⟨a,C,dx,fs,u,rfl,c2,k1,k2,l1,h1 u H1 e1 (Rep.weak l2)⟩
  ·next xs hx=>
   obtain⟨n,i,a,C,dx,fs,u,_,_,_,_,rfl,_,c2,_,k1,k2,l1,l,us,rfl,s1,s2,s3,_⟩:=aaC co (I.ex e1).wok hx r1;exact⟨a,C,dx,fs,_,rfl,c2,k1,k2,l1,h1 _ H1 e1 ⟨l,us,rfl,sq_of s1,s3⟩⟩
  ·exact atd h1
def Sy(X:Cx)(W:WX)(m:Str)(ta:TE)(t:TA):TE:=λσ H Q=>ta σ H λx H1=>∃(a C dx:Addr) (fs:List (Str×V)) (f:Addr) (fd:FuncData) (ps:List Str) (sp:Sp) (k:Nat),x=.ref a/\H1 a=some (.ins C dx fs)/\fs.lookup m=none/\Cls X.K C/\Meth X.K C m f/\Room k X.A/\Binds X.K fd ps []/\
 FnOk X.prog X.w X.K X.mg X.base (L2.CX X.prog X.w) k f fd ps sp/\t σ H1 λvs H2=>sp (x::vs) H2 Q (WE W σ)
theorem V5{M:Model}{A:Around}{E:Value->Shared->Prop}{s:Shared}{env:PySem.Env}{args:List Expr}{Q:Value->Shared->Prop}(hbase:baseOk o=true)(hs:args.all nst=true)(hz:args.length < 30)(hl:(apos.endLine==pos.line)=true)
  (h:wpAny M A (eval o env) (λov s₁=>∀pl:Sem Bool,wpAny M A (getMethod ov m pl) (λfx s₂=>wpAny M A (callWith pos fx.1 fx.2 (backTo pos (starEach args env)) (backToKw pos (keywordEach [] env))) Q E s₂) E s₁) E s) :
  wpAny M A (eval (.Call (.Attribute o m apos) args [] pos) env) Q E s:=by
 have hform:methodCallForm (args.length+([]:List Keyword).length) (backTo pos (starEach args env)) (backToKw pos (keywordEach [] env))=true:=few hs hz;have hpos:methodCallPos true o env apos pos=pure pos:=by unfold methodCallPos;simp[hl]
 rw[arm_eval_Call,ni hbase];refine wpAny_bind (wpAny_mono h (λov s₁ h₁=>?_) λ_ _ e=>e);refine wpAny_bind (wpAny_standAt ?_);unfold methodCall;rw[hform];refine wpAny_bind (wpAny_holding ?_);refine wpAny_mono (h₁ _) (λfx s₂ h₂=>?_) λ_ _ e=>e;exact wpAny_bind (wpAny_of_eq hpos h₂)
theorem aax{ta:TE}{t:TA}(tk:Takes X W)(ho:PE X o ta)(ha:PA X (e::es) t)(hb:baseOk o=true)(hs:(e::es).all nst=true)(hl:(apos.endLine==pos.line)=true)(hz:(e::es).length < 30):PE X (.Call (.Attribute o m apos) (e::es) [] pos) (Sy X W m ta t):=by have hs':=hs;rw[asx,arH]at hs';refine⟨λpins s σ H Q I h=>?_⟩;refine V5 hb hs hz hl (thn (ho.run pins s σ H _ I h) λu s1 ⟨x,G,J,rx,a,C,dx,fs,f,fd,ps,sp,k,ex,ea,l,c,hm,hr,hB,F,q⟩ pl=>?_);subst ex;cases rx;refine getmeth_ok J ea c hm l ?_;refine PySem.W.callWith_K (first:=[.ref a]) (h₀:=X.base) I.ok.mod.kin hm.kp (thn (ha.run pos pins s1 σ G _ J q) λus s2 ⟨vs,G2,J2,r,q2⟩=>⟨J2.kIn,?_⟩) (cH hs'.1 es) (star_any es hs'.2);exact run_fnS (us:=.ref a::us) (vs:=.ref a::vs) F hr hB (passAt tk σ) J2 (.cons rfl r) q2
theorem W9{ta:TE}(tk:Takes X W)(ho:PE X o ta)(hb:baseOk o=true)(hl:(apos.endLine==pos.line)=true):PE X (.Call (.Attribute o m apos) [] [] pos) (Sy X W m ta tNil):=by refine⟨λpins s σ H Q I h=>?_⟩;refine V5 hb rfl (by decide) hl (thn (ho.run pins s σ H _ I h) λu s1 ⟨x,G,J,rx,a,C,dx,fs,f,fd,ps,sp,k,ex,ea,l,c,hm,hr,hB,F,q⟩ pl=>?_);subst ex;cases rx;refine getmeth_ok J ea c hm l ?_;exact PySem.W.callWith_K0 (first:=[.ref a]) J.kIn hm.kp (run_fnS (us:=[.ref a]) (vs:=[.ref a]) F hr hB (passAt tk σ) J (.cons rfl .nil) q)
def Em(tb:List (Str×MV))(M:Mo):Dat->Option MV
 |.dict [(.none,.int (.ofNat h))]=>(M[h]?).bind λi=>tb.lookup i.cls
 |_=>none
def aO(tb:List (Str×MV))(o:QF)(as:QA):QF:=λM Z=>(o M Z).bind λd=>match Em tb M d with
 |some (.q _ m)=>(as M Z).bind λds=>m M (d::ds)
 |_=>.bad
def cU(tb:List (Str×MV))(o:QF)(as:QA):GF:=λM Z=>((o M Z).at M).bind λd _=>match Em tb M d with
 |some (.q _ m)=>((as M Z).at M).bind λds _=>(m M (d::ds)).at M
 |some (.g _ m)=>((as M Z).at M).bind λds _=>m M (d::ds)
 |none=>.bad
def Jt(X:Cx)(aj:aR)(k:Nat)(m:Str)(n:Nat)(tb:List (Str×MV)):Prop:=∀c v,tb.lookup c=some v->bZ X.prog X.w X.K X.mg X.base aj k c m v/\match v with
  |.q j _=>j=n
  |.g j _=>j=n
theorem Jt.cls{k n:Nat}{tb:List (Str×MV)}(T:Jt X aj k m n tb):∀c v,tb.lookup c=some v->aj c≠none:=λc v h z=>by
 obtain⟨⟨C,f,c1,_⟩,_⟩:=T c v h;rw[z]at c1;cases c1
theorem Ve{K:arG}{g:Gh}{H:Hp}{M:Mo}{tb:List (Str×MV)}{d:Dat}{v:V}{mv:MV}(ht:∀c v,tb.lookup c=some v->aj c≠none)(w:gD K aj g H M)(h:Em tb M d=some mv)(r:eG K g H v d):∃n i a C dx fs,d=obj n/\M[n]?=some i/\tb.lookup i.cls=some mv/\g.tbl[n]?=some a/\v=.ref a/\aj i.cls=some C/\H a=some (.ins C dx fs)/\cQ K aj g H n fs i.fs:=by
 unfold Em at h;split at h
 ·next n=>
  obtain⟨i,h1,h2⟩:=arF.mp h;obtain⟨a,rfl,ha⟩:=LC r;obtain⟨C,dx,fs,c1,c2,c3⟩:=w.ins n a i ha h1 λz=>ht _ _ h2 (by rw[z];exact w.nc);exact⟨n,i,a,C,dx,fs,rfl,h1,h2,ha,rfl,c1,c2,c3⟩
 ·cases h
theorem Z4{K:arG}{g:Gh}{H:Hp}{M:Mo}{n:Nat}{i:Inst}{fs:List (Str×V)}(w:gD K aj g H M)(hi:M[n]?=some i)(R:cQ K aj g H n fs i.fs)(h:m∉aj.fl i.cls):fs.lookup m=none:=by
 refine R.no ?_;cases hl:i.fs.lookup m with
 |none=>rfl
 |some x=>exact absurd (w.fd n i hi m (lookup_mem hl)) h
theorem adl{tb:List (Str×MV)}{as:QA}{n k:Nat}{t:TA}(hr:Room k X.A)(T:Jt X aj k m n tb)(hn:∀M Z ds,as M Z=.ok ds->ds.length+1=n)(ht:∀σ H Q,OJ X.K aj W as σ H Q->t σ H Q)(σ:L2.St)(H:Hp)(Q:VK)(h:tQ X.K aj W (aO tb fo as) σ H Q):Sy X W m (tW X.K aj W fo) t σ H Q:=by
 obtain⟨g,Z,M,I,h⟩:=h;refine tW.go I h.bnd λd v H1 h1 e1 r1=>?_;have I1:=I.ex e1;split at h1
 ·next j mm hmv=>
  obtain⟨hd,i,a,C,dx,fs,rfl,hi,hl,ha,rfl,c1,c2,c3⟩:=Ve T.cls I1.wok hmv r1;obtain⟨⟨C',f,cc,cl,me,nf,fd,ps,j',hj,hp,hB,F⟩,en⟩:=T _ _ hl;have en:j=n:=en;rw[c1]at cc;cases cc;refine⟨a,C,dx,fs,f,fd,ps,_,j',rfl,c2,Z4 I1.wok hi c3 nf,cl,me,hr.mono hj,hB,F,ht σ H1 _ ⟨g,Z,M,I1,?_⟩⟩;have h2:=h1.bnd;cases has:as M Z with
  |exc x=>rw[has]at h2;exact qJ.ex e1 h2
  |bad=>rw[has]at h2;exact atd h2
  |ok ds=>
   rw[has]at h2;intro vs H2 e2 r2;refine⟨by rw[hp,en,←hn M Z ds has,arW,r2.length],g,M,obj hd::ds,(I1.ex e2).kd,(I1.ex e2).wok,.cons (.obj ha) r2,?_⟩;exact Out.sat.mono h2 (λd k v H' e' r'=>k v H' ((e1.trans e2).trans e') r') λx k H' c dd e' r'=>k H' c dd ((e1.trans e2).trans e') r'
 ·exact atd h1
theorem ah9{tb:List (Str×MV)}{as:QA}{k:Nat}(tk:Takes X W)(hr:Room k X.A)(T:Jt X aj k m ((e::es).length+1) tb)(ho:QW aj X W o fo)(ha:GJ aj X W (e::es) as)(hn:∀M Z ds,as M Z=.ok ds->ds.length=(e::es).length)(hb:baseOk o=true)(hs:(e::es).all nst=true)(hl:(apos.endLine==pos.line)=true)(hz:(e::es).length < 30) :
  QE aj X W (.Call (.Attribute o m apos) (e::es) [] pos) (aO tb fo as):=
 PE.weak (aax tk ho ha hb hs hl hz) λσ H Q h=>adl hr T (λM Z ds z=>by rw[hn M Z ds z]) (λ_ _ _ z=>z) σ H Q h
theorem afR{tb:List (Str×MV)}{k:Nat}(tk:Takes X W)(hr:Room k X.A)(T:Jt X aj k m 1 tb)(ho:QW aj X W o fo)(hb:baseOk o=true)(hl:(apos.endLine==pos.line)=true) :
  QE aj X W (.Call (.Attribute o m apos) [] [] pos) (aO tb fo au):=
 PE.weak (W9 tk ho hb hl) λσ H Q h=>adl hr T (λM Z ds z=>by cases z;rfl) (λσ H Q ⟨g,Z,M,I,z⟩=>z [] H (Ex.refl H) .nil) σ H Q h
theorem aeB{tb:List (Str×MV)}{as:QA}{n k:Nat}{t:TA}(hr:Room k X.A)(T:Jt X aj k m n tb)(hn:∀M Z ds,as M Z=.ok ds->ds.length+1=n)(ht:∀σ H Q,OJ X.K aj W as σ H Q->t σ H Q)(σ:L2.St)(H:Hp)(Q:VK)(h:tE X.K aj W false (cU tb fo as) σ H Q):Sy X W m (tW X.K aj W fo) t σ H Q:=by
 obtain⟨g,Z,M,I,h⟩:=h;have quiet:∀{x:dR},gE X.K aj W false g H σ Z x M->qJ X.K aj W g H σ x:=λ{x} z H' c dd e r=>z H' g c dd (Gr.ex e) (I.ex e) r;have h:=h.bnd;refine⟨g,Z,M,I,?_⟩;cases ho:fo M Z with
 |exc x=>rw[ho]at h;exact quiet h
 |bad=>rw[ho]at h;exact atd h
 |ok d=>
  rw[ho]at h;intro v H1 e1 r1;have I1:=I.ex e1;have h:(match Em tb M d with
   |some (.q _ m)=>((as M Z).at M).bind λds _=>(m M (d::ds)).at M
   |some (.g _ m)=>((as M Z).at M).bind λds _=>m M (d::ds)
   |none=>.bad).sat (λd M'=>∀v H' g',Gr false g g' H H'->SInv X.K aj σ H' g' Z M'->Rep X.K g' H' v d->Q v H') (gE X.K aj W false g H σ Z):=h
  split at h
  ·next j mm hmv=>
   obtain⟨hd,i,a,C,dx,fs,rfl,hi,hl,ha,rfl,c1,c2,c3⟩:=Ve T.cls I1.wok hmv r1;obtain⟨⟨C',f,cc,cl,me,nf,fd,ps,j',hj,hp,hB,F⟩,en⟩:=T _ _ hl;have en:j=n:=en;rw[c1]at cc;cases cc;refine⟨a,C,dx,fs,f,fd,ps,_,j',rfl,c2,Z4 I1.wok hi c3 nf,cl,me,hr.mono hj,hB,F,ht σ H1 _ ⟨g,Z,M,I1,?_⟩⟩;have h2:=h.bnd;cases has:as M Z with
   |exc x=>rw[has]at h2;exact qJ.ex e1 (quiet h2)
   |bad=>rw[has]at h2;exact atd h2
   |ok ds=>
    rw[has]at h2;intro vs H2 e2 r2;have e12:=e1.trans e2;refine⟨by rw[hp,en,←hn M Z ds has,arW,r2.length],g,M,obj hd::ds,(I1.ex e2).kd,(I1.ex e2).wok,.cons (.obj ha) r2,?_⟩;exact Out.sat.mono (Out.jh h2) (λd k v H' e' r'=>k v H' g (Gr.ex (e12.trans e')) (I.ex (e12.trans e')) r') λx k H' c dd e' r'=>k H' g c dd (Gr.ex (e12.trans e')) (I.ex (e12.trans e')) r'
  ·next j mm hmv=>
   obtain⟨hd,i,a,C,dx,fs,rfl,hi,hl,ha,rfl,c1,c2,c3⟩:=Ve T.cls I1.wok hmv r1;obtain⟨⟨C',f,cc,cl,me,nf,fd,ps,j',hj,hp,hB,F⟩,en⟩:=T _ _ hl;have en:j=n:=en;rw[c1]at cc;cases cc;refine⟨a,C,dx,fs,f,fd,ps,_,j',rfl,c2,Z4 I1.wok hi c3 nf,cl,me,hr.mono hj,hB,F,ht σ H1 _ ⟨g,Z,M,I1,?_⟩⟩;have h2:=h.bnd;cases has:as M Z with
   |exc x=>rw[has]at h2;exact qJ.ex e1 (quiet h2)
   |bad=>rw[has]at h2;exact atd h2
   |ok ds=>
    rw[has]at h2;intro vs H2 e2 r2;have e12:=e1.trans e2;refine⟨by rw[hp,en,←hn M Z ds has,arW,r2.length],g,M,obj hd::ds,(I1.ex e2).kd,(I1.ex e2).wok,.cons (.obj ha) r2,?_⟩;exact bf.sat.mono h2 (λd M' k v H' g' c kd wk r'=>k v H' g' ((Gr.ex e12).trans c.gr) ((I.ex e12).call c kd wk) r') λx M' k H' g' cc dd c kd wk r'=>k H' g' cc dd ((Gr.ex e12).trans c.gr) ((I.ex e12).call c kd wk) r'
  ·exact atd h
theorem ahI{tb:List (Str×MV)}{as:QA}{k:Nat}(tk:Takes X W)(hr:Room k X.A)(T:Jt X aj k m ((e::es).length+1) tb)(ho:QW aj X W o fo)(ha:GJ aj X W (e::es) as)(hn:∀M Z ds,as M Z=.ok ds->ds.length=(e::es).length)(hb:baseOk o=true)(hs:(e::es).all nst=true)(hl:(apos.endLine==pos.line)=true)(hz:(e::es).length < 30) :
  GE aj X W false (.Call (.Attribute o m apos) (e::es) [] pos) (cU tb fo as):=
 PE.weak (aax tk ho ha hb hs hl hz) λσ H Q h=>aeB hr T (λM Z ds z=>by rw[hn M Z ds z]) (λ_ _ _ z=>z) σ H Q h
theorem afZ{tb:List (Str×MV)}{k:Nat}(tk:Takes X W)(hr:Room k X.A)(T:Jt X aj k m 1 tb)(ho:QW aj X W o fo)(hb:baseOk o=true)(hl:(apos.endLine==pos.line)=true) :
  GE aj X W false (.Call (.Attribute o m apos) [] [] pos) (cU tb fo au):=
 PE.weak (W9 tk ho hb hl) λσ H Q h=>aeB hr T (λM Z ds z=>by cases z;rfl) (λσ H Q ⟨g,Z,M,I,z⟩=>z [] H (Ex.refl H) .nil) σ H Q h
end
def eX(x:Str):SF:=λM Z=>.exc ⟨x,[]⟩ Z M
def CG(x:Str)(fs:List Str)(as:QA):SF:=λM Z=>((as M Z).at M).then Z λds M'=>.exc ⟨x,(fs.zip ds).reverse⟩ Z M'
section
variable{X:Cx}{aj:aR}{W:WX}{q:Bool}{x:Str}{pos p p1:Pos}{k:Nat}
theorem agu(hc:X.calm=true)(tk:Takes X W)(hg:Gl X x)(hd:(x==("__debug__" : Str))=false)(g:bA X.prog X.w X.K X.mg X.base aj k x .exc):SE aj X W q (.Raise (some (.Call (.Name x p) [] [] p1)) none pos) (eX x):=by obtain⟨C,g1,g2,g3,g4,g5,g6⟩:=g;exact PS.weak (ps_raise hc tk (Ear.agk PySem.F.excBase_ValueError g3 g1 g4 (raises_own g5 g6) hg hd)) λD σ H ⟨g,Z,M,I,z⟩=>z σ H g (.ref C) none Gr.refl I ⟨C,g2,rfl,.inl ⟨rfl,rfl⟩⟩
theorem lE.gr{K:arG}{g g':Gh}{H H':Hp}{q:Bool}(r:Gr q g g' H H')(k:Kd g H){fs:List (Str×V)}{gs:List (Str×Dat)}(h:lE K g H fs gs):lE K g' H' fs gs:=by
 induction h with
 |nil=>exact .nil
 |cons z _ ih=>exact .cons (z.gr r k) ih
theorem lE.snoc{K:arG}{g:Gh}{H:Hp}{f:Str}{v:V}{d:Dat}(z:Rep K g H v d){fs:List (Str×V)}{gs:List (Str×Dat)}(h:lE K g H fs gs):lE K g H (fs++[(f,v)]) (gs++[(f,d)]):=by
 induction h with
 |nil=>exact .cons z .nil
 |cons y _ ih=>exact .cons y ih
theorem adP{K:arG}{g:Gh}{H:Hp}:∀{fs:List Str} {vs:List V} {ds:List Dat},aM K g H vs ds->lE K g H (fs.zip vs).reverse (fs.zip ds).reverse
 |[],_,_,_=>.nil
 |_::_,_,_,.nil=>.nil
 |f::fs,_,_,.cons z t=>by
  rw[ash,ash,List.reverse_cons,List.reverse_cons];exact(adP t).snoc z
theorem aec{e:Expr}{es:List Expr}{fs:List Str}{as:QA}(hc:X.calm=true)(tk:Takes X W)(hr:Room k X.A)(hg:Gl X x)(hd:(x==("__debug__" : Str))=false)(g:bA X.prog X.w X.K X.mg X.base aj k x (.exi fs))(ha:GJ aj X W (e::es) as)
  (hs:(e::es).all nst=true) (hn:∀M Z ds,as M Z=.ok ds->ds.length=fs.length) (hz:fs.length<=1000):SE aj X W q (.Raise (some (.Call (.Name x p) (e::es) [] p1)) none pos) (CG x fs as):=by
 obtain⟨C,fI,fd,ps,g1,g2,g3,g4,g5,hk,hp,hB,F⟩:=g;have hs':=hs;rw[asx,arH]at hs';refine PS.weak (ps_raise hc tk (pmk_oex g3 g4 g5 F (hr.mono hk) hB .nil pass0 hg g1 ha hd (cH hs'.1 es) (star_any es hs'.2))) λD σ H ⟨g,Z,M,I,z⟩=>?_;refine⟨g,Z,M,I,?_⟩;unfold CG at z;cases has:as M Z with
 |exc y=>rw[has]at z;exact λH' c dd e r=>z σ H' g c dd (Gr.ex e) (I.ex e) r.fr
 |bad=>rw[has]at z;exact atd z
 |ok ds=>
  rw[has]at z;intro vs H1 e1 r1;have hl:vs.length=fs.length:=by rw[r1.length,hn M Z ds has]
  refine⟨by omega,λa na=>⟨a,vs++[],rfl,by simpa using hl,upd_same,λdx H' nd kp dm ha' hd'=>?_⟩⟩;have ne:dx≠a:=λz=>by
   subst z;rw[upd_same]at nd;cases nd
  rw[upd_ne ne]at nd;refine⟨rfl,dx,_,ha',hd',nd,?_⟩;have kp':∀b o,H1 b=some o->(upd (del H' a) dx (.xd (fs.zip (vs++[])).reverse)) b=some o:=λb o hb=>by
   have nb:b≠a:=λz=>by subst z;rw[na]at hb;cases hb
   have nd':b≠dx:=λz=>by subst z;rw[nd]at hb;cases hb
   rw[upd_ne nd',del_ne nb];exact kp b o nb (by rw[upd_ne nb];exact hb)
  have ex:Ex H1 (upd (del H' a) dx (.xd (fs.zip (vs++[])).reverse)):=λb o hb=>kp' b o hb;have I1:=I.ex e1;refine z σ _ g (.ref C) (some dx) (Gr.ex (e1.trans ex)) (I1.ex ex) ⟨C,g2,rfl,.inr ⟨dx,_,rfl,upd_same,?_⟩⟩;rw[asF];have:=(adP (fs:=fs) r1).gr (Gr.ex (q:=true) ex) I1.kd;rw[asF]at this;exact lE.less (g:=g) (g':=g.fr) rfl (w6 g) this
end
section
variable{P:Program}{w:World}{K:arG}{mg:Str->Option Value}{base:Heap}{C f:Addr}{fd:FuncData}{qual:Str}{st:Stmt}
theorem vis_par{N ps:List Str}{sc:Scope}(S:FnScope N ps sc){y:Str}(h:y∈ps):Vis sc y:=(S.par y h).elim (λz=>.inl z) λz=>.inr (.inl z)
theorem aev{s a1 a2 a3 f1 f2 f3:Str}{p1 p2 p3 p4 p5 p6 p7 p8 p9 p10 p11 p12:Pos}(F:L2.Fun K "__init__" qual st f fd)(S:FnScope [s,a1,a2,a3] [s,a1,a2,a3] (defScope st))(T:OexC K C)
  (hb:defBody st=[.Assign [.Attribute (.Name s p1) f1 p2] (.Name a1 p3) p4,.Assign [.Attribute (.Name s p5) f2 p6] (.Name a2 p7) p8,.Assign [.Attribute (.Name s p9) f3 p10] (.Name a3 p11) p12])
  (dz:∀y∈[s,a1,a2,a3],(y==("__debug__" : Str))=false/\(y==("__classdict__" : Str))=false) (n1:PySem.W.findIn K (.ref C) f1=some none) (n2:PySem.W.findIn K (.ref C) f2=some none) (n3:PySem.W.findIn K (.ref C) f3=some none) :
  FnOk P w K mg base CX0 1 f fd [s,a1,a2,a3] (afY C [f1,f2,f3]):=by
 refine F.ok S (λvs H Q E h=>?_) (λcdv A outer s0 H vs Q E hr h=>?_)
 ·obtain⟨a,xs,rfl,hl,_⟩:=h;simp[hl]
 ·obtain⟨a,xs,rfl,hl,ha,q⟩:=h
  match xs,hl with
  |[x,y,z],_=>
  rw[hb];have v0:=vis_par S (y:=s) (by simp);have v1:=vis_par S (y:=a1) (by simp);have v2:=vis_par S (y:=a2) (by simp);have v3:=vis_par S (y:=a3) (by simp);obtain⟨c0,k0⟩:=dz s (by simp);obtain⟨c1,k1⟩:=dz a1 (by simp);obtain⟨c2,k2⟩:=dz a2 (by simp);obtain⟨c3,k3⟩:=dz a3 (by simp);refine⟨_,pss_cons (ps_ost (pe_var (i:=0) rfl v0 c0 k0) (pe_var (i:=1) rfl v1 c1 k1)) (pss_cons (ps_ost (pe_var (i:=0) rfl v0 c0 k0) (pe_var (i:=2) rfl v2 c2 k2)) (pss_one (ps_ost (pe_var (i:=0) rfl v0 c0 k0) (pe_var (i:=3) rfl v3 c3 k3)))),?_⟩;refine⟨_,rfl,_,rfl,a,C,rfl,T,n1,.inl ⟨ha,λdx nd ne=>?_⟩⟩;refine⟨_,rfl,_,rfl,a,C,rfl,T,n2,.inr ⟨dx,[(f1,x)],upd_same,(by rw[upd_ne ne];exact upd_same),(show 1<=900 by decide),?_⟩⟩;refine⟨_,rfl,_,rfl,a,C,rfl,T,n3,.inr ⟨dx,_,(by rw[upd_ne ne.symm];exact upd_same),upd_same,(show 2<=900 by decide),?_⟩⟩;refine q dx _ nd (λb o hb hB=>?_) (λb hB=>?_) (by rw[upd_ne ne.symm,upd_ne ne.symm];exact upd_same) upd_same
  ·have hbd:b≠dx:=ne_of_none hB nd;rw[upd_ne hbd,upd_ne hbd,upd_ne hb,upd_ne hbd];exact hB
  ·by_cases e:b=dx
   ·rw[e];exact nd
   ·by_cases e2:b=a
    ·subst e2;rw[upd_ne e,upd_ne e,upd_same]at hB;cases hB
    ·rw[upd_ne e,upd_ne e,upd_ne e2,upd_ne e]at hB;exact hB
end
structure Cl where
 c:Value
 nm:Option Nat
 ts:Addr->Value->Option Addr->TS
def anL(D:Ends)(i:Nat):Ends:={ nx:=λτ G=>D.nx (τ.set i none) G,rt:=D.rt,bk:=λτ G=>D.bk (τ.set i none) G,ct:=λτ G=>D.ct (τ.set i none) G }
def Y0(K:arG)(Wo:WX)(D:Ends):List Cl->WX
 |[]=>Wo
 |l::r=>λcls d τ G=>∃b,PySem.W.exmOne K cls l.c=some b/\(b=true->∀a,G a=none->(match l.nm with
   |none=>l.ts a cls d D τ G
   |some i=>l.ts a cls d (anL D i) (τ.set i (some (.ref a))) G))/\(b=false->Y0 K Wo D r cls d τ G)
inductive Cu(X:Cx):List ExceptHandler->List Cl->Prop
 |nil:Cu X [] []
 |one {x:Str} {l:Cl} {s0:Stmt} {su:List Stmt} {np cp:Pos} {hds:List ExceptHandler} {ls:List Cl} (hc:Names X x l.c) (hn:l.nm=none)
   (hsu:∀(a:Addr) (oe:Obj) (cls:Value) (d:Option Addr) (pn:List (Addr×Obj)),Zc cls d oe->(∃vs,oe.data=.fields vs)->PSs (X.suite a ((a,oe)::pn)) (s0::su) (l.ts a cls d)) (r:Cu X hds ls) :
   Cu X (.ExceptHandler (some (.Name x np)) none (s0::su) cp::hds) (l::ls)
 |as {x n:Str} {i:Nat} {l:Cl} {s0:Stmt} {su:List Stmt} {np cp:Pos} {hds:List ExceptHandler} {ls:List Cl} (hc:Names X x l.c) (hn:l.nm=some i) (hi:X.N[i]?=some n) (hl:X.env.kindOf n=some .local)
   (hsu:∀(a:Addr) (oe:Obj) (cls:Value) (d:Option Addr) (pn:List (Addr×Obj)),Zc cls d oe->(∃vs,oe.data=.fields vs)->PSs (X.suite a ((a,oe)::pn)) (s0::su) (l.ts a cls d)) (r:Cu X hds ls) :
   Cu X (.ExceptHandler (some (.Name x np)) (some n) (s0::su) cp::hds) (l::ls)
section
variable{X:Cx}{body:List Stmt}{h0:ExceptHandler}{hds:List ExceptHandler}{ls:List Cl}{pos:Pos}{tb:WX->TS}{Wo:WX}
theorem ahD(hs:X.stack=X.env::X.outer)(hf:X.env.frame=some X.env.locals)(hN:X.N.Nodup)(tk:Takes X Wo)
  (hb:∀(W:WX) (pn:List (Addr×Obj)) (xe:Value->Shared->Prop),Takes (X.tr pn xe) W->PassesOwn (model X.prog X.w) X.A X.env xe->PSs (X.tr pn xe) body (tb W))
  (hh:Cu X (h0::hds) ls):PS X (.Try body (h0::hds) [] [] pos) (λD σ H=>tb (Y0 X.K Wo D ls) D σ H):=by
 constructor;intro pins s σ H D I h;have ok:=I.ok;have frm:X.A.frames=some (X.env::X.outer):=by rw[ok.frames,hs]
 have run:=(hb (Y0 X.K Wo D ls) (X.pn++pins) (λe t₁=>wpAny (model X.prog X.w) X.A (noteFrame e X.env) (λ_ t₂=>wpAny (model X.prog X.w) X.A (setFlight e none) (λ_ t₃=>wpAny (model X.prog X.w) X.A (handleBy e X.env (h0::hds)) (SP X pins D) X.xe t₃) X.xe t₂) X.xe t₁) (λu t xx=>by
  obtain⟨a,B,sI,pins2,τ,G,cls,d,rfl,J2,nb,up,sky,na,os,ag,w⟩:=xx;have J:Inv X pins τ G sI:=J2.ofTry ok;have sky2:Sky B (X.env::X.outer) a (Zc cls d) X.env.locals t.heap:=by rw[←hs];exact sky
  show wpAny (model X.prog X.w) X.A (noteFrame (.ref a) X.env) _ _ _;refine Sky.land Zc.steady frm hf sky2 ?_;intro h3 fl3 up3;have J3:Inv X pins τ G { t with heap:=h3 }:=J.landed nb fl3.1 (up.trans up3) os ag;obtain⟨oe3,vs3,he3,hz3,hd3⟩:=fl3.there;have notF:a∉frs (X.env::X.outer):=λhm=>by
   obtain⟨_,o,eo,hnf⟩:=Heap.FunFrames.mem fl3.2.2.1 hm;rw[he3]at eo;cases eo;exact hnf _ hd3
  have nL:a≠X.env.locals:=λz=>notF (List.mem_filterMap.mpr ⟨X.env,arM,(by rw[hf,z])⟩);have nF:a∉X.fs:=λhm=>by
   obtain⟨e,he,q⟩:=List.mem_filterMap.mp hm;exact notF (List.mem_filterMap.mpr ⟨e,arL _ he,q⟩)
  have S3:=J3.suite he3 hd3 na nL nF;have look:PySem.W.Looks (model X.prog X.w) h3 (typeOf (.ref a)) cls:=λA Q E s k q=>wpAny_typeOf_ref (k _ _ he3) (by rw[hz3.1];exact q);have named:∀{x:Str} {c:Value} {np:Pos} {Q:Value->Shared->Prop} {E:Value->Shared->Prop},Names X x c->Q c { t with heap:=h3 }->wpAny (model X.prog X.w) (X.A.mark (some (.ref a))) (eval (.Name x np) X.env) Q E { t with heap:=h3 }:=by
   intro x c np Q E hc q;obtain⟨hg,hdb,hm⟩:=hc;rcases hm with hm|⟨hm,hv,hnn⟩
   ·exact ld_glob (X:=X.suite a ((a,oe3)::(X.pn++pins))) S3 hg hm q hdb
   ·exact ld_blt (X:=X.suite a ((a,oe3)::(X.pn++pins))) S3 hg hm hv q hnn hdb
  have all:∀{hds2:List ExceptHandler} {ls2:List Cl},Cu X hds2 ls2->Y0 X.K Wo D ls2 cls d τ G->wpAny (model X.prog X.w) X.A (handleBy (.ref a) X.env hds2) (SP X pins D) X.xe { t with heap:=h3 }:=by
   intro hds2 ls2 hk
   induction hk with
   |nil=>
    intro w;refine wpAny_handleBy_nil ?_;obtain⟨k1,k2,k3,oe,vs,T,oT,ts2,he,hz,hd,h1,hr⟩:=id fl3;unfold PySem.passOn;refine wpAny_bind (wpAny_field he hd h1 ?_);have nT:¬((Value.ref T==Value.none)=true):=by simp
    rw[if_neg nT];have fin:wpAny (model X.prog X.w) X.A (setFlight (.ref a) X.env.frame) (λ_ s4=>wpAny (model X.prog X.w) X.A (throw (.ref a):Sem Flow) (SP X pins D) X.xe s4) X.xe { t with heap:=h3 }:=by rw[hf];refine HandSPX.setFlight_upZ fl3 ?_;intro h4 hh4 up4;refine wpAny_throw (tk _ _ ?_);exact⟨a,B,sI,pins,τ,G,cls,d,rfl,J,nb,(up.trans up3).trans up4,.inr (.inr (by rw[hs];exact hh4)),na,os,ag,w⟩
    first
     |exact wpAny_bind (wpAny_pure (wpAny_bind fin))
     |exact wpAny_bind fin
   | @one x l s0 su np cp hds3 ls3 hc hn hsu r ih=>
    intro w;obtain⟨b,hb1,yes,no⟩:=w;rw[hn]at yes;have LM:=PySem.W.exm_one (M:=model X.prog X.w) J3.kIn look hb1;refine wpAny_handleBy_cons (codeAny_handlers_test ?_) (by intro q;cases q);refine named hc (LM.here ?_);cases b with
    |false=>exact ih (no rfl)
    |true=>
     refine codeAny_handlers_suite ?_;refine HandSPX.lands_againZ fl3 ?_;intro h4 fl4 up4;have J4:Inv X pins τ G { t with heap:=h4 }:=J.landed nb fl4.1 ((up.trans up3).trans up4) os ag;obtain⟨oe4,vs4,he4,hz4,hd4⟩:=fl4.there;have S4:=J4.suite he4 hd4 na nL nF;refine wpAny_mono ((hsu a oe4 cls d (X.pn++pins) hz4 ⟨_,hd4⟩).run [] _ _ G _ S4 (yes rfl a na)) ?_ (λ_ _ z=>atd z);intro f s6 sp6;cases f with
     |ret u=>
      obtain⟨v6,τ6,G6,S6,r6,q6⟩:=sp6;exact⟨_,_,_,S6.unsuite ok,r6,q6⟩
     |next=>
      obtain⟨τ6,G6,S6,q6⟩:=sp6;exact⟨_,_,S6.unsuite ok,q6⟩
     |brk=>
      obtain⟨τ6,G6,S6,q6⟩:=sp6;exact⟨_,_,S6.unsuite ok,q6⟩
     |cont=>
      obtain⟨τ6,G6,S6,q6⟩:=sp6;exact⟨_,_,S6.unsuite ok,q6⟩
   | @as x n i l s0 su np cp hds3 ls3 hc hn hi hl hsu r ih=>
    intro w;obtain⟨b,hb1,yes,no⟩:=w;rw[hn]at yes;have LM:=PySem.W.exm_one (M:=model X.prog X.w) J3.kIn look hb1;refine wpAny_handleBy_cons (codeAny_handlers_test ?_) (by intro q;cases q);refine named hc (LM.here ?_);cases b with
    |false=>exact ih (no rfl)
    |true=>
     refine codeAny_handlers_suite_as ?_;refine HandSPX.lands_againZ fl3 ?_;intro h4 fl4 up4;have J4:Inv X pins τ G { t with heap:=h4 }:=J.landed nb fl4.1 ((up.trans up3).trans up4) os ag;obtain⟨oe4,vs4,he4,hz4,hd4⟩:=fl4.there;have S4:=J4.suite he4 hd4 na nL nF;refine store_ok (X:=X.suite a ((a,oe4)::(X.pn++pins))) (v:=.ref a) S4 hN hi (.inl hl) rfl ?_ (.inr hl);intro s5 S5;refine wpAny_mono ((hsu a oe4 cls d (X.pn++pins) hz4 ⟨_,hd4⟩).run [] s5 _ G _ S5 (yes rfl a na)) ?_ (λ_ _ z=>atd z);intro f s6 sp6;have bye:∀{τ6:L2.St} {G6:Hp} {Q:Shared->Prop},Inv (X.suite a ((a,oe4)::(X.pn++pins))) [] τ6 G6 s6->(∀s7,Inv X pins (τ6.set i none) G6 s7->Q s7)->
       wpAny (model X.prog X.w) X.A (do bindName X.env n .none;unbindBehindTheSuite X.env n cp) (λ_ s7=>Q s7) X.xe s6:=λS6 hq=>gone_ok (S6.unsuite ok) hN hi hl hq
     cases f with
     |ret u=>
      obtain⟨v6,τ6,G6,S6,r6,q6⟩:=sp6;exact bye S6 λs7 J7=>⟨_,_,_,J7,r6,q6⟩
     |next=>
      obtain⟨τ6,G6,S6,q6⟩:=sp6;exact bye S6 λs7 J7=>⟨_,_,J7,q6⟩
     |brk=>
      obtain⟨τ6,G6,S6,q6⟩:=sp6;exact bye S6 λs7 J7=>⟨_,_,J7,q6⟩
     |cont=>
      obtain⟨τ6,G6,S6,q6⟩:=sp6;exact bye S6 λs7 J7=>⟨_,_,J7,q6⟩
  exact all hh w) PassesOwn.looking).run [] s σ H D (I.toTry _) h
 refine wpAny_Try_except (wpAny_mono run ?_ (λ_ _ z=>z));intro f s1 sp1;cases f with
 |ret u=>
  obtain⟨v,τ,G,J2,r,q⟩:=sp1;exact⟨v,τ,G,J2.ofTry ok,r,q⟩
 |next=>
  obtain⟨τ,G,J2,q⟩:=sp1;exact wpAny_execs_nil ⟨τ,G,J2.ofTry ok,q⟩
 |brk=>
  obtain⟨τ,G,J2,q⟩:=sp1;exact⟨τ,G,J2.ofTry ok,q⟩
 |cont=>
  obtain⟨τ,G,J2,q⟩:=sp1;exact⟨τ,G,J2.ofTry ok,q⟩
end
inductive Fb where
 |con (d:Dat)|fld (f:Str)|flds (fs:List Str)
def Z6(y:Str)(x:dR)(f:Str):Option Dat:=match x.cls==y with
 |true=>(x.fs.lookup f).bind λd=>match lf d with
  |true=>some d
  |false=>none
 |false=>none
def RB(y:Str)(x:dR):List Str->Option (List Dat)
 |[]=>some []
 |f::fs=>(Z6 y x f).bind λd=>(RB y x fs).bind λds=>some (d::ds)
def aad(y:Str)(x:dR):Fb->Option Dat
 |.con d=>some d
 |.fld f=>Z6 y x f
 |.flds fs=>(RB y x fs).bind λds=>some (.tuple ds)
def Eh(y:Str)(x:dR):List (Nat×Fb)->Env->Option Env
 |[],Z=>some Z
 |(j,e)::r,Z=>(aad y x e).bind λd=>Eh y x r (Z.set j (some (.dat d)))
structure Hd where
 y:Str
 tk:Str->Option Bool
 nm:Option Nat
 st:List (Nat×Fb)
def Ut(Z:Env):Option Nat->Env
 |none=>Z
 |some i=>Z.set i none
def acF(Z:Env):Option Nat->Bool
 |none=>true
 |some i=>decide (i < Z.length)
def hdl:List Hd->dR->Env->Mo->vq
 |[],x,Z,M=>.exc x Z M
 |h::r,x,Z,M=>match h.tk x.cls with
  |some true=>match acF Z h.nm with
   |true=>match Eh h.y x h.st (Ut Z h.nm) with
    |some Z2=>.next (Ut Z2 h.nm) M
    |none=>.bad
   |false=>.bad
  |some false=>hdl r x Z M
  |none=>.bad
def YW(f:SF)(hs:List Hd):SF:=λM Z=>match f M Z with
 |.exc x Z' M'=>hdl hs x Z' M'
 |o=>o
structure XIn(K:arG)(aj:aR)(σ:L2.St)(H:Hp)(g:Gh)(Z:Env)(M:Mo)(x:dR)(a:Addr)(cls:Value)(d:Option Addr)(i:Option Nat):Prop where
 inv:SInv K aj σ H g Z M
 xr:rB K aj g.fr H x cls d
 sl:∀j,i=some j->σ[j]?=some (some (.ref a))
section
variable(K:arG)(aj:aR)(a:Addr)(cls:Value)(d:Option Addr)(i:Option Nat)
def tU(f:dR->Option Dat):TE:=λσ H Q=>∃g Z M x z,XIn K aj σ H g Z M x a cls d i/\f x=some z/\∀v H',Ex H H'->Rep K g H' v z->Q v H'
def tUA(f:dR->Option (List Dat)):TA:=λσ H Q=>∃g Z M x z,XIn K aj σ H g Z M x a cls d i/\f x=some z/\∀v H',Ex H H'->aM K g H' v z->Q v H'
def tSu(y:Str)(st:List (Nat×Fb)):TS:=λD σ H=>∃g Z M x Z2,XIn K aj σ H g Z M x a cls d i/\Eh y x st Z=some Z2/\(∀p∈st,i≠some p.1)/\∀σ' H',Ex H H'->SInv K aj σ' H' g Z2 M->D.nx σ' H'
end
section
variable{K:arG}{aj:aR}{a:Addr}{cls:Value}{d:Option Addr}{i:Option Nat}{σ:L2.St}{H H':Hp}{g:Gh}{Z:Env}{M:Mo}{x:dR}
theorem lE.ex{fs:List (Str×V)}{gs:List (Str×Dat)}(e:Ex H H')(k:Kd g H)(h:lE K g H fs gs):lE K g H' fs gs:=h.gr (Gr.ex (q:=true) e) k
theorem rB.ex{c:Value}{dd:Option Addr}(e:Ex H H')(k:Kd g H)(h:rB K aj g H x c dd):rB K aj g H' x c dd:=by obtain⟨C,h1,h2,h3⟩:=h;exact⟨C,h1,h2,h3.imp id λ⟨b,fs,e1,e2,e3⟩=>⟨b,fs,e1,e _ _ e2,e3.ex e k⟩⟩
theorem XIn.ex(e:Ex H H')(h:XIn K aj σ H g Z M x a cls d i):XIn K aj σ H' g Z M x a cls d i:=⟨h.inv.ex e,h.xr.ex e h.inv.kd.fr,h.sl⟩
theorem lE.get{f:Str}{z:Dat}{fs:List (Str×V)}{gs:List (Str×Dat)}(h:lE K g H fs gs)(e:gs.lookup f=some z):∃v,fs.lookup f=some v/\Rep K g H v z:=by
 induction h with
 |nil=>cases e
 | @cons f' v d' _ _ r _ ih=>
  rw[asj]at e;rw[asj];cases hb:f==f' with
  |true=>
   rw[hb]at e;cases e;exact⟨v,rfl,r⟩
  |false=>
   rw[hb]at e;exact ih e
end
section
variable{X:Cx}{aj:aR}{a C:Addr}{oe:Obj}{cls:Value}{d:Option Addr}{pn:List (Addr×Obj)}{y n:Str}{pos p:Pos}{j:Nat}
theorem adp{e:Expr}{z:Dat}{i:Option Nat}{t:TE}(h:PE (X.suite a ((a,oe)::pn)) e t)(ht:∀σ H Q,tU X.K aj a cls d i (λ_=>some z) σ H Q->t σ H Q):PE (X.suite a ((a,oe)::pn)) e (tU X.K aj a cls d i λ_=>some z):=PE.weak h ht
theorem aek{f:Str}(hC:aj y=some C)(T:XfC X.K C)(hno:PySem.W.findIn X.K (.ref C) f=some none)(hz:Zc cls d oe)(hf:∃vs,oe.data=.fields vs)(hN:X.N[j]?=some n)(hv:Vis X.env.scope n)(hd:(n==("__debug__" : Str))=false)(hcd:(n==("__classdict__" : Str))=false) :
  PE (X.suite a ((a,oe)::pn)) (.Attribute (.Name n p) f pos) (tU X.K aj a cls d (some j) λx=>Z6 y x f):=by
 refine PE.weak (pe_xf T hno hz hf (pe_var (i:=j) (X:=X.suite a ((a,oe)::pn)) hN hv hd hcd)) λσ H Q ⟨g,Z,M,x,z,I,e,k⟩=>?_;have e:Z6 y x f=some z:=e;unfold Z6 at e;split at e
 ·next ey=>
  obtain⟨z',l,e⟩:=arF.mp e;split at e
  ·next hl=>
   cases e;obtain⟨C',c1,c2,c3⟩:=I.xr;rw[eq_of_beq ey,hC]at c1;cases c1;rcases c3 with⟨c3,_⟩|⟨b,fs,c3,c4,c5⟩
   ·rw[c3]at l;cases l
   ·obtain⟨v,l1,l2⟩:=c5.get l;exact⟨.ref a,I.sl j rfl,rfl,c2,b,fs,v,c3,c4,l1,k v H (Ex.refl H) (Rep.free (g:=g.fr) (g':=g) rfl hl l2)⟩
  ·cases e
 ·cases e
theorem aew{i:Option Nat}:PA (X.suite a ((a,oe)::pn)) [] (tUA X.K aj a cls d i λ_=>some []):=PA.weak pa_nil λσ H Q ⟨g,Z,M,x,z,I,e,k⟩=>by
 cases e;exact k [] H (Ex.refl H) .nil
theorem ahu{e:Expr}{es:List Expr}{i:Option Nat}{f:dR->Option Dat}{fr:dR->Option (List Dat)}(h:PE (X.suite a ((a,oe)::pn)) e (tU X.K aj a cls d i f))(hr:PA (X.suite a ((a,oe)::pn)) es (tUA X.K aj a cls d i fr))(hs:nst e=true) :
  PA (X.suite a ((a,oe)::pn)) (e::es) (tUA X.K aj a cls d i λx=>(f x).bind λz=>(fr x).bind λzs=>some (z::zs)):=by
 refine PA.weak (pa_cons h hr (cH hs es)) λσ H Q ⟨g,Z,M,x,z,I,e,k⟩=>?_;obtain⟨z1,e1,e⟩:=arF.mp e;obtain⟨z2,e2,e⟩:=arF.mp e;cases e;exact⟨g,Z,M,x,z1,I,e1,λv H1 x1 r1=>⟨g,Z,M,x,z2,I.ex x1,e2,λvs H2 x2 r2=>k (v::vs) H2 (x1.trans x2) (.cons (r1.ex x2 (I.ex x1).inv.kd) r2)⟩⟩
theorem adf{es:List Expr}{kk:Nat}{i:Option Nat}{fr:dR->Option (List Dat)}(hr:PA (X.suite a ((a,oe)::pn)) es (tUA X.K aj a cls d i fr))(hn:∀x zs,fr x=some zs->zs.length<=100000):PE (X.suite a ((a,oe)::pn)) (.Tuple es kk pos) (tU X.K aj a cls d i λx=>(fr x).bind λzs=>some (.tuple zs)):=by refine PE.weak (pe_tup hr) λσ H Q ⟨g,Z,M,x,z,I,e,k⟩=>?_;obtain⟨zs,e1,e⟩:=arF.mp e;cases e;refine⟨g,Z,M,x,zs,I,e1,λvs H1 x1 r1=>⟨sz_of (by rw[r1.length];exact hn x zs e1),λp np=>?_⟩⟩;exact k (.ref p) _ (x1.trans (Ex.new np)) (.tup (st_of upd_same) (r1.ex (Ex.new np) (I.ex x1).inv.kd))
theorem Wf{x:dR}:∀{fs:List Str} {zs:List Dat},RB y x fs=some zs->zs.length=fs.length
 |[],zs,h=>by cases h;rfl
 |f::fs,zs,h=>by
  rw[RB]at h;obtain⟨z1,e1,h⟩:=arF.mp h;obtain⟨z2,e2,h⟩:=arF.mp h;cases h;simp[Wf e2]
theorem alN{i:Option Nat}{se:Fb}{st:List (Nat×Fb)}{D D':Ends}{σ:L2.St}{H:Hp}(h:tSu X.K aj a cls d i y ((j,se)::st) D σ H)(nx:∀σ' H',tSu X.K aj a cls d i y st D σ' H'->D'.nx σ' H') :
  tAsg (tU X.K aj a cls d i λx=>aad y x se) (gName j) D' σ H:=by
 obtain⟨g,Z,M,x,Z2,I,e,nj,k⟩:=h;rw[Eh]at e;obtain⟨z,e1,e⟩:=arF.mp e;refine⟨g,Z,M,x,z,I,e1,λv H' x1 r1=>nx _ _ ⟨g,Z.set j (some (.dat z)),M,x,Z2,⟨(I.ex x1).inv.set r1,(I.ex x1).xr,λjj hj=>?_⟩,e,λp hp=>nj p (arL _ hp),λσ' H2 x2 I2=>k σ' H2 (x1.trans x2) I2⟩⟩;have ne:j≠jj:=λz=>nj (j,se) arM (by rw[hj,z]);rw[arP ne];exact I.sl jj hj
theorem alu{i:Option Nat}{D:Ends}{σ:L2.St}{H:Hp}(h:tSu X.K aj a cls d i y [] D σ H):D.nx σ H:=by obtain⟨g,Z,M,x,Z2,I,e,nj,k⟩:=h;cases e;exact k σ H (Ex.refl H) I.inv
end
def an4(K:arG)(aj:aR)(h:Hd)(l:Cl):Prop:=(∃D,aj h.y=some D/\l.c=.ref D)/\ach K aj h.y h.tk/\l.nm=h.nm/\(l.ts=λa cls d=>tSu K aj a cls d h.nm h.y h.st)/\∀p∈h.st,h.nm≠some p.1
inductive Hg(K:arG)(aj:aR):List Hd->List Cl->Prop
 |nil:Hg K aj [] []
 |cons {h:Hd} {l:Cl} {hs:List Hd} {ls:List Cl} (o:an4 K aj h l) (r:Hg K aj hs ls):Hg K aj (h::hs) (l::ls)
theorem SInv.off{K:arG}{aj:aR}{σ:L2.St}{H:Hp}{g:Gh}{Z:Env}{M:Mo}(I:SInv K aj σ H g Z M)(i:Nat)(v:Option V):SInv K aj (σ.set i v) H g (Z.set i none) M:=by
 have I2:=I.forget (j:=i);refine⟨I2.kd,I2.wok,by rw[ase,ase];exact I.len,λj d h=>?_,λj xs h=>?_,λj k xs ys l ne h1 h2 h3=>?_⟩
 ·by_cases e:j=i
  ·subst e;rw[asM]at h;split at h<;>first | (split at h<;>cases h) | (exact absurd rfl ‹¬_›)
  ·obtain⟨v',a1,a2⟩:=I2.dat j d h;rw[arP (Ne.symm e)]at a1;exact⟨v',by rw[arP (Ne.symm e)];exact a1,a2⟩
 ·by_cases e:j=i
  ·subst e;rw[asM]at h;split at h<;>first | (split at h<;>cases h) | (exact absurd rfl ‹¬_›)
  ·obtain⟨l,us,a1,a2⟩:=I2.own j xs h;rw[arP (Ne.symm e)]at a1;exact⟨l,us,by rw[arP (Ne.symm e)];exact a1,a2⟩
 ·have n1:j≠i:=λz=>by
   subst z;rw[asM]at h1;split at h1<;>first | (split at h1<;>cases h1) | (exact absurd rfl ‹¬_›)
  have n2:k≠i:=λz=>by
   subst z;rw[asM]at h2;split at h2<;>first | (split at h2<;>cases h2) | (exact absurd rfl ‹¬_›)
  rw[arP (Ne.symm n1)]at h1 h3;rw[arP (Ne.symm n2)]at h2 ⊢;exact I.sep j k xs ys l ne h1 h2 h3
section
variable{X:Cx}{aj:aR}{W:WX}{q:Bool}{body:List Stmt}{h0:ExceptHandler}{hds:List ExceptHandler}{hs:List Hd}{ls:List Cl}{pos:Pos}{f:SF}
theorem ako{D:Ends}{g g':Gh}{H H':Hp}{σ':L2.St}{Z':Env}{M':Mo}{x:dR}{c:Value}{dd:Option Addr}(ha:Hg X.K aj hs ls)(r:Gr q g g' H H')(I:SInv X.K aj σ' H' g' Z' M')(xr:rB X.K aj g'.fr H' x c dd)
  (z:(hdl hs x Z' M').sat (sN X.K aj q D.nx g H) (sR X.K aj q D.rt g H) (sN X.K aj q D.bk g H) (sN X.K aj q D.ct g H) (sX X.K aj W q g H)):Y0 X.K W D ls c dd σ' H':=by
 induction ha with
 |nil=>exact z σ' H' g' c dd r I xr
 | @cons h l hs ls o _ ih=>
  obtain⟨⟨D0,o1,o2⟩,o3,o4,o5,o6⟩:=o;rw[hdl]at z;obtain⟨C,c1,c2,c3⟩:=id xr;split at z
  ·next ht=>
   refine⟨true,by rw[c2,o2];exact o3 _ _ _ ht c1 _ o1,λ_ a na=>?_,λy=>nomatch y⟩;rw[o4,o5];split at z
   ·next hm=>
    split at z
    ·next Z2 hr=>
     cases hnm:h.nm with
     |none=>
      rw[hnm]at hr z o6;exact⟨g',Z',M',x,Z2,⟨I,xr,λj hj=>nomatch hj⟩,hr,o6,λσ2 H2 e2 I2=>z σ2 H2 g' (r.trans (Gr.ex e2)) I2⟩
     |some i=>
      rw[hnm]at hr z o6 hm;refine⟨g',Z'.set i none,M',x,Z2,⟨I.off i _,xr,λj hj=>?_⟩,hr,o6,λσ2 H2 e2 I2=>z _ H2 g' (r.trans (Gr.ex e2)) (I2.off i none)⟩;cases hj;have hl:i < Z'.length:=atf hm;rw[arZ (by rw[I.len];exact hl)]
    ·exact atd z
   ·exact atd z
  ·next ht=>exact⟨false,by rw[c2,o2];exact o3 _ _ _ ht c1 _ o1,(λy=>nomatch y),λ_=>ih z⟩
  ·exact atd z
theorem alH(st:X.stack=X.env::X.outer)(hf:X.env.frame=some X.env.locals)(hN:X.N.Nodup)(tk:Takes X W)
  (hb:∀(W':WX) (pn:List (Addr×Obj)) (xe:Value->Shared->Prop),Takes (X.tr pn xe) W'->PassesOwn (model X.prog X.w) X.A X.env xe->Kc aj (X.tr pn xe) W' q body f)
  (hh:Cu X (h0::hds) ls) (ha:Hg X.K aj hs ls):SE aj X W q (.Try body (h0::hds) [] [] pos) (YW f hs):=by
 refine PS.weak (ahD (tb:=λW'=>tS X.K aj W' q f) st hf hN tk (λW' pn xe t p=>hb W' pn xe t p) hh) λD σ H ⟨g,Z,M,I,z⟩=>?_;refine⟨g,Z,M,I,?_⟩;unfold YW at z;cases hfm:f M Z with
 |next Z' M'=>rw[hfm]at z;exact z
 |ret d M'=>rw[hfm]at z;exact z
 |brk Z' M'=>rw[hfm]at z;exact z
 |cont Z' M'=>rw[hfm]at z;exact z
 |bad=>rw[hfm]at z;exact z
 |exc x Z' M'=>
  rw[hfm]at z;exact λσ' H' g' c dd r I' xr=>ako ha r I' xr z
end
section
variable{K:arG}{aj:aR}{W:WX}{g g':Gh}{H H':Hp}{σ:L2.St}{Z:Env}{M:Mo}
theorem jH.grow{l:Addr}(r:Gr false g g' H H')(e:Ex H H')(k:Kd g H):∀{n:Bool} {kvs:List (Dat×Dat)},jH K aj g H l n kvs->jH K aj g' H' l n kvs
 |false,_,⟨kv,h1,h2,h3⟩=>⟨kv,e _ _ h1,h2,h3.gr r k⟩
 |true,_,⟨o,xs,vs,h1,h2,h3,h4,h5,h6⟩=>⟨o,xs,vs,e _ _ h1,h2,h3,h4.gr r k,h5,h6.gr r k⟩
theorem dZ.grow{h:Nat}{f:Str}{v:V}(r:Gr false g g' H H')(e:Ex H H')(o:g'.ow=g.ow)(k:Kd g H):∀{fl:jm},dZ K aj g H h f v fl->dZ K aj g' H' h f v fl
 |.dat _,z=>Rep.gr r k z
 |.lst _ _,⟨l,us,h1,h2,h3,h4,h5⟩=>⟨l,us,h1,e _ _ h2,by rw[o];exact h3,h4.gr r k,r.tb h5⟩
 |.dic _ _,⟨l,h1,h2,h3⟩=>⟨l,h1,by rw[o];exact h2,h3.grow r e k⟩
theorem cQ.grow{h:Nat}(r:Gr false g g' H H')(e:Ex H H')(o:g'.ow=g.ow)(k:Kd g H){fs:List (Str×V)}{gs:List (Str×jm)}(t:cQ K aj g H h fs gs):cQ K aj g' H' h fs gs:=by
 induction t with
 |nil=>exact .nil
 |cons z _ ih=>exact .cons (z.grow r e o k) ih
def Gh.push(g:Gh)(x:Addr):Gh:={ g with tbl:=g.tbl++[x] }
theorem Zi{x a:Addr}(z:(g.push x).A a):g.A a∨a=x:=by
 rcases z with(z|z)|z|z
 ·rcases arR.mp z with z|z
  ·exact .inl (.inl (.inl z))
  ·exact .inr (arO.mp z)
 ·exact .inl (.inl (.inr z))
 ·exact .inl (.inr (.inl z))
 ·exact .inl (.inr (.inr z))
theorem Zo{x a:Addr}(z:(g.push x).W a):g.W a∨a=x:=by
 rcases z with z|z
 ·rcases arR.mp z with z|z
  ·exact .inl (.inl z)
  ·exact .inr (arO.mp z)
 ·exact .inl (.inr z)
theorem VH{x:Addr}(e:Ex H H')(nx:H x=none):Gr false g (g.push x) H H' where
 keep:=λa o h _ _=>e a o h
 keepW:=λz=>nomatch z
 dom:=yM e
 tbl:=⟨[x],rfl⟩
 W:=λa z=>z.elim (λz=>.inl (asv _ z)) .inr
 nW:=λa z=>(Zo z).imp id λz=>by rw[z];exact nx
 qg:=λz=>nomatch z
 Lc:=rfl
 Lo:=λ_ z=>z
 nLo:=λ_ z=>.inl z
theorem abm{x:Addr}{o:HO}(k:Kd g H)(e:Ex H H')(nx:H x=none)(hx:H' x=some o)(m:Ju o):Kd (g.push x) H' where
 ob:=λa z=>by
  rcases Zi z with z|rfl
  ·obtain⟨u,h1,h2⟩:=k.ob a z;exact⟨u,e _ _ h1,h2⟩
  ·exact⟨o,hx,m⟩
 lo:=λa z y=>by
  rcases Zo y with y|rfl
  ·exact k.lo a z y
  ·obtain⟨u,h1,_⟩:=k.ob a (.inr (.inr z));rw[nx]at h1;cases h1
 lc:=λa z=>by
  refine⟨λy=>?_,(k.lc a z).2⟩;rcases Zo y with y|rfl
  ·exact(k.lc a z).1 y
  ·obtain⟨u,h1,_⟩:=k.ob a (.inr (.inl z));rw[nx]at h1;cases h1
theorem Zy{x:Addr}{c:Str}(k:Kd g H)(w:gD K aj g H M)(e:Ex H H')(nx:H x=none)(hx:c=""∨∃C dx,aj c=some C/\H' x=some (.ins C dx [])):gD K aj (g.push x) H' (M++[⟨c,[]⟩]):=by
 have gt:∀{h:Nat} {a:Addr},(g.push x).tbl[h]?=some a->(g.tbl[h]?=some a)∨(h=M.length/\a=x):=λ{h a} z=>by
  have z:(g.tbl++[x])[h]?=some a:=z;by_cases hl:h < g.tbl.length
  ·rw[arS hl]at z;exact .inl z
  ·rw[ar0 (by omega)]at z;have:=(arJ.mp z).1;simp at this;have e0:h - g.tbl.length=0:=by omega
   rw[e0]at z;cases z;exact .inr ⟨by rw[←w.len];omega,rfl⟩
 have nin:∀{h:Nat},¬g.tbl[h]?=some x:=λ{h} z=>by
  obtain⟨u,h1,_⟩:=k.ob x (.inl (.inl (arN z)));rw[nx]at h1;cases h1
 have ex:∀{h:Nat} {i:Inst},(M++[(⟨c,[]⟩:Inst)])[h]?=some i->M[h]?=some i∨i=⟨c,[]⟩:=λ{h i} h1=>by
  by_cases hl:h < M.length
  ·rw[arS hl]at h1;exact .inl h1
  ·rw[ar0 (by omega)]at h1;exact .inr (arO.mp (arN h1))
 refine⟨by show(g.tbl++[x]).length=_;simp[w.len],λh j a h1 h2=>?_,λh a i h1 h2 hcn=>?_,λh i h1=>?_,λh i h1=>?_,λh a i h1 h2 hcn=>?_,λh i h1 hcn=>?_,w.nc⟩
 ·rcases gt h1 with z1|⟨z1,rfl⟩
  ·rcases gt h2 with z2|⟨z2,rfl⟩
   ·exact w.inj h j a z1 z2
   ·exact absurd z1 nin
  ·rcases gt h2 with z2|⟨z2,_⟩
   ·exact absurd z2 nin
   ·omega
 ·rcases gt h1 with z1|⟨rfl,rfl⟩
  ·have hl:h < M.length:=by rw[←w.len];exact(arJ.mp z1).1
   rw[arS hl]at h2;obtain⟨C',dx',fs,c1,c2,c3⟩:=w.ins h a i z1 h2 hcn;exact⟨C',dx',fs,c1,e _ _ c2,c3.grow (VH e nx) e rfl k⟩
  ·rw[ar0 (ar9 _),Nat.sub_self]at h2;cases h2;rcases hx with rfl|⟨C,dx,hc,hx⟩
   ·exact absurd rfl hcn
   ·exact⟨C,dx,[],hc,hx,.nil⟩
 ·rcases ex h1 with h1|rfl
  ·exact w.nd h i h1
  ·exact List.nodup_nil
 ·rcases ex h1 with h1|rfl
  ·exact w.fd h i h1
  ·exact λf hf=>absurd hf asp
 ·rcases gt h1 with z1|⟨_,rfl⟩
  ·have hl:h < M.length:=by rw[←w.len];exact(arJ.mp z1).1
   rw[arS hl]at h2;exact w.tw h a i z1 h2 hcn
  ·cases hz:g.ow a with
   |none=>exact hz
   |some p=>
    obtain⟨u,h2,_⟩:=k.ob a (.inl (.inr (by rw[hz];exact λy=>nomatch y)));rw[nx]at h2;cases h2
 ·rcases ex h1 with h1|rfl
  ·exact w.dm h i h1 hcn
  ·rfl
theorem SInv.grow{M':Mo}(r:Gr false g g' H H')(e:Ex H H')(lo:g'.Lo=g.Lo)(k':Kd g' H')(w':gD K aj g' H' M')(I:SInv K aj σ H g Z M):SInv K aj σ H' g' Z M' where
 kd:=k'
 wok:=w'
 len:=I.len
 dat:=λi d h=>by
  obtain⟨v,h1,h2⟩:=I.dat i d h;exact⟨v,h1,h2.gr r I.kd⟩
 own:=λi xs h=>by
  obtain⟨l,us,h1,h2,h3,h4⟩:=I.own i xs h;exact⟨l,us,h1,e _ _ h2,by rw[lo];exact h3,h4.gr r I.kd⟩
 sep:=I.sep
end
theorem acr{P:Program}{w:World}{K:arG}{mg:Str->Option Value}{base:Heap}{k:Nat}{f:Addr}{fd:FuncData}{ps:List Str}{sp:Sp}(F:FnOk P w K mg base (L2.CX P w) k f fd ps sp):FnOk P w K mg base L2.CX0 k f fd ps λvs H Q _=>sp vs H Q λ_ _ _=>False:=
 ⟨λvs H Q E h=>F.len vs H Q _ h,λA outer s H args us vs Q E hr he hb hv h=>codeAny_mono (F.run A outer s H args us vs Q _ hr he hb hv h) λr s' z=>by
  unfold CR at z ⊢;split at z
  ·exact z
  ·exact z
  ·obtain⟨a,B,H',cls,d,_,_,_,_,_,_,_,y⟩:=z;exact atd y⟩
def BW(x:Str)(m:Mo->List Dat->bf Dat)(as:QA):GF:=λM Z=>((as M Z).at M).bind λds _=>match m (M++[⟨x,[]⟩]) (obj M.length::ds) with
 |.ok .none M'=>.ok (obj M.length) M'
 |_=>.bad
section
variable{X:Cx}{aj:aR}{W:WX}{x:Str}{pos p:Pos}{k n:Nat}{m:Mo->List Dat->bf Dat}{as:QA}{t:TA}{e:Expr}{es:List Expr}
theorem aep{C f:Addr}{fd:FuncData}{ps:List Str}(hc:aj x=some C)(hp:ps.length=n+1)(hn:∀M Z ds,as M Z=.ok ds->ds.length=n)(ht:∀σ H Q,OJ X.K aj W as σ H Q->t σ H Q)(σ:L2.St)(H:Hp)(Q:VK)(h:tE X.K aj W false (BW x m as) σ H Q) :
  tMake C (λvs H Q _=>Ko X.K aj ps.length m vs H Q λ_ _ _=>False) [] (λ_ _ _=>False) t σ H Q:=by
 obtain⟨g,Z,M,I,h⟩:=h;unfold BW at h;have h:=h.bnd;refine ht σ H _ ⟨g,Z,M,I,?_⟩;cases has:as M Z with
 |exc x=>rw[has]at h;exact λH' c dd e r=>h H' g c dd (Gr.ex e) (I.ex e) r
 |bad=>rw[has]at h;exact atd h
 |ok ds=>
  rw[has]at h;intro vs H1 e1 r1 y dx ny ndx ne;have I1:=I.ex e1;have e2:Ex H1 (upd (upd H1 dx (.own y)) y (.ins C dx [])):=by refine(Ex.new ndx).trans (Ex.new ?_);rw[upd_ne ne.symm];exact ny
  have hy:upd (upd H1 dx (.own y)) y (.ins C dx []) y=some (.ins C dx []):=upd_same;have gr:=VH (g:=g) e2 ny;have kd:=abm I1.kd e2 ny hy trivial;have wk:=Zy (c:=x) I1.kd I1.wok e2 ny (.inr ⟨C,dx,hc,hy⟩);have I2:=I1.grow gr e2 rfl kd wk;have hb:(g.push y).tbl[M.length]?=some y:=by
   show(g.tbl++[y])[M.length]?=_
   rw[←I1.wok.len,ar0 (ar9 _),Nat.sub_self];rfl
  refine⟨by rw[asF,arW,r1.length,hn M Z ds has,hp],g.push y,M++[⟨x,[]⟩],obj M.length::ds,kd,wk,.cons (.obj hb) (by rw[asF];exact r1.gr gr I1.kd),?_⟩;have h:bf.sat (match m (M++[(⟨x,[]⟩:Inst)]) (obj M.length::ds) with
   |.ok .none M'=>bf.ok (obj M.length) M'
   |_=>.bad) (λd M'=>∀v H' g',Gr false g g' H H'->SInv X.K aj σ H' g' Z M'->Rep X.K g' H' v d->Q v H') (gE X.K aj W false g H σ Z):=h
  cases hm:m (M++[⟨x,[]⟩]) (obj M.length::ds) with
  |bad=>rw[hm]at h;exact atd h
  |exc z M'=>rw[hm]at h;exact atd h
  |ok d M'=>
   rw[hm]at h;cases d with
   |none=>exact λv H' g' c k' w' r'=>⟨by cases r';rfl,h (.ref y) H' g' (((Gr.ex e1).trans gr).trans c.gr) (I2.call c k' w') (.obj (c.gr.tb hb))⟩
   |_=>exact atd h
theorem ajp(hr:Room k X.A)(g:bA X.prog X.w X.K X.mg X.base aj k x (.cls n m))(hg:Gl X x)(hd:(x==("__debug__" : Str))=false)(ha:GJ aj X W (e::es) as)(hs:(e::es).all nst=true)(hn:∀M Z ds,as M Z=.ok ds->ds.length=n) :
  GE aj X W false (.Call (.Name x p) (e::es) [] pos) (BW x m as):=by
 obtain⟨C,f,fd,ps,j,g1,g2,_,g3,hj,hp,hB,F⟩:=g;have hs':=hs;rw[asx,arH]at hs';exact PE.weak (pe_make (E:=λ_ _ _=>False) g3 (acr F) (hr.mono hj) hg g1 hB .nil pass0 ha hd (cH hs'.1 es) (star_any es hs'.2)) λσ H Q h=>aep (f:=f) (fd:=fd) g2 hp hn (λ_ _ _ z=>z) σ H Q h
theorem ahU(hr:Room k X.A)(g:bA X.prog X.w X.K X.mg X.base aj k x (.cls 0 m))(hg:Gl X x)(hd:(x==("__debug__" : Str))=false):GE aj X W false (.Call (.Name x p) [] [] pos) (BW x m au):=by obtain⟨C,f,fd,ps,j,g1,g2,_,g3,hj,hp,hB,F⟩:=g;exact PE.weak (pe_make0 (E:=λ_ _ _=>False) g3 (acr F) (hr.mono hj) hg g1 hB .nil pass0 hd) λσ H Q h=>aep (f:=f) (fd:=fd) (as:=au) g2 hp (λM Z ds z=>by cases z;rfl) (λσ H Q ⟨g,Z,M,I,z⟩=>z [] H (Ex.refl H) .nil) σ H Q h
end
def Jz(m:Mo->List Dat->bf Dat)(as:QA):GF:=λM Z=>((as M Z).at M).bind λds _=>m M ds
section
variable{X:Cx}{aj:aR}{W:WX}{e:Expr}{es:List Expr}{pos p:Pos}{x:Str}{k:Nat}{f:Addr}{fd:FuncData}{ps:List Str}
theorem ahR{m:Mo->List Dat->bf Dat}{as:QA}(tk:Takes X W)(F:FnOk X.prog X.w X.K X.mg X.base (L2.CX X.prog X.w) k f fd ps (Ko X.K aj ps.length m))(hr:Room k X.A)(hg:Gl X x)(hm:X.mg x=some (.ref f))(hk:PySem.W.keepIn X.K (.ref f)=true)(hb:Binds X.K fd ps [])
  (ha:GJ aj X W (e::es) as) (hl:(e::es).length=ps.length) (hd:(x==("__debug__" : Str))=false) (hs:(e::es).all nst=true) (hn:∀M Z ds,as M Z=.ok ds->ds.length=(e::es).length):GE aj X W false (.Call (.Name x p) (e::es) [] pos) (Jz m as):=by
 have hs':=hs;rw[asx,arH]at hs';refine PE.weak (pe_callS (E:=λσ=>WE W σ) F hr hg hm hk hb (λσ=>passAt tk σ) ha hd (cH hs'.1 es) (star_any es hs'.2)) λσ H Q ⟨g,Z,M,I,h⟩=>?_;refine⟨g,Z,M,I,?_⟩;have h:=h.bnd;cases has:as M Z with
 |exc x=>rw[has]at h;exact λH' c dd e r=>h H' g c dd (Gr.ex e) (I.ex e) r
 |bad=>rw[has]at h;exact atd h
 |ok ds=>
  rw[has]at h;have h:(m M ds).sat (λd M'=>∀v H' g',Gr false g g' H H'->SInv X.K aj σ H' g' Z M'->Rep X.K g' H' v d->Q v H') (gE X.K aj W false g H σ Z):=h;intro vs H1 e1 r1;exact⟨by rw[r1.length,hn M Z ds has];exact hl,g,M,ds,I.kd.ex e1,I.wok.ex e1 I.kd,r1,h.mono (λd M' kk v H' g' c k' w' r'=>kk v H' g' ((Gr.ex e1).trans c.gr) ((I.ex e1).call c k' w') r') λx M' kk H' g' cc dd c k' w' r'=>kk H' g' cc dd ((Gr.ex e1).trans c.gr) ((I.ex e1).call c k' w') r'⟩
end
def Ft.has(ft:Ft)(c f:Str):Bool:=match ft.lookup c with
 |some fs=>fs.contains f
 |none=>false
def LQ(ft:Ft)(aj:aR):Prop:=∀c f,ft.has c f=true->f∈aj.fl c
def unH:Dat->Option Nat
 |.dict [(.none,.int (.ofNat h))]=>some h
 |_=>none
theorem agt{d:Dat}{h:Nat}(e:unH d=some h):d=obj h:=by
 unfold unH at e;split at e
 ·cases e;rfl
 ·cases e
def kh(M:Mo)(d:Dat):Option (Nat×Inst):=(unH d).bind λh=>(M[h]?).bind λi=>match i.cls=="" with
 |true=>none
 |false=>some (h,i)
theorem Jo{M:Mo}{d:Dat}{h:Nat}{i:Inst}(e:kh M d=some (h,i)):d=obj h/\M[h]?=some i/\i.cls≠"":=by
 unfold kh at e;obtain⟨h',e1,e⟩:=arF.mp e;obtain⟨i',e2,e⟩:=arF.mp e;split at e
 ·cases e
 ·next hc=>
  cases e;exact⟨agt e1,e2,λz=>by rw[z]at hc;cases hc⟩
def uN(ft:Ft)(o:QF)(f:Str)(e:GF):SF:=λM Z=>(e M Z).then Z λd M1=>((o M1 Z).at M1).then Z λod M2=>match kh M2 od with
 |some (h,i)=>match ft.has i.cls f&&decide (i.fs.length < 100) with
  |true=>.next Z (M2.set h (i.put f (.dat d)))
  |false=>.bad
 |none=>.bad
theorem SInv.chg{K:arG}{aj:aR}{σ:L2.St}{H H':Hp}{g g':Gh}{Z:Env}{M M':Mo}{h:Nat}{f:Str}(I:SInv K aj σ H g Z M)(c:Chg M g g' H H' h f)(w:gD K aj g' H' M'):SInv K aj σ H' g' Z M':=I.call c.gc c.kd w
section
variable{X:Cx}{aj:aR}{W:WX}{o e:Expr}{f:Str}{pos pos':Pos}{ft:Ft}{fo:QF}
theorem G4{K:arG}{g:Gh}{H:Hp}{M:Mo}{d:Dat}{v:V}{h:Nat}{i:Inst}(co:jM K aj)(fk:LQ ft aj)(w:gD K aj g H M)(r:eG K g H v d)(hi:kh M d=some (h,i))(hf:ft.has i.cls f=true):∃a C dx fs,d=obj h/\M[h]?=some i/\i.cls≠""/\g.tbl[h]?=some a/\v=.ref a/\aj i.cls=some C/\H a=some (.ins C dx fs)/\cQ K aj g H h fs i.fs/\Cls K C/\NoAttr K C f/\f∈aj.fl i.cls:=by obtain⟨rfl,h1,h2⟩:=Jo hi;obtain⟨a,rfl,ha⟩:=LC r;obtain⟨C,dx,fs,c1,c2,c3⟩:=w.ins h a i ha h1 h2;have hfl:=fk _ _ hf;obtain⟨k1,k2⟩:=co i.cls C f c1 hfl;exact⟨a,C,dx,fs,rfl,h1,h2,ha,rfl,c1,c2,c3,k1,k2,hfl⟩
theorem aij{fe:GF}(co:jM X.K aj)(fk:LQ ft aj)(ho:QW aj X W o fo)(he:GE aj X W false e fe)(hs:swapsWith e (some (.Attribute o f pos')) pos.line X.env=pure false):SE aj X W false (.Assign [.Attribute o f pos'] e pos) (uN ft fo f fe):=by
 refine PS.weak (ps_fld ho he hs) λD σ H ⟨g,Z,M,I,z⟩=>?_;refine tE.go I (dI (σ:=σ) z) λd M1 v H1 g1 k1 r1 I1 rv=>?_;refine tW.go I1 (k:=λod=>((match kh M1 od with
  |some (h,i)=>match ft.has i.cls f&&decide (i.fs.length < 100) with
   |true=>vq.next Z (M1.set h (i.put f (.dat d)))
   |false=>.bad
  |none=>.bad).sat (sN X.K aj false D.nx g H) (sR X.K aj false D.rt g H) (sN X.K aj false D.bk g H) (sN X.K aj false D.ct g H) (sX X.K aj W false g H))) ?_ λod u H2 k2 e2 ru=>?_
 ·have k1:=Out.jh (dI (σ:=σ) k1);exact k1.mono (λ_ y=>y) λx y H' c dd ex rx=>y H' g1 c dd (r1.trans (Gr.ex ex)) (I1.ex ex) rx
 ·have I2:=I1.ex e2;split at k2
  ·next h i hi=>
   split at k2
   ·next hb=>
    rw[arH]at hb;obtain⟨a,C,dx,fs,_,m1,m2,ha,rfl,c1,c2,c3,c4,c5,c6⟩:=G4 co fk I2.wok ru hi hb.1;refine⟨a,C,dx,fs,rfl,c2,c4,c5,?_,?_⟩
    ·have:=atf hb.2;rw[c3.len];omega
    ·have ch:=U6 (f:=f) (C:=C) (dx:=dx) (fs':=putF f v fs) I2.kd I2.wok ha m1 m2;have w':=I2.wok.chg I2.kd ch ha m1 m2 c6 c1 c3 upd_same (fl:=.dat d) (show Rep X.K g1 _ v d from(rv.ex e2 I1.kd).gr ch.gc.gr I2.kd);exact k2 σ _ g1 ((r1.trans (Gr.ex e2)).trans ch.gc.gr) (I2.chg ch w')
   ·exact atd k2
  ·exact atd k2
end
mutual
theorem Rep.mv{K:arG}{g g':Gh}{H:Hp}(tb:∀(h:Nat) (a:Addr),g.tbl[h]?=some a->g'.tbl[h]?=some a)(n:∀a,g'.A a->g.A a):∀{v:V} {d:Dat},Rep K g H v d->Rep K g' H v d
 |_,_,.non=>.non
 |_,_,.bl b=>.bl b
 |_,_,.int i=>.int i
 |_,_,.str x=>.str x
 |_,_,.tup h t=>.tup h (aM.mv tb n t)
 |_,_,.lst h t=>.lst (h.elim (λz=>.inl ⟨z.1,λy=>z.2 (n _ y)⟩) .inr) (aM.mv tb n t)
 |_,_,.obj h=>.obj (tb _ _ h)
theorem aM.mv{K:arG}{g g':Gh}{H:Hp}(tb:∀(h:Nat) (a:Addr),g.tbl[h]?=some a->g'.tbl[h]?=some a)(n:∀a,g'.A a->g.A a):∀{vs:List V} {ds:List Dat},aM K g H vs ds->aM K g' H vs ds
 |_,_,.nil=>.nil
 |_,_,.cons h t=>.cons (Rep.mv tb n h) (aM.mv tb n t)
end
def Fl(ft:Ft)(o:QF)(f:Str)(e:IF):SF:=λM Z=>((e M Z).at M).then Z λxs M0=>((o (M0++[⟨"",[]⟩]) Z).at (M0++[⟨"",[]⟩])).then Z λod M2=>match kh M2 od with
 |some (h,i)=>match ft.has i.cls f&&decide (i.fs.length < 100) with
  |true=>.next Z (M2.set h (i.put f (.lst M0.length xs)))
  |false=>.bad
 |none=>.bad
theorem MF{K:arG}{aj:aR}{σ:L2.St}{H H':Hp}{g:Gh}{Z:Env}{M:Mo}{l:Addr}{o:HO}(I:SInv K aj σ H g Z M)(nl:H l=none)(e:Ex H H')(hl:H' l=some o)(m:Ju o):Gr false g (g.push l) H H'/\SInv K aj σ H' (g.push l) Z (M++[⟨"",[]⟩])/\(g.push l).tbl[M.length]?=some l/\(g.push l).ow l=none/\(M++[(⟨"",[]⟩:Inst)])[M.length]?=some ⟨"",[]⟩:=by
 have gr:=VH (g:=g) e nl;have kd:=abm I.kd e nl hl m;have wk:=Zy (c:="") I.kd I.wok e nl (.inl rfl)
 refine⟨gr,I.grow gr e rfl kd wk,?_,?_,?_⟩
 ·show(g.tbl++[l])[M.length]?=_
  rw[←I.wok.len,ar0 (ar9 _),Nat.sub_self];rfl
 ·cases hz:g.ow l with
  |none=>exact hz
  |some p=>
   obtain⟨u,h1,_⟩:=I.kd.ob l (.inl (.inr (by rw[hz];exact λy=>nomatch y)));rw[nl]at h1;cases h1
 ·rw[ar0 (ar9 _),Nat.sub_self];rfl
section
variable{X:Cx}{aj:aR}{W:WX}{o e:Expr}{f:Str}{pos pos' p1 apos epos spos:Pos}{ft:Ft}{fo:QF}
theorem aiI{fe:IF}(co:jM X.K aj)(fk:LQ ft aj)(ho:QW aj X W o fo)(he:FE aj X W e fe)(hs:swapsWith e (some (.Attribute o f pos')) pos.line X.env=pure false):SE aj X W false (.Assign [.Attribute o f pos'] e pos) (Fl ft fo f fe):=by
 refine PS.weak (ps_fld ho he hs) λD σ H ⟨g,Z,M,I,z⟩=>?_;refine⟨g,Z,M,I,?_⟩;unfold Fl at z;cases hf:fe M Z with
 |exc x=>rw[hf]at z;exact λH' c dd e r=>z σ H' g c dd (Gr.ex e) (I.ex e) r.fr
 |bad=>rw[hf]at z;exact atd z
 |ok xs=>
  rw[hf]at z;intro l us H1 nl e1 hl rs;obtain⟨gr,I1,tb,ow,mm⟩:=MF I nl e1 hl trivial;have rs1:aM X.K (g.push l) H1 us xs:=aM.mv (g:=g.add l) (g':=g.push l) (λh a z=>gr.tb (g:=g) z) (λa z=>by
   rcases Zi z with z|rfl
   ·rcases z with z|z|z
    ·exact .inl z
    ·exact .inr (.inl z)
    ·exact .inr (.inr (show g.Lo a∨a=l from Or.inl z))
   ·exact .inr (.inr (show g.Lo a∨a=a from Or.inr rfl))) rs
  have z:(((fo (M++[⟨"",[]⟩]) Z).at (M++[⟨"",[]⟩])).then Z λod M2=>match kh M2 od with
   |some (h,i)=>match ft.has i.cls f&&decide (i.fs.length < 100) with
    |true=>.next Z (M2.set h (i.put f (.lst M.length xs)))
    |false=>.bad
   |none=>.bad).sat (sN X.K aj false D.nx g H) (sR X.K aj false D.rt g H) (sN X.K aj false D.bk g H) (sN X.K aj false D.ct g H) (sX X.K aj W false g H):=z
  have k1:=Out.jh (dI (σ:=σ) z);refine tW.go I1 (k1.mono (λ_ y=>y) λx y H' c dd ex rx=>y H' _ c dd (gr.trans (Gr.ex ex)) (I1.ex ex) rx) λod u H2 k2 e2 ru=>?_;have I2:=I1.ex e2;split at k2
  ·next h i hi=>
   split at k2
   ·next hb=>
    rw[arH]at hb;obtain⟨a,C,dx,fs,_,m1,m2,ha,rfl,c1,c2,c3,c4,c5,c6⟩:=G4 co fk I2.wok ru hi hb.1;have nla:l≠a:=λz=>by
     subst z;cases I2.wok.inj _ _ _ ha tb;rw[mm]at m1;cases m1;exact m2 rfl
    refine⟨a,C,dx,fs,rfl,c2,c4,c5,?_,?_⟩
    ·have:=atf hb.2;rw[c3.len];omega
    ·have ch:=Vm (f:=f) (C:=C) (dx:=dx) (fs':=putF f (.ref l) fs) I2.kd I2.wok ha m1 m2 tb mm ow;have w':=I2.wok.chg I2.kd ch ha m1 m2 c6 c1 c3 upd_same (v:=.ref l) (fl:=.lst M.length xs) ⟨l,us,rfl,by rw[upd_ne nla];exact e2 _ _ hl,if_pos rfl,(rs1.ex e2 I1.kd).gr ch.gc.gr I2.kd,ch.gc.gr.tb tb⟩;exact k2 σ _ _ ((gr.trans (Gr.ex e2)).trans ch.gc.gr) (I2.chg ch w')
   ·exact atd k2
  ·exact atd k2
def Gf(M:Mo)(f:Str)(d:Dat):Option (Nat×Inst×Nat×List Dat):=(kh M d).bind λp=>match p.2.fs.lookup f with
 |some (.lst n xs)=>some (p.1,p.2,n,xs)
 |_=>none
theorem Vu{K:arG}{g:Gh}{H:Hp}{M:Mo}{d:Dat}{v:V}{h n:Nat}{i:Inst}{xs:List Dat}(co:jM K aj)(w:gD K aj g H M)(r:eG K g H v d)(hi:Gf M f d=some (h,i,n,xs)) :
  ∃a C dx fs l us,d=obj h/\M[h]?=some i/\i.cls≠""/\i.fs.lookup f=some (.lst n xs)/\g.tbl[h]?=some a/\v=.ref a/\aj i.cls=some C/\H a=some (.ins C dx fs)/\cQ K aj g H h fs i.fs/\Cls K C/\NoAttr K C f/\f∈aj.fl i.cls/\fs.lookup f=some (.ref l)/\H l=some (.lst us)/\g.ow l=some (h,f)/\aM K g H us xs/\g.tbl[n]?=some l:=by
 unfold Gf at hi;obtain⟨⟨h',i'⟩,h1,hi⟩:=arF.mp hi;split at hi
 ·next n' xs' hl=>
  cases hi;obtain⟨rfl,m1,m2⟩:=Jo h1;obtain⟨a,rfl,ha⟩:=LC r;obtain⟨C,dx,fs,c1,c2,c3⟩:=w.ins _ a _ ha m1 m2;have hfl:=w.fd _ _ m1 f (lookup_mem hl);obtain⟨k1,k2⟩:=co _ C f c1 hfl;obtain⟨u,l1,l,us,rfl,l3,l4,l5,l6⟩:=c3.get hl;exact⟨a,C,dx,fs,l,us,rfl,m1,m2,hl,ha,rfl,c1,c2,c3,k1,k2,hfl,l1,l3,l4,l5,l6⟩
 ·cases hi
theorem abh{K:arG}{σ:L2.St}{Z:Env}{g:Gh}{H:Hp}{M:Mo}{h n:Nat}{i:Inst}{ys:List Dat}{a C dx l:Addr}{fs:List (Str×V)}{us':List V}(I:SInv K aj σ H g Z M)(m1:M[h]?=some i)(m2:i.cls≠"")(ha:g.tbl[h]?=some a)(c1:aj i.cls=some C)(c2:H a=some (.ins C dx fs))(c3:cQ K aj g H h fs i.fs)(hfl:f∈aj.fl i.cls)(l1:fs.lookup f=some (.ref l))(l4:g.ow l=some (h,f))(l6:g.tbl[n]?=some l)(rs:aM K g H us' ys) :
  Gr false g g H (upd H l (.lst us'))/\SInv K aj σ (upd H l (.lst us')) g Z (M.set h (i.put f (.lst n ys))):=by
 have ch:=ae3 (o':=.lst us') I.kd I.wok l4 trivial;have nla:a≠l:=λz=>by
  subst z;rw[I.wok.tw h a i ha m1 m2]at l4;cases l4
 have w':=I.wok.chg I.kd ch ha m1 m2 hfl c1 (dx:=dx) c3 (v:=.ref l) (fl:=.lst n ys) (by rw[upd_ne nla,Mp l1];exact c2) ⟨l,us',rfl,upd_same,l4,rs.gr ch.gc.gr I.kd,l6⟩;exact⟨ch.gc.gr,I.chg ch w'⟩
def Fj(f:Str)(o:QF)(e:GF):SF:=λM Z=>((o M Z).at M).then Z λod M0=>match Gf M0 f od with
 |some (_,_,n,_)=>(e M0 Z).then Z λd M1=>match Gf M1 f od with
  |some (h,i,n',xs)=>match n==n'&&decide (xs.length < 100000) with
   |true=>.next Z (M1.set h (i.put f (.lst n (xs++[d]))))
   |false=>.bad
  |none=>.bad
 |none=>.bad
theorem ahj{fe:GF}(co:jM X.K aj)(ho:QW aj X W o fo)(hb:baseOk o=true)(he:GE aj X W false e fe)(hs:nst e=true)(hl:(apos.endLine==pos.line)=true) :
  SE aj X W false (.Expr (.Call (.Attribute (.Attribute o f p1) "append" apos) [e] [] pos) epos) (Fj f fo fe):=by
 have h0:=pe_fld (X:=X) (pos:=p1) (f:=f) ho (ni hb);have h1:=pa_cons he pa_nil (cH hs []);have key:=pe_bm (X:=X) (cpos:=pos) (apos:=apos) PySem.F.plainAttrs_list PySem.F.slot_list_append PySem.F.type_list_append mt_append h0 h1 (ni rfl) (few (by simp[hs]) (by simp)) hl (cH hs []) (by with_unfolding_all rfl);refine PS.weak (ps_expr key (by with_unfolding_all rfl)) λD σ H ⟨g,Z,M,I,z⟩=>?_;unfold Fj at z;have k1:=Out.jh (dI (σ:=σ) z);refine tW.go I (k1.mono (λ_ y=>y) λx y H' c dd ex rx=>y H' _ c dd (Gr.ex ex) (I.ex ex) rx) λod u H1 k2 e1 ru=>?_;have I1:=I.ex e1;split at k2
 ·next h0' i0 n xs0 hi=>
  obtain⟨a,C,dx,fs,l,us,rfl,m1,m2,ml,ha,rfl,c1,c2,c3,c4,c5,c6,l1,l3,l4,l5,l6⟩:=Vu co I1.wok ru hi;refine⟨a,C,dx,fs,.ref l,rfl,c2,c4,c5,l1,.inl ⟨rfl,us,sq_of l3⟩,?_⟩;refine tE.go I1 ((dI (σ:=σ) k2).mono (λ_ _ y=>y) λx M' y=>y.gr (Gr.ex e1)) λd M1 v H2 g2 k3 r2 I2 rv=>?_;split at k3
  ·next h i n' xs hi2=>
   split at k3
   ·next hg=>
    rw[arH]at hg;cases eq_of_beq hg.1;have ru2:eG X.K g2 H2 (.ref a) (obj h0'):=Rep.weak (.obj (r2.tb ha));obtain⟨a',C',dx',fs',l',us',eh,n1,n2,nl,hb',ea,d1,d2,d3,d4,d5,d6,p1,p3,p4,p5,p6⟩:=Vu co I2.wok ru2 hi2;cases ea;have el:l'=l:=arY (p6.symm.trans (r2.tb l6));subst el;obtain⟨gr,I3⟩:=abh (us':=us'++[v]) (ys:=xs++[d]) I2 n1 n2 hb' d1 d2 d3 d6 p1 p4 p6 (p5.append (.cons rv .nil));refine⟨l',us',v,rfl,rfl,p3,sz_lt (by rw[p5.length];exact atf hg.2),?_⟩;exact k3 σ _ g2 (((Gr.ex e1).trans r2).trans gr) I3
   ·exact atd k3
  ·exact atd k3
 ·exact atd k2
def Ra(f:Str)(o fi e:QF):SF:=λM Z=>((e M Z).at M).then Z λd _=>((o M Z).at M).then Z λod _=>match Gf M f od with
 |some (h,i,n,xs)=>((fi M Z).at M).then Z λk _=>match k with
  |.int k=>match ixN xs.length k with
   |some j=>.next Z (M.set h (i.put f (.lst n (xs.set j d))))
   |none=>.bad
  |_=>.bad
 |none=>.bad
theorem ahO{i:Expr}{fi fe:QF}(co:jM X.K aj)(ho:QW aj X W o fo)(hb:baseOk o=true)(he:QE aj X W e fe)(hi:QE aj X W i fi)
  (ha:∀v,assign (.Subscript (.Attribute o f p1) i spos) X.env v=(do
   let ov ←holding [v] (eval (.Attribute o f p1) X.env)
   let iv ←holding [v,ov] (eval i X.env)
   standAt spos
   holding [v,ov,iv] (setItem ov iv v)
   release [v,ov,iv] []))
  (hs:swapsWithSole [.Subscript (.Attribute o f p1) i spos] e pos.line X.env=pure false) (h1:(assignEach [.Subscript (.Attribute o f p1) i spos] X.env).map (·.2)=[assign (.Subscript (.Attribute o f p1) i spos) X.env]):SE aj X W false (.Assign [.Subscript (.Attribute o f p1) i spos] e pos) (Ra f fo fi fe):=by
 have h0:=pe_fld (X:=X) (pos:=p1) (f:=f) ho (ni hb);refine PS.weak (ps_asg he (pg_sub h0 hi set_list ha) hs (by with_unfolding_all rfl) h1) λD σ H ⟨g,Z,M,I,z⟩=>?_;unfold Ra at z;have k1:=Out.jh (dI (σ:=σ) z);refine tQ.go I (k1.mono (λ_ y=>y) λx y H' c dd ex rx=>y H' _ c dd (Gr.ex ex) (I.ex ex) rx) λd v H1 k2 e1 rv=>?_;have I1:=I.ex e1;have k2:=Out.jh (dI (σ:=σ) k2);refine tW.go I1 (k2.mono (λ_ y=>y) λx y H' c dd ex rx=>y H' _ c dd ((Gr.ex e1).trans (Gr.ex ex)) (I1.ex ex) rx) λod u H2 k3 e2 ru=>?_;have I2:=I1.ex e2;have e12:=e1.trans e2;split at k3
 ·next h i' n xs hl=>
  obtain⟨a,C,dx,fs,l,us,rfl,m1,m2,ml,ha',rfl,c1,c2,c3,c4,c5,c6,l1,l3,l4,l5,l6⟩:=Vu co I2.wok ru hl;refine⟨a,C,dx,fs,.ref l,rfl,c2,c4,c5,l1,?_⟩;have k3:=Out.jh (dI (σ:=σ) k3);refine tQ.go I2 (k3.mono (λ_ y=>y) λx y H' c dd ex rx=>y H' _ c dd ((Gr.ex e12).trans (Gr.ex ex)) (I2.ex ex) rx) λk w H3 k4 e3 rw'=>?_;have I3:=I2.ex e3;cases k with
  |int k=>
   simp only at k4;split at k4
   ·next j hj=>
    cases rw';obtain⟨gr,I4⟩:=abh (us':=us.set j v) (ys:=xs.set j d) I3 m1 m2 ha' c1 (e3 _ _ c2) (c3.ex e3 I2.kd) c6 l1 l4 l6 (((l5.ex e3 I2.kd).set ((rv.ex e2 I1.kd).ex e3 I2.kd) j));refine⟨l,us,k,j,rfl,rfl,e3 _ _ l3,by rw[l5.length];exact hj,?_⟩;exact k4 σ _ g ((Gr.ex (e12.trans e3)).trans gr) I4
   ·exact atd k4
  |_=>exact atd k4
 ·exact atd k3
def Ry(ft:Ft)(f:Str)(o e:QF):SF:=λM Z=>((o M Z).at M).then Z λod _=>match kh M od with
 |some (h,i)=>match i.fs.lookup f,ft.has i.cls f&&decide (i.fs.length < 100) with
  |some (.dat (.int a)),true=>((e M Z).at M).then Z λd _=>match d with
   |.int b=>.next Z (M.set h (i.put f (.dat (.int (a+b)))))
   |_=>.bad
  |_,_=>.bad
 |none=>.bad
theorem afD:InOp X .Add (λx y H Q=>∃i j,x=.int i/\y=.int j/\Q (.int (i+j)) H):=by intro pins s σ H x y u v Q I rx ry h;obtain⟨i,j,rfl,rfl,q⟩:=h;exact iop_add pins s σ H _ _ u v Q I rx ry ⟨i,j,rfl,rfl,q⟩
theorem aif{fe:QF}{tpos:Pos}(co:jM X.K aj)(fk:LQ ft aj)(ho:QW aj X W o fo)(he:QE aj X W e fe):SE aj X W false (.AugAssign (.Attribute o f tpos) .Add e pos) (Ry ft f fo fe):=by
 refine PS.weak (ps_fldaug ho he afD) λD σ H ⟨g,Z,M,I,z⟩=>?_;unfold Ry at z;have k1:=Out.jh (dI (σ:=σ) z);refine tW.go I (k1.mono (λ_ y=>y) λx y H' c dd ex rx=>y H' _ c dd (Gr.ex ex) (I.ex ex) rx) λod u H1 k2 e1 ru=>?_;have I1:=I.ex e1;split at k2
 ·next h i hi=>
  split at k2
  ·next b hlk hb=>
   rw[arH]at hb;obtain⟨a,C,dx,fs,_,m1,m2,ha,rfl,c1,c2,c3,c4,c5,c6⟩:=G4 co fk I1.wok ru hi hb.1;obtain⟨v,l1,l2⟩:=c3.get hlk;refine⟨a,C,dx,fs,v,rfl,c2,c4,c5,l1,?_⟩;have k2:=Out.jh (dI (σ:=σ) k2);refine tQ.go I1 (k2.mono (λ_ y=>y) λx y H' c dd ex rx=>y H' _ c dd ((Gr.ex e1).trans (Gr.ex ex)) (I1.ex ex) rx) λd w H2 k3 e2 rd=>?_;have I2:=I1.ex e2;cases d with
   |int j=>
    cases rd;have l2:Rep X.K g H1 v (.int b):=l2;cases l2;refine⟨b,j,rfl,rfl,dx,fs,e2 _ _ c2,?_,?_⟩
    ·have:=atf hb.2;rw[c3.len];omega
    ·have ch:=U6 (f:=f) (C:=C) (dx:=dx) (fs':=putF f (.int (b+j)) fs) I2.kd I2.wok ha m1 m2;have w':=I2.wok.chg I2.kd ch ha m1 m2 c6 c1 (c3.ex e2 I1.kd) upd_same (v:=.int (b+j)) (fl:=.dat (.int (b+j))) (show Rep X.K g _ _ _ from .int _);exact k3 σ _ g ((Gr.ex (e1.trans e2)).trans ch.gc.gr) (I2.chg ch w')
   |_=>exact atd k3
  ·exact atd k2
 ·exact atd k2
end
mutual
def uz:Dat->Option NestedKey
 |.none=>some .none
 |.int i=>some (.num i)
 |.str x=>some (.text x)
 |.tuple ds=>(yP ds).map .tup
 |.bool _=>none
 |.list _=>none
 |.dict _=>none
def yP:List Dat->Option (List NestedKey)
 |[]=>some []
 |d::ds=>(uz d).bind λk=>(yP ds).bind λks=>some (k::ks)
end
mutual
theorem Am:∀{d:Dat} {k:NestedKey},uz d=some k->k.data=d
 |.none,_,h=>by cases h;rfl
 |.int i,_,h=>by cases h;rfl
 |.str x,_,h=>by cases h;rfl
 |.tuple ds,_,h=>by
  rw[uz,aso]at h;obtain⟨ks,h1,rfl⟩:=h;rw[NestedKey.data,TX h1]
theorem TX:∀{ds:List Dat} {ks:List NestedKey},yP ds=some ks->NestedKey.datas ks=ds
 |[],_,h=>by cases h;rfl
 |d::ds,_,h=>by
  rw[yP]at h;obtain⟨k,h1,h⟩:=arF.mp h;obtain⟨ks,h2,h⟩:=arF.mp h;cases h;rw[NestedKey.datas,Am h1,TX h2]
end
mutual
theorem abL:∀a b:NestedKey,PyData.eqv a.data b.data=NestedKey.beq a b
 |.none,.none=>by simp[NestedKey.data,PyData.eqv,NestedKey.beq]
 |.none,.num _=>by simp[NestedKey.data,PyData.eqv,NestedKey.beq]
 |.none,.text _=>by simp[NestedKey.data,PyData.eqv,NestedKey.beq]
 |.none,.tup _=>by simp[NestedKey.data,PyData.eqv,NestedKey.beq]
 |.num _,.none=>by simp[NestedKey.data,PyData.eqv,NestedKey.beq]
 |.num a,.num b=>by simp[NestedKey.data,PyData.eqv,NestedKey.beq];rfl
 |.num _,.text _=>by simp[NestedKey.data,PyData.eqv,NestedKey.beq]
 |.num _,.tup _=>by simp[NestedKey.data,PyData.eqv,NestedKey.beq]
 |.text _,.none=>by simp[NestedKey.data,PyData.eqv,NestedKey.beq]
 |.text _,.num _=>by simp[NestedKey.data,PyData.eqv,NestedKey.beq]
 |.text a,.text b=>by simp[NestedKey.data,PyData.eqv,NestedKey.beq];rfl
 |.text _,.tup _=>by simp[NestedKey.data,PyData.eqv,NestedKey.beq]
 |.tup _,.none=>by simp[NestedKey.data,PyData.eqv,NestedKey.beq]
 |.tup _,.num _=>by simp[NestedKey.data,PyData.eqv,NestedKey.beq]
 |.tup _,.text _=>by simp[NestedKey.data,PyData.eqv,NestedKey.beq]
 |.tup as,.tup bs=>by
  rw[NestedKey.data,NestedKey.data,PyData.eqv,NestedKey.beq];exact aaJ as bs
theorem aaJ:∀as bs:List NestedKey,PyData.eqvAll (NestedKey.datas as) (NestedKey.datas bs)=NestedKey.beqAll as bs
 |[],[]=>by simp[NestedKey.datas,PyData.eqvAll,NestedKey.beqAll]
 |[],_::_=>by simp[NestedKey.datas,PyData.eqvAll,NestedKey.beqAll]
 |_::_,[]=>by simp[NestedKey.datas,PyData.eqvAll,NestedKey.beqAll]
 |a::as,b::bs=>by
  rw[NestedKey.datas,NestedKey.datas,PyData.eqvAll,NestedKey.beqAll,abL a b,aaJ as bs]
end
theorem abz(a b:NestedKey):PyData.eqv a.data b.data=decide (a=b):=by rw[abL,NestedKey.decide_eq]
section
variable{X:Cx}{pins:List (Addr×Obj)}{σ:L2.St}{H:Hp}{s:Shared}{g:Gh}
mutual
theorem key_is(I:L2.Inv X pins σ H s):∀{v:V} {d:Dat} {k:NestedKey} {u:Value},Rep X.K g H v d->uz d=some k->RelV v u->NestedIs s.heap k u
 |_,_,_,u,.non,e,r=>by
  cases e
  obtain rfl:u=.none:=r
  exact .none
 |_,_,_,_,.int i,e,r=>by
  cases e;obtain⟨t,rfl⟩:=r;exact .int i t
 |_,_,_,_,.str x,e,r=>by
  cases e;obtain⟨t,rfl⟩:=r;exact .text x t
 |_,_,_,u,.tup (a:=a) h t,e,r=>by
  rw[uz,aso]at e;obtain⟨ks,h1,rfl⟩:=e
  obtain rfl:u=.ref a:=r
  obtain⟨its,r1,⟨o,e1,c1,n,d1⟩,_⟩:=I.tuple h;exact .tup e1 c1 d1 (by simpa using abg I t h1 r1)
 |_,_,_,_,.bl b,e,r=>by cases e
 |_,_,_,_,.lst _ _,e,r=>by cases e
 |_,_,_,_,.obj _,e,r=>by cases e
theorem abg(I:L2.Inv X pins σ H s):∀{vs:List V} {ds:List Dat} {ks:List NestedKey} {us:List Value},aM X.K g H vs ds->yP ds=some ks->Vals vs us->NestedAll s.heap ks us
 |_,_,_,_,.nil,e,r=>by
  cases e;cases r;exact .nil
 |_,_,_,_,.cons h t,e,r=>by
  rw[yP]at e;obtain⟨k,h1,e⟩:=arF.mp e;obtain⟨ks,h2,e⟩:=arF.mp e;cases e;cases r with
  |cons r1 r2=>exact .cons (key_is I h h1 r1) (abg I t h2 r2)
end
end
mutual
theorem abY:∀k:NestedKey,uz k.data=some k
 |.none=>rfl
 |.num _=>rfl
 |.text _=>rfl
 |.tup ks=>by rw[NestedKey.data,uz,ZK ks];rfl
theorem ZK:∀ks:List NestedKey,yP (NestedKey.datas ks)=some ks
 |[]=>rfl
 |k::ks=>by rw[NestedKey.datas,yP,abY k,ZK ks];rfl
end
def dhas:Bool->List (Dat×Dat)->Dat->Out Bool
 |false,kvs,.int i=>.ok (kvs.any λp=>PyData.eqv p.1 (.int i))
 |true,kvs,.tuple ds=>match uz (.tuple ds) with
  |some k=>match decide (k.depth<=8) with
   |true=>.ok (kvs.any λp=>PyData.eqv p.1 (.tuple ds))
   |false=>.bad
  |none=>.bad
 |_,_,_=>.bad
def zR(M:Mo)(f:Str)(d:Dat):Option (Nat×Inst×Bool×List (Dat×Dat)):=(kh M d).bind λp=>match p.2.fs.lookup f with
 |some (.dic b kvs)=>some (p.1,p.2,b,kvs)
 |_=>none
section
variable{aj:aR}{f:Str}
theorem Ih{K:arG}{g:Gh}{H:Hp}{M:Mo}{d:Dat}{v:V}{h:Nat}{i:Inst}{b:Bool}{kvs:List (Dat×Dat)}(co:jM K aj)(w:gD K aj g H M)(r:eG K g H v d)(hi:zR M f d=some (h,i,b,kvs)) :
  ∃a C dx fs l,d=obj h/\M[h]?=some i/\i.cls≠""/\i.fs.lookup f=some (.dic b kvs)/\g.tbl[h]?=some a/\v=.ref a/\aj i.cls=some C/\H a=some (.ins C dx fs)/\cQ K aj g H h fs i.fs/\Cls K C/\NoAttr K C f/\f∈aj.fl i.cls/\fs.lookup f=some (.ref l)/\g.ow l=some (h,f)/\jH K aj g H l b kvs:=by
 unfold zR at hi;obtain⟨⟨h',i'⟩,h1,hi⟩:=arF.mp hi;split at hi
 ·next b' kvs' hl=>
  cases hi;obtain⟨rfl,m1,m2⟩:=Jo h1;obtain⟨a,rfl,ha⟩:=LC r;obtain⟨C,dx,fs,c1,c2,c3⟩:=w.ins _ a _ ha m1 m2;have hfl:=w.fd _ _ m1 f (lookup_mem hl);obtain⟨k1,k2⟩:=co _ C f c1 hfl;obtain⟨u,l1,l,rfl,l3,l4⟩:=c3.get hl;exact⟨a,C,dx,fs,l,rfl,m1,m2,hl,ha,rfl,c1,c2,c3,k1,k2,hfl,l1,l3,l4⟩
 ·cases hi
end
theorem Vl{kv:List (Key×V)}{i:Int}:∀{kvs:List (Dat×Dat)},kvs.map (·.1)=kv.map (λp=>keyD p.1)->(kvs.any λp=>PyData.eqv p.1 (.int i))=(valV kv (Sum.inl i)).isSome:=by
 induction kv with
 |nil=>
  intro kvs e;cases kvs with
  |nil=>rfl
  |cons _ _=>cases e
 |cons p r ih=>
  intro kvs e;cases kvs with
  |nil=>cases e
  |cons q t=>
   simp only[arK,List.cons.injEq]at e;rw[asR,ih e.2,e.1];by_cases h:p.1=Sum.inl i
   ·rw[valV_pos h,h];simp[keyD,PyData.eqv]
   ·rw[valV_neg h];have:PyData.eqv (keyD p.1) (.int i)=false:=by
     cases hp:p.1 with
     |inl j=>
      have:j≠i:=λz=>h (by rw[hp,z]);simp[keyD,PyData.eqv,this]
     |inr x=>simp[keyD,PyData.eqv]
    rw[this,Bool.false_or]
theorem Jm{xs:List nR}{k:NestedKey}:∀{kvs:List (Dat×Dat)},kvs.map (·.1)=xs.map (λx=>x.1.data)->(kvs.any λp=>PyData.eqv p.1 k.data)=(atKey xs k).isSome:=by
 induction xs with
 |nil=>
  intro kvs e;cases kvs with
  |nil=>rfl
  |cons _ _=>cases e
 |cons p r ih=>
  intro kvs e;cases kvs with
  |nil=>cases e
  |cons q t=>
   simp only[arK,List.cons.injEq]at e;rw[asR,ih e.2,e.1,abz];unfold atKey;rw[List.find?_cons];cases hd:decide (p.1=k) with
   |true=>rfl
   |false=>rfl
theorem Hw{X:Cx}{pins:List (Addr×Obj)}{σ:L2.St}{H:Hp}{s:Shared}{g:Gh}{l:Addr}{o:Obj}{xs:List nR}{ks:List Dat}(I:L2.Inv X pins σ H s)(h1:H l=some (iW l o))(h2:lO X.w l o xs)(h3:ks=xs.map λx=>x.1.data)(h4:aM X.K g H (xs.map λx=>V.ref x.2.1) ks) :
  s.heap.DictOfH (nestedKind X.prog X.w) l xs:=by
 obtain⟨z1,_,_⟩:=(show ObjOk X.prog X.w H s.heap l (iW l o) from I.hok l _ h1);obtain⟨es,ep,e1,e2⟩:=h2.ent;refine⟨o,es,ep,z1,h2.ex,e1,e2,λx hx=>?_,h2.nd⟩;refine⟨?_,h2.dep x hx⟩;obtain⟨n,hn⟩:=List.mem_iff_getElem?.mp hx;obtain⟨d,hd1,hd2⟩:=h4.get' (i:=n) (v:=V.ref x.2.1) (by rw[arT,hn];rfl);rw[h3,arT,hn]at hd1;cases hd1;exact key_is I hd2 (abY x.1) rfl
def rInD(X:Cx)(neg:Bool):R2:=λx y H Q=>(∃l kv i,y=.ref l/\H l=some (.dK kv)/\x=.int i/\Q (.bl (neg ^^ (valV kv (Sum.inl i)).isSome)) H)∨
 ∃(l:Addr) (o:Obj) (xs:List nR) (g:Gh) (d:Dat) (b:Addr) (k:NestedKey),y=.ref l/\H l=some (iW l o)/\lO X.w l o xs/\aM X.K g H (xs.map λx=>V.ref x.2.1) (xs.map λx=>x.1.data)/\x=.ref b/\Rep X.K g H x d/\uz d=some k/\k.depth<=8/\Q (.bl (neg ^^ (atKey xs k).isSome)) H
section
variable{X:Cx}
theorem op_inD(hu:X.A.units+64 < cLine):OpR X (compareOp .In) (rInD X false):=by
 intro pins s σ H x y v u Q I rx ry h;rcases h with⟨l,kv,i,rfl,hl,rfl,q⟩|⟨l,o,xs,g,d,b,k,rfl,h1,h2,h3,rfl,h4,h5,h6,q⟩
 ·obtain rfl:u=Value.ref l:=ry
  exact d_in (by omega) I (DGet.k (k:=Sum.inl i) hl) rx λs' I'=>⟨.bl _,H,I',rfl,by simpa using q⟩
 ·obtain rfl:u=Value.ref l:=ry
  obtain rfl:v=Value.ref b:=rx
  refine wpAny_in_heap (knd:=nestedKind X.prog X.w) (k:=k) (show X.A.in1.units+8 < cLine by show X.A.units+1+8 < cLine;omega) ⟨key_is I h4 h5 rfl,h6⟩ h2.sys (Hw I h1 h2 rfl h3) ?_;exact⟨.bl _,H,I.tok _,rfl,by simpa using q⟩
theorem op_notInD(hu:X.A.units+64 < cLine):OpR X (compareOp .NotIn) (rInD X true):=by
 intro pins s σ H x y v u Q I rx ry h;rcases h with⟨l,kv,i,rfl,hl,rfl,q⟩|⟨l,o,xs,g,d,b,k,rfl,h1,h2,h3,rfl,h4,h5,h6,q⟩
 ·obtain rfl:u=Value.ref l:=ry
  exact d_notIn (by omega) I (DGet.k (k:=Sum.inl i) hl) rx λs' I'=>⟨.bl _,H,I',rfl,by simpa using q⟩
 ·obtain rfl:u=Value.ref l:=ry
  obtain rfl:v=Value.ref b:=rx
  refine notIn_keyed (knd:=nestedKind X.prog X.w) (k:=k) (show X.A.in1.units+8 < cLine by show X.A.units+1+8 < cLine;omega) ⟨key_is I h4 h5 rfl,h6⟩ h2.sys ⟨xs,Hw I h1 h2 rfl h3,rfl⟩ ?_;rw[valueAt_pairsH,Option.isSome_map];exact⟨.bl _,H,I.tok _,rfl,by simpa using q⟩
end
def Ql(neg:Bool)(f:Str)(k o:QF):QF:=λM Z=>(k M Z).bind λd=>(o M Z).bind λod=>match zR M f od with
 |some (_,_,b,kvs)=>(dhas b kvs d).bind λr=>.ok (.bool (neg ^^ r))
 |none=>.bad
section
variable{X:Cx}{aj:aR}{W:WX}{o k:Expr}{f:Str}{pos p1:Pos}{fo fk:QF}{neg:Bool}{op:CmpOp}
theorem agW(co:jM X.K aj)(hw:aj.w=X.w)(σ:L2.St)(H:Hp)(Q:VK)(h:tQ X.K aj W (Ql neg f fk fo) σ H Q):tOp (rInD X neg) (tQ X.K aj W fk) (tFld X.K (tW X.K aj W fo) f) σ H Q:=by
 obtain⟨g,Z,M,I,h⟩:=h;refine tQ.go I h.bnd λd v H1 h1 e1 r1=>?_;have I1:=I.ex e1;refine tW.go I1 (h1.bnd.mono (λ_ z=>z) λ_ z=>z.ex e1) λod u H2 h2 e2 r2=>?_;have I2:=I1.ex e2;split at h2
 ·next hh i b kvs hd=>
  obtain⟨a,C,dx,fs,l,rfl,m1,m2,ml,ha,rfl,c1,c2,c3,c4,c5,c6,l1,l2,l3⟩:=Ih co I2.wok r2 hd;refine⟨a,C,dx,fs,.ref l,rfl,c2,c4,c5,l1,?_⟩;have r1':=r1.ex e2 I1.kd;unfold dhas at h2;split at h2
  ·next i'=>
   obtain⟨kv,k1,k2,k3⟩:=l3;cases r1';refine .inl ⟨l,kv,i',rfl,k1,rfl,?_⟩;rw[Vl k2]at h2;exact h2 _ H2 (e1.trans e2) (.bl _)
  ·next ds=>
   split at h2
   ·next kk hk=>
    split at h2
    ·next hdep=>
     obtain⟨o',xs,vs,k1,k2,k3,k4,k5,k6⟩:=l3;have ek:=Am hk;rw[←ek,Jm k3]at h2;rw[k3]at k4;rw[hw]at k2;cases r1' with
     | @tup b us _ hs ht=>exact .inr ⟨l,o',xs,g,_,b,kk,rfl,k1,k2,k4,rfl,.tup hs ht,hk,atf hdep,h2 _ H2 (e1.trans e2) (.bl _)⟩
    ·exact atd h2
   ·exact atd h2
  ·exact atd h2
 ·exact atd h2
theorem alp(co:jM X.K aj)(hw:aj.w=X.w)(hr:OpR X (compareOp op) (rInD X neg))(hk:QE aj X W k fk)(ho:QW aj X W o fo)(hb:baseOk o=true):QE aj X W (.Compare k [op] [.Attribute o f p1] pos) (Ql neg f fk fo):=
 PE.weak (pe_cmpR hr hk (pe_fld ho (ni hb)) (by cases op<;>rfl)) λσ H Q h=>agW co hw σ H Q h
end
def DPx(X:Cx)(H:Hp)(a:Addr)(y v:V)(R:Hp->Prop):Prop:=(∃kvs i,H a=some (.dK kvs)/\y=.int i/\kvs.length < sizeLine/\R (upd H a (.dK (putK kvs (Sum.inl i) v))))∨
 ∃(o:Obj) (xs:List nR) (g:Gh) (d:Dat) (b:Addr) (k:NestedKey),H a=some (iW a o)/\lO X.w a o xs/\aM X.K g H (xs.map λx=>V.ref x.2.1) (xs.map λx=>x.1.data)/\y=.ref b/\Rep X.K g H y d/\uz d=some k/\k.depth<=8/\xs.length < sizeLine/\∀(o':Obj) (u:Value),RelV v u->lO X.w a o' (storedH xs k b u)->R (upd H a (iW a o'))
theorem La{P:Program}{w:World}{H:Hp}{h:Heap}{l:Addr}{o:Obj}(e:h.get? l=some o):ObjOk P w H h l (iW l o):=⟨e,⟨o,e⟩,λ_ _ e1 k=>k _ e1⟩
theorem aaV{xs:List nR}{k:NestedKey}{b:Addr}{u:Value}:(storedH xs k b u).map (·.1)=if (atKey xs k).isSome then xs.map (·.1) else xs.map (·.1)++[k]:=by
 unfold storedH;split
 ·rw[asi];refine List.map_congr_left λx _=>?_
  show(putAt k u x).1=x.1
  unfold putAt
  split<;>rfl
 ·simp
theorem Rg{xs:List nR}{k:NestedKey}{b:Addr}{u:Value}:(storedH xs k b u).length<=xs.length+1:=by
 unfold storedH
 split<;>simp
theorem TV{xs:List nR}{k:NestedKey}{b:Addr}{u:Value}(h:∀x∈xs,x.1.depth<=8)(hk:k.depth<=8):∀x∈storedH xs k b u,x.1.depth<=8:=λx hx=>by
 have:x.1∈(storedH xs k b u).map (·.1):=arQ.mpr ⟨x,hx,rfl⟩;rw[aaV]at this;have old:∀{z:NestedKey},z∈xs.map (·.1)->z.depth<=8:=λ{z} m=>by
  obtain⟨y,hy,rfl⟩:=arQ.mp m;exact h y hy
 split at this
 ·exact old this
 ·rcases arR.mp this with z|z
  ·exact old z
  ·rw[arO.mp z];exact hk
section
variable{X:Cx}{o i value:Expr}{td ty tv:TE}{pos pos':Pos}
def anJ(X:Cx)(td ty tv:TE):TS:=λD σ H=>tv σ H λv H1=>td σ H1 λx H2=>ty σ H2 λy H3=>∃a,x=.ref a/\DPx X H3 a y v λH4=>D.nx σ H4
theorem agF(hu:X.A.units+64 < cLine)(ho:PE X o td)(hi:PE X i ty)(hv:PE X value tv)(hs:swapsWith value (some (.Subscript o i pos')) pos.line X.env=pure false):PS X (.Assign [.Subscript o i pos'] value pos) (anJ X td ty tv):=by
 refine⟨λpins s σ H D I h=>?_⟩;refine wpAny_Assign_Subscript (thn (hv.run pins s σ H _ I h) λr s1 ⟨v,H1,I1,rv,q1⟩=>thn (ho.run pins s1 σ H1 _ I1 q1) λu s2 ⟨x,H2,I2,rx,q2⟩=>thn (hi.run pins s2 σ H2 _ I2 q2) λiv s3 ⟨y,H3,I3,ry,a,ex,q3⟩=>?_) hs;subst ex
 obtain rfl:u=Value.ref a:=rx
 rcases q3 with⟨kvs,j,h1,rfl,hl,q⟩|⟨ob,xs,g,d,b,k,h1,h2,h3,rfl,h4,h5,h6,hl,q⟩
 ·exact d_setItem (by omega) I3 (DPut.k (k:=Sum.inl j) h1 hl) ry rv λs4 I4=>⟨σ,_,I4,q⟩
 ·obtain rfl:iv=Value.ref b:=ry
  refine wpAny_setItem_heap (knd:=nestedKind X.prog X.w) (k:=k) (hsz:=Nat.le_of_lt hl) (show X.A.in1.units+8 < cLine by show X.A.units+1+8 < cLine;omega) ⟨key_is I3 h4 h5 rfl,h6⟩ (Hw I3 h1 h2 rfl h3) λh' dd hs'=>?_;obtain⟨o',es,ep,g1,g2,g3,g4,g5,g6⟩:=dd;have nd:lO X.w a o' (storedH xs k b r):=⟨h2.sys,g2,⟨es,ep,g3,g4⟩,g6,by have:=Rg (xs:=xs) (k:=k) (b:=b) (u:=r);omega,TV h2.dep h6⟩;exact⟨σ,_,d_write I3 (by rw[h1];exact True.intro) hs' ⟨o',g1⟩ (La g1),q o' r rv nd⟩
end
theorem aM.back{K:arG}{g:Gh}{H:Hp}{vs:List V}{ds:List Dat}{v:V}{d:Dat}(h:aM K g H vs ds)(r:Rep K g H v d):aM K g H (vs++[v]) (ds++[d]):=h.append (.cons r .nil)
theorem Nz{K:arG}{aj:aR}{f:Str}{σ:L2.St}{Z:Env}{g:Gh}{H:Hp}{M:Mo}{h:Nat}{i:Inst}{b:Bool}{kvs':List (Dat×Dat)}{a C dx l:Addr}{fs:List (Str×V)}{o':HO}(I:SInv K aj σ H g Z M)(m1:M[h]?=some i)(m2:i.cls≠"")(ha:g.tbl[h]?=some a)(c1:aj i.cls=some C)(c2:H a=some (.ins C dx fs))(c3:cQ K aj g H h fs i.fs)(hfl:f∈aj.fl i.cls)(l1:fs.lookup f=some (.ref l))(l4:g.ow l=some (h,f))(mu:Ju o')
  (new:Gr false g g H (upd H l o')->jH K aj g (upd H l o') l b kvs'):Gr false g g H (upd H l o')/\SInv K aj σ (upd H l o') g Z (M.set h (i.put f (.dic b kvs'))):=by
 have ch:=ae3 (o':=o') I.kd I.wok l4 mu;have nla:a≠l:=λz=>by
  subst z;rw[I.wok.tw h a i ha m1 m2]at l4;cases l4
 have w':=I.wok.chg I.kd ch ha m1 m2 hfl c1 (dx:=dx) c3 (v:=.ref l) (fl:=.dic b kvs') (by rw[upd_ne nla,Mp l1];exact c2) ⟨l,rfl,l4,new ch.gc.gr⟩;exact⟨ch.gc.gr,I.chg ch w'⟩
def Nv(f:Str)(o k e:QF):SF:=λM Z=>((e M Z).at M).then Z λv _=>((o M Z).at M).then Z λod _=>match zR M f od with
 |some (h,i,b,kvs)=>((k M Z).at M).then Z λd _=>match dhas b kvs d,decide (kvs.length < 100000) with
  |.ok false,true=>.next Z (M.set h (i.put f (.dic b (kvs++[(d,v)]))))
  |_,_=>.bad
 |none=>.bad
def Nq(f:Str)(o k:QF):SF:=λM Z=>((o M Z).at M).then Z λod _=>match zR M f od with
 |some (h,i,b,kvs)=>((k M Z).at M).then Z λd _=>match dhas b kvs d,decide (kvs.length<=100000) with
  |.ok true,true=>.next Z (M.set h (i.put f (.dic b (kvs.filter λp=>!PyData.eqv p.1 d))))
  |_,_=>.bad
 |none=>.bad
theorem VF{kvs:List (Dat×Dat)}{b r:Bool}{d:Dat}(h:dhas b kvs d=.ok r):(kvs.any λp=>PyData.eqv p.1 d)=r/\((b=false/\∃i,d=.int i)∨(b=true/\∃ds k,d=.tuple ds/\uz d=some k/\k.depth<=8)):=by
 unfold dhas at h;split at h
 ·next i=>
  cases h;exact⟨rfl,.inl ⟨rfl,i,rfl⟩⟩
 ·next ds=>
  split at h
  ·next k hk=>
   split at h
   ·next hd=>
    cases h;exact⟨rfl,.inr ⟨rfl,ds,k,rfl,hk,atf hd⟩⟩
   ·cases h
  ·cases h
 ·cases h
section
variable{X:Cx}{aj:aR}{W:WX}{o e i:Expr}{f:Str}{pos pos' p1:Pos}{fo fe fk:QF}
theorem aib(co:jM X.K aj)(hw:aj.w=X.w)(hu:X.A.units+64 < cLine)(ho:QW aj X W o fo)(hb:baseOk o=true)(hk:QE aj X W i fk)(he:QE aj X W e fe)(hs:swapsWith e (some (.Subscript (.Attribute o f p1) i pos')) pos.line X.env=pure false) :
  SE aj X W false (.Assign [.Subscript (.Attribute o f p1) i pos'] e pos) (Nv f fo fk fe):=by
 refine PS.weak (agF hu (pe_fld ho (ni hb)) hk he hs) λD σ H ⟨g,Z,M,I,z⟩=>?_;unfold Nv at z;have k1:=Out.jh (dI (σ:=σ) z);refine tQ.go I (k1.mono (λ_ y=>y) λx y H' c dd ex rx=>y H' _ c dd (Gr.ex ex) (I.ex ex) rx) λd v H1 k2 e1 rv=>?_;have I1:=I.ex e1;have k2:=Out.jh (dI (σ:=σ) k2);refine tW.go I1 (k2.mono (λ_ y=>y) λx y H' c dd ex rx=>y H' _ c dd ((Gr.ex e1).trans (Gr.ex ex)) (I1.ex ex) rx) λod u H2 k3 e2 ru=>?_;have I2:=I1.ex e2;have e12:=e1.trans e2;split at k3
 ·next h i' b kvs hl=>
  obtain⟨a,C,dx,fs,l,rfl,m1,m2,ml,ha,rfl,c1,c2,c3,c4,c5,c6,l1,l2,l3⟩:=Ih co I2.wok ru hl;refine⟨a,C,dx,fs,.ref l,rfl,c2,c4,c5,l1,?_⟩;have k3:=Out.jh (dI (σ:=σ) k3);refine tQ.go I2 (k3.mono (λ_ y=>y) λx y H' c dd ex rx=>y H' _ c dd ((Gr.ex e12).trans (Gr.ex ex)) (I2.ex ex) rx) λkd w H3 k4 e3 rk=>?_;have I3:=I2.ex e3;have l3':=l3.ex e3 I2.kd;have rv3:=(rv.ex e2 I1.kd).ex e3 I2.kd;refine⟨l,rfl,?_⟩;split at k4
  ·next hh hz=>
   obtain⟨ha2,hcase⟩:=VF hh;have hz:=atf hz;rcases hcase with⟨rfl,j,rfl⟩|⟨rfl,ds,kk,rfl,hkk,hdep⟩
   ·obtain⟨kv,q1,q2,q3⟩:=l3';cases rk;have hlen:kv.length=kvs.length:=by
     have:=congrArg List.length q2;simpa using this.symm
    rw[Vl q2]at ha2;have hn:valV kv (Sum.inl j)=none:=by
     cases hv:valV kv (Sum.inl j) with
     |none=>rfl
     |some _=>rw[hv]at ha2;cases ha2
    refine .inl ⟨kv,j,q1,rfl,sz_lt (by rw[hlen];exact hz),?_⟩;rw[putK_new v hn];obtain⟨gr,I4⟩:=Nz (b:=false) (kvs':=kvs++[(.int j,d)]) (o':=.dK (kv++[(Sum.inl j,v)])) I3 m1 m2 ha c1 (e3 _ _ c2) (c3.ex e3 I2.kd) c6 l1 l2 trivial λgr=>⟨_,upd_same,by simp[q2,keyD],by
     rw[asq,asq];exact(q3.gr gr I3.kd).back (rv3.gr gr I3.kd)⟩
    exact k4 σ _ g ((Gr.ex (e12.trans e3)).trans gr) I4
   ·obtain⟨o',xs,vs,q1,q2,q3,q4,q5,q6⟩:=l3';have hlen:xs.length=kvs.length:=by
     have:=congrArg List.length q3;simpa using this.symm
    have ek:=Am hkk;rw[←ek,Jm q3]at ha2;have hn:atKey xs kk=none:=by
     cases hv:atKey xs kk with
     |none=>rfl
     |some _=>rw[hv]at ha2;cases ha2
    have q4':=q4;rw[q3]at q4';rw[hw]at q2;cases rk with
    | @tup bb us _ hs' ht=>
     refine .inr ⟨o',xs,g,_,bb,kk,q1,q2,q4',rfl,.tup hs' ht,hkk,hdep,sz_lt (by rw[hlen];exact hz),λo2 u2 ru2 nd=>?_⟩;rw[storedH_new hn]at nd;obtain⟨gr,I4⟩:=Nz (b:=true) (kvs':=kvs++[(.tuple ds,d)]) (o':=iW l o2) I3 m1 m2 ha c1 (e3 _ _ c2) (c3.ex e3 I2.kd) c6 l1 l2 trivial λgr=>⟨o2,xs++[(kk,bb,u2)],vs++[v],upd_same,by rw[hw];exact nd,by simp[q3,ek],by
      rw[asq,asq];exact(q4.gr gr I3.kd).back ((Rep.tup hs' ht).gr gr I3.kd),by
      rw[asq];exact q5.append (.cons ru2 .nil),by
      rw[asq];exact(q6.gr gr I3.kd).back (rv3.gr gr I3.kd)⟩
     exact k4 σ _ g ((Gr.ex (e12.trans e3)).trans gr) I4
  ·exact atd k4
 ·exact atd k3
end
section
variable{X:Cx}{o i:Expr}{td ty:TE}{pos tpos:Pos}
def anP(X:Cx)(td ty:TE):TS:=λD σ H=>td σ H λx H2=>ty σ H2 λy H3=>∃a,x=.ref a/\((∃kvs i,H3 a=some (.dK kvs)/\y=.int i/\(valV kvs (Sum.inl i)).isSome=true/\D.nx σ (upd H3 a (.dK (dropK kvs (Sum.inl i)))))∨
 ∃(o:Obj) (xs:List nR) (g:Gh) (d:Dat) (b:Addr) (k:NestedKey),H3 a=some (iW a o)/\lO X.w a o xs/\aM X.K g H3 (xs.map λx=>V.ref x.2.1) (xs.map λx=>x.1.data)/\y=.ref b/\Rep X.K g H3 y d/\uz d=some k/\k.depth<=8/\(atKey xs k).isSome=true/\∀(o':Obj),lO X.w a o' (withoutH xs k)->D.nx σ (upd H3 a (iW a o')))
theorem agy(hu:X.A.units+64 < cLine)(ho:PE X o td)(hi:PE X i ty):PS X (.Delete [.Subscript o i tpos] pos) (anP X td ty):=by
 refine⟨λpins s σ H D I h=>?_⟩;refine wpAny_Delete (wpAny_deleteEach_cons (wpAny_delete_Subscript (thn (ho.run pins s σ H _ I h) λu s1 ⟨x,H1,I1,rx,q1⟩=>thn (hi.run pins s1 σ H1 _ I1 q1) λiv s2 ⟨y,H2,I2,ry,a,ex,q2⟩=>?_)));subst ex
 obtain rfl:u=Value.ref a:=rx
 rcases q2 with⟨kvs,j,h1,rfl,hl,q⟩|⟨ob,xs,g,d,b,k,h1,h2,h3,rfl,h4,h5,h6,hl,q⟩
 ·exact d_delItem (k:=Sum.inl j) I2 h1 ry hl λs3 I3=>wpAny_deleteEach_nil ⟨σ,_,I3,q⟩
 ·obtain rfl:iv=Value.ref b:=ry
  obtain⟨p,hp⟩:=Option.isSome_iff_exists.mp hl;refine wpAny_delItem_heap (knd:=nestedKind X.prog X.w) (k:=k) (hsz:=h2.len) (show X.A.in1.units+8 < cLine by show X.A.units+1+8 < cLine;omega) ⟨key_is I2 h4 h5 rfl,h6⟩ h2.sys (Hw I2 h1 h2 rfl h3) hp λh' dd hs'=>?_;obtain⟨o',es,ep,g1,g2,g3,g4,g5,g6⟩:=dd;have nd:lO X.w a o' (withoutH xs k):=⟨h2.sys,g2,⟨es,ep,g3,g4⟩,g6,ar8 (ar3 _ _) h2.len,λx hx=>h2.dep x (ar4.mp hx).1⟩;exact wpAny_deleteEach_nil ⟨σ,_,d_write I2 (by rw[h1];exact True.intro) hs' ⟨o',g1⟩ (La g1),q o' nd⟩
end
theorem Qx{α β:Type}(f:α->β)(c:α->Bool):∀l:List α,(((l.map f).zip l).filter λp=>c p.2).map (·.1)=(l.filter c).map f
 |[]=>rfl
 |a::l=>by
  rw[arK,ash,asf,asf];cases c a
  ·exact Qx f c l
  ·simp only[if_true,arK,Qx f c l]
theorem ag1{K:arG}{g:Gh}{H:Hp}(kk:NestedKey):∀{xs:List nR} {vs:List V} {kvs:List (Dat×Dat)},kvs.map (·.1)=xs.map (λx=>x.1.data)->aM K g H (xs.map λx=>V.ref x.2.1) (kvs.map (·.1))->Vals vs (xs.map (·.2.2))->aM K g H vs (kvs.map (·.2))->
  ∃vs',(kvs.filter λp=>!PyData.eqv p.1 kk.data).map (·.1)=(withoutH xs kk).map (λx=>x.1.data)/\aM K g H ((withoutH xs kk).map λx=>V.ref x.2.1) ((kvs.filter λp=>!PyData.eqv p.1 kk.data).map (·.1))/\Vals vs' ((withoutH xs kk).map (·.2.2))/\aM K g H vs' ((kvs.filter λp=>!PyData.eqv p.1 kk.data).map (·.2))
 |[],_,[],_,_,.nil,_=>⟨[],rfl,.nil,.nil,.nil⟩
 |[],_,_::_,h,_,_,_=>by cases h
 |_::_,_,[],h,_,_,_=>by cases h
 |x::xs,_,q::qs,h1,.cons r1 t1,.cons w1 w2,.cons r2 t2=>by
  simp only[arK,List.cons.injEq]at h1;obtain⟨vs',i1,i2,i3,i4⟩:=ag1 kk h1.2 t1 w2 t2;have hq:(!PyData.eqv q.1 kk.data)=decide (x.1≠kk):=by rw[h1.1,abz];by_cases hz:x.1=kk<;>simp[hz]
  unfold withoutH;rw[asf,asf,hq];cases hb:decide (x.1≠kk) with
  |true=>exact⟨_::vs',by simp only[if_true,arK,h1.1];exact congrArg _ i1,by simp only[if_true,arK];exact .cons r1 i2,by simp only[if_true,arK];exact .cons w1 i3,by simp only[if_true,arK];exact .cons r2 i4⟩
  |false=>
   simp only[ar6,if_false];exact⟨vs',i1,i2,i3,i4⟩
theorem ajg{K:arG}{g:Gh}{H:Hp}{α:Type}(c:α->Bool)(key:α->Dat)(dd:Dat->Bool):∀{vs:List V} {kvs:List (Dat×Dat)} {xs:List α},(∀x∈xs,c x=dd (key x))->kvs.map (·.1)=xs.map key->vs.length=xs.length->aM K g H vs (kvs.map (·.2))->
  (kvs.filter λp=>dd p.1).map (·.1)=(xs.filter c).map key/\aM K g H (((vs.zip xs).filter λp=>c p.2).map (·.1)) ((kvs.filter λp=>dd p.1).map (·.2))
 |[],[],[],_,_,_,_=>⟨rfl,.nil⟩
 |[],[],_::_,_,h,_,_=>by cases h
 |[],_::_,_,_,_,_,h=>by cases h
 |_::_,[],_,_,_,_,h=>by cases h
 |_::_,_::_,[],_,h,_,_=>by cases h
 |u::us,q::qs,x::xs,hc,hk,hl,.cons h t=>by
  simp only[arK,List.cons.injEq]at hk;have hq:=hc x arM;rw[←hk.1]at hq;obtain⟨i1,i2⟩:=ajg c key dd (λy hy=>hc y (arL _ hy)) hk.2 (atb hl) t;rw[ash,asf,asf,asf,hq];cases hb:dd q.1 with
  |true=>exact⟨by simp only[if_true,arK,i1,hk.1],by simp only[if_true,arK];exact .cons h i2⟩
  |false=>exact⟨by simpa using i1,by simpa using i2⟩
section
variable{X:Cx}{aj:aR}{W:WX}{o i:Expr}{f:Str}{pos tpos p1:Pos}{fo fk:QF}
theorem ain(co:jM X.K aj)(hw:aj.w=X.w)(hu:X.A.units+64 < cLine)(ho:QW aj X W o fo)(hb:baseOk o=true)(hk:QE aj X W i fk):SE aj X W false (.Delete [.Subscript (.Attribute o f p1) i tpos] pos) (Nq f fo fk):=by
 refine PS.weak (agy hu (pe_fld ho (ni hb)) hk) λD σ H ⟨g,Z,M,I,z⟩=>?_;unfold Nq at z;have k2:=Out.jh (dI (σ:=σ) z);refine tW.go I (k2.mono (λ_ y=>y) λx y H' c dd ex rx=>y H' _ c dd (Gr.ex ex) (I.ex ex) rx) λod u H2 k3 e2 ru=>?_;have I2:=I.ex e2;split at k3
 ·next h i' b kvs hl=>
  obtain⟨a,C,dx,fs,l,rfl,m1,m2,ml,ha,rfl,c1,c2,c3,c4,c5,c6,l1,l2,l3⟩:=Ih co I2.wok ru hl;refine⟨a,C,dx,fs,.ref l,rfl,c2,c4,c5,l1,?_⟩;have k3:=Out.jh (dI (σ:=σ) k3);refine tQ.go I2 (k3.mono (λ_ y=>y) λx y H' c dd ex rx=>y H' _ c dd ((Gr.ex e2).trans (Gr.ex ex)) (I2.ex ex) rx) λkd w H3 k4 e3 rk=>?_;have I3:=I2.ex e3;have l3':=l3.ex e3 I2.kd;refine⟨l,rfl,?_⟩;split at k4
  ·next hh hz=>
   obtain⟨ha2,hcase⟩:=VF hh;rcases hcase with⟨rfl,j,rfl⟩|⟨rfl,ds,kk,rfl,hkk,hdep⟩
   ·obtain⟨kv,q1,q2,q3⟩:=l3';cases rk;rw[Vl q2]at ha2;refine .inl ⟨kv,j,q1,rfl,ha2,?_⟩;have hf:=λ(H':Hp)(r:aM X.K g H' (kv.map (·.2)) (kvs.map (·.2)))=>ajg (K:=X.K) (g:=g) (H:=H') (λp:Key×V=>decide (p.1≠Sum.inl j)) (λp=>keyD p.1) (λz=>!PyData.eqv z (.int j)) (vs:=kv.map (·.2)) (kvs:=kvs) (xs:=kv) (λx _=>by
     cases hx:x.1 with
     |inl z=>by_cases hz:z=j<;>simp[keyD,PyData.eqv,hz]
     |inr z=>simp[keyD,PyData.eqv]) q2 (by simp) r
    have ez:(((kv.map (·.2)).zip kv).filter λp=>decide (p.2.1≠Sum.inl j)).map (·.1)=(dropK kv (Sum.inl j)).map (·.2):=Qx (·.2) (λp:Key×V=>decide (p.1≠Sum.inl j)) kv;obtain⟨gr,I4⟩:=Nz (b:=false) (kvs':=kvs.filter λp=>!PyData.eqv p.1 (.int j)) (o':=.dK (dropK kv (Sum.inl j))) I3 m1 m2 ha c1 (e3 _ _ c2) (c3.ex e3 I2.kd) c6 l1 l2 trivial λgr=>⟨_,upd_same,(hf _ (q3.gr gr I3.kd)).1,by
     rw[←ez];exact(hf _ (q3.gr gr I3.kd)).2⟩
    exact k4 σ _ g ((Gr.ex (e2.trans e3)).trans gr) I4
   ·obtain⟨o',xs,vs,q1,q2,q3,q4,q5,q6⟩:=l3';have ek:=Am hkk;rw[←ek,Jm q3]at ha2;rw[hw]at q2;have q4':=q4;rw[q3]at q4';cases rk with
    | @tup bb us _ hs' ht=>
     refine .inr ⟨o',xs,g,_,bb,kk,q1,q2,q4',rfl,.tup hs' ht,hkk,hdep,ha2,λo2 nd=>?_⟩;obtain⟨gr,I4⟩:=Nz (b:=true) (kvs':=kvs.filter λp=>!PyData.eqv p.1 (.tuple ds)) (o':=iW l o2) I3 m1 m2 ha c1 (e3 _ _ c2) (c3.ex e3 I2.kd) c6 l1 l2 trivial λgr=>by
      obtain⟨vs',i1,i2,i3,i4⟩:=ag1 kk q3 (q4.gr gr I3.kd) q5 (q6.gr gr I3.kd);rw[ek]at i1 i2 i4;exact⟨o2,withoutH xs kk,vs',upd_same,by rw[hw];exact nd,i1,i2,i3,i4⟩
     exact k4 σ _ g ((Gr.ex (e2.trans e3)).trans gr) I4
  ·exact atd k4
 ·exact atd k3
end
def ItD(l:Addr)(o:Obj)(xs:List nR):It:=
 ⟨λi H=>H l=some (iW l o)/\i < xs.length,λi H x H'=>H'=H/\∃e,xs[i]?=some e/\x=.ref e.2.1,λi H=>H l=some (iW l o)/\xs.length<=i⟩
theorem pin_at{X:Cx}{pins:List (Addr×Obj)}{σ:L2.St}{H:Hp}{s:Shared}{l:Addr}{o:Obj}(I:L2.Inv X pins σ H s)(h:H l=some (iW l o)):s.heap.get? l=some o:=(show ObjOk X.prog X.w H s.heap l (iW l o) from I.hok l _ h).1
theorem lO.at{w:World}{l:Addr}{o:Obj}{xs:List nR}{es:Array DictEntry}{ep:Nat}(n:lO w l o xs)(h:o.data=.dict es ep):es.size=xs.length/\∀(i:Nat) (e:nR),xs[i]?=some e->∃en,es[i]?=some en/\en.key=.ref e.2.1:=by
 obtain⟨es',ep',h1,h2⟩:=n.ent;rw[h]at h1;cases h1;refine⟨?_,λi e hi=>⟨ae5 w e,?_,rfl⟩⟩
 ·have:=congrArg List.length h2;simpa using this
 ·rw[←asI,h2,arT,hi];rfl
theorem al1{P:Program}{w:World}{K:arG}{tg:Expr}{l:Addr}{o:Obj}{xs:List nR}{es:Array DictEntry}{ep:Nat}(it:Addr)(n:lO w l o xs)(hod:o.data=.dict es ep):Turn P w K tg (ItD l o xs) [it] it (λi h=>h.IsKeyIter it l i xs.length ep) where
 mem:=arO.mpr rfl
 obj:=λi h st b hb=>by
  cases arO.mp hb;obtain⟨oi,e,c,dd⟩:=st;refine⟨oi,e,λv z=>?_⟩;rw[dd]at z;cases z
 keep:=λi h h' st k=>st.at (k it (arO.mpr rfl))
 item:=by intro X hP hw hK hc i pins s σ H E I hf st hg;subst hP hw hK;obtain⟨g0,g1,g2,g3,g4,g5⟩:=hf it (arO.mpr rfl);obtain⟨sz,ent⟩:=n.at hod;have hlt:i < xs.length:=hg.2;have hx:xs[i]?=some xs[i]:=arI hlt;obtain⟨en,e1,e2⟩:=ent i _ hx;refine next_key_item st (pin_at I hg.1) hod sz e1 ?_;intro h' st' sb;have J:L2.Inv X pins σ H { s with heap:=h' }:=I.turned (t':=s.toks) (λb ob hb e=>(sb.2 b hb).trans e) g0 g1 g3 g4 g5;obtain⟨oi,a1,a2,a3⟩:=id st';exact⟨en.key,rfl,go_of (s:={ s with heap:=h' }) a1 a2 a3 (by decide) ⟨.ref xs[i].2.1,H,J,e2,⟨rfl,_,hx,rfl⟩,st',λb hb=>(hf b hb).1⟩⟩
 done:=by intro X hP hw hK hc i pins s σ H E I hf st hg;subst hP hw hK;obtain⟨g0,g1,g2,g3,g4,g5⟩:=hf it (arO.mpr rfl);exact next_key_end (I.ok.hd hc) st (pin_at I hg.1) hod (n.at hod).1 hg.2 λh' eb=>⟨rfl,I.turned (t':=s.toks) (λb ob hb e=>eb b ob hb e) g0 g1 g3 g4 g5⟩
 self:=λA i s Q E st h=>by
  refine wpAny_pyIter_slot st.typeIs PySem.F.slot_dict_keyiterator_iter (wpAny_call_entry PySem.F.slot_dict_keyiterator_iter st.typeIs PySem.F.entry_dict_keyiterator_iter ?_ (PySem.F.args_dict_keyiterator_iter_1 _));exact wpAny_pure ⟨_,rfl,"dict_keyiterator",_,st.typeIs,PySem.F.slot_dict_keyiterator_next.lookup,h⟩
def aof(X:Cx)(td:TE):TI:=λσ H R=>td σ H λx H1=>∃l o xs,x=.ref l/\H1 l=some (iW l o)/\lO X.w l o xs/\R (ItD l o xs) H1
theorem aks{X:Cx}{tg e:Expr}{td:TE}(he:PE X e td):PI X tg e (aof X td):=by
 constructor;intro pins s σ H R I h;refine thn (he.run pins s σ H _ I h) ?_;rintro u s1 ⟨x,H1,I1,rx,l,o,xs,rfl,hl,n,q⟩
 obtain rfl:u=Value.ref l:=rx
 obtain⟨es,ep,hd,_⟩:=n.ent;refine iter_keys n.sys (pin_at I1 hl) n.ex hd (pi_one (tk:=s1.toks) I1 _ (al1 _ n hd) ⟨_,Heap.get?_push_size _ rfl,rfl,?_⟩ q);rw[(n.at hd).1]<;>rfl
theorem ah8{K:arG}{aj:aR}{l:Addr}{o:Obj}{xs:List nR}{ks:List Dat}:Kh K (ItD l o xs) (λg H=>H l=some (iW l o)/\aM K g H (xs.map λx=>V.ref x.2.1) ks) ks where
 go:=λg i H c hi=>⟨c.1,by have:=c.2.length;simp at this;omega⟩
 yld:=λg i H x H' d k c e y=>by
  obtain⟨rfl,en,h1,rfl⟩:=y;obtain⟨v,h2,h3⟩:=c.2.get e;rw[arT,h1]at h2;cases h2;exact⟨Ex.refl _,h3⟩
 stop:=λg i H c e=>⟨c.1,by have:=c.2.length;simp at this;omega⟩
 ex:=λg H H' k c e=>⟨e _ _ c.1,c.2.ex e k⟩
 add:=λg g' H H' k c r e=>⟨e _ _ c.1,c.2.gr r k⟩
def Dd(f:Str)(o:QF):IF:=λM Z=>(o M Z).bind λod=>match zR M f od with
 |some (_,_,true,kvs)=>.ok (kvs.map (·.1))
 |_=>.bad
def DG(f:Str)(o:QF):QF:=λM Z=>(o M Z).bind λod=>match zR M f od with
 |some (_,_,_,kvs)=>.ok (.list (kvs.map (·.1)))
 |none=>.bad
section
variable{X:Cx}{aj:aR}{W:WX}{o tg:Expr}{f:Str}{pos p p1:Pos}{fo:QF}
theorem afH(co:jM X.K aj)(hw:aj.w=X.w)(ho:QW aj X W o fo)(hb:baseOk o=true):QI aj X W false tg (.Attribute o f p1) (Dd f fo):=by
 have h0:=aks (tg:=tg) (pe_fld (X:=X) (pos:=p1) (f:=f) ho (ni hb));refine⟨λpins s σ H R I h=>h0.run pins s σ H R I ?_⟩;obtain⟨g,Z,M,J,h⟩:=h;unfold Dd at h;refine tW.go J h.bnd λod u H1 k2 e1 ru=>?_;have J1:=J.ex e1;split at k2
 ·next h i kvs hl=>
  obtain⟨a,C,dx,fs,l,rfl,m1,m2,ml,ha,rfl,c1,c2,c3,c4,c5,c6,l1,l2,o',xs,vs,q1,q2,q3,q4,q5,q6⟩:=Ih co J1.wok ru hl;rw[hw]at q2;exact⟨a,C,dx,fs,.ref l,rfl,c2,c4,c5,l1,l,o',xs,rfl,q1,q2,k2 _ _ H1 e1 (ah8 (aj:=aj)) ⟨q1,q4⟩ λz=>nomatch z⟩
 ·exact atd k2
end
theorem agJ{P:Program}{w:World}{A:Around}{l I:Addr}{o:Obj}{xs:List nR}{es:Array DictEntry}{ep:Nat}(hh:A.handled=none)(hne:l≠I)(n:lO w l o xs)(hd:o.data=.dict es ep):Walks P w A I [I,l] [I] xs.length (λi v=>∃e,xs[i]?=some e/\v=Value.ref e.2.1) (λi h=>h.IsKeyIter I l i xs.length ep/\h.get? l=some o) where
 sub:=λb hb=>by simp at hb;simp[hb]
 frame:=λi h h' st k=>⟨st.1.at (k I (by simp)),k l (by simp) o st.2⟩
 item:=λi s Q E hi st hQ=>by
  obtain⟨sz,ent⟩:=n.at hd;have hx:xs[i]?=some xs[i]:=arI hi;obtain⟨en,e1,e2⟩:=ent i _ hx;refine next_key_item st.1 st.2 hd sz e1 ?_;intro h' st' sb;exact hQ en.key h' s.toks ⟨_,hx,e2⟩ ⟨st',(sb.2 l hne).trans st.2⟩ λb ob hb e=>(sb.2 b λz=>hb (by simp[z])).trans e
 done:=λs Q E st hQ=>next_key_end hh st.1 st.2 hd (n.at hd).1 (ar9 _) λh' eb=>hQ h' s.toks λb ob hb e=>eb b ob (λz=>hb (by simp[z])) e
 self:=λi s Q E st hQ=>wpAny_pyIter_keyiter st.1 hQ
theorem ahA{P:Program}{w:World}{l:Addr}{o:Obj}{xs:List nR}(n:lO w l o xs):PySem.W.KdlSrc P w "dict" l l xs.length (λi v=>∃e,xs[i]?=some e/\v=Value.ref e.2.1) (λh=>h.get? l=some o) where
 type:=λs e=>⟨o,e,n.ex.1⟩
 there:=λh e=>⟨Heap.lt_size e,Heap.lt_size e⟩
 keep:=λh h' e k=>k l (.inl rfl) o e
 notList:=by decide
 notTuple:=by decide
 hint:=λA E s Q e hq=>PySem.W.kdl_hint_dict ⟨o,e,n.ex.1⟩ hq
 iter:=λA s hh e=>by
  obtain⟨es,ep,hd,_⟩:=n.ent;refine⟨_,_,λE Q hq=>iter_keys n.sys e n.ex hd hq,agJ hh (asu (Heap.lt_size e)) n hd,⟨_,Heap.get?_push_size _ rfl,rfl,?_⟩,Heap.get?_push_of_some _ e⟩;rw[(n.at hd).1]<;>rfl
def ady(X:Cx):List V->Hp->VK->Prop:=λxs H Q=>(∃p kvs,xs=[.ref p]/\H p=some (.dK kvs)/\∀q,H q=none->Q (.ref q) (upd H q (.lst (kvs.map λkv=>kV kv.1))))∨∃p o es,xs=[.ref p]/\H p=some (iW p o)/\lO X.w p o es/\∀q,H q=none->Q (.ref q) (upd H q (.lst (es.map λe=>V.ref e.2.1)))
theorem acD{X:Cx}(hc:X.calm=true):CallR X (.type "list") (ady X):=by
 intro pins s σ H xs us Q I r h;rcases h with h|⟨p,o,es,rfl,hp,n,q⟩
 ·exact call_list_dK hc pins s σ H xs us Q I r h
 ·obtain⟨u,rfl,rx⟩:=vals1 r
  obtain rfl:u=Value.ref p:=rx
  refine PySem.W.kdl_call (ahA n) (I.ok.hd hc) (pin_at I hp) n.len ?_;intro h' tk acc c' keep hS hacc;have el:acc.toList.length=es.length:=by rw[asr];exact hacc.1
  refine⟨.ref s.heap.objs.size,upd H s.heap.objs.size (.lst (es.map λe=>V.ref e.2.1)),I.laid keep (ar9 _) (show ObjOk X.prog X.w _ _ _ (.lst (es.map λe=>V.ref e.2.1)) from⟨by rw[arU];exact n.len,acc.toList,c',?_,?_⟩),rfl,q _ (I.hok.fresh (ar9 _))⟩
  ·refine vals_of_at (by rw[arU,el]) λj x w h1 h2=>?_;obtain⟨e,he,rfl⟩:=hacc.2 j w (by rw[←asI];exact h2);rw[arT,he]at h1;cases h1;rfl
  ·rw[Array.toArray_toList];exact hS
section
variable{X:Cx}{aj:aR}{W:WX}{o e:Expr}{f:Str}{pos p p1 pos':Pos}{fo:QF}
theorem Za{K:arG}{g:Gh}{H:Hp}:∀{kv:List (Key×V)} {kvs:List (Dat×Dat)},kvs.map (·.1)=kv.map (λp=>keyD p.1)->aM K g H (kv.map λp=>kV p.1) (kvs.map (·.1))
 |[],[],_=>.nil
 |[],_::_,h=>by cases h
 |_::_,[],h=>by cases h
 |a::kv,b::kvs,h=>by
  simp only[arK,List.cons.injEq]at h;rw[arK,arK,h.1];refine .cons ?_ (Za h.2);cases a.1 with
  |inl i=>exact .int i
  |inr x=>exact .str x
theorem ago(co:jM X.K aj)(hw:aj.w=X.w)(σ:L2.St)(H:Hp)(Q:VK)(h:tQ X.K aj W (DG f fo) σ H Q):tFld X.K (tW X.K aj W fo) f σ H λx H1=>ady X [x] H1 Q:=by
 obtain⟨g,Z,M,J,h⟩:=h;unfold DG at h;refine tW.go J h.bnd λod u H1 k2 e1 ru=>?_;have J1:=J.ex e1;split at k2
 ·next h i b kvs hl=>
  obtain⟨a,C,dx,fs,l,rfl,m1,m2,ml,ha,rfl,c1,c2,c3,c4,c5,c6,l1,l2,l3⟩:=Ih co J1.wok ru hl;refine⟨a,C,dx,fs,.ref l,rfl,c2,c4,c5,l1,?_⟩;cases b with
  |false=>
   obtain⟨kv,q1,q2,q3⟩:=l3;exact .inl ⟨l,kv,rfl,q1,λq nq=>k2 (.ref q) _ (e1.trans (Ex.new nq)) (.lst (.inl ⟨.inl upd_same,J1.kd.fresh nq⟩) (Za q2))⟩
  |true=>
   obtain⟨o',xs,vs,q1,q2,q3,q4,q5,q6⟩:=l3;rw[hw]at q2;exact .inr ⟨l,o',xs,rfl,q1,q2,λq nq=>k2 (.ref q) _ (e1.trans (Ex.new nq)) (.lst (.inl ⟨.inl upd_same,J1.kd.fresh nq⟩) (q4.ex (Ex.new nq) J1.kd))⟩
 ·exact atd k2
theorem agm(co:jM X.K aj)(hw:aj.w=X.w)(hc:X.calm=true)(hg:Gl X "list")(hm:X.mg "list"=none)(ho:QW aj X W o fo)(hb:baseOk o=true):QE aj X W (.Call (.Name "list" p) [.Attribute o f p1] [] pos) (DG f fo):=by
 have h1:=pa_cons (pe_fld (X:=X) (pos:=p1) (f:=f) ho (ni hb)) pa_nil (cH rfl []);have hv:BV (.type "list") "list":=⟨by decide +kernel,by decide,by decide⟩
 refine PE.weak (pe_callTy (pos:=pos) (p:=p) (acD hc) hg hm hv.1 h1 hv.2.1 hv.2.2 (cH rfl []) (by with_unfolding_all rfl)) λσ H Q h=>?_;exact ago co hw σ H Q h
def Nu(ft:Ft)(o:QF)(f:Str)(b:Bool):SF:=λM Z=>((o (M++[⟨"",[]⟩]) Z).at (M++[⟨"",[]⟩])).then Z λod M2=>match kh M2 od with
 |some (h,i)=>match ft.has i.cls f&&decide (i.fs.length < 100) with
  |true=>.next Z (M2.set h (i.put f (.dic b [])))
  |false=>.bad
 |none=>.bad
def amu(X:Cx)(b:Bool):TE:=λ_ H Q=>∀p,H p=none->match b with
 |false=>Q (.ref p) (upd H p (.dK []))
 |true=>∀o,lO X.w p o []->Q (.ref p) (upd H p (iW p o))
theorem ah1{b:Bool}:PE X (.Dict [] [] pos) (amu X b):=by
 cases b with
 |false=>exact PE.weak pe_dnewK λσ H Q h p np=>h p np
 |true=>
  refine⟨λpins s σ H Q I h=>wpAny_Dict_empty ?_⟩;have hz:(s.heap.push { cls:=.type "dict",data:=.dict #[] }).get? s.heap.objs.size=some { cls:=.type "dict",data:=.dict #[] }:=Heap.get?_push_size _ rfl
  have hs:(s.heap.objs.size==sysModules)=false:=beq_eq_false_iff_ne.mpr (Ne.symm (asu I.big));exact⟨.ref s.heap.objs.size,_,I.laid (a:=s.heap.objs.size) (o:=iW s.heap.objs.size _) (t':=s.toks) (λ_ _ q=>Heap.get?_push_of_some _ q) (ar9 _) (La hz),rfl,h _ (I.hok.fresh (ar9 _)) _ ⟨hs,⟨rfl,rfl,rfl⟩,⟨#[],0,rfl,rfl⟩,List.nodup_nil,asz _,λx hx=>absurd hx asp⟩⟩
theorem aiy{ft:Ft}{b:Bool}(co:jM X.K aj)(fk:LQ ft aj)(hw:aj.w=X.w)(ho:QW aj X W o fo)(hs:swapsWith (.Dict [] [] p) (some (.Attribute o f pos')) pos.line X.env=pure false):SE aj X W false (.Assign [.Attribute o f pos'] (.Dict [] [] p) pos) (Nu ft fo f b):=by
 refine PS.weak (ps_fld ho (ah1 (b:=b)) hs) λD σ H ⟨g,Z,M,I,z⟩=>?_;have core:∀(l:Addr) (ob:HO),H l=none->Ju ob->(∀(g':Gh) (H':Hp),H' l=some ob->jH X.K aj g' H' l b [])->tW X.K aj W fo σ (upd H l ob) (λx H2=>∃a C dx fs,x=.ref a/\H2 a=some (.ins C dx fs)/\Cls X.K C/\NoAttr X.K C f/\fs.length < 1000/\D.nx σ (upd H2 a (.ins C dx (putF f (.ref l) fs)))):=by
  intro l ob nl mu at';obtain⟨gr,I1,tb,ow,mm⟩:=MF I nl (Ex.new nl) upd_same mu;unfold Nu at z;have k1:=Out.jh (dI (σ:=σ) z);refine tW.go I1 (k1.mono (λ_ y=>y) λx y H' c dd ex rx=>y H' _ c dd (gr.trans (Gr.ex ex)) (I1.ex ex) rx) λod u H2 k2 e2 ru=>?_;have I2:=I1.ex e2;split at k2
  ·next h i hi=>
   split at k2
   ·next hb=>
    rw[arH]at hb;obtain⟨a,C,dx,fs,_,m1,m2,ha,rfl,c1,c2,c3,c4,c5,c6⟩:=G4 co fk I2.wok ru hi hb.1;have nla:l≠a:=λz=>by
     subst z;cases I2.wok.inj _ _ _ ha tb;rw[mm]at m1;cases m1;exact m2 rfl
    refine⟨a,C,dx,fs,rfl,c2,c4,c5,?_,?_⟩
    ·have:=atf hb.2;rw[c3.len];omega
    ·have ch:=Vm (f:=f) (C:=C) (dx:=dx) (fs':=putF f (.ref l) fs) I2.kd I2.wok ha m1 m2 tb mm ow;have w':=I2.wok.chg I2.kd ch ha m1 m2 c6 c1 c3 upd_same (v:=.ref l) (fl:=.dic b []) ⟨l,rfl,if_pos rfl,at' _ _ (by rw[upd_ne nla];exact e2 _ _ upd_same)⟩;exact k2 σ _ _ ((gr.trans (Gr.ex e2)).trans ch.gc.gr) (I2.chg ch w')
   ·exact atd k2
  ·exact atd k2
 intro l nl;cases b with
 |false=>exact core l _ nl trivial λg' H' h=>⟨[],h,rfl,.nil⟩
 |true=>exact λob nd=>core l _ nl trivial λg' H' h=>⟨ob,[],[],h,by rw[hw];exact nd,rfl,.nil,.nil,.nil⟩
end
def ajU(X:Cx)(D:Addr)(vs:List Nat)(g:TG)(tk:TE)(σ:L2.St)(Nx:Hp->Prop)(x:V)(H:Hp):Prop:=
 g x (L2.wipe σ vs) H λσ2 H2=>L2.wipe σ2 vs=L2.wipe σ vs/\tk σ2 H2 λy H4=>∃(o:Obj) (xs:List nR) (gg:Gh) (d:Dat) (b:Addr) (k:NestedKey),y=.ref b/\H4 D=some (iW D o)/\lO X.w D o xs/\aM X.K gg H4 (xs.map λx=>V.ref x.2.1) (xs.map λx=>x.1.data)/\Rep X.K gg H4 y d/\uz d=some k/\k.depth<=8/\xs.length < sizeLine/\
  ∀o',lO X.w D o' (storedH xs k b (.bool true))->Nx (upd H4 D (iW D o'))
def akb(X:Cx)(wi:TI)(g:TG)(tk:TE)(vs:List Nat):TE:=λσ H Q=>wi σ H λJ H1=>∀D,H1 D=none->∃W:Nat->Nat->Hp->Prop,(∃m,∀o,lO X.w D o []->W 0 m (upd H1 D (iW D o)))/\
 ∀i m H,W i m H->(J.stop i H/\Q (.ref D) H)∨(J.go i H/\∃Nx:Hp->Prop,(∀H',Nx H'->∃m',m' < m/\W (i+1) m' H')/\∀x H',J.yld i H x H'->ajU X D vs g tk σ Nx x H')
section
variable{X:Cx}
theorem agI{pins:List (Addr×Obj)}{σ:L2.St}{H:Hp}{s:Shared}{E:Value->Shared->Prop}{D b:Addr}{o:Obj}{xs:List nR}{gg:Gh}{d:Dat}{k:NestedKey}{u:Value}{Q:Unit->Shared->Prop}(hu:X.A.units+64 < cLine)(I:L2.Inv X pins σ H s)(hD:H D=some (iW D o))(n:lO X.w D o xs)(hr:aM X.K gg H (xs.map λx=>V.ref x.2.1) (xs.map λx=>x.1.data))(hk:Rep X.K gg H (.ref b) d)(hd:uz d=some k)(h8:k.depth<=8)(hz:xs.length < sizeLine)(ru:RelV (.bl true) u)
  (q:∀s' o',lO X.w D o' (storedH xs k b (.bool true))->L2.Inv X pins σ (upd H D (iW D o')) s'->Q () s'):wpAny (model X.prog X.w) X.A (dictSet D (.ref b) u) Q E s:=by
 obtain rfl:u=.bool true:=ru
 refine wpAny_dictSet_heap (knd:=nestedKind X.prog X.w) (k:=k) (hsz:=Nat.le_of_lt hz) (show X.A.units+8 < cLine by omega) ⟨key_is I hk hd rfl,h8⟩ (Hw I hD n rfl hr) ?_;intro h' dd hs';obtain⟨o',es,ep,g1,g2,g3,g4,g5,g6⟩:=dd;have nd:lO X.w D o' (storedH xs k b (.bool true)):=⟨n.sys,g2,⟨es,ep,g3,g4⟩,g6,by have:=Rg (xs:=xs) (k:=k) (b:=b) (u:=.bool true);omega,TV n.dep h8⟩;exact q _ o' nd (d_write I (by rw[hD];exact True.intro) hs' ⟨o',g1⟩ (La g1))
theorem ak7{kx tg iter:Expr}{scope:Scope}{own:List (PySem.Str×Nat)}{pos vp:Pos}{vj:Nat}{wi:TI}{g:TG}{tk:TE}(hc:X.calm=true)(hN:X.N.Nodup)(hu:X.A.units+64 < cLine)(hi:PI X tg iter wi)(ok:BlkOk X.N X.env.scope scope own)
  (hg:∀(t:Shared) (G:Hp) (C:Addr) (cl:List (PySem.Str×Addr)) (fp:List Addr),PG (X.blk t G scope (compEnvC scope cl C X.env) fp) tg g)
  (hk:∀(t:Shared) (G:Hp) (C:Addr) (cl:List (PySem.Str×Addr)) (fp:List Addr),PE (X.blk t G scope (compEnvC scope cl C X.env) fp) kx tk) (hs:∀x,foldedSetIterable iter X.env x=pure x) :
  PE X (.DictComp kx (.Constant (.bool true) vj vp) [⟨tg,iter,[],0⟩] scope pos) (akb X wi g tk (own.map (·.2))):=by
 refine⟨λpins s σ H Q I h=>?_⟩;rw[arm_eval_DictComp];have cells:∀y∈scope.names,y.2=.free->∃c,X.env.cells.lookup y.1=some c:=λy hy e=>(ok.free y hy e).elim (λk=>I.ok.has _ (.inl k)) (λk=>I.ok.has _ (.inr k));refine wpAny_comprehension_free rfl hs (closure_ok cells) ok.kind (λy hy e=>by rw[ok.uniq y hy,e]) (thn (hi.run pins s σ H _ I h) λ_ _ hx=>thn hx λitv t0 h0=>?_);obtain⟨it,fp,tn,J,G0,rfl,I0,T,st0,f0,q⟩:=h0;refine wpAny_newObj_type (newEnv_comp ?_)
 -- the new dict,at D
 obtain⟨D,hD⟩:∃D,D=t0.heap.objs.size:=⟨_,rfl⟩;rw[←hD];obtain⟨W,⟨m0,w00⟩,turn⟩:=q D (I0.hok.fresh (Nat.le_of_eq hD.symm));obtain⟨ob,hob⟩:∃ob:Obj,ob={ cls:=.type "dict",data:=.dict #[] }:=⟨_,rfl⟩
 have nd0:lO X.w D ob []:=by rw[hob];exact⟨by rw[hD];exact beq_eq_false_iff_ne.mpr (Ne.symm (asu I0.big)),⟨rfl,rfl,rfl⟩,⟨#[],0,rfl,rfl⟩,List.nodup_nil,asz _,λx hx=>absurd hx asp⟩
 have w0:=w00 ob nd0;rw[←hob];obtain⟨t1,ht1⟩:∃t1:Shared,t1={ t0 with heap:=t0.heap.push ob }:=⟨_,rfl⟩;obtain⟨G1,hG1⟩:∃G1,G1=upd G0 D (iW D ob):=⟨_,rfl⟩;rw[←hG1]at w0;have grow:∀b o,t0.heap.get? b=some o->t1.heap.get? b=some o:=λb o e=>by rw[ht1];exact Heap.get?_push_of_some _ e
 have I1:L2.Inv X pins σ G1 t1:=by rw[ht1,hG1];refine I0.laid (t':=t0.toks) (λb o e=>Heap.get?_push_of_some _ e) (Nat.le_of_eq hD.symm) (La ?_);rw[hD];exact Heap.get?_push_size _ (by rw[hob];rfl)
 have small:∀b∈fp,b < t0.heap.objs.size:=λb hb=>by
  obtain⟨o,e,_⟩:=T.obj _ _ st0 b hb;exact Heap.lt_size e
 have f1:∀b∈fp,FpOk X pins G1 b/\b < t1.heap.objs.size:=λb hb=>by
  have hlt:=small b hb;refine⟨⟨?_,(f0 b hb).2⟩,by rw[ht1];show b < (t0.heap.push ob).objs.size;rw[Heap.size_push];exact asO hlt⟩;rw[hG1,upd_ne (by rw[hD];exact asu hlt)];exact(f0 b hb).1
 have st1:tn 0 t1.heap:=T.keep _ _ _ st0 λb _ o e=>grow b o e;have I2:=block_start I1 ok hN f1;have pg:=hg t1 G1 t1.heap.objs.size (cellsFrom (t1.heap.objs.size+1) scope.names (cloFrom X.env.cells scope.names [])) fp;have pk:=hk t1 G1 t1.heap.objs.size (cellsFrom (t1.heap.objs.size+1) scope.names (cloFrom X.env.cells scope.names [])) fp;have none1:∀b∈fp,G1 b=none:=λb hb=>(f1 b hb).1.1;rw[show({ t0 with heap:=t0.heap.push ob }:Shared)=t1 from ht1.symm];obtain⟨ce,hce⟩:∃ce,ce=compEnvC scope (cellsFrom (t1.heap.objs.size+1) scope.names (cloFrom X.env.cells scope.names [])) t1.heap.objs.size X.env:=⟨_,rfl⟩;rw[←hce]at I2 pg pk;have cL:ce.locals=t1.heap.objs.size:=by rw[hce];rfl
 obtain⟨t2,ht2⟩:∃t2:Shared,t2={ t1 with heap:=pushCells (t1.heap.push { cls:=.type "dict",data:=.dict #[] }) scope.names }:=⟨_,rfl⟩
 rw[←ht2]at I2;have st2:tn 0 t2.heap:=T.keep _ _ _ st1 λb _ o e=>by rw[ht2];exact pushCells_keeps _ _ _ _ (Heap.get?_push_of_some _ e)
 have still:∀{σ':L2.St} {G':Hp} {t':Shared},L2.Inv (X.blk t1 G1 scope ce fp) [] σ' G' t'->(∀b∈fp,G' b=none)->∀b∈fp,FpOk (X.blk t1 G1 scope ce fp) [] G' b:=λI' hn b hb=>
  ⟨hn b hb,(I'.ok.exf b hb).1,I'.ok.exfs b hb,.inl hb,λx c e=>(I'.ok.exf b hb).2 x c e,λp hp=>absurd (show p∈([]:List (Addr×Obj))++[] from hp) (by simp)⟩
 have pt:PTs (X.blk t1 G1 scope ce fp) [] tYes:=pts_nil;have pv:PE (X.blk t1 G1 scope ce fp) (.Constant (.bool true) vj vp) (tC (.bl true)):=pe_bl;have loop:codeAny (model X.prog X.w) X.A (.compLoop (.DictComp kx (.Constant (.bool true) vj vp) [⟨tg,iter,[],0⟩] scope pos) 0 (.ref it) (.ref D) ce) (compPost (model X.prog X.w) X.A X.xe none (EP X pins σ Q) (.ref D) t1.heap.objs.size) t2:=by
  refine compLoop_anyD (λn t'=>∃i G',L2.Inv (X.blk t1 G1 scope ce fp) [] (L2.wipe σ (own.map (·.2))) G' t'/\tn i t'.heap/\(∀b∈fp,G' b=none)/\W i n G') ?_ m0 ⟨0,G1,I2,st2,none1,w0⟩;rintro n t3 ⟨i,G3,I3,st3,n3,w3⟩;rcases turn i n G3 w3 with⟨stop,fin⟩|⟨go,Nx,hNx,step⟩
  ·refine thnF (T.done (X.blk t1 G1 scope ce fp) rfl rfl rfl hc i [] t3 _ G3 (λ_ _=>False) I3 (still I3 n3) st3 stop) λr t4 ⟨hr,I4⟩=>?_;subst hr;have I5:L2.Inv X pins σ G3 t4:=I1.call' (ch:=fp) I4.os I4.base I4.hok I4.bare λb hb=>⟨(f1 b hb).1.2.2.2.1,(f1 b hb).1.2.1,(f1 b hb).1.2.2.2.2.1,(f1 b hb).1.2.2.2.2.2⟩;have nC:G3 t1.heap.objs.size=none:=by rw[←cL];exact I4.free
   obtain⟨m,hn,_⟩:=I4.loc;have hn':t4.heap.Ns t1.heap.objs.size m:=by rw[←cL];exact hn
   obtain⟨a0,a1,_,a3,a4,a5⟩:=I1.fpOk (ar9 _) nC;exact⟨m,hn',λh'' sb=>⟨.ref D,G3,I5.turned (t':=t4.toks) (λb o hb e=>(sb.2 b hb).trans e) a0 a1 a3 a4 a5,rfl,fin⟩⟩
  ·refine thnF (T.item (X.blk t1 G1 scope ce fp) rfl rfl rfl hc i [] t3 _ G3 (λ_ _=>False) I3 (still I3 n3) st3 go) λr t4 ⟨u,hr,h4⟩=>?_;subst hr;refine thnF h4 λ_ t5 ⟨x,G5,I5,r5,y5,st5,n5⟩=>?_;refine thnF (pg.run _ t5 _ G5 x u _ (I5.pinned (still I5 n5) (T.obj _ _ st5)) r5 (step x G5 y5)) λ_ t6 ⟨σ6,G6,I6,hw6,q6⟩=>?_;refine thnF (pt.run _ t6 σ6 G6 (λb G=>b=true/\G=G6) I6 ⟨rfl,rfl⟩) λb t7 ⟨G7,I7,hb7,hG7⟩=>?_;subst hb7 hG7;have over:∀{t':Shared} {G':Hp},L2.Inv (X.blk t1 G1 scope ce fp) ([]++pinsAt fp t5.heap) σ6 G' t'->Nx G'->∃m,m < n/\∃i G',L2.Inv (X.blk t1 G1 scope ce fp) [] (L2.wipe σ (own.map (·.2))) G' t'/\tn i t'.heap/\(∀b∈fp,G' b=none)/\W i m G':=λ{t' G'} I' nx=>by
    obtain⟨m',hm,w'⟩:=hNx G' nx;have pin:∀b∈fp,∀o,t5.heap.get? b=some o->t'.heap.get? b=some o/\G' b=none:=λb hb o e=>
     let z:=I'.pin (b,o) (asw _ (asw _ (mem_pinsAt hb e)))
     ⟨z.1,z.2.1⟩
    refine⟨m',hm,i+1,G',(I'.unpinned (pins:=[])).weak (by rw[←hw6,wipe_length]) (λj v e=>?_),T.keep _ _ _ st5 λb hb o e=>(pin b hb o e).1,λb hb=>?_,w'⟩
    ·rw[←hw6]at e;exact(wipe_some e).1
    ·obtain⟨o,e,_⟩:=T.obj _ _ st5 b hb;exact(pin b hb o e).2
   simp only[if_true];refine thnF (pk.run _ t7 σ6 _ _ I7 q6) λz t8 ⟨yv,G8,I8,r8,o8,xs8,g8,d8,b8,k8,ey,hD8,n8,hr8,hk8,hd8,h88,hz8,nx⟩=>?_;subst ey
   obtain rfl:z=Value.ref b8:=r8
   refine thnF (pv.run _ t8 σ6 G8 (λv G=>v=.bl true/\G=G8) I8 ⟨rfl,rfl⟩) λz2 t9 ⟨y9,G9,I9,r9,hv9,hG9⟩=>?_;subst hv9 hG9;exact agI (X:=X.blk t1 G1 scope ce fp) hu I9 hD8 n8 hr8 hk8 hd8 h88 hz8 r9 λs' o' nd I10=>over I10 (nx o' nd)
 have done:=codeAny_compStart_dict loop (T.self X.A 0 _ _ _ st2 loop);rw[hce,ht2]at done;subst hob;exact done
end
def EY(tg:fH)(tk:QF)(M:Mo)(Z:Env):List Dat->List (Dat×Dat)->Out (List (Dat×Dat))
 |[],acc=>.ok acc
 |d::ds,acc=>match tg d Z with
  |none=>.bad
  |some Z1=>(yt (tk M Z1)).bind λkd=>(dhas true acc kd).bind λr=>EY tg tk M Z ds (match r with
   |true=>acc
   |false=>acc++[(kd,.bool true)])
def qDc(it:IF)(tg:fH)(vs:List Nat)(tk:QF):Mo->Env->Out (List (Dat×Dat)):=λM Z=>(it M Z).bind λds=>Out.when (decide (ds.length<=50000)) (EY tg tk M (bT Z vs) ds [])
def akh(K:arG)(aj:aR)(W:WX)(f:Mo->Env->Out (List (Dat×Dat))):TE:=λσ H Q=>∃g Z M,SInv K aj σ H g Z M/\(f M Z).sat (λkvs=>∀l o H',H l=none->Ex H H'->H' l=some (iW l o)->jH K aj (g.add l) H' l true kvs->Q (.ref l) H') (qJ K aj W g H σ)
section
variable{X:Cx}{aj:aR}{W:WX}
theorem Xf{tg:fH}{tk:QF}{M:Mo}{Z:Env}:∀{ds:List Dat} {acc:List (Dat×Dat)} {x:dR},EY tg tk M Z ds acc≠.exc x
 |[],_,_,h=>nomatch h
 |d::ds,acc,x,h=>by
  rw[EY]at h;split at h
  ·cases h
  ·next Z1 e=>
   cases h1:tk M Z1 with
   |bad=>rw[h1]at h;cases h
   |exc y=>rw[h1]at h;cases h
   |ok kd=>
    rw[h1]at h;have h:((dhas true acc kd).bind λr=>EY tg tk M Z ds (match r with
     |true=>acc
     |false=>acc++[(kd,.bool true)]))=.exc x:=h
    cases h2:dhas true acc kd with
    |bad=>rw[h2]at h;cases h
    |exc y=>
     unfold dhas at h2;split at h2
     ·cases h2
     ·split at h2
      ·split at h2<;>cases h2
      ·cases h2
     ·cases h2
    |ok r=>
     rw[h2]at h;exact Xf h
theorem af0{xs:List nR}{k:NestedKey}(h:∀x∈xs,x.2.2=.bool true):xs.map (putAt k (.bool true))=xs:=by
 have:∀x∈xs,putAt k (.bool true) x=x:=λx hx=>by
  unfold putAt;split
  ·obtain⟨a,b,c⟩:=x;have:c=.bool true:=h _ hx;rw[this]
  ·rfl
 calc xs.map (putAt k (.bool true))=xs.map id:=List.map_congr_left this
  _=xs:=List.map_id xs
theorem abZ:∀{xs:List nR},(∀x∈xs,x.2.2=.bool true)->Vals (List.replicate xs.length (.bl true)) (xs.map (·.2.2))
 |[],_=>.nil
 |x::xs,h=>by
  rw[arW,List.replicate_succ,arK,h x arM];exact .cons rfl (abZ λy hy=>h y (arL _ hy))
theorem abk{K:arG}{g:Gh}{H:Hp}:∀{kvs:List (Dat×Dat)} {n:Nat},n=kvs.length->(∀p∈kvs,p.2=.bool true)->aM K g H (List.replicate n (.bl true)) (kvs.map (·.2))
 |[],_,h,_=>by subst h;exact .nil
 |p::kvs,_,e,h=>by
  subst e;rw[arW,List.replicate_succ,arK,h p arM];exact .cons (.bl true) (abk rfl λy hy=>h y (arL _ hy))
theorem amS{it:IF}{tg:fH}{js vs:List Nat}{tk:QF}(hw:aj.w=X.w)(hj:∀j∈js,j∈vs)(σ:L2.St)(H:Hp)(Q:VK)(h:akh X.K aj W (qDc it tg vs tk) σ H Q) :
  akb X (tI X.K aj W false it) (yI X.K aj js tg) (tQ X.K aj WF tk) vs σ H Q:=by
 obtain⟨g,Z,M,I,h⟩:=h;refine⟨g,Z,M,I,h.bnd.mono (λds hk J C H1 e1 w c _ D nD=>?_) λ_ z=>z⟩;obtain⟨hz,hk⟩:=hk.o9;have hlen:=atf hz;obtain⟨total,htot,hQ⟩:∃total,EY tg tk M (bT Z vs) ds []=.ok total/\∀l o H',H l=none->Ex H H'->H' l=some (iW l o)->jH X.K aj (g.add l) H' l true total->Q (.ref l) H':=by
  cases hc:EY tg tk M (bT Z vs) ds [] with
  |bad=>rw[hc]at hk;exact atd hk
  |exc x=>exact absurd hc Xf
  |ok total=>
   rw[hc]at hk;exact⟨total,rfl,hk⟩
 have I1:=(I.ex e1).wipe vs;have kD:∀{Ha:Hp} {o:Obj},Ex H1 Ha->Ha D=some (iW D o)->SInv X.K aj (L2.wipe σ vs) Ha (g.add D) (bT Z vs) M:=λea hu=>I1.add nD ea hu trivial
 let Pv:Nat->Hp->Prop:=λi Ha=>Ex H1 Ha/\i<=ds.length/\∃o xs acc,Ha D=some (iW D o)/\lO X.w D o xs/\acc.map (·.1)=xs.map (λx=>x.1.data)/\aM X.K (g.add D) Ha (xs.map λx=>V.ref x.2.1) (acc.map (·.1))/\(∀x∈xs,x.2.2=.bool true)/\(∀p∈acc,p.2=.bool true)/\acc.length<=i/\EY tg tk M (bT Z vs) (ds.drop i) acc=.ok total
 refine⟨λi m Ha=>m=ds.length - i/\Pv i Ha,⟨ds.length,λo n0=>⟨rfl,Ex.new nD,asz _,o,[],[],upd_same,n0,rfl,.nil,λx hx=>absurd hx asp,λx hx=>absurd hx asp,ar9 _,by rw[as4];exact htot⟩⟩,?_⟩;rintro i m Ha ⟨rfl,ea,hi,o,xs,acc,hu,nd,hK,hR,hT,hA,hy,hs⟩;have Ia:=kD ea hu;have Ca:=w.add g (g.add D) H1 Ha (I.kd.ex e1) c (Gh.Di nD ea) ea;have lxs:xs.length=acc.length:=by have:=congrArg List.length hK;simpa using this.symm
 by_cases hlt:i < ds.length
 ·refine .inr ⟨w.go _ i Ha Ca hlt,Pv (i+1),λH' p=>⟨ds.length - (i+1),by omega,rfl,p⟩,λx H' y=>?_⟩;have hd:ds[i]?=some ds[i]:=arI hlt;obtain⟨e2,rx⟩:=w.yld _ i Ha x H' _ Ia.kd Ca hd y;have I2:=Ia.ex e2;rw[asH hlt,EY]at hs;split at hs
  ·cases hs
  ·next Z1 he=>
   refine⟨g.add D,_,M,_,Z1,I2,rx,he,λws I3=>⟨xJ js ws _ vs hj |>.trans (Ay σ vs),?_⟩⟩;cases htk:tk M Z1 with
   |bad=>rw[htk]at hs;cases hs
   |exc z=>rw[htk]at hs;cases hs
   |ok kd=>
    rw[htk]at hs;have hs:((dhas true acc kd).bind λr=>EY tg tk M (bT Z vs) (ds.drop (i+1)) (match r with
     |true=>acc
     |false=>acc++[(kd,.bool true)]))=.ok total:=hs
    refine⟨g.add D,Z1,M,I3,?_⟩;rw[htk];intro v H4 e4 ry;have I4:=I3.ex e4;have hu4:=e4 _ _ (e2 _ _ hu);have hR4:=(hR.ex e2 Ia.kd).ex e4 I2.kd;cases hh:dhas true acc kd with
    |bad=>rw[hh]at hs;cases hs
    |exc z=>rw[hh]at hs;cases hs
    |ok r=>
     rw[hh]at hs;obtain⟨ha2,hcase⟩:=VF hh;rcases hcase with⟨z,_⟩|⟨_,dd,kk,rfl,hkk,hdep⟩
     ·cases z
     ·have ek:=Am hkk;rw[←ek,Jm hK]at ha2;have hRx:=hR4;rw[hK]at hRx;cases ry with
      | @tup bb us _ hs' ht=>
       refine⟨o,xs,g.add D,_,bb,kk,rfl,hu4,nd,hRx,.tup hs' ht,hkk,hdep,sz_lt (by omega),λo' nd'=>?_⟩;have eD:Ex H1 (upd H4 D (iW D o')):=Ex.mut ((ea.trans e2).trans e4) nD;have lD:(g.add D).Lo D:=.inr rfl;have up:Gr true (g.add D) (g.add D) H4 (upd H4 D (iW D o')):=Gr.upd I4.kd hu4 (.inr lD);cases r with
       |true=>
        obtain⟨q,hq⟩:=Option.isSome_iff_exists.mp ha2;rw[storedH_old hq,af0 hT]at nd';exact⟨eD,hlt,o',xs,acc,upd_same,nd',hK,hR4.gr up I4.kd,hT,hA,by omega,hs⟩
       |false=>
        have hn:atKey xs kk=none:=by
         cases hv:atKey xs kk with
         |none=>rfl
         |some _=>rw[hv]at ha2;cases ha2
        rw[storedH_new hn]at nd';have hs:EY tg tk M (bT Z vs) (ds.drop (i+1)) (acc++[(.tuple dd,.bool true)])=.ok total:=hs;refine⟨eD,hlt,o',xs++[(kk,bb,.bool true)],acc++[(.tuple dd,.bool true)],upd_same,nd',by simp[hK,ek],?_,?_,?_,by simp;omega,hs⟩
        ·rw[asq,asq];exact(hR4.gr up I4.kd).back ((Rep.tup hs' ht).gr up I4.kd)
        ·intro x hx;rcases arR.mp hx with z|z
         ·exact hT x z
         ·rw[arO.mp z]
        ·intro x hx;rcases arR.mp hx with z|z
         ·exact hA x z
         ·rw[arO.mp z]
 ·have e:i=ds.length:=by omega
  refine .inl ⟨w.stop _ i Ha Ca e,?_⟩;rw[e,asN]at hs;cases hs;exact hQ D o Ha (yM e1 D nD) (e1.trans ea) hu ⟨o,xs,List.replicate xs.length (.bl true),hu,by rw[hw];exact nd,hK,hR,abZ hT,abk lxs hA⟩
def T7(ft:Ft)(o:QF)(f:Str)(e:Mo->Env->Out (List (Dat×Dat))):SF:=λM Z=>((e M Z).at M).then Z λkvs _=>((o (M++[⟨"",[]⟩]) Z).at (M++[⟨"",[]⟩])).then Z λod M2=>match kh M2 od with
 |some (h,i)=>match ft.has i.cls f&&decide (i.fs.length < 100) with
  |true=>.next Z (M2.set h (i.put f (.dic true kvs)))
  |false=>.bad
 |none=>.bad
end
theorem aah{K:arG}{g:Gh}{H:Hp}{l:Addr}{vs:List V}{ds:List Dat}(h:aM K (g.add l) H vs ds):aM K (g.push l) H vs ds:=aM.mv (g:=g.add l) (g':=g.push l) (λh a z=>by
  have z:g.tbl[h]?=some a:=z
  show(g.tbl++[l])[h]?=some a
  rw[arS (arJ.mp z).1];exact z) (λa z=>by
  rcases Zi z with z|rfl
  ·rcases z with z|z|z
   ·exact .inl z
   ·exact .inr (.inl z)
   ·exact .inr (.inr (show g.Lo a∨a=l from Or.inl z))
  ·exact .inr (.inr (show g.Lo a∨a=a from Or.inr rfl))) h
section
variable{X:Cx}{aj:aR}{W:WX}{o e:Expr}{f:Str}{pos pos':Pos}{ft:Ft}{fo:QF}
theorem ahV{fe:Mo->Env->Out (List (Dat×Dat))}{te:TE}(co:jM X.K aj)(fk:LQ ft aj)(ho:QW aj X W o fo)(he:PE X e te)(hte:∀σ H Q,akh X.K aj W fe σ H Q->te σ H Q)(hs:swapsWith e (some (.Attribute o f pos')) pos.line X.env=pure false):SE aj X W false (.Assign [.Attribute o f pos'] e pos) (T7 ft fo f fe):=by
 refine PS.weak (ps_fld ho he hs) λD σ H ⟨g,Z,M,I,z⟩=>hte σ H _ ⟨g,Z,M,I,?_⟩;unfold T7 at z;cases hf:fe M Z with
 |exc x=>rw[hf]at z;exact λH' c dd e r=>z σ H' g c dd (Gr.ex e) (I.ex e) r.fr
 |bad=>rw[hf]at z;exact atd z
 |ok kvs=>
  rw[hf]at z;intro l ob H1 nl e1 hl dic;obtain⟨gr,I1,tb,ow,mm⟩:=MF I nl e1 hl trivial;have dic1:jH X.K aj (g.push l) H1 l true kvs:=by obtain⟨o',xs,vs,q1,q2,q3,q4,q5,q6⟩:=dic;exact⟨o',xs,vs,q1,q2,q3,aah q4,q5,aah q6⟩
  have z:(((fo (M++[⟨"",[]⟩]) Z).at (M++[⟨"",[]⟩])).then Z λod M2=>match kh M2 od with
   |some (h,i)=>match ft.has i.cls f&&decide (i.fs.length < 100) with
    |true=>.next Z (M2.set h (i.put f (.dic true kvs)))
    |false=>.bad
   |none=>.bad).sat (sN X.K aj false D.nx g H) (sR X.K aj false D.rt g H) (sN X.K aj false D.bk g H) (sN X.K aj false D.ct g H) (sX X.K aj W false g H):=z
  have k1:=Out.jh (dI (σ:=σ) z);refine tW.go I1 (k1.mono (λ_ y=>y) λx y H' c dd ex rx=>y H' _ c dd (gr.trans (Gr.ex ex)) (I1.ex ex) rx) λod u H2 k2 e2 ru=>?_;have I2:=I1.ex e2;split at k2
  ·next h i hi=>
   split at k2
   ·next hb=>
    rw[arH]at hb;obtain⟨a,C,dx,fs,_,m1,m2,ha,rfl,c1,c2,c3,c4,c5,c6⟩:=G4 co fk I2.wok ru hi hb.1;have nla:l≠a:=λz=>by
     subst z;cases I2.wok.inj _ _ _ ha tb;rw[mm]at m1;cases m1;exact m2 rfl
    refine⟨a,C,dx,fs,rfl,c2,c4,c5,?_,?_⟩
    ·have:=atf hb.2;rw[c3.len];omega
    ·have ch:=Vm (f:=f) (C:=C) (dx:=dx) (fs':=putF f (.ref l) fs) I2.kd I2.wok ha m1 m2 tb mm ow;have w':=I2.wok.chg I2.kd ch ha m1 m2 c6 c1 c3 upd_same (v:=.ref l) (fl:=.dic true kvs) ⟨l,rfl,if_pos rfl,jH.chg ch.gc.gr I2.kd (upd_ne nla) (dic1.ex e2 I1.kd)⟩;exact k2 σ _ _ ((gr.trans (Gr.ex e2)).trans ch.gc.gr) (I2.chg ch w')
   ·exact atd k2
  ·exact atd k2
end
end Rf
namespace Ear
open PySem PySem.Spec PyProof.Rows L2 Evl RZ
abbrev xM(K:arG)(H:Hp)(v:V)(r:Rw):Prop:=Dp K H v (rD r)
@[irreducible]def KZ (K:arG) (w:World):List V->Hp->VK->Prop:=λvs H Q=>∃(l:Addr) (ws:List V) (R D:List Rw),vs=[V.ref l]/\SqL K H l ws/\fD (xM K H) ws R/\D.length<=76/\(∀r∈R,r∈D)/\
 ∀(p:Addr) (L:List Ent),H p=none->(∀e∈L,xM K H (.ref e.1) e.2)->(L.map Prod.snd).Nodup->(∀r,r∈L.map Prod.snd↔r∈R)->L.length<=76->Q (.ref p) (upd H p (Og w p L))
@[irreducible]def PN (K:arG) (w:World):List V->Hp->VK->Prop:=λvs H Q=>∃(a:Addr) (L:List Ent),vs=[V.ref a]/\H a=some (Og w a L)/\(∀e∈L,xM K H (.ref e.1) e.2)/\(L.map Prod.snd).Nodup/\L.length<=76/\
 ∀(ys:List V) (M:List Rw) (p:Addr),fD (xM K H) ys M->Xb M->(∀r,r∈M↔r∈L.map Prod.snd)->H p=none->Q (.ref p) (upd H p (.lst ys))
section
variable{X:Cx}
theorem afK{pins:List (Addr×Obj)}{σ:L2.St}{H:Hp}{s:Shared}(I:Inv X pins σ H s){t:Addr}{r:Rw}(h:xM X.K H (.ref t) r):RI s.heap r t:=by
 refine⟨?_,by rw[agc];decide⟩;unfold xM rD dT at h;cases h with
 |tup h1 t1=>
  cases t1 with
  |cons a1 t1=>
   cases t1 with
   |cons a2 t1=>
    cases t1;cases a1;cases a2 with
    |tup h2 t2=>
     obtain⟨us,rv,⟨o,ho,hc,n,hd⟩,_⟩:=I.tuple h1;obtain⟨us2,rv2,⟨o2,ho2,hc2,n2,hd2⟩,_⟩:=I.tuple h2;refine .tup ho hc hd ?_;cases rv with
     |cons r1 rv=>
      cases rv with
      |cons r2 rv=>
       cases rv;obtain⟨tk,rfl⟩:=r1;cases r2;have e:∀{vs:List V} {l:List Int},DpAll X.K H vs (l.map PyData.int)->vs=l.map V.int:=by
        intro vs l
        induction l generalizing vs with
        |nil=>intro z;cases z;rfl
        |cons i l ih=>
         intro z;cases z with
         |cons b1 b2=>
          cases b1;rw[ih b2];rfl
       rw[e t2]at rv2;exact .cons (.int r.1 tk) (.cons (.tup ho2 hc2 hd2 (by simpa using Xj (P:=X.prog) (w:=X.w) r.2 us2 rv2)) .nil)
theorem S8{K:arG}{H:Hp}:∀(ws:List V) (R:List Rw),fD (xM K H) ws R->∃ks:List Ent,ws=(ks.map λp=>V.ref p.1)/\ks.map Prod.snd=R/\∀p∈ks,xM K H (.ref p.1) p.2
 |[],[],_=>⟨[],rfl,rfl,by simp⟩
 |[],_::_,h=>nomatch h.1
 |_::_,[],h=>nomatch h.1
 |v::ws,r::R,h=>by
  obtain⟨ks,e1,e2,e3⟩:=S8 ws R ⟨atb h.1,λi v x a b=>h.2 (i+1) v x a b⟩;have hr:xM K H v r:=h.2 0 v r rfl rfl;have ev:∃t,v=.ref t:=by
   have z:=hr;unfold xM rD at z;cases z with
   |tup _ _=>exact⟨_,rfl⟩
  obtain⟨t,rfl⟩:=ev;refine⟨(t,r)::ks,by rw[arK,←e1],by rw[arK,e2],λp hp=>?_⟩;rcases arV.mp hp with e|hp
  ·rw[e];exact hr
  ·exact e3 p hp
theorem aaW(hu:X.A.units+65 < cLine)(hc:X.calm=true):CallR X (.type "set") (KZ X.K X.w):=by
 intro pins s σ H vs us Q I r h;unfold KZ at h;obtain⟨l,ws,R,D,rfl,hl,hA,hD,hRD,q⟩:=h;rw[Vals.ref1 r];obtain⟨ks,e1,e2,e3⟩:=S8 ws R hA;obtain⟨its,rv,pl,hz⟩:=I.list hl;rw[e1]at rv;have mem:∀p∈ks,p.2∈R:=λp hp=>by
  rw[←e2];exact arQ.mpr ⟨p,hp,rfl⟩
 have hn:H s.heap.objs.size=none:=I.hok.fresh (ar9 _);refine aa1 (P:=X.prog) (w:=X.w) (hf:=λr=>(oN X.prog X.w).hash r) (λ_=>rfl) ks D hD (λp hp=>hRD _ (mem p hp)) (I.ok.hd hc) pl.isList (by simpa using V7 rv) (λp hp=>afK I (e3 p hp)) (by omega) λh' tk L es ep t S g k=>?_;have fitL:t.fits es.size=true:=rE.fits (s:={ s with heap:=h',toks:=tk }) S;have new:ObjOk X.prog X.w (upd H s.heap.objs.size (Og X.w s.heap.objs.size L)) h' s.heap.objs.size (Og X.w s.heap.objs.size L):=by obtain⟨o,ho,hr⟩:=S.ob;refine⟨⟨_,es,ep,t,S.ob,S.en,fitL,S.tab.ris,S.ld⟩,⟨o,ho⟩,λh1 h2 z k2=>?_⟩;obtain⟨hf2,es2,ep2,t2,⟨o2,ho2,hr2⟩,rest⟩:=(show acw X.w h1 s.heap.objs.size L from z);exact⟨hf2,es2,ep2,t2,⟨o2,k2 o2 ho2,hr2⟩,rest⟩
 refine⟨.ref s.heap.objs.size,upd H s.heap.objs.size (Og X.w s.heap.objs.size L),I.laid (t':=tk) k (ar9 _) new,rfl,q _ L hn (λe he=>e3 e (asS (g.sub e he))) S.nd (λr=>⟨λm=>?_,λm=>?_⟩) S.few⟩
 ·obtain⟨e,he,e5⟩:=arQ.mp m;rw[←e5];exact mem e (asS (g.sub e he))
 ·rw[←e2]at m;obtain⟨p,hp,e5⟩:=arQ.mp m;rw[←e5];exact g.all p (by rw[List.take_length];exact hp)
theorem acg(hu:X.A.units+65 < cLine)(hc:X.calm=true):CallR X (.builtin "sorted") (PN X.K X.w):=by
 intro pins s σ H vs us Q I r h;unfold PN at h;obtain⟨a,L,rfl,ha,hL,nd,few,q⟩:=h;rw[Vals.ref1 r];obtain⟨hf,es,ep,t,⟨o,ho,hex,hd⟩,en,fit,ris,led⟩:acw X.w s.heap a L:=(I.hok a _ ha).1;have len:=zV en;have ev:∀K:List Ent,(∀p∈K,p∈L)->PySem.W.EachIs (λv (r:Rw)=>(∃p∈L,v=Value.ref p.1/\r=p.2)/\∃as,Reads s.heap v (rD r) as) ((ents hf K).map (·.2)) (K.map Prod.snd):=by
  intro K
  induction K with
  |nil=>exact λ_=>.nil
  |cons p K ih=>
   intro hK;have hp:=hK p arM;exact .cons ⟨⟨p,hp,rfl,rfl⟩,Dp.reads I (rD p.2) (.ref p.1) (.ref p.1) (hL p hp) rfl⟩ (ih λx hx=>hK x (arL _ hx))
 refine O2 (enc:=rD) (bs:=L.map Prod.snd) (I.ok.hd hc) ⟨o,ho,hex.1,hd⟩ fit (by unfold scanBound;omega) ris led (by rw[en];exact ev L λp hp=>hp) (as7 Wd) (PySem.W.Sortable.tuples λb=>⟨_,_,rfl⟩) (λb _=>by rw[(adM b).2];omega) λs' p out c cs k g' o' hp hg pc eo=>?_;have mp:=asU cs (PySem.W.dataLe false rD);have ndm:(cs.mergeSort (PySem.W.dataLe false rD)).Nodup:=(mp.trans pc).nodup_iff.mpr nd;have srt:=asQ (le:=PySem.W.dataLe false rD) (λa b c k1 k2=>by rw[Ls,ate]at *;exact List.le_trans k1 k2) (λa b=>by rw[Ls,Ls,asW,ate,ate];exact List.le_total _ _) cs;generalize cs.mergeSort (PySem.W.dataLe false rD)=M at mp ndm srt eo;obtain⟨ys,v1,v2⟩:=Xi out M eo;have up:Xb M:=by
  refine List.Pairwise.imp₂ (λa b h1 h2=>?_) srt ndm;rw[Ls,ate]at h1;by_cases c:rk a < rk b
  ·exact c
  ·exact absurd (adU (List.le_antisymm h1 (List.not_lt.mp c))) h2
 have hfr:H p=none:=I.hok.fresh hp;have hlen:ys.length<=sizeLine:=by rw[v2.1,mp.length_eq,pc.length_eq,arU,sizeLine_eq];omega
 have J:Inv X pins σ (upd H p (.lst ys)) { s with heap:=s'.heap,gens:=s'.gens,drawn:=s'.drawn,toks:=s'.toks }:=
  I.call (ch:=[]) (Un.laid k hp hfr) (I.hok.laid k hp ⟨hlen,out,c,v1,hg⟩) (by rw[g'];exact I.bare) (λ_ z=>nomatch z)
 have es':s'={ s with heap:=s'.heap,gens:=s'.gens,drawn:=s'.drawn,toks:=s'.toks }:=by cases s';cases s;cases o';rfl
 rw[es'];refine⟨.ref p,_,J,rfl,q ys M p (v2.imp λv r ⟨e,he,h1,h2⟩=>?_) up (λr=>(mp.trans pc).mem_iff) hfr⟩;subst h1 h2;exact hL e he
end
end Ear
namespace Rf
open PySem PySem.Spec PyProof.Rows L2 Evl
def ac2:Dat->Option Ear.Rw
 |.tuple [.int o,.tuple ds]=>(intsOf ds).map λl=>(o,l)
 |_=>none
def Fq:List Dat->Option (List Ear.Rw)
 |[]=>some []
 |d::ds=>(ac2 d).bind λr=>(Fq ds).bind λrs=>some (r::rs)
theorem FT:∀{ds:List Dat} {l:List Int},intsOf ds=some l->ds=l.map PyData.int
 |[],l,h=>by cases h;rfl
 |.int i::ds,l,h=>by
  rw[intsOf,aso]at h;obtain⟨r,h1,rfl⟩:=h;rw[FT h1];rfl
 |.none::_,_,h=>by cases h
 |.bool _::_,_,h=>by cases h
 |.str _::_,_,h=>by cases h
 |.list _::_,_,h=>by cases h
 |.tuple _::_,_,h=>by cases h
 |.dict _::_,_,h=>by cases h
theorem aic{d:Dat}{r:Ear.Rw}(h:ac2 d=some r):d=Ear.rD r:=by
 unfold ac2 at h;split at h
 ·next o ds=>
  rw[aso]at h;obtain⟨l,h1,rfl⟩:=h;rw[FT h1];rfl
 ·cases h
theorem Q6:∀{ds:List Dat} {rs:List Ear.Rw},Fq ds=some rs->ds=rs.map Ear.rD
 |[],_,h=>by cases h;rfl
 |d::ds,_,h=>by
  rw[Fq]at h;obtain⟨r,h1,h⟩:=arF.mp h;obtain⟨rs,h2,h⟩:=arF.mp h;cases h;rw[aic h1,Q6 h2];rfl
def RQ(R:List Ear.Rw):List Ear.Rw:=R.mergeSort λa b=>decide (Ear.rk a<=Ear.rk b)
def sortI(l:List Int):List Int:=l.mergeSort λa b=>decide (a<=b)
def bB(R:List Ear.Rw):List Ear.Rw:=RQ R.eraseDups
def Ad(l:List Int):List Int:=sortI l.eraseDups
theorem Pu:∀(n:Nat) (l:List Int),lB n (l.map PyData.int)=true:=λn l=>by
 induction l with
 |nil=>rfl
 |cons i l ih=>simp[lB,okd,ih]
theorem ZV(n:Nat)(r:Ear.Rw):okd (n+2) (Ear.rD r)=true:=by unfold Ear.rD Ear.dT;simp[okd,lB,Pu]
theorem aiq(n:Nat)(R:List Ear.Rw):lB (n+2) (R.map Ear.rD)=true:=by
 induction R with
 |nil=>rfl
 |cons r R ih=>simp[lB,ZV,ih]
def Jl:Dat->Out Dat
 |.list ds=>match intsOf ds with
  |some l=>.ok (.list ((sortI l).map PyData.int))
  |none=>match Fq ds with
   |some R=>.ok (.list ((RQ R).map Ear.rD))
   |none=>.bad
 |_=>.bad
def Rm:Dat->Out Dat
 |.list ds=>match Fq ds with
  |some R=>match decide (R.eraseDups.length<=76) with
   |true=>.ok (.list ((bB R).map Ear.rD))
   |false=>.bad
  |none=>.bad
 |_=>.bad
theorem Wm{β:Type}{enc:β->Dat}{le:β->β->Bool}(h:∀a b,PySem.W.dataLe false id (enc a) (enc b)=le a b)(l:List β):(l.map enc).mergeSort (PySem.W.dataLe false id)=(l.mergeSort le).map enc:=by rw[List.map_mergeSort (r:=le) (s:=PySem.W.dataLe false id) (λa _ b _=>(h a b).symm)]
theorem vU{α:Type}[BEq α][LawfulBEq α]{l:List α}{x:α}:x∈l.eraseDups↔x∈l:=by
 induction hn:l.length using Nat.strongRecOn generalizing l with
 |_ n ih=>
  cases l with
  |nil=>simp
  |cons a r=>
   rw[List.eraseDups_cons];simp only[arW]at hn;have hl:(r.filter λb=>!b==a).length<=r.length:=ar3 _ _;rw[arV,ih _ (by omega) rfl,ar4,arV];constructor
   ·rintro(h|h)
    ·exact .inl h
    ·exact .inr h.1
   ·rintro(h|h)
    ·exact .inl h
    ·by_cases e:x=a
     ·exact .inl e
     ·exact .inr ⟨h,by simpa using e⟩
theorem Fv{α:Type}[BEq α][LawfulBEq α]{l:List α}:l.eraseDups.Nodup:=by
 induction hn:l.length using Nat.strongRecOn generalizing l with
 |_ n ih=>
  cases l with
  |nil=>simp
  |cons a r=>
   rw[List.eraseDups_cons];simp only[arW]at hn;have hl:(r.filter λb=>!b==a).length<=r.length:=ar3 _ _;refine ata.mpr ⟨λh=>?_,ih _ (by omega) rfl⟩;rw[vU,ar4]at h;simpa using h.2
theorem dN{R:List Ear.Rw}{r:Ear.Rw}:r∈bB R↔r∈R:=by unfold bB RQ;rw[List.mem_mergeSort,vU]
theorem ZG(R:List Ear.Rw):Ear.Xb (bB R):=by
 unfold Ear.Xb bB RQ;have srt:=asQ (le:=λa b:Ear.Rw=>decide (Ear.rk a<=Ear.rk b)) (λa b c k1 k2=>by rw[ate]at *;exact List.le_trans k1 k2) (λa b=>by rw[asW,ate,ate];exact List.le_total _ _) R.eraseDups;have nd:(R.eraseDups.mergeSort λa b=>decide (Ear.rk a<=Ear.rk b)).Nodup:=(asU _ _).nodup_iff.mpr Fv;refine List.Pairwise.imp₂ (λa b h1 h2=>?_) srt nd;rw[ate]at h1;by_cases c:Ear.rk a < Ear.rk b
 ·exact c
 ·exact absurd (Ear.adU (List.le_antisymm h1 (List.not_lt.mp c))) h2
theorem Xn{l:List Int}{i:Int}:i∈Ad l↔i∈l:=by unfold Ad sortI;rw[List.mem_mergeSort,vU]
theorem ZM(l:List Int):(Ad l).Pairwise (· < ·):=by unfold Ad sortI;have srt:=asQ (le:=λa b:Int=>decide (a<=b)) (λa b c k1 k2=>by rw[ate]at *;omega) (λa b=>by rw[asW,ate,ate];omega) l.eraseDups;have nd:(l.eraseDups.mergeSort λa b=>decide (a<=b)).Nodup:=(asU _ _).nodup_iff.mpr Fv;refine List.Pairwise.imp₂ (λa b h1 h2=>?_) srt nd;rw[ate]at h1;have:a≠b:=h2;omega
section
variable{K:arG}{g:Gh}{H:Hp}
theorem Qp{xs:List V}{ds:List Dat}(h:aM K g H xs ds):∀{ys:List V} {es:List Dat},Ear.fD (Ear.afW xs ds) ys es->aM K g H ys es
 |[],[],_=>.nil
 |[],_::_,z=>nomatch z.1
 |_::_,[],z=>nomatch z.1
 |y::ys,e::es,z=>by
  obtain⟨i,h1,h2⟩:=z.2 0 y e rfl rfl;obtain⟨d,h3,h4⟩:=h.get' h1;rw[h2]at h3;cases h3;exact .cons h4 (Qp h ⟨atb z.1,λi v x a b=>z.2 (i+1) v x a b⟩)
end
section
variable{X:Cx}{aj:aR}{W:WX}{a:Expr}{fa:QF}{p p2 pos pos2:Pos}
theorem ahH:Kl aj X.K W Jl (Ear.JQ X.K):=λσ g H x d Q k rx h=>by
 unfold Jl at h;split at h
 ·next ds=>
  obtain⟨l,us,rfl,h1,h2⟩:=gK rx;unfold Ear.JQ;split at h
  ·next ns hn=>
   have e:=FT hn;subst e;refine⟨l,us,ns.map PyData.int,rfl,h1,h2.dp (n:=12) (Pu 12 ns),as7 (λa b=>by simp[PySem.W.alike]),PySem.W.Sortable.others (λb=>⟨(λz=>nomatch z),λxs z=>nomatch z⟩),λd hd=>by
    obtain⟨i,_,rfl⟩:=arQ.mp hd;simp[PyData.depth],λys q hy nq=>?_⟩
   have hs:=Wm (enc:=PyData.int) (le:=λa b:Int=>decide (a<=b)) (λa b=>congrFun (congrFun (PySem.W.dataLe_int (λk:Int=>k)) a) b) ns;rw[hs]at hy;exact h (.ref q) _ (Ex.new nq) (.lst (.inl ⟨.inl upd_same,k.fresh nq⟩) ((Qp h2 hy).ex (Ex.new nq) k))
  ·split at h
   ·next R hR=>
    have e:=Q6 hR;subst e;refine⟨l,us,R.map Ear.rD,rfl,h1,h2.dp (n:=12) (aiq 10 R),as7 Ear.Wd,PySem.W.Sortable.tuples (λb=>⟨_,_,rfl⟩),λd hd=>by
     obtain⟨i,_,rfl⟩:=arQ.mp hd;rw[(Ear.adM i).2]
     decide,λys q hy nq=>?_⟩
    ·have hs:=Wm (enc:=Ear.rD) (le:=λa b:Ear.Rw=>decide (Ear.rk a<=Ear.rk b)) (λa b=>by rw[←Ear.Ls];rfl) R;rw[hs]at hy;exact h (.ref q) _ (Ex.new nq) (.lst (.inl ⟨.inl upd_same,k.fresh nq⟩) ((Qp h2 hy).ex (Ex.new nq) k))
   ·exact atd h
 ·exact atd h
theorem aie(hu:X.A.units+65 < cLine)(hg:Gl X "sorted")(hm:X.mg "sorted"=none)(ha:QW aj X W a fa)(hs:nst a=true):QE aj X W (.Call (.Name "sorted" p) [a] [] pos) (eZ Jl fa):=
 ag8 (.inl rfl) (Ear.ac8 hu) ahH hg hm ⟨by decide +kernel,by decide,by decide⟩ ha hs
theorem Ie{K:arG}{g:Gh}{H:Hp}:∀{vs:List V} {l:List Int},DpAll K H vs (l.map PyData.int)->aM K g H vs (l.map PyData.int)
 |_,[],.nil=>.nil
 |_,_::_,.cons (.int i) t=>.cons (.int i) (Ie t)
theorem adx{K:arG}{g:Gh}{H:Hp}{v:V}{r:Ear.Rw}(h:Ear.xM K H v r):Rep K g H v (Ear.rD r):=by
 unfold Ear.xM Ear.rD at h;cases h with
 |tup h1 t1=>
  cases t1 with
  |cons a1 t1=>
   cases a1;cases t1 with
   |cons a2 t2=>
    cases t2;cases a2 with
    |tup h2 t3=>exact .tup h1 (.cons (.int _) (.cons (.tup h2 (Ie t3)) .nil))
theorem Wi{K:arG}{g:Gh}{H:Hp}:∀{vs:List V} {R:List Ear.Rw},aM K g H vs (R.map Ear.rD)->Ear.fD (Ear.xM K H) vs R
 |_,[],.nil=>⟨rfl,λi v x a b=>by simp at a⟩
 |_,r::R,.cons h t=>by
  have ih:=Wi t;refine⟨congrArg (· + 1) ih.1,λi v x a b=>?_⟩;cases i with
  |zero=>
   simp at a b;subst a b;exact h.dp (n:=12) (ZV 10 _)
  |succ i=>exact ih.2 i v x (by simpa using a) (by simpa using b)
theorem Wc{K:arG}{g:Gh}{H:Hp}:∀{vs:List V} {R:List Ear.Rw},Ear.fD (Ear.xM K H) vs R->aM K g H vs (R.map Ear.rD)
 |[],[],_=>.nil
 |[],_::_,h=>nomatch h.1
 |_::_,[],h=>nomatch h.1
 |v::vs,r::R,h=>.cons (adx (h.2 0 v r rfl rfl)) (Wc ⟨atb h.1,λi v x a b=>h.2 (i+1) v x a b⟩)
theorem ai2(hu:X.A.units+65 < cLine)(hc:X.calm=true)(hg:Gl X "sorted")(hm:X.mg "sorted"=none)(hg2:Gl X "set")(hm2:X.mg "set"=none)(ha:QW aj X W a fa)(hs:nst a=true):QE aj X W (.Call (.Name "sorted" p) [.Call (.Name "set" p2) [a] [] pos2] [] pos) (eZ Rm fa):=by
 have h0:=pa_cons ha pa_nil (cH hs []);have h1:PE X (.Call (.Name "set" p2) [a] [] pos2) _:=pe_callTy (Ear.aaW hu hc) hg2 hm2 (by decide +kernel) h0 (by decide) (by decide) (cH hs []) (by with_unfolding_all rfl)
 have h2:=pa_cons h1 pa_nil (cH rfl []);refine PE.weak (pe_callB (p:=p) (pos:=pos) (Ear.acg hu hc) hg hm (by decide +kernel) h2 (by decide) (by decide) (cH rfl []) (by with_unfolding_all rfl)) λσ H Q ⟨g,Z,M,I,h⟩=>?_;refine tW.go I h.bnd λd v H1 h1 e1 r1=>?_;have I1:=I.ex e1;unfold Rm at h1;split at h1
 ·next ds=>
  split at h1
  ·next R hR=>
   split at h1
   ·next hd=>
    have e:=Q6 hR;subst e;obtain⟨l,us,rfl,s1,s2⟩:=gK r1;unfold Ear.KZ;refine⟨l,us,R,R.eraseDups,rfl,s1,Wi s2,atf hd,λr hr=>vU.mpr hr,λq L nq hL nd mem few=>?_⟩;have eq:Ex H1 (upd H1 q (Ear.Og X.w q L)):=Ex.new nq;unfold Ear.PN;refine⟨q,L,rfl,upd_same,λe he=>?_,nd,few,λys S z hy up ms nz=>?_⟩
    ·exact(Rep.ex eq I1.kd (adx (g:=g) (hL e he))).dp (n:=12) (ZV 10 _)
    ·have hS:S=bB R:=Ear.Tj up (ZG R) λr=>by rw[ms,mem,dN]
     subst hS;have I2:=I1.ex eq;exact h1 (.ref z) _ ((e1.trans eq).trans (Ex.new nz)) (.lst (.inl ⟨.inl upd_same,I2.kd.fresh nz⟩) ((Wc hy).ex (Ex.new nz) I2.kd))
   ·exact atd h1
  ·exact atd h1
 ·exact atd h1
def CK(it:IF)(tg:fH)(vs:List Nat)(tt:QT)(te:QF):QF:=λM Z=>(Bm it tg vs tt te M Z).bind λds=>match intsOf ds with
 |some l=>Out.when (decide (l.length<=4000)) (.ok (.list ((Ad l).map PyData.int)))
 |none=>.bad
theorem R5{K:arG}{g:Gh}{H:Hp}:∀ns:List Int,aM K g H (ns.map V.int) (ns.map PyData.int)
 |[]=>.nil
 |n::ns=>.cons (.int n) (R5 ns)
theorem ah5{S T:List Int}(hs:S.Pairwise (· < ·))(ht:T.Pairwise (· < ·))(h:∀i,i∈S↔i∈T):S=T:=by
 induction S generalizing T with
 |nil=>
  cases T with
  |nil=>rfl
  |cons t T=>exact absurd ((h t).mpr arM) asp
 |cons s S ih=>
  cases T with
  |nil=>exact absurd ((h s).mp arM) asp
  |cons t T=>
   rw[List.pairwise_cons]at hs ht;have e:s=t:=by
    rcases arV.mp ((h s).mp arM) with e|e
    ·exact e
    ·rcases arV.mp ((h t).mpr arM) with e2|e2
     ·exact e2.symm
     ·have:=ht.1 s e;have:=hs.1 t e2;omega
   subst e;rw[ih hs.2 ht.2 λi=>?_];constructor
   ·intro hi;rcases arV.mp ((h i).mp (arL _ hi)) with e|e
    ·have:=hs.1 i hi;omega
    ·exact e
   ·intro hi;rcases arV.mp ((h i).mpr (arL _ hi)) with e|e
    ·have:=ht.1 i hi;omega
    ·exact e
theorem acN{a b:List Dat}{l:List Int}(h:intsOf (a++b)=some l):∃x y,intsOf a=some x/\intsOf b=some y/\l=x++y:=by have e:=FT h;obtain⟨x,y,rfl,h1,h2⟩:=List.append_eq_map_iff.mp e;exact⟨x,y,by rw[←h1,mF],by rw[←h2,mF],rfl⟩
theorem amF{it:IF}{tg:fH}{js vs:List Nat}{tt:QT}{te:QF}(hj:∀j∈js,j∈vs)(σ:L2.St)(H:Hp)(Q:VK)(h:tQ X.K aj W (CK it tg vs tt te) σ H Q) :
  tCB (Ear.NQ X.w) (tCons (Ear.als X.w (tI X.K aj W false it) (yI X.K aj js tg) (jK X.K aj WF tt) (tQ X.K aj WF te) vs) tNil) σ H Q:=by
 obtain⟨g,Z,M,I,h⟩:=h;unfold CK Bm at h;have h:=h.bnd;refine⟨g,Z,M,I,h.bnd.mono (λds hk J C H1 e1 w c _ D nD=>?_) λ_ z=>z⟩;obtain⟨hz,hk⟩:=hk.o9;have hlen:=atf hz;obtain⟨total,htot,hk⟩:∃total,cR tg tt te M (bT Z vs) ds=.ok total/\(match intsOf total with
   |some l=>Out.when (decide (l.length<=4000)) (Out.ok (PyData.list ((Ad l).map PyData.int)))
   |none=>Out.bad).sat (λd=>∀v H',Ex H H'->Rep X.K g H' v d->Q v H') (qJ X.K aj W g H σ):=by
  cases hc:cR tg tt te M (bT Z vs) ds with
  |bad=>rw[hc]at hk;exact atd hk
  |exc x=>exact absurd hc mV
  |ok total=>
   rw[hc]at hk;exact⟨total,rfl,hk⟩
 split at hk
 ·next nums hnums=>
  obtain⟨hz2,hk⟩:=Out.sat.o9 hk;have hlen2:=atf hz2;have I1:=(I.ex e1).wipe vs;have kD:∀{Ha:Hp} {S:Int->Bool} {n:Nat},Ex H1 Ha->Ha D=some (SetO X.w D S n)->SInv X.K aj (L2.wipe σ vs) Ha (g.add D) (bT Z vs) M:=λea hu=>I1.add nD ea hu trivial
  let Pv:Nat->Hp->Prop:=λi Ha=>Ex H1 Ha/\i<=ds.length/\∃(S:Int->Bool) (n:Nat) (ys:List Int),Ha D=some (SetO X.w D S n)/\(∀j,S j=true↔j∈ys)/\n<=ys.length/\(cR tg tt te M (bT Z vs) (ds.drop i)).sat (λr=>total=ys.map PyData.int++r) λ_=>False
  refine⟨λi m Ha=>m=ds.length - i/\Pv i Ha,⟨ds.length,rfl,Ex.new nD,asz _,_,0,[],upd_same,λj=>by simp,ar9 _,?_⟩,?_⟩
  ·rw[as4,htot];rfl
  ·rintro i m Ha ⟨rfl,ea,hi,S,n,ys,hu,hS,hn,hs⟩;have Ia:=kD ea hu;have Ca:=w.add g (g.add D) H1 Ha (I.kd.ex e1) c (Gh.Di nD ea) ea;by_cases hlt:i < ds.length
   ·refine .inr ⟨w.go _ i Ha Ca hlt,Pv (i+1),λH' p=>⟨ds.length - (i+1),by omega,rfl,p⟩,λx H' y=>?_⟩;have hd:ds[i]?=some ds[i]:=arI hlt;obtain⟨e2,rx⟩:=w.yld _ i Ha x H' _ Ia.kd Ca hd y;have I2:=Ia.ex e2;rw[asH hlt,cR]at hs;split at hs
    ·exact atd hs
    ·next Z1 he=>
     refine⟨g.add D,_,M,_,Z1,I2,rx,he,λws I3=>⟨xJ js ws _ vs hj |>.trans (Ay σ vs),?_⟩⟩;refine jK.go I3 (xq hs.bnd) λb H3 hb e3=>?_;have I4:=I3.ex e3;have hu3:=e3 _ _ (e2 _ _ hu);cases b with
     |false=>
      have hb:(cR tg tt te M (bT Z vs) (ds.drop (i+1))).sat (λr=>total=ys.map PyData.int++r) λ_=>False:=hb;exact⟨(ea.trans e2).trans e3,hlt,S,n,ys,hu3,hS,hn,hb⟩
     |true=>
      have hb:((yt (te M Z1)).bind λy=>(cR tg tt te M (bT Z vs) (ds.drop (i+1))).bind λr=>Out.ok (y::r)).sat (λr=>total=ys.map PyData.int++r) λ_=>False:=hb;refine tQ.go I4 (xq hb.bnd) λy v H4 hyv e4 ry=>?_;have hu4:=e4 _ _ hu3;obtain⟨r,hr,ht⟩:∃r,cR tg tt te M (bT Z vs) (ds.drop (i+1))=.ok r/\total=ys.map PyData.int++y::r:=by
       cases hc:cR tg tt te M (bT Z vs) (ds.drop (i+1)) with
       |bad=>rw[hc]at hyv;exact atd hyv
       |exc x=>exact absurd hc mV
       |ok r=>
        rw[hc]at hyv;exact⟨r,rfl,hyv⟩
      rw[ht]at hnums;obtain⟨xl,yl,q1,q2,q3⟩:=acN hnums;cases y with
      |int kk=>
       cases ry;have hyl:ys.length < nums.length:=by
        rw[mF]at q1
        obtain rfl:ys=xl:=arY q1
        rw[intsOf,aso]at q2;obtain⟨z,_,rfl⟩:=q2;rw[q3];simp
       refine⟨kk,S,n,rfl,hu4,by unfold scanBound;omega,Ex.mut (((ea.trans e2).trans e3).trans e4) nD,hlt,_,_,ys++[kk],upd_same,λj=>?_,?_,?_⟩
       ·simp[hS]
       ·split<;>simp<;>omega
       ·rw[hr];show total=_;rw[ht];simp
      |_=>cases q2
   ·have e:i=ds.length:=by omega
    refine .inl ⟨w.stop _ i Ha Ca e,?_⟩;rw[e,asN]at hs;have hs:total=ys.map PyData.int++[]:=hs;rw[asF]at hs;rw[hs,mF]at hnums
    obtain rfl:ys=nums:=arY hnums
    unfold Ear.NQ;refine⟨D,S,n,rfl,hu,λns z up mem _ nz=>?_⟩;have hns:ns=Ad ys:=ah5 up (ZM ys) λj=>by rw[mem,hS,Xn]
    subst hns;have ex:=(e1.trans ea).trans (Ex.new (o:=.lst ((Ad ys).map V.int)) nz);have kk:=(I.ex (e1.trans ea)).kd;exact hk (.ref z) _ ex (.lst (.inl ⟨.inl upd_same,kk.fresh nz⟩) (R5 _))
 ·exact atd hk
theorem adK{elt tg iter:Expr}{ifs:List Expr}{scope:Scope}{own:List (Str×Nat)}{it:IF}{tgf:fH}{js:List Nat}{tt:QT}{te:QF}(hu:X.A.units+65 < cLine)(hc:X.calm=true)(hN:X.N.Nodup)(hg0:Gl X "sorted")(hm:X.mg "sorted"=none)(hi:QI aj X W false tg iter it)(ok:blkC X.N X.env.scope scope own=true)(hj:∀j∈js,j∈own.map (·.2))
  (hg:∀(s:Shared) (H:Hp) (C:Addr) (cl:List (Str×Addr)) (fp:List Addr),QG aj (X.blk s H scope (compEnvC scope cl C X.env) fp) tg js tgf)
  (ht:∀(s:Shared) (H:Hp) (C:Addr) (cl:List (Str×Addr)) (fp:List Addr),PTs (X.blk s H scope (compEnvC scope cl C X.env) fp) ifs (jK X.K aj WF tt))
  (he:∀(s:Shared) (H:Hp) (C:Addr) (cl:List (Str×Addr)) (fp:List Addr),QE aj (X.blk s H scope (compEnvC scope cl C X.env) fp) WF elt te) (hs:∀x,foldedSetIterable iter X.env x=pure x) :
  QE aj X W (.Call (.Name "sorted" p) [.SetComp elt [⟨tg,iter,ifs,0⟩] scope pos2] [] pos) (CK it tgf (own.map (·.2)) tt te):=by
 have h1:=Ear.alA (pos:=pos2) (g:=yI X.K aj js tgf) (tt:=jK X.K aj WF tt) (te:=tQ X.K aj WF te) hc hN hi (blkOk_by ok) (λs H C cl fp=>hg s H C cl fp) ht (λs H C cl fp=>he s H C cl fp) hs;have h2:=pa_cons h1 pa_nil (cH rfl []);exact PE.weak (pe_callB (p:=p) (pos:=pos) (Ear.adV hu hc) hg0 hm (by decide +kernel) h2 (by decide) (by decide) (cH rfl []) (by with_unfolding_all rfl)) λσ H Q h=>amF hj σ H Q h
end
def Ab(Z:Env):Bool:=Z.all λo=>match o with
 |some (.mut _)=>false
 |_=>true
theorem Z8{Z:Env}(h:Ab Z=true){i:Nat}{xs:List Dat}:Z[i]?≠some (some (.mut xs)):=λz=>by
 have:=ar7.mp h _ (arN z);cases this
theorem SInv.loc{K:arG}{aj:aR}{σ:L2.St}{H:Hp}{g:Gh}{Z:Env}{M:Mo}{D:Addr}{us us':List V}(I:SInv K aj σ H g Z M)(n:Ab Z=true)(hD:H D=some (.lst us))(lo:g.Lo D):SInv K aj σ (upd H D (.lst us')) g Z M where
 kd:=I.kd.upd trivial
 wok:=I.wok.loc I.kd hD lo
 len:=I.len
 dat:=λi d h=>by
  obtain⟨v,h1,h2⟩:=I.dat i d h;exact⟨v,h1,ahs I.kd hD lo h2⟩
 own:=λi xs h=>absurd h (Z8 n)
 sep:=λi j xs ys l ne h1=>absurd h1 (Z8 n)
def iG(tg:fH)(tt:QT)(it1:IF)(tg1:fH)(vs1:List Nat)(tt1:QT)(te:QF)(M:Mo)(Z:Env):List Dat->Out (List Dat)
 |[]=>.ok []
 |d::ds=>match tg d Z with
  |none=>.bad
  |some Z1=>(yt (tt M Z1)).bind λb=>if b=true then Out.when (Ab Z1) ((yt (it1 M Z1)).bind λes=>(cR tg1 tt1 te M (bT Z1 vs1) es).bind λr1=>(iG tg tt it1 tg1 vs1 tt1 te M Z ds).bind λr=>.ok (r1++r)) else iG tg tt it1 tg1 vs1 tt1 te M Z ds
def abP(it:IF)(tg:fH)(vs:List Nat)(tt:QT)(it1:IF)(tg1:fH)(vs1:List Nat)(tt1:QT)(te:QF):IF:=λM Z=>(it M Z).bind λds=>(iG tg tt it1 tg1 vs1 tt1 te M (bT Z vs) ds).bind λr=>Out.when (decide (r.length<=50000)) (.ok r)
def Eb(it:IF)(tg:fH)(vs:List Nat)(tt:QT)(it1:IF)(tg1:fH)(vs1:List Nat)(tt1:QT)(te:QF):QF:=λM Z=>(abP it tg vs tt it1 tg1 vs1 tt1 te M Z).bind λr=>.ok (.list r)
theorem yK{tg tg1:fH}{tt tt1:QT}{te:QF}{it1:IF}{vs1:List Nat}{M:Mo}{Z:Env}:∀{ds:List Dat} {x:dR},iG tg tt it1 tg1 vs1 tt1 te M Z ds≠.exc x
 |[],_,h=>nomatch h
 |d::ds,x,h=>by
  rw[iG]at h;split at h
  ·cases h
  ·next Z1 e=>
   cases h1:tt M Z1 with
   |bad=>rw[h1]at h;cases h
   |exc y=>rw[h1]at h;cases h
   |ok b=>
    rw[h1]at h;cases b with
    |false=>exact yK (ds:=ds) (x:=x) h
    |true=>
     cases hn:Ab Z1 with
     |false=>rw[hn]at h;cases h
     |true=>
      rw[hn]at h;cases h2:it1 M Z1 with
      |bad=>rw[h2]at h;cases h
      |exc y=>rw[h2]at h;cases h
      |ok es=>
       rw[h2]at h;have h:((cR tg1 tt1 te M (bT Z1 vs1) es).bind λr1=>(iG tg tt it1 tg1 vs1 tt1 te M Z ds).bind λr=>Out.ok (r1++r))=.exc x:=h;cases h3:cR tg1 tt1 te M (bT Z1 vs1) es with
       |bad=>rw[h3]at h;cases h
       |exc y=>exact absurd h3 mV
       |ok r1=>
        rw[h3]at h;have h:((iG tg tt it1 tg1 vs1 tt1 te M Z ds).bind λr=>Out.ok (r1++r))=.exc x:=h;cases h4:iG tg tt it1 tg1 vs1 tt1 te M Z ds with
        |bad=>rw[h4]at h;cases h
        |exc y=>exact absurd h4 yK
        |ok r=>rw[h4]at h;cases h
section
variable{K:arG}{aj:aR}{W:WX}
theorem aiR{it it1:IF}{tg tg1:fH}{js vs js1 vs1:List Nat}{tt tt1:QT}{te:QF}(hj:∀j∈js,j∈vs)(hj1:∀j∈js1,j∈vs1)(σ:L2.St)(H:Hp)(Q:VK)(h:tFr K aj W (abP it tg vs tt it1 tg1 vs1 tt1 te) σ H Q) :
  tLc2 (tI K aj W false it) (yI K aj js tg) (jK K aj WF tt) (tI K aj WF true it1) (yI K aj js1 tg1) (jK K aj WF tt1) (tQ K aj WF te) vs vs1 σ H Q:=by
 obtain⟨g,Z,M,I,h⟩:=h;refine⟨g,Z,M,I,h.bnd.mono (λds hk J C H1 e1 w c _ D nD=>?_) λ_ z=>z⟩;obtain⟨total,htot,hlen,hQ⟩:∃total,iG tg tt it1 tg1 vs1 tt1 te M (bT Z vs) ds=.ok total/\total.length<=50000/\∀l us H',H l=none->Ex H H'->H' l=some (.lst us)->aM K (g.add l) H' us total->Q (.ref l) H':=by
  cases hc:iG tg tt it1 tg1 vs1 tt1 te M (bT Z vs) ds with
  |bad=>rw[hc]at hk;exact atd hk
  |exc x=>exact absurd hc yK
  |ok total=>
   rw[hc]at hk;obtain⟨hz,hk⟩:=Out.sat.o9 hk;exact⟨total,rfl,atf hz,hk⟩
 have I1:=(I.ex e1).wipe vs;have kD:∀{Ha:Hp} {us:List V},Ex H1 Ha->Ha D=some (.lst us)->SInv K aj (L2.wipe σ vs) Ha (g.add D) (bT Z vs) M:=λea hu=>I1.add nD ea hu trivial;have lD:(g.add D).Lo D:=.inr rfl
 let Pv:Nat->Hp->Prop:=λi Ha=>Ex H1 Ha/\i<=ds.length/\∃us ys,Ha D=some (.lst us)/\aM K (g.add D) Ha us ys/\(iG tg tt it1 tg1 vs1 tt1 te M (bT Z vs) (ds.drop i)).sat (λr=>total=ys++r) λ_=>False
 refine⟨λi m Ha=>m=ds.length - i/\Pv i Ha,⟨ds.length,rfl,Ex.new nD,asz _,[],[],upd_same,.nil,?_⟩,?_⟩
 ·rw[as4,htot];rfl
 ·rintro i m Ha ⟨rfl,ea,hi,us,ys,hu,hU,hs⟩;have Ia:=kD ea hu;have Ca:=w.add g (g.add D) H1 Ha (I.kd.ex e1) c (Gh.Di nD ea) ea;by_cases hlt:i < ds.length
  ·refine .inr ⟨w.go _ i Ha Ca hlt,Pv (i+1),λH' p=>⟨ds.length - (i+1),by omega,rfl,p⟩,λx H' y=>?_⟩;have hd:ds[i]?=some ds[i]:=arI hlt;obtain⟨e2,rx⟩:=w.yld _ i Ha x H' _ Ia.kd Ca hd y;have I2:=Ia.ex e2;rw[asH hlt,iG]at hs;split at hs
   ·exact atd hs
   ·next Z1 he=>
    refine⟨g.add D,_,M,_,Z1,I2,rx,he,λws I3=>⟨xJ js ws _ vs hj |>.trans (Ay σ vs),?_⟩⟩;refine jK.go I3 (xq hs.bnd) λb H3 hb e3=>?_;have I4:=I3.ex e3;have hu3:=e3 _ _ (e2 _ _ hu);have hU3:=(hU.ex e2 Ia.kd).ex e3 I2.kd;cases b with
    |false=>
     have hb:(iG tg tt it1 tg1 vs1 tt1 te M (bT Z vs) (ds.drop (i+1))).sat (λr=>total=ys++r) λ_=>False:=hb;exact⟨(ea.trans e2).trans e3,hlt,us,ys,hu3,hU3,hb⟩
    |true=>
     have hb:(Out.when (Ab Z1) ((yt (it1 M Z1)).bind λes=>(cR tg1 tt1 te M (bT Z1 vs1) es).bind λr1=>(iG tg tt it1 tg1 vs1 tt1 te M (bT Z vs) (ds.drop (i+1))).bind λr=>Out.ok (r1++r))).sat (λr=>total=ys++r) λ_=>False:=hb;obtain⟨nm,hb⟩:=hb.o9;refine⟨g.add D,Z1,M,I4,(xq (E':=qJ K aj WF (g.add D) H3 _) hb.bnd).mono (λes hk1 J1 C1 H4 e4 w1 c1 fm=>?_) λ_ z=>z⟩;have fm:=fm rfl
     -- all that is added by this walk
     obtain⟨r1,r2,hr1,hr2,ht⟩:∃r1 r2,cR tg1 tt1 te M (bT Z1 vs1) es=.ok r1/\iG tg tt it1 tg1 vs1 tt1 te M (bT Z vs) (ds.drop (i+1))=.ok r2/\total=ys++(r1++r2):=by
      cases q1:cR tg1 tt1 te M (bT Z1 vs1) es with
      |bad=>rw[q1]at hk1;exact atd hk1
      |exc y=>exact absurd q1 mV
      |ok r1=>
       rw[q1]at hk1;have hk1:((iG tg tt it1 tg1 vs1 tt1 te M (bT Z vs) (ds.drop (i+1))).bind λr=>Out.ok (r1++r)).sat (λr=>total=ys++r) λ_=>False:=hk1;cases q2:iG tg tt it1 tg1 vs1 tt1 te M (bT Z vs) (ds.drop (i+1)) with
       |bad=>rw[q2]at hk1;exact atd hk1
       |exc y=>exact absurd q2 yK
       |ok r2=>
        rw[q2]at hk1;exact⟨r1,r2,rfl,rfl,hk1⟩
     let P1:Nat->Hp->Prop:=λj Hb=>Ex H1 Hb/\SInv K aj (sets (L2.wipe σ vs) js ws) Hb (g.add D) Z1 M/\C1 (g.add D) Hb/\j<=es.length/\∃us' zs,Hb D=some (.lst us')/\aM K (g.add D) Hb us' (ys++zs)/\(cR tg1 tt1 te M (bT Z1 vs1) (es.drop j)).sat (λr=>r1=zs++r) λ_=>False
     refine⟨λj m Hb=>m=es.length - j/\P1 j Hb,⟨es.length,rfl,((ea.trans e2).trans e3).trans e4,I4.ex e4,c1,asz _,us,[],e4 _ _ hu3,by rw[asF];exact hU3.ex e4 I4.kd,?_⟩,?_⟩
     ·rw[as4,hr1];rfl
     ·rintro j m Hb ⟨rfl,fb,Ib,Cb,hjl,us',zs,hub,hUb,hsb⟩;by_cases hlj:j < es.length
      ·refine .inr ⟨w1.go _ j Hb Cb hlj,P1 (j+1),λH' p=>⟨es.length - (j+1),by omega,rfl,p⟩,λx H' y=>?_⟩;have hdj:es[j]?=some es[j]:=arI hlj;obtain⟨f2,rx⟩:=w1.yld _ j Hb x H' _ Ib.kd Cb hdj y;have J2:=(Ib.ex f2).wipe vs1;rw[asH hlj,cR]at hsb;split at hsb
       ·exact atd hsb
       ·next Z2 he1=>
        refine⟨g.add D,_,M,_,Z2,J2,rx,he1,λws1 J3=>⟨xJ js1 ws1 _ vs1 hj1 |>.trans (Ay _ vs1),?_⟩⟩;refine jK.go J3 (xq hsb.bnd) λb H6 hb6 e6=>?_;have f26:=f2.trans e6;have hu6:=f26 _ _ hub;have hU6:=hUb.ex f26 Ib.kd;cases b with
        |false=>
         have hb6:(cR tg1 tt1 te M (bT Z1 vs1) (es.drop (j+1))).sat (λr=>r1=zs++r) λ_=>False:=hb6;exact⟨fb.trans f26,Ib.ex f26,w1.ex _ _ _ Ib.kd Cb f26,hlj,us',zs,hu6,hU6,hb6⟩
        |true=>
         have hb6:((yt (te M Z2)).bind λy=>(cR tg1 tt1 te M (bT Z1 vs1) (es.drop (j+1))).bind λr=>Out.ok (y::r)).sat (λr=>r1=zs++r) λ_=>False:=hb6;refine tQ.go (J3.ex e6) (xq hb6.bnd) λy v H7 hyv e7 ry=>?_;have f27:=f26.trans e7;have Ib7:=Ib.ex f27;have hu7:=f27 _ _ hub;have hU7:=hUb.ex f27 Ib.kd;have hyv:=hyv.bnd;have hr:∃r,cR tg1 tt1 te M (bT Z1 vs1) (es.drop (j+1))=.ok r/\r1=zs++y::r:=by
          cases q1:cR tg1 tt1 te M (bT Z1 vs1) (es.drop (j+1)) with
          |bad=>rw[q1]at hyv;exact atd hyv
          |exc y=>exact absurd q1 mV
          |ok r=>
           rw[q1]at hyv;exact⟨r,rfl,hyv⟩
         obtain⟨r,hr,hr1'⟩:=hr;have hll:us'.length < 50000:=by rw[hUb.length];rw[ht,hr1']at hlen;simp at hlen ⊢;omega
         refine⟨us',hu7,sz_lt (Nat.lt_trans hll (by decide)),Ex.mut (fb.trans f27) nD,Ib7.loc nm hu7 lD,fm true _ _ _ _ Ib7.kd (w1.ex _ _ _ Ib.kd Cb f27) (Gr.upd Ib7.kd hu7 (.inr lD)),hlj,us'++[v],zs++[y],upd_same,?_,?_⟩
         ·rw[←List.append_assoc];exact Y9 Ib7.kd hu7 lD (hU7.append (.cons ry .nil))
         ·rw[hr];show r1=_;rw[hr1'];simp
      ·have e:j=es.length:=by omega
       refine .inl ⟨w1.stop _ j Hb Cb e,?_⟩;rw[e,asN]at hsb;have hsb:r1=zs++[]:=hsb;rw[asF]at hsb;subst hsb;refine⟨fb,hlt,us',ys++r1,hub,hUb,?_⟩;rw[hr2];show total=_;rw[ht,List.append_assoc]
  ·have e:i=ds.length:=by omega
   refine .inl ⟨w.stop _ i Ha Ca e,?_⟩;rw[e,asN]at hs;have hs:total=ys++[]:=hs;rw[asF]at hs;subst hs;exact hQ D us Ha (yM e1 D nD) (e1.trans ea) hu hU
theorem afo{it it1:IF}{tg tg1:fH}{js vs js1 vs1:List Nat}{tt tt1:QT}{te:QF}(hj:∀j∈js,j∈vs)(hj1:∀j∈js1,j∈vs1)(σ:L2.St)(H:Hp)(Q:VK)(h:tQ K aj W (Eb it tg vs tt it1 tg1 vs1 tt1 te) σ H Q) :
  tLc2 (tI K aj W false it) (yI K aj js tg) (jK K aj WF tt) (tI K aj WF true it1) (yI K aj js1 tg1) (jK K aj WF tt1) (tQ K aj WF te) vs vs1 σ H Q:=by
 obtain⟨g,Z,M,I,h⟩:=h;refine aiR hj hj1 σ H Q ⟨g,Z,M,I,h.bnd.mono (λxs hk l us H' nl e hl r=>?_) λ_ z=>z⟩;refine hk (.ref l) H' e (.lst (.inl ⟨.inl hl,λz=>?_⟩) (aM.less (g:=g.add l) (g':=g) rfl (λa z=>?_) r))
 ·exact I.kd.fresh nl z
 ·rcases z with z|z|z
  ·exact .inl z
  ·exact .inr (.inl z)
  ·exact .inr (.inr (.inl z))
end
section
variable{X:Cx}{aj:aR}{W:WX}{q:Bool}{elt tg iter tg1 iter1:Expr}{ifs ifs1:List Expr}{scope:Scope}{own:List (Str×Nat)}{it it1:IF}{tgf tgf1:fH}{js js1 vs1:List Nat}{tt tt1:QT}{te:QF}{pos cpos:Pos}
theorem alO(hc:X.calm=true)(hN:X.N.Nodup)(hi:QI aj X W false tg iter it)(ok:blkC X.N X.env.scope scope own=true)(hv:∀i∈vs1,i∈own.map (·.2))(hj:∀j∈js,j∈own.map (·.2))(hj1:∀j∈js1,j∈vs1)
  (hg:∀(s:Shared) (H:Hp) (C:Addr) (cl:List (Str×Addr)) (fp:List Addr),QG aj (X.blk s H scope (compEnvC scope cl C X.env) fp) tg js tgf)
  (ht:∀(s:Shared) (H:Hp) (C:Addr) (cl:List (Str×Addr)) (fp:List Addr),PTs (X.blk s H scope (compEnvC scope cl C X.env) fp) ifs (jK X.K aj WF tt))
  (hi1:∀(s:Shared) (H:Hp) (C:Addr) (cl:List (Str×Addr)) (fp:List Addr),QI aj (X.blk s H scope (compEnvC scope cl C X.env) fp) WF true tg1 iter1 it1)
  (hg1:∀(s:Shared) (H:Hp) (C:Addr) (cl:List (Str×Addr)) (fp:List Addr),QG aj (X.blk s H scope (compEnvC scope cl C X.env) fp) tg1 js1 tgf1)
  (ht1:∀(s:Shared) (H:Hp) (C:Addr) (cl:List (Str×Addr)) (fp:List Addr),PTs (X.blk s H scope (compEnvC scope cl C X.env) fp) ifs1 (jK X.K aj WF tt1))
  (he:∀(s:Shared) (H:Hp) (C:Addr) (cl:List (Str×Addr)) (fp:List Addr),QE aj (X.blk s H scope (compEnvC scope cl C X.env) fp) WF elt te) (hs:∀x,foldedSetIterable iter X.env x=pure x) (hs1:∀env x,foldedSetIterable iter1 env x=pure x) :
  QE aj X W (.ListComp elt [⟨tg,iter,ifs,0⟩,⟨tg1,iter1,ifs1,0⟩] scope pos) (Eb it tgf (own.map (·.2)) tt it1 tgf1 vs1 tt1 te):=
 PE.weak (pe_lc2 (g:=yI X.K aj js tgf) (tt:=jK X.K aj WF tt) (wi1:=tI X.K aj WF true it1) (g1:=yI X.K aj js1 tgf1) (tt1:=jK X.K aj WF tt1) (te:=tQ X.K aj WF te) hc hN hi (blkOk_by ok) hv (λs H C cl fp=>hg s H C cl fp) ht (λs H C cl fp=>hi1 s H C cl fp) (λs H C cl fp=>hg1 s H C cl fp) ht1 (λs H C cl fp=>he s H C cl fp) hs hs1) λσ H Q h=>afo hj hj1 σ H Q h
theorem ahg{j:Nat}{y:Str}{py:Pos}(hc:X.calm=true)(hN:X.N.Nodup)(hy:X.N[j]?=some y)(hyl:X.env.scope.names.lookup y=some .local)(hsw:swapsWith (.ListComp elt [⟨tg,iter,ifs,0⟩,⟨tg1,iter1,ifs1,0⟩] scope cpos) (some (.Name y py)) pos.line X.env=pure true)
  (hi:QI aj X W false tg iter it) (ok:blkC X.N X.env.scope scope own=true) (hv:∀i∈vs1,i∈own.map (·.2)) (hj:∀j∈js,j∈own.map (·.2)) (hj1:∀j∈js1,j∈vs1)
  (hg:∀(s:Shared) (H:Hp) (C:Addr) (cl:List (Str×Addr)) (fp:List Addr),QG aj (X.blk s H scope (compEnvC scope cl C X.env) fp) tg js tgf)
  (ht:∀(s:Shared) (H:Hp) (C:Addr) (cl:List (Str×Addr)) (fp:List Addr),PTs (X.blk s H scope (compEnvC scope cl C X.env) fp) ifs (jK X.K aj WF tt))
  (hi1:∀(s:Shared) (H:Hp) (C:Addr) (cl:List (Str×Addr)) (fp:List Addr),QI aj (X.blk s H scope (compEnvC scope cl C X.env) fp) WF true tg1 iter1 it1)
  (hg1:∀(s:Shared) (H:Hp) (C:Addr) (cl:List (Str×Addr)) (fp:List Addr),QG aj (X.blk s H scope (compEnvC scope cl C X.env) fp) tg1 js1 tgf1)
  (ht1:∀(s:Shared) (H:Hp) (C:Addr) (cl:List (Str×Addr)) (fp:List Addr),PTs (X.blk s H scope (compEnvC scope cl C X.env) fp) ifs1 (jK X.K aj WF tt1))
  (he:∀(s:Shared) (H:Hp) (C:Addr) (cl:List (Str×Addr)) (fp:List Addr),QE aj (X.blk s H scope (compEnvC scope cl C X.env) fp) WF elt te) (hs:∀x,foldedSetIterable iter X.env x=pure x) (hs1:∀env x,foldedSetIterable iter1 env x=pure x) :
  SE aj X W q (.Assign [.Name y py] (.ListComp elt [⟨tg,iter,ifs,0⟩,⟨tg1,iter1,ifs1,0⟩] scope cpos) pos) (bF (aG j) (gOf (Eb it tgf (own.map (·.2)) tt it1 tgf1 vs1 tt1 te))):=by
 refine PS.weak (ps_setLc2 (g:=yI X.K aj js tgf) (tt:=jK X.K aj WF tt) (wi1:=tI X.K aj WF true it1) (g1:=yI X.K aj js1 tgf1) (tt1:=jK X.K aj WF tt1) (te:=tQ X.K aj WF te) hc hN hy hyl hsw hi (blkOk_by ok) hv (λs H C cl fp=>hg s H C cl fp) ht (λs H C cl fp=>hi1 s H C cl fp) (λs H C cl fp=>hg1 s H C cl fp) ht1 (λs H C cl fp=>he s H C cl fp) hs hs1) λD σ H ⟨g,Z,M,I,z⟩=>?_;refine afo hj hj1 σ H _ ⟨g,Z,M,I,(Out.jh (dI (σ:=σ) z)).mono (λd kk v H' e r=>?_) λx kk H' c dd e r=>kk H' g c dd (Gr.ex e) (I.ex e) r⟩;exact kk _ H' g (Gr.ex e) ((I.ex e).set r)
end
def Vh(neg:Bool)(kvs:List (Str×Dat))(k:QF):QF:=λM Z=>(k M Z).bind λd=>match d with
 |.str x=>.ok (.bool (neg ^^ (kvs.lookup x).isSome))
 |_=>.bad
def acd(kvs:List (Str×Dat))(k:QF):QF:=λM Z=>(k M Z).bind λd=>match d with
 |.str x=>match kvs.lookup x with
  |some y=>.ok y
  |none=>.bad
 |_=>.bad
section
variable{X:Cx}{aj:aR}{W:WX}{a:Expr}{fa:QF}{x:Str}{p pos:Pos}{kvs:List (Str×Dat)}{k:Nat}
theorem adL{neg:Bool}{d:Addr}(D:ac1 X.w X.K d kvs)(σ:L2.St)(H:Hp)(Q:VK)(h:tQ X.K aj W (Vh neg kvs fa) σ H Q) :
  tOp (λx y H Q=>∃(z:Str) (r:Option Value),x=.str z/\y=.ref d/\PySem.W.nsIn X.K d z=some r/\Q (.bl (neg ^^ r.isSome)) H) (tW X.K aj W fa) (tC (.ref d)) σ H Q:=by
 obtain⟨g,Z,M,I,h⟩:=h;refine tW.go I h.bnd λe v H1 h1 e1 r1=>?_;split at h1
 ·next z=>
  cases jW r1;obtain⟨es,n,_,_,hl⟩:=D;have hz:=hl z;cases hk:kvs.lookup z with
  |none=>
   rw[hk]at hz h1;exact⟨z,none,rfl,rfl,hz,h1 _ H1 e1 (.bl _)⟩
  |some d'=>
   rw[hk]at hz h1;obtain⟨v,u,h2,_⟩:=hz;exact⟨z,some u,rfl,rfl,h2,h1 _ H1 e1 (.bl _)⟩
 ·exact atd h1
theorem opG{neg:Bool}{op:CmpOp}{d:Addr}(hn:(op=.In/\neg=false)∨(op=.NotIn/\neg=true))(D:ac1 X.w X.K d kvs):OpR X (compareOp op) (λx y H Q=>∃(z:Str) (r:Option Value),x=.str z/\y=.ref d/\PySem.W.nsIn X.K d z=some r/\Q (.bl (neg ^^ r.isSome)) H):=by
 obtain⟨es,n,D,_⟩:=D;rcases hn with⟨rfl,rfl⟩|⟨rfl,rfl⟩
 ·have:=op_in_kd (X:=X) D;simpa only[Bool.false_xor] using this
 ·have:=op_notIn_kd (X:=X) D;simpa only[Bool.true_xor] using this
theorem akf{neg:Bool}{op:CmpOp}(hn:(op=.In/\neg=false)∨(op=.NotIn/\neg=true))(g:bA X.prog X.w X.K X.mg X.base aj k x (.dic kvs))(hg:Gl X x)(hd:(x==("__debug__" : Str))=false)(ha:QW aj X W a fa):QE aj X W (.Compare a [op] [.Name x p] pos) (Vh neg kvs fa)/\tH aj X W (.Compare a [op] [.Name x p] pos) (bh (Vh neg kvs fa)):=by obtain⟨d,hm,D⟩:=g;have hb:PE X (.Name x p) (tC (.ref d)):=pe_glob hg hm rfl hd;refine⟨PE.weak (pe_cmpR (opG hn D) ha hb (by cases op<;>rfl)) λσ H Q h=>adL D σ H Q h,PT.weak (pt_cmpR (opG hn D) ha hb (by cases op<;>rfl)) λσ H Q ⟨g,Z,M,I,h⟩=>?_⟩;refine adL D σ H _ ⟨g,Z,M,I,h.bnd.mono (λd h1 v H' e' r'=>?_) λ_ z=>z⟩;obtain⟨k,h2,h3⟩:=Fe r'.weak h1;exact⟨k,h2,h3 H' e'⟩
theorem akt(g:bA X.prog X.w X.K X.mg X.base aj k x (.dic kvs))(hg:Gl X x)(hd:(x==("__debug__" : Str))=false)(ha:QW aj X W a fa)(hp:PlainIx a):QE aj X W (.Subscript (.Name x p) a pos) (acd kvs fa):=by
 obtain⟨d,hm,es,n,D,_,hl⟩:=g;have hb:PE X (.Name x p) (tC (.ref d)):=pe_glob hg hm rfl hd;refine PE.weak (pe_ix ix_kdict hb ha hp) λσ H Q ⟨g,Z,M,I,h⟩=>?_;refine tW.go I h.bnd λe v H1 h1 e1 r1=>?_;split at h1
 ·next z=>
  cases jW r1;have hz:=hl z;split at h1
  ·next y hk=>
   rw[hk]at hz;obtain⟨v,u,h2,h3,h4⟩:=hz;exact⟨d,z,v,rfl,rfl,⟨es,n,u,D.at_,D.lit,h2,h3⟩,h1 v H1 e1 (h4 g H1)⟩
  ·exact atd h1
 ·exact atd h1
end
structure Hs where
 Ms:List (Str×List (Str×MV))
 ft:Ft
 xm:List (Str×List (Str×Bool))
 df:List (Str×Bool)
 xf:List (Str×List Str)
structure Um(P:Program)(w:World)(K:arG)(mg:Str->Option Value)(base:Heap)(aj:aR)(k:Nat)(h:Hs):Prop where
 ms:∀m tb,h.Ms.lookup m=some tb->∀c v,tb.lookup c=some v->bZ P w K mg base aj k c m v
 fk:LQ h.ft aj
 co:jM K aj
 hw:aj.w=w
 xm:∀y tab,h.xm.lookup y=some tab->(∃D,aj y=some D)/\ach K aj y λx=>tab.lookup x
 xf:∀y fs,h.xf.lookup y=some fs->∃C,aj y=some C/\XfC K C/\∀f∈fs,PySem.W.findIn K (.ref C) f=some none
structure Tc where
 N:List Str
 sc:Scope
 G:List (Str×GV)
 B:List Str
 hs:Hs
 ml:List Str
 top:Bool
structure Amb(aj:aR)(c:Tc)(X:Cx)(W:WX)(k:Nat):Prop where
 hN:X.N=c.N
 hs:X.env.scope=c.sc
 calm:X.calm=true
 nd:X.N.Nodup
 tk:Takes X W
 rm:Room k X.A
 gl:∀x v,c.G.lookup x=some v->bA X.prog X.w X.K X.mg X.base aj k x v
 bl:∀x,x∈c.B->X.mg x=none
 fn:c.top=true->∀x,X.fn x=true
 hk:Um X.prog X.w X.K X.mg X.base aj k c.hs
def gd{α:Type}(b:Bool)(o:Option α):Option α:=match b with
 |true=>o
 |false=>none
theorem aX{α:Type}{b:Bool}{o:Option α}{x:α}:gd b o=some x↔b=true/\o=some x:=by
 cases b
 ·exact⟨λh=>(nomatch h),λh=>(nomatch h.1)⟩
 ·exact⟨λh=>⟨rfl,h⟩,λh=>h.2⟩
def idx:List Str->Str->Option Nat
 |[],_=>none
 |y::ys,x=>match y==x with
  |true=>some 0
  |false=>(idx ys x).map (· + 1)
theorem Ur:∀{N:List Str} {x:Str} {i:Nat},idx N x=some i->N[i]?=some x
 |[],_,_,h=>nomatch h
 |y::ys,x,i,h=>by
  rw[idx]at h;split at h
  ·next e=>
   cases h;rw[List.getElem?_cons_zero,eq_of_beq e]
  ·rw[aso]at h;obtain⟨j,h1,rfl⟩:=h;rw[List.getElem?_cons_succ];exact Ur h1
def af6(sc:Scope)(x:Str):Bool:=match sc.names.lookup x with
 |some .local=>true
 |some .cell=>true
 |some .free=>true
 |_=>false
theorem ah2{sc:Scope}{x:Str}(h:af6 sc x=true):Vis sc x:=by
 unfold af6 at h;unfold Vis;split at h
 ·next e=>exact .inl e
 ·next e=>exact .inr (.inl e)
 ·next e=>exact .inr (.inr e)
 ·cases h
def GZ(x:Str):Bool:=(x==("__debug__" : Str)) || (x==("__classdict__" : Str))
theorem uI{x:Str}(h:GZ x=false):(x==("__debug__" : Str))=false/\(x==("__classdict__" : Str))=false:=by unfold GZ at h;rw[Bool.or_eq_false_iff]at h;exact h
def HW(sc:Scope)(x:Str):Bool:=match sc.names.lookup x with
 |some .globalImplicit=>true
 |_=>false
def Gx(c:Tc)(x:Str):Option Nat:=gd (af6 c.sc x&&!GZ x) (idx c.N x)
def ajj(c:Tc)(x:Str):Bool:=match c.sc.names.lookup x with
 |some .local=>true
 |some .cell=>c.top
 |_=>false
def vR(c:Tc)(x:Str):Option Nat:=gd (ajj c x) (idx c.N x)
section
variable{aj:aR}{c:Tc}{X:Cx}{W:WX}{k:Nat}{x:Str}{i:Nat}
theorem uE(a:Amb aj c X W k)(h:HW c.sc x=true):Gl X x:=by
 unfold HW at h;unfold Gl PySem.Env.kindOf;rw[a.hs];split at h
 ·assumption
 ·cases h
theorem xg(a:Amb aj c X W k)(h:Gx c x=some i):X.N[i]?=some x/\Vis X.env.scope x/\(x==("__debug__" : Str))=false/\(x==("__classdict__" : Str))=false:=by obtain⟨h1,h2⟩:=aX.mp h;rw[arH]at h1;obtain⟨d1,d2⟩:=uI (by simpa using h1.2);exact⟨by rw[a.hN];exact Ur h2,by rw[a.hs];exact ah2 h1.1,d1,d2⟩
theorem nO(a:Amb aj c X W k)(h:vR c x=some i):X.N[i]?=some x/\L2.Loc X.env.scope x/\(X.fn x=true∨X.env.scope.names.lookup x=some .local):=by
 obtain⟨h1,h2⟩:=aX.mp h;unfold ajj at h1;refine⟨by rw[a.hN];exact Ur h2,?_⟩;rw[a.hs];unfold L2.Loc;split at h1
 ·next e=>exact⟨.inl e,.inr e⟩
 ·next e=>exact⟨.inr e,.inl (a.fn h1 x)⟩
 ·cases h1
def sS(c:Tc)(x y:Str):Bool:=(x==y)&&(HW c.sc x&&c.B.contains x)
theorem lH{y:Str}(a:Amb aj c X W k)(h:sS c x y=true):x=y/\Gl X x/\X.mg x=none:=by unfold sS at h;rw[arH,arH]at h;exact⟨eq_of_beq h.1,uE a h.2.1,a.bl x (by simpa using h.2.2)⟩
end
def yL:Expr->Bool
 |.Set _ _ _=>true
 |_=>false
theorem Ec{b:Expr}{op:CmpOp}(h:yL b=false):behindInMarks op b=false:=by cases b<;>first | rfl | cases h
theorem WK{b c:Expr}{op op':CmpOp}(h:yL c=false):lastMarks [op,op'] [b,c]=false:=Ec h
theorem qw{e:Expr}{env:PySem.Env}(h:yL e=false):∀x,foldedSetIterable e env x=pure x:=λx=>by
 cases e<;>first | rfl | cases h
def QK:Expr->Bool
 |.Slice _ _ _ _=>true
 |_=>false
def alz:Operator->Option (Dat->Dat->Out Dat)
 |.Add=>some gR
 |.Sub=>some lU
 |.Mult=>some Bx
 |.FloorDiv=>some JV
 |.Mod=>some mJ
 |.Pow=>some Yr
 |_=>none
def Pn:CmpOp->Option (Dat->Dat->Out Dat)
 |.Eq=>some cJ
 |.NotEq=>some yU
 |.Lt=>some M8
 |.LtE=>some qp
 |.Gt=>some Tp
 |.GtE=>some geD
 |.In=>some (inD false)
 |.NotIn=>some (inD true)
 |_=>none
theorem aia{op:Operator}{o:Dat->Dat->Out Dat}(h:alz op=some o)(X:Cx)(aj:aR)(W:WX):∃r,OpR X (binaryOp op) r/\qI aj X.K W o r:=by
 cases op<;>cases h
 ·exact⟨_,ais,aja⟩
 ·exact⟨_,op_sub,ajJ⟩
 ·exact⟨_,op_mul,akS⟩
 ·exact⟨_,op_mod,ai8⟩
 ·exact⟨_,op_pow,akr⟩
 ·exact⟨_,op_fdiv,aln⟩
theorem Cz{op:CmpOp}{o:Dat->Dat->Out Dat}(h:Pn op=some o){X:Cx}{k:Nat}(hr:Room k X.A)(aj:aR)(W:WX):∃r,OpR X (compareOp op) r/\qI aj X.K W o r:=by
 have h65:X.A.units+65 < cLine:=by have:=hr.un;omega
 cases op<;>cases h
 ·exact⟨_,ajr hr.units,amX⟩
 ·exact⟨_,ala hr.units,al5⟩
 ·exact⟨_,ajZ h65,amt⟩
 ·exact⟨_,op_le,amN⟩
 ·exact⟨_,op_gt,amA⟩
 ·exact⟨_,op_ge,al8⟩
 ·exact⟨_,ak1 h65,ahd⟩
 ·exact⟨_,aeZ h65,ahd⟩
def Vd:Expr->Option Dat
 |.Constant .none _ _=>some .none
 |.Constant (.bool b) _ _=>some (.bool b)
 |_=>none
theorem ab0{e:Expr}{d:Dat}{X:Cx}(h:Vd e=some d):∃v,scD d=some v/\(v=.non∨∃b,v=.bl b)/\PE X e (tC v):=by
 unfold Vd at h;split at h
 ·cases h;exact⟨_,rfl,.inl rfl,pe_non⟩
 ·cases h;exact⟨_,rfl,.inr ⟨_,rfl⟩,pe_bl⟩
 ·cases h
def isN:CmpOp->Option Bool
 |.Is=>some false
 |.IsNot=>some true
 |_=>none
theorem aeX{op:CmpOp}{neg:Bool}{v:V}{X:Cx}(h:isN op=some neg)(hv:v=.non∨∃b,v=.bl b):OpR X (compareOp op) (aar neg v):=by
 cases op<;>cases h
 ·exact ai7 hv
 ·exact aej hv
def b1D(x:Str):Option (Dat->Out Dat):=
 if x=="len" then some pJ else if x=="abs" then some Ui else if x=="sum" then some Vw else if x=="max" then some maxD else if x=="all" then some Jr else if x=="any" then some Qc
 else if x=="tuple" then some kE else if x=="list" then some N6 else if x=="int" then some intD else
 none
def b2D(x:Str):Option (Dat->Dat->Out Dat):=if x=="max" then some tD else if x=="min" then some Jd else none
theorem ajN{x:Str}{o:Dat->Out Dat}{X:Cx}(hc:X.calm=true)(h:b1D x=some o)(aj:aR)(W:WX):∃(f:Value) (id:String) (r:List V->Hp->VK->Prop),(f=.builtin id∨f=.type id)/\CallR X f r/\Kl aj X.K W o r/\BV f x:=by
 unfold b1D at h;split at h
 ·next e=>cases h;cases eq_of_beq e;exact⟨_,_,_,.inl rfl,akg,aje,by decide +kernel,by decide,by decide⟩
 split at h
 ·next e=>cases h;cases eq_of_beq e;exact⟨_,_,_,.inl rfl,call_abs,alR,by decide +kernel,by decide,by decide⟩
 split at h
 ·next e=>cases h;cases eq_of_beq e;exact⟨_,_,_,.inl rfl,cr_sum hc,akI,by decide +kernel,by decide,by decide⟩
 split at h
 ·next e=>cases h;cases eq_of_beq e;exact⟨_,_,_,.inl rfl,cr_max hc,ajd,by decide +kernel,by decide,by decide⟩
 split at h
 ·next e=>cases h;cases eq_of_beq e;exact⟨_,_,_,.inl rfl,cr_all hc,ajB,by decide +kernel,by decide,by decide⟩
 split at h
 ·next e=>cases h;cases eq_of_beq e;exact⟨_,_,_,.inl rfl,cr_any hc,akV,by decide +kernel,by decide,by decide⟩
 split at h
 ·next e=>cases h;cases eq_of_beq e;exact⟨_,_,_,.inr rfl,call_tuple_of,agG,by decide +kernel,by decide,by decide⟩
 split at h
 ·next e=>cases h;cases eq_of_beq e;exact⟨_,_,_,.inr rfl,call_list_of,aip,by decide +kernel,by decide,by decide⟩
 split at h
 ·next e=>cases h;cases eq_of_beq e;exact⟨_,_,_,.inr rfl,ak8,aj8,by decide +kernel,by decide,by decide⟩
 ·cases h
theorem akx{x:Str}{o:Dat->Dat->Out Dat}{X:Cx}(hc:X.calm=true)(h:b2D x=some o)(aj:aR)(W:WX):∃(f:Value) (id:String) (r:List V->Hp->VK->Prop),(f=.builtin id∨f=.type id)/\CallR X f r/\Fn2 aj X.K W o r/\BV f x:=by
 unfold b2D at h;split at h
 ·next e=>cases h;cases eq_of_beq e;exact⟨_,_,_,.inl rfl,call_max2 hc,ahx,by decide +kernel,by decide,by decide⟩
 split at h
 ·next e=>cases h;cases eq_of_beq e;exact⟨_,_,_,.inl rfl,call_min2 hc,aix,by decide +kernel,by decide,by decide⟩
 ·cases h
def tyN(x:Str):Option O6:=if x=="int" then some .int else if x=="bool" then some .bool else if x=="str" then some .str else if x=="tuple" then some .tuple else if x=="list" then some .list else none
theorem alG{x:Str}{t:O6}(h:tyN x=some t):BV (.type t.name) x:=by
 unfold tyN at h;split at h
 ·next e=>cases h;cases eq_of_beq e;exact⟨by decide +kernel,by decide,by decide⟩
 split at h
 ·next e=>cases h;cases eq_of_beq e;exact⟨by decide +kernel,by decide,by decide⟩
 split at h
 ·next e=>cases h;cases eq_of_beq e;exact⟨by decide +kernel,by decide,by decide⟩
 split at h
 ·next e=>cases h;cases eq_of_beq e;exact⟨by decide +kernel,by decide,by decide⟩
 split at h
 ·next e=>cases h;cases eq_of_beq e;exact⟨by decide +kernel,by decide,by decide⟩
 ·cases h
structure Tr where
 E:Tc->Expr->Option QF
 W:Tc->Expr->Option QF
 T:Tc->Expr->Option QT
 I:Tc->Bool->Expr->Expr->Option IF
structure Tr.Ok(t:Tr):Prop where
 oe:∀{aj:aR} {c:Tc} {X:Cx} {W:WX} {k:Nat},Amb aj c X W k->∀{e:Expr} {f:QF},t.E c e=some f->QE aj X W e f
 ow:∀{aj:aR} {c:Tc} {X:Cx} {W:WX} {k:Nat},Amb aj c X W k->∀{e:Expr} {f:QF},t.W c e=some f->QW aj X W e f
 ot:∀{aj:aR} {c:Tc} {X:Cx} {W:WX} {k:Nat},Amb aj c X W k->∀{e:Expr} {f:QT},t.T c e=some f->tH aj X W e f
 oi:∀{aj:aR} {c:Tc} {X:Cx} {W:WX} {k:Nat},Amb aj c X W k->∀{firm:Bool} {tg e:Expr} {f:IF},t.I c firm tg e=some f->QI aj X W firm tg e f
def Kf(t:Tr)(c:Tc):List Expr->Option QA
 |[]=>some au
 |a::es=>gd (nst a) ((t.E c a).bind λfa=>(Kf t c es).bind λfr=>some (ak fa fr))
section
variable{aj:aR}{c:Tc}{X:Cx}{W:WX}{k:Nat}{t:Tr}
theorem vK(o:t.Ok)(a:Amb aj c X W k):∀{es:List Expr} {f:QA},Kf t c es=some f->GJ aj X W es f/\es.all nst=true/\∀M Z ds,f M Z=.ok ds->ds.length=es.length
 |[],f,h=>by
  cases h;exact⟨aky,rfl,λM Z ds e=>by cases e;rfl⟩
 |e::es,f,h=>by
  rw[Kf,aX]at h;obtain⟨hs,h⟩:=h;obtain⟨fa,h1,h⟩:=arF.mp h;obtain⟨fr,h2,h⟩:=arF.mp h;cases h;obtain⟨i1,i2,i3⟩:=vK o a h2;refine⟨aiE (o.oe a h1) i1 (cH hs es),by simp[hs,i2],λM Z ds e=>?_⟩;unfold ak at e;cases hf:fa M Z with
  |ok d=>
   rw[hf]at e;cases hr:fr M Z with
   |ok dr=>
    rw[hr]at e;cases e;simp[i3 M Z dr hr]
   |exc y=>rw[hr]at e;cases e
   |bad=>rw[hr]at e;cases e
  |exc y=>rw[hf]at e;cases e
  |bad=>rw[hf]at e;cases e
end
def trO(t:Tr)(c:Tc):Option Expr->Option QO
 |none=>some DK
 |some a=>(t.W c a).bind λfa=>some (uK fa)
theorem adS{aj:aR}{c:Tc}{X:Cx}{W:WX}{k:Nat}{t:Tr}(o:t.Ok)(a:Amb aj c X W k){e:Option Expr}{f:QO}(h:trO t c e=some f):QOe aj X W e f:=by
 cases e with
 |none=>cases h;exact ahJ
 |some e=>
  obtain⟨fa,h1,h⟩:=arF.mp h;cases h;exact aik (o.ow a h1)
def Zj(c:Tc):List Expr->Option (List Nat)
 |[]=>some []
 |.Name x _::es=>(vR c x).bind λi=>(Zj c es).bind λjs=>some (i::js)
 |_::_=>none
def Rq(c:Tc):Expr->Option (List Nat×fH)
 |.Name x _=>(vR c x).bind λi=>some ([i],aG i)
 |.Tuple es _ _=>(Zj c es).bind λjs=>some (js,bx js)
 |_=>none
theorem VR{aj:aR}{c:Tc}{X:Cx}{W:WX}{k:Nat}(a:Amb aj c X W k):∀{es:List Expr} {js:List Nat},Zj c es=some js->Rk X es js
 |[],js,h=>by cases h;trivial
 |.Name x p::es,js,h=>by
  rw[Zj]at h;obtain⟨i,h1,h⟩:=arF.mp h;obtain⟨r,h2,h⟩:=arF.mp h;cases h;obtain⟨s1,s2,s3⟩:=nO a h1;exact⟨s1,s2,s3,VR a h2⟩
theorem uH{aj:aR}{c:Tc}{X:Cx}{W:WX}{k:Nat}(a:Amb aj c X W k){e:Expr}{js:List Nat}{f:fH}(h:Rq c e=some (js,f)):QG aj X e js f:=by
 unfold Rq at h;split at h
 ·obtain⟨i,h1,h⟩:=arF.mp h;cases h;obtain⟨s1,s2,s3⟩:=nO a h1;exact UG a.nd s1 s2 s3
 ·obtain⟨js',h1,h⟩:=arF.mp h;cases h;exact aez a.calm a.nd (VR a h1)
 ·cases h
def Tc.inn(c:Tc)(scope:Scope):Tc:={ c with sc:=relS scope c.sc,top:=false }
theorem Amb.inn{aj:aR}{c:Tc}{X:Cx}{W:WX}{k:Nat}(a:Amb aj c X W k)(scope:Scope)(s:Shared)(H:Hp)(C:Addr)(cl:List (Str×Addr))(fp:List Addr):Amb aj (c.inn scope) (X.blk s H scope (compEnvC scope cl C X.env) fp) WF k where
 hN:=a.hN
 hs:=by show relS scope X.env.scope=relS scope c.sc;rw[a.hs]
 calm:=a.calm
 nd:=a.nd
 tk:=alV
 rm:=a.rm
 gl:=a.gl
 bl:=a.bl
 fn:=λz=>nomatch z
 hk:=a.hk
def QD:List Expr->List Nat->List (Str×Nat)
 |.Name x _::es,j::js=>(x,j)::QD es js
 |_,_=>[]
def nJ:Expr->List Nat->List (Str×Nat)
 |.Name x _,[j]=>[(x,j)]
 |.Tuple es _ _,js=>QD es js
 |_,_=>[]
def Ln(js vs:List Nat):Bool:=js.all λj=>vs.contains j
theorem oJ{js vs:List Nat}(h:Ln js vs=true):∀j∈js,j∈vs:=λj hj=>by
 have:=ar7.mp h j hj;simpa using this
def Py(t:Tr)(c:Tc):List Expr->Option QT
 |[]=>some iI
 |[a]=>t.T c a
 |_=>none
theorem PTs.weak{X:Cx}{e:List Expr}{t t':TT}(h:PTs X e t)(k:∀σ H Q,t' σ H Q->t σ H Q):PTs X e t':=⟨λpins s σ H Q I q=>h.run pins s σ H Q I (k σ H Q q)⟩
theorem vh{aj:aR}{c:Tc}{X:Cx}{W:WX}{k:Nat}{t:Tr}(o:t.Ok)(a:Amb aj c X W k){ifs:List Expr}{f:QT}(h:Py t c ifs=some f):PTs X ifs (jK X.K aj W f):=by
 unfold Py at h;split at h
 ·cases h;exact PTs.weak pts_nil λσ H Q ⟨g,Z,M,I,z⟩=>z H (Ex.refl H)
 ·exact pts_one (o.ot a h)
 ·cases h
def Ze(t:Tr)(c:Tc)(elt tg iter:Expr)(ifs:List Expr)(scope:Scope):Option QF:=
 (t.I c false tg iter).bind λit=>(Rq (c.inn scope) tg).bind λjt=>(Py t (c.inn scope) ifs).bind λtt=>(t.E (c.inn scope) elt).bind λte=>
  gd (blkC c.N c.sc scope (nJ tg jt.1)&&(Ln jt.1 ((nJ tg jt.1).map (·.2))&&!yL iter)) (some (eU it jt.2 ((nJ tg jt.1).map (·.2)) tt te))
theorem ab1{aj:aR}{c:Tc}{X:Cx}{W:WX}{k:Nat}{t:Tr}(o:t.Ok)(a:Amb aj c X W k){elt tg iter:Expr}{ifs:List Expr}{scope:Scope}{pos:Pos}{f:QF}(h:Ze t c elt tg iter ifs scope=some f):QE aj X W (.ListComp elt [⟨tg,iter,ifs,0⟩] scope pos) f:=by unfold Ze at h;obtain⟨it,h1,h⟩:=arF.mp h;obtain⟨⟨js,tf⟩,h2,h⟩:=arF.mp h;obtain⟨tt,h3,h⟩:=arF.mp h;obtain⟨te,h4,h⟩:=arF.mp h;obtain⟨hb,h⟩:=aX.mp h;cases h;simp only[arH,arX]at hb;obtain⟨b1,b2,b3⟩:=hb;exact al9 a.calm a.nd (o.oi a h1) (by rw[a.hN,a.hs];exact b1) (oJ b2) (λs H C cl fp=>uH (a.inn scope s H C cl fp) h2) (λs H C cl fp=>vh o (a.inn scope s H C cl fp) h3) (λs H C cl fp=>o.oe (a.inn scope s H C cl fp) h4) (qw b3)
def YG(t:Tr)(c:Tc)(x:Str)(e:Expr)(es:List Expr):Option QF:=match c.G.lookup x with
 |some (.fq n m)=>(Kf t c (e::es)).bind λas=>gd (HW c.sc x&&(!GZ x&&decide ((e::es).length=n))) (some (aU m as))
 |some _=>none
 |none=>match es with
  |[]=>(b1D x).bind λo=>(t.W c e).bind λfa=>gd (sS c x x&&nst e) (some (eZ o fa))
  |[.Name y p]=>match x=="isinstance" with
   |true=>(tyN y).bind λty=>(t.W c e).bind λfa=>gd (sS c x x&&(sS c y y&&nst e)) (some (wB ty fa))
   |false=>(b2D x).bind λo=>(t.W c e).bind λfa=>(t.W c (.Name y p)).bind λfb=>gd (sS c x x&&nst e) (some (aA o fa fb))
  |[e2]=>(b2D x).bind λo=>(t.W c e).bind λfa=>(t.W c e2).bind λfb=>gd (sS c x x&&(nst e&&nst e2)) (some (aA o fa fb))
  |_=>none
theorem aeV{aj:aR}{c:Tc}{X:Cx}{W:WX}{k:Nat}{x:Str}{o:Dat->Dat->Out Dat}{a b:Expr}{fa fb:QF}{p pos:Pos}(am:Amb aj c X W k)(h:b2D x=some o)(hg:sS c x x=true)(ha:QW aj X W a fa)(hb:QW aj X W b fb)(hs:nst a=true)(hs2:nst b=true):QE aj X W (.Call (.Name x p) [a,b] [] pos) (aA o fa fb):=by obtain⟨f,id,r,hf,hc,ho,hv⟩:=akx am.calm h aj W;obtain⟨_,hg,hm⟩:=lH am hg;exact ama hf hc ho hg hm hv ha hb hs hs2
theorem aey{aj:aR}{c:Tc}{X:Cx}{W:WX}{k:Nat}{t:Tr}(o:t.Ok)(a:Amb aj c X W k){x:Str}{e:Expr}{es:List Expr}{p pos:Pos}{f:QF}(h:YG t c x e es=some f):QE aj X W (.Call (.Name x p) (e::es) [] pos) f:=by
 unfold YG at h;split at h
 ·next n m hl=>
  obtain⟨as,h1,h⟩:=arF.mp h;obtain⟨hb,h⟩:=aX.mp h;cases h;simp only[arH,arX,ate]at hb;obtain⟨b1,b2,b3⟩:=hb;obtain⟨fa,hm,hk,fd,ps,j,hj,hp,hB,F⟩:=a.gl x _ hl;obtain⟨i1,i2,i3⟩:=vK o a h1;exact ahN a.tk F (a.rm.mono hj) (uE a b1) hm hk hB i1 (b3.trans hp.symm) (uI b2).1 i2 i3
 ·cases h
 ·split at h
  ·obtain⟨o1,h1,h⟩:=arF.mp h;obtain⟨fa,h2,h⟩:=arF.mp h;obtain⟨hb,h⟩:=aX.mp h;cases h;rw[arH]at hb;obtain⟨f,id,r,hf,hc,ho,hv⟩:=ajN a.calm h1 aj W;obtain⟨_,hg,hm⟩:=lH a hb.1;exact ag8 hf hc ho hg hm hv (o.ow a h2) hb.2
  ·split at h
   ·next ex=>
    obtain⟨ty,h1,h⟩:=arF.mp h;obtain⟨fa,h2,h⟩:=arF.mp h;obtain⟨hb,h⟩:=aX.mp h;cases h;simp only[arH]at hb;obtain⟨b1,b2,b3⟩:=hb;obtain⟨_,hg,hm⟩:=lH a b1;obtain⟨_,hg2,hm2⟩:=lH a b2;cases eq_of_beq ex;exact alg hg hm ⟨by decide +kernel,by decide,by decide⟩ hg2 hm2 (alG h1) (o.ow a h2) b3
   ·obtain⟨o1,h1,h⟩:=arF.mp h;obtain⟨fa,h2,h⟩:=arF.mp h;obtain⟨fb,h3,h⟩:=arF.mp h;obtain⟨hb,h⟩:=aX.mp h;cases h;rw[arH]at hb;exact aeV a h1 hb.1 (o.ow a h2) (o.ow a h3) hb.2 rfl
  ·obtain⟨o1,h1,h⟩:=arF.mp h;obtain⟨fa,h2,h⟩:=arF.mp h;obtain⟨fb,h3,h⟩:=arF.mp h;obtain⟨hb,h⟩:=aX.mp h;cases h;simp only[arH]at hb;exact aeV a h1 hb.1 (o.ow a h2) (o.ow a h3) hb.2.1 hb.2.2
  ·cases h
def stE(t:Tr)(c:Tc):Expr->Option QF
 |.Name x _=>(match Gx c x with
  |some i=>some (aq i)
  |none=>match c.G.lookup x with
   |some (.con d)=>gd (HW c.sc x&&!GZ x) (some (qC d))
   |_=>none)
 |.Constant (.int i) _ _=>some (qC (.int i))
 |.Constant (.str x) _ _=>some (qC (.str x))
 |.Constant (.bool x) _ _=>some (qC (.bool x))
 |.Constant .none _ _=>some (qC .none)
 |.BinOp a op b _=>(alz op).bind λo=>(t.W c a).bind λfa=>(t.W c b).bind λfb=>some (aA o fa fb)
 |.UnaryOp .USub a _=>(t.W c a).bind λfa=>some (eZ Vt fa)
 |.UnaryOp .Not a _=>(t.W c a).bind λfa=>some (Q9 fa)
 |.BoolOp _ [a] _=>t.E c a
 |.BoolOp .And (a::b::r) p=>(t.E c a).bind λfa=>(t.E c (.BoolOp .And (b::r) p)).bind λfb=>some (yc fa fb)
 |.BoolOp .Or (a::b::r) p=>(t.E c a).bind λfa=>(t.E c (.BoolOp .Or (b::r) p)).bind λfb=>some (agD fa fb)
 |.Compare a [op] [b] _=>(match isN op with
  |some neg=>(Vd b).bind λd=>(t.W c a).bind λfa=>some (xO neg d fa)
  |none=>(Pn op).bind λo=>(t.W c a).bind λfa=>(t.W c b).bind λfb=>gd (!yL b) (some (aA o fa fb)))
 |.Compare a [op,op'] [b,b2] _=>(Pn op).bind λo=>(Pn op').bind λo'=>(t.W c a).bind λfa=>(t.W c b).bind λfb=>(t.W c b2).bind λfc=>gd (!yL b2) (some (Wn (pq o o' fa fb fc)))
 |.IfExp d a b _=>(t.T c d).bind λta=>(t.E c a).bind λfa=>(t.E c b).bind λfb=>some (Ua ta fa fb)
 |.Tuple es _ _=>(Kf t c es).bind λfr=>some (bO fr)
 |.List es _=>(Kf t c es).bind λfr=>some (Dh fr)
 |.Subscript a b _=>(match b with
  |.Slice lo hi none _=>(t.W c a).bind λfa=>(trO t c lo).bind λfl=>(trO t c hi).bind λfh=>some (SN fa fl fh)
  |b=>gd (!QK b) ((t.W c a).bind λfa=>(t.W c b).bind λfb=>some (aA aW fa fb)))
 |.ListComp elt [⟨tg,iter,ifs,0⟩] scope _=>Ze t c elt tg iter ifs scope
 |.Call (.Name x _) (e::es) [] _=>YG t c x e es
 |_=>none
def stW(t:Tr)(c:Tc):Expr->Option QF
 |.Name x p=>(match Gx c x with
  |some i=>some (ao i)
  |none=>t.E c (.Name x p))
 |e=>t.E c e
def valT:Expr->Bool
 |.UnaryOp .Not _ _=>false
 |.BoolOp _ _ _=>false
 |.IfExp _ _ _ _=>false
 |.Compare _ _ _ _=>false
 |_=>true
theorem ai5{e:Expr}{env:PySem.Env}(h:valT e=true):∀whole,isTrue e env whole=(do let v ←whole;standAt e.pos;holding [v] (truthy v)):=λwhole=>by
 cases e with
 | UnaryOp o a p=>cases o<;>first | (with_unfolding_all rfl) | cases h
 |BoolOp _ _ _=>cases h
 |IfExp _ _ _ _=>cases h
 |Compare _ _ _ _=>cases h
 |_=>with_unfolding_all rfl
def stT(t:Tr)(c:Tc):Expr->Option QT
 |.UnaryOp .Not a _=>(t.T c a).bind λta=>some (jC ta)
 |.BoolOp _ [a] _=>t.T c a
 |.BoolOp .And (a::b::r) p=>(t.T c a).bind λta=>(t.T c (.BoolOp .And (b::r) p)).bind λtb=>some (jx ta tb)
 |.BoolOp .Or (a::b::r) p=>(t.T c a).bind λta=>(t.T c (.BoolOp .Or (b::r) p)).bind λtb=>some (BL ta tb)
 |.Compare a [op] [b] _=>(match isN op with
  |some neg=>(Vd b).bind λd=>(t.W c a).bind λfa=>some (bh (xO neg d fa))
  |none=>(Pn op).bind λo=>(t.W c a).bind λfa=>(t.W c b).bind λfb=>gd (!yL b) (some (bh (aA o fa fb))))
 |.Compare a [op,op'] [b,b2] _=>(Pn op).bind λo=>(Pn op').bind λo'=>(t.W c a).bind λfa=>(t.W c b).bind λfb=>(t.W c b2).bind λfc=>gd (!yL b2) (some (pq o o' fa fb fc))
 |e=>gd (valT e) ((t.W c e).bind λfa=>some (gY fa))
def trF(t:Tr)(c:Tc)(firm:Bool)(e:Expr):Option QF:=match firm with
 |true=>t.E c e
 |false=>t.W c e
def isTup:Expr->Bool
 |.Tuple _ _ _=>true
 |_=>false
def stI(t:Tr)(c:Tc)(firm:Bool)(tg:Expr):Expr->Option IF
 |.Call (.Name x p) [a] [] pos=>(match sS c x "range" with
  |true=>(t.W c a).bind λfa=>gd (nst a) (some (CJ fa))
  |false=>match sS c x "enumerate" with
   |true=>(trF t c firm a).bind λfa=>gd (nst a&&isTup tg) (some (yw 0 fa))
   |false=>(trF t c firm (.Call (.Name x p) [a] [] pos)).bind λfa=>some (dB fa))
 |.Call (.Name x p) [a,b] [] pos=>(match sS c x "range" with
  |true=>(t.W c a).bind λfa=>(t.W c b).bind λfb=>gd (nst a&&nst b) (some (CW fa fb))
  |false=>match sS c x "zip" with
   |true=>(trF t c firm a).bind λfa=>(trF t c firm b).bind λfb=>gd (nst a&&(nst b&&isTup tg)) (some (DY fa fb))
   |false=>(trF t c firm (.Call (.Name x p) [a,b] [] pos)).bind λfa=>some (dB fa))
 |.Call (.Name x p) [a] [⟨some kw,.Constant (.int i) j kp,kp2⟩] pos=>gd (sS c x "enumerate"&&(kw=="start"&&(decide (-(2 ^ 63)<=i/\i < 2 ^ 63)&&(nst a&&isTup tg)))) ((trF t c firm a).bind λfa=>some (yw i fa))
 |e=>(trF t c firm e).bind λfa=>some (dB fa)
theorem Yy{b:Expr}(h:(!QK b)=true):PlainIx b:=λv i=>by
 cases b<;>first | rfl | cases h
section
variable{aj:aR}{c:Tc}{X:Cx}{W:WX}{k:Nat}{t:Tr}
theorem akm(o:t.Ok)(a:Amb aj c X W k){e:Expr}{f:QF}(h:stE t c e=some f):QE aj X W e f:=by
 unfold stE at h;split at h
 ·split at h
  ·next i hi=>
   cases h;obtain⟨s1,s2,s3,s4⟩:=xg a hi;exact alK s1 s2 s3 s4
  ·split at h
   ·next d hl=>
    obtain⟨hb,h⟩:=aX.mp h;cases h;simp only[arH,arX]at hb;obtain⟨v,u,h1,h2,h3⟩:=a.gl _ _ hl;exact PE.weak (pe_glob (uE a hb.1) h1 h2 (uI hb.2).1) λσ H Q ⟨g,Z,M,I,z⟩=>z v H (Ex.refl H) (h3 g H)
   ·cases h
 ·cases h;exact akR
 ·cases h;exact aj3
 ·cases h;exact al4
 ·cases h;exact ajq
 ·obtain⟨op,h1,h⟩:=arF.mp h;obtain⟨fa,h2,h⟩:=arF.mp h;obtain⟨fb,h3,h⟩:=arF.mp h;cases h;obtain⟨r,r1,r2⟩:=aia h1 X aj W;exact akG r1 r2 (o.ow a h2) (o.ow a h3)
 ·obtain⟨fa,h2,h⟩:=arF.mp h;cases h;exact ak6 (o.ow a h2)
 ·obtain⟨fa,h2,h⟩:=arF.mp h;cases h;exact aiJ (o.ow a h2)
 ·exact pe_one (o.oe a h)
 ·obtain⟨fa,h2,h⟩:=arF.mp h;obtain⟨fb,h3,h⟩:=arF.mp h;cases h;exact ail (o.oe a h2) (o.oe a h3)
 ·obtain⟨fa,h2,h⟩:=arF.mp h;obtain⟨fb,h3,h⟩:=arF.mp h;cases h;exact alq (o.oe a h2) (o.oe a h3)
 ·split at h
  ·next neg hn=>
   obtain⟨d,h1,h⟩:=arF.mp h;obtain⟨fa,h2,h⟩:=arF.mp h;cases h;obtain⟨v,v1,v2,v3⟩:=ab0 (X:=X) h1;refine amd v1 (aeX hn v2) (o.ow a h2) v3 (Ec ?_);unfold Vd at h1;split at h1<;>first | rfl | cases h1
  ·obtain⟨op,h1,h⟩:=arF.mp h;obtain⟨fa,h2,h⟩:=arF.mp h;obtain⟨fb,h3,h⟩:=arF.mp h;obtain⟨hb,h⟩:=aX.mp h;cases h;obtain⟨r,r1,r2⟩:=Cz h1 a.rm aj W;exact ah3 r1 r2 (o.ow a h2) (o.ow a h3) (Ec (by simpa using hb))
 ·obtain⟨op,h1,h⟩:=arF.mp h;obtain⟨op',h1',h⟩:=arF.mp h;obtain⟨fa,h2,h⟩:=arF.mp h;obtain⟨fb,h3,h⟩:=arF.mp h;obtain⟨fc,h4,h⟩:=arF.mp h;obtain⟨hb,h⟩:=aX.mp h;cases h;obtain⟨r,r1,r2⟩:=Cz h1 a.rm aj W;obtain⟨r',r1',r2'⟩:=Cz h1' a.rm aj W;exact afP r1 r1' r2 r2' (o.ow a h2) (o.ow a h3) (o.ow a h4) (WK (by simpa using hb))
 ·obtain⟨ta,h1,h⟩:=arF.mp h;obtain⟨fa,h2,h⟩:=arF.mp h;obtain⟨fb,h3,h⟩:=arF.mp h;cases h;exact afQ (o.ot a h1) (o.oe a h2) (o.oe a h3)
 ·obtain⟨fr,h1,h⟩:=arF.mp h;cases h;exact alJ (vK o a h1).1
 ·obtain⟨fr,h1,h⟩:=arF.mp h;cases h;exact aj9 (vK o a h1).1
 ·split at h
  ·obtain⟨fa,h1,h⟩:=arF.mp h;obtain⟨fl,h2,h⟩:=arF.mp h;obtain⟨fh,h3,h⟩:=arF.mp h;cases h;exact amm (o.ow a h1) (adS o a h2) (adS o a h3)
  ·obtain⟨hb,h⟩:=aX.mp h;obtain⟨fa,h1,h⟩:=arF.mp h;obtain⟨fb,h2,h⟩:=arF.mp h;cases h;exact ams (o.ow a h1) (o.ow a h2) (Yy hb)
 ·exact ab1 o a h
 ·exact aey o a h
 ·cases h
theorem ajT(o:t.Ok)(a:Amb aj c X W k){e:Expr}{f:QF}(h:stW t c e=some f):QW aj X W e f:=by
 unfold stW at h;split at h
 ·split at h
  ·next i hi=>
   cases h;obtain⟨s1,s2,s3,s4⟩:=xg a hi;exact akW s1 s2 s3 s4
  ·exact(o.oe a h).w
 ·exact(o.oe a h).w
theorem ajF{a b:Expr}{rest:List Expr}{ta tb:QT}{pos:Pos}(ha:tH aj X W a ta)(hb:tH aj X W (.BoolOp .And (b::rest) pos) tb):tH aj X W (.BoolOp .And (a::b::rest) pos) (jx ta tb):=by have hb':QWt aj X W (.BoolOp .And (b::rest) pos) tb:=⟨λwh pins s σ H Q I q=>hb.run pins s σ H Q I q⟩;exact PW.pt (ajt ha hb')
theorem amU{a b:Expr}{rest:List Expr}{ta tb:QT}{pos:Pos}(ha:tH aj X W a ta)(hb:tH aj X W (.BoolOp .Or (b::rest) pos) tb):tH aj X W (.BoolOp .Or (a::b::rest) pos) (BL ta tb):=by have hb':QWt aj X W (.BoolOp .Or (b::rest) pos) tb:=⟨λwh pins s σ H Q I q=>hb.run pins s σ H Q I q⟩;exact PW.pt (amr ha hb')
theorem ake(o:t.Ok)(a:Amb aj c X W k){e:Expr}{f:QT}(h:stT t c e=some f):tH aj X W e f:=by
 unfold stT at h;split at h
 ·obtain⟨ta,h1,h⟩:=arF.mp h;cases h;exact akJ (o.ot a h1)
 ·next op _ _=>
  cases op
  ·exact PW.pt (pw_and1 (o.ot a h))
  ·exact PW.pt (pw_or1 (o.ot a h))
 ·obtain⟨ta,h1,h⟩:=arF.mp h;obtain⟨tb,h2,h⟩:=arF.mp h;cases h;exact ajF (o.ot a h1) (o.ot a h2)
 ·obtain⟨ta,h1,h⟩:=arF.mp h;obtain⟨tb,h2,h⟩:=arF.mp h;cases h;exact amU (o.ot a h1) (o.ot a h2)
 ·split at h
  ·next neg hn=>
   obtain⟨d,h1,h⟩:=arF.mp h;obtain⟨fa,h2,h⟩:=arF.mp h;cases h;obtain⟨v,v1,v2,v3⟩:=ab0 (X:=X) h1;refine amg v1 (aeX hn v2) (o.ow a h2) v3 (Ec ?_);unfold Vd at h1;split at h1<;>first | rfl | cases h1
  ·obtain⟨op,h1,h⟩:=arF.mp h;obtain⟨fa,h2,h⟩:=arF.mp h;obtain⟨fb,h3,h⟩:=arF.mp h;obtain⟨hb,h⟩:=aX.mp h;cases h;obtain⟨r,r1,r2⟩:=Cz h1 a.rm aj W;exact akj r1 r2 (o.ow a h2) (o.ow a h3) (Ec (by simpa using hb))
 ·obtain⟨op,h1,h⟩:=arF.mp h;obtain⟨op',h1',h⟩:=arF.mp h;obtain⟨fa,h2,h⟩:=arF.mp h;obtain⟨fb,h3,h⟩:=arF.mp h;obtain⟨fc,h4,h⟩:=arF.mp h;obtain⟨hb,h⟩:=aX.mp h;cases h;obtain⟨r,r1,r2⟩:=Cz h1 a.rm aj W;obtain⟨r',r1',r2'⟩:=Cz h1' a.rm aj W;exact afO r1 r1' r2 r2' (o.ow a h2) (o.ow a h3) (o.ow a h4) (WK (by simpa using hb))
 ·obtain⟨hv,h⟩:=aX.mp h;obtain⟨fa,h1,h⟩:=arF.mp h;cases h;exact ak9 (o.ow a h1) (ai5 hv)
theorem Du(o:t.Ok)(a:Amb aj c X W k){firm:Bool}{e:Expr}{f:QF}(h:trF t c firm e=some f):QF' aj X W firm e f:=by
 cases firm
 ·exact o.ow a h
 ·exact o.oe a h
theorem Qt{e:Expr}(h:isTup e=true):∃es j p,e=.Tuple es j p:=by cases e<;>first | exact⟨_,_,_,rfl⟩ | cases h
theorem ajl(o:t.Ok)(a:Amb aj c X W k){firm:Bool}{tg e:Expr}{f:IF}(h:stI t c firm tg e=some f):QI aj X W firm tg e f:=by
 unfold stI at h;split at h
 ·split at h
  ·next hb=>
   obtain⟨fa,h1,h⟩:=arF.mp h;obtain⟨hs,h⟩:=aX.mp h;cases h;obtain⟨rfl,hg,hm⟩:=lH a hb;exact aeN hg hm (o.ow a h1) hs
  ·split at h
   ·next hb=>
    obtain⟨fa,h1,h⟩:=arF.mp h;obtain⟨hs,h⟩:=aX.mp h;cases h;obtain⟨rfl,hg,hm⟩:=lH a hb;rw[arH]at hs;obtain⟨es,j,p,rfl⟩:=Qt hs.2;exact aiC hg hm (Du o a h1) hs.1
   ·obtain⟨fa,h1,h⟩:=arF.mp h;cases h;exact YB (Du o a h1)
 ·split at h
  ·next hb=>
   obtain⟨fa,h1,h⟩:=arF.mp h;obtain⟨fb,h2,h⟩:=arF.mp h;obtain⟨hs,h⟩:=aX.mp h;cases h;obtain⟨rfl,hg,hm⟩:=lH a hb;rw[arH]at hs;exact aeM hg hm (o.ow a h1) (o.ow a h2) hs.1 hs.2
  ·split at h
   ·next hb=>
    obtain⟨fa,h1,h⟩:=arF.mp h;obtain⟨fb,h2,h⟩:=arF.mp h;obtain⟨hs,h⟩:=aX.mp h;cases h;obtain⟨rfl,hg,hm⟩:=lH a hb;simp only[arH]at hs;obtain⟨es,j,p,rfl⟩:=Qt hs.2.2;exact ak0 hg hm (Du o a h1) (Du o a h2) hs.1 hs.2.1
   ·obtain⟨fa,h1,h⟩:=arF.mp h;cases h;exact YB (Du o a h1)
 ·obtain⟨hs,h⟩:=aX.mp h;obtain⟨fa,h1,h⟩:=arF.mp h;cases h;simp only[arH,ate]at hs;obtain⟨hb,hk,hi,hn,ht⟩:=hs;obtain⟨rfl,hg,hm⟩:=lH a hb;cases eq_of_beq hk;obtain⟨es,j,p,rfl⟩:=Qt ht;exact agh hi.1 hi.2 hg hm (Du o a h1) hn
 ·obtain⟨fa,h1,h⟩:=arF.mp h;cases h;exact YB (Du o a h1)
end
def MV.n:MV->Nat
 |.q n _=>n
 |.g n _=>n
def MV.qt:MV->Bool
 |.q _ _=>true
 |.g _ _=>false
def tbN(tb:List (Str×MV))(n:Nat):Bool:=tb.all λp=>p.2.n==n
def tbQ(tb:List (Str×MV)):Bool:=tb.all λp=>p.2.qt
theorem qK{α:Type}{c:Str}{v:α}:∀{tb:List (Str×α)},tb.lookup c=some v->(c,v)∈tb
 |[],h=>nomatch h
 |(y,u)::r,h=>by
  rw[asj]at h;split at h
  ·next e=>
   cases h;rw[eq_of_beq e];exact arM
  ·exact arL _ (qK h)
section
variable{aj:aR}{c:Tc}{X:Cx}{W:WX}{k:Nat}{t:Tr}
theorem Yp(a:Amb aj c X W k){m:Str}{n:Nat}{tb:List (Str×MV)}(h:c.hs.Ms.lookup m=some tb)(hn:tbN tb n=true):Jt X aj k m n tb:=λy v hv=>by
 refine⟨a.hk.ms m tb h y v hv,?_⟩;have:=ar7.mp hn _ (qK hv);cases v<;>exact eq_of_beq this
def aaj(t:Tr)(c:Tc)(o:Expr)(m:Str)(es:List Expr)(apos pos:Pos):Option QF:=
 (c.hs.Ms.lookup m).bind λtb=>(t.W c o).bind λfo=>(Kf t c es).bind λas=>
  gd (tbQ tb&&(tbN tb (es.length+1)&&(baseOk o&&(decide (es.length < 30)&&(apos.endLine==pos.line))))) (some (aO tb fo as))
theorem adB(o:t.Ok)(a:Amb aj c X W k){b:Expr}{m:Str}{es:List Expr}{apos pos:Pos}{f:QF}(h:aaj t c b m es apos pos=some f):QE aj X W (.Call (.Attribute b m apos) es [] pos) f:=by
 unfold aaj at h;obtain⟨tb,h1,h⟩:=arF.mp h;obtain⟨fo,h2,h⟩:=arF.mp h;obtain⟨as,h3,h⟩:=arF.mp h;obtain⟨hb,h⟩:=aX.mp h;cases h;simp only[arH,ate]at hb;obtain⟨_,b2,b3,b4,b5⟩:=hb;obtain⟨i1,i2,i3⟩:=vK o a h3;cases es with
 |nil=>
  cases h3;exact afR a.tk a.rm (Yp a h1 b2) (o.ow a h2) b3 b5
 |cons e es=>exact ah9 a.tk a.rm (Yp a h1 b2) (o.ow a h2) i1 i3 b3 i2 b5 b4
def inN:CmpOp->Option Bool
 |.In=>some false
 |.NotIn=>some true
 |_=>none
theorem aeH{op:CmpOp}{neg:Bool}(hr:Room k X.A)(h:inN op=some neg):OpR X (compareOp op) (rInD X neg):=by
 have h65:X.A.units+64 < cLine:=by have:=hr.un;omega
 cases op<;>cases h
 ·exact op_inD h65
 ·exact op_notInD h65
def acv(t:Tr)(c:Tc)(e:Expr)(op:CmpOp)(o:Expr)(f:Str):Option QF:=
 (inN op).bind λneg=>(c.hs.df.lookup f).bind λ_=>(t.E c e).bind λfe=>(t.W c o).bind λfo=>gd (baseOk o) (some (Ql neg f fe fo))
theorem aj4{o e:Expr}{f:Str}{p1 pos:Pos}{fo fk:QF}{neg:Bool}{op:CmpOp}(co:jM X.K aj)(hw:aj.w=X.w)(hr:OpR X (compareOp op) (rInD X neg))(hk:QE aj X W e fk)(ho:QW aj X W o fo)(hb:baseOk o=true):tH aj X W (.Compare e [op] [.Attribute o f p1] pos) (bh (Ql neg f fk fo)):=
 PT.weak (pt_cmpR hr hk (pe_fld ho (ni hb)) (by cases op<;>rfl)) λσ H Q ⟨g,Z,M,I,h⟩=>by
  refine agW co hw σ H _ ⟨g,Z,M,I,h.bnd.mono (λd h1 v H' e' r'=>?_) λ_ z=>z⟩;obtain⟨k,h2,h3⟩:=Fe r'.weak h1;exact⟨k,h2,h3 H' e'⟩
theorem abb(o:t.Ok)(a:Amb aj c X W k){e b:Expr}{op:CmpOp}{m:Str}{p1 pos:Pos}{f:QF}(h:acv t c e op b m=some f):QE aj X W (.Compare e [op] [.Attribute b m p1] pos) f/\tH aj X W (.Compare e [op] [.Attribute b m p1] pos) (bh f):=by unfold acv at h;obtain⟨neg,h1,h⟩:=arF.mp h;obtain⟨_,_,h⟩:=arF.mp h;obtain⟨fe,h2,h⟩:=arF.mp h;obtain⟨fo,h3,h⟩:=arF.mp h;obtain⟨hb,h⟩:=aX.mp h;cases h;exact⟨alp a.hk.co a.hk.hw (aeH a.rm h1) (o.oe a h2) (o.ow a h3) hb,aj4 a.hk.co a.hk.hw (aeH a.rm h1) (o.oe a h2) (o.ow a h3) hb⟩
def Yh(t:Tr)(c:Tc)(e:Expr)(op:CmpOp)(x:Str):Option QF:=
 (inN op).bind λneg=>match c.G.lookup x with
  |some (.dic kvs)=>(t.W c e).bind λfe=>gd (HW c.sc x&&!GZ x) (some (Vh neg kvs fe))
  |_=>none
theorem Y6(o:t.Ok)(a:Amb aj c X W k){e:Expr}{op:CmpOp}{x:Str}{p1 pos:Pos}{f:QF}(h:Yh t c e op x=some f):QE aj X W (.Compare e [op] [.Name x p1] pos) f/\tH aj X W (.Compare e [op] [.Name x p1] pos) (bh f):=by
 unfold Yh at h;obtain⟨neg,h1,h⟩:=arF.mp h;split at h
 ·next kvs hl=>
  obtain⟨fe,h2,h⟩:=arF.mp h;obtain⟨hb,h⟩:=aX.mp h;cases h;simp only[arH,arX]at hb;refine akf ?_ (a.gl x _ hl) (uE a hb.1) (uI hb.2).1 (o.ow a h2);cases op<;>cases h1
  ·exact .inl ⟨rfl,rfl⟩
  ·exact .inr ⟨rfl,rfl⟩
 ·cases h
def ZL(t:Tr)(c:Tc):Expr->Option QF
 |.Call (.Name y _) [b] [] _=>(match sS c y "set" with
  |true=>(t.W c b).bind λfb=>gd (nst b) (some (eZ Rm fb))
  |false=>(t.W c (.Call (.Name y ⟨0,0,0,0⟩) [b] [] ⟨0,0,0,0⟩)).bind λ_=>none)
 |.SetComp elt [⟨tg,iter,ifs,0⟩] scope _=>(t.I c false tg iter).bind λit=>(Rq (c.inn scope) tg).bind λjt=>(Py t (c.inn scope) ifs).bind λtt=>(t.E (c.inn scope) elt).bind λte=>
  gd (blkC c.N c.sc scope (nJ tg jt.1)&&(Ln jt.1 ((nJ tg jt.1).map (·.2))&&!yL iter)) (some (CK it jt.2 ((nJ tg jt.1).map (·.2)) tt te))
 |e=>(t.W c e).bind λfe=>gd (nst e) (some (eZ Jl fe))
theorem acY(a:Amb aj c X W k):X.A.units+65 < cLine:=by have:=a.rm.un;omega
theorem adu(o:t.Ok)(a:Amb aj c X W k)(hg:Gl X "sorted")(hm:X.mg "sorted"=none){e:Expr}{p pos:Pos}{f:QF}(h:ZL t c e=some f):QE aj X W (.Call (.Name "sorted" p) [e] [] pos) f:=by
 unfold ZL at h;split at h
 ·split at h
  ·next hb=>
   obtain⟨fb,h1,h⟩:=arF.mp h;obtain⟨hn,h⟩:=aX.mp h;cases h;obtain⟨rfl,hg2,hm2⟩:=lH a hb;exact ai2 (acY a) a.calm hg hm hg2 hm2 (o.ow a h1) hn
  ·obtain⟨_,_,h⟩:=arF.mp h;cases h
 ·obtain⟨it,h1,h⟩:=arF.mp h;obtain⟨⟨js,tf⟩,h2,h⟩:=arF.mp h;obtain⟨tt,h3,h⟩:=arF.mp h;obtain⟨te,h4,h⟩:=arF.mp h;obtain⟨hb,h⟩:=aX.mp h;cases h;simp only[arH,arX]at hb;obtain⟨b1,b2,b3⟩:=hb;exact adK (acY a) a.calm a.nd hg hm (o.oi a h1) (by rw[a.hN,a.hs];exact b1) (oJ b2) (λs H C cl fp=>uH (a.inn _ s H C cl fp) h2) (λs H C cl fp=>vh o (a.inn _ s H C cl fp) h3) (λs H C cl fp=>o.oe (a.inn _ s H C cl fp) h4) (qw b3)
 ·obtain⟨fe,h1,h⟩:=arF.mp h;obtain⟨hn,h⟩:=aX.mp h;cases h;exact aie (acY a) hg hm (o.ow a h1) hn
def Sh(t:Tr)(c:Tc)(elt tg iter:Expr)(ifs:List Expr)(tg1 iter1:Expr)(ifs1:List Expr)(scope:Scope):Option QF:=
 (t.I c false tg iter).bind λit=>(Rq (c.inn scope) tg).bind λjt=>(Py t (c.inn scope) ifs).bind λtt=>(t.I (c.inn scope) true tg1 iter1).bind λit1=>(Rq (c.inn scope) tg1).bind λjt1=>(Py t (c.inn scope) ifs1).bind λtt1=>(t.E (c.inn scope) elt).bind λte=>
  gd (blkC c.N c.sc scope (nJ tg jt.1++nJ tg1 jt1.1)&&(Ln ((nJ tg1 jt1.1).map (·.2)) ((nJ tg jt.1++nJ tg1 jt1.1).map (·.2))&&(Ln jt.1 ((nJ tg jt.1++nJ tg1 jt1.1).map (·.2))&&(Ln jt1.1 ((nJ tg1 jt1.1).map (·.2))&&(!yL iter&&!yL iter1)))))
   (some (Eb it jt.2 ((nJ tg jt.1++nJ tg1 jt1.1).map (·.2)) tt it1 jt1.2 ((nJ tg1 jt1.1).map (·.2)) tt1 te))
theorem afI(o:t.Ok)(a:Amb aj c X W k){elt tg iter tg1 iter1:Expr}{ifs ifs1:List Expr}{scope:Scope}{pos:Pos}{f:QF}(h:Sh t c elt tg iter ifs tg1 iter1 ifs1 scope=some f):QE aj X W (.ListComp elt [⟨tg,iter,ifs,0⟩,⟨tg1,iter1,ifs1,0⟩] scope pos) f:=by unfold Sh at h;obtain⟨it,h1,h⟩:=arF.mp h;obtain⟨⟨js,tf⟩,h2,h⟩:=arF.mp h;obtain⟨tt,h3,h⟩:=arF.mp h;obtain⟨it1,h4,h⟩:=arF.mp h;obtain⟨⟨js1,tf1⟩,h5,h⟩:=arF.mp h;obtain⟨tt1,h6,h⟩:=arF.mp h;obtain⟨te,h7,h⟩:=arF.mp h;obtain⟨hb,h⟩:=aX.mp h;cases h;simp only[arH,arX]at hb;obtain⟨b1,b2,b3,b4,b5,b6⟩:=hb;exact alO a.calm a.nd (o.oi a h1) (by rw[a.hN,a.hs];exact b1) (oJ b2) (oJ b3) (oJ b4) (λs H C cl fp=>uH (a.inn _ s H C cl fp) h2) (λs H C cl fp=>vh o (a.inn _ s H C cl fp) h3) (λs H C cl fp=>o.oi (a.inn _ s H C cl fp) h4) (λs H C cl fp=>uH (a.inn _ s H C cl fp) h5) (λs H C cl fp=>vh o (a.inn _ s H C cl fp) h6) (λs H C cl fp=>o.oe (a.inn _ s H C cl fp) h7) (qw b5) (λenv=>qw b6)
def Vs(ds:List Dat):Bool:=ds.all λx=>(match x with
 |.none=>false
 |_=>true)&&ds.all λy=>PySem.W.alike x y
theorem alr{ds:List Dat}(h:Vs ds=true):PySem.W.AlikeAll ds:=by unfold Vs at h;simp only[ar7,arH]at h;refine⟨λx hx y hy=>(h x hx).2 y hy,λx hx z=>?_⟩;have:=(h x hx).1;rw[z]at this;cases this
def aeA:List Dat->Out Dat
 |[]=>.bad
 |y::ys=>Out.when (lB 12 (y::ys)&&Vs (y::ys)) (.ok (PySem.W.minD y ys))
def Tq:Dat->Dat->Out Dat
 |.list ds,e=>match intsOf ds with
  |some []=>Out.when (KY e) (.ok e)
  |some (n::ns)=>.ok (.int (ns.foldl min n))
  |none=>aeA ds
 |_,_=>.bad
theorem Ws{K:arG}{H:Hp}{a:Addr}{ns:List Int}{d:V}{Q:VK}(h:SqL K H a (ns.map V.int))(q0:ns=[]->Q d H)(q:∀n r,ns=n::r->Q (.int (r.foldl min n)) H):Ear.zJ K [.ref a] [d] H Q:=by
 have al:PySem.W.AlikeAll (ns.map PyData.int):=by
  refine⟨λx hx y hy=>?_,λx hx=>?_⟩
  ·obtain⟨i,_,rfl⟩:=arQ.mp hx;obtain⟨j,_,rfl⟩:=arQ.mp hy;simp[PySem.W.alike]
  ·obtain⟨i,_,rfl⟩:=arQ.mp hx;exact λz=>by cases z
 unfold Ear.zJ;refine⟨a,_,ns.map PyData.int,d,rfl,rfl,h,Ear.Ie ns,al,by rw[(Ear.lay_ints ns).2];decide,λe=>q0 (List.map_eq_nil_iff.mp e),λy ys i x e gx gd=>?_⟩;cases ns with
 |nil=>cases e
 |cons n ns=>
  rw[arK]at e;injection e with e1 e2;subst e1 e2;rw[PySem.W.minD_ints]at gd;obtain⟨m,hm,rfl⟩:∃m,(n::ns)[i]?=some m/\x=.int m:=by rw[arT]at gx;obtain⟨m,a1,a2⟩:=aso.mp gx;exact⟨m,a1,a2.symm⟩
  have em:m=ns.foldl min n:=by have gd':((n::ns).map PyData.int)[i]?=some (.int (ns.foldl min n)):=gd;rw[arT,hm]at gd';exact PyData.int.inj (arY gd')
  rw[em];exact q n ns rfl
theorem aeP{K:arG}{g:Gh}{H:Hp}{ds:List Dat}{v v2:V}{P:Dat->Prop}{E:dR->Prop}{Q:VK}(r:eG K g H v (.list ds))(h:(aeA ds).sat P E)(hq:∀z u,P z->Rep K g H u z->Q u H):Ear.zJ K [v] [v2] H Q:=by
 cases ds with
 |nil=>exact atd h
 |cons y ys=>
  obtain⟨hb,h⟩:=h.o9;rw[arH]at hb;obtain⟨p,us,rfl,k1,k2⟩:=gK r;unfold Ear.zJ;refine⟨p,us,y::ys,v2,rfl,rfl,k1,k2.dp hb.1,alr hb.2,ar8 (JD _ _ hb.1).2 (by decide),(λz=>nomatch z),λy' ys' i x e gx gd=>?_⟩;cases e;obtain⟨d',g1,g2⟩:=k2.get' gx;rw[gd]at g1;cases g1;exact hq _ _ h g2
theorem afU{a b:Expr}{fa fb:QF}{p pos kp:Pos}(hu:X.A.units+65 < cLine)(hc:X.calm=true)(hg:Gl X "min")(hm:X.mg "min"=none)(ha:QW aj X W a fa)(hb:QW aj X W b fb)(hs:nst a=true):QE aj X W (.Call (.Name "min" p) [a] [⟨some "default",b,kp⟩] pos) (aA Tq fa fb):=by
 have key:PE X (.Call (.Name "min" p) [a] [⟨some "default",b,kp⟩] pos) (tCKw (Ear.zJ X.K) (tCons (tW X.K aj W fa) tNil) (tCons (tW X.K aj W fb) tNil)):=
  pe_callBK (Ear.adC hu hc) hg hm (by decide +kernel) (pa_cons ha pa_nil (cH hs [])) (pk_cons hb pk_nil) (by decide) (by decide) (by unfold backTo;rw[cH hs []];rfl) (star_any [a] (by simp[hs])) (by with_unfolding_all rfl) (by with_unfolding_all rfl) (by with_unfolding_all rfl)
 refine PE.weak key λσ H Q ⟨g,Z,M,I,h⟩=>?_;refine tW.go I h.bnd λd v H1 h1 e1 r1=>?_;have I1:=I.ex e1;refine tW.go I1 (h1.bnd.mono (λ_ z=>z) λ_ z=>z.ex e1) λd2 v2 H2 h2 e2 r2=>?_;have r1':=r1.ex e2 I1.kd;unfold Tq at h2;split at h2
 ·split at h2
  ·next hi=>
   obtain⟨p,us,rfl,k1,k2⟩:=gK r1';have:=yd k2 hi;subst this;refine Ws k1 (λ_=>?_) λn r z=>nomatch z;cases hf:KY d2 with
   |true=>
    rw[hf]at h2;exact h2 _ H2 (e1.trans e2) (abd hf r2)
   |false=>rw[hf]at h2;exact atd h2
  ·next n ns hi=>
   obtain⟨p,us,rfl,k1,k2⟩:=gK r1';have:=yd k2 hi;subst this;refine Ws k1 (λz=>nomatch z) λn' r z=>?_;cases z;exact h2 _ H2 (e1.trans e2) (.int _)
  ·exact aeP r1' h2 λz u hz ru=>hz u H2 (e1.trans e2) ru
 ·exact atd h2
def xE(t:Tr)(c:Tc):Expr->Option QF
 |.Call (.Name x _) [a] [⟨some y,b,_⟩] _=>(match sS c x "min" with
  |true=>(t.W c a).bind λfa=>(t.W c b).bind λfb=>gd (y=="default"&&nst a) (some (aA Tq fa fb))
  |false=>none)
 |.Attribute o f _=>gd (baseOk o) ((t.W c o).bind λfo=>some (fL f fo))
 |.Call (.Attribute o m apos) es [] pos=>aaj t c o m es apos pos
 |.Compare e [op] [.Attribute o f _] _=>acv t c e op o f
 |.Compare e [op] [.Name x _] _=>Yh t c e op x
 |.Subscript (.Name x _) e _=>(match c.G.lookup x with
  |some (.dic kvs)=>(t.W c e).bind λfe=>gd (HW c.sc x&&(!GZ x&&!QK e)) (some (acd kvs fe))
  |_=>none)
 |.ListComp elt [⟨tg,iter,ifs,0⟩,⟨tg1,iter1,ifs1,0⟩] scope _=>Sh t c elt tg iter ifs tg1 iter1 ifs1 scope
 |.Call (.Name x _) [e] [] _=>(match sS c x "sorted" with
  |true=>ZL t c e
  |false=>match sS c x "list",e with
   |true,.Attribute o f _=>(c.hs.df.lookup f).bind λ_=>(t.W c o).bind λfo=>gd (baseOk o) (some (DG f fo))
   |_,_=>none)
 |_=>none
theorem amj(o:t.Ok)(a:Amb aj c X W k){e:Expr}{f:QF}(h:xE t c e=some f):QE aj X W e f:=by
 unfold xE at h;split at h
 ·split at h
  ·next hb=>
   obtain⟨fa,h1,h⟩:=arF.mp h;obtain⟨fb,h2,h⟩:=arF.mp h;obtain⟨hd,h⟩:=aX.mp h;cases h;rw[arH]at hd;obtain⟨rfl,hg,hm⟩:=lH a hb;cases eq_of_beq hd.1;exact afU (acY a) a.calm hg hm (o.ow a h1) (o.ow a h2) hd.2
  ·cases h
 ·obtain⟨hb,h⟩:=aX.mp h;obtain⟨fo,h1,h⟩:=arF.mp h;cases h;exact ajQ a.hk.co (o.ow a h1) hb
 ·exact adB o a h
 ·exact(abb o a h).1
 ·exact(Y6 o a h).1
 ·split at h
  ·next kvs hl=>
   obtain⟨fe,h1,h⟩:=arF.mp h;obtain⟨hb,h⟩:=aX.mp h;cases h;simp only[arH]at hb;exact akt (a.gl _ _ hl) (uE a hb.1) (uI (by simpa using hb.2.1)).1 (o.ow a h1) (Yy hb.2.2)
  ·cases h
 ·exact afI o a h
 ·split at h
  ·next hb=>
   obtain⟨rfl,hg,hm⟩:=lH a hb;exact adu o a hg hm h
  ·split at h
   ·next hb=>
    obtain⟨_,_,h⟩:=arF.mp h;obtain⟨fo,h1,h⟩:=arF.mp h;obtain⟨hb2,h⟩:=aX.mp h;cases h;obtain⟨rfl,hg,hm⟩:=lH a hb;exact agm a.hk.co a.hk.hw a.calm hg hm (o.ow a h1) hb2
   ·cases h
 ·cases h
def xW(t:Tr)(c:Tc):Expr->Option QF
 |.Attribute o f _=>gd (baseOk o) ((t.W c o).bind λfo=>some (bK f fo))
 |_=>none
theorem al7(o:t.Ok)(a:Amb aj c X W k){e:Expr}{f:QF}(h:xW t c e=some f):QW aj X W e f:=by
 unfold xW at h;split at h
 ·obtain⟨hb,h⟩:=aX.mp h;obtain⟨fo,h1,h⟩:=arF.mp h;cases h;exact alL a.hk.co (o.ow a h1) hb
 ·cases h
def xT(t:Tr)(c:Tc):Expr->Option QT
 |.Compare e [op] [.Attribute o f _] _=>(acv t c e op o f).bind λg=>some (bh g)
 |.Compare e [op] [.Name x _] _=>(Yh t c e op x).bind λg=>some (bh g)
 |_=>none
theorem amH(o:t.Ok)(a:Amb aj c X W k){e:Expr}{f:QT}(h:xT t c e=some f):tH aj X W e f:=by
 unfold xT at h;split at h
 ·obtain⟨g,h1,h⟩:=arF.mp h;cases h;exact(abb o a h1).2
 ·obtain⟨g,h1,h⟩:=arF.mp h;cases h;exact(Y6 o a h1).2
 ·cases h
def xI(t:Tr)(c:Tc)(firm:Bool):Expr->Option IF
 |.Attribute o f _=>(match firm with
  |true=>none
  |false=>(c.hs.df.lookup f).bind λ_=>gd (baseOk o) ((t.W c o).bind λfo=>some (Dd f fo)))
 |_=>none
theorem amD(o:t.Ok)(a:Amb aj c X W k){firm:Bool}{tg e:Expr}{f:IF}(h:xI t c firm e=some f):QI aj X W firm tg e f:=by
 unfold xI at h;split at h
 ·split at h
  ·cases h
  ·obtain⟨_,_,h⟩:=arF.mp h;obtain⟨hb,h⟩:=aX.mp h;obtain⟨fo,h1,h⟩:=arF.mp h;cases h;exact afH a.hk.co a.hk.hw (o.ow a h1) hb
 ·cases h
def els{α:Type}(a b:Option α):Option α:=match a with
 |some x=>some x
 |none=>b
theorem wI{α:Type}{a b:Option α}{x:α}(h:els a b=some x):a=some x∨b=some x:=by
 cases a with
 |none=>exact .inr h
 |some y=>exact .inl h
def xtE(t:Tr)(c:Tc)(e:Expr):Option QF:=els (xE t c e) (stE t c e)
def xtW(t:Tr)(c:Tc)(e:Expr):Option QF:=els (xW t c e) (stW t c e)
def xtT(t:Tr)(c:Tc)(e:Expr):Option QT:=els (xT t c e) (stT t c e)
def xtI(t:Tr)(c:Tc)(firm:Bool)(tg e:Expr):Option IF:=els (xI t c firm e) (stI t c firm tg e)
end
structure wH(aj:aR)(c:Tc)(X:Cx)(W:WX)(k:Nat):Prop extends Amb aj c X W k where
 ps:PassesOwn (model X.prog X.w) X.A X.env X.xe
 st:X.stack=X.env::X.outer
 fr:X.env.frame=some X.env.locals
 kf:X.env.scope.kind=.function
structure Ts where
 G:Tc->Expr->Option GF
 H:Tc->Expr->Option GT
 S:Tc->Stmt->Option SF
 B:Tc->List Stmt->Option SF
structure Ts.Ok(s:Ts)(q:Bool):Prop where
 og:∀{aj:aR} {c:Tc} {X:Cx} {W:WX} {k:Nat},wH aj c X W k->∀{e:Expr} {f:GF},s.G c e=some f->GE aj X W q e f
 oh:∀{aj:aR} {c:Tc} {X:Cx} {W:WX} {k:Nat},wH aj c X W k->∀{e:Expr} {f:GT},s.H c e=some f->GTe aj X W q e f
 os:∀{aj:aR} {c:Tc} {X:Cx} {W:WX} {k:Nat},wH aj c X W k->∀{e:Stmt} {f:SF},s.S c e=some f->SE aj X W q e f
 ob:∀{aj:aR} {c:Tc} {X:Cx} {W:WX} {k:Nat},wH aj c X W k->∀{e:List Stmt} {f:SF},s.B c e=some f->Kc aj X W q e f
def Dq:Expr->Bool
 |.ListComp _ _ _ _=>true
 |.SetComp _ _ _ _=>true
 |.DictComp _ _ _ _ _=>true
 |_=>false
theorem Ht{e:Expr}{tg:Option Expr}{l:Nat}{env:PySem.Env}(h:Dq e=false):swapsWith e tg l env=pure false:=by cases e<;>first | rfl | cases h
def acj:Expr->Bool
 |.Tuple _ _ _=>true
 |_=>false
def swB(sc:Scope)(v:Expr)(scope:Scope)(x:Str)(p:Pos):Bool:=(match sc.names.lookup x with
 |some .local=>true
 |_=>false)&&(p.line==v.pos.line&&!(scope.names.any λ(n,k)=>n==x&&(k==.local || k==.cell)))
theorem Uc{X:Cx}{elt:Expr}{gens:List Comprehension}{scope:Scope}{pos p:Pos}{x:Str}{l:Nat}(hk:X.env.scope.kind=.function)(h:swB X.env.scope (.ListComp elt gens scope pos) scope x p=true):X.env.scope.names.lookup x=some .local/\swapsWith (.ListComp elt gens scope pos) (some (.Name x p)) l X.env=pure true:=by
 unfold swB at h;simp only[arH]at h;obtain⟨h1,h2,h3⟩:=h;have e1:X.env.scope.names.lookup x=some .local:=by
  split at h1
  ·assumption
  ·cases h1
 refine⟨e1,?_⟩;have eb:X.env.blockKind=.function:=by unfold PySem.Env.blockKind;rw[hk];rfl
 unfold swapsWith
 show(pure (X.env.blockKind==.function&&X.env.kindOf x==some .local&&p.line==(Expr.ListComp elt gens scope pos).pos.line&&!(scope.names.any λ(n,k)=>n==x&&(k==.local || k==.cell))):Sem Bool)=pure true
 rw[eb,h2,h3];unfold PySem.Env.kindOf;rw[e1];rfl
theorem adg{X:Cx}{elt:Expr}{gens:List Comprehension}{scope:Scope}{pos p:Pos}{x:Str}{l:Nat}(h:(p.line==(Expr.ListComp elt gens scope pos).pos.line)=false):swapsWith (.ListComp elt gens scope pos) (some (.Name x p)) l X.env=pure false:=by
 unfold swapsWith
 show(pure (X.env.blockKind==.function&&X.env.kindOf x==some .local&&p.line==(Expr.ListComp elt gens scope pos).pos.line&&!(scope.names.any λ(n,k)=>n==x&&(k==.local || k==.cell))):Sem Bool)=pure false
 rw[h,Bool.and_false,Bool.false_and]
def trN(t:Tr)(c:Tc):Expr->Option IF
 |.List es _=>(Kf t c es).bind λfr=>some (S9 fr)
 |.Call (.Name x _) [a] [] _=>(t.W c a).bind λfa=>gd (sS c x "list"&&nst a) (some (Jc fa))
 |_=>none
theorem aef{aj:aR}{c:Tc}{X:Cx}{W:WX}{k:Nat}{t:Tr}(o:t.Ok)(a:Amb aj c X W k){e:Expr}{f:IF}(h:trN t c e=some f):FE aj X W e f/\Dq e=false:=by
 unfold trN at h;split at h
 ·obtain⟨fr,h1,h⟩:=arF.mp h;cases h;exact⟨akl (vK o a h1).1,rfl⟩
 ·obtain⟨fa,h1,h⟩:=arF.mp h;obtain⟨hb,h⟩:=aX.mp h;cases h;rw[arH]at hb;obtain⟨rfl,hg,hm⟩:=lH a hb.1;exact⟨ahK hg hm ⟨by decide +kernel,by decide,by decide⟩ (o.ow a h1) hb.2,rfl⟩
 ·cases h
section
variable{X:Cx}{aj:aR}{W:WX}{q:Bool}{e:Expr}{pos:Pos}
theorem akP{j:Nat}{y:Str}{py:Pos}{elt tg iter:Expr}{cpos:Pos}{scope:Scope}{own:List (Str×Nat)}{it:IF}{tgf:fH}{js:List Nat}{tt:QT}{te:QF}{ifs:List Expr}(hc:X.calm=true)(hN:X.N.Nodup)(hy:X.N[j]?=some y)(hyl:X.env.scope.names.lookup y=some .local)
  (hsw:swapsWith (.ListComp elt [⟨tg,iter,ifs,0⟩] scope cpos) (some (.Name y py)) pos.line X.env=pure true) (hi:QI aj X W false tg iter it) (ok:blkC X.N X.env.scope scope own=true) (hj:∀j∈js,j∈own.map (·.2))
  (hg:∀(s:Shared) (H:Hp) (C:Addr) (cl:List (Str×Addr)) (fp:List Addr),QG aj (X.blk s H scope (compEnvC scope cl C X.env) fp) tg js tgf)
  (ht:∀(s:Shared) (H:Hp) (C:Addr) (cl:List (Str×Addr)) (fp:List Addr),PTs (X.blk s H scope (compEnvC scope cl C X.env) fp) ifs (jK X.K aj WF tt))
  (he:∀(s:Shared) (H:Hp) (C:Addr) (cl:List (Str×Addr)) (fp:List Addr),QE aj (X.blk s H scope (compEnvC scope cl C X.env) fp) WF elt te) (hs:∀x,foldedSetIterable iter X.env x=pure x) :
  SE aj X W q (.Assign [.Name y py] (.ListComp elt [⟨tg,iter,ifs,0⟩] scope cpos) pos) (Gp j (Bm it tgf (own.map (·.2)) tt te)):=by
 refine PS.weak (ps_setLc (g:=yI X.K aj js tgf) (tt:=jK X.K aj WF tt) (te:=tQ X.K aj WF te) hc hN hy hyl hsw hi (blkOk_by ok) (λs H C cl fp=>hg s H C cl fp) ht (λs H C cl fp=>he s H C cl fp) hs) λD σ H h=>?_;exact Zk hj σ H _ (aea D σ H h)
end
def ahc(t:Tr)(c:Tc)(elt tg iter:Expr)(ifs:List Expr)(scope:Scope):Option IF:=
 (t.I c false tg iter).bind λit=>(Rq (c.inn scope) tg).bind λjt=>(Py t (c.inn scope) ifs).bind λtt=>(t.E (c.inn scope) elt).bind λte=>
  gd (blkC c.N c.sc scope (nJ tg jt.1)&&(Ln jt.1 ((nJ tg jt.1).map (·.2))&&!yL iter)) (some (Bm it jt.2 ((nJ tg jt.1).map (·.2)) tt te))
def Vz(t:Tr)(c:Tc)(x:Str)(p:Pos)(elt tg iter:Expr)(ifs:List Expr)(scope:Scope)(cpos:Pos):Option SF:=
 (vR c x).bind λj=>gd (swB c.sc (.ListComp elt [⟨tg,iter,ifs,0⟩] scope cpos) scope x p || !(p.line==(Expr.ListComp elt [⟨tg,iter,ifs,0⟩] scope cpos).pos.line))
  (match c.ml.contains x with
  |true=>(ahc t c elt tg iter ifs scope).bind λf=>some (Gp j f)
  |false=>(Ze t c elt tg iter ifs scope).bind λf=>some (bF (aG j) (gOf f)))
section
variable{aj:aR}{c:Tc}{X:Cx}{W:WX}{k:Nat}{t:Tr}{q:Bool}
theorem acz(o:t.Ok)(a:wH aj c X W k){x:Str}{p cpos pos:Pos}{elt tg iter:Expr}{ifs:List Expr}{scope:Scope}{f:SF}(h:Vz t c x p elt tg iter ifs scope cpos=some f):SE aj X W q (.Assign [.Name x p] (.ListComp elt [⟨tg,iter,ifs,0⟩] scope cpos) pos) f:=by
 unfold Vz at h;obtain⟨j,hj,h⟩:=arF.mp h;obtain⟨hsw,h⟩:=aX.mp h;obtain⟨s1,s2,s3⟩:=nO a.toAmb hj;rw[asW]at hsw;split at h
 ·obtain⟨f1,h1,h⟩:=arF.mp h;cases h;unfold ahc at h1;obtain⟨it,h2,h1⟩:=arF.mp h1;obtain⟨⟨js,tf⟩,h3,h1⟩:=arF.mp h1;obtain⟨tt,h4,h1⟩:=arF.mp h1;obtain⟨te,h5,h1⟩:=arF.mp h1;obtain⟨hb,h1⟩:=aX.mp h1;cases h1;simp only[arH,arX]at hb;obtain⟨b1,b2,b3⟩:=hb;rcases hsw with hsw|hsw
  ·rw[←a.hs]at hsw;obtain⟨l1,l2⟩:=Uc (l:=pos.line) a.kf hsw;exact akP a.calm a.nd s1 l1 l2 (o.oi a.toAmb h2) (by rw[a.hN,a.hs];exact b1) (oJ b2) (λs H C cl fp=>uH (a.toAmb.inn scope s H C cl fp) h3) (λs H C cl fp=>vh o (a.toAmb.inn scope s H C cl fp) h4) (λs H C cl fp=>o.oe (a.toAmb.inn scope s H C cl fp) h5) (qw b3)
  ·exact ae7 a.nd s1 s2 s3 (al2 a.calm a.nd (o.oi a.toAmb h2) (by rw[a.hN,a.hs];exact b1) (oJ b2) (λs H C cl fp=>uH (a.toAmb.inn scope s H C cl fp) h3) (λs H C cl fp=>vh o (a.toAmb.inn scope s H C cl fp) h4) (λs H C cl fp=>o.oe (a.toAmb.inn scope s H C cl fp) h5) (qw b3)) (adg (by simpa using hsw))
 ·obtain⟨f1,h1,h⟩:=arF.mp h;cases h;rcases hsw with hsw|hsw
  ·rw[←a.hs]at hsw;obtain⟨l1,l2⟩:=Uc (l:=pos.line) a.kf hsw;unfold Ze at h1;obtain⟨it,h2,h1⟩:=arF.mp h1;obtain⟨⟨js,tf⟩,h3,h1⟩:=arF.mp h1;obtain⟨tt,h4,h1⟩:=arF.mp h1;obtain⟨te,h5,h1⟩:=arF.mp h1;obtain⟨hb,h1⟩:=aX.mp h1;cases h1;simp only[arH,arX]at hb;obtain⟨b1,b2,b3⟩:=hb;exact aj5 a.calm a.nd s1 l1 l2 (o.oi a.toAmb h2) (by rw[a.hN,a.hs];exact b1) (oJ b2) (λs H C cl fp=>uH (a.toAmb.inn scope s H C cl fp) h3) (λs H C cl fp=>vh o (a.toAmb.inn scope s H C cl fp) h4) (λs H C cl fp=>o.oe (a.toAmb.inn scope s H C cl fp) h5) (qw b3)
  ·exact YD (agU (ab1 o a.toAmb h1)) (UG a.nd s1 s2 s3) (adg (l:=pos.line) (by simpa using hsw)) (by with_unfolding_all rfl) (by with_unfolding_all rfl)
end
theorem CZ{tg e:Expr}{l:Nat}{env:PySem.Env}(h:Dq e=false):swapsWithSole [tg] e l env=pure false:=Ht h
theorem ahk{x:Str}{p spos:Pos}{i:Expr}{env:PySem.Env}(h:QK i=false):∀v,assign (.Subscript (.Name x p) i spos) env v=(do
   let ov ←holding [v] (eval (.Name x p) env)
   let iv ←holding [v,ov] (eval i env)
   standAt spos
   holding [v,ov,iv] (setItem ov iv v)
   release [v,ov,iv] []):=λv=>by
 cases i<;>first | (with_unfolding_all rfl) | cases h
def acf(t:Tr)(s:Ts)(c:Tc):Expr->Expr->Option SF
 |.Name x p,.ListComp elt [⟨tg,iter,ifs,0⟩] scope cpos=>Vz t c x p elt tg iter ifs scope cpos
 |.Name x _,e=>(vR c x).bind λj=>match c.ml.contains x with
  |true=>(trN t c e).bind λf=>some (Gp j f)
  |false=>gd (!Dq e) ((s.G c e).bind λf=>some (bF (aG j) f))
 |.Tuple [.Name x _,.Starred (.Name y _) _] _ _,e=>(vR c x).bind λi=>(vR c y).bind λj=>gd (!Dq e&&!acj e) ((s.G c e).bind λf=>some (Yj i j f))
 |.Tuple ts _ _,e=>(Zj c ts).bind λjs=>gd (!Dq e&&!acj e) ((s.G c e).bind λf=>some (bF (bx js) f))
 |.Subscript (.Name x _) i _,e=>(Gx c x).bind λj=>gd (c.ml.contains x&&(!Dq e&&!QK i)) ((t.E c e).bind λf=>(t.E c i).bind λfi=>some (TF j fi f))
 |_,_=>none
theorem Rp{tg e:Expr}{env:PySem.Env}(h:acj e=false):swappedStores [tg] e env=pure none:=by cases tg<;>first | rfl | (cases e<;>first | rfl | cases h)
section
variable{aj:aR}{c:Tc}{X:Cx}{W:WX}{k:Nat}{t:Tr}{s:Ts}{q:Bool}
theorem af9(o:t.Ok)(os:s.Ok q)(a:wH aj c X W k){tg e:Expr}{pos:Pos}{f:SF}(h:acf t s c tg e=some f):SE aj X W q (.Assign [tg] e pos) f:=by
 unfold acf at h;split at h
 ·exact acz o a h
 ·obtain⟨j,hj,h⟩:=arF.mp h;obtain⟨s1,s2,s3⟩:=nO a.toAmb hj;split at h
  ·obtain⟨f1,h1,h⟩:=arF.mp h;cases h;obtain⟨i1,i2⟩:=aef o a.toAmb h1;exact ae7 a.nd s1 s2 s3 i1 (Ht i2)
  ·obtain⟨hc,h⟩:=aX.mp h;obtain⟨f1,h1,h⟩:=arF.mp h;cases h;exact YD (os.og a h1) (UG a.nd s1 s2 s3) (CZ (by simpa using hc)) (by with_unfolding_all rfl) (by with_unfolding_all rfl)
 ·obtain⟨i,hi,h⟩:=arF.mp h;obtain⟨j,hj,h⟩:=arF.mp h;obtain⟨hc,h⟩:=aX.mp h;obtain⟨f1,h1,h⟩:=arF.mp h;cases h;simp only[arH,arX]at hc;exact aiv a.calm a.nd (nO a.toAmb hi) (nO a.toAmb hj) (os.og a h1) (CZ hc.1) (Rp hc.2)
 ·obtain⟨js,hj,h⟩:=arF.mp h;obtain⟨hc,h⟩:=aX.mp h;obtain⟨f1,h1,h⟩:=arF.mp h;cases h;simp only[arH,arX]at hc;exact YD (os.og a h1) (aez a.calm a.nd (VR a.toAmb hj)) (CZ hc.1) (Rp hc.2) (by with_unfolding_all rfl)
 ·obtain⟨j,hj,h⟩:=arF.mp h;obtain⟨hc,h⟩:=aX.mp h;obtain⟨f1,h1,h⟩:=arF.mp h;obtain⟨fi,h2,h⟩:=arF.mp h;cases h;simp only[arH,arX]at hc;obtain⟨s1,s2,s3,s4⟩:=xg a.toAmb hj;exact aiD s1 s2 s3 s4 (o.oe a.toAmb h1) (o.oe a.toAmb h2) (ahk hc.2.2) (CZ hc.2.1) (by with_unfolding_all rfl)
 ·cases h
end
def adb(s:Ts)(c:Tc):List Stmt->Option SF
 |[]=>some aV
 |[a]=>s.S c a
 |a::b::r=>(s.S c a).bind λf=>(s.B c (b::r)).bind λg=>some (aD f g)
def stS(t:Tr)(s:Ts)(c:Tc):Stmt->Option SF
 |.Assign [tg] e _=>acf t s c tg e
 |.Assign [.Name x _,.Name y _] e _=>(vR c x).bind λi=>(vR c y).bind λj=>gd (!acj e) ((s.G c e).bind λf=>some (Ro i j f))
 |.AugAssign (.Name x _) .Add e _=>(vR c x).bind λj=>(t.E c e).bind λf=>some (Q7 j f)
 |.Expr (.Call (.Attribute (.Name x _) m apos) [e] [] pos) _=>(Gx c x).bind λj=>gd (m=="append"&&(c.ml.contains x&&(nst e&&(apos.endLine==pos.line)))) ((t.E c e).bind λf=>some (Qm j f))
 |.Return (some e) _=>(match t.E c e with
  |some f=>some (aQ f)
  |none=>(s.G c e).bind λf=>some (iJ f))
 |.If d s1 s2 _=>(s.B c s1).bind λf=>(s.B c s2).bind λg=>(t.T c d).bind λtd=>some (bV td f g)
 |.For tg iter body [] _=>(t.I c true tg iter).bind λit=>(Rq c tg).bind λjt=>(s.B c body).bind λf=>gd (!yL iter) (some (rA it jt.2 f))
 |_=>none
section
variable{aj:aR}{c:Tc}{X:Cx}{W:WX}{k:Nat}{t:Tr}{s:Ts}{q:Bool}
theorem af8(os:s.Ok q)(a:wH aj c X W k){b:List Stmt}{f:SF}(h:adb s c b=some f):Kc aj X W q b f:=by
 unfold adb at h;split at h
 ·cases h;exact akO
 ·exact ajA (os.os a h)
 ·obtain⟨f1,h1,h⟩:=arF.mp h;obtain⟨f2,h2,h⟩:=arF.mp h;cases h;exact ahy (os.os a h1) (os.ob a h2)
theorem alC(o:t.Ok)(os:s.Ok q)(a:wH aj c X W k){st:Stmt}{f:SF}(h:stS t s c st=some f):SE aj X W q st f:=by
 unfold stS at h;split at h
 ·exact af9 o os a h
 ·obtain⟨i,hi,h⟩:=arF.mp h;obtain⟨j,hj,h⟩:=arF.mp h;obtain⟨hc,h⟩:=aX.mp h;obtain⟨f1,h1,h⟩:=arF.mp h;cases h;exact aiA a.nd (nO a.toAmb hi) (nO a.toAmb hj) (os.og a h1) (by with_unfolding_all rfl)
 ·obtain⟨j,hj,h⟩:=arF.mp h;obtain⟨f1,h1,h⟩:=arF.mp h;cases h;obtain⟨s1,s2,s3⟩:=nO a.toAmb hj;exact akz a.nd s1 s2 s3 (o.oe a.toAmb h1)
 ·obtain⟨j,hj,h⟩:=arF.mp h;obtain⟨hc,h⟩:=aX.mp h;obtain⟨f1,h1,h⟩:=arF.mp h;cases h;simp only[arH]at hc;cases eq_of_beq hc.1;obtain⟨s1,s2,s3,s4⟩:=xg a.toAmb hj;exact ak4 s1 s2 s3 s4 (o.oe a.toAmb h1) hc.2.2.1 hc.2.2.2
 ·split at h
  ·next f1 h1=>
   cases h;exact alD (o.oe a.toAmb h1)
  ·obtain⟨f1,h1,h⟩:=arF.mp h;cases h;exact aiW (os.og a h1)
 ·obtain⟨f1,h1,h⟩:=arF.mp h;obtain⟨f2,h2,h⟩:=arF.mp h;obtain⟨td,h3,h⟩:=arF.mp h;cases h;exact amP (o.ot a.toAmb h3) (os.ob a h1) (os.ob a h2)
 ·obtain⟨it,h1,h⟩:=arF.mp h;obtain⟨⟨js,tf⟩,h2,h⟩:=arF.mp h;obtain⟨f1,h3,h⟩:=arF.mp h;obtain⟨hc,h⟩:=aX.mp h;cases h;exact alb a.ps a.calm (o.oi a.toAmb h1) (uH a.toAmb h2) (os.ob a h3) (qw (by simpa using hc))
 ·cases h
end
abbrev GA:=Mo->Env->bf (List Dat)
def amn:GA:=λM _=>.ok [] M
def ajW(a:GF)(r:GA):GA:=λM Z=>(a M Z).bind λd M1=>(r M1 Z).bind λds M2=>.ok (d::ds) M2
def ak5(m:Mo->List Dat->bf Dat)(as:GA):GF:=λM Z=>(as M Z).bind λds M1=>m M1 ds
def ajv(m:Mo->List Dat->Out Dat)(as:GA):GF:=λM Z=>(as M Z).bind λds M1=>(m M1 ds).at M1
section
variable{X:Cx}{aj:aR}{W:WX}{q:Bool}{a b e:Expr}{es:List Expr}{pos p:Pos}
variable{x:Str}{k:Nat}{f:Addr}{fd:FuncData}{ps:List Str}
def amR(a:GT):GT:=λM Z=>(a M Z).bind λb M1=>.ok (!b) M1
def amV(a b:GT):GT:=λM Z=>(a M Z).bind λx M1=>if x=true then b M1 Z else .ok false M1
def anw(a b:GT):GT:=λM Z=>(a M Z).bind λx M1=>if x=true then .ok true M1 else b M1 Z
def amE(a:GF):GT:=λM Z=>(a M Z).bind λd M1=>(Jx d).at M1
end
section
variable{aj:aR}{c:Tc}{X:Cx}{W:WX}{k:Nat}{t:Tr}{s:Ts}{q:Bool}
def xG(t:Tr)(s:Ts)(c:Tc):Expr->Option GF
 |.Call (.Name x _) [] [] _=>(match c.G.lookup x with
  |some (.cls 0 m)=>gd (HW c.sc x&&!GZ x) (some (BW x m au))
  |_=>none)
 |.Call (.Name x _) (e::es) [] _=>(match c.G.lookup x with
  |some (.fg n m)=>gd (HW c.sc x&&(!GZ x&&decide ((e::es).length=n))) ((Kf t c (e::es)).bind λas=>some (Jz m as))
  |some (.cls n m)=>gd (HW c.sc x&&(!GZ x&&decide ((e::es).length=n))) ((Kf t c (e::es)).bind λas=>some (BW x m as))
  |_=>none)
 |.Call (.Attribute o m apos) es [] pos=>(c.hs.Ms.lookup m).bind λtb=>(t.W c o).bind λfo=>(Kf t c es).bind λas=>
  gd (tbN tb (es.length+1)&&(baseOk o&&(decide (es.length < 30)&&(apos.endLine==pos.line)))) (some (cU tb fo as))
 |_=>none
theorem alY(o:t.Ok)(os:s.Ok false)(a:wH aj c X W k){e:Expr}{f:GF}(h:xG t s c e=some f):GE aj X W false e f:=by
 unfold xG at h;split at h
 ·split at h
  ·next m hl=>
   obtain⟨hb,h⟩:=aX.mp h;cases h;simp only[arH,arX]at hb;exact ahU a.rm (a.gl _ _ hl) (uE a.toAmb hb.1) (uI hb.2).1
  ·cases h
 ·split at h
  ·next n m hl=>
   obtain⟨hb,h⟩:=aX.mp h;simp only[arH,arX,ate]at hb;obtain⟨b1,b2,b3⟩:=hb;obtain⟨fa,hm,hk,fd,ps,j,hj,hp,hB,F⟩:=a.gl _ _ hl;obtain⟨as,h1,h⟩:=arF.mp h;cases h;obtain⟨i1,i2,i3⟩:=vK o a.toAmb h1;exact ahR a.tk F (a.rm.mono hj) (uE a.toAmb b1) hm hk hB i1 (b3.trans hp.symm) (uI b2).1 i2 i3
  ·next n m hl=>
   obtain⟨hb,h⟩:=aX.mp h;simp only[arH,arX,ate]at hb;obtain⟨b1,b2,b3⟩:=hb;obtain⟨as,h1,h⟩:=arF.mp h;cases h;obtain⟨i1,i2,i3⟩:=vK o a.toAmb h1;exact ajp a.rm (a.gl _ _ hl) (uE a.toAmb b1) (uI b2).1 i1 i2 (λM Z ds z=>by rw[i3 M Z ds z];exact b3)
  ·cases h
 ·next b m apos es pos=>
  obtain⟨tb,h1,h⟩:=arF.mp h;obtain⟨fo,h2,h⟩:=arF.mp h;obtain⟨as,h3,h⟩:=arF.mp h;obtain⟨hb,h⟩:=aX.mp h;cases h;simp only[arH,ate]at hb;obtain⟨b2,b3,b4,b5⟩:=hb;obtain⟨i1,i2,i3⟩:=vK o a.toAmb h3;cases es with
  |nil=>
   cases h3;exact afZ a.tk a.rm (Yp a.toAmb h1 b2) (o.ow a.toAmb h2) b3 b5
  |cons e es=>exact ahI a.tk a.rm (Yp a.toAmb h1 b2) (o.ow a.toAmb h2) i1 i3 b3 i2 b5 b4
 ·cases h
end
section
variable{aj:aR}{c:Tc}{X:Cx}{W:WX}{k:Nat}{t:Tr}{s:Ts}{q:Bool}
theorem Jv{e o:Expr}{f:Str}{p:Pos}{l:Nat}{env:PySem.Env}:swapsWith e (some (.Attribute o f p)) l env=pure false:=by cases e<;>rfl
theorem afX{e o:Expr}{i:Expr}{p:Pos}{l:Nat}{env:PySem.Env}:swapsWith e (some (.Subscript o i p)) l env=pure false:=by cases e<;>rfl
theorem afF{o:Expr}{f:Str}{p spos:Pos}{i:Expr}{env:PySem.Env}(h:QK i=false):∀v,assign (.Subscript (.Attribute o f p) i spos) env v=(do
   let ov ←holding [v] (eval (.Attribute o f p) env)
   let iv ←holding [v,ov] (eval i env)
   standAt spos
   holding [v,ov,iv] (setItem ov iv v)
   release [v,ov,iv] []):=λv=>by
 cases i<;>first | (with_unfolding_all rfl) | cases h
def ajc(t:Tr)(c:Tc)(kx tg iter:Expr)(scope:Scope):Option (Mo->Env->Out (List (Dat×Dat))):=
 (t.I c false tg iter).bind λit=>(Rq (c.inn scope) tg).bind λjt=>(t.E (c.inn scope) kx).bind λte=>
  gd (blkC c.N c.sc scope (nJ tg jt.1)&&(Ln jt.1 ((nJ tg jt.1).map (·.2))&&!yL iter)) (some (qDc it jt.2 ((nJ tg jt.1).map (·.2)) te))
theorem afS(a:Amb aj c X W k):X.A.units+64 < cLine:=by have:=a.rm.un;omega
def agl(t:Tr)(s:Ts)(c:Tc)(o:Expr)(f:Str):Expr->Option SF
 |.Dict [] [] _=>(t.W c o).bind λfo=>(c.hs.df.lookup f).bind λb=>some (Nu c.hs.ft fo f b)
 |.DictComp kx (.Constant (.bool true) _ _) [⟨tg,iter,[],0⟩] scope _=>(t.W c o).bind λfo=>(ajc t c kx tg iter scope).bind λfe=>some (T7 c.hs.ft fo f fe)
 |.List es p=>(t.W c o).bind λfo=>(trN t c (.List es p)).bind λfe=>some (Fl c.hs.ft fo f fe)
 |e=>gd (!Dq e) ((t.W c o).bind λfo=>(s.G c e).bind λfe=>some (uN c.hs.ft fo f fe))
theorem ahG(ot:t.Ok)(os:s.Ok false)(a:wH aj c X W k){o e:Expr}{f:Str}{p pos:Pos}{sf:SF}(h:agl t s c o f e=some sf):SE aj X W false (.Assign [.Attribute o f p] e pos) sf:=by
 have hk:=a.hk;unfold agl at h;split at h
 ·obtain⟨fo,h1,h⟩:=arF.mp h;obtain⟨b,h2,h⟩:=arF.mp h;cases h;exact aiy hk.co hk.fk hk.hw (ot.ow a.toAmb h1) Jv
 ·obtain⟨fo,h1,h⟩:=arF.mp h;obtain⟨fe,h2,h⟩:=arF.mp h;cases h;unfold ajc at h2;obtain⟨it,i1,h2⟩:=arF.mp h2;obtain⟨⟨js,tf⟩,i2,h2⟩:=arF.mp h2;obtain⟨te,i3,h2⟩:=arF.mp h2;obtain⟨hb,h2⟩:=aX.mp h2;cases h2;simp only[arH,arX]at hb;obtain⟨b1,b2,b3⟩:=hb;exact ahV hk.co hk.fk (ot.ow a.toAmb h1) (ak7 (g:=yI X.K aj js tf) (tk:=tQ X.K aj WF te) a.calm a.nd (afS a.toAmb) (ot.oi a.toAmb i1) (blkOk_by (by rw[a.hN,a.hs];exact b1)) (λs H C cl fp=>uH (a.toAmb.inn _ s H C cl fp) i2) (λs H C cl fp=>ot.oe (a.toAmb.inn _ s H C cl fp) i3) (qw b3)) (λσ H Q z=>amS hk.hw (oJ b2) σ H Q z) Jv
 ·obtain⟨fo,h1,h⟩:=arF.mp h;obtain⟨fe,h2,h⟩:=arF.mp h;cases h;exact aiI hk.co hk.fk (ot.ow a.toAmb h1) (aef ot a.toAmb h2).1 Jv
 ·obtain⟨hc,h⟩:=aX.mp h;obtain⟨fo,h1,h⟩:=arF.mp h;obtain⟨fe,h2,h⟩:=arF.mp h;cases h;exact aij hk.co hk.fk (ot.ow a.toAmb h1) (os.og a h2) Jv
def Z7(n:Str):List Expr->Option (List Str)
 |[]=>some []
 |.Attribute (.Name m _) f _::es=>gd (m==n) ((Z7 n es).bind λfs=>some (f::fs))
 |_=>none
def acM(nm:Option Str):Expr->Option Fb
 |.Constant (.str x) _ _=>some (.con (.str x))
 |.Constant .none _ _=>some (.con .none)
 |.Tuple [] _ _=>some (.con (.tuple []))
 |.Attribute (.Name m _) f _=>nm.bind λn=>gd (m==n) (some (.fld f))
 |.Tuple es _ _=>nm.bind λn=>(Z7 n es).bind λfs=>some (.flds fs)
 |_=>none
def Fb.fs:Fb->List Str
 |.con _=>[]
 |.fld f=>[f]
 |.flds fs=>fs
def ac0(c:Tc)(nm:Option Str):List Stmt->Option (List (Nat×Fb))
 |[]=>some []
 |.Assign [.Name x _] e _::r=>(vR c x).bind λj=>(acM nm e).bind λse=>(ac0 c nm r).bind λst=>some ((j,se)::st)
 |_=>none
def Vq(c:Tc):Option Str->Option (Option Nat)
 |none=>some none
 |some n=>(Gx c n).bind λi=>match c.sc.names.lookup n with
  |some .local=>some (some i)
  |_=>none
def alE(c:Tc):ExceptHandler->Option Hd
 |.ExceptHandler (some (.Name y _)) nm (s0::su) _=>(c.hs.xm.lookup y).bind λtab=>(Vq c nm).bind λi=>(ac0 c nm (s0::su)).bind λst=>
  (match c.G.lookup y with
  |some .exc=>some true
  |some (.exi _)=>some true
  |_=>none).bind λ_=>
  gd (HW c.sc y&&(!GZ y&&(st.all (λp=>match i with
   |some j=>!(j==p.1)
   |none=>true)&&st.all (λp=>p.2.fs.all (λf=>((c.hs.xf.lookup y).getD []).contains f)&&decide (p.2.fs.length<=100))))) (some ⟨y,λx=>tab.lookup x,i,st⟩)
 |_=>none
def Ym(c:Tc):List ExceptHandler->Option (List Hd)
 |[]=>some []
 |h::hs=>(alE c h).bind λd=>(Ym c hs).bind λds=>some (d::ds)
theorem abB{y n:Str}{C:Addr}{a:Addr}{oe:Obj}{cls:Value}{d:Option Addr}{pn:List (Addr×Obj)}{j:Nat}{fl:List Str}(hC:aj y=some C)(T:XfC X.K C)(hno:∀f∈fl,PySem.W.findIn X.K (.ref C) f=some none)(hz:Zc cls d oe)(hf:∃vs,oe.data=.fields vs)(hN:X.N[j]?=some n)(hv:Vis X.env.scope n)(hd:(n==("__debug__" : Str))=false)(hcd:(n==("__classdict__" : Str))=false) :
  ∀{es:List Expr} {fs:List Str},Z7 n es=some fs->(∀f∈fs,f∈fl)->PA (X.suite a ((a,oe)::pn)) es (tUA X.K aj a cls d (some j) λx=>RB y x fs)
 |[],fs,h,_=>by
  cases h;exact aew
 |.Attribute (.Name m p) f p2::es,fs,h,hs=>by
  rw[Z7]at h;obtain⟨hm,h⟩:=aX.mp h;obtain⟨fr,h1,h⟩:=arF.mp h;cases h;cases eq_of_beq hm;exact ahu (aek hC T (hno f (hs f arM)) hz hf hN hv hd hcd) (abB hC T hno hz hf hN hv hd hcd h1 λf hf=>hs f (arL _ hf)) rfl
theorem ahT{y:Str}{nm:Option Str}{i:Option Nat}{a:Addr}{oe:Obj}{cls:Value}{d:Option Addr}{pn:List (Addr×Obj)}{e:Expr}{se:Fb}(am:Amb aj c X W k)(hi:Vq c nm=some i)(hy:(c.hs.xf.lookup y).getD []=fl)(hfl:∀f∈se.fs,f∈fl)(hl:se.fs.length<=100)(hz:Zc cls d oe)(hf:∃vs,oe.data=.fields vs)(h:acM nm e=some se) :
  PE (X.suite a ((a,oe)::pn)) e (tU X.K aj a cls d i λx=>aad y x se):=by
 have fld:∀n j,nm=some n->i=some j->X.N[j]?=some n/\Vis X.env.scope n/\(n==("__debug__" : Str))=false/\(n==("__classdict__" : Str))=false:=λn j e1 e2=>by
  subst e1 e2;unfold Vq at hi;obtain⟨j',h1,hi⟩:=arF.mp hi;split at hi
  ·cases hi;exact xg am h1
  ·cases hi
 have hsome:∀n,nm=some n->∃j,i=some j:=λn e1=>by
  subst e1;unfold Vq at hi;obtain⟨j',h1,hi⟩:=arF.mp hi;split at hi
  ·cases hi;exact⟨_,rfl⟩
  ·cases hi
 have hxf:fl≠[]->∃C,aj y=some C/\XfC X.K C/\∀f∈fl,PySem.W.findIn X.K (.ref C) f=some none:=λne=>by
  cases hx:c.hs.xf.lookup y with
  |none=>
   rw[hx]at hy;exact absurd hy.symm ne
  |some l=>
   rw[hx]at hy;cases hy;exact am.hk.xf y _ hx
 unfold acM at h;split at h
 ·cases h;exact adp pe_str λσ H Q ⟨g,Z,M,x,z,I,e,kk⟩=>by
   cases e;exact kk _ H (Ex.refl H) (.str _)
 ·cases h;exact adp pe_non λσ H Q ⟨g,Z,M,x,z,I,e,kk⟩=>by
   cases e;exact kk _ H (Ex.refl H) .non
 ·cases h;exact PE.weak (adf (aj:=aj) (cls:=cls) (d:=d) (i:=i) aew λx zs e=>by cases e;exact asz _) λσ H Q z=>z
 ·obtain⟨n,e1,h⟩:=arF.mp h;obtain⟨hm,h⟩:=aX.mp h;cases h;cases eq_of_beq hm;obtain⟨j,rfl⟩:=hsome _ e1;obtain⟨f1,f2,f3,f4⟩:=fld _ j e1 rfl;obtain⟨C,c1,c2,c3⟩:=hxf (List.ne_nil_of_mem (hfl _ (arO.mpr rfl)));exact aek c1 c2 (c3 _ (hfl _ (arO.mpr rfl))) hz hf f1 f2 f3 f4
 ·next es _ _ hne=>
  obtain⟨n,e1,h⟩:=arF.mp h;obtain⟨fs,e2,h⟩:=arF.mp h;cases h;obtain⟨j,rfl⟩:=hsome _ e1;obtain⟨f1,f2,f3,f4⟩:=fld _ j e1 rfl;have hfs:fs≠[]:=λz=>by
   subst z
   match es,e2 with
   |[],_=>exact hne rfl
   |.Attribute (.Name m _) f _::es,e2=>
    rw[Z7]at e2;obtain⟨_,e2⟩:=aX.mp e2;obtain⟨_,_,e2⟩:=arF.mp e2;cases e2
  have hfn:fl≠[]:=by
   cases fs with
   |nil=>exact absurd rfl hfs
   |cons f r=>exact List.ne_nil_of_mem (hfl f arM)
  obtain⟨C,c1,c2,c3⟩:=hxf hfn;exact adf (abB c1 c2 c3 hz hf f1 f2 f3 f4 e2 hfl) λx zs e=>by
   have:=Wf e;have hl:fs.length<=100:=hl;omega
 ·cases h
theorem Uj{y:Str}{nm:Option Str}{i:Option Nat}{a:Addr}{oe:Obj}{cls:Value}{d:Option Addr}{pn:List (Addr×Obj)}{fl:List Str}(am:Amb aj c X W k)(hi:Vq c nm=some i)(hy:(c.hs.xf.lookup y).getD []=fl)(hz:Zc cls d oe)(hf:∃vs,oe.data=.fields vs) :
  ∀{ss:List Stmt} {st:List (Nat×Fb)},ac0 c nm ss=some st->(∀p∈st,(∀f∈p.2.fs,f∈fl)/\p.2.fs.length<=100)->PSs (X.suite a ((a,oe)::pn)) ss (tSu X.K aj a cls d i y st)
 |[],st,h,_=>by
  cases h;exact PSs.weak pss_nil λD σ H z=>alu z
 |.Assign [.Name x p] e p2::r,st,h,hs=>by
  rw[ac0]at h;obtain⟨j,h1,h⟩:=arF.mp h;obtain⟨se,h2,h⟩:=arF.mp h;obtain⟨st',h3,h⟩:=arF.mp h;cases h;obtain⟨s1,s2,s3⟩:=nO am h1;obtain⟨u1,u2⟩:=hs (j,se) arM;have he:=ahT (a:=a) (pn:=pn) am hi hy u1 u2 hz hf h2;have hne:Dq e=false/\swappedStores [.Name x p] e X.env=pure none:=by unfold acM at h2;split at h2<;>first | exact⟨rfl,rfl⟩ | cases h2
  refine PSs.weak (pss_cons (ps_asg he (pg_name (X:=X.suite a ((a,oe)::pn)) am.nd s1 s2 s3) (CZ hne.1) hne.2 (by with_unfolding_all rfl)) (Uj am hi hy hz hf h3 λp hp=>hs p (arL _ hp))) λD σ H z=>?_;exact alN z λσ' H' z'=>z'
def an5(aj:aR)(K:arG)(h:Hd)(D:Addr):Cl:=⟨.ref D,h.nm,λa cls d=>tSu K aj a cls d h.nm h.y h.st⟩
theorem Yv(am:Amb aj c X W k):∀{hds:List ExceptHandler} {hs:List Hd},Ym c hds=some hs->∃ls,Cu X hds ls/\Hg X.K aj hs ls
 |[],hs,h=>by
  cases h;exact⟨[],.nil,.nil⟩
 |h0::hds,hs,h=>by
  rw[Ym]at h;obtain⟨d,h1,h⟩:=arF.mp h;obtain⟨ds,h2,h⟩:=arF.mp h;cases h;obtain⟨ls,i1,i2⟩:=Yv am h2;unfold alE at h1;split at h1
  ·next y np nm s0 su cp=>
   obtain⟨tab,j1,h1⟩:=arF.mp h1;obtain⟨i,j2,h1⟩:=arF.mp h1;obtain⟨st,j3,h1⟩:=arF.mp h1;obtain⟨_,j4,h1⟩:=arF.mp h1;obtain⟨hb,h1⟩:=aX.mp h1;cases h1;simp only[arH,arX]at hb;obtain⟨b1,b2,b3,b4⟩:=hb;obtain⟨⟨D,hD⟩,hx⟩:=am.hk.xm y tab j1;have hm:X.mg y=some (.ref D):=by
    split at j4
    ·next hl=>
     obtain⟨C,g1,g2,_⟩:=am.gl y _ hl;rw[hD]at g2;cases g2;exact g1
    ·next hl=>
     obtain⟨C,fI,fd,ps,g1,g2,_⟩:=am.gl y _ hl;rw[hD]at g2;cases g2;exact g1
    ·cases j4
   have hnames:Names X y (.ref D):=⟨uE am b1,(uI b2).1,.inl hm⟩;have hst:∀p∈st,(∀f∈p.2.fs,f∈(c.hs.xf.lookup y).getD [])/\p.2.fs.length<=100:=λp hp=>by
    have:=ar7.mp b4 p hp;rw[arH,ate]at this;exact⟨λf hf=>by simpa using ar7.mp this.1 f hf,this.2⟩
   have hnj:∀p∈st,i≠some p.1:=λp hp z=>by
    subst z;have:=ar7.mp b3 p hp;simp at this
   refine⟨an5 aj X.K ⟨y,λx=>tab.lookup x,i,st⟩ D::ls,?_,.cons ⟨⟨D,hD,rfl⟩,hx,rfl,rfl,hnj⟩ i2⟩;cases nm with
   |none=>
    cases j2;exact .one hnames rfl (λa oe cls d pn hz hf=>Uj am rfl rfl hz hf j3 hst) i1
   |some n=>
    have j2':=j2;unfold Vq at j2;obtain⟨i',s1,j2⟩:=arF.mp j2;split at j2
    ·next hloc=>
     cases j2;refine .as hnames rfl (xg am s1).1 ?_ (λa oe cls d pn hz hf=>Uj am j2' rfl hz hf j3 hst) i1;unfold PySem.Env.kindOf;rw[am.hs];exact hloc
    ·cases j2
  ·cases h1
theorem wH.tr(a:wH aj c X W k){W':WX}{pn:List (Addr×Obj)}{xe:Value->Shared->Prop}(t:Takes (X.tr pn xe) W')(p:PassesOwn (model X.prog X.w) X.A X.env xe):wH aj c (X.tr pn xe) W' k where
 hN:=a.hN
 hs:=a.hs
 calm:=a.calm
 nd:=a.nd
 tk:=t
 rm:=a.rm
 gl:=a.gl
 bl:=a.bl
 fn:=a.fn
 hk:=a.hk
 ps:=p
 st:=a.st
 fr:=a.fr
 kf:=a.kf
def xS(q:Bool)(t:Tr)(s:Ts)(c:Tc):Stmt->Option SF
 |.Raise (some (.Call (.Name x _) [] [] _)) none _=>(match c.G.lookup x with
  |some .exc=>gd (HW c.sc x&&!GZ x) (some (eX x))
  |_=>none)
 |.Raise (some (.Call (.Name x _) (e::es) [] _)) none _=>(match c.G.lookup x with
  |some (.exi fs)=>(Kf t c (e::es)).bind λas=>gd (HW c.sc x&&(!GZ x&&(decide ((e::es).length=fs.length)&&decide (fs.length<=1000)))) (some (CG x fs as))
  |_=>none)
 |.Try body (h::hds) [] [] _=>(s.B c body).bind λf=>(Ym c (h::hds)).bind λhs=>some (YW f hs)
 |.Pass _=>some aV
 |.Expr (.Call (.Attribute (.Attribute o f p1) m apos) [e] [] pos) epos=>(match q with
  |true=>(s.G c (.Call (.Attribute (.Attribute o f p1) m apos) [e] [] pos)).bind λf=>some (cG f)
  |false=>match m=="append" with
   |true=>gd (baseOk o&&(nst e&&(apos.endLine==pos.line))) ((t.W c o).bind λfo=>(s.G c e).bind λfe=>some (Fj f fo fe))
   |false=>(s.G c (.Call (.Attribute (.Attribute o f p1) m apos) [e] [] pos)).bind λf=>some (cG f))
 |.Expr e _=>gd (!Dq e) ((s.G c e).bind λf=>some (cG f))
 |.Assign [.Name x p] (.ListComp elt [⟨tg,iter,ifs,0⟩,⟨tg1,iter1,ifs1,0⟩] scope cpos) _=>(vR c x).bind λj=>
  gd (swB c.sc (.ListComp elt [⟨tg,iter,ifs,0⟩,⟨tg1,iter1,ifs1,0⟩] scope cpos) scope x p&&!c.ml.contains x) ((Sh t c elt tg iter ifs tg1 iter1 ifs1 scope).bind λf=>some (bF (aG j) (gOf f)))
 |.Assign [.Attribute o f _] e _=>(match q with
  |true=>none
  |false=>agl t s c o f e)
 |.Assign [.Subscript (.Attribute o f _) i _] e _=>(match q with
  |true=>none
  |false=>gd (baseOk o&&(!QK i&&!Dq e)) ((t.W c o).bind λfo=>(t.E c i).bind λfi=>(t.E c e).bind λfe=>match c.hs.df.lookup f with
   |some _=>some (Nv f fo fi fe)
   |none=>some (Ra f fo fi fe)))
 |.AugAssign (.Attribute o f _) .Add e _=>(match q with
  |true=>none
  |false=>(t.W c o).bind λfo=>(t.E c e).bind λfe=>some (Ry c.hs.ft f fo fe))
 |.Delete [.Subscript (.Attribute o f _) i _] _=>(match q with
  |true=>none
  |false=>gd (baseOk o) ((t.W c o).bind λfo=>(t.E c i).bind λfi=>some (Nq f fo fi)))
 |_=>none
theorem amw(o:t.Ok)(os:s.Ok q)(a:wH aj c X W k){st:Stmt}{f:SF}(h:xS q t s c st=some f):SE aj X W q st f:=by
 have hk:=a.hk;unfold xS at h;split at h
 ·split at h
  ·next hl=>
   obtain⟨hb,h⟩:=aX.mp h;cases h;simp only[arH,arX]at hb;exact agu a.calm a.tk (uE a.toAmb hb.1) (uI hb.2).1 (a.gl _ _ hl)
  ·cases h
 ·split at h
  ·next fs hl=>
   obtain⟨as,h1,h⟩:=arF.mp h;obtain⟨hb,h⟩:=aX.mp h;cases h;simp only[arH,arX,ate]at hb;obtain⟨b1,b2,b3,b4⟩:=hb;obtain⟨i1,i2,i3⟩:=vK o a.toAmb h1;exact aec a.calm a.tk a.rm (uE a.toAmb b1) (uI b2).1 (a.gl _ _ hl) i1 i2 (λM Z ds z=>by rw[i3 M Z ds z];exact b3) b4
  ·cases h
 ·obtain⟨f1,h1,h⟩:=arF.mp h;obtain⟨hs,h2,h⟩:=arF.mp h;cases h;obtain⟨ls,i1,i2⟩:=Yv a.toAmb h2;exact alH a.st a.fr a.nd a.tk (λW' pn xe t p=>os.ob (a.tr t p) h1) i1 i2
 ·cases h;exact PS.weak ps_pass λD σ H ⟨g,Z,M,I,z⟩=>z σ H g .refl I
 ·split at h
  ·obtain⟨f1,h1,h⟩:=arF.mp h;cases h;exact Vk (os.og a h1) (Ht rfl)
  ·split at h
   ·next hm=>
    obtain⟨hb,h⟩:=aX.mp h;obtain⟨fo,h1,h⟩:=arF.mp h;obtain⟨fe,h2,h⟩:=arF.mp h;cases h;simp only[arH]at hb;cases eq_of_beq hm;exact ahj hk.co (o.ow a.toAmb h1) hb.1 (os.og a h2) hb.2.1 hb.2.2
   ·obtain⟨f1,h1,h⟩:=arF.mp h;cases h;exact Vk (os.og a h1) (Ht rfl)
 ·obtain⟨hb,h⟩:=aX.mp h;obtain⟨f1,h1,h⟩:=arF.mp h;cases h;exact Vk (os.og a h1) (Ht (by simpa using hb))
 ·obtain⟨j,hj,h⟩:=arF.mp h;obtain⟨hsw,h⟩:=aX.mp h;rw[arH]at hsw;obtain⟨f1,h1,h⟩:=arF.mp h;cases h;obtain⟨s1,s2,s3⟩:=nO a.toAmb hj;have hsw:=hsw.1;rw[←a.hs]at hsw;have l1:=(Uc (l:=0) a.kf hsw).1;have l2:=λl=>(Uc (l:=l) a.kf hsw).2;clear h;unfold Sh at h1;obtain⟨it,g1,h⟩:=arF.mp h1;obtain⟨⟨js,tf⟩,h2,h⟩:=arF.mp h;obtain⟨tt,h3,h⟩:=arF.mp h;obtain⟨it1,h4,h⟩:=arF.mp h;obtain⟨⟨js1,tf1⟩,h5,h⟩:=arF.mp h;obtain⟨tt1,h6,h⟩:=arF.mp h;obtain⟨te,h7,h⟩:=arF.mp h;obtain⟨hb,h⟩:=aX.mp h;cases h;simp only[arH,arX]at hb;obtain⟨b1,b2,b3,b4,b5,b6⟩:=hb;have am:=a.toAmb;exact ahg a.calm a.nd s1 l1 (l2 _) (o.oi am g1) (by rw[a.hN,a.hs];exact b1) (oJ b2) (oJ b3) (oJ b4) (λs H C cl fp=>uH (am.inn _ s H C cl fp) h2) (λs H C cl fp=>vh o (am.inn _ s H C cl fp) h3) (λs H C cl fp=>o.oi (am.inn _ s H C cl fp) h4) (λs H C cl fp=>uH (am.inn _ s H C cl fp) h5) (λs H C cl fp=>vh o (am.inn _ s H C cl fp) h6) (λs H C cl fp=>o.oe (am.inn _ s H C cl fp) h7) (qw b5) (λenv=>qw b6)
 ·split at h
  ·cases h
  ·exact ahG o os a h
 ·split at h
  ·cases h
  ·obtain⟨hb,h⟩:=aX.mp h;obtain⟨fo,h1,h⟩:=arF.mp h;obtain⟨fi,h2,h⟩:=arF.mp h;obtain⟨fe,h3,h⟩:=arF.mp h;simp only[arH,arX]at hb;obtain⟨b1,b2,b3⟩:=hb;split at h
   ·cases h;exact aib hk.co hk.hw (afS a.toAmb) (o.ow a.toAmb h1) b1 (o.oe a.toAmb h2) (o.oe a.toAmb h3) afX
   ·cases h;exact ahO hk.co (o.ow a.toAmb h1) b1 (o.oe a.toAmb h3) (o.oe a.toAmb h2) (afF b2) (CZ b3) (by with_unfolding_all rfl)
 ·split at h
  ·cases h
  ·obtain⟨fo,h1,h⟩:=arF.mp h;obtain⟨fe,h2,h⟩:=arF.mp h;cases h;exact aif hk.co hk.fk (o.ow a.toAmb h1) (o.oe a.toAmb h2)
 ·split at h
  ·cases h
  ·obtain⟨hb,h⟩:=aX.mp h;obtain⟨fo,h1,h⟩:=arF.mp h;obtain⟨fi,h2,h⟩:=arF.mp h;cases h;exact ain hk.co hk.hw (afS a.toAmb) (o.ow a.toAmb h1) hb (o.oe a.toAmb h2)
 ·cases h
end
def tr0:Tr:=⟨λ_ _=>none,λ_ _=>none,λ_ _=>none,λ_ _ _ _=>none⟩
def akK(t:Tr):Tr:=⟨xtE t,xtW t,xtT t,xtI t⟩
def tr:Nat->Tr
 |0=>tr0
 |n+1=>akK (tr n)
theorem Af:∀n,(tr n).Ok
 |0=>⟨λ_=>(by intro _ _ h;cases h),λ_=>(by intro _ _ h;cases h),λ_=>(by intro _ _ h;cases h),λ_=>(by intros;rename_i h;cases h)⟩
 |n+1=>⟨λa=>(by intro _ _ h;exact(wI h).elim (amj (Af n) a) (akm (Af n) a)),λa=>(by intro _ _ h;exact(wI h).elim (al7 (Af n) a) (ajT (Af n) a)),λa=>(by intro _ _ h;exact(wI h).elim (amH (Af n) a) (ake (Af n) a)),λa=>(by intro _ _ _ _ h;exact(wI h).elim (amD (Af n) a) (ajl (Af n) a))⟩
def ts0:Ts:=⟨λ_ _=>none,λ_ _=>none,λ_ _=>none,λ_ _=>none⟩
def ldG(q:Bool)(t:Tr)(s:Ts)(c:Tc)(e:Expr):Option GF:=match q with
 |true=>none
 |false=>xG t s c e
def ldH(_:Bool)(_:Ts)(_:Tc)(_:Expr):Option GT:=none
def akB(q:Bool)(t:Tr)(s:Ts):Ts:=⟨λc e=>els ((t.E c e).bind λf=>some (gOf f)) (ldG q t s c e),λc e=>els ((t.T c e).bind λf=>some (aga f)) (ldH q s c e),λc e=>els (stS t s c e) (xS q t s c e),adb s⟩
def ts(q:Bool)(t:Tr):Nat->Ts
 |0=>ts0
 |n+1=>akB q t (ts q t n)
theorem N7{t:Tr}(o:t.Ok)(q:Bool):∀n,(ts q t n).Ok q
 |0=>⟨λ_=>(by intro _ _ h;cases h),λ_=>(by intro _ _ h;cases h),λ_=>(by intro _ _ h;cases h),λ_=>(by intros;rename_i h;cases h)⟩
 |n+1=>⟨λa=>by
   intro _ _ h;rcases wI h with h|h
   ·obtain⟨f,h1,h⟩:=arF.mp h;cases h;exact agU (o.oe a.toAmb h1)
   ·cases q with
    |true=>cases h
    |false=>exact alY o (N7 o false n) a h,λa=>by
   intro _ _ h;rcases wI h with h|h
   ·obtain⟨f,h1,h⟩:=arF.mp h;cases h;exact amG (o.ot a.toAmb h1)
   ·(cases h),λa=>by
   intro _ _ h;rcases wI h with h|h
   ·exact alC o (N7 o q n) a h
   ·exact amw o (N7 o q n) a h,λa=>by
   intro _ _ h;exact af8 (N7 o q n) a h⟩
def rd(c:Tc)(b:List Stmt):Option SF:=(ts true (tr 40) 60).B c b
def rdG(c:Tc)(b:List Stmt):Option SF:=(ts false (tr 40) 60).B c b
def Dz(P:Program)(w:World)(K:arG)(mg:Str->Option Value)(base:Heap)(aj:aR)(k:Nat):List (Str×GV)->Prop
 |[]=>True
 |(x,v)::r=>bA P w K mg base aj k x v/\Dz P w K mg base aj k r
def DN(mg:Str->Option Value):List Str->Prop
 |[]=>True
 |x::r=>mg x=none/\DN mg r
section
variable{P:Program}{w:World}{K:arG}{mg:Str->Option Value}{base:Heap}{aj:aR}{k:Nat}
theorem Dz.get:∀{G:List (Str×GV)},Dz P w K mg base aj k G->∀x v,G.lookup x=some v->bA P w K mg base aj k x v
 |[],_,x,v,h=>nomatch h
 |(y,u)::r,g,x,v,h=>by
  rw[asj]at h;split at h
  ·next e=>
   cases h;rw[eq_of_beq e];exact g.1
  ·exact g.2.get x v h
theorem DN.get:∀{B:List Str},DN mg B->∀x,x∈B->mg x=none
 |[],_,x,h=>nomatch h
 |y::r,g,x,h=>by
  rcases arV.mp h with rfl|h
  ·exact g.1
  ·exact g.2.get x h
theorem afk{qual:Str}{st:Stmt}{f:Addr}{N ps ml B:List Str}{G:List (Str×GV)}{Ms:Hs}(S:FnScope N ps (defScope st))(g:Dz P w K mg base aj k G)(b:DN mg B)(hh:Um P w K mg base aj k Ms)
  (cdv:Value) (A:Around) (outer:List PySem.Env) (s:Shared) (H:Hp) (E:XK) (hr:Room k (A.deeper (envOfC qual (defScope st) s.heap.objs.size f cdv))) :
  wH aj ⟨N,defScope st,G,B,Ms,ml,true⟩ (cxOf (L2.CX P w) P w K mg base N qual (defScope st) f cdv A outer s H E) (agB E) k where
 hN:=rfl
 hs:=rfl
 calm:=rfl
 nd:=S.nd
 tk:=takes_of rfl rfl rfl rfl
 rm:=hr
 gl:=g.get
 bl:=b.get
 fn:=λ_ _=>rfl
 hk:=hh
 ps:=passes_of rfl
 st:=rfl
 fr:=rfl
 kf:=S.kind
theorem Y4{x qual:Str}{st:Stmt}{f:Addr}{fd:FuncData}{N ps ml B:List Str}{G:List (Str×GV)}{Ms:Hs}{body:SF}(F:Fun K x qual st f fd)(S:FnScope N ps (defScope st))(g:Dz P w K mg base aj k G)(b:DN mg B)(hh:Um P w K mg base aj k Ms)
  (h:rd ⟨N,defScope st,G,B,Ms,ml,true⟩ (defBody st)=some body):FnOk P w K mg base (L2.CX P w) (k+1) f fd ps (Wj K aj ps.length (mQ N.length body)):=
 anq F S λcdv A outer s H E hr=>(N7 (Af 40) true 60).ob (afk S g b hh cdv A outer s H E hr) h
theorem RK{x qual:Str}{st:Stmt}{f:Addr}{fd:FuncData}{N ps ml B:List Str}{G:List (Str×GV)}{Ms:Hs}{body:SF}(F:Fun K x qual st f fd)(S:FnScope N ps (defScope st))(g:Dz P w K mg base aj k G)(b:DN mg B)(hh:Um P w K mg base aj k Ms)
  (h:rdG ⟨N,defScope st,G,B,Ms,ml,true⟩ (defBody st)=some body):FnOk P w K mg base (L2.CX P w) (k+1) f fd ps (Ko K aj ps.length (mG N.length body)):=
 anE F S λcdv A outer s H E hr=>(N7 (Af 40) false 60).ob (afk S g b hh cdv A outer s H E hr) h
theorem ajf{f:Addr}{fd:FuncData}{ps:List Str}{j:Nat}:FnOk P w K mg base (L2.CX P w) j f fd ps (Wj K aj ps.length λ_ _=>.bad):=
 ⟨λvs H Q E h=>h.1,λA outer s H args us vs Q E _ _ _ _ h=>by
  obtain⟨_,g,M,ds,_,_,_,z⟩:=h;exact atd z⟩
theorem afv{x:Str}{f:Addr}{fd:FuncData}{ps:List Str}{j:Nat}{m:Mo->List Dat->Out Dat}(hj:j<=k)(hg:mg x=some (.ref f))(hk:PySem.W.keepIn K (.ref f)=true)(hB:Binds K fd ps [])(F:FnOk P w K mg base (L2.CX P w) j f fd ps (Wj K aj ps.length m)):bA P w K mg base aj k x (.fq ps.length m):=
 ⟨f,hg,hk,fd,ps,j,hj,rfl,hB,F⟩
theorem MK{x:Str}{i:Int}{t:Tok}(h:mg x=some (.int i t)):bA P w K mg base aj k x (.con (.int i)):=⟨.int i,_,h,⟨t,rfl⟩,λ_ _=>.int i⟩
theorem Wt{g:Gh}{H:Hp}:∀{vs:List V} {ds:List Dat},(vs.zip ds).all (λp=>match p with
  |(.int i,.int j)=>decide (i=j)
  |(.str x,.str y)=>decide (x=y)
  |_=>false)=true->vs.length=ds.length->aM K g H vs ds
 |[],[],_,_=>.nil
 |[],_::_,_,h=>nomatch h
 |_::_,[],_,h=>nomatch h
 |v::vs,d::ds,h,hl=>by
  rw[ash,asx,arH]at h;refine .cons ?_ (Wt h.2 (atb hl));have h1:=h.1;split at h1
  ·next e=>cases e;cases atf h1;exact .int _
  ·next e=>cases e;cases atf h1;exact .str _
  ·cases h1
theorem aeR{x:Str}{a:Addr}{vs:List V}{ds:List Dat}(h:mg x=some (.ref a))(q:∀H:Hp,SqT K H a vs)(hf:(vs.zip ds).all (λp=>match p with
  |(.int i,.int j)=>decide (i=j)
  |(.str x,.str y)=>decide (x=y)
  |_=>false)=true) (hl:vs.length=ds.length):bA P w K mg base aj k x (.con (.tuple ds)):=⟨.ref a,_,h,rfl,λ_ H=>.tup (q H) (Wt hf hl)⟩
end
open PySem PySem.Spec PyProof.Rows L2
section
variable{fa:List He.Fa}{fn:List He.DefD}{tb:List He.Tab}{ex:arG->Bool}{w:World}{K:arG}
theorem N8.pK(c:N8 fa fn tb ex w K)(i:Nat){f:He.Fa}(h:fa[i]?=some f:=by rfl):f.ok K=true:=c.t.d.fact i h
theorem N8.Wh(c:N8 fa fn tb ex w K)(i:Nat){d:He.DefD}(h:fn[i]?=some d:=by rfl):∃fd,FunD K d.name d.qual d.params d.body d.scope (d.dvs K) (d.kws K) (He.fAd K d.at_) fd:=c.t.d.def_ i h
theorem Ef{x qual:Str}{st:Stmt}{f:Addr}{fd:FuncData}(F:FunD K x qual (defArgs st) (defBody st) (defScope st) [] [] f fd):L2.Fun K x qual st f fd:=by
 obtain⟨oc,od,dV,kV,doc,pm,an,cdv,ct,osl,e,l,c,hd,_⟩:=F.ex;rcases hd with⟨_,z⟩|⟨z,_⟩
 ·cases z;exact⟨⟨oc,od,kV,doc,pm,an,cdv,ct,osl,e,l,c⟩,F.kp⟩
 ·exact absurd rfl z
end
def g0:Gh:=⟨[],λ_=>none,λ_=>False,λ_=>False⟩
theorem ajL(a:Addr):¬g0.A a:=λz=>by
 rcases z with(z|z)|z|z
 ·cases z
 ·exact z rfl
 ·exact z
 ·exact z
theorem al0{H:Hp}:Kd g0 H:=⟨λa z=>absurd z (ajL a),λa z=>atd z,λa z=>atd z⟩
theorem akU{K:arG}{aj:aR}{H:Hp}(nc:aj ""=none):gD K aj g0 H []:=⟨rfl,λh k a e=>(by cases h<;>cases e),λh a i e=>(by cases h<;>cases e),λh i e=>(by cases h<;>cases e),λh i e=>(by cases h<;>cases e),λh a i e=>(by cases h<;>cases e),λh i e=>(by cases h<;>cases e),nc⟩
theorem Wx{K:arG}{g:Gh}{H:Hp}:∀ns:List Int,aM K g H (ns.map V.int) (ns.map PyData.int)
 |[]=>.nil
 |n::ns=>.cons (.int n) (Wx ns)
theorem alT{K:arG}{H:Hp}{a:Addr}{ns:List Int}(hS:SqL K H a (ns.map V.int)):aM K g0 H [.ref a] [.list (ns.map PyData.int)]:=by
 refine .cons (.lst ?_ (Wx ns)) .nil;rcases hS with h|h
 ·exact .inl ⟨h,ajL a⟩
 ·exact .inr h
theorem amy{K:arG}{aj:aR}(nc:aj ""=none){m:Mo->List Dat->bf Dat}{H:Hp}{a:Addr}{ns:List Int}{M:Mo}(hS:SqL K H a (ns.map V.int))(h:m [] [.list (ns.map PyData.int)]=.ok (.bool true) M):Ko K aj 1 m [.ref a] H (λv _=>v=.bl true) λ_ _ _=>False:=
 ⟨rfl,g0,[],[.list (ns.map PyData.int)],al0,akU nc,alT hS,by
  rw[h];exact λv H' g' _ _ _ r=>by cases r;rfl⟩
section
variable{K:arG}{h:Heap}{mg:Str->Option Value}{w:World}
def pA(w:World)(K:arG)(xs:List Str)(ft:Ft):aR:=⟨λx=>match xs.contains x with
 |true=>some (He.ga K x)
 |false=>none,λc=>(ft.lookup c).getD [],w⟩
theorem Qs{xs:List Str}{ft:Ft}{x:Str}{C:Addr}(e:pA w K xs ft x=some C):C=He.ga K x:=by
 have e:(match xs.contains x with
  |true=>some (He.ga K x)
  |false=>none)=some C:=e
 split at e
 ·exact(arY e).symm
 ·cases e
theorem Dm{xs:List Str}{ft:Ft}{x:Str}(e:xs.contains x=true):pA w K xs ft x=some (He.ga K x):=by
 show(match xs.contains x with
  |true=>some (He.ga K x)
  |false=>none)=_
 rw[e]
theorem aaf{ft:Ft}(hb:LK K ft=true){c:Str}{fs:List Str}(hl:ft.lookup c=some fs):Cls K (He.ga K c)/\∀f∈fs,NoAttr K (He.ga K c) f:=by obtain⟨h1,h2⟩:=He.ba (ar7.mp hb _ (qK hl));exact⟨He.cls_ok h1,λf hf=>He.noat_ok (ar7.mp h2 f hf)⟩
theorem afa{xs:List Str}{ft:Ft}(hb:LK K ft=true):jM K (pA w K xs ft):=λc C f e hf=>by
 have e:=Qs e;subst e;have hf:f∈(ft.lookup c).getD []:=hf;cases hl:ft.lookup c with
 |none=>rw[hl]at hf;cases hf
 |some fs=>
  rw[hl]at hf;obtain⟨h1,h2⟩:=aaf hb hl;exact⟨h1,h2 f hf⟩
theorem agb{xs:List Str}{ft:Ft}:LQ ft (pA w K xs ft):=λc f e=>by
 unfold Ft.has at e;show f∈(ft.lookup c).getD [];split at e
 ·next fs hl=>
  rw[hl];simpa using e
 ·cases e
def xmN(xs:List Str)(xm:List (Str×List (Str×Bool))):Bool:=xm.all λp=>xs.contains p.1
theorem amW{xs:List Str}{ft:Ft}{xm:List (Str×List (Str×Bool))}(hb:xmB K xm=true)(hn:xmN xs xm=true)(y:Str)(tab:List (Str×Bool))(hl:xm.lookup y=some tab):(∃D,pA w K xs ft y=some D)/\ach K (pA w K xs ft) y λx=>tab.lookup x:=by refine⟨⟨_,Dm (ar7.mp hn _ (qK hl))⟩,λx b C e1 e2 D e3=>?_⟩;rw[Qs e2,Qs e3];exact He.exm_ok (ar7.mp (ar7.mp hb _ (qK hl)) _ (qK e1))
theorem aiF{C:Addr}(hb:ajo K C=true):OexC K C:=by
 obtain⟨h1,h2⟩:=He.ba hb;obtain⟨h2,h3⟩:=He.ba h2;obtain⟨h3,h4⟩:=He.ba h3;obtain⟨h4,h5⟩:=He.ba h4;refine⟨?_,He.eqO_ok h2,atf h3,atf h4,h5⟩;split at h1
 ·next t dd cd sl hl=>
  obtain⟨t1,h1⟩:=He.ba h1;split at h1
  ·next C' bm k0 k1 k2 k3 n k5 e1 e2=>
   obtain⟨a1,h1⟩:=He.ba h1;obtain⟨a2,h1⟩:=He.ba h1;obtain⟨a3,h1⟩:=He.ba h1;obtain⟨a4,a5⟩:=He.ba h1;have q1:=atf t1;have q2:=atf a1;have q3:=atf a2;have q4:cd.hasDel=false:=by simpa using a3
   have q5:sl=#[k0,k1,k2,k3,some (.builtin n),k5]:=by rw[←Array.toList_inj];exact e2
   obtain⟨nm,bs,mro,ns,qn,hd,sn,sub,ab,col,hdel⟩:=cd;have e1:mro=.ref C'::bm:=e1;have q4:hdel=false:=q4;have a4:hd=true:=a4;subst q1 q2 q3 q4 q5 e1 a4;exact⟨nm,qn,ns,bs,bm,sn,sub,ab,col,dd,k0,k1,k2,k3,k5,hl,a5⟩
  ·cases h1
 ·cases h1
theorem Ug{x:Str}{fs:List Str}(hb:Uk K x fs=true):OexC K (He.ga K x)/\PySem.W.findIn K (.ref (He.ga K x)) "__init__"=some (some (.ref (He.ma K (He.ga K x) "__init__")))/\PySem.W.typeIn K (.ref (He.ma K (He.ga K x) "__init__"))=some (.type "function")/\XfC K (He.ga K x)/\∀f∈fs,PySem.W.findIn K (.ref (He.ga K x)) f=some none:=by obtain⟨h1,h2⟩:=He.ba hb;obtain⟨h2,h3⟩:=He.ba h2;obtain⟨h3,h4⟩:=He.ba h3;obtain⟨h4,h5⟩:=He.ba h4;exact⟨aiF h1,He.eqO_ok h2,atf h3,xfB_ok h4,λf hf=>He.eqO_ok (ar7.mp h5 f hf)⟩
theorem afM{a:Addr}{xs:List Str}(hb:Yn K a xs=true)(H:Hp):SqT K H a (xs.map V.str):=by
 unfold Yn at hb;split at hb
 ·next c d its n sl hl=>
  obtain⟨h1,h2⟩:=He.ba hb;obtain⟨h3,h4⟩:=He.ba h2;have q1:=atf h1;subst q1;exact .inr ⟨_,its,n,hl,rfl,rfl,atf h3,He.relAll_ok h4⟩
 ·cases hb
def Ae(kvs:List (Str×List Str)):List (Str×Dat):=kvs.map λq=>(q.1,.tuple (q.2.map PyData.str))
theorem Wr{g:Gh}{H:Hp}:∀xs:List Str,aM K g H (xs.map V.str) (xs.map PyData.str)
 |[]=>.nil
 |x::xs=>.cons (.str x) (Wr xs)
theorem Ru{y:Str}:∀{kvs:List (Str×List Str)},(Ae kvs).lookup y=(kvs.lookup y).map λxs=>PyData.tuple (xs.map PyData.str)
 |[]=>rfl
 |(z,xs)::r=>by
  show List.lookup y ((z,PyData.tuple (xs.map PyData.str))::Ae r)=_;rw[asj,asj];split
  ·rfl
  ·exact Ru
theorem look_none{α:Type}{y:Str}:∀{kvs:List (Str×α)},kvs.lookup y=none->y∉kvs.map (·.1)
 |[],_=>by simp
 |(z,a)::r,h=>by
  rw[asj]at h;split at h
  ·cases h
  ·next hn=>
   rw[arK,arV]
   rintro(e|e)
   ·subst e;simp at hn
   ·exact look_none h e
theorem aiU{x:Str}{kvs:List (Str×List Str)}(hb:afT K x kvs=true)(hk:∃es n,KDict K w (He.ga K x) es n):ac1 w K (He.ga K x) (Ae kvs):=by
 obtain⟨h1,h2⟩:=He.ba hb;obtain⟨h2,h3⟩:=He.ba h2;obtain⟨es,n,D⟩:=hk;rw[D.at_]at h1;refine⟨es,n,D,?_,λy=>?_⟩
 ·unfold Ae;rw[asi];exact atf h2
 ·rw[Ru];cases hl:kvs.lookup y with
  |some xs=>
   have h4:=ar7.mp h3 _ (qK hl);show ∃v u,PySem.W.nsIn K (He.ga K x) y=some (some u)/\RelV v u/\∀g H,Rep K g H v (.tuple (xs.map PyData.str));have h4:(match PySem.W.nsIn K (He.ga K x) y with
    |some (some (.ref a))=>Yn K a xs
    |_=>false)=true:=h4
   split at h4
   ·next a he=>exact⟨.ref a,.ref a,he,rfl,λg H=>.tup (afM h4 H) (Wr xs)⟩
   ·cases h4
  |none=>
   show PySem.W.nsIn K (He.ga K x) y=some none;have ny:=look_none hl;unfold PySem.W.nsIn;rw[D.at_];have h1:es.toList.all (λe=>(match e.key with
    |.str y _=>(kvs.map (·.1)).contains y
    |_=>false)&&!e.refKey)=true:=h1
   have f1:es.toList.find? (·.key.isStr y)=none:=by
    rw[List.find?_eq_none];intro e he z;obtain⟨a1,a2⟩:=He.ba (ar7.mp h1 e he);split at a1
    ·next y' tk hy=>
     rw[hy]at z;have z:(y'==y)=true:=z;have e':=eq_of_beq z;subst e';exact ny (by simpa using a1)
    ·cases a1
   have f2:es.toList.any (·.refKey)=false:=by rw[List.any_eq_false];intro e he z;obtain⟨a1,a2⟩:=He.ba (ar7.mp h1 e he);rw[z]at a2;cases a2
   show(match es.toList.find? (·.key.isStr y) with
    |some e=>some (some e.val)
    |none=>if es.toList.any (·.refKey) then none else some none)=some none
   rw[f1,f2];rfl
end
section
variable{P:Program}{w:World}{K:arG}{mg:Str->Option Value}{base:Heap}{k:Nat}{xs:List Str}{ft:Ft}
def Yo(P:Program)(w:World)(K:arG)(mg:Str->Option Value)(base:Heap)(aj:aR)(k:Nat)(m:Str):List (Str×MV)->Prop
 |[]=>True
 |(c,v)::r=>bZ P w K mg base aj k c m v/\Yo P w K mg base aj k m r
def Gk(P:Program)(w:World)(K:arG)(mg:Str->Option Value)(base:Heap)(aj:aR)(k:Nat):List (Str×List (Str×MV))->Prop
 |[]=>True
 |(m,tb)::r=>Yo P w K mg base aj k m tb/\Gk P w K mg base aj k r
theorem Yo.get{aj:aR}{m:Str}:∀{tb:List (Str×MV)},Yo P w K mg base aj k m tb->∀c v,tb.lookup c=some v->bZ P w K mg base aj k c m v
 |[],_,c,v,h=>nomatch h
 |(y,u)::r,g,c,v,h=>by
  rw[asj]at h;split at h
  ·next e=>
   cases h;rw[eq_of_beq e];exact g.1
  ·exact g.2.get c v h
theorem Gk.get{aj:aR}:∀{Ms:List (Str×List (Str×MV))},Gk P w K mg base aj k Ms->∀m tb,Ms.lookup m=some tb->∀c v,tb.lookup c=some v->bZ P w K mg base aj k c m v
 |[],_,m,tb,h=>nomatch h
 |(y,u)::r,g,m,tb,h=>by
  rw[asj]at h;split at h
  ·next e=>
   cases h;rw[eq_of_beq e];exact g.1.get
  ·exact g.2.get m tb h
theorem anF{aj:aR}{x:Str}{f:Addr}{fd:FuncData}{ps:List Str}{j:Nat}{m:Mo->List Dat->bf Dat}(hj:j<=k)(hg:mg x=some (.ref f))(hk:PySem.W.keepIn K (.ref f)=true)(hB:Binds K fd ps [])(F:FnOk P w K mg base (L2.CX P w) j f fd ps (Ko K aj ps.length m)):bA P w K mg base aj k x (.fg ps.length m):=
 ⟨f,hg,hk,fd,ps,j,hj,rfl,hB,F⟩
theorem iY{x:Str}(hn:xs.contains x=true)(hg:mg x=some (.ref (He.ga K x)))(he:(He.Fa.exc x).ok K=true):bA P w K mg base (pA w K xs ft) k x .exc:=by obtain⟨h1,h2,h3,h4⟩:=He.exc_ok he;exact⟨_,hg,Dm hn,h1,h2,h3,h4⟩
theorem aj1{x:Str}{fd:FuncData}{ps:List Str}{j n:Nat}{m:Mo->List Dat->bf Dat}(hj:j+1<=k)(hn:xs.contains x=true)(hg:mg x=some (.ref (He.ga K x)))(hc:Cls K (He.ga K x))(hm:(He.Fa.mkr x).ok K=true)(hp:ps.length=n+1)(hB:Binds K fd ps [])
  (F:FnOk P w K mg base (L2.CX P w) j (He.ma K (He.ga K x) "__init__") fd ps (Ko K (pA w K xs ft) ps.length m)):bA P w K mg base (pA w K xs ft) k x (.cls n m):=
 ⟨_,_,fd,ps,j,hg,Dm hn,hc,He.mkr_ok hm,hj,hp,hB,F⟩
theorem akY{aj:aR}{x:Str}{kvs:List (Str×List Str)}(hg:mg x=some (.ref (He.ga K x)))(hb:afT K x kvs=true)(hk:∃es n,KDict K w (He.ga K x) es n):bA P w K mg base aj k x (.dic (Ae kvs)):=⟨_,hg,aiU hb hk⟩
theorem ak2{x:Str}{fs:List Str}{fd:FuncData}{ps:List Str}(h2:2<=k)(hn:xs.contains x=true)(hg:mg x=some (.ref (He.ga K x)))(ho:Uk K x fs=true)(hp:ps.length=fs.length+1)(hB:Binds K fd ps [])(F:FnOk P w K mg base CX0 1 (He.ma K (He.ga K x) "__init__") fd ps (afY (He.ga K x) fs)):bA P w K mg base (pA w K xs ft) k x (.exi fs):=by obtain⟨h1,h3,h4,_,_⟩:=Ug ho;exact⟨_,_,fd,ps,hg,Dm hn,h1,h3,h4,h2,hp,hB,F⟩
theorem ag9{m:Str}{l:List Str}(hf:l.contains m=false)(z:m∈l):False:=by rw[List.contains_iff_mem.mpr z]at hf;cases hf
theorem anm{c m:Str}{fd:FuncData}{ps:List Str}{j:Nat}{mm:Mo->List Dat->Out Dat}(hj:j<=k)(hn:xs.contains c=true)(hc:Cls K (He.ga K c))(hm:(He.Fa.meth c m).ok K=true)(hf:((ft.lookup c).getD []).contains m=false)(hB:Binds K fd ps [])(F:FnOk P w K mg base (L2.CX P w) j (He.ma K (He.ga K c) m) fd ps (Wj K (pA w K xs ft) ps.length mm)):bZ P w K mg base (pA w K xs ft) k c m (.q ps.length mm):=
 ⟨_,_,Dm hn,hc,He.meth_ok hm,(λz=>ag9 hf z),fd,ps,j,hj,rfl,hB,F⟩
theorem anx{c m:Str}{fd:FuncData}{ps:List Str}{j:Nat}{mm:Mo->List Dat->bf Dat}(hj:j<=k)(hn:xs.contains c=true)(hc:Cls K (He.ga K c))(hm:(He.Fa.meth c m).ok K=true)(hf:((ft.lookup c).getD []).contains m=false)(hB:Binds K fd ps [])(F:FnOk P w K mg base (L2.CX P w) j (He.ma K (He.ga K c) m) fd ps (Ko K (pA w K xs ft) ps.length mm)):bZ P w K mg base (pA w K xs ft) k c m (.g ps.length mm):=
 ⟨_,_,Dm hn,hc,He.meth_ok hm,(λz=>ag9 hf z),fd,ps,j,hj,rfl,hB,F⟩
theorem am1{Ms:List (Str×List (Str×MV))}{xm:List (Str×List (Str×Bool))}{df:List (Str×Bool)}{xf:List (Str×List Str)}(hm:Gk P w K mg base (pA w K xs ft) k Ms)(hb:LK K ft=true)(hx:xmB K xm=true)(hn:xmN xs xm=true)(hf:(xf.all λp=>xs.contains p.1&&Uk K p.1 p.2)=true):Um P w K mg base (pA w K xs ft) k ⟨Ms,ft,xm,df,xf⟩ where
 ms:=hm.get
 fk:=agb
 co:=afa hb
 hw:=rfl
 xm:=amW hx hn
 xf:=λy fs hl=>by
  obtain⟨h1,h2⟩:=He.ba (ar7.mp hf _ (qK hl));obtain⟨_,_,_,h3,h4⟩:=Ug h2;exact⟨_,Dm h1,h3,h4⟩
end
abbrev lI(l:List Int):Dat:=.list (l.map PyData.int)
abbrev aJ(l:List Int):Dat:=.tuple (l.map PyData.int)
theorem fV{tg:fH}{body:SF}{d:Dat}{ds:List Dat}{M M2:Mo}{Z Z1 Z2:Env}(h1:tg d Z=some Z1)(h2:body M Z1=.next Z2 M2):fY tg body (d::ds) M Z=fY tg body ds M2 Z2:=by
 rw[fY,h1]
 show(match body M Z1 with
   |.next Z2 M2=>fY tg body ds M2 Z2
   |.cont Z2 M2=>fY tg body ds M2 Z2
   |.brk Z2 M2=>.next Z2 M2
   |.ret d M2=>.ret d M2
   |.exc x Z2 M2=>.exc x Z2 M2
   |.bad=>.bad)=_
 rw[h2]
theorem fW{α:Type}{tg:fH}{tt:QT}{te:QF}{M:Mo}{Z:Env}(ds:α->Dat)(p:α->Bool)(f:α->Dat):∀(xs:List α),(∀x∈xs,∃Z1,tg (ds x) Z=some Z1/\tt M Z1=.ok (p x)/\(p x=true->te M Z1=.ok (f x)))->cR tg tt te M Z (xs.map ds)=.ok ((xs.filter p).map f)
 |[],_=>rfl
 |x::xs,h=>by
  obtain⟨Z1,h1,h2,h3⟩:=h x arM;have ih:=fW ds p f xs λy hy=>h y (arL _ hy);rw[arK,cR,h1]
  show((yt (tt M Z1)).bind λb=>if b=true then(yt (te M Z1)).bind λy=>(cR tg tt te M Z (xs.map ds)).bind λr=>.ok (y::r) else cR tg tt te M Z (xs.map ds))=_
  rw[h2,ih];cases hp:p x with
  |true=>
   show(if true=true then(yt (te M Z1)).bind λy=>(Out.ok ((xs.filter p).map f)).bind λr=>.ok (y::r) else Out.ok ((xs.filter p).map f))=_
   rw[h3 hp,if_pos rfl,List.filter_cons_of_pos hp];rfl
  |false=>
   show(if false=true then(yt (te M Z1)).bind λy=>(Out.ok ((xs.filter p).map f)).bind λr=>.ok (y::r) else Out.ok ((xs.filter p).map f))=_
   rw[if_neg (by decide),List.filter_cons_of_neg (by rw[hp];decide)]
theorem fu{α:Type}{tg:fH}{te:QF}{M:Mo}{Z:Env}(ds:α->Dat)(f:α->Dat)(xs:List α)(h:∀x∈xs,∃Z1,tg (ds x) Z=some Z1/\te M Z1=.ok (f x)):cR tg iI te M Z (xs.map ds)=.ok (xs.map f):=by
 have:=fW (tt:=iI) ds (λ_=>true) f xs λx hx=>by
  obtain⟨Z1,h1,h2⟩:=h x hx;exact⟨Z1,h1,rfl,λ_=>h2⟩
 rw[this,List.filter_eq_self.mpr (λ_ _=>rfl)]
theorem ahb{i j:Int}(h : -(2 ^ 64) < i/\i < 2 ^ 64):decide (CMul i j)=true:=decide_eq_true (.inl h)
theorem mul_r{i j:Int}(h : -(2 ^ 64) < j/\j < 2 ^ 64):decide (CMul i j)=true:=decide_eq_true (.inr h)
section
variable(M:Mo)(Z:Env)
@[simp]theorem alj (f k:SF):aD f k M Z=match f M Z with
 |.next Z' M'=>k M' Z'
 |o=>o:=rfl
@[simp]theorem aoR:aV M Z=.next Z M:=rfl
@[simp]theorem apZ (tg:fH) (f:GF):bF tg f M Z=(f M Z).then Z λd M'=>match tg d Z with
 |some Z'=>.next Z' M'
 |none=>.bad:=rfl
@[simp]theorem aor (i j:Nat) (f:GF):Ro i j f M Z=(f M Z).then Z λd M'=>.next ((Z.set i (some (.dat d))).set j (some (.dat d))) M':=rfl
@[simp]theorem ev_if (t:QT) (f k:SF):bV t f k M Z=((t M (sU Z)).at M).then Z λc M'=>if c=true then f M' Z else k M' Z:=rfl
@[simp]theorem aph (f:QF):aQ f M Z=((f M (sU Z)).at M).then Z λd M'=>.ret d M':=rfl
@[simp]theorem apl (it:IF) (tg:fH) (body:SF):rA it tg body M Z=((it M Z).at M).then Z λds M'=>fY tg body ds M' Z:=rfl
@[simp]theorem aqT (j:Nat) (f:IF):Gp j f M Z=((f M Z).at M).then Z λxs M'=>.next (Z.set j (some (.mut xs))) M':=rfl
@[simp]theorem ao2 (f:GF):cG f M Z=(f M Z).then Z λ_ M'=>.next Z M':=rfl
@[simp]theorem aqg (j:Nat) (f:QF):Qm j f M Z=match Z[j]? with
 |some (some (.mut xs))=>((f M Z).at M).then Z λd M'=>if xs.length < 100000 then .next (Z.set j (some (.mut (xs++[d])))) M' else .bad
 |_=>.bad:=rfl
@[simp]theorem aoQ (j:Nat) (fi f:QF):TF j fi f M Z=match Z[j]? with
 |some (some (.mut xs))=>((f M Z).at M).then Z λd M'=>((fi M' Z).at M').then Z λi M2=>match i with
  |.int k=>match ixN xs.length k with
   |some n=>.next (Z.set j (some (.mut (xs.set n d)))) M2
   |none=>.bad
  |_=>.bad
 |_=>.bad:=rfl
@[simp]theorem aqJ (j:Nat) (f:QF):Q7 j f M Z=match Z[j]? with
 |some (some (.dat (.int i)))=>((f M Z).at M).then Z λd M'=>match d with
  |.int k=>.next (Z.set j (some (.dat (.int (i+k))))) M'
  |_=>.bad
 |_=>.bad:=rfl
@[simp]theorem aoq (i j:Nat) (f:GF):Yj i j f M Z=(f M Z).then Z λd M'=>match d with
 |.list (d0::ds)=>if ds.length<=16000 then .next ((Z.set i (some (.dat d0))).set j (some (.dat (.list ds)))) M' else .bad
 |.tuple (d0::ds)=>if ds.length<=16000 then .next ((Z.set i (some (.dat d0))).set j (some (.dat (.list ds)))) M' else .bad
 |_=>.bad:=rfl
@[simp]theorem ark (js:List Nat) (as:QA):sPN js as M Z=((as M Z).at M).then Z λds M'=>match uM js ds Z with
 |some Z'=>.next Z' M'
 |none=>.bad:=rfl
@[simp]theorem apG (f:QF):gOf f M Z=(f M Z).at M:=rfl
@[simp]theorem ev_op (o:Dat->Dat->Out Dat) (a b:QF):aA o a b M Z=(a M Z).bind λx=>(b M Z).bind λy=>o x y:=rfl
@[simp]theorem ev_un (o:Dat->Out Dat) (a:QF):eZ o a M Z=(a M Z).bind o:=rfl
@[simp]theorem ev_c (d:Dat):qC d M Z=.ok d:=rfl
@[simp]theorem ev_var (i:Nat):aq i M Z=match Z[i]? with
 |some (some (.dat d))=>.ok d
 |_=>.bad:=rfl
@[simp]theorem aoo (i:Nat):ao i M Z=match Z[i]? with
 |some (some (.dat d))=>.ok d
 |some (some (.mut xs))=>.ok (.list xs)
 |_=>.bad:=rfl
@[simp]theorem apL:au M Z=.ok []:=rfl
@[simp]theorem ao8 (a:QF) (r:QA):ak a r M Z=(a M Z).bind λx=>(r M Z).bind λxs=>.ok (x::xs):=rfl
@[simp]theorem aqs (r:QA):bO r M Z=(r M Z).bind λxs=>Out.when (decide (xs.length<=100000)) (.ok (.tuple xs)):=rfl
@[simp]theorem aqN (r:QA):Dh r M Z=(r M Z).bind λxs=>Out.when (decide (xs.length<=100000)) (.ok (.list xs)):=rfl
@[simp]theorem aqi (a:QF):gY a M Z=(a M Z).bind Jx:=rfl
@[simp]theorem arz (a:QF):bh a M Z=(a M Z).bind Ck:=rfl
@[simp]theorem ao9 (a:QT):jC a M Z=(a M Z).bind λb=>.ok (!b):=rfl
@[simp]theorem aoN (a b:QT):jx a b M Z=(a M Z).bind λx=>if x=true then b M Z else .ok false:=rfl
@[simp]theorem aqt (a b:QT):BL a b M Z=(a M Z).bind λx=>if x=true then .ok true else b M Z:=rfl
@[simp]theorem arv (a:QT):Wn a M Z=(a M Z).bind λb=>.ok (.bool b):=rfl
@[simp]theorem apu (t:QT) (a b:QF):Ua t a b M Z=(t M Z).bind λx=>if x=true then a M Z else b M Z:=rfl
@[simp]theorem ev_is (neg:Bool) (c:Dat) (a:QF):xO neg c a M Z=(a M Z).bind λd=>.ok (.bool (neg ^^ mO c d)):=rfl
@[simp]theorem ev_notV (a:QF):Q9 a M Z=((a M Z).bind Ck).bind λb=>.ok (.bool (!b)):=by
 show(((a M Z).bind Ck).bind λb=>Out.ok (!b)).bind (λb=>Out.ok (PyData.bool b))=_
 cases a M Z with
 |ok d=>cases h:Ck d<;>simp[Out.bind,h]
 |exc x=>rfl
 |bad=>rfl
@[simp]theorem ev_andV (a b:QF):yc a b M Z=(a M Z).bind λd=>(Ck d).bind λx=>if x=true then b M Z else .ok (.bool false):=rfl
@[simp]theorem ev_orV (a b:QF):agD a b M Z=(a M Z).bind λd=>(Ck d).bind λx=>if x=true then .ok (.bool true) else b M Z:=rfl
@[simp]theorem anv (o o':Dat->Dat->Out Dat) (a b c:QF):pq o o' a b c M Z=(a M Z).bind λx=>(b M Z).bind λy=>(o x y).bind λz=>(Ck z).bind λk=>if k=true then(c M Z).bind λw=>(o' y w).bind Ck else .ok false:=rfl
@[simp]theorem ap0 (t:O6) (a:QF):wB t a M Z=(a M Z).bind (xV t):=rfl
@[simp]theorem ara (a:QF) (lo hi:QO):SN a lo hi M Z=(a M Z).bind λd=>(lo M Z).bind λl=>(hi M Z).bind λh=>slD d l h:=rfl
@[simp]theorem arl:DK M Z=.ok none:=rfl
@[simp]theorem aq8 (a:QF):uK a M Z=(a M Z).bind λd=>(Bv d).bind λi=>.ok (some i):=rfl
@[simp]theorem ev_call (m:Mo->List Dat->Out Dat) (as:QA):aU m as M Z=(as M Z).bind λds=>m M ds:=rfl
@[simp]theorem aoh (a:QF):dB a M Z=(a M Z).bind pC:=rfl
@[simp]theorem ang (a:QF):CJ a M Z=(a M Z).bind λd=>(Bv d).bind λn=>Out.when (decide (n<=100000/\-100000<=n)) (.ok (jy 0 n.toNat)):=rfl
@[simp]theorem aoS (k₀:Int) (a:QF):yw k₀ a M Z=(a M Z).bind λd=>(pC d).bind λds=>.ok (pQ k₀ ds):=rfl
@[simp]theorem aq6 (a b:QF):DY a b M Z=(a M Z).bind λd=>(b M Z).bind λe=>(pC d).bind λds=>(pC e).bind λes=>.ok (xZ ds es):=rfl
@[simp]theorem aoz (it:IF) (tg:fH) (vs:List Nat) (tt:QT) (te:QF):eU it tg vs tt te M Z=(it M Z).bind λds=>Out.when (decide (ds.length<=50000)) ((cR tg tt te M (bT Z vs) ds).bind λr=>.ok (.list r)):=rfl
@[simp]theorem aoi (it:IF) (tg:fH) (vs:List Nat) (tt:QT) (te:QF):Bm it tg vs tt te M Z=(it M Z).bind λds=>Out.when (decide (ds.length<=50000)) (cR tg tt te M (bT Z vs) ds):=rfl
@[simp]theorem aqP (f:QA):S9 f M Z=(f M Z).bind λxs=>Out.when (decide (xs.length<=100000)) (.ok xs):=rfl
@[simp]theorem alW (f:QF):Jc f M Z=(f M Z).bind Od:=rfl
@[simp]theorem am6 (j:Nat) (d:Dat):aG j d Z=some (Z.set j (some (.dat d))):=rfl
@[simp]theorem anC (js:List Nat) (ds:List Dat):bx js (.tuple ds) Z=uM js ds Z:=rfl
@[simp]theorem arw (n:Nat) (b:SF) (ds:List Dat):mQ n b M ds=match b M (ini n ds) with
 |.ret d _=>.ok d
 |.next _ _=>.ok .none
 |.exc x _ _=>.exc x
 |_=>.bad:=rfl
@[simp]theorem arA (n:Nat) (b:SF) (ds:List Dat):mG n b M ds=match b M (ini n ds) with
 |.ret d M'=>.ok d M'
 |.next _ M'=>.ok .none M'
 |.exc x _ M'=>.exc x M'
 |_=>.bad:=rfl
end
section
variable(i j:Int)(ds es:List Dat)(b c:Bool)(x y:Str)
@[simp]theorem aoP:gR (.int i) (.int j)=.ok (.int (i+j)):=rfl
@[simp]theorem aop:gR (.list ds) (.list es)=Out.when (decide (ds.length+es.length<=100000)) (.ok (.list (ds++es))):=rfl
@[simp]theorem aov:gR (.tuple ds) (.tuple es)=Out.when (decide (ds.length+es.length<=100000)) (.ok (.tuple (ds++es))):=rfl
@[simp]theorem aqx:lU (.int i) (.int j)=.ok (.int (i - j)):=rfl
@[simp]theorem aqq:Bx (.int i) (.int j)=Out.when (decide (CMul i j)) (.ok (.int (i * j))):=rfl
@[simp]theorem aps:JV (.int i) (.int j)=Out.when (decide (CDiv i j)) (.ok (.int (i / j))):=rfl
@[simp]theorem aq0:mJ (.int i) (.int j)=Out.when (decide (0 < j)) (.ok (.int (i % j))):=rfl
@[simp]theorem ap4:Yr (.int i) (.int j)=Out.when (decide (CPow i j)) (.ok (.int (i ^ j.toNat))):=rfl
@[simp]theorem arf:M8 (.int i) (.int j)=.ok (.bool (decide (i < j))):=rfl
@[simp]theorem aq9:qp (.int i) (.int j)=.ok (.bool (decide (i<=j))):=rfl
@[simp]theorem arp:Tp (.int i) (.int j)=.ok (.bool (decide (j < i))):=rfl
@[simp]theorem aro:geD (.int i) (.int j)=.ok (.bool (decide (j<=i))):=rfl
@[simp]theorem apm:cJ (.int i) (.int j)=.ok (.bool (i==j)):=rfl
@[simp]theorem apM:cJ (.str x) (.str y)=.ok (.bool (x==y)):=rfl
@[simp]theorem ap1:cJ (.bool b) (.bool c)=.ok (.bool (b==c)):=rfl
@[simp]theorem aqu:yU (.int i) (.int j)=.ok (.bool (!(i==j))):=rfl
@[simp]theorem aqC:yU (.str x) (.str y)=.ok (.bool (!(x==y))):=rfl
@[simp]theorem aqm:Vt (.int i)=.ok (.int (-i)):=rfl
@[simp]theorem aom:Jx (.bool b)=.ok b:=rfl
@[simp]theorem ao4:Jx (.list ds)=.ok (!ds.isEmpty):=rfl
@[simp]theorem apb:Jx (.tuple ds)=.ok (!ds.isEmpty):=rfl
@[simp]theorem aqH:Ck (.bool b)=.ok b:=rfl
@[simp]theorem aoB:pJ (.list ds)=.ok (.int ds.length):=rfl
@[simp]theorem aoW:pJ (.tuple ds)=.ok (.int ds.length):=rfl
@[simp]theorem apP:Ui (.int i)=.ok (.int (if i < 0 then -i else i)):=rfl
@[simp]theorem ev_max2:tD (.int i) (.int j)=.ok (.int (if j > i then j else i)):=rfl
@[simp]theorem aox:Jd (.int i) (.int j)=.ok (.int (if j < i then j else i)):=rfl
@[simp]theorem aqU:aW (.list ds) (.int i)=match atI ds i with
  |some d=>.ok d
  |none=>.bad:=rfl
@[simp]theorem aqV:aW (.tuple ds) (.int i)=match atI ds i with
  |some d=>.ok d
  |none=>.bad:=rfl
@[simp]theorem aot:Bv (.int i)=.ok i:=rfl
@[simp]theorem aqB (lo hi:Option Int):slD (.list ds) lo hi=.ok (.list (cutD ds lo hi)):=rfl
@[simp]theorem aqM (lo hi:Option Int):slD (.tuple ds) lo hi=.ok (.tuple (cutD ds lo hi)):=rfl
@[simp]theorem ao5:kE (.list ds)=.ok (.tuple ds):=rfl
@[simp]theorem ao0:kE (.tuple ds)=.ok (.tuple ds):=rfl
@[simp]theorem anM:N6 (.list ds)=.ok (.list ds):=rfl
@[simp]theorem anZ:N6 (.tuple ds)=.ok (.list ds):=rfl
@[simp]theorem aqw:Od (.list ds)=.ok ds:=rfl
@[simp]theorem apt:Od (.tuple ds)=.ok ds:=rfl
@[simp]theorem apW:pC (.list ds)=.ok ds:=rfl
@[simp]theorem apB:pC (.tuple ds)=.ok ds:=rfl
@[simp]theorem aoE (o:Option Cell) (Z:Env):sU (o::Z)=o.map Rh::sU Z:=rfl
@[simp]theorem anG:sU []=[]:=rfl
@[simp]theorem anl (d:Dat):Rh (.dat d)=.dat d:=rfl
@[simp]theorem anQ (ds:List Dat):Rh (.mut ds)=.dat (.list ds):=rfl
@[simp]theorem aoJ (Z:Env):uM [] [] Z=some Z:=rfl
@[simp]theorem aoZ (j:Nat) (js:List Nat) (d:Dat) (Z:Env):uM (j::js) (d::ds) Z=uM js ds (Z.set j (some (.dat d))):=rfl
@[simp]theorem an2 (Z:Env):bT Z []=Z:=rfl
@[simp]theorem aod (Z:Env) (j:Nat) (js:List Nat):bT Z (j::js)=(bT Z js).set j none:=rfl
@[simp]theorem anb {α:Type} (a:α) (l:List α):atI (a::l) 0=some a:=atI_nat (j:=0) rfl
@[simp]theorem aoU (n:Nat):ini n ds=ds.map (λd=>some (.dat d))++List.replicate (n - ds.length) none:=rfl
end
theorem abT{a b:String}:Str.ofString a=Str.ofString b↔a=b:=by
 constructor
 ·intro h;rw[Str.ofString_eq_toList,Str.ofString_eq_toList]at h;have h1:a.toList.map Char.toNat=b.toList.map Char.toNat:=by simpa using h
  have h2:a.toList=b.toList:=by
   refine List.map_inj_right (f:=Char.toNat) (λx y e=>?_) |>.mp h1
   exact Char.ext (UInt32.toNat_inj.mp e)
  exact String.toList_inj.mp h2
 ·rintro rfl;rfl
@[simp]theorem aqD (a b:String):(Str.ofString a=Str.ofString b)=(a=b):=propext abT
@[simp]theorem aoy (a b:String):(Str.ofString a==Str.ofString b)=decide (a=b):=by rw[asV];simp[abT]
@[simp]theorem arx {α:Type} (a b:α) (l:List α):atI (a::b::l) 1=some b:=atI_nat (j:=1) rfl
@[simp]theorem ard {α:Type} (a b c:α) (l:List α):atI (a::b::c::l) 2=some c:=atI_nat (j:=2) rfl
@[simp]theorem ari {α:Type} (a b c d:α) (l:List α):atI (a::b::c::d::l) 3=some d:=atI_nat (j:=3) rfl
@[simp]theorem arq {α:Type} (a b c d e:α) (l:List α):atI (a::b::c::d::e::l) 4=some e:=atI_nat (j:=4) rfl
@[simp]theorem arj {α:Type} (a b c d e f:α) (l:List α):atI (a::b::c::d::e::f::l) 5=some f:=atI_nat (j:=5) rfl
@[simp]theorem arn {α:Type} (a b c d e f g:α) (l:List α):atI (a::b::c::d::e::f::g::l) 6=some g:=atI_nat (j:=6) rfl
@[simp]theorem aoa (s:String):PyData.strOk (Str.ofString s)=true:=by
 rw[Str.ofString_eq_toList];unfold PyData.strOk;simp only[Array.all_eq_true,ate];intro i h;simp only[List.getElem_toArray,List.getElem_map];have:=s.toList[i]'(by simpa using h) |>.valid
 rcases this with z|⟨_,z⟩
 ·show(s.toList[i]'(by simpa using h)).val.toNat < _
  omega
 ·show(s.toList[i]'(by simpa using h)).val.toNat < _
  omega
section
variable(i j:Int)(x y:Str)(d e:Dat)(ds es:List Dat)(b c:Bool)
@[simp]theorem aaF:PyData.eqv (.int i) (.int j)=(i==j):=by simp[PyData.eqv]
@[simp]theorem aqY:PyData.eqv (.str x) (.str y)=(x==y):=by simp[PyData.eqv]
@[simp]theorem apV:PyData.eqv (.bool b) (.bool c)=(b==c):=by simp[PyData.eqv]
@[simp]theorem aqc:PyData.eqv .none .none=true:=by simp[PyData.eqv]
@[simp]theorem Zg:PyData.eqv (.tuple ds) (.tuple es)=PyData.eqvAll ds es:=by simp[PyData.eqv]
@[simp]theorem aqa:PyData.eqv (.list ds) (.list es)=PyData.eqvAll ds es:=by simp[PyData.eqv]
@[simp]theorem aqO:PyData.eqv (.tuple ds) .none=false:=by simp[PyData.eqv]
@[simp]theorem aqz:PyData.eqv .none (.tuple ds)=false:=by simp[PyData.eqv]
@[simp]theorem apk:PyData.eqv (.str x) (.int i)=false:=by simp[PyData.eqv]
@[simp]theorem aqh:PyData.eqv (.int i) (.str x)=false:=by simp[PyData.eqv]
@[simp]theorem ahX:PyData.eqvAll [] []=true:=by simp[PyData.eqvAll]
@[simp]theorem aol:PyData.eqvAll [] (d::ds)=false:=by simp[PyData.eqvAll]
@[simp]theorem ao7:PyData.eqvAll (d::ds) []=false:=by simp[PyData.eqvAll]
@[simp]theorem abC:PyData.eqvAll (d::ds) (e::es)=(PyData.eqv d e&&PyData.eqvAll ds es):=by simp[PyData.eqvAll]
end
@[simp]theorem zX:∀l m:List Int,PyData.eqvAll (l.map PyData.int) (m.map PyData.int)=decide (l=m)
 |[],[]=>by simp
 |[],_::_=>by simp
 |_::_,[]=>by simp
 |a::l,b::m=>by
  rw[arK,arK,abC,zX l m,aaF];by_cases h:a=b<;>by_cases h2:l=m<;>simp[h,h2]
theorem Df{n:Nat}:∀{ds:List Dat},lB n ds=true↔∀d∈ds,okd n d=true
 |[]=>by simp[lB]
 |d::ds=>by simp[lB,Df (ds:=ds)]
@[simp]theorem aiK (n:Nat) (i:Int):okd n (.int i)=true:=by simp[okd]
@[simp]theorem Xk (n:Nat) (l:List Int):lB n (l.map PyData.int)=true:=Df.mpr λd h=>by
 obtain⟨i,_,rfl⟩:=arQ.mp h;simp
def ob(h:Nat):Dat:=obj h
section
variable(M:Mo)(Z:Env)(h:Nat)(f:Str)
@[simp]theorem aon:MJ M f (ob h)=(M[h]?).bind λi=>i.fs.lookup f:=rfl
@[simp]theorem anK (tb:List (Str×MV)):Em tb M (ob h)=(M[h]?).bind λi=>tb.lookup i.cls:=rfl
@[simp]theorem aaz:kh M (ob h)=(M[h]?).bind λi=>match i.cls=="" with
 |true=>none
 |false=>some (h,i):=rfl
@[simp]theorem apT (o:QF):fL f o M Z=(o M Z).bind λd=>match MJ M f d with
 |some (.dat x)=>.ok x
 |_=>.bad:=rfl
@[simp]theorem aoY (o:QF):bK f o M Z=(o M Z).bind λd=>match MJ M f d with
 |some (.dat x)=>.ok x
 |some (.lst _ xs)=>.ok (.list xs)
 |_=>.bad:=rfl
@[simp]theorem ao1 (tb:List (Str×MV)) (o:QF) (as:QA):aO tb o as M Z=(o M Z).bind λd=>match Em tb M d with
 |some (.q _ m)=>(as M Z).bind λds=>m M (d::ds)
 |_=>.bad:=rfl
@[simp]theorem aob (tb:List (Str×MV)) (o:QF) (as:QA):cU tb o as M Z=((o M Z).at M).bind λd _=>match Em tb M d with
 |some (.q _ m)=>((as M Z).at M).bind λds _=>(m M (d::ds)).at M
 |some (.g _ m)=>((as M Z).at M).bind λds _=>m M (d::ds)
 |none=>.bad:=rfl
@[simp]theorem aos (x:Str) (m:Mo->List Dat->bf Dat) (as:QA):BW x m as M Z=((as M Z).at M).bind λds _=>match m (M++[⟨x,[]⟩]) (ob M.length::ds) with
 |.ok .none M'=>.ok (ob M.length) M'
 |_=>.bad:=rfl
@[simp]theorem anI (m:Mo->List Dat->bf Dat) (as:QA):Jz m as M Z=((as M Z).at M).bind λds _=>m M ds:=rfl
@[simp]theorem am9 (m:Mo->List Dat->bf Dat) (as:GA):ak5 m as M Z=(as M Z).bind λds M1=>m M1 ds:=rfl
@[simp]theorem am3 (m:Mo->List Dat->Out Dat) (as:GA):ajv m as M Z=(as M Z).bind λds M1=>(m M1 ds).at M1:=rfl
@[simp]theorem aog:amn M Z=.ok [] M:=rfl
@[simp]theorem ani (a:GF) (r:GA):ajW a r M Z=(a M Z).bind λd M1=>(r M1 Z).bind λds M2=>.ok (d::ds) M2:=rfl
@[simp]theorem aoC (t:QT):aga t M Z=(t M Z).at M:=rfl
@[simp]theorem an8 (a:GT):amR a M Z=(a M Z).bind λb M1=>.ok (!b) M1:=rfl
@[simp]theorem anD (a b:GT):amV a b M Z=(a M Z).bind λx M1=>if x=true then b M1 Z else .ok false M1:=rfl
@[simp]theorem aoG (a b:GT):anw a b M Z=(a M Z).bind λx M1=>if x=true then .ok true M1 else b M1 Z:=rfl
@[simp]theorem aoe (a:GF):amE a M Z=(a M Z).bind λd M1=>(Jx d).at M1:=rfl
@[simp]theorem anR (x:Str):eX x M Z=.exc ⟨x,[]⟩ Z M:=rfl
@[simp]theorem anc (x:Str) (fs:List Str) (as:QA):CG x fs as M Z=((as M Z).at M).then Z λds M'=>.exc ⟨x,(fs.zip ds).reverse⟩ Z M':=rfl
@[simp]theorem aq2 (b:SF) (hs:List Hd):YW b hs M Z=match b M Z with
 |.exc x Z' M'=>hdl hs x Z' M'
 |o=>o:=rfl
@[simp]theorem aok (x:dR):hdl [] x Z M=.exc x Z M:=rfl
@[simp]theorem aoX (h:Hd) (r:List Hd) (x:dR):hdl (h::r) x Z M=match h.tk x.cls with
  |some true=>match acF Z h.nm with
   |true=>match Eh h.y x h.st (Ut Z h.nm) with
    |some Z2=>.next (Ut Z2 h.nm) M
    |none=>.bad
   |false=>.bad
  |some false=>hdl r x Z M
  |none=>.bad:=rfl
@[simp]theorem aoK:Ut Z none=Z:=rfl
@[simp]theorem aoV (i:Nat):Ut Z (some i)=Z.set i none:=rfl
@[simp]theorem anp:acF Z none=true:=rfl
@[simp]theorem anu (i:Nat):acF Z (some i)=decide (i < Z.length):=rfl
@[simp]theorem aqd (y:Str) (x:dR):Eh y x [] Z=some Z:=rfl
@[simp]theorem aqk (y:Str) (x:dR) (j:Nat) (e:Fb) (r:List (Nat×Fb)):Eh y x ((j,e)::r) Z=(aad y x e).bind λd=>Eh y x r (Z.set j (some (.dat d))):=rfl
@[simp]theorem aqI (y:Str) (x:dR) (d:Dat):aad y x (.con d)=some d:=rfl
@[simp]theorem apa (g:GF):iJ g M Z=(g M Z).then Z λd M'=>.ret d M':=rfl
@[simp]theorem ap2 (t:GT) (f k:SF):an7 t f k M Z=(t M Z).then Z λc M'=>if c=true then f M' Z else k M' Z:=rfl
@[simp]theorem anf (a b:QF):CW a b M Z=(a M Z).bind λd=>(b M Z).bind λe=>(Bv d).bind λlo=>(Bv e).bind λn=>Out.when (decide (n<=100000/\-100000<=n/\lo<=100000/\-100000<=lo)) (.ok (jy lo (n - lo).toNat)):=rfl
@[simp]theorem aoA (ft:Ft) (o:QF) (e:GF):uN ft o f e M Z=(e M Z).then Z λd M1=>((o M1 Z).at M1).then Z λod M2=>match kh M2 od with
 |some (h,i)=>match ft.has i.cls f&&decide (i.fs.length < 100) with
  |true=>.next Z (M2.set h (i.put f (.dat d)))
  |false=>.bad
 |none=>.bad:=rfl
@[simp]theorem aoM (ft:Ft) (o:QF) (e:IF):Fl ft o f e M Z=((e M Z).at M).then Z λxs M0=>((o (M0++[⟨"",[]⟩]) Z).at (M0++[⟨"",[]⟩])).then Z λod M2=>match kh M2 od with
 |some (h,i)=>match ft.has i.cls f&&decide (i.fs.length < 100) with
  |true=>.next Z (M2.set h (i.put f (.lst M0.length xs)))
  |false=>.bad
 |none=>.bad:=rfl
@[simp]theorem aoI (ft:Ft) (o:QF) (b:Bool):Nu ft o f b M Z=((o (M++[⟨"",[]⟩]) Z).at (M++[⟨"",[]⟩])).then Z λod M2=>match kh M2 od with
 |some (h,i)=>match ft.has i.cls f&&decide (i.fs.length < 100) with
  |true=>.next Z (M2.set h (i.put f (.dic b [])))
  |false=>.bad
 |none=>.bad:=rfl
@[simp]theorem ao6 (ft:Ft) (o:QF) (e:Mo->Env->Out (List (Dat×Dat))):T7 ft o f e M Z=((e M Z).at M).then Z λkvs _=>((o (M++[⟨"",[]⟩]) Z).at (M++[⟨"",[]⟩])).then Z λod M2=>match kh M2 od with
 |some (h,i)=>match ft.has i.cls f&&decide (i.fs.length < 100) with
  |true=>.next Z (M2.set h (i.put f (.dic true kvs)))
  |false=>.bad
 |none=>.bad:=rfl
@[simp]theorem aoO (o:QF) (e:GF):Fj f o e M Z=((o M Z).at M).then Z λod M0=>match Gf M0 f od with
 |some (_,_,n,_)=>(e M0 Z).then Z λd M1=>match Gf M1 f od with
  |some (h,i,n',xs)=>match n==n'&&decide (xs.length < 100000) with
   |true=>.next Z (M1.set h (i.put f (.lst n (xs++[d]))))
   |false=>.bad
  |none=>.bad
 |none=>.bad:=rfl
@[simp]theorem aoL (o fi e:QF):Ra f o fi e M Z=((e M Z).at M).then Z λd _=>((o M Z).at M).then Z λod _=>match Gf M f od with
 |some (h,i,n,xs)=>((fi M Z).at M).then Z λk _=>match k with
  |.int k=>match ixN xs.length k with
   |some j=>.next Z (M.set h (i.put f (.lst n (xs.set j d))))
   |none=>.bad
  |_=>.bad
 |none=>.bad:=rfl
@[simp]theorem aoF (ft:Ft) (o e:QF):Ry ft f o e M Z=((o M Z).at M).then Z λod _=>match kh M od with
 |some (h,i)=>match i.fs.lookup f,ft.has i.cls f&&decide (i.fs.length < 100) with
  |some (.dat (.int a)),true=>((e M Z).at M).then Z λd _=>match d with
   |.int b=>.next Z (M.set h (i.put f (.dat (.int (a+b)))))
   |_=>.bad
  |_,_=>.bad
 |none=>.bad:=rfl
theorem ahm(d:Dat):Gf M f d=(kh M d).bind λp=>match p.2.fs.lookup f with
 |some (.lst n xs)=>some (p.1,p.2,n,xs)
 |_=>none:=rfl
@[simp]theorem ao3:Gf M f (ob h)=(M[h]?).bind λi=>match i.cls=="" with
 |true=>none
 |false=>match i.fs.lookup f with
  |some (.lst n xs)=>some (h,i,n,xs)
  |_=>none:=by
 rw[ahm,aaz];cases M[h]? with
 |none=>rfl
 |some i=>
  show(match i.cls=="" with
   |true=>none
   |false=>some (h,i)).bind _=(match i.cls=="" with
   |true=>none
   |false=>_)
  cases i.cls==""<;>rfl
@[simp]theorem aoT (i:Inst) (x:jm):i.put f x=⟨i.cls,putL f x i.fs⟩:=rfl
@[simp]theorem arb (x:jm):putL f x []=[(f,x)]:=rfl
@[simp]theorem arh (x y:jm) (g:Str) (r:List (Str×jm)):putL f x ((g,y)::r)=if g=f then(g,x)::r else(g,y)::putL f x r:=rfl
@[simp]theorem aow (ft:Ft) (c:Str):Ft.has ft c f=match ft.lookup c with
 |some fs=>fs.contains f
 |none=>false:=rfl
@[simp]theorem aoD:zR M f (ob h)=(M[h]?).bind λi=>match i.cls=="" with
 |true=>none
 |false=>match i.fs.lookup f with
  |some (.dic b kvs)=>some (h,i,b,kvs)
  |_=>none:=by
 show(kh M (ob h)).bind _=_
 rw[aaz];cases M[h]? with
 |none=>rfl
 |some i=>
  show(match i.cls=="" with
   |true=>none
   |false=>some (h,i)).bind _=(match i.cls=="" with
   |true=>none
   |false=>_)
  cases i.cls==""<;>rfl
@[simp]theorem aqr (neg:Bool) (k o:QF):Ql neg f k o M Z=(k M Z).bind λd=>(o M Z).bind λod=>match zR M f od with
 |some (_,_,b,kvs)=>(dhas b kvs d).bind λr=>.ok (.bool (neg ^^ r))
 |none=>.bad:=rfl
@[simp]theorem aoH (o k e:QF):Nv f o k e M Z=((e M Z).at M).then Z λv _=>((o M Z).at M).then Z λod _=>match zR M f od with
 |some (h,i,b,kvs)=>((k M Z).at M).then Z λd _=>match dhas b kvs d,decide (kvs.length < 100000) with
  |.ok false,true=>.next Z (M.set h (i.put f (.dic b (kvs++[(d,v)]))))
  |_,_=>.bad
 |none=>.bad:=rfl
@[simp]theorem aou (o k:QF):Nq f o k M Z=((o M Z).at M).then Z λod _=>match zR M f od with
 |some (h,i,b,kvs)=>((k M Z).at M).then Z λd _=>match dhas b kvs d,decide (kvs.length<=100000) with
  |.ok true,true=>.next Z (M.set h (i.put f (.dic b (kvs.filter λp=>!PyData.eqv p.1 d))))
  |_,_=>.bad
 |none=>.bad:=rfl
@[simp]theorem an6 (o:QF):Dd f o M Z=(o M Z).bind λod=>match zR M f od with
 |some (_,_,true,kvs)=>.ok (kvs.map (·.1))
 |_=>.bad:=rfl
@[simp]theorem ano (o:QF):DG f o M Z=(o M Z).bind λod=>match zR M f od with
 |some (_,_,_,kvs)=>.ok (.list (kvs.map (·.1)))
 |none=>.bad:=rfl
@[simp]theorem ars (it:IF) (tg:fH) (vs:List Nat) (tk:QF):qDc it tg vs tk M Z=(it M Z).bind λds=>Out.when (decide (ds.length<=50000)) (EY tg tk M (bT Z vs) ds []):=rfl
@[simp]theorem anz (kvs:List (Dat×Dat)) (i:Int):dhas false kvs (.int i)=.ok (kvs.any λp=>PyData.eqv p.1 (.int i)):=rfl
@[simp]theorem ape (neg:Bool) (kvs:List (Str×Dat)) (k:QF):Vh neg kvs k M Z=(k M Z).bind λd=>match d with
 |.str x=>.ok (.bool (neg ^^ (kvs.lookup x).isSome))
 |_=>.bad:=rfl
@[simp]theorem aqE (kvs:List (Str×Dat)) (k:QF):acd kvs k M Z=(k M Z).bind λd=>match d with
 |.str x=>match kvs.lookup x with
  |some y=>.ok y
  |none=>.bad
 |_=>.bad:=rfl
@[simp]theorem anV (it:IF) (tg:fH) (vs:List Nat) (tt:QT) (it1:IF) (tg1:fH) (vs1:List Nat) (tt1:QT) (te:QF):Eb it tg vs tt it1 tg1 vs1 tt1 te M Z=((it M Z).bind λds=>(iG tg tt it1 tg1 vs1 tt1 te M (bT Z vs) ds).bind λr=>Out.when (decide (r.length<=50000)) (.ok r)).bind λr=>.ok (.list r):=rfl
@[simp]theorem am8 (it:IF) (tg:fH) (vs:List Nat) (tt:QT) (te:QF):CK it tg vs tt te M Z=((it M Z).bind λds=>Out.when (decide (ds.length<=50000)) (cR tg tt te M (bT Z vs) ds)).bind λds=>match intsOf ds with
 |some l=>Out.when (decide (l.length<=4000)) (.ok (.list ((Ad l).map PyData.int)))
 |none=>.bad:=rfl
@[simp]theorem am2 {α:Type} (k g:Str) (y:α) (r:List (Str×α)):List.lookup k ((g,y)::r)=if k=g then some y else List.lookup k r:=by
 rw[asj];by_cases e:k=g
 ·subst e;simp
 ·have:(k==g)=false:=by simpa using e
  rw[this,if_neg e]
end
end Rf
namespace Pr
open PySem PySem.Spec PyProof.Rows L2 Evl Rf
def zM:SF:=
 (aD (Fl j8 (ao 0) "allowances" (S9 au))
 (Fl j8 (ao 0) "circles" (S9 au)))
def uU:=mG 1 zM
def Bq:SF:=
 (Nu j8 (ao 0) "held" true)
def vZ:=mG 1 Bq
def Gi:SF:=
 (Fl j8 (ao 0) "beasts" (S9 au))
def Ag:=mG 1 Gi
def zp:SF:=
 (aD (uN j8 (ao 0) "owner_count" (gOf (qC (.int 0))))
 (aD (Nu j8 (ao 0) "holders" false)
 (aD (uN j8 (ao 0) "grounds" (BW "Grounds" uU au))
 (aD (uN j8 (ao 0) "rights" (BW "Rights" vZ au))
 (uN j8 (ao 0) "herd" (BW "Herd" Ag au))))))
def pY:=mG 1 zp
def Br:SF:=
 (aQ (bO (ak (fL "owner" (ao 0)) (ak (fL "ground" (ao 0)) (ak (fL "due" (ao 0)) (ak (fL "ear" (ao 0)) (ak (fL "alive" (ao 0)) au)))))))
def wj:=mQ 1 Br
def mY:List (Str×MV):=[("Beast",.q 1 wj)]
def DR:SF:=
 (aQ (aA gR (aO mY (ao 0) au) (bO (ak (fL "mother" (ao 0)) (ak (eZ kE (bK "story" (ao 0))) au)))))
def yQ:=mQ 1 DR
def wM:SF:=
 (aQ (DG "holders" (ao 0)))
def qZ:=mQ 1 wM
def vB:SF:=
 (aQ (DG "held" (ao 0)))
def pP:=mQ 1 vB
def uO:SF:=
 (aQ (eZ pJ (bK "allowances" (ao 0))))
def qD:=mQ 1 uO
def fj:List (Str×MV):=[("Grounds",.q 1 qD)]
def Bs:SF:=
 (aQ (Wn (pq qp qp (qC (.int 1)) (ao 1) (aO fj (ao 0) au))))
def vW:=mQ 2 Bs
def zu:List (Str×MV):=[("Grounds",.q 2 vW)]
def zP:SF:=
 (bV (jC (gY (aO zu (ao 0) (ak (aq 1) au)))) (eX "NoGround") aV)
def uW:=mQ 2 zP
def aF:List (Str×MV):=[("Grounds",.q 2 uW)]
def oA:SF:=
 (aD (cG (gOf (aO aF (ao 0) (ak (aq 1) au))))
 (aQ (aA aW (bK "allowances" (ao 0)) (aA lU (ao 1) (qC (.int 1))))))
def jX:=mQ 2 oA
def oV:SF:=
 (aD (cG (gOf (aO aF (ao 0) (ak (aq 1) au))))
 (aQ (eZ N6 (aA aW (bK "circles" (ao 0)) (aA lU (ao 1) (qC (.int 1)))))))
def lg:=mQ 2 oV
def bH:List (Str×MV):=[("Grounds",.q 2 lg)]
def oW:SF:=
 (aQ (aO bH (bK "grounds" (ao 0)) (ak (aq 1) au)))
def kJ:=mQ 2 oW
def uD:List (Str×MV):=[("Rights",.q 1 pP)]
def vA:List (Str×MV):=[("Commons",.q 1 qZ)]
def v7:List (Str×MV):=[("Beast",.q 1 yQ)]
def bW:List (Str×MV):=[("Commons",.q 2 kJ)]
def dY:List (Str×MV):=[("Grounds",.q 2 jX)]
def zG:SF:=
 (aD (bF (aG 1) (gOf (eU (CW (qC (.int 1)) (aA gR (aO fj (bK "grounds" (ao 0)) au) (qC (.int 1)))) (aG 3) [3] iI (bO (ak (aO dY (bK "grounds" (ao 0)) (ak (aq 3) au)) (ak (eZ kE (aO bW (ao 0) (ak (aq 3) au))) au))))))
 (aD (bF (aG 2) (gOf (eU (dB (bK "beasts" (bK "herd" (ao 0)))) (aG 4) [4] iI (aO v7 (ao 4) au))))
 (aQ (bO (ak (aO vA (ao 0) au) (ak (aq 1) (ak (aO uD (bK "rights" (ao 0)) au) (ak (aq 2) au))))))))
def ql:=mQ 5 zG
def VN:SF:=
 (aD (bF (aG 5) (gOf (aA mJ (aA gR (aA gR (aA Bx (ao 5) (qC (.int 48271))) (aA Bx (qC (.int 9973)) (ao 4))) (qC (.int 11))) (qC (.int 2147483647)))))
 (Qm 3 (aA mJ (aA JV (ao 5) (qC (.int 1021))) (ao 2))))
def Ul:SF:=
 (aD (Qm 3 (aA mJ (ao 0) (ao 2)))
 (bF (aG 0) (gOf (aA JV (ao 0) (ao 2)))))
def acO:SF:=
 (aD (Gp 3 (S9 au))
 (aD (bF (aG 0) (gOf (eZ Ui (ao 0))))
 (aD (bV (bh (aA geD (ao 0) (aA Yr (qC (.int 10)) (qC (.int 18))))) (aD (rA (CJ (ao 1)) (aG 4) Ul)
 (aQ (aq 3))) aV)
 (aD (bF (aG 5) (gOf (aA mJ (aA Bx (aA gR (aA mJ (ao 0) (qC (.int 1000003))) (qC (.int 17))) (qC (.int 69621))) (qC (.int 2147483647)))))
 (aD (rA (CJ (ao 1)) (aG 4) VN)
 (aQ (aq 3)))))))
def v8:=mQ 6 acO
def P0:SF:=
 (aD (bV (bh (aA cJ (aA mJ (ao 1) (qC (.int 4))) (qC (.int 1)))) (aQ (eZ kE (eU (dB (ao 0)) (aG 2) [2] iI (aA tD (qC (.int 0)) (aA lU (ao 2) (qC (.int 7))))))) aV)
 (aD (bV (bh (aA cJ (aA mJ (ao 1) (qC (.int 4))) (qC (.int 2)))) (aQ (eZ kE (eU (dB (ao 0)) (aG 2) [2] iI (aA mJ (ao 2) (qC (.int 3)))))) aV)
 (aQ (eZ kE (ao 0)))))
def ux:=mQ 3 P0
def acQ:SF:=
 (aD (bF (aG 1) (gOf (aU v8 (ak (aq 0) (ak (qC (.int 7)) (ak (qC (.int 10)) au))))))
 (aQ (aU ux (ak (SN (ao 1) DK (uK (qC (.int 6)))) (ak (aA aW (ao 1) (qC (.int 6))) au)))))
def T8:=mQ 2 acQ
def Gm:SF:=
 (aD (bV (bh (aA cJ (aA mJ (ao 0) (qC (.int 8))) (qC (.int 7)))) (aQ (Dh au)) aV)
 (aD (bF (aG 1) (gOf (Dh (ak (bO (ak (qC (.str "ground")) (ak (qC (.int 0)) (ak (qC (.int 0)) au)))) (ak (bO (ak (qC (.str "owner")) (ak (qC (.int 0)) (ak (qC (.int 0)) au)))) (ak (bO (ak (qC (.str "owner")) (ak (qC (.int 0)) (ak (qC (.int 0)) au)))) (ak (bO (ak (qC (.str "enrol")) (ak (qC (.int 0)) (ak (qC (.int 0)) au)))) (ak (bO (ak (qC (.str "enrol")) (ak (qC (.int 1)) (ak (qC (.int 0)) au)))) au))))))))
 (aD (bF (aG 1) (gOf (aA gR (ao 1) (Dh (ak (bO (ak (qC (.str "bring")) (ak (qC (.int 0)) (ak (qC (.int 0)) au)))) (ak (bO (ak (qC (.str "cut")) (ak (qC (.int 0)) (ak (qC (.int 0)) au)))) (ak (bO (ak (qC (.str "bring")) (ak (qC (.int 1)) (ak (qC (.int 0)) au)))) (ak (bO (ak (qC (.str "cut")) (ak (qC (.int 1)) (ak (qC (.int 0)) au)))) (ak (bO (ak (qC (.str "ground")) (ak (qC (.int 0)) (ak (qC (.int 0)) au)))) (ak (bO (ak (qC (.str "enrol")) (ak (qC (.int 0)) (ak (qC (.int 1)) au)))) au))))))))))
 (aQ (aq 1)))))
def vM:=mQ 2 Gm
def Mj:SF:=
 (aD (bF (aG 1) (gOf (Dh (ak (qC (.str "tear")) (ak (qC (.str "cut")) (ak (qC (.str "bring")) (ak (qC (.str "sell")) (ak (qC (.str "move")) (ak (qC (.str "enrol")) (ak (qC (.str "bear")) (ak (qC (.str "tear")) (ak (qC (.str "cut")) (ak (qC (.str "sell")) (ak (qC (.str "move")) (ak (qC (.str "unite")) (ak (qC (.str "part")) au))))))))))))))))
 (aD (bF (aG 1) (gOf (aA gR (ao 1) (Dh (ak (qC (.str "heir")) (ak (qC (.str "pass")) (ak (qC (.str "die")) (ak (qC (.str "leave")) (ak (qC (.str "ground")) (ak (qC (.str "owner")) (ak (qC (.str "enrol")) (ak (qC (.str "tear")) (ak (qC (.str "sell")) (ak (qC (.str "bring")) (ak (qC (.str "bear")) (ak (qC (.str "cut")) au))))))))))))))))
 (aQ (aA aW (ao 1) (aA mJ (ao 0) (qC (.int 25)))))))
def Ai:=mQ 2 Mj
def mH:SF:=
 (bV (bh (Ql true "holders" (aq 1) (ao 0))) (eX "NoOwner") aV)
def jJ:=mQ 2 mH
def zE:SF:=
 (aQ (eU (Dd "held" (ao 0)) (bx [3,4,5]) [3,4,5] (jx (bh (aA cJ (ao 3) (ao 1))) (bh (aA cJ (ao 4) (ao 2)))) (aq 5)))
def vf:=mQ 6 zE
def cM:List (Str×MV):=[("Rights",.q 3 vf)]
def tR:SF:=
 (aQ (aA Tp (eZ pJ (aO cM (ao 0) (ak (aq 1) (ak (aq 2) au)))) (qC (.int 0))))
def pF:=mQ 3 tR
def sW:List (Str×MV):=[("Rights",.q 3 pF)]
def qR:SF:=
 (bV (jC (gY (aO sW (bK "rights" (ao 0)) (ak (aq 1) (ak (aq 2) au))))) (eX "NoRight") aV)
def lX:=mQ 3 qR
def sE:SF:=
 (aD (Ry j8 "owner_count" (ao 0) (qC (.int 1)))
 (aD (Nv "holders" (ao 0) (fL "owner_count" (ao 0)) (qC (.bool true)))
 (aQ (fL "owner_count" (ao 0)))))
def iT:=mG 1 sE
def oZ:SF:=
 (aD (bF (aG 4) (gOf (bO (ak (aq 1) (ak (aq 2) (ak (aq 3) au))))))
 (aD (bV (bh (Ql false "held" (aq 4) (ao 0))) (eX "HasRight") aV)
 (Nv "held" (ao 0) (aq 4) (qC (.bool true)))))
def ju:=mG 5 oZ
def Ea:SF:=
 (bF (aG 2) (gOf (Eb (dB (ao 2)) (bx [4,5]) [4,5,6] iI (CW (ao 3) (aA gR (aA Jd (aA gR (ao 3) (ao 5)) (qC cX)) (qC (.int 1)))) (aG 6) [6] iI (bO (ak (aA gR (ao 4) (bO (ak (aq 6) au))) (ak (aA lU (ao 5) (aA lU (ao 6) (ao 3))) au))))))
def Zt:SF:=
 (aD (bF (aG 2) (gOf (Dh (ak (bO (ak (bO au) (ak (aq 1) au))) au))))
 (aD (rA (dB (aq 0)) (aG 3) Ea)
 (aQ (eU (dB (ao 2)) (bx [4,5]) [4,5] iI (aq 4)))))
def MN:=mQ 7 Zt
def Vo:SF:=
 (aQ (eZ Vw (eU (DY (ao 0) (ao 1)) (bx [2,3]) [2,3] (bh (aA Tp (ao 3) (ao 2))) (aA lU (ao 3) (ao 2)))))
def jg:=mQ 4 Vo
def Gg:SF:=
 (aQ (eU (dB (aU MN (ak (aq 0) (ak (aq 1) au)))) (aG 2) [2] (bh (aA cJ (aU jg (ak (aq 0) (ak (aq 2) au))) (ao 1))) (aq 2)))
def vO:=mQ 3 Gg
def Vi:SF:=
 (aQ (aA tD (aU jg (ak (aq 0) (ak (aq 1) au))) (aU jg (ak (aq 1) (ak (aq 0) au)))))
def Ir:=mQ 2 Vi
def Yt:SF:=
 (aQ (aA qp (aU Ir (ak (aq 0) (ak (aq 1) au))) (ao 2)))
def rQ:=mQ 3 Yt
def j7:SF:=
 (bV (jC (gY (eZ Qc (eU (dB (ao 2)) (bx [5,6]) [5,6] iI (aU rQ (ak (aq 4) (ak (aq 6) (ak (aq 3) au)))))))) (aQ (aq 4)) aV)
def xY:SF:=
 (aD (rA (dB (aU vO (ak (aq 0) (ak (aq 1) au)))) (aG 4) j7)
 (eX "NoneFree"))
def qm:=mQ 7 xY
def qX:SF:=
 (aQ (aA aW (aO cM (bK "rights" (ao 0)) (ak (aq 1) (ak (aq 2) au))) (qC (.int 0))))
def mj:=mQ 3 qX
def Qv:SF:=
 (aQ (eZ Rm (ao 0)))
def qP:=mQ 1 Qv
def vD:SF:=
 (aQ (eU (yw 1 (bK "beasts" (ao 0))) (bx [1,2]) [1,2] (gY (bK "alive" (ao 2))) (bO (ak (aq 1) (ak (aq 2) au)))))
def pO:=mQ 3 vD
def dX:List (Str×MV):=[("Herd",.q 1 pO)]
def zf:SF:=
 (aQ (eU (dB (aO dX (ao 0) au)) (bx [2,3]) [2,3] (bh (aA (inD false) (bK "ground" (ao 3)) (ao 1))) (bO (ak (aq 2) (ak (aq 3) au)))))
def qj:=mQ 4 zf
def sY:SF:=
 (aQ (eU (Dd "held" (ao 0)) (bx [2,3,4]) [2,3,4] (bh (aA (inD false) (ao 3) (ao 1))) (bO (ak (aq 2) (ak (aq 4) au)))))
def nZ:=mQ 5 sY
def qT:List (Str×MV):=[("Rights",.q 2 nZ)]
def jN:List (Str×MV):=[("Herd",.q 2 qj)]
def j9:SF:=
 (aD (bF (aG 3) (gOf (aO bW (ao 0) (ak (aq 2) au))))
 (aD (bF (aG 4) (gOf (eU (dB (aO jN (bK "herd" (ao 0)) (ak (aq 3) au))) (bx [5,6]) [5,6] (jx (bh (xO true .none (bK "due" (ao 6)))) (bh (aA yU (ao 5) (ao 1)))) (bO (ak (fL "owner" (ao 6)) (ak (fL "due" (ao 6)) au))))))
 (aQ (aU qP (ak (aA gR (aO qT (bK "rights" (ao 0)) (ak (aq 3) au)) (ao 4)) au)))))
def iV:=mQ 7 j9
def dD:List (Str×MV):=[("Commons",.q 3 iV)]
def oU:SF:=
 (aQ (aO dD (ao 0) (ak (qC (.int 0)) (ak (aq 1) au))))
def lA:=mQ 2 oU
def uQ:SF:=
 (aQ (eZ maxD (eU (dB (aO bH (ao 0) (ak (aq 1) au))) (aG 2) [2] iI (aO dY (ao 0) (ak (aq 2) au)))))
def pX:=mQ 3 uQ
def tL:List (Str×MV):=[("Grounds",.q 2 pX)]
def vm:SF:=
 (aQ (aO tL (bK "grounds" (ao 0)) (ak (aq 1) au)))
def qu:=mQ 2 vm
def iQ:List (Str×MV):=[("Rights",.g 4 ju)]
def iw:List (Str×MV):=[("Commons",.g 1 iT)]
def bQ:List (Str×MV):=[("Commons",.q 2 qu)]
def bG:List (Str×MV):=[("Commons",.q 2 lA)]
def cC:List (Str×MV):=[("Commons",.q 3 mj)]
def aN:List (Str×MV):=[("Commons",.q 3 lX)]
def aC:List (Str×MV):=[("Commons",.q 2 jJ)]
def eO:SF:=
 (aD (cG (gOf (aO aC (ao 0) (ak (aq 1) au))))
 (aD (cG (gOf (aO aF (bK "grounds" (ao 0)) (ak (aq 2) au))))
 (aD (bV (jC (pq qp qp (qC jo) (ao 3) (qC kY))) (eX "BadExtra") aV)
 (aD (cG (gOf (aO aN (ao 0) (ak (aq 1) (ak (aq 2) au)))))
 (aD (bF (aG 4) (gOf (aU qm (ak (aO cC (ao 0) (ak (aq 1) (ak (aq 2) au))) (ak (aq 3) (ak (aO bG (ao 0) (ak (aq 2) au)) (ak (aO bQ (ao 0) (ak (aq 2) au)) au)))))))
 (aD (bF (aG 5) (cU iw (ao 0) au))
 (aD (cG (cU iQ (bK "rights" (ao 0)) (ak (aq 5) (ak (aq 2) (ak (aq 4) au)))))
 (aQ (bO (ak (aq 5) (ak (aq 4) au)))))))))))
def cY:=mG 6 eO
def jB:SF:=
 (aD (bV (jC (pq qp qp (qC (.int 0)) (ao 1) (qC iy))) (eX "BadAllowance") aV)
 (aD (Fj "allowances" (ao 0) (gOf (aq 1)))
 (aD (Fj "circles" (ao 0) (gOf (bO (ak (aO fj (ao 0) au) au))))
 (aQ (aO fj (ao 0) au)))))
def fG:=mG 2 jB
def lG:List (Str×MV):=[("Grounds",.g 2 fG)]
def mD:SF:=
 (iJ (cU lG (bK "grounds" (ao 0)) (ak (aq 1) au)))
def iz:=mG 2 mD
def Ld:SF:=
 (aQ (eU (dB (aU qP (ak (aq 2) au))) (bx [4,5]) [4,5] (jx (bh (aA yU (ao 4) (ao 0))) (gY (aU rQ (ak (aq 1) (ak (aq 5) (ak (aq 3) au)))))) (bO (ak (aq 4) (ak (aq 5) au)))))
def Aq:=mQ 6 Ld
def Vj:SF:=
 (aQ (eZ kE (eU (DY (ao 0) (ao 1)) (bx [2,3]) [2,3] iI (aA tD (ao 2) (ao 3)))))
def lK:=mQ 4 Vj
def Cv:SF:=
 (aD (bF (aG 4) (gOf (aU Aq (ak (aq 0) (ak (aq 1) (ak (aq 2) (ak (aq 3) au)))))))
 (bV (gY (ao 4)) (aD (bF (bx [5,6]) (gOf (aA aW (ao 4) (qC (.int 0)))))
 (CG "Clash" ["ones","others","ear"] (ak (bO (ak (aq 0) (ak (aq 1) au))) (ak (bO (ak (aq 5) (ak (aq 6) au))) (ak (aU lK (ak (aq 1) (ak (aq 6) au))) au))))) aV))
def oR:=mQ 7 Cv
def lY:SF:=
 (cG (gOf (aU oR (ak (aq 1) (ak (aq 2) (ak (aO bG (ao 0) (ak (aq 3) au)) (ak (aO bQ (ao 0) (ak (aq 3) au)) au)))))))
def iD:=mQ 4 lY
def JW:SF:=
 (aQ (yc (aA cJ (eZ pJ (ao 0)) (eZ pJ (qC jc))) (eZ Jr (eU (dB (ao 0)) (aG 1) [1] iI (Wn (pq qp qp (qC (.int 0)) (ao 1) (qC cX)))))))
def tX:=mQ 2 JW
def IW:SF:=
 (bV (jC (gY (aU tX (ak (aq 0) au)))) (eX "BadEar") aV)
def mK:=mQ 1 IW
def cA:List (Str×MV):=[("Commons",.q 4 iD)]
def gJ:SF:=
 (aD (cG (gOf (aO aC (ao 0) (ak (aq 1) au))))
 (aD (cG (gOf (aO aF (bK "grounds" (ao 0)) (ak (aq 2) au))))
 (aD (cG (gOf (aU mK (ak (aq 3) au))))
 (aD (bV (bh (aA cJ (ao 3) (qC jE))) (eX "Bare") aV)
 (aD (bV (bh (aA (inD false) (ao 3) (aO cM (bK "rights" (ao 0)) (ak (aq 1) (ak (aq 2) au))))) (eX "HasRight") aV)
 (aD (cG (gOf (aO cA (ao 0) (ak (aq 1) (ak (aq 3) (ak (aq 2) au))))))
 (cG (cU iQ (bK "rights" (ao 0)) (ak (aq 1) (ak (aq 2) (ak (aq 3) au)))))))))))
def eE:=mG 4 gJ
def yq:SF:=
 (Nq "held" (ao 0) (bO (ak (aq 1) (ak (aq 2) (ak (aq 4) au)))))
def vY:SF:=
 (aD (bF (aG 3) (gOf (aO cM (ao 0) (ak (aq 1) (ak (aq 2) au)))))
 (aD (bV (jC (gY (ao 3))) (eX "NoRight") aV)
 (aD (rA (dB (aq 3)) (aG 4) yq)
 (aQ (aq 3)))))
def oM:=mG 5 vY
def zU:List (Str×MV):=[("Rights",.g 3 oM)]
def jD:SF:=
 (aD (cG (gOf (aO aC (ao 0) (ak (aq 1) au))))
 (aD (cG (gOf (aO aF (bK "grounds" (ao 0)) (ak (aq 2) au))))
 (aD (cG (gOf (aO aN (ao 0) (ak (aq 1) (ak (aq 2) au)))))
 (aD (bV (gY (eZ Qc (eU (dB (aO jN (bK "herd" (ao 0)) (ak (Dh (ak (aq 2) au)) au))) (bx [3,4]) [3,4] iI (aA cJ (bK "owner" (ao 4)) (ao 1))))) (eX "StillThere") aV)
 (iJ (cU zU (bK "rights" (ao 0)) (ak (aq 1) (ak (aq 2) au))))))))
def gj:=mG 5 jD
def qN:SF:=
 (aD (bF (bx [2,3,4,5,6]) (gOf (aq 1)))
 (aD (uN j8 (ao 0) "owner" (gOf (aq 2)))
 (aD (uN j8 (ao 0) "ground" (gOf (aq 3)))
 (aD (uN j8 (ao 0) "due" (gOf (aq 4)))
 (aD (uN j8 (ao 0) "ear" (gOf (aq 5)))
 (uN j8 (ao 0) "alive" (gOf (aq 6))))))))
def nH:=mG 7 qN
def Oh:SF:=
 (aD (bV (bh (aA cJ (aA aW (ao 0) (qC (.int 0))) (qC (.str "born")))) (aD (bF (bx [1,2,3,4]) (gOf (aq 0)))
 (aQ (bO (ak (aq 3) (ak (aq 4) (ak (qC .none) (ak (qC jE) (ak (qC (.bool true)) au)))))))) aV)
 (aD (bF (bx [1,3,4,5]) (gOf (aq 0)))
 (aQ (bO (ak (aq 3) (ak (aq 4) (ak (qC .none) (ak (aq 5) (ak (qC (.bool true)) au)))))))))
def CT:=mQ 6 Oh
def jP:List (Str×MV):=[("Beast",.g 2 nH)]
def Dj:SF:=
 (aD (Fl j8 (ao 0) "story" (S9 (ak (aq 1) au)))
 (aD (uN j8 (ao 0) "mother" (gOf (Ua (bh (aA cJ (aA aW (ao 1) (qC (.int 0))) (qC (.str "born")))) (aA aW (ao 1) (qC (.int 1))) (qC (.int 0)))))
 (cG (cU jP (ao 0) (ak (aU CT (ak (aq 1) au)) au)))))
def tZ:=mG 2 Dj
def wu:SF:=
 (aD (Fj "beasts" (ao 0) (BW "Beast" tZ (ak (aq 1) au)))
 (aQ (eZ pJ (bK "beasts" (ao 0)))))
def rF:=mG 2 wu
def jR:List (Str×MV):=[("Herd",.g 2 rF)]
def jA:SF:=
 (aD (cG (gOf (aO aC (ao 0) (ak (aq 1) au))))
 (aD (cG (gOf (aO aF (bK "grounds" (ao 0)) (ak (aq 2) au))))
 (aD (cG (gOf (aU mK (ak (aq 3) au))))
 (aD (cG (gOf (aO aN (ao 0) (ak (aq 1) (ak (aq 2) au)))))
 (iJ (cU jR (bK "herd" (ao 0)) (ak (bO (ak (qC (.str "brought")) (ak (aq 1) (ak (aq 2) (ak (aq 3) au))))) au)))))))
def gG:=mG 4 jA
def uF:SF:=
 (aD (bV (jC (pq qp qp (qC (.int 1)) (ao 1) (eZ pJ (bK "beasts" (ao 0))))) (eX "NoBeast") aV)
 (aQ (aA aW (bK "beasts" (ao 0)) (aA lU (ao 1) (qC (.int 1))))))
def kZ:=mQ 2 uF
def fM:List (Str×MV):=[("Herd",.q 2 kZ)]
def v9:SF:=
 (aD (bF (aG 2) (gOf (aO fM (ao 0) (ak (aq 1) au))))
 (aD (bV (jC (gY (bK "alive" (ao 2)))) (eX "Dead") aV)
 (aQ (aq 2))))
def rO:=mQ 3 v9
def bL:List (Str×MV):=[("Herd",.q 2 rO)]
def rJ:SF:=
 (aD (bF (aG 2) (gOf (aO bL (ao 0) (ak (aq 1) au))))
 (aD (bV (bh (xO false .none (bK "due" (ao 2)))) (eX "Unmarked") aV)
 (aQ (aq 2))))
def oK:=mQ 3 rJ
def aZ:List (Str×MV):=[("Herd",.q 2 oK)]
def m9:SF:=
 (aD (bF (aG 2) (gOf (aO aZ (bK "herd" (ao 0)) (ak (aq 1) au))))
 (iJ (cU jR (bK "herd" (ao 0)) (ak (bO (ak (qC (.str "born")) (ak (aq 1) (ak (fL "owner" (ao 2)) (ak (fL "ground" (ao 2)) au))))) au))))
def jk:=mG 3 m9
def Jk:SF:=
 (aQ (eZ kE (eU (yw 0 (ao 0)) (bx [2,3]) [2,3] iI (Ua (bh (aA cJ (ao 2) (ao 1))) (aA gR (ao 3) (qC (.int 1))) (aq 3)))))
def yF:=mQ 4 Jk
def Mg:SF:=
 (aD (bF (bx [2,3,4,5,6]) (gOf (aq 0)))
 (aD (bF (aG 7) (gOf (aA aW (ao 1) (qC (.int 0)))))
 (aD (bV (bh (aA cJ (ao 7) (qC (.str "cut")))) (Ro 4 5 (gOf (aA aW (ao 1) (qC (.int 1))))) (bV (bh (aA cJ (ao 7) (qC (.str "torn")))) (bF (aG 5) (gOf (aU yF (ak (aq 5) (ak (aA aW (ao 1) (qC (.int 1))) au))))) (bV (bh (aA cJ (ao 7) (qC (.str "sold")))) (aD (bF (aG 2) (gOf (aA aW (ao 1) (qC (.int 1)))))
 (Ro 4 5 (gOf (aA aW (ao 1) (qC (.int 2)))))) (bV (bh (aA cJ (ao 7) (qC (.str "moved")))) (bF (aG 3) (gOf (aA aW (ao 1) (qC (.int 1))))) (bV (bh (aA cJ (ao 7) (qC (.str "followed")))) (aD (bF (aG 2) (gOf (aA aW (ao 1) (qC (.int 1)))))
 (bF (aG 3) (gOf (aA aW (ao 1) (qC (.int 2)))))) (bV (bh (aA cJ (ao 7) (qC (.str "passed")))) (bF (aG 2) (gOf (aA aW (ao 1) (qC (.int 1))))) (bV (bh (aA cJ (ao 7) (qC (.str "died")))) (bF (aG 6) (gOf (qC (.bool false)))) aV)))))))
 (aQ (bO (ak (aq 2) (ak (aq 3) (ak (aq 4) (ak (aq 5) (ak (aq 6) au))))))))))
def Ah:=mQ 8 Mg
def zH:SF:=
 (aD (Fj "story" (ao 0) (gOf (aq 1)))
 (cG (cU jP (ao 0) (ak (aU Ah (ak (aO mY (ao 0) au) (ak (aq 1) au))) au))))
def m7:=mG 2 zH
def bR:List (Str×MV):=[("Beast",.g 2 m7)]
def oH:SF:=
 (aD (bF (aG 2) (gOf (aO bL (bK "herd" (ao 0)) (ak (aq 1) au))))
 (aD (bF (aG 3) (gOf (aU lK (ak (fL "ear" (ao 2)) (ak (aO cC (ao 0) (ak (fL "owner" (ao 2)) (ak (fL "ground" (ao 2)) au))) au)))))
 (aD (cG (gOf (aO cA (ao 0) (ak (fL "owner" (ao 2)) (ak (aq 3) (ak (fL "ground" (ao 2)) au))))))
 (aD (cG (cU bR (ao 2) (ak (bO (ak (qC (.str "cut")) (ak (aq 3) au))) au)))
 (aQ (aq 3))))))
def jU:=mG 4 oH
def ji:SF:=
 (aD (bF (aG 3) (gOf (aO bL (bK "herd" (ao 0)) (ak (aq 1) au))))
 (aD (bV (jC (pq qp M8 (qC (.int 0)) (ao 2) (eZ pJ (qC jc)))) (eX "NoPlace") aV)
 (aD (bV (bh (aA geD (aA aW (bK "ear" (ao 3)) (ao 2)) (qC cX))) (eX "Deepest") aV)
 (aD (cG (cU bR (ao 3) (ak (bO (ak (qC (.str "torn")) (ak (aq 2) au))) au)))
 (aQ (fL "ear" (ao 3)))))))
def fO:=mG 4 ji
def vX:SF:=
 (aD (cG (gOf (aO fM (ao 0) (ak (aq 1) au))))
 (aQ (eU (dB (aO dX (ao 0) au)) (bx [2,3]) [2,3] (jx (bh (aA cJ (bK "mother" (ao 3)) (ao 1))) (bh (xO false .none (bK "due" (ao 3))))) (bO (ak (aq 2) (ak (aq 3) au))))))
def rK:=mQ 4 vX
def zK:List (Str×MV):=[("Herd",.q 2 rK)]
def rC:SF:=
 (cG (cU bR (ao 4) (ak (bO (ak (qC (.str "followed")) (ak (fL "owner" (ao 2)) (ak (fL "ground" (ao 2)) au)))) au)))
def uL:SF:=
 (aD (bF (aG 2) (gOf (aO fM (ao 0) (ak (aq 1) au))))
 (rA (dB (aO zK (ao 0) (ak (aq 1) au))) (bx [3,4]) rC))
def oY:=mG 5 uL
def iK:List (Str×MV):=[("Herd",.g 2 oY)]
def fQ:SF:=
 (aD (bF (aG 3) (gOf (aO aZ (bK "herd" (ao 0)) (ak (aq 1) au))))
 (aD (cG (gOf (aO aC (ao 0) (ak (aq 2) au))))
 (aD (bV (bh (aA cJ (bK "owner" (ao 3)) (ao 2))) (eX "SameOwner") aV)
 (aD (cG (gOf (aO aN (ao 0) (ak (aq 2) (ak (fL "ground" (ao 3)) au)))))
 (aD (bF (aG 4) (gOf (aU lK (ak (fL "ear" (ao 3)) (ak (aO cC (ao 0) (ak (aq 2) (ak (fL "ground" (ao 3)) au))) au)))))
 (aD (cG (gOf (aU oR (ak (aq 2) (ak (aq 4) (ak (aO dD (ao 0) (ak (aq 1) (ak (fL "ground" (ao 3)) au))) (ak (aO bQ (ao 0) (ak (fL "ground" (ao 3)) au)) au)))))))
 (aD (cG (cU bR (ao 3) (ak (bO (ak (qC (.str "sold")) (ak (aq 2) (ak (aq 4) au)))) au)))
 (aD (cG (cU iK (bK "herd" (ao 0)) (ak (aq 1) au)))
 (aQ (aq 4))))))))))
def dU:=mG 5 fQ
def fU:SF:=
 (aD (bF (aG 3) (gOf (aO aZ (bK "herd" (ao 0)) (ak (aq 1) au))))
 (aD (cG (gOf (aO aF (bK "grounds" (ao 0)) (ak (aq 2) au))))
 (aD (bF (aG 4) (gOf (fL "ground" (ao 3))))
 (aD (bV (bh (aA cJ (ao 4) (ao 2))) (eX "SameGround") aV)
 (aD (cG (gOf (aO aN (ao 0) (ak (fL "owner" (ao 3)) (ak (aq 2) au)))))
 (aD (cG (gOf (aO cA (ao 0) (ak (fL "owner" (ao 3)) (ak (fL "due" (ao 3)) (ak (aq 2) au))))))
 (aD (cG (cU bR (ao 3) (ak (bO (ak (qC (.str "moved")) (ak (aq 2) au))) au)))
 (aD (cG (cU iK (bK "herd" (ao 0)) (ak (aq 1) au)))
 (aQ (aq 4))))))))))
def dW:=mG 5 fU
def rM:SF:=
 (cG (cU bR (aO bL (bK "herd" (ao 0)) (ak (aq 1) au)) (ak (bO (ak (qC (.str "died")) au)) au)))
def lN:=mG 2 rM
def IK:SF:=
 (aD (bF (aG 2) (gOf (aU qP (ak (aq 0) au))))
 (aQ (Eb (yw 0 (ao 2)) (bx [3,4]) [3,4,5] iI (dB (SN (ao 2) (uK (aA gR (ao 3) (qC (.int 1)))) DK)) (aG 5) [5] (jx (bh (aA yU (aA aW (ao 4) (qC (.int 0))) (aA aW (ao 5) (qC (.int 0))))) (gY (aU rQ (ak (aA aW (ao 4) (qC (.int 1))) (ak (aA aW (ao 5) (qC (.int 1))) (ak (aq 1) au)))))) (bO (ak (aq 4) (ak (aq 5) au))))))
def uP:=mQ 6 IK
def tY:SF:=
 (aD (bF (aG 3) (gOf (aA tD (aO bQ (ao 0) (ak (aq 1) au)) (aO bQ (ao 0) (ak (aq 2) au)))))
 (aQ (aU uP (ak (aA gR (aO bG (ao 0) (ak (aq 1) au)) (aO bG (ao 0) (ak (aq 2) au))) (ak (aq 3) au)))))
def lC:=mQ 4 tY
def sJ:SF:=
 (Ra "circles" (ao 0) (aA lU (ao 3) (qC (.int 1))) (aq 2))
def vC:SF:=
 (aD (bF (aG 2) (gOf (eZ kE (ao 1))))
 (aD (rA (dB (aq 1)) (aG 3) sJ)
 (aQ (aq 1))))
def lW:=mG 4 vC
def gW:List (Str×MV):=[("Grounds",.g 2 lW)]
def tK:SF:=
 (aD (bF (aG 3) (gOf (aO bH (ao 0) (ak (aq 1) au))))
 (aD (bF (aG 4) (gOf (aO bH (ao 0) (ak (aq 2) au))))
 (aD (bV (bh (aA (inD false) (ao 2) (ao 3))) (eX "Together") aV)
 (iJ (cU gW (ao 0) (ak (eZ Jl (aA gR (ao 3) (ao 4))) au))))))
def lJ:=mG 5 tK
def wV:List (Str×MV):=[("Grounds",.g 3 lJ)]
def nY:List (Str×MV):=[("Commons",.q 3 lC)]
def jG:SF:=
 (aD (cG (gOf (aO aF (bK "grounds" (ao 0)) (ak (aq 2) au))))
 (aD (bV (bh (aA (inD false) (ao 2) (aO bW (ao 0) (ak (aq 1) au)))) (eX "Together") aV)
 (aD (bF (aG 3) (gOf (aO nY (ao 0) (ak (aq 1) (ak (aq 2) au)))))
 (aD (bV (gY (ao 3)) (aD (bF (bx [4,5]) (gOf (aA aW (ao 3) (qC (.int 0)))))
 (CG "Clash" ["ones","others","ear"] (ak (aq 4) (ak (aq 5) (ak (aU lK (ak (aA aW (ao 4) (qC (.int 1))) (ak (aA aW (ao 5) (qC (.int 1))) au))) au))))) aV)
 (iJ (cU wV (bK "grounds" (ao 0)) (ak (aq 1) (ak (aq 2) au))))))))
def gA:=mG 6 jG
def qH:SF:=
 (aD (bF (aG 2) (gOf (eU (dB (aO bH (ao 0) (ak (aq 1) au))) (aG 3) [3] (bh (aA yU (ao 3) (ao 1))) (aq 3))))
 (aD (bV (jC (gY (ao 2))) (eX "Alone") aV)
 (aD (cG (cU gW (ao 0) (ak (Dh (ak (aq 1) au)) au)))
 (iJ (cU gW (ao 0) (ak (aq 2) au))))))
def jr:=mG 4 qH
def oX:List (Str×MV):=[("Grounds",.g 2 jr)]
def pZ:SF:=
 (iJ (cU oX (bK "grounds" (ao 0)) (ak (aq 1) au)))
def j6:=mG 2 pZ
def tV:SF:=
 (T7 j8 (ao 0) "held" (qDc (Dd "held" (ao 0)) (bx [3,4,5]) [3,4,5] (bO (ak (Ua (bh (aA cJ (ao 3) (ao 1))) (aq 2) (aq 3)) (ak (aq 4) (ak (aq 5) au))))))
def pB:=mG 6 tV
def Dg:SF:=
 (aQ (eU (dB (aO dX (ao 0) au)) (bx [2,3]) [2,3] (bh (aA cJ (bK "owner" (ao 3)) (ao 1))) (bO (ak (aq 2) (ak (aq 3) au)))))
def yD:=mQ 4 Dg
def BK:List (Str×MV):=[("Herd",.q 2 yD)]
def rZ:List (Str×MV):=[("Rights",.g 3 pB)]
def sV:SF:=
 (cG (cU bR (ao 5) (ak (bO (ak (qC (.str "passed")) (ak (aq 2) au))) au)))
def jT:SF:=
 (aD (cG (gOf (aO aC (ao 0) (ak (aq 1) au))))
 (aD (cG (gOf (aO aC (ao 0) (ak (aq 2) au))))
 (aD (bV (bh (aA cJ (ao 1) (ao 2))) (eX "SameOwner") aV)
 (aD (cG (cU rZ (bK "rights" (ao 0)) (ak (aq 1) (ak (aq 2) au))))
 (aD (bF (aG 3) (gOf (aO BK (bK "herd" (ao 0)) (ak (aq 1) au))))
 (aD (rA (dB (aq 3)) (bx [4,5]) sV)
 (aD (Nq "holders" (ao 0) (aq 1))
 (aQ (eU (dB (ao 3)) (bx [4,5]) [4,5] iI (aq 4))))))))))
def fX:=mG 6 jT
def vH:SF:=
 (aD (bV (bh (aA cJ (ao 0) (qC (.str "ear")))) (aQ (yc (wB .tuple (ao 1)) (aU tX (ak (aq 1) au)))) aV)
 (aD (bF (aG 2) (gOf (Ua (bh (aA cJ (ao 0) (qC (.str "place")))) (aA lU (eZ pJ (qC jc)) (qC (.int 1))) (qC pH))))
 (aQ (yc (wB .int (ao 1)) (Wn (pq qp qp (qC (.int 0)) (ao 1) (ao 2)))))))
def iU:=mQ 3 vH
def aaw:SF:=
 (aD (bV (BL (bh (aA cJ (eZ pJ (ao 0)) (qC (.int 0)))) (bh (Vh true (Ae zL) (aA aW (ao 0) (qC (.int 0)))))) (aQ (qC (.bool false))) aV)
 (aD (bF (aG 1) (gOf (acd (Ae zL) (aA aW (ao 0) (qC (.int 0))))))
 (aD (bF (aG 2) (gOf (SN (ao 0) (uK (qC (.int 1))) DK)))
 (aQ (yc (aA cJ (eZ pJ (ao 2)) (eZ pJ (ao 1))) (eZ Jr (eU (DY (ao 1) (ao 2)) (bx [3,4]) [3,4] iI (aU iU (ak (aq 3) (ak (aq 4) au))))))))))
def Iu:=mQ 5 aaw
def sO:List (Str×MV):=[("Commons",.g 4 cY)]
def ug:List (Str×MV):=[("Commons",.g 3 fX)]
def yO:List (Str×MV):=[("Commons",.g 2 j6)]
def wF:List (Str×MV):=[("Commons",.g 3 gA)]
def zF:List (Str×MV):=[("Commons",.g 2 lN)]
def yE:List (Str×MV):=[("Commons",.g 3 dW)]
def xX:List (Str×MV):=[("Commons",.g 3 dU)]
def yg:List (Str×MV):=[("Commons",.g 3 fO)]
def zB:List (Str×MV):=[("Commons",.g 2 jU)]
def xQ:List (Str×MV):=[("Commons",.g 2 jk)]
def wO:List (Str×MV):=[("Commons",.g 4 gG)]
def wz:List (Str×MV):=[("Commons",.g 3 gj)]
def wN:List (Str×MV):=[("Commons",.g 4 eE)]
def qG:List (Str×MV):=[("Commons",.g 2 iz)]
def dh:SF:=
 (aD (bV (jC (gY (aU Iu (ak (aq 1) au)))) (eX "BadDeed") aV)
 (aD (Yj 2 3 (gOf (aq 1)))
 (aD (bV (bh (aA cJ (ao 2) (qC (.str "owner")))) (iJ (cU iw (ao 0) au)) aV)
 (aD (bV (bh (aA cJ (ao 2) (qC (.str "ground")))) (iJ (cU qG (ao 0) (ak (aA aW (ao 3) (qC (.int 0))) au))) aV)
 (aD (bV (bh (aA cJ (ao 2) (qC (.str "enrol")))) (iJ (cU wN (ao 0) (ak (aA aW (ao 3) (qC (.int 0))) (ak (aA aW (ao 3) (qC (.int 1))) (ak (aA aW (ao 3) (qC (.int 2))) au))))) aV)
 (aD (bV (bh (aA cJ (ao 2) (qC (.str "leave")))) (iJ (cU wz (ao 0) (ak (aA aW (ao 3) (qC (.int 0))) (ak (aA aW (ao 3) (qC (.int 1))) au)))) aV)
 (aD (bV (bh (aA cJ (ao 2) (qC (.str "bring")))) (iJ (cU wO (ao 0) (ak (aA aW (ao 3) (qC (.int 0))) (ak (aA aW (ao 3) (qC (.int 1))) (ak (aA aW (ao 3) (qC (.int 2))) au))))) aV)
 (aD (bV (bh (aA cJ (ao 2) (qC (.str "bear")))) (iJ (cU xQ (ao 0) (ak (aA aW (ao 3) (qC (.int 0))) au))) aV)
 (aD (bV (bh (aA cJ (ao 2) (qC (.str "cut")))) (iJ (cU zB (ao 0) (ak (aA aW (ao 3) (qC (.int 0))) au))) aV)
 (aD (bV (bh (aA cJ (ao 2) (qC (.str "tear")))) (iJ (cU yg (ao 0) (ak (aA aW (ao 3) (qC (.int 0))) (ak (aA aW (ao 3) (qC (.int 1))) au)))) aV)
 (aD (bV (bh (aA cJ (ao 2) (qC (.str "sell")))) (iJ (cU xX (ao 0) (ak (aA aW (ao 3) (qC (.int 0))) (ak (aA aW (ao 3) (qC (.int 1))) au)))) aV)
 (aD (bV (bh (aA cJ (ao 2) (qC (.str "move")))) (iJ (cU yE (ao 0) (ak (aA aW (ao 3) (qC (.int 0))) (ak (aA aW (ao 3) (qC (.int 1))) au)))) aV)
 (aD (bV (bh (aA cJ (ao 2) (qC (.str "die")))) (iJ (cU zF (ao 0) (ak (aA aW (ao 3) (qC (.int 0))) au))) aV)
 (aD (bV (bh (aA cJ (ao 2) (qC (.str "unite")))) (iJ (cU wF (ao 0) (ak (aA aW (ao 3) (qC (.int 0))) (ak (aA aW (ao 3) (qC (.int 1))) au)))) aV)
 (aD (bV (bh (aA cJ (ao 2) (qC (.str "part")))) (iJ (cU yO (ao 0) (ak (aA aW (ao 3) (qC (.int 0))) au))) aV)
 (aD (bV (bh (aA cJ (ao 2) (qC (.str "pass")))) (iJ (cU ug (ao 0) (ak (aA aW (ao 3) (qC (.int 0))) (ak (aA aW (ao 3) (qC (.int 1))) au)))) aV)
 (iJ (cU sO (ao 0) (ak (aA aW (ao 3) (qC (.int 0))) (ak (aA aW (ao 3) (qC (.int 1))) (ak (aA aW (ao 3) (qC (.int 2))) au)))))))))))))))))))))
def cV:=mG 4 dh
def rN:List (Str×MV):=[("Commons",.g 2 cV)]
def Mr:SF:=
 (aD (bF (aG 3) (gOf (qC .none)))
 (aD (YW (bF (aG 3) (cU rN (ao 0) (ak (aq 1) au))) [⟨"CommonError",λx=>uR.lookup x,none,[(3,(.con .none))]⟩])
 (aD (bV (bh (xO false .none (ao 3))) (aQ (aq 2)) aV)
 (aD (bF (bx [4,5,6]) (gOf (aq 2)))
 (aD (bV (BL (bh (aA cJ (aA aW (ao 1) (qC (.int 0))) (qC (.str "owner")))) (bh (aA cJ (aA aW (ao 1) (qC (.int 0))) (qC (.str "heir"))))) (Q7 4 (qC (.int 1))) aV)
 (aD (bV (bh (aA cJ (aA aW (ao 1) (qC (.int 0))) (qC (.str "ground")))) (Q7 5 (qC (.int 1))) aV)
 (aD (bV (BL (bh (aA cJ (aA aW (ao 1) (qC (.int 0))) (qC (.str "bring")))) (bh (aA cJ (aA aW (ao 1) (qC (.int 0))) (qC (.str "bear"))))) (Q7 6 (qC (.int 1))) aV)
 (aQ (bO (ak (aq 4) (ak (aq 5) (ak (aq 6) au))))))))))))
def rH:=mG 7 Mr
def Qh:SF:=
 (aD (bF (aG 5) (gOf (aA aW (bO (ak (qC (.int 0)) (ak (qC (.int 0)) (ak (qC (.int 0)) (ak (qC (.int 0)) (ak (qC (.int 0)) (ak (qC (.int 1)) (ak (qC (.int 1)) (ak (qC (.int 2)) (ak (qC (.int 3)) (ak (eZ Vt (qC (.int 1))) au))))))))))) (ao 4))))
 (Qm 2 (aA tD (qC (.int 0)) (aA Jd (qC (.int 9)) (aA gR (ao 3) (ao 5))))))
def aao:SF:=
 (aD (Gp 2 (S9 au))
 (aD (rA (DY (aq 0) (aq 1)) (bx [3,4]) Qh)
 (aQ (eZ kE (ao 2)))))
def Nb:=mQ 6 aao
def M6:SF:=
 (aD (bV (bh (aA M8 (ao 1) (qC (.int 4)))) (aQ (aU Nb (ak (aq 2) (ak (aq 0) au)))) aV)
 (aQ (aU ux (ak (aq 0) (ak (aq 1) au)))))
def xH:=mQ 3 M6
def Yq:SF:=
 (aD (bV (gY (ao 2)) (aQ (aA gR (qC (.int 1)) (aA mJ (ao 0) (aA tD (qC (.int 1)) (ao 1))))) aV)
 (aQ (aA mJ (ao 0) (aA gR (ao 1) (qC (.int 2))))))
def jV:=mQ 3 Yq
def jZ:SF:=
 (aD (bF (aG 6) (gOf (aA yU (aA aW (ao 3) (qC (.int 6))) (qC (.int 9)))))
 (aD (bF (aG 7) (gOf (aU xH (ak (SN (ao 3) (uK (qC (.int 8))) (uK (qC (.int 14)))) (ak (aA aW (ao 3) (qC (.int 7))) (ak (aq 5) au))))))
 (aD (bV (bh (aA cJ (ao 0) (qC (.str "owner")))) (aQ (bO (ak (qC (.str "owner")) au))) aV)
 (aD (bV (bh (aA cJ (ao 0) (qC (.str "ground")))) (aQ (bO (ak (qC (.str "ground")) (ak (aA gR (aA aW (bO (ak (qC (.int 0)) (ak (qC (.int 1)) (ak (qC (.int 2)) (ak (qC (.int 3)) (ak (qC (.int 0)) (ak (qC (.int 1)) (ak (qC (.int 5)) (ak (qC (.int 6)) (ak (qC (.int 7)) (ak (qC (.int 8)) au))))))))))) (aA aW (ao 3) (qC (.int 7)))) (aA Bx (qC (.int 4)) (eZ intD (Q9 (ao 6))))) au)))) aV)
 (aD (bV (jx (bh (aA cJ (ao 0) (qC (.str "bring")))) (bh (aA M8 (aA aW (ao 3) (qC (.int 7))) (qC (.int 6))))) (bF (aG 7) (gOf (bO (ak (qC (.int 0)) (ak (qC (.int 0)) (ak (qC (.int 0)) (ak (qC (.int 0)) (ak (qC (.int 0)) (ak (qC (.int 0)) au))))))))) aV)
 (aD (bV (BL (bh (aA cJ (ao 0) (qC (.str "enrol")))) (bh (aA cJ (ao 0) (qC (.str "bring"))))) (aQ (bO (ak (aq 0) (ak (aU jV (ak (aq 1) (ak (aA aW (ao 4) (qC (.int 0))) (ak (aq 6) au)))) (ak (aU jV (ak (aq 2) (ak (aA aW (ao 4) (qC (.int 1))) (ak (aq 6) au)))) (ak (aq 7) au)))))) aV)
 (aD (bV (bh (aA cJ (ao 0) (qC (.str "leave")))) (aQ (bO (ak (aq 0) (ak (aU jV (ak (aq 1) (ak (aA aW (ao 4) (qC (.int 0))) (ak (aq 6) au)))) (ak (aU jV (ak (aq 2) (ak (aA aW (ao 4) (qC (.int 1))) (ak (aq 6) au)))) au))))) aV)
 (aD (bV (bh (aA cJ (ao 0) (qC (.str "heir")))) (aQ (bO (ak (aq 0) (ak (aU jV (ak (aq 1) (ak (aA aW (ao 4) (qC (.int 0))) (ak (aq 6) au)))) (ak (aU jV (ak (aq 2) (ak (aA aW (ao 4) (qC (.int 1))) (ak (aq 6) au)))) (ak (aA mJ (aA aW (ao 3) (qC (.int 7))) (qC (.int 4))) au)))))) aV)
 (aD (bV (bh (aA cJ (ao 0) (qC (.str "pass")))) (aQ (bO (ak (aq 0) (ak (aU jV (ak (aq 1) (ak (aA aW (ao 4) (qC (.int 0))) (ak (aq 6) au)))) (ak (aU jV (ak (aq 2) (ak (aA aW (ao 4) (qC (.int 0))) (ak (aq 6) au)))) au))))) aV)
 (aD (bV (bh (aA cJ (ao 0) (qC (.str "unite")))) (aQ (bO (ak (aq 0) (ak (aU jV (ak (aq 1) (ak (aA aW (ao 4) (qC (.int 1))) (ak (aq 6) au)))) (ak (aU jV (ak (aq 2) (ak (aA aW (ao 4) (qC (.int 1))) (ak (aq 6) au)))) au))))) aV)
 (aD (bV (bh (aA cJ (ao 0) (qC (.str "part")))) (aQ (bO (ak (aq 0) (ak (aU jV (ak (aq 1) (ak (aA aW (ao 4) (qC (.int 1))) (ak (aq 6) au)))) au)))) aV)
 (aD (bV (bh (aA cJ (ao 0) (qC (.str "tear")))) (aQ (bO (ak (aq 0) (ak (aU jV (ak (aq 1) (ak (aA aW (ao 4) (qC (.int 2))) (ak (aq 6) au)))) (ak (aA mJ (aA aW (ao 3) (qC (.int 7))) (qC (.int 6))) au))))) aV)
 (aD (bV (bh (aA cJ (ao 0) (qC (.str "sell")))) (aQ (bO (ak (aq 0) (ak (aU jV (ak (aq 1) (ak (aA aW (ao 4) (qC (.int 2))) (ak (aq 6) au)))) (ak (aU jV (ak (aq 2) (ak (aA aW (ao 4) (qC (.int 0))) (ak (aq 6) au)))) au))))) aV)
 (aD (bV (bh (aA cJ (ao 0) (qC (.str "move")))) (aQ (bO (ak (aq 0) (ak (aU jV (ak (aq 1) (ak (aA aW (ao 4) (qC (.int 2))) (ak (aq 6) au)))) (ak (aU jV (ak (aq 2) (ak (aA aW (ao 4) (qC (.int 1))) (ak (aq 6) au)))) au))))) aV)
 (aQ (bO (ak (aq 0) (ak (aU jV (ak (aq 1) (ak (aA aW (ao 4) (qC (.int 2))) (ak (aq 6) au)))) au))))))))))))))))))
def gU:=mQ 8 jZ
def Je:SF:=
 (aD (bF (aG 3) (Jz rH (ak (aq 0) (ak (bO (ak (qC (.str "bring")) (ak (qC (.int 1)) (ak (qC (.int 1)) (ak (bO (ak (qC (.int 0)) (ak (qC (.int 0)) (ak (qC (.int 0)) (ak (qC (.int 0)) (ak (qC (.int 0)) (ak (qC (.int 0)) au))))))) au))))) (ak (aq 3) au)))))
 (bF (aG 3) (Jz rH (ak (aq 0) (ak (bO (ak (qC (.str "cut")) (ak (aA aW (ao 3) (qC (.int 2))) au))) (ak (aq 3) au))))))
def DQ:SF:=
 (aD (bF (aG 8) (gOf (aU v8 (ak (aq 7) (ak (qC (.int 14)) (ak (qC (.int 10)) au))))))
 (aD (bF (aG 9) (gOf (aU Ai (ak (aA gR (aA Bx (aA aW (ao 8) (qC (.int 0))) (qC (.int 10))) (aA aW (ao 8) (qC (.int 1)))) au))))
 (aD (bF (aG 10) (gOf (aA gR (aA Bx (aA aW (ao 8) (qC (.int 2))) (qC (.int 10))) (aA aW (ao 8) (qC (.int 3))))))
 (aD (bF (aG 11) (gOf (aA gR (aA Bx (aA aW (ao 8) (qC (.int 4))) (qC (.int 10))) (aA aW (ao 8) (qC (.int 5))))))
 (aD (bV (bh (aA M8 (ao 6) (eZ pJ (ao 5)))) (bF (bx [9,10,11]) (gOf (aA aW (ao 5) (ao 6)))) aV)
 (bF (aG 3) (Jz rH (ak (aq 0) (ak (aU gU (ak (aq 9) (ak (aq 10) (ak (aq 11) (ak (aq 8) (ak (aq 3) (ak (aq 4) au))))))) (ak (aq 3) au))))))))))
def Td:SF:=
 (aD (bF (aG 3) (gOf (bO (ak (qC (.int 0)) (ak (qC (.int 0)) (ak (qC (.int 0)) au))))))
 (aD (bF (aG 4) (gOf (aU T8 (ak (aA JV (ao 2) (qC (.int 512))) au))))
 (aD (bF (aG 5) (gOf (aU vM (ak (aq 2) au))))
 (aD (rA (yw 0 (aq 1)) (bx [6,7]) DQ)
 (aD (bV (bh (aA cJ (aA mJ (aA JV (ao 2) (qC (.int 8))) (qC (.int 8))) (qC (.int 1)))) (rA (CJ (aA Bx (aA mJ (aA JV (ao 2) (qC (.int 64))) (qC (.int 8))) (qC (.int 4)))) (aG 12) Je) aV)
 (aQ (aq 3)))))))
def Hf:=mG 13 Td
def aai:SF:=
 (aD (bV (bh (aA M8 (ao 1) (eZ pJ (ao 0)))) (aQ (aA aW (ao 0) (ao 1))) aV)
 (aQ (qC (.int 0))))
def Ak:=mQ 2 aai
def Mz:SF:=
 (aD (bF (aG 4) (gOf (eU (dB (ao 2)) (bx [5,6]) [5,6] (jx (bh (aA yU (ao 5) (ao 0))) (bh (aA qp (aU jg (ak (aq 6) (ak (aq 1) au))) (ao 3)))) (bO (ak (aU jg (ak (aq 1) (ak (aq 6) au))) (ak (aq 5) (ak (aU lK (ak (aq 1) (ak (aq 6) au))) au)))))))
 (aQ (aA Tq (ao 4) (qC .none))))
def Bf:=mQ 7 Mz
def yj:SF:=
 (aD (bF (aG 2) (gOf (aO aZ (bK "herd" (ao 0)) (ak (aq 1) au))))
 (aQ (aU Bf (ak (fL "owner" (ao 2)) (ak (fL "ear" (ao 2)) (ak (aO bG (ao 0) (ak (fL "ground" (ao 2)) au)) (ak (aO bQ (ao 0) (ak (fL "ground" (ao 2)) au)) au)))))))
def lM:=mQ 3 yj
def Lk:SF:=
 (aQ (eZ maxD (eU (dB (aA aW (aA aW (aA aW (ao 0) (qC (.int 1))) (aA lU (ao 1) (qC (.int 1)))) (qC (.int 1)))) (aG 2) [2] iI (aA aW (aA aW (aA aW (ao 0) (qC (.int 1))) (aA lU (ao 2) (qC (.int 1)))) (qC (.int 0))))))
def Bb:=mQ 3 Lk
def UL:SF:=
 (aQ (eZ Vw (eU (DY (ao 0) (ao 1)) (bx [2,3]) [2,3] iI (aA tD (qC (.int 0)) (aA lU (ao 3) (ao 2))))))
def CQ:=mQ 4 UL
def Uw:SF:=
 (aQ (yc (wB .int (ao 0)) (Q9 (wB .bool (ao 0)))))
def zN:=mQ 1 Uw
def Qz(r:Mo->List Dat->Out Dat):SF:=
 (bV (jC (gY (aU r (ak (aq 2) (ak (aq 3) au))))) (aQ (qC (.bool false))) aV)
def Ig(r:Mo->List Dat->Out Dat):SF:=
 (aD (bV (bh (xO false .none (ao 1))) (aQ (xO false .none (ao 0))) aV)
 (aD (bV (bh (xO false (.bool true) (ao 1))) (aQ (xO false (.bool true) (ao 0))) aV)
 (aD (bV (bh (xO false (.bool false) (ao 1))) (aQ (xO false (.bool false) (ao 0))) aV)
 (aD (bV (gY (wB .int (ao 1))) (aQ (yc (aU zN (ak (aq 0) au)) (aA cJ (ao 0) (ao 1)))) aV)
 (aD (bV (gY (wB .str (ao 1))) (aQ (yc (wB .str (ao 0)) (aA cJ (ao 0) (ao 1)))) aV)
 (aD (bV (jx (gY (wB .tuple (ao 1))) (jC (gY (wB .tuple (ao 0))))) (aQ (qC (.bool false))) aV)
 (aD (bV (jx (gY (wB .list (ao 1))) (jC (gY (wB .list (ao 0))))) (aQ (qC (.bool false))) aV)
 (aD (bV (bh (aA yU (eZ pJ (ao 0)) (eZ pJ (ao 1)))) (aQ (qC (.bool false))) aV)
 (aD (rA (DY (aq 0) (aq 1)) (bx [2,3]) (Qz r))
 (aQ (qC (.bool true))))))))))))
def pG:Nat->Mo->List Dat->Out Dat
 |0=>λ_ _=>.bad
 |n+1=>mQ 4 (Ig (pG n))
def Px:SF:=
 (aQ (eZ Jr (eU (DY (ao 0) (ao 1)) (bx [2,3]) [2,3] iI (aA qp (ao 2) (ao 3)))))
def zq:=mQ 4 Px
def Gn:SF:=
 (aQ (eZ kE (CK (dB (ao 1)) (bx [3,4]) [3,4] (jx (gY (aU zq (ak (aq 4) (ak (aq 0) au)))) (bh (aA qp (aU jg (ak (aq 4) (ak (aq 0) au))) (ao 2)))) (aq 3))))
def vN:=mQ 5 Gn
def xR:SF:=
 (aD (cG (gOf (aO aF (bK "grounds" (ao 0)) (ak (aq 1) au))))
 (aD (cG (gOf (aU mK (ak (aq 2) au))))
 (aQ (aU vN (ak (aq 2) (ak (aO bG (ao 0) (ak (aq 1) au)) (ak (aO bQ (ao 0) (ak (aq 1) au)) au)))))))
def tG:=mQ 3 xR
def wY:SF:=
 (bV (bh (aA Tp (ao 2) (ao 3))) (aQ (qC (.bool false))) aV)
def NZ:SF:=
 (aD (rA (DY (aq 0) (aq 1)) (bx [2,3]) wY)
 (aQ (qC (.bool true))))
def CV:=mQ 4 NZ
def mX:SF:=
 (bV (jx (bh (aA Tp (ao 2) (qC (.int 0)))) (bh (aA M8 (aA aW (ao 3) (aA mJ (ao 4) (qC (.int 6)))) (qC (.int 9))))) (aD (TF 3 (aA mJ (ao 4) (qC (.int 6))) (aA gR (aA aW (ao 3) (aA mJ (ao 4) (qC (.int 6)))) (qC (.int 1))))
 (bF (aG 2) (gOf (aA lU (ao 2) (qC (.int 1)))))) aV)
def Nh:SF:=
 (aD (Gp 3 (Jc (ao 0)))
 (aD (rA (dB (aq 1)) (aG 4) mX)
 (aQ (eZ kE (ao 3)))))
def Bc:=mQ 5 Nh
def nM:List (Str×MV):=[("Commons",.q 3 tG)]
def qW:List (Str×MV):=[("Commons",.q 2 lM)]
def Lp:SF:=
 (aD (bF (aG 4) (gOf (aA aW (aA aW (ao 1) (qC (.int 3))) (aA lU (ao 2) (qC (.int 1))))))
 (aD (bF (aG 5) (gOf (aA lU (aU Bb (ak (aq 1) (ak (aA aW (ao 4) (qC (.int 1))) au))) (aU CQ (ak (aA aW (ao 4) (qC (.int 2))) (ak (aA aW (ao 4) (qC (.int 3))) au))))))
 (aD (bV (bh (aA M8 (ao 5) (qC (.int 0)))) (aQ (qC (.bool true))) aV)
 (aD (bV (jC (gY (aU (pG 10) (ak (aO nM (ao 0) (ak (aA aW (ao 4) (qC (.int 1))) (ak (aU Bc (ak (aA aW (ao 4) (qC (.int 3))) (ak (aq 3) (ak (aq 5) au)))) au))) (ak (bO (ak (aA aW (ao 4) (qC (.int 0))) au)) au))))) (aQ (qC (.bool false))) aV)
 (aD (bF (aG 6) (gOf (aO qW (ao 0) (ak (aq 2) au))))
 (aD (bV (bh (xO false .none (ao 6))) (aQ (qC (.bool true))) aV)
 (aD (bV (BL (jC (gY (wB .tuple (ao 6)))) (BL (bh (aA yU (eZ pJ (ao 6)) (qC (.int 3)))) (jC (gY (aU zN (ak (aA aW (ao 6) (qC (.int 0))) au)))))) (aQ (qC (.bool false))) aV)
 (aD (bV (BL (bh (aA qp (aA aW (ao 6) (qC (.int 0))) (ao 5))) (BL (bh (aA cJ (aA aW (ao 6) (qC (.int 1))) (aA aW (ao 4) (qC (.int 0))))) (bh (aA yU (aU CQ (ak (aA aW (ao 4) (qC (.int 3))) (ak (aA aW (ao 6) (qC (.int 2))) au))) (aA aW (ao 6) (qC (.int 0))))))) (aQ (qC (.bool false))) aV)
 (aQ (yc (aU CV (ak (aA aW (ao 4) (qC (.int 3))) (ak (aA aW (ao 6) (qC (.int 2))) au))) (aU (pG 10) (ak (aO nM (ao 0) (ak (aA aW (ao 4) (qC (.int 1))) (ak (aA aW (ao 6) (qC (.int 2))) au))) (ak (bO (ak (aA aW (ao 6) (qC (.int 1))) au)) au)))))))))))))
def Dt:=mQ 7 Lp
def xP:List (Str×MV):=[("Commons",.q 1 ql)]
def CP:SF:=
 (bV (jx (gY (aA aW (ao 5) (qC (.int 4)))) (jx (bh (xO true .none (aA aW (ao 5) (qC (.int 2))))) (jC (gY (aU Dt (ak (aq 1) (ak (aq 2) (ak (aA gR (ao 4) (qC (.int 1))) (ak (aq 3) au))))))))) (aQ (qC (.bool false))) aV)
def ac9:SF:=
 (aD (bF (aG 1) (BW "Commons" pY au))
 (aD (cG (Jz Hf (ak (aq 1) (ak (SN (ao 0) (uK (qC (.int 2))) (uK (qC (.int 44)))) (ak (eZ Ui (aU Ak (ak (aq 0) (ak (qC (.int 0)) au)))) au)))))
 (aD (bF (aG 2) (gOf (aO xP (ao 1) au)))
 (aD (bF (aG 3) (gOf (aU v8 (ak (aU Ak (ak (aq 0) (ak (qC (.int 1)) au))) (ak (qC (.int 14)) (ak (qC (.int 10)) au))))))
 (aD (rA (yw 0 (aA aW (ao 2) (qC (.int 3)))) (bx [4,5]) CP)
 (aQ (qC (.bool true))))))))
def Yk:=mG 6 ac9
theorem X3:FnScope ["self","ones","others","ear"] ["self","ones","others","ear"] (defScope Np):=⟨rfl,rfl,rfl,by decide +kernel,rfl,by decide +kernel,by decide +kernel⟩
abbrev rX(N:List Str)(s:Stmt)(G:List (Str×GV))(B:List Str)(Ms:List (Str×List (Str×MV)))(ml:List Str):Option SF:=rd ⟨N,defScope s,G,B,⟨Ms,j8,xmH,dfH,V9⟩,ml,true⟩ (defBody s)
abbrev rY(N:List Str)(s:Stmt)(G:List (Str×GV))(B:List Str)(Ms:List (Str×List (Str×MV)))(ml:List Str):Option SF:=rdG ⟨N,defScope s,G,B,⟨Ms,j8,xmH,dfH,V9⟩,ml,true⟩ (defBody s)
theorem ahi:FnScope ["_law_found","_law_due","_law_one","_law_other"] ["_law_found","_law_due"] (defScope TJ):=⟨rfl,rfl,rfl,by decide +kernel,rfl,by decide +kernel,by decide +kernel⟩
theorem alI:FnScope ["_law_script","_law_house","_law_stand","_law_figures","_law_at","_law_row_here"] ["_law_script"] (defScope Om):=⟨rfl,rfl,rfl,by decide +kernel,rfl,by decide +kernel,by decide +kernel⟩
theorem Uo:rY ["self"] Iw [] [] [] []=some zM:=by kernel_rfl
theorem Yc:rY ["self"] J8 [] [] [] []=some Bq:=by kernel_rfl
theorem aa8:rY ["self"] O7 [] [] [] []=some Gi:=by kernel_rfl
theorem Vf:rY ["self"] Io [("Herd",.cls 0 Ag),("Rights",.cls 0 vZ),("Grounds",.cls 0 uU)] [] [] []=some zp:=by kernel_rfl
theorem Yb:rX ["self"] Ke [] [] [] []=some Br:=by kernel_rfl
theorem YQ:rX ["self"] Lr [] ["tuple"] [("stand",mY)] []=some DR:=by kernel_rfl
theorem Qn:rX ["self"] Ds [] ["list"] [] []=some wM:=by kernel_rfl
theorem Oq:rX ["self"] BX [] ["list"] [] []=some vB:=by kernel_rfl
theorem VJ:rX ["self"] Hv [] ["len"] [] []=some uO:=by kernel_rfl
theorem X4:rX ["self","ground"] Kr [] [] [("many",fj)] []=some Bs:=by kernel_rfl
theorem Us:rX ["self","ground"] Hr [("NoGround",.exc)] [] [("has",zu)] []=some zP:=by kernel_rfl
theorem Kw:rX ["self","ground"] yS [] [] [("need",aF)] []=some oA:=by kernel_rfl
theorem Ma:rX ["self","ground"] Bl [] ["list"] [("need",aF)] []=some oV:=by kernel_rfl
theorem Mh:rX ["self","ground"] Az [] [] [("together",bH)] []=some oW:=by kernel_rfl
theorem Vp:rX ["self","grounds","beasts","ground","beast"] Ip [] ["range","tuple"] [("all_rows",uD),("owners",vA),("told",v7),("many",fj),("together",bW),("allowance",dY)] []=some zG:=by kernel_rfl
theorem al6:rX ["_law_cell_here","_law_many","_law_base","_law_found","_law_k","_law_turn"] s_row [] ["range","abs"] [] ["_law_found"]=some acO:=by kernel_rfl
theorem agw:rX ["_law_figures","_law_mode","_law_figure"] Yx [] ["tuple","max"] [] []=some P0:=by kernel_rfl
theorem amq:rX ["_law_cell_here","_law_figures"] ag3 [("_law_ear_by",.fq 2 ux),("_law_row",.fq 3 v8)] [] [] []=some acQ:=by kernel_rfl
theorem aaS:rX ["_law_head","_law_rows"] Pg [] [] [] []=some Gm:=by kernel_rfl
theorem afh:rX ["_law_figure","_law_some"] Xc [] [] [] []=some Mj:=by kernel_rfl
theorem JK:rX ["self","owner"] yN [("NoOwner",.exc)] [] [] []=some mH:=by kernel_rfl
theorem UJ:rX ["self","owner","ground","holder","where","mark"] GP [] [] [] []=some zE:=by kernel_rfl
theorem KJ:rX ["self","owner","ground"] Bj [] ["len"] [("marks",cM)] []=some tR:=by kernel_rfl
theorem Jh:rX ["self","owner","ground"] xK [("NoRight",.exc)] [] [("has_right",sW)] []=some qR:=by kernel_rfl
theorem KD:rY ["self"] yX [] [] [] []=some sE:=by kernel_rfl
theorem Lq:rY ["self","owner","ground","mark","row"] Ar [("HasRight",.exc)] [] [] []=some oZ:=by kernel_rfl
theorem ajk:rX ["ear","many","heads","depth","head","left","cut"] adR [("GREATEST_DEPTH",.con cX)] ["range","min"] [] []=some Zt:=by kernel_rfl
theorem ah6:rX ["one","other","here","there"] abv [] ["sum","zip"] [] []=some Vo:=by kernel_rfl
theorem aaZ:rX ["mark","extra","ear"] Pb [("lacks",.fq 2 jg),("torn",.fq 2 MN)] [] [] []=some Gg:=by kernel_rfl
theorem ahl:rX ["one","other"] abH [("lacks",.fq 2 jg)] ["max"] [] []=some Vi:=by kernel_rfl
theorem ajy:rX ["one","other","room"] adz [("apart",.fq 2 Ir)] [] [] []=some Yt:=by kernel_rfl
theorem aap:rX ["mark","extra","rows","room","ear","owner","taken"] Lz [("NoneFree",.exc),("offspring",.fq 2 vO),("meet",.fq 3 rQ)] ["any"] [] []=some xY:=by kernel_rfl
theorem JL:rX ["self","owner","ground"] yH [] [] [("marks",cM)] []=some qX:=by kernel_rfl
theorem agz:rX ["rows"] aav [] ["sorted","set"] [] []=some Qv:=by kernel_rfl
theorem Ot:rX ["self","number","beast"] BZ [] ["enumerate"] [] []=some vD:=by kernel_rfl
theorem Vv:rX ["self","grounds","number","beast"] Gz [] [] [("all_living",dX)] []=some zf:=by kernel_rfl
theorem KC:rX ["self","grounds","owner","ground","mark"] yV [] [] [] []=some sY:=by kernel_rfl
theorem Ge:rX ["self","left_out","ground","near","due","number","beast"] vL [("tidied",.fq 1 qP)] [] [("in_grounds",qT),("grazing",jN),("together",bW)] []=some j9:=by kernel_rfl
theorem K7:rX ["self","ground"] Bo [] [] [("standing_but",dD)] []=some oU:=by kernel_rfl
theorem U0:rX ["self","ground","near"] HD [] ["max"] [("together",bH),("allowance",dY)] []=some uQ:=by kernel_rfl
theorem Uv:rX ["self","ground"] HS [] [] [("room",tL)] []=some vm:=by kernel_rfl
theorem KQ:rY ["self","elder","ground","extra","mark","heir"] Av [("first_free",.fq 4 qm),("BadExtra",.exc),("FEWEST_EXTRA",.con jo),("MOST_EXTRA",.con kY)] [] [("add_right",iQ),("new_owner",iw),("room",bQ),("standing",bG),("first_mark",cC),("need_right",aN),("need",aF),("need_owner",aC)] []=some eO:=by kernel_rfl
theorem JG:rY ["self","allowance"] xU [("BadAllowance",.exc),("GREATEST_ALLOWANCE",.con iy)] [] [("many",fj)] []=some jB:=by kernel_rfl
theorem Jq:rY ["self","allowance"] yu [] [] [("add_ground",lG)] []=some mD:=by kernel_rfl
theorem aeK:rX ["owner","ear","rows","room","holder","mark"] Ww [("meet",.fq 3 rQ),("tidied",.fq 1 qP)] [] [] []=some Ld:=by kernel_rfl
theorem aiG:rX ["one","other","here","there"] abO [] ["tuple","zip","max"] [] []=some Vj:=by kernel_rfl
theorem acp:rX ["owner","ear","rows","room","bars","holder","mark"] Ue [("Clash",.exi ["ones","others","ear"]),("joint",.fq 2 lK),("barring",.fq 4 Aq)] [] [] []=some Cv:=by kernel_rfl
theorem Jb:rX ["self","owner","ear","ground"] yh [("ask_room",.fq 4 oR)] [] [("room",bQ),("standing",bG)] []=some lY:=by kernel_rfl
theorem agE:rX ["parts","depth"] ZR [("GREATEST_DEPTH",.con cX),("PLACES",.con jc)] ["all","len"] [] []=some JW:=by kernel_rfl
theorem ab8:rX ["parts"] SJ [("BadEar",.exc),("is_ear",.fq 1 tX)] [] [] []=some IW:=by kernel_rfl
theorem Tn:rY ["self","owner","ground","mark"] Ei [("HasRight",.exc),("Bare",.exc),("BARE_EAR",.con jE),("need_ear",.fq 1 mK)] [] [("add_right",iQ),("ask_ground",cA),("marks",cM),("need",aF),("need_owner",aC)] []=some gJ:=by kernel_rfl
theorem XM:rY ["self","owner","ground","gone","mark"] Km [("NoRight",.exc)] [] [("marks",cM)] []=some vY:=by kernel_rfl
theorem TY:rY ["self","owner","ground","number","beast"] FP [("StillThere",.exc)] ["any"] [("drop",zU),("grazing",jN),("need_right",aN),("need",aF),("need_owner",aC)] []=some jD:=by kernel_rfl
theorem Pq:rY ["self","stand","owner","ground","due","ear","alive"] DP [] [] [] []=some qN:=by kernel_rfl
theorem aiz:rX ["first","word","mother","owner","ground","ear"] abf [("BARE_EAR",.con jE)] [] [] []=some Oh:=by kernel_rfl
theorem YT:rY ["self","first"] MP [("begun",.fq 1 CT)] [] [("stand_so",jP)] []=some Dj:=by kernel_rfl
theorem Qu:rY ["self","first"] Ed [("Beast",.cls 1 tZ)] ["len"] [] []=some wu:=by kernel_rfl
theorem Rc:rY ["self","owner","ground","ear"] Fp [("need_ear",.fq 1 mK)] [] [("add_beast",jR),("need_right",aN),("need",aF),("need_owner",aC)] []=some jA:=by kernel_rfl
theorem ZP:rX ["self","number"] M7 [("NoBeast",.exc)] ["len"] [] []=some uF:=by kernel_rfl
theorem XJ:rX ["self","number","beast"] Ka [("Dead",.exc)] [] [("known",fM)] []=some v9:=by kernel_rfl
theorem X7:rX ["self","number","beast"] Ks [("Unmarked",.exc)] [] [("living",bL)] []=some rJ:=by kernel_rfl
theorem VD:rY ["self","mother","cow"] Ho [] [] [("add_beast",jR),("marked",aZ)] []=some m9:=by kernel_rfl
theorem acn:rX ["ear","place","at","depth"] T6 [] ["tuple","enumerate"] [] []=some Jk:=by kernel_rfl
theorem adY:rX ["stand","event","owner","ground","due","ear","alive","word"] Wb [("deepened",.fq 2 yF)] [] [] []=some Mg:=by kernel_rfl
theorem U8:rY ["self","event"] Gv [("gone_on",.fq 2 Ah)] [] [("stand_so",jP),("stand",mY)] []=some zH:=by kernel_rfl
theorem X6:rY ["self","beast","found","due"] J9 [("joint",.fq 2 lK)] [] [("befall",bR),("ask_ground",cA),("first_mark",cC),("living",bL)] []=some oH:=by kernel_rfl
theorem UW:rY ["self","beast","place","found"] Hu [("Deepest",.exc),("GREATEST_DEPTH",.con cX),("NoPlace",.exc),("PLACES",.con jc)] ["len"] [("befall",bR),("living",bL)] []=some ji:=by kernel_rfl
theorem XH:rX ["self","mother","number","beast"] J5 [] [] [("all_living",dX),("known",fM)] []=some vX:=by kernel_rfl
theorem Mx:rY ["self","mother","beast","number","calf"] Ba [] [] [("calves",zK),("befall",bR),("known",fM)] []=some uL:=by kernel_rfl
theorem VG:rY ["self","beast","buyer","found","due"] GD [("ask_room",.fq 4 oR),("joint",.fq 2 lK),("SameOwner",.exc)] [] [("lead_calves",iK),("befall",bR),("room",bQ),("standing_but",dD),("first_mark",cC),("need_right",aN),("need_owner",aC),("marked",aZ)] []=some fQ:=by kernel_rfl
theorem Uq:rY ["self","beast","ground","found","left"] HF [("SameGround",.exc)] [] [("lead_calves",iK),("befall",bR),("ask_ground",cA),("need_right",aN),("need",aF),("marked",aZ)] []=some fU:=by kernel_rfl
theorem XQ:rY ["self","beast"] Kg [] [] [("befall",bR),("living",bL)] []=some rM:=by kernel_rfl
theorem ac7:rX ["rows","room","tidy","at","row","greater"] Rb [("meet",.fq 3 rQ),("tidied",.fq 1 qP)] ["enumerate"] [] []=some IK:=by kernel_rfl
theorem Lf:rX ["self","ground","other","room"] Bh [("clashing",.fq 2 uP)] ["max"] [("standing",bG),("room",bQ)] []=some tY:=by kernel_rfl
theorem Ox:rY ["self","grounds","circle","ground"] Cd [] ["tuple"] [] []=some vC:=by kernel_rfl
theorem Ri:rY ["self","ground","other","ones","others"] Fg [("Together",.exc)] ["sorted"] [("enclose",gW),("together",bH)] []=some tK:=by kernel_rfl
theorem RX:rY ["self","ground","other","pairs","row","greater"] Eo [("Clash",.exi ["ones","others","ear"]),("joint",.fq 2 lK),("Together",.exc)] [] [("unite",wV),("quarrels",nY),("together",bW),("need",aF)] []=some jG:=by kernel_rfl
theorem Ux:rY ["self","ground","left","near"] Ij [("Alone",.exc)] [] [("enclose",gW),("together",bH)] []=some qH:=by kernel_rfl
theorem VL:rY ["self","ground"] Hl [] [] [("part",oX)] []=some pZ:=by kernel_rfl
theorem KN:rY ["self","elder","heir","owner","ground","mark"] Ax [] [] [] []=some tV:=by kernel_rfl
theorem aas:rX ["self","owner","number","beast"] Ml [] [] [("all_living",dX)] []=some Dg:=by kernel_rfl
theorem Ow:rY ["self","elder","heir","passed","number","beast"] Ce [("SameOwner",.exc)] [] [("befall",bR),("owned",BK),("hand_over",rZ),("need_owner",aC)] []=some jT:=by kernel_rfl
theorem aaP:rX ["kind","part","greatest"] Oz [("PLACES",.con jc),("GREATEST_PART",.con pH),("is_ear",.fq 1 tX)] ["isinstance","int","len","tuple"] [] []=some vH:=by kernel_rfl
theorem ajs:rX ["deed","shape","parts","kind","part"] adn [("part_fits",.fq 2 iU),("SHAPES",.dic (Ae zL))] ["all","zip","len"] [] []=some aaw:=by kernel_rfl
theorem ZW:rY ["self","deed","word","parts"] Lj [("BadDeed",.exc),("fits",.fq 1 Iu)] [] [("new_heir",sO),("pass_on",ug),("part",yO),("unite",wF),("die",zF),("move",yE),("sell",xX),("tear",yg),("cut",zB),("bear",xQ),("bring",wO),("leave",wz),("enrol",wN),("new_ground",qG),("new_owner",iw)] []=some dh:=by kernel_rfl
theorem akn:rY ["_law_house","_law_deed_here","_law_counts","_law_told","_law_owners","_law_grounds","_law_beasts"] aeJ [("CommonError",.exc)] [] [("do",rN)] []=some Mr:=by kernel_rfl
theorem akL:rX ["_law_ear_here","_law_figures","_law_found","_law_depth","_law_figure","_law_more"] adJ [] ["tuple","zip","max","min"] [] ["_law_found"]=some aao:=by kernel_rfl
theorem afl:rX ["_law_figures","_law_mode","_law_base"] W8 [("_law_ear_by",.fq 2 ux),("_law_near",.fq 2 Nb)] [] [] []=some M6:=by kernel_rfl
theorem amk:rX ["_law_figure","_law_many","_law_sure"] agT [] ["max"] [] []=some Yq:=by kernel_rfl
theorem ajI:rX ["_law_word","_law_one","_law_two","_law_parts","_law_counts","_law_base","_law_sure","_law_mark"] aeg [("_law_ref",.fq 3 jV),("_law_mark_by",.fq 3 xH)] ["int"] [] []=some jZ:=by kernel_rfl
theorem alU:rY ["_law_house","_law_cells","_law_head","_law_counts","_law_base","_law_begun_here","_law_at","_law_cell_here","_law_parts","_law_word","_law_one","_law_two","_law_k"] adh [("_law_done",.fg 3 rH),("_law_deed",.fq 6 gU),("_law_word_by",.fq 1 Ai),("_law_row",.fq 3 v8),("_law_begun",.fq 1 vM),("_law_ear",.fq 1 T8)] ["range","enumerate","len"] [] []=some Td:=by kernel_rfl
theorem ajX:rX ["_law_script","_law_k"] ae4 [] ["len"] [] []=some aai:=by kernel_rfl
theorem aeb:rX ["owner","ear","rows","room","ways","holder","mark"] Xo [("lacks",.fq 2 jg),("joint",.fq 2 lK)] ["min"] [] []=some Mz:=by kernel_rfl
theorem Tv:rX ["self","beast","found"] Ey [("passing",.fq 4 Bf)] [] [("room",bQ),("standing",bG),("marked",aZ)] []=some yj:=by kernel_rfl
theorem ae6:rX ["_law_stand","_law_ground","_law_one"] V4 [] ["max"] [] []=some Lk:=by kernel_rfl
theorem ahS:rX ["_law_one","_law_other","_law_a","_law_b"] ab4 [] ["sum","zip","max"] [] []=some UL:=by kernel_rfl
theorem aiS:rX ["_law_found"] abo [] ["isinstance","bool","int"] [] []=some Uw:=by kernel_rfl
theorem ajO(r:Mo->List Dat->Out Dat):rd ⟨["_law_found","_law_due","_law_one","_law_other"],defScope TJ,[("_law_like",.fq 2 r),("_law_whole",.fq 1 zN)],["zip","len","isinstance","list","tuple","str","int"],⟨[],j8,xmH,dfH,V9⟩,[],true⟩ (defBody TJ)=some (Ig r):=by kernel_rfl
theorem agK:rX ["shallow","deep","low","high"] Yw [] ["all","zip"] [] []=some Px:=by kernel_rfl
theorem aaL:rX ["ear","rows","room","holder","mark"] O8 [("lacks",.fq 2 jg),("deeper",.fq 2 zq)] ["tuple","sorted"] [] []=some Gn:=by kernel_rfl
theorem R8:rX ["self","ground","ear"] Ew [("owners_of",.fq 3 vN),("need_ear",.fq 1 mK)] [] [("room",bQ),("standing",bG),("need",aF)] []=some xR:=by kernel_rfl
theorem aiP:rX ["_law_one","_law_other","_law_a","_law_b"] abE [] ["zip"] [] []=some NZ:=by kernel_rfl
theorem aed:rX ["_law_ear_here","_law_figures","_law_many","_law_found","_law_figure"] WW [] ["tuple","list"] [] ["_law_found"]=some Nh:=by kernel_rfl
theorem alP:rX ["_law_house","_law_stand","_law_beast","_law_figures","_law_row_here","_law_left","_law_found"] adW [("_law_like",.fq 2 (pG 10)),("_law_below",.fq 2 CV),("_law_tears",.fq 2 CQ),("_law_whole",.fq 1 zN),("_law_torn_by",.fq 3 Bc),("_law_room_of",.fq 2 Bb)] ["len","isinstance","tuple"] [("whose",nM),("price",qW)] []=some Lp:=by kernel_rfl
theorem amJ:rY ["_law_script","_law_house","_law_stand","_law_figures","_law_at","_law_row_here"] Om [("_law_held",.fq 4 Dt),("_law_row",.fq 3 v8),("_law_cell",.fq 2 Ak),("_law_play",.fg 3 Hf),("Commons",.cls 0 pY)] ["enumerate","abs"] [("look",xP)] []=some ac9:=by kernel_rfl
structure Top(w:World)(K:arG)(mg:Str->Option Value):Prop where
 ex:∃h:Heap,K.In h/\h.Ns mainGlobals mg
 c:N8 fa fn tbs exB w K
abbrev aj(w:World)(K:arG):aR:=pA w K xsH j8
section
variable{P:Program}{w:World}{K:arG}{mg:Str->Option Value}{base:Heap}{k:Nat}(T:Top w K mg)
include T
theorem Top.glo(i:Nat){x:Str}(h:fa[i]?=some (.glo x):=by rfl):mg x=some (.ref (He.ga K x)):=by obtain⟨_,X,G⟩:=T.ex;exact He.glo_ok X G (T.c.pK i h)
theorem Top.free(i:Nat){x:Str}(h:fa[i]?=some (.free x):=by rfl):mg x=none:=by obtain⟨_,X,G⟩:=T.ex;exact He.free_ok X G (T.c.pK i h)
theorem Top.int(i:Nat){x:Str}{j:Int}(h:fa[i]?=some (.int x j):=by rfl):∃t,mg x=some (.int j t):=by obtain⟨_,X,G⟩:=T.ex;exact He.int_ok X G (T.c.pK i h)
theorem Top.str(i:Nat){x j:Str}(h:fa[i]?=some (.str x j):=by rfl):∃t,mg x=some (.str j t):=by obtain⟨_,X,G⟩:=T.ex;exact He.str_ok X G (T.c.pK i h)
theorem wU:bA P w K mg base (aj w K) k "GREATEST_DEPTH" (.con cX):=by obtain⟨t,h⟩:=T.int 154;exact MK h
theorem Vb:bA P w K mg base (aj w K) k "FEWEST_EXTRA" (.con jo):=by obtain⟨t,h⟩:=T.int 155;exact MK h
theorem ZX:bA P w K mg base (aj w K) k "MOST_EXTRA" (.con kY):=by obtain⟨t,h⟩:=T.int 156;exact MK h
theorem Jj:bA P w K mg base (aj w K) k "GREATEST_ALLOWANCE" (.con iy):=by obtain⟨t,h⟩:=T.int 157;exact MK h
theorem QJ:bA P w K mg base (aj w K) k "PLACES" (.con jc):=aeR (T.glo 158) (λH=>He.tupB_ok (He.ba (He.ba T.c.more).1).2 H) rfl rfl
theorem S7:bA P w K mg base (aj w K) k "BARE_EAR" (.con jE):=aeR (T.glo 159) (λH=>He.tupB_ok (He.ba T.c.more).2 H) rfl rfl
theorem RL:bA P w K mg base (aj w K) k "GREATEST_PART" (.con pH):=by obtain⟨t,h⟩:=T.int 160;exact MK h
theorem agi:bA P w K mg base (aj w K) k "SHAPES" (.dic (Ae zL)):=akY (T.glo 153) (He.ba (He.ba (He.ba T.c.more).1).1).2 (T.c.t.tab 0)
theorem acP:bA P w K mg base (aj w K) k "NoGround" .exc:=iY (by rfl) (T.glo 110) (T.c.pK 111)
theorem aeE:bA P w K mg base (aj w K) k "NoOwner" .exc:=iY (by rfl) (T.glo 112) (T.c.pK 113)
theorem Wu:bA P w K mg base (aj w K) k "NoRight" .exc:=iY (by rfl) (T.glo 114) (T.c.pK 115)
theorem Ub:bA P w K mg base (aj w K) k "HasRight" .exc:=iY (by rfl) (T.glo 116) (T.c.pK 117)
theorem acq:bA P w K mg base (aj w K) k "NoneFree" .exc:=iY (by rfl) (T.glo 118) (T.c.pK 119)
theorem aco:bA P w K mg base (aj w K) k "BadExtra" .exc:=iY (by rfl) (T.glo 120) (T.c.pK 121)
theorem U7:bA P w K mg base (aj w K) k "BadAllowance" .exc:=iY (by rfl) (T.glo 122) (T.c.pK 123)
theorem afw:bA P w K mg base (aj w K) k "BadEar" .exc:=iY (by rfl) (T.glo 125) (T.c.pK 126)
theorem ajn:bA P w K mg base (aj w K) k "Bare" .exc:=iY (by rfl) (T.glo 127) (T.c.pK 128)
theorem aaG:bA P w K mg base (aj w K) k "StillThere" .exc:=iY (by rfl) (T.glo 129) (T.c.pK 130)
theorem aeD:bA P w K mg base (aj w K) k "NoBeast" .exc:=iY (by rfl) (T.glo 131) (T.c.pK 132)
theorem aki:bA P w K mg base (aj w K) k "Dead" .exc:=iY (by rfl) (T.glo 133) (T.c.pK 134)
theorem acC:bA P w K mg base (aj w K) k "Unmarked" .exc:=iY (by rfl) (T.glo 135) (T.c.pK 136)
theorem aex:bA P w K mg base (aj w K) k "Deepest" .exc:=iY (by rfl) (T.glo 137) (T.c.pK 138)
theorem aeo:bA P w K mg base (aj w K) k "NoPlace" .exc:=iY (by rfl) (T.glo 139) (T.c.pK 140)
theorem O4:bA P w K mg base (aj w K) k "SameOwner" .exc:=iY (by rfl) (T.glo 141) (T.c.pK 142)
theorem YM:bA P w K mg base (aj w K) k "SameGround" .exc:=iY (by rfl) (T.glo 143) (T.c.pK 144)
theorem R7:bA P w K mg base (aj w K) k "Together" .exc:=iY (by rfl) (T.glo 145) (T.c.pK 146)
theorem aii:bA P w K mg base (aj w K) k "Alone" .exc:=iY (by rfl) (T.glo 147) (T.c.pK 148)
theorem adI:bA P w K mg base (aj w K) k "BadDeed" .exc:=iY (by rfl) (T.glo 149) (T.c.pK 150)
theorem Xw:bA P w K mg base (aj w K) k "CommonError" .exc:=iY (by rfl) (T.glo 151) (T.c.pK 152)
theorem Top.aha:LK K j8=true:=(He.ba (He.ba (He.ba (He.ba (He.ba (He.ba T.c.more).1).1).1).1).1).2
theorem Top.xf:(V9.all λp=>xsH.contains p.1&&Uk K p.1 p.2)=true:=(He.ba (He.ba (He.ba (He.ba T.c.more).1).1).1).2
theorem Top.hs{Ms:List (Str×List (Str×MV))}(h:Gk P w K mg base (aj w K) k Ms):Um P w K mg base (aj w K) k ⟨Ms,j8,xmH,dfH,V9⟩:=am1 h T.aha (He.ba (He.ba (He.ba (He.ba (He.ba T.c.more).1).1).1).1).2 (by rfl) T.xf
theorem Top.cls{c:Str}{fs:List Str}(h:j8.lookup c=some fs:=by rfl):Cls K (He.ga K c):=(aaf T.aha h).1
local macro_rules | `(tactic| nofun)=>`(tactic| first | (exact λ_ _ _ _ _ _ us hl=>match us,hl with | [_],_=>rfl) | (exact λ_ _ _ _ _ _ us hl=>match us,hl with | [_,_],_=>rfl) | (exact λ_ _ _ _ _ _ us hl=>match us,hl with | [_,_,_],_=>rfl) | (exact λ_ _ _ _ _ _ us hl=>match us,hl with | [_,_,_,_],_=>rfl) | (exact λ_ _ _ _ _ _ us hl=>match us,hl with | [_,_,_,_,_],_=>rfl) | (exact λ_ _ _ _ _ _ us hl=>match us,hl with | [_,_,_,_,_,_],_=>rfl) | (exact λ_ _ _ _ _ _ us hl=>match us,hl with | [_,_,_,_,_,_,_],_=>rfl) | (exact λ_ _ _ _ _ _ us hl=>match us,hl with | [_,_,_,_,_,_,_,_],_=>rfl))
theorem vQ(i j:Nat){x:Str}{k0:Nat}(hk:k0+1<=k){st:Stmt}{N ps ml B:List Str}{G:List (Str×GV)}{Ms:List (Str×List (Str×MV))}{body:SF}(h:rX N st G B Ms ml=some body)(g:Dz P w K mg base (aj w K) k0 G)(b:DN mg B)(ms:Gk P w K mg base (aj w K) k0 Ms)(hi:fn[i]?=some (dF x st):=by rfl)(hj:fa[j]?=some (.glo x):=by rfl)(S:FnScope N ps (defScope st):=by exact⟨rfl,rfl,rfl,by decide +kernel,rfl,by decide +kernel,by decide +kernel⟩)(hb:∀(kV doc pm:Value) (an:Option Addr) (cdv ct:Value) (us:List Value),us.length=ps.length->bindArgs (PySem.W.fnOf x x (defArgs st) (defBody st) (defScope st) .none kV doc pm an cdv ct) ⟨us,[]⟩=pure (ps.zip us):=by nofun):bA P w K mg base (aj w K) k x (.fq ps.length (mQ N.length body)):=by obtain⟨fd,F⟩:=T.c.Wh i hi;exact afv hk (T.glo j hj) F.kp (FunD.bindsN (ps:=ps) F hb) (Y4 (Ef F) S g b (T.hs ms) h)
theorem wQ(i j:Nat){c m q:Str}{k0:Nat}(hk:k0+1<=k){st:Stmt}{N ps ml B:List Str}{G:List (Str×GV)}{Ms:List (Str×List (Str×MV))}{body:SF}(h:rX N st G B Ms ml=some body)(g:Dz P w K mg base (aj w K) k0 G)(b:DN mg B)(ms:Gk P w K mg base (aj w K) k0 Ms)(hi:fn[i]?=some (dM c m q st):=by rfl)(hj:fa[j]?=some (.meth c m):=by rfl)(hx:xsH.contains c=true:=by rfl){fs:List Str}(hc:j8.lookup c=some fs:=by rfl)(hf:((j8.lookup c).getD []).contains m=false:=by rfl)(S:FnScope N ps (defScope st):=by exact⟨rfl,rfl,rfl,by decide +kernel,rfl,by decide +kernel,by decide +kernel⟩)(hb:∀(kV doc pm:Value) (an:Option Addr) (cdv ct:Value) (us:List Value),us.length=ps.length->bindArgs (PySem.W.fnOf m q (defArgs st) (defBody st) (defScope st) .none kV doc pm an cdv ct) ⟨us,[]⟩=pure (ps.zip us):=by nofun):bZ P w K mg base (aj w K) k c m (.q ps.length (mQ N.length body)):=by obtain⟨fd,F⟩:=T.c.Wh i hi;exact anm hk hx (T.cls hc) (T.c.pK j hj) hf (FunD.bindsN (ps:=ps) F hb) (Y4 (Ef F) S g b (T.hs ms) h)
theorem vG(i j:Nat){x:Str}{k0:Nat}(hk:k0+1<=k){st:Stmt}{N ps ml B:List Str}{G:List (Str×GV)}{Ms:List (Str×List (Str×MV))}{body:SF}(h:rY N st G B Ms ml=some body)(g:Dz P w K mg base (aj w K) k0 G)(b:DN mg B)(ms:Gk P w K mg base (aj w K) k0 Ms)(hi:fn[i]?=some (dF x st):=by rfl)(hj:fa[j]?=some (.glo x):=by rfl)(S:FnScope N ps (defScope st):=by exact⟨rfl,rfl,rfl,by decide +kernel,rfl,by decide +kernel,by decide +kernel⟩)(hb:∀(kV doc pm:Value) (an:Option Addr) (cdv ct:Value) (us:List Value),us.length=ps.length->bindArgs (PySem.W.fnOf x x (defArgs st) (defBody st) (defScope st) .none kV doc pm an cdv ct) ⟨us,[]⟩=pure (ps.zip us):=by nofun):bA P w K mg base (aj w K) k x (.fg ps.length (mG N.length body)):=by obtain⟨fd,F⟩:=T.c.Wh i hi;exact anF hk (T.glo j hj) F.kp (FunD.bindsN (ps:=ps) F hb) (RK (Ef F) S g b (T.hs ms) h)
theorem wG(i j:Nat){c m q:Str}{k0:Nat}(hk:k0+1<=k){st:Stmt}{N ps ml B:List Str}{G:List (Str×GV)}{Ms:List (Str×List (Str×MV))}{body:SF}(h:rY N st G B Ms ml=some body)(g:Dz P w K mg base (aj w K) k0 G)(b:DN mg B)(ms:Gk P w K mg base (aj w K) k0 Ms)(hi:fn[i]?=some (dM c m q st):=by rfl)(hj:fa[j]?=some (.meth c m):=by rfl)(hx:xsH.contains c=true:=by rfl){fs:List Str}(hc:j8.lookup c=some fs:=by rfl)(hf:((j8.lookup c).getD []).contains m=false:=by rfl)(S:FnScope N ps (defScope st):=by exact⟨rfl,rfl,rfl,by decide +kernel,rfl,by decide +kernel,by decide +kernel⟩)(hb:∀(kV doc pm:Value) (an:Option Addr) (cdv ct:Value) (us:List Value),us.length=ps.length->bindArgs (PySem.W.fnOf m q (defArgs st) (defBody st) (defScope st) .none kV doc pm an cdv ct) ⟨us,[]⟩=pure (ps.zip us):=by nofun):bZ P w K mg base (aj w K) k c m (.g ps.length (mG N.length body)):=by obtain⟨fd,F⟩:=T.c.Wh i hi;exact anx hk hx (T.cls hc) (T.c.pK j hj) hf (FunD.bindsN (ps:=ps) F hb) (RK (Ef F) S g b (T.hs ms) h)
theorem vI(i j l:Nat){c q:Str}{n:Nat}{k0:Nat}{st:Stmt}{N ps ml B:List Str}{G:List (Str×GV)}{Ms:List (Str×List (Str×MV))}{body:SF}(h:rY N st G B Ms ml=some body)(g:Dz P w K mg base (aj w K) k0 G)(b:DN mg B)(ms:Gk P w K mg base (aj w K) k0 Ms)(hk:k0+1+1<=k)(hi:fn[i]?=some (dM c "__init__" q st):=by rfl)(hj:fa[j]?=some (.mkr c):=by rfl)(hg:fa[l]?=some (.glo c):=by rfl)(hx:xsH.contains c=true:=by rfl){fs:List Str}(hc:j8.lookup c=some fs:=by rfl)(hp:ps.length=n+1:=by rfl)(S:FnScope N ps (defScope st):=by exact⟨rfl,rfl,rfl,by decide +kernel,rfl,by decide +kernel,by decide +kernel⟩)(hb:∀(kV doc pm:Value) (an:Option Addr) (cdv ct:Value) (us:List Value),us.length=ps.length->bindArgs (PySem.W.fnOf "__init__" q (defArgs st) (defBody st) (defScope st) .none kV doc pm an cdv ct) ⟨us,[]⟩=pure (ps.zip us):=by nofun):bA P w K mg base (aj w K) k c (.cls n (mG N.length body)):=by obtain⟨fd,F⟩:=T.c.Wh i hi;exact aj1 hk hx (T.glo l hg) (T.cls hc) (T.c.pK j hj) hp (FunD.bindsN (ps:=ps) F hb) (RK (Ef F) S g b (T.hs ms) h)
theorem abl(hk:2<=k):bA P w K mg base (aj w K) k "Clash" (.exi ["ones","others","ear"]):=by
 have ho:Uk K "Clash" ["ones","others","ear"]=true:=(He.ba (ar7.mp T.xf _ (show(("Clash" : Str),(["ones","others","ear"]:List Str))∈V9 by simp[V9]))).2
 obtain⟨o1,o2,o3,o4,o5⟩:=Ug ho;obtain⟨fd,F⟩:=T.c.Wh 105;have b:=FunD.bindsN (ps:=["self","ones","others","ear"]) F λ_ _ _ _ _ _ us hl=>match us,hl with|[_,_,_,_],_=>rfl
 exact ak2 hk (by rfl) (T.glo 124) ho rfl b (aev (Ef F) X3 o1 (by rfl) (by decide) (o5 _ (by decide)) (o5 _ (by decide)) (o5 _ (by decide)))
theorem aeL(hk:2<=k:=by omega):bA P w K mg base (aj w K) k "Grounds" (.cls 0 uU):=vI T 0 0 105 (ps:=["self"]) Uo trivial trivial trivial hk
theorem af4(hk:2<=k:=by omega):bA P w K mg base (aj w K) k "Rights" (.cls 0 vZ):=vI T 1 1 106 (ps:=["self"]) Yc trivial trivial trivial hk
theorem ajw(hk:2<=k:=by omega):bA P w K mg base (aj w K) k "Herd" (.cls 0 Ag):=vI T 2 2 107 (ps:=["self"]) aa8 trivial trivial trivial hk
theorem ae9(hk:4<=k:=by omega):bA P w K mg base (aj w K) k "Commons" (.cls 0 pY):=vI T 3 3 108 (ps:=["self"]) Vf ⟨ajw T,af4 T,aeL T,atc⟩ trivial trivial hk
theorem Il(hk:1<=k:=by omega):bZ P w K mg base (aj w K) k "Beast" "stand" (.q 1 wj):=wQ T 4 4 hk (ps:=["self"]) Yb trivial trivial trivial
theorem Xx(hk:2<=k:=by omega):bZ P w K mg base (aj w K) k "Beast" "told" (.q 1 yQ):=wQ T 5 5 hk (ps:=["self"]) YQ trivial ⟨T.free 161,atc⟩ ⟨⟨Il T,atc⟩,atc⟩
theorem Oo(hk:1<=k:=by omega):bZ P w K mg base (aj w K) k "Commons" "owners" (.q 1 qZ):=wQ T 6 6 hk (ps:=["self"]) Qn trivial ⟨T.free 162,atc⟩ trivial
theorem Mu(hk:1<=k:=by omega):bZ P w K mg base (aj w K) k "Rights" "all_rows" (.q 1 pP):=wQ T 7 7 hk (ps:=["self"]) Oq trivial ⟨T.free 162,atc⟩ trivial
theorem yG(hk:1<=k:=by omega):bZ P w K mg base (aj w K) k "Grounds" "many" (.q 1 qD):=wQ T 8 8 hk (ps:=["self"]) VJ trivial ⟨T.free 163,atc⟩ trivial
theorem U3(hk:2<=k:=by omega):bZ P w K mg base (aj w K) k "Grounds" "has" (.q 2 vW):=wQ T 9 9 hk (ps:=["self","ground"]) X4 trivial trivial ⟨⟨yG T,atc⟩,atc⟩
theorem gH(hk:3<=k:=by omega):bZ P w K mg base (aj w K) k "Grounds" "need" (.q 2 uW):=wQ T 10 10 hk (ps:=["self","ground"]) Us ⟨acP T,atc⟩ trivial ⟨⟨U3 T,atc⟩,atc⟩
theorem yJ(hk:4<=k:=by omega):bZ P w K mg base (aj w K) k "Grounds" "allowance" (.q 2 jX):=wQ T 11 11 hk (ps:=["self","ground"]) Kw trivial trivial ⟨⟨gH T,atc⟩,atc⟩
theorem ou(hk:4<=k:=by omega):bZ P w K mg base (aj w K) k "Grounds" "together" (.q 2 lg):=wQ T 12 12 hk (ps:=["self","ground"]) Ma trivial ⟨T.free 162,atc⟩ ⟨⟨gH T,atc⟩,atc⟩
theorem sH(hk:5<=k:=by omega):bZ P w K mg base (aj w K) k "Commons" "together" (.q 2 kJ):=wQ T 13 13 hk (ps:=["self","ground"]) Mh trivial trivial ⟨⟨ou T,atc⟩,atc⟩
theorem RP(hk:6<=k:=by omega):bZ P w K mg base (aj w K) k "Commons" "look" (.q 1 ql):=wQ T 14 14 hk (ps:=["self"]) Vp trivial ⟨T.free 164,T.free 161,atc⟩ ⟨⟨Mu T,atc⟩,⟨Oo T,atc⟩,⟨Xx T,atc⟩,⟨yG T,atc⟩,⟨sH T,atc⟩,⟨yJ T,atc⟩,atc⟩
theorem acK(hk:1<=k:=by omega):bA P w K mg base (aj w K) k "_law_row" (.fq 3 v8):=vQ T 15 15 hk (ps:=["_law_cell_here","_law_many","_law_base"]) al6 trivial ⟨T.free 164,T.free 165,atc⟩ trivial
theorem YK(hk:1<=k:=by omega):bA P w K mg base (aj w K) k "_law_ear_by" (.fq 2 ux):=vQ T 16 16 hk (ps:=["_law_figures","_law_mode"]) agw trivial ⟨T.free 161,T.free 166,atc⟩ trivial
theorem amI(hk:2<=k:=by omega):bA P w K mg base (aj w K) k "_law_ear" (.fq 1 T8):=vQ T 17 17 hk (ps:=["_law_cell_here"]) amq ⟨YK T,acK T,atc⟩ trivial trivial
theorem aaY(hk:1<=k:=by omega):bA P w K mg base (aj w K) k "_law_begun" (.fq 1 vM):=vQ T 18 18 hk (ps:=["_law_head"]) aaS trivial trivial trivial
theorem aeO(hk:1<=k:=by omega):bA P w K mg base (aj w K) k "_law_word_by" (.fq 1 Ai):=vQ T 19 19 hk (ps:=["_law_figure"]) afh trivial trivial trivial
theorem gM(hk:1<=k:=by omega):bZ P w K mg base (aj w K) k "Commons" "need_owner" (.q 2 jJ):=wQ T 20 20 hk (ps:=["self","owner"]) JK ⟨aeE T,atc⟩ trivial trivial
theorem tM(hk:1<=k:=by omega):bZ P w K mg base (aj w K) k "Rights" "marks" (.q 3 vf):=wQ T 21 21 hk (ps:=["self","owner","ground"]) UJ trivial trivial trivial
theorem Ky(hk:2<=k:=by omega):bZ P w K mg base (aj w K) k "Rights" "has_right" (.q 3 pF):=wQ T 22 22 hk (ps:=["self","owner","ground"]) KJ trivial ⟨T.free 163,atc⟩ ⟨⟨tM T,atc⟩,atc⟩
theorem jw(hk:3<=k:=by omega):bZ P w K mg base (aj w K) k "Commons" "need_right" (.q 3 lX):=wQ T 23 23 hk (ps:=["self","owner","ground"]) Jh ⟨Wu T,atc⟩ trivial ⟨⟨Ky T,atc⟩,atc⟩
theorem yC(hk:1<=k:=by omega):bZ P w K mg base (aj w K) k "Commons" "new_owner" (.g 1 iT):=wG T 24 24 hk (ps:=["self"]) KD trivial trivial trivial
theorem yR(hk:1<=k:=by omega):bZ P w K mg base (aj w K) k "Rights" "add_right" (.g 4 ju):=wG T 25 25 hk (ps:=["self","owner","ground","mark"]) Lq ⟨Ub T,atc⟩ trivial trivial
theorem alB(hk:1<=k:=by omega):bA P w K mg base (aj w K) k "torn" (.fq 2 MN):=vQ T 26 26 hk (ps:=["ear","many"]) ajk ⟨wU T,atc⟩ ⟨T.free 164,T.free 167,atc⟩ trivial
theorem Nr(hk:1<=k:=by omega):bA P w K mg base (aj w K) k "lacks" (.fq 2 jg):=vQ T 27 27 hk (ps:=["one","other"]) ah6 trivial ⟨T.free 168,T.free 169,atc⟩ trivial
theorem aaK(hk:2<=k:=by omega):bA P w K mg base (aj w K) k "offspring" (.fq 2 vO):=vQ T 28 28 hk (ps:=["mark","extra"]) aaZ ⟨Nr T,alB T,atc⟩ trivial trivial
theorem aiw(hk:2<=k:=by omega):bA P w K mg base (aj w K) k "apart" (.fq 2 Ir):=vQ T 29 29 hk (ps:=["one","other"]) ahl ⟨Nr T,atc⟩ ⟨T.free 166,atc⟩ trivial
theorem aaA(hk:3<=k:=by omega):bA P w K mg base (aj w K) k "meet" (.fq 3 rQ):=vQ T 30 30 hk (ps:=["one","other","room"]) ajy ⟨aiw T,atc⟩ trivial trivial
theorem YZ(hk:4<=k:=by omega):bA P w K mg base (aj w K) k "first_free" (.fq 4 qm):=vQ T 31 31 hk (ps:=["mark","extra","rows","room"]) aap ⟨acq T,aaK T,aaA T,trivial⟩ ⟨T.free 170,trivial⟩ trivial
theorem qd(hk:2<=k:=by omega):bZ P w K mg base (aj w K) k "Commons" "first_mark" (.q 3 mj):=wQ T 32 32 hk (ps:=["self","owner","ground"]) JL trivial trivial ⟨⟨tM T,trivial⟩,trivial⟩
theorem Pk(hk:1<=k:=by omega):bA P w K mg base (aj w K) k "tidied" (.fq 1 qP):=vQ T 33 33 hk (ps:=["rows"]) agz trivial ⟨T.free 171,T.free 172,atc⟩ trivial
theorem uG(hk:1<=k:=by omega):bZ P w K mg base (aj w K) k "Herd" "all_living" (.q 1 pO):=wQ T 34 34 hk (ps:=["self"]) Ot trivial ⟨T.free 173,atc⟩ trivial
theorem Fd(hk:2<=k:=by omega):bZ P w K mg base (aj w K) k "Herd" "grazing" (.q 2 qj):=wQ T 35 35 hk (ps:=["self","grounds"]) Vv trivial trivial ⟨⟨uG T,atc⟩,atc⟩
theorem JX(hk:1<=k:=by omega):bZ P w K mg base (aj w K) k "Rights" "in_grounds" (.q 2 nZ):=wQ T 36 36 hk (ps:=["self","grounds"]) KC trivial trivial trivial
theorem vo(hk:6<=k:=by omega):bZ P w K mg base (aj w K) k "Commons" "standing_but" (.q 3 iV):=wQ T 37 37 hk (ps:=["self","left_out","ground"]) Ge ⟨Pk T,atc⟩ trivial ⟨⟨JX T,atc⟩,⟨Fd T,atc⟩,⟨sH T,atc⟩,atc⟩
theorem jY(hk:7<=k:=by omega):bZ P w K mg base (aj w K) k "Commons" "standing" (.q 2 lA):=wQ T 38 38 hk (ps:=["self","ground"]) K7 trivial trivial ⟨⟨vo T,atc⟩,atc⟩
theorem R4(hk:5<=k:=by omega):bZ P w K mg base (aj w K) k "Grounds" "room" (.q 2 pX):=wQ T 39 39 hk (ps:=["self","ground"]) U0 trivial ⟨T.free 166,atc⟩ ⟨⟨ou T,atc⟩,⟨yJ T,atc⟩,atc⟩
theorem lF(hk:6<=k:=by omega):bZ P w K mg base (aj w K) k "Commons" "room" (.q 2 qu):=wQ T 40 40 hk (ps:=["self","ground"]) Uv trivial trivial ⟨⟨R4 T,atc⟩,atc⟩
theorem Ku(hk:8<=k:=by omega):bZ P w K mg base (aj w K) k "Commons" "new_heir" (.g 4 cY):=wG T 41 41 hk (ps:=["self","elder","ground","extra"]) KQ ⟨YZ T,aco T,Vb T,ZX T,atc⟩ trivial ⟨⟨yR T,atc⟩,⟨yC T,atc⟩,⟨lF T,atc⟩,⟨jY T,atc⟩,⟨qd T,atc⟩,⟨jw T,atc⟩,⟨gH T,atc⟩,⟨gM T,atc⟩,atc⟩
theorem Ik(hk:2<=k:=by omega):bZ P w K mg base (aj w K) k "Grounds" "add_ground" (.g 2 fG):=wG T 42 42 hk (ps:=["self","allowance"]) JG ⟨U7 T,Jj T,atc⟩ trivial ⟨⟨yG T,atc⟩,atc⟩
theorem Hh(hk:3<=k:=by omega):bZ P w K mg base (aj w K) k "Commons" "new_ground" (.g 2 iz):=wG T 43 43 hk (ps:=["self","allowance"]) Jq trivial trivial ⟨⟨Ik T,atc⟩,atc⟩
theorem afc(hk:4<=k:=by omega):bA P w K mg base (aj w K) k "barring" (.fq 4 Aq):=vQ T 44 44 hk (ps:=["owner","ear","rows","room"]) aeK ⟨aaA T,Pk T,atc⟩ trivial trivial
theorem Hz(hk:1<=k:=by omega):bA P w K mg base (aj w K) k "joint" (.fq 2 lK):=vQ T 45 45 hk (ps:=["one","other"]) aiG trivial ⟨T.free 161,T.free 169,T.free 166,atc⟩ trivial
theorem Tt(hk:5<=k:=by omega):bA P w K mg base (aj w K) k "ask_room" (.fq 4 oR):=vQ T 46 46 hk (ps:=["owner","ear","rows","room"]) acp ⟨abl T (by decide),Hz T,afc T,atc⟩ trivial trivial
theorem pW(hk:8<=k:=by omega):bZ P w K mg base (aj w K) k "Commons" "ask_ground" (.q 4 iD):=wQ T 47 47 hk (ps:=["self","owner","ear","ground"]) Jb ⟨Tt T,atc⟩ trivial ⟨⟨lF T,atc⟩,⟨jY T,atc⟩,atc⟩
theorem Z5(hk:1<=k:=by omega):bA P w K mg base (aj w K) k "is_ear" (.fq 1 tX):=vQ T 48 48 hk (ps:=["parts"]) agE ⟨wU T,QJ T,atc⟩ ⟨T.free 174,T.free 163,atc⟩ trivial
theorem IV(hk:2<=k:=by omega):bA P w K mg base (aj w K) k "need_ear" (.fq 1 mK):=vQ T 49 49 hk (ps:=["parts"]) ab8 ⟨afw T,Z5 T,atc⟩ trivial trivial
theorem QS(hk:9<=k:=by omega):bZ P w K mg base (aj w K) k "Commons" "enrol" (.g 4 eE):=wG T 50 50 hk (ps:=["self","owner","ground","mark"]) Tn ⟨Ub T,ajn T,S7 T,IV T,atc⟩ trivial ⟨⟨yR T,atc⟩,⟨pW T,atc⟩,⟨tM T,atc⟩,⟨gH T,atc⟩,⟨gM T,atc⟩,atc⟩
theorem U4(hk:2<=k:=by omega):bZ P w K mg base (aj w K) k "Rights" "drop" (.g 3 oM):=wG T 51 51 hk (ps:=["self","owner","ground"]) XM ⟨Wu T,atc⟩ trivial ⟨⟨tM T,atc⟩,atc⟩
theorem PB(hk:4<=k:=by omega):bZ P w K mg base (aj w K) k "Commons" "leave" (.g 3 gj):=wG T 52 52 hk (ps:=["self","owner","ground"]) TY ⟨aaG T,atc⟩ ⟨T.free 170,atc⟩ ⟨⟨U4 T,atc⟩,⟨Fd T,atc⟩,⟨jw T,atc⟩,⟨gH T,atc⟩,⟨gM T,atc⟩,atc⟩
theorem Cj(hk:1<=k:=by omega):bZ P w K mg base (aj w K) k "Beast" "stand_so" (.g 2 nH):=wG T 53 53 hk (ps:=["self","stand"]) Pq trivial trivial trivial
theorem aiO(hk:1<=k:=by omega):bA P w K mg base (aj w K) k "begun" (.fq 1 CT):=vQ T 54 54 hk (ps:=["first"]) aiz ⟨S7 T,trivial⟩ trivial trivial
theorem ai1(hk:3<=k:=by omega):bA P w K mg base (aj w K) k "Beast" (.cls 1 tZ):=vI T 55 55 109 (ps:=["self","first"]) YT ⟨aiO T,trivial⟩ trivial ⟨⟨Cj T,trivial⟩,trivial⟩ hk
theorem Cg(hk:4<=k:=by omega):bZ P w K mg base (aj w K) k "Herd" "add_beast" (.g 2 rF):=wG T 56 56 hk (ps:=["self","first"]) Qu ⟨ai1 T,trivial⟩ ⟨T.free 163,trivial⟩ trivial
theorem Qi(hk:5<=k:=by omega):bZ P w K mg base (aj w K) k "Commons" "bring" (.g 4 gG):=wG T 57 57 hk (ps:=["self","owner","ground","ear"]) Rc ⟨IV T,atc⟩ trivial ⟨⟨Cg T,atc⟩,⟨jw T,atc⟩,⟨gH T,atc⟩,⟨gM T,atc⟩,atc⟩
theorem BP(hk:1<=k:=by omega):bZ P w K mg base (aj w K) k "Herd" "known" (.q 2 kZ):=wQ T 58 58 hk (ps:=["self","number"]) ZP ⟨aeD T,atc⟩ ⟨T.free 163,atc⟩ trivial
theorem uZ(hk:2<=k:=by omega):bZ P w K mg base (aj w K) k "Herd" "living" (.q 2 rO):=wQ T 59 59 hk (ps:=["self","number"]) XJ ⟨aki T,atc⟩ trivial ⟨⟨BP T,atc⟩,atc⟩
theorem u6(hk:3<=k:=by omega):bZ P w K mg base (aj w K) k "Herd" "marked" (.q 2 oK):=wQ T 60 60 hk (ps:=["self","number"]) X7 ⟨acC T,atc⟩ trivial ⟨⟨uZ T,atc⟩,atc⟩
theorem R6(hk:5<=k:=by omega):bZ P w K mg base (aj w K) k "Commons" "bear" (.g 2 jk):=wG T 61 61 hk (ps:=["self","mother"]) VD trivial trivial ⟨⟨Cg T,atc⟩,⟨u6 T,atc⟩,atc⟩
theorem acX(hk:1<=k:=by omega):bA P w K mg base (aj w K) k "deepened" (.fq 2 yF):=vQ T 62 62 hk (ps:=["ear","place"]) acn trivial ⟨T.free 161,T.free 173,atc⟩ trivial
theorem aeu(hk:2<=k:=by omega):bA P w K mg base (aj w K) k "gone_on" (.fq 2 Ah):=vQ T 63 63 hk (ps:=["stand","event"]) adY ⟨acX T,atc⟩ trivial trivial
theorem jF(hk:3<=k:=by omega):bZ P w K mg base (aj w K) k "Beast" "befall" (.g 2 m7):=wG T 64 64 hk (ps:=["self","event"]) U8 ⟨aeu T,atc⟩ trivial ⟨⟨Cj T,atc⟩,⟨Il T,atc⟩,atc⟩
theorem Vy(hk:9<=k:=by omega):bZ P w K mg base (aj w K) k "Commons" "cut" (.g 2 jU):=wG T 65 65 hk (ps:=["self","beast"]) X6 ⟨Hz T,atc⟩ trivial ⟨⟨jF T,atc⟩,⟨pW T,atc⟩,⟨qd T,atc⟩,⟨uZ T,atc⟩,atc⟩
theorem Ud(hk:4<=k:=by omega):bZ P w K mg base (aj w K) k "Commons" "tear" (.g 3 fO):=wG T 66 66 hk (ps:=["self","beast","place"]) UW ⟨aex T,wU T,aeo T,QJ T,atc⟩ ⟨T.free 163,atc⟩ ⟨⟨jF T,atc⟩,⟨uZ T,atc⟩,atc⟩
theorem Vn(hk:2<=k:=by omega):bZ P w K mg base (aj w K) k "Herd" "calves" (.q 2 rK):=wQ T 67 67 hk (ps:=["self","mother"]) XH trivial trivial ⟨⟨uG T,atc⟩,⟨BP T,atc⟩,atc⟩
theorem yW(hk:4<=k:=by omega):bZ P w K mg base (aj w K) k "Herd" "lead_calves" (.g 2 oY):=wG T 68 68 hk (ps:=["self","mother"]) Mx trivial trivial ⟨⟨Vn T,atc⟩,⟨jF T,atc⟩,⟨BP T,atc⟩,atc⟩
theorem SQ(hk:7<=k:=by omega):bZ P w K mg base (aj w K) k "Commons" "sell" (.g 3 dU):=wG T 69 69 hk (ps:=["self","beast","buyer"]) VG ⟨Tt T,Hz T,O4 T,atc⟩ trivial ⟨⟨yW T,atc⟩,⟨jF T,atc⟩,⟨lF T,atc⟩,⟨vo T,atc⟩,⟨qd T,atc⟩,⟨jw T,atc⟩,⟨gM T,atc⟩,⟨u6 T,atc⟩,atc⟩
theorem Rv(hk:9<=k:=by omega):bZ P w K mg base (aj w K) k "Commons" "move" (.g 3 dW):=wG T 70 70 hk (ps:=["self","beast","ground"]) Uq ⟨YM T,atc⟩ trivial ⟨⟨yW T,atc⟩,⟨jF T,atc⟩,⟨pW T,atc⟩,⟨jw T,atc⟩,⟨gH T,atc⟩,⟨u6 T,atc⟩,atc⟩
theorem U9(hk:4<=k:=by omega):bZ P w K mg base (aj w K) k "Commons" "die" (.g 2 lN):=wG T 71 71 hk (ps:=["self","beast"]) XQ trivial trivial ⟨⟨jF T,atc⟩,⟨uZ T,atc⟩,atc⟩
theorem acS(hk:4<=k:=by omega):bA P w K mg base (aj w K) k "clashing" (.fq 2 uP):=vQ T 72 72 hk (ps:=["rows","room"]) ac7 ⟨aaA T,Pk T,atc⟩ ⟨T.free 173,atc⟩ trivial
theorem Kz(hk:8<=k:=by omega):bZ P w K mg base (aj w K) k "Commons" "quarrels" (.q 3 lC):=wQ T 73 73 hk (ps:=["self","ground","other"]) Lf ⟨acS T,atc⟩ ⟨T.free 166,atc⟩ ⟨⟨jY T,atc⟩,⟨lF T,atc⟩,atc⟩
theorem Aj(hk:1<=k:=by omega):bZ P w K mg base (aj w K) k "Grounds" "enclose" (.g 2 lW):=wG T 74 74 hk (ps:=["self","grounds"]) Ox trivial ⟨T.free 161,atc⟩ trivial
theorem QL(hk:5<=k:=by omega):bZ P w K mg base (aj w K) k "Grounds" "unite" (.g 3 lJ):=wG T 75 75 hk (ps:=["self","ground","other"]) Ri ⟨R7 T,atc⟩ ⟨T.free 171,atc⟩ ⟨⟨Aj T,atc⟩,⟨ou T,atc⟩,atc⟩
theorem Qa(hk:9<=k:=by omega):bZ P w K mg base (aj w K) k "Commons" "unite" (.g 3 gA):=wG T 76 76 hk (ps:=["self","ground","other"]) RX ⟨abl T (by decide),Hz T,R7 T,atc⟩ trivial ⟨⟨QL T,atc⟩,⟨Kz T,atc⟩,⟨sH T,atc⟩,⟨gH T,atc⟩,atc⟩
theorem Tf(hk:5<=k:=by omega):bZ P w K mg base (aj w K) k "Grounds" "part" (.g 2 jr):=wG T 77 77 hk (ps:=["self","ground"]) Ux ⟨aii T,atc⟩ trivial ⟨⟨Aj T,atc⟩,⟨ou T,atc⟩,atc⟩
theorem Rj(hk:6<=k:=by omega):bZ P w K mg base (aj w K) k "Commons" "part" (.g 2 j6):=wG T 78 78 hk (ps:=["self","ground"]) VL trivial trivial ⟨⟨Tf T,atc⟩,atc⟩
theorem Kv(hk:1<=k:=by omega):bZ P w K mg base (aj w K) k "Rights" "hand_over" (.g 3 pB):=wG T 79 79 hk (ps:=["self","elder","heir"]) KN trivial trivial trivial
theorem Xr(hk:2<=k:=by omega):bZ P w K mg base (aj w K) k "Herd" "owned" (.q 2 yD):=wQ T 80 80 hk (ps:=["self","owner"]) aas trivial trivial ⟨⟨uG T,atc⟩,atc⟩
theorem M9(hk:4<=k:=by omega):bZ P w K mg base (aj w K) k "Commons" "pass_on" (.g 3 fX):=wG T 81 81 hk (ps:=["self","elder","heir"]) Ow ⟨O4 T,atc⟩ trivial ⟨⟨jF T,atc⟩,⟨Xr T,atc⟩,⟨Kv T,atc⟩,⟨gM T,atc⟩,atc⟩
theorem aaQ(hk:2<=k:=by omega):bA P w K mg base (aj w K) k "part_fits" (.fq 2 iU):=vQ T 82 82 hk (ps:=["kind","part"]) aaP ⟨QJ T,RL T,Z5 T,atc⟩ ⟨T.free 175,T.free 176,T.free 163,T.free 161,atc⟩ trivial
theorem aly(hk:3<=k:=by omega):bA P w K mg base (aj w K) k "fits" (.fq 1 Iu):=vQ T 83 83 hk (ps:=["deed"]) ajs ⟨aaQ T,agi T,atc⟩ ⟨T.free 174,T.free 169,T.free 163,atc⟩ trivial
theorem Xz(hk:10<=k:=by omega):bZ P w K mg base (aj w K) k "Commons" "do" (.g 2 cV):=wG T 84 84 hk (ps:=["self","deed"]) ZW ⟨adI T,aly T,atc⟩ trivial ⟨⟨Ku T,atc⟩,⟨M9 T,atc⟩,⟨Rj T,atc⟩,⟨Qa T,atc⟩,⟨U9 T,atc⟩,⟨Rv T,atc⟩,⟨SQ T,atc⟩,⟨Ud T,atc⟩,⟨Vy T,atc⟩,⟨R6 T,atc⟩,⟨Qi T,atc⟩,⟨PB T,atc⟩,⟨QS T,atc⟩,⟨Hh T,atc⟩,⟨yC T,atc⟩,atc⟩
theorem alv(hk:11<=k:=by omega):bA P w K mg base (aj w K) k "_law_done" (.fg 3 rH):=vG T 85 85 hk (ps:=["_law_house","_law_deed_here","_law_counts"]) akn ⟨Xw T,atc⟩ trivial ⟨⟨Xz T,atc⟩,atc⟩
theorem akk(hk:1<=k:=by omega):bA P w K mg base (aj w K) k "_law_near" (.fq 2 Nb):=vQ T 86 86 hk (ps:=["_law_ear_here","_law_figures"]) akL trivial ⟨T.free 161,T.free 169,T.free 166,T.free 167,atc⟩ trivial
theorem adi(hk:2<=k:=by omega):bA P w K mg base (aj w K) k "_law_mark_by" (.fq 3 xH):=vQ T 87 87 hk (ps:=["_law_figures","_law_mode","_law_base"]) afl ⟨YK T,akk T,atc⟩ trivial trivial
theorem am0(hk:1<=k:=by omega):bA P w K mg base (aj w K) k "_law_ref" (.fq 3 jV):=vQ T 88 88 hk (ps:=["_law_figure","_law_many","_law_sure"]) amk trivial ⟨T.free 166,atc⟩ trivial
theorem alQ(hk:3<=k:=by omega):bA P w K mg base (aj w K) k "_law_deed" (.fq 6 gU):=vQ T 89 89 hk (ps:=["_law_word","_law_one","_law_two","_law_parts","_law_counts","_law_base"]) ajI ⟨am0 T,adi T,atc⟩ ⟨T.free 176,atc⟩ trivial
theorem akE(hk:12<=k:=by omega):bA P w K mg base (aj w K) k "_law_play" (.fg 3 Hf):=vG T 90 90 hk (ps:=["_law_house","_law_cells","_law_head"]) alU ⟨alv T,alQ T,aeO T,acK T,aaY T,amI T,atc⟩ ⟨T.free 164,T.free 173,T.free 163,atc⟩ trivial
theorem akv(hk:1<=k:=by omega):bA P w K mg base (aj w K) k "_law_cell" (.fq 2 Ak):=vQ T 91 91 hk (ps:=["_law_script","_law_k"]) ajX trivial ⟨T.free 163,atc⟩ trivial
theorem aer(hk:2<=k:=by omega):bA P w K mg base (aj w K) k "passing" (.fq 4 Bf):=vQ T 92 92 hk (ps:=["owner","ear","rows","room"]) aeb ⟨Nr T,Hz T,atc⟩ ⟨T.free 167,atc⟩ trivial
theorem QC(hk:8<=k:=by omega):bZ P w K mg base (aj w K) k "Commons" "price" (.q 2 lM):=wQ T 93 93 hk (ps:=["self","beast"]) Tv ⟨aer T,atc⟩ trivial ⟨⟨lF T,atc⟩,⟨jY T,atc⟩,⟨u6 T,atc⟩,atc⟩
theorem afm(hk:1<=k:=by omega):bA P w K mg base (aj w K) k "_law_room_of" (.fq 2 Bb):=vQ T 94 94 hk (ps:=["_law_stand","_law_ground"]) ae6 trivial ⟨T.free 166,atc⟩ trivial
theorem aiZ(hk:1<=k:=by omega):bA P w K mg base (aj w K) k "_law_tears" (.fq 2 CQ):=vQ T 95 95 hk (ps:=["_law_one","_law_other"]) ahS trivial ⟨T.free 168,T.free 169,T.free 166,atc⟩ trivial
theorem abI(hk:1<=k:=by omega):bA P w K mg base (aj w K) k "_law_whole" (.fq 1 zN):=vQ T 96 96 hk (ps:=["_law_found"]) aiS trivial ⟨T.free 175,T.free 177,T.free 176,atc⟩ trivial
theorem akF(hk:12<=k:=by omega):bA P w K mg base (aj w K) k "_law_like" (.fq 2 (pG 10)):=by
 obtain⟨fd,F⟩:=T.c.Wh 97;have b:=FunD.bindsN (ps:=["_law_found","_law_due"]) F λ_ _ _ _ _ _ us hl=>match us,hl with|[_,_],_=>rfl
 have key:∀j:Nat,FnOk P w K mg base (L2.CX P w) (2+j) (He.ga K "_law_like") fd ["_law_found","_law_due"] (Wj K (aj w K) 2 (pG j)):=by
  intro j
  induction j with
  |zero=>exact ajf
  |succ j ih'=>
   have ih:∀{k:Nat},2+j<=k->bA P w K mg base (aj w K) k "_law_like" (.fq 2 (pG j)):=λhk=>afv hk (T.glo 97) F.kp (b) ih'
   refine Y4 (k:=2+j) (Ef F) ahi ?_ ?_ ?_ (ajO (pG j))
   ·exact⟨ih (ar9 _),abI T,atc⟩
   ·exact⟨T.free 169,T.free 163,T.free 175,T.free 162,T.free 161,T.free 178,T.free 176,atc⟩
   ·exact T.hs trivial
 exact afv hk (T.glo 97) F.kp (b) (key 10)
theorem agg(hk:1<=k:=by omega):bA P w K mg base (aj w K) k "deeper" (.fq 2 zq):=vQ T 98 98 hk (ps:=["shallow","deep"]) agK trivial ⟨T.free 174,T.free 169,atc⟩ trivial
theorem aaO(hk:2<=k:=by omega):bA P w K mg base (aj w K) k "owners_of" (.fq 3 vN):=vQ T 99 99 hk (ps:=["ear","rows","room"]) aaL ⟨Nr T,agg T,atc⟩ ⟨T.free 161,T.free 171,atc⟩ trivial
theorem Q5(hk:8<=k:=by omega):bZ P w K mg base (aj w K) k "Commons" "whose" (.q 3 tG):=wQ T 100 100 hk (ps:=["self","ground","ear"]) R8 ⟨aaO T,IV T,atc⟩ trivial ⟨⟨lF T,atc⟩,⟨jY T,atc⟩,⟨gH T,atc⟩,atc⟩
theorem ahw(hk:1<=k:=by omega):bA P w K mg base (aj w K) k "_law_below" (.fq 2 CV):=vQ T 101 101 hk (ps:=["_law_one","_law_other"]) aiP trivial ⟨T.free 169,atc⟩ trivial
theorem aeG(hk:1<=k:=by omega):bA P w K mg base (aj w K) k "_law_torn_by" (.fq 3 Bc):=vQ T 102 102 hk (ps:=["_law_ear_here","_law_figures","_law_many"]) aed trivial ⟨T.free 161,T.free 162,atc⟩ trivial
theorem ajY(hk:13<=k:=by omega):bA P w K mg base (aj w K) k "_law_held" (.fq 4 Dt):=vQ T 103 103 hk (ps:=["_law_house","_law_stand","_law_beast","_law_figures"]) alP ⟨akF T,ahw T,aiZ T,abI T,aeG T,afm T,atc⟩ ⟨T.free 163,T.free 175,T.free 161,atc⟩ ⟨⟨Q5 T,atc⟩,⟨QC T,atc⟩,atc⟩
theorem aml{fd:FuncData}(F:FunD K "law" "law" (defArgs Om) (defBody Om) (defScope Om) [] [] (He.ga K "law") fd):FnOk P w K mg base (L2.CX P w) 14 (He.ga K "law") fd ["_law_script"] (Ko K (aj w K) 1 Yk):=by
 refine RK (k:=13) (Ef F) alI ?_ ?_ ?_ amJ
 ·exact⟨ajY T,acK T,akv T,akE T,ae9 T,atc⟩
 ·exact⟨T.free 173,T.free 165,atc⟩
 ·exact T.hs ⟨⟨RP T,atc⟩,atc⟩
end
def digs(b:Int):Nat->Int->List Int
 |0,_=>[]
 |n+1,c=>c % b::digs b n (c / b)
def OD(b:Int):Nat->Int->Int->List Int
 |0,_,_=>[]
 |n+1,k,t=>((t * 48271+9973 * k+11) % 2147483647 / 1021 % b)::OD b n (k+1) ((t * 48271+9973 * k+11) % 2147483647)
def Bw(c:Int):Int:=if c < 0 then -c else c
def rowOf(c:Int)(n:Nat)(b:Int):List Int:=if 10 ^ 18<=Bw c then digs b n (Bw c) else OD b n 0 ((Bw c % 1000003+17) * 69621 % 2147483647)
theorem Zw(b:Int):∀n c,(digs b n c).length=n
 |0,_=>rfl
 |n+1,c=>by simp[digs,Zw b n]
theorem abV(b:Int):∀n k t,(OD b n k t).length=n
 |0,_,_=>rfl
 |n+1,k,t=>by simp[OD,abV b n]
theorem abW{b:Int}(hb:0 < b):∀n c,∀x∈digs b n c,0<=x/\x < b
 |0,_,x,h=>by simp[digs]at h
 |n+1,c,x,h=>by
  rcases arV.mp h with rfl|h
  ·exact⟨Int.emod_nonneg _ (by omega),Int.emod_lt_of_pos _ hb⟩
  ·exact abW hb n _ x h
theorem adF{b:Int}(hb:0 < b):∀n k t,∀x∈OD b n k t,0<=x/\x < b
 |0,_,_,x,h=>by simp[OD]at h
 |n+1,k,t,x,h=>by
  rcases arV.mp h with rfl|h
  ·exact⟨Int.emod_nonneg _ (by omega),Int.emod_lt_of_pos _ hb⟩
  ·exact adF hb n _ _ x h
@[simp]theorem abQ (c:Int) (n:Nat) (b:Int):(rowOf c n b).length=n:=by
 unfold rowOf;split
 ·exact Zw ..
 ·exact abV ..
theorem Zh{b:Int}(hb:0 < b)(c:Int)(n:Nat):∀x∈rowOf c n b,0<=x/\x < b:=by
 unfold rowOf;split
 ·exact abW hb _ _
 ·exact adF hb _ _ _
@[simp]theorem abK (M:Mo) (ns:List Int) (k:Nat):Ak M [lI ns,.int k]=.ok (.int (ns.getD k 0)):=by
 unfold Ak aai;by_cases h:k < ns.length
 ·simp[h,atI,ixN]
 ·simp[h]
theorem Zd(M:Mo)(b:Int)(hb:0 < b)(hb2:b < 1073741824):∀(n k:Nat) (c:Int) (x1:Option Cell) (acc:List Dat) (x4 x5:Option Cell),acc.length+n < 100000->∃c' x4',fY (aG 4) Ul ((List.range' k n).map λ(i:Nat)=>PyData.int (i:Int)) M [some (.dat (.int c)),x1,some (.dat (.int b)),some (.mut acc),x4,x5]=.next [c',x1,some (.dat (.int b)),some (.mut (acc++(digs b n c).map .int)),x4',x5] M
 |0,k,c,x1,acc,x4,x5,_=>⟨some (.dat (.int c)),x4,by simp[fY,digs]⟩
 |n+1,k,c,x1,acc,x4,x5,hl=>by
  obtain⟨c',x4',ih⟩:=Zd M b hb hb2 n (k+1) (c / b) x1 (acc++[.int (c % b)]) (some (.dat (.int k))) x5 (by simp;omega);refine⟨c',x4',?_⟩;have h1:decide (CDiv c b)=true:=decide_eq_true ⟨hb,hb2⟩;have hl:acc.length < 100000:=by omega
  rw[List.range'_succ,arK,fV (Z1:=[some (.dat (.int c)),x1,some (.dat (.int b)),some (.mut acc),some (.dat (.int k)),x5]) (by simp) (Z2:=[some (.dat (.int (c / b))),x1,some (.dat (.int b)),some (.mut (acc++[.int (c % b)])),some (.dat (.int k)),x5]) (M2:=M) (by simp[Ul,h1,hb,hl])];rw[ih];simp[digs]
theorem abj(M:Mo)(b:Int)(hb:0 < b):∀(n k:Nat) (t:Int) (x0 x1:Option Cell) (acc:List Dat) (x4:Option Cell),acc.length+n < 100000->∃x4' x5',fY (aG 4) VN ((List.range' k n).map λ(i:Nat)=>PyData.int (i:Int)) M [x0,x1,some (.dat (.int b)),some (.mut acc),x4,some (.dat (.int t))]=.next [x0,x1,some (.dat (.int b)),some (.mut (acc++(OD b n k t).map .int)),x4',x5'] M
 |0,k,t,x0,x1,acc,x4,_=>⟨x4,some (.dat (.int t)),by simp[fY,OD]⟩
 |n+1,k,t,x0,x1,acc,x4,hl=>by
  obtain⟨x4',x5',ih⟩:=abj M b hb n (k+1) ((t * 48271+9973 * k+11) % 2147483647) x0 x1 (acc++[.int ((t * 48271+9973 * k+11) % 2147483647 / 1021 % b)]) (some (.dat (.int k))) (by simp;omega);refine⟨x4',x5',?_⟩;have h1:decide (CMul t 48271)=true:=mul_r (by decide);have h2:decide (CMul 9973 (k:Int))=true:=ahb (by decide);have h3:∀x,decide (CDiv x 1021)=true:=λx=>decide_eq_true ⟨by decide,by decide⟩;have hl:acc.length < 100000:=by omega
  rw[List.range'_succ,arK,fV (Z1:=[x0,x1,some (.dat (.int b)),some (.mut acc),some (.dat (.int k)),some (.dat (.int t))]) (by simp) (Z2:=[x0,x1,some (.dat (.int b)),some (.mut (acc++[.int ((t * 48271+9973 * k+11) % 2147483647 / 1021 % b)])),some (.dat (.int k)),some (.dat (.int ((t * 48271+9973 * k+11) % 2147483647)))]) (M2:=M) (by simp[VN,h1,h2,h3,hb,hl])];rw[ih];simp[OD]
theorem Tg(n:Nat):jy 0 n=(List.range' 0 n).map λ(i:Nat)=>PyData.int (i:Int):=by unfold jy;rw[List.range_eq_range'];simp
theorem aaD(M:Mo)(c:Int)(n:Nat)(b:Int)(hb:0 < b)(hb2:b < 1073741824)(hn:n<=1000):v8 M [.int c,.int n,.int b]=.ok (lI (rowOf c n b)):=by
 unfold v8 acO;have hp:decide (CPow 10 18)=true:=decide_eq_true ⟨by decide,by decide,by decide⟩;have hn1:(n:Int)<=100000:=by omega
 have hn2 : -100000<=(n:Int):=by omega
 have hm:∀x,decide (CMul x 69621)=true:=λx=>mul_r (by decide);have ea:(if c < 0 then -c else c)=Bw c:=rfl;by_cases h:10 ^ 18<=Bw c
 ·obtain⟨c',x4',e⟩:=Zd M b hb hb2 n 0 (Bw c) (some (.dat (.int n))) [] none none (by simp;omega);have e2:rowOf c n b=digs b n (Bw c):=if_pos h;have h':(1000000000000000000:Int)<=Bw c:=by simpa using h
  simp[hp,ea,h',hn1,hn2,Tg,e,e2]
 ·obtain⟨x4',x5',e⟩:=abj M b hb n 0 ((Bw c % 1000003+17) * 69621 % 2147483647) (some (.dat (.int (Bw c)))) (some (.dat (.int n))) [] none (by simp;omega);have e2:rowOf c n b=OD b n 0 ((Bw c % 1000003+17) * 69621 % 2147483647):=if_neg h;have h':¬(1000000000000000000:Int)<=Bw c:=by simpa using h
  have e':=e;simp[hp,ea,h',hn1,hn2,hm,Tg]at e ⊢;rw[e];simp[e2]
def PL(i j:Int):Int:=if j > i then j else i
def zY(l:List Int)(m:Int):List Int:=if m % 4=1 then l.map λf=>PL 0 (f - 7) else if m % 4=2 then l.map λf=>f % 3 else l
theorem W0(M:Mo)(l:List Int)(m:Int)(hl:l.length<=1000):ux M [lI l,.int m]=.ok (aJ (zY l m)):=by
 unfold ux P0;have hl':l.length<=50000:=by omega
 have c1:=fu (tg:=aG 2) (te:=aA tD (qC (.int 0)) (aA lU (ao 2) (qC (.int 7)))) (M:=M) (Z:=[some (.dat (lI l)),some (.dat (.int m)),none]) PyData.int (λf=>.int (PL 0 (f - 7))) l λx _=>⟨_,rfl,by simp[PL]⟩;have c2:=fu (tg:=aG 2) (te:=aA mJ (ao 2) (qC (.int 3))) (M:=M) (Z:=[some (.dat (lI l)),some (.dat (.int m)),none]) PyData.int (λf=>.int (f % 3)) l λx _=>⟨_,rfl,by simp⟩;by_cases h1:m % 4=1
 ·simp[h1,hl',c1,zY,ar5]
 ·by_cases h2:m % 4=2
  ·simp[h2,hl',c2,zY,ar5]
  ·simp[h1,h2,zY]
def NP(c:Int):List Int:=zY ((rowOf c 7 10).take 6) ((rowOf c 7 10).getD 6 0)
theorem agd{α:Type}(l:List α)(n:Nat):Rf.cutD l none (some (n:Int))=l.take n:=by unfold Rf.cutD;rw[HT.sIx_nat];simp[HT.sIx]
theorem YF{α:Type}(l:List α)(n:Nat):Rf.cutD l (some (n:Int)) none=l.drop n:=by
 unfold Rf.cutD;rw[HT.sIx_nat];simp[HT.sIx];by_cases h:n<=l.length
 ·rw[Nat.min_eq_left h];exact List.take_of_length_le (by simp)
 ·rw[Nat.min_eq_right (by omega),List.drop_eq_nil_of_le (by omega),List.drop_eq_nil_of_le (by omega)];simp
theorem Qe(l:List Int)(n:Nat)(h:n < l.length):atI (l.map PyData.int) (n:Int)=some (.int (l.getD n 0)):=atI_nat (by simp[h])
theorem aj7(M:Mo)(c:Int):T8 M [.int c]=.ok (aJ (NP c)):=by
 unfold T8 acQ;have h1:v8 M [.int c,.int 7,.int 10]=.ok (.list ((rowOf c 7 10).map .int)):=aaD M c 7 10 (by decide) (by decide) (by decide);have h2:Rf.cutD ((rowOf c 7 10).map PyData.int) none (some 6)=((rowOf c 7 10).take 6).map PyData.int:=by rw[show(6:Int)=((6:Nat):Int) from rfl,agd,List.map_take]
 have h3:atI ((rowOf c 7 10).map PyData.int) 6=some (.int ((rowOf c 7 10).getD 6 0)):=Qe _ 6 (by simp);have h4:ux M [.list (((rowOf c 7 10).take 6).map .int),.int ((rowOf c 7 10).getD 6 0)]=.ok (.tuple ((NP c).map .int)):=W0 M _ _ (by simp);generalize (rowOf c 7 10).getD 6 0=z at h3 h4;generalize ((rowOf c 7 10).take 6).map PyData.int=y at h2 h4;simp[h1,h2,h3,h4]
theorem adG(c:Int):(NP c).length=6:=by
 unfold NP zY;split
 ·simp
 ·split<;>simp
theorem agA{l:List Int}{m:Int}(h:∀x∈l,0<=x/\x < 10):∀x∈zY l m,0<=x/\x < 10:=by
 unfold zY PL;split
 ·intro x hx;obtain⟨y,hy,rfl⟩:=arQ.mp hx;have:=h y hy
  split<;>omega
 ·split
  ·intro x hx;obtain⟨y,hy,rfl⟩:=arQ.mp hx;have:=h y hy;omega
  ·exact h
mutual
def lk:Nat->Dat->Bool
 |_,.none=>true
 |_,.bool _=>true
 |_,.int _=>true
 |_,.str _=>true
 |n+1,.list ds=>Xl n ds
 |n+1,.tuple ds=>Xl n ds
 |0,.list _=>false
 |0,.tuple _=>false
 |_,.dict _=>false
def Xl:Nat->List Dat->Bool
 |_,[]=>true
 |n,d::ds=>lk n d&&Xl n ds
end
theorem NT{n:Nat}:∀{ds:List Dat},Xl n ds=true↔∀d∈ds,lk n d=true
 |[]=>by simp[Xl]
 |d::ds=>by simp[Xl,NT (ds:=ds)]
@[simp]theorem anS (n:Nat) (l:List Int):Xl n (l.map PyData.int)=true:=NT.mpr λd h=>by
 obtain⟨i,_,rfl⟩:=arQ.mp h;simp[lk]
theorem Lg(M:Mo)(i:Int):zN M [.int i]=.ok (.bool true):=by unfold zN Uw;simp[xV,Bp]
theorem zip_self(ds:List Dat):xZ ds ds=ds.map λd=>.tuple [d,d]:=by unfold xZ;rw[List.zipWith_self]
theorem KH(M:Mo)(r:Mo->List Dat->Out Dat)(x0 x1:Option Cell):∀(ds:List Dat) (x2 x3:Option Cell),(∀d∈ds,r M [d,d]=.ok (.bool true))->∃x2' x3',fY (bx [2,3]) (Qz r) (ds.map λd=>PyData.tuple [d,d]) M [x0,x1,x2,x3]=.next [x0,x1,x2',x3'] M
 |[],x2,x3,_=>⟨x2,x3,rfl⟩
 |d::ds,x2,x3,h=>by
  obtain⟨x2',x3',ih⟩:=KH M r x0 x1 ds (some (.dat d)) (some (.dat d)) λd hd=>h d (arL _ hd);refine⟨x2',x3',?_⟩;have hd:=h d arM;rw[arK,fV (Z1:=[x0,x1,some (.dat d),some (.dat d)]) (by simp) (Z2:=[x0,x1,some (.dat d),some (.dat d)]) (M2:=M) (by simp[Qz,hd])];exact ih
theorem ahZ(M:Mo):∀(n:Nat) (d:Dat),lk n d=true->pG (n+1) M [d,d]=.ok (.bool true):=by
 intro n
 induction n with
 |zero=>
  intro d h;show mQ 4 (Ig (pG 0)) M [d,d]=_;unfold Ig;cases d with
  |none=>simp[mO]
  |bool b=>cases b<;>simp[mO]
  |int i=>simp[mO,xV,Bp,Lg]
  |str x=>simp[mO,xV,Bp]
  |list ds=>simp[lk]at h
  |tuple ds=>simp[lk]at h
  |dict kv=>simp[lk]at h
 |succ n ih=>
  intro d h;show mQ 4 (Ig (pG (n+1))) M [d,d]=_;unfold Ig;cases d with
  |none=>simp[mO]
  |bool b=>cases b<;>simp[mO]
  |int i=>simp[mO,xV,Bp,Lg]
  |str x=>simp[mO,xV,Bp]
  |list ds=>
   rw[lk,NT]at h;obtain⟨x2',x3',e⟩:=KH M (pG (n+1)) (some (.dat (.list ds))) (some (.dat (.list ds))) ds none none λd hd=>ih d (h d hd);simp[mO,xV,Bp,zip_self,e]
  |tuple ds=>
   rw[lk,NT]at h;obtain⟨x2',x3',e⟩:=KH M (pG (n+1)) (some (.dat (.tuple ds))) (some (.dat (.tuple ds))) ds none none λd hd=>ih d (h d hd);simp[mO,xV,Bp,zip_self,e]
  |dict kv=>simp[lk]at h
inductive En where
 |torn (p:Nat)|cut (e:List Int)|sold (o:Int) (e:List Int)|moved (g:Int)|followed (o g:Int)|passed (o:Int)|died
def En.dat:En->Dat
 |.torn p=>.tuple [.str "torn",.int p]
 |.cut e=>.tuple [.str "cut",aJ e]
 |.sold o e=>.tuple [.str "sold",.int o,aJ e]
 |.moved g=>.tuple [.str "moved",.int g]
 |.followed o g=>.tuple [.str "followed",.int o,.int g]
 |.passed o=>.tuple [.str "passed",.int o]
 |.died=>.tuple [.str "died"]
inductive Fi where
 |brought (o g:Int) (e:List Int)|born (m o g:Int)
def Fi.dat:Fi->Dat
 |.brought o g e=>.tuple [.str "brought",.int o,.int g,aJ e]
 |.born m o g=>.tuple [.str "born",.int m,.int o,.int g]
structure Sd where
 o:Int
 g:Int
 due:Option (List Int)
 ear:List Int
 al:Bool
def qb:Option (List Int)->Dat
 |none=>.none
 |some e=>aJ e
def Sd.dat(s:Sd):Dat:=.tuple [.int s.o,.int s.g,qb s.due,aJ s.ear,.bool s.al]
def uJ(l:List Int)(p:Nat):List Int:=l.mapIdx λi x=>if i=p then x+1 else x
def go(s:Sd):En->Sd
 |.torn p=>{ s with ear:=uJ s.ear p }
 |.cut e=>{ s with due:=some e,ear:=e }
 |.sold o e=>{ s with o:=o,due:=some e,ear:=e }
 |.moved g=>{ s with g:=g }
 |.followed o g=>{ s with o:=o,g:=g }
 |.passed o=>{ s with o:=o }
 |.died=>{ s with al:=false }
def beg:Fi->Sd
 |.brought o g e=>⟨o,g,none,e,true⟩
 |.born _ o g=>⟨o,g,none,[0,0,0,0,0,0],true⟩
theorem afx(M:Mo)(f:Fi):CT M [f.dat]=.ok (beg f).dat:=by cases f<;>simp[CT,Oh,Fi.dat,beg,Sd.dat,qb,jE]
theorem aaT(M:Mo)(l:List Int)(p:Nat)(hl:l.length<=1000):yF M [aJ l,.int p]=.ok (aJ (uJ l p)):=by
 unfold yF Jk;have c:pQ 0 (l.map PyData.int)=(l.mapIdx λi x=>(i,x)).map λ(q:Nat×Int)=>PyData.tuple [.int q.1,.int q.2]:=by unfold pQ;rw[List.mapIdx_eq_mapIdx_iff.mpr (λi h=>rfl)];apply asl;intro i;simp;cases l[i]?<;>simp
 have c2:=fu (tg:=bx [2,3]) (te:=Ua (bh (aA cJ (ao 2) (ao 1))) (aA gR (ao 3) (qC (.int 1))) (aq 3)) (M:=M) (Z:=[some (.dat (aJ l)),some (.dat (.int p)),none,none]) (λ(q:Nat×Int)=>PyData.tuple [.int q.1,.int q.2]) (λq=>.int (if q.1=p then q.2+1 else q.2)) (l.mapIdx λi x=>(i,x)) λx _=>⟨[some (.dat (aJ l)),some (.dat (.int p)),some (.dat (.int x.1)),some (.dat (.int x.2))],by simp,by
  by_cases h:x.1=p
  ·simp[h]
  ·have h':¬((x.1:Int)=p):=by omega
   simp[h,h']⟩
 have hl':l.length<=50000:=by omega
 simp[c,c2,hl',uJ];apply asl;intro i;simp;cases l[i]?<;>simp
theorem aci(l:List Int)(p:Nat):(uJ l p).length=l.length:=by simp[uJ]
theorem gone_ok(M:Mo)(s:Sd)(e:En)(hl:s.ear.length<=1000):Ah M [s.dat,e.dat]=.ok (go s e).dat:=by have h:=λp=>aaT M s.ear p hl;cases e<;>simp[Ah,Mg,En.dat,go,Sd.dat,qb,h]
abbrev Row3:=Int×Int×List Int
def iZ(r:Row3):Dat:=.tuple [.int r.1,.int r.2.1,aJ r.2.2]
structure dG where
 fi:Fi
 en:List En
 mo:Int
 sd:Sd
structure aK where
 count:Int
 own:List Int
 al:List Int
 ci:List (List Int)
 held:List Row3
 bs:List dG
structure Lay where
 c:Nat
 g:Nat
 r:Nat
 h:Nat
 bs:List Nat
 fr:List (Nat×Inst)
def aP(L:Lay)(c:aK):Inst:=⟨"Commons",[("owner_count",.dat (.int c.count)),("holders",.dic false (c.own.map λo=>(.int o,.bool true))),("grounds",.dat (ob L.g)),("rights",.dat (ob L.r)),("herd",.dat (ob L.h))]⟩
def dH(n m:Nat)(c:aK):Inst:=⟨"Grounds",[("allowances",.lst n (c.al.map PyData.int)),("circles",.lst m (c.ci.map aJ))]⟩
def oF(c:aK):Inst:=⟨"Rights",[("held",.dic true (c.held.map λr=>(iZ r,.bool true)))]⟩
def dO(n:Nat)(L:Lay):Inst:=⟨"Herd",[("beasts",.lst n (L.bs.map ob))]⟩
def iB(n:Nat)(b:dG):Inst:=⟨"Beast",[("story",.lst n (b.fi.dat::b.en.map En.dat)),("mother",.dat (.int b.mo)),("owner",.dat (.int b.sd.o)),("ground",.dat (.int b.sd.g)),("due",.dat (qb b.sd.due)),("ear",.dat (aJ b.sd.ear)),("alive",.dat (.bool b.sd.al))]⟩
structure At(M:Mo)(L:Lay)(c:aK):Prop where
 hc:M[L.c]?=some (aP L c)
 hg:∃n m,M[L.g]?=some (dH n m c)
 hr:M[L.r]?=some (oF c)
 hh:∃n,M[L.h]?=some (dO n L)
 len:L.bs.length=c.bs.length
 hb:∀(i h:Nat) (b:dG),L.bs[i]?=some h->c.bs[i]?=some b->∃n,M[h]?=some (iB n b)
 nd:(L.c::L.g::L.r::L.h::L.bs).Nodup
 fr:∀p∈L.fr,M[p.1]?=some p.2/\p.1∉L.c::L.g::L.r::L.h::L.bs
section
variable{M:Mo}{L:Lay}{c:aK}(a:At M L c)
include a
theorem abN:qD M [ob L.g]=.ok (.int c.al.length):=by obtain⟨n,m,hg⟩:=a.hg;simp[qD,uO,hg,dH]
theorem ajP(g:Int):vW M [ob L.g,.int g]=.ok (.bool (decide (1<=g/\g<=c.al.length))):=by obtain⟨n,m,hg⟩:=a.hg;have:=abN a;by_cases h:1<=g<;>simp[vW,Bs,hg,dH,this,fj,h]
end
@[simp]theorem afC {α:Type} (l:List α) (n:Nat):atI l (n:Int)=l[n]?:=by
 cases h:l[n]? with
 |some a=>exact atI_nat h
 |none=>
  have hl:=List.getElem?_eq_none_iff.mp h;unfold atI ixN;rw[if_pos (by omega),if_neg (by omega)];rfl
abbrev Vg(c:aK)(x:Int):Prop:=1<=x/\x<=c.al.length
theorem rG{c:aK}{x:Int}(h:Vg c x):∃k:Nat,k < c.al.length/\x=(k:Int)+1:=⟨(x - 1).toNat,by omega,by omega⟩
structure dw(c:aK):Prop where
 len:c.ci.length=c.al.length
 few:c.al.length<=200
 al:∀x∈c.al,0<=x/\x<=9
 mem:∀(k:Nat) (l:List Int),c.ci[k]?=some l->∀y∈l,Vg c y
 own:∀(k:Nat) (l:List Int),c.ci[k]?=some l->(k:Int)+1∈l
 up:∀(k:Nat) (l:List Int),c.ci[k]?=some l->l.Pairwise (· < ·)
 one:∀(k j:Nat) (l:List Int),c.ci[k]?=some l->(j:Int)+1∈l->c.ci[j]?=some l
def aH(c:aK)(x:Int):List Int:=(c.ci[(x - 1).toNat]?).getD []
def lV(c:aK)(x:Int):Int:=(c.al[(x - 1).toNat]?).getD 0
def acZ:List Int->Int
 |[]=>0
 |n::ns=>FZ n ns
def roomOf(c:aK)(x:Int):Int:=acZ ((aH c x).map (lV c))
theorem afj:∀{l:List Int} {lo hi:Int},l.Pairwise (· < ·)->(∀y∈l,lo<=y/\y<=hi)->(l.length:Int)<=max 0 (hi - lo+1)
 |[],_,_,_,_=>by simp;omega
 |x::l,lo,hi,h,hb=>by
  rw[List.pairwise_cons]at h;have:=afj (lo:=x+1) (hi:=hi) h.2 λy hy=>⟨by have:=h.1 y hy;omega,(hb y (arL _ hy)).2⟩;have:=hb x arM;simp;omega
theorem maxD_ints{l:List Int}(h:l≠[]):maxD (.list (l.map PyData.int))=.ok (.int (acZ l)):=by
 cases l with
 |nil=>exact absurd rfl h
 |cons n ns=>
  show(match intsOf ((n::ns).map PyData.int) with
   |some (n::ns)=>Out.ok (PyData.int (FZ n ns))
   |_=>Out.bad)=_
  rw[mF];rfl
theorem dw.clen{c:aK}(i:dw c){k:Nat}{l:List Int}(h:c.ci[k]?=some l):l.length<=200:=by have:=afj (lo:=1) (hi:=c.al.length) (i.up k l h) λy hy=>i.mem k l h y hy;have:=i.few;omega
section
variable{M:Mo}{L:Lay}{c:aK}(a:At M L c)
include a
theorem uV(x:Int):uW M [ob L.g,.int x]=if Vg c x then .ok .none else .exc ⟨"NoGround",[]⟩:=by obtain⟨n,m,hg⟩:=a.hg;have:=ajP a x;by_cases h:Vg c x<;>simp[uW,zP,hg,dH,this,zu,h]
theorem Lw(x:Int):jX M [ob L.g,.int x]=if Vg c x then .ok (.int (lV c x)) else .exc ⟨"NoGround",[]⟩:=by
 obtain⟨n,m,hg⟩:=a.hg;have hn:=uV a x;by_cases h:Vg c x
 ·obtain⟨k,hk,rfl⟩:=rG h;rw[if_pos h]at hn ⊢;simp[jX,oA,hg,dH,hn,aF,lV,hk]
 ·rw[if_neg h]at hn ⊢;simp[jX,oA,hg,dH,hn,aF]
theorem vP(i:dw c)(x:Int):lg M [ob L.g,.int x]=if Vg c x then .ok (lI (aH c x)) else .exc ⟨"NoGround",[]⟩:=by
 obtain⟨n,m,hg⟩:=a.hg;have hn:=uV a x;by_cases h:Vg c x
 ·obtain⟨k,hk,rfl⟩:=rG h;have hk':k < c.ci.length:=by rw[i.len];exact hk
  rw[if_pos h]at hn ⊢;simp[lg,oV,hg,dH,hn,aF,aH,hk']
 ·rw[if_neg h]at hn ⊢;simp[lg,oV,hg,dH,hn,aF]
theorem aiL(i:dw c)(x:Int):pX M [ob L.g,.int x]=if Vg c x then .ok (.int (roomOf c x)) else .exc ⟨"NoGround",[]⟩:=by
 obtain⟨n,m,hg⟩:=a.hg;have hn:=vP a i x;by_cases h:Vg c x
 ·rw[if_pos h]at hn ⊢;obtain⟨k,hk,rfl⟩:=rG h;have hk':k < c.ci.length:=by rw[i.len];exact hk
  have hc:c.ci[k]?=some (aH c ((k:Int)+1)):=by simp[aH,hk']
  unfold roomOf;generalize aH c ((k:Int)+1)=l at hc hn ⊢;have hl:l.length<=50000:=by have:=i.clen hc;omega
  have hne:l.map (lV c)≠[]:=λz=>by
   have:=i.own k l hc;rw[List.map_eq_nil_iff.mp z]at this;cases this
  have key:=fu (tg:=aG 2) (te:=aO dY (ao 0) (ak (aq 2) au)) (M:=M) (Z:=[some (.dat (ob L.g)),some (.dat (.int ((k:Int)+1))),none]) PyData.int (λy=>.int (lV c y)) l λy hy=>⟨[some (.dat (ob L.g)),some (.dat (.int ((k:Int)+1))),some (.dat (.int y))],by simp,by
   have:=Lw a y;rw[if_pos (i.mem k l hc y hy)]at this;simp[hg,dH,dY,this]⟩
  simp[pX,uQ,hg,dH,hn,bH,key,hl];have:=maxD_ints hne;rw[asi]at this;simp[ar5]at this ⊢;simp[this]
 ·rw[if_neg h]at hn ⊢;simp[pX,uQ,hg,dH,hn,bH]
end
theorem bM{M:Mo}{h k:Nat}{i j:Inst}(hm:M[h]?=some j):(M.set h i)[k]?=if h=k then some i else M[k]?:=by
 have hl:h < M.length:=(arJ.mp hm).1;rw[asM];by_cases e:h=k
 ·subst e;rw[if_pos rfl,if_pos hl,if_pos rfl]
 ·rw[if_neg e,if_neg e]
theorem At.neq{M:Mo}{L:Lay}{c:aK}(a:At M L c):L.c≠L.g/\L.c≠L.r/\L.c≠L.h/\L.g≠L.r/\L.g≠L.h/\L.r≠L.h/\(∀x∈L.bs,L.c≠x/\L.g≠x/\L.r≠x/\L.h≠x)/\L.bs.Nodup:=by have nd:=a.nd;simp only[ata,arV,not_or]at nd;obtain⟨⟨n1,n2,n3,n4⟩,⟨n5,n6,n7⟩,⟨n8,n9⟩,n10,n11⟩:=nd;exact⟨n1,n2,n3,n5,n6,n8,λx hx=>⟨λz=>n4 (z ▸ hx),λz=>n7 (z ▸ hx),λz=>n9 (z ▸ hx),λz=>n10 (z ▸ hx)⟩,n11⟩
theorem At.frS{M:Mo}{L:Lay}{c:aK}(a:At M L c){h:Nat}{i j:Inst}(hm:M[h]?=some j)(hh:h∈L.c::L.g::L.r::L.h::L.bs):∀p∈L.fr,(M.set h i)[p.1]?=some p.2/\p.1∉L.c::L.g::L.r::L.h::L.bs:=λp hp=>by
 obtain⟨h1,h2⟩:=a.fr p hp;refine⟨?_,h2⟩;rw[bM hm,if_neg (λ(z:h=p.1)=>h2 (z ▸ hh))];exact h1
theorem At.setG{M:Mo}{L:Lay}{c:aK}(a:At M L c){al:List Int}{ci:List (List Int)}{n m:Nat}:At (M.set L.g (dH n m { c with al:=al,ci:=ci })) L { c with al:=al,ci:=ci }:=by
 obtain⟨n',m',hg⟩:=a.hg;obtain⟨e1,e2,e3,e4,e5,e6,e7,e8⟩:=a.neq;have e1':=Ne.symm e1;refine⟨?_,⟨n,m,?_⟩,?_,?_,a.len,λi h b h1 h2=>?_,a.nd,a.frS hg (by simp)⟩
 ·rw[bM hg,if_neg e1'];exact a.hc
 ·rw[bM hg,if_pos rfl]
 ·rw[bM hg,if_neg e4];exact a.hr
 ·rw[bM hg,if_neg e5];exact a.hh
 ·rw[bM hg,if_neg (e7 h (arN h1)).2.1];exact a.hb i h b h1 h2
theorem At.afA{M:Mo}{L:Lay}{c:aK}(a:At M L c){held:List Row3}:At (M.set L.r (oF { c with held:=held })) L { c with held:=held }:=by
 obtain⟨e1,e2,e3,e4,e5,e6,e7,e8⟩:=a.neq;have e2':=Ne.symm e2;have e4':=Ne.symm e4;have hr:=a.hr;refine⟨?_,?_,?_,?_,a.len,λi h b h1 h2=>?_,a.nd,a.frS hr (by simp)⟩
 ·rw[bM hr,if_neg e2'];exact a.hc
 ·rw[bM hr,if_neg e4'];exact a.hg
 ·rw[bM hr,if_pos rfl]
 ·rw[bM hr,if_neg e6];exact a.hh
 ·rw[bM hr,if_neg (e7 h (arN h1)).2.2.1];exact a.hb i h b h1 h2
theorem At.setC{M:Mo}{L:Lay}{c:aK}(a:At M L c){n:Int}{own:List Int}:At (M.set L.c (aP L { c with count:=n,own:=own })) L { c with count:=n,own:=own }:=by
 obtain⟨e1,e2,e3,e4,e5,e6,e7,e8⟩:=a.neq;have hc:=a.hc;refine⟨?_,?_,?_,?_,a.len,λi h b h1 h2=>?_,a.nd,a.frS hc (by simp)⟩
 ·rw[bM hc,if_pos rfl]
 ·rw[bM hc,if_neg e1];exact a.hg
 ·rw[bM hc,if_neg e2];exact a.hr
 ·rw[bM hc,if_neg e3];exact a.hh
 ·rw[bM hc,if_neg (e7 h (arN h1)).1];exact a.hb i h b h1 h2
theorem At.setB{M:Mo}{L:Lay}{c:aK}(a:At M L c){k h n:Nat}{b':dG}(hk:L.bs[k]?=some h):At (M.set h (iB n b')) L { c with bs:=c.bs.set k b' }:=by
 obtain⟨e1,e2,e3,e4,e5,e6,e7,e8⟩:=a.neq;have hl:k < c.bs.length:=by rw[←a.len];exact(arJ.mp hk).1
 obtain⟨n0,hb⟩:=a.hb k h _ hk (arI hl);obtain⟨q1,q2,q3,q4⟩:=e7 h (arN hk);refine⟨?_,?_,?_,?_,by simp[a.len],λi h2 b h3 h4=>?_,a.nd,a.frS hb (by simp[arN hk])⟩
 ·rw[bM hb,if_neg (Ne.symm q1)];exact a.hc
 ·rw[bM hb,if_neg (Ne.symm q2)];exact a.hg
 ·rw[bM hb,if_neg (Ne.symm q3)];exact a.hr
 ·rw[bM hb,if_neg (Ne.symm q4)];exact a.hh
 ·by_cases e:i=k
  ·subst e;rw[hk]at h3;cases h3;have h4:(c.bs.set i b')[i]?=some b:=h4;rw[arZ hl]at h4;cases h4;exact⟨n,by rw[bM hb,if_pos rfl]⟩
  ·have h4:(c.bs.set k b')[i]?=some b:=h4;rw[arP (Ne.symm e)]at h4;have ne:h≠h2:=λz=>by
    subst z;exact e ((List.getElem?_inj (arJ.mp h3).1 e8).mp (h3.trans hk.symm))
   rw[bM hb,if_neg ne];exact a.hb i h2 b h3 h4
theorem At.an3{M:Mo}{L:Lay}{c:aK}(a:At M L c){M2:Mo}{h n n2:Nat}{b:dG}(hh:M.length<=h)(hM:∀k,k < M.length->M2[k]?=M[k]?)(hb:M2[h]?=some (iB n b)):At (M2.set L.h (dO n2 { L with bs:=L.bs++[h] })) { L with bs:=L.bs++[h] } { c with bs:=c.bs++[b] }:=by
 obtain⟨e1,e2,e3,e4,e5,e6,e7,e8⟩:=a.neq;have lt:∀{k:Nat} {i:Inst},M[k]?=some i->k < M.length:=λz=>(arJ.mp z).1;obtain⟨n0,m0,hg⟩:=a.hg;obtain⟨n1,hh1⟩:=a.hh;have l1:=lt a.hc;have l2:=lt hg;have l3:=lt a.hr;have l4:=lt hh1;have lb:∀x∈L.bs,x < M.length:=λx hx=>by
  obtain⟨i,hi,e⟩:=List.mem_iff_getElem.mp hx;obtain⟨n',z⟩:=a.hb i x _ (by rw[arI hi,e]) (arI (by rw[←a.len];exact hi));exact lt z
 have g4:M2[L.h]?=some (dO n1 L):=by rw[hM _ l4];exact hh1
 refine⟨?_,⟨n0,m0,?_⟩,?_,⟨n2,?_⟩,by simp[a.len],λi h2 b2 h3 h4=>?_,?_,λp hp=>?_⟩
 ·show(M2.set L.h _)[L.c]?=_
  rw[bM g4,if_neg (Ne.symm e3),hM _ l1];exact a.hc
 ·show(M2.set L.h _)[L.g]?=_
  rw[bM g4,if_neg (Ne.symm e5),hM _ l2];exact hg
 ·show(M2.set L.h _)[L.r]?=_
  rw[bM g4,if_neg (Ne.symm e6),hM _ l3];exact a.hr
 ·show(M2.set L.h _)[L.h]?=_
  rw[bM g4,if_pos rfl]
 ·have h3:(L.bs++[h])[i]?=some h2:=h3;have h4:(c.bs++[b])[i]?=some b2:=h4;by_cases hi:i < L.bs.length
  ·rw[arS hi]at h3;rw[arS (by rw[←a.len];exact hi)]at h4;have m:=arN h3;rw[bM g4,if_neg (e7 h2 m).2.2.2,hM _ (lb h2 m)];exact a.hb i h2 b2 h3 h4
  ·rw[ar0 (by omega)]at h3;rw[ar0 (by rw[←a.len];omega),←a.len]at h4;have e0:i - L.bs.length=0:=by
    have:=(arJ.mp h3).1;simp at this;omega
   rw[e0]at h3 h4;cases h3;cases h4;exact⟨n,by rw[bM g4,if_neg (by omega)];exact hb⟩
 ·have nd:=a.nd
  show(L.c::L.g::L.r::L.h::(L.bs++[h])).Nodup
  have:(L.c::L.g::L.r::L.h::(L.bs++[h]))=(L.c::L.g::L.r::L.h::L.bs)++[h]:=by simp
  rw[this,asK];refine⟨nd,by simp,λx hx y hy=>?_⟩;rw[arO.mp hy];rcases arV.mp hx with rfl|hx
  ·omega
  rcases arV.mp hx with rfl|hx
  ·omega
  rcases arV.mp hx with rfl|hx
  ·omega
  rcases arV.mp hx with rfl|hx
  ·omega
  have:=lb x hx;omega
 ·obtain⟨h1,h2⟩:=a.fr p hp;have hl:=lt h1;refine⟨?_,?_⟩
  ·show(M2.set L.h _)[p.1]?=_
   rw[bM g4,if_neg (λ(z:L.h=p.1)=>h2 (by simp[←z])),hM _ hl];exact h1
  ·show p.1∉L.c::L.g::L.r::L.h::(L.bs++[h]);intro z;have:p.1∈(L.c::L.g::L.r::L.h::L.bs)++[h]:=by simpa using z
   rcases arR.mp this with z|z
   ·exact h2 z
   ·rw[arO]at z;omega
section
variable{M:Mo}{L:Lay}{c:aK}(a:At M L c)
include a
theorem Xv(i:dw c)(hf:c.al.length < 200)(x:Int):if 0<=x/\x<=9 then ∃M',fG M [ob L.g,.int x]=.ok (.int (c.al.length+1)) M'/\At M' L { c with al:=c.al++[x],ci:=c.ci++[[(c.al.length:Int)+1]] } else fG M [ob L.g,.int x]=.exc ⟨"BadAllowance",[]⟩ M:=by
 obtain⟨n,m,hg⟩:=a.hg;have hl:∀i,(M.set L.g i)[L.g]?=some i:=λi=>by rw[bM hg,if_pos rfl]
 by_cases h:0<=x/\x<=9
 ·rw[if_pos h];refine⟨_,?_,a.setG (n:=n) (m:=m)⟩;have h2:c.ci.length < 100000:=by rw[i.len];omega
  have h3:c.al.length < 100000:=by omega
  simp[fG,jB,qD,uO,fj,hg,dH,hl,h,iy,h2,h3];rfl
 ·rw[if_neg h];have:decide (0<=x)=true->decide (x<=9)=false:=by simp;omega
  by_cases h0:0<=x
  ·have h9:¬x<=9:=by omega
   simp[fG,jB,iy,h0,h9]
  ·simp[fG,jB,iy,h0]
end
def encl(ci:List (List Int))(l:List Int):List (List Int):=l.foldl (λs y=>s.set (y - 1).toNat l) ci
theorem wJ(l:List Int):∀(k:List Int) (ci:List (List Int)),(k.foldl (λs y=>s.set (y - 1).toNat l) ci).length=ci.length
 |[],_=>rfl
 |y::k,ci=>by rw[asY,wJ l k];simp
@[simp]theorem anW (n k:Nat):ixN n (k:Int)=if k < n then some k else none:=by
 unfold ixN;rw[if_pos (by omega)];by_cases h:k < n
 ·rw[if_pos (by omega),if_pos h];simp
 ·rw[if_neg (by omega),if_neg h]
section
variable{M:Mo}{L:Lay}{c:aK}{n m:Nat}(hg:M[L.g]?=some (dH n m c))
include hg
theorem Xa(l:List Int):∀(k:List Int) (s:List (List Int)) (o:Option Cell),(∀y∈k,1<=y/\y<=s.length)->
  ∃o',fY (aG 3) sJ (k.map PyData.int) (M.set L.g (dH n m { c with ci:=s })) [some (.dat (ob L.g)),some (.dat (lI l)),some (.dat (aJ l)),o]=.next [some (.dat (ob L.g)),some (.dat (lI l)),some (.dat (aJ l)),o'] (M.set L.g (dH n m { c with ci:=k.foldl (λs y=>s.set (y - 1).toNat l) s }))
 |[],s,o,_=>⟨o,rfl⟩
 |y::k,s,o,h=>by
  have hl:∀i,(M.set L.g i)[L.g]?=some i:=λi=>by rw[bM hg,if_pos rfl]
  obtain⟨j,hj,rfl⟩:∃j:Nat,j < s.length/\y=(j:Int)+1:=⟨(y - 1).toNat,by have:=h y arM;omega,by have:=h y arM;omega⟩;obtain⟨o',ih⟩:=Xa l k (s.set j l) (some (.dat (.int ((j:Int)+1)))) λz hz=>by
   have:=h z (arL _ hz);simpa using this
  refine⟨o',?_⟩;rw[arK,fV (Z1:=[some (.dat (ob L.g)),some (.dat (lI l)),some (.dat (aJ l)),some (.dat (.int ((j:Int)+1)))]) (M2:=M.set L.g (dH n m { c with ci:=s.set j l })) (Z2:=[some (.dat (ob L.g)),some (.dat (lI l)),some (.dat (aJ l)),some (.dat (.int ((j:Int)+1)))]) (by simp) (by simp[sJ,hl,dH,hj,List.map_set]),ih];simp
end
theorem YL{M:Mo}{h:Nat}{i:Inst}(e:M[h]?=some i):M.set h i=M:=by
 apply asl;intro k;rw[bM e];split
 ·next z=>rw[←z,e]
 ·rfl
section
variable{M:Mo}{L:Lay}{c:aK}(a:At M L c)
include a
theorem JZ(l:List Int)(h:∀y∈l,1<=y/\y<=c.ci.length):∃M',lW M [ob L.g,lI l]=.ok (lI l) M'/\At M' L { c with ci:=encl c.ci l }:=by obtain⟨n,m,hg⟩:=a.hg;obtain⟨o',key⟩:=Xa hg l l c.ci none h;have e:(dH n m { c with ci:=c.ci })=dH n m c:=rfl;rw[e,YL hg]at key;refine⟨_,?_,a.setG (n:=n) (m:=m) (al:=c.al)⟩;simp[lW,vC,key,encl]
end
theorem any_ints(y:Int)(l:List Int):((l.map PyData.int).any λd=>PyData.eqv d (.int y))=decide (y∈l):=by
 induction l with
 |nil=>simp
 |cons x l ih=>
  rw[arK,asR,ih,aaF];by_cases h:x=y
  ·simp[h]
  ·have:¬y=x:=λz=>h z.symm;simp[h,this]
theorem GX(neg:Bool)(y:Int)(l:List Int):inD neg (.int y) (lI l)=.ok (.bool (neg ^^ decide (y∈l))):=by
 show(Out.when (okd 12 (.int y)&&lB 12 (l.map PyData.int)) (.ok ((l.map PyData.int).any λz=>PyData.eqv z (.int y)))).bind _=_
 rw[any_ints,aiK,Xk];rfl
section
variable{M:Mo}{L:Lay}{c:aK}(a:At M L c)
include a
theorem ab9(i:dw c)(x y:Int)(hx:Vg c x)(hy:Vg c y):if y∈aH c x then lJ M [ob L.g,.int x,.int y]=.exc ⟨"Together",[]⟩ M else
  ∃M',lJ M [ob L.g,.int x,.int y]=.ok (lI (sortI (aH c x++aH c y))) M'/\At M' L { c with ci:=encl c.ci (sortI (aH c x++aH c y)) }:=by
 have t1:=vP a i x;have t2:=vP a i y;rw[if_pos hx]at t1;rw[if_pos hy]at t2;obtain⟨n,m,hg⟩:=a.hg;have hcx:c.ci[(x - 1).toNat]?=some (aH c x):=by
  obtain⟨k,hk,rfl⟩:=rG hx;have hk':k < c.ci.length:=by rw[i.len];exact hk
  simp[aH,hk']
 have hcy:c.ci[(y - 1).toNat]?=some (aH c y):=by
  obtain⟨k,hk,rfl⟩:=rG hy;have hk':k < c.ci.length:=by rw[i.len];exact hk
  simp[aH,hk']
 by_cases h:y∈aH c x
 ·rw[if_pos h];simp[lJ,tK,hg,dH,bH,t1,t2,GX,h]
 ·rw[if_neg h];have hm:∀z∈sortI (aH c x++aH c y),1<=z/\z<=c.ci.length:=λz hz=>by
   unfold sortI at hz;rw[List.mem_mergeSort,arR]at hz;rw[i.len];rcases hz with hz|hz
   ·exact i.mem _ _ hcx z hz
   ·exact i.mem _ _ hcy z hz
  obtain⟨M',h1,h2⟩:=JZ a _ hm;refine⟨M',?_,h2⟩;have l1:=i.clen hcx;have l2:=i.clen hcy;have hs:Jl (lI (aH c x++aH c y))=.ok (lI (sortI (aH c x++aH c y))):=by
   show(match intsOf ((aH c x++aH c y).map PyData.int) with
    |some l=>Out.ok (PyData.list ((sortI l).map PyData.int))
    |none=>_)=_
   rw[mF]
  have hz:(aH c x).length+(aH c y).length<=100000:=by omega
  have hs:Jl (.list ((aH c x).map PyData.int++(aH c y).map PyData.int))=.ok (lI (sortI (aH c x++aH c y))):=by rw[←asq];exact hs
  simp[lJ,tK,hg,dH,bH,gW,t1,t2,GX,h,hz,hs,h1]
theorem adt(i:dw c)(x:Int):if Vg c x then(if (aH c x).filter (λy=>!(y==x))=[] then jr M [ob L.g,.int x]=.exc ⟨"Alone",[]⟩ M else
  ∃M',jr M [ob L.g,.int x]=.ok (lI ((aH c x).filter (λy=>!(y==x)))) M'/\At M' L { c with ci:=encl (encl c.ci [x]) ((aH c x).filter (λy=>!(y==x))) }) else jr M [ob L.g,.int x]=.exc ⟨"NoGround",[]⟩ M:=by
 have t1:=vP a i x;obtain⟨n,m,hg⟩:=a.hg;by_cases hx:Vg c x
 ·rw[if_pos hx]at t1 ⊢;have hcx:c.ci[(x - 1).toNat]?=some (aH c x):=by
   obtain⟨k,hk,rfl⟩:=rG hx;have hk':k < c.ci.length:=by rw[i.len];exact hk
   simp[aH,hk']
  have hl:(aH c x).length<=50000:=by have:=i.clen hcx;omega
  have key:=fW (tg:=aG 3) (tt:=bh (aA yU (ao 3) (ao 1))) (te:=aq 3) (M:=M) (Z:=[some (.dat (ob L.g)),some (.dat (.int x)),none,none]) PyData.int (λy=>!(y==x)) PyData.int (aH c x) λy _=>⟨[some (.dat (ob L.g)),some (.dat (.int x)),none,some (.dat (.int y))],by simp,by simp,λ_=>by simp⟩;by_cases he:(aH c x).filter (λy=>!(y==x))=[]
  ·rw[if_pos he];rw[he]at key;simp only[asT]at key;simp[jr,qH,hg,dH,bH,t1,key,hl]
  ·rw[if_neg he];generalize hL:(aH c x).filter (λy=>!(y==x))=left at he key;have hm:∀z∈left,1<=z/\z<=(encl c.ci [x]).length:=λz hz=>by
    rw[←hL,ar4]at hz;unfold encl;rw[wJ,i.len];exact i.mem _ _ hcx z hz.1
   obtain⟨M1,h1,a1⟩:=JZ a [x] (λz hz=>by rw[arO.mp hz,i.len];exact hx);obtain⟨M2,h2,a2⟩:=JZ a1 left hm;refine⟨M2,?_,a2⟩;obtain⟨n1,m1,hg1⟩:=a1.hg;have h1:lW M [ob L.g,.list [.int x]]=.ok (.list [.int x]) M1:=h1;have he':left.isEmpty=false:=by cases left with
    |nil=>exact absurd rfl he
    |cons _ _=>rfl
   simp[jr,qH,hg,hg1,dH,bH,gW,t1,key,hl,h1,h2,he']
 ·rw[if_neg hx]at t1 ⊢;simp[jr,qH,hg,dH,bH,t1]
end
theorem ahp(o g:Int)(m:List Int)(o' g':Int)(m':List Int):PyData.eqv (iZ (o,g,m)) (iZ (o',g',m'))=decide ((o,g,m)=(o',g',m')):=by simp only[iZ,Zg,abC,aaF,zX,ahX,Bool.and_true];by_cases h1:o=o'<;>by_cases h2:g=g'<;>by_cases h3:m=m'<;>simp[h1,h2,h3]
theorem afi(r s:Row3):PyData.eqv (iZ r) (iZ s)=decide (r=s):=ahp _ _ _ _ _ _
theorem Wq:∀l:List Int,yP (l.map PyData.int)=some (l.map NestedKey.num)
 |[]=>rfl
 |i::l=>by rw[arK,yP,Wq l];rfl
theorem alw(r:Row3):uz (iZ r)=some (.tup [.num r.1,.num r.2.1,.tup (r.2.2.map .num)]):=by simp[iZ,uz,yP,Wq]
theorem depth_ints:∀l:List Int,NestedKey.depthAll (l.map NestedKey.num)<=1
 |[]=>by simp[NestedKey.depthAll]
 |i::l=>by
  have:=depth_ints l;simp[NestedKey.depthAll,NestedKey.depth];omega
theorem Va(kvs:List (Dat×Dat))(r:Row3):dhas true kvs (iZ r)=.ok (kvs.any λp=>PyData.eqv p.1 (iZ r)):=by
 have hk:=alw r;have hd:NestedKey.depth (.tup [.num r.1,.num r.2.1,.tup (r.2.2.map .num)])<=8:=by have:=depth_ints r.2.2;simp[NestedKey.depth,NestedKey.depthAll];omega
 show(match uz (iZ r) with
  |some k=>match decide (k.depth<=8) with
   |true=>Out.ok (kvs.any λp=>PyData.eqv p.1 (iZ r))
   |false=>.bad
  |none=>.bad)=_
 rw[hk]
 show(match decide (NestedKey.depth (.tup [.num r.1,.num r.2.1,.tup (r.2.2.map .num)])<=8) with
   |true=>Out.ok (kvs.any λp=>PyData.eqv p.1 (iZ r))
   |false=>.bad)=_
 rw[decide_eq_true hd]
theorem Ys(held:List Row3)(r:Row3):((held.map λr=>(iZ r,PyData.bool true)).any λp=>PyData.eqv p.1 (iZ r))=decide (r∈held):=by
 induction held with
 |nil=>simp
 |cons s held ih=>
  rw[arK,asR,ih,afi];by_cases h:s=r
  ·simp[h]
  ·have:¬r=s:=λz=>h z.symm;simp[h,this]
def bU(c:aK)(o g:Int):List (List Int):=(c.held.filter λr=>(r.1==o)&&(r.2.1==g)).map λr=>r.2.2
section
variable{M:Mo}{L:Lay}{c:aK}(a:At M L c)(few:c.held.length<=50000)
include a few
theorem Jy(o g:Int):vf M [ob L.r,.int o,.int g]=.ok (.list ((bU c o g).map aJ)):=by
 have hr:=a.hr;have key:=fW (tg:=bx [3,4,5]) (tt:=jx (bh (aA cJ (ao 3) (ao 1))) (bh (aA cJ (ao 4) (ao 2)))) (te:=aq 5) (M:=M) (Z:=[some (.dat (ob L.r)),some (.dat (.int o)),some (.dat (.int g)),none,none,none]) iZ (λr=>(r.1==o)&&(r.2.1==g)) (λr=>aJ r.2.2) c.held λr _=>⟨[some (.dat (ob L.r)),some (.dat (.int o)),some (.dat (.int g)),some (.dat (.int r.1)),some (.dat (.int r.2.1)),some (.dat (aJ r.2.2))],by simp[iZ],by
  by_cases h:r.1=o<;>simp[h],λ_=>by simp⟩
 have e:(c.held.map λr=>(iZ r,PyData.bool true)).map (·.1)=c.held.map iZ:=by simp
 simp[vf,zE,hr,oF,bU];simp[ar5,key,few]
theorem aac(o g:Int):pF M [ob L.r,.int o,.int g]=.ok (.bool (decide (bU c o g≠[]))):=by have hr:=a.hr;have h:=Jy a few o g;simp[pF,tR,hr,oF,cM,h,List.length_pos_iff]
theorem X8(near:List Int):nZ M [ob L.r,lI near]=.ok (.list ((c.held.filter λr=>decide (r.2.1∈near)).map λr=>Ear.rD (r.1,r.2.2))):=by have hr:=a.hr;have key:=fW (tg:=bx [2,3,4]) (tt:=bh (aA (inD false) (ao 3) (ao 1))) (te:=bO (ak (aq 2) (ak (aq 4) au))) (M:=M) (Z:=[some (.dat (ob L.r)),some (.dat (lI near)),none,none,none]) iZ (λr=>decide (r.2.1∈near)) (λr=>Ear.rD (r.1,r.2.2)) c.held λr _=>⟨[some (.dat (ob L.r)),some (.dat (lI near)),some (.dat (.int r.1)),some (.dat (.int r.2.1)),some (.dat (aJ r.2.2))],by simp[iZ],by simp[GX],λ_=>by simp[Ear.rD,Ear.dT]⟩;simp[nZ,sY,hr,oF];simp[ar5,key,few]
theorem aa2:pP M [ob L.r]=.ok (.list (c.held.map iZ)):=by have hr:=a.hr;simp[pP,vB,hr,oF,ar5]
theorem K9(o g:Int)(m:List Int):if (o,g,m)∈c.held then ju M [ob L.r,.int o,.int g,aJ m]=.exc ⟨"HasRight",[]⟩ M else
  ∃M',ju M [ob L.r,.int o,.int g,aJ m]=.ok .none M'/\At M' L { c with held:=c.held++[(o,g,m)] }:=by
 have hr:=a.hr;have h1:=Va (c.held.map λr=>(iZ r,PyData.bool true)) (o,g,m);rw[Ys]at h1;simp only[iZ]at h1;have f2:c.held.length < 100000:=by omega
 by_cases h:(o,g,m)∈c.held
 ·rw[if_pos h];simp[h]at h1;simp[ju,oZ,hr,oF,iZ,h1]
 ·rw[if_neg h];refine⟨_,?_,a.afA⟩;simp[h]at h1;simp[ju,oZ,hr,oF,iZ,h1,f2]
end
theorem adD(held:List Row3)(r:Row3):((held.map λr=>(iZ r,PyData.bool true)).filter λp=>!PyData.eqv p.1 (iZ r))=(held.filter λs=>decide (s≠r)).map λr=>(iZ r,PyData.bool true):=by
 induction held with
 |nil=>rfl
 |cons s held ih=>
  simp only[arK,asf,afi,ih];by_cases h:s=r<;>simp[h]
def Yg(o g:Int)(k:List (List Int))(s:List Row3):List Row3:=k.foldl (λs mk=>s.filter λr=>decide (r≠(o,g,mk))) s
section
variable{M:Mo}{L:Lay}{c:aK}(hr:M[L.r]?=some (oF c))
include hr
theorem WY(o g:Int)(all:List (List Int)):∀(k:List (List Int)) (s:List Row3) (x:Option Cell),k.Nodup->(∀mk∈k,(o,g,mk)∈s)->s.length<=50000->
  ∃x',fY (aG 4) yq (k.map aJ) (M.set L.r (oF { c with held:=s })) [some (.dat (ob L.r)),some (.dat (.int o)),some (.dat (.int g)),some (.dat (.list (all.map aJ))),x]=.next [some (.dat (ob L.r)),some (.dat (.int o)),some (.dat (.int g)),some (.dat (.list (all.map aJ))),x'] (M.set L.r (oF { c with held:=Yg o g k s }))
 |[],s,x,_,_,_=>⟨x,rfl⟩
 |mk::k,s,x,nd,h,hf=>by
  have hl:∀i,(M.set L.r i)[L.r]?=some i:=λi=>by rw[bM hr,if_pos rfl]
  rw[ata]at nd;have h1:=Va (s.map λr=>(iZ r,PyData.bool true)) (o,g,mk);rw[Ys,decide_eq_true (h mk arM)]at h1;have h2:=adD s (o,g,mk);have f2:s.length<=100000:=by omega
  obtain⟨x',ih⟩:=WY o g all k (s.filter λr=>decide (r≠(o,g,mk))) (some (.dat (aJ mk))) nd.2 (λz hz=>by
   rw[ar4];refine⟨h z (arL _ hz),decide_eq_true λe=>?_⟩;have:z=mk:=by simpa using e
   exact nd.1 (this ▸ hz)) (ar8 (ar3 _ _) hf)
  refine⟨x',?_⟩;rw[arK,fV (Z1:=[some (.dat (ob L.r)),some (.dat (.int o)),some (.dat (.int g)),some (.dat (.list (all.map aJ))),some (.dat (aJ mk))]) (M2:=M.set L.r (oF { c with held:=s.filter λr=>decide (r≠(o,g,mk)) })) (Z2:=[some (.dat (ob L.r)),some (.dat (.int o)),some (.dat (.int g)),some (.dat (.list (all.map aJ))),some (.dat (aJ mk))]) (by simp) ?_,ih]
  ·rfl
  ·have h1':dhas true (s.map λr=>(iZ r,PyData.bool true)) (.tuple [.int o,.int g,aJ mk])=.ok true:=h1;have h2':((s.map λr=>(iZ r,PyData.bool true)).filter λp=>!PyData.eqv p.1 (.tuple [.int o,.int g,aJ mk]))=(s.filter λs=>decide (s≠(o,g,mk))).map λr=>(iZ r,PyData.bool true):=h2;simp[yq,hl,oF,h1',f2];rw[h2'];simp
end
theorem aal(o g:Int):∀(k:List (List Int)) (s:List Row3),Yg o g k s=s.filter λr=>decide (∀mk∈k,r≠(o,g,mk))
 |[],s=>(List.filter_eq_self.mpr (by simp)).symm
 |mk::k,s=>by
  show Yg o g k (s.filter _)=_;rw[aal o g k,asZ];congr 1;funext r;by_cases h1:r=(o,g,mk)<;>simp[h1]
def dropped(c:aK)(o g:Int):List Row3:=c.held.filter λr=>!((r.1==o)&&(r.2.1==g))
theorem ac6(c:aK)(o g:Int):Yg o g (bU c o g) c.held=dropped c o g:=by
 rw[aal];unfold dropped;refine List.filter_congr λr hr=>?_;obtain⟨x,y,z⟩:=r;by_cases h:x=o/\y=g
 ·obtain⟨rfl,rfl⟩:=h;have:z∈bU c x y:=by
   unfold bU;rw[arQ];exact⟨(x,y,z),by rw[ar4];exact⟨hr,by simp⟩,rfl⟩
  simp;exact this
 ·have e:(!((x==o)&&(y==g)))=true:=by
   by_cases h1:x=o<;>by_cases h2:y=g<;>simp_all
  have e2:∀mk∈bU c o g,(x,y,z)≠(o,g,mk):=λmk _ z=>by
   simp at z;exact h ⟨z.1,z.2.1⟩
  rw[e,decide_eq_true e2]
theorem aaN{c:aK}(h:c.held.Nodup)(o g:Int):(bU c o g).Nodup:=by unfold bU;have h1:(c.held.filter λr=>(r.1==o)&&(r.2.1==g)).Nodup:=h.filter _;unfold List.Nodup at h1 ⊢;rw[List.pairwise_map];refine List.Pairwise.imp_of_mem (λ{r s} hr hs ne e=>ne ?_) h1;rw[ar4]at hr hs;obtain⟨r1,r2,r3⟩:=r;obtain⟨s1,s2,s3⟩:=s;have:=hr.2;have:=hs.2;simp at *;obtain⟨rfl,rfl⟩:=hr.2;obtain⟨rfl,rfl⟩:=hs.2;exact⟨rfl,rfl,e⟩
section
variable{M:Mo}{L:Lay}{c:aK}(a:At M L c)(few:c.held.length<=50000)(nd:c.held.Nodup)
include a few nd
theorem ahf(o g:Int):if bU c o g=[] then oM M [ob L.r,.int o,.int g]=.exc ⟨"NoRight",[]⟩ M else
  ∃M',oM M [ob L.r,.int o,.int g]=.ok (.list ((bU c o g).map aJ)) M'/\At M' L { c with held:=dropped c o g }:=by
 have hr:=a.hr;have h1:=Jy a few o g;by_cases h:bU c o g=[]
 ·rw[if_pos h];rw[h]at h1;simp[oM,vY,hr,oF,cM,h1]
 ·rw[if_neg h];obtain⟨x',key⟩:=WY hr o g (bU c o g) (bU c o g) c.held none (aaN nd o g) (λmk hm=>by
   unfold bU at hm;rw[arQ]at hm;obtain⟨⟨r1,r2,r3⟩,h3,rfl⟩:=hm;rw[ar4]at h3;have:=h3.2;simp at this;obtain⟨rfl,rfl⟩:=this;exact h3.1) few
  have e:(oF { c with held:=c.held })=oF c:=rfl;rw[e,YL hr,ac6]at key;refine⟨_,?_,a.afA⟩;have he:(bU c o g).isEmpty=false:=by
   cases hm:bU c o g with
   |nil=>exact absurd hm h
   |cons _ _=>rfl
  simp[oM,vY,hr,oF,cM,h1,he];simp[key];rfl
end
def Gu(acc:List Row3)(r:Row3):List Row3:=if r∈acc then acc else acc++[r]
def Ac(e h:Int)(r:Row3):Row3:=(if r.1=e then h else r.1,r.2.1,r.2.2)
def handed(c:aK)(e h:Int):List Row3:=(c.held.map (Ac e h)).foldl Gu []
theorem abw{tg:fH}{tk:QF}{M:Mo}{Z:Rf.Env}(f:Row3->Row3):∀(xs acc:List Row3),(∀x∈xs,∃Z1,tg (iZ x) Z=some Z1/\tk M Z1=.ok (iZ (f x)))->EY tg tk M Z (xs.map iZ) (acc.map λr=>(iZ r,PyData.bool true))=.ok (((xs.map f).foldl Gu acc).map λr=>(iZ r,PyData.bool true))
 |[],acc,_=>rfl
 |x::xs,acc,h=>by
  obtain⟨Z1,h1,h2⟩:=h x arM;rw[arK,EY,h1]
  show((yt (tk M Z1)).bind λkd=>(dhas true _ kd).bind λr=>_)=_
  rw[h2,Zu,Out.zA,Va,Ys,Out.zA,arK,asY];have ih:=abw f xs (Gu acc (f x)) λy hy=>h y (arL _ hy);unfold Gu at ih ⊢;by_cases hm:f x∈acc
  ·rw[if_pos hm]at ih ⊢;rw[decide_eq_true hm];exact ih
  ·rw[if_neg hm]at ih ⊢;rw[decide_eq_false hm];rw[asq]at ih;exact ih
section
variable{M:Mo}{L:Lay}{c:aK}(a:At M L c)(few:c.held.length<=50000)
include a few
theorem ZF(e h:Int):∃M',pB M [ob L.r,.int e,.int h]=.ok .none M'/\At M' L { c with held:=handed c e h }:=by
 have hr:=a.hr;have hl:L.r < M.length:=(arJ.mp hr).1;have hr2:(M++[(⟨"",[]⟩:Inst)])[L.r]?=some (oF c):=by rw[arS hl];exact hr
 have key:=abw (tg:=bx [3,4,5]) (tk:=bO (ak (Ua (bh (aA cJ (ao 3) (ao 1))) (aq 2) (aq 3)) (ak (aq 4) (ak (aq 5) au)))) (M:=M) (Z:=[some (.dat (ob L.r)),some (.dat (.int e)),some (.dat (.int h)),none,none,none]) (Ac e h) c.held [] λr _=>⟨[some (.dat (ob L.r)),some (.dat (.int e)),some (.dat (.int h)),some (.dat (.int r.1)),some (.dat (.int r.2.1)),some (.dat (aJ r.2.2))],by simp[iZ],by
  by_cases z:r.1=e<;>simp[z,Ac,iZ]⟩
 have ex:At (M++[⟨"",[]⟩]) L c:=by
  have lt:∀{k:Nat} {i:Inst},M[k]?=some i->(M++[(⟨"",[]⟩:Inst)])[k]?=some i:=λz=>by rw[arS (arJ.mp z).1];exact z
  obtain⟨n,m,hg⟩:=a.hg;obtain⟨n1,hh⟩:=a.hh;exact⟨lt a.hc,⟨n,m,lt hg⟩,lt a.hr,⟨n1,lt hh⟩,a.len,λi h b h1 h2=>by
   obtain⟨n2,z⟩:=a.hb i h b h1 h2;exact⟨n2,lt z⟩,a.nd,λp hp=>⟨lt (a.fr p hp).1,(a.fr p hp).2⟩⟩
 refine⟨_,?_,ex.afA⟩;simp only[asT]at key;simp[pB,tV,hr,hr2,oF,j8];simp[ar5,key,few,handed]
end
@[simp]theorem aqX (n:Nat) (b:dG):(iB n b).cls="Beast":=rfl
theorem aa4{M:Mo}{h n:Nat}{b:dG}(hb:M[h]?=some (iB n b))(s:Sd):nH M [ob h,s.dat]=.ok .none (M.set h (iB n { b with sd:=s })):=by
 have hl:∀i,(M.set h i)[h]?=some i:=λi=>by rw[bM hb,if_pos rfl]
 simp[nH,qN,Sd.dat,hb,iB,hl,j8]
theorem Zz{M:Mo}{h n:Nat}{b:dG}(hb:M[h]?=some (iB n b)):wj M [ob h]=.ok b.sd.dat:=by simp[wj,Br,Sd.dat,hb,iB]
theorem uo{M:Mo}{h n:Nat}{b:dG}(hb:M[h]?=some (iB n b))(e:En)(he:b.sd.ear.length<=1000)(hf:b.en.length<=50000):m7 M [ob h,e.dat]=.ok .none (M.set h (iB n { b with en:=b.en++[e],sd:=go b.sd e })):=by
 have hl:∀i,(M.set h i)[h]?=some i:=λi=>by rw[bM hb,if_pos rfl]
 have h1:(M.set h (iB n { b with en:=b.en++[e] }))[h]?=some (iB n { b with en:=b.en++[e] }):=hl _;have h2:=Zz h1;have h3:=gone_ok (M.set h (iB n { b with en:=b.en++[e] })) b.sd e he;have h4:=aa4 h1 (go b.sd e);have h5:b.en.length+1 < 100000:=by omega
 have e1:M.set h ⟨"Beast",[("story",.lst n (b.fi.dat::(b.en.map En.dat++[e.dat]))),("mother",.dat (.int b.mo)),("owner",.dat (.int b.sd.o)),("ground",.dat (.int b.sd.g)),("due",.dat (qb b.sd.due)),("ear",.dat (aJ b.sd.ear)),("alive",.dat (.bool b.sd.al))]⟩=M.set h (iB n { b with en:=b.en++[e] }):=by simp[iB]
 simp[m7,zH,hb,iB,h5];rw[e1];simp[h1,mY,jP,h2,h3,h4];simp[iB]
def ajV:Fi->Int
 |.born m _ _=>m
 |_=>0
def zm(f:Fi):dG:=⟨f,[],ajV f,beg f⟩
theorem ahq(M:Mo)(f:Fi):tZ (M++[⟨"Beast",[]⟩]) [ob M.length,f.dat]=.ok .none (M++[iB (M.length+1) (zm f),⟨"",[]⟩]):=by
 have hbeg:=λM=>afx M f;have hg:∀i (r:List Inst),(M++i::r)[M.length]?=some i:=λi r=>by simp
 have hs:∀i j (r:List Inst),(M++i::r).set M.length j=M++j::r:=λi j r=>by simp
 cases f<;>simp[tZ,Dj,Fi.dat,hg,hs,j8,nH,qN,jP,CT,Oh,jE,iB,zm,ajV,beg,qb,Fi.dat]
def cD(L:Lay)(c:aK):List (Nat×Nat×dG):=(L.bs.zip c.bs).mapIdx λi p=>(i,p.1,p.2)
def nb(x:Nat×Nat×dG):Dat:=.tuple [.int ((x.1:Int)+1),ob x.2.1]
theorem Es{L:Lay}{c:aK}{x:Nat×Nat×dG}(h:x∈cD L c):L.bs[x.1]?=some x.2.1/\c.bs[x.1]?=some x.2.2:=by unfold cD at h;obtain⟨i,hi,e⟩:=List.mem_mapIdx.mp h;have hz:=arI hi;rw[asy]at hz;subst e;exact hz
theorem At.hb'{M:Mo}{L:Lay}{c:aK}(a:At M L c){x:Nat×Nat×dG}(h:x∈cD L c):∃n,M[x.2.1]?=some (iB n x.2.2):=by obtain⟨h1,h2⟩:=Es h;exact a.hb _ _ _ h1 h2
theorem At.len'{M:Mo}{L:Lay}{c:aK}(a:At M L c):(cD L c).length=c.bs.length:=by unfold cD;simp[a.len]
theorem At.enum{M:Mo}{L:Lay}{c:aK}(a:At M L c):pQ 1 (L.bs.map ob)=(cD L c).map nb:=by
 unfold pQ cD;apply asl;intro i;simp only[asC,arT];by_cases hi:i < L.bs.length
 ·have hi2:i < c.bs.length:=by rw[←a.len];exact hi
  have hz:(L.bs.zip c.bs)[i]?=some (L.bs[i],c.bs[i]):=by rw[asy];exact⟨arI hi,arI hi2⟩
  rw[hz];simp[hi,nb,Int.add_comm]
 ·have hi2:¬i < c.bs.length:=by rw[←a.len];exact hi
  have:(L.bs.zip c.bs)[i]?=none:=by rw[List.getElem?_eq_none_iff,List.length_zip];omega
  simp[asn (by omega:L.bs.length<=i),this]
section
variable{M:Mo}{L:Lay}{c:aK}(a:At M L c)(few:c.bs.length<=50000)
include a few
theorem BR:pO M [ob L.h]=.ok (.list (((cD L c).filter λx=>x.2.2.sd.al).map nb)):=by
 obtain⟨n,hh⟩:=a.hh;have hl:=a.len';have he:=a.enum;have key:=fW (tg:=bx [1,2]) (tt:=gY (bK "alive" (ao 2))) (te:=bO (ak (aq 1) (ak (aq 2) au))) (M:=M) (Z:=[some (.dat (ob L.h)),none,none]) nb (λx=>x.2.2.sd.al) nb (cD L c) λx hx=>⟨[some (.dat (ob L.h)),some (.dat (.int ((x.1:Int)+1))),some (.dat (ob x.2.1))],by simp[nb],by
  obtain⟨n,hb⟩:=a.hb' hx;simp[hb,iB],λ_=>by simp[nb]⟩
 simp[pO,vD,hh,dO];rw[he];simp[key,hl,few]
theorem RM(near:List Int):qj M [ob L.h,lI near]=.ok (.list (((cD L c).filter λx=>decide (x.2.2.sd.g∈near)&&x.2.2.sd.al).map nb)):=by
 obtain⟨n,hh⟩:=a.hh;have h1:=BR a few;have hl:((cD L c).filter λx=>x.2.2.sd.al).length<=50000:=ar8 (ar3 _ _) (by rw[a.len'];exact few);have key:=fW (tg:=bx [2,3]) (tt:=bh (aA (inD false) (bK "ground" (ao 3)) (ao 1))) (te:=bO (ak (aq 2) (ak (aq 3) au))) (M:=M) (Z:=[some (.dat (ob L.h)),some (.dat (lI near)),none,none]) nb (λx=>decide (x.2.2.sd.g∈near)) nb ((cD L c).filter λx=>x.2.2.sd.al) λx hx=>⟨[some (.dat (ob L.h)),some (.dat (lI near)),some (.dat (.int ((x.1:Int)+1))),some (.dat (ob x.2.1))],by simp[nb],by
  obtain⟨n,hb⟩:=a.hb' (ar4.mp hx).1;simp[hb,iB,GX],λ_=>by simp[nb]⟩
 rw[asZ]at key;simp[qj,zf,hh,dO,dX,h1,key,hl]
theorem agf(o:Int):yD M [ob L.h,.int o]=.ok (.list (((cD L c).filter λx=>(x.2.2.sd.o==o)&&x.2.2.sd.al).map nb)):=by
 obtain⟨n,hh⟩:=a.hh;have h1:=BR a few;have hl:((cD L c).filter λx=>x.2.2.sd.al).length<=50000:=ar8 (ar3 _ _) (by rw[a.len'];exact few);have key:=fW (tg:=bx [2,3]) (tt:=bh (aA cJ (bK "owner" (ao 3)) (ao 1))) (te:=bO (ak (aq 2) (ak (aq 3) au))) (M:=M) (Z:=[some (.dat (ob L.h)),some (.dat (.int o)),none,none]) nb (λx=>x.2.2.sd.o==o) nb ((cD L c).filter λx=>x.2.2.sd.al) λx hx=>⟨[some (.dat (ob L.h)),some (.dat (.int o)),some (.dat (.int ((x.1:Int)+1))),some (.dat (ob x.2.1))],by simp[nb],by
  obtain⟨n,hb⟩:=a.hb' (ar4.mp hx).1;simp[hb,iB],λ_=>by simp[nb]⟩
 rw[asZ]at key;simp[yD,Dg,hh,dO,dX,h1,key,hl]
theorem aag(k:Int):kZ M [ob L.h,.int k]=if 1<=k/\k<=c.bs.length then .ok (ob ((L.bs[(k - 1).toNat]?).getD 0)) else .exc ⟨"NoBeast",[]⟩:=by
 obtain⟨n,hh⟩:=a.hh;have hlen:(L.bs.length:Int)=c.bs.length:=by rw[a.len]
 by_cases h:1<=k/\k<=c.bs.length
 ·rw[if_pos h];obtain⟨j,rfl⟩:∃j:Nat,k=(j:Int)+1:=⟨(k - 1).toNat,by omega⟩;have hj:j < L.bs.length:=by have:=a.len;omega
  have h1:(1:Int)<=j+1:=by omega
  have h2:(j:Int)+1<=L.bs.length:=by omega
  simp[kZ,uF,hh,dO,h1,h2,hj]
 ·rw[if_neg h];by_cases h1:1<=k
  ·have h2:¬k<=L.bs.length:=by omega
   simp[kZ,uF,hh,dO,h1,h2]
  ·simp[kZ,uF,hh,dO,h1]
end
def bk(c:aK)(k:Int):Option dG:=if 1<=k/\k<=c.bs.length then c.bs[(k - 1).toNat]? else none
def hk(L:Lay)(k:Int):Nat:=(L.bs[(k - 1).toNat]?).getD 0
def mW(b:dG)(e:En):dG:={ b with en:=b.en++[e],sd:=go b.sd e }
def fB(c:aK)(i:Nat)(e:En):aK:={ c with bs:=c.bs.modify i λb=>mW b e }
theorem qF{M:Mo}{L:Lay}{c:aK}(a:At M L c){k:Int}{b:dG}(h:bk c k=some b):1<=k/\k<=c.bs.length/\L.bs[(k - 1).toNat]?=some (hk L k)/\c.bs[(k - 1).toNat]?=some b/\∃n,M[hk L k]?=some (iB n b):=by
 unfold bk at h;split at h
 ·next hh=>
  have hl:(k - 1).toNat < L.bs.length:=by have:=a.len;omega
  have e:L.bs[(k - 1).toNat]?=some (hk L k):=by unfold hk;rw[arI hl];rfl
  exact⟨hh.1,hh.2,e,h,a.hb _ _ _ e h⟩
 ·cases h
theorem ah4{c:aK}{k:Int}(h:bk c k=none):¬(1<=k/\k<=c.bs.length):=λz=>by
 unfold bk at h;rw[if_pos z,List.getElem?_eq_none_iff]at h;omega
section
variable{M:Mo}{L:Lay}{c:aK}(a:At M L c)(few:c.bs.length<=50000)
include a few
theorem Iz{k:Int}{b:dG}(h:bk c k=some b):kZ M [ob L.h,.int k]=.ok (ob (hk L k)):=by obtain⟨h1,h2,_⟩:=qF a h;rw[aag a few,if_pos ⟨h1,h2⟩];rfl
theorem RD{k:Int}(h:bk c k=none):kZ M [ob L.h,.int k]=.exc ⟨"NoBeast",[]⟩:=by rw[aag a few,if_neg (ah4 h)]
theorem Eu(k:Int):rO M [ob L.h,.int k]=match bk c k with
  |none=>.exc ⟨"NoBeast",[]⟩
  |some b=>if b.sd.al then .ok (ob (hk L k)) else .exc ⟨"Dead",[]⟩:=by
 obtain⟨n,hh⟩:=a.hh;cases h:bk c k with
 |none=>
  have h1:=RD a few h;simp[rO,v9,hh,dO,fM,h1]
 |some b=>
  have h1:=Iz a few h;obtain⟨_,_,_,_,n',hb⟩:=qF a h;cases h2:b.sd.al<;>simp[rO,v9,hh,dO,fM,h1,hb,iB,h2]
theorem Ek(k:Int):oK M [ob L.h,.int k]=match bk c k with
  |none=>.exc ⟨"NoBeast",[]⟩
  |some b=>if b.sd.al then(if b.sd.due=none then .exc ⟨"Unmarked",[]⟩ else .ok (ob (hk L k))) else .exc ⟨"Dead",[]⟩:=by
 obtain⟨n,hh⟩:=a.hh;have h0:=Eu a few k;cases h:bk c k with
 |none=>
  rw[h]at h0;simp[oK,rJ,hh,dO,bL,h0]
 |some b=>
  rw[h]at h0;obtain⟨_,_,_,_,n',hb⟩:=qF a h;cases h2:b.sd.al with
  |false=>
   simp[h2]at h0;simp[oK,rJ,hh,dO,bL,h0,h2]
  |true=>
   simp[h2]at h0;cases h3:b.sd.due<;>simp[oK,rJ,hh,dO,bL,h0,hb,iB,h2,h3,qb,mO]
def uX(k:Int)(b:dG):Bool:=(b.mo==k)&&b.sd.due.isNone
theorem aes(k:Int):rK M [ob L.h,.int k]=match bk c k with
  |none=>.exc ⟨"NoBeast",[]⟩
  |some _=>.ok (.list (((cD L c).filter λx=>uX k x.2.2&&x.2.2.sd.al).map nb)):=by
 obtain⟨n,hh⟩:=a.hh;have h1:=BR a few;have hl:((cD L c).filter λx=>x.2.2.sd.al).length<=50000:=ar8 (ar3 _ _) (by rw[a.len'];exact few);have key:=fW (tg:=bx [2,3]) (tt:=jx (bh (aA cJ (bK "mother" (ao 3)) (ao 1))) (bh (xO false .none (bK "due" (ao 3))))) (te:=bO (ak (aq 2) (ak (aq 3) au))) (M:=M) (Z:=[some (.dat (ob L.h)),some (.dat (.int k)),none,none]) nb (λx=>uX k x.2.2) nb ((cD L c).filter λx=>x.2.2.sd.al) λx hx=>⟨[some (.dat (ob L.h)),some (.dat (.int k)),some (.dat (.int ((x.1:Int)+1))),some (.dat (ob x.2.1))],by simp[nb],by
  obtain⟨n,hb⟩:=a.hb' (ar4.mp hx).1;by_cases h2:x.2.2.mo=k<;>cases h3:x.2.2.sd.due<;>simp[hb,iB,uX,h2,h3,qb,mO],λ_=>by simp[nb]⟩
 rw[asZ]at key;cases h:bk c k with
 |none=>
  have h2:=RD a few h;simp[rK,vX,hh,dO,fM,h2]
 |some b=>
  have h2:=Iz a few h;simp[rK,vX,hh,dO,fM,dX,h1,h2,key,hl]
theorem K6(f:Fi)(hf:c.bs.length < 50000):∃M' h,rF M [ob L.h,f.dat]=.ok (.int (c.bs.length+1)) M'/\At M' { L with bs:=L.bs++[h] } { c with bs:=c.bs++[zm f] }:=by
 obtain⟨n,hh⟩:=a.hh;have hl:L.h < M.length:=(arJ.mp hh).1;have hi:=ahq M f;have hh2:(M++[iB (M.length+1) (zm f),⟨"",[]⟩])[L.h]?=some (dO n L):=by rw[arS hl];exact hh
 have hs:∀i,((M++[iB (M.length+1) (zm f),(⟨"",[]⟩:Inst)]).set L.h i)[L.h]?=some i:=λi=>by rw[bM hh2,if_pos rfl]
 have hz:c.bs.length < 100000:=by omega
 refine⟨_,M.length,?_,a.an3 (M2:=M++[iB (M.length+1) (zm f),⟨"",[]⟩]) (n:=M.length+1) (n2:=n) (ar9 _) (λk hk=>by rw[arS hk]) (by simp)⟩
 simp[rF,wu,hh,dO,hi,hh2,hs,hz,a.len]
end
theorem za{M:Mo}{L:Lay}{c:aK}(a:At M L c){i h n:Nat}{b:dG}{e:En}(h1:L.bs[i]?=some h)(h2:c.bs[i]?=some b):At (M.set h (iB n (mW b e))) L (fB c i e):=by
 have:=a.setB (n:=n) (b':=mW b e) h1;have hm:c.bs.modify i (λb=>mW b e)=c.bs.set i (mW b e):=by
  apply asl;intro j;rw[List.getElem?_modify,asM];by_cases hj:i=j
  ·subst hj;have hl:=(arJ.mp h2).1;simp[hl,h2];have:=(arJ.mp h2).2;rw[this]
  ·simp[hj]
 unfold fB;rw[hm];exact this
theorem wC(c:aK)(i j:Nat)(e:En):(fB c i e).bs[j]?=if i=j then(c.bs[j]?).map λb=>mW b e else c.bs[j]?:=by unfold fB;simp only[List.getElem?_modify];by_cases h:i=j<;>simp[h]
def vJ(xs:List (Nat×Nat×dG))(e:En)(c:aK):aK:=xs.foldl (λc x=>fB c x.1 e) c
theorem Qq{tg:fH}{body:SF}(Q:Rf.Env->Prop)(P:Nat->aK->Prop)(e:En)(L:Lay)(T:Nat):∀(xs:List (Nat×Nat×dG)) (M:Mo) (c:aK) (Z:Rf.Env) (i:Nat),i+xs.length<=T->At M L c->P i c->Q Z->
  (∀M c Z x i,i < T->At M L c->P i c->Q Z->x∈xs->∃Z1 Z2 M2,tg (nb x) Z=some Z1/\body M Z1=.next Z2 M2/\Q Z2/\At M2 L (fB c x.1 e)/\P (i+1) (fB c x.1 e))->
  ∃Z' M',fY tg body (xs.map nb) M Z=.next Z' M'/\Q Z'/\At M' L (vJ xs e c)
 |[],M,c,Z,i,_,a,p,q,_=>⟨Z,M,rfl,q,a⟩
 |x::xs,M,c,Z,i,hT,a,p,q,h=>by
  rw[arW]at hT;obtain⟨Z1,Z2,M2,h1,h2,h3,h4,h5⟩:=h M c Z x i (by omega) a p q arM;obtain⟨Z',M',g1,g2,g3⟩:=Qq Q P e L T xs M2 _ Z2 (i+1) (by omega) h4 h5 h3 λM c Z y i hi a p q hy=>h M c Z y i hi a p q (arL _ hy);exact⟨Z',M',by rw[arK,fV h1 h2];exact g1,g2,g3⟩
structure KR(n:Nat)(c:aK):Prop where
 ear:∀b∈c.bs,b.sd.ear.length=6
 en:∀b∈c.bs,b.en.length<=n
theorem aj0(s:Sd)(e:En)(he:s.ear.length=6)(h2:match e with|.cut l=>l.length=6|.sold _ l=>l.length=6|_=>True):(go s e).ear.length=6:=by cases e<;>simp_all [go,uJ]
theorem Ss(e:En):∀(xs:List (Nat×Nat×dG)) (c:aK) (j:Nat),(xs.map (·.1)).Nodup->(vJ xs e c).bs[j]?=if j∈xs.map (·.1) then(c.bs[j]?).map λb=>mW b e else c.bs[j]?
 |[],c,j,_=>by simp[vJ]
 |x::xs,c,j,nd=>by
  rw[arK,ata]at nd
  show(vJ xs e (fB c x.1 e)).bs[j]?=_
  rw[Ss e xs _ j nd.2,wC];by_cases h1:x.1=j
  ·subst h1;rw[if_neg nd.1,if_pos rfl,if_pos (by simp)]
  ·rw[if_neg h1];by_cases h2:j∈xs.map (·.1)
   ·rw[if_pos h2,if_pos (by rw[arK];exact arL _ h2)]
   ·rw[if_neg h2,if_neg (by
     rw[arK,arV]
     rintro(z|z)
     ·exact h1 z.symm
     ·exact h2 z)]
theorem O5(e:En):∀(xs:List (Nat×Nat×dG)) (c:aK),(vJ xs e c)={ c with bs:=(vJ xs e c).bs }
 |[],_=>rfl
 |x::xs,c=>by
  show vJ xs e (fB c x.1 e)={ c with bs:=(vJ xs e (fB c x.1 e)).bs };rw[O5 e xs];rfl
theorem ae2{L:Lay}{c:aK}(p:Nat×Nat×dG->Bool):(((cD L c).filter p).map (·.1)).Nodup:=by
 have h:((cD L c).map (·.1)).Nodup:=by
  have e:(cD L c).map (·.1)=List.range (L.bs.zip c.bs).length:=by
   unfold cD;apply asl;intro i;simp only[arT,asC];by_cases hi:i < (L.bs.zip c.bs).length
   ·rw[arI hi,List.getElem?_range hi];rfl
   ·rw[asn (by omega:(L.bs.zip c.bs).length<=i),asn (by rw[List.length_range];omega:(List.range (L.bs.zip c.bs).length).length<=i)];rfl
  rw[e];exact List.nodup_range
 exact h.sublist (List.Sublist.map _ List.filter_sublist)
def oE(p:dG->Bool)(e:En)(c:aK):aK:={ c with bs:=c.bs.map λb=>if p b then mW b e else b }
theorem W6{M:Mo}{L:Lay}{c:aK}(a:At M L c)(p:dG->Bool)(e:En):vJ ((cD L c).filter λx=>p x.2.2) e c=oE p e c:=by
 rw[O5];unfold oE;congr 1;apply asl;intro j;rw[Ss _ _ _ _ (ae2 _),arT];by_cases hj:j < c.bs.length
 ·have hb:=arI hj;rw[hb];have hl:j < L.bs.length:=by rw[a.len];exact hj
  have mem:(j,L.bs[j],c.bs[j])∈cD L c:=by unfold cD;rw[List.mem_mapIdx];refine⟨j,by simp;omega,by simp⟩
  by_cases hp:p c.bs[j]=true
  ·have:j∈((cD L c).filter λx=>p x.2.2).map (·.1):=arQ.mpr ⟨_,ar4.mpr ⟨mem,hp⟩,rfl⟩;rw[if_pos this];simp[hp]
  ·have:j∉((cD L c).filter λx=>p x.2.2).map (·.1):=λz=>by
    obtain⟨x,h1,h2⟩:=arQ.mp z;obtain⟨h3,h4⟩:=ar4.mp h1;obtain⟨_,h5⟩:=Es h3;rw[h2,hb]at h5;rw[←arY h5]at h4;exact hp h4
   rw[if_neg this];simp[hp]
 ·rw[asn (by omega:c.bs.length<=j)];simp
theorem KR.step{n:Nat}{c:aK}(bi:KR n c)(i:Nat)(e:En)(h2:match e with|.cut l=>l.length=6|.sold _ l=>l.length=6|_=>True):KR (n+1) (fB c i e):=by
 have key:∀b∈(fB c i e).bs,b∈c.bs∨∃b0∈c.bs,b=mW b0 e:=λb hb=>by
  obtain⟨j,hj⟩:=List.mem_iff_getElem?.mp hb;rw[wC]at hj;split at hj
  ·obtain⟨b0,h3,h4⟩:=aso.mp hj;exact .inr ⟨b0,arN h3,h4.symm⟩
  ·exact .inl (arN hj)
 refine⟨λb hb=>?_,λb hb=>?_⟩
 ·rcases key b hb with h|⟨b0,h,rfl⟩
  ·exact bi.ear b h
  ·exact aj0 _ _ (bi.ear b0 h) h2
 ·rcases key b hb with h|⟨b0,h,rfl⟩
  ·have:=bi.en b h;omega
  ·have:=bi.en b0 h;simp[mW];omega
section
variable{M:Mo}{L:Lay}{c:aK}(a:At M L c)(few:c.bs.length<=1000){n:Nat}(bi:KR n c)(hn:n<=40000)
include a few bi hn
theorem HY(k:Int){b:dG}(hk':bk c k=some b):∃M',oY M [ob L.h,.int k]=.ok .none M'/\At M' L (oE (λx=>uX k x&&x.sd.al) (.followed b.sd.o b.sd.g) c):=by
 obtain⟨m,hh⟩:=a.hh;have few2:c.bs.length<=50000:=by omega
 have h1:=Iz a few2 hk';have h2:=aes a few2 k;rw[hk']at h2;obtain⟨k1,k2,k3,k4,k5⟩:=qF a hk';have hlen:((cD L c).filter λx=>uX k x.2.2&&x.2.2.sd.al).length<=1000:=ar8 (ar3 _ _) (by rw[a.len'];exact few);obtain⟨Z',M',g1,g2,g3⟩:=Qq (tg:=bx [3,4]) (body:=rC) (λZ=>∃x y,Z=[some (.dat (ob L.h)),some (.dat (.int k)),some (.dat (ob (hk L k))),x,y])
  (λi c1=>(∃b1,c1.bs[(k - 1).toNat]?=some b1/\b1.sd.o=b.sd.o/\b1.sd.g=b.sd.g)/\KR (n+i) c1/\c1.bs.length=c.bs.length) (.followed b.sd.o b.sd.g) L 1000 ((cD L c).filter λx=>uX k x.2.2&&x.2.2.sd.al) M c [some (.dat (ob L.h)),some (.dat (.int k)),some (.dat (ob (hk L k))),none,none] 0 (by omega) a ⟨⟨b,k4,rfl,rfl⟩,bi,rfl⟩ ⟨none,none,rfl⟩ (λM1 c1 Z x i hi a1 p1 q1 hx=>by
   obtain⟨⟨bm,m1,m2,m3⟩,bi1,l1⟩:=p1;obtain⟨x0,y0,rfl⟩:=q1;obtain⟨nm,hm⟩:=a1.hb _ _ _ k3 m1;obtain⟨e1,e2⟩:=Es (ar4.mp hx).1;have hl:x.1 < c1.bs.length:=by rw[l1];exact(arJ.mp e2).1
   have e3:=arI hl;obtain⟨nx,hx1⟩:=a1.hb _ _ _ e1 e3;have mem:=asB hl;have hb:=uo hx1 (.followed b.sd.o b.sd.g) (by rw[bi1.ear _ mem];decide) (by have:=bi1.en _ mem;omega);refine⟨[some (.dat (ob L.h)),some (.dat (.int k)),some (.dat (ob (hk L k))),some (.dat (.int ((x.1:Int)+1))),some (.dat (ob x.2.1))],[some (.dat (ob L.h)),some (.dat (.int k)),some (.dat (ob (hk L k))),some (.dat (.int ((x.1:Int)+1))),some (.dat (ob x.2.1))],_,by simp[nb],?_,⟨_,_,rfl⟩,za (n:=nx) a1 e1 e3,?_,bi1.step _ _ trivial,by simp[fB,l1]⟩
   ·have hb:m7 M1 [ob x.2.1,.tuple [.str "followed",.int b.sd.o,.int b.sd.g]]=_:=hb
    simp[rC,hx1,hm,bR];simp[iB]at hb ⊢;simp[m2,m3,hb,mW]
   ·rw[wC,m1];by_cases z:x.1=(k - 1).toNat
    ·exact⟨mW bm (.followed b.sd.o b.sd.g),by rw[if_pos z];rfl,rfl,rfl⟩
    ·exact⟨bm,by rw[if_neg z],m2,m3⟩)
 rw[W6 a (λx=>uX k x&&x.sd.al)]at g3;refine⟨M',?_,g3⟩;simp[oY,uL,hh,dO,fM,zK,h1,h2,g1]
end
def pD(p:Int×Int):Dat:=.tuple [.int p.1,.int p.2]
theorem uw:∀(x y:List Int),xZ (x.map PyData.int) (y.map PyData.int)=(x.zip y).map pD
 |[],_=>by simp[xZ]
 |_::_,[]=>by simp[xZ]
 |a::x,b::y=>by
  have:=uw x y;unfold xZ at this ⊢;rw[arK,arK,List.zipWith_cons_cons,this,ash,arK];rfl
def bD(x y:List Int):Int:=(((x.zip y).filter λp=>decide (p.1 < p.2)).map λp=>p.2 - p.1).sum
def fJ(x y:List Int):Int:=if bD y x > bD x y then bD y x else bD x y
def cZ(x y:List Int):List Int:=(x.zip y).map λp=>if p.2 > p.1 then p.2 else p.1
theorem ai4(x y:List Int)(h:x.length<=1000):(x.zip y).length<=50000:=by rw[List.length_zip];omega
theorem Xd(l:List Int):Vw (.list (l.map PyData.int))=.ok (.int l.sum):=by
 show(match intsOf (l.map PyData.int) with
  |some ns=>Out.ok (PyData.int ns.sum)
  |none=>.bad)=_
 rw[mF]
theorem yZ(M:Mo)(x y:List Int)(h:x.length<=1000):jg M [aJ x,aJ y]=.ok (.int (bD x y)):=by
 have key:=fW (tg:=bx [2,3]) (tt:=bh (aA Tp (ao 3) (ao 2))) (te:=aA lU (ao 3) (ao 2)) (M:=M) (Z:=[some (.dat (aJ x)),some (.dat (aJ y)),none,none]) pD (λp=>decide (p.1 < p.2)) (λp=>.int (p.2 - p.1)) (x.zip y) λp _=>⟨[some (.dat (aJ x)),some (.dat (aJ y)),some (.dat (.int p.1)),some (.dat (.int p.2))],by simp[pD],by simp,λ_=>by simp⟩;have hz:=ai4 x y h;have hs:=Xd (((x.zip y).filter λp=>decide (p.1 < p.2)).map λp=>p.2 - p.1);rw[asi]at hs;have hz2:min x.length y.length<=50000:=by omega
 simp[jg,Vo,uw,key,hz2];simp[ar5]at hs;simp[hs,bD]
theorem agH(M:Mo)(x y:List Int)(h:x.length<=1000)(h2:y.length<=1000):Ir M [aJ x,aJ y]=.ok (.int (fJ x y)):=by simp[Ir,Vi,yZ M x y h,yZ M y x h2,fJ]
theorem R9(x y:List Int):fJ x y=fJ y x:=by
 unfold fJ
 split<;>split<;>omega
theorem VB(M:Mo)(x y:List Int)(r:Int)(h:x.length<=1000)(h2:y.length<=1000):rQ M [aJ x,aJ y,.int r]=.ok (.bool (decide (fJ x y<=r))):=by simp[rQ,Yt,agH M x y h h2]
theorem Dr(M:Mo)(x y:List Int)(h:x.length<=1000):lK M [aJ x,aJ y]=.ok (aJ (cZ x y)):=by
 have key:=fu (tg:=bx [2,3]) (te:=aA tD (ao 2) (ao 3)) (M:=M) (Z:=[some (.dat (aJ x)),some (.dat (aJ y)),none,none]) pD (λp=>.int (if p.2 > p.1 then p.2 else p.1)) (x.zip y) λp _=>⟨[some (.dat (aJ x)),some (.dat (aJ y)),some (.dat (.int p.1)),some (.dat (.int p.2))],by simp[pD],by simp⟩;have hz2:min x.length y.length<=50000:=by omega
 simp[lK,Vj,uw,key,hz2,cZ]
abbrev Rw:=Ear.Rw
theorem W3:∀R:List Rw,Fq (R.map Ear.rD)=some R
 |[]=>rfl
 |r::R=>by
  rw[arK,Fq,W3 R];have:ac2 (Ear.rD r)=some r:=by
   unfold Ear.rD Ear.dT
   show(intsOf (r.2.map PyData.int)).map _=_
   rw[mF];rfl
  rw[this];rfl
theorem Mv(M:Mo)(R:List Rw)(h:R.eraseDups.length<=76):qP M [.list (R.map Ear.rD)]=.ok (.list ((bB R).map Ear.rD)):=by
 have:Rm (.list (R.map Ear.rD))=.ok (.list ((bB R).map Ear.rD)):=by
  show(match Fq (R.map Ear.rD) with
   |some R=>match decide (R.eraseDups.length<=76) with
    |true=>Out.ok (PyData.list ((bB R).map Ear.rD))
    |false=>.bad
   |none=>.bad)=_
  rw[W3]
  show(match decide (R.eraseDups.length<=76) with
    |true=>Out.ok (PyData.list ((bB R).map Ear.rD))
    |false=>.bad)=_
  rw[decide_eq_true h]
 simp[qP,Qv,this]
theorem oO(R:List Rw):(bB R).length=R.eraseDups.length:=by unfold bB RQ;rw[List.length_mergeSort]
def wL(o:Int)(e:List Int)(R:List Rw)(room:Int):List Rw:=(bB R).filter λr=>!(r.1==o)&&decide (fJ e r.2<=room)
def qU(R:List Rw):Prop:=∀r∈R,r.2.length=6
theorem acE(M:Mo)(o:Int)(e:List Int)(R:List Rw)(room:Int)(he:e.length=6)(hR:qU R)(h:R.eraseDups.length<=76):Aq M [.int o,aJ e,.list (R.map Ear.rD),.int room]=.ok (.list ((wL o e R room).map Ear.rD)):=by
 have ht:=Mv M R h;have hl:(bB R).length<=50000:=by rw[oO];omega
 have key:=fW (tg:=bx [4,5]) (tt:=jx (bh (aA yU (ao 4) (ao 0))) (gY (aU rQ (ak (aq 1) (ak (aq 5) (ak (aq 3) au)))))) (te:=bO (ak (aq 4) (ak (aq 5) au))) (M:=M) (Z:=[some (.dat (.int o)),some (.dat (aJ e)),some (.dat (.list (R.map Ear.rD))),some (.dat (.int room)),none,none]) Ear.rD (λr=>!(r.1==o)&&decide (fJ e r.2<=room)) Ear.rD (bB R) λr hr=>⟨[some (.dat (.int o)),some (.dat (aJ e)),some (.dat (.list (R.map Ear.rD))),some (.dat (.int room)),some (.dat (.int r.1)),some (.dat (aJ r.2))],by simp[Ear.rD,Ear.dT],by
  have:=VB M e r.2 room (by omega) (by rw[hR r (dN.mp hr)];decide);by_cases hz:r.1=o<;>simp[this,hz],λ_=>by simp[Ear.rD,Ear.dT]⟩
 simp[Aq,Ld,ht,key,hl,wL]
theorem Pa(M:Mo)(o:Int)(e:List Int)(R:List Rw)(room:Int)(he:e.length=6)(hR:qU R)(h:R.eraseDups.length<=76):oR M [.int o,aJ e,.list (R.map Ear.rD),.int room]=match wL o e R room with
  |[]=>.ok .none
  |r::_=>.exc ⟨"Clash",[("ear",aJ (cZ e r.2)),("others",Ear.rD r),("ones",Ear.rD (o,e))]⟩:=by
 have hb:=acE M o e R room he hR h;cases hx:wL o e R room with
 |nil=>
  rw[hx]at hb;simp[oR,Cv,hb]
 |cons r rs=>
  rw[hx]at hb;have hj:=Dr M e r.2 (by omega);simp[oR,Cv,hb];simp[Ear.rD,Ear.dT,hj]
theorem Ja{α β:Type}{tg tg1:fH}{tt tt1:QT}{it1:IF}{vs1:List Nat}{te:QF}{M:Mo}{Z:Rf.Env}(ds:α->Dat)(ys:α->List β)(ds1:β->Dat)(p:α->β->Bool)(f:α->β->Dat):∀(xs:List α),(∀x∈xs,∃Z1,tg (ds x) Z=some Z1/\tt M Z1=.ok true/\Ab Z1=true/\it1 M Z1=.ok ((ys x).map ds1)/\∀y∈ys x,∃Z2,tg1 (ds1 y) (bT Z1 vs1)=some Z2/\tt1 M Z2=.ok (p x y)/\(p x y=true->te M Z2=.ok (f x y)))->
  iG tg tt it1 tg1 vs1 tt1 te M Z (xs.map ds)=.ok (xs.flatMap λx=>((ys x).filter (p x)).map (f x))
 |[],_=>rfl
 |x::xs,h=>by
  obtain⟨Z1,h1,h2,h3,h4,h5⟩:=h x arM;have ih:=Ja ds ys ds1 p f xs λy hy=>h y (arL _ hy);have hc:=fW (tg:=tg1) (tt:=tt1) (te:=te) (M:=M) (Z:=bT Z1 vs1) ds1 (p x) (f x) (ys x) h5;rw[arK,iG,h1]
  show((yt (tt M Z1)).bind λb=>if b=true then Out.when (Ab Z1) ((yt (it1 M Z1)).bind λes=>(cR tg1 tt1 te M (bT Z1 vs1) es).bind λr1=>(iG tg tt it1 tg1 vs1 tt1 te M Z (xs.map ds)).bind λr=>Out.ok (r1++r)) else iG tg tt it1 tg1 vs1 tt1 te M Z (xs.map ds))=_
  rw[h2,Zu,Out.zA,if_pos rfl,h3,Out.Xp,h4,Zu,Out.zA,hc,Out.zA,ih,Out.zA,List.flatMap_cons]
def cO(x:List Int):Bool:=decide (x.length=6)&&x.all λd=>decide (0<=d)&&decide (d<=9)
theorem Ao(l:List Bool):qY (l.map PyData.bool)=some l:=by
 induction l with
 |nil=>rfl
 |cons b l ih=>rw[arK,qY,ih];rfl
theorem Wv(M:Mo)(x:List Int)(h:x.length<=1000):tX M [aJ x]=.ok (.bool (cO x)):=by
 have key:=fu (tg:=aG 1) (te:=Wn (pq qp qp (qC (.int 0)) (ao 1) (qC cX))) (M:=M) (Z:=[some (.dat (aJ x)),none]) PyData.int (λd=>.bool (decide (0<=d)&&decide (d<=9))) x λd _=>⟨[some (.dat (aJ x)),some (.dat (.int d))],by simp,by
  by_cases h0:0<=d<;>simp[h0,cX]⟩
 have ha:Jr (.list (x.map λd=>PyData.bool (decide (0<=d)&&decide (d<=9))))=.ok (.bool (x.all λd=>decide (0<=d)&&decide (d<=9))):=by
  have e:(x.map λd=>PyData.bool (decide (0<=d)&&decide (d<=9)))=(x.map λd=>decide (0<=d)&&decide (d<=9)).map PyData.bool:=by rw[asi];rfl
  rw[e]
  show(match qY _ with
   |some bs=>Out.ok (PyData.bool (bs.all id))
   |none=>.bad)=_
  rw[Ao];simp[List.all_map,ar5]
 have hl:x.length<=50000:=by omega
 by_cases h6:x.length=6
 ·have h6':((x.length:Int)==6)=true:=by simp[h6]
  simp[tX,JW,jc,key,hl,ha,cO,h6]
 ·have h6':¬(x.length:Int)=6:=by omega
  simp[tX,JW,jc,cO,h6,h6']
theorem Gj(M:Mo)(x:List Int)(h:x.length<=1000):mK M [aJ x]=if cO x then .ok .none else .exc ⟨"BadEar",[]⟩:=by have:=Wv M x h;cases hb:cO x<;>simp[mK,IW,this,hb]
def pairD(p:Rw×Rw):Dat:=.tuple [Ear.rD p.1,Ear.rD p.2]
def jQ(T:List Rw)(room:Int):List (Rw×Rw):=(T.mapIdx λi r=>(i,r)).flatMap λx=>((T.drop (x.1+1)).filter λs=>!(x.2.1==s.1)&&decide (fJ x.2.2 s.2<=room)).map λs=>(x.2,s)
theorem aa6(T:List Rw)(room:Int):(jQ T room).length<=T.length * T.length:=by
 unfold jQ;rw[List.length_flatMap];have key:∀(l:List (Nat×Rw)),(l.map λx=>(((T.drop (x.1+1)).filter λs=>!(x.2.1==s.1)&&decide (fJ x.2.2 s.2<=room)).map λs=>(x.2,s)).length).sum<=l.length * T.length:=by
  intro l
  induction l with
  |nil=>simp
  |cons x l ih=>
   rw[arK,List.sum_cons,arW,Nat.add_mul,Nat.one_mul];have:(((T.drop (x.1+1)).filter λs=>!(x.2.1==s.1)&&decide (fJ x.2.2 s.2<=room)).map λs=>(x.2,s)).length<=T.length:=by rw[arU];refine ar8 (ar3 _ _) ?_;rw[as6];omega
   omega
 have:=key (T.mapIdx λi r=>(i,r));rw[List.length_mapIdx]at this;exact this
theorem aa5(M:Mo)(R:List Rw)(room:Int)(hR:qU R)(h:R.eraseDups.length<=76):uP M [.list (R.map Ear.rD),.int room]=.ok (.list ((jQ (bB R) room).map pairD)):=by
 have ht:=Mv M R h;have hl:(bB R).length<=76:=by rw[oO];exact h
 have hE:∀r∈bB R,r.2.length=6:=λr hr=>hR r (dN.mp hr);generalize bB R=T at ht hl hE;have he:pQ 0 (T.map Ear.rD)=(T.mapIdx λi r=>(i,r)).map λ(x:Nat×Rw)=>PyData.tuple [.int x.1,Ear.rD x.2]:=by unfold pQ;apply asl;intro i;simp;cases T[i]?<;>simp
 have key:=Ja (tg:=bx [3,4]) (tg1:=aG 5) (tt:=iI) (it1:=dB (SN (ao 2) (uK (aA gR (ao 3) (qC (.int 1)))) DK)) (vs1:=[5]) (tt1:=jx (bh (aA yU (aA aW (ao 4) (qC (.int 0))) (aA aW (ao 5) (qC (.int 0))))) (gY (aU rQ (ak (aA aW (ao 4) (qC (.int 1))) (ak (aA aW (ao 5) (qC (.int 1))) (ak (aq 1) au)))))) (te:=bO (ak (aq 4) (ak (aq 5) au))) (M:=M) (Z:=[some (.dat (.list (R.map Ear.rD))),some (.dat (.int room)),some (.dat (.list (T.map Ear.rD))),none,none,none])
  (λ(x:Nat×Rw)=>PyData.tuple [.int x.1,Ear.rD x.2]) (λx=>T.drop (x.1+1)) Ear.rD (λx s=>!(x.2.1==s.1)&&decide (fJ x.2.2 s.2<=room)) (λx s=>pairD (x.2,s)) (T.mapIdx λi r=>(i,r)) λx hx=>⟨[some (.dat (.list (R.map Ear.rD))),some (.dat (.int room)),some (.dat (.list (T.map Ear.rD))),some (.dat (.int x.1)),some (.dat (Ear.rD x.2)),none],by simp,rfl,rfl,by
   have:=YF (T.map Ear.rD) (x.1+1);simp at this ⊢;rw[this],λs hs=>⟨[some (.dat (.list (R.map Ear.rD))),some (.dat (.int room)),some (.dat (.list (T.map Ear.rD))),some (.dat (.int x.1)),some (.dat (Ear.rD x.2)),some (.dat (Ear.rD s))],by simp,by
   obtain⟨i,hi,rfl⟩:=List.mem_mapIdx.mp hx;have h1:=hE _ (asB hi);have h2:=hE s (List.mem_of_mem_drop hs);have:=VB M (T[i]).2 s.2 room (by omega) (by omega);by_cases hz:(T[i]).1=s.1<;>simp[Ear.rD,Ear.dT,this,hz],λ_=>by simp[pairD]⟩⟩
 have e2:((T.mapIdx λi r=>(i,r)).flatMap λx=>((T.drop (x.1+1)).filter λs=>!(x.2.1==s.1)&&decide (fJ x.2.2 s.2<=room)).map λs=>pairD (x.2,s))=(jQ T room).map pairD:=by unfold jQ;rw[List.map_flatMap];congr 1;funext x;rw[asi];rfl
 rw[e2]at key;have hc:(jQ T room).length<=50000:=by have:=aa6 T room;have:T.length * T.length<=76 * 76:=Nat.mul_le_mul hl hl;omega
 simp[uP,IK,ht];rw[he];simp[key,hc]
def hdD(x:List Int×Int):Dat:=.tuple [aJ x.1,.int x.2]
def Lh(d l:Int):Int:=(if 9 < d+l then 9 else d+l)+1
def Cp(d l:Int):List Int:=(List.range (Lh d l - d).toNat).map λ(i:Nat)=>d+(i:Int)
def stepT(d:Int)(H:List (List Int×Int)):List (List Int×Int):=H.flatMap λx=>(Cp d x.2).map λcut=>(x.1++[cut],x.2 - (cut - d))
structure Qy(k:Nat)(H:List (List Int×Int)):Prop where
 len:H.length<=4 ^ k
 left:∀x∈H,0<=x.2/\x.2<=3
 hd:∀x∈H,x.1.length=k/\∀y∈x.1,0<=y/\y<=9
theorem adq{d l:Int}(hl:0<=l/\l<=3):(Cp d l).length<=4:=by
 unfold Cp Lh;simp
 split<;>omega
theorem W7{d l y:Int}(h:y∈Cp d l):d<=y/\y<=d+l/\y<=9:=by unfold Cp Lh at h;obtain⟨i,hi,rfl⟩:=arQ.mp h;rw[List.mem_range]at hi;split at hi<;>omega
theorem W4{k:Nat}{H:List (List Int×Int)}{d:Int}(i:Qy k H)(hd:0<=d/\d<=9):Qy (k+1) (stepT d H):=by
 refine⟨?_,λx hx=>?_,λx hx=>?_⟩
 ·have key:∀l:List (List Int×Int),(∀x∈l,0<=x.2/\x.2<=3)->(stepT d l).length<=l.length * 4:=by
   intro l
   induction l with
   |nil=>intro _;simp[stepT]
   |cons x l ih=>
    intro h;have h1:=ih λy hy=>h y (arL _ hy);have h2:=adq (d:=d) (h x arM);unfold stepT at h1 ⊢;rw[List.flatMap_cons,asJ,arU,arW];omega
  have:=key H i.left;have:=i.len;rw[Nat.pow_succ];omega
 ·unfold stepT at hx;obtain⟨y,hy,hx⟩:=List.mem_flatMap.mp hx;obtain⟨c,hc,rfl⟩:=arQ.mp hx;have:=W7 hc;have:=i.left y hy;show 0<=y.2 - (c - d)/\y.2 - (c - d)<=3;omega
 ·unfold stepT at hx;obtain⟨y,hy,hx⟩:=List.mem_flatMap.mp hx;obtain⟨c,hc,rfl⟩:=arQ.mp hx;have:=W7 hc;obtain⟨h1,h2⟩:=i.hd y hy;refine⟨by simp[h1],λz hz=>?_⟩;rcases arR.mp hz with hz|hz
  ·exact h2 z hz
  ·rw[arO.mp hz];omega
theorem ael(M:Mo)(e m:Option Cell)(he:Ab [e,m]=true){k:Nat}{H:List (List Int×Int)}{d:Int}(i:Qy k H)(hk:k<=5)(hd:0<=d/\d<=9):Ea M [e,m,some (.dat (.list (H.map hdD))),some (.dat (.int d)),none,none,none]=.next [e,m,some (.dat (.list ((stepT d H).map hdD))),some (.dat (.int d)),none,none,none] M:=by
 have key:=Ja (tg:=bx [4,5]) (tg1:=aG 6) (tt:=iI) (it1:=CW (ao 3) (aA gR (aA Jd (aA gR (ao 3) (ao 5)) (qC cX)) (qC (.int 1)))) (vs1:=[6]) (tt1:=iI) (te:=bO (ak (aA gR (ao 4) (bO (ak (aq 6) au))) (ak (aA lU (ao 5) (aA lU (ao 6) (ao 3))) au))) (M:=M) (Z:=[e,m,some (.dat (.list (H.map hdD))),some (.dat (.int d)),none,none,none])
  hdD (λx=>Cp d x.2) PyData.int (λ_ _=>true) (λx c=>hdD (x.1++[c],x.2 - (c - d))) H λx hx=>⟨[e,m,some (.dat (.list (H.map hdD))),some (.dat (.int d)),some (.dat (aJ x.1)),some (.dat (.int x.2)),none],by simp[hdD],rfl,by
   simp[Ab]at he ⊢;exact he,by
   have hl:=i.left x hx;have hz:Lh d x.2<=100000/\-100000<=Lh d x.2/\d<=100000/\-100000<=d:=by unfold Lh;split<;>omega
   have e1:jy d (Lh d x.2 - d).toNat=(Cp d x.2).map PyData.int:=by unfold jy Cp;rw[asi];rfl
   have e2:(if 9 < d+x.2 then(9:Int) else d+x.2)+1=Lh d x.2:=rfl;simp[cX,e2,e1,hz],λc hc=>⟨[e,m,some (.dat (.list (H.map hdD))),some (.dat (.int d)),some (.dat (aJ x.1)),some (.dat (.int x.2)),some (.dat (.int c))],by simp,rfl,λ_=>by
   have h1:=(i.hd x hx).1;have h2:x.1.length+1<=100000:=by omega
   simp[hdD,h2]⟩⟩
 have e2:(H.flatMap λx=>((Cp d x.2).filter λ_=>true).map λc=>hdD (x.1++[c],x.2 - (c - d)))=(stepT d H).map hdD:=by unfold stepT;rw[List.map_flatMap];congr 1;funext x;rw[List.filter_eq_self.mpr (λ_ _=>rfl),asi];rfl
 rw[e2]at key;have hl:(stepT d H).length<=50000:=by have:=(W4 i hd).len;have:4 ^ (k+1)<=4 ^ 6:=Nat.pow_le_pow_right (by decide) (by omega);omega
 simp[Ea,key,hl]
theorem Mw(M:Mo)(e m:Option Cell)(he:Ab [e,m]=true):∀(ear:List Int) (k:Nat) (H:List (List Int×Int)) (o:Option Cell),Qy k H->k+ear.length<=6->(∀d∈ear,0<=d/\d<=9)->
  (∃o',fY (aG 3) Ea (ear.map PyData.int) M [e,m,some (.dat (.list (H.map hdD))),o,none,none,none]=.next [e,m,some (.dat (.list ((ear.foldl (λH d=>stepT d H) H).map hdD))),o',none,none,none] M)/\Qy (k+ear.length) (ear.foldl (λH d=>stepT d H) H)
 |[],k,H,o,i,_,_=>⟨⟨o,rfl⟩,i⟩
 |d::ear,k,H,o,i,hk,hd=>by
  rw[arW]at hk;have h1:=hd d arM;obtain⟨⟨o',ih⟩,i2⟩:=Mw M e m he ear (k+1) (stepT d H) (some (.dat (.int d))) (W4 i h1) (by omega) λy hy=>hd y (arL _ hy);refine⟨⟨o',?_⟩,?_⟩
  ·rw[arK,fV (Z1:=[e,m,some (.dat (.list (H.map hdD))),some (.dat (.int d)),none,none,none]) (by simp) (ael M e m he i (by omega) h1),ih];rfl
  ·rw[arW,show k+(ear.length+1)=k+1+ear.length by omega];exact i2
def Fw(ear:List Int)(many:Int):List (List Int):=(ear.foldl (λH d=>stepT d H) [([],many)]).map (·.1)
theorem aeS{many:Int}(hm:0<=many/\many<=3):Qy 0 [([],many)]:=⟨by simp,λx hx=>by rw[arO.mp hx];exact hm,λx hx=>by rw[arO.mp hx];simp⟩
theorem QH{ear:List Int}{many:Int}(he:cO ear=true)(hm:0<=many/\many<=3):Qy 6 (ear.foldl (λH d=>stepT d H) [([],many)]):=by unfold cO at he;rw[arH,ate,ar7]at he;have:=(Mw [] none none rfl ear 0 [([],many)] none (aeS hm) (by omega) λd hd=>by simpa using he.2 d hd).2;rw[he.1]at this;exact this
theorem ahM(M:Mo)(ear:List Int)(many:Int)(he:cO ear=true)(hm:0<=many/\many<=3):MN M [aJ ear,.int many]=.ok (.list ((Fw ear many).map aJ)):=by
 have he':=he;unfold cO at he';rw[arH,ate,ar7]at he';obtain⟨⟨o',h1⟩,_⟩:=Mw M (some (.dat (aJ ear))) (some (.dat (.int many))) rfl ear 0 [([],many)] none (aeS hm) (by omega) λd hd=>by simpa using he'.2 d hd
 have hi:=QH he hm;generalize hH:ear.foldl (λH d=>stepT d H) [([],many)]=H at h1 hi;have key:=fu (tg:=bx [4,5]) (te:=aq 4) (M:=M) (Z:=[some (.dat (aJ ear)),some (.dat (.int many)),some (.dat (.list (H.map hdD))),o',none,none,none]) hdD (λx=>aJ x.1) H λx _=>⟨[some (.dat (aJ ear)),some (.dat (.int many)),some (.dat (.list (H.map hdD))),o',some (.dat (aJ x.1)),some (.dat (.int x.2)),none],by simp[hdD],by simp⟩;have hl:H.length<=50000:=by
  have:=hi.len;have:(4:Nat) ^ 6=4096:=by decide
  omega
 have h1':fY (aG 3) Ea (ear.map PyData.int) M [some (.dat (aJ ear)),some (.dat (.int many)),some (.dat (.list [.tuple [.tuple [],.int many]])),none,none,none,none]=_:=h1;have key2:∀o2:Option Cell,cR (bx [4,5]) iI (aq 4) M [some (.dat (aJ ear)),some (.dat (.int many)),some (.dat (.list (H.map hdD))),o2,none,none,none] (H.map hdD)=.ok (H.map λx=>aJ x.1):=λo2=>fu (tg:=bx [4,5]) (te:=aq 4) (M:=M) (Z:=[some (.dat (aJ ear)),some (.dat (.int many)),some (.dat (.list (H.map hdD))),o2,none,none,none]) hdD (λx=>aJ x.1) H λx _=>⟨[some (.dat (aJ ear)),some (.dat (.int many)),some (.dat (.list (H.map hdD))),o2,some (.dat (aJ x.1)),some (.dat (.int x.2)),none],by simp[hdD],by simp⟩;simp[MN,Zt,h1',key2,hl,Fw,hH]
def QM(mark:List Int)(extra:Int):List (List Int):=(Fw mark extra).filter λe=>bD mark e==extra
theorem Xg{ear:List Int}{many:Int}(he:cO ear=true)(hm:0<=many/\many<=3){x:List Int}(h:x∈Fw ear many):cO x=true:=by obtain⟨y,hy,rfl⟩:=arQ.mp h;obtain⟨h1,h2⟩:=(QH he hm).hd y hy;unfold cO;rw[arH,ate,ar7];exact⟨h1,λd hd=>by simpa using h2 d hd⟩
theorem afg{ear:List Int}{many:Int}(he:cO ear=true)(hm:0<=many/\many<=3):(Fw ear many).length<=4096:=by unfold Fw;rw[arU];exact(QH he hm).len
theorem aaI(M:Mo)(mark:List Int)(extra:Int)(he:cO mark=true)(hm:0<=extra/\extra<=3):vO M [aJ mark,.int extra]=.ok (.list ((QM mark extra).map aJ)):=by
 have h1:=ahM M mark extra he hm;have hl:=afg he hm;have h6:mark.length<=1000:=by unfold cO at he;rw[arH,ate]at he;omega
 have key:=fW (tg:=aG 2) (tt:=bh (aA cJ (aU jg (ak (aq 0) (ak (aq 2) au))) (ao 1))) (te:=aq 2) (M:=M) (Z:=[some (.dat (aJ mark)),some (.dat (.int extra)),none]) aJ (λe=>bD mark e==extra) aJ (Fw mark extra) λx _=>⟨[some (.dat (aJ mark)),some (.dat (.int extra)),some (.dat (aJ x))],by simp,by
  have:=yZ M mark x h6;simp[this],λ_=>by simp⟩
 have hl2:(Fw mark extra).length<=50000:=by omega
 simp[vO,Gg,h1,key,hl2,QM]
def zW(R:List Rw)(room:Int)(e:List Int):Bool:=!(R.any λr=>decide (fJ e r.2<=room))
theorem YX(l:List Bool):Qc (.list (l.map PyData.bool))=.ok (.bool (l.any id)):=by
 show(match qY (l.map PyData.bool) with
  |some bs=>Out.ok (PyData.bool (bs.any id))
  |none=>.bad)=_
 rw[Ao]
theorem acy(M:Mo)(R:List Rw)(room:Int)(hR:qU R)(hl:R.length<=50000)(mk:List Int)(x:Int)(e:List Int)(he:e.length=6) :
  j7 M [some (.dat (aJ mk)),some (.dat (.int x)),some (.dat (.list (R.map Ear.rD))),some (.dat (.int room)),some (.dat (aJ e)),none,none]=if zW R room e then .ret (aJ e) M else .next [some (.dat (aJ mk)),some (.dat (.int x)),some (.dat (.list (R.map Ear.rD))),some (.dat (.int room)),some (.dat (aJ e)),none,none] M:=by
 have key:=fu (tg:=bx [5,6]) (te:=aU rQ (ak (aq 4) (ak (aq 6) (ak (aq 3) au)))) (M:=M) (Z:=[some (.dat (aJ mk)),some (.dat (.int x)),some (.dat (.list (R.map Ear.rD))),some (.dat (.int room)),some (.dat (aJ e)),none,none]) Ear.rD (λr=>.bool (decide (fJ e r.2<=room))) R λr hr=>⟨[some (.dat (aJ mk)),some (.dat (.int x)),some (.dat (.list (R.map Ear.rD))),some (.dat (.int room)),some (.dat (aJ e)),some (.dat (.int r.1)),some (.dat (aJ r.2))],by simp[Ear.rD,Ear.dT],by
  have:=VB M e r.2 room (by omega) (by rw[hR r hr];decide);simp[this]⟩
 have ha:=YX (R.map λr=>decide (fJ e r.2<=room));rw[asi]at ha;simp only[ar5,as5]at ha;cases hf:zW R room e<;>simp[j7,key,hl,ha]<;>simp[zW]at hf<;>simpa using hf
theorem Sq(M:Mo)(R:List Rw)(room:Int)(hR:qU R)(hl:R.length<=50000)(mk:List Int)(x:Int):∀(es:List (List Int)) (o:Option Cell),(∀e∈es,e.length=6)->
  match es.find? (zW R room) with
   |some e=>fY (aG 4) j7 (es.map aJ) M [some (.dat (aJ mk)),some (.dat (.int x)),some (.dat (.list (R.map Ear.rD))),some (.dat (.int room)),o,none,none]=.ret (aJ e) M
   |none=>∃Z',fY (aG 4) j7 (es.map aJ) M [some (.dat (aJ mk)),some (.dat (.int x)),some (.dat (.list (R.map Ear.rD))),some (.dat (.int room)),o,none,none]=.next Z' M
 |[],o,_=>⟨_,rfl⟩
 |e::es,o,he=>by
  have h1:=acy M R room hR hl mk x e (he e arM);have ih:=Sq M R room hR hl mk x es (some (.dat (aJ e))) λy hy=>he y (arL _ hy);rw[List.find?_cons];cases hf:zW R room e with
  |true=>
   rw[hf,if_pos rfl]at h1;show fY _ _ _ _ _=_;rw[arK,fY];simp[h1]
  |false=>
   rw[hf,if_neg (by decide)]at h1;have e1:fY (aG 4) j7 ((e::es).map aJ) M [some (.dat (aJ mk)),some (.dat (.int x)),some (.dat (.list (R.map Ear.rD))),some (.dat (.int room)),o,none,none]=fY (aG 4) j7 (es.map aJ) M [some (.dat (aJ mk)),some (.dat (.int x)),some (.dat (.list (R.map Ear.rD))),some (.dat (.int room)),some (.dat (aJ e)),none,none]:=by rw[arK,fV (by simp) h1]
   rw[e1];exact ih
theorem XC(M:Mo)(mark:List Int)(extra:Int)(R:List Rw)(room:Int)(he:cO mark=true)(hm:0<=extra/\extra<=3)(hR:qU R)(hl:R.length<=50000):qm M [aJ mark,.int extra,.list (R.map Ear.rD),.int room]=match (QM mark extra).find? (zW R room) with
  |some e=>.ok (aJ e)
  |none=>.exc ⟨"NoneFree",[]⟩:=by
 have h1:=aaI M mark extra he hm;have h2:=Sq M R room hR hl mark extra (QM mark extra) none λe h=>by
  have:=Xg he hm (ar4.mp h).1;unfold cO at this;rw[arH,ate]at this;exact this.1
 cases hf:(QM mark extra).find? (zW R room) with
 |some e=>
  rw[hf]at h2;simp[qm,xY,h1,h2]
 |none=>
  rw[hf]at h2;obtain⟨Z',h2⟩:=h2;simp[qm,xY,h1,h2]
@[simp]theorem ank (L:Lay) (c:aK):(aP L c).cls="Commons":=rfl
theorem any_keys(y:Int)(l:List Int):((l.map λo=>(PyData.int o,PyData.bool true)).any λp=>PyData.eqv p.1 (.int y))=decide (y∈l):=by have:=any_ints y l;rw[as5]at this ⊢;exact this
section
variable{M:Mo}{L:Lay}{c:aK}(a:At M L c)
include a
theorem lQ(o:Int):jJ M [ob L.c,.int o]=if o∈c.own then .ok .none else .exc ⟨"NoOwner",[]⟩:=by
 have hc:=a.hc;have hk:=any_keys o c.own;simp only[as5,ar5]at hk;by_cases h:o∈c.own
 ·rw[decide_eq_true h]at hk;rw[if_pos h];simp[jJ,mH,hc,aP,ar5,hk];rw[if_neg (λz=>z o h rfl)]
 ·rw[decide_eq_false h]at hk;rw[if_neg h];simp[jJ,mH,hc,aP,ar5,hk];have hz:∀x:Int,x∈c.own->¬x=o:=λx hx e=>h (e ▸ hx);rw[if_pos hz]
theorem tO(i:dw c)(x:Int):qu M [ob L.c,.int x]=if Vg c x then .ok (.int (roomOf c x)) else .exc ⟨"NoGround",[]⟩:=by
 have hc:=a.hc;obtain⟨n,m,hg⟩:=a.hg;have h1:=aiL a i x;by_cases h:Vg c x
 ·rw[if_pos h]at h1 ⊢;simp[qu,vm,hc,aP,hg,dH,tL,h1]
 ·rw[if_neg h]at h1 ⊢;simp[qu,vm,hc,aP,hg,dH,tL,h1]
theorem Bu(i:dw c)(x:Int):kJ M [ob L.c,.int x]=if Vg c x then .ok (lI (aH c x)) else .exc ⟨"NoGround",[]⟩:=by
 have hc:=a.hc;obtain⟨n,m,hg⟩:=a.hg;have h1:=vP a i x;by_cases h:Vg c x
 ·rw[if_pos h]at h1 ⊢;simp[kJ,oW,hc,aP,hg,dH,bH,h1]
 ·rw[if_neg h]at h1 ⊢;simp[kJ,oW,hc,aP,hg,dH,bH,h1]
theorem aen:qZ M [ob L.c]=.ok (lI c.own):=by have hc:=a.hc;simp[qZ,wM,hc,aP,ar5]
theorem rP(few:c.held.length<=50000)(o g:Int):lX M [ob L.c,.int o,.int g]=if bU c o g=[] then .exc ⟨"NoRight",[]⟩ else .ok .none:=by have hc:=a.hc;have hr:=a.hr;have h1:=aac a few o g;by_cases h:bU c o g=[]<;>simp[lX,qR,hc,aP,hr,oF,sW,h1,h]
theorem BJ(few:c.held.length<=50000)(o g:Int){mk:List Int}{r:List (List Int)}(h:bU c o g=mk::r):mj M [ob L.c,.int o,.int g]=.ok (aJ mk):=by have hc:=a.hc;have hr:=a.hr;have h1:=Jy a few o g;rw[h]at h1;simp[mj,qX,hc,aP,hr,oF,cM,h1]
end
def inR(c:aK)(near:List Int):List Rw:=(c.held.filter λr=>decide (r.2.1∈near)).map λr=>(r.1,r.2.2)
def YJ(lo:Int)(x:Nat×Nat×dG):Bool:=x.2.2.sd.due.isSome&&!(((x.1:Int)+1)==lo)
def Qg(L:Lay)(c:aK)(lo:Int)(near:List Int):List Rw:=(((cD L c).filter λx=>decide (x.2.2.sd.g∈near)&&x.2.2.sd.al).filter (YJ lo)).map λx=>(x.2.2.sd.o,x.2.2.sd.due.getD [])
def fK(L:Lay)(c:aK)(lo x:Int):List Rw:=inR c (aH c x)++Qg L c lo (aH c x)
section
variable{M:Mo}{L:Lay}{c:aK}(a:At M L c)
include a
theorem Fy(i:dw c)(few:c.held.length<=20000)(fewb:c.bs.length<=20000)(lo x:Int)(h76:(fK L c lo x).eraseDups.length<=76):iV M [ob L.c,.int lo,.int x]=if Vg c x then .ok (.list ((bB (fK L c lo x)).map Ear.rD)) else .exc ⟨"NoGround",[]⟩:=by
 have hc:=a.hc;have hr:=a.hr;obtain⟨n,hh⟩:=a.hh;have h1:=Bu a i x;by_cases h:Vg c x
 ·rw[if_pos h]at h1 ⊢;have h2:=RM a (by omega:c.bs.length<=50000) (aH c x);have h3:=X8 a (by omega:c.held.length<=50000) (aH c x);have h4:=Mv M (fK L c lo x) h76;have hl:((cD L c).filter λy=>decide (y.2.2.sd.g∈aH c x)&&y.2.2.sd.al).length<=20000:=ar8 (ar3 _ _) (by rw[a.len'];exact fewb);have hl2:((cD L c).filter λy=>decide (y.2.2.sd.g∈aH c x)&&y.2.2.sd.al).length<=50000:=by omega
  have key:=fW (tg:=bx [5,6]) (tt:=jx (bh (xO true .none (bK "due" (ao 6)))) (bh (aA yU (ao 5) (ao 1)))) (te:=bO (ak (fL "owner" (ao 6)) (ak (fL "due" (ao 6)) au))) (M:=M) (Z:=[some (.dat (ob L.c)),some (.dat (.int lo)),some (.dat (.int x)),some (.dat (lI (aH c x))),none,none,none]) nb (YJ lo) (λy=>Ear.rD (y.2.2.sd.o,y.2.2.sd.due.getD [])) ((cD L c).filter λy=>decide (y.2.2.sd.g∈aH c x)&&y.2.2.sd.al) λy hy=>⟨[some (.dat (ob L.c)),some (.dat (.int lo)),some (.dat (.int x)),some (.dat (lI (aH c x))),none,some (.dat (.int ((y.1:Int)+1))),some (.dat (ob y.2.1))],by simp[nb],by
   obtain⟨n',hb⟩:=a.hb' (ar4.mp hy).1;cases hd:y.2.2.sd.due<;>simp[hb,iB,hd,qb,YJ,mO],λhp=>by
   obtain⟨n',hb⟩:=a.hb' (ar4.mp hy).1;cases hd:y.2.2.sd.due with
   |none=>simp[YJ,hd]at hp
   |some e=>simp[hb,iB,hd,qb,Ear.rD,Ear.dT]⟩
  have e1:(c.held.filter λr=>decide (r.2.1∈aH c x)).map (λr=>Ear.rD (r.1,r.2.2))=(inR c (aH c x)).map Ear.rD:=by unfold inR;rw[asi];rfl
  have e2:(((cD L c).filter λy=>decide (y.2.2.sd.g∈aH c x)&&y.2.2.sd.al).filter (YJ lo)).map (λy=>Ear.rD (y.2.2.sd.o,y.2.2.sd.due.getD []))=(Qg L c lo (aH c x)).map Ear.rD:=by unfold Qg;rw[asi];rfl
  rw[e1]at h3;rw[e2]at key;have z1:(inR c (aH c x)).length<=20000:=by unfold inR;rw[arU];exact ar8 (ar3 _ _) few
  have z2:(Qg L c lo (aH c x)).length<=20000:=by unfold Qg;rw[arU];exact ar8 (ar3 _ _) hl
  have z3:(inR c (aH c x)).length+(Qg L c lo (aH c x)).length<=100000:=by omega
  unfold fK at h4 ⊢;rw[asq]at h4;simp[iV,j9,hc,aP,bW,h1,hh,dO,jN,h2,hr,oF,qT,h3];simp[key,hl2,z3,h4,hc,aP,hr,oF,h3]
 ·rw[if_neg h]at h1 ⊢;simp[iV,j9,hc,aP,bW,h1]
end
def jL(b:dG):Dat:=.tuple [.int b.sd.o,.int b.sd.g,qb b.sd.due,aJ b.sd.ear,.bool b.sd.al,.int b.mo,.tuple (b.fi.dat::b.en.map En.dat)]
theorem aiV{M:Mo}{h n:Nat}{b:dG}(hb:M[h]?=some (iB n b)):yQ M [ob h]=.ok (jL b):=by have h1:=Zz hb;simp[yQ,DR,hb,mY,h1];simp[iB,Sd.dat,jL]
def grD(c:aK)(k:Nat):Dat:=.tuple [.int (lV c ((k:Int)+1)),aJ (aH c ((k:Int)+1))]
def pU(c:aK):Dat:=.tuple [lI c.own,.list ((List.range c.al.length).map (grD c)),.list (c.held.map iZ),.list (c.bs.map jL)]
section
variable{M:Mo}{L:Lay}{c:aK}(a:At M L c)
include a
theorem ah7(i:dw c)(few:c.held.length<=20000)(fewb:c.bs.length<=20000):ql M [ob L.c]=.ok (pU c):=by
 have hc:=a.hc;have hr:=a.hr;obtain⟨n,m,hg⟩:=a.hg;obtain⟨n1,hh⟩:=a.hh;have h1:=abN a;have h2:=aen a;have h3:=aa2 a (by omega:c.held.length<=50000);have hf:=i.few;have k1:=fu (tg:=aG 3) (te:=bO (ak (aO dY (bK "grounds" (ao 0)) (ak (aq 3) au)) (ak (eZ kE (aO bW (ao 0) (ak (aq 3) au))) au))) (M:=M) (Z:=[some (.dat (ob L.c)),none,none,none,none]) (λ(k:Nat)=>PyData.int (1+(k:Int))) (grD c) (List.range c.al.length) λk hk=>⟨[some (.dat (ob L.c)),none,none,some (.dat (.int ((k:Int)+1))),none],by simp[Int.add_comm],by
  rw[List.mem_range]at hk;have hv:Vg c ((k:Int)+1):=by constructor<;>omega
  have g1:=Lw a ((k:Int)+1);have g2:=Bu a i ((k:Int)+1);rw[if_pos hv]at g1 g2;simp[hc,aP,hg,dH,dY,bW,g1,g2,grD]⟩
 have hl:=a.len';have k2:=λ(o1:Option Cell)=>fu (tg:=aG 4) (te:=aO v7 (ao 4) au) (M:=M) (Z:=[some (.dat (ob L.c)),o1,none,none,none]) (λ(x:Nat×Nat×dG)=>ob x.2.1) (λx=>jL x.2.2) (cD L c) λx hx=>⟨[some (.dat (ob L.c)),o1,none,none,some (.dat (ob x.2.1))],by simp,by
  obtain⟨n',hb⟩:=a.hb' hx;have:=aiV hb;simp[hb,v7,this]⟩
 have e1:(cD L c).map (λx=>ob x.2.1)=L.bs.map ob:=by
  unfold cD;apply asl;intro j;simp only[arT,asC];by_cases hj:j < L.bs.length
  ·have hz:(L.bs.zip c.bs)[j]?=some (L.bs[j],c.bs[j]'(by rw[←a.len];exact hj)):=by
    rw[asy];exact⟨arI hj,arI _⟩
   rw[hz,arI hj];rfl
  ·rw[asn (by omega:L.bs.length<=j),asn (by rw[List.length_zip];omega)];rfl
 have e2:(cD L c).map (λx=>jL x.2.2)=c.bs.map jL:=by
  unfold cD;apply asl;intro j;simp only[arT,asC];by_cases hj:j < c.bs.length
  ·have hz:(L.bs.zip c.bs)[j]?=some (L.bs[j]'(by rw[a.len];exact hj),c.bs[j]):=by
    rw[asy];exact⟨arI _,arI hj⟩
   rw[hz,arI hj];rfl
  ·rw[asn (by omega:c.bs.length<=j),asn (by rw[List.length_zip];omega)];rfl
 simp only[e1,e2]at k2;have r1:jy 1 c.al.length=(List.range c.al.length).map λ(k:Nat)=>PyData.int (1+(k:Int)):=rfl;have z1:(c.al.length:Int)+1<=100000:=by omega
 have z2 : -100000<=(c.al.length:Int)+1:=by omega
 have z3:c.al.length<=50000:=by omega
 have z4:L.bs.length<=50000:=by rw[a.len];omega
 simp[ql,zG,hc,aP,hg,dH,fj,h1,z1,z2,r1,k1,z3];simp[hc,aP,hh,dO,hr,oF,k2,z4,vA,uD,h2,h3,pU]
end
section
variable{M:Mo}{L:Lay}{c:aK}(a:At M L c)
include a
theorem rW(i:dw c)(few:c.held.length<=20000)(fewb:c.bs.length<=20000)(x:Int)(h76:(fK L c 0 x).eraseDups.length<=76):lA M [ob L.c,.int x]=if Vg c x then .ok (.list ((bB (fK L c 0 x)).map Ear.rD)) else .exc ⟨"NoGround",[]⟩:=by
 have hc:=a.hc;have h1:=Fy a i few fewb 0 x h76;by_cases h:Vg c x
 ·rw[if_pos h]at h1 ⊢;simp[lA,oU,hc,dD,h1]
 ·rw[if_neg h]at h1 ⊢;simp[lA,oU,hc,dD,h1]
def alM(o:Int)(e:List Int)(R:List Rw)(room:Int):Out Dat:=match wL o e R room with
 |[]=>.ok .none
 |r::_=>.exc ⟨"Clash",[("ear",aJ (cZ e r.2)),("others",Ear.rD r),("ones",Ear.rD (o,e))]⟩
omit a in
theorem agq{T:List Rw}(h:Ear.Xb T):T.Nodup:=by
 unfold Ear.Xb at h;unfold List.Nodup;exact h.imp λ{x y} z e=>by
  subst e;exact List.lt_irrefl _ z
theorem Mf(ho:∀o∈c.own,o<=c.count)(few:c.own.length<=20000):∃M',iT M [ob L.c]=.ok (.int (c.count+1)) M'/\At M' L { c with count:=c.count+1,own:=c.own++[c.count+1] }:=by
 have hc:=a.hc;have hl:∀i,(M.set L.c i)[L.c]?=some i:=λi=>by rw[bM hc,if_pos rfl]
 have hk:=any_keys (c.count+1) c.own;have hn:¬(c.count+1)∈c.own:=λz=>by have:=ho _ z;omega
 rw[decide_eq_false hn]at hk;have hz:∀x∈c.own,¬x=c.count+1:=λx hx e=>hn (e ▸ hx);have f2:c.own.length < 100000:=by omega
 refine⟨_,?_,a.setC⟩;simp only[as5,ar5]at hk;have hd:(c.own.any λx=>x==c.count+1)=false:=by rw[List.any_eq_false];intro x hx;simpa using hz x hx
 simp[iT,sE,hc,aP,hl,j8,f2,ar5,hd]
end
theorem Zb{α:Type}[BEq α][LawfulBEq α](l:List α):l.eraseDups.length<=l.length:=by
 induction hn:l.length using Nat.strongRecOn generalizing l with
 |_ n ih=>
  cases l with
  |nil=>simp
  |cons a r=>
   rw[List.eraseDups_cons];simp only[arW]at hn ⊢;have hl:(r.filter λb=>!b==a).length<=r.length:=ar3 _ _;have:=ih _ (by omega) (r.filter λb=>!b==a) rfl;omega
theorem Zf{S:List Rw}(h:S.eraseDups.length<=76):(bB S).eraseDups.length<=76:=ar8 (Zb _) (by rw[oO];exact h)
theorem uh{S:List Rw}(h:qU S):qU (bB S):=λr hr=>h r (dN.mp hr)
section
variable{M:Mo}{L:Lay}{c:aK}(a:At M L c)
include a
theorem Xu(i:dw c)(few:c.held.length<=20000)(fewb:c.bs.length<=20000)(o x:Int)(e:List Int)(he:e.length=6)(hv:Vg c x)(h76:(fK L c 0 x).eraseDups.length<=76)(hE:qU (fK L c 0 x)):iD M [ob L.c,.int o,aJ e,.int x]=alM o e (bB (fK L c 0 x)) (roomOf c x):=by
 have hc:=a.hc;have h1:=rW a i few fewb x h76;have h2:=tO a i x;rw[if_pos hv]at h1 h2;have h3:=Pa M o e (bB (fK L c 0 x)) (roomOf c x) he (uh hE) (Zf h76);unfold alM;cases hb:wL o e (bB (fK L c 0 x)) (roomOf c x) with
 |nil=>
  rw[hb]at h3;simp[iD,lY,hc,bG,bQ,h1,h2,h3]
 |cons r rs=>
  rw[hb]at h3;simp[iD,lY,hc,bG,bQ,h1,h2,h3]
end
section
variable{M:Mo}{L:Lay}{c:aK}(a:At M L c)
include a
def JM(L:Lay)(c:aK)(x y:Int):List Rw:=bB (fK L c 0 x)++bB (fK L c 0 y)
def qQ(c:aK)(x y:Int):Int:=if roomOf c y > roomOf c x then roomOf c y else roomOf c x
theorem aaR(i:dw c)(few:c.held.length<=20000)(fewb:c.bs.length<=20000)(x y:Int)(hx:Vg c x)(hy:Vg c y)(h1:(fK L c 0 x).eraseDups.length<=76)(h2:(fK L c 0 y).eraseDups.length<=76)(h3:(JM L c x y).eraseDups.length<=76)(e1:qU (fK L c 0 x))(e2:qU (fK L c 0 y)):lC M [ob L.c,.int x,.int y]=.ok (.list ((jQ (bB (JM L c x y)) (qQ c x y)).map pairD)):=by
 have hc:=a.hc;have s1:=rW a i few fewb x h1;have s2:=rW a i few fewb y h2;have r1:=tO a i x;have r2:=tO a i y;rw[if_pos hx]at s1 r1;rw[if_pos hy]at s2 r2;have hE:qU (JM L c x y):=λr hr=>by
  rcases arR.mp hr with hr|hr
  ·exact uh e1 r hr
  ·exact uh e2 r hr
 have k:=aa5 M (JM L c x y) (qQ c x y) hE h3;have l1:(bB (fK L c 0 x)).length<=76:=by rw[oO];exact h1
 have l2:(bB (fK L c 0 y)).length<=76:=by rw[oO];exact h2
 have l3:(bB (fK L c 0 x)).length+(bB (fK L c 0 y)).length<=100000:=by omega
 have k':uP M [.list ((bB (fK L c 0 x)).map Ear.rD++(bB (fK L c 0 y)).map Ear.rD),.int (if roomOf c y > roomOf c x then roomOf c y else roomOf c x)]=.ok (.list ((jQ (bB (JM L c x y)) (qQ c x y)).map pairD)):=by rw[←asq];exact k
 simp[lC,tY,hc,bG,bQ,s1,s2,r1,r2,l3];simp at k';exact k' ▸ (by simp[k'])
end
def ZD(c:aK)(lo:Int)(near:List Int):List Rw:=((c.bs.mapIdx λi b=>(i,b)).filter λx=>(x.2.sd.due.isSome&&!(((x.1:Int)+1)==lo))&&(decide (x.2.sd.g∈near)&&x.2.sd.al)).map λx=>(x.2.sd.o,x.2.sd.due.getD [])
def bY(c:aK)(lo x:Int):List Rw:=inR c (aH c x)++ZD c lo (aH c x)
theorem Nm{M:Mo}{L:Lay}{c:aK}(a:At M L c):(cD L c).map (λx=>(x.1,x.2.2))=c.bs.mapIdx λi b=>(i,b):=by
 unfold cD;apply asl;intro j;simp only[arT,asC];by_cases hj:j < c.bs.length
 ·have hz:(L.bs.zip c.bs)[j]?=some (L.bs[j]'(by rw[a.len];exact hj),c.bs[j]):=by
   rw[asy];exact⟨arI _,arI hj⟩
  rw[hz,arI hj];rfl
 ·rw[asn (by omega:c.bs.length<=j),asn (by rw[List.length_zip];omega)];rfl
theorem gQ{M:Mo}{L:Lay}{c:aK}(a:At M L c)(lo x:Int):fK L c lo x=bY c lo x:=by unfold fK bY Qg ZD;rw[←Nm a,List.filter_map,asi,asZ];rfl
inductive bJ where
 |owner|ground (x:Int)|enrol (o g:Int) (m:List Int)|leave (o g:Int)|bring (o g:Int) (e:List Int)|bear (k:Int)|cut (k:Int)|tear (k p:Int)|sell (k o:Int)|move (k g:Int)|die (k:Int)|wg (x y:Int)|part (x:Int)|pass (e h:Int)|heir (e g x:Int)
def bJ.dat:bJ->Dat
 |.owner=>.tuple [.str "owner"]
 |.ground x=>.tuple [.str "ground",.int x]
 |.enrol o g m=>.tuple [.str "enrol",.int o,.int g,aJ m]
 |.leave o g=>.tuple [.str "leave",.int o,.int g]
 |.bring o g m=>.tuple [.str "bring",.int o,.int g,aJ m]
 |.bear k=>.tuple [.str "bear",.int k]
 |.cut k=>.tuple [.str "cut",.int k]
 |.tear k p=>.tuple [.str "tear",.int k,.int p]
 |.sell k o=>.tuple [.str "sell",.int k,.int o]
 |.move k g=>.tuple [.str "move",.int k,.int g]
 |.die k=>.tuple [.str "die",.int k]
 |.wg x y=>.tuple [.str "unite",.int x,.int y]
 |.part x=>.tuple [.str "part",.int x]
 |.pass e h=>.tuple [.str "pass",.int e,.int h]
 |.heir e g x=>.tuple [.str "heir",.int e,.int g,.int x]
inductive Res where
 |ok (d:Dat) (c:aK)|no (x:dR)
def HX(o:Int)(e:List Int)(r:Rw):dR:=⟨"Clash",[("ear",aJ (cZ e r.2)),("others",Ear.rD r),("ones",Ear.rD (o,e))]⟩
def firstM(c:aK)(o g:Int):List Int:=(bU c o g).headD []
def wW(o:Int)(e:List Int)(R:List Rw)(room:Int)(r:Res):Res:=match wL o e (bB R) room with
 |[]=>r
 |x::_=>.no (HX o e x)
def Cq(c:aK)(x y:Int):List Rw:=bB (bY c 0 x)++bB (bY c 0 y)
def lZ(c:aK)(x:Int):List Int:=(aH c x).filter λy=>!(y==x)
def T5(c:aK)(e:Int):List Int:=((c.bs.mapIdx λi b=>(i,b)).filter λx=>(x.2.sd.o==e)&&x.2.sd.al).map λx=>(x.1:Int)+1
def Yi(o g:Int)(b:dG):Bool:=(decide (b.sd.g∈[g])&&b.sd.al)&&(b.sd.o==o)
def wA(c:aK)(k:Int)(f:dG->Res):Res:=match bk c k with
 |none=>.no ⟨"NoBeast",[]⟩
 |some b=>if b.sd.al=true then f b else .no ⟨"Dead",[]⟩
def markB(c:aK)(k:Int)(f:dG->List Int->Res):Res:=wA c k λb=>match b.sd.due with
 |none=>.no ⟨"Unmarked",[]⟩
 |some e=>f b e
def wZ(c:aK)(k o g:Int):aK:=oE (λx=>uX k x&&x.sd.al) (.followed o g) c
def sG(c:aK)(o:Int)(r:Res):Res:=if o∈c.own then r else .no ⟨"NoOwner",[]⟩
def wX(c:aK)(g:Int)(r:Res):Res:=if Vg c g then r else .no ⟨"NoGround",[]⟩
def JC(e:List Int)(r:Res):Res:=if cO e=true then r else .no ⟨"BadEar",[]⟩
def nu(c:aK)(o g:Int)(r:Res):Res:=if bU c o g=[] then .no ⟨"NoRight",[]⟩ else r
def cP(c:aK):bJ->Res
 |.owner=>.ok (.int (c.count+1)) { c with count:=c.count+1,own:=c.own++[c.count+1] }
 |.ground x=>if 0<=x/\x<=9 then .ok (.int (c.al.length+1)) { c with al:=c.al++[x],ci:=c.ci++[[(c.al.length:Int)+1]] } else .no ⟨"BadAllowance",[]⟩
 |.enrol o g m=>sG c o<|wX c g<|JC m<|if m=[0,0,0,0,0,0] then .no ⟨"Bare",[]⟩ else if m∈bU c o g then .no ⟨"HasRight",[]⟩ else wW o m (bY c 0 g) (roomOf c g) (.ok .none { c with held:=c.held++[(o,g,m)] })
 |.leave o g=>sG c o<|wX c g<|nu c o g<|if c.bs.any (Yi o g)=true then .no ⟨"StillThere",[]⟩ else .ok (.list ((bU c o g).map aJ)) { c with held:=dropped c o g }
 |.bring o g e=>sG c o<|wX c g<|JC e<|nu c o g<|.ok (.int (c.bs.length+1)) { c with bs:=c.bs++[zm (.brought o g e)] }
 |.bear k=>markB c k λb _=>.ok (.int (c.bs.length+1)) { c with bs:=c.bs++[zm (.born k b.sd.o b.sd.g)] }
 | .cut k=>wA c k λb=>wW b.sd.o (cZ b.sd.ear (firstM c b.sd.o b.sd.g)) (bY c 0 b.sd.g) (roomOf c b.sd.g) (.ok (aJ (cZ b.sd.ear (firstM c b.sd.o b.sd.g))) (fB c (k - 1).toNat (.cut (cZ b.sd.ear (firstM c b.sd.o b.sd.g)))))
 |.tear k p=>wA c k λb=>if 0<=p/\p < 6 then(if 9<=b.sd.ear.getD p.toNat 0 then .no ⟨"Deepest",[]⟩ else .ok (aJ (uJ b.sd.ear p.toNat)) (fB c (k - 1).toNat (.torn p.toNat))) else .no ⟨"NoPlace",[]⟩
 |.sell k o=>markB c k λb _=>sG c o<|if b.sd.o=o then .no ⟨"SameOwner",[]⟩ else nu c o b.sd.g<|wW o (cZ b.sd.ear (firstM c o b.sd.g)) (bY c k b.sd.g) (roomOf c b.sd.g) (.ok (aJ (cZ b.sd.ear (firstM c o b.sd.g))) (wZ (fB c (k - 1).toNat (.sold o (cZ b.sd.ear (firstM c o b.sd.g)))) k o b.sd.g))
 |.move k g=>markB c k λb e=>wX c g<|if b.sd.g=g then .no ⟨"SameGround",[]⟩ else nu c b.sd.o g<|wW b.sd.o e (bY c 0 g) (roomOf c g) (.ok (.int b.sd.g) (wZ (fB c (k - 1).toNat (.moved g)) k b.sd.o g))
 |.die k=>wA c k λ_=>.ok .none (fB c (k - 1).toNat .died)
 |.wg x y=>wX c y<|wX c x<|if y∈aH c x then .no ⟨"Together",[]⟩ else match jQ (bB (Cq c x y)) (qQ c x y) with
  |p::_=>.no (HX p.1.1 p.1.2 p.2)
  |[]=>.ok (lI (sortI (aH c x++aH c y))) { c with ci:=encl c.ci (sortI (aH c x++aH c y)) }
 |.part x=>wX c x<|if lZ c x=[] then .no ⟨"Alone",[]⟩ else .ok (lI (lZ c x)) { c with ci:=encl (encl c.ci [x]) (lZ c x) }
 |.pass e h=>sG c e<|sG c h<|if e=h then .no ⟨"SameOwner",[]⟩ else .ok (lI (T5 c e)) { oE (λb=>(b.sd.o==e)&&b.sd.al) (.passed h) c with own:=c.own.filter (λo=>!(o==e)),held:=handed c e h }
 | .heir e g x=>sG c e<|wX c g<|if 1<=x/\x<=3 then nu c e g (match (QM (firstM c e g) x).find? (zW (bB (bY c 0 g)) (roomOf c g)) with
  |some mk=>.ok (.tuple [.int (c.count+1),aJ mk]) { c with count:=c.count+1,own:=c.own++[c.count+1],held:=c.held++[(c.count+1,g,mk)] }
  |none=>.no ⟨"NoneFree",[]⟩) else .no ⟨"BadExtra",[]⟩
structure Inv(n s:Nat)(c:aK):Prop where
 gr:dw c
 al:c.al.length<=n
 cnt:0<=c.count/\c.count<=n
 own:∀o∈c.own,1<=o/\o<=c.count
 QD:c.own.Nodup
 ownL:c.own.length<=n
 held:c.held.Nodup
 hL:c.held.length+c.bs.length<=s
 hE:∀r∈c.held,r.1∈c.own/\Vg c r.2.1/\cO r.2.2=true
 ear:∀b∈c.bs,cO b.sd.ear=true
 due:∀b∈c.bs,∀e,b.sd.due=some e->cO e=true
 en:∀b∈c.bs,b.en.length<=2 * n
 rt:∀b∈c.bs,b.sd.al=true->∃m,(b.sd.o,b.sd.g,m)∈c.held
theorem cW{x:List Int}(h:cO x=true):x.length=6:=by unfold cO at h;simp at h;exact h.1
theorem Dy{α:Type}[BEq α][LawfulBEq α]:∀{l S:List α},l.Nodup->(∀x∈l,x∈S)->l.length<=S.length
 |[],_,_,_=>by simp
 |x::l,S,nd,h=>by
  rw[ata]at nd;have hx:=h x arM;have:=Dy (l:=l) (S:=S.erase x) nd.2 λy hy=>by
   have:y≠x:=λz=>nd.1 (z ▸ hy);exact(List.mem_erase_of_ne this).mpr (h y (arL _ hy))
  rw[List.length_erase_of_mem hx]at this;have:=List.length_pos_of_mem hx;rw[arW];omega
def Oc(c:aK):List Rw:=c.held.map (λr=>(r.1,r.2.2))++c.bs.map λb=>(b.sd.o,b.sd.due.getD [])
theorem Ol{c:aK}{near:List Int}{r:Rw}(h:r∈inR c near):∃g,(r.1,g,r.2)∈c.held/\g∈near:=by unfold inR at h;obtain⟨x,h1,rfl⟩:=arQ.mp h;obtain⟨h2,h3⟩:=ar4.mp h1;exact⟨x.2.1,h2,by simpa using h3⟩
theorem JF{c:aK}{lo:Int}{near:List Int}{r:Rw}(h:r∈ZD c lo near):∃(i:Nat) (b:dG),c.bs[i]?=some b/\b.sd.o=r.1/\b.sd.due=some r.2/\b.sd.al=true/\b.sd.g∈near/\(i:Int)+1≠lo:=by
 unfold ZD at h;obtain⟨x,h1,rfl⟩:=arQ.mp h;obtain⟨h2,h3⟩:=ar4.mp h1;obtain⟨i,hi,rfl⟩:=List.mem_mapIdx.mp h2;simp only[arH,ate,arX,beq_eq_false_iff_ne]at h3;obtain⟨⟨h4,h5⟩,h6,h7⟩:=h3;refine⟨i,c.bs[i],arI hi,rfl,?_,h7,h6,h5⟩;cases hd:c.bs[i].sd.due with
 |none=>simp[hd]at h4
 |some e=>rfl
theorem jO{c:aK}{lo x:Int}{r:Rw}(h:r∈bY c lo x):r∈Oc c:=by
 unfold Oc;rcases arR.mp h with h|h
 ·obtain⟨g,h1,_⟩:=Ol h;exact asv _ (arQ.mpr ⟨_,h1,rfl⟩)
 ·obtain⟨i,b,h1,h2,h3,_⟩:=JF h;refine asw _ (arQ.mpr ⟨b,arN h1,?_⟩);rw[h2,h3];rfl
section
variable{n s:Nat}{c:aK}(I:Inv n s c)
include I
theorem Inv.few{R:List Rw}(h:∀r∈R,r∈Oc c):R.eraseDups.length<=s:=by
 have h1:=Dy (l:=bB R) (S:=Oc c) (agq (ZG R)) λr hr=>h r (dN.mp hr);rw[oO]at h1;have:(Oc c).length=c.held.length+c.bs.length:=by simp[Oc]
 have:=I.hL;omega
theorem Inv.Bt{lo x:Int}:qU (bY c lo x):=λr hr=>by
 rcases arR.mp hr with h|h
 ·obtain⟨g,h1,_⟩:=Ol h;exact cW (I.hE _ h1).2.2
 ·obtain⟨i,b,h1,h2,h3,_⟩:=JF h;exact cW (I.due b (arN h1) _ h3)
theorem Inv.bi:KR (2 * n) c:=⟨λb hb=>cW (I.ear b hb),I.en⟩
theorem Inv.mk1{o g:Int}(h:bU c o g≠[]):∃r,bU c o g=firstM c o g::r/\cO (firstM c o g)=true:=by
 cases hm:bU c o g with
 |nil=>exact absurd hm h
 |cons m r=>
  refine⟨r,by simp[firstM,hm],?_⟩;have:m∈bU c o g:=by rw[hm];exact arM
  unfold bU at this;obtain⟨x,h1,rfl⟩:=arQ.mp this;have e:firstM c o g=x.2.2:=by simp[firstM,hm]
  rw[e];exact(I.hE x (ar4.mp h1).1).2.2
end
theorem FW{c:aK}{o g:Int}{m:List Int}:m∈bU c o g↔(o,g,m)∈c.held:=by
 unfold bU;rw[arQ];constructor
 ·rintro⟨⟨x,y,z⟩,h,rfl⟩;obtain⟨h1,h2⟩:=ar4.mp h;simp at h2;obtain⟨rfl,rfl⟩:=h2;exact h1
 ·intro h;exact⟨_,ar4.mpr ⟨h,by simp⟩,rfl⟩
theorem zQ{c:aK}{o g:Int}:bU c o g≠[]↔∃m,(o,g,m)∈c.held:=by
 constructor
 ·intro h;obtain⟨m,hm⟩:=List.exists_mem_of_ne_nil _ h;exact⟨m,FW.mp hm⟩
 ·rintro⟨m,hm⟩ z;have:=FW.mpr hm;rw[z]at this;cases this
theorem qL{x y:List Int}(hx:cO x=true)(hy:cO y=true):cO (cZ x y)=true:=by
 have lx:=cW hx;have ly:=cW hy;unfold cO at *;simp only[arH,ate,ar7]at *;refine⟨by simp[cZ];omega,λd hd=>?_⟩;unfold cZ at hd;obtain⟨p,hp,rfl⟩:=arQ.mp hd;have h1:=hx.2 p.1 (List.of_mem_zip hp).1;have h2:=hy.2 p.2 (List.of_mem_zip hp).2
 split<;>omega
theorem Hj(n:Nat)(x:List Int):okd (n+1) (aJ x)=true:=by show okd (n+1) (.tuple (x.map PyData.int))=true;rw[okd];exact Xk n x
theorem ait(x y:List Int):cJ (aJ x) (aJ y)=.ok (.bool (decide (x=y))):=by
 show(Out.when (okd 12 (aJ x)&&okd 12 (aJ y)) (.ok (PyData.eqv (aJ x) (aJ y)))).bind _=_
 rw[Hj 11,Hj 11,Zg,zX];rfl
theorem ahC(neg:Bool)(m:List Int)(ms:List (List Int)):inD neg (aJ m) (.list (ms.map aJ))=.ok (.bool (neg ^^ decide (m∈ms))):=by
 have h1:lB 12 (ms.map aJ)=true:=Df.mpr λd hd=>by
  obtain⟨x,_,rfl⟩:=arQ.mp hd;exact Hj 11 x
 have h2:((ms.map aJ).any λz=>PyData.eqv z (aJ m))=decide (m∈ms):=by
  induction ms with
  |nil=>simp
  |cons x ms ih=>
   have h1':lB 12 (ms.map aJ)=true:=Df.mpr λd hd=>by
    obtain⟨x,_,rfl⟩:=arQ.mp hd;exact Hj 11 x
   rw[arK,asR,ih h1',Zg,zX];by_cases h:x=m
   ·simp[h]
   ·have:¬m=x:=λz=>h z.symm;simp[h,this]
 show(Out.when (okd 12 (aJ m)&&lB 12 (ms.map aJ)) (.ok ((ms.map aJ).any λz=>PyData.eqv z (aJ m)))).bind _=_
 rw[h1,h2,Hj 11];rfl
def Sp(M:Mo)(L:Lay)(o:bf Dat):Res->Prop
 |.ok d c'=>∃M' bs,o=.ok d M'/\At M' { L with bs:=bs } c'
 |.no x=>o=.exc x M
section
variable{M:Mo}{L:Lay}{c:aK}(a:At M L c){n s:Nat}(I:Inv n s c)(hs:s<=76)(hn:n<=199)
include a I hn
theorem aiM:Sp M L (iT M [ob L.c]) (cP c .owner):=by obtain⟨M',h1,h2⟩:=Mf a (λo ho=>(I.own o ho).2) (by have:=I.ownL;omega);exact⟨M',L.bs,h1,h2⟩
theorem afs(x:Int):Sp M L (iz M [ob L.c,.int x]) (cP c (.ground x)):=by
 have hc:=a.hc;obtain⟨n,m,hg⟩:=a.hg;have hl:=I.al;have h1:=Xv a I.gr (by omega) x;simp only[cP];by_cases h:0<=x/\x<=9
 ·rw[if_pos h]at h1 ⊢;obtain⟨M',h1,h2⟩:=h1;exact⟨M',L.bs,by simp[iz,mD,hc,aP,hg,dH,lG,h1],h2⟩
 ·rw[if_neg h]at h1 ⊢;show _=_;simp[iz,mD,hc,aP,hg,dH,lG,h1]
include hs
omit hn
theorem aaE(o x:Int)(e:List Int)(he:e.length=6)(hv:Vg c x):iD M [ob L.c,.int o,aJ e,.int x]=match wL o e (bB (bY c 0 x)) (roomOf c x) with
  |[]=>.ok .none
  |r::_=>.exc (HX o e r):=by
 have h1:=I.hL;have h76:=I.few (R:=bY c 0 x) λr hr=>jO hr;have:=Xu a I.gr (by omega) (by omega) o x e he hv (by rw[gQ a];omega) (by rw[gQ a];exact I.Bt);rw[gQ a]at this;exact this
theorem ah0(o g:Int)(m:List Int)(hm:m.length<=1000):Sp M L (eE M [ob L.c,.int o,.int g,aJ m]) (cP c (.enrol o g m)):=by
 have hc:=a.hc;have hr:=a.hr;obtain⟨n1,m1,hg⟩:=a.hg;have hL:=I.hL;have h1:=lQ a o;have h2:=uV a g;have h3:=Gj M m hm;have h4:=Jy a (by omega) o g;simp only[cP,sG,wX,JC,wW];by_cases e1:o∈c.own;rotate_left
 ·rw[if_neg e1]at h1 ⊢;show _=_;simp[eE,gJ,hc,aP,aC,h1]
 rw[if_pos e1]at h1 ⊢;by_cases e2:Vg c g;rotate_left
 ·rw[if_neg e2]at h2 ⊢;show _=_;simp[eE,gJ,hc,aP,aC,h1,hg,dH,aF,h2]
 rw[if_pos e2]at h2 ⊢;by_cases e3:cO m=true;rotate_left
 ·rw[if_neg e3]at h3 ⊢;show _=_;simp[eE,gJ,hc,aP,aC,h1,hg,dH,aF,h2,h3]
 rw[if_pos e3]at h3 ⊢;have h5:cJ (.tuple (m.map PyData.int)) (.tuple [.int 0,.int 0,.int 0,.int 0,.int 0,.int 0])=_:=ait m [0,0,0,0,0,0];by_cases e4:m=[0,0,0,0,0,0]
 ·rw[if_pos e4];rw[decide_eq_true e4]at h5;show _=_;simp[eE,gJ,hc,aP,aC,h1,hg,dH,aF,h2,h3,jE];simp[h5]
 rw[if_neg e4];rw[decide_eq_false e4]at h5;have h6:=ahC false m (bU c o g);by_cases e5:m∈bU c o g
 ·rw[if_pos e5];rw[decide_eq_true e5]at h6;simp at h6;show _=_;simp[eE,gJ,hc,aP,aC,h1,hg,dH,aF,h2,h3,jE,h5,hr,oF,cM,h4,h6]
 rw[if_neg e5];rw[decide_eq_false e5]at h6;simp at h6;have h7:=aaE a I hs o g m (cW e3) e2;cases e6:wL o m (bB (bY c 0 g)) (roomOf c g) with
 |cons r rs=>
  rw[e6]at h7;show _=_;simp[eE,gJ,hc,aP,aC,h1,hg,dH,aF,h2,h3,jE,h5,hr,oF,cM,h4,h6,cA,h7]
 |nil=>
  rw[e6]at h7;have h8:=K9 a (by omega) o g m;rw[if_neg λz=>e5 (FW.mpr z)]at h8;obtain⟨M',h8,h9⟩:=h8;refine⟨M',L.bs,?_,h9⟩;simp[eE,gJ,hc,aP,aC,h1,hg,dH,aF,h2,h3,jE,h5,hr,oF,cM,h4,h6,cA,h7,iQ,h8]
end
@[simp]theorem arE (n:Nat) (b:dG):List.lookup ("owner" : Str) (iB n b).fs=some (.dat (.int b.sd.o)):=by simp[iB]
@[simp]theorem arB (n:Nat) (b:dG):List.lookup ("ground" : Str) (iB n b).fs=some (.dat (.int b.sd.g)):=by simp[iB]
@[simp]theorem arC (n:Nat) (b:dG):List.lookup ("due" : Str) (iB n b).fs=some (.dat (qb b.sd.due)):=by simp[iB]
@[simp]theorem arD (n:Nat) (b:dG):List.lookup ("ear" : Str) (iB n b).fs=some (.dat (aJ b.sd.ear)):=by simp[iB]
@[simp]theorem aru (n:Nat) (b:dG):List.lookup ("alive" : Str) (iB n b).fs=some (.dat (.bool b.sd.al)):=by simp[iB]
section
variable{M:Mo}{L:Lay}{c:aK}(a:At M L c){n s:Nat}(I:Inv n s c)(hs:s<=76)
include a I hs
theorem aiT(o g:Int):Sp M L (gj M [ob L.c,.int o,.int g]) (cP c (.leave o g)):=by
 have hc:=a.hc;have hr:=a.hr;obtain⟨n1,m1,hg⟩:=a.hg;obtain⟨n2,hh⟩:=a.hh;have hL:=I.hL;have h1:=lQ a o;have h2:=uV a g;have h3:=rP a (by omega) o g;simp only[cP,sG,wX,nu];by_cases e1:o∈c.own;rotate_left
 ·rw[if_neg e1]at h1 ⊢;show _=_;simp[gj,jD,hc,aP,aC,h1]
 rw[if_pos e1]at h1 ⊢;by_cases e2:Vg c g;rotate_left
 ·rw[if_neg e2]at h2 ⊢;show _=_;simp[gj,jD,hc,aP,aC,h1,hg,dH,aF,h2]
 rw[if_pos e2]at h2 ⊢;by_cases e3:bU c o g=[]
 ·rw[if_pos e3]at h3 ⊢;show _=_;simp[gj,jD,hc,aP,aC,h1,hg,dH,aF,h2,aN,h3]
 rw[if_neg e3]at h3 ⊢;have h4:qj M [ob L.h,.list [.int g]]=_:=RM a (by omega) [g];have key:=fu (tg:=bx [3,4]) (te:=aA cJ (bK "owner" (ao 4)) (ao 1)) (M:=M) (Z:=[some (.dat (ob L.c)),some (.dat (.int o)),some (.dat (.int g)),none,none]) nb (λx=>.bool (x.2.2.sd.o==o)) ((cD L c).filter λx=>decide (x.2.2.sd.g∈[g])&&x.2.2.sd.al) λx hx=>⟨[some (.dat (ob L.c)),some (.dat (.int o)),some (.dat (.int g)),some (.dat (.int ((x.1:Int)+1))),some (.dat (ob x.2.1))],by simp[nb],by
  obtain⟨n,hb⟩:=a.hb' (ar4.mp hx).1;simp[hb,iB]⟩
 have hl:((cD L c).filter λx=>decide (x.2.2.sd.g∈[g])&&x.2.2.sd.al).length<=50000:=ar8 (ar3 _ _) (by rw[a.len'];omega);have h5:Qc (.list (((cD L c).filter λx=>decide (x.2.2.sd.g∈[g])&&x.2.2.sd.al).map λx=>PyData.bool (x.2.2.sd.o==o)))=.ok (.bool (c.bs.any (Yi o g))):=by
  have e:(((cD L c).filter λx=>decide (x.2.2.sd.g∈[g])&&x.2.2.sd.al).map λx=>PyData.bool (x.2.2.sd.o==o))=(((cD L c).filter λx=>decide (x.2.2.sd.g∈[g])&&x.2.2.sd.al).map λx=>(x.2.2.sd.o==o)).map PyData.bool:=by rw[asi];rfl
  rw[e,YX,as5,List.any_filter];have e2:=Nm a;have e3:(cD L c).map (λx=>x.2.2)=c.bs:=by
   have:(cD L c).map (λx=>x.2.2)=((cD L c).map (λx=>(x.1,x.2.2))).map (·.2):=by rw[asi];rfl
   rw[this,e2];apply asl;intro i;simp;cases c.bs[i]?<;>rfl
  conv=>rhs;rw[←e3]
  rw[as5];rfl
 cases e4:c.bs.any (Yi o g) with
 |true=>
  rw[e4]at h5;show _=_;simp[gj,jD,hc,aP,aC,h1,hg,dH,aF,h2,aN,h3,hh,dO,jN];simp at h4 key h5 hl;simp[h4,key,hl,h5]
 |false=>
  rw[e4]at h5;have h6:=ahf a (by omega) I.held o g;rw[if_neg e3]at h6;obtain⟨M',h6,h7⟩:=h6;refine⟨M',L.bs,?_,h7⟩;simp[gj,jD,hc,aP,aC,h1,hg,dH,aF,h2,aN,h3,hh,dO,jN];simp at h4 key h5 hl;simp[h4,key,hl,h5,hc,aP,hr,oF,zU,h6]
theorem ahE(o g:Int)(m:List Int)(hm:m.length<=1000):Sp M L (gG M [ob L.c,.int o,.int g,aJ m]) (cP c (.bring o g m)):=by
 have hc:=a.hc;have hr:=a.hr;obtain⟨n1,m1,hg⟩:=a.hg;obtain⟨n2,hh⟩:=a.hh;have hL:=I.hL;have h1:=lQ a o;have h2:=uV a g;have h3:=Gj M m hm;have h4:=rP a (by omega) o g;simp only[cP,sG,wX,JC,nu];by_cases e1:o∈c.own;rotate_left
 ·rw[if_neg e1]at h1 ⊢;show _=_;simp[gG,jA,hc,aP,aC,h1]
 rw[if_pos e1]at h1 ⊢;by_cases e2:Vg c g;rotate_left
 ·rw[if_neg e2]at h2 ⊢;show _=_;simp[gG,jA,hc,aP,aC,h1,hg,dH,aF,h2]
 rw[if_pos e2]at h2 ⊢;by_cases e3:cO m=true;rotate_left
 ·rw[if_neg e3]at h3 ⊢;show _=_;simp[gG,jA,hc,aP,aC,h1,hg,dH,aF,h2,h3]
 rw[if_pos e3]at h3 ⊢;by_cases e4:bU c o g=[]
 ·rw[if_pos e4]at h4 ⊢;show _=_;simp[gG,jA,hc,aP,aC,h1,hg,dH,aF,h2,h3,aN,h4]
 rw[if_neg e4]at h4 ⊢;obtain⟨M',h,h5,h6⟩:=K6 a (by omega) (.brought o g m) (by omega);refine⟨M',L.bs++[h],?_,h6⟩;simp[Fi.dat]at h5;simp[gG,jA,hc,aP,aC,h1,hg,dH,aF,h2,h3,aN,h4,hh,dO,jR,h5]
theorem ajR(k:Int):Sp M L (jk M [ob L.c,.int k]) (cP c (.bear k)):=by
 have hc:=a.hc;obtain⟨n2,hh⟩:=a.hh;have hL:=I.hL;have h1:=Ek a (by omega) k;simp only[cP,markB,wA];cases hk:bk c k with
 |none=>
  rw[hk]at h1;show _=_;simp[jk,m9,hc,aP,hh,dO,aZ,h1]
 |some b=>
  rw[hk]at h1;obtain⟨_,_,_,_,n3,hb⟩:=qF a hk;show Sp M L _ (if b.sd.al=true then _ else _);cases e1:b.sd.al with
  |false=>
   simp[e1]at h1;show _=_;simp[jk,m9,hc,aP,hh,dO,aZ,h1]
  |true=>
   simp[e1]at h1;cases e2:b.sd.due with
   |none=>
    simp[e2]at h1;show _=_;simp[jk,m9,hc,aP,hh,dO,aZ,h1]
   |some e=>
    simp[e2]at h1;simp only[if_true];obtain⟨M',h,h5,h6⟩:=K6 a (by omega) (.born k b.sd.o b.sd.g) (by omega);refine⟨M',L.bs++[h],?_,h6⟩;simp[Fi.dat]at h5;simp[jk,m9,hc,aP,hh,dO,aZ,h1,hb,iB,jR,h5]
theorem amT(k:Int)(hn:n<=1000):Sp M L (lN M [ob L.c,.int k]) (cP c (.die k)):=by
 have hc:=a.hc;obtain⟨n2,hh⟩:=a.hh;have hL:=I.hL;have h1:=Eu a (by omega) k;simp only[cP,wA];cases hk:bk c k with
 |none=>
  rw[hk]at h1;show _=_;simp[lN,rM,hc,aP,hh,dO,bL,h1]
 |some b=>
  rw[hk]at h1;obtain⟨_,_,h3,h4,n3,hb⟩:=qF a hk;show Sp M L _ (if b.sd.al=true then _ else _);cases e1:b.sd.al with
  |false=>
   simp[e1]at h1;show _=_;simp[lN,rM,hc,aP,hh,dO,bL,h1]
  |true=>
   simp[e1]at h1;have mem:=arN h4;simp only[if_true];have h5:=uo hb .died (by rw[cW (I.ear b mem)];decide) (by have:=I.en b mem;omega);refine⟨_,L.bs,?_,za (n:=n3) (e:=.died) a h3 h4⟩;simp[En.dat]at h5;simp[lN,rM,hc,aP,hh,dO,bL,h1,hb,bR,h5,mW]
theorem ai6(k p:Int)(hn:n<=1000):Sp M L (fO M [ob L.c,.int k,.int p]) (cP c (.tear k p)):=by
 have hc:=a.hc;obtain⟨n2,hh⟩:=a.hh;have hL:=I.hL;have h1:=Eu a (by omega) k;simp only[cP,wA];cases hk:bk c k with
 |none=>
  rw[hk]at h1;show _=_;simp[fO,ji,hc,aP,hh,dO,bL,h1]
 |some b=>
  rw[hk]at h1;obtain⟨_,_,h3,h4,n3,hb⟩:=qF a hk;show Sp M L _ (if b.sd.al=true then _ else _);cases e1:b.sd.al with
  |false=>
   simp[e1]at h1;show _=_;simp[fO,ji,hc,aP,hh,dO,bL,h1]
  |true=>
   simp[e1]at h1;have mem:=arN h4;have h6:=cW (I.ear b mem);simp only[if_true];by_cases e2:0<=p/\p < 6
   ·rw[if_pos e2];obtain⟨q,rfl⟩:∃q:Nat,p=q:=⟨p.toNat,by omega⟩;have hq:q < 6:=by omega
    have hq2:q < b.sd.ear.length:=by omega
    have hq3:(q:Int) < 6:=by omega
    have h7:b.sd.ear[q]?.getD 0=b.sd.ear[q]:=by simp[hq2]
    simp only[Int.toNat_natCast,List.getD_eq_getElem?_getD,h7];have h5:=uo hb (.torn q) (by omega) (by have:=I.en b mem;omega);by_cases e3:9<=b.sd.ear[q]
    ·rw[if_pos e3];show _=_;simp[fO,ji,hc,aP,hh,dO,bL,h1,hb,iB,jc,hq3,cX,hq2,e3]
    ·rw[if_neg e3];refine⟨_,L.bs,?_,za (n:=n3) (e:=.torn q) a h3 h4⟩;simp[En.dat]at h5;have hl:∀i,(M.set (Pr.hk L k) i)[Pr.hk L k]?=some i:=λi=>by rw[bM hb,if_pos rfl]
     simp[fO,ji,hc,aP,hh,dO,bL,h1,hb,jc,hq3,cX,bR,h5,hl,hq2,e3,mW,go]
   ·rw[if_neg e2];show _=_;by_cases e3:0<=p
    ·have e4:¬p < 6:=λz=>e2 ⟨e3,z⟩;simp[fO,ji,hc,aP,hh,dO,bL,h1,jc,e3,e4]
    ·simp[fO,ji,hc,aP,hh,dO,bL,h1,jc,e3]
end
theorem Inv.alive{n s:Nat}{c:aK}(I:Inv n s c){b:dG}(h:b∈c.bs)(h2:b.sd.al=true):bU c b.sd.o b.sd.g≠[]/\Vg c b.sd.g/\b.sd.o∈c.own:=by obtain⟨m,hm⟩:=I.rt b h h2;exact⟨zQ.mpr ⟨m,hm⟩,(I.hE _ hm).2.1,(I.hE _ hm).1⟩
section
variable{M:Mo}{L:Lay}{c:aK}(a:At M L c){n s:Nat}(I:Inv n s c)(hs:s<=76)(hn:n<=1000)
include a I hs hn
theorem ame(k:Int):Sp M L (jU M [ob L.c,.int k]) (cP c (.cut k)):=by
 have hc:=a.hc;obtain⟨n2,hh⟩:=a.hh;have hL:=I.hL;have h1:=Eu a (by omega) k;simp only[cP,wA,wW];cases hk:bk c k with
 |none=>
  rw[hk]at h1;show _=_;simp[jU,oH,hc,aP,hh,dO,bL,h1]
 |some b=>
  rw[hk]at h1;obtain⟨_,_,h3,h4,n3,hb⟩:=qF a hk;show Sp M L _ (if b.sd.al=true then _ else _);cases e1:b.sd.al with
  |false=>
   simp[e1]at h1;show _=_;simp[jU,oH,hc,aP,hh,dO,bL,h1]
  |true=>
   simp[e1]at h1;simp only[if_true];have mem:=arN h4;obtain⟨q1,q2,q3⟩:=I.alive mem e1;obtain⟨r,q4,q5⟩:=I.mk1 q1;have h6:=cW (I.ear b mem);have h7:=BJ a (by omega) _ _ q4;have h8:=Dr M b.sd.ear (firstM c b.sd.o b.sd.g) (by omega);have q6:=cW (qL (I.ear b mem) q5);generalize cZ b.sd.ear (firstM c b.sd.o b.sd.g)=e at h8 q6 ⊢;have h9:=aaE a I hs b.sd.o b.sd.g e q6 q2;cases e2:wL b.sd.o e (bB (bY c 0 b.sd.g)) (roomOf c b.sd.g) with
   |cons r rs=>
    rw[e2]at h9;show _=_;simp[jU,oH,hc,aP,hh,dO,bL,h1,hb,iB,cC,h7,h8,cA,h9]
   |nil=>
    rw[e2]at h9;have h5:=uo hb (.cut e) (by omega) (by have:=I.en b mem;omega);refine⟨_,L.bs,?_,za (n:=n3) (e:=.cut e) a h3 h4⟩;simp[En.dat]at h5;simp[jU,oH,hc,aP,hh,dO,bL,h1,hb,cC,bR,h5,cA,h7,h8,h9,mW]
theorem akD(x:Int):Sp M L (j6 M [ob L.c,.int x]) (cP c (.part x)):=by
 have hc:=a.hc;obtain⟨n1,m1,hg⟩:=a.hg;have h1:=adt a I.gr x;have e0:(aH c x).filter (λy=>!(y==x))=lZ c x:=rfl;rw[e0]at h1;simp only[cP,wX];by_cases e1:Vg c x
 ·rw[if_pos e1]at h1 ⊢;by_cases e2:lZ c x=[]
  ·rw[if_pos e2]at h1 ⊢;show _=_;simp[j6,pZ,hc,aP,hg,dH,oX,h1]
  ·rw[if_neg e2]at h1 ⊢;obtain⟨M',h1,h2⟩:=h1;refine⟨M',L.bs,?_,h2⟩;simp[j6,pZ,hc,aP,hg,dH,oX,h1]
 ·rw[if_neg e1]at h1 ⊢;show _=_;simp[j6,pZ,hc,aP,hg,dH,oX,h1]
theorem aiH(x y:Int)(hx:Vg c x)(hy:Vg c y):lC M [ob L.c,.int x,.int y]=.ok (.list ((jQ (bB (Cq c x y)) (qQ c x y)).map pairD)):=by
 have h1:=I.hL;have f1:=I.few (R:=bY c 0 x) λr hr=>jO hr;have f2:=I.few (R:=bY c 0 y) λr hr=>jO hr;have f3:=I.few (R:=Cq c x y) λr hr=>by
  rcases arR.mp hr with h|h
  ·exact jO (dN.mp h)
  ·exact jO (dN.mp h)
 have e:JM L c x y=Cq c x y:=by unfold JM Cq;rw[gQ a,gQ a]
 have:=aaR a I.gr (by omega) (by omega) x y hx hy (by rw[gQ a];omega) (by rw[gQ a];omega) (by rw[e];omega) (by rw[gQ a];exact I.Bt) (by rw[gQ a];exact I.Bt);rw[e]at this;exact this
theorem aiX(x y:Int):Sp M L (gA M [ob L.c,.int x,.int y]) (cP c (.wg x y)):=by
 have hc:=a.hc;obtain⟨n1,m1,hg⟩:=a.hg;have h1:=uV a y;have h2:=Bu a I.gr x;simp only[cP,wX];by_cases e1:Vg c y;rotate_left
 ·rw[if_neg e1]at h1 ⊢;show _=_;simp[gA,jG,hc,aP,hg,dH,aF,h1]
 rw[if_pos e1]at h1 ⊢;by_cases e2:Vg c x;rotate_left
 ·rw[if_neg e2]at h2 ⊢;show _=_;simp[gA,jG,hc,aP,hg,dH,aF,h1,bW,h2]
 rw[if_pos e2]at h2 ⊢;have h3:=GX false y (aH c x);have h4:=ab9 a I.gr x y e2 e1;by_cases e3:y∈aH c x
 ·rw[if_pos e3];rw[decide_eq_true e3]at h3;show _=_;simp[gA,jG,hc,aP,hg,dH,aF,h1,bW,h2,h3]
 rw[if_neg e3]at h4 ⊢;rw[decide_eq_false e3]at h3;have h5:=aiH a I hs hn x y e2 e1;have h6:∀p∈jQ (bB (Cq c x y)) (qQ c x y),p.1.2.length=6:=λp hp=>by
  unfold jQ at hp;obtain⟨q,hq,hp⟩:=List.mem_flatMap.mp hp;obtain⟨r,_,rfl⟩:=arQ.mp hp;obtain⟨i,hi,rfl⟩:=List.mem_mapIdx.mp hq;have hm:=dN.mp (asB hi);rcases arR.mp hm with h|h
  ·exact I.Bt _ (dN.mp h)
  ·exact I.Bt _ (dN.mp h)
 cases e4:jQ (bB (Cq c x y)) (qQ c x y) with
 |cons p ps=>
  rw[e4]at h5 h6;have h7:=Dr M p.1.2 p.2.2 (by have:=h6 p arM;omega);show _=_;simp[gA,jG,hc,aP,hg,dH,aF,h1,bW,h2,h3,nY,h5];simp[pairD,Ear.rD,Ear.dT,h7,HX]
 |nil=>
  rw[e4]at h5;obtain⟨M',h4,h7⟩:=h4;refine⟨M',L.bs,?_,h7⟩;simp[gA,jG,hc,aP,hg,dH,aF,h1,bW,h2,h3,nY,h5,wV,h4]
theorem aj6(e g x:Int):Sp M L (cY M [ob L.c,.int e,.int g,.int x]) (cP c (.heir e g x)):=by
 have hc:=a.hc;have hr:=a.hr;obtain⟨n1,m1,hg⟩:=a.hg;have hL:=I.hL;have h1:=lQ a e;have h2:=uV a g;have h3:=rP a (by omega) e g;simp only[cP,sG,wX,nu];by_cases e1:e∈c.own;rotate_left
 ·rw[if_neg e1]at h1 ⊢;show _=_;simp[cY,eO,hc,aP,aC,h1]
 rw[if_pos e1]at h1 ⊢;by_cases e2:Vg c g;rotate_left
 ·rw[if_neg e2]at h2 ⊢;show _=_;simp[cY,eO,hc,aP,aC,h1,hg,dH,aF,h2]
 rw[if_pos e2]at h2 ⊢;by_cases e3:1<=x/\x<=3;rotate_left
 ·rw[if_neg e3];show _=_;by_cases e4:1<=x
  ·have e5:¬x<=3:=λz=>e3 ⟨e4,z⟩;simp[cY,eO,hc,aP,aC,h1,hg,dH,aF,h2,jo,kY,e4,e5]
  ·simp[cY,eO,hc,aP,aC,h1,hg,dH,aF,h2,jo,kY,e4]
 rw[if_pos e3];obtain⟨e4,e5⟩:=e3;by_cases e6:bU c e g=[]
 ·rw[if_pos e6]at h3 ⊢;show _=_;simp[cY,eO,hc,aP,aC,h1,hg,dH,aF,h2,jo,kY,e4,e5,aN,h3]
 rw[if_neg e6]at h3 ⊢;obtain⟨r,q4,q5⟩:=I.mk1 e6;have h7:=BJ a (by omega) _ _ q4;have f1:=I.few (R:=bY c 0 g) λr hr=>jO hr;have h8:=rW a I.gr (by omega) (by omega) g (by rw[gQ a];omega);rw[if_pos e2,gQ a]at h8;have h9:=tO a I.gr g;rw[if_pos e2]at h9;have h10:=XC M (firstM c e g) x (bB (bY c 0 g)) (roomOf c g) q5 ⟨by omega,e5⟩ (uh I.Bt) (by rw[oO];omega);cases e7:(QM (firstM c e g) x).find? (zW (bB (bY c 0 g)) (roomOf c g)) with
 |none=>
  rw[e7]at h10;show _=_;simp[cY,eO,hc,aP,aC,h1,hg,dH,aF,h2,jo,kY,e4,e5,aN,h3,cC,h7,bG,h8,bQ,h9,h10]
 |some mk=>
  rw[e7]at h10;obtain⟨M1,k1,a1⟩:=Mf a (λo ho=>(I.own o ho).2) (by have:=I.ownL;omega);have k2:=K9 a1 (by show c.held.length<=50000;omega) (c.count+1) g mk;rw[if_neg (λz=>by
   have:=(I.own _ (I.hE _ z).1).2;simp at this
   omega)]at k2
  obtain⟨M2,k2,a2⟩:=k2;have hc1:=a1.hc;have hr1:=a1.hr;refine⟨M2,L.bs,?_,a2⟩;simp[cY,eO,hc,aP,aC,h1,hg,dH,aF,h2,jo,kY,e4,e5,aN,h3,cC,h7,bG,h8,bQ,h9,h10,iw,k1];simp[hc1,aP,hr1,oF,iQ,k2]
end
section
variable{M:Mo}{L:Lay}{c:aK}(a:At M L c){n s:Nat}(I:Inv n s c)(hs:s<=76)(hn:n<=1000)
include a I hs hn
theorem aji(k o:Int):Sp M L (dU M [ob L.c,.int k,.int o]) (cP c (.sell k o)):=by
 have hc:=a.hc;obtain⟨n2,hh⟩:=a.hh;have hL:=I.hL;have h1:=Ek a (by omega) k;have h2:=lQ a o;simp only[cP,markB,wA,wW,sG,nu];cases hk:bk c k with
 |none=>
  rw[hk]at h1;show _=_;simp[dU,fQ,hc,aP,hh,dO,aZ,h1]
 |some b=>
  rw[hk]at h1;obtain⟨k1,k2,h3,h4,n3,hb⟩:=qF a hk;show Sp M L _ (if b.sd.al=true then _ else _);cases e1:b.sd.al with
  |false=>
   simp[e1]at h1;show _=_;simp[dU,fQ,hc,aP,hh,dO,aZ,h1]
  |true=>
   simp[e1]at h1;simp only[if_true];cases e2:b.sd.due with
   |none=>
    simp[e2]at h1;show _=_;simp[dU,fQ,hc,aP,hh,dO,aZ,h1]
   |some e0=>
    simp[e2]at h1;show Sp M L _ (if o∈c.own then _ else _);by_cases e3:o∈c.own;rotate_left
    ·rw[if_neg e3]at h2 ⊢;show _=_;simp[dU,fQ,hc,aP,hh,dO,aZ,h1,aC,h2]
    rw[if_pos e3]at h2 ⊢;by_cases e4:b.sd.o=o
    ·rw[if_pos e4];show _=_;simp[dU,fQ,hc,aP,hh,dO,aZ,h1,aC,h2,hb,e4]
    rw[if_neg e4];have h5:=rP a (by omega) o b.sd.g;by_cases e5:bU c o b.sd.g=[]
    ·rw[if_pos e5]at h5 ⊢;show _=_;simp[dU,fQ,hc,aP,hh,dO,aZ,h1,aC,h2,hb,e4,aN,h5]
    rw[if_neg e5]at h5 ⊢;have mem:=arN h4;obtain⟨q1,q2,q3⟩:=I.alive mem e1;obtain⟨r,q4,q5⟩:=I.mk1 e5;have h6:=cW (I.ear b mem);have h7:=BJ a (by omega) _ _ q4;have h8:=Dr M b.sd.ear (firstM c o b.sd.g) (by omega);have q6:=cW (qL (I.ear b mem) q5);generalize cZ b.sd.ear (firstM c o b.sd.g)=e at h8 q6 ⊢;have f1:=I.few (R:=bY c k b.sd.g) λr hr=>jO hr;have h9:=Fy a I.gr (by omega) (by omega) k b.sd.g (by rw[gQ a];omega);rw[if_pos q2,gQ a]at h9;have h10:=tO a I.gr b.sd.g;rw[if_pos q2]at h10;have h11:=Pa M o e (bB (bY c k b.sd.g)) (roomOf c b.sd.g) q6 (uh I.Bt) (Zf (by omega));cases e6:wL o e (bB (bY c k b.sd.g)) (roomOf c b.sd.g) with
    |cons r rs=>
     rw[e6]at h11;show _=_;simp[dU,fQ,hc,aP,hh,dO,aZ,h1,aC,h2,hb,e4,aN,h5,cC,h7,h8,dD,h9,bQ,h10,h11,HX]
    |nil=>
     rw[e6]at h11;have h12:=uo hb (.sold o e) (by omega) (by have:=I.en b mem;omega);have a1:=za (n:=n3) (e:=.sold o e) a h3 h4;have hk2:bk (fB c (k - 1).toNat (.sold o e)) k=some (mW b (.sold o e)):=by unfold bk;rw[if_pos ⟨k1,by simpa [fB] using k2⟩,wC,if_pos rfl,h4];rfl
     obtain⟨M',h13,a2⟩:=HY a1 (by simp[fB];omega) (I.bi.step _ _ q6) (by omega) k hk2;have hc1:=a1.hc;obtain⟨n4,hh1⟩:=a1.hh;refine⟨M',L.bs,?_,a2⟩;simp[En.dat]at h12;simp only[mW]at h13 hc1 hh1;simp[dU,fQ,hc,aP,hh,dO,aZ,h1,aC,h2,hb,e4,aN,h5,cC,h7,h8,dD,h9,bQ,h10,h11,bR,h12];simp[hc1,aP,hh1,dO,iK,h13]
theorem ajm(k g:Int):Sp M L (dW M [ob L.c,.int k,.int g]) (cP c (.move k g)):=by
 have hc:=a.hc;obtain⟨n2,hh⟩:=a.hh;obtain⟨n5,m5,hg⟩:=a.hg;have hL:=I.hL;have h1:=Ek a (by omega) k;have h2:=uV a g;simp only[cP,markB,wA,wW,wX,nu];cases hk:bk c k with
 |none=>
  rw[hk]at h1;show _=_;simp[dW,fU,hc,aP,hh,dO,aZ,h1]
 |some b=>
  rw[hk]at h1;obtain⟨k1,k2,h3,h4,n3,hb⟩:=qF a hk;show Sp M L _ (if b.sd.al=true then _ else _);cases e1:b.sd.al with
  |false=>
   simp[e1]at h1;show _=_;simp[dW,fU,hc,aP,hh,dO,aZ,h1]
  |true=>
   simp[e1]at h1;simp only[if_true];cases e2:b.sd.due with
   |none=>
    simp[e2]at h1;show _=_;simp[dW,fU,hc,aP,hh,dO,aZ,h1]
   |some e=>
    simp[e2]at h1;show Sp M L _ (if Vg c g then _ else _);by_cases e3:Vg c g;rotate_left
    ·rw[if_neg e3]at h2 ⊢;show _=_;simp[dW,fU,hc,aP,hh,dO,aZ,h1,hg,dH,aF,h2]
    rw[if_pos e3]at h2 ⊢;by_cases e4:b.sd.g=g
    ·rw[if_pos e4];show _=_;simp[dW,fU,hc,aP,hh,dO,aZ,h1,hg,dH,aF,h2,hb,e4]
    rw[if_neg e4];have h5:=rP a (by omega) b.sd.o g;by_cases e5:bU c b.sd.o g=[]
    ·rw[if_pos e5]at h5 ⊢;show _=_;simp[dW,fU,hc,aP,hh,dO,aZ,h1,hg,dH,aF,h2,hb,e4,aN,h5]
    rw[if_neg e5]at h5 ⊢;have mem:=arN h4;have h6:=cW (I.ear b mem);have q6:=cW (I.due b mem e e2);have h11:=aaE a I hs b.sd.o g e q6 e3;cases e6:wL b.sd.o e (bB (bY c 0 g)) (roomOf c g) with
    |cons r rs=>
     rw[e6]at h11;show _=_;simp[dW,fU,hc,aP,hh,dO,aZ,h1,hg,dH,aF,h2,hb,e4,aN,h5,e2,qb,cA,h11]
    |nil=>
     rw[e6]at h11;have h12:=uo hb (.moved g) (by omega) (by have:=I.en b mem;omega);have a1:=za (n:=n3) (e:=.moved g) a h3 h4;have hk2:bk (fB c (k - 1).toNat (.moved g)) k=some (mW b (.moved g)):=by unfold bk;rw[if_pos ⟨k1,by simpa [fB] using k2⟩,wC,if_pos rfl,h4];rfl
     obtain⟨M',h13,a2⟩:=HY a1 (by simp[fB];omega) (I.bi.step _ _ trivial) (by omega) k hk2;have hc1:=a1.hc;obtain⟨n4,hh1⟩:=a1.hh;refine⟨M',L.bs,?_,a2⟩;simp[En.dat]at h12;simp only[mW]at h13 hc1 hh1;simp[dW,fU,hc,aP,hh,dO,aZ,h1,hg,dH,aF,h2,hb,e4,aN,h5,e2,qb,cA,h11,bR,h12];simp[hc1,aP,hh1,dO,iK,h13]
theorem aju(e h:Int):Sp M L (fX M [ob L.c,.int e,.int h]) (cP c (.pass e h)):=by
 have hc:=a.hc;have hr:=a.hr;have hL:=I.hL;have h1:=lQ a e;have h2:=lQ a h;simp only[cP,sG];by_cases e1:e∈c.own;rotate_left
 ·rw[if_neg e1]at h1 ⊢;show _=_;simp[fX,jT,hc,aP,aC,h1]
 rw[if_pos e1]at h1 ⊢;by_cases e2:h∈c.own;rotate_left
 ·rw[if_neg e2]at h2 ⊢;show _=_;simp[fX,jT,hc,aP,aC,h1,h2]
 rw[if_pos e2]at h2 ⊢;by_cases e3:e=h
 ·rw[if_pos e3];show _=_;simp[fX,jT,hc,aP,aC,h1,h2,e3]
 rw[if_neg e3];obtain⟨M1,h3,a1⟩:=ZF a (by omega) e h;have hc1:=a1.hc;obtain⟨n1,hh1⟩:=a1.hh;have h4:=agf a1 (by show c.bs.length<=50000;omega) e;have ehd:cD L { c with held:=handed c e h }=cD L c:=rfl;rw[ehd]at h4;generalize hX:((cD L c).filter λx=>(x.2.2.sd.o==e)&&x.2.2.sd.al)=X at h4;have hXl:X.length<=1000:=by rw[←hX];exact ar8 (ar3 _ _) (by rw[a.len'];omega)
 have bi1:KR (2 * n) { c with held:=handed c e h }:=⟨I.bi.ear,I.bi.en⟩;obtain⟨Z',M2,g1,g2,g3⟩:=Qq (tg:=bx [4,5]) (body:=sV) (λZ=>∃x y,Z=[some (.dat (ob L.c)),some (.dat (.int e)),some (.dat (.int h)),some (.dat (.list (X.map nb))),x,y])
  (λi c1=>KR (2 * n+i) c1/\c1.bs.length=c.bs.length) (.passed h) L 1000 X M1 { c with held:=handed c e h } [some (.dat (ob L.c)),some (.dat (.int e)),some (.dat (.int h)),some (.dat (.list (X.map nb))),none,none] 0 (by omega) a1 ⟨bi1,rfl⟩ ⟨none,none,rfl⟩ (λM1 c1 Z x i hi a1 p1 q1 hx=>by
   obtain⟨bi1,l1⟩:=p1;obtain⟨x0,y0,rfl⟩:=q1;rw[←hX]at hx;obtain⟨z1,z2⟩:=Es (ar4.mp hx).1;have hl:x.1 < c1.bs.length:=by rw[l1];exact(arJ.mp z2).1
   have z3:=arI hl;obtain⟨nx,hx1⟩:=a1.hb _ _ _ z1 z3;have mem:=asB hl;have hb:=uo hx1 (.passed h) (by rw[bi1.ear _ mem];decide) (by have:=bi1.en _ mem;omega);refine⟨[some (.dat (ob L.c)),some (.dat (.int e)),some (.dat (.int h)),some (.dat (.list (X.map nb))),some (.dat (.int ((x.1:Int)+1))),some (.dat (ob x.2.1))],[some (.dat (ob L.c)),some (.dat (.int e)),some (.dat (.int h)),some (.dat (.list (X.map nb))),some (.dat (.int ((x.1:Int)+1))),some (.dat (ob x.2.1))],_,by simp[nb],?_,⟨_,_,rfl⟩,za (n:=nx) a1 z1 z3,bi1.step _ _ trivial,by simp[fB,l1]⟩;have hb:m7 M1 [ob x.2.1,.tuple [.str "passed",.int h]]=_:=hb
   simp[sV,hx1,bR,hb,mW])
 obtain⟨x0,y0,rfl⟩:=g2;have g4:vJ X (.passed h) { c with held:=handed c e h }=oE (λx=>(x.sd.o==e)&&x.sd.al) (.passed h) { c with held:=handed c e h }:=by rw[←hX];exact W6 a1 (λx=>(x.sd.o==e)&&x.sd.al) (.passed h)
 rw[g4]at g3;have hc2:=g3.hc;have hl:∀i,(M2.set L.c i)[L.c]?=some i:=λi=>by rw[bM hc2,if_pos rfl]
 have hk:=any_keys e c.own;rw[decide_eq_true e1]at hk;have hf:((c.own.map λo=>(PyData.int o,PyData.bool true)).filter λp=>!PyData.eqv p.1 (.int e))=(c.own.filter λo=>!(o==e)).map λo=>(PyData.int o,PyData.bool true):=by rw[List.filter_map];congr 1
 have a3:=g3.setC (n:=c.count) (own:=c.own.filter λo=>!(o==e));refine⟨_,L.bs,?_,a3⟩;have key:=fu (tg:=bx [4,5]) (te:=aq 4) (M:=M2.set L.c (aP L { oE (λx=>(x.sd.o==e)&&x.sd.al) (.passed h) { c with held:=handed c e h } with count:=c.count,own:=c.own.filter λo=>!(o==e) })) (Z:=[some (.dat (ob L.c)),some (.dat (.int e)),some (.dat (.int h)),some (.dat (.list (X.map nb))),none,none]) nb (λx=>.int ((x.1:Int)+1)) X λx _=>⟨[some (.dat (ob L.c)),some (.dat (.int e)),some (.dat (.int h)),some (.dat (.list (X.map nb))),some (.dat (.int ((x.1:Int)+1))),some (.dat (ob x.2.1))],by simp[nb],by simp⟩;have eo:(T5 c e).map PyData.int=X.map λx=>.int ((x.1:Int)+1):=by unfold T5;rw[←Nm a,List.filter_map,asi,asi,←hX];rfl
 have eo:lI (T5 c e)=.list (X.map λx=>.int ((x.1:Int)+1)):=congrArg PyData.list eo;have hX2:X.length<=50000:=by omega
 have f2:c.own.length<=100000:=by have:=I.ownL;omega
 rw[eo];simp[fX,jT,hc,aP,aC,h1,h2,e3,hr,oF,rZ,h3];simp[hc1,aP,hh1,dO,BK,h4,g1];simp only[oE]at hc2 key ⊢;have hk':(c.own.any ((λp=>PyData.eqv p.1 (.int e)) ∘ λo=>(PyData.int o,PyData.bool true)))=true:=by rw[←as5];exact hk
 simp[hc2,aP,f2];rw[hk',hf];simp only[aP]at key;simp[key,hX2]
end
theorem dw.same{c c':aK}(i:dw c)(h1:c'.al=c.al)(h2:c'.ci=c.ci):dw c':=by cases c;cases c';simp at h1 h2;subst h1 h2;exact⟨i.len,i.few,i.al,i.mem,i.own,i.up,i.one⟩
theorem dw.lt{c:aK}(i:dw c){k:Nat}{l:List Int}(h:c.ci[k]?=some l):k < c.al.length:=by rw[←i.len];exact(arJ.mp h).1
theorem dw.add{c:aK}(i:dw c)(hf:c.al.length < 200){x:Int}(hx:0<=x/\x<=9):dw { c with al:=c.al++[x],ci:=c.ci++[[(c.al.length:Int)+1]] }:=by
 have key:∀(k:Nat) (l:List Int),(c.ci++[[(c.al.length:Int)+1]])[k]?=some l->(c.ci[k]?=some l/\k < c.al.length)∨(k=c.al.length/\l=[(c.al.length:Int)+1]):=λk l h=>by
  by_cases hk:k < c.ci.length
  ·rw[arS hk]at h;exact .inl ⟨h,i.lt h⟩
  ·rw[ar0 (by omega)]at h;have hk2:k - c.ci.length=0:=by
    have:=(arJ.mp h).1;simp at this;omega
   rw[hk2]at h;simp at h;exact .inr ⟨by have:=i.len;omega,h.symm⟩
 refine⟨by simp[i.len],by simp;omega,λy hy=>?_,λk l h y hy=>?_,λk l h=>?_,λk l h=>?_,λk j l h hj=>?_⟩
 ·rcases arR.mp hy with hy|hy
  ·exact i.al y hy
  ·rw[arO.mp hy];exact hx
 ·show 1<=y/\y<=((c.al++[x]).length:Int);rw[asJ,List.length_singleton];rcases key k l h with⟨h,_⟩|⟨_,rfl⟩
  ·have:=i.mem k l h y hy;omega
  ·rw[arO.mp hy];omega
 ·rcases key k l h with⟨h,_⟩|⟨rfl,rfl⟩
  ·exact i.own k l h
  ·simp
 ·rcases key k l h with⟨h,_⟩|⟨rfl,rfl⟩
  ·exact i.up k l h
  ·simp
 ·show(c.ci++[[(c.al.length:Int)+1]])[j]?=some l
  rcases key k l h with⟨h,_⟩|⟨rfl,rfl⟩
  ·have h2:=i.one k j l h hj;rw[arS (arJ.mp h2).1];exact h2
  ·have:j=c.al.length:=by
    rw[arO]at hj;omega
   rw[this,←i.len];simp
theorem YC(l:List Int):∀(s:List Int) (ci:List (List Int)) (k:Nat),(∀y∈s,1<=y)->(s.foldl (λs y=>s.set (y - 1).toNat l) ci)[k]?=if ((k:Int)+1∈s)/\k < ci.length then some l else ci[k]?
 |[],ci,k,_=>by simp
 |y::s,ci,k,h=>by
  rw[asY,YC l s _ k λz hz=>h z (arL _ hz),ase];have hy:=h y arM;by_cases h1:(k:Int)+1∈s/\k < ci.length
  ·rw[if_pos h1,if_pos ⟨arL _ h1.1,h1.2⟩]
  ·rw[if_neg h1,asM];by_cases h2:(y - 1).toNat=k
   ·rw[if_pos h2];have e:(k:Int)+1=y:=by omega
    by_cases h3:k < ci.length
    ·rw[if_pos (by omega),if_pos ⟨by rw[e];exact arM,h3⟩]
    ·rw[if_neg (by omega),if_neg (λz=>h3 z.2),asn (by omega)]
   ·rw[if_neg h2,if_neg];rintro⟨z,h3⟩;rcases arV.mp z with z|z
    ·omega
    ·exact h1 ⟨z,h3⟩
theorem zj(ci:List (List Int))(l:List Int)(k:Nat)(h:∀y∈l,1<=y):(encl ci l)[k]?=if ((k:Int)+1∈l)/\k < ci.length then some l else ci[k]?:=YC l l ci k h
theorem dw.again{c:aK}(i:dw c){ci:List (List Int)}(hl:ci.length=c.ci.length)(P:List Int->Prop)
  (h1:∀(k:Nat) (l:List Int),ci[k]?=some l->(P l/\(k:Int)+1∈l)∨c.ci[k]?=some l)
  (h2:∀l,P l->l.Pairwise (· < ·)/\∀y∈l,Vg c y/\ci[(y - 1).toNat]?=some l)
  (h3:∀(k j:Nat) (l:List Int),ci[k]?=some l->c.ci[k]?=some l->c.ci[j]?=some l->(k:Int)+1∈l->¬P l->ci[j]?=some l):dw { c with ci:=ci }:=by
 refine⟨by show ci.length=_;rw[hl,i.len],i.few,i.al,λk l h y hy=>?_,λk l h=>?_,λk l h=>?_,λk j l h hj=>?_⟩
 ·rcases h1 k l h with⟨p,_⟩|h
  ·exact((h2 l p).2 y hy).1
  ·exact i.mem k l h y hy
 ·rcases h1 k l h with⟨_,p⟩|h
  ·exact p
  ·exact i.own k l h
 ·rcases h1 k l h with⟨p,_⟩|h
  ·exact(h2 l p).1
  ·exact i.up k l h
 ·show ci[j]?=some l;have pj:P l->ci[j]?=some l:=λp=>by
   have:=((h2 l p).2 _ hj).2
   rwa [show((j:Int)+1 - 1).toNat=j by omega]at this
  rcases h1 k l h with⟨p,_⟩|h'
  ·exact pj p
  ·by_cases p:P l
   ·exact pj p
   ·exact h3 k j l h h' (i.one k j l h' hj) (i.own k l h') p
theorem dw.at{c:aK}(i:dw c){x:Int}(h:Vg c x):c.ci[(x - 1).toNat]?=some (aH c x):=by
 obtain⟨k,hk,rfl⟩:=rG h;have hk':k < c.ci.length:=by rw[i.len];exact hk
 simp[aH,hk']
theorem dw.self{c:aK}(i:dw c){x:Int}(h:Vg c x):x∈aH c x:=by
 have:=i.own _ _ (i.at h)
 rwa [show(((x - 1).toNat:Nat):Int)+1=x by omega]at this
theorem dw.eq{c:aK}(i:dw c){x y:Int}(h:Vg c x)(hy:y∈aH c x):aH c y=aH c x:=by have v:=i.mem _ _ (i.at h) y hy;have:=i.one _ (y - 1).toNat _ (i.at h) (by rw[show(((y - 1).toNat:Nat):Int)+1=y by omega];exact hy);rw[i.at v]at this;exact arY this
theorem Fo{l:List Int}{i:Int}:i∈sortI l↔i∈l:=by unfold sortI;rw[List.mem_mergeSort]
theorem agp{l:List Int}(h:l.Nodup):(sortI l).Pairwise (· < ·):=by unfold sortI;have srt:=asQ (le:=λa b:Int=>decide (a<=b)) (λa b c k1 k2=>by rw[ate]at *;omega) (λa b=>by rw[asW,ate,ate];omega) l;have nd:(l.mergeSort λa b=>decide (a<=b)).Nodup:=(asU _ _).nodup_iff.mpr h;refine List.Pairwise.imp₂ (λa b h1 h2=>?_) srt nd;rw[ate]at h1;have:a≠b:=h2;omega
theorem dw.wg{c:aK}(i:dw c){x y:Int}(hx:Vg c x)(hy:Vg c y)(hn:y∉aH c x):dw { c with ci:=encl c.ci (sortI (aH c x++aH c y)) }:=by
 generalize hS:sortI (aH c x++aH c y)=S;have mem:∀z,z∈S↔z∈aH c x∨z∈aH c y:=λz=>by rw[←hS,Fo,arR]
 have vg:∀z∈S,Vg c z:=λz hz=>by
  rcases(mem z).mp hz with h|h
  ·exact i.mem _ _ (i.at hx) z h
  ·exact i.mem _ _ (i.at hy) z h
 have up:S.Pairwise (· < ·):=by
  rw[←hS];refine agp ?_;rw[asK];have nd:∀{l:List Int},l.Pairwise (· < ·)->l.Nodup:=λh=>h.imp λ{a b} z e=>by omega
  refine⟨nd (i.up _ _ (i.at hx)),nd (i.up _ _ (i.at hy)),λa ha b hb e=>?_⟩;subst e;have e1:=i.eq hx ha;have e2:=i.eq hy hb;rw[e1]at e2;exact hn (e2 ▸ i.self hy)
 have get:=λk=>zj c.ci S k λz hz=>(vg z hz).1;refine i.again (P:=λl=>l=S) (by unfold encl;rw[wJ]) (λk l h=>?_) (λl hl=>?_) (λk j l h h' hj hk np=>?_)
 ·rw[get]at h;split at h
  ·next z=>
   cases h;exact .inl ⟨rfl,z.1⟩
  ·exact .inr h
 ·subst hl;refine⟨up,λz hz=>⟨vg z hz,?_⟩⟩;have v:=vg z hz;have e:(((z - 1).toNat:Nat):Int)+1=z:=by omega
  rw[get,e,if_pos ⟨hz,by rw[i.len];omega⟩]
 ·rw[get];by_cases z:(j:Int)+1∈S/\j < c.ci.length
  ·exfalso;have v:=vg _ z.1;have ej:aH c ((j:Int)+1)=l:=by
    have:=i.at v;rw[show((j:Int)+1 - 1).toNat=j by omega,hj]at this;exact(arY this).symm
   have hk2:(k:Int)+1∈S:=by
    rw[mem];rcases(mem _).mp z.1 with q|q
    ·exact .inl (by rw[←i.eq hx q,ej];exact hk)
    ·exact .inr (by rw[←i.eq hy q,ej];exact hk)
   rw[get,if_pos ⟨hk2,(arJ.mp h').1⟩]at h;exact np (arY h).symm
  ·rw[if_neg z];exact hj
theorem dw.part{c:aK}(i:dw c){x:Int}(hx:Vg c x):dw { c with ci:=encl (encl c.ci [x]) (lZ c x) }:=by
 have mem:∀z,z∈lZ c x↔z∈aH c x/\z≠x:=λz=>by
  unfold lZ;rw[ar4];simp
 have vg:∀z∈lZ c x,Vg c z:=λz hz=>i.mem _ _ (i.at hx) z ((mem z).mp hz).1;have l1:(encl c.ci [x]).length=c.ci.length:=by unfold encl;rw[wJ]
 have get:∀k:Nat,(encl (encl c.ci [x]) (lZ c x))[k]?=if ((k:Int)+1∈lZ c x)/\k < c.ci.length then some (lZ c x) else if ((k:Int)+1=x)/\k < c.ci.length then some [x] else c.ci[k]?:=λk=>by
  rw[zj _ _ _ λz hz=>(vg z hz).1,l1,zj _ _ _ λz hz=>by rw[arO.mp hz];exact hx.1];simp only[arO]
 refine i.again (P:=λl=>l=lZ c x/\l≠[]∨l=[x]) (by unfold encl;rw[wJ,wJ]) (λk l h=>?_) (λl hl=>?_) (λk j l h h' hj hk np=>?_)
 ·rw[get]at h;split at h
  ·next z=>
   cases h;exact .inl ⟨.inl ⟨rfl,List.ne_nil_of_mem z.1⟩,z.1⟩
  ·split at h
   ·next z=>
    cases h;exact .inl ⟨.inr rfl,by rw[z.1];simp⟩
   ·exact .inr h
 ·rcases hl with⟨rfl,_⟩|rfl
  ·refine⟨(i.up _ _ (i.at hx)).filter _,λz hz=>⟨vg z hz,?_⟩⟩;have v:=vg z hz;have e:(((z - 1).toNat:Nat):Int)+1=z:=by omega
   rw[get,e,if_pos ⟨hz,by rw[i.len];omega⟩]
  ·refine⟨by simp,λz hz=>?_⟩;rw[arO.mp hz];refine⟨hx,?_⟩;have e:(((x - 1).toNat:Nat):Int)+1=x:=by omega
   rw[get,e,if_neg (λz=>((mem x).mp z.1).2 rfl),if_pos ⟨rfl,by rw[i.len];omega⟩]
 ·have key:∀m:Nat,c.ci[m]?=some l->(m:Int)+1∈aH c x->l=aH c x:=λm hm q=>by
   have v:=i.mem _ _ (i.at hx) _ q;have:=i.at v;rw[show((m:Int)+1 - 1).toNat=m by omega,hm,i.eq hx q]at this;exact arY this
  have out:(k:Int)+1∉aH c x:=λq=>by
   rw[get]at h;by_cases e:(k:Int)+1=x
   ·rw[if_neg (λz=>((mem _).mp z.1).2 e),if_pos ⟨e,(arJ.mp h').1⟩]at h;exact np (.inr (arY h).symm)
   ·rw[if_pos ⟨(mem _).mpr ⟨q,e⟩,(arJ.mp h').1⟩]at h;have e2:=(arY h).symm;exact np (.inl ⟨e2,λz=>by rw[z]at hk;cases hk⟩)
  have outj:(j:Int)+1∉aH c x:=λq=>out (key j hj q ▸ hk);have o1:¬((j:Int)+1∈lZ c x/\j < c.ci.length):=λz=>outj ((mem _).mp z.1).1;have o2:¬((j:Int)+1=x/\j < c.ci.length):=λz=>outj (by rw[z.1];exact i.self hx);rw[get,if_neg o1,if_neg o2];exact hj
def Good(held:List Row3)(s:Sd):Prop:=cO s.ear=true/\(∀e,s.due=some e->cO e=true)/\(s.al=true->∃m,(s.o,s.g,m)∈held)
structure Rr(m:Nat)(c:aK):Prop where
 g:∀b∈c.bs,Good c.held b.sd
 en:∀b∈c.bs,b.en.length<=m
theorem Inv.Wk{n s:Nat}{c:aK}(I:Inv n s c):Rr (2 * n) c:=⟨λb hb=>⟨I.ear b hb,I.due b hb,I.rt b hb⟩,I.en⟩
theorem QZ{c:aK}{i:Nat}{e:En}{b:dG}(h:b∈(fB c i e).bs):b∈c.bs∨∃b0,c.bs[i]?=some b0/\b=mW b0 e:=by
 obtain⟨j,hj⟩:=List.mem_iff_getElem?.mp h;rw[wC]at hj;split at hj
 ·next z=>
  subst z;obtain⟨b0,h3,h4⟩:=aso.mp hj;exact .inr ⟨b0,h3,h4.symm⟩
 ·exact .inl (arN hj)
theorem Rr.one{m:Nat}{c:aK}(B:Rr m c){i:Nat}{e:En}(h:∀b,c.bs[i]?=some b->Good c.held (go b.sd e)):Rr (m+1) (fB c i e):=by
 refine⟨λb hb=>?_,λb hb=>?_⟩
 ·rcases QZ hb with h1|⟨b0,h1,rfl⟩
  ·exact B.g b h1
  ·exact h b0 h1
 ·rcases QZ hb with h1|⟨b0,h1,rfl⟩
  ·have:=B.en b h1;omega
  ·have:=B.en b0 (arN h1);simp[mW];omega
theorem Rr.many{m:Nat}{c:aK}(B:Rr m c){p:dG->Bool}{e:En}(h:∀b∈c.bs,p b=true->Good c.held (go b.sd e)):Rr (m+1) (oE p e c):=by
 refine⟨λb hb=>?_,λb hb=>?_⟩
 ·obtain⟨b0,h1,rfl⟩:=arQ.mp hb;cases hp:p b0 with
  |true=>
   rw[if_pos rfl];exact h b0 h1 hp
  |false=>
   rw[if_neg (by simp)];exact B.g b0 h1
 ·obtain⟨b0,h1,rfl⟩:=arQ.mp hb;have:=B.en b0 h1;cases hp:p b0<;>simp[mW]<;>omega
theorem Good.mono{held held':List Row3}{s:Sd}(g:Good held s)(h:∀r∈held,r∈held'):Good held' s:=⟨g.1,g.2.1,λz=>by
 obtain⟨m,hm⟩:=g.2.2 z;exact⟨m,h _ hm⟩⟩
theorem Inv.of{n s n' s':Nat}{c c':aK}(I:Inv n s c)(hn:n<=n')(gr:dw c')(hal:c'.al.length<=n')(ec:c'.count=c.count)(eo:c'.own=c.own)(hd:c'.held.Nodup)(hL:c'.held.length+c'.bs.length<=s')(hE:∀r∈c'.held,r.1∈c'.own/\Vg c' r.2.1/\cO r.2.2=true)(B:Rr (2 * n') c'):Inv n' s' c':=
 ⟨gr,hal,by have:=I.cnt;rw[ec];omega,by rw[ec,eo];exact I.own,by rw[eo];exact I.QD,by have:=I.ownL;rw[eo];omega,hd,hL,hE,λb hb=>(B.g b hb).1,λb hb=>(B.g b hb).2.1,B.en,λb hb=>(B.g b hb).2.2⟩
theorem ac5{x:List Int}{p:Nat}(h:cO x=true)(h9:¬9<=x.getD p 0):cO (uJ x p)=true:=by
 unfold cO at *;simp only[arH,ate,ar7]at *;refine⟨by rw[aci];exact h.1,λd hd=>?_⟩;unfold uJ at hd;obtain⟨i,hi,rfl⟩:=List.mem_mapIdx.mp hd;have:=h.2 _ (asB hi);split
 ·next e=>
  subst e;have:x.getD i 0=x[i]:=by simp[hi]
  omega
 ·exact this
theorem JT{r:Row3}:∀(l acc:List Row3),r∈l.foldl Gu acc↔r∈acc∨r∈l
 |[],acc=>by simp
 |x::l,acc=>by
  rw[asY,JT l];unfold Gu;split
  ·next h=>
   constructor
   ·rintro(z|z)
    ·exact .inl z
    ·exact .inr (arL _ z)
   ·rintro(z|z)
    ·exact .inl z
    ·rcases arV.mp z with rfl|z
     ·exact .inl h
     ·exact .inr z
  ·simp[or_assoc]
theorem RJ:∀(l acc:List Row3),acc.Nodup->(l.foldl Gu acc).Nodup
 |[],acc,h=>h
 |x::l,acc,h=>by
  rw[asY];refine RJ l _ ?_;unfold Gu;split
  ·exact h
  ·next z=>
   rw[asK];exact⟨h,by simp,λa ha b hb e=>z (by rw[arO.mp hb]at e;exact e ▸ ha)⟩
theorem Z9:∀(l acc:List Row3),(l.foldl Gu acc).length<=acc.length+l.length
 |[],acc=>by simp
 |x::l,acc=>by
  rw[asY];refine ar8 (Z9 l _) ?_;unfold Gu
  split<;>simp<;>omega
def cost:bJ->Nat
 |.enrol ..=>1
 |.bring ..=>1
 |.bear ..=>1
 |.heir ..=>1
 |_=>0
theorem oG{o room:Int}{e:List Int}{R:List Rw}{x:Res}{d:Dat}{c':aK}(h:wW o e R room x=.ok d c'):x=.ok d c':=by
 unfold wW at h;split at h
 ·exact h
 ·cases h
theorem fP{c:aK}{o:Int}{x:Res}{d:Dat}{c':aK}(h:sG c o x=.ok d c'):o∈c.own/\x=.ok d c':=by
 unfold sG at h;split at h
 ·next z=>exact⟨z,h⟩
 ·cases h
theorem gq{c:aK}{g:Int}{x:Res}{d:Dat}{c':aK}(h:wX c g x=.ok d c'):Vg c g/\x=.ok d c':=by
 unfold wX at h;split at h
 ·next z=>exact⟨z,h⟩
 ·cases h
theorem CN{e:List Int}{x:Res}{d:Dat}{c':aK}(h:JC e x=.ok d c'):cO e=true/\x=.ok d c':=by
 unfold JC at h;split at h
 ·next z=>exact⟨z,h⟩
 ·cases h
theorem ig{c:aK}{o g:Int}{x:Res}{d:Dat}{c':aK}(h:nu c o g x=.ok d c'):bU c o g≠[]/\x=.ok d c':=by
 unfold nu at h;split at h
 ·cases h
 ·next z=>exact⟨z,h⟩
theorem rR{c:aK}{k:Int}{f:dG->Res}{d:Dat}{c':aK}(h:wA c k f=.ok d c'):∃b,bk c k=some b/\b.sd.al=true/\f b=.ok d c':=by
 unfold wA at h;split at h
 ·cases h
 ·next b hb=>
  split at h
  ·next z=>exact⟨b,hb,z,h⟩
  ·cases h
theorem qO{c:aK}{k:Int}{f:dG->List Int->Res}{d:Dat}{c':aK}(h:markB c k f=.ok d c'):∃b e,bk c k=some b/\b.sd.al=true/\b.sd.due=some e/\f b e=.ok d c':=by
 obtain⟨b,h1,h2,h3⟩:=rR h;split at h3
 ·cases h3
 ·next e he=>exact⟨b,e,h1,h2,he,h3⟩
theorem eY{p:Prop}[Decidable p]{x:dR}{y:Res}{d:Dat}{c':aK}(h:(if p then .no x else y)=Res.ok d c'):¬p/\y=.ok d c':=by
 split at h
 ·cases h
 ·next z=>exact⟨z,h⟩
theorem uY{p:Prop}[Decidable p]{x:dR}{y:Res}{d:Dat}{c':aK}(h:(if p then y else .no x)=Res.ok d c'):p/\y=.ok d c':=by
 split at h
 ·next z=>exact⟨z,h⟩
 ·cases h
theorem iH{c:aK}{k:Int}{b:dG}(h:bk c k=some b):c.bs[(k - 1).toNat]?=some b/\1<=k/\k<=c.bs.length:=by
 unfold bk at h;split at h
 ·next z=>exact⟨h,z⟩
 ·cases h
theorem RG(c:aK)(k o g:Int):(wZ c k o g).bs.length=c.bs.length:=by simp[wZ,oE]
theorem DW(c:aK)(i:Nat)(e:En):(fB c i e).bs.length=c.bs.length:=by simp[fB]
theorem aa3{n s:Nat}{c c':aK}{d:bJ}{r:Dat}(I:Inv n s c)(hn:c.al.length<=199)(h:cP c d=.ok r c'):Inv (n+1) (s+cost d) c':=by
 have L0:=I.hL;have A0:=I.al;have C0:=I.cnt;have O0:=I.ownL;have up:Rr (2 * (n+1)) c:=⟨I.Wk.g,λb hb=>by have:=I.en b hb;omega⟩;cases d with
 |owner=>
  cases h;refine⟨I.gr.same rfl rfl,by show c.al.length<=_;omega,⟨by show 0<=c.count+1;omega,by show c.count+1<=((n+1:Nat):Int);omega⟩,λo ho=>?_,?_,by simp;omega,I.held,by simp[cost];omega,λr hr=>?_,I.ear,I.due,up.en,I.rt⟩
  ·show 1<=o/\o<=c.count+1;rcases arR.mp ho with ho|ho
   ·have:=I.own o ho;omega
   ·rw[arO.mp ho];omega
  ·rw[asK];refine⟨I.QD,by simp,λa ha b hb e=>?_⟩;rw[arO.mp hb]at e;have:=I.own a ha;omega
  ·obtain⟨h1,h2,h3⟩:=I.hE r hr;exact⟨asv _ h1,h2,h3⟩
 |ground x=>
  obtain⟨hx,h⟩:=uY h;cases h;refine I.of (by omega) (I.gr.add (by omega) hx) (by simp;omega) rfl rfl I.held (by simp[cost];omega) (λr hr=>?_) ⟨up.g,up.en⟩;obtain⟨h1,h2,h3⟩:=I.hE r hr;refine⟨h1,?_,h3⟩;show 1<=_/\_<=((c.al++[x]).length:Int);rw[asJ];have:=h2.2;exact⟨h2.1,by omega⟩
 |enrol o g m=>
  obtain⟨h1,h⟩:=fP h;obtain⟨h2,h⟩:=gq h;obtain⟨h3,h⟩:=CN h;obtain⟨h4,h⟩:=eY h;obtain⟨h5,h⟩:=eY h;have h:=oG h;cases h;refine I.of (by omega) (I.gr.same rfl rfl) (by show c.al.length<=_;omega) rfl rfl ?_ (by simp[cost];omega) (λr hr=>?_) ⟨λb hb=>(up.g b hb).mono λr hr=>asv _ hr,up.en⟩
  ·rw[asK];refine⟨I.held,by simp,λa ha b hb e=>?_⟩;rw[arO.mp hb]at e;exact h5 (FW.mpr (e ▸ ha))
  ·rcases arR.mp hr with hr|hr
   ·exact I.hE r hr
   ·rw[arO.mp hr];exact⟨h1,h2,h3⟩
 |leave o g=>
  obtain⟨h1,h⟩:=fP h;obtain⟨h2,h⟩:=gq h;obtain⟨h3,h⟩:=ig h;obtain⟨h4,h⟩:=eY h;cases h;have sub:∀r∈dropped c o g,r∈c.held:=λr hr=>(ar4.mp hr).1;have ln:(dropped c o g).length<=c.held.length:=ar3 _ _;refine I.of (by omega) (I.gr.same rfl rfl) (by show c.al.length<=_;omega) rfl rfl (I.held.filter _) (by simp[cost];omega) (λr hr=>I.hE r (sub r hr)) ⟨λb hb=>⟨(up.g b hb).1,(up.g b hb).2.1,λhal=>?_⟩,up.en⟩;obtain⟨m,hm⟩:=(up.g b hb).2.2 hal;refine⟨m,ar4.mpr ⟨hm,?_⟩⟩;simp only[arX,Bool.and_eq_false_iff,beq_eq_false_iff_ne];by_cases e:b.sd.o=o/\b.sd.g=g
  ·exfalso;refine h4 (List.any_eq_true.mpr ⟨b,hb,?_⟩);simp[Yi,hal,e.1,e.2]
  ·by_cases e1:b.sd.o=o
   ·exact .inr λz=>e ⟨e1,z⟩
   ·exact .inl e1
 |bring o g e=>
  obtain⟨h1,h⟩:=fP h;obtain⟨h2,h⟩:=gq h;obtain⟨h3,h⟩:=CN h;obtain⟨h4,h⟩:=ig h;cases h;refine I.of (by omega) (I.gr.same rfl rfl) (by show c.al.length<=_;omega) rfl rfl I.held (by simp[cost];omega) I.hE ⟨λb hb=>?_,λb hb=>?_⟩
  ·rcases arR.mp hb with hb|hb
   ·exact up.g b hb
   ·rw[arO.mp hb];exact⟨h3,λe z=>(by cases z),λ_=>zQ.mp h4⟩
  ·rcases arR.mp hb with hb|hb
   ·exact up.en b hb
   ·rw[arO.mp hb];simp[zm]
 |bear k=>
  obtain⟨b0,e0,h1,h2,h3,h⟩:=qO h;cases h;refine I.of (by omega) (I.gr.same rfl rfl) (by show c.al.length<=_;omega) rfl rfl I.held (by simp[cost];omega) I.hE ⟨λb hb=>?_,λb hb=>?_⟩
  ·rcases arR.mp hb with hb|hb
   ·exact up.g b hb
   ·rw[arO.mp hb];exact⟨(by decide:cO [0,0,0,0,0,0]=true),λe z=>(by cases z),λ_=>(up.g b0 (arN (iH h1).1)).2.2 h2⟩
  ·rcases arR.mp hb with hb|hb
   ·exact up.en b hb
   ·rw[arO.mp hb];simp[zm]
 |cut k=>
  obtain⟨b0,h1,h2,h⟩:=rR h;have h:=oG h;cases h;have hm:=arN (iH h1).1;obtain⟨r,q4,q5⟩:=I.mk1 (I.alive hm h2).1;have je:=qL (I.ear b0 hm) q5;generalize cZ b0.sd.ear (firstM c b0.sd.o b0.sd.g)=e at je ⊢;have B:=I.Wk.one (i:=(k - 1).toNat) (e:=.cut e) λb hb=>by
   rw[(iH h1).1]at hb;cases hb;exact⟨je,λe z=>(by cases z;exact je),λ_=>I.rt b0 hm h2⟩
  exact I.of (by omega) (I.gr.same rfl rfl) (by show c.al.length<=_;omega) rfl rfl I.held (by rw[DW];simp[cost,fB];omega) I.hE ⟨B.g,λb hb=>by have:=B.en b hb;omega⟩
 |tear k p=>
  obtain⟨b0,h1,h2,h⟩:=rR h;obtain⟨h3,h⟩:=uY h;obtain⟨h4,h⟩:=eY h;cases h;have hm:=arN (iH h1).1;have B:=I.Wk.one (i:=(k - 1).toNat) (e:=.torn p.toNat) λb hb=>by
   rw[(iH h1).1]at hb;cases hb;exact⟨ac5 (I.ear b0 hm) h4,I.due b0 hm,I.rt b0 hm⟩
  exact I.of (by omega) (I.gr.same rfl rfl) (by show c.al.length<=_;omega) rfl rfl I.held (by rw[DW];simp[cost,fB];omega) I.hE ⟨B.g,λb hb=>by have:=B.en b hb;omega⟩
 |die k=>
  obtain⟨b0,h1,h2,h⟩:=rR h;cases h;have hm:=arN (iH h1).1;have B:=I.Wk.one (i:=(k - 1).toNat) (e:=.died) λb hb=>by
   rw[(iH h1).1]at hb;cases hb;exact⟨I.ear b0 hm,I.due b0 hm,λz=>by cases z⟩
  exact I.of (by omega) (I.gr.same rfl rfl) (by show c.al.length<=_;omega) rfl rfl I.held (by rw[DW];simp[cost,fB];omega) I.hE ⟨B.g,λb hb=>by have:=B.en b hb;omega⟩
 |sell k o=>
  obtain⟨b0,e0,h1,h2,h3,h⟩:=qO h;obtain⟨h4,h⟩:=fP h;obtain⟨h5,h⟩:=eY h;obtain⟨h6,h⟩:=ig h;have h:=oG h;cases h;have hm:=arN (iH h1).1;obtain⟨r,q4,q5⟩:=I.mk1 h6;have je:=qL (I.ear b0 hm) q5;generalize cZ b0.sd.ear (firstM c o b0.sd.g)=e at je ⊢;have B:=I.Wk.one (i:=(k - 1).toNat) (e:=.sold o e) λb hb=>by
   rw[(iH h1).1]at hb;cases hb;exact⟨je,λe z=>(by cases z;exact je),λ_=>zQ.mp h6⟩
  have B2:=B.many (p:=λx=>uX k x&&x.sd.al) (e:=.followed o b0.sd.g) λb hb _=>⟨(B.g b hb).1,(B.g b hb).2.1,λ_=>zQ.mp h6⟩;exact I.of (by omega) (I.gr.same rfl rfl) (by show c.al.length<=_;omega) rfl rfl I.held (by rw[RG,DW];simp[cost,fB,wZ,oE];omega) I.hE ⟨B2.g,λb hb=>by have:=B2.en b hb;omega⟩
 |move k g=>
  obtain⟨b0,e0,h1,h2,h3,h⟩:=qO h;obtain⟨h4,h⟩:=gq h;obtain⟨h5,h⟩:=eY h;obtain⟨h6,h⟩:=ig h;have h:=oG h;cases h;have hm:=arN (iH h1).1;have B:=I.Wk.one (i:=(k - 1).toNat) (e:=.moved g) λb hb=>by
   rw[(iH h1).1]at hb;cases hb;exact⟨I.ear b0 hm,I.due b0 hm,λ_=>zQ.mp h6⟩
  have B2:=B.many (p:=λx=>uX k x&&x.sd.al) (e:=.followed b0.sd.o g) λb hb _=>⟨(B.g b hb).1,(B.g b hb).2.1,λ_=>zQ.mp h6⟩;exact I.of (by omega) (I.gr.same rfl rfl) (by show c.al.length<=_;omega) rfl rfl I.held (by rw[RG,DW];simp[cost,fB,wZ,oE];omega) I.hE ⟨B2.g,λb hb=>by have:=B2.en b hb;omega⟩
 |wg x y=>
  obtain⟨h1,h⟩:=gq h;obtain⟨h2,h⟩:=gq h;obtain⟨h3,h⟩:=eY h;split at h
  ·cases h
  ·cases h;exact I.of (by omega) (I.gr.wg h2 h1 h3) (by show c.al.length<=_;omega) rfl rfl I.held (by show c.held.length+c.bs.length<=_;omega) I.hE ⟨up.g,up.en⟩
 |part x=>
  obtain⟨h1,h⟩:=gq h;obtain⟨h3,h⟩:=eY h;cases h;exact I.of (by omega) (I.gr.part h1) (by show c.al.length<=_;omega) rfl rfl I.held (by show c.held.length+c.bs.length<=_;omega) I.hE ⟨up.g,up.en⟩
 |pass e h'=>
  obtain⟨h1,h⟩:=fP h;obtain⟨h2,h⟩:=fP h;obtain⟨h3,h⟩:=eY h;cases h;have hin:∀r∈c.held,Ac e h' r∈handed c e h':=λr hr=>(JT _ _).mpr (.inr (arQ.mpr ⟨r,hr,rfl⟩));have hout:∀r∈handed c e h',∃r0∈c.held,Ac e h' r0=r:=λr hr=>by
   rcases(JT _ _).mp hr with z|z
   ·cases z
   ·obtain⟨r0,z1,z2⟩:=arQ.mp z;exact⟨r0,z1,z2⟩
  have hl:(handed c e h').length<=c.held.length:=by have:=Z9 (c.held.map (Ac e h')) [];simpa [handed] using this
  have ow:∀o,o∈c.own.filter (λo=>!(o==e))↔o∈c.own/\o≠e:=λo=>by
   rw[ar4];simp
  have g:∀b∈(oE (λb=>(b.sd.o==e)&&b.sd.al) (.passed h') c).bs,Good (handed c e h') b.sd:=λb hb=>by
   obtain⟨b0,hb0,rfl⟩:=arQ.mp hb;have G:=up.g b0 hb0;cases hp:((b0.sd.o==e)&&b0.sd.al) with
   |true=>
    simp only[hp,if_true];refine⟨G.1,G.2.1,λhal=>?_⟩;obtain⟨m,hm⟩:=G.2.2 hal;have:=hin _ hm;simp at hp;rw[hp.1]at this;exact⟨m,by simpa [Ac,mW,go] using this⟩
   |false=>
    simp only[hp];refine⟨G.1,G.2.1,λhal=>?_⟩;obtain⟨m,hm⟩:=G.2.2 hal;have:=hin _ hm;have hal:b0.sd.al=true:=hal;rw[hal]at hp;simp at hp;exact⟨m,by simpa [Ac,hp] using this⟩
  have en:∀b∈(oE (λb=>(b.sd.o==e)&&b.sd.al) (.passed h') c).bs,b.en.length<=2 * (n+1):=λb hb=>by
   obtain⟨b0,hb0,rfl⟩:=arQ.mp hb;have:=I.en b0 hb0
   dsimp only
   split
   ·simp[mW];omega
   ·omega
  refine⟨I.gr.same rfl rfl,by show c.al.length<=_;omega,⟨C0.1,by show c.count<=_;omega⟩,λo ho=>I.own o ((ow o).mp ho).1,I.QD.filter _,?_,RJ _ _ (by simp),?_,λr hr=>?_,λb hb=>(g b hb).1,λb hb=>(g b hb).2.1,en,λb hb=>(g b hb).2.2⟩
  ·show(c.own.filter _).length<=_
   have:=ar3 (λo=>!(o==e)) c.own;omega
  ·show(handed c e h').length+(oE _ _ c).bs.length<=_
   simp[oE];omega
  ·obtain⟨r0,z1,rfl⟩:=hout r hr;obtain⟨q1,q2,q3⟩:=I.hE r0 z1;refine⟨(ow _).mpr ?_,q2,q3⟩;unfold Ac;by_cases z:r0.1=e
   ·simp only[z,if_true];exact⟨h2,λq=>h3 q.symm⟩
   ·simp only[z,if_false];exact⟨q1,z⟩
 |heir e g x=>
  obtain⟨h1,h⟩:=fP h;obtain⟨h2,h⟩:=gq h;obtain⟨h3,h⟩:=uY h;obtain⟨h4,h⟩:=ig h;split at h
  ·next mk hmk=>
   cases h;obtain⟨r,q4,q5⟩:=I.mk1 h4;have hme:cO mk=true:=Xg q5 ⟨by omega,h3.2⟩ (ar4.mp (List.mem_of_find?_eq_some hmk)).1;refine⟨I.gr.same rfl rfl,by show c.al.length<=_;omega,⟨by show 0<=c.count+1;omega,by show c.count+1<=((n+1:Nat):Int);omega⟩,λo ho=>?_,?_,by simp;omega,?_,by simp[cost];omega,λr hr=>?_,I.ear,I.due,up.en,λb hb hal=>?_⟩
   ·show 1<=o/\o<=c.count+1;rcases arR.mp ho with ho|ho
    ·have:=I.own o ho;omega
    ·rw[arO.mp ho];omega
   ·rw[asK];refine⟨I.QD,by simp,λa ha b hb e=>?_⟩;rw[arO.mp hb]at e;have:=I.own a ha;omega
   ·rw[asK];refine⟨I.held,by simp,λa ha b hb e=>?_⟩;rw[arO.mp hb]at e;have:=I.own _ (I.hE a ha).1;rw[e]at this;simp at this;omega
   ·rcases arR.mp hr with hr|hr
    ·obtain⟨z1,z2,z3⟩:=I.hE r hr;exact⟨asv _ z1,z2,z3⟩
    ·rw[arO.mp hr];exact⟨asw _ (by simp),h2,hme⟩
   ·obtain⟨m,hm⟩:=I.rt b hb hal;exact⟨m,asv _ hm⟩
  ·cases h
theorem afq{n s:Nat}{c c':aK}{d:bJ}{r:Dat}(I:Inv n s c)(hn:n<=199)(h:cP c d=.ok r c'):Inv (n+1) (s+cost d) c':=aa3 I (ar8 I.al hn) h
def nB(x:Int):Bool:=decide (0<=x)&&decide (x<=999999999)
def plB(x:Int):Bool:=decide (0<=x)&&decide (x<=5)
theorem nQ(M:Mo)(x:Int):iU M [.str "number",.int x]=.ok (.bool (nB x)):=by by_cases h:0<=x<;>simp[iU,vH,pH,jc,xV,Bp,h,nB]
theorem jd(M:Mo)(x:Int):iU M [.str "place",.int x]=.ok (.bool (plB x)):=by by_cases h:0<=x<;>simp[iU,vH,pH,jc,xV,Bp,h,plB]
theorem aeU(M:Mo)(x:List Int)(h:x.length<=1000):iU M [.str "ear",aJ x]=.ok (.bool (cO x)):=by have:=Wv M x h;simp[iU,vH,xV,Bp,this]
def fZ:bJ->Bool
 |.owner=>true
 |.ground x=>nB x
 |.enrol o g m=>nB o&&nB g&&cO m
 |.leave o g=>nB o&&nB g
 |.bring o g m=>nB o&&nB g&&cO m
 |.bear k=>nB k
 |.cut k=>nB k
 |.tear k p=>nB k&&plB p
 |.sell k o=>nB k&&nB o
 |.move k g=>nB k&&nB g
 |.die k=>nB k
 |.wg x y=>nB x&&nB y
 |.part x=>nB x
 |.pass e h=>nB e&&nB h
 |.heir e g x=>nB e&&nB g&&nB x
def Oi:bJ->Prop
 |.enrol _ _ m=>m.length<=1000
 |.bring _ _ m=>m.length<=1000
 |_=>True
theorem jf(M:Mo)(w:Str)(T:List (Str×Dat×Bool))(hk:(Ae zL).lookup w=some (.tuple (T.map λt=>.str t.1)))(hl:T.length<=10)(hp:∀t∈T,iU M [.str t.1,t.2.1]=.ok (.bool t.2.2)):Iu M [.tuple (.str w::T.map λt=>t.2.1)]=.ok (.bool (T.all λt=>t.2.2)):=by
 have hs:Rf.cutD (PyData.str w::T.map λt=>t.2.1) (some 1) none=T.map λt=>t.2.1:=YF _ 1;have hz:xZ (T.map λt=>PyData.str t.1) (T.map λt=>t.2.1)=T.map λt=>.tuple [.str t.1,t.2.1]:=by unfold xZ;rw[List.zipWith_map_left,List.zipWith_map_right,List.zipWith_self]
 have key:=fu (tg:=bx [3,4]) (te:=aU iU (ak (aq 3) (ak (aq 4) au))) (M:=M) (Z:=[some (.dat (.tuple (.str w::T.map λt=>t.2.1))),some (.dat (.tuple (T.map λt=>.str t.1))),some (.dat (.tuple (T.map λt=>t.2.1))),none,none]) (λ(t:Str×Dat×Bool)=>PyData.tuple [.str t.1,t.2.1]) (λt=>.bool t.2.2) T λt ht=>⟨[some (.dat (.tuple (.str w::T.map λt=>t.2.1))),some (.dat (.tuple (T.map λt=>.str t.1))),some (.dat (.tuple (T.map λt=>t.2.1))),some (.dat (.str t.1)),some (.dat t.2.1)],by simp,by simp[hp t ht]⟩;have ha:Jr (.list (T.map λt=>PyData.bool t.2.2))=.ok (.bool (T.all λt=>t.2.2)):=by
  have e:(T.map λt=>PyData.bool t.2.2)=(T.map λt=>t.2.2).map PyData.bool:=by rw[asi];rfl
  rw[e]
  show(match qY _ with
   |some bs=>Out.ok (PyData.bool (bs.all id))
   |none=>.bad)=_
  rw[Ao];simp[List.all_map,ar5]
 have hl2:T.length<=50000:=by omega
 have hne:¬(T.length:Int)+1=0:=by omega
 simp[Iu,aaw,hk,hs,hz,key,hl2,ha,hne]
theorem ahF(M:Mo)(d:bJ)(hd:Oi d):Iu M [d.dat]=.ok (.bool (fZ d)):=by
 cases d with
 |owner=>simpa [fZ,bJ.dat,Bool.and_assoc] using jf M "owner" [] (by rfl) (by simp) (by simp[nQ,jd])
 |ground x=>simpa [fZ,bJ.dat,Bool.and_assoc] using jf M "ground" [("number",.int x,nB x)] (by rfl) (by simp) (by simp[nQ,jd])
 |enrol o g m=>simpa [fZ,bJ.dat,Bool.and_assoc] using jf M "enrol" [("number",.int o,nB o),("number",.int g,nB g),("ear",aJ m,cO m)] (by rfl) (by simp) (by simp[nQ,jd,aeU M m hd])
 |leave o g=>simpa [fZ,bJ.dat,Bool.and_assoc] using jf M "leave" [("number",.int o,nB o),("number",.int g,nB g)] (by rfl) (by simp) (by simp[nQ,jd])
 |bring o g m=>simpa [fZ,bJ.dat,Bool.and_assoc] using jf M "bring" [("number",.int o,nB o),("number",.int g,nB g),("ear",aJ m,cO m)] (by rfl) (by simp) (by simp[nQ,jd,aeU M m hd])
 |bear k=>simpa [fZ,bJ.dat,Bool.and_assoc] using jf M "bear" [("number",.int k,nB k)] (by rfl) (by simp) (by simp[nQ,jd])
 |cut k=>simpa [fZ,bJ.dat,Bool.and_assoc] using jf M "cut" [("number",.int k,nB k)] (by rfl) (by simp) (by simp[nQ,jd])
 |tear k p=>simpa [fZ,bJ.dat,Bool.and_assoc] using jf M "tear" [("number",.int k,nB k),("place",.int p,plB p)] (by rfl) (by simp) (by simp[nQ,jd])
 |sell k o=>simpa [fZ,bJ.dat,Bool.and_assoc] using jf M "sell" [("number",.int k,nB k),("number",.int o,nB o)] (by rfl) (by simp) (by simp[nQ,jd])
 |move k g=>simpa [fZ,bJ.dat,Bool.and_assoc] using jf M "move" [("number",.int k,nB k),("number",.int g,nB g)] (by rfl) (by simp) (by simp[nQ,jd])
 |die k=>simpa [fZ,bJ.dat,Bool.and_assoc] using jf M "die" [("number",.int k,nB k)] (by rfl) (by simp) (by simp[nQ,jd])
 |wg x y=>simpa [fZ,bJ.dat,Bool.and_assoc] using jf M "unite" [("number",.int x,nB x),("number",.int y,nB y)] (by rfl) (by simp) (by simp[nQ,jd])
 |part x=>simpa [fZ,bJ.dat,Bool.and_assoc] using jf M "part" [("number",.int x,nB x)] (by rfl) (by simp) (by simp[nQ,jd])
 |pass e h=>simpa [fZ,bJ.dat,Bool.and_assoc] using jf M "pass" [("number",.int e,nB e),("number",.int h,nB h)] (by rfl) (by simp) (by simp[nQ,jd])
 |heir e g x=>simpa [fZ,bJ.dat,Bool.and_assoc] using jf M "heir" [("number",.int e,nB e),("number",.int g,nB g),("number",.int x,nB x)] (by rfl) (by simp) (by simp[nQ,jd])
theorem j5{M:Mo}{L:Lay}{o o':bf Dat}{r:Res}(h:Sp M L o r)(e:o'=o):Sp M L o' r:=e ▸ h
section
variable{M:Mo}{L:Lay}{c:aK}(a:At M L c){n s:Nat}(I:Inv n s c)(hs:s<=76)(hn:n<=199)
include a I hs hn
theorem amo(d:bJ)(hd:Oi d)(hf:fZ d=true):Sp M L (cV M [ob L.c,d.dat]) (cP c d):=by
 have hc:=a.hc;have h0:=ahF M d hd;rw[hf]at h0;cases d with
 |owner=>
  simp only[bJ.dat]at h0 ⊢;refine j5 (aiM a I hn) ?_;simp[cV,dh,h0,hc,aP,iw];cases iT M _<;>rfl
 |ground x=>
  simp only[bJ.dat]at h0 ⊢;refine j5 (afs a I hn x) ?_;simp[cV,dh,h0,hc,aP,qG];cases iz M _<;>rfl
 |enrol o g m=>
  simp only[bJ.dat]at h0 ⊢;refine j5 (ah0 a I hs o g m hd) ?_;simp[cV,dh,h0,hc,aP,wN];cases eE M _<;>rfl
 |leave o g=>
  simp only[bJ.dat]at h0 ⊢;refine j5 (aiT a I hs o g) ?_;simp[cV,dh,h0,hc,aP,wz];cases gj M _<;>rfl
 |bring o g m=>
  simp only[bJ.dat]at h0 ⊢;refine j5 (ahE a I hs o g m hd) ?_;simp[cV,dh,h0,hc,aP,wO];cases gG M _<;>rfl
 |bear k=>
  simp only[bJ.dat]at h0 ⊢;refine j5 (ajR a I hs k) ?_;simp[cV,dh,h0,hc,aP,xQ];cases jk M _<;>rfl
 |cut k=>
  simp only[bJ.dat]at h0 ⊢;refine j5 (ame a I hs (by omega) k) ?_;simp[cV,dh,h0,hc,aP,zB];cases jU M _<;>rfl
 |tear k p=>
  simp only[bJ.dat]at h0 ⊢;refine j5 (ai6 a I hs k p (by omega)) ?_;simp[cV,dh,h0,hc,aP,yg];cases fO M _<;>rfl
 |sell k o=>
  simp only[bJ.dat]at h0 ⊢;refine j5 (aji a I hs (by omega) k o) ?_;simp[cV,dh,h0,hc,aP,xX];cases dU M _<;>rfl
 |move k g=>
  simp only[bJ.dat]at h0 ⊢;refine j5 (ajm a I hs (by omega) k g) ?_;simp[cV,dh,h0,hc,aP,yE];cases dW M _<;>rfl
 |die k=>
  simp only[bJ.dat]at h0 ⊢;refine j5 (amT a I hs k (by omega)) ?_;simp[cV,dh,h0,hc,aP,zF];cases lN M _<;>rfl
 |wg x y=>
  simp only[bJ.dat]at h0 ⊢;refine j5 (aiX a I hs (by omega) x y) ?_;simp[cV,dh,h0,hc,aP,wF];cases gA M _<;>rfl
 |part x=>
  simp only[bJ.dat]at h0 ⊢;refine j5 (akD a I hs (by omega) x) ?_;simp[cV,dh,h0,hc,aP,yO];cases j6 M _<;>rfl
 |pass e h=>
  simp only[bJ.dat]at h0 ⊢;refine j5 (aju a I hs (by omega) e h) ?_;simp[cV,dh,h0,hc,aP,ug];cases fX M _<;>rfl
 |heir e g x=>
  simp only[bJ.dat]at h0 ⊢;refine j5 (aj6 a I hs (by omega) e g x) ?_;simp[cV,dh,h0,hc,aP,sO];cases cY M _<;>rfl
end
theorem afy{c:aK}{d:bJ}{x:dR}(h:cP c d=.no x):uR.lookup x.cls=some true:=by cases d<;>simp only[cP,sG,wX,JC,nu,wW,wA,markB,HX]at h<;>(repeat' split at h)<;>cases h<;>simp[uR]
def ace:bJ->Nat
 |.owner=>1
 |.heir ..=>1
 |_=>0
def dGr:bJ->Nat
 |.ground _=>1
 |_=>0
def dBs:bJ->Nat
 |.bring ..=>1
 |.bear _=>1
 |_=>0
theorem aa7{c c':aK}{d:bJ}{r:Dat}(h:cP c d=.ok r c'):c'.count=c.count+(ace d:Int)/\c'.al.length=c.al.length+dGr d/\c'.bs.length=c.bs.length+dBs d/\(mO .none r=true->ace d=0/\dGr d=0/\dBs d=0):=by cases d<;>simp only[cP,sG,wX,JC,nu,wW,wA,markB]at h<;>(repeat' split at h)<;>cases h<;>simp[ace,dGr,dBs,mO,fB,wZ,oE,lI]
def pN(c:aK)(d:bJ):aK:=match cP c d with
 |.ok _ c'=>c'
 |.no _=>c
def mU(c:aK):Dat:=.tuple [.int c.count,.int c.al.length,.int c.bs.length]
section
variable{M:Mo}{L:Lay}{c:aK}(a:At M L c){n s:Nat}(I:Inv n s c)(hs:s<=76)(hn:n<=199)
include I hn
omit hn in
theorem Zx(d:bJ)(hn:n<=199):Inv (n+1) (s+cost d) (pN c d):=by
 unfold pN;cases h:cP c d with
 |ok r c'=>exact afq I hn h
 |no x=>
  have h1:=I.hL;have h2:=I.al;exact I.of (by omega) I.gr (by show c.al.length<=_;omega) rfl rfl I.held (by show c.held.length+c.bs.length<=_;omega) I.hE ⟨I.Wk.g,λb hb=>by have:=I.en b hb;omega⟩
include a hs
theorem ahB(d:bJ)(hd:Oi d)(hf:fZ d=true):∃M' bs,rH M [ob L.c,d.dat,mU c]=.ok (mU (pN c d)) M'/\At M' { L with bs:=bs } (pN c d):=by
 have hc:=a.hc;have h0:=amo a I hs hn d hd hf;unfold pN;cases e:cP c d with
 |no x=>
  rw[e]at h0;have h0:_=_:=h0;have h1:=afy e;exact⟨M,L.bs,by simp[rH,Mr,hc,aP,rN,h0,h1,mO],a⟩
 |ok r c'=>
  rw[e]at h0;obtain⟨M',bs,h0,h2⟩:=h0;obtain⟨q1,q2,q3,q4⟩:=aa7 e;refine⟨M',bs,?_,h2⟩;have e1:(c'.al.length:Int)=c.al.length+(dGr d:Int):=by omega
  have e2:(c'.bs.length:Int)=c.bs.length+(dBs d:Int):=by omega
  cases hr:mO .none r with
  |true=>
   obtain⟨z1,z2,z3⟩:=q4 hr;simp[z1,z2,z3]at q1 e1 e2;simp[rH,Mr,hc,aP,rN,h0,hr,mU,q1,e1,e2]
  |false=>
   clear q4 q2 q3 e hf hd;cases d<;>simp[ace,dGr,dBs]at q1 e1 e2<;>simp[rH,Mr,hc,aP,rN,h0,hr,mU,q1,e1,e2]<;>simp[bJ.dat]
end
def Oa(f:Int):Int:=if f=9 then -1 else if f=8 then 3 else if f=7 then 2 else if f=6 then 1 else if f=5 then 1 else 0
def Nt(d f:Int):Int:=PL 0 (if d+Oa f < 9 then d+Oa f else 9)
def RW(x f:List Int):List Int:=(x.zip f).map λp=>Nt p.1 p.2
theorem afb(M:Mo)(x0 x1:Option Cell)(acc:List Dat)(d f:Int)(x5:Option Cell)(hf:0<=f/\f < 10)(hl:acc.length < 1000):∃x5',Qh M [x0,x1,some (.mut acc),some (.dat (.int d)),some (.dat (.int f)),x5]=.next [x0,x1,some (.mut (acc++[.int (Nt d f)])),some (.dat (.int d)),some (.dat (.int f)),x5'] M:=by
 have hl2:acc.length < 100000:=by omega
 have key:∀k:Nat,k < 10->([0,0,0,0,0,1,1,2,3,-1]:List Int)[k]?=some (Oa k):=by decide
 obtain⟨k,rfl⟩:∃k:Nat,f=k:=⟨f.toNat,by omega⟩;have hk:=key k (by omega);have h2:atI (([0,0,0,0,0,1,1,2,3,-1]:List Int).map PyData.int) (k:Int)=some (.int (Oa k)):=atI_nat (by rw[arT,hk];rfl);refine⟨some (.dat (.int (Oa k))),?_⟩;have h3:bF (aG 5) (gOf (aA aW (bO (ak (qC (.int 0)) (ak (qC (.int 0)) (ak (qC (.int 0)) (ak (qC (.int 0)) (ak (qC (.int 0)) (ak (qC (.int 1)) (ak (qC (.int 1)) (ak (qC (.int 2)) (ak (qC (.int 3)) (ak (eZ Vt (qC (.int 1))) au))))))))))) (ao 4))) M [x0,x1,some (.mut acc),some (.dat (.int d)),some (.dat (.int k)),x5]=.next [x0,x1,some (.mut acc),some (.dat (.int d)),some (.dat (.int k)),some (.dat (.int (Oa k)))] M:=by
  show(((match atI (([0,0,0,0,0,1,1,2,3,-1]:List Int).map PyData.int) (k:Int) with
   |some d=>Out.ok d
   |none=>.bad).at M).then _ λd M'=>_)=_
  rw[h2];rfl
 show aD _ _ _ _=_;rw[alj,h3];simp[hl2,Nt,PL]
theorem WL(M:Mo)(x0 x1:Option Cell):∀(ps:List (Int×Int)) (acc:List Dat) (x3 x4 x5:Option Cell),(∀p∈ps,0<=p.2/\p.2 < 10)->acc.length+ps.length<=500->∃x3' x4' x5',fY (bx [3,4]) Qh (ps.map pD) M [x0,x1,some (.mut acc),x3,x4,x5]=.next [x0,x1,some (.mut (acc++ps.map λp=>.int (Nt p.1 p.2))),x3',x4',x5'] M
 |[],acc,x3,x4,x5,_,_=>⟨x3,x4,x5,by simp[fY]⟩
 |p::ps,acc,x3,x4,x5,h,hl=>by
  rw[arW]at hl;obtain⟨x5',e⟩:=afb M x0 x1 acc p.1 p.2 x5 (h p arM) (by omega);obtain⟨y3,y4,y5,ih⟩:=WL M x0 x1 ps (acc++[.int (Nt p.1 p.2)]) (some (.dat (.int p.1))) (some (.dat (.int p.2))) x5' (λq hq=>h q (arL _ hq)) (by simp;omega);refine⟨y3,y4,y5,?_⟩;rw[arK,fV (Z1:=[x0,x1,some (.mut acc),some (.dat (.int p.1)),some (.dat (.int p.2)),x5]) (by simp[pD]) e,ih];simp
theorem ahQ(M:Mo)(x f:List Int)(hx:x.length<=100)(hf:∀d∈f,0<=d/\d < 10):Nb M [aJ x,lI f]=.ok (aJ (RW x f)):=by obtain⟨y3,y4,y5,e⟩:=WL M (some (.dat (aJ x))) (some (.dat (lI f))) (x.zip f) [] none none none (λp hp=>hf _ (List.of_mem_zip hp).2) (by simp;omega);simp[Nb,aao,uw,e,RW]
def Iv(f:List Int)(m:Int)(x:List Int):List Int:=if m < 4 then RW x f else zY f m
theorem acW(M:Mo)(x f:List Int)(m:Int)(hx:x.length<=100)(hl:f.length<=1000)(hf:∀d∈f,0<=d/\d < 10):xH M [lI f,.int m,aJ x]=.ok (aJ (Iv f m x)):=by have h1:=ahQ M x f hx hf;have h2:=W0 M f m hl;unfold Iv;by_cases h:m < 4<;>simp[xH,M6,h,h1,h2]
theorem Uh{x:List Int}(h:x.length=6)(h2:∀d∈x,0<=d/\d < 10):cO x=true:=by unfold cO;simp only[arH,ate,ar7];refine⟨h,λd hd=>?_⟩;have:=h2 d hd;omega
theorem ade{x f:List Int}(hx:x.length=6)(hf:f.length=6):cO (RW x f)=true:=by
 refine Uh (by simp[RW];omega) λd hd=>?_;obtain⟨p,hp,rfl⟩:=arQ.mp hd;unfold Nt PL
 split<;>split<;>omega
theorem acu{f x:List Int}{m:Int}(hx:x.length=6)(hl:f.length=6)(hf:∀d∈f,0<=d/\d < 10):cO (Iv f m x)=true:=by
 unfold Iv;split
 ·exact ade hx hl
 ·refine Uh ?_ (agA hf);unfold zY;split
  ·simpa using hl
  ·split
   ·simpa using hl
   ·exact hl
def lu(f many:Int)(sure:Bool):Int:=if sure then 1+f % (if many > 1 then many else 1) else f % (many+2)
theorem aak(M:Mo)(f many:Int)(sure:Bool)(hm:0<=many):jV M [.int f,.int many,.bool sure]=.ok (.int (lu f many sure)):=by
 have h2:0 < many+2:=by omega
 have h3:0 < (if 1 < many then many else 1):=by split<;>omega
 cases sure
 ·simp[jV,Yq,lu,h2]
 ·simp[jV,Yq,lu,h3]
theorem Dc{f many:Int}{sure:Bool}(hf:0<=f/\f<=1000)(hm:0<=many):nB (lu f many sure)=true:=by
 unfold lu nB;have key:∀m:Int,0 < m->0<=f % m/\f % m<=f:=λm h=>⟨Int.emod_nonneg _ (by omega),by
  have h1:=Int.mul_ediv_add_emod f m;have h2:=Int.mul_nonneg (by omega:0<=m) (Int.ediv_nonneg hf.1 (by omega:0<=m))
  omega⟩
 simp only[arH,ate];cases sure
 ·have:=key (many+2) (by omega);simp;omega
 ·have:=key (if many > 1 then many else 1) (by split<;>omega);simp only[if_true];omega
abbrev dd(M:Mo)(w:Str)(one two:Int)(p base:List Int)(n0 n1 n2:Int):Out Dat:=gU M [.str w,.int one,.int two,lI p,.tuple [.int n0,.int n1,.int n2],aJ base]
def eV(p:List Int):Bool:=!(p.getD 6 0==9)
def Jf(p base:List Int):List Int:=Iv (p.drop 8) (p.getD 7 0) base
def grT(f:Int):Int:=if f=9 then 8 else if f=8 then 7 else if f=7 then 6 else if f=6 then 5 else if f=5 then 1 else if f=4 then 0 else f
def HJ(p base:List Int):List Int:=if p.getD 7 0 < 6 then[0,0,0,0,0,0] else Jf p base
structure Pts(p base:List Int):Prop where
 len:p.length=14
 dig:∀d∈p,0<=d/\d < 10
 base:base.length=6
theorem amQ{p:List Int}(h:p.length=14):∃a b c d e f g i j k l m n o:Int,p=[a,b,c,d,e,f,g,i,j,k,l,m,n,o]:=by
 match p,h with
 |[a,b,c,d,e,f,g,i,j,k,l,m,n,o],_=>exact⟨a,b,c,d,e,f,g,i,j,k,l,m,n,o,rfl⟩
theorem Pts.mark{p base:List Int}(P:Pts p base):cO (Jf p base)=true:=acu P.base (by rw[as6,P.len]) λd hd=>P.dig d (List.mem_of_mem_drop hd)
theorem Pts.bring{p base:List Int}(P:Pts p base):cO (HJ p base)=true:=by
 unfold HJ;split
 ·decide
 ·exact P.mark
section
variable(M:Mo){p base:List Int}(P:Pts p base)(one two n0 n1 n2:Int)(h0:0<=n0)(h1:0<=n1)(h2:0<=n2)
include P h0 h1 h2
theorem afE :
  dd M "owner" one two p base n0 n1 n2=.ok (bJ.dat (.owner))/\
  dd M "ground" one two p base n0 n1 n2=.ok (bJ.dat (.ground (grT (p.getD 7 0)+4 * (if eV p then 0 else 1))))/\
  dd M "enrol" one two p base n0 n1 n2=.ok (bJ.dat (.enrol (lu one n0 (eV p)) (lu two n1 (eV p)) (Jf p base)))/\
  dd M "bring" one two p base n0 n1 n2=.ok (bJ.dat (.bring (lu one n0 (eV p)) (lu two n1 (eV p)) (HJ p base)))/\
  dd M "leave" one two p base n0 n1 n2=.ok (bJ.dat (.leave (lu one n0 (eV p)) (lu two n1 (eV p))))/\
  dd M "heir" one two p base n0 n1 n2=.ok (bJ.dat (.heir (lu one n0 (eV p)) (lu two n1 (eV p)) (p.getD 7 0 % 4)))/\
  dd M "pass" one two p base n0 n1 n2=.ok (bJ.dat (.pass (lu one n0 (eV p)) (lu two n0 (eV p))))/\
  dd M "unite" one two p base n0 n1 n2=.ok (bJ.dat (.wg (lu one n1 (eV p)) (lu two n1 (eV p))))/\
  dd M "part" one two p base n0 n1 n2=.ok (bJ.dat (.part (lu one n1 (eV p))))/\
  dd M "tear" one two p base n0 n1 n2=.ok (bJ.dat (.tear (lu one n2 (eV p)) (p.getD 7 0 % 6)))/\
  dd M "sell" one two p base n0 n1 n2=.ok (bJ.dat (.sell (lu one n2 (eV p)) (lu two n0 (eV p))))/\
  dd M "move" one two p base n0 n1 n2=.ok (bJ.dat (.move (lu one n2 (eV p)) (lu two n1 (eV p))))/\
  dd M "bear" one two p base n0 n1 n2=.ok (bJ.dat (.bear (lu one n2 (eV p))))/\
  dd M "cut" one two p base n0 n1 n2=.ok (bJ.dat (.cut (lu one n2 (eV p))))/\
  dd M "die" one two p base n0 n1 n2=.ok (bJ.dat (.die (lu one n2 (eV p)))):=by
 have hm:=acW M base (p.drop 8) (p.getD 7 0) (by rw[P.base];decide) (by rw[as6,P.len];decide) λd hd=>P.dig d (List.mem_of_mem_drop hd);have hr0:=λf=>aak M f n0 (eV p) h0;have hr1:=λf=>aak M f n1 (eV p) h1;have hr2:=λf=>aak M f n2 (eV p) h2;have hd:=P.dig;have hbr:HJ p base=if p.getD 7 0 < 6 then[0,0,0,0,0,0] else Jf p base:=rfl
 have hmp:Jf p base=Iv (p.drop 8) (p.getD 7 0) base:=rfl;have hsb:eV p=!(p.getD 6 0==9):=rfl;obtain⟨x0,x1,x2,x3,x4,x5,x6,x7,x8,x9,x10,x11,x12,x13,rfl⟩:=amQ P.len;generalize hp:[x0,x1,x2,x3,x4,x5,x6,x7,x8,x9,x10,x11,x12,x13]=p at *;have h6:p.getD 6 0=x6:=by rw[←hp];rfl
 have h7:p.getD 7 0=x7:=by rw[←hp];rfl
 have h8:p.drop 8=[x8,x9,x10,x11,x12,x13]:=by rw[←hp];rfl
 have hx7:=hd x7 (by rw[←hp];simp);rw[h7,h8]at hm hmp;rw[h7]at hbr;rw[h6]at hsb;simp only[h7];generalize eV p=su at *;generalize Jf p base=mk at *;generalize HJ p base=br at *;have c1:Rf.cutD (p.map PyData.int) (some 8) (some 14)=[PyData.int x8,.int x9,.int x10,.int x11,.int x12,.int x13]:=by rw[←hp];rfl
 have c2:atI (p.map PyData.int) 7=some (.int x7):=by rw[←hp];rfl
 have c3:atI (p.map PyData.int) 6=some (.int x6):=by rw[←hp];rfl
 have hm:xH M [.list [PyData.int x8,.int x9,.int x10,.int x11,.int x12,.int x13],.int x7,aJ base]=.ok (aJ mk):=by rw[hmp];exact hm
 have key:∀k:Nat,k < 10->([0,1,2,3,0,1,5,6,7,8]:List Int)[k]?=some (grT k):=by decide
 have hk:atI (([0,1,2,3,0,1,5,6,7,8]:List Int).map PyData.int) x7=some (.int (grT x7)):=by obtain⟨k,rfl⟩:∃k:Nat,x7=k:=⟨x7.toNat,by omega⟩;exact atI_nat (by rw[arT,key k (by omega)];rfl)
 simp at hk;have hm4:∀z,decide (CMul 4 z)=true:=λz=>ahb (by decide);clear hp hd P;refine⟨?_,?_,?_,?_,?_,?_,?_,?_,?_,?_,?_,?_,?_,?_,?_⟩
 ·simp[dd,gU,jZ,c1,c2,c3,hm,←hsb,hr0,hr1,hr2,bJ.dat]
 ·cases su<;>simp[dd,gU,jZ,c1,c2,c3,hm,←hsb,hk,hm4,Rf.intD,bJ.dat]
 ·simp[dd,gU,jZ,c1,c2,c3,hm,←hsb,hr0,hr1,hr2,bJ.dat]
 ·by_cases h76:x7 < 6
  ·rw[if_pos h76]at hbr;simp[dd,gU,jZ,c1,c2,c3,hm,←hsb,hr0,hr1,hr2,bJ.dat,h76,hbr]
  ·rw[if_neg h76]at hbr;simp[dd,gU,jZ,c1,c2,c3,hm,←hsb,hr0,hr1,hr2,bJ.dat,h76,hbr]
 ·simp[dd,gU,jZ,c1,c2,c3,hm,←hsb,hr0,hr1,hr2,bJ.dat]
 ·simp[dd,gU,jZ,c1,c2,c3,hm,←hsb,hr0,hr1,hr2,bJ.dat]
 ·simp[dd,gU,jZ,c1,c2,c3,hm,←hsb,hr0,hr1,hr2,bJ.dat]
 ·simp[dd,gU,jZ,c1,c2,c3,hm,←hsb,hr0,hr1,hr2,bJ.dat]
 ·simp[dd,gU,jZ,c1,c2,c3,hm,←hsb,hr0,hr1,hr2,bJ.dat]
 ·simp[dd,gU,jZ,c1,c2,c3,hm,←hsb,hr0,hr1,hr2,bJ.dat]
 ·simp[dd,gU,jZ,c1,c2,c3,hm,←hsb,hr0,hr1,hr2,bJ.dat]
 ·simp[dd,gU,jZ,c1,c2,c3,hm,←hsb,hr0,hr1,hr2,bJ.dat]
 ·simp[dd,gU,jZ,c1,c2,c3,hm,←hsb,hr0,hr1,hr2,bJ.dat]
 ·simp[dd,gU,jZ,c1,c2,c3,hm,←hsb,hr0,hr1,hr2,bJ.dat]
 ·simp[dd,gU,jZ,c1,c2,c3,hm,←hsb,hr0,hr1,hr2,bJ.dat]
theorem Zq{w:Str}(hw:w∈(["owner","ground","enrol","bring","leave","heir","pass","unite","part","tear","sell","move","bear","cut","die"]:List Str))(ho:0<=one/\one<=1000)(ht:0<=two/\two<=1000):∃d:bJ,gU M [.str w,.int one,.int two,lI p,.tuple [.int n0,.int n1,.int n2],aJ base]=.ok d.dat/\fZ d=true/\Oi d:=by
 have r10:=Dc (f:=one) (sure:=eV p) ho h0;have r11:=Dc (f:=one) (sure:=eV p) ho h1;have r12:=Dc (f:=one) (sure:=eV p) ho h2;have r20:=Dc (f:=two) (sure:=eV p) ht h0;have r21:=Dc (f:=two) (sure:=eV p) ht h1;have r22:=Dc (f:=two) (sure:=eV p) ht h2;have m1:=P.mark;have m2:=P.bring;have l1:(Jf p base).length<=1000:=by rw[cW m1];decide
 have l2:(HJ p base).length<=1000:=by rw[cW m2];decide
 have h7:0<=p.getD 7 0/\p.getD 7 0 < 10:=P.dig _ (by
  have:=P.len;rw[List.getD_eq_getElem?_getD,arI (by omega)];exact asB _)
 have q4:nB (p.getD 7 0 % 4)=true:=by unfold nB;simp only[arH,ate];omega
 have q6:plB (p.getD 7 0 % 6)=true:=by unfold plB;simp only[arH,ate];omega
 have qg:nB (grT (p.getD 7 0)+4 * (if eV p then 0 else 1))=true:=by
  unfold nB grT;simp only[arH,ate]
  split<;>(repeat' split)<;>omega
 simp only[arV,asp,or_false]at hw;obtain⟨d0,d1,d2,d3,d4,d5,d6,d7,d8,d9,d10,d11,d12,d13,d14⟩:=afE M P one two n0 n1 n2 h0 h1 h2;rcases hw with rfl|rfl|rfl|rfl|rfl|rfl|rfl|rfl|rfl|rfl|rfl|rfl|rfl|rfl|rfl
 ·exact⟨_,d0,by simp[fZ,r10,r11,r12,r20,r21,r22,m1,m2,q4,q6,-List.getD_eq_getElem?_getD],by first | trivial | assumption⟩
 ·exact⟨_,d1,qg,by first | trivial | assumption⟩
 ·exact⟨_,d2,by simp[fZ,r10,r11,r12,r20,r21,r22,m1,m2,q4,q6,-List.getD_eq_getElem?_getD],by first | trivial | assumption⟩
 ·exact⟨_,d3,by simp[fZ,r10,r11,r12,r20,r21,r22,m1,m2,q4,q6,-List.getD_eq_getElem?_getD],by first | trivial | assumption⟩
 ·exact⟨_,d4,by simp[fZ,r10,r11,r12,r20,r21,r22,m1,m2,q4,q6,-List.getD_eq_getElem?_getD],by first | trivial | assumption⟩
 ·exact⟨_,d5,by simp[fZ,r10,r11,r12,r20,r21,r22,m1,m2,q4,q6,-List.getD_eq_getElem?_getD],by first | trivial | assumption⟩
 ·exact⟨_,d6,by simp[fZ,r10,r11,r12,r20,r21,r22,m1,m2,q4,q6,-List.getD_eq_getElem?_getD],by first | trivial | assumption⟩
 ·exact⟨_,d7,by simp[fZ,r10,r11,r12,r20,r21,r22,m1,m2,q4,q6,-List.getD_eq_getElem?_getD],by first | trivial | assumption⟩
 ·exact⟨_,d8,by simp[fZ,r10,r11,r12,r20,r21,r22,m1,m2,q4,q6,-List.getD_eq_getElem?_getD],by first | trivial | assumption⟩
 ·exact⟨_,d9,by simp[fZ,r10,r11,r12,r20,r21,r22,m1,m2,q4,q6,-List.getD_eq_getElem?_getD],by first | trivial | assumption⟩
 ·exact⟨_,d10,by simp[fZ,r10,r11,r12,r20,r21,r22,m1,m2,q4,q6,-List.getD_eq_getElem?_getD],by first | trivial | assumption⟩
 ·exact⟨_,d11,by simp[fZ,r10,r11,r12,r20,r21,r22,m1,m2,q4,q6,-List.getD_eq_getElem?_getD],by first | trivial | assumption⟩
 ·exact⟨_,d12,by simp[fZ,r10,r11,r12,r20,r21,r22,m1,m2,q4,q6,-List.getD_eq_getElem?_getD],by first | trivial | assumption⟩
 ·exact⟨_,d13,by simp[fZ,r10,r11,r12,r20,r21,r22,m1,m2,q4,q6,-List.getD_eq_getElem?_getD],by first | trivial | assumption⟩
 ·exact⟨_,d14,by simp[fZ,r10,r11,r12,r20,r21,r22,m1,m2,q4,q6,-List.getD_eq_getElem?_getD],by first | trivial | assumption⟩
end
abbrev words:List Str:=["owner","ground","enrol","bring","leave","heir","pass","unite","part","tear","sell","move","bear","cut","die"]
def Wg:List Str:=["tear","cut","bring","sell","move","enrol","bear","tear","cut","sell","move","unite","part","heir","pass","die","leave","ground","owner","enrol","tear","sell","bring","bear","cut"]
theorem ahn(M:Mo)(f:Int):∃w∈words,Ai M [.int f]=.ok (.str w):=by
 have h1:0<=f % 25/\f % 25 < 25:=by omega
 obtain⟨k,hk⟩:∃k:Nat,f % 25=k:=⟨(f % 25).toNat,by omega⟩;have hl:k < Wg.length:=by show k < 25;omega
 have h2:atI (Wg.map PyData.str) (k:Int)=some (.str Wg[k]):=atI_nat (by rw[arT,arI hl];rfl);have h3:∀w∈Wg,w∈words:=by simp[Wg]
 refine⟨Wg[k],h3 _ (asB hl),?_⟩;generalize Wg[k]=z at h2;simp[Wg]at h2;simp[Ai,Mj,hk,h2]
def yx(h:Int):List (Str×Int×Int):=if h % 8=7 then[] else[("ground",0,0),("owner",0,0),("owner",0,0),("enrol",0,0),("enrol",1,0),("bring",0,0),("cut",0,0),("bring",1,0),("cut",1,0),("ground",0,0),("enrol",0,1)]
def JH(r:Str×Int×Int):Dat:=.tuple [.str r.1,.int r.2.1,.int r.2.2]
theorem adQ(M:Mo)(h:Int):vM M [.int h]=.ok (.list ((yx h).map JH)):=by unfold yx;by_cases e:h % 8=7<;>simp[vM,Gm,e,JH]
theorem ahW{h:Int}:∀r∈yx h,r.1∈words/\(0<=r.2.1/\r.2.1<=1000)/\0<=r.2.2/\r.2.2<=1000:=by
 unfold yx;split
 ·simp
 ·simp
inductive El:Nat->aK->Prop where
 |nil:El 0 ⟨0,[],[],[],[],[]⟩
 |step {n:Nat} {c:aK} (d:bJ):El n c->fZ d=true->El (n+1) (pN c d)
 |le {n m:Nat} {c:aK}:El n c->n<=m->El m c
theorem Inv.mono{n s n' s':Nat}{c:aK}(I:Inv n s c)(h1:n<=n')(h2:s<=s'):Inv n' s' c:=
 I.of h1 I.gr (ar8 I.al h1) rfl rfl I.held (ar8 I.hL h2) I.hE ⟨I.Wk.g,λb hb=>by have:=I.en b hb;omega⟩
theorem ab6(d:bJ):cost d<=1:=by cases d<;>simp[cost]
theorem alh:Inv 0 0 ⟨0,[],[],[],[],[]⟩:=⟨⟨rfl,by simp,by simp,by simp,by simp,by simp,by simp⟩,by simp,by simp,by simp,by simp,by simp,by simp,by simp,by simp,by simp,by simp,by simp,by simp⟩
structure Now(M:Mo)(L:Lay)(n s:Nat)(c:aK):Prop where
 at_:At M L c
 inv:Inv n s c
 rch:El n c
theorem Now.done{M:Mo}{L:Lay}{n s:Nat}{c:aK}(N:Now M L n s c)(hs:s<=76)(hn:n<=199)(d:bJ)(hd:Oi d)(hf:fZ d=true):∃M' bs,rH M [ob L.c,d.dat,mU c]=.ok (mU (pN c d)) M'/\Now M' { L with bs:=bs } (n+1) (s+cost d) (pN c d):=by obtain⟨M',bs,h1,h2⟩:=ahB N.at_ N.inv hs hn d hd hf;exact⟨M',bs,h1,h2,Zx N.inv d hn,.step d N.rch hf⟩
theorem aiu(x:Int){base:List Int}(h:base.length=6):Pts (rowOf x 14 10) base:=⟨abQ ..,Zh (by decide) _ _,h⟩
theorem Im(x:Int)(k:Nat)(h:k < 14):atI ((rowOf x 14 10).map PyData.int) (k:Int)=some (.int ((rowOf x 14 10).getD k 0))/\0<=(rowOf x 14 10).getD k 0/\(rowOf x 14 10).getD k 0<=9:=by
 have hl:k < (rowOf x 14 10).length:=by rw[abQ];exact h
 refine⟨Qe _ k hl,?_⟩;rw[List.getD_eq_getElem?_getD,arI hl];have:=Zh (by decide) x 14 _ (asB hl);simp;omega
theorem aeT{M:Mo}{L:Lay}{n s:Nat}{c:aK}(N:Now M L n s c)(hs:s<=76)(hn:n<=199)(x1:Option Cell)(head:Int)(base:List Int)(hb:base.length=6)(i:Nat)(x:Int)(x8 x9 x10 x11 x12:Option Cell) :
  ∃d M' bs y8 y9 y10 y11,fZ d=true/\DQ M [some (.dat (ob L.c)),x1,some (.dat (.int head)),some (.dat (mU c)),some (.dat (aJ base)),some (.dat (.list ((yx head).map JH))),some (.dat (.int i)),some (.dat (.int x)),x8,x9,x10,x11,x12]=.next [some (.dat (ob L.c)),x1,some (.dat (.int head)),some (.dat (mU (pN c d))),some (.dat (aJ base)),some (.dat (.list ((yx head).map JH))),some (.dat (.int i)),some (.dat (.int x)),y8,y9,y10,y11,x12] M'/\Now M' { L with bs:=bs } (n+1) (s+cost d) (pN c d):=by
 have h1:v8 M [.int x,.int 14,.int 10]=.ok (lI (rowOf x 14 10)):=aaD M x 14 10 (by decide) (by decide) (by decide);have P:=aiu x hb;obtain⟨r0,q0,q0'⟩:=Im x 0 (by decide);obtain⟨r1,q1,q1'⟩:=Im x 1 (by decide);obtain⟨r2,q2,q2'⟩:=Im x 2 (by decide);obtain⟨r3,q3,q3'⟩:=Im x 3 (by decide);obtain⟨r4,q4,q4'⟩:=Im x 4 (by decide);obtain⟨r5,q5,q5'⟩:=Im x 5 (by decide);generalize rowOf x 14 10=p at *;generalize p.getD 0 0=d0 at *;generalize p.getD 1 0=d1 at *;generalize p.getD 2 0=d2 at *;generalize p.getD 3 0=d3 at *;generalize p.getD 4 0=d4 at *;generalize p.getD 5 0=d5 at *;obtain⟨w,hw,h2⟩:=ahn M (d0 * 10+d1);have hm:∀z,decide (CMul z 10)=true:=λz=>mul_r (by decide);have c0:=N.inv.cnt.1;simp only[Int.natCast_zero,Int.natCast_one,show((2:Nat):Int)=2 from rfl,show((3:Nat):Int)=3 from rfl,show((4:Nat):Int)=4 from rfl,show((5:Nat):Int)=5 from rfl]at r0 r1 r2 r3 r4 r5;by_cases hi:i < (yx head).length
 ·have hi':(i:Int) < (yx head).length:=by omega
  have g:=arI hi;obtain⟨b1,b2,b3⟩:=ahW _ (asB hi);generalize (yx head)[i]=b at *;obtain⟨d,e1,e2,e3⟩:=Zq M P b.2.1 b.2.2 c.count c.al.length c.bs.length c0 (by omega) (by omega) b1 b2 b3;obtain⟨M',bs,e4,e5⟩:=N.done hs hn d e3 e2;refine⟨d,M',bs,some (.dat (lI p)),some (.dat (.str b.1)),some (.dat (.int b.2.1)),some (.dat (.int b.2.2)),e2,?_,e5⟩;have e1:gU M [.str b.1,.int b.2.1,.int b.2.2,lI p,mU c,aJ base]=.ok d.dat:=e1;simp[DQ,h1,r0,r1,r2,r3,r4,r5,hm,h2,hi',g];simp[JH,e1,e4]
 ·have hi':¬(i:Int) < (yx head).length:=by omega
  obtain⟨d,e1,e2,e3⟩:=Zq M P (d2 * 10+d3) (d4 * 10+d5) c.count c.al.length c.bs.length c0 (by omega) (by omega) hw (by omega) (by omega);obtain⟨M',bs,e4,e5⟩:=N.done hs hn d e3 e2;refine⟨d,M',bs,some (.dat (lI p)),some (.dat (.str w)),some (.dat (.int (d2 * 10+d3))),some (.dat (.int (d4 * 10+d5))),e2,?_,e5⟩;have e1:gU M [.str w,.int (d2 * 10+d3),.int (d4 * 10+d5),lI p,mU c,aJ base]=.ok d.dat:=e1;simp[DQ,h1,r0,r1,r2,r3,r4,r5,hm,h2,hi'];simp[e1,e4]
theorem WR(x1:Option Cell)(head:Int)(base:List Int)(hb:base.length=6)(x12:Option Cell):∀(xs:List (Nat×Int)) (M:Mo) (L:Lay) (n:Nat) (c:aK) (x6 x7 x8 x9 x10 x11:Option Cell),Now M L n n c->n+xs.length<=76->
  ∃c' M' bs y6 y7 y8 y9 y10 y11,fY (bx [6,7]) DQ (xs.map λq=>PyData.tuple [.int q.1,.int q.2]) M [some (.dat (ob L.c)),x1,some (.dat (.int head)),some (.dat (mU c)),some (.dat (aJ base)),some (.dat (.list ((yx head).map JH))),x6,x7,x8,x9,x10,x11,x12]=.next [some (.dat (ob L.c)),x1,some (.dat (.int head)),some (.dat (mU c')),some (.dat (aJ base)),some (.dat (.list ((yx head).map JH))),y6,y7,y8,y9,y10,y11,x12] M'/\Now M' { L with bs:=bs } (n+xs.length) (n+xs.length) c'
 |[],M,L,n,c,x6,x7,x8,x9,x10,x11,N,_=>⟨c,M,L.bs,x6,x7,x8,x9,x10,x11,rfl,N⟩
 |q::xs,M,L,n,c,x6,x7,x8,x9,x10,x11,N,hl=>by
  rw[arW]at hl;obtain⟨d,M1,bs,y8,y9,y10,y11,h0,h1,N1⟩:=aeT N (by omega) (by omega) x1 head base hb q.1 q.2 x8 x9 x10 x11 x12;have N1:Now M1 { L with bs:=bs } (n+1) (n+1) (pN c d):=⟨N1.at_,N1.inv.mono (ar9 _) (by have:=ab6 d;omega),N1.rch⟩;obtain⟨c',M',bs',z6,z7,z8,z9,z10,z11,h2,N2⟩:=WR x1 head base hb x12 xs M1 { L with bs:=bs } (n+1) (pN c d) (some (.dat (.int q.1))) (some (.dat (.int q.2))) y8 y9 y10 y11 N1 (by omega);refine⟨c',M',bs',z6,z7,z8,z9,z10,z11,?_,?_⟩
  ·rw[arK,fV (Z1:=[some (.dat (ob L.c)),x1,some (.dat (.int head)),some (.dat (mU c)),some (.dat (aJ base)),some (.dat (.list ((yx head).map JH))),some (.dat (.int q.1)),some (.dat (.int q.2)),x8,x9,x10,x11,x12]) (by simp) h1];exact h2
  ·rw[arW,show n+(xs.length+1)=n+1+xs.length by omega];exact N2
theorem acL{M:Mo}{L:Lay}{n s:Nat}{c:aK}(N:Now M L n s c)(hs:s<=75)(hn:n<=198)(x1 x2 x4 x5 x6 x7 x8 x9 x10 x11 x12:Option Cell) :
  ∃c' M' bs,Je M [some (.dat (ob L.c)),x1,x2,some (.dat (mU c)),x4,x5,x6,x7,x8,x9,x10,x11,x12]=.next [some (.dat (ob L.c)),x1,x2,some (.dat (mU c')),x4,x5,x6,x7,x8,x9,x10,x11,x12] M'/\Now M' { L with bs:=bs } (n+2) (s+1) c':=by
 obtain⟨M1,bs1,h1,N1⟩:=N.done (by omega) (by omega) (.bring 1 1 [0,0,0,0,0,0]) (by simp[Oi]) (by decide);have hl:=N1.inv.hL;have hc:cost (.bring 1 1 [0,0,0,0,0,0])=1:=rfl;generalize pN c (.bring 1 1 [0,0,0,0,0,0])=c1 at *;obtain⟨M2,bs2,h2,N2⟩:=N1.done (by omega) (by omega) (.cut c1.bs.length) trivial (by simp only[fZ,nB,arH,ate];omega);refine⟨_,M2,bs2,?_,N2.at_,N2.inv,N2.rch⟩;have h1:rH M [ob L.c,.tuple [.str "bring",.int 1,.int 1,.tuple [.int 0,.int 0,.int 0,.int 0,.int 0,.int 0]],mU c]=.ok (mU c1) M1:=h1
 have h2:rH M1 [ob L.c,.tuple [.str "cut",.int c1.bs.length],mU c1]=_:=h2
 simp[Je,h1];have e:atI [PyData.int c1.count,.int c1.al.length,.int c1.bs.length] 2=some (.int c1.bs.length):=rfl;simp[mU]at h2 ⊢;simp[h2]
theorem Tz(x1 x2 x4 x5 x6 x7 x8 x9 x10 x11:Option Cell):∀(xs:List Dat) (M:Mo) (L:Lay) (n s:Nat) (c:aK) (x12:Option Cell),Now M L n s c->n+2 * xs.length<=198->s+xs.length<=75->
  ∃c' M' bs y12,fY (aG 12) Je xs M [some (.dat (ob L.c)),x1,x2,some (.dat (mU c)),x4,x5,x6,x7,x8,x9,x10,x11,x12]=.next [some (.dat (ob L.c)),x1,x2,some (.dat (mU c')),x4,x5,x6,x7,x8,x9,x10,x11,y12] M'/\Now M' { L with bs:=bs } (n+2 * xs.length) (s+xs.length) c'
 |[],M,L,n,s,c,x12,N,_,_=>⟨c,M,L.bs,x12,rfl,N⟩
 |q::xs,M,L,n,s,c,x12,N,h1,h2=>by
  rw[arW]at h1 h2;obtain⟨c1,M1,bs1,e1,N1⟩:=acL N (by omega) (by omega) x1 x2 x4 x5 x6 x7 x8 x9 x10 x11 (some (.dat q));obtain⟨c',M',bs',y12,e2,N2⟩:=Tz x1 x2 x4 x5 x6 x7 x8 x9 x10 x11 xs M1 { L with bs:=bs1 } (n+2) (s+1) c1 (some (.dat q)) N1 (by omega) (by omega);refine⟨c',M',bs',y12,?_,?_⟩
  ·rw[fV (Z1:=[some (.dat (ob L.c)),x1,x2,some (.dat (mU c)),x4,x5,x6,x7,x8,x9,x10,x11,some (.dat q)]) (by simp) e1];exact e2
  ·rw[arW,show n+2 * (xs.length+1)=n+2+2 * xs.length by omega,show s+(xs.length+1)=s+1+xs.length by omega];exact N2
def V1:aK:=⟨0,[],[],[],[],[]⟩
theorem aiN{M:Mo}{L:Lay}(a:At M L V1)(cells:List Int)(hl:cells.length<=43)(head:Int):∃c M' L',L'.c=L.c/\Hf M [ob L.c,lI cells,.int head]=.ok (mU c) M'/\Now M' L' 99 71 c:=by
 have hb:=adG (head / 512);have h1:=aj7 M (head / 512);have h2:=adQ M head;have N0:Now M L 0 0 V1:=⟨a,alh,.nil⟩;have hen:pQ 0 (cells.map PyData.int)=(cells.mapIdx λi x=>(i,x)).map λ(q:Nat×Int)=>PyData.tuple [.int q.1,.int q.2]:=by unfold pQ;apply asl;intro i;simp;cases cells[i]?<;>simp
 obtain⟨c1,M1,bs1,y6,y7,y8,y9,y10,y11,e1,N1⟩:=WR (some (.dat (lI cells))) head (NP (head / 512)) hb none (cells.mapIdx λi x=>(i,x)) M L 0 V1 none none none none none none N0 (by simp;omega);simp only[List.length_mapIdx,Nat.zero_add]at N1;have hd:∀z,decide (CDiv z 512)=true:=λz=>decide_eq_true ⟨by decide,by decide⟩;have hd8:∀z,decide (CDiv z 8)=true:=λz=>decide_eq_true ⟨by decide,by decide⟩;have hd64:∀z,decide (CDiv z 64)=true:=λz=>decide_eq_true ⟨by decide,by decide⟩;have hm:∀z,decide (CMul z 4)=true:=λz=>mul_r (by decide);have z0:mU V1=.tuple [.int 0,.int 0,.int 0]:=rfl;rw[z0]at e1;by_cases hh:head / 8 % 8=1
 ·obtain⟨k,hk,hk2⟩:∃k:Nat,head / 64 % 8 * 4=k/\k<=28:=⟨(head / 64 % 8 * 4).toNat,by omega,by omega⟩;obtain⟨c2,M2,bs2,y12,e2,N2⟩:=Tz (some (.dat (lI cells))) (some (.dat (.int head))) (some (.dat (aJ (NP (head / 512))))) (some (.dat (.list ((yx head).map JH)))) y6 y7 y8 y9 y10 y11 (jy 0 k) M1 { L with bs:=bs1 } cells.length cells.length c1 none N1 (by simp[jy];omega) (by simp[jy];omega);refine⟨c2,M2,{ L with bs:=bs2 },rfl,?_,N2.at_,N2.inv.mono (by simp[jy];omega) (by simp[jy];omega),N2.rch.le (by simp[jy];omega)⟩;have k1:(k:Int)<=100000:=by omega
  have k2 : -100000<=(k:Int):=by omega
  simp[Hf,Td,hd,h1,h2,hen,e1,hd8,hh,hd64,hm,hk,k1,k2,e2]
 ·refine⟨c1,M1,{ L with bs:=bs1 },rfl,?_,N1.at_,N1.inv.mono (by omega) (by omega),N1.rch.le (by omega)⟩;simp[Hf,Td,hd,h1,h2,hen,e1,hd8,hh]
def L0:Lay:=⟨0,2,5,7,[],[]⟩
theorem anN:∃M L,L.c=0/\pY [⟨"Commons",[]⟩] [ob 0]=.ok .none M/\At M L V1:=by refine⟨_,L0,rfl,by simp[pY,zp,j8,uU,zM,vZ,Bq,Ag,Gi];rfl,?_⟩;exact⟨rfl,⟨_,_,rfl⟩,rfl,⟨_,rfl⟩,rfl,λi h b z _=>(by cases z),by decide,λp hp=>(by cases hp)⟩
theorem Now.look{M:Mo}{L:Lay}{n s:Nat}{c:aK}(N:Now M L n s c)(hs:s<=1000):ql M [ob L.c]=.ok (pU c):=by have:=N.inv.hL;exact ah7 N.at_ N.inv.gr (by omega) (by omega)
theorem ahr(l:List Int)(lo hi:Option Int):Rf.cutD (l.map PyData.int) lo hi=(Rf.cutD l lo hi).map PyData.int:=by unfold Rf.cutD;rw[arU,List.map_take,List.map_drop]
theorem ahL{α:Type}(l:List α)(a b:Nat)(h:a<=b):(Rf.cutD l (some (a:Int)) (some (b:Int))).length<=b - a:=by unfold Rf.cutD;rw[HT.sIx_nat,HT.sIx_nat,List.length_take];omega
def o7(c:aK)(lo g:Int)(r:Rw):Prop:=(r.1,g,r.2)∈c.held∨∃(i:Nat) (b:dG),c.bs[i]?=some b/\b.sd.al=true/\b.sd.due=some r.2/\b.sd.o=r.1/\b.sd.g=g/\(i:Int)+1≠lo
theorem o7.all{c:aK}{lo g:Int}{r:Rw}(h:o7 c lo g r):o7 c 0 g r:=h.imp id λ⟨i,b,h1,h2,h3,h4,h5,_⟩=>⟨i,b,h1,h2,h3,h4,h5,by omega⟩
theorem af5{c:aK}{lo:Int}{near:List Int}{r:Rw}:r∈inR c near++ZD c lo near↔∃g∈near,o7 c lo g r:=by
 constructor
 ·intro h;rcases arR.mp h with h|h
  ·obtain⟨g,h1,h2⟩:=Ol h;exact⟨g,h2,.inl h1⟩
  ·obtain⟨i,b,h1,h2,h3,h4,h5,h6⟩:=JF h;exact⟨b.sd.g,h5,.inr ⟨i,b,h1,h4,h3,h2,rfl,h6⟩⟩
 ·rintro⟨g,hg,h|⟨i,b,h1,h2,h3,h4,h5,h6⟩⟩
  ·exact asv _ (arQ.mpr ⟨_,ar4.mpr ⟨h,by simpa using hg⟩,rfl⟩)
  ·refine asw _ (arQ.mpr ⟨(i,b),ar4.mpr ⟨?_,?_⟩,?_⟩)
   ·obtain⟨hi,e⟩:=arJ.mp h1;exact List.mem_mapIdx.mpr ⟨i,hi,by rw[e]⟩
   ·have h6':((i:Int)+1==lo)=false:=by simpa using h6
    subst h5;simp[h3,h2,hg,h6']
   ·simp[h3,h4]
theorem uf{c:aK}{lo x:Int}{r:Rw}:r∈bY c lo x↔∃g∈aH c x,o7 c lo g r:=af5
def NM(c:aK):Prop:=∀x,Vg c x->∀g∈aH c x,∀h∈aH c x,∀r s,o7 c 0 g r->o7 c 0 h s->r.1≠s.1->roomOf c x < fJ r.2 s.2
theorem NM.map{c c':aK}(N:NM c)(h1:c'.al=c.al)(h2:c'.ci=c.ci)(f:Int->Int)(h:∀g r,o7 c' 0 g r->∃o,o7 c 0 g (o,r.2)/\r.1=f o):NM c':=λx hx g hg k hk r s hr hs ne=>by
 have e1:aH c' x=aH c x:=by simp[aH,h2]
 have e0:lV c'=lV c:=by funext y;simp[lV,h1]
 have e2:roomOf c' x=roomOf c x:=by unfold roomOf;rw[e1,e0]
 have hx:Vg c x:=by unfold Vg at *;rw[←h1];exact hx
 rw[e1]at hg hk;obtain⟨o,a1,a2⟩:=h g r hr;obtain⟨p,b1,b2⟩:=h k s hs;rw[e2];exact N x hx g hg k hk (o,r.2) (p,s.2) a1 b1 λz=>ne (by rw[a2,b2];exact congrArg f z)
theorem NM.sub{c c':aK}(N:NM c)(h1:c'.al=c.al)(h2:c'.ci=c.ci)(h:∀g r,o7 c' 0 g r->o7 c 0 g r):NM c':=N.map h1 h2 id λg r hr=>⟨r.1,h g r hr,rfl⟩
theorem NM.add{c c':aK}(N:NM c)(i:dw c)(h1:c'.al=c.al)(h2:c'.ci=c.ci){lo g0 o:Int}{m:List Int}(hg0:Vg c g0)(h:∀g r,o7 c' 0 g r->o7 c lo g r∨(g=g0/\r=(o,m)))(hb:∀r∈bY c lo g0,r.1≠o->roomOf c g0 < fJ m r.2):NM c':=λx hx g hg k hk r s hr hs ne=>by
 have e1:aH c' x=aH c x:=by simp[aH,h2]
 have e0:lV c'=lV c:=by funext y;simp[lV,h1]
 have e2:roomOf c' x=roomOf c x:=by unfold roomOf;rw[e1,e0]
 have hx:Vg c x:=by unfold Vg at *;rw[←h1];exact hx
 rw[e1]at hg hk;rw[e2];have one:∀k,k∈aH c x->g0∈aH c x->∀s:Rw,o7 c lo k s->s.1≠o->roomOf c x < fJ m s.2:=λk hk hg0 s hs ne=>by
  have e:=i.eq hx hg0;have e3:roomOf c x=roomOf c g0:=by unfold roomOf;rw[e]
  rw[e3];exact hb s (uf.mpr ⟨k,by rw[e];exact hk,hs⟩) ne
 rcases h g r hr with a|⟨rfl,rfl⟩
 ·rcases h k s hs with b|⟨rfl,rfl⟩
  ·exact N x hx g hg k hk r s a.all b.all ne
  ·rw[R9];exact one g hg hk r a ne
 ·rcases h k s hs with b|⟨_,rfl⟩
  ·exact one k hk hg s b λz=>ne z.symm
  ·exact absurd rfl ne
theorem JB{o:Int}{e:List Int}{R:List Rw}{room:Int}(h:wL o e (bB R) room=[]):∀r∈R,r.1≠o->room < fJ e r.2:=λr hr ne=>by
 unfold wL at h;have:=List.filter_eq_nil_iff.mp h r (dN.mpr (dN.mpr hr));simp[ne]at this;exact this
theorem Jw{o room:Int}{e:List Int}{R:List Rw}{x:Res}{d:Dat}{c':aK}(h:wW o e R room x=.ok d c'):wL o e (bB R) room=[]:=by
 unfold wW at h;split at h
 ·assumption
 ·cases h
theorem ahP{l:List Int}{m:Int}(hne:l≠[])(h:∀a∈l,a<=m):acZ l<=m:=by
 cases l with
 |nil=>exact absurd rfl hne
 |cons n ns=>exact h _ (Ez ns n).1
theorem aho{l:List Int}{a:Int}(h:a∈l):a<=acZ l:=by
 cases l with
 |nil=>cases h
 |cons n ns=>exact(Ez ns n).2 a h
theorem ab2{c:aK}{x m:Int}(hx:x∈aH c x)(h:∀y∈aH c x,lV c y<=m):roomOf c x<=m:=ahP (λz=>by rw[List.map_eq_nil_iff.mp z]at hx;cases hx) λa ha=>by
 obtain⟨y,hy,rfl⟩:=arQ.mp ha;exact h y hy
theorem ag0{c:aK}{x y:Int}(hy:y∈aH c x):lV c y<=roomOf c x:=aho (arQ.mpr ⟨y,hy,rfl⟩)
theorem NM.finer{c c':aK}(N:NM c)(h1:c'.al=c.al)(hh:c'.held=c.held)(hbs:c'.bs=c.bs)(hs:∀x,Vg c x->x∈aH c' x/\∀y∈aH c' x,y∈aH c x):NM c':=λx hx g hg k hk r s hr hs' ne=>by
 have hx:Vg c x:=by unfold Vg at *;rw[←h1];exact hx
 obtain⟨a,b⟩:=hs x hx;have e:∀g r,o7 c' 0 g r->o7 c 0 g r:=λg r h=>by unfold o7 at *;rw[←hh,←hbs];exact h
 have:=N x hx g (b g hg) k (b k hk) r s (e g r hr) (e k s hs') ne;have:roomOf c' x<=roomOf c x:=ab2 a λy hy=>by
  have e2:lV c' y=lV c y:=by simp[lV,h1]
  rw[e2];exact ag0 (b y hy)
 omega
theorem Wz{T:List Rw}{room:Int}(h:jQ T room=[]):∀(i j:Nat) (r s:Rw),i < j->T[i]?=some r->T[j]?=some s->r.1≠s.1->room < fJ r.2 s.2:=λi j r s lt hr hs ne=>by
 unfold jQ at h;rw[List.flatMap_eq_nil_iff]at h;obtain⟨hi,e⟩:=arJ.mp hr;have h1:=h (i,r) (List.mem_mapIdx.mpr ⟨i,hi,by rw[e]⟩);have h2:=List.filter_eq_nil_iff.mp (List.map_eq_nil_iff.mp h1) s (arN (i:=j - (i+1)) (by rw[List.getElem?_drop,show i+1+(j - (i+1))=j by omega];exact hs));have ne':(r.1==s.1)=false:=by simpa using ne
 simp[ne']at h2;exact h2
theorem adk{T:List Rw}{room:Int}(h:jQ T room=[]){r s:Rw}(hr:r∈T)(hs:s∈T)(ne:r.1≠s.1):room < fJ r.2 s.2:=by
 obtain⟨i,hi⟩:=List.mem_iff_getElem?.mp hr;obtain⟨j,hj⟩:=List.mem_iff_getElem?.mp hs;rcases Nat.lt_trichotomy i j with lt|rfl|lt
 ·exact Wz h i j r s lt hi hj ne
 ·rw[hi]at hj;cases hj;exact absurd rfl ne
 ·rw[R9];exact Wz h j i s r lt hj hi λz=>ne z.symm
theorem Hq{c:aK}{i:Nat}{e:En}{b0:dG}(hb:c.bs[i]?=some b0){g:Int}{r:Rw}(h:o7 (fB c i e) 0 g r):o7 c ((i:Int)+1) g r∨((go b0.sd e).al=true/\(go b0.sd e).due=some r.2/\(go b0.sd e).o=r.1/\(go b0.sd e).g=g):=by
 rcases h with h|⟨j,b,h1,h2,h3,h4,h5,_⟩
 ·exact .inl (.inl h)
 ·rw[wC]at h1;split at h1
  ·next z=>
   subst z;rw[hb]at h1;cases h1;exact .inr ⟨h2,h3,h4,h5⟩
  ·next z=>exact .inl (.inr ⟨j,b,h1,h2,h3,h4,h5,by omega⟩)
theorem RN{c:aK}{k o g':Int}{lo g:Int}{r:Rw}(h:o7 (wZ c k o g') lo g r):o7 c lo g r:=by
 rcases h with h|⟨j,b,h1,h2,h3,h4,h5,h6⟩
 ·exact .inl h
 ·have h1:(c.bs.map λx=>if uX k x&&x.sd.al then mW x (.followed o g') else x)[j]?=some b:=h1;rw[arT]at h1;obtain⟨x,hx,rfl⟩:=aso.mp h1;cases q:(uX k x&&x.sd.al) with
  |true=>
   rw[q]at h3;have h3:x.sd.due=some r.2:=h3;simp[uX,h3]at q
  |false=>
   rw[q]at h2 h3 h4 h5;exact .inr ⟨j,x,hx,h2,h3,h4,h5,h6⟩
theorem aht{n s:Nat}{c c':aK}{d:bJ}{r:Dat}(I:Inv n s c)(hn:n<=199)(N:NM c)(h:cP c d=.ok r c'):NM c':=by
 have A0:=I.al;have gv:∀{g:Int} {r:Rw} {lo:Int},o7 c lo g r->Vg c g:=λh=>by
  rcases h with h|⟨j,b,h1,h2,_,_,h5,_⟩
  ·exact(I.hE _ h).2.1
  ·rw[←h5];exact(I.alive (arN h1) h2).2.1
 have nobs:∀{f:Fi},(beg f).due=none->∀g (r:Rw),o7 { c with bs:=c.bs++[zm f] } 0 g r->o7 c 0 g r:=λhf g r h=>by
  rcases h with h|⟨j,b,h1,h2,h3,h4,h5,h6⟩
  ·exact .inl h
  ·by_cases hj:j < c.bs.length
   ·rw[arS hj]at h1;exact .inr ⟨j,b,h1,h2,h3,h4,h5,h6⟩
   ·rw[ar0 (by omega)]at h1;cases hz:j - c.bs.length with
    |zero=>
     rw[hz]at h1;cases h1;have h3:(beg _).due=some r.2:=h3;rw[hf]at h3;cases h3
    |succ q=>
     rw[hz]at h1;simp at h1
 cases d with
 |owner=>
  cases h;exact N.sub rfl rfl λ_ _ h=>h
 |ground x=>
  obtain⟨hx,h⟩:=uY h;cases h;have hl:=I.gr.len;have e1:∀y,Vg c y->aH { c with al:=c.al++[x],ci:=c.ci++[[(c.al.length:Int)+1]] } y=aH c y:=λy hy=>by
   obtain⟨k,hk,rfl⟩:=rG hy;simp[aH,arS (show k < c.ci.length by omega)]
  have e2:∀y,Vg c y->lV { c with al:=c.al++[x],ci:=c.ci++[[(c.al.length:Int)+1]] } y=lV c y:=λy hy=>by
   obtain⟨k,hk,rfl⟩:=rG hy;simp[lV,arS hk]
  intro y hy g hg k hk r s hr hs ne;have hy:1<=y/\y<=((c.al++[x]).length:Int):=hy;simp at hy;by_cases hv:Vg c y
  ·rw[e1 y hv]at hg hk;have:roomOf { c with al:=c.al++[x],ci:=c.ci++[[(c.al.length:Int)+1]] } y=roomOf c y:=by
    unfold roomOf;rw[e1 y hv];congr 1;exact List.map_congr_left λz hz=>e2 z (I.gr.mem _ _ (I.gr.at hv) z hz)
   rw[this];exact N y hv g hg k hk r s hr hs ne
  ·have ey:y=(c.al.length:Int)+1:=by unfold Vg at hv;omega
   subst ey;have:aH { c with al:=c.al++[x],ci:=c.ci++[[(c.al.length:Int)+1]] } ((c.al.length:Int)+1)=[(c.al.length:Int)+1]:=by simp[aH,←hl]
   rw[this]at hg;rw[arO.mp hg]at hr;have hr:o7 c 0 ((c.al.length:Int)+1) r:=hr;exact absurd (gv hr) hv
 |enrol o g m=>
  obtain⟨h1,h⟩:=fP h;obtain⟨h2,h⟩:=gq h;obtain⟨h3,h⟩:=CN h;obtain⟨h4,h⟩:=eY h;obtain⟨h5,h⟩:=eY h;have hb:=JB (Jw h);have h:=oG h;cases h;refine N.add I.gr rfl rfl h2 (λk r hr=>?_) hb;rcases hr with hr|hr
  ·rcases arR.mp hr with hr|hr
   ·exact .inl (.inl hr)
   ·have:=arO.mp hr;obtain⟨r1,r2⟩:=r;cases this;exact .inr ⟨rfl,rfl⟩
  ·exact .inl (.inr hr)
 |leave o g=>
  obtain⟨h1,h⟩:=fP h;obtain⟨h2,h⟩:=gq h;obtain⟨h3,h⟩:=ig h;obtain⟨h4,h⟩:=eY h;cases h;exact N.sub rfl rfl λk r hr=>hr.imp (λz=>(ar4.mp z).1) id
 |bring o g e=>
  obtain⟨h1,h⟩:=fP h;obtain⟨h2,h⟩:=gq h;obtain⟨h3,h⟩:=CN h;obtain⟨h4,h⟩:=ig h;cases h;exact N.sub rfl rfl (nobs rfl)
 |bear k=>
  obtain⟨b0,e0,h1,h2,h3,h⟩:=qO h;cases h;exact N.sub rfl rfl (nobs rfl)
 |cut k=>
  obtain⟨b0,h1,h2,h⟩:=rR h;have hb:=JB (Jw h);have h:=oG h;cases h;obtain⟨q1,q2,q3⟩:=iH h1;refine N.add I.gr rfl rfl (I.alive (arN q1) h2).2.1 (λg r hr=>?_) hb;rcases Hq q1 hr with z|⟨_,z2,z3,z4⟩
  ·exact .inl z.all
  ·obtain⟨r1,r2⟩:=r;exact .inr ⟨z4.symm,Prod.ext z3.symm (arY z2).symm⟩
 |tear k p=>
  obtain⟨b0,h1,h2,h⟩:=rR h;obtain⟨h3,h⟩:=uY h;obtain⟨h4,h⟩:=eY h;cases h;obtain⟨q1,q2,q3⟩:=iH h1;refine N.sub rfl rfl λg r hr=>?_;rcases Hq q1 hr with z|⟨z1,z2,z3,z4⟩
  ·exact z.all
  ·exact .inr ⟨_,b0,q1,z1,z2,z3,z4,by omega⟩
 |sell k o=>
  obtain⟨b0,e0,h1,h2,h3,h⟩:=qO h;obtain⟨h4,h⟩:=fP h;obtain⟨h5,h⟩:=eY h;obtain⟨h6,h⟩:=ig h;have hb:=JB (Jw h);have h:=oG h;cases h;obtain⟨q1,q2,q3⟩:=iH h1;refine N.add I.gr rfl rfl (I.alive (arN q1) h2).2.1 (λg r hr=>?_) hb;rcases Hq q1 (RN hr) with z|⟨_,z2,z3,z4⟩
  ·rw[show(((k - 1).toNat:Nat):Int)+1=k by omega]at z;exact .inl z
  ·obtain⟨r1,r2⟩:=r;exact .inr ⟨z4.symm,Prod.ext z3.symm (arY z2).symm⟩
 |move k g=>
  obtain⟨b0,e0,h1,h2,h3,h⟩:=qO h;obtain⟨h4,h⟩:=gq h;obtain⟨h5,h⟩:=eY h;obtain⟨h6,h⟩:=ig h;have hb:=JB (Jw h);have h:=oG h;cases h;obtain⟨q1,q2,q3⟩:=iH h1;refine N.add I.gr rfl rfl h4 (λg' r hr=>?_) hb;rcases Hq q1 (RN hr) with z|⟨_,z2,z3,z4⟩
  ·exact .inl z.all
  ·obtain⟨r1,r2⟩:=r;have z2:b0.sd.due=some r2:=z2;rw[h3]at z2;exact .inr ⟨z4.symm,Prod.ext z3.symm (arY z2).symm⟩
 |die k=>
  obtain⟨b0,h1,h2,h⟩:=rR h;cases h;obtain⟨q1,q2,q3⟩:=iH h1;refine N.sub rfl rfl λg r hr=>?_;rcases Hq q1 hr with z|⟨z1,_⟩
  ·exact z.all
  ·cases z1
 |wg x y=>
  obtain⟨hy,h⟩:=gq h;obtain⟨hx,h⟩:=gq h;obtain⟨hn',h⟩:=eY h;split at h
  ·cases h
  next hcl=>
  cases h;have hm:∀z∈sortI (aH c x++aH c y),Vg c z:=λz hz=>by
   rcases arR.mp (Fo.mp hz) with hz|hz
   ·exact I.gr.mem _ _ (I.gr.at hx) z hz
   ·exact I.gr.mem _ _ (I.gr.at hy) z hz
  intro z hz g hg k hk r s hr hs ne;have hz:Vg c z:=hz;have ez:aH { c with ci:=encl c.ci (sortI (aH c x++aH c y)) } z=if z∈sortI (aH c x++aH c y) then sortI (aH c x++aH c y) else aH c z:=by
   obtain⟨j,hj,rfl⟩:=rG hz;have h1:=zj c.ci (sortI (aH c x++aH c y)) j (λy hy=>(hm y hy).1);have hj':j < c.ci.length:=by rw[I.gr.len];exact hj
   have e:aH { c with ci:=encl c.ci (sortI (aH c x++aH c y)) } ((j:Int)+1)=((encl c.ci (sortI (aH c x++aH c y)))[j]?).getD []:=by simp[aH]
   rw[e,h1];by_cases q:(j:Int)+1∈sortI (aH c x++aH c y)
   ·rw[if_pos ⟨q,hj'⟩,if_pos q];rfl
   ·rw[if_neg (λz=>q z.1),if_neg q];simp[aH]
  have hr:o7 c 0 g r:=hr;have hs:o7 c 0 k s:=hs;by_cases q:z∈sortI (aH c x++aH c y)
  ·rw[if_pos q]at ez;have hle:roomOf { c with ci:=encl c.ci (sortI (aH c x++aH c y)) } z<=qQ c x y:=ab2 (by rw[ez];exact q) λw hw=>by
    have e2:lV { c with ci:=encl c.ci (sortI (aH c x++aH c y)) } w=lV c w:=rfl;rw[ez]at hw;rw[e2];unfold qQ;rcases arR.mp (Fo.mp hw) with hw|hw<;>(have:=ag0 hw;split<;>omega)
   rw[ez]at hg hk;have mem:∀{g:Int} {r:Rw},g∈sortI (aH c x++aH c y)->o7 c 0 g r->r∈bB (Cq c x y):=λhg hr=>by
    rw[dN];unfold Cq;rcases arR.mp (Fo.mp hg) with hg|hg
    ·exact asv _ (dN.mpr (uf.mpr ⟨_,hg,hr⟩))
    ·exact asw _ (dN.mpr (uf.mpr ⟨_,hg,hr⟩))
   have:=adk hcl (mem hg hr) (mem hk hs) ne;omega
  ·rw[if_neg q]at ez;have:roomOf { c with ci:=encl c.ci (sortI (aH c x++aH c y)) } z=roomOf c z:=by
    unfold roomOf;rw[ez];rfl
   rw[this];rw[ez]at hg hk;exact N z hz g hg k hk r s hr hs ne
 |part x=>
  obtain⟨hx,h⟩:=gq h;obtain⟨h1,h⟩:=eY h;cases h;have hl:∀y∈lZ c x,y∈aH c x:=λy hy=>(ar4.mp hy).1;have hv:∀y∈lZ c x,1<=y:=λy hy=>(I.gr.mem _ _ (I.gr.at hx) y (hl y hy)).1;refine N.finer rfl rfl rfl λz hz=>?_;have hself:=I.gr.self hz;obtain⟨j,hj,rfl⟩:=rG hz;have hj':j < c.ci.length:=by rw[I.gr.len];exact hj
  have e:aH { c with ci:=encl (encl c.ci [x]) (lZ c x) } ((j:Int)+1)=((encl (encl c.ci [x]) (lZ c x))[j]?).getD []:=by simp[aH]
  have e1:(encl c.ci [x]).length=c.ci.length:=wJ [x] [x] c.ci;rw[e,zj _ _ j hv,zj c.ci [x] j (λy hy=>by rw[arO.mp hy];exact hx.1),e1];by_cases q:(j:Int)+1∈lZ c x
  ·rw[if_pos ⟨q,hj'⟩];refine⟨q,λy hy=>?_⟩;rw[I.gr.eq hx (hl _ q)];exact hl y hy
  ·rw[if_neg λz=>q z.1];by_cases q2:(j:Int)+1=x
   ·rw[if_pos ⟨by simp[q2],hj'⟩];refine⟨by simp[q2],λy hy=>?_⟩;have hy:y=x:=by simpa using hy
    rw[hy,←q2];exact hself
   ·rw[if_neg λz=>q2 (by simpa using z.1)];have:(c.ci[j]?).getD []=aH c ((j:Int)+1):=by simp[aH]
    rw[this];exact⟨hself,λy hy=>hy⟩
 |pass e h'=>
  obtain⟨h1,h⟩:=fP h;obtain⟨h2,h⟩:=fP h;obtain⟨h3,h⟩:=eY h;cases h;refine N.map rfl rfl (λo=>if o=e then h' else o) λg r hr=>?_;rcases hr with hr|⟨j,b,k1,k2,k3,k4,k5,_⟩
  ·have hr:(r.1,g,r.2)∈handed c e h':=hr;unfold handed at hr;rcases(JT _ _).mp hr with z|z
   ·cases z
   ·obtain⟨w,hw,hw2⟩:=arQ.mp z;obtain⟨w1,w2,w3⟩:=w;unfold Ac at hw2;simp only[Prod.mk.injEq]at hw2;obtain⟨z1,z2,z3⟩:=hw2;subst z2 z3;exact⟨w1,.inl hw,z1.symm⟩
  ·have k1:(c.bs.map λb=>if (b.sd.o==e)&&b.sd.al then mW b (.passed h') else b)[j]?=some b:=k1;rw[arT]at k1;obtain⟨x,hx,rfl⟩:=aso.mp k1;cases q:((x.sd.o==e)&&x.sd.al) with
   |true=>
    rw[q]at k2 k3 k4 k5;have q':x.sd.o=e:=by rw[arH]at q;exact eq_of_beq q.1
    have k4:h'=r.1:=k4;exact⟨x.sd.o,.inr ⟨j,x,hx,k2,k3,rfl,k5,by omega⟩,by rw[if_pos q',k4]⟩
   |false=>
    rw[q]at k2 k3 k4 k5;have k2:x.sd.al=true:=k2;have q':¬x.sd.o=e:=λz=>by simp[z,k2]at q
    have k4:x.sd.o=r.1:=k4;exact⟨x.sd.o,.inr ⟨j,x,hx,k2,k3,rfl,k5,by omega⟩,by rw[if_neg q',k4]⟩
 |heir e g x=>
  obtain⟨h1,h⟩:=fP h;obtain⟨h2,h⟩:=gq h;obtain⟨h3,h⟩:=uY h;obtain⟨h4,h⟩:=ig h;split at h
  ·next mk hf=>
   cases h;have hfr:=List.find?_some hf;refine N.add I.gr rfl rfl (lo:=0) (o:=c.count+1) (m:=mk) h2 (λk r hr=>?_) λr hr _=>?_
   ·rcases hr with hr|hr
    ·rcases arR.mp hr with hr|hr
     ·exact .inl (.inl hr)
     ·have:=arO.mp hr;obtain⟨r1,r2⟩:=r;cases this;exact .inr ⟨rfl,rfl⟩
    ·exact .inl (.inr hr)
   ·unfold zW at hfr;rw[arX,List.any_eq_false]at hfr;have:=hfr r (dN.mpr hr);simpa using this
  ·cases h
theorem nmZ:NM V1:=λx hx=>by
 have h:1<=x/\x<=((0:Nat):Int):=hx;omega
theorem El.ok{n:Nat}{c:aK}(h:El n c):n<=200->Inv n n c/\NM c:=by
 induction h with
 |nil=>exact λ_=>⟨alh,nmZ⟩
 | @step n c d r hf ih=>
  intro hn;obtain⟨I,N⟩:=ih (by omega);refine⟨(Zx I d (by omega)).mono (ar9 _) (by have:=ab6 d;omega),?_⟩;unfold pN;cases e:cP c d with
  |ok _ c'=>exact aht I (by omega) N e
  |no _=>exact N
 |le _ h ih=>
  intro hn;obtain⟨I,N⟩:=ih (by omega);exact⟨I.mono h h,N⟩
@[simp]theorem aqv (c:aK):aW (pU c) (.int 0)=.ok (lI c.own):=rfl
@[simp]theorem apn (c:aK):aW (pU c) (.int 1)=.ok (.list ((List.range c.al.length).map (grD c))):=rfl
@[simp]theorem ap6 (c:aK):aW (pU c) (.int 2)=.ok (.list (c.held.map iZ)):=rfl
@[simp]theorem apA (c:aK):aW (pU c) (.int 3)=.ok (.list (c.bs.map jL)):=rfl
@[simp]theorem apy (b:dG):aW (jL b) (.int 0)=.ok (.int b.sd.o):=rfl
@[simp]theorem aq4 (b:dG):aW (jL b) (.int 1)=.ok (.int b.sd.g):=rfl
@[simp]theorem aqG (b:dG):aW (jL b) (.int 2)=.ok (qb b.sd.due):=rfl
@[simp]theorem ap9 (b:dG):aW (jL b) (.int 3)=.ok (aJ b.sd.ear):=rfl
@[simp]theorem aqy (b:dG):aW (jL b) (.int 4)=.ok (.bool b.sd.al):=rfl
@[simp]theorem apU (b:dG):aW (jL b) (.int 5)=.ok (.int b.mo):=rfl
@[simp]theorem apH (b:dG):aW (jL b) (.int 6)=.ok (.tuple (b.fi.dat::b.en.map En.dat)):=rfl
theorem agL{c:aK}{k:Int}{b:dG}(h:bk c k=some b):atI (c.bs.map jL) (k - 1)=some (jL b):=by
 obtain⟨h1,h2,h3⟩:=iH h;have e:k - 1=(((k - 1).toNat:Nat):Int):=by omega
 rw[e];exact atI_nat (by rw[arT,h1];rfl)
theorem agM{c:aK}{x:Int}(h:Vg c x):atI ((List.range c.al.length).map (grD c)) (x - 1)=some (.tuple [.int (lV c x),aJ (aH c x)]):=by obtain⟨k,hk,rfl⟩:=rG h;rw[show(k:Int)+1 - 1=(k:Int) by omega,afC];simp[hk,grD]
theorem acA(M:Mo)(c:aK)(i:dw c)(x:Int)(h:Vg c x):Bb M [pU c,.int x]=.ok (.int (roomOf c x)):=by
 have h1:=agM h;have hc:=i.at h;have hl:(aH c x).length<=50000:=by have:=i.clen hc;omega
 have hne:(aH c x).map (lV c)≠[]:=λz=>by
  have:=i.self h;rw[List.map_eq_nil_iff.mp z]at this;cases this
 have key:=fu (tg:=aG 2) (te:=aA aW (aA aW (aA aW (ao 0) (qC (.int 1))) (aA lU (ao 2) (qC (.int 1)))) (qC (.int 0))) (M:=M) (Z:=[some (.dat (pU c)),some (.dat (.int x)),none]) PyData.int (λy=>.int (lV c y)) (aH c x) λy hy=>⟨[some (.dat (pU c)),some (.dat (.int x)),some (.dat (.int y))],by simp,by
  have:=agM (i.mem _ _ hc y hy);simp[this]⟩
 have hm:=maxD_ints hne;rw[asi]at hm;simp[ar5]at hm;simp[Bb,Lk,h1,key,hl,hm,roomOf]
theorem WM:∀(l:List (Int×Int)),(l.map λp=>if p.2 - p.1 > 0 then p.2 - p.1 else 0).sum=((l.filter λp=>decide (p.1 < p.2)).map λp=>p.2 - p.1).sum
 |[]=>rfl
 |p::l=>by
  rw[arK,List.sum_cons,WM l,asf];by_cases h:p.1 < p.2
  ·rw[if_pos (by omega),if_pos (by simpa using h),arK,List.sum_cons]
  ·rw[if_neg (by omega),if_neg (by simpa using h)];omega
theorem Zm(M:Mo)(x y:List Int)(h:x.length<=1000):CQ M [aJ x,aJ y]=.ok (.int (bD x y)):=by
 have key:=fu (tg:=bx [2,3]) (te:=aA tD (qC (.int 0)) (aA lU (ao 3) (ao 2))) (M:=M) (Z:=[some (.dat (aJ x)),some (.dat (aJ y)),none,none]) pD (λp=>.int (if p.2 - p.1 > 0 then p.2 - p.1 else 0)) (x.zip y) λp _=>⟨[some (.dat (aJ x)),some (.dat (aJ y)),some (.dat (.int p.1)),some (.dat (.int p.2))],by simp[pD],by simp⟩;have hs:=Xd ((x.zip y).map λp=>if p.2 - p.1 > 0 then p.2 - p.1 else 0);rw[WM,asi]at hs;have hz2:min x.length y.length<=50000:=by omega
 simp[CQ,UL,uw,key,hz2];simp[ar5]at hs;simp[hs,bD]
def EvG(n:Int):En->Prop
 |.torn p=>p < 6
 |.cut e=>e.length=6
 |.sold _ e=>e.length=6
 |.moved g=>1<=g/\g<=n
 |.followed _ g=>1<=g/\g<=n
 |_=>True
def FiG(n:Int):Fi->Prop
 |.brought _ g e=>(1<=g/\g<=n)/\e.length=6
 |.born _ _ g=>1<=g/\g<=n
structure Ksd(P:Int->dG->Prop):Prop where
 mono:∀{n m:Int} {b:dG},P n b->n<=m->P m b
 new:∀{n:Int} {f:Fi},FiG n f->P n (zm f)
 mW:∀{n:Int} {b:dG} {e:En},P n b->EvG n e->P n (mW b e)
section
variable{P:Int->dG->Prop}(K:Ksd P)
include K
theorem Ksd.one{n:Int}{c:aK}{i:Nat}{e:En}(h:∀b∈c.bs,P n b)(he:EvG n e):∀b∈(fB c i e).bs,P n b:=λb hb=>by
 rcases QZ hb with z|⟨b0,z,rfl⟩
 ·exact h b z
 ·exact K.mW (h b0 (arN z)) he
theorem Ksd.many{n:Int}{c:aK}{p:dG->Bool}{e:En}(h:∀b∈c.bs,P n b)(he:EvG n e):∀b∈(oE p e c).bs,P n b:=λb hb=>by
 obtain⟨b0,h1,rfl⟩:=arQ.mp hb;split
 ·exact K.mW (h b0 h1) he
 ·exact h b0 h1
theorem Ksd.more{n:Int}{c:aK}{f:Fi}(h:∀b∈c.bs,P n b)(hf:FiG n f):∀b∈c.bs++[zm f],P n b:=λb hb=>by
 rcases arR.mp hb with z|z
 ·exact h b z
 ·rw[arO.mp z];exact K.new hf
theorem Ksd.step{n s:Nat}{c c':aK}{d:bJ}{r:Dat}(I:Inv n s c)(h:∀b∈c.bs,P c.al.length b)(e:cP c d=.ok r c'):∀b∈c'.bs,P c'.al.length b:=by
 cases d with
 |owner=>
  cases e;exact h
 |ground x=>
  obtain⟨_,e⟩:=uY e;cases e;exact λb hb=>K.mono (h b hb) (by simp;omega)
 |enrol o g m=>
  obtain⟨_,e⟩:=fP e;obtain⟨_,e⟩:=gq e;obtain⟨_,e⟩:=CN e;obtain⟨_,e⟩:=eY e;obtain⟨_,e⟩:=eY e;have e:=oG e;cases e;exact h
 |leave o g=>
  obtain⟨_,e⟩:=fP e;obtain⟨_,e⟩:=gq e;obtain⟨_,e⟩:=ig e;obtain⟨_,e⟩:=eY e;cases e;exact h
 |bring o g m=>
  obtain⟨_,e⟩:=fP e;obtain⟨hg,e⟩:=gq e;obtain⟨he,e⟩:=CN e;obtain⟨_,e⟩:=ig e;cases e;exact K.more h ⟨hg,cW he⟩
 |bear k=>
  obtain⟨b0,e0,h1,h2,h3,e⟩:=qO e;cases e;exact K.more h (I.alive (arN (iH h1).1) h2).2.1
 |cut k=>
  obtain⟨b0,h1,h2,e⟩:=rR e;have e:=oG e;cases e;have hm:=arN (iH h1).1;obtain⟨r,q4,q5⟩:=I.mk1 (I.alive hm h2).1;exact K.one h (cW (qL (I.ear b0 hm) q5))
 |tear k p=>
  obtain⟨b0,h1,h2,e⟩:=rR e;obtain⟨hp,e⟩:=uY e;obtain⟨_,e⟩:=eY e;cases e;exact K.one h (show p.toNat < 6 by omega)
 |sell k o=>
  obtain⟨b0,e0,h1,h2,h3,e⟩:=qO e;obtain⟨_,e⟩:=fP e;obtain⟨_,e⟩:=eY e;obtain⟨h6,e⟩:=ig e;have e:=oG e;cases e;have hm:=arN (iH h1).1;obtain⟨r,q4,q5⟩:=I.mk1 h6;exact K.many (c:=fB c _ _) (K.one h (cW (qL (I.ear b0 hm) q5))) (I.alive (arN (iH h1).1) h2).2.1
 |move k g=>
  obtain⟨b0,e0,h1,h2,h3,e⟩:=qO e;obtain⟨hg,e⟩:=gq e;obtain⟨_,e⟩:=eY e;obtain⟨_,e⟩:=ig e;have e:=oG e;cases e;exact K.many (c:=fB c _ _) (K.one h hg) hg
 |die k=>
  obtain⟨b0,h1,h2,e⟩:=rR e;cases e;exact K.one h trivial
 |wg x y=>
  obtain⟨_,e⟩:=gq e;obtain⟨_,e⟩:=gq e;obtain⟨_,e⟩:=eY e;split at e
  ·cases e
  ·cases e;exact h
 |part x=>
  obtain⟨_,e⟩:=gq e;obtain⟨_,e⟩:=eY e;cases e;exact h
 |pass x y=>
  obtain⟨_,e⟩:=fP e;obtain⟨_,e⟩:=fP e;obtain⟨_,e⟩:=eY e;cases e;exact K.many h trivial
 |heir x g m=>
  obtain⟨_,e⟩:=fP e;obtain⟨_,e⟩:=gq e;obtain⟨_,e⟩:=uY e;obtain⟨_,e⟩:=ig e;split at e
  ·cases e;exact h
  ·cases e
theorem El.all{n:Nat}{c:aK}(h:El n c):n<=200->∀b∈c.bs,P c.al.length b:=by
 induction h with
 |nil=>exact λ_ b hb=>nomatch hb
 | @step n c d r hf ih=>
  intro hn;have I:=(r.ok (by omega)).1;have ih:=ih (by omega);unfold pN;cases e:cP c d with
  |ok _ c'=>exact K.step I ih e
  |no _=>exact ih
 |le _ h ih=>exact λhn=>ih (by omega)
end
def dJ(x y:List Int):Bool:=(x.zip y).all λp=>decide (p.1<=p.2)
theorem M5(x:List Int):dJ x x=true:=by unfold dJ;rw[ar7];intro p hp;obtain⟨i,hi,e⟩:=List.mem_iff_getElem.mp hp;rw[List.getElem_zip]at e;rw[←e];simp
theorem Dk{x y:List Int}:dJ x y=true↔∀(i:Nat) (a b:Int),x[i]?=some a->y[i]?=some b->a<=b:=by
 unfold dJ;rw[ar7];constructor
 ·intro h i a b ha hb;have:=h (a,b) (arN (i:=i) (by rw[asy];exact⟨ha,hb⟩));simpa using this
 ·intro h p hp;obtain⟨i,hi⟩:=List.mem_iff_getElem?.mp hp;rw[asy]at hi;simpa using h i _ _ hi.1 hi.2
theorem adE{x y:List Int}(h:dJ x y=true)(p:Nat):dJ x (uJ y p)=true:=Dk.mpr λi a b ha hb=>by
 unfold uJ at hb;rw[asC]at hb;obtain⟨z,hz,rfl⟩:=aso.mp hb;have:=Dk.mp h i a z ha hz
 split<;>omega
def Bg(n:Int)(b:dG):Prop:=(1<=b.sd.g/\b.sd.g<=n)/\∀d,b.sd.due=some d->dJ d b.sd.ear=true
theorem ajG:Ksd Bg where
 mono:=λh hn=>⟨⟨h.1.1,by have:=h.1.2;omega⟩,h.2⟩
 new:=λ{n f} h=>by
  cases f with
  |brought o g e=>exact⟨h.1,λd hd=>nomatch hd⟩
  |born m o g=>exact⟨h,λd hd=>nomatch hd⟩
 mW:=λ{n b e} h he=>by
  cases e with
  |torn p=>exact⟨h.1,λd hd=>adE (h.2 d hd) p⟩
  |cut j=>
   refine⟨h.1,λd hd=>?_⟩;cases hd;exact M5 j
  |sold o j=>
   refine⟨h.1,λd hd=>?_⟩;cases hd;exact M5 j
  |moved g=>exact⟨he,h.2⟩
  |followed o g=>exact⟨he,h.2⟩
  |passed o=>exact h
  |died=>exact h
def mZ(e:List Int)(R:List Rw)(room:Int):List Int:=Ad ((R.filter λr=>dJ r.2 e&&decide (bD r.2 e<=room)).map (·.1))
theorem aei(M:Mo)(x y:List Int)(h:x.length<=1000):zq M [aJ x,aJ y]=.ok (.bool (dJ x y)):=by
 have key:=fu (tg:=bx [2,3]) (te:=aA qp (ao 2) (ao 3)) (M:=M) (Z:=[some (.dat (aJ x)),some (.dat (aJ y)),none,none]) pD (λp=>.bool (decide (p.1<=p.2))) (x.zip y) λp _=>⟨[some (.dat (aJ x)),some (.dat (aJ y)),some (.dat (.int p.1)),some (.dat (.int p.2))],by simp[pD],by simp⟩;have hz2:min x.length y.length<=50000:=by omega
 have hb:Jr (.list ((x.zip y).map λp=>PyData.bool (decide (p.1<=p.2))))=.ok (.bool (dJ x y)):=by
  have:=Ao ((x.zip y).map λp=>decide (p.1<=p.2));rw[asi]at this
  show(match qY ((x.zip y).map λp=>PyData.bool (decide (p.1<=p.2))) with
   |some bs=>Out.ok (PyData.bool (bs.all id))
   |none=>.bad)=_
  have this:qY ((x.zip y).map λp=>PyData.bool (decide (p.1<=p.2)))=_:=this;rw[this];simp[dJ,List.all_map,ar5]
 simp[zq,Px,uw,key,hz2,hb]
theorem Y5(M:Mo)(e:List Int)(R:List Rw)(room:Int)(he:e.length<=1000)(hR:qU R)(hl:R.length<=1000):vN M [aJ e,.list (R.map Ear.rD),.int room]=.ok (aJ (mZ e R room)):=by
 have key:=fW (tg:=bx [3,4]) (tt:=jx (gY (aU zq (ak (aq 4) (ak (aq 0) au)))) (bh (aA qp (aU jg (ak (aq 4) (ak (aq 0) au))) (ao 2)))) (te:=aq 3) (M:=M) (Z:=[some (.dat (aJ e)),some (.dat (.list (R.map Ear.rD))),some (.dat (.int room)),none,none]) Ear.rD (λr=>dJ r.2 e&&decide (bD r.2 e<=room)) (λr=>.int r.1) R λr hr=>by
  have h1:=aei M r.2 e (by rw[hR r hr];decide);have h2:=yZ M r.2 e (by rw[hR r hr];decide);have hd:(bx [3,4]) (Ear.rD r) [some (.dat (aJ e)),some (.dat (.list (R.map Ear.rD))),some (.dat (.int room)),none,none]=some [some (.dat (aJ e)),some (.dat (.list (R.map Ear.rD))),some (.dat (.int room)),some (.dat (.int r.1)),some (.dat (aJ r.2))]:=rfl;refine⟨_,hd,?_,λ_=>by simp⟩;cases hq:dJ r.2 e with
  |true=>
   rw[hq]at h1;simp[h1,h2]
  |false=>
   rw[hq]at h1;simp[h1]
 have hi:intsOf ((R.filter λr=>dJ r.2 e&&decide (bD r.2 e<=room)).map λr=>PyData.int r.1)=some ((R.filter λr=>dJ r.2 e&&decide (bD r.2 e<=room)).map (·.1)):=by have:=mF ((R.filter λr=>dJ r.2 e&&decide (bD r.2 e<=room)).map (·.1));rw[asi]at this;exact this
 have hl2:(R.filter λr=>dJ r.2 e&&decide (bD r.2 e<=room)).length<=4000:=ar8 (ar3 _ _) (by omega);have hl3:R.length<=50000:=by omega
 simp[vN,Gn,key,hi,hl2,hl3,mZ]
theorem JR:∀(r s e:List Int),r.length=s.length->s.length=e.length->dJ s e=true->bD r s<=bD r e
 |[],[],[],_,_,_=>by simp[bD]
 |a::r,b::s,c::e,h1,h2,h3=>by
  have hb:b<=c/\dJ s e=true:=by unfold dJ at h3 ⊢;rw[ash,asx,arH]at h3;exact⟨by simpa using h3.1,h3.2⟩
  have ih:=JR r s e (by simpa using h1) (by simpa using h2) hb.2;unfold bD at ih ⊢;rw[ash,ash,asf,asf];by_cases q1:a < b
  ·have q2:a < c:=by omega
   simp only[q1,q2,decide_true,if_true,arK,List.sum_cons];omega
  ·by_cases q2:a < c
   ·simp only[q1,q2,decide_true,decide_false,if_true,arK,List.sum_cons,ar6,if_false];omega
   ·simp only[q1,q2,decide_false,ar6,if_false];exact ih
theorem afB{r s e:List Int}{room:Int}(hr:r.length=6)(hs:s.length=6)(he:e.length=6)(d1:dJ r e=true)(d2:dJ s e=true)(l1:bD r e<=room)(l2:bD s e<=room):fJ r s<=room:=by
 have a:=JR r s e (by omega) (by omega) d2;have b:=JR s r e (by omega) (by omega) d1;unfold fJ
 split<;>omega
theorem Cy{e:List Int}{R:List Rw}{room o:Int}:o∈mZ e R room↔∃m,(o,m)∈R/\dJ m e=true/\bD m e<=room:=by
 unfold mZ;rw[Xn,arQ];constructor
 ·rintro⟨r,h,rfl⟩;obtain⟨h1,h2⟩:=ar4.mp h;simp only[arH,ate]at h2;exact⟨r.2,h1,h2⟩
 ·rintro⟨m,h1,h2,h3⟩;exact⟨(o,m),ar4.mpr ⟨h1,by simp[h2,h3]⟩,rfl⟩
theorem acT{n s:Nat}{c:aK}(I:Inv n s c)(N:NM c){x:Int}(hx:Vg c x){e:List Int}(he:e.length=6):∀o∈mZ e (bB (bY c 0 x)) (roomOf c x),∀p∈mZ e (bB (bY c 0 x)) (roomOf c x),o=p:=λo ho p hp=>by
 obtain⟨m,m1,m2,m3⟩:=Cy.mp ho;obtain⟨k,k1,k2,k3⟩:=Cy.mp hp;have m1:=dN.mp m1;have k1:=dN.mp k1;by_cases q:o=p
 ·exact q
 ·exfalso;obtain⟨g,hg,a⟩:=uf.mp m1;obtain⟨h,hh,b⟩:=uf.mp k1;have h1:=N x hx g hg h hh (o,m) (p,k) a b q;have h2:=afB (I.Bt _ m1) (I.Bt _ k1) he m2 k2 m3 k3;simp only at h1 h2;omega
theorem Tj:∀{l:List Int},l.Pairwise (· < ·)->(∀a∈l,∀b∈l,a=b)->l=[]∨∃a,l=[a]
 |[],_,_=>.inl rfl
 |[a],_,_=>.inr ⟨a,rfl⟩
 |a::b::l,h,e=>by
  have h1:=(List.pairwise_cons.mp h).1 b arM;have h2:=e a arM b (arL _ arM);omega
theorem acB{n s:Nat}{c:aK}(I:Inv n s c)(N:NM c){x:Int}(hx:Vg c x){e:List Int}(he:e.length=6):mZ e (bB (bY c 0 x)) (roomOf c x)=[]∨∃o,mZ e (bB (bY c 0 x)) (roomOf c x)=[o]:=Tj (ZM _) (acT I N hx he)
theorem V6{n s:Nat}{c:aK}(I:Inv n s c)(N:NM c){x:Int}(hx:Vg c x){e:List Int}(he:e.length=6){o:Int}(ho:o∈mZ e (bB (bY c 0 x)) (roomOf c x)):mZ e (bB (bY c 0 x)) (roomOf c x)=[o]:=by
 rcases acB I N hx he with z|⟨p,z⟩
 ·rw[z]at ho;cases ho
 ·rw[z]at ho ⊢;rw[arO.mp ho]
theorem ahz{c c':aK}{d:bJ}{r:Dat}(e:cP c d=.ok r c')(h:∀a∈c.al,0<=a):∀a∈c'.al,0<=a:=by
 cases d<;>simp only[cP,sG,wX,JC,nu,wW,wA,markB]at e<;>(repeat' split at e)<;>cases e<;>first | exact h | skip
 rename_i hx;intro a ha;rcases arR.mp ha with z|z
 ·exact h a z
 ·rw[arO.mp z];exact hx.1
theorem El.al{n:Nat}{c:aK}(h:El n c):∀a∈c.al,0<=a:=by
 induction h with
 |nil=>exact λ_ b=>nomatch b
 | @step n c d r hf ih=>
  unfold pN;cases e:cP c d with
  |ok _ c'=>exact ahz e ih
  |no _=>exact ih
 |le _ h ih=>exact ih
theorem aau{M:Mo}{L:Lay}{n s:Nat}{c:aK}(a:At M L c)(I:Inv n s c)(hs:s<=76)(x:Int)(hx:Vg c x)(e:List Int)(he:cO e=true):tG M [ob L.c,.int x,aJ e]=.ok (aJ (mZ e (bB (bY c 0 x)) (roomOf c x))):=by
 have f0:=I.hL;have hc:=a.hc;obtain⟨n1,m1,hg⟩:=a.hg;have hel:=cW he;have h1:=uV a x;rw[if_pos hx]at h1;have h2:=Gj M e (by omega);rw[if_pos he]at h2;have h3:=rW a I.gr (by omega) (by omega) x (by rw[gQ a];exact ar8 (I.few λr hr=>jO hr) hs);rw[if_pos hx,gQ a]at h3;have h4:=tO a I.gr x;rw[if_pos hx]at h4;have hlT:(bB (bY c 0 x)).length<=1000:=by rw[oO];exact ar8 (I.few λr hr=>jO hr) (by omega)
 have h5:=Y5 M e (bB (bY c 0 x)) (roomOf c x) (by omega) (uh I.Bt) hlT;simp[tG,xR,hc,aP,hg,dH,aF,h1,h2,bG,h3,bQ,h4,h5]
theorem ac4(x:List Int):bD x x=0:=by
 induction x with
 |nil=>rfl
 |cons a x ih=>
  unfold bD at ih ⊢;rw[ash,asf];simp[ih]
theorem Xm:∀(x y:List Int) (i:Nat) (v:Int),y[i]?=some v->bD x (y.set i (v+1))<=bD x y+1
 |[],_,_,_,_=>by simp[bD]
 |_::_,[],_,_,h=>by simp at h
 |a::x,b::y,0,v,h=>by
  cases h;unfold bD;rw[List.set_cons_zero,ash,ash,asf,asf];by_cases q1:a < b
  ·have q2:a < b+1:=by omega
   simp only[q1,q2,decide_true,if_true,arK,List.sum_cons];omega
  ·by_cases q2:a < b+1
   ·simp only[q1,q2,decide_true,decide_false,if_true,arK,List.sum_cons,ar6,if_false];omega
   ·simp only[q1,q2,decide_false,ar6,if_false];omega
 |a::x,b::y,i+1,v,h=>by
  have ih:=Xm x y i v (by simpa using h);unfold bD at ih ⊢;rw[List.set_cons_succ,ash,ash,asf,asf];by_cases q1:a < b
  ·simp only[q1,decide_true,if_true,arK,List.sum_cons];omega
  ·simp only[q1,decide_false,ar6,if_false];exact ih
theorem af3{x y:List Int}(h:dJ x y=true)(i:Nat)(v:Int)(hv:y[i]?=some v):dJ x (y.set i (v+1))=true:=Dk.mpr λj a b ha hb=>by
 rw[asM]at hb;split at hb
 ·next q=>
  subst q;split at hb
  ·cases hb;have:=Dk.mp h i a v ha hv;omega
  ·cases hb
 ·exact Dk.mp h j a b ha hb
theorem FJ(M:Mo)(base:List Int)(x0 x1:Option Cell)(cap:Int):∀(fs:List Int) (e:List Int) (m:Int) (x4:Option Cell),(∀f∈fs,0<=f/\f < 10)->cO e=true->dJ base e=true->0<=m->bD base e+m<=cap->∃e' y2 y4,fY (aG 4) mX (fs.map PyData.int) M [x0,x1,some (.dat (.int m)),some (.mut (e.map PyData.int)),x4]=.next [x0,x1,y2,some (.mut (e'.map PyData.int)),y4] M/\cO e'=true/\dJ base e'=true/\bD base e'<=cap
 |[],e,m,x4,_,h1,h2,h3,h4=>⟨e,_,x4,rfl,h1,h2,by omega⟩
 |f::fs,e,m,x4,hf,h1,h2,h3,h4=>by
  have hl:=cW h1;have hf0:=hf f arM;obtain⟨i,hi,hi6⟩:∃i:Nat,f % 6=i/\i < 6:=⟨(f % 6).toNat,by omega,by omega⟩;have hv:e[i]?=some (e.getD i 0):=by rw[List.getD_eq_getElem?_getD,arI (by omega)];rfl
  have hat:atI (e.map PyData.int) (i:Int)=some (.int (e.getD i 0)):=Qe e i (by omega);generalize hvv:e.getD i 0=v at *;by_cases q1:m > 0
  ·by_cases q2:v < 9
   ·have hd:∀d∈e,0<=d/\d<=9:=by
     unfold cO at h1;simp only[arH,ate,ar7]at h1;intro d hd;have:=h1.2 d hd;omega
    have h1':cO (e.set i (v+1))=true:=Uh (by simp[hl]) λd hd'=>by
     rcases List.mem_or_eq_of_mem_set hd' with z|z
     ·have:=hd d z;omega
     ·have:=hd v (arN hv);omega
    obtain⟨e',y2,y4,k1,k2,k3,k4⟩:=FJ M base x0 x1 cap fs (e.set i (v+1)) (m - 1) (some (.dat (.int f))) (λg hg=>hf g (arL _ hg)) h1' (af3 h2 i v hv) (by omega) (by have:=Xm base e i v hv;omega);refine⟨e',y2,y4,?_,k2,k3,k4⟩;have hix:ixN e.length (i:Int)=some i:=by unfold ixN;simp;omega
    have hm:e.map PyData.int=e.map PyData.int:=rfl;have hb:mX M [x0,x1,some (.dat (.int m)),some (.mut (e.map PyData.int)),some (.dat (.int f))]=.next [x0,x1,some (.dat (.int (m - 1))),some (.mut ((e.set i (v+1)).map PyData.int)),some (.dat (.int f))] M:=by
     have hs:(e.set i (v+1)).map PyData.int=(e.map PyData.int).set i (.int (v+1)):=by rw[List.map_set]
     rw[hs];have hlm:(e.map PyData.int).length=e.length:=by simp
     generalize e.map PyData.int=E at *;simp[mX,q1,hi,hat,q2,hlm,hix]
    rw[arK,fV (Z1:=[x0,x1,some (.dat (.int m)),some (.mut (e.map PyData.int)),some (.dat (.int f))]) (by simp) hb];exact k1
   ·obtain⟨e',y2,y4,k1,k2,k3,k4⟩:=FJ M base x0 x1 cap fs e m (some (.dat (.int f))) (λg hg=>hf g (arL _ hg)) h1 h2 h3 h4;refine⟨e',y2,y4,?_,k2,k3,k4⟩;have hb:mX M [x0,x1,some (.dat (.int m)),some (.mut (e.map PyData.int)),some (.dat (.int f))]=.next [x0,x1,some (.dat (.int m)),some (.mut (e.map PyData.int)),some (.dat (.int f))] M:=by
     generalize e.map PyData.int=E at *;simp[mX,q1,hi,hat,q2]
    rw[arK,fV (Z1:=[x0,x1,some (.dat (.int m)),some (.mut (e.map PyData.int)),some (.dat (.int f))]) (by simp) hb];exact k1
  ·obtain⟨e',y2,y4,k1,k2,k3,k4⟩:=FJ M base x0 x1 cap fs e m (some (.dat (.int f))) (λg hg=>hf g (arL _ hg)) h1 h2 h3 h4;refine⟨e',y2,y4,?_,k2,k3,k4⟩;have hb:mX M [x0,x1,some (.dat (.int m)),some (.mut (e.map PyData.int)),some (.dat (.int f))]=.next [x0,x1,some (.dat (.int m)),some (.mut (e.map PyData.int)),some (.dat (.int f))] M:=by
    generalize e.map PyData.int=E at *;simp[mX,q1]
   rw[arK,fV (Z1:=[x0,x1,some (.dat (.int m)),some (.mut (e.map PyData.int)),some (.dat (.int f))]) (by simp) hb];exact k1
theorem acH(M:Mo)(base fs:List Int)(m:Int)(h1:cO base=true)(hf:∀f∈fs,0<=f/\f < 10)(hm:0<=m):∃e,Bc M [aJ base,lI fs,.int m]=.ok (aJ e)/\cO e=true/\dJ base e=true/\bD base e<=m:=by obtain⟨e,y2,y4,k1,k2,k3,k4⟩:=FJ M base (some (.dat (aJ base))) (some (.dat (lI fs))) m fs base m none hf h1 (M5 base) hm (by rw[ac4];omega);have hl:=cW h1;exact⟨e,by simp[Bc,Nh,k1,Od],k2,k3,k4⟩
theorem T9(M:Mo)(x0 x1:Option Cell):∀(ps:List (Int×Int)) (x2 x3:Option Cell),∃Z,fY (bx [2,3]) wY (ps.map pD) M [x0,x1,x2,x3]=if (ps.all λp=>decide (p.1<=p.2))=true then .next Z M else .ret (.bool false) M
 |[],x2,x3=>⟨[x0,x1,x2,x3],by simp[fY]⟩
 |p::ps,x2,x3=>by
  by_cases q:p.1<=p.2
  ·have q2:¬p.1 > p.2:=by omega
   obtain⟨Z,h⟩:=T9 M x0 x1 ps (some (.dat (.int p.1))) (some (.dat (.int p.2)));refine⟨Z,?_⟩;have hb:wY M [x0,x1,some (.dat (.int p.1)),some (.dat (.int p.2))]=.next [x0,x1,some (.dat (.int p.1)),some (.dat (.int p.2))] M:=by simp[wY,q2]
   rw[arK,fV (Z1:=[x0,x1,some (.dat (.int p.1)),some (.dat (.int p.2))]) (by simp[pD]) hb,h,asx,decide_eq_true q,Bool.true_and]
  ·have q2:p.1 > p.2:=by omega
   refine⟨[],?_⟩;have hb:wY M [x0,x1,some (.dat (.int p.1)),some (.dat (.int p.2))]=.ret (.bool false) M:=by simp[wY,q2]
   have hp:(bx [2,3]) (pD p) [x0,x1,x2,x3]=some [x0,x1,some (.dat (.int p.1)),some (.dat (.int p.2))]:=by simp[pD]
   simp[fY,hp,hb,q]
theorem agn(M:Mo)(x y:List Int)(h:x.length<=1000):CV M [aJ x,aJ y]=.ok (.bool (dJ x y)):=by
 obtain⟨Z,h1⟩:=T9 M (some (.dat (aJ x))) (some (.dat (aJ y))) (x.zip y) none none;have h2:dJ x y=(x.zip y).all λp=>decide (p.1<=p.2):=rfl;rw[←h2]at h1;cases q:dJ x y with
 |true=>
  rw[q,if_pos rfl]at h1;simp[CV,NZ,uw,h1]
 |false=>
  rw[q,if_neg (by decide)]at h1;simp[CV,NZ,uw,h1]
abbrev Wy:=Ear.Wy
abbrev wD(w:Wy):Dat:=Ear.wD w
def yr(o:Int)(e:List Int)(R:List Rw)(room:Int):List Wy:=(R.filter λr=>!(r.1==o)&&decide (bD r.2 e<=room)).map λr=>(bD e r.2,r.1,cZ e r.2)
def VP:Wy->List Wy->Wy
 |w,[]=>w
 |w,v::vs=>VP (if Ear.wk v < Ear.wk w then v else w) vs
def M4:List Wy->Option Wy
 |[]=>none
 |w::ws=>some (VP w ws)
def acI:Option Wy->Dat
 |none=>.none
 |some w=>wD w
theorem ZJ:∀(ws:List Wy) (w:Wy),VP w ws∈w::ws
 |[],w=>arO.mpr rfl
 |v::vs,w=>by
  rw[VP];have ih:=ZJ vs (if Ear.wk v < Ear.wk w then v else w);rcases arV.mp ih with e|m
  ·rw[e]
   split<;>simp
  ·exact arL _ (arL _ m)
theorem K8:∀(ws:List Wy) (w:Wy),PySem.W.minD (wD w) (ws.map wD)=wD (VP w ws)
 |[],w=>rfl
 |v::vs,w=>by
  have e:PySem.W.minD (wD w) ((v::vs).map wD)=PySem.W.minD (if PySem.W.dataLt (wD v) (wD w) then wD v else wD w) (vs.map wD):=rfl;rw[e,Ear.alx,VP];by_cases q:Ear.wk v < Ear.wk w
  ·rw[if_pos (decide_eq_true q),if_pos q];exact K8 vs v
  ·rw[decide_eq_false q,if_neg (by decide),if_neg q];exact K8 vs w
theorem ahY(n:Nat)(w:Wy):okd (n+2) (wD w)=true:=by have h:=Pu n w.2.2;show okd (n+2) (.tuple [.int w.1,.int w.2.1,.tuple (w.2.2.map PyData.int)])=true;simp[okd,lB,h]
theorem agx(ws:List Wy):Tq (.list (ws.map wD)) .none=.ok (acI (M4 ws)):=by
 cases ws with
 |nil=>rfl
 |cons w ws=>
  have h1:lB 12 ((w::ws).map wD)=true:=Df.mpr λd hd=>by
   obtain⟨v,_,rfl⟩:=arQ.mp hd;exact ahY 10 v
  have h2:Vs ((w::ws).map wD)=true:=by unfold Vs;rw[ar7];intro x hx;obtain⟨a,_,rfl⟩:=arQ.mp hx;rw[arH];refine⟨rfl,?_⟩;rw[ar7];intro y hy;obtain⟨b,_,rfl⟩:=arQ.mp hy;exact Ear.afn a b
  show Out.when (lB 12 ((w::ws).map wD)&&Vs ((w::ws).map wD)) (.ok (PySem.W.minD (wD w) (ws.map wD)))=_;rw[h1,h2,K8];rfl
theorem acR(M:Mo)(o:Int)(e:List Int)(R:List Rw)(room:Int)(he:e.length<=1000)(hR:qU R)(hl:R.length<=1000):Bf M [.int o,aJ e,.list (R.map Ear.rD),.int room]=.ok (acI (M4 (yr o e R room))):=by
 have key:=fW (tg:=bx [5,6]) (tt:=jx (bh (aA yU (ao 5) (ao 0))) (bh (aA qp (aU jg (ak (aq 6) (ak (aq 1) au))) (ao 3)))) (te:=bO (ak (aU jg (ak (aq 1) (ak (aq 6) au))) (ak (aq 5) (ak (aU lK (ak (aq 1) (ak (aq 6) au))) au)))) (M:=M) (Z:=[some (.dat (.int o)),some (.dat (aJ e)),some (.dat (.list (R.map Ear.rD))),some (.dat (.int room)),none,none,none]) Ear.rD (λr=>!(r.1==o)&&decide (bD r.2 e<=room)) (λr=>wD (bD e r.2,r.1,cZ e r.2)) R λr hr=>by
  have h1:=yZ M r.2 e (by rw[hR r hr];decide);have h2:=yZ M e r.2 he;have h3:=Dr M e r.2 he;refine⟨[some (.dat (.int o)),some (.dat (aJ e)),some (.dat (.list (R.map Ear.rD))),some (.dat (.int room)),none,some (.dat (.int r.1)),some (.dat (aJ r.2))],rfl,?_,λ_=>?_⟩
  ·by_cases hz:r.1=o<;>simp[h1,hz]
  ·simp[h2,h3,wD,Ear.wD,Ear.dT]
 have hk:((R.filter λr=>!(r.1==o)&&decide (bD r.2 e<=room)).map λr=>wD (bD e r.2,r.1,cZ e r.2))=(yr o e R room).map wD:=by unfold yr;rw[asi];rfl
 rw[hk]at key;have hm:=agx (yr o e R room);have hl2:R.length<=50000:=by omega
 generalize (yr o e R room).map wD=T at *;simp[Bf,Mz,key,hl2,hm]
theorem af7{M:Mo}{L:Lay}{n s:Nat}{c:aK}(a:At M L c)(I:Inv n s c)(hs:s<=76){k:Int}{b:dG}(hb:bk c k=some b)(h1:b.sd.al=true){d:List Int}(h2:b.sd.due=some d):lM M [ob L.c,.int k]=.ok (acI (M4 (yr b.sd.o b.sd.ear (bB (bY c 0 b.sd.g)) (roomOf c b.sd.g)))):=by
 have f0:=I.hL;have hc:=a.hc;obtain⟨nh,hh⟩:=a.hh;obtain⟨hb1,hb2,hb3⟩:=iH hb;have v:Vg c b.sd.g:=(I.alive (arN hb1) h1).2.1;have g1:=Ek a (by omega) k;rw[hb]at g1;simp only[h1,h2]at g1;obtain⟨_,_,_,_,nb',hM⟩:=qF a hb;have h3:=rW a I.gr (by omega) (by omega) b.sd.g (by rw[gQ a];exact ar8 (I.few λr hr=>jO hr) hs);rw[if_pos v,gQ a]at h3;have h4:=tO a I.gr b.sd.g;rw[if_pos v]at h4;have hel:=cW (I.ear _ (arN hb1));have hlT:(bB (bY c 0 b.sd.g)).length<=1000:=by rw[oO];exact ar8 (I.few λr hr=>jO hr) (by omega)
 have h5:=acR M b.sd.o b.sd.ear (bB (bY c 0 b.sd.g)) (roomOf c b.sd.g) (by omega) (uh I.Bt) hlT;generalize acI (M4 (yr b.sd.o b.sd.ear (bB (bY c 0 b.sd.g)) (roomOf c b.sd.g)))=W at *;simp[lM,yj,hc,aP,hh,dO,aZ,g1,hM,bG,h3,bQ,h4,h5]
theorem qM(a b:Int)(x y:List Int):bD (a::x) (b::y)=(if a < b then b - a else 0)+bD x y:=by
 unfold bD;rw[ash,asf];by_cases q:a < b
 ·simp only[q,decide_true,if_true,arK,List.sum_cons]
 ·simp only[q,decide_false,ar6,if_false];omega
theorem Cm(a b:Int)(x y:List Int):cZ (a::x) (b::y)=(if b > a then b else a)::cZ x y:=rfl
theorem LR:∀(x y z:List Int),x.length=y.length->y.length=z.length->bD x z<=bD x y+bD y z
 |[],[],[],_,_=>by simp[bD]
 |a::x,b::y,c::z,h1,h2=>by
  have ih:=LR x y z (by simpa using h1) (by simpa using h2);rw[qM,qM,qM]
  split<;>split<;>split<;>omega
theorem Ph:∀(x y:List Int),bD x (cZ x y)=bD x y
 |[],_=>by simp[bD]
 |_::_,[]=>by simp[bD,cZ]
 |a::x,b::y=>by
  rw[Cm,qM,qM,Ph x y];by_cases q:b > a
  ·rw[if_pos q]
  ·rw[if_neg q,if_neg (by omega),if_neg (by omega)]
theorem Le:∀(x y:List Int),bD y (cZ x y)=bD y x
 |[],_=>by simp[bD,cZ]
 |_::_,[]=>by simp[bD]
 |a::x,b::y=>by
  rw[Cm,qM,qM,Le x y];by_cases q:b > a
  ·rw[if_pos q,if_neg (by omega),if_neg (by omega)]
  ·rw[if_neg q]
theorem Nk(a b:Int)(x y:List Int):dJ (a::x) (b::y)=(decide (a<=b)&&dJ x y):=rfl
theorem Rz:∀(x y:List Int),dJ x (cZ x y)=true
 |[],_=>rfl
 |_::_,[]=>rfl
 |a::x,b::y=>by
  rw[Cm,Nk,Rz x y,Bool.and_true,ate]
  split<;>omega
theorem O9:∀(x y:List Int),dJ y (cZ x y)=true
 |[],y=>by cases y<;>rfl
 |_::_,[]=>rfl
 |a::x,b::y=>by
  rw[Cm,Nk,O9 x y,Bool.and_true,ate]
  split<;>omega
theorem abD:∀(x y z:List Int),x.length=y.length->y.length=z.length->dJ x y=true->dJ y z=true->dJ x z=true
 |[],_,_,_,_,_,_=>rfl
 |a::x,b::y,c::z,h1,h2,h3,h4=>by
  rw[Nk,arH,ate]at *;exact⟨by omega,abD x y z (by simpa using h1) (by simpa using h2) h3.2 h4.2⟩
theorem aeY{n s:Nat}{c:aK}(I:Inv n s c){lo x:Int}{r:Rw}(h:r∈bY c lo x):cO r.2=true:=by
 rcases arR.mp h with h|h
 ·obtain⟨g,h1,_⟩:=Ol h;exact(I.hE _ h1).2.2
 ·obtain⟨i,b,h1,h2,h3,_⟩:=JF h;exact I.due b (arN h1) _ h3
theorem aiY{M:Mo}{L:Lay}{n s:Nat}{c:aK}(hL:L.c=0)(a:At M L c)(I:Inv n s c)(R:El n c)(N:NM c)(hs:s<=76)(fs:List Int)(hf:∀f∈fs,0<=f/\f < 10){i:Nat}{b:dG}(hi:c.bs[i]?=some b)(h1:b.sd.al=true){d:List Int}(h2:b.sd.due=some d)(hd:dJ d b.sd.ear=true):Dt M [ob 0,pU c,.int ((i:Int)+1),lI fs]=.ok (.bool true):=by
 have f0:=I.hL;have hc:=a.hc;have mb:=arN hi;have v:Vg c b.sd.g:=(I.alive mb h1).2.1;have hk:bk c ((i:Int)+1)=some b:=by have hl:=(arJ.mp hi).1;unfold bk;rw[if_pos ⟨by omega,by omega⟩,show((i:Int)+1 - 1).toNat=i by omega];exact hi
 have q1:=agL hk;have q2:=acA M c I.gr b.sd.g v;have j1:=I.due _ mb d h2;have j2:=I.ear _ mb;have l1:=cW j1;have l2:=cW j2;have q3:=Zm M d b.sd.ear (by omega);have hown:(b.sd.o,d)∈bY c 0 b.sd.g:=uf.mpr ⟨b.sd.g,I.gr.self v,.inr ⟨i,b,hi,h1,h2,rfl,rfl,by omega⟩⟩;by_cases p0:roomOf c b.sd.g - bD d b.sd.ear < 0
 ·simp[Dt,Lp,q1,hi,q2,h2,qb,q3,p0]
 obtain⟨t,h10,h11,h12,h13⟩:=acH M b.sd.ear fs (roomOf c b.sd.g - bD d b.sd.ear) j2 hf (by omega);have h14:=aau a I hs b.sd.g v t h11;have l3:=cW h11;have ho:b.sd.o∈mZ t (bB (bY c 0 b.sd.g)) (roomOf c b.sd.g):=Cy.mpr ⟨d,dN.mpr hown,abD d b.sd.ear t (by omega) (by omega) hd h12,by have:=LR d b.sd.ear t (by omega) (by omega);omega⟩;rw[V6 I N v l3 ho,hL]at h14;have k3:∀o:Int,pG 10 M [aJ [o],.tuple [.int o]]=.ok (.bool true):=λo=>ahZ M 9 _ (by simp[lk,Xl]);have h15:=af7 a I hs hk h1 h2;rw[hL]at h15 hc;have i1:∀x y z:Dat,xV .tuple (.tuple [x,y,z])=.ok (.bool true):=λ_ _ _=>rfl;cases hw:M4 (yr b.sd.o b.sd.ear (bB (bY c 0 b.sd.g)) (roomOf c b.sd.g)) with
 |none=>
  rw[hw]at h15;have h15:lM M [ob 0,.int ((i:Int)+1)]=.ok .none:=h15;have k4:=k3 b.sd.o;generalize [b.sd.o]=oo at *;simp[Dt,Lp,q1,hi,q2,h2,qb,q3,p0,h10,hc,aP,nM,h14,k4,qW,h15,mO]
 |some w=>
  rw[hw]at h15;have mw:w∈yr b.sd.o b.sd.ear (bB (bY c 0 b.sd.g)) (roomOf c b.sd.g):=by
   cases hx:yr b.sd.o b.sd.ear (bB (bY c 0 b.sd.g)) (roomOf c b.sd.g) with
   |nil=>rw[hx]at hw;cases hw
   |cons z zs=>
    rw[hx]at hw;cases hw;exact ZJ zs z
  unfold yr at mw;obtain⟨r,mr,rfl⟩:=arQ.mp mw;obtain⟨mr,pr⟩:=ar4.mp mr;simp only[arH,arX,beq_eq_false_iff_ne,ate]at pr;obtain⟨ne,near⟩:=pr;have ms:=dN.mp mr;have l4:=I.Bt _ ms;have j4:=aeY I ms;obtain⟨g1,hg1,rw1⟩:=uf.mp ms;have rw2:o7 c 0 b.sd.g (b.sd.o,d):=.inr ⟨i,b,hi,h1,h2,rfl,rfl,by omega⟩;have hN:=N b.sd.g v g1 hg1 b.sd.g (I.gr.self v) r (b.sd.o,d) rw1 rw2 ne;have t1:=JR r.2 d b.sd.ear (by omega) (by omega) hd;have t2:=LR d b.sd.ear r.2 (by omega) (by omega);have gt:¬bD b.sd.ear r.2<=roomOf c b.sd.g - bD d b.sd.ear:=by unfold fJ at hN;simp only at hN;split at hN<;>omega
  have h16:=aau a I hs b.sd.g v (cZ b.sd.ear r.2) (qL j2 j4);have l5:=cW (qL j2 j4);have ho2:r.1∈mZ (cZ b.sd.ear r.2) (bB (bY c 0 b.sd.g)) (roomOf c b.sd.g):=Cy.mpr ⟨r.2,mr,O9 _ _,by rw[Le];exact near⟩;rw[V6 I N v l5 ho2,hL]at h16;have t3:=Zm M b.sd.ear (cZ b.sd.ear r.2) (by omega);rw[Ph]at t3;have t4:=agn M b.sd.ear (cZ b.sd.ear r.2) (by omega);rw[Rz]at t4;have h15:lM M [ob 0,.int ((i:Int)+1)]=.ok (.tuple [.int (bD b.sd.ear r.2),.int r.1,aJ (cZ b.sd.ear r.2)]):=h15;have k4:=k3 b.sd.o;have k5:=k3 r.1;have w1:=Lg M (bD b.sd.ear r.2);generalize cZ b.sd.ear r.2=J at *;generalize bD b.sd.ear r.2=p at *;generalize [b.sd.o]=oo at *;generalize [r.1]=oo2 at *;simp[Dt,Lp,q1,hi,q2,h2,qb,q3,p0,h10,hc,aP,nM,h14,k4,qW,h15,mO,i1,w1,gt,ne,t3,t4,h16,k5]
theorem afd{M:Mo}{L:Lay}{n s:Nat}{c:aK}(hL:L.c=0)(a:At M L c)(I:Inv n s c)(R:El n c)(N:NM c)(hs:s<=76)(fs:List Int)(hf:∀f∈fs,0<=f/\f < 10)(B:∀b∈c.bs,Bg c.al.length b)(x0:Option Cell):∀(xs:List (Nat×dG)) (x4 x5:Option Cell),(∀x∈xs,c.bs[x.1]?=some x.2)->∃y4 y5,fY (bx [4,5]) CP (xs.map λx=>.tuple [.int (x.1:Int),jL x.2]) M [x0,some (.dat (ob 0)),some (.dat (pU c)),some (.dat (lI fs)),x4,x5]=.next [x0,some (.dat (ob 0)),some (.dat (pU c)),some (.dat (lI fs)),y4,y5] M
 |[],x4,x5,_=>⟨x4,x5,rfl⟩
 |x::xs,x4,x5,hx=>by
  have hi:=hx x arM;obtain⟨y4,y5,ih⟩:=afd hL a I R N hs fs hf B x0 xs (some (.dat (.int (x.1:Int)))) (some (.dat (jL x.2))) λz hz=>hx z (arL _ hz);refine⟨y4,y5,?_⟩;have step:CP M [x0,some (.dat (ob 0)),some (.dat (pU c)),some (.dat (lI fs)),some (.dat (.int (x.1:Int))),some (.dat (jL x.2))]=.next [x0,some (.dat (ob 0)),some (.dat (pU c)),some (.dat (lI fs)),some (.dat (.int (x.1:Int))),some (.dat (jL x.2))] M:=by
   cases q1:x.2.sd.al with
   |false=>simp[CP,q1]
   |true=>
    cases q2:x.2.sd.due with
    |none=>simp[CP,q1,q2,qb,mO]
    |some d=>
     have:=aiY hL a I R N hs fs hf hi q1 q2 ((B _ (arN hi)).2 d q2);simp[CP,q1,q2,qb,mO,this]
  rw[arK,fV (Z1:=[x0,some (.dat (ob 0)),some (.dat (pU c)),some (.dat (lI fs)),some (.dat (.int (x.1:Int))),some (.dat (jL x.2))]) (by rfl) step];exact ih
theorem agj(ns:List Int)(h:ns.length<=63):∃M,Yk [] [.list (ns.map PyData.int)]=.ok (.bool true) M:=by
 obtain⟨M0,L,hL,h0,a0⟩:=anN;have cell0:Ak M0 [lI ns,.int 0]=_:=abK M0 ns 0;have hl:=ahL ns 2 44 (by decide);generalize hcl:Rf.cutD ns (some ((2:Nat):Int)) (some ((44:Nat):Int))=cells at hl;have hcl2:Rf.cutD (ns.map PyData.int) (some 2) (some 44)=cells.map PyData.int:=by rw[ahr];exact congrArg _ hcl
 obtain⟨c,M1,L1,hL1,h1,N1⟩:=aiN a0 cells (by omega) (if ns.getD 0 0 < 0 then -(ns.getD 0 0) else ns.getD 0 0);have cell1:Ak M1 [lI ns,.int 1]=_:=abK M1 ns 1;have I:=N1.inv;have f0:=I.hL;have hc1:=N1.at_.hc;have l1:=N1.look (by decide);have NM1:=(N1.rch.ok (by decide)).2;have B:=N1.rch.all ajG (by decide);have r1:v8 M1 [.int (ns.getD 1 0),.int 14,.int 10]=.ok (lI (rowOf (ns.getD 1 0) 14 10)):=aaD M1 _ 14 10 (by decide) (by decide) (by decide);obtain⟨y4,y5,lp⟩:=afd (hL1.trans hL) N1.at_ I N1.rch NM1 (by decide) (rowOf (ns.getD 1 0) 14 10) (Zh (by decide) _ _) B (some (.dat (lI ns))) (c.bs.mapIdx λi b=>(i,b)) none none λx hx=>by
  obtain⟨j,hj,rfl⟩:=List.mem_mapIdx.mp hx;exact arI hj
 have hen:pQ 0 (c.bs.map jL)=(c.bs.mapIdx λi b=>(i,b)).map λx=>.tuple [.int (x.1:Int),jL x.2]:=by unfold pQ;apply asl;intro j;simp only[arT,asC];cases c.bs[j]?<;>simp
 rw[←hen]at lp;rw[hL1,hL]at l1 hc1;rw[hL]at h1;refine⟨M1,?_⟩;generalize hhd:(if ns.getD 0 0 < 0 then -(ns.getD 0 0) else ns.getD 0 0)=hd at *;have hhd2:(if ns.getD 0 0 < 0 then PyData.int (-(ns.getD 0 0)) else PyData.int (ns.getD 0 0))=.int hd:=by rw[←hhd];split<;>rfl
 generalize rowOf (ns.getD 1 0) 14 10=fs at *;have b1:c.bs.length<=50000:=by omega
 generalize ns.getD 0 0=z0 at *;generalize ns.getD 1 0=z1 at *;simp only[Yk,ac9];simp[-Rf.ev_if,h0,cell0,cell1,hcl2,hhd,hhd2,h1,hc1,aP,xP,l1,r1];simp[b1,lp]
end Pr
open PySem PySem.W PySem.Calls PyProof.Rows
set_option maxHeartbeats 0 in
theorem PySem.Challenge.cw_earmarks_k54_whole_thief_needs_more_holds : PySem.Challenge.rw_earmarks_k54_whole_thief_needs_more.Holds := by
 w_on;o_law
 refine HandSHeadRun.head_any (r:=OpenLaw.row PySem.Challenge.rw_earmarks_k54_whole_thief_needs_more) (q:=view (OpenLaw.row PySem.Challenge.rw_earmarks_k54_whole_thief_needs_more).prog [88]) (H:=Pr.hkE) (ob:=Pr.obE) (M:=40000) (loose:=Pr.nm) (d:=HandSHeadRun.topDef (OpenLaw.row PySem.Challenge.rw_earmarks_k54_whole_thief_needs_more).prog 88) (kwd:=[]) Pr.akN (by kernel_rfl) (λs=>by kernel_rfl) Pr.run (by kernel_rfl) (by kernel_rfl) (by kernel_rfl) (by rfl) (by first | assumption | decide +kernel) (by decide +kernel) ⟨rfl,rfl,rfl,rfl,rfl,by decide +kernel⟩ ?hw ?hc
 case hw=>w_witness2
 case hc=>
  refine L2.walk_ofE (l:=PySem.Challenge.rw_earmarks_k54_whole_thief_needs_more) (n:=63) (k:=14) (x:="_law_script") (CX:=L2.CX0) rfl (by decide) (by kernel_rfl) ⟨rfl,by decide,by decide⟩ ?F (λ_ _ _ _ z=>z)
  intro w mg fa h Y G hmg0;obtain⟨K,KX,c⟩:=Y;have hmg:mg ("law" : PySem.Str)=some (.ref fa):=by
   have e:(HandSHeadRun.topDef (OpenLaw.row PySem.Challenge.rw_earmarks_k54_whole_thief_needs_more).prog 88).name=("law" : PySem.Str):=by kernel_rfl
   rw[←e];exact hmg0
  have T:Pr.Top w K mg:=⟨⟨h,KX,G⟩,c⟩;have e:=hmg.symm.trans (T.glo 104);cases e;obtain⟨fd,F⟩:=T.c.Wh 104;have b:=L2.FunD.bindsA (ps:=["_law_script"]) F λ_ _ _ _ _ _ us hl=>match us,hl with|[_],_=>rfl
  exact⟨K,fd,λvs H Q _=>Rf.Ko K (Pr.aj w K) 1 Pr.Yk vs H Q λ_ _ _=>False,KX,λs v=>b s [v] rfl,λH a ns hl _ hS=>(Pr.agj ns hl).elim λ_ z=>Rf.amy rfl hS z,λbase _ _=>Rf.acr (Pr.aml T F)⟩

import PyProof.Rows.All
import Wide.All
import OpenK.AllK
import Wide.FinOn
import HandS.ForMost
import HandS.Evl
import HandS.Walk
import HandS.Zip
import HandS.IsInst
import HandS.Style
import HandS.FStr
import HandS.Strs
import HandS.TupAny
import HandS.Deep
import HandS.Exc
import HandS.TryOnly
import HandS.ExcOwn
import HandS.WordsExc
import KE.GoesMore
import KE.GoesEnum
import KE.DataMinMax
import KE.SortData
import HandS.SortKw
import HandS.TupSets
import HandS.SetBool
import KE.KeyNested
import PyProof.Transfer
import HandS.DictComp
import HandS.Conv
import KE.KDictKeyed
import HandS.ExcField
import HandS.ExcInit
import HandS.TryMany
import HandS.HeadHook4
import HandS.HeadHook3
import HandS.HeadHook2
import HandS.HeadHook1
import HandS.HeadEnd
import HandS.Head2
import HandS.Head1
import HandS.Head0
import KE.KStateDown
import HandS.Flow
import KE.KUnpackStar
import KE.GoesEnumKw
import KE.KTupSum
import PySem.Challenge.RW_earmarks_k56_whole_beasts_and_stories
set_option Elab.async false
set_option linter.all false
set_option maxRecDepth 100000
set_option maxHeartbeats 2000000
def ash:True:=trivial
abbrev asi:=@False.elim
abbrev asj:=@decide_eq_true_eq
abbrev asl:=@of_decide_eq_true
def aqW:=@Option.bind_eq_some_iff
def aqX:=@PySem.W.Frag
def aqY:=@List.getElem?_eq_some_iff
def aqZ:=@Bool.and_eq_true
def aq0:=@List.getElem?_eq_getElem
def aq1:=@List.map_cons
def aq2:=@List.mem_of_getElem?
def aq3:=@List.mem_cons_of_mem
def aq4:=@List.mem_cons_self
def aq5:=@List.mem_singleton
def aq6:=@List.getElem?_set_ne
def aq7:=@List.getElem?_append_left
def aq8:=@List.mem_append
def aq9:=@List.getElem?_map
def ara:=@List.length_map
def arb:=@List.mem_map
def ard:=@List.length_cons
def arf:=@List.getElem?_append_right
def arh:=@List.mem_cons
def ari:=@List.getElem?_set_self
def arj:=@Bool.not_eq_true'
def ark:=@Option.some.inj
def arl:=@List.length_filter_le
def arn:=@List.mem_filter
def aro:=@List.all_eq_true
def arp:=@Function.comp_def
def arq:=@Nat.le_refl
def ars:=@List.length_set
def aru:=@List.lookup_cons
def arv:=@List.ext_getElem?
def arw:=@Nat.le_trans
def arx:=@List.getElem?_eq_none
def arz:=@Option.map_eq_some_iff
def arA:=@Bool.false_eq_true
def arB:=@List.map_map
def arC:=@List.map_append
def arD:=@List.mem_append_left
def arE:=@Nat.ne_of_lt
def arF:=@List.not_mem_nil
def arG:=@Array.length_toList
def arH:=@List.getElem?_zip_eq_some
def arI:=@List.filter_cons
def arJ:=@List.all_cons
def arK:=@Nat.zero_le
def arL:=@Array.getElem?_toList
def arM:=@List.mem_append_right
def arN:=@List.length_append
def arO:=@List.getElem_mem
def arP:=@List.getElem?_mapIdx
def arQ:=@List.nodup_append
def arR:=@List.append_nil
def arS:=@List.zip_cons_cons
def arT:=@List.drop_eq_getElem_cons
def arU:=@List.getElem?_set
def arV:=@List.drop_length
def arW:=@List.any_cons
def arX:=@Nat.lt_succ_of_lt
def arY:=@List.mem_of_mem_take
def arZ:=@List.map_nil
def ar0:=@Bool.eq_iff_iff
def ar3:=@List.foldl_cons
def ar4:=@List.filter_filter
def ar5:=@List.any_map
def ar6:=@List.length_drop
def ar7:=@Nat.add_sub_cancel'
def ar8:=@Nat.add_left_cancel
def ar9:=@List.nodup_cons
def ase:=@Nat.succ.inj
def asf:=@List.drop_zero
namespace Rf
open PySem PySem.Spec PyProof.Rows L2 HandSHeadRun
abbrev Dat:=PyData
abbrev Ft:=List (Str×List Str)
structure M9(fa:List He.Fa)(fn:List He.DefD)(tb:List He.Tab)(ex:aqX->Bool)(w:World)(K:aqX):Prop where
 t:He.SaysT fa fn tb w K
 more:ex K=true
def acB(as:List Addr)(fa:List He.Fa)(fn:List He.DefD)(tb:List He.Tab)(ex:aqX->Bool)(g:Addr->Option Obj):He.AlX:=(He.obsT fa fn tb (He.frG g as),ex (He.frG g as))
def acz(as:List Addr)(fa:List He.Fa)(fn:List He.DefD)(tb:List He.Tab)(ex:aqX->Bool):PySem.W.Hook where
 α:=He.AlX
 obs:=λs=>acB as fa fn tb ex s.heap.get?
 val:=λw=>He.valX fn tb w
 says:=λw h=>∃K:aqX,K.In h/\M9 fa fn tb ex w K
 of:=λw s e=>⟨_,He.frG_in,⟨congrArg (λz:He.AlX=>z.1) e,congrArg (λz:He.AlX=>z.2) e⟩⟩
 keeps:=λ_ _ _ ⟨K,hK,c⟩ k=>⟨K,PySem.W.Frag.In.keeps hK k,c⟩
theorem ahD{as:List Addr}{fa:List He.Fa}{fn:List He.DefD}{tb:List He.Tab}{ex:aqX->Bool}{g:Addr->Option Obj}{s:Shared}(h:∀a,g a=s.heap.get? a):acB as fa fn tb ex g=(acz as fa fn tb ex).obs s:=by rw[show g=s.heap.get? from funext h];rfl
def Kr(K:aqX)(ft:Ft):Bool:=ft.all λp=>(He.Fa.cls p.1).ok K&&p.2.all λf=>(He.Fa.noat p.1 f).ok K
def xmB(K:aqX)(xm:List (Str×List (Str×Bool))):Bool:=xm.all λp=>p.2.all λq=>(He.Fa.exm q.1 p.1 q.2).ok K
def ajZ(K:aqX)(C:Addr):Bool:=(match K.lookup C with
 |some ⟨.type t,_,.cls cd,sl⟩=>decide (t="type")&&(match cd.mro,sl.toList with
  |.ref C'::bm,[_,_,_,_,some (.builtin n),_]=>decide (C'=C)&&(decide (n="ValueError.__new__")&&(!cd.hasDel&&(cd.hasDict&&PySem.HandSPX.refsVE bm)))
  |_,_=>false)
 |_=>false)&&(He.eqO (PySem.W.findIn K (.ref C) "__setattr__") (some (some (.builtin "object.__setattr__")))&&(decide (PySem.W.subIn K (.ref C) (.type "BaseException")=some true)&&(decide (PySem.W.typeIn K (.ref C)=some (.type "type"))&&PySem.W.keepIn K (.ref C))))
def Ur(K:aqX)(x:Str)(fs:List Str):Bool:=ajZ K (He.ga K x)&&(He.eqO (PySem.W.findIn K (.ref (He.ga K x)) "__init__") (some (some (.ref (He.ma K (He.ga K x) "__init__"))))&&(decide (PySem.W.typeIn K (.ref (He.ma K (He.ga K x) "__init__"))=some (.type "function"))&&(xfB K (He.ga K x)&&fs.all λf=>He.eqO (PySem.W.findIn K (.ref (He.ga K x)) f) (some none))))
def Xo(K:aqX)(a:Addr)(xs:List Str):Bool:=match K.lookup a with
 |some ⟨.type c,_,.seq its _,_⟩=>decide (c="tuple")&&(decide (its.size<=sizeLine)&&He.relAll (xs.map V.str) its.toList)
 |_=>false
def aeO(K:aqX)(x:Str)(kvs:List (Str×List Str)):Bool:=(match K.lookup (He.ga K x) with
 |some ⟨_,_,.dict es _,_⟩=>es.toList.all (λe=>(match e.key with
   |.str y _=>(kvs.map (·.1)).contains y
   |_=>false)&&!e.refKey)
 |_=>false)&&(decide ((kvs.map (·.1)).Nodup)&&kvs.all λq=>match PySem.W.nsIn K (He.ga K x) q.1 with
  |some (some (.ref a))=>Xo K a q.2
  |_=>false)
section
open PySem.W PySem.Calls
noncomputable abbrev akK (r:PySem.W.OpenRow) (M:Nat) (w:World) (os:PySem.OsState):Option PySem.W.SharedT:=endF (stepQ (denQ tabQ) r.prog w) M r.prog w os
def afQ(r:PySem.W.OpenRow)(q:Program)(as:List Addr)(ex:aqX->Bool)(M:Nat)(loose:List Str)(w:World):Prop:=∀os,(akK r M w os).map (λs=>(looksF r.prog (boot_heap w.params) s.abs,HandSHeadRun.seenQ q loose (importedModules r.prog.main.body) (λs=>PySem.W.xlAt q [] s&&PySem.W.recOk r.toRowW.records s) s.abs,ex (He.frG (getT s) as)))=some (true,PySem.W.openGood q loose,true)
def afW(r:PySem.W.OpenRow)(as:List Addr)(fa:List He.Fa)(fn:List He.DefD)(tb:List He.Tab)(M:Nat)(w:World):Prop:=∀os,(akK r M w os).map (λs=>He.obsT fa fn tb (He.frG (getT s) as))=some (He.valT fn tb w)
theorem Vo{r:PySem.W.OpenRow}{q:Program}{as:List Addr}{fa:List He.Fa}{fn:List He.DefD}{tb:List He.Tab}{ex:aqX->Bool}{M:Nat}{loose:List Str}{w:World}
  (a:afQ r q as ex M loose w) (c:afW r as fa fn tb M w):RunEq r q (acz as fa fn tb ex) (λs=>acB as fa fn tb ex (getT s)) M loose w:=λos=>by
 obtain⟨s,hs,h1⟩:=arz.mp (a os);obtain⟨h1,h2⟩:=Prod.mk.inj h1;obtain⟨h2,h4⟩:=Prod.mk.inj h2;have h3:=c os;have hs':endF (stepQ (denQ tabQ) r.prog w) M r.prog w os=some s:=hs;rw[hs,Option.map_some]at h3;have h3:=ark h3;rw[hs',Option.map_some];exact congrArg some (Prod.ext h1 (Prod.ext h2 (Prod.ext h3 h4)))
end
end Rf
namespace Pr
open PySem PySem.Spec PyProof.Rows L2 Evl Rf
def cW:Dat:=.int 9
def jk:Dat:=.int 1
def lH:Dat:=.int 3
def ig:Dat:=.int 9
def jh:Dat:=.tuple [.str "lt",.str "lf",.str "lh",.str "rt",.str "rf",.str "rh"]
def jQ:Dat:=.tuple [.int 0,.int 0,.int 0,.int 0,.int 0,.int 0]
def oW:Dat:=.int 999999999
def yO:List (Str×List Str):=[("owner",[]),("ground",["number"]),("enrol",["number","number","ear"]),("leave",["number","number"]),("bring",["number","number","ear"]),("bear",["number"]),("cut",["number"]),("tear",["number","place"]),("sell",["number","number"]),("move",["number","number"]),("die",["number"]),("unite",["number","number"]),("part",["number"]),("pass",["number","number"]),("heir",["number","number","number"])]
def kW:Ft:=[("Beast",["story","mother","owner","ground","due","ear","alive"]),("Herd",["beasts"]),("Grounds",["allowances","circles"]),("Rights",["held"]),("Commons",["owner_count","holders","grounds","rights","herd"])]
def mX:List (Str×Bool):=[("NoGround",true),("NoOwner",true),("NoRight",true),("HasRight",true),("NoneFree",true),("BadExtra",true),("BadAllowance",true),("Clash",true),("BadEar",true),("Bare",true),("StillThere",true),("NoBeast",true),("Dead",true),("Unmarked",true),("Deepest",true),("NoPlace",true),("SameOwner",true),("SameGround",true),("Together",true),("Alone",true),("BadDeed",true)]
def xmH:List (Str×List (Str×Bool)):=[("CommonError",mX)]
def dfH:List (Str×Bool):=[("held",true),("holders",false)]
def Wb:List (Str×List Str):=[("Clash",["ones","others","ear"])]
def aX(i:Nat):Stmt:=PySem.Challenge.pw_earmarks_k56_whole_beasts_and_stories.main.body.getD i (.Pass ⟨0,0,0,0⟩)
abbrev Gj:Stmt:=inClass (aX 52) 0
abbrev Jz:Stmt:=inClass (aX 57) 0
abbrev NP:Stmt:=inClass (aX 37) 0
abbrev Gz:Stmt:=inClass (aX 68) 0
abbrev JL:Stmt:=inClass (aX 36) 2
abbrev Lj:Stmt:=inClass (aX 36) 4
abbrev Di:Stmt:=inClass (aX 68) 17
abbrev Bs:Stmt:=inClass (aX 57) 1
abbrev Fv:Stmt:=inClass (aX 52) 3
abbrev JK:Stmt:=inClass (aX 52) 2
abbrev Hg:Stmt:=inClass (aX 52) 4
abbrev yK:Stmt:=inClass (aX 52) 5
abbrev zX:Stmt:=inClass (aX 52) 6
abbrev Ad:Stmt:=inClass (aX 68) 19
abbrev Ho:Stmt:=inClass (aX 68) 32
abbrev s_row:Stmt:=aX 74
abbrev ZD:Stmt:=aX 75
abbrev agq:Stmt:=aX 76
abbrev Og:Stmt:=aX 77
abbrev Wd:Stmt:=aX 78
abbrev xZ:Stmt:=inClass (aX 68) 33
abbrev Ge:Stmt:=inClass (aX 57) 3
abbrev Ak:Stmt:=inClass (aX 57) 4
abbrev yj:Stmt:=inClass (aX 68) 34
abbrev yJ:Stmt:=inClass (aX 68) 1
abbrev Ae:Stmt:=inClass (aX 57) 2
abbrev aeu:Stmt:=aX 49
abbrev abw:Stmt:=aX 46
abbrev Oa:Stmt:=aX 54
abbrev aaZ:Stmt:=aX 47
abbrev acH:Stmt:=aX 48
abbrev Mp:Stmt:=aX 55
abbrev xO:Stmt:=inClass (aX 68) 35
abbrev YK:Stmt:=aX 59
abbrev Bv:Stmt:=inClass (aX 37) 5
abbrev Gn:Stmt:=inClass (aX 37) 6
abbrev yH:Stmt:=inClass (aX 57) 7
abbrev vB:Stmt:=inClass (aX 68) 22
abbrev zR:Stmt:=inClass (aX 68) 21
abbrev G4:Stmt:=inClass (aX 52) 7
abbrev Ht:Stmt:=inClass (aX 68) 18
abbrev Aa:Stmt:=inClass (aX 68) 15
abbrev xY:Stmt:=inClass (aX 52) 1
abbrev yE:Stmt:=inClass (aX 68) 2
abbrev Wk:Stmt:=aX 60
abbrev aaN:Stmt:=aX 45
abbrev Qt:Stmt:=aX 61
abbrev yc:Stmt:=inClass (aX 68) 36
abbrev Y6:Stmt:=aX 28
abbrev Rh:Stmt:=aX 67
abbrev DN:Stmt:=inClass (aX 68) 3
abbrev JH:Stmt:=inClass (aX 57) 5
abbrev Ds:Stmt:=inClass (aX 68) 4
abbrev CK:Stmt:=inClass (aX 36) 1
abbrev abz:Stmt:=aX 30
abbrev Ln:Stmt:=inClass (aX 36) 0
abbrev CJ:Stmt:=inClass (aX 37) 1
abbrev Ew:Stmt:=inClass (aX 68) 5
abbrev Lr:Stmt:=inClass (aX 37) 2
abbrev JC:Stmt:=inClass (aX 37) 3
abbrev Jx:Stmt:=inClass (aX 37) 4
abbrev Hr:Stmt:=inClass (aX 68) 6
abbrev R7:Stmt:=aX 32
abbrev Wi:Stmt:=aX 31
abbrev Gy:Stmt:=inClass (aX 36) 3
abbrev Jw:Stmt:=inClass (aX 68) 7
abbrev Hf:Stmt:=inClass (aX 68) 8
abbrev JQ:Stmt:=inClass (aX 37) 8
abbrev Ai:Stmt:=inClass (aX 37) 9
abbrev Hu:Stmt:=inClass (aX 68) 9
abbrev GX:Stmt:=inClass (aX 68) 10
abbrev JT:Stmt:=inClass (aX 68) 11
abbrev Rj:Stmt:=aX 62
abbrev Ac:Stmt:=inClass (aX 68) 24
abbrev Bq:Stmt:=inClass (aX 52) 10
abbrev DP:Stmt:=inClass (aX 52) 8
abbrev Ei:Stmt:=inClass (aX 68) 12
abbrev Hh:Stmt:=inClass (aX 52) 9
abbrev Gi:Stmt:=inClass (aX 68) 13
abbrev Aj:Stmt:=inClass (aX 57) 6
abbrev Lh:Stmt:=inClass (aX 37) 7
abbrev Bu:Stmt:=inClass (aX 68) 14
abbrev Od:Stmt:=aX 42
abbrev aew:Stmt:=aX 41
abbrev LK:Stmt:=inClass (aX 68) 16
abbrev ac6:Stmt:=aX 79
abbrev adQ:Stmt:=aX 80
abbrev Wq:Stmt:=aX 81
abbrev agz:Stmt:=aX 82
abbrev acT:Stmt:=aX 83
abbrev aeD:Stmt:=aX 84
abbrev aek:Stmt:=aX 85
abbrev Bt:Stmt:=inClass (aX 68) 30
abbrev abJ:Stmt:=aX 70
abbrev RP:Stmt:=aX 71
abbrev aep:Stmt:=aX 87
abbrev aaT:Stmt:=aX 72
abbrev JF:Stmt:=aX 34
abbrev Q6:Stmt:=aX 73
abbrev abm:Stmt:=aX 33
abbrev abE:Stmt:=aX 86
abbrev MP:Stmt:=aX 88
abbrev Kg:Stmt:=inClass (aX 23) 0
abbrev dM(c m q:Str)(s:Stmt):He.DefD:=⟨(c,some m),m,q,defArgs s,defBody s,defScope s,[],[]⟩
abbrev dF(x:Str)(s:Stmt):He.DefD:=⟨(x,none),x,x,defArgs s,defBody s,defScope s,[],[]⟩
def xsH:List Str:=["Grounds","Rights","Herd","Commons","Beast","NoGround","NoOwner","NoRight","HasRight","NoneFree","BadExtra","BadAllowance","Clash","BadEar","Bare","StillThere","NoBeast","Dead","Unmarked","Deepest","NoPlace","SameOwner","SameGround","Together","Alone","BadDeed","CommonError"]
def tbs:List He.Tab:=[(λK=>He.ga K "SHAPES",["owner","ground","enrol","leave","bring","bear","cut","tear","sell","move","die","unite","part","pass","heir"])]
def nm0:List PySem.Str:=["_wall","CommonError","BadEar","Bare","BadAllowance","BadExtra","NoPlace","Deepest","NoOwner","NoGround","NoBeast","NoRight"]
def nm1:List PySem.Str:=["HasRight","StillThere","Dead","Unmarked","SameOwner","SameGround","Together","Alone","NoneFree","BadDeed","Clash","PLACES"]
def nm2:List PySem.Str:=["GREATEST_DEPTH","BARE_EAR","is_ear","begun","gone_on","deepened","ended","tears_since","Beast","Herd","SHAPES","GREATEST_PART"]
def nm3:List PySem.Str:=["fits","part_fits","deeper","joint","lacks","apart","meet","torn","GREATEST_ALLOWANCE","Grounds","offspring","first_free"]
def nm4:List PySem.Str:=["Rights","tidied","barring","ask_room","clashing","owners_of","FEWEST_EXTRA","MOST_EXTRA","need_ear","Commons","_law_whole","_law_like"]
def nm5:List PySem.Str:=["_law_tears","_law_marks_of","_law_row","_law_ear_by","_law_ear","_law_begun","_law_word_by","_law_done","_law_near","_law_mark_by","_law_ref","_law_deed"]
def nm6:List PySem.Str:=["_law_play","_law_cell","_law_right","_law_long"]
def nm:List PySem.Str:=nm0++nm1++nm2++nm3++nm4++nm5++nm6
def fa0:List He.Fa:=[.mkr "Grounds",.mkr "Rights",.mkr "Herd",.mkr "Commons",.meth "Beast" "stand",.meth "Beast" "told",.meth "Commons" "owners",.meth "Rights" "all_rows",.meth "Grounds" "many",.meth "Grounds" "has",.meth "Grounds" "need",.meth "Grounds" "allowance"]
def fa1:List He.Fa:=[.meth "Grounds" "together",.meth "Commons" "together",.meth "Commons" "look",.glo "_law_row",.glo "_law_ear_by",.glo "_law_ear",.glo "_law_begun",.glo "_law_word_by",.meth "Commons" "need_owner",.meth "Rights" "marks",.meth "Rights" "has_right",.meth "Commons" "need_right"]
def fa2:List He.Fa:=[.meth "Commons" "new_owner",.meth "Rights" "add_right",.glo "torn",.glo "lacks",.glo "offspring",.glo "apart",.glo "meet",.glo "first_free",.meth "Commons" "first_mark",.glo "tidied",.meth "Herd" "all_living",.meth "Herd" "grazing"]
def fa3:List He.Fa:=[.meth "Rights" "in_grounds",.meth "Commons" "standing_but",.meth "Commons" "standing",.meth "Grounds" "room",.meth "Commons" "room",.meth "Commons" "new_heir",.meth "Grounds" "add_ground",.meth "Commons" "new_ground",.glo "barring",.glo "joint",.glo "ask_room",.meth "Commons" "ask_ground"]
def fa4:List He.Fa:=[.glo "is_ear",.glo "need_ear",.meth "Commons" "enrol",.meth "Rights" "drop",.meth "Commons" "leave",.meth "Beast" "stand_so",.glo "begun",.mkr "Beast",.meth "Herd" "add_beast",.meth "Commons" "bring",.meth "Herd" "known",.meth "Herd" "living"]
def fa5:List He.Fa:=[.meth "Herd" "marked",.meth "Commons" "bear",.glo "deepened",.glo "gone_on",.meth "Beast" "befall",.meth "Commons" "cut",.meth "Commons" "tear",.meth "Herd" "calves",.meth "Herd" "lead_calves",.meth "Commons" "sell",.meth "Commons" "move",.meth "Commons" "die"]
def fa6:List He.Fa:=[.glo "clashing",.meth "Commons" "quarrels",.meth "Grounds" "enclose",.meth "Grounds" "unite",.meth "Commons" "unite",.meth "Grounds" "part",.meth "Commons" "part",.meth "Rights" "hand_over",.meth "Herd" "owned",.meth "Commons" "pass_on",.glo "part_fits",.glo "fits"]
def fa7:List He.Fa:=[.meth "Commons" "do",.glo "_law_done",.glo "_law_near",.glo "_law_mark_by",.glo "_law_ref",.glo "_law_deed",.glo "_law_play",.glo "_law_cell",.meth "Commons" "history",.glo "_law_whole",.glo "_law_like",.glo "_law_long"]
def fa8:List He.Fa:=[.glo "_law_tears",.glo "tears_since",.glo "_law_marks_of",.glo "ended",.glo "_law_right",.glo "law",.glo "Grounds",.glo "Rights",.glo "Herd",.glo "Commons",.glo "Beast",.glo "NoGround"]
def fa9:List He.Fa:=[.exc "NoGround",.glo "NoOwner",.exc "NoOwner",.glo "NoRight",.exc "NoRight",.glo "HasRight",.exc "HasRight",.glo "NoneFree",.exc "NoneFree",.glo "BadExtra",.exc "BadExtra",.glo "BadAllowance"]
def am9:List He.Fa:=[.exc "BadAllowance",.glo "Clash",.glo "BadEar",.exc "BadEar",.glo "Bare",.exc "Bare",.glo "StillThere",.exc "StillThere",.glo "NoBeast",.exc "NoBeast",.glo "Dead",.exc "Dead"]
def amI:List He.Fa:=[.glo "Unmarked",.exc "Unmarked",.glo "Deepest",.exc "Deepest",.glo "NoPlace",.exc "NoPlace",.glo "SameOwner",.exc "SameOwner",.glo "SameGround",.exc "SameGround",.glo "Together",.exc "Together"]
def anh:List He.Fa:=[.glo "Alone",.exc "Alone",.glo "BadDeed",.exc "BadDeed",.glo "CommonError",.exc "CommonError",.glo "SHAPES",.int "GREATEST_DEPTH" 9,.int "FEWEST_EXTRA" 1,.int "MOST_EXTRA" 3,.int "GREATEST_ALLOWANCE" 9,.glo "PLACES"]
def amN:List He.Fa:=[.glo "BARE_EAR",.int "GREATEST_PART" 999999999,.free "tuple",.free "list",.free "len",.free "range",.free "abs",.free "max",.free "min",.free "sum",.free "zip",.free "any"]
def anw:List He.Fa:=[.free "sorted",.free "set",.free "enumerate",.free "all",.free "isinstance",.free "int",.free "bool",.free "str"]
def fa:List He.Fa:=fa0++fa1++fa2++fa3++fa4++fa5++fa6++fa7++fa8++fa9++am9++amI++anh++amN++anw
def fn0:List He.DefD:=[dM "Grounds" "__init__" "Grounds.__init__" Gj,dM "Rights" "__init__" "Rights.__init__" Jz,dM "Herd" "__init__" "Herd.__init__" NP,dM "Commons" "__init__" "Commons.__init__" Gz,dM "Beast" "stand" "Beast.stand" JL,dM "Beast" "told" "Beast.told" Lj,dM "Commons" "owners" "Commons.owners" Di,dM "Rights" "all_rows" "Rights.all_rows" Bs,dM "Grounds" "many" "Grounds.many" Fv,dM "Grounds" "has" "Grounds.has" JK,dM "Grounds" "need" "Grounds.need" Hg,dM "Grounds" "allowance" "Grounds.allowance" yK]
def fn1:List He.DefD:=[dM "Grounds" "together" "Grounds.together" zX,dM "Commons" "together" "Commons.together" Ad,dM "Commons" "look" "Commons.look" Ho,dF "_law_row" s_row,dF "_law_ear_by" ZD,dF "_law_ear" agq,dF "_law_begun" Og,dF "_law_word_by" Wd,dM "Commons" "need_owner" "Commons.need_owner" xZ,dM "Rights" "marks" "Rights.marks" Ge,dM "Rights" "has_right" "Rights.has_right" Ak,dM "Commons" "need_right" "Commons.need_right" yj]
def fn2:List He.DefD:=[dM "Commons" "new_owner" "Commons.new_owner" yJ,dM "Rights" "add_right" "Rights.add_right" Ae,dF "torn" aeu,dF "lacks" abw,dF "offspring" Oa,dF "apart" aaZ,dF "meet" acH,dF "first_free" Mp,dM "Commons" "first_mark" "Commons.first_mark" xO,dF "tidied" YK,dM "Herd" "all_living" "Herd.all_living" Bv,dM "Herd" "grazing" "Herd.grazing" Gn]
def fn3:List He.DefD:=[dM "Rights" "in_grounds" "Rights.in_grounds" yH,dM "Commons" "standing_but" "Commons.standing_but" vB,dM "Commons" "standing" "Commons.standing" zR,dM "Grounds" "room" "Grounds.room" G4,dM "Commons" "room" "Commons.room" Ht,dM "Commons" "new_heir" "Commons.new_heir" Aa,dM "Grounds" "add_ground" "Grounds.add_ground" xY,dM "Commons" "new_ground" "Commons.new_ground" yE,dF "barring" Wk,dF "joint" aaN,dF "ask_room" Qt,dM "Commons" "ask_ground" "Commons.ask_ground" yc]
def fn4:List He.DefD:=[dF "is_ear" Y6,dF "need_ear" Rh,dM "Commons" "enrol" "Commons.enrol" DN,dM "Rights" "drop" "Rights.drop" JH,dM "Commons" "leave" "Commons.leave" Ds,dM "Beast" "stand_so" "Beast.stand_so" CK,dF "begun" abz,dM "Beast" "__init__" "Beast.__init__" Ln,dM "Herd" "add_beast" "Herd.add_beast" CJ,dM "Commons" "bring" "Commons.bring" Ew,dM "Herd" "known" "Herd.known" Lr,dM "Herd" "living" "Herd.living" JC]
def fn5:List He.DefD:=[dM "Herd" "marked" "Herd.marked" Jx,dM "Commons" "bear" "Commons.bear" Hr,dF "deepened" R7,dF "gone_on" Wi,dM "Beast" "befall" "Beast.befall" Gy,dM "Commons" "cut" "Commons.cut" Jw,dM "Commons" "tear" "Commons.tear" Hf,dM "Herd" "calves" "Herd.calves" JQ,dM "Herd" "lead_calves" "Herd.lead_calves" Ai,dM "Commons" "sell" "Commons.sell" Hu,dM "Commons" "move" "Commons.move" GX,dM "Commons" "die" "Commons.die" JT]
def fn6:List He.DefD:=[dF "clashing" Rj,dM "Commons" "quarrels" "Commons.quarrels" Ac,dM "Grounds" "enclose" "Grounds.enclose" Bq,dM "Grounds" "unite" "Grounds.unite" DP,dM "Commons" "unite" "Commons.unite" Ei,dM "Grounds" "part" "Grounds.part" Hh,dM "Commons" "part" "Commons.part" Gi,dM "Rights" "hand_over" "Rights.hand_over" Aj,dM "Herd" "owned" "Herd.owned" Lh,dM "Commons" "pass_on" "Commons.pass_on" Bu,dF "part_fits" Od,dF "fits" aew]
def fn7:List He.DefD:=[dM "Commons" "do" "Commons.do" LK,dF "_law_done" ac6,dF "_law_near" adQ,dF "_law_mark_by" Wq,dF "_law_ref" agz,dF "_law_deed" acT,dF "_law_play" aeD,dF "_law_cell" aek,dM "Commons" "history" "Commons.history" Bt,dF "_law_whole" abJ,dF "_law_like" RP,dF "_law_long" aep]
def fn8:List He.DefD:=[dF "_law_tears" aaT,dF "tears_since" JF,dF "_law_marks_of" Q6,dF "ended" abm,dF "_law_right" abE,dF "law" MP,dM "Clash" "__init__" "Clash.__init__" Kg]
def fn:List He.DefD:=fn0++fn1++fn2++fn3++fn4++fn5++fn6++fn7++fn8
def exB(K:aqX):Bool:=true&&Kr K kW&&xmB K xmH&&(Wb.all λp=>xsH.contains p.1&&Ur K p.1 p.2)&&aeO K "SHAPES" yO&&He.tupB K "PLACES" [.str "lt",.str "lf",.str "lh",.str "rt",.str "rf",.str "rh"]&&He.tupB K "BARE_EAR" [.int 0,.int 0,.int 0,.int 0,.int 0,.int 0]
def ad0:List Addr:=[3,31,44,56,68,80,92,104,116,128,140,152,164,176,188,200,212,224,236,248,260,272,291,294]
def ad1:List Addr:=[295,300,307,314,319,326,333,378,461,466,486,493,498,503,508,515,522,527,610,619,624,684,695,700]
def ad2:List Addr:=[707,712,717,724,983,994,1001,1006,1011,1018,1023,1030,1037,1044,1051,1058,1065,1072,1079,1086,1093,1100,1107,1114]
def ad3:List Addr:=[30,43,55,67,79,91,103,115,127,139,151,163,175,187,199,211,223,235,247,259,271,290,299,306]
def ad4:List Addr:=[313,318,325,332,377,460,467,468,469,470,471,472,473,474,475,476,477,478,479,480,481,485,492,497]
def ad5:List Addr:=[502,507,514,521,526,609,618,623,683,694,699,706,711,716,723,982,993,1000,1005,1010,1017,1022,1029,1036]
def ad6:List Addr:=[1043,1050,1057,1064,1071,1078,1085,1092,1099,1106,1113,29,32,42,54,66,78,90,102,114,126,138,150,162]
def ad7:List Addr:=[174,186,198,210,222,234,246,258,270,288,289,347,354,361,368,375,376,379,380,396,403,410,417,424]
def ad8:List Addr:=[429,434,439,444,451,458,459,462,463,541,548,555,562,569,576,583,588,595,600,607,608,611,612,638]
def ad9:List Addr:=[645,652,657,664,671,676,681,682,685,686,738,745,752,759,764,771,778,785,792,799,806,813,820,827]
def anp:List Addr:=[832,839,846,853,860,867,874,881,886,893,900,907,914,921,928,933,940,947,952,959,966,973,980,981]
def ane:List Addr:=[984,985,287,346,353,360,367,374,395,402,409,416,423,428,433,438,443,450,457,540,547,554,561,568]
def ang:List Addr:=[575,582,587,594,599,606,637,644,651,656,663,670,675,680,737,744,751,758,763,770,777,784,791,798]
def anE:List Addr:=[805,812,819,826,831,838,845,852,859,866,873,880,885,892,899,906,913,920,927,932,939,946,951,958]
def amF:List Addr:=[965,972,979]
def ad:List Addr:=ad0++ad1++ad2++ad3++ad4++ad5++ad6++ad7++ad8++ad9++anp++ane++ang++anE++amF
abbrev R:PySem.W.OpenRow:=PySem.W.OpenLaw.row PySem.Challenge.rw_earmarks_k56_whole_beasts_and_stories
abbrev hkE:PySem.W.Hook:=acz ad fa fn tbs exB
def obE(s:PySem.W.SharedT):He.AlX:=acB ad fa fn tbs exB (HandSHeadRun.getT s)
theorem ajm(s:PySem.W.SharedT):obE s=hkE.obs s.abs:=ahD (HandSHeadRun.getT_eq s)
abbrev wR(w:World)(b:Bool):World:=w.withFollow "special-get-raises" b
theorem alg(w:World):afQ R (PySem.W.view R.prog [88]) ad exB 40000 nm (wR w false):=by
 intro os
 kernel_rfl
theorem ama(w:World):afW R ad fa fn tbs 40000 (wR w false):=by
 intro os
 kernel_rfl
theorem runAt(w:World):afQ R (PySem.W.view R.prog [88]) ad exB 40000 nm (wR w true):=by
 intro os
 kernel_rfl
theorem alR(w:World):afW R ad fa fn tbs 40000 (wR w true):=by
 intro os
 kernel_rfl
theorem run(w:World):HandSHeadRun.RunEq R (PySem.W.view R.prog [88]) hkE obE 40000 nm w:=PySem.W.byRow2 "special-get-raises" (P:=λw=>HandSHeadRun.RunEq R (PySem.W.view R.prog [88]) hkE obE 40000 nm w) (λw=>Vo (alg w) (ama w)) (λw=>Vo (runAt w) (alR w)) w
end Pr
namespace Ear
open PySem PySem.Spec PyProof.Rows L2 Evl RZ
section
variable{X:Cx}{C:Addr}{bmB:List Value}{B newId initId:String}
theorem afN{x:Str}{p pos:Pos}(F:ExcBaseFacts B newId initId bmB)(q:PySem.W.excIn X.K C bmB newId=true)(gC:X.mg x=some (.ref C))(kC:PySem.W.keepIn X.K (.ref C)=true)(r:Raises X (.ref C))(hg:Gl X x)
  (hn:(x==("__debug__" : Str))=false:=by decide):PMk X (.Call (.Name x p) [] [] pos) (λ_ H Q=>Q (.ref C) none H):=by
 intro pins s σ H Q I h;refine wpAny_Call_Name_kw (ld_glob I hg gC ?_ hn);refine PySem.W.callWith_K0 I.kIn kC ?_;show wpAny _ _ (call (.ref C) []) _ _ _;obtain⟨bm,N,nm,qn,bs,hdct,sn,sub,ab,col,dd,k0,k1,k2,k3,k5,mN,hC,hN,hni,T⟩:=exc_obj I.kIn q;refine wpAny_call_exc_subT F T hC hN hni (λh' e hm=>?_) (arK _);exact mk_of I hm r h (I.hok.gone hm.new)
end
theorem exm_one{K:aqX}{S:Addr}(h1:PySem.W.subIn K (.ref S) (.type "BaseException")=some true)(h2:PySem.W.isClsIn K S=true)(h3:PySem.W.typeIn K (.ref S)=some (.type "type"))(h4:PySem.W.subIn K (.ref S) (.ref S)=some true) :
  PySem.W.exmOne K (.ref S) (.ref S)=some true:=by
 have e1:(PySem.W.subIn K (.ref S) (.type "BaseException")==some true)=true:=by rw[h1]<;>rfl
 have e2:((PySem.W.clsIn K S).isSome&&PySem.W.typeIn K (.ref S)==some (.type "type"))=true:=by rw[h3,aqZ];exact⟨h2,rfl⟩
 show(if (PySem.W.subIn K (.ref S) (.type "BaseException")==some true)=true then(if ((PySem.W.clsIn K S).isSome&&PySem.W.typeIn K (.ref S)==some (.type "type"))=true then PySem.W.subIn K (.ref S) (.ref S) else none) else none)=some true
 rw[if_pos e1,if_pos e2];exact h4
def anv(xs:List Int):Prop:=xs.length=6/\∀x∈xs,0<=x/\x<=9
section
variable{K:aqX}{σ:L2.St}{H:Hp}{te tl:TE}{tt:TT}{vs:List Nat}
def EvS(te:TE)(σ:L2.St)(H:Hp)(P:V->Hp->Prop):Prop:=∀H1,Ex H H1->∀Q:VK,(∀v H2,Ex H1 H2->P v H2->Q v H2)->te σ H1 Q
end
section
variable{K:aqX}{σ:L2.St}{H H':Hp}{te ta tb:TE}{t:TT}{P R:V->Hp->Prop}{v:V}
theorem EvS.mono(e:Ex H H')(h:EvS te σ H P):EvS te σ H' P:=λH1 a Q q=>h H1 (e.trans a) Q q
theorem EvS.imp(h:EvS te σ H P)(k:∀v H',P v H'->R v H'):EvS te σ H R:=λH1 e Q q=>h H1 e Q λv H2 e2 p=>q v H2 e2 (k v H2 p)
end
end Ear
namespace Ear
open PySem PySem.Spec PyProof.Rows L2 Evl RZ
def fL{α:Type}(R:V->α->Prop)(ws:List V)(L:List α):Prop:=ws.length=L.length/\∀(i:Nat) (v:V) (x:α),ws[i]?=some v->L[i]?=some x->R v x
theorem fL.imp{α:Type}{R S:V->α->Prop}{ws:List V}{L:List α}(h:fL R ws L)(k:∀v x,R v x->S v x):fL S ws L:=⟨h.1,λi v x a b=>k v x (h.2 i v x a b)⟩
theorem fL.nil{α:Type}{R:V->α->Prop}:fL R [] []:=⟨rfl,λi v x a _=>by simp at a⟩
theorem fL.snoc{α:Type}{R:V->α->Prop}{ws:List V}{L:List α}{v:V}{x:α}(h:fL R ws L)(k:R v x):fL R (ws++[v]) (L++[x]):=by
 refine⟨by rw[arN,arN,h.1];rfl,λi u y a b=>?_⟩;by_cases hi:i < ws.length
 ·rw[aq7 hi]at a;rw[aq7 (by rw[←h.1];exact hi)]at b;exact h.2 i u y a b
 ·rw[arf (by omega)]at a;rw[arf (by rw[←h.1];omega),←h.1]at b;have hj:i - ws.length=0:=by
   have:=(aqY.mp a).1;simp only[ard,List.length_nil]at this;omega
  rw[hj]at a b;cases a;cases b;exact k
def Ja(H:Hp)(v:V)(l:List Int):Prop:=∃h:Addr,v=.ref h/\H h=some (.tup (l.map V.int))
theorem Ja.mono{H H':Hp}(e:Ex H H'){v:V}{l:List Int}(h:Ja H v l):Ja H' v l:=by obtain⟨a,e1,h1⟩:=h;exact⟨a,e1,e _ _ h1⟩
theorem Ja.upd{H:Hp}{D:Addr}{acc:List V}{o:HO}(hD:H D=some (.lst acc)){v:V}{l:List Int}(h:Ja H v l):Ja (upd H D o) v l:=by obtain⟨a,e1,h1⟩:=h;refine⟨a,e1,?_⟩;rw[upd_ne (λz=>by rw[z,hD]at h1;cases h1)];exact h1
abbrev Rw:Type:=Int×List Int
def M6(H:Hp)(v:V)(r:Rw):Prop:=∃t m:Addr,v=.ref t/\H t=some (.tup [.int r.1,.ref m])/\H m=some (.tup (r.2.map V.int))
theorem M6.mono{H H':Hp}(e:Ex H H'){v:V}{r:Rw}(h:M6 H v r):M6 H' v r:=by obtain⟨t,m,e1,h1,h2⟩:=h;exact⟨t,m,e1,e _ _ h1,e _ _ h2⟩
theorem M6.upd{H:Hp}{D:Addr}{acc:List V}{o:HO}(hD:H D=some (.lst acc)){v:V}{r:Rw}(h:M6 H v r):M6 (upd H D o) v r:=by
 obtain⟨t,m,e1,h1,h2⟩:=h;refine⟨t,m,e1,?_,?_⟩
 ·rw[upd_ne (λz=>by rw[z,hD]at h1;cases h1)];exact h1
 ·rw[upd_ne (λz=>by rw[z,hD]at h2;cases h2)];exact h2
def amk(r:Rw):Prop:=1<=r.1/\anv r.2
structure Tab(R:List Rw):Prop where
 len:R.length<=128
 ok:∀r∈R,amk r
 few:∃D:List Rw,D.length<=64/\∀r∈R,r∈D
theorem Tab.sub{R S:List Rw}(h:Tab R)(hs:∀r∈S,r∈R)(hl:S.length<=128):Tab S:=by obtain⟨D,d1,d2⟩:=h.few;exact⟨hl,λr hr=>h.ok r (hs r hr),D,d1,λr hr=>d2 r (hs r hr)⟩
theorem fL.get{α:Type}{R:V->α->Prop}{ws:List V}{L:List α}(h:fL R ws L){i:Nat}{v:V}(g:ws[i]?=some v):∃x,L[i]?=some x/\R v x:=by
 have hi:=(aqY.mp g).1;have hi':i < L.length:=by rw[←h.1];exact hi
 exact⟨L[i],aq0 hi',h.2 i v _ g (aq0 hi')⟩
theorem fL.mem{α:Type}{R:V->α->Prop}{ws:List V}{L:List α}(h:fL R ws L){v:V}(m:v∈ws):∃x,x∈L/\R v x:=by obtain⟨i,hi,e⟩:=List.getElem_of_mem m;obtain⟨x,g,r⟩:=h.get (aqY.mpr ⟨hi,e⟩);exact⟨x,aq2 g,r⟩
theorem fL.take{α:Type}{R:V->α->Prop}{ws:List V}{L:List α}(h:fL R ws L)(n:Nat):fL R (ws.take n) (L.take n):=by
 refine⟨by rw[List.length_take,List.length_take,h.1],λi v x a b=>?_⟩;rw[List.getElem?_take]at a b;by_cases c:i < n
 ·rw[if_pos c]at a b;exact h.2 i v x a b
 ·rw[if_neg c]at a;cases a
theorem fL.drop{α:Type}{R:V->α->Prop}{ws:List V}{L:List α}(h:fL R ws L)(n:Nat):fL R (ws.drop n) (L.drop n):=by refine⟨by rw[ar6,ar6,h.1],λi v x a b=>?_⟩;rw[List.getElem?_drop]at a b;exact h.2 _ v x a b
section
variable{X:Cx}
def afV(xs:List V)(ds:List PyData)(x:V)(d:PyData):Prop:=∃i:Nat,xs[i]?=some x/\ds[i]?=some d
@[irreducible]def HW (K:aqX):List V->Hp->VK->Prop:=λvs H Q=>∃(a:Addr) (xs:List V) (ds:List PyData),vs=[V.ref a]/\SqL K H a xs/\DpAll K H xs ds/\PySem.W.AllAlike ds/\PySem.W.Sortable ds/\(∀d∈ds,d.depth<=60)/\
 ∀(ys:List V) (p:Addr),fL (afV xs ds) ys (ds.mergeSort (PySem.W.dataLe false id))->H p=none->Q (.ref p) (upd H p (.lst ys))
theorem Yn:∀(xs:List V) (ds:List PyData) (its:List Value) (P:Value->PyData->Prop),Vals xs its->PySem.W.EachIs P its ds->
  PySem.W.EachIs (λv d=>∃(i:Nat) (x:V),RelV x v/\xs[i]?=some x/\ds[i]?=some d) its ds
 |[],_,_,_,.nil,.nil=>.nil
 |_::_,[],_,_,.cons _ _,k=>nomatch k
 |x::xs,d::ds,u::us,P,.cons r t,.cons _ k=>.cons ⟨0,x,r,rfl,rfl⟩ ((Yn xs ds us P t k).mono λv d ⟨i,y,a,b,c⟩=>⟨i+1,y,a,b,c⟩)
theorem Wu{xs:List V}{ds:List PyData}:∀(out:List Value) (L:List PyData),PySem.W.EachIs (λv d=>∃(i:Nat) (x:V),RelV x v/\xs[i]?=some x/\ds[i]?=some d) out L->∃ys,Vals ys out/\fL (afV xs ds) ys L
 |[],[],.nil=>⟨[],.nil,fL.nil⟩
 |v::out,d::L,.cons ⟨i,x,r,a,b⟩ k=>by
  obtain⟨ys,h1,h2⟩:=Wu out L k;refine⟨x::ys,.cons r h1,by rw[ard,ard,h2.1],λj u y g1 g2=>?_⟩;cases j with
  |zero=>
   cases g1;cases g2;exact⟨i,a,b⟩
  |succ j=>exact h2.2 j u y g1 g2
theorem abO(hu:X.A.units+65 < cLine):CallR X (.builtin "sorted") (HW X.K):=by
 intro pins s σ H vs us Q I r h;unfold HW at h;obtain⟨a,xs,ds,rfl,hs,hd,hal,hk,hz,q⟩:=h;obtain⟨u,rfl,ru⟩:=vals1 r
 obtain rfl:u=Value.ref a:=ru
 obtain⟨its,rv,hl,hsz⟩:=I.list hs;obtain⟨as,hr⟩:=Dp.readsAll I ds xs its hd rv;have er:PySem.W.EachIs (λv d=>∃as,Reads s.heap v (id d) as) its ds:=PySem.W.readsAll_each id (by rw[List.map_id];exact hr);have hn:=SeqAt.ReadsAll.length ds its as hr;have hl2:=rv.length;refine PySem.W.sorted_data (enc:=id) hl.isList (Yn xs ds its _ rv er) er (by rw[List.map_id];exact hal) (by rw[List.map_id];exact hk) (by omega) (λd m=>?_) λout hlen hout=>?_
 ·have:=hz d m;show X.A.units+2+d.depth < cLine;omega
 ·obtain⟨ys,v1,v2⟩:=Wu out _ hout;obtain⟨ep,he'⟩:=PyProof.Rows.sortedAll_at s.heap its out.toArray;have hy:ys.length=ds.length:=by
   rw[v2.1,List.length_mergeSort]
  refine⟨.ref _,upd H (s.heap.objs.size+1) (.lst ys),I.laid (t':=s.toks) (λ_ _=>PyProof.Rows.sortedAll_old) (Nat.le_succ _) ⟨by omega,out,ep,v1,by simpa using he'⟩,rfl,q ys _ v2 (I.hok.fresh (Nat.le_succ _))⟩
end
@[irreducible]def Ri (K:aqX):R2:=λx y H Q=>∃d e:PyData,Dp K H x d/\Dp K H y e/\PySem.W.alike d e=true/\d≠.none/\d.depth<=60/\Q (.bl (PySem.W.dataLt d e)) H
theorem afv{X:Cx}(hu:X.A.units+65 < cLine):OpR X (compareOp .Lt) (Ri X.K):=by intro pins s σ H x y v u Q I rx ry h;unfold Ri at h;obtain⟨d,e,hd,he,ha,hn,hz,q⟩:=h;obtain⟨as,r1⟩:=Dp.reads I d x v hd rx;obtain⟨bs,r2⟩:=Dp.reads I e y u he ry;exact PySem.W.lt_data r1 r2 ha hn (by omega) ⟨.bl _,H,I,rfl,q⟩
def EvR(te:TE)(σ:L2.St)(H:Hp)(P:List V->Hp->Prop):Prop:=∀H1,Ex H H1->∀Q:VK,(∀p H2 us,Ex H1 H2->H2 p=some (.lst us)->P us H2->Q (.ref p) H2)->te σ H1 Q
def EvM(te:TE)(σ:L2.St)(H:Hp)(P:List V->Hp->Prop):Prop:=∀H1,Ex H H1->∀Q:VK,(∀p H2 us,H1 p=none->Ex H1 H2->H2 p=some (.lst us)->P us H2->Q (.ref p) H2)->te σ H1 Q
structure aiM{α:Type}(Rel:Hp->V->α->Prop):Prop where
 mono:∀{H H':Hp} {v:V} {x:α},Ex H H'->Rel H v x->Rel H' v x
 upd:∀{H:Hp} {D:Addr} {acc:List V} {o:HO} {v:V} {x:α},H D=some (.lst acc)->Rel H v x->Rel (upd H D o) v x
theorem fL.mono{α:Type}{Rel:Hp->V->α->Prop}(S:aiM Rel){H H':Hp}(e:Ex H H'){ws:List V}{L:List α}(h:fL (Rel H) ws L):fL (Rel H') ws L:=h.imp λ_ _ r=>S.mono e r
theorem fL.upd{α:Type}{Rel:Hp->V->α->Prop}(S:aiM Rel){H:Hp}{D:Addr}{acc:List V}{o:HO}(hD:H D=some (.lst acc)){ws:List V}{L:List α}(h:fL (Rel H) ws L):fL (Rel (upd H D o)) ws L:=h.imp λ_ _ r=>S.upd hD r
section
variable{K:aqX}{σ:L2.St}{H:Hp}{te tl:TE}{tt:TT}{vs:List Nat}{α:Type}
theorem EvM.r{P:List V->Hp->Prop}(h:EvM te σ H P):EvR te σ H P:=λH1 e Q q=>h H1 e Q λp H2 us _ a b c=>q p H2 us a b c
theorem EvM.imp{P R:List V->Hp->Prop}(h:EvM te σ H P)(k:∀us H',P us H'->R us H'):EvM te σ H R:=λH1 e Q q=>h H1 e Q λp H2 us n a b c=>q p H2 us n a b (k us H2 c)
end
theorem XR:∀a b:List Int,PyData.eqvAll (a.map PyData.int) (b.map PyData.int)=decide (a=b)
 |[],[]=>by rw[arZ,PyData.eqvAll];rfl
 |[],y::ys=>by rw[arZ,aq1,PyData.eqvAll];rfl
 |x::xs,[]=>by rw[arZ,aq1,PyData.eqvAll];rfl
 |x::xs,y::ys=>by
  rw[aq1,aq1,PyData.eqvAll,XR xs ys,PyData.eqv,ar0];simp
def dT(l:List Int):PyData:=.tuple (l.map PyData.int)
theorem lay_ints:∀l:List Int,PyData.canLayAll0 (l.map PyData.int)=true/\PyData.depthAll (l.map PyData.int)=0
 |[]=>⟨by rw[arZ,PyData.canLayAll0],by rw[arZ,PyData.depthAll]⟩
 |x::xs=>by
  have ih:=lay_ints xs;refine⟨?_,?_⟩
  ·rw[aq1,PyData.canLayAll0,PyData.canLay0,ih.1];rfl
  ·rw[aq1,PyData.depthAll,PyData.depth,ih.2];rfl
def rD(r:Rw):PyData:=.tuple [.int r.1,dT r.2]
theorem ada(r:Rw):(rD r).canLay0=true/\(rD r).depth=2:=by
 have h:=lay_ints r.2;unfold rD dT;refine⟨?_,?_⟩
 ·rw[PyData.canLay0,PyData.canLayAll0,PyData.canLayAll0,PyData.canLayAll0,PyData.canLay0,PyData.canLay0,h.1];rfl
 ·rw[PyData.depth,PyData.depthAll,PyData.depthAll,PyData.depthAll,PyData.depth,PyData.depth,h.2];rfl
def rk(r:Rw):List Int:=r.1::r.2
theorem adk:PySem.W.rowLt [] []=false:=PyProof.Rows.lex_irrefl _
theorem agL(l m:List Int):PySem.W.rowLt [dT l] [dT m]=decide (l < m):=by
 have al:PySem.W.alike (dT l) (dT m)=true:=by unfold dT;rw[PySem.W.alike];exact PySem.W.alike_ints l m
 have ev:PyData.eqv (dT l) (dT m)=decide (l=m):=by unfold dT;rw[PyData.eqv,XR]
 have h:PySem.W.rowLt [dT l] [dT m]=if PyData.eqv (dT l) (dT m)=true then PySem.W.rowLt [] [] else PySem.W.dataLt (dT l) (dT m):=PySem.W.dataLt_cons al [] []
 rw[h,ev,adk];by_cases c:l=m
 ·rw[if_pos (decide_eq_true c),c];exact(decide_eq_false (List.lt_irrefl _)).symm
 ·rw[if_neg (by rw[asj];exact c)];show PySem.W.dataLt (.tuple (l.map PyData.int)) (.tuple (m.map PyData.int))=_;rw[PySem.W.dataLt_tuple];exact PySem.W.dataLt_ints l m
theorem aaI(x y:Int)(ds es:List PyData)(l m:List Int)(h:PySem.W.rowLt ds es=decide (l < m)):PySem.W.rowLt (.int x::ds) (.int y::es)=decide (x::l < y::m):=by
 have al:PySem.W.alike (.int x) (.int y)=true:=by rw[PySem.W.alike]
 have h2:PySem.W.rowLt (.int x::ds) (.int y::es)=if PyData.eqv (.int x) (.int y)=true then PySem.W.rowLt ds es else PySem.W.dataLt (.int x) (.int y):=PySem.W.dataLt_cons al ds es
 rw[h2,h,PySem.W.dataLt_int,PyData.eqv];by_cases c:x=y
 ·subst c;rw[if_pos (by simp),ar0,asj,asj,List.cons_lt_cons_iff];constructor
  ·exact λk=>Or.inr ⟨rfl,k⟩
  ·rintro(k|k)
   ·omega
   ·exact k.2
 ·rw[if_neg (by simpa using c),ar0,asj,asj,List.cons_lt_cons_iff];constructor
  ·exact Or.inl
  ·rintro(k|k)
   ·exact k
   ·exact absurd k.1 c
theorem ake(a b:Rw):PySem.W.dataLt (rD a) (rD b)=decide (rk a < rk b):=by unfold rD;rw[PySem.W.dataLt_tuple];exact aaI _ _ _ _ _ _ (agL a.2 b.2)
theorem VP(a b:Rw):PySem.W.alike (rD a) (rD b)=true:=by unfold rD dT;rw[PySem.W.alike,PySem.W.alikeAll,PySem.W.alikeAll,PySem.W.alike,PySem.W.alike,PySem.W.alike_ints,PySem.W.alikeAll];rfl
theorem fL.map{α β:Type}{P:V->β->Prop}(f:α->β){ws:List V}{L:List α}(h:fL (λv x=>P v (f x)) ws L):fL P ws (L.map f):=by refine⟨by rw[ara,h.1],λi v x a b=>?_⟩;rw[aq9]at b;obtain⟨y,hy,e⟩:=arz.mp b;rw[←e];exact h.2 i v y a hy
theorem acU{a b:Rw}(h:rk a=rk b):a=b:=by unfold rk at h;injection h with h1 h2;exact Prod.ext h1 h2
def Vy(S:List Rw):Prop:=S.Pairwise λa b=>rk a < rk b
theorem acX:∀{S T:List Rw},Vy S->Vy T->(∀r,r∈S↔r∈T)->S=T
 |[],[],_,_,_=>rfl
 |[],t::T,_,_,h=>absurd ((h t).mpr aq4) (by simp)
 |s::S,[],_,_,h=>absurd ((h s).mp aq4) (by simp)
 |s::S,t::T,hs,ht,h=>by
  obtain⟨hs1,hs2⟩:=List.pairwise_cons.mp hs;obtain⟨ht1,ht2⟩:=List.pairwise_cons.mp ht;have e:s=t:=by
   rcases arh.mp ((h s).mp aq4) with e|m
   ·exact e
   ·rcases arh.mp ((h t).mpr aq4) with e2|m2
    ·exact e2.symm
    ·exact absurd (ht1 s m) (List.lt_asymm (hs1 t m2))
  subst e;have hn:∀{L:List Rw},(∀r∈L,rk s < rk r)->s∉L:=λhL m=>List.lt_irrefl _ (hL s m);rw[acX hs2 ht2 λr=>?_];constructor
  ·intro m;rcases arh.mp ((h r).mp (aq3 _ m)) with e|m2
   ·rw[e]at m;exact absurd m (hn hs1)
   ·exact m2
  ·intro m;rcases arh.mp ((h r).mpr (aq3 _ m)) with e|m2
   ·rw[e]at m;exact absurd m (hn ht1)
   ·exact m2
theorem KJ(a b:Rw):PySem.W.dataLe false rD a b=decide (rk a<=rk b):=by
 show(!PySem.W.dataLt (rD b) (rD a))=_
 rw[ake,ar0,arj,decide_eq_false_iff_not,asj];exact List.not_lt
theorem aes{α β:Type}{R:α->β->Prop}{as cs:List α}(p:as.Perm cs):∀{bs:List β},PySem.W.EachIs R as bs->∃ds,ds.Perm bs/\PySem.W.EachIs R cs ds:=by
 induction p with
 |nil=>
  intro bs h;cases h;exact⟨[],List.Perm.refl _,.nil⟩
 |cons x _ ih=>
  intro bs h;cases h with
  |cons r t=>
   obtain⟨ds,h1,h2⟩:=ih t;exact⟨_::ds,h1.cons _,.cons r h2⟩
 |swap x y l=>
  intro bs h;cases h with
  |cons r t=>
   cases t with
   |cons r2 t2=>exact⟨_,List.Perm.swap _ _ _,.cons r2 (.cons r t2)⟩
 |trans _ _ ih1 ih2=>
  intro bs h;obtain⟨ds,a1,a2⟩:=ih1 h;obtain⟨es,b1,b2⟩:=ih2 a2;exact⟨es,b1.trans a1,b2⟩
section
variable{P:Program}{w:World}{A:Around}{E:Value->Shared->Prop}{s:Shared}
theorem aaE{β:Type}{a:Addr}{es:Array (Int×Value)}{ep:Nat}{t:SetTable}{enc:β->PyData}{bs:List β}{R:Value->β->Prop}{Q:Value->Shared->Prop}(hh:A.handled=none)(ha:SetAt s.heap a es ep t)(hf:t.fits es.size=true)(hsz:es.size < scanBound)(hr:Ris t.place.toList)
  (hl:w.params.followText "set-order"=true∨t.led=true) (e:PySem.W.EachIs (λv b=>R v b/\∃as,Reads s.heap v (enc b) as) (es.toList.map (·.2)) bs) (hal:PySem.W.AllAlike (bs.map enc)) (hk:PySem.W.Sortable (bs.map enc)) (hu:∀b∈bs,A.units+2+(enc b).depth < cLine)
  (hQ:∀(s':Shared) (p:Addr) (out:List Value) (c:Nat) (cs:List β),(∀b o,s.heap.get? b=some o->s'.heap.get? b=some o)->s'.gens=s.gens->s'.os=s.os->s.heap.objs.size<=p->s'.heap.get? p=some (seqObj "list" out.toArray c)->
   cs.Perm bs->PySem.W.EachIs R out (cs.mergeSort (PySem.W.dataLe false enc))->Q (.ref p) s') :
  wpAny (model P w) A (call (.builtin "sorted") [.ref a]) Q E s:=by
 refine Calls.call_function_entry kind_sorted plain_sorted entry_sorted (args_sorted1 _) ?_;unfold Builtin.«sorted»;refine wpAny_bind (m:=checkCount "sorted" 1 1 _) (wpAny_pure ?_)
 refine wpAny_bind (collect_set (A:=A.in1) hh ha hf hsz hr hl λt1 vals kept grown g1 o1 pm=>?_);obtain⟨cs,pc,ec⟩:=aes pm.symm e;have lc:vals.length=cs.length:=ec.length;have lb:cs.length=bs.length:=pc.length_eq;have lz:vals.length<=sizeLine:=by rw[pm.length_eq,ara,arG,sizeLine_eq];unfold scanBound at hsz;omega
 refine wpAny_bind (wpAny_newList ?_ lz);have here:(t1.heap.push (seqObj "list" vals.toArray 0)).get? t1.heap.objs.size=some (seqObj "list" vals.toArray 0):=Heap.get?_push_size _ rfl
 have stays:∀b o,s.heap.get? b=some o->(t1.heap.push (seqObj "list" vals.toArray 0)).get? b=some o:=λb o q=>Heap.get?_push_of_some _ (kept b o q)
 have al:PySem.W.AllAlike (cs.map enc):=λd hd d' hd'=>hal d ((pc.map enc).mem_iff.mp hd) d' ((pc.map enc).mem_iff.mp hd');have sk:PySem.W.Sortable (cs.map enc):=by
  rcases hk with k|k
  ·exact .inl λd hd=>k d ((pc.map enc).mem_iff.mp hd)
  ·exact .inr λd hd=>k d ((pc.map enc).mem_iff.mp hd)
 refine wpAny_bind (wpAny_holding (PySem.W.list_sort_data (s:={ t1 with heap:=t1.heap.push (seqObj "list" vals.toArray 0) }) (enc:=enc) here (ec.mono λv b h=>h.1) (ec.mono λv b ⟨_,as,r⟩=>⟨as,PySem.W.reads_keeps stays r,λm=>?rd⟩) al sk (by omega) (λb hb=>?un) λout lo eo=>?fin))
 case rd=>
  obtain⟨o,q⟩:=PyProof.On.reads_mem_get r _ m;have hlt:t1.heap.objs.size < s.heap.objs.size:=Heap.lt_size q;exact absurd grown (Nat.not_le_of_lt hlt)
 case fin=>
  obtain⟨c,hc⟩:=sortedHeap_at (vs:=vals) (out:=out.toArray) here;refine wpAny_pure ⟨_,rfl,hQ _ t1.heap.objs.size out c cs (λb o q=>?_) g1 o1 grown hc pc eo⟩;have hlt:=Heap.lt_size (kept b o q)
  show(sortedHeap (t1.heap.push (seqObj "list" vals.toArray 0)) t1.heap.objs.size vals out.toArray).get? b=some o
  rw[sortedHeap_old (arE hlt) (by rw[size_push'];exact arX hlt)];exact stays b o q
 case un=>
  have:=hu b (pc.mem_iff.mp hb);show A.in1.units+1+_ < _;have e1:A.in1.units=A.units+1:=rfl;omega
end
section
variable{P:Program}{w:World}{A:Around}{E:Value->Shared->Prop}{s:Shared}
def nk(r:Rw):NestedKey:=.tup [.num r.1,.tup (r.2.map .num)]
theorem Yv:∀a b:List Int,a.map NestedKey.num=b.map NestedKey.num->a=b
 |[],[],_=>rfl
 |[],_::_,h=>by cases h
 |_::_,[],h=>by cases h
 |x::a,y::b,h=>by
  rw[aq1,aq1]at h;injection h with h1 h2;injection h1 with h1;rw[h1,Yv a b h2]
theorem adq{a b:Rw}(h:nk a=nk b):a=b:=by unfold nk at h;injection h with h;injection h with h1 h;injection h with h2 _;injection h1 with h1;injection h2 with h2;exact Prod.ext h1 (Yv _ _ h2)
theorem QZ:∀l:List Int,NestedKey.depthAll (l.map .num)=0
 |[]=>by rw[arZ,NestedKey.depthAll]
 |x::l=>by
  rw[aq1,NestedKey.depthAll,NestedKey.depth,QZ l];rfl
theorem afk(r:Rw):(nk r).depth=2:=by unfold nk;rw[NestedKey.depth,NestedKey.depthAll,NestedKey.depthAll,NestedKey.depthAll,NestedKey.depth,NestedKey.depth,QZ];rfl
def oK(P:Program)(w:World):HeapKind P w Rw where
 is:=λh r a=>(nestedKind P w).is h (nk r) a
 hash:=λr=>(nestedKind P w).hash (nk r)
 draws:=λr=>(nestedKind P w).draws (nk r)
 room:=(nestedKind P w).room
 inj:=λhx hy=>adq ((nestedKind P w).inj hx hy)
 keeps:=λx ho hd hs=>(nestedKind P w).keeps x ho hd hs
 pyHash:=λhu hk h=>(nestedKind P w).pyHash hu hk h
 eqBool:=λ{A E s x y a b Q} hu hx hy h=>(nestedKind P w).eqBool hu hx hy (by
  have e:decide (nk x=nk y)=decide (x=y):=by rw[decide_eq_decide];exact⟨adq,λh=>by rw[h]⟩
  rw[e];exact h)
 quiet:=λhk h=>(nestedKind P w).quiet hk h
abbrev RI(h:Heap)(r:Rw)(a:Addr):Prop:=NestedIs h (nk r) (.ref a)/\(nk r).depth<=8
theorem Uj{h h':Heap}{r:Rw}{a:Addr}(x:RI h r a)(k:∀c o,h.get? c=some o->h'.get? c=some o):RI h' r a:=⟨NestedIs.at (λb o _ _ e _=>k b o e) _ _ x.1,x.2⟩
theorem Yr{h h':Heap}{r:Rw}{a d:Addr}{o:Obj}{es:Array (Int×Value)}{ep:Nat}{t:SetTable}(x:RI h r a)(ho:h.get? d=some o)(hd:o.data=.set es ep t)(sb:Heap.SameBut d h h'):RI h' r a:=by
 refine⟨NestedIs.at (λb ob vs n hb hc=>(sb.2 b λe=>?_).trans hb) _ _ x.1,x.2⟩;subst e
 obtain rfl:ob=o:=ark (hb.symm.trans ho)
 rw[hd]at hc;cases hc
theorem Jj{h:Heap}{i:Int}{v:Value}(x:NestedIs h (.num i) v)(n:Nat):ofAClassStatement n v=pure false/\hashByValue n v=pure true:=by
 cases x with
 |bool _=>cases n<;>exact⟨rfl,rfl⟩
 |int _ t=>cases n<;>exact⟨rfl,rfl⟩
theorem Ye{h:Heap}:∀(l:List Int) (vs:List Value),NestedAll h (l.map .num) vs->∀v∈vs,∃i,NestedIs h (.num i) v
 |[],_,x,v,hv=>by
  cases x;cases hv
 |i::l,_,x,v,hv=>by
  rw[aq1]at x;cases x with
  |cons x1 x2=>
   rcases arh.mp hv with e|hv
   ·exact⟨i,by rw[e];exact x1⟩
   ·exact Ye l _ x2 v hv
theorem aaP{n:Nat}{a:Addr}{o:Obj}{vs:Array Value}{m:Nat}(ho:s.heap.get? a=some o)(hc:o.cls=.type "tuple")(hd:o.data=.seq vs m)(hq:∀v∈vs.toList,∀(E:Value->Shared->Prop) (Q:Bool->Shared->Prop),Q false s->wpAny (model P w) A (ofAClassStatement n v) Q E s){Q:Bool->Shared->Prop}(q:Q false s) :
  wpAny (model P w) A (ofAClassStatement (n+1) (.ref a)) Q E s:=by
 have hT:s.TypeIs (.ref a) "tuple":=⟨o,ho,hc⟩
 unfold ofAClassStatement;refine wpAny_bind (wpAny_typeOf hT ?_)
 dsimp only
 have eq1:(("tuple" : String)=="tuple")=true:=by decide
 simp only[eq1,if_true,Bool.not_true,arA,if_false]
 try refine wpAny_bind (wpAny_pure ?_)
 try simp only[Bool.not_true,arA,if_false]
 refine wpAny_bind (wpAny_seqItems ho hd ?_)
 dsimp only
 refine wpAny_bind ?_;rw[←Array.forIn_toList];refine wpAny_forIn_list _ (λleft r u=>r.1=none/\u=s/\∀v∈left,v∈vs.toList) _ ?_ ?_ _ _ ⟨rfl,rfl,λv hv=>hv⟩
 ·rintro v left r u ⟨hr,rfl,hall⟩;refine wpAny_bind (hq v (hall v aq4) _ _ ?_);simp only[arA,if_false];exact wpAny_pure ⟨rfl,rfl,λy hy=>hall y (aq3 _ hy)⟩
 ·rintro⟨r1,r2⟩ u ⟨hr,rfl,_⟩;simp only at hr;subst hr;exact wpAny_pure q
theorem Ym{n:Nat}{a:Addr}{o:Obj}{vs:Array Value}{m:Nat}(ho:s.heap.get? a=some o)(hc:o.cls=.type "tuple")(hd:o.data=.seq vs m)(hq:∀v∈vs.toList,∀(E:Value->Shared->Prop) (Q:Bool->Shared->Prop),Q true s->wpAny (model P w) A (hashByValue n v) Q E s){Q:Bool->Shared->Prop}(q:Q true s) :
  wpAny (model P w) A (hashByValue (n+1) (.ref a)) Q E s:=by
 have hT:s.TypeIs (.ref a) "tuple":=⟨o,ho,hc⟩
 unfold hashByValue;refine wpAny_bind (wpAny_specialOf hT PySem.F.slot_tuple_hash.lookup ?_);show wpAny _ _ (seqItems? (.ref a) >>= _) _ _ s;refine wpAny_bind (wpAny_seqItems ho hd ?_);refine wpAny_bind ?_;show wpAny _ _ (forIn vs _ _) _ _ s;rw[←Array.forIn_toList];refine wpAny_forIn_list _ (λleft r u=>r.1=none/\u=s/\∀v∈left,v∈vs.toList) _ ?_ ?_ _ _ ⟨rfl,rfl,λv hv=>hv⟩
 ·rintro v left r u ⟨hr,rfl,hall⟩;refine wpAny_bind (hq v (hall v aq4) _ _ ?_);simp only[Bool.not_true,arA,if_false];exact wpAny_pure ⟨rfl,rfl,λy hy=>hall y (aq3 _ hy)⟩
 ·rintro⟨r1,r2⟩ u ⟨hr,rfl,_⟩;simp only at hr;subst hr;exact wpAny_pure q
theorem Jo{r:Rw}{a:Addr}(x:RI s.heap r a):(∀{Q:Bool->Shared->Prop},Q false s->wpAny (model P w) A (ofAClassStatement 8 (.ref a)) Q E s)/\∀{Q:Bool->Shared->Prop},Q true s->wpAny (model P w) A (hashByValue 8 (.ref a)) Q E s:=by
 obtain⟨x,_⟩:=x;unfold nk at x;cases x with
 | @tup _ o vs m _ ho hc hd x=>
  have items:∀v∈vs.toList,(∃i,NestedIs s.heap (.num i) v)∨∃b,v=.ref b/\∃o us k,s.heap.get? b=some o/\o.cls=.type "tuple"/\o.data=.seq us k/\∀u∈us.toList,∃i,NestedIs s.heap (.num i) u:=by
   generalize vs.toList=l at x;cases x with
   |cons x1 x=>
    cases x with
    |cons x2 x=>
     cases x;intro v hv;rcases arh.mp hv with e|hv
     ·exact Or.inl ⟨_,by rw[e];exact x1⟩
     ·have e:=aq5.mp hv;cases x2 with
      |tup k1 k2 k3 k4=>exact Or.inr ⟨_,e,_,_,_,k1,k2,k3,Ye _ _ k4⟩
  refine⟨λq=>aaP ho hc hd (λv hv E' Q' q'=>?_) q,λq=>Ym ho hc hd (λv hv E' Q' q'=>?_) q⟩
  ·rcases items v hv with⟨i,y⟩|⟨b,rfl,o',us,k,k1,k2,k3,k4⟩
   ·rw[(Jj y 7).1];exact wpAny_pure q'
   ·refine aaP k1 k2 k3 (λu hu E2 Q2 q2=>?_) q';obtain⟨i,y⟩:=k4 u hu;rw[(Jj y 6).1];exact wpAny_pure q2
  ·rcases items v hv with⟨i,y⟩|⟨b,rfl,o',us,k,k1,k2,k3,k4⟩
   ·rw[(Jj y 7).2];exact wpAny_pure q'
   ·refine Ym k1 k2 k3 (λu hu E2 Q2 q2=>?_) q';obtain⟨i,y⟩:=k4 u hu;rw[(Jj y 6).2];exact wpAny_pure q2
end
abbrev Ent:Type:=Addr×Rw
section
variable{P:Program}{w:World}{A:Around}{E:Value->Shared->Prop}{s:Shared}
def ents(hf:Rw->Int)(L:List Ent):List (Int×Value):=L.map λp=>(hf p.2,Value.ref p.1)
structure qM(hf:Rw->Int)(w:World)(h:Heap)(a:Addr)(L:List Ent)(es:Array (Int×Value))(ep:Nat)(t:SetTable):Prop where
 ob:∃o,h.get? a=some o/\o.ExactSet/\o.data=.set es ep t
 en:es.toList=ents hf L
 tab:TabOk t (L.map λp=>hf p.2)
 nd:(L.map Prod.snd).Nodup
 ky:∀p∈L,RI h p.2 p.1
 pl:t.plain=true
 ld:w.params.followText "set-order"=true∨t.led=true
 free:L.length * 5 < t.mask * 3
 few:L.length<=76
variable{hf:Rw->Int}{a:Addr}{L:List Ent}{es:Array (Int×Value)}{ep:Nat}{t:SetTable}
theorem zq(h:es.toList=ents hf L):es.size=L.length:=by rw[←arG,h];exact ara _
theorem MN(h:es.toList=ents hf L){i:Nat}{p:Ent}(g:L[i]?=some p):es[i]?=some (hf p.2,Value.ref p.1):=by rw[←arL,h];unfold ents;rw[aq9,g];rfl
theorem fits_of(h1:t.place.size=es.size)(h2:t.dummies=#[])(h3:es.size<=t.mask):t.fits es.size=true:=by unfold SetTable.fits SetTable.fill;rw[h2,aqZ,beq_iff_eq,asj];exact⟨h1,by show t.place.size+0<=t.mask;omega⟩
theorem qM.fits(R:qM hf w s.heap a L es ep t):t.fits es.size=true:=by have l1:=zq R.en;have l2:=R.tab.sz;rw[ara]at l2;have l3:=R.free;exact fits_of (by omega) R.tab.dm (by omega)
theorem qM.sound(R:qM hf w s.heap a L es ep t):¬t.gaveWay=true:=by unfold SetTable.gaveWay;rw[mask_odd R.tab.mok];decide
theorem ajF{r:Rw}{b:Addr}{Q:Bool->Shared->Prop}(hx:RI s.heap r b){ys:List Value}(hy:∀y∈ys,∃q c,y=Value.ref c/\RI s.heap q c)(q:Q false s):wpAny (model P w) A (searchCouldBeSeen (.ref b) ys) Q E s:=by
 unfold searchCouldBeSeen;refine wpAny_bind ?_;refine wpAny_forIn_list _ (λleft r u=>r.1=none/\u=s/\∀y∈left,∃q c,y=Value.ref c/\RI s.heap q c) _ ?_ ?_ _ _ ⟨rfl,rfl,hy⟩
 ·rintro v left r u ⟨hr,rfl,hall⟩;obtain⟨q',c,rfl,hc⟩:=hall v aq4;have more:∀y∈left,∃q c,y=Value.ref c/\RI u.heap q c:=λy m=>hall y (aq3 _ m)
  dsimp only
  by_cases hv:(b==c || (carriedByValue (.ref b)&&carriedByValue (.ref c)))=true
  ·exact wp_if_pos hv (wpAny_pure ⟨rfl,rfl,more⟩)
  ·refine wp_if_neg hv ?_;refine wpAny_bind ((oK P w).quiet hx ?_);simp only[Bool.not_true,arA,if_false];refine wpAny_bind ((oK P w).quiet hc ?_);simp only[Bool.not_true,arA,if_false];refine wpAny_bind ((Jo hx).1 ?_);simp only[arA,if_false];refine wpAny_bind ((Jo hc).1 ?_);simp only[arA,if_false];exact wpAny_pure ⟨rfl,rfl,more⟩
 ·rintro⟨r1,r2⟩ u ⟨hr,rfl,_⟩;simp only at hr;subst hr;exact wpAny_pure q
abbrev uR(m:Nat)(h:Int)(c:Nat):SetTable.Probe:=nth m (runAt m (SetTable.bits h % (m+1)) (SetTable.bits h)) c
theorem aaF(m:Nat)(h:Int)(c:Nat):(uR m h c).dummy=none:=by
 have all:∀(n:Nat) (p:SetTable.Probe),p.dummy=none->(nth m p n).dummy=none:=by
  intro n
  induction n with
  |zero=>exact λp k=>k
  |succ n ih=>
   intro p k;refine ih (adv m p) ?_;unfold adv
   split<;>exact k
 exact all c _ rfl
theorem Vx(m:Nat)(h:Int)(c d:Nat):nth m (uR m h c) d=uR m h (c+d):=(nth_add m c _ d).symm
theorem seek(R:qM hf w s.heap a L es ep t){x:Addr}{r:Rw}(hx:RI s.heap r x){h:Int}(hh:hf r=h)(hu:(oK P w).room A){N:Nat}(hN:N < 10 * SetTable.turns t.mask)(out:way t.mask (h) N∉t.place.toList)(inn:∀c,c < N->way t.mask (h) c∈t.place.toList){Q:SetFound->Shared->Prop}
  (yes:r∈L.map Prod.snd->Q (.there none) s) (no:r∉L.map Prod.snd->Q (.free (way t.mask (h) N) false) s) :
  ∀(f c:Nat) (st:Option SetTable.Probe),st.getD (t.probeStart (h))=uR t.mask (h) c->c<=N->N - c < f->
   (∀(i:Nat) (p:Ent),L[i]?=some p->p.2=r->∃d,c<=d/\d < N/\t.place.toList[i]?=some (way t.mask (h) d))->
   wpAny (model P w) A (setSearchFrom a (.ref x) (h) true f st) Q E s:=by
 intro f
 induction f with
 |zero=>exact λ_ _ _ _ hfl _=>absurd hfl (Nat.not_lt_zero _)
 |succ f ih=>
  intro c st hst hc hfl left;obtain⟨o,ho,hex,hd⟩:=R.ob;rw[setSearchFrom_succ];refine wpAny_bind (wpAny_setState_of ho hd R.fits ?_)
  dsimp only
  refine wp_if_neg R.sound ?_
  try refine wpAny_bind (wpAny_pure ?_)
  have jAt:∀d,(nth t.mask (uR t.mask h c) d).j=way t.mask h (c+d):=λd=>congrArg SetTable.Probe.j (Vx t.mask h c d);have hashOf:∀(i:Nat) (p:Ent),L[i]?=some p->(es[i]?.map (·.1)).getD 0=hf p.2:=λi p g=>by
   rw[MN R.en g];rfl
  have spec:=go_spec t R.tab.ris R.tab.dm (λi=>(es[i]?.map (·.1)).getD 0) h (10 * SetTable.turns t.mask) (N - c) (uR t.mask h c) (aaF _ _ _) (by omega) (λd hdn=>by rw[jAt];exact inn (c+d) (by omega)) (by rw[jAt,ar7 hc];exact out);rcases spec with⟨d,i,hdn,hi,hhi,hno,hpr⟩|⟨hno,hpr⟩
  ·have hpr':t.probe (λi=>(es[i]?.map (·.1)).getD 0) h (st.getD (t.probeStart h))=some (.candidate (way t.mask h (c+d)) i (uR t.mask h (c+(d+1)))):=by
    rw[hst,←jAt,←Vx];exact hpr
   rw[hpr']
   dsimp only
   rw[jAt]at hi;have hil:i < L.length:=by have k1:=(aqY.mp hi).1;have k2:=R.tab.sz;rw[ara]at k2;rw[arG]at k1;omega
   obtain⟨p,hp⟩:∃p,L[i]?=some p:=⟨_,aq0 hil⟩;have pm:=aq2 hp;have go:wpAny (model P w) A (searchRest a (.ref x) h true f es t (way t.mask h (c+d)) i (uR t.mask h (c+(d+1)))) Q E s:=by
    unfold searchRest;rw[MN R.en hp]
    dsimp only
    refine wpAny_bind (wpAny_holding ((oK P w).eqBool hu (R.ky p pm) hx ?_));refine wpAny_bind (wpAny_setState_of ho hd R.fits ?_)
    dsimp only
    by_cases same:p.2=r
    ·exact wp_if_pos (by simp[same]) (wpAny_pure (yes (arb.mpr ⟨p,pm,same⟩)))
    ·refine wp_if_neg (by simp[same]) ?_
     try refine wpAny_bind (wpAny_pure ?_)
     rw[sameMem]
     dsimp only
     have live:t.slot (way t.mask h (c+d))=.live i:=slot_live R.tab.ris hi;simp only[if_true,live,MN R.en hp];refine wpAny_bind (wpAny_isSame_ref_self (wpAny_bind (wpAny_pure ?_)));simp only[if_true];refine wp_if_neg (by simp[same]) ?_;refine ih (c+(d+1)) _ rfl (by omega) (by omega) λi0 p0 g0 e0=>?_;obtain⟨d0,a1,a2,a3⟩:=left i0 p0 g0 e0;refine⟨d0,?_,a2,a3⟩;by_cases c1:d0 < c+d
     ·exact absurd ((hashOf i0 p0 g0).trans ((congrArg hf e0).trans hh)) (hno (d0 - c) i0 (by omega) (by rw[jAt,ar7 a1];exact a3))
     ·by_cases c2:d0=c+d
      ·rw[c2]at a3;have live0:=slot_live R.tab.ris a3;rw[live]at live0;injection live0 with ei;rw[←ei,hp]at g0;exact absurd ((congrArg Prod.snd (ark g0)).trans e0) same
      ·omega
   by_cases hl:t.led=true
   ·refine wp_if_neg (by simp[hl]) ?_
    try refine wpAny_bind (wpAny_pure ?_)
    exact go
   ·refine wp_if_pos (by simp[hl]) ?_;refine wpAny_bind (ajF hx (λy hy=>?_) ?_)
    ·obtain⟨e,he,ee⟩:=arb.mp hy;have h1:e∈es/\e.1=h:=by simpa using he
     have h2:e∈es.toList:=by simpa using h1.1
     rw[R.en]at h2;obtain⟨p2,hp2,e2⟩:=arb.mp h2;exact⟨p2.2,p2.1,by rw[←ee,←e2],R.ky p2 hp2⟩
    ·refine wp_if_neg (by decide) ?_
     try refine wpAny_bind (wpAny_pure ?_)
     exact go
  ·have hpr':t.probe (λi=>(es[i]?.map (·.1)).getD 0) h (st.getD (t.probeStart h))=some (.empty (way t.mask h N) none):=by
    have e2:way t.mask h N=(nth t.mask (uR t.mask h c) (N - c)).j:=by rw[jAt,ar7 hc]
    rw[hst,e2];exact hpr
   rw[hpr']
   dsimp only
   refine wpAny_pure (no λhm=>?_);obtain⟨p0,m0,e0⟩:=arb.mp hm;obtain⟨i0,hi0,e1⟩:=List.getElem_of_mem m0;have g0:L[i0]?=some p0:=by rw[aq0 hi0,e1]
   obtain⟨d0,a1,a2,a3⟩:=left i0 p0 g0 e0;exact hno (d0 - c) i0 (by omega) (by rw[jAt,ar7 a1];exact a3) ((hashOf i0 p0 g0).trans ((congrArg hf e0).trans hh))
theorem look(R:qM hf w s.heap a L es ep t){x:Addr}{r:Rw}(hx:RI s.heap r x)(hu:(oK P w).room A){Q:SetFound->Shared->Prop}(yes:r∈L.map Prod.snd->Q (.there none) s)
  (no:∀N,r∉L.map Prod.snd->way t.mask (hf r) N∉t.place.toList->(∀c,c < N->way t.mask (hf r) c∈t.place.toList)->Q (.free (way t.mask (hf r) N) false) s):wpAny (model P w) A (setSearch a (.ref x) (hf r) true) Q E s:=by
 have hfree:=R.free;obtain⟨N,hN,out,inn⟩:=R.tab.first (by rw[ara];omega) (hf r);have small:N < 100000:=by
  have:10 * SetTable.turns t.mask<=1420:=by unfold SetTable.turns;rcases R.tab.mok with e|e|e<;>omega
  omega
 unfold setSearch;refine seek R hx rfl hu hN out inn yes (λhn=>no N hn out inn) 100000 0 none rfl (arK _) (by omega) λi p g e=>?_;have hi:(L.map λp=>hf p.2)[i]?=some (hf r):=by rw[aq9,g,←e];rfl
 have hil:i < t.place.toList.length:=by have k1:=(aqY.mp g).1;have k2:=R.tab.sz;rw[ara]at k2;rw[arG];omega
 obtain⟨c,hc,ec⟩:=R.tab.before out hi (aq0 hil);exact⟨c,arK _,hc,by rw[aq0 hil,ec]⟩
end
section
variable{P:Program}{w:World}{A:Around}{E:Value->Shared->Prop}{s:Shared}{hf:Rw->Int}{a:Addr}{L:List Ent}{es:Array (Int×Value)}{ep:Nat}{t:SetTable}
theorem aeX(L:List Ent)(n:Nat)(x:Addr)(r:Rw):ents hf (L.take n++(x,r)::L.drop n)=(ents hf L).take n++(hf r,Value.ref x)::(ents hf L).drop n:=by unfold ents;rw[arC,aq1,List.map_take,List.map_drop]
theorem range_all(L:List Ent):(List.range L.length).filterMap (λi=>L[i]?)=L:=by
 have part:∀n,n<=L.length->(List.range n).filterMap (λi=>L[i]?)=L.take n:=by
  intro n
  induction n with
  |zero=>exact λ_=>rfl
  |succ n ih=>
   intro hn;rw[List.range_succ,List.filterMap_append,ih (by omega),List.take_add_one,aq0 (show n < L.length by omega)];congr 1;rw[List.filterMap_cons_some (aq0 (show n < L.length by omega))];rfl
 rw[part _ (arq _),List.take_length]
theorem ady(h:es.toList=ents hf L){order:Array Nat}(hp:order.toList.Perm (List.range L.length)) :
  ∃M:List Ent,(order.filterMap (es[·]?)).toList=ents hf M/\M.Perm L/\(M.map λp=>hf p.2)=order.toList.map λi=>(es.map (·.1)).getD i 0:=by
 have inside:∀i∈order.toList,i < L.length:=λi hi=>List.mem_range.mp (hp.mem_iff.mp hi);refine⟨order.toList.filterMap (λi=>L[i]?),?_,?_,?_⟩
 ·have e1:(order.filterMap (es[·]?)).toList=order.toList.filterMap (λi=>es[i]?):=by
   first | rw[Array.toList_filterMap] | simp
  rw[e1];unfold ents;rw[List.map_filterMap];congr 1;funext i;rw[←arL,h];unfold ents;rw[aq9]
 ·have:=hp.filterMap (λi=>L[i]?);rw[range_all]at this;exact this
 ·generalize order.toList=l at inside
  induction l with
  |nil=>rfl
  |cons i l ih=>
   have hi:=inside i aq4;have e5:(es.map (·.1))[i]?=some (hf (L[i]).2):=by rw[Array.getElem?_map,MN h (aq0 hi)];rfl
   rw[List.filterMap_cons_some (aq0 hi),aq1,aq1,ih λj hj=>inside j (aq3 _ hj),Array.getD_eq_getD_getElem?,e5];rfl
theorem alV{o:Obj}(ho:s.heap.get? a=some o)(hex:o.ExactSet)(hd:o.data=.set es ep t)(he:es.toList=ents hf L)(hsz:t.place.size=es.size)(hdm:t.dummies=#[])(hfl:es.size<=t.mask)(nd:(L.map Prod.snd).Nodup)(ky:∀p∈L,RI s.heap p.2 p.1)(pl:t.plain=true)
  (ld:w.params.followText "set-order"=true∨t.led=true) (few:L.length<=76) {wanted M:Nat} (hw:SetTable.sizeAbove wanted - 1=M) (hM:MaskOk M) (hw2:SetTable.sizeAbove wanted<=128) (hn:L.length * 5 < M * 3) {Q:Unit->Shared->Prop}
  (q:∀h' K es' ep' t',Heap.SameBut a s.heap h'->qM hf w h' a K es' ep' t'->K.Perm L->Q () { s with heap:=h' }):wpAny (model P w) A (setRelay a wanted) Q E s:=by
 have len:=zq he;obtain⟨t',order,e,hp,T,em,el,epl,ed⟩:=relaid_ok t (hs:=es.map (·.1)) (wanted:=wanted) hw hM (by rw[Array.size_map,len];omega);rw[Array.size_map,len]at hp;obtain⟨K,k1,k2,k3⟩:=ady he hp;rw[←k3]at T;have ks:(order.filterMap (es[·]?)).size=es.size:=by rw[zq k1,k2.length_eq,len]
 rw[setRelay_eq];refine wpAny_bind (wpAny_setState_of ho hd (fits_of hsz hdm hfl) ?_)
 dsimp only
 refine wp_if_neg (by rw[sizeLine_eq];omega) ?_
 try refine wpAny_bind (wpAny_pure ?_)
 rw[e]
 dsimp only
 refine wpAny_bind ?_;refine wp_if_neg (by rw[ks];simp) ?_
 try refine wpAny_bind (wpAny_pure ?_)
 refine wpAny_pure ?_
 dsimp only
 refine wpAny_storeSet_of ho hd ?_ (by rw[ks,len,sizeLine_eq];omega);have sb:Heap.SameBut a s.heap (s.heap.update a (Obj.putSet (order.filterMap (es[·]?)) t')):=Heap.SameBut.update ..;refine q _ K (order.filterMap (es[·]?)) (ep+1) t' sb ⟨⟨_,store_at ho hd,⟨hex.1,hex.2.1,hex.2.2⟩,rfl⟩,k1,T,(k2.map Prod.snd).nodup_iff.mpr nd,λp hp=>Yr (ky p (k2.mem_iff.mp hp)) ho hd sb,by rw[epl];exact pl,by rw[el];exact ld,?_,by rw[k2.length_eq];exact few⟩ k2;rw[k2.length_eq,em];exact hn
theorem ajE(R:qM hf w s.heap a L es ep t){x:Addr}{r:Rw}(hx:RI s.heap r x)(hu:(oK P w).room A)(hfew:r∉L.map Prod.snd->L.length+1<=76){Q:Bool->Shared->Prop}
  (q:∀b h' K es' ep' t',Heap.SameBut a s.heap h'->qM hf w h' a K es' ep' t'->(r∈L.map Prod.snd->K=L)->(r∉L.map Prod.snd->K.Perm ((x,r)::L))->Q b { s with heap:=h' }):wpAny (model P w) A (setAddHashed a (.ref x) (hf r)) Q E s:=by
 obtain⟨o,ho,hex,hd⟩:=R.ob;have len:=zq R.en;have hfree:=R.free;unfold setAddHashed;refine wpAny_holding ?_;rw[show(100000:Nat)=99999+1 from rfl,setAddHashedIn_succ];refine wpAny_bind (wpAny_setState_of ho hd R.fits ?_)
 dsimp only
 refine wp_if_neg (by simp[byScan,Value.scannable]) ?_
 try refine wpAny_bind (wpAny_pure ?_)
 refine wpAny_bind (look R hx hu (λhm=>?_) λN hm out inn=>?_)
 ·dsimp only
  exact wpAny_pure (q false s.heap L es ep t (Heap.SameBut.refl a s.heap) R (λ_=>rfl) λz=>absurd hm z)
 have few1:=hfew hm
 dsimp only
 refine wpAny_bind (wpAny_setState_of ho hd R.fits ?_)
 dsimp only
 obtain⟨q1,q2,q3,q4,q5,q6,q7,q8,q9⟩:=R.tab.put out inn;have pl1:(t.put (way t.mask (hf r) N)).1.plain=true:=by rw[q6];exact R.pl
 generalize hpt:t.put (way t.mask (hf r) N)=pt at q1 q3 q4 q5 q6 q7 q8 q9 pl1 ⊢;obtain⟨t1,n⟩:=pt
 dsimp only at q1 q3 q4 q5 q6 q7 q8 q9 pl1 ⊢
 subst q1
 first
  |(refine wpAny_bind ?_;refine wp_if_pos pl1 ?_;refine(Jo hx).2 ?_)
  |refine wp_if_pos pl1 (wpAny_bind ((Jo hx).2 ?_))
 simp only[if_true];have ein:(SetTable.insertAt es (SetTable.below t.place (way t.mask (hf r) N)) (hf r,Value.ref x)).toList=ents hf (L.take (SetTable.below t.place (way t.mask (hf r) N))++(x,r)::L.drop (SetTable.below t.place (way t.mask (hf r) N))):=by rw[SetTable.toList_insertAt,aeX,R.en]
 generalize hnn:SetTable.below t.place (way t.mask (hf r) N)=n at q2 q3 ein ⊢;have pm:=put_perm L n (x,r);have hs1:(L.take n++(x,r)::L.drop n).map (λp=>hf p.2)=(L.map λp=>hf p.2).take n++hf r::(L.map λp=>hf p.2).drop n:=by rw[arC,aq1,List.map_take,List.map_drop]
 rw[←hs1]at q3;have nd1:((L.take n++(x,r)::L.drop n).map Prod.snd).Nodup:=by refine(pm.map Prod.snd).nodup_iff.mpr ?_;rw[aq1];exact ar9.mpr ⟨hm,R.nd⟩
 have len1:(SetTable.insertAt es n (hf r,Value.ref x)).size=L.length+1:=by rw[zq ein,pm.length_eq];rfl
 generalize SetTable.insertAt es n (hf r,Value.ref x)=es1 at ein len1 ⊢;have lenM:(L.take n++(x,r)::L.drop n).length=L.length+1:=pm.length_eq;generalize L.take n++(x,r)::L.drop n=M at pm q3 nd1 ein lenM;refine wpAny_bind (wpAny_storeSet_of ho hd ?_ (by rw[len1,sizeLine_eq];omega));have sb:Heap.SameBut a s.heap (s.heap.update a (Obj.putSet es1 t1)):=Heap.SameBut.update ..;have ho1:=store_at (es':=es1) (t':=t1) ho hd;generalize s.heap.update a (Obj.putSet es1 t1)=h1 at sb ho1 ⊢;have ky1:∀p∈M,RI h1 p.2 p.1:=λp hp=>by
  rcases arh.mp (pm.mem_iff.mp hp) with e|m
  ·rw[e];exact Yr hx ho hd sb
  ·exact Yr (R.ky p m) ho hd sb
 have ld1:w.params.followText "set-order"=true∨t1.led=true:=by rw[q5];exact R.ld
 have full:t1.tooFull=true↔(L.length+1) * 5 ≥ t1.mask * 3:=by unfold SetTable.tooFull;rw[asj,q9,ara]
 by_cases hfu:t1.tooFull=true
 ·first
   |(refine wpAny_bind ?_;refine wp_if_pos (by simp[hfu]) ?_)
   |(refine wp_if_pos (by simp[hfu]) ?_;refine wpAny_bind ?_)
  have over:=full.mp hfu;rw[len];have psz:t1.place.size=es1.size:=by have:=q3.sz;rw[ara,lenM]at this;rw[this,len1]
  have which:(t.mask=7/\L.length=4)∨(t.mask=31/\L.length=18):=by
   rcases R.tab.mok with e|e|e
   ·rw[q4,e]at over;rw[e]at hfree;exact Or.inl ⟨e,by omega⟩
   ·rw[q4,e]at over;rw[e]at hfree;exact Or.inr ⟨e,by omega⟩
   ·rw[q4,e]at over;omega
  have go:∀m,SetTable.sizeAbove (SetTable.grown (L.length+1)) - 1=m->MaskOk m->SetTable.sizeAbove (SetTable.grown (L.length+1))<=128->(L.length+1) * 5 < m * 3->
    wpAny (model P w) A (setRelay a (SetTable.grown (L.length+1))) (λ_ u=>wpAny (model P w) A (pure true) Q E u) E { s with heap:=h1 }:=λm g1 g2 g3 g4=>
   alV (s:={ s with heap:=h1 }) ho1 ⟨hex.1,hex.2.1,hex.2.2⟩ rfl ein psz q3.dm (by rw[len1,q4];rcases which with⟨e,e2⟩|⟨e,e2⟩<;>omega) nd1 ky1 pl1 ld1 (by rw[lenM];exact few1) g1 g2 g3 (by rw[lenM];exact g4)
    λh2 K es2 ep2 t2 sb2 R2 pm2=>wpAny_pure (q true h2 K es2 ep2 t2 (sb.trans sb2) R2 (λz=>absurd z hm) λ_=>pm2.trans pm)
  rcases which with⟨_,e2⟩|⟨_,e2⟩
  ·exact go 31 (by rw[e2,size_20]) (.inr (.inl rfl)) (by rw[e2,size_20];decide) (by omega)
  ·exact go 127 (by rw[e2,size_76]) (.inr (.inr rfl)) (by rw[e2,size_76];decide) (by omega)
 ·first
   |refine wp_if_neg (by simp[hfu]) ?_
   |(refine wpAny_bind ?_;refine wp_if_neg (by simp[hfu]) ?_;refine wpAny_pure ?_)
  have under:¬(L.length+1) * 5 ≥ t1.mask * 3:=λz=>hfu (full.mpr z);exact wpAny_pure (q true h1 M es1 (ep+1) t1 sb ⟨⟨_,ho1,⟨hex.1,hex.2.1,hex.2.2⟩,rfl⟩,ein,q3,nd1,ky1,pl1,ld1,by rw[lenM];omega,by rw[lenM];exact few1⟩ (λz=>absurd z hm) λ_=>pm)
end
theorem Dr{α:Type}[DecidableEq α]:∀(l D:List α),l.Nodup->(∀x∈l,x∈D)->l.length<=D.length
 |[],_,_,_=>arK _
 |x::l,D,hn,hs=>by
  obtain⟨h1,h2⟩:=ar9.mp hn;have mx:=hs x aq4;have ih:=Dr l (D.erase x) h2 λy hy=>(List.mem_erase_of_ne (λe=>h1 (by rw[←e];exact hy))).2 (hs y (aq3 _ hy));have e:=List.length_erase_of_mem mx;have hp:=List.length_pos_of_mem mx;rw[ard];omega
structure Has(ks:List Ent)(i:Nat)(L:List Ent):Prop where
 sub:∀p∈L,p∈ks.take i
 all:∀p∈ks.take i,p.2∈L.map Prod.snd
theorem Ef{α:Type}{l:List α}{i:Nat}{x:α}(h:l[i]?=some x):l.take (i+1)=l.take i++[x]:=by rw[List.take_add_one,h];rfl
theorem Has.next{ks L K:List Ent}{i:Nat}{x:Ent}(g:Has ks i L)(h:ks[i]?=some x)(h1:x.2∈L.map Prod.snd->K=L)(h2:x.2∉L.map Prod.snd->K.Perm (x::L)):Has ks (i+1) K:=by
 by_cases c:x.2∈L.map Prod.snd
 ·rw[h1 c];refine⟨λp hp=>?_,λp hp=>?_⟩
  ·rw[Ef h];exact arD _ (g.sub p hp)
  ·rw[Ef h]at hp;rcases aq8.mp hp with m|m
   ·exact g.all p m
   ·rw[aq5.mp m];exact c
 ·have pm:=h2 c;refine⟨λp hp=>?_,λp hp=>?_⟩
  ·rw[Ef h];rcases arh.mp (pm.mem_iff.mp hp) with e|m
   ·exact arM _ (aq5.mpr e)
   ·exact arD _ (g.sub p m)
  ·rw[(pm.map Prod.snd).mem_iff,aq1];rw[Ef h]at hp;rcases aq8.mp hp with m|m
   ·exact aq3 _ (g.all p m)
   ·rw[aq5.mp m];exact aq4
def zK(w:World):Obj:={ cls:=.type "set",dict:=none,data:=.set #[] 0 (.fresh 0 0 (!w.params.followText "set-order")) }
section
variable{P:Program}{w:World}{A:Around}{E:Value->Shared->Prop}{s:Shared}{hf:Rw->Int}
theorem qM.stay{h h':Heap}{a:Addr}{L:List Ent}{es:Array (Int×Value)}{ep:Nat}{t:SetTable}(R:qM hf w h a L es ep t)(ha:∀o,h.get? a=some o->h'.get? a=some o)(hk:∀p∈L,RI h' p.2 p.1):qM hf w h' a L es ep t:=by obtain⟨o,ho,r⟩:=R.ob;exact⟨⟨o,ha o ho,r⟩,R.en,R.tab,R.nd,hk,R.pl,R.ld,R.free,R.few⟩
theorem afA{h:Heap}{a:Addr}(ho:h.get? a=some (zK w)):qM hf w h a [] #[] 0 (.fresh 0 0 (!w.params.followText "set-order")):=by
 refine⟨⟨_,ho,⟨rfl,rfl,rfl⟩,rfl⟩,rfl,⟨List.Pairwise.nil,rfl,rfl,.inl rfl,λx hx=>(by cases hx),λi h j hi=>(by simp at hi)⟩,List.nodup_nil,λp hp=>(by cases hp),rfl,?_,(show 0 * 5 < 7 * 3 by decide),arK _⟩;show _∨(!w.params.followText "set-order")=true
 cases w.params.followText "set-order"
 ·exact .inr rfl
 ·exact .inl rfl
theorem agH(hhf:∀r,(oK P w).hash r=hf r){I:Addr}{fp wr:List Addr}{G:Array GenState->Array GenState->Prop}{n:Nat}{Pv:Nat->Value->Prop}{St:Nat->Shared->Prop}{R:Result->Shared->Prop}(W:WalksS P w A.in1 I fp wr G n Pv St)(S:Addr)(hSf:S∉fp)(ks:List Ent)(hn:n=ks.length)
  (D:List Rw) (hD:D.length<=76) (hkD:∀p∈ks,p.2∈D) (hval:∀i v,Pv i v->∃p,ks[i]?=some p/\v=.ref p.1) (h0:Heap) (hk:∀p∈ks,RI h0 p.2 p.1) (hS0:h0.get? S=none) (hw0:∀b∈wr,h0.get? b=none) (hu:(oK P w).room A.in1) :
  ∀(m i:Nat) (s:Shared),n - i=m->i<=n->St i s->(∀b o,h0.get? b=some o->s.heap.get? b=some o)->(∃L es ep t,qM hf w s.heap S L es ep t/\Has ks i L)->
   (∀u L es ep t,Moved (S::wr) G s u->qM hf w u.heap S L es ep t->Has ks n L->(∀b o,h0.get? b=some o->u.heap.get? b=some o)->R (.ok (.ret .none)) u)->
   codeAny (model P w) A (.builtin "set.update.loop" ⟨[.ref S,.ref I],[]⟩) R s:=by
 have Sw:S∉wr:=λh=>hSf (W.sub _ h);have wS:∀b∈wr,b∈S::wr:=λb hb=>aq3 _ hb;have old:∀{s u:Shared},Moved wr G s u->(∀b o,h0.get? b=some o->s.heap.get? b=some o)->∀b o,h0.get? b=some o->u.heap.get? b=some o:=λhm hkp b o e=>hm.heap b o (λhb=>by rw[hw0 b hb]at e;cases e) (hkp b o e);intro m
 induction m with
 |zero=>
  intro i s hm0 hi hst hkp ⟨L,es,ep,t,hS,g⟩ hR
  obtain rfl:i=n:=by omega
  refine codeAny_builtin PyProof.Rows.F.entry_set_update_loop ?_;rw[Around.under_plainId PyProof.Rows.F.plain_set_update_loop _];refine wpAny_bind (W.done s _ _ hst λu hm=>?_);have kept:=old hm hkp;exact wpAny_pure (hR u L es ep t (hm.mono wS) (hS.stay (λo e=>hm.heap S o Sw e) λp hp=>Uj (hk p (arY (g.sub p hp))) kept) g kept)
 |succ m ih=>
  intro i s hm0 hi hst hkp ⟨L,es,ep,t,hS,g⟩ hR;have hlt:i < n:=by omega
  refine codeAny_builtin PyProof.Rows.F.entry_set_update_loop ?_;rw[Around.under_plainId PyProof.Rows.F.plain_set_update_loop _];refine wpAny_bind (W.item i s _ _ hlt hst λv u hP hst' hm=>?_);obtain⟨p,hp,rfl⟩:=hval i v hP;have kept:=old hm hkp;have hS':qM hf w u.heap S L es ep t:=hS.stay (λo e=>hm.heap S o Sw e) λq hq=>Uj (hk q (arY (g.sub q hq))) kept;have hx:RI u.heap p.2 p.1:=Uj (hk p (aq2 hp)) kept;refine wpAny_bind (wpAny_holding ?_);unfold setAdd;refine wpAny_holding ?_;refine wpAny_bind ((oK P w).pyHash hu hx ?_);rw[hhf];have inD:∀y∈L.map Prod.snd,y∈D:=λy hy=>by
   obtain⟨q,hq,e⟩:=arb.mp hy;rw[←e];exact hkD q (arY (g.sub q hq))
  refine ajE (s:={ u with toks:=u.toks+(oK P w).draws p.2 }) hS' hx hu (λhnew=>?_) λb h' K es' ep' t' sb hS2 c1 c2=>?_
  ·have:=Dr (p.2::L.map Prod.snd) D (ar9.mpr ⟨hnew,hS.nd⟩) λy hy=>by
    rcases arh.mp hy with e|hy
    ·rw[e];exact hkD p (aq2 hp)
    ·exact inD y hy
   rw[ard,ara]at this;omega
  have kept2:∀b o,h0.get? b=some o->h'.get? b=some o:=λb o e=>(sb.2 b (λz=>by rw[z,hS0]at e;cases e)).trans (kept b o e);refine wpAny_pure ⟨plainId_quiet PyProof.Rows.F.plain_set_update_loop _,ih (i+1) _ (by omega) hlt (W.frame _ u _ _ hst' (Nat.le_add_right _ _) λb hb o e=>?_) kept2 ⟨K,es',ep',t',hS2,g.next hp c1 c2⟩ λv L2 es2 ep2 t2 hm2 hS3 g3 k3=>?_⟩
  ·rw[sb.2 b (λh:b=S=>hSf (by rw[←h];exact hb))];exact e
  ·refine hR v L2 es2 ep2 t2 (Moved.trans W.gtrans ((hm.mono wS).then_heap (Nat.le_add_right _ _) λb o hb e=>?_) hm2) hS3 g3 k3;rw[sb.2 b (λh:b=S=>hb (by rw[h];exact aq4))];exact e
set_option maxHeartbeats 4000000 in
theorem aaC(hhf:∀r,(oK P w).hash r=hf r){l:Addr}{items:Array Value}(ks:List Ent)(D:List Rw)(hD:D.length<=76)(hkD:∀p∈ks,p.2∈D){Q:Value->Shared->Prop}(hh:A.handled=none)(hl:s.heap.IsList l items)(hit:items.toList=ks.map λp=>Value.ref p.1)
  (hk:∀p∈ks,RI s.heap p.2 p.1) (hu:A.units+3+8 < cLine)
  (h:∀(h':Heap) (tk:Nat) L es ep t,qM hf w h' s.heap.objs.size L es ep t->Has ks ks.length L->(∀b o,s.heap.get? b=some o->h'.get? b=some o)->Q (.ref s.heap.objs.size) { s with heap:=h',toks:=tk }) :
  wpAny (model P w) A (call (.type "set") [.ref l]) Q E s:=by
 have isz:items.size=ks.length:=by rw[←arG,hit,ara]
 obtain⟨cc,tl,hmro⟩:=PySem.F.called_set.mro;have hmade:=PySem.F.called_set.made;have hsub:=PySem.F.called_set.sub;refine wpAny_call (codeAny_of_tree ?_);show wpAny _ _ (callAny (.type "set") _) _ _ _
 refine wpAny_pure ⟨Code.quiet_builtin _ (by decide +kernel),codeAny_builtin PySem.F.entry_type_call ?_⟩;rw[Around.under_plain (weight_type_call_type "set" [.ref l] []) rfl]
 have nt:=PySem.F.called_set.notType;have cr:=PySem.F.called_set.canCreate;have hct:=PySem.F.typeCall_set_1 (.ref l)
 (repeat (any_goals first | assumption | wp_step))
 refine codeAny_mono (code_set_led1 (.ref l) (E:=E) (Q₁:=λv u=>v=.ref s.heap.objs.size/\u={ s with heap:=s.heap.push (zK w) }) ⟨rfl,rfl⟩) λr u hr=>?_;cases r with
 |error e=>exact hr
 |ok fl=>
  cases fl with
  |ret v=>
   obtain⟨rfl,rfl⟩:=hr;have hS:(s.heap.push (zK w)).get? s.heap.objs.size=some (zK w):=Heap.get?_push_size _ rfl;have hT:Shared.TypeIs { s with heap:=s.heap.push (zK w) } (.ref s.heap.objs.size) "set":=⟨_,hS,rfl⟩
   have hli:=PySem.F.called_set.init.lookup;have hbi:=PySem.F.called_set.init.bind (.ref s.heap.objs.size)
   (repeat (any_goals first | assumption | wp_step))
   refine codeAny_mono (codeAny_call_builtin (R:=wants (λr u=>r=.none/\∃h' tk L es ep t,u={ s with heap:=h',toks:=tk }/\qM hf w h' s.heap.objs.size L es ep t/\Has ks ks.length L/\∀b o,s.heap.get? b=some o->h'.get? b=some o) E) PySem.F.called_set.init.plain PySem.F.entry_set_init (check_set_init_1 hT ?_)) λr₂ u₂ hr₂=>?_
   ·obtain⟨ol,hol,hcl,nl,hdl⟩:=hl;obtain⟨ocls,odict,odata,oslots⟩:=ol;simp only at hcl hdl;subst hcl;subst hdl;have hol':(s.heap.push (zK w)).get? l=some { cls:=.type "list",dict:=odict,data:=.seq items nl,slots:=oslots }:=Heap.get?_push_of_some _ hol
    have sl1:=PySem.F.sub_list_set;have sl2:=PySem.F.sub_list_frozenset;have nd:(Value.type "list"==Value.type "dict")=false:=by decide
    have hl1:(s.heap.push (zK w)).IsList l items:=⟨_,hol',rfl,nl,rfl⟩;unfold Builtin.«set.__init__» noKeywords Builtin.Frozenset.updateFrom;generalize hPI:pyIter=PI
    wp_walk
    subst hPI;refine wpAny_pyIter_list hl1 ?_;refine wpAny_bind (wpAny_runValue ?_);have lS:l < s.heap.objs.size:=Heap.lt_size hol;have h3:A.in1.in1.in1.handled=none:=by simp[hh]
    have sz1:(s.heap.push (zK w)).objs.size=s.heap.objs.size+1:=Heap.size_push ..;have lI:l≠(s.heap.push (zK w)).objs.size:=by rw[sz1];exact arE (arX lS)
    have Sf:s.heap.objs.size∉[(s.heap.push (zK w)).objs.size,l]:=by rw[sz1];simp only[arh,arF,or_false,not_or];exact⟨arE (Nat.lt_succ_self _),Nat.ne_of_gt lS⟩
    have hval:∀(i:Nat) (v:Value),items[i]?=some v->∃p,ks[i]?=some p/\v=.ref p.1:=λi v hv=>by
     rw[←arL,hit,aq9]at hv;obtain⟨p,g1,g2⟩:=arz.mp hv;exact⟨p,g1,g2.symm⟩
    have fresh:∀b,s.heap.objs.size<=b->s.heap.get? b=none:=λb hb=>by
     cases q:s.heap.get? b with
     |none=>rfl
     |some o=>exact absurd (Heap.lt_size q) (Nat.not_lt_of_le hb)
    refine agH hhf ((Walks.list h3 _ l lI items).toS) s.heap.objs.size Sf ks isz D hD hkD hval s.heap hk (fresh _ (arq _)) (λb hb=>fresh b (by rw[aq5.mp hb,sz1];exact Nat.le_succ _)) hu (items.size - 0) 0 _ (by omega) (arK _)
     ⟨⟨_,Heap.get?_push_size _ rfl,rfl,rfl⟩,(hl1.push _)⟩ (λb o e=>Heap.get?_push_of_some _ (Heap.get?_push_of_some _ e)) ⟨[],#[],0,_,afA (Heap.get?_push_of_some _ hS),⟨λp hp=>(by cases hp),λp hp=>(by simp at hp)⟩⟩ λu L es ep t hm hS' g' kp=>?_
    obtain⟨h',g2,d',tk',os'⟩:=u;have eg:g2=s.gens:=hm.gens;have ed:d'=s.drawn:=hm.drawn;have eo:os'=s.os:=hm.os;subst eg;subst ed;subst eo;refine wpAny_pure ?_;rw[isz]at g';exact wpAny_pure ⟨rfl,h',tk',L,es,ep,t,rfl,hS',g',kp⟩
   ·cases r₂ with
    |error e=>exact hr₂
    |ok fl₂=>
     cases fl₂ with
     |ret r=>
      obtain⟨rfl,h',tk,L,es,ep,t,rfl,hS',g',hk'⟩:=hr₂
      (repeat (any_goals first | assumption | wp_step))
      exact h _ _ _ _ _ _ hS' g' hk'
     |_=>exact hr₂.elim
  |_=>exact hr.elim
end
def acn(w:World)(h:Heap)(a:Addr)(L:List Ent):Prop:=∃(hf:Rw->Int) (es:Array (Int×Value)) (ep:Nat) (t:SetTable),(∃o,h.get? a=some o/\o.ExactSet/\o.data=.set es ep t)/\es.toList=ents hf L/\t.fits es.size=true/\Ris t.place.toList/\(w.params.followText "set-order"=true∨t.led=true)
def M5(w:World)(a:Addr)(L:List Ent):HO:=.ext λh=>acn w h a L
section
variable{X:Cx}
theorem Wn{P:Program}{w:World}{h:Heap}:∀(l:List Int) (us:List Value),Vals (l.map V.int) us->NestedAll h (l.map .num) us
 |[],_,.nil=>.nil
 |i::l,_,.cons r t=>by
  obtain⟨tk,rfl⟩:=r;exact .cons (.int i tk) (Wn (P:=P) (w:=w) l _ t)
theorem Vr:∀{ks:List Ent} {us:List Value},Vals (ks.map λp=>V.ref p.1) us->us=ks.map λp=>Value.ref p.1
 |[],_,.nil=>rfl
 |p::ks,_,.cons r t=>by
  cases r;rw[Vr t];rfl
theorem VF{L:List Ent}:∀(out:List Value) (M:List Rw),PySem.W.EachIs (λv (r:Rw)=>∃p∈L,v=Value.ref p.1/\r=p.2) out M->∃ys:List V,Vals ys out/\fL (λv (r:Rw)=>∃p∈L,v=V.ref p.1/\r=p.2) ys M
 |[],[],.nil=>⟨[],.nil,fL.nil⟩
 |_::out,_::M,.cons ⟨p,hp,e1,e2⟩ k=>by
  obtain⟨ys,h1,h2⟩:=VF out M k;subst e1 e2;refine⟨.ref p.1::ys,.cons rfl h1,by rw[ard,ard,h2.1],λj u y g1 g2=>?_⟩;cases j with
  |zero=>
   cases g1;cases g2;exact⟨p,hp,rfl,rfl⟩
  |succ j=>exact h2.2 j u y g1 g2
end
def gF(da dc:Addr):List (Str×V):=putF ("circles" : Str) (.ref dc) (putF ("allowances" : Str) (.ref da) [])
structure afc(C:Addr)(H:Hp)(p da dc:Addr)(al:List Int)(ci:List (List Int)):Prop where
 ob:∃dx,H p=some (.ins C dx (gF da dc))
 la:H da=some (.lst (al.map V.int))
 lc:∃us,H dc=some (.lst us)/\fL (Ja H) us ci
 ne:da≠dc
theorem afc.mono{C:Addr}{H H':Hp}(e:Ex H H'){p da dc:Addr}{al:List Int}{ci:List (List Int)}(g:afc C H p da dc al ci):afc C H' p da dc al ci:=by obtain⟨⟨dx,ob⟩,la,⟨us,h1,h2⟩,ne⟩:=g;exact⟨⟨dx,e _ _ ob⟩,e _ _ la,⟨us,e _ _ h1,h2.imp λ_ _ r=>r.mono e⟩,ne⟩
end Ear
namespace Rf
open PySem PySem.Spec PyProof.Rows L2 Evl
abbrev obj(h:Nat):Dat:=PyData.dict [(PyData.none,PyData.int (Int.ofNat h))]
inductive jy where
 |dat (d:Dat)|lst (n:Nat) (xs:List Dat)|dic (n:Bool) (kvs:List (Dat×Dat))
structure aQ where
 f:Str->Option Addr
 fl:Str->List Str
 w:World
instance:CoeFun aQ λ_=>Str->Option Addr:=⟨aQ.f⟩
structure Inst where
 cls:Str
 fs:List (Str×jy)
abbrev Mo:=List Inst
inductive Cell where
 |dat (d:Dat)|mut (xs:List Dat)
abbrev Env:=List (Option Cell)
structure dR where
 cls:Str
 fs:List (Str×Dat)
inductive Out(α:Type) where
 |ok (a:α)|exc (x:dR)|bad
inductive bh(α:Type) where
 |ok (a:α) (M:Mo)|exc (x:dR) (M:Mo)|bad
inductive vq where
 |next (Z:Env) (M:Mo)|ret (d:Dat) (M:Mo)|brk (Z:Env) (M:Mo)|cont (Z:Env) (M:Mo)|exc (x:dR) (Z:Env) (M:Mo)|bad
structure Gh where
 tbl:List Addr
 ow:Addr->Option (Nat×Str)
 Lc:Addr->Prop
 Lo:Addr->Prop
def Gh.W(g:Gh)(a:Addr):Prop:=a∈g.tbl∨g.ow a≠none
def Gh.A(g:Gh)(a:Addr):Prop:=g.W a∨g.Lc a∨g.Lo a
def Jk:HO->Prop
 |.tup _=>False
 |.frz _ _=>False
 |_=>True
def amQ(K:aqX)(a:Addr)(xs:List V):Prop:=∃(o:Obj) (its:Array Value) (n:Nat),K.lookup a=some o/\o.cls=.type "list"/\o.dict=none/\o.data=.seq its n/\its.size<=sizeLine/\Vals xs its.toList
def Oo(K:aqX)(g:Gh)(H:Hp)(a:Addr)(xs:List V):Prop:=(Rd H a (.lst xs)/\¬g.A a)∨amQ K a xs
theorem Oo.sq{K:aqX}{g:Gh}{H:Hp}{a:Addr}{xs:List V}(h:Oo K g H a xs):SqL K H a xs:=h.elim (λz=>.inl z.1) .inr
mutual
inductive Rep(K:aqX)(g:Gh)(H:Hp):V->Dat->Prop
 |non:Rep K g H .non .none
 |bl (b:Bool):Rep K g H (.bl b) (.bool b)
 |int (i:Int):Rep K g H (.int i) (.int i)
 |str (x:Str):Rep K g H (.str x) (.str x)
 |tup {a:Addr} {xs:List V} {ds:List Dat}:SqT K H a xs->aK K g H xs ds->Rep K g H (.ref a) (.tuple ds)
 |lst {a:Addr} {xs:List V} {ds:List Dat}:Oo K g H a xs->aK K g H xs ds->Rep K g H (.ref a) (.list ds)
 |obj {a:Addr} {h:Nat}:g.tbl[h]?=some a->Rep K g H (.ref a) (obj h)
inductive aK(K:aqX)(g:Gh)(H:Hp):List V->List Dat->Prop
 |nil:aK K g H [] []
 |cons {v:V} {vs:List V} {d:Dat} {ds:List Dat}:Rep K g H v d->aK K g H vs ds->aK K g H (v::vs) (d::ds)
end
structure Kd(g:Gh)(H:Hp):Prop where
 ob:∀a,g.A a->∃o,H a=some o/\Jk o
 lo:∀a,g.Lo a->¬g.W a
 lc:∀a,g.Lc a->¬g.W a/\¬g.Lo a
structure Gr(q:Bool)(g g':Gh)(H H':Hp):Prop where
 keep:∀a o,H a=some o->¬g.W a->¬g.Lo a->H' a=some o
 keepW:q=true->∀a o,H a=some o->g.W a->H' a=some o
 dom:∀a,H' a=none->H a=none
 tbl:∃more,g'.tbl=g.tbl++more
 W:∀a,g.W a->g'.W a
 nW:∀a,g'.W a->g.W a∨H a=none
 qg:q=true->g'.tbl=g.tbl/\g'.ow=g.ow
 Lc:g'.Lc=g.Lc
 Lo:∀a,g.Lo a->g'.Lo a
 nLo:∀a,g'.Lo a->g.Lo a∨H a=none
section
variable{K:aqX}{q:Bool}{g g' g2:Gh}{H H' H2:Hp}{v:V}{d:Dat}
theorem Gr.refl:Gr q g g H H:=⟨λ_ _ h _ _=>h,λ_ _ _ h _=>h,λ_ h=>h,⟨[],by simp⟩,λ_ h=>h,λ_ h=>.inl h,λ_=>⟨rfl,rfl⟩,rfl,λ_ h=>h,λ_ h=>.inl h⟩
theorem Dk(e:Ex H H'):∀a,H' a=none->H a=none:=λa h=>by
 cases h1:H a with
 |none=>rfl
 |some o=>
  rw[e a o h1]at h;cases h
theorem Gr.ex(e:Ex H H'):Gr q g g H H':=⟨λa o h _ _=>e a o h,λ_ a o h _=>e a o h,Dk e,⟨[],by simp⟩,λ_ h=>h,λ_ h=>.inl h,λ_=>⟨rfl,rfl⟩,rfl,λ_ h=>h,λ_ h=>.inl h⟩
theorem Gr.trans(a:Gr q g g' H H')(b:Gr q g' g2 H' H2):Gr q g g2 H H2 where
 keep:=λx o h nw nl=>by
  have h1:=a.keep x o h nw nl;refine b.keep x o h1 (λz=>?_) (λz=>?_)
  ·rcases a.nW x z with z|z
   ·exact nw z
   ·rw[h]at z;cases z
  ·rcases a.nLo x z with z|z
   ·exact nl z
   ·rw[h]at z;cases z
 keepW:=λhq x o h w=>b.keepW hq x o (a.keepW hq x o h w) (a.W x w)
 dom:=λx h=>a.dom x (b.dom x h)
 tbl:=by obtain⟨m1,e1⟩:=a.tbl;obtain⟨m2,e2⟩:=b.tbl;exact⟨m1++m2,by rw[e2,e1,List.append_assoc]⟩
 W:=λx h=>b.W x (a.W x h)
 nW:=λx h=>by
  rcases b.nW x h with z|z
  ·exact a.nW x z
  ·exact .inr (a.dom x z)
 qg:=λhq=>by
  obtain⟨e1,e2⟩:=a.qg hq;obtain⟨f1,f2⟩:=b.qg hq;exact⟨f1.trans e1,f2.trans e2⟩
 Lc:=b.Lc.trans a.Lc
 Lo:=λx h=>b.Lo x (a.Lo x h)
 nLo:=λx h=>by
  rcases b.nLo x h with z|z
  ·exact a.nLo x z
  ·exact .inr (a.dom x z)
theorem Gr.loud(a:Gr q g g' H H'):Gr false g g' H H':=⟨a.keep,(λh=>nomatch h),a.dom,a.tbl,a.W,a.nW,(λh=>nomatch h),a.Lc,a.Lo,a.nLo⟩
theorem Gr.nA(r:Gr q g g' H H'){a:Addr}{o:HO}(h:H a=some o)(n:¬g.A a):¬g'.A a:=λz=>by
 rcases z with z|z|z
 ·rcases r.nW a z with z|z
  ·exact n (.inl z)
  ·rw[h]at z;cases z
 ·rw[r.Lc]at z;exact n (.inr (.inl z))
 ·rcases r.nLo a z with z|z
  ·exact n (.inr (.inr z))
  ·rw[h]at z;cases z
theorem Gr.rd(r:Gr q g g' H H'){a:Addr}{o:HO}(h:Rd H a o)(n:¬g.A a):Rd H' a o/\¬g'.A a:=by
 rcases h with h|⟨z,h⟩
 ·exact⟨.inl (r.keep a _ h (λw=>n (.inl w)) λw=>n (.inr (.inr w))),r.nA h n⟩
 ·exact⟨.inr ⟨z,r.keep a _ h (λw=>n (.inl w)) λw=>n (.inr (.inr w))⟩,r.nA h n⟩
theorem Kd.tup(k:Kd g H){a:Addr}{xs:List V}(h:Rd H a (.tup xs)):¬g.A a:=λz=>by
 obtain⟨o,e,m⟩:=k.ob a z;rcases h with h|⟨y,h⟩<;>(rw[h]at e;cases e;exact m)
theorem Gr.sqT(r:Gr q g g' H H')(k:Kd g H){a:Addr}{xs:List V}(h:SqT K H a xs):SqT K H' a xs:=by
 rcases h with h|h
 ·exact .inl (r.rd h (k.tup h)).1
 ·exact .inr h
theorem Gr.ls(r:Gr q g g' H H'){a:Addr}{xs:List V}(h:Oo K g H a xs):Oo K g' H' a xs:=by
 rcases h with⟨h,n⟩|h
 ·exact .inl (r.rd h n)
 ·exact .inr h
theorem Gr.tb(r:Gr q g g' H H'){h:Nat}{a:Addr}(e:g.tbl[h]?=some a):g'.tbl[h]?=some a:=by obtain⟨m,em⟩:=r.tbl;rw[em,aq7 (aqY.mp e).1];exact e
mutual
theorem Rep.gr(r:Gr q g g' H H')(k:Kd g H):∀{v:V} {d:Dat},Rep K g H v d->Rep K g' H' v d
 |_,_,.non=>.non
 |_,_,.bl b=>.bl b
 |_,_,.int i=>.int i
 |_,_,.str x=>.str x
 |_,_,.tup h t=>.tup (r.sqT k h) (aK.gr r k t)
 |_,_,.lst h t=>.lst (r.ls h) (aK.gr r k t)
 |_,_,.obj h=>.obj (r.tb h)
theorem aK.gr(r:Gr q g g' H H')(k:Kd g H):∀{vs:List V} {ds:List Dat},aK K g H vs ds->aK K g' H' vs ds
 |_,_,.nil=>.nil
 |_,_,.cons h t=>.cons (Rep.gr r k h) (aK.gr r k t)
end
mutual
theorem Rep.less(e:g'.tbl=g.tbl)(n:∀a,g'.A a->g.A a):∀{v:V} {d:Dat},Rep K g H v d->Rep K g' H v d
 |_,_,.non=>.non
 |_,_,.bl b=>.bl b
 |_,_,.int i=>.int i
 |_,_,.str x=>.str x
 |_,_,.tup h t=>.tup h (aK.less e n t)
 |_,_,.lst h t=>.lst (h.elim (λz=>.inl ⟨z.1,λy=>z.2 (n _ y)⟩) .inr) (aK.less e n t)
 |_,_,.obj h=>.obj (by rw[e];exact h)
theorem aK.less(e:g'.tbl=g.tbl)(n:∀a,g'.A a->g.A a):∀{vs:List V} {ds:List Dat},aK K g H vs ds->aK K g' H vs ds
 |_,_,.nil=>.nil
 |_,_,.cons h t=>.cons (Rep.less e n h) (aK.less e n t)
end
mutual
def lf:Dat->Bool
 |.list _=>false
 |.tuple ds=>lfs ds
 |.dict _=>true
 |.none=>true
 |.bool _=>true
 |.int _=>true
 |.str _=>true
def lfs:List Dat->Bool
 |[]=>true
 |d::ds=>lf d&&lfs ds
end
mutual
theorem Rep.free(e:g'.tbl=g.tbl):∀{v:V} {d:Dat},lf d=true->Rep K g H v d->Rep K g' H v d
 |_,_,_,.non=>.non
 |_,_,_,.bl b=>.bl b
 |_,_,_,.int i=>.int i
 |_,_,_,.str x=>.str x
 |_,_,f,.tup h t=>.tup h (aK.free e (by rw[lf]at f;exact f) t)
 |_,_,f,.lst h t=>by rw[lf]at f;cases f
 |_,_,_,.obj h=>.obj (by rw[e];exact h)
theorem aK.free(e:g'.tbl=g.tbl):∀{vs:List V} {ds:List Dat},lfs ds=true->aK K g H vs ds->aK K g' H vs ds
 |_,_,_,.nil=>.nil
 |_,_,f,.cons h t=>.cons (Rep.free e (by rw[lfs,aqZ]at f;exact f.1) h) (aK.free e (by rw[lfs,aqZ]at f;exact f.2) t)
end
theorem aK.length:∀{vs:List V} {ds:List Dat},aK K g H vs ds->vs.length=ds.length
 |_,_,.nil=>rfl
 |_,_,.cons _ t=>congrArg (· + 1) t.length
theorem aK.get:∀{vs:List V} {ds:List Dat} {i:Nat} {d:Dat},aK K g H vs ds->ds[i]?=some d->∃v,vs[i]?=some v/\Rep K g H v d
 |_,_,_,_,.nil,e=>by simp at e
 |_,_,0,_,.cons h _,e=>by simp at e;subst e;exact⟨_,rfl,h⟩
 |_,_,i+1,_,.cons _ t,e=>by simpa using t.get (i:=i) (by simpa using e)
theorem aK.get':∀{vs:List V} {ds:List Dat} {i:Nat} {v:V},aK K g H vs ds->vs[i]?=some v->∃d,ds[i]?=some d/\Rep K g H v d
 |_,_,_,_,.nil,e=>by simp at e
 |_,_,0,_,.cons h _,e=>by simp at e;subst e;exact⟨_,rfl,h⟩
 |_,_,i+1,_,.cons _ t,e=>by simpa using t.get' (i:=i) (by simpa using e)
theorem aK.append:∀{vs ws:List V} {ds es:List Dat},aK K g H vs ds->aK K g H ws es->aK K g H (vs++ws) (ds++es)
 |_,_,_,_,.nil,t=>t
 |_,_,_,_,.cons h r,t=>.cons h (r.append t)
theorem aK.take:∀{vs:List V} {ds:List Dat} (n:Nat),aK K g H vs ds->aK K g H (vs.take n) (ds.take n)
 |_,_,0,_=>.nil
 |_,_,_+1,.nil=>.nil
 |_,_,n+1,.cons h t=>.cons h (t.take n)
theorem aK.drop:∀{vs:List V} {ds:List Dat} (n:Nat),aK K g H vs ds->aK K g H (vs.drop n) (ds.drop n)
 |_,_,0,t=>t
 |_,_,_+1,.nil=>.nil
 |_,_,n+1,.cons _ t=>t.drop n
theorem aK.set{v:V}{d:Dat}(r:Rep K g H v d):∀{vs:List V} {ds:List Dat} (i:Nat),aK K g H vs ds->aK K g H (vs.set i v) (ds.set i d)
 |_,_,_,.nil=>.nil
 |_,_,0,.cons _ t=>.cons r t
 |_,_,i+1,.cons h t=>.cons h (t.set r i)
theorem Gr.upd{l:Addr}{o o':HO}(k:Kd g H)(h:H l=some o)(w:(g.W l/\q=false)∨g.Lo l):Gr q g g H (L2.upd H l o') where
 keep:=λa u e nw nl=>by
  rw[upd_ne (λz=>by subst z;exact w.elim (λw=>nw w.1) nl)];exact e
 keepW:=λhq a u e wa=>by
  rcases w with w|w
  ·rw[hq]at w;cases w.2
  ·rw[upd_ne (λz=>by subst z;exact k.lo _ w wa)];exact e
 dom:=λa e=>by
  by_cases z:a=l
  ·subst z;rw[upd_same]at e;cases e
  ·rw[upd_ne z]at e;exact e
 tbl:=⟨[],by simp⟩
 W:=λ_ h=>h
 nW:=λ_ h=>.inl h
 qg:=λ_=>⟨rfl,rfl⟩
 Lc:=rfl
 Lo:=λ_ h=>h
 nLo:=λ_ h=>.inl h
theorem Kd.ex(k:Kd g H)(e:Ex H H'):Kd g H':=⟨λa z=>let ⟨o,h,m⟩:=k.ob a z;⟨o,e a o h,m⟩,k.lo,k.lc⟩
theorem Kd.upd(k:Kd g H){l:Addr}{o:HO}(m:Jk o):Kd g (L2.upd H l o):=⟨λa z=>by
 by_cases e:a=l
 ·subst e;exact⟨o,upd_same,m⟩
 ·rw[upd_ne e];exact k.ob a z,k.lo,k.lc⟩
theorem Rep.ex(e:Ex H H')(k:Kd g H)(h:Rep K g H v d):Rep K g H' v d:=h.gr (Gr.ex (q:=true) e) k
theorem aK.ex{vs:List V}{ds:List Dat}(e:Ex H H')(k:Kd g H)(h:aK K g H vs ds):aK K g H' vs ds:=h.gr (Gr.ex (q:=true) e) k
end
def keyD:Key->Dat
 |.inl i=>.int i
 |.inr x=>.str x
def jc(l:Addr)(o:Obj):HO:=.ext λh=>h.get? l=some o
abbrev nO:Type:=NestedKey×Addr×Value
def aen(w:World)(x:nO):DictEntry:=⟨x.1.hash w,.ref x.2.1,x.2.2⟩
structure lX(w:World)(l:Addr)(o:Obj)(xs:List nO):Prop where
 sys:(l==sysModules)=false
 ex:o.ExactDict
 ent:∃es ep,o.data=.dict es ep/\es.toList=xs.map (aen w)
 nd:(xs.map (·.1)).Nodup
 len:xs.length<=sizeLine
 dep:∀x∈xs,x.1.depth<=8
def jO(K:aqX)(aj:aQ)(g:Gh)(H:Hp)(l:Addr):Bool->List (Dat×Dat)->Prop
 |false,kvs=>∃kv:List (Key×V),H l=some (.dK kv)/\kvs.map (·.1)=kv.map (λp=>keyD p.1)/\aK K g H (kv.map (·.2)) (kvs.map (·.2))
 |true,kvs=>∃(o:Obj) (xs:List nO) (vs:List V),H l=some (jc l o)/\lX aj.w l o xs/\kvs.map (·.1)=xs.map (λx=>x.1.data)/\aK K g H (xs.map λx=>V.ref x.2.1) (kvs.map (·.1))/\Vals vs (xs.map (·.2.2))/\aK K g H vs (kvs.map (·.2))
def eE(K:aqX)(aj:aQ)(g:Gh)(H:Hp)(h:Nat)(f:Str)(v:V):jy->Prop
 |.dat d=>Rep K g H v d
 |.lst n xs=>∃l us,v=.ref l/\H l=some (.lst us)/\g.ow l=some (h,f)/\aK K g H us xs/\g.tbl[n]?=some l
 |.dic n kvs=>∃l,v=.ref l/\g.ow l=some (h,f)/\jO K aj g H l n kvs
inductive cP(K:aqX)(aj:aQ)(g:Gh)(H:Hp)(h:Nat):List (Str×V)->List (Str×jy)->Prop
 |nil:cP K aj g H h [] []
 |cons {f:Str} {v:V} {fl:jy} {fs:List (Str×V)} {gs:List (Str×jy)}:eE K aj g H h f v fl->cP K aj g H h fs gs->cP K aj g H h ((f,v)::fs) ((f,fl)::gs)
structure fZ(K:aqX)(aj:aQ)(g:Gh)(H:Hp)(M:Mo):Prop where
 len:g.tbl.length=M.length
 inj:∀(h k:Nat) (a:Addr),g.tbl[h]?=some a->g.tbl[k]?=some a->h=k
 ins:∀(h:Nat) (a:Addr) (i:Inst),g.tbl[h]?=some a->M[h]?=some i->i.cls≠""->∃C dx fs,aj i.cls=some C/\H a=some (.ins C dx fs)/\cP K aj g H h fs i.fs
 nd:∀(h:Nat) (i:Inst),M[h]?=some i->(i.fs.map (·.1)).Nodup
 fd:∀(h:Nat) (i:Inst),M[h]?=some i->∀f∈i.fs.map (·.1),f∈aj.fl i.cls
 tw:∀(h:Nat) (a:Addr) (i:Inst),g.tbl[h]?=some a->M[h]?=some i->i.cls≠""->g.ow a=none
 dm:∀(h:Nat) (i:Inst),M[h]?=some i->i.cls=""->i.fs=[]
 nc:aj ""=none
structure SInv(K:aqX)(aj:aQ)(σ:L2.St)(H:Hp)(g:Gh)(Z:Env)(M:Mo):Prop where
 kd:Kd g H
 wok:fZ K aj g H M
 len:σ.length=Z.length
 dat:∀(i:Nat) (d:Dat),Z[i]?=some (some (.dat d))->∃v,σ[i]?=some (some v)/\Rep K g H v d
 own:∀(i:Nat) (xs:List Dat),Z[i]?=some (some (.mut xs))->∃l us,σ[i]?=some (some (.ref l))/\H l=some (.lst us)/\g.Lo l/\aK K g H us xs
 sep:∀(i j:Nat) (xs ys:List Dat) (l:Addr),i≠j->Z[i]?=some (some (.mut xs))->Z[j]?=some (some (.mut ys))->σ[i]?=some (some (.ref l))->σ[j]?≠some (some (.ref l))
section
variable{K:aqX}{aj:aQ}{q:Bool}{g g' g2:Gh}{H H' H2:Hp}{v:V}{d:Dat}{σ:L2.St}{Z:Env}{M:Mo}
theorem jO.ex{l:Addr}:∀{n:Bool} {kvs:List (Dat×Dat)} (e:Ex H H') (k:Kd g H) (h:jO K aj g H l n kvs),jO K aj g H' l n kvs
 |false,_,e,k,⟨kv,h1,h2,h3⟩=>⟨kv,e _ _ h1,h2,h3.ex e k⟩
 |true,_,e,k,⟨o,xs,vs,h1,h2,h3,h4,h5,h6⟩=>⟨o,xs,vs,e _ _ h1,h2,h3,h4.ex e k,h5,h6.ex e k⟩
theorem eE.ex{h:Nat}{f:Str}(e:Ex H H')(k:Kd g H):∀{fl:jy},eE K aj g H h f v fl->eE K aj g H' h f v fl
 |.dat _,r=>Rep.ex e k r
 |.lst _ _,⟨l,us,h1,h2,h3,h4,h5⟩=>⟨l,us,h1,e _ _ h2,h3,h4.ex e k,h5⟩
 |.dic _ _,⟨l,h1,h2,h3⟩=>⟨l,h1,h2,h3.ex e k⟩
theorem cP.ex{h:Nat}(e:Ex H H')(k:Kd g H):∀{fs:List (Str×V)} {gs:List (Str×jy)},cP K aj g H h fs gs->cP K aj g H' h fs gs
 |_,_,.nil=>.nil
 |_,_,.cons r t=>.cons (eE.ex e k r) (cP.ex e k t)
theorem fZ.ex(e:Ex H H')(k:Kd g H)(w:fZ K aj g H M):fZ K aj g H' M:=⟨w.len,w.inj,λh a i ha hi hc=>by
 obtain⟨C,dx,fs,c1,c2,c3⟩:=w.ins h a i ha hi hc;exact⟨C,dx,fs,c1,e _ _ c2,c3.ex e k⟩,w.nd,w.fd,w.tw,w.dm,w.nc⟩
theorem SInv.ex(e:Ex H H')(I:SInv K aj σ H g Z M):SInv K aj σ H' g Z M:=⟨I.kd.ex e,I.wok.ex e I.kd,I.len,λi d h=>by
 obtain⟨v,h1,h2⟩:=I.dat i d h;exact⟨v,h1,h2.ex e I.kd⟩,λi xs h=>by
 obtain⟨l,us,h1,h2,h3,h4⟩:=I.own i xs h;exact⟨l,us,h1,e _ _ h2,h3,h4.ex e I.kd⟩,I.sep⟩
theorem cP.get{h:Nat}{f:Str}{fl:jy}:∀{fs:List (Str×V)} {gs:List (Str×jy)},cP K aj g H h fs gs->gs.lookup f=some fl->∃v,fs.lookup f=some v/\eE K aj g H h f v fl
 |_,_,.nil,e=>nomatch e
 |_,_,.cons (f:=f') (v:=v) (fl:=fl') r t,e=>by
  rw[aru]at e;rw[aru];cases hb:f==f' with
  |true=>
   rw[hb]at e;cases e;have ef:f=f':=by simpa using hb
   subst ef;exact⟨v,rfl,r⟩
  |false=>
   rw[hb]at e;exact t.get e
theorem cP.no{h:Nat}{f:Str}:∀{fs:List (Str×V)} {gs:List (Str×jy)},cP K aj g H h fs gs->gs.lookup f=none->fs.lookup f=none
 |_,_,.nil,_=>rfl
 |_,_,.cons (f:=f') (v:=v) (fl:=fl') r t,e=>by
  rw[aru]at e;rw[aru];cases hb:f==f' with
  |true=>
   rw[hb]at e;cases e
  |false=>
   rw[hb]at e;exact t.no e
end
def Out.bind{α β:Type}(o:Out α)(k:α->Out β):Out β:=
 match o with
 |.ok a=>k a
 |.exc x=>.exc x
 |.bad=>.bad
def Out.sat{α:Type}(o:Out α)(P:α->Prop)(E:dR->Prop):Prop:=
 match o with
 |.ok a=>P a
 |.exc x=>E x
 |.bad=>False
@[simp]theorem Out.yQ {α β:Type} (a:α) (k:α->Out β):(Out.ok a).bind k=k a:=rfl
@[simp]theorem Out.afq {α β:Type} (x:dR) (k:α->Out β):(Out.exc x:Out α).bind k=.exc x:=rfl
@[simp]theorem Out.afh {α β:Type} (k:α->Out β):(Out.bad:Out α).bind k=.bad:=rfl
theorem Out.sat.bnd{α β:Type}{o:Out α}{k:α->Out β}{P:β->Prop}{E:dR->Prop}(h:(o.bind k).sat P E):o.sat (λa=>(k a).sat P E) E:=by cases o<;>exact h
theorem Out.sat.mono{α:Type}{o:Out α}{P P':α->Prop}{E E':dR->Prop}(h:o.sat P E)(hp:∀a,P a->P' a)(he:∀x,E x->E' x):o.sat P' E':=by
 cases o
 ·exact hp _ h
 ·exact he _ h
 ·exact h
def Out.when{α:Type}(b:Bool)(o:Out α):Out α:=if b=true then o else .bad
@[simp]theorem Out.VL {α:Type} (o:Out α):Out.when true o=o:=rfl
@[simp]theorem Out.al9 {α:Type} (o:Out α):Out.when false o=.bad:=rfl
theorem Out.sat.qH{α:Type}{b:Bool}{o:Out α}{P:α->Prop}{E:dR->Prop}(h:(Out.when b o).sat P E):b=true/\o.sat P E:=by
 cases b
 ·exact asi h
 ·exact⟨rfl,h⟩
inductive lO(K:aqX)(g:Gh)(H:Hp):List (Str×V)->List (Str×Dat)->Prop
 |nil:lO K g H [] []
 |cons {f:Str} {v:V} {d:Dat} {fs:List (Str×V)} {gs:List (Str×Dat)}:Rep K g H v d->lO K g H fs gs->lO K g H ((f,v)::fs) ((f,d)::gs)
def qX(K:aqX)(aj:aQ)(g:Gh)(H:Hp)(x:dR)(c:Value)(dd:Option Addr):Prop:=
 ∃C,aj x.cls=some C/\c=.ref C/\((x.fs=[]/\dd=none)∨∃a fs,dd=some a/\H a=some (.xd fs)/\lO K g H fs x.fs)
abbrev QF:=Mo->Env->Out Dat
abbrev QT:=Mo->Env->Out Bool
abbrev QA:=Mo->Env->Out (List Dat)
section
variable(K:aqX)(aj:aQ)(W:WX)
def rG(g:Gh)(H:Hp)(σ:L2.St)(x:dR):Prop:=∀H' c dd,Ex H H'->qX K aj g H' x c dd->W c dd σ H'
def tQ(f:QF):TE:=λσ H Q=>∃g Z M,SInv K aj σ H g Z M/\(f M Z).sat (λd=>∀v H',Ex H H'->Rep K g H' v d->Q v H') (rG K aj W g H σ)
def lJ(f:QT):TT:=λσ H Q=>∃g Z M,SInv K aj σ H g Z M/\(f M Z).sat (λb=>∀H',Ex H H'->Q b H') (rG K aj W g H σ)
def N6(f:QA):TA:=λσ H Q=>∃g Z M,SInv K aj σ H g Z M/\(f M Z).sat (λds=>∀vs H',Ex H H'->aK K g H' vs ds->Q vs H') (rG K aj W g H σ)
end
section
variable{K:aqX}{aj:aQ}{W:WX}{g:Gh}{H H1:Hp}{σ:L2.St}{Z:Env}{M:Mo}
theorem rG.ex{x:dR}(e:Ex H H1)(h:rG K aj W g H σ x):rG K aj W g H1 σ x:=λH' c dd e' r=>h H' c dd (e.trans e') r
theorem tQ.go{f:QF}{k:Dat->Prop}{Q:VK}(I:SInv K aj σ H g Z M)(h:(f M Z).sat k (rG K aj W g H σ))(hk:∀d v H',k d->Ex H H'->Rep K g H' v d->Q v H'):tQ K aj W f σ H Q:=
 ⟨g,Z,M,I,h.mono (λd hd v H' e r=>hk d v H' hd e r) λ_ z=>z⟩
theorem lJ.go{f:QT}{k:Bool->Prop}{Q:Bool->Hp->Prop}(I:SInv K aj σ H g Z M)(h:(f M Z).sat k (rG K aj W g H σ))(hk:∀b H',k b->Ex H H'->Q b H'):lJ K aj W f σ H Q:=
 ⟨g,Z,M,I,h.mono (λd hd H' e=>hk d H' hd e) λ_ z=>z⟩
theorem N6.go{f:QA}{k:List Dat->Prop}{Q:List V->Hp->Prop}(I:SInv K aj σ H g Z M)(h:(f M Z).sat k (rG K aj W g H σ))(hk:∀ds vs H',k ds->Ex H H'->aK K g H' vs ds->Q vs H'):N6 K aj W f σ H Q:=
 ⟨g,Z,M,I,h.mono (λd hd v H' e r=>hk d v H' hd e r) λ_ z=>z⟩
end
def QE(aj:aQ)(X:Cx)(W:WX)(e:Expr)(f:QF):Prop:=PE X e (tQ X.K aj W f)
def sS(aj:aQ)(X:Cx)(W:WX)(e:Expr)(f:QT):Prop:=PT X e (lJ X.K aj W f)
def Hw(aj:aQ)(X:Cx)(W:WX)(es:List Expr)(f:QA):Prop:=PA X es (N6 X.K aj W f)
theorem PE.weak{X:Cx}{e:Expr}{t t':TE}(h:PE X e t)(k:∀σ H Q,t' σ H Q->t σ H Q):PE X e t':=⟨λpins s σ H Q I q=>h.run pins s σ H Q I (k σ H Q q)⟩
theorem PT.weak{X:Cx}{e:Expr}{t t':TT}(h:PT X e t)(k:∀σ H Q,t' σ H Q->t σ H Q):PT X e t':=⟨λpins s σ H Q I q=>h.run pins s σ H Q I (k σ H Q q)⟩
theorem PA.weak{X:Cx}{e:List Expr}{t t':TA}(h:PA X e t)(k:∀σ H Q,t' σ H Q->t σ H Q):PA X e t':=⟨λpos pins s σ H Q I q=>h.run pos pins s σ H Q I (k σ H Q q)⟩
def aq(i:Nat):QF:=λ_ Z=>match Z[i]? with
 |some (some (.dat d))=>.ok d
 |_=>.bad
def qC(d:Dat):QF:=λ_ _=>.ok d
def aA(o:Dat->Dat->Out Dat)(a b:QF):QF:=λM Z=>(a M Z).bind λx=>(b M Z).bind λy=>o x y
def eX(o:Dat->Out Dat)(a:QF):QF:=λM Z=>(a M Z).bind o
def au:QA:=λ_ _=>.ok []
def ak(a:QF)(r:QA):QA:=λM Z=>(a M Z).bind λx=>(r M Z).bind λxs=>.ok (x::xs)
def bF(r:QA):QF:=λM Z=>(r M Z).bind λxs=>Out.when (decide (xs.length<=100000)) (.ok (.tuple xs))
def Bm(r:QA):QF:=λM Z=>(r M Z).bind λxs=>Out.when (decide (xs.length<=100000)) (.ok (.list xs))
section
variable{X:Cx}{aj:aQ}{W:WX}{a b:Expr}{fa fb:QF}{pos:Pos}
theorem ajM{i:Nat}{x:Str}(hN:X.N[i]?=some x)(hv:Vis X.env.scope x)(hd:(x==("__debug__" : Str))=false)(hcd:(x==("__classdict__" : Str))=false):QE aj X W (.Name x pos) (aq i):=
 PE.weak (pe_var hN hv hd hcd) λσ H Q ⟨g,Z,M,I,h⟩=>by
  unfold aq at h;split at h
  ·next d e=>
   obtain⟨v,h1,h2⟩:=I.dat i d e;exact⟨v,h1,h v H (Ex.refl H) h2⟩
  ·exact asi h
theorem alb{i:Int}{j:Nat}:QE aj X W (.Constant (.int i) j pos) (qC (.int i)):=PE.weak pe_int λσ H Q ⟨g,Z,M,I,h⟩=>h _ H (Ex.refl H) (.int i)
theorem akL{x:Str}{j:Nat}:QE aj X W (.Constant (.str x) j pos) (qC (.str x)):=PE.weak pe_str λσ H Q ⟨g,Z,M,I,h⟩=>h _ H (Ex.refl H) (.str x)
theorem amf{x:Bool}{j:Nat}:QE aj X W (.Constant (.bool x) j pos) (qC (.bool x)):=PE.weak pe_bl λσ H Q ⟨g,Z,M,I,h⟩=>h _ H (Ex.refl H) (.bl x)
theorem ak8{j:Nat}:QE aj X W (.Constant .none j pos) (qC .none):=PE.weak pe_non λσ H Q ⟨g,Z,M,I,h⟩=>h _ H (Ex.refl H) .non
theorem ai5:Hw aj X W [] au:=PA.weak pa_nil λσ H Q ⟨g,Z,M,I,h⟩=>h [] H (Ex.refl H) .nil
theorem agP{es:List Expr}{fr:QA}(ha:QE aj X W a fa)(hr:Hw aj X W es fr)(hs:starEach (a::es) X.env=(false,eval a X.env)::starEach es X.env):Hw aj X W (a::es) (ak fa fr):=
 PA.weak (pa_cons ha hr hs) λσ H Q ⟨g,Z,M,I,h⟩=>by
  refine tQ.go I h.bnd λd v H1 h1 e1 r1=>?_;refine N6.go (I.ex e1) (h1.bnd.mono (λ_ z=>z) λ_ z=>z.ex e1) λds vs H2 h2 e2 r2=>?_;exact h2 (v::vs) H2 (e1.trans e2) (.cons (r1.ex e2 (I.kd.ex e1)) r2)
theorem aiT{es:List Expr}{fr:QA}{k:Nat}(h:Hw aj X W es fr):QE aj X W (.Tuple es k pos) (bF fr):=
 PE.weak (pe_tup h) λσ H Q ⟨g,Z,M,I,h⟩=>by
  refine N6.go I h.bnd λds vs H1 h1 e1 r1=>?_;obtain⟨hz,h1⟩:=h1.qH;have hl:vs.length<=100000:=by rw[r1.length];exact asl hz
  refine⟨sz_of hl,λp np=>h1 (.ref p) _ (e1.trans (Ex.new np)) (.tup (st_of upd_same) (r1.ex (Ex.new np) (I.kd.ex e1)))⟩
theorem Kd.fresh{g:Gh}{H:Hp}(k:Kd g H){p:Addr}(n:H p=none):¬g.A p:=λz=>by
 obtain⟨o,e,_⟩:=k.ob p z;rw[n]at e;cases e
theorem ajj{es:List Expr}{fr:QA}(h:Hw aj X W es fr):QE aj X W (.List es pos) (Bm fr):=
 PE.weak (pe_lst h) λσ H Q ⟨g,Z,M,I,h⟩=>by
  refine N6.go I h.bnd λds vs H1 h1 e1 r1=>?_;obtain⟨hz,h1⟩:=h1.qH;have hl:vs.length<=100000:=by rw[r1.length];exact asl hz
  refine⟨sz_of hl,λp np=>h1 (.ref p) _ (e1.trans (Ex.new np)) (.lst (.inl ⟨.inl upd_same,(I.kd.ex e1).fresh np⟩) (r1.ex (Ex.new np) (I.kd.ex e1)))⟩
end
def eU(K:aqX)(g:Gh)(H:Hp)(v:V):Dat->Prop
 |.list ds=>∃a us,v=.ref a/\SqL K H a us/\aK K g H us ds
 |d=>Rep K g H v d
section
variable{K:aqX}{g:Gh}{H H':Hp}{v:V}{d:Dat}
theorem Rep.weak(h:Rep K g H v d):eU K g H v d:=by
 cases h with
 |lst a t=>exact⟨_,_,rfl,a.sq,t⟩
 |non=>exact .non
 |bl b=>exact .bl b
 |int i=>exact .int i
 |str x=>exact .str x
 |tup a t=>exact .tup a t
 |obj a=>exact .obj a
theorem eU.ex(e:Ex H H')(k:Kd g H)(h:eU K g H v d):eU K g H' v d:=by
 cases d with
 |list ds=>
  obtain⟨a,us,h1,h2,h3⟩:=h;exact⟨a,us,h1,ex_l e h2,h3.ex e k⟩
 |_=>exact Rep.ex e k h
theorem cI{i:Int}(h:eU K g H v (.int i)):v=.int i:=by cases h;rfl
theorem jY{x:Str}(h:eU K g H v (.str x)):v=.str x:=by cases h;rfl
theorem Du{b:Bool}(h:eU K g H v (.bool b)):v=.bl b:=by cases h;rfl
theorem Fw(h:eU K g H v .none):v=.non:=by cases h;rfl
theorem lY{ds:List Dat}(h:eU K g H v (.tuple ds)):∃a us,v=.ref a/\SqT K H a us/\aK K g H us ds:=by
 cases h with
 |tup a t=>exact⟨_,_,rfl,a,t⟩
theorem jo{ds:List Dat}(h:eU K g H v (.list ds)):∃a us,v=.ref a/\SqL K H a us/\aK K g H us ds:=h
theorem La{n:Nat}(h:eU K g H v (obj n)):∃a,v=.ref a/\g.tbl[n]?=some a:=by
 cases h with
 |obj a=>exact⟨_,rfl,a⟩
end
section
variable(K:aqX)(aj:aQ)(W:WX)
def tW(f:QF):TE:=λσ H Q=>∃g Z M,SInv K aj σ H g Z M/\(f M Z).sat (λd=>∀v H',Ex H H'->eU K g H' v d->Q v H') (rG K aj W g H σ)
end
theorem tW.go{K:aqX}{aj:aQ}{W:WX}{g:Gh}{H:Hp}{σ:L2.St}{Z:Env}{M:Mo}{f:QF}{k:Dat->Prop}{Q:VK}(I:SInv K aj σ H g Z M)(h:(f M Z).sat k (rG K aj W g H σ))(hk:∀d v H',k d->Ex H H'->eU K g H' v d->Q v H'):tW K aj W f σ H Q:=
 ⟨g,Z,M,I,h.mono (λd hd v H' e r=>hk d v H' hd e r) λ_ z=>z⟩
def QW(aj:aQ)(X:Cx)(W:WX)(e:Expr)(f:QF):Prop:=PE X e (tW X.K aj W f)
theorem QE.w{aj:aQ}{X:Cx}{W:WX}{e:Expr}{f:QF}(h:QE aj X W e f):QW aj X W e f:=
 PE.weak h λσ H Q ⟨g,Z,M,I,z⟩=>⟨g,Z,M,I,z.mono (λ_ k v H' e r=>k v H' e r.weak) λ_ y=>y⟩
def ao(i:Nat):QF:=λ_ Z=>match Z[i]? with
 |some (some (.dat d))=>.ok d
 |some (some (.mut xs))=>.ok (.list xs)
 |_=>.bad
def qG(aj:aQ)(K:aqX)(W:WX)(o:Dat->Dat->Out Dat)(r:R2):Prop:=∀(σ:L2.St) (g:Gh) (H:Hp) (x y:V) (d e:Dat) (Q:VK),Kd g H->eU K g H x d->eU K g H y e->
 (o d e).sat (λz=>∀v H',Ex H H'->Rep K g H' v z->Q v H') (rG K aj W g H σ)->r x y H Q
section
variable{X:Cx}{aj:aQ}{W:WX}{a b c:Expr}{fa fb fc:QF}{pos:Pos}
theorem akZ{i:Nat}{x:Str}(hN:X.N[i]?=some x)(hv:Vis X.env.scope x)(hd:(x==("__debug__" : Str))=false)(hcd:(x==("__classdict__" : Str))=false):QW aj X W (.Name x pos) (ao i):=
 PE.weak (pe_var hN hv hd hcd) λσ H Q ⟨g,Z,M,I,h⟩=>by
  unfold ao at h;split at h
  ·next d e=>
   obtain⟨v,h1,h2⟩:=I.dat i d e;exact⟨v,h1,h v H (Ex.refl H) h2.weak⟩
  ·next xs e=>
   obtain⟨l,us,h1,h2,h3,h4⟩:=I.own i xs e;exact⟨.ref l,h1,h _ H (Ex.refl H) ⟨l,us,rfl,sq_of h2,h4⟩⟩
  ·exact asi h
theorem QD{o:Dat->Dat->Out Dat}{r:R2}(ho:qG aj X.K W o r)(σ:L2.St)(H:Hp)(Q:VK)(h:tQ X.K aj W (aA o fa fb) σ H Q):tOp r (tW X.K aj W fa) (tW X.K aj W fb) σ H Q:=by obtain⟨g,Z,M,I,h⟩:=h;refine tW.go I h.bnd λd v H1 h1 e1 r1=>?_;refine tW.go (I.ex e1) (h1.bnd.mono (λ_ z=>z) λ_ z=>z.ex e1) λd2 v2 H2 h2 e2 r2=>?_;refine ho σ g H2 v v2 d d2 Q ((I.kd.ex e1).ex e2) (r1.ex e2 (I.kd.ex e1)) r2 (h2.mono (λz hz u H' e' r'=>hz u H' ((e1.trans e2).trans e') r') λ_ z=>(z.ex e1).ex e2)
theorem aiw{op:Operator}{r:R2}{o:Dat->Dat->Out Dat}(hr:OpR X (binaryOp op) r)(ho:qG aj X.K W o r)(ha:QW aj X W a fa)(hb:QW aj X W b fb):QE aj X W (.BinOp a op b pos) (aA o fa fb):=
 PE.weak (pe_op hr ha hb) λσ H Q h=>QD ho σ H Q h
theorem aic{op:CmpOp}{r:R2}{o:Dat->Dat->Out Dat}(hr:OpR X (compareOp op) r)(ho:qG aj X.K W o r)(ha:QW aj X W a fa)(hb:QW aj X W b fb)(hm:behindInMarks op b=false):QE aj X W (.Compare a [op] [b] pos) (aA o fa fb):=
 PE.weak (pe_cmpR hr ha hb hm) λσ H Q h=>QD ho σ H Q h
end
instance:DecidableRel CMul:=λi j=>by unfold CMul;infer_instance
instance:DecidableRel CDiv:=λi j=>by unfold CDiv;infer_instance
instance:DecidableRel CPow:=λi j=>by unfold CPow;infer_instance
def gH:Dat->Dat->Out Dat
 |.int i,.int j=>.ok (.int (i+j))
 |.str x,.str y=>Out.when (decide (x.length+y.length<=100000)) (.ok (.str (x++y)))
 |.list xs,.list ys=>Out.when (decide (xs.length+ys.length<=100000)) (.ok (.list (xs++ys)))
 |.tuple xs,.tuple ys=>Out.when (decide (xs.length+ys.length<=100000)) (.ok (.tuple (xs++ys)))
 |_,_=>.bad
def pG:Dat->Dat->Out Dat
 |.int i,.int j=>.ok (.int (i - j))
 |_,_=>.bad
def Av:Dat->Dat->Out Dat
 |.int i,.int j=>Out.when (decide (CMul i j)) (.ok (.int (i * j)))
 |_,_=>.bad
def Dq:Dat->Dat->Out Dat
 |.int i,.int j=>Out.when (decide (CDiv i j)) (.ok (.int (i / j)))
 |_,_=>.bad
def lV:Dat->Dat->Out Dat
 |.int i,.int j=>Out.when (decide (0 < j)) (.ok (.int (i % j)))
 |_,_=>.bad
def aad:Dat->Dat->Out Dat
 |.int i,.int j=>Out.when (decide (CPow i j)) (.ok (.int (i ^ j.toNat)))
 |_,_=>.bad
def rCatS(K:aqX):R2:=λx y H Q=>∃l b xs zs,x=.ref l/\y=.ref b/\SqL K H l xs/\SqL K H b zs/\xs.length+zs.length<=sizeLine/\∀p,H p=none->Q (.ref p) (upd H p (.lst (xs++zs)))
theorem ag0{X:Cx}:OpR X (binaryOp .Add) (rCatS X.K):=by
 intro pins s σ H x y v u Q I rx ry h;obtain⟨l,b,xs,zs,rfl,rfl,hH,hB,hz,q⟩:=h;cases rx;cases ry;obtain⟨its,r,⟨⟨c1,d1,da1,s1⟩,n,e,hc,hd,hs⟩,_⟩:=I.list hH;obtain⟨its2,r2,⟨⟨c2,d2,da2,s2⟩,n2,e2,hc2,hd2,hs2⟩,_⟩:=I.list hB;simp only at hc hd hs hc2 hd2 hs2;subst hc hd hs hc2 hd2 hs2;have l1:=r.length;have l2:=r2.length;have ea:its.toArray++its2.toArray=(its++its2).toArray:=by simp
 refine concat_meets ⟨_,e,rfl⟩ ⟨_,e2,rfl⟩ noFill_list_add seq_list_add PySem.F.slot_list_add PySem.F.entry_list_add (PySem.F.args_list_add_2 _ _) (list_addW l b its.toArray its2.toArray n n2 none none s1 s2 (by rw[List.size_toArray,List.size_toArray];omega)) ⟨e,e2,?_⟩;rw[ea];exact⟨.ref _,_,I.lnew (t':=s.toks) (r.append r2) (by rw[arN];omega),rfl,q _ I.fresh⟩
def af6(K:aqX):R2:=λx y H Q=>rI0 (λi j=>.int (i+j)) x y H Q∨(∃i j,x=.str i/\y=.str j/\i.length+j.length<=sizeLine/\Q (.str (i++j)) H)∨rCatS K x y H Q∨rCatA K x y H Q
theorem ah2{X:Cx}:OpR X (binaryOp .Add) (af6 X.K):=by
 intro pins s σ H x y v u Q I rx ry h;rcases h with h|h|h|h
 ·exact op_add pins s σ H x y v u Q I rx ry h
 ·exact op_add_str pins s σ H x y v u Q I rx ry h
 ·exact ag0 pins s σ H x y v u Q I rx ry h
 ·exact op_catA pins s σ H x y v u Q I rx ry h
section
variable{K:aqX}{aj:aQ}{W:WX}
theorem akl:qG aj K W gH (af6 K):=λσ g H x y d e Q k rx ry h=>by
 unfold gH at h;split at h
 ·exact .inl ⟨_,_,cI rx,cI ry,h _ H (Ex.refl H) (.int _)⟩
 ·obtain⟨hz,h⟩:=h.qH;exact .inr (.inl ⟨_,_,jY rx,jY ry,sz_of (asl hz),h _ H (Ex.refl H) (.str _)⟩)
 ·obtain⟨hz,h⟩:=h.qH;obtain⟨l,us,e1,s1,t1⟩:=jo rx;obtain⟨l2,us2,e2,s2,t2⟩:=jo ry;have hl:=asl hz;rw[←t1.length,←t2.length]at hl;refine .inr (.inr (.inl ⟨l,l2,us,us2,e1,e2,s1,s2,sz_of hl,λp np=>h _ _ (Ex.new np) (.lst (.inl ⟨.inl upd_same,k.fresh np⟩) ((t1.append t2).ex (Ex.new np) k))⟩))
 ·obtain⟨hz,h⟩:=h.qH;obtain⟨l,us,e1,s1,t1⟩:=lY rx;obtain⟨l2,us2,e2,s2,t2⟩:=lY ry;have hl:=asl hz;rw[←t1.length,←t2.length]at hl;refine .inr (.inr (.inr ⟨l,l2,us,us2,e1,e2,s1,s2,sz_of hl,λz=>?_,λ_ z=>?_,λ_ _ p np=>h _ _ (Ex.new np) (.tup (st_of upd_same) ((t1.append t2).ex (Ex.new np) k))⟩))
  ·subst z;cases t1;exact h _ H (Ex.refl H) (.tup s2 t2)
  ·subst z;cases t2;rw[arR]at h;exact h _ H (Ex.refl H) (.tup s1 t1)
 ·exact asi h
theorem aiL:qG aj K W pG (rI0 λi j=>.int (i - j)):=λσ g H x y d e Q k rx ry h=>by
 unfold pG at h;split at h
 ·exact⟨_,_,cI rx,cI ry,h _ H (Ex.refl H) (.int _)⟩
 ·exact asi h
theorem ajH:qG aj K W Av (rI CMul λi j=>.int (i * j)):=λσ g H x y d e Q k rx ry h=>by
 unfold Av at h;split at h
 ·obtain⟨hz,h⟩:=h.qH;exact⟨_,_,cI rx,cI ry,asl hz,h _ H (Ex.refl H) (.int _)⟩
 ·exact asi h
theorem akC:qG aj K W Dq (rI CDiv λi j=>.int (i / j)):=λσ g H x y d e Q k rx ry h=>by
 unfold Dq at h;split at h
 ·obtain⟨hz,h⟩:=h.qH;exact⟨_,_,cI rx,cI ry,asl hz,h _ H (Ex.refl H) (.int _)⟩
 ·exact asi h
theorem akH:qG aj K W lV (rI (λ_ j=>0 < j) λi j=>.int (i % j)):=λσ g H x y d e Q k rx ry h=>by
 unfold lV at h;split at h
 ·obtain⟨hz,h⟩:=h.qH;exact⟨_,_,cI rx,cI ry,asl hz,h _ H (Ex.refl H) (.int _)⟩
 ·exact asi h
theorem aiH:qG aj K W aad (rI CPow λi j=>.int (i ^ j.toNat)):=λσ g H x y d e Q k rx ry h=>by
 unfold aad at h;split at h
 ·obtain⟨hz,h⟩:=h.qH;exact⟨_,_,cI rx,cI ry,asl hz,h _ H (Ex.refl H) (.int _)⟩
 ·exact asi h
end
mutual
def okd:Nat->Dat->Bool
 |_,.none=>true
 |_,.bool _=>true
 |_,.int _=>true
 |_,.str x=>PyData.strOk x
 |n+1,.list ds=>mD n ds
 |n+1,.tuple ds=>mD n ds
 |0,.list _=>false
 |0,.tuple _=>false
 |_,.dict _=>false
def mD:Nat->List Dat->Bool
 |_,[]=>true
 |n,d::ds=>okd n d&&mD n ds
end
mutual
theorem Uh:∀(n:Nat) (d:Dat),okd n d=true->d.canLay0=true/\d.depth<=n
 |n,.none,_=>⟨by simp[PyData.canLay0],by simp[PyData.depth]⟩
 |n,.bool _,_=>⟨by simp[PyData.canLay0],by simp[PyData.depth]⟩
 |n,.int _,_=>⟨by simp[PyData.canLay0],by simp[PyData.depth]⟩
 |n,.str x,h=>⟨by rw[okd]at h;simp[PyData.canLay0,h],by simp[PyData.depth]⟩
 |n+1,.list ds,h=>by
  rw[okd]at h;obtain⟨h1,h2⟩:=Ox n ds h;exact⟨by simp[PyData.canLay0,h1],by simp[PyData.depth];omega⟩
 |n+1,.tuple ds,h=>by
  rw[okd]at h;obtain⟨h1,h2⟩:=Ox n ds h;exact⟨by simp[PyData.canLay0,h1],by simp[PyData.depth];omega⟩
 |0,.list _,h=>by rw[okd]at h;cases h
 |0,.tuple _,h=>by rw[okd]at h;cases h
 |n,.dict _,h=>by rw[okd]at h;cases h
theorem Ox:∀(n:Nat) (ds:List Dat),mD n ds=true->PyData.canLayAll0 ds=true/\PyData.depthAll ds<=n
 |n,[],_=>⟨by simp[PyData.canLayAll0],by simp[PyData.depthAll]⟩
 |n,d::ds,h=>by
  rw[mD,aqZ]at h;obtain⟨h1,h2⟩:=Uh n d h.1;obtain⟨h3,h4⟩:=Ox n ds h.2;exact⟨by simp[PyData.canLayAll0,h1,h3],by simp[PyData.depthAll];omega⟩
end
mutual
theorem Rep.dp{K:aqX}{g:Gh}{H:Hp}:∀{n:Nat} {v:V} {d:Dat},okd n d=true->Rep K g H v d->Dp K H v d
 |_,_,_,_,.non=>.non
 |_,_,_,_,.bl b=>.bl b
 |_,_,_,_,.int i=>.int i
 |_,_,_,_,.str x=>.str x
 |n+1,_,_,f,.tup h t=>.tup h (aK.dp (n:=n) (by rw[okd]at f;exact f) t)
 |n+1,_,_,f,.lst h t=>.lst h.sq (aK.dp (n:=n) (by rw[okd]at f;exact f) t)
 |0,_,_,f,.tup h t=>by rw[okd]at f;cases f
 |0,_,_,f,.lst h t=>by rw[okd]at f;cases f
 |_,_,_,f,.obj h=>by rw[okd]at f;cases f
theorem aK.dp{K:aqX}{g:Gh}{H:Hp}:∀{n:Nat} {vs:List V} {ds:List Dat},mD n ds=true->aK K g H vs ds->DpAll K H vs ds
 |_,_,_,_,.nil=>.nil
 |n,_,_,f,.cons h t=>.cons (Rep.dp (n:=n) (by rw[mD,aqZ]at f;exact f.1) h) (aK.dp (n:=n) (by rw[mD,aqZ]at f;exact f.2) t)
end
theorem eU.dp{K:aqX}{g:Gh}{H:Hp}{n:Nat}{v:V}{d:Dat}(f:okd n d=true)(h:eU K g H v d):Dp K H v d:=by
 cases d with
 |list ds=>
  obtain⟨a,us,rfl,h2,h3⟩:=h;cases n with
  |zero=>rw[okd]at f;cases f
  |succ n=>
   rw[okd]at f;exact .lst h2 (h3.dp f)
 |_=>exact Rep.dp f h
theorem BZ{n:Nat}{d:Dat}(h:okd n d=true)(hn:n<=64):SeqAt.shaped d=true:=by obtain⟨h1,h2⟩:=Uh n d h;unfold SeqAt.shaped;rw[h1,Bool.true_and];exact decide_eq_true (arw h2 hn)
def eqB:Dat->Dat->Out Bool
 |.int i,.int j=>.ok (i==j)
 |.str x,.str y=>.ok (x==y)
 |.bool x,.bool y=>.ok (x==y)
 |.none,.none=>.ok true
 |d,e=>Out.when (okd 12 d&&okd 12 e) (.ok (PyData.eqv d e))
def bU(d e:Dat):Out Dat:=(eqB d e).bind λb=>.ok (.bool b)
def Bp(d e:Dat):Out Dat:=(eqB d e).bind λb=>.ok (.bool (!b))
def akz(K:aqX):R2:=λx y H Q=>rEq x y H Q∨rEqD K x y H Q
def akR(K:aqX):R2:=λx y H Q=>rNe x y H Q∨rNeD K x y H Q
theorem aiW{X:Cx}(hu:X.A.units+64 < cLine):OpR X (compareOp .Eq) (akz X.K):=λpins s σ H x y v u Q I rx ry h=>h.elim (λh=>op_eq pins s σ H x y v u Q I rx ry h) (λh=>op_eqD hu pins s σ H x y v u Q I rx ry h)
theorem aiP{X:Cx}(hu:X.A.units+64 < cLine):OpR X (compareOp .NotEq) (akR X.K):=λpins s σ H x y v u Q I rx ry h=>h.elim (λh=>op_ne pins s σ H x y v u Q I rx ry h) (λh=>op_neD hu pins s σ H x y v u Q I rx ry h)
section
variable{K:aqX}{aj:aQ}{W:WX}{g:Gh}{H:Hp}
theorem adX{x y:V}{d e:Dat}{P:Bool->Prop}{E:dR->Prop}(rx:eU K g H x d)(ry:eU K g H y e)(h:(eqB d e).sat P E):(scal x y=true/\P (decide (x=y)))∨(∃d e,Dp K H x d/\Dp K H y e/\SeqAt.shaped d=true/\SeqAt.shaped e=true/\P (PyData.eqv d e)):=by
 unfold eqB at h;split at h
 ·cases cI rx;cases cI ry;rw[dec_int];exact .inl ⟨rfl,h⟩
 ·cases jY rx;cases jY ry;rw[dec_str];exact .inl ⟨rfl,h⟩
 ·cases Du rx;cases Du ry;rw[dec_bl];exact .inl ⟨rfl,h⟩
 ·cases Fw rx;cases Fw ry;exact .inl ⟨rfl,h⟩
 ·obtain⟨hz,h⟩:=h.qH;rw[aqZ]at hz;exact .inr ⟨_,_,rx.dp hz.1,ry.dp hz.2,BZ hz.1 (by decide),BZ hz.2 (by decide),h⟩
theorem ame:qG aj K W bU (akz K):=λσ g H x y d e Q k rx ry h=>by
 rcases adX rx ry h.bnd with⟨h1,h2⟩|⟨d,e,h1,h2,h3,h4,h5⟩
 ·exact .inl ⟨h1,h2 _ H (Ex.refl H) (.bl _)⟩
 ·exact .inr ⟨d,e,h1,h2,h3,h4,h5 _ H (Ex.refl H) (.bl _)⟩
theorem ali:qG aj K W Bp (akR K):=λσ g H x y d e Q k rx ry h=>by
 rcases adX rx ry h.bnd with⟨h1,h2⟩|⟨d,e,h1,h2,h3,h4,h5⟩
 ·exact .inl ⟨h1,h2 _ H (Ex.refl H) (.bl _)⟩
 ·exact .inr ⟨d,e,h1,h2,h3,h4,h5 _ H (Ex.refl H) (.bl _)⟩
end
def Rp:Dat->Dat->Out Dat
 |.int i,.int j=>.ok (.bool (decide (i < j)))
 |.tuple ds,.tuple es=>Out.when (okd 12 (.tuple ds)&&okd 12 (.tuple es)&&PySem.W.alike (.tuple ds) (.tuple es)) (.ok (.bool (PySem.W.dataLt (.tuple ds) (.tuple es))))
 |_,_=>.bad
def wV:Dat->Dat->Out Dat
 |.int i,.int j=>.ok (.bool (decide (i<=j)))
 |_,_=>.bad
def Wv:Dat->Dat->Out Dat
 |.int i,.int j=>.ok (.bool (decide (j < i)))
 |_,_=>.bad
def geD:Dat->Dat->Out Dat
 |.int i,.int j=>.ok (.bool (decide (j<=i)))
 |_,_=>.bad
def ak7(K:aqX):R2:=λx y H Q=>rI0 (λi j=>.bl (decide (i < j))) x y H Q∨Ear.Ri K x y H Q
theorem aiN{X:Cx}(hu:X.A.units+65 < cLine):OpR X (compareOp .Lt) (ak7 X.K):=λpins s σ H x y v u Q I rx ry h=>h.elim (λh=>op_lt pins s σ H x y v u Q I rx ry h) (λh=>Ear.afv hu pins s σ H x y v u Q I rx ry h)
section
variable{K:aqX}{aj:aQ}{W:WX}{g:Gh}{H:Hp}
theorem alw:qG aj K W Rp (ak7 K):=λσ g H x y d e Q k rx ry h=>by
 unfold Rp at h;split at h
 ·exact .inl ⟨_,_,cI rx,cI ry,h _ H (Ex.refl H) (.bl _)⟩
 ·obtain⟨hz,h⟩:=h.qH;simp only[aqZ]at hz;refine .inr ?_;unfold Ear.Ri;exact⟨_,_,rx.dp hz.1.1,ry.dp hz.1.2,hz.2,(λz=>nomatch z),arw (Uh _ _ hz.1.1).2 (by decide),h _ H (Ex.refl H) (.bl _)⟩
 ·exact asi h
theorem al6:qG aj K W wV (rI0 λi j=>.bl (decide (i<=j))):=λσ g H x y d e Q k rx ry h=>by
 unfold wV at h;split at h
 ·exact⟨_,_,cI rx,cI ry,h _ H (Ex.refl H) (.bl _)⟩
 ·exact asi h
theorem alU:qG aj K W Wv (rI0 λi j=>.bl (decide (j < i))):=λσ g H x y d e Q k rx ry h=>by
 unfold Wv at h;split at h
 ·exact⟨_,_,cI rx,cI ry,h _ H (Ex.refl H) (.bl _)⟩
 ·exact asi h
theorem alO:qG aj K W geD (rI0 λi j=>.bl (decide (j<=i))):=λσ g H x y d e Q k rx ry h=>by
 unfold geD at h;split at h
 ·exact⟨_,_,cI rx,cI ry,h _ H (Ex.refl H) (.bl _)⟩
 ·exact asi h
end
def kJ(c:Dat):Dat->Bool
 |.none=>match c with
  |.none=>true
  |_=>false
 |.bool b=>match c with
  |.bool b'=>b==b'
  |_=>false
 |_=>false
def scD:Dat->Option V
 |.none=>some .non
 |.bool b=>some (.bl b)
 |_=>none
theorem abu{K:aqX}{g:Gh}{H:Hp}{x:V}{d c:Dat}{v:V}(h:eU K g H x d)(hc:scD c=some v):decide (x=v)=kJ c d:=by
 cases c with
 |none=>
  cases hc;cases d with
  |none=>cases Fw h;rfl
  |bool b=>cases Du h;rfl
  |int b=>cases cI h;rfl
  |str b=>cases jY h;rfl
  |list b=>obtain⟨a,us,rfl,_⟩:=jo h;rfl
  |tuple b=>obtain⟨a,us,rfl,_⟩:=lY h;rfl
  |dict b=>cases h;rfl
 |bool c=>
  cases hc;cases d with
  |none=>cases Fw h;rfl
  |bool b=>cases Du h;exact dec_bl
  |int b=>cases cI h;rfl
  |str b=>cases jY h;rfl
  |list b=>obtain⟨a,us,rfl,_⟩:=jo h;rfl
  |tuple b=>obtain⟨a,us,rfl,_⟩:=lY h;rfl
  |dict b=>cases h;rfl
 |_=>cases hc
def Zi(neg:Bool)(v:V):R2:=λx y H Q=>y=v/\Q (.bl (neg ^^ decide (x=v))) H
theorem acI{x v:V}{u w:Value}(hv:v=.non∨∃b,v=.bl b)(rx:RelV x u)(rv:RelV v w):(u==w)=decide (x=v):=by
 rcases hv with rfl|⟨b,rfl⟩
 ·cases rv;exact rx.none_iff
 ·cases rv;rw[ar0,beq_iff_eq,asj];constructor
  ·rintro rfl;cases x with
   |bl c=>cases rx;rfl
   |non=>cases rx
   |ref _=>cases rx
   |ty _=>cases rx
   |_=>obtain⟨t,z⟩:=rx;cases z
  ·rintro rfl;exact rx
theorem Wg{x v:V}{u w:Value}(hv:v=.non∨∃b,v=.bl b)(rx:RelV x u)(rv:RelV v w):plainIs u w=true:=by rcases hv with rfl | ⟨b,rfl⟩<;>(cases rv;cases x<;>first | (cases rx;rfl) | (obtain⟨t,rfl⟩:=rx;rfl))
theorem akB{X:Cx}{v:V}(hv:v=.non∨∃b,v=.bl b):OpR X (compareOp .Is) (Zi false v):=by intro pins s σ H x y u w Q I rx ry h;obtain⟨rfl,q⟩:=h;refine wpAny_is_plain (Wg hv rx ry) ?_;rw[acI hv rx ry];rw[Bool.false_xor]at q;exact⟨.bl _,H,I,rfl,q⟩
theorem ado{X:Cx}{v:V}(hv:v=.non∨∃b,v=.bl b):OpR X (compareOp .IsNot) (Zi true v):=by intro pins s σ H x y u w Q I rx ry h;obtain⟨rfl,q⟩:=h;refine wpAny_isNot_plain (Wg hv rx ry) ?_;rw[acI hv rx ry];rw[Bool.true_xor]at q;exact⟨.bl _,H,I,rfl,q⟩
def wI(neg:Bool)(c:Dat)(a:QF):QF:=λM Z=>(a M Z).bind λd=>.ok (.bool (neg ^^ kJ c d))
section
variable{X:Cx}{aj:aQ}{W:WX}{a b c:Expr}{fa fb fc:QF}{pos:Pos}
theorem alK{op:CmpOp}{neg:Bool}{d:Dat}{v:V}(hc:scD d=some v)(hr:OpR X (compareOp op) (Zi neg v))(ha:QW aj X W a fa)(hb:PE X b (tC v))(hm:behindInMarks op b=false):QE aj X W (.Compare a [op] [b] pos) (wI neg d fa):=
 PE.weak (pe_cmpR hr ha hb hm) λσ H Q ⟨g,Z,M,I,h⟩=>by
  refine tW.go I h.bnd λe x H1 h1 e1 r1=>?_;refine⟨rfl,?_⟩;rw[abu r1 hc];exact h1 _ H1 e1 (.bl _)
end
def Ko:Dat->Bool
 |.none=>true
 |.bool _=>true
 |.int _=>true
 |.str _=>true
 |_=>false
def inB:Dat->Dat->Out Bool
 |d,.list ds=>Out.when (okd 12 d&&mD 12 ds) (.ok (ds.any λz=>PyData.eqv z d))
 |d,.tuple ds=>Out.when (Ko d&&ds.all Ko) (.ok (ds.any λz=>PyData.eqv z d))
 |.str x,.str z=>match x.cps.toList with
  |[c]=>.ok (decide (c∈z.cps.toList))
  |_=>.bad
 |_,_=>.bad
def inD(neg:Bool)(d e:Dat):Out Dat:=(inB d e).bind λb=>.ok (.bool (neg ^^ b))
section
variable{K:aqX}{g:Gh}{H:Hp}
theorem ZC{v:V}{d:Dat}(f:Ko d=true)(h:Rep K g H v d):flatV v=true:=by
 cases h with
 |tup _ _=>cases f
 |lst _ _=>cases f
 |obj _=>cases f
 |_=>rfl
theorem Wf:∀{vs:List V} {ds:List Dat},ds.all Ko=true->aK K g H vs ds->vs.all flatV=true
 |_,_,_,.nil=>rfl
 |_,_,f,.cons h t=>by
  rw[arJ,aqZ]at f;rw[arJ,ZC f.1 h,Wf f.2 t];rfl
theorem ah3{v w:V}{d e:Dat}(f1:Ko d=true)(f2:Ko e=true)(h1:Rep K g H v d)(h2:Rep K g H w e):eqV v w=PyData.eqv d e:=by
 cases h1 with
 |tup _ _=>cases f1
 |lst _ _=>cases f1
 |obj _=>cases f1
 |non=>cases h2 with
  |tup _ _=>cases f2
  |lst _ _=>cases f2
  |obj _=>cases f2
  |_=>simp[eqV,PyData.eqv]
 |bl b=>cases h2 with
  |tup _ _=>cases f2
  |lst _ _=>cases f2
  |obj _=>cases f2
  |_=>simp[eqV,PyData.eqv]
 |int b=>cases h2 with
  |tup _ _=>cases f2
  |lst _ _=>cases f2
  |obj _=>cases f2
  |_=>simp[eqV,PyData.eqv]
 |str b=>cases h2 with
  |tup _ _=>cases f2
  |lst _ _=>cases f2
  |obj _=>cases f2
  |_=>simp[eqV,PyData.eqv]
theorem aa1{w:V}{e:Dat}(f2:Ko e=true)(h2:Rep K g H w e):∀{vs:List V} {ds:List Dat},ds.all Ko=true->aK K g H vs ds->inV w vs=ds.any λz=>PyData.eqv z e
 |_,_,_,.nil=>rfl
 |v::vs,d::ds,f,.cons h t=>by
  rw[arJ,aqZ]at f;have ih:=aa1 f2 h2 f.2 t;unfold inV at ih ⊢;rw[arW,arW,ih,ah3 f.1 f2 h h2]
theorem ah5{v:V}{d:Dat}(f:Ko d=true)(h:eU K g H v d):Rep K g H v d:=by
 cases d with
 |list _=>cases f
 |_=>exact h
end
def Zg(K:aqX)(neg:Bool):R2:=λx y H Q=>(∃d ds,Dp K H x d/\Dp K H y (.list ds)/\SeqAt.shaped d=true/\SeqAt.shaped (.list ds)=true/\Q (.bl (neg ^^ (ds.any λz=>PyData.eqv z d))) H)∨
 (∃p xs,y=.ref p/\(SqL K H p xs∨SqT K H p xs)/\flatV x=true/\xs.all flatV=true/\Q (.bl (neg ^^ inV x xs)) H)∨∃(c:Nat) (z:Str),x=.str ⟨#[c]⟩/\y=.str z/\Q (.bl (neg ^^ decide (c∈z.cps.toList))) H
theorem akF{X:Cx}(hu:X.A.units+65 < cLine):OpR X (compareOp .In) (Zg X.K false):=λpins s σ H x y v u Q I rx ry h=>by
 unfold Zg at h;simp only[Bool.false_xor]at h;rcases h with⟨d,ds,h⟩|⟨p,xs,h⟩|h
 ·exact op_inD hu pins s σ H x y v u Q I rx ry ⟨d,ds,h⟩
 ·exact op_in_seq pins s σ H x y v u Q I rx ry ⟨p,xs,h⟩
 ·exact op_in_sign pins s σ H x y v u Q I rx ry h
theorem adI{X:Cx}(hu:X.A.units+65 < cLine):OpR X (compareOp .NotIn) (Zg X.K true):=λpins s σ H x y v u Q I rx ry h=>by
 unfold Zg at h;simp only[Bool.true_xor]at h;rcases h with⟨d,ds,h⟩|⟨p,xs,h⟩|h
 ·exact op_notInD hu pins s σ H x y v u Q I rx ry ⟨d,ds,h⟩
 ·exact op_notIn_seq pins s σ H x y v u Q I rx ry ⟨p,xs,h⟩
 ·exact op_notIn_sign pins s σ H x y v u Q I rx ry h
theorem agd{K:aqX}{aj:aQ}{W:WX}{neg:Bool}:qG aj K W (inD neg) (Zg K neg):=λσ g H x y d e Q k rx ry h=>by
 replace h:=Out.sat.bnd h
 unfold inB at h;split at h
 ·next ds=>
  obtain⟨hz,h⟩:=h.qH;rw[aqZ]at hz;have e2:okd 13 (.list ds)=true:=by rw[okd];exact hz.2
  exact .inl ⟨_,ds,rx.dp hz.1,ry.dp e2,BZ hz.1 (by decide),BZ e2 (by decide),h _ H (Ex.refl H) (.bl _)⟩
 ·next ds=>
  obtain⟨hz,h⟩:=h.qH;rw[aqZ]at hz;obtain⟨p,us,rfl,h1,h2⟩:=lY ry;have rx':=ah5 hz.1 rx;refine .inr (.inl ⟨p,us,rfl,.inr h1,ZC hz.1 rx',Wf hz.2 h2,?_⟩);rw[aa1 hz.1 rx' hz.2 h2];exact h _ H (Ex.refl H) (.bl _)
 ·next xs z=>
  split at h
  ·next c e=>
   refine .inr (.inr ⟨c,z,?_,jY ry,h _ H (Ex.refl H) (.bl _)⟩);rw[jY rx];congr 1;have:xs.cps=#[c]:=by apply Array.toList_inj.mp;rw[e]
   cases xs;simp only at this;rw[this]
  ·exact asi h
 ·exact asi h
def Vc:Dat->Out Dat
 |.int i=>.ok (.int (-i))
 |_=>.bad
def HX:Dat->Out Bool
 |.none=>.ok false
 |.bool b=>.ok b
 |.int i=>.ok (i != 0)
 |.str x=>Out.when (decide (x.length<=100000)) (.ok (!x.cps.toList.isEmpty))
 |.list ds=>.ok (!ds.isEmpty)
 |.tuple ds=>.ok (!ds.isEmpty)
 |_=>.bad
def iH(a:QF):QT:=λM Z=>(a M Z).bind HX
def Bx:Dat->Out Bool
 |.bool b=>.ok b
 |_=>.bad
def bf(a:QF):QT:=λM Z=>(a M Z).bind Bx
def jC(a:QT):QT:=λM Z=>(a M Z).bind λb=>.ok (!b)
def lg(a b:QT):QT:=λM Z=>(a M Z).bind λx=>if x=true then b M Z else .ok false
def Dj(a b:QT):QT:=λM Z=>(a M Z).bind λx=>if x=true then .ok true else b M Z
def Vu(a:QT):QF:=λM Z=>(a M Z).bind λb=>.ok (.bool b)
def Qx(t:QT)(a b:QF):QF:=λM Z=>(t M Z).bind λx=>if x=true then a M Z else b M Z
theorem Rr{K:aqX}{g:Gh}{H:Hp}{us:List V}{ds:List Dat}(h:aK K g H us ds):(!ds.isEmpty)=!us.isEmpty:=by cases h<;>rfl
section
variable{X:Cx}{aj:aQ}{W:WX}{a b c:Expr}{fa fb fc:QF}{ta tb:QT}{pos:Pos}
theorem ajR(ha:QW aj X W a fa):QE aj X W (.UnaryOp .USub a pos) (eX Vc fa):=
 PE.weak (pe_un un_neg ha) λσ H Q ⟨g,Z,M,I,h⟩=>by
  refine tW.go I h.bnd λd v H1 h1 e1 r1=>?_;unfold Vc at h1;split at h1
  ·exact⟨_,cI r1,h1 _ H1 e1 (.int _)⟩
  ·exact asi h1
theorem ac2{g:Gh}{H:Hp}{v:V}{d:Dat}{P:Bool->Prop}{E:dR->Prop}(r:eU X.K g H v d)(h:(HX d).sat P E):∃k,TruV X.K v H k/\P k:=by
 unfold HX at h;split at h
 ·cases Fw r;exact⟨_,rfl,h⟩
 ·cases Du r;exact⟨_,rfl,h⟩
 ·cases cI r;exact⟨_,rfl,h⟩
 ·next x=>
  obtain⟨hz,h⟩:=h.qH;cases jY r;refine⟨_,⟨sz_of (asl hz),?_⟩,h⟩;have e:x.length=x.cps.toList.length:=by rw[arG];rfl
  rw[e];cases x.cps.toList with
  |nil=>rfl
  |cons y ys=>
   refine Eq.symm (bne_iff_ne.mpr ?_);simp;omega
 ·obtain⟨p,us,rfl,h1,h2⟩:=jo r;rw[Rr h2]at h;exact⟨_,.inl ⟨us,h1,rfl⟩,h⟩
 ·obtain⟨p,us,rfl,h1,h2⟩:=lY r;rw[Rr h2]at h;exact⟨_,.inr (.inl ⟨us,h1,rfl⟩),h⟩
 ·exact asi h
theorem aki(ha:QW aj X W a fa)(he:∀whole,isTrue a X.env whole=(do let v ←whole;standAt a.pos;holding [v] (truthy v))):sS aj X W a (iH fa):=
 PT.weak (pt_truth ha he) λσ H Q ⟨g,Z,M,I,h⟩=>by
  refine tW.go I h.bnd λd v H1 h1 e1 r1=>?_;obtain⟨k,h2,h3⟩:=ac2 r1 h1;exact⟨k,h2,h3 H1 e1⟩
theorem Ey{g:Gh}{H:Hp}{v:V}{d:Dat}{P:Bool->Prop}{E:dR->Prop}(r:eU X.K g H v d)(h:(Bx d).sat P E):∃k,v=.bl k/\P k:=by
 unfold Bx at h;split at h
 ·cases Du r;exact⟨_,rfl,h⟩
 ·exact asi h
theorem ajd{op:CmpOp}{r:R2}{o:Dat->Dat->Out Dat}(hr:OpR X (compareOp op) r)(ho:qG aj X.K W o r)(ha:QW aj X W a fa)(hb:QW aj X W b fb)(hm:behindInMarks op b=false):sS aj X W (.Compare a [op] [b] pos) (bf (aA o fa fb)):=
 PT.weak (pt_cmpR hr ha hb hm) λσ H Q ⟨g,Z,M,I,h⟩=>by
  refine QD ho σ H _ ⟨g,Z,M,I,h.bnd.mono (λd h1 v H' e' r'=>?_) λ_ z=>z⟩;obtain⟨k,h2,h3⟩:=Ey r'.weak h1;exact⟨k,h2,h3 H' e'⟩
theorem alQ{op:CmpOp}{neg:Bool}{d:Dat}{v:V}(hc:scD d=some v)(hr:OpR X (compareOp op) (Zi neg v))(ha:QW aj X W a fa)(hb:PE X b (tC v))(hm:behindInMarks op b=false):sS aj X W (.Compare a [op] [b] pos) (bf (wI neg d fa)):=
 PT.weak (pt_cmpR hr ha hb hm) λσ H Q ⟨g,Z,M,I,h⟩=>by
  refine tW.go I h.bnd.bnd λe x H1 h1 e1 r1=>?_;refine⟨rfl,_,rfl,?_⟩;rw[abu r1 hc];exact h1 H1 e1
theorem aks(ha:sS aj X W a ta):sS aj X W (.UnaryOp .Not a pos) (jC ta):=
 PT.weak (pt_not ha) λσ H Q ⟨g,Z,M,I,h⟩=>lJ.go I h.bnd λb H1 h1 e1=>h1 H1 e1
def QWt(aj:aQ)(X:Cx)(W:WX)(e:Expr)(f:QT):Prop:=PW X e (lJ X.K aj W f)
theorem PW.weak{X:Cx}{e:Expr}{t t':TT}(h:PW X e t)(k:∀σ H Q,t' σ H Q->t σ H Q):PW X e t':=⟨λwh pins s σ H Q I q=>h.run wh pins s σ H Q I (k σ H Q q)⟩
theorem ala{rest:List Expr}(ha:sS aj X W a ta)(hb:QWt aj X W (.BoolOp .And (b::rest) pos) tb):QWt aj X W (.BoolOp .And (a::b::rest) pos) (lg ta tb):=
 PW.weak (pw_and ha hb) λσ H Q ⟨g,Z,M,I,h⟩=>by
  refine lJ.go I h.bnd λx H1 h1 e1=>?_;cases x with
  |true=>exact⟨g,Z,M,I.ex e1,h1.mono (λb k H' e'=>k H' (e1.trans e')) λ_ z=>z.ex e1⟩
  |false=>exact h1 H1 e1
theorem alB{rest:List Expr}(ha:sS aj X W a ta)(hb:QWt aj X W (.BoolOp .Or (b::rest) pos) tb):QWt aj X W (.BoolOp .Or (a::b::rest) pos) (Dj ta tb):=
 PW.weak (pw_or ha hb) λσ H Q ⟨g,Z,M,I,h⟩=>by
  refine lJ.go I h.bnd λx H1 h1 e1=>?_;cases x with
  |true=>exact h1 H1 e1
  |false=>exact⟨g,Z,M,I.ex e1,h1.mono (λb k H' e'=>k H' (e1.trans e')) λ_ z=>z.ex e1⟩
def Nm(a:QF):QF:=Vu (jC (bf a))
def xg(a b:QF):QF:=λM Z=>(a M Z).bind λd=>(Bx d).bind λx=>if x=true then b M Z else .ok (.bool false)
def acg(a b:QF):QF:=λM Z=>(a M Z).bind λd=>(Bx d).bind λx=>if x=true then .ok (.bool true) else b M Z
theorem ahB(ha:QW aj X W a fa):QE aj X W (.UnaryOp .Not a pos) (Nm fa):=
 PE.weak (pe_not ha) λσ H Q ⟨g,Z,M,I,h⟩=>by
  refine tW.go I h.bnd.bnd.bnd λd v H1 h1 e1 r1=>?_;obtain⟨k,h2,h3⟩:=Ey r1 h1;exact⟨k,h2,h3 _ H1 e1 (.bl _)⟩
theorem ahS{rest:List Expr}(ha:QE aj X W a fa)(hb:QE aj X W (.BoolOp .And (b::rest) pos) fb):QE aj X W (.BoolOp .And (a::b::rest) pos) (xg fa fb):=
 PE.weak (pe_and ha hb) λσ H Q ⟨g,Z,M,I,h⟩=>by
  refine tQ.go I h.bnd λd v H1 h1 e1 r1=>?_;obtain⟨k,h2,h3⟩:=Ey r1.weak h1.bnd;refine⟨k,h2,?_⟩;cases k with
  |true=>exact⟨g,Z,M,I.ex e1,h3.mono (λb k v' H' e' r'=>k v' H' (e1.trans e') r') λ_ z=>z.ex e1⟩
  |false=>exact h3 _ H1 e1 (.bl false)
theorem aj8{rest:List Expr}(ha:QE aj X W a fa)(hb:QE aj X W (.BoolOp .Or (b::rest) pos) fb):QE aj X W (.BoolOp .Or (a::b::rest) pos) (acg fa fb):=
 PE.weak (pe_or ha hb) λσ H Q ⟨g,Z,M,I,h⟩=>by
  refine tQ.go I h.bnd λd v H1 h1 e1 r1=>?_;obtain⟨k,h2,h3⟩:=Ey r1.weak h1.bnd;refine⟨k,h2,?_⟩;cases k with
  |false=>exact⟨g,Z,M,I.ex e1,h3.mono (λb k v' H' e' r'=>k v' H' (e1.trans e') r') λ_ z=>z.ex e1⟩
  |true=>exact h3 _ H1 e1 (.bl true)
theorem ae2(hc:sS aj X W c ta)(ha:QE aj X W a fa)(hb:QE aj X W b fb):QE aj X W (.IfExp c a b pos) (Qx ta fa fb):=
 PE.weak (pe_ifExp hc ha hb) λσ H Q ⟨g,Z,M,I,h⟩=>by
  refine lJ.go I h.bnd λx H1 h1 e1=>?_;cases x with
  |true=>exact⟨g,Z,M,I.ex e1,h1.mono (λb k v' H' e' r'=>k v' H' (e1.trans e') r') λ_ z=>z.ex e1⟩
  |false=>exact⟨g,Z,M,I.ex e1,h1.mono (λb k v' H' e' r'=>k v' H' (e1.trans e') r') λ_ z=>z.ex e1⟩
def pF(o o':Dat->Dat->Out Dat)(a b c:QF):QT:=λM Z=>(a M Z).bind λx=>(b M Z).bind λy=>(o x y).bind λz=>(Bx z).bind λk=>if k=true then(c M Z).bind λw=>(o' y w).bind Bx else .ok false
theorem ZP{r r':R2}{o o':Dat->Dat->Out Dat}(ho:qG aj X.K W o r)(ho':qG aj X.K W o' r'){σ:L2.St}{H:Hp}{Q:VK}{P:Bool->Hp->Prop}(hP:∀k H',P k H'->Q (.bl k) H')(h:lJ X.K aj W (pF o o' fa fb fc) σ H P):tChain r r' (tW X.K aj W fa) (tW X.K aj W fb) (tW X.K aj W fc) σ H Q:=by
 obtain⟨g,Z,M,I,h⟩:=h;refine tW.go I h.bnd λd v H1 h1 e1 r1=>?_;have I1:=I.ex e1;refine tW.go I1 (h1.bnd.mono (λ_ z=>z) λ_ z=>z.ex e1) λd2 v2 H2 h2 e2 r2=>?_;have I2:=I1.ex e2;have r1':=r1.ex e2 I1.kd;refine ho σ g H2 v v2 d d2 _ I2.kd r1' r2 (h2.bnd.mono (λz hz u H3 e3 r3=>?_) λ_ z=>(z.ex e1).ex e2);obtain⟨k,h4,h5⟩:=Ey r3.weak hz.bnd;refine⟨k,h4,?_⟩;have I3:=I2.ex e3;have e13:=(e1.trans e2).trans e3;cases k with
 |false=>exact hP _ _ (h5 H3 e13)
 |true=>
  refine tW.go I3 (h5.bnd.mono (λ_ z=>z) λ_ z=>z.ex e13) λd4 v4 H4 h6 e4 r4=>?_;refine ho' σ g H4 v2 v4 d2 d4 _ (I3.ex e4).kd ((r2.ex e3 I2.kd).ex e4 I3.kd) r4 (h6.bnd.mono (λz hz u H5 e5 r5=>?_) λ_ z=>(z.ex e13).ex e4);obtain⟨k,rfl,h8⟩:=Ey r5.weak hz;exact hP _ _ (h8 H5 ((e13.trans e4).trans e5))
theorem afl{op op':CmpOp}{r r':R2}{o o':Dat->Dat->Out Dat}(hr:OpR X (compareOp op) r)(hr':OpR X (compareOp op') r')(ho:qG aj X.K W o r)(ho':qG aj X.K W o' r')(ha:QW aj X W a fa)(hb:QW aj X W b fb)(hc:QW aj X W c fc)(hm:lastMarks [op,op'] [b,c]=false) :
  sS aj X W (.Compare a [op,op'] [b,c] pos) (pF o o' fa fb fc):=
 PT.weak (pt_chain hr hr' ha hb hc hm) λσ H Q h=>ZP ho ho' (λk H' z=>⟨k,rfl,z⟩) h
theorem ae3{op op':CmpOp}{r r':R2}{o o':Dat->Dat->Out Dat}(hr:OpR X (compareOp op) r)(hr':OpR X (compareOp op') r')(ho:qG aj X.K W o r)(ho':qG aj X.K W o' r')(ha:QW aj X W a fa)(hb:QW aj X W b fb)(hc:QW aj X W c fc)(hm:lastMarks [op,op'] [b,c]=false) :
  QE aj X W (.Compare a [op,op'] [b,c] pos) (Vu (pF o o' fa fb fc)):=
 PE.weak (pe_chain hr hr' ha hb hc hm) λσ H Q ⟨g,Z,M,I,h⟩=>ZP (P:=λb H1=>Q (.bl b) H1) ho ho' (λk H' z=>z) ⟨g,Z,M,I,h.bnd.mono (λb h1 H' e'=>h1 _ H' e' (.bl b)) λ_ z=>z⟩
end
def aV:Dat->Dat->Out Dat
 |.list ds,.int i=>match atI ds i with
  |some d=>.ok d
  |none=>.bad
 |.tuple ds,.int i=>match atI ds i with
  |some d=>.ok d
  |none=>.bad
 |.str z,.int i=>Out.when (decide (z.length<=100000)) (match atI z.cps.toList i with
  |some c=>.ok (.str ⟨#[c]⟩)
  |none=>.bad)
 |_,_=>.bad
theorem aa2{K:aqX}{g:Gh}{H:Hp}{us:List V}{ds:List Dat}{i:Int}{d:Dat}(h:aK K g H us ds)(e:atI ds i=some d):∃v,atI us i=some v/\Rep K g H v d:=by
 unfold atI at e ⊢;rw[h.length];cases hj:ixN ds.length i with
 |none=>rw[hj]at e;cases e
 |some j=>
  rw[hj]at e;obtain⟨v,h1,h2⟩:=h.get (i:=j) e;exact⟨v,h1,h2⟩
def ajT(K:aqX):R2:=λx y H Q=>rIxL K x y H Q∨rIxT K x y H Q∨rIxS x y H Q
theorem amH{X:Cx}:IxR X (ajT X.K):=λvalue slice pins s σ H x y v u Q I rx ry h hs=>by
 rcases h with h|h|h
 ·exact ix_list value slice pins s σ H x y v u Q I rx ry h hs
 ·exact ix_tup value slice pins s σ H x y v u Q I rx ry h hs
 ·exact ix_str value slice pins s σ H x y v u Q I rx ry h hs
theorem alY{K:aqX}{aj:aQ}{W:WX}:qG aj K W aV (ajT K):=λσ g H x y d e Q k rx ry h=>by
 unfold aV at h;split at h
 ·split at h
  ·next z hz=>
   obtain⟨p,us,rfl,h1,h2⟩:=jo rx;obtain⟨v,h3,h4⟩:=aa2 h2 hz;exact .inl ⟨p,us,_,v,rfl,cI ry,h1,h3,h v H (Ex.refl H) h4⟩
  ·exact asi h
 ·split at h
  ·next z hz=>
   obtain⟨p,us,rfl,h1,h2⟩:=lY rx;obtain⟨v,h3,h4⟩:=aa2 h2 hz;exact .inr (.inl ⟨p,us,_,v,rfl,cI ry,h1,h3,h v H (Ex.refl H) h4⟩)
  ·exact asi h
 ·obtain⟨hl,h⟩:=h.qH;split at h
  ·next c hz=>exact .inr (.inr ⟨_,_,c,jY rx,cI ry,sz_of (asl hl),hz,h _ H (Ex.refl H) (.str _)⟩)
  ·exact asi h
 ·exact asi h
def cutD{α:Type}(xs:List α)(lo hi:Option Int):List α:=(xs.drop (HT.sIx xs.length 0 lo)).take (HT.sIx xs.length xs.length hi - HT.sIx xs.length 0 lo)
abbrev QO:=Mo->Env->Out (Option Int)
def w6:QO:=λ_ _=>.ok none
def Bb:Dat->Out Int
 |.int i=>.ok i
 |_=>.bad
def qD(a:QF):QO:=λM Z=>(a M Z).bind λd=>(Bb d).bind λi=>.ok (some i)
def Z6(d:Dat)(lo hi:Option Int):Out Dat:=
 match d with
 |.list ds=>.ok (.list (cutD ds lo hi))
 |.tuple ds=>.ok (.tuple (cutD ds lo hi))
 |.str z=>Out.when (decide (z.length<=100000)) (.ok (.str (cutS z lo hi)))
 |_=>.bad
def Ly(a:QF)(lo hi:QO):QF:=λM Z=>(a M Z).bind λd=>(lo M Z).bind λl=>(hi M Z).bind λh=>Z6 d l h
def tQO(K:aqX)(aj:aQ)(W:WX)(f:QO):TO:=λσ H Q=>∃g Z M,SInv K aj σ H g Z M/\(f M Z).sat (λo=>∀H',Ex H H'->Q o H') (rG K aj W g H σ)
def QOe(aj:aQ)(X:Cx)(W:WX)(e:Option Expr)(f:QO):Prop:=PO X e (tQO X.K aj W f)
def akv(K:aqX):V->Option Int->Option Int->Hp->VK->Prop:=λx lo hi H Q=>rSlL K x lo hi H Q∨rSlA K x lo hi H Q∨rSlS x lo hi H Q
theorem anD{X:Cx}:SlR X (akv X.K):=λpins s σ H x v vl vu lo hi sl Q I rx hs pl pu h=>by
 rcases h with h|h|h
 ·exact sl_list pins s σ H x v vl vu lo hi sl Q I rx hs pl pu h
 ·exact sl_tupA pins s σ H x v vl vu lo hi sl Q I rx hs pl pu h
 ·exact sl_str pins s σ H x v vl vu lo hi sl Q I rx hs pl pu h
theorem alq{K:aqX}{g:Gh}{H:Hp}{x:V}{d:Dat}{lo hi:Option Int}{Q:VK}{E:dR->Prop}(k:Kd g H)(rx:eU K g H x d)(h:(Z6 d lo hi).sat (λz=>∀v H',Ex H H'->Rep K g H' v z->Q v H') E):akv K x lo hi H Q:=by
 unfold Z6 at h;have hc:∀{us:List V} {ds:List Dat},aK K g H us ds->aK K g H (cutV us lo hi) (cutD ds lo hi):=λ{us ds} t=>by
  unfold cutV cutD;rw[t.length];exact(t.drop _).take _
 split at h
 ·obtain⟨p,us,rfl,h1,h2⟩:=jo rx;exact .inl ⟨p,us,rfl,h1,λq nq=>h _ _ (Ex.new nq) (.lst (.inl ⟨.inl upd_same,k.fresh nq⟩) ((hc h2).ex (Ex.new nq) k))⟩
 ·next ds=>
  obtain⟨p,us,rfl,h1,h2⟩:=lY rx;refine .inr (.inl ⟨p,us,rfl,h1,λz=>?_,λ_ q nq=>h _ _ (Ex.new nq) (.tup (st_of upd_same) ((hc h2).ex (Ex.new nq) k))⟩);have e:cutD ds lo hi=ds:=by unfold cutD;rw[←h2.length,z.1,z.2,h2.length];simp
  rw[e]at h;exact h _ H (Ex.refl H) (.tup h1 h2)
 ·obtain⟨hz,h⟩:=h.qH;exact .inr (.inr ⟨_,jY rx,sz_of (asl hz),h _ H (Ex.refl H) (.str _)⟩)
 ·exact asi h
section
variable{X:Cx}{aj:aQ}{W:WX}{a b:Expr}{fa fb:QF}{pos p2:Pos}
theorem als(ha:QW aj X W a fa)(hb:QW aj X W b fb)(hs:PlainIx b):QE aj X W (.Subscript a b pos) (aA aV fa fb):=
 PE.weak (pe_ix amH ha hb hs) λσ H Q h=>QD alY σ H Q h
theorem PO.weak{X:Cx}{e:Option Expr}{t t':TO}(h:PO X e t)(k:∀σ H Q,t' σ H Q->t σ H Q):PO X e t':=⟨λpins s σ H Q I q=>h.run pins s σ H Q I (k σ H Q q)⟩
theorem agG:QOe aj X W none w6:=PO.weak po_none λσ H Q ⟨g,Z,M,I,h⟩=>h H (Ex.refl H)
theorem ahp(ha:QW aj X W a fa):QOe aj X W (some a) (qD fa):=PO.weak (po_some ha) λσ H Q ⟨g,Z,M,I,h⟩=>by
 refine tW.go I h.bnd λd v H1 h1 e1 r1=>?_;have h1:=h1.bnd;unfold Bb at h1;split at h1
 ·exact⟨_,cI r1,h1 H1 e1⟩
 ·exact asi h1
theorem aml{lo hi:Option Expr}{fl fh:QO}(ha:QW aj X W a fa)(hl:QOe aj X W lo fl)(hh:QOe aj X W hi fh):QE aj X W (.Subscript a (.Slice lo hi none p2) pos) (Ly fa fl fh):=
 PE.weak (pe_slice anD ha hl hh) λσ H Q ⟨g,Z,M,I,h⟩=>by
  refine tW.go I h.bnd λd v H1 h1 e1 r1=>?_;have I1:=I.ex e1;refine⟨g,Z,M,I1,h1.bnd.mono (λl h2 H2 e2=>?_) λ_ z=>z.ex e1⟩;have I2:=I1.ex e2;refine⟨g,Z,M,I2,h2.bnd.mono (λu h3 H3 e3=>?_) λ_ z=>(z.ex e1).ex e2⟩;exact alq (I2.ex e3).kd ((r1.ex e2 I1.kd).ex e3 I2.kd) (h3.mono (λz hz v' H' e' r'=>hz v' H' (((e1.trans e2).trans e3).trans e') r') λ_ z=>z)
end
def JB(aj:aQ)(K:aqX)(W:WX)(o:Dat->Out Dat)(r:List V->Hp->VK->Prop):Prop:=∀(σ:L2.St) (g:Gh) (H:Hp) (x:V) (d:Dat) (Q:VK),Kd g H->eU K g H x d->
 (o d).sat (λz=>∀v H',Ex H H'->Rep K g H' v z->Q v H') (rG K aj W g H σ)->r [x] H Q
def Fn2(aj:aQ)(K:aqX)(W:WX)(o:Dat->Dat->Out Dat)(r:List V->Hp->VK->Prop):Prop:=∀(σ:L2.St) (g:Gh) (H:Hp) (x y:V) (d e:Dat) (Q:VK),Kd g H->eU K g H x d->eU K g H y e->
 (o d e).sat (λz=>∀v H',Ex H H'->Rep K g H' v z->Q v H') (rG K aj W g H σ)->r [x,y] H Q
def BV(f:Value)(x:Str):Prop:=bootBuiltins x=some f/\x≠"__name__"/\(x==("__debug__" : Str))=false
def nst:Expr->Bool
 |.Starred _ _=>false
 |_=>true
section
variable{X:Cx}{aj:aQ}{W:WX}{a b c:Expr}{fa fb fc:QF}{pos p:Pos}{x:Str}
theorem cU{env:PySem.Env}{a:Expr}(h:nst a=true)(es:List Expr):starEach (a::es) env=(false,eval a env)::starEach es env:=by cases a<;>first | rfl | cases h
theorem star_any{env:PySem.Env}{pos:Pos}:∀(es:List Expr),es.all nst=true->(backTo pos (starEach es env)).any (·.1)=false
 |[],_=>by with_unfolding_all rfl
 |a::es,h=>by
  rw[arJ,aqZ]at h;rw[cU h.1];have ih:=star_any (env:=env) (pos:=pos) es h.2;unfold backTo at ih ⊢;rw[aq1,arW,ih];rfl
theorem agb{f:Value}{id:String}{r:List V->Hp->VK->Prop}{o:Dat->Out Dat}(hf:f=.builtin id∨f=.type id)(hc:CallR X f r)(ho:JB aj X.K W o r)(hg:Gl X x)(hm:X.mg x=none)(hv:BV f x)(ha:QW aj X W a fa)(hs:nst a=true):QE aj X W (.Call (.Name x p) [a] [] pos) (eX o fa):=by
 have h1:=pa_cons ha pa_nil (cU hs []);have key:PE X (.Call (.Name x p) [a] [] pos) (tCB r (tCons (tW X.K aj W fa) tNil)):=by
  rcases hf with rfl|rfl
  ·exact pe_callB hc hg hm hv.1 h1 hv.2.1 hv.2.2 (cU hs []) (by with_unfolding_all rfl)
  ·exact pe_callTy hc hg hm hv.1 h1 hv.2.1 hv.2.2 (cU hs []) (by with_unfolding_all rfl)
 refine PE.weak key λσ H Q ⟨g,Z,M,I,h⟩=>?_;refine tW.go I h.bnd λd v H1 h1 e1 r1=>?_;exact ho σ g H1 v d Q (I.kd.ex e1) r1 (h1.mono (λz hz u H' e' r'=>hz u H' (e1.trans e') r') λ_ z=>z.ex e1)
theorem amd{f:Value}{id:String}{r:List V->Hp->VK->Prop}{o:Dat->Dat->Out Dat}(hf:f=.builtin id∨f=.type id)(hc:CallR X f r)(ho:Fn2 aj X.K W o r)(hg:Gl X x)(hm:X.mg x=none)(hv:BV f x)(ha:QW aj X W a fa)(hb:QW aj X W b fb)(hs:nst a=true)(hs2:nst b=true):QE aj X W (.Call (.Name x p) [a,b] [] pos) (aA o fa fb):=by
 have h1:=pa_cons ha (pa_cons hb pa_nil (cU hs2 [])) (cU hs [b]);have key:PE X (.Call (.Name x p) [a,b] [] pos) (tCB r (tCons (tW X.K aj W fa) (tCons (tW X.K aj W fb) tNil))):=by
  rcases hf with rfl|rfl
  ·exact pe_callB hc hg hm hv.1 h1 hv.2.1 hv.2.2 (cU hs [b]) (star_any [b] (by simp[hs2]))
  ·exact pe_callTy hc hg hm hv.1 h1 hv.2.1 hv.2.2 (cU hs [b]) (star_any [b] (by simp[hs2]))
 refine PE.weak key λσ H Q ⟨g,Z,M,I,h⟩=>?_;refine tW.go I h.bnd λd v H1 h1 e1 r1=>?_;have I1:=I.ex e1;refine tW.go I1 (h1.bnd.mono (λ_ z=>z) λ_ z=>z.ex e1) λd2 v2 H2 h2 e2 r2=>?_;exact ho σ g H2 v v2 d d2 Q (I1.ex e2).kd (r1.ex e2 I1.kd) r2 (h2.mono (λz hz u H' e' r'=>hz u H' ((e1.trans e2).trans e') r') λ_ z=>(z.ex e1).ex e2)
end
def mO:Dat->Out Dat
 |.list ds=>.ok (.int ds.length)
 |.tuple ds=>.ok (.int ds.length)
 |.str x=>Out.when (decide (x.length<=100000)) (.ok (.int x.length))
 |_=>.bad
def Qc:Dat->Out Dat
 |.int i=>.ok (.int (if i < 0 then -i else i))
 |_=>.bad
def sO:Dat->Dat->Out Dat
 |.int i,.int j=>.ok (.int (if j > i then j else i))
 |_,_=>.bad
def Jb:Dat->Dat->Out Dat
 |.int i,.int j=>.ok (.int (if j < i then j else i))
 |_,_=>.bad
def intsOf:List Dat->Option (List Int)
 |[]=>some []
 |.int i::r=>(intsOf r).map (i::·)
 |_::_=>none
def uK:List Dat->Option (List Bool)
 |[]=>some []
 |.bool i::r=>(uK r).map (i::·)
 |_::_=>none
theorem Jl{K:aqX}{g:Gh}{H:Hp}:∀{us:List V} {ds:List Dat} {ns:List Int},aK K g H us ds->intsOf ds=some ns->us=ns.map V.int
 |_,_,ns,.nil,e=>by cases e;rfl
 |_,_,ns,.cons (d:=d) (ds:=ds) h t,e=>by
  cases d with
  |int i=>
   rw[intsOf]at e;cases hr:intsOf ds with
   |none=>rw[hr]at e;cases e
   |some r=>
    rw[hr]at e;cases e;cases h;rw[Jl t hr];rfl
  |_=>cases e
theorem KQ{K:aqX}{g:Gh}{H:Hp}:∀{us:List V} {ds:List Dat} {ns:List Bool},aK K g H us ds->uK ds=some ns->us=ns.map V.bl
 |_,_,ns,.nil,e=>by cases e;rfl
 |_,_,ns,.cons (d:=d) (ds:=ds) h t,e=>by
  cases d with
  |bool i=>
   rw[uK]at e;cases hr:uK ds with
   |none=>rw[hr]at e;cases e
   |some r=>
    rw[hr]at e;cases e;cases h;rw[KQ t hr];rfl
  |_=>cases e
@[simp]theorem BK (ns:List Int):intsOf (ns.map PyData.int)=some ns:=by
 induction ns with
 |nil=>rfl
 |cons n ns ih=>rw[aq1,intsOf,ih];rfl
@[simp]theorem Ec (ns:List Bool):uK (ns.map PyData.bool)=some ns:=by
 induction ns with
 |nil=>rfl
 |cons n ns ih=>rw[aq1,uK,ih];rfl
def T5:Dat->Out Dat
 |.list ds=>match intsOf ds with
  |some ns=>.ok (.int ns.sum)
  |none=>.bad
 |_=>.bad
def Fl:Int->List Int->Int
 |m,[]=>m
 |m,n::ns=>Fl (if n > m then n else m) ns
theorem Ek:∀(ns:List Int) (m:Int),(Fl m ns∈m::ns)/\∀y∈m::ns,y<=Fl m ns
 |[],m=>⟨by simp[Fl],λy h=>by simp at h;subst h;exact Int.le_refl _⟩
 |n::ns,m=>by
  obtain⟨h1,h2⟩:=Ek ns (if n > m then n else m);have hm:m<=(if n > m then n else m):=by split<;>omega
  have hn:n<=(if n > m then n else m):=by split<;>omega
  have h3:=h2 _ aq4;refine⟨?_,λy hy=>?_⟩
  ·show Fl (if n > m then n else m) ns∈_;rcases arh.mp h1 with e|e
   ·rw[e];split
    ·exact aq3 _ aq4
    ·exact aq4
   ·exact aq3 _ (aq3 _ e)
  ·show y<=Fl (if n > m then n else m) ns;rcases arh.mp hy with e|hy
   ·omega
   ·rcases arh.mp hy with e|hy
    ·omega
    ·exact h2 y (aq3 _ hy)
def maxD:Dat->Out Dat
 |.list ds=>match intsOf ds with
  |some (n::ns)=>.ok (.int (Fl n ns))
  |_=>.bad
 |_=>.bad
def Pn:Dat->Out Dat
 |.list ds=>match uK ds with
  |some bs=>.ok (.bool (bs.all id))
  |none=>.bad
 |_=>.bad
def PB:Dat->Out Dat
 |.list ds=>match uK ds with
  |some bs=>.ok (.bool (bs.any id))
  |none=>.bad
 |_=>.bad
def nR:Dat->Out Dat
 |.list ds=>.ok (.tuple ds)
 |.tuple ds=>.ok (.tuple ds)
 |_=>.bad
def El:Dat->Out Dat
 |.list ds=>.ok (.list ds)
 |.tuple ds=>.ok (.list ds)
 |_=>.bad
def intD:Dat->Out Dat
 |.int i=>.ok (.int i)
 |.bool k=>.ok (.int (if k then 1 else 0))
 |.str x=>Out.when (decide (x.length<=640)) (match PySem.intText? x with
  |some n=>.ok (.int n)
  |none=>.bad)
 |_=>.bad
def agj(K:aqX):List V->Hp->VK->Prop:=λxs H Q=>(∃p ys,xs=[.ref p]/\(SqL K H p ys∨SqT K H p ys)/\Q (.int ys.length) H)∨∃z,xs=[.str z]/\z.length<=sizeLine/\Q (.int z.length) H
theorem aiC{X:Cx}:CallR X (.builtin "len") (agj X.K):=λpins s σ H xs us Q I r h=>h.elim (λh=>call_len_seq pins s σ H xs us Q I r h) λh=>call_len_str pins s σ H xs us Q I r h
def agc:List V->Hp->VK->Prop:=λxs H Q=>((∃i,xs=[.int i]/\Q (.int i) H)∨∃k,xs=[.bl k]/\Q (.int (if k then 1 else 0)) H)∨∃a n,xs=[.str a]/\PySem.intText? a=some n/\a.length<=640/\Q (.int n) H
theorem akP{X:Cx}:CallR X (.type "int") agc:=λpins s σ H xs us Q I r h=>h.elim (λh=>call_int1 pins s σ H xs us Q I r h) λh=>call_int_str pins s σ H xs us Q I r h
section
variable{K:aqX}{aj:aQ}{W:WX}
theorem ai8:JB aj K W mO (agj K):=λσ g H x d Q k rx h=>by
 unfold mO at h;split at h
 ·obtain⟨p,us,rfl,h1,h2⟩:=jo rx;rw[←h2.length]at h;exact .inl ⟨p,us,rfl,.inl h1,h _ H (Ex.refl H) (.int _)⟩
 ·obtain⟨p,us,rfl,h1,h2⟩:=lY rx;rw[←h2.length]at h;exact .inl ⟨p,us,rfl,.inr h1,h _ H (Ex.refl H) (.int _)⟩
 ·obtain⟨hz,h⟩:=h.qH;cases jY rx;exact .inr ⟨_,rfl,sz_of (asl hz),h _ H (Ex.refl H) (.int _)⟩
 ·exact asi h
theorem akO:JB aj K W Qc (λxs H Q=>∃i,xs=[.int i]/\Q (.int (if i < 0 then -i else i)) H):=λσ g H x d Q k rx h=>by
 unfold Qc at h;split at h
 ·cases cI rx;exact⟨_,rfl,h _ H (Ex.refl H) (.int _)⟩
 ·exact asi h
theorem agM:Fn2 aj K W sO (λxs H Q=>∃i j,xs=[.int i,.int j]/\Q (.int (if j > i then j else i)) H):=λσ g H x y d e Q k rx ry h=>by
 unfold sO at h;split at h
 ·cases cI rx;cases cI ry;exact⟨_,_,rfl,h _ H (Ex.refl H) (.int _)⟩
 ·exact asi h
theorem agO:Fn2 aj K W Jb (λxs H Q=>∃i j,xs=[.int i,.int j]/\Q (.int (if j < i then j else i)) H):=λσ g H x y d e Q k rx ry h=>by
 unfold Jb at h;split at h
 ·cases cI rx;cases cI ry;exact⟨_,_,rfl,h _ H (Ex.refl H) (.int _)⟩
 ·exact asi h
theorem ajg:JB aj K W T5 (rSum K):=λσ g H x d Q k rx h=>by
 unfold T5 at h;split at h
 ·split at h
  ·next ns e=>
   obtain⟨p,us,rfl,h1,h2⟩:=jo rx;have:=Jl h2 e;subst this;exact⟨p,ns,rfl,h1,h _ H (Ex.refl H) (.int _)⟩
  ·exact asi h
 ·exact asi h
theorem ajo:JB aj K W maxD (rMax K):=λσ g H x d Q k rx h=>by
 unfold maxD at h;split at h
 ·split at h
  ·next n ns e=>
   obtain⟨p,us,rfl,h1,h2⟩:=jo rx;have:=Jl h2 e;subst this;obtain⟨m1,m2⟩:=Ek ns n;refine⟨p,n::ns,rfl,h1,by simp,λm hm hy=>?_⟩;have e2:m=Fl n ns:=Int.le_antisymm (m2 m hm) (hy _ m1);rw[e2];exact h _ H (Ex.refl H) (.int _)
  ·exact asi h
 ·exact asi h
theorem aj5:JB aj K W Pn (rAll K):=λσ g H x d Q k rx h=>by
 unfold Pn at h;split at h
 ·split at h
  ·next ns e=>
   obtain⟨p,us,rfl,h1,h2⟩:=jo rx;have:=KQ h2 e;subst this;exact⟨p,ns,rfl,h1,h _ H (Ex.refl H) (.bl _)⟩
  ·exact asi h
 ·exact asi h
theorem ajl:JB aj K W PB (rAny K):=λσ g H x d Q k rx h=>by
 unfold PB at h;split at h
 ·split at h
  ·next ns e=>
   obtain⟨p,us,rfl,h1,h2⟩:=jo rx;have:=KQ h2 e;subst this;exact⟨p,ns,rfl,h1,h _ H (Ex.refl H) (.bl _)⟩
  ·exact asi h
 ·exact asi h
theorem aeR:JB aj K W nR (λxs H Q=>∃p ys,xs=[.ref p]/\((SqL K H p ys/\∀l,H l=none->Q (.ref l) (upd H l (.tup ys)))∨(SqT K H p ys/\Q (.ref p) H))):=λσ g H x d Q k rx h=>by
 unfold nR at h;split at h
 ·obtain⟨p,us,rfl,h1,h2⟩:=jo rx;exact⟨p,us,rfl,.inl ⟨h1,λl nl=>h _ _ (Ex.new nl) (.tup (st_of upd_same) (h2.ex (Ex.new nl) k))⟩⟩
 ·obtain⟨p,us,rfl,h1,h2⟩:=lY rx;exact⟨p,us,rfl,.inr ⟨h1,h _ H (Ex.refl H) (.tup h1 h2)⟩⟩
 ·exact asi h
theorem aij:JB aj K W El (λxs H Q=>∃p ys,xs=[.ref p]/\(SqL K H p ys∨SqT K H p ys)/\∀l,H l=none->Q (.ref l) (upd H l (.lst ys))):=λσ g H x d Q k rx h=>by
 unfold El at h;split at h
 ·obtain⟨p,us,rfl,h1,h2⟩:=jo rx;exact⟨p,us,rfl,.inl h1,λl nl=>h _ _ (Ex.new nl) (.lst (.inl ⟨.inl upd_same,k.fresh nl⟩) (h2.ex (Ex.new nl) k))⟩
 ·obtain⟨p,us,rfl,h1,h2⟩:=lY rx;exact⟨p,us,rfl,.inr h1,λl nl=>h _ _ (Ex.new nl) (.lst (.inl ⟨.inl upd_same,k.fresh nl⟩) (h2.ex (Ex.new nl) k))⟩
 ·exact asi h
theorem akM:JB aj K W intD agc:=λσ g H x d Q k rx h=>by
 unfold intD at h;split at h
 ·cases cI rx;exact .inl (.inl ⟨_,rfl,h _ H (Ex.refl H) (.int _)⟩)
 ·cases Du rx;exact .inl (.inr ⟨_,rfl,h _ H (Ex.refl H) (.int _)⟩)
 ·obtain⟨hz,h⟩:=h.qH;split at h
  ·next n e=>
   cases jY rx;exact .inr ⟨_,n,rfl,e,asl hz,h _ H (Ex.refl H) (.int _)⟩
  ·exact asi h
 ·exact asi h
end
inductive Oc where
 |int|bool|str|tuple|list
def Oc.name:Oc->String
 |.int=>"int"
 |.bool=>"bool"
 |.str=>"str"
 |.tuple=>"tuple"
 |.list=>"list"
def Bc(t:Oc):Dat->Option Bool
 |.none=>some false
 |.int _=>some (match t with
  |.int=>true
  |_=>false)
 |.bool _=>some (match t with
  |.int=>true
  |.bool=>true
  |_=>false)
 |.str _=>some (match t with
  |.str=>true
  |_=>false)
 |.tuple _=>some (match t with
  |.tuple=>true
  |_=>false)
 |.list _=>some (match t with
  |.list=>true
  |_=>false)
 |.dict _=>none
def zu(t:Oc)(d:Dat):Out Dat:=match Bc t d with
 |some b=>.ok (.bool b)
 |none=>.bad
def aiQ:Dat->String
 |.none=>"NoneType"
 |.int _=>"int"
 |.bool _=>"bool"
 |.str _=>"str"
 |.tuple _=>"tuple"
 |.list _=>"list"
 |.dict _=>"dict"
theorem aja{K:aqX}{H:Hp}{a:Addr}{xs:List V}(h:SqL K H a xs):TyX K H (.ref a) (.type "list"):=by
 rcases h with(h|⟨o,h⟩)|⟨o,its,n,h1,h2,_⟩
 ·exact .base (.lst h)
 ·exact .base (.frz h)
 ·exact .kList h1 h2
theorem akm{K:aqX}{H:Hp}{a:Addr}{xs:List V}(h:SqT K H a xs):TyX K H (.ref a) (.type "tuple"):=by
 rcases h with(h|⟨o,h⟩)|⟨o,its,n,h1,h2,_⟩
 ·exact .base (.tup h)
 ·exact .fTuple h
 ·exact .kTuple h1 h2
theorem alv{K:aqX}{g:Gh}{H:Hp}{x:V}{d:Dat}(h:eU K g H x d)(hd:∀kv,d≠.dict kv):TyX K H x (.type (aiQ d)):=by
 cases d with
 |none=>cases Fw h;exact .base .non
 |bool b=>cases Du h;exact .base (.bl _)
 |int b=>cases cI h;exact .base (.int _)
 |str b=>cases jY h;exact .base (.str _)
 |list b=>obtain⟨a,us,rfl,h1,_⟩:=jo h;exact aja h1
 |tuple b=>obtain⟨a,us,rfl,h1,_⟩:=lY h;exact akm h1
 |dict kv=>exact absurd rfl (hd kv)
theorem aax{K:aqX}:PySem.W.kitOne K (.type "int") (.type "int")=some true:=kit_ty (by decide +kernel)
theorem XH{K:aqX}:PySem.W.kitOne K (.type "int") (.type "bool")=some false:=kit_ty (by decide +kernel)
theorem aas{K:aqX}:PySem.W.kitOne K (.type "int") (.type "str")=some false:=kit_ty (by decide +kernel)
theorem WK{K:aqX}:PySem.W.kitOne K (.type "int") (.type "tuple")=some false:=kit_ty (by decide +kernel)
theorem Zo{K:aqX}:PySem.W.kitOne K (.type "int") (.type "list")=some false:=kit_ty (by decide +kernel)
theorem aaf{K:aqX}:PySem.W.kitOne K (.type "bool") (.type "int")=some true:=kit_ty (by decide +kernel)
theorem Xb{K:aqX}:PySem.W.kitOne K (.type "bool") (.type "bool")=some true:=kit_ty (by decide +kernel)
theorem XS{K:aqX}:PySem.W.kitOne K (.type "bool") (.type "str")=some false:=kit_ty (by decide +kernel)
theorem UW{K:aqX}:PySem.W.kitOne K (.type "bool") (.type "tuple")=some false:=kit_ty (by decide +kernel)
theorem W4{K:aqX}:PySem.W.kitOne K (.type "bool") (.type "list")=some false:=kit_ty (by decide +kernel)
theorem aaD{K:aqX}:PySem.W.kitOne K (.type "str") (.type "int")=some false:=kit_ty (by decide +kernel)
theorem YQ{K:aqX}:PySem.W.kitOne K (.type "str") (.type "bool")=some false:=kit_ty (by decide +kernel)
theorem aan{K:aqX}:PySem.W.kitOne K (.type "str") (.type "str")=some true:=kit_ty (by decide +kernel)
theorem W3{K:aqX}:PySem.W.kitOne K (.type "str") (.type "tuple")=some false:=kit_ty (by decide +kernel)
theorem Z7{K:aqX}:PySem.W.kitOne K (.type "str") (.type "list")=some false:=kit_ty (by decide +kernel)
theorem WQ{K:aqX}:PySem.W.kitOne K (.type "tuple") (.type "int")=some false:=kit_ty (by decide +kernel)
theorem Ue{K:aqX}:PySem.W.kitOne K (.type "tuple") (.type "bool")=some false:=kit_ty (by decide +kernel)
theorem Xg{K:aqX}:PySem.W.kitOne K (.type "tuple") (.type "str")=some false:=kit_ty (by decide +kernel)
theorem SJ{K:aqX}:PySem.W.kitOne K (.type "tuple") (.type "tuple")=some true:=kit_ty (by decide +kernel)
theorem UL{K:aqX}:PySem.W.kitOne K (.type "tuple") (.type "list")=some false:=kit_ty (by decide +kernel)
theorem Zv{K:aqX}:PySem.W.kitOne K (.type "list") (.type "int")=some false:=kit_ty (by decide +kernel)
theorem W9{K:aqX}:PySem.W.kitOne K (.type "list") (.type "bool")=some false:=kit_ty (by decide +kernel)
theorem Zy{K:aqX}:PySem.W.kitOne K (.type "list") (.type "str")=some false:=kit_ty (by decide +kernel)
theorem Ux{K:aqX}:PySem.W.kitOne K (.type "list") (.type "tuple")=some false:=kit_ty (by decide +kernel)
theorem WT{K:aqX}:PySem.W.kitOne K (.type "list") (.type "list")=some true:=kit_ty (by decide +kernel)
theorem O2{K:aqX}:PySem.W.kitOne K (.type "NoneType") (.type "int")=some false:=kit_ty (by decide +kernel)
theorem Nt{K:aqX}:PySem.W.kitOne K (.type "NoneType") (.type "bool")=some false:=kit_ty (by decide +kernel)
theorem Pq{K:aqX}:PySem.W.kitOne K (.type "NoneType") (.type "str")=some false:=kit_ty (by decide +kernel)
theorem Kc{K:aqX}:PySem.W.kitOne K (.type "NoneType") (.type "tuple")=some false:=kit_ty (by decide +kernel)
theorem Nr{K:aqX}:PySem.W.kitOne K (.type "NoneType") (.type "list")=some false:=kit_ty (by decide +kernel)
theorem ahc{K:aqX}{t:Oc}{d:Dat}{b:Bool}(h:Bc t d=some b):PySem.W.kitOne K (.type (aiQ d)) (.type t.name)=some b/\∀kv,d≠.dict kv:=by
 cases d with
 |dict kv=>cases h
 |none=>
  refine⟨?_,λ_ z=>nomatch z⟩;cases t<;>cases h
  ·exact O2
  ·exact Nt
  ·exact Pq
  ·exact Kc
  ·exact Nr
 |bool x=>
  refine⟨?_,λ_ z=>nomatch z⟩;cases t<;>cases h
  ·exact aaf
  ·exact Xb
  ·exact XS
  ·exact UW
  ·exact W4
 |int x=>
  refine⟨?_,λ_ z=>nomatch z⟩;cases t<;>cases h
  ·exact aax
  ·exact XH
  ·exact aas
  ·exact WK
  ·exact Zo
 |str x=>
  refine⟨?_,λ_ z=>nomatch z⟩;cases t<;>cases h
  ·exact aaD
  ·exact YQ
  ·exact aan
  ·exact W3
  ·exact Z7
 |list x=>
  refine⟨?_,λ_ z=>nomatch z⟩;cases t<;>cases h
  ·exact Zv
  ·exact W9
  ·exact Zy
  ·exact Ux
  ·exact WT
 |tuple x=>
  refine⟨?_,λ_ z=>nomatch z⟩;cases t<;>cases h
  ·exact WQ
  ·exact Ue
  ·exact Xg
  ·exact SJ
  ·exact UL
def xM(t:Oc)(a:QF):QF:=eX (zu t) a
section
variable{X:Cx}{aj:aQ}{W:WX}{a b:Expr}{fa:QF}{pos p p2:Pos}{x y:Str}
theorem ajB{t:Oc}(hg:Gl X x)(hm:X.mg x=none)(hv:BV (.builtin "isinstance") x)(hg2:Gl X y)(hm2:X.mg y=none)(hv2:BV (.type t.name) y)(ha:QW aj X W a fa)(hs:nst a=true):QE aj X W (.Call (.Name x p) [a,.Name y p2] [] pos) (xM t fa):=by
 have hb:PE X (.Name y p2) (tC (.ty t.name)):=pe_bltn hg2 hm2 hv2.1 rfl hv2.2.1 hv2.2.2;have h1:=pa_cons ha (pa_cons hb pa_nil (cU (a:=.Name y p2) rfl [])) (cU hs [.Name y p2]);have key:=pe_callB (pos:=pos) (p:=p) call_isi hg hm hv.1 h1 hv.2.1 hv.2.2 (cU hs [.Name y p2]) (star_any [.Name y p2] rfl);refine PE.weak key λσ H Q ⟨g,Z,M,I,h⟩=>?_;refine tW.go I h.bnd λd v H1 h1 e1 r1=>?_;unfold zu at h1;split at h1
 ·next bb e=>
  obtain⟨k1,k2⟩:=ahc (K:=X.K) e;exact⟨v,_,_,_,bb,rfl,.ty _,alv r1 k2,k1,h1 _ H1 e1 (.bl _)⟩
 ·exact asi h1
end
inductive Src where
 |lst (a:Addr)|tup (a:Addr)|str (x:Str)
def chars(x:Str):List V:=x.cps.toList.map λc=>V.str ⟨#[c]⟩
def Src.sq(K:aqX)(H:Hp)(us:List V):Src->Prop
 |.lst a=>SqL K H a us
 |.tup a=>SqT K H a us
 |.str x=>us=chars x
def Src.it(h:Heap)(i:Addr)(n:Nat):Src->Prop
 |.lst a=>h.IsListIter i a n
 |.tup a=>h.IsTupleIter i a n
 |.str x=>∃t,h.IsStrIter i (strIterType x) x t n
def Src.ad:Src->List Addr
 |.lst a=>[a]
 |.tup a=>[a]
 |.str _=>[]
section
variable{X:Cx}{pins:List (Addr×Obj)}{σ:L2.St}{H:Hp}{s:Shared}
theorem Src.inj{S:Src}{us ws:List V}(I:L2.Inv X pins σ H s)(h:S.sq X.K H us)(h':S.sq X.K H ws):us=ws:=by
 cases S with
 |lst a=>exact I.list_inj h h'
 |tup a=>exact I.tuple_inj h h'
 |str x=>exact Eq.trans h (Eq.symm h')
theorem Src.draws{S:Src}{us:List V}{i:Addr}{n:Nat}(I:L2.Inv X pins σ H s)(hA:X.A.handled=none)(hs:S.sq X.K H us)(hi:S.it s.heap i n)(hne:∀a∈S.ad,a≠i) :
  ∃(P:Nat->Value->Prop) (St:Nat->Heap->Prop),Draws X.prog X.w X.A.in1 i (i::S.ad) us.length P St/\St n s.heap/\(∀m h,St m h->S.it h i m)/\∀(m:Nat) (v:Value) (x:V),P m v->us[m]?=some x->RelV x v:=by
 cases S with
 |lst a=>
  obtain⟨its,rv,p,hz⟩:=I.list hs;have hl:=rv.length;have D:=Draws.list (prog:=X.prog) (w:=X.w) (A:=X.A.in1) hA i a (hne a (by simp[Src.ad])) its.toArray;rw[List.size_toArray,←hl]at D;refine⟨_,_,D,⟨hi,p.isList⟩,λm h z=>z.1,λm v x hv hx=>?_⟩;obtain⟨u,hu,ru⟩:=rv.get hx;have:v=u:=ark (hv.symm.trans (by simpa using hu));rw[this];exact ru
 |tup a=>
  obtain⟨its,rv,p,hz⟩:=I.tuple hs;have hl:=rv.length;have D:=Draws.tuple (prog:=X.prog) (w:=X.w) (A:=X.A.in1) hA i a (hne a (by simp[Src.ad])) its.toArray;rw[List.size_toArray,←hl]at D;refine⟨_,_,D,⟨hi,p⟩,λm h z=>z.1,λm v x hv hx=>?_⟩;obtain⟨u,hu,ru⟩:=rv.get hx;have:v=u:=ark (hv.symm.trans (by simpa using hu));rw[this];exact ru
 |str x=>
  obtain⟨t,hi⟩:=hi;have hl:us.length=x.cps.size:=by rw[show us=chars x from hs];unfold chars;rw[ara,arG]
  have D:=Draws.text (prog:=X.prog) (w:=X.w) (A:=X.A.in1) hA i x t;rw[←hl]at D;refine⟨_,_,D,hi,λm h z=>⟨t,z⟩,λm v y hv hy=>?_⟩;obtain⟨c,u,hc,rfl⟩:=hv;rw[show us=chars x from hs]at hy;unfold chars at hy;rw[aq9,arL,hc]at hy;cases hy;exact⟨u,rfl⟩
theorem Src.Nk{S:Src}{h:Heap}{i:Addr}{n:Nat}(hi:S.it h i n):∃o,h.get? i=some o/\∀v,o.data≠.cell v:=by
 cases S with
 |lst a=>obtain⟨o,e,_,d⟩:=hi;exact⟨o,e,λv q=>by rw[d]at q;cases q⟩
 |tup a=>obtain⟨o,e,_,d⟩:=hi;exact⟨o,e,λv q=>by rw[d]at q;cases q⟩
 |str x=>obtain⟨t,o,e,_,d⟩:=hi;exact⟨o,e,λv q=>by rw[d]at q;cases q⟩
theorem Src.M4{S:Src}{h h':Heap}{i:Addr}{n:Nat}(hi:S.it h i n)(k:∀o,h.get? i=some o->h'.get? i=some o):S.it h' i n:=by
 cases S with
 |lst a=>exact hi.at k
 |tup a=>exact hi.at k
 |str x=>obtain⟨t,o,e,r⟩:=hi;exact⟨t,o,k o e,r⟩
end
def ItE(K:aqX)(S:Src)(k₀:Int):It:=
 ⟨λi H=>∃(us:List V) (x:V),S.sq K H us/\us[i]?=some x,λi H v H'=>∃T x,v=.ref T/\H T=none/\H'=upd H T (.tup [.int (k₀+(i:Int)),x])/\∀us,S.sq K H us->us[i]?=some x,λi H=>∃us:List V,S.sq K H us/\us.length=i⟩
theorem ami{P:Program}{w:World}{K:aqX}{elts:List Expr}{kk:Nat}{tpos:Pos}(S:Src)(e i0:Addr)(k₀:Int)(hne:e≠i0)(ha:∀a∈S.ad,e≠a/\a≠i0) :
  Turn P w K (.Tuple elts kk tpos) (ItE K S k₀) [e,i0] e (λi h=>(∃old,IsEnum h e i0 (k₀+(i:Int)) old)/\S.it h i0 i) where
 mem:=by simp
 obj:=λi h st b hb=>by
  obtain⟨⟨old,he⟩,hi⟩:=st;have e':b=e∨b=i0:=by simpa using hb
  rcases e' with z|z
  ·rw[z];exact⟨_,he,λv q=>nomatch q⟩
  ·rw[z];exact Src.Nk hi
 keep:=λi h h' st k=>let ⟨⟨old,he⟩,hi⟩:=st;⟨⟨old,k e (by simp) _ he⟩,Src.M4 hi λo q=>k i0 (by simp) o q⟩
 item:=by
  intro X hP hw hK hc i pins s σ H E I hf st hg;subst hP hw hK;obtain⟨⟨old,he⟩,hit⟩:=st;obtain⟨us,x,hq,hx⟩:=hg;obtain⟨PP,St,D,st0,stI,rel⟩:=Src.draws I (I.ok.hd hc) hq hit λa z=>(ha a z).2;have hel:e < s.heap.objs.size:=Heap.lt_size he;have hil:i0 < s.heap.objs.size:=by obtain⟨_,q,_⟩:=Src.Nk hit;exact Heap.lt_size q
  have hin:i < us.length:=(aqY.mp hx).1;refine wpAny_pyNext_enum_itemC D he st0 hin hne (λz=>?_) λv h' tk hP ho hst' hT hsz hk=>?_
  ·rcases arh.mp z with z|z
   ·exact hne z
   ·exact(ha e z).1 rfl
  have ru:=rel i v x hP hx;refine⟨_,rfl,wpAny_letOwnedTupleGo_enum (s:={ s with heap:=h',toks:=tk+1 }) ho λh'' he' sb=>?_⟩;have hT2:h''.get? s.heap.objs.size=some { cls:=.type "tuple",data:=.seq #[.int (k₀+(i:Int)) tk,v] }:=(sb.2 _ (Nat.ne_of_gt hel)).trans hT
  have new:ObjOk X.prog X.w (upd H s.heap.objs.size (.tup [.int (k₀+(i:Int)),x])) h'' s.heap.objs.size (.tup [.int (k₀+(i:Int)),x]):=
   ⟨by show 2<=sizeLine;decide,[.int (k₀+(i:Int)) tk,v],.cons ⟨_,rfl⟩ (.cons ru .nil),⟨_,hT2,rfl,_,rfl⟩⟩
  have I1:L2.Inv X pins σ (upd H s.heap.objs.size (.tup [.int (k₀+(i:Int)),x])) { s with heap:=h'',toks:=tk+1 }:=
   I.turnedNew (ch:=[e,i0]) (λb ob hb q=>(sb.2 b (λz=>hb (by simp[z]))).trans (hk b ob (λz=>hb (by simp[z])) (λz=>hb (by simp[z])) q)) hf (arq _) new
  refine⟨.ref s.heap.objs.size,_,I1,rfl,⟨_,x,rfl,I.hok.fresh (arq _),rfl,λys hy=>by rw[Src.inj I hy hq];exact hx⟩,⟨⟨v,?_⟩,Src.M4 (stI _ _ hst') λo q=>(sb.2 i0 (Ne.symm hne)).trans q⟩,λb hb=>?_⟩
  ·have e1:k₀+((i+1:Nat):Int)=k₀+(i:Int)+1:=by omega
   rw[e1];exact he'
  ·have hb':b < s.heap.objs.size:=by
    have e':b=e∨b=i0:=by simpa using hb
    rcases e' with z|z
    ·rw[z];exact hel
    ·rw[z];exact hil
   rw[upd_ne (arE hb')];exact(hf b hb).1
 done:=by intro X hP hw hK hc i pins s σ H E I hf st hg;subst hP hw hK;obtain⟨⟨old,he⟩,hit⟩:=st;obtain⟨us,hq,hx⟩:=hg;obtain⟨PP,St,D,st0,stI,rel⟩:=Src.draws I (I.ok.hd hc) hq hit λa z=>(ha a z).2;obtain⟨f0,f1,f2,f3,f4,f5⟩:=hf i0 (by simp);rw[←hx]at st0;exact wpAny_pyNext_enum_endD D he st0 λh' eb=>⟨rfl,I.turned (t':=s.toks) (λb o hb q=>eb b o hb q) f0 f1 f3 f4 f5⟩
 self:=λA i s Q E st h=>let ⟨⟨_,he⟩,_⟩:=st;wpAny_pyIter_enum he h
theorem Src.begins{X:Cx}{pins:List (Addr×Obj)}{σ:L2.St}{H:Hp}{s:Shared}{S:Src}{us:List V}{x:V}{v:Value}(I:L2.Inv X pins σ H s)(hs:S.sq X.K H us)(hx:(∃a,x=.ref a/\S.ad=[a]/\(S=.lst a∨S=.tup a))∨∃y,S=.str y/\x=.str y)(r:RelV x v) :
  ∃(o:Obj) (B:Heap->Prop),Begins v o B/\B s.heap/\(∀h i,h.get? i=some o->S.it h i 0)/\∀a∈S.ad,a < s.heap.objs.size:=by
 rcases hx with⟨a,rfl,ha,h|h⟩|⟨y,h,rfl⟩
 ·subst h;cases r;obtain⟨its,rv,p,_⟩:=I.list hs;obtain⟨o1,ho1,_⟩:=id p.isList;refine⟨_,_,begins_list a its.toArray,p.isList,λh i e=>⟨_,e,rfl,rfl⟩,λb hb=>?_⟩;rw[ha]at hb;rw[aq5.mp hb];exact Heap.lt_size ho1
 ·subst h;cases r;obtain⟨its,rv,p,_⟩:=I.tuple hs;obtain⟨o1,ho1,_⟩:=id p;refine⟨_,_,begins_tuple a its.toArray,p,λh i e=>⟨_,e,rfl,rfl⟩,λb hb=>?_⟩;rw[ha]at hb;rw[aq5.mp hb];exact Heap.lt_size ho1
 ·subst h;obtain⟨t,rfl⟩:=r;exact⟨_,_,begins_text y t,ash,λh i e=>⟨t,_,e,rfl,rfl⟩,λb hb=>nomatch hb⟩
def srcOf(x:V)(S:Src):Prop:=(∃a,x=.ref a/\S.ad=[a]/\(S=.lst a∨S=.tup a))∨∃y,S=.str y/\x=.str y
def iEn(K:aqX)(ta:TA)(k₀:Int):TI:=λσ H R=>ta σ H λvs H1=>∃x S us,vs=[x]/\srcOf x S/\S.sq K H1 us/\R (ItE K S k₀) H1
section
variable{X:Cx}{a b:Expr}{ta tb:TA}{p pos tpos:Pos}{elts:List Expr}{kk:Nat}
theorem aj9{pins:List (Addr×Obj)}{σ:L2.St}{H:Hp}{s:Shared}(I:L2.Inv X pins σ H s):∀b∈[s.heap.objs.size+1,s.heap.objs.size],FpOk X pins H b:=λb hb=>by
 have e':b=s.heap.objs.size+1∨b=s.heap.objs.size:=by simpa using hb
 have hle:s.heap.objs.size<=b:=by
  rcases e' with z|z
  ·rw[z];exact Nat.le_add_right _ _
  ·rw[z];exact arq _
 exact I.fpOk hle (I.hok.fresh hle)
theorem agm{pins:List (Addr×Obj)}{σ:L2.St}{H:Hp}{s:Shared}{S:Src}{us:List V}{x:V}{v:Value}{o:Obj}{k₀:Int}{R:It->Hp->Prop}{h':Heap}(I:L2.Inv X pins σ H s)(hlt:∀a∈S.ad,a < s.heap.objs.size)(hit:∀h i,h.get? i=some o->S.it h i 0)
  (he:IsEnum h' (s.heap.objs.size+1) s.heap.objs.size k₀ .none) (ho:h'.get? s.heap.objs.size=some o) (hk:∀b o,s.heap.get? b=some o->h'.get? b=some o) (q:R (ItE X.K S k₀) H) :
  wpAny (model X.prog X.w) X.A (pyIter (.ref (s.heap.objs.size+1))) (PIE X pins σ (.Tuple elts kk tpos) R) X.xe { s with heap:=h' }:=by
 refine wpAny_pyIter_enum he ?_;have I2:L2.Inv X pins σ H { s with heap:=h' }:=I.kept (t':=s.toks) hk;refine⟨s.heap.objs.size+1,[s.heap.objs.size+1,s.heap.objs.size],_,_,H,rfl,I2,ami S (s.heap.objs.size+1) s.heap.objs.size k₀ (Nat.succ_ne_self _) (λa z=>?_),⟨⟨.none,?_⟩,hit _ _ ho⟩,aj9 I,q⟩
 ·have:=hlt a z;exact⟨Nat.ne_of_gt (arX this),arE this⟩
 ·rw[show k₀+((0:Nat):Int)=k₀ by simp];exact he
theorem ae9{v:Value}{o:Obj}{B:Heap->Prop}(hB:Begins v o B) :
  Meets (Builtin.«enumerate.__new__» ⟨[.type "enumerate",v],[]⟩) (λ_ R s=>B s.heap/\
   R (.ok (.ret (.ref (s.heap.push o).objs.size))) { s with heap:=(s.heap.push o).push { cls:=.type "enumerate",data:=.fields #[.none,.bool false,.ref s.heap.objs.size,rawInt 0,.none,.none] } }):=
 .of_wp λprog w A R s hh=>by
  obtain⟨hp,gs,dr,tk,os⟩:=s;obtain⟨hb,hr⟩:=hh;have hsub:=sub_enumerate;have qi:∀{A':Around} {E:Value->Shared->Prop} {Q:Value->Shared->Prop},Q (.ref hp.objs.size) ⟨hp.push o,gs,dr,tk,os⟩->wpAny (model prog w) A' (pyIter v) Q E ⟨hp,gs,dr,tk,os⟩:=λz=>hB.iter prog w _ _ ⟨hp,gs,dr,tk,os⟩ _ hb z
  wp_walk using qi
  refine wpAny_stack_any λst=>wpAny_pure ?_;split
  ·next c _ _ _ _ _=>
   cases(c==Value.type "enumerate")<;>(wp_walk using qi;exact⟨_,rfl,hr⟩)
  ·wp_walk using qi
   exact⟨_,rfl,hr⟩
theorem aev{prog:Program}{w:World}{A:Around}{E:Value->Shared->Prop}{s:Shared}{v:Value}{o:Obj}{B:Heap->Prop}{Q:Value->Shared->Prop}(hB:Begins v o B)(hb:B s.heap)
  (h:∀h',IsEnum h' (s.heap.objs.size+1) s.heap.objs.size 0 .none->h'.get? s.heap.objs.size=some o->(∀b o,s.heap.get? b=some o->h'.get? b=some o)->Q (.ref (s.heap.objs.size+1)) { s with heap:=h' }) :
  wpAny (model prog w) A (call (.type "enumerate") [v]) Q E s:=by
 refine callType_new F.called_enumerate (by decide) (F.typeCall_enumerate_1 _) (F.newCall_enumerate_1 _) (λob=>F.args_object_init_2 ob _) F.entry_enumerate_new (ae9 hB) ⟨hb,?_⟩;have hz:(s.heap.push o).objs.size=s.heap.objs.size+1:=Heap.size_push ..;have he:=Heap.get?_push_size (s.heap.push o) (o:={ cls:=.type "enumerate",data:=.fields #[.none,.bool false,.ref s.heap.objs.size,rawInt 0,.none,.none] }) rfl
 show _/\_;rw[hz]at he ⊢;exact⟨⟨_,he,rfl⟩,h _ he (Heap.get?_push_of_some _ (Heap.get?_push_size _ hB.free)) λb u z=>Heap.get?_push_of_some _ (Heap.get?_push_of_some _ z)⟩
theorem alu(hg:Gl X "enumerate")(hm:X.mg "enumerate"=none)(ha:PA X [a] ta)(hs:nst a=true):PI X (.Tuple elts kk tpos) (.Call (.Name "enumerate" p) [a] [] pos) (iEn X.K ta 0):=by refine⟨λpins s σ H R I h=>?_⟩;refine Call_ (ld_blt I hg hm boot_enumerate (PyProof.Rows.callWith_type1 (thn (ha.run pos pins s σ H _ I h) λus s1 ⟨vs,H1,I1,r1,x,S,us',ev,hx,hq,q⟩=>?_) (cU hs []) (by with_unfolding_all rfl)));subst ev;obtain⟨v,rfl,r⟩:=vals1 r1;obtain⟨o,B,hB,hb,hit,hlt⟩:=Src.begins I1 hq hx r;exact aev hB hb λh' he ho hk=>agm (x:=x) (v:=v) (us:=us') I1 hlt hit he ho hk q
theorem acY{M:Model}{A:Around}{E:Value->Shared->Prop}{s:Shared}{pos:Pos}{T:String}{args:List (Bool×Sem Value)}{kws:List (Option Str×Sem Value)}{Q:Value->Shared->Prop}(h1:args.any (·.1)=false)(h2:kws.any (·.1.isNone)=false)
  (h:wpAny M A (evalArgs (.type T) true args kws) (λz s₁=>wpAny M A (call (.type T) z.pos z.kw) Q E s₁) E s):wpAny M A (callWith pos (.type T) [] args kws) Q E s:=by
 unfold callWith;refine wpAny_bind (wpAny_holding (wpAny_mono h (λz s₁ hz=>wpAny_bind (wpAny_standAt ?_)) λ_ _ y=>y));rw[h1,h2];refine wpAny_bind (wpAny_pure ?_);exact wpAny_bind (wpAny_mono hz (λr s₂ hr=>wpAny_bind (wpAny_holding (wpAny_point (wpAny_pure hr)))) λ_ _ y=>y)
theorem ai4{k₀:Int}{j:Nat}{kp kp2:Pos}(hk0 : -(2 ^ 63)<=k₀)(hk1:k₀ < 2 ^ 63)(hg:Gl X "enumerate")(hm:X.mg "enumerate"=none)(ha:PA X [a] ta)(hs:nst a=true) :
  PI X (.Tuple elts kk tpos) (.Call (.Name "enumerate" p) [a] [⟨some "start",.Constant (.int k₀) j kp,kp2⟩] pos) (iEn X.K ta k₀):=by
 refine⟨λpins s σ H R I h=>?_⟩;have hpk:PK X [⟨some "start",.Constant (.int k₀) j kp,kp2⟩] (tCons (tC (.int k₀)) tNil):=pk_cons pe_int pk_nil
 refine wpAny_Call_Name_kw (ld_blt I hg hm boot_enumerate (acY (star_any [a] (by simp[hs])) (by with_unfolding_all rfl) ?_));refine PyProof.Rows.evalArgs_kw2 (by with_unfolding_all rfl) (thn (ha.run pos pins s σ H _ I h) λus s1 ⟨vs,H1,I1,r1,x,S,us',ev,hx,hq,q⟩=>?_) (by first | (rw[cU hs];done) | (rw[cU hs];rfl) | rw[cU hs]);refine thn (hpk.run pos pins s1 σ H1 (λzs H2=>zs=[.int k₀]/\H2=H1) I1 ⟨rfl,rfl⟩) λws s2 ⟨zs,H2,I2,r2,e1,e2⟩=>?_;subst ev e1 e2;obtain⟨v,rfl,r⟩:=vals1 r1;obtain⟨w,rfl,t,rfl⟩:=vals1 r2;obtain⟨o,B,hB,hb,hit,hlt⟩:=Src.begins I2 hq hx r;exact enum_begins_start hB hb hk0 hk1 λh' he ho _ hk=>agm (x:=x) (v:=v) (us:=us') I2 hlt hit he ho hk q
def ItZ(K:aqX)(S T:Src):It:=
 ⟨λi H=>∃(us ws:List V) (x y:V),S.sq K H us/\T.sq K H ws/\us[i]?=some x/\ws[i]?=some y,λi H v H'=>∃U x y,v=.ref U/\H U=none/\H'=upd H U (.tup [x,y])/\(∀us,S.sq K H us->us[i]?=some x)/\∀ws,T.sq K H ws->ws[i]?=some y,
  λi H=>∃us ws:List V,S.sq K H us/\T.sq K H ws/\i=min us.length ws.length⟩
theorem alZ{P:Program}{w:World}{K:aqX}{S T:Src}{N:Addr}(h1:∀a∈S.ad,a < N)(h2:∀a∈T.ad,a < N) :
  Turn P w K (.Tuple elts kk tpos) (ItZ K S T) [N+4,N+2,N+3,N,N+1] (N+4) (λn h=>IsZip h (N+4) (N+2) (N+3) .none/\IsPair h (N+2) (.ref N) (.ref (N+1))/\(∃x y,IsPair h (N+3) x y)/\S.it h N n/\T.it h (N+1) n) where
 mem:=by simp
 obj:=λn h q c hc=>by
  obtain⟨gz,gI,⟨x,y,gO⟩,i1,i2⟩:=q;simp only[arh,arF,or_false]at hc;rcases hc with rfl|rfl|rfl|rfl|rfl
  ·exact⟨_,gz,λv q=>nomatch q⟩
  ·exact⟨_,gI,λv q=>nomatch q⟩
  ·exact⟨_,gO,λv q=>nomatch q⟩
  ·exact Src.Nk i1
  ·exact Src.Nk i2
 keep:=λn h h' q k=>by
  obtain⟨gz,gI,⟨x,y,gO⟩,i1,i2⟩:=q;exact⟨k _ (by simp) _ gz,k _ (by simp) _ gI,⟨x,y,k _ (by simp) _ gO⟩,Src.M4 i1 λo e=>k _ (by simp) o e,Src.M4 i2 λo e=>k _ (by simp) o e⟩
 item:=by
  intro X hP hw hK hc n pins s σ H E I hf q hg;subst hP hw hK;obtain⟨gz,gI,⟨x0,y0,gO⟩,i1,i2⟩:=q;obtain⟨us,ws,x,y,qx,qy,hx,hy⟩:=hg;obtain⟨P1,St1,D1,st1,b1,rel1⟩:=Src.draws I (I.ok.hd hc) qx i1 λa z=>arE (h1 a z);obtain⟨P2,St2,D2,st2,b2,rel2⟩:=Src.draws I (I.ok.hd hc) qy i2 λa z=>arE (arX (h2 a z));have hzl:N+4 < s.heap.objs.size:=Heap.lt_size gz;refine wpAny_pyNext_zipD2_item (zip_sep2 h1 h2) D1 D2 gz gI gO st1 st2 (aqY.mp hx).1 (aqY.mp hy).1 λv1 v2 h' tk p1 p2 z' o' s1 s2 hT hsz hk=>?_;refine⟨_,rfl,wpAny_letOwnedTupleGo_zip (s:={ s with heap:=h',toks:=tk }) z' λh'' z'' sb=>?_⟩;have hT2:=(sb.2 _ (Nat.ne_of_gt hzl)).trans hT;have new:ObjOk X.prog X.w (upd H s.heap.objs.size (.tup [x,y])) h'' s.heap.objs.size (.tup [x,y]):=⟨by show 2<=sizeLine;decide,[v1,v2],.cons (rel1 n v1 x p1 hx) (.cons (rel2 n v2 y p2 hy) .nil),⟨_,hT2,rfl,_,rfl⟩⟩;have I1:L2.Inv X pins σ (upd H s.heap.objs.size (.tup [x,y])) { s with heap:=h'',toks:=tk }:=by refine I.turnedNew (t':=tk) (ch:=[N+4,N+2,N+3,N,N+1]) (λc o hb e=>?_) hf (arq _) new;simp only[arh,arF,or_false,not_or]at hb;exact(sb.2 c hb.1).trans (hk c o hb.1 hb.2.2.1 hb.2.2.2.1 hb.2.2.2.2 e)
  have ne4:∀k,k≠4->N+k≠N+4:=λk hk z=>hk (ar8 z);refine⟨.ref s.heap.objs.size,_,I1,rfl,⟨_,x,y,rfl,I.hok.fresh (arq _),rfl,λl hl=>by rw[Src.inj I hl qx];exact hx,λl hl=>by rw[Src.inj I hl qy];exact hy⟩,⟨z'',?_,⟨v1,v2,?_⟩,?_,?_⟩,λc hcm=>?_⟩
  ·exact(sb.2 _ (ne4 2 (by decide))).trans (hk _ _ (ne4 2 (by decide)) (λz=>absurd (ar8 z) (by decide)) (λz=>absurd (ar8 (z.trans (Nat.add_zero N).symm)) (by decide)) (λz=>absurd (ar8 z) (by decide)) gI)
  ·exact(sb.2 _ (ne4 3 (by decide))).trans o'
  ·exact Src.M4 (b1 _ _ s1) λo e=>(sb.2 _ (ne4 0 (by decide))).trans e
  ·exact Src.M4 (b2 _ _ s2) λo e=>(sb.2 _ (ne4 1 (by decide))).trans e
  ·have hlt:c < s.heap.objs.size:=by
    simp only[arh,arF,or_false]at hcm;rcases hcm with rfl|rfl|rfl|rfl|rfl
    ·exact hzl
    ·exact Heap.lt_size gI
    ·exact Heap.lt_size gO
    ·obtain⟨_,e1,_⟩:=Src.Nk i1;exact Heap.lt_size e1
    ·obtain⟨_,e2,_⟩:=Src.Nk i2;exact Heap.lt_size e2
   rw[upd_ne (arE hlt)];exact(hf c hcm).1
 done:=by intro X hP hw hK hc n pins s σ H E I hf q hg;subst hP hw hK;obtain⟨gz,gI,⟨x0,y0,gO⟩,i1,i2⟩:=q;obtain⟨us,ws,qx,qy,hn⟩:=hg;obtain⟨P1,St1,D1,st1,b1,rel1⟩:=Src.draws I (I.ok.hd hc) qx i1 λa z=>arE (h1 a z);obtain⟨P2,St2,D2,st2,b2,rel2⟩:=Src.draws I (I.ok.hd hc) qy i2 λa z=>arE (arX (h2 a z));refine wpAny_pyNext_zipD2_end (zip_sep2 h1 h2) D1 D2 gz gI gO st1 st2 (by omega) (by omega) (by omega) λh' tk hk=>⟨rfl,?_⟩;refine I.turnedL (t':=tk) (ch:=[N+4,N+2,N+3,N,N+1]) (λc o hb e=>?_) hf;simp only[arh,arF,or_false,not_or]at hb;exact hk c o hb.1 hb.2.2.1 hb.2.2.2.1 hb.2.2.2.2 e
 self:=λA n s Q E q h=>wpAny_pyIter_zip q.1 h
def iZp(K:aqX)(ta:TA):TI:=λσ H R=>ta σ H λvs H1=>∃x y S T us ws,vs=[x,y]/\srcOf x S/\srcOf y T/\S.sq K H1 us/\T.sq K H1 ws/\R (ItZ K S T) H1
theorem amg(hg:Gl X "zip")(hm:X.mg "zip"=none)(ha:PA X [a,b] ta)(hs:nst a=true)(hs2:nst b=true):PI X (.Tuple elts kk tpos) (.Call (.Name "zip" p) [a,b] [] pos) (iZp X.K ta):=by
 refine⟨λpins s σ H R I h=>?_⟩;refine Call_ (ld_blt I hg hm PyProof.Rows.boot_zip (PyProof.Rows.callWith_type1 (thn (ha.run pos pins s σ H _ I h) λus s1 ⟨vs,H1,I1,r1,x,y,S,T,us',ws',ev,hx,hy,hq,hq2,q⟩=>?_) (cU hs [b]) (star_any [b] (by simp[hs2]))));subst ev;obtain⟨v1,v2,rfl,rv1,rv2⟩:=vals2 r1;obtain⟨o1,B1,hB1,hb1,hit1,hlt1⟩:=Src.begins I1 hq hx rv1;obtain⟨o2,B2,hB2,hb2,hit2,hlt2⟩:=Src.begins I1 hq2 hy rv2;refine zip_begins2 hB1 hB2 hb1 hb2 λh' hz hTI hTO e1 e2 hsz hk=>wpAny_pyIter_zip hz ?_;have I2:L2.Inv X pins σ H1 { s1 with heap:=h' }:=I1.kept (t':=s1.toks) hk;refine⟨s1.heap.objs.size+4,_,_,_,H1,rfl,I2,alZ hlt1 hlt2,⟨hz,hTI,⟨_,_,hTO⟩,hit1 _ _ e1,hit2 _ _ e2⟩,λc hcm=>?_,q⟩;have hle:s1.heap.objs.size<=c:=by simp only[arh,arF,or_false]at hcm;rcases hcm with rfl | rfl | rfl | rfl | rfl<;>first | exact arq _ | exact Nat.le_add_right _ _
 exact I1.fpOk hle (I1.hok.fresh hle)
end
section
variable{K:aqX}{aj:aQ}{q:Bool}{g g':Gh}{H H':Hp}{v:V}{d:Dat}{σ:L2.St}{Z:Env}{M:Mo}
theorem jO.up{l:Addr}:∀{n:Bool} {kvs:List (Dat×Dat)} (r:Gr true g g' H H') (e:Ex H H') (k:Kd g H) (h:jO K aj g H l n kvs),jO K aj g' H' l n kvs
 |false,_,r,e,k,⟨kv,h1,h2,h3⟩=>⟨kv,e _ _ h1,h2,h3.gr r k⟩
 |true,_,r,e,k,⟨o,xs,vs,h1,h2,h3,h4,h5,h6⟩=>⟨o,xs,vs,e _ _ h1,h2,h3,h4.gr r k,h5,h6.gr r k⟩
theorem eE.up{h:Nat}{f:Str}(r:Gr true g g' H H')(e:Ex H H')(k:Kd g H):∀{fl:jy},eE K aj g H h f v fl->eE K aj g' H' h f v fl
 |.dat _,z=>Rep.gr r k z
 |.lst _ _,⟨l,us,h1,h2,h3,h4,h5⟩=>⟨l,us,h1,e _ _ h2,by rw[(r.qg rfl).2];exact h3,h4.gr r k,r.tb h5⟩
 |.dic _ _,⟨l,h1,h2,h3⟩=>⟨l,h1,by rw[(r.qg rfl).2];exact h2,h3.up r e k⟩
theorem cP.up{h:Nat}(r:Gr true g g' H H')(e:Ex H H')(k:Kd g H):∀{fs:List (Str×V)} {gs:List (Str×jy)},cP K aj g H h fs gs->cP K aj g' H' h fs gs
 |_,_,.nil=>.nil
 |_,_,.cons z t=>.cons (eE.up r e k z) (cP.up r e k t)
theorem fZ.up(r:Gr true g g' H H')(e:Ex H H')(k:Kd g H)(w:fZ K aj g H M):fZ K aj g' H' M where
 len:=by rw[(r.qg rfl).1];exact w.len
 inj:=by rw[(r.qg rfl).1];exact w.inj
 ins:=λh a i ha hi hc=>by
  rw[(r.qg rfl).1]at ha;obtain⟨C,dx,fs,c1,c2,c3⟩:=w.ins h a i ha hi hc;exact⟨C,dx,fs,c1,e _ _ c2,c3.up r e k⟩
 nd:=w.nd
 fd:=w.fd
 tw:=by rw[(r.qg rfl).1,(r.qg rfl).2];exact w.tw
 dm:=w.dm
 nc:=w.nc
theorem SInv.up(r:Gr true g g' H H')(e:Ex H H')(k':Kd g' H')(I:SInv K aj σ H g Z M):SInv K aj σ H' g' Z M where
 kd:=k'
 wok:=I.wok.up r e I.kd
 len:=I.len
 dat:=λi d h=>by
  obtain⟨v,h1,h2⟩:=I.dat i d h;exact⟨v,h1,h2.gr r I.kd⟩
 own:=λi xs h=>by
  obtain⟨l,us,h1,h2,h3,h4⟩:=I.own i xs h;exact⟨l,us,h1,e _ _ h2,r.Lo l h3,h4.gr r I.kd⟩
 sep:=I.sep
def Gh.add(g:Gh)(D:Addr):Gh:={ g with Lo:=λa=>g.Lo a∨a=D }
theorem Gh.Gk{D:Addr}(n:H D=none)(e:Ex H H'):Gr true g (g.add D) H H' where
 keep:=λa o h _ _=>e a o h
 keepW:=λ_ a o h _=>e a o h
 dom:=Dk e
 tbl:=⟨[],by simp[Gh.add]⟩
 W:=λ_ h=>h
 nW:=λ_ h=>.inl h
 qg:=λ_=>⟨rfl,rfl⟩
 Lc:=rfl
 Lo:=λ_ h=>.inl h
 nLo:=λa h=>h.elim .inl λz=>.inr (by rw[z];exact n)
theorem Gh.ajG{D:Addr}{o:HO}(k:Kd g H)(n:H D=none)(e:Ex H H')(hD:H' D=some o)(m:Jk o):Kd (g.add D) H' where
 ob:=λa z=>by
  rcases z with z|z|z|z
  ·obtain⟨o,h,m⟩:=k.ob a (.inl z);exact⟨o,e a o h,m⟩
  ·obtain⟨o,h,m⟩:=k.ob a (.inr (.inl z));exact⟨o,e a o h,m⟩
  ·obtain⟨o,h,m⟩:=k.ob a (.inr (.inr z));exact⟨o,e a o h,m⟩
  ·rw[z];exact⟨o,hD,m⟩
 lo:=λa z=>by
  rcases z with z|z
  ·exact k.lo a z
  ·intro w;subst z;exact k.fresh n (.inl w)
 lc:=λa z=>⟨(k.lc a z).1,λy=>y.elim (k.lc a z).2 λy=>by subst y;exact k.fresh n (.inr (.inl z))⟩
theorem SInv.add{D:Addr}{o:HO}(I:SInv K aj σ H g Z M)(n:H D=none)(e:Ex H H')(hD:H' D=some o)(m:Jk o):SInv K aj σ H' (g.add D) Z M:=
 I.up (Gh.Gk n e) e (Gh.ajG I.kd n e hD m)
theorem SInv.set{j:Nat}(I:SInv K aj σ H g Z M)(r:Rep K g H v d):SInv K aj (σ.set j (some v)) H g (Z.set j (some (.dat d))) M where
 kd:=I.kd
 wok:=I.wok
 len:=by rw[ars,ars];exact I.len
 dat:=λi e h=>by
  by_cases z:j=i
  ·subst z;have hj:j < Z.length:=by
    have:=(aqY.mp h).1;rw[ars]at this;exact this
   rw[ari hj]at h;cases h;exact⟨v,by rw[ari (by rw[I.len];exact hj)],r⟩
  ·rw[aq6 z]at h;obtain⟨u,h1,h2⟩:=I.dat i e h;exact⟨u,by rw[aq6 z];exact h1,h2⟩
 own:=λi xs h=>by
  by_cases z:j=i
  ·subst z;have hj:j < Z.length:=by
    have:=(aqY.mp h).1;rw[ars]at this;exact this
   rw[ari hj]at h;cases h
  ·rw[aq6 z]at h;obtain⟨l,us,h1,h2⟩:=I.own i xs h;exact⟨l,us,by rw[aq6 z];exact h1,h2⟩
 sep:=λi k xs ys l ne h1 h2 h3=>by
  have nj:∀{i:Nat} {xs:List Dat},(Z.set j (some (.dat d)))[i]?=some (some (.mut xs))->j≠i:=λ{i xs} h z=>by
   subst z;have hj:j < Z.length:=by have:=(aqY.mp h).1;rw[ars]at this;exact this
   rw[ari hj]at h;cases h
  have n1:=nj h1;have n2:=nj h2;rw[aq6 n1]at h1 h3;rw[aq6 n2]at h2;rw[aq6 n2];exact I.sep i k xs ys l ne h1 h2 h3
theorem SInv.forget{j:Nat}(I:SInv K aj σ H g Z M):SInv K aj (σ.set j none) H g (Z.set j none) M where
 kd:=I.kd
 wok:=I.wok
 len:=by rw[ars,ars];exact I.len
 dat:=λi e h=>by
  by_cases z:j=i
  ·subst z;have hj:j < Z.length:=by
    have:=(aqY.mp h).1;rw[ars]at this;exact this
   rw[ari hj]at h;cases h
  ·rw[aq6 z]at h ⊢;exact I.dat i e h
 own:=λi xs h=>by
  by_cases z:j=i
  ·subst z;have hj:j < Z.length:=by
    have:=(aqY.mp h).1;rw[ars]at this;exact this
   rw[ari hj]at h;cases h
  ·rw[aq6 z]at h ⊢;exact I.own i xs h
 sep:=λi k xs ys l ne h1 h2 h3=>by
  have nj:∀{i:Nat} {xs:List Dat},(Z.set j none)[i]?=some (some (.mut xs))->j≠i:=λ{i xs} h z=>by
   subst z;have hj:j < Z.length:=by have:=(aqY.mp h).1;rw[ars]at this;exact this
   rw[ari hj]at h;cases h
  have n1:=nj h1;have n2:=nj h2;rw[aq6 n1]at h1 h3;rw[aq6 n2]at h2;rw[aq6 n2];exact I.sep i k xs ys l ne h1 h2 h3
def cD(Z:Env):List Nat->Env
 |[]=>Z
 |j::js=>(cD Z js).set j none
theorem SInv.wipe(I:SInv K aj σ H g Z M):∀vs:List Nat,SInv K aj (L2.wipe σ vs) H g (cD Z vs) M
 |[]=>I
 |j::js=>(SInv.wipe I js).forget
end
abbrev fV:=Dat->Env->Option Env
def aF(j:Nat):fV:=λd Z=>some (Z.set j (some (.dat d)))
def uW:List Nat->List Dat->Env->Option Env
 |[],[],Z=>some Z
 |j::js,d::ds,Z=>uW js ds (Z.set j (some (.dat d)))
 |_,_,_=>none
def bM(js:List Nat):fV:=λd Z=>match d with
 |.tuple ds=>uW js ds Z
 |_=>none
def sets(σ:L2.St):List Nat->List V->L2.St
 |j::js,v::vs=>sets (σ.set j (some v)) js vs
 |_,_=>σ
def zW(K:aqX)(aj:aQ)(js:List Nat)(f:fV):TG:=λv σ H Q=>∃g Z M d Z',SInv K aj σ H g Z M/\Rep K g H v d/\f d Z=some Z'/\∀vs,SInv K aj (sets σ js vs) H g Z' M->Q (sets σ js vs) H
def QG(aj:aQ)(X:Cx)(tg:Expr)(js:List Nat)(f:fV):Prop:=PG X tg (zW X.K aj js f)
theorem PG.weak{X:Cx}{e:Expr}{t t':TG}(h:PG X e t)(k:∀v σ H Q,t' v σ H Q->t v σ H Q):PG X e t':=⟨λpins s σ H v u Q I r q=>h.run pins s σ H v u Q I r (k v σ H Q q)⟩
section
variable{X:Cx}{aj:aQ}{pos:Pos}
theorem Vd{j:Nat}{x:Str}(hN:X.N.Nodup)(hi:X.N[j]?=some x)(hx:Loc X.env.scope x)(hf:X.fn x=true∨X.env.scope.names.lookup x=some .local):QG aj X (.Name x pos) [j] (aF j):=
 PG.weak (pg_name hN hi hx hf) λv σ H Q ⟨g,Z,M,d,Z',I,r,e,q⟩=>by
  cases e;exact q [v] (I.set r)
def Ru(X:Cx):List Expr->List Nat->Prop
 |[],[]=>True
 |.Name x _::es,j::js=>X.N[j]?=some x/\Loc X.env.scope x/\(X.fn x=true∨X.env.scope.names.lookup x=some .local)/\Ru X es js
 |_,_=>False
theorem afD{es:List Expr}{js:List Nat}(h:Ru X es js):(assignEach es X.env).length=js.length/\(assignEach es X.env).findIdx? (·.1)=none:=by
 induction es generalizing js with
 |nil=>
  cases js with
  |nil=>exact⟨by with_unfolding_all rfl,by with_unfolding_all rfl⟩
  |cons j js=>exact asi h
 |cons e es ih=>
  cases js with
  |nil=>cases e<;>exact asi h
  |cons j js=>
   cases e with
   |Name x p=>
    obtain⟨h1,h2⟩:=ih h.2.2.2;have e1:assignEach (.Name x p::es) X.env=(false,assign (.Name x p) X.env)::assignEach es X.env:=by with_unfolding_all rfl
    rw[e1];refine⟨by simp[h1],?_⟩;rw[List.findIdx?_cons,h2];rfl
   |_=>exact asi h
def gNs(js:List Nat):TGs:=λvs σ H Q=>vs.length=js.length/\Q (sets σ js vs) H
theorem V8(hN:X.N.Nodup):∀{es:List Expr} {js:List Nat},Ru X es js->PGs X es (gNs js)
 |[],[],_=>⟨λpins s σ H vs us Q I r h=>by
  obtain⟨e,h⟩:=h;have:vs=[]:=List.length_eq_zero_iff.mp e;subst this;exact pgs_nil.run pins s σ H [] us Q I r ⟨rfl,h⟩⟩
 |.Name x p::es,j::js,h=>by
  have hp:=pgs_cons (pg_name (pos:=p) hN h.1 h.2.1 h.2.2.1) (V8 hN h.2.2.2) (by with_unfolding_all rfl);refine⟨λpins s σ H vs us Q I r hq=>?_⟩;obtain⟨e,hq⟩:=hq;cases vs with
  |nil=>cases e
  |cons v vs=>exact hp.run pins s σ H (v::vs) us Q I r ⟨v,vs,rfl,ase e,hq⟩
 |[],_::_,h=>asi h
 |.Name _ _::_,[],h=>asi h
theorem R8{K:aqX}{g:Gh}{H:Hp}{M:Mo}:∀{js:List Nat} {ds:List Dat} {vs:List V} {σ:L2.St} {Z Z':Env},SInv K aj σ H g Z M->aK K g H vs ds->uW js ds Z=some Z'->vs.length=js.length/\SInv K aj (sets σ js vs) H g Z' M
 |[],_,_,_,_,_,I,.nil,e=>by cases e;exact⟨rfl,I⟩
 |[],_,_,_,_,_,I,.cons _ _,e=>by cases e
 |j::js,_,_,_,_,_,I,.nil,e=>by cases e
 |j::js,_,_,_,_,_,I,.cons r t,e=>by
  obtain⟨h1,h2⟩:=R8 (js:=js) (I.set (j:=j) r) t e;exact⟨by simp[h1],h2⟩
theorem adl{es:List Expr}{js:List Nat}{k:Nat}(hc:X.calm=true)(hN:X.N.Nodup)(h:Ru X es js):QG aj X (.Tuple es k pos) js (bM js):=by
 obtain⟨h1,h2⟩:=afD h;refine PG.weak (pg_tup (n:=js.length) hc (V8 hN h) h1 h2) λv σ H Q ⟨g,Z,M,d,Z',I,r,e,q⟩=>?_;unfold bM at e;split at e
 ·obtain⟨a,us,rfl,s1,t1⟩:=lY r.weak;obtain⟨l1,I1⟩:=R8 I t1 e;exact⟨a,us,rfl,s1,l1,l1,q us I1⟩
 ·cases e
theorem Aq:∀(js:List Nat) (vs:List V) (σ:L2.St) (ws:List Nat),(∀j∈js,j∈ws)->L2.wipe (sets σ js vs) ws=L2.wipe σ ws
 |[],_,_,_,_=>by unfold sets;rfl
 |_::_,[],_,_,_=>by unfold sets;rfl
 |j::js,v::vs,σ,ws,h=>by
  show L2.wipe (sets (σ.set j (some v)) js vs) ws=_;rw[Aq js vs _ ws λk hk=>h k (aq3 _ hk)];have hj:j∈ws:=h j aq4;have key:∀(ws:List Nat) (σ:L2.St),j∈ws->L2.wipe (σ.set j (some v)) ws=L2.wipe σ ws:=by
   intro ws
   induction ws with
   |nil=>intro σ z;cases z
   |cons k ws ih=>
    intro σ z
    show(L2.wipe (σ.set j (some v)) ws).set k none=(L2.wipe σ ws).set k none
    by_cases hk:j∈ws
    ·rw[ih σ hk]
    ·have e:j=k:=by
      rcases arh.mp z with z|z
      ·exact z
      ·exact absurd z hk
     subst e;have comm:∀(ws:List Nat),j∉ws->L2.wipe (σ.set j (some v)) ws=(L2.wipe σ ws).set j (some v):=by
      intro ws
      induction ws with
      |nil=>intro _;rfl
      |cons m ws ih2=>
       intro hm
       show(L2.wipe (σ.set j (some v)) ws).set m none=((L2.wipe σ ws).set m none).set j (some v)
       rw[ih2 λz=>hm (aq3 _ z),List.set_comm _ _ (λz=>hm (by rw[z];exact aq4))]
     rw[comm ws hk,List.set_set]
  exact key ws σ hj
end
structure JM(K:aqX)(J:It)(C:Gh->Hp->Prop)(ds:List Dat):Prop where
 go:∀g i H,C g H->i < ds.length->J.go i H
 yld:∀g i H x H' d,Kd g H->C g H->ds[i]?=some d->J.yld i H x H'->Ex H H'/\Rep K g H' x d
 stop:∀g i H,C g H->i=ds.length->J.stop i H
 ex:∀g H H',Kd g H->C g H->Ex H H'->C g H'
 add:∀g g' H H',Kd g H->C g H->Gr true g g' H H'->Ex H H'->C g' H'
def ab5(C:Gh->Hp->Prop):Prop:=∀q g g' H H',Kd g H->C g H->Gr q g g' H H'->C g' H'
abbrev IF:=Mo->Env->Out (List Dat)
def tI(K:aqX)(aj:aQ)(W:WX)(firm:Bool)(f:IF):TI:=λσ H R=>∃g Z M,SInv K aj σ H g Z M/\(f M Z).sat (λds=>∀J C H',Ex H H'->JM K J C ds->C g H'->(firm=true->ab5 C)->R J H') (rG K aj W g H σ)
def QI(aj:aQ)(X:Cx)(W:WX)(firm:Bool)(tg e:Expr)(f:IF):Prop:=PI X tg e (tI X.K aj W firm f)
def YH(x:Str):List Dat:=x.cps.toList.map λc=>.str ⟨#[c]⟩
def oX:Dat->Out (List Dat)
 |.list ds=>.ok ds
 |.tuple ds=>.ok ds
 |.str x=>.ok (YH x)
 |_=>.bad
def dw(a:QF):IF:=λM Z=>(a M Z).bind oX
def Src.cw(K:aqX)(S:Src)(ds:List Dat)(g:Gh)(H:Hp):Prop:=∃us,S.sq K H us/\aK K g H us ds
def Src.cf(K:aqX)(S:Src)(ds:List Dat)(g:Gh)(H:Hp):Prop:=∃us,(match S with
 |.lst a=>Oo K g H a us
 |.tup a=>SqT K H a us
 |.str x=>us=chars x)/\aK K g H us ds
section
variable{K:aqX}{g g':Gh}{H H':Hp}{ds es:List Dat}{S T:Src}
theorem Src.al7{us:List V}(e:Ex H H')(h:S.sq K H us):S.sq K H' us:=by
 cases S with
 |lst a=>exact ex_l e h
 |tup a=>exact ex_t e h
 |str x=>exact h
theorem Src.ab2(h:S.cf K ds g H):S.cw K ds g H:=by
 obtain⟨us,h1,h2⟩:=h;refine⟨us,?_,h2⟩;cases S with
 |lst a=>exact Oo.sq h1
 |tup a=>exact h1
 |str x=>exact h1
theorem Src.uI:ab5 (S.cf K ds):=λq g g' H H' k ⟨us,h1,h2⟩ r=>by
 refine⟨us,?_,h2.gr r k⟩;cases S with
 |lst a=>exact r.ls h1
 |tup a=>exact r.sqT k h1
 |str x=>exact h1
theorem Src.Ky(k:Kd g H)(h:S.cw K ds g H)(r:Gr true g g' H H')(e:Ex H H'):S.cw K ds g' H':=by obtain⟨us,h1,h2⟩:=h;exact⟨us,Src.al7 e h1,h2.gr r k⟩
theorem Src.Xu(k:Kd g H)(h:S.cw K ds g H)(e:Ex H H'):S.cw K ds g H':=Src.Ky k h (Gr.ex e) e
end
section
variable{K:aqX}{ds es:List Dat}{S T:Src}
def ItS(K:aqX):Src->It
 |.lst a=>Itl K a
 |.tup a=>Itt K a
 |.str x=>Its x
theorem Eu{g:Gh}{H:Hp}(x:Str):aK K g H (chars x) (YH x):=by
 unfold chars YH
 induction x.cps.toList with
 |nil=>exact .nil
 |cons c cs ih=>exact .cons (.str _) ih
theorem JM.of{J:It}{C C':Gh->Hp->Prop}(w:JM K J C ds)(h:∀g H,C' g H->C g H)(e:∀g H H',Kd g H->C' g H->Ex H H'->C' g H')(a:∀g g' H H',Kd g H->C' g H->Gr true g g' H H'->Ex H H'->C' g' H'):JM K J C' ds where
 go:=λg i H c hi=>w.go g i H (h g H c) hi
 yld:=λg i H x H' d k c e y=>w.yld g i H x H' d k (h g H c) e y
 stop:=λg i H c e=>w.stop g i H (h g H c) e
 ex:=e
 add:=a
theorem abd:JM K (ItS K S) (S.cw K ds) ds where
 go:=λg i H ⟨us,h1,h2⟩ hi=>by
  have hx:us[i]?=some (us[i]'(by rw[h2.length];exact hi)):=aq0 _;cases S with
  |lst a=>exact⟨us,_,h1,hx⟩
  |tup a=>exact⟨us,_,h1,hx⟩
  |str x=>
   show i < x.cps.size;have:=h2.length;rw[show us=chars x from h1]at this;unfold chars at this;rw[ara,arG]at this;omega
 yld:=λg i H x H' d k ⟨us,h1,h2⟩ e y=>by
  obtain⟨v,hv,rv⟩:=h2.get e;cases S with
  |lst a=>
   obtain⟨rfl,y⟩:=y;have:x=v:=ark ((y us h1).symm.trans hv);rw[this];exact⟨Ex.refl _,rv⟩
  |tup a=>
   obtain⟨rfl,y⟩:=y;have:x=v:=ark ((y us h1).symm.trans hv);rw[this];exact⟨Ex.refl _,rv⟩
  |str z=>
   obtain⟨rfl,c,hc,rfl⟩:=y;rw[show us=chars z from h1]at hv;unfold chars at hv;rw[aq9,arL,hc]at hv;cases hv;exact⟨Ex.refl _,rv⟩
 stop:=λg i H ⟨us,h1,h2⟩ e=>by
  have hl:=h2.length;cases S with
  |lst a=>exact⟨us,h1,by omega⟩
  |tup a=>exact⟨us,h1,by omega⟩
  |str x=>
   show x.cps.size<=i;rw[show us=chars x from h1]at hl;unfold chars at hl;rw[ara,arG]at hl;omega
 ex:=λg H H' k h e=>Src.Xu k h e
 add:=λg g' H H' k h r e=>Src.Ky k h r e
def sV(k₀:Int)(ds:List Dat):List Dat:=ds.mapIdx λi d=>.tuple [.int (k₀+(i:Int)),d]
theorem afz{k₀:Int}:JM K (ItE K S k₀) (S.cw K ds) (sV k₀ ds) where
 go:=λg i H ⟨us,h1,h2⟩ hi=>by
  have hl:i < us.length:=by rw[h2.length];unfold sV at hi;rw[List.length_mapIdx]at hi;exact hi
  exact⟨us,us[i],h1,aq0 hl⟩
 yld:=λg i H x H' d k ⟨us,h1,h2⟩ e y=>by
  unfold sV at e;rw[arP]at e;cases hd:ds[i]? with
  |none=>rw[hd]at e;cases e
  |some d0=>
   rw[hd]at e;cases e;obtain⟨v,hv,rv⟩:=h2.get hd;obtain⟨T,x0,rfl,nT,rfl,y⟩:=y;have:x0=v:=ark ((y us h1).symm.trans hv);subst this;exact⟨Ex.new nT,.tup (st_of upd_same) (.cons (.int _) (.cons (rv.ex (Ex.new nT) k) .nil))⟩
 stop:=λg i H ⟨us,h1,h2⟩ e=>by
  unfold sV at e;rw[List.length_mapIdx,←h2.length]at e;exact⟨us,h1,e.symm⟩
 ex:=λg H H' k h e=>Src.Xu k h e
 add:=λg g' H H' k h r e=>Src.Ky k h r e
def xP(ds es:List Dat):List Dat:=List.zipWith (λd e=>.tuple [d,e]) ds es
theorem abx:JM K (ItZ K S T) (λg H=>S.cw K ds g H/\T.cw K es g H) (xP ds es) where
 go:=λg i H ⟨⟨us,h1,h2⟩,⟨ws,h3,h4⟩⟩ hi=>by
  unfold xP at hi;rw[List.length_zipWith,←h2.length,←h4.length]at hi;exact⟨us,ws,us[i],ws[i],h1,h3,aq0 (by omega),aq0 (by omega)⟩
 yld:=λg i H x H' d k ⟨⟨us,h1,h2⟩,⟨ws,h3,h4⟩⟩ e y=>by
  unfold xP at e;rw[List.getElem?_zipWith]at e;cases hd:ds[i]? with
  |none=>rw[hd]at e;cases e
  |some d0=>
   cases he:es[i]? with
   |none=>rw[hd,he]at e;cases e
   |some e0=>
    rw[hd,he]at e;cases e;obtain⟨v,hv,rv⟩:=h2.get hd;obtain⟨u,hu,ru⟩:=h4.get he;obtain⟨U,x0,y0,rfl,nU,rfl,y1,y2⟩:=y;have:x0=v:=ark ((y1 us h1).symm.trans hv);subst this;have:y0=u:=ark ((y2 ws h3).symm.trans hu);subst this;exact⟨Ex.new nU,.tup (st_of upd_same) (.cons (rv.ex (Ex.new nU) k) (.cons (ru.ex (Ex.new nU) k) .nil))⟩
 stop:=λg i H ⟨⟨us,h1,h2⟩,⟨ws,h3,h4⟩⟩ e=>by
  unfold xP at e;rw[List.length_zipWith,←h2.length,←h4.length]at e;exact⟨us,ws,h1,h3,e⟩
 ex:=λg H H' k h e=>⟨Src.Xu k h.1 e,Src.Xu k h.2 e⟩
 add:=λg g' H H' k h r e=>⟨Src.Ky k h.1 r e,Src.Ky k h.2 r e⟩
def fH(lo:Int)(n:Nat):List Dat:=(List.range n).map λ(i:Nat)=>.int (lo+(i:Int))
theorem Vt{lo:Int}{n:Nat}:JM K (Itr lo n) (λ_ _=>True) (fH lo n) where
 go:=λg i H _ hi=>by
  unfold fH at hi;rw[ara,List.length_range]at hi;exact hi
 yld:=λg i H x H' d k _ e y=>by
  obtain⟨rfl,rfl⟩:=y;unfold fH at e;rw[aq9]at e;cases hr:(List.range n)[i]? with
  |none=>rw[hr]at e;cases e
  |some j=>
   rw[hr]at e;cases e;have:j=i:=by obtain⟨h1,h2⟩:=aqY.mp hr;rw[List.getElem_range]at h2;exact h2.symm
   subst this;exact⟨Ex.refl _,.int _⟩
 stop:=λg i H _ e=>by
  unfold fH at e;rw[ara,List.length_range]at e;show n<=i;omega
 ex:=λ_ _ _ _ _ _=>trivial
 add:=λ_ _ _ _ _ _ _ _=>trivial
end
section
variable{X:Cx}{aj:aQ}{W:WX}{tg a b:Expr}{fa fb:QF}{pos p tpos:Pos}{elts:List Expr}{kk:Nat}
theorem Mx{K:aqX}{g:Gh}{H:Hp}{v:V}{d:Dat}{ds:List Dat}{firm:Bool}(r:if firm=true then Rep K g H v d else eU K g H v d)(h:oX d=.ok ds):∃S,srcOf v S/\S.cw K ds g H/\(firm=true->S.cf K ds g H):=by
 have rw:eU K g H v d:=by
  cases firm with
  |true=>exact Rep.weak r
  |false=>exact r
 cases d with
 |list es=>
  cases h;obtain⟨l,us,rfl,h1,h2⟩:=jo rw;refine⟨.lst l,.inl ⟨l,rfl,rfl,.inl rfl⟩,⟨us,h1,h2⟩,λz=>?_⟩;subst z;have r:Rep K g H (.ref l) (.list ds):=r;cases r with
  |lst h3 h4=>exact⟨_,h3,h4⟩
 |tuple es=>
  cases h;obtain⟨l,us,rfl,h1,h2⟩:=lY rw;exact⟨.tup l,.inl ⟨l,rfl,rfl,.inr rfl⟩,⟨us,h1,h2⟩,λ_=>⟨us,h1,h2⟩⟩
 |str x=>
  cases h;cases jY rw;exact⟨.str x,.inr ⟨x,rfl,rfl⟩,⟨_,rfl,Eu x⟩,λ_=>⟨_,rfl,Eu x⟩⟩
 |_=>cases h
def tF(K:aqX)(aj:aQ)(W:WX)(firm:Bool)(f:QF):TE:=if firm=true then tQ K aj W f else tW K aj W f
def QF'(aj:aQ)(X:Cx)(W:WX)(firm:Bool)(e:Expr)(f:QF):Prop:=PE X e (tF X.K aj W firm f)
theorem tF.go{K:aqX}{firm:Bool}{g:Gh}{H:Hp}{σ:L2.St}{Z:Env}{M:Mo}{f:QF}{k:Dat->Prop}{Q:VK}(I:SInv K aj σ H g Z M)(h:(f M Z).sat k (rG K aj W g H σ))(hk:∀d v H',k d->Ex H H'->(if firm=true then Rep K g H' v d else eU K g H' v d)->Q v H'):tF K aj W firm f σ H Q:=by
 cases firm with
 |true=>exact tQ.go I h hk
 |false=>exact tW.go I h hk
theorem alS{K:aqX}{firm:Bool}{g:Gh}{H H':Hp}{v:V}{d:Dat}(e:Ex H H')(k:Kd g H)(r:if firm=true then Rep K g H v d else eU K g H v d):if firm=true then Rep K g H' v d else eU K g H' v d:=by
 cases firm with
 |true=>exact Rep.ex e k r
 |false=>exact eU.ex e k r
theorem wf{K:aqX}{S:Src}{firm:Bool}{J:It}{ds es:List Dat}{R:It->Hp->Prop}{g:Gh}{H H1:Hp}(h:∀J C H',Ex H H'->JM K J C ds->C g H'->(firm=true->ab5 C)->R J H')(e1:Ex H H1)(w:JM K J (S.cw K es) ds)(hw:S.cw K es g H1)(hf:firm=true->S.cf K es g H1):R J H1:=by
 cases firm with
 |true=>exact h J (S.cf K es) H1 e1 (w.of (λ_ _ z=>Src.ab2 z) (λg H H' k c e=>Src.uI true g g H H' k c (Gr.ex e)) λg g' H H' k c r e=>Src.uI true g g' H H' k c r) (hf rfl) λ_=>Src.uI
 |false=>exact h J (S.cw K es) H1 e1 w hw λz=>nomatch z
theorem Y7{firm:Bool}(ha:QF' aj X W firm a fa):QI aj X W firm tg a (dw fa):=by
 refine⟨λpins s σ H R I h=>?_⟩;obtain⟨g,Z,M,SI,hs⟩:=h;have hs:=hs.bnd;have fin:∀(S:Src) (x:V) (H1:Hp) (ds:List Dat),(∀J C H',Ex H H'->JM X.K J C ds->C g H'->(firm=true->ab5 C)->R J H')->Ex H H1->S.cw X.K ds g H1->(firm=true->S.cf X.K ds g H1)->R (ItS X.K S) H1:=λS x H1 ds h e1 hw hf=>wf h e1 abd hw hf;cases hfa:fa M Z with
 |bad=>rw[hfa]at hs;exact asi hs
 |exc x=>
  rw[hfa]at hs;exact(pi_list ha).run pins s σ H R I (tF.go (k:=λ_=>False) SI (by rw[hfa];exact hs) λd v H' z=>asi z)
 |ok d=>
  rw[hfa]at hs;cases d with
  |list ds=>
   refine(pi_list ha).run pins s σ H R I (tF.go (k:=λz=>z=.list ds) SI (by rw[hfa];rfl) λd v H' z e1 r=>?_);subst z;obtain⟨S,hS,hw,hf⟩:=Mx (firm:=firm) r (ds:=ds) rfl;have rw:eU X.K g H' v (.list ds):=by
    cases firm with
    |true=>exact Rep.weak r
    |false=>exact r
   obtain⟨l,us,rfl,h1,h2⟩:=jo rw;refine⟨l,rfl,⟨us,h1⟩,?_⟩;rcases hS with⟨a',e,ha',hl|ht⟩|⟨y,_,e⟩
   ·cases e;subst hl;exact fin (.lst l) (.ref l) H' ds hs e1 hw hf
   ·cases e;subst ht;refine wf (S:=.lst l) hs e1 (abd (S:=.lst l)) ⟨us,h1,h2⟩ λz=>?_;subst z;have r:Rep X.K g H' (.ref l) (.list ds):=r;cases r with
    |lst h3 h4=>exact⟨_,h3,h4⟩
   ·cases e
  |tuple ds=>
   refine(pi_tup ha).run pins s σ H R I (tF.go (k:=λz=>z=.tuple ds) SI (by rw[hfa];rfl) λd v H' z e1 r=>?_);subst z;have rw:eU X.K g H' v (.tuple ds):=by
    cases firm with
    |true=>exact Rep.weak r
    |false=>exact r
   obtain⟨l,us,rfl,h1,h2⟩:=lY rw;exact⟨l,rfl,⟨us,h1⟩,fin (.tup l) (.ref l) H' ds hs e1 ⟨us,h1,h2⟩ λ_=>⟨us,h1,h2⟩⟩
  |str x=>
   refine(pi_str ha).run pins s σ H R I (tF.go (k:=λz=>z=.str x) SI (by rw[hfa];rfl) λd v H' z e1 r=>?_);subst z;have rw:eU X.K g H' v (.str x):=by
    cases firm with
    |true=>exact Rep.weak r
    |false=>exact r
   cases jY rw;exact⟨x,rfl,fin (.str x) (.str x) H' _ hs e1 ⟨_,rfl,Eu x⟩ λ_=>⟨_,rfl,Eu x⟩⟩
  |_=>exact asi hs
def wN(a:QF):IF:=λM Z=>(a M Z).bind λd=>(Bb d).bind λn=>Out.when (decide (n<=100000/\-100000<=n)) (.ok (fH 0 n.toNat))
def Cg(a b:QF):IF:=λM Z=>(a M Z).bind λd=>(b M Z).bind λe=>(Bb d).bind λlo=>(Bb e).bind λn=>Out.when (decide (n<=100000/\-100000<=n/\lo<=100000/\-100000<=lo)) (.ok (fH lo (n - lo).toNat))
def zN(k₀:Int)(a:QF):IF:=λM Z=>(a M Z).bind λd=>(oX d).bind λds=>.ok (sV k₀ ds)
def Jc(a b:QF):IF:=λM Z=>(a M Z).bind λd=>(b M Z).bind λe=>(oX d).bind λds=>(oX e).bind λes=>.ok (xP ds es)
theorem acP{firm:Bool}(hg:Gl X "range")(hm:X.mg "range"=none)(ha:QW aj X W a fa)(hs:nst a=true):QI aj X W firm tg (.Call (.Name "range" p) [a] [] pos) (wN fa):=by
 refine⟨λpins s σ H R I h=>?_⟩;refine(pi_range1 hg hm (pa_cons ha pa_nil (cU hs [])) (cU hs [])).run pins s σ H R I ?_;obtain⟨g,Z,M,SI,h⟩:=h;refine tW.go SI h.bnd λd v H1 h1 e1 r1=>?_;have h1:=h1.bnd;unfold Bb at h1;split at h1
 ·obtain⟨hz,h1⟩:=h1.qH;have hz:=asl hz;cases cI r1;exact⟨_,rfl,by omega,by omega,h1 _ _ H1 e1 Vt trivial λ_=>λ_ _ _ _ _ _ _ _=>trivial⟩
 ·exact asi h1
theorem adZ{firm:Bool}(hg:Gl X "range")(hm:X.mg "range"=none)(ha:QW aj X W a fa)(hb:QW aj X W b fb)(hs:nst a=true)(hs2:nst b=true):QI aj X W firm tg (.Call (.Name "range" p) [a,b] [] pos) (Cg fa fb):=by
 refine⟨λpins s σ H R I h=>?_⟩;refine(pi_range2 hg hm (pa_cons ha (pa_cons hb pa_nil (cU hs2 [])) (cU hs [b])) (by rw[cU hs,cU hs2];rfl) (cU hs2 [])).run pins s σ H R I ?_;obtain⟨g,Z,M,SI,h⟩:=h;refine tW.go SI h.bnd λd v H1 h1 e1 r1=>?_;refine tW.go (SI.ex e1) (h1.bnd.mono (λ_ z=>z) λ_ z=>z.ex e1) λd2 v2 H2 h2 e2 r2=>?_;have h2:=h2.bnd;unfold Bb at h2;split at h2
 ·have h2:=Out.sat.bnd h2;split at h2
  ·obtain⟨hz,h2⟩:=Out.sat.qH h2;have hz:=asl hz;cases cI r1;cases cI r2;exact⟨_,_,rfl,⟨by omega,by omega,by omega,by omega⟩,h2 _ _ H2 (e1.trans e2) Vt trivial λ_=>λ_ _ _ _ _ _ _ _=>trivial⟩
  ·exact asi h2
 ·exact asi h2
theorem agx{firm:Bool}{k₀:Int}(σ:L2.St)(H:Hp)(R:It->Hp->Prop)(h:tI X.K aj W firm (zN k₀ fa) σ H R):iEn X.K (tCons (tF X.K aj W firm fa) tNil) k₀ σ H R:=by
 obtain⟨g,Z,M,SI,h⟩:=h;refine tF.go SI h.bnd λd v H1 h1 e1 r1=>?_;cases hd:oX d with
 |bad=>rw[hd]at h1;exact asi h1
 |exc x=>cases d<;>cases hd
 |ok ds=>
  rw[hd]at h1;obtain⟨S,hS,hw,hf⟩:=Mx r1 hd;exact⟨v,S,_,rfl,hS,hw.choose_spec.1,wf h1 e1 afz hw hf⟩
theorem ahJ{firm:Bool}(hg:Gl X "enumerate")(hm:X.mg "enumerate"=none)(ha:QF' aj X W firm a fa)(hs:nst a=true):QI aj X W firm (.Tuple elts kk tpos) (.Call (.Name "enumerate" p) [a] [] pos) (zN 0 fa):=
 ⟨λpins s σ H R I h=>(alu hg hm (pa_cons ha pa_nil (cU hs [])) hs).run pins s σ H R I (agx σ H R h)⟩
theorem afH{firm:Bool}{k₀:Int}{j:Nat}{kp kp2:Pos}(hk0 : -(2 ^ 63)<=k₀)(hk1:k₀ < 2 ^ 63)(hg:Gl X "enumerate")(hm:X.mg "enumerate"=none)(ha:QF' aj X W firm a fa)(hs:nst a=true):QI aj X W firm (.Tuple elts kk tpos) (.Call (.Name "enumerate" p) [a] [⟨some "start",.Constant (.int k₀) j kp,kp2⟩] pos) (zN k₀ fa):=
 ⟨λpins s σ H R I h=>(ai4 hk0 hk1 hg hm (pa_cons ha pa_nil (cU hs [])) hs).run pins s σ H R I (agx σ H R h)⟩
theorem akN{firm:Bool}(hg:Gl X "zip")(hm:X.mg "zip"=none)(ha:QF' aj X W firm a fa)(hb:QF' aj X W firm b fb)(hs:nst a=true)(hs2:nst b=true):QI aj X W firm (.Tuple elts kk tpos) (.Call (.Name "zip" p) [a,b] [] pos) (Jc fa fb):=by
 refine⟨λpins s σ H R I h=>(amg hg hm (pa_cons ha (pa_cons hb pa_nil (cU hs2 [])) (cU hs [b])) hs hs2).run pins s σ H R I ?_⟩;obtain⟨g,Z,M,SI,h⟩:=h;refine tF.go SI h.bnd λd v H1 h1 e1 r1=>?_;refine tF.go (SI.ex e1) (h1.bnd.mono (λ_ z=>z) λ_ z=>z.ex e1) λd2 v2 H2 h2 e2 r2=>?_;cases hd:oX d with
 |bad=>rw[hd]at h2;exact asi h2
 |exc x=>cases d<;>cases hd
 |ok ds=>
  cases he:oX d2 with
  |bad=>rw[hd,he]at h2;exact asi h2
  |exc x=>cases d2<;>cases he
  |ok es=>
   rw[hd,he]at h2;obtain⟨S,hS,hw,hf⟩:=Mx (alS e2 (SI.ex e1).kd r1) hd;obtain⟨T,hT,hw2,hf2⟩:=Mx r2 he;refine⟨v,v2,S,T,_,_,rfl,hS,hT,hw.choose_spec.1,hw2.choose_spec.1,?_⟩;cases firm with
   |true=>exact h2 _ (λg H=>S.cf X.K ds g H/\T.cf X.K es g H) H2 (e1.trans e2) (abx.of (λ_ _ z=>⟨Src.ab2 z.1,Src.ab2 z.2⟩) (λg H H' k c e=>⟨Src.uI true g g H H' k c.1 (Gr.ex e),Src.uI true g g H H' k c.2 (Gr.ex e)⟩) λg g' H H' k c r e=>⟨Src.uI true g g' H H' k c.1 r,Src.uI true g g' H H' k c.2 r⟩) ⟨hf rfl,hf2 rfl⟩ λ_=>λq g g' H H' k c r=>⟨Src.uI q g g' H H' k c.1 r,Src.uI q g g' H H' k c.2 r⟩
   |false=>exact h2 _ _ H2 (e1.trans e2) abx ⟨hw,hw2⟩ λz=>nomatch z
end
def WF:WX:=λ_ _ _ _=>False
def yG{α:Type}:Out α->Out α
 |.ok a=>.ok a
 |_=>.bad
@[simp]theorem Yq {α:Type} (a:α):yG (.ok a)=.ok a:=rfl
theorem Cp{α:Type}{o:Out α}{P:α->Prop}{E E':dR->Prop}(h:(yG o).sat P E):o.sat P E':=by
 cases o
 ·exact h
 ·exact asi h
 ·exact h
def dJ(tg:fV)(tt:QT)(te:QF)(M:Mo)(Z:Env):List Dat->Out (List Dat)
 |[]=>.ok []
 |d::ds=>match tg d Z with
  |none=>.bad
  |some Z1=>(yG (tt M Z1)).bind λb=>if b=true then(yG (te M Z1)).bind λy=>(dJ tg tt te M Z ds).bind λr=>.ok (y::r) else dJ tg tt te M Z ds
def fB(it:IF)(tg:fV)(vs:List Nat)(tt:QT)(te:QF):QF:=λM Z=>(it M Z).bind λds=>Out.when (decide (ds.length<=50000)) ((dJ tg tt te M (cD Z vs) ds).bind λr=>.ok (.list r))
def jD:QT:=λ_ _=>.ok true
def tFr(K:aqX)(aj:aQ)(W:WX)(f:IF):TE:=λσ H Q=>∃g Z M,SInv K aj σ H g Z M/\(f M Z).sat (λxs=>∀l us H',H l=none->Ex H H'->H' l=some (.lst us)->aK K (g.add l) H' us xs->Q (.ref l) H') (rG K aj W g H σ)
def CZ(it:IF)(tg:fV)(vs:List Nat)(tt:QT)(te:QF):IF:=λM Z=>(it M Z).bind λds=>Out.when (decide (ds.length<=50000)) (dJ tg tt te M (cD Z vs) ds)
section
variable{K:aqX}{aj:aQ}{W:WX}
theorem ZK{g:Gh}{H:Hp}{D:Addr}{o o':HO}{vs:List V}{ds:List Dat}(k:Kd g H)(h:H D=some o)(l:g.Lo D)(r:aK K g H vs ds):aK K g (upd H D o') vs ds:=r.gr (Gr.upd (q:=true) k h (.inr l)) k
theorem aho{g:Gh}{H:Hp}{D:Addr}{o o':HO}{v:V}{d:Dat}(k:Kd g H)(h:H D=some o)(l:g.Lo D)(r:Rep K g H v d):Rep K g (upd H D o') v d:=r.gr (Gr.upd (q:=true) k h (.inr l)) k
theorem rK{tg:fV}{tt:QT}{te:QF}{M:Mo}{Z:Env}:∀{ds:List Dat} {x:dR},dJ tg tt te M Z ds≠.exc x
 |[],_,h=>nomatch h
 |d::ds,x,h=>by
  rw[dJ]at h;split at h
  ·cases h
  ·next Z1 e=>
   cases h1:tt M Z1 with
   |bad=>rw[h1]at h;cases h
   |exc y=>rw[h1]at h;cases h
   |ok b=>
    rw[h1]at h;cases b with
    |false=>exact rK h
    |true=>
     have h:((yG (te M Z1)).bind λy=>(dJ tg tt te M Z ds).bind λr=>Out.ok (y::r))=.exc x:=h;cases h2:te M Z1 with
     |bad=>rw[h2]at h;cases h
     |exc y=>rw[h2]at h;cases h
     |ok y=>
      rw[h2]at h;cases h3:dJ tg tt te M Z ds with
      |bad=>rw[h3]at h;cases h
      |exc z=>exact rK h3
      |ok r=>rw[h3]at h;cases h
theorem Px(σ:L2.St)(i:Nat):∀vs:List Nat,(L2.wipe σ vs)[i]?=if i∈vs then(σ[i]?).map (λ_=>none) else σ[i]?
 |[]=>by simp[L2.wipe]
 |v::vs=>by
  show((L2.wipe σ vs).set v none)[i]?=_
  by_cases h:v=i
  ·subst h;by_cases hl:v < σ.length
   ·rw[ari (by rw[wipe_length];exact hl),if_pos aq4,aq0 hl];rfl
   ·have h1:σ[v]?=none:=List.getElem?_eq_none_iff.mpr (by omega);rw[if_pos aq4,h1,List.getElem?_eq_none_iff.mpr (by rw[ars,wipe_length];omega)];rfl
  ·rw[aq6 h,Px σ i vs];have:i∈v::vs↔i∈vs:=⟨λz=>by
    rcases arh.mp z with z|z
    ·exact absurd z.symm h
    ·exact z,aq3 _⟩
   simp only[this]
theorem Dt(σ:L2.St)(vs:List Nat):L2.wipe (L2.wipe σ vs) vs=L2.wipe σ vs:=by
 apply arv;intro i;rw[Px (L2.wipe σ vs) i vs,Px σ i vs];split
 ·cases σ[i]?<;>rfl
 ·rfl
theorem Ze{it:IF}{tg:fV}{js vs:List Nat}{tt:QT}{te:QF}(hj:∀j∈js,j∈vs)(σ:L2.St)(H:Hp)(Q:VK)(h:tFr K aj W (CZ it tg vs tt te) σ H Q) :
  tLc (tI K aj W false it) (zW K aj js tg) (lJ K aj WF tt) (tQ K aj WF te) vs σ H Q:=by
 obtain⟨g,Z,M,I,h⟩:=h;refine⟨g,Z,M,I,h.bnd.mono (λds hk J C H1 e1 w c _ D nD=>?_) λ_ z=>z⟩;obtain⟨hz,hk⟩:=hk.qH;have hlen:=asl hz;obtain⟨total,htot,hQ⟩:∃total,dJ tg tt te M (cD Z vs) ds=.ok total/\∀l us H',H l=none->Ex H H'->H' l=some (.lst us)->aK K (g.add l) H' us total->Q (.ref l) H':=by
  cases hc:dJ tg tt te M (cD Z vs) ds with
  |bad=>rw[hc]at hk;exact asi hk
  |exc x=>exact absurd hc rK
  |ok total=>
   rw[hc]at hk;exact⟨total,rfl,hk⟩
 have I1:=(I.ex e1).wipe vs;have kD:∀{Ha:Hp} {us:List V},Ex H1 Ha->Ha D=some (.lst us)->SInv K aj (L2.wipe σ vs) Ha (g.add D) (cD Z vs) M:=λea hu=>I1.add nD ea hu trivial
 let Pv:Nat->Hp->Prop:=λi Ha=>Ex H1 Ha/\i<=ds.length/\∃us ys,Ha D=some (.lst us)/\aK K (g.add D) Ha us ys/\ys.length<=i/\(dJ tg tt te M (cD Z vs) (ds.drop i)).sat (λr=>total=ys++r) λ_=>False
 refine⟨λi m Ha=>m=ds.length - i/\Pv i Ha,⟨ds.length,rfl,Ex.new nD,arK _,[],[],upd_same,.nil,arq _,?_⟩,?_⟩
 ·rw[asf,htot];rfl
 ·rintro i m Ha ⟨rfl,ea,hi,us,ys,hu,hU,hy,hs⟩;have Ia:=kD ea hu;have Ca:=w.add g (g.add D) H1 Ha (I.kd.ex e1) c (Gh.Gk nD ea) ea;by_cases hlt:i < ds.length
  ·refine .inr ⟨w.go _ i Ha Ca hlt,Pv (i+1),λH' p=>⟨ds.length - (i+1),by omega,rfl,p⟩,λx H' y=>?_⟩;have hd:ds[i]?=some ds[i]:=aq0 hlt;obtain⟨e2,rx⟩:=w.yld _ i Ha x H' _ Ia.kd Ca hd y;have I2:=Ia.ex e2;rw[arT hlt,dJ]at hs;split at hs
   ·exact asi hs
   ·next Z1 he=>
    refine⟨g.add D,_,M,_,Z1,I2,rx,he,λws I3=>⟨Aq js ws _ vs hj |>.trans (Dt σ vs),?_⟩⟩;refine lJ.go I3 (Cp hs.bnd) λb H3 hb e3=>?_;have I4:=I3.ex e3;have hu3:=e3 _ _ (e2 _ _ hu);have hU3:=(hU.ex e2 Ia.kd).ex e3 I2.kd;cases b with
    |false=>
     have hb:(dJ tg tt te M (cD Z vs) (ds.drop (i+1))).sat (λr=>total=ys++r) λ_=>False:=hb;exact⟨(ea.trans e2).trans e3,hlt,us,ys,hu3,hU3,Nat.le_succ_of_le hy,hb⟩
    |true=>
     have hb:((yG (te M Z1)).bind λy=>(dJ tg tt te M (cD Z vs) (ds.drop (i+1))).bind λr=>Out.ok (y::r)).sat (λr=>total=ys++r) λ_=>False:=hb;refine tQ.go I4 (Cp hb.bnd) λy v H4 hyv e4 ry=>?_;have I5:=I4.ex e4;have hu4:=e4 _ _ hu3;have hU4:=hU3.ex e4 I4.kd;have lD:(g.add D).Lo D:=.inr rfl;refine⟨us,hu4,sz_lt (by rw[hU.length];omega),Ex.mut (((ea.trans e2).trans e3).trans e4) nD,hlt,us++[v],ys++[y],upd_same,?_,by simp;omega,hyv.bnd.mono (λr hr=>?_) λ_ z=>z⟩
     ·exact ZK I5.kd hu4 lD (hU4.append (.cons ry .nil))
     ·have hr:total=ys++y::r:=hr;rw[hr];simp
  ·have e:i=ds.length:=by omega
   refine .inl ⟨w.stop _ i Ha Ca e,?_⟩;rw[e,arV]at hs;have hs:total=ys++[]:=hs;rw[arR]at hs;subst hs;exact hQ D us Ha (Dk e1 D nD) (e1.trans ea) hu hU
theorem agk{it:IF}{tg:fV}{js vs:List Nat}{tt:QT}{te:QF}(hj:∀j∈js,j∈vs)(σ:L2.St)(H:Hp)(Q:VK)(h:tQ K aj W (fB it tg vs tt te) σ H Q) :
  tLc (tI K aj W false it) (zW K aj js tg) (lJ K aj WF tt) (tQ K aj WF te) vs σ H Q:=by
 obtain⟨g,Z,M,I,h⟩:=h;refine Ze hj σ H Q ⟨g,Z,M,I,?_⟩;unfold CZ;unfold fB at h;cases hi:it M Z with
 |bad=>rw[hi]at h;exact asi h
 |exc x=>rw[hi]at h;exact h
 |ok ds=>
  rw[hi]at h;obtain⟨hz,h⟩:=Out.sat.qH h;have h:=h.bnd
  show(Out.when (decide (ds.length<=50000)) (dJ tg tt te M (cD Z vs) ds)).sat _ _
  rw[hz,Out.VL];exact h.mono (λxs z l us H' n e hl r=>z _ H' e (.lst (.inl ⟨.inl hl,I.kd.fresh n⟩) (aK.less (g:=g.add l) (g':=g) rfl (λa z=>z.elim .inl λz=>.inr (z.elim .inl λz=>.inr (.inl z))) r))) λ_ z=>z
end
section
variable{X:Cx}{aj:aQ}{W:WX}{elt tg iter:Expr}{pos p tpos:Pos}
theorem akT{X:Cx}:Takes X WF:=λu s' ⟨a,B,sI,pins,σ,H,cls,d,e,I,nb,up,sky,na,os,ag,w⟩=>asi w
theorem al8{scope:Scope}{own:List (Str×Nat)}{it:IF}{tgf:fV}{js:List Nat}{tt:QT}{te:QF}{ifs:List Expr}(hc:X.calm=true)(hN:X.N.Nodup)(hi:QI aj X W false tg iter it)(ok:blkC X.N X.env.scope scope own=true)(hj:∀j∈js,j∈own.map (·.2))
  (hg:∀(s:Shared) (H:Hp) (C:Addr) (cl:List (Str×Addr)) (fp:List Addr),QG aj (X.blk s H scope (compEnvC scope cl C X.env) fp) tg js tgf)
  (ht:∀(s:Shared) (H:Hp) (C:Addr) (cl:List (Str×Addr)) (fp:List Addr),PTs (X.blk s H scope (compEnvC scope cl C X.env) fp) ifs (lJ X.K aj WF tt))
  (he:∀(s:Shared) (H:Hp) (C:Addr) (cl:List (Str×Addr)) (fp:List Addr),QE aj (X.blk s H scope (compEnvC scope cl C X.env) fp) WF elt te) (hs:∀x,foldedSetIterable iter X.env x=pure x) :
  QE aj X W (.ListComp elt [⟨tg,iter,ifs,0⟩] scope pos) (fB it tgf (own.map (·.2)) tt te):=
 PE.weak (pe_lc (g:=zW X.K aj js tgf) (tt:=lJ X.K aj WF tt) (te:=tQ X.K aj WF te) hc hN hi (blkOk_by ok) (λs H C cl fp=>hg s H C cl fp) ht (λs H C cl fp=>he s H C cl fp) hs) λσ H Q h=>agk hj σ H Q h
theorem alf{scope:Scope}{own:List (Str×Nat)}{it:IF}{tgf:fV}{js:List Nat}{tt:QT}{te:QF}{ifs:List Expr}(hc:X.calm=true)(hN:X.N.Nodup)(hi:QI aj X W false tg iter it)(ok:blkC X.N X.env.scope scope own=true)(hj:∀j∈js,j∈own.map (·.2))
  (hg:∀(s:Shared) (H:Hp) (C:Addr) (cl:List (Str×Addr)) (fp:List Addr),QG aj (X.blk s H scope (compEnvC scope cl C X.env) fp) tg js tgf)
  (ht:∀(s:Shared) (H:Hp) (C:Addr) (cl:List (Str×Addr)) (fp:List Addr),PTs (X.blk s H scope (compEnvC scope cl C X.env) fp) ifs (lJ X.K aj WF tt))
  (he:∀(s:Shared) (H:Hp) (C:Addr) (cl:List (Str×Addr)) (fp:List Addr),QE aj (X.blk s H scope (compEnvC scope cl C X.env) fp) WF elt te) (hs:∀x,foldedSetIterable iter X.env x=pure x) :
  PE X (.ListComp elt [⟨tg,iter,ifs,0⟩] scope pos) (tFr X.K aj W (CZ it tgf (own.map (·.2)) tt te)):=
 PE.weak (pe_lc (g:=zW X.K aj js tgf) (tt:=lJ X.K aj WF tt) (te:=tQ X.K aj WF te) hc hN hi (blkOk_by ok) (λs H C cl fp=>hg s H C cl fp) ht (λs H C cl fp=>he s H C cl fp) hs) λσ H Q h=>Ze hj σ H Q h
end
def bh.sat{α:Type}(o:bh α)(P:α->Mo->Prop)(E:dR->Mo->Prop):Prop:=
 match o with
 |.ok a M=>P a M
 |.exc x M=>E x M
 |.bad=>False
def bh.bind{α β:Type}(o:bh α)(k:α->Mo->bh β):bh β:=
 match o with
 |.ok a M=>k a M
 |.exc x M=>.exc x M
 |.bad=>.bad
@[simp]theorem bh.yQ {α β:Type} (a:α) (M:Mo) (k:α->Mo->bh β):(bh.ok a M).bind k=k a M:=rfl
@[simp]theorem bh.afq {α β:Type} (x:dR) (M:Mo) (k:α->Mo->bh β):(bh.exc x M:bh α).bind k=.exc x M:=rfl
@[simp]theorem bh.afh {α β:Type} (k:α->Mo->bh β):(bh.bad:bh α).bind k=.bad:=rfl
theorem bh.sat.bnd{α β:Type}{o:bh α}{k:α->Mo->bh β}{P:β->Mo->Prop}{E:dR->Mo->Prop}(h:(o.bind k).sat P E):o.sat (λa M=>(k a M).sat P E) E:=by cases o<;>exact h
theorem bh.sat.mono{α:Type}{o:bh α}{P P':α->Mo->Prop}{E E':dR->Mo->Prop}(h:o.sat P E)(hp:∀a M,P a M->P' a M)(he:∀x M,E x M->E' x M):o.sat P' E':=by
 cases o
 ·exact hp _ _ h
 ·exact he _ _ h
 ·exact h
def Out.at{α:Type}(o:Out α)(M:Mo):bh α:=
 match o with
 |.ok a=>.ok a M
 |.exc x=>.exc x M
 |.bad=>.bad
@[simp]theorem Out.aqO {α:Type} (a:α) (M:Mo):(Out.ok a).at M=.ok a M:=rfl
@[simp]theorem Out.ao1 {α:Type} (x:dR) (M:Mo):(Out.exc x:Out α).at M=.exc x M:=rfl
@[simp]theorem Out.aoM {α:Type} (M:Mo):(Out.bad:Out α).at M=.bad:=rfl
theorem Out.iV{α:Type}{o:Out α}{M:Mo}{P:α->Mo->Prop}{E:dR->Mo->Prop}(h:(o.at M).sat P E):o.sat (λa=>P a M) λx=>E x M:=by cases o<;>exact h
abbrev GF:=Mo->Env->bh Dat
abbrev GT:=Mo->Env->bh Bool
def vq.sat(o:vq)(nx:Env->Mo->Prop)(rt:Dat->Mo->Prop)(bk ct:Env->Mo->Prop)(ex:dR->Env->Mo->Prop):Prop:=
 match o with
 |.next Z M=>nx Z M
 |.ret d M=>rt d M
 |.brk Z M=>bk Z M
 |.cont Z M=>ct Z M
 |.exc x Z M=>ex x Z M
 |.bad=>False
theorem vq.sat.mono{o:vq}{nx nx':Env->Mo->Prop}{rt rt':Dat->Mo->Prop}{bk bk' ct ct':Env->Mo->Prop}{ex ex':dR->Env->Mo->Prop}(h:o.sat nx rt bk ct ex)(h1:∀Z M,nx Z M->nx' Z M)(h2:∀d M,rt d M->rt' d M)(h3:∀Z M,bk Z M->bk' Z M)(h4:∀Z M,ct Z M->ct' Z M)(h5:∀x Z M,ex x Z M->ex' x Z M):o.sat nx' rt' bk' ct' ex':=by
 cases o
 ·exact h1 _ _ h
 ·exact h2 _ _ h
 ·exact h3 _ _ h
 ·exact h4 _ _ h
 ·exact h5 _ _ _ h
 ·exact h
abbrev SF:=Mo->Env->vq
def Gh.fr(g:Gh):Gh:={ g with Lo:=λ_=>False }
section
variable(K:aqX)(aj:aQ)(W:WX)(q:Bool)
def gE(g:Gh)(H:Hp)(σ:L2.St)(Z:Env)(x:dR)(M':Mo):Prop:=∀H' g' c dd,Gr q g g' H H'->SInv K aj σ H' g' Z M'->qX K aj g' H' x c dd->W c dd σ H'
def tE(f:GF):TE:=λσ H Q=>∃g Z M,SInv K aj σ H g Z M/\(f M Z).sat (λd M'=>∀v H' g',Gr q g g' H H'->SInv K aj σ H' g' Z M'->Rep K g' H' v d->Q v H') (gE K aj W q g H σ Z)
def Rv(f:GT):TT:=λσ H Q=>∃g Z M,SInv K aj σ H g Z M/\(f M Z).sat (λb M'=>∀H' g',Gr q g g' H H'->SInv K aj σ H' g' Z M'->Q b H') (gE K aj W q g H σ Z)
def sN(k:L2.St->Hp->Prop)(g:Gh)(H:Hp)(Z':Env)(M':Mo):Prop:=∀σ' H' g',Gr q g g' H H'->SInv K aj σ' H' g' Z' M'->k σ' H'
def sR(k:VK)(g:Gh)(H:Hp)(d:Dat)(M':Mo):Prop:=∀v H' g',Gr q g g' H H'->Kd g'.fr H'->fZ K aj g'.fr H' M'->Rep K g'.fr H' v d->k v H'
def sX(g:Gh)(H:Hp)(x:dR)(Z':Env)(M':Mo):Prop:=∀σ' H' g' c dd,Gr q g g' H H'->SInv K aj σ' H' g' Z' M'->qX K aj g'.fr H' x c dd->W c dd σ' H'
def tS(f:SF):TS:=λD σ H=>∃g Z M,SInv K aj σ H g Z M/\(f M Z).sat (sN K aj q D.nx g H) (sR K aj q D.rt g H) (sN K aj q D.bk g H) (sN K aj q D.ct g H) (sX K aj W q g H)
end
section
variable{K:aqX}{aj:aQ}{W:WX}{q:Bool}{g g1:Gh}{H H1:Hp}{σ:L2.St}{Z:Env}{M:Mo}
theorem gE.gr{x:dR}{M':Mo}(r:Gr q g g1 H H1)(h:gE K aj W q g H σ Z x M'):gE K aj W q g1 H1 σ Z x M':=λH' g' c dd r' I z=>h H' g' c dd (r.trans r') I z
theorem sN.gr{k:L2.St->Hp->Prop}{Z':Env}{M':Mo}(r:Gr q g g1 H H1)(h:sN K aj q k g H Z' M'):sN K aj q k g1 H1 Z' M':=λσ' H' g' r' I=>h σ' H' g' (r.trans r') I
theorem sR.gr{k:VK}{d:Dat}{M':Mo}(r:Gr q g g1 H H1)(h:sR K aj q k g H d M'):sR K aj q k g1 H1 d M':=λv H' g' r' I z y=>h v H' g' (r.trans r') I z y
theorem sX.gr{x:dR}{Z':Env}{M':Mo}(r:Gr q g g1 H H1)(h:sX K aj W q g H x Z' M'):sX K aj W q g1 H1 x Z' M':=λσ' H' g' c dd r' I z=>h σ' H' g' c dd (r.trans r') I z
theorem tE.go{f:GF}{k:Dat->Mo->Prop}{Q:VK}(I:SInv K aj σ H g Z M)(h:(f M Z).sat k (gE K aj W q g H σ Z))(hk:∀d M' v H' g',k d M'->Gr q g g' H H'->SInv K aj σ H' g' Z M'->Rep K g' H' v d->Q v H'):tE K aj W q f σ H Q:=
 ⟨g,Z,M,I,h.mono (λd M' hd v H' g' e I' r=>hk d M' v H' g' hd e I' r) λ_ _ z=>z⟩
theorem Rv.go{f:GT}{k:Bool->Mo->Prop}{Q:Bool->Hp->Prop}(I:SInv K aj σ H g Z M)(h:(f M Z).sat k (gE K aj W q g H σ Z))(hk:∀b M' H' g',k b M'->Gr q g g' H H'->SInv K aj σ H' g' Z M'->Q b H'):Rv K aj W q f σ H Q:=
 ⟨g,Z,M,I,h.mono (λd M' hd H' g' e I'=>hk d M' H' g' hd e I') λ_ _ z=>z⟩
theorem tS.go{f:SF}{D:Ends}(I:SInv K aj σ H1 g1 Z M)(r:Gr q g g1 H H1)(h:(f M Z).sat (sN K aj q D.nx g H) (sR K aj q D.rt g H) (sN K aj q D.bk g H) (sN K aj q D.ct g H) (sX K aj W q g H)):tS K aj W q f D σ H1:=
 ⟨g1,Z,M,I,h.mono (λ_ _ z=>z.gr r) (λ_ _ z=>z.gr r) (λ_ _ z=>z.gr r) (λ_ _ z=>z.gr r) (λ_ _ _ z=>z.gr r)⟩
theorem lO.less{g':Gh}{fs:List (Str×V)}{gs:List (Str×Dat)}(e:g'.tbl=g.tbl)(n:∀a,g'.A a->g.A a)(h:lO K g H fs gs):lO K g' H fs gs:=by
 induction h with
 |nil=>exact .nil
 |cons r _ ih=>exact .cons (r.less e n) ih
theorem qX.less{g':Gh}{x:dR}{c:Value}{dd:Option Addr}(e:g'.tbl=g.tbl)(n:∀a,g'.A a->g.A a)(h:qX K aj g H x c dd):qX K aj g' H x c dd:=by obtain⟨C,h1,h2,h3⟩:=h;refine⟨C,h1,h2,h3.imp id λ⟨a,fs,e1,e2,e3⟩=>⟨a,fs,e1,e2,e3.less e n⟩⟩
theorem wW(g:Gh):∀a,g.fr.A a->g.A a:=λa z=>z.elim .inl λz=>.inr (z.elim .inl λz=>asi z)
theorem Rep.fr{v:V}{d:Dat}(h:Rep K g H v d):Rep K g.fr H v d:=Rep.less (g:=g) (g':=g.fr) rfl (wW g) h
theorem aK.fr{v:List V}{d:List Dat}(h:aK K g H v d):aK K g.fr H v d:=aK.less (g:=g) (g':=g.fr) rfl (wW g) h
theorem qX.fr{x:dR}{c:Value}{dd:Option Addr}(h:qX K aj g H x c dd):qX K aj g.fr H x c dd:=qX.less (g:=g) (g':=g.fr) rfl (wW g) h
end
def GE(aj:aQ)(X:Cx)(W:WX)(q:Bool)(e:Expr)(f:GF):Prop:=PE X e (tE X.K aj W q f)
def Fq(aj:aQ)(X:Cx)(W:WX)(q:Bool)(e:Expr)(f:GT):Prop:=PT X e (Rv X.K aj W q f)
def SE(aj:aQ)(X:Cx)(W:WX)(q:Bool)(s:Stmt)(f:SF):Prop:=PS X s (tS X.K aj W q f)
def Ep(aj:aQ)(X:Cx)(W:WX)(q:Bool)(s:List Stmt)(f:SF):Prop:=PSs X s (tS X.K aj W q f)
theorem PS.weak{X:Cx}{e:Stmt}{t t':TS}(h:PS X e t)(k:∀D σ H,t' D σ H->t D σ H):PS X e t':=⟨λpins s σ H D I z=>h.run pins s σ H D I (k D σ H z)⟩
theorem PSs.weak{X:Cx}{e:List Stmt}{t t':TS}(h:PSs X e t)(k:∀D σ H,t' D σ H->t D σ H):PSs X e t':=⟨λpins s σ H D I z=>h.run pins s σ H D I (k D σ H z)⟩
def gOf(f:QF):GF:=λM Z=>(f M Z).at M
def ae8(f:QT):GT:=λM Z=>(f M Z).at M
section
variable{X:Cx}{aj:aQ}{W:WX}{q:Bool}{a b e:Expr}{pos:Pos}
theorem agl{f:QF}(h:QE aj X W e f):GE aj X W q e (gOf f):=PE.weak h λσ H Q ⟨g,Z,M,I,z⟩=>
 ⟨g,Z,M,I,(Out.iV z).mono (λd k v H' e r=>k v H' g (Gr.ex e) (I.ex e) r) λx k H' c dd e r=>k H' g c dd (Gr.ex e) (I.ex e) r⟩
theorem alh{f:QT}(h:sS aj X W e f):Fq aj X W q e (ae8 f):=PT.weak h λσ H Q ⟨g,Z,M,I,z⟩=>
 ⟨g,Z,M,I,(Out.iV z).mono (λd k H' e=>k H' g (Gr.ex e) (I.ex e)) λx k H' c dd e r=>k H' g c dd (Gr.ex e) (I.ex e) r⟩
def aU:SF:=λM Z=>.next Z M
def aD(f k:SF):SF:=λM Z=>match f M Z with
 |.next Z' M'=>k M' Z'
 |o=>o
theorem aji:Ep aj X W q [] aU:=PSs.weak pss_nil λD σ H ⟨g,Z,M,I,z⟩=>z σ H g .refl I
theorem akb{s:Stmt}{f:SF}(h:SE aj X W q s f):Ep aj X W q [s] f:=pss_one h
theorem ahx{s:Stmt}{ss:List Stmt}{f k:SF}(h:SE aj X W q s f)(hs:Ep aj X W q ss k):Ep aj X W q (s::ss) (aD f k):=by
 refine PSs.weak (pss_cons h hs) λD σ H ⟨g,Z,M,I,z⟩=>?_;refine⟨g,Z,M,I,?_⟩;unfold aD at z;cases hf:f M Z with
 |next Z' M'=>
  rw[hf]at z;exact λσ' H' g' r I'=>tS.go I' r z
 |ret d M'=>rw[hf]at z;exact z
 |brk Z' M'=>rw[hf]at z;exact z
 |cont Z' M'=>rw[hf]at z;exact z
 |exc x Z' M'=>rw[hf]at z;exact z
 |bad=>rw[hf]at z;exact z
def bh.then{α:Type}(o:bh α)(Z:Env)(k:α->Mo->vq):vq:=
 match o with
 |.ok a M=>k a M
 |.exc x M=>.exc x Z M
 |.bad=>.bad
@[simp]theorem bh.anG {α:Type} (a:α) (M:Mo) (Z:Env) (k:α->Mo->vq):(bh.ok a M).then Z k=k a M:=rfl
@[simp]theorem bh.am5 {α:Type} (x:dR) (M:Mo) (Z:Env) (k:α->Mo->vq):(bh.exc x M:bh α).then Z k=.exc x Z M:=rfl
@[simp]theorem bh.anj {α:Type} (Z:Env) (k:α->Mo->vq):(bh.bad:bh α).then Z k=.bad:=rfl
theorem cY{α:Type}{K:aqX}{g:Gh}{H:Hp}{σ:L2.St}{Z:Env}{o:bh α}{k:α->Mo->vq}{nx bk ct:Env->Mo->Prop}{rt:Dat->Mo->Prop}(h:(o.then Z k).sat nx rt bk ct (sX K aj W q g H)):o.sat (λa M=>(k a M).sat nx rt bk ct (sX K aj W q g H)) (gE K aj W q g H σ Z):=by
 cases o with
 |ok a M=>exact h
 |exc x M=>exact λH' g' c dd r I z=>h σ H' g' c dd r I z.fr
 |bad=>exact h
def aY(tg:fV)(f:GF):SF:=λM Z=>(f M Z).then Z λd M'=>match tg d Z with
 |some Z'=>.next Z' M'
 |none=>.bad
theorem Y4{tg:Expr}{js:List Nat}{tf:fV}{f:GF}(he:GE aj X W q e f)(hg:QG aj X tg js tf)(hs:swapsWithSole [tg] e pos.line X.env=pure false)(hw:swappedStores [tg] e X.env=pure none)(h1:(assignEach [tg] X.env).map (·.2)=[assign tg X.env]):SE aj X W q (.Assign [tg] e pos) (aY tf f):=by
 refine PS.weak (ps_asg he hg hs hw h1) λD σ H ⟨g,Z,M,I,z⟩=>?_;refine tE.go I (cY (σ:=σ) z) λd M' v H' g' k r I' rv=>?_;split at k
 ·next Z' e'=>exact⟨g',Z,M',d,Z',I',rv,e',λvs I2=>k _ H' g' r I2⟩
 ·exact asi k
def cG(f:GF):SF:=λM Z=>(f M Z).then Z λ_ M'=>.next Z M'
theorem Ug{f:GF}(he:GE aj X W q e f)(hs:swapsWith e none pos.line X.env=pure false):SE aj X W q (.Expr e pos) (cG f):=by refine PS.weak (ps_expr he hs) λD σ H ⟨g,Z,M,I,z⟩=>?_;exact tE.go I (cY (σ:=σ) z) λd M' v H' g' k r I' rv=>k σ H' g' r I'
end
def Rq:Cell->Cell
 |.mut xs=>.dat (.list xs)
 |c=>c
def sJ(Z:Env):Env:=Z.map λo=>o.map Rq
section
variable{K:aqX}{aj:aQ}{W:WX}{q:Bool}{g:Gh}{H:Hp}{σ:L2.St}{Z:Env}{M:Mo}
theorem jO.less{g':Gh}{l:Addr}(e:g'.tbl=g.tbl)(n:∀a,g'.A a->g.A a):∀{b:Bool} {kvs:List (Dat×Dat)},jO K aj g H l b kvs->jO K aj g' H l b kvs
 |false,_,⟨kv,h1,h2,h3⟩=>⟨kv,h1,h2,h3.less e n⟩
 |true,_,⟨o,xs,vs,h1,h2,h3,h4,h5,h6⟩=>⟨o,xs,vs,h1,h2,h3,h4.less e n,h5,h6.less e n⟩
theorem eE.less{g':Gh}{h:Nat}{f:Str}{v:V}(e:g'.tbl=g.tbl)(e2:g'.ow=g.ow)(n:∀a,g'.A a->g.A a):∀{fl:jy},eE K aj g H h f v fl->eE K aj g' H h f v fl
 |.dat _,z=>Rep.less e n z
 |.lst _ _,⟨l,us,h1,h2,h3,h4,h5⟩=>⟨l,us,h1,h2,by rw[e2];exact h3,h4.less e n,by rw[e];exact h5⟩
 |.dic _ _,⟨l,h1,h2,h3⟩=>⟨l,h1,by rw[e2];exact h2,h3.less e n⟩
theorem cP.less{g':Gh}{h:Nat}(e:g'.tbl=g.tbl)(e2:g'.ow=g.ow)(n:∀a,g'.A a->g.A a):∀{fs:List (Str×V)} {gs:List (Str×jy)},cP K aj g H h fs gs->cP K aj g' H h fs gs
 |_,_,.nil=>.nil
 |_,_,.cons z t=>.cons (eE.less e e2 n z) (cP.less e e2 n t)
theorem fZ.less{g':Gh}(e:g'.tbl=g.tbl)(e2:g'.ow=g.ow)(n:∀a,g'.A a->g.A a)(w:fZ K aj g H M):fZ K aj g' H M where
 len:=by rw[e];exact w.len
 inj:=by rw[e];exact w.inj
 ins:=λh a i ha hi hc=>by
  rw[e]at ha;obtain⟨C,dx,fs,c1,c2,c3⟩:=w.ins h a i ha hi hc;exact⟨C,dx,fs,c1,c2,c3.less e e2 n⟩
 nd:=w.nd
 fd:=w.fd
 tw:=by rw[e,e2];exact w.tw
 dm:=w.dm
 nc:=w.nc
theorem Ov{i:Nat}{c:Cell}(h:(sJ Z)[i]?=some (some c)):∃c',Z[i]?=some (some c')/\c=Rq c':=by
 unfold sJ at h;rw[aq9]at h;cases hr:Z[i]? with
 |none=>rw[hr]at h;cases h
 |some o=>
  rw[hr]at h;cases o with
  |none=>cases h
  |some c'=>
   cases h;exact⟨c',rfl,rfl⟩
theorem SInv.sJ(I:SInv K aj σ H g Z M):SInv K aj σ H g.fr (sJ Z) M where
 kd:=⟨λa z=>I.kd.ob a (wW g a z),λa z=>asi z,λa z=>⟨(I.kd.lc a z).1,λy=>y⟩⟩
 wok:=fZ.less (g:=g) (g':=g.fr) rfl rfl (wW g) I.wok
 len:=by unfold Rf.sJ;rw[ara];exact I.len
 dat:=λi d h=>by
  obtain⟨c,h1,h2⟩:=Ov h;cases c with
  |dat d'=>
   cases h2;obtain⟨v,e1,e2⟩:=I.dat i _ h1;exact⟨v,e1,e2.fr⟩
  | «mut» xs=>
   cases h2;obtain⟨l,us,e1,e2,e3,e4⟩:=I.own i _ h1;refine⟨_,e1,.lst (.inl ⟨.inl e2,λz=>?_⟩) e4.fr⟩;rcases z with z|z|z
   ·exact I.kd.lo l e3 z
   ·exact(I.kd.lc l z).2 e3
   ·exact z
 own:=λi xs h=>by
  obtain⟨c,h1,h2⟩:=Ov h;cases c<;>cases h2
 sep:=λi j xs ys l ne h1=>by
  obtain⟨c,h1,h2⟩:=Ov h1;cases c<;>cases h2
end
section
variable{K:aqX}{aj:aQ}{W:WX}{q:Bool}{g g':Gh}{H H':Hp}{σ:L2.St}{Z:Env}{M:Mo}
theorem Kd.fr(k:Kd g H):Kd g.fr H:=⟨λa z=>k.ob a (wW g a z),λa z=>asi z,λa z=>⟨(k.lc a z).1,λy=>y⟩⟩
theorem fZ.fr(w:fZ K aj g H M):fZ K aj g.fr H M:=fZ.less (g:=g) (g':=g.fr) rfl rfl (wW g) w
theorem bG{α:Type}{l:List (Option α)}{j i:Nat}{c:α}{o:Option α}(h:(l.set j o)[i]?=some (some c)):(j=i/\o=some c/\j < l.length)∨(j≠i/\l[i]?=some (some c)):=by
 by_cases z:j=i
 ·subst z;have hj:j < l.length:=by
   have:=(aqY.mp h).1;rw[ars]at this;exact this
  rw[ari hj]at h;exact .inl ⟨rfl,ark h,hj⟩
 ·rw[aq6 z]at h;exact .inr ⟨z,h⟩
theorem SInv.akX{j:Nat}{l:Addr}{us:List V}{xs:List Dat}(I:SInv K aj σ H g Z M)(n:H l=none)(e:Ex H H')(hl:H' l=some (.lst us))(r:aK K (g.add l) H' us xs):SInv K aj (σ.set j (some (.ref l))) H' (g.add l) (Z.set j (some (.mut xs))) M:=by
 have I1:=I.add n e hl trivial;have nl:∀(i:Nat) (ys:List Dat),Z[i]?=some (some (.mut ys))->σ[i]?≠some (some (.ref l)):=λi ys h z=>by
  obtain⟨l',us',h1,h2,_⟩:=I.own i ys h;rw[z]at h1;cases h1;rw[n]at h2;cases h2
 refine⟨I1.kd,I1.wok,by rw[ars,ars];exact I.len,λi d h=>?_,λi ys h=>?_,λi k ys zs a ne h1 h2 h3 h4=>?_⟩
 ·rcases bG h with⟨_,h,_⟩|⟨ne,h⟩
  ·cases h
  ·rw[aq6 ne];exact I1.dat i d h
 ·rcases bG h with⟨rfl,h,hj⟩|⟨ne,h⟩
  ·cases h;exact⟨l,us,by rw[ari (by rw[I.len];exact hj)],hl,.inr rfl,r⟩
  ·rw[aq6 ne];exact I1.own i ys h
 ·rcases bG h1 with⟨rfl,h1,hj⟩|⟨n1,h1⟩
  ·rcases bG h2 with⟨rfl,h2,_⟩|⟨n2,h2⟩
   ·exact ne rfl
   ·rw[ari (by rw[I.len];exact hj)]at h3;cases h3;rw[aq6 n2]at h4;exact nl k zs h2 h4
  ·rcases bG h2 with⟨rfl,h2,hj⟩|⟨n2,h2⟩
   ·rw[ari (by rw[I.len];exact hj)]at h4;cases h4;rw[aq6 n1]at h3;exact nl i ys h1 h3
   ·rw[aq6 n1]at h3;rw[aq6 n2]at h4;exact I.sep i k ys zs a ne h1 h2 h3 h4
theorem eE.loc{l:Addr}{us us':List V}{h:Nat}{f:Str}{v:V}(k:Kd g H)(hl:H l=some (.lst us))(lo:g.Lo l):∀{fl:jy},eE K aj g H h f v fl->eE K aj g (upd H l (.lst us')) h f v fl:=λ{fl} z=>by
 have r:Gr true g g H (upd H l (.lst us')):=Gr.upd k hl (.inr lo);cases fl with
 |dat d=>exact Rep.gr r k z
 |lst n xs=>
  obtain⟨a,ws,h1,h2,h3,h4,h5⟩:=z;exact⟨a,ws,h1,by rw[upd_ne (λz=>by subst z;exact k.lo _ lo (.inr (by rw[h3];exact λz=>nomatch z)))];exact h2,h3,h4.gr r k,h5⟩
 |dic n kvs=>
  obtain⟨a,h1,h2,h3⟩:=z;have na:a≠l:=λz=>by subst z;exact k.lo _ lo (.inr (by rw[h2];exact λz=>nomatch z))
  refine⟨a,h1,h2,?_⟩;cases n with
  |false=>
   obtain⟨kv,h3,h4,h5⟩:=h3;exact⟨kv,by rw[upd_ne na];exact h3,h4,h5.gr r k⟩
  |true=>
   obtain⟨o,xs,vs,h3,h4,h5,h6,h7,h8⟩:=h3;exact⟨o,xs,vs,by rw[upd_ne na];exact h3,h4,h5,h6.gr r k,h7,h8.gr r k⟩
theorem cP.loc{l:Addr}{us us':List V}{h:Nat}(k:Kd g H)(hl:H l=some (.lst us))(lo:g.Lo l):∀{fs:List (Str×V)} {gs:List (Str×jy)},cP K aj g H h fs gs->cP K aj g (upd H l (.lst us')) h fs gs
 |_,_,.nil=>.nil
 |_,_,.cons z t=>.cons (eE.loc k hl lo z) (cP.loc k hl lo t)
theorem fZ.loc{l:Addr}{us us':List V}(k:Kd g H)(hl:H l=some (.lst us))(lo:g.Lo l)(w:fZ K aj g H M):fZ K aj g (upd H l (.lst us')) M where
 len:=w.len
 inj:=w.inj
 ins:=λh a i ha hi hc=>by
  obtain⟨C,dx,fs,c1,c2,c3⟩:=w.ins h a i ha hi hc;exact⟨C,dx,fs,c1,by rw[upd_ne (λz=>by subst z;exact k.lo _ lo (.inl (aq2 ha)))];exact c2,c3.loc k hl lo⟩
 nd:=w.nd
 fd:=w.fd
 tw:=w.tw
 dm:=w.dm
 nc:=w.nc
theorem SInv.change{j:Nat}{xs ys:List Dat}(I:SInv K aj σ H g Z M)(hj:Z[j]?=some (some (.mut xs))):∃l us,σ[j]?=some (some (.ref l))/\H l=some (.lst us)/\g.Lo l/\aK K g H us xs/\∀us',aK K g H us' ys->SInv K aj σ (upd H l (.lst us')) g (Z.set j (some (.mut ys))) M:=by
 obtain⟨l,us,h1,h2,h3,h4⟩:=I.own j xs hj;refine⟨l,us,h1,h2,h3,h4,λus' r=>?_⟩;have gr:Gr true g g H (upd H l (.lst us')):=Gr.upd I.kd h2 (.inr h3);refine⟨I.kd.upd trivial,I.wok.loc I.kd h2 h3,by rw[ars];exact I.len,λi d h=>?_,λi zs h=>?_,λi k zs ws a ne e1 e2 e3 e4=>?_⟩
 ·rcases bG h with⟨_,h,_⟩|⟨ne,h⟩
  ·cases h
  ·obtain⟨v,e1,e2⟩:=I.dat i d h;exact⟨v,e1,e2.gr gr I.kd⟩
 ·rcases bG h with⟨rfl,h,_⟩|⟨ne,h⟩
  ·cases h;exact⟨l,us',h1,upd_same,h3,r.gr gr I.kd⟩
  ·obtain⟨l',ws,e1,e2,e3,e4⟩:=I.own i zs h;have nl:l'≠l:=λz=>by
    subst z;exact I.sep i j zs xs l' (Ne.symm ne) h hj e1 h1
   exact⟨l',ws,e1,by rw[upd_ne nl];exact e2,e3,e4.gr gr I.kd⟩
 ·have k1:∃xs,Z[i]?=some (some (.mut xs)):=by
   rcases bG e1 with⟨rfl,_,_⟩|⟨_,h⟩
   ·exact⟨xs,hj⟩
   ·exact⟨zs,h⟩
  have k2:∃xs,Z[k]?=some (some (.mut xs)):=by
   rcases bG e2 with⟨rfl,_,_⟩|⟨_,h⟩
   ·exact⟨xs,hj⟩
   ·exact⟨ws,h⟩
  obtain⟨x1,k1⟩:=k1;obtain⟨x2,k2⟩:=k2;exact I.sep i k x1 x2 a ne k1 k2 e3 e4
end
section
variable{X:Cx}{aj:aQ}{W:WX}{q:Bool}{a b e:Expr}{pos:Pos}
def aR(f:QF):SF:=λM Z=>((f M (sJ Z)).at M).then Z λd M'=>.ret d M'
def iJ(f:GF):SF:=λM Z=>(f M Z).then Z λd M'=>.ret d M'
theorem ak0{f:QF}(he:QE aj X W e f):SE aj X W q (.Return (some e) pos) (aR f):=by
 refine PS.weak (ps_ret he) λD σ H ⟨g,Z,M,I,z⟩=>?_;refine⟨g.fr,sJ Z,M,I.sJ,?_⟩;unfold aR at z;cases hf:f M (sJ Z) with
 |ok d=>
  rw[hf]at z;exact λv H' e r=>z v H' g (Gr.ex e) (I.ex e).kd.fr (I.ex e).wok.fr r
 |exc x=>
  rw[hf]at z;exact λH' c dd e r=>z σ H' g c dd (Gr.ex e) (I.ex e) r
 |bad=>rw[hf]at z;exact asi z
theorem ag4{f:GF}(he:GE aj X W q e f):SE aj X W q (.Return (some e) pos) (iJ f):=by refine PS.weak (ps_ret he) λD σ H ⟨g,Z,M,I,z⟩=>?_;exact tE.go I (cY (σ:=σ) z) λd M' v H' g' k r I' rv=>k v H' g' r I'.kd.fr I'.wok.fr rv.fr
def bO(t:QT)(f k:SF):SF:=λM Z=>((t M (sJ Z)).at M).then Z λc M'=>if c=true then f M' Z else k M' Z
def acy(t:GT)(f k:SF):SF:=λM Z=>(t M Z).then Z λc M'=>if c=true then f M' Z else k M' Z
theorem al5{c:Expr}{s1 s2:List Stmt}{t:QT}{f k:SF}(hc:sS aj X W c t)(h1:Ep aj X W q s1 f)(h2:Ep aj X W q s2 k):SE aj X W q (.If c s1 s2 pos) (bO t f k):=by
 refine PS.weak (ps_if hc h1 h2) λD σ H ⟨g,Z,M,I,z⟩=>?_;refine⟨g.fr,sJ Z,M,I.sJ,?_⟩;unfold bO at z;cases hf:t M (sJ Z) with
 |ok d=>
  rw[hf]at z;intro H' e;cases d with
  |true=>exact tS.go (I.ex e) (Gr.ex e) z
  |false=>exact tS.go (I.ex e) (Gr.ex e) z
 |exc x=>
  rw[hf]at z;exact λH' c dd e r=>z σ H' g c dd (Gr.ex e) (I.ex e) r
 |bad=>rw[hf]at z;exact asi z
theorem akh{c:Expr}{s1 s2:List Stmt}{t:GT}{f k:SF}(hc:Fq aj X W q c t)(h1:Ep aj X W q s1 f)(h2:Ep aj X W q s2 k):SE aj X W q (.If c s1 s2 pos) (acy t f k):=by
 refine PS.weak (ps_if hc h1 h2) λD σ H ⟨g,Z,M,I,z⟩=>?_;refine Rv.go I (cY (σ:=σ) z) λb M' H' g' kk r I'=>?_;cases b with
 |true=>exact tS.go I' r kk
 |false=>exact tS.go I' r kk
def fD(tg:fV)(body:SF):List Dat->Mo->Env->vq
 |[],M,Z=>.next Z M
 |d::ds,M,Z=>match tg d Z with
  |none=>.bad
  |some Z1=>match body M Z1 with
   |.next Z2 M2=>fD tg body ds M2 Z2
   |.cont Z2 M2=>fD tg body ds M2 Z2
   |.brk Z2 M2=>.next Z2 M2
   |.ret d M2=>.ret d M2
   |.exc x Z2 M2=>.exc x Z2 M2
   |.bad=>.bad
def qw(it:IF)(tg:fV)(body:SF):SF:=λM Z=>((it M Z).at M).then Z λds M'=>fD tg body ds M' Z
theorem ajV{tg iter:Expr}{body:List Stmt}{it:IF}{js:List Nat}{tf:fV}{f:SF}(hp:PassesOwn (model X.prog X.w) X.A X.env X.xe)(hc:X.calm=true)(hi:QI aj X W true tg iter it)(hg:QG aj X tg js tf)(hb:Ep aj X W q body f)(hs:∀x,foldedSetIterable iter X.env x=pure x) :
  SE aj X W q (.For tg iter body [] pos) (qw it tf f):=by
 refine PS.weak (ps_for hp hc hi hg hb hs) λD σ H ⟨g,Z,M,I,z⟩=>?_;refine⟨g,Z,M,I,?_⟩;unfold qw at z;cases hf:it M Z with
 |exc x=>
  rw[hf]at z;exact λH' c dd e r=>z σ H' g c dd (Gr.ex e) (I.ex e) r.fr
 |bad=>rw[hf]at z;exact asi z
 |ok ds=>
  rw[hf]at z;intro J C H1 e1 w c1 firm;have firm:=firm rfl;have z:(fD tf f ds M Z).sat (sN X.K aj q D.nx g H) (sR X.K aj q D.rt g H) (sN X.K aj q D.bk g H) (sN X.K aj q D.ct g H) (sX X.K aj W q g H):=z
  let Pv:Nat->L2.St->Hp->Prop:=λi σi Hi=>i<=ds.length/\∃gi ρi Mi,Gr q g gi H Hi/\SInv X.K aj σi Hi gi ρi Mi/\C gi Hi/\(fD tf f (ds.drop i) Mi ρi).sat (sN X.K aj q D.nx g H) (sR X.K aj q D.rt g H) (sN X.K aj q D.bk g H) (sN X.K aj q D.ct g H) (sX X.K aj W q g H)
  refine⟨λi m σi Hi=>m=ds.length - i/\Pv i σi Hi,⟨ds.length,rfl,arK _,g,Z,M,Gr.ex e1,I.ex e1,c1,by rw[asf];exact z⟩,?_⟩;rintro i m σi Hi ⟨rfl,hi,gi,ρi,Mi,ri,Ii,Ci,zi⟩;by_cases hlt:i < ds.length
  ·refine .inr ⟨w.go _ i Hi Ci hlt,Pv (i+1),λσ' H' p=>⟨ds.length - (i+1),by omega,rfl,p⟩,λx H' y=>?_⟩;have hd:ds[i]?=some ds[i]:=aq0 hlt;obtain⟨e2,rx⟩:=w.yld _ i Hi x H' _ Ii.kd Ci hd y;rw[arT hlt,fD]at zi;split at zi
   ·exact asi zi
   ·next Z1 he=>
    have I2:=Ii.ex e2;refine⟨gi,ρi,Mi,_,Z1,I2,rx,he,λvs I3=>⟨gi,Z1,Mi,I3,?_⟩⟩;have r2:=ri.trans (Gr.ex e2);cases hb':f Mi Z1 with
    |next Z2 M2=>
     rw[hb']at zi;exact λσ' H2 g2 r I'=>⟨hlt,g2,Z2,M2,r2.trans r,I',firm q gi g2 H' H2 I2.kd (w.ex _ _ _ Ii.kd Ci e2) r,zi⟩
    |cont Z2 M2=>
     rw[hb']at zi;exact λσ' H2 g2 r I'=>⟨hlt,g2,Z2,M2,r2.trans r,I',firm q gi g2 H' H2 I2.kd (w.ex _ _ _ Ii.kd Ci e2) r,zi⟩
    |brk Z2 M2=>
     rw[hb']at zi;exact sN.gr r2 zi
    |ret d M2=>
     rw[hb']at zi;exact sR.gr r2 zi
    |exc x Z2 M2=>
     rw[hb']at zi;exact sX.gr r2 zi
    |bad=>rw[hb']at zi;exact asi zi
  ·have e:i=ds.length:=by omega
   refine .inl ⟨w.stop _ i Hi Ci e,?_⟩;rw[e,arV]at zi;exact zi σi Hi gi ri Ii
def Jv(j:Nat)(f:QF):SF:=λM Z=>match Z[j]? with
 |some (some (.dat (.int i)))=>((f M Z).at M).then Z λd M'=>match d with
  |.int k=>.next (Z.set j (some (.dat (.int (i+k))))) M'
  |_=>.bad
 |_=>.bad
theorem ako{j:Nat}{x:Str}{f:QF}{pos':Pos}(hN:X.N.Nodup)(hi:X.N[j]?=some x)(hx:Loc X.env.scope x)(hf:X.fn x=true∨X.env.scope.names.lookup x=some .local)(he:QE aj X W e f):SE aj X W q (.AugAssign (.Name x pos') .Add e pos) (Jv j f):=by
 refine PS.weak (ps_aug hN hi hx he ip_add hf) λD σ H ⟨g,Z,M,I,z⟩=>?_;unfold Jv at z;split at z
 ·next i hj=>
  obtain⟨v,h1,h2⟩:=I.dat j _ hj;cases h2;refine⟨.int i,h1,⟨g,Z,M,I,?_⟩⟩;cases hf':f M Z with
  |exc x=>rw[hf']at z;exact λH' c dd e r=>z σ H' g c dd (Gr.ex e) (I.ex e) r.fr
  |bad=>rw[hf']at z;exact asi z
  |ok d=>
   rw[hf']at z;intro u H' e r;cases d with
   |int k=>
    cases r;exact⟨i,k,rfl,rfl,z _ H' g (Gr.ex e) ((I.ex e).set (.int _))⟩
   |_=>exact asi z
 ·exact asi z
def FE(aj:aQ)(X:Cx)(W:WX)(e:Expr)(f:IF):Prop:=PE X e (tFr X.K aj W f)
def Jr(j:Nat)(f:IF):SF:=λM Z=>((f M Z).at M).then Z λxs M'=>.next (Z.set j (some (.mut xs))) M'
theorem ac3{j:Nat}{f:IF}(D:Ends)(σ:L2.St)(H:Hp)(h:tS X.K aj W q (Jr j f) D σ H):tAsg (tFr X.K aj W f) (gName j) D σ H:=by
 obtain⟨g,Z,M,I,z⟩:=h;refine⟨g,Z,M,I,?_⟩;unfold Jr at z;cases hf:f M Z with
 |exc x=>rw[hf]at z;exact λH' c dd e r=>z σ H' g c dd (Gr.ex e) (I.ex e) r.fr
 |bad=>rw[hf]at z;exact asi z
 |ok xs=>
  rw[hf]at z;intro l us H' n e hl r;have gr:Gr true g (g.add l) H H':=Gh.Gk n e;refine z _ H' (g.add l) ?_ (I.akX n e hl r);cases q with
  |true=>exact gr
  |false=>exact gr.loud
theorem adg{j:Nat}{x:Str}{f:IF}{pos':Pos}(hN:X.N.Nodup)(hi:X.N[j]?=some x)(hx:Loc X.env.scope x)(hf:X.fn x=true∨X.env.scope.names.lookup x=some .local)(he:FE aj X W e f)(hs:swapsWith e (some (.Name x pos')) pos.line X.env=pure false):SE aj X W q (.Assign [.Name x pos'] e pos) (Jr j f):=
 PS.weak (ps_set hN hi hx he hs hf) λD σ H h=>ac3 D σ H h
def QH(f:QA):IF:=λM Z=>(f M Z).bind λxs=>Out.when (decide (xs.length<=100000)) (.ok xs)
theorem afn{K:aqX}{g:Gh}{H:Hp}{l:Addr}{vs:List V}{ds:List Dat}(k:Kd g H)(n:H l=none)(r:aK K g H vs ds){o:HO}:aK K (g.add l) (upd H l o) vs ds:=r.gr (Gh.Gk n (Ex.new n)) k
theorem akG{es:List Expr}{fr:QA}(h:Hw aj X W es fr):FE aj X W (.List es pos) (QH fr):=
 PE.weak (pe_lst h) λσ H Q ⟨g,Z,M,I,h⟩=>by
  refine N6.go I h.bnd λds vs H1 h1 e1 r1=>?_;obtain⟨hz,h1⟩:=h1.qH;have hl:vs.length<=100000:=by rw[r1.length];exact asl hz
  exact⟨sz_of hl,λp np=>h1 p vs _ (Dk e1 p np) (e1.trans (Ex.new np)) upd_same (afn (I.kd.ex e1) np r1)⟩
def Xw:Dat->Out (List Dat)
 |.list ds=>.ok ds
 |.tuple ds=>.ok ds
 |_=>.bad
def afi(f:QF):IF:=λM Z=>(f M Z).bind Xw
def baseOk:Expr->Bool
 |.Call (.Name _ _) _ _ _=>false
 |_=>true
theorem ni{o:Expr}{m:Str}{env:PySem.Env}{w:Sem Value}(h:baseOk o=true):attributeBase o m env w=w:=by
 cases o with
 | Call f as ks p=>cases f<;>first | rfl | cases h
 |_=>rfl
theorem YS{env:PySem.Env}{pos:Pos}:∀(es:List Expr),es.all nst=true->(backTo pos (starEach es env)).all (λx=>!x.1)=true
 |[],_=>by with_unfolding_all rfl
 |a::es,h=>by
  rw[arJ,aqZ]at h;rw[cU h.1];have ih:=YS (env:=env) (pos:=pos) es h.2;unfold backTo at ih ⊢;rw[aq1,arJ,ih];rfl
theorem few{env:PySem.Env}{pos:Pos}{es:List Expr}(h:es.all nst=true)(hl:es.length < 30):((backTo pos (starEach es env)).all (λx=>!x.1)&&(backToKw pos (keywordEach [] env)).all (λx=>x.1.isSome)&&decide (es.length+([]:List Keyword).length+(if ([]:List Keyword).isEmpty then 0 else 1) < 30))=true:=by
 rw[YS es h];have:(backToKw pos (keywordEach [] env)).all (λx=>x.1.isSome)=true:=by with_unfolding_all rfl
 rw[this];simpa using hl
def Ou(j:Nat)(f:QF):SF:=λM Z=>match Z[j]? with
 |some (some (.mut xs))=>((f M Z).at M).then Z λd M'=>if xs.length < 100000 then .next (Z.set j (some (.mut (xs++[d])))) M' else .bad
 |_=>.bad
theorem aiO{j:Nat}{x:Str}{f:QF}{p apos:Pos}{epos:Pos}(hN:X.N[j]?=some x)(hv:Vis X.env.scope x)(hd:(x==("__debug__" : Str))=false)(hcd:(x==("__classdict__" : Str))=false)(he:QE aj X W e f)(hs:nst e=true)
  (hl:(apos.endLine==pos.line)=true):SE aj X W q (.Expr (.Call (.Attribute (.Name x p) "append" apos) [e] [] pos) epos) (Ou j f):=by
 have h0:=pe_var (X:=X) (pos:=p) hN hv hd hcd;have h1:=pa_cons he pa_nil (cU hs []);have key:=pe_bm (X:=X) (cpos:=pos) (apos:=apos) PySem.F.plainAttrs_list PySem.F.slot_list_append PySem.F.type_list_append mt_append h0 h1 (ni rfl) (few (by simp[hs]) (by simp)) hl (cU hs []) (by with_unfolding_all rfl);refine PS.weak (ps_expr key (by with_unfolding_all rfl)) λD σ H ⟨g,Z,M,I,z⟩=>?_;unfold Ou at z;split at z
 ·next xs hj=>
  obtain⟨l,us,e1,e2,e3,e4⟩:=I.own j xs hj;refine⟨.ref l,e1,.inl ⟨rfl,us,sq_of e2⟩,⟨g,Z,M,I,?_⟩⟩;cases hf:f M Z with
  |exc x=>rw[hf]at z;exact λH' c dd e r=>z σ H' g c dd (Gr.ex e) (I.ex e) r.fr
  |bad=>rw[hf]at z;exact asi z
  |ok d=>
   rw[hf]at z;intro v H' e r;have z:(if xs.length < 100000 then vq.next (Z.set j (some (.mut (xs++[d])))) M else .bad).sat (sN X.K aj q D.nx g H) (sR X.K aj q D.rt g H) (sN X.K aj q D.bk g H) (sN X.K aj q D.ct g H) (sX X.K aj W q g H):=z;split at z
   ·next hlen=>
    have I1:=I.ex e;obtain⟨l',us',f1,f2,f3,f4,f5⟩:=I1.change (ys:=xs++[d]) hj;rw[e1]at f1;cases f1;rw[e _ _ e2]at f2;cases f2;refine⟨l,us,v,rfl,rfl,e _ _ e2,sz_lt (by rw[e4.length];exact hlen),?_⟩;exact z _ _ g ((Gr.ex e).trans (Gr.upd I1.kd (e _ _ e2) (.inr f3))) (f5 _ (f4.append (.cons r .nil)))
   ·exact asi z
 ·exact asi z
def alo(j:Nat)(fi f:QF):SF:=λM Z=>match Z[j]? with
 |some (some (.mut xs))=>((f M Z).at M).then Z λd M'=>((fi M' Z).at M').then Z λi M2=>match i with
  |.int k=>match ixN xs.length k with
   |some n=>.next (Z.set j (some (.mut (xs.set n d)))) M2
   |none=>.bad
  |_=>.bad
 |_=>.bad
end
structure Gc(g g':Gh)(H H':Hp):Prop where
 keep:∀a o,H a=some o->¬g.W a->H' a=some o
 dom:∀a,H' a=none->H a=none
 tbl:∃more,g'.tbl=g.tbl++more
 W:∀a,g.W a->g'.W a
 nW:∀a,g'.W a->g.W a∨H a=none
 Lc:g'.Lc=g.Lc
 Lo:g'.Lo=g.Lo
def Vw(K:aqX)(aj:aQ)(n:Nat)(m:Mo->List Dat->Out Dat):Sp:=λvs H Q E=>vs.length=n/\∃g M ds,Kd g H/\fZ K aj g H M/\aK K g H vs ds/\
 (m M ds).sat (λd=>∀v H',Ex H H'->Rep K g H' v d->Q v H') λx=>∀H' c dd,Ex H H'->qX K aj g H' x c dd->E c dd H'
def JG(K:aqX)(aj:aQ)(n:Nat)(m:Mo->List Dat->bh Dat):Sp:=λvs H Q E=>vs.length=n/\∃g M ds,Kd g H/\fZ K aj g H M/\aK K g H vs ds/\
 (m M ds).sat (λd M'=>∀v H' g',Gc g g' H H'->Kd g' H'->fZ K aj g' H' M'->Rep K g' H' v d->Q v H') λx M'=>∀H' g' c dd,Gc g g' H H'->Kd g' H'->fZ K aj g' H' M'->qX K aj g' H' x c dd->E c dd H'
section
variable{K:aqX}{aj:aQ}{W:WX}{g g':Gh}{H H':Hp}{σ:L2.St}{Z:Env}{M M':Mo}
theorem Gc.gr(r:Gc g g' H H'):Gr false g g' H H':=⟨λa o h n _=>r.keep a o h n,(λz=>nomatch z),r.dom,r.tbl,r.W,r.nW,(λz=>nomatch z),r.Lc,λa h=>by rw[r.Lo];exact h,λa h=>by rw[r.Lo]at h;exact .inl h⟩
theorem SInv.call(r:Gc g g' H H')(k':Kd g' H')(w':fZ K aj g' H' M')(I:SInv K aj σ H g Z M):SInv K aj σ H' g' Z M' where
 kd:=k'
 wok:=w'
 len:=I.len
 dat:=λi d h=>by
  obtain⟨v,h1,h2⟩:=I.dat i d h;exact⟨v,h1,h2.gr r.gr I.kd⟩
 own:=λi xs h=>by
  obtain⟨l,us,h1,h2,h3,h4⟩:=I.own i xs h;exact⟨l,us,h1,r.keep _ _ h2 (I.kd.lo l h3),by rw[r.Lo];exact h3,h4.gr r.gr I.kd⟩
 sep:=I.sep
def Gh.in(g:Gh):Gh:={ g with Lc:=λa=>g.Lc a∨g.Lo a,Lo:=λ_=>False }
theorem Za(g:Gh)(a:Addr):g.in.A a↔g.A a:=by
 constructor
 ·rintro(z|(z|z)|z)
  ·exact .inl z
  ·exact .inr (.inl z)
  ·exact .inr (.inr z)
  ·exact asi z
 ·rintro(z|z|z)
  ·exact .inl z
  ·exact .inr (.inl (.inl z))
  ·exact .inr (.inl (.inr z))
theorem Kd.in(k:Kd g H):Kd g.in H:=⟨λa z=>k.ob a ((Za g a).mp z),λa z=>asi z,λa z=>⟨z.elim (λz=>(k.lc a z).1) (λz=>k.lo a z),λy=>y⟩⟩
def ini(n:Nat)(ds:List Dat):Env:=ds.map (λd=>some (.dat d))++List.replicate (n - ds.length) none
theorem aa0{N:List Str}{vs:List V}{ds:List Dat}(k:Kd g H)(w:fZ K aj g H M)(r:aK K g H vs ds):SInv K aj (start N vs) H g (ini N.length ds) M where
 kd:=k
 wok:=w
 len:=by unfold L2.start ini;rw[arN,arN,ara,ara,List.length_replicate,List.length_replicate,r.length]
 dat:=λi d h=>by
  unfold ini at h;unfold L2.start;by_cases hi:i < ds.length
  ·rw[aq7 (by rw[ara];exact hi),aq9]at h;cases hd:ds[i]? with
   |none=>rw[hd]at h;cases h
   |some d'=>
    rw[hd]at h;cases h;obtain⟨v,h1,h2⟩:=r.get hd;refine⟨v,?_,h2⟩;rw[aq7 (by rw[ara,r.length];exact hi),aq9,h1];rfl
  ·rw[arf (by rw[ara];omega)]at h;rw[List.getElem?_replicate]at h;split at h<;>cases h
 own:=λi xs h=>by
  unfold ini at h;by_cases hi:i < ds.length
  ·rw[aq7 (by rw[ara];exact hi),aq9]at h;cases hd:ds[i]? with
   |none=>rw[hd]at h;cases h
   |some d'=>rw[hd]at h;cases h
  ·rw[arf (by rw[ara];omega)]at h;rw[List.getElem?_replicate]at h;split at h<;>cases h
 sep:=λi j xs ys l ne h=>by
  unfold ini at h;by_cases hi:i < ds.length
  ·rw[aq7 (by rw[ara];exact hi),aq9]at h;cases hd:ds[i]? with
   |none=>rw[hd]at h;cases h
   |some d'=>rw[hd]at h;cases h
  ·rw[arf (by rw[ara];omega)]at h;rw[List.getElem?_replicate]at h;split at h<;>cases h
end
def mQ(n:Nat)(body:SF):Mo->List Dat->Out Dat:=λM ds=>match body M (ini n ds) with
 |.ret d _=>.ok d
 |.next _ _=>.ok .none
 |.exc x _ _=>.exc x
 |_=>.bad
def mG(n:Nat)(body:SF):Mo->List Dat->bh Dat:=λM ds=>match body M (ini n ds) with
 |.ret d M'=>.ok d M'
 |.next _ M'=>.ok .none M'
 |.exc x _ M'=>.exc x M'
 |_=>.bad
section
variable{P:Program}{w:World}{K:aqX}{mg:Str->Option Value}{base:Heap}{aj:aQ}
def afs(E:XK):WX:=λc d _ H=>E c d H
theorem Rep.same{g g':Gh}{H:Hp}{v:V}{d:Dat}(e:g'.tbl=g.tbl)(n:∀a,g'.A a↔g.A a)(h:Rep K g H v d):Rep K g' H v d:=h.less e λa z=>(n a).mp z
theorem ab7{g g':Gh}{H H':Hp}(r:Gr true g.in g' H H'):Ex H H':=λa o h=>by
 by_cases w:g.W a
 ·exact r.keepW rfl a o h w
 ·exact r.keep a o h w λz=>z
theorem ajb{q:Bool}{g g':Gh}{H H':Hp}(r:Gr q g.in g' H H')(a:Addr):g'.fr.A a↔(g'.W a∨g.Lc a∨g.Lo a):=by
 have hl:g'.Lc=g.in.Lc:=r.Lc;constructor
 ·rintro(z|z|z)
  ·exact .inl z
  ·have z:g'.Lc a:=z;rw[hl]at z;exact .inr z
  ·exact asi z
 ·rintro(z|z)
  ·exact .inl z
  ·refine .inr (.inl ?_);show g'.Lc a;rw[hl];exact z
theorem am0{x qual:Str}{st:Stmt}{f:Addr}{fd:FuncData}{N ps:List Str}{k:Nat}{body:SF}(F:Fun K x qual st f fd)(S:FnScope N ps (defScope st))
  (hb:∀(cdv:Value) (A:Around) (outer:List PySem.Env) (s:Shared) (H:Hp) (E:XK),Room k (A.deeper (envOfC qual (defScope st) s.heap.objs.size f cdv))->Ep aj (cxOf (L2.CX P w) P w K mg base N qual (defScope st) f cdv A outer s H E) (afs E) true (defBody st) body) :
  FnOk P w K mg base (L2.CX P w) (k+1) f fd ps (Vw K aj ps.length (mQ N.length body)):=by
 refine F.okX S (λvs H Q E h=>h.1) (λcdv A outer s H vs Q E hr h=>⟨_,hb cdv A outer s H E hr,?_⟩);obtain⟨hl,g,M,ds,kd,wk,rs,h⟩:=h;have wk':fZ K aj g.in H M:=fZ.less (g:=g) (g':=g.in) rfl rfl (λa z=>(Za g a).mp z) wk;refine⟨g.in,ini N.length ds,M,aa0 kd.in wk' (aK.less (g:=g) (g':=g.in) rfl (λa z=>(Za g a).mp z) rs),?_⟩;have back:∀{g':Gh} {H':Hp},Gr true g.in g' H H'->∀a,g.A a↔g'.fr.A a:=λ{g' H'} r a=>by
  rw[ajb r a];have e:=(r.qg rfl);have ew:g'.W a↔g.W a:=by unfold Gh.W;rw[e.1,e.2];rfl
  unfold Gh.A;rw[ew]
 unfold mQ at h;cases hf:body M (ini N.length ds) with
 |next Z' M'=>
  rw[hf]at h;exact λσ' H' g' r I'=>h _ H' (ab7 r) .non
 |ret d M'=>
  rw[hf]at h;exact λv H' g' r k' w' rv=>h v H' (ab7 r) (Rep.same (g:=g'.fr) (g':=g) (r.qg rfl).1.symm (back r) rv)
 |exc x Z' M'=>
  rw[hf]at h;exact λσ' H' g' c dd r I' rx=>h H' c dd (ab7 r) (qX.less (g:=g'.fr) (g':=g) (r.qg rfl).1.symm (λa z=>(back r a).mp z) rx)
 |brk Z' M'=>rw[hf]at h;exact asi h
 |cont Z' M'=>rw[hf]at h;exact asi h
 |bad=>rw[hf]at h;exact asi h
theorem amK{x qual:Str}{st:Stmt}{f:Addr}{fd:FuncData}{N ps:List Str}{k:Nat}{body:SF}(F:Fun K x qual st f fd)(S:FnScope N ps (defScope st))
  (hb:∀(cdv:Value) (A:Around) (outer:List PySem.Env) (s:Shared) (H:Hp) (E:XK),Room k (A.deeper (envOfC qual (defScope st) s.heap.objs.size f cdv))->Ep aj (cxOf (L2.CX P w) P w K mg base N qual (defScope st) f cdv A outer s H E) (afs E) false (defBody st) body) :
  FnOk P w K mg base (L2.CX P w) (k+1) f fd ps (JG K aj ps.length (mG N.length body)):=by
 refine F.okX S (λvs H Q E h=>h.1) (λcdv A outer s H vs Q E hr h=>⟨_,hb cdv A outer s H E hr,?_⟩);obtain⟨hl,g,M,ds,kd,wk,rs,h⟩:=h;have wk':fZ K aj g.in H M:=fZ.less (g:=g) (g':=g.in) rfl rfl (λa z=>(Za g a).mp z) wk;refine⟨g.in,ini N.length ds,M,aa0 kd.in wk' (aK.less (g:=g) (g':=g.in) rfl (λa z=>(Za g a).mp z) rs),?_⟩
 let gb:Gh->Gh:=λg'=>{ tbl:=g'.tbl,ow:=g'.ow,Lc:=g.Lc,Lo:=g.Lo }
 have gc:∀{g':Gh} {H':Hp},Gr false g.in g' H H'->Gc g (gb g') H H':=λ{g' H'} r=>⟨λa o h n=>r.keep a o h n λz=>z,r.dom,r.tbl,r.W,r.nW,rfl,rfl⟩;have eA:∀{g':Gh} {H':Hp},Gr false g.in g' H H'->∀a,(gb g').A a↔g'.fr.A a:=λ{g' H'} r a=>by
  rw[ajb r a];exact Iff.rfl
 have kk:∀{g':Gh} {H':Hp},Gr false g.in g' H H'->Kd g'.fr H'->Kd (gb g') H':=λ{g' H'} r k'=>by
  have nw:∀a,(g.Lc a∨g.Lo a)->¬g'.W a:=λa z y=>by
   have:g'.fr.Lc a:=by show g'.Lc a;rw[show g'.Lc=g.in.Lc from r.Lc];exact z
   exact(k'.lc a this).1 y
  exact⟨λa z=>k'.ob a ((eA r a).mp z),λa z=>nw a (.inr z),λa z=>⟨nw a (.inl z),(kd.lc a z).2⟩⟩
 unfold mG at h;cases hf:body M (ini N.length ds) with
 |next Z' M'=>
  rw[hf]at h;exact λσ' H' g' r I'=>h _ H' (gb g') (gc r) (kk r I'.kd.fr) (fZ.less (g:=g'.fr) (g':=gb g') rfl rfl (λa z=>(eA r a).mp z) I'.wok.fr) .non
 |ret d M'=>
  rw[hf]at h;exact λv H' g' r k' w' rv=>h v H' (gb g') (gc r) (kk r k') (fZ.less (g:=g'.fr) (g':=gb g') rfl rfl (λa z=>(eA r a).mp z) w') (Rep.same (g:=g'.fr) (g':=gb g') rfl (eA r) rv)
 |exc x Z' M'=>
  rw[hf]at h;exact λσ' H' g' c dd r I' rx=>h H' (gb g') c dd (gc r) (kk r I'.kd.fr) (fZ.less (g:=g'.fr) (g':=gb g') rfl rfl (λa z=>(eA r a).mp z) I'.wok.fr) (qX.less (g:=g'.fr) (g':=gb g') rfl (λa z=>(eA r a).mp z) rx)
 |brk Z' M'=>rw[hf]at h;exact asi h
 |cont Z' M'=>rw[hf]at h;exact asi h
 |bad=>rw[hf]at h;exact asi h
end
def aZ(m:Mo->List Dat->Out Dat)(as:QA):QF:=λM Z=>(as M Z).bind λds=>m M ds
section
variable{X:Cx}{aj:aQ}{W:WX}{q:Bool}{a b e:Expr}{es:List Expr}{pos p:Pos}{x:Str}{k:Nat}{f:Addr}{fd:FuncData}{ps:List Str}
theorem ahP{m:Mo->List Dat->Out Dat}{as:QA}(tk:Takes X W)(F:FnOk X.prog X.w X.K X.mg X.base (L2.CX X.prog X.w) k f fd ps (Vw X.K aj ps.length m))(hr:Room k X.A)(hg:Gl X x)(hm:X.mg x=some (.ref f))(hk:PySem.W.keepIn X.K (.ref f)=true)(hb:Binds X.K fd ps [])
  (ha:Hw aj X W (e::es) as) (hl:(e::es).length=ps.length) (hd:(x==("__debug__" : Str))=false) (hs:(e::es).all nst=true) (hn:∀M Z ds,as M Z=.ok ds->ds.length=(e::es).length):QE aj X W (.Call (.Name x p) (e::es) [] pos) (aZ m as):=by
 have hs':=hs;rw[arJ,aqZ]at hs';refine PE.weak (pe_callS (E:=λσ=>WE W σ) F hr hg hm hk hb (λσ=>passAt tk σ) ha hd (cU hs'.1 es) (star_any es hs'.2)) λσ H Q ⟨g,Z,M,I,h⟩=>?_;refine⟨g,Z,M,I,?_⟩;have h:=h.bnd;cases has:as M Z with
 |exc x=>rw[has]at h;exact h
 |bad=>rw[has]at h;exact h
 |ok ds=>
  rw[has]at h;have h:(m M ds).sat (λd=>∀v H',Ex H H'->Rep X.K g H' v d->Q v H') (rG X.K aj W g H σ):=h;intro vs H1 e1 r1;refine⟨by rw[r1.length,hn M Z ds has];exact hl,g,M,ds,I.kd.ex e1,I.wok.ex e1 I.kd,r1,h.mono (λd k v H' e' r'=>k v H' (e1.trans e') r') λx k H' c dd e' r'=>k H' c dd (e1.trans e') r'⟩
end
theorem aeY{n:Nat}(h:n<=16001):n<=sizeLine:=arw h (by decide)
theorem ale{prog:Program}{w:World}{A:Around}{E:Value->Shared->Prop}{s:Shared}{l:Addr}{v0:Value}{vs:List Value}{Q:List Value->Shared->Prop}(hh:A.handled=none)(hl:s.heap.IsList l (v0::vs).toArray∨IsTup s.heap l (v0::vs).toArray)(hz:vs.length<=16000)
  (h:∀(h₂:Heap) (tk:Nat),(∀b o,s.heap.get? b=some o->h₂.get? b=some o)->Q [v0,.ref h₂.objs.size] { s with heap:=h₂.push { cls:=.type "list",data:=.seq vs.toArray },toks:=tk }):wpAny (model prog w) A (unpackItems (.ref l) 2 (some 1)) Q E s:=by
 have hll:l < s.heap.objs.size:=by rcases hl with⟨o,ho,_⟩|⟨o,ho,_⟩<;>exact Heap.lt_size ho
 have hlt:l≠s.heap.objs.size:=arE hll;have hsz:(v0::vs).toArray.size=vs.length+1:=by simp
 have hb:(v0::vs).toArray.size<=sizeLine:=aeY (by rw[hsz];omega);have hd:(v0::vs).toArray.toList.drop 1=vs:=by simp
 have ht:((v0::vs).toArray.toList.drop 0).take 1=[v0]:=by simp
 have fin:∀(h₂:Heap) (tk:Nat),(∀b o,b≠s.heap.objs.size->s.heap.get? b=some o->h₂.get? b=some o)->wpAny (model prog w) A (newList vs >>= λd=>pure ([v0]++[d]++[])) Q E { s with heap:=h₂,toks:=tk }:=λh₂ tk k=>by
  refine wpAny_bind (wpAny_newObj_type (wpAny_pure ?_) (aeY (by simp;omega)));exact h h₂ tk λb o e=>k b o (arE (Heap.lt_size e)) e
 unfold unpackItems;refine wpAny_bind ?_;unfold notIterableAtAll;rcases hl with hl|hl
 ·refine wpAny_bind (wpAny_specialOf hl.typeIs slot_list_iter.lookup (wpAny_pure ?_));simp only[arA,if_false];refine wpAny_bind (wpAny_holding (wpAny_pyIter_list hl ?_));refine wpAny_bind (wpAny_holding (PySem.W.kun_draw hlt 1 0 _ _ ⟨_,Heap.get?_push_size _ rfl,rfl,rfl⟩ (hl.push _) (by rw[hsz];omega) λh₁ i1 b1=>?_));have hl₁:=(hl.push _).extBut b1.extBut hlt;obtain⟨oi,hoi,_⟩:=id i1;obtain⟨ol,hol,_⟩:=id hl₁;rw[ht];refine wpAny_bind (wpAny_holding (PySem.W.kun_collect (s:={ s with heap:=h₁ }) (T:="list_iterator") (.inr (.inr (.inl rfl))) (Walks.list (A:=A.in1) hh s.heap.objs.size l hlt (v0::vs).toArray) (λj u st=>st.1.typeIs) (k:=1) (by rw[hsz];omega) ⟨i1,hl₁⟩ (Heap.lt_size hoi) (Heap.lt_size hol) (λh₂ tk hk=>?_) hb))
  rw[hd];show wpAny _ _ (if vs.length < 0 then _ else newList (vs.take (vs.length - 0)) >>= λd=>pure ([v0]++[d]++vs.drop (vs.length - 0))) _ _ _;rw[if_neg (Nat.not_lt_zero _),Nat.sub_zero,List.take_length,arV];exact fin h₂ tk λb o ne e=>hk b o ne (b1.extBut b o ne (Heap.get?_push_of_some _ e))
 ·refine wpAny_bind (wpAny_specialOf hl.typeIs slot_tuple_iter.lookup (wpAny_pure ?_));simp only[arA,if_false];refine wpAny_bind (wpAny_holding (iter_tuple hl ?_));refine wpAny_bind (wpAny_holding (draw_tuple hlt 1 0 _ _ ⟨_,Heap.get?_push_size _ rfl,rfl,rfl⟩ (hl.push _) (by rw[hsz];omega) λh₁ i1 b1=>?_));have hl₁:IsTup h₁ l (v0::vs).toArray:=(hl.push _).extBut b1.extBut hlt;obtain⟨oi,hoi,_⟩:=id i1;obtain⟨ol,hol,_⟩:=id hl₁;rw[ht];refine wpAny_bind (wpAny_holding (PySem.W.kun_collect (s:={ s with heap:=h₁ }) (T:="tuple_iterator") (.inr (.inr (.inr rfl))) (Walks.tuple (A:=A.in1) hh s.heap.objs.size l hlt (v0::vs).toArray) (λj u st=>st.1.typeIs) (k:=1) (by rw[hsz];omega) ⟨i1,hl₁⟩ (Heap.lt_size hoi) (Heap.lt_size hol) (λh₂ tk hk=>?_) hb))
  rw[hd];show wpAny _ _ (if vs.length < 0 then _ else newList (vs.take (vs.length - 0)) >>= λd=>pure ([v0]++[d]++vs.drop (vs.length - 0))) _ _ _;rw[if_neg (Nat.not_lt_zero _),Nat.sub_zero,List.take_length,arV];exact fin h₂ tk λb o ne e=>hk b o ne (b1.extBut b o ne (Heap.get?_push_of_some _ e))
def ago(K:aqX)(i j:Nat):TG:=λv σ H Q=>∃a v0 us,v=.ref a/\(SqL K H a (v0::us)∨SqT K H a (v0::us))/\us.length<=16000/\∀D,H D=none->Q ((σ.set i (some v0)).set j (some (.ref D))) (upd H D (.lst us))
def Tz(X:Cx)(j:Nat)(x:Str):Prop:=X.N[j]?=some x/\Loc X.env.scope x/\(X.fn x=true∨X.env.scope.names.lookup x=some .local)
theorem ah1{X:Cx}{i j k:Nat}{x y:Str}{px py ps pos:Pos}(hc:X.calm=true)(hN:X.N.Nodup)(hx:Tz X i x)(hy:Tz X j y):PG X (.Tuple [.Name x px,.Starred (.Name y py) ps] k pos) (ago X.K i j):=by
 refine⟨λpins s σ H v u Q I r h=>?_⟩;obtain⟨a,v0,us,rfl,hq,hz,q⟩:=h;cases r;have e1:assign (.Tuple [.Name x px,.Starred (.Name y py) ps] k pos) X.env (.ref a)=(do standAt pos;unpack (.ref a) (assignEach [.Name x px,.Starred (.Name y py) ps] X.env)):=by with_unfolding_all rfl
 have e2:assignEach [.Name x px,.Starred (.Name y py) ps] X.env=[(false,assign (.Name x px) X.env),(true,assign (.Name y py) X.env)]:=by with_unfolding_all rfl
 rw[e1,e2];refine wpAny_bind (wpAny_standAt ?_);unfold unpack;obtain⟨w0,ws,hlw,rv0,rvs⟩:∃w0 ws,(s.heap.IsList a (w0::ws).toArray∨IsTup s.heap a (w0::ws).toArray)/\RelV v0 w0/\Vals us ws:=by
  rcases hq with hq|hq
  ·obtain⟨its,rv,p,_⟩:=I.list hq;cases rv with
   |cons r t=>exact⟨_,_,.inl p.isList,r,t⟩
  ·obtain⟨its,rv,p,_⟩:=I.tuple hq;cases rv with
   |cons r t=>exact⟨_,_,.inr p,r,t⟩
 refine wpAny_bind (wpAny_holding (ale (I.ok.hd hc) hlw (by rw[←rvs.length];exact hz) λh₂ tk hk=>?_));have I2:L2.Inv X pins σ H { s with heap:=h₂,toks:=tk }:=I.kept (t':=tk) hk;have I3:=I2.lnew (t':=tk) rvs (aeY (by omega));refine assignInOrder_cons (wpAny_assign_Name (store_ok I3 hN hx.1 hx.2.1 rv0 (λs4 I4=>?_) hx.2.2));refine assignInOrder_cons (wpAny_assign_Name (store_ok I4 hN hy.1 hy.2.1 (v:=.ref h₂.objs.size) rfl (λs5 I5=>assignInOrder_nil ?_) hy.2.2));exact⟨_,_,I5,q _ I2.fresh⟩
section
variable{X:Cx}{aj:aQ}{W:WX}{q:Bool}{e:Expr}{pos:Pos}
def QX(i j:Nat)(f:GF):SF:=λM Z=>(f M Z).then Z λd M'=>match d with
 |.list (d0::ds)=>if ds.length<=16000 then .next ((Z.set i (some (.dat d0))).set j (some (.dat (.list ds)))) M' else .bad
 |.tuple (d0::ds)=>if ds.length<=16000 then .next ((Z.set i (some (.dat d0))).set j (some (.dat (.list ds)))) M' else .bad
 |_=>.bad
theorem ahA{i j k:Nat}{x y:Str}{px py ps tp:Pos}{f:GF}(hc:X.calm=true)(hN:X.N.Nodup)(hx:Tz X i x)(hy:Tz X j y)(he:GE aj X W q e f)(hs:swapsWithSole [.Tuple [.Name x px,.Starred (.Name y py) ps] k tp] e pos.line X.env=pure false)(hw:swappedStores [.Tuple [.Name x px,.Starred (.Name y py) ps] k tp] e X.env=pure none) :
  SE aj X W q (.Assign [.Tuple [.Name x px,.Starred (.Name y py) ps] k tp] e pos) (QX i j f):=by
 refine PS.weak (ps_asg he (ah1 hc hN hx hy) hs hw (by with_unfolding_all rfl)) λD σ H ⟨g,Z,M,I,z⟩=>?_;refine tE.go I (cY (σ:=σ) z) λd M' v H' g' kk r I' rv=>?_;have fin:∀{a:Addr} {v0:V} {us:List V} {d0:Dat} {ds:List Dat},v=.ref a->(SqL X.K H' a (v0::us)∨SqT X.K H' a (v0::us))->Rep X.K g' H' v0 d0->aK X.K g' H' us ds->(if ds.length<=16000 then vq.next ((Z.set i (some (.dat d0))).set j (some (.dat (.list ds)))) M' else .bad).sat (sN X.K aj q D.nx g H) (sR X.K aj q D.rt g H) (sN X.K aj q D.bk g H) (sN X.K aj q D.ct g H) (sX X.K aj W q g H)->ago X.K i j v σ H' D.nx:=λ{a v0 us d0 ds} ev hq r0 rs kk=>by
  split at kk
  ·next hz=>
   refine⟨a,v0,us,ev,hq,by rw[rs.length];exact hz,λp np=>?_⟩;have e1:=Ex.new (o:=.lst us) np;have I2:=I'.ex e1;refine kk _ _ g' (r.trans (Gr.ex e1)) ((I2.set (r0.ex e1 I'.kd)).set (.lst (.inl ⟨.inl upd_same,I'.kd.fresh np⟩) (rs.ex e1 I'.kd)))
  ·exact asi kk
 split at kk
 ·obtain⟨a,us,ev,s1,t1⟩:=jo rv.weak;cases t1 with
  |cons r0 rs=>exact fin ev (.inl s1) r0 rs kk
 ·obtain⟨a,us,ev,s1,t1⟩:=lY rv.weak;cases t1 with
  |cons r0 rs=>exact fin ev (.inr s1) r0 rs kk
 ·exact asi kk
def Qs(i j:Nat)(f:GF):SF:=λM Z=>(f M Z).then Z λd M'=>.next ((Z.set i (some (.dat d))).set j (some (.dat d))) M'
theorem agU{i j:Nat}{x y:Str}{px py:Pos}{f:GF}(hN:X.N.Nodup)(hx:Tz X i x)(hy:Tz X j y)(he:GE aj X W q e f)(hw:swappedStores [.Name x px,.Name y py] e X.env=pure none):SE aj X W q (.Assign [.Name x px,.Name y py] e pos) (Qs i j f):=by refine PS.weak (ps_asg2 he (pg_name hN hx.1 hx.2.1 hx.2.2) (pg_name hN hy.1 hy.2.1 hy.2.2) (by with_unfolding_all rfl) hw) λD σ H ⟨g,Z,M,I,z⟩=>?_;exact tE.go I (cY (σ:=σ) z) λd M' v H' g' kk r I' rv=>kk _ H' g' r ((I'.set rv).set rv)
def sPN(js:List Nat)(as:QA):SF:=λM Z=>((as M Z).at M).then Z λds M'=>match uW js ds Z with
 |some Z'=>.next Z' M'
 |none=>.bad
theorem aiE{j:Nat}{y:Str}{py:Pos}{elt tg iter:Expr}{cpos:Pos}{scope:Scope}{own:List (Str×Nat)}{it:IF}{tgf:fV}{js:List Nat}{tt:QT}{te:QF}{ifs:List Expr}(hc:X.calm=true)(hN:X.N.Nodup)(hy:X.N[j]?=some y)(hyl:X.env.scope.names.lookup y=some .local)
  (hsw:swapsWith (.ListComp elt [⟨tg,iter,ifs,0⟩] scope cpos) (some (.Name y py)) pos.line X.env=pure true) (hi:QI aj X W false tg iter it) (ok:blkC X.N X.env.scope scope own=true) (hj:∀j∈js,j∈own.map (·.2))
  (hg:∀(s:Shared) (H:Hp) (C:Addr) (cl:List (Str×Addr)) (fp:List Addr),QG aj (X.blk s H scope (compEnvC scope cl C X.env) fp) tg js tgf)
  (ht:∀(s:Shared) (H:Hp) (C:Addr) (cl:List (Str×Addr)) (fp:List Addr),PTs (X.blk s H scope (compEnvC scope cl C X.env) fp) ifs (lJ X.K aj WF tt))
  (he:∀(s:Shared) (H:Hp) (C:Addr) (cl:List (Str×Addr)) (fp:List Addr),QE aj (X.blk s H scope (compEnvC scope cl C X.env) fp) WF elt te) (hs:∀x,foldedSetIterable iter X.env x=pure x) :
  SE aj X W q (.Assign [.Name y py] (.ListComp elt [⟨tg,iter,ifs,0⟩] scope cpos) pos) (aY (aF j) (gOf (fB it tgf (own.map (·.2)) tt te))):=by
 refine PS.weak (ps_setLc (g:=zW X.K aj js tgf) (tt:=lJ X.K aj WF tt) (te:=tQ X.K aj WF te) hc hN hy hyl hsw hi (blkOk_by ok) (λs H C cl fp=>hg s H C cl fp) ht (λs H C cl fp=>he s H C cl fp) hs) λD σ H ⟨g,Z,M,I,z⟩=>?_;refine agk hj σ H _ ⟨g,Z,M,I,(Out.iV (cY (σ:=σ) z)).mono (λd kk v H' e r=>?_) λx kk H' c dd e r=>kk H' g c dd (Gr.ex e) (I.ex e) r⟩;exact kk _ H' g (Gr.ex e) ((I.ex e).set r)
end
inductive GV where
 |con (d:Dat)
 |fq (n:Nat) (m:Mo->List Dat->Out Dat)
 |fg (n:Nat) (m:Mo->List Dat->bh Dat)
 |dic (kvs:List (Str×Dat))
 |exc
 |exi (fs:List Str)
 |cls (n:Nat) (m:Mo->List Dat->bh Dat)
inductive MV where
 |q (n:Nat) (m:Mo->List Dat->Out Dat)
 |g (n:Nat) (m:Mo->List Dat->bh Dat)
def FQ(P:Program)(w:World)(K:aqX)(mg:Str->Option Value)(base:Heap)(aj:aQ)(k:Nat)(f:Addr)(n:Nat)(m:Mo->List Dat->Out Dat):Prop:=
 ∃(fd:FuncData) (ps:List Str) (j:Nat),j<=k/\ps.length=n/\Binds K fd ps []/\FnOk P w K mg base (L2.CX P w) j f fd ps (Vw K aj ps.length m)
def FG(P:Program)(w:World)(K:aqX)(mg:Str->Option Value)(base:Heap)(aj:aQ)(k:Nat)(f:Addr)(n:Nat)(m:Mo->List Dat->bh Dat):Prop:=
 ∃(fd:FuncData) (ps:List Str) (j:Nat),j<=k/\ps.length=n/\Binds K fd ps []/\FnOk P w K mg base (L2.CX P w) j f fd ps (JG K aj ps.length m)
def jF(K:aqX)(aj:aQ):Prop:=∀c C f,aj c=some C->f∈aj.fl c->Cls K C/\NoAttr K C f
def bZ(P:Program)(w:World)(K:aqX)(mg:Str->Option Value)(base:Heap)(aj:aQ)(k:Nat)(c m:Str)(v:MV):Prop:=
 ∃C f,aj c=some C/\Cls K C/\Meth K C m f/\m∉aj.fl c/\match v with
  |.q n mm=>FQ P w K mg base aj k f n mm
  |.g n mm=>FG P w K mg base aj k f n mm
def af3(C:Addr)(fs:List Str):Sp:=λvs H Q _=>∃(a:Addr) (xs:List V),vs=.ref a::xs/\xs.length=fs.length/\H a=some (exo a C none)/\
 ∀(dx:Addr) (H':Hp),H dx=none->(∀b o,b≠a->H b=some o->H' b=some o)->(∀b,H' b=none->H b=none)->H' a=some (exo a C (some dx))->H' dx=some (exd dx (fs.zip xs).reverse)->Q .non H'
def abZ(w:World)(K:aqX)(a:Addr)(kvs:List (Str×Dat)):Prop:=∃(es:Array DictEntry) (n:Nat),KDict K w a es n/\(kvs.map (·.1)).Nodup/\
 ∀x:Str,match kvs.lookup x with
  |some d=>∃v u,PySem.W.nsIn K a x=some (some u)/\RelV v u/\∀g H,Rep K g H v d
  |none=>PySem.W.nsIn K a x=some none
def bA(P:Program)(w:World)(K:aqX)(mg:Str->Option Value)(base:Heap)(aj:aQ)(k:Nat)(x:Str):GV->Prop
 |.con d=>∃v u,mg x=some u/\RelV v u/\∀g H,Rep K g H v d
 |.fq n m=>∃f,mg x=some (.ref f)/\PySem.W.keepIn K (.ref f)=true/\FQ P w K mg base aj k f n m
 |.fg n m=>∃f,mg x=some (.ref f)/\PySem.W.keepIn K (.ref f)=true/\FG P w K mg base aj k f n m
 |.dic kvs=>∃a,mg x=some (.ref a)/\abZ w K a kvs
 |.exc=>∃C,mg x=some (.ref C)/\aj x=some C/\PySem.W.excIn K C He.veBase "ValueError.__new__"=true/\PySem.W.keepIn K (.ref C)=true/\PySem.W.subIn K (.ref C) (.type "BaseException")=some true/\PySem.W.typeIn K (.ref C)=some (.type "type")
 |.exi fs=>∃(C fI:Addr) (fd:FuncData) (ps:List Str),mg x=some (.ref C)/\aj x=some C/\OexC K C/\PySem.W.findIn K (.ref C) "__init__"=some (some (.ref fI))/\PySem.W.typeIn K (.ref fI)=some (.type "function")/\2<=k/\ps.length=fs.length+1/\Binds K fd ps []/\FnOk P w K mg base CX0 1 fI fd ps (af3 C fs)
 |.cls n m=>∃(C f:Addr) (fd:FuncData) (ps:List Str) (j:Nat),mg x=some (.ref C)/\aj x=some C/\Cls K C/\Mk K C f/\j+1<=k/\ps.length=n+1/\Binds K fd ps []/\FnOk P w K mg base (L2.CX P w) j f fd ps (JG K aj ps.length m)
def ab3(K:aqX)(aj:aQ)(y:Str)(tk:Str->Option Bool):Prop:=∀x b C,tk x=some b->aj x=some C->∀D,aj y=some D->PySem.W.exmOne K (.ref C) (.ref D)=some b
def putL(f:Str)(x:jy):List (Str×jy)->List (Str×jy)
 |[]=>[(f,x)]
 |(g,y)::r=>if g=f then(g,x)::r else(g,y)::putL f x r
def Inst.put(i:Inst)(f:Str)(x:jy):Inst:=⟨i.cls,putL f x i.fs⟩
theorem IW(f:Str)(x:jy):∀gs:List (Str×jy),(putL f x gs).map (·.1)=if f∈gs.map (·.1) then gs.map (·.1) else gs.map (·.1)++[f]
 |[]=>by simp[putL]
 |(g,y)::r=>by
  have ih:=IW f x r;rw[putL];by_cases e:g=f
  ·subst e;simp
  ·rw[if_neg e,aq1,ih];by_cases h:f∈r.map (·.1)
   ·rw[if_pos h,if_pos (by simp[h])];rfl
   ·rw[if_neg h,if_neg (by
     rw[aq1,arh]
     rintro(z|z)
     ·exact e z.symm
     ·exact h z)]
    rfl
theorem acD{f:Str}{x:jy}{gs:List (Str×jy)}(h:(gs.map (·.1)).Nodup):((putL f x gs).map (·.1)).Nodup:=by
 rw[IW];split
 ·exact h
 ·next n=>
  rw[arQ];refine⟨h,by simp,λa ha b hb e=>?_⟩;subst e;rw[aq5]at hb;subst hb;exact n ha
theorem Mg{f:Str}{v:V}:∀{fs:List (Str×V)},fs.lookup f=some v->putF f v fs=fs
 |[],h=>nomatch h
 |(g,y)::r,h=>by
  rw[aru]at h;rw[show putF f v ((g,y)::r)=(if g=f then(g,v)::r else(g,y)::putF f v r) from rfl];by_cases e:g=f
  ·subst e;simp at h;rw[if_pos rfl,h]
  ·have ne:(f==g)=false:=by simpa using λz=>e z.symm
   rw[ne]at h;rw[if_neg e,Mg h]
section
variable{K:aqX}{aj:aQ}{W:WX}{g g':Gh}{H H':Hp}{σ:L2.St}{Z:Env}{M:Mo}{h:Nat}{f:Str}{v:V}{fl:jy}
theorem cP.put(hk:∀f' v' fl',f'≠f->eE K aj g H h f' v' fl'->eE K aj g' H' h f' v' fl')(new:eE K aj g' H' h f v fl):∀{fs:List (Str×V)} {gs:List (Str×jy)},cP K aj g H h fs gs->(gs.map (·.1)).Nodup->cP K aj g' H' h (putF f v fs) (putL f fl gs)
 |_,_,.nil,_=>.cons new .nil
 |_,_,.cons (f:=f') (v:=v') (fl:=fl') (fs:=fs) (gs:=gs) z t,nd=>by
  rw[show putF f v ((f',v')::fs)=(if f'=f then(f',v)::fs else(f',v')::putF f v fs) from rfl,putL];rw[aq1,ar9]at nd;by_cases e:f'=f
  ·subst e;rw[if_pos rfl,if_pos rfl];refine .cons new ?_;have go:∀{fs:List (Str×V)} {gs:List (Str×jy)},cP K aj g H h fs gs->f'∉gs.map (·.1)->cP K aj g' H' h fs gs:=λ{fs gs} t=>by
    induction t with
    |nil=>exact λ_=>.nil
    |cons z _ ih=>
     intro n;rw[aq1,arh,not_or]at n;exact .cons (hk _ _ _ (λq=>n.1 q.symm) z) (ih n.2)
   exact go t nd.1
  ·rw[if_neg e,if_neg e];exact .cons (hk _ _ _ e z) (cP.put hk new t nd.2)
structure Chg(M:Mo)(g g':Gh)(H H':Hp)(h:Nat)(f:Str):Prop where
 gc:Gc g g' H H'
 kd:Kd g' H'
 tbl:g'.tbl=g.tbl
 ow:∀a p,g.ow a=some p->g'.ow a=some p
 oth:∀a p,g.ow a=some p->p≠(h,f)->H' a=H a
 ins:∀(k:Nat) (a:Addr) (i:Inst),g.tbl[k]?=some a->M[k]?=some i->i.cls≠""->k≠h->H' a=H a
 nt:∀(k:Nat) (a:Addr) (i:Inst),g.tbl[k]?=some a->M[k]?=some i->i.cls≠""->∀p,g'.ow a≠some p
theorem jO.chg{l:Addr}(r:Gr false g g' H H')(k:Kd g H)(e:H' l=H l):∀{n:Bool} {kvs:List (Dat×Dat)},jO K aj g H l n kvs->jO K aj g' H' l n kvs
 |false,_,⟨kv,h1,h2,h3⟩=>⟨kv,e.trans h1,h2,h3.gr r k⟩
 |true,_,⟨o,xs,vs,h1,h2,h3,h4,h5,h6⟩=>⟨o,xs,vs,e.trans h1,h2,h3,h4.gr r k,h5,h6.gr r k⟩
theorem eE.chg(c:Chg M g g' H H' h f)(k:Kd g H){h':Nat}{f':Str}{v':V}(ne:(h',f')≠(h,f)):∀{fl':jy},eE K aj g H h' f' v' fl'->eE K aj g' H' h' f' v' fl'
 |.dat _,z=>Rep.gr c.gc.gr k z
 |.lst _ _,⟨l,us,h1,h2,h3,h4,h5⟩=>⟨l,us,h1,(c.oth l _ h3 ne).trans h2,c.ow l _ h3,h4.gr c.gc.gr k,c.gc.gr.tb h5⟩
 |.dic _ _,⟨l,h1,h2,h3⟩=>⟨l,h1,c.ow l _ h2,h3.chg c.gc.gr k (c.oth l _ h2 ne)⟩
theorem fZ.chg(w:fZ K aj g H M)(k:Kd g H)(c:Chg M g g' H H' h f){a:Addr}{i:Inst}(ha:g.tbl[h]?=some a)(hi:M[h]?=some i)(hne:i.cls≠"")(hf:f∈aj.fl i.cls){C dx:Addr}{fs:List (Str×V)}(hC:aj i.cls=some C)(R:cP K aj g H h fs i.fs)
  (e':H' a=some (.ins C dx (putF f v fs))) (new:eE K aj g' H' h f v fl):fZ K aj g' H' (M.set h (i.put f fl)) where
 len:=by rw[c.tbl,ars];exact w.len
 inj:=by rw[c.tbl];exact w.inj
 ins:=λh' a' i' ha' hi' hc'=>by
  rw[c.tbl]at ha';by_cases z:h'=h
  ·subst z;rw[ha]at ha';cases ha';rw[ari (aqY.mp hi).1]at hi';cases hi';exact⟨C,dx,_,hC,e',R.put (λf' v' fl' ne z=>z.chg c k λq=>ne (congrArg Prod.snd q)) new (w.nd _ i hi)⟩
  ·rw[aq6 (Ne.symm z)]at hi';obtain⟨C',dx',fs',c1,c2,c3⟩:=w.ins h' a' i' ha' hi' hc';refine⟨C',dx',fs',c1,(c.ins h' a' i' ha' hi' hc' z).trans c2,?_⟩;have go:∀{fs:List (Str×V)} {gs:List (Str×jy)},cP K aj g H h' fs gs->cP K aj g' H' h' fs gs:=λ{fs gs} t=>by
    induction t with
    |nil=>exact .nil
    |cons y _ ih=>exact .cons (y.chg c k λq=>z (congrArg Prod.fst q)) ih
   exact go c3
 nd:=λh' i' hi'=>by
  by_cases z:h'=h
  ·subst z;rw[ari (aqY.mp hi).1]at hi';cases hi';exact acD (w.nd _ i hi)
  ·rw[aq6 (Ne.symm z)]at hi';exact w.nd h' i' hi'
 fd:=λh' i' hi' f' hf'=>by
  by_cases z:h'=h
  ·subst z;rw[ari (aqY.mp hi).1]at hi';cases hi';have hf':f'∈(putL f fl i.fs).map (·.1):=hf';rw[IW]at hf';split at hf'
   ·exact w.fd _ i hi f' hf'
   ·rcases aq8.mp hf' with y|y
    ·exact w.fd _ i hi f' y
    ·rw[aq5]at y;rw[y];exact hf
  ·rw[aq6 (Ne.symm z)]at hi';exact w.fd h' i' hi' f' hf'
 tw:=λk' a' i' ha' hi' hc'=>by
  rw[c.tbl]at ha';have:∃i0,M[k']?=some i0/\i0.cls≠"":=by
   by_cases z:k'=h
   ·subst z;exact⟨i,hi,hne⟩
   ·rw[aq6 (Ne.symm z)]at hi';exact⟨i',hi',hc'⟩
  obtain⟨i0,m1,m2⟩:=this;cases hz:g'.ow a' with
  |none=>rfl
  |some p=>exact absurd hz (c.nt k' a' i0 ha' m1 m2 p)
 dm:=λh' i' hi' hc'=>by
  by_cases z:h'=h
  ·subst z;rw[ari (aqY.mp hi).1]at hi';cases hi';exact absurd hc' hne
  ·rw[aq6 (Ne.symm z)]at hi';exact w.dm h' i' hi' hc'
 nc:=w.nc
theorem amc{a:Addr}(ha:g.tbl[h]?=some a):g.W a:=.inl (aq2 ha)
theorem S8(k:Kd g H)(w:fZ K aj g H M){a:Addr}{i:Inst}(ha:g.tbl[h]?=some a)(hi:M[h]?=some i)(hc:i.cls≠""){C dx:Addr}{fs':List (Str×V)}:Chg M g g H (upd H a (.ins C dx fs')) h f where
 gc:=⟨λb o hb n=>by rw[upd_ne (λz=>by subst z;exact n (amc ha))];exact hb,λb hb=>by
  by_cases z:b=a
  ·subst z;rw[upd_same]at hb;cases hb
  ·rw[upd_ne z]at hb;exact hb,⟨[],by simp⟩,λ_ z=>z,λ_ z=>.inl z,rfl,rfl⟩
 kd:=k.upd trivial
 tbl:=rfl
 ow:=λ_ _ z=>z
 oth:=λb p hb _=>upd_ne λz=>by
  subst z;rw[w.tw h _ i ha hi hc]at hb;cases hb
 ins:=λj b i' hb _ _ ne=>upd_ne λz=>by
  subst z;exact ne (w.inj _ _ _ hb ha)
 nt:=λj b i' hb hj hcj p z=>by
  rw[w.tw j b i' hb hj hcj]at z;cases z
def Gh.own(g:Gh)(l:Addr)(h:Nat)(f:Str):Gh:={ g with ow:=λb=>if b=l then some (h,f) else g.ow b }
theorem aln{l a:Addr}(hl:l∈g.tbl):(g.own l h f).W a↔g.W a:=by
 constructor
 ·rintro(z|z)
  ·exact .inl z
  ·by_cases y:a=l
   ·subst y;exact .inl hl
   ·have z:(if a=l then some (h,f) else g.ow a)≠none:=z;rw[if_neg y]at z;exact .inr z
 ·rintro(z|z)
  ·exact .inl z
  ·refine .inr ?_
   show(if a=l then some (h,f) else g.ow a)≠none
   split
   ·exact λq=>nomatch q
   ·exact z
theorem Tj(k:Kd g H)(w:fZ K aj g H M){a l:Addr}{n:Nat}{i:Inst}(ha:g.tbl[h]?=some a)(hi:M[h]?=some i)(hc:i.cls≠"")(hl:g.tbl[n]?=some l)(hn:M[n]?=some ⟨"",[]⟩)(nl:g.ow l=none){C dx:Addr}{fs':List (Str×V)}:Chg M g (g.own l h f) H (upd H a (.ins C dx fs')) h f:=by
 have W':∀{b:Addr},(g.own l h f).W b↔g.W b:=λ{b}=>aln (aq2 hl);have d:=S8 (f:=f) (C:=C) (dx:=dx) (fs':=fs') k w ha hi hc;refine⟨⟨d.gc.keep,d.gc.dom,⟨[],by simp[Gh.own]⟩,λb z=>W'.mpr z,λb z=>.inl (W'.mp z),rfl,rfl⟩,⟨λb z=>d.kd.ob b ?_,λb z y=>d.kd.lo b z (W'.mp y),λb z=>⟨λy=>(d.kd.lc b z).1 (W'.mp y),(d.kd.lc b z).2⟩⟩,rfl,λb p z=>?_,d.oth,d.ins,λj b i' hb hj hcj p z=>?_⟩
 ·rcases z with z|z|z
  ·exact .inl (W'.mp z)
  ·exact .inr (.inl z)
  ·exact .inr (.inr z)
 ·show(if b=l then some (h,f) else g.ow b)=some p
  rw[if_neg (λy=>by subst y;rw[nl]at z;cases z)];exact z
 ·have z:(if b=l then some (h,f) else g.ow b)=some p:=z;by_cases y:b=l
  ·subst y;cases w.inj _ _ _ hb hl;rw[hn]at hj;cases hj;exact hcj rfl
  ·rw[if_neg y,w.tw j b i' hb hj hcj]at z;cases z
theorem aeh(k:Kd g H)(w:fZ K aj g H M){l:Addr}{o':HO}(ho:g.ow l=some (h,f))(mo:Jk o'):Chg M g g H (upd H l o') h f where
 gc:=⟨λb u hb n=>by rw[upd_ne (λz=>by subst z;exact n (.inr (by rw[ho];exact λy=>nomatch y)))];exact hb,λb hb=>by
  by_cases z:b=l
  ·subst z;rw[upd_same]at hb;cases hb
  ·rw[upd_ne z]at hb;exact hb,⟨[],by simp⟩,λ_ z=>z,λ_ z=>.inl z,rfl,rfl⟩
 kd:=k.upd mo
 tbl:=rfl
 ow:=λ_ _ z=>z
 oth:=λb p hb ne=>upd_ne λz=>by
  subst z;rw[ho]at hb;exact ne (ark hb).symm
 ins:=λj b i' hb hj hcj ne=>upd_ne λz=>by
  subst z;rw[w.tw j _ i' hb hj hcj]at ho;cases ho
 nt:=λj b i' hb hj hcj p z=>by
  rw[w.tw j b i' hb hj hcj]at z;cases z
theorem cP.len{fs:List (Str×V)}{gs:List (Str×jy)}(t:cP K aj g H h fs gs):fs.length=gs.length:=by
 induction t with
 |nil=>rfl
 |cons _ _ ih=>simp[ih]
end
def K6(M:Mo)(f:Str):Dat->Option jy
 |.dict [(.none,.int (.ofNat h))]=>(M[h]?).bind λi=>i.fs.lookup f
 |_=>none
def gY(f:Str)(o:QF):QF:=λM Z=>(o M Z).bind λd=>match K6 M f d with
 |some (.dat x)=>.ok x
 |_=>.bad
def bH(f:Str)(o:QF):QF:=λM Z=>(o M Z).bind λd=>match K6 M f d with
 |some (.dat x)=>.ok x
 |some (.lst _ xs)=>.ok (.list xs)
 |_=>.bad
theorem aem{M:Mo}{f:Str}{d:Dat}{fl:jy}(h:K6 M f d=some fl):∃n i,d=obj n/\M[n]?=some i/\i.fs.lookup f=some fl:=by
 unfold K6 at h;split at h
 ·next n=>
  obtain⟨i,h1,h2⟩:=aqW.mp h;exact⟨n,i,rfl,h1,h2⟩
 ·cases h
theorem lookup_mem{f:Str}{fl:jy}:∀{gs:List (Str×jy)},gs.lookup f=some fl->f∈gs.map (·.1)
 |[],h=>nomatch h
 |(g,y)::r,h=>by
  rw[aru]at h;cases hb:f==g with
  |true=>rw[eq_of_beq hb];simp
  |false=>
   rw[hb]at h;exact aq3 _ (lookup_mem h)
section
variable{K:aqX}{aj:aQ}{g:Gh}{H:Hp}{M:Mo}
theorem Zt(co:jF K aj)(w:fZ K aj g H M){f:Str}{d:Dat}{fl:jy}{v:V}(h:K6 M f d=some fl)(r:eU K g H v d):∃n i a C dx fs u,d=obj n/\M[n]?=some i/\i.fs.lookup f=some fl/\g.tbl[n]?=some a/\v=.ref a/\aj i.cls=some C/\H a=some (.ins C dx fs)/\cP K aj g H n fs i.fs/\Cls K C/\NoAttr K C f/\fs.lookup f=some u/\eE K aj g H n f u fl:=by
 obtain⟨n,i,rfl,h1,h2⟩:=aem h;obtain⟨a,rfl,ha⟩:=La r;have hc:i.cls≠"":=λz=>by
  rw[w.dm n i h1 z]at h2;cases h2
 obtain⟨C,dx,fs,c1,c2,c3⟩:=w.ins n a i ha h1 hc;obtain⟨u,l1,l2⟩:=c3.get h2;obtain⟨k1,k2⟩:=co i.cls C f c1 (w.fd n i h1 f (lookup_mem h2));exact⟨n,i,a,C,dx,fs,u,rfl,h1,h2,ha,rfl,c1,c2,c3,k1,k2,l1,l2⟩
end
section
variable{X:Cx}{aj:aQ}{W:WX}{o e:Expr}{es:List Expr}{fo:QF}{f m:Str}{pos apos:Pos}
theorem aiX(co:jF X.K aj)(ho:QW aj X W o fo)(hb:baseOk o=true):QE aj X W (.Attribute o f pos) (gY f fo):=
 PE.weak (pe_fld ho (ni hb)) λσ H Q ⟨g,Z,M,I,h⟩=>by
  refine tW.go I h.bnd λd v H1 h1 e1 r1=>?_;split at h1
  ·next x hx=>
   obtain⟨n,i,a,C,dx,fs,u,_,_,_,_,rfl,_,c2,_,k1,k2,l1,l2⟩:=Zt co (I.ex e1).wok hx r1;exact⟨a,C,dx,fs,u,rfl,c2,k1,k2,l1,h1 u H1 e1 l2⟩
  ·exact asi h1
theorem akg(co:jF X.K aj)(ho:QW aj X W o fo)(hb:baseOk o=true):QW aj X W (.Attribute o f pos) (bH f fo):=
 PE.weak (pe_fld ho (ni hb)) λσ H Q ⟨g,Z,M,I,h⟩=>by
  refine tW.go I h.bnd λd v H1 h1 e1 r1=>?_;split at h1
  ·next x hx=>
   obtain⟨n,i,a,C,dx,fs,u,_,_,_,_,rfl,_,c2,_,k1,k2,l1,l2⟩:=Zt co (I.ex e1).wok hx r1;exact⟨a,C,dx,fs,u,rfl,c2,k1,k2,l1,h1 u H1 e1 (Rep.weak l2)⟩
  ·next xs hx=>
   obtain⟨n,i,a,C,dx,fs,u,_,_,_,_,rfl,_,c2,_,k1,k2,l1,l,us,rfl,s1,s2,s3,_⟩:=Zt co (I.ex e1).wok hx r1;exact⟨a,C,dx,fs,_,rfl,c2,k1,k2,l1,h1 _ H1 e1 ⟨l,us,rfl,sq_of s1,s3⟩⟩
  ·exact asi h1
def Qv(X:Cx)(W:WX)(m:Str)(ta:TE)(t:TA):TE:=λσ H Q=>ta σ H λx H1=>∃(a C dx:Addr) (fs:List (Str×V)) (f:Addr) (fd:FuncData) (ps:List Str) (sp:Sp) (k:Nat),x=.ref a/\H1 a=some (.ins C dx fs)/\fs.lookup m=none/\Cls X.K C/\Meth X.K C m f/\Room k X.A/\Binds X.K fd ps []/\
 FnOk X.prog X.w X.K X.mg X.base (L2.CX X.prog X.w) k f fd ps sp/\t σ H1 λvs H2=>sp (x::vs) H2 Q (WE W σ)
theorem Vk{M:Model}{A:Around}{E:Value->Shared->Prop}{s:Shared}{env:PySem.Env}{args:List Expr}{Q:Value->Shared->Prop}(hbase:baseOk o=true)(hs:args.all nst=true)(hz:args.length < 30)(hl:(apos.endLine==pos.line)=true)
  (h:wpAny M A (eval o env) (λov s₁=>∀pl:Sem Bool,wpAny M A (getMethod ov m pl) (λfx s₂=>wpAny M A (callWith pos fx.1 fx.2 (backTo pos (starEach args env)) (backToKw pos (keywordEach [] env))) Q E s₂) E s₁) E s) :
  wpAny M A (eval (.Call (.Attribute o m apos) args [] pos) env) Q E s:=by
 have hform:methodCallForm (args.length+([]:List Keyword).length) (backTo pos (starEach args env)) (backToKw pos (keywordEach [] env))=true:=few hs hz;have hpos:methodCallPos true o env apos pos=pure pos:=by unfold methodCallPos;simp[hl]
 rw[arm_eval_Call,ni hbase];refine wpAny_bind (wpAny_mono h (λov s₁ h₁=>?_) λ_ _ e=>e);refine wpAny_bind (wpAny_standAt ?_);unfold methodCall;rw[hform];refine wpAny_bind (wpAny_holding ?_);refine wpAny_mono (h₁ _) (λfx s₂ h₂=>?_) λ_ _ e=>e;exact wpAny_bind (wpAny_of_eq hpos h₂)
theorem Yj{ta:TE}{t:TA}(tk:Takes X W)(ho:PE X o ta)(ha:PA X (e::es) t)(hb:baseOk o=true)(hs:(e::es).all nst=true)(hl:(apos.endLine==pos.line)=true)(hz:(e::es).length < 30):PE X (.Call (.Attribute o m apos) (e::es) [] pos) (Qv X W m ta t):=by have hs':=hs;rw[arJ,aqZ]at hs';refine⟨λpins s σ H Q I h=>?_⟩;refine Vk hb hs hz hl (thn (ho.run pins s σ H _ I h) λu s1 ⟨x,G,J,rx,a,C,dx,fs,f,fd,ps,sp,k,ex,ea,l,c,hm,hr,hB,F,q⟩ pl=>?_);subst ex;cases rx;refine getmeth_ok J ea c hm l ?_;refine PySem.W.callWith_K (first:=[.ref a]) (h₀:=X.base) I.ok.mod.kin hm.kp (thn (ha.run pos pins s1 σ G _ J q) λus s2 ⟨vs,G2,J2,r,q2⟩=>⟨J2.kIn,?_⟩) (cU hs'.1 es) (star_any es hs'.2);exact run_fnS (us:=.ref a::us) (vs:=.ref a::vs) F hr hB (passAt tk σ) J2 (.cons rfl r) q2
theorem V3{ta:TE}(tk:Takes X W)(ho:PE X o ta)(hb:baseOk o=true)(hl:(apos.endLine==pos.line)=true):PE X (.Call (.Attribute o m apos) [] [] pos) (Qv X W m ta tNil):=by refine⟨λpins s σ H Q I h=>?_⟩;refine Vk hb rfl (by decide) hl (thn (ho.run pins s σ H _ I h) λu s1 ⟨x,G,J,rx,a,C,dx,fs,f,fd,ps,sp,k,ex,ea,l,c,hm,hr,hB,F,q⟩ pl=>?_);subst ex;cases rx;refine getmeth_ok J ea c hm l ?_;exact PySem.W.callWith_K0 (first:=[.ref a]) J.kIn hm.kp (run_fnS (us:=[.ref a]) (vs:=[.ref a]) F hr hB (passAt tk σ) J (.cons rfl .nil) q)
def Es(tb:List (Str×MV))(M:Mo):Dat->Option MV
 |.dict [(.none,.int (.ofNat h))]=>(M[h]?).bind λi=>tb.lookup i.cls
 |_=>none
def aP(tb:List (Str×MV))(o:QF)(as:QA):QF:=λM Z=>(o M Z).bind λd=>match Es tb M d with
 |some (.q _ m)=>(as M Z).bind λds=>m M (d::ds)
 |_=>.bad
def cQ(tb:List (Str×MV))(o:QF)(as:QA):GF:=λM Z=>((o M Z).at M).bind λd _=>match Es tb M d with
 |some (.q _ m)=>((as M Z).at M).bind λds _=>(m M (d::ds)).at M
 |some (.g _ m)=>((as M Z).at M).bind λds _=>m M (d::ds)
 |none=>.bad
def Ji(X:Cx)(aj:aQ)(k:Nat)(m:Str)(n:Nat)(tb:List (Str×MV)):Prop:=∀c v,tb.lookup c=some v->bZ X.prog X.w X.K X.mg X.base aj k c m v/\match v with
  |.q j _=>j=n
  |.g j _=>j=n
theorem Ji.cls{k n:Nat}{tb:List (Str×MV)}(T:Ji X aj k m n tb):∀c v,tb.lookup c=some v->aj c≠none:=λc v h z=>by
 obtain⟨⟨C,f,c1,_⟩,_⟩:=T c v h;rw[z]at c1;cases c1
theorem U5{K:aqX}{g:Gh}{H:Hp}{M:Mo}{tb:List (Str×MV)}{d:Dat}{v:V}{mv:MV}(ht:∀c v,tb.lookup c=some v->aj c≠none)(w:fZ K aj g H M)(h:Es tb M d=some mv)(r:eU K g H v d):∃n i a C dx fs,d=obj n/\M[n]?=some i/\tb.lookup i.cls=some mv/\g.tbl[n]?=some a/\v=.ref a/\aj i.cls=some C/\H a=some (.ins C dx fs)/\cP K aj g H n fs i.fs:=by
 unfold Es at h;split at h
 ·next n=>
  obtain⟨i,h1,h2⟩:=aqW.mp h;obtain⟨a,rfl,ha⟩:=La r;obtain⟨C,dx,fs,c1,c2,c3⟩:=w.ins n a i ha h1 λz=>ht _ _ h2 (by rw[z];exact w.nc);exact⟨n,i,a,C,dx,fs,rfl,h1,h2,ha,rfl,c1,c2,c3⟩
 ·cases h
theorem ZF{K:aqX}{g:Gh}{H:Hp}{M:Mo}{n:Nat}{i:Inst}{fs:List (Str×V)}(w:fZ K aj g H M)(hi:M[n]?=some i)(R:cP K aj g H n fs i.fs)(h:m∉aj.fl i.cls):fs.lookup m=none:=by
 refine R.no ?_;cases hl:i.fs.lookup m with
 |none=>rfl
 |some x=>exact absurd (w.fd n i hi m (lookup_mem hl)) h
theorem adM{tb:List (Str×MV)}{as:QA}{n k:Nat}{t:TA}(hr:Room k X.A)(T:Ji X aj k m n tb)(hn:∀M Z ds,as M Z=.ok ds->ds.length+1=n)(ht:∀σ H Q,N6 X.K aj W as σ H Q->t σ H Q)(σ:L2.St)(H:Hp)(Q:VK)(h:tQ X.K aj W (aP tb fo as) σ H Q):Qv X W m (tW X.K aj W fo) t σ H Q:=by
 obtain⟨g,Z,M,I,h⟩:=h;refine tW.go I h.bnd λd v H1 h1 e1 r1=>?_;have I1:=I.ex e1;split at h1
 ·next j mm hmv=>
  obtain⟨hd,i,a,C,dx,fs,rfl,hi,hl,ha,rfl,c1,c2,c3⟩:=U5 T.cls I1.wok hmv r1;obtain⟨⟨C',f,cc,cl,me,nf,fd,ps,j',hj,hp,hB,F⟩,en⟩:=T _ _ hl;have en:j=n:=en;rw[c1]at cc;cases cc;refine⟨a,C,dx,fs,f,fd,ps,_,j',rfl,c2,ZF I1.wok hi c3 nf,cl,me,hr.mono hj,hB,F,ht σ H1 _ ⟨g,Z,M,I1,?_⟩⟩;have h2:=h1.bnd;cases has:as M Z with
  |exc x=>rw[has]at h2;exact rG.ex e1 h2
  |bad=>rw[has]at h2;exact asi h2
  |ok ds=>
   rw[has]at h2;intro vs H2 e2 r2;refine⟨by rw[hp,en,←hn M Z ds has,ard,r2.length],g,M,obj hd::ds,(I1.ex e2).kd,(I1.ex e2).wok,.cons (.obj ha) r2,?_⟩;exact Out.sat.mono h2 (λd k v H' e' r'=>k v H' ((e1.trans e2).trans e') r') λx k H' c dd e' r'=>k H' c dd ((e1.trans e2).trans e') r'
 ·exact asi h1
theorem agV{tb:List (Str×MV)}{as:QA}{k:Nat}(tk:Takes X W)(hr:Room k X.A)(T:Ji X aj k m ((e::es).length+1) tb)(ho:QW aj X W o fo)(ha:Hw aj X W (e::es) as)(hn:∀M Z ds,as M Z=.ok ds->ds.length=(e::es).length)(hb:baseOk o=true)(hs:(e::es).all nst=true)(hl:(apos.endLine==pos.line)=true)(hz:(e::es).length < 30) :
  QE aj X W (.Call (.Attribute o m apos) (e::es) [] pos) (aP tb fo as):=
 PE.weak (Yj tk ho ha hb hs hl hz) λσ H Q h=>adM hr T (λM Z ds z=>by rw[hn M Z ds z]) (λ_ _ _ z=>z) σ H Q h
theorem aeW{tb:List (Str×MV)}{k:Nat}(tk:Takes X W)(hr:Room k X.A)(T:Ji X aj k m 1 tb)(ho:QW aj X W o fo)(hb:baseOk o=true)(hl:(apos.endLine==pos.line)=true) :
  QE aj X W (.Call (.Attribute o m apos) [] [] pos) (aP tb fo au):=
 PE.weak (V3 tk ho hb hl) λσ H Q h=>adM hr T (λM Z ds z=>by cases z;rfl) (λσ H Q ⟨g,Z,M,I,z⟩=>z [] H (Ex.refl H) .nil) σ H Q h
theorem adR{tb:List (Str×MV)}{as:QA}{n k:Nat}{t:TA}(hr:Room k X.A)(T:Ji X aj k m n tb)(hn:∀M Z ds,as M Z=.ok ds->ds.length+1=n)(ht:∀σ H Q,N6 X.K aj W as σ H Q->t σ H Q)(σ:L2.St)(H:Hp)(Q:VK)(h:tE X.K aj W false (cQ tb fo as) σ H Q):Qv X W m (tW X.K aj W fo) t σ H Q:=by
 obtain⟨g,Z,M,I,h⟩:=h;have quiet:∀{x:dR},gE X.K aj W false g H σ Z x M->rG X.K aj W g H σ x:=λ{x} z H' c dd e r=>z H' g c dd (Gr.ex e) (I.ex e) r;have h:=h.bnd;refine⟨g,Z,M,I,?_⟩;cases ho:fo M Z with
 |exc x=>rw[ho]at h;exact quiet h
 |bad=>rw[ho]at h;exact asi h
 |ok d=>
  rw[ho]at h;intro v H1 e1 r1;have I1:=I.ex e1;have h:(match Es tb M d with
   |some (.q _ m)=>((as M Z).at M).bind λds _=>(m M (d::ds)).at M
   |some (.g _ m)=>((as M Z).at M).bind λds _=>m M (d::ds)
   |none=>.bad).sat (λd M'=>∀v H' g',Gr false g g' H H'->SInv X.K aj σ H' g' Z M'->Rep X.K g' H' v d->Q v H') (gE X.K aj W false g H σ Z):=h
  split at h
  ·next j mm hmv=>
   obtain⟨hd,i,a,C,dx,fs,rfl,hi,hl,ha,rfl,c1,c2,c3⟩:=U5 T.cls I1.wok hmv r1;obtain⟨⟨C',f,cc,cl,me,nf,fd,ps,j',hj,hp,hB,F⟩,en⟩:=T _ _ hl;have en:j=n:=en;rw[c1]at cc;cases cc;refine⟨a,C,dx,fs,f,fd,ps,_,j',rfl,c2,ZF I1.wok hi c3 nf,cl,me,hr.mono hj,hB,F,ht σ H1 _ ⟨g,Z,M,I1,?_⟩⟩;have h2:=h.bnd;cases has:as M Z with
   |exc x=>rw[has]at h2;exact rG.ex e1 (quiet h2)
   |bad=>rw[has]at h2;exact asi h2
   |ok ds=>
    rw[has]at h2;intro vs H2 e2 r2;have e12:=e1.trans e2;refine⟨by rw[hp,en,←hn M Z ds has,ard,r2.length],g,M,obj hd::ds,(I1.ex e2).kd,(I1.ex e2).wok,.cons (.obj ha) r2,?_⟩;exact Out.sat.mono (Out.iV h2) (λd k v H' e' r'=>k v H' g (Gr.ex (e12.trans e')) (I.ex (e12.trans e')) r') λx k H' c dd e' r'=>k H' g c dd (Gr.ex (e12.trans e')) (I.ex (e12.trans e')) r'
  ·next j mm hmv=>
   obtain⟨hd,i,a,C,dx,fs,rfl,hi,hl,ha,rfl,c1,c2,c3⟩:=U5 T.cls I1.wok hmv r1;obtain⟨⟨C',f,cc,cl,me,nf,fd,ps,j',hj,hp,hB,F⟩,en⟩:=T _ _ hl;have en:j=n:=en;rw[c1]at cc;cases cc;refine⟨a,C,dx,fs,f,fd,ps,_,j',rfl,c2,ZF I1.wok hi c3 nf,cl,me,hr.mono hj,hB,F,ht σ H1 _ ⟨g,Z,M,I1,?_⟩⟩;have h2:=h.bnd;cases has:as M Z with
   |exc x=>rw[has]at h2;exact rG.ex e1 (quiet h2)
   |bad=>rw[has]at h2;exact asi h2
   |ok ds=>
    rw[has]at h2;intro vs H2 e2 r2;have e12:=e1.trans e2;refine⟨by rw[hp,en,←hn M Z ds has,ard,r2.length],g,M,obj hd::ds,(I1.ex e2).kd,(I1.ex e2).wok,.cons (.obj ha) r2,?_⟩;exact bh.sat.mono h2 (λd M' k v H' g' c kd wk r'=>k v H' g' ((Gr.ex e12).trans c.gr) ((I.ex e12).call c kd wk) r') λx M' k H' g' cc dd c kd wk r'=>k H' g' cc dd ((Gr.ex e12).trans c.gr) ((I.ex e12).call c kd wk) r'
  ·exact asi h
theorem ahi{tb:List (Str×MV)}{as:QA}{k:Nat}(tk:Takes X W)(hr:Room k X.A)(T:Ji X aj k m ((e::es).length+1) tb)(ho:QW aj X W o fo)(ha:Hw aj X W (e::es) as)(hn:∀M Z ds,as M Z=.ok ds->ds.length=(e::es).length)(hb:baseOk o=true)(hs:(e::es).all nst=true)(hl:(apos.endLine==pos.line)=true)(hz:(e::es).length < 30) :
  GE aj X W false (.Call (.Attribute o m apos) (e::es) [] pos) (cQ tb fo as):=
 PE.weak (Yj tk ho ha hb hs hl hz) λσ H Q h=>adR hr T (λM Z ds z=>by rw[hn M Z ds z]) (λ_ _ _ z=>z) σ H Q h
theorem afr{tb:List (Str×MV)}{k:Nat}(tk:Takes X W)(hr:Room k X.A)(T:Ji X aj k m 1 tb)(ho:QW aj X W o fo)(hb:baseOk o=true)(hl:(apos.endLine==pos.line)=true) :
  GE aj X W false (.Call (.Attribute o m apos) [] [] pos) (cQ tb fo au):=
 PE.weak (V3 tk ho hb hl) λσ H Q h=>adR hr T (λM Z ds z=>by cases z;rfl) (λσ H Q ⟨g,Z,M,I,z⟩=>z [] H (Ex.refl H) .nil) σ H Q h
end
def eY(x:Str):SF:=λM Z=>.exc ⟨x,[]⟩ Z M
def Cj(x:Str)(fs:List Str)(as:QA):SF:=λM Z=>((as M Z).at M).then Z λds M'=>.exc ⟨x,(fs.zip ds).reverse⟩ Z M'
section
variable{X:Cx}{aj:aQ}{W:WX}{q:Bool}{x:Str}{pos p p1:Pos}{k:Nat}
theorem afM(hc:X.calm=true)(tk:Takes X W)(hg:Gl X x)(hd:(x==("__debug__" : Str))=false)(g:bA X.prog X.w X.K X.mg X.base aj k x .exc):SE aj X W q (.Raise (some (.Call (.Name x p) [] [] p1)) none pos) (eY x):=by obtain⟨C,g1,g2,g3,g4,g5,g6⟩:=g;exact PS.weak (ps_raise hc tk (Ear.afN PySem.F.excBase_ValueError g3 g1 g4 (raises_own g5 g6) hg hd)) λD σ H ⟨g,Z,M,I,z⟩=>z σ H g (.ref C) none Gr.refl I ⟨C,g2,rfl,.inl ⟨rfl,rfl⟩⟩
theorem lO.gr{K:aqX}{g g':Gh}{H H':Hp}{q:Bool}(r:Gr q g g' H H')(k:Kd g H){fs:List (Str×V)}{gs:List (Str×Dat)}(h:lO K g H fs gs):lO K g' H' fs gs:=by
 induction h with
 |nil=>exact .nil
 |cons z _ ih=>exact .cons (z.gr r k) ih
theorem lO.snoc{K:aqX}{g:Gh}{H:Hp}{f:Str}{v:V}{d:Dat}(z:Rep K g H v d){fs:List (Str×V)}{gs:List (Str×Dat)}(h:lO K g H fs gs):lO K g H (fs++[(f,v)]) (gs++[(f,d)]):=by
 induction h with
 |nil=>exact .cons z .nil
 |cons y _ ih=>exact .cons y ih
theorem aej{K:aqX}{g:Gh}{H:Hp}:∀{fs:List Str} {vs:List V} {ds:List Dat},aK K g H vs ds->lO K g H (fs.zip vs).reverse (fs.zip ds).reverse
 |[],_,_,_=>.nil
 |_::_,_,_,.nil=>.nil
 |f::fs,_,_,.cons z t=>by
  rw[arS,arS,List.reverse_cons,List.reverse_cons];exact(aej t).snoc z
theorem acL{e:Expr}{es:List Expr}{fs:List Str}{as:QA}(hc:X.calm=true)(tk:Takes X W)(hr:Room k X.A)(hg:Gl X x)(hd:(x==("__debug__" : Str))=false)(g:bA X.prog X.w X.K X.mg X.base aj k x (.exi fs))(ha:Hw aj X W (e::es) as)
  (hs:(e::es).all nst=true) (hn:∀M Z ds,as M Z=.ok ds->ds.length=fs.length) (hz:fs.length<=1000):SE aj X W q (.Raise (some (.Call (.Name x p) (e::es) [] p1)) none pos) (Cj x fs as):=by
 obtain⟨C,fI,fd,ps,g1,g2,g3,g4,g5,hk,hp,hB,F⟩:=g;have hs':=hs;rw[arJ,aqZ]at hs';refine PS.weak (ps_raise hc tk (pmk_oex g3 g4 g5 F (hr.mono hk) hB .nil pass0 hg g1 ha hd (cU hs'.1 es) (star_any es hs'.2))) λD σ H ⟨g,Z,M,I,z⟩=>?_;refine⟨g,Z,M,I,?_⟩;unfold Cj at z;cases has:as M Z with
 |exc y=>rw[has]at z;exact λH' c dd e r=>z σ H' g c dd (Gr.ex e) (I.ex e) r.fr
 |bad=>rw[has]at z;exact asi z
 |ok ds=>
  rw[has]at z;intro vs H1 e1 r1;have hl:vs.length=fs.length:=by rw[r1.length,hn M Z ds has]
  refine⟨by omega,λa na=>⟨a,vs++[],rfl,by simpa using hl,upd_same,λdx H' nd kp dm ha' hd'=>?_⟩⟩;have ne:dx≠a:=λz=>by
   subst z;rw[upd_same]at nd;cases nd
  rw[upd_ne ne]at nd;refine⟨rfl,dx,_,ha',hd',nd,?_⟩;have kp':∀b o,H1 b=some o->(upd (del H' a) dx (.xd (fs.zip (vs++[])).reverse)) b=some o:=λb o hb=>by
   have nb:b≠a:=λz=>by subst z;rw[na]at hb;cases hb
   have nd':b≠dx:=λz=>by subst z;rw[nd]at hb;cases hb
   rw[upd_ne nd',del_ne nb];exact kp b o nb (by rw[upd_ne nb];exact hb)
  have ex:Ex H1 (upd (del H' a) dx (.xd (fs.zip (vs++[])).reverse)):=λb o hb=>kp' b o hb;have I1:=I.ex e1;refine z σ _ g (.ref C) (some dx) (Gr.ex (e1.trans ex)) (I1.ex ex) ⟨C,g2,rfl,.inr ⟨dx,_,rfl,upd_same,?_⟩⟩;rw[arR];have:=(aej (fs:=fs) r1).gr (Gr.ex (q:=true) ex) I1.kd;rw[arR]at this;exact lO.less (g:=g) (g':=g.fr) rfl (wW g) this
end
section
variable{P:Program}{w:World}{K:aqX}{mg:Str->Option Value}{base:Heap}{C f:Addr}{fd:FuncData}{qual:Str}{st:Stmt}
theorem vis_par{N ps:List Str}{sc:Scope}(S:FnScope N ps sc){y:Str}(h:y∈ps):Vis sc y:=(S.par y h).elim (λz=>.inl z) λz=>.inr (.inl z)
theorem aez{s a1 a2 a3 f1 f2 f3:Str}{p1 p2 p3 p4 p5 p6 p7 p8 p9 p10 p11 p12:Pos}(F:L2.Fun K "__init__" qual st f fd)(S:FnScope [s,a1,a2,a3] [s,a1,a2,a3] (defScope st))(T:OexC K C)
  (hb:defBody st=[.Assign [.Attribute (.Name s p1) f1 p2] (.Name a1 p3) p4,.Assign [.Attribute (.Name s p5) f2 p6] (.Name a2 p7) p8,.Assign [.Attribute (.Name s p9) f3 p10] (.Name a3 p11) p12])
  (dz:∀y∈[s,a1,a2,a3],(y==("__debug__" : Str))=false/\(y==("__classdict__" : Str))=false) (n1:PySem.W.findIn K (.ref C) f1=some none) (n2:PySem.W.findIn K (.ref C) f2=some none) (n3:PySem.W.findIn K (.ref C) f3=some none) :
  FnOk P w K mg base CX0 1 f fd [s,a1,a2,a3] (af3 C [f1,f2,f3]):=by
 refine F.ok S (λvs H Q E h=>?_) (λcdv A outer s0 H vs Q E hr h=>?_)
 ·obtain⟨a,xs,rfl,hl,_⟩:=h;simp[hl]
 ·obtain⟨a,xs,rfl,hl,ha,q⟩:=h
  match xs,hl with
  |[x,y,z],_=>
  rw[hb];have v0:=vis_par S (y:=s) (by simp);have v1:=vis_par S (y:=a1) (by simp);have v2:=vis_par S (y:=a2) (by simp);have v3:=vis_par S (y:=a3) (by simp);obtain⟨c0,k0⟩:=dz s (by simp);obtain⟨c1,k1⟩:=dz a1 (by simp);obtain⟨c2,k2⟩:=dz a2 (by simp);obtain⟨c3,k3⟩:=dz a3 (by simp);refine⟨_,pss_cons (ps_ost (pe_var (i:=0) rfl v0 c0 k0) (pe_var (i:=1) rfl v1 c1 k1)) (pss_cons (ps_ost (pe_var (i:=0) rfl v0 c0 k0) (pe_var (i:=2) rfl v2 c2 k2)) (pss_one (ps_ost (pe_var (i:=0) rfl v0 c0 k0) (pe_var (i:=3) rfl v3 c3 k3)))),?_⟩;refine⟨_,rfl,_,rfl,a,C,rfl,T,n1,.inl ⟨ha,λdx nd ne=>?_⟩⟩;refine⟨_,rfl,_,rfl,a,C,rfl,T,n2,.inr ⟨dx,[(f1,x)],upd_same,(by rw[upd_ne ne];exact upd_same),(show 1<=900 by decide),?_⟩⟩;refine⟨_,rfl,_,rfl,a,C,rfl,T,n3,.inr ⟨dx,_,(by rw[upd_ne ne.symm];exact upd_same),upd_same,(show 2<=900 by decide),?_⟩⟩;refine q dx _ nd (λb o hb hB=>?_) (λb hB=>?_) (by rw[upd_ne ne.symm,upd_ne ne.symm];exact upd_same) upd_same
  ·have hbd:b≠dx:=ne_of_none hB nd;rw[upd_ne hbd,upd_ne hbd,upd_ne hb,upd_ne hbd];exact hB
  ·by_cases e:b=dx
   ·rw[e];exact nd
   ·by_cases e2:b=a
    ·subst e2;rw[upd_ne e,upd_ne e,upd_same]at hB;cases hB
    ·rw[upd_ne e,upd_ne e,upd_ne e2,upd_ne e]at hB;exact hB
end
structure Cl where
 c:Value
 nm:Option Nat
 ts:Addr->Value->Option Addr->TS
def anc(D:Ends)(i:Nat):Ends:={ nx:=λτ G=>D.nx (τ.set i none) G,rt:=D.rt,bk:=λτ G=>D.bk (τ.set i none) G,ct:=λτ G=>D.ct (τ.set i none) G }
def ZQ(K:aqX)(Wo:WX)(D:Ends):List Cl->WX
 |[]=>Wo
 |l::r=>λcls d τ G=>∃b,PySem.W.exmOne K cls l.c=some b/\(b=true->∀a,G a=none->(match l.nm with
   |none=>l.ts a cls d D τ G
   |some i=>l.ts a cls d (anc D i) (τ.set i (some (.ref a))) G))/\(b=false->ZQ K Wo D r cls d τ G)
inductive BX(X:Cx):List ExceptHandler->List Cl->Prop
 |nil:BX X [] []
 |one {x:Str} {l:Cl} {s0:Stmt} {su:List Stmt} {np cp:Pos} {hds:List ExceptHandler} {ls:List Cl} (hc:Names X x l.c) (hn:l.nm=none)
   (hsu:∀(a:Addr) (oe:Obj) (cls:Value) (d:Option Addr) (pn:List (Addr×Obj)),Zc cls d oe->(∃vs,oe.data=.fields vs)->PSs (X.suite a ((a,oe)::pn)) (s0::su) (l.ts a cls d)) (r:BX X hds ls) :
   BX X (.ExceptHandler (some (.Name x np)) none (s0::su) cp::hds) (l::ls)
 |as {x n:Str} {i:Nat} {l:Cl} {s0:Stmt} {su:List Stmt} {np cp:Pos} {hds:List ExceptHandler} {ls:List Cl} (hc:Names X x l.c) (hn:l.nm=some i) (hi:X.N[i]?=some n) (hl:X.env.kindOf n=some .local)
   (hsu:∀(a:Addr) (oe:Obj) (cls:Value) (d:Option Addr) (pn:List (Addr×Obj)),Zc cls d oe->(∃vs,oe.data=.fields vs)->PSs (X.suite a ((a,oe)::pn)) (s0::su) (l.ts a cls d)) (r:BX X hds ls) :
   BX X (.ExceptHandler (some (.Name x np)) (some n) (s0::su) cp::hds) (l::ls)
section
variable{X:Cx}{body:List Stmt}{h0:ExceptHandler}{hds:List ExceptHandler}{ls:List Cl}{pos:Pos}{tb:WX->TS}{Wo:WX}
theorem ah9(hs:X.stack=X.env::X.outer)(hf:X.env.frame=some X.env.locals)(hN:X.N.Nodup)(tk:Takes X Wo)
  (hb:∀(W:WX) (pn:List (Addr×Obj)) (xe:Value->Shared->Prop),Takes (X.tr pn xe) W->PassesOwn (model X.prog X.w) X.A X.env xe->PSs (X.tr pn xe) body (tb W))
  (hh:BX X (h0::hds) ls):PS X (.Try body (h0::hds) [] [] pos) (λD σ H=>tb (ZQ X.K Wo D ls) D σ H):=by
 constructor;intro pins s σ H D I h;have ok:=I.ok;have frm:X.A.frames=some (X.env::X.outer):=by rw[ok.frames,hs]
 have run:=(hb (ZQ X.K Wo D ls) (X.pn++pins) (λe t₁=>wpAny (model X.prog X.w) X.A (noteFrame e X.env) (λ_ t₂=>wpAny (model X.prog X.w) X.A (setFlight e none) (λ_ t₃=>wpAny (model X.prog X.w) X.A (handleBy e X.env (h0::hds)) (SP X pins D) X.xe t₃) X.xe t₂) X.xe t₁) (λu t xx=>by
  obtain⟨a,B,sI,pins2,τ,G,cls,d,rfl,J2,nb,up,sky,na,os,ag,w⟩:=xx;have J:Inv X pins τ G sI:=J2.ofTry ok;have sky2:Sky B (X.env::X.outer) a (Zc cls d) X.env.locals t.heap:=by rw[←hs];exact sky
  show wpAny (model X.prog X.w) X.A (noteFrame (.ref a) X.env) _ _ _;refine Sky.land Zc.steady frm hf sky2 ?_;intro h3 fl3 up3;have J3:Inv X pins τ G { t with heap:=h3 }:=J.landed nb fl3.1 (up.trans up3) os ag;obtain⟨oe3,vs3,he3,hz3,hd3⟩:=fl3.there;have notF:a∉frs (X.env::X.outer):=λhm=>by
   obtain⟨_,o,eo,hnf⟩:=Heap.FunFrames.mem fl3.2.2.1 hm;rw[he3]at eo;cases eo;exact hnf _ hd3
  have nL:a≠X.env.locals:=λz=>notF (List.mem_filterMap.mpr ⟨X.env,aq4,(by rw[hf,z])⟩);have nF:a∉X.fs:=λhm=>by
   obtain⟨e,he,q⟩:=List.mem_filterMap.mp hm;exact notF (List.mem_filterMap.mpr ⟨e,aq3 _ he,q⟩)
  have S3:=J3.suite he3 hd3 na nL nF;have look:PySem.W.Looks (model X.prog X.w) h3 (typeOf (.ref a)) cls:=λA Q E s k q=>wpAny_typeOf_ref (k _ _ he3) (by rw[hz3.1];exact q);have named:∀{x:Str} {c:Value} {np:Pos} {Q:Value->Shared->Prop} {E:Value->Shared->Prop},Names X x c->Q c { t with heap:=h3 }->wpAny (model X.prog X.w) (X.A.mark (some (.ref a))) (eval (.Name x np) X.env) Q E { t with heap:=h3 }:=by
   intro x c np Q E hc q;obtain⟨hg,hdb,hm⟩:=hc;rcases hm with hm|⟨hm,hv,hnn⟩
   ·exact ld_glob (X:=X.suite a ((a,oe3)::(X.pn++pins))) S3 hg hm q hdb
   ·exact ld_blt (X:=X.suite a ((a,oe3)::(X.pn++pins))) S3 hg hm hv q hnn hdb
  have all:∀{hds2:List ExceptHandler} {ls2:List Cl},BX X hds2 ls2->ZQ X.K Wo D ls2 cls d τ G->wpAny (model X.prog X.w) X.A (handleBy (.ref a) X.env hds2) (SP X pins D) X.xe { t with heap:=h3 }:=by
   intro hds2 ls2 hk
   induction hk with
   |nil=>
    intro w;refine wpAny_handleBy_nil ?_;obtain⟨k1,k2,k3,oe,vs,T,oT,ts2,he,hz,hd,h1,hr⟩:=id fl3;unfold PySem.passOn;refine wpAny_bind (wpAny_field he hd h1 ?_);have nT:¬((Value.ref T==Value.none)=true):=by simp
    rw[if_neg nT];have fin:wpAny (model X.prog X.w) X.A (setFlight (.ref a) X.env.frame) (λ_ s4=>wpAny (model X.prog X.w) X.A (throw (.ref a):Sem Flow) (SP X pins D) X.xe s4) X.xe { t with heap:=h3 }:=by rw[hf];refine HandSPX.setFlight_upZ fl3 ?_;intro h4 hh4 up4;refine wpAny_throw (tk _ _ ?_);exact⟨a,B,sI,pins,τ,G,cls,d,rfl,J,nb,(up.trans up3).trans up4,.inr (.inr (by rw[hs];exact hh4)),na,os,ag,w⟩
    first
     |exact wpAny_bind (wpAny_pure (wpAny_bind fin))
     |exact wpAny_bind fin
   | @one x l s0 su np cp hds3 ls3 hc hn hsu r ih=>
    intro w;obtain⟨b,hb1,yes,no⟩:=w;rw[hn]at yes;have LM:=PySem.W.exm_one (M:=model X.prog X.w) J3.kIn look hb1;refine wpAny_handleBy_cons (codeAny_handlers_test ?_) (by intro q;cases q);refine named hc (LM.here ?_);cases b with
    |false=>exact ih (no rfl)
    |true=>
     refine codeAny_handlers_suite ?_;refine HandSPX.lands_againZ fl3 ?_;intro h4 fl4 up4;have J4:Inv X pins τ G { t with heap:=h4 }:=J.landed nb fl4.1 ((up.trans up3).trans up4) os ag;obtain⟨oe4,vs4,he4,hz4,hd4⟩:=fl4.there;have S4:=J4.suite he4 hd4 na nL nF;refine wpAny_mono ((hsu a oe4 cls d (X.pn++pins) hz4 ⟨_,hd4⟩).run [] _ _ G _ S4 (yes rfl a na)) ?_ (λ_ _ z=>asi z);intro f s6 sp6;cases f with
     |ret u=>
      obtain⟨v6,τ6,G6,S6,r6,q6⟩:=sp6;exact⟨_,_,_,S6.unsuite ok,r6,q6⟩
     |next=>
      obtain⟨τ6,G6,S6,q6⟩:=sp6;exact⟨_,_,S6.unsuite ok,q6⟩
     |brk=>
      obtain⟨τ6,G6,S6,q6⟩:=sp6;exact⟨_,_,S6.unsuite ok,q6⟩
     |cont=>
      obtain⟨τ6,G6,S6,q6⟩:=sp6;exact⟨_,_,S6.unsuite ok,q6⟩
   | @as x n i l s0 su np cp hds3 ls3 hc hn hi hl hsu r ih=>
    intro w;obtain⟨b,hb1,yes,no⟩:=w;rw[hn]at yes;have LM:=PySem.W.exm_one (M:=model X.prog X.w) J3.kIn look hb1;refine wpAny_handleBy_cons (codeAny_handlers_test ?_) (by intro q;cases q);refine named hc (LM.here ?_);cases b with
    |false=>exact ih (no rfl)
    |true=>
     refine codeAny_handlers_suite_as ?_;refine HandSPX.lands_againZ fl3 ?_;intro h4 fl4 up4;have J4:Inv X pins τ G { t with heap:=h4 }:=J.landed nb fl4.1 ((up.trans up3).trans up4) os ag;obtain⟨oe4,vs4,he4,hz4,hd4⟩:=fl4.there;have S4:=J4.suite he4 hd4 na nL nF;refine store_ok (X:=X.suite a ((a,oe4)::(X.pn++pins))) (v:=.ref a) S4 hN hi (.inl hl) rfl ?_ (.inr hl);intro s5 S5;refine wpAny_mono ((hsu a oe4 cls d (X.pn++pins) hz4 ⟨_,hd4⟩).run [] s5 _ G _ S5 (yes rfl a na)) ?_ (λ_ _ z=>asi z);intro f s6 sp6;have bye:∀{τ6:L2.St} {G6:Hp} {Q:Shared->Prop},Inv (X.suite a ((a,oe4)::(X.pn++pins))) [] τ6 G6 s6->(∀s7,Inv X pins (τ6.set i none) G6 s7->Q s7)->
       wpAny (model X.prog X.w) X.A (do bindName X.env n .none;unbindBehindTheSuite X.env n cp) (λ_ s7=>Q s7) X.xe s6:=λS6 hq=>gone_ok (S6.unsuite ok) hN hi hl hq
     cases f with
     |ret u=>
      obtain⟨v6,τ6,G6,S6,r6,q6⟩:=sp6;exact bye S6 λs7 J7=>⟨_,_,_,J7,r6,q6⟩
     |next=>
      obtain⟨τ6,G6,S6,q6⟩:=sp6;exact bye S6 λs7 J7=>⟨_,_,J7,q6⟩
     |brk=>
      obtain⟨τ6,G6,S6,q6⟩:=sp6;exact bye S6 λs7 J7=>⟨_,_,J7,q6⟩
     |cont=>
      obtain⟨τ6,G6,S6,q6⟩:=sp6;exact bye S6 λs7 J7=>⟨_,_,J7,q6⟩
  exact all hh w) PassesOwn.looking).run [] s σ H D (I.toTry _) h
 refine wpAny_Try_except (wpAny_mono run ?_ (λ_ _ z=>z));intro f s1 sp1;cases f with
 |ret u=>
  obtain⟨v,τ,G,J2,r,q⟩:=sp1;exact⟨v,τ,G,J2.ofTry ok,r,q⟩
 |next=>
  obtain⟨τ,G,J2,q⟩:=sp1;exact wpAny_execs_nil ⟨τ,G,J2.ofTry ok,q⟩
 |brk=>
  obtain⟨τ,G,J2,q⟩:=sp1;exact⟨τ,G,J2.ofTry ok,q⟩
 |cont=>
  obtain⟨τ,G,J2,q⟩:=sp1;exact⟨τ,G,J2.ofTry ok,q⟩
end
inductive Et where
 |con (d:Dat)|fld (f:Str)|flds (fs:List Str)
def Zq(y:Str)(x:dR)(f:Str):Option Dat:=match x.cls==y with
 |true=>(x.fs.lookup f).bind λd=>match lf d with
  |true=>some d
  |false=>none
 |false=>none
def RN(y:Str)(x:dR):List Str->Option (List Dat)
 |[]=>some []
 |f::fs=>(Zq y x f).bind λd=>(RN y x fs).bind λds=>some (d::ds)
def Yd(y:Str)(x:dR):Et->Option Dat
 |.con d=>some d
 |.fld f=>Zq y x f
 |.flds fs=>(RN y x fs).bind λds=>some (.tuple ds)
def Eh(y:Str)(x:dR):List (Nat×Et)->Env->Option Env
 |[],Z=>some Z
 |(j,e)::r,Z=>(Yd y x e).bind λd=>Eh y x r (Z.set j (some (.dat d)))
structure Hd where
 y:Str
 tk:Str->Option Bool
 nm:Option Nat
 st:List (Nat×Et)
def TF(Z:Env):Option Nat->Env
 |none=>Z
 |some i=>Z.set i none
def acC(Z:Env):Option Nat->Bool
 |none=>true
 |some i=>decide (i < Z.length)
def hdl:List Hd->dR->Env->Mo->vq
 |[],x,Z,M=>.exc x Z M
 |h::r,x,Z,M=>match h.tk x.cls with
  |some true=>match acC Z h.nm with
   |true=>match Eh h.y x h.st (TF Z h.nm) with
    |some Z2=>.next (TF Z2 h.nm) M
    |none=>.bad
   |false=>.bad
  |some false=>hdl r x Z M
  |none=>.bad
def Uc(f:SF)(hs:List Hd):SF:=λM Z=>match f M Z with
 |.exc x Z' M'=>hdl hs x Z' M'
 |o=>o
structure XIn(K:aqX)(aj:aQ)(σ:L2.St)(H:Hp)(g:Gh)(Z:Env)(M:Mo)(x:dR)(a:Addr)(cls:Value)(d:Option Addr)(i:Option Nat):Prop where
 inv:SInv K aj σ H g Z M
 xr:qX K aj g.fr H x cls d
 sl:∀j,i=some j->σ[j]?=some (some (.ref a))
section
variable(K:aqX)(aj:aQ)(a:Addr)(cls:Value)(d:Option Addr)(i:Option Nat)
def tU(f:dR->Option Dat):TE:=λσ H Q=>∃g Z M x z,XIn K aj σ H g Z M x a cls d i/\f x=some z/\∀v H',Ex H H'->Rep K g H' v z->Q v H'
def tUA(f:dR->Option (List Dat)):TA:=λσ H Q=>∃g Z M x z,XIn K aj σ H g Z M x a cls d i/\f x=some z/\∀v H',Ex H H'->aK K g H' v z->Q v H'
def tSu(y:Str)(st:List (Nat×Et)):TS:=λD σ H=>∃g Z M x Z2,XIn K aj σ H g Z M x a cls d i/\Eh y x st Z=some Z2/\(∀p∈st,i≠some p.1)/\∀σ' H',Ex H H'->SInv K aj σ' H' g Z2 M->D.nx σ' H'
end
section
variable{K:aqX}{aj:aQ}{a:Addr}{cls:Value}{d:Option Addr}{i:Option Nat}{σ:L2.St}{H H':Hp}{g:Gh}{Z:Env}{M:Mo}{x:dR}
theorem lO.ex{fs:List (Str×V)}{gs:List (Str×Dat)}(e:Ex H H')(k:Kd g H)(h:lO K g H fs gs):lO K g H' fs gs:=h.gr (Gr.ex (q:=true) e) k
theorem qX.ex{c:Value}{dd:Option Addr}(e:Ex H H')(k:Kd g H)(h:qX K aj g H x c dd):qX K aj g H' x c dd:=by obtain⟨C,h1,h2,h3⟩:=h;exact⟨C,h1,h2,h3.imp id λ⟨b,fs,e1,e2,e3⟩=>⟨b,fs,e1,e _ _ e2,e3.ex e k⟩⟩
theorem XIn.ex(e:Ex H H')(h:XIn K aj σ H g Z M x a cls d i):XIn K aj σ H' g Z M x a cls d i:=⟨h.inv.ex e,h.xr.ex e h.inv.kd.fr,h.sl⟩
theorem lO.get{f:Str}{z:Dat}{fs:List (Str×V)}{gs:List (Str×Dat)}(h:lO K g H fs gs)(e:gs.lookup f=some z):∃v,fs.lookup f=some v/\Rep K g H v z:=by
 induction h with
 |nil=>cases e
 | @cons f' v d' _ _ r _ ih=>
  rw[aru]at e;rw[aru];cases hb:f==f' with
  |true=>
   rw[hb]at e;cases e;exact⟨v,rfl,r⟩
  |false=>
   rw[hb]at e;exact ih e
end
section
variable{X:Cx}{aj:aQ}{a C:Addr}{oe:Obj}{cls:Value}{d:Option Addr}{pn:List (Addr×Obj)}{y n:Str}{pos p:Pos}{j:Nat}
theorem adL{e:Expr}{z:Dat}{i:Option Nat}{t:TE}(h:PE (X.suite a ((a,oe)::pn)) e t)(ht:∀σ H Q,tU X.K aj a cls d i (λ_=>some z) σ H Q->t σ H Q):PE (X.suite a ((a,oe)::pn)) e (tU X.K aj a cls d i λ_=>some z):=PE.weak h ht
theorem adn{f:Str}(hC:aj y=some C)(T:XfC X.K C)(hno:PySem.W.findIn X.K (.ref C) f=some none)(hz:Zc cls d oe)(hf:∃vs,oe.data=.fields vs)(hN:X.N[j]?=some n)(hv:Vis X.env.scope n)(hd:(n==("__debug__" : Str))=false)(hcd:(n==("__classdict__" : Str))=false) :
  PE (X.suite a ((a,oe)::pn)) (.Attribute (.Name n p) f pos) (tU X.K aj a cls d (some j) λx=>Zq y x f):=by
 refine PE.weak (pe_xf T hno hz hf (pe_var (i:=j) (X:=X.suite a ((a,oe)::pn)) hN hv hd hcd)) λσ H Q ⟨g,Z,M,x,z,I,e,k⟩=>?_;have e:Zq y x f=some z:=e;unfold Zq at e;split at e
 ·next ey=>
  obtain⟨z',l,e⟩:=aqW.mp e;split at e
  ·next hl=>
   cases e;obtain⟨C',c1,c2,c3⟩:=I.xr;rw[eq_of_beq ey,hC]at c1;cases c1;rcases c3 with⟨c3,_⟩|⟨b,fs,c3,c4,c5⟩
   ·rw[c3]at l;cases l
   ·obtain⟨v,l1,l2⟩:=c5.get l;exact⟨.ref a,I.sl j rfl,rfl,c2,b,fs,v,c3,c4,l1,k v H (Ex.refl H) (Rep.free (g:=g.fr) (g':=g) rfl hl l2)⟩
  ·cases e
 ·cases e
theorem ac1{i:Option Nat}:PA (X.suite a ((a,oe)::pn)) [] (tUA X.K aj a cls d i λ_=>some []):=PA.weak pa_nil λσ H Q ⟨g,Z,M,x,z,I,e,k⟩=>by
 cases e;exact k [] H (Ex.refl H) .nil
theorem ahG{e:Expr}{es:List Expr}{i:Option Nat}{f:dR->Option Dat}{fr:dR->Option (List Dat)}(h:PE (X.suite a ((a,oe)::pn)) e (tU X.K aj a cls d i f))(hr:PA (X.suite a ((a,oe)::pn)) es (tUA X.K aj a cls d i fr))(hs:nst e=true) :
  PA (X.suite a ((a,oe)::pn)) (e::es) (tUA X.K aj a cls d i λx=>(f x).bind λz=>(fr x).bind λzs=>some (z::zs)):=by
 refine PA.weak (pa_cons h hr (cU hs es)) λσ H Q ⟨g,Z,M,x,z,I,e,k⟩=>?_;obtain⟨z1,e1,e⟩:=aqW.mp e;obtain⟨z2,e2,e⟩:=aqW.mp e;cases e;exact⟨g,Z,M,x,z1,I,e1,λv H1 x1 r1=>⟨g,Z,M,x,z2,I.ex x1,e2,λvs H2 x2 r2=>k (v::vs) H2 (x1.trans x2) (.cons (r1.ex x2 (I.ex x1).inv.kd) r2)⟩⟩
theorem adW{es:List Expr}{kk:Nat}{i:Option Nat}{fr:dR->Option (List Dat)}(hr:PA (X.suite a ((a,oe)::pn)) es (tUA X.K aj a cls d i fr))(hn:∀x zs,fr x=some zs->zs.length<=100000):PE (X.suite a ((a,oe)::pn)) (.Tuple es kk pos) (tU X.K aj a cls d i λx=>(fr x).bind λzs=>some (.tuple zs)):=by refine PE.weak (pe_tup hr) λσ H Q ⟨g,Z,M,x,z,I,e,k⟩=>?_;obtain⟨zs,e1,e⟩:=aqW.mp e;cases e;refine⟨g,Z,M,x,zs,I,e1,λvs H1 x1 r1=>⟨sz_of (by rw[r1.length];exact hn x zs e1),λp np=>?_⟩⟩;exact k (.ref p) _ (x1.trans (Ex.new np)) (.tup (st_of upd_same) (r1.ex (Ex.new np) (I.ex x1).inv.kd))
theorem Vm{x:dR}:∀{fs:List Str} {zs:List Dat},RN y x fs=some zs->zs.length=fs.length
 |[],zs,h=>by cases h;rfl
 |f::fs,zs,h=>by
  rw[RN]at h;obtain⟨z1,e1,h⟩:=aqW.mp h;obtain⟨z2,e2,h⟩:=aqW.mp h;cases h;simp[Vm e2]
theorem akx{i:Option Nat}{se:Et}{st:List (Nat×Et)}{D D':Ends}{σ:L2.St}{H:Hp}(h:tSu X.K aj a cls d i y ((j,se)::st) D σ H)(nx:∀σ' H',tSu X.K aj a cls d i y st D σ' H'->D'.nx σ' H') :
  tAsg (tU X.K aj a cls d i λx=>Yd y x se) (gName j) D' σ H:=by
 obtain⟨g,Z,M,x,Z2,I,e,nj,k⟩:=h;rw[Eh]at e;obtain⟨z,e1,e⟩:=aqW.mp e;refine⟨g,Z,M,x,z,I,e1,λv H' x1 r1=>nx _ _ ⟨g,Z.set j (some (.dat z)),M,x,Z2,⟨(I.ex x1).inv.set r1,(I.ex x1).xr,λjj hj=>?_⟩,e,λp hp=>nj p (aq3 _ hp),λσ' H2 x2 I2=>k σ' H2 (x1.trans x2) I2⟩⟩;have ne:j≠jj:=λz=>nj (j,se) aq4 (by rw[hj,z]);rw[aq6 ne];exact I.sl jj hj
theorem akI{i:Option Nat}{D:Ends}{σ:L2.St}{H:Hp}(h:tSu X.K aj a cls d i y [] D σ H):D.nx σ H:=by obtain⟨g,Z,M,x,Z2,I,e,nj,k⟩:=h;cases e;exact k σ H (Ex.refl H) I.inv
end
def anB(K:aqX)(aj:aQ)(h:Hd)(l:Cl):Prop:=(∃D,aj h.y=some D/\l.c=.ref D)/\ab3 K aj h.y h.tk/\l.nm=h.nm/\(l.ts=λa cls d=>tSu K aj a cls d h.nm h.y h.st)/\∀p∈h.st,h.nm≠some p.1
inductive Gg(K:aqX)(aj:aQ):List Hd->List Cl->Prop
 |nil:Gg K aj [] []
 |cons {h:Hd} {l:Cl} {hs:List Hd} {ls:List Cl} (o:anB K aj h l) (r:Gg K aj hs ls):Gg K aj (h::hs) (l::ls)
theorem SInv.off{K:aqX}{aj:aQ}{σ:L2.St}{H:Hp}{g:Gh}{Z:Env}{M:Mo}(I:SInv K aj σ H g Z M)(i:Nat)(v:Option V):SInv K aj (σ.set i v) H g (Z.set i none) M:=by
 have I2:=I.forget (j:=i);refine⟨I2.kd,I2.wok,by rw[ars,ars];exact I.len,λj d h=>?_,λj xs h=>?_,λj k xs ys l ne h1 h2 h3=>?_⟩
 ·by_cases e:j=i
  ·subst e;rw[arU]at h;split at h<;>first | (split at h<;>cases h) | (exact absurd rfl ‹¬_›)
  ·obtain⟨v',a1,a2⟩:=I2.dat j d h;rw[aq6 (Ne.symm e)]at a1;exact⟨v',by rw[aq6 (Ne.symm e)];exact a1,a2⟩
 ·by_cases e:j=i
  ·subst e;rw[arU]at h;split at h<;>first | (split at h<;>cases h) | (exact absurd rfl ‹¬_›)
  ·obtain⟨l,us,a1,a2⟩:=I2.own j xs h;rw[aq6 (Ne.symm e)]at a1;exact⟨l,us,by rw[aq6 (Ne.symm e)];exact a1,a2⟩
 ·have n1:j≠i:=λz=>by
   subst z;rw[arU]at h1;split at h1<;>first | (split at h1<;>cases h1) | (exact absurd rfl ‹¬_›)
  have n2:k≠i:=λz=>by
   subst z;rw[arU]at h2;split at h2<;>first | (split at h2<;>cases h2) | (exact absurd rfl ‹¬_›)
  rw[aq6 (Ne.symm n1)]at h1 h3;rw[aq6 (Ne.symm n2)]at h2 ⊢;exact I.sep j k xs ys l ne h1 h2 h3
section
variable{X:Cx}{aj:aQ}{W:WX}{q:Bool}{body:List Stmt}{h0:ExceptHandler}{hds:List ExceptHandler}{hs:List Hd}{ls:List Cl}{pos:Pos}{f:SF}
theorem ak6{D:Ends}{g g':Gh}{H H':Hp}{σ':L2.St}{Z':Env}{M':Mo}{x:dR}{c:Value}{dd:Option Addr}(ha:Gg X.K aj hs ls)(r:Gr q g g' H H')(I:SInv X.K aj σ' H' g' Z' M')(xr:qX X.K aj g'.fr H' x c dd)
  (z:(hdl hs x Z' M').sat (sN X.K aj q D.nx g H) (sR X.K aj q D.rt g H) (sN X.K aj q D.bk g H) (sN X.K aj q D.ct g H) (sX X.K aj W q g H)):ZQ X.K W D ls c dd σ' H':=by
 induction ha with
 |nil=>exact z σ' H' g' c dd r I xr
 | @cons h l hs ls o _ ih=>
  obtain⟨⟨D0,o1,o2⟩,o3,o4,o5,o6⟩:=o;rw[hdl]at z;obtain⟨C,c1,c2,c3⟩:=id xr;split at z
  ·next ht=>
   refine⟨true,by rw[c2,o2];exact o3 _ _ _ ht c1 _ o1,λ_ a na=>?_,λy=>nomatch y⟩;rw[o4,o5];split at z
   ·next hm=>
    split at z
    ·next Z2 hr=>
     cases hnm:h.nm with
     |none=>
      rw[hnm]at hr z o6;exact⟨g',Z',M',x,Z2,⟨I,xr,λj hj=>nomatch hj⟩,hr,o6,λσ2 H2 e2 I2=>z σ2 H2 g' (r.trans (Gr.ex e2)) I2⟩
     |some i=>
      rw[hnm]at hr z o6 hm;refine⟨g',Z'.set i none,M',x,Z2,⟨I.off i _,xr,λj hj=>?_⟩,hr,o6,λσ2 H2 e2 I2=>z _ H2 g' (r.trans (Gr.ex e2)) (I2.off i none)⟩;cases hj;have hl:i < Z'.length:=asl hm;rw[ari (by rw[I.len];exact hl)]
    ·exact asi z
   ·exact asi z
  ·next ht=>exact⟨false,by rw[c2,o2];exact o3 _ _ _ ht c1 _ o1,(λy=>nomatch y),λ_=>ih z⟩
  ·exact asi z
theorem ak1(st:X.stack=X.env::X.outer)(hf:X.env.frame=some X.env.locals)(hN:X.N.Nodup)(tk:Takes X W)
  (hb:∀(W':WX) (pn:List (Addr×Obj)) (xe:Value->Shared->Prop),Takes (X.tr pn xe) W'->PassesOwn (model X.prog X.w) X.A X.env xe->Ep aj (X.tr pn xe) W' q body f)
  (hh:BX X (h0::hds) ls) (ha:Gg X.K aj hs ls):SE aj X W q (.Try body (h0::hds) [] [] pos) (Uc f hs):=by
 refine PS.weak (ah9 (tb:=λW'=>tS X.K aj W' q f) st hf hN tk (λW' pn xe t p=>hb W' pn xe t p) hh) λD σ H ⟨g,Z,M,I,z⟩=>?_;refine⟨g,Z,M,I,?_⟩;unfold Uc at z;cases hfm:f M Z with
 |next Z' M'=>rw[hfm]at z;exact z
 |ret d M'=>rw[hfm]at z;exact z
 |brk Z' M'=>rw[hfm]at z;exact z
 |cont Z' M'=>rw[hfm]at z;exact z
 |bad=>rw[hfm]at z;exact z
 |exc x Z' M'=>
  rw[hfm]at z;exact λσ' H' g' c dd r I' xr=>ak6 ha r I' xr z
end
section
variable{K:aqX}{aj:aQ}{W:WX}{g g':Gh}{H H':Hp}{σ:L2.St}{Z:Env}{M:Mo}
theorem jO.grow{l:Addr}(r:Gr false g g' H H')(e:Ex H H')(k:Kd g H):∀{n:Bool} {kvs:List (Dat×Dat)},jO K aj g H l n kvs->jO K aj g' H' l n kvs
 |false,_,⟨kv,h1,h2,h3⟩=>⟨kv,e _ _ h1,h2,h3.gr r k⟩
 |true,_,⟨o,xs,vs,h1,h2,h3,h4,h5,h6⟩=>⟨o,xs,vs,e _ _ h1,h2,h3,h4.gr r k,h5,h6.gr r k⟩
theorem eE.grow{h:Nat}{f:Str}{v:V}(r:Gr false g g' H H')(e:Ex H H')(o:g'.ow=g.ow)(k:Kd g H):∀{fl:jy},eE K aj g H h f v fl->eE K aj g' H' h f v fl
 |.dat _,z=>Rep.gr r k z
 |.lst _ _,⟨l,us,h1,h2,h3,h4,h5⟩=>⟨l,us,h1,e _ _ h2,by rw[o];exact h3,h4.gr r k,r.tb h5⟩
 |.dic _ _,⟨l,h1,h2,h3⟩=>⟨l,h1,by rw[o];exact h2,h3.grow r e k⟩
theorem cP.grow{h:Nat}(r:Gr false g g' H H')(e:Ex H H')(o:g'.ow=g.ow)(k:Kd g H){fs:List (Str×V)}{gs:List (Str×jy)}(t:cP K aj g H h fs gs):cP K aj g' H' h fs gs:=by
 induction t with
 |nil=>exact .nil
 |cons z _ ih=>exact .cons (z.grow r e o k) ih
def Gh.push(g:Gh)(x:Addr):Gh:={ g with tbl:=g.tbl++[x] }
theorem Z9{x a:Addr}(z:(g.push x).A a):g.A a∨a=x:=by
 rcases z with(z|z)|z|z
 ·rcases aq8.mp z with z|z
  ·exact .inl (.inl (.inl z))
  ·exact .inr (aq5.mp z)
 ·exact .inl (.inl (.inr z))
 ·exact .inl (.inr (.inl z))
 ·exact .inl (.inr (.inr z))
theorem Zd{x a:Addr}(z:(g.push x).W a):g.W a∨a=x:=by
 rcases z with z|z
 ·rcases aq8.mp z with z|z
  ·exact .inl (.inl z)
  ·exact .inr (aq5.mp z)
 ·exact .inl (.inr z)
theorem Us{x:Addr}(e:Ex H H')(nx:H x=none):Gr false g (g.push x) H H' where
 keep:=λa o h _ _=>e a o h
 keepW:=λz=>nomatch z
 dom:=Dk e
 tbl:=⟨[x],rfl⟩
 W:=λa z=>z.elim (λz=>.inl (arD _ z)) .inr
 nW:=λa z=>(Zd z).imp id λz=>by rw[z];exact nx
 qg:=λz=>nomatch z
 Lc:=rfl
 Lo:=λ_ z=>z
 nLo:=λ_ z=>.inl z
theorem abn{x:Addr}{o:HO}(k:Kd g H)(e:Ex H H')(nx:H x=none)(hx:H' x=some o)(m:Jk o):Kd (g.push x) H' where
 ob:=λa z=>by
  rcases Z9 z with z|rfl
  ·obtain⟨u,h1,h2⟩:=k.ob a z;exact⟨u,e _ _ h1,h2⟩
  ·exact⟨o,hx,m⟩
 lo:=λa z y=>by
  rcases Zd y with y|rfl
  ·exact k.lo a z y
  ·obtain⟨u,h1,_⟩:=k.ob a (.inr (.inr z));rw[nx]at h1;cases h1
 lc:=λa z=>by
  refine⟨λy=>?_,(k.lc a z).2⟩;rcases Zd y with y|rfl
  ·exact(k.lc a z).1 y
  ·obtain⟨u,h1,_⟩:=k.ob a (.inr (.inl z));rw[nx]at h1;cases h1
theorem Zx{x:Addr}{c:Str}(k:Kd g H)(w:fZ K aj g H M)(e:Ex H H')(nx:H x=none)(hx:c=""∨∃C dx,aj c=some C/\H' x=some (.ins C dx [])):fZ K aj (g.push x) H' (M++[⟨c,[]⟩]):=by
 have gt:∀{h:Nat} {a:Addr},(g.push x).tbl[h]?=some a->(g.tbl[h]?=some a)∨(h=M.length/\a=x):=λ{h a} z=>by
  have z:(g.tbl++[x])[h]?=some a:=z;by_cases hl:h < g.tbl.length
  ·rw[aq7 hl]at z;exact .inl z
  ·rw[arf (by omega)]at z;have:=(aqY.mp z).1;simp at this;have e0:h - g.tbl.length=0:=by omega
   rw[e0]at z;cases z;exact .inr ⟨by rw[←w.len];omega,rfl⟩
 have nin:∀{h:Nat},¬g.tbl[h]?=some x:=λ{h} z=>by
  obtain⟨u,h1,_⟩:=k.ob x (.inl (.inl (aq2 z)));rw[nx]at h1;cases h1
 have ex:∀{h:Nat} {i:Inst},(M++[(⟨c,[]⟩:Inst)])[h]?=some i->M[h]?=some i∨i=⟨c,[]⟩:=λ{h i} h1=>by
  by_cases hl:h < M.length
  ·rw[aq7 hl]at h1;exact .inl h1
  ·rw[arf (by omega)]at h1;exact .inr (aq5.mp (aq2 h1))
 refine⟨by show(g.tbl++[x]).length=_;simp[w.len],λh j a h1 h2=>?_,λh a i h1 h2 hcn=>?_,λh i h1=>?_,λh i h1=>?_,λh a i h1 h2 hcn=>?_,λh i h1 hcn=>?_,w.nc⟩
 ·rcases gt h1 with z1|⟨z1,rfl⟩
  ·rcases gt h2 with z2|⟨z2,rfl⟩
   ·exact w.inj h j a z1 z2
   ·exact absurd z1 nin
  ·rcases gt h2 with z2|⟨z2,_⟩
   ·exact absurd z2 nin
   ·omega
 ·rcases gt h1 with z1|⟨rfl,rfl⟩
  ·have hl:h < M.length:=by rw[←w.len];exact(aqY.mp z1).1
   rw[aq7 hl]at h2;obtain⟨C',dx',fs,c1,c2,c3⟩:=w.ins h a i z1 h2 hcn;exact⟨C',dx',fs,c1,e _ _ c2,c3.grow (Us e nx) e rfl k⟩
  ·rw[arf (arq _),Nat.sub_self]at h2;cases h2;rcases hx with rfl|⟨C,dx,hc,hx⟩
   ·exact absurd rfl hcn
   ·exact⟨C,dx,[],hc,hx,.nil⟩
 ·rcases ex h1 with h1|rfl
  ·exact w.nd h i h1
  ·exact List.nodup_nil
 ·rcases ex h1 with h1|rfl
  ·exact w.fd h i h1
  ·exact λf hf=>absurd hf arF
 ·rcases gt h1 with z1|⟨_,rfl⟩
  ·have hl:h < M.length:=by rw[←w.len];exact(aqY.mp z1).1
   rw[aq7 hl]at h2;exact w.tw h a i z1 h2 hcn
  ·cases hz:g.ow a with
   |none=>exact hz
   |some p=>
    obtain⟨u,h2,_⟩:=k.ob a (.inl (.inr (by rw[hz];exact λy=>nomatch y)));rw[nx]at h2;cases h2
 ·rcases ex h1 with h1|rfl
  ·exact w.dm h i h1 hcn
  ·rfl
theorem SInv.grow{M':Mo}(r:Gr false g g' H H')(e:Ex H H')(lo:g'.Lo=g.Lo)(k':Kd g' H')(w':fZ K aj g' H' M')(I:SInv K aj σ H g Z M):SInv K aj σ H' g' Z M' where
 kd:=k'
 wok:=w'
 len:=I.len
 dat:=λi d h=>by
  obtain⟨v,h1,h2⟩:=I.dat i d h;exact⟨v,h1,h2.gr r I.kd⟩
 own:=λi xs h=>by
  obtain⟨l,us,h1,h2,h3,h4⟩:=I.own i xs h;exact⟨l,us,h1,e _ _ h2,by rw[lo];exact h3,h4.gr r I.kd⟩
 sep:=I.sep
end
theorem ab4{P:Program}{w:World}{K:aqX}{mg:Str->Option Value}{base:Heap}{k:Nat}{f:Addr}{fd:FuncData}{ps:List Str}{sp:Sp}(F:FnOk P w K mg base (L2.CX P w) k f fd ps sp):FnOk P w K mg base L2.CX0 k f fd ps λvs H Q _=>sp vs H Q λ_ _ _=>False:=
 ⟨λvs H Q E h=>F.len vs H Q _ h,λA outer s H args us vs Q E hr he hb hv h=>codeAny_mono (F.run A outer s H args us vs Q _ hr he hb hv h) λr s' z=>by
  unfold CR at z ⊢;split at z
  ·exact z
  ·exact z
  ·obtain⟨a,B,H',cls,d,_,_,_,_,_,_,_,y⟩:=z;exact asi y⟩
def Ax(x:Str)(m:Mo->List Dat->bh Dat)(as:QA):GF:=λM Z=>((as M Z).at M).bind λds _=>match m (M++[⟨x,[]⟩]) (obj M.length::ds) with
 |.ok .none M'=>.ok (obj M.length) M'
 |_=>.bad
section
variable{X:Cx}{aj:aQ}{W:WX}{x:Str}{pos p:Pos}{k n:Nat}{m:Mo->List Dat->bh Dat}{as:QA}{t:TA}{e:Expr}{es:List Expr}
theorem acN{C f:Addr}{fd:FuncData}{ps:List Str}(hc:aj x=some C)(hp:ps.length=n+1)(hn:∀M Z ds,as M Z=.ok ds->ds.length=n)(ht:∀σ H Q,N6 X.K aj W as σ H Q->t σ H Q)(σ:L2.St)(H:Hp)(Q:VK)(h:tE X.K aj W false (Ax x m as) σ H Q) :
  tMake C (λvs H Q _=>JG X.K aj ps.length m vs H Q λ_ _ _=>False) [] (λ_ _ _=>False) t σ H Q:=by
 obtain⟨g,Z,M,I,h⟩:=h;unfold Ax at h;have h:=h.bnd;refine ht σ H _ ⟨g,Z,M,I,?_⟩;cases has:as M Z with
 |exc x=>rw[has]at h;exact λH' c dd e r=>h H' g c dd (Gr.ex e) (I.ex e) r
 |bad=>rw[has]at h;exact asi h
 |ok ds=>
  rw[has]at h;intro vs H1 e1 r1 y dx ny ndx ne;have I1:=I.ex e1;have e2:Ex H1 (upd (upd H1 dx (.own y)) y (.ins C dx [])):=by refine(Ex.new ndx).trans (Ex.new ?_);rw[upd_ne ne.symm];exact ny
  have hy:upd (upd H1 dx (.own y)) y (.ins C dx []) y=some (.ins C dx []):=upd_same;have gr:=Us (g:=g) e2 ny;have kd:=abn I1.kd e2 ny hy trivial;have wk:=Zx (c:=x) I1.kd I1.wok e2 ny (.inr ⟨C,dx,hc,hy⟩);have I2:=I1.grow gr e2 rfl kd wk;have hb:(g.push y).tbl[M.length]?=some y:=by
   show(g.tbl++[y])[M.length]?=_
   rw[←I1.wok.len,arf (arq _),Nat.sub_self];rfl
  refine⟨by rw[arR,ard,r1.length,hn M Z ds has,hp],g.push y,M++[⟨x,[]⟩],obj M.length::ds,kd,wk,.cons (.obj hb) (by rw[arR];exact r1.gr gr I1.kd),?_⟩;have h:bh.sat (match m (M++[(⟨x,[]⟩:Inst)]) (obj M.length::ds) with
   |.ok .none M'=>bh.ok (obj M.length) M'
   |_=>.bad) (λd M'=>∀v H' g',Gr false g g' H H'->SInv X.K aj σ H' g' Z M'->Rep X.K g' H' v d->Q v H') (gE X.K aj W false g H σ Z):=h
  cases hm:m (M++[⟨x,[]⟩]) (obj M.length::ds) with
  |bad=>rw[hm]at h;exact asi h
  |exc z M'=>rw[hm]at h;exact asi h
  |ok d M'=>
   rw[hm]at h;cases d with
   |none=>exact λv H' g' c k' w' r'=>⟨by cases r';rfl,h (.ref y) H' g' (((Gr.ex e1).trans gr).trans c.gr) (I2.call c k' w') (.obj (c.gr.tb hb))⟩
   |_=>exact asi h
theorem ai1(hr:Room k X.A)(g:bA X.prog X.w X.K X.mg X.base aj k x (.cls n m))(hg:Gl X x)(hd:(x==("__debug__" : Str))=false)(ha:Hw aj X W (e::es) as)(hs:(e::es).all nst=true)(hn:∀M Z ds,as M Z=.ok ds->ds.length=n) :
  GE aj X W false (.Call (.Name x p) (e::es) [] pos) (Ax x m as):=by
 obtain⟨C,f,fd,ps,j,g1,g2,_,g3,hj,hp,hB,F⟩:=g;have hs':=hs;rw[arJ,aqZ]at hs';exact PE.weak (pe_make (E:=λ_ _ _=>False) g3 (ab4 F) (hr.mono hj) hg g1 hB .nil pass0 ha hd (cU hs'.1 es) (star_any es hs'.2)) λσ H Q h=>acN (f:=f) (fd:=fd) g2 hp hn (λ_ _ _ z=>z) σ H Q h
theorem agI(hr:Room k X.A)(g:bA X.prog X.w X.K X.mg X.base aj k x (.cls 0 m))(hg:Gl X x)(hd:(x==("__debug__" : Str))=false):GE aj X W false (.Call (.Name x p) [] [] pos) (Ax x m au):=by obtain⟨C,f,fd,ps,j,g1,g2,_,g3,hj,hp,hB,F⟩:=g;exact PE.weak (pe_make0 (E:=λ_ _ _=>False) g3 (ab4 F) (hr.mono hj) hg g1 hB .nil pass0 hd) λσ H Q h=>acN (f:=f) (fd:=fd) (as:=au) g2 hp (λM Z ds z=>by cases z;rfl) (λσ H Q ⟨g,Z,M,I,z⟩=>z [] H (Ex.refl H) .nil) σ H Q h
end
def DW(m:Mo->List Dat->bh Dat)(as:QA):GF:=λM Z=>((as M Z).at M).bind λds _=>m M ds
section
variable{X:Cx}{aj:aQ}{W:WX}{e:Expr}{es:List Expr}{pos p:Pos}{x:Str}{k:Nat}{f:Addr}{fd:FuncData}{ps:List Str}
theorem aht{m:Mo->List Dat->bh Dat}{as:QA}(tk:Takes X W)(F:FnOk X.prog X.w X.K X.mg X.base (L2.CX X.prog X.w) k f fd ps (JG X.K aj ps.length m))(hr:Room k X.A)(hg:Gl X x)(hm:X.mg x=some (.ref f))(hk:PySem.W.keepIn X.K (.ref f)=true)(hb:Binds X.K fd ps [])
  (ha:Hw aj X W (e::es) as) (hl:(e::es).length=ps.length) (hd:(x==("__debug__" : Str))=false) (hs:(e::es).all nst=true) (hn:∀M Z ds,as M Z=.ok ds->ds.length=(e::es).length):GE aj X W false (.Call (.Name x p) (e::es) [] pos) (DW m as):=by
 have hs':=hs;rw[arJ,aqZ]at hs';refine PE.weak (pe_callS (E:=λσ=>WE W σ) F hr hg hm hk hb (λσ=>passAt tk σ) ha hd (cU hs'.1 es) (star_any es hs'.2)) λσ H Q ⟨g,Z,M,I,h⟩=>?_;refine⟨g,Z,M,I,?_⟩;have h:=h.bnd;cases has:as M Z with
 |exc x=>rw[has]at h;exact λH' c dd e r=>h H' g c dd (Gr.ex e) (I.ex e) r
 |bad=>rw[has]at h;exact asi h
 |ok ds=>
  rw[has]at h;have h:(m M ds).sat (λd M'=>∀v H' g',Gr false g g' H H'->SInv X.K aj σ H' g' Z M'->Rep X.K g' H' v d->Q v H') (gE X.K aj W false g H σ Z):=h;intro vs H1 e1 r1;exact⟨by rw[r1.length,hn M Z ds has];exact hl,g,M,ds,I.kd.ex e1,I.wok.ex e1 I.kd,r1,h.mono (λd M' kk v H' g' c k' w' r'=>kk v H' g' ((Gr.ex e1).trans c.gr) ((I.ex e1).call c k' w') r') λx M' kk H' g' cc dd c k' w' r'=>kk H' g' cc dd ((Gr.ex e1).trans c.gr) ((I.ex e1).call c k' w') r'⟩
end
def Ft.has(ft:Ft)(c f:Str):Bool:=match ft.lookup c with
 |some fs=>fs.contains f
 |none=>false
def Le(ft:Ft)(aj:aQ):Prop:=∀c f,ft.has c f=true->f∈aj.fl c
def unH:Dat->Option Nat
 |.dict [(.none,.int (.ofNat h))]=>some h
 |_=>none
theorem af0{d:Dat}{h:Nat}(e:unH d=some h):d=obj h:=by
 unfold unH at e;split at e
 ·cases e;rfl
 ·cases e
def kZ(M:Mo)(d:Dat):Option (Nat×Inst):=(unH d).bind λh=>(M[h]?).bind λi=>match i.cls=="" with
 |true=>none
 |false=>some (h,i)
theorem Iz{M:Mo}{d:Dat}{h:Nat}{i:Inst}(e:kZ M d=some (h,i)):d=obj h/\M[h]?=some i/\i.cls≠"":=by
 unfold kZ at e;obtain⟨h',e1,e⟩:=aqW.mp e;obtain⟨i',e2,e⟩:=aqW.mp e;split at e
 ·cases e
 ·next hc=>
  cases e;exact⟨af0 e1,e2,λz=>by rw[z]at hc;cases hc⟩
def uN(ft:Ft)(o:QF)(f:Str)(e:GF):SF:=λM Z=>(e M Z).then Z λd M1=>((o M1 Z).at M1).then Z λod M2=>match kZ M2 od with
 |some (h,i)=>match ft.has i.cls f&&decide (i.fs.length < 100) with
  |true=>.next Z (M2.set h (i.put f (.dat d)))
  |false=>.bad
 |none=>.bad
theorem SInv.chg{K:aqX}{aj:aQ}{σ:L2.St}{H H':Hp}{g g':Gh}{Z:Env}{M M':Mo}{h:Nat}{f:Str}(I:SInv K aj σ H g Z M)(c:Chg M g g' H H' h f)(w:fZ K aj g' H' M'):SInv K aj σ H' g' Z M':=I.call c.gc c.kd w
section
variable{X:Cx}{aj:aQ}{W:WX}{o e:Expr}{f:Str}{pos pos':Pos}{ft:Ft}{fo:QF}
theorem GZ{K:aqX}{g:Gh}{H:Hp}{M:Mo}{d:Dat}{v:V}{h:Nat}{i:Inst}(co:jF K aj)(fk:Le ft aj)(w:fZ K aj g H M)(r:eU K g H v d)(hi:kZ M d=some (h,i))(hf:ft.has i.cls f=true):∃a C dx fs,d=obj h/\M[h]?=some i/\i.cls≠""/\g.tbl[h]?=some a/\v=.ref a/\aj i.cls=some C/\H a=some (.ins C dx fs)/\cP K aj g H h fs i.fs/\Cls K C/\NoAttr K C f/\f∈aj.fl i.cls:=by obtain⟨rfl,h1,h2⟩:=Iz hi;obtain⟨a,rfl,ha⟩:=La r;obtain⟨C,dx,fs,c1,c2,c3⟩:=w.ins h a i ha h1 h2;have hfl:=fk _ _ hf;obtain⟨k1,k2⟩:=co i.cls C f c1 hfl;exact⟨a,C,dx,fs,rfl,h1,h2,ha,rfl,c1,c2,c3,k1,k2,hfl⟩
theorem ahI{fe:GF}(co:jF X.K aj)(fk:Le ft aj)(ho:QW aj X W o fo)(he:GE aj X W false e fe)(hs:swapsWith e (some (.Attribute o f pos')) pos.line X.env=pure false):SE aj X W false (.Assign [.Attribute o f pos'] e pos) (uN ft fo f fe):=by
 refine PS.weak (ps_fld ho he hs) λD σ H ⟨g,Z,M,I,z⟩=>?_;refine tE.go I (cY (σ:=σ) z) λd M1 v H1 g1 k1 r1 I1 rv=>?_;refine tW.go I1 (k:=λod=>((match kZ M1 od with
  |some (h,i)=>match ft.has i.cls f&&decide (i.fs.length < 100) with
   |true=>vq.next Z (M1.set h (i.put f (.dat d)))
   |false=>.bad
  |none=>.bad).sat (sN X.K aj false D.nx g H) (sR X.K aj false D.rt g H) (sN X.K aj false D.bk g H) (sN X.K aj false D.ct g H) (sX X.K aj W false g H))) ?_ λod u H2 k2 e2 ru=>?_
 ·have k1:=Out.iV (cY (σ:=σ) k1);exact k1.mono (λ_ y=>y) λx y H' c dd ex rx=>y H' g1 c dd (r1.trans (Gr.ex ex)) (I1.ex ex) rx
 ·have I2:=I1.ex e2;split at k2
  ·next h i hi=>
   split at k2
   ·next hb=>
    rw[aqZ]at hb;obtain⟨a,C,dx,fs,_,m1,m2,ha,rfl,c1,c2,c3,c4,c5,c6⟩:=GZ co fk I2.wok ru hi hb.1;refine⟨a,C,dx,fs,rfl,c2,c4,c5,?_,?_⟩
    ·have:=asl hb.2;rw[c3.len];omega
    ·have ch:=S8 (f:=f) (C:=C) (dx:=dx) (fs':=putF f v fs) I2.kd I2.wok ha m1 m2;have w':=I2.wok.chg I2.kd ch ha m1 m2 c6 c1 c3 upd_same (fl:=.dat d) (show Rep X.K g1 _ v d from(rv.ex e2 I1.kd).gr ch.gc.gr I2.kd);exact k2 σ _ g1 ((r1.trans (Gr.ex e2)).trans ch.gc.gr) (I2.chg ch w')
   ·exact asi k2
  ·exact asi k2
end
mutual
theorem Rep.mv{K:aqX}{g g':Gh}{H:Hp}(tb:∀(h:Nat) (a:Addr),g.tbl[h]?=some a->g'.tbl[h]?=some a)(n:∀a,g'.A a->g.A a):∀{v:V} {d:Dat},Rep K g H v d->Rep K g' H v d
 |_,_,.non=>.non
 |_,_,.bl b=>.bl b
 |_,_,.int i=>.int i
 |_,_,.str x=>.str x
 |_,_,.tup h t=>.tup h (aK.mv tb n t)
 |_,_,.lst h t=>.lst (h.elim (λz=>.inl ⟨z.1,λy=>z.2 (n _ y)⟩) .inr) (aK.mv tb n t)
 |_,_,.obj h=>.obj (tb _ _ h)
theorem aK.mv{K:aqX}{g g':Gh}{H:Hp}(tb:∀(h:Nat) (a:Addr),g.tbl[h]?=some a->g'.tbl[h]?=some a)(n:∀a,g'.A a->g.A a):∀{vs:List V} {ds:List Dat},aK K g H vs ds->aK K g' H vs ds
 |_,_,.nil=>.nil
 |_,_,.cons h t=>.cons (Rep.mv tb n h) (aK.mv tb n t)
end
def Dy(ft:Ft)(o:QF)(f:Str)(e:IF):SF:=λM Z=>((e M Z).at M).then Z λxs M0=>((o (M0++[⟨"",[]⟩]) Z).at (M0++[⟨"",[]⟩])).then Z λod M2=>match kZ M2 od with
 |some (h,i)=>match ft.has i.cls f&&decide (i.fs.length < 100) with
  |true=>.next Z (M2.set h (i.put f (.lst M0.length xs)))
  |false=>.bad
 |none=>.bad
theorem Ma{K:aqX}{aj:aQ}{σ:L2.St}{H H':Hp}{g:Gh}{Z:Env}{M:Mo}{l:Addr}{o:HO}(I:SInv K aj σ H g Z M)(nl:H l=none)(e:Ex H H')(hl:H' l=some o)(m:Jk o):Gr false g (g.push l) H H'/\SInv K aj σ H' (g.push l) Z (M++[⟨"",[]⟩])/\(g.push l).tbl[M.length]?=some l/\(g.push l).ow l=none/\(M++[(⟨"",[]⟩:Inst)])[M.length]?=some ⟨"",[]⟩:=by
 have gr:=Us (g:=g) e nl;have kd:=abn I.kd e nl hl m;have wk:=Zx (c:="") I.kd I.wok e nl (.inl rfl)
 refine⟨gr,I.grow gr e rfl kd wk,?_,?_,?_⟩
 ·show(g.tbl++[l])[M.length]?=_
  rw[←I.wok.len,arf (arq _),Nat.sub_self];rfl
 ·cases hz:g.ow l with
  |none=>exact hz
  |some p=>
   obtain⟨u,h1,_⟩:=I.kd.ob l (.inl (.inr (by rw[hz];exact λy=>nomatch y)));rw[nl]at h1;cases h1
 ·rw[arf (arq _),Nat.sub_self];rfl
section
variable{X:Cx}{aj:aQ}{W:WX}{o e:Expr}{f:Str}{pos pos' p1 apos epos spos:Pos}{ft:Ft}{fo:QF}
theorem ain{fe:IF}(co:jF X.K aj)(fk:Le ft aj)(ho:QW aj X W o fo)(he:FE aj X W e fe)(hs:swapsWith e (some (.Attribute o f pos')) pos.line X.env=pure false):SE aj X W false (.Assign [.Attribute o f pos'] e pos) (Dy ft fo f fe):=by
 refine PS.weak (ps_fld ho he hs) λD σ H ⟨g,Z,M,I,z⟩=>?_;refine⟨g,Z,M,I,?_⟩;unfold Dy at z;cases hf:fe M Z with
 |exc x=>rw[hf]at z;exact λH' c dd e r=>z σ H' g c dd (Gr.ex e) (I.ex e) r.fr
 |bad=>rw[hf]at z;exact asi z
 |ok xs=>
  rw[hf]at z;intro l us H1 nl e1 hl rs;obtain⟨gr,I1,tb,ow,mm⟩:=Ma I nl e1 hl trivial;have rs1:aK X.K (g.push l) H1 us xs:=aK.mv (g:=g.add l) (g':=g.push l) (λh a z=>gr.tb (g:=g) z) (λa z=>by
   rcases Z9 z with z|rfl
   ·rcases z with z|z|z
    ·exact .inl z
    ·exact .inr (.inl z)
    ·exact .inr (.inr (show g.Lo a∨a=l from Or.inl z))
   ·exact .inr (.inr (show g.Lo a∨a=a from Or.inr rfl))) rs
  have z:(((fo (M++[⟨"",[]⟩]) Z).at (M++[⟨"",[]⟩])).then Z λod M2=>match kZ M2 od with
   |some (h,i)=>match ft.has i.cls f&&decide (i.fs.length < 100) with
    |true=>.next Z (M2.set h (i.put f (.lst M.length xs)))
    |false=>.bad
   |none=>.bad).sat (sN X.K aj false D.nx g H) (sR X.K aj false D.rt g H) (sN X.K aj false D.bk g H) (sN X.K aj false D.ct g H) (sX X.K aj W false g H):=z
  have k1:=Out.iV (cY (σ:=σ) z);refine tW.go I1 (k1.mono (λ_ y=>y) λx y H' c dd ex rx=>y H' _ c dd (gr.trans (Gr.ex ex)) (I1.ex ex) rx) λod u H2 k2 e2 ru=>?_;have I2:=I1.ex e2;split at k2
  ·next h i hi=>
   split at k2
   ·next hb=>
    rw[aqZ]at hb;obtain⟨a,C,dx,fs,_,m1,m2,ha,rfl,c1,c2,c3,c4,c5,c6⟩:=GZ co fk I2.wok ru hi hb.1;have nla:l≠a:=λz=>by
     subst z;cases I2.wok.inj _ _ _ ha tb;rw[mm]at m1;cases m1;exact m2 rfl
    refine⟨a,C,dx,fs,rfl,c2,c4,c5,?_,?_⟩
    ·have:=asl hb.2;rw[c3.len];omega
    ·have ch:=Tj (f:=f) (C:=C) (dx:=dx) (fs':=putF f (.ref l) fs) I2.kd I2.wok ha m1 m2 tb mm ow;have w':=I2.wok.chg I2.kd ch ha m1 m2 c6 c1 c3 upd_same (v:=.ref l) (fl:=.lst M.length xs) ⟨l,us,rfl,by rw[upd_ne nla];exact e2 _ _ hl,if_pos rfl,(rs1.ex e2 I1.kd).gr ch.gc.gr I2.kd,ch.gc.gr.tb tb⟩;exact k2 σ _ _ ((gr.trans (Gr.ex e2)).trans ch.gc.gr) (I2.chg ch w')
   ·exact asi k2
  ·exact asi k2
def Fd(M:Mo)(f:Str)(d:Dat):Option (Nat×Inst×Nat×List Dat):=(kZ M d).bind λp=>match p.2.fs.lookup f with
 |some (.lst n xs)=>some (p.1,p.2,n,xs)
 |_=>none
theorem U8{K:aqX}{g:Gh}{H:Hp}{M:Mo}{d:Dat}{v:V}{h n:Nat}{i:Inst}{xs:List Dat}(co:jF K aj)(w:fZ K aj g H M)(r:eU K g H v d)(hi:Fd M f d=some (h,i,n,xs)) :
  ∃a C dx fs l us,d=obj h/\M[h]?=some i/\i.cls≠""/\i.fs.lookup f=some (.lst n xs)/\g.tbl[h]?=some a/\v=.ref a/\aj i.cls=some C/\H a=some (.ins C dx fs)/\cP K aj g H h fs i.fs/\Cls K C/\NoAttr K C f/\f∈aj.fl i.cls/\fs.lookup f=some (.ref l)/\H l=some (.lst us)/\g.ow l=some (h,f)/\aK K g H us xs/\g.tbl[n]?=some l:=by
 unfold Fd at hi;obtain⟨⟨h',i'⟩,h1,hi⟩:=aqW.mp hi;split at hi
 ·next n' xs' hl=>
  cases hi;obtain⟨rfl,m1,m2⟩:=Iz h1;obtain⟨a,rfl,ha⟩:=La r;obtain⟨C,dx,fs,c1,c2,c3⟩:=w.ins _ a _ ha m1 m2;have hfl:=w.fd _ _ m1 f (lookup_mem hl);obtain⟨k1,k2⟩:=co _ C f c1 hfl;obtain⟨u,l1,l,us,rfl,l3,l4,l5,l6⟩:=c3.get hl;exact⟨a,C,dx,fs,l,us,rfl,m1,m2,hl,ha,rfl,c1,c2,c3,k1,k2,hfl,l1,l3,l4,l5,l6⟩
 ·cases hi
theorem abh{K:aqX}{σ:L2.St}{Z:Env}{g:Gh}{H:Hp}{M:Mo}{h n:Nat}{i:Inst}{ys:List Dat}{a C dx l:Addr}{fs:List (Str×V)}{us':List V}(I:SInv K aj σ H g Z M)(m1:M[h]?=some i)(m2:i.cls≠"")(ha:g.tbl[h]?=some a)(c1:aj i.cls=some C)(c2:H a=some (.ins C dx fs))(c3:cP K aj g H h fs i.fs)(hfl:f∈aj.fl i.cls)(l1:fs.lookup f=some (.ref l))(l4:g.ow l=some (h,f))(l6:g.tbl[n]?=some l)(rs:aK K g H us' ys) :
  Gr false g g H (upd H l (.lst us'))/\SInv K aj σ (upd H l (.lst us')) g Z (M.set h (i.put f (.lst n ys))):=by
 have ch:=aeh (o':=.lst us') I.kd I.wok l4 trivial;have nla:a≠l:=λz=>by
  subst z;rw[I.wok.tw h a i ha m1 m2]at l4;cases l4
 have w':=I.wok.chg I.kd ch ha m1 m2 hfl c1 (dx:=dx) c3 (v:=.ref l) (fl:=.lst n ys) (by rw[upd_ne nla,Mg l1];exact c2) ⟨l,us',rfl,upd_same,l4,rs.gr ch.gc.gr I.kd,l6⟩;exact⟨ch.gc.gr,I.chg ch w'⟩
def Eo(f:Str)(o:QF)(e:GF):SF:=λM Z=>((o M Z).at M).then Z λod M0=>match Fd M0 f od with
 |some (_,_,n,_)=>(e M0 Z).then Z λd M1=>match Fd M1 f od with
  |some (h,i,n',xs)=>match n==n'&&decide (xs.length < 100000) with
   |true=>.next Z (M1.set h (i.put f (.lst n (xs++[d]))))
   |false=>.bad
  |none=>.bad
 |none=>.bad
theorem aha{fe:GF}(co:jF X.K aj)(ho:QW aj X W o fo)(hb:baseOk o=true)(he:GE aj X W false e fe)(hs:nst e=true)(hl:(apos.endLine==pos.line)=true) :
  SE aj X W false (.Expr (.Call (.Attribute (.Attribute o f p1) "append" apos) [e] [] pos) epos) (Eo f fo fe):=by
 have h0:=pe_fld (X:=X) (pos:=p1) (f:=f) ho (ni hb);have h1:=pa_cons he pa_nil (cU hs []);have key:=pe_bm (X:=X) (cpos:=pos) (apos:=apos) PySem.F.plainAttrs_list PySem.F.slot_list_append PySem.F.type_list_append mt_append h0 h1 (ni rfl) (few (by simp[hs]) (by simp)) hl (cU hs []) (by with_unfolding_all rfl);refine PS.weak (ps_expr key (by with_unfolding_all rfl)) λD σ H ⟨g,Z,M,I,z⟩=>?_;unfold Eo at z;have k1:=Out.iV (cY (σ:=σ) z);refine tW.go I (k1.mono (λ_ y=>y) λx y H' c dd ex rx=>y H' _ c dd (Gr.ex ex) (I.ex ex) rx) λod u H1 k2 e1 ru=>?_;have I1:=I.ex e1;split at k2
 ·next h0' i0 n xs0 hi=>
  obtain⟨a,C,dx,fs,l,us,rfl,m1,m2,ml,ha,rfl,c1,c2,c3,c4,c5,c6,l1,l3,l4,l5,l6⟩:=U8 co I1.wok ru hi;refine⟨a,C,dx,fs,.ref l,rfl,c2,c4,c5,l1,.inl ⟨rfl,us,sq_of l3⟩,?_⟩;refine tE.go I1 ((cY (σ:=σ) k2).mono (λ_ _ y=>y) λx M' y=>y.gr (Gr.ex e1)) λd M1 v H2 g2 k3 r2 I2 rv=>?_;split at k3
  ·next h i n' xs hi2=>
   split at k3
   ·next hg=>
    rw[aqZ]at hg;cases eq_of_beq hg.1;have ru2:eU X.K g2 H2 (.ref a) (obj h0'):=Rep.weak (.obj (r2.tb ha));obtain⟨a',C',dx',fs',l',us',eh,n1,n2,nl,hb',ea,d1,d2,d3,d4,d5,d6,p1,p3,p4,p5,p6⟩:=U8 co I2.wok ru2 hi2;cases ea;have el:l'=l:=ark (p6.symm.trans (r2.tb l6));subst el;obtain⟨gr,I3⟩:=abh (us':=us'++[v]) (ys:=xs++[d]) I2 n1 n2 hb' d1 d2 d3 d6 p1 p4 p6 (p5.append (.cons rv .nil));refine⟨l',us',v,rfl,rfl,p3,sz_lt (by rw[p5.length];exact asl hg.2),?_⟩;exact k3 σ _ g2 (((Gr.ex e1).trans r2).trans gr) I3
   ·exact asi k3
  ·exact asi k3
 ·exact asi k2
def QV(f:Str)(o fi e:QF):SF:=λM Z=>((e M Z).at M).then Z λd _=>((o M Z).at M).then Z λod _=>match Fd M f od with
 |some (h,i,n,xs)=>((fi M Z).at M).then Z λk _=>match k with
  |.int k=>match ixN xs.length k with
   |some j=>.next Z (M.set h (i.put f (.lst n (xs.set j d))))
   |none=>.bad
  |_=>.bad
 |none=>.bad
theorem ag9{i:Expr}{fi fe:QF}(co:jF X.K aj)(ho:QW aj X W o fo)(hb:baseOk o=true)(he:QE aj X W e fe)(hi:QE aj X W i fi)
  (ha:∀v,assign (.Subscript (.Attribute o f p1) i spos) X.env v=(do
   let ov ←holding [v] (eval (.Attribute o f p1) X.env)
   let iv ←holding [v,ov] (eval i X.env)
   standAt spos
   holding [v,ov,iv] (setItem ov iv v)
   release [v,ov,iv] []))
  (hs:swapsWithSole [.Subscript (.Attribute o f p1) i spos] e pos.line X.env=pure false) (h1:(assignEach [.Subscript (.Attribute o f p1) i spos] X.env).map (·.2)=[assign (.Subscript (.Attribute o f p1) i spos) X.env]):SE aj X W false (.Assign [.Subscript (.Attribute o f p1) i spos] e pos) (QV f fo fi fe):=by
 have h0:=pe_fld (X:=X) (pos:=p1) (f:=f) ho (ni hb);refine PS.weak (ps_asg he (pg_sub h0 hi set_list ha) hs (by with_unfolding_all rfl) h1) λD σ H ⟨g,Z,M,I,z⟩=>?_;unfold QV at z;have k1:=Out.iV (cY (σ:=σ) z);refine tQ.go I (k1.mono (λ_ y=>y) λx y H' c dd ex rx=>y H' _ c dd (Gr.ex ex) (I.ex ex) rx) λd v H1 k2 e1 rv=>?_;have I1:=I.ex e1;have k2:=Out.iV (cY (σ:=σ) k2);refine tW.go I1 (k2.mono (λ_ y=>y) λx y H' c dd ex rx=>y H' _ c dd ((Gr.ex e1).trans (Gr.ex ex)) (I1.ex ex) rx) λod u H2 k3 e2 ru=>?_;have I2:=I1.ex e2;have e12:=e1.trans e2;split at k3
 ·next h i' n xs hl=>
  obtain⟨a,C,dx,fs,l,us,rfl,m1,m2,ml,ha',rfl,c1,c2,c3,c4,c5,c6,l1,l3,l4,l5,l6⟩:=U8 co I2.wok ru hl;refine⟨a,C,dx,fs,.ref l,rfl,c2,c4,c5,l1,?_⟩;have k3:=Out.iV (cY (σ:=σ) k3);refine tQ.go I2 (k3.mono (λ_ y=>y) λx y H' c dd ex rx=>y H' _ c dd ((Gr.ex e12).trans (Gr.ex ex)) (I2.ex ex) rx) λk w H3 k4 e3 rw'=>?_;have I3:=I2.ex e3;cases k with
  |int k=>
   simp only at k4;split at k4
   ·next j hj=>
    cases rw';obtain⟨gr,I4⟩:=abh (us':=us.set j v) (ys:=xs.set j d) I3 m1 m2 ha' c1 (e3 _ _ c2) (c3.ex e3 I2.kd) c6 l1 l4 l6 (((l5.ex e3 I2.kd).set ((rv.ex e2 I1.kd).ex e3 I2.kd) j));refine⟨l,us,k,j,rfl,rfl,e3 _ _ l3,by rw[l5.length];exact hj,?_⟩;exact k4 σ _ g ((Gr.ex (e12.trans e3)).trans gr) I4
   ·exact asi k4
  |_=>exact asi k4
 ·exact asi k3
def RG(ft:Ft)(f:Str)(o e:QF):SF:=λM Z=>((o M Z).at M).then Z λod _=>match kZ M od with
 |some (h,i)=>match i.fs.lookup f,ft.has i.cls f&&decide (i.fs.length < 100) with
  |some (.dat (.int a)),true=>((e M Z).at M).then Z λd _=>match d with
   |.int b=>.next Z (M.set h (i.put f (.dat (.int (a+b)))))
   |_=>.bad
  |_,_=>.bad
 |none=>.bad
theorem afB:InOp X .Add (λx y H Q=>∃i j,x=.int i/\y=.int j/\Q (.int (i+j)) H):=by intro pins s σ H x y u v Q I rx ry h;obtain⟨i,j,rfl,rfl,q⟩:=h;exact iop_add pins s σ H _ _ u v Q I rx ry ⟨i,j,rfl,rfl,q⟩
theorem ahs{fe:QF}{tpos:Pos}(co:jF X.K aj)(fk:Le ft aj)(ho:QW aj X W o fo)(he:QE aj X W e fe):SE aj X W false (.AugAssign (.Attribute o f tpos) .Add e pos) (RG ft f fo fe):=by
 refine PS.weak (ps_fldaug ho he afB) λD σ H ⟨g,Z,M,I,z⟩=>?_;unfold RG at z;have k1:=Out.iV (cY (σ:=σ) z);refine tW.go I (k1.mono (λ_ y=>y) λx y H' c dd ex rx=>y H' _ c dd (Gr.ex ex) (I.ex ex) rx) λod u H1 k2 e1 ru=>?_;have I1:=I.ex e1;split at k2
 ·next h i hi=>
  split at k2
  ·next b hlk hb=>
   rw[aqZ]at hb;obtain⟨a,C,dx,fs,_,m1,m2,ha,rfl,c1,c2,c3,c4,c5,c6⟩:=GZ co fk I1.wok ru hi hb.1;obtain⟨v,l1,l2⟩:=c3.get hlk;refine⟨a,C,dx,fs,v,rfl,c2,c4,c5,l1,?_⟩;have k2:=Out.iV (cY (σ:=σ) k2);refine tQ.go I1 (k2.mono (λ_ y=>y) λx y H' c dd ex rx=>y H' _ c dd ((Gr.ex e1).trans (Gr.ex ex)) (I1.ex ex) rx) λd w H2 k3 e2 rd=>?_;have I2:=I1.ex e2;cases d with
   |int j=>
    cases rd;have l2:Rep X.K g H1 v (.int b):=l2;cases l2;refine⟨b,j,rfl,rfl,dx,fs,e2 _ _ c2,?_,?_⟩
    ·have:=asl hb.2;rw[c3.len];omega
    ·have ch:=S8 (f:=f) (C:=C) (dx:=dx) (fs':=putF f (.int (b+j)) fs) I2.kd I2.wok ha m1 m2;have w':=I2.wok.chg I2.kd ch ha m1 m2 c6 c1 (c3.ex e2 I1.kd) upd_same (v:=.int (b+j)) (fl:=.dat (.int (b+j))) (show Rep X.K g _ _ _ from .int _);exact k3 σ _ g ((Gr.ex (e1.trans e2)).trans ch.gc.gr) (I2.chg ch w')
   |_=>exact asi k3
  ·exact asi k2
 ·exact asi k2
end
mutual
def uw:Dat->Option NestedKey
 |.none=>some .none
 |.int i=>some (.num i)
 |.str x=>some (.text x)
 |.tuple ds=>(xq ds).map .tup
 |.bool _=>none
 |.list _=>none
 |.dict _=>none
def xq:List Dat->Option (List NestedKey)
 |[]=>some []
 |d::ds=>(uw d).bind λk=>(xq ds).bind λks=>some (k::ks)
end
mutual
theorem Ab:∀{d:Dat} {k:NestedKey},uw d=some k->k.data=d
 |.none,_,h=>by cases h;rfl
 |.int i,_,h=>by cases h;rfl
 |.str x,_,h=>by cases h;rfl
 |.tuple ds,_,h=>by
  rw[uw,arz]at h;obtain⟨ks,h1,rfl⟩:=h;rw[NestedKey.data,Rz h1]
theorem Rz:∀{ds:List Dat} {ks:List NestedKey},xq ds=some ks->NestedKey.datas ks=ds
 |[],_,h=>by cases h;rfl
 |d::ds,_,h=>by
  rw[xq]at h;obtain⟨k,h1,h⟩:=aqW.mp h;obtain⟨ks,h2,h⟩:=aqW.mp h;cases h;rw[NestedKey.datas,Ab h1,Rz h2]
end
mutual
theorem abg:∀a b:NestedKey,PyData.eqv a.data b.data=NestedKey.beq a b
 |.none,.none=>by simp[NestedKey.data,PyData.eqv,NestedKey.beq]
 |.none,.num _=>by simp[NestedKey.data,PyData.eqv,NestedKey.beq]
 |.none,.text _=>by simp[NestedKey.data,PyData.eqv,NestedKey.beq]
 |.none,.tup _=>by simp[NestedKey.data,PyData.eqv,NestedKey.beq]
 |.num _,.none=>by simp[NestedKey.data,PyData.eqv,NestedKey.beq]
 |.num a,.num b=>by simp[NestedKey.data,PyData.eqv,NestedKey.beq];rfl
 |.num _,.text _=>by simp[NestedKey.data,PyData.eqv,NestedKey.beq]
 |.num _,.tup _=>by simp[NestedKey.data,PyData.eqv,NestedKey.beq]
 |.text _,.none=>by simp[NestedKey.data,PyData.eqv,NestedKey.beq]
 |.text _,.num _=>by simp[NestedKey.data,PyData.eqv,NestedKey.beq]
 |.text a,.text b=>by simp[NestedKey.data,PyData.eqv,NestedKey.beq];rfl
 |.text _,.tup _=>by simp[NestedKey.data,PyData.eqv,NestedKey.beq]
 |.tup _,.none=>by simp[NestedKey.data,PyData.eqv,NestedKey.beq]
 |.tup _,.num _=>by simp[NestedKey.data,PyData.eqv,NestedKey.beq]
 |.tup _,.text _=>by simp[NestedKey.data,PyData.eqv,NestedKey.beq]
 |.tup as,.tup bs=>by
  rw[NestedKey.data,NestedKey.data,PyData.eqv,NestedKey.beq];exact ZL as bs
theorem ZL:∀as bs:List NestedKey,PyData.eqvAll (NestedKey.datas as) (NestedKey.datas bs)=NestedKey.beqAll as bs
 |[],[]=>by simp[NestedKey.datas,PyData.eqvAll,NestedKey.beqAll]
 |[],_::_=>by simp[NestedKey.datas,PyData.eqvAll,NestedKey.beqAll]
 |_::_,[]=>by simp[NestedKey.datas,PyData.eqvAll,NestedKey.beqAll]
 |a::as,b::bs=>by
  rw[NestedKey.datas,NestedKey.datas,PyData.eqvAll,NestedKey.beqAll,abg a b,ZL as bs]
end
theorem abF(a b:NestedKey):PyData.eqv a.data b.data=decide (a=b):=by rw[abg,NestedKey.decide_eq]
section
variable{X:Cx}{pins:List (Addr×Obj)}{σ:L2.St}{H:Hp}{s:Shared}{g:Gh}
mutual
theorem key_is(I:L2.Inv X pins σ H s):∀{v:V} {d:Dat} {k:NestedKey} {u:Value},Rep X.K g H v d->uw d=some k->RelV v u->NestedIs s.heap k u
 |_,_,_,u,.non,e,r=>by
  cases e
  obtain rfl:u=.none:=r
  exact .none
 |_,_,_,_,.int i,e,r=>by
  cases e;obtain⟨t,rfl⟩:=r;exact .int i t
 |_,_,_,_,.str x,e,r=>by
  cases e;obtain⟨t,rfl⟩:=r;exact .text x t
 |_,_,_,u,.tup (a:=a) h t,e,r=>by
  rw[uw,arz]at e;obtain⟨ks,h1,rfl⟩:=e
  obtain rfl:u=.ref a:=r
  obtain⟨its,r1,⟨o,e1,c1,n,d1⟩,_⟩:=I.tuple h;exact .tup e1 c1 d1 (by simpa using aaY I t h1 r1)
 |_,_,_,_,.bl b,e,r=>by cases e
 |_,_,_,_,.lst _ _,e,r=>by cases e
 |_,_,_,_,.obj _,e,r=>by cases e
theorem aaY(I:L2.Inv X pins σ H s):∀{vs:List V} {ds:List Dat} {ks:List NestedKey} {us:List Value},aK X.K g H vs ds->xq ds=some ks->Vals vs us->NestedAll s.heap ks us
 |_,_,_,_,.nil,e,r=>by
  cases e;cases r;exact .nil
 |_,_,_,_,.cons h t,e,r=>by
  rw[xq]at e;obtain⟨k,h1,e⟩:=aqW.mp e;obtain⟨ks,h2,e⟩:=aqW.mp e;cases e;cases r with
  |cons r1 r2=>exact .cons (key_is I h h1 r1) (aaY I t h2 r2)
end
end
mutual
theorem aaO:∀k:NestedKey,uw k.data=some k
 |.none=>rfl
 |.num _=>rfl
 |.text _=>rfl
 |.tup ks=>by rw[NestedKey.data,uw,ZJ ks];rfl
theorem ZJ:∀ks:List NestedKey,xq (NestedKey.datas ks)=some ks
 |[]=>rfl
 |k::ks=>by rw[NestedKey.datas,xq,aaO k,ZJ ks];rfl
end
def dhas:Bool->List (Dat×Dat)->Dat->Out Bool
 |false,kvs,.int i=>.ok (kvs.any λp=>PyData.eqv p.1 (.int i))
 |true,kvs,.tuple ds=>match uw (.tuple ds) with
  |some k=>match decide (k.depth<=8) with
   |true=>.ok (kvs.any λp=>PyData.eqv p.1 (.tuple ds))
   |false=>.bad
  |none=>.bad
 |_,_,_=>.bad
def yU(M:Mo)(f:Str)(d:Dat):Option (Nat×Inst×Bool×List (Dat×Dat)):=(kZ M d).bind λp=>match p.2.fs.lookup f with
 |some (.dic b kvs)=>some (p.1,p.2,b,kvs)
 |_=>none
section
variable{aj:aQ}{f:Str}
theorem FJ{K:aqX}{g:Gh}{H:Hp}{M:Mo}{d:Dat}{v:V}{h:Nat}{i:Inst}{b:Bool}{kvs:List (Dat×Dat)}(co:jF K aj)(w:fZ K aj g H M)(r:eU K g H v d)(hi:yU M f d=some (h,i,b,kvs)) :
  ∃a C dx fs l,d=obj h/\M[h]?=some i/\i.cls≠""/\i.fs.lookup f=some (.dic b kvs)/\g.tbl[h]?=some a/\v=.ref a/\aj i.cls=some C/\H a=some (.ins C dx fs)/\cP K aj g H h fs i.fs/\Cls K C/\NoAttr K C f/\f∈aj.fl i.cls/\fs.lookup f=some (.ref l)/\g.ow l=some (h,f)/\jO K aj g H l b kvs:=by
 unfold yU at hi;obtain⟨⟨h',i'⟩,h1,hi⟩:=aqW.mp hi;split at hi
 ·next b' kvs' hl=>
  cases hi;obtain⟨rfl,m1,m2⟩:=Iz h1;obtain⟨a,rfl,ha⟩:=La r;obtain⟨C,dx,fs,c1,c2,c3⟩:=w.ins _ a _ ha m1 m2;have hfl:=w.fd _ _ m1 f (lookup_mem hl);obtain⟨k1,k2⟩:=co _ C f c1 hfl;obtain⟨u,l1,l,rfl,l3,l4⟩:=c3.get hl;exact⟨a,C,dx,fs,l,rfl,m1,m2,hl,ha,rfl,c1,c2,c3,k1,k2,hfl,l1,l3,l4⟩
 ·cases hi
end
theorem Uu{kv:List (Key×V)}{i:Int}:∀{kvs:List (Dat×Dat)},kvs.map (·.1)=kv.map (λp=>keyD p.1)->(kvs.any λp=>PyData.eqv p.1 (.int i))=(valV kv (Sum.inl i)).isSome:=by
 induction kv with
 |nil=>
  intro kvs e;cases kvs with
  |nil=>rfl
  |cons _ _=>cases e
 |cons p r ih=>
  intro kvs e;cases kvs with
  |nil=>cases e
  |cons q t=>
   simp only[aq1,List.cons.injEq]at e;rw[arW,ih e.2,e.1];by_cases h:p.1=Sum.inl i
   ·rw[valV_pos h,h];simp[keyD,PyData.eqv]
   ·rw[valV_neg h];have:PyData.eqv (keyD p.1) (.int i)=false:=by
     cases hp:p.1 with
     |inl j=>
      have:j≠i:=λz=>h (by rw[hp,z]);simp[keyD,PyData.eqv,this]
     |inr x=>simp[keyD,PyData.eqv]
    rw[this,Bool.false_or]
theorem HD{xs:List nO}{k:NestedKey}:∀{kvs:List (Dat×Dat)},kvs.map (·.1)=xs.map (λx=>x.1.data)->(kvs.any λp=>PyData.eqv p.1 k.data)=(atKey xs k).isSome:=by
 induction xs with
 |nil=>
  intro kvs e;cases kvs with
  |nil=>rfl
  |cons _ _=>cases e
 |cons p r ih=>
  intro kvs e;cases kvs with
  |nil=>cases e
  |cons q t=>
   simp only[aq1,List.cons.injEq]at e;rw[arW,ih e.2,e.1,abF];unfold atKey;rw[List.find?_cons];cases hd:decide (p.1=k) with
   |true=>rfl
   |false=>rfl
theorem Gx{X:Cx}{pins:List (Addr×Obj)}{σ:L2.St}{H:Hp}{s:Shared}{g:Gh}{l:Addr}{o:Obj}{xs:List nO}{ks:List Dat}(I:L2.Inv X pins σ H s)(h1:H l=some (jc l o))(h2:lX X.w l o xs)(h3:ks=xs.map λx=>x.1.data)(h4:aK X.K g H (xs.map λx=>V.ref x.2.1) ks) :
  s.heap.DictOfH (nestedKind X.prog X.w) l xs:=by
 obtain⟨z1,_,_⟩:=(show ObjOk X.prog X.w H s.heap l (jc l o) from I.hok l _ h1);obtain⟨es,ep,e1,e2⟩:=h2.ent;refine⟨o,es,ep,z1,h2.ex,e1,e2,λx hx=>?_,h2.nd⟩;refine⟨?_,h2.dep x hx⟩;obtain⟨n,hn⟩:=List.mem_iff_getElem?.mp hx;obtain⟨d,hd1,hd2⟩:=h4.get' (i:=n) (v:=V.ref x.2.1) (by rw[aq9,hn];rfl);rw[h3,aq9,hn]at hd1;cases hd1;exact key_is I hd2 (aaO x.1) rfl
def rInD(X:Cx)(neg:Bool):R2:=λx y H Q=>(∃l kv i,y=.ref l/\H l=some (.dK kv)/\x=.int i/\Q (.bl (neg ^^ (valV kv (Sum.inl i)).isSome)) H)∨
 ∃(l:Addr) (o:Obj) (xs:List nO) (g:Gh) (d:Dat) (b:Addr) (k:NestedKey),y=.ref l/\H l=some (jc l o)/\lX X.w l o xs/\aK X.K g H (xs.map λx=>V.ref x.2.1) (xs.map λx=>x.1.data)/\x=.ref b/\Rep X.K g H x d/\uw d=some k/\k.depth<=8/\Q (.bl (neg ^^ (atKey xs k).isSome)) H
section
variable{X:Cx}
theorem op_inD(hu:X.A.units+64 < cLine):OpR X (compareOp .In) (rInD X false):=by
 intro pins s σ H x y v u Q I rx ry h;rcases h with⟨l,kv,i,rfl,hl,rfl,q⟩|⟨l,o,xs,g,d,b,k,rfl,h1,h2,h3,rfl,h4,h5,h6,q⟩
 ·obtain rfl:u=Value.ref l:=ry
  exact d_in (by omega) I (DGet.k (k:=Sum.inl i) hl) rx λs' I'=>⟨.bl _,H,I',rfl,by simpa using q⟩
 ·obtain rfl:u=Value.ref l:=ry
  obtain rfl:v=Value.ref b:=rx
  refine wpAny_in_heap (knd:=nestedKind X.prog X.w) (k:=k) (show X.A.in1.units+8 < cLine by show X.A.units+1+8 < cLine;omega) ⟨key_is I h4 h5 rfl,h6⟩ h2.sys (Gx I h1 h2 rfl h3) ?_;exact⟨.bl _,H,I.tok _,rfl,by simpa using q⟩
theorem op_notInD(hu:X.A.units+64 < cLine):OpR X (compareOp .NotIn) (rInD X true):=by
 intro pins s σ H x y v u Q I rx ry h;rcases h with⟨l,kv,i,rfl,hl,rfl,q⟩|⟨l,o,xs,g,d,b,k,rfl,h1,h2,h3,rfl,h4,h5,h6,q⟩
 ·obtain rfl:u=Value.ref l:=ry
  exact d_notIn (by omega) I (DGet.k (k:=Sum.inl i) hl) rx λs' I'=>⟨.bl _,H,I',rfl,by simpa using q⟩
 ·obtain rfl:u=Value.ref l:=ry
  obtain rfl:v=Value.ref b:=rx
  refine notIn_keyed (knd:=nestedKind X.prog X.w) (k:=k) (show X.A.in1.units+8 < cLine by show X.A.units+1+8 < cLine;omega) ⟨key_is I h4 h5 rfl,h6⟩ h2.sys ⟨xs,Gx I h1 h2 rfl h3,rfl⟩ ?_;rw[valueAt_pairsH,Option.isSome_map];exact⟨.bl _,H,I.tok _,rfl,by simpa using q⟩
end
def Py(neg:Bool)(f:Str)(k o:QF):QF:=λM Z=>(k M Z).bind λd=>(o M Z).bind λod=>match yU M f od with
 |some (_,_,b,kvs)=>(dhas b kvs d).bind λr=>.ok (.bool (neg ^^ r))
 |none=>.bad
section
variable{X:Cx}{aj:aQ}{W:WX}{o k:Expr}{f:Str}{pos p1:Pos}{fo fk:QF}{neg:Bool}{op:CmpOp}
theorem agt(co:jF X.K aj)(hw:aj.w=X.w)(σ:L2.St)(H:Hp)(Q:VK)(h:tQ X.K aj W (Py neg f fk fo) σ H Q):tOp (rInD X neg) (tQ X.K aj W fk) (tFld X.K (tW X.K aj W fo) f) σ H Q:=by
 obtain⟨g,Z,M,I,h⟩:=h;refine tQ.go I h.bnd λd v H1 h1 e1 r1=>?_;have I1:=I.ex e1;refine tW.go I1 (h1.bnd.mono (λ_ z=>z) λ_ z=>z.ex e1) λod u H2 h2 e2 r2=>?_;have I2:=I1.ex e2;split at h2
 ·next hh i b kvs hd=>
  obtain⟨a,C,dx,fs,l,rfl,m1,m2,ml,ha,rfl,c1,c2,c3,c4,c5,c6,l1,l2,l3⟩:=FJ co I2.wok r2 hd;refine⟨a,C,dx,fs,.ref l,rfl,c2,c4,c5,l1,?_⟩;have r1':=r1.ex e2 I1.kd;unfold dhas at h2;split at h2
  ·next i'=>
   obtain⟨kv,k1,k2,k3⟩:=l3;cases r1';refine .inl ⟨l,kv,i',rfl,k1,rfl,?_⟩;rw[Uu k2]at h2;exact h2 _ H2 (e1.trans e2) (.bl _)
  ·next ds=>
   split at h2
   ·next kk hk=>
    split at h2
    ·next hdep=>
     obtain⟨o',xs,vs,k1,k2,k3,k4,k5,k6⟩:=l3;have ek:=Ab hk;rw[←ek,HD k3]at h2;rw[k3]at k4;rw[hw]at k2;cases r1' with
     | @tup b us _ hs ht=>exact .inr ⟨l,o',xs,g,_,b,kk,rfl,k1,k2,k4,rfl,.tup hs ht,hk,asl hdep,h2 _ H2 (e1.trans e2) (.bl _)⟩
    ·exact asi h2
   ·exact asi h2
  ·exact asi h2
 ·exact asi h2
theorem ajS(co:jF X.K aj)(hw:aj.w=X.w)(hr:OpR X (compareOp op) (rInD X neg))(hk:QE aj X W k fk)(ho:QW aj X W o fo)(hb:baseOk o=true):QE aj X W (.Compare k [op] [.Attribute o f p1] pos) (Py neg f fk fo):=
 PE.weak (pe_cmpR hr hk (pe_fld ho (ni hb)) (by cases op<;>rfl)) λσ H Q h=>agt co hw σ H Q h
end
def DPx(X:Cx)(H:Hp)(a:Addr)(y v:V)(R:Hp->Prop):Prop:=(∃kvs i,H a=some (.dK kvs)/\y=.int i/\kvs.length < sizeLine/\R (upd H a (.dK (putK kvs (Sum.inl i) v))))∨
 ∃(o:Obj) (xs:List nO) (g:Gh) (d:Dat) (b:Addr) (k:NestedKey),H a=some (jc a o)/\lX X.w a o xs/\aK X.K g H (xs.map λx=>V.ref x.2.1) (xs.map λx=>x.1.data)/\y=.ref b/\Rep X.K g H y d/\uw d=some k/\k.depth<=8/\xs.length < sizeLine/\∀(o':Obj) (u:Value),RelV v u->lX X.w a o' (storedH xs k b u)->R (upd H a (jc a o'))
theorem KC{P:Program}{w:World}{H:Hp}{h:Heap}{l:Addr}{o:Obj}(e:h.get? l=some o):ObjOk P w H h l (jc l o):=⟨e,⟨o,e⟩,λ_ _ e1 k=>k _ e1⟩
theorem aaK{xs:List nO}{k:NestedKey}{b:Addr}{u:Value}:(storedH xs k b u).map (·.1)=if (atKey xs k).isSome then xs.map (·.1) else xs.map (·.1)++[k]:=by
 unfold storedH;split
 ·rw[arB];refine List.map_congr_left λx _=>?_
  show(putAt k u x).1=x.1
  unfold putAt
  split<;>rfl
 ·simp
theorem QS{xs:List nO}{k:NestedKey}{b:Addr}{u:Value}:(storedH xs k b u).length<=xs.length+1:=by
 unfold storedH
 split<;>simp
theorem RB{xs:List nO}{k:NestedKey}{b:Addr}{u:Value}(h:∀x∈xs,x.1.depth<=8)(hk:k.depth<=8):∀x∈storedH xs k b u,x.1.depth<=8:=λx hx=>by
 have:x.1∈(storedH xs k b u).map (·.1):=arb.mpr ⟨x,hx,rfl⟩;rw[aaK]at this;have old:∀{z:NestedKey},z∈xs.map (·.1)->z.depth<=8:=λ{z} m=>by
  obtain⟨y,hy,rfl⟩:=arb.mp m;exact h y hy
 split at this
 ·exact old this
 ·rcases aq8.mp this with z|z
  ·exact old z
  ·rw[aq5.mp z];exact hk
section
variable{X:Cx}{o i value:Expr}{td ty tv:TE}{pos pos':Pos}
def amW(X:Cx)(td ty tv:TE):TS:=λD σ H=>tv σ H λv H1=>td σ H1 λx H2=>ty σ H2 λy H3=>∃a,x=.ref a/\DPx X H3 a y v λH4=>D.nx σ H4
theorem afg(hu:X.A.units+64 < cLine)(ho:PE X o td)(hi:PE X i ty)(hv:PE X value tv)(hs:swapsWith value (some (.Subscript o i pos')) pos.line X.env=pure false):PS X (.Assign [.Subscript o i pos'] value pos) (amW X td ty tv):=by
 refine⟨λpins s σ H D I h=>?_⟩;refine wpAny_Assign_Subscript (thn (hv.run pins s σ H _ I h) λr s1 ⟨v,H1,I1,rv,q1⟩=>thn (ho.run pins s1 σ H1 _ I1 q1) λu s2 ⟨x,H2,I2,rx,q2⟩=>thn (hi.run pins s2 σ H2 _ I2 q2) λiv s3 ⟨y,H3,I3,ry,a,ex,q3⟩=>?_) hs;subst ex
 obtain rfl:u=Value.ref a:=rx
 rcases q3 with⟨kvs,j,h1,rfl,hl,q⟩|⟨ob,xs,g,d,b,k,h1,h2,h3,rfl,h4,h5,h6,hl,q⟩
 ·exact d_setItem (by omega) I3 (DPut.k (k:=Sum.inl j) h1 hl) ry rv λs4 I4=>⟨σ,_,I4,q⟩
 ·obtain rfl:iv=Value.ref b:=ry
  refine wpAny_setItem_heap (knd:=nestedKind X.prog X.w) (k:=k) (hsz:=Nat.le_of_lt hl) (show X.A.in1.units+8 < cLine by show X.A.units+1+8 < cLine;omega) ⟨key_is I3 h4 h5 rfl,h6⟩ (Gx I3 h1 h2 rfl h3) λh' dd hs'=>?_;obtain⟨o',es,ep,g1,g2,g3,g4,g5,g6⟩:=dd;have nd:lX X.w a o' (storedH xs k b r):=⟨h2.sys,g2,⟨es,ep,g3,g4⟩,g6,by have:=QS (xs:=xs) (k:=k) (b:=b) (u:=r);omega,RB h2.dep h6⟩;exact⟨σ,_,d_write I3 (by rw[h1];exact True.intro) hs' ⟨o',g1⟩ (KC g1),q o' r rv nd⟩
end
theorem aK.back{K:aqX}{g:Gh}{H:Hp}{vs:List V}{ds:List Dat}{v:V}{d:Dat}(h:aK K g H vs ds)(r:Rep K g H v d):aK K g H (vs++[v]) (ds++[d]):=h.append (.cons r .nil)
theorem Mw{K:aqX}{aj:aQ}{f:Str}{σ:L2.St}{Z:Env}{g:Gh}{H:Hp}{M:Mo}{h:Nat}{i:Inst}{b:Bool}{kvs':List (Dat×Dat)}{a C dx l:Addr}{fs:List (Str×V)}{o':HO}(I:SInv K aj σ H g Z M)(m1:M[h]?=some i)(m2:i.cls≠"")(ha:g.tbl[h]?=some a)(c1:aj i.cls=some C)(c2:H a=some (.ins C dx fs))(c3:cP K aj g H h fs i.fs)(hfl:f∈aj.fl i.cls)(l1:fs.lookup f=some (.ref l))(l4:g.ow l=some (h,f))(mu:Jk o')
  (new:Gr false g g H (upd H l o')->jO K aj g (upd H l o') l b kvs'):Gr false g g H (upd H l o')/\SInv K aj σ (upd H l o') g Z (M.set h (i.put f (.dic b kvs'))):=by
 have ch:=aeh (o':=o') I.kd I.wok l4 mu;have nla:a≠l:=λz=>by
  subst z;rw[I.wok.tw h a i ha m1 m2]at l4;cases l4
 have w':=I.wok.chg I.kd ch ha m1 m2 hfl c1 (dx:=dx) c3 (v:=.ref l) (fl:=.dic b kvs') (by rw[upd_ne nla,Mg l1];exact c2) ⟨l,rfl,l4,new ch.gc.gr⟩;exact⟨ch.gc.gr,I.chg ch w'⟩
def Nf(f:Str)(o k e:QF):SF:=λM Z=>((e M Z).at M).then Z λv _=>((o M Z).at M).then Z λod _=>match yU M f od with
 |some (h,i,b,kvs)=>((k M Z).at M).then Z λd _=>match dhas b kvs d,decide (kvs.length < 100000) with
  |.ok false,true=>.next Z (M.set h (i.put f (.dic b (kvs++[(d,v)]))))
  |_,_=>.bad
 |none=>.bad
def M7(f:Str)(o k:QF):SF:=λM Z=>((o M Z).at M).then Z λod _=>match yU M f od with
 |some (h,i,b,kvs)=>((k M Z).at M).then Z λd _=>match dhas b kvs d,decide (kvs.length<=100000) with
  |.ok true,true=>.next Z (M.set h (i.put f (.dic b (kvs.filter λp=>!PyData.eqv p.1 d))))
  |_,_=>.bad
 |none=>.bad
theorem Tt{kvs:List (Dat×Dat)}{b r:Bool}{d:Dat}(h:dhas b kvs d=.ok r):(kvs.any λp=>PyData.eqv p.1 d)=r/\((b=false/\∃i,d=.int i)∨(b=true/\∃ds k,d=.tuple ds/\uw d=some k/\k.depth<=8)):=by
 unfold dhas at h;split at h
 ·next i=>
  cases h;exact⟨rfl,.inl ⟨rfl,i,rfl⟩⟩
 ·next ds=>
  split at h
  ·next k hk=>
   split at h
   ·next hd=>
    cases h;exact⟨rfl,.inr ⟨rfl,ds,k,rfl,hk,asl hd⟩⟩
   ·cases h
  ·cases h
 ·cases h
section
variable{X:Cx}{aj:aQ}{W:WX}{o e i:Expr}{f:Str}{pos pos' p1:Pos}{fo fe fk:QF}
theorem ail(co:jF X.K aj)(hw:aj.w=X.w)(hu:X.A.units+64 < cLine)(ho:QW aj X W o fo)(hb:baseOk o=true)(hk:QE aj X W i fk)(he:QE aj X W e fe)(hs:swapsWith e (some (.Subscript (.Attribute o f p1) i pos')) pos.line X.env=pure false) :
  SE aj X W false (.Assign [.Subscript (.Attribute o f p1) i pos'] e pos) (Nf f fo fk fe):=by
 refine PS.weak (afg hu (pe_fld ho (ni hb)) hk he hs) λD σ H ⟨g,Z,M,I,z⟩=>?_;unfold Nf at z;have k1:=Out.iV (cY (σ:=σ) z);refine tQ.go I (k1.mono (λ_ y=>y) λx y H' c dd ex rx=>y H' _ c dd (Gr.ex ex) (I.ex ex) rx) λd v H1 k2 e1 rv=>?_;have I1:=I.ex e1;have k2:=Out.iV (cY (σ:=σ) k2);refine tW.go I1 (k2.mono (λ_ y=>y) λx y H' c dd ex rx=>y H' _ c dd ((Gr.ex e1).trans (Gr.ex ex)) (I1.ex ex) rx) λod u H2 k3 e2 ru=>?_;have I2:=I1.ex e2;have e12:=e1.trans e2;split at k3
 ·next h i' b kvs hl=>
  obtain⟨a,C,dx,fs,l,rfl,m1,m2,ml,ha,rfl,c1,c2,c3,c4,c5,c6,l1,l2,l3⟩:=FJ co I2.wok ru hl;refine⟨a,C,dx,fs,.ref l,rfl,c2,c4,c5,l1,?_⟩;have k3:=Out.iV (cY (σ:=σ) k3);refine tQ.go I2 (k3.mono (λ_ y=>y) λx y H' c dd ex rx=>y H' _ c dd ((Gr.ex e12).trans (Gr.ex ex)) (I2.ex ex) rx) λkd w H3 k4 e3 rk=>?_;have I3:=I2.ex e3;have l3':=l3.ex e3 I2.kd;have rv3:=(rv.ex e2 I1.kd).ex e3 I2.kd;refine⟨l,rfl,?_⟩;split at k4
  ·next hh hz=>
   obtain⟨ha2,hcase⟩:=Tt hh;have hz:=asl hz;rcases hcase with⟨rfl,j,rfl⟩|⟨rfl,ds,kk,rfl,hkk,hdep⟩
   ·obtain⟨kv,q1,q2,q3⟩:=l3';cases rk;have hlen:kv.length=kvs.length:=by
     have:=congrArg List.length q2;simpa using this.symm
    rw[Uu q2]at ha2;have hn:valV kv (Sum.inl j)=none:=by
     cases hv:valV kv (Sum.inl j) with
     |none=>rfl
     |some _=>rw[hv]at ha2;cases ha2
    refine .inl ⟨kv,j,q1,rfl,sz_lt (by rw[hlen];exact hz),?_⟩;rw[putK_new v hn];obtain⟨gr,I4⟩:=Mw (b:=false) (kvs':=kvs++[(.int j,d)]) (o':=.dK (kv++[(Sum.inl j,v)])) I3 m1 m2 ha c1 (e3 _ _ c2) (c3.ex e3 I2.kd) c6 l1 l2 trivial λgr=>⟨_,upd_same,by simp[q2,keyD],by
     rw[arC,arC];exact(q3.gr gr I3.kd).back (rv3.gr gr I3.kd)⟩
    exact k4 σ _ g ((Gr.ex (e12.trans e3)).trans gr) I4
   ·obtain⟨o',xs,vs,q1,q2,q3,q4,q5,q6⟩:=l3';have hlen:xs.length=kvs.length:=by
     have:=congrArg List.length q3;simpa using this.symm
    have ek:=Ab hkk;rw[←ek,HD q3]at ha2;have hn:atKey xs kk=none:=by
     cases hv:atKey xs kk with
     |none=>rfl
     |some _=>rw[hv]at ha2;cases ha2
    have q4':=q4;rw[q3]at q4';rw[hw]at q2;cases rk with
    | @tup bb us _ hs' ht=>
     refine .inr ⟨o',xs,g,_,bb,kk,q1,q2,q4',rfl,.tup hs' ht,hkk,hdep,sz_lt (by rw[hlen];exact hz),λo2 u2 ru2 nd=>?_⟩;rw[storedH_new hn]at nd;obtain⟨gr,I4⟩:=Mw (b:=true) (kvs':=kvs++[(.tuple ds,d)]) (o':=jc l o2) I3 m1 m2 ha c1 (e3 _ _ c2) (c3.ex e3 I2.kd) c6 l1 l2 trivial λgr=>⟨o2,xs++[(kk,bb,u2)],vs++[v],upd_same,by rw[hw];exact nd,by simp[q3,ek],by
      rw[arC,arC];exact(q4.gr gr I3.kd).back ((Rep.tup hs' ht).gr gr I3.kd),by
      rw[arC];exact q5.append (.cons ru2 .nil),by
      rw[arC];exact(q6.gr gr I3.kd).back (rv3.gr gr I3.kd)⟩
     exact k4 σ _ g ((Gr.ex (e12.trans e3)).trans gr) I4
  ·exact asi k4
 ·exact asi k3
end
section
variable{X:Cx}{o i:Expr}{td ty:TE}{pos tpos:Pos}
def amT(X:Cx)(td ty:TE):TS:=λD σ H=>td σ H λx H2=>ty σ H2 λy H3=>∃a,x=.ref a/\((∃kvs i,H3 a=some (.dK kvs)/\y=.int i/\(valV kvs (Sum.inl i)).isSome=true/\D.nx σ (upd H3 a (.dK (dropK kvs (Sum.inl i)))))∨
 ∃(o:Obj) (xs:List nO) (g:Gh) (d:Dat) (b:Addr) (k:NestedKey),H3 a=some (jc a o)/\lX X.w a o xs/\aK X.K g H3 (xs.map λx=>V.ref x.2.1) (xs.map λx=>x.1.data)/\y=.ref b/\Rep X.K g H3 y d/\uw d=some k/\k.depth<=8/\(atKey xs k).isSome=true/\∀(o':Obj),lX X.w a o' (withoutH xs k)->D.nx σ (upd H3 a (jc a o')))
theorem af2(hu:X.A.units+64 < cLine)(ho:PE X o td)(hi:PE X i ty):PS X (.Delete [.Subscript o i tpos] pos) (amT X td ty):=by
 refine⟨λpins s σ H D I h=>?_⟩;refine wpAny_Delete (wpAny_deleteEach_cons (wpAny_delete_Subscript (thn (ho.run pins s σ H _ I h) λu s1 ⟨x,H1,I1,rx,q1⟩=>thn (hi.run pins s1 σ H1 _ I1 q1) λiv s2 ⟨y,H2,I2,ry,a,ex,q2⟩=>?_)));subst ex
 obtain rfl:u=Value.ref a:=rx
 rcases q2 with⟨kvs,j,h1,rfl,hl,q⟩|⟨ob,xs,g,d,b,k,h1,h2,h3,rfl,h4,h5,h6,hl,q⟩
 ·exact d_delItem (k:=Sum.inl j) I2 h1 ry hl λs3 I3=>wpAny_deleteEach_nil ⟨σ,_,I3,q⟩
 ·obtain rfl:iv=Value.ref b:=ry
  obtain⟨p,hp⟩:=Option.isSome_iff_exists.mp hl;refine wpAny_delItem_heap (knd:=nestedKind X.prog X.w) (k:=k) (hsz:=h2.len) (show X.A.in1.units+8 < cLine by show X.A.units+1+8 < cLine;omega) ⟨key_is I2 h4 h5 rfl,h6⟩ h2.sys (Gx I2 h1 h2 rfl h3) hp λh' dd hs'=>?_;obtain⟨o',es,ep,g1,g2,g3,g4,g5,g6⟩:=dd;have nd:lX X.w a o' (withoutH xs k):=⟨h2.sys,g2,⟨es,ep,g3,g4⟩,g6,arw (arl _ _) h2.len,λx hx=>h2.dep x (arn.mp hx).1⟩;exact wpAny_deleteEach_nil ⟨σ,_,d_write I2 (by rw[h1];exact True.intro) hs' ⟨o',g1⟩ (KC g1),q o' nd⟩
end
theorem Oi{α β:Type}(f:α->β)(c:α->Bool):∀l:List α,(((l.map f).zip l).filter λp=>c p.2).map (·.1)=(l.filter c).map f
 |[]=>rfl
 |a::l=>by
  rw[aq1,arS,arI,arI];cases c a
  ·exact Oi f c l
  ·simp only[if_true,aq1,Oi f c l]
theorem af7{K:aqX}{g:Gh}{H:Hp}(kk:NestedKey):∀{xs:List nO} {vs:List V} {kvs:List (Dat×Dat)},kvs.map (·.1)=xs.map (λx=>x.1.data)->aK K g H (xs.map λx=>V.ref x.2.1) (kvs.map (·.1))->Vals vs (xs.map (·.2.2))->aK K g H vs (kvs.map (·.2))->
  ∃vs',(kvs.filter λp=>!PyData.eqv p.1 kk.data).map (·.1)=(withoutH xs kk).map (λx=>x.1.data)/\aK K g H ((withoutH xs kk).map λx=>V.ref x.2.1) ((kvs.filter λp=>!PyData.eqv p.1 kk.data).map (·.1))/\Vals vs' ((withoutH xs kk).map (·.2.2))/\aK K g H vs' ((kvs.filter λp=>!PyData.eqv p.1 kk.data).map (·.2))
 |[],_,[],_,_,.nil,_=>⟨[],rfl,.nil,.nil,.nil⟩
 |[],_,_::_,h,_,_,_=>by cases h
 |_::_,_,[],h,_,_,_=>by cases h
 |x::xs,_,q::qs,h1,.cons r1 t1,.cons w1 w2,.cons r2 t2=>by
  simp only[aq1,List.cons.injEq]at h1;obtain⟨vs',i1,i2,i3,i4⟩:=af7 kk h1.2 t1 w2 t2;have hq:(!PyData.eqv q.1 kk.data)=decide (x.1≠kk):=by rw[h1.1,abF];by_cases hz:x.1=kk<;>simp[hz]
  unfold withoutH;rw[arI,arI,hq];cases hb:decide (x.1≠kk) with
  |true=>exact⟨_::vs',by simp only[if_true,aq1,h1.1];exact congrArg _ i1,by simp only[if_true,aq1];exact .cons r1 i2,by simp only[if_true,aq1];exact .cons w1 i3,by simp only[if_true,aq1];exact .cons r2 i4⟩
  |false=>
   simp only[arA,if_false];exact⟨vs',i1,i2,i3,i4⟩
theorem ajQ{K:aqX}{g:Gh}{H:Hp}{α:Type}(c:α->Bool)(key:α->Dat)(dd:Dat->Bool):∀{vs:List V} {kvs:List (Dat×Dat)} {xs:List α},(∀x∈xs,c x=dd (key x))->kvs.map (·.1)=xs.map key->vs.length=xs.length->aK K g H vs (kvs.map (·.2))->
  (kvs.filter λp=>dd p.1).map (·.1)=(xs.filter c).map key/\aK K g H (((vs.zip xs).filter λp=>c p.2).map (·.1)) ((kvs.filter λp=>dd p.1).map (·.2))
 |[],[],[],_,_,_,_=>⟨rfl,.nil⟩
 |[],[],_::_,_,h,_,_=>by cases h
 |[],_::_,_,_,_,_,h=>by cases h
 |_::_,[],_,_,_,_,h=>by cases h
 |_::_,_::_,[],_,h,_,_=>by cases h
 |u::us,q::qs,x::xs,hc,hk,hl,.cons h t=>by
  simp only[aq1,List.cons.injEq]at hk;have hq:=hc x aq4;rw[←hk.1]at hq;obtain⟨i1,i2⟩:=ajQ c key dd (λy hy=>hc y (aq3 _ hy)) hk.2 (ase hl) t;rw[arS,arI,arI,arI,hq];cases hb:dd q.1 with
  |true=>exact⟨by simp only[if_true,aq1,i1,hk.1],by simp only[if_true,aq1];exact .cons h i2⟩
  |false=>exact⟨by simpa using i1,by simpa using i2⟩
section
variable{X:Cx}{aj:aQ}{W:WX}{o i:Expr}{f:Str}{pos tpos p1:Pos}{fo fk:QF}
theorem ahN(co:jF X.K aj)(hw:aj.w=X.w)(hu:X.A.units+64 < cLine)(ho:QW aj X W o fo)(hb:baseOk o=true)(hk:QE aj X W i fk):SE aj X W false (.Delete [.Subscript (.Attribute o f p1) i tpos] pos) (M7 f fo fk):=by
 refine PS.weak (af2 hu (pe_fld ho (ni hb)) hk) λD σ H ⟨g,Z,M,I,z⟩=>?_;unfold M7 at z;have k2:=Out.iV (cY (σ:=σ) z);refine tW.go I (k2.mono (λ_ y=>y) λx y H' c dd ex rx=>y H' _ c dd (Gr.ex ex) (I.ex ex) rx) λod u H2 k3 e2 ru=>?_;have I2:=I.ex e2;split at k3
 ·next h i' b kvs hl=>
  obtain⟨a,C,dx,fs,l,rfl,m1,m2,ml,ha,rfl,c1,c2,c3,c4,c5,c6,l1,l2,l3⟩:=FJ co I2.wok ru hl;refine⟨a,C,dx,fs,.ref l,rfl,c2,c4,c5,l1,?_⟩;have k3:=Out.iV (cY (σ:=σ) k3);refine tQ.go I2 (k3.mono (λ_ y=>y) λx y H' c dd ex rx=>y H' _ c dd ((Gr.ex e2).trans (Gr.ex ex)) (I2.ex ex) rx) λkd w H3 k4 e3 rk=>?_;have I3:=I2.ex e3;have l3':=l3.ex e3 I2.kd;refine⟨l,rfl,?_⟩;split at k4
  ·next hh hz=>
   obtain⟨ha2,hcase⟩:=Tt hh;rcases hcase with⟨rfl,j,rfl⟩|⟨rfl,ds,kk,rfl,hkk,hdep⟩
   ·obtain⟨kv,q1,q2,q3⟩:=l3';cases rk;rw[Uu q2]at ha2;refine .inl ⟨kv,j,q1,rfl,ha2,?_⟩;have hf:=λ(H':Hp)(r:aK X.K g H' (kv.map (·.2)) (kvs.map (·.2)))=>ajQ (K:=X.K) (g:=g) (H:=H') (λp:Key×V=>decide (p.1≠Sum.inl j)) (λp=>keyD p.1) (λz=>!PyData.eqv z (.int j)) (vs:=kv.map (·.2)) (kvs:=kvs) (xs:=kv) (λx _=>by
     cases hx:x.1 with
     |inl z=>by_cases hz:z=j<;>simp[keyD,PyData.eqv,hz]
     |inr z=>simp[keyD,PyData.eqv]) q2 (by simp) r
    have ez:(((kv.map (·.2)).zip kv).filter λp=>decide (p.2.1≠Sum.inl j)).map (·.1)=(dropK kv (Sum.inl j)).map (·.2):=Oi (·.2) (λp:Key×V=>decide (p.1≠Sum.inl j)) kv;obtain⟨gr,I4⟩:=Mw (b:=false) (kvs':=kvs.filter λp=>!PyData.eqv p.1 (.int j)) (o':=.dK (dropK kv (Sum.inl j))) I3 m1 m2 ha c1 (e3 _ _ c2) (c3.ex e3 I2.kd) c6 l1 l2 trivial λgr=>⟨_,upd_same,(hf _ (q3.gr gr I3.kd)).1,by
     rw[←ez];exact(hf _ (q3.gr gr I3.kd)).2⟩
    exact k4 σ _ g ((Gr.ex (e2.trans e3)).trans gr) I4
   ·obtain⟨o',xs,vs,q1,q2,q3,q4,q5,q6⟩:=l3';have ek:=Ab hkk;rw[←ek,HD q3]at ha2;rw[hw]at q2;have q4':=q4;rw[q3]at q4';cases rk with
    | @tup bb us _ hs' ht=>
     refine .inr ⟨o',xs,g,_,bb,kk,q1,q2,q4',rfl,.tup hs' ht,hkk,hdep,ha2,λo2 nd=>?_⟩;obtain⟨gr,I4⟩:=Mw (b:=true) (kvs':=kvs.filter λp=>!PyData.eqv p.1 (.tuple ds)) (o':=jc l o2) I3 m1 m2 ha c1 (e3 _ _ c2) (c3.ex e3 I2.kd) c6 l1 l2 trivial λgr=>by
      obtain⟨vs',i1,i2,i3,i4⟩:=af7 kk q3 (q4.gr gr I3.kd) q5 (q6.gr gr I3.kd);rw[ek]at i1 i2 i4;exact⟨o2,withoutH xs kk,vs',upd_same,by rw[hw];exact nd,i1,i2,i3,i4⟩
     exact k4 σ _ g ((Gr.ex (e2.trans e3)).trans gr) I4
  ·exact asi k4
 ·exact asi k3
end
def ItD(l:Addr)(o:Obj)(xs:List nO):It:=
 ⟨λi H=>H l=some (jc l o)/\i < xs.length,λi H x H'=>H'=H/\∃e,xs[i]?=some e/\x=.ref e.2.1,λi H=>H l=some (jc l o)/\xs.length<=i⟩
theorem pin_at{X:Cx}{pins:List (Addr×Obj)}{σ:L2.St}{H:Hp}{s:Shared}{l:Addr}{o:Obj}(I:L2.Inv X pins σ H s)(h:H l=some (jc l o)):s.heap.get? l=some o:=(show ObjOk X.prog X.w H s.heap l (jc l o) from I.hok l _ h).1
theorem lX.at{w:World}{l:Addr}{o:Obj}{xs:List nO}{es:Array DictEntry}{ep:Nat}(n:lX w l o xs)(h:o.data=.dict es ep):es.size=xs.length/\∀(i:Nat) (e:nO),xs[i]?=some e->∃en,es[i]?=some en/\en.key=.ref e.2.1:=by
 obtain⟨es',ep',h1,h2⟩:=n.ent;rw[h]at h1;cases h1;refine⟨?_,λi e hi=>⟨aen w e,?_,rfl⟩⟩
 ·have:=congrArg List.length h2;simpa using this
 ·rw[←arL,h2,aq9,hi];rfl
theorem alp{P:Program}{w:World}{K:aqX}{tg:Expr}{l:Addr}{o:Obj}{xs:List nO}{es:Array DictEntry}{ep:Nat}(it:Addr)(n:lX w l o xs)(hod:o.data=.dict es ep):Turn P w K tg (ItD l o xs) [it] it (λi h=>h.IsKeyIter it l i xs.length ep) where
 mem:=aq5.mpr rfl
 obj:=λi h st b hb=>by
  cases aq5.mp hb;obtain⟨oi,e,c,dd⟩:=st;refine⟨oi,e,λv z=>?_⟩;rw[dd]at z;cases z
 keep:=λi h h' st k=>st.at (k it (aq5.mpr rfl))
 item:=by intro X hP hw hK hc i pins s σ H E I hf st hg;subst hP hw hK;obtain⟨g0,g1,g2,g3,g4,g5⟩:=hf it (aq5.mpr rfl);obtain⟨sz,ent⟩:=n.at hod;have hlt:i < xs.length:=hg.2;have hx:xs[i]?=some xs[i]:=aq0 hlt;obtain⟨en,e1,e2⟩:=ent i _ hx;refine next_key_item st (pin_at I hg.1) hod sz e1 ?_;intro h' st' sb;have J:L2.Inv X pins σ H { s with heap:=h' }:=I.turned (t':=s.toks) (λb ob hb e=>(sb.2 b hb).trans e) g0 g1 g3 g4 g5;obtain⟨oi,a1,a2,a3⟩:=id st';exact⟨en.key,rfl,go_of (s:={ s with heap:=h' }) a1 a2 a3 (by decide) ⟨.ref xs[i].2.1,H,J,e2,⟨rfl,_,hx,rfl⟩,st',λb hb=>(hf b hb).1⟩⟩
 done:=by intro X hP hw hK hc i pins s σ H E I hf st hg;subst hP hw hK;obtain⟨g0,g1,g2,g3,g4,g5⟩:=hf it (aq5.mpr rfl);exact next_key_end (I.ok.hd hc) st (pin_at I hg.1) hod (n.at hod).1 hg.2 λh' eb=>⟨rfl,I.turned (t':=s.toks) (λb ob hb e=>eb b ob hb e) g0 g1 g3 g4 g5⟩
 self:=λA i s Q E st h=>by
  refine wpAny_pyIter_slot st.typeIs PySem.F.slot_dict_keyiterator_iter (wpAny_call_entry PySem.F.slot_dict_keyiterator_iter st.typeIs PySem.F.entry_dict_keyiterator_iter ?_ (PySem.F.args_dict_keyiterator_iter_1 _));exact wpAny_pure ⟨_,rfl,"dict_keyiterator",_,st.typeIs,PySem.F.slot_dict_keyiterator_next.lookup,h⟩
def am4(X:Cx)(td:TE):TI:=λσ H R=>td σ H λx H1=>∃l o xs,x=.ref l/\H1 l=some (jc l o)/\lX X.w l o xs/\R (ItD l o xs) H1
theorem ak9{X:Cx}{tg e:Expr}{td:TE}(he:PE X e td):PI X tg e (am4 X td):=by
 constructor;intro pins s σ H R I h;refine thn (he.run pins s σ H _ I h) ?_;rintro u s1 ⟨x,H1,I1,rx,l,o,xs,rfl,hl,n,q⟩
 obtain rfl:u=Value.ref l:=rx
 obtain⟨es,ep,hd,_⟩:=n.ent;refine iter_keys n.sys (pin_at I1 hl) n.ex hd (pi_one (tk:=s1.toks) I1 _ (alp _ n hd) ⟨_,Heap.get?_push_size _ rfl,rfl,?_⟩ q);rw[(n.at hd).1]<;>rfl
theorem ah6{K:aqX}{aj:aQ}{l:Addr}{o:Obj}{xs:List nO}{ks:List Dat}:JM K (ItD l o xs) (λg H=>H l=some (jc l o)/\aK K g H (xs.map λx=>V.ref x.2.1) ks) ks where
 go:=λg i H c hi=>⟨c.1,by have:=c.2.length;simp at this;omega⟩
 yld:=λg i H x H' d k c e y=>by
  obtain⟨rfl,en,h1,rfl⟩:=y;obtain⟨v,h2,h3⟩:=c.2.get e;rw[aq9,h1]at h2;cases h2;exact⟨Ex.refl _,h3⟩
 stop:=λg i H c e=>⟨c.1,by have:=c.2.length;simp at this;omega⟩
 ex:=λg H H' k c e=>⟨e _ _ c.1,c.2.ex e k⟩
 add:=λg g' H H' k c r e=>⟨e _ _ c.1,c.2.gr r k⟩
def CP(f:Str)(o:QF):IF:=λM Z=>(o M Z).bind λod=>match yU M f od with
 |some (_,_,true,kvs)=>.ok (kvs.map (·.1))
 |_=>.bad
def CT(f:Str)(o:QF):QF:=λM Z=>(o M Z).bind λod=>match yU M f od with
 |some (_,_,_,kvs)=>.ok (.list (kvs.map (·.1)))
 |none=>.bad
section
variable{X:Cx}{aj:aQ}{W:WX}{o tg:Expr}{f:Str}{pos p p1:Pos}{fo:QF}
theorem ae6(co:jF X.K aj)(hw:aj.w=X.w)(ho:QW aj X W o fo)(hb:baseOk o=true):QI aj X W false tg (.Attribute o f p1) (CP f fo):=by
 have h0:=ak9 (tg:=tg) (pe_fld (X:=X) (pos:=p1) (f:=f) ho (ni hb));refine⟨λpins s σ H R I h=>h0.run pins s σ H R I ?_⟩;obtain⟨g,Z,M,J,h⟩:=h;unfold CP at h;refine tW.go J h.bnd λod u H1 k2 e1 ru=>?_;have J1:=J.ex e1;split at k2
 ·next h i kvs hl=>
  obtain⟨a,C,dx,fs,l,rfl,m1,m2,ml,ha,rfl,c1,c2,c3,c4,c5,c6,l1,l2,o',xs,vs,q1,q2,q3,q4,q5,q6⟩:=FJ co J1.wok ru hl;rw[hw]at q2;exact⟨a,C,dx,fs,.ref l,rfl,c2,c4,c5,l1,l,o',xs,rfl,q1,q2,k2 _ _ H1 e1 (ah6 (aj:=aj)) ⟨q1,q4⟩ λz=>nomatch z⟩
 ·exact asi k2
end
theorem afY{P:Program}{w:World}{A:Around}{l I:Addr}{o:Obj}{xs:List nO}{es:Array DictEntry}{ep:Nat}(hh:A.handled=none)(hne:l≠I)(n:lX w l o xs)(hd:o.data=.dict es ep):Walks P w A I [I,l] [I] xs.length (λi v=>∃e,xs[i]?=some e/\v=Value.ref e.2.1) (λi h=>h.IsKeyIter I l i xs.length ep/\h.get? l=some o) where
 sub:=λb hb=>by simp at hb;simp[hb]
 frame:=λi h h' st k=>⟨st.1.at (k I (by simp)),k l (by simp) o st.2⟩
 item:=λi s Q E hi st hQ=>by
  obtain⟨sz,ent⟩:=n.at hd;have hx:xs[i]?=some xs[i]:=aq0 hi;obtain⟨en,e1,e2⟩:=ent i _ hx;refine next_key_item st.1 st.2 hd sz e1 ?_;intro h' st' sb;exact hQ en.key h' s.toks ⟨_,hx,e2⟩ ⟨st',(sb.2 l hne).trans st.2⟩ λb ob hb e=>(sb.2 b λz=>hb (by simp[z])).trans e
 done:=λs Q E st hQ=>next_key_end hh st.1 st.2 hd (n.at hd).1 (arq _) λh' eb=>hQ h' s.toks λb ob hb e=>eb b ob (λz=>hb (by simp[z])) e
 self:=λi s Q E st hQ=>wpAny_pyIter_keyiter st.1 hQ
theorem ag1{P:Program}{w:World}{l:Addr}{o:Obj}{xs:List nO}(n:lX w l o xs):PySem.W.KdlSrc P w "dict" l l xs.length (λi v=>∃e,xs[i]?=some e/\v=Value.ref e.2.1) (λh=>h.get? l=some o) where
 type:=λs e=>⟨o,e,n.ex.1⟩
 there:=λh e=>⟨Heap.lt_size e,Heap.lt_size e⟩
 keep:=λh h' e k=>k l (.inl rfl) o e
 notList:=by decide
 notTuple:=by decide
 hint:=λA E s Q e hq=>PySem.W.kdl_hint_dict ⟨o,e,n.ex.1⟩ hq
 iter:=λA s hh e=>by
  obtain⟨es,ep,hd,_⟩:=n.ent;refine⟨_,_,λE Q hq=>iter_keys n.sys e n.ex hd hq,afY hh (arE (Heap.lt_size e)) n hd,⟨_,Heap.get?_push_size _ rfl,rfl,?_⟩,Heap.get?_push_of_some _ e⟩;rw[(n.at hd).1]<;>rfl
def ac0(X:Cx):List V->Hp->VK->Prop:=λxs H Q=>(∃p kvs,xs=[.ref p]/\H p=some (.dK kvs)/\∀q,H q=none->Q (.ref q) (upd H q (.lst (kvs.map λkv=>kV kv.1))))∨∃p o es,xs=[.ref p]/\H p=some (jc p o)/\lX X.w p o es/\∀q,H q=none->Q (.ref q) (upd H q (.lst (es.map λe=>V.ref e.2.1)))
theorem aco{X:Cx}(hc:X.calm=true):CallR X (.type "list") (ac0 X):=by
 intro pins s σ H xs us Q I r h;rcases h with h|⟨p,o,es,rfl,hp,n,q⟩
 ·exact call_list_dK hc pins s σ H xs us Q I r h
 ·obtain⟨u,rfl,rx⟩:=vals1 r
  obtain rfl:u=Value.ref p:=rx
  refine PySem.W.kdl_call (ag1 n) (I.ok.hd hc) (pin_at I hp) n.len ?_;intro h' tk acc c' keep hS hacc;have el:acc.toList.length=es.length:=by rw[arG];exact hacc.1
  refine⟨.ref s.heap.objs.size,upd H s.heap.objs.size (.lst (es.map λe=>V.ref e.2.1)),I.laid keep (arq _) (show ObjOk X.prog X.w _ _ _ (.lst (es.map λe=>V.ref e.2.1)) from⟨by rw[ara];exact n.len,acc.toList,c',?_,?_⟩),rfl,q _ (I.hok.fresh (arq _))⟩
  ·refine vals_of_at (by rw[ara,el]) λj x w h1 h2=>?_;obtain⟨e,he,rfl⟩:=hacc.2 j w (by rw[←arL];exact h2);rw[aq9,he]at h1;cases h1;rfl
  ·rw[Array.toArray_toList];exact hS
section
variable{X:Cx}{aj:aQ}{W:WX}{o e:Expr}{f:Str}{pos p p1 pos':Pos}{fo:QF}
theorem aak{K:aqX}{g:Gh}{H:Hp}:∀{kv:List (Key×V)} {kvs:List (Dat×Dat)},kvs.map (·.1)=kv.map (λp=>keyD p.1)->aK K g H (kv.map λp=>kV p.1) (kvs.map (·.1))
 |[],[],_=>.nil
 |[],_::_,h=>by cases h
 |_::_,[],h=>by cases h
 |a::kv,b::kvs,h=>by
  simp only[aq1,List.cons.injEq]at h;rw[aq1,aq1,h.1];refine .cons ?_ (aak h.2);cases a.1 with
  |inl i=>exact .int i
  |inr x=>exact .str x
theorem aeQ(co:jF X.K aj)(hw:aj.w=X.w)(σ:L2.St)(H:Hp)(Q:VK)(h:tQ X.K aj W (CT f fo) σ H Q):tFld X.K (tW X.K aj W fo) f σ H λx H1=>ac0 X [x] H1 Q:=by
 obtain⟨g,Z,M,J,h⟩:=h;unfold CT at h;refine tW.go J h.bnd λod u H1 k2 e1 ru=>?_;have J1:=J.ex e1;split at k2
 ·next h i b kvs hl=>
  obtain⟨a,C,dx,fs,l,rfl,m1,m2,ml,ha,rfl,c1,c2,c3,c4,c5,c6,l1,l2,l3⟩:=FJ co J1.wok ru hl;refine⟨a,C,dx,fs,.ref l,rfl,c2,c4,c5,l1,?_⟩;cases b with
  |false=>
   obtain⟨kv,q1,q2,q3⟩:=l3;exact .inl ⟨l,kv,rfl,q1,λq nq=>k2 (.ref q) _ (e1.trans (Ex.new nq)) (.lst (.inl ⟨.inl upd_same,J1.kd.fresh nq⟩) (aak q2))⟩
  |true=>
   obtain⟨o',xs,vs,q1,q2,q3,q4,q5,q6⟩:=l3;rw[hw]at q2;exact .inr ⟨l,o',xs,rfl,q1,q2,λq nq=>k2 (.ref q) _ (e1.trans (Ex.new nq)) (.lst (.inl ⟨.inl upd_same,J1.kd.fresh nq⟩) (q4.ex (Ex.new nq) J1.kd))⟩
 ·exact asi k2
theorem aft(co:jF X.K aj)(hw:aj.w=X.w)(hc:X.calm=true)(hg:Gl X "list")(hm:X.mg "list"=none)(ho:QW aj X W o fo)(hb:baseOk o=true):QE aj X W (.Call (.Name "list" p) [.Attribute o f p1] [] pos) (CT f fo):=by
 have h1:=pa_cons (pe_fld (X:=X) (pos:=p1) (f:=f) ho (ni hb)) pa_nil (cU rfl []);have hv:BV (.type "list") "list":=⟨by decide +kernel,by decide,by decide⟩
 refine PE.weak (pe_callTy (pos:=pos) (p:=p) (aco hc) hg hm hv.1 h1 hv.2.1 hv.2.2 (cU rfl []) (by with_unfolding_all rfl)) λσ H Q h=>?_;exact aeQ co hw σ H Q h
def MF(ft:Ft)(o:QF)(f:Str)(b:Bool):SF:=λM Z=>((o (M++[⟨"",[]⟩]) Z).at (M++[⟨"",[]⟩])).then Z λod M2=>match kZ M2 od with
 |some (h,i)=>match ft.has i.cls f&&decide (i.fs.length < 100) with
  |true=>.next Z (M2.set h (i.put f (.dic b [])))
  |false=>.bad
 |none=>.bad
def al4(X:Cx)(b:Bool):TE:=λ_ H Q=>∀p,H p=none->match b with
 |false=>Q (.ref p) (upd H p (.dK []))
 |true=>∀o,lX X.w p o []->Q (.ref p) (upd H p (jc p o))
theorem aio{b:Bool}:PE X (.Dict [] [] pos) (al4 X b):=by
 cases b with
 |false=>exact PE.weak pe_dnewK λσ H Q h p np=>h p np
 |true=>
  refine⟨λpins s σ H Q I h=>wpAny_Dict_empty ?_⟩;have hz:(s.heap.push { cls:=.type "dict",data:=.dict #[] }).get? s.heap.objs.size=some { cls:=.type "dict",data:=.dict #[] }:=Heap.get?_push_size _ rfl
  have hs:(s.heap.objs.size==sysModules)=false:=beq_eq_false_iff_ne.mpr (Ne.symm (arE I.big));exact⟨.ref s.heap.objs.size,_,I.laid (a:=s.heap.objs.size) (o:=jc s.heap.objs.size _) (t':=s.toks) (λ_ _ q=>Heap.get?_push_of_some _ q) (arq _) (KC hz),rfl,h _ (I.hok.fresh (arq _)) _ ⟨hs,⟨rfl,rfl,rfl⟩,⟨#[],0,rfl,rfl⟩,List.nodup_nil,arK _,λx hx=>absurd hx arF⟩⟩
theorem ahY{ft:Ft}{b:Bool}(co:jF X.K aj)(fk:Le ft aj)(hw:aj.w=X.w)(ho:QW aj X W o fo)(hs:swapsWith (.Dict [] [] p) (some (.Attribute o f pos')) pos.line X.env=pure false):SE aj X W false (.Assign [.Attribute o f pos'] (.Dict [] [] p) pos) (MF ft fo f b):=by
 refine PS.weak (ps_fld ho (aio (b:=b)) hs) λD σ H ⟨g,Z,M,I,z⟩=>?_;have core:∀(l:Addr) (ob:HO),H l=none->Jk ob->(∀(g':Gh) (H':Hp),H' l=some ob->jO X.K aj g' H' l b [])->tW X.K aj W fo σ (upd H l ob) (λx H2=>∃a C dx fs,x=.ref a/\H2 a=some (.ins C dx fs)/\Cls X.K C/\NoAttr X.K C f/\fs.length < 1000/\D.nx σ (upd H2 a (.ins C dx (putF f (.ref l) fs)))):=by
  intro l ob nl mu at';obtain⟨gr,I1,tb,ow,mm⟩:=Ma I nl (Ex.new nl) upd_same mu;unfold MF at z;have k1:=Out.iV (cY (σ:=σ) z);refine tW.go I1 (k1.mono (λ_ y=>y) λx y H' c dd ex rx=>y H' _ c dd (gr.trans (Gr.ex ex)) (I1.ex ex) rx) λod u H2 k2 e2 ru=>?_;have I2:=I1.ex e2;split at k2
  ·next h i hi=>
   split at k2
   ·next hb=>
    rw[aqZ]at hb;obtain⟨a,C,dx,fs,_,m1,m2,ha,rfl,c1,c2,c3,c4,c5,c6⟩:=GZ co fk I2.wok ru hi hb.1;have nla:l≠a:=λz=>by
     subst z;cases I2.wok.inj _ _ _ ha tb;rw[mm]at m1;cases m1;exact m2 rfl
    refine⟨a,C,dx,fs,rfl,c2,c4,c5,?_,?_⟩
    ·have:=asl hb.2;rw[c3.len];omega
    ·have ch:=Tj (f:=f) (C:=C) (dx:=dx) (fs':=putF f (.ref l) fs) I2.kd I2.wok ha m1 m2 tb mm ow;have w':=I2.wok.chg I2.kd ch ha m1 m2 c6 c1 c3 upd_same (v:=.ref l) (fl:=.dic b []) ⟨l,rfl,if_pos rfl,at' _ _ (by rw[upd_ne nla];exact e2 _ _ upd_same)⟩;exact k2 σ _ _ ((gr.trans (Gr.ex e2)).trans ch.gc.gr) (I2.chg ch w')
   ·exact asi k2
  ·exact asi k2
 intro l nl;cases b with
 |false=>exact core l _ nl trivial λg' H' h=>⟨[],h,rfl,.nil⟩
 |true=>exact λob nd=>core l _ nl trivial λg' H' h=>⟨ob,[],[],h,by rw[hw];exact nd,rfl,.nil,.nil,.nil⟩
end
def akV(X:Cx)(D:Addr)(vs:List Nat)(g:TG)(tk:TE)(σ:L2.St)(Nx:Hp->Prop)(x:V)(H:Hp):Prop:=
 g x (L2.wipe σ vs) H λσ2 H2=>L2.wipe σ2 vs=L2.wipe σ vs/\tk σ2 H2 λy H4=>∃(o:Obj) (xs:List nO) (gg:Gh) (d:Dat) (b:Addr) (k:NestedKey),y=.ref b/\H4 D=some (jc D o)/\lX X.w D o xs/\aK X.K gg H4 (xs.map λx=>V.ref x.2.1) (xs.map λx=>x.1.data)/\Rep X.K gg H4 y d/\uw d=some k/\k.depth<=8/\xs.length < sizeLine/\
  ∀o',lX X.w D o' (storedH xs k b (.bool true))->Nx (upd H4 D (jc D o'))
def aj7(X:Cx)(wi:TI)(g:TG)(tk:TE)(vs:List Nat):TE:=λσ H Q=>wi σ H λJ H1=>∀D,H1 D=none->∃W:Nat->Nat->Hp->Prop,(∃m,∀o,lX X.w D o []->W 0 m (upd H1 D (jc D o)))/\
 ∀i m H,W i m H->(J.stop i H/\Q (.ref D) H)∨(J.go i H/\∃Nx:Hp->Prop,(∀H',Nx H'->∃m',m' < m/\W (i+1) m' H')/\∀x H',J.yld i H x H'->akV X D vs g tk σ Nx x H')
section
variable{X:Cx}
theorem ae7{pins:List (Addr×Obj)}{σ:L2.St}{H:Hp}{s:Shared}{E:Value->Shared->Prop}{D b:Addr}{o:Obj}{xs:List nO}{gg:Gh}{d:Dat}{k:NestedKey}{u:Value}{Q:Unit->Shared->Prop}(hu:X.A.units+64 < cLine)(I:L2.Inv X pins σ H s)(hD:H D=some (jc D o))(n:lX X.w D o xs)(hr:aK X.K gg H (xs.map λx=>V.ref x.2.1) (xs.map λx=>x.1.data))(hk:Rep X.K gg H (.ref b) d)(hd:uw d=some k)(h8:k.depth<=8)(hz:xs.length < sizeLine)(ru:RelV (.bl true) u)
  (q:∀s' o',lX X.w D o' (storedH xs k b (.bool true))->L2.Inv X pins σ (upd H D (jc D o')) s'->Q () s'):wpAny (model X.prog X.w) X.A (dictSet D (.ref b) u) Q E s:=by
 obtain rfl:u=.bool true:=ru
 refine wpAny_dictSet_heap (knd:=nestedKind X.prog X.w) (k:=k) (hsz:=Nat.le_of_lt hz) (show X.A.units+8 < cLine by omega) ⟨key_is I hk hd rfl,h8⟩ (Gx I hD n rfl hr) ?_;intro h' dd hs';obtain⟨o',es,ep,g1,g2,g3,g4,g5,g6⟩:=dd;have nd:lX X.w D o' (storedH xs k b (.bool true)):=⟨n.sys,g2,⟨es,ep,g3,g4⟩,g6,by have:=QS (xs:=xs) (k:=k) (b:=b) (u:=.bool true);omega,RB n.dep h8⟩;exact q _ o' nd (d_write I (by rw[hD];exact True.intro) hs' ⟨o',g1⟩ (KC g1))
theorem ajC{kx tg iter:Expr}{scope:Scope}{own:List (PySem.Str×Nat)}{pos vp:Pos}{vj:Nat}{wi:TI}{g:TG}{tk:TE}(hc:X.calm=true)(hN:X.N.Nodup)(hu:X.A.units+64 < cLine)(hi:PI X tg iter wi)(ok:BlkOk X.N X.env.scope scope own)
  (hg:∀(t:Shared) (G:Hp) (C:Addr) (cl:List (PySem.Str×Addr)) (fp:List Addr),PG (X.blk t G scope (compEnvC scope cl C X.env) fp) tg g)
  (hk:∀(t:Shared) (G:Hp) (C:Addr) (cl:List (PySem.Str×Addr)) (fp:List Addr),PE (X.blk t G scope (compEnvC scope cl C X.env) fp) kx tk) (hs:∀x,foldedSetIterable iter X.env x=pure x) :
  PE X (.DictComp kx (.Constant (.bool true) vj vp) [⟨tg,iter,[],0⟩] scope pos) (aj7 X wi g tk (own.map (·.2))):=by
 refine⟨λpins s σ H Q I h=>?_⟩;rw[arm_eval_DictComp];have cells:∀y∈scope.names,y.2=.free->∃c,X.env.cells.lookup y.1=some c:=λy hy e=>(ok.free y hy e).elim (λk=>I.ok.has _ (.inl k)) (λk=>I.ok.has _ (.inr k));refine wpAny_comprehension_free rfl hs (closure_ok cells) ok.kind (λy hy e=>by rw[ok.uniq y hy,e]) (thn (hi.run pins s σ H _ I h) λ_ _ hx=>thn hx λitv t0 h0=>?_);obtain⟨it,fp,tn,J,G0,rfl,I0,T,st0,f0,q⟩:=h0;refine wpAny_newObj_type (newEnv_comp ?_)
 -- the new dict,at D
 obtain⟨D,hD⟩:∃D,D=t0.heap.objs.size:=⟨_,rfl⟩;rw[←hD];obtain⟨W,⟨m0,w00⟩,turn⟩:=q D (I0.hok.fresh (Nat.le_of_eq hD.symm));obtain⟨ob,hob⟩:∃ob:Obj,ob={ cls:=.type "dict",data:=.dict #[] }:=⟨_,rfl⟩
 have nd0:lX X.w D ob []:=by rw[hob];exact⟨by rw[hD];exact beq_eq_false_iff_ne.mpr (Ne.symm (arE I0.big)),⟨rfl,rfl,rfl⟩,⟨#[],0,rfl,rfl⟩,List.nodup_nil,arK _,λx hx=>absurd hx arF⟩
 have w0:=w00 ob nd0;rw[←hob];obtain⟨t1,ht1⟩:∃t1:Shared,t1={ t0 with heap:=t0.heap.push ob }:=⟨_,rfl⟩;obtain⟨G1,hG1⟩:∃G1,G1=upd G0 D (jc D ob):=⟨_,rfl⟩;rw[←hG1]at w0;have grow:∀b o,t0.heap.get? b=some o->t1.heap.get? b=some o:=λb o e=>by rw[ht1];exact Heap.get?_push_of_some _ e
 have I1:L2.Inv X pins σ G1 t1:=by rw[ht1,hG1];refine I0.laid (t':=t0.toks) (λb o e=>Heap.get?_push_of_some _ e) (Nat.le_of_eq hD.symm) (KC ?_);rw[hD];exact Heap.get?_push_size _ (by rw[hob];rfl)
 have small:∀b∈fp,b < t0.heap.objs.size:=λb hb=>by
  obtain⟨o,e,_⟩:=T.obj _ _ st0 b hb;exact Heap.lt_size e
 have f1:∀b∈fp,FpOk X pins G1 b/\b < t1.heap.objs.size:=λb hb=>by
  have hlt:=small b hb;refine⟨⟨?_,(f0 b hb).2⟩,by rw[ht1];show b < (t0.heap.push ob).objs.size;rw[Heap.size_push];exact arX hlt⟩;rw[hG1,upd_ne (by rw[hD];exact arE hlt)];exact(f0 b hb).1
 have st1:tn 0 t1.heap:=T.keep _ _ _ st0 λb _ o e=>grow b o e;have I2:=block_start I1 ok hN f1;have pg:=hg t1 G1 t1.heap.objs.size (cellsFrom (t1.heap.objs.size+1) scope.names (cloFrom X.env.cells scope.names [])) fp;have pk:=hk t1 G1 t1.heap.objs.size (cellsFrom (t1.heap.objs.size+1) scope.names (cloFrom X.env.cells scope.names [])) fp;have none1:∀b∈fp,G1 b=none:=λb hb=>(f1 b hb).1.1;rw[show({ t0 with heap:=t0.heap.push ob }:Shared)=t1 from ht1.symm];obtain⟨ce,hce⟩:∃ce,ce=compEnvC scope (cellsFrom (t1.heap.objs.size+1) scope.names (cloFrom X.env.cells scope.names [])) t1.heap.objs.size X.env:=⟨_,rfl⟩;rw[←hce]at I2 pg pk;have cL:ce.locals=t1.heap.objs.size:=by rw[hce];rfl
 obtain⟨t2,ht2⟩:∃t2:Shared,t2={ t1 with heap:=pushCells (t1.heap.push { cls:=.type "dict",data:=.dict #[] }) scope.names }:=⟨_,rfl⟩
 rw[←ht2]at I2;have st2:tn 0 t2.heap:=T.keep _ _ _ st1 λb _ o e=>by rw[ht2];exact pushCells_keeps _ _ _ _ (Heap.get?_push_of_some _ e)
 have still:∀{σ':L2.St} {G':Hp} {t':Shared},L2.Inv (X.blk t1 G1 scope ce fp) [] σ' G' t'->(∀b∈fp,G' b=none)->∀b∈fp,FpOk (X.blk t1 G1 scope ce fp) [] G' b:=λI' hn b hb=>
  ⟨hn b hb,(I'.ok.exf b hb).1,I'.ok.exfs b hb,.inl hb,λx c e=>(I'.ok.exf b hb).2 x c e,λp hp=>absurd (show p∈([]:List (Addr×Obj))++[] from hp) (by simp)⟩
 have pt:PTs (X.blk t1 G1 scope ce fp) [] tYes:=pts_nil;have pv:PE (X.blk t1 G1 scope ce fp) (.Constant (.bool true) vj vp) (tC (.bl true)):=pe_bl;have loop:codeAny (model X.prog X.w) X.A (.compLoop (.DictComp kx (.Constant (.bool true) vj vp) [⟨tg,iter,[],0⟩] scope pos) 0 (.ref it) (.ref D) ce) (compPost (model X.prog X.w) X.A X.xe none (EP X pins σ Q) (.ref D) t1.heap.objs.size) t2:=by
  refine compLoop_anyD (λn t'=>∃i G',L2.Inv (X.blk t1 G1 scope ce fp) [] (L2.wipe σ (own.map (·.2))) G' t'/\tn i t'.heap/\(∀b∈fp,G' b=none)/\W i n G') ?_ m0 ⟨0,G1,I2,st2,none1,w0⟩;rintro n t3 ⟨i,G3,I3,st3,n3,w3⟩;rcases turn i n G3 w3 with⟨stop,fin⟩|⟨go,Nx,hNx,step⟩
  ·refine thnF (T.done (X.blk t1 G1 scope ce fp) rfl rfl rfl hc i [] t3 _ G3 (λ_ _=>False) I3 (still I3 n3) st3 stop) λr t4 ⟨hr,I4⟩=>?_;subst hr;have I5:L2.Inv X pins σ G3 t4:=I1.call' (ch:=fp) I4.os I4.base I4.hok I4.bare λb hb=>⟨(f1 b hb).1.2.2.2.1,(f1 b hb).1.2.1,(f1 b hb).1.2.2.2.2.1,(f1 b hb).1.2.2.2.2.2⟩;have nC:G3 t1.heap.objs.size=none:=by rw[←cL];exact I4.free
   obtain⟨m,hn,_⟩:=I4.loc;have hn':t4.heap.Ns t1.heap.objs.size m:=by rw[←cL];exact hn
   obtain⟨a0,a1,_,a3,a4,a5⟩:=I1.fpOk (arq _) nC;exact⟨m,hn',λh'' sb=>⟨.ref D,G3,I5.turned (t':=t4.toks) (λb o hb e=>(sb.2 b hb).trans e) a0 a1 a3 a4 a5,rfl,fin⟩⟩
  ·refine thnF (T.item (X.blk t1 G1 scope ce fp) rfl rfl rfl hc i [] t3 _ G3 (λ_ _=>False) I3 (still I3 n3) st3 go) λr t4 ⟨u,hr,h4⟩=>?_;subst hr;refine thnF h4 λ_ t5 ⟨x,G5,I5,r5,y5,st5,n5⟩=>?_;refine thnF (pg.run _ t5 _ G5 x u _ (I5.pinned (still I5 n5) (T.obj _ _ st5)) r5 (step x G5 y5)) λ_ t6 ⟨σ6,G6,I6,hw6,q6⟩=>?_;refine thnF (pt.run _ t6 σ6 G6 (λb G=>b=true/\G=G6) I6 ⟨rfl,rfl⟩) λb t7 ⟨G7,I7,hb7,hG7⟩=>?_;subst hb7 hG7;have over:∀{t':Shared} {G':Hp},L2.Inv (X.blk t1 G1 scope ce fp) ([]++pinsAt fp t5.heap) σ6 G' t'->Nx G'->∃m,m < n/\∃i G',L2.Inv (X.blk t1 G1 scope ce fp) [] (L2.wipe σ (own.map (·.2))) G' t'/\tn i t'.heap/\(∀b∈fp,G' b=none)/\W i m G':=λ{t' G'} I' nx=>by
    obtain⟨m',hm,w'⟩:=hNx G' nx;have pin:∀b∈fp,∀o,t5.heap.get? b=some o->t'.heap.get? b=some o/\G' b=none:=λb hb o e=>
     let z:=I'.pin (b,o) (arM _ (arM _ (mem_pinsAt hb e)))
     ⟨z.1,z.2.1⟩
    refine⟨m',hm,i+1,G',(I'.unpinned (pins:=[])).weak (by rw[←hw6,wipe_length]) (λj v e=>?_),T.keep _ _ _ st5 λb hb o e=>(pin b hb o e).1,λb hb=>?_,w'⟩
    ·rw[←hw6]at e;exact(wipe_some e).1
    ·obtain⟨o,e,_⟩:=T.obj _ _ st5 b hb;exact(pin b hb o e).2
   simp only[if_true];refine thnF (pk.run _ t7 σ6 _ _ I7 q6) λz t8 ⟨yv,G8,I8,r8,o8,xs8,g8,d8,b8,k8,ey,hD8,n8,hr8,hk8,hd8,h88,hz8,nx⟩=>?_;subst ey
   obtain rfl:z=Value.ref b8:=r8
   refine thnF (pv.run _ t8 σ6 G8 (λv G=>v=.bl true/\G=G8) I8 ⟨rfl,rfl⟩) λz2 t9 ⟨y9,G9,I9,r9,hv9,hG9⟩=>?_;subst hv9 hG9;exact ae7 (X:=X.blk t1 G1 scope ce fp) hu I9 hD8 n8 hr8 hk8 hd8 h88 hz8 r9 λs' o' nd I10=>over I10 (nx o' nd)
 have done:=codeAny_compStart_dict loop (T.self X.A 0 _ _ _ st2 loop);rw[hce,ht2]at done;subst hob;exact done
end
def Ea(tg:fV)(tk:QF)(M:Mo)(Z:Env):List Dat->List (Dat×Dat)->Out (List (Dat×Dat))
 |[],acc=>.ok acc
 |d::ds,acc=>match tg d Z with
  |none=>.bad
  |some Z1=>(yG (tk M Z1)).bind λkd=>(dhas true acc kd).bind λr=>Ea tg tk M Z ds (match r with
   |true=>acc
   |false=>acc++[(kd,.bool true)])
def qDc(it:IF)(tg:fV)(vs:List Nat)(tk:QF):Mo->Env->Out (List (Dat×Dat)):=λM Z=>(it M Z).bind λds=>Out.when (decide (ds.length<=50000)) (Ea tg tk M (cD Z vs) ds [])
def aj6(K:aqX)(aj:aQ)(W:WX)(f:Mo->Env->Out (List (Dat×Dat))):TE:=λσ H Q=>∃g Z M,SInv K aj σ H g Z M/\(f M Z).sat (λkvs=>∀l o H',H l=none->Ex H H'->H' l=some (jc l o)->jO K aj (g.add l) H' l true kvs->Q (.ref l) H') (rG K aj W g H σ)
section
variable{X:Cx}{aj:aQ}{W:WX}
theorem Vl{tg:fV}{tk:QF}{M:Mo}{Z:Env}:∀{ds:List Dat} {acc:List (Dat×Dat)} {x:dR},Ea tg tk M Z ds acc≠.exc x
 |[],_,_,h=>nomatch h
 |d::ds,acc,x,h=>by
  rw[Ea]at h;split at h
  ·cases h
  ·next Z1 e=>
   cases h1:tk M Z1 with
   |bad=>rw[h1]at h;cases h
   |exc y=>rw[h1]at h;cases h
   |ok kd=>
    rw[h1]at h;have h:((dhas true acc kd).bind λr=>Ea tg tk M Z ds (match r with
     |true=>acc
     |false=>acc++[(kd,.bool true)]))=.exc x:=h
    cases h2:dhas true acc kd with
    |bad=>rw[h2]at h;cases h
    |exc y=>
     unfold dhas at h2;split at h2
     ·cases h2
     ·split at h2
      ·split at h2<;>cases h2
      ·cases h2
     ·cases h2
    |ok r=>
     rw[h2]at h;exact Vl h
theorem aeV{xs:List nO}{k:NestedKey}(h:∀x∈xs,x.2.2=.bool true):xs.map (putAt k (.bool true))=xs:=by
 have:∀x∈xs,putAt k (.bool true) x=x:=λx hx=>by
  unfold putAt;split
  ·obtain⟨a,b,c⟩:=x;have:c=.bool true:=h _ hx;rw[this]
  ·rfl
 calc xs.map (putAt k (.bool true))=xs.map id:=List.map_congr_left this
  _=xs:=List.map_id xs
theorem aby:∀{xs:List nO},(∀x∈xs,x.2.2=.bool true)->Vals (List.replicate xs.length (.bl true)) (xs.map (·.2.2))
 |[],_=>.nil
 |x::xs,h=>by
  rw[ard,List.replicate_succ,aq1,h x aq4];exact .cons rfl (aby λy hy=>h y (aq3 _ hy))
theorem abl{K:aqX}{g:Gh}{H:Hp}:∀{kvs:List (Dat×Dat)} {n:Nat},n=kvs.length->(∀p∈kvs,p.2=.bool true)->aK K g H (List.replicate n (.bl true)) (kvs.map (·.2))
 |[],_,h,_=>by subst h;exact .nil
 |p::kvs,_,e,h=>by
  subst e;rw[ard,List.replicate_succ,aq1,h p aq4];exact .cons (.bl true) (abl rfl λy hy=>h y (aq3 _ hy))
theorem aly{it:IF}{tg:fV}{js vs:List Nat}{tk:QF}(hw:aj.w=X.w)(hj:∀j∈js,j∈vs)(σ:L2.St)(H:Hp)(Q:VK)(h:aj6 X.K aj W (qDc it tg vs tk) σ H Q) :
  aj7 X (tI X.K aj W false it) (zW X.K aj js tg) (tQ X.K aj WF tk) vs σ H Q:=by
 obtain⟨g,Z,M,I,h⟩:=h;refine⟨g,Z,M,I,h.bnd.mono (λds hk J C H1 e1 w c _ D nD=>?_) λ_ z=>z⟩;obtain⟨hz,hk⟩:=hk.qH;have hlen:=asl hz;obtain⟨total,htot,hQ⟩:∃total,Ea tg tk M (cD Z vs) ds []=.ok total/\∀l o H',H l=none->Ex H H'->H' l=some (jc l o)->jO X.K aj (g.add l) H' l true total->Q (.ref l) H':=by
  cases hc:Ea tg tk M (cD Z vs) ds [] with
  |bad=>rw[hc]at hk;exact asi hk
  |exc x=>exact absurd hc Vl
  |ok total=>
   rw[hc]at hk;exact⟨total,rfl,hk⟩
 have I1:=(I.ex e1).wipe vs;have kD:∀{Ha:Hp} {o:Obj},Ex H1 Ha->Ha D=some (jc D o)->SInv X.K aj (L2.wipe σ vs) Ha (g.add D) (cD Z vs) M:=λea hu=>I1.add nD ea hu trivial
 let Pv:Nat->Hp->Prop:=λi Ha=>Ex H1 Ha/\i<=ds.length/\∃o xs acc,Ha D=some (jc D o)/\lX X.w D o xs/\acc.map (·.1)=xs.map (λx=>x.1.data)/\aK X.K (g.add D) Ha (xs.map λx=>V.ref x.2.1) (acc.map (·.1))/\(∀x∈xs,x.2.2=.bool true)/\(∀p∈acc,p.2=.bool true)/\acc.length<=i/\Ea tg tk M (cD Z vs) (ds.drop i) acc=.ok total
 refine⟨λi m Ha=>m=ds.length - i/\Pv i Ha,⟨ds.length,λo n0=>⟨rfl,Ex.new nD,arK _,o,[],[],upd_same,n0,rfl,.nil,λx hx=>absurd hx arF,λx hx=>absurd hx arF,arq _,by rw[asf];exact htot⟩⟩,?_⟩;rintro i m Ha ⟨rfl,ea,hi,o,xs,acc,hu,nd,hK,hR,hT,hA,hy,hs⟩;have Ia:=kD ea hu;have Ca:=w.add g (g.add D) H1 Ha (I.kd.ex e1) c (Gh.Gk nD ea) ea;have lxs:xs.length=acc.length:=by have:=congrArg List.length hK;simpa using this.symm
 by_cases hlt:i < ds.length
 ·refine .inr ⟨w.go _ i Ha Ca hlt,Pv (i+1),λH' p=>⟨ds.length - (i+1),by omega,rfl,p⟩,λx H' y=>?_⟩;have hd:ds[i]?=some ds[i]:=aq0 hlt;obtain⟨e2,rx⟩:=w.yld _ i Ha x H' _ Ia.kd Ca hd y;have I2:=Ia.ex e2;rw[arT hlt,Ea]at hs;split at hs
  ·cases hs
  ·next Z1 he=>
   refine⟨g.add D,_,M,_,Z1,I2,rx,he,λws I3=>⟨Aq js ws _ vs hj |>.trans (Dt σ vs),?_⟩⟩;cases htk:tk M Z1 with
   |bad=>rw[htk]at hs;cases hs
   |exc z=>rw[htk]at hs;cases hs
   |ok kd=>
    rw[htk]at hs;have hs:((dhas true acc kd).bind λr=>Ea tg tk M (cD Z vs) (ds.drop (i+1)) (match r with
     |true=>acc
     |false=>acc++[(kd,.bool true)]))=.ok total:=hs
    refine⟨g.add D,Z1,M,I3,?_⟩;rw[htk];intro v H4 e4 ry;have I4:=I3.ex e4;have hu4:=e4 _ _ (e2 _ _ hu);have hR4:=(hR.ex e2 Ia.kd).ex e4 I2.kd;cases hh:dhas true acc kd with
    |bad=>rw[hh]at hs;cases hs
    |exc z=>rw[hh]at hs;cases hs
    |ok r=>
     rw[hh]at hs;obtain⟨ha2,hcase⟩:=Tt hh;rcases hcase with⟨z,_⟩|⟨_,dd,kk,rfl,hkk,hdep⟩
     ·cases z
     ·have ek:=Ab hkk;rw[←ek,HD hK]at ha2;have hRx:=hR4;rw[hK]at hRx;cases ry with
      | @tup bb us _ hs' ht=>
       refine⟨o,xs,g.add D,_,bb,kk,rfl,hu4,nd,hRx,.tup hs' ht,hkk,hdep,sz_lt (by omega),λo' nd'=>?_⟩;have eD:Ex H1 (upd H4 D (jc D o')):=Ex.mut ((ea.trans e2).trans e4) nD;have lD:(g.add D).Lo D:=.inr rfl;have up:Gr true (g.add D) (g.add D) H4 (upd H4 D (jc D o')):=Gr.upd I4.kd hu4 (.inr lD);cases r with
       |true=>
        obtain⟨q,hq⟩:=Option.isSome_iff_exists.mp ha2;rw[storedH_old hq,aeV hT]at nd';exact⟨eD,hlt,o',xs,acc,upd_same,nd',hK,hR4.gr up I4.kd,hT,hA,by omega,hs⟩
       |false=>
        have hn:atKey xs kk=none:=by
         cases hv:atKey xs kk with
         |none=>rfl
         |some _=>rw[hv]at ha2;cases ha2
        rw[storedH_new hn]at nd';have hs:Ea tg tk M (cD Z vs) (ds.drop (i+1)) (acc++[(.tuple dd,.bool true)])=.ok total:=hs;refine⟨eD,hlt,o',xs++[(kk,bb,.bool true)],acc++[(.tuple dd,.bool true)],upd_same,nd',by simp[hK,ek],?_,?_,?_,by simp;omega,hs⟩
        ·rw[arC,arC];exact(hR4.gr up I4.kd).back ((Rep.tup hs' ht).gr up I4.kd)
        ·intro x hx;rcases aq8.mp hx with z|z
         ·exact hT x z
         ·rw[aq5.mp z]
        ·intro x hx;rcases aq8.mp hx with z|z
         ·exact hA x z
         ·rw[aq5.mp z]
 ·have e:i=ds.length:=by omega
  refine .inl ⟨w.stop _ i Ha Ca e,?_⟩;rw[e,arV]at hs;cases hs;exact hQ D o Ha (Dk e1 D nD) (e1.trans ea) hu ⟨o,xs,List.replicate xs.length (.bl true),hu,by rw[hw];exact nd,hK,hR,aby hT,abl lxs hA⟩
def Rg(ft:Ft)(o:QF)(f:Str)(e:Mo->Env->Out (List (Dat×Dat))):SF:=λM Z=>((e M Z).at M).then Z λkvs _=>((o (M++[⟨"",[]⟩]) Z).at (M++[⟨"",[]⟩])).then Z λod M2=>match kZ M2 od with
 |some (h,i)=>match ft.has i.cls f&&decide (i.fs.length < 100) with
  |true=>.next Z (M2.set h (i.put f (.dic true kvs)))
  |false=>.bad
 |none=>.bad
end
theorem Yl{K:aqX}{g:Gh}{H:Hp}{l:Addr}{vs:List V}{ds:List Dat}(h:aK K (g.add l) H vs ds):aK K (g.push l) H vs ds:=aK.mv (g:=g.add l) (g':=g.push l) (λh a z=>by
  have z:g.tbl[h]?=some a:=z
  show(g.tbl++[l])[h]?=some a
  rw[aq7 (aqY.mp z).1];exact z) (λa z=>by
  rcases Z9 z with z|rfl
  ·rcases z with z|z|z
   ·exact .inl z
   ·exact .inr (.inl z)
   ·exact .inr (.inr (show g.Lo a∨a=l from Or.inl z))
  ·exact .inr (.inr (show g.Lo a∨a=a from Or.inr rfl))) h
section
variable{X:Cx}{aj:aQ}{W:WX}{o e:Expr}{f:Str}{pos pos':Pos}{ft:Ft}{fo:QF}
theorem ahf{fe:Mo->Env->Out (List (Dat×Dat))}{te:TE}(co:jF X.K aj)(fk:Le ft aj)(ho:QW aj X W o fo)(he:PE X e te)(hte:∀σ H Q,aj6 X.K aj W fe σ H Q->te σ H Q)(hs:swapsWith e (some (.Attribute o f pos')) pos.line X.env=pure false):SE aj X W false (.Assign [.Attribute o f pos'] e pos) (Rg ft fo f fe):=by
 refine PS.weak (ps_fld ho he hs) λD σ H ⟨g,Z,M,I,z⟩=>hte σ H _ ⟨g,Z,M,I,?_⟩;unfold Rg at z;cases hf:fe M Z with
 |exc x=>rw[hf]at z;exact λH' c dd e r=>z σ H' g c dd (Gr.ex e) (I.ex e) r.fr
 |bad=>rw[hf]at z;exact asi z
 |ok kvs=>
  rw[hf]at z;intro l ob H1 nl e1 hl dic;obtain⟨gr,I1,tb,ow,mm⟩:=Ma I nl e1 hl trivial;have dic1:jO X.K aj (g.push l) H1 l true kvs:=by obtain⟨o',xs,vs,q1,q2,q3,q4,q5,q6⟩:=dic;exact⟨o',xs,vs,q1,q2,q3,Yl q4,q5,Yl q6⟩
  have z:(((fo (M++[⟨"",[]⟩]) Z).at (M++[⟨"",[]⟩])).then Z λod M2=>match kZ M2 od with
   |some (h,i)=>match ft.has i.cls f&&decide (i.fs.length < 100) with
    |true=>.next Z (M2.set h (i.put f (.dic true kvs)))
    |false=>.bad
   |none=>.bad).sat (sN X.K aj false D.nx g H) (sR X.K aj false D.rt g H) (sN X.K aj false D.bk g H) (sN X.K aj false D.ct g H) (sX X.K aj W false g H):=z
  have k1:=Out.iV (cY (σ:=σ) z);refine tW.go I1 (k1.mono (λ_ y=>y) λx y H' c dd ex rx=>y H' _ c dd (gr.trans (Gr.ex ex)) (I1.ex ex) rx) λod u H2 k2 e2 ru=>?_;have I2:=I1.ex e2;split at k2
  ·next h i hi=>
   split at k2
   ·next hb=>
    rw[aqZ]at hb;obtain⟨a,C,dx,fs,_,m1,m2,ha,rfl,c1,c2,c3,c4,c5,c6⟩:=GZ co fk I2.wok ru hi hb.1;have nla:l≠a:=λz=>by
     subst z;cases I2.wok.inj _ _ _ ha tb;rw[mm]at m1;cases m1;exact m2 rfl
    refine⟨a,C,dx,fs,rfl,c2,c4,c5,?_,?_⟩
    ·have:=asl hb.2;rw[c3.len];omega
    ·have ch:=Tj (f:=f) (C:=C) (dx:=dx) (fs':=putF f (.ref l) fs) I2.kd I2.wok ha m1 m2 tb mm ow;have w':=I2.wok.chg I2.kd ch ha m1 m2 c6 c1 c3 upd_same (v:=.ref l) (fl:=.dic true kvs) ⟨l,rfl,if_pos rfl,jO.chg ch.gc.gr I2.kd (upd_ne nla) (dic1.ex e2 I1.kd)⟩;exact k2 σ _ _ ((gr.trans (Gr.ex e2)).trans ch.gc.gr) (I2.chg ch w')
   ·exact asi k2
  ·exact asi k2
end
end Rf
namespace Ear
open PySem PySem.Spec PyProof.Rows L2 Evl RZ
abbrev yD(K:aqX)(H:Hp)(v:V)(r:Rw):Prop:=Dp K H v (rD r)
@[irreducible]def Lz (K:aqX) (w:World):List V->Hp->VK->Prop:=λvs H Q=>∃(l:Addr) (ws:List V) (R D:List Rw),vs=[V.ref l]/\SqL K H l ws/\fL (yD K H) ws R/\D.length<=76/\(∀r∈R,r∈D)/\
 ∀(p:Addr) (L:List Ent),H p=none->(∀e∈L,yD K H (.ref e.1) e.2)->(L.map Prod.snd).Nodup->(∀r,r∈L.map Prod.snd↔r∈R)->L.length<=76->Q (.ref p) (upd H p (M5 w p L))
@[irreducible]def Ol (K:aqX) (w:World):List V->Hp->VK->Prop:=λvs H Q=>∃(a:Addr) (L:List Ent),vs=[V.ref a]/\H a=some (M5 w a L)/\(∀e∈L,yD K H (.ref e.1) e.2)/\(L.map Prod.snd).Nodup/\L.length<=76/\
 ∀(ys:List V) (M:List Rw) (p:Addr),fL (yD K H) ys M->Vy M->(∀r,r∈M↔r∈L.map Prod.snd)->H p=none->Q (.ref p) (upd H p (.lst ys))
section
variable{X:Cx}
theorem aeZ{pins:List (Addr×Obj)}{σ:L2.St}{H:Hp}{s:Shared}(I:Inv X pins σ H s){t:Addr}{r:Rw}(h:yD X.K H (.ref t) r):RI s.heap r t:=by
 refine⟨?_,by rw[afk];decide⟩;unfold yD rD dT at h;cases h with
 |tup h1 t1=>
  cases t1 with
  |cons a1 t1=>
   cases t1 with
   |cons a2 t1=>
    cases t1;cases a1;cases a2 with
    |tup h2 t2=>
     obtain⟨us,rv,⟨o,ho,hc,n,hd⟩,_⟩:=I.tuple h1;obtain⟨us2,rv2,⟨o2,ho2,hc2,n2,hd2⟩,_⟩:=I.tuple h2;refine .tup ho hc hd ?_;cases rv with
     |cons r1 rv=>
      cases rv with
      |cons r2 rv=>
       cases rv;obtain⟨tk,rfl⟩:=r1;cases r2;have e:∀{vs:List V} {l:List Int},DpAll X.K H vs (l.map PyData.int)->vs=l.map V.int:=by
        intro vs l
        induction l generalizing vs with
        |nil=>intro z;cases z;rfl
        |cons i l ih=>
         intro z;cases z with
         |cons b1 b2=>
          cases b1;rw[ih b2];rfl
       rw[e t2]at rv2;exact .cons (.int r.1 tk) (.cons (.tup ho2 hc2 hd2 (by simpa using Wn (P:=X.prog) (w:=X.w) r.2 us2 rv2)) .nil)
theorem Qw{K:aqX}{H:Hp}:∀(ws:List V) (R:List Rw),fL (yD K H) ws R->∃ks:List Ent,ws=(ks.map λp=>V.ref p.1)/\ks.map Prod.snd=R/\∀p∈ks,yD K H (.ref p.1) p.2
 |[],[],_=>⟨[],rfl,rfl,by simp⟩
 |[],_::_,h=>nomatch h.1
 |_::_,[],h=>nomatch h.1
 |v::ws,r::R,h=>by
  obtain⟨ks,e1,e2,e3⟩:=Qw ws R ⟨ase h.1,λi v x a b=>h.2 (i+1) v x a b⟩;have hr:yD K H v r:=h.2 0 v r rfl rfl;have ev:∃t,v=.ref t:=by
   have z:=hr;unfold yD rD at z;cases z with
   |tup _ _=>exact⟨_,rfl⟩
  obtain⟨t,rfl⟩:=ev;refine⟨(t,r)::ks,by rw[aq1,←e1],by rw[aq1,e2],λp hp=>?_⟩;rcases arh.mp hp with e|hp
  ·rw[e];exact hr
  ·exact e3 p hp
theorem aaH(hu:X.A.units+65 < cLine)(hc:X.calm=true):CallR X (.type "set") (Lz X.K X.w):=by
 intro pins s σ H vs us Q I r h;unfold Lz at h;obtain⟨l,ws,R,D,rfl,hl,hA,hD,hRD,q⟩:=h;rw[Vals.ref1 r];obtain⟨ks,e1,e2,e3⟩:=Qw ws R hA;obtain⟨its,rv,pl,hz⟩:=I.list hl;rw[e1]at rv;have mem:∀p∈ks,p.2∈R:=λp hp=>by
  rw[←e2];exact arb.mpr ⟨p,hp,rfl⟩
 have hn:H s.heap.objs.size=none:=I.hok.fresh (arq _);refine aaC (P:=X.prog) (w:=X.w) (hf:=λr=>(oK X.prog X.w).hash r) (λ_=>rfl) ks D hD (λp hp=>hRD _ (mem p hp)) (I.ok.hd hc) pl.isList (by simpa using Vr rv) (λp hp=>aeZ I (e3 p hp)) (by omega) λh' tk L es ep t S g k=>?_;have fitL:t.fits es.size=true:=qM.fits (s:={ s with heap:=h',toks:=tk }) S;have new:ObjOk X.prog X.w (upd H s.heap.objs.size (M5 X.w s.heap.objs.size L)) h' s.heap.objs.size (M5 X.w s.heap.objs.size L):=by obtain⟨o,ho,hr⟩:=S.ob;refine⟨⟨_,es,ep,t,S.ob,S.en,fitL,S.tab.ris,S.ld⟩,⟨o,ho⟩,λh1 h2 z k2=>?_⟩;obtain⟨hf2,es2,ep2,t2,⟨o2,ho2,hr2⟩,rest⟩:=(show acn X.w h1 s.heap.objs.size L from z);exact⟨hf2,es2,ep2,t2,⟨o2,k2 o2 ho2,hr2⟩,rest⟩
 refine⟨.ref s.heap.objs.size,upd H s.heap.objs.size (M5 X.w s.heap.objs.size L),I.laid (t':=tk) k (arq _) new,rfl,q _ L hn (λe he=>e3 e (arY (g.sub e he))) S.nd (λr=>⟨λm=>?_,λm=>?_⟩) S.few⟩
 ·obtain⟨e,he,e5⟩:=arb.mp m;rw[←e5];exact mem e (arY (g.sub e he))
 ·rw[←e2]at m;obtain⟨p,hp,e5⟩:=arb.mp m;rw[←e5];exact g.all p (by rw[List.take_length];exact hp)
theorem ace(hu:X.A.units+65 < cLine)(hc:X.calm=true):CallR X (.builtin "sorted") (Ol X.K X.w):=by
 intro pins s σ H vs us Q I r h;unfold Ol at h;obtain⟨a,L,rfl,ha,hL,nd,few,q⟩:=h;rw[Vals.ref1 r];obtain⟨hf,es,ep,t,⟨o,ho,hex,hd⟩,en,fit,ris,led⟩:acn X.w s.heap a L:=(I.hok a _ ha).1;have len:=zq en;have ev:∀K:List Ent,(∀p∈K,p∈L)->PySem.W.EachIs (λv (r:Rw)=>(∃p∈L,v=Value.ref p.1/\r=p.2)/\∃as,Reads s.heap v (rD r) as) ((ents hf K).map (·.2)) (K.map Prod.snd):=by
  intro K
  induction K with
  |nil=>exact λ_=>.nil
  |cons p K ih=>
   intro hK;have hp:=hK p aq4;exact .cons ⟨⟨p,hp,rfl,rfl⟩,Dp.reads I (rD p.2) (.ref p.1) (.ref p.1) (hL p hp) rfl⟩ (ih λx hx=>hK x (aq3 _ hx))
 refine aaE (enc:=rD) (bs:=L.map Prod.snd) (I.ok.hd hc) ⟨o,ho,hex.1,hd⟩ fit (by unfold scanBound;omega) ris led (by rw[en];exact ev L λp hp=>hp) (PySem.W.AllAlike.of VP) (PySem.W.Sortable.tuples λb=>⟨_,_,rfl⟩) (λb _=>by rw[(ada b).2];omega) λs' p out c cs k g' o' hp hg pc eo=>?_;have mp:=List.mergeSort_perm cs (PySem.W.dataLe false rD);have ndm:(cs.mergeSort (PySem.W.dataLe false rD)).Nodup:=(mp.trans pc).nodup_iff.mpr nd;have srt:=List.pairwise_mergeSort (le:=PySem.W.dataLe false rD) (λa b c k1 k2=>by rw[KJ,asj]at *;exact List.le_trans k1 k2) (λa b=>by rw[KJ,KJ,Bool.or_eq_true,asj,asj];exact List.le_total _ _) cs;generalize cs.mergeSort (PySem.W.dataLe false rD)=M at mp ndm srt eo;obtain⟨ys,v1,v2⟩:=VF out M eo;have up:Vy M:=by
  refine List.Pairwise.imp₂ (λa b h1 h2=>?_) srt ndm;rw[KJ,asj]at h1;by_cases c:rk a < rk b
  ·exact c
  ·exact absurd (acU (List.le_antisymm h1 (List.not_lt.mp c))) h2
 have hfr:H p=none:=I.hok.fresh hp;have hlen:ys.length<=sizeLine:=by rw[v2.1,mp.length_eq,pc.length_eq,ara,sizeLine_eq];omega
 have J:Inv X pins σ (upd H p (.lst ys)) { s with heap:=s'.heap,gens:=s'.gens,drawn:=s'.drawn,toks:=s'.toks }:=
  I.call (ch:=[]) (Un.laid k hp hfr) (I.hok.laid k hp ⟨hlen,out,c,v1,hg⟩) (by rw[g'];exact I.bare) (λ_ z=>nomatch z)
 have es':s'={ s with heap:=s'.heap,gens:=s'.gens,drawn:=s'.drawn,toks:=s'.toks }:=by cases s';cases s;cases o';rfl
 rw[es'];refine⟨.ref p,_,J,rfl,q ys M p (v2.imp λv r ⟨e,he,h1,h2⟩=>?_) up (λr=>(mp.trans pc).mem_iff) hfr⟩;subst h1 h2;exact hL e he
end
end Ear
namespace Rf
open PySem PySem.Spec PyProof.Rows L2 Evl
def acw:Dat->Option Ear.Rw
 |.tuple [.int o,.tuple ds]=>(intsOf ds).map λl=>(o,l)
 |_=>none
def DG:List Dat->Option (List Ear.Rw)
 |[]=>some []
 |d::ds=>(acw d).bind λr=>(DG ds).bind λrs=>some (r::rs)
theorem Ku:∀{ds:List Dat} {l:List Int},intsOf ds=some l->ds=l.map PyData.int
 |[],l,h=>by cases h;rfl
 |.int i::ds,l,h=>by
  rw[intsOf,arz]at h;obtain⟨r,h1,rfl⟩:=h;rw[Ku h1];rfl
 |.none::_,_,h=>by cases h
 |.bool _::_,_,h=>by cases h
 |.str _::_,_,h=>by cases h
 |.list _::_,_,h=>by cases h
 |.tuple _::_,_,h=>by cases h
 |.dict _::_,_,h=>by cases h
theorem ahX{d:Dat}{r:Ear.Rw}(h:acw d=some r):d=Ear.rD r:=by
 unfold acw at h;split at h
 ·next o ds=>
  rw[arz]at h;obtain⟨l,h1,rfl⟩:=h;rw[Ku h1];rfl
 ·cases h
theorem O9:∀{ds:List Dat} {rs:List Ear.Rw},DG ds=some rs->ds=rs.map Ear.rD
 |[],_,h=>by cases h;rfl
 |d::ds,_,h=>by
  rw[DG]at h;obtain⟨r,h1,h⟩:=aqW.mp h;obtain⟨rs,h2,h⟩:=aqW.mp h;cases h;rw[ahX h1,O9 h2];rfl
def RK(R:List Ear.Rw):List Ear.Rw:=R.mergeSort λa b=>decide (Ear.rk a<=Ear.rk b)
def sortI(l:List Int):List Int:=l.mergeSort λa b=>decide (a<=b)
def bR(R:List Ear.Rw):List Ear.Rw:=RK R.eraseDups
def agv(l:List Int):List Int:=sortI l.eraseDups
theorem Y5:∀(n:Nat) (l:List Int),mD n (l.map PyData.int)=true:=λn l=>by
 induction l with
 |nil=>rfl
 |cons i l ih=>simp[mD,okd,ih]
theorem Zh(n:Nat)(r:Ear.Rw):okd (n+2) (Ear.rD r)=true:=by unfold Ear.rD Ear.dT;simp[okd,mD,Y5]
theorem ahH(n:Nat)(R:List Ear.Rw):mD (n+2) (R.map Ear.rD)=true:=by
 induction R with
 |nil=>rfl
 |cons r R ih=>simp[mD,Zh,ih]
def Jh:Dat->Out Dat
 |.list ds=>match intsOf ds with
  |some l=>.ok (.list ((sortI l).map PyData.int))
  |none=>match DG ds with
   |some R=>.ok (.list ((RK R).map Ear.rD))
   |none=>.bad
 |_=>.bad
def Rm:Dat->Out Dat
 |.list ds=>match DG ds with
  |some R=>match decide (R.eraseDups.length<=76) with
   |true=>.ok (.list ((bR R).map Ear.rD))
   |false=>.bad
  |none=>.bad
 |_=>.bad
theorem Vj{β:Type}{enc:β->Dat}{le:β->β->Bool}(h:∀a b,PySem.W.dataLe false id (enc a) (enc b)=le a b)(l:List β):(l.map enc).mergeSort (PySem.W.dataLe false id)=(l.mergeSort le).map enc:=by rw[List.map_mergeSort (r:=le) (s:=PySem.W.dataLe false id) (λa _ b _=>(h a b).symm)]
theorem Bg{α:Type}[BEq α][LawfulBEq α]{l:List α}{x:α}:x∈l.eraseDups↔x∈l:=by
 induction hn:l.length using Nat.strongRecOn generalizing l with
 |_ n ih=>
  cases l with
  |nil=>simp
  |cons a r=>
   rw[List.eraseDups_cons];simp only[ard]at hn;have hl:(r.filter λb=>!b==a).length<=r.length:=arl _ _;rw[arh,ih _ (by omega) rfl,arn,arh];constructor
   ·rintro(h|h)
    ·exact .inl h
    ·exact .inr h.1
   ·rintro(h|h)
    ·exact .inl h
    ·by_cases e:x=a
     ·exact .inl e
     ·exact .inr ⟨h,by simpa using e⟩
theorem Sh{α:Type}[BEq α][LawfulBEq α]{l:List α}:l.eraseDups.Nodup:=by
 induction hn:l.length using Nat.strongRecOn generalizing l with
 |_ n ih=>
  cases l with
  |nil=>simp
  |cons a r=>
   rw[List.eraseDups_cons];simp only[ard]at hn;have hl:(r.filter λb=>!b==a).length<=r.length:=arl _ _;refine ar9.mpr ⟨λh=>?_,ih _ (by omega) rfl⟩;rw[Bg,arn]at h;simpa using h.2
theorem fU{R:List Ear.Rw}{r:Ear.Rw}:r∈bR R↔r∈R:=by unfold bR RK;rw[List.mem_mergeSort,Bg]
theorem Zz(R:List Ear.Rw):Ear.Vy (bR R):=by
 unfold Ear.Vy bR RK;have srt:=List.pairwise_mergeSort (le:=λa b:Ear.Rw=>decide (Ear.rk a<=Ear.rk b)) (λa b c k1 k2=>by rw[asj]at *;exact List.le_trans k1 k2) (λa b=>by rw[Bool.or_eq_true,asj,asj];exact List.le_total _ _) R.eraseDups;have nd:(R.eraseDups.mergeSort λa b=>decide (Ear.rk a<=Ear.rk b)).Nodup:=(List.mergeSort_perm _ _).nodup_iff.mpr Sh;refine List.Pairwise.imp₂ (λa b h1 h2=>?_) srt nd;rw[asj]at h1;by_cases c:Ear.rk a < Ear.rk b
 ·exact c
 ·exact absurd (Ear.acU (List.le_antisymm h1 (List.not_lt.mp c))) h2
section
variable{K:aqX}{g:Gh}{H:Hp}
theorem Pb{xs:List V}{ds:List Dat}(h:aK K g H xs ds):∀{ys:List V} {es:List Dat},Ear.fL (Ear.afV xs ds) ys es->aK K g H ys es
 |[],[],_=>.nil
 |[],_::_,z=>nomatch z.1
 |_::_,[],z=>nomatch z.1
 |y::ys,e::es,z=>by
  obtain⟨i,h1,h2⟩:=z.2 0 y e rfl rfl;obtain⟨d,h3,h4⟩:=h.get' h1;rw[h2]at h3;cases h3;exact .cons h4 (Pb h ⟨ase z.1,λi v x a b=>z.2 (i+1) v x a b⟩)
end
section
variable{X:Cx}{aj:aQ}{W:WX}{a:Expr}{fa:QF}{p p2 pos pos2:Pos}
theorem ahk:JB aj X.K W Jh (Ear.HW X.K):=λσ g H x d Q k rx h=>by
 unfold Jh at h;split at h
 ·next ds=>
  obtain⟨l,us,rfl,h1,h2⟩:=jo rx;unfold Ear.HW;split at h
  ·next ns hn=>
   have e:=Ku hn;subst e;refine⟨l,us,ns.map PyData.int,rfl,h1,h2.dp (n:=12) (Y5 12 ns),PySem.W.AllAlike.of (λa b=>by simp[PySem.W.alike]),PySem.W.Sortable.others (λb=>⟨(λz=>nomatch z),λxs z=>nomatch z⟩),λd hd=>by
    obtain⟨i,_,rfl⟩:=arb.mp hd;simp[PyData.depth],λys q hy nq=>?_⟩
   have hs:=Vj (enc:=PyData.int) (le:=λa b:Int=>decide (a<=b)) (λa b=>congrFun (congrFun (PySem.W.dataLe_int (λk:Int=>k)) a) b) ns;rw[hs]at hy;exact h (.ref q) _ (Ex.new nq) (.lst (.inl ⟨.inl upd_same,k.fresh nq⟩) ((Pb h2 hy).ex (Ex.new nq) k))
  ·split at h
   ·next R hR=>
    have e:=O9 hR;subst e;refine⟨l,us,R.map Ear.rD,rfl,h1,h2.dp (n:=12) (ahH 10 R),PySem.W.AllAlike.of Ear.VP,PySem.W.Sortable.tuples (λb=>⟨_,_,rfl⟩),λd hd=>by
     obtain⟨i,_,rfl⟩:=arb.mp hd;rw[(Ear.ada i).2]
     decide,λys q hy nq=>?_⟩
    ·have hs:=Vj (enc:=Ear.rD) (le:=λa b:Ear.Rw=>decide (Ear.rk a<=Ear.rk b)) (λa b=>by rw[←Ear.KJ];rfl) R;rw[hs]at hy;exact h (.ref q) _ (Ex.new nq) (.lst (.inl ⟨.inl upd_same,k.fresh nq⟩) ((Pb h2 hy).ex (Ex.new nq) k))
   ·exact asi h
 ·exact asi h
theorem ahW(hu:X.A.units+65 < cLine)(hg:Gl X "sorted")(hm:X.mg "sorted"=none)(ha:QW aj X W a fa)(hs:nst a=true):QE aj X W (.Call (.Name "sorted" p) [a] [] pos) (eX Jh fa):=
 agb (.inl rfl) (Ear.abO hu) ahk hg hm ⟨by decide +kernel,by decide,by decide⟩ ha hs
theorem abH{K:aqX}{g:Gh}{H:Hp}:∀{vs:List V} {l:List Int},DpAll K H vs (l.map PyData.int)->aK K g H vs (l.map PyData.int)
 |_,[],.nil=>.nil
 |_,_::_,.cons (.int i) t=>.cons (.int i) (abH t)
theorem aef{K:aqX}{g:Gh}{H:Hp}{v:V}{r:Ear.Rw}(h:Ear.yD K H v r):Rep K g H v (Ear.rD r):=by
 unfold Ear.yD Ear.rD at h;cases h with
 |tup h1 t1=>
  cases t1 with
  |cons a1 t1=>
   cases a1;cases t1 with
   |cons a2 t2=>
    cases t2;cases a2 with
    |tup h2 t3=>exact .tup h1 (.cons (.int _) (.cons (.tup h2 (abH t3)) .nil))
theorem Vh{K:aqX}{g:Gh}{H:Hp}:∀{vs:List V} {R:List Ear.Rw},aK K g H vs (R.map Ear.rD)->Ear.fL (Ear.yD K H) vs R
 |_,[],.nil=>⟨rfl,λi v x a b=>by simp at a⟩
 |_,r::R,.cons h t=>by
  have ih:=Vh t;refine⟨congrArg (· + 1) ih.1,λi v x a b=>?_⟩;cases i with
  |zero=>
   simp at a b;subst a b;exact h.dp (n:=12) (Zh 10 _)
  |succ i=>exact ih.2 i v x (by simpa using a) (by simpa using b)
theorem Wx{K:aqX}{g:Gh}{H:Hp}:∀{vs:List V} {R:List Ear.Rw},Ear.fL (Ear.yD K H) vs R->aK K g H vs (R.map Ear.rD)
 |[],[],_=>.nil
 |[],_::_,h=>nomatch h.1
 |_::_,[],h=>nomatch h.1
 |v::vs,r::R,h=>.cons (aef (h.2 0 v r rfl rfl)) (Wx ⟨ase h.1,λi v x a b=>h.2 (i+1) v x a b⟩)
theorem aii(hu:X.A.units+65 < cLine)(hc:X.calm=true)(hg:Gl X "sorted")(hm:X.mg "sorted"=none)(hg2:Gl X "set")(hm2:X.mg "set"=none)(ha:QW aj X W a fa)(hs:nst a=true):QE aj X W (.Call (.Name "sorted" p) [.Call (.Name "set" p2) [a] [] pos2] [] pos) (eX Rm fa):=by
 have h0:=pa_cons ha pa_nil (cU hs []);have h1:PE X (.Call (.Name "set" p2) [a] [] pos2) _:=pe_callTy (Ear.aaH hu hc) hg2 hm2 (by decide +kernel) h0 (by decide) (by decide) (cU hs []) (by with_unfolding_all rfl)
 have h2:=pa_cons h1 pa_nil (cU rfl []);refine PE.weak (pe_callB (p:=p) (pos:=pos) (Ear.ace hu hc) hg hm (by decide +kernel) h2 (by decide) (by decide) (cU rfl []) (by with_unfolding_all rfl)) λσ H Q ⟨g,Z,M,I,h⟩=>?_;refine tW.go I h.bnd λd v H1 h1 e1 r1=>?_;have I1:=I.ex e1;unfold Rm at h1;split at h1
 ·next ds=>
  split at h1
  ·next R hR=>
   split at h1
   ·next hd=>
    have e:=O9 hR;subst e;obtain⟨l,us,rfl,s1,s2⟩:=jo r1;unfold Ear.Lz;refine⟨l,us,R,R.eraseDups,rfl,s1,Vh s2,asl hd,λr hr=>Bg.mpr hr,λq L nq hL nd mem few=>?_⟩;have eq:Ex H1 (upd H1 q (Ear.M5 X.w q L)):=Ex.new nq;unfold Ear.Ol;refine⟨q,L,rfl,upd_same,λe he=>?_,nd,few,λys S z hy up ms nz=>?_⟩
    ·exact(Rep.ex eq I1.kd (aef (g:=g) (hL e he))).dp (n:=12) (Zh 10 _)
    ·have hS:S=bR R:=Ear.acX up (Zz R) λr=>by rw[ms,mem,fU]
     subst hS;have I2:=I1.ex eq;exact h1 (.ref z) _ ((e1.trans eq).trans (Ex.new nz)) (.lst (.inl ⟨.inl upd_same,I2.kd.fresh nz⟩) ((Wx hy).ex (Ex.new nz) I2.kd))
   ·exact asi h1
  ·exact asi h1
 ·exact asi h1
def agT(it:IF)(tg:fV)(vs:List Nat)(tt:QT)(te:QF):QF:=λM Z=>(CZ it tg vs tt te M Z).bind λds=>match intsOf ds with
 |some l=>Out.when (decide (l.length<=4000)) (.ok (.list ((agv l).map PyData.int)))
 |none=>.bad
end
def zG(Z:Env):Bool:=Z.all λo=>match o with
 |some (.mut _)=>false
 |_=>true
theorem YL{Z:Env}(h:zG Z=true){i:Nat}{xs:List Dat}:Z[i]?≠some (some (.mut xs)):=λz=>by
 have:=aro.mp h _ (aq2 z);cases this
theorem SInv.loc{K:aqX}{aj:aQ}{σ:L2.St}{H:Hp}{g:Gh}{Z:Env}{M:Mo}{D:Addr}{us us':List V}(I:SInv K aj σ H g Z M)(n:zG Z=true)(hD:H D=some (.lst us))(lo:g.Lo D):SInv K aj σ (upd H D (.lst us')) g Z M where
 kd:=I.kd.upd trivial
 wok:=I.wok.loc I.kd hD lo
 len:=I.len
 dat:=λi d h=>by
  obtain⟨v,h1,h2⟩:=I.dat i d h;exact⟨v,h1,aho I.kd hD lo h2⟩
 own:=λi xs h=>absurd h (YL n)
 sep:=λi j xs ys l ne h1=>absurd h1 (YL n)
def iG(tg:fV)(tt:QT)(it1:IF)(tg1:fV)(vs1:List Nat)(tt1:QT)(te:QF)(M:Mo)(Z:Env):List Dat->Out (List Dat)
 |[]=>.ok []
 |d::ds=>match tg d Z with
  |none=>.bad
  |some Z1=>(yG (tt M Z1)).bind λb=>if b=true then Out.when (zG Z1) ((yG (it1 M Z1)).bind λes=>(dJ tg1 tt1 te M (cD Z1 vs1) es).bind λr1=>(iG tg tt it1 tg1 vs1 tt1 te M Z ds).bind λr=>.ok (r1++r)) else iG tg tt it1 tg1 vs1 tt1 te M Z ds
def abf(it:IF)(tg:fV)(vs:List Nat)(tt:QT)(it1:IF)(tg1:fV)(vs1:List Nat)(tt1:QT)(te:QF):IF:=λM Z=>(it M Z).bind λds=>(iG tg tt it1 tg1 vs1 tt1 te M (cD Z vs) ds).bind λr=>Out.when (decide (r.length<=50000)) (.ok r)
def Dd(it:IF)(tg:fV)(vs:List Nat)(tt:QT)(it1:IF)(tg1:fV)(vs1:List Nat)(tt1:QT)(te:QF):QF:=λM Z=>(abf it tg vs tt it1 tg1 vs1 tt1 te M Z).bind λr=>.ok (.list r)
theorem yr{tg tg1:fV}{tt tt1:QT}{te:QF}{it1:IF}{vs1:List Nat}{M:Mo}{Z:Env}:∀{ds:List Dat} {x:dR},iG tg tt it1 tg1 vs1 tt1 te M Z ds≠.exc x
 |[],_,h=>nomatch h
 |d::ds,x,h=>by
  rw[iG]at h;split at h
  ·cases h
  ·next Z1 e=>
   cases h1:tt M Z1 with
   |bad=>rw[h1]at h;cases h
   |exc y=>rw[h1]at h;cases h
   |ok b=>
    rw[h1]at h;cases b with
    |false=>exact yr (ds:=ds) (x:=x) h
    |true=>
     cases hn:zG Z1 with
     |false=>rw[hn]at h;cases h
     |true=>
      rw[hn]at h;cases h2:it1 M Z1 with
      |bad=>rw[h2]at h;cases h
      |exc y=>rw[h2]at h;cases h
      |ok es=>
       rw[h2]at h;have h:((dJ tg1 tt1 te M (cD Z1 vs1) es).bind λr1=>(iG tg tt it1 tg1 vs1 tt1 te M Z ds).bind λr=>Out.ok (r1++r))=.exc x:=h;cases h3:dJ tg1 tt1 te M (cD Z1 vs1) es with
       |bad=>rw[h3]at h;cases h
       |exc y=>exact absurd h3 rK
       |ok r1=>
        rw[h3]at h;have h:((iG tg tt it1 tg1 vs1 tt1 te M Z ds).bind λr=>Out.ok (r1++r))=.exc x:=h;cases h4:iG tg tt it1 tg1 vs1 tt1 te M Z ds with
        |bad=>rw[h4]at h;cases h
        |exc y=>exact absurd h4 yr
        |ok r=>rw[h4]at h;cases h
section
variable{K:aqX}{aj:aQ}{W:WX}
theorem ahg{it it1:IF}{tg tg1:fV}{js vs js1 vs1:List Nat}{tt tt1:QT}{te:QF}(hj:∀j∈js,j∈vs)(hj1:∀j∈js1,j∈vs1)(σ:L2.St)(H:Hp)(Q:VK)(h:tFr K aj W (abf it tg vs tt it1 tg1 vs1 tt1 te) σ H Q) :
  tLc2 (tI K aj W false it) (zW K aj js tg) (lJ K aj WF tt) (tI K aj WF true it1) (zW K aj js1 tg1) (lJ K aj WF tt1) (tQ K aj WF te) vs vs1 σ H Q:=by
 obtain⟨g,Z,M,I,h⟩:=h;refine⟨g,Z,M,I,h.bnd.mono (λds hk J C H1 e1 w c _ D nD=>?_) λ_ z=>z⟩;obtain⟨total,htot,hlen,hQ⟩:∃total,iG tg tt it1 tg1 vs1 tt1 te M (cD Z vs) ds=.ok total/\total.length<=50000/\∀l us H',H l=none->Ex H H'->H' l=some (.lst us)->aK K (g.add l) H' us total->Q (.ref l) H':=by
  cases hc:iG tg tt it1 tg1 vs1 tt1 te M (cD Z vs) ds with
  |bad=>rw[hc]at hk;exact asi hk
  |exc x=>exact absurd hc yr
  |ok total=>
   rw[hc]at hk;obtain⟨hz,hk⟩:=Out.sat.qH hk;exact⟨total,rfl,asl hz,hk⟩
 have I1:=(I.ex e1).wipe vs;have kD:∀{Ha:Hp} {us:List V},Ex H1 Ha->Ha D=some (.lst us)->SInv K aj (L2.wipe σ vs) Ha (g.add D) (cD Z vs) M:=λea hu=>I1.add nD ea hu trivial;have lD:(g.add D).Lo D:=.inr rfl
 let Pv:Nat->Hp->Prop:=λi Ha=>Ex H1 Ha/\i<=ds.length/\∃us ys,Ha D=some (.lst us)/\aK K (g.add D) Ha us ys/\(iG tg tt it1 tg1 vs1 tt1 te M (cD Z vs) (ds.drop i)).sat (λr=>total=ys++r) λ_=>False
 refine⟨λi m Ha=>m=ds.length - i/\Pv i Ha,⟨ds.length,rfl,Ex.new nD,arK _,[],[],upd_same,.nil,?_⟩,?_⟩
 ·rw[asf,htot];rfl
 ·rintro i m Ha ⟨rfl,ea,hi,us,ys,hu,hU,hs⟩;have Ia:=kD ea hu;have Ca:=w.add g (g.add D) H1 Ha (I.kd.ex e1) c (Gh.Gk nD ea) ea;by_cases hlt:i < ds.length
  ·refine .inr ⟨w.go _ i Ha Ca hlt,Pv (i+1),λH' p=>⟨ds.length - (i+1),by omega,rfl,p⟩,λx H' y=>?_⟩;have hd:ds[i]?=some ds[i]:=aq0 hlt;obtain⟨e2,rx⟩:=w.yld _ i Ha x H' _ Ia.kd Ca hd y;have I2:=Ia.ex e2;rw[arT hlt,iG]at hs;split at hs
   ·exact asi hs
   ·next Z1 he=>
    refine⟨g.add D,_,M,_,Z1,I2,rx,he,λws I3=>⟨Aq js ws _ vs hj |>.trans (Dt σ vs),?_⟩⟩;refine lJ.go I3 (Cp hs.bnd) λb H3 hb e3=>?_;have I4:=I3.ex e3;have hu3:=e3 _ _ (e2 _ _ hu);have hU3:=(hU.ex e2 Ia.kd).ex e3 I2.kd;cases b with
    |false=>
     have hb:(iG tg tt it1 tg1 vs1 tt1 te M (cD Z vs) (ds.drop (i+1))).sat (λr=>total=ys++r) λ_=>False:=hb;exact⟨(ea.trans e2).trans e3,hlt,us,ys,hu3,hU3,hb⟩
    |true=>
     have hb:(Out.when (zG Z1) ((yG (it1 M Z1)).bind λes=>(dJ tg1 tt1 te M (cD Z1 vs1) es).bind λr1=>(iG tg tt it1 tg1 vs1 tt1 te M (cD Z vs) (ds.drop (i+1))).bind λr=>Out.ok (r1++r))).sat (λr=>total=ys++r) λ_=>False:=hb;obtain⟨nm,hb⟩:=hb.qH;refine⟨g.add D,Z1,M,I4,(Cp (E':=rG K aj WF (g.add D) H3 _) hb.bnd).mono (λes hk1 J1 C1 H4 e4 w1 c1 fm=>?_) λ_ z=>z⟩;have fm:=fm rfl
     -- all that is added by this walk
     obtain⟨r1,r2,hr1,hr2,ht⟩:∃r1 r2,dJ tg1 tt1 te M (cD Z1 vs1) es=.ok r1/\iG tg tt it1 tg1 vs1 tt1 te M (cD Z vs) (ds.drop (i+1))=.ok r2/\total=ys++(r1++r2):=by
      cases q1:dJ tg1 tt1 te M (cD Z1 vs1) es with
      |bad=>rw[q1]at hk1;exact asi hk1
      |exc y=>exact absurd q1 rK
      |ok r1=>
       rw[q1]at hk1;have hk1:((iG tg tt it1 tg1 vs1 tt1 te M (cD Z vs) (ds.drop (i+1))).bind λr=>Out.ok (r1++r)).sat (λr=>total=ys++r) λ_=>False:=hk1;cases q2:iG tg tt it1 tg1 vs1 tt1 te M (cD Z vs) (ds.drop (i+1)) with
       |bad=>rw[q2]at hk1;exact asi hk1
       |exc y=>exact absurd q2 yr
       |ok r2=>
        rw[q2]at hk1;exact⟨r1,r2,rfl,rfl,hk1⟩
     let P1:Nat->Hp->Prop:=λj Hb=>Ex H1 Hb/\SInv K aj (sets (L2.wipe σ vs) js ws) Hb (g.add D) Z1 M/\C1 (g.add D) Hb/\j<=es.length/\∃us' zs,Hb D=some (.lst us')/\aK K (g.add D) Hb us' (ys++zs)/\(dJ tg1 tt1 te M (cD Z1 vs1) (es.drop j)).sat (λr=>r1=zs++r) λ_=>False
     refine⟨λj m Hb=>m=es.length - j/\P1 j Hb,⟨es.length,rfl,((ea.trans e2).trans e3).trans e4,I4.ex e4,c1,arK _,us,[],e4 _ _ hu3,by rw[arR];exact hU3.ex e4 I4.kd,?_⟩,?_⟩
     ·rw[asf,hr1];rfl
     ·rintro j m Hb ⟨rfl,fb,Ib,Cb,hjl,us',zs,hub,hUb,hsb⟩;by_cases hlj:j < es.length
      ·refine .inr ⟨w1.go _ j Hb Cb hlj,P1 (j+1),λH' p=>⟨es.length - (j+1),by omega,rfl,p⟩,λx H' y=>?_⟩;have hdj:es[j]?=some es[j]:=aq0 hlj;obtain⟨f2,rx⟩:=w1.yld _ j Hb x H' _ Ib.kd Cb hdj y;have J2:=(Ib.ex f2).wipe vs1;rw[arT hlj,dJ]at hsb;split at hsb
       ·exact asi hsb
       ·next Z2 he1=>
        refine⟨g.add D,_,M,_,Z2,J2,rx,he1,λws1 J3=>⟨Aq js1 ws1 _ vs1 hj1 |>.trans (Dt _ vs1),?_⟩⟩;refine lJ.go J3 (Cp hsb.bnd) λb H6 hb6 e6=>?_;have f26:=f2.trans e6;have hu6:=f26 _ _ hub;have hU6:=hUb.ex f26 Ib.kd;cases b with
        |false=>
         have hb6:(dJ tg1 tt1 te M (cD Z1 vs1) (es.drop (j+1))).sat (λr=>r1=zs++r) λ_=>False:=hb6;exact⟨fb.trans f26,Ib.ex f26,w1.ex _ _ _ Ib.kd Cb f26,hlj,us',zs,hu6,hU6,hb6⟩
        |true=>
         have hb6:((yG (te M Z2)).bind λy=>(dJ tg1 tt1 te M (cD Z1 vs1) (es.drop (j+1))).bind λr=>Out.ok (y::r)).sat (λr=>r1=zs++r) λ_=>False:=hb6;refine tQ.go (J3.ex e6) (Cp hb6.bnd) λy v H7 hyv e7 ry=>?_;have f27:=f26.trans e7;have Ib7:=Ib.ex f27;have hu7:=f27 _ _ hub;have hU7:=hUb.ex f27 Ib.kd;have hyv:=hyv.bnd;have hr:∃r,dJ tg1 tt1 te M (cD Z1 vs1) (es.drop (j+1))=.ok r/\r1=zs++y::r:=by
          cases q1:dJ tg1 tt1 te M (cD Z1 vs1) (es.drop (j+1)) with
          |bad=>rw[q1]at hyv;exact asi hyv
          |exc y=>exact absurd q1 rK
          |ok r=>
           rw[q1]at hyv;exact⟨r,rfl,hyv⟩
         obtain⟨r,hr,hr1'⟩:=hr;have hll:us'.length < 50000:=by rw[hUb.length];rw[ht,hr1']at hlen;simp at hlen ⊢;omega
         refine⟨us',hu7,sz_lt (Nat.lt_trans hll (by decide)),Ex.mut (fb.trans f27) nD,Ib7.loc nm hu7 lD,fm true _ _ _ _ Ib7.kd (w1.ex _ _ _ Ib.kd Cb f27) (Gr.upd Ib7.kd hu7 (.inr lD)),hlj,us'++[v],zs++[y],upd_same,?_,?_⟩
         ·rw[←List.append_assoc];exact ZK Ib7.kd hu7 lD (hU7.append (.cons ry .nil))
         ·rw[hr];show r1=_;rw[hr1'];simp
      ·have e:j=es.length:=by omega
       refine .inl ⟨w1.stop _ j Hb Cb e,?_⟩;rw[e,arV]at hsb;have hsb:r1=zs++[]:=hsb;rw[arR]at hsb;subst hsb;refine⟨fb,hlt,us',ys++r1,hub,hUb,?_⟩;rw[hr2];show total=_;rw[ht,List.append_assoc]
  ·have e:i=ds.length:=by omega
   refine .inl ⟨w.stop _ i Ha Ca e,?_⟩;rw[e,arV]at hs;have hs:total=ys++[]:=hs;rw[arR]at hs;subst hs;exact hQ D us Ha (Dk e1 D nD) (e1.trans ea) hu hU
theorem adp{it it1:IF}{tg tg1:fV}{js vs js1 vs1:List Nat}{tt tt1:QT}{te:QF}(hj:∀j∈js,j∈vs)(hj1:∀j∈js1,j∈vs1)(σ:L2.St)(H:Hp)(Q:VK)(h:tQ K aj W (Dd it tg vs tt it1 tg1 vs1 tt1 te) σ H Q) :
  tLc2 (tI K aj W false it) (zW K aj js tg) (lJ K aj WF tt) (tI K aj WF true it1) (zW K aj js1 tg1) (lJ K aj WF tt1) (tQ K aj WF te) vs vs1 σ H Q:=by
 obtain⟨g,Z,M,I,h⟩:=h;refine ahg hj hj1 σ H Q ⟨g,Z,M,I,h.bnd.mono (λxs hk l us H' nl e hl r=>?_) λ_ z=>z⟩;refine hk (.ref l) H' e (.lst (.inl ⟨.inl hl,λz=>?_⟩) (aK.less (g:=g.add l) (g':=g) rfl (λa z=>?_) r))
 ·exact I.kd.fresh nl z
 ·rcases z with z|z|z
  ·exact .inl z
  ·exact .inr (.inl z)
  ·exact .inr (.inr (.inl z))
end
section
variable{X:Cx}{aj:aQ}{W:WX}{q:Bool}{elt tg iter tg1 iter1:Expr}{ifs ifs1:List Expr}{scope:Scope}{own:List (Str×Nat)}{it it1:IF}{tgf tgf1:fV}{js js1 vs1:List Nat}{tt tt1:QT}{te:QF}{pos cpos:Pos}
theorem aj4(hc:X.calm=true)(hN:X.N.Nodup)(hi:QI aj X W false tg iter it)(ok:blkC X.N X.env.scope scope own=true)(hv:∀i∈vs1,i∈own.map (·.2))(hj:∀j∈js,j∈own.map (·.2))(hj1:∀j∈js1,j∈vs1)
  (hg:∀(s:Shared) (H:Hp) (C:Addr) (cl:List (Str×Addr)) (fp:List Addr),QG aj (X.blk s H scope (compEnvC scope cl C X.env) fp) tg js tgf)
  (ht:∀(s:Shared) (H:Hp) (C:Addr) (cl:List (Str×Addr)) (fp:List Addr),PTs (X.blk s H scope (compEnvC scope cl C X.env) fp) ifs (lJ X.K aj WF tt))
  (hi1:∀(s:Shared) (H:Hp) (C:Addr) (cl:List (Str×Addr)) (fp:List Addr),QI aj (X.blk s H scope (compEnvC scope cl C X.env) fp) WF true tg1 iter1 it1)
  (hg1:∀(s:Shared) (H:Hp) (C:Addr) (cl:List (Str×Addr)) (fp:List Addr),QG aj (X.blk s H scope (compEnvC scope cl C X.env) fp) tg1 js1 tgf1)
  (ht1:∀(s:Shared) (H:Hp) (C:Addr) (cl:List (Str×Addr)) (fp:List Addr),PTs (X.blk s H scope (compEnvC scope cl C X.env) fp) ifs1 (lJ X.K aj WF tt1))
  (he:∀(s:Shared) (H:Hp) (C:Addr) (cl:List (Str×Addr)) (fp:List Addr),QE aj (X.blk s H scope (compEnvC scope cl C X.env) fp) WF elt te) (hs:∀x,foldedSetIterable iter X.env x=pure x) (hs1:∀env x,foldedSetIterable iter1 env x=pure x) :
  QE aj X W (.ListComp elt [⟨tg,iter,ifs,0⟩,⟨tg1,iter1,ifs1,0⟩] scope pos) (Dd it tgf (own.map (·.2)) tt it1 tgf1 vs1 tt1 te):=
 PE.weak (pe_lc2 (g:=zW X.K aj js tgf) (tt:=lJ X.K aj WF tt) (wi1:=tI X.K aj WF true it1) (g1:=zW X.K aj js1 tgf1) (tt1:=lJ X.K aj WF tt1) (te:=tQ X.K aj WF te) hc hN hi (blkOk_by ok) hv (λs H C cl fp=>hg s H C cl fp) ht (λs H C cl fp=>hi1 s H C cl fp) (λs H C cl fp=>hg1 s H C cl fp) ht1 (λs H C cl fp=>he s H C cl fp) hs hs1) λσ H Q h=>adp hj hj1 σ H Q h
theorem ahQ{j:Nat}{y:Str}{py:Pos}(hc:X.calm=true)(hN:X.N.Nodup)(hy:X.N[j]?=some y)(hyl:X.env.scope.names.lookup y=some .local)(hsw:swapsWith (.ListComp elt [⟨tg,iter,ifs,0⟩,⟨tg1,iter1,ifs1,0⟩] scope cpos) (some (.Name y py)) pos.line X.env=pure true)
  (hi:QI aj X W false tg iter it) (ok:blkC X.N X.env.scope scope own=true) (hv:∀i∈vs1,i∈own.map (·.2)) (hj:∀j∈js,j∈own.map (·.2)) (hj1:∀j∈js1,j∈vs1)
  (hg:∀(s:Shared) (H:Hp) (C:Addr) (cl:List (Str×Addr)) (fp:List Addr),QG aj (X.blk s H scope (compEnvC scope cl C X.env) fp) tg js tgf)
  (ht:∀(s:Shared) (H:Hp) (C:Addr) (cl:List (Str×Addr)) (fp:List Addr),PTs (X.blk s H scope (compEnvC scope cl C X.env) fp) ifs (lJ X.K aj WF tt))
  (hi1:∀(s:Shared) (H:Hp) (C:Addr) (cl:List (Str×Addr)) (fp:List Addr),QI aj (X.blk s H scope (compEnvC scope cl C X.env) fp) WF true tg1 iter1 it1)
  (hg1:∀(s:Shared) (H:Hp) (C:Addr) (cl:List (Str×Addr)) (fp:List Addr),QG aj (X.blk s H scope (compEnvC scope cl C X.env) fp) tg1 js1 tgf1)
  (ht1:∀(s:Shared) (H:Hp) (C:Addr) (cl:List (Str×Addr)) (fp:List Addr),PTs (X.blk s H scope (compEnvC scope cl C X.env) fp) ifs1 (lJ X.K aj WF tt1))
  (he:∀(s:Shared) (H:Hp) (C:Addr) (cl:List (Str×Addr)) (fp:List Addr),QE aj (X.blk s H scope (compEnvC scope cl C X.env) fp) WF elt te) (hs:∀x,foldedSetIterable iter X.env x=pure x) (hs1:∀env x,foldedSetIterable iter1 env x=pure x) :
  SE aj X W q (.Assign [.Name y py] (.ListComp elt [⟨tg,iter,ifs,0⟩,⟨tg1,iter1,ifs1,0⟩] scope cpos) pos) (aY (aF j) (gOf (Dd it tgf (own.map (·.2)) tt it1 tgf1 vs1 tt1 te))):=by
 refine PS.weak (ps_setLc2 (g:=zW X.K aj js tgf) (tt:=lJ X.K aj WF tt) (wi1:=tI X.K aj WF true it1) (g1:=zW X.K aj js1 tgf1) (tt1:=lJ X.K aj WF tt1) (te:=tQ X.K aj WF te) hc hN hy hyl hsw hi (blkOk_by ok) hv (λs H C cl fp=>hg s H C cl fp) ht (λs H C cl fp=>hi1 s H C cl fp) (λs H C cl fp=>hg1 s H C cl fp) ht1 (λs H C cl fp=>he s H C cl fp) hs hs1) λD σ H ⟨g,Z,M,I,z⟩=>?_;refine adp hj hj1 σ H _ ⟨g,Z,M,I,(Out.iV (cY (σ:=σ) z)).mono (λd kk v H' e r=>?_) λx kk H' c dd e r=>kk H' g c dd (Gr.ex e) (I.ex e) r⟩;exact kk _ H' g (Gr.ex e) ((I.ex e).set r)
end
def T9(neg:Bool)(kvs:List (Str×Dat))(k:QF):QF:=λM Z=>(k M Z).bind λd=>match d with
 |.str x=>.ok (.bool (neg ^^ (kvs.lookup x).isSome))
 |_=>.bad
def acu(kvs:List (Str×Dat))(k:QF):QF:=λM Z=>(k M Z).bind λd=>match d with
 |.str x=>match kvs.lookup x with
  |some y=>.ok y
  |none=>.bad
 |_=>.bad
section
variable{X:Cx}{aj:aQ}{W:WX}{a:Expr}{fa:QF}{x:Str}{p pos:Pos}{kvs:List (Str×Dat)}{k:Nat}
theorem aeB{neg:Bool}{d:Addr}(D:abZ X.w X.K d kvs)(σ:L2.St)(H:Hp)(Q:VK)(h:tQ X.K aj W (T9 neg kvs fa) σ H Q) :
  tOp (λx y H Q=>∃(z:Str) (r:Option Value),x=.str z/\y=.ref d/\PySem.W.nsIn X.K d z=some r/\Q (.bl (neg ^^ r.isSome)) H) (tW X.K aj W fa) (tC (.ref d)) σ H Q:=by
 obtain⟨g,Z,M,I,h⟩:=h;refine tW.go I h.bnd λe v H1 h1 e1 r1=>?_;split at h1
 ·next z=>
  cases jY r1;obtain⟨es,n,_,_,hl⟩:=D;have hz:=hl z;cases hk:kvs.lookup z with
  |none=>
   rw[hk]at hz h1;exact⟨z,none,rfl,rfl,hz,h1 _ H1 e1 (.bl _)⟩
  |some d'=>
   rw[hk]at hz h1;obtain⟨v,u,h2,_⟩:=hz;exact⟨z,some u,rfl,rfl,h2,h1 _ H1 e1 (.bl _)⟩
 ·exact asi h1
theorem opG{neg:Bool}{op:CmpOp}{d:Addr}(hn:(op=.In/\neg=false)∨(op=.NotIn/\neg=true))(D:abZ X.w X.K d kvs):OpR X (compareOp op) (λx y H Q=>∃(z:Str) (r:Option Value),x=.str z/\y=.ref d/\PySem.W.nsIn X.K d z=some r/\Q (.bl (neg ^^ r.isSome)) H):=by
 obtain⟨es,n,D,_⟩:=D;rcases hn with⟨rfl,rfl⟩|⟨rfl,rfl⟩
 ·have:=op_in_kd (X:=X) D;simpa only[Bool.false_xor] using this
 ·have:=op_notIn_kd (X:=X) D;simpa only[Bool.true_xor] using this
theorem akf{neg:Bool}{op:CmpOp}(hn:(op=.In/\neg=false)∨(op=.NotIn/\neg=true))(g:bA X.prog X.w X.K X.mg X.base aj k x (.dic kvs))(hg:Gl X x)(hd:(x==("__debug__" : Str))=false)(ha:QW aj X W a fa):QE aj X W (.Compare a [op] [.Name x p] pos) (T9 neg kvs fa)/\sS aj X W (.Compare a [op] [.Name x p] pos) (bf (T9 neg kvs fa)):=by obtain⟨d,hm,D⟩:=g;have hb:PE X (.Name x p) (tC (.ref d)):=pe_glob hg hm rfl hd;refine⟨PE.weak (pe_cmpR (opG hn D) ha hb (by cases op<;>rfl)) λσ H Q h=>aeB D σ H Q h,PT.weak (pt_cmpR (opG hn D) ha hb (by cases op<;>rfl)) λσ H Q ⟨g,Z,M,I,h⟩=>?_⟩;refine aeB D σ H _ ⟨g,Z,M,I,h.bnd.mono (λd h1 v H' e' r'=>?_) λ_ z=>z⟩;obtain⟨k,h2,h3⟩:=Ey r'.weak h1;exact⟨k,h2,h3 H' e'⟩
theorem ajy(g:bA X.prog X.w X.K X.mg X.base aj k x (.dic kvs))(hg:Gl X x)(hd:(x==("__debug__" : Str))=false)(ha:QW aj X W a fa)(hp:PlainIx a):QE aj X W (.Subscript (.Name x p) a pos) (acu kvs fa):=by
 obtain⟨d,hm,es,n,D,_,hl⟩:=g;have hb:PE X (.Name x p) (tC (.ref d)):=pe_glob hg hm rfl hd;refine PE.weak (pe_ix ix_kdict hb ha hp) λσ H Q ⟨g,Z,M,I,h⟩=>?_;refine tW.go I h.bnd λe v H1 h1 e1 r1=>?_;split at h1
 ·next z=>
  cases jY r1;have hz:=hl z;split at h1
  ·next y hk=>
   rw[hk]at hz;obtain⟨v,u,h2,h3,h4⟩:=hz;exact⟨d,z,v,rfl,rfl,⟨es,n,u,D.at_,D.lit,h2,h3⟩,h1 v H1 e1 (h4 g H1)⟩
  ·exact asi h1
 ·exact asi h1
end
structure Hs where
 Ms:List (Str×List (Str×MV))
 ft:Ft
 xm:List (Str×List (Str×Bool))
 df:List (Str×Bool)
 xf:List (Str×List Str)
structure Tq(P:Program)(w:World)(K:aqX)(mg:Str->Option Value)(base:Heap)(aj:aQ)(k:Nat)(h:Hs):Prop where
 ms:∀m tb,h.Ms.lookup m=some tb->∀c v,tb.lookup c=some v->bZ P w K mg base aj k c m v
 fk:Le h.ft aj
 co:jF K aj
 hw:aj.w=w
 xm:∀y tab,h.xm.lookup y=some tab->(∃D,aj y=some D)/\ab3 K aj y λx=>tab.lookup x
 xf:∀y fs,h.xf.lookup y=some fs->∃C,aj y=some C/\XfC K C/\∀f∈fs,PySem.W.findIn K (.ref C) f=some none
structure Tc where
 N:List Str
 sc:Scope
 G:List (Str×GV)
 B:List Str
 hs:Hs
 ml:List Str
 top:Bool
structure Amb(aj:aQ)(c:Tc)(X:Cx)(W:WX)(k:Nat):Prop where
 hN:X.N=c.N
 hs:X.env.scope=c.sc
 calm:X.calm=true
 nd:X.N.Nodup
 tk:Takes X W
 rm:Room k X.A
 gl:∀x v,c.G.lookup x=some v->bA X.prog X.w X.K X.mg X.base aj k x v
 bl:∀x,x∈c.B->X.mg x=none
 fn:c.top=true->∀x,X.fn x=true
 hk:Tq X.prog X.w X.K X.mg X.base aj k c.hs
def gd{α:Type}(b:Bool)(o:Option α):Option α:=match b with
 |true=>o
 |false=>none
theorem aW{α:Type}{b:Bool}{o:Option α}{x:α}:gd b o=some x↔b=true/\o=some x:=by
 cases b
 ·exact⟨λh=>(nomatch h),λh=>(nomatch h.1)⟩
 ·exact⟨λh=>⟨rfl,h⟩,λh=>h.2⟩
def idx:List Str->Str->Option Nat
 |[],_=>none
 |y::ys,x=>match y==x with
  |true=>some 0
  |false=>(idx ys x).map (· + 1)
theorem Tv:∀{N:List Str} {x:Str} {i:Nat},idx N x=some i->N[i]?=some x
 |[],_,_,h=>nomatch h
 |y::ys,x,i,h=>by
  rw[idx]at h;split at h
  ·next e=>
   cases h;rw[List.getElem?_cons_zero,eq_of_beq e]
  ·rw[arz]at h;obtain⟨j,h1,rfl⟩:=h;rw[List.getElem?_cons_succ];exact Tv h1
def ae1(sc:Scope)(x:Str):Bool:=match sc.names.lookup x with
 |some .local=>true
 |some .cell=>true
 |some .free=>true
 |_=>false
theorem agK{sc:Scope}{x:Str}(h:ae1 sc x=true):Vis sc x:=by
 unfold ae1 at h;unfold Vis;split at h
 ·next e=>exact .inl e
 ·next e=>exact .inr (.inl e)
 ·next e=>exact .inr (.inr e)
 ·cases h
def Gf(x:Str):Bool:=(x==("__debug__" : Str)) || (x==("__classdict__" : Str))
theorem ux{x:Str}(h:Gf x=false):(x==("__debug__" : Str))=false/\(x==("__classdict__" : Str))=false:=by unfold Gf at h;rw[Bool.or_eq_false_iff]at h;exact h
def GJ(sc:Scope)(x:Str):Bool:=match sc.names.lookup x with
 |some .globalImplicit=>true
 |_=>false
def Lq(c:Tc)(x:Str):Option Nat:=gd (ae1 c.sc x&&!Gf x) (idx c.N x)
def ajD(c:Tc)(x:Str):Bool:=match c.sc.names.lookup x with
 |some .local=>true
 |some .cell=>c.top
 |_=>false
def vX(c:Tc)(x:Str):Option Nat:=gd (ajD c x) (idx c.N x)
section
variable{aj:aQ}{c:Tc}{X:Cx}{W:WX}{k:Nat}{x:Str}{i:Nat}
theorem tZ(a:Amb aj c X W k)(h:GJ c.sc x=true):Gl X x:=by
 unfold GJ at h;unfold Gl PySem.Env.kindOf;rw[a.hs];split at h
 ·assumption
 ·cases h
theorem Af(a:Amb aj c X W k)(h:Lq c x=some i):X.N[i]?=some x/\Vis X.env.scope x/\(x==("__debug__" : Str))=false/\(x==("__classdict__" : Str))=false:=by obtain⟨h1,h2⟩:=aW.mp h;rw[aqZ]at h1;obtain⟨d1,d2⟩:=ux (by simpa using h1.2);exact⟨by rw[a.hN];exact Tv h2,by rw[a.hs];exact agK h1.1,d1,d2⟩
theorem nJ(a:Amb aj c X W k)(h:vX c x=some i):X.N[i]?=some x/\L2.Loc X.env.scope x/\(X.fn x=true∨X.env.scope.names.lookup x=some .local):=by
 obtain⟨h1,h2⟩:=aW.mp h;unfold ajD at h1;refine⟨by rw[a.hN];exact Tv h2,?_⟩;rw[a.hs];unfold L2.Loc;split at h1
 ·next e=>exact⟨.inl e,.inr e⟩
 ·next e=>exact⟨.inr e,.inl (a.fn h1 x)⟩
 ·cases h1
def vf(c:Tc)(x y:Str):Bool:=(x==y)&&(GJ c.sc x&&c.B.contains x)
theorem oJ{y:Str}(a:Amb aj c X W k)(h:vf c x y=true):x=y/\Gl X x/\X.mg x=none:=by unfold vf at h;rw[aqZ,aqZ]at h;exact⟨eq_of_beq h.1,tZ a h.2.1,a.bl x (by simpa using h.2.2)⟩
end
def zA:Expr->Bool
 |.Set _ _ _=>true
 |_=>false
theorem Cv{b:Expr}{op:CmpOp}(h:zA b=false):behindInMarks op b=false:=by cases b<;>first | rfl | cases h
theorem V6{b c:Expr}{op op':CmpOp}(h:zA c=false):lastMarks [op,op'] [b,c]=false:=Cv h
theorem rN{e:Expr}{env:PySem.Env}(h:zA e=false):∀x,foldedSetIterable e env x=pure x:=λx=>by
 cases e<;>first | rfl | cases h
def YD:Expr->Bool
 |.Slice _ _ _ _=>true
 |_=>false
def ajx:Operator->Option (Dat->Dat->Out Dat)
 |.Add=>some gH
 |.Sub=>some pG
 |.Mult=>some Av
 |.FloorDiv=>some Dq
 |.Mod=>some lV
 |.Pow=>some aad
 |_=>none
def Qg:CmpOp->Option (Dat->Dat->Out Dat)
 |.Eq=>some bU
 |.NotEq=>some Bp
 |.Lt=>some Rp
 |.LtE=>some wV
 |.Gt=>some Wv
 |.GtE=>some geD
 |.In=>some (inD false)
 |.NotIn=>some (inD true)
 |_=>none
theorem ahM{op:Operator}{o:Dat->Dat->Out Dat}(h:ajx op=some o)(X:Cx)(aj:aQ)(W:WX):∃r,OpR X (binaryOp op) r/\qG aj X.K W o r:=by
 cases op<;>cases h
 ·exact⟨_,ah2,akl⟩
 ·exact⟨_,op_sub,aiL⟩
 ·exact⟨_,op_mul,ajH⟩
 ·exact⟨_,op_mod,akH⟩
 ·exact⟨_,op_pow,aiH⟩
 ·exact⟨_,op_fdiv,akC⟩
theorem Cr{op:CmpOp}{o:Dat->Dat->Out Dat}(h:Qg op=some o){X:Cx}{k:Nat}(hr:Room k X.A)(aj:aQ)(W:WX):∃r,OpR X (compareOp op) r/\qG aj X.K W o r:=by
 have h65:X.A.units+65 < cLine:=by have:=hr.un;omega
 cases op<;>cases h
 ·exact⟨_,aiW hr.units,ame⟩
 ·exact⟨_,aiP hr.units,ali⟩
 ·exact⟨_,aiN h65,alw⟩
 ·exact⟨_,op_le,al6⟩
 ·exact⟨_,op_gt,alU⟩
 ·exact⟨_,op_ge,alO⟩
 ·exact⟨_,akF h65,agd⟩
 ·exact⟨_,adI h65,agd⟩
def T7:Expr->Option Dat
 |.Constant .none _ _=>some .none
 |.Constant (.bool b) _ _=>some (.bool b)
 |_=>none
theorem aa8{e:Expr}{d:Dat}{X:Cx}(h:T7 e=some d):∃v,scD d=some v/\(v=.non∨∃b,v=.bl b)/\PE X e (tC v):=by
 unfold T7 at h;split at h
 ·cases h;exact⟨_,rfl,.inl rfl,pe_non⟩
 ·cases h;exact⟨_,rfl,.inr ⟨_,rfl⟩,pe_bl⟩
 ·cases h
def isN:CmpOp->Option Bool
 |.Is=>some false
 |.IsNot=>some true
 |_=>none
theorem adH{op:CmpOp}{neg:Bool}{v:V}{X:Cx}(h:isN op=some neg)(hv:v=.non∨∃b,v=.bl b):OpR X (compareOp op) (Zi neg v):=by
 cases op<;>cases h
 ·exact akB hv
 ·exact ado hv
def b1D(x:Str):Option (Dat->Out Dat):=
 if x=="len" then some mO else if x=="abs" then some Qc else if x=="sum" then some T5 else if x=="max" then some maxD else if x=="all" then some Pn else if x=="any" then some PB
 else if x=="tuple" then some nR else if x=="list" then some El else if x=="int" then some intD else
 none
def b2D(x:Str):Option (Dat->Dat->Out Dat):=if x=="max" then some sO else if x=="min" then some Jb else none
theorem akU{x:Str}{o:Dat->Out Dat}{X:Cx}(hc:X.calm=true)(h:b1D x=some o)(aj:aQ)(W:WX):∃(f:Value) (id:String) (r:List V->Hp->VK->Prop),(f=.builtin id∨f=.type id)/\CallR X f r/\JB aj X.K W o r/\BV f x:=by
 unfold b1D at h;split at h
 ·next e=>cases h;cases eq_of_beq e;exact⟨_,_,_,.inl rfl,aiC,ai8,by decide +kernel,by decide,by decide⟩
 split at h
 ·next e=>cases h;cases eq_of_beq e;exact⟨_,_,_,.inl rfl,call_abs,akO,by decide +kernel,by decide,by decide⟩
 split at h
 ·next e=>cases h;cases eq_of_beq e;exact⟨_,_,_,.inl rfl,cr_sum hc,ajg,by decide +kernel,by decide,by decide⟩
 split at h
 ·next e=>cases h;cases eq_of_beq e;exact⟨_,_,_,.inl rfl,cr_max hc,ajo,by decide +kernel,by decide,by decide⟩
 split at h
 ·next e=>cases h;cases eq_of_beq e;exact⟨_,_,_,.inl rfl,cr_all hc,aj5,by decide +kernel,by decide,by decide⟩
 split at h
 ·next e=>cases h;cases eq_of_beq e;exact⟨_,_,_,.inl rfl,cr_any hc,ajl,by decide +kernel,by decide,by decide⟩
 split at h
 ·next e=>cases h;cases eq_of_beq e;exact⟨_,_,_,.inr rfl,call_tuple_of,aeR,by decide +kernel,by decide,by decide⟩
 split at h
 ·next e=>cases h;cases eq_of_beq e;exact⟨_,_,_,.inr rfl,call_list_of,aij,by decide +kernel,by decide,by decide⟩
 split at h
 ·next e=>cases h;cases eq_of_beq e;exact⟨_,_,_,.inr rfl,akP,akM,by decide +kernel,by decide,by decide⟩
 ·cases h
theorem ajP{x:Str}{o:Dat->Dat->Out Dat}{X:Cx}(hc:X.calm=true)(h:b2D x=some o)(aj:aQ)(W:WX):∃(f:Value) (id:String) (r:List V->Hp->VK->Prop),(f=.builtin id∨f=.type id)/\CallR X f r/\Fn2 aj X.K W o r/\BV f x:=by
 unfold b2D at h;split at h
 ·next e=>cases h;cases eq_of_beq e;exact⟨_,_,_,.inl rfl,call_max2 hc,agM,by decide +kernel,by decide,by decide⟩
 split at h
 ·next e=>cases h;cases eq_of_beq e;exact⟨_,_,_,.inl rfl,call_min2 hc,agO,by decide +kernel,by decide,by decide⟩
 ·cases h
def tyN(x:Str):Option Oc:=if x=="int" then some .int else if x=="bool" then some .bool else if x=="str" then some .str else if x=="tuple" then some .tuple else if x=="list" then some .list else none
theorem aky{x:Str}{t:Oc}(h:tyN x=some t):BV (.type t.name) x:=by
 unfold tyN at h;split at h
 ·next e=>cases h;cases eq_of_beq e;exact⟨by decide +kernel,by decide,by decide⟩
 split at h
 ·next e=>cases h;cases eq_of_beq e;exact⟨by decide +kernel,by decide,by decide⟩
 split at h
 ·next e=>cases h;cases eq_of_beq e;exact⟨by decide +kernel,by decide,by decide⟩
 split at h
 ·next e=>cases h;cases eq_of_beq e;exact⟨by decide +kernel,by decide,by decide⟩
 split at h
 ·next e=>cases h;cases eq_of_beq e;exact⟨by decide +kernel,by decide,by decide⟩
 ·cases h
structure Tr where
 E:Tc->Expr->Option QF
 W:Tc->Expr->Option QF
 T:Tc->Expr->Option QT
 I:Tc->Bool->Expr->Expr->Option IF
structure Tr.Ok(t:Tr):Prop where
 oe:∀{aj:aQ} {c:Tc} {X:Cx} {W:WX} {k:Nat},Amb aj c X W k->∀{e:Expr} {f:QF},t.E c e=some f->QE aj X W e f
 ow:∀{aj:aQ} {c:Tc} {X:Cx} {W:WX} {k:Nat},Amb aj c X W k->∀{e:Expr} {f:QF},t.W c e=some f->QW aj X W e f
 ot:∀{aj:aQ} {c:Tc} {X:Cx} {W:WX} {k:Nat},Amb aj c X W k->∀{e:Expr} {f:QT},t.T c e=some f->sS aj X W e f
 oi:∀{aj:aQ} {c:Tc} {X:Cx} {W:WX} {k:Nat},Amb aj c X W k->∀{firm:Bool} {tg e:Expr} {f:IF},t.I c firm tg e=some f->QI aj X W firm tg e f
def JR(t:Tr)(c:Tc):List Expr->Option QA
 |[]=>some au
 |a::es=>gd (nst a) ((t.E c a).bind λfa=>(JR t c es).bind λfr=>some (ak fa fr))
section
variable{aj:aQ}{c:Tc}{X:Cx}{W:WX}{k:Nat}{t:Tr}
theorem vK(o:t.Ok)(a:Amb aj c X W k):∀{es:List Expr} {f:QA},JR t c es=some f->Hw aj X W es f/\es.all nst=true/\∀M Z ds,f M Z=.ok ds->ds.length=es.length
 |[],f,h=>by
  cases h;exact⟨ai5,rfl,λM Z ds e=>by cases e;rfl⟩
 |e::es,f,h=>by
  rw[JR,aW]at h;obtain⟨hs,h⟩:=h;obtain⟨fa,h1,h⟩:=aqW.mp h;obtain⟨fr,h2,h⟩:=aqW.mp h;cases h;obtain⟨i1,i2,i3⟩:=vK o a h2;refine⟨agP (o.oe a h1) i1 (cU hs es),by simp[hs,i2],λM Z ds e=>?_⟩;unfold ak at e;cases hf:fa M Z with
  |ok d=>
   rw[hf]at e;cases hr:fr M Z with
   |ok dr=>
    rw[hr]at e;cases e;simp[i3 M Z dr hr]
   |exc y=>rw[hr]at e;cases e
   |bad=>rw[hr]at e;cases e
  |exc y=>rw[hf]at e;cases e
  |bad=>rw[hf]at e;cases e
end
def trO(t:Tr)(c:Tc):Option Expr->Option QO
 |none=>some w6
 |some a=>(t.W c a).bind λfa=>some (qD fa)
theorem adf{aj:aQ}{c:Tc}{X:Cx}{W:WX}{k:Nat}{t:Tr}(o:t.Ok)(a:Amb aj c X W k){e:Option Expr}{f:QO}(h:trO t c e=some f):QOe aj X W e f:=by
 cases e with
 |none=>cases h;exact agG
 |some e=>
  obtain⟨fa,h1,h⟩:=aqW.mp h;cases h;exact ahp (o.ow a h1)
def Xz(c:Tc):List Expr->Option (List Nat)
 |[]=>some []
 |.Name x _::es=>(vX c x).bind λi=>(Xz c es).bind λjs=>some (i::js)
 |_::_=>none
def Wh(c:Tc):Expr->Option (List Nat×fV)
 |.Name x _=>(vX c x).bind λi=>some ([i],aF i)
 |.Tuple es _ _=>(Xz c es).bind λjs=>some (js,bM js)
 |_=>none
theorem Uq{aj:aQ}{c:Tc}{X:Cx}{W:WX}{k:Nat}(a:Amb aj c X W k):∀{es:List Expr} {js:List Nat},Xz c es=some js->Ru X es js
 |[],js,h=>by cases h;trivial
 |.Name x p::es,js,h=>by
  rw[Xz]at h;obtain⟨i,h1,h⟩:=aqW.mp h;obtain⟨r,h2,h⟩:=aqW.mp h;cases h;obtain⟨s1,s2,s3⟩:=nJ a h1;exact⟨s1,s2,s3,Uq a h2⟩
theorem vH{aj:aQ}{c:Tc}{X:Cx}{W:WX}{k:Nat}(a:Amb aj c X W k){e:Expr}{js:List Nat}{f:fV}(h:Wh c e=some (js,f)):QG aj X e js f:=by
 unfold Wh at h;split at h
 ·obtain⟨i,h1,h⟩:=aqW.mp h;cases h;obtain⟨s1,s2,s3⟩:=nJ a h1;exact Vd a.nd s1 s2 s3
 ·obtain⟨js',h1,h⟩:=aqW.mp h;cases h;exact adl a.calm a.nd (Uq a h1)
 ·cases h
def Tc.inn(c:Tc)(scope:Scope):Tc:={ c with sc:=relS scope c.sc,top:=false }
theorem Amb.inn{aj:aQ}{c:Tc}{X:Cx}{W:WX}{k:Nat}(a:Amb aj c X W k)(scope:Scope)(s:Shared)(H:Hp)(C:Addr)(cl:List (Str×Addr))(fp:List Addr):Amb aj (c.inn scope) (X.blk s H scope (compEnvC scope cl C X.env) fp) WF k where
 hN:=a.hN
 hs:=by show relS scope X.env.scope=relS scope c.sc;rw[a.hs]
 calm:=a.calm
 nd:=a.nd
 tk:=akT
 rm:=a.rm
 gl:=a.gl
 bl:=a.bl
 fn:=λz=>nomatch z
 hk:=a.hk
def Qe:List Expr->List Nat->List (Str×Nat)
 |.Name x _::es,j::js=>(x,j)::Qe es js
 |_,_=>[]
def qd:Expr->List Nat->List (Str×Nat)
 |.Name x _,[j]=>[(x,j)]
 |.Tuple es _ _,js=>Qe es js
 |_,_=>[]
def OD(js vs:List Nat):Bool:=js.all λj=>vs.contains j
theorem qm{js vs:List Nat}(h:OD js vs=true):∀j∈js,j∈vs:=λj hj=>by
 have:=aro.mp h j hj;simpa using this
def Uv(t:Tr)(c:Tc):List Expr->Option QT
 |[]=>some jD
 |[a]=>t.T c a
 |_=>none
theorem PTs.weak{X:Cx}{e:List Expr}{t t':TT}(h:PTs X e t)(k:∀σ H Q,t' σ H Q->t σ H Q):PTs X e t':=⟨λpins s σ H Q I q=>h.run pins s σ H Q I (k σ H Q q)⟩
theorem wL{aj:aQ}{c:Tc}{X:Cx}{W:WX}{k:Nat}{t:Tr}(o:t.Ok)(a:Amb aj c X W k){ifs:List Expr}{f:QT}(h:Uv t c ifs=some f):PTs X ifs (lJ X.K aj W f):=by
 unfold Uv at h;split at h
 ·cases h;exact PTs.weak pts_nil λσ H Q ⟨g,Z,M,I,z⟩=>z H (Ex.refl H)
 ·exact pts_one (o.ot a h)
 ·cases h
def X3(t:Tr)(c:Tc)(elt tg iter:Expr)(ifs:List Expr)(scope:Scope):Option QF:=
 (t.I c false tg iter).bind λit=>(Wh (c.inn scope) tg).bind λjt=>(Uv t (c.inn scope) ifs).bind λtt=>(t.E (c.inn scope) elt).bind λte=>
  gd (blkC c.N c.sc scope (qd tg jt.1)&&(OD jt.1 ((qd tg jt.1).map (·.2))&&!zA iter)) (some (fB it jt.2 ((qd tg jt.1).map (·.2)) tt te))
theorem abr{aj:aQ}{c:Tc}{X:Cx}{W:WX}{k:Nat}{t:Tr}(o:t.Ok)(a:Amb aj c X W k){elt tg iter:Expr}{ifs:List Expr}{scope:Scope}{pos:Pos}{f:QF}(h:X3 t c elt tg iter ifs scope=some f):QE aj X W (.ListComp elt [⟨tg,iter,ifs,0⟩] scope pos) f:=by unfold X3 at h;obtain⟨it,h1,h⟩:=aqW.mp h;obtain⟨⟨js,tf⟩,h2,h⟩:=aqW.mp h;obtain⟨tt,h3,h⟩:=aqW.mp h;obtain⟨te,h4,h⟩:=aqW.mp h;obtain⟨hb,h⟩:=aW.mp h;cases h;simp only[aqZ,arj]at hb;obtain⟨b1,b2,b3⟩:=hb;exact al8 a.calm a.nd (o.oi a h1) (by rw[a.hN,a.hs];exact b1) (qm b2) (λs H C cl fp=>vH (a.inn scope s H C cl fp) h2) (λs H C cl fp=>wL o (a.inn scope s H C cl fp) h3) (λs H C cl fp=>o.oe (a.inn scope s H C cl fp) h4) (rN b3)
def XJ(t:Tr)(c:Tc)(x:Str)(e:Expr)(es:List Expr):Option QF:=match c.G.lookup x with
 |some (.fq n m)=>(JR t c (e::es)).bind λas=>gd (GJ c.sc x&&(!Gf x&&decide ((e::es).length=n))) (some (aZ m as))
 |some _=>none
 |none=>match es with
  |[]=>(b1D x).bind λo=>(t.W c e).bind λfa=>gd (vf c x x&&nst e) (some (eX o fa))
  |[.Name y p]=>match x=="isinstance" with
   |true=>(tyN y).bind λty=>(t.W c e).bind λfa=>gd (vf c x x&&(vf c y y&&nst e)) (some (xM ty fa))
   |false=>(b2D x).bind λo=>(t.W c e).bind λfa=>(t.W c (.Name y p)).bind λfb=>gd (vf c x x&&nst e) (some (aA o fa fb))
  |[e2]=>(b2D x).bind λo=>(t.W c e).bind λfa=>(t.W c e2).bind λfb=>gd (vf c x x&&(nst e&&nst e2)) (some (aA o fa fb))
  |_=>none
theorem aeL{aj:aQ}{c:Tc}{X:Cx}{W:WX}{k:Nat}{x:Str}{o:Dat->Dat->Out Dat}{a b:Expr}{fa fb:QF}{p pos:Pos}(am:Amb aj c X W k)(h:b2D x=some o)(hg:vf c x x=true)(ha:QW aj X W a fa)(hb:QW aj X W b fb)(hs:nst a=true)(hs2:nst b=true):QE aj X W (.Call (.Name x p) [a,b] [] pos) (aA o fa fb):=by obtain⟨f,id,r,hf,hc,ho,hv⟩:=ajP am.calm h aj W;obtain⟨_,hg,hm⟩:=oJ am hg;exact amd hf hc ho hg hm hv ha hb hs hs2
theorem acM{aj:aQ}{c:Tc}{X:Cx}{W:WX}{k:Nat}{t:Tr}(o:t.Ok)(a:Amb aj c X W k){x:Str}{e:Expr}{es:List Expr}{p pos:Pos}{f:QF}(h:XJ t c x e es=some f):QE aj X W (.Call (.Name x p) (e::es) [] pos) f:=by
 unfold XJ at h;split at h
 ·next n m hl=>
  obtain⟨as,h1,h⟩:=aqW.mp h;obtain⟨hb,h⟩:=aW.mp h;cases h;simp only[aqZ,arj,asj]at hb;obtain⟨b1,b2,b3⟩:=hb;obtain⟨fa,hm,hk,fd,ps,j,hj,hp,hB,F⟩:=a.gl x _ hl;obtain⟨i1,i2,i3⟩:=vK o a h1;exact ahP a.tk F (a.rm.mono hj) (tZ a b1) hm hk hB i1 (b3.trans hp.symm) (ux b2).1 i2 i3
 ·cases h
 ·split at h
  ·obtain⟨o1,h1,h⟩:=aqW.mp h;obtain⟨fa,h2,h⟩:=aqW.mp h;obtain⟨hb,h⟩:=aW.mp h;cases h;rw[aqZ]at hb;obtain⟨f,id,r,hf,hc,ho,hv⟩:=akU a.calm h1 aj W;obtain⟨_,hg,hm⟩:=oJ a hb.1;exact agb hf hc ho hg hm hv (o.ow a h2) hb.2
  ·split at h
   ·next ex=>
    obtain⟨ty,h1,h⟩:=aqW.mp h;obtain⟨fa,h2,h⟩:=aqW.mp h;obtain⟨hb,h⟩:=aW.mp h;cases h;simp only[aqZ]at hb;obtain⟨b1,b2,b3⟩:=hb;obtain⟨_,hg,hm⟩:=oJ a b1;obtain⟨_,hg2,hm2⟩:=oJ a b2;cases eq_of_beq ex;exact ajB hg hm ⟨by decide +kernel,by decide,by decide⟩ hg2 hm2 (aky h1) (o.ow a h2) b3
   ·obtain⟨o1,h1,h⟩:=aqW.mp h;obtain⟨fa,h2,h⟩:=aqW.mp h;obtain⟨fb,h3,h⟩:=aqW.mp h;obtain⟨hb,h⟩:=aW.mp h;cases h;rw[aqZ]at hb;exact aeL a h1 hb.1 (o.ow a h2) (o.ow a h3) hb.2 rfl
  ·obtain⟨o1,h1,h⟩:=aqW.mp h;obtain⟨fa,h2,h⟩:=aqW.mp h;obtain⟨fb,h3,h⟩:=aqW.mp h;obtain⟨hb,h⟩:=aW.mp h;cases h;simp only[aqZ]at hb;exact aeL a h1 hb.1 (o.ow a h2) (o.ow a h3) hb.2.1 hb.2.2
  ·cases h
def stE(t:Tr)(c:Tc):Expr->Option QF
 |.Name x _=>(match Lq c x with
  |some i=>some (aq i)
  |none=>match c.G.lookup x with
   |some (.con d)=>gd (GJ c.sc x&&!Gf x) (some (qC d))
   |_=>none)
 |.Constant (.int i) _ _=>some (qC (.int i))
 |.Constant (.str x) _ _=>some (qC (.str x))
 |.Constant (.bool x) _ _=>some (qC (.bool x))
 |.Constant .none _ _=>some (qC .none)
 |.BinOp a op b _=>(ajx op).bind λo=>(t.W c a).bind λfa=>(t.W c b).bind λfb=>some (aA o fa fb)
 |.UnaryOp .USub a _=>(t.W c a).bind λfa=>some (eX Vc fa)
 |.UnaryOp .Not a _=>(t.W c a).bind λfa=>some (Nm fa)
 |.BoolOp _ [a] _=>t.E c a
 |.BoolOp .And (a::b::r) p=>(t.E c a).bind λfa=>(t.E c (.BoolOp .And (b::r) p)).bind λfb=>some (xg fa fb)
 |.BoolOp .Or (a::b::r) p=>(t.E c a).bind λfa=>(t.E c (.BoolOp .Or (b::r) p)).bind λfb=>some (acg fa fb)
 |.Compare a [op] [b] _=>(match isN op with
  |some neg=>(T7 b).bind λd=>(t.W c a).bind λfa=>some (wI neg d fa)
  |none=>(Qg op).bind λo=>(t.W c a).bind λfa=>(t.W c b).bind λfb=>gd (!zA b) (some (aA o fa fb)))
 |.Compare a [op,op'] [b,b2] _=>(Qg op).bind λo=>(Qg op').bind λo'=>(t.W c a).bind λfa=>(t.W c b).bind λfb=>(t.W c b2).bind λfc=>gd (!zA b2) (some (Vu (pF o o' fa fb fc)))
 |.IfExp d a b _=>(t.T c d).bind λta=>(t.E c a).bind λfa=>(t.E c b).bind λfb=>some (Qx ta fa fb)
 |.Tuple es _ _=>(JR t c es).bind λfr=>some (bF fr)
 |.List es _=>(JR t c es).bind λfr=>some (Bm fr)
 |.Subscript a b _=>(match b with
  |.Slice lo hi none _=>(t.W c a).bind λfa=>(trO t c lo).bind λfl=>(trO t c hi).bind λfh=>some (Ly fa fl fh)
  |b=>gd (!YD b) ((t.W c a).bind λfa=>(t.W c b).bind λfb=>some (aA aV fa fb)))
 |.ListComp elt [⟨tg,iter,ifs,0⟩] scope _=>X3 t c elt tg iter ifs scope
 |.Call (.Name x _) (e::es) [] _=>XJ t c x e es
 |_=>none
def stW(t:Tr)(c:Tc):Expr->Option QF
 |.Name x p=>(match Lq c x with
  |some i=>some (ao i)
  |none=>t.E c (.Name x p))
 |e=>t.E c e
def valT:Expr->Bool
 |.UnaryOp .Not _ _=>false
 |.BoolOp _ _ _=>false
 |.IfExp _ _ _ _=>false
 |.Compare _ _ _ _=>false
 |_=>true
theorem abk{e:Expr}{env:PySem.Env}(h:valT e=true):∀whole,isTrue e env whole=(do let v ←whole;standAt e.pos;holding [v] (truthy v)):=λwhole=>by
 cases e with
 | UnaryOp o a p=>cases o<;>first | (with_unfolding_all rfl) | cases h
 |BoolOp _ _ _=>cases h
 |IfExp _ _ _ _=>cases h
 |Compare _ _ _ _=>cases h
 |_=>with_unfolding_all rfl
def stT(t:Tr)(c:Tc):Expr->Option QT
 |.UnaryOp .Not a _=>(t.T c a).bind λta=>some (jC ta)
 |.BoolOp _ [a] _=>t.T c a
 |.BoolOp .And (a::b::r) p=>(t.T c a).bind λta=>(t.T c (.BoolOp .And (b::r) p)).bind λtb=>some (lg ta tb)
 |.BoolOp .Or (a::b::r) p=>(t.T c a).bind λta=>(t.T c (.BoolOp .Or (b::r) p)).bind λtb=>some (Dj ta tb)
 |.Compare a [op] [b] _=>(match isN op with
  |some neg=>(T7 b).bind λd=>(t.W c a).bind λfa=>some (bf (wI neg d fa))
  |none=>(Qg op).bind λo=>(t.W c a).bind λfa=>(t.W c b).bind λfb=>gd (!zA b) (some (bf (aA o fa fb))))
 |.Compare a [op,op'] [b,b2] _=>(Qg op).bind λo=>(Qg op').bind λo'=>(t.W c a).bind λfa=>(t.W c b).bind λfb=>(t.W c b2).bind λfc=>gd (!zA b2) (some (pF o o' fa fb fc))
 |e=>gd (valT e) ((t.W c e).bind λfa=>some (iH fa))
def trF(t:Tr)(c:Tc)(firm:Bool)(e:Expr):Option QF:=match firm with
 |true=>t.E c e
 |false=>t.W c e
def isTup:Expr->Bool
 |.Tuple _ _ _=>true
 |_=>false
def stI(t:Tr)(c:Tc)(firm:Bool)(tg:Expr):Expr->Option IF
 |.Call (.Name x p) [a] [] pos=>(match vf c x "range" with
  |true=>(t.W c a).bind λfa=>gd (nst a) (some (wN fa))
  |false=>match vf c x "enumerate" with
   |true=>(trF t c firm a).bind λfa=>gd (nst a&&isTup tg) (some (zN 0 fa))
   |false=>(trF t c firm (.Call (.Name x p) [a] [] pos)).bind λfa=>some (dw fa))
 |.Call (.Name x p) [a,b] [] pos=>(match vf c x "range" with
  |true=>(t.W c a).bind λfa=>(t.W c b).bind λfb=>gd (nst a&&nst b) (some (Cg fa fb))
  |false=>match vf c x "zip" with
   |true=>(trF t c firm a).bind λfa=>(trF t c firm b).bind λfb=>gd (nst a&&(nst b&&isTup tg)) (some (Jc fa fb))
   |false=>(trF t c firm (.Call (.Name x p) [a,b] [] pos)).bind λfa=>some (dw fa))
 |.Call (.Name x p) [a] [⟨some kw,.Constant (.int i) j kp,kp2⟩] pos=>gd (vf c x "enumerate"&&(kw=="start"&&(decide (-(2 ^ 63)<=i/\i < 2 ^ 63)&&(nst a&&isTup tg)))) ((trF t c firm a).bind λfa=>some (zN i fa))
 |e=>(trF t c firm e).bind λfa=>some (dw fa)
theorem X6{b:Expr}(h:(!YD b)=true):PlainIx b:=λv i=>by
 cases b<;>first | rfl | cases h
section
variable{aj:aQ}{c:Tc}{X:Cx}{W:WX}{k:Nat}{t:Tr}
theorem ait(o:t.Ok)(a:Amb aj c X W k){e:Expr}{f:QF}(h:stE t c e=some f):QE aj X W e f:=by
 unfold stE at h;split at h
 ·split at h
  ·next i hi=>
   cases h;obtain⟨s1,s2,s3,s4⟩:=Af a hi;exact ajM s1 s2 s3 s4
  ·split at h
   ·next d hl=>
    obtain⟨hb,h⟩:=aW.mp h;cases h;simp only[aqZ,arj]at hb;obtain⟨v,u,h1,h2,h3⟩:=a.gl _ _ hl;exact PE.weak (pe_glob (tZ a hb.1) h1 h2 (ux hb.2).1) λσ H Q ⟨g,Z,M,I,z⟩=>z v H (Ex.refl H) (h3 g H)
   ·cases h
 ·cases h;exact alb
 ·cases h;exact akL
 ·cases h;exact amf
 ·cases h;exact ak8
 ·obtain⟨op,h1,h⟩:=aqW.mp h;obtain⟨fa,h2,h⟩:=aqW.mp h;obtain⟨fb,h3,h⟩:=aqW.mp h;cases h;obtain⟨r,r1,r2⟩:=ahM h1 X aj W;exact aiw r1 r2 (o.ow a h2) (o.ow a h3)
 ·obtain⟨fa,h2,h⟩:=aqW.mp h;cases h;exact ajR (o.ow a h2)
 ·obtain⟨fa,h2,h⟩:=aqW.mp h;cases h;exact ahB (o.ow a h2)
 ·exact pe_one (o.oe a h)
 ·obtain⟨fa,h2,h⟩:=aqW.mp h;obtain⟨fb,h3,h⟩:=aqW.mp h;cases h;exact ahS (o.oe a h2) (o.oe a h3)
 ·obtain⟨fa,h2,h⟩:=aqW.mp h;obtain⟨fb,h3,h⟩:=aqW.mp h;cases h;exact aj8 (o.oe a h2) (o.oe a h3)
 ·split at h
  ·next neg hn=>
   obtain⟨d,h1,h⟩:=aqW.mp h;obtain⟨fa,h2,h⟩:=aqW.mp h;cases h;obtain⟨v,v1,v2,v3⟩:=aa8 (X:=X) h1;refine alK v1 (adH hn v2) (o.ow a h2) v3 (Cv ?_);unfold T7 at h1;split at h1<;>first | rfl | cases h1
  ·obtain⟨op,h1,h⟩:=aqW.mp h;obtain⟨fa,h2,h⟩:=aqW.mp h;obtain⟨fb,h3,h⟩:=aqW.mp h;obtain⟨hb,h⟩:=aW.mp h;cases h;obtain⟨r,r1,r2⟩:=Cr h1 a.rm aj W;exact aic r1 r2 (o.ow a h2) (o.ow a h3) (Cv (by simpa using hb))
 ·obtain⟨op,h1,h⟩:=aqW.mp h;obtain⟨op',h1',h⟩:=aqW.mp h;obtain⟨fa,h2,h⟩:=aqW.mp h;obtain⟨fb,h3,h⟩:=aqW.mp h;obtain⟨fc,h4,h⟩:=aqW.mp h;obtain⟨hb,h⟩:=aW.mp h;cases h;obtain⟨r,r1,r2⟩:=Cr h1 a.rm aj W;obtain⟨r',r1',r2'⟩:=Cr h1' a.rm aj W;exact ae3 r1 r1' r2 r2' (o.ow a h2) (o.ow a h3) (o.ow a h4) (V6 (by simpa using hb))
 ·obtain⟨ta,h1,h⟩:=aqW.mp h;obtain⟨fa,h2,h⟩:=aqW.mp h;obtain⟨fb,h3,h⟩:=aqW.mp h;cases h;exact ae2 (o.ot a h1) (o.oe a h2) (o.oe a h3)
 ·obtain⟨fr,h1,h⟩:=aqW.mp h;cases h;exact aiT (vK o a h1).1
 ·obtain⟨fr,h1,h⟩:=aqW.mp h;cases h;exact ajj (vK o a h1).1
 ·split at h
  ·obtain⟨fa,h1,h⟩:=aqW.mp h;obtain⟨fl,h2,h⟩:=aqW.mp h;obtain⟨fh,h3,h⟩:=aqW.mp h;cases h;exact aml (o.ow a h1) (adf o a h2) (adf o a h3)
  ·obtain⟨hb,h⟩:=aW.mp h;obtain⟨fa,h1,h⟩:=aqW.mp h;obtain⟨fb,h2,h⟩:=aqW.mp h;cases h;exact als (o.ow a h1) (o.ow a h2) (X6 hb)
 ·exact abr o a h
 ·exact acM o a h
 ·cases h
theorem akq(o:t.Ok)(a:Amb aj c X W k){e:Expr}{f:QF}(h:stW t c e=some f):QW aj X W e f:=by
 unfold stW at h;split at h
 ·split at h
  ·next i hi=>
   cases h;obtain⟨s1,s2,s3,s4⟩:=Af a hi;exact akZ s1 s2 s3 s4
  ·exact(o.oe a h).w
 ·exact(o.oe a h).w
theorem akD{a b:Expr}{rest:List Expr}{ta tb:QT}{pos:Pos}(ha:sS aj X W a ta)(hb:sS aj X W (.BoolOp .And (b::rest) pos) tb):sS aj X W (.BoolOp .And (a::b::rest) pos) (lg ta tb):=by have hb':QWt aj X W (.BoolOp .And (b::rest) pos) tb:=⟨λwh pins s σ H Q I q=>hb.run pins s σ H Q I q⟩;exact PW.pt (ala ha hb')
theorem alI{a b:Expr}{rest:List Expr}{ta tb:QT}{pos:Pos}(ha:sS aj X W a ta)(hb:sS aj X W (.BoolOp .Or (b::rest) pos) tb):sS aj X W (.BoolOp .Or (a::b::rest) pos) (Dj ta tb):=by have hb':QWt aj X W (.BoolOp .Or (b::rest) pos) tb:=⟨λwh pins s σ H Q I q=>hb.run pins s σ H Q I q⟩;exact PW.pt (alB ha hb')
theorem ajc(o:t.Ok)(a:Amb aj c X W k){e:Expr}{f:QT}(h:stT t c e=some f):sS aj X W e f:=by
 unfold stT at h;split at h
 ·obtain⟨ta,h1,h⟩:=aqW.mp h;cases h;exact aks (o.ot a h1)
 ·next op _ _=>
  cases op
  ·exact PW.pt (pw_and1 (o.ot a h))
  ·exact PW.pt (pw_or1 (o.ot a h))
 ·obtain⟨ta,h1,h⟩:=aqW.mp h;obtain⟨tb,h2,h⟩:=aqW.mp h;cases h;exact akD (o.ot a h1) (o.ot a h2)
 ·obtain⟨ta,h1,h⟩:=aqW.mp h;obtain⟨tb,h2,h⟩:=aqW.mp h;cases h;exact alI (o.ot a h1) (o.ot a h2)
 ·split at h
  ·next neg hn=>
   obtain⟨d,h1,h⟩:=aqW.mp h;obtain⟨fa,h2,h⟩:=aqW.mp h;cases h;obtain⟨v,v1,v2,v3⟩:=aa8 (X:=X) h1;refine alQ v1 (adH hn v2) (o.ow a h2) v3 (Cv ?_);unfold T7 at h1;split at h1<;>first | rfl | cases h1
  ·obtain⟨op,h1,h⟩:=aqW.mp h;obtain⟨fa,h2,h⟩:=aqW.mp h;obtain⟨fb,h3,h⟩:=aqW.mp h;obtain⟨hb,h⟩:=aW.mp h;cases h;obtain⟨r,r1,r2⟩:=Cr h1 a.rm aj W;exact ajd r1 r2 (o.ow a h2) (o.ow a h3) (Cv (by simpa using hb))
 ·obtain⟨op,h1,h⟩:=aqW.mp h;obtain⟨op',h1',h⟩:=aqW.mp h;obtain⟨fa,h2,h⟩:=aqW.mp h;obtain⟨fb,h3,h⟩:=aqW.mp h;obtain⟨fc,h4,h⟩:=aqW.mp h;obtain⟨hb,h⟩:=aW.mp h;cases h;obtain⟨r,r1,r2⟩:=Cr h1 a.rm aj W;obtain⟨r',r1',r2'⟩:=Cr h1' a.rm aj W;exact afl r1 r1' r2 r2' (o.ow a h2) (o.ow a h3) (o.ow a h4) (V6 (by simpa using hb))
 ·obtain⟨hv,h⟩:=aW.mp h;obtain⟨fa,h1,h⟩:=aqW.mp h;cases h;exact aki (o.ow a h1) (abk hv)
theorem CV(o:t.Ok)(a:Amb aj c X W k){firm:Bool}{e:Expr}{f:QF}(h:trF t c firm e=some f):QF' aj X W firm e f:=by
 cases firm
 ·exact o.ow a h
 ·exact o.oe a h
theorem Ql{e:Expr}(h:isTup e=true):∃es j p,e=.Tuple es j p:=by cases e<;>first | exact⟨_,_,_,rfl⟩ | cases h
theorem akj(o:t.Ok)(a:Amb aj c X W k){firm:Bool}{tg e:Expr}{f:IF}(h:stI t c firm tg e=some f):QI aj X W firm tg e f:=by
 unfold stI at h;split at h
 ·split at h
  ·next hb=>
   obtain⟨fa,h1,h⟩:=aqW.mp h;obtain⟨hs,h⟩:=aW.mp h;cases h;obtain⟨rfl,hg,hm⟩:=oJ a hb;exact acP hg hm (o.ow a h1) hs
  ·split at h
   ·next hb=>
    obtain⟨fa,h1,h⟩:=aqW.mp h;obtain⟨hs,h⟩:=aW.mp h;cases h;obtain⟨rfl,hg,hm⟩:=oJ a hb;rw[aqZ]at hs;obtain⟨es,j,p,rfl⟩:=Ql hs.2;exact ahJ hg hm (CV o a h1) hs.1
   ·obtain⟨fa,h1,h⟩:=aqW.mp h;cases h;exact Y7 (CV o a h1)
 ·split at h
  ·next hb=>
   obtain⟨fa,h1,h⟩:=aqW.mp h;obtain⟨fb,h2,h⟩:=aqW.mp h;obtain⟨hs,h⟩:=aW.mp h;cases h;obtain⟨rfl,hg,hm⟩:=oJ a hb;rw[aqZ]at hs;exact adZ hg hm (o.ow a h1) (o.ow a h2) hs.1 hs.2
  ·split at h
   ·next hb=>
    obtain⟨fa,h1,h⟩:=aqW.mp h;obtain⟨fb,h2,h⟩:=aqW.mp h;obtain⟨hs,h⟩:=aW.mp h;cases h;obtain⟨rfl,hg,hm⟩:=oJ a hb;simp only[aqZ]at hs;obtain⟨es,j,p,rfl⟩:=Ql hs.2.2;exact akN hg hm (CV o a h1) (CV o a h2) hs.1 hs.2.1
   ·obtain⟨fa,h1,h⟩:=aqW.mp h;cases h;exact Y7 (CV o a h1)
 ·obtain⟨hs,h⟩:=aW.mp h;obtain⟨fa,h1,h⟩:=aqW.mp h;cases h;simp only[aqZ,asj]at hs;obtain⟨hb,hk,hi,hn,ht⟩:=hs;obtain⟨rfl,hg,hm⟩:=oJ a hb;cases eq_of_beq hk;obtain⟨es,j,p,rfl⟩:=Ql ht;exact afH hi.1 hi.2 hg hm (CV o a h1) hn
 ·obtain⟨fa,h1,h⟩:=aqW.mp h;cases h;exact Y7 (CV o a h1)
end
def MV.n:MV->Nat
 |.q n _=>n
 |.g n _=>n
def MV.qt:MV->Bool
 |.q _ _=>true
 |.g _ _=>false
def tbN(tb:List (Str×MV))(n:Nat):Bool:=tb.all λp=>p.2.n==n
def tbQ(tb:List (Str×MV)):Bool:=tb.all λp=>p.2.qt
theorem qI{α:Type}{c:Str}{v:α}:∀{tb:List (Str×α)},tb.lookup c=some v->(c,v)∈tb
 |[],h=>nomatch h
 |(y,u)::r,h=>by
  rw[aru]at h;split at h
  ·next e=>
   cases h;rw[eq_of_beq e];exact aq4
  ·exact aq3 _ (qI h)
section
variable{aj:aQ}{c:Tc}{X:Cx}{W:WX}{k:Nat}{t:Tr}
theorem Xj(a:Amb aj c X W k){m:Str}{n:Nat}{tb:List (Str×MV)}(h:c.hs.Ms.lookup m=some tb)(hn:tbN tb n=true):Ji X aj k m n tb:=λy v hv=>by
 refine⟨a.hk.ms m tb h y v hv,?_⟩;have:=aro.mp hn _ (qI hv);cases v<;>exact eq_of_beq this
def Yh(t:Tr)(c:Tc)(o:Expr)(m:Str)(es:List Expr)(apos pos:Pos):Option QF:=
 (c.hs.Ms.lookup m).bind λtb=>(t.W c o).bind λfo=>(JR t c es).bind λas=>
  gd (tbQ tb&&(tbN tb (es.length+1)&&(baseOk o&&(decide (es.length < 30)&&(apos.endLine==pos.line))))) (some (aP tb fo as))
theorem aeH(o:t.Ok)(a:Amb aj c X W k){b:Expr}{m:Str}{es:List Expr}{apos pos:Pos}{f:QF}(h:Yh t c b m es apos pos=some f):QE aj X W (.Call (.Attribute b m apos) es [] pos) f:=by
 unfold Yh at h;obtain⟨tb,h1,h⟩:=aqW.mp h;obtain⟨fo,h2,h⟩:=aqW.mp h;obtain⟨as,h3,h⟩:=aqW.mp h;obtain⟨hb,h⟩:=aW.mp h;cases h;simp only[aqZ,asj]at hb;obtain⟨_,b2,b3,b4,b5⟩:=hb;obtain⟨i1,i2,i3⟩:=vK o a h3;cases es with
 |nil=>
  cases h3;exact aeW a.tk a.rm (Xj a h1 b2) (o.ow a h2) b3 b5
 |cons e es=>exact agV a.tk a.rm (Xj a h1 b2) (o.ow a h2) i1 i3 b3 i2 b5 b4
def inN:CmpOp->Option Bool
 |.In=>some false
 |.NotIn=>some true
 |_=>none
theorem ac4{op:CmpOp}{neg:Bool}(hr:Room k X.A)(h:inN op=some neg):OpR X (compareOp op) (rInD X neg):=by
 have h65:X.A.units+64 < cLine:=by have:=hr.un;omega
 cases op<;>cases h
 ·exact op_inD h65
 ·exact op_notInD h65
def abT(t:Tr)(c:Tc)(e:Expr)(op:CmpOp)(o:Expr)(f:Str):Option QF:=
 (inN op).bind λneg=>(c.hs.df.lookup f).bind λ_=>(t.E c e).bind λfe=>(t.W c o).bind λfo=>gd (baseOk o) (some (Py neg f fe fo))
theorem ajk{o e:Expr}{f:Str}{p1 pos:Pos}{fo fk:QF}{neg:Bool}{op:CmpOp}(co:jF X.K aj)(hw:aj.w=X.w)(hr:OpR X (compareOp op) (rInD X neg))(hk:QE aj X W e fk)(ho:QW aj X W o fo)(hb:baseOk o=true):sS aj X W (.Compare e [op] [.Attribute o f p1] pos) (bf (Py neg f fk fo)):=
 PT.weak (pt_cmpR hr hk (pe_fld ho (ni hb)) (by cases op<;>rfl)) λσ H Q ⟨g,Z,M,I,h⟩=>by
  refine agt co hw σ H _ ⟨g,Z,M,I,h.bnd.mono (λd h1 v H' e' r'=>?_) λ_ z=>z⟩;obtain⟨k,h2,h3⟩:=Ey r'.weak h1;exact⟨k,h2,h3 H' e'⟩
theorem aaX(o:t.Ok)(a:Amb aj c X W k){e b:Expr}{op:CmpOp}{m:Str}{p1 pos:Pos}{f:QF}(h:abT t c e op b m=some f):QE aj X W (.Compare e [op] [.Attribute b m p1] pos) f/\sS aj X W (.Compare e [op] [.Attribute b m p1] pos) (bf f):=by unfold abT at h;obtain⟨neg,h1,h⟩:=aqW.mp h;obtain⟨_,_,h⟩:=aqW.mp h;obtain⟨fe,h2,h⟩:=aqW.mp h;obtain⟨fo,h3,h⟩:=aqW.mp h;obtain⟨hb,h⟩:=aW.mp h;cases h;exact⟨ajS a.hk.co a.hk.hw (ac4 a.rm h1) (o.oe a h2) (o.ow a h3) hb,ajk a.hk.co a.hk.hw (ac4 a.rm h1) (o.oe a h2) (o.ow a h3) hb⟩
def Xm(t:Tr)(c:Tc)(e:Expr)(op:CmpOp)(x:Str):Option QF:=
 (inN op).bind λneg=>match c.G.lookup x with
  |some (.dic kvs)=>(t.W c e).bind λfe=>gd (GJ c.sc x&&!Gf x) (some (T9 neg kvs fe))
  |_=>none
theorem Zk(o:t.Ok)(a:Amb aj c X W k){e:Expr}{op:CmpOp}{x:Str}{p1 pos:Pos}{f:QF}(h:Xm t c e op x=some f):QE aj X W (.Compare e [op] [.Name x p1] pos) f/\sS aj X W (.Compare e [op] [.Name x p1] pos) (bf f):=by
 unfold Xm at h;obtain⟨neg,h1,h⟩:=aqW.mp h;split at h
 ·next kvs hl=>
  obtain⟨fe,h2,h⟩:=aqW.mp h;obtain⟨hb,h⟩:=aW.mp h;cases h;simp only[aqZ,arj]at hb;refine akf ?_ (a.gl x _ hl) (tZ a hb.1) (ux hb.2).1 (o.ow a h2);cases op<;>cases h1
  ·exact .inl ⟨rfl,rfl⟩
  ·exact .inr ⟨rfl,rfl⟩
 ·cases h
def Yx(t:Tr)(c:Tc):Expr->Option QF
 |.Call (.Name y _) [b] [] _=>(match vf c y "set" with
  |true=>(t.W c b).bind λfb=>gd (nst b) (some (eX Rm fb))
  |false=>(t.W c (.Call (.Name y ⟨0,0,0,0⟩) [b] [] ⟨0,0,0,0⟩)).bind λ_=>none)
 |e=>(t.W c e).bind λfe=>gd (nst e) (some (eX Jh fe))
theorem ai3(a:Amb aj c X W k):X.A.units+65 < cLine:=by have:=a.rm.un;omega
theorem acG(o:t.Ok)(a:Amb aj c X W k)(hg:Gl X "sorted")(hm:X.mg "sorted"=none){e:Expr}{p pos:Pos}{f:QF}(h:Yx t c e=some f):QE aj X W (.Call (.Name "sorted" p) [e] [] pos) f:=by
 unfold Yx at h;split at h
 ·split at h
  ·next hb=>
   obtain⟨fb,h1,h⟩:=aqW.mp h;obtain⟨hn,h⟩:=aW.mp h;cases h;obtain⟨rfl,hg2,hm2⟩:=oJ a hb;exact aii (ai3 a) a.calm hg hm hg2 hm2 (o.ow a h1) hn
  ·obtain⟨_,_,h⟩:=aqW.mp h;cases h
 ·obtain⟨fe,h1,h⟩:=aqW.mp h;obtain⟨hn,h⟩:=aW.mp h;cases h;exact ahW (ai3 a) hg hm (o.ow a h1) hn
def Qm(t:Tr)(c:Tc)(elt tg iter:Expr)(ifs:List Expr)(tg1 iter1:Expr)(ifs1:List Expr)(scope:Scope):Option QF:=
 (t.I c false tg iter).bind λit=>(Wh (c.inn scope) tg).bind λjt=>(Uv t (c.inn scope) ifs).bind λtt=>(t.I (c.inn scope) true tg1 iter1).bind λit1=>(Wh (c.inn scope) tg1).bind λjt1=>(Uv t (c.inn scope) ifs1).bind λtt1=>(t.E (c.inn scope) elt).bind λte=>
  gd (blkC c.N c.sc scope (qd tg jt.1++qd tg1 jt1.1)&&(OD ((qd tg1 jt1.1).map (·.2)) ((qd tg jt.1++qd tg1 jt1.1).map (·.2))&&(OD jt.1 ((qd tg jt.1++qd tg1 jt1.1).map (·.2))&&(OD jt1.1 ((qd tg1 jt1.1).map (·.2))&&(!zA iter&&!zA iter1)))))
   (some (Dd it jt.2 ((qd tg jt.1++qd tg1 jt1.1).map (·.2)) tt it1 jt1.2 ((qd tg1 jt1.1).map (·.2)) tt1 te))
theorem ae0(o:t.Ok)(a:Amb aj c X W k){elt tg iter tg1 iter1:Expr}{ifs ifs1:List Expr}{scope:Scope}{pos:Pos}{f:QF}(h:Qm t c elt tg iter ifs tg1 iter1 ifs1 scope=some f):QE aj X W (.ListComp elt [⟨tg,iter,ifs,0⟩,⟨tg1,iter1,ifs1,0⟩] scope pos) f:=by unfold Qm at h;obtain⟨it,h1,h⟩:=aqW.mp h;obtain⟨⟨js,tf⟩,h2,h⟩:=aqW.mp h;obtain⟨tt,h3,h⟩:=aqW.mp h;obtain⟨it1,h4,h⟩:=aqW.mp h;obtain⟨⟨js1,tf1⟩,h5,h⟩:=aqW.mp h;obtain⟨tt1,h6,h⟩:=aqW.mp h;obtain⟨te,h7,h⟩:=aqW.mp h;obtain⟨hb,h⟩:=aW.mp h;cases h;simp only[aqZ,arj]at hb;obtain⟨b1,b2,b3,b4,b5,b6⟩:=hb;exact aj4 a.calm a.nd (o.oi a h1) (by rw[a.hN,a.hs];exact b1) (qm b2) (qm b3) (qm b4) (λs H C cl fp=>vH (a.inn _ s H C cl fp) h2) (λs H C cl fp=>wL o (a.inn _ s H C cl fp) h3) (λs H C cl fp=>o.oi (a.inn _ s H C cl fp) h4) (λs H C cl fp=>vH (a.inn _ s H C cl fp) h5) (λs H C cl fp=>wL o (a.inn _ s H C cl fp) h6) (λs H C cl fp=>o.oe (a.inn _ s H C cl fp) h7) (rN b5) (λenv=>rN b6)
def xE(t:Tr)(c:Tc):Expr->Option QF
 |.Attribute o f _=>gd (baseOk o) ((t.W c o).bind λfo=>some (gY f fo))
 |.Call (.Attribute o m apos) es [] pos=>Yh t c o m es apos pos
 |.Compare e [op] [.Attribute o f _] _=>abT t c e op o f
 |.Compare e [op] [.Name x _] _=>Xm t c e op x
 |.Subscript (.Name x _) e _=>(match c.G.lookup x with
  |some (.dic kvs)=>(t.W c e).bind λfe=>gd (GJ c.sc x&&(!Gf x&&!YD e)) (some (acu kvs fe))
  |_=>none)
 |.ListComp elt [⟨tg,iter,ifs,0⟩,⟨tg1,iter1,ifs1,0⟩] scope _=>Qm t c elt tg iter ifs tg1 iter1 ifs1 scope
 |.Call (.Name x _) [e] [] _=>(match vf c x "sorted" with
  |true=>Yx t c e
  |false=>match vf c x "list",e with
   |true,.Attribute o f _=>(c.hs.df.lookup f).bind λ_=>(t.W c o).bind λfo=>gd (baseOk o) (some (CT f fo))
   |_,_=>none)
 |_=>none
theorem alm(o:t.Ok)(a:Amb aj c X W k){e:Expr}{f:QF}(h:xE t c e=some f):QE aj X W e f:=by
 unfold xE at h;split at h
 ·obtain⟨hb,h⟩:=aW.mp h;obtain⟨fo,h1,h⟩:=aqW.mp h;cases h;exact aiX a.hk.co (o.ow a h1) hb
 ·exact aeH o a h
 ·exact(aaX o a h).1
 ·exact(Zk o a h).1
 ·split at h
  ·next kvs hl=>
   obtain⟨fe,h1,h⟩:=aqW.mp h;obtain⟨hb,h⟩:=aW.mp h;cases h;simp only[aqZ]at hb;exact ajy (a.gl _ _ hl) (tZ a hb.1) (ux (by simpa using hb.2.1)).1 (o.ow a h1) (X6 hb.2.2)
  ·cases h
 ·exact ae0 o a h
 ·split at h
  ·next hb=>
   obtain⟨rfl,hg,hm⟩:=oJ a hb;exact acG o a hg hm h
  ·split at h
   ·next hb=>
    obtain⟨_,_,h⟩:=aqW.mp h;obtain⟨fo,h1,h⟩:=aqW.mp h;obtain⟨hb2,h⟩:=aW.mp h;cases h;obtain⟨rfl,hg,hm⟩:=oJ a hb;exact aft a.hk.co a.hk.hw a.calm hg hm (o.ow a h1) hb2
   ·cases h
 ·cases h
def xW(t:Tr)(c:Tc):Expr->Option QF
 |.Attribute o f _=>gd (baseOk o) ((t.W c o).bind λfo=>some (bH f fo))
 |_=>none
theorem alL(o:t.Ok)(a:Amb aj c X W k){e:Expr}{f:QF}(h:xW t c e=some f):QW aj X W e f:=by
 unfold xW at h;split at h
 ·obtain⟨hb,h⟩:=aW.mp h;obtain⟨fo,h1,h⟩:=aqW.mp h;cases h;exact akg a.hk.co (o.ow a h1) hb
 ·cases h
def xT(t:Tr)(c:Tc):Expr->Option QT
 |.Compare e [op] [.Attribute o f _] _=>(abT t c e op o f).bind λg=>some (bf g)
 |.Compare e [op] [.Name x _] _=>(Xm t c e op x).bind λg=>some (bf g)
 |_=>none
theorem alJ(o:t.Ok)(a:Amb aj c X W k){e:Expr}{f:QT}(h:xT t c e=some f):sS aj X W e f:=by
 unfold xT at h;split at h
 ·obtain⟨g,h1,h⟩:=aqW.mp h;cases h;exact(aaX o a h1).2
 ·obtain⟨g,h1,h⟩:=aqW.mp h;cases h;exact(Zk o a h1).2
 ·cases h
def xI(t:Tr)(c:Tc)(firm:Bool):Expr->Option IF
 |.Attribute o f _=>(match firm with
  |true=>none
  |false=>(c.hs.df.lookup f).bind λ_=>gd (baseOk o) ((t.W c o).bind λfo=>some (CP f fo)))
 |_=>none
theorem amb(o:t.Ok)(a:Amb aj c X W k){firm:Bool}{tg e:Expr}{f:IF}(h:xI t c firm e=some f):QI aj X W firm tg e f:=by
 unfold xI at h;split at h
 ·split at h
  ·cases h
  ·obtain⟨_,_,h⟩:=aqW.mp h;obtain⟨hb,h⟩:=aW.mp h;obtain⟨fo,h1,h⟩:=aqW.mp h;cases h;exact ae6 a.hk.co a.hk.hw (o.ow a h1) hb
 ·cases h
def els{α:Type}(a b:Option α):Option α:=match a with
 |some x=>some x
 |none=>b
theorem wC{α:Type}{a b:Option α}{x:α}(h:els a b=some x):a=some x∨b=some x:=by
 cases a with
 |none=>exact .inr h
 |some y=>exact .inl h
def xtE(t:Tr)(c:Tc)(e:Expr):Option QF:=els (xE t c e) (stE t c e)
def xtW(t:Tr)(c:Tc)(e:Expr):Option QF:=els (xW t c e) (stW t c e)
def xtT(t:Tr)(c:Tc)(e:Expr):Option QT:=els (xT t c e) (stT t c e)
def xtI(t:Tr)(c:Tc)(firm:Bool)(tg e:Expr):Option IF:=els (xI t c firm e) (stI t c firm tg e)
end
structure u6(aj:aQ)(c:Tc)(X:Cx)(W:WX)(k:Nat):Prop extends Amb aj c X W k where
 ps:PassesOwn (model X.prog X.w) X.A X.env X.xe
 st:X.stack=X.env::X.outer
 fr:X.env.frame=some X.env.locals
 kf:X.env.scope.kind=.function
structure Ts where
 G:Tc->Expr->Option GF
 H:Tc->Expr->Option GT
 S:Tc->Stmt->Option SF
 B:Tc->List Stmt->Option SF
structure Ts.Ok(s:Ts)(q:Bool):Prop where
 og:∀{aj:aQ} {c:Tc} {X:Cx} {W:WX} {k:Nat},u6 aj c X W k->∀{e:Expr} {f:GF},s.G c e=some f->GE aj X W q e f
 oh:∀{aj:aQ} {c:Tc} {X:Cx} {W:WX} {k:Nat},u6 aj c X W k->∀{e:Expr} {f:GT},s.H c e=some f->Fq aj X W q e f
 os:∀{aj:aQ} {c:Tc} {X:Cx} {W:WX} {k:Nat},u6 aj c X W k->∀{e:Stmt} {f:SF},s.S c e=some f->SE aj X W q e f
 ob:∀{aj:aQ} {c:Tc} {X:Cx} {W:WX} {k:Nat},u6 aj c X W k->∀{e:List Stmt} {f:SF},s.B c e=some f->Ep aj X W q e f
def Fe:Expr->Bool
 |.ListComp _ _ _ _=>true
 |.SetComp _ _ _ _=>true
 |.DictComp _ _ _ _ _=>true
 |_=>false
theorem Gu{e:Expr}{tg:Option Expr}{l:Nat}{env:PySem.Env}(h:Fe e=false):swapsWith e tg l env=pure false:=by cases e<;>first | rfl | cases h
def abY:Expr->Bool
 |.Tuple _ _ _=>true
 |_=>false
def swB(sc:Scope)(v:Expr)(scope:Scope)(x:Str)(p:Pos):Bool:=(match sc.names.lookup x with
 |some .local=>true
 |_=>false)&&(p.line==v.pos.line&&!(scope.names.any λ(n,k)=>n==x&&(k==.local || k==.cell)))
theorem Qy{X:Cx}{elt:Expr}{gens:List Comprehension}{scope:Scope}{pos p:Pos}{x:Str}{l:Nat}(hk:X.env.scope.kind=.function)(h:swB X.env.scope (.ListComp elt gens scope pos) scope x p=true):X.env.scope.names.lookup x=some .local/\swapsWith (.ListComp elt gens scope pos) (some (.Name x p)) l X.env=pure true:=by
 unfold swB at h;simp only[aqZ]at h;obtain⟨h1,h2,h3⟩:=h;have e1:X.env.scope.names.lookup x=some .local:=by
  split at h1
  ·assumption
  ·cases h1
 refine⟨e1,?_⟩;have eb:X.env.blockKind=.function:=by unfold PySem.Env.blockKind;rw[hk];rfl
 unfold swapsWith
 show(pure (X.env.blockKind==.function&&X.env.kindOf x==some .local&&p.line==(Expr.ListComp elt gens scope pos).pos.line&&!(scope.names.any λ(n,k)=>n==x&&(k==.local || k==.cell))):Sem Bool)=pure true
 rw[eb,h2,h3];unfold PySem.Env.kindOf;rw[e1];rfl
theorem adT{X:Cx}{elt:Expr}{gens:List Comprehension}{scope:Scope}{pos p:Pos}{x:Str}{l:Nat}(h:(p.line==(Expr.ListComp elt gens scope pos).pos.line)=false):swapsWith (.ListComp elt gens scope pos) (some (.Name x p)) l X.env=pure false:=by
 unfold swapsWith
 show(pure (X.env.blockKind==.function&&X.env.kindOf x==some .local&&p.line==(Expr.ListComp elt gens scope pos).pos.line&&!(scope.names.any λ(n,k)=>n==x&&(k==.local || k==.cell))):Sem Bool)=pure false
 rw[h,Bool.and_false,Bool.false_and]
def trN(t:Tr)(c:Tc):Expr->Option IF
 |.List es _=>(JR t c es).bind λfr=>some (QH fr)
 |_=>none
theorem adG{aj:aQ}{c:Tc}{X:Cx}{W:WX}{k:Nat}{t:Tr}(o:t.Ok)(a:Amb aj c X W k){e:Expr}{f:IF}(h:trN t c e=some f):FE aj X W e f/\Fe e=false:=by
 unfold trN at h;split at h
 ·obtain⟨fr,h1,h⟩:=aqW.mp h;cases h;exact⟨akG (vK o a h1).1,rfl⟩
 ·cases h
section
variable{X:Cx}{aj:aQ}{W:WX}{q:Bool}{e:Expr}{pos:Pos}
theorem akp{j:Nat}{y:Str}{py:Pos}{elt tg iter:Expr}{cpos:Pos}{scope:Scope}{own:List (Str×Nat)}{it:IF}{tgf:fV}{js:List Nat}{tt:QT}{te:QF}{ifs:List Expr}(hc:X.calm=true)(hN:X.N.Nodup)(hy:X.N[j]?=some y)(hyl:X.env.scope.names.lookup y=some .local)
  (hsw:swapsWith (.ListComp elt [⟨tg,iter,ifs,0⟩] scope cpos) (some (.Name y py)) pos.line X.env=pure true) (hi:QI aj X W false tg iter it) (ok:blkC X.N X.env.scope scope own=true) (hj:∀j∈js,j∈own.map (·.2))
  (hg:∀(s:Shared) (H:Hp) (C:Addr) (cl:List (Str×Addr)) (fp:List Addr),QG aj (X.blk s H scope (compEnvC scope cl C X.env) fp) tg js tgf)
  (ht:∀(s:Shared) (H:Hp) (C:Addr) (cl:List (Str×Addr)) (fp:List Addr),PTs (X.blk s H scope (compEnvC scope cl C X.env) fp) ifs (lJ X.K aj WF tt))
  (he:∀(s:Shared) (H:Hp) (C:Addr) (cl:List (Str×Addr)) (fp:List Addr),QE aj (X.blk s H scope (compEnvC scope cl C X.env) fp) WF elt te) (hs:∀x,foldedSetIterable iter X.env x=pure x) :
  SE aj X W q (.Assign [.Name y py] (.ListComp elt [⟨tg,iter,ifs,0⟩] scope cpos) pos) (Jr j (CZ it tgf (own.map (·.2)) tt te)):=by
 refine PS.weak (ps_setLc (g:=zW X.K aj js tgf) (tt:=lJ X.K aj WF tt) (te:=tQ X.K aj WF te) hc hN hy hyl hsw hi (blkOk_by ok) (λs H C cl fp=>hg s H C cl fp) ht (λs H C cl fp=>he s H C cl fp) hs) λD σ H h=>?_;exact Ze hj σ H _ (ac3 D σ H h)
end
def agC(t:Tr)(c:Tc)(elt tg iter:Expr)(ifs:List Expr)(scope:Scope):Option IF:=
 (t.I c false tg iter).bind λit=>(Wh (c.inn scope) tg).bind λjt=>(Uv t (c.inn scope) ifs).bind λtt=>(t.E (c.inn scope) elt).bind λte=>
  gd (blkC c.N c.sc scope (qd tg jt.1)&&(OD jt.1 ((qd tg jt.1).map (·.2))&&!zA iter)) (some (CZ it jt.2 ((qd tg jt.1).map (·.2)) tt te))
def U6(t:Tr)(c:Tc)(x:Str)(p:Pos)(elt tg iter:Expr)(ifs:List Expr)(scope:Scope)(cpos:Pos):Option SF:=
 (vX c x).bind λj=>gd (swB c.sc (.ListComp elt [⟨tg,iter,ifs,0⟩] scope cpos) scope x p || !(p.line==(Expr.ListComp elt [⟨tg,iter,ifs,0⟩] scope cpos).pos.line))
  (match c.ml.contains x with
  |true=>(agC t c elt tg iter ifs scope).bind λf=>some (Jr j f)
  |false=>(X3 t c elt tg iter ifs scope).bind λf=>some (aY (aF j) (gOf f)))
section
variable{aj:aQ}{c:Tc}{X:Cx}{W:WX}{k:Nat}{t:Tr}{q:Bool}
theorem ab8(o:t.Ok)(a:u6 aj c X W k){x:Str}{p cpos pos:Pos}{elt tg iter:Expr}{ifs:List Expr}{scope:Scope}{f:SF}(h:U6 t c x p elt tg iter ifs scope cpos=some f):SE aj X W q (.Assign [.Name x p] (.ListComp elt [⟨tg,iter,ifs,0⟩] scope cpos) pos) f:=by
 unfold U6 at h;obtain⟨j,hj,h⟩:=aqW.mp h;obtain⟨hsw,h⟩:=aW.mp h;obtain⟨s1,s2,s3⟩:=nJ a.toAmb hj;rw[Bool.or_eq_true]at hsw;split at h
 ·obtain⟨f1,h1,h⟩:=aqW.mp h;cases h;unfold agC at h1;obtain⟨it,h2,h1⟩:=aqW.mp h1;obtain⟨⟨js,tf⟩,h3,h1⟩:=aqW.mp h1;obtain⟨tt,h4,h1⟩:=aqW.mp h1;obtain⟨te,h5,h1⟩:=aqW.mp h1;obtain⟨hb,h1⟩:=aW.mp h1;cases h1;simp only[aqZ,arj]at hb;obtain⟨b1,b2,b3⟩:=hb;rcases hsw with hsw|hsw
  ·rw[←a.hs]at hsw;obtain⟨l1,l2⟩:=Qy (l:=pos.line) a.kf hsw;exact akp a.calm a.nd s1 l1 l2 (o.oi a.toAmb h2) (by rw[a.hN,a.hs];exact b1) (qm b2) (λs H C cl fp=>vH (a.toAmb.inn scope s H C cl fp) h3) (λs H C cl fp=>wL o (a.toAmb.inn scope s H C cl fp) h4) (λs H C cl fp=>o.oe (a.toAmb.inn scope s H C cl fp) h5) (rN b3)
  ·exact adg a.nd s1 s2 s3 (alf a.calm a.nd (o.oi a.toAmb h2) (by rw[a.hN,a.hs];exact b1) (qm b2) (λs H C cl fp=>vH (a.toAmb.inn scope s H C cl fp) h3) (λs H C cl fp=>wL o (a.toAmb.inn scope s H C cl fp) h4) (λs H C cl fp=>o.oe (a.toAmb.inn scope s H C cl fp) h5) (rN b3)) (adT (by simpa using hsw))
 ·obtain⟨f1,h1,h⟩:=aqW.mp h;cases h;rcases hsw with hsw|hsw
  ·rw[←a.hs]at hsw;obtain⟨l1,l2⟩:=Qy (l:=pos.line) a.kf hsw;unfold X3 at h1;obtain⟨it,h2,h1⟩:=aqW.mp h1;obtain⟨⟨js,tf⟩,h3,h1⟩:=aqW.mp h1;obtain⟨tt,h4,h1⟩:=aqW.mp h1;obtain⟨te,h5,h1⟩:=aqW.mp h1;obtain⟨hb,h1⟩:=aW.mp h1;cases h1;simp only[aqZ,arj]at hb;obtain⟨b1,b2,b3⟩:=hb;exact aiE a.calm a.nd s1 l1 l2 (o.oi a.toAmb h2) (by rw[a.hN,a.hs];exact b1) (qm b2) (λs H C cl fp=>vH (a.toAmb.inn scope s H C cl fp) h3) (λs H C cl fp=>wL o (a.toAmb.inn scope s H C cl fp) h4) (λs H C cl fp=>o.oe (a.toAmb.inn scope s H C cl fp) h5) (rN b3)
  ·exact Y4 (agl (abr o a.toAmb h1)) (Vd a.nd s1 s2 s3) (adT (l:=pos.line) (by simpa using hsw)) (by with_unfolding_all rfl) (by with_unfolding_all rfl)
end
theorem GD{tg e:Expr}{l:Nat}{env:PySem.Env}(h:Fe e=false):swapsWithSole [tg] e l env=pure false:=Gu h
def acs(t:Tr)(s:Ts)(c:Tc):Expr->Expr->Option SF
 |.Name x p,.ListComp elt [⟨tg,iter,ifs,0⟩] scope cpos=>U6 t c x p elt tg iter ifs scope cpos
 |.Name x _,e=>(vX c x).bind λj=>match c.ml.contains x with
  |true=>(trN t c e).bind λf=>some (Jr j f)
  |false=>gd (!Fe e) ((s.G c e).bind λf=>some (aY (aF j) f))
 |.Tuple [.Name x _,.Starred (.Name y _) _] _ _,e=>(vX c x).bind λi=>(vX c y).bind λj=>gd (!Fe e&&!abY e) ((s.G c e).bind λf=>some (QX i j f))
 |.Tuple ts _ _,e=>(Xz c ts).bind λjs=>gd (!Fe e&&!abY e) ((s.G c e).bind λf=>some (aY (bM js) f))
 |_,_=>none
theorem R6{tg e:Expr}{env:PySem.Env}(h:abY e=false):swappedStores [tg] e env=pure none:=by cases tg<;>first | rfl | (cases e<;>first | rfl | cases h)
section
variable{aj:aQ}{c:Tc}{X:Cx}{W:WX}{k:Nat}{t:Tr}{s:Ts}{q:Bool}
theorem afp(o:t.Ok)(os:s.Ok q)(a:u6 aj c X W k){tg e:Expr}{pos:Pos}{f:SF}(h:acs t s c tg e=some f):SE aj X W q (.Assign [tg] e pos) f:=by
 unfold acs at h;split at h
 ·exact ab8 o a h
 ·obtain⟨j,hj,h⟩:=aqW.mp h;obtain⟨s1,s2,s3⟩:=nJ a.toAmb hj;split at h
  ·obtain⟨f1,h1,h⟩:=aqW.mp h;cases h;obtain⟨i1,i2⟩:=adG o a.toAmb h1;exact adg a.nd s1 s2 s3 i1 (Gu i2)
  ·obtain⟨hc,h⟩:=aW.mp h;obtain⟨f1,h1,h⟩:=aqW.mp h;cases h;exact Y4 (os.og a h1) (Vd a.nd s1 s2 s3) (GD (by simpa using hc)) (by with_unfolding_all rfl) (by with_unfolding_all rfl)
 ·obtain⟨i,hi,h⟩:=aqW.mp h;obtain⟨j,hj,h⟩:=aqW.mp h;obtain⟨hc,h⟩:=aW.mp h;obtain⟨f1,h1,h⟩:=aqW.mp h;cases h;simp only[aqZ,arj]at hc;exact ahA a.calm a.nd (nJ a.toAmb hi) (nJ a.toAmb hj) (os.og a h1) (GD hc.1) (R6 hc.2)
 ·obtain⟨js,hj,h⟩:=aqW.mp h;obtain⟨hc,h⟩:=aW.mp h;obtain⟨f1,h1,h⟩:=aqW.mp h;cases h;simp only[aqZ,arj]at hc;exact Y4 (os.og a h1) (adl a.calm a.nd (Uq a.toAmb hj)) (GD hc.1) (R6 hc.2) (by with_unfolding_all rfl)
 ·cases h
end
def acq(s:Ts)(c:Tc):List Stmt->Option SF
 |[]=>some aU
 |[a]=>s.S c a
 |a::b::r=>(s.S c a).bind λf=>(s.B c (b::r)).bind λg=>some (aD f g)
def stS(t:Tr)(s:Ts)(c:Tc):Stmt->Option SF
 |.Assign [tg] e _=>acs t s c tg e
 |.Assign [.Name x _,.Name y _] e _=>(vX c x).bind λi=>(vX c y).bind λj=>gd (!abY e) ((s.G c e).bind λf=>some (Qs i j f))
 |.AugAssign (.Name x _) .Add e _=>(vX c x).bind λj=>(t.E c e).bind λf=>some (Jv j f)
 |.Expr (.Call (.Attribute (.Name x _) m apos) [e] [] pos) _=>(Lq c x).bind λj=>gd (m=="append"&&(c.ml.contains x&&(nst e&&(apos.endLine==pos.line)))) ((t.E c e).bind λf=>some (Ou j f))
 |.Return (some e) _=>(match t.E c e with
  |some f=>some (aR f)
  |none=>(s.G c e).bind λf=>some (iJ f))
 |.If d s1 s2 _=>(s.B c s1).bind λf=>(s.B c s2).bind λg=>match t.T c d with
  |some td=>some (bO td f g)
  |none=>(s.H c d).bind λtd=>some (acy td f g)
 |.For tg iter body [] _=>(t.I c true tg iter).bind λit=>(Wh c tg).bind λjt=>(s.B c body).bind λf=>gd (!zA iter) (some (qw it jt.2 f))
 |_=>none
section
variable{aj:aQ}{c:Tc}{X:Cx}{W:WX}{k:Nat}{t:Tr}{s:Ts}{q:Bool}
theorem aeU(os:s.Ok q)(a:u6 aj c X W k){b:List Stmt}{f:SF}(h:acq s c b=some f):Ep aj X W q b f:=by
 unfold acq at h;split at h
 ·cases h;exact aji
 ·exact akb (os.os a h)
 ·obtain⟨f1,h1,h⟩:=aqW.mp h;obtain⟨f2,h2,h⟩:=aqW.mp h;cases h;exact ahx (os.os a h1) (os.ob a h2)
theorem aj1(o:t.Ok)(os:s.Ok q)(a:u6 aj c X W k){st:Stmt}{f:SF}(h:stS t s c st=some f):SE aj X W q st f:=by
 unfold stS at h;split at h
 ·exact afp o os a h
 ·obtain⟨i,hi,h⟩:=aqW.mp h;obtain⟨j,hj,h⟩:=aqW.mp h;obtain⟨hc,h⟩:=aW.mp h;obtain⟨f1,h1,h⟩:=aqW.mp h;cases h;exact agU a.nd (nJ a.toAmb hi) (nJ a.toAmb hj) (os.og a h1) (by with_unfolding_all rfl)
 ·obtain⟨j,hj,h⟩:=aqW.mp h;obtain⟨f1,h1,h⟩:=aqW.mp h;cases h;obtain⟨s1,s2,s3⟩:=nJ a.toAmb hj;exact ako a.nd s1 s2 s3 (o.oe a.toAmb h1)
 ·obtain⟨j,hj,h⟩:=aqW.mp h;obtain⟨hc,h⟩:=aW.mp h;obtain⟨f1,h1,h⟩:=aqW.mp h;cases h;simp only[aqZ]at hc;cases eq_of_beq hc.1;obtain⟨s1,s2,s3,s4⟩:=Af a.toAmb hj;exact aiO s1 s2 s3 s4 (o.oe a.toAmb h1) hc.2.2.1 hc.2.2.2
 ·split at h
  ·next f1 h1=>
   cases h;exact ak0 (o.oe a.toAmb h1)
  ·obtain⟨f1,h1,h⟩:=aqW.mp h;cases h;exact ag4 (os.og a h1)
 ·obtain⟨f1,h1,h⟩:=aqW.mp h;obtain⟨f2,h2,h⟩:=aqW.mp h;split at h
  ·next td h3=>
   cases h;exact al5 (o.ot a.toAmb h3) (os.ob a h1) (os.ob a h2)
  ·obtain⟨td,h3,h⟩:=aqW.mp h;cases h;exact akh (os.oh a h3) (os.ob a h1) (os.ob a h2)
 ·obtain⟨it,h1,h⟩:=aqW.mp h;obtain⟨⟨js,tf⟩,h2,h⟩:=aqW.mp h;obtain⟨f1,h3,h⟩:=aqW.mp h;obtain⟨hc,h⟩:=aW.mp h;cases h;exact ajV a.ps a.calm (o.oi a.toAmb h1) (vH a.toAmb h2) (os.ob a h3) (rN (by simpa using hc))
 ·cases h
end
abbrev GA:=Mo->Env->bh (List Dat)
def alP:GA:=λM _=>.ok [] M
def ajK(a:GF)(r:GA):GA:=λM Z=>(a M Z).bind λd M1=>(r M1 Z).bind λds M2=>.ok (d::ds) M2
def ajv(m:Mo->List Dat->bh Dat)(as:GA):GF:=λM Z=>(as M Z).bind λds M1=>m M1 ds
def ajw(m:Mo->List Dat->Out Dat)(as:GA):GF:=λM Z=>(as M Z).bind λds M1=>(m M1 ds).at M1
section
variable{X:Cx}{aj:aQ}{W:WX}{q:Bool}{a b e:Expr}{es:List Expr}{pos p:Pos}
variable{x:Str}{k:Nat}{f:Addr}{fd:FuncData}{ps:List Str}
def Xl(a:GT):GT:=λM Z=>(a M Z).bind λb M1=>.ok (!b) M1
def abW(a b:GT):GT:=λM Z=>(a M Z).bind λx M1=>if x=true then b M1 Z else .ok false M1
def afo(a b:GT):GT:=λM Z=>(a M Z).bind λx M1=>if x=true then .ok true M1 else b M1 Z
def Xq(a:GF):GT:=λM Z=>(a M Z).bind λd M1=>(HX d).at M1
theorem ajn{ta:GT}(ha:Fq aj X W q a ta):Fq aj X W q (.UnaryOp .Not a pos) (Xl ta):=
 PT.weak (pt_not ha) λσ H Q ⟨g,Z,M,I,h⟩=>Rv.go I h.bnd λb M' H1 g1 h1 r1 I1=>h1 H1 g1 r1 I1
theorem ajz{rest:List Expr}{ta tb:GT}(ha:Fq aj X W q a ta)(hb:Fq aj X W q (.BoolOp .And (b::rest) pos) tb):Fq aj X W q (.BoolOp .And (a::b::rest) pos) (abW ta tb):=by
 have hb':PW X (.BoolOp .And (b::rest) pos) (Rv X.K aj W q tb):=⟨λwh pins s σ H Q I z=>hb.run pins s σ H Q I z⟩;refine PT.weak (PW.pt (pw_and ha hb')) λσ H Q ⟨g,Z,M,I,h⟩=>?_;refine Rv.go I h.bnd λx M1 H1 g1 h1 r1 I1=>?_;cases x with
 |true=>exact⟨g1,Z,M1,I1,h1.mono (λb M' k H' g' r' I'=>k H' g' (r1.trans r') I') λ_ _ z=>z.gr r1⟩
 |false=>exact h1 H1 g1 r1 I1
theorem alD{rest:List Expr}{ta tb:GT}(ha:Fq aj X W q a ta)(hb:Fq aj X W q (.BoolOp .Or (b::rest) pos) tb):Fq aj X W q (.BoolOp .Or (a::b::rest) pos) (afo ta tb):=by
 have hb':PW X (.BoolOp .Or (b::rest) pos) (Rv X.K aj W q tb):=⟨λwh pins s σ H Q I z=>hb.run pins s σ H Q I z⟩;refine PT.weak (PW.pt (pw_or ha hb')) λσ H Q ⟨g,Z,M,I,h⟩=>?_;refine Rv.go I h.bnd λx M1 H1 g1 h1 r1 I1=>?_;cases x with
 |true=>exact h1 H1 g1 r1 I1
 |false=>exact⟨g1,Z,M1,I1,h1.mono (λb M' k H' g' r' I'=>k H' g' (r1.trans r') I') λ_ _ z=>z.gr r1⟩
theorem aiZ{fa:GF}(ha:GE aj X W q a fa)(he:∀whole,isTrue a X.env whole=(do let v ←whole;standAt a.pos;holding [v] (truthy v))):Fq aj X W q a (Xq fa):=
 PT.weak (pt_truth ha he) λσ H Q ⟨g,Z,M,I,h⟩=>by
  refine tE.go I h.bnd λd M1 v H1 g1 h1 r1 I1 rv=>?_;obtain⟨k,h2,h3⟩:=ac2 rv.weak (Out.iV h1);exact⟨k,h2,h3 H1 g1 r1 I1⟩
end
section
variable{aj:aQ}{c:Tc}{X:Cx}{W:WX}{k:Nat}{t:Tr}{s:Ts}{q:Bool}
def xG(t:Tr)(s:Ts)(c:Tc):Expr->Option GF
 |.Call (.Name x _) [] [] _=>(match c.G.lookup x with
  |some (.cls 0 m)=>gd (GJ c.sc x&&!Gf x) (some (Ax x m au))
  |_=>none)
 |.Call (.Name x _) (e::es) [] _=>(match c.G.lookup x with
  |some (.fg n m)=>gd (GJ c.sc x&&(!Gf x&&decide ((e::es).length=n))) ((JR t c (e::es)).bind λas=>some (DW m as))
  |some (.cls n m)=>gd (GJ c.sc x&&(!Gf x&&decide ((e::es).length=n))) ((JR t c (e::es)).bind λas=>some (Ax x m as))
  |_=>none)
 |.Call (.Attribute o m apos) es [] pos=>(c.hs.Ms.lookup m).bind λtb=>(t.W c o).bind λfo=>(JR t c es).bind λas=>
  gd (tbN tb (es.length+1)&&(baseOk o&&(decide (es.length < 30)&&(apos.endLine==pos.line)))) (some (cQ tb fo as))
 |_=>none
theorem alj(o:t.Ok)(os:s.Ok false)(a:u6 aj c X W k){e:Expr}{f:GF}(h:xG t s c e=some f):GE aj X W false e f:=by
 unfold xG at h;split at h
 ·split at h
  ·next m hl=>
   obtain⟨hb,h⟩:=aW.mp h;cases h;simp only[aqZ,arj]at hb;exact agI a.rm (a.gl _ _ hl) (tZ a.toAmb hb.1) (ux hb.2).1
  ·cases h
 ·split at h
  ·next n m hl=>
   obtain⟨hb,h⟩:=aW.mp h;simp only[aqZ,arj,asj]at hb;obtain⟨b1,b2,b3⟩:=hb;obtain⟨fa,hm,hk,fd,ps,j,hj,hp,hB,F⟩:=a.gl _ _ hl;obtain⟨as,h1,h⟩:=aqW.mp h;cases h;obtain⟨i1,i2,i3⟩:=vK o a.toAmb h1;exact aht a.tk F (a.rm.mono hj) (tZ a.toAmb b1) hm hk hB i1 (b3.trans hp.symm) (ux b2).1 i2 i3
  ·next n m hl=>
   obtain⟨hb,h⟩:=aW.mp h;simp only[aqZ,arj,asj]at hb;obtain⟨b1,b2,b3⟩:=hb;obtain⟨as,h1,h⟩:=aqW.mp h;cases h;obtain⟨i1,i2,i3⟩:=vK o a.toAmb h1;exact ai1 a.rm (a.gl _ _ hl) (tZ a.toAmb b1) (ux b2).1 i1 i2 (λM Z ds z=>by rw[i3 M Z ds z];exact b3)
  ·cases h
 ·next b m apos es pos=>
  obtain⟨tb,h1,h⟩:=aqW.mp h;obtain⟨fo,h2,h⟩:=aqW.mp h;obtain⟨as,h3,h⟩:=aqW.mp h;obtain⟨hb,h⟩:=aW.mp h;cases h;simp only[aqZ,asj]at hb;obtain⟨b2,b3,b4,b5⟩:=hb;obtain⟨i1,i2,i3⟩:=vK o a.toAmb h3;cases es with
  |nil=>
   cases h3;exact afr a.tk a.rm (Xj a.toAmb h1 b2) (o.ow a.toAmb h2) b3 b5
  |cons e es=>exact ahi a.tk a.rm (Xj a.toAmb h1 b2) (o.ow a.toAmb h2) i1 i3 b3 i2 b5 b4
 ·cases h
def xH(s:Ts)(c:Tc):Expr->Option GT
 |.UnaryOp .Not a _=>(s.H c a).bind λf=>some (Xl f)
 |.BoolOp .And (a::b::r) p=>(s.H c a).bind λf=>(s.H c (.BoolOp .And (b::r) p)).bind λg=>some (abW f g)
 |.BoolOp .Or (a::b::r) p=>(s.H c a).bind λf=>(s.H c (.BoolOp .Or (b::r) p)).bind λg=>some (afo f g)
 |.BoolOp _ [a] _=>s.H c a
 |e=>gd (valT e) ((s.G c e).bind λf=>some (Xq f))
theorem alW(os:s.Ok q)(a:u6 aj c X W k){e:Expr}{f:GT}(h:xH s c e=some f):Fq aj X W q e f:=by
 unfold xH at h;split at h
 ·obtain⟨f1,h1,h⟩:=aqW.mp h;cases h;exact ajn (os.oh a h1)
 ·obtain⟨f1,h1,h⟩:=aqW.mp h;obtain⟨f2,h2,h⟩:=aqW.mp h;cases h;exact ajz (os.oh a h1) (os.oh a h2)
 ·obtain⟨f1,h1,h⟩:=aqW.mp h;obtain⟨f2,h2,h⟩:=aqW.mp h;cases h;exact alD (os.oh a h1) (os.oh a h2)
 ·next op _ _=>
  cases op
  ·exact PW.pt (pw_and1 (os.oh a h))
  ·exact PW.pt (pw_or1 (os.oh a h))
 ·obtain⟨hv,h⟩:=aW.mp h;obtain⟨f1,h1,h⟩:=aqW.mp h;cases h;exact aiZ (os.og a h1) (abk hv)
end
section
variable{aj:aQ}{c:Tc}{X:Cx}{W:WX}{k:Nat}{t:Tr}{s:Ts}{q:Bool}
theorem Iu{e o:Expr}{f:Str}{p:Pos}{l:Nat}{env:PySem.Env}:swapsWith e (some (.Attribute o f p)) l env=pure false:=by cases e<;>rfl
theorem afx{e o:Expr}{i:Expr}{p:Pos}{l:Nat}{env:PySem.Env}:swapsWith e (some (.Subscript o i p)) l env=pure false:=by cases e<;>rfl
theorem afd{o:Expr}{f:Str}{p spos:Pos}{i:Expr}{env:PySem.Env}(h:YD i=false):∀v,assign (.Subscript (.Attribute o f p) i spos) env v=(do
   let ov ←holding [v] (eval (.Attribute o f p) env)
   let iv ←holding [v,ov] (eval i env)
   standAt spos
   holding [v,ov,iv] (setItem ov iv v)
   release [v,ov,iv] []):=λv=>by
 cases i<;>first | (with_unfolding_all rfl) | cases h
def ai9(t:Tr)(c:Tc)(kx tg iter:Expr)(scope:Scope):Option (Mo->Env->Out (List (Dat×Dat))):=
 (t.I c false tg iter).bind λit=>(Wh (c.inn scope) tg).bind λjt=>(t.E (c.inn scope) kx).bind λte=>
  gd (blkC c.N c.sc scope (qd tg jt.1)&&(OD jt.1 ((qd tg jt.1).map (·.2))&&!zA iter)) (some (qDc it jt.2 ((qd tg jt.1).map (·.2)) te))
theorem afC(a:Amb aj c X W k):X.A.units+64 < cLine:=by have:=a.rm.un;omega
def afm(t:Tr)(s:Ts)(c:Tc)(o:Expr)(f:Str):Expr->Option SF
 |.Dict [] [] _=>(t.W c o).bind λfo=>(c.hs.df.lookup f).bind λb=>some (MF c.hs.ft fo f b)
 |.DictComp kx (.Constant (.bool true) _ _) [⟨tg,iter,[],0⟩] scope _=>(t.W c o).bind λfo=>(ai9 t c kx tg iter scope).bind λfe=>some (Rg c.hs.ft fo f fe)
 |.List es p=>(t.W c o).bind λfo=>(trN t c (.List es p)).bind λfe=>some (Dy c.hs.ft fo f fe)
 |e=>gd (!Fe e) ((t.W c o).bind λfo=>(s.G c e).bind λfe=>some (uN c.hs.ft fo f fe))
theorem ahm(ot:t.Ok)(os:s.Ok false)(a:u6 aj c X W k){o e:Expr}{f:Str}{p pos:Pos}{sf:SF}(h:afm t s c o f e=some sf):SE aj X W false (.Assign [.Attribute o f p] e pos) sf:=by
 have hk:=a.hk;unfold afm at h;split at h
 ·obtain⟨fo,h1,h⟩:=aqW.mp h;obtain⟨b,h2,h⟩:=aqW.mp h;cases h;exact ahY hk.co hk.fk hk.hw (ot.ow a.toAmb h1) Iu
 ·obtain⟨fo,h1,h⟩:=aqW.mp h;obtain⟨fe,h2,h⟩:=aqW.mp h;cases h;unfold ai9 at h2;obtain⟨it,i1,h2⟩:=aqW.mp h2;obtain⟨⟨js,tf⟩,i2,h2⟩:=aqW.mp h2;obtain⟨te,i3,h2⟩:=aqW.mp h2;obtain⟨hb,h2⟩:=aW.mp h2;cases h2;simp only[aqZ,arj]at hb;obtain⟨b1,b2,b3⟩:=hb;exact ahf hk.co hk.fk (ot.ow a.toAmb h1) (ajC (g:=zW X.K aj js tf) (tk:=tQ X.K aj WF te) a.calm a.nd (afC a.toAmb) (ot.oi a.toAmb i1) (blkOk_by (by rw[a.hN,a.hs];exact b1)) (λs H C cl fp=>vH (a.toAmb.inn _ s H C cl fp) i2) (λs H C cl fp=>ot.oe (a.toAmb.inn _ s H C cl fp) i3) (rN b3)) (λσ H Q z=>aly hk.hw (qm b2) σ H Q z) Iu
 ·obtain⟨fo,h1,h⟩:=aqW.mp h;obtain⟨fe,h2,h⟩:=aqW.mp h;cases h;exact ain hk.co hk.fk (ot.ow a.toAmb h1) (adG ot a.toAmb h2).1 Iu
 ·obtain⟨hc,h⟩:=aW.mp h;obtain⟨fo,h1,h⟩:=aqW.mp h;obtain⟨fe,h2,h⟩:=aqW.mp h;cases h;exact ahI hk.co hk.fk (ot.ow a.toAmb h1) (os.og a h2) Iu
def XQ(n:Str):List Expr->Option (List Str)
 |[]=>some []
 |.Attribute (.Name m _) f _::es=>gd (m==n) ((XQ n es).bind λfs=>some (f::fs))
 |_=>none
def acd(nm:Option Str):Expr->Option Et
 |.Constant (.str x) _ _=>some (.con (.str x))
 |.Constant .none _ _=>some (.con .none)
 |.Tuple [] _ _=>some (.con (.tuple []))
 |.Attribute (.Name m _) f _=>nm.bind λn=>gd (m==n) (some (.fld f))
 |.Tuple es _ _=>nm.bind λn=>(XQ n es).bind λfs=>some (.flds fs)
 |_=>none
def Et.fs:Et->List Str
 |.con _=>[]
 |.fld f=>[f]
 |.flds fs=>fs
def abK(c:Tc)(nm:Option Str):List Stmt->Option (List (Nat×Et))
 |[]=>some []
 |.Assign [.Name x _] e _::r=>(vX c x).bind λj=>(acd nm e).bind λse=>(abK c nm r).bind λst=>some ((j,se)::st)
 |_=>none
def Ve(c:Tc):Option Str->Option (Option Nat)
 |none=>some none
 |some n=>(Lq c n).bind λi=>match c.sc.names.lookup n with
  |some .local=>some (some i)
  |_=>none
def akn(c:Tc):ExceptHandler->Option Hd
 |.ExceptHandler (some (.Name y _)) nm (s0::su) _=>(c.hs.xm.lookup y).bind λtab=>(Ve c nm).bind λi=>(abK c nm (s0::su)).bind λst=>
  (match c.G.lookup y with
  |some .exc=>some true
  |some (.exi _)=>some true
  |_=>none).bind λ_=>
  gd (GJ c.sc y&&(!Gf y&&(st.all (λp=>match i with
   |some j=>!(j==p.1)
   |none=>true)&&st.all (λp=>p.2.fs.all (λf=>((c.hs.xf.lookup y).getD []).contains f)&&decide (p.2.fs.length<=100))))) (some ⟨y,λx=>tab.lookup x,i,st⟩)
 |_=>none
def Xr(c:Tc):List ExceptHandler->Option (List Hd)
 |[]=>some []
 |h::hs=>(akn c h).bind λd=>(Xr c hs).bind λds=>some (d::ds)
theorem abG{y n:Str}{C:Addr}{a:Addr}{oe:Obj}{cls:Value}{d:Option Addr}{pn:List (Addr×Obj)}{j:Nat}{fl:List Str}(hC:aj y=some C)(T:XfC X.K C)(hno:∀f∈fl,PySem.W.findIn X.K (.ref C) f=some none)(hz:Zc cls d oe)(hf:∃vs,oe.data=.fields vs)(hN:X.N[j]?=some n)(hv:Vis X.env.scope n)(hd:(n==("__debug__" : Str))=false)(hcd:(n==("__classdict__" : Str))=false) :
  ∀{es:List Expr} {fs:List Str},XQ n es=some fs->(∀f∈fs,f∈fl)->PA (X.suite a ((a,oe)::pn)) es (tUA X.K aj a cls d (some j) λx=>RN y x fs)
 |[],fs,h,_=>by
  cases h;exact ac1
 |.Attribute (.Name m p) f p2::es,fs,h,hs=>by
  rw[XQ]at h;obtain⟨hm,h⟩:=aW.mp h;obtain⟨fr,h1,h⟩:=aqW.mp h;cases h;cases eq_of_beq hm;exact ahG (adn hC T (hno f (hs f aq4)) hz hf hN hv hd hcd) (abG hC T hno hz hf hN hv hd hcd h1 λf hf=>hs f (aq3 _ hf)) rfl
theorem ahr{y:Str}{nm:Option Str}{i:Option Nat}{a:Addr}{oe:Obj}{cls:Value}{d:Option Addr}{pn:List (Addr×Obj)}{e:Expr}{se:Et}(am:Amb aj c X W k)(hi:Ve c nm=some i)(hy:(c.hs.xf.lookup y).getD []=fl)(hfl:∀f∈se.fs,f∈fl)(hl:se.fs.length<=100)(hz:Zc cls d oe)(hf:∃vs,oe.data=.fields vs)(h:acd nm e=some se) :
  PE (X.suite a ((a,oe)::pn)) e (tU X.K aj a cls d i λx=>Yd y x se):=by
 have fld:∀n j,nm=some n->i=some j->X.N[j]?=some n/\Vis X.env.scope n/\(n==("__debug__" : Str))=false/\(n==("__classdict__" : Str))=false:=λn j e1 e2=>by
  subst e1 e2;unfold Ve at hi;obtain⟨j',h1,hi⟩:=aqW.mp hi;split at hi
  ·cases hi;exact Af am h1
  ·cases hi
 have hsome:∀n,nm=some n->∃j,i=some j:=λn e1=>by
  subst e1;unfold Ve at hi;obtain⟨j',h1,hi⟩:=aqW.mp hi;split at hi
  ·cases hi;exact⟨_,rfl⟩
  ·cases hi
 have hxf:fl≠[]->∃C,aj y=some C/\XfC X.K C/\∀f∈fl,PySem.W.findIn X.K (.ref C) f=some none:=λne=>by
  cases hx:c.hs.xf.lookup y with
  |none=>
   rw[hx]at hy;exact absurd hy.symm ne
  |some l=>
   rw[hx]at hy;cases hy;exact am.hk.xf y _ hx
 unfold acd at h;split at h
 ·cases h;exact adL pe_str λσ H Q ⟨g,Z,M,x,z,I,e,kk⟩=>by
   cases e;exact kk _ H (Ex.refl H) (.str _)
 ·cases h;exact adL pe_non λσ H Q ⟨g,Z,M,x,z,I,e,kk⟩=>by
   cases e;exact kk _ H (Ex.refl H) .non
 ·cases h;exact PE.weak (adW (aj:=aj) (cls:=cls) (d:=d) (i:=i) ac1 λx zs e=>by cases e;exact arK _) λσ H Q z=>z
 ·obtain⟨n,e1,h⟩:=aqW.mp h;obtain⟨hm,h⟩:=aW.mp h;cases h;cases eq_of_beq hm;obtain⟨j,rfl⟩:=hsome _ e1;obtain⟨f1,f2,f3,f4⟩:=fld _ j e1 rfl;obtain⟨C,c1,c2,c3⟩:=hxf (List.ne_nil_of_mem (hfl _ (aq5.mpr rfl)));exact adn c1 c2 (c3 _ (hfl _ (aq5.mpr rfl))) hz hf f1 f2 f3 f4
 ·next es _ _ hne=>
  obtain⟨n,e1,h⟩:=aqW.mp h;obtain⟨fs,e2,h⟩:=aqW.mp h;cases h;obtain⟨j,rfl⟩:=hsome _ e1;obtain⟨f1,f2,f3,f4⟩:=fld _ j e1 rfl;have hfs:fs≠[]:=λz=>by
   subst z
   match es,e2 with
   |[],_=>exact hne rfl
   |.Attribute (.Name m _) f _::es,e2=>
    rw[XQ]at e2;obtain⟨_,e2⟩:=aW.mp e2;obtain⟨_,_,e2⟩:=aqW.mp e2;cases e2
  have hfn:fl≠[]:=by
   cases fs with
   |nil=>exact absurd rfl hfs
   |cons f r=>exact List.ne_nil_of_mem (hfl f aq4)
  obtain⟨C,c1,c2,c3⟩:=hxf hfn;exact adW (abG c1 c2 c3 hz hf f1 f2 f3 f4 e2 hfl) λx zs e=>by
   have:=Vm e;have hl:fs.length<=100:=hl;omega
 ·cases h
theorem Uk{y:Str}{nm:Option Str}{i:Option Nat}{a:Addr}{oe:Obj}{cls:Value}{d:Option Addr}{pn:List (Addr×Obj)}{fl:List Str}(am:Amb aj c X W k)(hi:Ve c nm=some i)(hy:(c.hs.xf.lookup y).getD []=fl)(hz:Zc cls d oe)(hf:∃vs,oe.data=.fields vs) :
  ∀{ss:List Stmt} {st:List (Nat×Et)},abK c nm ss=some st->(∀p∈st,(∀f∈p.2.fs,f∈fl)/\p.2.fs.length<=100)->PSs (X.suite a ((a,oe)::pn)) ss (tSu X.K aj a cls d i y st)
 |[],st,h,_=>by
  cases h;exact PSs.weak pss_nil λD σ H z=>akI z
 |.Assign [.Name x p] e p2::r,st,h,hs=>by
  rw[abK]at h;obtain⟨j,h1,h⟩:=aqW.mp h;obtain⟨se,h2,h⟩:=aqW.mp h;obtain⟨st',h3,h⟩:=aqW.mp h;cases h;obtain⟨s1,s2,s3⟩:=nJ am h1;obtain⟨u1,u2⟩:=hs (j,se) aq4;have he:=ahr (a:=a) (pn:=pn) am hi hy u1 u2 hz hf h2;have hne:Fe e=false/\swappedStores [.Name x p] e X.env=pure none:=by unfold acd at h2;split at h2<;>first | exact⟨rfl,rfl⟩ | cases h2
  refine PSs.weak (pss_cons (ps_asg he (pg_name (X:=X.suite a ((a,oe)::pn)) am.nd s1 s2 s3) (GD hne.1) hne.2 (by with_unfolding_all rfl)) (Uk am hi hy hz hf h3 λp hp=>hs p (aq3 _ hp))) λD σ H z=>?_;exact akx z λσ' H' z'=>z'
def anA(aj:aQ)(K:aqX)(h:Hd)(D:Addr):Cl:=⟨.ref D,h.nm,λa cls d=>tSu K aj a cls d h.nm h.y h.st⟩
theorem X8(am:Amb aj c X W k):∀{hds:List ExceptHandler} {hs:List Hd},Xr c hds=some hs->∃ls,BX X hds ls/\Gg X.K aj hs ls
 |[],hs,h=>by
  cases h;exact⟨[],.nil,.nil⟩
 |h0::hds,hs,h=>by
  rw[Xr]at h;obtain⟨d,h1,h⟩:=aqW.mp h;obtain⟨ds,h2,h⟩:=aqW.mp h;cases h;obtain⟨ls,i1,i2⟩:=X8 am h2;unfold akn at h1;split at h1
  ·next y np nm s0 su cp=>
   obtain⟨tab,j1,h1⟩:=aqW.mp h1;obtain⟨i,j2,h1⟩:=aqW.mp h1;obtain⟨st,j3,h1⟩:=aqW.mp h1;obtain⟨_,j4,h1⟩:=aqW.mp h1;obtain⟨hb,h1⟩:=aW.mp h1;cases h1;simp only[aqZ,arj]at hb;obtain⟨b1,b2,b3,b4⟩:=hb;obtain⟨⟨D,hD⟩,hx⟩:=am.hk.xm y tab j1;have hm:X.mg y=some (.ref D):=by
    split at j4
    ·next hl=>
     obtain⟨C,g1,g2,_⟩:=am.gl y _ hl;rw[hD]at g2;cases g2;exact g1
    ·next hl=>
     obtain⟨C,fI,fd,ps,g1,g2,_⟩:=am.gl y _ hl;rw[hD]at g2;cases g2;exact g1
    ·cases j4
   have hnames:Names X y (.ref D):=⟨tZ am b1,(ux b2).1,.inl hm⟩;have hst:∀p∈st,(∀f∈p.2.fs,f∈(c.hs.xf.lookup y).getD [])/\p.2.fs.length<=100:=λp hp=>by
    have:=aro.mp b4 p hp;rw[aqZ,asj]at this;exact⟨λf hf=>by simpa using aro.mp this.1 f hf,this.2⟩
   have hnj:∀p∈st,i≠some p.1:=λp hp z=>by
    subst z;have:=aro.mp b3 p hp;simp at this
   refine⟨anA aj X.K ⟨y,λx=>tab.lookup x,i,st⟩ D::ls,?_,.cons ⟨⟨D,hD,rfl⟩,hx,rfl,rfl,hnj⟩ i2⟩;cases nm with
   |none=>
    cases j2;exact .one hnames rfl (λa oe cls d pn hz hf=>Uk am rfl rfl hz hf j3 hst) i1
   |some n=>
    have j2':=j2;unfold Ve at j2;obtain⟨i',s1,j2⟩:=aqW.mp j2;split at j2
    ·next hloc=>
     cases j2;refine .as hnames rfl (Af am s1).1 ?_ (λa oe cls d pn hz hf=>Uk am j2' rfl hz hf j3 hst) i1;unfold PySem.Env.kindOf;rw[am.hs];exact hloc
    ·cases j2
  ·cases h1
theorem u6.tr(a:u6 aj c X W k){W':WX}{pn:List (Addr×Obj)}{xe:Value->Shared->Prop}(t:Takes (X.tr pn xe) W')(p:PassesOwn (model X.prog X.w) X.A X.env xe):u6 aj c (X.tr pn xe) W' k where
 hN:=a.hN
 hs:=a.hs
 calm:=a.calm
 nd:=a.nd
 tk:=t
 rm:=a.rm
 gl:=a.gl
 bl:=a.bl
 fn:=a.fn
 hk:=a.hk
 ps:=p
 st:=a.st
 fr:=a.fr
 kf:=a.kf
def xS(q:Bool)(t:Tr)(s:Ts)(c:Tc):Stmt->Option SF
 |.Raise (some (.Call (.Name x _) [] [] _)) none _=>(match c.G.lookup x with
  |some .exc=>gd (GJ c.sc x&&!Gf x) (some (eY x))
  |_=>none)
 |.Raise (some (.Call (.Name x _) (e::es) [] _)) none _=>(match c.G.lookup x with
  |some (.exi fs)=>(JR t c (e::es)).bind λas=>gd (GJ c.sc x&&(!Gf x&&(decide ((e::es).length=fs.length)&&decide (fs.length<=1000)))) (some (Cj x fs as))
  |_=>none)
 |.Try body (h::hds) [] [] _=>(s.B c body).bind λf=>(Xr c (h::hds)).bind λhs=>some (Uc f hs)
 |.Pass _=>some aU
 |.Expr (.Call (.Attribute (.Attribute o f p1) m apos) [e] [] pos) epos=>(match q with
  |true=>(s.G c (.Call (.Attribute (.Attribute o f p1) m apos) [e] [] pos)).bind λf=>some (cG f)
  |false=>match m=="append" with
   |true=>gd (baseOk o&&(nst e&&(apos.endLine==pos.line))) ((t.W c o).bind λfo=>(s.G c e).bind λfe=>some (Eo f fo fe))
   |false=>(s.G c (.Call (.Attribute (.Attribute o f p1) m apos) [e] [] pos)).bind λf=>some (cG f))
 |.Expr e _=>gd (!Fe e) ((s.G c e).bind λf=>some (cG f))
 |.Assign [.Name x p] (.ListComp elt [⟨tg,iter,ifs,0⟩,⟨tg1,iter1,ifs1,0⟩] scope cpos) _=>(vX c x).bind λj=>
  gd (swB c.sc (.ListComp elt [⟨tg,iter,ifs,0⟩,⟨tg1,iter1,ifs1,0⟩] scope cpos) scope x p&&!c.ml.contains x) ((Qm t c elt tg iter ifs tg1 iter1 ifs1 scope).bind λf=>some (aY (aF j) (gOf f)))
 |.Assign [.Attribute o f _] e _=>(match q with
  |true=>none
  |false=>afm t s c o f e)
 |.Assign [.Subscript (.Attribute o f _) i _] e _=>(match q with
  |true=>none
  |false=>gd (baseOk o&&(!YD i&&!Fe e)) ((t.W c o).bind λfo=>(t.E c i).bind λfi=>(t.E c e).bind λfe=>match c.hs.df.lookup f with
   |some _=>some (Nf f fo fi fe)
   |none=>some (QV f fo fi fe)))
 |.AugAssign (.Attribute o f _) .Add e _=>(match q with
  |true=>none
  |false=>(t.W c o).bind λfo=>(t.E c e).bind λfe=>some (RG c.hs.ft f fo fe))
 |.Delete [.Subscript (.Attribute o f _) i _] _=>(match q with
  |true=>none
  |false=>gd (baseOk o) ((t.W c o).bind λfo=>(t.E c i).bind λfi=>some (M7 f fo fi)))
 |_=>none
theorem alF(o:t.Ok)(os:s.Ok q)(a:u6 aj c X W k){st:Stmt}{f:SF}(h:xS q t s c st=some f):SE aj X W q st f:=by
 have hk:=a.hk;unfold xS at h;split at h
 ·split at h
  ·next hl=>
   obtain⟨hb,h⟩:=aW.mp h;cases h;simp only[aqZ,arj]at hb;exact afM a.calm a.tk (tZ a.toAmb hb.1) (ux hb.2).1 (a.gl _ _ hl)
  ·cases h
 ·split at h
  ·next fs hl=>
   obtain⟨as,h1,h⟩:=aqW.mp h;obtain⟨hb,h⟩:=aW.mp h;cases h;simp only[aqZ,arj,asj]at hb;obtain⟨b1,b2,b3,b4⟩:=hb;obtain⟨i1,i2,i3⟩:=vK o a.toAmb h1;exact acL a.calm a.tk a.rm (tZ a.toAmb b1) (ux b2).1 (a.gl _ _ hl) i1 i2 (λM Z ds z=>by rw[i3 M Z ds z];exact b3) b4
  ·cases h
 ·obtain⟨f1,h1,h⟩:=aqW.mp h;obtain⟨hs,h2,h⟩:=aqW.mp h;cases h;obtain⟨ls,i1,i2⟩:=X8 a.toAmb h2;exact ak1 a.st a.fr a.nd a.tk (λW' pn xe t p=>os.ob (a.tr t p) h1) i1 i2
 ·cases h;exact PS.weak ps_pass λD σ H ⟨g,Z,M,I,z⟩=>z σ H g .refl I
 ·split at h
  ·obtain⟨f1,h1,h⟩:=aqW.mp h;cases h;exact Ug (os.og a h1) (Gu rfl)
  ·split at h
   ·next hm=>
    obtain⟨hb,h⟩:=aW.mp h;obtain⟨fo,h1,h⟩:=aqW.mp h;obtain⟨fe,h2,h⟩:=aqW.mp h;cases h;simp only[aqZ]at hb;cases eq_of_beq hm;exact aha hk.co (o.ow a.toAmb h1) hb.1 (os.og a h2) hb.2.1 hb.2.2
   ·obtain⟨f1,h1,h⟩:=aqW.mp h;cases h;exact Ug (os.og a h1) (Gu rfl)
 ·obtain⟨hb,h⟩:=aW.mp h;obtain⟨f1,h1,h⟩:=aqW.mp h;cases h;exact Ug (os.og a h1) (Gu (by simpa using hb))
 ·obtain⟨j,hj,h⟩:=aqW.mp h;obtain⟨hsw,h⟩:=aW.mp h;rw[aqZ]at hsw;obtain⟨f1,h1,h⟩:=aqW.mp h;cases h;obtain⟨s1,s2,s3⟩:=nJ a.toAmb hj;have hsw:=hsw.1;rw[←a.hs]at hsw;have l1:=(Qy (l:=0) a.kf hsw).1;have l2:=λl=>(Qy (l:=l) a.kf hsw).2;clear h;unfold Qm at h1;obtain⟨it,g1,h⟩:=aqW.mp h1;obtain⟨⟨js,tf⟩,h2,h⟩:=aqW.mp h;obtain⟨tt,h3,h⟩:=aqW.mp h;obtain⟨it1,h4,h⟩:=aqW.mp h;obtain⟨⟨js1,tf1⟩,h5,h⟩:=aqW.mp h;obtain⟨tt1,h6,h⟩:=aqW.mp h;obtain⟨te,h7,h⟩:=aqW.mp h;obtain⟨hb,h⟩:=aW.mp h;cases h;simp only[aqZ,arj]at hb;obtain⟨b1,b2,b3,b4,b5,b6⟩:=hb;have am:=a.toAmb;exact ahQ a.calm a.nd s1 l1 (l2 _) (o.oi am g1) (by rw[a.hN,a.hs];exact b1) (qm b2) (qm b3) (qm b4) (λs H C cl fp=>vH (am.inn _ s H C cl fp) h2) (λs H C cl fp=>wL o (am.inn _ s H C cl fp) h3) (λs H C cl fp=>o.oi (am.inn _ s H C cl fp) h4) (λs H C cl fp=>vH (am.inn _ s H C cl fp) h5) (λs H C cl fp=>wL o (am.inn _ s H C cl fp) h6) (λs H C cl fp=>o.oe (am.inn _ s H C cl fp) h7) (rN b5) (λenv=>rN b6)
 ·split at h
  ·cases h
  ·exact ahm o os a h
 ·split at h
  ·cases h
  ·obtain⟨hb,h⟩:=aW.mp h;obtain⟨fo,h1,h⟩:=aqW.mp h;obtain⟨fi,h2,h⟩:=aqW.mp h;obtain⟨fe,h3,h⟩:=aqW.mp h;simp only[aqZ,arj]at hb;obtain⟨b1,b2,b3⟩:=hb;split at h
   ·cases h;exact ail hk.co hk.hw (afC a.toAmb) (o.ow a.toAmb h1) b1 (o.oe a.toAmb h2) (o.oe a.toAmb h3) afx
   ·cases h;exact ag9 hk.co (o.ow a.toAmb h1) b1 (o.oe a.toAmb h3) (o.oe a.toAmb h2) (afd b2) (GD b3) (by with_unfolding_all rfl)
 ·split at h
  ·cases h
  ·obtain⟨fo,h1,h⟩:=aqW.mp h;obtain⟨fe,h2,h⟩:=aqW.mp h;cases h;exact ahs hk.co hk.fk (o.ow a.toAmb h1) (o.oe a.toAmb h2)
 ·split at h
  ·cases h
  ·obtain⟨hb,h⟩:=aW.mp h;obtain⟨fo,h1,h⟩:=aqW.mp h;obtain⟨fi,h2,h⟩:=aqW.mp h;cases h;exact ahN hk.co hk.hw (afC a.toAmb) (o.ow a.toAmb h1) hb (o.oe a.toAmb h2)
 ·cases h
end
def tr0:Tr:=⟨λ_ _=>none,λ_ _=>none,λ_ _=>none,λ_ _ _ _=>none⟩
def aiD(t:Tr):Tr:=⟨xtE t,xtW t,xtT t,xtI t⟩
def tr:Nat->Tr
 |0=>tr0
 |n+1=>aiD (tr n)
theorem zF:∀n,(tr n).Ok
 |0=>⟨λ_=>(by intro _ _ h;cases h),λ_=>(by intro _ _ h;cases h),λ_=>(by intro _ _ h;cases h),λ_=>(by intros;rename_i h;cases h)⟩
 |n+1=>⟨λa=>(by intro _ _ h;exact(wC h).elim (alm (zF n) a) (ait (zF n) a)),λa=>(by intro _ _ h;exact(wC h).elim (alL (zF n) a) (akq (zF n) a)),λa=>(by intro _ _ h;exact(wC h).elim (alJ (zF n) a) (ajc (zF n) a)),λa=>(by intro _ _ _ _ h;exact(wC h).elim (amb (zF n) a) (akj (zF n) a))⟩
def ts0:Ts:=⟨λ_ _=>none,λ_ _=>none,λ_ _=>none,λ_ _=>none⟩
def ldG(q:Bool)(t:Tr)(s:Ts)(c:Tc)(e:Expr):Option GF:=match q with
 |true=>none
 |false=>xG t s c e
def ldH(q:Bool)(s:Ts)(c:Tc)(e:Expr):Option GT:=match q with
 |true=>none
 |false=>xH s c e
def ajU(q:Bool)(t:Tr)(s:Ts):Ts:=⟨λc e=>els ((t.E c e).bind λf=>some (gOf f)) (ldG q t s c e),λc e=>els ((t.T c e).bind λf=>some (ae8 f)) (ldH q s c e),λc e=>els (stS t s c e) (xS q t s c e),acq s⟩
def ts(q:Bool)(t:Tr):Nat->Ts
 |0=>ts0
 |n+1=>ajU q t (ts q t n)
theorem Io{t:Tr}(o:t.Ok)(q:Bool):∀n,(ts q t n).Ok q
 |0=>⟨λ_=>(by intro _ _ h;cases h),λ_=>(by intro _ _ h;cases h),λ_=>(by intro _ _ h;cases h),λ_=>(by intros;rename_i h;cases h)⟩
 |n+1=>⟨λa=>by
   intro _ _ h;rcases wC h with h|h
   ·obtain⟨f,h1,h⟩:=aqW.mp h;cases h;exact agl (o.oe a.toAmb h1)
   ·cases q with
    |true=>cases h
    |false=>exact alj o (Io o false n) a h,λa=>by
   intro _ _ h;rcases wC h with h|h
   ·obtain⟨f,h1,h⟩:=aqW.mp h;cases h;exact alh (o.ot a.toAmb h1)
   ·cases q with
    |true=>cases h
    |false=>exact alW (Io o false n) a h,λa=>by
   intro _ _ h;rcases wC h with h|h
   ·exact aj1 o (Io o q n) a h
   ·exact alF o (Io o q n) a h,λa=>by
   intro _ _ h;exact aeU (Io o q n) a h⟩
def rd(c:Tc)(b:List Stmt):Option SF:=(ts true (tr 40) 60).B c b
def rdG(c:Tc)(b:List Stmt):Option SF:=(ts false (tr 40) 60).B c b
def Df(P:Program)(w:World)(K:aqX)(mg:Str->Option Value)(base:Heap)(aj:aQ)(k:Nat):List (Str×GV)->Prop
 |[]=>True
 |(x,v)::r=>bA P w K mg base aj k x v/\Df P w K mg base aj k r
def CN(mg:Str->Option Value):List Str->Prop
 |[]=>True
 |x::r=>mg x=none/\CN mg r
section
variable{P:Program}{w:World}{K:aqX}{mg:Str->Option Value}{base:Heap}{aj:aQ}{k:Nat}
theorem Df.get:∀{G:List (Str×GV)},Df P w K mg base aj k G->∀x v,G.lookup x=some v->bA P w K mg base aj k x v
 |[],_,x,v,h=>nomatch h
 |(y,u)::r,g,x,v,h=>by
  rw[aru]at h;split at h
  ·next e=>
   cases h;rw[eq_of_beq e];exact g.1
  ·exact g.2.get x v h
theorem CN.get:∀{B:List Str},CN mg B->∀x,x∈B->mg x=none
 |[],_,x,h=>nomatch h
 |y::r,g,x,h=>by
  rcases arh.mp h with rfl|h
  ·exact g.1
  ·exact g.2.get x h
theorem adi{qual:Str}{st:Stmt}{f:Addr}{N ps ml B:List Str}{G:List (Str×GV)}{Ms:Hs}(S:FnScope N ps (defScope st))(g:Df P w K mg base aj k G)(b:CN mg B)(hh:Tq P w K mg base aj k Ms)
  (cdv:Value) (A:Around) (outer:List PySem.Env) (s:Shared) (H:Hp) (E:XK) (hr:Room k (A.deeper (envOfC qual (defScope st) s.heap.objs.size f cdv))) :
  u6 aj ⟨N,defScope st,G,B,Ms,ml,true⟩ (cxOf (L2.CX P w) P w K mg base N qual (defScope st) f cdv A outer s H E) (afs E) k where
 hN:=rfl
 hs:=rfl
 calm:=rfl
 nd:=S.nd
 tk:=takes_of rfl rfl rfl rfl
 rm:=hr
 gl:=g.get
 bl:=b.get
 fn:=λ_ _=>rfl
 hk:=hh
 ps:=passes_of rfl
 st:=rfl
 fr:=rfl
 kf:=S.kind
theorem Z5{x qual:Str}{st:Stmt}{f:Addr}{fd:FuncData}{N ps ml B:List Str}{G:List (Str×GV)}{Ms:Hs}{body:SF}(F:Fun K x qual st f fd)(S:FnScope N ps (defScope st))(g:Df P w K mg base aj k G)(b:CN mg B)(hh:Tq P w K mg base aj k Ms)
  (h:rd ⟨N,defScope st,G,B,Ms,ml,true⟩ (defBody st)=some body):FnOk P w K mg base (L2.CX P w) (k+1) f fd ps (Vw K aj ps.length (mQ N.length body)):=
 am0 F S λcdv A outer s H E hr=>(Io (zF 40) true 60).ob (adi S g b hh cdv A outer s H E hr) h
theorem SQ{x qual:Str}{st:Stmt}{f:Addr}{fd:FuncData}{N ps ml B:List Str}{G:List (Str×GV)}{Ms:Hs}{body:SF}(F:Fun K x qual st f fd)(S:FnScope N ps (defScope st))(g:Df P w K mg base aj k G)(b:CN mg B)(hh:Tq P w K mg base aj k Ms)
  (h:rdG ⟨N,defScope st,G,B,Ms,ml,true⟩ (defBody st)=some body):FnOk P w K mg base (L2.CX P w) (k+1) f fd ps (JG K aj ps.length (mG N.length body)):=
 amK F S λcdv A outer s H E hr=>(Io (zF 40) false 60).ob (adi S g b hh cdv A outer s H E hr) h
theorem ajf{f:Addr}{fd:FuncData}{ps:List Str}{j:Nat}:FnOk P w K mg base (L2.CX P w) j f fd ps (Vw K aj ps.length λ_ _=>.bad):=
 ⟨λvs H Q E h=>h.1,λA outer s H args us vs Q E _ _ _ _ h=>by
  obtain⟨_,g,M,ds,_,_,_,z⟩:=h;exact asi z⟩
theorem afX{x:Str}{f:Addr}{fd:FuncData}{ps:List Str}{j:Nat}{m:Mo->List Dat->Out Dat}(hj:j<=k)(hg:mg x=some (.ref f))(hk:PySem.W.keepIn K (.ref f)=true)(hB:Binds K fd ps [])(F:FnOk P w K mg base (L2.CX P w) j f fd ps (Vw K aj ps.length m)):bA P w K mg base aj k x (.fq ps.length m):=
 ⟨f,hg,hk,fd,ps,j,hj,rfl,hB,F⟩
theorem LC{x:Str}{i:Int}{t:Tok}(h:mg x=some (.int i t)):bA P w K mg base aj k x (.con (.int i)):=⟨.int i,_,h,⟨t,rfl⟩,λ_ _=>.int i⟩
theorem Vn{g:Gh}{H:Hp}:∀{vs:List V} {ds:List Dat},(vs.zip ds).all (λp=>match p with
  |(.int i,.int j)=>decide (i=j)
  |(.str x,.str y)=>decide (x=y)
  |_=>false)=true->vs.length=ds.length->aK K g H vs ds
 |[],[],_,_=>.nil
 |[],_::_,_,h=>nomatch h
 |_::_,[],_,h=>nomatch h
 |v::vs,d::ds,h,hl=>by
  rw[arS,arJ,aqZ]at h;refine .cons ?_ (Vn h.2 (ase hl));have h1:=h.1;split at h1
  ·next e=>cases e;cases asl h1;exact .int _
  ·next e=>cases e;cases asl h1;exact .str _
  ·cases h1
theorem adP{x:Str}{a:Addr}{vs:List V}{ds:List Dat}(h:mg x=some (.ref a))(q:∀H:Hp,SqT K H a vs)(hf:(vs.zip ds).all (λp=>match p with
  |(.int i,.int j)=>decide (i=j)
  |(.str x,.str y)=>decide (x=y)
  |_=>false)=true) (hl:vs.length=ds.length):bA P w K mg base aj k x (.con (.tuple ds)):=⟨.ref a,_,h,rfl,λ_ H=>.tup (q H) (Vn hf hl)⟩
end
open PySem PySem.Spec PyProof.Rows L2
section
variable{fa:List He.Fa}{fn:List He.DefD}{tb:List He.Tab}{ex:aqX->Bool}{w:World}{K:aqX}
theorem M9.pH(c:M9 fa fn tb ex w K)(i:Nat){f:He.Fa}(h:fa[i]?=some f:=by rfl):f.ok K=true:=c.t.d.fact i h
theorem M9.V1(c:M9 fa fn tb ex w K)(i:Nat){d:He.DefD}(h:fn[i]?=some d:=by rfl):∃fd,FunD K d.name d.qual d.params d.body d.scope (d.dvs K) (d.kws K) (He.fAd K d.at_) fd:=c.t.d.def_ i h
theorem Em{x qual:Str}{st:Stmt}{f:Addr}{fd:FuncData}(F:FunD K x qual (defArgs st) (defBody st) (defScope st) [] [] f fd):L2.Fun K x qual st f fd:=by
 obtain⟨oc,od,dV,kV,doc,pm,an,cdv,ct,osl,e,l,c,hd,_⟩:=F.ex;rcases hd with⟨_,z⟩|⟨z,_⟩
 ·cases z;exact⟨⟨oc,od,kV,doc,pm,an,cdv,ct,osl,e,l,c⟩,F.kp⟩
 ·exact absurd rfl z
end
def g0:Gh:=⟨[],λ_=>none,λ_=>False,λ_=>False⟩
theorem ajA(a:Addr):¬g0.A a:=λz=>by
 rcases z with(z|z)|z|z
 ·cases z
 ·exact z rfl
 ·exact z
 ·exact z
theorem alA{H:Hp}:Kd g0 H:=⟨λa z=>absurd z (ajA a),λa z=>asi z,λa z=>asi z⟩
theorem aje{K:aqX}{aj:aQ}{H:Hp}(nc:aj ""=none):fZ K aj g0 H []:=⟨rfl,λh k a e=>(by cases h<;>cases e),λh a i e=>(by cases h<;>cases e),λh i e=>(by cases h<;>cases e),λh i e=>(by cases h<;>cases e),λh a i e=>(by cases h<;>cases e),λh i e=>(by cases h<;>cases e),nc⟩
theorem Wt{K:aqX}{g:Gh}{H:Hp}:∀ns:List Int,aK K g H (ns.map V.int) (ns.map PyData.int)
 |[]=>.nil
 |n::ns=>.cons (.int n) (Wt ns)
theorem aiU{K:aqX}{H:Hp}{a:Addr}{ns:List Int}(hS:SqL K H a (ns.map V.int)):aK K g0 H [.ref a] [.list (ns.map PyData.int)]:=by
 refine .cons (.lst ?_ (Wt ns)) .nil;rcases hS with h|h
 ·exact .inl ⟨h,ajA a⟩
 ·exact .inr h
theorem alC{K:aqX}{aj:aQ}(nc:aj ""=none){m:Mo->List Dat->bh Dat}{H:Hp}{a:Addr}{ns:List Int}{M:Mo}(hS:SqL K H a (ns.map V.int))(h:m [] [.list (ns.map PyData.int)]=.ok (.bool true) M):JG K aj 1 m [.ref a] H (λv _=>v=.bl true) λ_ _ _=>False:=
 ⟨rfl,g0,[],[.list (ns.map PyData.int)],alA,aje nc,aiU hS,by
  rw[h];exact λv H' g' _ _ _ r=>by cases r;rfl⟩
section
variable{K:aqX}{h:Heap}{mg:Str->Option Value}{w:World}
def oU(w:World)(K:aqX)(xs:List Str)(ft:Ft):aQ:=⟨λx=>match xs.contains x with
 |true=>some (He.ga K x)
 |false=>none,λc=>(ft.lookup c).getD [],w⟩
theorem Om{xs:List Str}{ft:Ft}{x:Str}{C:Addr}(e:oU w K xs ft x=some C):C=He.ga K x:=by
 have e:(match xs.contains x with
  |true=>some (He.ga K x)
  |false=>none)=some C:=e
 split at e
 ·exact(ark e).symm
 ·cases e
theorem Cz{xs:List Str}{ft:Ft}{x:Str}(e:xs.contains x=true):oU w K xs ft x=some (He.ga K x):=by
 show(match xs.contains x with
  |true=>some (He.ga K x)
  |false=>none)=_
 rw[e]
theorem Z0{ft:Ft}(hb:Kr K ft=true){c:Str}{fs:List Str}(hl:ft.lookup c=some fs):Cls K (He.ga K c)/\∀f∈fs,NoAttr K (He.ga K c) f:=by obtain⟨h1,h2⟩:=He.ba (aro.mp hb _ (qI hl));exact⟨He.cls_ok h1,λf hf=>He.noat_ok (aro.mp h2 f hf)⟩
theorem aeb{xs:List Str}{ft:Ft}(hb:Kr K ft=true):jF K (oU w K xs ft):=λc C f e hf=>by
 have e:=Om e;subst e;have hf:f∈(ft.lookup c).getD []:=hf;cases hl:ft.lookup c with
 |none=>rw[hl]at hf;cases hf
 |some fs=>
  rw[hl]at hf;obtain⟨h1,h2⟩:=Z0 hb hl;exact⟨h1,h2 f hf⟩
theorem aeT{xs:List Str}{ft:Ft}:Le ft (oU w K xs ft):=λc f e=>by
 unfold Ft.has at e;show f∈(ft.lookup c).getD [];split at e
 ·next fs hl=>
  rw[hl];simpa using e
 ·cases e
def xmN(xs:List Str)(xm:List (Str×List (Str×Bool))):Bool:=xm.all λp=>xs.contains p.1
theorem amh{xs:List Str}{ft:Ft}{xm:List (Str×List (Str×Bool))}(hb:xmB K xm=true)(hn:xmN xs xm=true)(y:Str)(tab:List (Str×Bool))(hl:xm.lookup y=some tab):(∃D,oU w K xs ft y=some D)/\ab3 K (oU w K xs ft) y λx=>tab.lookup x:=by refine⟨⟨_,Cz (aro.mp hn _ (qI hl))⟩,λx b C e1 e2 D e3=>?_⟩;rw[Om e2,Om e3];exact He.exm_ok (aro.mp (aro.mp hb _ (qI hl)) _ (qI e1))
theorem agF{C:Addr}(hb:ajZ K C=true):OexC K C:=by
 obtain⟨h1,h2⟩:=He.ba hb;obtain⟨h2,h3⟩:=He.ba h2;obtain⟨h3,h4⟩:=He.ba h3;obtain⟨h4,h5⟩:=He.ba h4;refine⟨?_,He.eqO_ok h2,asl h3,asl h4,h5⟩;split at h1
 ·next t dd cd sl hl=>
  obtain⟨t1,h1⟩:=He.ba h1;split at h1
  ·next C' bm k0 k1 k2 k3 n k5 e1 e2=>
   obtain⟨a1,h1⟩:=He.ba h1;obtain⟨a2,h1⟩:=He.ba h1;obtain⟨a3,h1⟩:=He.ba h1;obtain⟨a4,a5⟩:=He.ba h1;have q1:=asl t1;have q2:=asl a1;have q3:=asl a2;have q4:cd.hasDel=false:=by simpa using a3
   have q5:sl=#[k0,k1,k2,k3,some (.builtin n),k5]:=by rw[←Array.toList_inj];exact e2
   obtain⟨nm,bs,mro,ns,qn,hd,sn,sub,ab,col,hdel⟩:=cd;have e1:mro=.ref C'::bm:=e1;have q4:hdel=false:=q4;have a4:hd=true:=a4;subst q1 q2 q3 q4 q5 e1 a4;exact⟨nm,qn,ns,bs,bm,sn,sub,ab,col,dd,k0,k1,k2,k3,k5,hl,a5⟩
  ·cases h1
 ·cases h1
theorem Td{x:Str}{fs:List Str}(hb:Ur K x fs=true):OexC K (He.ga K x)/\PySem.W.findIn K (.ref (He.ga K x)) "__init__"=some (some (.ref (He.ma K (He.ga K x) "__init__")))/\PySem.W.typeIn K (.ref (He.ma K (He.ga K x) "__init__"))=some (.type "function")/\XfC K (He.ga K x)/\∀f∈fs,PySem.W.findIn K (.ref (He.ga K x)) f=some none:=by obtain⟨h1,h2⟩:=He.ba hb;obtain⟨h2,h3⟩:=He.ba h2;obtain⟨h3,h4⟩:=He.ba h3;obtain⟨h4,h5⟩:=He.ba h4;exact⟨agF h1,He.eqO_ok h2,asl h3,xfB_ok h4,λf hf=>He.eqO_ok (aro.mp h5 f hf)⟩
theorem afG{a:Addr}{xs:List Str}(hb:Xo K a xs=true)(H:Hp):SqT K H a (xs.map V.str):=by
 unfold Xo at hb;split at hb
 ·next c d its n sl hl=>
  obtain⟨h1,h2⟩:=He.ba hb;obtain⟨h3,h4⟩:=He.ba h2;have q1:=asl h1;subst q1;exact .inr ⟨_,its,n,hl,rfl,rfl,asl h3,He.relAll_ok h4⟩
 ·cases hb
def zE(kvs:List (Str×List Str)):List (Str×Dat):=kvs.map λq=>(q.1,.tuple (q.2.map PyData.str))
theorem V9{g:Gh}{H:Hp}:∀xs:List Str,aK K g H (xs.map V.str) (xs.map PyData.str)
 |[]=>.nil
 |x::xs=>.cons (.str x) (V9 xs)
theorem Qz{y:Str}:∀{kvs:List (Str×List Str)},(zE kvs).lookup y=(kvs.lookup y).map λxs=>PyData.tuple (xs.map PyData.str)
 |[]=>rfl
 |(z,xs)::r=>by
  show List.lookup y ((z,PyData.tuple (xs.map PyData.str))::zE r)=_;rw[aru,aru];split
  ·rfl
  ·exact Qz
theorem look_none{α:Type}{y:Str}:∀{kvs:List (Str×α)},kvs.lookup y=none->y∉kvs.map (·.1)
 |[],_=>by simp
 |(z,a)::r,h=>by
  rw[aru]at h;split at h
  ·cases h
  ·next hn=>
   rw[aq1,arh]
   rintro(e|e)
   ·subst e;simp at hn
   ·exact look_none h e
theorem ah7{x:Str}{kvs:List (Str×List Str)}(hb:aeO K x kvs=true)(hk:∃es n,KDict K w (He.ga K x) es n):abZ w K (He.ga K x) (zE kvs):=by
 obtain⟨h1,h2⟩:=He.ba hb;obtain⟨h2,h3⟩:=He.ba h2;obtain⟨es,n,D⟩:=hk;rw[D.at_]at h1;refine⟨es,n,D,?_,λy=>?_⟩
 ·unfold zE;rw[arB];exact asl h2
 ·rw[Qz];cases hl:kvs.lookup y with
  |some xs=>
   have h4:=aro.mp h3 _ (qI hl);show ∃v u,PySem.W.nsIn K (He.ga K x) y=some (some u)/\RelV v u/\∀g H,Rep K g H v (.tuple (xs.map PyData.str));have h4:(match PySem.W.nsIn K (He.ga K x) y with
    |some (some (.ref a))=>Xo K a xs
    |_=>false)=true:=h4
   split at h4
   ·next a he=>exact⟨.ref a,.ref a,he,rfl,λg H=>.tup (afG h4 H) (V9 xs)⟩
   ·cases h4
  |none=>
   show PySem.W.nsIn K (He.ga K x) y=some none;have ny:=look_none hl;unfold PySem.W.nsIn;rw[D.at_];have h1:es.toList.all (λe=>(match e.key with
    |.str y _=>(kvs.map (·.1)).contains y
    |_=>false)&&!e.refKey)=true:=h1
   have f1:es.toList.find? (·.key.isStr y)=none:=by
    rw[List.find?_eq_none];intro e he z;obtain⟨a1,a2⟩:=He.ba (aro.mp h1 e he);split at a1
    ·next y' tk hy=>
     rw[hy]at z;have z:(y'==y)=true:=z;have e':=eq_of_beq z;subst e';exact ny (by simpa using a1)
    ·cases a1
   have f2:es.toList.any (·.refKey)=false:=by rw[List.any_eq_false];intro e he z;obtain⟨a1,a2⟩:=He.ba (aro.mp h1 e he);rw[z]at a2;cases a2
   show(match es.toList.find? (·.key.isStr y) with
    |some e=>some (some e.val)
    |none=>if es.toList.any (·.refKey) then none else some none)=some none
   rw[f1,f2];rfl
end
section
variable{P:Program}{w:World}{K:aqX}{mg:Str->Option Value}{base:Heap}{k:Nat}{xs:List Str}{ft:Ft}
def Xn(P:Program)(w:World)(K:aqX)(mg:Str->Option Value)(base:Heap)(aj:aQ)(k:Nat)(m:Str):List (Str×MV)->Prop
 |[]=>True
 |(c,v)::r=>bZ P w K mg base aj k c m v/\Xn P w K mg base aj k m r
def Fg(P:Program)(w:World)(K:aqX)(mg:Str->Option Value)(base:Heap)(aj:aQ)(k:Nat):List (Str×List (Str×MV))->Prop
 |[]=>True
 |(m,tb)::r=>Xn P w K mg base aj k m tb/\Fg P w K mg base aj k r
theorem Xn.get{aj:aQ}{m:Str}:∀{tb:List (Str×MV)},Xn P w K mg base aj k m tb->∀c v,tb.lookup c=some v->bZ P w K mg base aj k c m v
 |[],_,c,v,h=>nomatch h
 |(y,u)::r,g,c,v,h=>by
  rw[aru]at h;split at h
  ·next e=>
   cases h;rw[eq_of_beq e];exact g.1
  ·exact g.2.get c v h
theorem Fg.get{aj:aQ}:∀{Ms:List (Str×List (Str×MV))},Fg P w K mg base aj k Ms->∀m tb,Ms.lookup m=some tb->∀c v,tb.lookup c=some v->bZ P w K mg base aj k c m v
 |[],_,m,tb,h=>nomatch h
 |(y,u)::r,g,m,tb,h=>by
  rw[aru]at h;split at h
  ·next e=>
   cases h;rw[eq_of_beq e];exact g.1.get
  ·exact g.2.get m tb h
theorem ank{aj:aQ}{x:Str}{f:Addr}{fd:FuncData}{ps:List Str}{j:Nat}{m:Mo->List Dat->bh Dat}(hj:j<=k)(hg:mg x=some (.ref f))(hk:PySem.W.keepIn K (.ref f)=true)(hB:Binds K fd ps [])(F:FnOk P w K mg base (L2.CX P w) j f fd ps (JG K aj ps.length m)):bA P w K mg base aj k x (.fg ps.length m):=
 ⟨f,hg,hk,fd,ps,j,hj,rfl,hB,F⟩
theorem iU{x:Str}(hn:xs.contains x=true)(hg:mg x=some (.ref (He.ga K x)))(he:(He.Fa.exc x).ok K=true):bA P w K mg base (oU w K xs ft) k x .exc:=by obtain⟨h1,h2,h3,h4⟩:=He.exc_ok he;exact⟨_,hg,Cz hn,h1,h2,h3,h4⟩
theorem ai7{x:Str}{fd:FuncData}{ps:List Str}{j n:Nat}{m:Mo->List Dat->bh Dat}(hj:j+1<=k)(hn:xs.contains x=true)(hg:mg x=some (.ref (He.ga K x)))(hc:Cls K (He.ga K x))(hm:(He.Fa.mkr x).ok K=true)(hp:ps.length=n+1)(hB:Binds K fd ps [])
  (F:FnOk P w K mg base (L2.CX P w) j (He.ma K (He.ga K x) "__init__") fd ps (JG K (oU w K xs ft) ps.length m)):bA P w K mg base (oU w K xs ft) k x (.cls n m):=
 ⟨_,_,fd,ps,j,hg,Cz hn,hc,He.mkr_ok hm,hj,hp,hB,F⟩
theorem ajW{aj:aQ}{x:Str}{kvs:List (Str×List Str)}(hg:mg x=some (.ref (He.ga K x)))(hb:aeO K x kvs=true)(hk:∃es n,KDict K w (He.ga K x) es n):bA P w K mg base aj k x (.dic (zE kvs)):=⟨_,hg,ah7 hb hk⟩
theorem ak5{x:Str}{fs:List Str}{fd:FuncData}{ps:List Str}(h2:2<=k)(hn:xs.contains x=true)(hg:mg x=some (.ref (He.ga K x)))(ho:Ur K x fs=true)(hp:ps.length=fs.length+1)(hB:Binds K fd ps [])(F:FnOk P w K mg base CX0 1 (He.ma K (He.ga K x) "__init__") fd ps (af3 (He.ga K x) fs)):bA P w K mg base (oU w K xs ft) k x (.exi fs):=by obtain⟨h1,h3,h4,_,_⟩:=Td ho;exact⟨_,_,fd,ps,hg,Cz hn,h1,h3,h4,h2,hp,hB,F⟩
theorem aga{m:Str}{l:List Str}(hf:l.contains m=false)(z:m∈l):False:=by rw[List.contains_iff_mem.mpr z]at hf;cases hf
theorem amL{c m:Str}{fd:FuncData}{ps:List Str}{j:Nat}{mm:Mo->List Dat->Out Dat}(hj:j<=k)(hn:xs.contains c=true)(hc:Cls K (He.ga K c))(hm:(He.Fa.meth c m).ok K=true)(hf:((ft.lookup c).getD []).contains m=false)(hB:Binds K fd ps [])(F:FnOk P w K mg base (L2.CX P w) j (He.ma K (He.ga K c) m) fd ps (Vw K (oU w K xs ft) ps.length mm)):bZ P w K mg base (oU w K xs ft) k c m (.q ps.length mm):=
 ⟨_,_,Cz hn,hc,He.meth_ok hm,(λz=>aga hf z),fd,ps,j,hj,rfl,hB,F⟩
theorem anl{c m:Str}{fd:FuncData}{ps:List Str}{j:Nat}{mm:Mo->List Dat->bh Dat}(hj:j<=k)(hn:xs.contains c=true)(hc:Cls K (He.ga K c))(hm:(He.Fa.meth c m).ok K=true)(hf:((ft.lookup c).getD []).contains m=false)(hB:Binds K fd ps [])(F:FnOk P w K mg base (L2.CX P w) j (He.ma K (He.ga K c) m) fd ps (JG K (oU w K xs ft) ps.length mm)):bZ P w K mg base (oU w K xs ft) k c m (.g ps.length mm):=
 ⟨_,_,Cz hn,hc,He.meth_ok hm,(λz=>aga hf z),fd,ps,j,hj,rfl,hB,F⟩
theorem amj{Ms:List (Str×List (Str×MV))}{xm:List (Str×List (Str×Bool))}{df:List (Str×Bool)}{xf:List (Str×List Str)}(hm:Fg P w K mg base (oU w K xs ft) k Ms)(hb:Kr K ft=true)(hx:xmB K xm=true)(hn:xmN xs xm=true)(hf:(xf.all λp=>xs.contains p.1&&Ur K p.1 p.2)=true):Tq P w K mg base (oU w K xs ft) k ⟨Ms,ft,xm,df,xf⟩ where
 ms:=hm.get
 fk:=aeT
 co:=aeb hb
 hw:=rfl
 xm:=amh hx hn
 xf:=λy fs hl=>by
  obtain⟨h1,h2⟩:=He.ba (aro.mp hf _ (qI hl));obtain⟨_,_,_,h3,h4⟩:=Td h2;exact⟨_,Cz h1,h3,h4⟩
end
abbrev lI(l:List Int):Dat:=.list (l.map PyData.int)
abbrev aM(l:List Int):Dat:=.tuple (l.map PyData.int)
theorem fW{tg:fV}{body:SF}{d:Dat}{ds:List Dat}{M M2:Mo}{Z Z1 Z2:Env}(h1:tg d Z=some Z1)(h2:body M Z1=.next Z2 M2):fD tg body (d::ds) M Z=fD tg body ds M2 Z2:=by
 rw[fD,h1]
 show(match body M Z1 with
   |.next Z2 M2=>fD tg body ds M2 Z2
   |.cont Z2 M2=>fD tg body ds M2 Z2
   |.brk Z2 M2=>.next Z2 M2
   |.ret d M2=>.ret d M2
   |.exc x Z2 M2=>.exc x Z2 M2
   |.bad=>.bad)=_
 rw[h2]
theorem gU{α:Type}{tg:fV}{tt:QT}{te:QF}{M:Mo}{Z:Env}(ds:α->Dat)(p:α->Bool)(f:α->Dat):∀(xs:List α),(∀x∈xs,∃Z1,tg (ds x) Z=some Z1/\tt M Z1=.ok (p x)/\(p x=true->te M Z1=.ok (f x)))->dJ tg tt te M Z (xs.map ds)=.ok ((xs.filter p).map f)
 |[],_=>rfl
 |x::xs,h=>by
  obtain⟨Z1,h1,h2,h3⟩:=h x aq4;have ih:=gU ds p f xs λy hy=>h y (aq3 _ hy);rw[aq1,dJ,h1]
  show((yG (tt M Z1)).bind λb=>if b=true then(yG (te M Z1)).bind λy=>(dJ tg tt te M Z (xs.map ds)).bind λr=>.ok (y::r) else dJ tg tt te M Z (xs.map ds))=_
  rw[h2,ih];cases hp:p x with
  |true=>
   show(if true=true then(yG (te M Z1)).bind λy=>(Out.ok ((xs.filter p).map f)).bind λr=>.ok (y::r) else Out.ok ((xs.filter p).map f))=_
   rw[h3 hp,if_pos rfl,List.filter_cons_of_pos hp];rfl
  |false=>
   show(if false=true then(yG (te M Z1)).bind λy=>(Out.ok ((xs.filter p).map f)).bind λr=>.ok (y::r) else Out.ok ((xs.filter p).map f))=_
   rw[if_neg (by decide),List.filter_cons_of_neg (by rw[hp];decide)]
theorem gR{α:Type}{tg:fV}{te:QF}{M:Mo}{Z:Env}(ds:α->Dat)(f:α->Dat)(xs:List α)(h:∀x∈xs,∃Z1,tg (ds x) Z=some Z1/\te M Z1=.ok (f x)):dJ tg jD te M Z (xs.map ds)=.ok (xs.map f):=by
 have:=gU (tt:=jD) ds (λ_=>true) f xs λx hx=>by
  obtain⟨Z1,h1,h2⟩:=h x hx;exact⟨Z1,h1,rfl,λ_=>h2⟩
 rw[this,List.filter_eq_self.mpr (λ_ _=>rfl)]
theorem agh{i j:Int}(h : -(2 ^ 64) < i/\i < 2 ^ 64):decide (CMul i j)=true:=decide_eq_true (.inl h)
theorem mul_r{i j:Int}(h : -(2 ^ 64) < j/\j < 2 ^ 64):decide (CMul i j)=true:=decide_eq_true (.inr h)
section
variable(M:Mo)(Z:Env)
@[simp]theorem aiA (f k:SF):aD f k M Z=match f M Z with
 |.next Z' M'=>k M' Z'
 |o=>o:=rfl
@[simp]theorem anF:aU M Z=.next Z M:=rfl
@[simp]theorem aqg (tg:fV) (f:GF):aY tg f M Z=(f M Z).then Z λd M'=>match tg d Z with
 |some Z'=>.next Z' M'
 |none=>.bad:=rfl
@[simp]theorem aoo (i j:Nat) (f:GF):Qs i j f M Z=(f M Z).then Z λd M'=>.next ((Z.set i (some (.dat d))).set j (some (.dat d))) M':=rfl
@[simp]theorem ev_if (t:QT) (f k:SF):bO t f k M Z=((t M (sJ Z)).at M).then Z λc M'=>if c=true then f M' Z else k M' Z:=rfl
@[simp]theorem apF (f:QF):aR f M Z=((f M (sJ Z)).at M).then Z λd M'=>.ret d M':=rfl
@[simp]theorem aqs (it:IF) (tg:fV) (body:SF):qw it tg body M Z=((it M Z).at M).then Z λds M'=>fD tg body ds M' Z:=rfl
@[simp]theorem aoG (j:Nat) (f:IF):Jr j f M Z=((f M Z).at M).then Z λxs M'=>.next (Z.set j (some (.mut xs))) M':=rfl
@[simp]theorem aoc (f:GF):cG f M Z=(f M Z).then Z λ_ M'=>.next Z M':=rfl
@[simp]theorem aoV (j:Nat) (f:QF):Ou j f M Z=match Z[j]? with
 |some (some (.mut xs))=>((f M Z).at M).then Z λd M'=>if xs.length < 100000 then .next (Z.set j (some (.mut (xs++[d])))) M' else .bad
 |_=>.bad:=rfl
@[simp]theorem aob (j:Nat) (fi f:QF):alo j fi f M Z=match Z[j]? with
 |some (some (.mut xs))=>((f M Z).at M).then Z λd M'=>((fi M' Z).at M').then Z λi M2=>match i with
  |.int k=>match ixN xs.length k with
   |some n=>.next (Z.set j (some (.mut (xs.set n d)))) M2
   |none=>.bad
  |_=>.bad
 |_=>.bad:=rfl
@[simp]theorem apf (j:Nat) (f:QF):Jv j f M Z=match Z[j]? with
 |some (some (.dat (.int i)))=>((f M Z).at M).then Z λd M'=>match d with
  |.int k=>.next (Z.set j (some (.dat (.int (i+k))))) M'
  |_=>.bad
 |_=>.bad:=rfl
@[simp]theorem anL (i j:Nat) (f:GF):QX i j f M Z=(f M Z).then Z λd M'=>match d with
 |.list (d0::ds)=>if ds.length<=16000 then .next ((Z.set i (some (.dat d0))).set j (some (.dat (.list ds)))) M' else .bad
 |.tuple (d0::ds)=>if ds.length<=16000 then .next ((Z.set i (some (.dat d0))).set j (some (.dat (.list ds)))) M' else .bad
 |_=>.bad:=rfl
@[simp]theorem aqM (js:List Nat) (as:QA):sPN js as M Z=((as M Z).at M).then Z λds M'=>match uW js ds Z with
 |some Z'=>.next Z' M'
 |none=>.bad:=rfl
@[simp]theorem apj (f:QF):gOf f M Z=(f M Z).at M:=rfl
@[simp]theorem ev_op (o:Dat->Dat->Out Dat) (a b:QF):aA o a b M Z=(a M Z).bind λx=>(b M Z).bind λy=>o x y:=rfl
@[simp]theorem ev_un (o:Dat->Out Dat) (a:QF):eX o a M Z=(a M Z).bind o:=rfl
@[simp]theorem ev_c (d:Dat):qC d M Z=.ok d:=rfl
@[simp]theorem ev_var (i:Nat):aq i M Z=match Z[i]? with
 |some (some (.dat d))=>.ok d
 |_=>.bad:=rfl
@[simp]theorem aod (i:Nat):ao i M Z=match Z[i]? with
 |some (some (.dat d))=>.ok d
 |some (some (.mut xs))=>.ok (.list xs)
 |_=>.bad:=rfl
@[simp]theorem aoI:au M Z=.ok []:=rfl
@[simp]theorem an9 (a:QF) (r:QA):ak a r M Z=(a M Z).bind λx=>(r M Z).bind λxs=>.ok (x::xs):=rfl
@[simp]theorem aoJ (r:QA):bF r M Z=(r M Z).bind λxs=>Out.when (decide (xs.length<=100000)) (.ok (.tuple xs)):=rfl
@[simp]theorem aoL (r:QA):Bm r M Z=(r M Z).bind λxs=>Out.when (decide (xs.length<=100000)) (.ok (.list xs)):=rfl
@[simp]theorem apk (a:QF):iH a M Z=(a M Z).bind HX:=rfl
@[simp]theorem aqI (a:QF):bf a M Z=(a M Z).bind Bx:=rfl
@[simp]theorem anS (a:QT):jC a M Z=(a M Z).bind λb=>.ok (!b):=rfl
@[simp]theorem aot (a b:QT):lg a b M Z=(a M Z).bind λx=>if x=true then b M Z else .ok false:=rfl
@[simp]theorem apE (a b:QT):Dj a b M Z=(a M Z).bind λx=>if x=true then .ok true else b M Z:=rfl
@[simp]theorem aqN (a:QT):Vu a M Z=(a M Z).bind λb=>.ok (.bool b):=rfl
@[simp]theorem apT (t:QT) (a b:QF):Qx t a b M Z=(t M Z).bind λx=>if x=true then a M Z else b M Z:=rfl
@[simp]theorem ev_is (neg:Bool) (c:Dat) (a:QF):wI neg c a M Z=(a M Z).bind λd=>.ok (.bool (neg ^^ kJ c d)):=rfl
@[simp]theorem ev_notV (a:QF):Nm a M Z=((a M Z).bind Bx).bind λb=>.ok (.bool (!b)):=by
 show(((a M Z).bind Bx).bind λb=>Out.ok (!b)).bind (λb=>Out.ok (PyData.bool b))=_
 cases a M Z with
 |ok d=>cases h:Bx d<;>simp[Out.bind,h]
 |exc x=>rfl
 |bad=>rfl
@[simp]theorem ev_andV (a b:QF):xg a b M Z=(a M Z).bind λd=>(Bx d).bind λx=>if x=true then b M Z else .ok (.bool false):=rfl
@[simp]theorem ev_orV (a b:QF):acg a b M Z=(a M Z).bind λd=>(Bx d).bind λx=>if x=true then .ok (.bool true) else b M Z:=rfl
@[simp]theorem amM (o o':Dat->Dat->Out Dat) (a b c:QF):pF o o' a b c M Z=(a M Z).bind λx=>(b M Z).bind λy=>(o x y).bind λz=>(Bx z).bind λk=>if k=true then(c M Z).bind λw=>(o' y w).bind Bx else .ok false:=rfl
@[simp]theorem aqd (t:Oc) (a:QF):xM t a M Z=(a M Z).bind (zu t):=rfl
@[simp]theorem aqx (a:QF) (lo hi:QO):Ly a lo hi M Z=(a M Z).bind λd=>(lo M Z).bind λl=>(hi M Z).bind λh=>Z6 d l h:=rfl
@[simp]theorem aqR:w6 M Z=.ok none:=rfl
@[simp]theorem aqP (a:QF):qD a M Z=(a M Z).bind λd=>(Bb d).bind λi=>.ok (some i):=rfl
@[simp]theorem ev_call (m:Mo->List Dat->Out Dat) (as:QA):aZ m as M Z=(as M Z).bind λds=>m M ds:=rfl
@[simp]theorem am3 (a:QF):dw a M Z=(a M Z).bind oX:=rfl
@[simp]theorem amq (a:QF):wN a M Z=(a M Z).bind λd=>(Bb d).bind λn=>Out.when (decide (n<=100000/\-100000<=n)) (.ok (fH 0 n.toNat)):=rfl
@[simp]theorem aor (k₀:Int) (a:QF):zN k₀ a M Z=(a M Z).bind λd=>(oX d).bind λds=>.ok (sV k₀ ds):=rfl
@[simp]theorem aoT (a b:QF):Jc a b M Z=(a M Z).bind λd=>(b M Z).bind λe=>(oX d).bind λds=>(oX e).bind λes=>.ok (xP ds es):=rfl
@[simp]theorem an1 (it:IF) (tg:fV) (vs:List Nat) (tt:QT) (te:QF):fB it tg vs tt te M Z=(it M Z).bind λds=>Out.when (decide (ds.length<=50000)) ((dJ tg tt te M (cD Z vs) ds).bind λr=>.ok (.list r)):=rfl
@[simp]theorem am1 (it:IF) (tg:fV) (vs:List Nat) (tt:QT) (te:QF):CZ it tg vs tt te M Z=(it M Z).bind λds=>Out.when (decide (ds.length<=50000)) (dJ tg tt te M (cD Z vs) ds):=rfl
@[simp]theorem apv (f:QA):QH f M Z=(f M Z).bind λxs=>Out.when (decide (xs.length<=100000)) (.ok xs):=rfl
@[simp]theorem ald (f:QF):afi f M Z=(f M Z).bind Xw:=rfl
@[simp]theorem amA (j:Nat) (d:Dat):aF j d Z=some (Z.set j (some (.dat d))):=rfl
@[simp]theorem am8 (js:List Nat) (ds:List Dat):bM js (.tuple ds) Z=uW js ds Z:=rfl
@[simp]theorem aqQ (n:Nat) (b:SF) (ds:List Dat):mQ n b M ds=match b M (ini n ds) with
 |.ret d _=>.ok d
 |.next _ _=>.ok .none
 |.exc x _ _=>.exc x
 |_=>.bad:=rfl
@[simp]theorem aqA (n:Nat) (b:SF) (ds:List Dat):mG n b M ds=match b M (ini n ds) with
 |.ret d M'=>.ok d M'
 |.next _ M'=>.ok .none M'
 |.exc x _ M'=>.exc x M'
 |_=>.bad:=rfl
end
section
variable(i j:Int)(ds es:List Dat)(b c:Bool)(x y:Str)
@[simp]theorem aof:gH (.int i) (.int j)=.ok (.int (i+j)):=rfl
@[simp]theorem anZ:gH (.list ds) (.list es)=Out.when (decide (ds.length+es.length<=100000)) (.ok (.list (ds++es))):=rfl
@[simp]theorem anI:gH (.tuple ds) (.tuple es)=Out.when (decide (ds.length+es.length<=100000)) (.ok (.tuple (ds++es))):=rfl
@[simp]theorem aoK:pG (.int i) (.int j)=.ok (.int (i - j)):=rfl
@[simp]theorem aph:Av (.int i) (.int j)=Out.when (decide (CMul i j)) (.ok (.int (i * j))):=rfl
@[simp]theorem apO:Dq (.int i) (.int j)=Out.when (decide (CDiv i j)) (.ok (.int (i / j))):=rfl
@[simp]theorem aqb:lV (.int i) (.int j)=Out.when (decide (0 < j)) (.ok (.int (i % j))):=rfl
@[simp]theorem ao0:aad (.int i) (.int j)=Out.when (decide (CPow i j)) (.ok (.int (i ^ j.toNat))):=rfl
@[simp]theorem aqJ:Rp (.int i) (.int j)=.ok (.bool (decide (i < j))):=rfl
@[simp]theorem aqE:wV (.int i) (.int j)=.ok (.bool (decide (i<=j))):=rfl
@[simp]theorem aqL:Wv (.int i) (.int j)=.ok (.bool (decide (j < i))):=rfl
@[simp]theorem aqD:geD (.int i) (.int j)=.ok (.bool (decide (j<=i))):=rfl
@[simp]theorem ao3:bU (.int i) (.int j)=.ok (.bool (i==j)):=rfl
@[simp]theorem aqm:bU (.str x) (.str y)=.ok (.bool (x==y)):=rfl
@[simp]theorem apU:bU (.bool b) (.bool c)=.ok (.bool (b==c)):=rfl
@[simp]theorem aqp:Bp (.int i) (.int j)=.ok (.bool (!(i==j))):=rfl
@[simp]theorem ap2:Bp (.str x) (.str y)=.ok (.bool (!(x==y))):=rfl
@[simp]theorem aqq:Vc (.int i)=.ok (.int (-i)):=rfl
@[simp]theorem aov:HX (.bool b)=.ok b:=rfl
@[simp]theorem anU:HX (.list ds)=.ok (!ds.isEmpty):=rfl
@[simp]theorem anY:HX (.tuple ds)=.ok (!ds.isEmpty):=rfl
@[simp]theorem aqc:Bx (.bool b)=.ok b:=rfl
@[simp]theorem aoe:mO (.list ds)=.ok (.int ds.length):=rfl
@[simp]theorem aok:mO (.tuple ds)=.ok (.int ds.length):=rfl
@[simp]theorem ap0:Qc (.int i)=.ok (.int (if i < 0 then -i else i)):=rfl
@[simp]theorem ev_max2:sO (.int i) (.int j)=.ok (.int (if j > i then j else i)):=rfl
@[simp]theorem aom:Jb (.int i) (.int j)=.ok (.int (if j < i then j else i)):=rfl
@[simp]theorem apD:aV (.list ds) (.int i)=match atI ds i with
  |some d=>.ok d
  |none=>.bad:=rfl
@[simp]theorem aqo:aV (.tuple ds) (.int i)=match atI ds i with
  |some d=>.ok d
  |none=>.bad:=rfl
@[simp]theorem anP:Bb (.int i)=.ok i:=rfl
@[simp]theorem apA (lo hi:Option Int):Z6 (.list ds) lo hi=.ok (.list (cutD ds lo hi)):=rfl
@[simp]theorem apz (lo hi:Option Int):Z6 (.tuple ds) lo hi=.ok (.tuple (cutD ds lo hi)):=rfl
@[simp]theorem anH:nR (.list ds)=.ok (.tuple ds):=rfl
@[simp]theorem an3:nR (.tuple ds)=.ok (.tuple ds):=rfl
@[simp]theorem amS:El (.list ds)=.ok (.list ds):=rfl
@[simp]theorem amO:El (.tuple ds)=.ok (.list ds):=rfl
@[simp]theorem ap6:Xw (.list ds)=.ok ds:=rfl
@[simp]theorem aql:Xw (.tuple ds)=.ok ds:=rfl
@[simp]theorem aqu:oX (.list ds)=.ok ds:=rfl
@[simp]theorem apV:oX (.tuple ds)=.ok ds:=rfl
@[simp]theorem anJ (o:Option Cell) (Z:Env):sJ (o::Z)=o.map Rq::sJ Z:=rfl
@[simp]theorem am6:sJ []=[]:=rfl
@[simp]theorem amZ (d:Dat):Rq (.dat d)=.dat d:=rfl
@[simp]theorem am7 (ds:List Dat):Rq (.mut ds)=.dat (.list ds):=rfl
@[simp]theorem anM (Z:Env):uW [] [] Z=some Z:=rfl
@[simp]theorem an2 (j:Nat) (js:List Nat) (d:Dat) (Z:Env):uW (j::js) (d::ds) Z=uW js ds (Z.set j (some (.dat d))):=rfl
@[simp]theorem amV (Z:Env):cD Z []=Z:=rfl
@[simp]theorem ani (Z:Env) (j:Nat) (js:List Nat):cD Z (j::js)=(cD Z js).set j none:=rfl
@[simp]theorem amn {α:Type} (a:α) (l:List α):atI (a::l) 0=some a:=atI_nat (j:=0) rfl
@[simp]theorem aow (n:Nat):ini n ds=ds.map (λd=>some (.dat d))++List.replicate (n - ds.length) none:=rfl
end
theorem aaV{a b:String}:Str.ofString a=Str.ofString b↔a=b:=by
 constructor
 ·intro h;rw[Str.ofString_eq_toList,Str.ofString_eq_toList]at h;have h1:a.toList.map Char.toNat=b.toList.map Char.toNat:=by simpa using h
  have h2:a.toList=b.toList:=by
   refine List.map_inj_right (f:=Char.toNat) (λx y e=>?_) |>.mp h1
   exact Char.ext (UInt32.toNat_inj.mp e)
  exact String.toList_inj.mp h2
 ·rintro rfl;rfl
@[simp]theorem apG (a b:String):(Str.ofString a=Str.ofString b)=(a=b):=propext aaV
@[simp]theorem anQ (a b:String):(Str.ofString a==Str.ofString b)=decide (a=b):=by rw[ar0];simp[aaV]
@[simp]theorem aqC {α:Type} (a b:α) (l:List α):atI (a::b::l) 1=some b:=atI_nat (j:=1) rfl
@[simp]theorem aqK {α:Type} (a b c:α) (l:List α):atI (a::b::c::l) 2=some c:=atI_nat (j:=2) rfl
@[simp]theorem aqw {α:Type} (a b c d:α) (l:List α):atI (a::b::c::d::l) 3=some d:=atI_nat (j:=3) rfl
@[simp]theorem aqH {α:Type} (a b c d e:α) (l:List α):atI (a::b::c::d::e::l) 4=some e:=atI_nat (j:=4) rfl
@[simp]theorem aqG {α:Type} (a b c d e f:α) (l:List α):atI (a::b::c::d::e::f::l) 5=some f:=atI_nat (j:=5) rfl
@[simp]theorem aqB {α:Type} (a b c d e f g:α) (l:List α):atI (a::b::c::d::e::f::g::l) 6=some g:=atI_nat (j:=6) rfl
@[simp]theorem anb (s:String):PyData.strOk (Str.ofString s)=true:=by
 rw[Str.ofString_eq_toList];unfold PyData.strOk;simp only[Array.all_eq_true,asj];intro i h;simp only[List.getElem_toArray,List.getElem_map];have:=s.toList[i]'(by simpa using h) |>.valid
 rcases this with z|⟨_,z⟩
 ·show(s.toList[i]'(by simpa using h)).val.toNat < _
  omega
 ·show(s.toList[i]'(by simpa using h)).val.toNat < _
  omega
section
variable(i j:Int)(x y:Str)(d e:Dat)(ds es:List Dat)(b c:Bool)
@[simp]theorem YW:PyData.eqv (.int i) (.int j)=(i==j):=by simp[PyData.eqv]
@[simp]theorem aoP:PyData.eqv (.str x) (.str y)=(x==y):=by simp[PyData.eqv]
@[simp]theorem ao2:PyData.eqv (.bool b) (.bool c)=(b==c):=by simp[PyData.eqv]
@[simp]theorem apy:PyData.eqv .none .none=true:=by simp[PyData.eqv]
@[simp]theorem XD:PyData.eqv (.tuple ds) (.tuple es)=PyData.eqvAll ds es:=by simp[PyData.eqv]
@[simp]theorem akd:PyData.eqv (.list ds) (.list es)=PyData.eqvAll ds es:=by simp[PyData.eqv]
@[simp]theorem apP:PyData.eqv (.tuple ds) .none=false:=by simp[PyData.eqv]
@[simp]theorem apo:PyData.eqv .none (.tuple ds)=false:=by simp[PyData.eqv]
@[simp]theorem apc:PyData.eqv (.str x) (.int i)=false:=by simp[PyData.eqv]
@[simp]theorem aoF:PyData.eqv (.int i) (.str x)=false:=by simp[PyData.eqv]
@[simp]theorem ahl:PyData.eqvAll [] []=true:=by simp[PyData.eqvAll]
@[simp]theorem aox:PyData.eqvAll [] (d::ds)=false:=by simp[PyData.eqvAll]
@[simp]theorem agZ:PyData.eqvAll (d::ds) []=false:=by simp[PyData.eqvAll]
@[simp]theorem aa9:PyData.eqvAll (d::ds) (e::es)=(PyData.eqv d e&&PyData.eqvAll ds es):=by simp[PyData.eqvAll]
end
@[simp]theorem zP:∀l m:List Int,PyData.eqvAll (l.map PyData.int) (m.map PyData.int)=decide (l=m)
 |[],[]=>by simp
 |[],_::_=>by simp
 |_::_,[]=>by simp
 |a::l,b::m=>by
  rw[aq1,aq1,aa9,zP l m,YW];by_cases h:a=b<;>by_cases h2:l=m<;>simp[h,h2]
theorem Dh{n:Nat}:∀{ds:List Dat},mD n ds=true↔∀d∈ds,okd n d=true
 |[]=>by simp[mD]
 |d::ds=>by simp[mD,Dh (ds:=ds)]
@[simp]theorem ahU (n:Nat) (i:Int):okd n (.int i)=true:=by simp[okd]
@[simp]theorem VD (n:Nat) (l:List Int):mD n (l.map PyData.int)=true:=Dh.mpr λd h=>by
 obtain⟨i,_,rfl⟩:=arb.mp h;simp
def ob(h:Nat):Dat:=obj h
section
variable(M:Mo)(Z:Env)(h:Nat)(f:Str)
@[simp]theorem an7:K6 M f (ob h)=(M[h]?).bind λi=>i.fs.lookup f:=rfl
@[simp]theorem amU (tb:List (Str×MV)):Es tb M (ob h)=(M[h]?).bind λi=>tb.lookup i.cls:=rfl
@[simp]theorem Zr:kZ M (ob h)=(M[h]?).bind λi=>match i.cls=="" with
 |true=>none
 |false=>some (h,i):=rfl
@[simp]theorem aqh (o:QF):gY f o M Z=(o M Z).bind λd=>match K6 M f d with
 |some (.dat x)=>.ok x
 |_=>.bad:=rfl
@[simp]theorem aoj (o:QF):bH f o M Z=(o M Z).bind λd=>match K6 M f d with
 |some (.dat x)=>.ok x
 |some (.lst _ xs)=>.ok (.list xs)
 |_=>.bad:=rfl
@[simp]theorem aoh (tb:List (Str×MV)) (o:QF) (as:QA):aP tb o as M Z=(o M Z).bind λd=>match Es tb M d with
 |some (.q _ m)=>(as M Z).bind λds=>m M (d::ds)
 |_=>.bad:=rfl
@[simp]theorem ant (tb:List (Str×MV)) (o:QF) (as:QA):cQ tb o as M Z=((o M Z).at M).bind λd _=>match Es tb M d with
 |some (.q _ m)=>((as M Z).at M).bind λds _=>(m M (d::ds)).at M
 |some (.g _ m)=>((as M Z).at M).bind λds _=>m M (d::ds)
 |none=>.bad:=rfl
@[simp]theorem an5 (x:Str) (m:Mo->List Dat->bh Dat) (as:QA):Ax x m as M Z=((as M Z).at M).bind λds _=>match m (M++[⟨x,[]⟩]) (ob M.length::ds) with
 |.ok .none M'=>.ok (ob M.length) M'
 |_=>.bad:=rfl
@[simp]theorem anr (m:Mo->List Dat->bh Dat) (as:QA):DW m as M Z=((as M Z).at M).bind λds _=>m M ds:=rfl
@[simp]theorem amw (m:Mo->List Dat->bh Dat) (as:GA):ajv m as M Z=(as M Z).bind λds M1=>m M1 ds:=rfl
@[simp]theorem amB (m:Mo->List Dat->Out Dat) (as:GA):ajw m as M Z=(as M Z).bind λds M1=>(m M1 ds).at M1:=rfl
@[simp]theorem ana:alP M Z=.ok [] M:=rfl
@[simp]theorem amt (a:GF) (r:GA):ajK a r M Z=(a M Z).bind λd M1=>(r M1 Z).bind λds M2=>.ok (d::ds) M2:=rfl
@[simp]theorem aop (t:QT):ae8 t M Z=(t M Z).at M:=rfl
@[simp]theorem amP (a:GT):Xl a M Z=(a M Z).bind λb M1=>.ok (!b) M1:=rfl
@[simp]theorem amR (a b:GT):abW a b M Z=(a M Z).bind λx M1=>if x=true then b M1 Z else .ok false M1:=rfl
@[simp]theorem anN (a b:GT):afo a b M Z=(a M Z).bind λx M1=>if x=true then .ok true M1 else b M1 Z:=rfl
@[simp]theorem amX (a:GF):Xq a M Z=(a M Z).bind λd M1=>(HX d).at M1:=rfl
@[simp]theorem anx (x:Str):eY x M Z=.exc ⟨x,[]⟩ Z M:=rfl
@[simp]theorem amo (x:Str) (fs:List Str) (as:QA):Cj x fs as M Z=((as M Z).at M).then Z λds M'=>.exc ⟨x,(fs.zip ds).reverse⟩ Z M':=rfl
@[simp]theorem ap8 (b:SF) (hs:List Hd):Uc b hs M Z=match b M Z with
 |.exc x Z' M'=>hdl hs x Z' M'
 |o=>o:=rfl
@[simp]theorem anW (x:dR):hdl [] x Z M=.exc x Z M:=rfl
@[simp]theorem anO (h:Hd) (r:List Hd) (x:dR):hdl (h::r) x Z M=match h.tk x.cls with
  |some true=>match acC Z h.nm with
   |true=>match Eh h.y x h.st (TF Z h.nm) with
    |some Z2=>.next (TF Z2 h.nm) M
    |none=>.bad
   |false=>.bad
  |some false=>hdl r x Z M
  |none=>.bad:=rfl
@[simp]theorem aoq:TF Z none=Z:=rfl
@[simp]theorem anV (i:Nat):TF Z (some i)=Z.set i none:=rfl
@[simp]theorem anf:acC Z none=true:=rfl
@[simp]theorem anq (i:Nat):acC Z (some i)=decide (i < Z.length):=rfl
@[simp]theorem apZ (y:Str) (x:dR):Eh y x [] Z=some Z:=rfl
@[simp]theorem aoH (y:Str) (x:dR) (j:Nat) (e:Et) (r:List (Nat×Et)):Eh y x ((j,e)::r) Z=(Yd y x e).bind λd=>Eh y x r (Z.set j (some (.dat d))):=rfl
@[simp]theorem ap4 (y:Str) (x:dR) (d:Dat):Yd y x (.con d)=some d:=rfl
@[simp]theorem an0 (g:GF):iJ g M Z=(g M Z).then Z λd M'=>.ret d M':=rfl
@[simp]theorem ap3 (t:GT) (f k:SF):acy t f k M Z=(t M Z).then Z λc M'=>if c=true then f M' Z else k M' Z:=rfl
@[simp]theorem amD (a b:QF):Cg a b M Z=(a M Z).bind λd=>(b M Z).bind λe=>(Bb d).bind λlo=>(Bb e).bind λn=>Out.when (decide (n<=100000/\-100000<=n/\lo<=100000/\-100000<=lo)) (.ok (fH lo (n - lo).toNat)):=rfl
@[simp]theorem anR (ft:Ft) (o:QF) (e:GF):uN ft o f e M Z=(e M Z).then Z λd M1=>((o M1 Z).at M1).then Z λod M2=>match kZ M2 od with
 |some (h,i)=>match ft.has i.cls f&&decide (i.fs.length < 100) with
  |true=>.next Z (M2.set h (i.put f (.dat d)))
  |false=>.bad
 |none=>.bad:=rfl
@[simp]theorem aog (ft:Ft) (o:QF) (e:IF):Dy ft o f e M Z=((e M Z).at M).then Z λxs M0=>((o (M0++[⟨"",[]⟩]) Z).at (M0++[⟨"",[]⟩])).then Z λod M2=>match kZ M2 od with
 |some (h,i)=>match ft.has i.cls f&&decide (i.fs.length < 100) with
  |true=>.next Z (M2.set h (i.put f (.lst M0.length xs)))
  |false=>.bad
 |none=>.bad:=rfl
@[simp]theorem aos (ft:Ft) (o:QF) (b:Bool):MF ft o f b M Z=((o (M++[⟨"",[]⟩]) Z).at (M++[⟨"",[]⟩])).then Z λod M2=>match kZ M2 od with
 |some (h,i)=>match ft.has i.cls f&&decide (i.fs.length < 100) with
  |true=>.next Z (M2.set h (i.put f (.dic b [])))
  |false=>.bad
 |none=>.bad:=rfl
@[simp]theorem aoi (ft:Ft) (o:QF) (e:Mo->Env->Out (List (Dat×Dat))):Rg ft o f e M Z=((e M Z).at M).then Z λkvs _=>((o (M++[⟨"",[]⟩]) Z).at (M++[⟨"",[]⟩])).then Z λod M2=>match kZ M2 od with
 |some (h,i)=>match ft.has i.cls f&&decide (i.fs.length < 100) with
  |true=>.next Z (M2.set h (i.put f (.dic true kvs)))
  |false=>.bad
 |none=>.bad:=rfl
@[simp]theorem anT (o:QF) (e:GF):Eo f o e M Z=((o M Z).at M).then Z λod M0=>match Fd M0 f od with
 |some (_,_,n,_)=>(e M0 Z).then Z λd M1=>match Fd M1 f od with
  |some (h,i,n',xs)=>match n==n'&&decide (xs.length < 100000) with
   |true=>.next Z (M1.set h (i.put f (.lst n (xs++[d]))))
   |false=>.bad
  |none=>.bad
 |none=>.bad:=rfl
@[simp]theorem an4 (o fi e:QF):QV f o fi e M Z=((e M Z).at M).then Z λd _=>((o M Z).at M).then Z λod _=>match Fd M f od with
 |some (h,i,n,xs)=>((fi M Z).at M).then Z λk _=>match k with
  |.int k=>match ixN xs.length k with
   |some j=>.next Z (M.set h (i.put f (.lst n (xs.set j d))))
   |none=>.bad
  |_=>.bad
 |none=>.bad:=rfl
@[simp]theorem an8 (ft:Ft) (o e:QF):RG ft f o e M Z=((o M Z).at M).then Z λod _=>match kZ M od with
 |some (h,i)=>match i.fs.lookup f,ft.has i.cls f&&decide (i.fs.length < 100) with
  |some (.dat (.int a)),true=>((e M Z).at M).then Z λd _=>match d with
   |.int b=>.next Z (M.set h (i.put f (.dat (.int (a+b)))))
   |_=>.bad
  |_,_=>.bad
 |none=>.bad:=rfl
theorem ahO(d:Dat):Fd M f d=(kZ M d).bind λp=>match p.2.fs.lookup f with
 |some (.lst n xs)=>some (p.1,p.2,n,xs)
 |_=>none:=rfl
@[simp]theorem aol:Fd M f (ob h)=(M[h]?).bind λi=>match i.cls=="" with
 |true=>none
 |false=>match i.fs.lookup f with
  |some (.lst n xs)=>some (h,i,n,xs)
  |_=>none:=by
 rw[ahO,Zr];cases M[h]? with
 |none=>rfl
 |some i=>
  show(match i.cls=="" with
   |true=>none
   |false=>some (h,i)).bind _=(match i.cls=="" with
   |true=>none
   |false=>_)
  cases i.cls==""<;>rfl
@[simp]theorem aoa (i:Inst) (x:jy):i.put f x=⟨i.cls,putL f x i.fs⟩:=rfl
@[simp]theorem aqy (x:jy):putL f x []=[(f,x)]:=rfl
@[simp]theorem aqz (x y:jy) (g:Str) (r:List (Str×jy)):putL f x ((g,y)::r)=if g=f then(g,x)::r else(g,y)::putL f x r:=rfl
@[simp]theorem aon (ft:Ft) (c:Str):Ft.has ft c f=match ft.lookup c with
 |some fs=>fs.contains f
 |none=>false:=rfl
@[simp]theorem an6:yU M f (ob h)=(M[h]?).bind λi=>match i.cls=="" with
 |true=>none
 |false=>match i.fs.lookup f with
  |some (.dic b kvs)=>some (h,i,b,kvs)
  |_=>none:=by
 show(kZ M (ob h)).bind _=_
 rw[Zr];cases M[h]? with
 |none=>rfl
 |some i=>
  show(match i.cls=="" with
   |true=>none
   |false=>some (h,i)).bind _=(match i.cls=="" with
   |true=>none
   |false=>_)
  cases i.cls==""<;>rfl
@[simp]theorem aoE (neg:Bool) (k o:QF):Py neg f k o M Z=(k M Z).bind λd=>(o M Z).bind λod=>match yU M f od with
 |some (_,_,b,kvs)=>(dhas b kvs d).bind λr=>.ok (.bool (neg ^^ r))
 |none=>.bad:=rfl
@[simp]theorem anK (o k e:QF):Nf f o k e M Z=((e M Z).at M).then Z λv _=>((o M Z).at M).then Z λod _=>match yU M f od with
 |some (h,i,b,kvs)=>((k M Z).at M).then Z λd _=>match dhas b kvs d,decide (kvs.length < 100000) with
  |.ok false,true=>.next Z (M.set h (i.put f (.dic b (kvs++[(d,v)]))))
  |_,_=>.bad
 |none=>.bad:=rfl
@[simp]theorem aou (o k:QF):M7 f o k M Z=((o M Z).at M).then Z λod _=>match yU M f od with
 |some (h,i,b,kvs)=>((k M Z).at M).then Z λd _=>match dhas b kvs d,decide (kvs.length<=100000) with
  |.ok true,true=>.next Z (M.set h (i.put f (.dic b (kvs.filter λp=>!PyData.eqv p.1 d))))
  |_,_=>.bad
 |none=>.bad:=rfl
@[simp]theorem amJ (o:QF):CP f o M Z=(o M Z).bind λod=>match yU M f od with
 |some (_,_,true,kvs)=>.ok (kvs.map (·.1))
 |_=>.bad:=rfl
@[simp]theorem am2 (o:QF):CT f o M Z=(o M Z).bind λod=>match yU M f od with
 |some (_,_,_,kvs)=>.ok (.list (kvs.map (·.1)))
 |none=>.bad:=rfl
@[simp]theorem aqv (it:IF) (tg:fV) (vs:List Nat) (tk:QF):qDc it tg vs tk M Z=(it M Z).bind λds=>Out.when (decide (ds.length<=50000)) (Ea tg tk M (cD Z vs) ds []):=rfl
@[simp]theorem anz (kvs:List (Dat×Dat)) (i:Int):dhas false kvs (.int i)=.ok (kvs.any λp=>PyData.eqv p.1 (.int i)):=rfl
@[simp]theorem apB (neg:Bool) (kvs:List (Str×Dat)) (k:QF):T9 neg kvs k M Z=(k M Z).bind λd=>match d with
 |.str x=>.ok (.bool (neg ^^ (kvs.lookup x).isSome))
 |_=>.bad:=rfl
@[simp]theorem aps (kvs:List (Str×Dat)) (k:QF):acu kvs k M Z=(k M Z).bind λd=>match d with
 |.str x=>match kvs.lookup x with
  |some y=>.ok y
  |none=>.bad
 |_=>.bad:=rfl
@[simp]theorem ano (it:IF) (tg:fV) (vs:List Nat) (tt:QT) (it1:IF) (tg1:fV) (vs1:List Nat) (tt1:QT) (te:QF):Dd it tg vs tt it1 tg1 vs1 tt1 te M Z=((it M Z).bind λds=>(iG tg tt it1 tg1 vs1 tt1 te M (cD Z vs) ds).bind λr=>Out.when (decide (r.length<=50000)) (.ok r)).bind λr=>.ok (.list r):=rfl
@[simp]theorem amu (it:IF) (tg:fV) (vs:List Nat) (tt:QT) (te:QF):agT it tg vs tt te M Z=((it M Z).bind λds=>Out.when (decide (ds.length<=50000)) (dJ tg tt te M (cD Z vs) ds)).bind λds=>match intsOf ds with
 |some l=>Out.when (decide (l.length<=4000)) (.ok (.list ((agv l).map PyData.int)))
 |none=>.bad:=rfl
@[simp]theorem amE {α:Type} (k g:Str) (y:α) (r:List (Str×α)):List.lookup k ((g,y)::r)=if k=g then some y else List.lookup k r:=by
 rw[aru];by_cases e:k=g
 ·subst e;simp
 ·have:(k==g)=false:=by simpa using e
  rw[this,if_neg e]
end
end Rf
namespace Pr
open PySem PySem.Spec PyProof.Rows L2 Evl Rf
def yX:SF:=
 (aD (Dy kW (ao 0) "allowances" (QH au))
 (Dy kW (ao 0) "circles" (QH au)))
def uM:=mG 1 yX
def Ar:SF:=
 (MF kW (ao 0) "held" true)
def vO:=mG 1 Ar
def Fb:SF:=
 (Dy kW (ao 0) "beasts" (QH au))
def zL:=mG 1 Fb
def zm:SF:=
 (aD (uN kW (ao 0) "owner_count" (gOf (qC (.int 0))))
 (aD (MF kW (ao 0) "holders" false)
 (aD (uN kW (ao 0) "grounds" (Ax "Grounds" uM au))
 (aD (uN kW (ao 0) "rights" (Ax "Rights" vO au))
 (uN kW (ao 0) "herd" (Ax "Herd" zL au))))))
def pQ:=mG 1 zm
def Az:SF:=
 (aR (bF (ak (gY "owner" (ao 0)) (ak (gY "ground" (ao 0)) (ak (gY "due" (ao 0)) (ak (gY "ear" (ao 0)) (ak (gY "alive" (ao 0)) au)))))))
def vZ:=mQ 1 Az
def mY:List (Str×MV):=[("Beast",.q 1 vZ)]
def CQ:SF:=
 (aR (aA gH (aP mY (ao 0) au) (bF (ak (gY "mother" (ao 0)) (ak (eX nR (bH "story" (ao 0))) au)))))
def yx:=mQ 1 CQ
def wu:SF:=
 (aR (CT "holders" (ao 0)))
def qN:=mQ 1 wu
def vm:SF:=
 (aR (CT "held" (ao 0)))
def pK:=mQ 1 vm
def uO:SF:=
 (aR (eX mO (bH "allowances" (ao 0))))
def qb:=mQ 1 uO
def fu:List (Str×MV):=[("Grounds",.q 1 qb)]
def Bo:SF:=
 (aR (Vu (pF wV wV (qC (.int 1)) (ao 1) (aP fu (ao 0) au))))
def vY:=mQ 2 Bo
def zj:List (Str×MV):=[("Grounds",.q 2 vY)]
def yW:SF:=
 (bO (jC (iH (aP zj (ao 0) (ak (aq 1) au)))) (eY "NoGround") aU)
def uZ:=mQ 2 yW
def aG:List (Str×MV):=[("Grounds",.q 2 uZ)]
def oA:SF:=
 (aD (cG (gOf (aP aG (ao 0) (ak (aq 1) au))))
 (aR (aA aV (bH "allowances" (ao 0)) (aA pG (ao 1) (qC (.int 1))))))
def j5:=mQ 2 oA
def oV:SF:=
 (aD (cG (gOf (aP aG (ao 0) (ak (aq 1) au))))
 (aR (eX El (aA aV (bH "circles" (ao 0)) (aA pG (ao 1) (qC (.int 1)))))))
def lC:=mQ 2 oV
def bD:List (Str×MV):=[("Grounds",.q 2 lC)]
def oY:SF:=
 (aR (aP bD (bH "grounds" (ao 0)) (ak (aq 1) au)))
def lE:=mQ 2 oY
def tR:List (Str×MV):=[("Rights",.q 1 pK)]
def vA:List (Str×MV):=[("Commons",.q 1 qN)]
def vR:List (Str×MV):=[("Beast",.q 1 yx)]
def bT:List (Str×MV):=[("Commons",.q 2 lE)]
def dX:List (Str×MV):=[("Grounds",.q 2 j5)]
def yL:SF:=
 (aD (aY (aF 1) (gOf (fB (Cg (qC (.int 1)) (aA gH (aP fu (bH "grounds" (ao 0)) au) (qC (.int 1)))) (aF 3) [3] jD (bF (ak (aP dX (bH "grounds" (ao 0)) (ak (aq 3) au)) (ak (eX nR (aP bT (ao 0) (ak (aq 3) au))) au))))))
 (aD (aY (aF 2) (gOf (fB (dw (bH "beasts" (bH "herd" (ao 0)))) (aF 4) [4] jD (aP vR (ao 4) au))))
 (aR (bF (ak (aP vA (ao 0) au) (ak (aq 1) (ak (aP tR (bH "rights" (ao 0)) au) (ak (aq 2) au))))))))
def nu:=mQ 5 yL
def S7:SF:=
 (aD (aY (aF 5) (gOf (aA lV (aA gH (aA gH (aA Av (ao 5) (qC (.int 48271))) (aA Av (qC (.int 9973)) (ao 4))) (qC (.int 11))) (qC (.int 2147483647)))))
 (Ou 3 (aA lV (aA Dq (ao 5) (qC (.int 1021))) (ao 2))))
def U3:SF:=
 (aD (Ou 3 (aA lV (ao 0) (ao 2)))
 (aY (aF 0) (gOf (aA Dq (ao 0) (ao 2)))))
def abR:SF:=
 (aD (Jr 3 (QH au))
 (aD (aY (aF 0) (gOf (eX Qc (ao 0))))
 (aD (bO (bf (aA geD (ao 0) (aA aad (qC (.int 10)) (qC (.int 18))))) (aD (qw (wN (ao 1)) (aF 4) U3)
 (aR (aq 3))) aU)
 (aD (aY (aF 5) (gOf (aA lV (aA Av (aA gH (aA lV (ao 0) (qC (.int 1000003))) (qC (.int 17))) (qC (.int 69621))) (qC (.int 2147483647)))))
 (aD (qw (wN (ao 1)) (aF 4) S7)
 (aR (aq 3)))))))
def BR:=mQ 6 abR
def O5:SF:=
 (aD (bO (bf (aA bU (aA lV (ao 1) (qC (.int 4))) (qC (.int 1)))) (aR (eX nR (fB (dw (ao 0)) (aF 2) [2] jD (aA sO (qC (.int 0)) (aA pG (ao 2) (qC (.int 7))))))) aU)
 (aD (bO (bf (aA bU (aA lV (ao 1) (qC (.int 4))) (qC (.int 2)))) (aR (eX nR (fB (dw (ao 0)) (aF 2) [2] jD (aA lV (ao 2) (qC (.int 3)))))) aU)
 (aR (eX nR (ao 0)))))
def tY:=mQ 3 O5
def ab1:SF:=
 (aD (aY (aF 1) (gOf (aZ BR (ak (aq 0) (ak (qC (.int 7)) (ak (qC (.int 10)) au))))))
 (aR (aZ tY (ak (Ly (ao 1) w6 (qD (qC (.int 6)))) (ak (aA aV (ao 1) (qC (.int 6))) au)))))
def Q7:=mQ 2 ab1
def EY:SF:=
 (aD (bO (bf (aA bU (aA lV (ao 0) (qC (.int 8))) (qC (.int 7)))) (aR (Bm au)) aU)
 (aD (aY (aF 1) (gOf (Bm (ak (bF (ak (qC (.str "ground")) (ak (qC (.int 0)) (ak (qC (.int 0)) au)))) (ak (bF (ak (qC (.str "owner")) (ak (qC (.int 0)) (ak (qC (.int 0)) au)))) (ak (bF (ak (qC (.str "owner")) (ak (qC (.int 0)) (ak (qC (.int 0)) au)))) (ak (bF (ak (qC (.str "enrol")) (ak (qC (.int 0)) (ak (qC (.int 0)) au)))) (ak (bF (ak (qC (.str "enrol")) (ak (qC (.int 1)) (ak (qC (.int 0)) au)))) au))))))))
 (aD (aY (aF 1) (gOf (aA gH (ao 1) (Bm (ak (bF (ak (qC (.str "bring")) (ak (qC (.int 0)) (ak (qC (.int 0)) au)))) (ak (bF (ak (qC (.str "cut")) (ak (qC (.int 0)) (ak (qC (.int 0)) au)))) (ak (bF (ak (qC (.str "bring")) (ak (qC (.int 1)) (ak (qC (.int 0)) au)))) (ak (bF (ak (qC (.str "cut")) (ak (qC (.int 1)) (ak (qC (.int 0)) au)))) (ak (bF (ak (qC (.str "ground")) (ak (qC (.int 0)) (ak (qC (.int 0)) au)))) (ak (bF (ak (qC (.str "enrol")) (ak (qC (.int 0)) (ak (qC (.int 1)) au)))) au))))))))))
 (aR (aq 1)))))
def vC:=mQ 2 EY
def Ld:SF:=
 (aD (aY (aF 1) (gOf (Bm (ak (qC (.str "tear")) (ak (qC (.str "cut")) (ak (qC (.str "bring")) (ak (qC (.str "sell")) (ak (qC (.str "move")) (ak (qC (.str "enrol")) (ak (qC (.str "bear")) (ak (qC (.str "tear")) (ak (qC (.str "cut")) (ak (qC (.str "sell")) (ak (qC (.str "move")) (ak (qC (.str "unite")) (ak (qC (.str "part")) au))))))))))))))))
 (aD (aY (aF 1) (gOf (aA gH (ao 1) (Bm (ak (qC (.str "heir")) (ak (qC (.str "pass")) (ak (qC (.str "die")) (ak (qC (.str "leave")) (ak (qC (.str "ground")) (ak (qC (.str "owner")) (ak (qC (.str "enrol")) (ak (qC (.str "tear")) (ak (qC (.str "sell")) (ak (qC (.str "bring")) (ak (qC (.str "bear")) (ak (qC (.str "cut")) au))))))))))))))))
 (aR (aA aV (ao 1) (aA lV (ao 0) (qC (.int 25)))))))
def Ag:=mQ 2 Ld
def mH:SF:=
 (bO (bf (Py true "holders" (aq 1) (ao 0))) (eY "NoOwner") aU)
def jK:=mQ 2 mH
def zp:SF:=
 (aR (fB (CP "held" (ao 0)) (bM [3,4,5]) [3,4,5] (lg (bf (aA bU (ao 3) (ao 1))) (bf (aA bU (ao 4) (ao 2)))) (aq 5)))
def uG:=mQ 6 zp
def cO:List (Str×MV):=[("Rights",.q 3 uG)]
def uF:SF:=
 (aR (aA Wv (eX mO (aP cO (ao 0) (ak (aq 1) (ak (aq 2) au)))) (qC (.int 0))))
def oN:=mQ 3 uF
def rQ:List (Str×MV):=[("Rights",.q 3 oN)]
def qT:SF:=
 (bO (jC (iH (aP rQ (bH "rights" (ao 0)) (ak (aq 1) (ak (aq 2) au))))) (eY "NoRight") aU)
def mV:=mQ 3 qT
def rO:SF:=
 (aD (RG kW "owner_count" (ao 0) (qC (.int 1)))
 (aD (Nf "holders" (ao 0) (gY "owner_count" (ao 0)) (qC (.bool true)))
 (aR (gY "owner_count" (ao 0)))))
def iK:=mG 1 rO
def pA:SF:=
 (aD (aY (aF 4) (gOf (bF (ak (aq 1) (ak (aq 2) (ak (aq 3) au))))))
 (aD (bO (bf (Py false "held" (aq 4) (ao 0))) (eY "HasRight") aU)
 (Nf "held" (ao 0) (aq 4) (qC (.bool true)))))
def ju:=mG 5 pA
def CW:SF:=
 (aY (aF 2) (gOf (Dd (dw (ao 2)) (bM [4,5]) [4,5,6] jD (Cg (ao 3) (aA gH (aA Jb (aA gH (ao 3) (ao 5)) (qC cW)) (qC (.int 1)))) (aF 6) [6] jD (bF (ak (aA gH (ao 4) (bF (ak (aq 6) au))) (ak (aA pG (ao 5) (aA pG (ao 6) (ao 3))) au))))))
def YF:SF:=
 (aD (aY (aF 2) (gOf (Bm (ak (bF (ak (bF au) (ak (aq 1) au))) au))))
 (aD (qw (dw (aq 0)) (aF 3) CW)
 (aR (fB (dw (ao 2)) (bM [4,5]) [4,5] jD (aq 4)))))
def K8:=mQ 7 YF
def TX:SF:=
 (aR (eX T5 (fB (Jc (ao 0) (ao 1)) (bM [2,3]) [2,3] (bf (aA Wv (ao 3) (ao 2))) (aA pG (ao 3) (ao 2)))))
def uL:=mQ 4 TX
def Fo:SF:=
 (aR (fB (dw (aZ K8 (ak (aq 0) (ak (aq 1) au)))) (aF 2) [2] (bf (aA bU (aZ uL (ak (aq 0) (ak (aq 2) au))) (ao 1))) (aq 2)))
def vD:=mQ 3 Fo
def Va:SF:=
 (aR (aA sO (aZ uL (ak (aq 0) (ak (aq 1) au))) (aZ uL (ak (aq 1) (ak (aq 0) au)))))
def FW:=mQ 2 Va
def ZW:SF:=
 (aR (aA wV (aZ FW (ak (aq 0) (ak (aq 1) au))) (ao 2)))
def rE:=mQ 3 ZW
def j8:SF:=
 (bO (jC (iH (eX PB (fB (dw (ao 2)) (bM [5,6]) [5,6] jD (aZ rE (ak (aq 4) (ak (aq 6) (ak (aq 3) au)))))))) (aR (aq 4)) aU)
def yq:SF:=
 (aD (qw (dw (aZ vD (ak (aq 0) (ak (aq 1) au)))) (aF 4) j8)
 (eY "NoneFree"))
def qp:=mQ 7 yq
def qJ:SF:=
 (aR (aA aV (aP cO (bH "rights" (ao 0)) (ak (aq 1) (ak (aq 2) au))) (qC (.int 0))))
def mK:=mQ 3 qJ
def Pg:SF:=
 (aR (eX Rm (ao 0)))
def qY:=mQ 1 Pg
def u9:SF:=
 (aR (fB (zN 1 (bH "beasts" (ao 0))) (bM [1,2]) [1,2] (iH (bH "alive" (ao 2))) (bF (ak (aq 1) (ak (aq 2) au)))))
def pN:=mQ 3 u9
def dY:List (Str×MV):=[("Herd",.q 1 pN)]
def yP:SF:=
 (aR (fB (dw (aP dY (ao 0) au)) (bM [2,3]) [2,3] (bf (aA (inD false) (bH "ground" (ao 3)) (ao 1))) (bF (ak (aq 2) (ak (aq 3) au)))))
def pP:=mQ 4 yP
def sH:SF:=
 (aR (fB (CP "held" (ao 0)) (bM [2,3,4]) [2,3,4] (bf (aA (inD false) (ao 3) (ao 1))) (bF (ak (aq 2) (ak (aq 4) au)))))
def ou:=mQ 5 sH
def qW:List (Str×MV):=[("Rights",.q 2 ou)]
def jH:List (Str×MV):=[("Herd",.q 2 pP)]
def lA:SF:=
 (aD (aY (aF 3) (gOf (aP bT (ao 0) (ak (aq 2) au))))
 (aD (aY (aF 4) (gOf (fB (dw (aP jH (bH "herd" (ao 0)) (ak (aq 3) au))) (bM [5,6]) [5,6] (lg (bf (wI true .none (bH "due" (ao 6)))) (bf (aA Bp (ao 5) (ao 1)))) (bF (ak (gY "owner" (ao 6)) (ak (gY "due" (ao 6)) au))))))
 (aR (aZ qY (ak (aA gH (aP qW (bH "rights" (ao 0)) (ak (aq 3) au)) (ao 4)) au)))))
def iY:=mQ 7 lA
def cZ:List (Str×MV):=[("Commons",.q 3 iY)]
def o7:SF:=
 (aR (aP cZ (ao 0) (ak (qC (.int 0)) (ak (aq 1) au))))
def lK:=mQ 2 o7
def uQ:SF:=
 (aR (eX maxD (fB (dw (aP bD (ao 0) (ak (aq 1) au))) (aF 2) [2] jD (aP dX (ao 0) (ak (aq 2) au)))))
def pW:=mQ 3 uQ
def sY:List (Str×MV):=[("Grounds",.q 2 pW)]
def uJ:SF:=
 (aR (aP sY (bH "grounds" (ao 0)) (ak (aq 1) au)))
def qj:=mQ 2 uJ
def iT:List (Str×MV):=[("Rights",.g 4 ju)]
def iw:List (Str×MV):=[("Commons",.g 1 iK)]
def cC:List (Str×MV):=[("Commons",.q 2 qj)]
def cH:List (Str×MV):=[("Commons",.q 2 lK)]
def bW:List (Str×MV):=[("Commons",.q 3 mK)]
def aO:List (Str×MV):=[("Commons",.q 3 mV)]
def aC:List (Str×MV):=[("Commons",.q 2 jK)]
def dZ:SF:=
 (aD (cG (gOf (aP aC (ao 0) (ak (aq 1) au))))
 (aD (cG (gOf (aP aG (bH "grounds" (ao 0)) (ak (aq 2) au))))
 (aD (bO (jC (pF wV wV (qC jk) (ao 3) (qC lH))) (eY "BadExtra") aU)
 (aD (cG (gOf (aP aO (ao 0) (ak (aq 1) (ak (aq 2) au)))))
 (aD (aY (aF 4) (gOf (aZ qp (ak (aP bW (ao 0) (ak (aq 1) (ak (aq 2) au))) (ak (aq 3) (ak (aP cH (ao 0) (ak (aq 2) au)) (ak (aP cC (ao 0) (ak (aq 2) au)) au)))))))
 (aD (aY (aF 5) (cQ iw (ao 0) au))
 (aD (cG (cQ iT (bH "rights" (ao 0)) (ak (aq 5) (ak (aq 2) (ak (aq 4) au)))))
 (aR (bF (ak (aq 5) (ak (aq 4) au)))))))))))
def cX:=mG 6 dZ
def jG:SF:=
 (aD (bO (jC (pF wV wV (qC (.int 0)) (ao 1) (qC ig))) (eY "BadAllowance") aU)
 (aD (Eo "allowances" (ao 0) (gOf (aq 1)))
 (aD (Eo "circles" (ao 0) (gOf (bF (ak (aP fu (ao 0) au) au))))
 (aR (aP fu (ao 0) au)))))
def fK:=mG 2 jG
def lM:List (Str×MV):=[("Grounds",.g 2 fK)]
def mW:SF:=
 (iJ (cQ lM (bH "grounds" (ao 0)) (ak (aq 1) au)))
def iz:=mG 2 mW
def KD:SF:=
 (aR (fB (dw (aZ qY (ak (aq 2) au))) (bM [4,5]) [4,5] (lg (bf (aA Bp (ao 4) (ao 0))) (iH (aZ rE (ak (aq 1) (ak (aq 5) (ak (aq 3) au)))))) (bF (ak (aq 4) (ak (aq 5) au)))))
def zY:=mQ 6 KD
def U7:SF:=
 (aR (eX nR (fB (Jc (ao 0) (ao 1)) (bM [2,3]) [2,3] jD (aA sO (ao 2) (ao 3)))))
def pU:=mQ 4 U7
def BJ:SF:=
 (aD (aY (aF 4) (gOf (aZ zY (ak (aq 0) (ak (aq 1) (ak (aq 2) (ak (aq 3) au)))))))
 (bO (iH (ao 4)) (aD (aY (bM [5,6]) (gOf (aA aV (ao 4) (qC (.int 0)))))
 (Cj "Clash" ["ones","others","ear"] (ak (bF (ak (aq 0) (ak (aq 1) au))) (ak (bF (ak (aq 5) (ak (aq 6) au))) (ak (aZ pU (ak (aq 1) (ak (aq 6) au))) au))))) aU))
def pC:=mQ 7 BJ
def mU:SF:=
 (cG (gOf (aZ pC (ak (aq 1) (ak (aq 2) (ak (aP cH (ao 0) (ak (aq 3) au)) (ak (aP cC (ao 0) (ak (aq 3) au)) au)))))))
def iy:=mQ 4 mU
def Jt:SF:=
 (aR (xg (aA bU (eX mO (ao 0)) (eX mO (qC jh))) (eX Pn (fB (dw (ao 0)) (aF 1) [1] jD (Vu (pF wV wV (qC (.int 0)) (ao 1) (qC cW)))))))
def ug:=mQ 2 Jt
def HF:SF:=
 (bO (jC (iH (aZ ug (ak (aq 0) au)))) (eY "BadEar") aU)
def qO:=mQ 1 HF
def bY:List (Str×MV):=[("Commons",.q 4 iy)]
def gA:SF:=
 (aD (cG (gOf (aP aC (ao 0) (ak (aq 1) au))))
 (aD (cG (gOf (aP aG (bH "grounds" (ao 0)) (ak (aq 2) au))))
 (aD (cG (gOf (aZ qO (ak (aq 3) au))))
 (aD (bO (bf (aA bU (ao 3) (qC jQ))) (eY "Bare") aU)
 (aD (bO (bf (aA (inD false) (ao 3) (aP cO (bH "rights" (ao 0)) (ak (aq 1) (ak (aq 2) au))))) (eY "HasRight") aU)
 (aD (cG (gOf (aP bY (ao 0) (ak (aq 1) (ak (aq 3) (ak (aq 2) au))))))
 (cG (cQ iT (bH "rights" (ao 0)) (ak (aq 1) (ak (aq 2) (ak (aq 3) au)))))))))))
def eG:=mG 4 gA
def wZ:SF:=
 (M7 "held" (ao 0) (bF (ak (aq 1) (ak (aq 2) (ak (aq 4) au)))))
def vU:SF:=
 (aD (aY (aF 3) (gOf (aP cO (ao 0) (ak (aq 1) (ak (aq 2) au)))))
 (aD (bO (jC (iH (ao 3))) (eY "NoRight") aU)
 (aD (qw (dw (aq 3)) (aF 4) wZ)
 (aR (aq 3)))))
def oM:=mG 5 vU
def yR:List (Str×MV):=[("Rights",.g 3 oM)]
def jL:SF:=
 (aD (cG (gOf (aP aC (ao 0) (ak (aq 1) au))))
 (aD (cG (gOf (aP aG (bH "grounds" (ao 0)) (ak (aq 2) au))))
 (aD (cG (gOf (aP aO (ao 0) (ak (aq 1) (ak (aq 2) au)))))
 (aD (bO (iH (eX PB (fB (dw (aP jH (bH "herd" (ao 0)) (ak (Bm (ak (aq 2) au)) au))) (bM [3,4]) [3,4] jD (aA bU (bH "owner" (ao 4)) (ao 1))))) (eY "StillThere") aU)
 (iJ (cQ yR (bH "rights" (ao 0)) (ak (aq 1) (ak (aq 2) au))))))))
def gG:=mG 5 jL
def qK:SF:=
 (aD (aY (bM [2,3,4,5,6]) (gOf (aq 1)))
 (aD (uN kW (ao 0) "owner" (gOf (aq 2)))
 (aD (uN kW (ao 0) "ground" (gOf (aq 3)))
 (aD (uN kW (ao 0) "due" (gOf (aq 4)))
 (aD (uN kW (ao 0) "ear" (gOf (aq 5)))
 (uN kW (ao 0) "alive" (gOf (aq 6))))))))
def nM:=mG 7 qK
def Nh:SF:=
 (aD (bO (bf (aA bU (aA aV (ao 0) (qC (.int 0))) (qC (.str "born")))) (aD (aY (bM [1,2,3,4]) (gOf (aq 0)))
 (aR (bF (ak (aq 3) (ak (aq 4) (ak (qC .none) (ak (qC jQ) (ak (qC (.bool true)) au)))))))) aU)
 (aD (aY (bM [1,3,4,5]) (gOf (aq 0)))
 (aR (bF (ak (aq 3) (ak (aq 4) (ak (qC .none) (ak (aq 5) (ak (qC (.bool true)) au)))))))))
def wJ:=mQ 6 Nh
def jR:List (Str×MV):=[("Beast",.g 2 nM)]
def Cy:SF:=
 (aD (Dy kW (ao 0) "story" (QH (ak (aq 1) au)))
 (aD (uN kW (ao 0) "mother" (gOf (Qx (bf (aA bU (aA aV (ao 1) (qC (.int 0))) (qC (.str "born")))) (aA aV (ao 1) (qC (.int 1))) (qC (.int 0)))))
 (cG (cQ jR (ao 0) (ak (aZ wJ (ak (aq 1) au)) au)))))
def tM:=mG 2 Cy
def wg:SF:=
 (aD (Eo "beasts" (ao 0) (Ax "Beast" tM (ak (aq 1) au)))
 (aR (eX mO (bH "beasts" (ao 0)))))
def qQ:=mG 2 wg
def jU:List (Str×MV):=[("Herd",.g 2 qQ)]
def jE:SF:=
 (aD (cG (gOf (aP aC (ao 0) (ak (aq 1) au))))
 (aD (cG (gOf (aP aG (bH "grounds" (ao 0)) (ak (aq 2) au))))
 (aD (cG (gOf (aZ qO (ak (aq 3) au))))
 (aD (cG (gOf (aP aO (ao 0) (ak (aq 1) (ak (aq 2) au)))))
 (iJ (cQ jU (bH "herd" (ao 0)) (ak (bF (ak (qC (.str "brought")) (ak (aq 1) (ak (aq 2) (ak (aq 3) au))))) au)))))))
def fY:=mG 4 jE
def uo:SF:=
 (aD (bO (jC (pF wV wV (qC (.int 1)) (ao 1) (eX mO (bH "beasts" (ao 0))))) (eY "NoBeast") aU)
 (aR (aA aV (bH "beasts" (ao 0)) (aA pG (ao 1) (qC (.int 1))))))
def lB:=mQ 2 uo
def dI:List (Str×MV):=[("Herd",.q 2 lB)]
def v7:SF:=
 (aD (aY (aF 2) (gOf (aP dI (ao 0) (ak (aq 1) au))))
 (aD (bO (jC (iH (bH "alive" (ao 2)))) (eY "Dead") aU)
 (aR (aq 2))))
def rC:=mQ 3 v7
def bJ:List (Str×MV):=[("Herd",.q 2 rC)]
def rA:SF:=
 (aD (aY (aF 2) (gOf (aP bJ (ao 0) (ak (aq 1) au))))
 (aD (bO (bf (wI false .none (bH "due" (ao 2)))) (eY "Unmarked") aU)
 (aR (aq 2))))
def oG:=mQ 3 rA
def bB:List (Str×MV):=[("Herd",.q 2 oG)]
def m7:SF:=
 (aD (aY (aF 2) (gOf (aP bB (bH "herd" (ao 0)) (ak (aq 1) au))))
 (iJ (cQ jU (bH "herd" (ao 0)) (ak (bF (ak (qC (.str "born")) (ak (aq 1) (ak (gY "owner" (ao 2)) (ak (gY "ground" (ao 2)) au))))) au))))
def jw:=mG 3 m7
def Jd:SF:=
 (aR (eX nR (fB (zN 0 (ao 0)) (bM [2,3]) [2,3] jD (Qx (bf (aA bU (ao 2) (ao 1))) (aA gH (ao 3) (qC (.int 1))) (aq 3)))))
def xK:=mQ 4 Jd
def Kf:SF:=
 (aD (aY (bM [2,3,4,5,6]) (gOf (aq 0)))
 (aD (aY (aF 7) (gOf (aA aV (ao 1) (qC (.int 0)))))
 (aD (bO (bf (aA bU (ao 7) (qC (.str "cut")))) (Qs 4 5 (gOf (aA aV (ao 1) (qC (.int 1))))) (bO (bf (aA bU (ao 7) (qC (.str "torn")))) (aY (aF 5) (gOf (aZ xK (ak (aq 5) (ak (aA aV (ao 1) (qC (.int 1))) au))))) (bO (bf (aA bU (ao 7) (qC (.str "sold")))) (aD (aY (aF 2) (gOf (aA aV (ao 1) (qC (.int 1)))))
 (Qs 4 5 (gOf (aA aV (ao 1) (qC (.int 2)))))) (bO (bf (aA bU (ao 7) (qC (.str "moved")))) (aY (aF 3) (gOf (aA aV (ao 1) (qC (.int 1))))) (bO (bf (aA bU (ao 7) (qC (.str "followed")))) (aD (aY (aF 2) (gOf (aA aV (ao 1) (qC (.int 1)))))
 (aY (aF 3) (gOf (aA aV (ao 1) (qC (.int 2)))))) (bO (bf (aA bU (ao 7) (qC (.str "passed")))) (aY (aF 2) (gOf (aA aV (ao 1) (qC (.int 1))))) (bO (bf (aA bU (ao 7) (qC (.str "died")))) (aY (aF 6) (gOf (qC (.bool false)))) aU)))))))
 (aR (bF (ak (aq 2) (ak (aq 3) (ak (aq 4) (ak (aq 5) (ak (aq 6) au))))))))))
def tX:=mQ 8 Kf
def yN:SF:=
 (aD (Eo "story" (ao 0) (gOf (aq 1)))
 (cG (cQ jR (ao 0) (ak (aZ tX (ak (aP mY (ao 0) au) (ak (aq 1) au))) au))))
def m9:=mG 2 yN
def bL:List (Str×MV):=[("Beast",.g 2 m9)]
def oH:SF:=
 (aD (aY (aF 2) (gOf (aP bJ (bH "herd" (ao 0)) (ak (aq 1) au))))
 (aD (aY (aF 3) (gOf (aZ pU (ak (gY "ear" (ao 2)) (ak (aP bW (ao 0) (ak (gY "owner" (ao 2)) (ak (gY "ground" (ao 2)) au))) au)))))
 (aD (cG (gOf (aP bY (ao 0) (ak (gY "owner" (ao 2)) (ak (aq 3) (ak (gY "ground" (ao 2)) au))))))
 (aD (cG (cQ bL (ao 2) (ak (bF (ak (qC (.str "cut")) (ak (aq 3) au))) au)))
 (aR (aq 3))))))
def jd:=mG 4 oH
def jm:SF:=
 (aD (aY (aF 3) (gOf (aP bJ (bH "herd" (ao 0)) (ak (aq 1) au))))
 (aD (bO (jC (pF wV Rp (qC (.int 0)) (ao 2) (eX mO (qC jh)))) (eY "NoPlace") aU)
 (aD (bO (bf (aA geD (aA aV (bH "ear" (ao 3)) (ao 2)) (qC cW))) (eY "Deepest") aU)
 (aD (cG (cQ bL (ao 3) (ak (bF (ak (qC (.str "torn")) (ak (aq 2) au))) au)))
 (aR (gY "ear" (ao 3)))))))
def eZ:=mG 4 jm
def vP:SF:=
 (aD (cG (gOf (aP dI (ao 0) (ak (aq 1) au))))
 (aR (fB (dw (aP dY (ao 0) au)) (bM [2,3]) [2,3] (lg (bf (aA bU (bH "mother" (ao 3)) (ao 1))) (bf (wI false .none (bH "due" (ao 3))))) (bF (ak (aq 2) (ak (aq 3) au))))))
def rF:=mQ 4 vP
def za:List (Str×MV):=[("Herd",.q 2 rF)]
def qP:SF:=
 (cG (cQ bL (ao 4) (ak (bF (ak (qC (.str "followed")) (ak (gY "owner" (ao 2)) (ak (gY "ground" (ao 2)) au)))) au)))
def tH:SF:=
 (aD (aY (aF 2) (gOf (aP dI (ao 0) (ak (aq 1) au))))
 (qw (dw (aP za (ao 0) (ak (aq 1) au))) (bM [3,4]) qP))
def oR:=mG 5 tH
def iQ:List (Str×MV):=[("Herd",.g 2 oR)]
def fP:SF:=
 (aD (aY (aF 3) (gOf (aP bB (bH "herd" (ao 0)) (ak (aq 1) au))))
 (aD (cG (gOf (aP aC (ao 0) (ak (aq 2) au))))
 (aD (bO (bf (aA bU (bH "owner" (ao 3)) (ao 2))) (eY "SameOwner") aU)
 (aD (cG (gOf (aP aO (ao 0) (ak (aq 2) (ak (gY "ground" (ao 3)) au)))))
 (aD (aY (aF 4) (gOf (aZ pU (ak (gY "ear" (ao 3)) (ak (aP bW (ao 0) (ak (aq 2) (ak (gY "ground" (ao 3)) au))) au)))))
 (aD (cG (gOf (aZ pC (ak (aq 2) (ak (aq 4) (ak (aP cZ (ao 0) (ak (aq 1) (ak (gY "ground" (ao 3)) au))) (ak (aP cC (ao 0) (ak (gY "ground" (ao 3)) au)) au)))))))
 (aD (cG (cQ bL (ao 3) (ak (bF (ak (qC (.str "sold")) (ak (aq 2) (ak (aq 4) au)))) au)))
 (aD (cG (cQ iQ (bH "herd" (ao 0)) (ak (aq 1) au)))
 (aR (aq 4))))))))))
def dW:=mG 5 fP
def fQ:SF:=
 (aD (aY (aF 3) (gOf (aP bB (bH "herd" (ao 0)) (ak (aq 1) au))))
 (aD (cG (gOf (aP aG (bH "grounds" (ao 0)) (ak (aq 2) au))))
 (aD (aY (aF 4) (gOf (gY "ground" (ao 3))))
 (aD (bO (bf (aA bU (ao 4) (ao 2))) (eY "SameGround") aU)
 (aD (cG (gOf (aP aO (ao 0) (ak (gY "owner" (ao 3)) (ak (aq 2) au)))))
 (aD (cG (gOf (aP bY (ao 0) (ak (gY "owner" (ao 3)) (ak (gY "due" (ao 3)) (ak (aq 2) au))))))
 (aD (cG (cQ bL (ao 3) (ak (bF (ak (qC (.str "moved")) (ak (aq 2) au))) au)))
 (aD (cG (cQ iQ (bH "herd" (ao 0)) (ak (aq 1) au)))
 (aR (aq 4))))))))))
def dU:=mG 5 fQ
def rB:SF:=
 (cG (cQ bL (aP bJ (bH "herd" (ao 0)) (ak (aq 1) au)) (ak (bF (ak (qC (.str "died")) au)) au)))
def lW:=mG 2 rB
def Jq:SF:=
 (aD (aY (aF 2) (gOf (aZ qY (ak (aq 0) au))))
 (aR (Dd (zN 0 (ao 2)) (bM [3,4]) [3,4,5] jD (dw (Ly (ao 2) (qD (aA gH (ao 3) (qC (.int 1)))) w6)) (aF 5) [5] (lg (bf (aA Bp (aA aV (ao 4) (qC (.int 0))) (aA aV (ao 5) (qC (.int 0))))) (iH (aZ rE (ak (aA aV (ao 4) (qC (.int 1))) (ak (aA aV (ao 5) (qC (.int 1))) (ak (aq 1) au)))))) (bF (ak (aq 4) (ak (aq 5) au))))))
def uV:=mQ 6 Jq
def tL:SF:=
 (aD (aY (aF 3) (gOf (aA sO (aP cC (ao 0) (ak (aq 1) au)) (aP cC (ao 0) (ak (aq 2) au)))))
 (aR (aZ uV (ak (aA gH (aP cH (ao 0) (ak (aq 1) au)) (aP cH (ao 0) (ak (aq 2) au))) (ak (aq 3) au)))))
def lF:=mQ 4 tL
def rR:SF:=
 (QV "circles" (ao 0) (aA pG (ao 3) (qC (.int 1))) (aq 2))
def vo:SF:=
 (aD (aY (aF 2) (gOf (eX nR (ao 1))))
 (aD (qw (dw (aq 1)) (aF 3) rR)
 (aR (aq 1))))
def lZ:=mG 4 vo
def gQ:List (Str×MV):=[("Grounds",.g 2 lZ)]
def sW:SF:=
 (aD (aY (aF 3) (gOf (aP bD (ao 0) (ak (aq 1) au))))
 (aD (aY (aF 4) (gOf (aP bD (ao 0) (ak (aq 2) au))))
 (aD (bO (bf (aA (inD false) (ao 2) (ao 3))) (eY "Together") aU)
 (iJ (cQ gQ (ao 0) (ak (eX Jh (aA gH (ao 3) (ao 4))) au))))))
def lN:=mG 5 sW
def v9:List (Str×MV):=[("Grounds",.g 3 lN)]
def nY:List (Str×MV):=[("Commons",.q 3 lF)]
def jM:SF:=
 (aD (cG (gOf (aP aG (bH "grounds" (ao 0)) (ak (aq 2) au))))
 (aD (bO (bf (aA (inD false) (ao 2) (aP bT (ao 0) (ak (aq 1) au)))) (eY "Together") aU)
 (aD (aY (aF 3) (gOf (aP nY (ao 0) (ak (aq 1) (ak (aq 2) au)))))
 (aD (bO (iH (ao 3)) (aD (aY (bM [4,5]) (gOf (aA aV (ao 3) (qC (.int 0)))))
 (Cj "Clash" ["ones","others","ear"] (ak (aq 4) (ak (aq 5) (ak (aZ pU (ak (aA aV (ao 4) (qC (.int 1))) (ak (aA aV (ao 5) (qC (.int 1))) au))) au))))) aU)
 (iJ (cQ v9 (bH "grounds" (ao 0)) (ak (aq 1) (ak (aq 2) au))))))))
def gq:=mG 6 jM
def pY:SF:=
 (aD (aY (aF 2) (gOf (fB (dw (aP bD (ao 0) (ak (aq 1) au))) (aF 3) [3] (bf (aA Bp (ao 3) (ao 1))) (aq 3))))
 (aD (bO (jC (iH (ao 2))) (eY "Alone") aU)
 (aD (cG (cQ gQ (ao 0) (ak (Bm (ak (aq 1) au)) au)))
 (iJ (cQ gQ (ao 0) (ak (aq 2) au))))))
def ji:=mG 4 pY
def o9:List (Str×MV):=[("Grounds",.g 2 ji)]
def qu:SF:=
 (iJ (cQ o9 (bH "grounds" (ao 0)) (ak (aq 1) au)))
def j7:=mG 2 qu
def tO:SF:=
 (Rg kW (ao 0) "held" (qDc (CP "held" (ao 0)) (bM [3,4,5]) [3,4,5] (bF (ak (Qx (bf (aA bU (ao 3) (ao 1))) (aq 2) (aq 3)) (ak (aq 4) (ak (aq 5) au))))))
def pB:=mG 6 tO
def CG:SF:=
 (aR (fB (dw (aP dY (ao 0) au)) (bM [2,3]) [2,3] (bf (aA bU (bH "owner" (ao 3)) (ao 1))) (bF (ak (aq 2) (ak (aq 3) au)))))
def xX:=mQ 4 CG
def Ay:List (Str×MV):=[("Herd",.q 2 xX)]
def sG:List (Str×MV):=[("Rights",.g 3 pB)]
def rZ:SF:=
 (cG (cQ bL (ao 5) (ak (bF (ak (qC (.str "passed")) (ak (aq 2) au))) au)))
def jV:SF:=
 (aD (cG (gOf (aP aC (ao 0) (ak (aq 1) au))))
 (aD (cG (gOf (aP aC (ao 0) (ak (aq 2) au))))
 (aD (bO (bf (aA bU (ao 1) (ao 2))) (eY "SameOwner") aU)
 (aD (cG (cQ sG (bH "rights" (ao 0)) (ak (aq 1) (ak (aq 2) au))))
 (aD (aY (aF 3) (gOf (aP Ay (bH "herd" (ao 0)) (ak (aq 1) au))))
 (aD (qw (dw (aq 3)) (bM [4,5]) rZ)
 (aD (M7 "holders" (ao 0) (aq 1))
 (aR (fB (dw (ao 3)) (bM [4,5]) [4,5] jD (aq 4))))))))))
def fX:=mG 6 jV
def vL:SF:=
 (aD (bO (bf (aA bU (ao 0) (qC (.str "ear")))) (aR (xg (xM .tuple (ao 1)) (aZ ug (ak (aq 1) au)))) aU)
 (aD (aY (aF 2) (gOf (Qx (bf (aA bU (ao 0) (qC (.str "place")))) (aA pG (eX mO (qC jh)) (qC (.int 1))) (qC oW))))
 (aR (xg (xM .int (ao 1)) (Vu (pF wV wV (qC (.int 0)) (ao 1) (ao 2)))))))
def iZ:=mQ 3 vL
def YB:SF:=
 (aD (bO (Dj (bf (aA bU (eX mO (ao 0)) (qC (.int 0)))) (bf (T9 true (zE yO) (aA aV (ao 0) (qC (.int 0)))))) (aR (qC (.bool false))) aU)
 (aD (aY (aF 1) (gOf (acu (zE yO) (aA aV (ao 0) (qC (.int 0))))))
 (aD (aY (aF 2) (gOf (Ly (ao 0) (qD (qC (.int 1))) w6)))
 (aR (xg (aA bU (eX mO (ao 2)) (eX mO (ao 1))) (eX Pn (fB (Jc (ao 1) (ao 2)) (bM [3,4]) [3,4] jD (aZ iZ (ak (aq 3) (ak (aq 4) au))))))))))
def Gq:=mQ 5 YB
def rW:List (Str×MV):=[("Commons",.g 4 cX)]
def tK:List (Str×MV):=[("Commons",.g 3 fX)]
def yg:List (Str×MV):=[("Commons",.g 2 j7)]
def wF:List (Str×MV):=[("Commons",.g 3 gq)]
def yM:List (Str×MV):=[("Commons",.g 2 lW)]
def yd:List (Str×MV):=[("Commons",.g 3 dU)]
def xQ:List (Str×MV):=[("Commons",.g 3 dW)]
def tD:List (Str×MV):=[("Commons",.g 3 eZ)]
def uP:List (Str×MV):=[("Commons",.g 2 jd)]
def xU:List (Str×MV):=[("Commons",.g 2 jw)]
def wD:List (Str×MV):=[("Commons",.g 4 fY)]
def v8:List (Str×MV):=[("Commons",.g 3 gG)]
def wB:List (Str×MV):=[("Commons",.g 4 eG)]
def pX:List (Str×MV):=[("Commons",.g 2 iz)]
def cM:SF:=
 (aD (bO (jC (iH (aZ Gq (ak (aq 1) au)))) (eY "BadDeed") aU)
 (aD (QX 2 3 (gOf (aq 1)))
 (aD (bO (bf (aA bU (ao 2) (qC (.str "owner")))) (iJ (cQ iw (ao 0) au)) aU)
 (aD (bO (bf (aA bU (ao 2) (qC (.str "ground")))) (iJ (cQ pX (ao 0) (ak (aA aV (ao 3) (qC (.int 0))) au))) aU)
 (aD (bO (bf (aA bU (ao 2) (qC (.str "enrol")))) (iJ (cQ wB (ao 0) (ak (aA aV (ao 3) (qC (.int 0))) (ak (aA aV (ao 3) (qC (.int 1))) (ak (aA aV (ao 3) (qC (.int 2))) au))))) aU)
 (aD (bO (bf (aA bU (ao 2) (qC (.str "leave")))) (iJ (cQ v8 (ao 0) (ak (aA aV (ao 3) (qC (.int 0))) (ak (aA aV (ao 3) (qC (.int 1))) au)))) aU)
 (aD (bO (bf (aA bU (ao 2) (qC (.str "bring")))) (iJ (cQ wD (ao 0) (ak (aA aV (ao 3) (qC (.int 0))) (ak (aA aV (ao 3) (qC (.int 1))) (ak (aA aV (ao 3) (qC (.int 2))) au))))) aU)
 (aD (bO (bf (aA bU (ao 2) (qC (.str "bear")))) (iJ (cQ xU (ao 0) (ak (aA aV (ao 3) (qC (.int 0))) au))) aU)
 (aD (bO (bf (aA bU (ao 2) (qC (.str "cut")))) (iJ (cQ uP (ao 0) (ak (aA aV (ao 3) (qC (.int 0))) au))) aU)
 (aD (bO (bf (aA bU (ao 2) (qC (.str "tear")))) (iJ (cQ tD (ao 0) (ak (aA aV (ao 3) (qC (.int 0))) (ak (aA aV (ao 3) (qC (.int 1))) au)))) aU)
 (aD (bO (bf (aA bU (ao 2) (qC (.str "sell")))) (iJ (cQ xQ (ao 0) (ak (aA aV (ao 3) (qC (.int 0))) (ak (aA aV (ao 3) (qC (.int 1))) au)))) aU)
 (aD (bO (bf (aA bU (ao 2) (qC (.str "move")))) (iJ (cQ yd (ao 0) (ak (aA aV (ao 3) (qC (.int 0))) (ak (aA aV (ao 3) (qC (.int 1))) au)))) aU)
 (aD (bO (bf (aA bU (ao 2) (qC (.str "die")))) (iJ (cQ yM (ao 0) (ak (aA aV (ao 3) (qC (.int 0))) au))) aU)
 (aD (bO (bf (aA bU (ao 2) (qC (.str "unite")))) (iJ (cQ wF (ao 0) (ak (aA aV (ao 3) (qC (.int 0))) (ak (aA aV (ao 3) (qC (.int 1))) au)))) aU)
 (aD (bO (bf (aA bU (ao 2) (qC (.str "part")))) (iJ (cQ yg (ao 0) (ak (aA aV (ao 3) (qC (.int 0))) au))) aU)
 (aD (bO (bf (aA bU (ao 2) (qC (.str "pass")))) (iJ (cQ tK (ao 0) (ak (aA aV (ao 3) (qC (.int 0))) (ak (aA aV (ao 3) (qC (.int 1))) au)))) aU)
 (iJ (cQ rW (ao 0) (ak (aA aV (ao 3) (qC (.int 0))) (ak (aA aV (ao 3) (qC (.int 1))) (ak (aA aV (ao 3) (qC (.int 2))) au)))))))))))))))))))))
def bQ:=mG 4 cM
def fM:List (Str×MV):=[("Commons",.g 2 bQ)]
def KR:SF:=
 (aD (aY (aF 3) (gOf (qC .none)))
 (aD (Uc (aY (aF 3) (cQ fM (ao 0) (ak (aq 1) au))) [⟨"CommonError",λx=>mX.lookup x,none,[(3,(.con .none))]⟩])
 (aD (bO (bf (wI false .none (ao 3))) (aR (aq 2)) aU)
 (aD (aY (bM [4,5,6]) (gOf (aq 2)))
 (aD (bO (Dj (bf (aA bU (aA aV (ao 1) (qC (.int 0))) (qC (.str "owner")))) (bf (aA bU (aA aV (ao 1) (qC (.int 0))) (qC (.str "heir"))))) (Jv 4 (qC (.int 1))) aU)
 (aD (bO (bf (aA bU (aA aV (ao 1) (qC (.int 0))) (qC (.str "ground")))) (Jv 5 (qC (.int 1))) aU)
 (aD (bO (Dj (bf (aA bU (aA aV (ao 1) (qC (.int 0))) (qC (.str "bring")))) (bf (aA bU (aA aV (ao 1) (qC (.int 0))) (qC (.str "bear"))))) (Jv 6 (qC (.int 1))) aU)
 (aR (bF (ak (aq 4) (ak (aq 5) (ak (aq 6) au))))))))))))
def rH:=mG 7 KR
def Qi:SF:=
 (aD (aY (aF 5) (gOf (aA aV (bF (ak (qC (.int 0)) (ak (qC (.int 0)) (ak (qC (.int 0)) (ak (qC (.int 0)) (ak (qC (.int 0)) (ak (qC (.int 1)) (ak (qC (.int 1)) (ak (qC (.int 2)) (ak (qC (.int 3)) (ak (eX Vc (qC (.int 1))) au))))))))))) (ao 4))))
 (Ou 2 (aA sO (qC (.int 0)) (aA Jb (qC (.int 9)) (aA gH (ao 3) (ao 5))))))
def XF:SF:=
 (aD (Jr 2 (QH au))
 (aD (qw (Jc (aq 0) (aq 1)) (bM [3,4]) Qi)
 (aR (eX nR (ao 2)))))
def Kv:=mQ 6 XF
def KH:SF:=
 (aD (bO (bf (aA Rp (ao 1) (qC (.int 4)))) (aR (aZ Kv (ak (aq 2) (ak (aq 0) au)))) aU)
 (aR (aZ tY (ak (aq 0) (ak (aq 1) au)))))
def wY:=mQ 3 KH
def Xx:SF:=
 (aD (bO (iH (ao 2)) (aR (aA gH (qC (.int 1)) (aA lV (ao 0) (aA sO (qC (.int 1)) (ao 1))))) aU)
 (aR (aA lV (ao 0) (aA gH (ao 1) (qC (.int 2))))))
def jX:=mQ 3 Xx
def j6:SF:=
 (aD (aY (aF 6) (gOf (aA Bp (aA aV (ao 3) (qC (.int 6))) (qC (.int 9)))))
 (aD (aY (aF 7) (gOf (aZ wY (ak (Ly (ao 3) (qD (qC (.int 8))) (qD (qC (.int 14)))) (ak (aA aV (ao 3) (qC (.int 7))) (ak (aq 5) au))))))
 (aD (bO (bf (aA bU (ao 0) (qC (.str "owner")))) (aR (bF (ak (qC (.str "owner")) au))) aU)
 (aD (bO (bf (aA bU (ao 0) (qC (.str "ground")))) (aR (bF (ak (qC (.str "ground")) (ak (aA gH (aA aV (bF (ak (qC (.int 0)) (ak (qC (.int 1)) (ak (qC (.int 2)) (ak (qC (.int 3)) (ak (qC (.int 0)) (ak (qC (.int 1)) (ak (qC (.int 5)) (ak (qC (.int 6)) (ak (qC (.int 7)) (ak (qC (.int 8)) au))))))))))) (aA aV (ao 3) (qC (.int 7)))) (aA Av (qC (.int 4)) (eX intD (Nm (ao 6))))) au)))) aU)
 (aD (bO (lg (bf (aA bU (ao 0) (qC (.str "bring")))) (bf (aA Rp (aA aV (ao 3) (qC (.int 7))) (qC (.int 6))))) (aY (aF 7) (gOf (bF (ak (qC (.int 0)) (ak (qC (.int 0)) (ak (qC (.int 0)) (ak (qC (.int 0)) (ak (qC (.int 0)) (ak (qC (.int 0)) au))))))))) aU)
 (aD (bO (Dj (bf (aA bU (ao 0) (qC (.str "enrol")))) (bf (aA bU (ao 0) (qC (.str "bring"))))) (aR (bF (ak (aq 0) (ak (aZ jX (ak (aq 1) (ak (aA aV (ao 4) (qC (.int 0))) (ak (aq 6) au)))) (ak (aZ jX (ak (aq 2) (ak (aA aV (ao 4) (qC (.int 1))) (ak (aq 6) au)))) (ak (aq 7) au)))))) aU)
 (aD (bO (bf (aA bU (ao 0) (qC (.str "leave")))) (aR (bF (ak (aq 0) (ak (aZ jX (ak (aq 1) (ak (aA aV (ao 4) (qC (.int 0))) (ak (aq 6) au)))) (ak (aZ jX (ak (aq 2) (ak (aA aV (ao 4) (qC (.int 1))) (ak (aq 6) au)))) au))))) aU)
 (aD (bO (bf (aA bU (ao 0) (qC (.str "heir")))) (aR (bF (ak (aq 0) (ak (aZ jX (ak (aq 1) (ak (aA aV (ao 4) (qC (.int 0))) (ak (aq 6) au)))) (ak (aZ jX (ak (aq 2) (ak (aA aV (ao 4) (qC (.int 1))) (ak (aq 6) au)))) (ak (aA lV (aA aV (ao 3) (qC (.int 7))) (qC (.int 4))) au)))))) aU)
 (aD (bO (bf (aA bU (ao 0) (qC (.str "pass")))) (aR (bF (ak (aq 0) (ak (aZ jX (ak (aq 1) (ak (aA aV (ao 4) (qC (.int 0))) (ak (aq 6) au)))) (ak (aZ jX (ak (aq 2) (ak (aA aV (ao 4) (qC (.int 0))) (ak (aq 6) au)))) au))))) aU)
 (aD (bO (bf (aA bU (ao 0) (qC (.str "unite")))) (aR (bF (ak (aq 0) (ak (aZ jX (ak (aq 1) (ak (aA aV (ao 4) (qC (.int 1))) (ak (aq 6) au)))) (ak (aZ jX (ak (aq 2) (ak (aA aV (ao 4) (qC (.int 1))) (ak (aq 6) au)))) au))))) aU)
 (aD (bO (bf (aA bU (ao 0) (qC (.str "part")))) (aR (bF (ak (aq 0) (ak (aZ jX (ak (aq 1) (ak (aA aV (ao 4) (qC (.int 1))) (ak (aq 6) au)))) au)))) aU)
 (aD (bO (bf (aA bU (ao 0) (qC (.str "tear")))) (aR (bF (ak (aq 0) (ak (aZ jX (ak (aq 1) (ak (aA aV (ao 4) (qC (.int 2))) (ak (aq 6) au)))) (ak (aA lV (aA aV (ao 3) (qC (.int 7))) (qC (.int 6))) au))))) aU)
 (aD (bO (bf (aA bU (ao 0) (qC (.str "sell")))) (aR (bF (ak (aq 0) (ak (aZ jX (ak (aq 1) (ak (aA aV (ao 4) (qC (.int 2))) (ak (aq 6) au)))) (ak (aZ jX (ak (aq 2) (ak (aA aV (ao 4) (qC (.int 0))) (ak (aq 6) au)))) au))))) aU)
 (aD (bO (bf (aA bU (ao 0) (qC (.str "move")))) (aR (bF (ak (aq 0) (ak (aZ jX (ak (aq 1) (ak (aA aV (ao 4) (qC (.int 2))) (ak (aq 6) au)))) (ak (aZ jX (ak (aq 2) (ak (aA aV (ao 4) (qC (.int 1))) (ak (aq 6) au)))) au))))) aU)
 (aR (bF (ak (aq 0) (ak (aZ jX (ak (aq 1) (ak (aA aV (ao 4) (qC (.int 2))) (ak (aq 6) au)))) au))))))))))))))))))
def gM:=mQ 8 j6
def Je:SF:=
 (aD (aY (aF 3) (DW rH (ak (aq 0) (ak (bF (ak (qC (.str "bring")) (ak (qC (.int 1)) (ak (qC (.int 1)) (ak (bF (ak (qC (.int 0)) (ak (qC (.int 0)) (ak (qC (.int 0)) (ak (qC (.int 0)) (ak (qC (.int 0)) (ak (qC (.int 0)) au))))))) au))))) (ak (aq 3) au)))))
 (aY (aF 3) (DW rH (ak (aq 0) (ak (bF (ak (qC (.str "cut")) (ak (aA aV (ao 3) (qC (.int 2))) au))) (ak (aq 3) au))))))
def Dc:SF:=
 (aD (aY (aF 8) (gOf (aZ BR (ak (aq 7) (ak (qC (.int 14)) (ak (qC (.int 10)) au))))))
 (aD (aY (aF 9) (gOf (aZ Ag (ak (aA gH (aA Av (aA aV (ao 8) (qC (.int 0))) (qC (.int 10))) (aA aV (ao 8) (qC (.int 1)))) au))))
 (aD (aY (aF 10) (gOf (aA gH (aA Av (aA aV (ao 8) (qC (.int 2))) (qC (.int 10))) (aA aV (ao 8) (qC (.int 3))))))
 (aD (aY (aF 11) (gOf (aA gH (aA Av (aA aV (ao 8) (qC (.int 4))) (qC (.int 10))) (aA aV (ao 8) (qC (.int 5))))))
 (aD (bO (bf (aA Rp (ao 6) (eX mO (ao 5)))) (aY (bM [9,10,11]) (gOf (aA aV (ao 5) (ao 6)))) aU)
 (aY (aF 3) (DW rH (ak (aq 0) (ak (aZ gM (ak (aq 9) (ak (aq 10) (ak (aq 11) (ak (aq 8) (ak (aq 3) (ak (aq 4) au))))))) (ak (aq 3) au))))))))))
def Q8:SF:=
 (aD (aY (aF 3) (gOf (bF (ak (qC (.int 0)) (ak (qC (.int 0)) (ak (qC (.int 0)) au))))))
 (aD (aY (aF 4) (gOf (aZ Q7 (ak (aA Dq (ao 2) (qC (.int 512))) au))))
 (aD (aY (aF 5) (gOf (aZ vC (ak (aq 2) au))))
 (aD (qw (zN 0 (aq 1)) (bM [6,7]) Dc)
 (aD (bO (bf (aA bU (aA lV (aA Dq (ao 2) (qC (.int 8))) (qC (.int 8))) (qC (.int 1)))) (qw (wN (aA Av (aA lV (aA Dq (ao 2) (qC (.int 64))) (qC (.int 8))) (qC (.int 4)))) (aF 12) Je) aU)
 (aR (aq 3)))))))
def Gv:=mG 13 Q8
def aag:SF:=
 (aD (bO (bf (aA Rp (ao 1) (eX mO (ao 0)))) (aR (aA aV (ao 0) (ao 1))) aU)
 (aR (qC (.int 0))))
def Ao:=mQ 2 aag
def vh:SF:=
 (aR (eX El (bH "story" (aP dI (bH "herd" (ao 0)) (ak (aq 1) au)))))
def mj:=mQ 2 vh
def Vb:SF:=
 (aR (xg (xM .int (ao 0)) (Nm (xM .bool (ao 0)))))
def Hv:=mQ 1 Vb
def Oj(r:Mo->List Dat->Out Dat):SF:=
 (bO (jC (iH (aZ r (ak (aq 2) (ak (aq 3) au))))) (aR (qC (.bool false))) aU)
def FZ(r:Mo->List Dat->Out Dat):SF:=
 (aD (bO (bf (wI false .none (ao 1))) (aR (wI false .none (ao 0))) aU)
 (aD (bO (bf (wI false (.bool true) (ao 1))) (aR (wI false (.bool true) (ao 0))) aU)
 (aD (bO (bf (wI false (.bool false) (ao 1))) (aR (wI false (.bool false) (ao 0))) aU)
 (aD (bO (iH (xM .int (ao 1))) (aR (xg (aZ Hv (ak (aq 0) au)) (aA bU (ao 0) (ao 1)))) aU)
 (aD (bO (iH (xM .str (ao 1))) (aR (xg (xM .str (ao 0)) (aA bU (ao 0) (ao 1)))) aU)
 (aD (bO (lg (iH (xM .tuple (ao 1))) (jC (iH (xM .tuple (ao 0))))) (aR (qC (.bool false))) aU)
 (aD (bO (lg (iH (xM .list (ao 1))) (jC (iH (xM .list (ao 0))))) (aR (qC (.bool false))) aU)
 (aD (bO (bf (aA Bp (eX mO (ao 0)) (eX mO (ao 1)))) (aR (qC (.bool false))) aU)
 (aD (qw (Jc (aq 0) (aq 1)) (bM [2,3]) (Oj r))
 (aR (qC (.bool true))))))))))))
def iW:Nat->Mo->List Dat->Out Dat
 |0=>λ_ _=>.bad
 |n+1=>mQ 4 (FZ (iW n))
def cR:List (Str×MV):=[("Commons",.q 2 mj)]
def uD:SF:=
 (aD (aY (aF 5) (gOf (bF (ak (qC (.str "cut")) (ak (aq 1) au)))))
 (aD (bO (bf (aA bU (aA lV (ao 4) (qC (.int 4))) (qC (.int 1)))) (aY (aF 5) (gOf (bF (ak (qC (.str "tear")) (ak (aq 1) (ak (aA lV (aA Dq (ao 4) (qC (.int 4))) (qC (.int 6))) au)))))) aU)
 (Uc (aD (cG (cQ fM (ao 0) (ak (aq 5) au)))
 (Jv 3 (qC (.int 1)))) [⟨"CommonError",λx=>mX.lookup x,none,[(5,(.con (.tuple [])))]⟩])))
def X7:SF:=
 (aD (aY (aF 2) (gOf (aP cR (ao 0) (ak (aq 1) au))))
 (aD (aY (aF 3) (gOf (qC (.int 0))))
 (aD (qw (wN (qC (.int 130))) (aF 4) uD)
 (aD (aY (aF 6) (gOf (aP cR (ao 0) (ak (aq 1) au))))
 (aR (xg (aA bU (eX mO (ao 6)) (aA gH (eX mO (ao 2)) (ao 3))) (aZ (iW 10) (ak (Ly (ao 6) w6 (qD (eX mO (ao 2)))) (ak (aq 2) au)))))))))
def Ke:=mG 7 X7
def T8:SF:=
 (aR (eX T5 (fB (Jc (ao 0) (ao 1)) (bM [2,3]) [2,3] jD (aA sO (qC (.int 0)) (aA pG (ao 3) (ao 2))))))
def Gp:=mQ 4 T8
def oO:SF:=
 (bO (bf (aA (inD false) (aA aV (ao 2) (qC (.int 0))) (bF (ak (qC (.str "cut")) (ak (qC (.str "sold")) au))))) (aY (aF 1) (gOf (qC (.int 0)))) (bO (lg (bf (aA bU (aA aV (ao 2) (qC (.int 0))) (qC (.str "torn")))) (bf (wI true .none (ao 1)))) (Jv 1 (qC (.int 1))) aU))
def Bj:SF:=
 (aD (aY (aF 1) (gOf (qC .none)))
 (aD (qw (dw (aq 0)) (aF 2) oO)
 (aR (aq 1))))
def jW:=mQ 3 Bj
def HJ:SF:=
 (aR (fB (dw (aA aV (ao 0) (qC (.int 2)))) (aF 3) [3] (lg (bf (aA bU (aA aV (ao 3) (qC (.int 0))) (ao 1))) (bf (aA bU (aA aV (ao 3) (qC (.int 1))) (ao 2)))) (aA aV (ao 3) (qC (.int 2)))))
def xJ:=mQ 4 HJ
def LR:SF:=
 (aY (aF 3) (gOf (aZ tX (ak (aq 3) (ak (aq 4) au)))))
def Uo:SF:=
 (aD (QX 1 2 (gOf (aq 0)))
 (aD (aY (aF 3) (gOf (aZ wJ (ak (aq 1) au))))
 (aD (qw (dw (aq 2)) (aF 4) LR)
 (aR (aq 3)))))
def Cm:=mQ 5 Uo
def wX:SF:=
 (aD (aY (aF 3) (gOf (aA aV (aA aV (ao 1) (qC (.int 3))) (aA pG (ao 2) (qC (.int 1))))))
 (aD (aY (aF 4) (gOf (aP cR (ao 0) (ak (aq 2) au))))
 (aD (bO (Dj (jC (iH (aZ (iW 10) (ak (aq 4) (ak (eX El (aA aV (ao 3) (qC (.int 6)))) au))))) (jC (iH (aZ (iW 10) (ak (aZ Cm (ak (aq 4) au)) (ak (Ly (ao 3) w6 (qD (qC (.int 5)))) au)))))) (aR (qC (.bool false))) aU)
 (aD (aY (aF 5) (gOf (qC .none)))
 (aD (bO (bf (wI true .none (aA aV (ao 3) (qC (.int 2))))) (aY (aF 5) (gOf (aZ Gp (ak (aA aV (ao 3) (qC (.int 2))) (ak (aA aV (ao 3) (qC (.int 3))) au))))) aU)
 (aD (bO (jC (iH (aZ (iW 10) (ak (aZ jW (ak (aq 4) au)) (ak (aq 5) au))))) (aR (qC (.bool false))) aU)
 (aD (bO (jC (iH (aA aV (ao 3) (qC (.int 4))))) (aR (qC (.bool true))) aU)
 (aD (bO (Dj (bf (aA (inD true) (aA aV (ao 3) (qC (.int 0))) (aA aV (ao 1) (qC (.int 0))))) (bf (aA bU (aZ xJ (ak (aq 1) (ak (aA aV (ao 3) (qC (.int 0))) (ak (aA aV (ao 3) (qC (.int 1))) au)))) (Bm au)))) (aR (qC (.bool false))) aU)
 (aD (bO (Dj (bf (wI true .none (aA aV (ao 3) (qC (.int 2))))) (bf (aA bU (aA aV (ao 3) (qC (.int 5))) (qC (.int 0))))) (aR (qC (.bool true))) aU)
 (aD (aY (aF 6) (gOf (aA aV (aA aV (ao 1) (qC (.int 3))) (aA pG (aA aV (ao 3) (qC (.int 5))) (qC (.int 1))))))
 (aR (acg (Nm (aA aV (ao 6) (qC (.int 4)))) (aA bU (bF (ak (aA aV (ao 6) (qC (.int 0))) (ak (aA aV (ao 6) (qC (.int 1))) au))) (bF (ak (aA aV (ao 3) (qC (.int 0))) (ak (aA aV (ao 3) (qC (.int 1))) au))))))))))))))))
def rM:=mQ 7 wX
def oZ:List (Str×MV):=[("Commons",.q 1 nu)]
def Cq:SF:=
 (bO (jC (iH (aZ rM (ak (aq 1) (ak (aq 4) (ak (aA gH (ao 5) (qC (.int 1))) au)))))) (aR (qC (.bool false))) aU)
def Xi:SF:=
 (aD (aY (aF 1) (Ax "Commons" pQ au))
 (aD (aY (aF 2) (DW Gv (ak (aq 1) (ak (Ly (ao 0) (qD (qC (.int 1))) (qD (qC (.int 44)))) (ak (eX Qc (aZ Ao (ak (aq 0) (ak (qC (.int 0)) au)))) au)))))
 (aD (aY (aF 3) (gOf (eX Qc (aZ Ao (ak (aq 0) (ak (qC (.int 1)) au))))))
 (aD (bO (lg (bf (aA bU (aA lV (ao 3) (qC (.int 8))) (qC (.int 3)))) (bf (aA Wv (aA aV (ao 2) (qC (.int 2))) (qC (.int 0))))) (acy (Xl (Xq (DW Ke (ak (aq 1) (ak (aA gH (qC (.int 1)) (aA lV (aA Dq (ao 3) (qC (.int 8))) (aA aV (ao 2) (qC (.int 2))))) au))))) (aR (qC (.bool false))) aU) aU)
 (aD (aY (aF 4) (gOf (aP oZ (ao 1) au)))
 (aD (qw (wN (eX mO (aA aV (ao 4) (qC (.int 3))))) (aF 5) Cq)
 (aR (qC (.bool true)))))))))
def Ss:=mG 6 Xi
theorem Xc:FnScope ["self","ones","others","ear"] ["self","ones","others","ear"] (defScope Kg):=⟨rfl,rfl,rfl,by decide +kernel,rfl,by decide +kernel,by decide +kernel⟩
abbrev rX(N:List Str)(s:Stmt)(G:List (Str×GV))(B:List Str)(Ms:List (Str×List (Str×MV)))(ml:List Str):Option SF:=rd ⟨N,defScope s,G,B,⟨Ms,kW,xmH,dfH,Wb⟩,ml,true⟩ (defBody s)
abbrev rY(N:List Str)(s:Stmt)(G:List (Str×GV))(B:List Str)(Ms:List (Str×List (Str×MV)))(ml:List Str):Option SF:=rdG ⟨N,defScope s,G,B,⟨Ms,kW,xmH,dfH,Wb⟩,ml,true⟩ (defBody s)
theorem ahe:FnScope ["_law_found","_law_due","_law_one","_law_other"] ["_law_found","_law_due"] (defScope RP):=⟨rfl,rfl,rfl,by decide +kernel,rfl,by decide +kernel,by decide +kernel⟩
theorem ajN:FnScope ["_law_script","_law_house","_law_counts","_law_cell_here","_law_stand","_law_at"] ["_law_script"] (defScope MP):=⟨rfl,rfl,rfl,by decide +kernel,rfl,by decide +kernel,by decide +kernel⟩
theorem Um:rY ["self"] Gj [] [] [] []=some yX:=by kernel_rfl
theorem WY:rY ["self"] Jz [] [] [] []=some Ar:=by kernel_rfl
theorem aam:rY ["self"] NP [] [] [] []=some Fb:=by kernel_rfl
theorem TQ:rY ["self"] Gz [("Herd",.cls 0 zL),("Rights",.cls 0 vO),("Grounds",.cls 0 uM)] [] [] []=some zm:=by kernel_rfl
theorem Xd:rX ["self"] JL [] [] [] []=some Az:=by kernel_rfl
theorem YT:rX ["self"] Lj [] ["tuple"] [("stand",mY)] []=some CQ:=by kernel_rfl
theorem OJ:rX ["self"] Di [] ["list"] [] []=some wu:=by kernel_rfl
theorem Nz:rX ["self"] Bs [] ["list"] [] []=some vm:=by kernel_rfl
theorem Uz:rX ["self"] Fv [] ["len"] [] []=some uO:=by kernel_rfl
theorem Xe:rX ["self","ground"] JK [] [] [("many",fu)] []=some Bo:=by kernel_rfl
theorem Tn:rX ["self","ground"] Hg [("NoGround",.exc)] [] [("has",zj)] []=some yW:=by kernel_rfl
theorem JV:rX ["self","ground"] yK [] [] [("need",aG)] []=some oA:=by kernel_rfl
theorem Kw:rX ["self","ground"] zX [] ["list"] [("need",aG)] []=some oV:=by kernel_rfl
theorem Km:rX ["self","ground"] Ad [] [] [("together",bD)] []=some oY:=by kernel_rfl
theorem Tf:rX ["self","grounds","beasts","ground","beast"] Ho [] ["range","tuple"] [("all_rows",tR),("owners",vA),("told",vR),("many",fu),("together",bT),("allowance",dX)] []=some yL:=by kernel_rfl
theorem alr:rX ["_law_cell_here","_law_many","_law_base","_law_found","_law_k","_law_turn"] s_row [] ["range","abs"] [] ["_law_found"]=some abR:=by kernel_rfl
theorem afy:rX ["_law_figures","_law_mode","_law_figure"] ZD [] ["tuple","max"] [] []=some O5:=by kernel_rfl
theorem alx:rX ["_law_cell_here","_law_figures"] agq [("_law_ear_by",.fq 2 tY),("_law_row",.fq 3 BR)] [] [] []=some ab1:=by kernel_rfl
theorem aaJ:rX ["_law_head","_law_rows"] Og [] [] [] []=some EY:=by kernel_rfl
theorem aeG:rX ["_law_figure","_law_some"] Wd [] [] [] []=some Ld:=by kernel_rfl
theorem Il:rX ["self","owner"] xZ [("NoOwner",.exc)] [] [] []=some mH:=by kernel_rfl
theorem Uy:rX ["self","owner","ground","holder","where","mark"] Ge [] [] [] []=some zp:=by kernel_rfl
theorem Mf:rX ["self","owner","ground"] Ak [] ["len"] [("marks",cO)] []=some uF:=by kernel_rfl
theorem Jf:rX ["self","owner","ground"] yj [("NoRight",.exc)] [] [("has_right",rQ)] []=some qT:=by kernel_rfl
theorem JW:rY ["self"] yJ [] [] [] []=some rO:=by kernel_rfl
theorem Ls:rY ["self","owner","ground","mark","row"] Ae [("HasRight",.exc)] [] [] []=some pA:=by kernel_rfl
theorem ajs:rX ["ear","many","heads","depth","head","left","cut"] aeu [("GREATEST_DEPTH",.con cW)] ["range","min"] [] []=some YF:=by kernel_rfl
theorem ahz:rX ["one","other","here","there"] abw [] ["sum","zip"] [] []=some TX:=by kernel_rfl
theorem aaB:rX ["mark","extra","ear"] Oa [("lacks",.fq 2 uL),("torn",.fq 2 K8)] [] [] []=some Fo:=by kernel_rfl
theorem ag3:rX ["one","other"] aaZ [("lacks",.fq 2 uL)] ["max"] [] []=some Va:=by kernel_rfl
theorem aiu:rX ["one","other","room"] acH [("apart",.fq 2 FW)] [] [] []=some ZW:=by kernel_rfl
theorem Yi:rX ["mark","extra","rows","room","ear","owner","taken"] Mp [("NoneFree",.exc),("offspring",.fq 2 vD),("meet",.fq 3 rE)] ["any"] [] []=some yq:=by kernel_rfl
theorem Iw:rX ["self","owner","ground"] xO [] [] [("marks",cO)] []=some qJ:=by kernel_rfl
theorem aeS:rX ["rows"] YK [] ["sorted","set"] [] []=some Pg:=by kernel_rfl
theorem Nv:rX ["self","number","beast"] Bv [] ["enumerate"] [] []=some u9:=by kernel_rfl
theorem TV:rX ["self","grounds","number","beast"] Gn [] [] [("all_living",dY)] []=some yP:=by kernel_rfl
theorem J5:rX ["self","grounds","owner","ground","mark"] yH [] [] [] []=some sH:=by kernel_rfl
theorem Ez:rX ["self","left_out","ground","near","due","number","beast"] vB [("tidied",.fq 1 qY)] [] [("in_grounds",qW),("grazing",jH),("together",bT)] []=some lA:=by kernel_rfl
theorem Mh:rX ["self","ground"] zR [] [] [("standing_but",cZ)] []=some o7:=by kernel_rfl
theorem UG:rX ["self","ground","near"] G4 [] ["max"] [("together",bD),("allowance",dX)] []=some uQ:=by kernel_rfl
theorem Ub:rX ["self","ground"] Ht [] [] [("room",sY)] []=some uJ:=by kernel_rfl
theorem Mu:rY ["self","elder","ground","extra","mark","heir"] Aa [("first_free",.fq 4 qp),("BadExtra",.exc),("FEWEST_EXTRA",.con jk),("MOST_EXTRA",.con lH)] [] [("add_right",iT),("new_owner",iw),("room",cC),("standing",cH),("first_mark",bW),("need_right",aO),("need",aG),("need_owner",aC)] []=some dZ:=by kernel_rfl
theorem Ie:rY ["self","allowance"] xY [("BadAllowance",.exc),("GREATEST_ALLOWANCE",.con ig)] [] [("many",fu)] []=some jG:=by kernel_rfl
theorem Ig:rY ["self","allowance"] yE [] [] [("add_ground",lM)] []=some mW:=by kernel_rfl
theorem acZ:rX ["owner","ear","rows","room","holder","mark"] Wk [("meet",.fq 3 rE),("tidied",.fq 1 qY)] [] [] []=some KD:=by kernel_rfl
theorem ahV:rX ["one","other","here","there"] aaN [] ["tuple","zip","max"] [] []=some U7:=by kernel_rfl
theorem abX:rX ["owner","ear","rows","room","bars","holder","mark"] Qt [("Clash",.exi ["ones","others","ear"]),("joint",.fq 2 pU),("barring",.fq 4 zY)] [] [] []=some BJ:=by kernel_rfl
theorem HS:rX ["self","owner","ear","ground"] yc [("ask_room",.fq 4 pC)] [] [("room",cC),("standing",cH)] []=some mU:=by kernel_rfl
theorem afF:rX ["parts","depth"] Y6 [("GREATEST_DEPTH",.con cW),("PLACES",.con jh)] ["all","len"] [] []=some Jt:=by kernel_rfl
theorem acv:rX ["parts"] Rh [("BadEar",.exc),("is_ear",.fq 1 ug)] [] [] []=some HF:=by kernel_rfl
theorem RD:rY ["self","owner","ground","mark"] DN [("HasRight",.exc),("Bare",.exc),("BARE_EAR",.con jQ),("need_ear",.fq 1 qO)] [] [("add_right",iT),("ask_ground",bY),("marks",cO),("need",aG),("need_owner",aC)] []=some gA:=by kernel_rfl
theorem WD:rY ["self","owner","ground","gone","mark"] JH [("NoRight",.exc)] [] [("marks",cO)] []=some vU:=by kernel_rfl
theorem Qq:rY ["self","owner","ground","number","beast"] Ds [("StillThere",.exc)] ["any"] [("drop",yR),("grazing",jH),("need_right",aO),("need",aG),("need_owner",aC)] []=some jL:=by kernel_rfl
theorem O4:rY ["self","stand","owner","ground","due","ear","alive"] CK [] [] [] []=some qK:=by kernel_rfl
theorem ahn:rX ["first","word","mother","owner","ground","ear"] abz [("BARE_EAR",.con jQ)] [] [] []=some Nh:=by kernel_rfl
theorem Yg:rY ["self","first"] Ln [("begun",.fq 1 wJ)] [] [("stand_so",jR)] []=some Cy:=by kernel_rfl
theorem Oz:rY ["self","first"] CJ [("Beast",.cls 1 tM)] ["len"] [] []=some wg:=by kernel_rfl
theorem SM:rY ["self","owner","ground","ear"] Ew [("need_ear",.fq 1 qO)] [] [("add_beast",jU),("need_right",aO),("need",aG),("need_owner",aC)] []=some jE:=by kernel_rfl
theorem Y9:rX ["self","number"] Lr [("NoBeast",.exc)] ["len"] [] []=some uo:=by kernel_rfl
theorem WR:rX ["self","number","beast"] JC [("Dead",.exc)] [] [("known",dI)] []=some v7:=by kernel_rfl
theorem W8:rX ["self","number","beast"] Jx [("Unmarked",.exc)] [] [("living",bJ)] []=some rA:=by kernel_rfl
theorem Vf:rY ["self","mother","cow"] Hr [] [] [("add_beast",jU),("marked",bB)] []=some m7:=by kernel_rfl
theorem acr:rX ["ear","place","at","depth"] R7 [] ["tuple","enumerate"] [] []=some Jd:=by kernel_rfl
theorem ael:rX ["stand","event","owner","ground","due","ear","alive","word"] Wi [("deepened",.fq 2 xK)] [] [] []=some Kf:=by kernel_rfl
theorem U4:rY ["self","event"] Gy [("gone_on",.fq 2 tX)] [] [("stand_so",jR),("stand",mY)] []=some yN:=by kernel_rfl
theorem Xh:rY ["self","beast","found","due"] Jw [("joint",.fq 2 pU)] [] [("befall",bL),("ask_ground",bY),("first_mark",bW),("living",bJ)] []=some oH:=by kernel_rfl
theorem Ul:rY ["self","beast","place","found"] Hf [("Deepest",.exc),("GREATEST_DEPTH",.con cW),("NoPlace",.exc),("PLACES",.con jh)] ["len"] [("befall",bL),("living",bJ)] []=some jm:=by kernel_rfl
theorem WW:rX ["self","mother","number","beast"] JQ [] [] [("all_living",dY),("known",dI)] []=some vP:=by kernel_rfl
theorem K9:rY ["self","mother","beast","number","calf"] Ai [] [] [("calves",za),("befall",bL),("known",dI)] []=some tH:=by kernel_rfl
theorem U0:rY ["self","beast","buyer","found","due"] Hu [("ask_room",.fq 4 pC),("joint",.fq 2 pU),("SameOwner",.exc)] [] [("lead_calves",iQ),("befall",bL),("room",cC),("standing_but",cZ),("first_mark",bW),("need_right",aO),("need_owner",aC),("marked",bB)] []=some fP:=by kernel_rfl
theorem Uw:rY ["self","beast","ground","found","left"] GX [("SameGround",.exc)] [] [("lead_calves",iQ),("befall",bL),("ask_ground",bY),("need_right",aO),("need",aG),("marked",bB)] []=some fQ:=by kernel_rfl
theorem W7:rY ["self","beast"] JT [] [] [("befall",bL),("living",bJ)] []=some rB:=by kernel_rfl
theorem ab0:rX ["rows","room","tidy","at","row","greater"] Rj [("meet",.fq 3 rE),("tidied",.fq 1 qY)] ["enumerate"] [] []=some Jq:=by kernel_rfl
theorem Kz:rX ["self","ground","other","room"] Ac [("clashing",.fq 2 uV)] ["max"] [("standing",cH),("room",cC)] []=some tL:=by kernel_rfl
theorem Ny:rY ["self","grounds","circle","ground"] Bq [] ["tuple"] [] []=some vo:=by kernel_rfl
theorem Rb:rY ["self","ground","other","ones","others"] DP [("Together",.exc)] ["sorted"] [("enclose",gQ),("together",bD)] []=some sW:=by kernel_rfl
theorem Qn:rY ["self","ground","other","pairs","row","greater"] Ei [("Clash",.exi ["ones","others","ear"]),("joint",.fq 2 pU),("Together",.exc)] [] [("unite",v9),("quarrels",nY),("together",bT),("need",aG)] []=some jM:=by kernel_rfl
theorem Ud:rY ["self","ground","left","near"] Hh [("Alone",.exc)] [] [("enclose",gQ),("together",bD)] []=some pY:=by kernel_rfl
theorem TJ:rY ["self","ground"] Gi [] [] [("part",o9)] []=some qu:=by kernel_rfl
theorem LQ:rY ["self","elder","heir","owner","ground","mark"] Aj [] [] [] []=some tO:=by kernel_rfl
theorem Yp:rX ["self","owner","number","beast"] Lh [] [] [("all_living",dY)] []=some CG:=by kernel_rfl
theorem Nu:rY ["self","elder","heir","passed","number","beast"] Bu [("SameOwner",.exc)] [] [("befall",bL),("owned",Ay),("hand_over",sG),("need_owner",aC)] []=some jV:=by kernel_rfl
theorem aaq:rX ["kind","part","greatest"] Od [("PLACES",.con jh),("GREATEST_PART",.con oW),("is_ear",.fq 1 ug)] ["isinstance","int","len","tuple"] [] []=some vL:=by kernel_rfl
theorem akW:rX ["deed","shape","parts","kind","part"] aew [("part_fits",.fq 2 iZ),("SHAPES",.dic (zE yO))] ["all","zip","len"] [] []=some YB:=by kernel_rfl
theorem YG:rY ["self","deed","word","parts"] LK [("BadDeed",.exc),("fits",.fq 1 Gq)] [] [("new_heir",rW),("pass_on",tK),("part",yg),("unite",wF),("die",yM),("move",yd),("sell",xQ),("tear",tD),("cut",uP),("bear",xU),("bring",wD),("leave",v8),("enrol",wB),("new_ground",pX),("new_owner",iw)] []=some cM:=by kernel_rfl
theorem akt:rY ["_law_house","_law_deed_here","_law_counts","_law_told","_law_owners","_law_grounds","_law_beasts"] ac6 [("CommonError",.exc)] [] [("do",fM)] []=some KR:=by kernel_rfl
theorem akA:rX ["_law_ear_here","_law_figures","_law_found","_law_depth","_law_figure","_law_more"] adQ [] ["tuple","zip","max","min"] [] ["_law_found"]=some XF:=by kernel_rfl
theorem adx:rX ["_law_figures","_law_mode","_law_base"] Wq [("_law_ear_by",.fq 2 tY),("_law_near",.fq 2 Kv)] [] [] []=some KH:=by kernel_rfl
theorem alH:rX ["_law_figure","_law_many","_law_sure"] agz [] ["max"] [] []=some Xx:=by kernel_rfl
theorem ajO:rX ["_law_word","_law_one","_law_two","_law_parts","_law_counts","_law_base","_law_sure","_law_mark"] acT [("_law_ref",.fq 3 jX),("_law_mark_by",.fq 3 wY)] ["int"] [] []=some j6:=by kernel_rfl
theorem ajX:rY ["_law_house","_law_cells","_law_head","_law_counts","_law_base","_law_begun_here","_law_at","_law_cell_here","_law_parts","_law_word","_law_one","_law_two","_law_k"] aeD [("_law_done",.fg 3 rH),("_law_deed",.fq 6 gM),("_law_word_by",.fq 1 Ag),("_law_row",.fq 3 BR),("_law_begun",.fq 1 vC),("_law_ear",.fq 1 Q7)] ["range","enumerate","len"] [] []=some Q8:=by kernel_rfl
theorem akY:rX ["_law_script","_law_k"] aek [] ["len"] [] []=some aag:=by kernel_rfl
theorem Nq:rX ["self","beast"] Bt [] ["list"] [("known",dI)] []=some vh:=by kernel_rfl
theorem agQ:rX ["_law_found"] abJ [] ["isinstance","bool","int"] [] []=some Vb:=by kernel_rfl
theorem akr(r:Mo->List Dat->Out Dat):rd ⟨["_law_found","_law_due","_law_one","_law_other"],defScope RP,[("_law_like",.fq 2 r),("_law_whole",.fq 1 Hv)],["zip","len","isinstance","list","tuple","str","int"],⟨[],kW,xmH,dfH,Wb⟩,[],true⟩ (defBody RP)=some (FZ r):=by kernel_rfl
theorem ajq:rY ["_law_house","_law_beast","_law_story","_law_many","_law_k","_law_deed_here","_law_now"] aep [("_law_like",.fq 2 (iW 10)),("CommonError",.exc)] ["len","range"] [("history",cR),("do",fM)] []=some X7:=by kernel_rfl
theorem aie:rX ["_law_one","_law_other","_law_a","_law_b"] aaT [] ["sum","zip","max"] [] []=some T8:=by kernel_rfl
theorem W6:rX ["story","tears","event"] JF [] [] [] []=some Bj:=by kernel_rfl
theorem acp:rX ["_law_stand","_law_owner","_law_ground","_law_row_here"] Q6 [] [] [] []=some HJ:=by kernel_rfl
theorem agE:rX ["story","first","later","stand","event"] abm [("gone_on",.fq 2 tX),("begun",.fq 1 wJ)] [] [] []=some Uo:=by kernel_rfl
theorem ahd:rX ["_law_house","_law_stand","_law_beast","_law_row_here","_law_story","_law_due","_law_dam"] abE [("_law_marks_of",.fq 3 xJ),("_law_like",.fq 2 (iW 10)),("tears_since",.fq 1 jW),("_law_tears",.fq 2 Gp),("ended",.fq 1 Cm)] ["list"] [("history",cR)] []=some wX:=by kernel_rfl
theorem alX:rY ["_law_script","_law_house","_law_counts","_law_cell_here","_law_stand","_law_at"] MP [("_law_right",.fq 3 rM),("_law_long",.fg 2 Ke),("_law_cell",.fq 2 Ao),("_law_play",.fg 3 Gv),("Commons",.cls 0 pQ)] ["range","len","abs"] [("look",oZ)] []=some Xi:=by kernel_rfl
structure Top(w:World)(K:aqX)(mg:Str->Option Value):Prop where
 ex:∃h:Heap,K.In h/\h.Ns mainGlobals mg
 c:M9 fa fn tbs exB w K
abbrev aj(w:World)(K:aqX):aQ:=oU w K xsH kW
section
variable{P:Program}{w:World}{K:aqX}{mg:Str->Option Value}{base:Heap}{k:Nat}(T:Top w K mg)
include T
theorem Top.glo(i:Nat){x:Str}(h:fa[i]?=some (.glo x):=by rfl):mg x=some (.ref (He.ga K x)):=by obtain⟨_,X,G⟩:=T.ex;exact He.glo_ok X G (T.c.pH i h)
theorem Top.free(i:Nat){x:Str}(h:fa[i]?=some (.free x):=by rfl):mg x=none:=by obtain⟨_,X,G⟩:=T.ex;exact He.free_ok X G (T.c.pH i h)
theorem Top.int(i:Nat){x:Str}{j:Int}(h:fa[i]?=some (.int x j):=by rfl):∃t,mg x=some (.int j t):=by obtain⟨_,X,G⟩:=T.ex;exact He.int_ok X G (T.c.pH i h)
theorem Top.str(i:Nat){x j:Str}(h:fa[i]?=some (.str x j):=by rfl):∃t,mg x=some (.str j t):=by obtain⟨_,X,G⟩:=T.ex;exact He.str_ok X G (T.c.pH i h)
theorem wH:bA P w K mg base (aj w K) k "GREATEST_DEPTH" (.con cW):=by obtain⟨t,h⟩:=T.int 151;exact LC h
theorem Tw:bA P w K mg base (aj w K) k "FEWEST_EXTRA" (.con jk):=by obtain⟨t,h⟩:=T.int 152;exact LC h
theorem YJ:bA P w K mg base (aj w K) k "MOST_EXTRA" (.con lH):=by obtain⟨t,h⟩:=T.int 153;exact LC h
theorem Ir:bA P w K mg base (aj w K) k "GREATEST_ALLOWANCE" (.con ig):=by obtain⟨t,h⟩:=T.int 154;exact LC h
theorem PN:bA P w K mg base (aj w K) k "PLACES" (.con jh):=adP (T.glo 155) (λH=>He.tupB_ok (He.ba (He.ba T.c.more).1).2 H) rfl rfl
theorem Ra:bA P w K mg base (aj w K) k "BARE_EAR" (.con jQ):=adP (T.glo 156) (λH=>He.tupB_ok (He.ba T.c.more).2 H) rfl rfl
theorem RX:bA P w K mg base (aj w K) k "GREATEST_PART" (.con oW):=by obtain⟨t,h⟩:=T.int 157;exact LC h
theorem afT:bA P w K mg base (aj w K) k "SHAPES" (.dic (zE yO)):=ajW (T.glo 150) (He.ba (He.ba (He.ba T.c.more).1).1).2 (T.c.t.tab 0)
theorem abS:bA P w K mg base (aj w K) k "NoGround" .exc:=iU (by rfl) (T.glo 107) (T.c.pH 108)
theorem aeF:bA P w K mg base (aj w K) k "NoOwner" .exc:=iU (by rfl) (T.glo 109) (T.c.pH 110)
theorem V4:bA P w K mg base (aj w K) k "NoRight" .exc:=iU (by rfl) (T.glo 111) (T.c.pH 112)
theorem Qo:bA P w K mg base (aj w K) k "HasRight" .exc:=iU (by rfl) (T.glo 113) (T.c.pH 114)
theorem abN:bA P w K mg base (aj w K) k "NoneFree" .exc:=iU (by rfl) (T.glo 115) (T.c.pH 116)
theorem ab6:bA P w K mg base (aj w K) k "BadExtra" .exc:=iU (by rfl) (T.glo 117) (T.c.pH 118)
theorem UJ:bA P w K mg base (aj w K) k "BadAllowance" .exc:=iU (by rfl) (T.glo 119) (T.c.pH 120)
theorem afe:bA P w K mg base (aj w K) k "BadEar" .exc:=iU (by rfl) (T.glo 122) (T.c.pH 123)
theorem ajt:bA P w K mg base (aj w K) k "Bare" .exc:=iU (by rfl) (T.glo 124) (T.c.pH 125)
theorem Yo:bA P w K mg base (aj w K) k "StillThere" .exc:=iU (by rfl) (T.glo 126) (T.c.pH 127)
theorem acO:bA P w K mg base (aj w K) k "NoBeast" .exc:=iU (by rfl) (T.glo 128) (T.c.pH 129)
theorem aiy:bA P w K mg base (aj w K) k "Dead" .exc:=iU (by rfl) (T.glo 130) (T.c.pH 131)
theorem abU:bA P w K mg base (aj w K) k "Unmarked" .exc:=iU (by rfl) (T.glo 132) (T.c.pH 133)
theorem ade:bA P w K mg base (aj w K) k "Deepest" .exc:=iU (by rfl) (T.glo 134) (T.c.pH 135)
theorem aeo:bA P w K mg base (aj w K) k "NoPlace" .exc:=iU (by rfl) (T.glo 136) (T.c.pH 137)
theorem NZ:bA P w K mg base (aj w K) k "SameOwner" .exc:=iU (by rfl) (T.glo 138) (T.c.pH 139)
theorem X4:bA P w K mg base (aj w K) k "SameGround" .exc:=iU (by rfl) (T.glo 140) (T.c.pH 141)
theorem Sq:bA P w K mg base (aj w K) k "Together" .exc:=iU (by rfl) (T.glo 142) (T.c.pH 143)
theorem ahL:bA P w K mg base (aj w K) k "Alone" .exc:=iU (by rfl) (T.glo 144) (T.c.pH 145)
theorem ac9:bA P w K mg base (aj w K) k "BadDeed" .exc:=iU (by rfl) (T.glo 146) (T.c.pH 147)
theorem Jy:bA P w K mg base (aj w K) k "CommonError" .exc:=iU (by rfl) (T.glo 148) (T.c.pH 149)
theorem Top.agB:Kr K kW=true:=(He.ba (He.ba (He.ba (He.ba (He.ba (He.ba T.c.more).1).1).1).1).1).2
theorem Top.xf:(Wb.all λp=>xsH.contains p.1&&Ur K p.1 p.2)=true:=(He.ba (He.ba (He.ba (He.ba T.c.more).1).1).1).2
theorem Top.hs{Ms:List (Str×List (Str×MV))}(h:Fg P w K mg base (aj w K) k Ms):Tq P w K mg base (aj w K) k ⟨Ms,kW,xmH,dfH,Wb⟩:=amj h T.agB (He.ba (He.ba (He.ba (He.ba (He.ba T.c.more).1).1).1).1).2 (by rfl) T.xf
theorem Top.cls{c:Str}{fs:List Str}(h:kW.lookup c=some fs:=by rfl):Cls K (He.ga K c):=(Z0 T.agB h).1
local macro_rules | `(tactic| nofun)=>`(tactic| first | (exact λ_ _ _ _ _ _ us hl=>match us,hl with | [_],_=>rfl) | (exact λ_ _ _ _ _ _ us hl=>match us,hl with | [_,_],_=>rfl) | (exact λ_ _ _ _ _ _ us hl=>match us,hl with | [_,_,_],_=>rfl) | (exact λ_ _ _ _ _ _ us hl=>match us,hl with | [_,_,_,_],_=>rfl) | (exact λ_ _ _ _ _ _ us hl=>match us,hl with | [_,_,_,_,_],_=>rfl) | (exact λ_ _ _ _ _ _ us hl=>match us,hl with | [_,_,_,_,_,_],_=>rfl) | (exact λ_ _ _ _ _ _ us hl=>match us,hl with | [_,_,_,_,_,_,_],_=>rfl) | (exact λ_ _ _ _ _ _ us hl=>match us,hl with | [_,_,_,_,_,_,_,_],_=>rfl))
theorem vQ(i j:Nat){x:Str}{k0:Nat}(hk:k0+1<=k){st:Stmt}{N ps ml B:List Str}{G:List (Str×GV)}{Ms:List (Str×List (Str×MV))}{body:SF}(h:rX N st G B Ms ml=some body)(g:Df P w K mg base (aj w K) k0 G)(b:CN mg B)(ms:Fg P w K mg base (aj w K) k0 Ms)(hi:fn[i]?=some (dF x st):=by rfl)(hj:fa[j]?=some (.glo x):=by rfl)(S:FnScope N ps (defScope st):=by exact⟨rfl,rfl,rfl,by decide +kernel,rfl,by decide +kernel,by decide +kernel⟩)(hb:∀(kV doc pm:Value) (an:Option Addr) (cdv ct:Value) (us:List Value),us.length=ps.length->bindArgs (PySem.W.fnOf x x (defArgs st) (defBody st) (defScope st) .none kV doc pm an cdv ct) ⟨us,[]⟩=pure (ps.zip us):=by nofun):bA P w K mg base (aj w K) k x (.fq ps.length (mQ N.length body)):=by obtain⟨fd,F⟩:=T.c.V1 i hi;exact afX hk (T.glo j hj) F.kp (FunD.bindsN (ps:=ps) F hb) (Z5 (Em F) S g b (T.hs ms) h)
theorem wQ(i j:Nat){c m q:Str}{k0:Nat}(hk:k0+1<=k){st:Stmt}{N ps ml B:List Str}{G:List (Str×GV)}{Ms:List (Str×List (Str×MV))}{body:SF}(h:rX N st G B Ms ml=some body)(g:Df P w K mg base (aj w K) k0 G)(b:CN mg B)(ms:Fg P w K mg base (aj w K) k0 Ms)(hi:fn[i]?=some (dM c m q st):=by rfl)(hj:fa[j]?=some (.meth c m):=by rfl)(hx:xsH.contains c=true:=by rfl){fs:List Str}(hc:kW.lookup c=some fs:=by rfl)(hf:((kW.lookup c).getD []).contains m=false:=by rfl)(S:FnScope N ps (defScope st):=by exact⟨rfl,rfl,rfl,by decide +kernel,rfl,by decide +kernel,by decide +kernel⟩)(hb:∀(kV doc pm:Value) (an:Option Addr) (cdv ct:Value) (us:List Value),us.length=ps.length->bindArgs (PySem.W.fnOf m q (defArgs st) (defBody st) (defScope st) .none kV doc pm an cdv ct) ⟨us,[]⟩=pure (ps.zip us):=by nofun):bZ P w K mg base (aj w K) k c m (.q ps.length (mQ N.length body)):=by obtain⟨fd,F⟩:=T.c.V1 i hi;exact amL hk hx (T.cls hc) (T.c.pH j hj) hf (FunD.bindsN (ps:=ps) F hb) (Z5 (Em F) S g b (T.hs ms) h)
theorem vG(i j:Nat){x:Str}{k0:Nat}(hk:k0+1<=k){st:Stmt}{N ps ml B:List Str}{G:List (Str×GV)}{Ms:List (Str×List (Str×MV))}{body:SF}(h:rY N st G B Ms ml=some body)(g:Df P w K mg base (aj w K) k0 G)(b:CN mg B)(ms:Fg P w K mg base (aj w K) k0 Ms)(hi:fn[i]?=some (dF x st):=by rfl)(hj:fa[j]?=some (.glo x):=by rfl)(S:FnScope N ps (defScope st):=by exact⟨rfl,rfl,rfl,by decide +kernel,rfl,by decide +kernel,by decide +kernel⟩)(hb:∀(kV doc pm:Value) (an:Option Addr) (cdv ct:Value) (us:List Value),us.length=ps.length->bindArgs (PySem.W.fnOf x x (defArgs st) (defBody st) (defScope st) .none kV doc pm an cdv ct) ⟨us,[]⟩=pure (ps.zip us):=by nofun):bA P w K mg base (aj w K) k x (.fg ps.length (mG N.length body)):=by obtain⟨fd,F⟩:=T.c.V1 i hi;exact ank hk (T.glo j hj) F.kp (FunD.bindsN (ps:=ps) F hb) (SQ (Em F) S g b (T.hs ms) h)
theorem wG(i j:Nat){c m q:Str}{k0:Nat}(hk:k0+1<=k){st:Stmt}{N ps ml B:List Str}{G:List (Str×GV)}{Ms:List (Str×List (Str×MV))}{body:SF}(h:rY N st G B Ms ml=some body)(g:Df P w K mg base (aj w K) k0 G)(b:CN mg B)(ms:Fg P w K mg base (aj w K) k0 Ms)(hi:fn[i]?=some (dM c m q st):=by rfl)(hj:fa[j]?=some (.meth c m):=by rfl)(hx:xsH.contains c=true:=by rfl){fs:List Str}(hc:kW.lookup c=some fs:=by rfl)(hf:((kW.lookup c).getD []).contains m=false:=by rfl)(S:FnScope N ps (defScope st):=by exact⟨rfl,rfl,rfl,by decide +kernel,rfl,by decide +kernel,by decide +kernel⟩)(hb:∀(kV doc pm:Value) (an:Option Addr) (cdv ct:Value) (us:List Value),us.length=ps.length->bindArgs (PySem.W.fnOf m q (defArgs st) (defBody st) (defScope st) .none kV doc pm an cdv ct) ⟨us,[]⟩=pure (ps.zip us):=by nofun):bZ P w K mg base (aj w K) k c m (.g ps.length (mG N.length body)):=by obtain⟨fd,F⟩:=T.c.V1 i hi;exact anl hk hx (T.cls hc) (T.c.pH j hj) hf (FunD.bindsN (ps:=ps) F hb) (SQ (Em F) S g b (T.hs ms) h)
theorem vI(i j l:Nat){c q:Str}{n:Nat}{k0:Nat}{st:Stmt}{N ps ml B:List Str}{G:List (Str×GV)}{Ms:List (Str×List (Str×MV))}{body:SF}(h:rY N st G B Ms ml=some body)(g:Df P w K mg base (aj w K) k0 G)(b:CN mg B)(ms:Fg P w K mg base (aj w K) k0 Ms)(hk:k0+1+1<=k)(hi:fn[i]?=some (dM c "__init__" q st):=by rfl)(hj:fa[j]?=some (.mkr c):=by rfl)(hg:fa[l]?=some (.glo c):=by rfl)(hx:xsH.contains c=true:=by rfl){fs:List Str}(hc:kW.lookup c=some fs:=by rfl)(hp:ps.length=n+1:=by rfl)(S:FnScope N ps (defScope st):=by exact⟨rfl,rfl,rfl,by decide +kernel,rfl,by decide +kernel,by decide +kernel⟩)(hb:∀(kV doc pm:Value) (an:Option Addr) (cdv ct:Value) (us:List Value),us.length=ps.length->bindArgs (PySem.W.fnOf "__init__" q (defArgs st) (defBody st) (defScope st) .none kV doc pm an cdv ct) ⟨us,[]⟩=pure (ps.zip us):=by nofun):bA P w K mg base (aj w K) k c (.cls n (mG N.length body)):=by obtain⟨fd,F⟩:=T.c.V1 i hi;exact ai7 hk hx (T.glo l hg) (T.cls hc) (T.c.pH j hj) hp (FunD.bindsN (ps:=ps) F hb) (SQ (Em F) S g b (T.hs ms) h)
theorem abI(hk:2<=k):bA P w K mg base (aj w K) k "Clash" (.exi ["ones","others","ear"]):=by
 have ho:Ur K "Clash" ["ones","others","ear"]=true:=(He.ba (aro.mp T.xf _ (show(("Clash" : Str),(["ones","others","ear"]:List Str))∈Wb by simp[Wb]))).2
 obtain⟨o1,o2,o3,o4,o5⟩:=Td ho;obtain⟨fd,F⟩:=T.c.V1 102;have b:=FunD.bindsN (ps:=["self","ones","others","ear"]) F λ_ _ _ _ _ _ us hl=>match us,hl with|[_,_,_,_],_=>rfl
 exact ak5 hk (by rfl) (T.glo 121) ho rfl b (aez (Em F) Xc o1 (by rfl) (by decide) (o5 _ (by decide)) (o5 _ (by decide)) (o5 _ (by decide)))
theorem adB(hk:2<=k:=by omega):bA P w K mg base (aj w K) k "Grounds" (.cls 0 uM):=vI T 0 0 102 (ps:=["self"]) Um trivial trivial trivial hk
theorem afE(hk:2<=k:=by omega):bA P w K mg base (aj w K) k "Rights" (.cls 0 vO):=vI T 1 1 103 (ps:=["self"]) WY trivial trivial trivial hk
theorem ajJ(hk:2<=k:=by omega):bA P w K mg base (aj w K) k "Herd" (.cls 0 zL):=vI T 2 2 104 (ps:=["self"]) aam trivial trivial trivial hk
theorem adt(hk:4<=k:=by omega):bA P w K mg base (aj w K) k "Commons" (.cls 0 pQ):=vI T 3 3 105 (ps:=["self"]) TQ ⟨ajJ T,afE T,adB T,ash⟩ trivial trivial hk
theorem FT(hk:1<=k:=by omega):bZ P w K mg base (aj w K) k "Beast" "stand" (.q 1 vZ):=wQ T 4 4 hk (ps:=["self"]) Xd trivial trivial trivial
theorem WM(hk:2<=k:=by omega):bZ P w K mg base (aj w K) k "Beast" "told" (.q 1 yx):=wQ T 5 5 hk (ps:=["self"]) YT trivial ⟨T.free 158,ash⟩ ⟨⟨FT T,ash⟩,ash⟩
theorem NK(hk:1<=k:=by omega):bZ P w K mg base (aj w K) k "Commons" "owners" (.q 1 qN):=wQ T 6 6 hk (ps:=["self"]) OJ trivial ⟨T.free 159,ash⟩ trivial
theorem Mq(hk:1<=k:=by omega):bZ P w K mg base (aj w K) k "Rights" "all_rows" (.q 1 pK):=wQ T 7 7 hk (ps:=["self"]) Nz trivial ⟨T.free 159,ash⟩ trivial
theorem yt(hk:1<=k:=by omega):bZ P w K mg base (aj w K) k "Grounds" "many" (.q 1 qb):=wQ T 8 8 hk (ps:=["self"]) Uz trivial ⟨T.free 160,ash⟩ trivial
theorem T6(hk:2<=k:=by omega):bZ P w K mg base (aj w K) k "Grounds" "has" (.q 2 vY):=wQ T 9 9 hk (ps:=["self","ground"]) Xe trivial trivial ⟨⟨yt T,ash⟩,ash⟩
theorem iI(hk:3<=k:=by omega):bZ P w K mg base (aj w K) k "Grounds" "need" (.q 2 uZ):=wQ T 10 10 hk (ps:=["self","ground"]) Tn ⟨abS T,ash⟩ trivial ⟨⟨T6 T,ash⟩,ash⟩
theorem xV(hk:4<=k:=by omega):bZ P w K mg base (aj w K) k "Grounds" "allowance" (.q 2 j5):=wQ T 11 11 hk (ps:=["self","ground"]) JV trivial trivial ⟨⟨iI T,ash⟩,ash⟩
theorem nZ(hk:4<=k:=by omega):bZ P w K mg base (aj w K) k "Grounds" "together" (.q 2 lC):=wQ T 12 12 hk (ps:=["self","ground"]) Kw trivial ⟨T.free 159,ash⟩ ⟨⟨iI T,ash⟩,ash⟩
theorem rP(hk:5<=k:=by omega):bZ P w K mg base (aj w K) k "Commons" "together" (.q 2 lE):=wQ T 13 13 hk (ps:=["self","ground"]) Km trivial trivial ⟨⟨nZ T,ash⟩,ash⟩
theorem Ro(hk:6<=k:=by omega):bZ P w K mg base (aj w K) k "Commons" "look" (.q 1 nu):=wQ T 14 14 hk (ps:=["self"]) Tf trivial ⟨T.free 161,T.free 158,ash⟩ ⟨⟨Mq T,ash⟩,⟨NK T,ash⟩,⟨WM T,ash⟩,⟨yt T,ash⟩,⟨rP T,ash⟩,⟨xV T,ash⟩,ash⟩
theorem af9(hk:1<=k:=by omega):bA P w K mg base (aj w K) k "_law_row" (.fq 3 BR):=vQ T 15 15 hk (ps:=["_law_cell_here","_law_many","_law_base"]) alr trivial ⟨T.free 161,T.free 162,ash⟩ trivial
theorem Zb(hk:1<=k:=by omega):bA P w K mg base (aj w K) k "_law_ear_by" (.fq 2 tY):=vQ T 16 16 hk (ps:=["_law_figures","_law_mode"]) afy trivial ⟨T.free 158,T.free 163,ash⟩ trivial
theorem alM(hk:2<=k:=by omega):bA P w K mg base (aj w K) k "_law_ear" (.fq 1 Q7):=vQ T 17 17 hk (ps:=["_law_cell_here"]) alx ⟨Zb T,af9 T,ash⟩ trivial trivial
theorem aal(hk:1<=k:=by omega):bA P w K mg base (aj w K) k "_law_begun" (.fq 1 vC):=vQ T 18 18 hk (ps:=["_law_head"]) aaJ trivial trivial trivial
theorem ac7(hk:1<=k:=by omega):bA P w K mg base (aj w K) k "_law_word_by" (.fq 1 Ag):=vQ T 19 19 hk (ps:=["_law_figure"]) aeG trivial trivial trivial
theorem gJ(hk:1<=k:=by omega):bZ P w K mg base (aj w K) k "Commons" "need_owner" (.q 2 jK):=wQ T 20 20 hk (ps:=["self","owner"]) Il ⟨aeF T,ash⟩ trivial trivial
theorem tG(hk:1<=k:=by omega):bZ P w K mg base (aj w K) k "Rights" "marks" (.q 3 uG):=wQ T 21 21 hk (ps:=["self","owner","ground"]) Uy trivial trivial trivial
theorem JZ(hk:2<=k:=by omega):bZ P w K mg base (aj w K) k "Rights" "has_right" (.q 3 oN):=wQ T 22 22 hk (ps:=["self","owner","ground"]) Mf trivial ⟨T.free 160,ash⟩ ⟨⟨tG T,ash⟩,ash⟩
theorem jx(hk:3<=k:=by omega):bZ P w K mg base (aj w K) k "Commons" "need_right" (.q 3 mV):=wQ T 23 23 hk (ps:=["self","owner","ground"]) Jf ⟨V4 T,ash⟩ trivial ⟨⟨JZ T,ash⟩,ash⟩
theorem yw(hk:1<=k:=by omega):bZ P w K mg base (aj w K) k "Commons" "new_owner" (.g 1 iK):=wG T 24 24 hk (ps:=["self"]) JW trivial trivial trivial
theorem yI(hk:1<=k:=by omega):bZ P w K mg base (aj w K) k "Rights" "add_right" (.g 4 ju):=wG T 25 25 hk (ps:=["self","owner","ground","mark"]) Ls ⟨Qo T,ash⟩ trivial trivial
theorem ai6(hk:1<=k:=by omega):bA P w K mg base (aj w K) k "torn" (.fq 2 K8):=vQ T 26 26 hk (ps:=["ear","many"]) ajs ⟨wH T,ash⟩ ⟨T.free 161,T.free 164,ash⟩ trivial
theorem aaW(hk:1<=k:=by omega):bA P w K mg base (aj w K) k "lacks" (.fq 2 uL):=vQ T 27 27 hk (ps:=["one","other"]) ahz trivial ⟨T.free 165,T.free 166,ash⟩ trivial
theorem aaG(hk:2<=k:=by omega):bA P w K mg base (aj w K) k "offspring" (.fq 2 vD):=vQ T 28 28 hk (ps:=["mark","extra"]) aaB ⟨aaW T,ai6 T,ash⟩ trivial trivial
theorem ahR(hk:2<=k:=by omega):bA P w K mg base (aj w K) k "apart" (.fq 2 FW):=vQ T 29 29 hk (ps:=["one","other"]) ag3 ⟨aaW T,ash⟩ ⟨T.free 163,ash⟩ trivial
theorem Yb(hk:3<=k:=by omega):bA P w K mg base (aj w K) k "meet" (.fq 3 rE):=vQ T 30 30 hk (ps:=["one","other","room"]) aiu ⟨ahR T,ash⟩ trivial trivial
theorem X5(hk:4<=k:=by omega):bA P w K mg base (aj w K) k "first_free" (.fq 4 qp):=vQ T 31 31 hk (ps:=["mark","extra","rows","room"]) Yi ⟨abN T,aaG T,Yb T,trivial⟩ ⟨T.free 167,trivial⟩ trivial
theorem ql(hk:2<=k:=by omega):bZ P w K mg base (aj w K) k "Commons" "first_mark" (.q 3 mK):=wQ T 32 32 hk (ps:=["self","owner","ground"]) Iw trivial trivial ⟨⟨tG T,trivial⟩,trivial⟩
theorem Pa(hk:1<=k:=by omega):bA P w K mg base (aj w K) k "tidied" (.fq 1 qY):=vQ T 33 33 hk (ps:=["rows"]) aeS trivial ⟨T.free 168,T.free 169,ash⟩ trivial
theorem uE(hk:1<=k:=by omega):bZ P w K mg base (aj w K) k "Herd" "all_living" (.q 1 pN):=wQ T 34 34 hk (ps:=["self"]) Nv trivial ⟨T.free 170,ash⟩ trivial
theorem Ed(hk:2<=k:=by omega):bZ P w K mg base (aj w K) k "Herd" "grazing" (.q 2 pP):=wQ T 35 35 hk (ps:=["self","grounds"]) TV trivial trivial ⟨⟨uE T,ash⟩,ash⟩
theorem Ij(hk:1<=k:=by omega):bZ P w K mg base (aj w K) k "Rights" "in_grounds" (.q 2 ou):=wQ T 36 36 hk (ps:=["self","grounds"]) J5 trivial trivial trivial
theorem u5(hk:6<=k:=by omega):bZ P w K mg base (aj w K) k "Commons" "standing_but" (.q 3 iY):=wQ T 37 37 hk (ps:=["self","left_out","ground"]) Ez ⟨Pa T,ash⟩ trivial ⟨⟨Ij T,ash⟩,⟨Ed T,ash⟩,⟨rP T,ash⟩,ash⟩
theorem sE(hk:7<=k:=by omega):bZ P w K mg base (aj w K) k "Commons" "standing" (.q 2 lK):=wQ T 38 38 hk (ps:=["self","ground"]) Mh trivial trivial ⟨⟨u5 T,ash⟩,ash⟩
theorem R3(hk:5<=k:=by omega):bZ P w K mg base (aj w K) k "Grounds" "room" (.q 2 pW):=wQ T 39 39 hk (ps:=["self","ground"]) UG trivial ⟨T.free 163,ash⟩ ⟨⟨nZ T,ash⟩,⟨xV T,ash⟩,ash⟩
theorem sU(hk:6<=k:=by omega):bZ P w K mg base (aj w K) k "Commons" "room" (.q 2 qj):=wQ T 40 40 hk (ps:=["self","ground"]) Ub trivial trivial ⟨⟨R3 T,ash⟩,ash⟩
theorem J9(hk:8<=k:=by omega):bZ P w K mg base (aj w K) k "Commons" "new_heir" (.g 4 cX):=wG T 41 41 hk (ps:=["self","elder","ground","extra"]) Mu ⟨X5 T,ab6 T,Tw T,YJ T,ash⟩ trivial ⟨⟨yI T,ash⟩,⟨yw T,ash⟩,⟨sU T,ash⟩,⟨sE T,ash⟩,⟨ql T,ash⟩,⟨jx T,ash⟩,⟨iI T,ash⟩,⟨gJ T,ash⟩,ash⟩
theorem FP(hk:2<=k:=by omega):bZ P w K mg base (aj w K) k "Grounds" "add_ground" (.g 2 fK):=wG T 42 42 hk (ps:=["self","allowance"]) Ie ⟨UJ T,Ir T,ash⟩ trivial ⟨⟨yt T,ash⟩,ash⟩
theorem Gm(hk:3<=k:=by omega):bZ P w K mg base (aj w K) k "Commons" "new_ground" (.g 2 iz):=wG T 43 43 hk (ps:=["self","allowance"]) Ig trivial trivial ⟨⟨FP T,ash⟩,ash⟩
theorem adN(hk:4<=k:=by omega):bA P w K mg base (aj w K) k "barring" (.fq 4 zY):=vQ T 44 44 hk (ps:=["owner","ear","rows","room"]) acZ ⟨Yb T,Pa T,ash⟩ trivial trivial
theorem Nb(hk:1<=k:=by omega):bA P w K mg base (aj w K) k "joint" (.fq 2 pU):=vQ T 45 45 hk (ps:=["one","other"]) ahV trivial ⟨T.free 158,T.free 166,T.free 163,ash⟩ trivial
theorem R4(hk:5<=k:=by omega):bA P w K mg base (aj w K) k "ask_room" (.fq 4 pC):=vQ T 46 46 hk (ps:=["owner","ear","rows","room"]) abX ⟨abI T (by decide),Nb T,adN T,ash⟩ trivial trivial
theorem pZ(hk:8<=k:=by omega):bZ P w K mg base (aj w K) k "Commons" "ask_ground" (.q 4 iy):=wQ T 47 47 hk (ps:=["self","owner","ear","ground"]) HS ⟨R4 T,ash⟩ trivial ⟨⟨sU T,ash⟩,⟨sE T,ash⟩,ash⟩
theorem aaj(hk:1<=k:=by omega):bA P w K mg base (aj w K) k "is_ear" (.fq 1 ug):=vQ T 48 48 hk (ps:=["parts"]) afF ⟨wH T,PN T,ash⟩ ⟨T.free 171,T.free 160,ash⟩ trivial
theorem SN(hk:2<=k:=by omega):bA P w K mg base (aj w K) k "need_ear" (.fq 1 qO):=vQ T 49 49 hk (ps:=["parts"]) acv ⟨afe T,aaj T,ash⟩ trivial trivial
theorem Oq(hk:9<=k:=by omega):bZ P w K mg base (aj w K) k "Commons" "enrol" (.g 4 eG):=wG T 50 50 hk (ps:=["self","owner","ground","mark"]) RD ⟨Qo T,ajt T,Ra T,SN T,ash⟩ trivial ⟨⟨yI T,ash⟩,⟨pZ T,ash⟩,⟨tG T,ash⟩,⟨iI T,ash⟩,⟨gJ T,ash⟩,ash⟩
theorem U9(hk:2<=k:=by omega):bZ P w K mg base (aj w K) k "Rights" "drop" (.g 3 oM):=wG T 51 51 hk (ps:=["self","owner","ground"]) WD ⟨V4 T,ash⟩ trivial ⟨⟨tG T,ash⟩,ash⟩
theorem O8(hk:4<=k:=by omega):bZ P w K mg base (aj w K) k "Commons" "leave" (.g 3 gG):=wG T 52 52 hk (ps:=["self","owner","ground"]) Qq ⟨Yo T,ash⟩ ⟨T.free 167,ash⟩ ⟨⟨U9 T,ash⟩,⟨Ed T,ash⟩,⟨jx T,ash⟩,⟨iI T,ash⟩,⟨gJ T,ash⟩,ash⟩
theorem Br(hk:1<=k:=by omega):bZ P w K mg base (aj w K) k "Beast" "stand_so" (.g 2 nM):=wG T 53 53 hk (ps:=["self","stand"]) O4 trivial trivial trivial
theorem abA(hk:1<=k:=by omega):bA P w K mg base (aj w K) k "begun" (.fq 1 wJ):=vQ T 54 54 hk (ps:=["first"]) ahn ⟨Ra T,trivial⟩ trivial trivial
theorem ah0(hk:3<=k:=by omega):bA P w K mg base (aj w K) k "Beast" (.cls 1 tM):=vI T 55 55 106 (ps:=["self","first"]) Yg ⟨abA T,trivial⟩ trivial ⟨⟨Br T,trivial⟩,trivial⟩ hk
theorem Bw(hk:4<=k:=by omega):bZ P w K mg base (aj w K) k "Herd" "add_beast" (.g 2 qQ):=wG T 56 56 hk (ps:=["self","first"]) Oz ⟨ah0 T,trivial⟩ ⟨T.free 160,trivial⟩ trivial
theorem Ph(hk:5<=k:=by omega):bZ P w K mg base (aj w K) k "Commons" "bring" (.g 4 fY):=wG T 57 57 hk (ps:=["self","owner","ground","ear"]) SM ⟨SN T,ash⟩ trivial ⟨⟨Bw T,ash⟩,⟨jx T,ash⟩,⟨iI T,ash⟩,⟨gJ T,ash⟩,ash⟩
theorem vW(hk:1<=k:=by omega):bZ P w K mg base (aj w K) k "Herd" "known" (.q 2 lB):=wQ T 58 58 hk (ps:=["self","number"]) Y9 ⟨acO T,ash⟩ ⟨T.free 160,ash⟩ trivial
theorem uX(hk:2<=k:=by omega):bZ P w K mg base (aj w K) k "Herd" "living" (.q 2 rC):=wQ T 59 59 hk (ps:=["self","number"]) WR ⟨aiy T,ash⟩ trivial ⟨⟨vW T,ash⟩,ash⟩
theorem zf(hk:3<=k:=by omega):bZ P w K mg base (aj w K) k "Herd" "marked" (.q 2 oG):=wQ T 60 60 hk (ps:=["self","number"]) W8 ⟨abU T,ash⟩ trivial ⟨⟨uX T,ash⟩,ash⟩
theorem Rc(hk:5<=k:=by omega):bZ P w K mg base (aj w K) k "Commons" "bear" (.g 2 jw):=wG T 61 61 hk (ps:=["self","mother"]) Vf trivial trivial ⟨⟨Bw T,ash⟩,⟨zf T,ash⟩,ash⟩
theorem abM(hk:1<=k:=by omega):bA P w K mg base (aj w K) k "deepened" (.fq 2 xK):=vQ T 62 62 hk (ps:=["ear","place"]) acr trivial ⟨T.free 158,T.free 170,ash⟩ trivial
theorem Vq(hk:2<=k:=by omega):bA P w K mg base (aj w K) k "gone_on" (.fq 2 tX):=vQ T 63 63 hk (ps:=["stand","event"]) ael ⟨abM T,ash⟩ trivial trivial
theorem jN(hk:3<=k:=by omega):bZ P w K mg base (aj w K) k "Beast" "befall" (.g 2 m9):=wG T 64 64 hk (ps:=["self","event"]) U4 ⟨Vq T,ash⟩ trivial ⟨⟨Br T,ash⟩,⟨FT T,ash⟩,ash⟩
theorem TY(hk:9<=k:=by omega):bZ P w K mg base (aj w K) k "Commons" "cut" (.g 2 jd):=wG T 65 65 hk (ps:=["self","beast"]) Xh ⟨Nb T,ash⟩ trivial ⟨⟨jN T,ash⟩,⟨pZ T,ash⟩,⟨ql T,ash⟩,⟨uX T,ash⟩,ash⟩
theorem QC(hk:4<=k:=by omega):bZ P w K mg base (aj w K) k "Commons" "tear" (.g 3 eZ):=wG T 66 66 hk (ps:=["self","beast","place"]) Ul ⟨ade T,wH T,aeo T,PN T,ash⟩ ⟨T.free 160,ash⟩ ⟨⟨jN T,ash⟩,⟨uX T,ash⟩,ash⟩
theorem S9(hk:2<=k:=by omega):bZ P w K mg base (aj w K) k "Herd" "calves" (.q 2 rF):=wQ T 67 67 hk (ps:=["self","mother"]) WW trivial trivial ⟨⟨uE T,ash⟩,⟨vW T,ash⟩,ash⟩
theorem yF(hk:4<=k:=by omega):bZ P w K mg base (aj w K) k "Herd" "lead_calves" (.g 2 oR):=wG T 68 68 hk (ps:=["self","mother"]) K9 trivial trivial ⟨⟨S9 T,ash⟩,⟨jN T,ash⟩,⟨vW T,ash⟩,ash⟩
theorem RW(hk:7<=k:=by omega):bZ P w K mg base (aj w K) k "Commons" "sell" (.g 3 dW):=wG T 69 69 hk (ps:=["self","beast","buyer"]) U0 ⟨R4 T,Nb T,NZ T,ash⟩ trivial ⟨⟨yF T,ash⟩,⟨jN T,ash⟩,⟨sU T,ash⟩,⟨u5 T,ash⟩,⟨ql T,ash⟩,⟨jx T,ash⟩,⟨gJ T,ash⟩,⟨zf T,ash⟩,ash⟩
theorem RQ(hk:9<=k:=by omega):bZ P w K mg base (aj w K) k "Commons" "move" (.g 3 dU):=wG T 70 70 hk (ps:=["self","beast","ground"]) Uw ⟨X4 T,ash⟩ trivial ⟨⟨yF T,ash⟩,⟨jN T,ash⟩,⟨pZ T,ash⟩,⟨jx T,ash⟩,⟨iI T,ash⟩,⟨zf T,ash⟩,ash⟩
theorem Tg(hk:4<=k:=by omega):bZ P w K mg base (aj w K) k "Commons" "die" (.g 2 lW):=wG T 71 71 hk (ps:=["self","beast"]) W7 trivial trivial ⟨⟨jN T,ash⟩,⟨uX T,ash⟩,ash⟩
theorem ab9(hk:4<=k:=by omega):bA P w K mg base (aj w K) k "clashing" (.fq 2 uV):=vQ T 72 72 hk (ps:=["rows","room"]) ab0 ⟨Yb T,Pa T,ash⟩ ⟨T.free 170,ash⟩ trivial
theorem JX(hk:8<=k:=by omega):bZ P w K mg base (aj w K) k "Commons" "quarrels" (.q 3 lF):=wQ T 73 73 hk (ps:=["self","ground","other"]) Kz ⟨ab9 T,ash⟩ ⟨T.free 163,ash⟩ ⟨⟨sE T,ash⟩,⟨sU T,ash⟩,ash⟩
theorem zV(hk:1<=k:=by omega):bZ P w K mg base (aj w K) k "Grounds" "enclose" (.g 2 lZ):=wG T 74 74 hk (ps:=["self","grounds"]) Ny trivial ⟨T.free 158,ash⟩ trivial
theorem Pj(hk:5<=k:=by omega):bZ P w K mg base (aj w K) k "Grounds" "unite" (.g 3 lN):=wG T 75 75 hk (ps:=["self","ground","other"]) Rb ⟨Sq T,ash⟩ ⟨T.free 168,ash⟩ ⟨⟨zV T,ash⟩,⟨nZ T,ash⟩,ash⟩
theorem Qh(hk:9<=k:=by omega):bZ P w K mg base (aj w K) k "Commons" "unite" (.g 3 gq):=wG T 76 76 hk (ps:=["self","ground","other"]) Qn ⟨abI T (by decide),Nb T,Sq T,ash⟩ trivial ⟨⟨Pj T,ash⟩,⟨JX T,ash⟩,⟨rP T,ash⟩,⟨iI T,ash⟩,ash⟩
theorem Q9(hk:5<=k:=by omega):bZ P w K mg base (aj w K) k "Grounds" "part" (.g 2 ji):=wG T 77 77 hk (ps:=["self","ground"]) Ud ⟨ahL T,ash⟩ trivial ⟨⟨zV T,ash⟩,⟨nZ T,ash⟩,ash⟩
theorem Sv(hk:6<=k:=by omega):bZ P w K mg base (aj w K) k "Commons" "part" (.g 2 j7):=wG T 78 78 hk (ps:=["self","ground"]) TJ trivial trivial ⟨⟨Q9 T,ash⟩,ash⟩
theorem J8(hk:1<=k:=by omega):bZ P w K mg base (aj w K) k "Rights" "hand_over" (.g 3 pB):=wG T 79 79 hk (ps:=["self","elder","heir"]) LQ trivial trivial trivial
theorem Wy(hk:2<=k:=by omega):bZ P w K mg base (aj w K) k "Herd" "owned" (.q 2 xX):=wQ T 80 80 hk (ps:=["self","owner"]) Yp trivial trivial ⟨⟨uE T,ash⟩,ash⟩
theorem Ka(hk:4<=k:=by omega):bZ P w K mg base (aj w K) k "Commons" "pass_on" (.g 3 fX):=wG T 81 81 hk (ps:=["self","elder","heir"]) Nu ⟨NZ T,ash⟩ trivial ⟨⟨jN T,ash⟩,⟨Wy T,ash⟩,⟨J8 T,ash⟩,⟨gJ T,ash⟩,ash⟩
theorem aar(hk:2<=k:=by omega):bA P w K mg base (aj w K) k "part_fits" (.fq 2 iZ):=vQ T 82 82 hk (ps:=["kind","part"]) aaq ⟨PN T,RX T,aaj T,ash⟩ ⟨T.free 172,T.free 173,T.free 160,T.free 158,ash⟩ trivial
theorem ajh(hk:3<=k:=by omega):bA P w K mg base (aj w K) k "fits" (.fq 1 Gq):=vQ T 83 83 hk (ps:=["deed"]) akW ⟨aar T,afT T,ash⟩ ⟨T.free 171,T.free 166,T.free 160,ash⟩ trivial
theorem JN(hk:10<=k:=by omega):bZ P w K mg base (aj w K) k "Commons" "do" (.g 2 bQ):=wG T 84 84 hk (ps:=["self","deed"]) YG ⟨ac9 T,ajh T,ash⟩ trivial ⟨⟨J9 T,ash⟩,⟨Ka T,ash⟩,⟨Sv T,ash⟩,⟨Qh T,ash⟩,⟨Tg T,ash⟩,⟨RQ T,ash⟩,⟨RW T,ash⟩,⟨QC T,ash⟩,⟨TY T,ash⟩,⟨Rc T,ash⟩,⟨Ph T,ash⟩,⟨O8 T,ash⟩,⟨Oq T,ash⟩,⟨Gm T,ash⟩,⟨yw T,ash⟩,ash⟩
theorem aiF(hk:11<=k:=by omega):bA P w K mg base (aj w K) k "_law_done" (.fg 3 rH):=vG T 85 85 hk (ps:=["_law_house","_law_deed_here","_law_counts"]) akt ⟨Jy T,ash⟩ trivial ⟨⟨JN T,ash⟩,ash⟩
theorem aj3(hk:1<=k:=by omega):bA P w K mg base (aj w K) k "_law_near" (.fq 2 Kv):=vQ T 86 86 hk (ps:=["_law_ear_here","_law_figures"]) akA trivial ⟨T.free 158,T.free 166,T.free 163,T.free 164,ash⟩ trivial
theorem aeM(hk:2<=k:=by omega):bA P w K mg base (aj w K) k "_law_mark_by" (.fq 3 wY):=vQ T 87 87 hk (ps:=["_law_figures","_law_mode","_law_base"]) adx ⟨Zb T,aj3 T,ash⟩ trivial trivial
theorem alT(hk:1<=k:=by omega):bA P w K mg base (aj w K) k "_law_ref" (.fq 3 jX):=vQ T 88 88 hk (ps:=["_law_figure","_law_many","_law_sure"]) alH trivial ⟨T.free 163,ash⟩ trivial
theorem alc(hk:3<=k:=by omega):bA P w K mg base (aj w K) k "_law_deed" (.fq 6 gM):=vQ T 89 89 hk (ps:=["_law_word","_law_one","_law_two","_law_parts","_law_counts","_law_base"]) ajO ⟨alT T,aeM T,ash⟩ ⟨T.free 173,ash⟩ trivial
theorem aix(hk:12<=k:=by omega):bA P w K mg base (aj w K) k "_law_play" (.fg 3 Gv):=vG T 90 90 hk (ps:=["_law_house","_law_cells","_law_head"]) ajX ⟨aiF T,alc T,ac7 T,af9 T,aal T,alM T,ash⟩ ⟨T.free 161,T.free 170,T.free 160,ash⟩ trivial
theorem aiI(hk:1<=k:=by omega):bA P w K mg base (aj w K) k "_law_cell" (.fq 2 Ao):=vQ T 91 91 hk (ps:=["_law_script","_law_k"]) akY trivial ⟨T.free 160,ash⟩ trivial
theorem Am(hk:2<=k:=by omega):bZ P w K mg base (aj w K) k "Commons" "history" (.q 2 mj):=wQ T 92 92 hk (ps:=["self","beast"]) Nq trivial ⟨T.free 159,ash⟩ ⟨⟨vW T,ash⟩,ash⟩
theorem ahh(hk:1<=k:=by omega):bA P w K mg base (aj w K) k "_law_whole" (.fq 1 Hv):=vQ T 93 93 hk (ps:=["_law_found"]) agQ trivial ⟨T.free 172,T.free 174,T.free 173,ash⟩ trivial
theorem adE(hk:12<=k:=by omega):bA P w K mg base (aj w K) k "_law_like" (.fq 2 (iW 10)):=by
 obtain⟨fd,F⟩:=T.c.V1 94;have b:=FunD.bindsN (ps:=["_law_found","_law_due"]) F λ_ _ _ _ _ _ us hl=>match us,hl with|[_,_],_=>rfl
 have key:∀j:Nat,FnOk P w K mg base (L2.CX P w) (2+j) (He.ga K "_law_like") fd ["_law_found","_law_due"] (Vw K (aj w K) 2 (iW j)):=by
  intro j
  induction j with
  |zero=>exact ajf
  |succ j ih'=>
   have ih:∀{k:Nat},2+j<=k->bA P w K mg base (aj w K) k "_law_like" (.fq 2 (iW j)):=λhk=>afX hk (T.glo 94) F.kp (b) ih'
   refine Z5 (k:=2+j) (Em F) ahe ?_ ?_ ?_ (akr (iW j))
   ·exact⟨ih (arq _),ahh T,ash⟩
   ·exact⟨T.free 166,T.free 160,T.free 172,T.free 159,T.free 158,T.free 175,T.free 173,ash⟩
   ·exact T.hs trivial
 exact afX hk (T.glo 94) F.kp (b) (key 10)
theorem akQ(hk:13<=k:=by omega):bA P w K mg base (aj w K) k "_law_long" (.fg 2 Ke):=vG T 95 95 hk (ps:=["_law_house","_law_beast"]) ajq ⟨adE T,Jy T,ash⟩ ⟨T.free 160,T.free 161,ash⟩ ⟨⟨Am T,ash⟩,⟨JN T,ash⟩,ash⟩
theorem ahy(hk:1<=k:=by omega):bA P w K mg base (aj w K) k "_law_tears" (.fq 2 Gp):=vQ T 96 96 hk (ps:=["_law_one","_law_other"]) aie trivial ⟨T.free 165,T.free 166,T.free 163,ash⟩ trivial
theorem Xf(hk:1<=k:=by omega):bA P w K mg base (aj w K) k "tears_since" (.fq 1 jW):=vQ T 97 97 hk (ps:=["story"]) W6 trivial trivial trivial
theorem acA(hk:1<=k:=by omega):bA P w K mg base (aj w K) k "_law_marks_of" (.fq 3 xJ):=vQ T 98 98 hk (ps:=["_law_stand","_law_owner","_law_ground"]) acp trivial trivial trivial
theorem aif(hk:3<=k:=by omega):bA P w K mg base (aj w K) k "ended" (.fq 1 Cm):=vQ T 99 99 hk (ps:=["story"]) agE ⟨Vq T,abA T,ash⟩ trivial trivial
theorem v_right(hk:13<=k:=by omega):bA P w K mg base (aj w K) k "_law_right" (.fq 3 rM):=vQ T 100 100 hk (ps:=["_law_house","_law_stand","_law_beast"]) ahd ⟨acA T,adE T,Xf T,ahy T,aif T,ash⟩ ⟨T.free 159,ash⟩ ⟨⟨Am T,ash⟩,ash⟩
theorem al0{fd:FuncData}(F:FunD K "law" "law" (defArgs MP) (defBody MP) (defScope MP) [] [] (He.ga K "law") fd):FnOk P w K mg base (L2.CX P w) 14 (He.ga K "law") fd ["_law_script"] (JG K (aj w K) 1 Ss):=by
 refine SQ (k:=13) (Em F) ajN ?_ ?_ ?_ alX
 ·exact⟨v_right T,akQ T,aiI T,aix T,adt T,ash⟩
 ·exact⟨T.free 161,T.free 160,T.free 162,ash⟩
 ·exact T.hs ⟨⟨Ro T,ash⟩,ash⟩
end
def digs(b:Int):Nat->Int->List Int
 |0,_=>[]
 |n+1,c=>c % b::digs b n (c / b)
def N8(b:Int):Nat->Int->Int->List Int
 |0,_,_=>[]
 |n+1,k,t=>((t * 48271+9973 * k+11) % 2147483647 / 1021 % b)::N8 b n (k+1) ((t * 48271+9973 * k+11) % 2147483647)
def Bh(c:Int):Int:=if c < 0 then -c else c
def rowOf(c:Int)(n:Nat)(b:Int):List Int:=if 10 ^ 18<=Bh c then digs b n (Bh c) else N8 b n 0 ((Bh c % 1000003+17) * 69621 % 2147483647)
theorem XM(b:Int):∀n c,(digs b n c).length=n
 |0,_=>rfl
 |n+1,c=>by simp[digs,XM b n]
theorem abe(b:Int):∀n k t,(N8 b n k t).length=n
 |0,_,_=>rfl
 |n+1,k,t=>by simp[N8,abe b n]
theorem aaS{b:Int}(hb:0 < b):∀n c,∀x∈digs b n c,0<=x/\x < b
 |0,_,x,h=>by simp[digs]at h
 |n+1,c,x,h=>by
  rcases arh.mp h with rfl|h
  ·exact⟨Int.emod_nonneg _ (by omega),Int.emod_lt_of_pos _ hb⟩
  ·exact aaS hb n _ x h
theorem aeA{b:Int}(hb:0 < b):∀n k t,∀x∈N8 b n k t,0<=x/\x < b
 |0,_,_,x,h=>by simp[N8]at h
 |n+1,k,t,x,h=>by
  rcases arh.mp h with rfl|h
  ·exact⟨Int.emod_nonneg _ (by omega),Int.emod_lt_of_pos _ hb⟩
  ·exact aeA hb n _ _ x h
@[simp]theorem abv (c:Int) (n:Nat) (b:Int):(rowOf c n b).length=n:=by
 unfold rowOf;split
 ·exact XM ..
 ·exact abe ..
theorem ac8{b:Int}(hb:0 < b)(c:Int)(n:Nat):∀x∈rowOf c n b,0<=x/\x < b:=by
 unfold rowOf;split
 ·exact aaS hb _ _
 ·exact aeA hb _ _ _
@[simp]theorem aa5 (M:Mo) (ns:List Int) (k:Nat):Ao M [lI ns,.int k]=.ok (.int (ns.getD k 0)):=by
 unfold Ao aag;by_cases h:k < ns.length
 ·simp[h,atI,ixN]
 ·simp[h]
theorem ZX(M:Mo)(b:Int)(hb:0 < b)(hb2:b < 1073741824):∀(n k:Nat) (c:Int) (x1:Option Cell) (acc:List Dat) (x4 x5:Option Cell),acc.length+n < 100000->∃c' x4',fD (aF 4) U3 ((List.range' k n).map λ(i:Nat)=>PyData.int (i:Int)) M [some (.dat (.int c)),x1,some (.dat (.int b)),some (.mut acc),x4,x5]=.next [c',x1,some (.dat (.int b)),some (.mut (acc++(digs b n c).map .int)),x4',x5] M
 |0,k,c,x1,acc,x4,x5,_=>⟨some (.dat (.int c)),x4,by simp[fD,digs]⟩
 |n+1,k,c,x1,acc,x4,x5,hl=>by
  obtain⟨c',x4',ih⟩:=ZX M b hb hb2 n (k+1) (c / b) x1 (acc++[.int (c % b)]) (some (.dat (.int k))) x5 (by simp;omega);refine⟨c',x4',?_⟩;have h1:decide (CDiv c b)=true:=decide_eq_true ⟨hb,hb2⟩;have hl:acc.length < 100000:=by omega
  rw[List.range'_succ,aq1,fW (Z1:=[some (.dat (.int c)),x1,some (.dat (.int b)),some (.mut acc),some (.dat (.int k)),x5]) (by simp) (Z2:=[some (.dat (.int (c / b))),x1,some (.dat (.int b)),some (.mut (acc++[.int (c % b)])),some (.dat (.int k)),x5]) (M2:=M) (by simp[U3,h1,hb,hl])];rw[ih];simp[digs]
theorem aaL(M:Mo)(b:Int)(hb:0 < b):∀(n k:Nat) (t:Int) (x0 x1:Option Cell) (acc:List Dat) (x4:Option Cell),acc.length+n < 100000->∃x4' x5',fD (aF 4) S7 ((List.range' k n).map λ(i:Nat)=>PyData.int (i:Int)) M [x0,x1,some (.dat (.int b)),some (.mut acc),x4,some (.dat (.int t))]=.next [x0,x1,some (.dat (.int b)),some (.mut (acc++(N8 b n k t).map .int)),x4',x5'] M
 |0,k,t,x0,x1,acc,x4,_=>⟨x4,some (.dat (.int t)),by simp[fD,N8]⟩
 |n+1,k,t,x0,x1,acc,x4,hl=>by
  obtain⟨x4',x5',ih⟩:=aaL M b hb n (k+1) ((t * 48271+9973 * k+11) % 2147483647) x0 x1 (acc++[.int ((t * 48271+9973 * k+11) % 2147483647 / 1021 % b)]) (some (.dat (.int k))) (by simp;omega);refine⟨x4',x5',?_⟩;have h1:decide (CMul t 48271)=true:=mul_r (by decide);have h2:decide (CMul 9973 (k:Int))=true:=agh (by decide);have h3:∀x,decide (CDiv x 1021)=true:=λx=>decide_eq_true ⟨by decide,by decide⟩;have hl:acc.length < 100000:=by omega
  rw[List.range'_succ,aq1,fW (Z1:=[x0,x1,some (.dat (.int b)),some (.mut acc),some (.dat (.int k)),some (.dat (.int t))]) (by simp) (Z2:=[x0,x1,some (.dat (.int b)),some (.mut (acc++[.int ((t * 48271+9973 * k+11) % 2147483647 / 1021 % b)])),some (.dat (.int k)),some (.dat (.int ((t * 48271+9973 * k+11) % 2147483647)))]) (M2:=M) (by simp[S7,h1,h2,h3,hb,hl])];rw[ih];simp[N8]
theorem Jp(n:Nat):fH 0 n=(List.range' 0 n).map λ(i:Nat)=>PyData.int (i:Int):=by unfold fH;rw[List.range_eq_range'];simp
theorem adK(M:Mo)(c:Int)(n:Nat)(b:Int)(hb:0 < b)(hb2:b < 1073741824)(hn:n<=1000):BR M [.int c,.int n,.int b]=.ok (lI (rowOf c n b)):=by
 unfold BR abR;have hp:decide (CPow 10 18)=true:=decide_eq_true ⟨by decide,by decide,by decide⟩;have hn1:(n:Int)<=100000:=by omega
 have hn2 : -100000<=(n:Int):=by omega
 have hm:∀x,decide (CMul x 69621)=true:=λx=>mul_r (by decide);have ea:(if c < 0 then -c else c)=Bh c:=rfl;by_cases h:10 ^ 18<=Bh c
 ·obtain⟨c',x4',e⟩:=ZX M b hb hb2 n 0 (Bh c) (some (.dat (.int n))) [] none none (by simp;omega);have e2:rowOf c n b=digs b n (Bh c):=if_pos h;have h':(1000000000000000000:Int)<=Bh c:=by simpa using h
  simp[hp,ea,h',hn1,hn2,Jp,e,e2]
 ·obtain⟨x4',x5',e⟩:=aaL M b hb n 0 ((Bh c % 1000003+17) * 69621 % 2147483647) (some (.dat (.int (Bh c)))) (some (.dat (.int n))) [] none (by simp;omega);have e2:rowOf c n b=N8 b n 0 ((Bh c % 1000003+17) * 69621 % 2147483647):=if_neg h;have h':¬(1000000000000000000:Int)<=Bh c:=by simpa using h
  have e':=e;simp[hp,ea,h',hn1,hn2,hm,Jp]at e ⊢;rw[e];simp[e2]
def Ot(i j:Int):Int:=if j > i then j else i
def zH(l:List Int)(m:Int):List Int:=if m % 4=1 then l.map λf=>Ot 0 (f - 7) else if m % 4=2 then l.map λf=>f % 3 else l
theorem Wr(M:Mo)(l:List Int)(m:Int)(hl:l.length<=1000):tY M [lI l,.int m]=.ok (aM (zH l m)):=by
 unfold tY O5;have hl':l.length<=50000:=by omega
 have c1:=gR (tg:=aF 2) (te:=aA sO (qC (.int 0)) (aA pG (ao 2) (qC (.int 7)))) (M:=M) (Z:=[some (.dat (lI l)),some (.dat (.int m)),none]) PyData.int (λf=>.int (Ot 0 (f - 7))) l λx _=>⟨_,rfl,by simp[Ot]⟩;have c2:=gR (tg:=aF 2) (te:=aA lV (ao 2) (qC (.int 3))) (M:=M) (Z:=[some (.dat (lI l)),some (.dat (.int m)),none]) PyData.int (λf=>.int (f % 3)) l λx _=>⟨_,rfl,by simp⟩;by_cases h1:m % 4=1
 ·simp[h1,hl',c1,zH,arp]
 ·by_cases h2:m % 4=2
  ·simp[h2,hl',c2,zH,arp]
  ·simp[h1,h2,zH]
def Np(c:Int):List Int:=zH ((rowOf c 7 10).take 6) ((rowOf c 7 10).getD 6 0)
theorem Z4{α:Type}(l:List α)(n:Nat):Rf.cutD l none (some (n:Int))=l.take n:=by unfold Rf.cutD;rw[HT.sIx_nat];simp[HT.sIx]
theorem ZR{α:Type}(l:List α)(n:Nat):Rf.cutD l (some (n:Int)) none=l.drop n:=by
 unfold Rf.cutD;rw[HT.sIx_nat];simp[HT.sIx];by_cases h:n<=l.length
 ·rw[Nat.min_eq_left h];exact List.take_of_length_le (by simp)
 ·rw[Nat.min_eq_right (by omega),List.drop_eq_nil_of_le (by omega),List.drop_eq_nil_of_le (by omega)];simp
theorem Ys(l:List Int)(n:Nat)(h:n < l.length):atI (l.map PyData.int) (n:Int)=some (.int (l.getD n 0)):=atI_nat (by simp[h])
theorem ajI(M:Mo)(c:Int):Q7 M [.int c]=.ok (aM (Np c)):=by
 unfold Q7 ab1;have h1:BR M [.int c,.int 7,.int 10]=.ok (.list ((rowOf c 7 10).map .int)):=adK M c 7 10 (by decide) (by decide) (by decide);have h2:Rf.cutD ((rowOf c 7 10).map PyData.int) none (some 6)=((rowOf c 7 10).take 6).map PyData.int:=by rw[show(6:Int)=((6:Nat):Int) from rfl,Z4,List.map_take]
 have h3:atI ((rowOf c 7 10).map PyData.int) 6=some (.int ((rowOf c 7 10).getD 6 0)):=Ys _ 6 (by simp);have h4:tY M [.list (((rowOf c 7 10).take 6).map .int),.int ((rowOf c 7 10).getD 6 0)]=.ok (.tuple ((Np c).map .int)):=Wr M _ _ (by simp);generalize (rowOf c 7 10).getD 6 0=z at h3 h4;generalize ((rowOf c 7 10).take 6).map PyData.int=y at h2 h4;simp[h1,h2,h3,h4]
theorem adb(c:Int):(Np c).length=6:=by
 unfold Np zH;split
 ·simp
 ·split<;>simp
theorem afK{l:List Int}{m:Int}(h:∀x∈l,0<=x/\x < 10):∀x∈zH l m,0<=x/\x < 10:=by
 unfold zH Ot;split
 ·intro x hx;obtain⟨y,hy,rfl⟩:=arb.mp hx;have:=h y hy
  split<;>omega
 ·split
  ·intro x hx;obtain⟨y,hy,rfl⟩:=arb.mp hx;have:=h y hy;omega
  ·exact h
mutual
def lk:Nat->Dat->Bool
 |_,.none=>true
 |_,.bool _=>true
 |_,.int _=>true
 |_,.str _=>true
 |n+1,.list ds=>K7 n ds
 |n+1,.tuple ds=>K7 n ds
 |0,.list _=>false
 |0,.tuple _=>false
 |_,.dict _=>false
def K7:Nat->List Dat->Bool
 |_,[]=>true
 |n,d::ds=>lk n d&&K7 n ds
end
theorem Hl{n:Nat}:∀{ds:List Dat},K7 n ds=true↔∀d∈ds,lk n d=true
 |[]=>by simp[K7]
 |d::ds=>by simp[K7,Hl (ds:=ds)]
@[simp]theorem ae5 (n:Nat) (l:List Int):K7 n (l.map PyData.int)=true:=Hl.mpr λd h=>by
 obtain⟨i,_,rfl⟩:=arb.mp h;simp[lk]
theorem Ww(M:Mo)(i:Int):Hv M [.int i]=.ok (.bool true):=by unfold Hv Vb;simp[zu,Bc]
theorem zip_self(ds:List Dat):xP ds ds=ds.map λd=>.tuple [d,d]:=by unfold xP;rw[List.zipWith_self]
theorem Lp(M:Mo)(r:Mo->List Dat->Out Dat)(x0 x1:Option Cell):∀(ds:List Dat) (x2 x3:Option Cell),(∀d∈ds,r M [d,d]=.ok (.bool true))->∃x2' x3',fD (bM [2,3]) (Oj r) (ds.map λd=>PyData.tuple [d,d]) M [x0,x1,x2,x3]=.next [x0,x1,x2',x3'] M
 |[],x2,x3,_=>⟨x2,x3,rfl⟩
 |d::ds,x2,x3,h=>by
  obtain⟨x2',x3',ih⟩:=Lp M r x0 x1 ds (some (.dat d)) (some (.dat d)) λd hd=>h d (aq3 _ hd);refine⟨x2',x3',?_⟩;have hd:=h d aq4;rw[aq1,fW (Z1:=[x0,x1,some (.dat d),some (.dat d)]) (by simp) (Z2:=[x0,x1,some (.dat d),some (.dat d)]) (M2:=M) (by simp[Oj,hd])];exact ih
theorem GP(M:Mo):∀(n:Nat) (d:Dat),lk n d=true->iW (n+1) M [d,d]=.ok (.bool true):=by
 intro n
 induction n with
 |zero=>
  intro d h;show mQ 4 (FZ (iW 0)) M [d,d]=_;unfold FZ;cases d with
  |none=>simp[kJ]
  |bool b=>cases b<;>simp[kJ]
  |int i=>simp[kJ,zu,Bc,Ww]
  |str x=>simp[kJ,zu,Bc]
  |list ds=>simp[lk]at h
  |tuple ds=>simp[lk]at h
  |dict kv=>simp[lk]at h
 |succ n ih=>
  intro d h;show mQ 4 (FZ (iW (n+1))) M [d,d]=_;unfold FZ;cases d with
  |none=>simp[kJ]
  |bool b=>cases b<;>simp[kJ]
  |int i=>simp[kJ,zu,Bc,Ww]
  |str x=>simp[kJ,zu,Bc]
  |list ds=>
   rw[lk,Hl]at h;obtain⟨x2',x3',e⟩:=Lp M (iW (n+1)) (some (.dat (.list ds))) (some (.dat (.list ds))) ds none none λd hd=>ih d (h d hd);simp[kJ,zu,Bc,zip_self,e]
  |tuple ds=>
   rw[lk,Hl]at h;obtain⟨x2',x3',e⟩:=Lp M (iW (n+1)) (some (.dat (.tuple ds))) (some (.dat (.tuple ds))) ds none none λd hd=>ih d (h d hd);simp[kJ,zu,Bc,zip_self,e]
  |dict kv=>simp[lk]at h
inductive En where
 |torn (p:Nat)|cut (e:List Int)|sold (o:Int) (e:List Int)|moved (g:Int)|followed (o g:Int)|passed (o:Int)|died
def En.dat:En->Dat
 |.torn p=>.tuple [.str "torn",.int p]
 |.cut e=>.tuple [.str "cut",aM e]
 |.sold o e=>.tuple [.str "sold",.int o,aM e]
 |.moved g=>.tuple [.str "moved",.int g]
 |.followed o g=>.tuple [.str "followed",.int o,.int g]
 |.passed o=>.tuple [.str "passed",.int o]
 |.died=>.tuple [.str "died"]
inductive Fi where
 |brought (o g:Int) (e:List Int)|born (m o g:Int)
def Fi.dat:Fi->Dat
 |.brought o g e=>.tuple [.str "brought",.int o,.int g,aM e]
 |.born m o g=>.tuple [.str "born",.int m,.int o,.int g]
structure Sd where
 o:Int
 g:Int
 due:Option (List Int)
 ear:List Int
 al:Bool
def nH:Option (List Int)->Dat
 |none=>.none
 |some e=>aM e
def Sd.dat(s:Sd):Dat:=.tuple [.int s.o,.int s.g,nH s.due,aM s.ear,.bool s.al]
def jP(l:List Int)(p:Nat):List Int:=l.mapIdx λi x=>if i=p then x+1 else x
def go(s:Sd):En->Sd
 |.torn p=>{ s with ear:=jP s.ear p }
 |.cut e=>{ s with due:=some e,ear:=e }
 |.sold o e=>{ s with o:=o,due:=some e,ear:=e }
 |.moved g=>{ s with g:=g }
 |.followed o g=>{ s with o:=o,g:=g }
 |.passed o=>{ s with o:=o }
 |.died=>{ s with al:=false }
def beg:Fi->Sd
 |.brought o g e=>⟨o,g,none,e,true⟩
 |.born _ o g=>⟨o,g,none,[0,0,0,0,0,0],true⟩
theorem Y0(M:Mo)(f:Fi):wJ M [f.dat]=.ok (beg f).dat:=by cases f<;>simp[wJ,Nh,Fi.dat,beg,Sd.dat,nH,jQ]
theorem aaA(M:Mo)(l:List Int)(p:Nat)(hl:l.length<=1000):xK M [aM l,.int p]=.ok (aM (jP l p)):=by
 unfold xK Jd;have c:sV 0 (l.map PyData.int)=(l.mapIdx λi x=>(i,x)).map λ(q:Nat×Int)=>PyData.tuple [.int q.1,.int q.2]:=by unfold sV;rw[List.mapIdx_eq_mapIdx_iff.mpr (λi h=>rfl)];apply arv;intro i;simp;cases l[i]?<;>simp
 have c2:=gR (tg:=bM [2,3]) (te:=Qx (bf (aA bU (ao 2) (ao 1))) (aA gH (ao 3) (qC (.int 1))) (aq 3)) (M:=M) (Z:=[some (.dat (aM l)),some (.dat (.int p)),none,none]) (λ(q:Nat×Int)=>PyData.tuple [.int q.1,.int q.2]) (λq=>.int (if q.1=p then q.2+1 else q.2)) (l.mapIdx λi x=>(i,x)) λx _=>⟨[some (.dat (aM l)),some (.dat (.int p)),some (.dat (.int x.1)),some (.dat (.int x.2))],by simp,by
  by_cases h:x.1=p
  ·simp[h]
  ·have h':¬((x.1:Int)=p):=by omega
   simp[h,h']⟩
 have hl':l.length<=50000:=by omega
 simp[c,c2,hl',jP];apply arv;intro i;simp;cases l[i]?<;>simp
theorem QM(l:List Int)(p:Nat):(jP l p).length=l.length:=by simp[jP]
theorem gone_ok(M:Mo)(s:Sd)(e:En)(hl:s.ear.length<=1000):tX M [s.dat,e.dat]=.ok (go s e).dat:=by have h:=λp=>aaA M s.ear p hl;cases e<;>simp[tX,Kf,En.dat,go,Sd.dat,nH,h]
abbrev Row3:=Int×Int×List Int
def gW(r:Row3):Dat:=.tuple [.int r.1,.int r.2.1,aM r.2.2]
structure bV where
 fi:Fi
 en:List En
 mo:Int
 sd:Sd
structure aH where
 count:Int
 own:List Int
 al:List Int
 ci:List (List Int)
 held:List Row3
 bs:List bV
structure Lay where
 c:Nat
 g:Nat
 r:Nat
 h:Nat
 bs:List Nat
 fr:List (Nat×Inst)
def aN(L:Lay)(c:aH):Inst:=⟨"Commons",[("owner_count",.dat (.int c.count)),("holders",.dic false (c.own.map λo=>(.int o,.bool true))),("grounds",.dat (ob L.g)),("rights",.dat (ob L.r)),("herd",.dat (ob L.h))]⟩
def dG(n m:Nat)(c:aH):Inst:=⟨"Grounds",[("allowances",.lst n (c.al.map PyData.int)),("circles",.lst m (c.ci.map aM))]⟩
def oE(c:aH):Inst:=⟨"Rights",[("held",.dic true (c.held.map λr=>(gW r,.bool true)))]⟩
def dO(n:Nat)(L:Lay):Inst:=⟨"Herd",[("beasts",.lst n (L.bs.map ob))]⟩
def iB(n:Nat)(b:bV):Inst:=⟨"Beast",[("story",.lst n (b.fi.dat::b.en.map En.dat)),("mother",.dat (.int b.mo)),("owner",.dat (.int b.sd.o)),("ground",.dat (.int b.sd.g)),("due",.dat (nH b.sd.due)),("ear",.dat (aM b.sd.ear)),("alive",.dat (.bool b.sd.al))]⟩
structure At(M:Mo)(L:Lay)(c:aH):Prop where
 hc:M[L.c]?=some (aN L c)
 hg:∃n m,M[L.g]?=some (dG n m c)
 hr:M[L.r]?=some (oE c)
 hh:∃n,M[L.h]?=some (dO n L)
 len:L.bs.length=c.bs.length
 hb:∀(i h:Nat) (b:bV),L.bs[i]?=some h->c.bs[i]?=some b->∃n,M[h]?=some (iB n b)
 nd:(L.c::L.g::L.r::L.h::L.bs).Nodup
 fr:∀p∈L.fr,M[p.1]?=some p.2/\p.1∉L.c::L.g::L.r::L.h::L.bs
section
variable{M:Mo}{L:Lay}{c:aH}(a:At M L c)
include a
theorem aa6:qb M [ob L.g]=.ok (.int c.al.length):=by obtain⟨n,m,hg⟩:=a.hg;simp[qb,uO,hg,dG]
theorem aiJ(g:Int):vY M [ob L.g,.int g]=.ok (.bool (decide (1<=g/\g<=c.al.length))):=by obtain⟨n,m,hg⟩:=a.hg;have:=aa6 a;by_cases h:1<=g<;>simp[vY,Bo,hg,dG,this,fu,h]
end
@[simp]theorem amY {α:Type} (l:List α) (n:Nat):atI l (n:Int)=l[n]?:=by
 cases h:l[n]? with
 |some a=>exact atI_nat h
 |none=>
  have hl:=List.getElem?_eq_none_iff.mp h;unfold atI ixN;rw[if_pos (by omega),if_neg (by omega)];rfl
abbrev Vg(c:aH)(x:Int):Prop:=1<=x/\x<=c.al.length
theorem uh{c:aH}{x:Int}(h:Vg c x):∃k:Nat,k < c.al.length/\x=(k:Int)+1:=⟨(x - 1).toNat,by omega,by omega⟩
structure dh(c:aH):Prop where
 len:c.ci.length=c.al.length
 few:c.al.length<=200
 al:∀x∈c.al,0<=x/\x<=9
 mem:∀(k:Nat) (l:List Int),c.ci[k]?=some l->∀y∈l,Vg c y
 own:∀(k:Nat) (l:List Int),c.ci[k]?=some l->(k:Int)+1∈l
 up:∀(k:Nat) (l:List Int),c.ci[k]?=some l->l.Pairwise (· < ·)
 one:∀(k j:Nat) (l:List Int),c.ci[k]?=some l->(j:Int)+1∈l->c.ci[j]?=some l
def aJ(c:aH)(x:Int):List Int:=(c.ci[(x - 1).toNat]?).getD []
def oF(c:aH)(x:Int):Int:=(c.al[(x - 1).toNat]?).getD 0
def acF:List Int->Int
 |[]=>0
 |n::ns=>Fl n ns
def roomOf(c:aH)(x:Int):Int:=acF ((aJ c x).map (oF c))
theorem acS:∀{l:List Int} {lo hi:Int},l.Pairwise (· < ·)->(∀y∈l,lo<=y/\y<=hi)->(l.length:Int)<=max 0 (hi - lo+1)
 |[],_,_,_,_=>by simp;omega
 |x::l,lo,hi,h,hb=>by
  rw[List.pairwise_cons]at h;have:=acS (lo:=x+1) (hi:=hi) h.2 λy hy=>⟨by have:=h.1 y hy;omega,(hb y (aq3 _ hy)).2⟩;have:=hb x aq4;simp;omega
theorem maxD_ints{l:List Int}(h:l≠[]):maxD (.list (l.map PyData.int))=.ok (.int (acF l)):=by
 cases l with
 |nil=>exact absurd rfl h
 |cons n ns=>
  show(match intsOf ((n::ns).map PyData.int) with
   |some (n::ns)=>Out.ok (PyData.int (Fl n ns))
   |_=>Out.bad)=_
  rw[BK];rfl
theorem dh.clen{c:aH}(i:dh c){k:Nat}{l:List Int}(h:c.ci[k]?=some l):l.length<=200:=by have:=acS (lo:=1) (hi:=c.al.length) (i.up k l h) λy hy=>i.mem k l h y hy;have:=i.few;omega
section
variable{M:Mo}{L:Lay}{c:aH}(a:At M L c)
include a
theorem wM(x:Int):uZ M [ob L.g,.int x]=if Vg c x then .ok .none else .exc ⟨"NoGround",[]⟩:=by obtain⟨n,m,hg⟩:=a.hg;have:=aiJ a x;by_cases h:Vg c x<;>simp[uZ,yW,hg,dG,this,zj,h]
theorem Kl(x:Int):j5 M [ob L.g,.int x]=if Vg c x then .ok (.int (oF c x)) else .exc ⟨"NoGround",[]⟩:=by
 obtain⟨n,m,hg⟩:=a.hg;have hn:=wM a x;by_cases h:Vg c x
 ·obtain⟨k,hk,rfl⟩:=uh h;rw[if_pos h]at hn ⊢;simp[j5,oA,hg,dG,hn,aG,oF,hk]
 ·rw[if_neg h]at hn ⊢;simp[j5,oA,hg,dG,hn,aG]
theorem vM(i:dh c)(x:Int):lC M [ob L.g,.int x]=if Vg c x then .ok (lI (aJ c x)) else .exc ⟨"NoGround",[]⟩:=by
 obtain⟨n,m,hg⟩:=a.hg;have hn:=wM a x;by_cases h:Vg c x
 ·obtain⟨k,hk,rfl⟩:=uh h;have hk':k < c.ci.length:=by rw[i.len];exact hk
  rw[if_pos h]at hn ⊢;simp[lC,oV,hg,dG,hn,aG,aJ,hk']
 ·rw[if_neg h]at hn ⊢;simp[lC,oV,hg,dG,hn,aG]
theorem ahK(i:dh c)(x:Int):pW M [ob L.g,.int x]=if Vg c x then .ok (.int (roomOf c x)) else .exc ⟨"NoGround",[]⟩:=by
 obtain⟨n,m,hg⟩:=a.hg;have hn:=vM a i x;by_cases h:Vg c x
 ·rw[if_pos h]at hn ⊢;obtain⟨k,hk,rfl⟩:=uh h;have hk':k < c.ci.length:=by rw[i.len];exact hk
  have hc:c.ci[k]?=some (aJ c ((k:Int)+1)):=by simp[aJ,hk']
  unfold roomOf;generalize aJ c ((k:Int)+1)=l at hc hn ⊢;have hl:l.length<=50000:=by have:=i.clen hc;omega
  have hne:l.map (oF c)≠[]:=λz=>by
   have:=i.own k l hc;rw[List.map_eq_nil_iff.mp z]at this;cases this
  have key:=gR (tg:=aF 2) (te:=aP dX (ao 0) (ak (aq 2) au)) (M:=M) (Z:=[some (.dat (ob L.g)),some (.dat (.int ((k:Int)+1))),none]) PyData.int (λy=>.int (oF c y)) l λy hy=>⟨[some (.dat (ob L.g)),some (.dat (.int ((k:Int)+1))),some (.dat (.int y))],by simp,by
   have:=Kl a y;rw[if_pos (i.mem k l hc y hy)]at this;simp[hg,dG,dX,this]⟩
  simp[pW,uQ,hg,dG,hn,bD,key,hl];have:=maxD_ints hne;rw[arB]at this;simp[arp]at this ⊢;simp[this]
 ·rw[if_neg h]at hn ⊢;simp[pW,uQ,hg,dG,hn,bD]
end
theorem bG{M:Mo}{h k:Nat}{i j:Inst}(hm:M[h]?=some j):(M.set h i)[k]?=if h=k then some i else M[k]?:=by
 have hl:h < M.length:=(aqY.mp hm).1;rw[arU];by_cases e:h=k
 ·subst e;rw[if_pos rfl,if_pos hl,if_pos rfl]
 ·rw[if_neg e,if_neg e]
theorem At.neq{M:Mo}{L:Lay}{c:aH}(a:At M L c):L.c≠L.g/\L.c≠L.r/\L.c≠L.h/\L.g≠L.r/\L.g≠L.h/\L.r≠L.h/\(∀x∈L.bs,L.c≠x/\L.g≠x/\L.r≠x/\L.h≠x)/\L.bs.Nodup:=by have nd:=a.nd;simp only[ar9,arh,not_or]at nd;obtain⟨⟨n1,n2,n3,n4⟩,⟨n5,n6,n7⟩,⟨n8,n9⟩,n10,n11⟩:=nd;exact⟨n1,n2,n3,n5,n6,n8,λx hx=>⟨λz=>n4 (z ▸ hx),λz=>n7 (z ▸ hx),λz=>n9 (z ▸ hx),λz=>n10 (z ▸ hx)⟩,n11⟩
theorem At.frS{M:Mo}{L:Lay}{c:aH}(a:At M L c){h:Nat}{i j:Inst}(hm:M[h]?=some j)(hh:h∈L.c::L.g::L.r::L.h::L.bs):∀p∈L.fr,(M.set h i)[p.1]?=some p.2/\p.1∉L.c::L.g::L.r::L.h::L.bs:=λp hp=>by
 obtain⟨h1,h2⟩:=a.fr p hp;refine⟨?_,h2⟩;rw[bG hm,if_neg (λ(z:h=p.1)=>h2 (z ▸ hh))];exact h1
theorem At.setG{M:Mo}{L:Lay}{c:aH}(a:At M L c){al:List Int}{ci:List (List Int)}{n m:Nat}:At (M.set L.g (dG n m { c with al:=al,ci:=ci })) L { c with al:=al,ci:=ci }:=by
 obtain⟨n',m',hg⟩:=a.hg;obtain⟨e1,e2,e3,e4,e5,e6,e7,e8⟩:=a.neq;have e1':=Ne.symm e1;refine⟨?_,⟨n,m,?_⟩,?_,?_,a.len,λi h b h1 h2=>?_,a.nd,a.frS hg (by simp)⟩
 ·rw[bG hg,if_neg e1'];exact a.hc
 ·rw[bG hg,if_pos rfl]
 ·rw[bG hg,if_neg e4];exact a.hr
 ·rw[bG hg,if_neg e5];exact a.hh
 ·rw[bG hg,if_neg (e7 h (aq2 h1)).2.1];exact a.hb i h b h1 h2
theorem At.afa{M:Mo}{L:Lay}{c:aH}(a:At M L c){held:List Row3}:At (M.set L.r (oE { c with held:=held })) L { c with held:=held }:=by
 obtain⟨e1,e2,e3,e4,e5,e6,e7,e8⟩:=a.neq;have e2':=Ne.symm e2;have e4':=Ne.symm e4;have hr:=a.hr;refine⟨?_,?_,?_,?_,a.len,λi h b h1 h2=>?_,a.nd,a.frS hr (by simp)⟩
 ·rw[bG hr,if_neg e2'];exact a.hc
 ·rw[bG hr,if_neg e4'];exact a.hg
 ·rw[bG hr,if_pos rfl]
 ·rw[bG hr,if_neg e6];exact a.hh
 ·rw[bG hr,if_neg (e7 h (aq2 h1)).2.2.1];exact a.hb i h b h1 h2
theorem At.setC{M:Mo}{L:Lay}{c:aH}(a:At M L c){n:Int}{own:List Int}:At (M.set L.c (aN L { c with count:=n,own:=own })) L { c with count:=n,own:=own }:=by
 obtain⟨e1,e2,e3,e4,e5,e6,e7,e8⟩:=a.neq;have hc:=a.hc;refine⟨?_,?_,?_,?_,a.len,λi h b h1 h2=>?_,a.nd,a.frS hc (by simp)⟩
 ·rw[bG hc,if_pos rfl]
 ·rw[bG hc,if_neg e1];exact a.hg
 ·rw[bG hc,if_neg e2];exact a.hr
 ·rw[bG hc,if_neg e3];exact a.hh
 ·rw[bG hc,if_neg (e7 h (aq2 h1)).1];exact a.hb i h b h1 h2
theorem At.setB{M:Mo}{L:Lay}{c:aH}(a:At M L c){k h n:Nat}{b':bV}(hk:L.bs[k]?=some h):At (M.set h (iB n b')) L { c with bs:=c.bs.set k b' }:=by
 obtain⟨e1,e2,e3,e4,e5,e6,e7,e8⟩:=a.neq;have hl:k < c.bs.length:=by rw[←a.len];exact(aqY.mp hk).1
 obtain⟨n0,hb⟩:=a.hb k h _ hk (aq0 hl);obtain⟨q1,q2,q3,q4⟩:=e7 h (aq2 hk);refine⟨?_,?_,?_,?_,by simp[a.len],λi h2 b h3 h4=>?_,a.nd,a.frS hb (by simp[aq2 hk])⟩
 ·rw[bG hb,if_neg (Ne.symm q1)];exact a.hc
 ·rw[bG hb,if_neg (Ne.symm q2)];exact a.hg
 ·rw[bG hb,if_neg (Ne.symm q3)];exact a.hr
 ·rw[bG hb,if_neg (Ne.symm q4)];exact a.hh
 ·by_cases e:i=k
  ·subst e;rw[hk]at h3;cases h3;have h4:(c.bs.set i b')[i]?=some b:=h4;rw[ari hl]at h4;cases h4;exact⟨n,by rw[bG hb,if_pos rfl]⟩
  ·have h4:(c.bs.set k b')[i]?=some b:=h4;rw[aq6 (Ne.symm e)]at h4;have ne:h≠h2:=λz=>by
    subst z;exact e ((List.getElem?_inj (aqY.mp h3).1 e8).mp (h3.trans hk.symm))
   rw[bG hb,if_neg ne];exact a.hb i h2 b h3 h4
theorem At.anm{M:Mo}{L:Lay}{c:aH}(a:At M L c){M2:Mo}{h n n2:Nat}{b:bV}(hh:M.length<=h)(hM:∀k,k < M.length->M2[k]?=M[k]?)(hb:M2[h]?=some (iB n b)):At (M2.set L.h (dO n2 { L with bs:=L.bs++[h] })) { L with bs:=L.bs++[h] } { c with bs:=c.bs++[b] }:=by
 obtain⟨e1,e2,e3,e4,e5,e6,e7,e8⟩:=a.neq;have lt:∀{k:Nat} {i:Inst},M[k]?=some i->k < M.length:=λz=>(aqY.mp z).1;obtain⟨n0,m0,hg⟩:=a.hg;obtain⟨n1,hh1⟩:=a.hh;have l1:=lt a.hc;have l2:=lt hg;have l3:=lt a.hr;have l4:=lt hh1;have lb:∀x∈L.bs,x < M.length:=λx hx=>by
  obtain⟨i,hi,e⟩:=List.mem_iff_getElem.mp hx;obtain⟨n',z⟩:=a.hb i x _ (by rw[aq0 hi,e]) (aq0 (by rw[←a.len];exact hi));exact lt z
 have g4:M2[L.h]?=some (dO n1 L):=by rw[hM _ l4];exact hh1
 refine⟨?_,⟨n0,m0,?_⟩,?_,⟨n2,?_⟩,by simp[a.len],λi h2 b2 h3 h4=>?_,?_,λp hp=>?_⟩
 ·show(M2.set L.h _)[L.c]?=_
  rw[bG g4,if_neg (Ne.symm e3),hM _ l1];exact a.hc
 ·show(M2.set L.h _)[L.g]?=_
  rw[bG g4,if_neg (Ne.symm e5),hM _ l2];exact hg
 ·show(M2.set L.h _)[L.r]?=_
  rw[bG g4,if_neg (Ne.symm e6),hM _ l3];exact a.hr
 ·show(M2.set L.h _)[L.h]?=_
  rw[bG g4,if_pos rfl]
 ·have h3:(L.bs++[h])[i]?=some h2:=h3;have h4:(c.bs++[b])[i]?=some b2:=h4;by_cases hi:i < L.bs.length
  ·rw[aq7 hi]at h3;rw[aq7 (by rw[←a.len];exact hi)]at h4;have m:=aq2 h3;rw[bG g4,if_neg (e7 h2 m).2.2.2,hM _ (lb h2 m)];exact a.hb i h2 b2 h3 h4
  ·rw[arf (by omega)]at h3;rw[arf (by rw[←a.len];omega),←a.len]at h4;have e0:i - L.bs.length=0:=by
    have:=(aqY.mp h3).1;simp at this;omega
   rw[e0]at h3 h4;cases h3;cases h4;exact⟨n,by rw[bG g4,if_neg (by omega)];exact hb⟩
 ·have nd:=a.nd
  show(L.c::L.g::L.r::L.h::(L.bs++[h])).Nodup
  have:(L.c::L.g::L.r::L.h::(L.bs++[h]))=(L.c::L.g::L.r::L.h::L.bs)++[h]:=by simp
  rw[this,arQ];refine⟨nd,by simp,λx hx y hy=>?_⟩;rw[aq5.mp hy];rcases arh.mp hx with rfl|hx
  ·omega
  rcases arh.mp hx with rfl|hx
  ·omega
  rcases arh.mp hx with rfl|hx
  ·omega
  rcases arh.mp hx with rfl|hx
  ·omega
  have:=lb x hx;omega
 ·obtain⟨h1,h2⟩:=a.fr p hp;have hl:=lt h1;refine⟨?_,?_⟩
  ·show(M2.set L.h _)[p.1]?=_
   rw[bG g4,if_neg (λ(z:L.h=p.1)=>h2 (by simp[←z])),hM _ hl];exact h1
  ·show p.1∉L.c::L.g::L.r::L.h::(L.bs++[h]);intro z;have:p.1∈(L.c::L.g::L.r::L.h::L.bs)++[h]:=by simpa using z
   rcases aq8.mp this with z|z
   ·exact h2 z
   ·rw[aq5]at z;omega
section
variable{M:Mo}{L:Lay}{c:aH}(a:At M L c)
include a
theorem Wz(i:dh c)(hf:c.al.length < 200)(x:Int):if 0<=x/\x<=9 then ∃M',fK M [ob L.g,.int x]=.ok (.int (c.al.length+1)) M'/\At M' L { c with al:=c.al++[x],ci:=c.ci++[[(c.al.length:Int)+1]] } else fK M [ob L.g,.int x]=.exc ⟨"BadAllowance",[]⟩ M:=by
 obtain⟨n,m,hg⟩:=a.hg;have hl:∀i,(M.set L.g i)[L.g]?=some i:=λi=>by rw[bG hg,if_pos rfl]
 by_cases h:0<=x/\x<=9
 ·rw[if_pos h];refine⟨_,?_,a.setG (n:=n) (m:=m)⟩;have h2:c.ci.length < 100000:=by rw[i.len];omega
  have h3:c.al.length < 100000:=by omega
  simp[fK,jG,qb,uO,fu,hg,dG,hl,h,ig,h2,h3];rfl
 ·rw[if_neg h];have:decide (0<=x)=true->decide (x<=9)=false:=by simp;omega
  by_cases h0:0<=x
  ·have h9:¬x<=9:=by omega
   simp[fK,jG,ig,h0,h9]
  ·simp[fK,jG,ig,h0]
end
def encl(ci:List (List Int))(l:List Int):List (List Int):=l.foldl (λs y=>s.set (y - 1).toNat l) ci
theorem wA(l:List Int):∀(k:List Int) (ci:List (List Int)),(k.foldl (λs y=>s.set (y - 1).toNat l) ci).length=ci.length
 |[],_=>rfl
 |y::k,ci=>by rw[ar3,wA l k];simp
@[simp]theorem amG (n k:Nat):ixN n (k:Int)=if k < n then some k else none:=by
 unfold ixN;rw[if_pos (by omega)];by_cases h:k < n
 ·rw[if_pos (by omega),if_pos h];simp
 ·rw[if_neg (by omega),if_neg h]
section
variable{M:Mo}{L:Lay}{c:aH}{n m:Nat}(hg:M[L.g]?=some (dG n m c))
include hg
theorem Vv(l:List Int):∀(k:List Int) (s:List (List Int)) (o:Option Cell),(∀y∈k,1<=y/\y<=s.length)->
  ∃o',fD (aF 3) rR (k.map PyData.int) (M.set L.g (dG n m { c with ci:=s })) [some (.dat (ob L.g)),some (.dat (lI l)),some (.dat (aM l)),o]=.next [some (.dat (ob L.g)),some (.dat (lI l)),some (.dat (aM l)),o'] (M.set L.g (dG n m { c with ci:=k.foldl (λs y=>s.set (y - 1).toNat l) s }))
 |[],s,o,_=>⟨o,rfl⟩
 |y::k,s,o,h=>by
  have hl:∀i,(M.set L.g i)[L.g]?=some i:=λi=>by rw[bG hg,if_pos rfl]
  obtain⟨j,hj,rfl⟩:∃j:Nat,j < s.length/\y=(j:Int)+1:=⟨(y - 1).toNat,by have:=h y aq4;omega,by have:=h y aq4;omega⟩;obtain⟨o',ih⟩:=Vv l k (s.set j l) (some (.dat (.int ((j:Int)+1)))) λz hz=>by
   have:=h z (aq3 _ hz);simpa using this
  refine⟨o',?_⟩;rw[aq1,fW (Z1:=[some (.dat (ob L.g)),some (.dat (lI l)),some (.dat (aM l)),some (.dat (.int ((j:Int)+1)))]) (M2:=M.set L.g (dG n m { c with ci:=s.set j l })) (Z2:=[some (.dat (ob L.g)),some (.dat (lI l)),some (.dat (aM l)),some (.dat (.int ((j:Int)+1)))]) (by simp) (by simp[rR,hl,dG,hj,List.map_set]),ih];simp
end
theorem YM{M:Mo}{h:Nat}{i:Inst}(e:M[h]?=some i):M.set h i=M:=by
 apply arv;intro k;rw[bG e];split
 ·next z=>rw[←z,e]
 ·rfl
section
variable{M:Mo}{L:Lay}{c:aH}(a:At M L c)
include a
theorem Iv(l:List Int)(h:∀y∈l,1<=y/\y<=c.ci.length):∃M',lZ M [ob L.g,lI l]=.ok (lI l) M'/\At M' L { c with ci:=encl c.ci l }:=by obtain⟨n,m,hg⟩:=a.hg;obtain⟨o',key⟩:=Vv hg l l c.ci none h;have e:(dG n m { c with ci:=c.ci })=dG n m c:=rfl;rw[e,YM hg]at key;refine⟨_,?_,a.setG (n:=n) (m:=m) (al:=c.al)⟩;simp[lZ,vo,key,encl]
end
theorem any_ints(y:Int)(l:List Int):((l.map PyData.int).any λd=>PyData.eqv d (.int y))=decide (y∈l):=by
 induction l with
 |nil=>simp
 |cons x l ih=>
  rw[aq1,arW,ih,YW];by_cases h:x=y
  ·simp[h]
  ·have:¬y=x:=λz=>h z.symm;simp[h,this]
theorem Ce(neg:Bool)(y:Int)(l:List Int):inD neg (.int y) (lI l)=.ok (.bool (neg ^^ decide (y∈l))):=by
 show(Out.when (okd 12 (.int y)&&mD 12 (l.map PyData.int)) (.ok ((l.map PyData.int).any λz=>PyData.eqv z (.int y)))).bind _=_
 rw[any_ints,ahU,VD];rfl
section
variable{M:Mo}{L:Lay}{c:aH}(a:At M L c)
include a
theorem abV(i:dh c)(x y:Int)(hx:Vg c x)(hy:Vg c y):if y∈aJ c x then lN M [ob L.g,.int x,.int y]=.exc ⟨"Together",[]⟩ M else
  ∃M',lN M [ob L.g,.int x,.int y]=.ok (lI (sortI (aJ c x++aJ c y))) M'/\At M' L { c with ci:=encl c.ci (sortI (aJ c x++aJ c y)) }:=by
 have t1:=vM a i x;have t2:=vM a i y;rw[if_pos hx]at t1;rw[if_pos hy]at t2;obtain⟨n,m,hg⟩:=a.hg;have hcx:c.ci[(x - 1).toNat]?=some (aJ c x):=by
  obtain⟨k,hk,rfl⟩:=uh hx;have hk':k < c.ci.length:=by rw[i.len];exact hk
  simp[aJ,hk']
 have hcy:c.ci[(y - 1).toNat]?=some (aJ c y):=by
  obtain⟨k,hk,rfl⟩:=uh hy;have hk':k < c.ci.length:=by rw[i.len];exact hk
  simp[aJ,hk']
 by_cases h:y∈aJ c x
 ·rw[if_pos h];simp[lN,sW,hg,dG,bD,t1,t2,Ce,h]
 ·rw[if_neg h];have hm:∀z∈sortI (aJ c x++aJ c y),1<=z/\z<=c.ci.length:=λz hz=>by
   unfold sortI at hz;rw[List.mem_mergeSort,aq8]at hz;rw[i.len];rcases hz with hz|hz
   ·exact i.mem _ _ hcx z hz
   ·exact i.mem _ _ hcy z hz
  obtain⟨M',h1,h2⟩:=Iv a _ hm;refine⟨M',?_,h2⟩;have l1:=i.clen hcx;have l2:=i.clen hcy;have hs:Jh (lI (aJ c x++aJ c y))=.ok (lI (sortI (aJ c x++aJ c y))):=by
   show(match intsOf ((aJ c x++aJ c y).map PyData.int) with
    |some l=>Out.ok (PyData.list ((sortI l).map PyData.int))
    |none=>_)=_
   rw[BK]
  have hz:(aJ c x).length+(aJ c y).length<=100000:=by omega
  have hs:Jh (.list ((aJ c x).map PyData.int++(aJ c y).map PyData.int))=.ok (lI (sortI (aJ c x++aJ c y))):=by rw[←arC];exact hs
  simp[lN,sW,hg,dG,bD,gQ,t1,t2,Ce,h,hz,hs,h1]
theorem aer(i:dh c)(x:Int):if Vg c x then(if (aJ c x).filter (λy=>!(y==x))=[] then ji M [ob L.g,.int x]=.exc ⟨"Alone",[]⟩ M else
  ∃M',ji M [ob L.g,.int x]=.ok (lI ((aJ c x).filter (λy=>!(y==x)))) M'/\At M' L { c with ci:=encl (encl c.ci [x]) ((aJ c x).filter (λy=>!(y==x))) }) else ji M [ob L.g,.int x]=.exc ⟨"NoGround",[]⟩ M:=by
 have t1:=vM a i x;obtain⟨n,m,hg⟩:=a.hg;by_cases hx:Vg c x
 ·rw[if_pos hx]at t1 ⊢;have hcx:c.ci[(x - 1).toNat]?=some (aJ c x):=by
   obtain⟨k,hk,rfl⟩:=uh hx;have hk':k < c.ci.length:=by rw[i.len];exact hk
   simp[aJ,hk']
  have hl:(aJ c x).length<=50000:=by have:=i.clen hcx;omega
  have key:=gU (tg:=aF 3) (tt:=bf (aA Bp (ao 3) (ao 1))) (te:=aq 3) (M:=M) (Z:=[some (.dat (ob L.g)),some (.dat (.int x)),none,none]) PyData.int (λy=>!(y==x)) PyData.int (aJ c x) λy _=>⟨[some (.dat (ob L.g)),some (.dat (.int x)),none,some (.dat (.int y))],by simp,by simp,λ_=>by simp⟩;by_cases he:(aJ c x).filter (λy=>!(y==x))=[]
  ·rw[if_pos he];rw[he]at key;simp only[arZ]at key;simp[ji,pY,hg,dG,bD,t1,key,hl]
  ·rw[if_neg he];generalize hL:(aJ c x).filter (λy=>!(y==x))=left at he key;have hm:∀z∈left,1<=z/\z<=(encl c.ci [x]).length:=λz hz=>by
    rw[←hL,arn]at hz;unfold encl;rw[wA,i.len];exact i.mem _ _ hcx z hz.1
   obtain⟨M1,h1,a1⟩:=Iv a [x] (λz hz=>by rw[aq5.mp hz,i.len];exact hx);obtain⟨M2,h2,a2⟩:=Iv a1 left hm;refine⟨M2,?_,a2⟩;obtain⟨n1,m1,hg1⟩:=a1.hg;have h1:lZ M [ob L.g,.list [.int x]]=.ok (.list [.int x]) M1:=h1;have he':left.isEmpty=false:=by cases left with
    |nil=>exact absurd rfl he
    |cons _ _=>rfl
   simp[ji,pY,hg,hg1,dG,bD,gQ,t1,key,hl,h1,h2,he']
 ·rw[if_neg hx]at t1 ⊢;simp[ji,pY,hg,dG,bD,t1]
end
theorem ahw(o g:Int)(m:List Int)(o' g':Int)(m':List Int):PyData.eqv (gW (o,g,m)) (gW (o',g',m'))=decide ((o,g,m)=(o',g',m')):=by simp only[gW,XD,aa9,YW,zP,ahl,Bool.and_true];by_cases h1:o=o'<;>by_cases h2:g=g'<;>by_cases h3:m=m'<;>simp[h1,h2,h3]
theorem aeN(r s:Row3):PyData.eqv (gW r) (gW s)=decide (r=s):=ahw _ _ _ _ _ _
theorem V2:∀l:List Int,xq (l.map PyData.int)=some (l.map NestedKey.num)
 |[]=>rfl
 |i::l=>by rw[aq1,xq,V2 l];rfl
theorem akE(r:Row3):uw (gW r)=some (.tup [.num r.1,.num r.2.1,.tup (r.2.2.map .num)]):=by simp[gW,uw,xq,V2]
theorem depth_ints:∀l:List Int,NestedKey.depthAll (l.map NestedKey.num)<=1
 |[]=>by simp[NestedKey.depthAll]
 |i::l=>by
  have:=depth_ints l;simp[NestedKey.depthAll,NestedKey.depth];omega
theorem Ut(kvs:List (Dat×Dat))(r:Row3):dhas true kvs (gW r)=.ok (kvs.any λp=>PyData.eqv p.1 (gW r)):=by
 have hk:=akE r;have hd:NestedKey.depth (.tup [.num r.1,.num r.2.1,.tup (r.2.2.map .num)])<=8:=by have:=depth_ints r.2.2;simp[NestedKey.depth,NestedKey.depthAll];omega
 show(match uw (gW r) with
  |some k=>match decide (k.depth<=8) with
   |true=>Out.ok (kvs.any λp=>PyData.eqv p.1 (gW r))
   |false=>.bad
  |none=>.bad)=_
 rw[hk]
 show(match decide (NestedKey.depth (.tup [.num r.1,.num r.2.1,.tup (r.2.2.map .num)])<=8) with
   |true=>Out.ok (kvs.any λp=>PyData.eqv p.1 (gW r))
   |false=>.bad)=_
 rw[decide_eq_true hd]
theorem Zu(held:List Row3)(r:Row3):((held.map λr=>(gW r,PyData.bool true)).any λp=>PyData.eqv p.1 (gW r))=decide (r∈held):=by
 induction held with
 |nil=>simp
 |cons s held ih=>
  rw[aq1,arW,ih,aeN];by_cases h:s=r
  ·simp[h]
  ·have:¬r=s:=λz=>h z.symm;simp[h,this]
def bK(c:aH)(o g:Int):List (List Int):=(c.held.filter λr=>(r.1==o)&&(r.2.1==g)).map λr=>r.2.2
section
variable{M:Mo}{L:Lay}{c:aH}(a:At M L c)(few:c.held.length<=50000)
include a few
theorem Ik(o g:Int):uG M [ob L.r,.int o,.int g]=.ok (.list ((bK c o g).map aM)):=by
 have hr:=a.hr;have key:=gU (tg:=bM [3,4,5]) (tt:=lg (bf (aA bU (ao 3) (ao 1))) (bf (aA bU (ao 4) (ao 2)))) (te:=aq 5) (M:=M) (Z:=[some (.dat (ob L.r)),some (.dat (.int o)),some (.dat (.int g)),none,none,none]) gW (λr=>(r.1==o)&&(r.2.1==g)) (λr=>aM r.2.2) c.held λr _=>⟨[some (.dat (ob L.r)),some (.dat (.int o)),some (.dat (.int g)),some (.dat (.int r.1)),some (.dat (.int r.2.1)),some (.dat (aM r.2.2))],by simp[gW],by
  by_cases h:r.1=o<;>simp[h],λ_=>by simp⟩
 have e:(c.held.map λr=>(gW r,PyData.bool true)).map (·.1)=c.held.map gW:=by simp
 simp[uG,zp,hr,oE,bK];simp[arp,key,few]
theorem Zf(o g:Int):oN M [ob L.r,.int o,.int g]=.ok (.bool (decide (bK c o g≠[]))):=by have hr:=a.hr;have h:=Ik a few o g;simp[oN,uF,hr,oE,cO,h,List.length_pos_iff]
theorem Xa(near:List Int):ou M [ob L.r,lI near]=.ok (.list ((c.held.filter λr=>decide (r.2.1∈near)).map λr=>Ear.rD (r.1,r.2.2))):=by have hr:=a.hr;have key:=gU (tg:=bM [2,3,4]) (tt:=bf (aA (inD false) (ao 3) (ao 1))) (te:=bF (ak (aq 2) (ak (aq 4) au))) (M:=M) (Z:=[some (.dat (ob L.r)),some (.dat (lI near)),none,none,none]) gW (λr=>decide (r.2.1∈near)) (λr=>Ear.rD (r.1,r.2.2)) c.held λr _=>⟨[some (.dat (ob L.r)),some (.dat (lI near)),some (.dat (.int r.1)),some (.dat (.int r.2.1)),some (.dat (aM r.2.2))],by simp[gW],by simp[Ce],λ_=>by simp[Ear.rD,Ear.dT]⟩;simp[ou,sH,hr,oE];simp[arp,key,few]
theorem aap:pK M [ob L.r]=.ok (.list (c.held.map gW)):=by have hr:=a.hr;simp[pK,vm,hr,oE,arp]
theorem Ml(o g:Int)(m:List Int):if (o,g,m)∈c.held then ju M [ob L.r,.int o,.int g,aM m]=.exc ⟨"HasRight",[]⟩ M else
  ∃M',ju M [ob L.r,.int o,.int g,aM m]=.ok .none M'/\At M' L { c with held:=c.held++[(o,g,m)] }:=by
 have hr:=a.hr;have h1:=Ut (c.held.map λr=>(gW r,PyData.bool true)) (o,g,m);rw[Zu]at h1;simp only[gW]at h1;have f2:c.held.length < 100000:=by omega
 by_cases h:(o,g,m)∈c.held
 ·rw[if_pos h];simp[h]at h1;simp[ju,pA,hr,oE,gW,h1]
 ·rw[if_neg h];refine⟨_,?_,a.afa⟩;simp[h]at h1;simp[ju,pA,hr,oE,gW,h1,f2]
end
theorem aeE(held:List Row3)(r:Row3):((held.map λr=>(gW r,PyData.bool true)).filter λp=>!PyData.eqv p.1 (gW r))=(held.filter λs=>decide (s≠r)).map λr=>(gW r,PyData.bool true):=by
 induction held with
 |nil=>rfl
 |cons s held ih=>
  simp only[aq1,arI,aeN,ih];by_cases h:s=r<;>simp[h]
def Xv(o g:Int)(k:List (List Int))(s:List Row3):List Row3:=k.foldl (λs mk=>s.filter λr=>decide (r≠(o,g,mk))) s
section
variable{M:Mo}{L:Lay}{c:aH}(hr:M[L.r]?=some (oE c))
include hr
theorem Vs(o g:Int)(all:List (List Int)):∀(k:List (List Int)) (s:List Row3) (x:Option Cell),k.Nodup->(∀mk∈k,(o,g,mk)∈s)->s.length<=50000->
  ∃x',fD (aF 4) wZ (k.map aM) (M.set L.r (oE { c with held:=s })) [some (.dat (ob L.r)),some (.dat (.int o)),some (.dat (.int g)),some (.dat (.list (all.map aM))),x]=.next [some (.dat (ob L.r)),some (.dat (.int o)),some (.dat (.int g)),some (.dat (.list (all.map aM))),x'] (M.set L.r (oE { c with held:=Xv o g k s }))
 |[],s,x,_,_,_=>⟨x,rfl⟩
 |mk::k,s,x,nd,h,hf=>by
  have hl:∀i,(M.set L.r i)[L.r]?=some i:=λi=>by rw[bG hr,if_pos rfl]
  rw[ar9]at nd;have h1:=Ut (s.map λr=>(gW r,PyData.bool true)) (o,g,mk);rw[Zu,decide_eq_true (h mk aq4)]at h1;have h2:=aeE s (o,g,mk);have f2:s.length<=100000:=by omega
  obtain⟨x',ih⟩:=Vs o g all k (s.filter λr=>decide (r≠(o,g,mk))) (some (.dat (aM mk))) nd.2 (λz hz=>by
   rw[arn];refine⟨h z (aq3 _ hz),decide_eq_true λe=>?_⟩;have:z=mk:=by simpa using e
   exact nd.1 (this ▸ hz)) (arw (arl _ _) hf)
  refine⟨x',?_⟩;rw[aq1,fW (Z1:=[some (.dat (ob L.r)),some (.dat (.int o)),some (.dat (.int g)),some (.dat (.list (all.map aM))),some (.dat (aM mk))]) (M2:=M.set L.r (oE { c with held:=s.filter λr=>decide (r≠(o,g,mk)) })) (Z2:=[some (.dat (ob L.r)),some (.dat (.int o)),some (.dat (.int g)),some (.dat (.list (all.map aM))),some (.dat (aM mk))]) (by simp) ?_,ih]
  ·rfl
  ·have h1':dhas true (s.map λr=>(gW r,PyData.bool true)) (.tuple [.int o,.int g,aM mk])=.ok true:=h1;have h2':((s.map λr=>(gW r,PyData.bool true)).filter λp=>!PyData.eqv p.1 (.tuple [.int o,.int g,aM mk]))=(s.filter λs=>decide (s≠(o,g,mk))).map λr=>(gW r,PyData.bool true):=h2;simp[wZ,hl,oE,h1',f2];rw[h2'];simp
end
theorem Yc(o g:Int):∀(k:List (List Int)) (s:List Row3),Xv o g k s=s.filter λr=>decide (∀mk∈k,r≠(o,g,mk))
 |[],s=>(List.filter_eq_self.mpr (by simp)).symm
 |mk::k,s=>by
  show Xv o g k (s.filter _)=_;rw[Yc o g k,ar4];congr 1;funext r;by_cases h1:r=(o,g,mk)<;>simp[h1]
def dropped(c:aH)(o g:Int):List Row3:=c.held.filter λr=>!((r.1==o)&&(r.2.1==g))
theorem acj(c:aH)(o g:Int):Xv o g (bK c o g) c.held=dropped c o g:=by
 rw[Yc];unfold dropped;refine List.filter_congr λr hr=>?_;obtain⟨x,y,z⟩:=r;by_cases h:x=o/\y=g
 ·obtain⟨rfl,rfl⟩:=h;have:z∈bK c x y:=by
   unfold bK;rw[arb];exact⟨(x,y,z),by rw[arn];exact⟨hr,by simp⟩,rfl⟩
  simp;exact this
 ·have e:(!((x==o)&&(y==g)))=true:=by
   by_cases h1:x=o<;>by_cases h2:y=g<;>simp_all
  have e2:∀mk∈bK c o g,(x,y,z)≠(o,g,mk):=λmk _ z=>by
   simp at z;exact h ⟨z.1,z.2.1⟩
  rw[e,decide_eq_true e2]
theorem aav{c:aH}(h:c.held.Nodup)(o g:Int):(bK c o g).Nodup:=by unfold bK;have h1:(c.held.filter λr=>(r.1==o)&&(r.2.1==g)).Nodup:=h.filter _;unfold List.Nodup at h1 ⊢;rw[List.pairwise_map];refine List.Pairwise.imp_of_mem (λ{r s} hr hs ne e=>ne ?_) h1;rw[arn]at hr hs;obtain⟨r1,r2,r3⟩:=r;obtain⟨s1,s2,s3⟩:=s;have:=hr.2;have:=hs.2;simp at *;obtain⟨rfl,rfl⟩:=hr.2;obtain⟨rfl,rfl⟩:=hs.2;exact⟨rfl,rfl,e⟩
section
variable{M:Mo}{L:Lay}{c:aH}(a:At M L c)(few:c.held.length<=50000)(nd:c.held.Nodup)
include a few nd
theorem ahT(o g:Int):if bK c o g=[] then oM M [ob L.r,.int o,.int g]=.exc ⟨"NoRight",[]⟩ M else
  ∃M',oM M [ob L.r,.int o,.int g]=.ok (.list ((bK c o g).map aM)) M'/\At M' L { c with held:=dropped c o g }:=by
 have hr:=a.hr;have h1:=Ik a few o g;by_cases h:bK c o g=[]
 ·rw[if_pos h];rw[h]at h1;simp[oM,vU,hr,oE,cO,h1]
 ·rw[if_neg h];obtain⟨x',key⟩:=Vs hr o g (bK c o g) (bK c o g) c.held none (aav nd o g) (λmk hm=>by
   unfold bK at hm;rw[arb]at hm;obtain⟨⟨r1,r2,r3⟩,h3,rfl⟩:=hm;rw[arn]at h3;have:=h3.2;simp at this;obtain⟨rfl,rfl⟩:=this;exact h3.1) few
  have e:(oE { c with held:=c.held })=oE c:=rfl;rw[e,YM hr,acj]at key;refine⟨_,?_,a.afa⟩;have he:(bK c o g).isEmpty=false:=by
   cases hm:bK c o g with
   |nil=>exact absurd hm h
   |cons _ _=>rfl
  simp[oM,vU,hr,oE,cO,h1,he];simp[key];rfl
end
def Fj(acc:List Row3)(r:Row3):List Row3:=if r∈acc then acc else acc++[r]
def zQ(e h:Int)(r:Row3):Row3:=(if r.1=e then h else r.1,r.2.1,r.2.2)
def handed(c:aH)(e h:Int):List Row3:=(c.held.map (zQ e h)).foldl Fj []
theorem aa4{tg:fV}{tk:QF}{M:Mo}{Z:Rf.Env}(f:Row3->Row3):∀(xs acc:List Row3),(∀x∈xs,∃Z1,tg (gW x) Z=some Z1/\tk M Z1=.ok (gW (f x)))->Ea tg tk M Z (xs.map gW) (acc.map λr=>(gW r,PyData.bool true))=.ok (((xs.map f).foldl Fj acc).map λr=>(gW r,PyData.bool true))
 |[],acc,_=>rfl
 |x::xs,acc,h=>by
  obtain⟨Z1,h1,h2⟩:=h x aq4;rw[aq1,Ea,h1]
  show((yG (tk M Z1)).bind λkd=>(dhas true _ kd).bind λr=>_)=_
  rw[h2,Yq,Out.yQ,Ut,Zu,Out.yQ,aq1,ar3];have ih:=aa4 f xs (Fj acc (f x)) λy hy=>h y (aq3 _ hy);unfold Fj at ih ⊢;by_cases hm:f x∈acc
  ·rw[if_pos hm]at ih ⊢;rw[decide_eq_true hm];exact ih
  ·rw[if_neg hm]at ih ⊢;rw[decide_eq_false hm];rw[arC]at ih;exact ih
section
variable{M:Mo}{L:Lay}{c:aH}(a:At M L c)(few:c.held.length<=50000)
include a few
theorem ZS(e h:Int):∃M',pB M [ob L.r,.int e,.int h]=.ok .none M'/\At M' L { c with held:=handed c e h }:=by
 have hr:=a.hr;have hl:L.r < M.length:=(aqY.mp hr).1;have hr2:(M++[(⟨"",[]⟩:Inst)])[L.r]?=some (oE c):=by rw[aq7 hl];exact hr
 have key:=aa4 (tg:=bM [3,4,5]) (tk:=bF (ak (Qx (bf (aA bU (ao 3) (ao 1))) (aq 2) (aq 3)) (ak (aq 4) (ak (aq 5) au)))) (M:=M) (Z:=[some (.dat (ob L.r)),some (.dat (.int e)),some (.dat (.int h)),none,none,none]) (zQ e h) c.held [] λr _=>⟨[some (.dat (ob L.r)),some (.dat (.int e)),some (.dat (.int h)),some (.dat (.int r.1)),some (.dat (.int r.2.1)),some (.dat (aM r.2.2))],by simp[gW],by
  by_cases z:r.1=e<;>simp[z,zQ,gW]⟩
 have ex:At (M++[⟨"",[]⟩]) L c:=by
  have lt:∀{k:Nat} {i:Inst},M[k]?=some i->(M++[(⟨"",[]⟩:Inst)])[k]?=some i:=λz=>by rw[aq7 (aqY.mp z).1];exact z
  obtain⟨n,m,hg⟩:=a.hg;obtain⟨n1,hh⟩:=a.hh;exact⟨lt a.hc,⟨n,m,lt hg⟩,lt a.hr,⟨n1,lt hh⟩,a.len,λi h b h1 h2=>by
   obtain⟨n2,z⟩:=a.hb i h b h1 h2;exact⟨n2,lt z⟩,a.nd,λp hp=>⟨lt (a.fr p hp).1,(a.fr p hp).2⟩⟩
 refine⟨_,?_,ex.afa⟩;simp only[arZ]at key;simp[pB,tO,hr,hr2,oE,kW];simp[arp,key,few,handed]
end
@[simp]theorem aqj (n:Nat) (b:bV):(iB n b).cls="Beast":=rfl
theorem aao{M:Mo}{h n:Nat}{b:bV}(hb:M[h]?=some (iB n b))(s:Sd):nM M [ob h,s.dat]=.ok .none (M.set h (iB n { b with sd:=s })):=by
 have hl:∀i,(M.set h i)[h]?=some i:=λi=>by rw[bG hb,if_pos rfl]
 simp[nM,qK,Sd.dat,hb,iB,hl,kW]
theorem Yw{M:Mo}{h n:Nat}{b:bV}(hb:M[h]?=some (iB n b)):vZ M [ob h]=.ok b.sd.dat:=by simp[vZ,Az,Sd.dat,hb,iB]
theorem tV{M:Mo}{h n:Nat}{b:bV}(hb:M[h]?=some (iB n b))(e:En)(he:b.sd.ear.length<=1000)(hf:b.en.length<=50000):m9 M [ob h,e.dat]=.ok .none (M.set h (iB n { b with en:=b.en++[e],sd:=go b.sd e })):=by
 have hl:∀i,(M.set h i)[h]?=some i:=λi=>by rw[bG hb,if_pos rfl]
 have h1:(M.set h (iB n { b with en:=b.en++[e] }))[h]?=some (iB n { b with en:=b.en++[e] }):=hl _;have h2:=Yw h1;have h3:=gone_ok (M.set h (iB n { b with en:=b.en++[e] })) b.sd e he;have h4:=aao h1 (go b.sd e);have h5:b.en.length+1 < 100000:=by omega
 have e1:M.set h ⟨"Beast",[("story",.lst n (b.fi.dat::(b.en.map En.dat++[e.dat]))),("mother",.dat (.int b.mo)),("owner",.dat (.int b.sd.o)),("ground",.dat (.int b.sd.g)),("due",.dat (nH b.sd.due)),("ear",.dat (aM b.sd.ear)),("alive",.dat (.bool b.sd.al))]⟩=M.set h (iB n { b with en:=b.en++[e] }):=by simp[iB]
 simp[m9,yN,hb,iB,h5];rw[e1];simp[h1,mY,jR,h2,h3,h4];simp[iB]
def aiG:Fi->Int
 |.born m _ _=>m
 |_=>0
def wj(f:Fi):bV:=⟨f,[],aiG f,beg f⟩
theorem ahv(M:Mo)(f:Fi):tM (M++[⟨"Beast",[]⟩]) [ob M.length,f.dat]=.ok .none (M++[iB (M.length+1) (wj f),⟨"",[]⟩]):=by
 have hbeg:=λM=>Y0 M f;have hg:∀i (r:List Inst),(M++i::r)[M.length]?=some i:=λi r=>by simp
 have hs:∀i j (r:List Inst),(M++i::r).set M.length j=M++j::r:=λi j r=>by simp
 cases f<;>simp[tM,Cy,Fi.dat,hg,hs,kW,nM,qK,jR,wJ,Nh,jQ,iB,wj,aiG,beg,nH,Fi.dat]
def cA(L:Lay)(c:aH):List (Nat×Nat×bV):=(L.bs.zip c.bs).mapIdx λi p=>(i,p.1,p.2)
def nb(x:Nat×Nat×bV):Dat:=.tuple [.int ((x.1:Int)+1),ob x.2.1]
theorem Dz{L:Lay}{c:aH}{x:Nat×Nat×bV}(h:x∈cA L c):L.bs[x.1]?=some x.2.1/\c.bs[x.1]?=some x.2.2:=by unfold cA at h;obtain⟨i,hi,e⟩:=List.mem_mapIdx.mp h;have hz:=aq0 hi;rw[arH]at hz;subst e;exact hz
theorem At.hb'{M:Mo}{L:Lay}{c:aH}(a:At M L c){x:Nat×Nat×bV}(h:x∈cA L c):∃n,M[x.2.1]?=some (iB n x.2.2):=by obtain⟨h1,h2⟩:=Dz h;exact a.hb _ _ _ h1 h2
theorem At.len'{M:Mo}{L:Lay}{c:aH}(a:At M L c):(cA L c).length=c.bs.length:=by unfold cA;simp[a.len]
theorem At.enum{M:Mo}{L:Lay}{c:aH}(a:At M L c):sV 1 (L.bs.map ob)=(cA L c).map nb:=by
 unfold sV cA;apply arv;intro i;simp only[arP,aq9];by_cases hi:i < L.bs.length
 ·have hi2:i < c.bs.length:=by rw[←a.len];exact hi
  have hz:(L.bs.zip c.bs)[i]?=some (L.bs[i],c.bs[i]):=by rw[arH];exact⟨aq0 hi,aq0 hi2⟩
  rw[hz];simp[hi,nb,Int.add_comm]
 ·have hi2:¬i < c.bs.length:=by rw[←a.len];exact hi
  have:(L.bs.zip c.bs)[i]?=none:=by rw[List.getElem?_eq_none_iff,List.length_zip];omega
  simp[arx (by omega:L.bs.length<=i),this]
section
variable{M:Mo}{L:Lay}{c:aH}(a:At M L c)(few:c.bs.length<=50000)
include a few
theorem Bf:pN M [ob L.h]=.ok (.list (((cA L c).filter λx=>x.2.2.sd.al).map nb)):=by
 obtain⟨n,hh⟩:=a.hh;have hl:=a.len';have he:=a.enum;have key:=gU (tg:=bM [1,2]) (tt:=iH (bH "alive" (ao 2))) (te:=bF (ak (aq 1) (ak (aq 2) au))) (M:=M) (Z:=[some (.dat (ob L.h)),none,none]) nb (λx=>x.2.2.sd.al) nb (cA L c) λx hx=>⟨[some (.dat (ob L.h)),some (.dat (.int ((x.1:Int)+1))),some (.dat (ob x.2.1))],by simp[nb],by
  obtain⟨n,hb⟩:=a.hb' hx;simp[hb,iB],λ_=>by simp[nb]⟩
 simp[pN,u9,hh,dO];rw[he];simp[key,hl,few]
theorem Qp(near:List Int):pP M [ob L.h,lI near]=.ok (.list (((cA L c).filter λx=>decide (x.2.2.sd.g∈near)&&x.2.2.sd.al).map nb)):=by
 obtain⟨n,hh⟩:=a.hh;have h1:=Bf a few;have hl:((cA L c).filter λx=>x.2.2.sd.al).length<=50000:=arw (arl _ _) (by rw[a.len'];exact few);have key:=gU (tg:=bM [2,3]) (tt:=bf (aA (inD false) (bH "ground" (ao 3)) (ao 1))) (te:=bF (ak (aq 2) (ak (aq 3) au))) (M:=M) (Z:=[some (.dat (ob L.h)),some (.dat (lI near)),none,none]) nb (λx=>decide (x.2.2.sd.g∈near)) nb ((cA L c).filter λx=>x.2.2.sd.al) λx hx=>⟨[some (.dat (ob L.h)),some (.dat (lI near)),some (.dat (.int ((x.1:Int)+1))),some (.dat (ob x.2.1))],by simp[nb],by
  obtain⟨n,hb⟩:=a.hb' (arn.mp hx).1;simp[hb,iB,Ce],λ_=>by simp[nb]⟩
 rw[ar4]at key;simp[pP,yP,hh,dO,dY,h1,key,hl]
theorem afR(o:Int):xX M [ob L.h,.int o]=.ok (.list (((cA L c).filter λx=>(x.2.2.sd.o==o)&&x.2.2.sd.al).map nb)):=by
 obtain⟨n,hh⟩:=a.hh;have h1:=Bf a few;have hl:((cA L c).filter λx=>x.2.2.sd.al).length<=50000:=arw (arl _ _) (by rw[a.len'];exact few);have key:=gU (tg:=bM [2,3]) (tt:=bf (aA bU (bH "owner" (ao 3)) (ao 1))) (te:=bF (ak (aq 2) (ak (aq 3) au))) (M:=M) (Z:=[some (.dat (ob L.h)),some (.dat (.int o)),none,none]) nb (λx=>x.2.2.sd.o==o) nb ((cA L c).filter λx=>x.2.2.sd.al) λx hx=>⟨[some (.dat (ob L.h)),some (.dat (.int o)),some (.dat (.int ((x.1:Int)+1))),some (.dat (ob x.2.1))],by simp[nb],by
  obtain⟨n,hb⟩:=a.hb' (arn.mp hx).1;simp[hb,iB],λ_=>by simp[nb]⟩
 rw[ar4]at key;simp[xX,CG,hh,dO,dY,h1,key,hl]
theorem Zw(k:Int):lB M [ob L.h,.int k]=if 1<=k/\k<=c.bs.length then .ok (ob ((L.bs[(k - 1).toNat]?).getD 0)) else .exc ⟨"NoBeast",[]⟩:=by
 obtain⟨n,hh⟩:=a.hh;have hlen:(L.bs.length:Int)=c.bs.length:=by rw[a.len]
 by_cases h:1<=k/\k<=c.bs.length
 ·rw[if_pos h];obtain⟨j,rfl⟩:∃j:Nat,k=(j:Int)+1:=⟨(k - 1).toNat,by omega⟩;have hj:j < L.bs.length:=by have:=a.len;omega
  have h1:(1:Int)<=j+1:=by omega
  have h2:(j:Int)+1<=L.bs.length:=by omega
  simp[lB,uo,hh,dO,h1,h2,hj]
 ·rw[if_neg h];by_cases h1:1<=k
  ·have h2:¬k<=L.bs.length:=by omega
   simp[lB,uo,hh,dO,h1,h2]
  ·simp[lB,uo,hh,dO,h1]
end
def bk(c:aH)(k:Int):Option bV:=if 1<=k/\k<=c.bs.length then c.bs[(k - 1).toNat]? else none
def hk(L:Lay)(k:Int):Nat:=(L.bs[(k - 1).toNat]?).getD 0
def jJ(b:bV)(e:En):bV:={ b with en:=b.en++[e],sd:=go b.sd e }
def eO(c:aH)(i:Nat)(e:En):aH:={ c with bs:=c.bs.modify i λb=>jJ b e }
theorem qF{M:Mo}{L:Lay}{c:aH}(a:At M L c){k:Int}{b:bV}(h:bk c k=some b):1<=k/\k<=c.bs.length/\L.bs[(k - 1).toNat]?=some (hk L k)/\c.bs[(k - 1).toNat]?=some b/\∃n,M[hk L k]?=some (iB n b):=by
 unfold bk at h;split at h
 ·next hh=>
  have hl:(k - 1).toNat < L.bs.length:=by have:=a.len;omega
  have e:L.bs[(k - 1).toNat]?=some (hk L k):=by unfold hk;rw[aq0 hl];rfl
  exact⟨hh.1,hh.2,e,h,a.hb _ _ _ e h⟩
 ·cases h
theorem agD{c:aH}{k:Int}(h:bk c k=none):¬(1<=k/\k<=c.bs.length):=λz=>by
 unfold bk at h;rw[if_pos z,List.getElem?_eq_none_iff]at h;omega
section
variable{M:Mo}{L:Lay}{c:aH}(a:At M L c)(few:c.bs.length<=50000)
include a few
theorem BL{k:Int}{b:bV}(h:bk c k=some b):lB M [ob L.h,.int k]=.ok (ob (hk L k)):=by obtain⟨h1,h2,_⟩:=qF a h;rw[Zw a few,if_pos ⟨h1,h2⟩];rfl
theorem Q5{k:Int}(h:bk c k=none):lB M [ob L.h,.int k]=.exc ⟨"NoBeast",[]⟩:=by rw[Zw a few,if_neg (agD h)]
theorem DQ(k:Int):rC M [ob L.h,.int k]=match bk c k with
  |none=>.exc ⟨"NoBeast",[]⟩
  |some b=>if b.sd.al then .ok (ob (hk L k)) else .exc ⟨"Dead",[]⟩:=by
 obtain⟨n,hh⟩:=a.hh;cases h:bk c k with
 |none=>
  have h1:=Q5 a few h;simp[rC,v7,hh,dO,dI,h1]
 |some b=>
  have h1:=BL a few h;obtain⟨_,_,_,_,n',hb⟩:=qF a h;cases h2:b.sd.al<;>simp[rC,v7,hh,dO,dI,h1,hb,iB,h2]
theorem Mv(k:Int):oG M [ob L.h,.int k]=match bk c k with
  |none=>.exc ⟨"NoBeast",[]⟩
  |some b=>if b.sd.al then(if b.sd.due=none then .exc ⟨"Unmarked",[]⟩ else .ok (ob (hk L k))) else .exc ⟨"Dead",[]⟩:=by
 obtain⟨n,hh⟩:=a.hh;have h0:=DQ a few k;cases h:bk c k with
 |none=>
  rw[h]at h0;simp[oG,rA,hh,dO,bJ,h0]
 |some b=>
  rw[h]at h0;obtain⟨_,_,_,_,n',hb⟩:=qF a h;cases h2:b.sd.al with
  |false=>
   simp[h2]at h0;simp[oG,rA,hh,dO,bJ,h0,h2]
  |true=>
   simp[h2]at h0;cases h3:b.sd.due<;>simp[oG,rA,hh,dO,bJ,h0,hb,iB,h2,h3,nH,kJ]
def gK(k:Int)(b:bV):Bool:=(b.mo==k)&&b.sd.due.isNone
theorem adD(k:Int):rF M [ob L.h,.int k]=match bk c k with
  |none=>.exc ⟨"NoBeast",[]⟩
  |some _=>.ok (.list (((cA L c).filter λx=>gK k x.2.2&&x.2.2.sd.al).map nb)):=by
 obtain⟨n,hh⟩:=a.hh;have h1:=Bf a few;have hl:((cA L c).filter λx=>x.2.2.sd.al).length<=50000:=arw (arl _ _) (by rw[a.len'];exact few);have key:=gU (tg:=bM [2,3]) (tt:=lg (bf (aA bU (bH "mother" (ao 3)) (ao 1))) (bf (wI false .none (bH "due" (ao 3))))) (te:=bF (ak (aq 2) (ak (aq 3) au))) (M:=M) (Z:=[some (.dat (ob L.h)),some (.dat (.int k)),none,none]) nb (λx=>gK k x.2.2) nb ((cA L c).filter λx=>x.2.2.sd.al) λx hx=>⟨[some (.dat (ob L.h)),some (.dat (.int k)),some (.dat (.int ((x.1:Int)+1))),some (.dat (ob x.2.1))],by simp[nb],by
  obtain⟨n,hb⟩:=a.hb' (arn.mp hx).1;by_cases h2:x.2.2.mo=k<;>cases h3:x.2.2.sd.due<;>simp[hb,iB,gK,h2,h3,nH,kJ],λ_=>by simp[nb]⟩
 rw[ar4]at key;cases h:bk c k with
 |none=>
  have h2:=Q5 a few h;simp[rF,vP,hh,dO,dI,h2]
 |some b=>
  have h2:=BL a few h;simp[rF,vP,hh,dO,dI,dY,h1,h2,key,hl]
theorem Lk(f:Fi)(hf:c.bs.length < 50000):∃M' h,qQ M [ob L.h,f.dat]=.ok (.int (c.bs.length+1)) M'/\At M' { L with bs:=L.bs++[h] } { c with bs:=c.bs++[wj f] }:=by
 obtain⟨n,hh⟩:=a.hh;have hl:L.h < M.length:=(aqY.mp hh).1;have hi:=ahv M f;have hh2:(M++[iB (M.length+1) (wj f),⟨"",[]⟩])[L.h]?=some (dO n L):=by rw[aq7 hl];exact hh
 have hs:∀i,((M++[iB (M.length+1) (wj f),(⟨"",[]⟩:Inst)]).set L.h i)[L.h]?=some i:=λi=>by rw[bG hh2,if_pos rfl]
 have hz:c.bs.length < 100000:=by omega
 refine⟨_,M.length,?_,a.anm (M2:=M++[iB (M.length+1) (wj f),⟨"",[]⟩]) (n:=M.length+1) (n2:=n) (arq _) (λk hk=>by rw[aq7 hk]) (by simp)⟩
 simp[qQ,wg,hh,dO,hi,hh2,hs,hz,a.len]
end
theorem yS{M:Mo}{L:Lay}{c:aH}(a:At M L c){i h n:Nat}{b:bV}{e:En}(h1:L.bs[i]?=some h)(h2:c.bs[i]?=some b):At (M.set h (iB n (jJ b e))) L (eO c i e):=by
 have:=a.setB (n:=n) (b':=jJ b e) h1;have hm:c.bs.modify i (λb=>jJ b e)=c.bs.set i (jJ b e):=by
  apply arv;intro j;rw[List.getElem?_modify,arU];by_cases hj:i=j
  ·subst hj;have hl:=(aqY.mp h2).1;simp[hl,h2];have:=(aqY.mp h2).2;rw[this]
  ·simp[hj]
 unfold eO;rw[hm];exact this
theorem qU(c:aH)(i j:Nat)(e:En):(eO c i e).bs[j]?=if i=j then(c.bs[j]?).map λb=>jJ b e else c.bs[j]?:=by unfold eO;simp only[List.getElem?_modify];by_cases h:i=j<;>simp[h]
def vN(xs:List (Nat×Nat×bV))(e:En)(c:aH):aH:=xs.foldl (λc x=>eO c x.1 e) c
theorem Pk{tg:fV}{body:SF}(Q:Rf.Env->Prop)(P:Nat->aH->Prop)(e:En)(L:Lay)(T:Nat):∀(xs:List (Nat×Nat×bV)) (M:Mo) (c:aH) (Z:Rf.Env) (i:Nat),i+xs.length<=T->At M L c->P i c->Q Z->
  (∀M c Z x i,i < T->At M L c->P i c->Q Z->x∈xs->∃Z1 Z2 M2,tg (nb x) Z=some Z1/\body M Z1=.next Z2 M2/\Q Z2/\At M2 L (eO c x.1 e)/\P (i+1) (eO c x.1 e))->
  ∃Z' M',fD tg body (xs.map nb) M Z=.next Z' M'/\Q Z'/\At M' L (vN xs e c)
 |[],M,c,Z,i,_,a,p,q,_=>⟨Z,M,rfl,q,a⟩
 |x::xs,M,c,Z,i,hT,a,p,q,h=>by
  rw[ard]at hT;obtain⟨Z1,Z2,M2,h1,h2,h3,h4,h5⟩:=h M c Z x i (by omega) a p q aq4;obtain⟨Z',M',g1,g2,g3⟩:=Pk Q P e L T xs M2 _ Z2 (i+1) (by omega) h4 h5 h3 λM c Z y i hi a p q hy=>h M c Z y i hi a p q (aq3 _ hy);exact⟨Z',M',by rw[aq1,fW h1 h2];exact g1,g2,g3⟩
structure KZ(n:Nat)(c:aH):Prop where
 ear:∀b∈c.bs,b.sd.ear.length=6
 en:∀b∈c.bs,b.en.length<=n
theorem ai2(s:Sd)(e:En)(he:s.ear.length=6)(h2:match e with|.cut l=>l.length=6|.sold _ l=>l.length=6|_=>True):(go s e).ear.length=6:=by cases e<;>simp_all [go,jP]
theorem RL(e:En):∀(xs:List (Nat×Nat×bV)) (c:aH) (j:Nat),(xs.map (·.1)).Nodup->(vN xs e c).bs[j]?=if j∈xs.map (·.1) then(c.bs[j]?).map λb=>jJ b e else c.bs[j]?
 |[],c,j,_=>by simp[vN]
 |x::xs,c,j,nd=>by
  rw[aq1,ar9]at nd
  show(vN xs e (eO c x.1 e)).bs[j]?=_
  rw[RL e xs _ j nd.2,qU];by_cases h1:x.1=j
  ·subst h1;rw[if_neg nd.1,if_pos rfl,if_pos (by simp)]
  ·rw[if_neg h1];by_cases h2:j∈xs.map (·.1)
   ·rw[if_pos h2,if_pos (by rw[aq1];exact aq3 _ h2)]
   ·rw[if_neg h2,if_neg (by
     rw[aq1,arh]
     rintro(z|z)
     ·exact h1 z.symm
     ·exact h2 z)]
theorem N7(e:En):∀(xs:List (Nat×Nat×bV)) (c:aH),(vN xs e c)={ c with bs:=(vN xs e c).bs }
 |[],_=>rfl
 |x::xs,c=>by
  show vN xs e (eO c x.1 e)={ c with bs:=(vN xs e (eO c x.1 e)).bs };rw[N7 e xs];rfl
theorem aex{L:Lay}{c:aH}(p:Nat×Nat×bV->Bool):(((cA L c).filter p).map (·.1)).Nodup:=by
 have h:((cA L c).map (·.1)).Nodup:=by
  have e:(cA L c).map (·.1)=List.range (L.bs.zip c.bs).length:=by
   unfold cA;apply arv;intro i;simp only[aq9,arP];by_cases hi:i < (L.bs.zip c.bs).length
   ·rw[aq0 hi,List.getElem?_range hi];rfl
   ·rw[arx (by omega:(L.bs.zip c.bs).length<=i),arx (by rw[List.length_range];omega:(List.range (L.bs.zip c.bs).length).length<=i)];rfl
  rw[e];exact List.nodup_range
 exact h.sublist (List.Sublist.map _ List.filter_sublist)
def kY(p:bV->Bool)(e:En)(c:aH):aH:={ c with bs:=c.bs.map λb=>if p b then jJ b e else b }
theorem V7{M:Mo}{L:Lay}{c:aH}(a:At M L c)(p:bV->Bool)(e:En):vN ((cA L c).filter λx=>p x.2.2) e c=kY p e c:=by
 rw[N7];unfold kY;congr 1;apply arv;intro j;rw[RL _ _ _ _ (aex _),aq9];by_cases hj:j < c.bs.length
 ·have hb:=aq0 hj;rw[hb];have hl:j < L.bs.length:=by rw[a.len];exact hj
  have mem:(j,L.bs[j],c.bs[j])∈cA L c:=by unfold cA;rw[List.mem_mapIdx];refine⟨j,by simp;omega,by simp⟩
  by_cases hp:p c.bs[j]=true
  ·have:j∈((cA L c).filter λx=>p x.2.2).map (·.1):=arb.mpr ⟨_,arn.mpr ⟨mem,hp⟩,rfl⟩;rw[if_pos this];simp[hp]
  ·have:j∉((cA L c).filter λx=>p x.2.2).map (·.1):=λz=>by
    obtain⟨x,h1,h2⟩:=arb.mp z;obtain⟨h3,h4⟩:=arn.mp h1;obtain⟨_,h5⟩:=Dz h3;rw[h2,hb]at h5;rw[←ark h5]at h4;exact hp h4
   rw[if_neg this];simp[hp]
 ·rw[arx (by omega:c.bs.length<=j)];simp
theorem KZ.step{n:Nat}{c:aH}(bi:KZ n c)(i:Nat)(e:En)(h2:match e with|.cut l=>l.length=6|.sold _ l=>l.length=6|_=>True):KZ (n+1) (eO c i e):=by
 have key:∀b∈(eO c i e).bs,b∈c.bs∨∃b0∈c.bs,b=jJ b0 e:=λb hb=>by
  obtain⟨j,hj⟩:=List.mem_iff_getElem?.mp hb;rw[qU]at hj;split at hj
  ·obtain⟨b0,h3,h4⟩:=arz.mp hj;exact .inr ⟨b0,aq2 h3,h4.symm⟩
  ·exact .inl (aq2 hj)
 refine⟨λb hb=>?_,λb hb=>?_⟩
 ·rcases key b hb with h|⟨b0,h,rfl⟩
  ·exact bi.ear b h
  ·exact ai2 _ _ (bi.ear b0 h) h2
 ·rcases key b hb with h|⟨b0,h,rfl⟩
  ·have:=bi.en b h;omega
  ·have:=bi.en b0 h;simp[jJ];omega
section
variable{M:Mo}{L:Lay}{c:aH}(a:At M L c)(few:c.bs.length<=1000){n:Nat}(bi:KZ n c)(hn:n<=40000)
include a few bi hn
theorem Fy(k:Int){b:bV}(hk':bk c k=some b):∃M',oR M [ob L.h,.int k]=.ok .none M'/\At M' L (kY (λx=>gK k x&&x.sd.al) (.followed b.sd.o b.sd.g) c):=by
 obtain⟨m,hh⟩:=a.hh;have few2:c.bs.length<=50000:=by omega
 have h1:=BL a few2 hk';have h2:=adD a few2 k;rw[hk']at h2;obtain⟨k1,k2,k3,k4,k5⟩:=qF a hk';have hlen:((cA L c).filter λx=>gK k x.2.2&&x.2.2.sd.al).length<=1000:=arw (arl _ _) (by rw[a.len'];exact few);obtain⟨Z',M',g1,g2,g3⟩:=Pk (tg:=bM [3,4]) (body:=qP) (λZ=>∃x y,Z=[some (.dat (ob L.h)),some (.dat (.int k)),some (.dat (ob (hk L k))),x,y])
  (λi c1=>(∃b1,c1.bs[(k - 1).toNat]?=some b1/\b1.sd.o=b.sd.o/\b1.sd.g=b.sd.g)/\KZ (n+i) c1/\c1.bs.length=c.bs.length) (.followed b.sd.o b.sd.g) L 1000 ((cA L c).filter λx=>gK k x.2.2&&x.2.2.sd.al) M c [some (.dat (ob L.h)),some (.dat (.int k)),some (.dat (ob (hk L k))),none,none] 0 (by omega) a ⟨⟨b,k4,rfl,rfl⟩,bi,rfl⟩ ⟨none,none,rfl⟩ (λM1 c1 Z x i hi a1 p1 q1 hx=>by
   obtain⟨⟨bm,m1,m2,m3⟩,bi1,l1⟩:=p1;obtain⟨x0,y0,rfl⟩:=q1;obtain⟨nm,hm⟩:=a1.hb _ _ _ k3 m1;obtain⟨e1,e2⟩:=Dz (arn.mp hx).1;have hl:x.1 < c1.bs.length:=by rw[l1];exact(aqY.mp e2).1
   have e3:=aq0 hl;obtain⟨nx,hx1⟩:=a1.hb _ _ _ e1 e3;have mem:=arO hl;have hb:=tV hx1 (.followed b.sd.o b.sd.g) (by rw[bi1.ear _ mem];decide) (by have:=bi1.en _ mem;omega);refine⟨[some (.dat (ob L.h)),some (.dat (.int k)),some (.dat (ob (hk L k))),some (.dat (.int ((x.1:Int)+1))),some (.dat (ob x.2.1))],[some (.dat (ob L.h)),some (.dat (.int k)),some (.dat (ob (hk L k))),some (.dat (.int ((x.1:Int)+1))),some (.dat (ob x.2.1))],_,by simp[nb],?_,⟨_,_,rfl⟩,yS (n:=nx) a1 e1 e3,?_,bi1.step _ _ trivial,by simp[eO,l1]⟩
   ·have hb:m9 M1 [ob x.2.1,.tuple [.str "followed",.int b.sd.o,.int b.sd.g]]=_:=hb
    simp[qP,hx1,hm,bL];simp[iB]at hb ⊢;simp[m2,m3,hb,jJ]
   ·rw[qU,m1];by_cases z:x.1=(k - 1).toNat
    ·exact⟨jJ bm (.followed b.sd.o b.sd.g),by rw[if_pos z];rfl,rfl,rfl⟩
    ·exact⟨bm,by rw[if_neg z],m2,m3⟩)
 rw[V7 a (λx=>gK k x&&x.sd.al)]at g3;refine⟨M',?_,g3⟩;simp[oR,tH,hh,dO,dI,za,h1,h2,g1]
end
def pD(p:Int×Int):Dat:=.tuple [.int p.1,.int p.2]
theorem Cu:∀(x y:List Int),xP (x.map PyData.int) (y.map PyData.int)=(x.zip y).map pD
 |[],_=>by simp[xP]
 |_::_,[]=>by simp[xP]
 |a::x,b::y=>by
  have:=Cu x y;unfold xP at this ⊢;rw[aq1,aq1,List.zipWith_cons_cons,this,arS,aq1];rfl
def gj(x y:List Int):Int:=(((x.zip y).filter λp=>decide (p.1 < p.2)).map λp=>p.2 - p.1).sum
def iD(x y:List Int):Int:=if gj y x > gj x y then gj y x else gj x y
def jZ(x y:List Int):List Int:=(x.zip y).map λp=>if p.2 > p.1 then p.2 else p.1
theorem agY(x y:List Int)(h:x.length<=1000):(x.zip y).length<=50000:=by rw[List.length_zip];omega
theorem VH(l:List Int):T5 (.list (l.map PyData.int))=.ok (.int l.sum):=by
 show(match intsOf (l.map PyData.int) with
  |some ns=>Out.ok (PyData.int ns.sum)
  |none=>.bad)=_
 rw[BK]
theorem Ow(M:Mo)(x y:List Int)(h:x.length<=1000):uL M [aM x,aM y]=.ok (.int (gj x y)):=by
 have key:=gU (tg:=bM [2,3]) (tt:=bf (aA Wv (ao 3) (ao 2))) (te:=aA pG (ao 3) (ao 2)) (M:=M) (Z:=[some (.dat (aM x)),some (.dat (aM y)),none,none]) pD (λp=>decide (p.1 < p.2)) (λp=>.int (p.2 - p.1)) (x.zip y) λp _=>⟨[some (.dat (aM x)),some (.dat (aM y)),some (.dat (.int p.1)),some (.dat (.int p.2))],by simp[pD],by simp,λ_=>by simp⟩;have hz:=agY x y h;have hs:=VH (((x.zip y).filter λp=>decide (p.1 < p.2)).map λp=>p.2 - p.1);rw[arB]at hs;have hz2:min x.length y.length<=50000:=by omega
 simp[uL,TX,Cu,key,hz2];simp[arp]at hs;simp[hs,gj]
theorem afb(M:Mo)(x y:List Int)(h:x.length<=1000)(h2:y.length<=1000):FW M [aM x,aM y]=.ok (.int (iD x y)):=by simp[FW,Va,Ow M x y h,Ow M y x h2,iD]
theorem QJ(x y:List Int):iD x y=iD y x:=by
 unfold iD
 split<;>split<;>omega
theorem Tp(M:Mo)(x y:List Int)(r:Int)(h:x.length<=1000)(h2:y.length<=1000):rE M [aM x,aM y,.int r]=.ok (.bool (decide (iD x y<=r))):=by simp[rE,ZW,afb M x y h h2]
theorem Jm(M:Mo)(x y:List Int)(h:x.length<=1000):pU M [aM x,aM y]=.ok (aM (jZ x y)):=by
 have key:=gR (tg:=bM [2,3]) (te:=aA sO (ao 2) (ao 3)) (M:=M) (Z:=[some (.dat (aM x)),some (.dat (aM y)),none,none]) pD (λp=>.int (if p.2 > p.1 then p.2 else p.1)) (x.zip y) λp _=>⟨[some (.dat (aM x)),some (.dat (aM y)),some (.dat (.int p.1)),some (.dat (.int p.2))],by simp[pD],by simp⟩;have hz2:min x.length y.length<=50000:=by omega
 simp[pU,U7,Cu,key,hz2,jZ]
abbrev Rw:=Ear.Rw
theorem VJ:∀R:List Rw,DG (R.map Ear.rD)=some R
 |[]=>rfl
 |r::R=>by
  rw[aq1,DG,VJ R];have:acw (Ear.rD r)=some r:=by
   unfold Ear.rD Ear.dT
   show(intsOf (r.2.map PyData.int)).map _=_
   rw[BK];rfl
  rw[this];rfl
theorem KN(M:Mo)(R:List Rw)(h:R.eraseDups.length<=76):qY M [.list (R.map Ear.rD)]=.ok (.list ((bR R).map Ear.rD)):=by
 have:Rm (.list (R.map Ear.rD))=.ok (.list ((bR R).map Ear.rD)):=by
  show(match DG (R.map Ear.rD) with
   |some R=>match decide (R.eraseDups.length<=76) with
    |true=>Out.ok (PyData.list ((bR R).map Ear.rD))
    |false=>.bad
   |none=>.bad)=_
  rw[VJ]
  show(match decide (R.eraseDups.length<=76) with
    |true=>Out.ok (PyData.list ((bR R).map Ear.rD))
    |false=>.bad)=_
  rw[decide_eq_true h]
 simp[qY,Pg,this]
theorem uf(R:List Rw):(bR R).length=R.eraseDups.length:=by unfold bR RK;rw[List.length_mergeSort]
def wz(o:Int)(e:List Int)(R:List Rw)(room:Int):List Rw:=(bR R).filter λr=>!(r.1==o)&&decide (iD e r.2<=room)
def uH(R:List Rw):Prop:=∀r∈R,r.2.length=6
theorem abP(M:Mo)(o:Int)(e:List Int)(R:List Rw)(room:Int)(he:e.length=6)(hR:uH R)(h:R.eraseDups.length<=76):zY M [.int o,aM e,.list (R.map Ear.rD),.int room]=.ok (.list ((wz o e R room).map Ear.rD)):=by
 have ht:=KN M R h;have hl:(bR R).length<=50000:=by rw[uf];omega
 have key:=gU (tg:=bM [4,5]) (tt:=lg (bf (aA Bp (ao 4) (ao 0))) (iH (aZ rE (ak (aq 1) (ak (aq 5) (ak (aq 3) au)))))) (te:=bF (ak (aq 4) (ak (aq 5) au))) (M:=M) (Z:=[some (.dat (.int o)),some (.dat (aM e)),some (.dat (.list (R.map Ear.rD))),some (.dat (.int room)),none,none]) Ear.rD (λr=>!(r.1==o)&&decide (iD e r.2<=room)) Ear.rD (bR R) λr hr=>⟨[some (.dat (.int o)),some (.dat (aM e)),some (.dat (.list (R.map Ear.rD))),some (.dat (.int room)),some (.dat (.int r.1)),some (.dat (aM r.2))],by simp[Ear.rD,Ear.dT],by
  have:=Tp M e r.2 room (by omega) (by rw[hR r (fU.mp hr)];decide);by_cases hz:r.1=o<;>simp[this,hz],λ_=>by simp[Ear.rD,Ear.dT]⟩
 simp[zY,KD,ht,key,hl,wz]
theorem Oe(M:Mo)(o:Int)(e:List Int)(R:List Rw)(room:Int)(he:e.length=6)(hR:uH R)(h:R.eraseDups.length<=76):pC M [.int o,aM e,.list (R.map Ear.rD),.int room]=match wz o e R room with
  |[]=>.ok .none
  |r::_=>.exc ⟨"Clash",[("ear",aM (jZ e r.2)),("others",Ear.rD r),("ones",Ear.rD (o,e))]⟩:=by
 have hb:=abP M o e R room he hR h;cases hx:wz o e R room with
 |nil=>
  rw[hx]at hb;simp[pC,BJ,hb]
 |cons r rs=>
  rw[hx]at hb;have hj:=Jm M e r.2 (by omega);simp[pC,BJ,hb];simp[Ear.rD,Ear.dT,hj]
theorem Ih{α β:Type}{tg tg1:fV}{tt tt1:QT}{it1:IF}{vs1:List Nat}{te:QF}{M:Mo}{Z:Rf.Env}(ds:α->Dat)(ys:α->List β)(ds1:β->Dat)(p:α->β->Bool)(f:α->β->Dat):∀(xs:List α),(∀x∈xs,∃Z1,tg (ds x) Z=some Z1/\tt M Z1=.ok true/\zG Z1=true/\it1 M Z1=.ok ((ys x).map ds1)/\∀y∈ys x,∃Z2,tg1 (ds1 y) (cD Z1 vs1)=some Z2/\tt1 M Z2=.ok (p x y)/\(p x y=true->te M Z2=.ok (f x y)))->
  iG tg tt it1 tg1 vs1 tt1 te M Z (xs.map ds)=.ok (xs.flatMap λx=>((ys x).filter (p x)).map (f x))
 |[],_=>rfl
 |x::xs,h=>by
  obtain⟨Z1,h1,h2,h3,h4,h5⟩:=h x aq4;have ih:=Ih ds ys ds1 p f xs λy hy=>h y (aq3 _ hy);have hc:=gU (tg:=tg1) (tt:=tt1) (te:=te) (M:=M) (Z:=cD Z1 vs1) ds1 (p x) (f x) (ys x) h5;rw[aq1,iG,h1]
  show((yG (tt M Z1)).bind λb=>if b=true then Out.when (zG Z1) ((yG (it1 M Z1)).bind λes=>(dJ tg1 tt1 te M (cD Z1 vs1) es).bind λr1=>(iG tg tt it1 tg1 vs1 tt1 te M Z (xs.map ds)).bind λr=>Out.ok (r1++r)) else iG tg tt it1 tg1 vs1 tt1 te M Z (xs.map ds))=_
  rw[h2,Yq,Out.yQ,if_pos rfl,h3,Out.VL,h4,Yq,Out.yQ,hc,Out.yQ,ih,Out.yQ,List.flatMap_cons]
def dB(x:List Int):Bool:=decide (x.length=6)&&x.all λd=>decide (0<=d)&&decide (d<=9)
theorem Ec(l:List Bool):uK (l.map PyData.bool)=some l:=by
 induction l with
 |nil=>rfl
 |cons b l ih=>rw[aq1,uK,ih];rfl
theorem Wm(M:Mo)(x:List Int)(h:x.length<=1000):ug M [aM x]=.ok (.bool (dB x)):=by
 have key:=gR (tg:=aF 1) (te:=Vu (pF wV wV (qC (.int 0)) (ao 1) (qC cW))) (M:=M) (Z:=[some (.dat (aM x)),none]) PyData.int (λd=>.bool (decide (0<=d)&&decide (d<=9))) x λd _=>⟨[some (.dat (aM x)),some (.dat (.int d))],by simp,by
  by_cases h0:0<=d<;>simp[h0,cW]⟩
 have ha:Pn (.list (x.map λd=>PyData.bool (decide (0<=d)&&decide (d<=9))))=.ok (.bool (x.all λd=>decide (0<=d)&&decide (d<=9))):=by
  have e:(x.map λd=>PyData.bool (decide (0<=d)&&decide (d<=9)))=(x.map λd=>decide (0<=d)&&decide (d<=9)).map PyData.bool:=by rw[arB];rfl
  rw[e]
  show(match uK _ with
   |some bs=>Out.ok (PyData.bool (bs.all id))
   |none=>.bad)=_
  rw[Ec];simp[List.all_map,arp]
 have hl:x.length<=50000:=by omega
 by_cases h6:x.length=6
 ·have h6':((x.length:Int)==6)=true:=by simp[h6]
  simp[ug,Jt,jh,key,hl,ha,dB,h6]
 ·have h6':¬(x.length:Int)=6:=by omega
  simp[ug,Jt,jh,dB,h6,h6']
theorem N5(M:Mo)(x:List Int)(h:x.length<=1000):qO M [aM x]=if dB x then .ok .none else .exc ⟨"BadEar",[]⟩:=by have:=Wm M x h;cases hb:dB x<;>simp[qO,HF,this,hb]
def pairD(p:Rw×Rw):Dat:=.tuple [Ear.rD p.1,Ear.rD p.2]
def jT(T:List Rw)(room:Int):List (Rw×Rw):=(T.mapIdx λi r=>(i,r)).flatMap λx=>((T.drop (x.1+1)).filter λs=>!(x.2.1==s.1)&&decide (iD x.2.2 s.2<=room)).map λs=>(x.2,s)
theorem aay(T:List Rw)(room:Int):(jT T room).length<=T.length * T.length:=by
 unfold jT;rw[List.length_flatMap];have key:∀(l:List (Nat×Rw)),(l.map λx=>(((T.drop (x.1+1)).filter λs=>!(x.2.1==s.1)&&decide (iD x.2.2 s.2<=room)).map λs=>(x.2,s)).length).sum<=l.length * T.length:=by
  intro l
  induction l with
  |nil=>simp
  |cons x l ih=>
   rw[aq1,List.sum_cons,ard,Nat.add_mul,Nat.one_mul];have:(((T.drop (x.1+1)).filter λs=>!(x.2.1==s.1)&&decide (iD x.2.2 s.2<=room)).map λs=>(x.2,s)).length<=T.length:=by rw[ara];refine arw (arl _ _) ?_;rw[ar6];omega
   omega
 have:=key (T.mapIdx λi r=>(i,r));rw[List.length_mapIdx]at this;exact this
theorem aaz(M:Mo)(R:List Rw)(room:Int)(hR:uH R)(h:R.eraseDups.length<=76):uV M [.list (R.map Ear.rD),.int room]=.ok (.list ((jT (bR R) room).map pairD)):=by
 have ht:=KN M R h;have hl:(bR R).length<=76:=by rw[uf];exact h
 have hE:∀r∈bR R,r.2.length=6:=λr hr=>hR r (fU.mp hr);generalize bR R=T at ht hl hE;have he:sV 0 (T.map Ear.rD)=(T.mapIdx λi r=>(i,r)).map λ(x:Nat×Rw)=>PyData.tuple [.int x.1,Ear.rD x.2]:=by unfold sV;apply arv;intro i;simp;cases T[i]?<;>simp
 have key:=Ih (tg:=bM [3,4]) (tg1:=aF 5) (tt:=jD) (it1:=dw (Ly (ao 2) (qD (aA gH (ao 3) (qC (.int 1)))) w6)) (vs1:=[5]) (tt1:=lg (bf (aA Bp (aA aV (ao 4) (qC (.int 0))) (aA aV (ao 5) (qC (.int 0))))) (iH (aZ rE (ak (aA aV (ao 4) (qC (.int 1))) (ak (aA aV (ao 5) (qC (.int 1))) (ak (aq 1) au)))))) (te:=bF (ak (aq 4) (ak (aq 5) au))) (M:=M) (Z:=[some (.dat (.list (R.map Ear.rD))),some (.dat (.int room)),some (.dat (.list (T.map Ear.rD))),none,none,none])
  (λ(x:Nat×Rw)=>PyData.tuple [.int x.1,Ear.rD x.2]) (λx=>T.drop (x.1+1)) Ear.rD (λx s=>!(x.2.1==s.1)&&decide (iD x.2.2 s.2<=room)) (λx s=>pairD (x.2,s)) (T.mapIdx λi r=>(i,r)) λx hx=>⟨[some (.dat (.list (R.map Ear.rD))),some (.dat (.int room)),some (.dat (.list (T.map Ear.rD))),some (.dat (.int x.1)),some (.dat (Ear.rD x.2)),none],by simp,rfl,rfl,by
   have:=ZR (T.map Ear.rD) (x.1+1);simp at this ⊢;rw[this],λs hs=>⟨[some (.dat (.list (R.map Ear.rD))),some (.dat (.int room)),some (.dat (.list (T.map Ear.rD))),some (.dat (.int x.1)),some (.dat (Ear.rD x.2)),some (.dat (Ear.rD s))],by simp,by
   obtain⟨i,hi,rfl⟩:=List.mem_mapIdx.mp hx;have h1:=hE _ (arO hi);have h2:=hE s (List.mem_of_mem_drop hs);have:=Tp M (T[i]).2 s.2 room (by omega) (by omega);by_cases hz:(T[i]).1=s.1<;>simp[Ear.rD,Ear.dT,this,hz],λ_=>by simp[pairD]⟩⟩
 have e2:((T.mapIdx λi r=>(i,r)).flatMap λx=>((T.drop (x.1+1)).filter λs=>!(x.2.1==s.1)&&decide (iD x.2.2 s.2<=room)).map λs=>pairD (x.2,s))=(jT T room).map pairD:=by unfold jT;rw[List.map_flatMap];congr 1;funext x;rw[arB];rfl
 rw[e2]at key;have hc:(jT T room).length<=50000:=by have:=aay T room;have:T.length * T.length<=76 * 76:=Nat.mul_le_mul hl hl;omega
 simp[uV,Jq,ht];rw[he];simp[key,hc]
def hdD(x:List Int×Int):Dat:=.tuple [aM x.1,.int x.2]
def Kh(d l:Int):Int:=(if 9 < d+l then 9 else d+l)+1
def BW(d l:Int):List Int:=(List.range (Kh d l - d).toNat).map λ(i:Nat)=>d+(i:Int)
def stepT(d:Int)(H:List (List Int×Int)):List (List Int×Int):=H.flatMap λx=>(BW d x.2).map λcut=>(x.1++[cut],x.2 - (cut - d))
structure Pu(k:Nat)(H:List (List Int×Int)):Prop where
 len:H.length<=4 ^ k
 left:∀x∈H,0<=x.2/\x.2<=3
 hd:∀x∈H,x.1.length=k/\∀y∈x.1,0<=y/\y<=9
theorem adS{d l:Int}(hl:0<=l/\l<=3):(BW d l).length<=4:=by
 unfold BW Kh;simp
 split<;>omega
theorem Wj{d l y:Int}(h:y∈BW d l):d<=y/\y<=d+l/\y<=9:=by unfold BW Kh at h;obtain⟨i,hi,rfl⟩:=arb.mp h;rw[List.mem_range]at hi;split at hi<;>omega
theorem Ws{k:Nat}{H:List (List Int×Int)}{d:Int}(i:Pu k H)(hd:0<=d/\d<=9):Pu (k+1) (stepT d H):=by
 refine⟨?_,λx hx=>?_,λx hx=>?_⟩
 ·have key:∀l:List (List Int×Int),(∀x∈l,0<=x.2/\x.2<=3)->(stepT d l).length<=l.length * 4:=by
   intro l
   induction l with
   |nil=>intro _;simp[stepT]
   |cons x l ih=>
    intro h;have h1:=ih λy hy=>h y (aq3 _ hy);have h2:=adS (d:=d) (h x aq4);unfold stepT at h1 ⊢;rw[List.flatMap_cons,arN,ara,ard];omega
  have:=key H i.left;have:=i.len;rw[Nat.pow_succ];omega
 ·unfold stepT at hx;obtain⟨y,hy,hx⟩:=List.mem_flatMap.mp hx;obtain⟨c,hc,rfl⟩:=arb.mp hx;have:=Wj hc;have:=i.left y hy;show 0<=y.2 - (c - d)/\y.2 - (c - d)<=3;omega
 ·unfold stepT at hx;obtain⟨y,hy,hx⟩:=List.mem_flatMap.mp hx;obtain⟨c,hc,rfl⟩:=arb.mp hx;have:=Wj hc;obtain⟨h1,h2⟩:=i.hd y hy;refine⟨by simp[h1],λz hz=>?_⟩;rcases aq8.mp hz with hz|hz
  ·exact h2 z hz
  ·rw[aq5.mp hz];omega
theorem adF(M:Mo)(e m:Option Cell)(he:zG [e,m]=true){k:Nat}{H:List (List Int×Int)}{d:Int}(i:Pu k H)(hk:k<=5)(hd:0<=d/\d<=9):CW M [e,m,some (.dat (.list (H.map hdD))),some (.dat (.int d)),none,none,none]=.next [e,m,some (.dat (.list ((stepT d H).map hdD))),some (.dat (.int d)),none,none,none] M:=by
 have key:=Ih (tg:=bM [4,5]) (tg1:=aF 6) (tt:=jD) (it1:=Cg (ao 3) (aA gH (aA Jb (aA gH (ao 3) (ao 5)) (qC cW)) (qC (.int 1)))) (vs1:=[6]) (tt1:=jD) (te:=bF (ak (aA gH (ao 4) (bF (ak (aq 6) au))) (ak (aA pG (ao 5) (aA pG (ao 6) (ao 3))) au))) (M:=M) (Z:=[e,m,some (.dat (.list (H.map hdD))),some (.dat (.int d)),none,none,none])
  hdD (λx=>BW d x.2) PyData.int (λ_ _=>true) (λx c=>hdD (x.1++[c],x.2 - (c - d))) H λx hx=>⟨[e,m,some (.dat (.list (H.map hdD))),some (.dat (.int d)),some (.dat (aM x.1)),some (.dat (.int x.2)),none],by simp[hdD],rfl,by
   simp[zG]at he ⊢;exact he,by
   have hl:=i.left x hx;have hz:Kh d x.2<=100000/\-100000<=Kh d x.2/\d<=100000/\-100000<=d:=by unfold Kh;split<;>omega
   have e1:fH d (Kh d x.2 - d).toNat=(BW d x.2).map PyData.int:=by unfold fH BW;rw[arB];rfl
   have e2:(if 9 < d+x.2 then(9:Int) else d+x.2)+1=Kh d x.2:=rfl;simp[cW,e2,e1,hz],λc hc=>⟨[e,m,some (.dat (.list (H.map hdD))),some (.dat (.int d)),some (.dat (aM x.1)),some (.dat (.int x.2)),some (.dat (.int c))],by simp,rfl,λ_=>by
   have h1:=(i.hd x hx).1;have h2:x.1.length+1<=100000:=by omega
   simp[hdD,h2]⟩⟩
 have e2:(H.flatMap λx=>((BW d x.2).filter λ_=>true).map λc=>hdD (x.1++[c],x.2 - (c - d)))=(stepT d H).map hdD:=by unfold stepT;rw[List.map_flatMap];congr 1;funext x;rw[List.filter_eq_self.mpr (λ_ _=>rfl),arB];rfl
 rw[e2]at key;have hl:(stepT d H).length<=50000:=by have:=(Ws i hd).len;have:4 ^ (k+1)<=4 ^ 6:=Nat.pow_le_pow_right (by decide) (by omega);omega
 simp[CW,key,hl]
theorem Lf(M:Mo)(e m:Option Cell)(he:zG [e,m]=true):∀(ear:List Int) (k:Nat) (H:List (List Int×Int)) (o:Option Cell),Pu k H->k+ear.length<=6->(∀d∈ear,0<=d/\d<=9)->
  (∃o',fD (aF 3) CW (ear.map PyData.int) M [e,m,some (.dat (.list (H.map hdD))),o,none,none,none]=.next [e,m,some (.dat (.list ((ear.foldl (λH d=>stepT d H) H).map hdD))),o',none,none,none] M)/\Pu (k+ear.length) (ear.foldl (λH d=>stepT d H) H)
 |[],k,H,o,i,_,_=>⟨⟨o,rfl⟩,i⟩
 |d::ear,k,H,o,i,hk,hd=>by
  rw[ard]at hk;have h1:=hd d aq4;obtain⟨⟨o',ih⟩,i2⟩:=Lf M e m he ear (k+1) (stepT d H) (some (.dat (.int d))) (Ws i h1) (by omega) λy hy=>hd y (aq3 _ hy);refine⟨⟨o',?_⟩,?_⟩
  ·rw[aq1,fW (Z1:=[e,m,some (.dat (.list (H.map hdD))),some (.dat (.int d)),none,none,none]) (by simp) (adF M e m he i (by omega) h1),ih];rfl
  ·rw[ard,show k+(ear.length+1)=k+1+ear.length by omega];exact i2
def DR(ear:List Int)(many:Int):List (List Int):=(ear.foldl (λH d=>stepT d H) [([],many)]).map (·.1)
theorem aeg{many:Int}(hm:0<=many/\many<=3):Pu 0 [([],many)]:=⟨by simp,λx hx=>by rw[aq5.mp hx];exact hm,λx hx=>by rw[aq5.mp hx];simp⟩
theorem O7{ear:List Int}{many:Int}(he:dB ear=true)(hm:0<=many/\many<=3):Pu 6 (ear.foldl (λH d=>stepT d H) [([],many)]):=by unfold dB at he;rw[aqZ,asj,aro]at he;have:=(Lf [] none none rfl ear 0 [([],many)] none (aeg hm) (by omega) λd hd=>by simpa using he.2 d hd).2;rw[he.1]at this;exact this
theorem aiq(M:Mo)(ear:List Int)(many:Int)(he:dB ear=true)(hm:0<=many/\many<=3):K8 M [aM ear,.int many]=.ok (.list ((DR ear many).map aM)):=by
 have he':=he;unfold dB at he';rw[aqZ,asj,aro]at he';obtain⟨⟨o',h1⟩,_⟩:=Lf M (some (.dat (aM ear))) (some (.dat (.int many))) rfl ear 0 [([],many)] none (aeg hm) (by omega) λd hd=>by simpa using he'.2 d hd
 have hi:=O7 he hm;generalize hH:ear.foldl (λH d=>stepT d H) [([],many)]=H at h1 hi;have key:=gR (tg:=bM [4,5]) (te:=aq 4) (M:=M) (Z:=[some (.dat (aM ear)),some (.dat (.int many)),some (.dat (.list (H.map hdD))),o',none,none,none]) hdD (λx=>aM x.1) H λx _=>⟨[some (.dat (aM ear)),some (.dat (.int many)),some (.dat (.list (H.map hdD))),o',some (.dat (aM x.1)),some (.dat (.int x.2)),none],by simp[hdD],by simp⟩;have hl:H.length<=50000:=by
  have:=hi.len;have:(4:Nat) ^ 6=4096:=by decide
  omega
 have h1':fD (aF 3) CW (ear.map PyData.int) M [some (.dat (aM ear)),some (.dat (.int many)),some (.dat (.list [.tuple [.tuple [],.int many]])),none,none,none,none]=_:=h1;have key2:∀o2:Option Cell,dJ (bM [4,5]) jD (aq 4) M [some (.dat (aM ear)),some (.dat (.int many)),some (.dat (.list (H.map hdD))),o2,none,none,none] (H.map hdD)=.ok (H.map λx=>aM x.1):=λo2=>gR (tg:=bM [4,5]) (te:=aq 4) (M:=M) (Z:=[some (.dat (aM ear)),some (.dat (.int many)),some (.dat (.list (H.map hdD))),o2,none,none,none]) hdD (λx=>aM x.1) H λx _=>⟨[some (.dat (aM ear)),some (.dat (.int many)),some (.dat (.list (H.map hdD))),o2,some (.dat (aM x.1)),some (.dat (.int x.2)),none],by simp[hdD],by simp⟩;simp[K8,YF,h1',key2,hl,DR,hH]
def P0(mark:List Int)(extra:Int):List (List Int):=(DR mark extra).filter λe=>gj mark e==extra
theorem VR{ear:List Int}{many:Int}(he:dB ear=true)(hm:0<=many/\many<=3){x:List Int}(h:x∈DR ear many):dB x=true:=by obtain⟨y,hy,rfl⟩:=arb.mp h;obtain⟨h1,h2⟩:=(O7 he hm).hd y hy;unfold dB;rw[aqZ,asj,aro];exact⟨h1,λd hd=>by simpa using h2 d hd⟩
theorem adu{ear:List Int}{many:Int}(he:dB ear=true)(hm:0<=many/\many<=3):(DR ear many).length<=4096:=by unfold DR;rw[ara];exact(O7 he hm).len
theorem Yk(M:Mo)(mark:List Int)(extra:Int)(he:dB mark=true)(hm:0<=extra/\extra<=3):vD M [aM mark,.int extra]=.ok (.list ((P0 mark extra).map aM)):=by
 have h1:=aiq M mark extra he hm;have hl:=adu he hm;have h6:mark.length<=1000:=by unfold dB at he;rw[aqZ,asj]at he;omega
 have key:=gU (tg:=aF 2) (tt:=bf (aA bU (aZ uL (ak (aq 0) (ak (aq 2) au))) (ao 1))) (te:=aq 2) (M:=M) (Z:=[some (.dat (aM mark)),some (.dat (.int extra)),none]) aM (λe=>gj mark e==extra) aM (DR mark extra) λx _=>⟨[some (.dat (aM mark)),some (.dat (.int extra)),some (.dat (aM x))],by simp,by
  have:=Ow M mark x h6;simp[this],λ_=>by simp⟩
 have hl2:(DR mark extra).length<=50000:=by omega
 simp[vD,Fo,h1,key,hl2,P0]
def zM(R:List Rw)(room:Int)(e:List Int):Bool:=!(R.any λr=>decide (iD e r.2<=room))
theorem aac(l:List Bool):PB (.list (l.map PyData.bool))=.ok (.bool (l.any id)):=by
 show(match uK (l.map PyData.bool) with
  |some bs=>Out.ok (PyData.bool (bs.any id))
  |none=>.bad)=_
 rw[Ec]
theorem abL(M:Mo)(R:List Rw)(room:Int)(hR:uH R)(hl:R.length<=50000)(mk:List Int)(x:Int)(e:List Int)(he:e.length=6) :
  j8 M [some (.dat (aM mk)),some (.dat (.int x)),some (.dat (.list (R.map Ear.rD))),some (.dat (.int room)),some (.dat (aM e)),none,none]=if zM R room e then .ret (aM e) M else .next [some (.dat (aM mk)),some (.dat (.int x)),some (.dat (.list (R.map Ear.rD))),some (.dat (.int room)),some (.dat (aM e)),none,none] M:=by
 have key:=gR (tg:=bM [5,6]) (te:=aZ rE (ak (aq 4) (ak (aq 6) (ak (aq 3) au)))) (M:=M) (Z:=[some (.dat (aM mk)),some (.dat (.int x)),some (.dat (.list (R.map Ear.rD))),some (.dat (.int room)),some (.dat (aM e)),none,none]) Ear.rD (λr=>.bool (decide (iD e r.2<=room))) R λr hr=>⟨[some (.dat (aM mk)),some (.dat (.int x)),some (.dat (.list (R.map Ear.rD))),some (.dat (.int room)),some (.dat (aM e)),some (.dat (.int r.1)),some (.dat (aM r.2))],by simp[Ear.rD,Ear.dT],by
  have:=Tp M e r.2 room (by omega) (by rw[hR r hr];decide);simp[this]⟩
 have ha:=aac (R.map λr=>decide (iD e r.2<=room));rw[arB]at ha;simp only[arp,ar5]at ha;cases hf:zM R room e<;>simp[j8,key,hl,ha]<;>simp[zM]at hf<;>simpa using hf
theorem Rk(M:Mo)(R:List Rw)(room:Int)(hR:uH R)(hl:R.length<=50000)(mk:List Int)(x:Int):∀(es:List (List Int)) (o:Option Cell),(∀e∈es,e.length=6)->
  match es.find? (zM R room) with
   |some e=>fD (aF 4) j8 (es.map aM) M [some (.dat (aM mk)),some (.dat (.int x)),some (.dat (.list (R.map Ear.rD))),some (.dat (.int room)),o,none,none]=.ret (aM e) M
   |none=>∃Z',fD (aF 4) j8 (es.map aM) M [some (.dat (aM mk)),some (.dat (.int x)),some (.dat (.list (R.map Ear.rD))),some (.dat (.int room)),o,none,none]=.next Z' M
 |[],o,_=>⟨_,rfl⟩
 |e::es,o,he=>by
  have h1:=abL M R room hR hl mk x e (he e aq4);have ih:=Rk M R room hR hl mk x es (some (.dat (aM e))) λy hy=>he y (aq3 _ hy);rw[List.find?_cons];cases hf:zM R room e with
  |true=>
   rw[hf,if_pos rfl]at h1;show fD _ _ _ _ _=_;rw[aq1,fD];simp[h1]
  |false=>
   rw[hf,if_neg (by decide)]at h1;have e1:fD (aF 4) j8 ((e::es).map aM) M [some (.dat (aM mk)),some (.dat (.int x)),some (.dat (.list (R.map Ear.rD))),some (.dat (.int room)),o,none,none]=fD (aF 4) j8 (es.map aM) M [some (.dat (aM mk)),some (.dat (.int x)),some (.dat (.list (R.map Ear.rD))),some (.dat (.int room)),some (.dat (aM e)),none,none]:=by rw[aq1,fW (by simp) h1]
   rw[e1];exact ih
theorem WL(M:Mo)(mark:List Int)(extra:Int)(R:List Rw)(room:Int)(he:dB mark=true)(hm:0<=extra/\extra<=3)(hR:uH R)(hl:R.length<=50000):qp M [aM mark,.int extra,.list (R.map Ear.rD),.int room]=match (P0 mark extra).find? (zM R room) with
  |some e=>.ok (aM e)
  |none=>.exc ⟨"NoneFree",[]⟩:=by
 have h1:=Yk M mark extra he hm;have h2:=Rk M R room hR hl mark extra (P0 mark extra) none λe h=>by
  have:=VR he hm (arn.mp h).1;unfold dB at this;rw[aqZ,asj]at this;exact this.1
 cases hf:(P0 mark extra).find? (zM R room) with
 |some e=>
  rw[hf]at h2;simp[qp,yq,h1,h2]
 |none=>
  rw[hf]at h2;obtain⟨Z',h2⟩:=h2;simp[qp,yq,h1,h2]
@[simp]theorem anC (L:Lay) (c:aH):(aN L c).cls="Commons":=rfl
theorem any_keys(y:Int)(l:List Int):((l.map λo=>(PyData.int o,PyData.bool true)).any λp=>PyData.eqv p.1 (.int y))=decide (y∈l):=by have:=any_ints y l;rw[ar5]at this ⊢;exact this
section
variable{M:Mo}{L:Lay}{c:aH}(a:At M L c)
include a
theorem lU(o:Int):jK M [ob L.c,.int o]=if o∈c.own then .ok .none else .exc ⟨"NoOwner",[]⟩:=by
 have hc:=a.hc;have hk:=any_keys o c.own;simp only[ar5,arp]at hk;by_cases h:o∈c.own
 ·rw[decide_eq_true h]at hk;rw[if_pos h];simp[jK,mH,hc,aN,arp,hk];rw[if_neg (λz=>z o h rfl)]
 ·rw[decide_eq_false h]at hk;rw[if_neg h];simp[jK,mH,hc,aN,arp,hk];have hz:∀x:Int,x∈c.own->¬x=o:=λx hx e=>h (e ▸ hx);rw[if_pos hz]
theorem zU(i:dh c)(x:Int):qj M [ob L.c,.int x]=if Vg c x then .ok (.int (roomOf c x)) else .exc ⟨"NoGround",[]⟩:=by
 have hc:=a.hc;obtain⟨n,m,hg⟩:=a.hg;have h1:=ahK a i x;by_cases h:Vg c x
 ·rw[if_pos h]at h1 ⊢;simp[qj,uJ,hc,aN,hg,dG,sY,h1]
 ·rw[if_neg h]at h1 ⊢;simp[qj,uJ,hc,aN,hg,dG,sY,h1]
theorem Bl(i:dh c)(x:Int):lE M [ob L.c,.int x]=if Vg c x then .ok (lI (aJ c x)) else .exc ⟨"NoGround",[]⟩:=by
 have hc:=a.hc;obtain⟨n,m,hg⟩:=a.hg;have h1:=vM a i x;by_cases h:Vg c x
 ·rw[if_pos h]at h1 ⊢;simp[lE,oY,hc,aN,hg,dG,bD,h1]
 ·rw[if_neg h]at h1 ⊢;simp[lE,oY,hc,aN,hg,dG,bD,h1]
theorem aeJ:qN M [ob L.c]=.ok (lI c.own):=by have hc:=a.hc;simp[qN,wu,hc,aN,arp]
theorem qZ(few:c.held.length<=50000)(o g:Int):mV M [ob L.c,.int o,.int g]=if bK c o g=[] then .exc ⟨"NoRight",[]⟩ else .ok .none:=by have hc:=a.hc;have hr:=a.hr;have h1:=Zf a few o g;by_cases h:bK c o g=[]<;>simp[mV,qT,hc,aN,hr,oE,rQ,h1,h]
theorem Ba(few:c.held.length<=50000)(o g:Int){mk:List Int}{r:List (List Int)}(h:bK c o g=mk::r):mK M [ob L.c,.int o,.int g]=.ok (aM mk):=by have hc:=a.hc;have hr:=a.hr;have h1:=Ik a few o g;rw[h]at h1;simp[mK,qJ,hc,aN,hr,oE,cO,h1]
end
def inR(c:aH)(near:List Int):List Rw:=(c.held.filter λr=>decide (r.2.1∈near)).map λr=>(r.1,r.2.2)
def aae(lo:Int)(x:Nat×Nat×bV):Bool:=x.2.2.sd.due.isSome&&!(((x.1:Int)+1)==lo)
def Qa(L:Lay)(c:aH)(lo:Int)(near:List Int):List Rw:=(((cA L c).filter λx=>decide (x.2.2.sd.g∈near)&&x.2.2.sd.al).filter (aae lo)).map λx=>(x.2.2.sd.o,x.2.2.sd.due.getD [])
def fO(L:Lay)(c:aH)(lo x:Int):List Rw:=inR c (aJ c x)++Qa L c lo (aJ c x)
section
variable{M:Mo}{L:Lay}{c:aH}(a:At M L c)
include a
theorem DK(i:dh c)(few:c.held.length<=20000)(fewb:c.bs.length<=20000)(lo x:Int)(h76:(fO L c lo x).eraseDups.length<=76):iY M [ob L.c,.int lo,.int x]=if Vg c x then .ok (.list ((bR (fO L c lo x)).map Ear.rD)) else .exc ⟨"NoGround",[]⟩:=by
 have hc:=a.hc;have hr:=a.hr;obtain⟨n,hh⟩:=a.hh;have h1:=Bl a i x;by_cases h:Vg c x
 ·rw[if_pos h]at h1 ⊢;have h2:=Qp a (by omega:c.bs.length<=50000) (aJ c x);have h3:=Xa a (by omega:c.held.length<=50000) (aJ c x);have h4:=KN M (fO L c lo x) h76;have hl:((cA L c).filter λy=>decide (y.2.2.sd.g∈aJ c x)&&y.2.2.sd.al).length<=20000:=arw (arl _ _) (by rw[a.len'];exact fewb);have hl2:((cA L c).filter λy=>decide (y.2.2.sd.g∈aJ c x)&&y.2.2.sd.al).length<=50000:=by omega
  have key:=gU (tg:=bM [5,6]) (tt:=lg (bf (wI true .none (bH "due" (ao 6)))) (bf (aA Bp (ao 5) (ao 1)))) (te:=bF (ak (gY "owner" (ao 6)) (ak (gY "due" (ao 6)) au))) (M:=M) (Z:=[some (.dat (ob L.c)),some (.dat (.int lo)),some (.dat (.int x)),some (.dat (lI (aJ c x))),none,none,none]) nb (aae lo) (λy=>Ear.rD (y.2.2.sd.o,y.2.2.sd.due.getD [])) ((cA L c).filter λy=>decide (y.2.2.sd.g∈aJ c x)&&y.2.2.sd.al) λy hy=>⟨[some (.dat (ob L.c)),some (.dat (.int lo)),some (.dat (.int x)),some (.dat (lI (aJ c x))),none,some (.dat (.int ((y.1:Int)+1))),some (.dat (ob y.2.1))],by simp[nb],by
   obtain⟨n',hb⟩:=a.hb' (arn.mp hy).1;cases hd:y.2.2.sd.due<;>simp[hb,iB,hd,nH,aae,kJ],λhp=>by
   obtain⟨n',hb⟩:=a.hb' (arn.mp hy).1;cases hd:y.2.2.sd.due with
   |none=>simp[aae,hd]at hp
   |some e=>simp[hb,iB,hd,nH,Ear.rD,Ear.dT]⟩
  have e1:(c.held.filter λr=>decide (r.2.1∈aJ c x)).map (λr=>Ear.rD (r.1,r.2.2))=(inR c (aJ c x)).map Ear.rD:=by unfold inR;rw[arB];rfl
  have e2:(((cA L c).filter λy=>decide (y.2.2.sd.g∈aJ c x)&&y.2.2.sd.al).filter (aae lo)).map (λy=>Ear.rD (y.2.2.sd.o,y.2.2.sd.due.getD []))=(Qa L c lo (aJ c x)).map Ear.rD:=by unfold Qa;rw[arB];rfl
  rw[e1]at h3;rw[e2]at key;have z1:(inR c (aJ c x)).length<=20000:=by unfold inR;rw[ara];exact arw (arl _ _) few
  have z2:(Qa L c lo (aJ c x)).length<=20000:=by unfold Qa;rw[ara];exact arw (arl _ _) hl
  have z3:(inR c (aJ c x)).length+(Qa L c lo (aJ c x)).length<=100000:=by omega
  unfold fO at h4 ⊢;rw[arC]at h4;simp[iY,lA,hc,aN,bT,h1,hh,dO,jH,h2,hr,oE,qW,h3];simp[key,hl2,z3,h4,hc,aN,hr,oE,h3]
 ·rw[if_neg h]at h1 ⊢;simp[iY,lA,hc,aN,bT,h1]
end
def mJ(b:bV):Dat:=.tuple [.int b.sd.o,.int b.sd.g,nH b.sd.due,aM b.sd.ear,.bool b.sd.al,.int b.mo,.tuple (b.fi.dat::b.en.map En.dat)]
theorem ag8{M:Mo}{h n:Nat}{b:bV}(hb:M[h]?=some (iB n b)):yx M [ob h]=.ok (mJ b):=by have h1:=Yw hb;simp[yx,CQ,hb,mY,h1];simp[iB,Sd.dat,mJ]
def grD(c:aH)(k:Nat):Dat:=.tuple [.int (oF c ((k:Int)+1)),aM (aJ c ((k:Int)+1))]
def lu(c:aH):Dat:=.tuple [lI c.own,.list ((List.range c.al.length).map (grD c)),.list (c.held.map gW),.list (c.bs.map mJ)]
section
variable{M:Mo}{L:Lay}{c:aH}(a:At M L c)
include a
theorem ag6(i:dh c)(few:c.held.length<=20000)(fewb:c.bs.length<=20000):nu M [ob L.c]=.ok (lu c):=by
 have hc:=a.hc;have hr:=a.hr;obtain⟨n,m,hg⟩:=a.hg;obtain⟨n1,hh⟩:=a.hh;have h1:=aa6 a;have h2:=aeJ a;have h3:=aap a (by omega:c.held.length<=50000);have hf:=i.few;have k1:=gR (tg:=aF 3) (te:=bF (ak (aP dX (bH "grounds" (ao 0)) (ak (aq 3) au)) (ak (eX nR (aP bT (ao 0) (ak (aq 3) au))) au))) (M:=M) (Z:=[some (.dat (ob L.c)),none,none,none,none]) (λ(k:Nat)=>PyData.int (1+(k:Int))) (grD c) (List.range c.al.length) λk hk=>⟨[some (.dat (ob L.c)),none,none,some (.dat (.int ((k:Int)+1))),none],by simp[Int.add_comm],by
  rw[List.mem_range]at hk;have hv:Vg c ((k:Int)+1):=by constructor<;>omega
  have g1:=Kl a ((k:Int)+1);have g2:=Bl a i ((k:Int)+1);rw[if_pos hv]at g1 g2;simp[hc,aN,hg,dG,dX,bT,g1,g2,grD]⟩
 have hl:=a.len';have k2:=λ(o1:Option Cell)=>gR (tg:=aF 4) (te:=aP vR (ao 4) au) (M:=M) (Z:=[some (.dat (ob L.c)),o1,none,none,none]) (λ(x:Nat×Nat×bV)=>ob x.2.1) (λx=>mJ x.2.2) (cA L c) λx hx=>⟨[some (.dat (ob L.c)),o1,none,none,some (.dat (ob x.2.1))],by simp,by
  obtain⟨n',hb⟩:=a.hb' hx;have:=ag8 hb;simp[hb,vR,this]⟩
 have e1:(cA L c).map (λx=>ob x.2.1)=L.bs.map ob:=by
  unfold cA;apply arv;intro j;simp only[aq9,arP];by_cases hj:j < L.bs.length
  ·have hz:(L.bs.zip c.bs)[j]?=some (L.bs[j],c.bs[j]'(by rw[←a.len];exact hj)):=by
    rw[arH];exact⟨aq0 hj,aq0 _⟩
   rw[hz,aq0 hj];rfl
  ·rw[arx (by omega:L.bs.length<=j),arx (by rw[List.length_zip];omega)];rfl
 have e2:(cA L c).map (λx=>mJ x.2.2)=c.bs.map mJ:=by
  unfold cA;apply arv;intro j;simp only[aq9,arP];by_cases hj:j < c.bs.length
  ·have hz:(L.bs.zip c.bs)[j]?=some (L.bs[j]'(by rw[a.len];exact hj),c.bs[j]):=by
    rw[arH];exact⟨aq0 _,aq0 hj⟩
   rw[hz,aq0 hj];rfl
  ·rw[arx (by omega:c.bs.length<=j),arx (by rw[List.length_zip];omega)];rfl
 simp only[e1,e2]at k2;have r1:fH 1 c.al.length=(List.range c.al.length).map λ(k:Nat)=>PyData.int (1+(k:Int)):=rfl;have z1:(c.al.length:Int)+1<=100000:=by omega
 have z2 : -100000<=(c.al.length:Int)+1:=by omega
 have z3:c.al.length<=50000:=by omega
 have z4:L.bs.length<=50000:=by rw[a.len];omega
 simp[nu,yL,hc,aN,hg,dG,fu,h1,z1,z2,r1,k1,z3];simp[hc,aN,hh,dO,hr,oE,k2,z4,vA,tR,h2,h3,lu]
end
section
variable{M:Mo}{L:Lay}{c:aH}(a:At M L c)
include a
theorem zB(i:dh c)(few:c.held.length<=20000)(fewb:c.bs.length<=20000)(x:Int)(h76:(fO L c 0 x).eraseDups.length<=76):lK M [ob L.c,.int x]=if Vg c x then .ok (.list ((bR (fO L c 0 x)).map Ear.rD)) else .exc ⟨"NoGround",[]⟩:=by
 have hc:=a.hc;have h1:=DK a i few fewb 0 x h76;by_cases h:Vg c x
 ·rw[if_pos h]at h1 ⊢;simp[lK,o7,hc,cZ,h1]
 ·rw[if_neg h]at h1 ⊢;simp[lK,o7,hc,cZ,h1]
def ajL(o:Int)(e:List Int)(R:List Rw)(room:Int):Out Dat:=match wz o e R room with
 |[]=>.ok .none
 |r::_=>.exc ⟨"Clash",[("ear",aM (jZ e r.2)),("others",Ear.rD r),("ones",Ear.rD (o,e))]⟩
omit a in
theorem afu{T:List Rw}(h:Ear.Vy T):T.Nodup:=by
 unfold Ear.Vy at h;unfold List.Nodup;exact h.imp λ{x y} z e=>by
  subst e;exact List.lt_irrefl _ z
theorem Lw(ho:∀o∈c.own,o<=c.count)(few:c.own.length<=20000):∃M',iK M [ob L.c]=.ok (.int (c.count+1)) M'/\At M' L { c with count:=c.count+1,own:=c.own++[c.count+1] }:=by
 have hc:=a.hc;have hl:∀i,(M.set L.c i)[L.c]?=some i:=λi=>by rw[bG hc,if_pos rfl]
 have hk:=any_keys (c.count+1) c.own;have hn:¬(c.count+1)∈c.own:=λz=>by have:=ho _ z;omega
 rw[decide_eq_false hn]at hk;have hz:∀x∈c.own,¬x=c.count+1:=λx hx e=>hn (e ▸ hx);have f2:c.own.length < 100000:=by omega
 refine⟨_,?_,a.setC⟩;simp only[ar5,arp]at hk;have hd:(c.own.any λx=>x==c.count+1)=false:=by rw[List.any_eq_false];intro x hx;simpa using hz x hx
 simp[iK,rO,hc,aN,hl,kW,f2,arp,hd]
end
theorem YX{α:Type}[BEq α][LawfulBEq α](l:List α):l.eraseDups.length<=l.length:=by
 induction hn:l.length using Nat.strongRecOn generalizing l with
 |_ n ih=>
  cases l with
  |nil=>simp
  |cons a r=>
   rw[List.eraseDups_cons];simp only[ard]at hn ⊢;have hl:(r.filter λb=>!b==a).length<=r.length:=arl _ _;have:=ih _ (by omega) (r.filter λb=>!b==a) rfl;omega
theorem Yu{S:List Rw}(h:S.eraseDups.length<=76):(bR S).eraseDups.length<=76:=arw (YX _) (by rw[uf];exact h)
theorem Ah{S:List Rw}(h:uH S):uH (bR S):=λr hr=>h r (fU.mp hr)
section
variable{M:Mo}{L:Lay}{c:aH}(a:At M L c)
include a
theorem W0(i:dh c)(few:c.held.length<=20000)(fewb:c.bs.length<=20000)(o x:Int)(e:List Int)(he:e.length=6)(hv:Vg c x)(h76:(fO L c 0 x).eraseDups.length<=76)(hE:uH (fO L c 0 x)):iy M [ob L.c,.int o,aM e,.int x]=ajL o e (bR (fO L c 0 x)) (roomOf c x):=by
 have hc:=a.hc;have h1:=zB a i few fewb x h76;have h2:=zU a i x;rw[if_pos hv]at h1 h2;have h3:=Oe M o e (bR (fO L c 0 x)) (roomOf c x) he (Ah hE) (Yu h76);unfold ajL;cases hb:wz o e (bR (fO L c 0 x)) (roomOf c x) with
 |nil=>
  rw[hb]at h3;simp[iy,mU,hc,cH,cC,h1,h2,h3]
 |cons r rs=>
  rw[hb]at h3;simp[iy,mU,hc,cH,cC,h1,h2,h3]
end
section
variable{M:Mo}{L:Lay}{c:aH}(a:At M L c)
include a
def IK(L:Lay)(c:aH)(x y:Int):List Rw:=bR (fO L c 0 x)++bR (fO L c 0 y)
def qL(c:aH)(x y:Int):Int:=if roomOf c y > roomOf c x then roomOf c y else roomOf c x
theorem aat(i:dh c)(few:c.held.length<=20000)(fewb:c.bs.length<=20000)(x y:Int)(hx:Vg c x)(hy:Vg c y)(h1:(fO L c 0 x).eraseDups.length<=76)(h2:(fO L c 0 y).eraseDups.length<=76)(h3:(IK L c x y).eraseDups.length<=76)(e1:uH (fO L c 0 x))(e2:uH (fO L c 0 y)):lF M [ob L.c,.int x,.int y]=.ok (.list ((jT (bR (IK L c x y)) (qL c x y)).map pairD)):=by
 have hc:=a.hc;have s1:=zB a i few fewb x h1;have s2:=zB a i few fewb y h2;have r1:=zU a i x;have r2:=zU a i y;rw[if_pos hx]at s1 r1;rw[if_pos hy]at s2 r2;have hE:uH (IK L c x y):=λr hr=>by
  rcases aq8.mp hr with hr|hr
  ·exact Ah e1 r hr
  ·exact Ah e2 r hr
 have k:=aaz M (IK L c x y) (qL c x y) hE h3;have l1:(bR (fO L c 0 x)).length<=76:=by rw[uf];exact h1
 have l2:(bR (fO L c 0 y)).length<=76:=by rw[uf];exact h2
 have l3:(bR (fO L c 0 x)).length+(bR (fO L c 0 y)).length<=100000:=by omega
 have k':uV M [.list ((bR (fO L c 0 x)).map Ear.rD++(bR (fO L c 0 y)).map Ear.rD),.int (if roomOf c y > roomOf c x then roomOf c y else roomOf c x)]=.ok (.list ((jT (bR (IK L c x y)) (qL c x y)).map pairD)):=by rw[←arC];exact k
 simp[lF,tL,hc,cH,cC,s1,s2,r1,r2,l3];simp at k';exact k' ▸ (by simp[k'])
end
def Xy(c:aH)(lo:Int)(near:List Int):List Rw:=((c.bs.mapIdx λi b=>(i,b)).filter λx=>(x.2.sd.due.isSome&&!(((x.1:Int)+1)==lo))&&(decide (x.2.sd.g∈near)&&x.2.sd.al)).map λx=>(x.2.sd.o,x.2.sd.due.getD [])
def fG(c:aH)(lo x:Int):List Rw:=inR c (aJ c x)++Xy c lo (aJ c x)
theorem KY{M:Mo}{L:Lay}{c:aH}(a:At M L c):(cA L c).map (λx=>(x.1,x.2.2))=c.bs.mapIdx λi b=>(i,b):=by
 unfold cA;apply arv;intro j;simp only[aq9,arP];by_cases hj:j < c.bs.length
 ·have hz:(L.bs.zip c.bs)[j]?=some (L.bs[j]'(by rw[a.len];exact hj),c.bs[j]):=by
   rw[arH];exact⟨aq0 _,aq0 hj⟩
  rw[hz,aq0 hj];rfl
 ·rw[arx (by omega:c.bs.length<=j),arx (by rw[List.length_zip];omega)];rfl
theorem kh{M:Mo}{L:Lay}{c:aH}(a:At M L c)(lo x:Int):fO L c lo x=fG c lo x:=by unfold fO fG Qa Xy;rw[←KY a,List.filter_map,arB,ar4];rfl
inductive bx where
 |owner|ground (x:Int)|enrol (o g:Int) (m:List Int)|leave (o g:Int)|bring (o g:Int) (e:List Int)|bear (k:Int)|cut (k:Int)|tear (k p:Int)|sell (k o:Int)|move (k g:Int)|die (k:Int)|uY (x y:Int)|part (x:Int)|pass (e h:Int)|heir (e g x:Int)
def bx.dat:bx->Dat
 |.owner=>.tuple [.str "owner"]
 |.ground x=>.tuple [.str "ground",.int x]
 |.enrol o g m=>.tuple [.str "enrol",.int o,.int g,aM m]
 |.leave o g=>.tuple [.str "leave",.int o,.int g]
 |.bring o g m=>.tuple [.str "bring",.int o,.int g,aM m]
 |.bear k=>.tuple [.str "bear",.int k]
 |.cut k=>.tuple [.str "cut",.int k]
 |.tear k p=>.tuple [.str "tear",.int k,.int p]
 |.sell k o=>.tuple [.str "sell",.int k,.int o]
 |.move k g=>.tuple [.str "move",.int k,.int g]
 |.die k=>.tuple [.str "die",.int k]
 |.uY x y=>.tuple [.str "unite",.int x,.int y]
 |.part x=>.tuple [.str "part",.int x]
 |.pass e h=>.tuple [.str "pass",.int e,.int h]
 |.heir e g x=>.tuple [.str "heir",.int e,.int g,.int x]
inductive Res where
 |ok (d:Dat) (c:aH)|no (x:dR)
def Fx(o:Int)(e:List Int)(r:Rw):dR:=⟨"Clash",[("ear",aM (jZ e r.2)),("others",Ear.rD r),("ones",Ear.rD (o,e))]⟩
def firstM(c:aH)(o g:Int):List Int:=(bK c o g).headD []
def xR(o:Int)(e:List Int)(R:List Rw)(room:Int)(r:Res):Res:=match wz o e (bR R) room with
 |[]=>r
 |x::_=>.no (Fx o e x)
def BP(c:aH)(x y:Int):List Rw:=bR (fG c 0 x)++bR (fG c 0 y)
def mF(c:aH)(x:Int):List Int:=(aJ c x).filter λy=>!(y==x)
def R9(c:aH)(e:Int):List Int:=((c.bs.mapIdx λi b=>(i,b)).filter λx=>(x.2.sd.o==e)&&x.2.sd.al).map λx=>(x.1:Int)+1
def Xp(o g:Int)(b:bV):Bool:=(decide (b.sd.g∈[g])&&b.sd.al)&&(b.sd.o==o)
def yh(c:aH)(k:Int)(f:bV->Res):Res:=match bk c k with
 |none=>.no ⟨"NoBeast",[]⟩
 |some b=>if b.sd.al=true then f b else .no ⟨"Dead",[]⟩
def markB(c:aH)(k:Int)(f:bV->List Int->Res):Res:=yh c k λb=>match b.sd.due with
 |none=>.no ⟨"Unmarked",[]⟩
 |some e=>f b e
def uU(c:aH)(k o g:Int):aH:=kY (λx=>gK k x&&x.sd.al) (.followed o g) c
def uz(c:aH)(o:Int)(r:Res):Res:=if o∈c.own then r else .no ⟨"NoOwner",[]⟩
def yu(c:aH)(g:Int)(r:Res):Res:=if Vg c g then r else .no ⟨"NoGround",[]⟩
def Ks(e:List Int)(r:Res):Res:=if dB e=true then r else .no ⟨"BadEar",[]⟩
def pq(c:aH)(o g:Int)(r:Res):Res:=if bK c o g=[] then .no ⟨"NoRight",[]⟩ else r
def cJ(c:aH):bx->Res
 |.owner=>.ok (.int (c.count+1)) { c with count:=c.count+1,own:=c.own++[c.count+1] }
 |.ground x=>if 0<=x/\x<=9 then .ok (.int (c.al.length+1)) { c with al:=c.al++[x],ci:=c.ci++[[(c.al.length:Int)+1]] } else .no ⟨"BadAllowance",[]⟩
 |.enrol o g m=>uz c o<|yu c g<|Ks m<|if m=[0,0,0,0,0,0] then .no ⟨"Bare",[]⟩ else if m∈bK c o g then .no ⟨"HasRight",[]⟩ else xR o m (fG c 0 g) (roomOf c g) (.ok .none { c with held:=c.held++[(o,g,m)] })
 |.leave o g=>uz c o<|yu c g<|pq c o g<|if c.bs.any (Xp o g)=true then .no ⟨"StillThere",[]⟩ else .ok (.list ((bK c o g).map aM)) { c with held:=dropped c o g }
 |.bring o g e=>uz c o<|yu c g<|Ks e<|pq c o g<|.ok (.int (c.bs.length+1)) { c with bs:=c.bs++[wj (.brought o g e)] }
 |.bear k=>markB c k λb _=>.ok (.int (c.bs.length+1)) { c with bs:=c.bs++[wj (.born k b.sd.o b.sd.g)] }
 | .cut k=>yh c k λb=>xR b.sd.o (jZ b.sd.ear (firstM c b.sd.o b.sd.g)) (fG c 0 b.sd.g) (roomOf c b.sd.g) (.ok (aM (jZ b.sd.ear (firstM c b.sd.o b.sd.g))) (eO c (k - 1).toNat (.cut (jZ b.sd.ear (firstM c b.sd.o b.sd.g)))))
 |.tear k p=>yh c k λb=>if 0<=p/\p < 6 then(if 9<=b.sd.ear.getD p.toNat 0 then .no ⟨"Deepest",[]⟩ else .ok (aM (jP b.sd.ear p.toNat)) (eO c (k - 1).toNat (.torn p.toNat))) else .no ⟨"NoPlace",[]⟩
 |.sell k o=>markB c k λb _=>uz c o<|if b.sd.o=o then .no ⟨"SameOwner",[]⟩ else pq c o b.sd.g<|xR o (jZ b.sd.ear (firstM c o b.sd.g)) (fG c k b.sd.g) (roomOf c b.sd.g) (.ok (aM (jZ b.sd.ear (firstM c o b.sd.g))) (uU (eO c (k - 1).toNat (.sold o (jZ b.sd.ear (firstM c o b.sd.g)))) k o b.sd.g))
 |.move k g=>markB c k λb e=>yu c g<|if b.sd.g=g then .no ⟨"SameGround",[]⟩ else pq c b.sd.o g<|xR b.sd.o e (fG c 0 g) (roomOf c g) (.ok (.int b.sd.g) (uU (eO c (k - 1).toNat (.moved g)) k b.sd.o g))
 |.die k=>yh c k λ_=>.ok .none (eO c (k - 1).toNat .died)
 |.uY x y=>yu c y<|yu c x<|if y∈aJ c x then .no ⟨"Together",[]⟩ else match jT (bR (BP c x y)) (qL c x y) with
  |p::_=>.no (Fx p.1.1 p.1.2 p.2)
  |[]=>.ok (lI (sortI (aJ c x++aJ c y))) { c with ci:=encl c.ci (sortI (aJ c x++aJ c y)) }
 |.part x=>yu c x<|if mF c x=[] then .no ⟨"Alone",[]⟩ else .ok (lI (mF c x)) { c with ci:=encl (encl c.ci [x]) (mF c x) }
 |.pass e h=>uz c e<|uz c h<|if e=h then .no ⟨"SameOwner",[]⟩ else .ok (lI (R9 c e)) { kY (λb=>(b.sd.o==e)&&b.sd.al) (.passed h) c with own:=c.own.filter (λo=>!(o==e)),held:=handed c e h }
 | .heir e g x=>uz c e<|yu c g<|if 1<=x/\x<=3 then pq c e g (match (P0 (firstM c e g) x).find? (zM (bR (fG c 0 g)) (roomOf c g)) with
  |some mk=>.ok (.tuple [.int (c.count+1),aM mk]) { c with count:=c.count+1,own:=c.own++[c.count+1],held:=c.held++[(c.count+1,g,mk)] }
  |none=>.no ⟨"NoneFree",[]⟩) else .no ⟨"BadExtra",[]⟩
structure Inv(n s:Nat)(c:aH):Prop where
 gr:dh c
 al:c.al.length<=n
 cnt:0<=c.count/\c.count<=n
 own:∀o∈c.own,1<=o/\o<=c.count
 Qe:c.own.Nodup
 ownL:c.own.length<=n
 held:c.held.Nodup
 hL:c.held.length+c.bs.length<=s
 hE:∀r∈c.held,r.1∈c.own/\Vg c r.2.1/\dB r.2.2=true
 ear:∀b∈c.bs,dB b.sd.ear=true
 due:∀b∈c.bs,∀e,b.sd.due=some e->dB e=true
 en:∀b∈c.bs,b.en.length<=2 * n
 rt:∀b∈c.bs,b.sd.al=true->∃m,(b.sd.o,b.sd.g,m)∈c.held
theorem fJ{x:List Int}(h:dB x=true):x.length=6:=by unfold dB at h;simp at h;exact h.1
theorem Dr{α:Type}[BEq α][LawfulBEq α]:∀{l S:List α},l.Nodup->(∀x∈l,x∈S)->l.length<=S.length
 |[],_,_,_=>by simp
 |x::l,S,nd,h=>by
  rw[ar9]at nd;have hx:=h x aq4;have:=Dr (l:=l) (S:=S.erase x) nd.2 λy hy=>by
   have:y≠x:=λz=>nd.1 (z ▸ hy);exact(List.mem_erase_of_ne this).mpr (h y (aq3 _ hy))
  rw[List.length_erase_of_mem hx]at this;have:=List.length_pos_of_mem hx;rw[ard];omega
def M8(c:aH):List Rw:=c.held.map (λr=>(r.1,r.2.2))++c.bs.map λb=>(b.sd.o,b.sd.due.getD [])
theorem Ua{c:aH}{near:List Int}{r:Rw}(h:r∈inR c near):∃g,(r.1,g,r.2)∈c.held/\g∈near:=by unfold inR at h;obtain⟨x,h1,rfl⟩:=arb.mp h;obtain⟨h2,h3⟩:=arn.mp h1;exact⟨x.2.1,h2,by simpa using h3⟩
theorem PL{c:aH}{lo:Int}{near:List Int}{r:Rw}(h:r∈Xy c lo near):∃(i:Nat) (b:bV),c.bs[i]?=some b/\b.sd.o=r.1/\b.sd.due=some r.2/\b.sd.al=true/\b.sd.g∈near/\(i:Int)+1≠lo:=by
 unfold Xy at h;obtain⟨x,h1,rfl⟩:=arb.mp h;obtain⟨h2,h3⟩:=arn.mp h1;obtain⟨i,hi,rfl⟩:=List.mem_mapIdx.mp h2;simp only[aqZ,asj,arj,beq_eq_false_iff_ne]at h3;obtain⟨⟨h4,h5⟩,h6,h7⟩:=h3;refine⟨i,c.bs[i],aq0 hi,rfl,?_,h7,h6,h5⟩;cases hd:c.bs[i].sd.due with
 |none=>simp[hd]at h4
 |some e=>rfl
theorem qR{c:aH}{lo x:Int}{r:Rw}(h:r∈fG c lo x):r∈M8 c:=by
 unfold M8;rcases aq8.mp h with h|h
 ·obtain⟨g,h1,_⟩:=Ua h;exact arD _ (arb.mpr ⟨_,h1,rfl⟩)
 ·obtain⟨i,b,h1,h2,h3,_⟩:=PL h;refine arM _ (arb.mpr ⟨b,aq2 h1,?_⟩);rw[h2,h3];rfl
section
variable{n s:Nat}{c:aH}(I:Inv n s c)
include I
theorem Inv.few{R:List Rw}(h:∀r∈R,r∈M8 c):R.eraseDups.length<=s:=by
 have h1:=Dr (l:=bR R) (S:=M8 c) (afu (Zz R)) λr hr=>h r (fU.mp hr);rw[uf]at h1;have:(M8 c).length=c.held.length+c.bs.length:=by simp[M8]
 have:=I.hL;omega
theorem Inv.Oh{lo x:Int}:uH (fG c lo x):=λr hr=>by
 rcases aq8.mp hr with h|h
 ·obtain⟨g,h1,_⟩:=Ua h;exact fJ (I.hE _ h1).2.2
 ·obtain⟨i,b,h1,h2,h3,_⟩:=PL h;exact fJ (I.due b (aq2 h1) _ h3)
theorem Inv.bi:KZ (2 * n) c:=⟨λb hb=>fJ (I.ear b hb),I.en⟩
theorem Inv.mk1{o g:Int}(h:bK c o g≠[]):∃r,bK c o g=firstM c o g::r/\dB (firstM c o g)=true:=by
 cases hm:bK c o g with
 |nil=>exact absurd hm h
 |cons m r=>
  refine⟨r,by simp[firstM,hm],?_⟩;have:m∈bK c o g:=by rw[hm];exact aq4
  unfold bK at this;obtain⟨x,h1,rfl⟩:=arb.mp this;have e:firstM c o g=x.2.2:=by simp[firstM,hm]
  rw[e];exact(I.hE x (arn.mp h1).1).2.2
end
theorem DY{c:aH}{o g:Int}{m:List Int}:m∈bK c o g↔(o,g,m)∈c.held:=by
 unfold bK;rw[arb];constructor
 ·rintro⟨⟨x,y,z⟩,h,rfl⟩;obtain⟨h1,h2⟩:=arn.mp h;simp at h2;obtain⟨rfl,rfl⟩:=h2;exact h1
 ·intro h;exact⟨_,arn.mpr ⟨h,by simp⟩,rfl⟩
theorem yZ{c:aH}{o g:Int}:bK c o g≠[]↔∃m,(o,g,m)∈c.held:=by
 constructor
 ·intro h;obtain⟨m,hm⟩:=List.exists_mem_of_ne_nil _ h;exact⟨m,DY.mp hm⟩
 ·rintro⟨m,hm⟩ z;have:=DY.mpr hm;rw[z]at this;cases this
theorem wO{x y:List Int}(hx:dB x=true)(hy:dB y=true):dB (jZ x y)=true:=by
 have lx:=fJ hx;have ly:=fJ hy;unfold dB at *;simp only[aqZ,asj,aro]at *;refine⟨by simp[jZ];omega,λd hd=>?_⟩;unfold jZ at hd;obtain⟨p,hp,rfl⟩:=arb.mp hd;have h1:=hx.2 p.1 (List.of_mem_zip hp).1;have h2:=hy.2 p.2 (List.of_mem_zip hp).2
 split<;>omega
theorem Ck(n:Nat)(x:List Int):okd (n+1) (aM x)=true:=by show okd (n+1) (.tuple (x.map PyData.int))=true;rw[okd];exact VD n x
theorem agR(x y:List Int):bU (aM x) (aM y)=.ok (.bool (decide (x=y))):=by
 show(Out.when (okd 12 (aM x)&&okd 12 (aM y)) (.ok (PyData.eqv (aM x) (aM y)))).bind _=_
 rw[Ck 11,Ck 11,XD,zP];rfl
theorem agX(neg:Bool)(m:List Int)(ms:List (List Int)):inD neg (aM m) (.list (ms.map aM))=.ok (.bool (neg ^^ decide (m∈ms))):=by
 have h1:mD 12 (ms.map aM)=true:=Dh.mpr λd hd=>by
  obtain⟨x,_,rfl⟩:=arb.mp hd;exact Ck 11 x
 have h2:((ms.map aM).any λz=>PyData.eqv z (aM m))=decide (m∈ms):=by
  induction ms with
  |nil=>simp
  |cons x ms ih=>
   have h1':mD 12 (ms.map aM)=true:=Dh.mpr λd hd=>by
    obtain⟨x,_,rfl⟩:=arb.mp hd;exact Ck 11 x
   rw[aq1,arW,ih h1',XD,zP];by_cases h:x=m
   ·simp[h]
   ·have:¬m=x:=λz=>h z.symm;simp[h,this]
 show(Out.when (okd 12 (aM m)&&mD 12 (ms.map aM)) (.ok ((ms.map aM).any λz=>PyData.eqv z (aM m)))).bind _=_
 rw[h1,h2,Ck 11];rfl
def Sp(M:Mo)(L:Lay)(o:bh Dat):Res->Prop
 |.ok d c'=>∃M' bs,o=.ok d M'/\At M' { L with bs:=bs } c'
 |.no x=>o=.exc x M
section
variable{M:Mo}{L:Lay}{c:aH}(a:At M L c){n s:Nat}(I:Inv n s c)(hs:s<=76)(hn:n<=199)
include a I hn
theorem ahj:Sp M L (iK M [ob L.c]) (cJ c .owner):=by obtain⟨M',h1,h2⟩:=Lw a (λo ho=>(I.own o ho).2) (by have:=I.ownL;omega);exact⟨M',L.bs,h1,h2⟩
theorem afU(x:Int):Sp M L (iz M [ob L.c,.int x]) (cJ c (.ground x)):=by
 have hc:=a.hc;obtain⟨n,m,hg⟩:=a.hg;have hl:=I.al;have h1:=Wz a I.gr (by omega) x;simp only[cJ];by_cases h:0<=x/\x<=9
 ·rw[if_pos h]at h1 ⊢;obtain⟨M',h1,h2⟩:=h1;exact⟨M',L.bs,by simp[iz,mW,hc,aN,hg,dG,lM,h1],h2⟩
 ·rw[if_neg h]at h1 ⊢;show _=_;simp[iz,mW,hc,aN,hg,dG,lM,h1]
include hs
omit hn
theorem Y8(o x:Int)(e:List Int)(he:e.length=6)(hv:Vg c x):iy M [ob L.c,.int o,aM e,.int x]=match wz o e (bR (fG c 0 x)) (roomOf c x) with
  |[]=>.ok .none
  |r::_=>.exc (Fx o e r):=by
 have h1:=I.hL;have h76:=I.few (R:=fG c 0 x) λr hr=>qR hr;have:=W0 a I.gr (by omega) (by omega) o x e he hv (by rw[kh a];omega) (by rw[kh a];exact I.Oh);rw[kh a]at this;exact this
theorem agS(o g:Int)(m:List Int)(hm:m.length<=1000):Sp M L (eG M [ob L.c,.int o,.int g,aM m]) (cJ c (.enrol o g m)):=by
 have hc:=a.hc;have hr:=a.hr;obtain⟨n1,m1,hg⟩:=a.hg;have hL:=I.hL;have h1:=lU a o;have h2:=wM a g;have h3:=N5 M m hm;have h4:=Ik a (by omega) o g;simp only[cJ,uz,yu,Ks,xR];by_cases e1:o∈c.own;rotate_left
 ·rw[if_neg e1]at h1 ⊢;show _=_;simp[eG,gA,hc,aN,aC,h1]
 rw[if_pos e1]at h1 ⊢;by_cases e2:Vg c g;rotate_left
 ·rw[if_neg e2]at h2 ⊢;show _=_;simp[eG,gA,hc,aN,aC,h1,hg,dG,aG,h2]
 rw[if_pos e2]at h2 ⊢;by_cases e3:dB m=true;rotate_left
 ·rw[if_neg e3]at h3 ⊢;show _=_;simp[eG,gA,hc,aN,aC,h1,hg,dG,aG,h2,h3]
 rw[if_pos e3]at h3 ⊢;have h5:bU (.tuple (m.map PyData.int)) (.tuple [.int 0,.int 0,.int 0,.int 0,.int 0,.int 0])=_:=agR m [0,0,0,0,0,0];by_cases e4:m=[0,0,0,0,0,0]
 ·rw[if_pos e4];rw[decide_eq_true e4]at h5;show _=_;simp[eG,gA,hc,aN,aC,h1,hg,dG,aG,h2,h3,jQ];simp[h5]
 rw[if_neg e4];rw[decide_eq_false e4]at h5;have h6:=agX false m (bK c o g);by_cases e5:m∈bK c o g
 ·rw[if_pos e5];rw[decide_eq_true e5]at h6;simp at h6;show _=_;simp[eG,gA,hc,aN,aC,h1,hg,dG,aG,h2,h3,jQ,h5,hr,oE,cO,h4,h6]
 rw[if_neg e5];rw[decide_eq_false e5]at h6;simp at h6;have h7:=Y8 a I hs o g m (fJ e3) e2;cases e6:wz o m (bR (fG c 0 g)) (roomOf c g) with
 |cons r rs=>
  rw[e6]at h7;show _=_;simp[eG,gA,hc,aN,aC,h1,hg,dG,aG,h2,h3,jQ,h5,hr,oE,cO,h4,h6,bY,h7]
 |nil=>
  rw[e6]at h7;have h8:=Ml a (by omega) o g m;rw[if_neg λz=>e5 (DY.mpr z)]at h8;obtain⟨M',h8,h9⟩:=h8;refine⟨M',L.bs,?_,h9⟩;simp[eG,gA,hc,aN,aC,h1,hg,dG,aG,h2,h3,jQ,h5,hr,oE,cO,h4,h6,bY,h7,iT,h8]
end
@[simp]theorem aqU (n:Nat) (b:bV):List.lookup ("owner" : Str) (iB n b).fs=some (.dat (.int b.sd.o)):=by simp[iB]
@[simp]theorem aqV (n:Nat) (b:bV):List.lookup ("ground" : Str) (iB n b).fs=some (.dat (.int b.sd.g)):=by simp[iB]
@[simp]theorem aqS (n:Nat) (b:bV):List.lookup ("due" : Str) (iB n b).fs=some (.dat (nH b.sd.due)):=by simp[iB]
@[simp]theorem aqT (n:Nat) (b:bV):List.lookup ("ear" : Str) (iB n b).fs=some (.dat (aM b.sd.ear)):=by simp[iB]
@[simp]theorem aqF (n:Nat) (b:bV):List.lookup ("alive" : Str) (iB n b).fs=some (.dat (.bool b.sd.al)):=by simp[iB]
section
variable{M:Mo}{L:Lay}{c:aH}(a:At M L c){n s:Nat}(I:Inv n s c)(hs:s<=76)
include a I hs
theorem agW(o g:Int):Sp M L (gG M [ob L.c,.int o,.int g]) (cJ c (.leave o g)):=by
 have hc:=a.hc;have hr:=a.hr;obtain⟨n1,m1,hg⟩:=a.hg;obtain⟨n2,hh⟩:=a.hh;have hL:=I.hL;have h1:=lU a o;have h2:=wM a g;have h3:=qZ a (by omega) o g;simp only[cJ,uz,yu,pq];by_cases e1:o∈c.own;rotate_left
 ·rw[if_neg e1]at h1 ⊢;show _=_;simp[gG,jL,hc,aN,aC,h1]
 rw[if_pos e1]at h1 ⊢;by_cases e2:Vg c g;rotate_left
 ·rw[if_neg e2]at h2 ⊢;show _=_;simp[gG,jL,hc,aN,aC,h1,hg,dG,aG,h2]
 rw[if_pos e2]at h2 ⊢;by_cases e3:bK c o g=[]
 ·rw[if_pos e3]at h3 ⊢;show _=_;simp[gG,jL,hc,aN,aC,h1,hg,dG,aG,h2,aO,h3]
 rw[if_neg e3]at h3 ⊢;have h4:pP M [ob L.h,.list [.int g]]=_:=Qp a (by omega) [g];have key:=gR (tg:=bM [3,4]) (te:=aA bU (bH "owner" (ao 4)) (ao 1)) (M:=M) (Z:=[some (.dat (ob L.c)),some (.dat (.int o)),some (.dat (.int g)),none,none]) nb (λx=>.bool (x.2.2.sd.o==o)) ((cA L c).filter λx=>decide (x.2.2.sd.g∈[g])&&x.2.2.sd.al) λx hx=>⟨[some (.dat (ob L.c)),some (.dat (.int o)),some (.dat (.int g)),some (.dat (.int ((x.1:Int)+1))),some (.dat (ob x.2.1))],by simp[nb],by
  obtain⟨n,hb⟩:=a.hb' (arn.mp hx).1;simp[hb,iB]⟩
 have hl:((cA L c).filter λx=>decide (x.2.2.sd.g∈[g])&&x.2.2.sd.al).length<=50000:=arw (arl _ _) (by rw[a.len'];omega);have h5:PB (.list (((cA L c).filter λx=>decide (x.2.2.sd.g∈[g])&&x.2.2.sd.al).map λx=>PyData.bool (x.2.2.sd.o==o)))=.ok (.bool (c.bs.any (Xp o g))):=by
  have e:(((cA L c).filter λx=>decide (x.2.2.sd.g∈[g])&&x.2.2.sd.al).map λx=>PyData.bool (x.2.2.sd.o==o))=(((cA L c).filter λx=>decide (x.2.2.sd.g∈[g])&&x.2.2.sd.al).map λx=>(x.2.2.sd.o==o)).map PyData.bool:=by rw[arB];rfl
  rw[e,aac,ar5,List.any_filter];have e2:=KY a;have e3:(cA L c).map (λx=>x.2.2)=c.bs:=by
   have:(cA L c).map (λx=>x.2.2)=((cA L c).map (λx=>(x.1,x.2.2))).map (·.2):=by rw[arB];rfl
   rw[this,e2];apply arv;intro i;simp;cases c.bs[i]?<;>rfl
  conv=>rhs;rw[←e3]
  rw[ar5];rfl
 cases e4:c.bs.any (Xp o g) with
 |true=>
  rw[e4]at h5;show _=_;simp[gG,jL,hc,aN,aC,h1,hg,dG,aG,h2,aO,h3,hh,dO,jH];simp at h4 key h5 hl;simp[h4,key,hl,h5]
 |false=>
  rw[e4]at h5;have h6:=ahT a (by omega) I.held o g;rw[if_neg e3]at h6;obtain⟨M',h6,h7⟩:=h6;refine⟨M',L.bs,?_,h7⟩;simp[gG,jL,hc,aN,aC,h1,hg,dG,aG,h2,aO,h3,hh,dO,jH];simp at h4 key h5 hl;simp[h4,key,hl,h5,hc,aN,hr,oE,yR,h6]
theorem ahq(o g:Int)(m:List Int)(hm:m.length<=1000):Sp M L (fY M [ob L.c,.int o,.int g,aM m]) (cJ c (.bring o g m)):=by
 have hc:=a.hc;have hr:=a.hr;obtain⟨n1,m1,hg⟩:=a.hg;obtain⟨n2,hh⟩:=a.hh;have hL:=I.hL;have h1:=lU a o;have h2:=wM a g;have h3:=N5 M m hm;have h4:=qZ a (by omega) o g;simp only[cJ,uz,yu,Ks,pq];by_cases e1:o∈c.own;rotate_left
 ·rw[if_neg e1]at h1 ⊢;show _=_;simp[fY,jE,hc,aN,aC,h1]
 rw[if_pos e1]at h1 ⊢;by_cases e2:Vg c g;rotate_left
 ·rw[if_neg e2]at h2 ⊢;show _=_;simp[fY,jE,hc,aN,aC,h1,hg,dG,aG,h2]
 rw[if_pos e2]at h2 ⊢;by_cases e3:dB m=true;rotate_left
 ·rw[if_neg e3]at h3 ⊢;show _=_;simp[fY,jE,hc,aN,aC,h1,hg,dG,aG,h2,h3]
 rw[if_pos e3]at h3 ⊢;by_cases e4:bK c o g=[]
 ·rw[if_pos e4]at h4 ⊢;show _=_;simp[fY,jE,hc,aN,aC,h1,hg,dG,aG,h2,h3,aO,h4]
 rw[if_neg e4]at h4 ⊢;obtain⟨M',h,h5,h6⟩:=Lk a (by omega) (.brought o g m) (by omega);refine⟨M',L.bs++[h],?_,h6⟩;simp[Fi.dat]at h5;simp[fY,jE,hc,aN,aC,h1,hg,dG,aG,h2,h3,aO,h4,hh,dO,jU,h5]
theorem aj2(k:Int):Sp M L (jw M [ob L.c,.int k]) (cJ c (.bear k)):=by
 have hc:=a.hc;obtain⟨n2,hh⟩:=a.hh;have hL:=I.hL;have h1:=Mv a (by omega) k;simp only[cJ,markB,yh];cases hk:bk c k with
 |none=>
  rw[hk]at h1;show _=_;simp[jw,m7,hc,aN,hh,dO,bB,h1]
 |some b=>
  rw[hk]at h1;obtain⟨_,_,_,_,n3,hb⟩:=qF a hk;show Sp M L _ (if b.sd.al=true then _ else _);cases e1:b.sd.al with
  |false=>
   simp[e1]at h1;show _=_;simp[jw,m7,hc,aN,hh,dO,bB,h1]
  |true=>
   simp[e1]at h1;cases e2:b.sd.due with
   |none=>
    simp[e2]at h1;show _=_;simp[jw,m7,hc,aN,hh,dO,bB,h1]
   |some e=>
    simp[e2]at h1;simp only[if_true];obtain⟨M',h,h5,h6⟩:=Lk a (by omega) (.born k b.sd.o b.sd.g) (by omega);refine⟨M',L.bs++[h],?_,h6⟩;simp[Fi.dat]at h5;simp[jw,m7,hc,aN,hh,dO,bB,h1,hb,iB,jU,h5]
theorem alN(k:Int)(hn:n<=1000):Sp M L (lW M [ob L.c,.int k]) (cJ c (.die k)):=by
 have hc:=a.hc;obtain⟨n2,hh⟩:=a.hh;have hL:=I.hL;have h1:=DQ a (by omega) k;simp only[cJ,yh];cases hk:bk c k with
 |none=>
  rw[hk]at h1;show _=_;simp[lW,rB,hc,aN,hh,dO,bJ,h1]
 |some b=>
  rw[hk]at h1;obtain⟨_,_,h3,h4,n3,hb⟩:=qF a hk;show Sp M L _ (if b.sd.al=true then _ else _);cases e1:b.sd.al with
  |false=>
   simp[e1]at h1;show _=_;simp[lW,rB,hc,aN,hh,dO,bJ,h1]
  |true=>
   simp[e1]at h1;have mem:=aq2 h4;simp only[if_true];have h5:=tV hb .died (by rw[fJ (I.ear b mem)];decide) (by have:=I.en b mem;omega);refine⟨_,L.bs,?_,yS (n:=n3) (e:=.died) a h3 h4⟩;simp[En.dat]at h5;simp[lW,rB,hc,aN,hh,dO,bJ,h1,hb,bL,h5,jJ]
theorem acQ(k p:Int)(hn:n<=1000):Sp M L (eZ M [ob L.c,.int k,.int p]) (cJ c (.tear k p)):=by
 have hc:=a.hc;obtain⟨n2,hh⟩:=a.hh;have hL:=I.hL;have h1:=DQ a (by omega) k;simp only[cJ,yh];cases hk:bk c k with
 |none=>
  rw[hk]at h1;show _=_;simp[eZ,jm,hc,aN,hh,dO,bJ,h1]
 |some b=>
  rw[hk]at h1;obtain⟨_,_,h3,h4,n3,hb⟩:=qF a hk;show Sp M L _ (if b.sd.al=true then _ else _);cases e1:b.sd.al with
  |false=>
   simp[e1]at h1;show _=_;simp[eZ,jm,hc,aN,hh,dO,bJ,h1]
  |true=>
   simp[e1]at h1;have mem:=aq2 h4;have h6:=fJ (I.ear b mem);simp only[if_true];by_cases e2:0<=p/\p < 6
   ·rw[if_pos e2];obtain⟨q,rfl⟩:∃q:Nat,p=q:=⟨p.toNat,by omega⟩;have hq:q < 6:=by omega
    have hq2:q < b.sd.ear.length:=by omega
    have hq3:(q:Int) < 6:=by omega
    have h7:b.sd.ear[q]?.getD 0=b.sd.ear[q]:=by simp[hq2]
    simp only[Int.toNat_natCast,List.getD_eq_getElem?_getD,h7];have h5:=tV hb (.torn q) (by omega) (by have:=I.en b mem;omega);by_cases e3:9<=b.sd.ear[q]
    ·rw[if_pos e3];show _=_;simp[eZ,jm,hc,aN,hh,dO,bJ,h1,hb,iB,jh,hq3,cW,hq2,e3]
    ·rw[if_neg e3];refine⟨_,L.bs,?_,yS (n:=n3) (e:=.torn q) a h3 h4⟩;simp[En.dat]at h5;have hl:∀i,(M.set (Pr.hk L k) i)[Pr.hk L k]?=some i:=λi=>by rw[bG hb,if_pos rfl]
     simp[eZ,jm,hc,aN,hh,dO,bJ,h1,hb,jh,hq3,cW,bL,h5,hl,hq2,e3,jJ,go]
   ·rw[if_neg e2];show _=_;by_cases e3:0<=p
    ·have e4:¬p < 6:=λz=>e2 ⟨e3,z⟩;simp[eZ,jm,hc,aN,hh,dO,bJ,h1,jh,e3,e4]
    ·simp[eZ,jm,hc,aN,hh,dO,bJ,h1,jh,e3]
end
theorem Inv.alive{n s:Nat}{c:aH}(I:Inv n s c){b:bV}(h:b∈c.bs)(h2:b.sd.al=true):bK c b.sd.o b.sd.g≠[]/\Vg c b.sd.g/\b.sd.o∈c.own:=by obtain⟨m,hm⟩:=I.rt b h h2;exact⟨yZ.mpr ⟨m,hm⟩,(I.hE _ hm).2.1,(I.hE _ hm).1⟩
section
variable{M:Mo}{L:Lay}{c:aH}(a:At M L c){n s:Nat}(I:Inv n s c)(hs:s<=76)(hn:n<=1000)
include a I hs hn
theorem agf(k:Int):Sp M L (jd M [ob L.c,.int k]) (cJ c (.cut k)):=by
 have hc:=a.hc;obtain⟨n2,hh⟩:=a.hh;have hL:=I.hL;have h1:=DQ a (by omega) k;simp only[cJ,yh,xR];cases hk:bk c k with
 |none=>
  rw[hk]at h1;show _=_;simp[jd,oH,hc,aN,hh,dO,bJ,h1]
 |some b=>
  rw[hk]at h1;obtain⟨_,_,h3,h4,n3,hb⟩:=qF a hk;show Sp M L _ (if b.sd.al=true then _ else _);cases e1:b.sd.al with
  |false=>
   simp[e1]at h1;show _=_;simp[jd,oH,hc,aN,hh,dO,bJ,h1]
  |true=>
   simp[e1]at h1;simp only[if_true];have mem:=aq2 h4;obtain⟨q1,q2,q3⟩:=I.alive mem e1;obtain⟨r,q4,q5⟩:=I.mk1 q1;have h6:=fJ (I.ear b mem);have h7:=Ba a (by omega) _ _ q4;have h8:=Jm M b.sd.ear (firstM c b.sd.o b.sd.g) (by omega);have q6:=fJ (wO (I.ear b mem) q5);generalize jZ b.sd.ear (firstM c b.sd.o b.sd.g)=e at h8 q6 ⊢;have h9:=Y8 a I hs b.sd.o b.sd.g e q6 q2;cases e2:wz b.sd.o e (bR (fG c 0 b.sd.g)) (roomOf c b.sd.g) with
   |cons r rs=>
    rw[e2]at h9;show _=_;simp[jd,oH,hc,aN,hh,dO,bJ,h1,hb,iB,bW,h7,h8,bY,h9]
   |nil=>
    rw[e2]at h9;have h5:=tV hb (.cut e) (by omega) (by have:=I.en b mem;omega);refine⟨_,L.bs,?_,yS (n:=n3) (e:=.cut e) a h3 h4⟩;simp[En.dat]at h5;simp[jd,oH,hc,aN,hh,dO,bJ,h1,hb,bW,bL,h5,bY,h7,h8,h9,jJ]
theorem aiR(x:Int):Sp M L (j7 M [ob L.c,.int x]) (cJ c (.part x)):=by
 have hc:=a.hc;obtain⟨n1,m1,hg⟩:=a.hg;have h1:=aer a I.gr x;have e0:(aJ c x).filter (λy=>!(y==x))=mF c x:=rfl;rw[e0]at h1;simp only[cJ,yu];by_cases e1:Vg c x
 ·rw[if_pos e1]at h1 ⊢;by_cases e2:mF c x=[]
  ·rw[if_pos e2]at h1 ⊢;show _=_;simp[j7,qu,hc,aN,hg,dG,o9,h1]
  ·rw[if_neg e2]at h1 ⊢;obtain⟨M',h1,h2⟩:=h1;refine⟨M',L.bs,?_,h2⟩;simp[j7,qu,hc,aN,hg,dG,o9,h1]
 ·rw[if_neg e1]at h1 ⊢;show _=_;simp[j7,qu,hc,aN,hg,dG,o9,h1]
theorem ahZ(x y:Int)(hx:Vg c x)(hy:Vg c y):lF M [ob L.c,.int x,.int y]=.ok (.list ((jT (bR (BP c x y)) (qL c x y)).map pairD)):=by
 have h1:=I.hL;have f1:=I.few (R:=fG c 0 x) λr hr=>qR hr;have f2:=I.few (R:=fG c 0 y) λr hr=>qR hr;have f3:=I.few (R:=BP c x y) λr hr=>by
  rcases aq8.mp hr with h|h
  ·exact qR (fU.mp h)
  ·exact qR (fU.mp h)
 have e:IK L c x y=BP c x y:=by unfold IK BP;rw[kh a,kh a]
 have:=aat a I.gr (by omega) (by omega) x y hx hy (by rw[kh a];omega) (by rw[kh a];omega) (by rw[e];omega) (by rw[kh a];exact I.Oh) (by rw[kh a];exact I.Oh);rw[e]at this;exact this
theorem ah4(x y:Int):Sp M L (gq M [ob L.c,.int x,.int y]) (cJ c (.uY x y)):=by
 have hc:=a.hc;obtain⟨n1,m1,hg⟩:=a.hg;have h1:=wM a y;have h2:=Bl a I.gr x;simp only[cJ,yu];by_cases e1:Vg c y;rotate_left
 ·rw[if_neg e1]at h1 ⊢;show _=_;simp[gq,jM,hc,aN,hg,dG,aG,h1]
 rw[if_pos e1]at h1 ⊢;by_cases e2:Vg c x;rotate_left
 ·rw[if_neg e2]at h2 ⊢;show _=_;simp[gq,jM,hc,aN,hg,dG,aG,h1,bT,h2]
 rw[if_pos e2]at h2 ⊢;have h3:=Ce false y (aJ c x);have h4:=abV a I.gr x y e2 e1;by_cases e3:y∈aJ c x
 ·rw[if_pos e3];rw[decide_eq_true e3]at h3;show _=_;simp[gq,jM,hc,aN,hg,dG,aG,h1,bT,h2,h3]
 rw[if_neg e3]at h4 ⊢;rw[decide_eq_false e3]at h3;have h5:=ahZ a I hs hn x y e2 e1;have h6:∀p∈jT (bR (BP c x y)) (qL c x y),p.1.2.length=6:=λp hp=>by
  unfold jT at hp;obtain⟨q,hq,hp⟩:=List.mem_flatMap.mp hp;obtain⟨r,_,rfl⟩:=arb.mp hp;obtain⟨i,hi,rfl⟩:=List.mem_mapIdx.mp hq;have hm:=fU.mp (arO hi);rcases aq8.mp hm with h|h
  ·exact I.Oh _ (fU.mp h)
  ·exact I.Oh _ (fU.mp h)
 cases e4:jT (bR (BP c x y)) (qL c x y) with
 |cons p ps=>
  rw[e4]at h5 h6;have h7:=Jm M p.1.2 p.2.2 (by have:=h6 p aq4;omega);show _=_;simp[gq,jM,hc,aN,hg,dG,aG,h1,bT,h2,h3,nY,h5];simp[pairD,Ear.rD,Ear.dT,h7,Fx]
 |nil=>
  rw[e4]at h5;obtain⟨M',h4,h7⟩:=h4;refine⟨M',L.bs,?_,h7⟩;simp[gq,jM,hc,aN,hg,dG,aG,h1,bT,h2,h3,nY,h5,v9,h4]
theorem aiS(e g x:Int):Sp M L (cX M [ob L.c,.int e,.int g,.int x]) (cJ c (.heir e g x)):=by
 have hc:=a.hc;have hr:=a.hr;obtain⟨n1,m1,hg⟩:=a.hg;have hL:=I.hL;have h1:=lU a e;have h2:=wM a g;have h3:=qZ a (by omega) e g;simp only[cJ,uz,yu,pq];by_cases e1:e∈c.own;rotate_left
 ·rw[if_neg e1]at h1 ⊢;show _=_;simp[cX,dZ,hc,aN,aC,h1]
 rw[if_pos e1]at h1 ⊢;by_cases e2:Vg c g;rotate_left
 ·rw[if_neg e2]at h2 ⊢;show _=_;simp[cX,dZ,hc,aN,aC,h1,hg,dG,aG,h2]
 rw[if_pos e2]at h2 ⊢;by_cases e3:1<=x/\x<=3;rotate_left
 ·rw[if_neg e3];show _=_;by_cases e4:1<=x
  ·have e5:¬x<=3:=λz=>e3 ⟨e4,z⟩;simp[cX,dZ,hc,aN,aC,h1,hg,dG,aG,h2,jk,lH,e4,e5]
  ·simp[cX,dZ,hc,aN,aC,h1,hg,dG,aG,h2,jk,lH,e4]
 rw[if_pos e3];obtain⟨e4,e5⟩:=e3;by_cases e6:bK c e g=[]
 ·rw[if_pos e6]at h3 ⊢;show _=_;simp[cX,dZ,hc,aN,aC,h1,hg,dG,aG,h2,jk,lH,e4,e5,aO,h3]
 rw[if_neg e6]at h3 ⊢;obtain⟨r,q4,q5⟩:=I.mk1 e6;have h7:=Ba a (by omega) _ _ q4;have f1:=I.few (R:=fG c 0 g) λr hr=>qR hr;have h8:=zB a I.gr (by omega) (by omega) g (by rw[kh a];omega);rw[if_pos e2,kh a]at h8;have h9:=zU a I.gr g;rw[if_pos e2]at h9;have h10:=WL M (firstM c e g) x (bR (fG c 0 g)) (roomOf c g) q5 ⟨by omega,e5⟩ (Ah I.Oh) (by rw[uf];omega);cases e7:(P0 (firstM c e g) x).find? (zM (bR (fG c 0 g)) (roomOf c g)) with
 |none=>
  rw[e7]at h10;show _=_;simp[cX,dZ,hc,aN,aC,h1,hg,dG,aG,h2,jk,lH,e4,e5,aO,h3,bW,h7,cH,h8,cC,h9,h10]
 |some mk=>
  rw[e7]at h10;obtain⟨M1,k1,a1⟩:=Lw a (λo ho=>(I.own o ho).2) (by have:=I.ownL;omega);have k2:=Ml a1 (by show c.held.length<=50000;omega) (c.count+1) g mk;rw[if_neg (λz=>by
   have:=(I.own _ (I.hE _ z).1).2;simp at this
   omega)]at k2
  obtain⟨M2,k2,a2⟩:=k2;have hc1:=a1.hc;have hr1:=a1.hr;refine⟨M2,L.bs,?_,a2⟩;simp[cX,dZ,hc,aN,aC,h1,hg,dG,aG,h2,jk,lH,e4,e5,aO,h3,bW,h7,cH,h8,cC,h9,h10,iw,k1];simp[hc1,aN,hr1,oE,iT,k2]
end
section
variable{M:Mo}{L:Lay}{c:aH}(a:At M L c){n s:Nat}(I:Inv n s c)(hs:s<=76)(hn:n<=1000)
include a I hs hn
theorem ak4(k o:Int):Sp M L (dW M [ob L.c,.int k,.int o]) (cJ c (.sell k o)):=by
 have hc:=a.hc;obtain⟨n2,hh⟩:=a.hh;have hL:=I.hL;have h1:=Mv a (by omega) k;have h2:=lU a o;simp only[cJ,markB,yh,xR,uz,pq];cases hk:bk c k with
 |none=>
  rw[hk]at h1;show _=_;simp[dW,fP,hc,aN,hh,dO,bB,h1]
 |some b=>
  rw[hk]at h1;obtain⟨k1,k2,h3,h4,n3,hb⟩:=qF a hk;show Sp M L _ (if b.sd.al=true then _ else _);cases e1:b.sd.al with
  |false=>
   simp[e1]at h1;show _=_;simp[dW,fP,hc,aN,hh,dO,bB,h1]
  |true=>
   simp[e1]at h1;simp only[if_true];cases e2:b.sd.due with
   |none=>
    simp[e2]at h1;show _=_;simp[dW,fP,hc,aN,hh,dO,bB,h1]
   |some e0=>
    simp[e2]at h1;show Sp M L _ (if o∈c.own then _ else _);by_cases e3:o∈c.own;rotate_left
    ·rw[if_neg e3]at h2 ⊢;show _=_;simp[dW,fP,hc,aN,hh,dO,bB,h1,aC,h2]
    rw[if_pos e3]at h2 ⊢;by_cases e4:b.sd.o=o
    ·rw[if_pos e4];show _=_;simp[dW,fP,hc,aN,hh,dO,bB,h1,aC,h2,hb,e4]
    rw[if_neg e4];have h5:=qZ a (by omega) o b.sd.g;by_cases e5:bK c o b.sd.g=[]
    ·rw[if_pos e5]at h5 ⊢;show _=_;simp[dW,fP,hc,aN,hh,dO,bB,h1,aC,h2,hb,e4,aO,h5]
    rw[if_neg e5]at h5 ⊢;have mem:=aq2 h4;obtain⟨q1,q2,q3⟩:=I.alive mem e1;obtain⟨r,q4,q5⟩:=I.mk1 e5;have h6:=fJ (I.ear b mem);have h7:=Ba a (by omega) _ _ q4;have h8:=Jm M b.sd.ear (firstM c o b.sd.g) (by omega);have q6:=fJ (wO (I.ear b mem) q5);generalize jZ b.sd.ear (firstM c o b.sd.g)=e at h8 q6 ⊢;have f1:=I.few (R:=fG c k b.sd.g) λr hr=>qR hr;have h9:=DK a I.gr (by omega) (by omega) k b.sd.g (by rw[kh a];omega);rw[if_pos q2,kh a]at h9;have h10:=zU a I.gr b.sd.g;rw[if_pos q2]at h10;have h11:=Oe M o e (bR (fG c k b.sd.g)) (roomOf c b.sd.g) q6 (Ah I.Oh) (Yu (by omega));cases e6:wz o e (bR (fG c k b.sd.g)) (roomOf c b.sd.g) with
    |cons r rs=>
     rw[e6]at h11;show _=_;simp[dW,fP,hc,aN,hh,dO,bB,h1,aC,h2,hb,e4,aO,h5,bW,h7,h8,cZ,h9,cC,h10,h11,Fx]
    |nil=>
     rw[e6]at h11;have h12:=tV hb (.sold o e) (by omega) (by have:=I.en b mem;omega);have a1:=yS (n:=n3) (e:=.sold o e) a h3 h4;have hk2:bk (eO c (k - 1).toNat (.sold o e)) k=some (jJ b (.sold o e)):=by unfold bk;rw[if_pos ⟨k1,by simpa [eO] using k2⟩,qU,if_pos rfl,h4];rfl
     obtain⟨M',h13,a2⟩:=Fy a1 (by simp[eO];omega) (I.bi.step _ _ q6) (by omega) k hk2;have hc1:=a1.hc;obtain⟨n4,hh1⟩:=a1.hh;refine⟨M',L.bs,?_,a2⟩;simp[En.dat]at h12;simp only[jJ]at h13 hc1 hh1;simp[dW,fP,hc,aN,hh,dO,bB,h1,aC,h2,hb,e4,aO,h5,bW,h7,h8,cZ,h9,cC,h10,h11,bL,h12];simp[hc1,aN,hh1,dO,iQ,h13]
theorem aiB(k g:Int):Sp M L (dU M [ob L.c,.int k,.int g]) (cJ c (.move k g)):=by
 have hc:=a.hc;obtain⟨n2,hh⟩:=a.hh;obtain⟨n5,m5,hg⟩:=a.hg;have hL:=I.hL;have h1:=Mv a (by omega) k;have h2:=wM a g;simp only[cJ,markB,yh,xR,yu,pq];cases hk:bk c k with
 |none=>
  rw[hk]at h1;show _=_;simp[dU,fQ,hc,aN,hh,dO,bB,h1]
 |some b=>
  rw[hk]at h1;obtain⟨k1,k2,h3,h4,n3,hb⟩:=qF a hk;show Sp M L _ (if b.sd.al=true then _ else _);cases e1:b.sd.al with
  |false=>
   simp[e1]at h1;show _=_;simp[dU,fQ,hc,aN,hh,dO,bB,h1]
  |true=>
   simp[e1]at h1;simp only[if_true];cases e2:b.sd.due with
   |none=>
    simp[e2]at h1;show _=_;simp[dU,fQ,hc,aN,hh,dO,bB,h1]
   |some e=>
    simp[e2]at h1;show Sp M L _ (if Vg c g then _ else _);by_cases e3:Vg c g;rotate_left
    ·rw[if_neg e3]at h2 ⊢;show _=_;simp[dU,fQ,hc,aN,hh,dO,bB,h1,hg,dG,aG,h2]
    rw[if_pos e3]at h2 ⊢;by_cases e4:b.sd.g=g
    ·rw[if_pos e4];show _=_;simp[dU,fQ,hc,aN,hh,dO,bB,h1,hg,dG,aG,h2,hb,e4]
    rw[if_neg e4];have h5:=qZ a (by omega) b.sd.o g;by_cases e5:bK c b.sd.o g=[]
    ·rw[if_pos e5]at h5 ⊢;show _=_;simp[dU,fQ,hc,aN,hh,dO,bB,h1,hg,dG,aG,h2,hb,e4,aO,h5]
    rw[if_neg e5]at h5 ⊢;have mem:=aq2 h4;have h6:=fJ (I.ear b mem);have q6:=fJ (I.due b mem e e2);have h11:=Y8 a I hs b.sd.o g e q6 e3;cases e6:wz b.sd.o e (bR (fG c 0 g)) (roomOf c g) with
    |cons r rs=>
     rw[e6]at h11;show _=_;simp[dU,fQ,hc,aN,hh,dO,bB,h1,hg,dG,aG,h2,hb,e4,aO,h5,e2,nH,bY,h11]
    |nil=>
     rw[e6]at h11;have h12:=tV hb (.moved g) (by omega) (by have:=I.en b mem;omega);have a1:=yS (n:=n3) (e:=.moved g) a h3 h4;have hk2:bk (eO c (k - 1).toNat (.moved g)) k=some (jJ b (.moved g)):=by unfold bk;rw[if_pos ⟨k1,by simpa [eO] using k2⟩,qU,if_pos rfl,h4];rfl
     obtain⟨M',h13,a2⟩:=Fy a1 (by simp[eO];omega) (I.bi.step _ _ trivial) (by omega) k hk2;have hc1:=a1.hc;obtain⟨n4,hh1⟩:=a1.hh;refine⟨M',L.bs,?_,a2⟩;simp[En.dat]at h12;simp only[jJ]at h13 hc1 hh1;simp[dU,fQ,hc,aN,hh,dO,bB,h1,hg,dG,aG,h2,hb,e4,aO,h5,e2,nH,bY,h11,bL,h12];simp[hc1,aN,hh1,dO,iQ,h13]
theorem aiY(e h:Int):Sp M L (fX M [ob L.c,.int e,.int h]) (cJ c (.pass e h)):=by
 have hc:=a.hc;have hr:=a.hr;have hL:=I.hL;have h1:=lU a e;have h2:=lU a h;simp only[cJ,uz];by_cases e1:e∈c.own;rotate_left
 ·rw[if_neg e1]at h1 ⊢;show _=_;simp[fX,jV,hc,aN,aC,h1]
 rw[if_pos e1]at h1 ⊢;by_cases e2:h∈c.own;rotate_left
 ·rw[if_neg e2]at h2 ⊢;show _=_;simp[fX,jV,hc,aN,aC,h1,h2]
 rw[if_pos e2]at h2 ⊢;by_cases e3:e=h
 ·rw[if_pos e3];show _=_;simp[fX,jV,hc,aN,aC,h1,h2,e3]
 rw[if_neg e3];obtain⟨M1,h3,a1⟩:=ZS a (by omega) e h;have hc1:=a1.hc;obtain⟨n1,hh1⟩:=a1.hh;have h4:=afR a1 (by show c.bs.length<=50000;omega) e;have ehd:cA L { c with held:=handed c e h }=cA L c:=rfl;rw[ehd]at h4;generalize hX:((cA L c).filter λx=>(x.2.2.sd.o==e)&&x.2.2.sd.al)=X at h4;have hXl:X.length<=1000:=by rw[←hX];exact arw (arl _ _) (by rw[a.len'];omega)
 have bi1:KZ (2 * n) { c with held:=handed c e h }:=⟨I.bi.ear,I.bi.en⟩;obtain⟨Z',M2,g1,g2,g3⟩:=Pk (tg:=bM [4,5]) (body:=rZ) (λZ=>∃x y,Z=[some (.dat (ob L.c)),some (.dat (.int e)),some (.dat (.int h)),some (.dat (.list (X.map nb))),x,y])
  (λi c1=>KZ (2 * n+i) c1/\c1.bs.length=c.bs.length) (.passed h) L 1000 X M1 { c with held:=handed c e h } [some (.dat (ob L.c)),some (.dat (.int e)),some (.dat (.int h)),some (.dat (.list (X.map nb))),none,none] 0 (by omega) a1 ⟨bi1,rfl⟩ ⟨none,none,rfl⟩ (λM1 c1 Z x i hi a1 p1 q1 hx=>by
   obtain⟨bi1,l1⟩:=p1;obtain⟨x0,y0,rfl⟩:=q1;rw[←hX]at hx;obtain⟨z1,z2⟩:=Dz (arn.mp hx).1;have hl:x.1 < c1.bs.length:=by rw[l1];exact(aqY.mp z2).1
   have z3:=aq0 hl;obtain⟨nx,hx1⟩:=a1.hb _ _ _ z1 z3;have mem:=arO hl;have hb:=tV hx1 (.passed h) (by rw[bi1.ear _ mem];decide) (by have:=bi1.en _ mem;omega);refine⟨[some (.dat (ob L.c)),some (.dat (.int e)),some (.dat (.int h)),some (.dat (.list (X.map nb))),some (.dat (.int ((x.1:Int)+1))),some (.dat (ob x.2.1))],[some (.dat (ob L.c)),some (.dat (.int e)),some (.dat (.int h)),some (.dat (.list (X.map nb))),some (.dat (.int ((x.1:Int)+1))),some (.dat (ob x.2.1))],_,by simp[nb],?_,⟨_,_,rfl⟩,yS (n:=nx) a1 z1 z3,bi1.step _ _ trivial,by simp[eO,l1]⟩;have hb:m9 M1 [ob x.2.1,.tuple [.str "passed",.int h]]=_:=hb
   simp[rZ,hx1,bL,hb,jJ])
 obtain⟨x0,y0,rfl⟩:=g2;have g4:vN X (.passed h) { c with held:=handed c e h }=kY (λx=>(x.sd.o==e)&&x.sd.al) (.passed h) { c with held:=handed c e h }:=by rw[←hX];exact V7 a1 (λx=>(x.sd.o==e)&&x.sd.al) (.passed h)
 rw[g4]at g3;have hc2:=g3.hc;have hl:∀i,(M2.set L.c i)[L.c]?=some i:=λi=>by rw[bG hc2,if_pos rfl]
 have hk:=any_keys e c.own;rw[decide_eq_true e1]at hk;have hf:((c.own.map λo=>(PyData.int o,PyData.bool true)).filter λp=>!PyData.eqv p.1 (.int e))=(c.own.filter λo=>!(o==e)).map λo=>(PyData.int o,PyData.bool true):=by rw[List.filter_map];congr 1
 have a3:=g3.setC (n:=c.count) (own:=c.own.filter λo=>!(o==e));refine⟨_,L.bs,?_,a3⟩;have key:=gR (tg:=bM [4,5]) (te:=aq 4) (M:=M2.set L.c (aN L { kY (λx=>(x.sd.o==e)&&x.sd.al) (.passed h) { c with held:=handed c e h } with count:=c.count,own:=c.own.filter λo=>!(o==e) })) (Z:=[some (.dat (ob L.c)),some (.dat (.int e)),some (.dat (.int h)),some (.dat (.list (X.map nb))),none,none]) nb (λx=>.int ((x.1:Int)+1)) X λx _=>⟨[some (.dat (ob L.c)),some (.dat (.int e)),some (.dat (.int h)),some (.dat (.list (X.map nb))),some (.dat (.int ((x.1:Int)+1))),some (.dat (ob x.2.1))],by simp[nb],by simp⟩;have eo:(R9 c e).map PyData.int=X.map λx=>.int ((x.1:Int)+1):=by unfold R9;rw[←KY a,List.filter_map,arB,arB,←hX];rfl
 have eo:lI (R9 c e)=.list (X.map λx=>.int ((x.1:Int)+1)):=congrArg PyData.list eo;have hX2:X.length<=50000:=by omega
 have f2:c.own.length<=100000:=by have:=I.ownL;omega
 rw[eo];simp[fX,jV,hc,aN,aC,h1,h2,e3,hr,oE,sG,h3];simp[hc1,aN,hh1,dO,Ay,h4,g1];simp only[kY]at hc2 key ⊢;have hk':(c.own.any ((λp=>PyData.eqv p.1 (.int e)) ∘ λo=>(PyData.int o,PyData.bool true)))=true:=by rw[←ar5];exact hk
 simp[hc2,aN,f2];rw[hk',hf];simp only[aN]at key;simp[key,hX2]
end
theorem dh.same{c c':aH}(i:dh c)(h1:c'.al=c.al)(h2:c'.ci=c.ci):dh c':=by cases c;cases c';simp at h1 h2;subst h1 h2;exact⟨i.len,i.few,i.al,i.mem,i.own,i.up,i.one⟩
theorem dh.lt{c:aH}(i:dh c){k:Nat}{l:List Int}(h:c.ci[k]?=some l):k < c.al.length:=by rw[←i.len];exact(aqY.mp h).1
theorem dh.add{c:aH}(i:dh c)(hf:c.al.length < 200){x:Int}(hx:0<=x/\x<=9):dh { c with al:=c.al++[x],ci:=c.ci++[[(c.al.length:Int)+1]] }:=by
 have key:∀(k:Nat) (l:List Int),(c.ci++[[(c.al.length:Int)+1]])[k]?=some l->(c.ci[k]?=some l/\k < c.al.length)∨(k=c.al.length/\l=[(c.al.length:Int)+1]):=λk l h=>by
  by_cases hk:k < c.ci.length
  ·rw[aq7 hk]at h;exact .inl ⟨h,i.lt h⟩
  ·rw[arf (by omega)]at h;have hk2:k - c.ci.length=0:=by
    have:=(aqY.mp h).1;simp at this;omega
   rw[hk2]at h;simp at h;exact .inr ⟨by have:=i.len;omega,h.symm⟩
 refine⟨by simp[i.len],by simp;omega,λy hy=>?_,λk l h y hy=>?_,λk l h=>?_,λk l h=>?_,λk j l h hj=>?_⟩
 ·rcases aq8.mp hy with hy|hy
  ·exact i.al y hy
  ·rw[aq5.mp hy];exact hx
 ·show 1<=y/\y<=((c.al++[x]).length:Int);rw[arN,List.length_singleton];rcases key k l h with⟨h,_⟩|⟨_,rfl⟩
  ·have:=i.mem k l h y hy;omega
  ·rw[aq5.mp hy];omega
 ·rcases key k l h with⟨h,_⟩|⟨rfl,rfl⟩
  ·exact i.own k l h
  ·simp
 ·rcases key k l h with⟨h,_⟩|⟨rfl,rfl⟩
  ·exact i.up k l h
  ·simp
 ·show(c.ci++[[(c.al.length:Int)+1]])[j]?=some l
  rcases key k l h with⟨h,_⟩|⟨rfl,rfl⟩
  ·have h2:=i.one k j l h hj;rw[aq7 (aqY.mp h2).1];exact h2
  ·have:j=c.al.length:=by
    rw[aq5]at hj;omega
   rw[this,←i.len];simp
theorem Yy(l:List Int):∀(s:List Int) (ci:List (List Int)) (k:Nat),(∀y∈s,1<=y)->(s.foldl (λs y=>s.set (y - 1).toNat l) ci)[k]?=if ((k:Int)+1∈s)/\k < ci.length then some l else ci[k]?
 |[],ci,k,_=>by simp
 |y::s,ci,k,h=>by
  rw[ar3,Yy l s _ k λz hz=>h z (aq3 _ hz),ars];have hy:=h y aq4;by_cases h1:(k:Int)+1∈s/\k < ci.length
  ·rw[if_pos h1,if_pos ⟨aq3 _ h1.1,h1.2⟩]
  ·rw[if_neg h1,arU];by_cases h2:(y - 1).toNat=k
   ·rw[if_pos h2];have e:(k:Int)+1=y:=by omega
    by_cases h3:k < ci.length
    ·rw[if_pos (by omega),if_pos ⟨by rw[e];exact aq4,h3⟩]
    ·rw[if_neg (by omega),if_neg (λz=>h3 z.2),arx (by omega)]
   ·rw[if_neg h2,if_neg];rintro⟨z,h3⟩;rcases arh.mp z with z|z
    ·omega
    ·exact h1 ⟨z,h3⟩
theorem yV(ci:List (List Int))(l:List Int)(k:Nat)(h:∀y∈l,1<=y):(encl ci l)[k]?=if ((k:Int)+1∈l)/\k < ci.length then some l else ci[k]?:=Yy l l ci k h
theorem dh.again{c:aH}(i:dh c){ci:List (List Int)}(hl:ci.length=c.ci.length)(P:List Int->Prop)
  (h1:∀(k:Nat) (l:List Int),ci[k]?=some l->(P l/\(k:Int)+1∈l)∨c.ci[k]?=some l)
  (h2:∀l,P l->l.Pairwise (· < ·)/\∀y∈l,Vg c y/\ci[(y - 1).toNat]?=some l)
  (h3:∀(k j:Nat) (l:List Int),ci[k]?=some l->c.ci[k]?=some l->c.ci[j]?=some l->(k:Int)+1∈l->¬P l->ci[j]?=some l):dh { c with ci:=ci }:=by
 refine⟨by show ci.length=_;rw[hl,i.len],i.few,i.al,λk l h y hy=>?_,λk l h=>?_,λk l h=>?_,λk j l h hj=>?_⟩
 ·rcases h1 k l h with⟨p,_⟩|h
  ·exact((h2 l p).2 y hy).1
  ·exact i.mem k l h y hy
 ·rcases h1 k l h with⟨_,p⟩|h
  ·exact p
  ·exact i.own k l h
 ·rcases h1 k l h with⟨p,_⟩|h
  ·exact(h2 l p).1
  ·exact i.up k l h
 ·show ci[j]?=some l;have pj:P l->ci[j]?=some l:=λp=>by
   have:=((h2 l p).2 _ hj).2
   rwa [show((j:Int)+1 - 1).toNat=j by omega]at this
  rcases h1 k l h with⟨p,_⟩|h'
  ·exact pj p
  ·by_cases p:P l
   ·exact pj p
   ·exact h3 k j l h h' (i.one k j l h' hj) (i.own k l h') p
theorem dh.at{c:aH}(i:dh c){x:Int}(h:Vg c x):c.ci[(x - 1).toNat]?=some (aJ c x):=by
 obtain⟨k,hk,rfl⟩:=uh h;have hk':k < c.ci.length:=by rw[i.len];exact hk
 simp[aJ,hk']
theorem dh.self{c:aH}(i:dh c){x:Int}(h:Vg c x):x∈aJ c x:=by
 have:=i.own _ _ (i.at h)
 rwa [show(((x - 1).toNat:Nat):Int)+1=x by omega]at this
theorem dh.eq{c:aH}(i:dh c){x y:Int}(h:Vg c x)(hy:y∈aJ c x):aJ c y=aJ c x:=by have v:=i.mem _ _ (i.at h) y hy;have:=i.one _ (y - 1).toNat _ (i.at h) (by rw[show(((y - 1).toNat:Nat):Int)+1=y by omega];exact hy);rw[i.at v]at this;exact ark this
theorem Eb{l:List Int}{i:Int}:i∈sortI l↔i∈l:=by unfold sortI;rw[List.mem_mergeSort]
theorem afP{l:List Int}(h:l.Nodup):(sortI l).Pairwise (· < ·):=by unfold sortI;have srt:=List.pairwise_mergeSort (le:=λa b:Int=>decide (a<=b)) (λa b c k1 k2=>by rw[asj]at *;omega) (λa b=>by rw[Bool.or_eq_true,asj,asj];omega) l;have nd:(l.mergeSort λa b=>decide (a<=b)).Nodup:=(List.mergeSort_perm _ _).nodup_iff.mpr h;refine List.Pairwise.imp₂ (λa b h1 h2=>?_) srt nd;rw[asj]at h1;have:a≠b:=h2;omega
theorem dh.uY{c:aH}(i:dh c){x y:Int}(hx:Vg c x)(hy:Vg c y)(hn:y∉aJ c x):dh { c with ci:=encl c.ci (sortI (aJ c x++aJ c y)) }:=by
 generalize hS:sortI (aJ c x++aJ c y)=S;have mem:∀z,z∈S↔z∈aJ c x∨z∈aJ c y:=λz=>by rw[←hS,Eb,aq8]
 have vg:∀z∈S,Vg c z:=λz hz=>by
  rcases(mem z).mp hz with h|h
  ·exact i.mem _ _ (i.at hx) z h
  ·exact i.mem _ _ (i.at hy) z h
 have up:S.Pairwise (· < ·):=by
  rw[←hS];refine afP ?_;rw[arQ];have nd:∀{l:List Int},l.Pairwise (· < ·)->l.Nodup:=λh=>h.imp λ{a b} z e=>by omega
  refine⟨nd (i.up _ _ (i.at hx)),nd (i.up _ _ (i.at hy)),λa ha b hb e=>?_⟩;subst e;have e1:=i.eq hx ha;have e2:=i.eq hy hb;rw[e1]at e2;exact hn (e2 ▸ i.self hy)
 have get:=λk=>yV c.ci S k λz hz=>(vg z hz).1;refine i.again (P:=λl=>l=S) (by unfold encl;rw[wA]) (λk l h=>?_) (λl hl=>?_) (λk j l h h' hj hk np=>?_)
 ·rw[get]at h;split at h
  ·next z=>
   cases h;exact .inl ⟨rfl,z.1⟩
  ·exact .inr h
 ·subst hl;refine⟨up,λz hz=>⟨vg z hz,?_⟩⟩;have v:=vg z hz;have e:(((z - 1).toNat:Nat):Int)+1=z:=by omega
  rw[get,e,if_pos ⟨hz,by rw[i.len];omega⟩]
 ·rw[get];by_cases z:(j:Int)+1∈S/\j < c.ci.length
  ·exfalso;have v:=vg _ z.1;have ej:aJ c ((j:Int)+1)=l:=by
    have:=i.at v;rw[show((j:Int)+1 - 1).toNat=j by omega,hj]at this;exact(ark this).symm
   have hk2:(k:Int)+1∈S:=by
    rw[mem];rcases(mem _).mp z.1 with q|q
    ·exact .inl (by rw[←i.eq hx q,ej];exact hk)
    ·exact .inr (by rw[←i.eq hy q,ej];exact hk)
   rw[get,if_pos ⟨hk2,(aqY.mp h').1⟩]at h;exact np (ark h).symm
  ·rw[if_neg z];exact hj
theorem dh.part{c:aH}(i:dh c){x:Int}(hx:Vg c x):dh { c with ci:=encl (encl c.ci [x]) (mF c x) }:=by
 have mem:∀z,z∈mF c x↔z∈aJ c x/\z≠x:=λz=>by
  unfold mF;rw[arn];simp
 have vg:∀z∈mF c x,Vg c z:=λz hz=>i.mem _ _ (i.at hx) z ((mem z).mp hz).1;have l1:(encl c.ci [x]).length=c.ci.length:=by unfold encl;rw[wA]
 have get:∀k:Nat,(encl (encl c.ci [x]) (mF c x))[k]?=if ((k:Int)+1∈mF c x)/\k < c.ci.length then some (mF c x) else if ((k:Int)+1=x)/\k < c.ci.length then some [x] else c.ci[k]?:=λk=>by
  rw[yV _ _ _ λz hz=>(vg z hz).1,l1,yV _ _ _ λz hz=>by rw[aq5.mp hz];exact hx.1];simp only[aq5]
 refine i.again (P:=λl=>l=mF c x/\l≠[]∨l=[x]) (by unfold encl;rw[wA,wA]) (λk l h=>?_) (λl hl=>?_) (λk j l h h' hj hk np=>?_)
 ·rw[get]at h;split at h
  ·next z=>
   cases h;exact .inl ⟨.inl ⟨rfl,List.ne_nil_of_mem z.1⟩,z.1⟩
  ·split at h
   ·next z=>
    cases h;exact .inl ⟨.inr rfl,by rw[z.1];simp⟩
   ·exact .inr h
 ·rcases hl with⟨rfl,_⟩|rfl
  ·refine⟨(i.up _ _ (i.at hx)).filter _,λz hz=>⟨vg z hz,?_⟩⟩;have v:=vg z hz;have e:(((z - 1).toNat:Nat):Int)+1=z:=by omega
   rw[get,e,if_pos ⟨hz,by rw[i.len];omega⟩]
  ·refine⟨by simp,λz hz=>?_⟩;rw[aq5.mp hz];refine⟨hx,?_⟩;have e:(((x - 1).toNat:Nat):Int)+1=x:=by omega
   rw[get,e,if_neg (λz=>((mem x).mp z.1).2 rfl),if_pos ⟨rfl,by rw[i.len];omega⟩]
 ·have key:∀m:Nat,c.ci[m]?=some l->(m:Int)+1∈aJ c x->l=aJ c x:=λm hm q=>by
   have v:=i.mem _ _ (i.at hx) _ q;have:=i.at v;rw[show((m:Int)+1 - 1).toNat=m by omega,hm,i.eq hx q]at this;exact ark this
  have out:(k:Int)+1∉aJ c x:=λq=>by
   rw[get]at h;by_cases e:(k:Int)+1=x
   ·rw[if_neg (λz=>((mem _).mp z.1).2 e),if_pos ⟨e,(aqY.mp h').1⟩]at h;exact np (.inr (ark h).symm)
   ·rw[if_pos ⟨(mem _).mpr ⟨q,e⟩,(aqY.mp h').1⟩]at h;have e2:=(ark h).symm;exact np (.inl ⟨e2,λz=>by rw[z]at hk;cases hk⟩)
  have outj:(j:Int)+1∉aJ c x:=λq=>out (key j hj q ▸ hk);have o1:¬((j:Int)+1∈mF c x/\j < c.ci.length):=λz=>outj ((mem _).mp z.1).1;have o2:¬((j:Int)+1=x/\j < c.ci.length):=λz=>outj (by rw[z.1];exact i.self hx);rw[get,if_neg o1,if_neg o2];exact hj
def Good(held:List Row3)(s:Sd):Prop:=dB s.ear=true/\(∀e,s.due=some e->dB e=true)/\(s.al=true->∃m,(s.o,s.g,m)∈held)
structure Ry(m:Nat)(c:aH):Prop where
 g:∀b∈c.bs,Good c.held b.sd
 en:∀b∈c.bs,b.en.length<=m
theorem Inv.Wc{n s:Nat}{c:aH}(I:Inv n s c):Ry (2 * n) c:=⟨λb hb=>⟨I.ear b hb,I.due b hb,I.rt b hb⟩,I.en⟩
theorem O6{c:aH}{i:Nat}{e:En}{b:bV}(h:b∈(eO c i e).bs):b∈c.bs∨∃b0,c.bs[i]?=some b0/\b=jJ b0 e:=by
 obtain⟨j,hj⟩:=List.mem_iff_getElem?.mp h;rw[qU]at hj;split at hj
 ·next z=>
  subst z;obtain⟨b0,h3,h4⟩:=arz.mp hj;exact .inr ⟨b0,h3,h4.symm⟩
 ·exact .inl (aq2 hj)
theorem Ry.one{m:Nat}{c:aH}(B:Ry m c){i:Nat}{e:En}(h:∀b,c.bs[i]?=some b->Good c.held (go b.sd e)):Ry (m+1) (eO c i e):=by
 refine⟨λb hb=>?_,λb hb=>?_⟩
 ·rcases O6 hb with h1|⟨b0,h1,rfl⟩
  ·exact B.g b h1
  ·exact h b0 h1
 ·rcases O6 hb with h1|⟨b0,h1,rfl⟩
  ·have:=B.en b h1;omega
  ·have:=B.en b0 (aq2 h1);simp[jJ];omega
theorem Ry.many{m:Nat}{c:aH}(B:Ry m c){p:bV->Bool}{e:En}(h:∀b∈c.bs,p b=true->Good c.held (go b.sd e)):Ry (m+1) (kY p e c):=by
 refine⟨λb hb=>?_,λb hb=>?_⟩
 ·obtain⟨b0,h1,rfl⟩:=arb.mp hb;cases hp:p b0 with
  |true=>
   rw[if_pos rfl];exact h b0 h1 hp
  |false=>
   rw[if_neg (by simp)];exact B.g b0 h1
 ·obtain⟨b0,h1,rfl⟩:=arb.mp hb;have:=B.en b0 h1;cases hp:p b0<;>simp[jJ]<;>omega
theorem Good.mono{held held':List Row3}{s:Sd}(g:Good held s)(h:∀r∈held,r∈held'):Good held' s:=⟨g.1,g.2.1,λz=>by
 obtain⟨m,hm⟩:=g.2.2 z;exact⟨m,h _ hm⟩⟩
theorem Inv.of{n s n' s':Nat}{c c':aH}(I:Inv n s c)(hn:n<=n')(gr:dh c')(hal:c'.al.length<=n')(ec:c'.count=c.count)(eo:c'.own=c.own)(hd:c'.held.Nodup)(hL:c'.held.length+c'.bs.length<=s')(hE:∀r∈c'.held,r.1∈c'.own/\Vg c' r.2.1/\dB r.2.2=true)(B:Ry (2 * n') c'):Inv n' s' c':=
 ⟨gr,hal,by have:=I.cnt;rw[ec];omega,by rw[ec,eo];exact I.own,by rw[eo];exact I.Qe,by have:=I.ownL;rw[eo];omega,hd,hL,hE,λb hb=>(B.g b hb).1,λb hb=>(B.g b hb).2.1,B.en,λb hb=>(B.g b hb).2.2⟩
theorem abQ{x:List Int}{p:Nat}(h:dB x=true)(h9:¬9<=x.getD p 0):dB (jP x p)=true:=by
 unfold dB at *;simp only[aqZ,asj,aro]at *;refine⟨by rw[QM];exact h.1,λd hd=>?_⟩;unfold jP at hd;obtain⟨i,hi,rfl⟩:=List.mem_mapIdx.mp hd;have:=h.2 _ (arO hi);split
 ·next e=>
  subst e;have:x.getD i 0=x[i]:=by simp[hi]
  omega
 ·exact this
theorem IV{r:Row3}:∀(l acc:List Row3),r∈l.foldl Fj acc↔r∈acc∨r∈l
 |[],acc=>by simp
 |x::l,acc=>by
  rw[ar3,IV l];unfold Fj;split
  ·next h=>
   constructor
   ·rintro(z|z)
    ·exact .inl z
    ·exact .inr (aq3 _ z)
   ·rintro(z|z)
    ·exact .inl z
    ·rcases arh.mp z with rfl|z
     ·exact .inl h
     ·exact .inr z
  ·simp[or_assoc]
theorem QL:∀(l acc:List Row3),acc.Nodup->(l.foldl Fj acc).Nodup
 |[],acc,h=>h
 |x::l,acc,h=>by
  rw[ar3];refine QL l _ ?_;unfold Fj;split
  ·exact h
  ·next z=>
   rw[arQ];exact⟨h,by simp,λa ha b hb e=>z (by rw[aq5.mp hb]at e;exact e ▸ ha)⟩
theorem aai:∀(l acc:List Row3),(l.foldl Fj acc).length<=acc.length+l.length
 |[],acc=>by simp
 |x::l,acc=>by
  rw[ar3];refine arw (aai l _) ?_;unfold Fj
  split<;>simp<;>omega
def cost:bx->Nat
 |.enrol ..=>1
 |.bring ..=>1
 |.bear ..=>1
 |.heir ..=>1
 |_=>0
theorem jr{o room:Int}{e:List Int}{R:List Rw}{x:Res}{d:Dat}{c':aH}(h:xR o e R room x=.ok d c'):x=.ok d c':=by
 unfold xR at h;split at h
 ·exact h
 ·cases h
theorem dD{c:aH}{o:Int}{x:Res}{d:Dat}{c':aH}(h:uz c o x=.ok d c'):o∈c.own/\x=.ok d c':=by
 unfold uz at h;split at h
 ·next z=>exact⟨z,h⟩
 ·cases h
theorem dH{c:aH}{g:Int}{x:Res}{d:Dat}{c':aH}(h:yu c g x=.ok d c'):Vg c g/\x=.ok d c':=by
 unfold yu at h;split at h
 ·next z=>exact⟨z,h⟩
 ·cases h
theorem wU{e:List Int}{x:Res}{d:Dat}{c':aH}(h:Ks e x=.ok d c'):dB e=true/\x=.ok d c':=by
 unfold Ks at h;split at h
 ·next z=>exact⟨z,h⟩
 ·cases h
theorem dN{c:aH}{o g:Int}{x:Res}{d:Dat}{c':aH}(h:pq c o g x=.ok d c'):bK c o g≠[]/\x=.ok d c':=by
 unfold pq at h;split at h
 ·cases h
 ·next z=>exact⟨z,h⟩
theorem kE{c:aH}{k:Int}{f:bV->Res}{d:Dat}{c':aH}(h:yh c k f=.ok d c'):∃b,bk c k=some b/\b.sd.al=true/\f b=.ok d c':=by
 unfold yh at h;split at h
 ·cases h
 ·next b hb=>
  split at h
  ·next z=>exact⟨b,hb,z,h⟩
  ·cases h
theorem lQ{c:aH}{k:Int}{f:bV->List Int->Res}{d:Dat}{c':aH}(h:markB c k f=.ok d c'):∃b e,bk c k=some b/\b.sd.al=true/\b.sd.due=some e/\f b e=.ok d c':=by
 obtain⟨b,h1,h2,h3⟩:=kE h;split at h3
 ·cases h3
 ·next e he=>exact⟨b,e,h1,h2,he,h3⟩
theorem cV{p:Prop}[Decidable p]{x:dR}{y:Res}{d:Dat}{c':aH}(h:(if p then .no x else y)=Res.ok d c'):¬p/\y=.ok d c':=by
 split at h
 ·cases h
 ·next z=>exact⟨z,h⟩
theorem mZ{p:Prop}[Decidable p]{x:dR}{y:Res}{d:Dat}{c':aH}(h:(if p then y else .no x)=Res.ok d c'):p/\y=.ok d c':=by
 split at h
 ·next z=>exact⟨z,h⟩
 ·cases h
theorem gD{c:aH}{k:Int}{b:bV}(h:bk c k=some b):c.bs[(k - 1).toNat]?=some b/\1<=k/\k<=c.bs.length:=by
 unfold bk at h;split at h
 ·next z=>exact⟨h,z⟩
 ·cases h
theorem R5(c:aH)(k o g:Int):(uU c k o g).bs.length=c.bs.length:=by simp[uU,kY]
theorem Dg(c:aH)(i:Nat)(e:En):(eO c i e).bs.length=c.bs.length:=by simp[eO]
theorem NT{n s:Nat}{c c':aH}{d:bx}{r:Dat}(I:Inv n s c)(hn:c.al.length<=199)(h:cJ c d=.ok r c'):Inv (n+1) (s+cost d) c':=by
 have L0:=I.hL;have A0:=I.al;have C0:=I.cnt;have O0:=I.ownL;have up:Ry (2 * (n+1)) c:=⟨I.Wc.g,λb hb=>by have:=I.en b hb;omega⟩;cases d with
 |owner=>
  cases h;refine⟨I.gr.same rfl rfl,by show c.al.length<=_;omega,⟨by show 0<=c.count+1;omega,by show c.count+1<=((n+1:Nat):Int);omega⟩,λo ho=>?_,?_,by simp;omega,I.held,by simp[cost];omega,λr hr=>?_,I.ear,I.due,up.en,I.rt⟩
  ·show 1<=o/\o<=c.count+1;rcases aq8.mp ho with ho|ho
   ·have:=I.own o ho;omega
   ·rw[aq5.mp ho];omega
  ·rw[arQ];refine⟨I.Qe,by simp,λa ha b hb e=>?_⟩;rw[aq5.mp hb]at e;have:=I.own a ha;omega
  ·obtain⟨h1,h2,h3⟩:=I.hE r hr;exact⟨arD _ h1,h2,h3⟩
 |ground x=>
  obtain⟨hx,h⟩:=mZ h;cases h;refine I.of (by omega) (I.gr.add (by omega) hx) (by simp;omega) rfl rfl I.held (by simp[cost];omega) (λr hr=>?_) ⟨up.g,up.en⟩;obtain⟨h1,h2,h3⟩:=I.hE r hr;refine⟨h1,?_,h3⟩;show 1<=_/\_<=((c.al++[x]).length:Int);rw[arN];have:=h2.2;exact⟨h2.1,by omega⟩
 |enrol o g m=>
  obtain⟨h1,h⟩:=dD h;obtain⟨h2,h⟩:=dH h;obtain⟨h3,h⟩:=wU h;obtain⟨h4,h⟩:=cV h;obtain⟨h5,h⟩:=cV h;have h:=jr h;cases h;refine I.of (by omega) (I.gr.same rfl rfl) (by show c.al.length<=_;omega) rfl rfl ?_ (by simp[cost];omega) (λr hr=>?_) ⟨λb hb=>(up.g b hb).mono λr hr=>arD _ hr,up.en⟩
  ·rw[arQ];refine⟨I.held,by simp,λa ha b hb e=>?_⟩;rw[aq5.mp hb]at e;exact h5 (DY.mpr (e ▸ ha))
  ·rcases aq8.mp hr with hr|hr
   ·exact I.hE r hr
   ·rw[aq5.mp hr];exact⟨h1,h2,h3⟩
 |leave o g=>
  obtain⟨h1,h⟩:=dD h;obtain⟨h2,h⟩:=dH h;obtain⟨h3,h⟩:=dN h;obtain⟨h4,h⟩:=cV h;cases h;have sub:∀r∈dropped c o g,r∈c.held:=λr hr=>(arn.mp hr).1;have ln:(dropped c o g).length<=c.held.length:=arl _ _;refine I.of (by omega) (I.gr.same rfl rfl) (by show c.al.length<=_;omega) rfl rfl (I.held.filter _) (by simp[cost];omega) (λr hr=>I.hE r (sub r hr)) ⟨λb hb=>⟨(up.g b hb).1,(up.g b hb).2.1,λhal=>?_⟩,up.en⟩;obtain⟨m,hm⟩:=(up.g b hb).2.2 hal;refine⟨m,arn.mpr ⟨hm,?_⟩⟩;simp only[arj,Bool.and_eq_false_iff,beq_eq_false_iff_ne];by_cases e:b.sd.o=o/\b.sd.g=g
  ·exfalso;refine h4 (List.any_eq_true.mpr ⟨b,hb,?_⟩);simp[Xp,hal,e.1,e.2]
  ·by_cases e1:b.sd.o=o
   ·exact .inr λz=>e ⟨e1,z⟩
   ·exact .inl e1
 |bring o g e=>
  obtain⟨h1,h⟩:=dD h;obtain⟨h2,h⟩:=dH h;obtain⟨h3,h⟩:=wU h;obtain⟨h4,h⟩:=dN h;cases h;refine I.of (by omega) (I.gr.same rfl rfl) (by show c.al.length<=_;omega) rfl rfl I.held (by simp[cost];omega) I.hE ⟨λb hb=>?_,λb hb=>?_⟩
  ·rcases aq8.mp hb with hb|hb
   ·exact up.g b hb
   ·rw[aq5.mp hb];exact⟨h3,λe z=>(by cases z),λ_=>yZ.mp h4⟩
  ·rcases aq8.mp hb with hb|hb
   ·exact up.en b hb
   ·rw[aq5.mp hb];simp[wj]
 |bear k=>
  obtain⟨b0,e0,h1,h2,h3,h⟩:=lQ h;cases h;refine I.of (by omega) (I.gr.same rfl rfl) (by show c.al.length<=_;omega) rfl rfl I.held (by simp[cost];omega) I.hE ⟨λb hb=>?_,λb hb=>?_⟩
  ·rcases aq8.mp hb with hb|hb
   ·exact up.g b hb
   ·rw[aq5.mp hb];exact⟨(by decide:dB [0,0,0,0,0,0]=true),λe z=>(by cases z),λ_=>(up.g b0 (aq2 (gD h1).1)).2.2 h2⟩
  ·rcases aq8.mp hb with hb|hb
   ·exact up.en b hb
   ·rw[aq5.mp hb];simp[wj]
 |cut k=>
  obtain⟨b0,h1,h2,h⟩:=kE h;have h:=jr h;cases h;have hm:=aq2 (gD h1).1;obtain⟨r,q4,q5⟩:=I.mk1 (I.alive hm h2).1;have je:=wO (I.ear b0 hm) q5;generalize jZ b0.sd.ear (firstM c b0.sd.o b0.sd.g)=e at je ⊢;have B:=I.Wc.one (i:=(k - 1).toNat) (e:=.cut e) λb hb=>by
   rw[(gD h1).1]at hb;cases hb;exact⟨je,λe z=>(by cases z;exact je),λ_=>I.rt b0 hm h2⟩
  exact I.of (by omega) (I.gr.same rfl rfl) (by show c.al.length<=_;omega) rfl rfl I.held (by rw[Dg];simp[cost,eO];omega) I.hE ⟨B.g,λb hb=>by have:=B.en b hb;omega⟩
 |tear k p=>
  obtain⟨b0,h1,h2,h⟩:=kE h;obtain⟨h3,h⟩:=mZ h;obtain⟨h4,h⟩:=cV h;cases h;have hm:=aq2 (gD h1).1;have B:=I.Wc.one (i:=(k - 1).toNat) (e:=.torn p.toNat) λb hb=>by
   rw[(gD h1).1]at hb;cases hb;exact⟨abQ (I.ear b0 hm) h4,I.due b0 hm,I.rt b0 hm⟩
  exact I.of (by omega) (I.gr.same rfl rfl) (by show c.al.length<=_;omega) rfl rfl I.held (by rw[Dg];simp[cost,eO];omega) I.hE ⟨B.g,λb hb=>by have:=B.en b hb;omega⟩
 |die k=>
  obtain⟨b0,h1,h2,h⟩:=kE h;cases h;have hm:=aq2 (gD h1).1;have B:=I.Wc.one (i:=(k - 1).toNat) (e:=.died) λb hb=>by
   rw[(gD h1).1]at hb;cases hb;exact⟨I.ear b0 hm,I.due b0 hm,λz=>by cases z⟩
  exact I.of (by omega) (I.gr.same rfl rfl) (by show c.al.length<=_;omega) rfl rfl I.held (by rw[Dg];simp[cost,eO];omega) I.hE ⟨B.g,λb hb=>by have:=B.en b hb;omega⟩
 |sell k o=>
  obtain⟨b0,e0,h1,h2,h3,h⟩:=lQ h;obtain⟨h4,h⟩:=dD h;obtain⟨h5,h⟩:=cV h;obtain⟨h6,h⟩:=dN h;have h:=jr h;cases h;have hm:=aq2 (gD h1).1;obtain⟨r,q4,q5⟩:=I.mk1 h6;have je:=wO (I.ear b0 hm) q5;generalize jZ b0.sd.ear (firstM c o b0.sd.g)=e at je ⊢;have B:=I.Wc.one (i:=(k - 1).toNat) (e:=.sold o e) λb hb=>by
   rw[(gD h1).1]at hb;cases hb;exact⟨je,λe z=>(by cases z;exact je),λ_=>yZ.mp h6⟩
  have B2:=B.many (p:=λx=>gK k x&&x.sd.al) (e:=.followed o b0.sd.g) λb hb _=>⟨(B.g b hb).1,(B.g b hb).2.1,λ_=>yZ.mp h6⟩;exact I.of (by omega) (I.gr.same rfl rfl) (by show c.al.length<=_;omega) rfl rfl I.held (by rw[R5,Dg];simp[cost,eO,uU,kY];omega) I.hE ⟨B2.g,λb hb=>by have:=B2.en b hb;omega⟩
 |move k g=>
  obtain⟨b0,e0,h1,h2,h3,h⟩:=lQ h;obtain⟨h4,h⟩:=dH h;obtain⟨h5,h⟩:=cV h;obtain⟨h6,h⟩:=dN h;have h:=jr h;cases h;have hm:=aq2 (gD h1).1;have B:=I.Wc.one (i:=(k - 1).toNat) (e:=.moved g) λb hb=>by
   rw[(gD h1).1]at hb;cases hb;exact⟨I.ear b0 hm,I.due b0 hm,λ_=>yZ.mp h6⟩
  have B2:=B.many (p:=λx=>gK k x&&x.sd.al) (e:=.followed b0.sd.o g) λb hb _=>⟨(B.g b hb).1,(B.g b hb).2.1,λ_=>yZ.mp h6⟩;exact I.of (by omega) (I.gr.same rfl rfl) (by show c.al.length<=_;omega) rfl rfl I.held (by rw[R5,Dg];simp[cost,eO,uU,kY];omega) I.hE ⟨B2.g,λb hb=>by have:=B2.en b hb;omega⟩
 |uY x y=>
  obtain⟨h1,h⟩:=dH h;obtain⟨h2,h⟩:=dH h;obtain⟨h3,h⟩:=cV h;split at h
  ·cases h
  ·cases h;exact I.of (by omega) (I.gr.uY h2 h1 h3) (by show c.al.length<=_;omega) rfl rfl I.held (by show c.held.length+c.bs.length<=_;omega) I.hE ⟨up.g,up.en⟩
 |part x=>
  obtain⟨h1,h⟩:=dH h;obtain⟨h3,h⟩:=cV h;cases h;exact I.of (by omega) (I.gr.part h1) (by show c.al.length<=_;omega) rfl rfl I.held (by show c.held.length+c.bs.length<=_;omega) I.hE ⟨up.g,up.en⟩
 |pass e h'=>
  obtain⟨h1,h⟩:=dD h;obtain⟨h2,h⟩:=dD h;obtain⟨h3,h⟩:=cV h;cases h;have hin:∀r∈c.held,zQ e h' r∈handed c e h':=λr hr=>(IV _ _).mpr (.inr (arb.mpr ⟨r,hr,rfl⟩));have hout:∀r∈handed c e h',∃r0∈c.held,zQ e h' r0=r:=λr hr=>by
   rcases(IV _ _).mp hr with z|z
   ·cases z
   ·obtain⟨r0,z1,z2⟩:=arb.mp z;exact⟨r0,z1,z2⟩
  have hl:(handed c e h').length<=c.held.length:=by have:=aai (c.held.map (zQ e h')) [];simpa [handed] using this
  have ow:∀o,o∈c.own.filter (λo=>!(o==e))↔o∈c.own/\o≠e:=λo=>by
   rw[arn];simp
  have g:∀b∈(kY (λb=>(b.sd.o==e)&&b.sd.al) (.passed h') c).bs,Good (handed c e h') b.sd:=λb hb=>by
   obtain⟨b0,hb0,rfl⟩:=arb.mp hb;have G:=up.g b0 hb0;cases hp:((b0.sd.o==e)&&b0.sd.al) with
   |true=>
    simp only[hp,if_true];refine⟨G.1,G.2.1,λhal=>?_⟩;obtain⟨m,hm⟩:=G.2.2 hal;have:=hin _ hm;simp at hp;rw[hp.1]at this;exact⟨m,by simpa [zQ,jJ,go] using this⟩
   |false=>
    simp only[hp];refine⟨G.1,G.2.1,λhal=>?_⟩;obtain⟨m,hm⟩:=G.2.2 hal;have:=hin _ hm;have hal:b0.sd.al=true:=hal;rw[hal]at hp;simp at hp;exact⟨m,by simpa [zQ,hp] using this⟩
  have en:∀b∈(kY (λb=>(b.sd.o==e)&&b.sd.al) (.passed h') c).bs,b.en.length<=2 * (n+1):=λb hb=>by
   obtain⟨b0,hb0,rfl⟩:=arb.mp hb;have:=I.en b0 hb0
   dsimp only
   split
   ·simp[jJ];omega
   ·omega
  refine⟨I.gr.same rfl rfl,by show c.al.length<=_;omega,⟨C0.1,by show c.count<=_;omega⟩,λo ho=>I.own o ((ow o).mp ho).1,I.Qe.filter _,?_,QL _ _ (by simp),?_,λr hr=>?_,λb hb=>(g b hb).1,λb hb=>(g b hb).2.1,en,λb hb=>(g b hb).2.2⟩
  ·show(c.own.filter _).length<=_
   have:=arl (λo=>!(o==e)) c.own;omega
  ·show(handed c e h').length+(kY _ _ c).bs.length<=_
   simp[kY];omega
  ·obtain⟨r0,z1,rfl⟩:=hout r hr;obtain⟨q1,q2,q3⟩:=I.hE r0 z1;refine⟨(ow _).mpr ?_,q2,q3⟩;unfold zQ;by_cases z:r0.1=e
   ·simp only[z,if_true];exact⟨h2,λq=>h3 q.symm⟩
   ·simp only[z,if_false];exact⟨q1,z⟩
 |heir e g x=>
  obtain⟨h1,h⟩:=dD h;obtain⟨h2,h⟩:=dH h;obtain⟨h3,h⟩:=mZ h;obtain⟨h4,h⟩:=dN h;split at h
  ·next mk hmk=>
   cases h;obtain⟨r,q4,q5⟩:=I.mk1 h4;have hme:dB mk=true:=VR q5 ⟨by omega,h3.2⟩ (arn.mp (List.mem_of_find?_eq_some hmk)).1;refine⟨I.gr.same rfl rfl,by show c.al.length<=_;omega,⟨by show 0<=c.count+1;omega,by show c.count+1<=((n+1:Nat):Int);omega⟩,λo ho=>?_,?_,by simp;omega,?_,by simp[cost];omega,λr hr=>?_,I.ear,I.due,up.en,λb hb hal=>?_⟩
   ·show 1<=o/\o<=c.count+1;rcases aq8.mp ho with ho|ho
    ·have:=I.own o ho;omega
    ·rw[aq5.mp ho];omega
   ·rw[arQ];refine⟨I.Qe,by simp,λa ha b hb e=>?_⟩;rw[aq5.mp hb]at e;have:=I.own a ha;omega
   ·rw[arQ];refine⟨I.held,by simp,λa ha b hb e=>?_⟩;rw[aq5.mp hb]at e;have:=I.own _ (I.hE a ha).1;rw[e]at this;simp at this;omega
   ·rcases aq8.mp hr with hr|hr
    ·obtain⟨z1,z2,z3⟩:=I.hE r hr;exact⟨arD _ z1,z2,z3⟩
    ·rw[aq5.mp hr];exact⟨arM _ (by simp),h2,hme⟩
   ·obtain⟨m,hm⟩:=I.rt b hb hal;exact⟨m,arD _ hm⟩
  ·cases h
theorem afI{n s:Nat}{c c':aH}{d:bx}{r:Dat}(I:Inv n s c)(hn:n<=199)(h:cJ c d=.ok r c'):Inv (n+1) (s+cost d) c':=NT I (arw I.al hn) h
def nB(x:Int):Bool:=decide (0<=x)&&decide (x<=999999999)
def Yt(x:Int):Bool:=decide (0<=x)&&decide (x<=5)
theorem nQ(M:Mo)(x:Int):iZ M [.str "number",.int x]=.ok (.bool (nB x)):=by by_cases h:0<=x<;>simp[iZ,vL,oW,jh,zu,Bc,h,nB]
theorem jf(M:Mo)(x:Int):iZ M [.str "place",.int x]=.ok (.bool (Yt x)):=by by_cases h:0<=x<;>simp[iZ,vL,oW,jh,zu,Bc,h,Yt]
theorem adh(M:Mo)(x:List Int)(h:x.length<=1000):iZ M [.str "ear",aM x]=.ok (.bool (dB x)):=by have:=Wm M x h;simp[iZ,vL,zu,Bc,this]
def fj:bx->Bool
 |.owner=>true
 |.ground x=>nB x
 |.enrol o g m=>nB o&&nB g&&dB m
 |.leave o g=>nB o&&nB g
 |.bring o g m=>nB o&&nB g&&dB m
 |.bear k=>nB k
 |.cut k=>nB k
 |.tear k p=>nB k&&Yt p
 |.sell k o=>nB k&&nB o
 |.move k g=>nB k&&nB g
 |.die k=>nB k
 |.uY x y=>nB x&&nB y
 |.part x=>nB x
 |.pass e h=>nB e&&nB h
 |.heir e g x=>nB e&&nB g&&nB x
def Mz:bx->Prop
 |.enrol _ _ m=>m.length<=1000
 |.bring _ _ m=>m.length<=1000
 |_=>True
theorem jg(M:Mo)(w:Str)(T:List (Str×Dat×Bool))(hk:(zE yO).lookup w=some (.tuple (T.map λt=>.str t.1)))(hl:T.length<=10)(hp:∀t∈T,iZ M [.str t.1,t.2.1]=.ok (.bool t.2.2)):Gq M [.tuple (.str w::T.map λt=>t.2.1)]=.ok (.bool (T.all λt=>t.2.2)):=by
 have hs:Rf.cutD (PyData.str w::T.map λt=>t.2.1) (some 1) none=T.map λt=>t.2.1:=ZR _ 1;have hz:xP (T.map λt=>PyData.str t.1) (T.map λt=>t.2.1)=T.map λt=>.tuple [.str t.1,t.2.1]:=by unfold xP;rw[List.zipWith_map_left,List.zipWith_map_right,List.zipWith_self]
 have key:=gR (tg:=bM [3,4]) (te:=aZ iZ (ak (aq 3) (ak (aq 4) au))) (M:=M) (Z:=[some (.dat (.tuple (.str w::T.map λt=>t.2.1))),some (.dat (.tuple (T.map λt=>.str t.1))),some (.dat (.tuple (T.map λt=>t.2.1))),none,none]) (λ(t:Str×Dat×Bool)=>PyData.tuple [.str t.1,t.2.1]) (λt=>.bool t.2.2) T λt ht=>⟨[some (.dat (.tuple (.str w::T.map λt=>t.2.1))),some (.dat (.tuple (T.map λt=>.str t.1))),some (.dat (.tuple (T.map λt=>t.2.1))),some (.dat (.str t.1)),some (.dat t.2.1)],by simp,by simp[hp t ht]⟩;have ha:Pn (.list (T.map λt=>PyData.bool t.2.2))=.ok (.bool (T.all λt=>t.2.2)):=by
  have e:(T.map λt=>PyData.bool t.2.2)=(T.map λt=>t.2.2).map PyData.bool:=by rw[arB];rfl
  rw[e]
  show(match uK _ with
   |some bs=>Out.ok (PyData.bool (bs.all id))
   |none=>.bad)=_
  rw[Ec];simp[List.all_map,arp]
 have hl2:T.length<=50000:=by omega
 have hne:¬(T.length:Int)+1=0:=by omega
 simp[Gq,YB,hk,hs,hz,key,hl2,ha,hne]
theorem abo(M:Mo)(d:bx)(hd:Mz d):Gq M [d.dat]=.ok (.bool (fj d)):=by
 cases d with
 |owner=>simpa [fj,bx.dat,Bool.and_assoc] using jg M "owner" [] (by rfl) (by simp) (by simp[nQ,jf])
 |ground x=>simpa [fj,bx.dat,Bool.and_assoc] using jg M "ground" [("number",.int x,nB x)] (by rfl) (by simp) (by simp[nQ,jf])
 |enrol o g m=>simpa [fj,bx.dat,Bool.and_assoc] using jg M "enrol" [("number",.int o,nB o),("number",.int g,nB g),("ear",aM m,dB m)] (by rfl) (by simp) (by simp[nQ,jf,adh M m hd])
 |leave o g=>simpa [fj,bx.dat,Bool.and_assoc] using jg M "leave" [("number",.int o,nB o),("number",.int g,nB g)] (by rfl) (by simp) (by simp[nQ,jf])
 |bring o g m=>simpa [fj,bx.dat,Bool.and_assoc] using jg M "bring" [("number",.int o,nB o),("number",.int g,nB g),("ear",aM m,dB m)] (by rfl) (by simp) (by simp[nQ,jf,adh M m hd])
 |bear k=>simpa [fj,bx.dat,Bool.and_assoc] using jg M "bear" [("number",.int k,nB k)] (by rfl) (by simp) (by simp[nQ,jf])
 |cut k=>simpa [fj,bx.dat,Bool.and_assoc] using jg M "cut" [("number",.int k,nB k)] (by rfl) (by simp) (by simp[nQ,jf])
 |tear k p=>simpa [fj,bx.dat,Bool.and_assoc] using jg M "tear" [("number",.int k,nB k),("place",.int p,Yt p)] (by rfl) (by simp) (by simp[nQ,jf])
 |sell k o=>simpa [fj,bx.dat,Bool.and_assoc] using jg M "sell" [("number",.int k,nB k),("number",.int o,nB o)] (by rfl) (by simp) (by simp[nQ,jf])
 |move k g=>simpa [fj,bx.dat,Bool.and_assoc] using jg M "move" [("number",.int k,nB k),("number",.int g,nB g)] (by rfl) (by simp) (by simp[nQ,jf])
 |die k=>simpa [fj,bx.dat,Bool.and_assoc] using jg M "die" [("number",.int k,nB k)] (by rfl) (by simp) (by simp[nQ,jf])
 |uY x y=>simpa [fj,bx.dat,Bool.and_assoc] using jg M "unite" [("number",.int x,nB x),("number",.int y,nB y)] (by rfl) (by simp) (by simp[nQ,jf])
 |part x=>simpa [fj,bx.dat,Bool.and_assoc] using jg M "part" [("number",.int x,nB x)] (by rfl) (by simp) (by simp[nQ,jf])
 |pass e h=>simpa [fj,bx.dat,Bool.and_assoc] using jg M "pass" [("number",.int e,nB e),("number",.int h,nB h)] (by rfl) (by simp) (by simp[nQ,jf])
 |heir e g x=>simpa [fj,bx.dat,Bool.and_assoc] using jg M "heir" [("number",.int e,nB e),("number",.int g,nB g),("number",.int x,nB x)] (by rfl) (by simp) (by simp[nQ,jf])
theorem jA{M:Mo}{L:Lay}{o o':bh Dat}{r:Res}(h:Sp M L o r)(e:o'=o):Sp M L o' r:=e ▸ h
section
variable{M:Mo}{L:Lay}{c:aH}(a:At M L c){n s:Nat}(I:Inv n s c)(hs:s<=76)(hn:n<=199)
include a I hs hn
theorem alk(d:bx)(hd:Mz d)(hf:fj d=true):Sp M L (bQ M [ob L.c,d.dat]) (cJ c d):=by
 have hc:=a.hc;have h0:=abo M d hd;rw[hf]at h0;cases d with
 |owner=>
  simp only[bx.dat]at h0 ⊢;refine jA (ahj a I hn) ?_;simp[bQ,cM,h0,hc,aN,iw];cases iK M _<;>rfl
 |ground x=>
  simp only[bx.dat]at h0 ⊢;refine jA (afU a I hn x) ?_;simp[bQ,cM,h0,hc,aN,pX];cases iz M _<;>rfl
 |enrol o g m=>
  simp only[bx.dat]at h0 ⊢;refine jA (agS a I hs o g m hd) ?_;simp[bQ,cM,h0,hc,aN,wB];cases eG M _<;>rfl
 |leave o g=>
  simp only[bx.dat]at h0 ⊢;refine jA (agW a I hs o g) ?_;simp[bQ,cM,h0,hc,aN,v8];cases gG M _<;>rfl
 |bring o g m=>
  simp only[bx.dat]at h0 ⊢;refine jA (ahq a I hs o g m hd) ?_;simp[bQ,cM,h0,hc,aN,wD];cases fY M _<;>rfl
 |bear k=>
  simp only[bx.dat]at h0 ⊢;refine jA (aj2 a I hs k) ?_;simp[bQ,cM,h0,hc,aN,xU];cases jw M _<;>rfl
 |cut k=>
  simp only[bx.dat]at h0 ⊢;refine jA (agf a I hs (by omega) k) ?_;simp[bQ,cM,h0,hc,aN,uP];cases jd M _<;>rfl
 |tear k p=>
  simp only[bx.dat]at h0 ⊢;refine jA (acQ a I hs k p (by omega)) ?_;simp[bQ,cM,h0,hc,aN,tD];cases eZ M _<;>rfl
 |sell k o=>
  simp only[bx.dat]at h0 ⊢;refine jA (ak4 a I hs (by omega) k o) ?_;simp[bQ,cM,h0,hc,aN,xQ];cases dW M _<;>rfl
 |move k g=>
  simp only[bx.dat]at h0 ⊢;refine jA (aiB a I hs (by omega) k g) ?_;simp[bQ,cM,h0,hc,aN,yd];cases dU M _<;>rfl
 |die k=>
  simp only[bx.dat]at h0 ⊢;refine jA (alN a I hs k (by omega)) ?_;simp[bQ,cM,h0,hc,aN,yM];cases lW M _<;>rfl
 |uY x y=>
  simp only[bx.dat]at h0 ⊢;refine jA (ah4 a I hs (by omega) x y) ?_;simp[bQ,cM,h0,hc,aN,wF];cases gq M _<;>rfl
 |part x=>
  simp only[bx.dat]at h0 ⊢;refine jA (aiR a I hs (by omega) x) ?_;simp[bQ,cM,h0,hc,aN,yg];cases j7 M _<;>rfl
 |pass e h=>
  simp only[bx.dat]at h0 ⊢;refine jA (aiY a I hs (by omega) e h) ?_;simp[bQ,cM,h0,hc,aN,tK];cases fX M _<;>rfl
 |heir e g x=>
  simp only[bx.dat]at h0 ⊢;refine jA (aiS a I hs (by omega) e g x) ?_;simp[bQ,cM,h0,hc,aN,rW];cases cX M _<;>rfl
end
theorem Zm{c:aH}{d:bx}{x:dR}(h:cJ c d=.no x):mX.lookup x.cls=some true:=by cases d<;>simp only[cJ,uz,yu,Ks,pq,xR,yh,markB,Fx]at h<;>(repeat' split at h)<;>cases h<;>simp[mX]
def ach:bx->Nat
 |.owner=>1
 |.heir ..=>1
 |_=>0
def dGr:bx->Nat
 |.ground _=>1
 |_=>0
def dBs:bx->Nat
 |.bring ..=>1
 |.bear _=>1
 |_=>0
theorem aaw{c c':aH}{d:bx}{r:Dat}(h:cJ c d=.ok r c'):c'.count=c.count+(ach d:Int)/\c'.al.length=c.al.length+dGr d/\c'.bs.length=c.bs.length+dBs d/\(kJ .none r=true->ach d=0/\dGr d=0/\dBs d=0):=by cases d<;>simp only[cJ,uz,yu,Ks,pq,xR,yh,markB]at h<;>(repeat' split at h)<;>cases h<;>simp[ach,dGr,dBs,kJ,eO,uU,kY,lI]
def pO(c:aH)(d:bx):aH:=match cJ c d with
 |.ok _ c'=>c'
 |.no _=>c
def j9(c:aH):Dat:=.tuple [.int c.count,.int c.al.length,.int c.bs.length]
section
variable{M:Mo}{L:Lay}{c:aH}(a:At M L c){n s:Nat}(I:Inv n s c)(hs:s<=76)(hn:n<=199)
include I hn
omit hn in
theorem YC(d:bx)(hn:n<=199):Inv (n+1) (s+cost d) (pO c d):=by
 unfold pO;cases h:cJ c d with
 |ok r c'=>exact afI I hn h
 |no x=>
  have h1:=I.hL;have h2:=I.al;exact I.of (by omega) I.gr (by show c.al.length<=_;omega) rfl rfl I.held (by show c.held.length+c.bs.length<=_;omega) I.hE ⟨I.Wc.g,λb hb=>by have:=I.en b hb;omega⟩
include a hs
theorem aib(d:bx)(hd:Mz d)(hf:fj d=true):∃M' bs,rH M [ob L.c,d.dat,j9 c]=.ok (j9 (pO c d)) M'/\At M' { L with bs:=bs } (pO c d):=by
 have hc:=a.hc;have h0:=alk a I hs hn d hd hf;unfold pO;cases e:cJ c d with
 |no x=>
  rw[e]at h0;have h0:_=_:=h0;have h1:=Zm e;exact⟨M,L.bs,by simp[rH,KR,hc,aN,fM,h0,h1,kJ],a⟩
 |ok r c'=>
  rw[e]at h0;obtain⟨M',bs,h0,h2⟩:=h0;obtain⟨q1,q2,q3,q4⟩:=aaw e;refine⟨M',bs,?_,h2⟩;have e1:(c'.al.length:Int)=c.al.length+(dGr d:Int):=by omega
  have e2:(c'.bs.length:Int)=c.bs.length+(dBs d:Int):=by omega
  cases hr:kJ .none r with
  |true=>
   obtain⟨z1,z2,z3⟩:=q4 hr;simp[z1,z2,z3]at q1 e1 e2;simp[rH,KR,hc,aN,fM,h0,hr,j9,q1,e1,e2]
  |false=>
   clear q4 q2 q3 e hf hd;cases d<;>simp[ach,dGr,dBs]at q1 e1 e2<;>simp[rH,KR,hc,aN,fM,h0,hr,j9,q1,e1,e2]<;>simp[bx.dat]
end
def MK(f:Int):Int:=if f=9 then -1 else if f=8 then 3 else if f=7 then 2 else if f=6 then 1 else if f=5 then 1 else 0
def MJ(d f:Int):Int:=Ot 0 (if d+MK f < 9 then d+MK f else 9)
def Rx(x f:List Int):List Int:=(x.zip f).map λp=>MJ p.1 p.2
theorem adV(M:Mo)(x0 x1:Option Cell)(acc:List Dat)(d f:Int)(x5:Option Cell)(hf:0<=f/\f < 10)(hl:acc.length < 1000):∃x5',Qi M [x0,x1,some (.mut acc),some (.dat (.int d)),some (.dat (.int f)),x5]=.next [x0,x1,some (.mut (acc++[.int (MJ d f)])),some (.dat (.int d)),some (.dat (.int f)),x5'] M:=by
 have hl2:acc.length < 100000:=by omega
 have key:∀k:Nat,k < 10->([0,0,0,0,0,1,1,2,3,-1]:List Int)[k]?=some (MK k):=by decide
 obtain⟨k,rfl⟩:∃k:Nat,f=k:=⟨f.toNat,by omega⟩;have hk:=key k (by omega);have h2:atI (([0,0,0,0,0,1,1,2,3,-1]:List Int).map PyData.int) (k:Int)=some (.int (MK k)):=atI_nat (by rw[aq9,hk];rfl);refine⟨some (.dat (.int (MK k))),?_⟩;have h3:aY (aF 5) (gOf (aA aV (bF (ak (qC (.int 0)) (ak (qC (.int 0)) (ak (qC (.int 0)) (ak (qC (.int 0)) (ak (qC (.int 0)) (ak (qC (.int 1)) (ak (qC (.int 1)) (ak (qC (.int 2)) (ak (qC (.int 3)) (ak (eX Vc (qC (.int 1))) au))))))))))) (ao 4))) M [x0,x1,some (.mut acc),some (.dat (.int d)),some (.dat (.int k)),x5]=.next [x0,x1,some (.mut acc),some (.dat (.int d)),some (.dat (.int k)),some (.dat (.int (MK k)))] M:=by
  show(((match atI (([0,0,0,0,0,1,1,2,3,-1]:List Int).map PyData.int) (k:Int) with
   |some d=>Out.ok d
   |none=>.bad).at M).then _ λd M'=>_)=_
  rw[h2];rfl
 show aD _ _ _ _=_;rw[aiA,h3];simp[hl2,MJ,Ot]
theorem Vp(M:Mo)(x0 x1:Option Cell):∀(ps:List (Int×Int)) (acc:List Dat) (x3 x4 x5:Option Cell),(∀p∈ps,0<=p.2/\p.2 < 10)->acc.length+ps.length<=500->∃x3' x4' x5',fD (bM [3,4]) Qi (ps.map pD) M [x0,x1,some (.mut acc),x3,x4,x5]=.next [x0,x1,some (.mut (acc++ps.map λp=>.int (MJ p.1 p.2))),x3',x4',x5'] M
 |[],acc,x3,x4,x5,_,_=>⟨x3,x4,x5,by simp[fD]⟩
 |p::ps,acc,x3,x4,x5,h,hl=>by
  rw[ard]at hl;obtain⟨x5',e⟩:=adV M x0 x1 acc p.1 p.2 x5 (h p aq4) (by omega);obtain⟨y3,y4,y5,ih⟩:=Vp M x0 x1 ps (acc++[.int (MJ p.1 p.2)]) (some (.dat (.int p.1))) (some (.dat (.int p.2))) x5' (λq hq=>h q (aq3 _ hq)) (by simp;omega);refine⟨y3,y4,y5,?_⟩;rw[aq1,fW (Z1:=[x0,x1,some (.mut acc),some (.dat (.int p.1)),some (.dat (.int p.2)),x5]) (by simp[pD]) e,ih];simp
theorem ah8(M:Mo)(x f:List Int)(hx:x.length<=100)(hf:∀d∈f,0<=d/\d < 10):Kv M [aM x,lI f]=.ok (aM (Rx x f)):=by obtain⟨y3,y4,y5,e⟩:=Vp M (some (.dat (aM x))) (some (.dat (lI f))) (x.zip f) [] none none none (λp hp=>hf _ (List.of_mem_zip hp).2) (by simp;omega);simp[Kv,XF,Cu,e,Rx]
def Fp(f:List Int)(m:Int)(x:List Int):List Int:=if m < 4 then Rx x f else zH f m
theorem aci(M:Mo)(x f:List Int)(m:Int)(hx:x.length<=100)(hl:f.length<=1000)(hf:∀d∈f,0<=d/\d < 10):wY M [lI f,.int m,aM x]=.ok (aM (Fp f m x)):=by have h1:=ah8 M x f hx hf;have h2:=Wr M f m hl;unfold Fp;by_cases h:m < 4<;>simp[wY,KH,h,h1,h2]
theorem abq{x:List Int}(h:x.length=6)(h2:∀d∈x,0<=d/\d < 10):dB x=true:=by unfold dB;simp only[aqZ,asj,aro];refine⟨h,λd hd=>?_⟩;have:=h2 d hd;omega
theorem acK{x f:List Int}(hx:x.length=6)(hf:f.length=6):dB (Rx x f)=true:=by
 refine abq (by simp[Rx];omega) λd hd=>?_;obtain⟨p,hp,rfl⟩:=arb.mp hd;unfold MJ Ot
 split<;>split<;>omega
theorem acE{f x:List Int}{m:Int}(hx:x.length=6)(hl:f.length=6)(hf:∀d∈f,0<=d/\d < 10):dB (Fp f m x)=true:=by
 unfold Fp;split
 ·exact acK hx hl
 ·refine abq ?_ (afK hf);unfold zH;split
  ·simpa using hl
  ·split
   ·simpa using hl
   ·exact hl
def lG(f many:Int)(sure:Bool):Int:=if sure then 1+f % (if many > 1 then many else 1) else f % (many+2)
theorem YZ(M:Mo)(f many:Int)(sure:Bool)(hm:0<=many):jX M [.int f,.int many,.bool sure]=.ok (.int (lG f many sure)):=by
 have h2:0 < many+2:=by omega
 have h3:0 < (if 1 < many then many else 1):=by split<;>omega
 cases sure
 ·simp[jX,Xx,lG,h2]
 ·simp[jX,Xx,lG,h3]
theorem Cd{f many:Int}{sure:Bool}(hf:0<=f/\f<=1000)(hm:0<=many):nB (lG f many sure)=true:=by
 unfold lG nB;have key:∀m:Int,0 < m->0<=f % m/\f % m<=f:=λm h=>⟨Int.emod_nonneg _ (by omega),by
  have h1:=Int.mul_ediv_add_emod f m;have h2:=Int.mul_nonneg (by omega:0<=m) (Int.ediv_nonneg hf.1 (by omega:0<=m))
  omega⟩
 simp only[aqZ,asj];cases sure
 ·have:=key (many+2) (by omega);simp;omega
 ·have:=key (if many > 1 then many else 1) (by split<;>omega);simp only[if_true];omega
abbrev dd(M:Mo)(w:Str)(one two:Int)(p base:List Int)(n0 n1 n2:Int):Out Dat:=gM M [.str w,.int one,.int two,lI p,.tuple [.int n0,.int n1,.int n2],aM base]
def eV(p:List Int):Bool:=!(p.getD 6 0==9)
def Jg(p base:List Int):List Int:=Fp (p.drop 8) (p.getD 7 0) base
def grT(f:Int):Int:=if f=9 then 8 else if f=8 then 7 else if f=7 then 6 else if f=6 then 5 else if f=5 then 1 else if f=4 then 0 else f
def Hz(p base:List Int):List Int:=if p.getD 7 0 < 6 then[0,0,0,0,0,0] else Jg p base
structure Pts(p base:List Int):Prop where
 len:p.length=14
 dig:∀d∈p,0<=d/\d < 10
 base:base.length=6
theorem alE{p:List Int}(h:p.length=14):∃a b c d e f g i j k l m n o:Int,p=[a,b,c,d,e,f,g,i,j,k,l,m,n,o]:=by
 match p,h with
 |[a,b,c,d,e,f,g,i,j,k,l,m,n,o],_=>exact⟨a,b,c,d,e,f,g,i,j,k,l,m,n,o,rfl⟩
theorem Pts.mark{p base:List Int}(P:Pts p base):dB (Jg p base)=true:=acE P.base (by rw[ar6,P.len]) λd hd=>P.dig d (List.mem_of_mem_drop hd)
theorem Pts.bring{p base:List Int}(P:Pts p base):dB (Hz p base)=true:=by
 unfold Hz;split
 ·decide
 ·exact P.mark
section
variable(M:Mo){p base:List Int}(P:Pts p base)(one two n0 n1 n2:Int)(h0:0<=n0)(h1:0<=n1)(h2:0<=n2)
include P h0 h1 h2
theorem aeP :
  dd M "owner" one two p base n0 n1 n2=.ok (bx.dat (.owner))/\
  dd M "ground" one two p base n0 n1 n2=.ok (bx.dat (.ground (grT (p.getD 7 0)+4 * (if eV p then 0 else 1))))/\
  dd M "enrol" one two p base n0 n1 n2=.ok (bx.dat (.enrol (lG one n0 (eV p)) (lG two n1 (eV p)) (Jg p base)))/\
  dd M "bring" one two p base n0 n1 n2=.ok (bx.dat (.bring (lG one n0 (eV p)) (lG two n1 (eV p)) (Hz p base)))/\
  dd M "leave" one two p base n0 n1 n2=.ok (bx.dat (.leave (lG one n0 (eV p)) (lG two n1 (eV p))))/\
  dd M "heir" one two p base n0 n1 n2=.ok (bx.dat (.heir (lG one n0 (eV p)) (lG two n1 (eV p)) (p.getD 7 0 % 4)))/\
  dd M "pass" one two p base n0 n1 n2=.ok (bx.dat (.pass (lG one n0 (eV p)) (lG two n0 (eV p))))/\
  dd M "unite" one two p base n0 n1 n2=.ok (bx.dat (.uY (lG one n1 (eV p)) (lG two n1 (eV p))))/\
  dd M "part" one two p base n0 n1 n2=.ok (bx.dat (.part (lG one n1 (eV p))))/\
  dd M "tear" one two p base n0 n1 n2=.ok (bx.dat (.tear (lG one n2 (eV p)) (p.getD 7 0 % 6)))/\
  dd M "sell" one two p base n0 n1 n2=.ok (bx.dat (.sell (lG one n2 (eV p)) (lG two n0 (eV p))))/\
  dd M "move" one two p base n0 n1 n2=.ok (bx.dat (.move (lG one n2 (eV p)) (lG two n1 (eV p))))/\
  dd M "bear" one two p base n0 n1 n2=.ok (bx.dat (.bear (lG one n2 (eV p))))/\
  dd M "cut" one two p base n0 n1 n2=.ok (bx.dat (.cut (lG one n2 (eV p))))/\
  dd M "die" one two p base n0 n1 n2=.ok (bx.dat (.die (lG one n2 (eV p)))):=by
 have hm:=aci M base (p.drop 8) (p.getD 7 0) (by rw[P.base];decide) (by rw[ar6,P.len];decide) λd hd=>P.dig d (List.mem_of_mem_drop hd);have hr0:=λf=>YZ M f n0 (eV p) h0;have hr1:=λf=>YZ M f n1 (eV p) h1;have hr2:=λf=>YZ M f n2 (eV p) h2;have hd:=P.dig;have hbr:Hz p base=if p.getD 7 0 < 6 then[0,0,0,0,0,0] else Jg p base:=rfl
 have hmp:Jg p base=Fp (p.drop 8) (p.getD 7 0) base:=rfl;have hsb:eV p=!(p.getD 6 0==9):=rfl;obtain⟨x0,x1,x2,x3,x4,x5,x6,x7,x8,x9,x10,x11,x12,x13,rfl⟩:=alE P.len;generalize hp:[x0,x1,x2,x3,x4,x5,x6,x7,x8,x9,x10,x11,x12,x13]=p at *;have h6:p.getD 6 0=x6:=by rw[←hp];rfl
 have h7:p.getD 7 0=x7:=by rw[←hp];rfl
 have h8:p.drop 8=[x8,x9,x10,x11,x12,x13]:=by rw[←hp];rfl
 have hx7:=hd x7 (by rw[←hp];simp);rw[h7,h8]at hm hmp;rw[h7]at hbr;rw[h6]at hsb;simp only[h7];generalize eV p=su at *;generalize Jg p base=mk at *;generalize Hz p base=br at *;have c1:Rf.cutD (p.map PyData.int) (some 8) (some 14)=[PyData.int x8,.int x9,.int x10,.int x11,.int x12,.int x13]:=by rw[←hp];rfl
 have c2:atI (p.map PyData.int) 7=some (.int x7):=by rw[←hp];rfl
 have c3:atI (p.map PyData.int) 6=some (.int x6):=by rw[←hp];rfl
 have hm:wY M [.list [PyData.int x8,.int x9,.int x10,.int x11,.int x12,.int x13],.int x7,aM base]=.ok (aM mk):=by rw[hmp];exact hm
 have key:∀k:Nat,k < 10->([0,1,2,3,0,1,5,6,7,8]:List Int)[k]?=some (grT k):=by decide
 have hk:atI (([0,1,2,3,0,1,5,6,7,8]:List Int).map PyData.int) x7=some (.int (grT x7)):=by obtain⟨k,rfl⟩:∃k:Nat,x7=k:=⟨x7.toNat,by omega⟩;exact atI_nat (by rw[aq9,key k (by omega)];rfl)
 simp at hk;have hm4:∀z,decide (CMul 4 z)=true:=λz=>agh (by decide);clear hp hd P;refine⟨?_,?_,?_,?_,?_,?_,?_,?_,?_,?_,?_,?_,?_,?_,?_⟩
 ·simp[dd,gM,j6,c1,c2,c3,hm,←hsb,hr0,hr1,hr2,bx.dat]
 ·cases su<;>simp[dd,gM,j6,c1,c2,c3,hm,←hsb,hk,hm4,Rf.intD,bx.dat]
 ·simp[dd,gM,j6,c1,c2,c3,hm,←hsb,hr0,hr1,hr2,bx.dat]
 ·by_cases h76:x7 < 6
  ·rw[if_pos h76]at hbr;simp[dd,gM,j6,c1,c2,c3,hm,←hsb,hr0,hr1,hr2,bx.dat,h76,hbr]
  ·rw[if_neg h76]at hbr;simp[dd,gM,j6,c1,c2,c3,hm,←hsb,hr0,hr1,hr2,bx.dat,h76,hbr]
 ·simp[dd,gM,j6,c1,c2,c3,hm,←hsb,hr0,hr1,hr2,bx.dat]
 ·simp[dd,gM,j6,c1,c2,c3,hm,←hsb,hr0,hr1,hr2,bx.dat]
 ·simp[dd,gM,j6,c1,c2,c3,hm,←hsb,hr0,hr1,hr2,bx.dat]
 ·simp[dd,gM,j6,c1,c2,c3,hm,←hsb,hr0,hr1,hr2,bx.dat]
 ·simp[dd,gM,j6,c1,c2,c3,hm,←hsb,hr0,hr1,hr2,bx.dat]
 ·simp[dd,gM,j6,c1,c2,c3,hm,←hsb,hr0,hr1,hr2,bx.dat]
 ·simp[dd,gM,j6,c1,c2,c3,hm,←hsb,hr0,hr1,hr2,bx.dat]
 ·simp[dd,gM,j6,c1,c2,c3,hm,←hsb,hr0,hr1,hr2,bx.dat]
 ·simp[dd,gM,j6,c1,c2,c3,hm,←hsb,hr0,hr1,hr2,bx.dat]
 ·simp[dd,gM,j6,c1,c2,c3,hm,←hsb,hr0,hr1,hr2,bx.dat]
 ·simp[dd,gM,j6,c1,c2,c3,hm,←hsb,hr0,hr1,hr2,bx.dat]
theorem Z8{w:Str}(hw:w∈(["owner","ground","enrol","bring","leave","heir","pass","unite","part","tear","sell","move","bear","cut","die"]:List Str))(ho:0<=one/\one<=1000)(ht:0<=two/\two<=1000):∃d:bx,gM M [.str w,.int one,.int two,lI p,.tuple [.int n0,.int n1,.int n2],aM base]=.ok d.dat/\fj d=true/\Mz d:=by
 have r10:=Cd (f:=one) (sure:=eV p) ho h0;have r11:=Cd (f:=one) (sure:=eV p) ho h1;have r12:=Cd (f:=one) (sure:=eV p) ho h2;have r20:=Cd (f:=two) (sure:=eV p) ht h0;have r21:=Cd (f:=two) (sure:=eV p) ht h1;have r22:=Cd (f:=two) (sure:=eV p) ht h2;have m1:=P.mark;have m2:=P.bring;have l1:(Jg p base).length<=1000:=by rw[fJ m1];decide
 have l2:(Hz p base).length<=1000:=by rw[fJ m2];decide
 have h7:0<=p.getD 7 0/\p.getD 7 0 < 10:=P.dig _ (by
  have:=P.len;rw[List.getD_eq_getElem?_getD,aq0 (by omega)];exact arO _)
 have q4:nB (p.getD 7 0 % 4)=true:=by unfold nB;simp only[aqZ,asj];omega
 have q6:Yt (p.getD 7 0 % 6)=true:=by unfold Yt;simp only[aqZ,asj];omega
 have qg:nB (grT (p.getD 7 0)+4 * (if eV p then 0 else 1))=true:=by
  unfold nB grT;simp only[aqZ,asj]
  split<;>(repeat' split)<;>omega
 simp only[arh,arF,or_false]at hw;obtain⟨d0,d1,d2,d3,d4,d5,d6,d7,d8,d9,d10,d11,d12,d13,d14⟩:=aeP M P one two n0 n1 n2 h0 h1 h2;rcases hw with rfl|rfl|rfl|rfl|rfl|rfl|rfl|rfl|rfl|rfl|rfl|rfl|rfl|rfl|rfl
 ·exact⟨_,d0,by simp[fj,r10,r11,r12,r20,r21,r22,m1,m2,q4,q6,-List.getD_eq_getElem?_getD],by first | trivial | assumption⟩
 ·exact⟨_,d1,qg,by first | trivial | assumption⟩
 ·exact⟨_,d2,by simp[fj,r10,r11,r12,r20,r21,r22,m1,m2,q4,q6,-List.getD_eq_getElem?_getD],by first | trivial | assumption⟩
 ·exact⟨_,d3,by simp[fj,r10,r11,r12,r20,r21,r22,m1,m2,q4,q6,-List.getD_eq_getElem?_getD],by first | trivial | assumption⟩
 ·exact⟨_,d4,by simp[fj,r10,r11,r12,r20,r21,r22,m1,m2,q4,q6,-List.getD_eq_getElem?_getD],by first | trivial | assumption⟩
 ·exact⟨_,d5,by simp[fj,r10,r11,r12,r20,r21,r22,m1,m2,q4,q6,-List.getD_eq_getElem?_getD],by first | trivial | assumption⟩
 ·exact⟨_,d6,by simp[fj,r10,r11,r12,r20,r21,r22,m1,m2,q4,q6,-List.getD_eq_getElem?_getD],by first | trivial | assumption⟩
 ·exact⟨_,d7,by simp[fj,r10,r11,r12,r20,r21,r22,m1,m2,q4,q6,-List.getD_eq_getElem?_getD],by first | trivial | assumption⟩
 ·exact⟨_,d8,by simp[fj,r10,r11,r12,r20,r21,r22,m1,m2,q4,q6,-List.getD_eq_getElem?_getD],by first | trivial | assumption⟩
 ·exact⟨_,d9,by simp[fj,r10,r11,r12,r20,r21,r22,m1,m2,q4,q6,-List.getD_eq_getElem?_getD],by first | trivial | assumption⟩
 ·exact⟨_,d10,by simp[fj,r10,r11,r12,r20,r21,r22,m1,m2,q4,q6,-List.getD_eq_getElem?_getD],by first | trivial | assumption⟩
 ·exact⟨_,d11,by simp[fj,r10,r11,r12,r20,r21,r22,m1,m2,q4,q6,-List.getD_eq_getElem?_getD],by first | trivial | assumption⟩
 ·exact⟨_,d12,by simp[fj,r10,r11,r12,r20,r21,r22,m1,m2,q4,q6,-List.getD_eq_getElem?_getD],by first | trivial | assumption⟩
 ·exact⟨_,d13,by simp[fj,r10,r11,r12,r20,r21,r22,m1,m2,q4,q6,-List.getD_eq_getElem?_getD],by first | trivial | assumption⟩
 ·exact⟨_,d14,by simp[fj,r10,r11,r12,r20,r21,r22,m1,m2,q4,q6,-List.getD_eq_getElem?_getD],by first | trivial | assumption⟩
end
abbrev words:List Str:=["owner","ground","enrol","bring","leave","heir","pass","unite","part","tear","sell","move","bear","cut","die"]
def V5:List Str:=["tear","cut","bring","sell","move","enrol","bear","tear","cut","sell","move","unite","part","heir","pass","die","leave","ground","owner","enrol","tear","sell","bring","bear","cut"]
theorem aik(M:Mo)(f:Int):∃w∈words,Ag M [.int f]=.ok (.str w):=by
 have h1:0<=f % 25/\f % 25 < 25:=by omega
 obtain⟨k,hk⟩:∃k:Nat,f % 25=k:=⟨(f % 25).toNat,by omega⟩;have hl:k < V5.length:=by show k < 25;omega
 have h2:atI (V5.map PyData.str) (k:Int)=some (.str V5[k]):=atI_nat (by rw[aq9,aq0 hl];rfl);have h3:∀w∈V5,w∈words:=by simp[V5]
 refine⟨V5[k],h3 _ (arO hl),?_⟩;generalize V5[k]=z at h2;simp[V5]at h2;simp[Ag,Ld,hk,h2]
def yC(h:Int):List (Str×Int×Int):=if h % 8=7 then[] else[("ground",0,0),("owner",0,0),("owner",0,0),("enrol",0,0),("enrol",1,0),("bring",0,0),("cut",0,0),("bring",1,0),("cut",1,0),("ground",0,0),("enrol",0,1)]
def Ju(r:Str×Int×Int):Dat:=.tuple [.str r.1,.int r.2.1,.int r.2.2]
theorem aeC(M:Mo)(h:Int):vC M [.int h]=.ok (.list ((yC h).map Ju)):=by unfold yC;by_cases e:h % 8=7<;>simp[vC,EY,e,Ju]
theorem aia{h:Int}:∀r∈yC h,r.1∈words/\(0<=r.2.1/\r.2.1<=1000)/\0<=r.2.2/\r.2.2<=1000:=by
 unfold yC;split
 ·simp
 ·simp
inductive JD:Nat->aH->Prop where
 |nil:JD 0 ⟨0,[],[],[],[],[]⟩
 |step {n:Nat} {c:aH} (d:bx):JD n c->fj d=true->JD (n+1) (pO c d)
 |le {n m:Nat} {c:aH}:JD n c->n<=m->JD m c
theorem Inv.mono{n s n' s':Nat}{c:aH}(I:Inv n s c)(h1:n<=n')(h2:s<=s'):Inv n' s' c:=
 I.of h1 I.gr (arw I.al h1) rfl rfl I.held (arw I.hL h2) I.hE ⟨I.Wc.g,λb hb=>by have:=I.en b hb;omega⟩
theorem abB(d:bx):cost d<=1:=by cases d<;>simp[cost]
theorem aju:Inv 0 0 ⟨0,[],[],[],[],[]⟩:=⟨⟨rfl,by simp,by simp,by simp,by simp,by simp,by simp⟩,by simp,by simp,by simp,by simp,by simp,by simp,by simp,by simp,by simp,by simp,by simp,by simp⟩
structure Now(M:Mo)(L:Lay)(n s:Nat)(c:aH):Prop where
 at_:At M L c
 inv:Inv n s c
 rch:JD n c
theorem Now.done{M:Mo}{L:Lay}{n s:Nat}{c:aH}(N:Now M L n s c)(hs:s<=76)(hn:n<=199)(d:bx)(hd:Mz d)(hf:fj d=true):∃M' bs,rH M [ob L.c,d.dat,j9 c]=.ok (j9 (pO c d)) M'/\Now M' { L with bs:=bs } (n+1) (s+cost d) (pO c d):=by obtain⟨M',bs,h1,h2⟩:=aib N.at_ N.inv hs hn d hd hf;exact⟨M',bs,h1,h2,YC N.inv d hn,.step d N.rch hf⟩
theorem ahE(x:Int){base:List Int}(h:base.length=6):Pts (rowOf x 14 10) base:=⟨abv ..,ac8 (by decide) _ _,h⟩
theorem Hj(x:Int)(k:Nat)(h:k < 14):atI ((rowOf x 14 10).map PyData.int) (k:Int)=some (.int ((rowOf x 14 10).getD k 0))/\0<=(rowOf x 14 10).getD k 0/\(rowOf x 14 10).getD k 0<=9:=by
 have hl:k < (rowOf x 14 10).length:=by rw[abv];exact h
 refine⟨Ys _ k hl,?_⟩;rw[List.getD_eq_getElem?_getD,aq0 hl];have:=ac8 (by decide) x 14 _ (arO hl);simp;omega
theorem aey{M:Mo}{L:Lay}{n s:Nat}{c:aH}(N:Now M L n s c)(hs:s<=76)(hn:n<=199)(x1:Option Cell)(head:Int)(base:List Int)(hb:base.length=6)(i:Nat)(x:Int)(x8 x9 x10 x11 x12:Option Cell) :
  ∃d M' bs y8 y9 y10 y11,fj d=true/\Dc M [some (.dat (ob L.c)),x1,some (.dat (.int head)),some (.dat (j9 c)),some (.dat (aM base)),some (.dat (.list ((yC head).map Ju))),some (.dat (.int i)),some (.dat (.int x)),x8,x9,x10,x11,x12]=.next [some (.dat (ob L.c)),x1,some (.dat (.int head)),some (.dat (j9 (pO c d))),some (.dat (aM base)),some (.dat (.list ((yC head).map Ju))),some (.dat (.int i)),some (.dat (.int x)),y8,y9,y10,y11,x12] M'/\Now M' { L with bs:=bs } (n+1) (s+cost d) (pO c d):=by
 have h1:BR M [.int x,.int 14,.int 10]=.ok (lI (rowOf x 14 10)):=adK M x 14 10 (by decide) (by decide) (by decide);have P:=ahE x hb;obtain⟨r0,q0,q0'⟩:=Hj x 0 (by decide);obtain⟨r1,q1,q1'⟩:=Hj x 1 (by decide);obtain⟨r2,q2,q2'⟩:=Hj x 2 (by decide);obtain⟨r3,q3,q3'⟩:=Hj x 3 (by decide);obtain⟨r4,q4,q4'⟩:=Hj x 4 (by decide);obtain⟨r5,q5,q5'⟩:=Hj x 5 (by decide);generalize rowOf x 14 10=p at *;generalize p.getD 0 0=d0 at *;generalize p.getD 1 0=d1 at *;generalize p.getD 2 0=d2 at *;generalize p.getD 3 0=d3 at *;generalize p.getD 4 0=d4 at *;generalize p.getD 5 0=d5 at *;obtain⟨w,hw,h2⟩:=aik M (d0 * 10+d1);have hm:∀z,decide (CMul z 10)=true:=λz=>mul_r (by decide);have c0:=N.inv.cnt.1;simp only[Int.natCast_zero,Int.natCast_one,show((2:Nat):Int)=2 from rfl,show((3:Nat):Int)=3 from rfl,show((4:Nat):Int)=4 from rfl,show((5:Nat):Int)=5 from rfl]at r0 r1 r2 r3 r4 r5;by_cases hi:i < (yC head).length
 ·have hi':(i:Int) < (yC head).length:=by omega
  have g:=aq0 hi;obtain⟨b1,b2,b3⟩:=aia _ (arO hi);generalize (yC head)[i]=b at *;obtain⟨d,e1,e2,e3⟩:=Z8 M P b.2.1 b.2.2 c.count c.al.length c.bs.length c0 (by omega) (by omega) b1 b2 b3;obtain⟨M',bs,e4,e5⟩:=N.done hs hn d e3 e2;refine⟨d,M',bs,some (.dat (lI p)),some (.dat (.str b.1)),some (.dat (.int b.2.1)),some (.dat (.int b.2.2)),e2,?_,e5⟩;have e1:gM M [.str b.1,.int b.2.1,.int b.2.2,lI p,j9 c,aM base]=.ok d.dat:=e1;simp[Dc,h1,r0,r1,r2,r3,r4,r5,hm,h2,hi',g];simp[Ju,e1,e4]
 ·have hi':¬(i:Int) < (yC head).length:=by omega
  obtain⟨d,e1,e2,e3⟩:=Z8 M P (d2 * 10+d3) (d4 * 10+d5) c.count c.al.length c.bs.length c0 (by omega) (by omega) hw (by omega) (by omega);obtain⟨M',bs,e4,e5⟩:=N.done hs hn d e3 e2;refine⟨d,M',bs,some (.dat (lI p)),some (.dat (.str w)),some (.dat (.int (d2 * 10+d3))),some (.dat (.int (d4 * 10+d5))),e2,?_,e5⟩;have e1:gM M [.str w,.int (d2 * 10+d3),.int (d4 * 10+d5),lI p,j9 c,aM base]=.ok d.dat:=e1;simp[Dc,h1,r0,r1,r2,r3,r4,r5,hm,h2,hi'];simp[e1,e4]
theorem Vi(x1:Option Cell)(head:Int)(base:List Int)(hb:base.length=6)(x12:Option Cell):∀(xs:List (Nat×Int)) (M:Mo) (L:Lay) (n:Nat) (c:aH) (x6 x7 x8 x9 x10 x11:Option Cell),Now M L n n c->n+xs.length<=76->
  ∃c' M' bs y6 y7 y8 y9 y10 y11,fD (bM [6,7]) Dc (xs.map λq=>PyData.tuple [.int q.1,.int q.2]) M [some (.dat (ob L.c)),x1,some (.dat (.int head)),some (.dat (j9 c)),some (.dat (aM base)),some (.dat (.list ((yC head).map Ju))),x6,x7,x8,x9,x10,x11,x12]=.next [some (.dat (ob L.c)),x1,some (.dat (.int head)),some (.dat (j9 c')),some (.dat (aM base)),some (.dat (.list ((yC head).map Ju))),y6,y7,y8,y9,y10,y11,x12] M'/\Now M' { L with bs:=bs } (n+xs.length) (n+xs.length) c'
 |[],M,L,n,c,x6,x7,x8,x9,x10,x11,N,_=>⟨c,M,L.bs,x6,x7,x8,x9,x10,x11,rfl,N⟩
 |q::xs,M,L,n,c,x6,x7,x8,x9,x10,x11,N,hl=>by
  rw[ard]at hl;obtain⟨d,M1,bs,y8,y9,y10,y11,h0,h1,N1⟩:=aey N (by omega) (by omega) x1 head base hb q.1 q.2 x8 x9 x10 x11 x12;have N1:Now M1 { L with bs:=bs } (n+1) (n+1) (pO c d):=⟨N1.at_,N1.inv.mono (arq _) (by have:=abB d;omega),N1.rch⟩;obtain⟨c',M',bs',z6,z7,z8,z9,z10,z11,h2,N2⟩:=Vi x1 head base hb x12 xs M1 { L with bs:=bs } (n+1) (pO c d) (some (.dat (.int q.1))) (some (.dat (.int q.2))) y8 y9 y10 y11 N1 (by omega);refine⟨c',M',bs',z6,z7,z8,z9,z10,z11,?_,?_⟩
  ·rw[aq1,fW (Z1:=[some (.dat (ob L.c)),x1,some (.dat (.int head)),some (.dat (j9 c)),some (.dat (aM base)),some (.dat (.list ((yC head).map Ju))),some (.dat (.int q.1)),some (.dat (.int q.2)),x8,x9,x10,x11,x12]) (by simp) h1];exact h2
  ·rw[ard,show n+(xs.length+1)=n+1+xs.length by omega];exact N2
theorem acf{M:Mo}{L:Lay}{n s:Nat}{c:aH}(N:Now M L n s c)(hs:s<=75)(hn:n<=198)(x1 x2 x4 x5 x6 x7 x8 x9 x10 x11 x12:Option Cell) :
  ∃c' M' bs,Je M [some (.dat (ob L.c)),x1,x2,some (.dat (j9 c)),x4,x5,x6,x7,x8,x9,x10,x11,x12]=.next [some (.dat (ob L.c)),x1,x2,some (.dat (j9 c')),x4,x5,x6,x7,x8,x9,x10,x11,x12] M'/\Now M' { L with bs:=bs } (n+2) (s+1) c':=by
 obtain⟨M1,bs1,h1,N1⟩:=N.done (by omega) (by omega) (.bring 1 1 [0,0,0,0,0,0]) (by simp[Mz]) (by decide);have hl:=N1.inv.hL;have hc:cost (.bring 1 1 [0,0,0,0,0,0])=1:=rfl;generalize pO c (.bring 1 1 [0,0,0,0,0,0])=c1 at *;obtain⟨M2,bs2,h2,N2⟩:=N1.done (by omega) (by omega) (.cut c1.bs.length) trivial (by simp only[fj,nB,aqZ,asj];omega);refine⟨_,M2,bs2,?_,N2.at_,N2.inv,N2.rch⟩;have h1:rH M [ob L.c,.tuple [.str "bring",.int 1,.int 1,.tuple [.int 0,.int 0,.int 0,.int 0,.int 0,.int 0]],j9 c]=.ok (j9 c1) M1:=h1
 have h2:rH M1 [ob L.c,.tuple [.str "cut",.int c1.bs.length],j9 c1]=_:=h2
 simp[Je,h1];have e:atI [PyData.int c1.count,.int c1.al.length,.int c1.bs.length] 2=some (.int c1.bs.length):=rfl;simp[j9]at h2 ⊢;simp[h2]
theorem RJ(x1 x2 x4 x5 x6 x7 x8 x9 x10 x11:Option Cell):∀(xs:List Dat) (M:Mo) (L:Lay) (n s:Nat) (c:aH) (x12:Option Cell),Now M L n s c->n+2 * xs.length<=198->s+xs.length<=75->
  ∃c' M' bs y12,fD (aF 12) Je xs M [some (.dat (ob L.c)),x1,x2,some (.dat (j9 c)),x4,x5,x6,x7,x8,x9,x10,x11,x12]=.next [some (.dat (ob L.c)),x1,x2,some (.dat (j9 c')),x4,x5,x6,x7,x8,x9,x10,x11,y12] M'/\Now M' { L with bs:=bs } (n+2 * xs.length) (s+xs.length) c'
 |[],M,L,n,s,c,x12,N,_,_=>⟨c,M,L.bs,x12,rfl,N⟩
 |q::xs,M,L,n,s,c,x12,N,h1,h2=>by
  rw[ard]at h1 h2;obtain⟨c1,M1,bs1,e1,N1⟩:=acf N (by omega) (by omega) x1 x2 x4 x5 x6 x7 x8 x9 x10 x11 (some (.dat q));obtain⟨c',M',bs',y12,e2,N2⟩:=RJ x1 x2 x4 x5 x6 x7 x8 x9 x10 x11 xs M1 { L with bs:=bs1 } (n+2) (s+1) c1 (some (.dat q)) N1 (by omega) (by omega);refine⟨c',M',bs',y12,?_,?_⟩
  ·rw[fW (Z1:=[some (.dat (ob L.c)),x1,x2,some (.dat (j9 c)),x4,x5,x6,x7,x8,x9,x10,x11,some (.dat q)]) (by simp) e1];exact e2
  ·rw[ard,show n+2 * (xs.length+1)=n+2+2 * xs.length by omega,show s+(xs.length+1)=s+1+xs.length by omega];exact N2
def Ui:aH:=⟨0,[],[],[],[],[]⟩
theorem aip{M:Mo}{L:Lay}(a:At M L Ui)(cells:List Int)(hl:cells.length<=43)(head:Int):∃c M' L',L'.c=L.c/\Gv M [ob L.c,lI cells,.int head]=.ok (j9 c) M'/\Now M' L' 99 71 c:=by
 have hb:=adb (head / 512);have h1:=ajI M (head / 512);have h2:=aeC M head;have N0:Now M L 0 0 Ui:=⟨a,aju,.nil⟩;have hen:sV 0 (cells.map PyData.int)=(cells.mapIdx λi x=>(i,x)).map λ(q:Nat×Int)=>PyData.tuple [.int q.1,.int q.2]:=by unfold sV;apply arv;intro i;simp;cases cells[i]?<;>simp
 obtain⟨c1,M1,bs1,y6,y7,y8,y9,y10,y11,e1,N1⟩:=Vi (some (.dat (lI cells))) head (Np (head / 512)) hb none (cells.mapIdx λi x=>(i,x)) M L 0 Ui none none none none none none N0 (by simp;omega);simp only[List.length_mapIdx,Nat.zero_add]at N1;have hd:∀z,decide (CDiv z 512)=true:=λz=>decide_eq_true ⟨by decide,by decide⟩;have hd8:∀z,decide (CDiv z 8)=true:=λz=>decide_eq_true ⟨by decide,by decide⟩;have hd64:∀z,decide (CDiv z 64)=true:=λz=>decide_eq_true ⟨by decide,by decide⟩;have hm:∀z,decide (CMul z 4)=true:=λz=>mul_r (by decide);have z0:j9 Ui=.tuple [.int 0,.int 0,.int 0]:=rfl;rw[z0]at e1;by_cases hh:head / 8 % 8=1
 ·obtain⟨k,hk,hk2⟩:∃k:Nat,head / 64 % 8 * 4=k/\k<=28:=⟨(head / 64 % 8 * 4).toNat,by omega,by omega⟩;obtain⟨c2,M2,bs2,y12,e2,N2⟩:=RJ (some (.dat (lI cells))) (some (.dat (.int head))) (some (.dat (aM (Np (head / 512))))) (some (.dat (.list ((yC head).map Ju)))) y6 y7 y8 y9 y10 y11 (fH 0 k) M1 { L with bs:=bs1 } cells.length cells.length c1 none N1 (by simp[fH];omega) (by simp[fH];omega);refine⟨c2,M2,{ L with bs:=bs2 },rfl,?_,N2.at_,N2.inv.mono (by simp[fH];omega) (by simp[fH];omega),N2.rch.le (by simp[fH];omega)⟩;have k1:(k:Int)<=100000:=by omega
  have k2 : -100000<=(k:Int):=by omega
  simp[Gv,Q8,hd,h1,h2,hen,e1,hd8,hh,hd64,hm,hk,k1,k2,e2]
 ·refine⟨c1,M1,{ L with bs:=bs1 },rfl,?_,N1.at_,N1.inv.mono (by omega) (by omega),N1.rch.le (by omega)⟩;simp[Gv,Q8,hd,h1,h2,hen,e1,hd8,hh]
def L0:Lay:=⟨0,2,5,7,[],[]⟩
theorem anu:∃M L,L.c=0/\pQ [⟨"Commons",[]⟩] [ob 0]=.ok .none M/\At M L Ui:=by refine⟨_,L0,rfl,by simp[pQ,zm,kW,uM,yX,vO,Ar,zL,Fb];rfl,?_⟩;exact⟨rfl,⟨_,_,rfl⟩,rfl,⟨_,rfl⟩,rfl,λi h b z _=>(by cases z),by decide,λp hp=>(by cases hp)⟩
theorem adz(n:Nat)(x:List Int):lk (n+1) (aM x)=true:=by show lk (n+1) (.tuple (x.map PyData.int))=true;rw[lk];exact ae5 n x
theorem aiV(n:Nat)(x:Option (List Int)):lk (n+1) (nH x)=true:=by
 cases x with
 |none=>rw[nH,lk]
 |some e=>exact adz n e
theorem alz(n:Nat)(f:Fi):lk (n+2) f.dat=true:=by cases f<;>simp[Fi.dat,lk,K7]
theorem amm(n:Nat)(e:En):lk (n+2) e.dat=true:=by cases e<;>simp[En.dat,lk,K7]
theorem ahu{M:Mo}{L:Lay}{c:aH}{n s:Nat}(a:At M L c)(I:Inv n s c)(hs:s<=1000):nu M [ob L.c]=.ok (lu c):=by have:=I.hL;exact ag6 a I.gr (by omega) (by omega)
theorem ais(l:List Int)(lo hi:Option Int):Rf.cutD (l.map PyData.int) lo hi=(Rf.cutD l lo hi).map PyData.int:=by unfold Rf.cutD;rw[ara,List.map_take,List.map_drop]
theorem ahC{α:Type}(l:List α)(a b:Nat)(h:a<=b):(Rf.cutD l (some (a:Int)) (some (b:Int))).length<=b - a:=by unfold Rf.cutD;rw[HT.sIx_nat,HT.sIx_nat,List.length_take];omega
def pJ(c:aH)(lo g:Int)(r:Rw):Prop:=(r.1,g,r.2)∈c.held∨∃(i:Nat) (b:bV),c.bs[i]?=some b/\b.sd.al=true/\b.sd.due=some r.2/\b.sd.o=r.1/\b.sd.g=g/\(i:Int)+1≠lo
theorem pJ.all{c:aH}{lo g:Int}{r:Rw}(h:pJ c lo g r):pJ c 0 g r:=h.imp id λ⟨i,b,h1,h2,h3,h4,h5,_⟩=>⟨i,b,h1,h2,h3,h4,h5,by omega⟩
theorem af4{c:aH}{lo:Int}{near:List Int}{r:Rw}:r∈inR c near++Xy c lo near↔∃g∈near,pJ c lo g r:=by
 constructor
 ·intro h;rcases aq8.mp h with h|h
  ·obtain⟨g,h1,h2⟩:=Ua h;exact⟨g,h2,.inl h1⟩
  ·obtain⟨i,b,h1,h2,h3,h4,h5,h6⟩:=PL h;exact⟨b.sd.g,h5,.inr ⟨i,b,h1,h4,h3,h2,rfl,h6⟩⟩
 ·rintro⟨g,hg,h|⟨i,b,h1,h2,h3,h4,h5,h6⟩⟩
  ·exact arD _ (arb.mpr ⟨_,arn.mpr ⟨h,by simpa using hg⟩,rfl⟩)
  ·refine arM _ (arb.mpr ⟨(i,b),arn.mpr ⟨?_,?_⟩,?_⟩)
   ·obtain⟨hi,e⟩:=aqY.mp h1;exact List.mem_mapIdx.mpr ⟨i,hi,by rw[e]⟩
   ·have h6':((i:Int)+1==lo)=false:=by simpa using h6
    subst h5;simp[h3,h2,hg,h6']
   ·simp[h3,h4]
theorem Mr{c:aH}{lo x:Int}{r:Rw}:r∈fG c lo x↔∃g∈aJ c x,pJ c lo g r:=af4
def NM(c:aH):Prop:=∀x,Vg c x->∀g∈aJ c x,∀h∈aJ c x,∀r s,pJ c 0 g r->pJ c 0 h s->r.1≠s.1->roomOf c x < iD r.2 s.2
theorem NM.map{c c':aH}(N:NM c)(h1:c'.al=c.al)(h2:c'.ci=c.ci)(f:Int->Int)(h:∀g r,pJ c' 0 g r->∃o,pJ c 0 g (o,r.2)/\r.1=f o):NM c':=λx hx g hg k hk r s hr hs ne=>by
 have e1:aJ c' x=aJ c x:=by simp[aJ,h2]
 have e0:oF c'=oF c:=by funext y;simp[oF,h1]
 have e2:roomOf c' x=roomOf c x:=by unfold roomOf;rw[e1,e0]
 have hx:Vg c x:=by unfold Vg at *;rw[←h1];exact hx
 rw[e1]at hg hk;obtain⟨o,a1,a2⟩:=h g r hr;obtain⟨p,b1,b2⟩:=h k s hs;rw[e2];exact N x hx g hg k hk (o,r.2) (p,s.2) a1 b1 λz=>ne (by rw[a2,b2];exact congrArg f z)
theorem NM.sub{c c':aH}(N:NM c)(h1:c'.al=c.al)(h2:c'.ci=c.ci)(h:∀g r,pJ c' 0 g r->pJ c 0 g r):NM c':=N.map h1 h2 id λg r hr=>⟨r.1,h g r hr,rfl⟩
theorem NM.add{c c':aH}(N:NM c)(i:dh c)(h1:c'.al=c.al)(h2:c'.ci=c.ci){lo g0 o:Int}{m:List Int}(hg0:Vg c g0)(h:∀g r,pJ c' 0 g r->pJ c lo g r∨(g=g0/\r=(o,m)))(hb:∀r∈fG c lo g0,r.1≠o->roomOf c g0 < iD m r.2):NM c':=λx hx g hg k hk r s hr hs ne=>by
 have e1:aJ c' x=aJ c x:=by simp[aJ,h2]
 have e0:oF c'=oF c:=by funext y;simp[oF,h1]
 have e2:roomOf c' x=roomOf c x:=by unfold roomOf;rw[e1,e0]
 have hx:Vg c x:=by unfold Vg at *;rw[←h1];exact hx
 rw[e1]at hg hk;rw[e2];have one:∀k,k∈aJ c x->g0∈aJ c x->∀s:Rw,pJ c lo k s->s.1≠o->roomOf c x < iD m s.2:=λk hk hg0 s hs ne=>by
  have e:=i.eq hx hg0;have e3:roomOf c x=roomOf c g0:=by unfold roomOf;rw[e]
  rw[e3];exact hb s (Mr.mpr ⟨k,by rw[e];exact hk,hs⟩) ne
 rcases h g r hr with a|⟨rfl,rfl⟩
 ·rcases h k s hs with b|⟨rfl,rfl⟩
  ·exact N x hx g hg k hk r s a.all b.all ne
  ·rw[QJ];exact one g hg hk r a ne
 ·rcases h k s hs with b|⟨_,rfl⟩
  ·exact one k hk hg s b λz=>ne z.symm
  ·exact absurd rfl ne
theorem HY{o:Int}{e:List Int}{R:List Rw}{room:Int}(h:wz o e (bR R) room=[]):∀r∈R,r.1≠o->room < iD e r.2:=λr hr ne=>by
 unfold wz at h;have:=List.filter_eq_nil_iff.mp h r (fU.mpr (fU.mpr hr));simp[ne]at this;exact this
theorem Im{o room:Int}{e:List Int}{R:List Rw}{x:Res}{d:Dat}{c':aH}(h:xR o e R room x=.ok d c'):wz o e (bR R) room=[]:=by
 unfold xR at h;split at h
 ·assumption
 ·cases h
theorem ahF{l:List Int}{m:Int}(hne:l≠[])(h:∀a∈l,a<=m):acF l<=m:=by
 cases l with
 |nil=>exact absurd rfl hne
 |cons n ns=>exact h _ (Ek ns n).1
theorem agN{l:List Int}{a:Int}(h:a∈l):a<=acF l:=by
 cases l with
 |nil=>cases h
 |cons n ns=>exact(Ek ns n).2 a h
theorem aaQ{c:aH}{x m:Int}(hx:x∈aJ c x)(h:∀y∈aJ c x,oF c y<=m):roomOf c x<=m:=ahF (λz=>by rw[List.map_eq_nil_iff.mp z]at hx;cases hx) λa ha=>by
 obtain⟨y,hy,rfl⟩:=arb.mp ha;exact h y hy
theorem agA{c:aH}{x y:Int}(hy:y∈aJ c x):oF c y<=roomOf c x:=agN (arb.mpr ⟨y,hy,rfl⟩)
theorem NM.finer{c c':aH}(N:NM c)(h1:c'.al=c.al)(hh:c'.held=c.held)(hbs:c'.bs=c.bs)(hs:∀x,Vg c x->x∈aJ c' x/\∀y∈aJ c' x,y∈aJ c x):NM c':=λx hx g hg k hk r s hr hs' ne=>by
 have hx:Vg c x:=by unfold Vg at *;rw[←h1];exact hx
 obtain⟨a,b⟩:=hs x hx;have e:∀g r,pJ c' 0 g r->pJ c 0 g r:=λg r h=>by unfold pJ at *;rw[←hh,←hbs];exact h
 have:=N x hx g (b g hg) k (b k hk) r s (e g r hr) (e k s hs') ne;have:roomOf c' x<=roomOf c x:=aaQ a λy hy=>by
  have e2:oF c' y=oF c y:=by simp[oF,h1]
  rw[e2];exact agA (b y hy)
 omega
theorem Vz{T:List Rw}{room:Int}(h:jT T room=[]):∀(i j:Nat) (r s:Rw),i < j->T[i]?=some r->T[j]?=some s->r.1≠s.1->room < iD r.2 s.2:=λi j r s lt hr hs ne=>by
 unfold jT at h;rw[List.flatMap_eq_nil_iff]at h;obtain⟨hi,e⟩:=aqY.mp hr;have h1:=h (i,r) (List.mem_mapIdx.mpr ⟨i,hi,by rw[e]⟩);have h2:=List.filter_eq_nil_iff.mp (List.map_eq_nil_iff.mp h1) s (aq2 (i:=j - (i+1)) (by rw[List.getElem?_drop,show i+1+(j - (i+1))=j by omega];exact hs));have ne':(r.1==s.1)=false:=by simpa using ne
 simp[ne']at h2;exact h2
theorem ac5{T:List Rw}{room:Int}(h:jT T room=[]){r s:Rw}(hr:r∈T)(hs:s∈T)(ne:r.1≠s.1):room < iD r.2 s.2:=by
 obtain⟨i,hi⟩:=List.mem_iff_getElem?.mp hr;obtain⟨j,hj⟩:=List.mem_iff_getElem?.mp hs;rcases Nat.lt_trichotomy i j with lt|rfl|lt
 ·exact Vz h i j r s lt hi hj ne
 ·rw[hi]at hj;cases hj;exact absurd rfl ne
 ·rw[QJ];exact Vz h j i s r lt hj hi λz=>ne z.symm
theorem Hq{c:aH}{i:Nat}{e:En}{b0:bV}(hb:c.bs[i]?=some b0){g:Int}{r:Rw}(h:pJ (eO c i e) 0 g r):pJ c ((i:Int)+1) g r∨((go b0.sd e).al=true/\(go b0.sd e).due=some r.2/\(go b0.sd e).o=r.1/\(go b0.sd e).g=g):=by
 rcases h with h|⟨j,b,h1,h2,h3,h4,h5,_⟩
 ·exact .inl (.inl h)
 ·rw[qU]at h1;split at h1
  ·next z=>
   subst z;rw[hb]at h1;cases h1;exact .inr ⟨h2,h3,h4,h5⟩
  ·next z=>exact .inl (.inr ⟨j,b,h1,h2,h3,h4,h5,by omega⟩)
theorem Sy{c:aH}{k o g':Int}{lo g:Int}{r:Rw}(h:pJ (uU c k o g') lo g r):pJ c lo g r:=by
 rcases h with h|⟨j,b,h1,h2,h3,h4,h5,h6⟩
 ·exact .inl h
 ·have h1:(c.bs.map λx=>if gK k x&&x.sd.al then jJ x (.followed o g') else x)[j]?=some b:=h1;rw[aq9]at h1;obtain⟨x,hx,rfl⟩:=arz.mp h1;cases q:(gK k x&&x.sd.al) with
  |true=>
   rw[q]at h3;have h3:x.sd.due=some r.2:=h3;simp[gK,h3]at q
  |false=>
   rw[q]at h2 h3 h4 h5;exact .inr ⟨j,x,hx,h2,h3,h4,h5,h6⟩
theorem agJ{n s:Nat}{c c':aH}{d:bx}{r:Dat}(I:Inv n s c)(hn:n<=199)(N:NM c)(h:cJ c d=.ok r c'):NM c':=by
 have A0:=I.al;have gv:∀{g:Int} {r:Rw} {lo:Int},pJ c lo g r->Vg c g:=λh=>by
  rcases h with h|⟨j,b,h1,h2,_,_,h5,_⟩
  ·exact(I.hE _ h).2.1
  ·rw[←h5];exact(I.alive (aq2 h1) h2).2.1
 have nobs:∀{f:Fi},(beg f).due=none->∀g (r:Rw),pJ { c with bs:=c.bs++[wj f] } 0 g r->pJ c 0 g r:=λhf g r h=>by
  rcases h with h|⟨j,b,h1,h2,h3,h4,h5,h6⟩
  ·exact .inl h
  ·by_cases hj:j < c.bs.length
   ·rw[aq7 hj]at h1;exact .inr ⟨j,b,h1,h2,h3,h4,h5,h6⟩
   ·rw[arf (by omega)]at h1;cases hz:j - c.bs.length with
    |zero=>
     rw[hz]at h1;cases h1;have h3:(beg _).due=some r.2:=h3;rw[hf]at h3;cases h3
    |succ q=>
     rw[hz]at h1;simp at h1
 cases d with
 |owner=>
  cases h;exact N.sub rfl rfl λ_ _ h=>h
 |ground x=>
  obtain⟨hx,h⟩:=mZ h;cases h;have hl:=I.gr.len;have e1:∀y,Vg c y->aJ { c with al:=c.al++[x],ci:=c.ci++[[(c.al.length:Int)+1]] } y=aJ c y:=λy hy=>by
   obtain⟨k,hk,rfl⟩:=uh hy;simp[aJ,aq7 (show k < c.ci.length by omega)]
  have e2:∀y,Vg c y->oF { c with al:=c.al++[x],ci:=c.ci++[[(c.al.length:Int)+1]] } y=oF c y:=λy hy=>by
   obtain⟨k,hk,rfl⟩:=uh hy;simp[oF,aq7 hk]
  intro y hy g hg k hk r s hr hs ne;have hy:1<=y/\y<=((c.al++[x]).length:Int):=hy;simp at hy;by_cases hv:Vg c y
  ·rw[e1 y hv]at hg hk;have:roomOf { c with al:=c.al++[x],ci:=c.ci++[[(c.al.length:Int)+1]] } y=roomOf c y:=by
    unfold roomOf;rw[e1 y hv];congr 1;exact List.map_congr_left λz hz=>e2 z (I.gr.mem _ _ (I.gr.at hv) z hz)
   rw[this];exact N y hv g hg k hk r s hr hs ne
  ·have ey:y=(c.al.length:Int)+1:=by unfold Vg at hv;omega
   subst ey;have:aJ { c with al:=c.al++[x],ci:=c.ci++[[(c.al.length:Int)+1]] } ((c.al.length:Int)+1)=[(c.al.length:Int)+1]:=by simp[aJ,←hl]
   rw[this]at hg;rw[aq5.mp hg]at hr;have hr:pJ c 0 ((c.al.length:Int)+1) r:=hr;exact absurd (gv hr) hv
 |enrol o g m=>
  obtain⟨h1,h⟩:=dD h;obtain⟨h2,h⟩:=dH h;obtain⟨h3,h⟩:=wU h;obtain⟨h4,h⟩:=cV h;obtain⟨h5,h⟩:=cV h;have hb:=HY (Im h);have h:=jr h;cases h;refine N.add I.gr rfl rfl h2 (λk r hr=>?_) hb;rcases hr with hr|hr
  ·rcases aq8.mp hr with hr|hr
   ·exact .inl (.inl hr)
   ·have:=aq5.mp hr;obtain⟨r1,r2⟩:=r;cases this;exact .inr ⟨rfl,rfl⟩
  ·exact .inl (.inr hr)
 |leave o g=>
  obtain⟨h1,h⟩:=dD h;obtain⟨h2,h⟩:=dH h;obtain⟨h3,h⟩:=dN h;obtain⟨h4,h⟩:=cV h;cases h;exact N.sub rfl rfl λk r hr=>hr.imp (λz=>(arn.mp z).1) id
 |bring o g e=>
  obtain⟨h1,h⟩:=dD h;obtain⟨h2,h⟩:=dH h;obtain⟨h3,h⟩:=wU h;obtain⟨h4,h⟩:=dN h;cases h;exact N.sub rfl rfl (nobs rfl)
 |bear k=>
  obtain⟨b0,e0,h1,h2,h3,h⟩:=lQ h;cases h;exact N.sub rfl rfl (nobs rfl)
 |cut k=>
  obtain⟨b0,h1,h2,h⟩:=kE h;have hb:=HY (Im h);have h:=jr h;cases h;obtain⟨q1,q2,q3⟩:=gD h1;refine N.add I.gr rfl rfl (I.alive (aq2 q1) h2).2.1 (λg r hr=>?_) hb;rcases Hq q1 hr with z|⟨_,z2,z3,z4⟩
  ·exact .inl z.all
  ·obtain⟨r1,r2⟩:=r;exact .inr ⟨z4.symm,Prod.ext z3.symm (ark z2).symm⟩
 |tear k p=>
  obtain⟨b0,h1,h2,h⟩:=kE h;obtain⟨h3,h⟩:=mZ h;obtain⟨h4,h⟩:=cV h;cases h;obtain⟨q1,q2,q3⟩:=gD h1;refine N.sub rfl rfl λg r hr=>?_;rcases Hq q1 hr with z|⟨z1,z2,z3,z4⟩
  ·exact z.all
  ·exact .inr ⟨_,b0,q1,z1,z2,z3,z4,by omega⟩
 |sell k o=>
  obtain⟨b0,e0,h1,h2,h3,h⟩:=lQ h;obtain⟨h4,h⟩:=dD h;obtain⟨h5,h⟩:=cV h;obtain⟨h6,h⟩:=dN h;have hb:=HY (Im h);have h:=jr h;cases h;obtain⟨q1,q2,q3⟩:=gD h1;refine N.add I.gr rfl rfl (I.alive (aq2 q1) h2).2.1 (λg r hr=>?_) hb;rcases Hq q1 (Sy hr) with z|⟨_,z2,z3,z4⟩
  ·rw[show(((k - 1).toNat:Nat):Int)+1=k by omega]at z;exact .inl z
  ·obtain⟨r1,r2⟩:=r;exact .inr ⟨z4.symm,Prod.ext z3.symm (ark z2).symm⟩
 |move k g=>
  obtain⟨b0,e0,h1,h2,h3,h⟩:=lQ h;obtain⟨h4,h⟩:=dH h;obtain⟨h5,h⟩:=cV h;obtain⟨h6,h⟩:=dN h;have hb:=HY (Im h);have h:=jr h;cases h;obtain⟨q1,q2,q3⟩:=gD h1;refine N.add I.gr rfl rfl h4 (λg' r hr=>?_) hb;rcases Hq q1 (Sy hr) with z|⟨_,z2,z3,z4⟩
  ·exact .inl z.all
  ·obtain⟨r1,r2⟩:=r;have z2:b0.sd.due=some r2:=z2;rw[h3]at z2;exact .inr ⟨z4.symm,Prod.ext z3.symm (ark z2).symm⟩
 |die k=>
  obtain⟨b0,h1,h2,h⟩:=kE h;cases h;obtain⟨q1,q2,q3⟩:=gD h1;refine N.sub rfl rfl λg r hr=>?_;rcases Hq q1 hr with z|⟨z1,_⟩
  ·exact z.all
  ·cases z1
 |uY x y=>
  obtain⟨hy,h⟩:=dH h;obtain⟨hx,h⟩:=dH h;obtain⟨hn',h⟩:=cV h;split at h
  ·cases h
  next hcl=>
  cases h;have hm:∀z∈sortI (aJ c x++aJ c y),Vg c z:=λz hz=>by
   rcases aq8.mp (Eb.mp hz) with hz|hz
   ·exact I.gr.mem _ _ (I.gr.at hx) z hz
   ·exact I.gr.mem _ _ (I.gr.at hy) z hz
  intro z hz g hg k hk r s hr hs ne;have hz:Vg c z:=hz;have ez:aJ { c with ci:=encl c.ci (sortI (aJ c x++aJ c y)) } z=if z∈sortI (aJ c x++aJ c y) then sortI (aJ c x++aJ c y) else aJ c z:=by
   obtain⟨j,hj,rfl⟩:=uh hz;have h1:=yV c.ci (sortI (aJ c x++aJ c y)) j (λy hy=>(hm y hy).1);have hj':j < c.ci.length:=by rw[I.gr.len];exact hj
   have e:aJ { c with ci:=encl c.ci (sortI (aJ c x++aJ c y)) } ((j:Int)+1)=((encl c.ci (sortI (aJ c x++aJ c y)))[j]?).getD []:=by simp[aJ]
   rw[e,h1];by_cases q:(j:Int)+1∈sortI (aJ c x++aJ c y)
   ·rw[if_pos ⟨q,hj'⟩,if_pos q];rfl
   ·rw[if_neg (λz=>q z.1),if_neg q];simp[aJ]
  have hr:pJ c 0 g r:=hr;have hs:pJ c 0 k s:=hs;by_cases q:z∈sortI (aJ c x++aJ c y)
  ·rw[if_pos q]at ez;have hle:roomOf { c with ci:=encl c.ci (sortI (aJ c x++aJ c y)) } z<=qL c x y:=aaQ (by rw[ez];exact q) λw hw=>by
    have e2:oF { c with ci:=encl c.ci (sortI (aJ c x++aJ c y)) } w=oF c w:=rfl;rw[ez]at hw;rw[e2];unfold qL;rcases aq8.mp (Eb.mp hw) with hw|hw<;>(have:=agA hw;split<;>omega)
   rw[ez]at hg hk;have mem:∀{g:Int} {r:Rw},g∈sortI (aJ c x++aJ c y)->pJ c 0 g r->r∈bR (BP c x y):=λhg hr=>by
    rw[fU];unfold BP;rcases aq8.mp (Eb.mp hg) with hg|hg
    ·exact arD _ (fU.mpr (Mr.mpr ⟨_,hg,hr⟩))
    ·exact arM _ (fU.mpr (Mr.mpr ⟨_,hg,hr⟩))
   have:=ac5 hcl (mem hg hr) (mem hk hs) ne;omega
  ·rw[if_neg q]at ez;have:roomOf { c with ci:=encl c.ci (sortI (aJ c x++aJ c y)) } z=roomOf c z:=by
    unfold roomOf;rw[ez];rfl
   rw[this];rw[ez]at hg hk;exact N z hz g hg k hk r s hr hs ne
 |part x=>
  obtain⟨hx,h⟩:=dH h;obtain⟨h1,h⟩:=cV h;cases h;have hl:∀y∈mF c x,y∈aJ c x:=λy hy=>(arn.mp hy).1;have hv:∀y∈mF c x,1<=y:=λy hy=>(I.gr.mem _ _ (I.gr.at hx) y (hl y hy)).1;refine N.finer rfl rfl rfl λz hz=>?_;have hself:=I.gr.self hz;obtain⟨j,hj,rfl⟩:=uh hz;have hj':j < c.ci.length:=by rw[I.gr.len];exact hj
  have e:aJ { c with ci:=encl (encl c.ci [x]) (mF c x) } ((j:Int)+1)=((encl (encl c.ci [x]) (mF c x))[j]?).getD []:=by simp[aJ]
  have e1:(encl c.ci [x]).length=c.ci.length:=wA [x] [x] c.ci;rw[e,yV _ _ j hv,yV c.ci [x] j (λy hy=>by rw[aq5.mp hy];exact hx.1),e1];by_cases q:(j:Int)+1∈mF c x
  ·rw[if_pos ⟨q,hj'⟩];refine⟨q,λy hy=>?_⟩;rw[I.gr.eq hx (hl _ q)];exact hl y hy
  ·rw[if_neg λz=>q z.1];by_cases q2:(j:Int)+1=x
   ·rw[if_pos ⟨by simp[q2],hj'⟩];refine⟨by simp[q2],λy hy=>?_⟩;have hy:y=x:=by simpa using hy
    rw[hy,←q2];exact hself
   ·rw[if_neg λz=>q2 (by simpa using z.1)];have:(c.ci[j]?).getD []=aJ c ((j:Int)+1):=by simp[aJ]
    rw[this];exact⟨hself,λy hy=>hy⟩
 |pass e h'=>
  obtain⟨h1,h⟩:=dD h;obtain⟨h2,h⟩:=dD h;obtain⟨h3,h⟩:=cV h;cases h;refine N.map rfl rfl (λo=>if o=e then h' else o) λg r hr=>?_;rcases hr with hr|⟨j,b,k1,k2,k3,k4,k5,_⟩
  ·have hr:(r.1,g,r.2)∈handed c e h':=hr;unfold handed at hr;rcases(IV _ _).mp hr with z|z
   ·cases z
   ·obtain⟨w,hw,hw2⟩:=arb.mp z;obtain⟨w1,w2,w3⟩:=w;unfold zQ at hw2;simp only[Prod.mk.injEq]at hw2;obtain⟨z1,z2,z3⟩:=hw2;subst z2 z3;exact⟨w1,.inl hw,z1.symm⟩
  ·have k1:(c.bs.map λb=>if (b.sd.o==e)&&b.sd.al then jJ b (.passed h') else b)[j]?=some b:=k1;rw[aq9]at k1;obtain⟨x,hx,rfl⟩:=arz.mp k1;cases q:((x.sd.o==e)&&x.sd.al) with
   |true=>
    rw[q]at k2 k3 k4 k5;have q':x.sd.o=e:=by rw[aqZ]at q;exact eq_of_beq q.1
    have k4:h'=r.1:=k4;exact⟨x.sd.o,.inr ⟨j,x,hx,k2,k3,rfl,k5,by omega⟩,by rw[if_pos q',k4]⟩
   |false=>
    rw[q]at k2 k3 k4 k5;have k2:x.sd.al=true:=k2;have q':¬x.sd.o=e:=λz=>by simp[z,k2]at q
    have k4:x.sd.o=r.1:=k4;exact⟨x.sd.o,.inr ⟨j,x,hx,k2,k3,rfl,k5,by omega⟩,by rw[if_neg q',k4]⟩
 |heir e g x=>
  obtain⟨h1,h⟩:=dD h;obtain⟨h2,h⟩:=dH h;obtain⟨h3,h⟩:=mZ h;obtain⟨h4,h⟩:=dN h;split at h
  ·next mk hf=>
   cases h;have hfr:=List.find?_some hf;refine N.add I.gr rfl rfl (lo:=0) (o:=c.count+1) (m:=mk) h2 (λk r hr=>?_) λr hr _=>?_
   ·rcases hr with hr|hr
    ·rcases aq8.mp hr with hr|hr
     ·exact .inl (.inl hr)
     ·have:=aq5.mp hr;obtain⟨r1,r2⟩:=r;cases this;exact .inr ⟨rfl,rfl⟩
    ·exact .inl (.inr hr)
   ·unfold zM at hfr;rw[arj,List.any_eq_false]at hfr;have:=hfr r (fU.mpr hr);simpa using this
  ·cases h
theorem nmZ:NM Ui:=λx hx=>by
 have h:1<=x/\x<=((0:Nat):Int):=hx;omega
theorem JD.ok{n:Nat}{c:aH}(h:JD n c):n<=200->Inv n n c/\NM c:=by
 induction h with
 |nil=>exact λ_=>⟨aju,nmZ⟩
 | @step n c d r hf ih=>
  intro hn;obtain⟨I,N⟩:=ih (by omega);refine⟨(YC I d (by omega)).mono (arq _) (by have:=abB d;omega),?_⟩;unfold pO;cases e:cJ c d with
  |ok _ c'=>exact agJ I (by omega) N e
  |no _=>exact N
 |le _ h ih=>
  intro hn;obtain⟨I,N⟩:=ih (by omega);exact⟨I.mono h h,N⟩
@[simp]theorem ao6 (c:aH):aV (lu c) (.int 0)=.ok (lI c.own):=rfl
@[simp]theorem aoA (c:aH):aV (lu c) (.int 1)=.ok (.list ((List.range c.al.length).map (grD c))):=rfl
@[simp]theorem apK (c:aH):aV (lu c) (.int 2)=.ok (.list (c.held.map gW)):=rfl
@[simp]theorem ap5 (c:aH):aV (lu c) (.int 3)=.ok (.list (c.bs.map mJ)):=rfl
theorem eq_nil(xs:List Dat)(h:mD 11 xs=true):bU (.list xs) (.list [])=.ok (.bool xs.isEmpty)/\Bp (.list xs) (.list [])=.ok (.bool (!xs.isEmpty)):=by
 have e:eqB (.list xs) (.list [])=.ok xs.isEmpty:=by
  show Out.when (okd 12 (.list xs)&&okd 12 (.list [])) (.ok (PyData.eqv (.list xs) (.list [])))=_;rw[okd,okd,h,akd];cases xs with
  |nil=>rfl
  |cons a r=>rw[agZ];rfl
 exact⟨by unfold bU;rw[e];rfl,by unfold Bp;rw[e];rfl⟩
@[simp]theorem apt (b:bV):aV (mJ b) (.int 0)=.ok (.int b.sd.o):=rfl
@[simp]theorem ap1 (b:bV):aV (mJ b) (.int 1)=.ok (.int b.sd.g):=rfl
@[simp]theorem ap7 (b:bV):aV (mJ b) (.int 2)=.ok (nH b.sd.due):=rfl
@[simp]theorem aqt (b:bV):aV (mJ b) (.int 3)=.ok (aM b.sd.ear):=rfl
@[simp]theorem ao9 (b:bV):aV (mJ b) (.int 4)=.ok (.bool b.sd.al):=rfl
@[simp]theorem ao4 (b:bV):aV (mJ b) (.int 5)=.ok (.int b.mo):=rfl
@[simp]theorem aoX (b:bV):aV (mJ b) (.int 6)=.ok (.tuple (b.fi.dat::b.en.map En.dat)):=rfl
theorem aau(M:Mo)(c:aH)(hf:c.held.length<=50000)(o g:Int):xJ M [lu c,.int o,.int g]=.ok (.list ((bK c o g).map aM)):=by
 have key:=gU (tg:=aF 3) (tt:=lg (bf (aA bU (aA aV (ao 3) (qC (.int 0))) (ao 1))) (bf (aA bU (aA aV (ao 3) (qC (.int 1))) (ao 2)))) (te:=aA aV (ao 3) (qC (.int 2))) (M:=M) (Z:=[some (.dat (lu c)),some (.dat (.int o)),some (.dat (.int g)),none]) gW (λr=>(r.1==o)&&(r.2.1==g)) (λr=>aM r.2.2) c.held λr _=>⟨[some (.dat (lu c)),some (.dat (.int o)),some (.dat (.int g)),some (.dat (gW r))],by simp,by
  by_cases h:r.1=o<;>simp[gW,h],λ_=>by simp[gW]⟩
 simp[xJ,HJ,key,hf,bK]
theorem afZ{c:aH}{k:Int}{b:bV}(h:bk c k=some b):atI (c.bs.map mJ) (k - 1)=some (mJ b):=by
 obtain⟨h1,h2,h3⟩:=gD h;have e:k - 1=(((k - 1).toNat:Nat):Int):=by omega
 rw[e];exact atI_nat (by rw[aq9,h1];rfl)
theorem VB:∀(l:List (Int×Int)),(l.map λp=>if p.2 - p.1 > 0 then p.2 - p.1 else 0).sum=((l.filter λp=>decide (p.1 < p.2)).map λp=>p.2 - p.1).sum
 |[]=>rfl
 |p::l=>by
  rw[aq1,List.sum_cons,VB l,arI];by_cases h:p.1 < p.2
  ·rw[if_pos (by omega),if_pos (by simpa using h),aq1,List.sum_cons]
  ·rw[if_neg (by omega),if_neg (by simpa using h)];omega
theorem afj(M:Mo)(x y:List Int)(h:x.length<=1000):Gp M [aM x,aM y]=.ok (.int (gj x y)):=by
 have key:=gR (tg:=bM [2,3]) (te:=aA sO (qC (.int 0)) (aA pG (ao 3) (ao 2))) (M:=M) (Z:=[some (.dat (aM x)),some (.dat (aM y)),none,none]) pD (λp=>.int (if p.2 - p.1 > 0 then p.2 - p.1 else 0)) (x.zip y) λp _=>⟨[some (.dat (aM x)),some (.dat (aM y)),some (.dat (.int p.1)),some (.dat (.int p.2))],by simp[pD],by simp⟩;have hs:=VH ((x.zip y).map λp=>if p.2 - p.1 > 0 then p.2 - p.1 else 0);rw[VB,arB]at hs;have hz2:min x.length y.length<=50000:=by omega
 simp[Gp,T8,Cu,key,hz2];simp[arp]at hs;simp[hs,gj]
def EvG(n:Int):En->Prop
 |.torn p=>p < 6
 |.cut e=>e.length=6
 |.sold _ e=>e.length=6
 |.moved g=>1<=g/\g<=n
 |.followed _ g=>1<=g/\g<=n
 |_=>True
def FiG(n:Int):Fi->Prop
 |.brought _ g e=>(1<=g/\g<=n)/\e.length=6
 |.born _ _ g=>1<=g/\g<=n
structure Ksd(P:Int->bV->Prop):Prop where
 mono:∀{n m:Int} {b:bV},P n b->n<=m->P m b
 new:∀{n:Int} {f:Fi},FiG n f->P n (wj f)
 jJ:∀{n:Int} {b:bV} {e:En},P n b->EvG n e->P n (jJ b e)
section
variable{P:Int->bV->Prop}(K:Ksd P)
include K
theorem Ksd.one{n:Int}{c:aH}{i:Nat}{e:En}(h:∀b∈c.bs,P n b)(he:EvG n e):∀b∈(eO c i e).bs,P n b:=λb hb=>by
 rcases O6 hb with z|⟨b0,z,rfl⟩
 ·exact h b z
 ·exact K.jJ (h b0 (aq2 z)) he
theorem Ksd.many{n:Int}{c:aH}{p:bV->Bool}{e:En}(h:∀b∈c.bs,P n b)(he:EvG n e):∀b∈(kY p e c).bs,P n b:=λb hb=>by
 obtain⟨b0,h1,rfl⟩:=arb.mp hb;split
 ·exact K.jJ (h b0 h1) he
 ·exact h b0 h1
theorem Ksd.more{n:Int}{c:aH}{f:Fi}(h:∀b∈c.bs,P n b)(hf:FiG n f):∀b∈c.bs++[wj f],P n b:=λb hb=>by
 rcases aq8.mp hb with z|z
 ·exact h b z
 ·rw[aq5.mp z];exact K.new hf
theorem Ksd.step{n s:Nat}{c c':aH}{d:bx}{r:Dat}(I:Inv n s c)(h:∀b∈c.bs,P c.al.length b)(e:cJ c d=.ok r c'):∀b∈c'.bs,P c'.al.length b:=by
 cases d with
 |owner=>
  cases e;exact h
 |ground x=>
  obtain⟨_,e⟩:=mZ e;cases e;exact λb hb=>K.mono (h b hb) (by simp;omega)
 |enrol o g m=>
  obtain⟨_,e⟩:=dD e;obtain⟨_,e⟩:=dH e;obtain⟨_,e⟩:=wU e;obtain⟨_,e⟩:=cV e;obtain⟨_,e⟩:=cV e;have e:=jr e;cases e;exact h
 |leave o g=>
  obtain⟨_,e⟩:=dD e;obtain⟨_,e⟩:=dH e;obtain⟨_,e⟩:=dN e;obtain⟨_,e⟩:=cV e;cases e;exact h
 |bring o g m=>
  obtain⟨_,e⟩:=dD e;obtain⟨hg,e⟩:=dH e;obtain⟨he,e⟩:=wU e;obtain⟨_,e⟩:=dN e;cases e;exact K.more h ⟨hg,fJ he⟩
 |bear k=>
  obtain⟨b0,e0,h1,h2,h3,e⟩:=lQ e;cases e;exact K.more h (I.alive (aq2 (gD h1).1) h2).2.1
 |cut k=>
  obtain⟨b0,h1,h2,e⟩:=kE e;have e:=jr e;cases e;have hm:=aq2 (gD h1).1;obtain⟨r,q4,q5⟩:=I.mk1 (I.alive hm h2).1;exact K.one h (fJ (wO (I.ear b0 hm) q5))
 |tear k p=>
  obtain⟨b0,h1,h2,e⟩:=kE e;obtain⟨hp,e⟩:=mZ e;obtain⟨_,e⟩:=cV e;cases e;exact K.one h (show p.toNat < 6 by omega)
 |sell k o=>
  obtain⟨b0,e0,h1,h2,h3,e⟩:=lQ e;obtain⟨_,e⟩:=dD e;obtain⟨_,e⟩:=cV e;obtain⟨h6,e⟩:=dN e;have e:=jr e;cases e;have hm:=aq2 (gD h1).1;obtain⟨r,q4,q5⟩:=I.mk1 h6;exact K.many (c:=eO c _ _) (K.one h (fJ (wO (I.ear b0 hm) q5))) (I.alive (aq2 (gD h1).1) h2).2.1
 |move k g=>
  obtain⟨b0,e0,h1,h2,h3,e⟩:=lQ e;obtain⟨hg,e⟩:=dH e;obtain⟨_,e⟩:=cV e;obtain⟨_,e⟩:=dN e;have e:=jr e;cases e;exact K.many (c:=eO c _ _) (K.one h hg) hg
 |die k=>
  obtain⟨b0,h1,h2,e⟩:=kE e;cases e;exact K.one h trivial
 |uY x y=>
  obtain⟨_,e⟩:=dH e;obtain⟨_,e⟩:=dH e;obtain⟨_,e⟩:=cV e;split at e
  ·cases e
  ·cases e;exact h
 |part x=>
  obtain⟨_,e⟩:=dH e;obtain⟨_,e⟩:=cV e;cases e;exact h
 |pass x y=>
  obtain⟨_,e⟩:=dD e;obtain⟨_,e⟩:=dD e;obtain⟨_,e⟩:=cV e;cases e;exact K.many h trivial
 |heir x g m=>
  obtain⟨_,e⟩:=dD e;obtain⟨_,e⟩:=dH e;obtain⟨_,e⟩:=mZ e;obtain⟨_,e⟩:=dN e;split at e
  ·cases e;exact h
  ·cases e
theorem JD.all{n:Nat}{c:aH}(h:JD n c):n<=200->∀b∈c.bs,P c.al.length b:=by
 induction h with
 |nil=>exact λ_ b hb=>nomatch hb
 | @step n c d r hf ih=>
  intro hn;have I:=(r.ok (by omega)).1;have ih:=ih (by omega);unfold pO;cases e:cJ c d with
  |ok _ c'=>exact K.step I ih e
  |no _=>exact ih
 |le _ h ih=>exact λhn=>ih (by omega)
end
def zJ(x y:List Int):Bool:=(x.zip y).all λp=>decide (p.1<=p.2)
theorem VG(x:List Int):zJ x x=true:=by unfold zJ;rw[aro];intro p hp;obtain⟨i,hi,e⟩:=List.mem_iff_getElem.mp hp;rw[List.getElem_zip]at e;rw[←e];simp
theorem ZM{x y:List Int}:zJ x y=true↔∀(i:Nat) (a b:Int),x[i]?=some a->y[i]?=some b->a<=b:=by
 unfold zJ;rw[aro];constructor
 ·intro h i a b ha hb;have:=h (a,b) (aq2 (i:=i) (by rw[arH];exact⟨ha,hb⟩));simpa using this
 ·intro h p hp;obtain⟨i,hi⟩:=List.mem_iff_getElem?.mp hp;rw[arH]at hi;simpa using h i _ _ hi.1 hi.2
theorem aee{x y:List Int}(h:zJ x y=true)(p:Nat):zJ x (jP y p)=true:=ZM.mpr λi a b ha hb=>by
 unfold jP at hb;rw[arP]at hb;obtain⟨z,hz,rfl⟩:=arz.mp hb;have:=ZM.mp h i a z ha hz
 split<;>omega
def En.ok:En->Prop
 |.torn p=>p < 6
 |.cut e=>e.length=6
 |.sold _ e=>e.length=6
 |_=>True
def Fi.ok:Fi->Prop
 |.brought _ _ e=>e.length=6
 |_=>True
theorem adA{s:Sd}{e:En}(h:s.ear.length=6)(he:e.ok):(go s e).ear.length=6:=by cases e<;>simp[go,QM,En.ok]at *<;>assumption
theorem ahb{f:Fi}(h:f.ok):(beg f).ear.length=6:=by
 cases f
 ·exact h
 ·rfl
theorem Qu(M:Mo)(x0 x1 x2:Option Cell):∀(es:List En) (s:Sd) (x4:Option Cell),s.ear.length=6->(∀e∈es,e.ok)->∃x4',fD (aF 4) LR (es.map En.dat) M [x0,x1,x2,some (.dat s.dat),x4]=.next [x0,x1,x2,some (.dat (es.foldl go s).dat),x4'] M
 |[],s,x4,_,_=>⟨x4,rfl⟩
 |e::es,s,x4,hs,he=>by
  obtain⟨x4',ih⟩:=Qu M x0 x1 x2 es (go s e) (some (.dat e.dat)) (adA hs (he e aq4)) λd hd=>he d (aq3 _ hd);refine⟨x4',?_⟩;have h:=gone_ok M s e (by omega);rw[aq1,fW (Z1:=[x0,x1,x2,some (.dat s.dat),some (.dat e.dat)]) (by simp) (Z2:=[x0,x1,x2,some (.dat (go s e).dat),some (.dat e.dat)]) (M2:=M) (by simp[LR,h])];exact ih
def jB(f:Fi)(es:List En):List Dat:=f.dat::es.map En.dat
theorem afO(M:Mo)(f:Fi)(es:List En)(hf:f.ok)(he:∀e∈es,e.ok)(hl:es.length<=1000):Cm M [.list (jB f es)]=.ok (es.foldl go (beg f)).dat:=by
 unfold Cm Uo jB;have h1:=Y0 M f;obtain⟨x4',h2⟩:=Qu M (some (.dat (.list (f.dat::es.map En.dat)))) (some (.dat f.dat)) (some (.dat (.list (es.map En.dat)))) es (beg f) none (ahb hf) he;have hl':es.length<=16000:=by omega
 simp[h1,h2,hl']
def rJ(t:Option Nat):En->Option Nat
 |.torn _=>t.map (· + 1)
 |.cut _=>some 0
 |.sold _ _=>some 0
 |_=>t
def Dm:Option Nat->Dat
 |none=>.none
 |some n=>.int n
theorem RM(M:Mo)(x0:Option Cell):∀(es:List En) (t:Option Nat) (x2:Option Cell),∃y2,fD (aF 2) oO (es.map En.dat) M [x0,some (.dat (Dm t)),x2]=.next [x0,some (.dat (Dm (es.foldl rJ t))),y2] M
 |[],s,x2=>⟨x2,rfl⟩
 |e::es,s,x2=>by
  obtain⟨y2,ih⟩:=RM M x0 es (rJ s e) (some (.dat e.dat));refine⟨y2,?_⟩;rw[aq1,fW (Z1:=[x0,some (.dat (Dm s)),some (.dat e.dat)]) (by simp) (Z2:=[x0,some (.dat (Dm (rJ s e))),some (.dat e.dat)]) (M2:=M) (by cases e<;>cases s<;>simp[oO,En.dat,rJ,Dm,inD,inB,Ko,kJ])];exact ih
theorem afJ(M:Mo)(f:Fi)(es:List En):jW M [.list (jB f es)]=.ok (Dm (es.foldl rJ none)):=by
 unfold jW Bj jB;obtain⟨y2,h⟩:=RM M (some (.dat (.list (f.dat::es.map En.dat)))) es none (some (.dat f.dat));have h1:fD (aF 2) oO (f.dat::es.map En.dat) M [some (.dat (.list (f.dat::es.map En.dat))),some (.dat .none),none]=.next [some (.dat (.list (f.dat::es.map En.dat))),some (.dat (Dm (es.foldl rJ none))),y2] M:=by rw[fW (Z1:=[some (.dat (.list (f.dat::es.map En.dat))),some (.dat .none),some (.dat f.dat)]) (by simp) (Z2:=[some (.dat (.list (f.dat::es.map En.dat))),some (.dat .none),some (.dat f.dat)]) (M2:=M) (by cases f<;>simp[oO,Fi.dat,inD,inB,Ko])];exact h
 simp[h1]
def Xk(bs:List bV)(b:bV):Prop:=∃(j:Nat) (d:bV),b.mo=(j:Int)+1/\bs[j]?=some d/\d.sd.due≠none/\(b.sd.al=true->b.sd.due=none->d.sd.al=true->d.sd.o=b.sd.o/\d.sd.g=b.sd.g)
def Cf(c:aH):Prop:=∀(i:Nat) (b:bV),c.bs[i]?=some b->b.mo≠0->Xk c.bs b
theorem Cf.chg{c c':aH}(H:Cf c)(f:Nat->bV->bV)(hb:∀i:Nat,c'.bs[i]?=(c.bs[i]?).map (f i))(hm:∀i b,(f i b).mo=b.mo)(hd:∀i b,b.sd.due≠none->(f i b).sd.due≠none)
  (hr:∀(i j:Nat) (b d:bV),c.bs[i]?=some b->c.bs[j]?=some d->b.mo=(j:Int)+1->d.sd.due≠none->(b.sd.al=true->b.sd.due=none->d.sd.al=true->d.sd.o=b.sd.o/\d.sd.g=b.sd.g)->(f i b).sd.al=true->(f i b).sd.due=none->(f j d).sd.al=true->(f j d).sd.o=(f i b).sd.o/\(f j d).sd.g=(f i b).sd.g):Cf c':=λi b h hmo=>by
 rw[hb]at h;obtain⟨b0,h0,rfl⟩:=arz.mp h;rw[hm]at hmo;obtain⟨j,d,e1,e2,e3,e4⟩:=H i b0 h0 hmo;exact⟨j,f j d,by rw[hm];exact e1,by rw[hb,e2];rfl,hd j d e3,hr i j b0 d h0 e2 e1 e3 e4⟩
theorem Cf.same{c c':aH}(H:Cf c)(e:c'.bs=c.bs):Cf c':=λi b h hmo=>by
 rw[e]at h ⊢;exact H i b h hmo
theorem Cf.add{c c':aH}(H:Cf c){x:bV}(e:c'.bs=c.bs++[x])(hx:x.mo≠0->Xk c.bs x):Cf c':=λi b h hmo=>by
 have old:∀b,Xk c.bs b->Xk (c.bs++[x]) b:=λb ⟨j,d,e1,e2,e3⟩=>⟨j,d,e1,by rw[aq7 (aqY.mp e2).1];exact e2,e3⟩;rw[e]at h ⊢;by_cases q:i < c.bs.length
 ·rw[aq7 q]at h;exact old b (H i b h hmo)
 ·rw[arf (by omega)]at h;cases hz:i - c.bs.length with
  |zero=>
   rw[hz]at h;cases h;exact old _ (hx hmo)
  |succ z=>
   rw[hz]at h;simp at h
def f1(i0:Nat)(e:En)(i:Nat)(b:bV):bV:=if i0=i then jJ b e else b
theorem aeI(c:aH)(i0:Nat)(e:En)(i:Nat):(eO c i0 e).bs[i]?=(c.bs[i]?).map (f1 i0 e i):=by
 rw[qU];by_cases q:i0=i
 ·rw[if_pos q];congr 1;funext b;simp[f1,q]
 ·rw[if_neg q];cases c.bs[i]? with
  |none=>rfl
  |some b=>simp[f1,q]
theorem agp(i0:Nat)(e:En)(i:Nat)(b:bV):(f1 i0 e i b).mo=b.mo:=by
 unfold f1
 split<;>rfl
theorem adJ{s:Sd}(e:En)(h:s.due≠none):(go s e).due≠none:=by cases e<;>simp[go]<;>exact h
theorem XC{i0:Nat}{e:En}{i:Nat}{b:bV}(h:b.sd.due≠none):(f1 i0 e i b).sd.due≠none:=by
 unfold f1;split
 ·exact adJ e h
 ·exact h
def f2(p:bV->Bool)(e:En)(b:bV):bV:=if p b=true then jJ b e else b
theorem agw(p:bV->Bool)(e:En)(b:bV):(f2 p e b).mo=b.mo:=by
 unfold f2
 split<;>rfl
theorem ZV{p:bV->Bool}{e:En}{b:bV}(h:b.sd.due≠none):(f2 p e b).sd.due≠none:=by
 unfold f2;split
 ·exact adJ e h
 ·exact h
theorem adY(c:aH)(p:bV->Bool)(e:En)(i:Nat):(kY p e c).bs[i]?=(c.bs[i]?).map (f2 p e):=by
 show(c.bs.map _)[i]?=_
 rw[aq9];rfl
theorem Cf.led{c:aH}(H:Cf c){k:Int}{b0:bV}(hk:bk c k=some b0)(e:En)(o g:Int)(h1:(go b0.sd e).due≠none)(h2:(go b0.sd e).o=o/\(go b0.sd e).g=g):Cf (uU (eO c (k - 1).toNat e) k o g):=by
 obtain⟨hb,hk1,hk2⟩:=gD hk;refine H.chg (λi b=>f2 (λx=>gK k x&&x.sd.al) (.followed o g) (f1 (k - 1).toNat e i b)) (λi=>?_) (λi b=>by rw[agw,agp]) (λi b h=>ZV (XC h)) λi j b d hi hj hm hd h=>?_
 ·show(kY _ _ _).bs[i]?=_
  rw[adY,aeI,Option.map_map];rfl
 ·have ed:f2 (λx=>gK k x&&x.sd.al) (.followed o g) (f1 (k - 1).toNat e j d)=f1 (k - 1).toNat e j d:=by
   have:(f1 (k - 1).toNat e j d).sd.due.isNone=false:=by
    have:=XC (i0:=(k - 1).toNat) (e:=e) (i:=j) hd;cases q:(f1 (k - 1).toNat e j d).sd.due with
    |none=>exact absurd q this
    |some _=>rfl
   have hc0:(gK k (f1 (k - 1).toNat e j d)&&(f1 (k - 1).toNat e j d).sd.al)=false:=by unfold gK;rw[this,Bool.and_false,Bool.false_and]
   show(if (gK k (f1 (k - 1).toNat e j d)&&(f1 (k - 1).toNat e j d).sd.al)=true then _ else _)=_
   rw[hc0];rfl
  show _->_->(f2 _ _ (f1 _ _ j d)).sd.al=true->(f2 _ _ (f1 _ _ j d)).sd.o=_/\(f2 _ _ (f1 _ _ j d)).sd.g=_;rw[ed];intro q1 q2 q3;by_cases ei:(k - 1).toNat=i
  ·exfalso;rw[←ei]at hi;rw[hb]at hi;cases hi;have:(f1 (k - 1).toNat e i b0).sd.due≠none:=by
    unfold f1;rw[if_pos ei];exact h1
   exact ZV this q2
  ·have eb:f1 (k - 1).toNat e i b=b:=by
    unfold f1;rw[if_neg ei]
   have q1:(f2 (λx=>gK k x&&x.sd.al) (.followed o g) (f1 (k - 1).toNat e i b)).sd.al=true:=q1;have q2:(f2 (λx=>gK k x&&x.sd.al) (.followed o g) (f1 (k - 1).toNat e i b)).sd.due=none:=q2;show _=(f2 (λx=>gK k x&&x.sd.al) (.followed o g) (f1 (k - 1).toNat e i b)).sd.o/\_=(f2 (λx=>gK k x&&x.sd.al) (.followed o g) (f1 (k - 1).toNat e i b)).sd.g;rw[eb]at q1 q2 ⊢;have q4:b.sd.al=true/\b.sd.due=none:=by unfold f2 at q1 q2;split at q1<;>exact⟨by simpa [jJ,go] using q1,by simp_all [jJ,go]⟩
   by_cases ej:(k - 1).toNat=j
   ·have em:b.mo=k:=by omega
    have hc:(gK k b&&b.sd.al)=true:=by simp[gK,em,q4.1,q4.2]
    rw[←ej]at hj;rw[hb]at hj;cases hj;have e1:f2 (λx=>gK k x&&x.sd.al) (.followed o g) b=jJ b (.followed o g):=by unfold f2;rw[if_pos hc]
    rw[e1];unfold f1;rw[if_pos ej];exact h2
   ·have em:b.mo≠k:=by omega
    have hc:(gK k b&&b.sd.al)=false:=by simp[gK,em]
    have e1:f2 (λx=>gK k x&&x.sd.al) (.followed o g) b=b:=by unfold f2;simp[hc]
    have e2:f1 (k - 1).toNat e j d=d:=by unfold f1;rw[if_neg ej]
    rw[e1,e2];rw[e2]at q3;exact h q4.1 q4.2 q3
theorem Cf.one{c:aH}(H:Cf c)(i0:Nat)(e:En)(h:∀s:Sd,(go s e).o=s.o/\(go s e).g=s.g/\((go s e).al=true->s.al=true)/\((go s e).due=none->s.due=none)):Cf (eO c i0 e):=by
 refine H.chg (f1 i0 e) (λi=>aeI c i0 e i) (agp i0 e) (λi b z=>XC z) λi j b d _ _ _ _ z q1 q2 q3=>?_;have k:∀i b,(f1 i0 e i b).sd.o=b.sd.o/\(f1 i0 e i b).sd.g=b.sd.g/\((f1 i0 e i b).sd.al=true->b.sd.al=true)/\((f1 i0 e i b).sd.due=none->b.sd.due=none):=λi b=>by
  unfold f1;split
  ·exact h b.sd
  ·exact⟨rfl,rfl,id,id⟩
 have kb:=k i b;have kd:=k j d;rw[kb.1,kb.2.1,kd.1,kd.2.1];exact z (kb.2.2.1 q1) (kb.2.2.2 q2) (kd.2.2.1 q3)
theorem Cf.step{c c':aH}{d:bx}{r:Dat}(H:Cf c)(e:cJ c d=.ok r c'):Cf c':=by
 cases d with
 |owner=>
  cases e;exact H.same rfl
 |ground x=>
  obtain⟨_,e⟩:=mZ e;cases e;exact H.same rfl
 |enrol o g m=>
  obtain⟨_,e⟩:=dD e;obtain⟨_,e⟩:=dH e;obtain⟨_,e⟩:=wU e;obtain⟨_,e⟩:=cV e;obtain⟨_,e⟩:=cV e;have e:=jr e;cases e;exact H.same rfl
 |leave o g=>
  obtain⟨_,e⟩:=dD e;obtain⟨_,e⟩:=dH e;obtain⟨_,e⟩:=dN e;obtain⟨_,e⟩:=cV e;cases e;exact H.same rfl
 |bring o g m=>
  obtain⟨_,e⟩:=dD e;obtain⟨_,e⟩:=dH e;obtain⟨_,e⟩:=wU e;obtain⟨_,e⟩:=dN e;cases e;exact H.add (x:=wj (.brought o g m)) rfl λz=>absurd rfl z
 |bear k=>
  obtain⟨b0,e0,h1,h2,h3,e⟩:=lQ e;cases e;obtain⟨q1,q2,_⟩:=gD h1;exact H.add (x:=wj (.born k b0.sd.o b0.sd.g)) rfl λ_=>⟨(k - 1).toNat,b0,show k=_ by omega,q1,(by rw[h3];exact(λz=>nomatch z)),λ_ _ _=>⟨rfl,rfl⟩⟩
 |cut k=>
  obtain⟨b0,h1,h2,e⟩:=kE e;have e:=jr e;cases e;exact H.one _ _ λs=>⟨rfl,rfl,id,λz=>nomatch z⟩
 |tear k p=>
  obtain⟨b0,h1,h2,e⟩:=kE e;obtain⟨_,e⟩:=mZ e;obtain⟨_,e⟩:=cV e;cases e;exact H.one _ _ λs=>⟨rfl,rfl,id,id⟩
 |sell k o=>
  obtain⟨b0,e0,h1,h2,h3,e⟩:=lQ e;obtain⟨_,e⟩:=dD e;obtain⟨_,e⟩:=cV e;obtain⟨_,e⟩:=dN e;have e:=jr e;cases e;exact H.led h1 _ _ _ (λz=>nomatch z) ⟨rfl,rfl⟩
 |move k g=>
  obtain⟨b0,e0,h1,h2,h3,e⟩:=lQ e;obtain⟨_,e⟩:=dH e;obtain⟨_,e⟩:=cV e;obtain⟨_,e⟩:=dN e;have e:=jr e;cases e;exact H.led h1 _ _ _ (by show b0.sd.due≠none;rw[h3];exact λz=>nomatch z) ⟨rfl,rfl⟩
 |die k=>
  obtain⟨b0,h1,h2,e⟩:=kE e;cases e;exact H.one _ _ λs=>⟨rfl,rfl,(λz=>nomatch z),id⟩
 |uY x y=>
  obtain⟨_,e⟩:=dH e;obtain⟨_,e⟩:=dH e;obtain⟨_,e⟩:=cV e;split at e
  ·cases e
  ·cases e;exact H.same rfl
 |part x=>
  obtain⟨_,e⟩:=dH e;obtain⟨_,e⟩:=cV e;cases e;exact H.same rfl
 |pass x y=>
  obtain⟨_,e⟩:=dD e;obtain⟨_,e⟩:=dD e;obtain⟨_,e⟩:=cV e;cases e;have key:Cf (kY (λb=>(b.sd.o==x)&&b.sd.al) (.passed y) c):=by
   refine H.chg (λ_=>f2 (λb=>(b.sd.o==x)&&b.sd.al) (.passed y)) (λi=>adY c _ _ i) (λ_=>agw _ _) (λ_ b z=>ZV z) λi j b d _ _ _ _ z=>?_;have k:∀b,(f2 (λb=>(b.sd.o==x)&&b.sd.al) (.passed y) b).sd.al=b.sd.al/\(f2 (λb=>(b.sd.o==x)&&b.sd.al) (.passed y) b).sd.due=b.sd.due/\(f2 (λb=>(b.sd.o==x)&&b.sd.al) (.passed y) b).sd.g=b.sd.g/\(b.sd.al=true->(f2 (λb=>(b.sd.o==x)&&b.sd.al) (.passed y) b).sd.o=if b.sd.o=x then y else b.sd.o):=λb=>by
    unfold f2;by_cases q1:b.sd.o=x
    ·cases q2:b.sd.al<;>simp[q1,q2,jJ,go]
    ·simp[q1]
   obtain⟨b1,b2,b3,b4⟩:=k b;obtain⟨d1,d2,d3,d4⟩:=k d;rw[b1,b2,b3,d1,d3];intro q1 q2 q3;obtain⟨z1,z2⟩:=z q1 q2 q3;rw[b4 q1,d4 q3,z1];exact⟨rfl,z2⟩
  exact key.same rfl
 |heir x g m=>
  obtain⟨_,e⟩:=dD e;obtain⟨_,e⟩:=dH e;obtain⟨_,e⟩:=mZ e;obtain⟨_,e⟩:=dN e;split at e
  ·cases e;exact H.same rfl
  ·cases e
theorem JD.cf{n:Nat}{c:aH}(h:JD n c):Cf c:=by
 induction h with
 |nil=>exact λi b h=>nomatch h
 | @step n c d r hf ih=>
  unfold pO;cases e:cJ c d with
  |ok _ c'=>exact ih.step e
  |no _=>exact ih
 |le _ h ih=>exact ih
theorem vJ(a b:Int)(x y:List Int):gj (a::x) (b::y)=(if a < b then b - a else 0)+gj x y:=by
 unfold gj;rw[arS,arI];by_cases q:a < b
 ·simp only[q,decide_true,if_true,aq1,List.sum_cons]
 ·simp only[q,decide_false,arA,if_false];omega
theorem QK(a b:Int)(x y:List Int):zJ (a::x) (b::y)=(decide (a<=b)&&zJ x y):=rfl
theorem Mj:∀(d l:List Int) (p:Nat),d.length=l.length->p < l.length->zJ d l=true->gj d (jP l p)=gj d l+1
 |[],l,p,h,hp,_=>by simp at h;omega
 |a::d,[],p,h,hp,_=>by simp at hp
 |a::d,b::l,0,h,hp,hd=>by
  have e:jP (b::l) 0=(b+1)::l:=by unfold jP;rw[List.mapIdx_cons];simp;apply arv;intro i;simp
  rw[QK,aqZ,asj]at hd;rw[e,vJ,vJ,if_pos (by omega)]
  split<;>omega
 |a::d,b::l,p+1,h,hp,hd=>by
  have e:jP (b::l) (p+1)=b::jP l p:=by unfold jP;rw[List.mapIdx_cons];simp
  rw[QK,aqZ]at hd;have:=Mj d l p (by simpa using h) (by simpa using hp) hd.2;rw[e,vJ,vJ,this];omega
theorem NQ(x:List Int):gj x x=0:=by
 induction x with
 |nil=>rfl
 |cons a x ih=>rw[vJ,ih];simp
structure Zj(n:Int)(b:bV):Prop where
 sd:b.sd=b.en.foldl go (beg b.fi)
 fi:b.fi.ok
 en:∀e∈b.en,e.ok
 ts:(b.sd.due.map λd=>gj d b.sd.ear)=(b.en.foldl rJ none).map (λn:Nat=>(n:Int))
 l6:b.sd.ear.length=6
 du:∀d,b.sd.due=some d->d.length=6/\zJ d b.sd.ear=true
theorem abC:Ksd Zj where
 mono:=λh _=>⟨h.sd,h.fi,h.en,h.ts,h.l6,h.du⟩
 new:=λ{n f} h=>by
  cases f with
  |brought o g e=>exact⟨rfl,h.2,(λe he=>nomatch he),rfl,h.2,λd hd=>nomatch hd⟩
  |born m o g=>exact⟨rfl,ash,(λe he=>nomatch he),rfl,rfl,λd hd=>nomatch hd⟩
 jJ:=λ{n b e} h he=>by
  have hok:e.ok:=by cases e<;>first | exact he | trivial
  refine⟨?_,h.fi,?_,?_,?_,?_⟩
  ·show go b.sd e=(b.en++[e]).foldl go (beg b.fi);rw[List.foldl_append,←h.sd];rfl
  ·intro x hx;rcases aq8.mp hx with z|z
   ·exact h.en x z
   ·rw[aq5.mp z];exact hok
  ·show((go b.sd e).due.map λd=>gj d (go b.sd e).ear)=((b.en++[e]).foldl rJ none).map _
   rw[List.foldl_append];have ht:=h.ts;generalize b.en.foldl rJ none=t at *;cases e with
   |torn p=>
    have hp:p < 6:=he;have hl:=h.l6
    show(b.sd.due.map λd=>gj d (jP b.sd.ear p))=(t.map (· + 1)).map _
    cases hd:b.sd.due with
    |none=>
     rw[hd]at ht;cases t with
     |none=>rfl
     |some n=>cases ht
    |some d=>
     rw[hd]at ht;obtain⟨q1,q2⟩:=h.du d hd;cases t with
     |none=>cases ht
     |some m=>
      have ht:some (gj d b.sd.ear)=some ((m:Int)):=ht;injection ht with ht;show some (gj d (jP b.sd.ear p))=some (((m+1:Nat)):Int);rw[Mj d b.sd.ear p (by omega) (by omega) q2,ht];simp
   |cut e=>
    show some (gj e e)=some ((0:Nat):Int);rw[NQ];rfl
   |sold o e=>
    show some (gj e e)=some ((0:Nat):Int);rw[NQ];rfl
   |moved g=>exact ht
   |followed o g=>exact ht
   |passed o=>exact ht
   |died=>exact ht
  ·exact adA h.l6 hok
  ·intro d hd;cases e with
   |torn p=>exact⟨(h.du d hd).1,aee (h.du d hd).2 p⟩
   |cut j=>
    cases hd;exact⟨he,VG _⟩
   |sold o j=>
    cases hd;exact⟨he,VG _⟩
   |moved g=>exact h.du d hd
   |followed o g=>exact h.du d hd
   |passed o=>exact h.du d hd
   |died=>exact h.du d hd
theorem Ip{M:Mo}{L:Lay}{n s:Nat}{c:aH}(a:At M L c)(I:Inv n s c)(hs:s<=76)(hn:n<=400){k:Int}{b:bV}(hk:bk c k=some b):mj M [ob L.c,.int k]=.ok (.list (jB b.fi b.en)):=by
 have f0:=I.hL;have hc:=a.hc;obtain⟨nh,hh⟩:=a.hh;have h1:=BL a (by omega) hk;obtain⟨hb1,hb2,hb3⟩:=gD hk;obtain⟨_,_,_,_,nb',hM⟩:=qF a hk;have he:=I.en _ (aq2 hb1);have hl:b.en.length<=99998:=by omega
 simp[mj,vh,hc,aN,hh,dO,dI,h1,hM,iB,jB,hl]
theorem ZG(n:Nat)(f:Fi)(es:List En):lk (n+3) (.list (jB f es))=true:=by rw[lk,jB,K7,alz,Bool.true_and,Hl];intro d hd;obtain⟨e,_,rfl⟩:=arb.mp hd;exact amm n e
theorem alG(s:Sd)(n:Nat):lk (n+2) s.dat=true:=by have:=aiV n s.due;have h2:=adz n s.ear;simp[Sd.dat,lk,K7,this,h2]
theorem ag7(x y:Int):bU (.tuple [.int x,.int y]) (.tuple [.int x,.int y])=.ok (.bool true):=by
 show(Out.when (okd 12 (.tuple [.int x,.int y])&&okd 12 (.tuple [.int x,.int y])) (.ok (PyData.eqv (.tuple [.int x,.int y]) (.tuple [.int x,.int y])))).bind _=_
 simp[okd,mD,PyData.eqv,PyData.eqvAll]
theorem ae4{M:Mo}{L:Lay}{n s:Nat}{c:aH}(hL:L.c=0)(a:At M L c)(I:Inv n s c)(hs:s<=76)(hn:n<=400)(S:∀b∈c.bs,Zj c.al.length b)(F:Cf c){i:Nat}{b:bV}(hi:c.bs[i]?=some b):rM M [ob 0,lu c,.int ((i:Int)+1)]=.ok (.bool true):=by
 have f0:=I.hL;have hc:=a.hc;have mb:=aq2 hi;have hk:bk c ((i:Int)+1)=some b:=by have hl:=(aqY.mp hi).1;unfold bk;rw[if_pos ⟨by omega,by omega⟩,show((i:Int)+1 - 1).toNat=i by omega];exact hi
 have q1:=afZ hk;have q2:=Ip a I hs hn hk;rw[hL]at q2 hc;have sb:=S b mb;have he:=I.en b mb;have he2:b.en.length<=99998:=by omega
 have q3:=afO M b.fi b.en sb.fi sb.en (by omega);rw[←sb.sd]at q3;have q4:=afJ M b.fi b.en;have he3:b.en.length<=99999:=by omega
 have k1:iW 10 M [.list (b.fi.dat::b.en.map En.dat),.list (b.fi.dat::b.en.map En.dat)]=.ok (.bool true):=GP M 9 _ (ZG 6 _ _);have k2:iW 10 M [b.sd.dat,b.sd.dat]=.ok (.bool true):=GP M 9 _ (alG _ 7);have s5:Z6 (mJ b) none (some 5)=.ok b.sd.dat:=rfl;have q2:mj M [ob 0,.int ((i:Int)+1)]=.ok (.list (b.fi.dat::b.en.map En.dat)):=q2;have q3:Cm M [.list (b.fi.dat::b.en.map En.dat)]=.ok b.sd.dat:=q3;have q4:jW M [.list (b.fi.dat::b.en.map En.dat)]=_:=q4;have m1:=aau M c (by omega) b.sd.o b.sd.g;have m2:=(eq_nil ((bK c b.sd.o b.sd.g).map aM) (Dh.mpr λd hd=>by
  obtain⟨e,_,rfl⟩:=arb.mp hd;exact Ck 10 e)).1
 have o1:=Ce true b.sd.o c.own;have ts:=sb.ts;generalize hT:b.en.foldl rJ none=T at *;have hEl:(b.en.map En.dat).length<=99999:=by rw[ara];exact he3
 generalize hE:b.en.map En.dat=E at *;cases hd:b.sd.due with
 |some d=>
  rw[hd]at ts;cases T with
  |none=>cases ts
  |some m=>
   have ts:some (gj d b.sd.ear)=some (m:Int):=ts;injection ts with ts;have q6:=afj M d b.sd.ear (by rw[(sb.du d hd).1];decide);rw[ts]at q6;have k3:iW 10 M [.int (m:Int),.int (m:Int)]=.ok (.bool true):=GP M 9 _ (by simp[lk]);have q4:jW M [.list (b.fi.dat::E)]=.ok (.int (m:Int)):=q4;cases ha:b.sd.al with
   |false=>simp[rM,wX,q1,hi,hc,aN,cR,q2,k1,q3,s5,k2,hd,nH,kJ,q4,q6,k3,ha,he2,he3,hE,hEl]
   |true=>
    obtain⟨al1,al2,al3⟩:=I.alive mb ha;rw[decide_eq_true al3]at o1;have m3:((bK c b.sd.o b.sd.g).map aM).isEmpty=false:=by simp[al1]
    rw[m3]at m2;generalize (bK c b.sd.o b.sd.g).map aM=K at *;simp[rM,wX,q1,hi,hc,aN,cR,q2,k1,q3,s5,k2,hd,nH,kJ,q4,q6,k3,ha,he2,he3,hE,hEl,o1,m1,m2]
 |none=>
  rw[hd]at ts;cases T with
  |some m=>cases ts
  |none=>
   have k3:iW 10 M [.none,.none]=.ok (.bool true):=GP M 9 _ (by simp[lk]);have q4:jW M [.list (b.fi.dat::E)]=.ok .none:=q4;cases ha:b.sd.al with
   |false=>simp[rM,wX,q1,hi,hc,aN,cR,q2,k1,q3,s5,k2,hd,nH,kJ,q4,k3,ha,he2,he3,hE,hEl]
   |true=>
    obtain⟨al1,al2,al3⟩:=I.alive mb ha;rw[decide_eq_true al3]at o1;have m3:((bK c b.sd.o b.sd.g).map aM).isEmpty=false:=by simp[al1]
    rw[m3]at m2;generalize (bK c b.sd.o b.sd.g).map aM=K at *;by_cases hm:b.mo=0
    ·simp[rM,wX,q1,hi,hc,aN,cR,q2,k1,q3,s5,k2,hd,nH,kJ,q4,k3,ha,he2,he3,hE,hEl,o1,m1,m2,hm]
    ·obtain⟨j,d,e1,e2,e3,e4⟩:=F i b hi hm;have e5:atI (c.bs.map mJ) (b.mo - 1)=some (mJ d):=by
      rw[e1,show(j:Int)+1 - 1=j by omega];exact atI_nat (by rw[aq9,e2];rfl)
     cases hda:d.sd.al with
     |false=>simp[rM,wX,q1,hi,hc,aN,cR,q2,k1,q3,s5,k2,hd,nH,kJ,q4,k3,ha,he2,he3,hE,hEl,o1,m1,m2,hm,e5,hda]
     |true=>
      obtain⟨e6,e7⟩:=e4 ha hd hda;have e8:=ag7 b.sd.o b.sd.g;simp[rM,wX,q1,hi,hc,aN,cR,q2,k1,q3,s5,k2,hd,nH,kJ,q4,k3,ha,he2,he3,hE,hEl,o1,m1,m2,hm,e5,hda,e6,e7,e8]
def Yz(d:bx)(k:Int):Prop:=d=.cut k∨∃p,d=.tear k p
theorem akc{M:Mo}{L:Lay}{c:aH}(a:At M L c){n s:Nat}(I:Inv n s c)(hs:s<=76)(hn:n<=1000){d:bx}{k:Int}(hd:Yz d k)(hf:fj d=true):Sp M L (bQ M [ob L.c,d.dat]) (cJ c d):=by
 have hc:=a.hc;have h0:=abo M d (by rcases hd with rfl|⟨p,rfl⟩<;>trivial);rw[hf]at h0;rcases hd with rfl|⟨p,rfl⟩
 ·simp only[bx.dat]at h0 ⊢;refine jA (agf a I hs hn k) ?_;simp[bQ,cM,h0,hc,aN,uP];cases jd M _<;>rfl
 ·simp only[bx.dat]at h0 ⊢;refine jA (acQ a I hs k p hn) ?_;simp[bQ,cM,h0,hc,aN,tD];cases eZ M _<;>rfl
theorem afL{c c':aH}{d:bx}{k:Int}{r:Dat}(hd:Yz d k)(e:cJ c d=.ok r c'):∃ev,c'=eO c (k - 1).toNat ev:=by
 rcases hd with rfl|⟨p,rfl⟩
 ·obtain⟨b0,h1,h2,e⟩:=kE e;have e:=jr e;cases e;exact⟨_,rfl⟩
 ·obtain⟨b0,h1,h2,e⟩:=kE e;obtain⟨_,e⟩:=mZ e;obtain⟨_,e⟩:=cV e;cases e;exact⟨_,rfl⟩
structure Lg(M:Mo)(L:Lay)(n:Nat)(c:aH)(i:Nat)(b0:bV)(m:Nat):Prop where
 hL:L.c=0
 at_:At M L c
 inv:Inv n 71 c
 al:c.al.length<=99
 sty:∀b∈c.bs,Zj c.al.length b
 cf:Cf c
 b:∃b more,c.bs[i]?=some b/\b.fi=b0.fi/\b.en=b0.en++more/\more.length=m
theorem afw{d:bx}{k:Int}(hd:Yz d k):cost d=0:=by rcases hd with rfl|⟨p,rfl⟩<;>rfl
theorem Inv.up{n s:Nat}{c:aH}(I:Inv n s c):Inv (n+1) s c:=I.mono (by omega) (arq _)
theorem Lg.step{M:Mo}{L:Lay}{n:Nat}{c:aH}{i:Nat}{b0:bV}{m:Nat}(G:Lg M L n c i b0 m)(hn:n<=1000){d:bx}(hd:Yz d ((i:Int)+1))(hf:fj d=true):(∃r M' L' c',bQ M [ob 0,d.dat]=.ok r M'/\Lg M' L' (n+1) c' i b0 (m+1))∨(∃x:dR,bQ M [ob 0,d.dat]=.exc x M/\mX.lookup x.cls=some true/\Lg M L (n+1) c i b0 m):=by
 have h:=akc G.at_ G.inv (by decide) hn hd hf;have hL:=G.hL;rw[hL]at h;cases e:cJ c d with
 |no x=>
  rw[e]at h;exact .inr ⟨x,h,Zm e,G.hL,G.at_,G.inv.up,G.al,G.sty,G.cf,G.b⟩
 |ok r c'=>
  rw[e]at h;obtain⟨M',bs,h,a'⟩:=h;have I':=NT G.inv (by have:=G.al;omega) e;rw[afw hd]at I';obtain⟨ev,rfl⟩:=afL hd e;refine .inl ⟨r,M',{ L with bs:=bs },_,h,hL,a',I',G.al,abC.step G.inv G.sty e,G.cf.step e,?_⟩;obtain⟨b,more,h1,h2,h3,h4⟩:=G.b;refine⟨jJ b ev,more++[ev],?_,h2,?_,by simp[h4]⟩
  ·rw[qU,if_pos (by omega),h1];rfl
  ·show b.en++[ev]=_;rw[h3,List.append_assoc]
theorem VN(i:Nat)(b0:bV)(x2 x6:Option Cell)(hi:nB ((i:Int)+1)=true):∀(ts:List Nat) (M:Mo) (L:Lay) (n:Nat) (c:aH) (m:Nat) (x4 x5:Option Cell),Lg M L n c i b0 m->n+ts.length<=1000->
  ∃(M':Mo) (L':Lay) (c':aH) (m':Nat) (y4 y5:Option Cell),fD (aF 4) uD (ts.map λ(t:Nat)=>PyData.int (t:Int)) M [some (.dat (ob 0)),some (.dat (.int ((i:Int)+1))),x2,some (.dat (.int (m:Int))),x4,x5,x6]=.next [some (.dat (ob 0)),some (.dat (.int ((i:Int)+1))),x2,some (.dat (.int (m':Int))),y4,y5,x6] M'/\Lg M' L' (n+ts.length) c' i b0 m'
 |[],M,L,n,c,m,x4,x5,G,_=>⟨M,L,c,m,x4,x5,rfl,G⟩
 |t::ts,M,L,n,c,m,x4,x5,G,hn=>by
  rw[ard]at hn;have hc:=G.at_.hc;rw[G.hL]at hc;have hd4:decide (CDiv (t:Int) 4)=true:=decide_eq_true ⟨by decide,by decide⟩;obtain⟨d,hd,hf,e0⟩:∃d:bx,Yz d ((i:Int)+1)/\fj d=true/\d.dat=if (t:Int) % 4=1 then .tuple [.str "tear",.int ((i:Int)+1),.int ((t:Int) / 4 % 6)] else .tuple [.str "cut",.int ((i:Int)+1)]:=by
   by_cases q:(t:Int) % 4=1
   ·refine⟨.tear ((i:Int)+1) ((t:Int) / 4 % 6),.inr ⟨_,rfl⟩,?_,by rw[if_pos q];rfl⟩;simp only[fj,hi,Bool.true_and,Yt,aqZ,asj];omega
   ·exact⟨.cut ((i:Int)+1),.inl rfl,hi,by rw[if_neg q];rfl⟩
  have step:∃(M':Mo) (L':Lay) (c':aH) (m':Nat) (y5:Option Cell),uD M [some (.dat (ob 0)),some (.dat (.int ((i:Int)+1))),x2,some (.dat (.int (m:Int))),some (.dat (.int (t:Int))),x5,x6]=.next [some (.dat (ob 0)),some (.dat (.int ((i:Int)+1))),x2,some (.dat (.int (m':Int))),some (.dat (.int (t:Int))),y5,x6] M'/\Lg M' L' (n+1) c' i b0 m':=by
   rcases G.step (by omega) hd hf with⟨r,M',L',c',h1,G'⟩|⟨x,h1,h2,G'⟩
   ·refine⟨M',L',c',m+1,some (.dat d.dat),?_,G'⟩;rw[e0]at h1 ⊢;by_cases q:(t:Int) % 4=1
    ·rw[if_pos q]at h1 ⊢;simp[uD,q,hd4,hc,aN,fM,h1]
    ·rw[if_neg q]at h1 ⊢;simp[uD,q,hc,aN,fM,h1]
   ·refine⟨M,L,c,m,some (.dat (.tuple [])),?_,G'⟩;rw[e0]at h1;by_cases q:(t:Int) % 4=1
    ·rw[if_pos q]at h1;simp[uD,q,hd4,hc,aN,fM,h1,h2]
    ·rw[if_neg q]at h1;simp[uD,q,hc,aN,fM,h1,h2]
  obtain⟨M1,L1,c1,m1,y5,s1,G1⟩:=step;obtain⟨M',L',c',m',z4,z5,s2,G2⟩:=VN i b0 x2 x6 hi ts M1 L1 (n+1) c1 m1 (some (.dat (.int (t:Int)))) y5 G1 (by omega);refine⟨M',L',c',m',z4,z5,?_,?_⟩
  ·rw[aq1,fW (Z1:=[some (.dat (ob 0)),some (.dat (.int ((i:Int)+1))),x2,some (.dat (.int (m:Int))),some (.dat (.int (t:Int))),x5,x6]) (by simp) s1];exact s2
  ·rw[ard,show n+(ts.length+1)=n+1+ts.length by omega];exact G2
theorem ag5{M:Mo}{L:Lay}{c:aH}{i:Nat}{b0:bV}(G:Lg M L 99 c i b0 0)(h0:c.bs[i]?=some b0):∃M' L' c',Ke M [ob 0,.int ((i:Int)+1)]=.ok (.bool true) M'/\L'.c=0/\At M' L' c'/\Inv 229 71 c'/\(∀b∈c'.bs,Zj c'.al.length b)/\Cf c':=by
 have f0:=G.inv.hL;have hl:=(aqY.mp h0).1;have hb:∀{c:aH} {b:bV},c.bs[i]?=some b->bk c ((i:Int)+1)=some b:=λ{c b} h=>by
  have hl:=(aqY.mp h).1;unfold bk;rw[if_pos ⟨by omega,by omega⟩,show((i:Int)+1 - 1).toNat=i by omega];exact h
 have h1:=Ip G.at_ G.inv (by decide) (by decide) (hb h0);rw[G.hL]at h1;have hc1:=G.at_.hc;rw[G.hL]at hc1;obtain⟨M',L',c',m',y4,y5,lp,G'⟩:=VN i b0 (some (.dat (.list (jB b0.fi b0.en)))) none (by simp only[nB,aqZ,asj];omega) (List.range' 0 130) M L 99 c 0 none none G (by simp);rw[←Jp]at lp;have G':Lg M' L' 229 c' i b0 m':=by simpa using G'
 refine⟨M',L',c',?_,G'.hL,G'.at_,G'.inv,G'.sty,G'.cf⟩;have hc2:=G'.at_.hc;rw[G'.hL]at hc2;obtain⟨b,more,e1,e2,e3,e4⟩:=G'.b;have h2:=Ip G'.at_ G'.inv (by decide) (by decide) (hb e1);rw[G'.hL]at h2;have hen:=G.inv.en _ (aq2 h0);have hst:(jB b0.fi b0.en).length=b0.en.length+1:=by simp[jB]
 have hst2:(jB b.fi b.en).length=b0.en.length+1+m':=by simp[jB,e3,e4];omega
 have htk:Rf.cutD (jB b.fi b.en) none (some ((b0.en.length:Int)+1))=jB b0.fi b0.en:=by rw[show(b0.en.length:Int)+1=((b0.en.length+1:Nat):Int) by omega,Z4];unfold jB;rw[e2,e3];simp
 have k1:iW 10 M' [.list (jB b0.fi b0.en),.list (jB b0.fi b0.en)]=.ok (.bool true):=GP M' 9 _ (ZG 6 _ _);generalize jB b.fi b.en=S1 at *;generalize jB b0.fi b0.en=S0 at *;have e9:((b0.en.length+1+m':Nat):Int)=(b0.en.length:Int)+1+(m':Int):=by omega
 have lp:fD (aF 4) uD (fH 0 130) M [some (.dat (ob 0)),some (.dat (.int ((i:Int)+1))),some (.dat (.list S0)),some (.dat (.int 0)),none,none,none]=_:=lp;simp[Ke,X7,hc1,aN,cR,h1,lp,hc2,h2,hst,hst2,e9,htk,k1]
theorem aah{M:Mo}{L:Lay}{n s:Nat}{c:aH}(hL:L.c=0)(a:At M L c)(I:Inv n s c)(hs:s<=76)(hn:n<=400)(S:∀b∈c.bs,Zj c.al.length b)(F:Cf c)(x0 x2 x3:Option Cell):∀(ks:List Nat) (x5:Option Cell),(∀k∈ks,k < c.bs.length)->∃y5,fD (aF 5) Cq (ks.map λ(k:Nat)=>PyData.int (k:Int)) M [x0,some (.dat (ob 0)),x2,x3,some (.dat (lu c)),x5]=.next [x0,some (.dat (ob 0)),x2,x3,some (.dat (lu c)),y5] M
 |[],x5,_=>⟨x5,rfl⟩
 |k::ks,x5,h=>by
  have hk:=h k aq4;have e3:=ae4 hL a I hs hn S F (aq0 hk);have hb:Cq M [x0,some (.dat (ob 0)),x2,x3,some (.dat (lu c)),some (.dat (.int (k:Int)))]=.next [x0,some (.dat (ob 0)),x2,x3,some (.dat (lu c)),some (.dat (.int (k:Int)))] M:=by simp[Cq,e3]
  obtain⟨y5,h2⟩:=aah hL a I hs hn S F x0 x2 x3 ks (some (.dat (.int (k:Int)))) λj hj=>h j (aq3 _ hj);exact⟨y5,by rw[aq1,fW (Z1:=[x0,some (.dat (ob 0)),x2,x3,some (.dat (lu c)),some (.dat (.int (k:Int)))]) (by simp) hb];exact h2⟩
theorem afS(ns:List Int)(h:ns.length<=63):∃M,Ss [] [.list (ns.map PyData.int)]=.ok (.bool true) M:=by
 obtain⟨M0,L,hL,h0,a0⟩:=anu;have cell0:Ao M0 [lI ns,.int 0]=_:=aa5 M0 ns 0;have hl:=ahC ns 1 44 (by decide);generalize hcl:Rf.cutD ns (some ((1:Nat):Int)) (some ((44:Nat):Int))=cells at hl;have hcl2:Rf.cutD (ns.map PyData.int) (some 1) (some 44)=cells.map PyData.int:=by rw[ais];exact congrArg _ hcl
 obtain⟨c,M1,L1,hL1,h1,N1⟩:=aip a0 cells (by omega) (if ns.getD 0 0 < 0 then -(ns.getD 0 0) else ns.getD 0 0);have cell1:Ao M1 [lI ns,.int 1]=_:=aa5 M1 ns 1;have I:=N1.inv;have f0:=I.hL;have S:=N1.rch.all abC (by decide);have F:=N1.rch.cf;have hL2:=hL1.trans hL;rw[hL]at h1;have ends:∀{M:Mo} {L:Lay} {n:Nat} {c:aH} (hL:L.c=0) (a:At M L c) (I:Inv n 71 c) (hn:n<=400) (S:∀b∈c.bs,Zj c.al.length b) (F:Cf c) (x0 x2 x3:Option Cell),∃y5,fD (aF 5) Cq (fH 0 c.bs.length) M [x0,some (.dat (ob 0)),x2,x3,some (.dat (lu c)),none]=.next [x0,some (.dat (ob 0)),x2,x3,some (.dat (lu c)),y5] M:=λ{M L n c} hL a I hn S F x0 x2 x3=>by
  have hr:fH 0 c.bs.length=(List.range c.bs.length).map λ(k:Nat)=>PyData.int (k:Int):=by simp[fH]
  rw[hr];exact aah hL a I (by decide) hn S F x0 x2 x3 (List.range c.bs.length) none λk hk=>List.mem_range.mp hk
 generalize hhd:(if ns.getD 0 0 < 0 then -(ns.getD 0 0) else ns.getD 0 0)=hd at *;have hhd2:(if ns.getD 0 0 < 0 then PyData.int (-(ns.getD 0 0)) else PyData.int (ns.getD 0 0))=.int hd:=by rw[←hhd];split<;>rfl
 generalize hz:(if ns.getD 1 0 < 0 then -(ns.getD 1 0) else ns.getD 1 0)=z at *;have hz2:(if ns.getD 1 0 < 0 then PyData.int (-(ns.getD 1 0)) else PyData.int (ns.getD 1 0))=.int z:=by rw[←hz];split<;>rfl
 have hc1:=N1.at_.hc;rw[hL2]at hc1;have i2:aV (j9 c) (.int 2)=.ok (.int c.bs.length):=rfl;have hd8:decide (CDiv z 8)=true:=decide_eq_true ⟨by decide,by decide⟩;generalize ns.getD 0 0=z0 at *;generalize ns.getD 1 0=z1 at *;have done:∀{M:Mo} {L:Lay} {n:Nat} {c':aH} (hL:L.c=0) (a:At M L c') (I:Inv n 71 c') (hn:n<=400) (S:∀b∈c'.bs,Zj c'.al.length b) (F:Cf c') (x2:Option Cell),∃y5,fD (aF 5) Cq (fH 0 c'.bs.length) M [some (.dat (lI ns)),some (.dat (ob 0)),x2,some (.dat (.int z)),some (.dat (lu c')),none]=.next [some (.dat (lI ns)),some (.dat (ob 0)),x2,some (.dat (.int z)),some (.dat (lu c')),y5] M/\M[0]?=some (aN L c')/\nu M [ob 0]=.ok (lu c')/\(c'.bs.length:Int)<=100000/\-100000<=(c'.bs.length:Int)/\(fH 0 c'.bs.length).length<=50000:=λ{M L n c'} hL a I hn S F x2=>by
  obtain⟨y5,lp⟩:=ends hL a I hn S F (some (.dat (lI ns))) x2 (some (.dat (.int z)));have hc:=a.hc;have f1:=I.hL;have l1:=ahu a I (by decide);rw[hL]at hc l1;exact⟨y5,lp,hc,l1,by omega,by omega,by simp[fH];omega⟩
 by_cases q:z % 8=3/\0 < c.bs.length
 ·obtain⟨i,hi⟩:∃i:Nat,z / 8 % (c.bs.length:Int)=i:=⟨(z / 8 % (c.bs.length:Int)).toNat,by have:=Int.emod_nonneg (z / 8) (b:=(c.bs.length:Int)) (by omega);omega⟩;have hi2:i < c.bs.length:=by
   have:=Int.emod_lt_of_pos (z / 8) (b:=(c.bs.length:Int)) (by omega);omega
  obtain⟨M2,L2,c2,g1,g2,g3,g4,g5,g6⟩:=ag5 (M:=M1) (L:=L1) (c:=c) (i:=i) (b0:=c.bs[i]) ⟨hL2,N1.at_,I,I.al,S,F,⟨c.bs[i],[],aq0 hi2,rfl,by simp,rfl⟩⟩ (aq0 hi2);refine⟨M2,?_⟩;obtain⟨y5,lp,hc2,l2,b1,b2,b3⟩:=done g2 g3 g4 (by decide) g5 g6 (some (.dat (j9 c)));have q2:0 < (c.bs.length:Int):=by omega
  have e1:(1:Int)+i=(i:Int)+1:=by omega
  simp only[Ss,Xi];simp[-Rf.ev_if,h0,cell0,cell1,hcl2,hhd,hhd2,hz,hz2,h1];simp[q.1,i2,q.2,hd8,hi,e1,g1,hc2,aN,oZ,l2,b1,b2,b3,lp]
 ·refine⟨M1,?_⟩;obtain⟨y5,lp,hc2,l2,b1,b2,b3⟩:=done hL2 N1.at_ I (by decide) S F (some (.dat (j9 c)));simp only[Ss,Xi];simp[-Rf.ev_if,h0,cell0,cell1,hcl2,hhd,hhd2,hz,hz2,h1];by_cases q8:z % 8=3
  ·have q9:¬0 < c.bs.length:=λy=>q ⟨q8,y⟩;simp[q8,i2,q9,hc2,aN,oZ,l2,b1,b2,b3,lp]
  ·simp[q8,hc2,aN,oZ,l2,b1,b2,b3,lp]
end Pr
open PySem PySem.W PySem.Calls PyProof.Rows
set_option maxHeartbeats 0 in
theorem PySem.Challenge.cw_earmarks_k56_whole_beasts_and_stories_holds : PySem.Challenge.rw_earmarks_k56_whole_beasts_and_stories.Holds := by
 w_on;o_law
 refine HandSHeadRun.head_any (r:=OpenLaw.row PySem.Challenge.rw_earmarks_k56_whole_beasts_and_stories) (q:=view (OpenLaw.row PySem.Challenge.rw_earmarks_k56_whole_beasts_and_stories).prog [88]) (H:=Pr.hkE) (ob:=Pr.obE) (M:=40000) (loose:=Pr.nm) (d:=HandSHeadRun.topDef (OpenLaw.row PySem.Challenge.rw_earmarks_k56_whole_beasts_and_stories).prog 88) (kwd:=[]) Pr.ajm (by kernel_rfl) (λs=>by kernel_rfl) Pr.run (by kernel_rfl) (by kernel_rfl) (by kernel_rfl) (by rfl) (by first | assumption | decide +kernel) (by decide +kernel) ⟨rfl,rfl,rfl,rfl,rfl,by decide +kernel⟩ ?hw ?hc
 case hw=>w_witness2
 case hc=>
  refine L2.walk_ofE (l:=PySem.Challenge.rw_earmarks_k56_whole_beasts_and_stories) (n:=63) (k:=14) (x:="_law_script") (CX:=L2.CX0) rfl (by decide) (by kernel_rfl) ⟨rfl,by decide,by decide⟩ ?F (λ_ _ _ _ z=>z)
  intro w mg fa h Y G hmg0;obtain⟨K,KX,c⟩:=Y;have hmg:mg ("law" : PySem.Str)=some (.ref fa):=by
   have e:(HandSHeadRun.topDef (OpenLaw.row PySem.Challenge.rw_earmarks_k56_whole_beasts_and_stories).prog 88).name=("law" : PySem.Str):=by kernel_rfl
   rw[←e];exact hmg0
  have T:Pr.Top w K mg:=⟨⟨h,KX,G⟩,c⟩;have e:=hmg.symm.trans (T.glo 101);cases e;obtain⟨fd,F⟩:=T.c.V1 101;have b:=L2.FunD.bindsA (ps:=["_law_script"]) F λ_ _ _ _ _ _ us hl=>match us,hl with|[_],_=>rfl
  exact⟨K,fd,λvs H Q _=>Rf.JG K (Pr.aj w K) 1 Pr.Ss vs H Q λ_ _ _=>False,KX,λs v=>b s [v] rfl,λH a ns hl _ hS=>(Pr.afS ns hl).elim λ_ z=>Rf.alC rfl hS z,λbase _ _=>Rf.ab4 (Pr.al0 T F)⟩

import PyProof.Rows.All
import Wide.All
import OpenK.AllK
import Wide.FinOn
import HandS.ForMost
import HandS.Evl
import HandS.Walk
import HandS.Zip
import HandS.IsInst
import HandS.Style
import HandS.FStr
import HandS.Strs
import HandS.TupAny
import HandS.Deep
import HandS.Exc
import HandS.TryOnly
import HandS.ExcOwn
import HandS.WordsExc
import KE.GoesMore
import KE.GoesEnum
import KE.DataMinMax
import KE.SortData
import HandS.SortKw
import HandS.TupSets
import HandS.SetBool
import KE.KeyNested
import PyProof.Transfer
import HandS.DictComp
import HandS.Conv
import KE.KDictKeyed
import HandS.ExcField
import HandS.ExcInit
import HandS.TryMany
import HandS.HeadHook4
import HandS.HeadHook3
import HandS.HeadHook2
import HandS.HeadHook1
import HandS.HeadEnd
import HandS.Head2
import HandS.Head1
import HandS.Head0
import KE.KStateDown
import HandS.Flow
import KE.KUnpackStar
import KE.GoesEnumKw
import KE.KTupSum
import PySem.Challenge.RW_earmarks_k35_born
set_option Elab.async false
set_option linter.all false
set_option maxRecDepth 100000
set_option maxHeartbeats 2000000
abbrev ap8:=@Option.bind_eq_some_iff
abbrev ap9:=@PySem.W.Frag
abbrev aqa:=@Bool.and_eq_true
abbrev aqb:=@List.getElem?_eq_some_iff
abbrev aqc:=@List.getElem?_eq_getElem
abbrev aqd:=@List.map_cons
abbrev aqe:=@List.mem_cons_of_mem
abbrev aqf:=@List.mem_cons_self
abbrev aqg:=@List.mem_singleton
abbrev aqh:=@List.mem_of_getElem?
abbrev aqi:=@List.getElem?_set_ne
abbrev aqj:=@List.length_map
abbrev aqk:=@List.mem_map
abbrev aql:=@List.getElem?_append_left
abbrev aqm:=@List.getElem?_map
abbrev aqn:=@List.length_cons
abbrev aqo:=@List.mem_append
abbrev aqp:=@List.mem_cons
abbrev aqq:=@List.length_filter_le
abbrev aqr:=@List.getElem?_set_self
abbrev aqs:=@Bool.not_eq_true'
abbrev aqt:=@List.getElem?_append_right
abbrev aqu:=@List.all_eq_true
abbrev aqv:=@Option.some.inj
abbrev aqw:=@List.mem_filter
abbrev aqx:=@Function.comp_def
abbrev aqy:=@List.length_set
abbrev aqz:=@Nat.le_refl
abbrev aqA:=@List.lookup_cons
abbrev aqB:=@Nat.le_trans
abbrev aqC:=@List.ext_getElem?
abbrev aqD:=@List.getElem?_eq_none
abbrev aqE:=@Bool.false_eq_true
abbrev aqF:=@List.map_append
abbrev aqG:=@Nat.ne_of_lt
abbrev aqH:=@List.map_map
abbrev aqI:=@List.not_mem_nil
abbrev aqJ:=@Array.length_toList
abbrev aqK:=@List.all_cons
abbrev aqL:=@List.mem_append_left
abbrev aqM:=@Nat.zero_le
abbrev aqN:=@Array.getElem?_toList
abbrev aqO:=@List.length_append
abbrev aqP:=@List.getElem_mem
abbrev aqQ:=@List.nodup_append
abbrev aqR:=@List.append_nil
abbrev aqS:=@List.length_reverse
abbrev aqT:=@Nat.succ.inj
abbrev aqU:=@List.filter_cons
abbrev aqV:=@Option.map_eq_some_iff
abbrev aqW:=@List.drop_eq_getElem_cons
abbrev aqX:=@List.getElem?_zip_eq_some
abbrev aqY:=@List.getElem?_mapIdx
abbrev aqZ:=@List.nodup_cons
abbrev aq0:=@List.getElem?_set
abbrev aq1:=@List.any_cons
abbrev aq2:=@List.drop_length
abbrev aq3:=@List.zip_cons_cons
abbrev aq4:=@List.mem_append_right
abbrev aq5:=@Nat.lt_succ_of_lt
abbrev aq6:=@List.reverse_cons
abbrev aq7:=@List.mem_of_mem_take
abbrev aq8:=@List.map_nil
abbrev aq9:=@List.eraseDups_cons
abbrev ara:=@List.filter_eq_self
abbrev arb:=@Bool.eq_iff_iff
abbrev ard:=@List.foldl_cons
abbrev arf:=@List.filter_filter
abbrev arh:=@List.size_toArray
abbrev ari:=@List.nodup_nil
abbrev arj:=@List.any_map
abbrev ark:=@List.length_drop
abbrev arl:=@Nat.add_sub_cancel'
abbrev arn:=@Nat.add_left_cancel
abbrev aro:=@Bool.or_eq_true
abbrev arp:=@List.drop_zero
namespace Rf
open PySem PySem.Spec PyProof.Rows L2 HandSHeadRun
abbrev Dat:=PyData
abbrev Ft:=List (Str×List Str)
structure K7(fa:List He.Fa)(fn:List He.DefD)(tb:List He.Tab)(ex:ap9->Bool)(w:World)(K:ap9):Prop where
 t:He.SaysT fa fn tb w K
 more:ex K=true
def abI(as:List Addr)(fa:List He.Fa)(fn:List He.DefD)(tb:List He.Tab)(ex:ap9->Bool)(g:Addr->Option Obj):He.AlX:=(He.obsT fa fn tb (He.frG g as),ex (He.frG g as))
def aa8(as:List Addr)(fa:List He.Fa)(fn:List He.DefD)(tb:List He.Tab)(ex:ap9->Bool):PySem.W.Hook where
 α:=He.AlX
 obs:=fun s=>abI as fa fn tb ex s.heap.get?
 val:=fun w=>He.valX fn tb w
 says:=fun w h=>∃K:ap9,K.In h/\K7 fa fn tb ex w K
 of:=fun w s e=>⟨_,He.frG_in,⟨congrArg (fun z:He.AlX=>z.1) e,congrArg (fun z:He.AlX=>z.2) e⟩⟩
 keeps:=fun _ _ _ ⟨K,hK,c⟩ k=>⟨K,PySem.W.Frag.In.keeps hK k,c⟩
theorem ag5{as:List Addr}{fa:List He.Fa}{fn:List He.DefD}{tb:List He.Tab}{ex:ap9->Bool}{g:Addr->Option Obj}{s:Shared}(h:∀a,g a=s.heap.get? a):abI as fa fn tb ex g=(aa8 as fa fn tb ex).obs s:=by
 rw[show g=s.heap.get? from funext h]
 rfl
def Jw(K:ap9)(ft:Ft):Bool:=ft.all fun p=>(He.Fa.cls p.1).ok K&&p.2.all fun f=>(He.Fa.noat p.1 f).ok K
def xmB(K:ap9)(xm:List (Str×List (Str×Bool))):Bool:=xm.all fun p=>p.2.all fun q=>(He.Fa.exm q.1 p.1 q.2).ok K
def aiO(K:ap9)(C:Addr):Bool:=(match K.lookup C with
 |some ⟨.type t,_,.cls cd,sl⟩=>decide (t="type")&&(match cd.mro,sl.toList with
  |.ref C'::bm,[_,_,_,_,some (.builtin n),_]=>decide (C'=C)&&(decide (n="ValueError.__new__")&&(!cd.hasDel&&(cd.hasDict&&PySem.HandSPX.refsVE bm)))
  |_,_=>false)
 |_=>false)&&(He.eqO (PySem.W.findIn K (.ref C) "__setattr__") (some (some (.builtin "object.__setattr__")))&&(decide (PySem.W.subIn K (.ref C) (.type "BaseException")=some true)&&(decide (PySem.W.typeIn K (.ref C)=some (.type "type"))&&PySem.W.keepIn K (.ref C))))
def R4(K:ap9)(x:Str)(fs:List Str):Bool:=aiO K (He.ga K x)&&(He.eqO (PySem.W.findIn K (.ref (He.ga K x)) "__init__") (some (some (.ref (He.ma K (He.ga K x) "__init__"))))&&(decide (PySem.W.typeIn K (.ref (He.ma K (He.ga K x) "__init__"))=some (.type "function"))&&(xfB K (He.ga K x)&&fs.all fun f=>He.eqO (PySem.W.findIn K (.ref (He.ga K x)) f) (some none))))
def Ww(K:ap9)(a:Addr)(xs:List Str):Bool:=match K.lookup a with
 |some ⟨.type c,_,.seq its _,_⟩=>decide (c="tuple")&&(decide (its.size<=sizeLine)&&He.relAll (xs.map V.str) its.toList)
 |_=>false
def aeQ(K:ap9)(x:Str)(kvs:List (Str×List Str)):Bool:=(match K.lookup (He.ga K x) with
 |some ⟨_,_,.dict es _,_⟩=>es.toList.all (fun e=>(match e.key with
   |.str y _=>(kvs.map (·.1)).contains y
   |_=>false)&&!e.refKey)
 |_=>false)&&(decide ((kvs.map (·.1)).Nodup)&&kvs.all fun q=>match PySem.W.nsIn K (He.ga K x) q.1 with
  |some (some (.ref a))=>Ww K a q.2
  |_=>false)
section
open PySem.W PySem.Calls
noncomputable abbrev ajo (r:PySem.W.OpenRow) (M:Nat) (w:World) (os:PySem.OsState):Option PySem.W.SharedT:=endF (stepQ (denQ tabQ) r.prog w) M r.prog w os
def aeD(r:PySem.W.OpenRow)(q:Program)(as:List Addr)(ex:ap9->Bool)(M:Nat)(loose:List Str)(w:World):Prop:=∀os,(ajo r M w os).map (fun s=>(looksF r.prog (boot_heap w.params) s.abs,HandSHeadRun.seenQ q loose (importedModules r.prog.main.body) (fun s=>PySem.W.xlAt q [] s&&PySem.W.recOk r.toRowW.records s) s.abs,ex (He.frG (getT s) as)))=some (true,PySem.W.openGood q loose,true)
def aew(r:PySem.W.OpenRow)(as:List Addr)(fa:List He.Fa)(fn:List He.DefD)(tb:List He.Tab)(M:Nat)(w:World):Prop:=∀os,(ajo r M w os).map (fun s=>He.obsT fa fn tb (He.frG (getT s) as))=some (He.valT fn tb w)
theorem Um{r:PySem.W.OpenRow}{q:Program}{as:List Addr}{fa:List He.Fa}{fn:List He.DefD}{tb:List He.Tab}{ex:ap9->Bool}{M:Nat}{loose:List Str}{w:World}
  (a:aeD r q as ex M loose w) (c:aew r as fa fn tb M w):RunEq r q (aa8 as fa fn tb ex) (fun s=>abI as fa fn tb ex (getT s)) M loose w:=fun os=>by
 obtain⟨s,hs,h1⟩:=aqV.mp (a os)
 obtain⟨h1,h2⟩:=Prod.mk.inj h1
 obtain⟨h2,h4⟩:=Prod.mk.inj h2
 have h3:=c os
 have hs':endF (stepQ (denQ tabQ) r.prog w) M r.prog w os=some s:=hs
 rw[hs,Option.map_some]at h3
 have h3:=aqv h3
 rw[hs',Option.map_some]
 exact congrArg some (Prod.ext h1 (Prod.ext h2 (Prod.ext h3 h4)))
end
end Rf
namespace Pr
open PySem PySem.Spec PyProof.Rows L2 Evl Rf
def cQ:Dat:=.int 9
def iT:Dat:=.int 1
def jU:Dat:=.int 3
def fY:Dat:=.int 9
def iD:Dat:=.tuple [.str "lt",.str "lf",.str "lh",.str "rt",.str "rf",.str "rh"]
def jd:Dat:=.tuple [.int 0,.int 0,.int 0,.int 0,.int 0,.int 0]
def nH:Dat:=.int 999999999
def xQ:List (Str×List Str):=[("owner",[]),("ground",["number"]),("enrol",["number","number","ear"]),("leave",["number","number"]),("bring",["number","number","ear"]),("bear",["number"]),("cut",["number"]),("tear",["number","place"]),("sell",["number","number"]),("move",["number","number"]),("die",["number"]),("unite",["number","number"]),("part",["number"]),("pass",["number","number"]),("heir",["number","number","number"])]
def jN:Ft:=[("Beast",["story","mother","owner","ground","due","ear","alive"]),("Herd",["beasts"]),("Grounds",["allowances","circles"]),("Rights",["held"]),("Commons",["owner_count","holders","grounds","rights","herd"])]
def tK:List (Str×Bool):=[("NoGround",true),("NoOwner",true),("NoRight",true),("HasRight",true),("NoneFree",true),("BadExtra",true),("BadAllowance",true),("Clash",true),("BadEar",true),("Bare",true),("StillThere",true),("NoBeast",true),("Dead",true),("Unmarked",true),("Deepest",true),("NoPlace",true),("SameOwner",true),("SameGround",true),("Together",true),("Alone",true),("BadDeed",true)]
def G4:List (Str×Bool):=[("NoGround",false),("NoOwner",false),("NoRight",false),("HasRight",false),("NoneFree",false),("BadExtra",false),("BadAllowance",false),("Clash",false),("BadEar",false),("Bare",false),("StillThere",false),("NoBeast",true),("Dead",false),("Unmarked",false),("Deepest",false),("NoPlace",false),("SameOwner",false),("SameGround",false),("Together",false),("Alone",false),("BadDeed",false)]
def RL:List (Str×Bool):=[("NoGround",false),("NoOwner",false),("NoRight",false),("HasRight",false),("NoneFree",false),("BadExtra",false),("BadAllowance",false),("Clash",false),("BadEar",false),("Bare",false),("StillThere",false),("NoBeast",false),("Dead",true),("Unmarked",false),("Deepest",false),("NoPlace",false),("SameOwner",false),("SameGround",false),("Together",false),("Alone",false),("BadDeed",false)]
def Dy:List (Str×Bool):=[("NoGround",false),("NoOwner",false),("NoRight",false),("HasRight",false),("NoneFree",false),("BadExtra",false),("BadAllowance",false),("Clash",false),("BadEar",false),("Bare",false),("StillThere",false),("NoBeast",false),("Dead",false),("Unmarked",true),("Deepest",false),("NoPlace",false),("SameOwner",false),("SameGround",false),("Together",false),("Alone",false),("BadDeed",false)]
def xmH:List (Str×List (Str×Bool)):=[("CommonError",tK),("NoBeast",G4),("Dead",RL),("Unmarked",Dy)]
def dfH:List (Str×Bool):=[("held",true),("holders",false)]
def U6:List (Str×List Str):=[("Clash",["ones","others","ear"])]
def aW(i:Nat):Stmt:=PySem.Challenge.pw_earmarks_k35_born.main.body.getD i (.Pass ⟨0,0,0,0⟩)
abbrev Fy:Stmt:=inClass (aW 50) 0
abbrev IV:Stmt:=inClass (aW 55) 0
abbrev Mw:Stmt:=inClass (aW 35) 0
abbrev FP:Stmt:=inClass (aW 66) 0
abbrev Jb:Stmt:=inClass (aW 34) 2
abbrev KH:Stmt:=inClass (aW 34) 4
abbrev Br:Stmt:=inClass (aW 66) 17
abbrev Ao:Stmt:=inClass (aW 55) 1
abbrev Ed:Stmt:=inClass (aW 50) 3
abbrev Iv:Stmt:=inClass (aW 50) 2
abbrev Fq:Stmt:=inClass (aW 50) 4
abbrev xg:Stmt:=inClass (aW 50) 5
abbrev zf:Stmt:=inClass (aW 50) 6
abbrev zu:Stmt:=inClass (aW 66) 19
abbrev Ge:Stmt:=inClass (aW 66) 32
abbrev s_row:Stmt:=aW 70
abbrev Xr:Stmt:=aW 71
abbrev aft:Stmt:=aW 72
abbrev MF:Stmt:=aW 73
abbrev Ut:Stmt:=aW 74
abbrev wA:Stmt:=inClass (aW 66) 33
abbrev Eh:Stmt:=inClass (aW 55) 3
abbrev zB:Stmt:=inClass (aW 55) 4
abbrev vZ:Stmt:=inClass (aW 66) 34
abbrev xq:Stmt:=inClass (aW 66) 1
abbrev zK:Stmt:=inClass (aW 55) 2
abbrev acW:Stmt:=aW 47
abbrev aaW:Stmt:=aW 44
abbrev Mz:Stmt:=aW 52
abbrev aaE:Stmt:=aW 45
abbrev ac8:Stmt:=aW 46
abbrev JB:Stmt:=aW 53
abbrev wO:Stmt:=inClass (aW 66) 35
abbrev Yx:Stmt:=aW 57
abbrev Ak:Stmt:=inClass (aW 35) 5
abbrev Eb:Stmt:=inClass (aW 35) 6
abbrev wZ:Stmt:=inClass (aW 55) 7
abbrev uL:Stmt:=inClass (aW 66) 22
abbrev yU:Stmt:=inClass (aW 66) 21
abbrev Ea:Stmt:=inClass (aW 50) 7
abbrev Ef:Stmt:=inClass (aW 66) 18
abbrev zA:Stmt:=inClass (aW 66) 15
abbrev wB:Stmt:=inClass (aW 50) 1
abbrev wJ:Stmt:=inClass (aW 66) 2
abbrev Vc:Stmt:=aW 58
abbrev aas:Stmt:=aW 43
abbrev QK:Stmt:=aW 59
abbrev wL:Stmt:=inClass (aW 66) 36
abbrev Y4:Stmt:=aW 28
abbrev Pn:Stmt:=aW 65
abbrev Dc:Stmt:=inClass (aW 66) 3
abbrev Ip:Stmt:=inClass (aW 55) 5
abbrev CZ:Stmt:=inClass (aW 66) 4
abbrev BJ:Stmt:=inClass (aW 34) 1
abbrev aaj:Stmt:=aW 30
abbrev Kw:Stmt:=inClass (aW 34) 0
abbrev Bw:Stmt:=inClass (aW 35) 1
abbrev Df:Stmt:=inClass (aW 66) 5
abbrev J9:Stmt:=inClass (aW 35) 2
abbrev Im:Stmt:=inClass (aW 35) 3
abbrev Ir:Stmt:=inClass (aW 35) 4
abbrev Fj:Stmt:=inClass (aW 66) 6
abbrev Qa:Stmt:=aW 32
abbrev Ve:Stmt:=aW 31
abbrev Fp:Stmt:=inClass (aW 34) 3
abbrev Ja:Stmt:=inClass (aW 66) 7
abbrev Gg:Stmt:=inClass (aW 66) 8
abbrev Io:Stmt:=inClass (aW 35) 8
abbrev zG:Stmt:=inClass (aW 35) 9
abbrev Gf:Stmt:=inClass (aW 66) 9
abbrev El:Stmt:=inClass (aW 66) 10
abbrev IK:Stmt:=inClass (aW 66) 11
abbrev Qz:Stmt:=aW 60
abbrev yS:Stmt:=inClass (aW 66) 24
abbrev Aq:Stmt:=inClass (aW 50) 10
abbrev Di:Stmt:=inClass (aW 50) 8
abbrev Dj:Stmt:=inClass (aW 66) 12
abbrev Fg:Stmt:=inClass (aW 50) 9
abbrev Ez:Stmt:=inClass (aW 66) 13
abbrev zm:Stmt:=inClass (aW 55) 6
abbrev Jq:Stmt:=inClass (aW 35) 7
abbrev Ah:Stmt:=inClass (aW 66) 14
abbrev Mr:Stmt:=aW 40
abbrev acg:Stmt:=aW 39
abbrev JK:Stmt:=inClass (aW 66) 16
abbrev ace:Stmt:=aW 75
abbrev adh:Stmt:=aW 76
abbrev Vv:Stmt:=aW 77
abbrev afA:Stmt:=aW 78
abbrev acP:Stmt:=aW 79
abbrev adC:Stmt:=aW 80
abbrev abS:Stmt:=aW 69
abbrev aaC:Stmt:=aW 81
abbrev afg:Stmt:=aW 82
abbrev afC:Stmt:=aW 83
abbrev Ri:Stmt:=aW 68
abbrev afI:Stmt:=aW 86
abbrev acR:Stmt:=aW 87
abbrev Z4:Stmt:=aW 84
abbrev Qs:Stmt:=aW 85
abbrev Lg:Stmt:=aW 88
abbrev KJ:Stmt:=inClass (aW 23) 0
abbrev dM(c m q:Str)(s:Stmt):He.DefD:=⟨(c,some m),m,q,defArgs s,defBody s,defScope s,[],[]⟩
abbrev dF(x:Str)(s:Stmt):He.DefD:=⟨(x,none),x,x,defArgs s,defBody s,defScope s,[],[]⟩
def xsH:List Str:=["Grounds","Rights","Herd","Commons","Beast","NoGround","NoOwner","NoRight","HasRight","NoneFree","BadExtra","BadAllowance","Clash","BadEar","Bare","StillThere","NoBeast","Dead","Unmarked","Deepest","NoPlace","SameOwner","SameGround","Together","Alone","BadDeed","CommonError"]
def tbs:List He.Tab:=[(fun K=>He.ga K "SHAPES",["owner","ground","enrol","leave","bring","bear","cut","tear","sell","move","die","unite","part","pass","heir"])]
def nm0:List PySem.Str:=["_wall","CommonError","BadEar","Bare","BadAllowance","BadExtra","NoPlace","Deepest","NoOwner","NoGround","NoBeast","NoRight"]
def nm1:List PySem.Str:=["HasRight","StillThere","Dead","Unmarked","SameOwner","SameGround","Together","Alone","NoneFree","BadDeed","Clash","PLACES"]
def nm2:List PySem.Str:=["GREATEST_DEPTH","BARE_EAR","is_ear","begun","gone_on","deepened","Beast","Herd","SHAPES","GREATEST_PART","fits","part_fits"]
def nm3:List PySem.Str:=["deeper","joint","lacks","apart","meet","torn","GREATEST_ALLOWANCE","Grounds","offspring","first_free","Rights","tidied"]
def nm4:List PySem.Str:=["barring","ask_room","clashing","owners_of","FEWEST_EXTRA","MOST_EXTRA","need_ear","Commons","_law_herd_bad","_law_cell","_law_row","_law_ear_by"]
def nm5:List PySem.Str:=["_law_ear","_law_begun","_law_word_by","_law_done","_law_near","_law_mark_by","_law_ref","_law_deed","_law_play","_law_asked","_law_cut","_law_raw"]
def nm6:List PySem.Str:=["_law_whole","_law_like","_law_due","_law_tell"]
def nm:List PySem.Str:=nm0++nm1++nm2++nm3++nm4++nm5++nm6
def fa0:List He.Fa:=[.mkr "Grounds",.mkr "Rights",.mkr "Herd",.mkr "Commons",.meth "Beast" "stand",.meth "Beast" "told",.meth "Commons" "owners",.meth "Rights" "all_rows",.meth "Grounds" "many",.meth "Grounds" "has",.meth "Grounds" "need",.meth "Grounds" "allowance"]
def fa1:List He.Fa:=[.meth "Grounds" "together",.meth "Commons" "together",.meth "Commons" "look",.glo "_law_row",.glo "_law_ear_by",.glo "_law_ear",.glo "_law_begun",.glo "_law_word_by",.meth "Commons" "need_owner",.meth "Rights" "marks",.meth "Rights" "has_right",.meth "Commons" "need_right"]
def fa2:List He.Fa:=[.meth "Commons" "new_owner",.meth "Rights" "add_right",.glo "torn",.glo "lacks",.glo "offspring",.glo "apart",.glo "meet",.glo "first_free",.meth "Commons" "first_mark",.glo "tidied",.meth "Herd" "all_living",.meth "Herd" "grazing"]
def fa3:List He.Fa:=[.meth "Rights" "in_grounds",.meth "Commons" "standing_but",.meth "Commons" "standing",.meth "Grounds" "room",.meth "Commons" "room",.meth "Commons" "new_heir",.meth "Grounds" "add_ground",.meth "Commons" "new_ground",.glo "barring",.glo "joint",.glo "ask_room",.meth "Commons" "ask_ground"]
def fa4:List He.Fa:=[.glo "is_ear",.glo "need_ear",.meth "Commons" "enrol",.meth "Rights" "drop",.meth "Commons" "leave",.meth "Beast" "stand_so",.glo "begun",.mkr "Beast",.meth "Herd" "add_beast",.meth "Commons" "bring",.meth "Herd" "known",.meth "Herd" "living"]
def fa5:List He.Fa:=[.meth "Herd" "marked",.meth "Commons" "bear",.glo "deepened",.glo "gone_on",.meth "Beast" "befall",.meth "Commons" "cut",.meth "Commons" "tear",.meth "Herd" "calves",.meth "Herd" "lead_calves",.meth "Commons" "sell",.meth "Commons" "move",.meth "Commons" "die"]
def fa6:List He.Fa:=[.glo "clashing",.meth "Commons" "quarrels",.meth "Grounds" "enclose",.meth "Grounds" "unite",.meth "Commons" "unite",.meth "Grounds" "part",.meth "Commons" "part",.meth "Rights" "hand_over",.meth "Herd" "owned",.meth "Commons" "pass_on",.glo "part_fits",.glo "fits"]
def fa7:List He.Fa:=[.meth "Commons" "do",.glo "_law_done",.glo "_law_near",.glo "_law_mark_by",.glo "_law_ref",.glo "_law_deed",.glo "_law_play",.glo "_law_cell",.glo "_law_asked",.glo "_law_cut",.glo "_law_raw",.glo "_law_herd_bad"]
def fa8:List He.Fa:=[.glo "_law_due",.glo "_law_tell",.glo "_law_whole",.glo "_law_like",.glo "law",.glo "Grounds",.glo "Rights",.glo "Herd",.glo "Commons",.glo "Beast",.glo "NoGround",.exc "NoGround"]
def fa9:List He.Fa:=[.glo "NoOwner",.exc "NoOwner",.glo "NoRight",.exc "NoRight",.glo "HasRight",.exc "HasRight",.glo "NoneFree",.exc "NoneFree",.glo "BadExtra",.exc "BadExtra",.glo "BadAllowance",.exc "BadAllowance"]
def aml:List He.Fa:=[.glo "Clash",.glo "BadEar",.exc "BadEar",.glo "Bare",.exc "Bare",.glo "StillThere",.exc "StillThere",.glo "NoBeast",.exc "NoBeast",.glo "Dead",.exc "Dead",.glo "Unmarked"]
def alZ:List He.Fa:=[.exc "Unmarked",.glo "Deepest",.exc "Deepest",.glo "NoPlace",.exc "NoPlace",.glo "SameOwner",.exc "SameOwner",.glo "SameGround",.exc "SameGround",.glo "Together",.exc "Together",.glo "Alone"]
def alM:List He.Fa:=[.exc "Alone",.glo "BadDeed",.exc "BadDeed",.glo "CommonError",.exc "CommonError",.glo "SHAPES",.int "GREATEST_DEPTH" 9,.int "FEWEST_EXTRA" 1,.int "MOST_EXTRA" 3,.int "GREATEST_ALLOWANCE" 9,.glo "PLACES",.glo "BARE_EAR"]
def al4:List He.Fa:=[.int "GREATEST_PART" 999999999,.free "tuple",.free "list",.free "len",.free "range",.free "abs",.free "max",.free "min",.free "sum",.free "zip",.free "any",.free "sorted"]
def amq:List He.Fa:=[.free "set",.free "enumerate",.free "all",.free "isinstance",.free "int",.free "bool",.free "str"]
def fa:List He.Fa:=fa0++fa1++fa2++fa3++fa4++fa5++fa6++fa7++fa8++fa9++aml++alZ++alM++al4++amq
def fn0:List He.DefD:=[dM "Grounds" "__init__" "Grounds.__init__" Fy,dM "Rights" "__init__" "Rights.__init__" IV,dM "Herd" "__init__" "Herd.__init__" Mw,dM "Commons" "__init__" "Commons.__init__" FP,dM "Beast" "stand" "Beast.stand" Jb,dM "Beast" "told" "Beast.told" KH,dM "Commons" "owners" "Commons.owners" Br,dM "Rights" "all_rows" "Rights.all_rows" Ao,dM "Grounds" "many" "Grounds.many" Ed,dM "Grounds" "has" "Grounds.has" Iv,dM "Grounds" "need" "Grounds.need" Fq,dM "Grounds" "allowance" "Grounds.allowance" xg]
def fn1:List He.DefD:=[dM "Grounds" "together" "Grounds.together" zf,dM "Commons" "together" "Commons.together" zu,dM "Commons" "look" "Commons.look" Ge,dF "_law_row" s_row,dF "_law_ear_by" Xr,dF "_law_ear" aft,dF "_law_begun" MF,dF "_law_word_by" Ut,dM "Commons" "need_owner" "Commons.need_owner" wA,dM "Rights" "marks" "Rights.marks" Eh,dM "Rights" "has_right" "Rights.has_right" zB,dM "Commons" "need_right" "Commons.need_right" vZ]
def fn2:List He.DefD:=[dM "Commons" "new_owner" "Commons.new_owner" xq,dM "Rights" "add_right" "Rights.add_right" zK,dF "torn" acW,dF "lacks" aaW,dF "offspring" Mz,dF "apart" aaE,dF "meet" ac8,dF "first_free" JB,dM "Commons" "first_mark" "Commons.first_mark" wO,dF "tidied" Yx,dM "Herd" "all_living" "Herd.all_living" Ak,dM "Herd" "grazing" "Herd.grazing" Eb]
def fn3:List He.DefD:=[dM "Rights" "in_grounds" "Rights.in_grounds" wZ,dM "Commons" "standing_but" "Commons.standing_but" uL,dM "Commons" "standing" "Commons.standing" yU,dM "Grounds" "room" "Grounds.room" Ea,dM "Commons" "room" "Commons.room" Ef,dM "Commons" "new_heir" "Commons.new_heir" zA,dM "Grounds" "add_ground" "Grounds.add_ground" wB,dM "Commons" "new_ground" "Commons.new_ground" wJ,dF "barring" Vc,dF "joint" aas,dF "ask_room" QK,dM "Commons" "ask_ground" "Commons.ask_ground" wL]
def fn4:List He.DefD:=[dF "is_ear" Y4,dF "need_ear" Pn,dM "Commons" "enrol" "Commons.enrol" Dc,dM "Rights" "drop" "Rights.drop" Ip,dM "Commons" "leave" "Commons.leave" CZ,dM "Beast" "stand_so" "Beast.stand_so" BJ,dF "begun" aaj,dM "Beast" "__init__" "Beast.__init__" Kw,dM "Herd" "add_beast" "Herd.add_beast" Bw,dM "Commons" "bring" "Commons.bring" Df,dM "Herd" "known" "Herd.known" J9,dM "Herd" "living" "Herd.living" Im]
def fn5:List He.DefD:=[dM "Herd" "marked" "Herd.marked" Ir,dM "Commons" "bear" "Commons.bear" Fj,dF "deepened" Qa,dF "gone_on" Ve,dM "Beast" "befall" "Beast.befall" Fp,dM "Commons" "cut" "Commons.cut" Ja,dM "Commons" "tear" "Commons.tear" Gg,dM "Herd" "calves" "Herd.calves" Io,dM "Herd" "lead_calves" "Herd.lead_calves" zG,dM "Commons" "sell" "Commons.sell" Gf,dM "Commons" "move" "Commons.move" El,dM "Commons" "die" "Commons.die" IK]
def fn6:List He.DefD:=[dF "clashing" Qz,dM "Commons" "quarrels" "Commons.quarrels" yS,dM "Grounds" "enclose" "Grounds.enclose" Aq,dM "Grounds" "unite" "Grounds.unite" Di,dM "Commons" "unite" "Commons.unite" Dj,dM "Grounds" "part" "Grounds.part" Fg,dM "Commons" "part" "Commons.part" Ez,dM "Rights" "hand_over" "Rights.hand_over" zm,dM "Herd" "owned" "Herd.owned" Jq,dM "Commons" "pass_on" "Commons.pass_on" Ah,dF "part_fits" Mr,dF "fits" acg]
def fn7:List He.DefD:=[dM "Commons" "do" "Commons.do" JK,dF "_law_done" ace,dF "_law_near" adh,dF "_law_mark_by" Vv,dF "_law_ref" afA,dF "_law_deed" acP,dF "_law_play" adC,dF "_law_cell" abS,dF "_law_asked" aaC,dF "_law_cut" afg,dF "_law_raw" afC,dF "_law_herd_bad" Ri]
def fn8:List He.DefD:=[dF "_law_due" afI,dF "_law_tell" acR,dF "_law_whole" Z4,dF "_law_like" Qs,dF "law" Lg,dM "Clash" "__init__" "Clash.__init__" KJ]
def fn:List He.DefD:=fn0++fn1++fn2++fn3++fn4++fn5++fn6++fn7++fn8
def exB(K:ap9):Bool:=true&&Jw K jN&&xmB K xmH&&(U6.all fun p=>xsH.contains p.1&&R4 K p.1 p.2)&&aeQ K "SHAPES" xQ&&He.tupB K "PLACES" [.str "lt",.str "lf",.str "lh",.str "rt",.str "rf",.str "rh"]&&He.tupB K "BARE_EAR" [.int 0,.int 0,.int 0,.int 0,.int 0,.int 0]
def ad0:List Addr:=[3,31,44,56,68,80,92,104,116,128,140,152,164,176,188,200,212,224,236,248,260,272,291,294]
def ad1:List Addr:=[295,300,307,314,319,364,447,452,472,479,484,489,494,501,508,513,596,605,610,670,681,686,693,698]
def ad2:List Addr:=[703,710,969,980,987,994,999,1006,1013,1020,1027,1034,1041,1048,1055,1062,1069,1076,1083,1090,1097,1104,1111,1118]
def ad3:List Addr:=[30,43,55,67,79,91,103,115,127,139,151,163,175,187,199,211,223,235,247,259,271,290,299,306]
def ad4:List Addr:=[313,318,363,446,453,454,455,456,457,458,459,460,461,462,463,464,465,466,467,471,478,483,488,493]
def ad5:List Addr:=[500,507,512,595,604,609,669,680,685,692,697,702,709,968,979,986,993,998,1005,1012,1019,1026,1033,1040]
def ad6:List Addr:=[1047,1054,1061,1068,1075,1082,1089,1096,1103,1110,1117,29,32,42,54,66,78,90,102,114,126,138,150,162]
def ad7:List Addr:=[174,186,198,210,222,234,246,258,270,288,289,333,340,347,354,361,362,365,366,382,389,396,403,410]
def ad8:List Addr:=[415,420,425,430,437,444,445,448,449,527,534,541,548,555,562,569,574,581,586,593,594,597,598,624]
def ad9:List Addr:=[631,638,643,650,657,662,667,668,671,672,724,731,738,745,750,757,764,771,778,785,792,799,806,813]
def amr:List Addr:=[818,825,832,839,846,853,860,867,872,879,886,893,900,907,914,919,926,933,938,945,952,959,966,967]
def alP:List Addr:=[970,971,287,332,339,346,353,360,381,388,395,402,409,414,419,424,429,436,443,526,533,540,547,554]
def ama:List Addr:=[561,568,573,580,585,592,623,630,637,642,649,656,661,666,723,730,737,744,749,756,763,770,777,784]
def amb:List Addr:=[791,798,805,812,817,824,831,838,845,852,859,866,871,878,885,892,899,906,913,918,925,932,937,944]
def alN:List Addr:=[951,958,965]
def ad:List Addr:=ad0++ad1++ad2++ad3++ad4++ad5++ad6++ad7++ad8++ad9++amr++alP++ama++amb++alN
abbrev R:PySem.W.OpenRow:=PySem.W.OpenLaw.row PySem.Challenge.rw_earmarks_k35_born
abbrev hkE:PySem.W.Hook:=aa8 ad fa fn tbs exB
def obE(s:PySem.W.SharedT):He.AlX:=abI ad fa fn tbs exB (HandSHeadRun.getT s)
theorem ahx(s:PySem.W.SharedT):obE s=hkE.obs s.abs:=ag5 (HandSHeadRun.getT_eq s)
abbrev wR(w:World)(b:Bool):World:=w.withFollow "special-get-raises" b
theorem akM(w:World):aeD R (PySem.W.view R.prog [88]) ad exB 40000 nm (wR w false):=by
 intro os
 kernel_rfl
theorem alg(w:World):aew R ad fa fn tbs 40000 (wR w false):=by
 intro os
 kernel_rfl
theorem runAt(w:World):aeD R (PySem.W.view R.prog [88]) ad exB 40000 nm (wR w true):=by
 intro os
 kernel_rfl
theorem akF(w:World):aew R ad fa fn tbs 40000 (wR w true):=by
 intro os
 kernel_rfl
theorem run(w:World):HandSHeadRun.RunEq R (PySem.W.view R.prog [88]) hkE obE 40000 nm w:=PySem.W.byRow2 "special-get-raises" (P:=fun w=>HandSHeadRun.RunEq R (PySem.W.view R.prog [88]) hkE obE 40000 nm w) (fun w=>Um (akM w) (alg w)) (fun w=>Um (runAt w) (akF w)) w
end Pr
namespace Ear
open PySem PySem.Spec PyProof.Rows L2 Evl RZ
section
variable{X:Cx}{C:Addr}{bmB:List Value}{B newId initId:String}
theorem aee{x:Str}{p pos:Pos}(F:ExcBaseFacts B newId initId bmB)(q:PySem.W.excIn X.K C bmB newId=true)(gC:X.mg x=some (.ref C))(kC:PySem.W.keepIn X.K (.ref C)=true)(r:Raises X (.ref C))(hg:Gl X x)
  (hn:(x==("__debug__" : Str))=false:=by decide):PMk X (.Call (.Name x p) [] [] pos) (fun _ H Q=>Q (.ref C) none H):=by
 intro pins s σ H Q I h
 refine wpAny_Call_Name_kw (ld_glob I hg gC ?_ hn)
 refine PySem.W.callWith_K0 I.kIn kC ?_
 show wpAny _ _ (call (.ref C) []) _ _ _
 obtain⟨bm,N,nm,qn,bs,hdct,sn,sub,ab,col,dd,k0,k1,k2,k3,k5,mN,hC,hN,hni,T⟩:=exc_obj I.kIn q
 refine wpAny_call_exc_subT F T hC hN hni (fun h' e hm=>?_) (aqM _)
 exact mk_of I hm r h (I.hok.gone hm.new)
end
theorem exm_one{K:ap9}{S:Addr}(h1:PySem.W.subIn K (.ref S) (.type "BaseException")=some true)(h2:PySem.W.isClsIn K S=true)(h3:PySem.W.typeIn K (.ref S)=some (.type "type"))(h4:PySem.W.subIn K (.ref S) (.ref S)=some true) :
  PySem.W.exmOne K (.ref S) (.ref S)=some true:=by
 have e1:(PySem.W.subIn K (.ref S) (.type "BaseException")==some true)=true:=by rw[h1] <;> rfl
 have e2:((PySem.W.clsIn K S).isSome&&PySem.W.typeIn K (.ref S)==some (.type "type"))=true:=by
  rw[h3,aqa]
  exact⟨h2,rfl⟩
 show(if (PySem.W.subIn K (.ref S) (.type "BaseException")==some true)=true then(if ((PySem.W.clsIn K S).isSome&&PySem.W.typeIn K (.ref S)==some (.type "type"))=true then PySem.W.subIn K (.ref S) (.ref S) else none) else none)=some true
 rw[if_pos e1,if_pos e2]
 exact h4
def al6(xs:List Int):Prop:=xs.length=6/\∀x∈xs,0<=x/\x<=9
section
variable{K:ap9}{σ:L2.St}{H:Hp}{te tl:TE}{tt:TT}{vs:List Nat}
def EvS(te:TE)(σ:L2.St)(H:Hp)(P:V->Hp->Prop):Prop:=∀H1,Ex H H1->∀Q:VK,(∀v H2,Ex H1 H2->P v H2->Q v H2)->te σ H1 Q
end
section
variable{K:ap9}{σ:L2.St}{H H':Hp}{te ta tb:TE}{t:TT}{P R:V->Hp->Prop}{v:V}
theorem EvS.mono(e:Ex H H')(h:EvS te σ H P):EvS te σ H' P:=fun H1 a Q q=>h H1 (e.trans a) Q q
theorem EvS.imp(h:EvS te σ H P)(k:∀v H',P v H'->R v H'):EvS te σ H R:=fun H1 e Q q=>h H1 e Q fun v H2 e2 p=>q v H2 e2 (k v H2 p)
end
end Ear
namespace Ear
open PySem PySem.Spec PyProof.Rows L2 Evl RZ
def eG{α:Type}(R:V->α->Prop)(ws:List V)(L:List α):Prop:=ws.length=L.length/\∀(i:Nat) (v:V) (x:α),ws[i]?=some v->L[i]?=some x->R v x
theorem eG.imp{α:Type}{R S:V->α->Prop}{ws:List V}{L:List α}(h:eG R ws L)(k:∀v x,R v x->S v x):eG S ws L:=⟨h.1,fun i v x a b=>k v x (h.2 i v x a b)⟩
theorem eG.nil{α:Type}{R:V->α->Prop}:eG R [] []:=⟨rfl,fun i v x a _=>by simp at a⟩
theorem eG.snoc{α:Type}{R:V->α->Prop}{ws:List V}{L:List α}{v:V}{x:α}(h:eG R ws L)(k:R v x):eG R (ws++[v]) (L++[x]):=by
 refine⟨by rw[aqO,aqO,h.1];rfl,fun i u y a b=>?_⟩
 by_cases hi:i < ws.length
 ·rw[aql hi]at a
  rw[aql (by rw[←h.1];exact hi)]at b
  exact h.2 i u y a b
 ·rw[aqt (by omega)]at a
  rw[aqt (by rw[←h.1];omega),←h.1]at b
  have hj:i - ws.length=0:=by
   have:=(aqb.mp a).1
   simp only[aqn,List.length_nil]at this
   omega
  rw[hj]at a b
  cases a
  cases b
  exact k
def Gn(H:Hp)(v:V)(l:List Int):Prop:=∃h:Addr,v=.ref h/\H h=some (.tup (l.map V.int))
theorem Gn.mono{H H':Hp}(e:Ex H H'){v:V}{l:List Int}(h:Gn H v l):Gn H' v l:=by
 obtain⟨a,e1,h1⟩:=h
 exact⟨a,e1,e _ _ h1⟩
theorem Gn.upd{H:Hp}{D:Addr}{acc:List V}{o:HO}(hD:H D=some (.lst acc)){v:V}{l:List Int}(h:Gn H v l):Gn (upd H D o) v l:=by
 obtain⟨a,e1,h1⟩:=h
 refine⟨a,e1,?_⟩
 rw[upd_ne (fun z=>by rw[z,hD]at h1;cases h1)]
 exact h1
abbrev Rw:Type:=Int×List Int
def Ld(H:Hp)(v:V)(r:Rw):Prop:=∃t m:Addr,v=.ref t/\H t=some (.tup [.int r.1,.ref m])/\H m=some (.tup (r.2.map V.int))
theorem Ld.mono{H H':Hp}(e:Ex H H'){v:V}{r:Rw}(h:Ld H v r):Ld H' v r:=by
 obtain⟨t,m,e1,h1,h2⟩:=h
 exact⟨t,m,e1,e _ _ h1,e _ _ h2⟩
theorem Ld.upd{H:Hp}{D:Addr}{acc:List V}{o:HO}(hD:H D=some (.lst acc)){v:V}{r:Rw}(h:Ld H v r):Ld (upd H D o) v r:=by
 obtain⟨t,m,e1,h1,h2⟩:=h
 refine⟨t,m,e1,?_,?_⟩
 ·rw[upd_ne (fun z=>by rw[z,hD]at h1;cases h1)]
  exact h1
 ·rw[upd_ne (fun z=>by rw[z,hD]at h2;cases h2)]
  exact h2
def aku(r:Rw):Prop:=1<=r.1/\al6 r.2
structure Tab(R:List Rw):Prop where
 len:R.length<=128
 ok:∀r∈R,aku r
 few:∃D:List Rw,D.length<=64/\∀r∈R,r∈D
theorem Tab.sub{R S:List Rw}(h:Tab R)(hs:∀r∈S,r∈R)(hl:S.length<=128):Tab S:=by
 obtain⟨D,d1,d2⟩:=h.few
 exact⟨hl,fun r hr=>h.ok r (hs r hr),D,d1,fun r hr=>d2 r (hs r hr)⟩
theorem eG.get{α:Type}{R:V->α->Prop}{ws:List V}{L:List α}(h:eG R ws L){i:Nat}{v:V}(g:ws[i]?=some v):∃x,L[i]?=some x/\R v x:=by
 have hi:=(aqb.mp g).1
 have hi':i < L.length:=by
  rw[←h.1]
  exact hi
 exact⟨L[i],aqc hi',h.2 i v _ g (aqc hi')⟩
theorem eG.mem{α:Type}{R:V->α->Prop}{ws:List V}{L:List α}(h:eG R ws L){v:V}(m:v∈ws):∃x,x∈L/\R v x:=by
 obtain⟨i,hi,e⟩:=List.getElem_of_mem m
 obtain⟨x,g,r⟩:=h.get (aqb.mpr ⟨hi,e⟩)
 exact⟨x,aqh g,r⟩
theorem eG.take{α:Type}{R:V->α->Prop}{ws:List V}{L:List α}(h:eG R ws L)(n:Nat):eG R (ws.take n) (L.take n):=by
 refine⟨by rw[List.length_take,List.length_take,h.1],fun i v x a b=>?_⟩
 rw[List.getElem?_take]at a b
 by_cases c:i < n
 ·rw[if_pos c]at a b
  exact h.2 i v x a b
 ·rw[if_neg c]at a
  cases a
theorem eG.drop{α:Type}{R:V->α->Prop}{ws:List V}{L:List α}(h:eG R ws L)(n:Nat):eG R (ws.drop n) (L.drop n):=by
 refine⟨by rw[ark,ark,h.1],fun i v x a b=>?_⟩
 rw[List.getElem?_drop]at a b
 exact h.2 _ v x a b
section
variable{X:Cx}
def aeO(xs:List V)(ds:List PyData)(x:V)(d:PyData):Prop:=∃i:Nat,xs[i]?=some x/\ds[i]?=some d
@[irreducible]def Gp (K:ap9):List V->Hp->VK->Prop:=fun vs H Q=>∃(a:Addr) (xs:List V) (ds:List PyData),vs=[V.ref a]/\SqL K H a xs/\DpAll K H xs ds/\PySem.W.AllAlike ds/\PySem.W.Sortable ds/\(∀d∈ds,d.depth<=60)/\
 ∀(ys:List V) (p:Addr),eG (aeO xs ds) ys (ds.mergeSort (PySem.W.dataLe false id))->H p=none->Q (.ref p) (upd H p (.lst ys))
theorem XS:∀(xs:List V) (ds:List PyData) (its:List Value) (P:Value->PyData->Prop),Vals xs its->PySem.W.EachIs P its ds->
  PySem.W.EachIs (fun v d=>∃(i:Nat) (x:V),RelV x v/\xs[i]?=some x/\ds[i]?=some d) its ds
 |[],_,_,_,.nil,.nil=>.nil
 |_::_,[],_,_,.cons _ _,k=>nomatch k
 |x::xs,d::ds,u::us,P,.cons r t,.cons _ k=>.cons ⟨0,x,r,rfl,rfl⟩ ((XS xs ds us P t k).mono fun v d ⟨i,y,a,b,c⟩=>⟨i+1,y,a,b,c⟩)
theorem Ux{xs:List V}{ds:List PyData}:∀(out:List Value) (L:List PyData),PySem.W.EachIs (fun v d=>∃(i:Nat) (x:V),RelV x v/\xs[i]?=some x/\ds[i]?=some d) out L->∃ys,Vals ys out/\eG (aeO xs ds) ys L
 |[],[],.nil=>⟨[],.nil,eG.nil⟩
 |v::out,d::L,.cons ⟨i,x,r,a,b⟩ k=>by
  obtain⟨ys,h1,h2⟩:=Ux out L k
  refine⟨x::ys,.cons r h1,by rw[aqn,aqn,h2.1],fun j u y g1 g2=>?_⟩
  cases j with
  |zero=>
   cases g1
   cases g2
   exact⟨i,a,b⟩
  |succ j=>exact h2.2 j u y g1 g2
theorem abn(hu:X.A.units+65 < cLine):CallR X (.builtin "sorted") (Gp X.K):=by
 intro pins s σ H vs us Q I r h
 unfold Gp at h
 obtain⟨a,xs,ds,rfl,hs,hd,hal,hk,hz,q⟩:=h
 obtain⟨u,rfl,ru⟩:=vals1 r
 obtain rfl:u=Value.ref a:=ru
 obtain⟨its,rv,hl,hsz⟩:=I.list hs
 obtain⟨as,hr⟩:=Dp.readsAll I ds xs its hd rv
 have er:PySem.W.EachIs (fun v d=>∃as,Reads s.heap v (id d) as) its ds:=PySem.W.readsAll_each id (by rw[List.map_id];exact hr)
 have hn:=SeqAt.ReadsAll.length ds its as hr
 have hl2:=rv.length
 refine PySem.W.sorted_data (enc:=id) hl.isList (XS xs ds its _ rv er) er (by rw[List.map_id];exact hal) (by rw[List.map_id];exact hk) (by omega) (fun d m=>?_) fun out hlen hout=>?_
 ·have:=hz d m
  show X.A.units+2+d.depth < cLine
  omega
 ·obtain⟨ys,v1,v2⟩:=Ux out _ hout
  obtain⟨ep,he'⟩:=PyProof.Rows.sortedAll_at s.heap its out.toArray
  have hy:ys.length=ds.length:=by
   rw[v2.1,List.length_mergeSort]
  refine⟨.ref _,upd H (s.heap.objs.size+1) (.lst ys),I.laid (t':=s.toks) (fun _ _=>PyProof.Rows.sortedAll_old) (Nat.le_succ _) ⟨by omega,out,ep,v1,by simpa using he'⟩,rfl,q ys _ v2 (I.hok.fresh (Nat.le_succ _))⟩
end
@[irreducible]def QD (K:ap9):R2:=fun x y H Q=>∃d e:PyData,Dp K H x d/\Dp K H y e/\PySem.W.alike d e=true/\d≠.none/\d.depth<=60/\Q (.bl (PySem.W.dataLt d e)) H
theorem aeH{X:Cx}(hu:X.A.units+65 < cLine):OpR X (compareOp .Lt) (QD X.K):=by
 intro pins s σ H x y v u Q I rx ry h
 unfold QD at h
 obtain⟨d,e,hd,he,ha,hn,hz,q⟩:=h
 obtain⟨as,r1⟩:=Dp.reads I d x v hd rx
 obtain⟨bs,r2⟩:=Dp.reads I e y u he ry
 exact PySem.W.lt_data r1 r2 ha hn (by omega) ⟨.bl _,H,I,rfl,q⟩
def EvR(te:TE)(σ:L2.St)(H:Hp)(P:List V->Hp->Prop):Prop:=∀H1,Ex H H1->∀Q:VK,(∀p H2 us,Ex H1 H2->H2 p=some (.lst us)->P us H2->Q (.ref p) H2)->te σ H1 Q
def EvM(te:TE)(σ:L2.St)(H:Hp)(P:List V->Hp->Prop):Prop:=∀H1,Ex H H1->∀Q:VK,(∀p H2 us,H1 p=none->Ex H1 H2->H2 p=some (.lst us)->P us H2->Q (.ref p) H2)->te σ H1 Q
structure aiy{α:Type}(Rel:Hp->V->α->Prop):Prop where
 mono:∀{H H':Hp} {v:V} {x:α},Ex H H'->Rel H v x->Rel H' v x
 upd:∀{H:Hp} {D:Addr} {acc:List V} {o:HO} {v:V} {x:α},H D=some (.lst acc)->Rel H v x->Rel (upd H D o) v x
theorem eG.mono{α:Type}{Rel:Hp->V->α->Prop}(S:aiy Rel){H H':Hp}(e:Ex H H'){ws:List V}{L:List α}(h:eG (Rel H) ws L):eG (Rel H') ws L:=h.imp fun _ _ r=>S.mono e r
theorem eG.upd{α:Type}{Rel:Hp->V->α->Prop}(S:aiy Rel){H:Hp}{D:Addr}{acc:List V}{o:HO}(hD:H D=some (.lst acc)){ws:List V}{L:List α}(h:eG (Rel H) ws L):eG (Rel (upd H D o)) ws L:=h.imp fun _ _ r=>S.upd hD r
section
variable{K:ap9}{σ:L2.St}{H:Hp}{te tl:TE}{tt:TT}{vs:List Nat}{α:Type}
theorem EvM.r{P:List V->Hp->Prop}(h:EvM te σ H P):EvR te σ H P:=fun H1 e Q q=>h H1 e Q fun p H2 us _ a b c=>q p H2 us a b c
theorem EvM.imp{P R:List V->Hp->Prop}(h:EvM te σ H P)(k:∀us H',P us H'->R us H'):EvM te σ H R:=fun H1 e Q q=>h H1 e Q fun p H2 us n a b c=>q p H2 us n a b (k us H2 c)
end
theorem Yp:∀a b:List Int,PyData.eqvAll (a.map PyData.int) (b.map PyData.int)=decide (a=b)
 |[],[]=>by rw[aq8,PyData.eqvAll];rfl
 |[],y::ys=>by rw[aq8,aqd,PyData.eqvAll];rfl
 |x::xs,[]=>by rw[aq8,aqd,PyData.eqvAll];rfl
 |x::xs,y::ys=>by
  rw[aqd,aqd,PyData.eqvAll,Yp xs ys,PyData.eqv,arb]
  simp
def dT(l:List Int):PyData:=.tuple (l.map PyData.int)
theorem lay_ints:∀l:List Int,PyData.canLayAll0 (l.map PyData.int)=true/\PyData.depthAll (l.map PyData.int)=0
 |[]=>⟨by rw[aq8,PyData.canLayAll0],by rw[aq8,PyData.depthAll]⟩
 |x::xs=>by
  have ih:=lay_ints xs
  refine⟨?_,?_⟩
  ·rw[aqd,PyData.canLayAll0,PyData.canLay0,ih.1]
   rfl
  ·rw[aqd,PyData.depthAll,PyData.depth,ih.2]
   rfl
def rD(r:Rw):PyData:=.tuple [.int r.1,dT r.2]
theorem adi(r:Rw):(rD r).canLay0=true/\(rD r).depth=2:=by
 have h:=lay_ints r.2
 unfold rD dT
 refine⟨?_,?_⟩
 ·rw[PyData.canLay0,PyData.canLayAll0,PyData.canLayAll0,PyData.canLayAll0,PyData.canLay0,PyData.canLay0,h.1]
  rfl
 ·rw[PyData.depth,PyData.depthAll,PyData.depthAll,PyData.depthAll,PyData.depth,PyData.depth,h.2]
  rfl
def rk(r:Rw):List Int:=r.1::r.2
theorem adx:PySem.W.rowLt [] []=false:=PyProof.Rows.lex_irrefl _
theorem agi(l m:List Int):PySem.W.rowLt [dT l] [dT m]=decide (l < m):=by
 have al:PySem.W.alike (dT l) (dT m)=true:=by
  unfold dT
  rw[PySem.W.alike]
  exact PySem.W.alike_ints l m
 have ev:PyData.eqv (dT l) (dT m)=decide (l=m):=by
  unfold dT
  rw[PyData.eqv,Yp]
 have h:PySem.W.rowLt [dT l] [dT m]=if PyData.eqv (dT l) (dT m)=true then PySem.W.rowLt [] [] else PySem.W.dataLt (dT l) (dT m):=PySem.W.dataLt_cons al [] []
 rw[h,ev,adx]
 by_cases c:l=m
 ·rw[if_pos (decide_eq_true c),c]
  exact(decide_eq_false (List.lt_irrefl _)).symm
 ·rw[if_neg (by rw[decide_eq_true_eq];exact c)]
  show PySem.W.dataLt (.tuple (l.map PyData.int)) (.tuple (m.map PyData.int))=_
  rw[PySem.W.dataLt_tuple]
  exact PySem.W.dataLt_ints l m
theorem ZQ(x y:Int)(ds es:List PyData)(l m:List Int)(h:PySem.W.rowLt ds es=decide (l < m)):PySem.W.rowLt (.int x::ds) (.int y::es)=decide (x::l < y::m):=by
 have al:PySem.W.alike (.int x) (.int y)=true:=by rw[PySem.W.alike]
 have h2:PySem.W.rowLt (.int x::ds) (.int y::es)=if PyData.eqv (.int x) (.int y)=true then PySem.W.rowLt ds es else PySem.W.dataLt (.int x) (.int y):=PySem.W.dataLt_cons al ds es
 rw[h2,h,PySem.W.dataLt_int,PyData.eqv]
 by_cases c:x=y
 ·subst c
  rw[if_pos (by simp),arb,decide_eq_true_eq,decide_eq_true_eq,List.cons_lt_cons_iff]
  constructor
  ·exact fun k=>Or.inr ⟨rfl,k⟩
  ·rintro(k|k)
   ·omega
   ·exact k.2
 ·rw[if_neg (by simpa using c),arb,decide_eq_true_eq,decide_eq_true_eq,List.cons_lt_cons_iff]
  constructor
  ·exact Or.inl
  ·rintro(k|k)
   ·exact k
   ·exact absurd k.1 c
theorem ake(a b:Rw):PySem.W.dataLt (rD a) (rD b)=decide (rk a < rk b):=by
 unfold rD
 rw[PySem.W.dataLt_tuple]
 exact ZQ _ _ _ _ _ _ (agi a.2 b.2)
theorem Vy(a b:Rw):PySem.W.alike (rD a) (rD b)=true:=by
 unfold rD dT
 rw[PySem.W.alike,PySem.W.alikeAll,PySem.W.alikeAll,PySem.W.alike,PySem.W.alike,PySem.W.alike_ints,PySem.W.alikeAll]
 rfl
theorem eG.map{α β:Type}{P:V->β->Prop}(f:α->β){ws:List V}{L:List α}(h:eG (fun v x=>P v (f x)) ws L):eG P ws (L.map f):=by
 refine⟨by rw[aqj,h.1],fun i v x a b=>?_⟩
 rw[aqm]at b
 obtain⟨y,hy,e⟩:=aqV.mp b
 rw[←e]
 exact h.2 i v y a hy
theorem abT{a b:Rw}(h:rk a=rk b):a=b:=by
 unfold rk at h
 injection h with h1 h2
 exact Prod.ext h1 h2
def Uq(S:List Rw):Prop:=S.Pairwise fun a b=>rk a < rk b
theorem ab6:∀{S T:List Rw},Uq S->Uq T->(∀r,r∈S↔r∈T)->S=T
 |[],[],_,_,_=>rfl
 |[],t::T,_,_,h=>absurd ((h t).mpr aqf) (by simp)
 |s::S,[],_,_,h=>absurd ((h s).mp aqf) (by simp)
 |s::S,t::T,hs,ht,h=>by
  obtain⟨hs1,hs2⟩:=List.pairwise_cons.mp hs
  obtain⟨ht1,ht2⟩:=List.pairwise_cons.mp ht
  have e:s=t:=by
   rcases aqp.mp ((h s).mp aqf) with e|m
   ·exact e
   ·rcases aqp.mp ((h t).mpr aqf) with e2|m2
    ·exact e2.symm
    ·exact absurd (ht1 s m) (List.lt_asymm (hs1 t m2))
  subst e
  have hn:∀{L:List Rw},(∀r∈L,rk s < rk r)->s∉L:=fun hL m=>List.lt_irrefl _ (hL s m)
  rw[ab6 hs2 ht2 fun r=>?_]
  constructor
  ·intro m
   rcases aqp.mp ((h r).mp (aqe _ m)) with e|m2
   ·rw[e]at m
    exact absurd m (hn hs1)
   ·exact m2
  ·intro m
   rcases aqp.mp ((h r).mpr (aqe _ m)) with e|m2
   ·rw[e]at m
    exact absurd m (hn ht1)
   ·exact m2
theorem Jp(a b:Rw):PySem.W.dataLe false rD a b=decide (rk a<=rk b):=by
 show(!PySem.W.dataLt (rD b) (rD a))=_
 rw[ake,arb,aqs,decide_eq_false_iff_not,decide_eq_true_eq]
 exact List.not_lt
theorem acr{α β:Type}{R:α->β->Prop}{as cs:List α}(p:as.Perm cs):∀{bs:List β},PySem.W.EachIs R as bs->∃ds,ds.Perm bs/\PySem.W.EachIs R cs ds:=by
 induction p with
 |nil=>
  intro bs h
  cases h
  exact⟨[],List.Perm.refl _,.nil⟩
 |cons x _ ih=>
  intro bs h
  cases h with
  |cons r t=>
   obtain⟨ds,h1,h2⟩:=ih t
   exact⟨_::ds,h1.cons _,.cons r h2⟩
 |swap x y l=>
  intro bs h
  cases h with
  |cons r t=>
   cases t with
   |cons r2 t2=>exact⟨_,List.Perm.swap _ _ _,.cons r2 (.cons r t2)⟩
 |trans _ _ ih1 ih2=>
  intro bs h
  obtain⟨ds,a1,a2⟩:=ih1 h
  obtain⟨es,b1,b2⟩:=ih2 a2
  exact⟨es,b1.trans a1,b2⟩
section
variable{P:Program}{w:World}{A:Around}{E:Value->Shared->Prop}{s:Shared}
theorem Zr{β:Type}{a:Addr}{es:Array (Int×Value)}{ep:Nat}{t:SetTable}{enc:β->PyData}{bs:List β}{R:Value->β->Prop}{Q:Value->Shared->Prop}(hh:A.handled=none)(ha:SetAt s.heap a es ep t)(hf:t.fits es.size=true)(hsz:es.size < scanBound)(hr:Ris t.place.toList)
  (hl:w.params.followText "set-order"=true∨t.led=true) (e:PySem.W.EachIs (fun v b=>R v b/\∃as,Reads s.heap v (enc b) as) (es.toList.map (·.2)) bs) (hal:PySem.W.AllAlike (bs.map enc)) (hk:PySem.W.Sortable (bs.map enc)) (hu:∀b∈bs,A.units+2+(enc b).depth < cLine)
  (hQ:∀(s':Shared) (p:Addr) (out:List Value) (c:Nat) (cs:List β),(∀b o,s.heap.get? b=some o->s'.heap.get? b=some o)->s'.gens=s.gens->s'.os=s.os->s.heap.objs.size<=p->s'.heap.get? p=some (seqObj "list" out.toArray c)->
   cs.Perm bs->PySem.W.EachIs R out (cs.mergeSort (PySem.W.dataLe false enc))->Q (.ref p) s') :
  wpAny (model P w) A (call (.builtin "sorted") [.ref a]) Q E s:=by
 refine Calls.call_function_entry kind_sorted plain_sorted entry_sorted (args_sorted1 _) ?_
 unfold Builtin.«sorted»
 refine wpAny_bind (m:=checkCount "sorted" 1 1 _) (wpAny_pure ?_)
 refine wpAny_bind (collect_set (A:=A.in1) hh ha hf hsz hr hl fun t1 vals kept grown g1 o1 pm=>?_)
 obtain⟨cs,pc,ec⟩:=acr pm.symm e
 have lc:vals.length=cs.length:=ec.length
 have lb:cs.length=bs.length:=pc.length_eq
 have lz:vals.length<=sizeLine:=by
  rw[pm.length_eq,aqj,aqJ,sizeLine_eq]
  unfold scanBound at hsz
  omega
 refine wpAny_bind (wpAny_newList ?_ lz)
 have here:(t1.heap.push (seqObj "list" vals.toArray 0)).get? t1.heap.objs.size=some (seqObj "list" vals.toArray 0):=Heap.get?_push_size _ rfl
 have stays:∀b o,s.heap.get? b=some o->(t1.heap.push (seqObj "list" vals.toArray 0)).get? b=some o:=fun b o q=>Heap.get?_push_of_some _ (kept b o q)
 have al:PySem.W.AllAlike (cs.map enc):=fun d hd d' hd'=>hal d ((pc.map enc).mem_iff.mp hd) d' ((pc.map enc).mem_iff.mp hd')
 have sk:PySem.W.Sortable (cs.map enc):=by
  rcases hk with k|k
  ·exact .inl fun d hd=>k d ((pc.map enc).mem_iff.mp hd)
  ·exact .inr fun d hd=>k d ((pc.map enc).mem_iff.mp hd)
 refine wpAny_bind (wpAny_holding (PySem.W.list_sort_data (s:={ t1 with heap:=t1.heap.push (seqObj "list" vals.toArray 0) }) (enc:=enc) here (ec.mono fun v b h=>h.1) (ec.mono fun v b ⟨_,as,r⟩=>⟨as,PySem.W.reads_keeps stays r,fun m=>?rd⟩) al sk (by omega) (fun b hb=>?un) fun out lo eo=>?fin))
 case rd=>
  obtain⟨o,q⟩:=PyProof.On.reads_mem_get r _ m
  have hlt:t1.heap.objs.size < s.heap.objs.size:=Heap.lt_size q
  exact absurd grown (Nat.not_le_of_lt hlt)
 case fin=>
  obtain⟨c,hc⟩:=sortedHeap_at (vs:=vals) (out:=out.toArray) here
  refine wpAny_pure ⟨_,rfl,hQ _ t1.heap.objs.size out c cs (fun b o q=>?_) g1 o1 grown hc pc eo⟩
  have hlt:=Heap.lt_size (kept b o q)
  show(sortedHeap (t1.heap.push (seqObj "list" vals.toArray 0)) t1.heap.objs.size vals out.toArray).get? b=some o
  rw[sortedHeap_old (aqG hlt) (by rw[size_push'];exact aq5 hlt)]
  exact stays b o q
 case un=>
  have:=hu b (pc.mem_iff.mp hb)
  show A.in1.units+1+_ < _
  have e1:A.in1.units=A.units+1:=rfl
  omega
end
section
variable{P:Program}{w:World}{A:Around}{E:Value->Shared->Prop}{s:Shared}
def nk(r:Rw):NestedKey:=.tup [.num r.1,.tup (r.2.map .num)]
theorem Yt:∀a b:List Int,a.map NestedKey.num=b.map NestedKey.num->a=b
 |[],[],_=>rfl
 |[],_::_,h=>by cases h
 |_::_,[],h=>by cases h
 |x::a,y::b,h=>by
  rw[aqd,aqd]at h
  injection h with h1 h2
  injection h1 with h1
  rw[h1,Yt a b h2]
theorem acO{a b:Rw}(h:nk a=nk b):a=b:=by
 unfold nk at h
 injection h with h
 injection h with h1 h
 injection h with h2 _
 injection h1 with h1
 injection h2 with h2
 exact Prod.ext h1 (Yt _ _ h2)
theorem Q5:∀l:List Int,NestedKey.depthAll (l.map .num)=0
 |[]=>by rw[aq8,NestedKey.depthAll]
 |x::l=>by
  rw[aqd,NestedKey.depthAll,NestedKey.depth,Q5 l]
  rfl
theorem afc(r:Rw):(nk r).depth=2:=by
 unfold nk
 rw[NestedKey.depth,NestedKey.depthAll,NestedKey.depthAll,NestedKey.depthAll,NestedKey.depth,NestedKey.depth,Q5]
 rfl
def mX(P:Program)(w:World):HeapKind P w Rw where
 is:=fun h r a=>(nestedKind P w).is h (nk r) a
 hash:=fun r=>(nestedKind P w).hash (nk r)
 draws:=fun r=>(nestedKind P w).draws (nk r)
 room:=(nestedKind P w).room
 inj:=fun hx hy=>acO ((nestedKind P w).inj hx hy)
 keeps:=fun x ho hd hs=>(nestedKind P w).keeps x ho hd hs
 pyHash:=fun hu hk h=>(nestedKind P w).pyHash hu hk h
 eqBool:=fun {A E s x y a b Q} hu hx hy h=>(nestedKind P w).eqBool hu hx hy (by
  have e:decide (nk x=nk y)=decide (x=y):=by
   rw[decide_eq_decide]
   exact⟨acO,fun h=>by rw[h]⟩
  rw[e]
  exact h)
 quiet:=fun hk h=>(nestedKind P w).quiet hk h
abbrev RI(h:Heap)(r:Rw)(a:Addr):Prop:=NestedIs h (nk r) (.ref a)/\(nk r).depth<=8
theorem Sq{h h':Heap}{r:Rw}{a:Addr}(x:RI h r a)(k:∀c o,h.get? c=some o->h'.get? c=some o):RI h' r a:=⟨NestedIs.at (fun b o _ _ e _=>k b o e) _ _ x.1,x.2⟩
theorem YH{h h':Heap}{r:Rw}{a d:Addr}{o:Obj}{es:Array (Int×Value)}{ep:Nat}{t:SetTable}(x:RI h r a)(ho:h.get? d=some o)(hd:o.data=.set es ep t)(sb:Heap.SameBut d h h'):RI h' r a:=by
 refine⟨NestedIs.at (fun b ob vs n hb hc=>(sb.2 b fun e=>?_).trans hb) _ _ x.1,x.2⟩
 subst e
 obtain rfl:ob=o:=aqv (hb.symm.trans ho)
 rw[hd]at hc
 cases hc
theorem Gx{h:Heap}{i:Int}{v:Value}(x:NestedIs h (.num i) v)(n:Nat):ofAClassStatement n v=pure false/\hashByValue n v=pure true:=by
 cases x with
 |bool _=>cases n <;> exact⟨rfl,rfl⟩
 |int _ t=>cases n <;> exact⟨rfl,rfl⟩
theorem Yz{h:Heap}:∀(l:List Int) (vs:List Value),NestedAll h (l.map .num) vs->∀v∈vs,∃i,NestedIs h (.num i) v
 |[],_,x,v,hv=>by
  cases x
  cases hv
 |i::l,_,x,v,hv=>by
  rw[aqd]at x
  cases x with
  |cons x1 x2=>
   rcases aqp.mp hv with e|hv
   ·exact⟨i,by rw[e];exact x1⟩
   ·exact Yz l _ x2 v hv
theorem aaZ{n:Nat}{a:Addr}{o:Obj}{vs:Array Value}{m:Nat}(ho:s.heap.get? a=some o)(hc:o.cls=.type "tuple")(hd:o.data=.seq vs m)(hq:∀v∈vs.toList,∀(E:Value->Shared->Prop) (Q:Bool->Shared->Prop),Q false s->wpAny (model P w) A (ofAClassStatement n v) Q E s){Q:Bool->Shared->Prop}(q:Q false s) :
  wpAny (model P w) A (ofAClassStatement (n+1) (.ref a)) Q E s:=by
 have hT:s.TypeIs (.ref a) "tuple":=⟨o,ho,hc⟩
 unfold ofAClassStatement
 refine wpAny_bind (wpAny_typeOf hT ?_)
 dsimp only
 have eq1:(("tuple" : String)=="tuple")=true:=by decide
 simp only[eq1,if_true,Bool.not_true,aqE,if_false]
 try refine wpAny_bind (wpAny_pure ?_)
 try simp only[Bool.not_true,aqE,if_false]
 refine wpAny_bind (wpAny_seqItems ho hd ?_)
 dsimp only
 refine wpAny_bind ?_
 rw[←Array.forIn_toList]
 refine wpAny_forIn_list _ (fun left r u=>r.1=none/\u=s/\∀v∈left,v∈vs.toList) _ ?_ ?_ _ _ ⟨rfl,rfl,fun v hv=>hv⟩
 ·rintro v left r u ⟨hr,rfl,hall⟩
  refine wpAny_bind (hq v (hall v aqf) _ _ ?_)
  simp only[aqE,if_false]
  exact wpAny_pure ⟨rfl,rfl,fun y hy=>hall y (aqe _ hy)⟩
 ·rintro⟨r1,r2⟩ u ⟨hr,rfl,_⟩
  simp only at hr
  subst hr
  exact wpAny_pure q
theorem Y0{n:Nat}{a:Addr}{o:Obj}{vs:Array Value}{m:Nat}(ho:s.heap.get? a=some o)(hc:o.cls=.type "tuple")(hd:o.data=.seq vs m)(hq:∀v∈vs.toList,∀(E:Value->Shared->Prop) (Q:Bool->Shared->Prop),Q true s->wpAny (model P w) A (hashByValue n v) Q E s){Q:Bool->Shared->Prop}(q:Q true s) :
  wpAny (model P w) A (hashByValue (n+1) (.ref a)) Q E s:=by
 have hT:s.TypeIs (.ref a) "tuple":=⟨o,ho,hc⟩
 unfold hashByValue
 refine wpAny_bind (wpAny_specialOf hT PySem.F.slot_tuple_hash.lookup ?_)
 show wpAny _ _ (seqItems? (.ref a) >>= _) _ _ s
 refine wpAny_bind (wpAny_seqItems ho hd ?_)
 refine wpAny_bind ?_
 show wpAny _ _ (forIn vs _ _) _ _ s
 rw[←Array.forIn_toList]
 refine wpAny_forIn_list _ (fun left r u=>r.1=none/\u=s/\∀v∈left,v∈vs.toList) _ ?_ ?_ _ _ ⟨rfl,rfl,fun v hv=>hv⟩
 ·rintro v left r u ⟨hr,rfl,hall⟩
  refine wpAny_bind (hq v (hall v aqf) _ _ ?_)
  simp only[Bool.not_true,aqE,if_false]
  exact wpAny_pure ⟨rfl,rfl,fun y hy=>hall y (aqe _ hy)⟩
 ·rintro⟨r1,r2⟩ u ⟨hr,rfl,_⟩
  simp only at hr
  subst hr
  exact wpAny_pure q
theorem HY{r:Rw}{a:Addr}(x:RI s.heap r a):(∀{Q:Bool->Shared->Prop},Q false s->wpAny (model P w) A (ofAClassStatement 8 (.ref a)) Q E s)/\∀{Q:Bool->Shared->Prop},Q true s->wpAny (model P w) A (hashByValue 8 (.ref a)) Q E s:=by
 obtain⟨x,_⟩:=x
 unfold nk at x
 cases x with
 | @tup _ o vs m _ ho hc hd x=>
  have items:∀v∈vs.toList,(∃i,NestedIs s.heap (.num i) v)∨∃b,v=.ref b/\∃o us k,s.heap.get? b=some o/\o.cls=.type "tuple"/\o.data=.seq us k/\∀u∈us.toList,∃i,NestedIs s.heap (.num i) u:=by
   generalize vs.toList=l at x
   cases x with
   |cons x1 x=>
    cases x with
    |cons x2 x=>
     cases x
     intro v hv
     rcases aqp.mp hv with e|hv
     ·exact Or.inl ⟨_,by rw[e];exact x1⟩
     ·have e:=aqg.mp hv
      cases x2 with
      |tup k1 k2 k3 k4=>exact Or.inr ⟨_,e,_,_,_,k1,k2,k3,Yz _ _ k4⟩
  refine⟨fun q=>aaZ ho hc hd (fun v hv E' Q' q'=>?_) q,fun q=>Y0 ho hc hd (fun v hv E' Q' q'=>?_) q⟩
  ·rcases items v hv with⟨i,y⟩|⟨b,rfl,o',us,k,k1,k2,k3,k4⟩
   ·rw[(Gx y 7).1]
    exact wpAny_pure q'
   ·refine aaZ k1 k2 k3 (fun u hu E2 Q2 q2=>?_) q'
    obtain⟨i,y⟩:=k4 u hu
    rw[(Gx y 6).1]
    exact wpAny_pure q2
  ·rcases items v hv with⟨i,y⟩|⟨b,rfl,o',us,k,k1,k2,k3,k4⟩
   ·rw[(Gx y 7).2]
    exact wpAny_pure q'
   ·refine Y0 k1 k2 k3 (fun u hu E2 Q2 q2=>?_) q'
    obtain⟨i,y⟩:=k4 u hu
    rw[(Gx y 6).2]
    exact wpAny_pure q2
end
abbrev Ent:Type:=Addr×Rw
section
variable{P:Program}{w:World}{A:Around}{E:Value->Shared->Prop}{s:Shared}
def ents(hf:Rw->Int)(L:List Ent):List (Int×Value):=L.map fun p=>(hf p.2,Value.ref p.1)
structure qd(hf:Rw->Int)(w:World)(h:Heap)(a:Addr)(L:List Ent)(es:Array (Int×Value))(ep:Nat)(t:SetTable):Prop where
 ob:∃o,h.get? a=some o/\o.ExactSet/\o.data=.set es ep t
 en:es.toList=ents hf L
 tab:TabOk t (L.map fun p=>hf p.2)
 nd:(L.map Prod.snd).Nodup
 ky:∀p∈L,RI h p.2 p.1
 pl:t.plain=true
 ld:w.params.followText "set-order"=true∨t.led=true
 free:L.length * 5 < t.mask * 3
 few:L.length<=76
variable{hf:Rw->Int}{a:Addr}{L:List Ent}{es:Array (Int×Value)}{ep:Nat}{t:SetTable}
theorem yh(h:es.toList=ents hf L):es.size=L.length:=by
 rw[←aqJ,h]
 exact aqj _
theorem Ln(h:es.toList=ents hf L){i:Nat}{p:Ent}(g:L[i]?=some p):es[i]?=some (hf p.2,Value.ref p.1):=by
 rw[←aqN,h]
 unfold ents
 rw[aqm,g]
 rfl
theorem fits_of(h1:t.place.size=es.size)(h2:t.dummies=#[])(h3:es.size<=t.mask):t.fits es.size=true:=by
 unfold SetTable.fits SetTable.fill
 rw[h2,aqa,beq_iff_eq,decide_eq_true_eq]
 exact⟨h1,by show t.place.size+0<=t.mask;omega⟩
theorem qd.fits(R:qd hf w s.heap a L es ep t):t.fits es.size=true:=by
 have l1:=yh R.en
 have l2:=R.tab.sz
 rw[aqj]at l2
 have l3:=R.free
 exact fits_of (by omega) R.tab.dm (by omega)
theorem qd.sound(R:qd hf w s.heap a L es ep t):¬t.gaveWay=true:=by
 unfold SetTable.gaveWay
 rw[mask_odd R.tab.mok]
 decide
theorem aip{r:Rw}{b:Addr}{Q:Bool->Shared->Prop}(hx:RI s.heap r b){ys:List Value}(hy:∀y∈ys,∃q c,y=Value.ref c/\RI s.heap q c)(q:Q false s):wpAny (model P w) A (searchCouldBeSeen (.ref b) ys) Q E s:=by
 unfold searchCouldBeSeen
 refine wpAny_bind ?_
 refine wpAny_forIn_list _ (fun left r u=>r.1=none/\u=s/\∀y∈left,∃q c,y=Value.ref c/\RI s.heap q c) _ ?_ ?_ _ _ ⟨rfl,rfl,hy⟩
 ·rintro v left r u ⟨hr,rfl,hall⟩
  obtain⟨q',c,rfl,hc⟩:=hall v aqf
  have more:∀y∈left,∃q c,y=Value.ref c/\RI u.heap q c:=fun y m=>hall y (aqe _ m)
  dsimp only
  by_cases hv:(b==c || (carriedByValue (.ref b)&&carriedByValue (.ref c)))=true
  ·exact wp_if_pos hv (wpAny_pure ⟨rfl,rfl,more⟩)
  ·refine wp_if_neg hv ?_
   refine wpAny_bind ((mX P w).quiet hx ?_)
   simp only[Bool.not_true,aqE,if_false]
   refine wpAny_bind ((mX P w).quiet hc ?_)
   simp only[Bool.not_true,aqE,if_false]
   refine wpAny_bind ((HY hx).1 ?_)
   simp only[aqE,if_false]
   refine wpAny_bind ((HY hc).1 ?_)
   simp only[aqE,if_false]
   exact wpAny_pure ⟨rfl,rfl,more⟩
 ·rintro⟨r1,r2⟩ u ⟨hr,rfl,_⟩
  simp only at hr
  subst hr
  exact wpAny_pure q
abbrev tR(m:Nat)(h:Int)(c:Nat):SetTable.Probe:=nth m (runAt m (SetTable.bits h % (m+1)) (SetTable.bits h)) c
theorem Zt(m:Nat)(h:Int)(c:Nat):(tR m h c).dummy=none:=by
 have all:∀(n:Nat) (p:SetTable.Probe),p.dummy=none->(nth m p n).dummy=none:=by
  intro n
  induction n with
  |zero=>exact fun p k=>k
  |succ n ih=>
   intro p k
   refine ih (adv m p) ?_
   unfold adv
   split <;> exact k
 exact all c _ rfl
theorem Vj(m:Nat)(h:Int)(c d:Nat):nth m (tR m h c) d=tR m h (c+d):=(nth_add m c _ d).symm
theorem seek(R:qd hf w s.heap a L es ep t){x:Addr}{r:Rw}(hx:RI s.heap r x){h:Int}(hh:hf r=h)(hu:(mX P w).room A){N:Nat}(hN:N < 10 * SetTable.turns t.mask)(out:way t.mask (h) N∉t.place.toList)(inn:∀c,c < N->way t.mask (h) c∈t.place.toList){Q:SetFound->Shared->Prop}
  (yes:r∈L.map Prod.snd->Q (.there none) s) (no:r∉L.map Prod.snd->Q (.free (way t.mask (h) N) false) s) :
  ∀(f c:Nat) (st:Option SetTable.Probe),st.getD (t.probeStart (h))=tR t.mask (h) c->c<=N->N - c < f->
   (∀(i:Nat) (p:Ent),L[i]?=some p->p.2=r->∃d,c<=d/\d < N/\t.place.toList[i]?=some (way t.mask (h) d))->
   wpAny (model P w) A (setSearchFrom a (.ref x) (h) true f st) Q E s:=by
 intro f
 induction f with
 |zero=>exact fun _ _ _ _ hfl _=>absurd hfl (Nat.not_lt_zero _)
 |succ f ih=>
  intro c st hst hc hfl left
  obtain⟨o,ho,hex,hd⟩:=R.ob
  rw[setSearchFrom_succ]
  refine wpAny_bind (wpAny_setState_of ho hd R.fits ?_)
  dsimp only
  refine wp_if_neg R.sound ?_
  try refine wpAny_bind (wpAny_pure ?_)
  have jAt:∀d,(nth t.mask (tR t.mask h c) d).j=way t.mask h (c+d):=fun d=>congrArg SetTable.Probe.j (Vj t.mask h c d)
  have hashOf:∀(i:Nat) (p:Ent),L[i]?=some p->(es[i]?.map (·.1)).getD 0=hf p.2:=fun i p g=>by
   rw[Ln R.en g]
   rfl
  have spec:=go_spec t R.tab.ris R.tab.dm (fun i=>(es[i]?.map (·.1)).getD 0) h (10 * SetTable.turns t.mask) (N - c) (tR t.mask h c) (Zt _ _ _) (by omega) (fun d hdn=>by rw[jAt];exact inn (c+d) (by omega)) (by rw[jAt,arl hc];exact out)
  rcases spec with⟨d,i,hdn,hi,hhi,hno,hpr⟩|⟨hno,hpr⟩
  ·have hpr':t.probe (fun i=>(es[i]?.map (·.1)).getD 0) h (st.getD (t.probeStart h))=some (.candidate (way t.mask h (c+d)) i (tR t.mask h (c+(d+1)))):=by
    rw[hst,←jAt,←Vj]
    exact hpr
   rw[hpr']
   dsimp only
   rw[jAt]at hi
   have hil:i < L.length:=by
    have k1:=(aqb.mp hi).1
    have k2:=R.tab.sz
    rw[aqj]at k2
    rw[aqJ]at k1
    omega
   obtain⟨p,hp⟩:∃p,L[i]?=some p:=⟨_,aqc hil⟩
   have pm:=aqh hp
   have go:wpAny (model P w) A (searchRest a (.ref x) h true f es t (way t.mask h (c+d)) i (tR t.mask h (c+(d+1)))) Q E s:=by
    unfold searchRest
    rw[Ln R.en hp]
    dsimp only
    refine wpAny_bind (wpAny_holding ((mX P w).eqBool hu (R.ky p pm) hx ?_))
    refine wpAny_bind (wpAny_setState_of ho hd R.fits ?_)
    dsimp only
    by_cases same:p.2=r
    ·exact wp_if_pos (by simp[same]) (wpAny_pure (yes (aqk.mpr ⟨p,pm,same⟩)))
    ·refine wp_if_neg (by simp[same]) ?_
     try refine wpAny_bind (wpAny_pure ?_)
     rw[sameMem]
     dsimp only
     have live:t.slot (way t.mask h (c+d))=.live i:=slot_live R.tab.ris hi
     simp only[if_true,live,Ln R.en hp]
     refine wpAny_bind (wpAny_isSame_ref_self (wpAny_bind (wpAny_pure ?_)))
     simp only[if_true]
     refine wp_if_neg (by simp[same]) ?_
     refine ih (c+(d+1)) _ rfl (by omega) (by omega) fun i0 p0 g0 e0=>?_
     obtain⟨d0,a1,a2,a3⟩:=left i0 p0 g0 e0
     refine⟨d0,?_,a2,a3⟩
     by_cases c1:d0 < c+d
     ·exact absurd ((hashOf i0 p0 g0).trans ((congrArg hf e0).trans hh)) (hno (d0 - c) i0 (by omega) (by rw[jAt,arl a1];exact a3))
     ·by_cases c2:d0=c+d
      ·rw[c2]at a3
       have live0:=slot_live R.tab.ris a3
       rw[live]at live0
       injection live0 with ei
       rw[←ei,hp]at g0
       exact absurd ((congrArg Prod.snd (aqv g0)).trans e0) same
      ·omega
   by_cases hl:t.led=true
   ·refine wp_if_neg (by simp[hl]) ?_
    try refine wpAny_bind (wpAny_pure ?_)
    exact go
   ·refine wp_if_pos (by simp[hl]) ?_
    refine wpAny_bind (aip hx (fun y hy=>?_) ?_)
    ·obtain⟨e,he,ee⟩:=aqk.mp hy
     have h1:e∈es/\e.1=h:=by simpa using he
     have h2:e∈es.toList:=by simpa using h1.1
     rw[R.en]at h2
     obtain⟨p2,hp2,e2⟩:=aqk.mp h2
     exact⟨p2.2,p2.1,by rw[←ee,←e2],R.ky p2 hp2⟩
    ·refine wp_if_neg (by decide) ?_
     try refine wpAny_bind (wpAny_pure ?_)
     exact go
  ·have hpr':t.probe (fun i=>(es[i]?.map (·.1)).getD 0) h (st.getD (t.probeStart h))=some (.empty (way t.mask h N) none):=by
    have e2:way t.mask h N=(nth t.mask (tR t.mask h c) (N - c)).j:=by rw[jAt,arl hc]
    rw[hst,e2]
    exact hpr
   rw[hpr']
   dsimp only
   refine wpAny_pure (no fun hm=>?_)
   obtain⟨p0,m0,e0⟩:=aqk.mp hm
   obtain⟨i0,hi0,e1⟩:=List.getElem_of_mem m0
   have g0:L[i0]?=some p0:=by rw[aqc hi0,e1]
   obtain⟨d0,a1,a2,a3⟩:=left i0 p0 g0 e0
   exact hno (d0 - c) i0 (by omega) (by rw[jAt,arl a1];exact a3) ((hashOf i0 p0 g0).trans ((congrArg hf e0).trans hh))
theorem look(R:qd hf w s.heap a L es ep t){x:Addr}{r:Rw}(hx:RI s.heap r x)(hu:(mX P w).room A){Q:SetFound->Shared->Prop}(yes:r∈L.map Prod.snd->Q (.there none) s)
  (no:∀N,r∉L.map Prod.snd->way t.mask (hf r) N∉t.place.toList->(∀c,c < N->way t.mask (hf r) c∈t.place.toList)->Q (.free (way t.mask (hf r) N) false) s):wpAny (model P w) A (setSearch a (.ref x) (hf r) true) Q E s:=by
 have hfree:=R.free
 obtain⟨N,hN,out,inn⟩:=R.tab.first (by rw[aqj];omega) (hf r)
 have small:N < 100000:=by
  have:10 * SetTable.turns t.mask<=1420:=by
   unfold SetTable.turns
   rcases R.tab.mok with e|e|e <;> omega
  omega
 unfold setSearch
 refine seek R hx rfl hu hN out inn yes (fun hn=>no N hn out inn) 100000 0 none rfl (aqM _) (by omega) fun i p g e=>?_
 have hi:(L.map fun p=>hf p.2)[i]?=some (hf r):=by
  rw[aqm,g,←e]
  rfl
 have hil:i < t.place.toList.length:=by
  have k1:=(aqb.mp g).1
  have k2:=R.tab.sz
  rw[aqj]at k2
  rw[aqJ]
  omega
 obtain⟨c,hc,ec⟩:=R.tab.before out hi (aqc hil)
 exact⟨c,aqM _,hc,by rw[aqc hil,ec]⟩
end
section
variable{P:Program}{w:World}{A:Around}{E:Value->Shared->Prop}{s:Shared}{hf:Rw->Int}{a:Addr}{L:List Ent}{es:Array (Int×Value)}{ep:Nat}{t:SetTable}
theorem ael(L:List Ent)(n:Nat)(x:Addr)(r:Rw):ents hf (L.take n++(x,r)::L.drop n)=(ents hf L).take n++(hf r,Value.ref x)::(ents hf L).drop n:=by
 unfold ents
 rw[aqF,aqd,List.map_take,List.map_drop]
theorem range_all(L:List Ent):(List.range L.length).filterMap (fun i=>L[i]?)=L:=by
 have part:∀n,n<=L.length->(List.range n).filterMap (fun i=>L[i]?)=L.take n:=by
  intro n
  induction n with
  |zero=>exact fun _=>rfl
  |succ n ih=>
   intro hn
   rw[List.range_succ,List.filterMap_append,ih (by omega),List.take_add_one,aqc (show n < L.length by omega)]
   congr 1
   rw[List.filterMap_cons_some (aqc (show n < L.length by omega))]
   rfl
 rw[part _ (aqz _),List.take_length]
theorem ac0(h:es.toList=ents hf L){order:Array Nat}(hp:order.toList.Perm (List.range L.length)) :
  ∃M:List Ent,(order.filterMap (es[·]?)).toList=ents hf M/\M.Perm L/\(M.map fun p=>hf p.2)=order.toList.map fun i=>(es.map (·.1)).getD i 0:=by
 have inside:∀i∈order.toList,i < L.length:=fun i hi=>List.mem_range.mp (hp.mem_iff.mp hi)
 refine⟨order.toList.filterMap (fun i=>L[i]?),?_,?_,?_⟩
 ·have e1:(order.filterMap (es[·]?)).toList=order.toList.filterMap (fun i=>es[i]?):=by
   first | rw[Array.toList_filterMap] | simp
  rw[e1]
  unfold ents
  rw[List.map_filterMap]
  congr 1
  funext i
  rw[←aqN,h]
  unfold ents
  rw[aqm]
 ·have:=hp.filterMap (fun i=>L[i]?)
  rw[range_all]at this
  exact this
 ·generalize order.toList=l at inside
  induction l with
  |nil=>rfl
  |cons i l ih=>
   have hi:=inside i aqf
   have e5:(es.map (·.1))[i]?=some (hf (L[i]).2):=by
    rw[Array.getElem?_map,Ln h (aqc hi)]
    rfl
   rw[List.filterMap_cons_some (aqc hi),aqd,aqd,ih fun j hj=>inside j (aqe _ hj),Array.getD_eq_getD_getElem?,e5]
   rfl
theorem ako{o:Obj}(ho:s.heap.get? a=some o)(hex:o.ExactSet)(hd:o.data=.set es ep t)(he:es.toList=ents hf L)(hsz:t.place.size=es.size)(hdm:t.dummies=#[])(hfl:es.size<=t.mask)(nd:(L.map Prod.snd).Nodup)(ky:∀p∈L,RI s.heap p.2 p.1)(pl:t.plain=true)
  (ld:w.params.followText "set-order"=true∨t.led=true) (few:L.length<=76) {wanted M:Nat} (hw:SetTable.sizeAbove wanted - 1=M) (hM:MaskOk M) (hw2:SetTable.sizeAbove wanted<=128) (hn:L.length * 5 < M * 3) {Q:Unit->Shared->Prop}
  (q:∀h' K es' ep' t',Heap.SameBut a s.heap h'->qd hf w h' a K es' ep' t'->K.Perm L->Q () { s with heap:=h' }):wpAny (model P w) A (setRelay a wanted) Q E s:=by
 have len:=yh he
 obtain⟨t',order,e,hp,T,em,el,epl,ed⟩:=relaid_ok t (hs:=es.map (·.1)) (wanted:=wanted) hw hM (by rw[Array.size_map,len];omega)
 rw[Array.size_map,len]at hp
 obtain⟨K,k1,k2,k3⟩:=ac0 he hp
 rw[←k3]at T
 have ks:(order.filterMap (es[·]?)).size=es.size:=by
  rw[yh k1,k2.length_eq,len]
 rw[setRelay_eq]
 refine wpAny_bind (wpAny_setState_of ho hd (fits_of hsz hdm hfl) ?_)
 dsimp only
 refine wp_if_neg (by rw[sizeLine_eq];omega) ?_
 try refine wpAny_bind (wpAny_pure ?_)
 rw[e]
 dsimp only
 refine wpAny_bind ?_
 refine wp_if_neg (by rw[ks];simp) ?_
 try refine wpAny_bind (wpAny_pure ?_)
 refine wpAny_pure ?_
 dsimp only
 refine wpAny_storeSet_of ho hd ?_ (by rw[ks,len,sizeLine_eq];omega)
 have sb:Heap.SameBut a s.heap (s.heap.update a (Obj.putSet (order.filterMap (es[·]?)) t')):=Heap.SameBut.update ..
 refine q _ K (order.filterMap (es[·]?)) (ep+1) t' sb ⟨⟨_,store_at ho hd,⟨hex.1,hex.2.1,hex.2.2⟩,rfl⟩,k1,T,(k2.map Prod.snd).nodup_iff.mpr nd,fun p hp=>YH (ky p (k2.mem_iff.mp hp)) ho hd sb,by rw[epl];exact pl,by rw[el];exact ld,?_,by rw[k2.length_eq];exact few⟩ k2
 rw[k2.length_eq,em]
 exact hn
theorem aiJ(R:qd hf w s.heap a L es ep t){x:Addr}{r:Rw}(hx:RI s.heap r x)(hu:(mX P w).room A)(hfew:r∉L.map Prod.snd->L.length+1<=76){Q:Bool->Shared->Prop}
  (q:∀b h' K es' ep' t',Heap.SameBut a s.heap h'->qd hf w h' a K es' ep' t'->(r∈L.map Prod.snd->K=L)->(r∉L.map Prod.snd->K.Perm ((x,r)::L))->Q b { s with heap:=h' }):wpAny (model P w) A (setAddHashed a (.ref x) (hf r)) Q E s:=by
 obtain⟨o,ho,hex,hd⟩:=R.ob
 have len:=yh R.en
 have hfree:=R.free
 unfold setAddHashed
 refine wpAny_holding ?_
 rw[show(100000:Nat)=99999+1 from rfl,setAddHashedIn_succ]
 refine wpAny_bind (wpAny_setState_of ho hd R.fits ?_)
 dsimp only
 refine wp_if_neg (by simp[byScan,Value.scannable]) ?_
 try refine wpAny_bind (wpAny_pure ?_)
 refine wpAny_bind (look R hx hu (fun hm=>?_) fun N hm out inn=>?_)
 ·dsimp only
  exact wpAny_pure (q false s.heap L es ep t (Heap.SameBut.refl a s.heap) R (fun _=>rfl) fun z=>absurd hm z)
 have few1:=hfew hm
 dsimp only
 refine wpAny_bind (wpAny_setState_of ho hd R.fits ?_)
 dsimp only
 obtain⟨q1,q2,q3,q4,q5,q6,q7,q8,q9⟩:=R.tab.put out inn
 have pl1:(t.put (way t.mask (hf r) N)).1.plain=true:=by rw[q6];exact R.pl
 generalize hpt:t.put (way t.mask (hf r) N)=pt at q1 q3 q4 q5 q6 q7 q8 q9 pl1 ⊢
 obtain⟨t1,n⟩:=pt
 dsimp only at q1 q3 q4 q5 q6 q7 q8 q9 pl1 ⊢
 subst q1
 first
  |(refine wpAny_bind ?_;refine wp_if_pos pl1 ?_;refine(HY hx).2 ?_)
  |refine wp_if_pos pl1 (wpAny_bind ((HY hx).2 ?_))
 simp only[if_true]
 have ein:(SetTable.insertAt es (SetTable.below t.place (way t.mask (hf r) N)) (hf r,Value.ref x)).toList=ents hf (L.take (SetTable.below t.place (way t.mask (hf r) N))++(x,r)::L.drop (SetTable.below t.place (way t.mask (hf r) N))):=by
  rw[SetTable.toList_insertAt,ael,R.en]
 generalize hnn:SetTable.below t.place (way t.mask (hf r) N)=n at q2 q3 ein ⊢
 have pm:=put_perm L n (x,r)
 have hs1:(L.take n++(x,r)::L.drop n).map (fun p=>hf p.2)=(L.map fun p=>hf p.2).take n++hf r::(L.map fun p=>hf p.2).drop n:=by
  rw[aqF,aqd,List.map_take,List.map_drop]
 rw[←hs1]at q3
 have nd1:((L.take n++(x,r)::L.drop n).map Prod.snd).Nodup:=by
  refine(pm.map Prod.snd).nodup_iff.mpr ?_
  rw[aqd]
  exact aqZ.mpr ⟨hm,R.nd⟩
 have len1:(SetTable.insertAt es n (hf r,Value.ref x)).size=L.length+1:=by
  rw[yh ein,pm.length_eq]
  rfl
 generalize SetTable.insertAt es n (hf r,Value.ref x)=es1 at ein len1 ⊢
 have lenM:(L.take n++(x,r)::L.drop n).length=L.length+1:=pm.length_eq
 generalize L.take n++(x,r)::L.drop n=M at pm q3 nd1 ein lenM
 refine wpAny_bind (wpAny_storeSet_of ho hd ?_ (by rw[len1,sizeLine_eq];omega))
 have sb:Heap.SameBut a s.heap (s.heap.update a (Obj.putSet es1 t1)):=Heap.SameBut.update ..
 have ho1:=store_at (es':=es1) (t':=t1) ho hd
 generalize s.heap.update a (Obj.putSet es1 t1)=h1 at sb ho1 ⊢
 have ky1:∀p∈M,RI h1 p.2 p.1:=fun p hp=>by
  rcases aqp.mp (pm.mem_iff.mp hp) with e|m
  ·rw[e];exact YH hx ho hd sb
  ·exact YH (R.ky p m) ho hd sb
 have ld1:w.params.followText "set-order"=true∨t1.led=true:=by rw[q5];exact R.ld
 have full:t1.tooFull=true↔(L.length+1) * 5 ≥ t1.mask * 3:=by
  unfold SetTable.tooFull
  rw[decide_eq_true_eq,q9,aqj]
 by_cases hfu:t1.tooFull=true
 ·first
   |(refine wpAny_bind ?_;refine wp_if_pos (by simp[hfu]) ?_)
   |(refine wp_if_pos (by simp[hfu]) ?_;refine wpAny_bind ?_)
  have over:=full.mp hfu
  rw[len]
  have psz:t1.place.size=es1.size:=by
   have:=q3.sz
   rw[aqj,lenM]at this
   rw[this,len1]
  have which:(t.mask=7/\L.length=4)∨(t.mask=31/\L.length=18):=by
   rcases R.tab.mok with e|e|e
   ·rw[q4,e]at over;rw[e]at hfree;exact Or.inl ⟨e,by omega⟩
   ·rw[q4,e]at over;rw[e]at hfree;exact Or.inr ⟨e,by omega⟩
   ·rw[q4,e]at over;omega
  have go:∀m,SetTable.sizeAbove (SetTable.grown (L.length+1)) - 1=m->MaskOk m->SetTable.sizeAbove (SetTable.grown (L.length+1))<=128->(L.length+1) * 5 < m * 3->
    wpAny (model P w) A (setRelay a (SetTable.grown (L.length+1))) (fun _ u=>wpAny (model P w) A (pure true) Q E u) E { s with heap:=h1 }:=fun m g1 g2 g3 g4=>
   ako (s:={ s with heap:=h1 }) ho1 ⟨hex.1,hex.2.1,hex.2.2⟩ rfl ein psz q3.dm (by rw[len1,q4];rcases which with⟨e,e2⟩|⟨e,e2⟩ <;> omega) nd1 ky1 pl1 ld1 (by rw[lenM];exact few1) g1 g2 g3 (by rw[lenM];exact g4)
    fun h2 K es2 ep2 t2 sb2 R2 pm2=>wpAny_pure (q true h2 K es2 ep2 t2 (sb.trans sb2) R2 (fun z=>absurd z hm) fun _=>pm2.trans pm)
  rcases which with⟨_,e2⟩|⟨_,e2⟩
  ·exact go 31 (by rw[e2,size_20]) (.inr (.inl rfl)) (by rw[e2,size_20];decide) (by omega)
  ·exact go 127 (by rw[e2,size_76]) (.inr (.inr rfl)) (by rw[e2,size_76];decide) (by omega)
 ·first
   |refine wp_if_neg (by simp[hfu]) ?_
   |(refine wpAny_bind ?_;refine wp_if_neg (by simp[hfu]) ?_;refine wpAny_pure ?_)
  have under:¬(L.length+1) * 5 ≥ t1.mask * 3:=fun z=>hfu (full.mpr z)
  exact wpAny_pure (q true h1 M es1 (ep+1) t1 sb ⟨⟨_,ho1,⟨hex.1,hex.2.1,hex.2.2⟩,rfl⟩,ein,q3,nd1,ky1,pl1,ld1,by rw[lenM];omega,by rw[lenM];exact few1⟩ (fun z=>absurd z hm) fun _=>pm)
end
theorem BZ{α:Type}[DecidableEq α]:∀(l D:List α),l.Nodup->(∀x∈l,x∈D)->l.length<=D.length
 |[],_,_,_=>aqM _
 |x::l,D,hn,hs=>by
  obtain⟨h1,h2⟩:=aqZ.mp hn
  have mx:=hs x aqf
  have ih:=BZ l (D.erase x) h2 fun y hy=>(List.mem_erase_of_ne (fun e=>h1 (by rw[←e];exact hy))).2 (hs y (aqe _ hy))
  have e:=List.length_erase_of_mem mx
  have hp:=List.length_pos_of_mem mx
  rw[aqn]
  omega
structure Has(ks:List Ent)(i:Nat)(L:List Ent):Prop where
 sub:∀p∈L,p∈ks.take i
 all:∀p∈ks.take i,p.2∈L.map Prod.snd
theorem Cq{α:Type}{l:List α}{i:Nat}{x:α}(h:l[i]?=some x):l.take (i+1)=l.take i++[x]:=by
 rw[List.take_add_one,h]
 rfl
theorem Has.next{ks L K:List Ent}{i:Nat}{x:Ent}(g:Has ks i L)(h:ks[i]?=some x)(h1:x.2∈L.map Prod.snd->K=L)(h2:x.2∉L.map Prod.snd->K.Perm (x::L)):Has ks (i+1) K:=by
 by_cases c:x.2∈L.map Prod.snd
 ·rw[h1 c]
  refine⟨fun p hp=>?_,fun p hp=>?_⟩
  ·rw[Cq h]
   exact aqL _ (g.sub p hp)
  ·rw[Cq h]at hp
   rcases aqo.mp hp with m|m
   ·exact g.all p m
   ·rw[aqg.mp m]
    exact c
 ·have pm:=h2 c
  refine⟨fun p hp=>?_,fun p hp=>?_⟩
  ·rw[Cq h]
   rcases aqp.mp (pm.mem_iff.mp hp) with e|m
   ·exact aq4 _ (aqg.mpr e)
   ·exact aqL _ (g.sub p m)
  ·rw[(pm.map Prod.snd).mem_iff,aqd]
   rw[Cq h]at hp
   rcases aqo.mp hp with m|m
   ·exact aqe _ (g.all p m)
   ·rw[aqg.mp m]
    exact aqf
def yO(w:World):Obj:={ cls:=.type "set",dict:=none,data:=.set #[] 0 (.fresh 0 0 (!w.params.followText "set-order")) }
section
variable{P:Program}{w:World}{A:Around}{E:Value->Shared->Prop}{s:Shared}{hf:Rw->Int}
theorem qd.stay{h h':Heap}{a:Addr}{L:List Ent}{es:Array (Int×Value)}{ep:Nat}{t:SetTable}(R:qd hf w h a L es ep t)(ha:∀o,h.get? a=some o->h'.get? a=some o)(hk:∀p∈L,RI h' p.2 p.1):qd hf w h' a L es ep t:=by
 obtain⟨o,ho,r⟩:=R.ob
 exact⟨⟨o,ha o ho,r⟩,R.en,R.tab,R.nd,hk,R.pl,R.ld,R.free,R.few⟩
theorem aeM{h:Heap}{a:Addr}(ho:h.get? a=some (yO w)):qd hf w h a [] #[] 0 (.fresh 0 0 (!w.params.followText "set-order")):=by
 refine⟨⟨_,ho,⟨rfl,rfl,rfl⟩,rfl⟩,rfl,⟨List.Pairwise.nil,rfl,rfl,.inl rfl,fun x hx=>(by cases hx),fun i h j hi=>(by simp at hi)⟩,ari,fun p hp=>(by cases hp),rfl,?_,(show 0 * 5 < 7 * 3 by decide),aqM _⟩
 show _∨(!w.params.followText "set-order")=true
 cases w.params.followText "set-order"
 ·exact .inr rfl
 ·exact .inl rfl
theorem agq(hhf:∀r,(mX P w).hash r=hf r){I:Addr}{fp wr:List Addr}{G:Array GenState->Array GenState->Prop}{n:Nat}{Pv:Nat->Value->Prop}{St:Nat->Shared->Prop}{R:Result->Shared->Prop}(W:WalksS P w A.in1 I fp wr G n Pv St)(S:Addr)(hSf:S∉fp)(ks:List Ent)(hn:n=ks.length)
  (D:List Rw) (hD:D.length<=76) (hkD:∀p∈ks,p.2∈D) (hval:∀i v,Pv i v->∃p,ks[i]?=some p/\v=.ref p.1) (h0:Heap) (hk:∀p∈ks,RI h0 p.2 p.1) (hS0:h0.get? S=none) (hw0:∀b∈wr,h0.get? b=none) (hu:(mX P w).room A.in1) :
  ∀(m i:Nat) (s:Shared),n - i=m->i<=n->St i s->(∀b o,h0.get? b=some o->s.heap.get? b=some o)->(∃L es ep t,qd hf w s.heap S L es ep t/\Has ks i L)->
   (∀u L es ep t,Moved (S::wr) G s u->qd hf w u.heap S L es ep t->Has ks n L->(∀b o,h0.get? b=some o->u.heap.get? b=some o)->R (.ok (.ret .none)) u)->
   codeAny (model P w) A (.builtin "set.update.loop" ⟨[.ref S,.ref I],[]⟩) R s:=by
 have Sw:S∉wr:=fun h=>hSf (W.sub _ h)
 have wS:∀b∈wr,b∈S::wr:=fun b hb=>aqe _ hb
 have old:∀{s u:Shared},Moved wr G s u->(∀b o,h0.get? b=some o->s.heap.get? b=some o)->∀b o,h0.get? b=some o->u.heap.get? b=some o:=fun hm hkp b o e=>hm.heap b o (fun hb=>by rw[hw0 b hb]at e;cases e) (hkp b o e)
 intro m
 induction m with
 |zero=>
  intro i s hm0 hi hst hkp ⟨L,es,ep,t,hS,g⟩ hR
  obtain rfl:i=n:=by omega
  refine codeAny_builtin PyProof.Rows.F.entry_set_update_loop ?_
  rw[Around.under_plainId PyProof.Rows.F.plain_set_update_loop _]
  refine wpAny_bind (W.done s _ _ hst fun u hm=>?_)
  have kept:=old hm hkp
  exact wpAny_pure (hR u L es ep t (hm.mono wS) (hS.stay (fun o e=>hm.heap S o Sw e) fun p hp=>Sq (hk p (aq7 (g.sub p hp))) kept) g kept)
 |succ m ih=>
  intro i s hm0 hi hst hkp ⟨L,es,ep,t,hS,g⟩ hR
  have hlt:i < n:=by omega
  refine codeAny_builtin PyProof.Rows.F.entry_set_update_loop ?_
  rw[Around.under_plainId PyProof.Rows.F.plain_set_update_loop _]
  refine wpAny_bind (W.item i s _ _ hlt hst fun v u hP hst' hm=>?_)
  obtain⟨p,hp,rfl⟩:=hval i v hP
  have kept:=old hm hkp
  have hS':qd hf w u.heap S L es ep t:=hS.stay (fun o e=>hm.heap S o Sw e) fun q hq=>Sq (hk q (aq7 (g.sub q hq))) kept
  have hx:RI u.heap p.2 p.1:=Sq (hk p (aqh hp)) kept
  refine wpAny_bind (wpAny_holding ?_)
  unfold setAdd
  refine wpAny_holding ?_
  refine wpAny_bind ((mX P w).pyHash hu hx ?_)
  rw[hhf]
  have inD:∀y∈L.map Prod.snd,y∈D:=fun y hy=>by
   obtain⟨q,hq,e⟩:=aqk.mp hy
   rw[←e]
   exact hkD q (aq7 (g.sub q hq))
  refine aiJ (s:={ u with toks:=u.toks+(mX P w).draws p.2 }) hS' hx hu (fun hnew=>?_) fun b h' K es' ep' t' sb hS2 c1 c2=>?_
  ·have:=BZ (p.2::L.map Prod.snd) D (aqZ.mpr ⟨hnew,hS.nd⟩) fun y hy=>by
    rcases aqp.mp hy with e|hy
    ·rw[e];exact hkD p (aqh hp)
    ·exact inD y hy
   rw[aqn,aqj]at this
   omega
  have kept2:∀b o,h0.get? b=some o->h'.get? b=some o:=fun b o e=>(sb.2 b (fun z=>by rw[z,hS0]at e;cases e)).trans (kept b o e)
  refine wpAny_pure ⟨plainId_quiet PyProof.Rows.F.plain_set_update_loop _,ih (i+1) _ (by omega) hlt (W.frame _ u _ _ hst' (Nat.le_add_right _ _) fun b hb o e=>?_) kept2 ⟨K,es',ep',t',hS2,g.next hp c1 c2⟩ fun v L2 es2 ep2 t2 hm2 hS3 g3 k3=>?_⟩
  ·rw[sb.2 b (fun h:b=S=>hSf (by rw[←h];exact hb))];exact e
  ·refine hR v L2 es2 ep2 t2 (Moved.trans W.gtrans ((hm.mono wS).then_heap (Nat.le_add_right _ _) fun b o hb e=>?_) hm2) hS3 g3 k3
   rw[sb.2 b (fun h:b=S=>hb (by rw[h];exact aqf))];exact e
set_option maxHeartbeats 4000000 in
theorem ZG(hhf:∀r,(mX P w).hash r=hf r){l:Addr}{items:Array Value}(ks:List Ent)(D:List Rw)(hD:D.length<=76)(hkD:∀p∈ks,p.2∈D){Q:Value->Shared->Prop}(hh:A.handled=none)(hl:s.heap.IsList l items)(hit:items.toList=ks.map fun p=>Value.ref p.1)
  (hk:∀p∈ks,RI s.heap p.2 p.1) (hu:A.units+3+8 < cLine)
  (h:∀(h':Heap) (tk:Nat) L es ep t,qd hf w h' s.heap.objs.size L es ep t->Has ks ks.length L->(∀b o,s.heap.get? b=some o->h'.get? b=some o)->Q (.ref s.heap.objs.size) { s with heap:=h',toks:=tk }) :
  wpAny (model P w) A (call (.type "set") [.ref l]) Q E s:=by
 have isz:items.size=ks.length:=by
  rw[←aqJ,hit,aqj]
 obtain⟨cc,tl,hmro⟩:=PySem.F.called_set.mro
 have hmade:=PySem.F.called_set.made
 have hsub:=PySem.F.called_set.sub
 refine wpAny_call (codeAny_of_tree ?_)
 show wpAny _ _ (callAny (.type "set") _) _ _ _
 refine wpAny_pure ⟨Code.quiet_builtin _ (by decide +kernel),codeAny_builtin PySem.F.entry_type_call ?_⟩
 rw[Around.under_plain (weight_type_call_type "set" [.ref l] []) rfl]
 have nt:=PySem.F.called_set.notType
 have cr:=PySem.F.called_set.canCreate
 have hct:=PySem.F.typeCall_set_1 (.ref l)
 (repeat (any_goals first | assumption | wp_step))
 refine codeAny_mono (code_set_led1 (.ref l) (E:=E) (Q₁:=fun v u=>v=.ref s.heap.objs.size/\u={ s with heap:=s.heap.push (yO w) }) ⟨rfl,rfl⟩) fun r u hr=>?_
 cases r with
 |error e=>exact hr
 |ok fl=>
  cases fl with
  |ret v=>
   obtain⟨rfl,rfl⟩:=hr
   have hS:(s.heap.push (yO w)).get? s.heap.objs.size=some (yO w):=Heap.get?_push_size _ rfl
   have hT:Shared.TypeIs { s with heap:=s.heap.push (yO w) } (.ref s.heap.objs.size) "set":=⟨_,hS,rfl⟩
   have hli:=PySem.F.called_set.init.lookup
   have hbi:=PySem.F.called_set.init.bind (.ref s.heap.objs.size)
   (repeat (any_goals first | assumption | wp_step))
   refine codeAny_mono (codeAny_call_builtin (R:=wants (fun r u=>r=.none/\∃h' tk L es ep t,u={ s with heap:=h',toks:=tk }/\qd hf w h' s.heap.objs.size L es ep t/\Has ks ks.length L/\∀b o,s.heap.get? b=some o->h'.get? b=some o) E) PySem.F.called_set.init.plain PySem.F.entry_set_init (check_set_init_1 hT ?_)) fun r₂ u₂ hr₂=>?_
   ·obtain⟨ol,hol,hcl,nl,hdl⟩:=hl
    obtain⟨ocls,odict,odata,oslots⟩:=ol
    simp only at hcl hdl
    subst hcl;subst hdl
    have hol':(s.heap.push (yO w)).get? l=some { cls:=.type "list",dict:=odict,data:=.seq items nl,slots:=oslots }:=Heap.get?_push_of_some _ hol
    have sl1:=PySem.F.sub_list_set
    have sl2:=PySem.F.sub_list_frozenset
    have nd:(Value.type "list"==Value.type "dict")=false:=by decide
    have hl1:(s.heap.push (yO w)).IsList l items:=⟨_,hol',rfl,nl,rfl⟩
    unfold Builtin.«set.__init__» noKeywords Builtin.Frozenset.updateFrom
    generalize hPI:pyIter=PI
    wp_walk
    subst hPI
    refine wpAny_pyIter_list hl1 ?_
    refine wpAny_bind (wpAny_runValue ?_)
    have lS:l < s.heap.objs.size:=Heap.lt_size hol
    have h3:A.in1.in1.in1.handled=none:=by simp[hh]
    have sz1:(s.heap.push (yO w)).objs.size=s.heap.objs.size+1:=Heap.size_push ..
    have lI:l≠(s.heap.push (yO w)).objs.size:=by rw[sz1];exact aqG (aq5 lS)
    have Sf:s.heap.objs.size∉[(s.heap.push (yO w)).objs.size,l]:=by
     rw[sz1]
     simp only[aqp,aqI,or_false,not_or]
     exact⟨aqG (Nat.lt_succ_self _),Nat.ne_of_gt lS⟩
    have hval:∀(i:Nat) (v:Value),items[i]?=some v->∃p,ks[i]?=some p/\v=.ref p.1:=fun i v hv=>by
     rw[←aqN,hit,aqm]at hv
     obtain⟨p,g1,g2⟩:=aqV.mp hv
     exact⟨p,g1,g2.symm⟩
    have fresh:∀b,s.heap.objs.size<=b->s.heap.get? b=none:=fun b hb=>by
     cases q:s.heap.get? b with
     |none=>rfl
     |some o=>exact absurd (Heap.lt_size q) (Nat.not_lt_of_le hb)
    refine agq hhf ((Walks.list h3 _ l lI items).toS) s.heap.objs.size Sf ks isz D hD hkD hval s.heap hk (fresh _ (aqz _)) (fun b hb=>fresh b (by rw[aqg.mp hb,sz1];exact Nat.le_succ _)) hu (items.size - 0) 0 _ (by omega) (aqM _)
     ⟨⟨_,Heap.get?_push_size _ rfl,rfl,rfl⟩,(hl1.push _)⟩ (fun b o e=>Heap.get?_push_of_some _ (Heap.get?_push_of_some _ e)) ⟨[],#[],0,_,aeM (Heap.get?_push_of_some _ hS),⟨fun p hp=>(by cases hp),fun p hp=>(by simp at hp)⟩⟩ fun u L es ep t hm hS' g' kp=>?_
    obtain⟨h',g2,d',tk',os'⟩:=u
    have eg:g2=s.gens:=hm.gens
    have ed:d'=s.drawn:=hm.drawn
    have eo:os'=s.os:=hm.os
    subst eg;subst ed;subst eo
    refine wpAny_pure ?_
    rw[isz]at g'
    exact wpAny_pure ⟨rfl,h',tk',L,es,ep,t,rfl,hS',g',kp⟩
   ·cases r₂ with
    |error e=>exact hr₂
    |ok fl₂=>
     cases fl₂ with
     |ret r=>
      obtain⟨rfl,h',tk,L,es,ep,t,rfl,hS',g',hk'⟩:=hr₂
      (repeat (any_goals first | assumption | wp_step))
      exact h _ _ _ _ _ _ hS' g' hk'
     |_=>exact hr₂.elim
  |_=>exact hr.elim
end
def abA(w:World)(h:Heap)(a:Addr)(L:List Ent):Prop:=∃(hf:Rw->Int) (es:Array (Int×Value)) (ep:Nat) (t:SetTable),(∃o,h.get? a=some o/\o.ExactSet/\o.data=.set es ep t)/\es.toList=ents hf L/\t.fits es.size=true/\Ris t.place.toList/\(w.params.followText "set-order"=true∨t.led=true)
def KY(w:World)(a:Addr)(L:List Ent):HO:=.ext fun h=>abA w h a L
section
variable{X:Cx}
theorem Uw{P:Program}{w:World}{h:Heap}:∀(l:List Int) (us:List Value),Vals (l.map V.int) us->NestedAll h (l.map .num) us
 |[],_,.nil=>.nil
 |i::l,_,.cons r t=>by
  obtain⟨tk,rfl⟩:=r
  exact .cons (.int i tk) (Uw (P:=P) (w:=w) l _ t)
theorem Vi:∀{ks:List Ent} {us:List Value},Vals (ks.map fun p=>V.ref p.1) us->us=ks.map fun p=>Value.ref p.1
 |[],_,.nil=>rfl
 |p::ks,_,.cons r t=>by
  cases r
  rw[Vi t]
  rfl
theorem Va{L:List Ent}:∀(out:List Value) (M:List Rw),PySem.W.EachIs (fun v (r:Rw)=>∃p∈L,v=Value.ref p.1/\r=p.2) out M->∃ys:List V,Vals ys out/\eG (fun v (r:Rw)=>∃p∈L,v=V.ref p.1/\r=p.2) ys M
 |[],[],.nil=>⟨[],.nil,eG.nil⟩
 |_::out,_::M,.cons ⟨p,hp,e1,e2⟩ k=>by
  obtain⟨ys,h1,h2⟩:=Va out M k
  subst e1 e2
  refine⟨.ref p.1::ys,.cons rfl h1,by rw[aqn,aqn,h2.1],fun j u y g1 g2=>?_⟩
  cases j with
  |zero=>
   cases g1
   cases g2
   exact⟨p,hp,rfl,rfl⟩
  |succ j=>exact h2.2 j u y g1 g2
end
def gF(da dc:Addr):List (Str×V):=putF ("circles" : Str) (.ref dc) (putF ("allowances" : Str) (.ref da) [])
structure aes(C:Addr)(H:Hp)(p da dc:Addr)(al:List Int)(ci:List (List Int)):Prop where
 ob:∃dx,H p=some (.ins C dx (gF da dc))
 la:H da=some (.lst (al.map V.int))
 lc:∃us,H dc=some (.lst us)/\eG (Gn H) us ci
 ne:da≠dc
theorem aes.mono{C:Addr}{H H':Hp}(e:Ex H H'){p da dc:Addr}{al:List Int}{ci:List (List Int)}(g:aes C H p da dc al ci):aes C H' p da dc al ci:=by
 obtain⟨⟨dx,ob⟩,la,⟨us,h1,h2⟩,ne⟩:=g
 exact⟨⟨dx,e _ _ ob⟩,e _ _ la,⟨us,e _ _ h1,h2.imp fun _ _ r=>r.mono e⟩,ne⟩
end Ear
namespace Rf
open PySem PySem.Spec PyProof.Rows L2 Evl
abbrev obj(h:Nat):Dat:=PyData.dict [(PyData.none,PyData.int (Int.ofNat h))]
inductive iJ where
 |dat (d:Dat)|lst (n:Nat) (xs:List Dat)|dic (n:Bool) (kvs:List (Dat×Dat))
structure aO where
 f:Str->Option Addr
 fl:Str->List Str
 w:World
instance:CoeFun aO fun _=>Str->Option Addr:=⟨aO.f⟩
structure Inst where
 cls:Str
 fs:List (Str×iJ)
abbrev Mo:=List Inst
inductive Cell where
 |dat (d:Dat)|mut (xs:List Dat)
abbrev Env:=List (Option Cell)
structure dI where
 cls:Str
 fs:List (Str×Dat)
inductive Out(α:Type) where
 |ok (a:α)|exc (x:dI)|bad
inductive aY(α:Type) where
 |ok (a:α) (M:Mo)|exc (x:dI) (M:Mo)|bad
inductive sJ where
 |next (ρ:Env) (M:Mo)|ret (d:Dat) (M:Mo)|brk (ρ:Env) (M:Mo)|cont (ρ:Env) (M:Mo)|exc (x:dI) (ρ:Env) (M:Mo)|bad
structure Gh where
 tbl:List Addr
 ow:Addr->Option (Nat×Str)
 Lc:Addr->Prop
 Lo:Addr->Prop
def Gh.W(g:Gh)(a:Addr):Prop:=a∈g.tbl∨g.ow a≠none
def Gh.A(g:Gh)(a:Addr):Prop:=g.W a∨g.Lc a∨g.Lo a
def Hw:HO->Prop
 |.tup _=>False
 |.frz _ _=>False
 |_=>True
def amu(K:ap9)(a:Addr)(xs:List V):Prop:=∃(o:Obj) (its:Array Value) (n:Nat),K.lookup a=some o/\o.cls=.type "list"/\o.dict=none/\o.data=.seq its n/\its.size<=sizeLine/\Vals xs its.toList
def M6(K:ap9)(g:Gh)(H:Hp)(a:Addr)(xs:List V):Prop:=(Rd H a (.lst xs)/\¬g.A a)∨amu K a xs
theorem M6.sq{K:ap9}{g:Gh}{H:Hp}{a:Addr}{xs:List V}(h:M6 K g H a xs):SqL K H a xs:=h.elim (fun z=>.inl z.1) .inr
mutual
inductive Rep(K:ap9)(g:Gh)(H:Hp):V->Dat->Prop
 |non:Rep K g H .non .none
 |bl (b:Bool):Rep K g H (.bl b) (.bool b)
 |int (i:Int):Rep K g H (.int i) (.int i)
 |str (x:Str):Rep K g H (.str x) (.str x)
 |tup {a:Addr} {xs:List V} {ds:List Dat}:SqT K H a xs->aH K g H xs ds->Rep K g H (.ref a) (.tuple ds)
 |lst {a:Addr} {xs:List V} {ds:List Dat}:M6 K g H a xs->aH K g H xs ds->Rep K g H (.ref a) (.list ds)
 |obj {a:Addr} {h:Nat}:g.tbl[h]?=some a->Rep K g H (.ref a) (obj h)
inductive aH(K:ap9)(g:Gh)(H:Hp):List V->List Dat->Prop
 |nil:aH K g H [] []
 |cons {v:V} {vs:List V} {d:Dat} {ds:List Dat}:Rep K g H v d->aH K g H vs ds->aH K g H (v::vs) (d::ds)
end
structure Kd(g:Gh)(H:Hp):Prop where
 ob:∀a,g.A a->∃o,H a=some o/\Hw o
 lo:∀a,g.Lo a->¬g.W a
 lc:∀a,g.Lc a->¬g.W a/\¬g.Lo a
structure Gr(q:Bool)(g g':Gh)(H H':Hp):Prop where
 keep:∀a o,H a=some o->¬g.W a->¬g.Lo a->H' a=some o
 keepW:q=true->∀a o,H a=some o->g.W a->H' a=some o
 dom:∀a,H' a=none->H a=none
 tbl:∃more,g'.tbl=g.tbl++more
 W:∀a,g.W a->g'.W a
 nW:∀a,g'.W a->g.W a∨H a=none
 qg:q=true->g'.tbl=g.tbl/\g'.ow=g.ow
 Lc:g'.Lc=g.Lc
 Lo:∀a,g.Lo a->g'.Lo a
 nLo:∀a,g'.Lo a->g.Lo a∨H a=none
section
variable{K:ap9}{q:Bool}{g g' g2:Gh}{H H' H2:Hp}{v:V}{d:Dat}
theorem Gr.refl:Gr q g g H H:=⟨fun _ _ h _ _=>h,fun _ _ _ h _=>h,fun _ h=>h,⟨[],by simp⟩,fun _ h=>h,fun _ h=>.inl h,fun _=>⟨rfl,rfl⟩,rfl,fun _ h=>h,fun _ h=>.inl h⟩
theorem Bu(e:Ex H H'):∀a,H' a=none->H a=none:=fun a h=>by
 cases h1:H a with
 |none=>rfl
 |some o=>
  rw[e a o h1]at h
  cases h
theorem Gr.ex(e:Ex H H'):Gr q g g H H':=⟨fun a o h _ _=>e a o h,fun _ a o h _=>e a o h,Bu e,⟨[],by simp⟩,fun _ h=>h,fun _ h=>.inl h,fun _=>⟨rfl,rfl⟩,rfl,fun _ h=>h,fun _ h=>.inl h⟩
theorem Gr.trans(a:Gr q g g' H H')(b:Gr q g' g2 H' H2):Gr q g g2 H H2 where
 keep:=fun x o h nw nl=>by
  have h1:=a.keep x o h nw nl
  refine b.keep x o h1 (fun z=>?_) (fun z=>?_)
  ·rcases a.nW x z with z|z
   ·exact nw z
   ·rw[h]at z
    cases z
  ·rcases a.nLo x z with z|z
   ·exact nl z
   ·rw[h]at z
    cases z
 keepW:=fun hq x o h w=>b.keepW hq x o (a.keepW hq x o h w) (a.W x w)
 dom:=fun x h=>a.dom x (b.dom x h)
 tbl:=by
  obtain⟨m1,e1⟩:=a.tbl
  obtain⟨m2,e2⟩:=b.tbl
  exact⟨m1++m2,by rw[e2,e1,List.append_assoc]⟩
 W:=fun x h=>b.W x (a.W x h)
 nW:=fun x h=>by
  rcases b.nW x h with z|z
  ·exact a.nW x z
  ·exact .inr (a.dom x z)
 qg:=fun hq=>by
  obtain⟨e1,e2⟩:=a.qg hq
  obtain⟨f1,f2⟩:=b.qg hq
  exact⟨f1.trans e1,f2.trans e2⟩
 Lc:=b.Lc.trans a.Lc
 Lo:=fun x h=>b.Lo x (a.Lo x h)
 nLo:=fun x h=>by
  rcases b.nLo x h with z|z
  ·exact a.nLo x z
  ·exact .inr (a.dom x z)
theorem Gr.loud(a:Gr q g g' H H'):Gr false g g' H H':=⟨a.keep,(fun h=>nomatch h),a.dom,a.tbl,a.W,a.nW,(fun h=>nomatch h),a.Lc,a.Lo,a.nLo⟩
theorem Gr.nA(r:Gr q g g' H H'){a:Addr}{o:HO}(h:H a=some o)(n:¬g.A a):¬g'.A a:=fun z=>by
 rcases z with z|z|z
 ·rcases r.nW a z with z|z
  ·exact n (.inl z)
  ·rw[h]at z
   cases z
 ·rw[r.Lc]at z
  exact n (.inr (.inl z))
 ·rcases r.nLo a z with z|z
  ·exact n (.inr (.inr z))
  ·rw[h]at z
   cases z
theorem Gr.rd(r:Gr q g g' H H'){a:Addr}{o:HO}(h:Rd H a o)(n:¬g.A a):Rd H' a o/\¬g'.A a:=by
 rcases h with h|⟨z,h⟩
 ·exact⟨.inl (r.keep a _ h (fun w=>n (.inl w)) fun w=>n (.inr (.inr w))),r.nA h n⟩
 ·exact⟨.inr ⟨z,r.keep a _ h (fun w=>n (.inl w)) fun w=>n (.inr (.inr w))⟩,r.nA h n⟩
theorem Kd.tup(k:Kd g H){a:Addr}{xs:List V}(h:Rd H a (.tup xs)):¬g.A a:=fun z=>by
 obtain⟨o,e,m⟩:=k.ob a z
 rcases h with h|⟨y,h⟩ <;> (rw[h]at e;cases e;exact m)
theorem Gr.sqT(r:Gr q g g' H H')(k:Kd g H){a:Addr}{xs:List V}(h:SqT K H a xs):SqT K H' a xs:=by
 rcases h with h|h
 ·exact .inl (r.rd h (k.tup h)).1
 ·exact .inr h
theorem Gr.ls(r:Gr q g g' H H'){a:Addr}{xs:List V}(h:M6 K g H a xs):M6 K g' H' a xs:=by
 rcases h with⟨h,n⟩|h
 ·exact .inl (r.rd h n)
 ·exact .inr h
theorem Gr.tb(r:Gr q g g' H H'){h:Nat}{a:Addr}(e:g.tbl[h]?=some a):g'.tbl[h]?=some a:=by
 obtain⟨m,em⟩:=r.tbl
 rw[em,aql (aqb.mp e).1]
 exact e
mutual
theorem Rep.gr(r:Gr q g g' H H')(k:Kd g H):∀{v:V} {d:Dat},Rep K g H v d->Rep K g' H' v d
 |_,_,.non=>.non
 |_,_,.bl b=>.bl b
 |_,_,.int i=>.int i
 |_,_,.str x=>.str x
 |_,_,.tup h t=>.tup (r.sqT k h) (aH.gr r k t)
 |_,_,.lst h t=>.lst (r.ls h) (aH.gr r k t)
 |_,_,.obj h=>.obj (r.tb h)
theorem aH.gr(r:Gr q g g' H H')(k:Kd g H):∀{vs:List V} {ds:List Dat},aH K g H vs ds->aH K g' H' vs ds
 |_,_,.nil=>.nil
 |_,_,.cons h t=>.cons (Rep.gr r k h) (aH.gr r k t)
end
mutual
theorem Rep.less(e:g'.tbl=g.tbl)(n:∀a,g'.A a->g.A a):∀{v:V} {d:Dat},Rep K g H v d->Rep K g' H v d
 |_,_,.non=>.non
 |_,_,.bl b=>.bl b
 |_,_,.int i=>.int i
 |_,_,.str x=>.str x
 |_,_,.tup h t=>.tup h (aH.less e n t)
 |_,_,.lst h t=>.lst (h.elim (fun z=>.inl ⟨z.1,fun y=>z.2 (n _ y)⟩) .inr) (aH.less e n t)
 |_,_,.obj h=>.obj (by rw[e];exact h)
theorem aH.less(e:g'.tbl=g.tbl)(n:∀a,g'.A a->g.A a):∀{vs:List V} {ds:List Dat},aH K g H vs ds->aH K g' H vs ds
 |_,_,.nil=>.nil
 |_,_,.cons h t=>.cons (Rep.less e n h) (aH.less e n t)
end
mutual
def lf:Dat->Bool
 |.list _=>false
 |.tuple ds=>lfs ds
 |.dict _=>true
 |.none=>true
 |.bool _=>true
 |.int _=>true
 |.str _=>true
def lfs:List Dat->Bool
 |[]=>true
 |d::ds=>lf d&&lfs ds
end
mutual
theorem Rep.free(e:g'.tbl=g.tbl):∀{v:V} {d:Dat},lf d=true->Rep K g H v d->Rep K g' H v d
 |_,_,_,.non=>.non
 |_,_,_,.bl b=>.bl b
 |_,_,_,.int i=>.int i
 |_,_,_,.str x=>.str x
 |_,_,f,.tup h t=>.tup h (aH.free e (by rw[lf]at f;exact f) t)
 |_,_,f,.lst h t=>by rw[lf]at f;cases f
 |_,_,_,.obj h=>.obj (by rw[e];exact h)
theorem aH.free(e:g'.tbl=g.tbl):∀{vs:List V} {ds:List Dat},lfs ds=true->aH K g H vs ds->aH K g' H vs ds
 |_,_,_,.nil=>.nil
 |_,_,f,.cons h t=>.cons (Rep.free e (by rw[lfs,aqa]at f;exact f.1) h) (aH.free e (by rw[lfs,aqa]at f;exact f.2) t)
end
theorem aH.length:∀{vs:List V} {ds:List Dat},aH K g H vs ds->vs.length=ds.length
 |_,_,.nil=>rfl
 |_,_,.cons _ t=>congrArg (· + 1) t.length
theorem aH.get:∀{vs:List V} {ds:List Dat} {i:Nat} {d:Dat},aH K g H vs ds->ds[i]?=some d->∃v,vs[i]?=some v/\Rep K g H v d
 |_,_,_,_,.nil,e=>by simp at e
 |_,_,0,_,.cons h _,e=>by simp at e;subst e;exact⟨_,rfl,h⟩
 |_,_,i+1,_,.cons _ t,e=>by simpa using t.get (i:=i) (by simpa using e)
theorem aH.get':∀{vs:List V} {ds:List Dat} {i:Nat} {v:V},aH K g H vs ds->vs[i]?=some v->∃d,ds[i]?=some d/\Rep K g H v d
 |_,_,_,_,.nil,e=>by simp at e
 |_,_,0,_,.cons h _,e=>by simp at e;subst e;exact⟨_,rfl,h⟩
 |_,_,i+1,_,.cons _ t,e=>by simpa using t.get' (i:=i) (by simpa using e)
theorem aH.append:∀{vs ws:List V} {ds es:List Dat},aH K g H vs ds->aH K g H ws es->aH K g H (vs++ws) (ds++es)
 |_,_,_,_,.nil,t=>t
 |_,_,_,_,.cons h r,t=>.cons h (r.append t)
theorem aH.take:∀{vs:List V} {ds:List Dat} (n:Nat),aH K g H vs ds->aH K g H (vs.take n) (ds.take n)
 |_,_,0,_=>.nil
 |_,_,_+1,.nil=>.nil
 |_,_,n+1,.cons h t=>.cons h (t.take n)
theorem aH.drop:∀{vs:List V} {ds:List Dat} (n:Nat),aH K g H vs ds->aH K g H (vs.drop n) (ds.drop n)
 |_,_,0,t=>t
 |_,_,_+1,.nil=>.nil
 |_,_,n+1,.cons _ t=>t.drop n
theorem aH.set{v:V}{d:Dat}(r:Rep K g H v d):∀{vs:List V} {ds:List Dat} (i:Nat),aH K g H vs ds->aH K g H (vs.set i v) (ds.set i d)
 |_,_,_,.nil=>.nil
 |_,_,0,.cons _ t=>.cons r t
 |_,_,i+1,.cons h t=>.cons h (t.set r i)
theorem Gr.upd{l:Addr}{o o':HO}(k:Kd g H)(h:H l=some o)(w:(g.W l/\q=false)∨g.Lo l):Gr q g g H (L2.upd H l o') where
 keep:=fun a u e nw nl=>by
  rw[upd_ne (fun z=>by subst z;exact w.elim (fun w=>nw w.1) nl)]
  exact e
 keepW:=fun hq a u e wa=>by
  rcases w with w|w
  ·rw[hq]at w
   cases w.2
  ·rw[upd_ne (fun z=>by subst z;exact k.lo _ w wa)]
   exact e
 dom:=fun a e=>by
  by_cases z:a=l
  ·subst z
   rw[upd_same]at e
   cases e
  ·rw[upd_ne z]at e
   exact e
 tbl:=⟨[],by simp⟩
 W:=fun _ h=>h
 nW:=fun _ h=>.inl h
 qg:=fun _=>⟨rfl,rfl⟩
 Lc:=rfl
 Lo:=fun _ h=>h
 nLo:=fun _ h=>.inl h
theorem Kd.ex(k:Kd g H)(e:Ex H H'):Kd g H':=⟨fun a z=>let ⟨o,h,m⟩:=k.ob a z;⟨o,e a o h,m⟩,k.lo,k.lc⟩
theorem Kd.upd(k:Kd g H){l:Addr}{o:HO}(m:Hw o):Kd g (L2.upd H l o):=⟨fun a z=>by
 by_cases e:a=l
 ·subst e
  exact⟨o,upd_same,m⟩
 ·rw[upd_ne e]
  exact k.ob a z,k.lo,k.lc⟩
theorem Rep.ex(e:Ex H H')(k:Kd g H)(h:Rep K g H v d):Rep K g H' v d:=h.gr (Gr.ex (q:=true) e) k
theorem aH.ex{vs:List V}{ds:List Dat}(e:Ex H H')(k:Kd g H)(h:aH K g H vs ds):aH K g H' vs ds:=h.gr (Gr.ex (q:=true) e) k
end
def keyD:Key->Dat
 |.inl i=>.int i
 |.inr x=>.str x
def iw(l:Addr)(o:Obj):HO:=.ext fun h=>h.get? l=some o
abbrev mj:Type:=NestedKey×Addr×Value
def adI(w:World)(x:mj):DictEntry:=⟨x.1.hash w,.ref x.2.1,x.2.2⟩
structure kW(w:World)(l:Addr)(o:Obj)(xs:List mj):Prop where
 sys:(l==sysModules)=false
 ex:o.ExactDict
 ent:∃es ep,o.data=.dict es ep/\es.toList=xs.map (adI w)
 nd:(xs.map (·.1)).Nodup
 len:xs.length<=sizeLine
 dep:∀x∈xs,x.1.depth<=8
def ji(K:ap9)(aj:aO)(g:Gh)(H:Hp)(l:Addr):Bool->List (Dat×Dat)->Prop
 |false,kvs=>∃kv:List (Key×V),H l=some (.dK kv)/\kvs.map (·.1)=kv.map (fun p=>keyD p.1)/\aH K g H (kv.map (·.2)) (kvs.map (·.2))
 |true,kvs=>∃(o:Obj) (xs:List mj) (vs:List V),H l=some (iw l o)/\kW aj.w l o xs/\kvs.map (·.1)=xs.map (fun x=>x.1.data)/\aH K g H (xs.map fun x=>V.ref x.2.1) (kvs.map (·.1))/\Vals vs (xs.map (·.2.2))/\aH K g H vs (kvs.map (·.2))
def dO(K:ap9)(aj:aO)(g:Gh)(H:Hp)(h:Nat)(f:Str)(v:V):iJ->Prop
 |.dat d=>Rep K g H v d
 |.lst n xs=>∃l us,v=.ref l/\H l=some (.lst us)/\g.ow l=some (h,f)/\aH K g H us xs/\g.tbl[n]?=some l
 |.dic n kvs=>∃l,v=.ref l/\g.ow l=some (h,f)/\ji K aj g H l n kvs
inductive cJ(K:ap9)(aj:aO)(g:Gh)(H:Hp)(h:Nat):List (Str×V)->List (Str×iJ)->Prop
 |nil:cJ K aj g H h [] []
 |cons {f:Str} {v:V} {fl:iJ} {fs:List (Str×V)} {gs:List (Str×iJ)}:dO K aj g H h f v fl->cJ K aj g H h fs gs->cJ K aj g H h ((f,v)::fs) ((f,fl)::gs)
structure fM(K:ap9)(aj:aO)(g:Gh)(H:Hp)(M:Mo):Prop where
 len:g.tbl.length=M.length
 inj:∀(h k:Nat) (a:Addr),g.tbl[h]?=some a->g.tbl[k]?=some a->h=k
 ins:∀(h:Nat) (a:Addr) (i:Inst),g.tbl[h]?=some a->M[h]?=some i->i.cls≠""->∃C dx fs,aj i.cls=some C/\H a=some (.ins C dx fs)/\cJ K aj g H h fs i.fs
 nd:∀(h:Nat) (i:Inst),M[h]?=some i->(i.fs.map (·.1)).Nodup
 fd:∀(h:Nat) (i:Inst),M[h]?=some i->∀f∈i.fs.map (·.1),f∈aj.fl i.cls
 tw:∀(h:Nat) (a:Addr) (i:Inst),g.tbl[h]?=some a->M[h]?=some i->i.cls≠""->g.ow a=none
 dm:∀(h:Nat) (i:Inst),M[h]?=some i->i.cls=""->i.fs=[]
 nc:aj ""=none
structure SInv(K:ap9)(aj:aO)(σ:L2.St)(H:Hp)(g:Gh)(ρ:Env)(M:Mo):Prop where
 kd:Kd g H
 wok:fM K aj g H M
 len:σ.length=ρ.length
 dat:∀(i:Nat) (d:Dat),ρ[i]?=some (some (.dat d))->∃v,σ[i]?=some (some v)/\Rep K g H v d
 own:∀(i:Nat) (xs:List Dat),ρ[i]?=some (some (.mut xs))->∃l us,σ[i]?=some (some (.ref l))/\H l=some (.lst us)/\g.Lo l/\aH K g H us xs
 sep:∀(i j:Nat) (xs ys:List Dat) (l:Addr),i≠j->ρ[i]?=some (some (.mut xs))->ρ[j]?=some (some (.mut ys))->σ[i]?=some (some (.ref l))->σ[j]?≠some (some (.ref l))
section
variable{K:ap9}{aj:aO}{q:Bool}{g g' g2:Gh}{H H' H2:Hp}{v:V}{d:Dat}{σ:L2.St}{ρ:Env}{M:Mo}
theorem ji.ex{l:Addr}:∀{n:Bool} {kvs:List (Dat×Dat)} (e:Ex H H') (k:Kd g H) (h:ji K aj g H l n kvs),ji K aj g H' l n kvs
 |false,_,e,k,⟨kv,h1,h2,h3⟩=>⟨kv,e _ _ h1,h2,h3.ex e k⟩
 |true,_,e,k,⟨o,xs,vs,h1,h2,h3,h4,h5,h6⟩=>⟨o,xs,vs,e _ _ h1,h2,h3,h4.ex e k,h5,h6.ex e k⟩
theorem dO.ex{h:Nat}{f:Str}(e:Ex H H')(k:Kd g H):∀{fl:iJ},dO K aj g H h f v fl->dO K aj g H' h f v fl
 |.dat _,r=>Rep.ex e k r
 |.lst _ _,⟨l,us,h1,h2,h3,h4,h5⟩=>⟨l,us,h1,e _ _ h2,h3,h4.ex e k,h5⟩
 |.dic _ _,⟨l,h1,h2,h3⟩=>⟨l,h1,h2,h3.ex e k⟩
theorem cJ.ex{h:Nat}(e:Ex H H')(k:Kd g H):∀{fs:List (Str×V)} {gs:List (Str×iJ)},cJ K aj g H h fs gs->cJ K aj g H' h fs gs
 |_,_,.nil=>.nil
 |_,_,.cons r t=>.cons (dO.ex e k r) (cJ.ex e k t)
theorem fM.ex(e:Ex H H')(k:Kd g H)(w:fM K aj g H M):fM K aj g H' M:=⟨w.len,w.inj,fun h a i ha hi hc=>by
 obtain⟨C,dx,fs,c1,c2,c3⟩:=w.ins h a i ha hi hc
 exact⟨C,dx,fs,c1,e _ _ c2,c3.ex e k⟩,w.nd,w.fd,w.tw,w.dm,w.nc⟩
theorem SInv.ex(e:Ex H H')(I:SInv K aj σ H g ρ M):SInv K aj σ H' g ρ M:=⟨I.kd.ex e,I.wok.ex e I.kd,I.len,fun i d h=>by
 obtain⟨v,h1,h2⟩:=I.dat i d h
 exact⟨v,h1,h2.ex e I.kd⟩,fun i xs h=>by
 obtain⟨l,us,h1,h2,h3,h4⟩:=I.own i xs h
 exact⟨l,us,h1,e _ _ h2,h3,h4.ex e I.kd⟩,I.sep⟩
theorem cJ.get{h:Nat}{f:Str}{fl:iJ}:∀{fs:List (Str×V)} {gs:List (Str×iJ)},cJ K aj g H h fs gs->gs.lookup f=some fl->∃v,fs.lookup f=some v/\dO K aj g H h f v fl
 |_,_,.nil,e=>nomatch e
 |_,_,.cons (f:=f') (v:=v) (fl:=fl') r t,e=>by
  rw[aqA]at e
  rw[aqA]
  cases hb:f==f' with
  |true=>
   rw[hb]at e
   cases e
   have ef:f=f':=by simpa using hb
   subst ef
   exact⟨v,rfl,r⟩
  |false=>
   rw[hb]at e
   exact t.get e
theorem cJ.no{h:Nat}{f:Str}:∀{fs:List (Str×V)} {gs:List (Str×iJ)},cJ K aj g H h fs gs->gs.lookup f=none->fs.lookup f=none
 |_,_,.nil,_=>rfl
 |_,_,.cons (f:=f') (v:=v) (fl:=fl') r t,e=>by
  rw[aqA]at e
  rw[aqA]
  cases hb:f==f' with
  |true=>
   rw[hb]at e
   cases e
  |false=>
   rw[hb]at e
   exact t.no e
end
def Out.bind{α β:Type}(o:Out α)(k:α->Out β):Out β:=
 match o with
 |.ok a=>k a
 |.exc x=>.exc x
 |.bad=>.bad
def Out.sat{α:Type}(o:Out α)(P:α->Prop)(E:dI->Prop):Prop:=
 match o with
 |.ok a=>P a
 |.exc x=>E x
 |.bad=>False
@[simp]theorem Out.yj {α β:Type} (a:α) (k:α->Out β):(Out.ok a).bind k=k a:=rfl
@[simp]theorem Out.afb {α β:Type} (x:dI) (k:α->Out β):(Out.exc x:Out α).bind k=.exc x:=rfl
@[simp]theorem Out.aef {α β:Type} (k:α->Out β):(Out.bad:Out α).bind k=.bad:=rfl
theorem Out.sat.bnd{α β:Type}{o:Out α}{k:α->Out β}{P:β->Prop}{E:dI->Prop}(h:(o.bind k).sat P E):o.sat (fun a=>(k a).sat P E) E:=by
 cases o <;> exact h
theorem Out.sat.mono{α:Type}{o:Out α}{P P':α->Prop}{E E':dI->Prop}(h:o.sat P E)(hp:∀a,P a->P' a)(he:∀x,E x->E' x):o.sat P' E':=by
 cases o
 ·exact hp _ h
 ·exact he _ h
 ·exact h
def Out.when{α:Type}(b:Bool)(o:Out α):Out α:=if b=true then o else .bad
@[simp]theorem Out.Vu {α:Type} (o:Out α):Out.when true o=o:=rfl
@[simp]theorem Out.alh {α:Type} (o:Out α):Out.when false o=.bad:=rfl
theorem Out.sat.pH{α:Type}{b:Bool}{o:Out α}{P:α->Prop}{E:dI->Prop}(h:(Out.when b o).sat P E):b=true/\o.sat P E:=by
 cases b
 ·exact False.elim h
 ·exact⟨rfl,h⟩
inductive j8(K:ap9)(g:Gh)(H:Hp):List (Str×V)->List (Str×Dat)->Prop
 |nil:j8 K g H [] []
 |cons {f:Str} {v:V} {d:Dat} {fs:List (Str×V)} {gs:List (Str×Dat)}:Rep K g H v d->j8 K g H fs gs->j8 K g H ((f,v)::fs) ((f,d)::gs)
def pU(K:ap9)(aj:aO)(g:Gh)(H:Hp)(x:dI)(c:Value)(dd:Option Addr):Prop:=
 ∃C,aj x.cls=some C/\c=.ref C/\((x.fs=[]/\dd=none)∨∃a fs,dd=some a/\H a=some (.xd fs)/\j8 K g H fs x.fs)
abbrev QF:=Mo->Env->Out Dat
abbrev QT:=Mo->Env->Out Bool
abbrev QA:=Mo->Env->Out (List Dat)
section
variable(K:ap9)(aj:aO)(W:WX)
def qF(g:Gh)(H:Hp)(σ:L2.St)(x:dI):Prop:=∀H' c dd,Ex H H'->pU K aj g H' x c dd->W c dd σ H'
def tQ(f:QF):TE:=fun σ H Q=>∃g ρ M,SInv K aj σ H g ρ M/\(f M ρ).sat (fun d=>∀v H',Ex H H'->Rep K g H' v d->Q v H') (qF K aj W g H σ)
def jT(f:QT):TT:=fun σ H Q=>∃g ρ M,SInv K aj σ H g ρ M/\(f M ρ).sat (fun b=>∀H',Ex H H'->Q b H') (qF K aj W g H σ)
def Mv(f:QA):TA:=fun σ H Q=>∃g ρ M,SInv K aj σ H g ρ M/\(f M ρ).sat (fun ds=>∀vs H',Ex H H'->aH K g H' vs ds->Q vs H') (qF K aj W g H σ)
end
section
variable{K:ap9}{aj:aO}{W:WX}{g:Gh}{H H1:Hp}{σ:L2.St}{ρ:Env}{M:Mo}
theorem qF.ex{x:dI}(e:Ex H H1)(h:qF K aj W g H σ x):qF K aj W g H1 σ x:=fun H' c dd e' r=>h H' c dd (e.trans e') r
theorem tQ.go{f:QF}{k:Dat->Prop}{Q:VK}(I:SInv K aj σ H g ρ M)(h:(f M ρ).sat k (qF K aj W g H σ))(hk:∀d v H',k d->Ex H H'->Rep K g H' v d->Q v H'):tQ K aj W f σ H Q:=
 ⟨g,ρ,M,I,h.mono (fun d hd v H' e r=>hk d v H' hd e r) fun _ z=>z⟩
theorem jT.go{f:QT}{k:Bool->Prop}{Q:Bool->Hp->Prop}(I:SInv K aj σ H g ρ M)(h:(f M ρ).sat k (qF K aj W g H σ))(hk:∀b H',k b->Ex H H'->Q b H'):jT K aj W f σ H Q:=
 ⟨g,ρ,M,I,h.mono (fun d hd H' e=>hk d H' hd e) fun _ z=>z⟩
theorem Mv.go{f:QA}{k:List Dat->Prop}{Q:List V->Hp->Prop}(I:SInv K aj σ H g ρ M)(h:(f M ρ).sat k (qF K aj W g H σ))(hk:∀ds vs H',k ds->Ex H H'->aH K g H' vs ds->Q vs H'):Mv K aj W f σ H Q:=
 ⟨g,ρ,M,I,h.mono (fun d hd v H' e r=>hk d v H' hd e r) fun _ z=>z⟩
end
def QE(aj:aO)(X:Cx)(W:WX)(e:Expr)(f:QF):Prop:=PE X e (tQ X.K aj W f)
def rA(aj:aO)(X:Cx)(W:WX)(e:Expr)(f:QT):Prop:=PT X e (jT X.K aj W f)
def Cr(aj:aO)(X:Cx)(W:WX)(es:List Expr)(f:QA):Prop:=PA X es (Mv X.K aj W f)
theorem PE.weak{X:Cx}{e:Expr}{t t':TE}(h:PE X e t)(k:∀σ H Q,t' σ H Q->t σ H Q):PE X e t':=⟨fun pins s σ H Q I q=>h.run pins s σ H Q I (k σ H Q q)⟩
theorem PT.weak{X:Cx}{e:Expr}{t t':TT}(h:PT X e t)(k:∀σ H Q,t' σ H Q->t σ H Q):PT X e t':=⟨fun pins s σ H Q I q=>h.run pins s σ H Q I (k σ H Q q)⟩
theorem PA.weak{X:Cx}{e:List Expr}{t t':TA}(h:PA X e t)(k:∀σ H Q,t' σ H Q->t σ H Q):PA X e t':=⟨fun pos pins s σ H Q I q=>h.run pos pins s σ H Q I (k σ H Q q)⟩
def aq(i:Nat):QF:=fun _ ρ=>match ρ[i]? with
 |some (some (.dat d))=>.ok d
 |_=>.bad
def qC(d:Dat):QF:=fun _ _=>.ok d
def aA(o:Dat->Dat->Out Dat)(a b:QF):QF:=fun M ρ=>(a M ρ).bind fun x=>(b M ρ).bind fun y=>o x y
def eU(o:Dat->Out Dat)(a:QF):QF:=fun M ρ=>(a M ρ).bind o
def au:QA:=fun _ _=>.ok []
def ak(a:QF)(r:QA):QA:=fun M ρ=>(a M ρ).bind fun x=>(r M ρ).bind fun xs=>.ok (x::xs)
def bx(r:QA):QF:=fun M ρ=>(r M ρ).bind fun xs=>Out.when (decide (xs.length<=100000)) (.ok (.tuple xs))
def zX(r:QA):QF:=fun M ρ=>(r M ρ).bind fun xs=>Out.when (decide (xs.length<=100000)) (.ok (.list xs))
section
variable{X:Cx}{aj:aO}{W:WX}{a b:Expr}{fa fb:QF}{pos:Pos}
theorem ain{i:Nat}{x:Str}(hN:X.N[i]?=some x)(hv:Vis X.env.scope x)(hd:(x==("__debug__" : Str))=false)(hcd:(x==("__classdict__" : Str))=false):QE aj X W (.Name x pos) (aq i):=
 PE.weak (pe_var hN hv hd hcd) fun σ H Q ⟨g,ρ,M,I,h⟩=>by
  unfold aq at h
  split at h
  ·next d e=>
   obtain⟨v,h1,h2⟩:=I.dat i d e
   exact⟨v,h1,h v H (Ex.refl H) h2⟩
  ·exact False.elim h
theorem ajA{i:Int}{j:Nat}:QE aj X W (.Constant (.int i) j pos) (qC (.int i)):=PE.weak pe_int fun σ H Q ⟨g,ρ,M,I,h⟩=>h _ H (Ex.refl H) (.int i)
theorem ajj{x:Str}{j:Nat}:QE aj X W (.Constant (.str x) j pos) (qC (.str x)):=PE.weak pe_str fun σ H Q ⟨g,ρ,M,I,h⟩=>h _ H (Ex.refl H) (.str x)
theorem akx{x:Bool}{j:Nat}:QE aj X W (.Constant (.bool x) j pos) (qC (.bool x)):=PE.weak pe_bl fun σ H Q ⟨g,ρ,M,I,h⟩=>h _ H (Ex.refl H) (.bl x)
theorem aiu{j:Nat}:QE aj X W (.Constant .none j pos) (qC .none):=PE.weak pe_non fun σ H Q ⟨g,ρ,M,I,h⟩=>h _ H (Ex.refl H) .non
theorem ajd:Cr aj X W [] au:=PA.weak pa_nil fun σ H Q ⟨g,ρ,M,I,h⟩=>h [] H (Ex.refl H) .nil
theorem ahd{es:List Expr}{fr:QA}(ha:QE aj X W a fa)(hr:Cr aj X W es fr)(hs:starEach (a::es) X.env=(false,eval a X.env)::starEach es X.env):Cr aj X W (a::es) (ak fa fr):=
 PA.weak (pa_cons ha hr hs) fun σ H Q ⟨g,ρ,M,I,h⟩=>by
  refine tQ.go I h.bnd fun d v H1 h1 e1 r1=>?_
  refine Mv.go (I.ex e1) (h1.bnd.mono (fun _ z=>z) fun _ z=>z.ex e1) fun ds vs H2 h2 e2 r2=>?_
  exact h2 (v::vs) H2 (e1.trans e2) (.cons (r1.ex e2 (I.kd.ex e1)) r2)
theorem aj1{es:List Expr}{fr:QA}{k:Nat}(h:Cr aj X W es fr):QE aj X W (.Tuple es k pos) (bx fr):=
 PE.weak (pe_tup h) fun σ H Q ⟨g,ρ,M,I,h⟩=>by
  refine Mv.go I h.bnd fun ds vs H1 h1 e1 r1=>?_
  obtain⟨hz,h1⟩:=h1.pH
  have hl:vs.length<=100000:=by
   rw[r1.length]
   exact of_decide_eq_true hz
  refine⟨sz_of hl,fun p np=>h1 (.ref p) _ (e1.trans (Ex.new np)) (.tup (st_of upd_same) (r1.ex (Ex.new np) (I.kd.ex e1)))⟩
theorem Kd.fresh{g:Gh}{H:Hp}(k:Kd g H){p:Addr}(n:H p=none):¬g.A p:=fun z=>by
 obtain⟨o,e,_⟩:=k.ob p z
 rw[n]at e
 cases e
theorem ah9{es:List Expr}{fr:QA}(h:Cr aj X W es fr):QE aj X W (.List es pos) (zX fr):=
 PE.weak (pe_lst h) fun σ H Q ⟨g,ρ,M,I,h⟩=>by
  refine Mv.go I h.bnd fun ds vs H1 h1 e1 r1=>?_
  obtain⟨hz,h1⟩:=h1.pH
  have hl:vs.length<=100000:=by
   rw[r1.length]
   exact of_decide_eq_true hz
  refine⟨sz_of hl,fun p np=>h1 (.ref p) _ (e1.trans (Ex.new np)) (.lst (.inl ⟨.inl upd_same,(I.kd.ex e1).fresh np⟩) (r1.ex (Ex.new np) (I.kd.ex e1)))⟩
end
def dU(K:ap9)(g:Gh)(H:Hp)(v:V):Dat->Prop
 |.list ds=>∃a us,v=.ref a/\SqL K H a us/\aH K g H us ds
 |d=>Rep K g H v d
section
variable{K:ap9}{g:Gh}{H H':Hp}{v:V}{d:Dat}
theorem Rep.weak(h:Rep K g H v d):dU K g H v d:=by
 cases h with
 |lst a t=>exact⟨_,_,rfl,a.sq,t⟩
 |non=>exact .non
 |bl b=>exact .bl b
 |int i=>exact .int i
 |str x=>exact .str x
 |tup a t=>exact .tup a t
 |obj a=>exact .obj a
theorem dU.ex(e:Ex H H')(k:Kd g H)(h:dU K g H v d):dU K g H' v d:=by
 cases d with
 |list ds=>
  obtain⟨a,us,h1,h2,h3⟩:=h
  exact⟨a,us,h1,ex_l e h2,h3.ex e k⟩
 |_=>exact Rep.ex e k h
theorem cC{i:Int}(h:dU K g H v (.int i)):v=.int i:=by cases h;rfl
theorem jH{x:Str}(h:dU K g H v (.str x)):v=.str x:=by cases h;rfl
theorem CQ{b:Bool}(h:dU K g H v (.bool b)):v=.bl b:=by cases h;rfl
theorem Em(h:dU K g H v .none):v=.non:=by cases h;rfl
theorem kZ{ds:List Dat}(h:dU K g H v (.tuple ds)):∃a us,v=.ref a/\SqT K H a us/\aH K g H us ds:=by
 cases h with
 |tup a t=>exact⟨_,_,rfl,a,t⟩
theorem iV{ds:List Dat}(h:dU K g H v (.list ds)):∃a us,v=.ref a/\SqL K H a us/\aH K g H us ds:=h
theorem KC{n:Nat}(h:dU K g H v (obj n)):∃a,v=.ref a/\g.tbl[n]?=some a:=by
 cases h with
 |obj a=>exact⟨_,rfl,a⟩
end
section
variable(K:ap9)(aj:aO)(W:WX)
def tW(f:QF):TE:=fun σ H Q=>∃g ρ M,SInv K aj σ H g ρ M/\(f M ρ).sat (fun d=>∀v H',Ex H H'->dU K g H' v d->Q v H') (qF K aj W g H σ)
end
theorem tW.go{K:ap9}{aj:aO}{W:WX}{g:Gh}{H:Hp}{σ:L2.St}{ρ:Env}{M:Mo}{f:QF}{k:Dat->Prop}{Q:VK}(I:SInv K aj σ H g ρ M)(h:(f M ρ).sat k (qF K aj W g H σ))(hk:∀d v H',k d->Ex H H'->dU K g H' v d->Q v H'):tW K aj W f σ H Q:=
 ⟨g,ρ,M,I,h.mono (fun d hd v H' e r=>hk d v H' hd e r) fun _ z=>z⟩
def QW(aj:aO)(X:Cx)(W:WX)(e:Expr)(f:QF):Prop:=PE X e (tW X.K aj W f)
theorem QE.w{aj:aO}{X:Cx}{W:WX}{e:Expr}{f:QF}(h:QE aj X W e f):QW aj X W e f:=
 PE.weak h fun σ H Q ⟨g,ρ,M,I,z⟩=>⟨g,ρ,M,I,z.mono (fun _ k v H' e r=>k v H' e r.weak) fun _ y=>y⟩
def ao(i:Nat):QF:=fun _ ρ=>match ρ[i]? with
 |some (some (.dat d))=>.ok d
 |some (some (.mut xs))=>.ok (.list xs)
 |_=>.bad
def pG(aj:aO)(K:ap9)(W:WX)(o:Dat->Dat->Out Dat)(r:R2):Prop:=∀(σ:L2.St) (g:Gh) (H:Hp) (x y:V) (d e:Dat) (Q:VK),Kd g H->dU K g H x d->dU K g H y e->
 (o d e).sat (fun z=>∀v H',Ex H H'->Rep K g H' v z->Q v H') (qF K aj W g H σ)->r x y H Q
section
variable{X:Cx}{aj:aO}{W:WX}{a b c:Expr}{fa fb fc:QF}{pos:Pos}
theorem ai6{i:Nat}{x:Str}(hN:X.N[i]?=some x)(hv:Vis X.env.scope x)(hd:(x==("__debug__" : Str))=false)(hcd:(x==("__classdict__" : Str))=false):QW aj X W (.Name x pos) (ao i):=
 PE.weak (pe_var hN hv hd hcd) fun σ H Q ⟨g,ρ,M,I,h⟩=>by
  unfold ao at h
  split at h
  ·next d e=>
   obtain⟨v,h1,h2⟩:=I.dat i d e
   exact⟨v,h1,h v H (Ex.refl H) h2.weak⟩
  ·next xs e=>
   obtain⟨l,us,h1,h2,h3,h4⟩:=I.own i xs e
   exact⟨.ref l,h1,h _ H (Ex.refl H) ⟨l,us,rfl,sq_of h2,h4⟩⟩
  ·exact False.elim h
theorem Pk{o:Dat->Dat->Out Dat}{r:R2}(ho:pG aj X.K W o r)(σ:L2.St)(H:Hp)(Q:VK)(h:tQ X.K aj W (aA o fa fb) σ H Q):tOp r (tW X.K aj W fa) (tW X.K aj W fb) σ H Q:=by
 obtain⟨g,ρ,M,I,h⟩:=h
 refine tW.go I h.bnd fun d v H1 h1 e1 r1=>?_
 refine tW.go (I.ex e1) (h1.bnd.mono (fun _ z=>z) fun _ z=>z.ex e1) fun d2 v2 H2 h2 e2 r2=>?_
 refine ho σ g H2 v v2 d d2 Q ((I.kd.ex e1).ex e2) (r1.ex e2 (I.kd.ex e1)) r2 (h2.mono (fun z hz u H' e' r'=>hz u H' ((e1.trans e2).trans e') r') fun _ z=>(z.ex e1).ex e2)
theorem ajc{op:Operator}{r:R2}{o:Dat->Dat->Out Dat}(hr:OpR X (binaryOp op) r)(ho:pG aj X.K W o r)(ha:QW aj X W a fa)(hb:QW aj X W b fb):QE aj X W (.BinOp a op b pos) (aA o fa fb):=
 PE.weak (pe_op hr ha hb) fun σ H Q h=>Pk ho σ H Q h
theorem ag7{op:CmpOp}{r:R2}{o:Dat->Dat->Out Dat}(hr:OpR X (compareOp op) r)(ho:pG aj X.K W o r)(ha:QW aj X W a fa)(hb:QW aj X W b fb)(hm:behindInMarks op b=false):QE aj X W (.Compare a [op] [b] pos) (aA o fa fb):=
 PE.weak (pe_cmpR hr ha hb hm) fun σ H Q h=>Pk ho σ H Q h
end
instance:DecidableRel CMul:=fun i j=>by unfold CMul;infer_instance
instance:DecidableRel CDiv:=fun i j=>by unfold CDiv;infer_instance
instance:DecidableRel CPow:=fun i j=>by unfold CPow;infer_instance
def fH:Dat->Dat->Out Dat
 |.int i,.int j=>.ok (.int (i+j))
 |.str x,.str y=>Out.when (decide (x.length+y.length<=100000)) (.ok (.str (x++y)))
 |.list xs,.list ys=>Out.when (decide (xs.length+ys.length<=100000)) (.ok (.list (xs++ys)))
 |.tuple xs,.tuple ys=>Out.when (decide (xs.length+ys.length<=100000)) (.ok (.tuple (xs++ys)))
 |_,_=>.bad
def lW:Dat->Dat->Out Dat
 |.int i,.int j=>.ok (.int (i - j))
 |_,_=>.bad
def wu:Dat->Dat->Out Dat
 |.int i,.int j=>Out.when (decide (CMul i j)) (.ok (.int (i * j)))
 |_,_=>.bad
def Cg:Dat->Dat->Out Dat
 |.int i,.int j=>Out.when (decide (CDiv i j)) (.ok (.int (i / j)))
 |_,_=>.bad
def lu:Dat->Dat->Out Dat
 |.int i,.int j=>Out.when (decide (0 < j)) (.ok (.int (i % j)))
 |_,_=>.bad
def MN:Dat->Dat->Out Dat
 |.int i,.int j=>Out.when (decide (CPow i j)) (.ok (.int (i ^ j.toNat)))
 |_,_=>.bad
def rCatS(K:ap9):R2:=fun x y H Q=>∃l b xs zs,x=.ref l/\y=.ref b/\SqL K H l xs/\SqL K H b zs/\xs.length+zs.length<=sizeLine/\∀p,H p=none->Q (.ref p) (upd H p (.lst (xs++zs)))
theorem agz{X:Cx}:OpR X (binaryOp .Add) (rCatS X.K):=by
 intro pins s σ H x y v u Q I rx ry h
 obtain⟨l,b,xs,zs,rfl,rfl,hH,hB,hz,q⟩:=h
 cases rx
 cases ry
 obtain⟨its,r,⟨⟨c1,d1,da1,s1⟩,n,e,hc,hd,hs⟩,_⟩:=I.list hH
 obtain⟨its2,r2,⟨⟨c2,d2,da2,s2⟩,n2,e2,hc2,hd2,hs2⟩,_⟩:=I.list hB
 simp only at hc hd hs hc2 hd2 hs2
 subst hc hd hs hc2 hd2 hs2
 have l1:=r.length
 have l2:=r2.length
 have ea:its.toArray++its2.toArray=(its++its2).toArray:=by simp
 refine concat_meets ⟨_,e,rfl⟩ ⟨_,e2,rfl⟩ noFill_list_add seq_list_add PySem.F.slot_list_add PySem.F.entry_list_add (PySem.F.args_list_add_2 _ _) (list_addW l b its.toArray its2.toArray n n2 none none s1 s2 (by rw[arh,arh];omega)) ⟨e,e2,?_⟩
 rw[ea]
 exact⟨.ref _,_,I.lnew (t':=s.toks) (r.append r2) (by rw[aqO];omega),rfl,q _ I.fresh⟩
def afB(K:ap9):R2:=fun x y H Q=>rI0 (fun i j=>.int (i+j)) x y H Q∨(∃i j,x=.str i/\y=.str j/\i.length+j.length<=sizeLine/\Q (.str (i++j)) H)∨rCatS K x y H Q∨rCatA K x y H Q
theorem afW{X:Cx}:OpR X (binaryOp .Add) (afB X.K):=by
 intro pins s σ H x y v u Q I rx ry h
 rcases h with h|h|h|h
 ·exact op_add pins s σ H x y v u Q I rx ry h
 ·exact op_add_str pins s σ H x y v u Q I rx ry h
 ·exact agz pins s σ H x y v u Q I rx ry h
 ·exact op_catA pins s σ H x y v u Q I rx ry h
section
variable{K:ap9}{aj:aO}{W:WX}
theorem ajR:pG aj K W fH (afB K):=fun σ g H x y d e Q k rx ry h=>by
 unfold fH at h
 split at h
 ·exact .inl ⟨_,_,cC rx,cC ry,h _ H (Ex.refl H) (.int _)⟩
 ·obtain⟨hz,h⟩:=h.pH
  exact .inr (.inl ⟨_,_,jH rx,jH ry,sz_of (of_decide_eq_true hz),h _ H (Ex.refl H) (.str _)⟩)
 ·obtain⟨hz,h⟩:=h.pH
  obtain⟨l,us,e1,s1,t1⟩:=iV rx
  obtain⟨l2,us2,e2,s2,t2⟩:=iV ry
  have hl:=of_decide_eq_true hz
  rw[←t1.length,←t2.length]at hl
  refine .inr (.inr (.inl ⟨l,l2,us,us2,e1,e2,s1,s2,sz_of hl,fun p np=>h _ _ (Ex.new np) (.lst (.inl ⟨.inl upd_same,k.fresh np⟩) ((t1.append t2).ex (Ex.new np) k))⟩))
 ·obtain⟨hz,h⟩:=h.pH
  obtain⟨l,us,e1,s1,t1⟩:=kZ rx
  obtain⟨l2,us2,e2,s2,t2⟩:=kZ ry
  have hl:=of_decide_eq_true hz
  rw[←t1.length,←t2.length]at hl
  refine .inr (.inr (.inr ⟨l,l2,us,us2,e1,e2,s1,s2,sz_of hl,fun z=>?_,fun _ z=>?_,fun _ _ p np=>h _ _ (Ex.new np) (.tup (st_of upd_same) ((t1.append t2).ex (Ex.new np) k))⟩))
  ·subst z
   cases t1
   exact h _ H (Ex.refl H) (.tup s2 t2)
  ·subst z
   cases t2
   rw[aqR]at h
   exact h _ H (Ex.refl H) (.tup s1 t1)
 ·exact False.elim h
theorem ahZ:pG aj K W lW (rI0 fun i j=>.int (i - j)):=fun σ g H x y d e Q k rx ry h=>by
 unfold lW at h
 split at h
 ·exact⟨_,_,cC rx,cC ry,h _ H (Ex.refl H) (.int _)⟩
 ·exact False.elim h
theorem aiX:pG aj K W wu (rI CMul fun i j=>.int (i * j)):=fun σ g H x y d e Q k rx ry h=>by
 unfold wu at h
 split at h
 ·obtain⟨hz,h⟩:=h.pH
  exact⟨_,_,cC rx,cC ry,of_decide_eq_true hz,h _ H (Ex.refl H) (.int _)⟩
 ·exact False.elim h
theorem ahG:pG aj K W Cg (rI CDiv fun i j=>.int (i / j)):=fun σ g H x y d e Q k rx ry h=>by
 unfold Cg at h
 split at h
 ·obtain⟨hz,h⟩:=h.pH
  exact⟨_,_,cC rx,cC ry,of_decide_eq_true hz,h _ H (Ex.refl H) (.int _)⟩
 ·exact False.elim h
theorem ajs:pG aj K W lu (rI (fun _ j=>0 < j) fun i j=>.int (i % j)):=fun σ g H x y d e Q k rx ry h=>by
 unfold lu at h
 split at h
 ·obtain⟨hz,h⟩:=h.pH
  exact⟨_,_,cC rx,cC ry,of_decide_eq_true hz,h _ H (Ex.refl H) (.int _)⟩
 ·exact False.elim h
theorem ahW:pG aj K W MN (rI CPow fun i j=>.int (i ^ j.toNat)):=fun σ g H x y d e Q k rx ry h=>by
 unfold MN at h
 split at h
 ·obtain⟨hz,h⟩:=h.pH
  exact⟨_,_,cC rx,cC ry,of_decide_eq_true hz,h _ H (Ex.refl H) (.int _)⟩
 ·exact False.elim h
end
mutual
def okd:Nat->Dat->Bool
 |_,.none=>true
 |_,.bool _=>true
 |_,.int _=>true
 |_,.str x=>PyData.strOk x
 |n+1,.list ds=>mW n ds
 |n+1,.tuple ds=>mW n ds
 |0,.list _=>false
 |0,.tuple _=>false
 |_,.dict _=>false
def mW:Nat->List Dat->Bool
 |_,[]=>true
 |n,d::ds=>okd n d&&mW n ds
end
mutual
theorem S9:∀(n:Nat) (d:Dat),okd n d=true->d.canLay0=true/\d.depth<=n
 |n,.none,_=>⟨by simp[PyData.canLay0],by simp[PyData.depth]⟩
 |n,.bool _,_=>⟨by simp[PyData.canLay0],by simp[PyData.depth]⟩
 |n,.int _,_=>⟨by simp[PyData.canLay0],by simp[PyData.depth]⟩
 |n,.str x,h=>⟨by rw[okd]at h;simp[PyData.canLay0,h],by simp[PyData.depth]⟩
 |n+1,.list ds,h=>by
  rw[okd]at h
  obtain⟨h1,h2⟩:=Nb n ds h
  exact⟨by simp[PyData.canLay0,h1],by simp[PyData.depth];omega⟩
 |n+1,.tuple ds,h=>by
  rw[okd]at h
  obtain⟨h1,h2⟩:=Nb n ds h
  exact⟨by simp[PyData.canLay0,h1],by simp[PyData.depth];omega⟩
 |0,.list _,h=>by rw[okd]at h;cases h
 |0,.tuple _,h=>by rw[okd]at h;cases h
 |n,.dict _,h=>by rw[okd]at h;cases h
theorem Nb:∀(n:Nat) (ds:List Dat),mW n ds=true->PyData.canLayAll0 ds=true/\PyData.depthAll ds<=n
 |n,[],_=>⟨by simp[PyData.canLayAll0],by simp[PyData.depthAll]⟩
 |n,d::ds,h=>by
  rw[mW,aqa]at h
  obtain⟨h1,h2⟩:=S9 n d h.1
  obtain⟨h3,h4⟩:=Nb n ds h.2
  exact⟨by simp[PyData.canLayAll0,h1,h3],by simp[PyData.depthAll];omega⟩
end
mutual
theorem Rep.dp{K:ap9}{g:Gh}{H:Hp}:∀{n:Nat} {v:V} {d:Dat},okd n d=true->Rep K g H v d->Dp K H v d
 |_,_,_,_,.non=>.non
 |_,_,_,_,.bl b=>.bl b
 |_,_,_,_,.int i=>.int i
 |_,_,_,_,.str x=>.str x
 |n+1,_,_,f,.tup h t=>.tup h (aH.dp (n:=n) (by rw[okd]at f;exact f) t)
 |n+1,_,_,f,.lst h t=>.lst h.sq (aH.dp (n:=n) (by rw[okd]at f;exact f) t)
 |0,_,_,f,.tup h t=>by rw[okd]at f;cases f
 |0,_,_,f,.lst h t=>by rw[okd]at f;cases f
 |_,_,_,f,.obj h=>by rw[okd]at f;cases f
theorem aH.dp{K:ap9}{g:Gh}{H:Hp}:∀{n:Nat} {vs:List V} {ds:List Dat},mW n ds=true->aH K g H vs ds->DpAll K H vs ds
 |_,_,_,_,.nil=>.nil
 |n,_,_,f,.cons h t=>.cons (Rep.dp (n:=n) (by rw[mW,aqa]at f;exact f.1) h) (aH.dp (n:=n) (by rw[mW,aqa]at f;exact f.2) t)
end
theorem dU.dp{K:ap9}{g:Gh}{H:Hp}{n:Nat}{v:V}{d:Dat}(f:okd n d=true)(h:dU K g H v d):Dp K H v d:=by
 cases d with
 |list ds=>
  obtain⟨a,us,rfl,h2,h3⟩:=h
  cases n with
  |zero=>rw[okd]at f;cases f
  |succ n=>
   rw[okd]at f
   exact .lst h2 (h3.dp f)
 |_=>exact Rep.dp f h
theorem Ba{n:Nat}{d:Dat}(h:okd n d=true)(hn:n<=64):SeqAt.shaped d=true:=by
 obtain⟨h1,h2⟩:=S9 n d h
 unfold SeqAt.shaped
 rw[h1,Bool.true_and]
 exact decide_eq_true (aqB h2 hn)
def eqB:Dat->Dat->Out Bool
 |.int i,.int j=>.ok (i==j)
 |.str x,.str y=>.ok (x==y)
 |.bool x,.bool y=>.ok (x==y)
 |.none,.none=>.ok true
 |d,e=>Out.when (okd 12 d&&okd 12 e) (.ok (PyData.eqv d e))
def cH(d e:Dat):Out Dat:=(eqB d e).bind fun b=>.ok (.bool b)
def Ck(d e:Dat):Out Dat:=(eqB d e).bind fun b=>.ok (.bool (!b))
def ahY(K:ap9):R2:=fun x y H Q=>rEq x y H Q∨rEqD K x y H Q
def ai4(K:ap9):R2:=fun x y H Q=>rNe x y H Q∨rNeD K x y H Q
theorem aiE{X:Cx}(hu:X.A.units+64 < cLine):OpR X (compareOp .Eq) (ahY X.K):=fun pins s σ H x y v u Q I rx ry h=>h.elim (fun h=>op_eq pins s σ H x y v u Q I rx ry h) (fun h=>op_eqD hu pins s σ H x y v u Q I rx ry h)
theorem aiP{X:Cx}(hu:X.A.units+64 < cLine):OpR X (compareOp .NotEq) (ai4 X.K):=fun pins s σ H x y v u Q I rx ry h=>h.elim (fun h=>op_ne pins s σ H x y v u Q I rx ry h) (fun h=>op_neD hu pins s σ H x y v u Q I rx ry h)
section
variable{K:ap9}{aj:aO}{W:WX}{g:Gh}{H:Hp}
theorem acZ{x y:V}{d e:Dat}{P:Bool->Prop}{E:dI->Prop}(rx:dU K g H x d)(ry:dU K g H y e)(h:(eqB d e).sat P E):(scal x y=true/\P (decide (x=y)))∨(∃d e,Dp K H x d/\Dp K H y e/\SeqAt.shaped d=true/\SeqAt.shaped e=true/\P (PyData.eqv d e)):=by
 unfold eqB at h
 split at h
 ·cases cC rx;cases cC ry
  rw[dec_int]
  exact .inl ⟨rfl,h⟩
 ·cases jH rx;cases jH ry
  rw[dec_str]
  exact .inl ⟨rfl,h⟩
 ·cases CQ rx;cases CQ ry
  rw[dec_bl]
  exact .inl ⟨rfl,h⟩
 ·cases Em rx;cases Em ry
  exact .inl ⟨rfl,h⟩
 ·obtain⟨hz,h⟩:=h.pH
  rw[aqa]at hz
  exact .inr ⟨_,_,rx.dp hz.1,ry.dp hz.2,Ba hz.1 (by decide),Ba hz.2 (by decide),h⟩
theorem als:pG aj K W cH (ahY K):=fun σ g H x y d e Q k rx ry h=>by
 rcases acZ rx ry h.bnd with⟨h1,h2⟩|⟨d,e,h1,h2,h3,h4,h5⟩
 ·exact .inl ⟨h1,h2 _ H (Ex.refl H) (.bl _)⟩
 ·exact .inr ⟨d,e,h1,h2,h3,h4,h5 _ H (Ex.refl H) (.bl _)⟩
theorem ak6:pG aj K W Ck (ai4 K):=fun σ g H x y d e Q k rx ry h=>by
 rcases acZ rx ry h.bnd with⟨h1,h2⟩|⟨d,e,h1,h2,h3,h4,h5⟩
 ·exact .inl ⟨h1,h2 _ H (Ex.refl H) (.bl _)⟩
 ·exact .inr ⟨d,e,h1,h2,h3,h4,h5 _ H (Ex.refl H) (.bl _)⟩
end
def Mu:Dat->Dat->Out Dat
 |.int i,.int j=>.ok (.bool (decide (i < j)))
 |.tuple ds,.tuple es=>Out.when (okd 12 (.tuple ds)&&okd 12 (.tuple es)&&PySem.W.alike (.tuple ds) (.tuple es)) (.ok (.bool (PySem.W.dataLt (.tuple ds) (.tuple es))))
 |_,_=>.bad
def ux:Dat->Dat->Out Dat
 |.int i,.int j=>.ok (.bool (decide (i<=j)))
 |_,_=>.bad
def Xm:Dat->Dat->Out Dat
 |.int i,.int j=>.ok (.bool (decide (j < i)))
 |_,_=>.bad
def geD:Dat->Dat->Out Dat
 |.int i,.int j=>.ok (.bool (decide (j<=i)))
 |_,_=>.bad
def ahz(K:ap9):R2:=fun x y H Q=>rI0 (fun i j=>.bl (decide (i < j))) x y H Q∨Ear.QD K x y H Q
theorem aiK{X:Cx}(hu:X.A.units+65 < cLine):OpR X (compareOp .Lt) (ahz X.K):=fun pins s σ H x y v u Q I rx ry h=>h.elim (fun h=>op_lt pins s σ H x y v u Q I rx ry h) (fun h=>Ear.aeH hu pins s σ H x y v u Q I rx ry h)
section
variable{K:ap9}{aj:aO}{W:WX}{g:Gh}{H:Hp}
theorem aln:pG aj K W Mu (ahz K):=fun σ g H x y d e Q k rx ry h=>by
 unfold Mu at h
 split at h
 ·exact .inl ⟨_,_,cC rx,cC ry,h _ H (Ex.refl H) (.bl _)⟩
 ·obtain⟨hz,h⟩:=h.pH
  simp only[aqa]at hz
  refine .inr ?_
  unfold Ear.QD
  exact⟨_,_,rx.dp hz.1.1,ry.dp hz.1.2,hz.2,(fun z=>nomatch z),aqB (S9 _ _ hz.1.1).2 (by decide),h _ H (Ex.refl H) (.bl _)⟩
 ·exact False.elim h
theorem akJ:pG aj K W ux (rI0 fun i j=>.bl (decide (i<=j))):=fun σ g H x y d e Q k rx ry h=>by
 unfold ux at h
 split at h
 ·exact⟨_,_,cC rx,cC ry,h _ H (Ex.refl H) (.bl _)⟩
 ·exact False.elim h
theorem akG:pG aj K W Xm (rI0 fun i j=>.bl (decide (j < i))):=fun σ g H x y d e Q k rx ry h=>by
 unfold Xm at h
 split at h
 ·exact⟨_,_,cC rx,cC ry,h _ H (Ex.refl H) (.bl _)⟩
 ·exact False.elim h
theorem akH:pG aj K W geD (rI0 fun i j=>.bl (decide (j<=i))):=fun σ g H x y d e Q k rx ry h=>by
 unfold geD at h
 split at h
 ·exact⟨_,_,cC rx,cC ry,h _ H (Ex.refl H) (.bl _)⟩
 ·exact False.elim h
end
def oJ(c:Dat):Dat->Bool
 |.none=>match c with
  |.none=>true
  |_=>false
 |.bool b=>match c with
  |.bool b'=>b==b'
  |_=>false
 |_=>false
def scD:Dat->Option V
 |.none=>some .non
 |.bool b=>some (.bl b)
 |_=>none
theorem aac{K:ap9}{g:Gh}{H:Hp}{x:V}{d c:Dat}{v:V}(h:dU K g H x d)(hc:scD c=some v):decide (x=v)=oJ c d:=by
 cases c with
 |none=>
  cases hc
  cases d with
  |none=>cases Em h;rfl
  |bool b=>cases CQ h;rfl
  |int b=>cases cC h;rfl
  |str b=>cases jH h;rfl
  |list b=>obtain⟨a,us,rfl,_⟩:=iV h;rfl
  |tuple b=>obtain⟨a,us,rfl,_⟩:=kZ h;rfl
  |dict b=>cases h;rfl
 |bool c=>
  cases hc
  cases d with
  |none=>cases Em h;rfl
  |bool b=>cases CQ h;exact dec_bl
  |int b=>cases cC h;rfl
  |str b=>cases jH h;rfl
  |list b=>obtain⟨a,us,rfl,_⟩:=iV h;rfl
  |tuple b=>obtain⟨a,us,rfl,_⟩:=kZ h;rfl
  |dict b=>cases h;rfl
 |_=>cases hc
def Xy(neg:Bool)(v:V):R2:=fun x y H Q=>y=v/\Q (.bl (neg ^^ decide (x=v))) H
theorem acT{x v:V}{u w:Value}(hv:v=.non∨∃b,v=.bl b)(rx:RelV x u)(rv:RelV v w):(u==w)=decide (x=v):=by
 rcases hv with rfl|⟨b,rfl⟩
 ·cases rv
  exact rx.none_iff
 ·cases rv
  rw[arb,beq_iff_eq,decide_eq_true_eq]
  constructor
  ·rintro rfl
   cases x with
   |bl c=>cases rx;rfl
   |non=>cases rx
   |ref _=>cases rx
   |ty _=>cases rx
   |_=>obtain⟨t,z⟩:=rx;cases z
  ·rintro rfl
   exact rx
theorem Uz{x v:V}{u w:Value}(hv:v=.non∨∃b,v=.bl b)(rx:RelV x u)(rv:RelV v w):plainIs u w=true:=by
 rcases hv with rfl | ⟨b,rfl⟩ <;> (cases rv;cases x <;> first | (cases rx;rfl) | (obtain⟨t,rfl⟩:=rx;rfl))
theorem ajz{X:Cx}{v:V}(hv:v=.non∨∃b,v=.bl b):OpR X (compareOp .Is) (Xy false v):=by
 intro pins s σ H x y u w Q I rx ry h
 obtain⟨rfl,q⟩:=h
 refine wpAny_is_plain (Uz hv rx ry) ?_
 rw[acT hv rx ry]
 rw[Bool.false_xor]at q
 exact⟨.bl _,H,I,rfl,q⟩
theorem adu{X:Cx}{v:V}(hv:v=.non∨∃b,v=.bl b):OpR X (compareOp .IsNot) (Xy true v):=by
 intro pins s σ H x y u w Q I rx ry h
 obtain⟨rfl,q⟩:=h
 refine wpAny_isNot_plain (Uz hv rx ry) ?_
 rw[acT hv rx ry]
 rw[Bool.true_xor]at q
 exact⟨.bl _,H,I,rfl,q⟩
def xH(neg:Bool)(c:Dat)(a:QF):QF:=fun M ρ=>(a M ρ).bind fun d=>.ok (.bool (neg ^^ oJ c d))
section
variable{X:Cx}{aj:aO}{W:WX}{a b c:Expr}{fa fb fc:QF}{pos:Pos}
theorem akk{op:CmpOp}{neg:Bool}{d:Dat}{v:V}(hc:scD d=some v)(hr:OpR X (compareOp op) (Xy neg v))(ha:QW aj X W a fa)(hb:PE X b (tC v))(hm:behindInMarks op b=false):QE aj X W (.Compare a [op] [b] pos) (xH neg d fa):=
 PE.weak (pe_cmpR hr ha hb hm) fun σ H Q ⟨g,ρ,M,I,h⟩=>by
  refine tW.go I h.bnd fun e x H1 h1 e1 r1=>?_
  refine⟨rfl,?_⟩
  rw[aac r1 hc]
  exact h1 _ H1 e1 (.bl _)
end
def O2:Dat->Bool
 |.none=>true
 |.bool _=>true
 |.int _=>true
 |.str _=>true
 |_=>false
def inB:Dat->Dat->Out Bool
 |d,.list ds=>Out.when (okd 12 d&&mW 12 ds) (.ok (ds.any fun z=>PyData.eqv z d))
 |d,.tuple ds=>Out.when (O2 d&&ds.all O2) (.ok (ds.any fun z=>PyData.eqv z d))
 |.str x,.str z=>match x.cps.toList with
  |[c]=>.ok (decide (c∈z.cps.toList))
  |_=>.bad
 |_,_=>.bad
def inD(neg:Bool)(d e:Dat):Out Dat:=(inB d e).bind fun b=>.ok (.bool (neg ^^ b))
section
variable{K:ap9}{g:Gh}{H:Hp}
theorem X6{v:V}{d:Dat}(f:O2 d=true)(h:Rep K g H v d):flatV v=true:=by
 cases h with
 |tup _ _=>cases f
 |lst _ _=>cases f
 |obj _=>cases f
 |_=>rfl
theorem Ug:∀{vs:List V} {ds:List Dat},ds.all O2=true->aH K g H vs ds->vs.all flatV=true
 |_,_,_,.nil=>rfl
 |_,_,f,.cons h t=>by
  rw[aqK,aqa]at f
  rw[aqK,X6 f.1 h,Ug f.2 t]
  rfl
theorem agy{v w:V}{d e:Dat}(f1:O2 d=true)(f2:O2 e=true)(h1:Rep K g H v d)(h2:Rep K g H w e):eqV v w=PyData.eqv d e:=by
 cases h1 with
 |tup _ _=>cases f1
 |lst _ _=>cases f1
 |obj _=>cases f1
 |non=>cases h2 with
  |tup _ _=>cases f2
  |lst _ _=>cases f2
  |obj _=>cases f2
  |_=>simp[eqV,PyData.eqv]
 |bl b=>cases h2 with
  |tup _ _=>cases f2
  |lst _ _=>cases f2
  |obj _=>cases f2
  |_=>simp[eqV,PyData.eqv]
 |int b=>cases h2 with
  |tup _ _=>cases f2
  |lst _ _=>cases f2
  |obj _=>cases f2
  |_=>simp[eqV,PyData.eqv]
 |str b=>cases h2 with
  |tup _ _=>cases f2
  |lst _ _=>cases f2
  |obj _=>cases f2
  |_=>simp[eqV,PyData.eqv]
theorem aaN{w:V}{e:Dat}(f2:O2 e=true)(h2:Rep K g H w e):∀{vs:List V} {ds:List Dat},ds.all O2=true->aH K g H vs ds->inV w vs=ds.any fun z=>PyData.eqv z e
 |_,_,_,.nil=>rfl
 |v::vs,d::ds,f,.cons h t=>by
  rw[aqK,aqa]at f
  have ih:=aaN f2 h2 f.2 t
  unfold inV at ih ⊢
  rw[aq1,aq1,ih,agy f.1 f2 h h2]
theorem agB{v:V}{d:Dat}(f:O2 d=true)(h:dU K g H v d):Rep K g H v d:=by
 cases d with
 |list _=>cases f
 |_=>exact h
end
def WR(K:ap9)(neg:Bool):R2:=fun x y H Q=>(∃d ds,Dp K H x d/\Dp K H y (.list ds)/\SeqAt.shaped d=true/\SeqAt.shaped (.list ds)=true/\Q (.bl (neg ^^ (ds.any fun z=>PyData.eqv z d))) H)∨
 (∃p xs,y=.ref p/\(SqL K H p xs∨SqT K H p xs)/\flatV x=true/\xs.all flatV=true/\Q (.bl (neg ^^ inV x xs)) H)∨∃(c:Nat) (z:Str),x=.str ⟨#[c]⟩/\y=.str z/\Q (.bl (neg ^^ decide (c∈z.cps.toList))) H
theorem ahM{X:Cx}(hu:X.A.units+65 < cLine):OpR X (compareOp .In) (WR X.K false):=fun pins s σ H x y v u Q I rx ry h=>by
 unfold WR at h
 simp only[Bool.false_xor]at h
 rcases h with⟨d,ds,h⟩|⟨p,xs,h⟩|h
 ·exact op_inD hu pins s σ H x y v u Q I rx ry ⟨d,ds,h⟩
 ·exact op_in_seq pins s σ H x y v u Q I rx ry ⟨p,xs,h⟩
 ·exact op_in_sign pins s σ H x y v u Q I rx ry h
theorem aci{X:Cx}(hu:X.A.units+65 < cLine):OpR X (compareOp .NotIn) (WR X.K true):=fun pins s σ H x y v u Q I rx ry h=>by
 unfold WR at h
 simp only[Bool.true_xor]at h
 rcases h with⟨d,ds,h⟩|⟨p,xs,h⟩|h
 ·exact op_notInD hu pins s σ H x y v u Q I rx ry ⟨d,ds,h⟩
 ·exact op_notIn_seq pins s σ H x y v u Q I rx ry ⟨p,xs,h⟩
 ·exact op_notIn_sign pins s σ H x y v u Q I rx ry h
theorem afE{K:ap9}{aj:aO}{W:WX}{neg:Bool}:pG aj K W (inD neg) (WR K neg):=fun σ g H x y d e Q k rx ry h=>by
 replace h:=Out.sat.bnd h
 unfold inB at h
 split at h
 ·next ds=>
  obtain⟨hz,h⟩:=h.pH
  rw[aqa]at hz
  have e2:okd 13 (.list ds)=true:=by rw[okd];exact hz.2
  exact .inl ⟨_,ds,rx.dp hz.1,ry.dp e2,Ba hz.1 (by decide),Ba e2 (by decide),h _ H (Ex.refl H) (.bl _)⟩
 ·next ds=>
  obtain⟨hz,h⟩:=h.pH
  rw[aqa]at hz
  obtain⟨p,us,rfl,h1,h2⟩:=kZ ry
  have rx':=agB hz.1 rx
  refine .inr (.inl ⟨p,us,rfl,.inr h1,X6 hz.1 rx',Ug hz.2 h2,?_⟩)
  rw[aaN hz.1 rx' hz.2 h2]
  exact h _ H (Ex.refl H) (.bl _)
 ·next xs z=>
  split at h
  ·next c e=>
   refine .inr (.inr ⟨c,z,?_,jH ry,h _ H (Ex.refl H) (.bl _)⟩)
   rw[jH rx]
   congr 1
   have:xs.cps=#[c]:=by
    apply Array.toList_inj.mp
    rw[e]
   cases xs
   simp only at this
   rw[this]
  ·exact False.elim h
 ·exact False.elim h
def Tn:Dat->Out Dat
 |.int i=>.ok (.int (-i))
 |_=>.bad
def Ht:Dat->Out Bool
 |.none=>.ok false
 |.bool b=>.ok b
 |.int i=>.ok (i != 0)
 |.str x=>Out.when (decide (x.length<=100000)) (.ok (!x.cps.toList.isEmpty))
 |.list ds=>.ok (!ds.isEmpty)
 |.tuple ds=>.ok (!ds.isEmpty)
 |_=>.bad
def iY(a:QF):QT:=fun M ρ=>(a M ρ).bind Ht
def Aj:Dat->Out Bool
 |.bool b=>.ok b
 |_=>.bad
def bB(a:QF):QT:=fun M ρ=>(a M ρ).bind Aj
def jP(a:QT):QT:=fun M ρ=>(a M ρ).bind fun b=>.ok (!b)
def mK(a b:QT):QT:=fun M ρ=>(a M ρ).bind fun x=>if x=true then b M ρ else .ok false
def Ju(a b:QT):QT:=fun M ρ=>(a M ρ).bind fun x=>if x=true then .ok true else b M ρ
def UJ(a:QT):QF:=fun M ρ=>(a M ρ).bind fun b=>.ok (.bool b)
def Py(t:QT)(a b:QF):QF:=fun M ρ=>(t M ρ).bind fun x=>if x=true then a M ρ else b M ρ
theorem PL{K:ap9}{g:Gh}{H:Hp}{us:List V}{ds:List Dat}(h:aH K g H us ds):(!ds.isEmpty)=!us.isEmpty:=by cases h <;> rfl
section
variable{X:Cx}{aj:aO}{W:WX}{a b c:Expr}{fa fb fc:QF}{ta tb:QT}{pos:Pos}
theorem ahv(ha:QW aj X W a fa):QE aj X W (.UnaryOp .USub a pos) (eU Tn fa):=
 PE.weak (pe_un un_neg ha) fun σ H Q ⟨g,ρ,M,I,h⟩=>by
  refine tW.go I h.bnd fun d v H1 h1 e1 r1=>?_
  unfold Tn at h1
  split at h1
  ·exact⟨_,cC r1,h1 _ H1 e1 (.int _)⟩
  ·exact False.elim h1
theorem aif{g:Gh}{H:Hp}{v:V}{d:Dat}{P:Bool->Prop}{E:dI->Prop}(r:dU X.K g H v d)(h:(Ht d).sat P E):∃k,TruV X.K v H k/\P k:=by
 unfold Ht at h
 split at h
 ·cases Em r;exact⟨_,rfl,h⟩
 ·cases CQ r;exact⟨_,rfl,h⟩
 ·cases cC r;exact⟨_,rfl,h⟩
 ·next x=>
  obtain⟨hz,h⟩:=h.pH
  cases jH r
  refine⟨_,⟨sz_of (of_decide_eq_true hz),?_⟩,h⟩
  have e:x.length=x.cps.toList.length:=by
   rw[aqJ]
   rfl
  rw[e]
  cases x.cps.toList with
  |nil=>rfl
  |cons y ys=>
   refine Eq.symm (bne_iff_ne.mpr ?_)
   simp
   omega
 ·obtain⟨p,us,rfl,h1,h2⟩:=iV r
  rw[PL h2]at h
  exact⟨_,.inl ⟨us,h1,rfl⟩,h⟩
 ·obtain⟨p,us,rfl,h1,h2⟩:=kZ r
  rw[PL h2]at h
  exact⟨_,.inr (.inl ⟨us,h1,rfl⟩),h⟩
 ·exact False.elim h
theorem aj9(ha:QW aj X W a fa)(he:∀whole,isTrue a X.env whole=(do let v ←whole;standAt a.pos;holding [v] (truthy v))):rA aj X W a (iY fa):=
 PT.weak (pt_truth ha he) fun σ H Q ⟨g,ρ,M,I,h⟩=>by
  refine tW.go I h.bnd fun d v H1 h1 e1 r1=>?_
  obtain⟨k,h2,h3⟩:=aif r1 h1
  exact⟨k,h2,h3 H1 e1⟩
theorem Dr{g:Gh}{H:Hp}{v:V}{d:Dat}{P:Bool->Prop}{E:dI->Prop}(r:dU X.K g H v d)(h:(Aj d).sat P E):∃k,v=.bl k/\P k:=by
 unfold Aj at h
 split at h
 ·cases CQ r;exact⟨_,rfl,h⟩
 ·exact False.elim h
theorem aj4{op:CmpOp}{r:R2}{o:Dat->Dat->Out Dat}(hr:OpR X (compareOp op) r)(ho:pG aj X.K W o r)(ha:QW aj X W a fa)(hb:QW aj X W b fb)(hm:behindInMarks op b=false):rA aj X W (.Compare a [op] [b] pos) (bB (aA o fa fb)):=
 PT.weak (pt_cmpR hr ha hb hm) fun σ H Q ⟨g,ρ,M,I,h⟩=>by
  refine Pk ho σ H _ ⟨g,ρ,M,I,h.bnd.mono (fun d h1 v H' e' r'=>?_) fun _ z=>z⟩
  obtain⟨k,h2,h3⟩:=Dr r'.weak h1
  exact⟨k,h2,h3 H' e'⟩
theorem akI{op:CmpOp}{neg:Bool}{d:Dat}{v:V}(hc:scD d=some v)(hr:OpR X (compareOp op) (Xy neg v))(ha:QW aj X W a fa)(hb:PE X b (tC v))(hm:behindInMarks op b=false):rA aj X W (.Compare a [op] [b] pos) (bB (xH neg d fa)):=
 PT.weak (pt_cmpR hr ha hb hm) fun σ H Q ⟨g,ρ,M,I,h⟩=>by
  refine tW.go I h.bnd.bnd fun e x H1 h1 e1 r1=>?_
  refine⟨rfl,_,rfl,?_⟩
  rw[aac r1 hc]
  exact h1 H1 e1
theorem aib(ha:rA aj X W a ta):rA aj X W (.UnaryOp .Not a pos) (jP ta):=
 PT.weak (pt_not ha) fun σ H Q ⟨g,ρ,M,I,h⟩=>jT.go I h.bnd fun b H1 h1 e1=>h1 H1 e1
def QWt(aj:aO)(X:Cx)(W:WX)(e:Expr)(f:QT):Prop:=PW X e (jT X.K aj W f)
theorem PW.weak{X:Cx}{e:Expr}{t t':TT}(h:PW X e t)(k:∀σ H Q,t' σ H Q->t σ H Q):PW X e t':=⟨fun wh pins s σ H Q I q=>h.run wh pins s σ H Q I (k σ H Q q)⟩
theorem ajX{rest:List Expr}(ha:rA aj X W a ta)(hb:QWt aj X W (.BoolOp .And (b::rest) pos) tb):QWt aj X W (.BoolOp .And (a::b::rest) pos) (mK ta tb):=
 PW.weak (pw_and ha hb) fun σ H Q ⟨g,ρ,M,I,h⟩=>by
  refine jT.go I h.bnd fun x H1 h1 e1=>?_
  cases x with
  |true=>exact⟨g,ρ,M,I.ex e1,h1.mono (fun b k H' e'=>k H' (e1.trans e')) fun _ z=>z.ex e1⟩
  |false=>exact h1 H1 e1
theorem akE{rest:List Expr}(ha:rA aj X W a ta)(hb:QWt aj X W (.BoolOp .Or (b::rest) pos) tb):QWt aj X W (.BoolOp .Or (a::b::rest) pos) (Ju ta tb):=
 PW.weak (pw_or ha hb) fun σ H Q ⟨g,ρ,M,I,h⟩=>by
  refine jT.go I h.bnd fun x H1 h1 e1=>?_
  cases x with
  |true=>exact h1 H1 e1
  |false=>exact⟨g,ρ,M,I.ex e1,h1.mono (fun b k H' e'=>k H' (e1.trans e')) fun _ z=>z.ex e1⟩
def Qm(a:QF):QF:=UJ (jP (bB a))
def wX(a b:QF):QF:=fun M ρ=>(a M ρ).bind fun d=>(Aj d).bind fun x=>if x=true then b M ρ else .ok (.bool false)
def aeL(a b:QF):QF:=fun M ρ=>(a M ρ).bind fun d=>(Aj d).bind fun x=>if x=true then .ok (.bool true) else b M ρ
theorem afN(ha:QW aj X W a fa):QE aj X W (.UnaryOp .Not a pos) (Qm fa):=
 PE.weak (pe_not ha) fun σ H Q ⟨g,ρ,M,I,h⟩=>by
  refine tW.go I h.bnd.bnd.bnd fun d v H1 h1 e1 r1=>?_
  obtain⟨k,h2,h3⟩:=Dr r1 h1
  exact⟨k,h2,h3 _ H1 e1 (.bl _)⟩
theorem aga{rest:List Expr}(ha:QE aj X W a fa)(hb:QE aj X W (.BoolOp .And (b::rest) pos) fb):QE aj X W (.BoolOp .And (a::b::rest) pos) (wX fa fb):=
 PE.weak (pe_and ha hb) fun σ H Q ⟨g,ρ,M,I,h⟩=>by
  refine tQ.go I h.bnd fun d v H1 h1 e1 r1=>?_
  obtain⟨k,h2,h3⟩:=Dr r1.weak h1.bnd
  refine⟨k,h2,?_⟩
  cases k with
  |true=>exact⟨g,ρ,M,I.ex e1,h3.mono (fun b k v' H' e' r'=>k v' H' (e1.trans e') r') fun _ z=>z.ex e1⟩
  |false=>exact h3 _ H1 e1 (.bl false)
theorem ajG{rest:List Expr}(ha:QE aj X W a fa)(hb:QE aj X W (.BoolOp .Or (b::rest) pos) fb):QE aj X W (.BoolOp .Or (a::b::rest) pos) (aeL fa fb):=
 PE.weak (pe_or ha hb) fun σ H Q ⟨g,ρ,M,I,h⟩=>by
  refine tQ.go I h.bnd fun d v H1 h1 e1 r1=>?_
  obtain⟨k,h2,h3⟩:=Dr r1.weak h1.bnd
  refine⟨k,h2,?_⟩
  cases k with
  |false=>exact⟨g,ρ,M,I.ex e1,h3.mono (fun b k v' H' e' r'=>k v' H' (e1.trans e') r') fun _ z=>z.ex e1⟩
  |true=>exact h3 _ H1 e1 (.bl true)
theorem aeW(hc:rA aj X W c ta)(ha:QE aj X W a fa)(hb:QE aj X W b fb):QE aj X W (.IfExp c a b pos) (Py ta fa fb):=
 PE.weak (pe_ifExp hc ha hb) fun σ H Q ⟨g,ρ,M,I,h⟩=>by
  refine jT.go I h.bnd fun x H1 h1 e1=>?_
  cases x with
  |true=>exact⟨g,ρ,M,I.ex e1,h1.mono (fun b k v' H' e' r'=>k v' H' (e1.trans e') r') fun _ z=>z.ex e1⟩
  |false=>exact⟨g,ρ,M,I.ex e1,h1.mono (fun b k v' H' e' r'=>k v' H' (e1.trans e') r') fun _ z=>z.ex e1⟩
def lY(o o':Dat->Dat->Out Dat)(a b c:QF):QT:=fun M ρ=>(a M ρ).bind fun x=>(b M ρ).bind fun y=>(o x y).bind fun z=>(Aj z).bind fun k=>if k=true then(c M ρ).bind fun w=>(o' y w).bind Aj else .ok false
theorem W6{r r':R2}{o o':Dat->Dat->Out Dat}(ho:pG aj X.K W o r)(ho':pG aj X.K W o' r'){σ:L2.St}{H:Hp}{Q:VK}{P:Bool->Hp->Prop}(hP:∀k H',P k H'->Q (.bl k) H')(h:jT X.K aj W (lY o o' fa fb fc) σ H P):tChain r r' (tW X.K aj W fa) (tW X.K aj W fb) (tW X.K aj W fc) σ H Q:=by
 obtain⟨g,ρ,M,I,h⟩:=h
 refine tW.go I h.bnd fun d v H1 h1 e1 r1=>?_
 have I1:=I.ex e1
 refine tW.go I1 (h1.bnd.mono (fun _ z=>z) fun _ z=>z.ex e1) fun d2 v2 H2 h2 e2 r2=>?_
 have I2:=I1.ex e2
 have r1':=r1.ex e2 I1.kd
 refine ho σ g H2 v v2 d d2 _ I2.kd r1' r2 (h2.bnd.mono (fun z hz u H3 e3 r3=>?_) fun _ z=>(z.ex e1).ex e2)
 obtain⟨k,h4,h5⟩:=Dr r3.weak hz.bnd
 refine⟨k,h4,?_⟩
 have I3:=I2.ex e3
 have e13:=(e1.trans e2).trans e3
 cases k with
 |false=>exact hP _ _ (h5 H3 e13)
 |true=>
  refine tW.go I3 (h5.bnd.mono (fun _ z=>z) fun _ z=>z.ex e13) fun d4 v4 H4 h6 e4 r4=>?_
  refine ho' σ g H4 v2 v4 d2 d4 _ (I3.ex e4).kd ((r2.ex e3 I2.kd).ex e4 I3.kd) r4 (h6.bnd.mono (fun z hz u H5 e5 r5=>?_) fun _ z=>(z.ex e13).ex e4)
  obtain⟨k,rfl,h8⟩:=Dr r5.weak hz
  exact hP _ _ (h8 H5 ((e13.trans e4).trans e5))
theorem aed{op op':CmpOp}{r r':R2}{o o':Dat->Dat->Out Dat}(hr:OpR X (compareOp op) r)(hr':OpR X (compareOp op') r')(ho:pG aj X.K W o r)(ho':pG aj X.K W o' r')(ha:QW aj X W a fa)(hb:QW aj X W b fb)(hc:QW aj X W c fc)(hm:lastMarks [op,op'] [b,c]=false) :
  rA aj X W (.Compare a [op,op'] [b,c] pos) (lY o o' fa fb fc):=
 PT.weak (pt_chain hr hr' ha hb hc hm) fun σ H Q h=>W6 ho ho' (fun k H' z=>⟨k,rfl,z⟩) h
theorem afd{op op':CmpOp}{r r':R2}{o o':Dat->Dat->Out Dat}(hr:OpR X (compareOp op) r)(hr':OpR X (compareOp op') r')(ho:pG aj X.K W o r)(ho':pG aj X.K W o' r')(ha:QW aj X W a fa)(hb:QW aj X W b fb)(hc:QW aj X W c fc)(hm:lastMarks [op,op'] [b,c]=false) :
  QE aj X W (.Compare a [op,op'] [b,c] pos) (UJ (lY o o' fa fb fc)):=
 PE.weak (pe_chain hr hr' ha hb hc hm) fun σ H Q ⟨g,ρ,M,I,h⟩=>W6 (P:=fun b H1=>Q (.bl b) H1) ho ho' (fun k H' z=>z) ⟨g,ρ,M,I,h.bnd.mono (fun b h1 H' e'=>h1 _ H' e' (.bl b)) fun _ z=>z⟩
end
def aV:Dat->Dat->Out Dat
 |.list ds,.int i=>match atI ds i with
  |some d=>.ok d
  |none=>.bad
 |.tuple ds,.int i=>match atI ds i with
  |some d=>.ok d
  |none=>.bad
 |.str z,.int i=>Out.when (decide (z.length<=100000)) (match atI z.cps.toList i with
  |some c=>.ok (.str ⟨#[c]⟩)
  |none=>.bad)
 |_,_=>.bad
theorem aay{K:ap9}{g:Gh}{H:Hp}{us:List V}{ds:List Dat}{i:Int}{d:Dat}(h:aH K g H us ds)(e:atI ds i=some d):∃v,atI us i=some v/\Rep K g H v d:=by
 unfold atI at e ⊢
 rw[h.length]
 cases hj:ixN ds.length i with
 |none=>rw[hj]at e;cases e
 |some j=>
  rw[hj]at e
  obtain⟨v,h1,h2⟩:=h.get (i:=j) e
  exact⟨v,h1,h2⟩
def ajP(K:ap9):R2:=fun x y H Q=>rIxL K x y H Q∨rIxT K x y H Q∨rIxS x y H Q
theorem amx{X:Cx}:IxR X (ajP X.K):=fun value slice pins s σ H x y v u Q I rx ry h hs=>by
 rcases h with h|h|h
 ·exact ix_list value slice pins s σ H x y v u Q I rx ry h hs
 ·exact ix_tup value slice pins s σ H x y v u Q I rx ry h hs
 ·exact ix_str value slice pins s σ H x y v u Q I rx ry h hs
theorem ak9{K:ap9}{aj:aO}{W:WX}:pG aj K W aV (ajP K):=fun σ g H x y d e Q k rx ry h=>by
 unfold aV at h
 split at h
 ·split at h
  ·next z hz=>
   obtain⟨p,us,rfl,h1,h2⟩:=iV rx
   obtain⟨v,h3,h4⟩:=aay h2 hz
   exact .inl ⟨p,us,_,v,rfl,cC ry,h1,h3,h v H (Ex.refl H) h4⟩
  ·exact False.elim h
 ·split at h
  ·next z hz=>
   obtain⟨p,us,rfl,h1,h2⟩:=kZ rx
   obtain⟨v,h3,h4⟩:=aay h2 hz
   exact .inr (.inl ⟨p,us,_,v,rfl,cC ry,h1,h3,h v H (Ex.refl H) h4⟩)
  ·exact False.elim h
 ·obtain⟨hl,h⟩:=h.pH
  split at h
  ·next c hz=>exact .inr (.inr ⟨_,_,c,jH rx,cC ry,sz_of (of_decide_eq_true hl),hz,h _ H (Ex.refl H) (.str _)⟩)
  ·exact False.elim h
 ·exact False.elim h
def cutD{α:Type}(xs:List α)(lo hi:Option Int):List α:=(xs.drop (HT.sIx xs.length 0 lo)).take (HT.sIx xs.length xs.length hi - HT.sIx xs.length 0 lo)
abbrev QO:=Mo->Env->Out (Option Int)
def za:QO:=fun _ _=>.ok none
def zR:Dat->Out Int
 |.int i=>.ok i
 |_=>.bad
def qI(a:QF):QO:=fun M ρ=>(a M ρ).bind fun d=>(zR d).bind fun i=>.ok (some i)
def slD(d:Dat)(lo hi:Option Int):Out Dat:=
 match d with
 |.list ds=>.ok (.list (cutD ds lo hi))
 |.tuple ds=>.ok (.tuple (cutD ds lo hi))
 |.str z=>Out.when (decide (z.length<=100000)) (.ok (.str (cutS z lo hi)))
 |_=>.bad
def Mq(a:QF)(lo hi:QO):QF:=fun M ρ=>(a M ρ).bind fun d=>(lo M ρ).bind fun l=>(hi M ρ).bind fun h=>slD d l h
def tQO(K:ap9)(aj:aO)(W:WX)(f:QO):TO:=fun σ H Q=>∃g ρ M,SInv K aj σ H g ρ M/\(f M ρ).sat (fun o=>∀H',Ex H H'->Q o H') (qF K aj W g H σ)
def QOe(aj:aO)(X:Cx)(W:WX)(e:Option Expr)(f:QO):Prop:=PO X e (tQO X.K aj W f)
def ajl(K:ap9):V->Option Int->Option Int->Hp->VK->Prop:=fun x lo hi H Q=>rSlL K x lo hi H Q∨rSlA K x lo hi H Q∨rSlS x lo hi H Q
theorem ams{X:Cx}:SlR X (ajl X.K):=fun pins s σ H x v vl vu lo hi sl Q I rx hs pl pu h=>by
 rcases h with h|h|h
 ·exact sl_list pins s σ H x v vl vu lo hi sl Q I rx hs pl pu h
 ·exact sl_tupA pins s σ H x v vl vu lo hi sl Q I rx hs pl pu h
 ·exact sl_str pins s σ H x v vl vu lo hi sl Q I rx hs pl pu h
theorem akr{K:ap9}{g:Gh}{H:Hp}{x:V}{d:Dat}{lo hi:Option Int}{Q:VK}{E:dI->Prop}(k:Kd g H)(rx:dU K g H x d)(h:(slD d lo hi).sat (fun z=>∀v H',Ex H H'->Rep K g H' v z->Q v H') E):ajl K x lo hi H Q:=by
 unfold slD at h
 have hc:∀{us:List V} {ds:List Dat},aH K g H us ds->aH K g H (cutV us lo hi) (cutD ds lo hi):=fun {us ds} t=>by
  unfold cutV cutD
  rw[t.length]
  exact(t.drop _).take _
 split at h
 ·obtain⟨p,us,rfl,h1,h2⟩:=iV rx
  exact .inl ⟨p,us,rfl,h1,fun q nq=>h _ _ (Ex.new nq) (.lst (.inl ⟨.inl upd_same,k.fresh nq⟩) ((hc h2).ex (Ex.new nq) k))⟩
 ·next ds=>
  obtain⟨p,us,rfl,h1,h2⟩:=kZ rx
  refine .inr (.inl ⟨p,us,rfl,h1,fun z=>?_,fun _ q nq=>h _ _ (Ex.new nq) (.tup (st_of upd_same) ((hc h2).ex (Ex.new nq) k))⟩)
  have e:cutD ds lo hi=ds:=by
   unfold cutD
   rw[←h2.length,z.1,z.2,h2.length]
   simp
  rw[e]at h
  exact h _ H (Ex.refl H) (.tup h1 h2)
 ·obtain⟨hz,h⟩:=h.pH
  exact .inr (.inr ⟨_,jH rx,sz_of (of_decide_eq_true hz),h _ H (Ex.refl H) (.str _)⟩)
 ·exact False.elim h
section
variable{X:Cx}{aj:aO}{W:WX}{a b:Expr}{fa fb:QF}{pos p2:Pos}
theorem ala(ha:QW aj X W a fa)(hb:QW aj X W b fb)(hs:PlainIx b):QE aj X W (.Subscript a b pos) (aA aV fa fb):=
 PE.weak (pe_ix amx ha hb hs) fun σ H Q h=>Pk ak9 σ H Q h
theorem PO.weak{X:Cx}{e:Option Expr}{t t':TO}(h:PO X e t)(k:∀σ H Q,t' σ H Q->t σ H Q):PO X e t':=⟨fun pins s σ H Q I q=>h.run pins s σ H Q I (k σ H Q q)⟩
theorem ahm:QOe aj X W none za:=PO.weak po_none fun σ H Q ⟨g,ρ,M,I,h⟩=>h H (Ex.refl H)
theorem agH(ha:QW aj X W a fa):QOe aj X W (some a) (qI fa):=PO.weak (po_some ha) fun σ H Q ⟨g,ρ,M,I,h⟩=>by
 refine tW.go I h.bnd fun d v H1 h1 e1 r1=>?_
 have h1:=h1.bnd
 unfold zR at h1
 split at h1
 ·exact⟨_,cC r1,h1 H1 e1⟩
 ·exact False.elim h1
theorem akl{lo hi:Option Expr}{fl fh:QO}(ha:QW aj X W a fa)(hl:QOe aj X W lo fl)(hh:QOe aj X W hi fh):QE aj X W (.Subscript a (.Slice lo hi none p2) pos) (Mq fa fl fh):=
 PE.weak (pe_slice ams ha hl hh) fun σ H Q ⟨g,ρ,M,I,h⟩=>by
  refine tW.go I h.bnd fun d v H1 h1 e1 r1=>?_
  have I1:=I.ex e1
  refine⟨g,ρ,M,I1,h1.bnd.mono (fun l h2 H2 e2=>?_) fun _ z=>z.ex e1⟩
  have I2:=I1.ex e2
  refine⟨g,ρ,M,I2,h2.bnd.mono (fun u h3 H3 e3=>?_) fun _ z=>(z.ex e1).ex e2⟩
  exact akr (I2.ex e3).kd ((r1.ex e2 I1.kd).ex e3 I2.kd) (h3.mono (fun z hz v' H' e' r'=>hz v' H' (((e1.trans e2).trans e3).trans e') r') fun _ z=>z)
end
def Iu(aj:aO)(K:ap9)(W:WX)(o:Dat->Out Dat)(r:List V->Hp->VK->Prop):Prop:=∀(σ:L2.St) (g:Gh) (H:Hp) (x:V) (d:Dat) (Q:VK),Kd g H->dU K g H x d->
 (o d).sat (fun z=>∀v H',Ex H H'->Rep K g H' v z->Q v H') (qF K aj W g H σ)->r [x] H Q
def Fn2(aj:aO)(K:ap9)(W:WX)(o:Dat->Dat->Out Dat)(r:List V->Hp->VK->Prop):Prop:=∀(σ:L2.St) (g:Gh) (H:Hp) (x y:V) (d e:Dat) (Q:VK),Kd g H->dU K g H x d->dU K g H y e->
 (o d e).sat (fun z=>∀v H',Ex H H'->Rep K g H' v z->Q v H') (qF K aj W g H σ)->r [x,y] H Q
def BV(f:Value)(x:Str):Prop:=bootBuiltins x=some f/\x≠"__name__"/\(x==("__debug__" : Str))=false
def nst:Expr->Bool
 |.Starred _ _=>false
 |_=>true
section
variable{X:Cx}{aj:aO}{W:WX}{a b c:Expr}{fa fb fc:QF}{pos p:Pos}{x:Str}
theorem cO{env:PySem.Env}{a:Expr}(h:nst a=true)(es:List Expr):starEach (a::es) env=(false,eval a env)::starEach es env:=by
 cases a <;> first | rfl | cases h
theorem star_any{env:PySem.Env}{pos:Pos}:∀(es:List Expr),es.all nst=true->(backTo pos (starEach es env)).any (·.1)=false
 |[],_=>by with_unfolding_all rfl
 |a::es,h=>by
  rw[aqK,aqa]at h
  rw[cO h.1]
  have ih:=star_any (env:=env) (pos:=pos) es h.2
  unfold backTo at ih ⊢
  rw[aqd,aq1,ih]
  rfl
theorem afm{f:Value}{id:String}{r:List V->Hp->VK->Prop}{o:Dat->Out Dat}(hf:f=.builtin id∨f=.type id)(hc:CallR X f r)(ho:Iu aj X.K W o r)(hg:Gl X x)(hm:X.mg x=none)(hv:BV f x)(ha:QW aj X W a fa)(hs:nst a=true):QE aj X W (.Call (.Name x p) [a] [] pos) (eU o fa):=by
 have h1:=pa_cons ha pa_nil (cO hs [])
 have key:PE X (.Call (.Name x p) [a] [] pos) (tCB r (tCons (tW X.K aj W fa) tNil)):=by
  rcases hf with rfl|rfl
  ·exact pe_callB hc hg hm hv.1 h1 hv.2.1 hv.2.2 (cO hs []) (by with_unfolding_all rfl)
  ·exact pe_callTy hc hg hm hv.1 h1 hv.2.1 hv.2.2 (cO hs []) (by with_unfolding_all rfl)
 refine PE.weak key fun σ H Q ⟨g,ρ,M,I,h⟩=>?_
 refine tW.go I h.bnd fun d v H1 h1 e1 r1=>?_
 exact ho σ g H1 v d Q (I.kd.ex e1) r1 (h1.mono (fun z hz u H' e' r'=>hz u H' (e1.trans e') r') fun _ z=>z.ex e1)
theorem alb{f:Value}{id:String}{r:List V->Hp->VK->Prop}{o:Dat->Dat->Out Dat}(hf:f=.builtin id∨f=.type id)(hc:CallR X f r)(ho:Fn2 aj X.K W o r)(hg:Gl X x)(hm:X.mg x=none)(hv:BV f x)(ha:QW aj X W a fa)(hb:QW aj X W b fb)(hs:nst a=true)(hs2:nst b=true):QE aj X W (.Call (.Name x p) [a,b] [] pos) (aA o fa fb):=by
 have h1:=pa_cons ha (pa_cons hb pa_nil (cO hs2 [])) (cO hs [b])
 have key:PE X (.Call (.Name x p) [a,b] [] pos) (tCB r (tCons (tW X.K aj W fa) (tCons (tW X.K aj W fb) tNil))):=by
  rcases hf with rfl|rfl
  ·exact pe_callB hc hg hm hv.1 h1 hv.2.1 hv.2.2 (cO hs [b]) (star_any [b] (by simp[hs2]))
  ·exact pe_callTy hc hg hm hv.1 h1 hv.2.1 hv.2.2 (cO hs [b]) (star_any [b] (by simp[hs2]))
 refine PE.weak key fun σ H Q ⟨g,ρ,M,I,h⟩=>?_
 refine tW.go I h.bnd fun d v H1 h1 e1 r1=>?_
 have I1:=I.ex e1
 refine tW.go I1 (h1.bnd.mono (fun _ z=>z) fun _ z=>z.ex e1) fun d2 v2 H2 h2 e2 r2=>?_
 exact ho σ g H2 v v2 d d2 Q (I1.ex e2).kd (r1.ex e2 I1.kd) r2 (h2.mono (fun z hz u H' e' r'=>hz u H' ((e1.trans e2).trans e') r') fun _ z=>(z.ex e1).ex e2)
end
def mV:Dat->Out Dat
 |.list ds=>.ok (.int ds.length)
 |.tuple ds=>.ok (.int ds.length)
 |.str x=>Out.when (decide (x.length<=100000)) (.ok (.int x.length))
 |_=>.bad
def Ud:Dat->Out Dat
 |.int i=>.ok (.int (if i < 0 then -i else i))
 |_=>.bad
def u5:Dat->Dat->Out Dat
 |.int i,.int j=>.ok (.int (if j > i then j else i))
 |_,_=>.bad
def Gk:Dat->Dat->Out Dat
 |.int i,.int j=>.ok (.int (if j < i then j else i))
 |_,_=>.bad
def intsOf:List Dat->Option (List Int)
 |[]=>some []
 |.int i::r=>(intsOf r).map (i::·)
 |_::_=>none
def tZ:List Dat->Option (List Bool)
 |[]=>some []
 |.bool i::r=>(tZ r).map (i::·)
 |_::_=>none
theorem Hg{K:ap9}{g:Gh}{H:Hp}:∀{us:List V} {ds:List Dat} {ns:List Int},aH K g H us ds->intsOf ds=some ns->us=ns.map V.int
 |_,_,ns,.nil,e=>by cases e;rfl
 |_,_,ns,.cons (d:=d) (ds:=ds) h t,e=>by
  cases d with
  |int i=>
   rw[intsOf]at e
   cases hr:intsOf ds with
   |none=>rw[hr]at e;cases e
   |some r=>
    rw[hr]at e
    cases e
    cases h
    rw[Hg t hr]
    rfl
  |_=>cases e
theorem Ku{K:ap9}{g:Gh}{H:Hp}:∀{us:List V} {ds:List Dat} {ns:List Bool},aH K g H us ds->tZ ds=some ns->us=ns.map V.bl
 |_,_,ns,.nil,e=>by cases e;rfl
 |_,_,ns,.cons (d:=d) (ds:=ds) h t,e=>by
  cases d with
  |bool i=>
   rw[tZ]at e
   cases hr:tZ ds with
   |none=>rw[hr]at e;cases e
   |some r=>
    rw[hr]at e
    cases e
    cases h
    rw[Ku t hr]
    rfl
  |_=>cases e
@[simp]theorem Az (ns:List Int):intsOf (ns.map PyData.int)=some ns:=by
 induction ns with
 |nil=>rfl
 |cons n ns ih=>rw[aqd,intsOf,ih];rfl
@[simp]theorem Cu (ns:List Bool):tZ (ns.map PyData.bool)=some ns:=by
 induction ns with
 |nil=>rfl
 |cons n ns ih=>rw[aqd,tZ,ih];rfl
def Yc:Dat->Out Dat
 |.list ds=>match intsOf ds with
  |some ns=>.ok (.int ns.sum)
  |none=>.bad
 |_=>.bad
def DW:Int->List Int->Int
 |m,[]=>m
 |m,n::ns=>DW (if n > m then n else m) ns
theorem Ui:∀(ns:List Int) (m:Int),(DW m ns∈m::ns)/\∀y∈m::ns,y<=DW m ns
 |[],m=>⟨by simp[DW],fun y h=>by simp at h;subst h;exact Int.le_refl _⟩
 |n::ns,m=>by
  obtain⟨h1,h2⟩:=Ui ns (if n > m then n else m)
  have hm:m<=(if n > m then n else m):=by split <;> omega
  have hn:n<=(if n > m then n else m):=by split <;> omega
  have h3:=h2 _ aqf
  refine⟨?_,fun y hy=>?_⟩
  ·show DW (if n > m then n else m) ns∈_
   rcases aqp.mp h1 with e|e
   ·rw[e]
    split
    ·exact aqe _ aqf
    ·exact aqf
   ·exact aqe _ (aqe _ e)
  ·show y<=DW (if n > m then n else m) ns
   rcases aqp.mp hy with e|hy
   ·omega
   ·rcases aqp.mp hy with e|hy
    ·omega
    ·exact h2 y (aqe _ hy)
def maxD:Dat->Out Dat
 |.list ds=>match intsOf ds with
  |some (n::ns)=>.ok (.int (DW n ns))
  |_=>.bad
 |_=>.bad
def Oq:Dat->Out Dat
 |.list ds=>match tZ ds with
  |some bs=>.ok (.bool (bs.all id))
  |none=>.bad
 |_=>.bad
def N7:Dat->Out Dat
 |.list ds=>match tZ ds with
  |some bs=>.ok (.bool (bs.any id))
  |none=>.bad
 |_=>.bad
def lZ:Dat->Out Dat
 |.list ds=>.ok (.tuple ds)
 |.tuple ds=>.ok (.tuple ds)
 |_=>.bad
def Ls:Dat->Out Dat
 |.list ds=>.ok (.list ds)
 |.tuple ds=>.ok (.list ds)
 |_=>.bad
def intD:Dat->Out Dat
 |.int i=>.ok (.int i)
 |.bool k=>.ok (.int (if k then 1 else 0))
 |.str x=>Out.when (decide (x.length<=640)) (match PySem.intText? x with
  |some n=>.ok (.int n)
  |none=>.bad)
 |_=>.bad
def afr(K:ap9):List V->Hp->VK->Prop:=fun xs H Q=>(∃p ys,xs=[.ref p]/\(SqL K H p ys∨SqT K H p ys)/\Q (.int ys.length) H)∨∃z,xs=[.str z]/\z.length<=sizeLine/\Q (.int z.length) H
theorem ai7{X:Cx}:CallR X (.builtin "len") (afr X.K):=fun pins s σ H xs us Q I r h=>h.elim (fun h=>call_len_seq pins s σ H xs us Q I r h) fun h=>call_len_str pins s σ H xs us Q I r h
def afy:List V->Hp->VK->Prop:=fun xs H Q=>((∃i,xs=[.int i]/\Q (.int i) H)∨∃k,xs=[.bl k]/\Q (.int (if k then 1 else 0)) H)∨∃a n,xs=[.str a]/\PySem.intText? a=some n/\a.length<=640/\Q (.int n) H
theorem ahJ{X:Cx}:CallR X (.type "int") afy:=fun pins s σ H xs us Q I r h=>h.elim (fun h=>call_int1 pins s σ H xs us Q I r h) fun h=>call_int_str pins s σ H xs us Q I r h
section
variable{K:ap9}{aj:aO}{W:WX}
theorem ail:Iu aj K W mV (afr K):=fun σ g H x d Q k rx h=>by
 unfold mV at h
 split at h
 ·obtain⟨p,us,rfl,h1,h2⟩:=iV rx
  rw[←h2.length]at h
  exact .inl ⟨p,us,rfl,.inl h1,h _ H (Ex.refl H) (.int _)⟩
 ·obtain⟨p,us,rfl,h1,h2⟩:=kZ rx
  rw[←h2.length]at h
  exact .inl ⟨p,us,rfl,.inr h1,h _ H (Ex.refl H) (.int _)⟩
 ·obtain⟨hz,h⟩:=h.pH
  cases jH rx
  exact .inr ⟨_,rfl,sz_of (of_decide_eq_true hz),h _ H (Ex.refl H) (.int _)⟩
 ·exact False.elim h
theorem ajy:Iu aj K W Ud (fun xs H Q=>∃i,xs=[.int i]/\Q (.int (if i < 0 then -i else i)) H):=fun σ g H x d Q k rx h=>by
 unfold Ud at h
 split at h
 ·cases cC rx
  exact⟨_,rfl,h _ H (Ex.refl H) (.int _)⟩
 ·exact False.elim h
theorem afO:Fn2 aj K W u5 (fun xs H Q=>∃i j,xs=[.int i,.int j]/\Q (.int (if j > i then j else i)) H):=fun σ g H x y d e Q k rx ry h=>by
 unfold u5 at h
 split at h
 ·cases cC rx;cases cC ry
  exact⟨_,_,rfl,h _ H (Ex.refl H) (.int _)⟩
 ·exact False.elim h
theorem agX:Fn2 aj K W Gk (fun xs H Q=>∃i j,xs=[.int i,.int j]/\Q (.int (if j < i then j else i)) H):=fun σ g H x y d e Q k rx ry h=>by
 unfold Gk at h
 split at h
 ·cases cC rx;cases cC ry
  exact⟨_,_,rfl,h _ H (Ex.refl H) (.int _)⟩
 ·exact False.elim h
theorem aiQ:Iu aj K W Yc (rSum K):=fun σ g H x d Q k rx h=>by
 unfold Yc at h
 split at h
 ·split at h
  ·next ns e=>
   obtain⟨p,us,rfl,h1,h2⟩:=iV rx
   have:=Hg h2 e
   subst this
   exact⟨p,ns,rfl,h1,h _ H (Ex.refl H) (.int _)⟩
  ·exact False.elim h
 ·exact False.elim h
theorem aiM:Iu aj K W maxD (rMax K):=fun σ g H x d Q k rx h=>by
 unfold maxD at h
 split at h
 ·split at h
  ·next n ns e=>
   obtain⟨p,us,rfl,h1,h2⟩:=iV rx
   have:=Hg h2 e
   subst this
   obtain⟨m1,m2⟩:=Ui ns n
   refine⟨p,n::ns,rfl,h1,by simp,fun m hm hy=>?_⟩
   have e2:m=DW n ns:=Int.le_antisymm (m2 m hm) (hy _ m1)
   rw[e2]
   exact h _ H (Ex.refl H) (.int _)
  ·exact False.elim h
 ·exact False.elim h
theorem aix:Iu aj K W Oq (rAll K):=fun σ g H x d Q k rx h=>by
 unfold Oq at h
 split at h
 ·split at h
  ·next ns e=>
   obtain⟨p,us,rfl,h1,h2⟩:=iV rx
   have:=Ku h2 e
   subst this
   exact⟨p,ns,rfl,h1,h _ H (Ex.refl H) (.bl _)⟩
  ·exact False.elim h
 ·exact False.elim h
theorem ai5:Iu aj K W N7 (rAny K):=fun σ g H x d Q k rx h=>by
 unfold N7 at h
 split at h
 ·split at h
  ·next ns e=>
   obtain⟨p,us,rfl,h1,h2⟩:=iV rx
   have:=Ku h2 e
   subst this
   exact⟨p,ns,rfl,h1,h _ H (Ex.refl H) (.bl _)⟩
  ·exact False.elim h
 ·exact False.elim h
theorem adV:Iu aj K W lZ (fun xs H Q=>∃p ys,xs=[.ref p]/\((SqL K H p ys/\∀l,H l=none->Q (.ref l) (upd H l (.tup ys)))∨(SqT K H p ys/\Q (.ref p) H))):=fun σ g H x d Q k rx h=>by
 unfold lZ at h
 split at h
 ·obtain⟨p,us,rfl,h1,h2⟩:=iV rx
  exact⟨p,us,rfl,.inl ⟨h1,fun l nl=>h _ _ (Ex.new nl) (.tup (st_of upd_same) (h2.ex (Ex.new nl) k))⟩⟩
 ·obtain⟨p,us,rfl,h1,h2⟩:=kZ rx
  exact⟨p,us,rfl,.inr ⟨h1,h _ H (Ex.refl H) (.tup h1 h2)⟩⟩
 ·exact False.elim h
theorem afZ:Iu aj K W Ls (fun xs H Q=>∃p ys,xs=[.ref p]/\(SqL K H p ys∨SqT K H p ys)/\∀l,H l=none->Q (.ref l) (upd H l (.lst ys))):=fun σ g H x d Q k rx h=>by
 unfold Ls at h
 split at h
 ·obtain⟨p,us,rfl,h1,h2⟩:=iV rx
  exact⟨p,us,rfl,.inl h1,fun l nl=>h _ _ (Ex.new nl) (.lst (.inl ⟨.inl upd_same,k.fresh nl⟩) (h2.ex (Ex.new nl) k))⟩
 ·obtain⟨p,us,rfl,h1,h2⟩:=kZ rx
  exact⟨p,us,rfl,.inr h1,fun l nl=>h _ _ (Ex.new nl) (.lst (.inl ⟨.inl upd_same,k.fresh nl⟩) (h2.ex (Ex.new nl) k))⟩
 ·exact False.elim h
theorem aiB:Iu aj K W intD afy:=fun σ g H x d Q k rx h=>by
 unfold intD at h
 split at h
 ·cases cC rx
  exact .inl (.inl ⟨_,rfl,h _ H (Ex.refl H) (.int _)⟩)
 ·cases CQ rx
  exact .inl (.inr ⟨_,rfl,h _ H (Ex.refl H) (.int _)⟩)
 ·obtain⟨hz,h⟩:=h.pH
  split at h
  ·next n e=>
   cases jH rx
   exact .inr ⟨_,n,rfl,e,of_decide_eq_true hz,h _ H (Ex.refl H) (.int _)⟩
  ·exact False.elim h
 ·exact False.elim h
end
inductive MJ where
 |int|bool|str|tuple|list
def MJ.name:MJ->String
 |.int=>"int"
 |.bool=>"bool"
 |.str=>"str"
 |.tuple=>"tuple"
 |.list=>"list"
def zU(t:MJ):Dat->Option Bool
 |.none=>some false
 |.int _=>some (match t with
  |.int=>true
  |_=>false)
 |.bool _=>some (match t with
  |.int=>true
  |.bool=>true
  |_=>false)
 |.str _=>some (match t with
  |.str=>true
  |_=>false)
 |.tuple _=>some (match t with
  |.tuple=>true
  |_=>false)
 |.list _=>some (match t with
  |.list=>true
  |_=>false)
 |.dict _=>none
def yc(t:MJ)(d:Dat):Out Dat:=match zU t d with
 |some b=>.ok (.bool b)
 |none=>.bad
def ais:Dat->String
 |.none=>"NoneType"
 |.int _=>"int"
 |.bool _=>"bool"
 |.str _=>"str"
 |.tuple _=>"tuple"
 |.list _=>"list"
 |.dict _=>"dict"
theorem aje{K:ap9}{H:Hp}{a:Addr}{xs:List V}(h:SqL K H a xs):TyX K H (.ref a) (.type "list"):=by
 rcases h with(h|⟨o,h⟩)|⟨o,its,n,h1,h2,_⟩
 ·exact .base (.lst h)
 ·exact .base (.frz h)
 ·exact .kList h1 h2
theorem ajV{K:ap9}{H:Hp}{a:Addr}{xs:List V}(h:SqT K H a xs):TyX K H (.ref a) (.type "tuple"):=by
 rcases h with(h|⟨o,h⟩)|⟨o,its,n,h1,h2,_⟩
 ·exact .base (.tup h)
 ·exact .fTuple h
 ·exact .kTuple h1 h2
theorem alj{K:ap9}{g:Gh}{H:Hp}{x:V}{d:Dat}(h:dU K g H x d)(hd:∀kv,d≠.dict kv):TyX K H x (.type (ais d)):=by
 cases d with
 |none=>cases Em h;exact .base .non
 |bool b=>cases CQ h;exact .base (.bl _)
 |int b=>cases cC h;exact .base (.int _)
 |str b=>cases jH h;exact .base (.str _)
 |list b=>obtain⟨a,us,rfl,h1,_⟩:=iV h;exact aje h1
 |tuple b=>obtain⟨a,us,rfl,h1,_⟩:=kZ h;exact ajV h1
 |dict kv=>exact absurd rfl (hd kv)
theorem ZX{K:ap9}:PySem.W.kitOne K (.type "int") (.type "int")=some true:=kit_ty (by decide +kernel)
theorem Zf{K:ap9}:PySem.W.kitOne K (.type "int") (.type "bool")=some false:=kit_ty (by decide +kernel)
theorem ZL{K:ap9}:PySem.W.kitOne K (.type "int") (.type "str")=some false:=kit_ty (by decide +kernel)
theorem VJ{K:ap9}:PySem.W.kitOne K (.type "int") (.type "tuple")=some false:=kit_ty (by decide +kernel)
theorem Zi{K:ap9}:PySem.W.kitOne K (.type "int") (.type "list")=some false:=kit_ty (by decide +kernel)
theorem Zb{K:ap9}:PySem.W.kitOne K (.type "bool") (.type "int")=some true:=kit_ty (by decide +kernel)
theorem Wf{K:ap9}:PySem.W.kitOne K (.type "bool") (.type "bool")=some true:=kit_ty (by decide +kernel)
theorem Y9{K:ap9}:PySem.W.kitOne K (.type "bool") (.type "str")=some false:=kit_ty (by decide +kernel)
theorem RD{K:ap9}:PySem.W.kitOne K (.type "bool") (.type "tuple")=some false:=kit_ty (by decide +kernel)
theorem VP{K:ap9}:PySem.W.kitOne K (.type "bool") (.type "list")=some false:=kit_ty (by decide +kernel)
theorem ZF{K:ap9}:PySem.W.kitOne K (.type "str") (.type "int")=some false:=kit_ty (by decide +kernel)
theorem Xu{K:ap9}:PySem.W.kitOne K (.type "str") (.type "bool")=some false:=kit_ty (by decide +kernel)
theorem Zw{K:ap9}:PySem.W.kitOne K (.type "str") (.type "str")=some true:=kit_ty (by decide +kernel)
theorem V2{K:ap9}:PySem.W.kitOne K (.type "str") (.type "tuple")=some false:=kit_ty (by decide +kernel)
theorem Y5{K:ap9}:PySem.W.kitOne K (.type "str") (.type "list")=some false:=kit_ty (by decide +kernel)
theorem Wg{K:ap9}:PySem.W.kitOne K (.type "tuple") (.type "int")=some false:=kit_ty (by decide +kernel)
theorem R7{K:ap9}:PySem.W.kitOne K (.type "tuple") (.type "bool")=some false:=kit_ty (by decide +kernel)
theorem V6{K:ap9}:PySem.W.kitOne K (.type "tuple") (.type "str")=some false:=kit_ty (by decide +kernel)
theorem Qq{K:ap9}:PySem.W.kitOne K (.type "tuple") (.type "tuple")=some true:=kit_ty (by decide +kernel)
theorem Rp{K:ap9}:PySem.W.kitOne K (.type "tuple") (.type "list")=some false:=kit_ty (by decide +kernel)
theorem WM{K:ap9}:PySem.W.kitOne K (.type "list") (.type "int")=some false:=kit_ty (by decide +kernel)
theorem Wb{K:ap9}:PySem.W.kitOne K (.type "list") (.type "bool")=some false:=kit_ty (by decide +kernel)
theorem Xh{K:ap9}:PySem.W.kitOne K (.type "list") (.type "str")=some false:=kit_ty (by decide +kernel)
theorem Tp{K:ap9}:PySem.W.kitOne K (.type "list") (.type "tuple")=some false:=kit_ty (by decide +kernel)
theorem V5{K:ap9}:PySem.W.kitOne K (.type "list") (.type "list")=some true:=kit_ty (by decide +kernel)
theorem Ow{K:ap9}:PySem.W.kitOne K (.type "NoneType") (.type "int")=some false:=kit_ty (by decide +kernel)
theorem LK{K:ap9}:PySem.W.kitOne K (.type "NoneType") (.type "bool")=some false:=kit_ty (by decide +kernel)
theorem Oc{K:ap9}:PySem.W.kitOne K (.type "NoneType") (.type "str")=some false:=kit_ty (by decide +kernel)
theorem Kl{K:ap9}:PySem.W.kitOne K (.type "NoneType") (.type "tuple")=some false:=kit_ty (by decide +kernel)
theorem Mg{K:ap9}:PySem.W.kitOne K (.type "NoneType") (.type "list")=some false:=kit_ty (by decide +kernel)
theorem ahp{K:ap9}{t:MJ}{d:Dat}{b:Bool}(h:zU t d=some b):PySem.W.kitOne K (.type (ais d)) (.type t.name)=some b/\∀kv,d≠.dict kv:=by
 cases d with
 |dict kv=>cases h
 |none=>
  refine⟨?_,fun _ z=>nomatch z⟩
  cases t <;> cases h
  ·exact Ow
  ·exact LK
  ·exact Oc
  ·exact Kl
  ·exact Mg
 |bool x=>
  refine⟨?_,fun _ z=>nomatch z⟩
  cases t <;> cases h
  ·exact Zb
  ·exact Wf
  ·exact Y9
  ·exact RD
  ·exact VP
 |int x=>
  refine⟨?_,fun _ z=>nomatch z⟩
  cases t <;> cases h
  ·exact ZX
  ·exact Zf
  ·exact ZL
  ·exact VJ
  ·exact Zi
 |str x=>
  refine⟨?_,fun _ z=>nomatch z⟩
  cases t <;> cases h
  ·exact ZF
  ·exact Xu
  ·exact Zw
  ·exact V2
  ·exact Y5
 |list x=>
  refine⟨?_,fun _ z=>nomatch z⟩
  cases t <;> cases h
  ·exact WM
  ·exact Wb
  ·exact Xh
  ·exact Tp
  ·exact V5
 |tuple x=>
  refine⟨?_,fun _ z=>nomatch z⟩
  cases t <;> cases h
  ·exact Wg
  ·exact R7
  ·exact V6
  ·exact Qq
  ·exact Rp
def vR(t:MJ)(a:QF):QF:=eU (yc t) a
section
variable{X:Cx}{aj:aO}{W:WX}{a b:Expr}{fa:QF}{pos p p2:Pos}{x y:Str}
theorem ajr{t:MJ}(hg:Gl X x)(hm:X.mg x=none)(hv:BV (.builtin "isinstance") x)(hg2:Gl X y)(hm2:X.mg y=none)(hv2:BV (.type t.name) y)(ha:QW aj X W a fa)(hs:nst a=true):QE aj X W (.Call (.Name x p) [a,.Name y p2] [] pos) (vR t fa):=by
 have hb:PE X (.Name y p2) (tC (.ty t.name)):=pe_bltn hg2 hm2 hv2.1 rfl hv2.2.1 hv2.2.2
 have h1:=pa_cons ha (pa_cons hb pa_nil (cO (a:=.Name y p2) rfl [])) (cO hs [.Name y p2])
 have key:=pe_callB (pos:=pos) (p:=p) call_isi hg hm hv.1 h1 hv.2.1 hv.2.2 (cO hs [.Name y p2]) (star_any [.Name y p2] rfl)
 refine PE.weak key fun σ H Q ⟨g,ρ,M,I,h⟩=>?_
 refine tW.go I h.bnd fun d v H1 h1 e1 r1=>?_
 unfold yc at h1
 split at h1
 ·next bb e=>
  obtain⟨k1,k2⟩:=ahp (K:=X.K) e
  exact⟨v,_,_,_,bb,rfl,.ty _,alj r1 k2,k1,h1 _ H1 e1 (.bl _)⟩
 ·exact False.elim h1
end
inductive Src where
 |lst (a:Addr)|tup (a:Addr)|str (x:Str)
def chars(x:Str):List V:=x.cps.toList.map fun c=>V.str ⟨#[c]⟩
def Src.sq(K:ap9)(H:Hp)(us:List V):Src->Prop
 |.lst a=>SqL K H a us
 |.tup a=>SqT K H a us
 |.str x=>us=chars x
def Src.it(h:Heap)(i:Addr)(n:Nat):Src->Prop
 |.lst a=>h.IsListIter i a n
 |.tup a=>h.IsTupleIter i a n
 |.str x=>∃t,h.IsStrIter i (strIterType x) x t n
def Src.ad:Src->List Addr
 |.lst a=>[a]
 |.tup a=>[a]
 |.str _=>[]
section
variable{X:Cx}{pins:List (Addr×Obj)}{σ:L2.St}{H:Hp}{s:Shared}
theorem Src.inj{S:Src}{us ws:List V}(I:L2.Inv X pins σ H s)(h:S.sq X.K H us)(h':S.sq X.K H ws):us=ws:=by
 cases S with
 |lst a=>exact I.list_inj h h'
 |tup a=>exact I.tuple_inj h h'
 |str x=>exact Eq.trans h (Eq.symm h')
theorem Src.draws{S:Src}{us:List V}{i:Addr}{n:Nat}(I:L2.Inv X pins σ H s)(hA:X.A.handled=none)(hs:S.sq X.K H us)(hi:S.it s.heap i n)(hne:∀a∈S.ad,a≠i) :
  ∃(P:Nat->Value->Prop) (St:Nat->Heap->Prop),Draws X.prog X.w X.A.in1 i (i::S.ad) us.length P St/\St n s.heap/\(∀m h,St m h->S.it h i m)/\∀(m:Nat) (v:Value) (x:V),P m v->us[m]?=some x->RelV x v:=by
 cases S with
 |lst a=>
  obtain⟨its,rv,p,hz⟩:=I.list hs
  have hl:=rv.length
  have D:=Draws.list (prog:=X.prog) (w:=X.w) (A:=X.A.in1) hA i a (hne a (by simp[Src.ad])) its.toArray
  rw[arh,←hl]at D
  refine⟨_,_,D,⟨hi,p.isList⟩,fun m h z=>z.1,fun m v x hv hx=>?_⟩
  obtain⟨u,hu,ru⟩:=rv.get hx
  have:v=u:=aqv (hv.symm.trans (by simpa using hu))
  rw[this]
  exact ru
 |tup a=>
  obtain⟨its,rv,p,hz⟩:=I.tuple hs
  have hl:=rv.length
  have D:=Draws.tuple (prog:=X.prog) (w:=X.w) (A:=X.A.in1) hA i a (hne a (by simp[Src.ad])) its.toArray
  rw[arh,←hl]at D
  refine⟨_,_,D,⟨hi,p⟩,fun m h z=>z.1,fun m v x hv hx=>?_⟩
  obtain⟨u,hu,ru⟩:=rv.get hx
  have:v=u:=aqv (hv.symm.trans (by simpa using hu))
  rw[this]
  exact ru
 |str x=>
  obtain⟨t,hi⟩:=hi
  have hl:us.length=x.cps.size:=by
   rw[show us=chars x from hs]
   unfold chars
   rw[aqj,aqJ]
  have D:=Draws.text (prog:=X.prog) (w:=X.w) (A:=X.A.in1) hA i x t
  rw[←hl]at D
  refine⟨_,_,D,hi,fun m h z=>⟨t,z⟩,fun m v y hv hy=>?_⟩
  obtain⟨c,u,hc,rfl⟩:=hv
  rw[show us=chars x from hs]at hy
  unfold chars at hy
  rw[aqm,aqN,hc]at hy
  cases hy
  exact⟨u,rfl⟩
theorem Src.Ly{S:Src}{h:Heap}{i:Addr}{n:Nat}(hi:S.it h i n):∃o,h.get? i=some o/\∀v,o.data≠.cell v:=by
 cases S with
 |lst a=>obtain⟨o,e,_,d⟩:=hi;exact⟨o,e,fun v q=>by rw[d]at q;cases q⟩
 |tup a=>obtain⟨o,e,_,d⟩:=hi;exact⟨o,e,fun v q=>by rw[d]at q;cases q⟩
 |str x=>obtain⟨t,o,e,_,d⟩:=hi;exact⟨o,e,fun v q=>by rw[d]at q;cases q⟩
theorem Src.Lf{S:Src}{h h':Heap}{i:Addr}{n:Nat}(hi:S.it h i n)(k:∀o,h.get? i=some o->h'.get? i=some o):S.it h' i n:=by
 cases S with
 |lst a=>exact hi.at k
 |tup a=>exact hi.at k
 |str x=>obtain⟨t,o,e,r⟩:=hi;exact⟨t,o,k o e,r⟩
end
def ItE(K:ap9)(S:Src)(k₀:Int):It:=
 ⟨fun i H=>∃(us:List V) (x:V),S.sq K H us/\us[i]?=some x,fun i H v H'=>∃T x,v=.ref T/\H T=none/\H'=upd H T (.tup [.int (k₀+(i:Int)),x])/\∀us,S.sq K H us->us[i]?=some x,fun i H=>∃us:List V,S.sq K H us/\us.length=i⟩
theorem ak7{P:Program}{w:World}{K:ap9}{elts:List Expr}{kk:Nat}{tpos:Pos}(S:Src)(e i0:Addr)(k₀:Int)(hne:e≠i0)(ha:∀a∈S.ad,e≠a/\a≠i0) :
  Turn P w K (.Tuple elts kk tpos) (ItE K S k₀) [e,i0] e (fun i h=>(∃old,IsEnum h e i0 (k₀+(i:Int)) old)/\S.it h i0 i) where
 mem:=by simp
 obj:=fun i h st b hb=>by
  obtain⟨⟨old,he⟩,hi⟩:=st
  have e':b=e∨b=i0:=by simpa using hb
  rcases e' with z|z
  ·rw[z];exact⟨_,he,fun v q=>nomatch q⟩
  ·rw[z];exact Src.Ly hi
 keep:=fun i h h' st k=>let ⟨⟨old,he⟩,hi⟩:=st;⟨⟨old,k e (by simp) _ he⟩,Src.Lf hi fun o q=>k i0 (by simp) o q⟩
 item:=by
  intro X hP hw hK hc i pins s σ H E I hf st hg
  subst hP hw hK
  obtain⟨⟨old,he⟩,hit⟩:=st
  obtain⟨us,x,hq,hx⟩:=hg
  obtain⟨PP,St,D,st0,stI,rel⟩:=Src.draws I (I.ok.hd hc) hq hit fun a z=>(ha a z).2
  have hel:e < s.heap.objs.size:=Heap.lt_size he
  have hil:i0 < s.heap.objs.size:=by obtain⟨_,q,_⟩:=Src.Ly hit;exact Heap.lt_size q
  have hin:i < us.length:=(aqb.mp hx).1
  refine wpAny_pyNext_enum_itemC D he st0 hin hne (fun z=>?_) fun v h' tk hP ho hst' hT hsz hk=>?_
  ·rcases aqp.mp z with z|z
   ·exact hne z
   ·exact(ha e z).1 rfl
  have ru:=rel i v x hP hx
  refine⟨_,rfl,wpAny_letOwnedTupleGo_enum (s:={ s with heap:=h',toks:=tk+1 }) ho fun h'' he' sb=>?_⟩
  have hT2:h''.get? s.heap.objs.size=some { cls:=.type "tuple",data:=.seq #[.int (k₀+(i:Int)) tk,v] }:=(sb.2 _ (Nat.ne_of_gt hel)).trans hT
  have new:ObjOk X.prog X.w (upd H s.heap.objs.size (.tup [.int (k₀+(i:Int)),x])) h'' s.heap.objs.size (.tup [.int (k₀+(i:Int)),x]):=
   ⟨by show 2<=sizeLine;decide,[.int (k₀+(i:Int)) tk,v],.cons ⟨_,rfl⟩ (.cons ru .nil),⟨_,hT2,rfl,_,rfl⟩⟩
  have I1:L2.Inv X pins σ (upd H s.heap.objs.size (.tup [.int (k₀+(i:Int)),x])) { s with heap:=h'',toks:=tk+1 }:=
   I.turnedNew (ch:=[e,i0]) (fun b ob hb q=>(sb.2 b (fun z=>hb (by simp[z]))).trans (hk b ob (fun z=>hb (by simp[z])) (fun z=>hb (by simp[z])) q)) hf (aqz _) new
  refine⟨.ref s.heap.objs.size,_,I1,rfl,⟨_,x,rfl,I.hok.fresh (aqz _),rfl,fun ys hy=>by rw[Src.inj I hy hq];exact hx⟩,⟨⟨v,?_⟩,Src.Lf (stI _ _ hst') fun o q=>(sb.2 i0 (Ne.symm hne)).trans q⟩,fun b hb=>?_⟩
  ·have e1:k₀+((i+1:Nat):Int)=k₀+(i:Int)+1:=by omega
   rw[e1];exact he'
  ·have hb':b < s.heap.objs.size:=by
    have e':b=e∨b=i0:=by simpa using hb
    rcases e' with z|z
    ·rw[z];exact hel
    ·rw[z];exact hil
   rw[upd_ne (aqG hb')]
   exact(hf b hb).1
 done:=by
  intro X hP hw hK hc i pins s σ H E I hf st hg
  subst hP hw hK
  obtain⟨⟨old,he⟩,hit⟩:=st
  obtain⟨us,hq,hx⟩:=hg
  obtain⟨PP,St,D,st0,stI,rel⟩:=Src.draws I (I.ok.hd hc) hq hit fun a z=>(ha a z).2
  obtain⟨f0,f1,f2,f3,f4,f5⟩:=hf i0 (by simp)
  rw[←hx]at st0
  exact wpAny_pyNext_enum_endD D he st0 fun h' eb=>⟨rfl,I.turned (t':=s.toks) (fun b o hb q=>eb b o hb q) f0 f1 f3 f4 f5⟩
 self:=fun A i s Q E st h=>let ⟨⟨_,he⟩,_⟩:=st;wpAny_pyIter_enum he h
theorem Src.begins{X:Cx}{pins:List (Addr×Obj)}{σ:L2.St}{H:Hp}{s:Shared}{S:Src}{us:List V}{x:V}{v:Value}(I:L2.Inv X pins σ H s)(hs:S.sq X.K H us)(hx:(∃a,x=.ref a/\S.ad=[a]/\(S=.lst a∨S=.tup a))∨∃y,S=.str y/\x=.str y)(r:RelV x v) :
  ∃(o:Obj) (B:Heap->Prop),Begins v o B/\B s.heap/\(∀h i,h.get? i=some o->S.it h i 0)/\∀a∈S.ad,a < s.heap.objs.size:=by
 rcases hx with⟨a,rfl,ha,h|h⟩|⟨y,h,rfl⟩
 ·subst h
  cases r
  obtain⟨its,rv,p,_⟩:=I.list hs
  obtain⟨o1,ho1,_⟩:=id p.isList
  refine⟨_,_,begins_list a its.toArray,p.isList,fun h i e=>⟨_,e,rfl,rfl⟩,fun b hb=>?_⟩
  rw[ha]at hb
  rw[aqg.mp hb]
  exact Heap.lt_size ho1
 ·subst h
  cases r
  obtain⟨its,rv,p,_⟩:=I.tuple hs
  obtain⟨o1,ho1,_⟩:=id p
  refine⟨_,_,begins_tuple a its.toArray,p,fun h i e=>⟨_,e,rfl,rfl⟩,fun b hb=>?_⟩
  rw[ha]at hb
  rw[aqg.mp hb]
  exact Heap.lt_size ho1
 ·subst h
  obtain⟨t,rfl⟩:=r
  exact⟨_,_,begins_text y t,trivial,fun h i e=>⟨t,_,e,rfl,rfl⟩,fun b hb=>nomatch hb⟩
def srcOf(x:V)(S:Src):Prop:=(∃a,x=.ref a/\S.ad=[a]/\(S=.lst a∨S=.tup a))∨∃y,S=.str y/\x=.str y
def iEn(K:ap9)(ta:TA)(k₀:Int):TI:=fun σ H R=>ta σ H fun vs H1=>∃x S us,vs=[x]/\srcOf x S/\S.sq K H1 us/\R (ItE K S k₀) H1
section
variable{X:Cx}{a b:Expr}{ta tb:TA}{p pos tpos:Pos}{elts:List Expr}{kk:Nat}
theorem ahQ{pins:List (Addr×Obj)}{σ:L2.St}{H:Hp}{s:Shared}(I:L2.Inv X pins σ H s):∀b∈[s.heap.objs.size+1,s.heap.objs.size],FpOk X pins H b:=fun b hb=>by
 have e':b=s.heap.objs.size+1∨b=s.heap.objs.size:=by simpa using hb
 have hle:s.heap.objs.size<=b:=by
  rcases e' with z|z
  ·rw[z];exact Nat.le_add_right _ _
  ·rw[z];exact aqz _
 exact I.fpOk hle (I.hok.fresh hle)
theorem afw{pins:List (Addr×Obj)}{σ:L2.St}{H:Hp}{s:Shared}{S:Src}{us:List V}{x:V}{v:Value}{o:Obj}{k₀:Int}{R:It->Hp->Prop}{h':Heap}(I:L2.Inv X pins σ H s)(hlt:∀a∈S.ad,a < s.heap.objs.size)(hit:∀h i,h.get? i=some o->S.it h i 0)
  (he:IsEnum h' (s.heap.objs.size+1) s.heap.objs.size k₀ .none) (ho:h'.get? s.heap.objs.size=some o) (hk:∀b o,s.heap.get? b=some o->h'.get? b=some o) (q:R (ItE X.K S k₀) H) :
  wpAny (model X.prog X.w) X.A (pyIter (.ref (s.heap.objs.size+1))) (PIE X pins σ (.Tuple elts kk tpos) R) X.xe { s with heap:=h' }:=by
 refine wpAny_pyIter_enum he ?_
 have I2:L2.Inv X pins σ H { s with heap:=h' }:=I.kept (t':=s.toks) hk
 refine⟨s.heap.objs.size+1,[s.heap.objs.size+1,s.heap.objs.size],_,_,H,rfl,I2,ak7 S (s.heap.objs.size+1) s.heap.objs.size k₀ (Nat.succ_ne_self _) (fun a z=>?_),⟨⟨.none,?_⟩,hit _ _ ho⟩,ahQ I,q⟩
 ·have:=hlt a z
  exact⟨Nat.ne_of_gt (aq5 this),aqG this⟩
 ·rw[show k₀+((0:Nat):Int)=k₀ by simp]
  exact he
theorem aeA{v:Value}{o:Obj}{B:Heap->Prop}(hB:Begins v o B) :
  Meets (Builtin.«enumerate.__new__» ⟨[.type "enumerate",v],[]⟩) (fun _ R s=>B s.heap/\
   R (.ok (.ret (.ref (s.heap.push o).objs.size))) { s with heap:=(s.heap.push o).push { cls:=.type "enumerate",data:=.fields #[.none,.bool false,.ref s.heap.objs.size,rawInt 0,.none,.none] } }):=
 .of_wp fun prog w A R s hh=>by
  obtain⟨hp,gs,dr,tk,os⟩:=s
  obtain⟨hb,hr⟩:=hh
  have hsub:=sub_enumerate
  have qi:∀{A':Around} {E:Value->Shared->Prop} {Q:Value->Shared->Prop},Q (.ref hp.objs.size) ⟨hp.push o,gs,dr,tk,os⟩->wpAny (model prog w) A' (pyIter v) Q E ⟨hp,gs,dr,tk,os⟩:=fun z=>hB.iter prog w _ _ ⟨hp,gs,dr,tk,os⟩ _ hb z
  wp_walk using qi
  refine wpAny_stack_any fun st=>wpAny_pure ?_
  split
  ·next c _ _ _ _ _=>
   cases(c==Value.type "enumerate") <;> (wp_walk using qi;exact⟨_,rfl,hr⟩)
  ·wp_walk using qi
   exact⟨_,rfl,hr⟩
theorem ac3{prog:Program}{w:World}{A:Around}{E:Value->Shared->Prop}{s:Shared}{v:Value}{o:Obj}{B:Heap->Prop}{Q:Value->Shared->Prop}(hB:Begins v o B)(hb:B s.heap)
  (h:∀h',IsEnum h' (s.heap.objs.size+1) s.heap.objs.size 0 .none->h'.get? s.heap.objs.size=some o->(∀b o,s.heap.get? b=some o->h'.get? b=some o)->Q (.ref (s.heap.objs.size+1)) { s with heap:=h' }) :
  wpAny (model prog w) A (call (.type "enumerate") [v]) Q E s:=by
 refine callType_new F.called_enumerate (by decide) (F.typeCall_enumerate_1 _) (F.newCall_enumerate_1 _) (fun ob=>F.args_object_init_2 ob _) F.entry_enumerate_new (aeA hB) ⟨hb,?_⟩
 have hz:(s.heap.push o).objs.size=s.heap.objs.size+1:=Heap.size_push ..
 have he:=Heap.get?_push_size (s.heap.push o) (o:={ cls:=.type "enumerate",data:=.fields #[.none,.bool false,.ref s.heap.objs.size,rawInt 0,.none,.none] }) rfl
 show _/\_
 rw[hz]at he ⊢
 exact⟨⟨_,he,rfl⟩,h _ he (Heap.get?_push_of_some _ (Heap.get?_push_size _ hB.free)) fun b u z=>Heap.get?_push_of_some _ (Heap.get?_push_of_some _ z)⟩
theorem akv(hg:Gl X "enumerate")(hm:X.mg "enumerate"=none)(ha:PA X [a] ta)(hs:nst a=true):PI X (.Tuple elts kk tpos) (.Call (.Name "enumerate" p) [a] [] pos) (iEn X.K ta 0):=by
 refine⟨fun pins s σ H R I h=>?_⟩
 refine Call_ (ld_blt I hg hm boot_enumerate (PyProof.Rows.callWith_type1 (thn (ha.run pos pins s σ H _ I h) fun us s1 ⟨vs,H1,I1,r1,x,S,us',ev,hx,hq,q⟩=>?_) (cO hs []) (by with_unfolding_all rfl)))
 subst ev
 obtain⟨v,rfl,r⟩:=vals1 r1
 obtain⟨o,B,hB,hb,hit,hlt⟩:=Src.begins I1 hq hx r
 exact ac3 hB hb fun h' he ho hk=>afw (x:=x) (v:=v) (us:=us') I1 hlt hit he ho hk q
theorem adD{M:Model}{A:Around}{E:Value->Shared->Prop}{s:Shared}{pos:Pos}{T:String}{args:List (Bool×Sem Value)}{kws:List (Option Str×Sem Value)}{Q:Value->Shared->Prop}(h1:args.any (·.1)=false)(h2:kws.any (·.1.isNone)=false)
  (h:wpAny M A (evalArgs (.type T) true args kws) (fun z s₁=>wpAny M A (call (.type T) z.pos z.kw) Q E s₁) E s):wpAny M A (callWith pos (.type T) [] args kws) Q E s:=by
 unfold callWith
 refine wpAny_bind (wpAny_holding (wpAny_mono h (fun z s₁ hz=>wpAny_bind (wpAny_standAt ?_)) fun _ _ y=>y))
 rw[h1,h2]
 refine wpAny_bind (wpAny_pure ?_)
 exact wpAny_bind (wpAny_mono hz (fun r s₂ hr=>wpAny_bind (wpAny_holding (wpAny_point (wpAny_pure hr)))) fun _ _ y=>y)
theorem ait{k₀:Int}{j:Nat}{kp kp2:Pos}(hk0 : -(2 ^ 63)<=k₀)(hk1:k₀ < 2 ^ 63)(hg:Gl X "enumerate")(hm:X.mg "enumerate"=none)(ha:PA X [a] ta)(hs:nst a=true) :
  PI X (.Tuple elts kk tpos) (.Call (.Name "enumerate" p) [a] [⟨some "start",.Constant (.int k₀) j kp,kp2⟩] pos) (iEn X.K ta k₀):=by
 refine⟨fun pins s σ H R I h=>?_⟩
 have hpk:PK X [⟨some "start",.Constant (.int k₀) j kp,kp2⟩] (tCons (tC (.int k₀)) tNil):=pk_cons pe_int pk_nil
 refine wpAny_Call_Name_kw (ld_blt I hg hm boot_enumerate (adD (star_any [a] (by simp[hs])) (by with_unfolding_all rfl) ?_))
 refine PyProof.Rows.evalArgs_kw2 (by with_unfolding_all rfl) (thn (ha.run pos pins s σ H _ I h) fun us s1 ⟨vs,H1,I1,r1,x,S,us',ev,hx,hq,q⟩=>?_) (by first | (rw[cO hs];done) | (rw[cO hs];rfl) | rw[cO hs])
 refine thn (hpk.run pos pins s1 σ H1 (fun zs H2=>zs=[.int k₀]/\H2=H1) I1 ⟨rfl,rfl⟩) fun ws s2 ⟨zs,H2,I2,r2,e1,e2⟩=>?_
 subst ev e1 e2
 obtain⟨v,rfl,r⟩:=vals1 r1
 obtain⟨w,rfl,t,rfl⟩:=vals1 r2
 obtain⟨o,B,hB,hb,hit,hlt⟩:=Src.begins I2 hq hx r
 exact enum_begins_start hB hb hk0 hk1 fun h' he ho _ hk=>afw (x:=x) (v:=v) (us:=us') I2 hlt hit he ho hk q
def ItZ(K:ap9)(S T:Src):It:=
 ⟨fun i H=>∃(us ws:List V) (x y:V),S.sq K H us/\T.sq K H ws/\us[i]?=some x/\ws[i]?=some y,fun i H v H'=>∃U x y,v=.ref U/\H U=none/\H'=upd H U (.tup [x,y])/\(∀us,S.sq K H us->us[i]?=some x)/\∀ws,T.sq K H ws->ws[i]?=some y,
  fun i H=>∃us ws:List V,S.sq K H us/\T.sq K H ws/\i=min us.length ws.length⟩
theorem akm{P:Program}{w:World}{K:ap9}{S T:Src}{N:Addr}(h1:∀a∈S.ad,a < N)(h2:∀a∈T.ad,a < N) :
  Turn P w K (.Tuple elts kk tpos) (ItZ K S T) [N+4,N+2,N+3,N,N+1] (N+4) (fun n h=>IsZip h (N+4) (N+2) (N+3) .none/\IsPair h (N+2) (.ref N) (.ref (N+1))/\(∃x y,IsPair h (N+3) x y)/\S.it h N n/\T.it h (N+1) n) where
 mem:=by simp
 obj:=fun n h q c hc=>by
  obtain⟨gz,gI,⟨x,y,gO⟩,i1,i2⟩:=q
  simp only[aqp,aqI,or_false]at hc
  rcases hc with rfl|rfl|rfl|rfl|rfl
  ·exact⟨_,gz,fun v q=>nomatch q⟩
  ·exact⟨_,gI,fun v q=>nomatch q⟩
  ·exact⟨_,gO,fun v q=>nomatch q⟩
  ·exact Src.Ly i1
  ·exact Src.Ly i2
 keep:=fun n h h' q k=>by
  obtain⟨gz,gI,⟨x,y,gO⟩,i1,i2⟩:=q
  exact⟨k _ (by simp) _ gz,k _ (by simp) _ gI,⟨x,y,k _ (by simp) _ gO⟩,Src.Lf i1 fun o e=>k _ (by simp) o e,Src.Lf i2 fun o e=>k _ (by simp) o e⟩
 item:=by
  intro X hP hw hK hc n pins s σ H E I hf q hg
  subst hP hw hK
  obtain⟨gz,gI,⟨x0,y0,gO⟩,i1,i2⟩:=q
  obtain⟨us,ws,x,y,qx,qy,hx,hy⟩:=hg
  obtain⟨P1,St1,D1,st1,b1,rel1⟩:=Src.draws I (I.ok.hd hc) qx i1 fun a z=>aqG (h1 a z)
  obtain⟨P2,St2,D2,st2,b2,rel2⟩:=Src.draws I (I.ok.hd hc) qy i2 fun a z=>aqG (aq5 (h2 a z))
  have hzl:N+4 < s.heap.objs.size:=Heap.lt_size gz
  refine wpAny_pyNext_zipD2_item (zip_sep2 h1 h2) D1 D2 gz gI gO st1 st2 (aqb.mp hx).1 (aqb.mp hy).1 fun v1 v2 h' tk p1 p2 z' o' s1 s2 hT hsz hk=>?_
  refine⟨_,rfl,wpAny_letOwnedTupleGo_zip (s:={ s with heap:=h',toks:=tk }) z' fun h'' z'' sb=>?_⟩
  have hT2:=(sb.2 _ (Nat.ne_of_gt hzl)).trans hT
  have new:ObjOk X.prog X.w (upd H s.heap.objs.size (.tup [x,y])) h'' s.heap.objs.size (.tup [x,y]):=⟨by show 2<=sizeLine;decide,[v1,v2],.cons (rel1 n v1 x p1 hx) (.cons (rel2 n v2 y p2 hy) .nil),⟨_,hT2,rfl,_,rfl⟩⟩
  have I1:L2.Inv X pins σ (upd H s.heap.objs.size (.tup [x,y])) { s with heap:=h'',toks:=tk }:=by
   refine I.turnedNew (t':=tk) (ch:=[N+4,N+2,N+3,N,N+1]) (fun c o hb e=>?_) hf (aqz _) new
   simp only[aqp,aqI,or_false,not_or]at hb
   exact(sb.2 c hb.1).trans (hk c o hb.1 hb.2.2.1 hb.2.2.2.1 hb.2.2.2.2 e)
  have ne4:∀k,k≠4->N+k≠N+4:=fun k hk z=>hk (arn z)
  refine⟨.ref s.heap.objs.size,_,I1,rfl,⟨_,x,y,rfl,I.hok.fresh (aqz _),rfl,fun l hl=>by rw[Src.inj I hl qx];exact hx,fun l hl=>by rw[Src.inj I hl qy];exact hy⟩,⟨z'',?_,⟨v1,v2,?_⟩,?_,?_⟩,fun c hcm=>?_⟩
  ·exact(sb.2 _ (ne4 2 (by decide))).trans (hk _ _ (ne4 2 (by decide)) (fun z=>absurd (arn z) (by decide)) (fun z=>absurd (arn (z.trans (Nat.add_zero N).symm)) (by decide)) (fun z=>absurd (arn z) (by decide)) gI)
  ·exact(sb.2 _ (ne4 3 (by decide))).trans o'
  ·exact Src.Lf (b1 _ _ s1) fun o e=>(sb.2 _ (ne4 0 (by decide))).trans e
  ·exact Src.Lf (b2 _ _ s2) fun o e=>(sb.2 _ (ne4 1 (by decide))).trans e
  ·have hlt:c < s.heap.objs.size:=by
    simp only[aqp,aqI,or_false]at hcm
    rcases hcm with rfl|rfl|rfl|rfl|rfl
    ·exact hzl
    ·exact Heap.lt_size gI
    ·exact Heap.lt_size gO
    ·obtain⟨_,e1,_⟩:=Src.Ly i1
     exact Heap.lt_size e1
    ·obtain⟨_,e2,_⟩:=Src.Ly i2
     exact Heap.lt_size e2
   rw[upd_ne (aqG hlt)]
   exact(hf c hcm).1
 done:=by
  intro X hP hw hK hc n pins s σ H E I hf q hg
  subst hP hw hK
  obtain⟨gz,gI,⟨x0,y0,gO⟩,i1,i2⟩:=q
  obtain⟨us,ws,qx,qy,hn⟩:=hg
  obtain⟨P1,St1,D1,st1,b1,rel1⟩:=Src.draws I (I.ok.hd hc) qx i1 fun a z=>aqG (h1 a z)
  obtain⟨P2,St2,D2,st2,b2,rel2⟩:=Src.draws I (I.ok.hd hc) qy i2 fun a z=>aqG (aq5 (h2 a z))
  refine wpAny_pyNext_zipD2_end (zip_sep2 h1 h2) D1 D2 gz gI gO st1 st2 (by omega) (by omega) (by omega) fun h' tk hk=>⟨rfl,?_⟩
  refine I.turnedL (t':=tk) (ch:=[N+4,N+2,N+3,N,N+1]) (fun c o hb e=>?_) hf
  simp only[aqp,aqI,or_false,not_or]at hb
  exact hk c o hb.1 hb.2.2.1 hb.2.2.2.1 hb.2.2.2.2 e
 self:=fun A n s Q E q h=>wpAny_pyIter_zip q.1 h
def iZp(K:ap9)(ta:TA):TI:=fun σ H R=>ta σ H fun vs H1=>∃x y S T us ws,vs=[x,y]/\srcOf x S/\srcOf y T/\S.sq K H1 us/\T.sq K H1 ws/\R (ItZ K S T) H1
theorem akV(hg:Gl X "zip")(hm:X.mg "zip"=none)(ha:PA X [a,b] ta)(hs:nst a=true)(hs2:nst b=true):PI X (.Tuple elts kk tpos) (.Call (.Name "zip" p) [a,b] [] pos) (iZp X.K ta):=by
 refine⟨fun pins s σ H R I h=>?_⟩
 refine Call_ (ld_blt I hg hm PyProof.Rows.boot_zip (PyProof.Rows.callWith_type1 (thn (ha.run pos pins s σ H _ I h) fun us s1 ⟨vs,H1,I1,r1,x,y,S,T,us',ws',ev,hx,hy,hq,hq2,q⟩=>?_) (cO hs [b]) (star_any [b] (by simp[hs2]))))
 subst ev
 obtain⟨v1,v2,rfl,rv1,rv2⟩:=vals2 r1
 obtain⟨o1,B1,hB1,hb1,hit1,hlt1⟩:=Src.begins I1 hq hx rv1
 obtain⟨o2,B2,hB2,hb2,hit2,hlt2⟩:=Src.begins I1 hq2 hy rv2
 refine zip_begins2 hB1 hB2 hb1 hb2 fun h' hz hTI hTO e1 e2 hsz hk=>wpAny_pyIter_zip hz ?_
 have I2:L2.Inv X pins σ H1 { s1 with heap:=h' }:=I1.kept (t':=s1.toks) hk
 refine⟨s1.heap.objs.size+4,_,_,_,H1,rfl,I2,akm hlt1 hlt2,⟨hz,hTI,⟨_,_,hTO⟩,hit1 _ _ e1,hit2 _ _ e2⟩,fun c hcm=>?_,q⟩
 have hle:s1.heap.objs.size<=c:=by
  simp only[aqp,aqI,or_false]at hcm
  rcases hcm with rfl | rfl | rfl | rfl | rfl <;> first | exact aqz _ | exact Nat.le_add_right _ _
 exact I1.fpOk hle (I1.hok.fresh hle)
end
section
variable{K:ap9}{aj:aO}{q:Bool}{g g':Gh}{H H':Hp}{v:V}{d:Dat}{σ:L2.St}{ρ:Env}{M:Mo}
theorem ji.up{l:Addr}:∀{n:Bool} {kvs:List (Dat×Dat)} (r:Gr true g g' H H') (e:Ex H H') (k:Kd g H) (h:ji K aj g H l n kvs),ji K aj g' H' l n kvs
 |false,_,r,e,k,⟨kv,h1,h2,h3⟩=>⟨kv,e _ _ h1,h2,h3.gr r k⟩
 |true,_,r,e,k,⟨o,xs,vs,h1,h2,h3,h4,h5,h6⟩=>⟨o,xs,vs,e _ _ h1,h2,h3,h4.gr r k,h5,h6.gr r k⟩
theorem dO.up{h:Nat}{f:Str}(r:Gr true g g' H H')(e:Ex H H')(k:Kd g H):∀{fl:iJ},dO K aj g H h f v fl->dO K aj g' H' h f v fl
 |.dat _,z=>Rep.gr r k z
 |.lst _ _,⟨l,us,h1,h2,h3,h4,h5⟩=>⟨l,us,h1,e _ _ h2,by rw[(r.qg rfl).2];exact h3,h4.gr r k,r.tb h5⟩
 |.dic _ _,⟨l,h1,h2,h3⟩=>⟨l,h1,by rw[(r.qg rfl).2];exact h2,h3.up r e k⟩
theorem cJ.up{h:Nat}(r:Gr true g g' H H')(e:Ex H H')(k:Kd g H):∀{fs:List (Str×V)} {gs:List (Str×iJ)},cJ K aj g H h fs gs->cJ K aj g' H' h fs gs
 |_,_,.nil=>.nil
 |_,_,.cons z t=>.cons (dO.up r e k z) (cJ.up r e k t)
theorem fM.up(r:Gr true g g' H H')(e:Ex H H')(k:Kd g H)(w:fM K aj g H M):fM K aj g' H' M where
 len:=by rw[(r.qg rfl).1];exact w.len
 inj:=by rw[(r.qg rfl).1];exact w.inj
 ins:=fun h a i ha hi hc=>by
  rw[(r.qg rfl).1]at ha
  obtain⟨C,dx,fs,c1,c2,c3⟩:=w.ins h a i ha hi hc
  exact⟨C,dx,fs,c1,e _ _ c2,c3.up r e k⟩
 nd:=w.nd
 fd:=w.fd
 tw:=by rw[(r.qg rfl).1,(r.qg rfl).2];exact w.tw
 dm:=w.dm
 nc:=w.nc
theorem SInv.up(r:Gr true g g' H H')(e:Ex H H')(k':Kd g' H')(I:SInv K aj σ H g ρ M):SInv K aj σ H' g' ρ M where
 kd:=k'
 wok:=I.wok.up r e I.kd
 len:=I.len
 dat:=fun i d h=>by
  obtain⟨v,h1,h2⟩:=I.dat i d h
  exact⟨v,h1,h2.gr r I.kd⟩
 own:=fun i xs h=>by
  obtain⟨l,us,h1,h2,h3,h4⟩:=I.own i xs h
  exact⟨l,us,h1,e _ _ h2,r.Lo l h3,h4.gr r I.kd⟩
 sep:=I.sep
def Gh.add(g:Gh)(D:Addr):Gh:={ g with Lo:=fun a=>g.Lo a∨a=D }
theorem Gh.Fb{D:Addr}(n:H D=none)(e:Ex H H'):Gr true g (g.add D) H H' where
 keep:=fun a o h _ _=>e a o h
 keepW:=fun _ a o h _=>e a o h
 dom:=Bu e
 tbl:=⟨[],by simp[Gh.add]⟩
 W:=fun _ h=>h
 nW:=fun _ h=>.inl h
 qg:=fun _=>⟨rfl,rfl⟩
 Lc:=rfl
 Lo:=fun _ h=>.inl h
 nLo:=fun a h=>h.elim .inl fun z=>.inr (by rw[z];exact n)
theorem Gh.ajp{D:Addr}{o:HO}(k:Kd g H)(n:H D=none)(e:Ex H H')(hD:H' D=some o)(m:Hw o):Kd (g.add D) H' where
 ob:=fun a z=>by
  rcases z with z|z|z|z
  ·obtain⟨o,h,m⟩:=k.ob a (.inl z);exact⟨o,e a o h,m⟩
  ·obtain⟨o,h,m⟩:=k.ob a (.inr (.inl z));exact⟨o,e a o h,m⟩
  ·obtain⟨o,h,m⟩:=k.ob a (.inr (.inr z));exact⟨o,e a o h,m⟩
  ·rw[z];exact⟨o,hD,m⟩
 lo:=fun a z=>by
  rcases z with z|z
  ·exact k.lo a z
  ·intro w
   subst z
   exact k.fresh n (.inl w)
 lc:=fun a z=>⟨(k.lc a z).1,fun y=>y.elim (k.lc a z).2 fun y=>by subst y;exact k.fresh n (.inr (.inl z))⟩
theorem SInv.add{D:Addr}{o:HO}(I:SInv K aj σ H g ρ M)(n:H D=none)(e:Ex H H')(hD:H' D=some o)(m:Hw o):SInv K aj σ H' (g.add D) ρ M:=
 I.up (Gh.Fb n e) e (Gh.ajp I.kd n e hD m)
theorem SInv.set{j:Nat}(I:SInv K aj σ H g ρ M)(r:Rep K g H v d):SInv K aj (σ.set j (some v)) H g (ρ.set j (some (.dat d))) M where
 kd:=I.kd
 wok:=I.wok
 len:=by rw[aqy,aqy];exact I.len
 dat:=fun i e h=>by
  by_cases z:j=i
  ·subst z
   have hj:j < ρ.length:=by
    have:=(aqb.mp h).1
    rw[aqy]at this
    exact this
   rw[aqr hj]at h
   cases h
   exact⟨v,by rw[aqr (by rw[I.len];exact hj)],r⟩
  ·rw[aqi z]at h
   obtain⟨u,h1,h2⟩:=I.dat i e h
   exact⟨u,by rw[aqi z];exact h1,h2⟩
 own:=fun i xs h=>by
  by_cases z:j=i
  ·subst z
   have hj:j < ρ.length:=by
    have:=(aqb.mp h).1
    rw[aqy]at this
    exact this
   rw[aqr hj]at h
   cases h
  ·rw[aqi z]at h
   obtain⟨l,us,h1,h2⟩:=I.own i xs h
   exact⟨l,us,by rw[aqi z];exact h1,h2⟩
 sep:=fun i k xs ys l ne h1 h2 h3=>by
  have nj:∀{i:Nat} {xs:List Dat},(ρ.set j (some (.dat d)))[i]?=some (some (.mut xs))->j≠i:=fun {i xs} h z=>by
   subst z
   have hj:j < ρ.length:=by
    have:=(aqb.mp h).1
    rw[aqy]at this
    exact this
   rw[aqr hj]at h
   cases h
  have n1:=nj h1
  have n2:=nj h2
  rw[aqi n1]at h1 h3
  rw[aqi n2]at h2
  rw[aqi n2]
  exact I.sep i k xs ys l ne h1 h2 h3
theorem SInv.forget{j:Nat}(I:SInv K aj σ H g ρ M):SInv K aj (σ.set j none) H g (ρ.set j none) M where
 kd:=I.kd
 wok:=I.wok
 len:=by rw[aqy,aqy];exact I.len
 dat:=fun i e h=>by
  by_cases z:j=i
  ·subst z
   have hj:j < ρ.length:=by
    have:=(aqb.mp h).1
    rw[aqy]at this
    exact this
   rw[aqr hj]at h
   cases h
  ·rw[aqi z]at h ⊢
   exact I.dat i e h
 own:=fun i xs h=>by
  by_cases z:j=i
  ·subst z
   have hj:j < ρ.length:=by
    have:=(aqb.mp h).1
    rw[aqy]at this
    exact this
   rw[aqr hj]at h
   cases h
  ·rw[aqi z]at h ⊢
   exact I.own i xs h
 sep:=fun i k xs ys l ne h1 h2 h3=>by
  have nj:∀{i:Nat} {xs:List Dat},(ρ.set j none)[i]?=some (some (.mut xs))->j≠i:=fun {i xs} h z=>by
   subst z
   have hj:j < ρ.length:=by
    have:=(aqb.mp h).1
    rw[aqy]at this
    exact this
   rw[aqr hj]at h
   cases h
  have n1:=nj h1
  have n2:=nj h2
  rw[aqi n1]at h1 h3
  rw[aqi n2]at h2
  rw[aqi n2]
  exact I.sep i k xs ys l ne h1 h2 h3
def bY(ρ:Env):List Nat->Env
 |[]=>ρ
 |j::js=>(bY ρ js).set j none
theorem SInv.wipe(I:SInv K aj σ H g ρ M):∀vs:List Nat,SInv K aj (L2.wipe σ vs) H g (bY ρ vs) M
 |[]=>I
 |j::js=>(SInv.wipe I js).forget
end
abbrev fB:=Dat->Env->Option Env
def aF(j:Nat):fB:=fun d ρ=>some (ρ.set j (some (.dat d)))
def qN:List Nat->List Dat->Env->Option Env
 |[],[],ρ=>some ρ
 |j::js,d::ds,ρ=>qN js ds (ρ.set j (some (.dat d)))
 |_,_,_=>none
def bL(js:List Nat):fB:=fun d ρ=>match d with
 |.tuple ds=>qN js ds ρ
 |_=>none
def sets(σ:L2.St):List Nat->List V->L2.St
 |j::js,v::vs=>sets (σ.set j (some v)) js vs
 |_,_=>σ
def yR(K:ap9)(aj:aO)(js:List Nat)(f:fB):TG:=fun v σ H Q=>∃g ρ M d ρ',SInv K aj σ H g ρ M/\Rep K g H v d/\f d ρ=some ρ'/\∀vs,SInv K aj (sets σ js vs) H g ρ' M->Q (sets σ js vs) H
def QG(aj:aO)(X:Cx)(tg:Expr)(js:List Nat)(f:fB):Prop:=PG X tg (yR X.K aj js f)
theorem PG.weak{X:Cx}{e:Expr}{t t':TG}(h:PG X e t)(k:∀v σ H Q,t' v σ H Q->t v σ H Q):PG X e t':=⟨fun pins s σ H v u Q I r q=>h.run pins s σ H v u Q I r (k v σ H Q q)⟩
section
variable{X:Cx}{aj:aO}{pos:Pos}
theorem Ub{j:Nat}{x:Str}(hN:X.N.Nodup)(hi:X.N[j]?=some x)(hx:Loc X.env.scope x)(hf:X.fn x=true∨X.env.scope.names.lookup x=some .local):QG aj X (.Name x pos) [j] (aF j):=
 PG.weak (pg_name hN hi hx hf) fun v σ H Q ⟨g,ρ,M,d,ρ',I,r,e,q⟩=>by
  cases e
  exact q [v] (I.set r)
def QZ(X:Cx):List Expr->List Nat->Prop
 |[],[]=>True
 |.Name x _::es,j::js=>X.N[j]?=some x/\Loc X.env.scope x/\(X.fn x=true∨X.env.scope.names.lookup x=some .local)/\QZ X es js
 |_,_=>False
theorem aeX{es:List Expr}{js:List Nat}(h:QZ X es js):(assignEach es X.env).length=js.length/\(assignEach es X.env).findIdx? (·.1)=none:=by
 induction es generalizing js with
 |nil=>
  cases js with
  |nil=>exact⟨by with_unfolding_all rfl,by with_unfolding_all rfl⟩
  |cons j js=>exact False.elim h
 |cons e es ih=>
  cases js with
  |nil=>cases e <;> exact False.elim h
  |cons j js=>
   cases e with
   |Name x p=>
    obtain⟨h1,h2⟩:=ih h.2.2.2
    have e1:assignEach (.Name x p::es) X.env=(false,assign (.Name x p) X.env)::assignEach es X.env:=by with_unfolding_all rfl
    rw[e1]
    refine⟨by simp[h1],?_⟩
    rw[List.findIdx?_cons,h2]
    rfl
   |_=>exact False.elim h
def gNs(js:List Nat):TGs:=fun vs σ H Q=>vs.length=js.length/\Q (sets σ js vs) H
theorem Vr(hN:X.N.Nodup):∀{es:List Expr} {js:List Nat},QZ X es js->PGs X es (gNs js)
 |[],[],_=>⟨fun pins s σ H vs us Q I r h=>by
  obtain⟨e,h⟩:=h
  have:vs=[]:=List.length_eq_zero_iff.mp e
  subst this
  exact pgs_nil.run pins s σ H [] us Q I r ⟨rfl,h⟩⟩
 |.Name x p::es,j::js,h=>by
  have hp:=pgs_cons (pg_name (pos:=p) hN h.1 h.2.1 h.2.2.1) (Vr hN h.2.2.2) (by with_unfolding_all rfl)
  refine⟨fun pins s σ H vs us Q I r hq=>?_⟩
  obtain⟨e,hq⟩:=hq
  cases vs with
  |nil=>cases e
  |cons v vs=>exact hp.run pins s σ H (v::vs) us Q I r ⟨v,vs,rfl,aqT e,hq⟩
 |[],_::_,h=>False.elim h
 |.Name _ _::_,[],h=>False.elim h
theorem Gu{K:ap9}{g:Gh}{H:Hp}{M:Mo}:∀{js:List Nat} {ds:List Dat} {vs:List V} {σ:L2.St} {ρ ρ':Env},SInv K aj σ H g ρ M->aH K g H vs ds->qN js ds ρ=some ρ'->vs.length=js.length/\SInv K aj (sets σ js vs) H g ρ' M
 |[],_,_,_,_,_,I,.nil,e=>by cases e;exact⟨rfl,I⟩
 |[],_,_,_,_,_,I,.cons _ _,e=>by cases e
 |j::js,_,_,_,_,_,I,.nil,e=>by cases e
 |j::js,_,_,_,_,_,I,.cons r t,e=>by
  obtain⟨h1,h2⟩:=Gu (js:=js) (I.set (j:=j) r) t e
  exact⟨by simp[h1],h2⟩
theorem acK{es:List Expr}{js:List Nat}{k:Nat}(hc:X.calm=true)(hN:X.N.Nodup)(h:QZ X es js):QG aj X (.Tuple es k pos) js (bL js):=by
 obtain⟨h1,h2⟩:=aeX h
 refine PG.weak (pg_tup (n:=js.length) hc (Vr hN h) h1 h2) fun v σ H Q ⟨g,ρ,M,d,ρ',I,r,e,q⟩=>?_
 unfold bL at e
 split at e
 ·obtain⟨a,us,rfl,s1,t1⟩:=kZ r.weak
  obtain⟨l1,I1⟩:=Gu I t1 e
  exact⟨a,us,rfl,s1,l1,l1,q us I1⟩
 ·cases e
theorem zE:∀(js:List Nat) (vs:List V) (σ:L2.St) (ws:List Nat),(∀j∈js,j∈ws)->L2.wipe (sets σ js vs) ws=L2.wipe σ ws
 |[],_,_,_,_=>by unfold sets;rfl
 |_::_,[],_,_,_=>by unfold sets;rfl
 |j::js,v::vs,σ,ws,h=>by
  show L2.wipe (sets (σ.set j (some v)) js vs) ws=_
  rw[zE js vs _ ws fun k hk=>h k (aqe _ hk)]
  have hj:j∈ws:=h j aqf
  have key:∀(ws:List Nat) (σ:L2.St),j∈ws->L2.wipe (σ.set j (some v)) ws=L2.wipe σ ws:=by
   intro ws
   induction ws with
   |nil=>intro σ z;cases z
   |cons k ws ih=>
    intro σ z
    show(L2.wipe (σ.set j (some v)) ws).set k none=(L2.wipe σ ws).set k none
    by_cases hk:j∈ws
    ·rw[ih σ hk]
    ·have e:j=k:=by
      rcases aqp.mp z with z|z
      ·exact z
      ·exact absurd z hk
     subst e
     have comm:∀(ws:List Nat),j∉ws->L2.wipe (σ.set j (some v)) ws=(L2.wipe σ ws).set j (some v):=by
      intro ws
      induction ws with
      |nil=>intro _;rfl
      |cons m ws ih2=>
       intro hm
       show(L2.wipe (σ.set j (some v)) ws).set m none=((L2.wipe σ ws).set m none).set j (some v)
       rw[ih2 fun z=>hm (aqe _ z),List.set_comm _ _ (fun z=>hm (by rw[z];exact aqf))]
     rw[comm ws hk,List.set_set]
  exact key ws σ hj
end
structure IW(K:ap9)(J:It)(C:Gh->Hp->Prop)(ds:List Dat):Prop where
 go:∀g i H,C g H->i < ds.length->J.go i H
 yld:∀g i H x H' d,Kd g H->C g H->ds[i]?=some d->J.yld i H x H'->Ex H H'/\Rep K g H' x d
 stop:∀g i H,C g H->i=ds.length->J.stop i H
 ex:∀g H H',Kd g H->C g H->Ex H H'->C g H'
 add:∀g g' H H',Kd g H->C g H->Gr true g g' H H'->Ex H H'->C g' H'
def abF(C:Gh->Hp->Prop):Prop:=∀q g g' H H',Kd g H->C g H->Gr q g g' H H'->C g' H'
abbrev IF:=Mo->Env->Out (List Dat)
def tI(K:ap9)(aj:aO)(W:WX)(firm:Bool)(f:IF):TI:=fun σ H R=>∃g ρ M,SInv K aj σ H g ρ M/\(f M ρ).sat (fun ds=>∀J C H',Ex H H'->IW K J C ds->C g H'->(firm=true->abF C)->R J H') (qF K aj W g H σ)
def QI(aj:aO)(X:Cx)(W:WX)(firm:Bool)(tg e:Expr)(f:IF):Prop:=PI X tg e (tI X.K aj W firm f)
def Xq(x:Str):List Dat:=x.cps.toList.map fun c=>.str ⟨#[c]⟩
def oE:Dat->Out (List Dat)
 |.list ds=>.ok ds
 |.tuple ds=>.ok ds
 |.str x=>.ok (Xq x)
 |_=>.bad
def dw(a:QF):IF:=fun M ρ=>(a M ρ).bind oE
def Src.cw(K:ap9)(S:Src)(ds:List Dat)(g:Gh)(H:Hp):Prop:=∃us,S.sq K H us/\aH K g H us ds
def Src.cf(K:ap9)(S:Src)(ds:List Dat)(g:Gh)(H:Hp):Prop:=∃us,(match S with
 |.lst a=>M6 K g H a us
 |.tup a=>SqT K H a us
 |.str x=>us=chars x)/\aH K g H us ds
section
variable{K:ap9}{g g':Gh}{H H':Hp}{ds es:List Dat}{S T:Src}
theorem Src.aky{us:List V}(e:Ex H H')(h:S.sq K H us):S.sq K H' us:=by
 cases S with
 |lst a=>exact ex_l e h
 |tup a=>exact ex_t e h
 |str x=>exact h
theorem Src.abp(h:S.cf K ds g H):S.cw K ds g H:=by
 obtain⟨us,h1,h2⟩:=h
 refine⟨us,?_,h2⟩
 cases S with
 |lst a=>exact M6.sq h1
 |tup a=>exact h1
 |str x=>exact h1
theorem Src.tH:abF (S.cf K ds):=fun q g g' H H' k ⟨us,h1,h2⟩ r=>by
 refine⟨us,?_,h2.gr r k⟩
 cases S with
 |lst a=>exact r.ls h1
 |tup a=>exact r.sqT k h1
 |str x=>exact h1
theorem Src.JQ(k:Kd g H)(h:S.cw K ds g H)(r:Gr true g g' H H')(e:Ex H H'):S.cw K ds g' H':=by
 obtain⟨us,h1,h2⟩:=h
 exact⟨us,Src.aky e h1,h2.gr r k⟩
theorem Src.Wu(k:Kd g H)(h:S.cw K ds g H)(e:Ex H H'):S.cw K ds g H':=Src.JQ k h (Gr.ex e) e
end
section
variable{K:ap9}{ds es:List Dat}{S T:Src}
def ItS(K:ap9):Src->It
 |.lst a=>Itl K a
 |.tup a=>Itt K a
 |.str x=>Its x
theorem CV{g:Gh}{H:Hp}(x:Str):aH K g H (chars x) (Xq x):=by
 unfold chars Xq
 induction x.cps.toList with
 |nil=>exact .nil
 |cons c cs ih=>exact .cons (.str _) ih
theorem IW.of{J:It}{C C':Gh->Hp->Prop}(w:IW K J C ds)(h:∀g H,C' g H->C g H)(e:∀g H H',Kd g H->C' g H->Ex H H'->C' g H')(a:∀g g' H H',Kd g H->C' g H->Gr true g g' H H'->Ex H H'->C' g' H'):IW K J C' ds where
 go:=fun g i H c hi=>w.go g i H (h g H c) hi
 yld:=fun g i H x H' d k c e y=>w.yld g i H x H' d k (h g H c) e y
 stop:=fun g i H c e=>w.stop g i H (h g H c) e
 ex:=e
 add:=a
theorem aaF:IW K (ItS K S) (S.cw K ds) ds where
 go:=fun g i H ⟨us,h1,h2⟩ hi=>by
  have hx:us[i]?=some (us[i]'(by rw[h2.length];exact hi)):=aqc _
  cases S with
  |lst a=>exact⟨us,_,h1,hx⟩
  |tup a=>exact⟨us,_,h1,hx⟩
  |str x=>
   show i < x.cps.size
   have:=h2.length
   rw[show us=chars x from h1]at this
   unfold chars at this
   rw[aqj,aqJ]at this
   omega
 yld:=fun g i H x H' d k ⟨us,h1,h2⟩ e y=>by
  obtain⟨v,hv,rv⟩:=h2.get e
  cases S with
  |lst a=>
   obtain⟨rfl,y⟩:=y
   have:x=v:=aqv ((y us h1).symm.trans hv)
   rw[this]
   exact⟨Ex.refl _,rv⟩
  |tup a=>
   obtain⟨rfl,y⟩:=y
   have:x=v:=aqv ((y us h1).symm.trans hv)
   rw[this]
   exact⟨Ex.refl _,rv⟩
  |str z=>
   obtain⟨rfl,c,hc,rfl⟩:=y
   rw[show us=chars z from h1]at hv
   unfold chars at hv
   rw[aqm,aqN,hc]at hv
   cases hv
   exact⟨Ex.refl _,rv⟩
 stop:=fun g i H ⟨us,h1,h2⟩ e=>by
  have hl:=h2.length
  cases S with
  |lst a=>exact⟨us,h1,by omega⟩
  |tup a=>exact⟨us,h1,by omega⟩
  |str x=>
   show x.cps.size<=i
   rw[show us=chars x from h1]at hl
   unfold chars at hl
   rw[aqj,aqJ]at hl
   omega
 ex:=fun g H H' k h e=>Src.Wu k h e
 add:=fun g g' H H' k h r e=>Src.JQ k h r e
def rC(k₀:Int)(ds:List Dat):List Dat:=ds.mapIdx fun i d=>.tuple [.int (k₀+(i:Int)),d]
theorem adU{k₀:Int}:IW K (ItE K S k₀) (S.cw K ds) (rC k₀ ds) where
 go:=fun g i H ⟨us,h1,h2⟩ hi=>by
  have hl:i < us.length:=by
   rw[h2.length]
   unfold rC at hi
   rw[List.length_mapIdx]at hi
   exact hi
  exact⟨us,us[i],h1,aqc hl⟩
 yld:=fun g i H x H' d k ⟨us,h1,h2⟩ e y=>by
  unfold rC at e
  rw[aqY]at e
  cases hd:ds[i]? with
  |none=>rw[hd]at e;cases e
  |some d0=>
   rw[hd]at e
   cases e
   obtain⟨v,hv,rv⟩:=h2.get hd
   obtain⟨T,x0,rfl,nT,rfl,y⟩:=y
   have:x0=v:=aqv ((y us h1).symm.trans hv)
   subst this
   exact⟨Ex.new nT,.tup (st_of upd_same) (.cons (.int _) (.cons (rv.ex (Ex.new nT) k) .nil))⟩
 stop:=fun g i H ⟨us,h1,h2⟩ e=>by
  unfold rC at e
  rw[List.length_mapIdx,←h2.length]at e
  exact⟨us,h1,e.symm⟩
 ex:=fun g H H' k h e=>Src.Wu k h e
 add:=fun g g' H H' k h r e=>Src.JQ k h r e
def wI(ds es:List Dat):List Dat:=List.zipWith (fun d e=>.tuple [d,e]) ds es
theorem Z7:IW K (ItZ K S T) (fun g H=>S.cw K ds g H/\T.cw K es g H) (wI ds es) where
 go:=fun g i H ⟨⟨us,h1,h2⟩,⟨ws,h3,h4⟩⟩ hi=>by
  unfold wI at hi
  rw[List.length_zipWith,←h2.length,←h4.length]at hi
  exact⟨us,ws,us[i],ws[i],h1,h3,aqc (by omega),aqc (by omega)⟩
 yld:=fun g i H x H' d k ⟨⟨us,h1,h2⟩,⟨ws,h3,h4⟩⟩ e y=>by
  unfold wI at e
  rw[List.getElem?_zipWith]at e
  cases hd:ds[i]? with
  |none=>rw[hd]at e;cases e
  |some d0=>
   cases he:es[i]? with
   |none=>rw[hd,he]at e;cases e
   |some e0=>
    rw[hd,he]at e
    cases e
    obtain⟨v,hv,rv⟩:=h2.get hd
    obtain⟨u,hu,ru⟩:=h4.get he
    obtain⟨U,x0,y0,rfl,nU,rfl,y1,y2⟩:=y
    have:x0=v:=aqv ((y1 us h1).symm.trans hv)
    subst this
    have:y0=u:=aqv ((y2 ws h3).symm.trans hu)
    subst this
    exact⟨Ex.new nU,.tup (st_of upd_same) (.cons (rv.ex (Ex.new nU) k) (.cons (ru.ex (Ex.new nU) k) .nil))⟩
 stop:=fun g i H ⟨⟨us,h1,h2⟩,⟨ws,h3,h4⟩⟩ e=>by
  unfold wI at e
  rw[List.length_zipWith,←h2.length,←h4.length]at e
  exact⟨us,ws,h1,h3,e⟩
 ex:=fun g H H' k h e=>⟨Src.Wu k h.1 e,Src.Wu k h.2 e⟩
 add:=fun g g' H H' k h r e=>⟨Src.JQ k h.1 r e,Src.JQ k h.2 r e⟩
def ju(lo:Int)(n:Nat):List Dat:=(List.range n).map fun(i:Nat)=>.int (lo+(i:Int))
theorem Uk{lo:Int}{n:Nat}:IW K (Itr lo n) (fun _ _=>True) (ju lo n) where
 go:=fun g i H _ hi=>by
  unfold ju at hi
  rw[aqj,List.length_range]at hi
  exact hi
 yld:=fun g i H x H' d k _ e y=>by
  obtain⟨rfl,rfl⟩:=y
  unfold ju at e
  rw[aqm]at e
  cases hr:(List.range n)[i]? with
  |none=>rw[hr]at e;cases e
  |some j=>
   rw[hr]at e
   cases e
   have:j=i:=by
    obtain⟨h1,h2⟩:=aqb.mp hr
    rw[List.getElem_range]at h2
    exact h2.symm
   subst this
   exact⟨Ex.refl _,.int _⟩
 stop:=fun g i H _ e=>by
  unfold ju at e
  rw[aqj,List.length_range]at e
  show n<=i
  omega
 ex:=fun _ _ _ _ _ _=>trivial
 add:=fun _ _ _ _ _ _ _ _=>trivial
end
section
variable{X:Cx}{aj:aO}{W:WX}{tg a b:Expr}{fa fb:QF}{pos p tpos:Pos}{elts:List Expr}{kk:Nat}
theorem La{K:ap9}{g:Gh}{H:Hp}{v:V}{d:Dat}{ds:List Dat}{firm:Bool}(r:if firm=true then Rep K g H v d else dU K g H v d)(h:oE d=.ok ds):∃S,srcOf v S/\S.cw K ds g H/\(firm=true->S.cf K ds g H):=by
 have rw:dU K g H v d:=by
  cases firm with
  |true=>exact Rep.weak r
  |false=>exact r
 cases d with
 |list es=>
  cases h
  obtain⟨l,us,rfl,h1,h2⟩:=iV rw
  refine⟨.lst l,.inl ⟨l,rfl,rfl,.inl rfl⟩,⟨us,h1,h2⟩,fun z=>?_⟩
  subst z
  have r:Rep K g H (.ref l) (.list ds):=r
  cases r with
  |lst h3 h4=>exact⟨_,h3,h4⟩
 |tuple es=>
  cases h
  obtain⟨l,us,rfl,h1,h2⟩:=kZ rw
  exact⟨.tup l,.inl ⟨l,rfl,rfl,.inr rfl⟩,⟨us,h1,h2⟩,fun _=>⟨us,h1,h2⟩⟩
 |str x=>
  cases h
  cases jH rw
  exact⟨.str x,.inr ⟨x,rfl,rfl⟩,⟨_,rfl,CV x⟩,fun _=>⟨_,rfl,CV x⟩⟩
 |_=>cases h
def tF(K:ap9)(aj:aO)(W:WX)(firm:Bool)(f:QF):TE:=if firm=true then tQ K aj W f else tW K aj W f
def QF'(aj:aO)(X:Cx)(W:WX)(firm:Bool)(e:Expr)(f:QF):Prop:=PE X e (tF X.K aj W firm f)
theorem tF.go{K:ap9}{firm:Bool}{g:Gh}{H:Hp}{σ:L2.St}{ρ:Env}{M:Mo}{f:QF}{k:Dat->Prop}{Q:VK}(I:SInv K aj σ H g ρ M)(h:(f M ρ).sat k (qF K aj W g H σ))(hk:∀d v H',k d->Ex H H'->(if firm=true then Rep K g H' v d else dU K g H' v d)->Q v H'):tF K aj W firm f σ H Q:=by
 cases firm with
 |true=>exact tQ.go I h hk
 |false=>exact tW.go I h hk
theorem akB{K:ap9}{firm:Bool}{g:Gh}{H H':Hp}{v:V}{d:Dat}(e:Ex H H')(k:Kd g H)(r:if firm=true then Rep K g H v d else dU K g H v d):if firm=true then Rep K g H' v d else dU K g H' v d:=by
 cases firm with
 |true=>exact Rep.ex e k r
 |false=>exact dU.ex e k r
theorem wf{K:ap9}{S:Src}{firm:Bool}{J:It}{ds es:List Dat}{R:It->Hp->Prop}{g:Gh}{H H1:Hp}(h:∀J C H',Ex H H'->IW K J C ds->C g H'->(firm=true->abF C)->R J H')(e1:Ex H H1)(w:IW K J (S.cw K es) ds)(hw:S.cw K es g H1)(hf:firm=true->S.cf K es g H1):R J H1:=by
 cases firm with
 |true=>exact h J (S.cf K es) H1 e1 (w.of (fun _ _ z=>Src.abp z) (fun g H H' k c e=>Src.tH true g g H H' k c (Gr.ex e)) fun g g' H H' k c r e=>Src.tH true g g' H H' k c r) (hf rfl) fun _=>Src.tH
 |false=>exact h J (S.cw K es) H1 e1 w hw fun z=>nomatch z
theorem XD{firm:Bool}(ha:QF' aj X W firm a fa):QI aj X W firm tg a (dw fa):=by
 refine⟨fun pins s σ H R I h=>?_⟩
 obtain⟨g,ρ,M,SI,hs⟩:=h
 have hs:=hs.bnd
 have fin:∀(S:Src) (x:V) (H1:Hp) (ds:List Dat),(∀J C H',Ex H H'->IW X.K J C ds->C g H'->(firm=true->abF C)->R J H')->Ex H H1->S.cw X.K ds g H1->(firm=true->S.cf X.K ds g H1)->R (ItS X.K S) H1:=fun S x H1 ds h e1 hw hf=>wf h e1 aaF hw hf
 cases hfa:fa M ρ with
 |bad=>rw[hfa]at hs;exact False.elim hs
 |exc x=>
  rw[hfa]at hs
  exact(pi_list ha).run pins s σ H R I (tF.go (k:=fun _=>False) SI (by rw[hfa];exact hs) fun d v H' z=>False.elim z)
 |ok d=>
  rw[hfa]at hs
  cases d with
  |list ds=>
   refine(pi_list ha).run pins s σ H R I (tF.go (k:=fun z=>z=.list ds) SI (by rw[hfa];rfl) fun d v H' z e1 r=>?_)
   subst z
   obtain⟨S,hS,hw,hf⟩:=La (firm:=firm) r (ds:=ds) rfl
   have rw:dU X.K g H' v (.list ds):=by
    cases firm with
    |true=>exact Rep.weak r
    |false=>exact r
   obtain⟨l,us,rfl,h1,h2⟩:=iV rw
   refine⟨l,rfl,⟨us,h1⟩,?_⟩
   rcases hS with⟨a',e,ha',hl|ht⟩|⟨y,_,e⟩
   ·cases e
    subst hl
    exact fin (.lst l) (.ref l) H' ds hs e1 hw hf
   ·cases e
    subst ht
    refine wf (S:=.lst l) hs e1 (aaF (S:=.lst l)) ⟨us,h1,h2⟩ fun z=>?_
    subst z
    have r:Rep X.K g H' (.ref l) (.list ds):=r
    cases r with
    |lst h3 h4=>exact⟨_,h3,h4⟩
   ·cases e
  |tuple ds=>
   refine(pi_tup ha).run pins s σ H R I (tF.go (k:=fun z=>z=.tuple ds) SI (by rw[hfa];rfl) fun d v H' z e1 r=>?_)
   subst z
   have rw:dU X.K g H' v (.tuple ds):=by
    cases firm with
    |true=>exact Rep.weak r
    |false=>exact r
   obtain⟨l,us,rfl,h1,h2⟩:=kZ rw
   exact⟨l,rfl,⟨us,h1⟩,fin (.tup l) (.ref l) H' ds hs e1 ⟨us,h1,h2⟩ fun _=>⟨us,h1,h2⟩⟩
  |str x=>
   refine(pi_str ha).run pins s σ H R I (tF.go (k:=fun z=>z=.str x) SI (by rw[hfa];rfl) fun d v H' z e1 r=>?_)
   subst z
   have rw:dU X.K g H' v (.str x):=by
    cases firm with
    |true=>exact Rep.weak r
    |false=>exact r
   cases jH rw
   exact⟨x,rfl,fin (.str x) (.str x) H' _ hs e1 ⟨_,rfl,CV x⟩ fun _=>⟨_,rfl,CV x⟩⟩
  |_=>exact False.elim hs
def Bj(a:QF):IF:=fun M ρ=>(a M ρ).bind fun d=>(zR d).bind fun n=>Out.when (decide (n<=100000/\-100000<=n)) (.ok (ju 0 n.toNat))
def Bo(a b:QF):IF:=fun M ρ=>(a M ρ).bind fun d=>(b M ρ).bind fun e=>(zR d).bind fun lo=>(zR e).bind fun n=>Out.when (decide (n<=100000/\-100000<=n/\lo<=100000/\-100000<=lo)) (.ok (ju lo (n - lo).toNat))
def yN(k₀:Int)(a:QF):IF:=fun M ρ=>(a M ρ).bind fun d=>(oE d).bind fun ds=>.ok (rC k₀ ds)
def Km(a b:QF):IF:=fun M ρ=>(a M ρ).bind fun d=>(b M ρ).bind fun e=>(oE d).bind fun ds=>(oE e).bind fun es=>.ok (wI ds es)
theorem acB{firm:Bool}(hg:Gl X "range")(hm:X.mg "range"=none)(ha:QW aj X W a fa)(hs:nst a=true):QI aj X W firm tg (.Call (.Name "range" p) [a] [] pos) (Bj fa):=by
 refine⟨fun pins s σ H R I h=>?_⟩
 refine(pi_range1 hg hm (pa_cons ha pa_nil (cO hs [])) (cO hs [])).run pins s σ H R I ?_
 obtain⟨g,ρ,M,SI,h⟩:=h
 refine tW.go SI h.bnd fun d v H1 h1 e1 r1=>?_
 have h1:=h1.bnd
 unfold zR at h1
 split at h1
 ·obtain⟨hz,h1⟩:=h1.pH
  have hz:=of_decide_eq_true hz
  cases cC r1
  exact⟨_,rfl,by omega,by omega,h1 _ _ H1 e1 Uk trivial fun _=>fun _ _ _ _ _ _ _ _=>trivial⟩
 ·exact False.elim h1
theorem ady{firm:Bool}(hg:Gl X "range")(hm:X.mg "range"=none)(ha:QW aj X W a fa)(hb:QW aj X W b fb)(hs:nst a=true)(hs2:nst b=true):QI aj X W firm tg (.Call (.Name "range" p) [a,b] [] pos) (Bo fa fb):=by
 refine⟨fun pins s σ H R I h=>?_⟩
 refine(pi_range2 hg hm (pa_cons ha (pa_cons hb pa_nil (cO hs2 [])) (cO hs [b])) (by rw[cO hs,cO hs2];rfl) (cO hs2 [])).run pins s σ H R I ?_
 obtain⟨g,ρ,M,SI,h⟩:=h
 refine tW.go SI h.bnd fun d v H1 h1 e1 r1=>?_
 refine tW.go (SI.ex e1) (h1.bnd.mono (fun _ z=>z) fun _ z=>z.ex e1) fun d2 v2 H2 h2 e2 r2=>?_
 have h2:=h2.bnd
 unfold zR at h2
 split at h2
 ·have h2:=Out.sat.bnd h2
  split at h2
  ·obtain⟨hz,h2⟩:=Out.sat.pH h2
   have hz:=of_decide_eq_true hz
   cases cC r1
   cases cC r2
   exact⟨_,_,rfl,⟨by omega,by omega,by omega,by omega⟩,h2 _ _ H2 (e1.trans e2) Uk trivial fun _=>fun _ _ _ _ _ _ _ _=>trivial⟩
  ·exact False.elim h2
 ·exact False.elim h2
theorem afu{firm:Bool}{k₀:Int}(σ:L2.St)(H:Hp)(R:It->Hp->Prop)(h:tI X.K aj W firm (yN k₀ fa) σ H R):iEn X.K (tCons (tF X.K aj W firm fa) tNil) k₀ σ H R:=by
 obtain⟨g,ρ,M,SI,h⟩:=h
 refine tF.go SI h.bnd fun d v H1 h1 e1 r1=>?_
 cases hd:oE d with
 |bad=>rw[hd]at h1;exact False.elim h1
 |exc x=>cases d <;> cases hd
 |ok ds=>
  rw[hd]at h1
  obtain⟨S,hS,hw,hf⟩:=La r1 hd
  exact⟨v,S,_,rfl,hS,hw.choose_spec.1,wf h1 e1 adU hw hf⟩
theorem af5{firm:Bool}(hg:Gl X "enumerate")(hm:X.mg "enumerate"=none)(ha:QF' aj X W firm a fa)(hs:nst a=true):QI aj X W firm (.Tuple elts kk tpos) (.Call (.Name "enumerate" p) [a] [] pos) (yN 0 fa):=
 ⟨fun pins s σ H R I h=>(akv hg hm (pa_cons ha pa_nil (cO hs [])) hs).run pins s σ H R I (afu σ H R h)⟩
theorem aeg{firm:Bool}{k₀:Int}{j:Nat}{kp kp2:Pos}(hk0 : -(2 ^ 63)<=k₀)(hk1:k₀ < 2 ^ 63)(hg:Gl X "enumerate")(hm:X.mg "enumerate"=none)(ha:QF' aj X W firm a fa)(hs:nst a=true):QI aj X W firm (.Tuple elts kk tpos) (.Call (.Name "enumerate" p) [a] [⟨some "start",.Constant (.int k₀) j kp,kp2⟩] pos) (yN k₀ fa):=
 ⟨fun pins s σ H R I h=>(ait hk0 hk1 hg hm (pa_cons ha pa_nil (cO hs [])) hs).run pins s σ H R I (afu σ H R h)⟩
theorem ahF{firm:Bool}(hg:Gl X "zip")(hm:X.mg "zip"=none)(ha:QF' aj X W firm a fa)(hb:QF' aj X W firm b fb)(hs:nst a=true)(hs2:nst b=true):QI aj X W firm (.Tuple elts kk tpos) (.Call (.Name "zip" p) [a,b] [] pos) (Km fa fb):=by
 refine⟨fun pins s σ H R I h=>(akV hg hm (pa_cons ha (pa_cons hb pa_nil (cO hs2 [])) (cO hs [b])) hs hs2).run pins s σ H R I ?_⟩
 obtain⟨g,ρ,M,SI,h⟩:=h
 refine tF.go SI h.bnd fun d v H1 h1 e1 r1=>?_
 refine tF.go (SI.ex e1) (h1.bnd.mono (fun _ z=>z) fun _ z=>z.ex e1) fun d2 v2 H2 h2 e2 r2=>?_
 cases hd:oE d with
 |bad=>rw[hd]at h2;exact False.elim h2
 |exc x=>cases d <;> cases hd
 |ok ds=>
  cases he:oE d2 with
  |bad=>rw[hd,he]at h2;exact False.elim h2
  |exc x=>cases d2 <;> cases he
  |ok es=>
   rw[hd,he]at h2
   obtain⟨S,hS,hw,hf⟩:=La (akB e2 (SI.ex e1).kd r1) hd
   obtain⟨T,hT,hw2,hf2⟩:=La r2 he
   refine⟨v,v2,S,T,_,_,rfl,hS,hT,hw.choose_spec.1,hw2.choose_spec.1,?_⟩
   cases firm with
   |true=>exact h2 _ (fun g H=>S.cf X.K ds g H/\T.cf X.K es g H) H2 (e1.trans e2) (Z7.of (fun _ _ z=>⟨Src.abp z.1,Src.abp z.2⟩) (fun g H H' k c e=>⟨Src.tH true g g H H' k c.1 (Gr.ex e),Src.tH true g g H H' k c.2 (Gr.ex e)⟩) fun g g' H H' k c r e=>⟨Src.tH true g g' H H' k c.1 r,Src.tH true g g' H H' k c.2 r⟩) ⟨hf rfl,hf2 rfl⟩ fun _=>fun q g g' H H' k c r=>⟨Src.tH q g g' H H' k c.1 r,Src.tH q g g' H H' k c.2 r⟩
   |false=>exact h2 _ _ H2 (e1.trans e2) Z7 ⟨hw,hw2⟩ fun z=>nomatch z
end
def WF:WX:=fun _ _ _ _=>False
def w6{α:Type}:Out α->Out α
 |.ok a=>.ok a
 |_=>.bad
@[simp]theorem Zg {α:Type} (a:α):w6 (.ok a)=.ok a:=rfl
theorem Bf{α:Type}{o:Out α}{P:α->Prop}{E E':dI->Prop}(h:(w6 o).sat P E):o.sat P E':=by
 cases o
 ·exact h
 ·exact False.elim h
 ·exact h
def dh(tg:fB)(tt:QT)(te:QF)(M:Mo)(ρ:Env):List Dat->Out (List Dat)
 |[]=>.ok []
 |d::ds=>match tg d ρ with
  |none=>.bad
  |some ρ1=>(w6 (tt M ρ1)).bind fun b=>if b=true then(w6 (te M ρ1)).bind fun y=>(dh tg tt te M ρ ds).bind fun r=>.ok (y::r) else dh tg tt te M ρ ds
def eY(it:IF)(tg:fB)(vs:List Nat)(tt:QT)(te:QF):QF:=fun M ρ=>(it M ρ).bind fun ds=>Out.when (decide (ds.length<=50000)) ((dh tg tt te M (bY ρ vs) ds).bind fun r=>.ok (.list r))
def jo:QT:=fun _ _=>.ok true
def tFr(K:ap9)(aj:aO)(W:WX)(f:IF):TE:=fun σ H Q=>∃g ρ M,SInv K aj σ H g ρ M/\(f M ρ).sat (fun xs=>∀l us H',H l=none->Ex H H'->H' l=some (.lst us)->aH K (g.add l) H' us xs->Q (.ref l) H') (qF K aj W g H σ)
def Ce(it:IF)(tg:fB)(vs:List Nat)(tt:QT)(te:QF):IF:=fun M ρ=>(it M ρ).bind fun ds=>Out.when (decide (ds.length<=50000)) (dh tg tt te M (bY ρ vs) ds)
section
variable{K:ap9}{aj:aO}{W:WX}
theorem YT{g:Gh}{H:Hp}{D:Addr}{o o':HO}{vs:List V}{ds:List Dat}(k:Kd g H)(h:H D=some o)(l:g.Lo D)(r:aH K g H vs ds):aH K g (upd H D o') vs ds:=r.gr (Gr.upd (q:=true) k h (.inr l)) k
theorem agj{g:Gh}{H:Hp}{D:Addr}{o o':HO}{v:V}{d:Dat}(k:Kd g H)(h:H D=some o)(l:g.Lo D)(r:Rep K g H v d):Rep K g (upd H D o') v d:=r.gr (Gr.upd (q:=true) k h (.inr l)) k
theorem qL{tg:fB}{tt:QT}{te:QF}{M:Mo}{ρ:Env}:∀{ds:List Dat} {x:dI},dh tg tt te M ρ ds≠.exc x
 |[],_,h=>nomatch h
 |d::ds,x,h=>by
  rw[dh]at h
  split at h
  ·cases h
  ·next ρ1 e=>
   cases h1:tt M ρ1 with
   |bad=>rw[h1]at h;cases h
   |exc y=>rw[h1]at h;cases h
   |ok b=>
    rw[h1]at h
    cases b with
    |false=>exact qL h
    |true=>
     have h:((w6 (te M ρ1)).bind fun y=>(dh tg tt te M ρ ds).bind fun r=>Out.ok (y::r))=.exc x:=h
     cases h2:te M ρ1 with
     |bad=>rw[h2]at h;cases h
     |exc y=>rw[h2]at h;cases h
     |ok y=>
      rw[h2]at h
      cases h3:dh tg tt te M ρ ds with
      |bad=>rw[h3]at h;cases h
      |exc z=>exact qL h3
      |ok r=>rw[h3]at h;cases h
theorem Np(σ:L2.St)(i:Nat):∀vs:List Nat,(L2.wipe σ vs)[i]?=if i∈vs then(σ[i]?).map (fun _=>none) else σ[i]?
 |[]=>by simp[L2.wipe]
 |v::vs=>by
  show((L2.wipe σ vs).set v none)[i]?=_
  by_cases h:v=i
  ·subst h
   by_cases hl:v < σ.length
   ·rw[aqr (by rw[wipe_length];exact hl),if_pos aqf,aqc hl]
    rfl
   ·have h1:σ[v]?=none:=List.getElem?_eq_none_iff.mpr (by omega)
    rw[if_pos aqf,h1,List.getElem?_eq_none_iff.mpr (by rw[aqy,wipe_length];omega)]
    rfl
  ·rw[aqi h,Np σ i vs]
   have:i∈v::vs↔i∈vs:=⟨fun z=>by
    rcases aqp.mp z with z|z
    ·exact absurd z.symm h
    ·exact z,aqe _⟩
   simp only[this]
theorem Cv(σ:L2.St)(vs:List Nat):L2.wipe (L2.wipe σ vs) vs=L2.wipe σ vs:=by
 apply aqC
 intro i
 rw[Np (L2.wipe σ vs) i vs,Np σ i vs]
 split
 ·cases σ[i]? <;> rfl
 ·rfl
theorem X5{it:IF}{tg:fB}{js vs:List Nat}{tt:QT}{te:QF}(hj:∀j∈js,j∈vs)(σ:L2.St)(H:Hp)(Q:VK)(h:tFr K aj W (Ce it tg vs tt te) σ H Q) :
  tLc (tI K aj W false it) (yR K aj js tg) (jT K aj WF tt) (tQ K aj WF te) vs σ H Q:=by
 obtain⟨g,ρ,M,I,h⟩:=h
 refine⟨g,ρ,M,I,h.bnd.mono (fun ds hk J C H1 e1 w c _ D nD=>?_) fun _ z=>z⟩
 obtain⟨hz,hk⟩:=hk.pH
 have hlen:=of_decide_eq_true hz
 obtain⟨total,htot,hQ⟩:∃total,dh tg tt te M (bY ρ vs) ds=.ok total/\∀l us H',H l=none->Ex H H'->H' l=some (.lst us)->aH K (g.add l) H' us total->Q (.ref l) H':=by
  cases hc:dh tg tt te M (bY ρ vs) ds with
  |bad=>rw[hc]at hk;exact False.elim hk
  |exc x=>exact absurd hc qL
  |ok total=>
   rw[hc]at hk
   exact⟨total,rfl,hk⟩
 have I1:=(I.ex e1).wipe vs
 have kD:∀{Ha:Hp} {us:List V},Ex H1 Ha->Ha D=some (.lst us)->SInv K aj (L2.wipe σ vs) Ha (g.add D) (bY ρ vs) M:=fun ea hu=>I1.add nD ea hu trivial
 let Pv:Nat->Hp->Prop:=fun i Ha=>Ex H1 Ha/\i<=ds.length/\∃us ys,Ha D=some (.lst us)/\aH K (g.add D) Ha us ys/\ys.length<=i/\(dh tg tt te M (bY ρ vs) (ds.drop i)).sat (fun r=>total=ys++r) fun _=>False
 refine⟨fun i m Ha=>m=ds.length - i/\Pv i Ha,⟨ds.length,rfl,Ex.new nD,aqM _,[],[],upd_same,.nil,aqz _,?_⟩,?_⟩
 ·rw[arp,htot]
  rfl
 ·rintro i m Ha ⟨rfl,ea,hi,us,ys,hu,hU,hy,hs⟩
  have Ia:=kD ea hu
  have Ca:=w.add g (g.add D) H1 Ha (I.kd.ex e1) c (Gh.Fb nD ea) ea
  by_cases hlt:i < ds.length
  ·refine .inr ⟨w.go _ i Ha Ca hlt,Pv (i+1),fun H' p=>⟨ds.length - (i+1),by omega,rfl,p⟩,fun x H' y=>?_⟩
   have hd:ds[i]?=some ds[i]:=aqc hlt
   obtain⟨e2,rx⟩:=w.yld _ i Ha x H' _ Ia.kd Ca hd y
   have I2:=Ia.ex e2
   rw[aqW hlt,dh]at hs
   split at hs
   ·exact False.elim hs
   ·next ρ1 he=>
    refine⟨g.add D,_,M,_,ρ1,I2,rx,he,fun ws I3=>⟨zE js ws _ vs hj |>.trans (Cv σ vs),?_⟩⟩
    refine jT.go I3 (Bf hs.bnd) fun b H3 hb e3=>?_
    have I4:=I3.ex e3
    have hu3:=e3 _ _ (e2 _ _ hu)
    have hU3:=(hU.ex e2 Ia.kd).ex e3 I2.kd
    cases b with
    |false=>
     have hb:(dh tg tt te M (bY ρ vs) (ds.drop (i+1))).sat (fun r=>total=ys++r) fun _=>False:=hb
     exact⟨(ea.trans e2).trans e3,hlt,us,ys,hu3,hU3,Nat.le_succ_of_le hy,hb⟩
    |true=>
     have hb:((w6 (te M ρ1)).bind fun y=>(dh tg tt te M (bY ρ vs) (ds.drop (i+1))).bind fun r=>Out.ok (y::r)).sat (fun r=>total=ys++r) fun _=>False:=hb
     refine tQ.go I4 (Bf hb.bnd) fun y v H4 hyv e4 ry=>?_
     have I5:=I4.ex e4
     have hu4:=e4 _ _ hu3
     have hU4:=hU3.ex e4 I4.kd
     have lD:(g.add D).Lo D:=.inr rfl
     refine⟨us,hu4,sz_lt (by rw[hU.length];omega),Ex.mut (((ea.trans e2).trans e3).trans e4) nD,hlt,us++[v],ys++[y],upd_same,?_,by simp;omega,hyv.bnd.mono (fun r hr=>?_) fun _ z=>z⟩
     ·exact YT I5.kd hu4 lD (hU4.append (.cons ry .nil))
     ·have hr:total=ys++y::r:=hr
      rw[hr]
      simp
  ·have e:i=ds.length:=by omega
   refine .inl ⟨w.stop _ i Ha Ca e,?_⟩
   rw[e,aq2]at hs
   have hs:total=ys++[]:=hs
   rw[aqR]at hs
   subst hs
   exact hQ D us Ha (Bu e1 D nD) (e1.trans ea) hu hU
theorem afz{it:IF}{tg:fB}{js vs:List Nat}{tt:QT}{te:QF}(hj:∀j∈js,j∈vs)(σ:L2.St)(H:Hp)(Q:VK)(h:tQ K aj W (eY it tg vs tt te) σ H Q) :
  tLc (tI K aj W false it) (yR K aj js tg) (jT K aj WF tt) (tQ K aj WF te) vs σ H Q:=by
 obtain⟨g,ρ,M,I,h⟩:=h
 refine X5 hj σ H Q ⟨g,ρ,M,I,?_⟩
 unfold Ce
 unfold eY at h
 cases hi:it M ρ with
 |bad=>rw[hi]at h;exact False.elim h
 |exc x=>rw[hi]at h;exact h
 |ok ds=>
  rw[hi]at h
  obtain⟨hz,h⟩:=Out.sat.pH h
  have h:=h.bnd
  show(Out.when (decide (ds.length<=50000)) (dh tg tt te M (bY ρ vs) ds)).sat _ _
  rw[hz,Out.Vu]
  exact h.mono (fun xs z l us H' n e hl r=>z _ H' e (.lst (.inl ⟨.inl hl,I.kd.fresh n⟩) (aH.less (g:=g.add l) (g':=g) rfl (fun a z=>z.elim .inl fun z=>.inr (z.elim .inl fun z=>.inr (.inl z))) r))) fun _ z=>z
end
section
variable{X:Cx}{aj:aO}{W:WX}{elt tg iter:Expr}{pos p tpos:Pos}
theorem ajq{X:Cx}:Takes X WF:=fun u s' ⟨a,B,sI,pins,σ,H,cls,d,e,I,nb,up,sky,na,os,ag,w⟩=>False.elim w
theorem ale{scope:Scope}{own:List (Str×Nat)}{it:IF}{tgf:fB}{js:List Nat}{tt:QT}{te:QF}{ifs:List Expr}(hc:X.calm=true)(hN:X.N.Nodup)(hi:QI aj X W false tg iter it)(ok:blkC X.N X.env.scope scope own=true)(hj:∀j∈js,j∈own.map (·.2))
  (hg:∀(s:Shared) (H:Hp) (C:Addr) (cl:List (Str×Addr)) (fp:List Addr),QG aj (X.blk s H scope (compEnvC scope cl C X.env) fp) tg js tgf)
  (ht:∀(s:Shared) (H:Hp) (C:Addr) (cl:List (Str×Addr)) (fp:List Addr),PTs (X.blk s H scope (compEnvC scope cl C X.env) fp) ifs (jT X.K aj WF tt))
  (he:∀(s:Shared) (H:Hp) (C:Addr) (cl:List (Str×Addr)) (fp:List Addr),QE aj (X.blk s H scope (compEnvC scope cl C X.env) fp) WF elt te) (hs:∀x,foldedSetIterable iter X.env x=pure x) :
  QE aj X W (.ListComp elt [⟨tg,iter,ifs,0⟩] scope pos) (eY it tgf (own.map (·.2)) tt te):=
 PE.weak (pe_lc (g:=yR X.K aj js tgf) (tt:=jT X.K aj WF tt) (te:=tQ X.K aj WF te) hc hN hi (blkOk_by ok) (fun s H C cl fp=>hg s H C cl fp) ht (fun s H C cl fp=>he s H C cl fp) hs) fun σ H Q h=>afz hj σ H Q h
theorem akD{scope:Scope}{own:List (Str×Nat)}{it:IF}{tgf:fB}{js:List Nat}{tt:QT}{te:QF}{ifs:List Expr}(hc:X.calm=true)(hN:X.N.Nodup)(hi:QI aj X W false tg iter it)(ok:blkC X.N X.env.scope scope own=true)(hj:∀j∈js,j∈own.map (·.2))
  (hg:∀(s:Shared) (H:Hp) (C:Addr) (cl:List (Str×Addr)) (fp:List Addr),QG aj (X.blk s H scope (compEnvC scope cl C X.env) fp) tg js tgf)
  (ht:∀(s:Shared) (H:Hp) (C:Addr) (cl:List (Str×Addr)) (fp:List Addr),PTs (X.blk s H scope (compEnvC scope cl C X.env) fp) ifs (jT X.K aj WF tt))
  (he:∀(s:Shared) (H:Hp) (C:Addr) (cl:List (Str×Addr)) (fp:List Addr),QE aj (X.blk s H scope (compEnvC scope cl C X.env) fp) WF elt te) (hs:∀x,foldedSetIterable iter X.env x=pure x) :
  PE X (.ListComp elt [⟨tg,iter,ifs,0⟩] scope pos) (tFr X.K aj W (Ce it tgf (own.map (·.2)) tt te)):=
 PE.weak (pe_lc (g:=yR X.K aj js tgf) (tt:=jT X.K aj WF tt) (te:=tQ X.K aj WF te) hc hN hi (blkOk_by ok) (fun s H C cl fp=>hg s H C cl fp) ht (fun s H C cl fp=>he s H C cl fp) hs) fun σ H Q h=>X5 hj σ H Q h
end
def aY.sat{α:Type}(o:aY α)(P:α->Mo->Prop)(E:dI->Mo->Prop):Prop:=
 match o with
 |.ok a M=>P a M
 |.exc x M=>E x M
 |.bad=>False
def aY.bind{α β:Type}(o:aY α)(k:α->Mo->aY β):aY β:=
 match o with
 |.ok a M=>k a M
 |.exc x M=>.exc x M
 |.bad=>.bad
@[simp]theorem aY.yj {α β:Type} (a:α) (M:Mo) (k:α->Mo->aY β):(aY.ok a M).bind k=k a M:=rfl
@[simp]theorem aY.afb {α β:Type} (x:dI) (M:Mo) (k:α->Mo->aY β):(aY.exc x M:aY α).bind k=.exc x M:=rfl
@[simp]theorem aY.aef {α β:Type} (k:α->Mo->aY β):(aY.bad:aY α).bind k=.bad:=rfl
theorem aY.sat.bnd{α β:Type}{o:aY α}{k:α->Mo->aY β}{P:β->Mo->Prop}{E:dI->Mo->Prop}(h:(o.bind k).sat P E):o.sat (fun a M=>(k a M).sat P E) E:=by
 cases o <;> exact h
theorem aY.sat.mono{α:Type}{o:aY α}{P P':α->Mo->Prop}{E E':dI->Mo->Prop}(h:o.sat P E)(hp:∀a M,P a M->P' a M)(he:∀x M,E x M->E' x M):o.sat P' E':=by
 cases o
 ·exact hp _ _ h
 ·exact he _ _ h
 ·exact h
def Out.at{α:Type}(o:Out α)(M:Mo):aY α:=
 match o with
 |.ok a=>.ok a M
 |.exc x=>.exc x M
 |.bad=>.bad
@[simp]theorem Out.ap0 {α:Type} (a:α) (M:Mo):(Out.ok a).at M=.ok a M:=rfl
@[simp]theorem Out.aoR {α:Type} (x:dI) (M:Mo):(Out.exc x:Out α).at M=.exc x M:=rfl
@[simp]theorem Out.aoF {α:Type} (M:Mo):(Out.bad:Out α).at M=.bad:=rfl
theorem Out.iK{α:Type}{o:Out α}{M:Mo}{P:α->Mo->Prop}{E:dI->Mo->Prop}(h:(o.at M).sat P E):o.sat (fun a=>P a M) fun x=>E x M:=by
 cases o <;> exact h
abbrev GF:=Mo->Env->aY Dat
abbrev GT:=Mo->Env->aY Bool
def sJ.sat(o:sJ)(nx:Env->Mo->Prop)(rt:Dat->Mo->Prop)(bk ct:Env->Mo->Prop)(ex:dI->Env->Mo->Prop):Prop:=
 match o with
 |.next ρ M=>nx ρ M
 |.ret d M=>rt d M
 |.brk ρ M=>bk ρ M
 |.cont ρ M=>ct ρ M
 |.exc x ρ M=>ex x ρ M
 |.bad=>False
theorem sJ.sat.mono{o:sJ}{nx nx':Env->Mo->Prop}{rt rt':Dat->Mo->Prop}{bk bk' ct ct':Env->Mo->Prop}{ex ex':dI->Env->Mo->Prop}(h:o.sat nx rt bk ct ex)(h1:∀ρ M,nx ρ M->nx' ρ M)(h2:∀d M,rt d M->rt' d M)(h3:∀ρ M,bk ρ M->bk' ρ M)(h4:∀ρ M,ct ρ M->ct' ρ M)(h5:∀x ρ M,ex x ρ M->ex' x ρ M):o.sat nx' rt' bk' ct' ex':=by
 cases o
 ·exact h1 _ _ h
 ·exact h2 _ _ h
 ·exact h3 _ _ h
 ·exact h4 _ _ h
 ·exact h5 _ _ _ h
 ·exact h
abbrev SF:=Mo->Env->sJ
def Gh.fr(g:Gh):Gh:={ g with Lo:=fun _=>False }
section
variable(K:ap9)(aj:aO)(W:WX)(q:Bool)
def gE(g:Gh)(H:Hp)(σ:L2.St)(ρ:Env)(x:dI)(M':Mo):Prop:=∀H' g' c dd,Gr q g g' H H'->SInv K aj σ H' g' ρ M'->pU K aj g' H' x c dd->W c dd σ H'
def tE(f:GF):TE:=fun σ H Q=>∃g ρ M,SInv K aj σ H g ρ M/\(f M ρ).sat (fun d M'=>∀v H' g',Gr q g g' H H'->SInv K aj σ H' g' ρ M'->Rep K g' H' v d->Q v H') (gE K aj W q g H σ ρ)
def tET(f:GT):TT:=fun σ H Q=>∃g ρ M,SInv K aj σ H g ρ M/\(f M ρ).sat (fun b M'=>∀H' g',Gr q g g' H H'->SInv K aj σ H' g' ρ M'->Q b H') (gE K aj W q g H σ ρ)
def sN(k:L2.St->Hp->Prop)(g:Gh)(H:Hp)(ρ':Env)(M':Mo):Prop:=∀σ' H' g',Gr q g g' H H'->SInv K aj σ' H' g' ρ' M'->k σ' H'
def sR(k:VK)(g:Gh)(H:Hp)(d:Dat)(M':Mo):Prop:=∀v H' g',Gr q g g' H H'->Kd g'.fr H'->fM K aj g'.fr H' M'->Rep K g'.fr H' v d->k v H'
def sX(g:Gh)(H:Hp)(x:dI)(ρ':Env)(M':Mo):Prop:=∀σ' H' g' c dd,Gr q g g' H H'->SInv K aj σ' H' g' ρ' M'->pU K aj g'.fr H' x c dd->W c dd σ' H'
def tS(f:SF):TS:=fun D σ H=>∃g ρ M,SInv K aj σ H g ρ M/\(f M ρ).sat (sN K aj q D.nx g H) (sR K aj q D.rt g H) (sN K aj q D.bk g H) (sN K aj q D.ct g H) (sX K aj W q g H)
end
section
variable{K:ap9}{aj:aO}{W:WX}{q:Bool}{g g1:Gh}{H H1:Hp}{σ:L2.St}{ρ:Env}{M:Mo}
theorem gE.gr{x:dI}{M':Mo}(r:Gr q g g1 H H1)(h:gE K aj W q g H σ ρ x M'):gE K aj W q g1 H1 σ ρ x M':=fun H' g' c dd r' I z=>h H' g' c dd (r.trans r') I z
theorem sN.gr{k:L2.St->Hp->Prop}{ρ':Env}{M':Mo}(r:Gr q g g1 H H1)(h:sN K aj q k g H ρ' M'):sN K aj q k g1 H1 ρ' M':=fun σ' H' g' r' I=>h σ' H' g' (r.trans r') I
theorem sR.gr{k:VK}{d:Dat}{M':Mo}(r:Gr q g g1 H H1)(h:sR K aj q k g H d M'):sR K aj q k g1 H1 d M':=fun v H' g' r' I z y=>h v H' g' (r.trans r') I z y
theorem sX.gr{x:dI}{ρ':Env}{M':Mo}(r:Gr q g g1 H H1)(h:sX K aj W q g H x ρ' M'):sX K aj W q g1 H1 x ρ' M':=fun σ' H' g' c dd r' I z=>h σ' H' g' c dd (r.trans r') I z
theorem tE.go{f:GF}{k:Dat->Mo->Prop}{Q:VK}(I:SInv K aj σ H g ρ M)(h:(f M ρ).sat k (gE K aj W q g H σ ρ))(hk:∀d M' v H' g',k d M'->Gr q g g' H H'->SInv K aj σ H' g' ρ M'->Rep K g' H' v d->Q v H'):tE K aj W q f σ H Q:=
 ⟨g,ρ,M,I,h.mono (fun d M' hd v H' g' e I' r=>hk d M' v H' g' hd e I' r) fun _ _ z=>z⟩
theorem tET.go{f:GT}{k:Bool->Mo->Prop}{Q:Bool->Hp->Prop}(I:SInv K aj σ H g ρ M)(h:(f M ρ).sat k (gE K aj W q g H σ ρ))(hk:∀b M' H' g',k b M'->Gr q g g' H H'->SInv K aj σ H' g' ρ M'->Q b H'):tET K aj W q f σ H Q:=
 ⟨g,ρ,M,I,h.mono (fun d M' hd H' g' e I'=>hk d M' H' g' hd e I') fun _ _ z=>z⟩
theorem tS.go{f:SF}{D:Ends}(I:SInv K aj σ H1 g1 ρ M)(r:Gr q g g1 H H1)(h:(f M ρ).sat (sN K aj q D.nx g H) (sR K aj q D.rt g H) (sN K aj q D.bk g H) (sN K aj q D.ct g H) (sX K aj W q g H)):tS K aj W q f D σ H1:=
 ⟨g1,ρ,M,I,h.mono (fun _ _ z=>z.gr r) (fun _ _ z=>z.gr r) (fun _ _ z=>z.gr r) (fun _ _ z=>z.gr r) (fun _ _ _ z=>z.gr r)⟩
theorem j8.less{g':Gh}{fs:List (Str×V)}{gs:List (Str×Dat)}(e:g'.tbl=g.tbl)(n:∀a,g'.A a->g.A a)(h:j8 K g H fs gs):j8 K g' H fs gs:=by
 induction h with
 |nil=>exact .nil
 |cons r _ ih=>exact .cons (r.less e n) ih
theorem pU.less{g':Gh}{x:dI}{c:Value}{dd:Option Addr}(e:g'.tbl=g.tbl)(n:∀a,g'.A a->g.A a)(h:pU K aj g H x c dd):pU K aj g' H x c dd:=by
 obtain⟨C,h1,h2,h3⟩:=h
 refine⟨C,h1,h2,h3.imp id fun⟨a,fs,e1,e2,e3⟩=>⟨a,fs,e1,e2,e3.less e n⟩⟩
theorem vP(g:Gh):∀a,g.fr.A a->g.A a:=fun a z=>z.elim .inl fun z=>.inr (z.elim .inl fun z=>False.elim z)
theorem Rep.fr{v:V}{d:Dat}(h:Rep K g H v d):Rep K g.fr H v d:=Rep.less (g:=g) (g':=g.fr) rfl (vP g) h
theorem aH.fr{v:List V}{d:List Dat}(h:aH K g H v d):aH K g.fr H v d:=aH.less (g:=g) (g':=g.fr) rfl (vP g) h
theorem pU.fr{x:dI}{c:Value}{dd:Option Addr}(h:pU K aj g H x c dd):pU K aj g.fr H x c dd:=pU.less (g:=g) (g':=g.fr) rfl (vP g) h
end
def GE(aj:aO)(X:Cx)(W:WX)(q:Bool)(e:Expr)(f:GF):Prop:=PE X e (tE X.K aj W q f)
def GTe(aj:aO)(X:Cx)(W:WX)(q:Bool)(e:Expr)(f:GT):Prop:=PT X e (tET X.K aj W q f)
def SE(aj:aO)(X:Cx)(W:WX)(q:Bool)(s:Stmt)(f:SF):Prop:=PS X s (tS X.K aj W q f)
def Iz(aj:aO)(X:Cx)(W:WX)(q:Bool)(s:List Stmt)(f:SF):Prop:=PSs X s (tS X.K aj W q f)
theorem PS.weak{X:Cx}{e:Stmt}{t t':TS}(h:PS X e t)(k:∀D σ H,t' D σ H->t D σ H):PS X e t':=⟨fun pins s σ H D I z=>h.run pins s σ H D I (k D σ H z)⟩
theorem PSs.weak{X:Cx}{e:List Stmt}{t t':TS}(h:PSs X e t)(k:∀D σ H,t' D σ H->t D σ H):PSs X e t':=⟨fun pins s σ H D I z=>h.run pins s σ H D I (k D σ H z)⟩
def gOf(f:QF):GF:=fun M ρ=>(f M ρ).at M
def aeS(f:QT):GT:=fun M ρ=>(f M ρ).at M
section
variable{X:Cx}{aj:aO}{W:WX}{q:Bool}{a b e:Expr}{pos:Pos}
theorem afl{f:QF}(h:QE aj X W e f):GE aj X W q e (gOf f):=PE.weak h fun σ H Q ⟨g,ρ,M,I,z⟩=>
 ⟨g,ρ,M,I,(Out.iK z).mono (fun d k v H' e r=>k v H' g (Gr.ex e) (I.ex e) r) fun x k H' c dd e r=>k H' g c dd (Gr.ex e) (I.ex e) r⟩
theorem akN{f:QT}(h:rA aj X W e f):GTe aj X W q e (aeS f):=PT.weak h fun σ H Q ⟨g,ρ,M,I,z⟩=>
 ⟨g,ρ,M,I,(Out.iK z).mono (fun d k H' e=>k H' g (Gr.ex e) (I.ex e)) fun x k H' c dd e r=>k H' g c dd (Gr.ex e) (I.ex e) r⟩
def aR:SF:=fun M ρ=>.next ρ M
def aD(f k:SF):SF:=fun M ρ=>match f M ρ with
 |.next ρ' M'=>k M' ρ'
 |o=>o
theorem ah1:Iz aj X W q [] aR:=PSs.weak pss_nil fun D σ H ⟨g,ρ,M,I,z⟩=>z σ H g .refl I
theorem ajw{s:Stmt}{f:SF}(h:SE aj X W q s f):Iz aj X W q [s] f:=pss_one h
theorem agQ{s:Stmt}{ss:List Stmt}{f k:SF}(h:SE aj X W q s f)(hs:Iz aj X W q ss k):Iz aj X W q (s::ss) (aD f k):=by
 refine PSs.weak (pss_cons h hs) fun D σ H ⟨g,ρ,M,I,z⟩=>?_
 refine⟨g,ρ,M,I,?_⟩
 unfold aD at z
 cases hf:f M ρ with
 |next ρ' M'=>
  rw[hf]at z
  exact fun σ' H' g' r I'=>tS.go I' r z
 |ret d M'=>rw[hf]at z;exact z
 |brk ρ' M'=>rw[hf]at z;exact z
 |cont ρ' M'=>rw[hf]at z;exact z
 |exc x ρ' M'=>rw[hf]at z;exact z
 |bad=>rw[hf]at z;exact z
def aY.then{α:Type}(o:aY α)(ρ:Env)(k:α->Mo->sJ):sJ:=
 match o with
 |.ok a M=>k a M
 |.exc x M=>.exc x ρ M
 |.bad=>.bad
@[simp]theorem aY.ani {α:Type} (a:α) (M:Mo) (ρ:Env) (k:α->Mo->sJ):(aY.ok a M).then ρ k=k a M:=rfl
@[simp]theorem aY.alV {α:Type} (x:dI) (M:Mo) (ρ:Env) (k:α->Mo->sJ):(aY.exc x M:aY α).then ρ k=.exc x ρ M:=rfl
@[simp]theorem aY.al2 {α:Type} (ρ:Env) (k:α->Mo->sJ):(aY.bad:aY α).then ρ k=.bad:=rfl
theorem cZ{α:Type}{K:ap9}{g:Gh}{H:Hp}{σ:L2.St}{ρ:Env}{o:aY α}{k:α->Mo->sJ}{nx bk ct:Env->Mo->Prop}{rt:Dat->Mo->Prop}(h:(o.then ρ k).sat nx rt bk ct (sX K aj W q g H)):o.sat (fun a M=>(k a M).sat nx rt bk ct (sX K aj W q g H)) (gE K aj W q g H σ ρ):=by
 cases o with
 |ok a M=>exact h
 |exc x M=>exact fun H' g' c dd r I z=>h σ H' g' c dd r I z.fr
 |bad=>exact h
def aZ(tg:fB)(f:GF):SF:=fun M ρ=>(f M ρ).then ρ fun d M'=>match tg d ρ with
 |some ρ'=>.next ρ' M'
 |none=>.bad
theorem Xk{tg:Expr}{js:List Nat}{tf:fB}{f:GF}(he:GE aj X W q e f)(hg:QG aj X tg js tf)(hs:swapsWithSole [tg] e pos.line X.env=pure false)(hw:swappedStores [tg] e X.env=pure none)(h1:(assignEach [tg] X.env).map (·.2)=[assign tg X.env]):SE aj X W q (.Assign [tg] e pos) (aZ tf f):=by
 refine PS.weak (ps_asg he hg hs hw h1) fun D σ H ⟨g,ρ,M,I,z⟩=>?_
 refine tE.go I (cZ (σ:=σ) z) fun d M' v H' g' k r I' rv=>?_
 split at k
 ·next ρ' e'=>exact⟨g',ρ,M',d,ρ',I',rv,e',fun vs I2=>k _ H' g' r I2⟩
 ·exact False.elim k
def cG(f:GF):SF:=fun M ρ=>(f M ρ).then ρ fun _ M'=>.next ρ M'
theorem SQ{f:GF}(he:GE aj X W q e f)(hs:swapsWith e none pos.line X.env=pure false):SE aj X W q (.Expr e pos) (cG f):=by
 refine PS.weak (ps_expr he hs) fun D σ H ⟨g,ρ,M,I,z⟩=>?_
 exact tE.go I (cZ (σ:=σ) z) fun d M' v H' g' k r I' rv=>k σ H' g' r I'
end
def Rc:Cell->Cell
 |.mut xs=>.dat (.list xs)
 |c=>c
def qX(ρ:Env):Env:=ρ.map fun o=>o.map Rc
section
variable{K:ap9}{aj:aO}{W:WX}{q:Bool}{g:Gh}{H:Hp}{σ:L2.St}{ρ:Env}{M:Mo}
theorem ji.less{g':Gh}{l:Addr}(e:g'.tbl=g.tbl)(n:∀a,g'.A a->g.A a):∀{b:Bool} {kvs:List (Dat×Dat)},ji K aj g H l b kvs->ji K aj g' H l b kvs
 |false,_,⟨kv,h1,h2,h3⟩=>⟨kv,h1,h2,h3.less e n⟩
 |true,_,⟨o,xs,vs,h1,h2,h3,h4,h5,h6⟩=>⟨o,xs,vs,h1,h2,h3,h4.less e n,h5,h6.less e n⟩
theorem dO.less{g':Gh}{h:Nat}{f:Str}{v:V}(e:g'.tbl=g.tbl)(e2:g'.ow=g.ow)(n:∀a,g'.A a->g.A a):∀{fl:iJ},dO K aj g H h f v fl->dO K aj g' H h f v fl
 |.dat _,z=>Rep.less e n z
 |.lst _ _,⟨l,us,h1,h2,h3,h4,h5⟩=>⟨l,us,h1,h2,by rw[e2];exact h3,h4.less e n,by rw[e];exact h5⟩
 |.dic _ _,⟨l,h1,h2,h3⟩=>⟨l,h1,by rw[e2];exact h2,h3.less e n⟩
theorem cJ.less{g':Gh}{h:Nat}(e:g'.tbl=g.tbl)(e2:g'.ow=g.ow)(n:∀a,g'.A a->g.A a):∀{fs:List (Str×V)} {gs:List (Str×iJ)},cJ K aj g H h fs gs->cJ K aj g' H h fs gs
 |_,_,.nil=>.nil
 |_,_,.cons z t=>.cons (dO.less e e2 n z) (cJ.less e e2 n t)
theorem fM.less{g':Gh}(e:g'.tbl=g.tbl)(e2:g'.ow=g.ow)(n:∀a,g'.A a->g.A a)(w:fM K aj g H M):fM K aj g' H M where
 len:=by rw[e];exact w.len
 inj:=by rw[e];exact w.inj
 ins:=fun h a i ha hi hc=>by
  rw[e]at ha
  obtain⟨C,dx,fs,c1,c2,c3⟩:=w.ins h a i ha hi hc
  exact⟨C,dx,fs,c1,c2,c3.less e e2 n⟩
 nd:=w.nd
 fd:=w.fd
 tw:=by rw[e,e2];exact w.tw
 dm:=w.dm
 nc:=w.nc
theorem M7{i:Nat}{c:Cell}(h:(qX ρ)[i]?=some (some c)):∃c',ρ[i]?=some (some c')/\c=Rc c':=by
 unfold qX at h
 rw[aqm]at h
 cases hr:ρ[i]? with
 |none=>rw[hr]at h;cases h
 |some o=>
  rw[hr]at h
  cases o with
  |none=>cases h
  |some c'=>
   cases h
   exact⟨c',rfl,rfl⟩
theorem SInv.qX(I:SInv K aj σ H g ρ M):SInv K aj σ H g.fr (qX ρ) M where
 kd:=⟨fun a z=>I.kd.ob a (vP g a z),fun a z=>False.elim z,fun a z=>⟨(I.kd.lc a z).1,fun y=>y⟩⟩
 wok:=fM.less (g:=g) (g':=g.fr) rfl rfl (vP g) I.wok
 len:=by unfold Rf.qX;rw[aqj];exact I.len
 dat:=fun i d h=>by
  obtain⟨c,h1,h2⟩:=M7 h
  cases c with
  |dat d'=>
   cases h2
   obtain⟨v,e1,e2⟩:=I.dat i _ h1
   exact⟨v,e1,e2.fr⟩
  | «mut» xs=>
   cases h2
   obtain⟨l,us,e1,e2,e3,e4⟩:=I.own i _ h1
   refine⟨_,e1,.lst (.inl ⟨.inl e2,fun z=>?_⟩) e4.fr⟩
   rcases z with z|z|z
   ·exact I.kd.lo l e3 z
   ·exact(I.kd.lc l z).2 e3
   ·exact z
 own:=fun i xs h=>by
  obtain⟨c,h1,h2⟩:=M7 h
  cases c <;> cases h2
 sep:=fun i j xs ys l ne h1=>by
  obtain⟨c,h1,h2⟩:=M7 h1
  cases c <;> cases h2
end
section
variable{K:ap9}{aj:aO}{W:WX}{q:Bool}{g g':Gh}{H H':Hp}{σ:L2.St}{ρ:Env}{M:Mo}
theorem Kd.fr(k:Kd g H):Kd g.fr H:=⟨fun a z=>k.ob a (vP g a z),fun a z=>False.elim z,fun a z=>⟨(k.lc a z).1,fun y=>y⟩⟩
theorem fM.fr(w:fM K aj g H M):fM K aj g.fr H M:=fM.less (g:=g) (g':=g.fr) rfl rfl (vP g) w
theorem bF{α:Type}{l:List (Option α)}{j i:Nat}{c:α}{o:Option α}(h:(l.set j o)[i]?=some (some c)):(j=i/\o=some c/\j < l.length)∨(j≠i/\l[i]?=some (some c)):=by
 by_cases z:j=i
 ·subst z
  have hj:j < l.length:=by
   have:=(aqb.mp h).1
   rw[aqy]at this
   exact this
  rw[aqr hj]at h
  exact .inl ⟨rfl,aqv h,hj⟩
 ·rw[aqi z]at h
  exact .inr ⟨z,h⟩
theorem SInv.ajm{j:Nat}{l:Addr}{us:List V}{xs:List Dat}(I:SInv K aj σ H g ρ M)(n:H l=none)(e:Ex H H')(hl:H' l=some (.lst us))(r:aH K (g.add l) H' us xs):SInv K aj (σ.set j (some (.ref l))) H' (g.add l) (ρ.set j (some (.mut xs))) M:=by
 have I1:=I.add n e hl trivial
 have nl:∀(i:Nat) (ys:List Dat),ρ[i]?=some (some (.mut ys))->σ[i]?≠some (some (.ref l)):=fun i ys h z=>by
  obtain⟨l',us',h1,h2,_⟩:=I.own i ys h
  rw[z]at h1
  cases h1
  rw[n]at h2
  cases h2
 refine⟨I1.kd,I1.wok,by rw[aqy,aqy];exact I.len,fun i d h=>?_,fun i ys h=>?_,fun i k ys zs a ne h1 h2 h3 h4=>?_⟩
 ·rcases bF h with⟨_,h,_⟩|⟨ne,h⟩
  ·cases h
  ·rw[aqi ne]
   exact I1.dat i d h
 ·rcases bF h with⟨rfl,h,hj⟩|⟨ne,h⟩
  ·cases h
   exact⟨l,us,by rw[aqr (by rw[I.len];exact hj)],hl,.inr rfl,r⟩
  ·rw[aqi ne]
   exact I1.own i ys h
 ·rcases bF h1 with⟨rfl,h1,hj⟩|⟨n1,h1⟩
  ·rcases bF h2 with⟨rfl,h2,_⟩|⟨n2,h2⟩
   ·exact ne rfl
   ·rw[aqr (by rw[I.len];exact hj)]at h3
    cases h3
    rw[aqi n2]at h4
    exact nl k zs h2 h4
  ·rcases bF h2 with⟨rfl,h2,hj⟩|⟨n2,h2⟩
   ·rw[aqr (by rw[I.len];exact hj)]at h4
    cases h4
    rw[aqi n1]at h3
    exact nl i ys h1 h3
   ·rw[aqi n1]at h3
    rw[aqi n2]at h4
    exact I.sep i k ys zs a ne h1 h2 h3 h4
theorem dO.loc{l:Addr}{us us':List V}{h:Nat}{f:Str}{v:V}(k:Kd g H)(hl:H l=some (.lst us))(lo:g.Lo l):∀{fl:iJ},dO K aj g H h f v fl->dO K aj g (upd H l (.lst us')) h f v fl:=fun {fl} z=>by
 have r:Gr true g g H (upd H l (.lst us')):=Gr.upd k hl (.inr lo)
 cases fl with
 |dat d=>exact Rep.gr r k z
 |lst n xs=>
  obtain⟨a,ws,h1,h2,h3,h4,h5⟩:=z
  exact⟨a,ws,h1,by rw[upd_ne (fun z=>by subst z;exact k.lo _ lo (.inr (by rw[h3];exact fun z=>nomatch z)))];exact h2,h3,h4.gr r k,h5⟩
 |dic n kvs=>
  obtain⟨a,h1,h2,h3⟩:=z
  have na:a≠l:=fun z=>by subst z;exact k.lo _ lo (.inr (by rw[h2];exact fun z=>nomatch z))
  refine⟨a,h1,h2,?_⟩
  cases n with
  |false=>
   obtain⟨kv,h3,h4,h5⟩:=h3
   exact⟨kv,by rw[upd_ne na];exact h3,h4,h5.gr r k⟩
  |true=>
   obtain⟨o,xs,vs,h3,h4,h5,h6,h7,h8⟩:=h3
   exact⟨o,xs,vs,by rw[upd_ne na];exact h3,h4,h5,h6.gr r k,h7,h8.gr r k⟩
theorem cJ.loc{l:Addr}{us us':List V}{h:Nat}(k:Kd g H)(hl:H l=some (.lst us))(lo:g.Lo l):∀{fs:List (Str×V)} {gs:List (Str×iJ)},cJ K aj g H h fs gs->cJ K aj g (upd H l (.lst us')) h fs gs
 |_,_,.nil=>.nil
 |_,_,.cons z t=>.cons (dO.loc k hl lo z) (cJ.loc k hl lo t)
theorem fM.loc{l:Addr}{us us':List V}(k:Kd g H)(hl:H l=some (.lst us))(lo:g.Lo l)(w:fM K aj g H M):fM K aj g (upd H l (.lst us')) M where
 len:=w.len
 inj:=w.inj
 ins:=fun h a i ha hi hc=>by
  obtain⟨C,dx,fs,c1,c2,c3⟩:=w.ins h a i ha hi hc
  exact⟨C,dx,fs,c1,by rw[upd_ne (fun z=>by subst z;exact k.lo _ lo (.inl (aqh ha)))];exact c2,c3.loc k hl lo⟩
 nd:=w.nd
 fd:=w.fd
 tw:=w.tw
 dm:=w.dm
 nc:=w.nc
theorem SInv.change{j:Nat}{xs ys:List Dat}(I:SInv K aj σ H g ρ M)(hj:ρ[j]?=some (some (.mut xs))):∃l us,σ[j]?=some (some (.ref l))/\H l=some (.lst us)/\g.Lo l/\aH K g H us xs/\∀us',aH K g H us' ys->SInv K aj σ (upd H l (.lst us')) g (ρ.set j (some (.mut ys))) M:=by
 obtain⟨l,us,h1,h2,h3,h4⟩:=I.own j xs hj
 refine⟨l,us,h1,h2,h3,h4,fun us' r=>?_⟩
 have gr:Gr true g g H (upd H l (.lst us')):=Gr.upd I.kd h2 (.inr h3)
 refine⟨I.kd.upd trivial,I.wok.loc I.kd h2 h3,by rw[aqy];exact I.len,fun i d h=>?_,fun i zs h=>?_,fun i k zs ws a ne e1 e2 e3 e4=>?_⟩
 ·rcases bF h with⟨_,h,_⟩|⟨ne,h⟩
  ·cases h
  ·obtain⟨v,e1,e2⟩:=I.dat i d h
   exact⟨v,e1,e2.gr gr I.kd⟩
 ·rcases bF h with⟨rfl,h,_⟩|⟨ne,h⟩
  ·cases h
   exact⟨l,us',h1,upd_same,h3,r.gr gr I.kd⟩
  ·obtain⟨l',ws,e1,e2,e3,e4⟩:=I.own i zs h
   have nl:l'≠l:=fun z=>by
    subst z
    exact I.sep i j zs xs l' (Ne.symm ne) h hj e1 h1
   exact⟨l',ws,e1,by rw[upd_ne nl];exact e2,e3,e4.gr gr I.kd⟩
 ·have k1:∃xs,ρ[i]?=some (some (.mut xs)):=by
   rcases bF e1 with⟨rfl,_,_⟩|⟨_,h⟩
   ·exact⟨xs,hj⟩
   ·exact⟨zs,h⟩
  have k2:∃xs,ρ[k]?=some (some (.mut xs)):=by
   rcases bF e2 with⟨rfl,_,_⟩|⟨_,h⟩
   ·exact⟨xs,hj⟩
   ·exact⟨ws,h⟩
  obtain⟨x1,k1⟩:=k1
  obtain⟨x2,k2⟩:=k2
  exact I.sep i k x1 x2 a ne k1 k2 e3 e4
end
section
variable{X:Cx}{aj:aO}{W:WX}{q:Bool}{a b e:Expr}{pos:Pos}
def aQ(f:QF):SF:=fun M ρ=>((f M (qX ρ)).at M).then ρ fun d M'=>.ret d M'
def gM(f:GF):SF:=fun M ρ=>(f M ρ).then ρ fun d M'=>.ret d M'
theorem aji{f:QF}(he:QE aj X W e f):SE aj X W q (.Return (some e) pos) (aQ f):=by
 refine PS.weak (ps_ret he) fun D σ H ⟨g,ρ,M,I,z⟩=>?_
 refine⟨g.fr,qX ρ,M,I.qX,?_⟩
 unfold aQ at z
 cases hf:f M (qX ρ) with
 |ok d=>
  rw[hf]at z
  exact fun v H' e r=>z v H' g (Gr.ex e) (I.ex e).kd.fr (I.ex e).wok.fr r
 |exc x=>
  rw[hf]at z
  exact fun H' c dd e r=>z σ H' g c dd (Gr.ex e) (I.ex e) r
 |bad=>rw[hf]at z;exact False.elim z
theorem ags{f:GF}(he:GE aj X W q e f):SE aj X W q (.Return (some e) pos) (gM f):=by
 refine PS.weak (ps_ret he) fun D σ H ⟨g,ρ,M,I,z⟩=>?_
 exact tE.go I (cZ (σ:=σ) z) fun d M' v H' g' k r I' rv=>k v H' g' r I'.kd.fr I'.wok.fr rv.fr
def bO(t:QT)(f k:SF):SF:=fun M ρ=>((t M (qX ρ)).at M).then ρ fun c M'=>if c=true then f M' ρ else k M' ρ
def amd(t:GT)(f k:SF):SF:=fun M ρ=>(t M ρ).then ρ fun c M'=>if c=true then f M' ρ else k M' ρ
theorem akL{c:Expr}{s1 s2:List Stmt}{t:QT}{f k:SF}(hc:rA aj X W c t)(h1:Iz aj X W q s1 f)(h2:Iz aj X W q s2 k):SE aj X W q (.If c s1 s2 pos) (bO t f k):=by
 refine PS.weak (ps_if hc h1 h2) fun D σ H ⟨g,ρ,M,I,z⟩=>?_
 refine⟨g.fr,qX ρ,M,I.qX,?_⟩
 unfold bO at z
 cases hf:t M (qX ρ) with
 |ok d=>
  rw[hf]at z
  intro H' e
  cases d with
  |true=>exact tS.go (I.ex e) (Gr.ex e) z
  |false=>exact tS.go (I.ex e) (Gr.ex e) z
 |exc x=>
  rw[hf]at z
  exact fun H' c dd e r=>z σ H' g c dd (Gr.ex e) (I.ex e) r
 |bad=>rw[hf]at z;exact False.elim z
def iy(tg:fB)(body:SF):List Dat->Mo->Env->sJ
 |[],M,ρ=>.next ρ M
 |d::ds,M,ρ=>match tg d ρ with
  |none=>.bad
  |some ρ1=>match body M ρ1 with
   |.next ρ2 M2=>iy tg body ds M2 ρ2
   |.cont ρ2 M2=>iy tg body ds M2 ρ2
   |.brk ρ2 M2=>.next ρ2 M2
   |.ret d M2=>.ret d M2
   |.exc x ρ2 M2=>.exc x ρ2 M2
   |.bad=>.bad
def uI(it:IF)(tg:fB)(body:SF):SF:=fun M ρ=>((it M ρ).at M).then ρ fun ds M'=>iy tg body ds M' ρ
theorem ahD{tg iter:Expr}{body:List Stmt}{it:IF}{js:List Nat}{tf:fB}{f:SF}(hp:PassesOwn (model X.prog X.w) X.A X.env X.xe)(hc:X.calm=true)(hi:QI aj X W true tg iter it)(hg:QG aj X tg js tf)(hb:Iz aj X W q body f)(hs:∀x,foldedSetIterable iter X.env x=pure x) :
  SE aj X W q (.For tg iter body [] pos) (uI it tf f):=by
 refine PS.weak (ps_for hp hc hi hg hb hs) fun D σ H ⟨g,ρ,M,I,z⟩=>?_
 refine⟨g,ρ,M,I,?_⟩
 unfold uI at z
 cases hf:it M ρ with
 |exc x=>
  rw[hf]at z
  exact fun H' c dd e r=>z σ H' g c dd (Gr.ex e) (I.ex e) r.fr
 |bad=>rw[hf]at z;exact False.elim z
 |ok ds=>
  rw[hf]at z
  intro J C H1 e1 w c1 firm
  have firm:=firm rfl
  have z:(iy tf f ds M ρ).sat (sN X.K aj q D.nx g H) (sR X.K aj q D.rt g H) (sN X.K aj q D.bk g H) (sN X.K aj q D.ct g H) (sX X.K aj W q g H):=z
  let Pv:Nat->L2.St->Hp->Prop:=fun i σi Hi=>i<=ds.length/\∃gi ρi Mi,Gr q g gi H Hi/\SInv X.K aj σi Hi gi ρi Mi/\C gi Hi/\(iy tf f (ds.drop i) Mi ρi).sat (sN X.K aj q D.nx g H) (sR X.K aj q D.rt g H) (sN X.K aj q D.bk g H) (sN X.K aj q D.ct g H) (sX X.K aj W q g H)
  refine⟨fun i m σi Hi=>m=ds.length - i/\Pv i σi Hi,⟨ds.length,rfl,aqM _,g,ρ,M,Gr.ex e1,I.ex e1,c1,by rw[arp];exact z⟩,?_⟩
  rintro i m σi Hi ⟨rfl,hi,gi,ρi,Mi,ri,Ii,Ci,zi⟩
  by_cases hlt:i < ds.length
  ·refine .inr ⟨w.go _ i Hi Ci hlt,Pv (i+1),fun σ' H' p=>⟨ds.length - (i+1),by omega,rfl,p⟩,fun x H' y=>?_⟩
   have hd:ds[i]?=some ds[i]:=aqc hlt
   obtain⟨e2,rx⟩:=w.yld _ i Hi x H' _ Ii.kd Ci hd y
   rw[aqW hlt,iy]at zi
   split at zi
   ·exact False.elim zi
   ·next ρ1 he=>
    have I2:=Ii.ex e2
    refine⟨gi,ρi,Mi,_,ρ1,I2,rx,he,fun vs I3=>⟨gi,ρ1,Mi,I3,?_⟩⟩
    have r2:=ri.trans (Gr.ex e2)
    cases hb':f Mi ρ1 with
    |next ρ2 M2=>
     rw[hb']at zi
     exact fun σ' H2 g2 r I'=>⟨hlt,g2,ρ2,M2,r2.trans r,I',firm q gi g2 H' H2 I2.kd (w.ex _ _ _ Ii.kd Ci e2) r,zi⟩
    |cont ρ2 M2=>
     rw[hb']at zi
     exact fun σ' H2 g2 r I'=>⟨hlt,g2,ρ2,M2,r2.trans r,I',firm q gi g2 H' H2 I2.kd (w.ex _ _ _ Ii.kd Ci e2) r,zi⟩
    |brk ρ2 M2=>
     rw[hb']at zi
     exact sN.gr r2 zi
    |ret d M2=>
     rw[hb']at zi
     exact sR.gr r2 zi
    |exc x ρ2 M2=>
     rw[hb']at zi
     exact sX.gr r2 zi
    |bad=>rw[hb']at zi;exact False.elim zi
  ·have e:i=ds.length:=by omega
   refine .inl ⟨w.stop _ i Hi Ci e,?_⟩
   rw[e,aq2]at zi
   exact zi σi Hi gi ri Ii
def NP(j:Nat)(f:QF):SF:=fun M ρ=>match ρ[j]? with
 |some (some (.dat (.int i)))=>((f M ρ).at M).then ρ fun d M'=>match d with
  |.int k=>.next (ρ.set j (some (.dat (.int (i+k))))) M'
  |_=>.bad
 |_=>.bad
theorem ajQ{j:Nat}{x:Str}{f:QF}{pos':Pos}(hN:X.N.Nodup)(hi:X.N[j]?=some x)(hx:Loc X.env.scope x)(hf:X.fn x=true∨X.env.scope.names.lookup x=some .local)(he:QE aj X W e f):SE aj X W q (.AugAssign (.Name x pos') .Add e pos) (NP j f):=by
 refine PS.weak (ps_aug hN hi hx he ip_add hf) fun D σ H ⟨g,ρ,M,I,z⟩=>?_
 unfold NP at z
 split at z
 ·next i hj=>
  obtain⟨v,h1,h2⟩:=I.dat j _ hj
  cases h2
  refine⟨.int i,h1,⟨g,ρ,M,I,?_⟩⟩
  cases hf':f M ρ with
  |exc x=>rw[hf']at z;exact fun H' c dd e r=>z σ H' g c dd (Gr.ex e) (I.ex e) r.fr
  |bad=>rw[hf']at z;exact False.elim z
  |ok d=>
   rw[hf']at z
   intro u H' e r
   cases d with
   |int k=>
    cases r
    exact⟨i,k,rfl,rfl,z _ H' g (Gr.ex e) ((I.ex e).set (.int _))⟩
   |_=>exact False.elim z
 ·exact False.elim z
def FE(aj:aO)(X:Cx)(W:WX)(e:Expr)(f:IF):Prop:=PE X e (tFr X.K aj W f)
def Hl(j:Nat)(f:IF):SF:=fun M ρ=>((f M ρ).at M).then ρ fun xs M'=>.next (ρ.set j (some (.mut xs))) M'
theorem adL{j:Nat}{f:IF}(D:Ends)(σ:L2.St)(H:Hp)(h:tS X.K aj W q (Hl j f) D σ H):tAsg (tFr X.K aj W f) (gName j) D σ H:=by
 obtain⟨g,ρ,M,I,z⟩:=h
 refine⟨g,ρ,M,I,?_⟩
 unfold Hl at z
 cases hf:f M ρ with
 |exc x=>rw[hf]at z;exact fun H' c dd e r=>z σ H' g c dd (Gr.ex e) (I.ex e) r.fr
 |bad=>rw[hf]at z;exact False.elim z
 |ok xs=>
  rw[hf]at z
  intro l us H' n e hl r
  have gr:Gr true g (g.add l) H H':=Gh.Fb n e
  refine z _ H' (g.add l) ?_ (I.ajm n e hl r)
  cases q with
  |true=>exact gr
  |false=>exact gr.loud
theorem acf{j:Nat}{x:Str}{f:IF}{pos':Pos}(hN:X.N.Nodup)(hi:X.N[j]?=some x)(hx:Loc X.env.scope x)(hf:X.fn x=true∨X.env.scope.names.lookup x=some .local)(he:FE aj X W e f)(hs:swapsWith e (some (.Name x pos')) pos.line X.env=pure false):SE aj X W q (.Assign [.Name x pos'] e pos) (Hl j f):=
 PS.weak (ps_set hN hi hx he hs hf) fun D σ H h=>adL D σ H h
def Q9(f:QA):IF:=fun M ρ=>(f M ρ).bind fun xs=>Out.when (decide (xs.length<=100000)) (.ok xs)
theorem adY{K:ap9}{g:Gh}{H:Hp}{l:Addr}{vs:List V}{ds:List Dat}(k:Kd g H)(n:H l=none)(r:aH K g H vs ds){o:HO}:aH K (g.add l) (upd H l o) vs ds:=r.gr (Gh.Fb n (Ex.new n)) k
theorem ajf{es:List Expr}{fr:QA}(h:Cr aj X W es fr):FE aj X W (.List es pos) (Q9 fr):=
 PE.weak (pe_lst h) fun σ H Q ⟨g,ρ,M,I,h⟩=>by
  refine Mv.go I h.bnd fun ds vs H1 h1 e1 r1=>?_
  obtain⟨hz,h1⟩:=h1.pH
  have hl:vs.length<=100000:=by
   rw[r1.length]
   exact of_decide_eq_true hz
  exact⟨sz_of hl,fun p np=>h1 p vs _ (Bu e1 p np) (e1.trans (Ex.new np)) upd_same (adY (I.kd.ex e1) np r1)⟩
def Wv:Dat->Out (List Dat)
 |.list ds=>.ok ds
 |.tuple ds=>.ok ds
 |_=>.bad
def aec(f:QF):IF:=fun M ρ=>(f M ρ).bind Wv
def baseOk:Expr->Bool
 |.Call (.Name _ _) _ _ _=>false
 |_=>true
theorem lN{o:Expr}{m:Str}{env:PySem.Env}{w:Sem Value}(h:baseOk o=true):attributeBase o m env w=w:=by
 cases o with
 | Call f as ks p=>cases f <;> first | rfl | cases h
 |_=>rfl
theorem WY{env:PySem.Env}{pos:Pos}:∀(es:List Expr),es.all nst=true->(backTo pos (starEach es env)).all (fun x=>!x.1)=true
 |[],_=>by with_unfolding_all rfl
 |a::es,h=>by
  rw[aqK,aqa]at h
  rw[cO h.1]
  have ih:=WY (env:=env) (pos:=pos) es h.2
  unfold backTo at ih ⊢
  rw[aqd,aqK,ih]
  rfl
theorem few{env:PySem.Env}{pos:Pos}{es:List Expr}(h:es.all nst=true)(hl:es.length < 30):((backTo pos (starEach es env)).all (fun x=>!x.1)&&(backToKw pos (keywordEach [] env)).all (fun x=>x.1.isSome)&&decide (es.length+([]:List Keyword).length+(if ([]:List Keyword).isEmpty then 0 else 1) < 30))=true:=by
 rw[WY es h]
 have:(backToKw pos (keywordEach [] env)).all (fun x=>x.1.isSome)=true:=by with_unfolding_all rfl
 rw[this]
 simpa using hl
def Nh(j:Nat)(f:QF):SF:=fun M ρ=>match ρ[j]? with
 |some (some (.mut xs))=>((f M ρ).at M).then ρ fun d M'=>if xs.length < 100000 then .next (ρ.set j (some (.mut (xs++[d])))) M' else .bad
 |_=>.bad
theorem ajk{j:Nat}{x:Str}{f:QF}{p apos:Pos}{epos:Pos}(hN:X.N[j]?=some x)(hv:Vis X.env.scope x)(hd:(x==("__debug__" : Str))=false)(hcd:(x==("__classdict__" : Str))=false)(he:QE aj X W e f)(hs:nst e=true)
  (hl:(apos.endLine==pos.line)=true):SE aj X W q (.Expr (.Call (.Attribute (.Name x p) "append" apos) [e] [] pos) epos) (Nh j f):=by
 have h0:=pe_var (X:=X) (pos:=p) hN hv hd hcd
 have h1:=pa_cons he pa_nil (cO hs [])
 have key:=pe_bm (X:=X) (cpos:=pos) (apos:=apos) PySem.F.plainAttrs_list PySem.F.slot_list_append PySem.F.type_list_append mt_append h0 h1 (lN rfl) (few (by simp[hs]) (by simp)) hl (cO hs []) (by with_unfolding_all rfl)
 refine PS.weak (ps_expr key (by with_unfolding_all rfl)) fun D σ H ⟨g,ρ,M,I,z⟩=>?_
 unfold Nh at z
 split at z
 ·next xs hj=>
  obtain⟨l,us,e1,e2,e3,e4⟩:=I.own j xs hj
  refine⟨.ref l,e1,.inl ⟨rfl,us,sq_of e2⟩,⟨g,ρ,M,I,?_⟩⟩
  cases hf:f M ρ with
  |exc x=>rw[hf]at z;exact fun H' c dd e r=>z σ H' g c dd (Gr.ex e) (I.ex e) r.fr
  |bad=>rw[hf]at z;exact False.elim z
  |ok d=>
   rw[hf]at z
   intro v H' e r
   have z:(if xs.length < 100000 then sJ.next (ρ.set j (some (.mut (xs++[d])))) M else .bad).sat (sN X.K aj q D.nx g H) (sR X.K aj q D.rt g H) (sN X.K aj q D.bk g H) (sN X.K aj q D.ct g H) (sX X.K aj W q g H):=z
   split at z
   ·next hlen=>
    have I1:=I.ex e
    obtain⟨l',us',f1,f2,f3,f4,f5⟩:=I1.change (ys:=xs++[d]) hj
    rw[e1]at f1
    cases f1
    rw[e _ _ e2]at f2
    cases f2
    refine⟨l,us,v,rfl,rfl,e _ _ e2,sz_lt (by rw[e4.length];exact hlen),?_⟩
    exact z _ _ g ((Gr.ex e).trans (Gr.upd I1.kd (e _ _ e2) (.inr f3))) (f5 _ (f4.append (.cons r .nil)))
   ·exact False.elim z
 ·exact False.elim z
def aki(j:Nat)(fi f:QF):SF:=fun M ρ=>match ρ[j]? with
 |some (some (.mut xs))=>((f M ρ).at M).then ρ fun d M'=>((fi M' ρ).at M').then ρ fun i M2=>match i with
  |.int k=>match ixN xs.length k with
   |some n=>.next (ρ.set j (some (.mut (xs.set n d)))) M2
   |none=>.bad
  |_=>.bad
 |_=>.bad
end
structure Gc(g g':Gh)(H H':Hp):Prop where
 keep:∀a o,H a=some o->¬g.W a->H' a=some o
 dom:∀a,H' a=none->H a=none
 tbl:∃more,g'.tbl=g.tbl++more
 W:∀a,g.W a->g'.W a
 nW:∀a,g'.W a->g.W a∨H a=none
 Lc:g'.Lc=g.Lc
 Lo:g'.Lo=g.Lo
def Vm(K:ap9)(aj:aO)(n:Nat)(m:Mo->List Dat->Out Dat):Sp:=fun vs H Q E=>vs.length=n/\∃g M ds,Kd g H/\fM K aj g H M/\aH K g H vs ds/\
 (m M ds).sat (fun d=>∀v H',Ex H H'->Rep K g H' v d->Q v H') fun x=>∀H' c dd,Ex H H'->pU K aj g H' x c dd->E c dd H'
def Iw(K:ap9)(aj:aO)(n:Nat)(m:Mo->List Dat->aY Dat):Sp:=fun vs H Q E=>vs.length=n/\∃g M ds,Kd g H/\fM K aj g H M/\aH K g H vs ds/\
 (m M ds).sat (fun d M'=>∀v H' g',Gc g g' H H'->Kd g' H'->fM K aj g' H' M'->Rep K g' H' v d->Q v H') fun x M'=>∀H' g' c dd,Gc g g' H H'->Kd g' H'->fM K aj g' H' M'->pU K aj g' H' x c dd->E c dd H'
section
variable{K:ap9}{aj:aO}{W:WX}{g g':Gh}{H H':Hp}{σ:L2.St}{ρ:Env}{M M':Mo}
theorem Gc.gr(r:Gc g g' H H'):Gr false g g' H H':=⟨fun a o h n _=>r.keep a o h n,(fun z=>nomatch z),r.dom,r.tbl,r.W,r.nW,(fun z=>nomatch z),r.Lc,fun a h=>by rw[r.Lo];exact h,fun a h=>by rw[r.Lo]at h;exact .inl h⟩
theorem SInv.call(r:Gc g g' H H')(k':Kd g' H')(w':fM K aj g' H' M')(I:SInv K aj σ H g ρ M):SInv K aj σ H' g' ρ M' where
 kd:=k'
 wok:=w'
 len:=I.len
 dat:=fun i d h=>by
  obtain⟨v,h1,h2⟩:=I.dat i d h
  exact⟨v,h1,h2.gr r.gr I.kd⟩
 own:=fun i xs h=>by
  obtain⟨l,us,h1,h2,h3,h4⟩:=I.own i xs h
  exact⟨l,us,h1,r.keep _ _ h2 (I.kd.lo l h3),by rw[r.Lo];exact h3,h4.gr r.gr I.kd⟩
 sep:=I.sep
def Gh.in(g:Gh):Gh:={ g with Lc:=fun a=>g.Lc a∨g.Lo a,Lo:=fun _=>False }
theorem YW(g:Gh)(a:Addr):g.in.A a↔g.A a:=by
 constructor
 ·rintro(z|(z|z)|z)
  ·exact .inl z
  ·exact .inr (.inl z)
  ·exact .inr (.inr z)
  ·exact False.elim z
 ·rintro(z|z|z)
  ·exact .inl z
  ·exact .inr (.inl (.inl z))
  ·exact .inr (.inl (.inr z))
theorem Kd.in(k:Kd g H):Kd g.in H:=⟨fun a z=>k.ob a ((YW g a).mp z),fun a z=>False.elim z,fun a z=>⟨z.elim (fun z=>(k.lc a z).1) (fun z=>k.lo a z),fun y=>y⟩⟩
def ini(n:Nat)(ds:List Dat):Env:=ds.map (fun d=>some (.dat d))++List.replicate (n - ds.length) none
theorem Z6{N:List Str}{vs:List V}{ds:List Dat}(k:Kd g H)(w:fM K aj g H M)(r:aH K g H vs ds):SInv K aj (start N vs) H g (ini N.length ds) M where
 kd:=k
 wok:=w
 len:=by
  unfold L2.start ini
  rw[aqO,aqO,aqj,aqj,List.length_replicate,List.length_replicate,r.length]
 dat:=fun i d h=>by
  unfold ini at h
  unfold L2.start
  by_cases hi:i < ds.length
  ·rw[aql (by rw[aqj];exact hi),aqm]at h
   cases hd:ds[i]? with
   |none=>rw[hd]at h;cases h
   |some d'=>
    rw[hd]at h
    cases h
    obtain⟨v,h1,h2⟩:=r.get hd
    refine⟨v,?_,h2⟩
    rw[aql (by rw[aqj,r.length];exact hi),aqm,h1]
    rfl
  ·rw[aqt (by rw[aqj];omega)]at h
   rw[List.getElem?_replicate]at h
   split at h <;> cases h
 own:=fun i xs h=>by
  unfold ini at h
  by_cases hi:i < ds.length
  ·rw[aql (by rw[aqj];exact hi),aqm]at h
   cases hd:ds[i]? with
   |none=>rw[hd]at h;cases h
   |some d'=>rw[hd]at h;cases h
  ·rw[aqt (by rw[aqj];omega)]at h
   rw[List.getElem?_replicate]at h
   split at h <;> cases h
 sep:=fun i j xs ys l ne h=>by
  unfold ini at h
  by_cases hi:i < ds.length
  ·rw[aql (by rw[aqj];exact hi),aqm]at h
   cases hd:ds[i]? with
   |none=>rw[hd]at h;cases h
   |some d'=>rw[hd]at h;cases h
  ·rw[aqt (by rw[aqj];omega)]at h
   rw[List.getElem?_replicate]at h
   split at h <;> cases h
end
def mQ(n:Nat)(body:SF):Mo->List Dat->Out Dat:=fun M ds=>match body M (ini n ds) with
 |.ret d _=>.ok d
 |.next _ _=>.ok .none
 |.exc x _ _=>.exc x
 |_=>.bad
def mG(n:Nat)(body:SF):Mo->List Dat->aY Dat:=fun M ds=>match body M (ini n ds) with
 |.ret d M'=>.ok d M'
 |.next _ M'=>.ok .none M'
 |.exc x _ M'=>.exc x M'
 |_=>.bad
section
variable{P:Program}{w:World}{K:ap9}{mg:Str->Option Value}{base:Heap}{aj:aO}
def adW(E:XK):WX:=fun c d _ H=>E c d H
theorem Rep.same{g g':Gh}{H:Hp}{v:V}{d:Dat}(e:g'.tbl=g.tbl)(n:∀a,g'.A a↔g.A a)(h:Rep K g H v d):Rep K g' H v d:=h.less e fun a z=>(n a).mp z
theorem abP{g g':Gh}{H H':Hp}(r:Gr true g.in g' H H'):Ex H H':=fun a o h=>by
 by_cases w:g.W a
 ·exact r.keepW rfl a o h w
 ·exact r.keep a o h w fun z=>z
theorem ahK{q:Bool}{g g':Gh}{H H':Hp}(r:Gr q g.in g' H H')(a:Addr):g'.fr.A a↔(g'.W a∨g.Lc a∨g.Lo a):=by
 have hl:g'.Lc=g.in.Lc:=r.Lc
 constructor
 ·rintro(z|z|z)
  ·exact .inl z
  ·have z:g'.Lc a:=z
   rw[hl]at z
   exact .inr z
  ·exact False.elim z
 ·rintro(z|z)
  ·exact .inl z
  ·refine .inr (.inl ?_)
   show g'.Lc a
   rw[hl]
   exact z
theorem amn{x qual:Str}{st:Stmt}{f:Addr}{fd:FuncData}{N ps:List Str}{k:Nat}{body:SF}(F:Fun K x qual st f fd)(S:FnScope N ps (defScope st))
  (hb:∀(cdv:Value) (A:Around) (outer:List PySem.Env) (s:Shared) (H:Hp) (E:XK),Room k (A.deeper (envOfC qual (defScope st) s.heap.objs.size f cdv))->Iz aj (cxOf (L2.CX P w) P w K mg base N qual (defScope st) f cdv A outer s H E) (adW E) true (defBody st) body) :
  FnOk P w K mg base (L2.CX P w) (k+1) f fd ps (Vm K aj ps.length (mQ N.length body)):=by
 refine F.okX S (fun vs H Q E h=>h.1) (fun cdv A outer s H vs Q E hr h=>⟨_,hb cdv A outer s H E hr,?_⟩)
 obtain⟨hl,g,M,ds,kd,wk,rs,h⟩:=h
 have wk':fM K aj g.in H M:=fM.less (g:=g) (g':=g.in) rfl rfl (fun a z=>(YW g a).mp z) wk
 refine⟨g.in,ini N.length ds,M,Z6 kd.in wk' (aH.less (g:=g) (g':=g.in) rfl (fun a z=>(YW g a).mp z) rs),?_⟩
 have back:∀{g':Gh} {H':Hp},Gr true g.in g' H H'->∀a,g.A a↔g'.fr.A a:=fun {g' H'} r a=>by
  rw[ahK r a]
  have e:=(r.qg rfl)
  have ew:g'.W a↔g.W a:=by
   unfold Gh.W
   rw[e.1,e.2]
   rfl
  unfold Gh.A
  rw[ew]
 unfold mQ at h
 cases hf:body M (ini N.length ds) with
 |next ρ' M'=>
  rw[hf]at h
  exact fun σ' H' g' r I'=>h _ H' (abP r) .non
 |ret d M'=>
  rw[hf]at h
  exact fun v H' g' r k' w' rv=>h v H' (abP r) (Rep.same (g:=g'.fr) (g':=g) (r.qg rfl).1.symm (back r) rv)
 |exc x ρ' M'=>
  rw[hf]at h
  exact fun σ' H' g' c dd r I' rx=>h H' c dd (abP r) (pU.less (g:=g'.fr) (g':=g) (r.qg rfl).1.symm (fun a z=>(back r a).mp z) rx)
 |brk ρ' M'=>rw[hf]at h;exact False.elim h
 |cont ρ' M'=>rw[hf]at h;exact False.elim h
 |bad=>rw[hf]at h;exact False.elim h
theorem al8{x qual:Str}{st:Stmt}{f:Addr}{fd:FuncData}{N ps:List Str}{k:Nat}{body:SF}(F:Fun K x qual st f fd)(S:FnScope N ps (defScope st))
  (hb:∀(cdv:Value) (A:Around) (outer:List PySem.Env) (s:Shared) (H:Hp) (E:XK),Room k (A.deeper (envOfC qual (defScope st) s.heap.objs.size f cdv))->Iz aj (cxOf (L2.CX P w) P w K mg base N qual (defScope st) f cdv A outer s H E) (adW E) false (defBody st) body) :
  FnOk P w K mg base (L2.CX P w) (k+1) f fd ps (Iw K aj ps.length (mG N.length body)):=by
 refine F.okX S (fun vs H Q E h=>h.1) (fun cdv A outer s H vs Q E hr h=>⟨_,hb cdv A outer s H E hr,?_⟩)
 obtain⟨hl,g,M,ds,kd,wk,rs,h⟩:=h
 have wk':fM K aj g.in H M:=fM.less (g:=g) (g':=g.in) rfl rfl (fun a z=>(YW g a).mp z) wk
 refine⟨g.in,ini N.length ds,M,Z6 kd.in wk' (aH.less (g:=g) (g':=g.in) rfl (fun a z=>(YW g a).mp z) rs),?_⟩
 let gb:Gh->Gh:=fun g'=>{ tbl:=g'.tbl,ow:=g'.ow,Lc:=g.Lc,Lo:=g.Lo }
 have gc:∀{g':Gh} {H':Hp},Gr false g.in g' H H'->Gc g (gb g') H H':=fun {g' H'} r=>⟨fun a o h n=>r.keep a o h n fun z=>z,r.dom,r.tbl,r.W,r.nW,rfl,rfl⟩
 have eA:∀{g':Gh} {H':Hp},Gr false g.in g' H H'->∀a,(gb g').A a↔g'.fr.A a:=fun {g' H'} r a=>by
  rw[ahK r a]
  exact Iff.rfl
 have kk:∀{g':Gh} {H':Hp},Gr false g.in g' H H'->Kd g'.fr H'->Kd (gb g') H':=fun {g' H'} r k'=>by
  have nw:∀a,(g.Lc a∨g.Lo a)->¬g'.W a:=fun a z y=>by
   have:g'.fr.Lc a:=by
    show g'.Lc a
    rw[show g'.Lc=g.in.Lc from r.Lc]
    exact z
   exact(k'.lc a this).1 y
  exact⟨fun a z=>k'.ob a ((eA r a).mp z),fun a z=>nw a (.inr z),fun a z=>⟨nw a (.inl z),(kd.lc a z).2⟩⟩
 unfold mG at h
 cases hf:body M (ini N.length ds) with
 |next ρ' M'=>
  rw[hf]at h
  exact fun σ' H' g' r I'=>h _ H' (gb g') (gc r) (kk r I'.kd.fr) (fM.less (g:=g'.fr) (g':=gb g') rfl rfl (fun a z=>(eA r a).mp z) I'.wok.fr) .non
 |ret d M'=>
  rw[hf]at h
  exact fun v H' g' r k' w' rv=>h v H' (gb g') (gc r) (kk r k') (fM.less (g:=g'.fr) (g':=gb g') rfl rfl (fun a z=>(eA r a).mp z) w') (Rep.same (g:=g'.fr) (g':=gb g') rfl (eA r) rv)
 |exc x ρ' M'=>
  rw[hf]at h
  exact fun σ' H' g' c dd r I' rx=>h H' (gb g') c dd (gc r) (kk r I'.kd.fr) (fM.less (g:=g'.fr) (g':=gb g') rfl rfl (fun a z=>(eA r a).mp z) I'.wok.fr) (pU.less (g:=g'.fr) (g':=gb g') rfl (fun a z=>(eA r a).mp z) rx)
 |brk ρ' M'=>rw[hf]at h;exact False.elim h
 |cont ρ' M'=>rw[hf]at h;exact False.elim h
 |bad=>rw[hf]at h;exact False.elim h
end
def aX(m:Mo->List Dat->Out Dat)(as:QA):QF:=fun M ρ=>(as M ρ).bind fun ds=>m M ds
section
variable{X:Cx}{aj:aO}{W:WX}{q:Bool}{a b e:Expr}{es:List Expr}{pos p:Pos}{x:Str}{k:Nat}{f:Addr}{fd:FuncData}{ps:List Str}
theorem agf{m:Mo->List Dat->Out Dat}{as:QA}(tk:Takes X W)(F:FnOk X.prog X.w X.K X.mg X.base (L2.CX X.prog X.w) k f fd ps (Vm X.K aj ps.length m))(hr:Room k X.A)(hg:Gl X x)(hm:X.mg x=some (.ref f))(hk:PySem.W.keepIn X.K (.ref f)=true)(hb:Binds X.K fd ps [])
  (ha:Cr aj X W (e::es) as) (hl:(e::es).length=ps.length) (hd:(x==("__debug__" : Str))=false) (hs:(e::es).all nst=true) (hn:∀M ρ ds,as M ρ=.ok ds->ds.length=(e::es).length):QE aj X W (.Call (.Name x p) (e::es) [] pos) (aX m as):=by
 have hs':=hs
 rw[aqK,aqa]at hs'
 refine PE.weak (pe_callS (E:=fun σ=>WE W σ) F hr hg hm hk hb (fun σ=>passAt tk σ) ha hd (cO hs'.1 es) (star_any es hs'.2)) fun σ H Q ⟨g,ρ,M,I,h⟩=>?_
 refine⟨g,ρ,M,I,?_⟩
 have h:=h.bnd
 cases has:as M ρ with
 |exc x=>rw[has]at h;exact h
 |bad=>rw[has]at h;exact h
 |ok ds=>
  rw[has]at h
  have h:(m M ds).sat (fun d=>∀v H',Ex H H'->Rep X.K g H' v d->Q v H') (qF X.K aj W g H σ):=h
  intro vs H1 e1 r1
  refine⟨by rw[r1.length,hn M ρ ds has];exact hl,g,M,ds,I.kd.ex e1,I.wok.ex e1 I.kd,r1,h.mono (fun d k v H' e' r'=>k v H' (e1.trans e') r') fun x k H' c dd e' r'=>k H' c dd (e1.trans e') r'⟩
end
theorem ae9{n:Nat}(h:n<=16001):n<=sizeLine:=aqB h (by decide)
theorem ak3{prog:Program}{w:World}{A:Around}{E:Value->Shared->Prop}{s:Shared}{l:Addr}{v0:Value}{vs:List Value}{Q:List Value->Shared->Prop}(hh:A.handled=none)(hl:s.heap.IsList l (v0::vs).toArray∨IsTup s.heap l (v0::vs).toArray)(hz:vs.length<=16000)
  (h:∀(h₂:Heap) (tk:Nat),(∀b o,s.heap.get? b=some o->h₂.get? b=some o)->Q [v0,.ref h₂.objs.size] { s with heap:=h₂.push { cls:=.type "list",data:=.seq vs.toArray },toks:=tk }):wpAny (model prog w) A (unpackItems (.ref l) 2 (some 1)) Q E s:=by
 have hll:l < s.heap.objs.size:=by
  rcases hl with⟨o,ho,_⟩|⟨o,ho,_⟩ <;> exact Heap.lt_size ho
 have hlt:l≠s.heap.objs.size:=aqG hll
 have hsz:(v0::vs).toArray.size=vs.length+1:=by simp
 have hb:(v0::vs).toArray.size<=sizeLine:=ae9 (by rw[hsz];omega)
 have hd:(v0::vs).toArray.toList.drop 1=vs:=by simp
 have ht:((v0::vs).toArray.toList.drop 0).take 1=[v0]:=by simp
 have fin:∀(h₂:Heap) (tk:Nat),(∀b o,b≠s.heap.objs.size->s.heap.get? b=some o->h₂.get? b=some o)->wpAny (model prog w) A (newList vs >>= fun d=>pure ([v0]++[d]++[])) Q E { s with heap:=h₂,toks:=tk }:=fun h₂ tk k=>by
  refine wpAny_bind (wpAny_newObj_type (wpAny_pure ?_) (ae9 (by simp;omega)))
  exact h h₂ tk fun b o e=>k b o (aqG (Heap.lt_size e)) e
 unfold unpackItems
 refine wpAny_bind ?_
 unfold notIterableAtAll
 rcases hl with hl|hl
 ·refine wpAny_bind (wpAny_specialOf hl.typeIs slot_list_iter.lookup (wpAny_pure ?_))
  simp only[aqE,if_false]
  refine wpAny_bind (wpAny_holding (wpAny_pyIter_list hl ?_))
  refine wpAny_bind (wpAny_holding (PySem.W.kun_draw hlt 1 0 _ _ ⟨_,Heap.get?_push_size _ rfl,rfl,rfl⟩ (hl.push _) (by rw[hsz];omega) fun h₁ i1 b1=>?_))
  have hl₁:=(hl.push _).extBut b1.extBut hlt
  obtain⟨oi,hoi,_⟩:=id i1
  obtain⟨ol,hol,_⟩:=id hl₁
  rw[ht]
  refine wpAny_bind (wpAny_holding (PySem.W.kun_collect (s:={ s with heap:=h₁ }) (T:="list_iterator") (.inr (.inr (.inl rfl))) (Walks.list (A:=A.in1) hh s.heap.objs.size l hlt (v0::vs).toArray) (fun j u st=>st.1.typeIs) (k:=1) (by rw[hsz];omega) ⟨i1,hl₁⟩ (Heap.lt_size hoi) (Heap.lt_size hol) (fun h₂ tk hk=>?_) hb))
  rw[hd]
  show wpAny _ _ (if vs.length < 0 then _ else newList (vs.take (vs.length - 0)) >>= fun d=>pure ([v0]++[d]++vs.drop (vs.length - 0))) _ _ _
  rw[if_neg (Nat.not_lt_zero _),Nat.sub_zero,List.take_length,aq2]
  exact fin h₂ tk fun b o ne e=>hk b o ne (b1.extBut b o ne (Heap.get?_push_of_some _ e))
 ·refine wpAny_bind (wpAny_specialOf hl.typeIs slot_tuple_iter.lookup (wpAny_pure ?_))
  simp only[aqE,if_false]
  refine wpAny_bind (wpAny_holding (iter_tuple hl ?_))
  refine wpAny_bind (wpAny_holding (draw_tuple hlt 1 0 _ _ ⟨_,Heap.get?_push_size _ rfl,rfl,rfl⟩ (hl.push _) (by rw[hsz];omega) fun h₁ i1 b1=>?_))
  have hl₁:IsTup h₁ l (v0::vs).toArray:=(hl.push _).extBut b1.extBut hlt
  obtain⟨oi,hoi,_⟩:=id i1
  obtain⟨ol,hol,_⟩:=id hl₁
  rw[ht]
  refine wpAny_bind (wpAny_holding (PySem.W.kun_collect (s:={ s with heap:=h₁ }) (T:="tuple_iterator") (.inr (.inr (.inr rfl))) (Walks.tuple (A:=A.in1) hh s.heap.objs.size l hlt (v0::vs).toArray) (fun j u st=>st.1.typeIs) (k:=1) (by rw[hsz];omega) ⟨i1,hl₁⟩ (Heap.lt_size hoi) (Heap.lt_size hol) (fun h₂ tk hk=>?_) hb))
  rw[hd]
  show wpAny _ _ (if vs.length < 0 then _ else newList (vs.take (vs.length - 0)) >>= fun d=>pure ([v0]++[d]++vs.drop (vs.length - 0))) _ _ _
  rw[if_neg (Nat.not_lt_zero _),Nat.sub_zero,List.take_length,aq2]
  exact fin h₂ tk fun b o ne e=>hk b o ne (b1.extBut b o ne (Heap.get?_push_of_some _ e))
def afH(K:ap9)(i j:Nat):TG:=fun v σ H Q=>∃a v0 us,v=.ref a/\(SqL K H a (v0::us)∨SqT K H a (v0::us))/\us.length<=16000/\∀D,H D=none->Q ((σ.set i (some v0)).set j (some (.ref D))) (upd H D (.lst us))
def Ry(X:Cx)(j:Nat)(x:Str):Prop:=X.N[j]?=some x/\Loc X.env.scope x/\(X.fn x=true∨X.env.scope.names.lookup x=some .local)
theorem agS{X:Cx}{i j k:Nat}{x y:Str}{px py ps pos:Pos}(hc:X.calm=true)(hN:X.N.Nodup)(hx:Ry X i x)(hy:Ry X j y):PG X (.Tuple [.Name x px,.Starred (.Name y py) ps] k pos) (afH X.K i j):=by
 refine⟨fun pins s σ H v u Q I r h=>?_⟩
 obtain⟨a,v0,us,rfl,hq,hz,q⟩:=h
 cases r
 have e1:assign (.Tuple [.Name x px,.Starred (.Name y py) ps] k pos) X.env (.ref a)=(do standAt pos;unpack (.ref a) (assignEach [.Name x px,.Starred (.Name y py) ps] X.env)):=by with_unfolding_all rfl
 have e2:assignEach [.Name x px,.Starred (.Name y py) ps] X.env=[(false,assign (.Name x px) X.env),(true,assign (.Name y py) X.env)]:=by with_unfolding_all rfl
 rw[e1,e2]
 refine wpAny_bind (wpAny_standAt ?_)
 unfold unpack
 obtain⟨w0,ws,hlw,rv0,rvs⟩:∃w0 ws,(s.heap.IsList a (w0::ws).toArray∨IsTup s.heap a (w0::ws).toArray)/\RelV v0 w0/\Vals us ws:=by
  rcases hq with hq|hq
  ·obtain⟨its,rv,p,_⟩:=I.list hq
   cases rv with
   |cons r t=>exact⟨_,_,.inl p.isList,r,t⟩
  ·obtain⟨its,rv,p,_⟩:=I.tuple hq
   cases rv with
   |cons r t=>exact⟨_,_,.inr p,r,t⟩
 refine wpAny_bind (wpAny_holding (ak3 (I.ok.hd hc) hlw (by rw[←rvs.length];exact hz) fun h₂ tk hk=>?_))
 have I2:L2.Inv X pins σ H { s with heap:=h₂,toks:=tk }:=I.kept (t':=tk) hk
 have I3:=I2.lnew (t':=tk) rvs (ae9 (by omega))
 refine assignInOrder_cons (wpAny_assign_Name (store_ok I3 hN hx.1 hx.2.1 rv0 (fun s4 I4=>?_) hx.2.2))
 refine assignInOrder_cons (wpAny_assign_Name (store_ok I4 hN hy.1 hy.2.1 (v:=.ref h₂.objs.size) rfl (fun s5 I5=>assignInOrder_nil ?_) hy.2.2))
 exact⟨_,_,I5,q _ I2.fresh⟩
section
variable{X:Cx}{aj:aO}{W:WX}{q:Bool}{e:Expr}{pos:Pos}
def Wt(i j:Nat)(f:GF):SF:=fun M ρ=>(f M ρ).then ρ fun d M'=>match d with
 |.list (d0::ds)=>if ds.length<=16000 then .next ((ρ.set i (some (.dat d0))).set j (some (.dat (.list ds)))) M' else .bad
 |.tuple (d0::ds)=>if ds.length<=16000 then .next ((ρ.set i (some (.dat d0))).set j (some (.dat (.list ds)))) M' else .bad
 |_=>.bad
theorem agt{i j k:Nat}{x y:Str}{px py ps tp:Pos}{f:GF}(hc:X.calm=true)(hN:X.N.Nodup)(hx:Ry X i x)(hy:Ry X j y)(he:GE aj X W q e f)(hs:swapsWithSole [.Tuple [.Name x px,.Starred (.Name y py) ps] k tp] e pos.line X.env=pure false)(hw:swappedStores [.Tuple [.Name x px,.Starred (.Name y py) ps] k tp] e X.env=pure none) :
  SE aj X W q (.Assign [.Tuple [.Name x px,.Starred (.Name y py) ps] k tp] e pos) (Wt i j f):=by
 refine PS.weak (ps_asg he (agS hc hN hx hy) hs hw (by with_unfolding_all rfl)) fun D σ H ⟨g,ρ,M,I,z⟩=>?_
 refine tE.go I (cZ (σ:=σ) z) fun d M' v H' g' kk r I' rv=>?_
 have fin:∀{a:Addr} {v0:V} {us:List V} {d0:Dat} {ds:List Dat},v=.ref a->(SqL X.K H' a (v0::us)∨SqT X.K H' a (v0::us))->Rep X.K g' H' v0 d0->aH X.K g' H' us ds->(if ds.length<=16000 then sJ.next ((ρ.set i (some (.dat d0))).set j (some (.dat (.list ds)))) M' else .bad).sat (sN X.K aj q D.nx g H) (sR X.K aj q D.rt g H) (sN X.K aj q D.bk g H) (sN X.K aj q D.ct g H) (sX X.K aj W q g H)->afH X.K i j v σ H' D.nx:=fun {a v0 us d0 ds} ev hq r0 rs kk=>by
  split at kk
  ·next hz=>
   refine⟨a,v0,us,ev,hq,by rw[rs.length];exact hz,fun p np=>?_⟩
   have e1:=Ex.new (o:=.lst us) np
   have I2:=I'.ex e1
   refine kk _ _ g' (r.trans (Gr.ex e1)) ((I2.set (r0.ex e1 I'.kd)).set (.lst (.inl ⟨.inl upd_same,I'.kd.fresh np⟩) (rs.ex e1 I'.kd)))
  ·exact False.elim kk
 split at kk
 ·obtain⟨a,us,ev,s1,t1⟩:=iV rv.weak
  cases t1 with
  |cons r0 rs=>exact fin ev (.inl s1) r0 rs kk
 ·obtain⟨a,us,ev,s1,t1⟩:=kZ rv.weak
  cases t1 with
  |cons r0 rs=>exact fin ev (.inr s1) r0 rs kk
 ·exact False.elim kk
def O7(i j:Nat)(f:GF):SF:=fun M ρ=>(f M ρ).then ρ fun d M'=>.next ((ρ.set i (some (.dat d))).set j (some (.dat d))) M'
theorem agb{i j:Nat}{x y:Str}{px py:Pos}{f:GF}(hN:X.N.Nodup)(hx:Ry X i x)(hy:Ry X j y)(he:GE aj X W q e f)(hw:swappedStores [.Name x px,.Name y py] e X.env=pure none):SE aj X W q (.Assign [.Name x px,.Name y py] e pos) (O7 i j f):=by
 refine PS.weak (ps_asg2 he (pg_name hN hx.1 hx.2.1 hx.2.2) (pg_name hN hy.1 hy.2.1 hy.2.2) (by with_unfolding_all rfl) hw) fun D σ H ⟨g,ρ,M,I,z⟩=>?_
 exact tE.go I (cZ (σ:=σ) z) fun d M' v H' g' kk r I' rv=>kk _ H' g' r ((I'.set rv).set rv)
theorem Qx{pins:List (Addr×Obj)}{H:Hp}{Q:Unit->Shared->Prop}(hN:X.N.Nodup):∀{xs:List Str} {js:List Nat} {vs:List V} {us:List Value} {σ:L2.St} {s:Shared},xs.length=js.length->Vals vs us->us.length=js.length->(∀(n:Nat) (x:Str) (j:Nat),xs[n]?=some x->js[n]?=some j->X.N[j]?=some x/\X.env.scope.names.lookup x=some .local)->L2.Inv X pins σ H s->
  (∀s',L2.Inv X pins (sets σ js vs) H s'->Q () s')->wpAny (model X.prog X.w) X.A (assignInOrder (xs.map fun n=>bindName X.env n) us) Q X.xe s
 |[],[],_,[],σ,s,_,.nil,_,_,I,h=>assignInOrder_nil (h s I)
 |[],[],_,_::_,_,_,_,_,e,_,_,_=>nomatch e
 |[],_::_,_,_,_,_,e,_,_,_,_,_=>nomatch e
 |_::_,[],_,_,_,_,e,_,_,_,_,_=>nomatch e
 |x::xs,j::js,_,[],_,_,_,.nil,e,_,_,_=>nomatch e
 |x::xs,j::js,_,_::_,σ,s,e1,.cons r t,e2,hn,I,h=>by
  obtain⟨h1,h2⟩:=hn 0 x j rfl rfl
  refine assignInOrder_cons (wpAny_bindName (store_ok I hN h1 (.inl h2) r (fun s2 I2=>?_) (.inr h2)))
  exact Qx hN (aqT e1) t (aqT e2) (fun n x j a b=>hn (n+1) x j a b) I2 h
theorem ZR(σ:L2.St):∀(js:List Nat) (vs:List V) (ks:List Nat) (ws:List V),js.length=vs.length->sets σ (js++ks) (vs++ws)=sets (sets σ js vs) ks ws:=by
 intro js
 induction js generalizing σ with
 |nil=>
  intro vs ks ws e
  cases vs with
  |nil=>rfl
  |cons v vs=>cases e
 |cons j js ih=>
  intro vs ks ws e
  cases vs with
  |nil=>cases e
  |cons v vs=>exact ih (σ.set j (some v)) vs ks ws (aqT e)
theorem Us(j:Nat)(v:V):∀(js:List Nat) (vs:List V) (σ:L2.St),j∉js->(sets σ js vs).set j (some v)=sets (σ.set j (some v)) js vs
 |[],_,_,_=>by unfold sets;rfl
 |_::_,[],_,_=>by unfold sets;rfl
 |k::js,w::vs,σ,h=>by
  show(sets (σ.set k (some w)) js vs).set j (some v)=sets ((σ.set j (some v)).set k (some w)) js vs
  rw[Us j v js vs _ fun z=>h (aqe _ z),List.set_comm _ _ (fun z=>h (by rw[z];exact aqf))]
theorem Yi:∀(js:List Nat) (vs:List V) (σ:L2.St),js.Nodup->js.length=vs.length->sets σ js.reverse vs.reverse=sets σ js vs
 |[],[],_,_,_=>rfl
 |[],_::_,_,_,e=>nomatch e
 |_::_,[],_,_,e=>nomatch e
 |j::js,v::vs,σ,nd,e=>by
  rw[aqZ]at nd
  rw[aq6,aq6,ZR _ _ _ _ _ (by rw[aqS,aqS];exact aqT e),Yi js vs σ nd.2 (aqT e)]
  show(sets σ js vs).set j (some v)=sets (σ.set j (some v)) js vs
  exact Us j v js vs σ nd.1
theorem vals_rev{vs:List V}{us:List Value}(r:Vals vs us):Vals vs.reverse us.reverse:=by
 induction r with
 |nil=>exact .nil
 |cons h t ih=>
  rw[aq6,aq6]
  exact Vals.append ih (.cons h .nil)
def tPN(js:List Nat)(ta:TA):TS:=fun D σ H=>ta σ H fun vs H1=>vs.length=js.length/\D.nx (sets σ js vs) H1
theorem akz{ts es:List Expr}{xs:List Str}{js:List Nat}{ta:TA}{kt k2:Nat}{pt p2:Pos}(hc:X.calm=true)(hN:X.N.Nodup)(hnd:js.Nodup)(hl:xs.length=js.length)(h3:js.length<=3)(hn:∀(n:Nat) (x:Str) (j:Nat),xs[n]?=some x->js[n]?=some j->X.N[j]?=some x/\X.env.scope.names.lookup x=some .local)(ha:PA X es ta)
  (hw:swappedStores [.Tuple ts kt pt] (.Tuple es k2 p2) X.env=pure (some xs)) (hs:swapsWithSole [.Tuple ts kt pt] (.Tuple es k2 p2) pos.line X.env=pure false):PS X (.Assign [.Tuple ts kt pt] (.Tuple es k2 p2) pos) (tPN js ta):=by
 refine⟨fun pins s σ H D I h=>?_⟩
 rw[exec_Assign_arm]
 refine wpAny_bind (wpAny_standAt ?_)
 rw[hs]
 refine wpAny_bind (wpAny_pure ?_)
 rw[if_neg (by decide)]
 refine wpAny_bind (Tuple_ (thn (ha.run _ pins s σ H _ I h) fun us s1 ⟨vs,H1,I1,r1,e1,q1⟩=>?_))
 have hu:us.length=js.length:=by
  rw[←r1.length]
  exact e1
 refine wpAny_newObj_type ?_ (aqB (by simp;omega) (show 3<=sizeLine by decide))
 have I2:L2.Inv X pins σ H1 { s1 with heap:=s1.heap.push { cls:=.type "tuple",data:=.seq us.toArray } }:=I1.kept (t':=s1.toks) fun b o z=>Heap.get?_push_of_some _ z
 rw[hw]
 refine wpAny_bind (wpAny_pure ?_)
 show wpAny (model X.prog X.w) X.A (do rule "assign.swapped-stores";let items ←unpackItems (.ref s1.heap.objs.size) xs.length none;assignInOrder (xs.reverse.map fun n=>bindName X.env n) items.reverse;pure Flow.next) _ _ _
 have hz:us.toArray.size=xs.length:=by
  rw[arh,hu,hl]
 have hup:=fun {Q:List Value->Shared->Prop} hQ=>unpackItems_tuple (prog:=X.prog) (w:=X.w) (A:=X.A) (E:=X.xe) (s:={ s1 with heap:=s1.heap.push { cls:=.type "tuple",data:=.seq us.toArray } }) (items:=us.toArray) (Q:=Q) (I.ok.hd hc) (IsTup.new s1.heap _) hQ
 rw[hz]at hup
 refine wpAny_bind (wpAny_rule (wpAny_bind (hup fun h' hx'=>?_)))
 have I3:=I2.kept (h':=h') (t':=s1.toks) fun b o z=>hx' b o (aqG (Heap.lt_size z)) z
 refine wpAny_bind (Qx hN (js:=js.reverse) (vs:=vs.reverse) (by rw[aqS,aqS];exact hl) (vals_rev r1) (by rw[aqS,aqS];exact hu) (fun n x j a b=>?_) I3 fun s4 I4=>wpAny_pure ?_)
 ·have n1:=(aqb.mp a).1
  have n2:=(aqb.mp b).1
  rw[aqS]at n1 n2
  rw[List.getElem?_reverse n1]at a
  rw[List.getElem?_reverse n2,←hl]at b
  exact hn _ x j a b
 ·rw[Yi js vs σ hnd e1.symm]at I4
  exact⟨_,H1,I4,q1⟩
def sPN(js:List Nat)(as:QA):SF:=fun M ρ=>((as M ρ).at M).then ρ fun ds M'=>match qN js ds ρ with
 |some ρ'=>.next ρ' M'
 |none=>.bad
theorem aks{ts es:List Expr}{xs:List Str}{js:List Nat}{as:QA}{kt k2:Nat}{pt p2:Pos}(hc:X.calm=true)(hN:X.N.Nodup)(hnd:js.Nodup)(hl:xs.length=js.length)(h3:js.length<=3)(hn:∀(n:Nat) (x:Str) (j:Nat),xs[n]?=some x->js[n]?=some j->X.N[j]?=some x/\X.env.scope.names.lookup x=some .local)(ha:Cr aj X W es as)
  (hw:swappedStores [.Tuple ts kt pt] (.Tuple es k2 p2) X.env=pure (some xs)) (hs:swapsWithSole [.Tuple ts kt pt] (.Tuple es k2 p2) pos.line X.env=pure false):SE aj X W q (.Assign [.Tuple ts kt pt] (.Tuple es k2 p2) pos) (sPN js as):=by
 refine PS.weak (akz hc hN hnd hl h3 hn ha hw hs) fun D σ H ⟨g,ρ,M,I,z⟩=>?_
 refine⟨g,ρ,M,I,?_⟩
 unfold sPN at z
 cases hf:as M ρ with
 |exc x=>rw[hf]at z;exact fun H' c dd e r=>z σ H' g c dd (Gr.ex e) (I.ex e) r.fr
 |bad=>rw[hf]at z;exact False.elim z
 |ok ds=>
  rw[hf]at z
  intro vs H' e r
  have z:(match qN js ds ρ with
   |some ρ'=>sJ.next ρ' M
   |none=>.bad).sat (sN X.K aj q D.nx g H) (sR X.K aj q D.rt g H) (sN X.K aj q D.bk g H) (sN X.K aj q D.ct g H) (sX X.K aj W q g H):=z
  split at z
  ·next ρ' e'=>
   obtain⟨l1,I1⟩:=Gu (I.ex e) r e'
   exact⟨l1,z _ H' g (Gr.ex e) I1⟩
  ·exact False.elim z
theorem akd{j:Nat}{y:Str}{py:Pos}{elt tg iter:Expr}{cpos:Pos}{scope:Scope}{own:List (Str×Nat)}{it:IF}{tgf:fB}{js:List Nat}{tt:QT}{te:QF}{ifs:List Expr}(hc:X.calm=true)(hN:X.N.Nodup)(hy:X.N[j]?=some y)(hyl:X.env.scope.names.lookup y=some .local)
  (hsw:swapsWith (.ListComp elt [⟨tg,iter,ifs,0⟩] scope cpos) (some (.Name y py)) pos.line X.env=pure true) (hi:QI aj X W false tg iter it) (ok:blkC X.N X.env.scope scope own=true) (hj:∀j∈js,j∈own.map (·.2))
  (hg:∀(s:Shared) (H:Hp) (C:Addr) (cl:List (Str×Addr)) (fp:List Addr),QG aj (X.blk s H scope (compEnvC scope cl C X.env) fp) tg js tgf)
  (ht:∀(s:Shared) (H:Hp) (C:Addr) (cl:List (Str×Addr)) (fp:List Addr),PTs (X.blk s H scope (compEnvC scope cl C X.env) fp) ifs (jT X.K aj WF tt))
  (he:∀(s:Shared) (H:Hp) (C:Addr) (cl:List (Str×Addr)) (fp:List Addr),QE aj (X.blk s H scope (compEnvC scope cl C X.env) fp) WF elt te) (hs:∀x,foldedSetIterable iter X.env x=pure x) :
  SE aj X W q (.Assign [.Name y py] (.ListComp elt [⟨tg,iter,ifs,0⟩] scope cpos) pos) (aZ (aF j) (gOf (eY it tgf (own.map (·.2)) tt te))):=by
 refine PS.weak (ps_setLc (g:=yR X.K aj js tgf) (tt:=jT X.K aj WF tt) (te:=tQ X.K aj WF te) hc hN hy hyl hsw hi (blkOk_by ok) (fun s H C cl fp=>hg s H C cl fp) ht (fun s H C cl fp=>he s H C cl fp) hs) fun D σ H ⟨g,ρ,M,I,z⟩=>?_
 refine afz hj σ H _ ⟨g,ρ,M,I,(Out.iK (cZ (σ:=σ) z)).mono (fun d kk v H' e r=>?_) fun x kk H' c dd e r=>kk H' g c dd (Gr.ex e) (I.ex e) r⟩
 exact kk _ H' g (Gr.ex e) ((I.ex e).set r)
end
inductive GV where
 |con (d:Dat)
 |fq (n:Nat) (m:Mo->List Dat->Out Dat)
 |fg (n:Nat) (m:Mo->List Dat->aY Dat)
 |dic (kvs:List (Str×Dat))
 |exc
 |exi (fs:List Str)
 |cls (n:Nat) (m:Mo->List Dat->aY Dat)
inductive MV where
 |q (n:Nat) (m:Mo->List Dat->Out Dat)
 |g (n:Nat) (m:Mo->List Dat->aY Dat)
def FQ(P:Program)(w:World)(K:ap9)(mg:Str->Option Value)(base:Heap)(aj:aO)(k:Nat)(f:Addr)(n:Nat)(m:Mo->List Dat->Out Dat):Prop:=
 ∃(fd:FuncData) (ps:List Str) (j:Nat),j<=k/\ps.length=n/\Binds K fd ps []/\FnOk P w K mg base (L2.CX P w) j f fd ps (Vm K aj ps.length m)
def FG(P:Program)(w:World)(K:ap9)(mg:Str->Option Value)(base:Heap)(aj:aO)(k:Nat)(f:Addr)(n:Nat)(m:Mo->List Dat->aY Dat):Prop:=
 ∃(fd:FuncData) (ps:List Str) (j:Nat),j<=k/\ps.length=n/\Binds K fd ps []/\FnOk P w K mg base (L2.CX P w) j f fd ps (Iw K aj ps.length m)
def jh(K:ap9)(aj:aO):Prop:=∀c C f,aj c=some C->f∈aj.fl c->Cls K C/\NoAttr K C f
def bV(P:Program)(w:World)(K:ap9)(mg:Str->Option Value)(base:Heap)(aj:aO)(k:Nat)(c m:Str)(v:MV):Prop:=
 ∃C f,aj c=some C/\Cls K C/\Meth K C m f/\m∉aj.fl c/\match v with
  |.q n mm=>FQ P w K mg base aj k f n mm
  |.g n mm=>FG P w K mg base aj k f n mm
def aem(C:Addr)(fs:List Str):Sp:=fun vs H Q _=>∃(a:Addr) (xs:List V),vs=.ref a::xs/\xs.length=fs.length/\H a=some (exo a C none)/\
 ∀(dx:Addr) (H':Hp),H dx=none->(∀b o,b≠a->H b=some o->H' b=some o)->(∀b,H' b=none->H b=none)->H' a=some (exo a C (some dx))->H' dx=some (exd dx (fs.zip xs).reverse)->Q .non H'
def abE(w:World)(K:ap9)(a:Addr)(kvs:List (Str×Dat)):Prop:=∃(es:Array DictEntry) (n:Nat),KDict K w a es n/\(kvs.map (·.1)).Nodup/\
 ∀x:Str,match kvs.lookup x with
  |some d=>∃v u,PySem.W.nsIn K a x=some (some u)/\RelV v u/\∀g H,Rep K g H v d
  |none=>PySem.W.nsIn K a x=some none
def bf(P:Program)(w:World)(K:ap9)(mg:Str->Option Value)(base:Heap)(aj:aO)(k:Nat)(x:Str):GV->Prop
 |.con d=>∃v u,mg x=some u/\RelV v u/\∀g H,Rep K g H v d
 |.fq n m=>∃f,mg x=some (.ref f)/\PySem.W.keepIn K (.ref f)=true/\FQ P w K mg base aj k f n m
 |.fg n m=>∃f,mg x=some (.ref f)/\PySem.W.keepIn K (.ref f)=true/\FG P w K mg base aj k f n m
 |.dic kvs=>∃a,mg x=some (.ref a)/\abE w K a kvs
 |.exc=>∃C,mg x=some (.ref C)/\aj x=some C/\PySem.W.excIn K C He.veBase "ValueError.__new__"=true/\PySem.W.keepIn K (.ref C)=true/\PySem.W.subIn K (.ref C) (.type "BaseException")=some true/\PySem.W.typeIn K (.ref C)=some (.type "type")
 |.exi fs=>∃(C fI:Addr) (fd:FuncData) (ps:List Str),mg x=some (.ref C)/\aj x=some C/\OexC K C/\PySem.W.findIn K (.ref C) "__init__"=some (some (.ref fI))/\PySem.W.typeIn K (.ref fI)=some (.type "function")/\2<=k/\ps.length=fs.length+1/\Binds K fd ps []/\FnOk P w K mg base CX0 1 fI fd ps (aem C fs)
 |.cls n m=>∃(C f:Addr) (fd:FuncData) (ps:List Str) (j:Nat),mg x=some (.ref C)/\aj x=some C/\Cls K C/\Mk K C f/\j+1<=k/\ps.length=n+1/\Binds K fd ps []/\FnOk P w K mg base (L2.CX P w) j f fd ps (Iw K aj ps.length m)
def abx(K:ap9)(aj:aO)(y:Str)(tk:Str->Option Bool):Prop:=∀x b C,tk x=some b->aj x=some C->∀D,aj y=some D->PySem.W.exmOne K (.ref C) (.ref D)=some b
def putL(f:Str)(x:iJ):List (Str×iJ)->List (Str×iJ)
 |[]=>[(f,x)]
 |(g,y)::r=>if g=f then(g,x)::r else(g,y)::putL f x r
def Inst.put(i:Inst)(f:Str)(x:iJ):Inst:=⟨i.cls,putL f x i.fs⟩
theorem Hr(f:Str)(x:iJ):∀gs:List (Str×iJ),(putL f x gs).map (·.1)=if f∈gs.map (·.1) then gs.map (·.1) else gs.map (·.1)++[f]
 |[]=>by simp[putL]
 |(g,y)::r=>by
  have ih:=Hr f x r
  rw[putL]
  by_cases e:g=f
  ·subst e
   simp
  ·rw[if_neg e,aqd,ih]
   by_cases h:f∈r.map (·.1)
   ·rw[if_pos h,if_pos (by simp[h])]
    rfl
   ·rw[if_neg h,if_neg (by
     rw[aqd,aqp]
     rintro(z|z)
     ·exact e z.symm
     ·exact h z)]
    rfl
theorem aa7{f:Str}{x:iJ}{gs:List (Str×iJ)}(h:(gs.map (·.1)).Nodup):((putL f x gs).map (·.1)).Nodup:=by
 rw[Hr]
 split
 ·exact h
 ·next n=>
  rw[aqQ]
  refine⟨h,by simp,fun a ha b hb e=>?_⟩
  subst e
  rw[aqg]at hb
  subst hb
  exact n ha
theorem Jv{f:Str}{v:V}:∀{fs:List (Str×V)},fs.lookup f=some v->putF f v fs=fs
 |[],h=>nomatch h
 |(g,y)::r,h=>by
  rw[aqA]at h
  rw[show putF f v ((g,y)::r)=(if g=f then(g,v)::r else(g,y)::putF f v r) from rfl]
  by_cases e:g=f
  ·subst e
   simp at h
   rw[if_pos rfl,h]
  ·have ne:(f==g)=false:=by simpa using fun z=>e z.symm
   rw[ne]at h
   rw[if_neg e,Jv h]
section
variable{K:ap9}{aj:aO}{W:WX}{g g':Gh}{H H':Hp}{σ:L2.St}{ρ:Env}{M:Mo}{h:Nat}{f:Str}{v:V}{fl:iJ}
theorem cJ.put(hk:∀f' v' fl',f'≠f->dO K aj g H h f' v' fl'->dO K aj g' H' h f' v' fl')(new:dO K aj g' H' h f v fl):∀{fs:List (Str×V)} {gs:List (Str×iJ)},cJ K aj g H h fs gs->(gs.map (·.1)).Nodup->cJ K aj g' H' h (putF f v fs) (putL f fl gs)
 |_,_,.nil,_=>.cons new .nil
 |_,_,.cons (f:=f') (v:=v') (fl:=fl') (fs:=fs) (gs:=gs) z t,nd=>by
  rw[show putF f v ((f',v')::fs)=(if f'=f then(f',v)::fs else(f',v')::putF f v fs) from rfl,putL]
  rw[aqd,aqZ]at nd
  by_cases e:f'=f
  ·subst e
   rw[if_pos rfl,if_pos rfl]
   refine .cons new ?_
   have go:∀{fs:List (Str×V)} {gs:List (Str×iJ)},cJ K aj g H h fs gs->f'∉gs.map (·.1)->cJ K aj g' H' h fs gs:=fun {fs gs} t=>by
    induction t with
    |nil=>exact fun _=>.nil
    |cons z _ ih=>
     intro n
     rw[aqd,aqp,not_or]at n
     exact .cons (hk _ _ _ (fun q=>n.1 q.symm) z) (ih n.2)
   exact go t nd.1
  ·rw[if_neg e,if_neg e]
   exact .cons (hk _ _ _ e z) (cJ.put hk new t nd.2)
structure Chg(M:Mo)(g g':Gh)(H H':Hp)(h:Nat)(f:Str):Prop where
 gc:Gc g g' H H'
 kd:Kd g' H'
 tbl:g'.tbl=g.tbl
 ow:∀a p,g.ow a=some p->g'.ow a=some p
 oth:∀a p,g.ow a=some p->p≠(h,f)->H' a=H a
 ins:∀(k:Nat) (a:Addr) (i:Inst),g.tbl[k]?=some a->M[k]?=some i->i.cls≠""->k≠h->H' a=H a
 nt:∀(k:Nat) (a:Addr) (i:Inst),g.tbl[k]?=some a->M[k]?=some i->i.cls≠""->∀p,g'.ow a≠some p
theorem ji.chg{l:Addr}(r:Gr false g g' H H')(k:Kd g H)(e:H' l=H l):∀{n:Bool} {kvs:List (Dat×Dat)},ji K aj g H l n kvs->ji K aj g' H' l n kvs
 |false,_,⟨kv,h1,h2,h3⟩=>⟨kv,e.trans h1,h2,h3.gr r k⟩
 |true,_,⟨o,xs,vs,h1,h2,h3,h4,h5,h6⟩=>⟨o,xs,vs,e.trans h1,h2,h3,h4.gr r k,h5,h6.gr r k⟩
theorem dO.chg(c:Chg M g g' H H' h f)(k:Kd g H){h':Nat}{f':Str}{v':V}(ne:(h',f')≠(h,f)):∀{fl':iJ},dO K aj g H h' f' v' fl'->dO K aj g' H' h' f' v' fl'
 |.dat _,z=>Rep.gr c.gc.gr k z
 |.lst _ _,⟨l,us,h1,h2,h3,h4,h5⟩=>⟨l,us,h1,(c.oth l _ h3 ne).trans h2,c.ow l _ h3,h4.gr c.gc.gr k,c.gc.gr.tb h5⟩
 |.dic _ _,⟨l,h1,h2,h3⟩=>⟨l,h1,c.ow l _ h2,h3.chg c.gc.gr k (c.oth l _ h2 ne)⟩
theorem fM.chg(w:fM K aj g H M)(k:Kd g H)(c:Chg M g g' H H' h f){a:Addr}{i:Inst}(ha:g.tbl[h]?=some a)(hi:M[h]?=some i)(hne:i.cls≠"")(hf:f∈aj.fl i.cls){C dx:Addr}{fs:List (Str×V)}(hC:aj i.cls=some C)(R:cJ K aj g H h fs i.fs)
  (e':H' a=some (.ins C dx (putF f v fs))) (new:dO K aj g' H' h f v fl):fM K aj g' H' (M.set h (i.put f fl)) where
 len:=by rw[c.tbl,aqy];exact w.len
 inj:=by rw[c.tbl];exact w.inj
 ins:=fun h' a' i' ha' hi' hc'=>by
  rw[c.tbl]at ha'
  by_cases z:h'=h
  ·subst z
   rw[ha]at ha'
   cases ha'
   rw[aqr (aqb.mp hi).1]at hi'
   cases hi'
   exact⟨C,dx,_,hC,e',R.put (fun f' v' fl' ne z=>z.chg c k fun q=>ne (congrArg Prod.snd q)) new (w.nd _ i hi)⟩
  ·rw[aqi (Ne.symm z)]at hi'
   obtain⟨C',dx',fs',c1,c2,c3⟩:=w.ins h' a' i' ha' hi' hc'
   refine⟨C',dx',fs',c1,(c.ins h' a' i' ha' hi' hc' z).trans c2,?_⟩
   have go:∀{fs:List (Str×V)} {gs:List (Str×iJ)},cJ K aj g H h' fs gs->cJ K aj g' H' h' fs gs:=fun {fs gs} t=>by
    induction t with
    |nil=>exact .nil
    |cons y _ ih=>exact .cons (y.chg c k fun q=>z (congrArg Prod.fst q)) ih
   exact go c3
 nd:=fun h' i' hi'=>by
  by_cases z:h'=h
  ·subst z
   rw[aqr (aqb.mp hi).1]at hi'
   cases hi'
   exact aa7 (w.nd _ i hi)
  ·rw[aqi (Ne.symm z)]at hi'
   exact w.nd h' i' hi'
 fd:=fun h' i' hi' f' hf'=>by
  by_cases z:h'=h
  ·subst z
   rw[aqr (aqb.mp hi).1]at hi'
   cases hi'
   have hf':f'∈(putL f fl i.fs).map (·.1):=hf'
   rw[Hr]at hf'
   split at hf'
   ·exact w.fd _ i hi f' hf'
   ·rcases aqo.mp hf' with y|y
    ·exact w.fd _ i hi f' y
    ·rw[aqg]at y
     rw[y]
     exact hf
  ·rw[aqi (Ne.symm z)]at hi'
   exact w.fd h' i' hi' f' hf'
 tw:=fun k' a' i' ha' hi' hc'=>by
  rw[c.tbl]at ha'
  have:∃i0,M[k']?=some i0/\i0.cls≠"":=by
   by_cases z:k'=h
   ·subst z
    exact⟨i,hi,hne⟩
   ·rw[aqi (Ne.symm z)]at hi'
    exact⟨i',hi',hc'⟩
  obtain⟨i0,m1,m2⟩:=this
  cases hz:g'.ow a' with
  |none=>rfl
  |some p=>exact absurd hz (c.nt k' a' i0 ha' m1 m2 p)
 dm:=fun h' i' hi' hc'=>by
  by_cases z:h'=h
  ·subst z
   rw[aqr (aqb.mp hi).1]at hi'
   cases hi'
   exact absurd hc' hne
  ·rw[aqi (Ne.symm z)]at hi'
   exact w.dm h' i' hi' hc'
 nc:=w.nc
theorem akY{a:Addr}(ha:g.tbl[h]?=some a):g.W a:=.inl (aqh ha)
theorem Ua(k:Kd g H)(w:fM K aj g H M){a:Addr}{i:Inst}(ha:g.tbl[h]?=some a)(hi:M[h]?=some i)(hc:i.cls≠""){C dx:Addr}{fs':List (Str×V)}:Chg M g g H (upd H a (.ins C dx fs')) h f where
 gc:=⟨fun b o hb n=>by rw[upd_ne (fun z=>by subst z;exact n (akY ha))];exact hb,fun b hb=>by
  by_cases z:b=a
  ·subst z
   rw[upd_same]at hb
   cases hb
  ·rw[upd_ne z]at hb
   exact hb,⟨[],by simp⟩,fun _ z=>z,fun _ z=>.inl z,rfl,rfl⟩
 kd:=k.upd trivial
 tbl:=rfl
 ow:=fun _ _ z=>z
 oth:=fun b p hb _=>upd_ne fun z=>by
  subst z
  rw[w.tw h _ i ha hi hc]at hb
  cases hb
 ins:=fun j b i' hb _ _ ne=>upd_ne fun z=>by
  subst z
  exact ne (w.inj _ _ _ hb ha)
 nt:=fun j b i' hb hj hcj p z=>by
  rw[w.tw j b i' hb hj hcj]at z
  cases z
def Gh.own(g:Gh)(l:Addr)(h:Nat)(f:Str):Gh:={ g with ow:=fun b=>if b=l then some (h,f) else g.ow b }
theorem akO{l a:Addr}(hl:l∈g.tbl):(g.own l h f).W a↔g.W a:=by
 constructor
 ·rintro(z|z)
  ·exact .inl z
  ·by_cases y:a=l
   ·subst y
    exact .inl hl
   ·have z:(if a=l then some (h,f) else g.ow a)≠none:=z
    rw[if_neg y]at z
    exact .inr z
 ·rintro(z|z)
  ·exact .inl z
  ·refine .inr ?_
   show(if a=l then some (h,f) else g.ow a)≠none
   split
   ·exact fun q=>nomatch q
   ·exact z
theorem T7(k:Kd g H)(w:fM K aj g H M){a l:Addr}{n:Nat}{i:Inst}(ha:g.tbl[h]?=some a)(hi:M[h]?=some i)(hc:i.cls≠"")(hl:g.tbl[n]?=some l)(hn:M[n]?=some ⟨"",[]⟩)(nl:g.ow l=none){C dx:Addr}{fs':List (Str×V)}:Chg M g (g.own l h f) H (upd H a (.ins C dx fs')) h f:=by
 have W':∀{b:Addr},(g.own l h f).W b↔g.W b:=fun {b}=>akO (aqh hl)
 have d:=Ua (f:=f) (C:=C) (dx:=dx) (fs':=fs') k w ha hi hc
 refine⟨⟨d.gc.keep,d.gc.dom,⟨[],by simp[Gh.own]⟩,fun b z=>W'.mpr z,fun b z=>.inl (W'.mp z),rfl,rfl⟩,⟨fun b z=>d.kd.ob b ?_,fun b z y=>d.kd.lo b z (W'.mp y),fun b z=>⟨fun y=>(d.kd.lc b z).1 (W'.mp y),(d.kd.lc b z).2⟩⟩,rfl,fun b p z=>?_,d.oth,d.ins,fun j b i' hb hj hcj p z=>?_⟩
 ·rcases z with z|z|z
  ·exact .inl (W'.mp z)
  ·exact .inr (.inl z)
  ·exact .inr (.inr z)
 ·show(if b=l then some (h,f) else g.ow b)=some p
  rw[if_neg (fun y=>by subst y;rw[nl]at z;cases z)]
  exact z
 ·have z:(if b=l then some (h,f) else g.ow b)=some p:=z
  by_cases y:b=l
  ·subst y
   cases w.inj _ _ _ hb hl
   rw[hn]at hj
   cases hj
   exact hcj rfl
  ·rw[if_neg y,w.tw j b i' hb hj hcj]at z
   cases z
theorem acj(k:Kd g H)(w:fM K aj g H M){l:Addr}{o':HO}(ho:g.ow l=some (h,f))(mo:Hw o'):Chg M g g H (upd H l o') h f where
 gc:=⟨fun b u hb n=>by rw[upd_ne (fun z=>by subst z;exact n (.inr (by rw[ho];exact fun y=>nomatch y)))];exact hb,fun b hb=>by
  by_cases z:b=l
  ·subst z
   rw[upd_same]at hb
   cases hb
  ·rw[upd_ne z]at hb
   exact hb,⟨[],by simp⟩,fun _ z=>z,fun _ z=>.inl z,rfl,rfl⟩
 kd:=k.upd mo
 tbl:=rfl
 ow:=fun _ _ z=>z
 oth:=fun b p hb ne=>upd_ne fun z=>by
  subst z
  rw[ho]at hb
  exact ne (aqv hb).symm
 ins:=fun j b i' hb hj hcj ne=>upd_ne fun z=>by
  subst z
  rw[w.tw j _ i' hb hj hcj]at ho
  cases ho
 nt:=fun j b i' hb hj hcj p z=>by
  rw[w.tw j b i' hb hj hcj]at z
  cases z
theorem cJ.len{fs:List (Str×V)}{gs:List (Str×iJ)}(t:cJ K aj g H h fs gs):fs.length=gs.length:=by
 induction t with
 |nil=>rfl
 |cons _ _ ih=>simp[ih]
end
def Jt(M:Mo)(f:Str):Dat->Option iJ
 |.dict [(.none,.int (.ofNat h))]=>(M[h]?).bind fun i=>i.fs.lookup f
 |_=>none
def gq(f:Str)(o:QF):QF:=fun M ρ=>(o M ρ).bind fun d=>match Jt M f d with
 |some (.dat x)=>.ok x
 |_=>.bad
def bH(f:Str)(o:QF):QF:=fun M ρ=>(o M ρ).bind fun d=>match Jt M f d with
 |some (.dat x)=>.ok x
 |some (.lst _ xs)=>.ok (.list xs)
 |_=>.bad
theorem acd{M:Mo}{f:Str}{d:Dat}{fl:iJ}(h:Jt M f d=some fl):∃n i,d=obj n/\M[n]?=some i/\i.fs.lookup f=some fl:=by
 unfold Jt at h
 split at h
 ·next n=>
  obtain⟨i,h1,h2⟩:=ap8.mp h
  exact⟨n,i,rfl,h1,h2⟩
 ·cases h
theorem lookup_mem{f:Str}{fl:iJ}:∀{gs:List (Str×iJ)},gs.lookup f=some fl->f∈gs.map (·.1)
 |[],h=>nomatch h
 |(g,y)::r,h=>by
  rw[aqA]at h
  cases hb:f==g with
  |true=>rw[eq_of_beq hb];simp
  |false=>
   rw[hb]at h
   exact aqe _ (lookup_mem h)
section
variable{K:ap9}{aj:aO}{g:Gh}{H:Hp}{M:Mo}
theorem Xi(co:jh K aj)(w:fM K aj g H M){f:Str}{d:Dat}{fl:iJ}{v:V}(h:Jt M f d=some fl)(r:dU K g H v d):∃n i a C dx fs u,d=obj n/\M[n]?=some i/\i.fs.lookup f=some fl/\g.tbl[n]?=some a/\v=.ref a/\aj i.cls=some C/\H a=some (.ins C dx fs)/\cJ K aj g H n fs i.fs/\Cls K C/\NoAttr K C f/\fs.lookup f=some u/\dO K aj g H n f u fl:=by
 obtain⟨n,i,rfl,h1,h2⟩:=acd h
 obtain⟨a,rfl,ha⟩:=KC r
 have hc:i.cls≠"":=fun z=>by
  rw[w.dm n i h1 z]at h2
  cases h2
 obtain⟨C,dx,fs,c1,c2,c3⟩:=w.ins n a i ha h1 hc
 obtain⟨u,l1,l2⟩:=c3.get h2
 obtain⟨k1,k2⟩:=co i.cls C f c1 (w.fd n i h1 f (lookup_mem h2))
 exact⟨n,i,a,C,dx,fs,u,rfl,h1,h2,ha,rfl,c1,c2,c3,k1,k2,l1,l2⟩
end
section
variable{X:Cx}{aj:aO}{W:WX}{o e:Expr}{es:List Expr}{fo:QF}{f m:Str}{pos apos:Pos}
theorem aie(co:jh X.K aj)(ho:QW aj X W o fo)(hb:baseOk o=true):QE aj X W (.Attribute o f pos) (gq f fo):=
 PE.weak (pe_fld ho (lN hb)) fun σ H Q ⟨g,ρ,M,I,h⟩=>by
  refine tW.go I h.bnd fun d v H1 h1 e1 r1=>?_
  split at h1
  ·next x hx=>
   obtain⟨n,i,a,C,dx,fs,u,_,_,_,_,rfl,_,c2,_,k1,k2,l1,l2⟩:=Xi co (I.ex e1).wok hx r1
   exact⟨a,C,dx,fs,u,rfl,c2,k1,k2,l1,h1 u H1 e1 l2⟩
  ·exact False.elim h1
theorem ai2(co:jh X.K aj)(ho:QW aj X W o fo)(hb:baseOk o=true):QW aj X W (.Attribute o f pos) (bH f fo):=
 PE.weak (pe_fld ho (lN hb)) fun σ H Q ⟨g,ρ,M,I,h⟩=>by
  refine tW.go I h.bnd fun d v H1 h1 e1 r1=>?_
  split at h1
  ·next x hx=>
   obtain⟨n,i,a,C,dx,fs,u,_,_,_,_,rfl,_,c2,_,k1,k2,l1,l2⟩:=Xi co (I.ex e1).wok hx r1
   exact⟨a,C,dx,fs,u,rfl,c2,k1,k2,l1,h1 u H1 e1 (Rep.weak l2)⟩
  ·next xs hx=>
   obtain⟨n,i,a,C,dx,fs,u,_,_,_,_,rfl,_,c2,_,k1,k2,l1,l,us,rfl,s1,s2,s3,_⟩:=Xi co (I.ex e1).wok hx r1
   exact⟨a,C,dx,fs,_,rfl,c2,k1,k2,l1,h1 _ H1 e1 ⟨l,us,rfl,sq_of s1,s3⟩⟩
  ·exact False.elim h1
def Rk(X:Cx)(W:WX)(m:Str)(ta:TE)(t:TA):TE:=fun σ H Q=>ta σ H fun x H1=>∃(a C dx:Addr) (fs:List (Str×V)) (f:Addr) (fd:FuncData) (ps:List Str) (sp:Sp) (k:Nat),x=.ref a/\H1 a=some (.ins C dx fs)/\fs.lookup m=none/\Cls X.K C/\Meth X.K C m f/\Room k X.A/\Binds X.K fd ps []/\
 FnOk X.prog X.w X.K X.mg X.base (L2.CX X.prog X.w) k f fd ps sp/\t σ H1 fun vs H2=>sp (x::vs) H2 Q (WE W σ)
theorem Uu{M:Model}{A:Around}{E:Value->Shared->Prop}{s:Shared}{env:PySem.Env}{args:List Expr}{Q:Value->Shared->Prop}(hbase:baseOk o=true)(hs:args.all nst=true)(hz:args.length < 30)(hl:(apos.endLine==pos.line)=true)
  (h:wpAny M A (eval o env) (fun ov s₁=>∀pl:Sem Bool,wpAny M A (getMethod ov m pl) (fun fx s₂=>wpAny M A (callWith pos fx.1 fx.2 (backTo pos (starEach args env)) (backToKw pos (keywordEach [] env))) Q E s₂) E s₁) E s) :
  wpAny M A (eval (.Call (.Attribute o m apos) args [] pos) env) Q E s:=by
 have hform:methodCallForm (args.length+([]:List Keyword).length) (backTo pos (starEach args env)) (backToKw pos (keywordEach [] env))=true:=few hs hz
 have hpos:methodCallPos true o env apos pos=pure pos:=by unfold methodCallPos;simp[hl]
 rw[arm_eval_Call,lN hbase]
 refine wpAny_bind (wpAny_mono h (fun ov s₁ h₁=>?_) fun _ _ e=>e)
 refine wpAny_bind (wpAny_standAt ?_)
 unfold methodCall
 rw[hform]
 refine wpAny_bind (wpAny_holding ?_)
 refine wpAny_mono (h₁ _) (fun fx s₂ h₂=>?_) fun _ _ e=>e
 exact wpAny_bind (wpAny_of_eq hpos h₂)
theorem YK{ta:TE}{t:TA}(tk:Takes X W)(ho:PE X o ta)(ha:PA X (e::es) t)(hb:baseOk o=true)(hs:(e::es).all nst=true)(hl:(apos.endLine==pos.line)=true)(hz:(e::es).length < 30):PE X (.Call (.Attribute o m apos) (e::es) [] pos) (Rk X W m ta t):=by
 have hs':=hs
 rw[aqK,aqa]at hs'
 refine⟨fun pins s σ H Q I h=>?_⟩
 refine Uu hb hs hz hl (thn (ho.run pins s σ H _ I h) fun u s1 ⟨x,G,J,rx,a,C,dx,fs,f,fd,ps,sp,k,ex,ea,l,c,hm,hr,hB,F,q⟩ pl=>?_)
 subst ex
 cases rx
 refine getmeth_ok J ea c hm l ?_
 refine PySem.W.callWith_K (first:=[.ref a]) (h₀:=X.base) I.ok.mod.kin hm.kp (thn (ha.run pos pins s1 σ G _ J q) fun us s2 ⟨vs,G2,J2,r,q2⟩=>⟨J2.kIn,?_⟩) (cO hs'.1 es) (star_any es hs'.2)
 exact run_fnS (us:=.ref a::us) (vs:=.ref a::vs) F hr hB (passAt tk σ) J2 (.cons rfl r) q2
theorem Vn{ta:TE}(tk:Takes X W)(ho:PE X o ta)(hb:baseOk o=true)(hl:(apos.endLine==pos.line)=true):PE X (.Call (.Attribute o m apos) [] [] pos) (Rk X W m ta tNil):=by
 refine⟨fun pins s σ H Q I h=>?_⟩
 refine Uu hb rfl (by decide) hl (thn (ho.run pins s σ H _ I h) fun u s1 ⟨x,G,J,rx,a,C,dx,fs,f,fd,ps,sp,k,ex,ea,l,c,hm,hr,hB,F,q⟩ pl=>?_)
 subst ex
 cases rx
 refine getmeth_ok J ea c hm l ?_
 exact PySem.W.callWith_K0 (first:=[.ref a]) J.kIn hm.kp (run_fnS (us:=[.ref a]) (vs:=[.ref a]) F hr hB (passAt tk σ) J (.cons rfl .nil) q)
def CG(tb:List (Str×MV))(M:Mo):Dat->Option MV
 |.dict [(.none,.int (.ofNat h))]=>(M[h]?).bind fun i=>tb.lookup i.cls
 |_=>none
def aP(tb:List (Str×MV))(o:QF)(as:QA):QF:=fun M ρ=>(o M ρ).bind fun d=>match CG tb M d with
 |some (.q _ m)=>(as M ρ).bind fun ds=>m M (d::ds)
 |_=>.bad
def cM(tb:List (Str×MV))(o:QF)(as:QA):GF:=fun M ρ=>((o M ρ).at M).bind fun d _=>match CG tb M d with
 |some (.q _ m)=>((as M ρ).at M).bind fun ds _=>(m M (d::ds)).at M
 |some (.g _ m)=>((as M ρ).at M).bind fun ds _=>m M (d::ds)
 |none=>.bad
def HW(X:Cx)(aj:aO)(k:Nat)(m:Str)(n:Nat)(tb:List (Str×MV)):Prop:=∀c v,tb.lookup c=some v->bV X.prog X.w X.K X.mg X.base aj k c m v/\match v with
  |.q j _=>j=n
  |.g j _=>j=n
theorem HW.cls{k n:Nat}{tb:List (Str×MV)}(T:HW X aj k m n tb):∀c v,tb.lookup c=some v->aj c≠none:=fun c v h z=>by
 obtain⟨⟨C,f,c1,_⟩,_⟩:=T c v h
 rw[z]at c1
 cases c1
theorem R9{K:ap9}{g:Gh}{H:Hp}{M:Mo}{tb:List (Str×MV)}{d:Dat}{v:V}{mv:MV}(ht:∀c v,tb.lookup c=some v->aj c≠none)(w:fM K aj g H M)(h:CG tb M d=some mv)(r:dU K g H v d):∃n i a C dx fs,d=obj n/\M[n]?=some i/\tb.lookup i.cls=some mv/\g.tbl[n]?=some a/\v=.ref a/\aj i.cls=some C/\H a=some (.ins C dx fs)/\cJ K aj g H n fs i.fs:=by
 unfold CG at h
 split at h
 ·next n=>
  obtain⟨i,h1,h2⟩:=ap8.mp h
  obtain⟨a,rfl,ha⟩:=KC r
  obtain⟨C,dx,fs,c1,c2,c3⟩:=w.ins n a i ha h1 fun z=>ht _ _ h2 (by rw[z];exact w.nc)
  exact⟨n,i,a,C,dx,fs,rfl,h1,h2,ha,rfl,c1,c2,c3⟩
 ·cases h
theorem Yv{K:ap9}{g:Gh}{H:Hp}{M:Mo}{n:Nat}{i:Inst}{fs:List (Str×V)}(w:fM K aj g H M)(hi:M[n]?=some i)(R:cJ K aj g H n fs i.fs)(h:m∉aj.fl i.cls):fs.lookup m=none:=by
 refine R.no ?_
 cases hl:i.fs.lookup m with
 |none=>rfl
 |some x=>exact absurd (w.fd n i hi m (lookup_mem hl)) h
theorem adn{tb:List (Str×MV)}{as:QA}{n k:Nat}{t:TA}(hr:Room k X.A)(T:HW X aj k m n tb)(hn:∀M ρ ds,as M ρ=.ok ds->ds.length+1=n)(ht:∀σ H Q,Mv X.K aj W as σ H Q->t σ H Q)(σ:L2.St)(H:Hp)(Q:VK)(h:tQ X.K aj W (aP tb fo as) σ H Q):Rk X W m (tW X.K aj W fo) t σ H Q:=by
 obtain⟨g,ρ,M,I,h⟩:=h
 refine tW.go I h.bnd fun d v H1 h1 e1 r1=>?_
 have I1:=I.ex e1
 split at h1
 ·next j mm hmv=>
  obtain⟨hd,i,a,C,dx,fs,rfl,hi,hl,ha,rfl,c1,c2,c3⟩:=R9 T.cls I1.wok hmv r1
  obtain⟨⟨C',f,cc,cl,me,nf,fd,ps,j',hj,hp,hB,F⟩,en⟩:=T _ _ hl
  have en:j=n:=en
  rw[c1]at cc
  cases cc
  refine⟨a,C,dx,fs,f,fd,ps,_,j',rfl,c2,Yv I1.wok hi c3 nf,cl,me,hr.mono hj,hB,F,ht σ H1 _ ⟨g,ρ,M,I1,?_⟩⟩
  have h2:=h1.bnd
  cases has:as M ρ with
  |exc x=>rw[has]at h2;exact qF.ex e1 h2
  |bad=>rw[has]at h2;exact False.elim h2
  |ok ds=>
   rw[has]at h2
   intro vs H2 e2 r2
   refine⟨by rw[hp,en,←hn M ρ ds has,aqn,r2.length],g,M,obj hd::ds,(I1.ex e2).kd,(I1.ex e2).wok,.cons (.obj ha) r2,?_⟩
   exact Out.sat.mono h2 (fun d k v H' e' r'=>k v H' ((e1.trans e2).trans e') r') fun x k H' c dd e' r'=>k H' c dd ((e1.trans e2).trans e') r'
 ·exact False.elim h1
theorem agU{tb:List (Str×MV)}{as:QA}{k:Nat}(tk:Takes X W)(hr:Room k X.A)(T:HW X aj k m ((e::es).length+1) tb)(ho:QW aj X W o fo)(ha:Cr aj X W (e::es) as)(hn:∀M ρ ds,as M ρ=.ok ds->ds.length=(e::es).length)(hb:baseOk o=true)(hs:(e::es).all nst=true)(hl:(apos.endLine==pos.line)=true)(hz:(e::es).length < 30) :
  QE aj X W (.Call (.Attribute o m apos) (e::es) [] pos) (aP tb fo as):=
 PE.weak (YK tk ho ha hb hs hl hz) fun σ H Q h=>adn hr T (fun M ρ ds z=>by rw[hn M ρ ds z]) (fun _ _ _ z=>z) σ H Q h
theorem aez{tb:List (Str×MV)}{k:Nat}(tk:Takes X W)(hr:Room k X.A)(T:HW X aj k m 1 tb)(ho:QW aj X W o fo)(hb:baseOk o=true)(hl:(apos.endLine==pos.line)=true) :
  QE aj X W (.Call (.Attribute o m apos) [] [] pos) (aP tb fo au):=
 PE.weak (Vn tk ho hb hl) fun σ H Q h=>adn hr T (fun M ρ ds z=>by cases z;rfl) (fun σ H Q ⟨g,ρ,M,I,z⟩=>z [] H (Ex.refl H) .nil) σ H Q h
theorem acA{tb:List (Str×MV)}{as:QA}{n k:Nat}{t:TA}(hr:Room k X.A)(T:HW X aj k m n tb)(hn:∀M ρ ds,as M ρ=.ok ds->ds.length+1=n)(ht:∀σ H Q,Mv X.K aj W as σ H Q->t σ H Q)(σ:L2.St)(H:Hp)(Q:VK)(h:tE X.K aj W false (cM tb fo as) σ H Q):Rk X W m (tW X.K aj W fo) t σ H Q:=by
 obtain⟨g,ρ,M,I,h⟩:=h
 have quiet:∀{x:dI},gE X.K aj W false g H σ ρ x M->qF X.K aj W g H σ x:=fun {x} z H' c dd e r=>z H' g c dd (Gr.ex e) (I.ex e) r
 have h:=h.bnd
 refine⟨g,ρ,M,I,?_⟩
 cases ho:fo M ρ with
 |exc x=>rw[ho]at h;exact quiet h
 |bad=>rw[ho]at h;exact False.elim h
 |ok d=>
  rw[ho]at h
  intro v H1 e1 r1
  have I1:=I.ex e1
  have h:(match CG tb M d with
   |some (.q _ m)=>((as M ρ).at M).bind fun ds _=>(m M (d::ds)).at M
   |some (.g _ m)=>((as M ρ).at M).bind fun ds _=>m M (d::ds)
   |none=>.bad).sat (fun d M'=>∀v H' g',Gr false g g' H H'->SInv X.K aj σ H' g' ρ M'->Rep X.K g' H' v d->Q v H') (gE X.K aj W false g H σ ρ):=h
  split at h
  ·next j mm hmv=>
   obtain⟨hd,i,a,C,dx,fs,rfl,hi,hl,ha,rfl,c1,c2,c3⟩:=R9 T.cls I1.wok hmv r1
   obtain⟨⟨C',f,cc,cl,me,nf,fd,ps,j',hj,hp,hB,F⟩,en⟩:=T _ _ hl
   have en:j=n:=en
   rw[c1]at cc
   cases cc
   refine⟨a,C,dx,fs,f,fd,ps,_,j',rfl,c2,Yv I1.wok hi c3 nf,cl,me,hr.mono hj,hB,F,ht σ H1 _ ⟨g,ρ,M,I1,?_⟩⟩
   have h2:=h.bnd
   cases has:as M ρ with
   |exc x=>rw[has]at h2;exact qF.ex e1 (quiet h2)
   |bad=>rw[has]at h2;exact False.elim h2
   |ok ds=>
    rw[has]at h2
    intro vs H2 e2 r2
    have e12:=e1.trans e2
    refine⟨by rw[hp,en,←hn M ρ ds has,aqn,r2.length],g,M,obj hd::ds,(I1.ex e2).kd,(I1.ex e2).wok,.cons (.obj ha) r2,?_⟩
    exact Out.sat.mono (Out.iK h2) (fun d k v H' e' r'=>k v H' g (Gr.ex (e12.trans e')) (I.ex (e12.trans e')) r') fun x k H' c dd e' r'=>k H' g c dd (Gr.ex (e12.trans e')) (I.ex (e12.trans e')) r'
  ·next j mm hmv=>
   obtain⟨hd,i,a,C,dx,fs,rfl,hi,hl,ha,rfl,c1,c2,c3⟩:=R9 T.cls I1.wok hmv r1
   obtain⟨⟨C',f,cc,cl,me,nf,fd,ps,j',hj,hp,hB,F⟩,en⟩:=T _ _ hl
   have en:j=n:=en
   rw[c1]at cc
   cases cc
   refine⟨a,C,dx,fs,f,fd,ps,_,j',rfl,c2,Yv I1.wok hi c3 nf,cl,me,hr.mono hj,hB,F,ht σ H1 _ ⟨g,ρ,M,I1,?_⟩⟩
   have h2:=h.bnd
   cases has:as M ρ with
   |exc x=>rw[has]at h2;exact qF.ex e1 (quiet h2)
   |bad=>rw[has]at h2;exact False.elim h2
   |ok ds=>
    rw[has]at h2
    intro vs H2 e2 r2
    have e12:=e1.trans e2
    refine⟨by rw[hp,en,←hn M ρ ds has,aqn,r2.length],g,M,obj hd::ds,(I1.ex e2).kd,(I1.ex e2).wok,.cons (.obj ha) r2,?_⟩
    exact aY.sat.mono h2 (fun d M' k v H' g' c kd wk r'=>k v H' g' ((Gr.ex e12).trans c.gr) ((I.ex e12).call c kd wk) r') fun x M' k H' g' cc dd c kd wk r'=>k H' g' cc dd ((Gr.ex e12).trans c.gr) ((I.ex e12).call c kd wk) r'
  ·exact False.elim h
theorem ahe{tb:List (Str×MV)}{as:QA}{k:Nat}(tk:Takes X W)(hr:Room k X.A)(T:HW X aj k m ((e::es).length+1) tb)(ho:QW aj X W o fo)(ha:Cr aj X W (e::es) as)(hn:∀M ρ ds,as M ρ=.ok ds->ds.length=(e::es).length)(hb:baseOk o=true)(hs:(e::es).all nst=true)(hl:(apos.endLine==pos.line)=true)(hz:(e::es).length < 30) :
  GE aj X W false (.Call (.Attribute o m apos) (e::es) [] pos) (cM tb fo as):=
 PE.weak (YK tk ho ha hb hs hl hz) fun σ H Q h=>acA hr T (fun M ρ ds z=>by rw[hn M ρ ds z]) (fun _ _ _ z=>z) σ H Q h
theorem aeG{tb:List (Str×MV)}{k:Nat}(tk:Takes X W)(hr:Room k X.A)(T:HW X aj k m 1 tb)(ho:QW aj X W o fo)(hb:baseOk o=true)(hl:(apos.endLine==pos.line)=true) :
  GE aj X W false (.Call (.Attribute o m apos) [] [] pos) (cM tb fo au):=
 PE.weak (Vn tk ho hb hl) fun σ H Q h=>acA hr T (fun M ρ ds z=>by cases z;rfl) (fun σ H Q ⟨g,ρ,M,I,z⟩=>z [] H (Ex.refl H) .nil) σ H Q h
end
def dY(x:Str):SF:=fun M ρ=>.exc ⟨x,[]⟩ ρ M
def Bm(x:Str)(fs:List Str)(as:QA):SF:=fun M ρ=>((as M ρ).at M).then ρ fun ds M'=>.exc ⟨x,(fs.zip ds).reverse⟩ ρ M'
section
variable{X:Cx}{aj:aO}{W:WX}{q:Bool}{x:Str}{pos p p1:Pos}{k:Nat}
theorem aeN(hc:X.calm=true)(tk:Takes X W)(hg:Gl X x)(hd:(x==("__debug__" : Str))=false)(g:bf X.prog X.w X.K X.mg X.base aj k x .exc):SE aj X W q (.Raise (some (.Call (.Name x p) [] [] p1)) none pos) (dY x):=by
 obtain⟨C,g1,g2,g3,g4,g5,g6⟩:=g
 exact PS.weak (ps_raise hc tk (Ear.aee PySem.F.excBase_ValueError g3 g1 g4 (raises_own g5 g6) hg hd)) fun D σ H ⟨g,ρ,M,I,z⟩=>z σ H g (.ref C) none Gr.refl I ⟨C,g2,rfl,.inl ⟨rfl,rfl⟩⟩
theorem j8.gr{K:ap9}{g g':Gh}{H H':Hp}{q:Bool}(r:Gr q g g' H H')(k:Kd g H){fs:List (Str×V)}{gs:List (Str×Dat)}(h:j8 K g H fs gs):j8 K g' H' fs gs:=by
 induction h with
 |nil=>exact .nil
 |cons z _ ih=>exact .cons (z.gr r k) ih
theorem j8.snoc{K:ap9}{g:Gh}{H:Hp}{f:Str}{v:V}{d:Dat}(z:Rep K g H v d){fs:List (Str×V)}{gs:List (Str×Dat)}(h:j8 K g H fs gs):j8 K g H (fs++[(f,v)]) (gs++[(f,d)]):=by
 induction h with
 |nil=>exact .cons z .nil
 |cons y _ ih=>exact .cons y ih
theorem ac5{K:ap9}{g:Gh}{H:Hp}:∀{fs:List Str} {vs:List V} {ds:List Dat},aH K g H vs ds->j8 K g H (fs.zip vs).reverse (fs.zip ds).reverse
 |[],_,_,_=>.nil
 |_::_,_,_,.nil=>.nil
 |f::fs,_,_,.cons z t=>by
  rw[aq3,aq3,aq6,aq6]
  exact(ac5 t).snoc z
theorem ac2{e:Expr}{es:List Expr}{fs:List Str}{as:QA}(hc:X.calm=true)(tk:Takes X W)(hr:Room k X.A)(hg:Gl X x)(hd:(x==("__debug__" : Str))=false)(g:bf X.prog X.w X.K X.mg X.base aj k x (.exi fs))(ha:Cr aj X W (e::es) as)
  (hs:(e::es).all nst=true) (hn:∀M ρ ds,as M ρ=.ok ds->ds.length=fs.length) (hz:fs.length<=1000):SE aj X W q (.Raise (some (.Call (.Name x p) (e::es) [] p1)) none pos) (Bm x fs as):=by
 obtain⟨C,fI,fd,ps,g1,g2,g3,g4,g5,hk,hp,hB,F⟩:=g
 have hs':=hs
 rw[aqK,aqa]at hs'
 refine PS.weak (ps_raise hc tk (pmk_oex g3 g4 g5 F (hr.mono hk) hB .nil pass0 hg g1 ha hd (cO hs'.1 es) (star_any es hs'.2))) fun D σ H ⟨g,ρ,M,I,z⟩=>?_
 refine⟨g,ρ,M,I,?_⟩
 unfold Bm at z
 cases has:as M ρ with
 |exc y=>rw[has]at z;exact fun H' c dd e r=>z σ H' g c dd (Gr.ex e) (I.ex e) r.fr
 |bad=>rw[has]at z;exact False.elim z
 |ok ds=>
  rw[has]at z
  intro vs H1 e1 r1
  have hl:vs.length=fs.length:=by rw[r1.length,hn M ρ ds has]
  refine⟨by omega,fun a na=>⟨a,vs++[],rfl,by simpa using hl,upd_same,fun dx H' nd kp dm ha' hd'=>?_⟩⟩
  have ne:dx≠a:=fun z=>by
   subst z
   rw[upd_same]at nd
   cases nd
  rw[upd_ne ne]at nd
  refine⟨rfl,dx,_,ha',hd',nd,?_⟩
  have kp':∀b o,H1 b=some o->(upd (del H' a) dx (.xd (fs.zip (vs++[])).reverse)) b=some o:=fun b o hb=>by
   have nb:b≠a:=fun z=>by subst z;rw[na]at hb;cases hb
   have nd':b≠dx:=fun z=>by subst z;rw[nd]at hb;cases hb
   rw[upd_ne nd',del_ne nb]
   exact kp b o nb (by rw[upd_ne nb];exact hb)
  have ex:Ex H1 (upd (del H' a) dx (.xd (fs.zip (vs++[])).reverse)):=fun b o hb=>kp' b o hb
  have I1:=I.ex e1
  refine z σ _ g (.ref C) (some dx) (Gr.ex (e1.trans ex)) (I1.ex ex) ⟨C,g2,rfl,.inr ⟨dx,_,rfl,upd_same,?_⟩⟩
  rw[aqR]
  have:=(ac5 (fs:=fs) r1).gr (Gr.ex (q:=true) ex) I1.kd
  rw[aqR]at this
  exact j8.less (g:=g) (g':=g.fr) rfl (vP g) this
end
section
variable{P:Program}{w:World}{K:ap9}{mg:Str->Option Value}{base:Heap}{C f:Addr}{fd:FuncData}{qual:Str}{st:Stmt}
theorem vis_par{N ps:List Str}{sc:Scope}(S:FnScope N ps sc){y:Str}(h:y∈ps):Vis sc y:=(S.par y h).elim (fun z=>.inl z) fun z=>.inr (.inl z)
theorem acN{s a1 a2 a3 f1 f2 f3:Str}{p1 p2 p3 p4 p5 p6 p7 p8 p9 p10 p11 p12:Pos}(F:L2.Fun K "__init__" qual st f fd)(S:FnScope [s,a1,a2,a3] [s,a1,a2,a3] (defScope st))(T:OexC K C)
  (hb:defBody st=[.Assign [.Attribute (.Name s p1) f1 p2] (.Name a1 p3) p4,.Assign [.Attribute (.Name s p5) f2 p6] (.Name a2 p7) p8,.Assign [.Attribute (.Name s p9) f3 p10] (.Name a3 p11) p12])
  (dz:∀y∈[s,a1,a2,a3],(y==("__debug__" : Str))=false/\(y==("__classdict__" : Str))=false) (n1:PySem.W.findIn K (.ref C) f1=some none) (n2:PySem.W.findIn K (.ref C) f2=some none) (n3:PySem.W.findIn K (.ref C) f3=some none) :
  FnOk P w K mg base CX0 1 f fd [s,a1,a2,a3] (aem C [f1,f2,f3]):=by
 refine F.ok S (fun vs H Q E h=>?_) (fun cdv A outer s0 H vs Q E hr h=>?_)
 ·obtain⟨a,xs,rfl,hl,_⟩:=h
  simp[hl]
 ·obtain⟨a,xs,rfl,hl,ha,q⟩:=h
  match xs,hl with
  |[x,y,z],_=>
  rw[hb]
  have v0:=vis_par S (y:=s) (by simp)
  have v1:=vis_par S (y:=a1) (by simp)
  have v2:=vis_par S (y:=a2) (by simp)
  have v3:=vis_par S (y:=a3) (by simp)
  obtain⟨c0,k0⟩:=dz s (by simp)
  obtain⟨c1,k1⟩:=dz a1 (by simp)
  obtain⟨c2,k2⟩:=dz a2 (by simp)
  obtain⟨c3,k3⟩:=dz a3 (by simp)
  refine⟨_,pss_cons (ps_ost (pe_var (i:=0) rfl v0 c0 k0) (pe_var (i:=1) rfl v1 c1 k1)) (pss_cons (ps_ost (pe_var (i:=0) rfl v0 c0 k0) (pe_var (i:=2) rfl v2 c2 k2)) (pss_one (ps_ost (pe_var (i:=0) rfl v0 c0 k0) (pe_var (i:=3) rfl v3 c3 k3)))),?_⟩
  refine⟨_,rfl,_,rfl,a,C,rfl,T,n1,.inl ⟨ha,fun dx nd ne=>?_⟩⟩
  refine⟨_,rfl,_,rfl,a,C,rfl,T,n2,.inr ⟨dx,[(f1,x)],upd_same,(by rw[upd_ne ne];exact upd_same),(show 1<=900 by decide),?_⟩⟩
  refine⟨_,rfl,_,rfl,a,C,rfl,T,n3,.inr ⟨dx,_,(by rw[upd_ne ne.symm];exact upd_same),upd_same,(show 2<=900 by decide),?_⟩⟩
  refine q dx _ nd (fun b o hb hB=>?_) (fun b hB=>?_) (by rw[upd_ne ne.symm,upd_ne ne.symm];exact upd_same) upd_same
  ·have hbd:b≠dx:=ne_of_none hB nd
   rw[upd_ne hbd,upd_ne hbd,upd_ne hb,upd_ne hbd]
   exact hB
  ·by_cases e:b=dx
   ·rw[e];exact nd
   ·by_cases e2:b=a
    ·subst e2
     rw[upd_ne e,upd_ne e,upd_same]at hB
     cases hB
    ·rw[upd_ne e,upd_ne e,upd_ne e2,upd_ne e]at hB
     exact hB
end
structure Cl where
 c:Value
 nm:Option Nat
 ts:Addr->Value->Option Addr->TS
def amj(D:Ends)(i:Nat):Ends:={ nx:=fun τ G=>D.nx (τ.set i none) G,rt:=D.rt,bk:=fun τ G=>D.bk (τ.set i none) G,ct:=fun τ G=>D.ct (τ.set i none) G }
def WK(K:ap9)(Wo:WX)(D:Ends):List Cl->WX
 |[]=>Wo
 |l::r=>fun cls d τ G=>∃b,PySem.W.exmOne K cls l.c=some b/\(b=true->∀a,G a=none->(match l.nm with
   |none=>l.ts a cls d D τ G
   |some i=>l.ts a cls d (amj D i) (τ.set i (some (.ref a))) G))/\(b=false->WK K Wo D r cls d τ G)
inductive Ax(X:Cx):List ExceptHandler->List Cl->Prop
 |nil:Ax X [] []
 |one {x:Str} {l:Cl} {s0:Stmt} {su:List Stmt} {np cp:Pos} {hds:List ExceptHandler} {ls:List Cl} (hc:Names X x l.c) (hn:l.nm=none)
   (hsu:∀(a:Addr) (oe:Obj) (cls:Value) (d:Option Addr) (pn:List (Addr×Obj)),Zc cls d oe->(∃vs,oe.data=.fields vs)->PSs (X.suite a ((a,oe)::pn)) (s0::su) (l.ts a cls d)) (r:Ax X hds ls) :
   Ax X (.ExceptHandler (some (.Name x np)) none (s0::su) cp::hds) (l::ls)
 |as {x n:Str} {i:Nat} {l:Cl} {s0:Stmt} {su:List Stmt} {np cp:Pos} {hds:List ExceptHandler} {ls:List Cl} (hc:Names X x l.c) (hn:l.nm=some i) (hi:X.N[i]?=some n) (hl:X.env.kindOf n=some .local)
   (hsu:∀(a:Addr) (oe:Obj) (cls:Value) (d:Option Addr) (pn:List (Addr×Obj)),Zc cls d oe->(∃vs,oe.data=.fields vs)->PSs (X.suite a ((a,oe)::pn)) (s0::su) (l.ts a cls d)) (r:Ax X hds ls) :
   Ax X (.ExceptHandler (some (.Name x np)) (some n) (s0::su) cp::hds) (l::ls)
section
variable{X:Cx}{body:List Stmt}{h0:ExceptHandler}{hds:List ExceptHandler}{ls:List Cl}{pos:Pos}{tb:WX->TS}{Wo:WX}
theorem agx(hs:X.stack=X.env::X.outer)(hf:X.env.frame=some X.env.locals)(hN:X.N.Nodup)(tk:Takes X Wo)
  (hb:∀(W:WX) (pn:List (Addr×Obj)) (xe:Value->Shared->Prop),Takes (X.tr pn xe) W->PassesOwn (model X.prog X.w) X.A X.env xe->PSs (X.tr pn xe) body (tb W))
  (hh:Ax X (h0::hds) ls):PS X (.Try body (h0::hds) [] [] pos) (fun D σ H=>tb (WK X.K Wo D ls) D σ H):=by
 constructor
 intro pins s σ H D I h
 have ok:=I.ok
 have frm:X.A.frames=some (X.env::X.outer):=by rw[ok.frames,hs]
 have run:=(hb (WK X.K Wo D ls) (X.pn++pins) (fun e t₁=>wpAny (model X.prog X.w) X.A (noteFrame e X.env) (fun _ t₂=>wpAny (model X.prog X.w) X.A (setFlight e none) (fun _ t₃=>wpAny (model X.prog X.w) X.A (handleBy e X.env (h0::hds)) (SP X pins D) X.xe t₃) X.xe t₂) X.xe t₁) (fun u t xx=>by
  obtain⟨a,B,sI,pins2,τ,G,cls,d,rfl,J2,nb,up,sky,na,os,ag,w⟩:=xx
  have J:Inv X pins τ G sI:=J2.ofTry ok
  have sky2:Sky B (X.env::X.outer) a (Zc cls d) X.env.locals t.heap:=by
   rw[←hs]
   exact sky
  show wpAny (model X.prog X.w) X.A (noteFrame (.ref a) X.env) _ _ _
  refine Sky.land Zc.steady frm hf sky2 ?_
  intro h3 fl3 up3
  have J3:Inv X pins τ G { t with heap:=h3 }:=J.landed nb fl3.1 (up.trans up3) os ag
  obtain⟨oe3,vs3,he3,hz3,hd3⟩:=fl3.there
  have notF:a∉frs (X.env::X.outer):=fun hm=>by
   obtain⟨_,o,eo,hnf⟩:=Heap.FunFrames.mem fl3.2.2.1 hm
   rw[he3]at eo
   cases eo
   exact hnf _ hd3
  have nL:a≠X.env.locals:=fun z=>notF (List.mem_filterMap.mpr ⟨X.env,aqf,(by rw[hf,z])⟩)
  have nF:a∉X.fs:=fun hm=>by
   obtain⟨e,he,q⟩:=List.mem_filterMap.mp hm
   exact notF (List.mem_filterMap.mpr ⟨e,aqe _ he,q⟩)
  have S3:=J3.suite he3 hd3 na nL nF
  have look:PySem.W.Looks (model X.prog X.w) h3 (typeOf (.ref a)) cls:=fun A Q E s k q=>wpAny_typeOf_ref (k _ _ he3) (by rw[hz3.1];exact q)
  have named:∀{x:Str} {c:Value} {np:Pos} {Q:Value->Shared->Prop} {E:Value->Shared->Prop},Names X x c->Q c { t with heap:=h3 }->wpAny (model X.prog X.w) (X.A.mark (some (.ref a))) (eval (.Name x np) X.env) Q E { t with heap:=h3 }:=by
   intro x c np Q E hc q
   obtain⟨hg,hdb,hm⟩:=hc
   rcases hm with hm|⟨hm,hv,hnn⟩
   ·exact ld_glob (X:=X.suite a ((a,oe3)::(X.pn++pins))) S3 hg hm q hdb
   ·exact ld_blt (X:=X.suite a ((a,oe3)::(X.pn++pins))) S3 hg hm hv q hnn hdb
  have all:∀{hds2:List ExceptHandler} {ls2:List Cl},Ax X hds2 ls2->WK X.K Wo D ls2 cls d τ G->wpAny (model X.prog X.w) X.A (handleBy (.ref a) X.env hds2) (SP X pins D) X.xe { t with heap:=h3 }:=by
   intro hds2 ls2 hk
   induction hk with
   |nil=>
    intro w
    refine wpAny_handleBy_nil ?_
    obtain⟨k1,k2,k3,oe,vs,T,oT,ts2,he,hz,hd,h1,hr⟩:=id fl3
    unfold PySem.passOn
    refine wpAny_bind (wpAny_field he hd h1 ?_)
    have nT:¬((Value.ref T==Value.none)=true):=by simp
    rw[if_neg nT]
    have fin:wpAny (model X.prog X.w) X.A (setFlight (.ref a) X.env.frame) (fun _ s4=>wpAny (model X.prog X.w) X.A (throw (.ref a):Sem Flow) (SP X pins D) X.xe s4) X.xe { t with heap:=h3 }:=by
     rw[hf]
     refine HandSPX.setFlight_upZ fl3 ?_
     intro h4 hh4 up4
     refine wpAny_throw (tk _ _ ?_)
     exact⟨a,B,sI,pins,τ,G,cls,d,rfl,J,nb,(up.trans up3).trans up4,.inr (.inr (by rw[hs];exact hh4)),na,os,ag,w⟩
    first
     |exact wpAny_bind (wpAny_pure (wpAny_bind fin))
     |exact wpAny_bind fin
   | @one x l s0 su np cp hds3 ls3 hc hn hsu r ih=>
    intro w
    obtain⟨b,hb1,yes,no⟩:=w
    rw[hn]at yes
    have LM:=PySem.W.exm_one (M:=model X.prog X.w) J3.kIn look hb1
    refine wpAny_handleBy_cons (codeAny_handlers_test ?_) (by intro q;cases q)
    refine named hc (LM.here ?_)
    cases b with
    |false=>exact ih (no rfl)
    |true=>
     refine codeAny_handlers_suite ?_
     refine HandSPX.lands_againZ fl3 ?_
     intro h4 fl4 up4
     have J4:Inv X pins τ G { t with heap:=h4 }:=J.landed nb fl4.1 ((up.trans up3).trans up4) os ag
     obtain⟨oe4,vs4,he4,hz4,hd4⟩:=fl4.there
     have S4:=J4.suite he4 hd4 na nL nF
     refine wpAny_mono ((hsu a oe4 cls d (X.pn++pins) hz4 ⟨_,hd4⟩).run [] _ _ G _ S4 (yes rfl a na)) ?_ (fun _ _ z=>False.elim z)
     intro f s6 sp6
     cases f with
     |ret u=>
      obtain⟨v6,τ6,G6,S6,r6,q6⟩:=sp6
      exact⟨_,_,_,S6.unsuite ok,r6,q6⟩
     |next=>
      obtain⟨τ6,G6,S6,q6⟩:=sp6
      exact⟨_,_,S6.unsuite ok,q6⟩
     |brk=>
      obtain⟨τ6,G6,S6,q6⟩:=sp6
      exact⟨_,_,S6.unsuite ok,q6⟩
     |cont=>
      obtain⟨τ6,G6,S6,q6⟩:=sp6
      exact⟨_,_,S6.unsuite ok,q6⟩
   | @as x n i l s0 su np cp hds3 ls3 hc hn hi hl hsu r ih=>
    intro w
    obtain⟨b,hb1,yes,no⟩:=w
    rw[hn]at yes
    have LM:=PySem.W.exm_one (M:=model X.prog X.w) J3.kIn look hb1
    refine wpAny_handleBy_cons (codeAny_handlers_test ?_) (by intro q;cases q)
    refine named hc (LM.here ?_)
    cases b with
    |false=>exact ih (no rfl)
    |true=>
     refine codeAny_handlers_suite_as ?_
     refine HandSPX.lands_againZ fl3 ?_
     intro h4 fl4 up4
     have J4:Inv X pins τ G { t with heap:=h4 }:=J.landed nb fl4.1 ((up.trans up3).trans up4) os ag
     obtain⟨oe4,vs4,he4,hz4,hd4⟩:=fl4.there
     have S4:=J4.suite he4 hd4 na nL nF
     refine store_ok (X:=X.suite a ((a,oe4)::(X.pn++pins))) (v:=.ref a) S4 hN hi (.inl hl) rfl ?_ (.inr hl)
     intro s5 S5
     refine wpAny_mono ((hsu a oe4 cls d (X.pn++pins) hz4 ⟨_,hd4⟩).run [] s5 _ G _ S5 (yes rfl a na)) ?_ (fun _ _ z=>False.elim z)
     intro f s6 sp6
     have bye:∀{τ6:L2.St} {G6:Hp} {Q:Shared->Prop},Inv (X.suite a ((a,oe4)::(X.pn++pins))) [] τ6 G6 s6->(∀s7,Inv X pins (τ6.set i none) G6 s7->Q s7)->
       wpAny (model X.prog X.w) X.A (do bindName X.env n .none;unbindBehindTheSuite X.env n cp) (fun _ s7=>Q s7) X.xe s6:=fun S6 hq=>gone_ok (S6.unsuite ok) hN hi hl hq
     cases f with
     |ret u=>
      obtain⟨v6,τ6,G6,S6,r6,q6⟩:=sp6
      exact bye S6 fun s7 J7=>⟨_,_,_,J7,r6,q6⟩
     |next=>
      obtain⟨τ6,G6,S6,q6⟩:=sp6
      exact bye S6 fun s7 J7=>⟨_,_,J7,q6⟩
     |brk=>
      obtain⟨τ6,G6,S6,q6⟩:=sp6
      exact bye S6 fun s7 J7=>⟨_,_,J7,q6⟩
     |cont=>
      obtain⟨τ6,G6,S6,q6⟩:=sp6
      exact bye S6 fun s7 J7=>⟨_,_,J7,q6⟩
  exact all hh w) PassesOwn.looking).run [] s σ H D (I.toTry _) h
 refine wpAny_Try_except (wpAny_mono run ?_ (fun _ _ z=>z))
 intro f s1 sp1
 cases f with
 |ret u=>
  obtain⟨v,τ,G,J2,r,q⟩:=sp1
  exact⟨v,τ,G,J2.ofTry ok,r,q⟩
 |next=>
  obtain⟨τ,G,J2,q⟩:=sp1
  exact wpAny_execs_nil ⟨τ,G,J2.ofTry ok,q⟩
 |brk=>
  obtain⟨τ,G,J2,q⟩:=sp1
  exact⟨τ,G,J2.ofTry ok,q⟩
 |cont=>
  obtain⟨τ,G,J2,q⟩:=sp1
  exact⟨τ,G,J2.ofTry ok,q⟩
end
inductive CW where
 |con (d:Dat)|fld (f:Str)|flds (fs:List Str)
def Yj(y:Str)(x:dI)(f:Str):Option Dat:=match x.cls==y with
 |true=>(x.fs.lookup f).bind fun d=>match lf d with
  |true=>some d
  |false=>none
 |false=>none
def Pu(y:Str)(x:dI):List Str->Option (List Dat)
 |[]=>some []
 |f::fs=>(Yj y x f).bind fun d=>(Pu y x fs).bind fun ds=>some (d::ds)
def W9(y:Str)(x:dI):CW->Option Dat
 |.con d=>some d
 |.fld f=>Yj y x f
 |.flds fs=>(Pu y x fs).bind fun ds=>some (.tuple ds)
def CT(y:Str)(x:dI):List (Nat×CW)->Env->Option Env
 |[],ρ=>some ρ
 |(j,e)::r,ρ=>(W9 y x e).bind fun d=>CT y x r (ρ.set j (some (.dat d)))
structure Hd where
 y:Str
 tk:Str->Option Bool
 nm:Option Nat
 st:List (Nat×CW)
def Tq(ρ:Env):Option Nat->Env
 |none=>ρ
 |some i=>ρ.set i none
def abO(ρ:Env):Option Nat->Bool
 |none=>true
 |some i=>decide (i < ρ.length)
def hdl:List Hd->dI->Env->Mo->sJ
 |[],x,ρ,M=>.exc x ρ M
 |h::r,x,ρ,M=>match h.tk x.cls with
  |some true=>match abO ρ h.nm with
   |true=>match CT h.y x h.st (Tq ρ h.nm) with
    |some ρ2=>.next (Tq ρ2 h.nm) M
    |none=>.bad
   |false=>.bad
  |some false=>hdl r x ρ M
  |none=>.bad
def Td(f:SF)(hs:List Hd):SF:=fun M ρ=>match f M ρ with
 |.exc x ρ' M'=>hdl hs x ρ' M'
 |o=>o
structure XIn(K:ap9)(aj:aO)(σ:L2.St)(H:Hp)(g:Gh)(ρ:Env)(M:Mo)(x:dI)(a:Addr)(cls:Value)(d:Option Addr)(i:Option Nat):Prop where
 inv:SInv K aj σ H g ρ M
 xr:pU K aj g.fr H x cls d
 sl:∀j,i=some j->σ[j]?=some (some (.ref a))
section
variable(K:ap9)(aj:aO)(a:Addr)(cls:Value)(d:Option Addr)(i:Option Nat)
def tU(f:dI->Option Dat):TE:=fun σ H Q=>∃g ρ M x z,XIn K aj σ H g ρ M x a cls d i/\f x=some z/\∀v H',Ex H H'->Rep K g H' v z->Q v H'
def tUA(f:dI->Option (List Dat)):TA:=fun σ H Q=>∃g ρ M x z,XIn K aj σ H g ρ M x a cls d i/\f x=some z/\∀v H',Ex H H'->aH K g H' v z->Q v H'
def tSu(y:Str)(st:List (Nat×CW)):TS:=fun D σ H=>∃g ρ M x ρ2,XIn K aj σ H g ρ M x a cls d i/\CT y x st ρ=some ρ2/\(∀p∈st,i≠some p.1)/\∀σ' H',Ex H H'->SInv K aj σ' H' g ρ2 M->D.nx σ' H'
end
section
variable{K:ap9}{aj:aO}{a:Addr}{cls:Value}{d:Option Addr}{i:Option Nat}{σ:L2.St}{H H':Hp}{g:Gh}{ρ:Env}{M:Mo}{x:dI}
theorem j8.ex{fs:List (Str×V)}{gs:List (Str×Dat)}(e:Ex H H')(k:Kd g H)(h:j8 K g H fs gs):j8 K g H' fs gs:=h.gr (Gr.ex (q:=true) e) k
theorem pU.ex{c:Value}{dd:Option Addr}(e:Ex H H')(k:Kd g H)(h:pU K aj g H x c dd):pU K aj g H' x c dd:=by
 obtain⟨C,h1,h2,h3⟩:=h
 exact⟨C,h1,h2,h3.imp id fun⟨b,fs,e1,e2,e3⟩=>⟨b,fs,e1,e _ _ e2,e3.ex e k⟩⟩
theorem XIn.ex(e:Ex H H')(h:XIn K aj σ H g ρ M x a cls d i):XIn K aj σ H' g ρ M x a cls d i:=⟨h.inv.ex e,h.xr.ex e h.inv.kd.fr,h.sl⟩
theorem j8.get{f:Str}{z:Dat}{fs:List (Str×V)}{gs:List (Str×Dat)}(h:j8 K g H fs gs)(e:gs.lookup f=some z):∃v,fs.lookup f=some v/\Rep K g H v z:=by
 induction h with
 |nil=>cases e
 | @cons f' v d' _ _ r _ ih=>
  rw[aqA]at e
  rw[aqA]
  cases hb:f==f' with
  |true=>
   rw[hb]at e
   cases e
   exact⟨v,rfl,r⟩
  |false=>
   rw[hb]at e
   exact ih e
end
section
variable{X:Cx}{aj:aO}{a C:Addr}{oe:Obj}{cls:Value}{d:Option Addr}{pn:List (Addr×Obj)}{y n:Str}{pos p:Pos}{j:Nat}
theorem adJ{e:Expr}{z:Dat}{i:Option Nat}{t:TE}(h:PE (X.suite a ((a,oe)::pn)) e t)(ht:∀σ H Q,tU X.K aj a cls d i (fun _=>some z) σ H Q->t σ H Q):PE (X.suite a ((a,oe)::pn)) e (tU X.K aj a cls d i fun _=>some z):=PE.weak h ht
theorem adl{f:Str}(hC:aj y=some C)(T:XfC X.K C)(hno:PySem.W.findIn X.K (.ref C) f=some none)(hz:Zc cls d oe)(hf:∃vs,oe.data=.fields vs)(hN:X.N[j]?=some n)(hv:Vis X.env.scope n)(hd:(n==("__debug__" : Str))=false)(hcd:(n==("__classdict__" : Str))=false) :
  PE (X.suite a ((a,oe)::pn)) (.Attribute (.Name n p) f pos) (tU X.K aj a cls d (some j) fun x=>Yj y x f):=by
 refine PE.weak (pe_xf T hno hz hf (pe_var (i:=j) (X:=X.suite a ((a,oe)::pn)) hN hv hd hcd)) fun σ H Q ⟨g,ρ,M,x,z,I,e,k⟩=>?_
 have e:Yj y x f=some z:=e
 unfold Yj at e
 split at e
 ·next ey=>
  obtain⟨z',l,e⟩:=ap8.mp e
  split at e
  ·next hl=>
   cases e
   obtain⟨C',c1,c2,c3⟩:=I.xr
   rw[eq_of_beq ey,hC]at c1
   cases c1
   rcases c3 with⟨c3,_⟩|⟨b,fs,c3,c4,c5⟩
   ·rw[c3]at l
    cases l
   ·obtain⟨v,l1,l2⟩:=c5.get l
    exact⟨.ref a,I.sl j rfl,rfl,c2,b,fs,v,c3,c4,l1,k v H (Ex.refl H) (Rep.free (g:=g.fr) (g':=g) rfl hl l2)⟩
  ·cases e
 ·cases e
theorem ab5{i:Option Nat}:PA (X.suite a ((a,oe)::pn)) [] (tUA X.K aj a cls d i fun _=>some []):=PA.weak pa_nil fun σ H Q ⟨g,ρ,M,x,z,I,e,k⟩=>by
 cases e
 exact k [] H (Ex.refl H) .nil
theorem afM{e:Expr}{es:List Expr}{i:Option Nat}{f:dI->Option Dat}{fr:dI->Option (List Dat)}(h:PE (X.suite a ((a,oe)::pn)) e (tU X.K aj a cls d i f))(hr:PA (X.suite a ((a,oe)::pn)) es (tUA X.K aj a cls d i fr))(hs:nst e=true) :
  PA (X.suite a ((a,oe)::pn)) (e::es) (tUA X.K aj a cls d i fun x=>(f x).bind fun z=>(fr x).bind fun zs=>some (z::zs)):=by
 refine PA.weak (pa_cons h hr (cO hs es)) fun σ H Q ⟨g,ρ,M,x,z,I,e,k⟩=>?_
 obtain⟨z1,e1,e⟩:=ap8.mp e
 obtain⟨z2,e2,e⟩:=ap8.mp e
 cases e
 exact⟨g,ρ,M,x,z1,I,e1,fun v H1 x1 r1=>⟨g,ρ,M,x,z2,I.ex x1,e2,fun vs H2 x2 r2=>k (v::vs) H2 (x1.trans x2) (.cons (r1.ex x2 (I.ex x1).inv.kd) r2)⟩⟩
theorem adw{es:List Expr}{kk:Nat}{i:Option Nat}{fr:dI->Option (List Dat)}(hr:PA (X.suite a ((a,oe)::pn)) es (tUA X.K aj a cls d i fr))(hn:∀x zs,fr x=some zs->zs.length<=100000):PE (X.suite a ((a,oe)::pn)) (.Tuple es kk pos) (tU X.K aj a cls d i fun x=>(fr x).bind fun zs=>some (.tuple zs)):=by
 refine PE.weak (pe_tup hr) fun σ H Q ⟨g,ρ,M,x,z,I,e,k⟩=>?_
 obtain⟨zs,e1,e⟩:=ap8.mp e
 cases e
 refine⟨g,ρ,M,x,zs,I,e1,fun vs H1 x1 r1=>⟨sz_of (by rw[r1.length];exact hn x zs e1),fun p np=>?_⟩⟩
 exact k (.ref p) _ (x1.trans (Ex.new np)) (.tup (st_of upd_same) (r1.ex (Ex.new np) (I.ex x1).inv.kd))
theorem Vb{x:dI}:∀{fs:List Str} {zs:List Dat},Pu y x fs=some zs->zs.length=fs.length
 |[],zs,h=>by cases h;rfl
 |f::fs,zs,h=>by
  rw[Pu]at h
  obtain⟨z1,e1,h⟩:=ap8.mp h
  obtain⟨z2,e2,h⟩:=ap8.mp h
  cases h
  simp[Vb e2]
theorem ahw{i:Option Nat}{se:CW}{st:List (Nat×CW)}{D D':Ends}{σ:L2.St}{H:Hp}(h:tSu X.K aj a cls d i y ((j,se)::st) D σ H)(nx:∀σ' H',tSu X.K aj a cls d i y st D σ' H'->D'.nx σ' H') :
  tAsg (tU X.K aj a cls d i fun x=>W9 y x se) (gName j) D' σ H:=by
 obtain⟨g,ρ,M,x,ρ2,I,e,nj,k⟩:=h
 rw[CT]at e
 obtain⟨z,e1,e⟩:=ap8.mp e
 refine⟨g,ρ,M,x,z,I,e1,fun v H' x1 r1=>nx _ _ ⟨g,ρ.set j (some (.dat z)),M,x,ρ2,⟨(I.ex x1).inv.set r1,(I.ex x1).xr,fun jj hj=>?_⟩,e,fun p hp=>nj p (aqe _ hp),fun σ' H2 x2 I2=>k σ' H2 (x1.trans x2) I2⟩⟩
 have ne:j≠jj:=fun z=>nj (j,se) aqf (by rw[hj,z])
 rw[aqi ne]
 exact I.sl jj hj
theorem aia{i:Option Nat}{D:Ends}{σ:L2.St}{H:Hp}(h:tSu X.K aj a cls d i y [] D σ H):D.nx σ H:=by
 obtain⟨g,ρ,M,x,ρ2,I,e,nj,k⟩:=h
 cases e
 exact k σ H (Ex.refl H) I.inv
end
def amE(K:ap9)(aj:aO)(h:Hd)(l:Cl):Prop:=(∃D,aj h.y=some D/\l.c=.ref D)/\abx K aj h.y h.tk/\l.nm=h.nm/\(l.ts=fun a cls d=>tSu K aj a cls d h.nm h.y h.st)/\∀p∈h.st,h.nm≠some p.1
inductive Es(K:ap9)(aj:aO):List Hd->List Cl->Prop
 |nil:Es K aj [] []
 |cons {h:Hd} {l:Cl} {hs:List Hd} {ls:List Cl} (o:amE K aj h l) (r:Es K aj hs ls):Es K aj (h::hs) (l::ls)
theorem SInv.off{K:ap9}{aj:aO}{σ:L2.St}{H:Hp}{g:Gh}{ρ:Env}{M:Mo}(I:SInv K aj σ H g ρ M)(i:Nat)(v:Option V):SInv K aj (σ.set i v) H g (ρ.set i none) M:=by
 have I2:=I.forget (j:=i)
 refine⟨I2.kd,I2.wok,by rw[aqy,aqy];exact I.len,fun j d h=>?_,fun j xs h=>?_,fun j k xs ys l ne h1 h2 h3=>?_⟩
 ·by_cases e:j=i
  ·subst e
   rw[aq0]at h
   split at h <;> first | (split at h <;> cases h) | (exact absurd rfl ‹¬_›)
  ·obtain⟨v',a1,a2⟩:=I2.dat j d h
   rw[aqi (Ne.symm e)]at a1
   exact⟨v',by rw[aqi (Ne.symm e)];exact a1,a2⟩
 ·by_cases e:j=i
  ·subst e
   rw[aq0]at h
   split at h <;> first | (split at h <;> cases h) | (exact absurd rfl ‹¬_›)
  ·obtain⟨l,us,a1,a2⟩:=I2.own j xs h
   rw[aqi (Ne.symm e)]at a1
   exact⟨l,us,by rw[aqi (Ne.symm e)];exact a1,a2⟩
 ·have n1:j≠i:=fun z=>by
   subst z
   rw[aq0]at h1
   split at h1 <;> first | (split at h1 <;> cases h1) | (exact absurd rfl ‹¬_›)
  have n2:k≠i:=fun z=>by
   subst z
   rw[aq0]at h2
   split at h2 <;> first | (split at h2 <;> cases h2) | (exact absurd rfl ‹¬_›)
  rw[aqi (Ne.symm n1)]at h1 h3
  rw[aqi (Ne.symm n2)]at h2 ⊢
  exact I.sep j k xs ys l ne h1 h2 h3
section
variable{X:Cx}{aj:aO}{W:WX}{q:Bool}{body:List Stmt}{h0:ExceptHandler}{hds:List ExceptHandler}{hs:List Hd}{ls:List Cl}{pos:Pos}{f:SF}
theorem ajT{D:Ends}{g g':Gh}{H H':Hp}{σ':L2.St}{ρ':Env}{M':Mo}{x:dI}{c:Value}{dd:Option Addr}(ha:Es X.K aj hs ls)(r:Gr q g g' H H')(I:SInv X.K aj σ' H' g' ρ' M')(xr:pU X.K aj g'.fr H' x c dd)
  (z:(hdl hs x ρ' M').sat (sN X.K aj q D.nx g H) (sR X.K aj q D.rt g H) (sN X.K aj q D.bk g H) (sN X.K aj q D.ct g H) (sX X.K aj W q g H)):WK X.K W D ls c dd σ' H':=by
 induction ha with
 |nil=>exact z σ' H' g' c dd r I xr
 | @cons h l hs ls o _ ih=>
  obtain⟨⟨D0,o1,o2⟩,o3,o4,o5,o6⟩:=o
  rw[hdl]at z
  obtain⟨C,c1,c2,c3⟩:=id xr
  split at z
  ·next ht=>
   refine⟨true,by rw[c2,o2];exact o3 _ _ _ ht c1 _ o1,fun _ a na=>?_,fun y=>nomatch y⟩
   rw[o4,o5]
   split at z
   ·next hm=>
    split at z
    ·next ρ2 hr=>
     cases hnm:h.nm with
     |none=>
      rw[hnm]at hr z o6
      exact⟨g',ρ',M',x,ρ2,⟨I,xr,fun j hj=>nomatch hj⟩,hr,o6,fun σ2 H2 e2 I2=>z σ2 H2 g' (r.trans (Gr.ex e2)) I2⟩
     |some i=>
      rw[hnm]at hr z o6 hm
      refine⟨g',ρ'.set i none,M',x,ρ2,⟨I.off i _,xr,fun j hj=>?_⟩,hr,o6,fun σ2 H2 e2 I2=>z _ H2 g' (r.trans (Gr.ex e2)) (I2.off i none)⟩
      cases hj
      have hl:i < ρ'.length:=of_decide_eq_true hm
      rw[aqr (by rw[I.len];exact hl)]
    ·exact False.elim z
   ·exact False.elim z
  ·next ht=>exact⟨false,by rw[c2,o2];exact o3 _ _ _ ht c1 _ o1,(fun y=>nomatch y),fun _=>ih z⟩
  ·exact False.elim z
theorem ajv(st:X.stack=X.env::X.outer)(hf:X.env.frame=some X.env.locals)(hN:X.N.Nodup)(tk:Takes X W)
  (hb:∀(W':WX) (pn:List (Addr×Obj)) (xe:Value->Shared->Prop),Takes (X.tr pn xe) W'->PassesOwn (model X.prog X.w) X.A X.env xe->Iz aj (X.tr pn xe) W' q body f)
  (hh:Ax X (h0::hds) ls) (ha:Es X.K aj hs ls):SE aj X W q (.Try body (h0::hds) [] [] pos) (Td f hs):=by
 refine PS.weak (agx (tb:=fun W'=>tS X.K aj W' q f) st hf hN tk (fun W' pn xe t p=>hb W' pn xe t p) hh) fun D σ H ⟨g,ρ,M,I,z⟩=>?_
 refine⟨g,ρ,M,I,?_⟩
 unfold Td at z
 cases hfm:f M ρ with
 |next ρ' M'=>rw[hfm]at z;exact z
 |ret d M'=>rw[hfm]at z;exact z
 |brk ρ' M'=>rw[hfm]at z;exact z
 |cont ρ' M'=>rw[hfm]at z;exact z
 |bad=>rw[hfm]at z;exact z
 |exc x ρ' M'=>
  rw[hfm]at z
  exact fun σ' H' g' c dd r I' xr=>ajT ha r I' xr z
end
section
variable{K:ap9}{aj:aO}{W:WX}{g g':Gh}{H H':Hp}{σ:L2.St}{ρ:Env}{M:Mo}
theorem ji.grow{l:Addr}(r:Gr false g g' H H')(e:Ex H H')(k:Kd g H):∀{n:Bool} {kvs:List (Dat×Dat)},ji K aj g H l n kvs->ji K aj g' H' l n kvs
 |false,_,⟨kv,h1,h2,h3⟩=>⟨kv,e _ _ h1,h2,h3.gr r k⟩
 |true,_,⟨o,xs,vs,h1,h2,h3,h4,h5,h6⟩=>⟨o,xs,vs,e _ _ h1,h2,h3,h4.gr r k,h5,h6.gr r k⟩
theorem dO.grow{h:Nat}{f:Str}{v:V}(r:Gr false g g' H H')(e:Ex H H')(o:g'.ow=g.ow)(k:Kd g H):∀{fl:iJ},dO K aj g H h f v fl->dO K aj g' H' h f v fl
 |.dat _,z=>Rep.gr r k z
 |.lst _ _,⟨l,us,h1,h2,h3,h4,h5⟩=>⟨l,us,h1,e _ _ h2,by rw[o];exact h3,h4.gr r k,r.tb h5⟩
 |.dic _ _,⟨l,h1,h2,h3⟩=>⟨l,h1,by rw[o];exact h2,h3.grow r e k⟩
theorem cJ.grow{h:Nat}(r:Gr false g g' H H')(e:Ex H H')(o:g'.ow=g.ow)(k:Kd g H){fs:List (Str×V)}{gs:List (Str×iJ)}(t:cJ K aj g H h fs gs):cJ K aj g' H' h fs gs:=by
 induction t with
 |nil=>exact .nil
 |cons z _ ih=>exact .cons (z.grow r e o k) ih
def Gh.push(g:Gh)(x:Addr):Gh:={ g with tbl:=g.tbl++[x] }
theorem WT{x a:Addr}(z:(g.push x).A a):g.A a∨a=x:=by
 rcases z with(z|z)|z|z
 ·rcases aqo.mp z with z|z
  ·exact .inl (.inl (.inl z))
  ·exact .inr (aqg.mp z)
 ·exact .inl (.inl (.inr z))
 ·exact .inl (.inr (.inl z))
 ·exact .inl (.inr (.inr z))
theorem YX{x a:Addr}(z:(g.push x).W a):g.W a∨a=x:=by
 rcases z with z|z
 ·rcases aqo.mp z with z|z
  ·exact .inl (.inl z)
  ·exact .inr (aqg.mp z)
 ·exact .inl (.inr z)
theorem R8{x:Addr}(e:Ex H H')(nx:H x=none):Gr false g (g.push x) H H' where
 keep:=fun a o h _ _=>e a o h
 keepW:=fun z=>nomatch z
 dom:=Bu e
 tbl:=⟨[x],rfl⟩
 W:=fun a z=>z.elim (fun z=>.inl (aqL _ z)) .inr
 nW:=fun a z=>(YX z).imp id fun z=>by rw[z];exact nx
 qg:=fun z=>nomatch z
 Lc:=rfl
 Lo:=fun _ z=>z
 nLo:=fun _ z=>.inl z
theorem aa0{x:Addr}{o:HO}(k:Kd g H)(e:Ex H H')(nx:H x=none)(hx:H' x=some o)(m:Hw o):Kd (g.push x) H' where
 ob:=fun a z=>by
  rcases WT z with z|rfl
  ·obtain⟨u,h1,h2⟩:=k.ob a z
   exact⟨u,e _ _ h1,h2⟩
  ·exact⟨o,hx,m⟩
 lo:=fun a z y=>by
  rcases YX y with y|rfl
  ·exact k.lo a z y
  ·obtain⟨u,h1,_⟩:=k.ob a (.inr (.inr z))
   rw[nx]at h1
   cases h1
 lc:=fun a z=>by
  refine⟨fun y=>?_,(k.lc a z).2⟩
  rcases YX y with y|rfl
  ·exact(k.lc a z).1 y
  ·obtain⟨u,h1,_⟩:=k.ob a (.inr (.inl z))
   rw[nx]at h1
   cases h1
theorem Xv{x:Addr}{c:Str}(k:Kd g H)(w:fM K aj g H M)(e:Ex H H')(nx:H x=none)(hx:c=""∨∃C dx,aj c=some C/\H' x=some (.ins C dx [])):fM K aj (g.push x) H' (M++[⟨c,[]⟩]):=by
 have gt:∀{h:Nat} {a:Addr},(g.push x).tbl[h]?=some a->(g.tbl[h]?=some a)∨(h=M.length/\a=x):=fun {h a} z=>by
  have z:(g.tbl++[x])[h]?=some a:=z
  by_cases hl:h < g.tbl.length
  ·rw[aql hl]at z
   exact .inl z
  ·rw[aqt (by omega)]at z
   have:=(aqb.mp z).1
   simp at this
   have e0:h - g.tbl.length=0:=by omega
   rw[e0]at z
   cases z
   exact .inr ⟨by rw[←w.len];omega,rfl⟩
 have nin:∀{h:Nat},¬g.tbl[h]?=some x:=fun {h} z=>by
  obtain⟨u,h1,_⟩:=k.ob x (.inl (.inl (aqh z)))
  rw[nx]at h1
  cases h1
 have ex:∀{h:Nat} {i:Inst},(M++[(⟨c,[]⟩:Inst)])[h]?=some i->M[h]?=some i∨i=⟨c,[]⟩:=fun {h i} h1=>by
  by_cases hl:h < M.length
  ·rw[aql hl]at h1
   exact .inl h1
  ·rw[aqt (by omega)]at h1
   exact .inr (aqg.mp (aqh h1))
 refine⟨by show(g.tbl++[x]).length=_;simp[w.len],fun h j a h1 h2=>?_,fun h a i h1 h2 hcn=>?_,fun h i h1=>?_,fun h i h1=>?_,fun h a i h1 h2 hcn=>?_,fun h i h1 hcn=>?_,w.nc⟩
 ·rcases gt h1 with z1|⟨z1,rfl⟩
  ·rcases gt h2 with z2|⟨z2,rfl⟩
   ·exact w.inj h j a z1 z2
   ·exact absurd z1 nin
  ·rcases gt h2 with z2|⟨z2,_⟩
   ·exact absurd z2 nin
   ·omega
 ·rcases gt h1 with z1|⟨rfl,rfl⟩
  ·have hl:h < M.length:=by rw[←w.len];exact(aqb.mp z1).1
   rw[aql hl]at h2
   obtain⟨C',dx',fs,c1,c2,c3⟩:=w.ins h a i z1 h2 hcn
   exact⟨C',dx',fs,c1,e _ _ c2,c3.grow (R8 e nx) e rfl k⟩
  ·rw[aqt (aqz _),Nat.sub_self]at h2
   cases h2
   rcases hx with rfl|⟨C,dx,hc,hx⟩
   ·exact absurd rfl hcn
   ·exact⟨C,dx,[],hc,hx,.nil⟩
 ·rcases ex h1 with h1|rfl
  ·exact w.nd h i h1
  ·exact ari
 ·rcases ex h1 with h1|rfl
  ·exact w.fd h i h1
  ·exact fun f hf=>absurd hf aqI
 ·rcases gt h1 with z1|⟨_,rfl⟩
  ·have hl:h < M.length:=by rw[←w.len];exact(aqb.mp z1).1
   rw[aql hl]at h2
   exact w.tw h a i z1 h2 hcn
  ·cases hz:g.ow a with
   |none=>exact hz
   |some p=>
    obtain⟨u,h2,_⟩:=k.ob a (.inl (.inr (by rw[hz];exact fun y=>nomatch y)))
    rw[nx]at h2
    cases h2
 ·rcases ex h1 with h1|rfl
  ·exact w.dm h i h1 hcn
  ·rfl
theorem SInv.grow{M':Mo}(r:Gr false g g' H H')(e:Ex H H')(lo:g'.Lo=g.Lo)(k':Kd g' H')(w':fM K aj g' H' M')(I:SInv K aj σ H g ρ M):SInv K aj σ H' g' ρ M' where
 kd:=k'
 wok:=w'
 len:=I.len
 dat:=fun i d h=>by
  obtain⟨v,h1,h2⟩:=I.dat i d h
  exact⟨v,h1,h2.gr r I.kd⟩
 own:=fun i xs h=>by
  obtain⟨l,us,h1,h2,h3,h4⟩:=I.own i xs h
  exact⟨l,us,h1,e _ _ h2,by rw[lo];exact h3,h4.gr r I.kd⟩
 sep:=I.sep
end
theorem abm{P:Program}{w:World}{K:ap9}{mg:Str->Option Value}{base:Heap}{k:Nat}{f:Addr}{fd:FuncData}{ps:List Str}{sp:Sp}(F:FnOk P w K mg base (L2.CX P w) k f fd ps sp):FnOk P w K mg base L2.CX0 k f fd ps fun vs H Q _=>sp vs H Q fun _ _ _=>False:=
 ⟨fun vs H Q E h=>F.len vs H Q _ h,fun A outer s H args us vs Q E hr he hb hv h=>codeAny_mono (F.run A outer s H args us vs Q _ hr he hb hv h) fun r s' z=>by
  unfold CR at z ⊢
  split at z
  ·exact z
  ·exact z
  ·obtain⟨a,B,H',cls,d,_,_,_,_,_,_,_,y⟩:=z
   exact False.elim y⟩
def zY(x:Str)(m:Mo->List Dat->aY Dat)(as:QA):GF:=fun M ρ=>((as M ρ).at M).bind fun ds _=>match m (M++[⟨x,[]⟩]) (obj M.length::ds) with
 |.ok .none M'=>.ok (obj M.length) M'
 |_=>.bad
section
variable{X:Cx}{aj:aO}{W:WX}{x:Str}{pos p:Pos}{k n:Nat}{m:Mo->List Dat->aY Dat}{as:QA}{t:TA}{e:Expr}{es:List Expr}
theorem adH{C f:Addr}{fd:FuncData}{ps:List Str}(hc:aj x=some C)(hp:ps.length=n+1)(hn:∀M ρ ds,as M ρ=.ok ds->ds.length=n)(ht:∀σ H Q,Mv X.K aj W as σ H Q->t σ H Q)(σ:L2.St)(H:Hp)(Q:VK)(h:tE X.K aj W false (zY x m as) σ H Q) :
  tMake C (fun vs H Q _=>Iw X.K aj ps.length m vs H Q fun _ _ _=>False) [] (fun _ _ _=>False) t σ H Q:=by
 obtain⟨g,ρ,M,I,h⟩:=h
 unfold zY at h
 have h:=h.bnd
 refine ht σ H _ ⟨g,ρ,M,I,?_⟩
 cases has:as M ρ with
 |exc x=>rw[has]at h;exact fun H' c dd e r=>h H' g c dd (Gr.ex e) (I.ex e) r
 |bad=>rw[has]at h;exact False.elim h
 |ok ds=>
  rw[has]at h
  intro vs H1 e1 r1 y dx ny ndx ne
  have I1:=I.ex e1
  have e2:Ex H1 (upd (upd H1 dx (.own y)) y (.ins C dx [])):=by
   refine(Ex.new ndx).trans (Ex.new ?_)
   rw[upd_ne ne.symm]
   exact ny
  have hy:upd (upd H1 dx (.own y)) y (.ins C dx []) y=some (.ins C dx []):=upd_same
  have gr:=R8 (g:=g) e2 ny
  have kd:=aa0 I1.kd e2 ny hy trivial
  have wk:=Xv (c:=x) I1.kd I1.wok e2 ny (.inr ⟨C,dx,hc,hy⟩)
  have I2:=I1.grow gr e2 rfl kd wk
  have hb:(g.push y).tbl[M.length]?=some y:=by
   show(g.tbl++[y])[M.length]?=_
   rw[←I1.wok.len,aqt (aqz _),Nat.sub_self]
   rfl
  refine⟨by rw[aqR,aqn,r1.length,hn M ρ ds has,hp],g.push y,M++[⟨x,[]⟩],obj M.length::ds,kd,wk,.cons (.obj hb) (by rw[aqR];exact r1.gr gr I1.kd),?_⟩
  have h:aY.sat (match m (M++[(⟨x,[]⟩:Inst)]) (obj M.length::ds) with
   |.ok .none M'=>aY.ok (obj M.length) M'
   |_=>.bad) (fun d M'=>∀v H' g',Gr false g g' H H'->SInv X.K aj σ H' g' ρ M'->Rep X.K g' H' v d->Q v H') (gE X.K aj W false g H σ ρ):=h
  cases hm:m (M++[⟨x,[]⟩]) (obj M.length::ds) with
  |bad=>rw[hm]at h;exact False.elim h
  |exc z M'=>rw[hm]at h;exact False.elim h
  |ok d M'=>
   rw[hm]at h
   cases d with
   |none=>exact fun v H' g' c k' w' r'=>⟨by cases r';rfl,h (.ref y) H' g' (((Gr.ex e1).trans gr).trans c.gr) (I2.call c k' w') (.obj (c.gr.tb hb))⟩
   |_=>exact False.elim h
theorem ai9(hr:Room k X.A)(g:bf X.prog X.w X.K X.mg X.base aj k x (.cls n m))(hg:Gl X x)(hd:(x==("__debug__" : Str))=false)(ha:Cr aj X W (e::es) as)(hs:(e::es).all nst=true)(hn:∀M ρ ds,as M ρ=.ok ds->ds.length=n) :
  GE aj X W false (.Call (.Name x p) (e::es) [] pos) (zY x m as):=by
 obtain⟨C,f,fd,ps,j,g1,g2,_,g3,hj,hp,hB,F⟩:=g
 have hs':=hs
 rw[aqK,aqa]at hs'
 exact PE.weak (pe_make (E:=fun _ _ _=>False) g3 (abm F) (hr.mono hj) hg g1 hB .nil pass0 ha hd (cO hs'.1 es) (star_any es hs'.2)) fun σ H Q h=>adH (f:=f) (fd:=fd) g2 hp hn (fun _ _ _ z=>z) σ H Q h
theorem agK(hr:Room k X.A)(g:bf X.prog X.w X.K X.mg X.base aj k x (.cls 0 m))(hg:Gl X x)(hd:(x==("__debug__" : Str))=false):GE aj X W false (.Call (.Name x p) [] [] pos) (zY x m au):=by
 obtain⟨C,f,fd,ps,j,g1,g2,_,g3,hj,hp,hB,F⟩:=g
 exact PE.weak (pe_make0 (E:=fun _ _ _=>False) g3 (abm F) (hr.mono hj) hg g1 hB .nil pass0 hd) fun σ H Q h=>adH (f:=f) (fd:=fd) (as:=au) g2 hp (fun M ρ ds z=>by cases z;rfl) (fun σ H Q ⟨g,ρ,M,I,z⟩=>z [] H (Ex.refl H) .nil) σ H Q h
end
def Cz(m:Mo->List Dat->aY Dat)(as:QA):GF:=fun M ρ=>((as M ρ).at M).bind fun ds _=>m M ds
section
variable{X:Cx}{aj:aO}{W:WX}{e:Expr}{es:List Expr}{pos p:Pos}{x:Str}{k:Nat}{f:Addr}{fd:FuncData}{ps:List Str}
theorem agw{m:Mo->List Dat->aY Dat}{as:QA}(tk:Takes X W)(F:FnOk X.prog X.w X.K X.mg X.base (L2.CX X.prog X.w) k f fd ps (Iw X.K aj ps.length m))(hr:Room k X.A)(hg:Gl X x)(hm:X.mg x=some (.ref f))(hk:PySem.W.keepIn X.K (.ref f)=true)(hb:Binds X.K fd ps [])
  (ha:Cr aj X W (e::es) as) (hl:(e::es).length=ps.length) (hd:(x==("__debug__" : Str))=false) (hs:(e::es).all nst=true) (hn:∀M ρ ds,as M ρ=.ok ds->ds.length=(e::es).length):GE aj X W false (.Call (.Name x p) (e::es) [] pos) (Cz m as):=by
 have hs':=hs
 rw[aqK,aqa]at hs'
 refine PE.weak (pe_callS (E:=fun σ=>WE W σ) F hr hg hm hk hb (fun σ=>passAt tk σ) ha hd (cO hs'.1 es) (star_any es hs'.2)) fun σ H Q ⟨g,ρ,M,I,h⟩=>?_
 refine⟨g,ρ,M,I,?_⟩
 have h:=h.bnd
 cases has:as M ρ with
 |exc x=>rw[has]at h;exact fun H' c dd e r=>h H' g c dd (Gr.ex e) (I.ex e) r
 |bad=>rw[has]at h;exact False.elim h
 |ok ds=>
  rw[has]at h
  have h:(m M ds).sat (fun d M'=>∀v H' g',Gr false g g' H H'->SInv X.K aj σ H' g' ρ M'->Rep X.K g' H' v d->Q v H') (gE X.K aj W false g H σ ρ):=h
  intro vs H1 e1 r1
  exact⟨by rw[r1.length,hn M ρ ds has];exact hl,g,M,ds,I.kd.ex e1,I.wok.ex e1 I.kd,r1,h.mono (fun d M' kk v H' g' c k' w' r'=>kk v H' g' ((Gr.ex e1).trans c.gr) ((I.ex e1).call c k' w') r') fun x M' kk H' g' cc dd c k' w' r'=>kk H' g' cc dd ((Gr.ex e1).trans c.gr) ((I.ex e1).call c k' w') r'⟩
end
def Ft.has(ft:Ft)(c f:Str):Bool:=match ft.lookup c with
 |some fs=>fs.contains f
 |none=>false
def JZ(ft:Ft)(aj:aO):Prop:=∀c f,ft.has c f=true->f∈aj.fl c
def unH:Dat->Option Nat
 |.dict [(.none,.int (.ofNat h))]=>some h
 |_=>none
theorem aev{d:Dat}{h:Nat}(e:unH d=some h):d=obj h:=by
 unfold unH at e
 split at e
 ·cases e;rfl
 ·cases e
def jO(M:Mo)(d:Dat):Option (Nat×Inst):=(unH d).bind fun h=>(M[h]?).bind fun i=>match i.cls=="" with
 |true=>none
 |false=>some (h,i)
theorem HX{M:Mo}{d:Dat}{h:Nat}{i:Inst}(e:jO M d=some (h,i)):d=obj h/\M[h]?=some i/\i.cls≠"":=by
 unfold jO at e
 obtain⟨h',e1,e⟩:=ap8.mp e
 obtain⟨i',e2,e⟩:=ap8.mp e
 split at e
 ·cases e
 ·next hc=>
  cases e
  exact⟨aev e1,e2,fun z=>by rw[z]at hc;cases hc⟩
def tM(ft:Ft)(o:QF)(f:Str)(e:GF):SF:=fun M ρ=>(e M ρ).then ρ fun d M1=>((o M1 ρ).at M1).then ρ fun od M2=>match jO M2 od with
 |some (h,i)=>match ft.has i.cls f&&decide (i.fs.length < 100) with
  |true=>.next ρ (M2.set h (i.put f (.dat d)))
  |false=>.bad
 |none=>.bad
theorem SInv.chg{K:ap9}{aj:aO}{σ:L2.St}{H H':Hp}{g g':Gh}{ρ:Env}{M M':Mo}{h:Nat}{f:Str}(I:SInv K aj σ H g ρ M)(c:Chg M g g' H H' h f)(w:fM K aj g' H' M'):SInv K aj σ H' g' ρ M':=I.call c.gc c.kd w
section
variable{X:Cx}{aj:aO}{W:WX}{o e:Expr}{f:Str}{pos pos':Pos}{ft:Ft}{fo:QF}
theorem Fx{K:ap9}{g:Gh}{H:Hp}{M:Mo}{d:Dat}{v:V}{h:Nat}{i:Inst}(co:jh K aj)(fk:JZ ft aj)(w:fM K aj g H M)(r:dU K g H v d)(hi:jO M d=some (h,i))(hf:ft.has i.cls f=true):∃a C dx fs,d=obj h/\M[h]?=some i/\i.cls≠""/\g.tbl[h]?=some a/\v=.ref a/\aj i.cls=some C/\H a=some (.ins C dx fs)/\cJ K aj g H h fs i.fs/\Cls K C/\NoAttr K C f/\f∈aj.fl i.cls:=by
 obtain⟨rfl,h1,h2⟩:=HX hi
 obtain⟨a,rfl,ha⟩:=KC r
 obtain⟨C,dx,fs,c1,c2,c3⟩:=w.ins h a i ha h1 h2
 have hfl:=fk _ _ hf
 obtain⟨k1,k2⟩:=co i.cls C f c1 hfl
 exact⟨a,C,dx,fs,rfl,h1,h2,ha,rfl,c1,c2,c3,k1,k2,hfl⟩
theorem ahf{fe:GF}(co:jh X.K aj)(fk:JZ ft aj)(ho:QW aj X W o fo)(he:GE aj X W false e fe)(hs:swapsWith e (some (.Attribute o f pos')) pos.line X.env=pure false):SE aj X W false (.Assign [.Attribute o f pos'] e pos) (tM ft fo f fe):=by
 refine PS.weak (ps_fld ho he hs) fun D σ H ⟨g,ρ,M,I,z⟩=>?_
 refine tE.go I (cZ (σ:=σ) z) fun d M1 v H1 g1 k1 r1 I1 rv=>?_
 refine tW.go I1 (k:=fun od=>((match jO M1 od with
  |some (h,i)=>match ft.has i.cls f&&decide (i.fs.length < 100) with
   |true=>sJ.next ρ (M1.set h (i.put f (.dat d)))
   |false=>.bad
  |none=>.bad).sat (sN X.K aj false D.nx g H) (sR X.K aj false D.rt g H) (sN X.K aj false D.bk g H) (sN X.K aj false D.ct g H) (sX X.K aj W false g H))) ?_ fun od u H2 k2 e2 ru=>?_
 ·have k1:=Out.iK (cZ (σ:=σ) k1)
  exact k1.mono (fun _ y=>y) fun x y H' c dd ex rx=>y H' g1 c dd (r1.trans (Gr.ex ex)) (I1.ex ex) rx
 ·have I2:=I1.ex e2
  split at k2
  ·next h i hi=>
   split at k2
   ·next hb=>
    rw[aqa]at hb
    obtain⟨a,C,dx,fs,_,m1,m2,ha,rfl,c1,c2,c3,c4,c5,c6⟩:=Fx co fk I2.wok ru hi hb.1
    refine⟨a,C,dx,fs,rfl,c2,c4,c5,?_,?_⟩
    ·have:=of_decide_eq_true hb.2
     rw[c3.len]
     omega
    ·have ch:=Ua (f:=f) (C:=C) (dx:=dx) (fs':=putF f v fs) I2.kd I2.wok ha m1 m2
     have w':=I2.wok.chg I2.kd ch ha m1 m2 c6 c1 c3 upd_same (fl:=.dat d) (show Rep X.K g1 _ v d from(rv.ex e2 I1.kd).gr ch.gc.gr I2.kd)
     exact k2 σ _ g1 ((r1.trans (Gr.ex e2)).trans ch.gc.gr) (I2.chg ch w')
   ·exact False.elim k2
  ·exact False.elim k2
end
mutual
theorem Rep.mv{K:ap9}{g g':Gh}{H:Hp}(tb:∀(h:Nat) (a:Addr),g.tbl[h]?=some a->g'.tbl[h]?=some a)(n:∀a,g'.A a->g.A a):∀{v:V} {d:Dat},Rep K g H v d->Rep K g' H v d
 |_,_,.non=>.non
 |_,_,.bl b=>.bl b
 |_,_,.int i=>.int i
 |_,_,.str x=>.str x
 |_,_,.tup h t=>.tup h (aH.mv tb n t)
 |_,_,.lst h t=>.lst (h.elim (fun z=>.inl ⟨z.1,fun y=>z.2 (n _ y)⟩) .inr) (aH.mv tb n t)
 |_,_,.obj h=>.obj (tb _ _ h)
theorem aH.mv{K:ap9}{g g':Gh}{H:Hp}(tb:∀(h:Nat) (a:Addr),g.tbl[h]?=some a->g'.tbl[h]?=some a)(n:∀a,g'.A a->g.A a):∀{vs:List V} {ds:List Dat},aH K g H vs ds->aH K g' H vs ds
 |_,_,.nil=>.nil
 |_,_,.cons h t=>.cons (Rep.mv tb n h) (aH.mv tb n t)
end
def Dk(ft:Ft)(o:QF)(f:Str)(e:IF):SF:=fun M ρ=>((e M ρ).at M).then ρ fun xs M0=>((o (M0++[⟨"",[]⟩]) ρ).at (M0++[⟨"",[]⟩])).then ρ fun od M2=>match jO M2 od with
 |some (h,i)=>match ft.has i.cls f&&decide (i.fs.length < 100) with
  |true=>.next ρ (M2.set h (i.put f (.lst M0.length xs)))
  |false=>.bad
 |none=>.bad
theorem JX{K:ap9}{aj:aO}{σ:L2.St}{H H':Hp}{g:Gh}{ρ:Env}{M:Mo}{l:Addr}{o:HO}(I:SInv K aj σ H g ρ M)(nl:H l=none)(e:Ex H H')(hl:H' l=some o)(m:Hw o):Gr false g (g.push l) H H'/\SInv K aj σ H' (g.push l) ρ (M++[⟨"",[]⟩])/\(g.push l).tbl[M.length]?=some l/\(g.push l).ow l=none/\(M++[(⟨"",[]⟩:Inst)])[M.length]?=some ⟨"",[]⟩:=by
 have gr:=R8 (g:=g) e nl
 have kd:=aa0 I.kd e nl hl m
 have wk:=Xv (c:="") I.kd I.wok e nl (.inl rfl)
 refine⟨gr,I.grow gr e rfl kd wk,?_,?_,?_⟩
 ·show(g.tbl++[l])[M.length]?=_
  rw[←I.wok.len,aqt (aqz _),Nat.sub_self]
  rfl
 ·cases hz:g.ow l with
  |none=>exact hz
  |some p=>
   obtain⟨u,h1,_⟩:=I.kd.ob l (.inl (.inr (by rw[hz];exact fun y=>nomatch y)))
   rw[nl]at h1
   cases h1
 ·rw[aqt (aqz _),Nat.sub_self]
  rfl
section
variable{X:Cx}{aj:aO}{W:WX}{o e:Expr}{f:Str}{pos pos' p1 apos epos spos:Pos}{ft:Ft}{fo:QF}
theorem agd{fe:IF}(co:jh X.K aj)(fk:JZ ft aj)(ho:QW aj X W o fo)(he:FE aj X W e fe)(hs:swapsWith e (some (.Attribute o f pos')) pos.line X.env=pure false):SE aj X W false (.Assign [.Attribute o f pos'] e pos) (Dk ft fo f fe):=by
 refine PS.weak (ps_fld ho he hs) fun D σ H ⟨g,ρ,M,I,z⟩=>?_
 refine⟨g,ρ,M,I,?_⟩
 unfold Dk at z
 cases hf:fe M ρ with
 |exc x=>rw[hf]at z;exact fun H' c dd e r=>z σ H' g c dd (Gr.ex e) (I.ex e) r.fr
 |bad=>rw[hf]at z;exact False.elim z
 |ok xs=>
  rw[hf]at z
  intro l us H1 nl e1 hl rs
  obtain⟨gr,I1,tb,ow,mm⟩:=JX I nl e1 hl trivial
  have rs1:aH X.K (g.push l) H1 us xs:=aH.mv (g:=g.add l) (g':=g.push l) (fun h a z=>gr.tb (g:=g) z) (fun a z=>by
   rcases WT z with z|rfl
   ·rcases z with z|z|z
    ·exact .inl z
    ·exact .inr (.inl z)
    ·exact .inr (.inr (show g.Lo a∨a=l from Or.inl z))
   ·exact .inr (.inr (show g.Lo a∨a=a from Or.inr rfl))) rs
  have z:(((fo (M++[⟨"",[]⟩]) ρ).at (M++[⟨"",[]⟩])).then ρ fun od M2=>match jO M2 od with
   |some (h,i)=>match ft.has i.cls f&&decide (i.fs.length < 100) with
    |true=>.next ρ (M2.set h (i.put f (.lst M.length xs)))
    |false=>.bad
   |none=>.bad).sat (sN X.K aj false D.nx g H) (sR X.K aj false D.rt g H) (sN X.K aj false D.bk g H) (sN X.K aj false D.ct g H) (sX X.K aj W false g H):=z
  have k1:=Out.iK (cZ (σ:=σ) z)
  refine tW.go I1 (k1.mono (fun _ y=>y) fun x y H' c dd ex rx=>y H' _ c dd (gr.trans (Gr.ex ex)) (I1.ex ex) rx) fun od u H2 k2 e2 ru=>?_
  have I2:=I1.ex e2
  split at k2
  ·next h i hi=>
   split at k2
   ·next hb=>
    rw[aqa]at hb
    obtain⟨a,C,dx,fs,_,m1,m2,ha,rfl,c1,c2,c3,c4,c5,c6⟩:=Fx co fk I2.wok ru hi hb.1
    have nla:l≠a:=fun z=>by
     subst z
     cases I2.wok.inj _ _ _ ha tb
     rw[mm]at m1
     cases m1
     exact m2 rfl
    refine⟨a,C,dx,fs,rfl,c2,c4,c5,?_,?_⟩
    ·have:=of_decide_eq_true hb.2
     rw[c3.len]
     omega
    ·have ch:=T7 (f:=f) (C:=C) (dx:=dx) (fs':=putF f (.ref l) fs) I2.kd I2.wok ha m1 m2 tb mm ow
     have w':=I2.wok.chg I2.kd ch ha m1 m2 c6 c1 c3 upd_same (v:=.ref l) (fl:=.lst M.length xs) ⟨l,us,rfl,by rw[upd_ne nla];exact e2 _ _ hl,if_pos rfl,(rs1.ex e2 I1.kd).gr ch.gc.gr I2.kd,ch.gc.gr.tb tb⟩
     exact k2 σ _ _ ((gr.trans (Gr.ex e2)).trans ch.gc.gr) (I2.chg ch w')
   ·exact False.elim k2
  ·exact False.elim k2
def DY(M:Mo)(f:Str)(d:Dat):Option (Nat×Inst×Nat×List Dat):=(jO M d).bind fun p=>match p.2.fs.lookup f with
 |some (.lst n xs)=>some (p.1,p.2,n,xs)
 |_=>none
theorem R6{K:ap9}{g:Gh}{H:Hp}{M:Mo}{d:Dat}{v:V}{h n:Nat}{i:Inst}{xs:List Dat}(co:jh K aj)(w:fM K aj g H M)(r:dU K g H v d)(hi:DY M f d=some (h,i,n,xs)) :
  ∃a C dx fs l us,d=obj h/\M[h]?=some i/\i.cls≠""/\i.fs.lookup f=some (.lst n xs)/\g.tbl[h]?=some a/\v=.ref a/\aj i.cls=some C/\H a=some (.ins C dx fs)/\cJ K aj g H h fs i.fs/\Cls K C/\NoAttr K C f/\f∈aj.fl i.cls/\fs.lookup f=some (.ref l)/\H l=some (.lst us)/\g.ow l=some (h,f)/\aH K g H us xs/\g.tbl[n]?=some l:=by
 unfold DY at hi
 obtain⟨⟨h',i'⟩,h1,hi⟩:=ap8.mp hi
 split at hi
 ·next n' xs' hl=>
  cases hi
  obtain⟨rfl,m1,m2⟩:=HX h1
  obtain⟨a,rfl,ha⟩:=KC r
  obtain⟨C,dx,fs,c1,c2,c3⟩:=w.ins _ a _ ha m1 m2
  have hfl:=w.fd _ _ m1 f (lookup_mem hl)
  obtain⟨k1,k2⟩:=co _ C f c1 hfl
  obtain⟨u,l1,l,us,rfl,l3,l4,l5,l6⟩:=c3.get hl
  exact⟨a,C,dx,fs,l,us,rfl,m1,m2,hl,ha,rfl,c1,c2,c3,k1,k2,hfl,l1,l3,l4,l5,l6⟩
 ·cases hi
theorem aaT{K:ap9}{σ:L2.St}{ρ:Env}{g:Gh}{H:Hp}{M:Mo}{h n:Nat}{i:Inst}{ys:List Dat}{a C dx l:Addr}{fs:List (Str×V)}{us':List V}(I:SInv K aj σ H g ρ M)(m1:M[h]?=some i)(m2:i.cls≠"")(ha:g.tbl[h]?=some a)(c1:aj i.cls=some C)(c2:H a=some (.ins C dx fs))(c3:cJ K aj g H h fs i.fs)(hfl:f∈aj.fl i.cls)(l1:fs.lookup f=some (.ref l))(l4:g.ow l=some (h,f))(l6:g.tbl[n]?=some l)(rs:aH K g H us' ys) :
  Gr false g g H (upd H l (.lst us'))/\SInv K aj σ (upd H l (.lst us')) g ρ (M.set h (i.put f (.lst n ys))):=by
 have ch:=acj (o':=.lst us') I.kd I.wok l4 trivial
 have nla:a≠l:=fun z=>by
  subst z
  rw[I.wok.tw h a i ha m1 m2]at l4
  cases l4
 have w':=I.wok.chg I.kd ch ha m1 m2 hfl c1 (dx:=dx) c3 (v:=.ref l) (fl:=.lst n ys) (by rw[upd_ne nla,Jv l1];exact c2) ⟨l,us',rfl,upd_same,l4,rs.gr ch.gc.gr I.kd,l6⟩
 exact⟨ch.gc.gr,I.chg ch w'⟩
def CK(f:Str)(o:QF)(e:GF):SF:=fun M ρ=>((o M ρ).at M).then ρ fun od M0=>match DY M0 f od with
 |some (_,_,n,_)=>(e M0 ρ).then ρ fun d M1=>match DY M1 f od with
  |some (h,i,n',xs)=>match n==n'&&decide (xs.length < 100000) with
   |true=>.next ρ (M1.set h (i.put f (.lst n (xs++[d]))))
   |false=>.bad
  |none=>.bad
 |none=>.bad
theorem afQ{fe:GF}(co:jh X.K aj)(ho:QW aj X W o fo)(hb:baseOk o=true)(he:GE aj X W false e fe)(hs:nst e=true)(hl:(apos.endLine==pos.line)=true) :
  SE aj X W false (.Expr (.Call (.Attribute (.Attribute o f p1) "append" apos) [e] [] pos) epos) (CK f fo fe):=by
 have h0:=pe_fld (X:=X) (pos:=p1) (f:=f) ho (lN hb)
 have h1:=pa_cons he pa_nil (cO hs [])
 have key:=pe_bm (X:=X) (cpos:=pos) (apos:=apos) PySem.F.plainAttrs_list PySem.F.slot_list_append PySem.F.type_list_append mt_append h0 h1 (lN rfl) (few (by simp[hs]) (by simp)) hl (cO hs []) (by with_unfolding_all rfl)
 refine PS.weak (ps_expr key (by with_unfolding_all rfl)) fun D σ H ⟨g,ρ,M,I,z⟩=>?_
 unfold CK at z
 have k1:=Out.iK (cZ (σ:=σ) z)
 refine tW.go I (k1.mono (fun _ y=>y) fun x y H' c dd ex rx=>y H' _ c dd (Gr.ex ex) (I.ex ex) rx) fun od u H1 k2 e1 ru=>?_
 have I1:=I.ex e1
 split at k2
 ·next h0' i0 n xs0 hi=>
  obtain⟨a,C,dx,fs,l,us,rfl,m1,m2,ml,ha,rfl,c1,c2,c3,c4,c5,c6,l1,l3,l4,l5,l6⟩:=R6 co I1.wok ru hi
  refine⟨a,C,dx,fs,.ref l,rfl,c2,c4,c5,l1,.inl ⟨rfl,us,sq_of l3⟩,?_⟩
  refine tE.go I1 ((cZ (σ:=σ) k2).mono (fun _ _ y=>y) fun x M' y=>y.gr (Gr.ex e1)) fun d M1 v H2 g2 k3 r2 I2 rv=>?_
  split at k3
  ·next h i n' xs hi2=>
   split at k3
   ·next hg=>
    rw[aqa]at hg
    cases eq_of_beq hg.1
    have ru2:dU X.K g2 H2 (.ref a) (obj h0'):=Rep.weak (.obj (r2.tb ha))
    obtain⟨a',C',dx',fs',l',us',eh,n1,n2,nl,hb',ea,d1,d2,d3,d4,d5,d6,p1,p3,p4,p5,p6⟩:=R6 co I2.wok ru2 hi2
    cases ea
    have el:l'=l:=aqv (p6.symm.trans (r2.tb l6))
    subst el
    obtain⟨gr,I3⟩:=aaT (us':=us'++[v]) (ys:=xs++[d]) I2 n1 n2 hb' d1 d2 d3 d6 p1 p4 p6 (p5.append (.cons rv .nil))
    refine⟨l',us',v,rfl,rfl,p3,sz_lt (by rw[p5.length];exact of_decide_eq_true hg.2),?_⟩
    exact k3 σ _ g2 (((Gr.ex e1).trans r2).trans gr) I3
   ·exact False.elim k3
  ·exact False.elim k3
 ·exact False.elim k2
def Qi(f:Str)(o fi e:QF):SF:=fun M ρ=>((e M ρ).at M).then ρ fun d _=>((o M ρ).at M).then ρ fun od _=>match DY M f od with
 |some (h,i,n,xs)=>((fi M ρ).at M).then ρ fun k _=>match k with
  |.int k=>match ixN xs.length k with
   |some j=>.next ρ (M.set h (i.put f (.lst n (xs.set j d))))
   |none=>.bad
  |_=>.bad
 |none=>.bad
theorem agp{i:Expr}{fi fe:QF}(co:jh X.K aj)(ho:QW aj X W o fo)(hb:baseOk o=true)(he:QE aj X W e fe)(hi:QE aj X W i fi)
  (ha:∀v,assign (.Subscript (.Attribute o f p1) i spos) X.env v=(do
   let ov ←holding [v] (eval (.Attribute o f p1) X.env)
   let iv ←holding [v,ov] (eval i X.env)
   standAt spos
   holding [v,ov,iv] (setItem ov iv v)
   release [v,ov,iv] []))
  (hs:swapsWithSole [.Subscript (.Attribute o f p1) i spos] e pos.line X.env=pure false) (h1:(assignEach [.Subscript (.Attribute o f p1) i spos] X.env).map (·.2)=[assign (.Subscript (.Attribute o f p1) i spos) X.env]):SE aj X W false (.Assign [.Subscript (.Attribute o f p1) i spos] e pos) (Qi f fo fi fe):=by
 have h0:=pe_fld (X:=X) (pos:=p1) (f:=f) ho (lN hb)
 refine PS.weak (ps_asg he (pg_sub h0 hi set_list ha) hs (by with_unfolding_all rfl) h1) fun D σ H ⟨g,ρ,M,I,z⟩=>?_
 unfold Qi at z
 have k1:=Out.iK (cZ (σ:=σ) z)
 refine tQ.go I (k1.mono (fun _ y=>y) fun x y H' c dd ex rx=>y H' _ c dd (Gr.ex ex) (I.ex ex) rx) fun d v H1 k2 e1 rv=>?_
 have I1:=I.ex e1
 have k2:=Out.iK (cZ (σ:=σ) k2)
 refine tW.go I1 (k2.mono (fun _ y=>y) fun x y H' c dd ex rx=>y H' _ c dd ((Gr.ex e1).trans (Gr.ex ex)) (I1.ex ex) rx) fun od u H2 k3 e2 ru=>?_
 have I2:=I1.ex e2
 have e12:=e1.trans e2
 split at k3
 ·next h i' n xs hl=>
  obtain⟨a,C,dx,fs,l,us,rfl,m1,m2,ml,ha',rfl,c1,c2,c3,c4,c5,c6,l1,l3,l4,l5,l6⟩:=R6 co I2.wok ru hl
  refine⟨a,C,dx,fs,.ref l,rfl,c2,c4,c5,l1,?_⟩
  have k3:=Out.iK (cZ (σ:=σ) k3)
  refine tQ.go I2 (k3.mono (fun _ y=>y) fun x y H' c dd ex rx=>y H' _ c dd ((Gr.ex e12).trans (Gr.ex ex)) (I2.ex ex) rx) fun k w H3 k4 e3 rw'=>?_
  have I3:=I2.ex e3
  cases k with
  |int k=>
   simp only at k4
   split at k4
   ·next j hj=>
    cases rw'
    obtain⟨gr,I4⟩:=aaT (us':=us.set j v) (ys:=xs.set j d) I3 m1 m2 ha' c1 (e3 _ _ c2) (c3.ex e3 I2.kd) c6 l1 l4 l6 (((l5.ex e3 I2.kd).set ((rv.ex e2 I1.kd).ex e3 I2.kd) j))
    refine⟨l,us,k,j,rfl,rfl,e3 _ _ l3,by rw[l5.length];exact hj,?_⟩
    exact k4 σ _ g ((Gr.ex (e12.trans e3)).trans gr) I4
   ·exact False.elim k4
  |_=>exact False.elim k4
 ·exact False.elim k3
def QH(ft:Ft)(f:Str)(o e:QF):SF:=fun M ρ=>((o M ρ).at M).then ρ fun od _=>match jO M od with
 |some (h,i)=>match i.fs.lookup f,ft.has i.cls f&&decide (i.fs.length < 100) with
  |some (.dat (.int a)),true=>((e M ρ).at M).then ρ fun d _=>match d with
   |.int b=>.next ρ (M.set h (i.put f (.dat (.int (a+b)))))
   |_=>.bad
  |_,_=>.bad
 |none=>.bad
theorem aeJ:InOp X .Add (fun x y H Q=>∃i j,x=.int i/\y=.int j/\Q (.int (i+j)) H):=by
 intro pins s σ H x y u v Q I rx ry h
 obtain⟨i,j,rfl,rfl,q⟩:=h
 exact iop_add pins s σ H _ _ u v Q I rx ry ⟨i,j,rfl,rfl,q⟩
theorem agr{fe:QF}{tpos:Pos}(co:jh X.K aj)(fk:JZ ft aj)(ho:QW aj X W o fo)(he:QE aj X W e fe):SE aj X W false (.AugAssign (.Attribute o f tpos) .Add e pos) (QH ft f fo fe):=by
 refine PS.weak (ps_fldaug ho he aeJ) fun D σ H ⟨g,ρ,M,I,z⟩=>?_
 unfold QH at z
 have k1:=Out.iK (cZ (σ:=σ) z)
 refine tW.go I (k1.mono (fun _ y=>y) fun x y H' c dd ex rx=>y H' _ c dd (Gr.ex ex) (I.ex ex) rx) fun od u H1 k2 e1 ru=>?_
 have I1:=I.ex e1
 split at k2
 ·next h i hi=>
  split at k2
  ·next b hlk hb=>
   rw[aqa]at hb
   obtain⟨a,C,dx,fs,_,m1,m2,ha,rfl,c1,c2,c3,c4,c5,c6⟩:=Fx co fk I1.wok ru hi hb.1
   obtain⟨v,l1,l2⟩:=c3.get hlk
   refine⟨a,C,dx,fs,v,rfl,c2,c4,c5,l1,?_⟩
   have k2:=Out.iK (cZ (σ:=σ) k2)
   refine tQ.go I1 (k2.mono (fun _ y=>y) fun x y H' c dd ex rx=>y H' _ c dd ((Gr.ex e1).trans (Gr.ex ex)) (I1.ex ex) rx) fun d w H2 k3 e2 rd=>?_
   have I2:=I1.ex e2
   cases d with
   |int j=>
    cases rd
    have l2:Rep X.K g H1 v (.int b):=l2
    cases l2
    refine⟨b,j,rfl,rfl,dx,fs,e2 _ _ c2,?_,?_⟩
    ·have:=of_decide_eq_true hb.2
     rw[c3.len]
     omega
    ·have ch:=Ua (f:=f) (C:=C) (dx:=dx) (fs':=putF f (.int (b+j)) fs) I2.kd I2.wok ha m1 m2
     have w':=I2.wok.chg I2.kd ch ha m1 m2 c6 c1 (c3.ex e2 I1.kd) upd_same (v:=.int (b+j)) (fl:=.dat (.int (b+j))) (show Rep X.K g _ _ _ from .int _)
     exact k3 σ _ g ((Gr.ex (e1.trans e2)).trans ch.gc.gr) (I2.chg ch w')
   |_=>exact False.elim k3
  ·exact False.elim k2
 ·exact False.elim k2
end
mutual
def rN:Dat->Option NestedKey
 |.none=>some .none
 |.int i=>some (.num i)
 |.str x=>some (.text x)
 |.tuple ds=>(v7 ds).map .tup
 |.bool _=>none
 |.list _=>none
 |.dict _=>none
def v7:List Dat->Option (List NestedKey)
 |[]=>some []
 |d::ds=>(rN d).bind fun k=>(v7 ds).bind fun ks=>some (k::ks)
end
mutual
theorem zL:∀{d:Dat} {k:NestedKey},rN d=some k->k.data=d
 |.none,_,h=>by cases h;rfl
 |.int i,_,h=>by cases h;rfl
 |.str x,_,h=>by cases h;rfl
 |.tuple ds,_,h=>by
  rw[rN,aqV]at h
  obtain⟨ks,h1,rfl⟩:=h
  rw[NestedKey.data,Ra h1]
theorem Ra:∀{ds:List Dat} {ks:List NestedKey},v7 ds=some ks->NestedKey.datas ks=ds
 |[],_,h=>by cases h;rfl
 |d::ds,_,h=>by
  rw[v7]at h
  obtain⟨k,h1,h⟩:=ap8.mp h
  obtain⟨ks,h2,h⟩:=ap8.mp h
  cases h
  rw[NestedKey.datas,zL h1,Ra h2]
end
mutual
theorem aaz:∀a b:NestedKey,PyData.eqv a.data b.data=NestedKey.beq a b
 |.none,.none=>by simp[NestedKey.data,PyData.eqv,NestedKey.beq]
 |.none,.num _=>by simp[NestedKey.data,PyData.eqv,NestedKey.beq]
 |.none,.text _=>by simp[NestedKey.data,PyData.eqv,NestedKey.beq]
 |.none,.tup _=>by simp[NestedKey.data,PyData.eqv,NestedKey.beq]
 |.num _,.none=>by simp[NestedKey.data,PyData.eqv,NestedKey.beq]
 |.num a,.num b=>by simp[NestedKey.data,PyData.eqv,NestedKey.beq];rfl
 |.num _,.text _=>by simp[NestedKey.data,PyData.eqv,NestedKey.beq]
 |.num _,.tup _=>by simp[NestedKey.data,PyData.eqv,NestedKey.beq]
 |.text _,.none=>by simp[NestedKey.data,PyData.eqv,NestedKey.beq]
 |.text _,.num _=>by simp[NestedKey.data,PyData.eqv,NestedKey.beq]
 |.text a,.text b=>by simp[NestedKey.data,PyData.eqv,NestedKey.beq];rfl
 |.text _,.tup _=>by simp[NestedKey.data,PyData.eqv,NestedKey.beq]
 |.tup _,.none=>by simp[NestedKey.data,PyData.eqv,NestedKey.beq]
 |.tup _,.num _=>by simp[NestedKey.data,PyData.eqv,NestedKey.beq]
 |.tup _,.text _=>by simp[NestedKey.data,PyData.eqv,NestedKey.beq]
 |.tup as,.tup bs=>by
  rw[NestedKey.data,NestedKey.data,PyData.eqv,NestedKey.beq]
  exact Xj as bs
theorem Xj:∀as bs:List NestedKey,PyData.eqvAll (NestedKey.datas as) (NestedKey.datas bs)=NestedKey.beqAll as bs
 |[],[]=>by simp[NestedKey.datas,PyData.eqvAll,NestedKey.beqAll]
 |[],_::_=>by simp[NestedKey.datas,PyData.eqvAll,NestedKey.beqAll]
 |_::_,[]=>by simp[NestedKey.datas,PyData.eqvAll,NestedKey.beqAll]
 |a::as,b::bs=>by
  rw[NestedKey.datas,NestedKey.datas,PyData.eqvAll,NestedKey.beqAll,aaz a b,Xj as bs]
end
theorem aae(a b:NestedKey):PyData.eqv a.data b.data=decide (a=b):=by rw[aaz,NestedKey.decide_eq]
section
variable{X:Cx}{pins:List (Addr×Obj)}{σ:L2.St}{H:Hp}{s:Shared}{g:Gh}
mutual
theorem key_is(I:L2.Inv X pins σ H s):∀{v:V} {d:Dat} {k:NestedKey} {u:Value},Rep X.K g H v d->rN d=some k->RelV v u->NestedIs s.heap k u
 |_,_,_,u,.non,e,r=>by
  cases e
  obtain rfl:u=.none:=r
  exact .none
 |_,_,_,_,.int i,e,r=>by
  cases e
  obtain⟨t,rfl⟩:=r
  exact .int i t
 |_,_,_,_,.str x,e,r=>by
  cases e
  obtain⟨t,rfl⟩:=r
  exact .text x t
 |_,_,_,u,.tup (a:=a) h t,e,r=>by
  rw[rN,aqV]at e
  obtain⟨ks,h1,rfl⟩:=e
  obtain rfl:u=.ref a:=r
  obtain⟨its,r1,⟨o,e1,c1,n,d1⟩,_⟩:=I.tuple h
  exact .tup e1 c1 d1 (by simpa using aaG I t h1 r1)
 |_,_,_,_,.bl b,e,r=>by cases e
 |_,_,_,_,.lst _ _,e,r=>by cases e
 |_,_,_,_,.obj _,e,r=>by cases e
theorem aaG(I:L2.Inv X pins σ H s):∀{vs:List V} {ds:List Dat} {ks:List NestedKey} {us:List Value},aH X.K g H vs ds->v7 ds=some ks->Vals vs us->NestedAll s.heap ks us
 |_,_,_,_,.nil,e,r=>by
  cases e
  cases r
  exact .nil
 |_,_,_,_,.cons h t,e,r=>by
  rw[v7]at e
  obtain⟨k,h1,e⟩:=ap8.mp e
  obtain⟨ks,h2,e⟩:=ap8.mp e
  cases e
  cases r with
  |cons r1 r2=>exact .cons (key_is I h h1 r1) (aaG I t h2 r2)
end
end
mutual
theorem Z9:∀k:NestedKey,rN k.data=some k
 |.none=>rfl
 |.num _=>rfl
 |.text _=>rfl
 |.tup ks=>by rw[NestedKey.data,rN,YM ks];rfl
theorem YM:∀ks:List NestedKey,v7 (NestedKey.datas ks)=some ks
 |[]=>rfl
 |k::ks=>by rw[NestedKey.datas,v7,Z9 k,YM ks];rfl
end
def dhas:Bool->List (Dat×Dat)->Dat->Out Bool
 |false,kvs,.int i=>.ok (kvs.any fun p=>PyData.eqv p.1 (.int i))
 |true,kvs,.tuple ds=>match rN (.tuple ds) with
  |some k=>match decide (k.depth<=8) with
   |true=>.ok (kvs.any fun p=>PyData.eqv p.1 (.tuple ds))
   |false=>.bad
  |none=>.bad
 |_,_,_=>.bad
def yg(M:Mo)(f:Str)(d:Dat):Option (Nat×Inst×Bool×List (Dat×Dat)):=(jO M d).bind fun p=>match p.2.fs.lookup f with
 |some (.dic b kvs)=>some (p.1,p.2,b,kvs)
 |_=>none
section
variable{aj:aO}{f:Str}
theorem Gi{K:ap9}{g:Gh}{H:Hp}{M:Mo}{d:Dat}{v:V}{h:Nat}{i:Inst}{b:Bool}{kvs:List (Dat×Dat)}(co:jh K aj)(w:fM K aj g H M)(r:dU K g H v d)(hi:yg M f d=some (h,i,b,kvs)) :
  ∃a C dx fs l,d=obj h/\M[h]?=some i/\i.cls≠""/\i.fs.lookup f=some (.dic b kvs)/\g.tbl[h]?=some a/\v=.ref a/\aj i.cls=some C/\H a=some (.ins C dx fs)/\cJ K aj g H h fs i.fs/\Cls K C/\NoAttr K C f/\f∈aj.fl i.cls/\fs.lookup f=some (.ref l)/\g.ow l=some (h,f)/\ji K aj g H l b kvs:=by
 unfold yg at hi
 obtain⟨⟨h',i'⟩,h1,hi⟩:=ap8.mp hi
 split at hi
 ·next b' kvs' hl=>
  cases hi
  obtain⟨rfl,m1,m2⟩:=HX h1
  obtain⟨a,rfl,ha⟩:=KC r
  obtain⟨C,dx,fs,c1,c2,c3⟩:=w.ins _ a _ ha m1 m2
  have hfl:=w.fd _ _ m1 f (lookup_mem hl)
  obtain⟨k1,k2⟩:=co _ C f c1 hfl
  obtain⟨u,l1,l,rfl,l3,l4⟩:=c3.get hl
  exact⟨a,C,dx,fs,l,rfl,m1,m2,hl,ha,rfl,c1,c2,c3,k1,k2,hfl,l1,l3,l4⟩
 ·cases hi
end
theorem Ss{kv:List (Key×V)}{i:Int}:∀{kvs:List (Dat×Dat)},kvs.map (·.1)=kv.map (fun p=>keyD p.1)->(kvs.any fun p=>PyData.eqv p.1 (.int i))=(valV kv (Sum.inl i)).isSome:=by
 induction kv with
 |nil=>
  intro kvs e
  cases kvs with
  |nil=>rfl
  |cons _ _=>cases e
 |cons p r ih=>
  intro kvs e
  cases kvs with
  |nil=>cases e
  |cons q t=>
   simp only[aqd,List.cons.injEq]at e
   rw[aq1,ih e.2,e.1]
   by_cases h:p.1=Sum.inl i
   ·rw[valV_pos h,h]
    simp[keyD,PyData.eqv]
   ·rw[valV_neg h]
    have:PyData.eqv (keyD p.1) (.int i)=false:=by
     cases hp:p.1 with
     |inl j=>
      have:j≠i:=fun z=>h (by rw[hp,z])
      simp[keyD,PyData.eqv,this]
     |inr x=>simp[keyD,PyData.eqv]
    rw[this,Bool.false_or]
theorem GZ{xs:List mj}{k:NestedKey}:∀{kvs:List (Dat×Dat)},kvs.map (·.1)=xs.map (fun x=>x.1.data)->(kvs.any fun p=>PyData.eqv p.1 k.data)=(atKey xs k).isSome:=by
 induction xs with
 |nil=>
  intro kvs e
  cases kvs with
  |nil=>rfl
  |cons _ _=>cases e
 |cons p r ih=>
  intro kvs e
  cases kvs with
  |nil=>cases e
  |cons q t=>
   simp only[aqd,List.cons.injEq]at e
   rw[aq1,ih e.2,e.1,aae]
   unfold atKey
   rw[List.find?_cons]
   cases hd:decide (p.1=k) with
   |true=>rfl
   |false=>rfl
theorem Eu{X:Cx}{pins:List (Addr×Obj)}{σ:L2.St}{H:Hp}{s:Shared}{g:Gh}{l:Addr}{o:Obj}{xs:List mj}{ks:List Dat}(I:L2.Inv X pins σ H s)(h1:H l=some (iw l o))(h2:kW X.w l o xs)(h3:ks=xs.map fun x=>x.1.data)(h4:aH X.K g H (xs.map fun x=>V.ref x.2.1) ks) :
  s.heap.DictOfH (nestedKind X.prog X.w) l xs:=by
 obtain⟨z1,_,_⟩:=(show ObjOk X.prog X.w H s.heap l (iw l o) from I.hok l _ h1)
 obtain⟨es,ep,e1,e2⟩:=h2.ent
 refine⟨o,es,ep,z1,h2.ex,e1,e2,fun x hx=>?_,h2.nd⟩
 refine⟨?_,h2.dep x hx⟩
 obtain⟨n,hn⟩:=List.mem_iff_getElem?.mp hx
 obtain⟨d,hd1,hd2⟩:=h4.get' (i:=n) (v:=V.ref x.2.1) (by rw[aqm,hn];rfl)
 rw[h3,aqm,hn]at hd1
 cases hd1
 exact key_is I hd2 (Z9 x.1) rfl
def rInD(X:Cx)(neg:Bool):R2:=fun x y H Q=>(∃l kv i,y=.ref l/\H l=some (.dK kv)/\x=.int i/\Q (.bl (neg ^^ (valV kv (Sum.inl i)).isSome)) H)∨
 ∃(l:Addr) (o:Obj) (xs:List mj) (g:Gh) (d:Dat) (b:Addr) (k:NestedKey),y=.ref l/\H l=some (iw l o)/\kW X.w l o xs/\aH X.K g H (xs.map fun x=>V.ref x.2.1) (xs.map fun x=>x.1.data)/\x=.ref b/\Rep X.K g H x d/\rN d=some k/\k.depth<=8/\Q (.bl (neg ^^ (atKey xs k).isSome)) H
section
variable{X:Cx}
theorem op_inD(hu:X.A.units+64 < cLine):OpR X (compareOp .In) (rInD X false):=by
 intro pins s σ H x y v u Q I rx ry h
 rcases h with⟨l,kv,i,rfl,hl,rfl,q⟩|⟨l,o,xs,g,d,b,k,rfl,h1,h2,h3,rfl,h4,h5,h6,q⟩
 ·obtain rfl:u=Value.ref l:=ry
  exact d_in (by omega) I (DGet.k (k:=Sum.inl i) hl) rx fun s' I'=>⟨.bl _,H,I',rfl,by simpa using q⟩
 ·obtain rfl:u=Value.ref l:=ry
  obtain rfl:v=Value.ref b:=rx
  refine wpAny_in_heap (knd:=nestedKind X.prog X.w) (k:=k) (show X.A.in1.units+8 < cLine by show X.A.units+1+8 < cLine;omega) ⟨key_is I h4 h5 rfl,h6⟩ h2.sys (Eu I h1 h2 rfl h3) ?_
  exact⟨.bl _,H,I.tok _,rfl,by simpa using q⟩
theorem op_notInD(hu:X.A.units+64 < cLine):OpR X (compareOp .NotIn) (rInD X true):=by
 intro pins s σ H x y v u Q I rx ry h
 rcases h with⟨l,kv,i,rfl,hl,rfl,q⟩|⟨l,o,xs,g,d,b,k,rfl,h1,h2,h3,rfl,h4,h5,h6,q⟩
 ·obtain rfl:u=Value.ref l:=ry
  exact d_notIn (by omega) I (DGet.k (k:=Sum.inl i) hl) rx fun s' I'=>⟨.bl _,H,I',rfl,by simpa using q⟩
 ·obtain rfl:u=Value.ref l:=ry
  obtain rfl:v=Value.ref b:=rx
  refine notIn_keyed (knd:=nestedKind X.prog X.w) (k:=k) (show X.A.in1.units+8 < cLine by show X.A.units+1+8 < cLine;omega) ⟨key_is I h4 h5 rfl,h6⟩ h2.sys ⟨xs,Eu I h1 h2 rfl h3,rfl⟩ ?_
  rw[valueAt_pairsH,Option.isSome_map]
  exact⟨.bl _,H,I.tok _,rfl,by simpa using q⟩
end
def NT(neg:Bool)(f:Str)(k o:QF):QF:=fun M ρ=>(k M ρ).bind fun d=>(o M ρ).bind fun od=>match yg M f od with
 |some (_,_,b,kvs)=>(dhas b kvs d).bind fun r=>.ok (.bool (neg ^^ r))
 |none=>.bad
section
variable{X:Cx}{aj:aO}{W:WX}{o k:Expr}{f:Str}{pos p1:Pos}{fo fk:QF}{neg:Bool}{op:CmpOp}
theorem afn(co:jh X.K aj)(hw:aj.w=X.w)(σ:L2.St)(H:Hp)(Q:VK)(h:tQ X.K aj W (NT neg f fk fo) σ H Q):tOp (rInD X neg) (tQ X.K aj W fk) (tFld X.K (tW X.K aj W fo) f) σ H Q:=by
 obtain⟨g,ρ,M,I,h⟩:=h
 refine tQ.go I h.bnd fun d v H1 h1 e1 r1=>?_
 have I1:=I.ex e1
 refine tW.go I1 (h1.bnd.mono (fun _ z=>z) fun _ z=>z.ex e1) fun od u H2 h2 e2 r2=>?_
 have I2:=I1.ex e2
 split at h2
 ·next hh i b kvs hd=>
  obtain⟨a,C,dx,fs,l,rfl,m1,m2,ml,ha,rfl,c1,c2,c3,c4,c5,c6,l1,l2,l3⟩:=Gi co I2.wok r2 hd
  refine⟨a,C,dx,fs,.ref l,rfl,c2,c4,c5,l1,?_⟩
  have r1':=r1.ex e2 I1.kd
  unfold dhas at h2
  split at h2
  ·next i'=>
   obtain⟨kv,k1,k2,k3⟩:=l3
   cases r1'
   refine .inl ⟨l,kv,i',rfl,k1,rfl,?_⟩
   rw[Ss k2]at h2
   exact h2 _ H2 (e1.trans e2) (.bl _)
  ·next ds=>
   split at h2
   ·next kk hk=>
    split at h2
    ·next hdep=>
     obtain⟨o',xs,vs,k1,k2,k3,k4,k5,k6⟩:=l3
     have ek:=zL hk
     rw[←ek,GZ k3]at h2
     rw[k3]at k4
     rw[hw]at k2
     cases r1' with
     | @tup b us _ hs ht=>exact .inr ⟨l,o',xs,g,_,b,kk,rfl,k1,k2,k4,rfl,.tup hs ht,hk,of_decide_eq_true hdep,h2 _ H2 (e1.trans e2) (.bl _)⟩
    ·exact False.elim h2
   ·exact False.elim h2
  ·exact False.elim h2
 ·exact False.elim h2
theorem ajN(co:jh X.K aj)(hw:aj.w=X.w)(hr:OpR X (compareOp op) (rInD X neg))(hk:QE aj X W k fk)(ho:QW aj X W o fo)(hb:baseOk o=true):QE aj X W (.Compare k [op] [.Attribute o f p1] pos) (NT neg f fk fo):=
 PE.weak (pe_cmpR hr hk (pe_fld ho (lN hb)) (by cases op <;> rfl)) fun σ H Q h=>afn co hw σ H Q h
end
def DPx(X:Cx)(H:Hp)(a:Addr)(y v:V)(R:Hp->Prop):Prop:=(∃kvs i,H a=some (.dK kvs)/\y=.int i/\kvs.length < sizeLine/\R (upd H a (.dK (putK kvs (Sum.inl i) v))))∨
 ∃(o:Obj) (xs:List mj) (g:Gh) (d:Dat) (b:Addr) (k:NestedKey),H a=some (iw a o)/\kW X.w a o xs/\aH X.K g H (xs.map fun x=>V.ref x.2.1) (xs.map fun x=>x.1.data)/\y=.ref b/\Rep X.K g H y d/\rN d=some k/\k.depth<=8/\xs.length < sizeLine/\∀(o':Obj) (u:Value),RelV v u->kW X.w a o' (storedH xs k b u)->R (upd H a (iw a o'))
theorem J8{P:Program}{w:World}{H:Hp}{h:Heap}{l:Addr}{o:Obj}(e:h.get? l=some o):ObjOk P w H h l (iw l o):=⟨e,⟨o,e⟩,fun _ _ e1 k=>k _ e1⟩
theorem Zu{xs:List mj}{k:NestedKey}{b:Addr}{u:Value}:(storedH xs k b u).map (·.1)=if (atKey xs k).isSome then xs.map (·.1) else xs.map (·.1)++[k]:=by
 unfold storedH
 split
 ·rw[aqH]
  refine List.map_congr_left fun x _=>?_
  show(putAt k u x).1=x.1
  unfold putAt
  split <;> rfl
 ·simp
theorem QJ{xs:List mj}{k:NestedKey}{b:Addr}{u:Value}:(storedH xs k b u).length<=xs.length+1:=by
 unfold storedH
 split <;> simp
theorem O4{xs:List mj}{k:NestedKey}{b:Addr}{u:Value}(h:∀x∈xs,x.1.depth<=8)(hk:k.depth<=8):∀x∈storedH xs k b u,x.1.depth<=8:=fun x hx=>by
 have:x.1∈(storedH xs k b u).map (·.1):=aqk.mpr ⟨x,hx,rfl⟩
 rw[Zu]at this
 have old:∀{z:NestedKey},z∈xs.map (·.1)->z.depth<=8:=fun {z} m=>by
  obtain⟨y,hy,rfl⟩:=aqk.mp m
  exact h y hy
 split at this
 ·exact old this
 ·rcases aqo.mp this with z|z
  ·exact old z
  ·rw[aqg.mp z]
   exact hk
section
variable{X:Cx}{o i value:Expr}{td ty tv:TE}{pos pos':Pos}
def amf(X:Cx)(td ty tv:TE):TS:=fun D σ H=>tv σ H fun v H1=>td σ H1 fun x H2=>ty σ H2 fun y H3=>∃a,x=.ref a/\DPx X H3 a y v fun H4=>D.nx σ H4
theorem aeC(hu:X.A.units+64 < cLine)(ho:PE X o td)(hi:PE X i ty)(hv:PE X value tv)(hs:swapsWith value (some (.Subscript o i pos')) pos.line X.env=pure false):PS X (.Assign [.Subscript o i pos'] value pos) (amf X td ty tv):=by
 refine⟨fun pins s σ H D I h=>?_⟩
 refine wpAny_Assign_Subscript (thn (hv.run pins s σ H _ I h) fun r s1 ⟨v,H1,I1,rv,q1⟩=>thn (ho.run pins s1 σ H1 _ I1 q1) fun u s2 ⟨x,H2,I2,rx,q2⟩=>thn (hi.run pins s2 σ H2 _ I2 q2) fun iv s3 ⟨y,H3,I3,ry,a,ex,q3⟩=>?_) hs
 subst ex
 obtain rfl:u=Value.ref a:=rx
 rcases q3 with⟨kvs,j,h1,rfl,hl,q⟩|⟨ob,xs,g,d,b,k,h1,h2,h3,rfl,h4,h5,h6,hl,q⟩
 ·exact d_setItem (by omega) I3 (DPut.k (k:=Sum.inl j) h1 hl) ry rv fun s4 I4=>⟨σ,_,I4,q⟩
 ·obtain rfl:iv=Value.ref b:=ry
  refine wpAny_setItem_heap (knd:=nestedKind X.prog X.w) (k:=k) (hsz:=Nat.le_of_lt hl) (show X.A.in1.units+8 < cLine by show X.A.units+1+8 < cLine;omega) ⟨key_is I3 h4 h5 rfl,h6⟩ (Eu I3 h1 h2 rfl h3) fun h' dd hs'=>?_
  obtain⟨o',es,ep,g1,g2,g3,g4,g5,g6⟩:=dd
  have nd:kW X.w a o' (storedH xs k b r):=⟨h2.sys,g2,⟨es,ep,g3,g4⟩,g6,by have:=QJ (xs:=xs) (k:=k) (b:=b) (u:=r);omega,O4 h2.dep h6⟩
  exact⟨σ,_,d_write I3 (by rw[h1];exact True.intro) hs' ⟨o',g1⟩ (J8 g1),q o' r rv nd⟩
end
theorem aH.back{K:ap9}{g:Gh}{H:Hp}{vs:List V}{ds:List Dat}{v:V}{d:Dat}(h:aH K g H vs ds)(r:Rep K g H v d):aH K g H (vs++[v]) (ds++[d]):=h.append (.cons r .nil)
theorem K8{K:ap9}{aj:aO}{f:Str}{σ:L2.St}{ρ:Env}{g:Gh}{H:Hp}{M:Mo}{h:Nat}{i:Inst}{b:Bool}{kvs':List (Dat×Dat)}{a C dx l:Addr}{fs:List (Str×V)}{o':HO}(I:SInv K aj σ H g ρ M)(m1:M[h]?=some i)(m2:i.cls≠"")(ha:g.tbl[h]?=some a)(c1:aj i.cls=some C)(c2:H a=some (.ins C dx fs))(c3:cJ K aj g H h fs i.fs)(hfl:f∈aj.fl i.cls)(l1:fs.lookup f=some (.ref l))(l4:g.ow l=some (h,f))(mu:Hw o')
  (new:Gr false g g H (upd H l o')->ji K aj g (upd H l o') l b kvs'):Gr false g g H (upd H l o')/\SInv K aj σ (upd H l o') g ρ (M.set h (i.put f (.dic b kvs'))):=by
 have ch:=acj (o':=o') I.kd I.wok l4 mu
 have nla:a≠l:=fun z=>by
  subst z
  rw[I.wok.tw h a i ha m1 m2]at l4
  cases l4
 have w':=I.wok.chg I.kd ch ha m1 m2 hfl c1 (dx:=dx) c3 (v:=.ref l) (fl:=.dic b kvs') (by rw[upd_ne nla,Jv l1];exact c2) ⟨l,rfl,l4,new ch.gc.gr⟩
 exact⟨ch.gc.gr,I.chg ch w'⟩
def Lw(f:Str)(o k e:QF):SF:=fun M ρ=>((e M ρ).at M).then ρ fun v _=>((o M ρ).at M).then ρ fun od _=>match yg M f od with
 |some (h,i,b,kvs)=>((k M ρ).at M).then ρ fun d _=>match dhas b kvs d,decide (kvs.length < 100000) with
  |.ok false,true=>.next ρ (M.set h (i.put f (.dic b (kvs++[(d,v)]))))
  |_,_=>.bad
 |none=>.bad
def Lh(f:Str)(o k:QF):SF:=fun M ρ=>((o M ρ).at M).then ρ fun od _=>match yg M f od with
 |some (h,i,b,kvs)=>((k M ρ).at M).then ρ fun d _=>match dhas b kvs d,decide (kvs.length<=100000) with
  |.ok true,true=>.next ρ (M.set h (i.put f (.dic b (kvs.filter fun p=>!PyData.eqv p.1 d))))
  |_,_=>.bad
 |none=>.bad
theorem T9{kvs:List (Dat×Dat)}{b r:Bool}{d:Dat}(h:dhas b kvs d=.ok r):(kvs.any fun p=>PyData.eqv p.1 d)=r/\((b=false/\∃i,d=.int i)∨(b=true/\∃ds k,d=.tuple ds/\rN d=some k/\k.depth<=8)):=by
 unfold dhas at h
 split at h
 ·next i=>
  cases h
  exact⟨rfl,.inl ⟨rfl,i,rfl⟩⟩
 ·next ds=>
  split at h
  ·next k hk=>
   split at h
   ·next hd=>
    cases h
    exact⟨rfl,.inr ⟨rfl,ds,k,rfl,hk,of_decide_eq_true hd⟩⟩
   ·cases h
  ·cases h
 ·cases h
section
variable{X:Cx}{aj:aO}{W:WX}{o e i:Expr}{f:Str}{pos pos' p1:Pos}{fo fe fk:QF}
theorem ahk(co:jh X.K aj)(hw:aj.w=X.w)(hu:X.A.units+64 < cLine)(ho:QW aj X W o fo)(hb:baseOk o=true)(hk:QE aj X W i fk)(he:QE aj X W e fe)(hs:swapsWith e (some (.Subscript (.Attribute o f p1) i pos')) pos.line X.env=pure false) :
  SE aj X W false (.Assign [.Subscript (.Attribute o f p1) i pos'] e pos) (Lw f fo fk fe):=by
 refine PS.weak (aeC hu (pe_fld ho (lN hb)) hk he hs) fun D σ H ⟨g,ρ,M,I,z⟩=>?_
 unfold Lw at z
 have k1:=Out.iK (cZ (σ:=σ) z)
 refine tQ.go I (k1.mono (fun _ y=>y) fun x y H' c dd ex rx=>y H' _ c dd (Gr.ex ex) (I.ex ex) rx) fun d v H1 k2 e1 rv=>?_
 have I1:=I.ex e1
 have k2:=Out.iK (cZ (σ:=σ) k2)
 refine tW.go I1 (k2.mono (fun _ y=>y) fun x y H' c dd ex rx=>y H' _ c dd ((Gr.ex e1).trans (Gr.ex ex)) (I1.ex ex) rx) fun od u H2 k3 e2 ru=>?_
 have I2:=I1.ex e2
 have e12:=e1.trans e2
 split at k3
 ·next h i' b kvs hl=>
  obtain⟨a,C,dx,fs,l,rfl,m1,m2,ml,ha,rfl,c1,c2,c3,c4,c5,c6,l1,l2,l3⟩:=Gi co I2.wok ru hl
  refine⟨a,C,dx,fs,.ref l,rfl,c2,c4,c5,l1,?_⟩
  have k3:=Out.iK (cZ (σ:=σ) k3)
  refine tQ.go I2 (k3.mono (fun _ y=>y) fun x y H' c dd ex rx=>y H' _ c dd ((Gr.ex e12).trans (Gr.ex ex)) (I2.ex ex) rx) fun kd w H3 k4 e3 rk=>?_
  have I3:=I2.ex e3
  have l3':=l3.ex e3 I2.kd
  have rv3:=(rv.ex e2 I1.kd).ex e3 I2.kd
  refine⟨l,rfl,?_⟩
  split at k4
  ·next hh hz=>
   obtain⟨ha2,hcase⟩:=T9 hh
   have hz:=of_decide_eq_true hz
   rcases hcase with⟨rfl,j,rfl⟩|⟨rfl,ds,kk,rfl,hkk,hdep⟩
   ·obtain⟨kv,q1,q2,q3⟩:=l3'
    cases rk
    have hlen:kv.length=kvs.length:=by
     have:=congrArg List.length q2
     simpa using this.symm
    rw[Ss q2]at ha2
    have hn:valV kv (Sum.inl j)=none:=by
     cases hv:valV kv (Sum.inl j) with
     |none=>rfl
     |some _=>rw[hv]at ha2;cases ha2
    refine .inl ⟨kv,j,q1,rfl,sz_lt (by rw[hlen];exact hz),?_⟩
    rw[putK_new v hn]
    obtain⟨gr,I4⟩:=K8 (b:=false) (kvs':=kvs++[(.int j,d)]) (o':=.dK (kv++[(Sum.inl j,v)])) I3 m1 m2 ha c1 (e3 _ _ c2) (c3.ex e3 I2.kd) c6 l1 l2 trivial fun gr=>⟨_,upd_same,by simp[q2,keyD],by
     rw[aqF,aqF]
     exact(q3.gr gr I3.kd).back (rv3.gr gr I3.kd)⟩
    exact k4 σ _ g ((Gr.ex (e12.trans e3)).trans gr) I4
   ·obtain⟨o',xs,vs,q1,q2,q3,q4,q5,q6⟩:=l3'
    have hlen:xs.length=kvs.length:=by
     have:=congrArg List.length q3
     simpa using this.symm
    have ek:=zL hkk
    rw[←ek,GZ q3]at ha2
    have hn:atKey xs kk=none:=by
     cases hv:atKey xs kk with
     |none=>rfl
     |some _=>rw[hv]at ha2;cases ha2
    have q4':=q4
    rw[q3]at q4'
    rw[hw]at q2
    cases rk with
    | @tup bb us _ hs' ht=>
     refine .inr ⟨o',xs,g,_,bb,kk,q1,q2,q4',rfl,.tup hs' ht,hkk,hdep,sz_lt (by rw[hlen];exact hz),fun o2 u2 ru2 nd=>?_⟩
     rw[storedH_new hn]at nd
     obtain⟨gr,I4⟩:=K8 (b:=true) (kvs':=kvs++[(.tuple ds,d)]) (o':=iw l o2) I3 m1 m2 ha c1 (e3 _ _ c2) (c3.ex e3 I2.kd) c6 l1 l2 trivial fun gr=>⟨o2,xs++[(kk,bb,u2)],vs++[v],upd_same,by rw[hw];exact nd,by simp[q3,ek],by
      rw[aqF,aqF]
      exact(q4.gr gr I3.kd).back ((Rep.tup hs' ht).gr gr I3.kd),by
      rw[aqF]
      exact q5.append (.cons ru2 .nil),by
      rw[aqF]
      exact(q6.gr gr I3.kd).back (rv3.gr gr I3.kd)⟩
     exact k4 σ _ g ((Gr.ex (e12.trans e3)).trans gr) I4
  ·exact False.elim k4
 ·exact False.elim k3
end
section
variable{X:Cx}{o i:Expr}{td ty:TE}{pos tpos:Pos}
def amF(X:Cx)(td ty:TE):TS:=fun D σ H=>td σ H fun x H2=>ty σ H2 fun y H3=>∃a,x=.ref a/\((∃kvs i,H3 a=some (.dK kvs)/\y=.int i/\(valV kvs (Sum.inl i)).isSome=true/\D.nx σ (upd H3 a (.dK (dropK kvs (Sum.inl i)))))∨
 ∃(o:Obj) (xs:List mj) (g:Gh) (d:Dat) (b:Addr) (k:NestedKey),H3 a=some (iw a o)/\kW X.w a o xs/\aH X.K g H3 (xs.map fun x=>V.ref x.2.1) (xs.map fun x=>x.1.data)/\y=.ref b/\Rep X.K g H3 y d/\rN d=some k/\k.depth<=8/\(atKey xs k).isSome=true/\∀(o':Obj),kW X.w a o' (withoutH xs k)->D.nx σ (upd H3 a (iw a o')))
theorem aej(hu:X.A.units+64 < cLine)(ho:PE X o td)(hi:PE X i ty):PS X (.Delete [.Subscript o i tpos] pos) (amF X td ty):=by
 refine⟨fun pins s σ H D I h=>?_⟩
 refine wpAny_Delete (wpAny_deleteEach_cons (wpAny_delete_Subscript (thn (ho.run pins s σ H _ I h) fun u s1 ⟨x,H1,I1,rx,q1⟩=>thn (hi.run pins s1 σ H1 _ I1 q1) fun iv s2 ⟨y,H2,I2,ry,a,ex,q2⟩=>?_)))
 subst ex
 obtain rfl:u=Value.ref a:=rx
 rcases q2 with⟨kvs,j,h1,rfl,hl,q⟩|⟨ob,xs,g,d,b,k,h1,h2,h3,rfl,h4,h5,h6,hl,q⟩
 ·exact d_delItem (k:=Sum.inl j) I2 h1 ry hl fun s3 I3=>wpAny_deleteEach_nil ⟨σ,_,I3,q⟩
 ·obtain rfl:iv=Value.ref b:=ry
  obtain⟨p,hp⟩:=Option.isSome_iff_exists.mp hl
  refine wpAny_delItem_heap (knd:=nestedKind X.prog X.w) (k:=k) (hsz:=h2.len) (show X.A.in1.units+8 < cLine by show X.A.units+1+8 < cLine;omega) ⟨key_is I2 h4 h5 rfl,h6⟩ h2.sys (Eu I2 h1 h2 rfl h3) hp fun h' dd hs'=>?_
  obtain⟨o',es,ep,g1,g2,g3,g4,g5,g6⟩:=dd
  have nd:kW X.w a o' (withoutH xs k):=⟨h2.sys,g2,⟨es,ep,g3,g4⟩,g6,aqB (aqq _ _) h2.len,fun x hx=>h2.dep x (aqw.mp hx).1⟩
  exact wpAny_deleteEach_nil ⟨σ,_,d_write I2 (by rw[h1];exact True.intro) hs' ⟨o',g1⟩ (J8 g1),q o' nd⟩
end
theorem Og{α β:Type}(f:α->β)(c:α->Bool):∀l:List α,(((l.map f).zip l).filter fun p=>c p.2).map (·.1)=(l.filter c).map f
 |[]=>rfl
 |a::l=>by
  rw[aqd,aq3,aqU,aqU]
  cases c a
  ·exact Og f c l
  ·simp only[if_true,aqd,Og f c l]
theorem afh{K:ap9}{g:Gh}{H:Hp}(kk:NestedKey):∀{xs:List mj} {vs:List V} {kvs:List (Dat×Dat)},kvs.map (·.1)=xs.map (fun x=>x.1.data)->aH K g H (xs.map fun x=>V.ref x.2.1) (kvs.map (·.1))->Vals vs (xs.map (·.2.2))->aH K g H vs (kvs.map (·.2))->
  ∃vs',(kvs.filter fun p=>!PyData.eqv p.1 kk.data).map (·.1)=(withoutH xs kk).map (fun x=>x.1.data)/\aH K g H ((withoutH xs kk).map fun x=>V.ref x.2.1) ((kvs.filter fun p=>!PyData.eqv p.1 kk.data).map (·.1))/\Vals vs' ((withoutH xs kk).map (·.2.2))/\aH K g H vs' ((kvs.filter fun p=>!PyData.eqv p.1 kk.data).map (·.2))
 |[],_,[],_,_,.nil,_=>⟨[],rfl,.nil,.nil,.nil⟩
 |[],_,_::_,h,_,_,_=>by cases h
 |_::_,_,[],h,_,_,_=>by cases h
 |x::xs,_,q::qs,h1,.cons r1 t1,.cons w1 w2,.cons r2 t2=>by
  simp only[aqd,List.cons.injEq]at h1
  obtain⟨vs',i1,i2,i3,i4⟩:=afh kk h1.2 t1 w2 t2
  have hq:(!PyData.eqv q.1 kk.data)=decide (x.1≠kk):=by
   rw[h1.1,aae]
   by_cases hz:x.1=kk <;> simp[hz]
  unfold withoutH
  rw[aqU,aqU,hq]
  cases hb:decide (x.1≠kk) with
  |true=>exact⟨_::vs',by simp only[if_true,aqd,h1.1];exact congrArg _ i1,by simp only[if_true,aqd];exact .cons r1 i2,by simp only[if_true,aqd];exact .cons w1 i3,by simp only[if_true,aqd];exact .cons r2 i4⟩
  |false=>
   simp only[aqE,if_false]
   exact⟨vs',i1,i2,i3,i4⟩
theorem aiz{K:ap9}{g:Gh}{H:Hp}{α:Type}(c:α->Bool)(key:α->Dat)(dd:Dat->Bool):∀{vs:List V} {kvs:List (Dat×Dat)} {xs:List α},(∀x∈xs,c x=dd (key x))->kvs.map (·.1)=xs.map key->vs.length=xs.length->aH K g H vs (kvs.map (·.2))->
  (kvs.filter fun p=>dd p.1).map (·.1)=(xs.filter c).map key/\aH K g H (((vs.zip xs).filter fun p=>c p.2).map (·.1)) ((kvs.filter fun p=>dd p.1).map (·.2))
 |[],[],[],_,_,_,_=>⟨rfl,.nil⟩
 |[],[],_::_,_,h,_,_=>by cases h
 |[],_::_,_,_,_,_,h=>by cases h
 |_::_,[],_,_,_,_,h=>by cases h
 |_::_,_::_,[],_,h,_,_=>by cases h
 |u::us,q::qs,x::xs,hc,hk,hl,.cons h t=>by
  simp only[aqd,List.cons.injEq]at hk
  have hq:=hc x aqf
  rw[←hk.1]at hq
  obtain⟨i1,i2⟩:=aiz c key dd (fun y hy=>hc y (aqe _ hy)) hk.2 (aqT hl) t
  rw[aq3,aqU,aqU,aqU,hq]
  cases hb:dd q.1 with
  |true=>exact⟨by simp only[if_true,aqd,i1,hk.1],by simp only[if_true,aqd];exact .cons h i2⟩
  |false=>exact⟨by simpa using i1,by simpa using i2⟩
section
variable{X:Cx}{aj:aO}{W:WX}{o i:Expr}{f:Str}{pos tpos p1:Pos}{fo fk:QF}
theorem afU(co:jh X.K aj)(hw:aj.w=X.w)(hu:X.A.units+64 < cLine)(ho:QW aj X W o fo)(hb:baseOk o=true)(hk:QE aj X W i fk):SE aj X W false (.Delete [.Subscript (.Attribute o f p1) i tpos] pos) (Lh f fo fk):=by
 refine PS.weak (aej hu (pe_fld ho (lN hb)) hk) fun D σ H ⟨g,ρ,M,I,z⟩=>?_
 unfold Lh at z
 have k2:=Out.iK (cZ (σ:=σ) z)
 refine tW.go I (k2.mono (fun _ y=>y) fun x y H' c dd ex rx=>y H' _ c dd (Gr.ex ex) (I.ex ex) rx) fun od u H2 k3 e2 ru=>?_
 have I2:=I.ex e2
 split at k3
 ·next h i' b kvs hl=>
  obtain⟨a,C,dx,fs,l,rfl,m1,m2,ml,ha,rfl,c1,c2,c3,c4,c5,c6,l1,l2,l3⟩:=Gi co I2.wok ru hl
  refine⟨a,C,dx,fs,.ref l,rfl,c2,c4,c5,l1,?_⟩
  have k3:=Out.iK (cZ (σ:=σ) k3)
  refine tQ.go I2 (k3.mono (fun _ y=>y) fun x y H' c dd ex rx=>y H' _ c dd ((Gr.ex e2).trans (Gr.ex ex)) (I2.ex ex) rx) fun kd w H3 k4 e3 rk=>?_
  have I3:=I2.ex e3
  have l3':=l3.ex e3 I2.kd
  refine⟨l,rfl,?_⟩
  split at k4
  ·next hh hz=>
   obtain⟨ha2,hcase⟩:=T9 hh
   rcases hcase with⟨rfl,j,rfl⟩|⟨rfl,ds,kk,rfl,hkk,hdep⟩
   ·obtain⟨kv,q1,q2,q3⟩:=l3'
    cases rk
    rw[Ss q2]at ha2
    refine .inl ⟨kv,j,q1,rfl,ha2,?_⟩
    have hf:=fun(H':Hp)(r:aH X.K g H' (kv.map (·.2)) (kvs.map (·.2)))=>aiz (K:=X.K) (g:=g) (H:=H') (fun p:Key×V=>decide (p.1≠Sum.inl j)) (fun p=>keyD p.1) (fun z=>!PyData.eqv z (.int j)) (vs:=kv.map (·.2)) (kvs:=kvs) (xs:=kv) (fun x _=>by
     cases hx:x.1 with
     |inl z=>by_cases hz:z=j <;> simp[keyD,PyData.eqv,hz]
     |inr z=>simp[keyD,PyData.eqv]) q2 (by simp) r
    have ez:(((kv.map (·.2)).zip kv).filter fun p=>decide (p.2.1≠Sum.inl j)).map (·.1)=(dropK kv (Sum.inl j)).map (·.2):=Og (·.2) (fun p:Key×V=>decide (p.1≠Sum.inl j)) kv
    obtain⟨gr,I4⟩:=K8 (b:=false) (kvs':=kvs.filter fun p=>!PyData.eqv p.1 (.int j)) (o':=.dK (dropK kv (Sum.inl j))) I3 m1 m2 ha c1 (e3 _ _ c2) (c3.ex e3 I2.kd) c6 l1 l2 trivial fun gr=>⟨_,upd_same,(hf _ (q3.gr gr I3.kd)).1,by
     rw[←ez]
     exact(hf _ (q3.gr gr I3.kd)).2⟩
    exact k4 σ _ g ((Gr.ex (e2.trans e3)).trans gr) I4
   ·obtain⟨o',xs,vs,q1,q2,q3,q4,q5,q6⟩:=l3'
    have ek:=zL hkk
    rw[←ek,GZ q3]at ha2
    rw[hw]at q2
    have q4':=q4
    rw[q3]at q4'
    cases rk with
    | @tup bb us _ hs' ht=>
     refine .inr ⟨o',xs,g,_,bb,kk,q1,q2,q4',rfl,.tup hs' ht,hkk,hdep,ha2,fun o2 nd=>?_⟩
     obtain⟨gr,I4⟩:=K8 (b:=true) (kvs':=kvs.filter fun p=>!PyData.eqv p.1 (.tuple ds)) (o':=iw l o2) I3 m1 m2 ha c1 (e3 _ _ c2) (c3.ex e3 I2.kd) c6 l1 l2 trivial fun gr=>by
      obtain⟨vs',i1,i2,i3,i4⟩:=afh kk q3 (q4.gr gr I3.kd) q5 (q6.gr gr I3.kd)
      rw[ek]at i1 i2 i4
      exact⟨o2,withoutH xs kk,vs',upd_same,by rw[hw];exact nd,i1,i2,i3,i4⟩
     exact k4 σ _ g ((Gr.ex (e2.trans e3)).trans gr) I4
  ·exact False.elim k4
 ·exact False.elim k3
end
def ItD(l:Addr)(o:Obj)(xs:List mj):It:=
 ⟨fun i H=>H l=some (iw l o)/\i < xs.length,fun i H x H'=>H'=H/\∃e,xs[i]?=some e/\x=.ref e.2.1,fun i H=>H l=some (iw l o)/\xs.length<=i⟩
theorem pin_at{X:Cx}{pins:List (Addr×Obj)}{σ:L2.St}{H:Hp}{s:Shared}{l:Addr}{o:Obj}(I:L2.Inv X pins σ H s)(h:H l=some (iw l o)):s.heap.get? l=some o:=(show ObjOk X.prog X.w H s.heap l (iw l o) from I.hok l _ h).1
theorem kW.at{w:World}{l:Addr}{o:Obj}{xs:List mj}{es:Array DictEntry}{ep:Nat}(n:kW w l o xs)(h:o.data=.dict es ep):es.size=xs.length/\∀(i:Nat) (e:mj),xs[i]?=some e->∃en,es[i]?=some en/\en.key=.ref e.2.1:=by
 obtain⟨es',ep',h1,h2⟩:=n.ent
 rw[h]at h1
 cases h1
 refine⟨?_,fun i e hi=>⟨adI w e,?_,rfl⟩⟩
 ·have:=congrArg List.length h2
  simpa using this
 ·rw[←aqN,h2,aqm,hi]
  rfl
theorem alm{P:Program}{w:World}{K:ap9}{tg:Expr}{l:Addr}{o:Obj}{xs:List mj}{es:Array DictEntry}{ep:Nat}(it:Addr)(n:kW w l o xs)(hod:o.data=.dict es ep):Turn P w K tg (ItD l o xs) [it] it (fun i h=>h.IsKeyIter it l i xs.length ep) where
 mem:=aqg.mpr rfl
 obj:=fun i h st b hb=>by
  cases aqg.mp hb
  obtain⟨oi,e,c,dd⟩:=st
  refine⟨oi,e,fun v z=>?_⟩
  rw[dd]at z
  cases z
 keep:=fun i h h' st k=>st.at (k it (aqg.mpr rfl))
 item:=by
  intro X hP hw hK hc i pins s σ H E I hf st hg
  subst hP hw hK
  obtain⟨g0,g1,g2,g3,g4,g5⟩:=hf it (aqg.mpr rfl)
  obtain⟨sz,ent⟩:=n.at hod
  have hlt:i < xs.length:=hg.2
  have hx:xs[i]?=some xs[i]:=aqc hlt
  obtain⟨en,e1,e2⟩:=ent i _ hx
  refine next_key_item st (pin_at I hg.1) hod sz e1 ?_
  intro h' st' sb
  have J:L2.Inv X pins σ H { s with heap:=h' }:=I.turned (t':=s.toks) (fun b ob hb e=>(sb.2 b hb).trans e) g0 g1 g3 g4 g5
  obtain⟨oi,a1,a2,a3⟩:=id st'
  exact⟨en.key,rfl,go_of (s:={ s with heap:=h' }) a1 a2 a3 (by decide) ⟨.ref xs[i].2.1,H,J,e2,⟨rfl,_,hx,rfl⟩,st',fun b hb=>(hf b hb).1⟩⟩
 done:=by
  intro X hP hw hK hc i pins s σ H E I hf st hg
  subst hP hw hK
  obtain⟨g0,g1,g2,g3,g4,g5⟩:=hf it (aqg.mpr rfl)
  exact next_key_end (I.ok.hd hc) st (pin_at I hg.1) hod (n.at hod).1 hg.2 fun h' eb=>⟨rfl,I.turned (t':=s.toks) (fun b ob hb e=>eb b ob hb e) g0 g1 g3 g4 g5⟩
 self:=fun A i s Q E st h=>by
  refine wpAny_pyIter_slot st.typeIs PySem.F.slot_dict_keyiterator_iter (wpAny_call_entry PySem.F.slot_dict_keyiterator_iter st.typeIs PySem.F.entry_dict_keyiterator_iter ?_ (PySem.F.args_dict_keyiterator_iter_1 _))
  exact wpAny_pure ⟨_,rfl,"dict_keyiterator",_,st.typeIs,PySem.F.slot_dict_keyiterator_next.lookup,h⟩
def alY(X:Cx)(td:TE):TI:=fun σ H R=>td σ H fun x H1=>∃l o xs,x=.ref l/\H1 l=some (iw l o)/\kW X.w l o xs/\R (ItD l o xs) H1
theorem ahU{X:Cx}{tg e:Expr}{td:TE}(he:PE X e td):PI X tg e (alY X td):=by
 constructor
 intro pins s σ H R I h
 refine thn (he.run pins s σ H _ I h) ?_
 rintro u s1 ⟨x,H1,I1,rx,l,o,xs,rfl,hl,n,q⟩
 obtain rfl:u=Value.ref l:=rx
 obtain⟨es,ep,hd,_⟩:=n.ent
 refine iter_keys n.sys (pin_at I1 hl) n.ex hd (pi_one (tk:=s1.toks) I1 _ (alm _ n hd) ⟨_,Heap.get?_push_size _ rfl,rfl,?_⟩ q)
 rw[(n.at hd).1] <;> rfl
theorem ahn{K:ap9}{aj:aO}{l:Addr}{o:Obj}{xs:List mj}{ks:List Dat}:IW K (ItD l o xs) (fun g H=>H l=some (iw l o)/\aH K g H (xs.map fun x=>V.ref x.2.1) ks) ks where
 go:=fun g i H c hi=>⟨c.1,by have:=c.2.length;simp at this;omega⟩
 yld:=fun g i H x H' d k c e y=>by
  obtain⟨rfl,en,h1,rfl⟩:=y
  obtain⟨v,h2,h3⟩:=c.2.get e
  rw[aqm,h1]at h2
  cases h2
  exact⟨Ex.refl _,h3⟩
 stop:=fun g i H c e=>⟨c.1,by have:=c.2.length;simp at this;omega⟩
 ex:=fun g H H' k c e=>⟨e _ _ c.1,c.2.ex e k⟩
 add:=fun g g' H H' k c r e=>⟨e _ _ c.1,c.2.gr r k⟩
def Bp(f:Str)(o:QF):IF:=fun M ρ=>(o M ρ).bind fun od=>match yg M f od with
 |some (_,_,true,kvs)=>.ok (kvs.map (·.1))
 |_=>.bad
def Bx(f:Str)(o:QF):QF:=fun M ρ=>(o M ρ).bind fun od=>match yg M f od with
 |some (_,_,_,kvs)=>.ok (.list (kvs.map (·.1)))
 |none=>.bad
section
variable{X:Cx}{aj:aO}{W:WX}{o tg:Expr}{f:Str}{pos p p1:Pos}{fo:QF}
theorem ae4(co:jh X.K aj)(hw:aj.w=X.w)(ho:QW aj X W o fo)(hb:baseOk o=true):QI aj X W false tg (.Attribute o f p1) (Bp f fo):=by
 have h0:=ahU (tg:=tg) (pe_fld (X:=X) (pos:=p1) (f:=f) ho (lN hb))
 refine⟨fun pins s σ H R I h=>h0.run pins s σ H R I ?_⟩
 obtain⟨g,ρ,M,J,h⟩:=h
 unfold Bp at h
 refine tW.go J h.bnd fun od u H1 k2 e1 ru=>?_
 have J1:=J.ex e1
 split at k2
 ·next h i kvs hl=>
  obtain⟨a,C,dx,fs,l,rfl,m1,m2,ml,ha,rfl,c1,c2,c3,c4,c5,c6,l1,l2,o',xs,vs,q1,q2,q3,q4,q5,q6⟩:=Gi co J1.wok ru hl
  rw[hw]at q2
  exact⟨a,C,dx,fs,.ref l,rfl,c2,c4,c5,l1,l,o',xs,rfl,q1,q2,k2 _ _ H1 e1 (ahn (aj:=aj)) ⟨q1,q4⟩ fun z=>nomatch z⟩
 ·exact False.elim k2
end
theorem aeF{P:Program}{w:World}{A:Around}{l I:Addr}{o:Obj}{xs:List mj}{es:Array DictEntry}{ep:Nat}(hh:A.handled=none)(hne:l≠I)(n:kW w l o xs)(hd:o.data=.dict es ep):Walks P w A I [I,l] [I] xs.length (fun i v=>∃e,xs[i]?=some e/\v=Value.ref e.2.1) (fun i h=>h.IsKeyIter I l i xs.length ep/\h.get? l=some o) where
 sub:=fun b hb=>by simp at hb;simp[hb]
 frame:=fun i h h' st k=>⟨st.1.at (k I (by simp)),k l (by simp) o st.2⟩
 item:=fun i s Q E hi st hQ=>by
  obtain⟨sz,ent⟩:=n.at hd
  have hx:xs[i]?=some xs[i]:=aqc hi
  obtain⟨en,e1,e2⟩:=ent i _ hx
  refine next_key_item st.1 st.2 hd sz e1 ?_
  intro h' st' sb
  exact hQ en.key h' s.toks ⟨_,hx,e2⟩ ⟨st',(sb.2 l hne).trans st.2⟩ fun b ob hb e=>(sb.2 b fun z=>hb (by simp[z])).trans e
 done:=fun s Q E st hQ=>next_key_end hh st.1 st.2 hd (n.at hd).1 (aqz _) fun h' eb=>hQ h' s.toks fun b ob hb e=>eb b ob (fun z=>hb (by simp[z])) e
 self:=fun i s Q E st hQ=>wpAny_pyIter_keyiter st.1 hQ
theorem ag1{P:Program}{w:World}{l:Addr}{o:Obj}{xs:List mj}(n:kW w l o xs):PySem.W.KdlSrc P w "dict" l l xs.length (fun i v=>∃e,xs[i]?=some e/\v=Value.ref e.2.1) (fun h=>h.get? l=some o) where
 type:=fun s e=>⟨o,e,n.ex.1⟩
 there:=fun h e=>⟨Heap.lt_size e,Heap.lt_size e⟩
 keep:=fun h h' e k=>k l (.inl rfl) o e
 notList:=by decide
 notTuple:=by decide
 hint:=fun A E s Q e hq=>PySem.W.kdl_hint_dict ⟨o,e,n.ex.1⟩ hq
 iter:=fun A s hh e=>by
  obtain⟨es,ep,hd,_⟩:=n.ent
  refine⟨_,_,fun E Q hq=>iter_keys n.sys e n.ex hd hq,aeF hh (aqG (Heap.lt_size e)) n hd,⟨_,Heap.get?_push_size _ rfl,rfl,?_⟩,Heap.get?_push_of_some _ e⟩
  rw[(n.at hd).1] <;> rfl
def acu(X:Cx):List V->Hp->VK->Prop:=fun xs H Q=>(∃p kvs,xs=[.ref p]/\H p=some (.dK kvs)/\∀q,H q=none->Q (.ref q) (upd H q (.lst (kvs.map fun kv=>kV kv.1))))∨∃p o es,xs=[.ref p]/\H p=some (iw p o)/\kW X.w p o es/\∀q,H q=none->Q (.ref q) (upd H q (.lst (es.map fun e=>V.ref e.2.1)))
theorem abg{X:Cx}(hc:X.calm=true):CallR X (.type "list") (acu X):=by
 intro pins s σ H xs us Q I r h
 rcases h with h|⟨p,o,es,rfl,hp,n,q⟩
 ·exact call_list_dK hc pins s σ H xs us Q I r h
 ·obtain⟨u,rfl,rx⟩:=vals1 r
  obtain rfl:u=Value.ref p:=rx
  refine PySem.W.kdl_call (ag1 n) (I.ok.hd hc) (pin_at I hp) n.len ?_
  intro h' tk acc c' keep hS hacc
  have el:acc.toList.length=es.length:=by
   rw[aqJ]
   exact hacc.1
  refine⟨.ref s.heap.objs.size,upd H s.heap.objs.size (.lst (es.map fun e=>V.ref e.2.1)),I.laid keep (aqz _) (show ObjOk X.prog X.w _ _ _ (.lst (es.map fun e=>V.ref e.2.1)) from⟨by rw[aqj];exact n.len,acc.toList,c',?_,?_⟩),rfl,q _ (I.hok.fresh (aqz _))⟩
  ·refine vals_of_at (by rw[aqj,el]) fun j x w h1 h2=>?_
   obtain⟨e,he,rfl⟩:=hacc.2 j w (by rw[←aqN];exact h2)
   rw[aqm,he]at h1
   cases h1
   rfl
  ·rw[Array.toArray_toList]
   exact hS
section
variable{X:Cx}{aj:aO}{W:WX}{o e:Expr}{f:Str}{pos p p1 pos':Pos}{fo:QF}
theorem Xo{K:ap9}{g:Gh}{H:Hp}:∀{kv:List (Key×V)} {kvs:List (Dat×Dat)},kvs.map (·.1)=kv.map (fun p=>keyD p.1)->aH K g H (kv.map fun p=>kV p.1) (kvs.map (·.1))
 |[],[],_=>.nil
 |[],_::_,h=>by cases h
 |_::_,[],h=>by cases h
 |a::kv,b::kvs,h=>by
  simp only[aqd,List.cons.injEq]at h
  rw[aqd,aqd,h.1]
  refine .cons ?_ (Xo h.2)
  cases a.1 with
  |inl i=>exact .int i
  |inr x=>exact .str x
theorem aen(co:jh X.K aj)(hw:aj.w=X.w)(σ:L2.St)(H:Hp)(Q:VK)(h:tQ X.K aj W (Bx f fo) σ H Q):tFld X.K (tW X.K aj W fo) f σ H fun x H1=>acu X [x] H1 Q:=by
 obtain⟨g,ρ,M,J,h⟩:=h
 unfold Bx at h
 refine tW.go J h.bnd fun od u H1 k2 e1 ru=>?_
 have J1:=J.ex e1
 split at k2
 ·next h i b kvs hl=>
  obtain⟨a,C,dx,fs,l,rfl,m1,m2,ml,ha,rfl,c1,c2,c3,c4,c5,c6,l1,l2,l3⟩:=Gi co J1.wok ru hl
  refine⟨a,C,dx,fs,.ref l,rfl,c2,c4,c5,l1,?_⟩
  cases b with
  |false=>
   obtain⟨kv,q1,q2,q3⟩:=l3
   exact .inl ⟨l,kv,rfl,q1,fun q nq=>k2 (.ref q) _ (e1.trans (Ex.new nq)) (.lst (.inl ⟨.inl upd_same,J1.kd.fresh nq⟩) (Xo q2))⟩
  |true=>
   obtain⟨o',xs,vs,q1,q2,q3,q4,q5,q6⟩:=l3
   rw[hw]at q2
   exact .inr ⟨l,o',xs,rfl,q1,q2,fun q nq=>k2 (.ref q) _ (e1.trans (Ex.new nq)) (.lst (.inl ⟨.inl upd_same,J1.kd.fresh nq⟩) (q4.ex (Ex.new nq) J1.kd))⟩
 ·exact False.elim k2
theorem aeK(co:jh X.K aj)(hw:aj.w=X.w)(hc:X.calm=true)(hg:Gl X "list")(hm:X.mg "list"=none)(ho:QW aj X W o fo)(hb:baseOk o=true):QE aj X W (.Call (.Name "list" p) [.Attribute o f p1] [] pos) (Bx f fo):=by
 have h1:=pa_cons (pe_fld (X:=X) (pos:=p1) (f:=f) ho (lN hb)) pa_nil (cO rfl [])
 have hv:BV (.type "list") "list":=⟨by decide +kernel,by decide,by decide⟩
 refine PE.weak (pe_callTy (pos:=pos) (p:=p) (abg hc) hg hm hv.1 h1 hv.2.1 hv.2.2 (cO rfl []) (by with_unfolding_all rfl)) fun σ H Q h=>?_
 exact aen co hw σ H Q h
def Lj(ft:Ft)(o:QF)(f:Str)(b:Bool):SF:=fun M ρ=>((o (M++[⟨"",[]⟩]) ρ).at (M++[⟨"",[]⟩])).then ρ fun od M2=>match jO M2 od with
 |some (h,i)=>match ft.has i.cls f&&decide (i.fs.length < 100) with
  |true=>.next ρ (M2.set h (i.put f (.dic b [])))
  |false=>.bad
 |none=>.bad
def akT(X:Cx)(b:Bool):TE:=fun _ H Q=>∀p,H p=none->match b with
 |false=>Q (.ref p) (upd H p (.dK []))
 |true=>∀o,kW X.w p o []->Q (.ref p) (upd H p (iw p o))
theorem agg{b:Bool}:PE X (.Dict [] [] pos) (akT X b):=by
 cases b with
 |false=>exact PE.weak pe_dnewK fun σ H Q h p np=>h p np
 |true=>
  refine⟨fun pins s σ H Q I h=>wpAny_Dict_empty ?_⟩
  have hz:(s.heap.push { cls:=.type "dict",data:=.dict #[] }).get? s.heap.objs.size=some { cls:=.type "dict",data:=.dict #[] }:=Heap.get?_push_size _ rfl
  have hs:(s.heap.objs.size==sysModules)=false:=beq_eq_false_iff_ne.mpr (Ne.symm (aqG I.big))
  exact⟨.ref s.heap.objs.size,_,I.laid (a:=s.heap.objs.size) (o:=iw s.heap.objs.size _) (t':=s.toks) (fun _ _ q=>Heap.get?_push_of_some _ q) (aqz _) (J8 hz),rfl,h _ (I.hok.fresh (aqz _)) _ ⟨hs,⟨rfl,rfl,rfl⟩,⟨#[],0,rfl,rfl⟩,ari,aqM _,fun x hx=>absurd hx aqI⟩⟩
theorem agI{ft:Ft}{b:Bool}(co:jh X.K aj)(fk:JZ ft aj)(hw:aj.w=X.w)(ho:QW aj X W o fo)(hs:swapsWith (.Dict [] [] p) (some (.Attribute o f pos')) pos.line X.env=pure false):SE aj X W false (.Assign [.Attribute o f pos'] (.Dict [] [] p) pos) (Lj ft fo f b):=by
 refine PS.weak (ps_fld ho (agg (b:=b)) hs) fun D σ H ⟨g,ρ,M,I,z⟩=>?_
 have core:∀(l:Addr) (ob:HO),H l=none->Hw ob->(∀(g':Gh) (H':Hp),H' l=some ob->ji X.K aj g' H' l b [])->tW X.K aj W fo σ (upd H l ob) (fun x H2=>∃a C dx fs,x=.ref a/\H2 a=some (.ins C dx fs)/\Cls X.K C/\NoAttr X.K C f/\fs.length < 1000/\D.nx σ (upd H2 a (.ins C dx (putF f (.ref l) fs)))):=by
  intro l ob nl mu at'
  obtain⟨gr,I1,tb,ow,mm⟩:=JX I nl (Ex.new nl) upd_same mu
  unfold Lj at z
  have k1:=Out.iK (cZ (σ:=σ) z)
  refine tW.go I1 (k1.mono (fun _ y=>y) fun x y H' c dd ex rx=>y H' _ c dd (gr.trans (Gr.ex ex)) (I1.ex ex) rx) fun od u H2 k2 e2 ru=>?_
  have I2:=I1.ex e2
  split at k2
  ·next h i hi=>
   split at k2
   ·next hb=>
    rw[aqa]at hb
    obtain⟨a,C,dx,fs,_,m1,m2,ha,rfl,c1,c2,c3,c4,c5,c6⟩:=Fx co fk I2.wok ru hi hb.1
    have nla:l≠a:=fun z=>by
     subst z
     cases I2.wok.inj _ _ _ ha tb
     rw[mm]at m1
     cases m1
     exact m2 rfl
    refine⟨a,C,dx,fs,rfl,c2,c4,c5,?_,?_⟩
    ·have:=of_decide_eq_true hb.2
     rw[c3.len]
     omega
    ·have ch:=T7 (f:=f) (C:=C) (dx:=dx) (fs':=putF f (.ref l) fs) I2.kd I2.wok ha m1 m2 tb mm ow
     have w':=I2.wok.chg I2.kd ch ha m1 m2 c6 c1 c3 upd_same (v:=.ref l) (fl:=.dic b []) ⟨l,rfl,if_pos rfl,at' _ _ (by rw[upd_ne nla];exact e2 _ _ upd_same)⟩
     exact k2 σ _ _ ((gr.trans (Gr.ex e2)).trans ch.gc.gr) (I2.chg ch w')
   ·exact False.elim k2
  ·exact False.elim k2
 intro l nl
 cases b with
 |false=>exact core l _ nl trivial fun g' H' h=>⟨[],h,rfl,.nil⟩
 |true=>exact fun ob nd=>core l _ nl trivial fun g' H' h=>⟨ob,[],[],h,by rw[hw];exact nd,rfl,.nil,.nil,.nil⟩
end
def aiY(X:Cx)(D:Addr)(vs:List Nat)(g:TG)(tk:TE)(σ:L2.St)(Nx:Hp->Prop)(x:V)(H:Hp):Prop:=
 g x (L2.wipe σ vs) H fun σ2 H2=>L2.wipe σ2 vs=L2.wipe σ vs/\tk σ2 H2 fun y H4=>∃(o:Obj) (xs:List mj) (gg:Gh) (d:Dat) (b:Addr) (k:NestedKey),y=.ref b/\H4 D=some (iw D o)/\kW X.w D o xs/\aH X.K gg H4 (xs.map fun x=>V.ref x.2.1) (xs.map fun x=>x.1.data)/\Rep X.K gg H4 y d/\rN d=some k/\k.depth<=8/\xs.length < sizeLine/\
  ∀o',kW X.w D o' (storedH xs k b (.bool true))->Nx (upd H4 D (iw D o'))
def aiT(X:Cx)(wi:TI)(g:TG)(tk:TE)(vs:List Nat):TE:=fun σ H Q=>wi σ H fun J H1=>∀D,H1 D=none->∃W:Nat->Nat->Hp->Prop,(∃m,∀o,kW X.w D o []->W 0 m (upd H1 D (iw D o)))/\
 ∀i m H,W i m H->(J.stop i H/\Q (.ref D) H)∨(J.go i H/\∃Nx:Hp->Prop,(∀H',Nx H'->∃m',m' < m/\W (i+1) m' H')/\∀x H',J.yld i H x H'->aiY X D vs g tk σ Nx x H')
section
variable{X:Cx}
theorem aeu{pins:List (Addr×Obj)}{σ:L2.St}{H:Hp}{s:Shared}{E:Value->Shared->Prop}{D b:Addr}{o:Obj}{xs:List mj}{gg:Gh}{d:Dat}{k:NestedKey}{u:Value}{Q:Unit->Shared->Prop}(hu:X.A.units+64 < cLine)(I:L2.Inv X pins σ H s)(hD:H D=some (iw D o))(n:kW X.w D o xs)(hr:aH X.K gg H (xs.map fun x=>V.ref x.2.1) (xs.map fun x=>x.1.data))(hk:Rep X.K gg H (.ref b) d)(hd:rN d=some k)(h8:k.depth<=8)(hz:xs.length < sizeLine)(ru:RelV (.bl true) u)
  (q:∀s' o',kW X.w D o' (storedH xs k b (.bool true))->L2.Inv X pins σ (upd H D (iw D o')) s'->Q () s'):wpAny (model X.prog X.w) X.A (dictSet D (.ref b) u) Q E s:=by
 obtain rfl:u=.bool true:=ru
 refine wpAny_dictSet_heap (knd:=nestedKind X.prog X.w) (k:=k) (hsz:=Nat.le_of_lt hz) (show X.A.units+8 < cLine by omega) ⟨key_is I hk hd rfl,h8⟩ (Eu I hD n rfl hr) ?_
 intro h' dd hs'
 obtain⟨o',es,ep,g1,g2,g3,g4,g5,g6⟩:=dd
 have nd:kW X.w D o' (storedH xs k b (.bool true)):=⟨n.sys,g2,⟨es,ep,g3,g4⟩,g6,by have:=QJ (xs:=xs) (k:=k) (b:=b) (u:=.bool true);omega,O4 n.dep h8⟩
 exact q _ o' nd (d_write I (by rw[hD];exact True.intro) hs' ⟨o',g1⟩ (J8 g1))
theorem ajn{kx tg iter:Expr}{scope:Scope}{own:List (PySem.Str×Nat)}{pos vp:Pos}{vj:Nat}{wi:TI}{g:TG}{tk:TE}(hc:X.calm=true)(hN:X.N.Nodup)(hu:X.A.units+64 < cLine)(hi:PI X tg iter wi)(ok:BlkOk X.N X.env.scope scope own)
  (hg:∀(t:Shared) (G:Hp) (C:Addr) (cl:List (PySem.Str×Addr)) (fp:List Addr),PG (X.blk t G scope (compEnvC scope cl C X.env) fp) tg g)
  (hk:∀(t:Shared) (G:Hp) (C:Addr) (cl:List (PySem.Str×Addr)) (fp:List Addr),PE (X.blk t G scope (compEnvC scope cl C X.env) fp) kx tk) (hs:∀x,foldedSetIterable iter X.env x=pure x) :
  PE X (.DictComp kx (.Constant (.bool true) vj vp) [⟨tg,iter,[],0⟩] scope pos) (aiT X wi g tk (own.map (·.2))):=by
 refine⟨fun pins s σ H Q I h=>?_⟩
 rw[arm_eval_DictComp]
 have cells:∀y∈scope.names,y.2=.free->∃c,X.env.cells.lookup y.1=some c:=fun y hy e=>(ok.free y hy e).elim (fun k=>I.ok.has _ (.inl k)) (fun k=>I.ok.has _ (.inr k))
 refine wpAny_comprehension_free rfl hs (closure_ok cells) ok.kind (fun y hy e=>by rw[ok.uniq y hy,e]) (thn (hi.run pins s σ H _ I h) fun _ _ hx=>thn hx fun itv t0 h0=>?_)
 obtain⟨it,fp,tn,J,G0,rfl,I0,T,st0,f0,q⟩:=h0
 refine wpAny_newObj_type (newEnv_comp ?_)
 -- the new dict,at D
 obtain⟨D,hD⟩:∃D,D=t0.heap.objs.size:=⟨_,rfl⟩
 rw[←hD]
 obtain⟨W,⟨m0,w00⟩,turn⟩:=q D (I0.hok.fresh (Nat.le_of_eq hD.symm))
 obtain⟨ob,hob⟩:∃ob:Obj,ob={ cls:=.type "dict",data:=.dict #[] }:=⟨_,rfl⟩
 have nd0:kW X.w D ob []:=by
  rw[hob]
  exact⟨by rw[hD];exact beq_eq_false_iff_ne.mpr (Ne.symm (aqG I0.big)),⟨rfl,rfl,rfl⟩,⟨#[],0,rfl,rfl⟩,ari,aqM _,fun x hx=>absurd hx aqI⟩
 have w0:=w00 ob nd0
 rw[←hob]
 obtain⟨t1,ht1⟩:∃t1:Shared,t1={ t0 with heap:=t0.heap.push ob }:=⟨_,rfl⟩
 obtain⟨G1,hG1⟩:∃G1,G1=upd G0 D (iw D ob):=⟨_,rfl⟩
 rw[←hG1]at w0
 have grow:∀b o,t0.heap.get? b=some o->t1.heap.get? b=some o:=fun b o e=>by rw[ht1];exact Heap.get?_push_of_some _ e
 have I1:L2.Inv X pins σ G1 t1:=by
  rw[ht1,hG1]
  refine I0.laid (t':=t0.toks) (fun b o e=>Heap.get?_push_of_some _ e) (Nat.le_of_eq hD.symm) (J8 ?_)
  rw[hD]
  exact Heap.get?_push_size _ (by rw[hob];rfl)
 have small:∀b∈fp,b < t0.heap.objs.size:=fun b hb=>by
  obtain⟨o,e,_⟩:=T.obj _ _ st0 b hb
  exact Heap.lt_size e
 have f1:∀b∈fp,FpOk X pins G1 b/\b < t1.heap.objs.size:=fun b hb=>by
  have hlt:=small b hb
  refine⟨⟨?_,(f0 b hb).2⟩,by rw[ht1];show b < (t0.heap.push ob).objs.size;rw[Heap.size_push];exact aq5 hlt⟩
  rw[hG1,upd_ne (by rw[hD];exact aqG hlt)]
  exact(f0 b hb).1
 have st1:tn 0 t1.heap:=T.keep _ _ _ st0 fun b _ o e=>grow b o e
 have I2:=block_start I1 ok hN f1
 have pg:=hg t1 G1 t1.heap.objs.size (cellsFrom (t1.heap.objs.size+1) scope.names (cloFrom X.env.cells scope.names [])) fp
 have pk:=hk t1 G1 t1.heap.objs.size (cellsFrom (t1.heap.objs.size+1) scope.names (cloFrom X.env.cells scope.names [])) fp
 have none1:∀b∈fp,G1 b=none:=fun b hb=>(f1 b hb).1.1
 rw[show({ t0 with heap:=t0.heap.push ob }:Shared)=t1 from ht1.symm]
 obtain⟨ce,hce⟩:∃ce,ce=compEnvC scope (cellsFrom (t1.heap.objs.size+1) scope.names (cloFrom X.env.cells scope.names [])) t1.heap.objs.size X.env:=⟨_,rfl⟩
 rw[←hce]at I2 pg pk
 have cL:ce.locals=t1.heap.objs.size:=by rw[hce];rfl
 obtain⟨t2,ht2⟩:∃t2:Shared,t2={ t1 with heap:=pushCells (t1.heap.push { cls:=.type "dict",data:=.dict #[] }) scope.names }:=⟨_,rfl⟩
 rw[←ht2]at I2
 have st2:tn 0 t2.heap:=T.keep _ _ _ st1 fun b _ o e=>by rw[ht2];exact pushCells_keeps _ _ _ _ (Heap.get?_push_of_some _ e)
 have still:∀{σ':L2.St} {G':Hp} {t':Shared},L2.Inv (X.blk t1 G1 scope ce fp) [] σ' G' t'->(∀b∈fp,G' b=none)->∀b∈fp,FpOk (X.blk t1 G1 scope ce fp) [] G' b:=fun I' hn b hb=>
  ⟨hn b hb,(I'.ok.exf b hb).1,I'.ok.exfs b hb,.inl hb,fun x c e=>(I'.ok.exf b hb).2 x c e,fun p hp=>absurd (show p∈([]:List (Addr×Obj))++[] from hp) (by simp)⟩
 have pt:PTs (X.blk t1 G1 scope ce fp) [] tYes:=pts_nil
 have pv:PE (X.blk t1 G1 scope ce fp) (.Constant (.bool true) vj vp) (tC (.bl true)):=pe_bl
 have loop:codeAny (model X.prog X.w) X.A (.compLoop (.DictComp kx (.Constant (.bool true) vj vp) [⟨tg,iter,[],0⟩] scope pos) 0 (.ref it) (.ref D) ce) (compPost (model X.prog X.w) X.A X.xe none (EP X pins σ Q) (.ref D) t1.heap.objs.size) t2:=by
  refine compLoop_anyD (fun n t'=>∃i G',L2.Inv (X.blk t1 G1 scope ce fp) [] (L2.wipe σ (own.map (·.2))) G' t'/\tn i t'.heap/\(∀b∈fp,G' b=none)/\W i n G') ?_ m0 ⟨0,G1,I2,st2,none1,w0⟩
  rintro n t3 ⟨i,G3,I3,st3,n3,w3⟩
  rcases turn i n G3 w3 with⟨stop,fin⟩|⟨go,Nx,hNx,step⟩
  ·refine thnF (T.done (X.blk t1 G1 scope ce fp) rfl rfl rfl hc i [] t3 _ G3 (fun _ _=>False) I3 (still I3 n3) st3 stop) fun r t4 ⟨hr,I4⟩=>?_
   subst hr
   have I5:L2.Inv X pins σ G3 t4:=I1.call' (ch:=fp) I4.os I4.base I4.hok I4.bare fun b hb=>⟨(f1 b hb).1.2.2.2.1,(f1 b hb).1.2.1,(f1 b hb).1.2.2.2.2.1,(f1 b hb).1.2.2.2.2.2⟩
   have nC:G3 t1.heap.objs.size=none:=by rw[←cL];exact I4.free
   obtain⟨m,hn,_⟩:=I4.loc
   have hn':t4.heap.Ns t1.heap.objs.size m:=by rw[←cL];exact hn
   obtain⟨a0,a1,_,a3,a4,a5⟩:=I1.fpOk (aqz _) nC
   exact⟨m,hn',fun h'' sb=>⟨.ref D,G3,I5.turned (t':=t4.toks) (fun b o hb e=>(sb.2 b hb).trans e) a0 a1 a3 a4 a5,rfl,fin⟩⟩
  ·refine thnF (T.item (X.blk t1 G1 scope ce fp) rfl rfl rfl hc i [] t3 _ G3 (fun _ _=>False) I3 (still I3 n3) st3 go) fun r t4 ⟨u,hr,h4⟩=>?_
   subst hr
   refine thnF h4 fun _ t5 ⟨x,G5,I5,r5,y5,st5,n5⟩=>?_
   refine thnF (pg.run _ t5 _ G5 x u _ (I5.pinned (still I5 n5) (T.obj _ _ st5)) r5 (step x G5 y5)) fun _ t6 ⟨σ6,G6,I6,hw6,q6⟩=>?_
   refine thnF (pt.run _ t6 σ6 G6 (fun b G=>b=true/\G=G6) I6 ⟨rfl,rfl⟩) fun b t7 ⟨G7,I7,hb7,hG7⟩=>?_
   subst hb7 hG7
   have over:∀{t':Shared} {G':Hp},L2.Inv (X.blk t1 G1 scope ce fp) ([]++pinsAt fp t5.heap) σ6 G' t'->Nx G'->∃m,m < n/\∃i G',L2.Inv (X.blk t1 G1 scope ce fp) [] (L2.wipe σ (own.map (·.2))) G' t'/\tn i t'.heap/\(∀b∈fp,G' b=none)/\W i m G':=fun {t' G'} I' nx=>by
    obtain⟨m',hm,w'⟩:=hNx G' nx
    have pin:∀b∈fp,∀o,t5.heap.get? b=some o->t'.heap.get? b=some o/\G' b=none:=fun b hb o e=>
     let z:=I'.pin (b,o) (aq4 _ (aq4 _ (mem_pinsAt hb e)))
     ⟨z.1,z.2.1⟩
    refine⟨m',hm,i+1,G',(I'.unpinned (pins:=[])).weak (by rw[←hw6,wipe_length]) (fun j v e=>?_),T.keep _ _ _ st5 fun b hb o e=>(pin b hb o e).1,fun b hb=>?_,w'⟩
    ·rw[←hw6]at e
     exact(wipe_some e).1
    ·obtain⟨o,e,_⟩:=T.obj _ _ st5 b hb
     exact(pin b hb o e).2
   simp only[if_true]
   refine thnF (pk.run _ t7 σ6 _ _ I7 q6) fun z t8 ⟨yv,G8,I8,r8,o8,xs8,g8,d8,b8,k8,ey,hD8,n8,hr8,hk8,hd8,h88,hz8,nx⟩=>?_
   subst ey
   obtain rfl:z=Value.ref b8:=r8
   refine thnF (pv.run _ t8 σ6 G8 (fun v G=>v=.bl true/\G=G8) I8 ⟨rfl,rfl⟩) fun z2 t9 ⟨y9,G9,I9,r9,hv9,hG9⟩=>?_
   subst hv9 hG9
   exact aeu (X:=X.blk t1 G1 scope ce fp) hu I9 hD8 n8 hr8 hk8 hd8 h88 hz8 r9 fun s' o' nd I10=>over I10 (nx o' nd)
 have done:=codeAny_compStart_dict loop (T.self X.A 0 _ _ _ st2 loop)
 rw[hce,ht2]at done
 subst hob
 exact done
end
def Dm(tg:fB)(tk:QF)(M:Mo)(ρ:Env):List Dat->List (Dat×Dat)->Out (List (Dat×Dat))
 |[],acc=>.ok acc
 |d::ds,acc=>match tg d ρ with
  |none=>.bad
  |some ρ1=>(w6 (tk M ρ1)).bind fun kd=>(dhas true acc kd).bind fun r=>Dm tg tk M ρ ds (match r with
   |true=>acc
   |false=>acc++[(kd,.bool true)])
def qDc(it:IF)(tg:fB)(vs:List Nat)(tk:QF):Mo->Env->Out (List (Dat×Dat)):=fun M ρ=>(it M ρ).bind fun ds=>Out.when (decide (ds.length<=50000)) (Dm tg tk M (bY ρ vs) ds [])
def ahV(K:ap9)(aj:aO)(W:WX)(f:Mo->Env->Out (List (Dat×Dat))):TE:=fun σ H Q=>∃g ρ M,SInv K aj σ H g ρ M/\(f M ρ).sat (fun kvs=>∀l o H',H l=none->Ex H H'->H' l=some (iw l o)->ji K aj (g.add l) H' l true kvs->Q (.ref l) H') (qF K aj W g H σ)
section
variable{X:Cx}{aj:aO}{W:WX}
theorem Vd{tg:fB}{tk:QF}{M:Mo}{ρ:Env}:∀{ds:List Dat} {acc:List (Dat×Dat)} {x:dI},Dm tg tk M ρ ds acc≠.exc x
 |[],_,_,h=>nomatch h
 |d::ds,acc,x,h=>by
  rw[Dm]at h
  split at h
  ·cases h
  ·next ρ1 e=>
   cases h1:tk M ρ1 with
   |bad=>rw[h1]at h;cases h
   |exc y=>rw[h1]at h;cases h
   |ok kd=>
    rw[h1]at h
    have h:((dhas true acc kd).bind fun r=>Dm tg tk M ρ ds (match r with
     |true=>acc
     |false=>acc++[(kd,.bool true)]))=.exc x:=h
    cases h2:dhas true acc kd with
    |bad=>rw[h2]at h;cases h
    |exc y=>
     unfold dhas at h2
     split at h2
     ·cases h2
     ·split at h2
      ·split at h2 <;> cases h2
      ·cases h2
     ·cases h2
    |ok r=>
     rw[h2]at h
     exact Vd h
theorem ae7{xs:List mj}{k:NestedKey}(h:∀x∈xs,x.2.2=.bool true):xs.map (putAt k (.bool true))=xs:=by
 have:∀x∈xs,putAt k (.bool true) x=x:=fun x hx=>by
  unfold putAt
  split
  ·obtain⟨a,b,c⟩:=x
   have:c=.bool true:=h _ hx
   rw[this]
  ·rfl
 calc xs.map (putAt k (.bool true))=xs.map id:=List.map_congr_left this
  _=xs:=List.map_id xs
theorem aaH:∀{xs:List mj},(∀x∈xs,x.2.2=.bool true)->Vals (List.replicate xs.length (.bl true)) (xs.map (·.2.2))
 |[],_=>.nil
 |x::xs,h=>by
  rw[aqn,List.replicate_succ,aqd,h x aqf]
  exact .cons rfl (aaH fun y hy=>h y (aqe _ hy))
theorem aal{K:ap9}{g:Gh}{H:Hp}:∀{kvs:List (Dat×Dat)} {n:Nat},n=kvs.length->(∀p∈kvs,p.2=.bool true)->aH K g H (List.replicate n (.bl true)) (kvs.map (·.2))
 |[],_,h,_=>by subst h;exact .nil
 |p::kvs,_,e,h=>by
  subst e
  rw[aqn,List.replicate_succ,aqd,h p aqf]
  exact .cons (.bl true) (aal rfl fun y hy=>h y (aqe _ hy))
theorem akW{it:IF}{tg:fB}{js vs:List Nat}{tk:QF}(hw:aj.w=X.w)(hj:∀j∈js,j∈vs)(σ:L2.St)(H:Hp)(Q:VK)(h:ahV X.K aj W (qDc it tg vs tk) σ H Q) :
  aiT X (tI X.K aj W false it) (yR X.K aj js tg) (tQ X.K aj WF tk) vs σ H Q:=by
 obtain⟨g,ρ,M,I,h⟩:=h
 refine⟨g,ρ,M,I,h.bnd.mono (fun ds hk J C H1 e1 w c _ D nD=>?_) fun _ z=>z⟩
 obtain⟨hz,hk⟩:=hk.pH
 have hlen:=of_decide_eq_true hz
 obtain⟨total,htot,hQ⟩:∃total,Dm tg tk M (bY ρ vs) ds []=.ok total/\∀l o H',H l=none->Ex H H'->H' l=some (iw l o)->ji X.K aj (g.add l) H' l true total->Q (.ref l) H':=by
  cases hc:Dm tg tk M (bY ρ vs) ds [] with
  |bad=>rw[hc]at hk;exact False.elim hk
  |exc x=>exact absurd hc Vd
  |ok total=>
   rw[hc]at hk
   exact⟨total,rfl,hk⟩
 have I1:=(I.ex e1).wipe vs
 have kD:∀{Ha:Hp} {o:Obj},Ex H1 Ha->Ha D=some (iw D o)->SInv X.K aj (L2.wipe σ vs) Ha (g.add D) (bY ρ vs) M:=fun ea hu=>I1.add nD ea hu trivial
 let Pv:Nat->Hp->Prop:=fun i Ha=>Ex H1 Ha/\i<=ds.length/\∃o xs acc,Ha D=some (iw D o)/\kW X.w D o xs/\acc.map (·.1)=xs.map (fun x=>x.1.data)/\aH X.K (g.add D) Ha (xs.map fun x=>V.ref x.2.1) (acc.map (·.1))/\(∀x∈xs,x.2.2=.bool true)/\(∀p∈acc,p.2=.bool true)/\acc.length<=i/\Dm tg tk M (bY ρ vs) (ds.drop i) acc=.ok total
 refine⟨fun i m Ha=>m=ds.length - i/\Pv i Ha,⟨ds.length,fun o n0=>⟨rfl,Ex.new nD,aqM _,o,[],[],upd_same,n0,rfl,.nil,fun x hx=>absurd hx aqI,fun x hx=>absurd hx aqI,aqz _,by rw[arp];exact htot⟩⟩,?_⟩
 rintro i m Ha ⟨rfl,ea,hi,o,xs,acc,hu,nd,hK,hR,hT,hA,hy,hs⟩
 have Ia:=kD ea hu
 have Ca:=w.add g (g.add D) H1 Ha (I.kd.ex e1) c (Gh.Fb nD ea) ea
 have lxs:xs.length=acc.length:=by
  have:=congrArg List.length hK
  simpa using this.symm
 by_cases hlt:i < ds.length
 ·refine .inr ⟨w.go _ i Ha Ca hlt,Pv (i+1),fun H' p=>⟨ds.length - (i+1),by omega,rfl,p⟩,fun x H' y=>?_⟩
  have hd:ds[i]?=some ds[i]:=aqc hlt
  obtain⟨e2,rx⟩:=w.yld _ i Ha x H' _ Ia.kd Ca hd y
  have I2:=Ia.ex e2
  rw[aqW hlt,Dm]at hs
  split at hs
  ·cases hs
  ·next ρ1 he=>
   refine⟨g.add D,_,M,_,ρ1,I2,rx,he,fun ws I3=>⟨zE js ws _ vs hj |>.trans (Cv σ vs),?_⟩⟩
   cases htk:tk M ρ1 with
   |bad=>rw[htk]at hs;cases hs
   |exc z=>rw[htk]at hs;cases hs
   |ok kd=>
    rw[htk]at hs
    have hs:((dhas true acc kd).bind fun r=>Dm tg tk M (bY ρ vs) (ds.drop (i+1)) (match r with
     |true=>acc
     |false=>acc++[(kd,.bool true)]))=.ok total:=hs
    refine⟨g.add D,ρ1,M,I3,?_⟩
    rw[htk]
    intro v H4 e4 ry
    have I4:=I3.ex e4
    have hu4:=e4 _ _ (e2 _ _ hu)
    have hR4:=(hR.ex e2 Ia.kd).ex e4 I2.kd
    cases hh:dhas true acc kd with
    |bad=>rw[hh]at hs;cases hs
    |exc z=>rw[hh]at hs;cases hs
    |ok r=>
     rw[hh]at hs
     obtain⟨ha2,hcase⟩:=T9 hh
     rcases hcase with⟨z,_⟩|⟨_,dd,kk,rfl,hkk,hdep⟩
     ·cases z
     ·have ek:=zL hkk
      rw[←ek,GZ hK]at ha2
      have hRx:=hR4
      rw[hK]at hRx
      cases ry with
      | @tup bb us _ hs' ht=>
       refine⟨o,xs,g.add D,_,bb,kk,rfl,hu4,nd,hRx,.tup hs' ht,hkk,hdep,sz_lt (by omega),fun o' nd'=>?_⟩
       have eD:Ex H1 (upd H4 D (iw D o')):=Ex.mut ((ea.trans e2).trans e4) nD
       have lD:(g.add D).Lo D:=.inr rfl
       have up:Gr true (g.add D) (g.add D) H4 (upd H4 D (iw D o')):=Gr.upd I4.kd hu4 (.inr lD)
       cases r with
       |true=>
        obtain⟨q,hq⟩:=Option.isSome_iff_exists.mp ha2
        rw[storedH_old hq,ae7 hT]at nd'
        exact⟨eD,hlt,o',xs,acc,upd_same,nd',hK,hR4.gr up I4.kd,hT,hA,by omega,hs⟩
       |false=>
        have hn:atKey xs kk=none:=by
         cases hv:atKey xs kk with
         |none=>rfl
         |some _=>rw[hv]at ha2;cases ha2
        rw[storedH_new hn]at nd'
        have hs:Dm tg tk M (bY ρ vs) (ds.drop (i+1)) (acc++[(.tuple dd,.bool true)])=.ok total:=hs
        refine⟨eD,hlt,o',xs++[(kk,bb,.bool true)],acc++[(.tuple dd,.bool true)],upd_same,nd',by simp[hK,ek],?_,?_,?_,by simp;omega,hs⟩
        ·rw[aqF,aqF]
         exact(hR4.gr up I4.kd).back ((Rep.tup hs' ht).gr up I4.kd)
        ·intro x hx
         rcases aqo.mp hx with z|z
         ·exact hT x z
         ·rw[aqg.mp z]
        ·intro x hx
         rcases aqo.mp hx with z|z
         ·exact hA x z
         ·rw[aqg.mp z]
 ·have e:i=ds.length:=by omega
  refine .inl ⟨w.stop _ i Ha Ca e,?_⟩
  rw[e,aq2]at hs
  cases hs
  exact hQ D o Ha (Bu e1 D nD) (e1.trans ea) hu ⟨o,xs,List.replicate xs.length (.bl true),hu,by rw[hw];exact nd,hK,hR,aaH hT,aal lxs hA⟩
def QV(ft:Ft)(o:QF)(f:Str)(e:Mo->Env->Out (List (Dat×Dat))):SF:=fun M ρ=>((e M ρ).at M).then ρ fun kvs _=>((o (M++[⟨"",[]⟩]) ρ).at (M++[⟨"",[]⟩])).then ρ fun od M2=>match jO M2 od with
 |some (h,i)=>match ft.has i.cls f&&decide (i.fs.length < 100) with
  |true=>.next ρ (M2.set h (i.put f (.dic true kvs)))
  |false=>.bad
 |none=>.bad
end
theorem X7{K:ap9}{g:Gh}{H:Hp}{l:Addr}{vs:List V}{ds:List Dat}(h:aH K (g.add l) H vs ds):aH K (g.push l) H vs ds:=aH.mv (g:=g.add l) (g':=g.push l) (fun h a z=>by
  have z:g.tbl[h]?=some a:=z
  show(g.tbl++[l])[h]?=some a
  rw[aql (aqb.mp z).1]
  exact z) (fun a z=>by
  rcases WT z with z|rfl
  ·rcases z with z|z|z
   ·exact .inl z
   ·exact .inr (.inl z)
   ·exact .inr (.inr (show g.Lo a∨a=l from Or.inl z))
  ·exact .inr (.inr (show g.Lo a∨a=a from Or.inr rfl))) h
section
variable{X:Cx}{aj:aO}{W:WX}{o e:Expr}{f:Str}{pos pos':Pos}{ft:Ft}{fo:QF}
theorem afX{fe:Mo->Env->Out (List (Dat×Dat))}{te:TE}(co:jh X.K aj)(fk:JZ ft aj)(ho:QW aj X W o fo)(he:PE X e te)(hte:∀σ H Q,ahV X.K aj W fe σ H Q->te σ H Q)(hs:swapsWith e (some (.Attribute o f pos')) pos.line X.env=pure false):SE aj X W false (.Assign [.Attribute o f pos'] e pos) (QV ft fo f fe):=by
 refine PS.weak (ps_fld ho he hs) fun D σ H ⟨g,ρ,M,I,z⟩=>hte σ H _ ⟨g,ρ,M,I,?_⟩
 unfold QV at z
 cases hf:fe M ρ with
 |exc x=>rw[hf]at z;exact fun H' c dd e r=>z σ H' g c dd (Gr.ex e) (I.ex e) r.fr
 |bad=>rw[hf]at z;exact False.elim z
 |ok kvs=>
  rw[hf]at z
  intro l ob H1 nl e1 hl dic
  obtain⟨gr,I1,tb,ow,mm⟩:=JX I nl e1 hl trivial
  have dic1:ji X.K aj (g.push l) H1 l true kvs:=by
   obtain⟨o',xs,vs,q1,q2,q3,q4,q5,q6⟩:=dic
   exact⟨o',xs,vs,q1,q2,q3,X7 q4,q5,X7 q6⟩
  have z:(((fo (M++[⟨"",[]⟩]) ρ).at (M++[⟨"",[]⟩])).then ρ fun od M2=>match jO M2 od with
   |some (h,i)=>match ft.has i.cls f&&decide (i.fs.length < 100) with
    |true=>.next ρ (M2.set h (i.put f (.dic true kvs)))
    |false=>.bad
   |none=>.bad).sat (sN X.K aj false D.nx g H) (sR X.K aj false D.rt g H) (sN X.K aj false D.bk g H) (sN X.K aj false D.ct g H) (sX X.K aj W false g H):=z
  have k1:=Out.iK (cZ (σ:=σ) z)
  refine tW.go I1 (k1.mono (fun _ y=>y) fun x y H' c dd ex rx=>y H' _ c dd (gr.trans (Gr.ex ex)) (I1.ex ex) rx) fun od u H2 k2 e2 ru=>?_
  have I2:=I1.ex e2
  split at k2
  ·next h i hi=>
   split at k2
   ·next hb=>
    rw[aqa]at hb
    obtain⟨a,C,dx,fs,_,m1,m2,ha,rfl,c1,c2,c3,c4,c5,c6⟩:=Fx co fk I2.wok ru hi hb.1
    have nla:l≠a:=fun z=>by
     subst z
     cases I2.wok.inj _ _ _ ha tb
     rw[mm]at m1
     cases m1
     exact m2 rfl
    refine⟨a,C,dx,fs,rfl,c2,c4,c5,?_,?_⟩
    ·have:=of_decide_eq_true hb.2
     rw[c3.len]
     omega
    ·have ch:=T7 (f:=f) (C:=C) (dx:=dx) (fs':=putF f (.ref l) fs) I2.kd I2.wok ha m1 m2 tb mm ow
     have w':=I2.wok.chg I2.kd ch ha m1 m2 c6 c1 c3 upd_same (v:=.ref l) (fl:=.dic true kvs) ⟨l,rfl,if_pos rfl,ji.chg ch.gc.gr I2.kd (upd_ne nla) (dic1.ex e2 I1.kd)⟩
     exact k2 σ _ _ ((gr.trans (Gr.ex e2)).trans ch.gc.gr) (I2.chg ch w')
   ·exact False.elim k2
  ·exact False.elim k2
end
end Rf
namespace Ear
open PySem PySem.Spec PyProof.Rows L2 Evl RZ
abbrev wj(K:ap9)(H:Hp)(v:V)(r:Rw):Prop:=Dp K H v (rD r)
@[irreducible]def Kr (K:ap9) (w:World):List V->Hp->VK->Prop:=fun vs H Q=>∃(l:Addr) (ws:List V) (R D:List Rw),vs=[V.ref l]/\SqL K H l ws/\eG (wj K H) ws R/\D.length<=76/\(∀r∈R,r∈D)/\
 ∀(p:Addr) (L:List Ent),H p=none->(∀e∈L,wj K H (.ref e.1) e.2)->(L.map Prod.snd).Nodup->(∀r,r∈L.map Prod.snd↔r∈R)->L.length<=76->Q (.ref p) (upd H p (KY w p L))
@[irreducible]def Ot (K:ap9) (w:World):List V->Hp->VK->Prop:=fun vs H Q=>∃(a:Addr) (L:List Ent),vs=[V.ref a]/\H a=some (KY w a L)/\(∀e∈L,wj K H (.ref e.1) e.2)/\(L.map Prod.snd).Nodup/\L.length<=76/\
 ∀(ys:List V) (M:List Rw) (p:Addr),eG (wj K H) ys M->Uq M->(∀r,r∈M↔r∈L.map Prod.snd)->H p=none->Q (.ref p) (upd H p (.lst ys))
section
variable{X:Cx}
theorem aeB{pins:List (Addr×Obj)}{σ:L2.St}{H:Hp}{s:Shared}(I:Inv X pins σ H s){t:Addr}{r:Rw}(h:wj X.K H (.ref t) r):RI s.heap r t:=by
 refine⟨?_,by rw[afc];decide⟩
 unfold wj rD dT at h
 cases h with
 |tup h1 t1=>
  cases t1 with
  |cons a1 t1=>
   cases t1 with
   |cons a2 t1=>
    cases t1
    cases a1
    cases a2 with
    |tup h2 t2=>
     obtain⟨us,rv,⟨o,ho,hc,n,hd⟩,_⟩:=I.tuple h1
     obtain⟨us2,rv2,⟨o2,ho2,hc2,n2,hd2⟩,_⟩:=I.tuple h2
     refine .tup ho hc hd ?_
     cases rv with
     |cons r1 rv=>
      cases rv with
      |cons r2 rv=>
       cases rv
       obtain⟨tk,rfl⟩:=r1
       cases r2
       have e:∀{vs:List V} {l:List Int},DpAll X.K H vs (l.map PyData.int)->vs=l.map V.int:=by
        intro vs l
        induction l generalizing vs with
        |nil=>intro z;cases z;rfl
        |cons i l ih=>
         intro z
         cases z with
         |cons b1 b2=>
          cases b1
          rw[ih b2]
          rfl
       rw[e t2]at rv2
       exact .cons (.int r.1 tk) (.cons (.tup ho2 hc2 hd2 (by simpa using Uw (P:=X.prog) (w:=X.w) r.2 us2 rv2)) .nil)
theorem Rh{K:ap9}{H:Hp}:∀(ws:List V) (R:List Rw),eG (wj K H) ws R->∃ks:List Ent,ws=(ks.map fun p=>V.ref p.1)/\ks.map Prod.snd=R/\∀p∈ks,wj K H (.ref p.1) p.2
 |[],[],_=>⟨[],rfl,rfl,by simp⟩
 |[],_::_,h=>nomatch h.1
 |_::_,[],h=>nomatch h.1
 |v::ws,r::R,h=>by
  obtain⟨ks,e1,e2,e3⟩:=Rh ws R ⟨aqT h.1,fun i v x a b=>h.2 (i+1) v x a b⟩
  have hr:wj K H v r:=h.2 0 v r rfl rfl
  have ev:∃t,v=.ref t:=by
   have z:=hr
   unfold wj rD at z
   cases z with
   |tup _ _=>exact⟨_,rfl⟩
  obtain⟨t,rfl⟩:=ev
  refine⟨(t,r)::ks,by rw[aqd,←e1],by rw[aqd,e2],fun p hp=>?_⟩
  rcases aqp.mp hp with e|hp
  ·rw[e];exact hr
  ·exact e3 p hp
theorem ZS(hu:X.A.units+65 < cLine)(hc:X.calm=true):CallR X (.type "set") (Kr X.K X.w):=by
 intro pins s σ H vs us Q I r h
 unfold Kr at h
 obtain⟨l,ws,R,D,rfl,hl,hA,hD,hRD,q⟩:=h
 rw[Vals.ref1 r]
 obtain⟨ks,e1,e2,e3⟩:=Rh ws R hA
 obtain⟨its,rv,pl,hz⟩:=I.list hl
 rw[e1]at rv
 have mem:∀p∈ks,p.2∈R:=fun p hp=>by
  rw[←e2]
  exact aqk.mpr ⟨p,hp,rfl⟩
 have hn:H s.heap.objs.size=none:=I.hok.fresh (aqz _)
 refine ZG (P:=X.prog) (w:=X.w) (hf:=fun r=>(mX X.prog X.w).hash r) (fun _=>rfl) ks D hD (fun p hp=>hRD _ (mem p hp)) (I.ok.hd hc) pl.isList (by simpa using Vi rv) (fun p hp=>aeB I (e3 p hp)) (by omega) fun h' tk L es ep t S g k=>?_
 have fitL:t.fits es.size=true:=qd.fits (s:={ s with heap:=h',toks:=tk }) S
 have new:ObjOk X.prog X.w (upd H s.heap.objs.size (KY X.w s.heap.objs.size L)) h' s.heap.objs.size (KY X.w s.heap.objs.size L):=by
  obtain⟨o,ho,hr⟩:=S.ob
  refine⟨⟨_,es,ep,t,S.ob,S.en,fitL,S.tab.ris,S.ld⟩,⟨o,ho⟩,fun h1 h2 z k2=>?_⟩
  obtain⟨hf2,es2,ep2,t2,⟨o2,ho2,hr2⟩,rest⟩:=(show abA X.w h1 s.heap.objs.size L from z)
  exact⟨hf2,es2,ep2,t2,⟨o2,k2 o2 ho2,hr2⟩,rest⟩
 refine⟨.ref s.heap.objs.size,upd H s.heap.objs.size (KY X.w s.heap.objs.size L),I.laid (t':=tk) k (aqz _) new,rfl,q _ L hn (fun e he=>e3 e (aq7 (g.sub e he))) S.nd (fun r=>⟨fun m=>?_,fun m=>?_⟩) S.few⟩
 ·obtain⟨e,he,e5⟩:=aqk.mp m
  rw[←e5]
  exact mem e (aq7 (g.sub e he))
 ·rw[←e2]at m
  obtain⟨p,hp,e5⟩:=aqk.mp m
  rw[←e5]
  exact g.all p (by rw[List.take_length];exact hp)
theorem abd(hu:X.A.units+65 < cLine)(hc:X.calm=true):CallR X (.builtin "sorted") (Ot X.K X.w):=by
 intro pins s σ H vs us Q I r h
 unfold Ot at h
 obtain⟨a,L,rfl,ha,hL,nd,few,q⟩:=h
 rw[Vals.ref1 r]
 obtain⟨hf,es,ep,t,⟨o,ho,hex,hd⟩,en,fit,ris,led⟩:abA X.w s.heap a L:=(I.hok a _ ha).1
 have len:=yh en
 have ev:∀K:List Ent,(∀p∈K,p∈L)->PySem.W.EachIs (fun v (r:Rw)=>(∃p∈L,v=Value.ref p.1/\r=p.2)/\∃as,Reads s.heap v (rD r) as) ((ents hf K).map (·.2)) (K.map Prod.snd):=by
  intro K
  induction K with
  |nil=>exact fun _=>.nil
  |cons p K ih=>
   intro hK
   have hp:=hK p aqf
   exact .cons ⟨⟨p,hp,rfl,rfl⟩,Dp.reads I (rD p.2) (.ref p.1) (.ref p.1) (hL p hp) rfl⟩ (ih fun x hx=>hK x (aqe _ hx))
 refine Zr (enc:=rD) (bs:=L.map Prod.snd) (I.ok.hd hc) ⟨o,ho,hex.1,hd⟩ fit (by unfold scanBound;omega) ris led (by rw[en];exact ev L fun p hp=>hp) (PySem.W.AllAlike.of Vy) (PySem.W.Sortable.tuples fun b=>⟨_,_,rfl⟩) (fun b _=>by rw[(adi b).2];omega) fun s' p out c cs k g' o' hp hg pc eo=>?_
 have mp:=List.mergeSort_perm cs (PySem.W.dataLe false rD)
 have ndm:(cs.mergeSort (PySem.W.dataLe false rD)).Nodup:=(mp.trans pc).nodup_iff.mpr nd
 have srt:=List.pairwise_mergeSort (le:=PySem.W.dataLe false rD) (fun a b c k1 k2=>by rw[Jp,decide_eq_true_eq]at *;exact List.le_trans k1 k2) (fun a b=>by rw[Jp,Jp,aro,decide_eq_true_eq,decide_eq_true_eq];exact List.le_total _ _) cs
 generalize cs.mergeSort (PySem.W.dataLe false rD)=M at mp ndm srt eo
 obtain⟨ys,v1,v2⟩:=Va out M eo
 have up:Uq M:=by
  refine List.Pairwise.imp₂ (fun a b h1 h2=>?_) srt ndm
  rw[Jp,decide_eq_true_eq]at h1
  by_cases c:rk a < rk b
  ·exact c
  ·exact absurd (abT (List.le_antisymm h1 (List.not_lt.mp c))) h2
 have hfr:H p=none:=I.hok.fresh hp
 have hlen:ys.length<=sizeLine:=by
  rw[v2.1,mp.length_eq,pc.length_eq,aqj,sizeLine_eq]
  omega
 have J:Inv X pins σ (upd H p (.lst ys)) { s with heap:=s'.heap,gens:=s'.gens,drawn:=s'.drawn,toks:=s'.toks }:=
  I.call (ch:=[]) (Un.laid k hp hfr) (I.hok.laid k hp ⟨hlen,out,c,v1,hg⟩) (by rw[g'];exact I.bare) (fun _ z=>nomatch z)
 have es':s'={ s with heap:=s'.heap,gens:=s'.gens,drawn:=s'.drawn,toks:=s'.toks }:=by
  cases s'
  cases s
  cases o'
  rfl
 rw[es']
 refine⟨.ref p,_,J,rfl,q ys M p (v2.imp fun v r ⟨e,he,h1,h2⟩=>?_) up (fun r=>(mp.trans pc).mem_iff) hfr⟩
 subst h1 h2
 exact hL e he
end
end Ear
namespace Rf
open PySem PySem.Spec PyProof.Rows L2 Evl
def abB:Dat->Option Ear.Rw
 |.tuple [.int o,.tuple ds]=>(intsOf ds).map fun l=>(o,l)
 |_=>none
def Dg:List Dat->Option (List Ear.Rw)
 |[]=>some []
 |d::ds=>(abB d).bind fun r=>(Dg ds).bind fun rs=>some (r::rs)
theorem Kz:∀{ds:List Dat} {l:List Int},intsOf ds=some l->ds=l.map PyData.int
 |[],l,h=>by cases h;rfl
 |.int i::ds,l,h=>by
  rw[intsOf,aqV]at h
  obtain⟨r,h1,rfl⟩:=h
  rw[Kz h1]
  rfl
 |.none::_,_,h=>by cases h
 |.bool _::_,_,h=>by cases h
 |.str _::_,_,h=>by cases h
 |.list _::_,_,h=>by cases h
 |.tuple _::_,_,h=>by cases h
 |.dict _::_,_,h=>by cases h
theorem agN{d:Dat}{r:Ear.Rw}(h:abB d=some r):d=Ear.rD r:=by
 unfold abB at h
 split at h
 ·next o ds=>
  rw[aqV]at h
  obtain⟨l,h1,rfl⟩:=h
  rw[Kz h1]
  rfl
 ·cases h
theorem Nq:∀{ds:List Dat} {rs:List Ear.Rw},Dg ds=some rs->ds=rs.map Ear.rD
 |[],_,h=>by cases h;rfl
 |d::ds,_,h=>by
  rw[Dg]at h
  obtain⟨r,h1,h⟩:=ap8.mp h
  obtain⟨rs,h2,h⟩:=ap8.mp h
  cases h
  rw[agN h1,Nq h2]
  rfl
def Pa(R:List Ear.Rw):List Ear.Rw:=R.mergeSort fun a b=>decide (Ear.rk a<=Ear.rk b)
def sortI(l:List Int):List Int:=l.mergeSort fun a b=>decide (a<=b)
def bU(R:List Ear.Rw):List Ear.Rw:=Pa R.eraseDups
def afx(l:List Int):List Int:=sortI l.eraseDups
theorem XQ:∀(n:Nat) (l:List Int),mW n (l.map PyData.int)=true:=fun n l=>by
 induction l with
 |nil=>rfl
 |cons i l ih=>simp[mW,okd,ih]
theorem Ze(n:Nat)(r:Ear.Rw):okd (n+2) (Ear.rD r)=true:=by
 unfold Ear.rD Ear.dT
 simp[okd,mW,XQ]
theorem ahj(n:Nat)(R:List Ear.Rw):mW (n+2) (R.map Ear.rD)=true:=by
 induction R with
 |nil=>rfl
 |cons r R ih=>simp[mW,Ze,ih]
def Ih:Dat->Out Dat
 |.list ds=>match intsOf ds with
  |some l=>.ok (.list ((sortI l).map PyData.int))
  |none=>match Dg ds with
   |some R=>.ok (.list ((Pa R).map Ear.rD))
   |none=>.bad
 |_=>.bad
def Pj:Dat->Out Dat
 |.list ds=>match Dg ds with
  |some R=>match decide (R.eraseDups.length<=76) with
   |true=>.ok (.list ((bU R).map Ear.rD))
   |false=>.bad
  |none=>.bad
 |_=>.bad
theorem U4{β:Type}{enc:β->Dat}{le:β->β->Bool}(h:∀a b,PySem.W.dataLe false id (enc a) (enc b)=le a b)(l:List β):(l.map enc).mergeSort (PySem.W.dataLe false id)=(l.mergeSort le).map enc:=by
 rw[List.map_mergeSort (r:=le) (s:=PySem.W.dataLe false id) (fun a _ b _=>(h a b).symm)]
theorem zN{α:Type}[BEq α][LawfulBEq α]{l:List α}{x:α}:x∈l.eraseDups↔x∈l:=by
 induction hn:l.length using Nat.strongRecOn generalizing l with
 |_ n ih=>
  cases l with
  |nil=>simp
  |cons a r=>
   rw[aq9]
   simp only[aqn]at hn
   have hl:(r.filter fun b=>!b==a).length<=r.length:=aqq _ _
   rw[aqp,ih _ (by omega) rfl,aqw,aqp]
   constructor
   ·rintro(h|h)
    ·exact .inl h
    ·exact .inr h.1
   ·rintro(h|h)
    ·exact .inl h
    ·by_cases e:x=a
     ·exact .inl e
     ·exact .inr ⟨h,by simpa using e⟩
theorem Rg{α:Type}[BEq α][LawfulBEq α]{l:List α}:l.eraseDups.Nodup:=by
 induction hn:l.length using Nat.strongRecOn generalizing l with
 |_ n ih=>
  cases l with
  |nil=>simp
  |cons a r=>
   rw[aq9]
   simp only[aqn]at hn
   have hl:(r.filter fun b=>!b==a).length<=r.length:=aqq _ _
   refine aqZ.mpr ⟨fun h=>?_,ih _ (by omega) rfl⟩
   rw[zN,aqw]at h
   simpa using h.2
theorem lG{R:List Ear.Rw}{r:Ear.Rw}:r∈bU R↔r∈R:=by
 unfold bU Pa
 rw[List.mem_mergeSort,zN]
theorem YQ(R:List Ear.Rw):Ear.Uq (bU R):=by
 unfold Ear.Uq bU Pa
 have srt:=List.pairwise_mergeSort (le:=fun a b:Ear.Rw=>decide (Ear.rk a<=Ear.rk b)) (fun a b c k1 k2=>by rw[decide_eq_true_eq]at *;exact List.le_trans k1 k2) (fun a b=>by rw[aro,decide_eq_true_eq,decide_eq_true_eq];exact List.le_total _ _) R.eraseDups
 have nd:(R.eraseDups.mergeSort fun a b=>decide (Ear.rk a<=Ear.rk b)).Nodup:=(List.mergeSort_perm _ _).nodup_iff.mpr Rg
 refine List.Pairwise.imp₂ (fun a b h1 h2=>?_) srt nd
 rw[decide_eq_true_eq]at h1
 by_cases c:Ear.rk a < Ear.rk b
 ·exact c
 ·exact absurd (Ear.abT (List.le_antisymm h1 (List.not_lt.mp c))) h2
section
variable{K:ap9}{g:Gh}{H:Hp}
theorem Ou{xs:List V}{ds:List Dat}(h:aH K g H xs ds):∀{ys:List V} {es:List Dat},Ear.eG (Ear.aeO xs ds) ys es->aH K g H ys es
 |[],[],_=>.nil
 |[],_::_,z=>nomatch z.1
 |_::_,[],z=>nomatch z.1
 |y::ys,e::es,z=>by
  obtain⟨i,h1,h2⟩:=z.2 0 y e rfl rfl
  obtain⟨d,h3,h4⟩:=h.get' h1
  rw[h2]at h3
  cases h3
  exact .cons h4 (Ou h ⟨aqT z.1,fun i v x a b=>z.2 (i+1) v x a b⟩)
end
section
variable{X:Cx}{aj:aO}{W:WX}{a:Expr}{fa:QF}{p p2 pos pos2:Pos}
theorem agY:Iu aj X.K W Ih (Ear.Gp X.K):=fun σ g H x d Q k rx h=>by
 unfold Ih at h
 split at h
 ·next ds=>
  obtain⟨l,us,rfl,h1,h2⟩:=iV rx
  unfold Ear.Gp
  split at h
  ·next ns hn=>
   have e:=Kz hn
   subst e
   refine⟨l,us,ns.map PyData.int,rfl,h1,h2.dp (n:=12) (XQ 12 ns),PySem.W.AllAlike.of (fun a b=>by simp[PySem.W.alike]),PySem.W.Sortable.others (fun b=>⟨(fun z=>nomatch z),fun xs z=>nomatch z⟩),fun d hd=>by
    obtain⟨i,_,rfl⟩:=aqk.mp hd
    simp[PyData.depth],fun ys q hy nq=>?_⟩
   have hs:=U4 (enc:=PyData.int) (le:=fun a b:Int=>decide (a<=b)) (fun a b=>congrFun (congrFun (PySem.W.dataLe_int (fun k:Int=>k)) a) b) ns
   rw[hs]at hy
   exact h (.ref q) _ (Ex.new nq) (.lst (.inl ⟨.inl upd_same,k.fresh nq⟩) ((Ou h2 hy).ex (Ex.new nq) k))
  ·split at h
   ·next R hR=>
    have e:=Nq hR
    subst e
    refine⟨l,us,R.map Ear.rD,rfl,h1,h2.dp (n:=12) (ahj 10 R),PySem.W.AllAlike.of Ear.Vy,PySem.W.Sortable.tuples (fun b=>⟨_,_,rfl⟩),fun d hd=>by
     obtain⟨i,_,rfl⟩:=aqk.mp hd
     rw[(Ear.adi i).2]
     decide,fun ys q hy nq=>?_⟩
    ·have hs:=U4 (enc:=Ear.rD) (le:=fun a b:Ear.Rw=>decide (Ear.rk a<=Ear.rk b)) (fun a b=>by rw[←Ear.Jp];rfl) R
     rw[hs]at hy
     exact h (.ref q) _ (Ex.new nq) (.lst (.inl ⟨.inl upd_same,k.fresh nq⟩) ((Ou h2 hy).ex (Ex.new nq) k))
   ·exact False.elim h
 ·exact False.elim h
theorem agE(hu:X.A.units+65 < cLine)(hg:Gl X "sorted")(hm:X.mg "sorted"=none)(ha:QW aj X W a fa)(hs:nst a=true):QE aj X W (.Call (.Name "sorted" p) [a] [] pos) (eU Ih fa):=
 afm (.inl rfl) (Ear.abn hu) agY hg hm ⟨by decide +kernel,by decide,by decide⟩ ha hs
theorem aai{K:ap9}{g:Gh}{H:Hp}:∀{vs:List V} {l:List Int},DpAll K H vs (l.map PyData.int)->aH K g H vs (l.map PyData.int)
 |_,[],.nil=>.nil
 |_,_::_,.cons (.int i) t=>.cons (.int i) (aai t)
theorem ach{K:ap9}{g:Gh}{H:Hp}{v:V}{r:Ear.Rw}(h:Ear.wj K H v r):Rep K g H v (Ear.rD r):=by
 unfold Ear.wj Ear.rD at h
 cases h with
 |tup h1 t1=>
  cases t1 with
  |cons a1 t1=>
   cases a1
   cases t1 with
   |cons a2 t2=>
    cases t2
    cases a2 with
    |tup h2 t3=>exact .tup h1 (.cons (.int _) (.cons (.tup h2 (aai t3)) .nil))
theorem Ur{K:ap9}{g:Gh}{H:Hp}:∀{vs:List V} {R:List Ear.Rw},aH K g H vs (R.map Ear.rD)->Ear.eG (Ear.wj K H) vs R
 |_,[],.nil=>⟨rfl,fun i v x a b=>by simp at a⟩
 |_,r::R,.cons h t=>by
  have ih:=Ur t
  refine⟨congrArg (· + 1) ih.1,fun i v x a b=>?_⟩
  cases i with
  |zero=>
   simp at a b
   subst a b
   exact h.dp (n:=12) (Ze 10 _)
  |succ i=>exact ih.2 i v x (by simpa using a) (by simpa using b)
theorem Uh{K:ap9}{g:Gh}{H:Hp}:∀{vs:List V} {R:List Ear.Rw},Ear.eG (Ear.wj K H) vs R->aH K g H vs (R.map Ear.rD)
 |[],[],_=>.nil
 |[],_::_,h=>nomatch h.1
 |_::_,[],h=>nomatch h.1
 |v::vs,r::R,h=>.cons (ach (h.2 0 v r rfl rfl)) (Uh ⟨aqT h.1,fun i v x a b=>h.2 (i+1) v x a b⟩)
theorem agW(hu:X.A.units+65 < cLine)(hc:X.calm=true)(hg:Gl X "sorted")(hm:X.mg "sorted"=none)(hg2:Gl X "set")(hm2:X.mg "set"=none)(ha:QW aj X W a fa)(hs:nst a=true):QE aj X W (.Call (.Name "sorted" p) [.Call (.Name "set" p2) [a] [] pos2] [] pos) (eU Pj fa):=by
 have h0:=pa_cons ha pa_nil (cO hs [])
 have h1:PE X (.Call (.Name "set" p2) [a] [] pos2) _:=pe_callTy (Ear.ZS hu hc) hg2 hm2 (by decide +kernel) h0 (by decide) (by decide) (cO hs []) (by with_unfolding_all rfl)
 have h2:=pa_cons h1 pa_nil (cO rfl [])
 refine PE.weak (pe_callB (p:=p) (pos:=pos) (Ear.abd hu hc) hg hm (by decide +kernel) h2 (by decide) (by decide) (cO rfl []) (by with_unfolding_all rfl)) fun σ H Q ⟨g,ρ,M,I,h⟩=>?_
 refine tW.go I h.bnd fun d v H1 h1 e1 r1=>?_
 have I1:=I.ex e1
 unfold Pj at h1
 split at h1
 ·next ds=>
  split at h1
  ·next R hR=>
   split at h1
   ·next hd=>
    have e:=Nq hR
    subst e
    obtain⟨l,us,rfl,s1,s2⟩:=iV r1
    unfold Ear.Kr
    refine⟨l,us,R,R.eraseDups,rfl,s1,Ur s2,of_decide_eq_true hd,fun r hr=>zN.mpr hr,fun q L nq hL nd mem few=>?_⟩
    have eq:Ex H1 (upd H1 q (Ear.KY X.w q L)):=Ex.new nq
    unfold Ear.Ot
    refine⟨q,L,rfl,upd_same,fun e he=>?_,nd,few,fun ys S z hy up ms nz=>?_⟩
    ·exact(Rep.ex eq I1.kd (ach (g:=g) (hL e he))).dp (n:=12) (Ze 10 _)
    ·have hS:S=bU R:=Ear.ab6 up (YQ R) fun r=>by rw[ms,mem,lG]
     subst hS
     have I2:=I1.ex eq
     exact h1 (.ref z) _ ((e1.trans eq).trans (Ex.new nz)) (.lst (.inl ⟨.inl upd_same,I2.kd.fresh nz⟩) ((Uh hy).ex (Ex.new nz) I2.kd))
   ·exact False.elim h1
  ·exact False.elim h1
 ·exact False.elim h1
def ag9(it:IF)(tg:fB)(vs:List Nat)(tt:QT)(te:QF):QF:=fun M ρ=>(Ce it tg vs tt te M ρ).bind fun ds=>match intsOf ds with
 |some l=>Out.when (decide (l.length<=4000)) (.ok (.list ((afx l).map PyData.int)))
 |none=>.bad
end
def yM(ρ:Env):Bool:=ρ.all fun o=>match o with
 |some (.mut _)=>false
 |_=>true
theorem Xd{ρ:Env}(h:yM ρ=true){i:Nat}{xs:List Dat}:ρ[i]?≠some (some (.mut xs)):=fun z=>by
 have:=aqu.mp h _ (aqh z)
 cases this
theorem SInv.loc{K:ap9}{aj:aO}{σ:L2.St}{H:Hp}{g:Gh}{ρ:Env}{M:Mo}{D:Addr}{us us':List V}(I:SInv K aj σ H g ρ M)(n:yM ρ=true)(hD:H D=some (.lst us))(lo:g.Lo D):SInv K aj σ (upd H D (.lst us')) g ρ M where
 kd:=I.kd.upd trivial
 wok:=I.wok.loc I.kd hD lo
 len:=I.len
 dat:=fun i d h=>by
  obtain⟨v,h1,h2⟩:=I.dat i d h
  exact⟨v,h1,agj I.kd hD lo h2⟩
 own:=fun i xs h=>absurd h (Xd n)
 sep:=fun i j xs ys l ne h1=>absurd h1 (Xd n)
def gA(tg:fB)(tt:QT)(it1:IF)(tg1:fB)(vs1:List Nat)(tt1:QT)(te:QF)(M:Mo)(ρ:Env):List Dat->Out (List Dat)
 |[]=>.ok []
 |d::ds=>match tg d ρ with
  |none=>.bad
  |some ρ1=>(w6 (tt M ρ1)).bind fun b=>if b=true then Out.when (yM ρ1) ((w6 (it1 M ρ1)).bind fun es=>(dh tg1 tt1 te M (bY ρ1 vs1) es).bind fun r1=>(gA tg tt it1 tg1 vs1 tt1 te M ρ ds).bind fun r=>.ok (r1++r)) else gA tg tt it1 tg1 vs1 tt1 te M ρ ds
def Z5(it:IF)(tg:fB)(vs:List Nat)(tt:QT)(it1:IF)(tg1:fB)(vs1:List Nat)(tt1:QT)(te:QF):IF:=fun M ρ=>(it M ρ).bind fun ds=>(gA tg tt it1 tg1 vs1 tt1 te M (bY ρ vs) ds).bind fun r=>Out.when (decide (r.length<=50000)) (.ok r)
def Cp(it:IF)(tg:fB)(vs:List Nat)(tt:QT)(it1:IF)(tg1:fB)(vs1:List Nat)(tt1:QT)(te:QF):QF:=fun M ρ=>(Z5 it tg vs tt it1 tg1 vs1 tt1 te M ρ).bind fun r=>.ok (.list r)
theorem wM{tg tg1:fB}{tt tt1:QT}{te:QF}{it1:IF}{vs1:List Nat}{M:Mo}{ρ:Env}:∀{ds:List Dat} {x:dI},gA tg tt it1 tg1 vs1 tt1 te M ρ ds≠.exc x
 |[],_,h=>nomatch h
 |d::ds,x,h=>by
  rw[gA]at h
  split at h
  ·cases h
  ·next ρ1 e=>
   cases h1:tt M ρ1 with
   |bad=>rw[h1]at h;cases h
   |exc y=>rw[h1]at h;cases h
   |ok b=>
    rw[h1]at h
    cases b with
    |false=>exact wM (ds:=ds) (x:=x) h
    |true=>
     cases hn:yM ρ1 with
     |false=>rw[hn]at h;cases h
     |true=>
      rw[hn]at h
      cases h2:it1 M ρ1 with
      |bad=>rw[h2]at h;cases h
      |exc y=>rw[h2]at h;cases h
      |ok es=>
       rw[h2]at h
       have h:((dh tg1 tt1 te M (bY ρ1 vs1) es).bind fun r1=>(gA tg tt it1 tg1 vs1 tt1 te M ρ ds).bind fun r=>Out.ok (r1++r))=.exc x:=h
       cases h3:dh tg1 tt1 te M (bY ρ1 vs1) es with
       |bad=>rw[h3]at h;cases h
       |exc y=>exact absurd h3 qL
       |ok r1=>
        rw[h3]at h
        have h:((gA tg tt it1 tg1 vs1 tt1 te M ρ ds).bind fun r=>Out.ok (r1++r))=.exc x:=h
        cases h4:gA tg tt it1 tg1 vs1 tt1 te M ρ ds with
        |bad=>rw[h4]at h;cases h
        |exc y=>exact absurd h4 wM
        |ok r=>rw[h4]at h;cases h
section
variable{K:ap9}{aj:aO}{W:WX}
theorem ahc{it it1:IF}{tg tg1:fB}{js vs js1 vs1:List Nat}{tt tt1:QT}{te:QF}(hj:∀j∈js,j∈vs)(hj1:∀j∈js1,j∈vs1)(σ:L2.St)(H:Hp)(Q:VK)(h:tFr K aj W (Z5 it tg vs tt it1 tg1 vs1 tt1 te) σ H Q) :
  tLc2 (tI K aj W false it) (yR K aj js tg) (jT K aj WF tt) (tI K aj WF true it1) (yR K aj js1 tg1) (jT K aj WF tt1) (tQ K aj WF te) vs vs1 σ H Q:=by
 obtain⟨g,ρ,M,I,h⟩:=h
 refine⟨g,ρ,M,I,h.bnd.mono (fun ds hk J C H1 e1 w c _ D nD=>?_) fun _ z=>z⟩
 obtain⟨total,htot,hlen,hQ⟩:∃total,gA tg tt it1 tg1 vs1 tt1 te M (bY ρ vs) ds=.ok total/\total.length<=50000/\∀l us H',H l=none->Ex H H'->H' l=some (.lst us)->aH K (g.add l) H' us total->Q (.ref l) H':=by
  cases hc:gA tg tt it1 tg1 vs1 tt1 te M (bY ρ vs) ds with
  |bad=>rw[hc]at hk;exact False.elim hk
  |exc x=>exact absurd hc wM
  |ok total=>
   rw[hc]at hk
   obtain⟨hz,hk⟩:=Out.sat.pH hk
   exact⟨total,rfl,of_decide_eq_true hz,hk⟩
 have I1:=(I.ex e1).wipe vs
 have kD:∀{Ha:Hp} {us:List V},Ex H1 Ha->Ha D=some (.lst us)->SInv K aj (L2.wipe σ vs) Ha (g.add D) (bY ρ vs) M:=fun ea hu=>I1.add nD ea hu trivial
 have lD:(g.add D).Lo D:=.inr rfl
 let Pv:Nat->Hp->Prop:=fun i Ha=>Ex H1 Ha/\i<=ds.length/\∃us ys,Ha D=some (.lst us)/\aH K (g.add D) Ha us ys/\(gA tg tt it1 tg1 vs1 tt1 te M (bY ρ vs) (ds.drop i)).sat (fun r=>total=ys++r) fun _=>False
 refine⟨fun i m Ha=>m=ds.length - i/\Pv i Ha,⟨ds.length,rfl,Ex.new nD,aqM _,[],[],upd_same,.nil,?_⟩,?_⟩
 ·rw[arp,htot]
  rfl
 ·rintro i m Ha ⟨rfl,ea,hi,us,ys,hu,hU,hs⟩
  have Ia:=kD ea hu
  have Ca:=w.add g (g.add D) H1 Ha (I.kd.ex e1) c (Gh.Fb nD ea) ea
  by_cases hlt:i < ds.length
  ·refine .inr ⟨w.go _ i Ha Ca hlt,Pv (i+1),fun H' p=>⟨ds.length - (i+1),by omega,rfl,p⟩,fun x H' y=>?_⟩
   have hd:ds[i]?=some ds[i]:=aqc hlt
   obtain⟨e2,rx⟩:=w.yld _ i Ha x H' _ Ia.kd Ca hd y
   have I2:=Ia.ex e2
   rw[aqW hlt,gA]at hs
   split at hs
   ·exact False.elim hs
   ·next ρ1 he=>
    refine⟨g.add D,_,M,_,ρ1,I2,rx,he,fun ws I3=>⟨zE js ws _ vs hj |>.trans (Cv σ vs),?_⟩⟩
    refine jT.go I3 (Bf hs.bnd) fun b H3 hb e3=>?_
    have I4:=I3.ex e3
    have hu3:=e3 _ _ (e2 _ _ hu)
    have hU3:=(hU.ex e2 Ia.kd).ex e3 I2.kd
    cases b with
    |false=>
     have hb:(gA tg tt it1 tg1 vs1 tt1 te M (bY ρ vs) (ds.drop (i+1))).sat (fun r=>total=ys++r) fun _=>False:=hb
     exact⟨(ea.trans e2).trans e3,hlt,us,ys,hu3,hU3,hb⟩
    |true=>
     have hb:(Out.when (yM ρ1) ((w6 (it1 M ρ1)).bind fun es=>(dh tg1 tt1 te M (bY ρ1 vs1) es).bind fun r1=>(gA tg tt it1 tg1 vs1 tt1 te M (bY ρ vs) (ds.drop (i+1))).bind fun r=>Out.ok (r1++r))).sat (fun r=>total=ys++r) fun _=>False:=hb
     obtain⟨nm,hb⟩:=hb.pH
     refine⟨g.add D,ρ1,M,I4,(Bf (E':=qF K aj WF (g.add D) H3 _) hb.bnd).mono (fun es hk1 J1 C1 H4 e4 w1 c1 fm=>?_) fun _ z=>z⟩
     have fm:=fm rfl
     -- all that is added by this walk
     obtain⟨r1,r2,hr1,hr2,ht⟩:∃r1 r2,dh tg1 tt1 te M (bY ρ1 vs1) es=.ok r1/\gA tg tt it1 tg1 vs1 tt1 te M (bY ρ vs) (ds.drop (i+1))=.ok r2/\total=ys++(r1++r2):=by
      cases q1:dh tg1 tt1 te M (bY ρ1 vs1) es with
      |bad=>rw[q1]at hk1;exact False.elim hk1
      |exc y=>exact absurd q1 qL
      |ok r1=>
       rw[q1]at hk1
       have hk1:((gA tg tt it1 tg1 vs1 tt1 te M (bY ρ vs) (ds.drop (i+1))).bind fun r=>Out.ok (r1++r)).sat (fun r=>total=ys++r) fun _=>False:=hk1
       cases q2:gA tg tt it1 tg1 vs1 tt1 te M (bY ρ vs) (ds.drop (i+1)) with
       |bad=>rw[q2]at hk1;exact False.elim hk1
       |exc y=>exact absurd q2 wM
       |ok r2=>
        rw[q2]at hk1
        exact⟨r1,r2,rfl,rfl,hk1⟩
     let P1:Nat->Hp->Prop:=fun j Hb=>Ex H1 Hb/\SInv K aj (sets (L2.wipe σ vs) js ws) Hb (g.add D) ρ1 M/\C1 (g.add D) Hb/\j<=es.length/\∃us' zs,Hb D=some (.lst us')/\aH K (g.add D) Hb us' (ys++zs)/\(dh tg1 tt1 te M (bY ρ1 vs1) (es.drop j)).sat (fun r=>r1=zs++r) fun _=>False
     refine⟨fun j m Hb=>m=es.length - j/\P1 j Hb,⟨es.length,rfl,((ea.trans e2).trans e3).trans e4,I4.ex e4,c1,aqM _,us,[],e4 _ _ hu3,by rw[aqR];exact hU3.ex e4 I4.kd,?_⟩,?_⟩
     ·rw[arp,hr1]
      rfl
     ·rintro j m Hb ⟨rfl,fb,Ib,Cb,hjl,us',zs,hub,hUb,hsb⟩
      by_cases hlj:j < es.length
      ·refine .inr ⟨w1.go _ j Hb Cb hlj,P1 (j+1),fun H' p=>⟨es.length - (j+1),by omega,rfl,p⟩,fun x H' y=>?_⟩
       have hdj:es[j]?=some es[j]:=aqc hlj
       obtain⟨f2,rx⟩:=w1.yld _ j Hb x H' _ Ib.kd Cb hdj y
       have J2:=(Ib.ex f2).wipe vs1
       rw[aqW hlj,dh]at hsb
       split at hsb
       ·exact False.elim hsb
       ·next ρ2 he1=>
        refine⟨g.add D,_,M,_,ρ2,J2,rx,he1,fun ws1 J3=>⟨zE js1 ws1 _ vs1 hj1 |>.trans (Cv _ vs1),?_⟩⟩
        refine jT.go J3 (Bf hsb.bnd) fun b H6 hb6 e6=>?_
        have f26:=f2.trans e6
        have hu6:=f26 _ _ hub
        have hU6:=hUb.ex f26 Ib.kd
        cases b with
        |false=>
         have hb6:(dh tg1 tt1 te M (bY ρ1 vs1) (es.drop (j+1))).sat (fun r=>r1=zs++r) fun _=>False:=hb6
         exact⟨fb.trans f26,Ib.ex f26,w1.ex _ _ _ Ib.kd Cb f26,hlj,us',zs,hu6,hU6,hb6⟩
        |true=>
         have hb6:((w6 (te M ρ2)).bind fun y=>(dh tg1 tt1 te M (bY ρ1 vs1) (es.drop (j+1))).bind fun r=>Out.ok (y::r)).sat (fun r=>r1=zs++r) fun _=>False:=hb6
         refine tQ.go (J3.ex e6) (Bf hb6.bnd) fun y v H7 hyv e7 ry=>?_
         have f27:=f26.trans e7
         have Ib7:=Ib.ex f27
         have hu7:=f27 _ _ hub
         have hU7:=hUb.ex f27 Ib.kd
         have hyv:=hyv.bnd
         have hr:∃r,dh tg1 tt1 te M (bY ρ1 vs1) (es.drop (j+1))=.ok r/\r1=zs++y::r:=by
          cases q1:dh tg1 tt1 te M (bY ρ1 vs1) (es.drop (j+1)) with
          |bad=>rw[q1]at hyv;exact False.elim hyv
          |exc y=>exact absurd q1 qL
          |ok r=>
           rw[q1]at hyv
           exact⟨r,rfl,hyv⟩
         obtain⟨r,hr,hr1'⟩:=hr
         have hll:us'.length < 50000:=by
          rw[hUb.length]
          rw[ht,hr1']at hlen
          simp at hlen ⊢
          omega
         refine⟨us',hu7,sz_lt (Nat.lt_trans hll (by decide)),Ex.mut (fb.trans f27) nD,Ib7.loc nm hu7 lD,fm true _ _ _ _ Ib7.kd (w1.ex _ _ _ Ib.kd Cb f27) (Gr.upd Ib7.kd hu7 (.inr lD)),hlj,us'++[v],zs++[y],upd_same,?_,?_⟩
         ·rw[←List.append_assoc]
          exact YT Ib7.kd hu7 lD (hU7.append (.cons ry .nil))
         ·rw[hr]
          show r1=_
          rw[hr1']
          simp
      ·have e:j=es.length:=by omega
       refine .inl ⟨w1.stop _ j Hb Cb e,?_⟩
       rw[e,aq2]at hsb
       have hsb:r1=zs++[]:=hsb
       rw[aqR]at hsb
       subst hsb
       refine⟨fb,hlt,us',ys++r1,hub,hUb,?_⟩
       rw[hr2]
       show total=_
       rw[ht,List.append_assoc]
  ·have e:i=ds.length:=by omega
   refine .inl ⟨w.stop _ i Ha Ca e,?_⟩
   rw[e,aq2]at hs
   have hs:total=ys++[]:=hs
   rw[aqR]at hs
   subst hs
   exact hQ D us Ha (Bu e1 D nD) (e1.trans ea) hu hU
theorem acS{it it1:IF}{tg tg1:fB}{js vs js1 vs1:List Nat}{tt tt1:QT}{te:QF}(hj:∀j∈js,j∈vs)(hj1:∀j∈js1,j∈vs1)(σ:L2.St)(H:Hp)(Q:VK)(h:tQ K aj W (Cp it tg vs tt it1 tg1 vs1 tt1 te) σ H Q) :
  tLc2 (tI K aj W false it) (yR K aj js tg) (jT K aj WF tt) (tI K aj WF true it1) (yR K aj js1 tg1) (jT K aj WF tt1) (tQ K aj WF te) vs vs1 σ H Q:=by
 obtain⟨g,ρ,M,I,h⟩:=h
 refine ahc hj hj1 σ H Q ⟨g,ρ,M,I,h.bnd.mono (fun xs hk l us H' nl e hl r=>?_) fun _ z=>z⟩
 refine hk (.ref l) H' e (.lst (.inl ⟨.inl hl,fun z=>?_⟩) (aH.less (g:=g.add l) (g':=g) rfl (fun a z=>?_) r))
 ·exact I.kd.fresh nl z
 ·rcases z with z|z|z
  ·exact .inl z
  ·exact .inr (.inl z)
  ·exact .inr (.inr (.inl z))
end
section
variable{X:Cx}{aj:aO}{W:WX}{q:Bool}{elt tg iter tg1 iter1:Expr}{ifs ifs1:List Expr}{scope:Scope}{own:List (Str×Nat)}{it it1:IF}{tgf tgf1:fB}{js js1 vs1:List Nat}{tt tt1:QT}{te:QF}{pos cpos:Pos}
theorem ahC(hc:X.calm=true)(hN:X.N.Nodup)(hi:QI aj X W false tg iter it)(ok:blkC X.N X.env.scope scope own=true)(hv:∀i∈vs1,i∈own.map (·.2))(hj:∀j∈js,j∈own.map (·.2))(hj1:∀j∈js1,j∈vs1)
  (hg:∀(s:Shared) (H:Hp) (C:Addr) (cl:List (Str×Addr)) (fp:List Addr),QG aj (X.blk s H scope (compEnvC scope cl C X.env) fp) tg js tgf)
  (ht:∀(s:Shared) (H:Hp) (C:Addr) (cl:List (Str×Addr)) (fp:List Addr),PTs (X.blk s H scope (compEnvC scope cl C X.env) fp) ifs (jT X.K aj WF tt))
  (hi1:∀(s:Shared) (H:Hp) (C:Addr) (cl:List (Str×Addr)) (fp:List Addr),QI aj (X.blk s H scope (compEnvC scope cl C X.env) fp) WF true tg1 iter1 it1)
  (hg1:∀(s:Shared) (H:Hp) (C:Addr) (cl:List (Str×Addr)) (fp:List Addr),QG aj (X.blk s H scope (compEnvC scope cl C X.env) fp) tg1 js1 tgf1)
  (ht1:∀(s:Shared) (H:Hp) (C:Addr) (cl:List (Str×Addr)) (fp:List Addr),PTs (X.blk s H scope (compEnvC scope cl C X.env) fp) ifs1 (jT X.K aj WF tt1))
  (he:∀(s:Shared) (H:Hp) (C:Addr) (cl:List (Str×Addr)) (fp:List Addr),QE aj (X.blk s H scope (compEnvC scope cl C X.env) fp) WF elt te) (hs:∀x,foldedSetIterable iter X.env x=pure x) (hs1:∀env x,foldedSetIterable iter1 env x=pure x) :
  QE aj X W (.ListComp elt [⟨tg,iter,ifs,0⟩,⟨tg1,iter1,ifs1,0⟩] scope pos) (Cp it tgf (own.map (·.2)) tt it1 tgf1 vs1 tt1 te):=
 PE.weak (pe_lc2 (g:=yR X.K aj js tgf) (tt:=jT X.K aj WF tt) (wi1:=tI X.K aj WF true it1) (g1:=yR X.K aj js1 tgf1) (tt1:=jT X.K aj WF tt1) (te:=tQ X.K aj WF te) hc hN hi (blkOk_by ok) hv (fun s H C cl fp=>hg s H C cl fp) ht (fun s H C cl fp=>hi1 s H C cl fp) (fun s H C cl fp=>hg1 s H C cl fp) ht1 (fun s H C cl fp=>he s H C cl fp) hs hs1) fun σ H Q h=>acS hj hj1 σ H Q h
theorem ahl{j:Nat}{y:Str}{py:Pos}(hc:X.calm=true)(hN:X.N.Nodup)(hy:X.N[j]?=some y)(hyl:X.env.scope.names.lookup y=some .local)(hsw:swapsWith (.ListComp elt [⟨tg,iter,ifs,0⟩,⟨tg1,iter1,ifs1,0⟩] scope cpos) (some (.Name y py)) pos.line X.env=pure true)
  (hi:QI aj X W false tg iter it) (ok:blkC X.N X.env.scope scope own=true) (hv:∀i∈vs1,i∈own.map (·.2)) (hj:∀j∈js,j∈own.map (·.2)) (hj1:∀j∈js1,j∈vs1)
  (hg:∀(s:Shared) (H:Hp) (C:Addr) (cl:List (Str×Addr)) (fp:List Addr),QG aj (X.blk s H scope (compEnvC scope cl C X.env) fp) tg js tgf)
  (ht:∀(s:Shared) (H:Hp) (C:Addr) (cl:List (Str×Addr)) (fp:List Addr),PTs (X.blk s H scope (compEnvC scope cl C X.env) fp) ifs (jT X.K aj WF tt))
  (hi1:∀(s:Shared) (H:Hp) (C:Addr) (cl:List (Str×Addr)) (fp:List Addr),QI aj (X.blk s H scope (compEnvC scope cl C X.env) fp) WF true tg1 iter1 it1)
  (hg1:∀(s:Shared) (H:Hp) (C:Addr) (cl:List (Str×Addr)) (fp:List Addr),QG aj (X.blk s H scope (compEnvC scope cl C X.env) fp) tg1 js1 tgf1)
  (ht1:∀(s:Shared) (H:Hp) (C:Addr) (cl:List (Str×Addr)) (fp:List Addr),PTs (X.blk s H scope (compEnvC scope cl C X.env) fp) ifs1 (jT X.K aj WF tt1))
  (he:∀(s:Shared) (H:Hp) (C:Addr) (cl:List (Str×Addr)) (fp:List Addr),QE aj (X.blk s H scope (compEnvC scope cl C X.env) fp) WF elt te) (hs:∀x,foldedSetIterable iter X.env x=pure x) (hs1:∀env x,foldedSetIterable iter1 env x=pure x) :
  SE aj X W q (.Assign [.Name y py] (.ListComp elt [⟨tg,iter,ifs,0⟩,⟨tg1,iter1,ifs1,0⟩] scope cpos) pos) (aZ (aF j) (gOf (Cp it tgf (own.map (·.2)) tt it1 tgf1 vs1 tt1 te))):=by
 refine PS.weak (ps_setLc2 (g:=yR X.K aj js tgf) (tt:=jT X.K aj WF tt) (wi1:=tI X.K aj WF true it1) (g1:=yR X.K aj js1 tgf1) (tt1:=jT X.K aj WF tt1) (te:=tQ X.K aj WF te) hc hN hy hyl hsw hi (blkOk_by ok) hv (fun s H C cl fp=>hg s H C cl fp) ht (fun s H C cl fp=>hi1 s H C cl fp) (fun s H C cl fp=>hg1 s H C cl fp) ht1 (fun s H C cl fp=>he s H C cl fp) hs hs1) fun D σ H ⟨g,ρ,M,I,z⟩=>?_
 refine acS hj hj1 σ H _ ⟨g,ρ,M,I,(Out.iK (cZ (σ:=σ) z)).mono (fun d kk v H' e r=>?_) fun x kk H' c dd e r=>kk H' g c dd (Gr.ex e) (I.ex e) r⟩
 exact kk _ H' g (Gr.ex e) ((I.ex e).set r)
end
def Uc(neg:Bool)(kvs:List (Str×Dat))(k:QF):QF:=fun M ρ=>(k M ρ).bind fun d=>match d with
 |.str x=>.ok (.bool (neg ^^ (kvs.lookup x).isSome))
 |_=>.bad
def aa2(kvs:List (Str×Dat))(k:QF):QF:=fun M ρ=>(k M ρ).bind fun d=>match d with
 |.str x=>match kvs.lookup x with
  |some y=>.ok y
  |none=>.bad
 |_=>.bad
section
variable{X:Cx}{aj:aO}{W:WX}{a:Expr}{fa:QF}{x:Str}{p pos:Pos}{kvs:List (Str×Dat)}{k:Nat}
theorem ab1{neg:Bool}{d:Addr}(D:abE X.w X.K d kvs)(σ:L2.St)(H:Hp)(Q:VK)(h:tQ X.K aj W (Uc neg kvs fa) σ H Q) :
  tOp (fun x y H Q=>∃(z:Str) (r:Option Value),x=.str z/\y=.ref d/\PySem.W.nsIn X.K d z=some r/\Q (.bl (neg ^^ r.isSome)) H) (tW X.K aj W fa) (tC (.ref d)) σ H Q:=by
 obtain⟨g,ρ,M,I,h⟩:=h
 refine tW.go I h.bnd fun e v H1 h1 e1 r1=>?_
 split at h1
 ·next z=>
  cases jH r1
  obtain⟨es,n,_,_,hl⟩:=D
  have hz:=hl z
  cases hk:kvs.lookup z with
  |none=>
   rw[hk]at hz h1
   exact⟨z,none,rfl,rfl,hz,h1 _ H1 e1 (.bl _)⟩
  |some d'=>
   rw[hk]at hz h1
   obtain⟨v,u,h2,_⟩:=hz
   exact⟨z,some u,rfl,rfl,h2,h1 _ H1 e1 (.bl _)⟩
 ·exact False.elim h1
theorem opG{neg:Bool}{op:CmpOp}{d:Addr}(hn:(op=.In/\neg=false)∨(op=.NotIn/\neg=true))(D:abE X.w X.K d kvs):OpR X (compareOp op) (fun x y H Q=>∃(z:Str) (r:Option Value),x=.str z/\y=.ref d/\PySem.W.nsIn X.K d z=some r/\Q (.bl (neg ^^ r.isSome)) H):=by
 obtain⟨es,n,D,_⟩:=D
 rcases hn with⟨rfl,rfl⟩|⟨rfl,rfl⟩
 ·have:=op_in_kd (X:=X) D
  simpa only[Bool.false_xor] using this
 ·have:=op_notIn_kd (X:=X) D
  simpa only[Bool.true_xor] using this
theorem ajL{neg:Bool}{op:CmpOp}(hn:(op=.In/\neg=false)∨(op=.NotIn/\neg=true))(g:bf X.prog X.w X.K X.mg X.base aj k x (.dic kvs))(hg:Gl X x)(hd:(x==("__debug__" : Str))=false)(ha:QW aj X W a fa):QE aj X W (.Compare a [op] [.Name x p] pos) (Uc neg kvs fa)/\rA aj X W (.Compare a [op] [.Name x p] pos) (bB (Uc neg kvs fa)):=by
 obtain⟨d,hm,D⟩:=g
 have hb:PE X (.Name x p) (tC (.ref d)):=pe_glob hg hm rfl hd
 refine⟨PE.weak (pe_cmpR (opG hn D) ha hb (by cases op <;> rfl)) fun σ H Q h=>ab1 D σ H Q h,PT.weak (pt_cmpR (opG hn D) ha hb (by cases op <;> rfl)) fun σ H Q ⟨g,ρ,M,I,h⟩=>?_⟩
 refine ab1 D σ H _ ⟨g,ρ,M,I,h.bnd.mono (fun d h1 v H' e' r'=>?_) fun _ z=>z⟩
 obtain⟨k,h2,h3⟩:=Dr r'.weak h1
 exact⟨k,h2,h3 H' e'⟩
theorem ajb(g:bf X.prog X.w X.K X.mg X.base aj k x (.dic kvs))(hg:Gl X x)(hd:(x==("__debug__" : Str))=false)(ha:QW aj X W a fa)(hp:PlainIx a):QE aj X W (.Subscript (.Name x p) a pos) (aa2 kvs fa):=by
 obtain⟨d,hm,es,n,D,_,hl⟩:=g
 have hb:PE X (.Name x p) (tC (.ref d)):=pe_glob hg hm rfl hd
 refine PE.weak (pe_ix ix_kdict hb ha hp) fun σ H Q ⟨g,ρ,M,I,h⟩=>?_
 refine tW.go I h.bnd fun e v H1 h1 e1 r1=>?_
 split at h1
 ·next z=>
  cases jH r1
  have hz:=hl z
  split at h1
  ·next y hk=>
   rw[hk]at hz
   obtain⟨v,u,h2,h3,h4⟩:=hz
   exact⟨d,z,v,rfl,rfl,⟨es,n,u,D.at_,D.lit,h2,h3⟩,h1 v H1 e1 (h4 g H1)⟩
  ·exact False.elim h1
 ·exact False.elim h1
end
structure Hs where
 Ms:List (Str×List (Str×MV))
 ft:Ft
 xm:List (Str×List (Str×Bool))
 df:List (Str×Bool)
 xf:List (Str×List Str)
structure Rq(P:Program)(w:World)(K:ap9)(mg:Str->Option Value)(base:Heap)(aj:aO)(k:Nat)(h:Hs):Prop where
 ms:∀m tb,h.Ms.lookup m=some tb->∀c v,tb.lookup c=some v->bV P w K mg base aj k c m v
 fk:JZ h.ft aj
 co:jh K aj
 hw:aj.w=w
 xm:∀y tab,h.xm.lookup y=some tab->(∃D,aj y=some D)/\abx K aj y fun x=>tab.lookup x
 xf:∀y fs,h.xf.lookup y=some fs->∃C,aj y=some C/\XfC K C/\∀f∈fs,PySem.W.findIn K (.ref C) f=some none
structure Tc where
 N:List Str
 sc:Scope
 G:List (Str×GV)
 B:List Str
 hs:Hs
 ml:List Str
 top:Bool
structure Amb(aj:aO)(c:Tc)(X:Cx)(W:WX)(k:Nat):Prop where
 hN:X.N=c.N
 hs:X.env.scope=c.sc
 calm:X.calm=true
 nd:X.N.Nodup
 tk:Takes X W
 rm:Room k X.A
 gl:∀x v,c.G.lookup x=some v->bf X.prog X.w X.K X.mg X.base aj k x v
 bl:∀x,x∈c.B->X.mg x=none
 fn:c.top=true->∀x,X.fn x=true
 hk:Rq X.prog X.w X.K X.mg X.base aj k c.hs
def gd{α:Type}(b:Bool)(o:Option α):Option α:=match b with
 |true=>o
 |false=>none
theorem aU{α:Type}{b:Bool}{o:Option α}{x:α}:gd b o=some x↔b=true/\o=some x:=by
 cases b
 ·exact⟨fun h=>(nomatch h),fun h=>(nomatch h.1)⟩
 ·exact⟨fun h=>⟨rfl,h⟩,fun h=>h.2⟩
def idx:List Str->Str->Option Nat
 |[],_=>none
 |y::ys,x=>match y==x with
  |true=>some 0
  |false=>(idx ys x).map (· + 1)
theorem Fo:∀{N:List Str} {x:Str} {i:Nat},idx N x=some i->N[i]?=some x
 |[],_,_,h=>nomatch h
 |y::ys,x,i,h=>by
  rw[idx]at h
  split at h
  ·next e=>
   cases h
   rw[List.getElem?_cons_zero,eq_of_beq e]
  ·rw[aqV]at h
   obtain⟨j,h1,rfl⟩:=h
   rw[List.getElem?_cons_succ]
   exact Fo h1
def aeI(sc:Scope)(x:Str):Bool:=match sc.names.lookup x with
 |some .local=>true
 |some .cell=>true
 |some .free=>true
 |_=>false
theorem af4{sc:Scope}{x:Str}(h:aeI sc x=true):Vis sc x:=by
 unfold aeI at h
 unfold Vis
 split at h
 ·next e=>exact .inl e
 ·next e=>exact .inr (.inl e)
 ·next e=>exact .inr (.inr e)
 ·cases h
def Fv(x:Str):Bool:=(x==("__debug__" : Str)) || (x==("__classdict__" : Str))
theorem rW{x:Str}(h:Fv x=false):(x==("__debug__" : Str))=false/\(x==("__classdict__" : Str))=false:=by
 unfold Fv at h
 rw[Bool.or_eq_false_iff]at h
 exact h
def EY(sc:Scope)(x:Str):Bool:=match sc.names.lookup x with
 |some .globalImplicit=>true
 |_=>false
def JG(c:Tc)(x:Str):Option Nat:=gd (aeI c.sc x&&!Fv x) (idx c.N x)
def ahy(c:Tc)(x:Str):Bool:=match c.sc.names.lookup x with
 |some .local=>true
 |some .cell=>c.top
 |_=>false
def vf(c:Tc)(x:Str):Option Nat:=gd (ahy c x) (idx c.N x)
section
variable{aj:aO}{c:Tc}{X:Cx}{W:WX}{k:Nat}{x:Str}{i:Nat}
theorem rR(a:Amb aj c X W k)(h:EY c.sc x=true):Gl X x:=by
 unfold EY at h
 unfold Gl PySem.Env.kindOf
 rw[a.hs]
 split at h
 ·assumption
 ·cases h
theorem zj(a:Amb aj c X W k)(h:JG c x=some i):X.N[i]?=some x/\Vis X.env.scope x/\(x==("__debug__" : Str))=false/\(x==("__classdict__" : Str))=false:=by
 obtain⟨h1,h2⟩:=aU.mp h
 rw[aqa]at h1
 obtain⟨d1,d2⟩:=rW (by simpa using h1.2)
 exact⟨by rw[a.hN];exact Fo h2,by rw[a.hs];exact af4 h1.1,d1,d2⟩
theorem lV(a:Amb aj c X W k)(h:vf c x=some i):X.N[i]?=some x/\L2.Loc X.env.scope x/\(X.fn x=true∨X.env.scope.names.lookup x=some .local):=by
 obtain⟨h1,h2⟩:=aU.mp h
 unfold ahy at h1
 refine⟨by rw[a.hN];exact Fo h2,?_⟩
 rw[a.hs]
 unfold L2.Loc
 split at h1
 ·next e=>exact⟨.inl e,.inr e⟩
 ·next e=>exact⟨.inr e,.inl (a.fn h1 x)⟩
 ·cases h1
def uF(c:Tc)(x y:Str):Bool:=(x==y)&&(EY c.sc x&&c.B.contains x)
theorem mZ{y:Str}(a:Amb aj c X W k)(h:uF c x y=true):x=y/\Gl X x/\X.mg x=none:=by
 unfold uF at h
 rw[aqa,aqa]at h
 exact⟨eq_of_beq h.1,rR a h.2.1,a.bl x (by simpa using h.2.2)⟩
end
def yw:Expr->Bool
 |.Set _ _ _=>true
 |_=>false
theorem Bv{b:Expr}{op:CmpOp}(h:yw b=false):behindInMarks op b=false:=by
 cases b <;> first | rfl | cases h
theorem U7{b c:Expr}{op op':CmpOp}(h:yw c=false):lastMarks [op,op'] [b,c]=false:=Bv h
theorem qM{e:Expr}{env:PySem.Env}(h:yw e=false):∀x,foldedSetIterable e env x=pure x:=fun x=>by
 cases e <;> first | rfl | cases h
def YJ:Expr->Bool
 |.Slice _ _ _ _=>true
 |_=>false
def aiG:Operator->Option (Dat->Dat->Out Dat)
 |.Add=>some fH
 |.Sub=>some lW
 |.Mult=>some wu
 |.FloorDiv=>some Cg
 |.Mod=>some lu
 |.Pow=>some MN
 |_=>none
def Nz:CmpOp->Option (Dat->Dat->Out Dat)
 |.Eq=>some cH
 |.NotEq=>some Ck
 |.Lt=>some Mu
 |.LtE=>some ux
 |.Gt=>some Xm
 |.GtE=>some geD
 |.In=>some (inD false)
 |.NotIn=>some (inD true)
 |_=>none
theorem ahb{op:Operator}{o:Dat->Dat->Out Dat}(h:aiG op=some o)(X:Cx)(aj:aO)(W:WX):∃r,OpR X (binaryOp op) r/\pG aj X.K W o r:=by
 cases op <;> cases h
 ·exact⟨_,afW,ajR⟩
 ·exact⟨_,op_sub,ahZ⟩
 ·exact⟨_,op_mul,aiX⟩
 ·exact⟨_,op_mod,ajs⟩
 ·exact⟨_,op_pow,ahW⟩
 ·exact⟨_,op_fdiv,ahG⟩
theorem Bl{op:CmpOp}{o:Dat->Dat->Out Dat}(h:Nz op=some o){X:Cx}{k:Nat}(hr:Room k X.A)(aj:aO)(W:WX):∃r,OpR X (compareOp op) r/\pG aj X.K W o r:=by
 have h65:X.A.units+65 < cLine:=by have:=hr.un;omega
 cases op <;> cases h
 ·exact⟨_,aiE hr.units,als⟩
 ·exact⟨_,aiP hr.units,ak6⟩
 ·exact⟨_,aiK h65,aln⟩
 ·exact⟨_,op_le,akJ⟩
 ·exact⟨_,op_gt,akG⟩
 ·exact⟨_,op_ge,akH⟩
 ·exact⟨_,ahM h65,afE⟩
 ·exact⟨_,aci h65,afE⟩
def SM:Expr->Option Dat
 |.Constant .none _ _=>some .none
 |.Constant (.bool b) _ _=>some (.bool b)
 |_=>none
theorem aaq{e:Expr}{d:Dat}{X:Cx}(h:SM e=some d):∃v,scD d=some v/\(v=.non∨∃b,v=.bl b)/\PE X e (tC v):=by
 unfold SM at h
 split at h
 ·cases h;exact⟨_,rfl,.inl rfl,pe_non⟩
 ·cases h;exact⟨_,rfl,.inr ⟨_,rfl⟩,pe_bl⟩
 ·cases h
def isN:CmpOp->Option Bool
 |.Is=>some false
 |.IsNot=>some true
 |_=>none
theorem ade{op:CmpOp}{neg:Bool}{v:V}{X:Cx}(h:isN op=some neg)(hv:v=.non∨∃b,v=.bl b):OpR X (compareOp op) (Xy neg v):=by
 cases op <;> cases h
 ·exact ajz hv
 ·exact adu hv
def b1D(x:Str):Option (Dat->Out Dat):=
 if x=="len" then some mV else if x=="abs" then some Ud else if x=="sum" then some Yc else if x=="max" then some maxD else if x=="all" then some Oq else if x=="any" then some N7
 else if x=="tuple" then some lZ else if x=="list" then some Ls else if x=="int" then some intD else
 none
def b2D(x:Str):Option (Dat->Dat->Out Dat):=if x=="max" then some u5 else if x=="min" then some Gk else none
theorem ajC{x:Str}{o:Dat->Out Dat}{X:Cx}(hc:X.calm=true)(h:b1D x=some o)(aj:aO)(W:WX):∃(f:Value) (id:String) (r:List V->Hp->VK->Prop),(f=.builtin id∨f=.type id)/\CallR X f r/\Iu aj X.K W o r/\BV f x:=by
 unfold b1D at h
 split at h
 ·next e=>cases h;cases eq_of_beq e;exact⟨_,_,_,.inl rfl,ai7,ail,by decide +kernel,by decide,by decide⟩
 split at h
 ·next e=>cases h;cases eq_of_beq e;exact⟨_,_,_,.inl rfl,call_abs,ajy,by decide +kernel,by decide,by decide⟩
 split at h
 ·next e=>cases h;cases eq_of_beq e;exact⟨_,_,_,.inl rfl,cr_sum hc,aiQ,by decide +kernel,by decide,by decide⟩
 split at h
 ·next e=>cases h;cases eq_of_beq e;exact⟨_,_,_,.inl rfl,cr_max hc,aiM,by decide +kernel,by decide,by decide⟩
 split at h
 ·next e=>cases h;cases eq_of_beq e;exact⟨_,_,_,.inl rfl,cr_all hc,aix,by decide +kernel,by decide,by decide⟩
 split at h
 ·next e=>cases h;cases eq_of_beq e;exact⟨_,_,_,.inl rfl,cr_any hc,ai5,by decide +kernel,by decide,by decide⟩
 split at h
 ·next e=>cases h;cases eq_of_beq e;exact⟨_,_,_,.inr rfl,call_tuple_of,adV,by decide +kernel,by decide,by decide⟩
 split at h
 ·next e=>cases h;cases eq_of_beq e;exact⟨_,_,_,.inr rfl,call_list_of,afZ,by decide +kernel,by decide,by decide⟩
 split at h
 ·next e=>cases h;cases eq_of_beq e;exact⟨_,_,_,.inr rfl,ahJ,aiB,by decide +kernel,by decide,by decide⟩
 ·cases h
theorem ajx{x:Str}{o:Dat->Dat->Out Dat}{X:Cx}(hc:X.calm=true)(h:b2D x=some o)(aj:aO)(W:WX):∃(f:Value) (id:String) (r:List V->Hp->VK->Prop),(f=.builtin id∨f=.type id)/\CallR X f r/\Fn2 aj X.K W o r/\BV f x:=by
 unfold b2D at h
 split at h
 ·next e=>cases h;cases eq_of_beq e;exact⟨_,_,_,.inl rfl,call_max2 hc,afO,by decide +kernel,by decide,by decide⟩
 split at h
 ·next e=>cases h;cases eq_of_beq e;exact⟨_,_,_,.inl rfl,call_min2 hc,agX,by decide +kernel,by decide,by decide⟩
 ·cases h
def tyN(x:Str):Option MJ:=if x=="int" then some .int else if x=="bool" then some .bool else if x=="str" then some .str else if x=="tuple" then some .tuple else if x=="list" then some .list else none
theorem ahX{x:Str}{t:MJ}(h:tyN x=some t):BV (.type t.name) x:=by
 unfold tyN at h
 split at h
 ·next e=>cases h;cases eq_of_beq e;exact⟨by decide +kernel,by decide,by decide⟩
 split at h
 ·next e=>cases h;cases eq_of_beq e;exact⟨by decide +kernel,by decide,by decide⟩
 split at h
 ·next e=>cases h;cases eq_of_beq e;exact⟨by decide +kernel,by decide,by decide⟩
 split at h
 ·next e=>cases h;cases eq_of_beq e;exact⟨by decide +kernel,by decide,by decide⟩
 split at h
 ·next e=>cases h;cases eq_of_beq e;exact⟨by decide +kernel,by decide,by decide⟩
 ·cases h
structure Tr where
 E:Tc->Expr->Option QF
 W:Tc->Expr->Option QF
 T:Tc->Expr->Option QT
 I:Tc->Bool->Expr->Expr->Option IF
structure Tr.Ok(t:Tr):Prop where
 oe:∀{aj:aO} {c:Tc} {X:Cx} {W:WX} {k:Nat},Amb aj c X W k->∀{e:Expr} {f:QF},t.E c e=some f->QE aj X W e f
 ow:∀{aj:aO} {c:Tc} {X:Cx} {W:WX} {k:Nat},Amb aj c X W k->∀{e:Expr} {f:QF},t.W c e=some f->QW aj X W e f
 ot:∀{aj:aO} {c:Tc} {X:Cx} {W:WX} {k:Nat},Amb aj c X W k->∀{e:Expr} {f:QT},t.T c e=some f->rA aj X W e f
 oi:∀{aj:aO} {c:Tc} {X:Cx} {W:WX} {k:Nat},Amb aj c X W k->∀{firm:Bool} {tg e:Expr} {f:IF},t.I c firm tg e=some f->QI aj X W firm tg e f
def Ec(t:Tr)(c:Tc):List Expr->Option QA
 |[]=>some au
 |a::es=>gd (nst a) ((t.E c a).bind fun fa=>(Ec t c es).bind fun fr=>some (ak fa fr))
section
variable{aj:aO}{c:Tc}{X:Cx}{W:WX}{k:Nat}{t:Tr}
theorem rJ(o:t.Ok)(a:Amb aj c X W k):∀{es:List Expr} {f:QA},Ec t c es=some f->Cr aj X W es f/\es.all nst=true/\∀M ρ ds,f M ρ=.ok ds->ds.length=es.length
 |[],f,h=>by
  cases h
  exact⟨ajd,rfl,fun M ρ ds e=>by cases e;rfl⟩
 |e::es,f,h=>by
  rw[Ec,aU]at h
  obtain⟨hs,h⟩:=h
  obtain⟨fa,h1,h⟩:=ap8.mp h
  obtain⟨fr,h2,h⟩:=ap8.mp h
  cases h
  obtain⟨i1,i2,i3⟩:=rJ o a h2
  refine⟨ahd (o.oe a h1) i1 (cO hs es),by simp[hs,i2],fun M ρ ds e=>?_⟩
  unfold ak at e
  cases hf:fa M ρ with
  |ok d=>
   rw[hf]at e
   cases hr:fr M ρ with
   |ok dr=>
    rw[hr]at e
    cases e
    simp[i3 M ρ dr hr]
   |exc y=>rw[hr]at e;cases e
   |bad=>rw[hr]at e;cases e
  |exc y=>rw[hf]at e;cases e
  |bad=>rw[hf]at e;cases e
end
def trO(t:Tr)(c:Tc):Option Expr->Option QO
 |none=>some za
 |some a=>(t.W c a).bind fun fa=>some (qI fa)
theorem aco{aj:aO}{c:Tc}{X:Cx}{W:WX}{k:Nat}{t:Tr}(o:t.Ok)(a:Amb aj c X W k){e:Option Expr}{f:QO}(h:trO t c e=some f):QOe aj X W e f:=by
 cases e with
 |none=>cases h;exact ahm
 |some e=>
  obtain⟨fa,h1,h⟩:=ap8.mp h
  cases h
  exact agH (o.ow a h1)
def WL(c:Tc):List Expr->Option (List Nat)
 |[]=>some []
 |.Name x _::es=>(vf c x).bind fun i=>(WL c es).bind fun js=>some (i::js)
 |_::_=>none
def UW(c:Tc):Expr->Option (List Nat×fB)
 |.Name x _=>(vf c x).bind fun i=>some ([i],aF i)
 |.Tuple es _ _=>(WL c es).bind fun js=>some (js,bL js)
 |_=>none
theorem RN{aj:aO}{c:Tc}{X:Cx}{W:WX}{k:Nat}(a:Amb aj c X W k):∀{es:List Expr} {js:List Nat},WL c es=some js->QZ X es js
 |[],js,h=>by cases h;trivial
 |.Name x p::es,js,h=>by
  rw[WL]at h
  obtain⟨i,h1,h⟩:=ap8.mp h
  obtain⟨r,h2,h⟩:=ap8.mp h
  cases h
  obtain⟨s1,s2,s3⟩:=lV a h1
  exact⟨s1,s2,s3,RN a h2⟩
theorem uO{aj:aO}{c:Tc}{X:Cx}{W:WX}{k:Nat}(a:Amb aj c X W k){e:Expr}{js:List Nat}{f:fB}(h:UW c e=some (js,f)):QG aj X e js f:=by
 unfold UW at h
 split at h
 ·obtain⟨i,h1,h⟩:=ap8.mp h
  cases h
  obtain⟨s1,s2,s3⟩:=lV a h1
  exact Ub a.nd s1 s2 s3
 ·obtain⟨js',h1,h⟩:=ap8.mp h
  cases h
  exact acK a.calm a.nd (RN a h1)
 ·cases h
def Tc.inn(c:Tc)(scope:Scope):Tc:={ c with sc:=relS scope c.sc,top:=false }
theorem Amb.inn{aj:aO}{c:Tc}{X:Cx}{W:WX}{k:Nat}(a:Amb aj c X W k)(scope:Scope)(s:Shared)(H:Hp)(C:Addr)(cl:List (Str×Addr))(fp:List Addr):Amb aj (c.inn scope) (X.blk s H scope (compEnvC scope cl C X.env) fp) WF k where
 hN:=a.hN
 hs:=by
  show relS scope X.env.scope=relS scope c.sc
  rw[a.hs]
 calm:=a.calm
 nd:=a.nd
 tk:=ajq
 rm:=a.rm
 gl:=a.gl
 bl:=a.bl
 fn:=fun z=>nomatch z
 hk:=a.hk
def Oo:List Expr->List Nat->List (Str×Nat)
 |.Name x _::es,j::js=>(x,j)::Oo es js
 |_,_=>[]
def pq:Expr->List Nat->List (Str×Nat)
 |.Name x _,[j]=>[(x,j)]
 |.Tuple es _ _,js=>Oo es js
 |_,_=>[]
def Nu(js vs:List Nat):Bool:=js.all fun j=>vs.contains j
theorem oO{js vs:List Nat}(h:Nu js vs=true):∀j∈js,j∈vs:=fun j hj=>by
 have:=aqu.mp h j hj
 simpa using this
def RB(t:Tr)(c:Tc):List Expr->Option QT
 |[]=>some jo
 |[a]=>t.T c a
 |_=>none
theorem PTs.weak{X:Cx}{e:List Expr}{t t':TT}(h:PTs X e t)(k:∀σ H Q,t' σ H Q->t σ H Q):PTs X e t':=⟨fun pins s σ H Q I q=>h.run pins s σ H Q I (k σ H Q q)⟩
theorem vO{aj:aO}{c:Tc}{X:Cx}{W:WX}{k:Nat}{t:Tr}(o:t.Ok)(a:Amb aj c X W k){ifs:List Expr}{f:QT}(h:RB t c ifs=some f):PTs X ifs (jT X.K aj W f):=by
 unfold RB at h
 split at h
 ·cases h
  exact PTs.weak pts_nil fun σ H Q ⟨g,ρ,M,I,z⟩=>z H (Ex.refl H)
 ·exact pts_one (o.ot a h)
 ·cases h
def Y8(t:Tr)(c:Tc)(elt tg iter:Expr)(ifs:List Expr)(scope:Scope):Option QF:=
 (t.I c false tg iter).bind fun it=>(UW (c.inn scope) tg).bind fun jt=>(RB t (c.inn scope) ifs).bind fun tt=>(t.E (c.inn scope) elt).bind fun te=>
  gd (blkC c.N c.sc scope (pq tg jt.1)&&(Nu jt.1 ((pq tg jt.1).map (·.2))&&!yw iter)) (some (eY it jt.2 ((pq tg jt.1).map (·.2)) tt te))
theorem aaM{aj:aO}{c:Tc}{X:Cx}{W:WX}{k:Nat}{t:Tr}(o:t.Ok)(a:Amb aj c X W k){elt tg iter:Expr}{ifs:List Expr}{scope:Scope}{pos:Pos}{f:QF}(h:Y8 t c elt tg iter ifs scope=some f):QE aj X W (.ListComp elt [⟨tg,iter,ifs,0⟩] scope pos) f:=by
 unfold Y8 at h
 obtain⟨it,h1,h⟩:=ap8.mp h
 obtain⟨⟨js,tf⟩,h2,h⟩:=ap8.mp h
 obtain⟨tt,h3,h⟩:=ap8.mp h
 obtain⟨te,h4,h⟩:=ap8.mp h
 obtain⟨hb,h⟩:=aU.mp h
 cases h
 simp only[aqa,aqs]at hb
 obtain⟨b1,b2,b3⟩:=hb
 exact ale a.calm a.nd (o.oi a h1) (by rw[a.hN,a.hs];exact b1) (oO b2) (fun s H C cl fp=>uO (a.inn scope s H C cl fp) h2) (fun s H C cl fp=>vO o (a.inn scope s H C cl fp) h3) (fun s H C cl fp=>o.oe (a.inn scope s H C cl fp) h4) (qM b3)
def Zh(t:Tr)(c:Tc)(x:Str)(e:Expr)(es:List Expr):Option QF:=match c.G.lookup x with
 |some (.fq n m)=>(Ec t c (e::es)).bind fun as=>gd (EY c.sc x&&(!Fv x&&decide ((e::es).length=n))) (some (aX m as))
 |some _=>none
 |none=>match es with
  |[]=>(b1D x).bind fun o=>(t.W c e).bind fun fa=>gd (uF c x x&&nst e) (some (eU o fa))
  |[.Name y p]=>match x=="isinstance" with
   |true=>(tyN y).bind fun ty=>(t.W c e).bind fun fa=>gd (uF c x x&&(uF c y y&&nst e)) (some (vR ty fa))
   |false=>(b2D x).bind fun o=>(t.W c e).bind fun fa=>(t.W c (.Name y p)).bind fun fb=>gd (uF c x x&&nst e) (some (aA o fa fb))
  |[e2]=>(b2D x).bind fun o=>(t.W c e).bind fun fa=>(t.W c e2).bind fun fb=>gd (uF c x x&&(nst e&&nst e2)) (some (aA o fa fb))
  |_=>none
theorem acp{aj:aO}{c:Tc}{X:Cx}{W:WX}{k:Nat}{x:Str}{o:Dat->Dat->Out Dat}{a b:Expr}{fa fb:QF}{p pos:Pos}(am:Amb aj c X W k)(h:b2D x=some o)(hg:uF c x x=true)(ha:QW aj X W a fa)(hb:QW aj X W b fb)(hs:nst a=true)(hs2:nst b=true):QE aj X W (.Call (.Name x p) [a,b] [] pos) (aA o fa fb):=by
 obtain⟨f,id,r,hf,hc,ho,hv⟩:=ajx am.calm h aj W
 obtain⟨_,hg,hm⟩:=mZ am hg
 exact alb hf hc ho hg hm hv ha hb hs hs2
theorem adq{aj:aO}{c:Tc}{X:Cx}{W:WX}{k:Nat}{t:Tr}(o:t.Ok)(a:Amb aj c X W k){x:Str}{e:Expr}{es:List Expr}{p pos:Pos}{f:QF}(h:Zh t c x e es=some f):QE aj X W (.Call (.Name x p) (e::es) [] pos) f:=by
 unfold Zh at h
 split at h
 ·next n m hl=>
  obtain⟨as,h1,h⟩:=ap8.mp h
  obtain⟨hb,h⟩:=aU.mp h
  cases h
  simp only[aqa,aqs,decide_eq_true_eq]at hb
  obtain⟨b1,b2,b3⟩:=hb
  obtain⟨fa,hm,hk,fd,ps,j,hj,hp,hB,F⟩:=a.gl x _ hl
  obtain⟨i1,i2,i3⟩:=rJ o a h1
  exact agf a.tk F (a.rm.mono hj) (rR a b1) hm hk hB i1 (b3.trans hp.symm) (rW b2).1 i2 i3
 ·cases h
 ·split at h
  ·obtain⟨o1,h1,h⟩:=ap8.mp h
   obtain⟨fa,h2,h⟩:=ap8.mp h
   obtain⟨hb,h⟩:=aU.mp h
   cases h
   rw[aqa]at hb
   obtain⟨f,id,r,hf,hc,ho,hv⟩:=ajC a.calm h1 aj W
   obtain⟨_,hg,hm⟩:=mZ a hb.1
   exact afm hf hc ho hg hm hv (o.ow a h2) hb.2
  ·split at h
   ·next ex=>
    obtain⟨ty,h1,h⟩:=ap8.mp h
    obtain⟨fa,h2,h⟩:=ap8.mp h
    obtain⟨hb,h⟩:=aU.mp h
    cases h
    simp only[aqa]at hb
    obtain⟨b1,b2,b3⟩:=hb
    obtain⟨_,hg,hm⟩:=mZ a b1
    obtain⟨_,hg2,hm2⟩:=mZ a b2
    cases eq_of_beq ex
    exact ajr hg hm ⟨by decide +kernel,by decide,by decide⟩ hg2 hm2 (ahX h1) (o.ow a h2) b3
   ·obtain⟨o1,h1,h⟩:=ap8.mp h
    obtain⟨fa,h2,h⟩:=ap8.mp h
    obtain⟨fb,h3,h⟩:=ap8.mp h
    obtain⟨hb,h⟩:=aU.mp h
    cases h
    rw[aqa]at hb
    exact acp a h1 hb.1 (o.ow a h2) (o.ow a h3) hb.2 rfl
  ·obtain⟨o1,h1,h⟩:=ap8.mp h
   obtain⟨fa,h2,h⟩:=ap8.mp h
   obtain⟨fb,h3,h⟩:=ap8.mp h
   obtain⟨hb,h⟩:=aU.mp h
   cases h
   simp only[aqa]at hb
   exact acp a h1 hb.1 (o.ow a h2) (o.ow a h3) hb.2.1 hb.2.2
  ·cases h
def stE(t:Tr)(c:Tc):Expr->Option QF
 |.Name x _=>(match JG c x with
  |some i=>some (aq i)
  |none=>match c.G.lookup x with
   |some (.con d)=>gd (EY c.sc x&&!Fv x) (some (qC d))
   |_=>none)
 |.Constant (.int i) _ _=>some (qC (.int i))
 |.Constant (.str x) _ _=>some (qC (.str x))
 |.Constant (.bool x) _ _=>some (qC (.bool x))
 |.Constant .none _ _=>some (qC .none)
 |.BinOp a op b _=>(aiG op).bind fun o=>(t.W c a).bind fun fa=>(t.W c b).bind fun fb=>some (aA o fa fb)
 |.UnaryOp .USub a _=>(t.W c a).bind fun fa=>some (eU Tn fa)
 |.UnaryOp .Not a _=>(t.W c a).bind fun fa=>some (Qm fa)
 |.BoolOp _ [a] _=>t.E c a
 |.BoolOp .And (a::b::r) p=>(t.E c a).bind fun fa=>(t.E c (.BoolOp .And (b::r) p)).bind fun fb=>some (wX fa fb)
 |.BoolOp .Or (a::b::r) p=>(t.E c a).bind fun fa=>(t.E c (.BoolOp .Or (b::r) p)).bind fun fb=>some (aeL fa fb)
 |.Compare a [op] [b] _=>(match isN op with
  |some neg=>(SM b).bind fun d=>(t.W c a).bind fun fa=>some (xH neg d fa)
  |none=>(Nz op).bind fun o=>(t.W c a).bind fun fa=>(t.W c b).bind fun fb=>gd (!yw b) (some (aA o fa fb)))
 |.Compare a [op,op'] [b,b2] _=>(Nz op).bind fun o=>(Nz op').bind fun o'=>(t.W c a).bind fun fa=>(t.W c b).bind fun fb=>(t.W c b2).bind fun fc=>gd (!yw b2) (some (UJ (lY o o' fa fb fc)))
 |.IfExp d a b _=>(t.T c d).bind fun ta=>(t.E c a).bind fun fa=>(t.E c b).bind fun fb=>some (Py ta fa fb)
 |.Tuple es _ _=>(Ec t c es).bind fun fr=>some (bx fr)
 |.List es _=>(Ec t c es).bind fun fr=>some (zX fr)
 |.Subscript a b _=>(match b with
  |.Slice lo hi none _=>(t.W c a).bind fun fa=>(trO t c lo).bind fun fl=>(trO t c hi).bind fun fh=>some (Mq fa fl fh)
  |b=>gd (!YJ b) ((t.W c a).bind fun fa=>(t.W c b).bind fun fb=>some (aA aV fa fb)))
 |.ListComp elt [⟨tg,iter,ifs,0⟩] scope _=>Y8 t c elt tg iter ifs scope
 |.Call (.Name x _) (e::es) [] _=>Zh t c x e es
 |_=>none
def stW(t:Tr)(c:Tc):Expr->Option QF
 |.Name x p=>(match JG c x with
  |some i=>some (ao i)
  |none=>t.E c (.Name x p))
 |e=>t.E c e
def valT:Expr->Bool
 |.UnaryOp .Not _ _=>false
 |.BoolOp _ _ _=>false
 |.IfExp _ _ _ _=>false
 |.Compare _ _ _ _=>false
 |_=>true
theorem ag4{e:Expr}{env:PySem.Env}(h:valT e=true):∀whole,isTrue e env whole=(do let v ←whole;standAt e.pos;holding [v] (truthy v)):=fun whole=>by
 cases e with
 | UnaryOp o a p=>cases o <;> first | (with_unfolding_all rfl) | cases h
 |BoolOp _ _ _=>cases h
 |IfExp _ _ _ _=>cases h
 |Compare _ _ _ _=>cases h
 |_=>with_unfolding_all rfl
def stT(t:Tr)(c:Tc):Expr->Option QT
 |.UnaryOp .Not a _=>(t.T c a).bind fun ta=>some (jP ta)
 |.BoolOp _ [a] _=>t.T c a
 |.BoolOp .And (a::b::r) p=>(t.T c a).bind fun ta=>(t.T c (.BoolOp .And (b::r) p)).bind fun tb=>some (mK ta tb)
 |.BoolOp .Or (a::b::r) p=>(t.T c a).bind fun ta=>(t.T c (.BoolOp .Or (b::r) p)).bind fun tb=>some (Ju ta tb)
 |.Compare a [op] [b] _=>(match isN op with
  |some neg=>(SM b).bind fun d=>(t.W c a).bind fun fa=>some (bB (xH neg d fa))
  |none=>(Nz op).bind fun o=>(t.W c a).bind fun fa=>(t.W c b).bind fun fb=>gd (!yw b) (some (bB (aA o fa fb))))
 |.Compare a [op,op'] [b,b2] _=>(Nz op).bind fun o=>(Nz op').bind fun o'=>(t.W c a).bind fun fa=>(t.W c b).bind fun fb=>(t.W c b2).bind fun fc=>gd (!yw b2) (some (lY o o' fa fb fc))
 |e=>gd (valT e) ((t.W c e).bind fun fa=>some (iY fa))
def trF(t:Tr)(c:Tc)(firm:Bool)(e:Expr):Option QF:=match firm with
 |true=>t.E c e
 |false=>t.W c e
def isTup:Expr->Bool
 |.Tuple _ _ _=>true
 |_=>false
def stI(t:Tr)(c:Tc)(firm:Bool)(tg:Expr):Expr->Option IF
 |.Call (.Name x p) [a] [] pos=>(match uF c x "range" with
  |true=>(t.W c a).bind fun fa=>gd (nst a) (some (Bj fa))
  |false=>match uF c x "enumerate" with
   |true=>(trF t c firm a).bind fun fa=>gd (nst a&&isTup tg) (some (yN 0 fa))
   |false=>(trF t c firm (.Call (.Name x p) [a] [] pos)).bind fun fa=>some (dw fa))
 |.Call (.Name x p) [a,b] [] pos=>(match uF c x "range" with
  |true=>(t.W c a).bind fun fa=>(t.W c b).bind fun fb=>gd (nst a&&nst b) (some (Bo fa fb))
  |false=>match uF c x "zip" with
   |true=>(trF t c firm a).bind fun fa=>(trF t c firm b).bind fun fb=>gd (nst a&&(nst b&&isTup tg)) (some (Km fa fb))
   |false=>(trF t c firm (.Call (.Name x p) [a,b] [] pos)).bind fun fa=>some (dw fa))
 |.Call (.Name x p) [a] [⟨some kw,.Constant (.int i) j kp,kp2⟩] pos=>gd (uF c x "enumerate"&&(kw=="start"&&(decide (-(2 ^ 63)<=i/\i < 2 ^ 63)&&(nst a&&isTup tg)))) ((trF t c firm a).bind fun fa=>some (yN i fa))
 |e=>(trF t c firm e).bind fun fa=>some (dw fa)
theorem WD{b:Expr}(h:(!YJ b)=true):PlainIx b:=fun v i=>by
 cases b <;> first | rfl | cases h
section
variable{aj:aO}{c:Tc}{X:Cx}{W:WX}{k:Nat}{t:Tr}
theorem aht(o:t.Ok)(a:Amb aj c X W k){e:Expr}{f:QF}(h:stE t c e=some f):QE aj X W e f:=by
 unfold stE at h
 split at h
 ·split at h
  ·next i hi=>
   cases h
   obtain⟨s1,s2,s3,s4⟩:=zj a hi
   exact ain s1 s2 s3 s4
  ·split at h
   ·next d hl=>
    obtain⟨hb,h⟩:=aU.mp h
    cases h
    simp only[aqa,aqs]at hb
    obtain⟨v,u,h1,h2,h3⟩:=a.gl _ _ hl
    exact PE.weak (pe_glob (rR a hb.1) h1 h2 (rW hb.2).1) fun σ H Q ⟨g,ρ,M,I,z⟩=>z v H (Ex.refl H) (h3 g H)
   ·cases h
 ·cases h;exact ajA
 ·cases h;exact ajj
 ·cases h;exact akx
 ·cases h;exact aiu
 ·obtain⟨op,h1,h⟩:=ap8.mp h
  obtain⟨fa,h2,h⟩:=ap8.mp h
  obtain⟨fb,h3,h⟩:=ap8.mp h
  cases h
  obtain⟨r,r1,r2⟩:=ahb h1 X aj W
  exact ajc r1 r2 (o.ow a h2) (o.ow a h3)
 ·obtain⟨fa,h2,h⟩:=ap8.mp h
  cases h
  exact ahv (o.ow a h2)
 ·obtain⟨fa,h2,h⟩:=ap8.mp h
  cases h
  exact afN (o.ow a h2)
 ·exact pe_one (o.oe a h)
 ·obtain⟨fa,h2,h⟩:=ap8.mp h
  obtain⟨fb,h3,h⟩:=ap8.mp h
  cases h
  exact aga (o.oe a h2) (o.oe a h3)
 ·obtain⟨fa,h2,h⟩:=ap8.mp h
  obtain⟨fb,h3,h⟩:=ap8.mp h
  cases h
  exact ajG (o.oe a h2) (o.oe a h3)
 ·split at h
  ·next neg hn=>
   obtain⟨d,h1,h⟩:=ap8.mp h
   obtain⟨fa,h2,h⟩:=ap8.mp h
   cases h
   obtain⟨v,v1,v2,v3⟩:=aaq (X:=X) h1
   refine akk v1 (ade hn v2) (o.ow a h2) v3 (Bv ?_)
   unfold SM at h1
   split at h1 <;> first | rfl | cases h1
  ·obtain⟨op,h1,h⟩:=ap8.mp h
   obtain⟨fa,h2,h⟩:=ap8.mp h
   obtain⟨fb,h3,h⟩:=ap8.mp h
   obtain⟨hb,h⟩:=aU.mp h
   cases h
   obtain⟨r,r1,r2⟩:=Bl h1 a.rm aj W
   exact ag7 r1 r2 (o.ow a h2) (o.ow a h3) (Bv (by simpa using hb))
 ·obtain⟨op,h1,h⟩:=ap8.mp h
  obtain⟨op',h1',h⟩:=ap8.mp h
  obtain⟨fa,h2,h⟩:=ap8.mp h
  obtain⟨fb,h3,h⟩:=ap8.mp h
  obtain⟨fc,h4,h⟩:=ap8.mp h
  obtain⟨hb,h⟩:=aU.mp h
  cases h
  obtain⟨r,r1,r2⟩:=Bl h1 a.rm aj W
  obtain⟨r',r1',r2'⟩:=Bl h1' a.rm aj W
  exact afd r1 r1' r2 r2' (o.ow a h2) (o.ow a h3) (o.ow a h4) (U7 (by simpa using hb))
 ·obtain⟨ta,h1,h⟩:=ap8.mp h
  obtain⟨fa,h2,h⟩:=ap8.mp h
  obtain⟨fb,h3,h⟩:=ap8.mp h
  cases h
  exact aeW (o.ot a h1) (o.oe a h2) (o.oe a h3)
 ·obtain⟨fr,h1,h⟩:=ap8.mp h
  cases h
  exact aj1 (rJ o a h1).1
 ·obtain⟨fr,h1,h⟩:=ap8.mp h
  cases h
  exact ah9 (rJ o a h1).1
 ·split at h
  ·obtain⟨fa,h1,h⟩:=ap8.mp h
   obtain⟨fl,h2,h⟩:=ap8.mp h
   obtain⟨fh,h3,h⟩:=ap8.mp h
   cases h
   exact akl (o.ow a h1) (aco o a h2) (aco o a h3)
  ·obtain⟨hb,h⟩:=aU.mp h
   obtain⟨fa,h1,h⟩:=ap8.mp h
   obtain⟨fb,h2,h⟩:=ap8.mp h
   cases h
   exact ala (o.ow a h1) (o.ow a h2) (WD hb)
 ·exact aaM o a h
 ·exact adq o a h
 ·cases h
theorem ah3(o:t.Ok)(a:Amb aj c X W k){e:Expr}{f:QF}(h:stW t c e=some f):QW aj X W e f:=by
 unfold stW at h
 split at h
 ·split at h
  ·next i hi=>
   cases h
   obtain⟨s1,s2,s3,s4⟩:=zj a hi
   exact ai6 s1 s2 s3 s4
  ·exact(o.oe a h).w
 ·exact(o.oe a h).w
theorem ahE{a b:Expr}{rest:List Expr}{ta tb:QT}{pos:Pos}(ha:rA aj X W a ta)(hb:rA aj X W (.BoolOp .And (b::rest) pos) tb):rA aj X W (.BoolOp .And (a::b::rest) pos) (mK ta tb):=by
 have hb':QWt aj X W (.BoolOp .And (b::rest) pos) tb:=⟨fun wh pins s σ H Q I q=>hb.run pins s σ H Q I q⟩
 exact PW.pt (ajX ha hb')
theorem akp{a b:Expr}{rest:List Expr}{ta tb:QT}{pos:Pos}(ha:rA aj X W a ta)(hb:rA aj X W (.BoolOp .Or (b::rest) pos) tb):rA aj X W (.BoolOp .Or (a::b::rest) pos) (Ju ta tb):=by
 have hb':QWt aj X W (.BoolOp .Or (b::rest) pos) tb:=⟨fun wh pins s σ H Q I q=>hb.run pins s σ H Q I q⟩
 exact PW.pt (akE ha hb')
theorem aij(o:t.Ok)(a:Amb aj c X W k){e:Expr}{f:QT}(h:stT t c e=some f):rA aj X W e f:=by
 unfold stT at h
 split at h
 ·obtain⟨ta,h1,h⟩:=ap8.mp h
  cases h
  exact aib (o.ot a h1)
 ·next op _ _=>
  cases op
  ·exact PW.pt (pw_and1 (o.ot a h))
  ·exact PW.pt (pw_or1 (o.ot a h))
 ·obtain⟨ta,h1,h⟩:=ap8.mp h
  obtain⟨tb,h2,h⟩:=ap8.mp h
  cases h
  exact ahE (o.ot a h1) (o.ot a h2)
 ·obtain⟨ta,h1,h⟩:=ap8.mp h
  obtain⟨tb,h2,h⟩:=ap8.mp h
  cases h
  exact akp (o.ot a h1) (o.ot a h2)
 ·split at h
  ·next neg hn=>
   obtain⟨d,h1,h⟩:=ap8.mp h
   obtain⟨fa,h2,h⟩:=ap8.mp h
   cases h
   obtain⟨v,v1,v2,v3⟩:=aaq (X:=X) h1
   refine akI v1 (ade hn v2) (o.ow a h2) v3 (Bv ?_)
   unfold SM at h1
   split at h1 <;> first | rfl | cases h1
  ·obtain⟨op,h1,h⟩:=ap8.mp h
   obtain⟨fa,h2,h⟩:=ap8.mp h
   obtain⟨fb,h3,h⟩:=ap8.mp h
   obtain⟨hb,h⟩:=aU.mp h
   cases h
   obtain⟨r,r1,r2⟩:=Bl h1 a.rm aj W
   exact aj4 r1 r2 (o.ow a h2) (o.ow a h3) (Bv (by simpa using hb))
 ·obtain⟨op,h1,h⟩:=ap8.mp h
  obtain⟨op',h1',h⟩:=ap8.mp h
  obtain⟨fa,h2,h⟩:=ap8.mp h
  obtain⟨fb,h3,h⟩:=ap8.mp h
  obtain⟨fc,h4,h⟩:=ap8.mp h
  obtain⟨hb,h⟩:=aU.mp h
  cases h
  obtain⟨r,r1,r2⟩:=Bl h1 a.rm aj W
  obtain⟨r',r1',r2'⟩:=Bl h1' a.rm aj W
  exact aed r1 r1' r2 r2' (o.ow a h2) (o.ow a h3) (o.ow a h4) (U7 (by simpa using hb))
 ·obtain⟨hv,h⟩:=aU.mp h
  obtain⟨fa,h1,h⟩:=ap8.mp h
  cases h
  exact aj9 (o.ow a h1) (ag4 hv)
theorem BR(o:t.Ok)(a:Amb aj c X W k){firm:Bool}{e:Expr}{f:QF}(h:trF t c firm e=some f):QF' aj X W firm e f:=by
 cases firm
 ·exact o.ow a h
 ·exact o.oe a h
theorem Nr{e:Expr}(h:isTup e=true):∃es j p,e=.Tuple es j p:=by
 cases e <;> first | exact⟨_,_,_,rfl⟩ | cases h
theorem ahB(o:t.Ok)(a:Amb aj c X W k){firm:Bool}{tg e:Expr}{f:IF}(h:stI t c firm tg e=some f):QI aj X W firm tg e f:=by
 unfold stI at h
 split at h
 ·split at h
  ·next hb=>
   obtain⟨fa,h1,h⟩:=ap8.mp h
   obtain⟨hs,h⟩:=aU.mp h
   cases h
   obtain⟨rfl,hg,hm⟩:=mZ a hb
   exact acB hg hm (o.ow a h1) hs
  ·split at h
   ·next hb=>
    obtain⟨fa,h1,h⟩:=ap8.mp h
    obtain⟨hs,h⟩:=aU.mp h
    cases h
    obtain⟨rfl,hg,hm⟩:=mZ a hb
    rw[aqa]at hs
    obtain⟨es,j,p,rfl⟩:=Nr hs.2
    exact af5 hg hm (BR o a h1) hs.1
   ·obtain⟨fa,h1,h⟩:=ap8.mp h
    cases h
    exact XD (BR o a h1)
 ·split at h
  ·next hb=>
   obtain⟨fa,h1,h⟩:=ap8.mp h
   obtain⟨fb,h2,h⟩:=ap8.mp h
   obtain⟨hs,h⟩:=aU.mp h
   cases h
   obtain⟨rfl,hg,hm⟩:=mZ a hb
   rw[aqa]at hs
   exact ady hg hm (o.ow a h1) (o.ow a h2) hs.1 hs.2
  ·split at h
   ·next hb=>
    obtain⟨fa,h1,h⟩:=ap8.mp h
    obtain⟨fb,h2,h⟩:=ap8.mp h
    obtain⟨hs,h⟩:=aU.mp h
    cases h
    obtain⟨rfl,hg,hm⟩:=mZ a hb
    simp only[aqa]at hs
    obtain⟨es,j,p,rfl⟩:=Nr hs.2.2
    exact ahF hg hm (BR o a h1) (BR o a h2) hs.1 hs.2.1
   ·obtain⟨fa,h1,h⟩:=ap8.mp h
    cases h
    exact XD (BR o a h1)
 ·obtain⟨hs,h⟩:=aU.mp h
  obtain⟨fa,h1,h⟩:=ap8.mp h
  cases h
  simp only[aqa,decide_eq_true_eq]at hs
  obtain⟨hb,hk,hi,hn,ht⟩:=hs
  obtain⟨rfl,hg,hm⟩:=mZ a hb
  cases eq_of_beq hk
  obtain⟨es,j,p,rfl⟩:=Nr ht
  exact aeg hi.1 hi.2 hg hm (BR o a h1) hn
 ·obtain⟨fa,h1,h⟩:=ap8.mp h
  cases h
  exact XD (BR o a h1)
end
def MV.n:MV->Nat
 |.q n _=>n
 |.g n _=>n
def MV.qt:MV->Bool
 |.q _ _=>true
 |.g _ _=>false
def tbN(tb:List (Str×MV))(n:Nat):Bool:=tb.all fun p=>p.2.n==n
def tbQ(tb:List (Str×MV)):Bool:=tb.all fun p=>p.2.qt
theorem pJ{α:Type}{c:Str}{v:α}:∀{tb:List (Str×α)},tb.lookup c=some v->(c,v)∈tb
 |[],h=>nomatch h
 |(y,u)::r,h=>by
  rw[aqA]at h
  split at h
  ·next e=>
   cases h
   rw[eq_of_beq e]
   exact aqf
  ·exact aqe _ (pJ h)
section
variable{aj:aO}{c:Tc}{X:Cx}{W:WX}{k:Nat}{t:Tr}
theorem Wq(a:Amb aj c X W k){m:Str}{n:Nat}{tb:List (Str×MV)}(h:c.hs.Ms.lookup m=some tb)(hn:tbN tb n=true):HW X aj k m n tb:=fun y v hv=>by
 refine⟨a.hk.ms m tb h y v hv,?_⟩
 have:=aqu.mp hn _ (pJ hv)
 cases v <;> exact eq_of_beq this
def YG(t:Tr)(c:Tc)(o:Expr)(m:Str)(es:List Expr)(apos pos:Pos):Option QF:=
 (c.hs.Ms.lookup m).bind fun tb=>(t.W c o).bind fun fo=>(Ec t c es).bind fun as=>
  gd (tbQ tb&&(tbN tb (es.length+1)&&(baseOk o&&(decide (es.length < 30)&&(apos.endLine==pos.line))))) (some (aP tb fo as))
theorem acF(o:t.Ok)(a:Amb aj c X W k){b:Expr}{m:Str}{es:List Expr}{apos pos:Pos}{f:QF}(h:YG t c b m es apos pos=some f):QE aj X W (.Call (.Attribute b m apos) es [] pos) f:=by
 unfold YG at h
 obtain⟨tb,h1,h⟩:=ap8.mp h
 obtain⟨fo,h2,h⟩:=ap8.mp h
 obtain⟨as,h3,h⟩:=ap8.mp h
 obtain⟨hb,h⟩:=aU.mp h
 cases h
 simp only[aqa,decide_eq_true_eq]at hb
 obtain⟨_,b2,b3,b4,b5⟩:=hb
 obtain⟨i1,i2,i3⟩:=rJ o a h3
 cases es with
 |nil=>
  cases h3
  exact aez a.tk a.rm (Wq a h1 b2) (o.ow a h2) b3 b5
 |cons e es=>exact agU a.tk a.rm (Wq a h1 b2) (o.ow a h2) i1 i3 b3 i2 b5 b4
def inN:CmpOp->Option Bool
 |.In=>some false
 |.NotIn=>some true
 |_=>none
theorem ab7{op:CmpOp}{neg:Bool}(hr:Room k X.A)(h:inN op=some neg):OpR X (compareOp op) (rInD X neg):=by
 have h65:X.A.units+64 < cLine:=by have:=hr.un;omega
 cases op <;> cases h
 ·exact op_inD h65
 ·exact op_notInD h65
def abK(t:Tr)(c:Tc)(e:Expr)(op:CmpOp)(o:Expr)(f:Str):Option QF:=
 (inN op).bind fun neg=>(c.hs.df.lookup f).bind fun _=>(t.E c e).bind fun fe=>(t.W c o).bind fun fo=>gd (baseOk o) (some (NT neg f fe fo))
theorem ajB{o e:Expr}{f:Str}{p1 pos:Pos}{fo fk:QF}{neg:Bool}{op:CmpOp}(co:jh X.K aj)(hw:aj.w=X.w)(hr:OpR X (compareOp op) (rInD X neg))(hk:QE aj X W e fk)(ho:QW aj X W o fo)(hb:baseOk o=true):rA aj X W (.Compare e [op] [.Attribute o f p1] pos) (bB (NT neg f fk fo)):=
 PT.weak (pt_cmpR hr hk (pe_fld ho (lN hb)) (by cases op <;> rfl)) fun σ H Q ⟨g,ρ,M,I,h⟩=>by
  refine afn co hw σ H _ ⟨g,ρ,M,I,h.bnd.mono (fun d h1 v H' e' r'=>?_) fun _ z=>z⟩
  obtain⟨k,h2,h3⟩:=Dr r'.weak h1
  exact⟨k,h2,h3 H' e'⟩
theorem aaY(o:t.Ok)(a:Amb aj c X W k){e b:Expr}{op:CmpOp}{m:Str}{p1 pos:Pos}{f:QF}(h:abK t c e op b m=some f):QE aj X W (.Compare e [op] [.Attribute b m p1] pos) f/\rA aj X W (.Compare e [op] [.Attribute b m p1] pos) (bB f):=by
 unfold abK at h
 obtain⟨neg,h1,h⟩:=ap8.mp h
 obtain⟨_,_,h⟩:=ap8.mp h
 obtain⟨fe,h2,h⟩:=ap8.mp h
 obtain⟨fo,h3,h⟩:=ap8.mp h
 obtain⟨hb,h⟩:=aU.mp h
 cases h
 exact⟨ajN a.hk.co a.hk.hw (ab7 a.rm h1) (o.oe a h2) (o.ow a h3) hb,ajB a.hk.co a.hk.hw (ab7 a.rm h1) (o.oe a h2) (o.ow a h3) hb⟩
def Wr(t:Tr)(c:Tc)(e:Expr)(op:CmpOp)(x:Str):Option QF:=
 (inN op).bind fun neg=>match c.G.lookup x with
  |some (.dic kvs)=>(t.W c e).bind fun fe=>gd (EY c.sc x&&!Fv x) (some (Uc neg kvs fe))
  |_=>none
theorem Yu(o:t.Ok)(a:Amb aj c X W k){e:Expr}{op:CmpOp}{x:Str}{p1 pos:Pos}{f:QF}(h:Wr t c e op x=some f):QE aj X W (.Compare e [op] [.Name x p1] pos) f/\rA aj X W (.Compare e [op] [.Name x p1] pos) (bB f):=by
 unfold Wr at h
 obtain⟨neg,h1,h⟩:=ap8.mp h
 split at h
 ·next kvs hl=>
  obtain⟨fe,h2,h⟩:=ap8.mp h
  obtain⟨hb,h⟩:=aU.mp h
  cases h
  simp only[aqa,aqs]at hb
  refine ajL ?_ (a.gl x _ hl) (rR a hb.1) (rW hb.2).1 (o.ow a h2)
  cases op <;> cases h1
  ·exact .inl ⟨rfl,rfl⟩
  ·exact .inr ⟨rfl,rfl⟩
 ·cases h
def Xp(t:Tr)(c:Tc):Expr->Option QF
 |.Call (.Name y _) [b] [] _=>(match uF c y "set" with
  |true=>(t.W c b).bind fun fb=>gd (nst b) (some (eU Pj fb))
  |false=>(t.W c (.Call (.Name y ⟨0,0,0,0⟩) [b] [] ⟨0,0,0,0⟩)).bind fun _=>none)
 |e=>(t.W c e).bind fun fe=>gd (nst e) (some (eU Ih fe))
theorem aiH(a:Amb aj c X W k):X.A.units+65 < cLine:=by have:=a.rm.un;omega
theorem abY(o:t.Ok)(a:Amb aj c X W k)(hg:Gl X "sorted")(hm:X.mg "sorted"=none){e:Expr}{p pos:Pos}{f:QF}(h:Xp t c e=some f):QE aj X W (.Call (.Name "sorted" p) [e] [] pos) f:=by
 unfold Xp at h
 split at h
 ·split at h
  ·next hb=>
   obtain⟨fb,h1,h⟩:=ap8.mp h
   obtain⟨hn,h⟩:=aU.mp h
   cases h
   obtain⟨rfl,hg2,hm2⟩:=mZ a hb
   exact agW (aiH a) a.calm hg hm hg2 hm2 (o.ow a h1) hn
  ·obtain⟨_,_,h⟩:=ap8.mp h
   cases h
 ·obtain⟨fe,h1,h⟩:=ap8.mp h
  obtain⟨hn,h⟩:=aU.mp h
  cases h
  exact agE (aiH a) hg hm (o.ow a h1) hn
def P0(t:Tr)(c:Tc)(elt tg iter:Expr)(ifs:List Expr)(tg1 iter1:Expr)(ifs1:List Expr)(scope:Scope):Option QF:=
 (t.I c false tg iter).bind fun it=>(UW (c.inn scope) tg).bind fun jt=>(RB t (c.inn scope) ifs).bind fun tt=>(t.I (c.inn scope) true tg1 iter1).bind fun it1=>(UW (c.inn scope) tg1).bind fun jt1=>(RB t (c.inn scope) ifs1).bind fun tt1=>(t.E (c.inn scope) elt).bind fun te=>
  gd (blkC c.N c.sc scope (pq tg jt.1++pq tg1 jt1.1)&&(Nu ((pq tg1 jt1.1).map (·.2)) ((pq tg jt.1++pq tg1 jt1.1).map (·.2))&&(Nu jt.1 ((pq tg jt.1++pq tg1 jt1.1).map (·.2))&&(Nu jt1.1 ((pq tg1 jt1.1).map (·.2))&&(!yw iter&&!yw iter1)))))
   (some (Cp it jt.2 ((pq tg jt.1++pq tg1 jt1.1).map (·.2)) tt it1 jt1.2 ((pq tg1 jt1.1).map (·.2)) tt1 te))
theorem aei(o:t.Ok)(a:Amb aj c X W k){elt tg iter tg1 iter1:Expr}{ifs ifs1:List Expr}{scope:Scope}{pos:Pos}{f:QF}(h:P0 t c elt tg iter ifs tg1 iter1 ifs1 scope=some f):QE aj X W (.ListComp elt [⟨tg,iter,ifs,0⟩,⟨tg1,iter1,ifs1,0⟩] scope pos) f:=by
 unfold P0 at h
 obtain⟨it,h1,h⟩:=ap8.mp h
 obtain⟨⟨js,tf⟩,h2,h⟩:=ap8.mp h
 obtain⟨tt,h3,h⟩:=ap8.mp h
 obtain⟨it1,h4,h⟩:=ap8.mp h
 obtain⟨⟨js1,tf1⟩,h5,h⟩:=ap8.mp h
 obtain⟨tt1,h6,h⟩:=ap8.mp h
 obtain⟨te,h7,h⟩:=ap8.mp h
 obtain⟨hb,h⟩:=aU.mp h
 cases h
 simp only[aqa,aqs]at hb
 obtain⟨b1,b2,b3,b4,b5,b6⟩:=hb
 exact ahC a.calm a.nd (o.oi a h1) (by rw[a.hN,a.hs];exact b1) (oO b2) (oO b3) (oO b4) (fun s H C cl fp=>uO (a.inn _ s H C cl fp) h2) (fun s H C cl fp=>vO o (a.inn _ s H C cl fp) h3) (fun s H C cl fp=>o.oi (a.inn _ s H C cl fp) h4) (fun s H C cl fp=>uO (a.inn _ s H C cl fp) h5) (fun s H C cl fp=>vO o (a.inn _ s H C cl fp) h6) (fun s H C cl fp=>o.oe (a.inn _ s H C cl fp) h7) (qM b5) (fun env=>qM b6)
def xE(t:Tr)(c:Tc):Expr->Option QF
 |.Attribute o f _=>gd (baseOk o) ((t.W c o).bind fun fo=>some (gq f fo))
 |.Call (.Attribute o m apos) es [] pos=>YG t c o m es apos pos
 |.Compare e [op] [.Attribute o f _] _=>abK t c e op o f
 |.Compare e [op] [.Name x _] _=>Wr t c e op x
 |.Subscript (.Name x _) e _=>(match c.G.lookup x with
  |some (.dic kvs)=>(t.W c e).bind fun fe=>gd (EY c.sc x&&(!Fv x&&!YJ e)) (some (aa2 kvs fe))
  |_=>none)
 |.ListComp elt [⟨tg,iter,ifs,0⟩,⟨tg1,iter1,ifs1,0⟩] scope _=>P0 t c elt tg iter ifs tg1 iter1 ifs1 scope
 |.Call (.Name x _) [e] [] _=>(match uF c x "sorted" with
  |true=>Xp t c e
  |false=>match uF c x "list",e with
   |true,.Attribute o f _=>(c.hs.df.lookup f).bind fun _=>(t.W c o).bind fun fo=>gd (baseOk o) (some (Bx f fo))
   |_,_=>none)
 |_=>none
theorem akZ(o:t.Ok)(a:Amb aj c X W k){e:Expr}{f:QF}(h:xE t c e=some f):QE aj X W e f:=by
 unfold xE at h
 split at h
 ·obtain⟨hb,h⟩:=aU.mp h
  obtain⟨fo,h1,h⟩:=ap8.mp h
  cases h
  exact aie a.hk.co (o.ow a h1) hb
 ·exact acF o a h
 ·exact(aaY o a h).1
 ·exact(Yu o a h).1
 ·split at h
  ·next kvs hl=>
   obtain⟨fe,h1,h⟩:=ap8.mp h
   obtain⟨hb,h⟩:=aU.mp h
   cases h
   simp only[aqa]at hb
   exact ajb (a.gl _ _ hl) (rR a hb.1) (rW (by simpa using hb.2.1)).1 (o.ow a h1) (WD hb.2.2)
  ·cases h
 ·exact aei o a h
 ·split at h
  ·next hb=>
   obtain⟨rfl,hg,hm⟩:=mZ a hb
   exact abY o a hg hm h
  ·split at h
   ·next hb=>
    obtain⟨_,_,h⟩:=ap8.mp h
    obtain⟨fo,h1,h⟩:=ap8.mp h
    obtain⟨hb2,h⟩:=aU.mp h
    cases h
    obtain⟨rfl,hg,hm⟩:=mZ a hb
    exact aeK a.hk.co a.hk.hw a.calm hg hm (o.ow a h1) hb2
   ·cases h
 ·cases h
def xW(t:Tr)(c:Tc):Expr->Option QF
 |.Attribute o f _=>gd (baseOk o) ((t.W c o).bind fun fo=>some (bH f fo))
 |_=>none
theorem ak1(o:t.Ok)(a:Amb aj c X W k){e:Expr}{f:QF}(h:xW t c e=some f):QW aj X W e f:=by
 unfold xW at h
 split at h
 ·obtain⟨hb,h⟩:=aU.mp h
  obtain⟨fo,h1,h⟩:=ap8.mp h
  cases h
  exact ai2 a.hk.co (o.ow a h1) hb
 ·cases h
def xT(t:Tr)(c:Tc):Expr->Option QT
 |.Compare e [op] [.Attribute o f _] _=>(abK t c e op o f).bind fun g=>some (bB g)
 |.Compare e [op] [.Name x _] _=>(Wr t c e op x).bind fun g=>some (bB g)
 |_=>none
theorem alq(o:t.Ok)(a:Amb aj c X W k){e:Expr}{f:QT}(h:xT t c e=some f):rA aj X W e f:=by
 unfold xT at h
 split at h
 ·obtain⟨g,h1,h⟩:=ap8.mp h
  cases h
  exact(aaY o a h1).2
 ·obtain⟨g,h1,h⟩:=ap8.mp h
  cases h
  exact(Yu o a h1).2
 ·cases h
def xI(t:Tr)(c:Tc)(firm:Bool):Expr->Option IF
 |.Attribute o f _=>(match firm with
  |true=>none
  |false=>(c.hs.df.lookup f).bind fun _=>gd (baseOk o) ((t.W c o).bind fun fo=>some (Bp f fo)))
 |_=>none
theorem akX(o:t.Ok)(a:Amb aj c X W k){firm:Bool}{tg e:Expr}{f:IF}(h:xI t c firm e=some f):QI aj X W firm tg e f:=by
 unfold xI at h
 split at h
 ·split at h
  ·cases h
  ·obtain⟨_,_,h⟩:=ap8.mp h
   obtain⟨hb,h⟩:=aU.mp h
   obtain⟨fo,h1,h⟩:=ap8.mp h
   cases h
   exact ae4 a.hk.co a.hk.hw (o.ow a h1) hb
 ·cases h
def els{α:Type}(a b:Option α):Option α:=match a with
 |some x=>some x
 |none=>b
theorem vD{α:Type}{a b:Option α}{x:α}(h:els a b=some x):a=some x∨b=some x:=by
 cases a with
 |none=>exact .inr h
 |some y=>exact .inl h
def xtE(t:Tr)(c:Tc)(e:Expr):Option QF:=els (xE t c e) (stE t c e)
def xtW(t:Tr)(c:Tc)(e:Expr):Option QF:=els (xW t c e) (stW t c e)
def xtT(t:Tr)(c:Tc)(e:Expr):Option QT:=els (xT t c e) (stT t c e)
def xtI(t:Tr)(c:Tc)(firm:Bool)(tg e:Expr):Option IF:=els (xI t c firm e) (stI t c firm tg e)
end
structure uH(aj:aO)(c:Tc)(X:Cx)(W:WX)(k:Nat):Prop extends Amb aj c X W k where
 ps:PassesOwn (model X.prog X.w) X.A X.env X.xe
 st:X.stack=X.env::X.outer
 fr:X.env.frame=some X.env.locals
 kf:X.env.scope.kind=.function
structure Ts where
 G:Tc->Expr->Option GF
 H:Tc->Expr->Option GT
 S:Tc->Stmt->Option SF
 B:Tc->List Stmt->Option SF
structure Ts.Ok(s:Ts)(q:Bool):Prop where
 og:∀{aj:aO} {c:Tc} {X:Cx} {W:WX} {k:Nat},uH aj c X W k->∀{e:Expr} {f:GF},s.G c e=some f->GE aj X W q e f
 oh:∀{aj:aO} {c:Tc} {X:Cx} {W:WX} {k:Nat},uH aj c X W k->∀{e:Expr} {f:GT},s.H c e=some f->GTe aj X W q e f
 os:∀{aj:aO} {c:Tc} {X:Cx} {W:WX} {k:Nat},uH aj c X W k->∀{e:Stmt} {f:SF},s.S c e=some f->SE aj X W q e f
 ob:∀{aj:aO} {c:Tc} {X:Cx} {W:WX} {k:Nat},uH aj c X W k->∀{e:List Stmt} {f:SF},s.B c e=some f->Iz aj X W q e f
def Dz:Expr->Bool
 |.ListComp _ _ _ _=>true
 |.SetComp _ _ _ _=>true
 |.DictComp _ _ _ _ _=>true
 |_=>false
theorem Eo{e:Expr}{tg:Option Expr}{l:Nat}{env:PySem.Env}(h:Dz e=false):swapsWith e tg l env=pure false:=by
 cases e <;> first | rfl | cases h
def abM:Expr->Bool
 |.Tuple _ _ _=>true
 |_=>false
def swB(sc:Scope)(v:Expr)(scope:Scope)(x:Str)(p:Pos):Bool:=(match sc.names.lookup x with
 |some .local=>true
 |_=>false)&&(p.line==v.pos.line&&!(scope.names.any fun(n,k)=>n==x&&(k==.local || k==.cell)))
theorem O6{X:Cx}{elt:Expr}{gens:List Comprehension}{scope:Scope}{pos p:Pos}{x:Str}{l:Nat}(hk:X.env.scope.kind=.function)(h:swB X.env.scope (.ListComp elt gens scope pos) scope x p=true):X.env.scope.names.lookup x=some .local/\swapsWith (.ListComp elt gens scope pos) (some (.Name x p)) l X.env=pure true:=by
 unfold swB at h
 simp only[aqa]at h
 obtain⟨h1,h2,h3⟩:=h
 have e1:X.env.scope.names.lookup x=some .local:=by
  split at h1
  ·assumption
  ·cases h1
 refine⟨e1,?_⟩
 have eb:X.env.blockKind=.function:=by
  unfold PySem.Env.blockKind
  rw[hk]
  rfl
 unfold swapsWith
 show(pure (X.env.blockKind==.function&&X.env.kindOf x==some .local&&p.line==(Expr.ListComp elt gens scope pos).pos.line&&!(scope.names.any fun(n,k)=>n==x&&(k==.local || k==.cell))):Sem Bool)=pure true
 rw[eb,h2,h3]
 unfold PySem.Env.kindOf
 rw[e1]
 rfl
theorem ac1{X:Cx}{elt:Expr}{gens:List Comprehension}{scope:Scope}{pos p:Pos}{x:Str}{l:Nat}(h:(p.line==(Expr.ListComp elt gens scope pos).pos.line)=false):swapsWith (.ListComp elt gens scope pos) (some (.Name x p)) l X.env=pure false:=by
 unfold swapsWith
 show(pure (X.env.blockKind==.function&&X.env.kindOf x==some .local&&p.line==(Expr.ListComp elt gens scope pos).pos.line&&!(scope.names.any fun(n,k)=>n==x&&(k==.local || k==.cell))):Sem Bool)=pure false
 rw[h,Bool.and_false,Bool.false_and]
def trN(t:Tr)(c:Tc):Expr->Option IF
 |.List es _=>(Ec t c es).bind fun fr=>some (Q9 fr)
 |_=>none
theorem adf{aj:aO}{c:Tc}{X:Cx}{W:WX}{k:Nat}{t:Tr}(o:t.Ok)(a:Amb aj c X W k){e:Expr}{f:IF}(h:trN t c e=some f):FE aj X W e f/\Dz e=false:=by
 unfold trN at h
 split at h
 ·obtain⟨fr,h1,h⟩:=ap8.mp h
  cases h
  exact⟨ajf (rJ o a h1).1,rfl⟩
 ·cases h
def Rr(c:Tc):List Str->Option (List Nat)
 |[]=>some []
 |x::xs=>(match c.sc.names.lookup x with
  |some .local=>(idx c.N x).bind fun i=>(Rr c xs).bind fun js=>some (i::js)
  |_=>none)
theorem aar{aj:aO}{c:Tc}{X:Cx}{W:WX}{k:Nat}(a:Amb aj c X W k):∀{xs:List Str} {js:List Nat},Rr c xs=some js->xs.length=js.length/\∀(n:Nat) (x:Str) (j:Nat),xs[n]?=some x->js[n]?=some j->X.N[j]?=some x/\X.env.scope.names.lookup x=some .local
 |[],js,h=>by
  cases h
  exact⟨rfl,fun n x j e=>by simp at e⟩
 |x::xs,js,h=>by
  rw[Rr]at h
  split at h
  ·next e=>
   obtain⟨i,h1,h⟩:=ap8.mp h
   obtain⟨r,h2,h⟩:=ap8.mp h
   cases h
   obtain⟨i1,i2⟩:=aar a h2
   refine⟨by simp[i1],fun n y j e1 e2=>?_⟩
   cases n with
   |zero=>
    simp at e1 e2
    subst e1 e2
    exact⟨by rw[a.hN];exact Fo h1,by rw[a.hs];exact e⟩
   |succ n=>exact i2 n y j (by simpa using e1) (by simpa using e2)
  ·cases h
def nmE:Expr->Option (Str×Nat)
 |.Name x p=>some (x,p.line)
 |_=>none
def Tv:List Expr->Option (List (Str×Nat))
 |[]=>some []
 |e::es=>(nmE e).bind fun x=>(Tv es).bind fun r=>some (x::r)
def pnB(c:Tc)(ts vs:List Expr):Option (List Nat):=
 (Tv ts).bind fun nls=>gd ((ts.length==2 || ts.length==3)&&(vs.length==ts.length&&(vs.all nst&&(nls.all (fun p=>p.2==((ts.head?.map (·.pos.line)).getD 0))&&((nls.map (·.1)).eraseDups.length==nls.length&&(!(vs.all (foldedForSure 8))&&!(vs.all (constantsAlone 8)))))))) (Rr c (nls.map (·.1)))
theorem Xx:∀{ts:List Expr} {nls:List (Str×Nat)},Tv ts=some nls->nls.length=ts.length
 |[],_,h=>by cases h;rfl
 |e::es,_,h=>by
  rw[Tv]at h
  obtain⟨x,h1,h⟩:=ap8.mp h
  obtain⟨r,h2,h⟩:=ap8.mp h
  cases h
  simp[Xx h2]
theorem Ql{sc:Scope}{l:Nat}:∀{ts:List Expr} {nls:List (Str×Nat)},Tv ts=some nls->nls.all (fun p=>p.2==l)=true->(∀x∈nls.map (·.1),sc.names.lookup x=some .local)->
  (ts.filterMap fun e=>match e with
  |.Name id pos=>if sc.names.lookup id==some .local&&pos.line==l then some id else none
  |_=>none)=nls.map (·.1)
 |[],_,h,_,_=>by cases h;rfl
 |e::es,_,h,hl,hk=>by
  rw[Tv]at h
  obtain⟨x,h1,h⟩:=ap8.mp h
  obtain⟨r,h2,h⟩:=ap8.mp h
  cases h
  rw[aqK,aqa]at hl
  have ih:=Ql (sc:=sc) h2 hl.2 fun y hy=>hk y (aqe _ hy)
  cases e with
  |Name y p=>
   cases h1
   have e1:=hk y aqf
   have e2:(if sc.names.lookup y==some .local&&p.line==l then some y else none)=some y:=by
    rw[e1,show(p.line==l)=true from hl.1]
    rfl
   simp only[List.filterMap_cons,e2,ih,aqd]
  |_=>cases h1
theorem Jc:∀(n:Nat) (l:List Str),l.length=n->l.eraseDups.length=l.length->l.Nodup:=by
 intro n
 induction n using Nat.strongRecOn with
 |_ n ih=>
  intro l hn h
  cases l with
  |nil=>exact ari
  |cons a r=>
   rw[aq9]at h
   simp only[aqn]at h hn
   have h1:(r.filter fun b=>!b==a).length<=r.length:=aqq _ _
   have h2:∀l:List Str,l.eraseDups.length<=l.length:=by
    intro l
    induction hm:l.length using Nat.strongRecOn generalizing l with
    |_ m ihm=>
     cases l with
     |nil=>simp
     |cons x xs=>
      rw[aq9]
      simp only[aqn]at hm ⊢
      have z:(xs.filter fun b=>!b==x).length<=xs.length:=aqq _ _
      have:=ihm _ (by omega) (xs.filter fun b=>!b==x) rfl
      omega
   have h3:=h2 (r.filter fun b=>!b==a)
   have e1:(r.filter fun b=>!b==a).length=r.length:=by omega
   have e2:(r.filter fun b=>!b==a)=r:=ara.mpr (List.length_filter_eq_length_iff.mp e1)
   rw[e2]at h
   rw[aqZ]
   refine⟨fun z=>?_,ih r.length (by omega) r rfl (by omega)⟩
   have:=ara.mp e2 a z
   simp at this
theorem aaU{aj:aO}{c:Tc}{X:Cx}{W:WX}{k:Nat}(a:Amb aj c X W k):∀{xs:List Str} {js:List Nat},Rr c xs=some js->xs.Nodup->js.Nodup/\∀j∈js,∃x∈xs,X.N[j]?=some x
 |[],js,h,_=>by
  cases h
  exact⟨ari,fun j hj=>by simp at hj⟩
 |x::xs,js,h,nd=>by
  rw[Rr]at h
  rw[aqZ]at nd
  split at h
  ·next e=>
   obtain⟨i,h1,h⟩:=ap8.mp h
   obtain⟨r,h2,h⟩:=ap8.mp h
   cases h
   obtain⟨i1,i2⟩:=aaU a h2 nd.2
   have hi:X.N[i]?=some x:=by rw[a.hN];exact Fo h1
   refine⟨aqZ.mpr ⟨fun z=>?_,i1⟩,fun j hj=>?_⟩
   ·obtain⟨y,hy,e2⟩:=i2 i z
    rw[hi]at e2
    cases e2
    exact nd.1 hy
   ·rcases aqp.mp hj with rfl|hj
    ·exact⟨x,aqf,hi⟩
    ·obtain⟨y,hy,e2⟩:=i2 j hj
     exact⟨y,aqe _ hy,e2⟩
  ·cases h
theorem agM{vs:List Expr}(h:vs.all nst=true):(vs.any fun e=>match e with
  |.Starred _ _=>true
  |_=>false)=false:=by
 induction vs with
 |nil=>rfl
 |cons v vs ih=>
  rw[aqK,aqa]at h
  rw[aq1,ih h.2,Bool.or_false]
  cases v <;> first | rfl | cases h.1
theorem aiS{aj:aO}{c:Tc}{X:Cx}{W:WX}{k:Nat}(a:uH aj c X W k){ts vs:List Expr}{js:List Nat}{kt k2:Nat}{pt p2:Pos}(h:pnB c ts vs=some js) :
  ∃xs:List Str,xs.length=js.length/\js.length<=3/\js.Nodup/\(∀(n:Nat) (x:Str) (j:Nat),xs[n]?=some x->js[n]?=some j->X.N[j]?=some x/\X.env.scope.names.lookup x=some .local)/\swappedStores [.Tuple ts kt pt] (.Tuple vs k2 p2) X.env=pure (some xs):=by
 unfold pnB at h
 obtain⟨nls,h1,h⟩:=ap8.mp h
 obtain⟨hb,h⟩:=aU.mp h
 simp only[aqa,aqs]at hb
 obtain⟨b1,b2,b3,b4,b5,b6,b7⟩:=hb
 have l1:=Xx h1
 obtain⟨i1,i2⟩:=aar a.toAmb h
 have nd:=Jc _ _ rfl (by rw[aqj];exact eq_of_beq b5)
 obtain⟨d1,d2⟩:=aaU a.toAmb h nd
 have hloc:∀x∈nls.map (·.1),X.env.scope.names.lookup x=some .local:=fun x hx=>by
  obtain⟨n,hn,e⟩:=List.mem_iff_getElem.mp hx
  have hj:n < js.length:=by rw[←i1];exact hn
  exact(i2 n x js[n] (by rw[aqc hn,e]) (aqc hj)).2
 have hf:=Ql (sc:=X.env.scope) h1 b4 hloc
 have h3:ts.length=2∨ts.length=3:=by
  rw[aro]at b1
  exact b1.imp eq_of_beq eq_of_beq
 refine⟨nls.map (·.1),i1,?_,d1,i2,?_⟩
 ·rw[←i1,aqj,l1]
  omega
 ·have eb:X.env.blockKind=.function:=by
   unfold PySem.Env.blockKind
   rw[a.kf]
   rfl
  unfold swappedStores
  have e1:(!(ts.length==2 || ts.length==3) || vs.length != ts.length || X.env.blockKind != .function)=false:=by
   rw[b1,eb,eq_of_beq b2]
   simp
  have e2:=agM b3
  have e3:(nls.map (·.1)).length=ts.length:=by rw[aqj,l1]
  have e4:((nls.map (·.1)).length != ts.length || (nls.map (·.1)).eraseDups.length != (nls.map (·.1)).length)=false:=by
   rw[e3,eq_of_beq b5,l1]
   simp
  simp only[e1,aqE,if_false]
  generalize hA:List.filterMap (β:=Str) _ ts=A
  have eA:A=nls.map (·.1):=hA.symm.trans hf
  subst eA
  split
  ·next z=>exact absurd (z.symm.trans e2) (by decide)
  ·rw[e4,b6,b7]
   rfl
section
variable{X:Cx}{aj:aO}{W:WX}{q:Bool}{e:Expr}{pos:Pos}
theorem aj6{j:Nat}{y:Str}{py:Pos}{elt tg iter:Expr}{cpos:Pos}{scope:Scope}{own:List (Str×Nat)}{it:IF}{tgf:fB}{js:List Nat}{tt:QT}{te:QF}{ifs:List Expr}(hc:X.calm=true)(hN:X.N.Nodup)(hy:X.N[j]?=some y)(hyl:X.env.scope.names.lookup y=some .local)
  (hsw:swapsWith (.ListComp elt [⟨tg,iter,ifs,0⟩] scope cpos) (some (.Name y py)) pos.line X.env=pure true) (hi:QI aj X W false tg iter it) (ok:blkC X.N X.env.scope scope own=true) (hj:∀j∈js,j∈own.map (·.2))
  (hg:∀(s:Shared) (H:Hp) (C:Addr) (cl:List (Str×Addr)) (fp:List Addr),QG aj (X.blk s H scope (compEnvC scope cl C X.env) fp) tg js tgf)
  (ht:∀(s:Shared) (H:Hp) (C:Addr) (cl:List (Str×Addr)) (fp:List Addr),PTs (X.blk s H scope (compEnvC scope cl C X.env) fp) ifs (jT X.K aj WF tt))
  (he:∀(s:Shared) (H:Hp) (C:Addr) (cl:List (Str×Addr)) (fp:List Addr),QE aj (X.blk s H scope (compEnvC scope cl C X.env) fp) WF elt te) (hs:∀x,foldedSetIterable iter X.env x=pure x) :
  SE aj X W q (.Assign [.Name y py] (.ListComp elt [⟨tg,iter,ifs,0⟩] scope cpos) pos) (Hl j (Ce it tgf (own.map (·.2)) tt te)):=by
 refine PS.weak (ps_setLc (g:=yR X.K aj js tgf) (tt:=jT X.K aj WF tt) (te:=tQ X.K aj WF te) hc hN hy hyl hsw hi (blkOk_by ok) (fun s H C cl fp=>hg s H C cl fp) ht (fun s H C cl fp=>he s H C cl fp) hs) fun D σ H h=>?_
 exact X5 hj σ H _ (adL D σ H h)
end
def afG(t:Tr)(c:Tc)(elt tg iter:Expr)(ifs:List Expr)(scope:Scope):Option IF:=
 (t.I c false tg iter).bind fun it=>(UW (c.inn scope) tg).bind fun jt=>(RB t (c.inn scope) ifs).bind fun tt=>(t.E (c.inn scope) elt).bind fun te=>
  gd (blkC c.N c.sc scope (pq tg jt.1)&&(Nu jt.1 ((pq tg jt.1).map (·.2))&&!yw iter)) (some (Ce it jt.2 ((pq tg jt.1).map (·.2)) tt te))
def TF(t:Tr)(c:Tc)(x:Str)(p:Pos)(elt tg iter:Expr)(ifs:List Expr)(scope:Scope)(cpos:Pos):Option SF:=
 (vf c x).bind fun j=>gd (swB c.sc (.ListComp elt [⟨tg,iter,ifs,0⟩] scope cpos) scope x p || !(p.line==(Expr.ListComp elt [⟨tg,iter,ifs,0⟩] scope cpos).pos.line))
  (match c.ml.contains x with
  |true=>(afG t c elt tg iter ifs scope).bind fun f=>some (Hl j f)
  |false=>(Y8 t c elt tg iter ifs scope).bind fun f=>some (aZ (aF j) (gOf f)))
section
variable{aj:aO}{c:Tc}{X:Cx}{W:WX}{k:Nat}{t:Tr}{q:Bool}
theorem abo(o:t.Ok)(a:uH aj c X W k){x:Str}{p cpos pos:Pos}{elt tg iter:Expr}{ifs:List Expr}{scope:Scope}{f:SF}(h:TF t c x p elt tg iter ifs scope cpos=some f):SE aj X W q (.Assign [.Name x p] (.ListComp elt [⟨tg,iter,ifs,0⟩] scope cpos) pos) f:=by
 unfold TF at h
 obtain⟨j,hj,h⟩:=ap8.mp h
 obtain⟨hsw,h⟩:=aU.mp h
 obtain⟨s1,s2,s3⟩:=lV a.toAmb hj
 rw[aro]at hsw
 split at h
 ·obtain⟨f1,h1,h⟩:=ap8.mp h
  cases h
  unfold afG at h1
  obtain⟨it,h2,h1⟩:=ap8.mp h1
  obtain⟨⟨js,tf⟩,h3,h1⟩:=ap8.mp h1
  obtain⟨tt,h4,h1⟩:=ap8.mp h1
  obtain⟨te,h5,h1⟩:=ap8.mp h1
  obtain⟨hb,h1⟩:=aU.mp h1
  cases h1
  simp only[aqa,aqs]at hb
  obtain⟨b1,b2,b3⟩:=hb
  rcases hsw with hsw|hsw
  ·rw[←a.hs]at hsw
   obtain⟨l1,l2⟩:=O6 (l:=pos.line) a.kf hsw
   exact aj6 a.calm a.nd s1 l1 l2 (o.oi a.toAmb h2) (by rw[a.hN,a.hs];exact b1) (oO b2) (fun s H C cl fp=>uO (a.toAmb.inn scope s H C cl fp) h3) (fun s H C cl fp=>vO o (a.toAmb.inn scope s H C cl fp) h4) (fun s H C cl fp=>o.oe (a.toAmb.inn scope s H C cl fp) h5) (qM b3)
  ·exact acf a.nd s1 s2 s3 (akD a.calm a.nd (o.oi a.toAmb h2) (by rw[a.hN,a.hs];exact b1) (oO b2) (fun s H C cl fp=>uO (a.toAmb.inn scope s H C cl fp) h3) (fun s H C cl fp=>vO o (a.toAmb.inn scope s H C cl fp) h4) (fun s H C cl fp=>o.oe (a.toAmb.inn scope s H C cl fp) h5) (qM b3)) (ac1 (by simpa using hsw))
 ·obtain⟨f1,h1,h⟩:=ap8.mp h
  cases h
  rcases hsw with hsw|hsw
  ·rw[←a.hs]at hsw
   obtain⟨l1,l2⟩:=O6 (l:=pos.line) a.kf hsw
   unfold Y8 at h1
   obtain⟨it,h2,h1⟩:=ap8.mp h1
   obtain⟨⟨js,tf⟩,h3,h1⟩:=ap8.mp h1
   obtain⟨tt,h4,h1⟩:=ap8.mp h1
   obtain⟨te,h5,h1⟩:=ap8.mp h1
   obtain⟨hb,h1⟩:=aU.mp h1
   cases h1
   simp only[aqa,aqs]at hb
   obtain⟨b1,b2,b3⟩:=hb
   exact akd a.calm a.nd s1 l1 l2 (o.oi a.toAmb h2) (by rw[a.hN,a.hs];exact b1) (oO b2) (fun s H C cl fp=>uO (a.toAmb.inn scope s H C cl fp) h3) (fun s H C cl fp=>vO o (a.toAmb.inn scope s H C cl fp) h4) (fun s H C cl fp=>o.oe (a.toAmb.inn scope s H C cl fp) h5) (qM b3)
  ·exact Xk (afl (aaM o a.toAmb h1)) (Ub a.nd s1 s2 s3) (ac1 (l:=pos.line) (by simpa using hsw)) (by with_unfolding_all rfl) (by with_unfolding_all rfl)
end
theorem Bh{tg e:Expr}{l:Nat}{env:PySem.Env}(h:Dz e=false):swapsWithSole [tg] e l env=pure false:=Eo h
def abR(t:Tr)(s:Ts)(c:Tc):Expr->Expr->Option SF
 |.Name x p,.ListComp elt [⟨tg,iter,ifs,0⟩] scope cpos=>TF t c x p elt tg iter ifs scope cpos
 |.Name x _,e=>(vf c x).bind fun j=>match c.ml.contains x with
  |true=>(trN t c e).bind fun f=>some (Hl j f)
  |false=>gd (!Dz e) ((s.G c e).bind fun f=>some (aZ (aF j) f))
 |.Tuple [.Name x _,.Starred (.Name y _) _] _ _,e=>(vf c x).bind fun i=>(vf c y).bind fun j=>gd (!Dz e&&!abM e) ((s.G c e).bind fun f=>some (Wt i j f))
 |.Tuple ts _ _,.Tuple vs _ _=>(pnB c ts vs).bind fun js=>(Ec t c vs).bind fun f=>some (sPN js f)
 |.Tuple ts _ _,e=>(WL c ts).bind fun js=>gd (!Dz e&&!abM e) ((s.G c e).bind fun f=>some (aZ (bL js) f))
 |_,_=>none
theorem OJ{tg e:Expr}{env:PySem.Env}(h:abM e=false):swappedStores [tg] e env=pure none:=by
 cases tg <;> first | rfl | (cases e <;> first | rfl | cases h)
section
variable{aj:aO}{c:Tc}{X:Cx}{W:WX}{k:Nat}{t:Tr}{s:Ts}{q:Bool}
theorem aeo(o:t.Ok)(os:s.Ok q)(a:uH aj c X W k){tg e:Expr}{pos:Pos}{f:SF}(h:abR t s c tg e=some f):SE aj X W q (.Assign [tg] e pos) f:=by
 unfold abR at h
 split at h
 ·exact abo o a h
 ·obtain⟨j,hj,h⟩:=ap8.mp h
  obtain⟨s1,s2,s3⟩:=lV a.toAmb hj
  split at h
  ·obtain⟨f1,h1,h⟩:=ap8.mp h
   cases h
   obtain⟨i1,i2⟩:=adf o a.toAmb h1
   exact acf a.nd s1 s2 s3 i1 (Eo i2)
  ·obtain⟨hc,h⟩:=aU.mp h
   obtain⟨f1,h1,h⟩:=ap8.mp h
   cases h
   exact Xk (os.og a h1) (Ub a.nd s1 s2 s3) (Bh (by simpa using hc)) (by with_unfolding_all rfl) (by with_unfolding_all rfl)
 ·obtain⟨i,hi,h⟩:=ap8.mp h
  obtain⟨j,hj,h⟩:=ap8.mp h
  obtain⟨hc,h⟩:=aU.mp h
  obtain⟨f1,h1,h⟩:=ap8.mp h
  cases h
  simp only[aqa,aqs]at hc
  exact agt a.calm a.nd (lV a.toAmb hi) (lV a.toAmb hj) (os.og a h1) (Bh hc.1) (OJ hc.2)
 ·obtain⟨js,hj,h⟩:=ap8.mp h
  obtain⟨f1,h1,h⟩:=ap8.mp h
  cases h
  obtain⟨xs,p1,p2,p3,p4,p5⟩:=aiS a hj
  exact aks a.calm a.nd p3 p1 p2 p4 (rJ o a.toAmb h1).1 p5 (Bh rfl)
 ·obtain⟨js,hj,h⟩:=ap8.mp h
  obtain⟨hc,h⟩:=aU.mp h
  obtain⟨f1,h1,h⟩:=ap8.mp h
  cases h
  simp only[aqa,aqs]at hc
  exact Xk (os.og a h1) (acK a.calm a.nd (RN a.toAmb hj)) (Bh hc.1) (OJ hc.2) (by with_unfolding_all rfl)
 ·cases h
end
def abJ(s:Ts)(c:Tc):List Stmt->Option SF
 |[]=>some aR
 |[a]=>s.S c a
 |a::b::r=>(s.S c a).bind fun f=>(s.B c (b::r)).bind fun g=>some (aD f g)
def stS(t:Tr)(s:Ts)(c:Tc):Stmt->Option SF
 |.Assign [tg] e _=>abR t s c tg e
 |.Assign [.Name x _,.Name y _] e _=>(vf c x).bind fun i=>(vf c y).bind fun j=>gd (!abM e) ((s.G c e).bind fun f=>some (O7 i j f))
 |.AugAssign (.Name x _) .Add e _=>(vf c x).bind fun j=>(t.E c e).bind fun f=>some (NP j f)
 |.Expr (.Call (.Attribute (.Name x _) m apos) [e] [] pos) _=>(JG c x).bind fun j=>gd (m=="append"&&(c.ml.contains x&&(nst e&&(apos.endLine==pos.line)))) ((t.E c e).bind fun f=>some (Nh j f))
 |.Return (some e) _=>(match t.E c e with
  |some f=>some (aQ f)
  |none=>(s.G c e).bind fun f=>some (gM f))
 |.If d s1 s2 _=>(s.B c s1).bind fun f=>(s.B c s2).bind fun g=>(t.T c d).bind fun td=>some (bO td f g)
 |.For tg iter body [] _=>(t.I c true tg iter).bind fun it=>(UW c tg).bind fun jt=>(s.B c body).bind fun f=>gd (!yw iter) (some (uI it jt.2 f))
 |_=>none
section
variable{aj:aO}{c:Tc}{X:Cx}{W:WX}{k:Nat}{t:Tr}{s:Ts}{q:Bool}
theorem aeV(os:s.Ok q)(a:uH aj c X W k){b:List Stmt}{f:SF}(h:abJ s c b=some f):Iz aj X W q b f:=by
 unfold abJ at h
 split at h
 ·cases h;exact ah1
 ·exact ajw (os.os a h)
 ·obtain⟨f1,h1,h⟩:=ap8.mp h
  obtain⟨f2,h2,h⟩:=ap8.mp h
  cases h
  exact agQ (os.os a h1) (os.ob a h2)
theorem aiq(o:t.Ok)(os:s.Ok q)(a:uH aj c X W k){st:Stmt}{f:SF}(h:stS t s c st=some f):SE aj X W q st f:=by
 unfold stS at h
 split at h
 ·exact aeo o os a h
 ·obtain⟨i,hi,h⟩:=ap8.mp h
  obtain⟨j,hj,h⟩:=ap8.mp h
  obtain⟨hc,h⟩:=aU.mp h
  obtain⟨f1,h1,h⟩:=ap8.mp h
  cases h
  exact agb a.nd (lV a.toAmb hi) (lV a.toAmb hj) (os.og a h1) (by with_unfolding_all rfl)
 ·obtain⟨j,hj,h⟩:=ap8.mp h
  obtain⟨f1,h1,h⟩:=ap8.mp h
  cases h
  obtain⟨s1,s2,s3⟩:=lV a.toAmb hj
  exact ajQ a.nd s1 s2 s3 (o.oe a.toAmb h1)
 ·obtain⟨j,hj,h⟩:=ap8.mp h
  obtain⟨hc,h⟩:=aU.mp h
  obtain⟨f1,h1,h⟩:=ap8.mp h
  cases h
  simp only[aqa]at hc
  cases eq_of_beq hc.1
  obtain⟨s1,s2,s3,s4⟩:=zj a.toAmb hj
  exact ajk s1 s2 s3 s4 (o.oe a.toAmb h1) hc.2.2.1 hc.2.2.2
 ·split at h
  ·next f1 h1=>
   cases h
   exact aji (o.oe a.toAmb h1)
  ·obtain⟨f1,h1,h⟩:=ap8.mp h
   cases h
   exact ags (os.og a h1)
 ·obtain⟨f1,h1,h⟩:=ap8.mp h
  obtain⟨f2,h2,h⟩:=ap8.mp h
  obtain⟨td,h3,h⟩:=ap8.mp h
  cases h
  exact akL (o.ot a.toAmb h3) (os.ob a h1) (os.ob a h2)
 ·obtain⟨it,h1,h⟩:=ap8.mp h
  obtain⟨⟨js,tf⟩,h2,h⟩:=ap8.mp h
  obtain⟨f1,h3,h⟩:=ap8.mp h
  obtain⟨hc,h⟩:=aU.mp h
  cases h
  exact ahD a.ps a.calm (o.oi a.toAmb h1) (uO a.toAmb h2) (os.ob a h3) (qM (by simpa using hc))
 ·cases h
end
abbrev GA:=Mo->Env->aY (List Dat)
def aiV(a:GF)(r:GA):GA:=fun M ρ=>(a M ρ).bind fun d M1=>(r M1 ρ).bind fun ds M2=>.ok (d::ds) M2
def aiI(m:Mo->List Dat->aY Dat)(as:GA):GF:=fun M ρ=>(as M ρ).bind fun ds M1=>m M1 ds
def ahu(m:Mo->List Dat->Out Dat)(as:GA):GF:=fun M ρ=>(as M ρ).bind fun ds M1=>(m M1 ds).at M1
section
variable{X:Cx}{aj:aO}{W:WX}{q:Bool}{a b e:Expr}{es:List Expr}{pos p:Pos}
variable{x:Str}{k:Nat}{f:Addr}{fd:FuncData}{ps:List Str}
def akh(a:GT):GT:=fun M ρ=>(a M ρ).bind fun b M1=>.ok (!b) M1
def ak2(a b:GT):GT:=fun M ρ=>(a M ρ).bind fun x M1=>if x=true then b M1 ρ else .ok false M1
def amD(a b:GT):GT:=fun M ρ=>(a M ρ).bind fun x M1=>if x=true then .ok true M1 else b M1 ρ
def akR(a:GF):GT:=fun M ρ=>(a M ρ).bind fun d M1=>(Ht d).at M1
end
section
variable{aj:aO}{c:Tc}{X:Cx}{W:WX}{k:Nat}{t:Tr}{s:Ts}{q:Bool}
def xG(t:Tr)(s:Ts)(c:Tc):Expr->Option GF
 |.Call (.Name x _) [] [] _=>(match c.G.lookup x with
  |some (.cls 0 m)=>gd (EY c.sc x&&!Fv x) (some (zY x m au))
  |_=>none)
 |.Call (.Name x _) (e::es) [] _=>(match c.G.lookup x with
  |some (.fg n m)=>gd (EY c.sc x&&(!Fv x&&decide ((e::es).length=n))) ((Ec t c (e::es)).bind fun as=>some (Cz m as))
  |some (.cls n m)=>gd (EY c.sc x&&(!Fv x&&decide ((e::es).length=n))) ((Ec t c (e::es)).bind fun as=>some (zY x m as))
  |_=>none)
 |.Call (.Attribute o m apos) es [] pos=>(c.hs.Ms.lookup m).bind fun tb=>(t.W c o).bind fun fo=>(Ec t c es).bind fun as=>
  gd (tbN tb (es.length+1)&&(baseOk o&&(decide (es.length < 30)&&(apos.endLine==pos.line)))) (some (cM tb fo as))
 |_=>none
theorem akA(o:t.Ok)(os:s.Ok false)(a:uH aj c X W k){e:Expr}{f:GF}(h:xG t s c e=some f):GE aj X W false e f:=by
 unfold xG at h
 split at h
 ·split at h
  ·next m hl=>
   obtain⟨hb,h⟩:=aU.mp h
   cases h
   simp only[aqa,aqs]at hb
   exact agK a.rm (a.gl _ _ hl) (rR a.toAmb hb.1) (rW hb.2).1
  ·cases h
 ·split at h
  ·next n m hl=>
   obtain⟨hb,h⟩:=aU.mp h
   simp only[aqa,aqs,decide_eq_true_eq]at hb
   obtain⟨b1,b2,b3⟩:=hb
   obtain⟨fa,hm,hk,fd,ps,j,hj,hp,hB,F⟩:=a.gl _ _ hl
   obtain⟨as,h1,h⟩:=ap8.mp h
   cases h
   obtain⟨i1,i2,i3⟩:=rJ o a.toAmb h1
   exact agw a.tk F (a.rm.mono hj) (rR a.toAmb b1) hm hk hB i1 (b3.trans hp.symm) (rW b2).1 i2 i3
  ·next n m hl=>
   obtain⟨hb,h⟩:=aU.mp h
   simp only[aqa,aqs,decide_eq_true_eq]at hb
   obtain⟨b1,b2,b3⟩:=hb
   obtain⟨as,h1,h⟩:=ap8.mp h
   cases h
   obtain⟨i1,i2,i3⟩:=rJ o a.toAmb h1
   exact ai9 a.rm (a.gl _ _ hl) (rR a.toAmb b1) (rW b2).1 i1 i2 (fun M ρ ds z=>by rw[i3 M ρ ds z];exact b3)
  ·cases h
 ·next b m apos es pos=>
  obtain⟨tb,h1,h⟩:=ap8.mp h
  obtain⟨fo,h2,h⟩:=ap8.mp h
  obtain⟨as,h3,h⟩:=ap8.mp h
  obtain⟨hb,h⟩:=aU.mp h
  cases h
  simp only[aqa,decide_eq_true_eq]at hb
  obtain⟨b2,b3,b4,b5⟩:=hb
  obtain⟨i1,i2,i3⟩:=rJ o a.toAmb h3
  cases es with
  |nil=>
   cases h3
   exact aeG a.tk a.rm (Wq a.toAmb h1 b2) (o.ow a.toAmb h2) b3 b5
  |cons e es=>exact ahe a.tk a.rm (Wq a.toAmb h1 b2) (o.ow a.toAmb h2) i1 i3 b3 i2 b5 b4
 ·cases h
end
section
variable{aj:aO}{c:Tc}{X:Cx}{W:WX}{k:Nat}{t:Tr}{s:Ts}{q:Bool}
theorem Ig{e o:Expr}{f:Str}{p:Pos}{l:Nat}{env:PySem.Env}:swapsWith e (some (.Attribute o f p)) l env=pure false:=by
 cases e <;> rfl
theorem aeh{e o:Expr}{i:Expr}{p:Pos}{l:Nat}{env:PySem.Env}:swapsWith e (some (.Subscript o i p)) l env=pure false:=by
 cases e <;> rfl
theorem adS{o:Expr}{f:Str}{p spos:Pos}{i:Expr}{env:PySem.Env}(h:YJ i=false):∀v,assign (.Subscript (.Attribute o f p) i spos) env v=(do
   let ov ←holding [v] (eval (.Attribute o f p) env)
   let iv ←holding [v,ov] (eval i env)
   standAt spos
   holding [v,ov,iv] (setItem ov iv v)
   release [v,ov,iv] []):=fun v=>by
 cases i <;> first | (with_unfolding_all rfl) | cases h
def aiA(t:Tr)(c:Tc)(kx tg iter:Expr)(scope:Scope):Option (Mo->Env->Out (List (Dat×Dat))):=
 (t.I c false tg iter).bind fun it=>(UW (c.inn scope) tg).bind fun jt=>(t.E (c.inn scope) kx).bind fun te=>
  gd (blkC c.N c.sc scope (pq tg jt.1)&&(Nu jt.1 ((pq tg jt.1).map (·.2))&&!yw iter)) (some (qDc it jt.2 ((pq tg jt.1).map (·.2)) te))
theorem aea(a:Amb aj c X W k):X.A.units+64 < cLine:=by have:=a.rm.un;omega
def ae0(t:Tr)(s:Ts)(c:Tc)(o:Expr)(f:Str):Expr->Option SF
 |.Dict [] [] _=>(t.W c o).bind fun fo=>(c.hs.df.lookup f).bind fun b=>some (Lj c.hs.ft fo f b)
 |.DictComp kx (.Constant (.bool true) _ _) [⟨tg,iter,[],0⟩] scope _=>(t.W c o).bind fun fo=>(aiA t c kx tg iter scope).bind fun fe=>some (QV c.hs.ft fo f fe)
 |.List es p=>(t.W c o).bind fun fo=>(trN t c (.List es p)).bind fun fe=>some (Dk c.hs.ft fo f fe)
 |e=>gd (!Dz e) ((t.W c o).bind fun fo=>(s.G c e).bind fun fe=>some (tM c.hs.ft fo f fe))
theorem aha(ot:t.Ok)(os:s.Ok false)(a:uH aj c X W k){o e:Expr}{f:Str}{p pos:Pos}{sf:SF}(h:ae0 t s c o f e=some sf):SE aj X W false (.Assign [.Attribute o f p] e pos) sf:=by
 have hk:=a.hk
 unfold ae0 at h
 split at h
 ·obtain⟨fo,h1,h⟩:=ap8.mp h
  obtain⟨b,h2,h⟩:=ap8.mp h
  cases h
  exact agI hk.co hk.fk hk.hw (ot.ow a.toAmb h1) Ig
 ·obtain⟨fo,h1,h⟩:=ap8.mp h
  obtain⟨fe,h2,h⟩:=ap8.mp h
  cases h
  unfold aiA at h2
  obtain⟨it,i1,h2⟩:=ap8.mp h2
  obtain⟨⟨js,tf⟩,i2,h2⟩:=ap8.mp h2
  obtain⟨te,i3,h2⟩:=ap8.mp h2
  obtain⟨hb,h2⟩:=aU.mp h2
  cases h2
  simp only[aqa,aqs]at hb
  obtain⟨b1,b2,b3⟩:=hb
  exact afX hk.co hk.fk (ot.ow a.toAmb h1) (ajn (g:=yR X.K aj js tf) (tk:=tQ X.K aj WF te) a.calm a.nd (aea a.toAmb) (ot.oi a.toAmb i1) (blkOk_by (by rw[a.hN,a.hs];exact b1)) (fun s H C cl fp=>uO (a.toAmb.inn _ s H C cl fp) i2) (fun s H C cl fp=>ot.oe (a.toAmb.inn _ s H C cl fp) i3) (qM b3)) (fun σ H Q z=>akW hk.hw (oO b2) σ H Q z) Ig
 ·obtain⟨fo,h1,h⟩:=ap8.mp h
  obtain⟨fe,h2,h⟩:=ap8.mp h
  cases h
  exact agd hk.co hk.fk (ot.ow a.toAmb h1) (adf ot a.toAmb h2).1 Ig
 ·obtain⟨hc,h⟩:=aU.mp h
  obtain⟨fo,h1,h⟩:=ap8.mp h
  obtain⟨fe,h2,h⟩:=ap8.mp h
  cases h
  exact ahf hk.co hk.fk (ot.ow a.toAmb h1) (os.og a h2) Ig
def WW(n:Str):List Expr->Option (List Str)
 |[]=>some []
 |.Attribute (.Name m _) f _::es=>gd (m==n) ((WW n es).bind fun fs=>some (f::fs))
 |_=>none
def abt(nm:Option Str):Expr->Option CW
 |.Constant (.str x) _ _=>some (.con (.str x))
 |.Constant .none _ _=>some (.con .none)
 |.Tuple [] _ _=>some (.con (.tuple []))
 |.Attribute (.Name m _) f _=>nm.bind fun n=>gd (m==n) (some (.fld f))
 |.Tuple es _ _=>nm.bind fun n=>(WW n es).bind fun fs=>some (.flds fs)
 |_=>none
def CW.fs:CW->List Str
 |.con _=>[]
 |.fld f=>[f]
 |.flds fs=>fs
def aa4(c:Tc)(nm:Option Str):List Stmt->Option (List (Nat×CW))
 |[]=>some []
 |.Assign [.Name x _] e _::r=>(vf c x).bind fun j=>(abt nm e).bind fun se=>(aa4 c nm r).bind fun st=>some ((j,se)::st)
 |_=>none
def RJ(c:Tc):Option Str->Option (Option Nat)
 |none=>some none
 |some n=>(JG c n).bind fun i=>match c.sc.names.lookup n with
  |some .local=>some (some i)
  |_=>none
def akb(c:Tc):ExceptHandler->Option Hd
 |.ExceptHandler (some (.Name y _)) nm (s0::su) _=>(c.hs.xm.lookup y).bind fun tab=>(RJ c nm).bind fun i=>(aa4 c nm (s0::su)).bind fun st=>
  (match c.G.lookup y with
  |some .exc=>some true
  |some (.exi _)=>some true
  |_=>none).bind fun _=>
  gd (EY c.sc y&&(!Fv y&&(st.all (fun p=>match i with
   |some j=>!(j==p.1)
   |none=>true)&&st.all (fun p=>p.2.fs.all (fun f=>((c.hs.xf.lookup y).getD []).contains f)&&decide (p.2.fs.length<=100))))) (some ⟨y,fun x=>tab.lookup x,i,st⟩)
 |_=>none
def Wn(c:Tc):List ExceptHandler->Option (List Hd)
 |[]=>some []
 |h::hs=>(akb c h).bind fun d=>(Wn c hs).bind fun ds=>some (d::ds)
theorem aaP{y n:Str}{C:Addr}{a:Addr}{oe:Obj}{cls:Value}{d:Option Addr}{pn:List (Addr×Obj)}{j:Nat}{fl:List Str}(hC:aj y=some C)(T:XfC X.K C)(hno:∀f∈fl,PySem.W.findIn X.K (.ref C) f=some none)(hz:Zc cls d oe)(hf:∃vs,oe.data=.fields vs)(hN:X.N[j]?=some n)(hv:Vis X.env.scope n)(hd:(n==("__debug__" : Str))=false)(hcd:(n==("__classdict__" : Str))=false) :
  ∀{es:List Expr} {fs:List Str},WW n es=some fs->(∀f∈fs,f∈fl)->PA (X.suite a ((a,oe)::pn)) es (tUA X.K aj a cls d (some j) fun x=>Pu y x fs)
 |[],fs,h,_=>by
  cases h
  exact ab5
 |.Attribute (.Name m p) f p2::es,fs,h,hs=>by
  rw[WW]at h
  obtain⟨hm,h⟩:=aU.mp h
  obtain⟨fr,h1,h⟩:=ap8.mp h
  cases h
  cases eq_of_beq hm
  exact afM (adl hC T (hno f (hs f aqf)) hz hf hN hv hd hcd) (aaP hC T hno hz hf hN hv hd hcd h1 fun f hf=>hs f (aqe _ hf)) rfl
theorem afY{y:Str}{nm:Option Str}{i:Option Nat}{a:Addr}{oe:Obj}{cls:Value}{d:Option Addr}{pn:List (Addr×Obj)}{e:Expr}{se:CW}(am:Amb aj c X W k)(hi:RJ c nm=some i)(hy:(c.hs.xf.lookup y).getD []=fl)(hfl:∀f∈se.fs,f∈fl)(hl:se.fs.length<=100)(hz:Zc cls d oe)(hf:∃vs,oe.data=.fields vs)(h:abt nm e=some se) :
  PE (X.suite a ((a,oe)::pn)) e (tU X.K aj a cls d i fun x=>W9 y x se):=by
 have fld:∀n j,nm=some n->i=some j->X.N[j]?=some n/\Vis X.env.scope n/\(n==("__debug__" : Str))=false/\(n==("__classdict__" : Str))=false:=fun n j e1 e2=>by
  subst e1 e2
  unfold RJ at hi
  obtain⟨j',h1,hi⟩:=ap8.mp hi
  split at hi
  ·cases hi
   exact zj am h1
  ·cases hi
 have hsome:∀n,nm=some n->∃j,i=some j:=fun n e1=>by
  subst e1
  unfold RJ at hi
  obtain⟨j',h1,hi⟩:=ap8.mp hi
  split at hi
  ·cases hi
   exact⟨_,rfl⟩
  ·cases hi
 have hxf:fl≠[]->∃C,aj y=some C/\XfC X.K C/\∀f∈fl,PySem.W.findIn X.K (.ref C) f=some none:=fun ne=>by
  cases hx:c.hs.xf.lookup y with
  |none=>
   rw[hx]at hy
   exact absurd hy.symm ne
  |some l=>
   rw[hx]at hy
   cases hy
   exact am.hk.xf y _ hx
 unfold abt at h
 split at h
 ·cases h
  exact adJ pe_str fun σ H Q ⟨g,ρ,M,x,z,I,e,kk⟩=>by
   cases e
   exact kk _ H (Ex.refl H) (.str _)
 ·cases h
  exact adJ pe_non fun σ H Q ⟨g,ρ,M,x,z,I,e,kk⟩=>by
   cases e
   exact kk _ H (Ex.refl H) .non
 ·cases h
  exact PE.weak (adw (aj:=aj) (cls:=cls) (d:=d) (i:=i) ab5 fun x zs e=>by cases e;exact aqM _) fun σ H Q z=>z
 ·obtain⟨n,e1,h⟩:=ap8.mp h
  obtain⟨hm,h⟩:=aU.mp h
  cases h
  cases eq_of_beq hm
  obtain⟨j,rfl⟩:=hsome _ e1
  obtain⟨f1,f2,f3,f4⟩:=fld _ j e1 rfl
  obtain⟨C,c1,c2,c3⟩:=hxf (List.ne_nil_of_mem (hfl _ (aqg.mpr rfl)))
  exact adl c1 c2 (c3 _ (hfl _ (aqg.mpr rfl))) hz hf f1 f2 f3 f4
 ·next es _ _ hne=>
  obtain⟨n,e1,h⟩:=ap8.mp h
  obtain⟨fs,e2,h⟩:=ap8.mp h
  cases h
  obtain⟨j,rfl⟩:=hsome _ e1
  obtain⟨f1,f2,f3,f4⟩:=fld _ j e1 rfl
  have hfs:fs≠[]:=fun z=>by
   subst z
   match es,e2 with
   |[],_=>exact hne rfl
   |.Attribute (.Name m _) f _::es,e2=>
    rw[WW]at e2
    obtain⟨_,e2⟩:=aU.mp e2
    obtain⟨_,_,e2⟩:=ap8.mp e2
    cases e2
  have hfn:fl≠[]:=by
   cases fs with
   |nil=>exact absurd rfl hfs
   |cons f r=>exact List.ne_nil_of_mem (hfl f aqf)
  obtain⟨C,c1,c2,c3⟩:=hxf hfn
  exact adw (aaP c1 c2 c3 hz hf f1 f2 f3 f4 e2 hfl) fun x zs e=>by
   have:=Vb e
   have hl:fs.length<=100:=hl
   omega
 ·cases h
theorem Ro{y:Str}{nm:Option Str}{i:Option Nat}{a:Addr}{oe:Obj}{cls:Value}{d:Option Addr}{pn:List (Addr×Obj)}{fl:List Str}(am:Amb aj c X W k)(hi:RJ c nm=some i)(hy:(c.hs.xf.lookup y).getD []=fl)(hz:Zc cls d oe)(hf:∃vs,oe.data=.fields vs) :
  ∀{ss:List Stmt} {st:List (Nat×CW)},aa4 c nm ss=some st->(∀p∈st,(∀f∈p.2.fs,f∈fl)/\p.2.fs.length<=100)->PSs (X.suite a ((a,oe)::pn)) ss (tSu X.K aj a cls d i y st)
 |[],st,h,_=>by
  cases h
  exact PSs.weak pss_nil fun D σ H z=>aia z
 |.Assign [.Name x p] e p2::r,st,h,hs=>by
  rw[aa4]at h
  obtain⟨j,h1,h⟩:=ap8.mp h
  obtain⟨se,h2,h⟩:=ap8.mp h
  obtain⟨st',h3,h⟩:=ap8.mp h
  cases h
  obtain⟨s1,s2,s3⟩:=lV am h1
  obtain⟨u1,u2⟩:=hs (j,se) aqf
  have he:=afY (a:=a) (pn:=pn) am hi hy u1 u2 hz hf h2
  have hne:Dz e=false/\swappedStores [.Name x p] e X.env=pure none:=by
   unfold abt at h2
   split at h2 <;> first | exact⟨rfl,rfl⟩ | cases h2
  refine PSs.weak (pss_cons (ps_asg he (pg_name (X:=X.suite a ((a,oe)::pn)) am.nd s1 s2 s3) (Bh hne.1) hne.2 (by with_unfolding_all rfl)) (Ro am hi hy hz hf h3 fun p hp=>hs p (aqe _ hp))) fun D σ H z=>?_
  exact ahw z fun σ' H' z'=>z'
def alU(aj:aO)(K:ap9)(h:Hd)(D:Addr):Cl:=⟨.ref D,h.nm,fun a cls d=>tSu K aj a cls d h.nm h.y h.st⟩
theorem XJ(am:Amb aj c X W k):∀{hds:List ExceptHandler} {hs:List Hd},Wn c hds=some hs->∃ls,Ax X hds ls/\Es X.K aj hs ls
 |[],hs,h=>by
  cases h
  exact⟨[],.nil,.nil⟩
 |h0::hds,hs,h=>by
  rw[Wn]at h
  obtain⟨d,h1,h⟩:=ap8.mp h
  obtain⟨ds,h2,h⟩:=ap8.mp h
  cases h
  obtain⟨ls,i1,i2⟩:=XJ am h2
  unfold akb at h1
  split at h1
  ·next y np nm s0 su cp=>
   obtain⟨tab,j1,h1⟩:=ap8.mp h1
   obtain⟨i,j2,h1⟩:=ap8.mp h1
   obtain⟨st,j3,h1⟩:=ap8.mp h1
   obtain⟨_,j4,h1⟩:=ap8.mp h1
   obtain⟨hb,h1⟩:=aU.mp h1
   cases h1
   simp only[aqa,aqs]at hb
   obtain⟨b1,b2,b3,b4⟩:=hb
   obtain⟨⟨D,hD⟩,hx⟩:=am.hk.xm y tab j1
   have hm:X.mg y=some (.ref D):=by
    split at j4
    ·next hl=>
     obtain⟨C,g1,g2,_⟩:=am.gl y _ hl
     rw[hD]at g2
     cases g2
     exact g1
    ·next hl=>
     obtain⟨C,fI,fd,ps,g1,g2,_⟩:=am.gl y _ hl
     rw[hD]at g2
     cases g2
     exact g1
    ·cases j4
   have hnames:Names X y (.ref D):=⟨rR am b1,(rW b2).1,.inl hm⟩
   have hst:∀p∈st,(∀f∈p.2.fs,f∈(c.hs.xf.lookup y).getD [])/\p.2.fs.length<=100:=fun p hp=>by
    have:=aqu.mp b4 p hp
    rw[aqa,decide_eq_true_eq]at this
    exact⟨fun f hf=>by simpa using aqu.mp this.1 f hf,this.2⟩
   have hnj:∀p∈st,i≠some p.1:=fun p hp z=>by
    subst z
    have:=aqu.mp b3 p hp
    simp at this
   refine⟨alU aj X.K ⟨y,fun x=>tab.lookup x,i,st⟩ D::ls,?_,.cons ⟨⟨D,hD,rfl⟩,hx,rfl,rfl,hnj⟩ i2⟩
   cases nm with
   |none=>
    cases j2
    exact .one hnames rfl (fun a oe cls d pn hz hf=>Ro am rfl rfl hz hf j3 hst) i1
   |some n=>
    have j2':=j2
    unfold RJ at j2
    obtain⟨i',s1,j2⟩:=ap8.mp j2
    split at j2
    ·next hloc=>
     cases j2
     refine .as hnames rfl (zj am s1).1 ?_ (fun a oe cls d pn hz hf=>Ro am j2' rfl hz hf j3 hst) i1
     unfold PySem.Env.kindOf
     rw[am.hs]
     exact hloc
    ·cases j2
  ·cases h1
theorem uH.tr(a:uH aj c X W k){W':WX}{pn:List (Addr×Obj)}{xe:Value->Shared->Prop}(t:Takes (X.tr pn xe) W')(p:PassesOwn (model X.prog X.w) X.A X.env xe):uH aj c (X.tr pn xe) W' k where
 hN:=a.hN
 hs:=a.hs
 calm:=a.calm
 nd:=a.nd
 tk:=t
 rm:=a.rm
 gl:=a.gl
 bl:=a.bl
 fn:=a.fn
 hk:=a.hk
 ps:=p
 st:=a.st
 fr:=a.fr
 kf:=a.kf
def xS(q:Bool)(t:Tr)(s:Ts)(c:Tc):Stmt->Option SF
 |.Raise (some (.Call (.Name x _) [] [] _)) none _=>(match c.G.lookup x with
  |some .exc=>gd (EY c.sc x&&!Fv x) (some (dY x))
  |_=>none)
 |.Raise (some (.Call (.Name x _) (e::es) [] _)) none _=>(match c.G.lookup x with
  |some (.exi fs)=>(Ec t c (e::es)).bind fun as=>gd (EY c.sc x&&(!Fv x&&(decide ((e::es).length=fs.length)&&decide (fs.length<=1000)))) (some (Bm x fs as))
  |_=>none)
 |.Try body (h::hds) [] [] _=>(s.B c body).bind fun f=>(Wn c (h::hds)).bind fun hs=>some (Td f hs)
 |.Pass _=>some aR
 |.Expr (.Call (.Attribute (.Attribute o f p1) m apos) [e] [] pos) epos=>(match q with
  |true=>(s.G c (.Call (.Attribute (.Attribute o f p1) m apos) [e] [] pos)).bind fun f=>some (cG f)
  |false=>match m=="append" with
   |true=>gd (baseOk o&&(nst e&&(apos.endLine==pos.line))) ((t.W c o).bind fun fo=>(s.G c e).bind fun fe=>some (CK f fo fe))
   |false=>(s.G c (.Call (.Attribute (.Attribute o f p1) m apos) [e] [] pos)).bind fun f=>some (cG f))
 |.Expr e _=>gd (!Dz e) ((s.G c e).bind fun f=>some (cG f))
 |.Assign [.Name x p] (.ListComp elt [⟨tg,iter,ifs,0⟩,⟨tg1,iter1,ifs1,0⟩] scope cpos) _=>(vf c x).bind fun j=>
  gd (swB c.sc (.ListComp elt [⟨tg,iter,ifs,0⟩,⟨tg1,iter1,ifs1,0⟩] scope cpos) scope x p&&!c.ml.contains x) ((P0 t c elt tg iter ifs tg1 iter1 ifs1 scope).bind fun f=>some (aZ (aF j) (gOf f)))
 |.Assign [.Attribute o f _] e _=>(match q with
  |true=>none
  |false=>ae0 t s c o f e)
 |.Assign [.Subscript (.Attribute o f _) i _] e _=>(match q with
  |true=>none
  |false=>gd (baseOk o&&(!YJ i&&!Dz e)) ((t.W c o).bind fun fo=>(t.E c i).bind fun fi=>(t.E c e).bind fun fe=>match c.hs.df.lookup f with
   |some _=>some (Lw f fo fi fe)
   |none=>some (Qi f fo fi fe)))
 |.AugAssign (.Attribute o f _) .Add e _=>(match q with
  |true=>none
  |false=>(t.W c o).bind fun fo=>(t.E c e).bind fun fe=>some (QH c.hs.ft f fo fe))
 |.Delete [.Subscript (.Attribute o f _) i _] _=>(match q with
  |true=>none
  |false=>gd (baseOk o) ((t.W c o).bind fun fo=>(t.E c i).bind fun fi=>some (Lh f fo fi)))
 |_=>none
theorem ak4(o:t.Ok)(os:s.Ok q)(a:uH aj c X W k){st:Stmt}{f:SF}(h:xS q t s c st=some f):SE aj X W q st f:=by
 have hk:=a.hk
 unfold xS at h
 split at h
 ·split at h
  ·next hl=>
   obtain⟨hb,h⟩:=aU.mp h
   cases h
   simp only[aqa,aqs]at hb
   exact aeN a.calm a.tk (rR a.toAmb hb.1) (rW hb.2).1 (a.gl _ _ hl)
  ·cases h
 ·split at h
  ·next fs hl=>
   obtain⟨as,h1,h⟩:=ap8.mp h
   obtain⟨hb,h⟩:=aU.mp h
   cases h
   simp only[aqa,aqs,decide_eq_true_eq]at hb
   obtain⟨b1,b2,b3,b4⟩:=hb
   obtain⟨i1,i2,i3⟩:=rJ o a.toAmb h1
   exact ac2 a.calm a.tk a.rm (rR a.toAmb b1) (rW b2).1 (a.gl _ _ hl) i1 i2 (fun M ρ ds z=>by rw[i3 M ρ ds z];exact b3) b4
  ·cases h
 ·obtain⟨f1,h1,h⟩:=ap8.mp h
  obtain⟨hs,h2,h⟩:=ap8.mp h
  cases h
  obtain⟨ls,i1,i2⟩:=XJ a.toAmb h2
  exact ajv a.st a.fr a.nd a.tk (fun W' pn xe t p=>os.ob (a.tr t p) h1) i1 i2
 ·cases h
  exact PS.weak ps_pass fun D σ H ⟨g,ρ,M,I,z⟩=>z σ H g .refl I
 ·split at h
  ·obtain⟨f1,h1,h⟩:=ap8.mp h
   cases h
   exact SQ (os.og a h1) (Eo rfl)
  ·split at h
   ·next hm=>
    obtain⟨hb,h⟩:=aU.mp h
    obtain⟨fo,h1,h⟩:=ap8.mp h
    obtain⟨fe,h2,h⟩:=ap8.mp h
    cases h
    simp only[aqa]at hb
    cases eq_of_beq hm
    exact afQ hk.co (o.ow a.toAmb h1) hb.1 (os.og a h2) hb.2.1 hb.2.2
   ·obtain⟨f1,h1,h⟩:=ap8.mp h
    cases h
    exact SQ (os.og a h1) (Eo rfl)
 ·obtain⟨hb,h⟩:=aU.mp h
  obtain⟨f1,h1,h⟩:=ap8.mp h
  cases h
  exact SQ (os.og a h1) (Eo (by simpa using hb))
 ·obtain⟨j,hj,h⟩:=ap8.mp h
  obtain⟨hsw,h⟩:=aU.mp h
  rw[aqa]at hsw
  obtain⟨f1,h1,h⟩:=ap8.mp h
  cases h
  obtain⟨s1,s2,s3⟩:=lV a.toAmb hj
  have hsw:=hsw.1
  rw[←a.hs]at hsw
  have l1:=(O6 (l:=0) a.kf hsw).1
  have l2:=fun l=>(O6 (l:=l) a.kf hsw).2
  clear h
  unfold P0 at h1
  obtain⟨it,g1,h⟩:=ap8.mp h1
  obtain⟨⟨js,tf⟩,h2,h⟩:=ap8.mp h
  obtain⟨tt,h3,h⟩:=ap8.mp h
  obtain⟨it1,h4,h⟩:=ap8.mp h
  obtain⟨⟨js1,tf1⟩,h5,h⟩:=ap8.mp h
  obtain⟨tt1,h6,h⟩:=ap8.mp h
  obtain⟨te,h7,h⟩:=ap8.mp h
  obtain⟨hb,h⟩:=aU.mp h
  cases h
  simp only[aqa,aqs]at hb
  obtain⟨b1,b2,b3,b4,b5,b6⟩:=hb
  have am:=a.toAmb
  exact ahl a.calm a.nd s1 l1 (l2 _) (o.oi am g1) (by rw[a.hN,a.hs];exact b1) (oO b2) (oO b3) (oO b4) (fun s H C cl fp=>uO (am.inn _ s H C cl fp) h2) (fun s H C cl fp=>vO o (am.inn _ s H C cl fp) h3) (fun s H C cl fp=>o.oi (am.inn _ s H C cl fp) h4) (fun s H C cl fp=>uO (am.inn _ s H C cl fp) h5) (fun s H C cl fp=>vO o (am.inn _ s H C cl fp) h6) (fun s H C cl fp=>o.oe (am.inn _ s H C cl fp) h7) (qM b5) (fun env=>qM b6)
 ·split at h
  ·cases h
  ·exact aha o os a h
 ·split at h
  ·cases h
  ·obtain⟨hb,h⟩:=aU.mp h
   obtain⟨fo,h1,h⟩:=ap8.mp h
   obtain⟨fi,h2,h⟩:=ap8.mp h
   obtain⟨fe,h3,h⟩:=ap8.mp h
   simp only[aqa,aqs]at hb
   obtain⟨b1,b2,b3⟩:=hb
   split at h
   ·cases h
    exact ahk hk.co hk.hw (aea a.toAmb) (o.ow a.toAmb h1) b1 (o.oe a.toAmb h2) (o.oe a.toAmb h3) aeh
   ·cases h
    exact agp hk.co (o.ow a.toAmb h1) b1 (o.oe a.toAmb h3) (o.oe a.toAmb h2) (adS b2) (Bh b3) (by with_unfolding_all rfl)
 ·split at h
  ·cases h
  ·obtain⟨fo,h1,h⟩:=ap8.mp h
   obtain⟨fe,h2,h⟩:=ap8.mp h
   cases h
   exact agr hk.co hk.fk (o.ow a.toAmb h1) (o.oe a.toAmb h2)
 ·split at h
  ·cases h
  ·obtain⟨hb,h⟩:=aU.mp h
   obtain⟨fo,h1,h⟩:=ap8.mp h
   obtain⟨fi,h2,h⟩:=ap8.mp h
   cases h
   exact afU hk.co hk.hw (aea a.toAmb) (o.ow a.toAmb h1) hb (o.oe a.toAmb h2)
 ·cases h
end
def tr0:Tr:=⟨fun _ _=>none,fun _ _=>none,fun _ _=>none,fun _ _ _ _=>none⟩
def aj3(t:Tr):Tr:=⟨xtE t,xtW t,xtT t,xtI t⟩
def tr:Nat->Tr
 |0=>tr0
 |n+1=>aj3 (tr n)
theorem yL:∀n,(tr n).Ok
 |0=>⟨fun _=>(by intro _ _ h;cases h),fun _=>(by intro _ _ h;cases h),fun _=>(by intro _ _ h;cases h),fun _=>(by intros;rename_i h;cases h)⟩
 |n+1=>⟨fun a=>(by intro _ _ h;exact(vD h).elim (akZ (yL n) a) (aht (yL n) a)),fun a=>(by intro _ _ h;exact(vD h).elim (ak1 (yL n) a) (ah3 (yL n) a)),fun a=>(by intro _ _ h;exact(vD h).elim (alq (yL n) a) (aij (yL n) a)),fun a=>(by intro _ _ _ _ h;exact(vD h).elim (akX (yL n) a) (ahB (yL n) a))⟩
def ts0:Ts:=⟨fun _ _=>none,fun _ _=>none,fun _ _=>none,fun _ _=>none⟩
def ldG(q:Bool)(t:Tr)(s:Ts)(c:Tc)(e:Expr):Option GF:=match q with
 |true=>none
 |false=>xG t s c e
def ldH(_:Bool)(_:Ts)(_:Tc)(_:Expr):Option GT:=none
def ajH(q:Bool)(t:Tr)(s:Ts):Ts:=⟨fun c e=>els ((t.E c e).bind fun f=>some (gOf f)) (ldG q t s c e),fun c e=>els ((t.T c e).bind fun f=>some (aeS f)) (ldH q s c e),fun c e=>els (stS t s c e) (xS q t s c e),abJ s⟩
def ts(q:Bool)(t:Tr):Nat->Ts
 |0=>ts0
 |n+1=>ajH q t (ts q t n)
theorem Lr{t:Tr}(o:t.Ok)(q:Bool):∀n,(ts q t n).Ok q
 |0=>⟨fun _=>(by intro _ _ h;cases h),fun _=>(by intro _ _ h;cases h),fun _=>(by intro _ _ h;cases h),fun _=>(by intros;rename_i h;cases h)⟩
 |n+1=>⟨fun a=>by
   intro _ _ h
   rcases vD h with h|h
   ·obtain⟨f,h1,h⟩:=ap8.mp h
    cases h
    exact afl (o.oe a.toAmb h1)
   ·cases q with
    |true=>cases h
    |false=>exact akA o (Lr o false n) a h,fun a=>by
   intro _ _ h
   rcases vD h with h|h
   ·obtain⟨f,h1,h⟩:=ap8.mp h
    cases h
    exact akN (o.ot a.toAmb h1)
   ·(cases h),fun a=>by
   intro _ _ h
   rcases vD h with h|h
   ·exact aiq o (Lr o q n) a h
   ·exact ak4 o (Lr o q n) a h,fun a=>by
   intro _ _ h
   exact aeV (Lr o q n) a h⟩
def rd(c:Tc)(b:List Stmt):Option SF:=(ts true (tr 40) 60).B c b
def rdG(c:Tc)(b:List Stmt):Option SF:=(ts false (tr 40) 60).B c b
def BW(P:Program)(w:World)(K:ap9)(mg:Str->Option Value)(base:Heap)(aj:aO)(k:Nat):List (Str×GV)->Prop
 |[]=>True
 |(x,v)::r=>bf P w K mg base aj k x v/\BW P w K mg base aj k r
def BK(mg:Str->Option Value):List Str->Prop
 |[]=>True
 |x::r=>mg x=none/\BK mg r
section
variable{P:Program}{w:World}{K:ap9}{mg:Str->Option Value}{base:Heap}{aj:aO}{k:Nat}
theorem BW.get:∀{G:List (Str×GV)},BW P w K mg base aj k G->∀x v,G.lookup x=some v->bf P w K mg base aj k x v
 |[],_,x,v,h=>nomatch h
 |(y,u)::r,g,x,v,h=>by
  rw[aqA]at h
  split at h
  ·next e=>
   cases h
   rw[eq_of_beq e]
   exact g.1
  ·exact g.2.get x v h
theorem BK.get:∀{B:List Str},BK mg B->∀x,x∈B->mg x=none
 |[],_,x,h=>nomatch h
 |y::r,g,x,h=>by
  rcases aqp.mp h with rfl|h
  ·exact g.1
  ·exact g.2.get x h
theorem ab0{qual:Str}{st:Stmt}{f:Addr}{N ps ml B:List Str}{G:List (Str×GV)}{Ms:Hs}(S:FnScope N ps (defScope st))(g:BW P w K mg base aj k G)(b:BK mg B)(hh:Rq P w K mg base aj k Ms)
  (cdv:Value) (A:Around) (outer:List PySem.Env) (s:Shared) (H:Hp) (E:XK) (hr:Room k (A.deeper (envOfC qual (defScope st) s.heap.objs.size f cdv))) :
  uH aj ⟨N,defScope st,G,B,Ms,ml,true⟩ (cxOf (L2.CX P w) P w K mg base N qual (defScope st) f cdv A outer s H E) (adW E) k where
 hN:=rfl
 hs:=rfl
 calm:=rfl
 nd:=S.nd
 tk:=takes_of rfl rfl rfl rfl
 rm:=hr
 gl:=g.get
 bl:=b.get
 fn:=fun _ _=>rfl
 hk:=hh
 ps:=passes_of rfl
 st:=rfl
 fr:=rfl
 kf:=S.kind
theorem Ye{x qual:Str}{st:Stmt}{f:Addr}{fd:FuncData}{N ps ml B:List Str}{G:List (Str×GV)}{Ms:Hs}{body:SF}(F:Fun K x qual st f fd)(S:FnScope N ps (defScope st))(g:BW P w K mg base aj k G)(b:BK mg B)(hh:Rq P w K mg base aj k Ms)
  (h:rd ⟨N,defScope st,G,B,Ms,ml,true⟩ (defBody st)=some body):FnOk P w K mg base (L2.CX P w) (k+1) f fd ps (Vm K aj ps.length (mQ N.length body)):=
 amn F S fun cdv A outer s H E hr=>(Lr (yL 40) true 60).ob (ab0 S g b hh cdv A outer s H E hr) h
theorem Q8{x qual:Str}{st:Stmt}{f:Addr}{fd:FuncData}{N ps ml B:List Str}{G:List (Str×GV)}{Ms:Hs}{body:SF}(F:Fun K x qual st f fd)(S:FnScope N ps (defScope st))(g:BW P w K mg base aj k G)(b:BK mg B)(hh:Rq P w K mg base aj k Ms)
  (h:rdG ⟨N,defScope st,G,B,Ms,ml,true⟩ (defBody st)=some body):FnOk P w K mg base (L2.CX P w) (k+1) f fd ps (Iw K aj ps.length (mG N.length body)):=
 al8 F S fun cdv A outer s H E hr=>(Lr (yL 40) false 60).ob (ab0 S g b hh cdv A outer s H E hr) h
theorem aj8{f:Addr}{fd:FuncData}{ps:List Str}{j:Nat}:FnOk P w K mg base (L2.CX P w) j f fd ps (Vm K aj ps.length fun _ _=>.bad):=
 ⟨fun vs H Q E h=>h.1,fun A outer s H args us vs Q E _ _ _ _ h=>by
  obtain⟨_,g,M,ds,_,_,_,z⟩:=h
  exact False.elim z⟩
theorem aeU{x:Str}{f:Addr}{fd:FuncData}{ps:List Str}{j:Nat}{m:Mo->List Dat->Out Dat}(hj:j<=k)(hg:mg x=some (.ref f))(hk:PySem.W.keepIn K (.ref f)=true)(hB:Binds K fd ps [])(F:FnOk P w K mg base (L2.CX P w) j f fd ps (Vm K aj ps.length m)):bf P w K mg base aj k x (.fq ps.length m):=
 ⟨f,hg,hk,fd,ps,j,hj,rfl,hB,F⟩
theorem Jk{x:Str}{i:Int}{t:Tok}(h:mg x=some (.int i t)):bf P w K mg base aj k x (.con (.int i)):=⟨.int i,_,h,⟨t,rfl⟩,fun _ _=>.int i⟩
theorem Vh{g:Gh}{H:Hp}:∀{vs:List V} {ds:List Dat},(vs.zip ds).all (fun p=>match p with
  |(.int i,.int j)=>decide (i=j)
  |(.str x,.str y)=>decide (x=y)
  |_=>false)=true->vs.length=ds.length->aH K g H vs ds
 |[],[],_,_=>.nil
 |[],_::_,_,h=>nomatch h
 |_::_,[],_,h=>nomatch h
 |v::vs,d::ds,h,hl=>by
  rw[aq3,aqK,aqa]at h
  refine .cons ?_ (Vh h.2 (aqT hl))
  have h1:=h.1
  split at h1
  ·next e=>cases e;cases of_decide_eq_true h1;exact .int _
  ·next e=>cases e;cases of_decide_eq_true h1;exact .str _
  ·cases h1
theorem acE{x:Str}{a:Addr}{vs:List V}{ds:List Dat}(h:mg x=some (.ref a))(q:∀H:Hp,SqT K H a vs)(hf:(vs.zip ds).all (fun p=>match p with
  |(.int i,.int j)=>decide (i=j)
  |(.str x,.str y)=>decide (x=y)
  |_=>false)=true) (hl:vs.length=ds.length):bf P w K mg base aj k x (.con (.tuple ds)):=⟨.ref a,_,h,rfl,fun _ H=>.tup (q H) (Vh hf hl)⟩
end
open PySem PySem.Spec PyProof.Rows L2
section
variable{fa:List He.Fa}{fn:List He.DefD}{tb:List He.Tab}{ex:ap9->Bool}{w:World}{K:ap9}
theorem K7.oK(c:K7 fa fn tb ex w K)(i:Nat){f:He.Fa}(h:fa[i]?=some f:=by rfl):f.ok K=true:=c.t.d.fact i h
theorem K7.Vt(c:K7 fa fn tb ex w K)(i:Nat){d:He.DefD}(h:fn[i]?=some d:=by rfl):∃fd,FunD K d.name d.qual d.params d.body d.scope (d.dvs K) (d.kws K) (He.fAd K d.at_) fd:=c.t.d.def_ i h
theorem Du{x qual:Str}{st:Stmt}{f:Addr}{fd:FuncData}(F:FunD K x qual (defArgs st) (defBody st) (defScope st) [] [] f fd):L2.Fun K x qual st f fd:=by
 obtain⟨oc,od,dV,kV,doc,pm,an,cdv,ct,osl,e,l,c,hd,_⟩:=F.ex
 rcases hd with⟨_,z⟩|⟨z,_⟩
 ·cases z
  exact⟨⟨oc,od,kV,doc,pm,an,cdv,ct,osl,e,l,c⟩,F.kp⟩
 ·exact absurd rfl z
end
def g0:Gh:=⟨[],fun _=>none,fun _=>False,fun _=>False⟩
theorem aiR(a:Addr):¬g0.A a:=fun z=>by
 rcases z with(z|z)|z|z
 ·cases z
 ·exact z rfl
 ·exact z
 ·exact z
theorem akK{H:Hp}:Kd g0 H:=⟨fun a z=>absurd z (aiR a),fun a z=>False.elim z,fun a z=>False.elim z⟩
theorem aj7{K:ap9}{aj:aO}{H:Hp}(nc:aj ""=none):fM K aj g0 H []:=⟨rfl,fun h k a e=>(by cases h <;> cases e),fun h a i e=>(by cases h <;> cases e),fun h i e=>(by cases h <;> cases e),fun h i e=>(by cases h <;> cases e),fun h a i e=>(by cases h <;> cases e),fun h i e=>(by cases h <;> cases e),nc⟩
theorem Vo{K:ap9}{g:Gh}{H:Hp}:∀ns:List Int,aH K g H (ns.map V.int) (ns.map PyData.int)
 |[]=>.nil
 |n::ns=>.cons (.int n) (Vo ns)
theorem ai1{K:ap9}{H:Hp}{a:Addr}{ns:List Int}(hS:SqL K H a (ns.map V.int)):aH K g0 H [.ref a] [.list (ns.map PyData.int)]:=by
 refine .cons (.lst ?_ (Vo ns)) .nil
 rcases hS with h|h
 ·exact .inl ⟨h,aiR a⟩
 ·exact .inr h
theorem alp{K:ap9}{aj:aO}(nc:aj ""=none){m:Mo->List Dat->aY Dat}{H:Hp}{a:Addr}{ns:List Int}{M:Mo}(hS:SqL K H a (ns.map V.int))(h:m [] [.list (ns.map PyData.int)]=.ok (.bool true) M):Iw K aj 1 m [.ref a] H (fun v _=>v=.bl true) fun _ _ _=>False:=
 ⟨rfl,g0,[],[.list (ns.map PyData.int)],akK,aj7 nc,ai1 hS,by
  rw[h]
  exact fun v H' g' _ _ _ r=>by cases r;rfl⟩
section
variable{K:ap9}{h:Heap}{mg:Str->Option Value}{w:World}
def ni(w:World)(K:ap9)(xs:List Str)(ft:Ft):aO:=⟨fun x=>match xs.contains x with
 |true=>some (He.ga K x)
 |false=>none,fun c=>(ft.lookup c).getD [],w⟩
theorem Ol{xs:List Str}{ft:Ft}{x:Str}{C:Addr}(e:ni w K xs ft x=some C):C=He.ga K x:=by
 have e:(match xs.contains x with
  |true=>some (He.ga K x)
  |false=>none)=some C:=e
 split at e
 ·exact(aqv e).symm
 ·cases e
theorem BL{xs:List Str}{ft:Ft}{x:Str}(e:xs.contains x=true):ni w K xs ft x=some (He.ga K x):=by
 show(match xs.contains x with
  |true=>some (He.ga K x)
  |false=>none)=_
 rw[e]
theorem Yn{ft:Ft}(hb:Jw K ft=true){c:Str}{fs:List Str}(hl:ft.lookup c=some fs):Cls K (He.ga K c)/\∀f∈fs,NoAttr K (He.ga K c) f:=by
 obtain⟨h1,h2⟩:=He.ba (aqu.mp hb _ (pJ hl))
 exact⟨He.cls_ok h1,fun f hf=>He.noat_ok (aqu.mp h2 f hf)⟩
theorem adQ{xs:List Str}{ft:Ft}(hb:Jw K ft=true):jh K (ni w K xs ft):=fun c C f e hf=>by
 have e:=Ol e
 subst e
 have hf:f∈(ft.lookup c).getD []:=hf
 cases hl:ft.lookup c with
 |none=>rw[hl]at hf;cases hf
 |some fs=>
  rw[hl]at hf
  obtain⟨h1,h2⟩:=Yn hb hl
  exact⟨h1,h2 f hf⟩
theorem afa{xs:List Str}{ft:Ft}:JZ ft (ni w K xs ft):=fun c f e=>by
 unfold Ft.has at e
 show f∈(ft.lookup c).getD []
 split at e
 ·next fs hl=>
  rw[hl]
  simpa using e
 ·cases e
def xmN(xs:List Str)(xm:List (Str×List (Str×Bool))):Bool:=xm.all fun p=>xs.contains p.1
theorem akQ{xs:List Str}{ft:Ft}{xm:List (Str×List (Str×Bool))}(hb:xmB K xm=true)(hn:xmN xs xm=true)(y:Str)(tab:List (Str×Bool))(hl:xm.lookup y=some tab):(∃D,ni w K xs ft y=some D)/\abx K (ni w K xs ft) y fun x=>tab.lookup x:=by
 refine⟨⟨_,BL (aqu.mp hn _ (pJ hl))⟩,fun x b C e1 e2 D e3=>?_⟩
 rw[Ol e2,Ol e3]
 exact He.exm_ok (aqu.mp (aqu.mp hb _ (pJ hl)) _ (pJ e1))
theorem agv{C:Addr}(hb:aiO K C=true):OexC K C:=by
 obtain⟨h1,h2⟩:=He.ba hb
 obtain⟨h2,h3⟩:=He.ba h2
 obtain⟨h3,h4⟩:=He.ba h3
 obtain⟨h4,h5⟩:=He.ba h4
 refine⟨?_,He.eqO_ok h2,of_decide_eq_true h3,of_decide_eq_true h4,h5⟩
 split at h1
 ·next t dd cd sl hl=>
  obtain⟨t1,h1⟩:=He.ba h1
  split at h1
  ·next C' bm k0 k1 k2 k3 n k5 e1 e2=>
   obtain⟨a1,h1⟩:=He.ba h1
   obtain⟨a2,h1⟩:=He.ba h1
   obtain⟨a3,h1⟩:=He.ba h1
   obtain⟨a4,a5⟩:=He.ba h1
   have q1:=of_decide_eq_true t1
   have q2:=of_decide_eq_true a1
   have q3:=of_decide_eq_true a2
   have q4:cd.hasDel=false:=by simpa using a3
   have q5:sl=#[k0,k1,k2,k3,some (.builtin n),k5]:=by
    rw[←Array.toList_inj]
    exact e2
   obtain⟨nm,bs,mro,ns,qn,hd,sn,sub,ab,col,hdel⟩:=cd
   have e1:mro=.ref C'::bm:=e1
   have q4:hdel=false:=q4
   have a4:hd=true:=a4
   subst q1 q2 q3 q4 q5 e1 a4
   exact⟨nm,qn,ns,bs,bm,sn,sub,ab,col,dd,k0,k1,k2,k3,k5,hl,a5⟩
  ·cases h1
 ·cases h1
theorem Sh{x:Str}{fs:List Str}(hb:R4 K x fs=true):OexC K (He.ga K x)/\PySem.W.findIn K (.ref (He.ga K x)) "__init__"=some (some (.ref (He.ma K (He.ga K x) "__init__")))/\PySem.W.typeIn K (.ref (He.ma K (He.ga K x) "__init__"))=some (.type "function")/\XfC K (He.ga K x)/\∀f∈fs,PySem.W.findIn K (.ref (He.ga K x)) f=some none:=by
 obtain⟨h1,h2⟩:=He.ba hb
 obtain⟨h2,h3⟩:=He.ba h2
 obtain⟨h3,h4⟩:=He.ba h3
 obtain⟨h4,h5⟩:=He.ba h4
 exact⟨agv h1,He.eqO_ok h2,of_decide_eq_true h3,xfB_ok h4,fun f hf=>He.eqO_ok (aqu.mp h5 f hf)⟩
theorem aer{a:Addr}{xs:List Str}(hb:Ww K a xs=true)(H:Hp):SqT K H a (xs.map V.str):=by
 unfold Ww at hb
 split at hb
 ·next c d its n sl hl=>
  obtain⟨h1,h2⟩:=He.ba hb
  obtain⟨h3,h4⟩:=He.ba h2
  have q1:=of_decide_eq_true h1
  subst q1
  exact .inr ⟨_,its,n,hl,rfl,rfl,of_decide_eq_true h3,He.relAll_ok h4⟩
 ·cases hb
def yI(kvs:List (Str×List Str)):List (Str×Dat):=kvs.map fun q=>(q.1,.tuple (q.2.map PyData.str))
theorem Vs{g:Gh}{H:Hp}:∀xs:List Str,aH K g H (xs.map V.str) (xs.map PyData.str)
 |[]=>.nil
 |x::xs=>.cons (.str x) (Vs xs)
theorem Qu{y:Str}:∀{kvs:List (Str×List Str)},(yI kvs).lookup y=(kvs.lookup y).map fun xs=>PyData.tuple (xs.map PyData.str)
 |[]=>rfl
 |(z,xs)::r=>by
  show List.lookup y ((z,PyData.tuple (xs.map PyData.str))::yI r)=_
  rw[aqA,aqA]
  split
  ·rfl
  ·exact Qu
theorem look_none{α:Type}{y:Str}:∀{kvs:List (Str×α)},kvs.lookup y=none->y∉kvs.map (·.1)
 |[],_=>by simp
 |(z,a)::r,h=>by
  rw[aqA]at h
  split at h
  ·cases h
  ·next hn=>
   rw[aqd,aqp]
   rintro(e|e)
   ·subst e
    simp at hn
   ·exact look_none h e
theorem agZ{x:Str}{kvs:List (Str×List Str)}(hb:aeQ K x kvs=true)(hk:∃es n,KDict K w (He.ga K x) es n):abE w K (He.ga K x) (yI kvs):=by
 obtain⟨h1,h2⟩:=He.ba hb
 obtain⟨h2,h3⟩:=He.ba h2
 obtain⟨es,n,D⟩:=hk
 rw[D.at_]at h1
 refine⟨es,n,D,?_,fun y=>?_⟩
 ·unfold yI
  rw[aqH]
  exact of_decide_eq_true h2
 ·rw[Qu]
  cases hl:kvs.lookup y with
  |some xs=>
   have h4:=aqu.mp h3 _ (pJ hl)
   show ∃v u,PySem.W.nsIn K (He.ga K x) y=some (some u)/\RelV v u/\∀g H,Rep K g H v (.tuple (xs.map PyData.str))
   have h4:(match PySem.W.nsIn K (He.ga K x) y with
    |some (some (.ref a))=>Ww K a xs
    |_=>false)=true:=h4
   split at h4
   ·next a he=>exact⟨.ref a,.ref a,he,rfl,fun g H=>.tup (aer h4 H) (Vs xs)⟩
   ·cases h4
  |none=>
   show PySem.W.nsIn K (He.ga K x) y=some none
   have ny:=look_none hl
   unfold PySem.W.nsIn
   rw[D.at_]
   have h1:es.toList.all (fun e=>(match e.key with
    |.str y _=>(kvs.map (·.1)).contains y
    |_=>false)&&!e.refKey)=true:=h1
   have f1:es.toList.find? (·.key.isStr y)=none:=by
    rw[List.find?_eq_none]
    intro e he z
    obtain⟨a1,a2⟩:=He.ba (aqu.mp h1 e he)
    split at a1
    ·next y' tk hy=>
     rw[hy]at z
     have z:(y'==y)=true:=z
     have e':=eq_of_beq z
     subst e'
     exact ny (by simpa using a1)
    ·cases a1
   have f2:es.toList.any (·.refKey)=false:=by
    rw[List.any_eq_false]
    intro e he z
    obtain⟨a1,a2⟩:=He.ba (aqu.mp h1 e he)
    rw[z]at a2
    cases a2
   show(match es.toList.find? (·.key.isStr y) with
    |some e=>some (some e.val)
    |none=>if es.toList.any (·.refKey) then none else some none)=some none
   rw[f1,f2]
   rfl
end
section
variable{P:Program}{w:World}{K:ap9}{mg:Str->Option Value}{base:Heap}{k:Nat}{xs:List Str}{ft:Ft}
def Ws(P:Program)(w:World)(K:ap9)(mg:Str->Option Value)(base:Heap)(aj:aO)(k:Nat)(m:Str):List (Str×MV)->Prop
 |[]=>True
 |(c,v)::r=>bV P w K mg base aj k c m v/\Ws P w K mg base aj k m r
def DG(P:Program)(w:World)(K:ap9)(mg:Str->Option Value)(base:Heap)(aj:aO)(k:Nat):List (Str×List (Str×MV))->Prop
 |[]=>True
 |(m,tb)::r=>Ws P w K mg base aj k m tb/\DG P w K mg base aj k r
theorem Ws.get{aj:aO}{m:Str}:∀{tb:List (Str×MV)},Ws P w K mg base aj k m tb->∀c v,tb.lookup c=some v->bV P w K mg base aj k c m v
 |[],_,c,v,h=>nomatch h
 |(y,u)::r,g,c,v,h=>by
  rw[aqA]at h
  split at h
  ·next e=>
   cases h
   rw[eq_of_beq e]
   exact g.1
  ·exact g.2.get c v h
theorem DG.get{aj:aO}:∀{Ms:List (Str×List (Str×MV))},DG P w K mg base aj k Ms->∀m tb,Ms.lookup m=some tb->∀c v,tb.lookup c=some v->bV P w K mg base aj k c m v
 |[],_,m,tb,h=>nomatch h
 |(y,u)::r,g,m,tb,h=>by
  rw[aqA]at h
  split at h
  ·next e=>
   cases h
   rw[eq_of_beq e]
   exact g.1.get
  ·exact g.2.get m tb h
theorem amw{aj:aO}{x:Str}{f:Addr}{fd:FuncData}{ps:List Str}{j:Nat}{m:Mo->List Dat->aY Dat}(hj:j<=k)(hg:mg x=some (.ref f))(hk:PySem.W.keepIn K (.ref f)=true)(hB:Binds K fd ps [])(F:FnOk P w K mg base (L2.CX P w) j f fd ps (Iw K aj ps.length m)):bf P w K mg base aj k x (.fg ps.length m):=
 ⟨f,hg,hk,fd,ps,j,hj,rfl,hB,F⟩
theorem gW{x:Str}(hn:xs.contains x=true)(hg:mg x=some (.ref (He.ga K x)))(he:(He.Fa.exc x).ok K=true):bf P w K mg base (ni w K xs ft) k x .exc:=by
 obtain⟨h1,h2,h3,h4⟩:=He.exc_ok he
 exact⟨_,hg,BL hn,h1,h2,h3,h4⟩
theorem akf{x:Str}{fd:FuncData}{ps:List Str}{j n:Nat}{m:Mo->List Dat->aY Dat}(hj:j+1<=k)(hn:xs.contains x=true)(hg:mg x=some (.ref (He.ga K x)))(hc:Cls K (He.ga K x))(hm:(He.Fa.mkr x).ok K=true)(hp:ps.length=n+1)(hB:Binds K fd ps [])
  (F:FnOk P w K mg base (L2.CX P w) j (He.ma K (He.ga K x) "__init__") fd ps (Iw K (ni w K xs ft) ps.length m)):bf P w K mg base (ni w K xs ft) k x (.cls n m):=
 ⟨_,_,fd,ps,j,hg,BL hn,hc,He.mkr_ok hm,hj,hp,hB,F⟩
theorem aj5{aj:aO}{x:Str}{kvs:List (Str×List Str)}(hg:mg x=some (.ref (He.ga K x)))(hb:aeQ K x kvs=true)(hk:∃es n,KDict K w (He.ga K x) es n):bf P w K mg base aj k x (.dic (yI kvs)):=⟨_,hg,agZ hb hk⟩
theorem ai8{x:Str}{fs:List Str}{fd:FuncData}{ps:List Str}(h2:2<=k)(hn:xs.contains x=true)(hg:mg x=some (.ref (He.ga K x)))(ho:R4 K x fs=true)(hp:ps.length=fs.length+1)(hB:Binds K fd ps [])(F:FnOk P w K mg base CX0 1 (He.ma K (He.ga K x) "__init__") fd ps (aem (He.ga K x) fs)):bf P w K mg base (ni w K xs ft) k x (.exi fs):=by
 obtain⟨h1,h3,h4,_,_⟩:=Sh ho
 exact⟨_,_,fd,ps,hg,BL hn,h1,h3,h4,h2,hp,hB,F⟩
theorem afj{m:Str}{l:List Str}(hf:l.contains m=false)(z:m∈l):False:=by
 rw[List.contains_iff_mem.mpr z]at hf
 cases hf
theorem amH{c m:Str}{fd:FuncData}{ps:List Str}{j:Nat}{mm:Mo->List Dat->Out Dat}(hj:j<=k)(hn:xs.contains c=true)(hc:Cls K (He.ga K c))(hm:(He.Fa.meth c m).ok K=true)(hf:((ft.lookup c).getD []).contains m=false)(hB:Binds K fd ps [])(F:FnOk P w K mg base (L2.CX P w) j (He.ma K (He.ga K c) m) fd ps (Vm K (ni w K xs ft) ps.length mm)):bV P w K mg base (ni w K xs ft) k c m (.q ps.length mm):=
 ⟨_,_,BL hn,hc,He.meth_ok hm,(fun z=>afj hf z),fd,ps,j,hj,rfl,hB,F⟩
theorem amC{c m:Str}{fd:FuncData}{ps:List Str}{j:Nat}{mm:Mo->List Dat->aY Dat}(hj:j<=k)(hn:xs.contains c=true)(hc:Cls K (He.ga K c))(hm:(He.Fa.meth c m).ok K=true)(hf:((ft.lookup c).getD []).contains m=false)(hB:Binds K fd ps [])(F:FnOk P w K mg base (L2.CX P w) j (He.ma K (He.ga K c) m) fd ps (Iw K (ni w K xs ft) ps.length mm)):bV P w K mg base (ni w K xs ft) k c m (.g ps.length mm):=
 ⟨_,_,BL hn,hc,He.meth_ok hm,(fun z=>afj hf z),fd,ps,j,hj,rfl,hB,F⟩
theorem ali{Ms:List (Str×List (Str×MV))}{xm:List (Str×List (Str×Bool))}{df:List (Str×Bool)}{xf:List (Str×List Str)}(hm:DG P w K mg base (ni w K xs ft) k Ms)(hb:Jw K ft=true)(hx:xmB K xm=true)(hn:xmN xs xm=true)(hf:(xf.all fun p=>xs.contains p.1&&R4 K p.1 p.2)=true):Rq P w K mg base (ni w K xs ft) k ⟨Ms,ft,xm,df,xf⟩ where
 ms:=hm.get
 fk:=afa
 co:=adQ hb
 hw:=rfl
 xm:=akQ hx hn
 xf:=fun y fs hl=>by
  obtain⟨h1,h2⟩:=He.ba (aqu.mp hf _ (pJ hl))
  obtain⟨_,_,_,h3,h4⟩:=Sh h2
  exact⟨_,BL h1,h3,h4⟩
end
abbrev lI(l:List Int):Dat:=.list (l.map PyData.int)
abbrev aM(l:List Int):Dat:=.tuple (l.map PyData.int)
theorem jX{tg:fB}{body:SF}{d:Dat}{ds:List Dat}{M M2:Mo}{ρ ρ1 ρ2:Env}(h1:tg d ρ=some ρ1)(h2:body M ρ1=.next ρ2 M2):iy tg body (d::ds) M ρ=iy tg body ds M2 ρ2:=by
 rw[iy,h1]
 show(match body M ρ1 with
   |.next ρ2 M2=>iy tg body ds M2 ρ2
   |.cont ρ2 M2=>iy tg body ds M2 ρ2
   |.brk ρ2 M2=>.next ρ2 M2
   |.ret d M2=>.ret d M2
   |.exc x ρ2 M2=>.exc x ρ2 M2
   |.bad=>.bad)=_
 rw[h2]
theorem gK{α:Type}{tg:fB}{tt:QT}{te:QF}{M:Mo}{ρ:Env}(ds:α->Dat)(p:α->Bool)(f:α->Dat):∀(xs:List α),(∀x∈xs,∃ρ1,tg (ds x) ρ=some ρ1/\tt M ρ1=.ok (p x)/\(p x=true->te M ρ1=.ok (f x)))->dh tg tt te M ρ (xs.map ds)=.ok ((xs.filter p).map f)
 |[],_=>rfl
 |x::xs,h=>by
  obtain⟨ρ1,h1,h2,h3⟩:=h x aqf
  have ih:=gK ds p f xs fun y hy=>h y (aqe _ hy)
  rw[aqd,dh,h1]
  show((w6 (tt M ρ1)).bind fun b=>if b=true then(w6 (te M ρ1)).bind fun y=>(dh tg tt te M ρ (xs.map ds)).bind fun r=>.ok (y::r) else dh tg tt te M ρ (xs.map ds))=_
  rw[h2,ih]
  cases hp:p x with
  |true=>
   show(if true=true then(w6 (te M ρ1)).bind fun y=>(Out.ok ((xs.filter p).map f)).bind fun r=>.ok (y::r) else Out.ok ((xs.filter p).map f))=_
   rw[h3 hp,if_pos rfl,List.filter_cons_of_pos hp]
   rfl
  |false=>
   show(if false=true then(w6 (te M ρ1)).bind fun y=>(Out.ok ((xs.filter p).map f)).bind fun r=>.ok (y::r) else Out.ok ((xs.filter p).map f))=_
   rw[if_neg (by decide),List.filter_cons_of_neg (by rw[hp];decide)]
theorem gJ{α:Type}{tg:fB}{te:QF}{M:Mo}{ρ:Env}(ds:α->Dat)(f:α->Dat)(xs:List α)(h:∀x∈xs,∃ρ1,tg (ds x) ρ=some ρ1/\te M ρ1=.ok (f x)):dh tg jo te M ρ (xs.map ds)=.ok (xs.map f):=by
 have:=gK (tt:=jo) ds (fun _=>true) f xs fun x hx=>by
  obtain⟨ρ1,h1,h2⟩:=h x hx
  exact⟨ρ1,h1,rfl,fun _=>h2⟩
 rw[this,ara.mpr (fun _ _=>rfl)]
theorem afk{i j:Int}(h : -(2 ^ 64) < i/\i < 2 ^ 64):decide (CMul i j)=true:=decide_eq_true (.inl h)
theorem mul_r{i j:Int}(h : -(2 ^ 64) < j/\j < 2 ^ 64):decide (CMul i j)=true:=decide_eq_true (.inr h)
section
variable(M:Mo)(ρ:Env)
@[simp]theorem ajg (f k:SF):aD f k M ρ=match f M ρ with
 |.next ρ' M'=>k M' ρ'
 |o=>o:=rfl
@[simp]theorem anB:aR M ρ=.next ρ M:=rfl
@[simp]theorem apD (tg:fB) (f:GF):aZ tg f M ρ=(f M ρ).then ρ fun d M'=>match tg d ρ with
 |some ρ'=>.next ρ' M'
 |none=>.bad:=rfl
@[simp]theorem ank (i j:Nat) (f:GF):O7 i j f M ρ=(f M ρ).then ρ fun d M'=>.next ((ρ.set i (some (.dat d))).set j (some (.dat d))) M':=rfl
@[simp]theorem ev_if (t:QT) (f k:SF):bO t f k M ρ=((t M (qX ρ)).at M).then ρ fun c M'=>if c=true then f M' ρ else k M' ρ:=rfl
@[simp]theorem aoC (f:QF):aQ f M ρ=((f M (qX ρ)).at M).then ρ fun d M'=>.ret d M':=rfl
@[simp]theorem aoo (it:IF) (tg:fB) (body:SF):uI it tg body M ρ=((it M ρ).at M).then ρ fun ds M'=>iy tg body ds M' ρ:=rfl
@[simp]theorem aoJ (j:Nat) (f:IF):Hl j f M ρ=((f M ρ).at M).then ρ fun xs M'=>.next (ρ.set j (some (.mut xs))) M':=rfl
@[simp]theorem ana (f:GF):cG f M ρ=(f M ρ).then ρ fun _ M'=>.next ρ M':=rfl
@[simp]theorem aoX (j:Nat) (f:QF):Nh j f M ρ=match ρ[j]? with
 |some (some (.mut xs))=>((f M ρ).at M).then ρ fun d M'=>if xs.length < 100000 then .next (ρ.set j (some (.mut (xs++[d])))) M' else .bad
 |_=>.bad:=rfl
@[simp]theorem anp (j:Nat) (fi f:QF):aki j fi f M ρ=match ρ[j]? with
 |some (some (.mut xs))=>((f M ρ).at M).then ρ fun d M'=>((fi M' ρ).at M').then ρ fun i M2=>match i with
  |.int k=>match ixN xs.length k with
   |some n=>.next (ρ.set j (some (.mut (xs.set n d)))) M2
   |none=>.bad
  |_=>.bad
 |_=>.bad:=rfl
@[simp]theorem ao9 (j:Nat) (f:QF):NP j f M ρ=match ρ[j]? with
 |some (some (.dat (.int i)))=>((f M ρ).at M).then ρ fun d M'=>match d with
  |.int k=>.next (ρ.set j (some (.dat (.int (i+k))))) M'
  |_=>.bad
 |_=>.bad:=rfl
@[simp]theorem amQ (i j:Nat) (f:GF):Wt i j f M ρ=(f M ρ).then ρ fun d M'=>match d with
 |.list (d0::ds)=>if ds.length<=16000 then .next ((ρ.set i (some (.dat d0))).set j (some (.dat (.list ds)))) M' else .bad
 |.tuple (d0::ds)=>if ds.length<=16000 then .next ((ρ.set i (some (.dat d0))).set j (some (.dat (.list ds)))) M' else .bad
 |_=>.bad:=rfl
@[simp]theorem apO (js:List Nat) (as:QA):sPN js as M ρ=((as M ρ).at M).then ρ fun ds M'=>match qN js ds ρ with
 |some ρ'=>.next ρ' M'
 |none=>.bad:=rfl
@[simp]theorem aoG (f:QF):gOf f M ρ=(f M ρ).at M:=rfl
@[simp]theorem ev_op (o:Dat->Dat->Out Dat) (a b:QF):aA o a b M ρ=(a M ρ).bind fun x=>(b M ρ).bind fun y=>o x y:=rfl
@[simp]theorem ev_un (o:Dat->Out Dat) (a:QF):eU o a M ρ=(a M ρ).bind o:=rfl
@[simp]theorem ev_c (d:Dat):qC d M ρ=.ok d:=rfl
@[simp]theorem ev_var (i:Nat):aq i M ρ=match ρ[i]? with
 |some (some (.dat d))=>.ok d
 |_=>.bad:=rfl
@[simp]theorem anq (i:Nat):ao i M ρ=match ρ[i]? with
 |some (some (.dat d))=>.ok d
 |some (some (.mut xs))=>.ok (.list xs)
 |_=>.bad:=rfl
@[simp]theorem aoB:au M ρ=.ok []:=rfl
@[simp]theorem anG (a:QF) (r:QA):ak a r M ρ=(a M ρ).bind fun x=>(r M ρ).bind fun xs=>.ok (x::xs):=rfl
@[simp]theorem aom (r:QA):bx r M ρ=(r M ρ).bind fun xs=>Out.when (decide (xs.length<=100000)) (.ok (.tuple xs)):=rfl
@[simp]theorem aoh (r:QA):zX r M ρ=(r M ρ).bind fun xs=>Out.when (decide (xs.length<=100000)) (.ok (.list xs)):=rfl
@[simp]theorem ao7 (a:QF):iY a M ρ=(a M ρ).bind Ht:=rfl
@[simp]theorem apJ (a:QF):bB a M ρ=(a M ρ).bind Aj:=rfl
@[simp]theorem anw (a:QT):jP a M ρ=(a M ρ).bind fun b=>.ok (!b):=rfl
@[simp]theorem amM (a b:QT):mK a b M ρ=(a M ρ).bind fun x=>if x=true then b M ρ else .ok false:=rfl
@[simp]theorem anV (a b:QT):Ju a b M ρ=(a M ρ).bind fun x=>if x=true then .ok true else b M ρ:=rfl
@[simp]theorem ap2 (a:QT):UJ a M ρ=(a M ρ).bind fun b=>.ok (.bool b):=rfl
@[simp]theorem apt (t:QT) (a b:QF):Py t a b M ρ=(t M ρ).bind fun x=>if x=true then a M ρ else b M ρ:=rfl
@[simp]theorem ev_is (neg:Bool) (c:Dat) (a:QF):xH neg c a M ρ=(a M ρ).bind fun d=>.ok (.bool (neg ^^ oJ c d)):=rfl
@[simp]theorem ev_notV (a:QF):Qm a M ρ=((a M ρ).bind Aj).bind fun b=>.ok (.bool (!b)):=by
 show(((a M ρ).bind Aj).bind fun b=>Out.ok (!b)).bind (fun b=>Out.ok (PyData.bool b))=_
 cases a M ρ with
 |ok d=>cases h:Aj d <;> simp[Out.bind,h]
 |exc x=>rfl
 |bad=>rfl
@[simp]theorem ev_andV (a b:QF):wX a b M ρ=(a M ρ).bind fun d=>(Aj d).bind fun x=>if x=true then b M ρ else .ok (.bool false):=rfl
@[simp]theorem ev_orV (a b:QF):aeL a b M ρ=(a M ρ).bind fun d=>(Aj d).bind fun x=>if x=true then .ok (.bool true) else b M ρ:=rfl
@[simp]theorem alL (o o':Dat->Dat->Out Dat) (a b c:QF):lY o o' a b c M ρ=(a M ρ).bind fun x=>(b M ρ).bind fun y=>(o x y).bind fun z=>(Aj z).bind fun k=>if k=true then(c M ρ).bind fun w=>(o' y w).bind Aj else .ok false:=rfl
@[simp]theorem aoE (t:MJ) (a:QF):vR t a M ρ=(a M ρ).bind (yc t):=rfl
@[simp]theorem apY (a:QF) (lo hi:QO):Mq a lo hi M ρ=(a M ρ).bind fun d=>(lo M ρ).bind fun l=>(hi M ρ).bind fun h=>slD d l h:=rfl
@[simp]theorem apZ:za M ρ=.ok none:=rfl
@[simp]theorem ap1 (a:QF):qI a M ρ=(a M ρ).bind fun d=>(zR d).bind fun i=>.ok (some i):=rfl
@[simp]theorem ev_call (m:Mo->List Dat->Out Dat) (as:QA):aX m as M ρ=(as M ρ).bind fun ds=>m M ds:=rfl
@[simp]theorem amk (a:QF):dw a M ρ=(a M ρ).bind oE:=rfl
@[simp]theorem alE (a:QF):Bj a M ρ=(a M ρ).bind fun d=>(zR d).bind fun n=>Out.when (decide (n<=100000/\-100000<=n)) (.ok (ju 0 n.toNat)):=rfl
@[simp]theorem anm (k₀:Int) (a:QF):yN k₀ a M ρ=(a M ρ).bind fun d=>(oE d).bind fun ds=>.ok (rC k₀ ds):=rfl
@[simp]theorem apa (a b:QF):Km a b M ρ=(a M ρ).bind fun d=>(b M ρ).bind fun e=>(oE d).bind fun ds=>(oE e).bind fun es=>.ok (wI ds es):=rfl
@[simp]theorem anE (it:IF) (tg:fB) (vs:List Nat) (tt:QT) (te:QF):eY it tg vs tt te M ρ=(it M ρ).bind fun ds=>Out.when (decide (ds.length<=50000)) ((dh tg tt te M (bY ρ vs) ds).bind fun r=>.ok (.list r)):=rfl
@[simp]theorem ami (it:IF) (tg:fB) (vs:List Nat) (tt:QT) (te:QF):Ce it tg vs tt te M ρ=(it M ρ).bind fun ds=>Out.when (decide (ds.length<=50000)) (dh tg tt te M (bY ρ vs) ds):=rfl
@[simp]theorem aou (f:QA):Q9 f M ρ=(f M ρ).bind fun xs=>Out.when (decide (xs.length<=100000)) (.ok xs):=rfl
@[simp]theorem akg (f:QF):aec f M ρ=(f M ρ).bind Wv:=rfl
@[simp]theorem alA (j:Nat) (d:Dat):aF j d ρ=some (ρ.set j (some (.dat d))):=rfl
@[simp]theorem amc (js:List Nat) (ds:List Dat):bL js (.tuple ds) ρ=qN js ds ρ:=rfl
@[simp]theorem apU (n:Nat) (b:SF) (ds:List Dat):mQ n b M ds=match b M (ini n ds) with
 |.ret d _=>.ok d
 |.next _ _=>.ok .none
 |.exc x _ _=>.exc x
 |_=>.bad:=rfl
@[simp]theorem apI (n:Nat) (b:SF) (ds:List Dat):mG n b M ds=match b M (ini n ds) with
 |.ret d M'=>.ok d M'
 |.next _ M'=>.ok .none M'
 |.exc x _ M'=>.exc x M'
 |_=>.bad:=rfl
end
section
variable(i j:Int)(ds es:List Dat)(b c:Bool)(x y:Str)
@[simp]theorem amX:fH (.int i) (.int j)=.ok (.int (i+j)):=rfl
@[simp]theorem amT:fH (.list ds) (.list es)=Out.when (decide (ds.length+es.length<=100000)) (.ok (.list (ds++es))):=rfl
@[simp]theorem am3:fH (.tuple ds) (.tuple es)=Out.when (decide (ds.length+es.length<=100000)) (.ok (.tuple (ds++es))):=rfl
@[simp]theorem anY:lW (.int i) (.int j)=.ok (.int (i - j)):=rfl
@[simp]theorem aoO:wu (.int i) (.int j)=Out.when (decide (CMul i j)) (.ok (.int (i * j))):=rfl
@[simp]theorem ao5:Cg (.int i) (.int j)=Out.when (decide (CDiv i j)) (.ok (.int (i / j))):=rfl
@[simp]theorem ape:lu (.int i) (.int j)=Out.when (decide (0 < j)) (.ok (.int (i % j))):=rfl
@[simp]theorem apb:MN (.int i) (.int j)=Out.when (decide (CPow i j)) (.ok (.int (i ^ j.toNat))):=rfl
@[simp]theorem apW:Mu (.int i) (.int j)=.ok (.bool (decide (i < j))):=rfl
@[simp]theorem apL:ux (.int i) (.int j)=.ok (.bool (decide (i<=j))):=rfl
@[simp]theorem apK:Xm (.int i) (.int j)=.ok (.bool (decide (j < i))):=rfl
@[simp]theorem apT:geD (.int i) (.int j)=.ok (.bool (decide (j<=i))):=rfl
@[simp]theorem aog:cH (.int i) (.int j)=.ok (.bool (i==j)):=rfl
@[simp]theorem aoi:cH (.str x) (.str y)=.ok (.bool (x==y)):=rfl
@[simp]theorem aps:cH (.bool b) (.bool c)=.ok (.bool (b==c)):=rfl
@[simp]theorem apz:Ck (.int i) (.int j)=.ok (.bool (!(i==j))):=rfl
@[simp]theorem apl:Ck (.str x) (.str y)=.ok (.bool (!(x==y))):=rfl
@[simp]theorem anZ:Tn (.int i)=.ok (.int (-i)):=rfl
@[simp]theorem amO:Ht (.bool b)=.ok b:=rfl
@[simp]theorem amZ:Ht (.list ds)=.ok (!ds.isEmpty):=rfl
@[simp]theorem am9:Ht (.tuple ds)=.ok (!ds.isEmpty):=rfl
@[simp]theorem apq:Aj (.bool b)=.ok b:=rfl
@[simp]theorem anf:mV (.list ds)=.ok (.int ds.length):=rfl
@[simp]theorem anu:mV (.tuple ds)=.ok (.int ds.length):=rfl
@[simp]theorem aph:Ud (.int i)=.ok (.int (if i < 0 then -i else i)):=rfl
@[simp]theorem ev_max2:u5 (.int i) (.int j)=.ok (.int (if j > i then j else i)):=rfl
@[simp]theorem amL:Gk (.int i) (.int j)=.ok (.int (if j < i then j else i)):=rfl
@[simp]theorem aoL:aV (.list ds) (.int i)=match atI ds i with
  |some d=>.ok d
  |none=>.bad:=rfl
@[simp]theorem aov:aV (.tuple ds) (.int i)=match atI ds i with
  |some d=>.ok d
  |none=>.bad:=rfl
@[simp]theorem amN:zR (.int i)=.ok i:=rfl
@[simp]theorem aot (lo hi:Option Int):slD (.list ds) lo hi=.ok (.list (cutD ds lo hi)):=rfl
@[simp]theorem ao1 (lo hi:Option Int):slD (.tuple ds) lo hi=.ok (.tuple (cutD ds lo hi)):=rfl
@[simp]theorem anC:lZ (.list ds)=.ok (.tuple ds):=rfl
@[simp]theorem ano:lZ (.tuple ds)=.ok (.tuple ds):=rfl
@[simp]theorem alT:Ls (.list ds)=.ok (.list ds):=rfl
@[simp]theorem amg:Ls (.tuple ds)=.ok (.list ds):=rfl
@[simp]theorem apv:Wv (.list ds)=.ok ds:=rfl
@[simp]theorem an6:Wv (.tuple ds)=.ok ds:=rfl
@[simp]theorem ao4:oE (.list ds)=.ok ds:=rfl
@[simp]theorem apw:oE (.tuple ds)=.ok ds:=rfl
@[simp]theorem am4 (o:Option Cell) (ρ:Env):qX (o::ρ)=o.map Rc::qX ρ:=rfl
@[simp]theorem amv:qX []=[]:=rfl
@[simp]theorem alX (d:Dat):Rc (.dat d)=.dat d:=rfl
@[simp]theorem alW (ds:List Dat):Rc (.mut ds)=.dat (.list ds):=rfl
@[simp]theorem ang (ρ:Env):qN [] [] ρ=some ρ:=rfl
@[simp]theorem anj (j:Nat) (js:List Nat) (d:Dat) (ρ:Env):qN (j::js) (d::ds) ρ=qN js ds (ρ.set j (some (.dat d))):=rfl
@[simp]theorem amB (ρ:Env):bY ρ []=ρ:=rfl
@[simp]theorem al3 (ρ:Env) (j:Nat) (js:List Nat):bY ρ (j::js)=(bY ρ js).set j none:=rfl
@[simp]theorem alw {α:Type} (a:α) (l:List α):atI (a::l) 0=some a:=atI_nat (j:=0) rfl
@[simp]theorem ant (n:Nat):ini n ds=ds.map (fun d=>some (.dat d))++List.replicate (n - ds.length) none:=rfl
end
theorem aaD{a b:String}:Str.ofString a=Str.ofString b↔a=b:=by
 constructor
 ·intro h
  rw[Str.ofString_eq_toList,Str.ofString_eq_toList]at h
  have h1:a.toList.map Char.toNat=b.toList.map Char.toNat:=by simpa using h
  have h2:a.toList=b.toList:=by
   refine List.map_inj_right (f:=Char.toNat) (fun x y e=>?_) |>.mp h1
   exact Char.ext (UInt32.toNat_inj.mp e)
  exact String.toList_inj.mp h2
 ·rintro rfl
  rfl
@[simp]theorem anH (a b:String):(Str.ofString a=Str.ofString b)=(a=b):=propext aaD
@[simp]theorem am5 (a b:String):(Str.ofString a==Str.ofString b)=decide (a=b):=by
 rw[arb]
 simp[aaD]
@[simp]theorem apS {α:Type} (a b:α) (l:List α):atI (a::b::l) 1=some b:=atI_nat (j:=1) rfl
@[simp]theorem apH {α:Type} (a b c:α) (l:List α):atI (a::b::c::l) 2=some c:=atI_nat (j:=2) rfl
@[simp]theorem apM {α:Type} (a b c d:α) (l:List α):atI (a::b::c::d::l) 3=some d:=atI_nat (j:=3) rfl
@[simp]theorem apF {α:Type} (a b c d e:α) (l:List α):atI (a::b::c::d::e::l) 4=some e:=atI_nat (j:=4) rfl
@[simp]theorem apP {α:Type} (a b c d e f:α) (l:List α):atI (a::b::c::d::e::f::l) 5=some f:=atI_nat (j:=5) rfl
@[simp]theorem ap3 {α:Type} (a b c d e f g:α) (l:List α):atI (a::b::c::d::e::f::g::l) 6=some g:=atI_nat (j:=6) rfl
@[simp]theorem amJ (s:String):PyData.strOk (Str.ofString s)=true:=by
 rw[Str.ofString_eq_toList]
 unfold PyData.strOk
 simp only[Array.all_eq_true,decide_eq_true_eq]
 intro i h
 simp only[List.getElem_toArray,List.getElem_map]
 have:=s.toList[i]'(by simpa using h) |>.valid
 rcases this with z|⟨_,z⟩
 ·show(s.toList[i]'(by simpa using h)).val.toNat < _
  omega
 ·show(s.toList[i]'(by simpa using h)).val.toNat < _
  omega
section
variable(i j:Int)(x y:Str)(d e:Dat)(ds es:List Dat)(b c:Bool)
@[simp]theorem YS:PyData.eqv (.int i) (.int j)=(i==j):=by simp[PyData.eqv]
@[simp]theorem aoc:PyData.eqv (.str x) (.str y)=(x==y):=by simp[PyData.eqv]
@[simp]theorem anK:PyData.eqv (.bool b) (.bool c)=(b==c):=by simp[PyData.eqv]
@[simp]theorem aor:PyData.eqv .none .none=true:=by simp[PyData.eqv]
@[simp]theorem Xl:PyData.eqv (.tuple ds) (.tuple es)=PyData.eqvAll ds es:=by simp[PyData.eqv]
@[simp]theorem aoV:PyData.eqv (.list ds) (.list es)=PyData.eqvAll ds es:=by simp[PyData.eqv]
@[simp]theorem an0:PyData.eqv (.tuple ds) .none=false:=by simp[PyData.eqv]
@[simp]theorem apC:PyData.eqv .none (.tuple ds)=false:=by simp[PyData.eqv]
@[simp]theorem anW:PyData.eqv (.str x) (.int i)=false:=by simp[PyData.eqv]
@[simp]theorem aoS:PyData.eqv (.int i) (.str x)=false:=by simp[PyData.eqv]
@[simp]theorem agT:PyData.eqvAll [] []=true:=by simp[PyData.eqvAll]
@[simp]theorem anb:PyData.eqvAll [] (d::ds)=false:=by simp[PyData.eqvAll]
@[simp]theorem amK:PyData.eqvAll (d::ds) []=false:=by simp[PyData.eqvAll]
@[simp]theorem aaK:PyData.eqvAll (d::ds) (e::es)=(PyData.eqv d e&&PyData.eqvAll ds es):=by simp[PyData.eqvAll]
end
@[simp]theorem yG:∀l m:List Int,PyData.eqvAll (l.map PyData.int) (m.map PyData.int)=decide (l=m)
 |[],[]=>by simp
 |[],_::_=>by simp
 |_::_,[]=>by simp
 |a::l,b::m=>by
  rw[aqd,aqd,aaK,yG l m,YS]
  by_cases h:a=b <;> by_cases h2:l=m <;> simp[h,h2]
theorem Ij{n:Nat}:∀{ds:List Dat},mW n ds=true↔∀d∈ds,okd n d=true
 |[]=>by simp[mW]
 |d::ds=>by simp[mW,Ij (ds:=ds)]
@[simp]theorem af8 (n:Nat) (i:Int):okd n (.int i)=true:=by simp[okd]
@[simp]theorem Ul (n:Nat) (l:List Int):mW n (l.map PyData.int)=true:=Ij.mpr fun d h=>by
 obtain⟨i,_,rfl⟩:=aqk.mp h
 simp
def ob(h:Nat):Dat:=obj h
section
variable(M:Mo)(ρ:Env)(h:Nat)(f:Str)
@[simp]theorem anh:Jt M f (ob h)=(M[h]?).bind fun i=>i.fs.lookup f:=rfl
@[simp]theorem amA (tb:List (Str×MV)):CG tb M (ob h)=(M[h]?).bind fun i=>tb.lookup i.cls:=rfl
@[simp]theorem YL:jO M (ob h)=(M[h]?).bind fun i=>match i.cls=="" with
 |true=>none
 |false=>some (h,i):=rfl
@[simp]theorem anM (o:QF):gq f o M ρ=(o M ρ).bind fun d=>match Jt M f d with
 |some (.dat x)=>.ok x
 |_=>.bad:=rfl
@[simp]theorem amU (o:QF):bH f o M ρ=(o M ρ).bind fun d=>match Jt M f d with
 |some (.dat x)=>.ok x
 |some (.lst _ xs)=>.ok (.list xs)
 |_=>.bad:=rfl
@[simp]theorem anl (tb:List (Str×MV)) (o:QF) (as:QA):aP tb o as M ρ=(o M ρ).bind fun d=>match CG tb M d with
 |some (.q _ m)=>(as M ρ).bind fun ds=>m M (d::ds)
 |_=>.bad:=rfl
@[simp]theorem alS (tb:List (Str×MV)) (o:QF) (as:QA):cM tb o as M ρ=((o M ρ).at M).bind fun d _=>match CG tb M d with
 |some (.q _ m)=>((as M ρ).at M).bind fun ds _=>(m M (d::ds)).at M
 |some (.g _ m)=>((as M ρ).at M).bind fun ds _=>m M (d::ds)
 |none=>.bad:=rfl
@[simp]theorem anr (x:Str) (m:Mo->List Dat->aY Dat) (as:QA):zY x m as M ρ=((as M ρ).at M).bind fun ds _=>match m (M++[⟨x,[]⟩]) (ob M.length::ds) with
 |.ok .none M'=>.ok (ob M.length) M'
 |_=>.bad:=rfl
@[simp]theorem amo (m:Mo->List Dat->aY Dat) (as:QA):Cz m as M ρ=((as M ρ).at M).bind fun ds _=>m M ds:=rfl
@[simp]theorem aly (m:Mo->List Dat->aY Dat) (as:GA):aiI m as M ρ=(as M ρ).bind fun ds M1=>m M1 ds:=rfl
@[simp]theorem alG (m:Mo->List Dat->Out Dat) (as:GA):ahu m as M ρ=(as M ρ).bind fun ds M1=>(m M1 ds).at M1:=rfl
@[simp]theorem alx (a:GF) (r:GA):aiV a r M ρ=(a M ρ).bind fun d M1=>(r M1 ρ).bind fun ds M2=>.ok (d::ds) M2:=rfl
@[simp]theorem anz (t:QT):aeS t M ρ=(t M ρ).at M:=rfl
@[simp]theorem amh (a:GT):akh a M ρ=(a M ρ).bind fun b M1=>.ok (!b) M1:=rfl
@[simp]theorem ame (a b:GT):ak2 a b M ρ=(a M ρ).bind fun x M1=>if x=true then b M1 ρ else .ok false M1:=rfl
@[simp]theorem anx (a b:GT):amD a b M ρ=(a M ρ).bind fun x M1=>if x=true then .ok true M1 else b M1 ρ:=rfl
@[simp]theorem alQ (a:GF):akR a M ρ=(a M ρ).bind fun d M1=>(Ht d).at M1:=rfl
@[simp]theorem amy (x:Str):dY x M ρ=.exc ⟨x,[]⟩ ρ M:=rfl
@[simp]theorem alD (x:Str) (fs:List Str) (as:QA):Bm x fs as M ρ=((as M ρ).at M).then ρ fun ds M'=>.exc ⟨x,(fs.zip ds).reverse⟩ ρ M':=rfl
@[simp]theorem an2 (b:SF) (hs:List Hd):Td b hs M ρ=match b M ρ with
 |.exc x ρ' M'=>hdl hs x ρ' M'
 |o=>o:=rfl
@[simp]theorem am0 (x:dI):hdl [] x ρ M=.exc x ρ M:=rfl
@[simp]theorem amV (h:Hd) (r:List Hd) (x:dI):hdl (h::r) x ρ M=match h.tk x.cls with
  |some true=>match abO ρ h.nm with
   |true=>match CT h.y x h.st (Tq ρ h.nm) with
    |some ρ2=>.next (Tq ρ2 h.nm) M
    |none=>.bad
   |false=>.bad
  |some false=>hdl r x ρ M
  |none=>.bad:=rfl
@[simp]theorem ane:Tq ρ none=ρ:=rfl
@[simp]theorem amY (i:Nat):Tq ρ (some i)=ρ.set i none:=rfl
@[simp]theorem al1:abO ρ none=true:=rfl
@[simp]theorem alR (i:Nat):abO ρ (some i)=decide (i < ρ.length):=rfl
@[simp]theorem ao6 (y:Str) (x:dI):CT y x [] ρ=some ρ:=rfl
@[simp]theorem aos (y:Str) (x:dI) (j:Nat) (e:CW) (r:List (Nat×CW)):CT y x ((j,e)::r) ρ=(W9 y x e).bind fun d=>CT y x r (ρ.set j (some (.dat d))):=rfl
@[simp]theorem aoA (y:Str) (x:dI) (d:Dat):W9 y x (.con d)=some d:=rfl
@[simp]theorem amR (g:GF):gM g M ρ=(g M ρ).then ρ fun d M'=>.ret d M':=rfl
@[simp]theorem aoN (t:GT) (f k:SF):amd t f k M ρ=(t M ρ).then ρ fun c M'=>if c=true then f M' ρ else k M' ρ:=rfl
@[simp]theorem alz (a b:QF):Bo a b M ρ=(a M ρ).bind fun d=>(b M ρ).bind fun e=>(zR d).bind fun lo=>(zR e).bind fun n=>Out.when (decide (n<=100000/\-100000<=n/\lo<=100000/\-100000<=lo)) (.ok (ju lo (n - lo).toNat)):=rfl
@[simp]theorem am1 (ft:Ft) (o:QF) (e:GF):tM ft o f e M ρ=(e M ρ).then ρ fun d M1=>((o M1 ρ).at M1).then ρ fun od M2=>match jO M2 od with
 |some (h,i)=>match ft.has i.cls f&&decide (i.fs.length < 100) with
  |true=>.next ρ (M2.set h (i.put f (.dat d)))
  |false=>.bad
 |none=>.bad:=rfl
@[simp]theorem anA (ft:Ft) (o:QF) (e:IF):Dk ft o f e M ρ=((e M ρ).at M).then ρ fun xs M0=>((o (M0++[⟨"",[]⟩]) ρ).at (M0++[⟨"",[]⟩])).then ρ fun od M2=>match jO M2 od with
 |some (h,i)=>match ft.has i.cls f&&decide (i.fs.length < 100) with
  |true=>.next ρ (M2.set h (i.put f (.lst M0.length xs)))
  |false=>.bad
 |none=>.bad:=rfl
@[simp]theorem am7 (ft:Ft) (o:QF) (b:Bool):Lj ft o f b M ρ=((o (M++[⟨"",[]⟩]) ρ).at (M++[⟨"",[]⟩])).then ρ fun od M2=>match jO M2 od with
 |some (h,i)=>match ft.has i.cls f&&decide (i.fs.length < 100) with
  |true=>.next ρ (M2.set h (i.put f (.dic b [])))
  |false=>.bad
 |none=>.bad:=rfl
@[simp]theorem am6 (ft:Ft) (o:QF) (e:Mo->Env->Out (List (Dat×Dat))):QV ft o f e M ρ=((e M ρ).at M).then ρ fun kvs _=>((o (M++[⟨"",[]⟩]) ρ).at (M++[⟨"",[]⟩])).then ρ fun od M2=>match jO M2 od with
 |some (h,i)=>match ft.has i.cls f&&decide (i.fs.length < 100) with
  |true=>.next ρ (M2.set h (i.put f (.dic true kvs)))
  |false=>.bad
 |none=>.bad:=rfl
@[simp]theorem anD (o:QF) (e:GF):CK f o e M ρ=((o M ρ).at M).then ρ fun od M0=>match DY M0 f od with
 |some (_,_,n,_)=>(e M0 ρ).then ρ fun d M1=>match DY M1 f od with
  |some (h,i,n',xs)=>match n==n'&&decide (xs.length < 100000) with
   |true=>.next ρ (M1.set h (i.put f (.lst n (xs++[d]))))
   |false=>.bad
  |none=>.bad
 |none=>.bad:=rfl
@[simp]theorem am8 (o fi e:QF):Qi f o fi e M ρ=((e M ρ).at M).then ρ fun d _=>((o M ρ).at M).then ρ fun od _=>match DY M f od with
 |some (h,i,n,xs)=>((fi M ρ).at M).then ρ fun k _=>match k with
  |.int k=>match ixN xs.length k with
   |some j=>.next ρ (M.set h (i.put f (.lst n (xs.set j d))))
   |none=>.bad
  |_=>.bad
 |none=>.bad:=rfl
@[simp]theorem am2 (ft:Ft) (o e:QF):QH ft f o e M ρ=((o M ρ).at M).then ρ fun od _=>match jO M od with
 |some (h,i)=>match i.fs.lookup f,ft.has i.cls f&&decide (i.fs.length < 100) with
  |some (.dat (.int a)),true=>((e M ρ).at M).then ρ fun d _=>match d with
   |.int b=>.next ρ (M.set h (i.put f (.dat (.int (a+b)))))
   |_=>.bad
  |_,_=>.bad
 |none=>.bad:=rfl
theorem afP(d:Dat):DY M f d=(jO M d).bind fun p=>match p.2.fs.lookup f with
 |some (.lst n xs)=>some (p.1,p.2,n,xs)
 |_=>none:=rfl
@[simp]theorem anF:DY M f (ob h)=(M[h]?).bind fun i=>match i.cls=="" with
 |true=>none
 |false=>match i.fs.lookup f with
  |some (.lst n xs)=>some (h,i,n,xs)
  |_=>none:=by
 rw[afP,YL]
 cases M[h]? with
 |none=>rfl
 |some i=>
  show(match i.cls=="" with
   |true=>none
   |false=>some (h,i)).bind _=(match i.cls=="" with
   |true=>none
   |false=>_)
  cases i.cls=="" <;> rfl
@[simp]theorem anv (i:Inst) (x:iJ):i.put f x=⟨i.cls,putL f x i.fs⟩:=rfl
@[simp]theorem apQ (x:iJ):putL f x []=[(f,x)]:=rfl
@[simp]theorem apV (x y:iJ) (g:Str) (r:List (Str×iJ)):putL f x ((g,y)::r)=if g=f then(g,x)::r else(g,y)::putL f x r:=rfl
@[simp]theorem anc (ft:Ft) (c:Str):Ft.has ft c f=match ft.lookup c with
 |some fs=>fs.contains f
 |none=>false:=rfl
@[simp]theorem amW:yg M f (ob h)=(M[h]?).bind fun i=>match i.cls=="" with
 |true=>none
 |false=>match i.fs.lookup f with
  |some (.dic b kvs)=>some (h,i,b,kvs)
  |_=>none:=by
 show(jO M (ob h)).bind _=_
 rw[YL]
 cases M[h]? with
 |none=>rfl
 |some i=>
  show(match i.cls=="" with
   |true=>none
   |false=>some (h,i)).bind _=(match i.cls=="" with
   |true=>none
   |false=>_)
  cases i.cls=="" <;> rfl
@[simp]theorem apn (neg:Bool) (k o:QF):NT neg f k o M ρ=(k M ρ).bind fun d=>(o M ρ).bind fun od=>match yg M f od with
 |some (_,_,b,kvs)=>(dhas b kvs d).bind fun r=>.ok (.bool (neg ^^ r))
 |none=>.bad:=rfl
@[simp]theorem amS (o k e:QF):Lw f o k e M ρ=((e M ρ).at M).then ρ fun v _=>((o M ρ).at M).then ρ fun od _=>match yg M f od with
 |some (h,i,b,kvs)=>((k M ρ).at M).then ρ fun d _=>match dhas b kvs d,decide (kvs.length < 100000) with
  |.ok false,true=>.next ρ (M.set h (i.put f (.dic b (kvs++[(d,v)]))))
  |_,_=>.bad
 |none=>.bad:=rfl
@[simp]theorem amP (o k:QF):Lh f o k M ρ=((o M ρ).at M).then ρ fun od _=>match yg M f od with
 |some (h,i,b,kvs)=>((k M ρ).at M).then ρ fun d _=>match dhas b kvs d,decide (kvs.length<=100000) with
  |.ok true,true=>.next ρ (M.set h (i.put f (.dic b (kvs.filter fun p=>!PyData.eqv p.1 d))))
  |_,_=>.bad
 |none=>.bad:=rfl
@[simp]theorem al5 (o:QF):Bp f o M ρ=(o M ρ).bind fun od=>match yg M f od with
 |some (_,_,true,kvs)=>.ok (kvs.map (·.1))
 |_=>.bad:=rfl
@[simp]theorem alO (o:QF):Bx f o M ρ=(o M ρ).bind fun od=>match yg M f od with
 |some (_,_,_,kvs)=>.ok (.list (kvs.map (·.1)))
 |none=>.bad:=rfl
@[simp]theorem apG (it:IF) (tg:fB) (vs:List Nat) (tk:QF):qDc it tg vs tk M ρ=(it M ρ).bind fun ds=>Out.when (decide (ds.length<=50000)) (Dm tg tk M (bY ρ vs) ds []):=rfl
@[simp]theorem al0 (kvs:List (Dat×Dat)) (i:Int):dhas false kvs (.int i)=.ok (kvs.any fun p=>PyData.eqv p.1 (.int i)):=rfl
@[simp]theorem aoq (neg:Bool) (kvs:List (Str×Dat)) (k:QF):Uc neg kvs k M ρ=(k M ρ).bind fun d=>match d with
 |.str x=>.ok (.bool (neg ^^ (kvs.lookup x).isSome))
 |_=>.bad:=rfl
@[simp]theorem aoD (kvs:List (Str×Dat)) (k:QF):aa2 kvs k M ρ=(k M ρ).bind fun d=>match d with
 |.str x=>match kvs.lookup x with
  |some y=>.ok y
  |none=>.bad
 |_=>.bad:=rfl
@[simp]theorem amt (it:IF) (tg:fB) (vs:List Nat) (tt:QT) (it1:IF) (tg1:fB) (vs1:List Nat) (tt1:QT) (te:QF):Cp it tg vs tt it1 tg1 vs1 tt1 te M ρ=((it M ρ).bind fun ds=>(gA tg tt it1 tg1 vs1 tt1 te M (bY ρ vs) ds).bind fun r=>Out.when (decide (r.length<=50000)) (.ok r)).bind fun r=>.ok (.list r):=rfl
@[simp]theorem alJ (it:IF) (tg:fB) (vs:List Nat) (tt:QT) (te:QF):ag9 it tg vs tt te M ρ=((it M ρ).bind fun ds=>Out.when (decide (ds.length<=50000)) (dh tg tt te M (bY ρ vs) ds)).bind fun ds=>match intsOf ds with
 |some l=>Out.when (decide (l.length<=4000)) (.ok (.list ((afx l).map PyData.int)))
 |none=>.bad:=rfl
@[simp]theorem alu {α:Type} (k g:Str) (y:α) (r:List (Str×α)):List.lookup k ((g,y)::r)=if k=g then some y else List.lookup k r:=by
 rw[aqA]
 by_cases e:k=g
 ·subst e
  simp
 ·have:(k==g)=false:=by simpa using e
  rw[this,if_neg e]
end
end Rf
namespace Pr
open PySem PySem.Spec PyProof.Rows L2 Evl Rf
def yF:SF:=
 (aD (Dk jN (ao 0) "allowances" (Q9 au))
 (Dk jN (ao 0) "circles" (Q9 au)))
def uf:Mo->List Dat->aY Dat:=mG 1 yF
def zP:SF:=
 (Lj jN (ao 0) "held" true)
def uX:Mo->List Dat->aY Dat:=mG 1 zP
def DR:SF:=
 (Dk jN (ao 0) "beasts" (Q9 au))
def yK:Mo->List Dat->aY Dat:=mG 1 DR
def yD:SF:=
 (aD (tM jN (ao 0) "owner_count" (gOf (qC (.int 0))))
 (aD (Lj jN (ao 0) "holders" false)
 (aD (tM jN (ao 0) "grounds" (zY "Grounds" uf au))
 (aD (tM jN (ao 0) "rights" (zY "Rights" uX au))
 (tM jN (ao 0) "herd" (zY "Herd" yK au))))))
def lO:Mo->List Dat->aY Dat:=mG 1 yD
def Aa:SF:=
 (aQ (bx (ak (gq "owner" (ao 0)) (ak (gq "ground" (ao 0)) (ak (gq "due" (ao 0)) (ak (gq "ear" (ao 0)) (ak (gq "alive" (ao 0)) au)))))))
def vh:Mo->List Dat->Out Dat:=mQ 1 Aa
def lM:List (Str×MV):=[("Beast",.q 1 vh)]
def Cj:SF:=
 (aQ (aA fH (aP lM (ao 0) au) (bx (ak (gq "mother" (ao 0)) (ak (eU lZ (bH "story" (ao 0))) au)))))
def v9:Mo->List Dat->Out Dat:=mQ 1 Cj
def vH:SF:=
 (aQ (Bx "holders" (ao 0)))
def pO:Mo->List Dat->Out Dat:=mQ 1 vH
def uJ:SF:=
 (aQ (Bx "held" (ao 0)))
def oM:Mo->List Dat->Out Dat:=mQ 1 uJ
def ug:SF:=
 (aQ (eU mV (bH "allowances" (ao 0))))
def oY:Mo->List Dat->Out Dat:=mQ 1 ug
def dZ:List (Str×MV):=[("Grounds",.q 1 oY)]
def Ag:SF:=
 (aQ (UJ (lY ux ux (qC (.int 1)) (ao 1) (aP dZ (ao 0) au))))
def u6:Mo->List Dat->Out Dat:=mQ 2 Ag
def xY:List (Str×MV):=[("Grounds",.q 2 u6)]
def yr:SF:=
 (bO (jP (iY (aP xY (ao 0) (ak (aq 1) au)))) (dY "NoGround") aR)
def tY:Mo->List Dat->Out Dat:=mQ 2 yr
def aG:List (Str×MV):=[("Grounds",.q 2 tY)]
def mF:SF:=
 (aD (cG (gOf (aP aG (ao 0) (ak (aq 1) au))))
 (aQ (aA aV (bH "allowances" (ao 0)) (aA lW (ao 1) (qC (.int 1))))))
def jF:Mo->List Dat->Out Dat:=mQ 2 mF
def ou:SF:=
 (aD (cG (gOf (aP aG (ao 0) (ak (aq 1) au))))
 (aQ (eU Ls (aA aV (bH "circles" (ao 0)) (aA lW (ao 1) (qC (.int 1)))))))
def jW:Mo->List Dat->Out Dat:=mQ 2 ou
def bA:List (Str×MV):=[("Grounds",.q 2 jW)]
def nu:SF:=
 (aQ (aP bA (bH "grounds" (ao 0)) (ak (aq 1) au)))
def jV:Mo->List Dat->Out Dat:=mQ 2 nu
def sO:List (Str×MV):=[("Rights",.q 1 oM)]
def uG:List (Str×MV):=[("Commons",.q 1 pO)]
def u9:List (Str×MV):=[("Beast",.q 1 v9)]
def bQ:List (Str×MV):=[("Commons",.q 2 jV)]
def dJ:List (Str×MV):=[("Grounds",.q 2 jF)]
def xP:SF:=
 (aD (aZ (aF 1) (gOf (eY (Bo (qC (.int 1)) (aA fH (aP dZ (bH "grounds" (ao 0)) au) (qC (.int 1)))) (aF 3) [3] jo (bx (ak (aP dJ (bH "grounds" (ao 0)) (ak (aq 3) au)) (ak (eU lZ (aP bQ (ao 0) (ak (aq 3) au))) au))))))
 (aD (aZ (aF 2) (gOf (eY (dw (bH "beasts" (bH "herd" (ao 0)))) (aF 4) [4] jo (aP u9 (ao 4) au))))
 (aQ (bx (ak (aP uG (ao 0) au) (ak (aq 1) (ak (aP sO (bH "rights" (ao 0)) au) (ak (aq 2) au))))))))
def lH:Mo->List Dat->Out Dat:=mQ 5 xP
def R3:SF:=
 (aD (aZ (aF 5) (gOf (aA lu (aA fH (aA fH (aA wu (ao 5) (qC (.int 48271))) (aA wu (qC (.int 9973)) (ao 4))) (qC (.int 11))) (qC (.int 2147483647)))))
 (Nh 3 (aA lu (aA Cg (ao 5) (qC (.int 1021))) (ao 2))))
def S7:SF:=
 (aD (Nh 3 (aA lu (ao 0) (ao 2)))
 (aZ (aF 0) (gOf (aA Cg (ao 0) (ao 2)))))
def abh:SF:=
 (aD (Hl 3 (Q9 au))
 (aD (aZ (aF 0) (gOf (eU Ud (ao 0))))
 (aD (bO (bB (aA geD (ao 0) (aA MN (qC (.int 10)) (qC (.int 18))))) (aD (uI (Bj (ao 1)) (aF 4) S7)
 (aQ (aq 3))) aR)
 (aD (aZ (aF 5) (gOf (aA lu (aA wu (aA fH (aA lu (ao 0) (qC (.int 1000003))) (qC (.int 17))) (qC (.int 69621))) (qC (.int 2147483647)))))
 (aD (uI (Bj (ao 1)) (aF 4) R3)
 (aQ (aq 3)))))))
def uZ:Mo->List Dat->Out Dat:=mQ 6 abh
def NZ:SF:=
 (aD (bO (bB (aA cH (aA lu (ao 1) (qC (.int 4))) (qC (.int 1)))) (aQ (eU lZ (eY (dw (ao 0)) (aF 2) [2] jo (aA u5 (qC (.int 0)) (aA lW (ao 2) (qC (.int 7))))))) aR)
 (aD (bO (bB (aA cH (aA lu (ao 1) (qC (.int 4))) (qC (.int 2)))) (aQ (eU lZ (eY (dw (ao 0)) (aF 2) [2] jo (aA lu (ao 2) (qC (.int 3)))))) aR)
 (aQ (eU lZ (ao 0)))))
def rZ:Mo->List Dat->Out Dat:=mQ 3 NZ
def abf:SF:=
 (aD (aZ (aF 1) (gOf (aX uZ (ak (aq 0) (ak (qC (.int 7)) (ak (qC (.int 10)) au))))))
 (aQ (aX rZ (ak (Mq (ao 1) za (qI (qC (.int 6)))) (ak (aA aV (ao 1) (qC (.int 6))) au)))))
def Gm:Mo->List Dat->Out Dat:=mQ 2 abf
def DN:SF:=
 (aD (bO (bB (aA cH (aA lu (ao 0) (qC (.int 8))) (qC (.int 7)))) (aQ (zX au)) aR)
 (aD (aZ (aF 1) (gOf (zX (ak (bx (ak (qC (.str "ground")) (ak (qC (.int 0)) (ak (qC (.int 0)) au)))) (ak (bx (ak (qC (.str "owner")) (ak (qC (.int 0)) (ak (qC (.int 0)) au)))) (ak (bx (ak (qC (.str "owner")) (ak (qC (.int 0)) (ak (qC (.int 0)) au)))) (ak (bx (ak (qC (.str "enrol")) (ak (qC (.int 0)) (ak (qC (.int 0)) au)))) (ak (bx (ak (qC (.str "enrol")) (ak (qC (.int 1)) (ak (qC (.int 0)) au)))) au))))))))
 (aD (aZ (aF 1) (gOf (aA fH (ao 1) (zX (ak (bx (ak (qC (.str "bring")) (ak (qC (.int 0)) (ak (qC (.int 0)) au)))) (ak (bx (ak (qC (.str "cut")) (ak (qC (.int 0)) (ak (qC (.int 0)) au)))) (ak (bx (ak (qC (.str "bring")) (ak (qC (.int 1)) (ak (qC (.int 0)) au)))) (ak (bx (ak (qC (.str "cut")) (ak (qC (.int 1)) (ak (qC (.int 0)) au)))) (ak (bx (ak (qC (.str "ground")) (ak (qC (.int 0)) (ak (qC (.int 0)) au)))) (ak (bx (ak (qC (.str "enrol")) (ak (qC (.int 0)) (ak (qC (.int 1)) au)))) au))))))))))
 (aQ (aq 1)))))
def uR:Mo->List Dat->Out Dat:=mQ 2 DN
def JD:SF:=
 (aD (aZ (aF 1) (gOf (zX (ak (qC (.str "tear")) (ak (qC (.str "cut")) (ak (qC (.str "bring")) (ak (qC (.str "sell")) (ak (qC (.str "move")) (ak (qC (.str "enrol")) (ak (qC (.str "bear")) (ak (qC (.str "tear")) (ak (qC (.str "cut")) (ak (qC (.str "sell")) (ak (qC (.str "move")) (ak (qC (.str "unite")) (ak (qC (.str "part")) au))))))))))))))))
 (aD (aZ (aF 1) (gOf (aA fH (ao 1) (zX (ak (qC (.str "heir")) (ak (qC (.str "pass")) (ak (qC (.str "die")) (ak (qC (.str "leave")) (ak (qC (.str "ground")) (ak (qC (.str "owner")) (ak (qC (.str "enrol")) (ak (qC (.str "tear")) (ak (qC (.str "sell")) (ak (qC (.str "bring")) (ak (qC (.str "bear")) (ak (qC (.str "cut")) au))))))))))))))))
 (aQ (aA aV (ao 1) (aA lu (ao 0) (qC (.int 25)))))))
def zJ:Mo->List Dat->Out Dat:=mQ 2 JD
def lF:SF:=
 (bO (bB (NT true "holders" (aq 1) (ao 0))) (dY "NoOwner") aR)
def jf:Mo->List Dat->Out Dat:=mQ 2 lF
def xZ:SF:=
 (aQ (eY (Bp "held" (ao 0)) (bL [3,4,5]) [3,4,5] (mK (bB (aA cH (ao 3) (ao 1))) (bB (aA cH (ao 4) (ao 2)))) (aq 5)))
def tO:Mo->List Dat->Out Dat:=mQ 6 xZ
def cI:List (Str×MV):=[("Rights",.q 3 tO)]
def rO:SF:=
 (aQ (aA Xm (eU mV (aP cI (ao 0) (ak (aq 1) (ak (aq 2) au)))) (qC (.int 0))))
def oH:Mo->List Dat->Out Dat:=mQ 3 rO
def qU:List (Str×MV):=[("Rights",.q 3 oH)]
def pY:SF:=
 (bO (jP (iY (aP qU (bH "rights" (ao 0)) (ak (aq 1) (ak (aq 2) au))))) (dY "NoRight") aR)
def lB:Mo->List Dat->Out Dat:=mQ 3 pY
def qP:SF:=
 (aD (QH jN "owner_count" (ao 0) (qC (.int 1)))
 (aD (Lw "holders" (ao 0) (gq "owner_count" (ao 0)) (qC (.bool true)))
 (aQ (gq "owner_count" (ao 0)))))
def gQ:Mo->List Dat->aY Dat:=mG 1 qP
def oG:SF:=
 (aD (aZ (aF 4) (gOf (bx (ak (aq 1) (ak (aq 2) (ak (aq 3) au))))))
 (aD (bO (bB (NT false "held" (aq 4) (ao 0))) (dY "HasRight") aR)
 (Lw "held" (ao 0) (aq 4) (qC (.bool true)))))
def iI:Mo->List Dat->aY Dat:=mG 5 oG
def Bs:SF:=
 (aZ (aF 2) (gOf (Cp (dw (ao 2)) (bL [4,5]) [4,5,6] jo (Bo (ao 3) (aA fH (aA Gk (aA fH (ao 3) (ao 5)) (qC cQ)) (qC (.int 1)))) (aF 6) [6] jo (bx (ak (aA fH (ao 4) (bx (ak (aq 6) au))) (ak (aA lW (ao 5) (aA lW (ao 6) (ao 3))) au))))))
def X4:SF:=
 (aD (aZ (aF 2) (gOf (zX (ak (bx (ak (bx au) (ak (aq 1) au))) au))))
 (aD (uI (dw (aq 0)) (aF 3) Bs)
 (aQ (eY (dw (ao 2)) (bL [4,5]) [4,5] jo (aq 4)))))
def JT:Mo->List Dat->Out Dat:=mQ 7 X4
def RM:SF:=
 (aQ (eU Yc (eY (Km (ao 0) (ao 1)) (bL [2,3]) [2,3] (bB (aA Xm (ao 3) (ao 2))) (aA lW (ao 3) (ao 2)))))
def tV:Mo->List Dat->Out Dat:=mQ 4 RM
def DQ:SF:=
 (aQ (eY (dw (aX JT (ak (aq 0) (ak (aq 1) au)))) (aF 2) [2] (bB (aA cH (aX tV (ak (aq 0) (ak (aq 2) au))) (ao 1))) (aq 2)))
def uU:Mo->List Dat->Out Dat:=mQ 3 DQ
def RK:SF:=
 (aQ (aA u5 (aX tV (ak (aq 0) (ak (aq 1) au))) (aX tV (ak (aq 1) (ak (aq 0) au)))))
def Ek:Mo->List Dat->Out Dat:=mQ 2 RK
def Za:SF:=
 (aQ (aA ux (aX Ek (ak (aq 0) (ak (aq 1) au))) (ao 2)))
def ql:Mo->List Dat->Out Dat:=mQ 3 Za
def jM:SF:=
 (bO (jP (iY (eU N7 (eY (dw (ao 2)) (bL [5,6]) [5,6] jo (aX ql (ak (aq 4) (ak (aq 6) (ak (aq 3) au)))))))) (aQ (aq 4)) aR)
def vX:SF:=
 (aD (uI (dw (aX uU (ak (aq 0) (ak (aq 1) au)))) (aF 4) jM)
 (dY "NoneFree"))
def oV:Mo->List Dat->Out Dat:=mQ 7 vX
def pN:SF:=
 (aQ (aA aV (aP cI (bH "rights" (ao 0)) (ak (aq 1) (ak (aq 2) au))) (qC (.int 0))))
def lA:Mo->List Dat->Out Dat:=mQ 3 pN
def Od:SF:=
 (aQ (eU Pj (ao 0)))
def pZ:Mo->List Dat->Out Dat:=mQ 1 Od
def uE:SF:=
 (aQ (eY (yN 1 (bH "beasts" (ao 0))) (bL [1,2]) [1,2] (iY (bH "alive" (ao 2))) (bx (ak (aq 1) (ak (aq 2) au)))))
def oN:Mo->List Dat->Out Dat:=mQ 3 uE
def dR:List (Str×MV):=[("Herd",.q 1 oN)]
def yt:SF:=
 (aQ (eY (dw (aP dR (ao 0) au)) (bL [2,3]) [2,3] (bB (aA (inD false) (bH "ground" (ao 3)) (ao 1))) (bx (ak (aq 2) (ak (aq 3) au)))))
def o9:Mo->List Dat->Out Dat:=mQ 4 yt
def qW:SF:=
 (aQ (eY (Bp "held" (ao 0)) (bL [2,3,4]) [2,3,4] (bB (aA (inD false) (ao 3) (ao 1))) (bx (ak (aq 2) (ak (aq 4) au)))))
def mJ:Mo->List Dat->Out Dat:=mQ 5 qW
def pP:List (Str×MV):=[("Rights",.q 2 mJ)]
def jr:List (Str×MV):=[("Herd",.q 2 o9)]
def jR:SF:=
 (aD (aZ (aF 3) (gOf (aP bQ (ao 0) (ak (aq 2) au))))
 (aD (aZ (aF 4) (gOf (eY (dw (aP jr (bH "herd" (ao 0)) (ak (aq 3) au))) (bL [5,6]) [5,6] (mK (bB (xH true .none (bH "due" (ao 6)))) (bB (aA Ck (ao 5) (ao 1)))) (bx (ak (gq "owner" (ao 6)) (ak (gq "due" (ao 6)) au))))))
 (aQ (aX pZ (ak (aA fH (aP pP (bH "rights" (ao 0)) (ak (aq 3) au)) (ao 4)) au)))))
def ig:Mo->List Dat->Out Dat:=mQ 7 jR
def cW:List (Str×MV):=[("Commons",.q 3 ig)]
def oA:SF:=
 (aQ (aP cW (ao 0) (ak (qC (.int 0)) (ak (aq 1) au))))
def jZ:Mo->List Dat->Out Dat:=mQ 2 oA
def tX:SF:=
 (aQ (eU maxD (eY (dw (aP bA (ao 0) (ak (aq 1) au))) (aF 2) [2] jo (aP dJ (ao 0) (ak (aq 2) au)))))
def pB:Mo->List Dat->Out Dat:=mQ 3 tX
def rH:List (Str×MV):=[("Grounds",.q 2 pB)]
def uo:SF:=
 (aQ (aP rH (bH "grounds" (ao 0)) (ak (aq 1) au)))
def pA:Mo->List Dat->Out Dat:=mQ 2 uo
def gU:List (Str×MV):=[("Rights",.g 4 iI)]
def gj:List (Str×MV):=[("Commons",.g 1 gQ)]
def bZ:List (Str×MV):=[("Commons",.q 2 pA)]
def cA:List (Str×MV):=[("Commons",.q 2 jZ)]
def bT:List (Str×MV):=[("Commons",.q 3 lA)]
def aJ:List (Str×MV):=[("Commons",.q 3 lB)]
def aC:List (Str×MV):=[("Commons",.q 2 jf)]
def dH:SF:=
 (aD (cG (gOf (aP aC (ao 0) (ak (aq 1) au))))
 (aD (cG (gOf (aP aG (bH "grounds" (ao 0)) (ak (aq 2) au))))
 (aD (bO (jP (lY ux ux (qC iT) (ao 3) (qC jU))) (dY "BadExtra") aR)
 (aD (cG (gOf (aP aJ (ao 0) (ak (aq 1) (ak (aq 2) au)))))
 (aD (aZ (aF 4) (gOf (aX oV (ak (aP bT (ao 0) (ak (aq 1) (ak (aq 2) au))) (ak (aq 3) (ak (aP cA (ao 0) (ak (aq 2) au)) (ak (aP bZ (ao 0) (ak (aq 2) au)) au)))))))
 (aD (aZ (aF 5) (cM gj (ao 0) au))
 (aD (cG (cM gU (bH "rights" (ao 0)) (ak (aq 5) (ak (aq 2) (ak (aq 4) au)))))
 (aQ (bx (ak (aq 5) (ak (aq 4) au)))))))))))
def cR:Mo->List Dat->aY Dat:=mG 6 dH
def jw:SF:=
 (aD (bO (jP (lY ux ux (qC (.int 0)) (ao 1) (qC fY))) (dY "BadAllowance") aR)
 (aD (CK "allowances" (ao 0) (gOf (aq 1)))
 (aD (CK "circles" (ao 0) (gOf (bx (ak (aP dZ (ao 0) au) au))))
 (aQ (aP dZ (ao 0) au)))))
def eE:Mo->List Dat->aY Dat:=mG 2 jw
def kh:List (Str×MV):=[("Grounds",.g 2 eE)]
def lE:SF:=
 (gM (cM kh (bH "grounds" (ao 0)) (ak (aq 1) au)))
def fX:Mo->List Dat->aY Dat:=mG 2 lE
def JC:SF:=
 (aQ (eY (dw (aX pZ (ak (aq 2) au))) (bL [4,5]) [4,5] (mK (bB (aA Ck (ao 4) (ao 0))) (iY (aX ql (ak (aq 1) (ak (aq 5) (ak (aq 3) au)))))) (bx (ak (aq 4) (ak (aq 5) au)))))
def yZ:Mo->List Dat->Out Dat:=mQ 6 JC
def RQ:SF:=
 (aQ (eU lZ (eY (Km (ao 0) (ao 1)) (bL [2,3]) [2,3] jo (aA u5 (ao 2) (ao 3)))))
def oW:Mo->List Dat->Out Dat:=mQ 4 RQ
def Ar:SF:=
 (aD (aZ (aF 4) (gOf (aX yZ (ak (aq 0) (ak (aq 1) (ak (aq 2) (ak (aq 3) au)))))))
 (bO (iY (ao 4)) (aD (aZ (bL [5,6]) (gOf (aA aV (ao 4) (qC (.int 0)))))
 (Bm "Clash" ["ones","others","ear"] (ak (bx (ak (aq 0) (ak (aq 1) au))) (ak (bx (ak (aq 5) (ak (aq 6) au))) (ak (aX oW (ak (aq 1) (ak (aq 6) au))) au))))) aR))
def nM:Mo->List Dat->Out Dat:=mQ 7 Ar
def lC:SF:=
 (cG (gOf (aX nM (ak (aq 1) (ak (aq 2) (ak (aP cA (ao 0) (ak (aq 3) au)) (ak (aP bZ (ao 0) (ak (aq 3) au)) au)))))))
def fZ:Mo->List Dat->Out Dat:=mQ 4 lC
def HD:SF:=
 (aQ (wX (aA cH (eU mV (ao 0)) (eU mV (qC iD))) (eU Oq (eY (dw (ao 0)) (aF 1) [1] jo (UJ (lY ux ux (qC (.int 0)) (ao 1) (qC cQ)))))))
def sG:Mo->List Dat->Out Dat:=mQ 2 HD
def GP:SF:=
 (bO (jP (iY (aX sG (ak (aq 0) au)))) (dY "BadEar") aR)
def pQ:Mo->List Dat->Out Dat:=mQ 1 GP
def bR:List (Str×MV):=[("Commons",.q 4 fZ)]
def fP:SF:=
 (aD (cG (gOf (aP aC (ao 0) (ak (aq 1) au))))
 (aD (cG (gOf (aP aG (bH "grounds" (ao 0)) (ak (aq 2) au))))
 (aD (cG (gOf (aX pQ (ak (aq 3) au))))
 (aD (bO (bB (aA cH (ao 3) (qC jd))) (dY "Bare") aR)
 (aD (bO (bB (aA (inD false) (ao 3) (aP cI (bH "rights" (ao 0)) (ak (aq 1) (ak (aq 2) au))))) (dY "HasRight") aR)
 (aD (cG (gOf (aP bR (ao 0) (ak (aq 1) (ak (aq 3) (ak (aq 2) au))))))
 (cG (cM gU (bH "rights" (ao 0)) (ak (aq 1) (ak (aq 2) (ak (aq 3) au)))))))))))
def dN:Mo->List Dat->aY Dat:=mG 4 fP
def wD:SF:=
 (Lh "held" (ao 0) (bx (ak (aq 1) (ak (aq 2) (ak (aq 4) au)))))
def uY:SF:=
 (aD (aZ (aF 3) (gOf (aP cI (ao 0) (ak (aq 1) (ak (aq 2) au)))))
 (aD (bO (jP (iY (ao 3))) (dY "NoRight") aR)
 (aD (uI (dw (aq 3)) (aF 4) wD)
 (aQ (aq 3)))))
def m9:Mo->List Dat->aY Dat:=mG 5 uY
def yx:List (Str×MV):=[("Rights",.g 3 m9)]
def iZ:SF:=
 (aD (cG (gOf (aP aC (ao 0) (ak (aq 1) au))))
 (aD (cG (gOf (aP aG (bH "grounds" (ao 0)) (ak (aq 2) au))))
 (aD (cG (gOf (aP aJ (ao 0) (ak (aq 1) (ak (aq 2) au)))))
 (aD (bO (iY (eU N7 (eY (dw (aP jr (bH "herd" (ao 0)) (ak (zX (ak (aq 2) au)) au))) (bL [3,4]) [3,4] jo (aA cH (bH "owner" (ao 4)) (ao 1))))) (dY "StillThere") aR)
 (gM (cM yx (bH "rights" (ao 0)) (ak (aq 1) (ak (aq 2) au))))))))
def fJ:Mo->List Dat->aY Dat:=mG 5 iZ
def qb:SF:=
 (aD (aZ (bL [2,3,4,5,6]) (gOf (aq 1)))
 (aD (tM jN (ao 0) "owner" (gOf (aq 2)))
 (aD (tM jN (ao 0) "ground" (gOf (aq 3)))
 (aD (tM jN (ao 0) "due" (gOf (aq 4)))
 (aD (tM jN (ao 0) "ear" (gOf (aq 5)))
 (tM jN (ao 0) "alive" (gOf (aq 6))))))))
def mD:Mo->List Dat->aY Dat:=mG 7 qb
def Lp:SF:=
 (aD (bO (bB (aA cH (aA aV (ao 0) (qC (.int 0))) (qC (.str "born")))) (aD (aZ (bL [1,2,3,4]) (gOf (aq 0)))
 (aQ (bx (ak (aq 3) (ak (aq 4) (ak (qC .none) (ak (qC jd) (ak (qC (.bool true)) au)))))))) aR)
 (aD (aZ (bL [1,3,4,5]) (gOf (aq 0)))
 (aQ (bx (ak (aq 3) (ak (aq 4) (ak (qC .none) (ak (aq 5) (ak (qC (.bool true)) au)))))))))
def Bc:Mo->List Dat->Out Dat:=mQ 6 Lp
def jB:List (Str×MV):=[("Beast",.g 2 mD)]
def BX:SF:=
 (aD (Dk jN (ao 0) "story" (Q9 (ak (aq 1) au)))
 (aD (tM jN (ao 0) "mother" (gOf (Py (bB (aA cH (aA aV (ao 1) (qC (.int 0))) (qC (.str "born")))) (aA aV (ao 1) (qC (.int 1))) (qC (.int 0)))))
 (cG (cM jB (ao 0) (ak (aX Bc (ak (aq 1) au)) au)))))
def sS:Mo->List Dat->aY Dat:=mG 2 BX
def vK:SF:=
 (aD (CK "beasts" (ao 0) (zY "Beast" sS (ak (aq 1) au)))
 (aQ (eU mV (bH "beasts" (ao 0)))))
def pW:Mo->List Dat->aY Dat:=mG 2 vK
def jx:List (Str×MV):=[("Herd",.g 2 pW)]
def jm:SF:=
 (aD (cG (gOf (aP aC (ao 0) (ak (aq 1) au))))
 (aD (cG (gOf (aP aG (bH "grounds" (ao 0)) (ak (aq 2) au))))
 (aD (cG (gOf (aX pQ (ak (aq 3) au))))
 (aD (cG (gOf (aP aJ (ao 0) (ak (aq 1) (ak (aq 2) au)))))
 (gM (cM jx (bH "herd" (ao 0)) (ak (bx (ak (qC (.str "brought")) (ak (aq 1) (ak (aq 2) (ak (aq 3) au))))) au)))))))
def fK:Mo->List Dat->aY Dat:=mG 4 jm
def rP:SF:=
 (aD (bO (jP (lY ux ux (qC (.int 1)) (ao 1) (eU mV (bH "beasts" (ao 0))))) (dY "NoBeast") aR)
 (aQ (aA aV (bH "beasts" (ao 0)) (aA lW (ao 1) (qC (.int 1))))))
def j5:Mo->List Dat->Out Dat:=mQ 2 rP
def eX:List (Str×MV):=[("Herd",.q 2 j5)]
def uW:SF:=
 (aD (aZ (aF 2) (gOf (aP eX (ao 0) (ak (aq 1) au))))
 (aD (bO (jP (iY (bH "alive" (ao 2)))) (dY "Dead") aR)
 (aQ (aq 2))))
def qu:Mo->List Dat->Out Dat:=mQ 3 uW
def bG:List (Str×MV):=[("Herd",.q 2 qu)]
def qm:SF:=
 (aD (aZ (aF 2) (gOf (aP bG (ao 0) (ak (aq 1) au))))
 (aD (bO (bB (xH false .none (bH "due" (ao 2)))) (dY "Unmarked") aR)
 (aQ (aq 2))))
def mY:Mo->List Dat->Out Dat:=mQ 3 qm
def bh:List (Str×MV):=[("Herd",.q 2 mY)]
def lK:SF:=
 (aD (aZ (aF 2) (gOf (aP bh (bH "herd" (ao 0)) (ak (aq 1) au))))
 (gM (cM jx (bH "herd" (ao 0)) (ak (bx (ak (qC (.str "born")) (ak (aq 1) (ak (gq "owner" (ao 2)) (ak (gq "ground" (ao 2)) au))))) au))))
def iW:Mo->List Dat->aY Dat:=mG 3 lK
def Gj:SF:=
 (aQ (eU lZ (eY (yN 0 (ao 0)) (bL [2,3]) [2,3] jo (Py (bB (aA cH (ao 2) (ao 1))) (aA fH (ao 3) (qC (.int 1))) (aq 3)))))
def wC:Mo->List Dat->Out Dat:=mQ 4 Gj
def Ka:SF:=
 (aD (aZ (bL [2,3,4,5,6]) (gOf (aq 0)))
 (aD (aZ (aF 7) (gOf (aA aV (ao 1) (qC (.int 0)))))
 (aD (bO (bB (aA cH (ao 7) (qC (.str "cut")))) (O7 4 5 (gOf (aA aV (ao 1) (qC (.int 1))))) (bO (bB (aA cH (ao 7) (qC (.str "torn")))) (aZ (aF 5) (gOf (aX wC (ak (aq 5) (ak (aA aV (ao 1) (qC (.int 1))) au))))) (bO (bB (aA cH (ao 7) (qC (.str "sold")))) (aD (aZ (aF 2) (gOf (aA aV (ao 1) (qC (.int 1)))))
 (O7 4 5 (gOf (aA aV (ao 1) (qC (.int 2)))))) (bO (bB (aA cH (ao 7) (qC (.str "moved")))) (aZ (aF 3) (gOf (aA aV (ao 1) (qC (.int 1))))) (bO (bB (aA cH (ao 7) (qC (.str "followed")))) (aD (aZ (aF 2) (gOf (aA aV (ao 1) (qC (.int 1)))))
 (aZ (aF 3) (gOf (aA aV (ao 1) (qC (.int 2)))))) (bO (bB (aA cH (ao 7) (qC (.str "passed")))) (aZ (aF 2) (gOf (aA aV (ao 1) (qC (.int 1))))) (bO (bB (aA cH (ao 7) (qC (.str "died")))) (aZ (aF 6) (gOf (qC (.bool false)))) aR)))))))
 (aQ (bx (ak (aq 2) (ak (aq 3) (ak (aq 4) (ak (aq 5) (ak (aq 6) au))))))))))
def zF:Mo->List Dat->Out Dat:=mQ 8 Ka
def yd:SF:=
 (aD (CK "story" (ao 0) (gOf (aq 1)))
 (cG (cM jB (ao 0) (ak (aX zF (ak (aP lM (ao 0) au) (ak (aq 1) au))) au))))
def lJ:Mo->List Dat->aY Dat:=mG 2 yd
def bK:List (Str×MV):=[("Beast",.g 2 lJ)]
def m7:SF:=
 (aD (aZ (aF 2) (gOf (aP bG (bH "herd" (ao 0)) (ak (aq 1) au))))
 (aD (aZ (aF 3) (gOf (aX oW (ak (gq "ear" (ao 2)) (ak (aP bT (ao 0) (ak (gq "owner" (ao 2)) (ak (gq "ground" (ao 2)) au))) au)))))
 (aD (cG (gOf (aP bR (ao 0) (ak (gq "owner" (ao 2)) (ak (aq 3) (ak (gq "ground" (ao 2)) au))))))
 (aD (cG (cM bK (ao 2) (ak (bx (ak (qC (.str "cut")) (ak (aq 3) au))) au)))
 (aQ (aq 3))))))
def jC:Mo->List Dat->aY Dat:=mG 4 m7
def iU:SF:=
 (aD (aZ (aF 3) (gOf (aP bG (bH "herd" (ao 0)) (ak (aq 1) au))))
 (aD (bO (jP (lY ux Mu (qC (.int 0)) (ao 2) (eU mV (qC iD)))) (dY "NoPlace") aR)
 (aD (bO (bB (aA geD (aA aV (bH "ear" (ao 3)) (ao 2)) (qC cQ))) (dY "Deepest") aR)
 (aD (cG (cM bK (ao 3) (ak (bx (ak (qC (.str "torn")) (ak (aq 2) au))) au)))
 (aQ (gq "ear" (ao 3)))))))
def fj:Mo->List Dat->aY Dat:=mG 4 iU
def uV:SF:=
 (aD (cG (gOf (aP eX (ao 0) (ak (aq 1) au))))
 (aQ (eY (dw (aP dR (ao 0) au)) (bL [2,3]) [2,3] (mK (bB (aA cH (bH "mother" (ao 3)) (ao 1))) (bB (xH false .none (bH "due" (ao 3))))) (bx (ak (aq 2) (ak (aq 3) au))))))
def qp:Mo->List Dat->Out Dat:=mQ 4 uV
def yE:List (Str×MV):=[("Herd",.q 2 qp)]
def pK:SF:=
 (cG (cM bK (ao 4) (ak (bx (ak (qC (.str "followed")) (ak (gq "owner" (ao 2)) (ak (gq "ground" (ao 2)) au)))) au)))
def sE:SF:=
 (aD (aZ (aF 2) (gOf (aP eX (ao 0) (ak (aq 1) au))))
 (uI (dw (aP yE (ao 0) (ak (aq 1) au))) (bL [3,4]) pK))
def nY:Mo->List Dat->aY Dat:=mG 5 sE
def gR:List (Str×MV):=[("Herd",.g 2 nY)]
def fu:SF:=
 (aD (aZ (aF 3) (gOf (aP bh (bH "herd" (ao 0)) (ak (aq 1) au))))
 (aD (cG (gOf (aP aC (ao 0) (ak (aq 2) au))))
 (aD (bO (bB (aA cH (bH "owner" (ao 3)) (ao 2))) (dY "SameOwner") aR)
 (aD (cG (gOf (aP aJ (ao 0) (ak (aq 2) (ak (gq "ground" (ao 3)) au)))))
 (aD (aZ (aF 4) (gOf (aX oW (ak (gq "ear" (ao 3)) (ak (aP bT (ao 0) (ak (aq 2) (ak (gq "ground" (ao 3)) au))) au)))))
 (aD (cG (gOf (aX nM (ak (aq 2) (ak (aq 4) (ak (aP cW (ao 0) (ak (aq 1) (ak (gq "ground" (ao 3)) au))) (ak (aP bZ (ao 0) (ak (gq "ground" (ao 3)) au)) au)))))))
 (aD (cG (cM bK (ao 3) (ak (bx (ak (qC (.str "sold")) (ak (aq 2) (ak (aq 4) au)))) au)))
 (aD (cG (cM gR (bH "herd" (ao 0)) (ak (aq 1) au)))
 (aQ (aq 4))))))))))
def dG:Mo->List Dat->aY Dat:=mG 5 fu
def eZ:SF:=
 (aD (aZ (aF 3) (gOf (aP bh (bH "herd" (ao 0)) (ak (aq 1) au))))
 (aD (cG (gOf (aP aG (bH "grounds" (ao 0)) (ak (aq 2) au))))
 (aD (aZ (aF 4) (gOf (gq "ground" (ao 3))))
 (aD (bO (bB (aA cH (ao 4) (ao 2))) (dY "SameGround") aR)
 (aD (cG (gOf (aP aJ (ao 0) (ak (gq "owner" (ao 3)) (ak (aq 2) au)))))
 (aD (cG (gOf (aP bR (ao 0) (ak (gq "owner" (ao 3)) (ak (gq "due" (ao 3)) (ak (aq 2) au))))))
 (aD (cG (cM bK (ao 3) (ak (bx (ak (qC (.str "moved")) (ak (aq 2) au))) au)))
 (aD (cG (cM gR (bH "herd" (ao 0)) (ak (aq 1) au)))
 (aQ (aq 4))))))))))
def dD:Mo->List Dat->aY Dat:=mG 5 eZ
def qw:SF:=
 (cG (cM bK (aP bG (bH "herd" (ao 0)) (ak (aq 1) au)) (ak (bx (ak (qC (.str "died")) au)) au)))
def kE:Mo->List Dat->aY Dat:=mG 2 qw
def HF:SF:=
 (aD (aZ (aF 2) (gOf (aX pZ (ak (aq 0) au))))
 (aQ (Cp (yN 0 (ao 2)) (bL [3,4]) [3,4,5] jo (dw (Mq (ao 2) (qI (aA fH (ao 3) (qC (.int 1)))) za)) (aF 5) [5] (mK (bB (aA Ck (aA aV (ao 4) (qC (.int 0))) (aA aV (ao 5) (qC (.int 0))))) (iY (aX ql (ak (aA aV (ao 4) (qC (.int 1))) (ak (aA aV (ao 5) (qC (.int 1))) (ak (aq 1) au)))))) (bx (ak (aq 4) (ak (aq 5) au))))))
def tD:Mo->List Dat->Out Dat:=mQ 6 HF
def sH:SF:=
 (aD (aZ (aF 3) (gOf (aA u5 (aP bZ (ao 0) (ak (aq 1) au)) (aP bZ (ao 0) (ak (aq 2) au)))))
 (aQ (aX tD (ak (aA fH (aP cA (ao 0) (ak (aq 1) au)) (aP cA (ao 0) (ak (aq 2) au))) (ak (aq 3) au)))))
def j6:Mo->List Dat->Out Dat:=mQ 4 sH
def qR:SF:=
 (Qi "circles" (ao 0) (aA lW (ao 3) (qC (.int 1))) (aq 2))
def uD:SF:=
 (aD (aZ (aF 2) (gOf (eU lZ (ao 1))))
 (aD (uI (dw (aq 1)) (aF 3) qR)
 (aQ (aq 1))))
def lg:Mo->List Dat->aY Dat:=mG 4 uD
def fW:List (Str×MV):=[("Grounds",.g 2 lg)]
def rG:SF:=
 (aD (aZ (aF 3) (gOf (aP bA (ao 0) (ak (aq 1) au))))
 (aD (aZ (aF 4) (gOf (aP bA (ao 0) (ak (aq 2) au))))
 (aD (bO (bB (aA (inD false) (ao 2) (ao 3))) (dY "Together") aR)
 (gM (cM fW (ao 0) (ak (eU Ih (aA fH (ao 3) (ao 4))) au))))))
def j7:Mo->List Dat->aY Dat:=mG 5 rG
def vC:List (Str×MV):=[("Grounds",.g 3 j7)]
def mH:List (Str×MV):=[("Commons",.q 3 j6)]
def jk:SF:=
 (aD (cG (gOf (aP aG (bH "grounds" (ao 0)) (ak (aq 2) au))))
 (aD (bO (bB (aA (inD false) (ao 2) (aP bQ (ao 0) (ak (aq 1) au)))) (dY "Together") aR)
 (aD (aZ (aF 3) (gOf (aP mH (ao 0) (ak (aq 1) (ak (aq 2) au)))))
 (aD (bO (iY (ao 3)) (aD (aZ (bL [4,5]) (gOf (aA aV (ao 3) (qC (.int 0)))))
 (Bm "Clash" ["ones","others","ear"] (ak (aq 4) (ak (aq 5) (ak (aX oW (ak (aA aV (ao 4) (qC (.int 1))) (ak (aA aV (ao 5) (qC (.int 1))) au))) au))))) aR)
 (gM (cM vC (bH "grounds" (ao 0)) (ak (aq 1) (ak (aq 2) au))))))))
def fL:Mo->List Dat->aY Dat:=mG 6 jk
def o7:SF:=
 (aD (aZ (aF 2) (gOf (eY (dw (aP bA (ao 0) (ak (aq 1) au))) (aF 3) [3] (bB (aA Ck (ao 3) (ao 1))) (aq 3))))
 (aD (bO (jP (iY (ao 2))) (dY "Alone") aR)
 (aD (cG (cM fW (ao 0) (ak (zX (ak (aq 1) au)) au)))
 (gM (cM fW (ao 0) (ak (aq 2) au))))))
def iQ:Mo->List Dat->aY Dat:=mG 4 o7
def nO:List (Str×MV):=[("Grounds",.g 2 iQ)]
def oR:SF:=
 (gM (cM nO (bH "grounds" (ao 0)) (ak (aq 1) au)))
def jK:Mo->List Dat->aY Dat:=mG 2 oR
def sW:SF:=
 (QV jN (ao 0) "held" (qDc (Bp "held" (ao 0)) (bL [3,4,5]) [3,4,5] (bx (ak (Py (bB (aA cH (ao 3) (ao 1))) (aq 2) (aq 3)) (ak (aq 4) (ak (aq 5) au))))))
def nR:Mo->List Dat->aY Dat:=mG 6 sW
def Bt:SF:=
 (aQ (eY (dw (aP dR (ao 0) au)) (bL [2,3]) [2,3] (bB (aA cH (bH "owner" (ao 3)) (ao 1))) (bx (ak (aq 2) (ak (aq 3) au)))))
def vU:Mo->List Dat->Out Dat:=mQ 4 Bt
def zM:List (Str×MV):=[("Herd",.q 2 vU)]
def qQ:List (Str×MV):=[("Rights",.g 3 nR)]
def qT:SF:=
 (cG (cM bK (ao 5) (ak (bx (ak (qC (.str "passed")) (ak (aq 2) au))) au)))
def jA:SF:=
 (aD (cG (gOf (aP aC (ao 0) (ak (aq 1) au))))
 (aD (cG (gOf (aP aC (ao 0) (ak (aq 2) au))))
 (aD (bO (bB (aA cH (ao 1) (ao 2))) (dY "SameOwner") aR)
 (aD (cG (cM qQ (bH "rights" (ao 0)) (ak (aq 1) (ak (aq 2) au))))
 (aD (aZ (aF 3) (gOf (aP zM (bH "herd" (ao 0)) (ak (aq 1) au))))
 (aD (uI (dw (aq 3)) (bL [4,5]) qT)
 (aD (Lh "holders" (ao 0) (aq 1))
 (aQ (eY (dw (ao 3)) (bL [4,5]) [4,5] jo (aq 4))))))))))
def fD:Mo->List Dat->aY Dat:=mG 6 jA
def uP:SF:=
 (aD (bO (bB (aA cH (ao 0) (qC (.str "ear")))) (aQ (wX (vR .tuple (ao 1)) (aX sG (ak (aq 1) au)))) aR)
 (aD (aZ (aF 2) (gOf (Py (bB (aA cH (ao 0) (qC (.str "place")))) (aA lW (eU mV (qC iD)) (qC (.int 1))) (qC nH))))
 (aQ (wX (vR .int (ao 1)) (UJ (lY ux ux (qC (.int 0)) (ao 1) (ao 2)))))))
def gY:Mo->List Dat->Out Dat:=mQ 3 uP
def W7:SF:=
 (aD (bO (Ju (bB (aA cH (eU mV (ao 0)) (qC (.int 0)))) (bB (Uc true (yI xQ) (aA aV (ao 0) (qC (.int 0)))))) (aQ (qC (.bool false))) aR)
 (aD (aZ (aF 1) (gOf (aa2 (yI xQ) (aA aV (ao 0) (qC (.int 0))))))
 (aD (aZ (aF 2) (gOf (Mq (ao 0) (qI (qC (.int 1))) za)))
 (aQ (wX (aA cH (eU mV (ao 2)) (eU mV (ao 1))) (eU Oq (eY (Km (ao 1) (ao 2)) (bL [3,4]) [3,4] jo (aX gY (ak (aq 3) (ak (aq 4) au))))))))))
def Fd:Mo->List Dat->Out Dat:=mQ 5 W7
def qZ:List (Str×MV):=[("Commons",.g 4 cR)]
def sY:List (Str×MV):=[("Commons",.g 3 fD)]
def wg:List (Str×MV):=[("Commons",.g 2 jK)]
def vo:List (Str×MV):=[("Commons",.g 3 fL)]
def xX:List (Str×MV):=[("Commons",.g 2 kE)]
def wW:List (Str×MV):=[("Commons",.g 3 dD)]
def wY:List (Str×MV):=[("Commons",.g 3 dG)]
def wV:List (Str×MV):=[("Commons",.g 3 fj)]
def yu:List (Str×MV):=[("Commons",.g 2 jC)]
def jc:List (Str×MV):=[("Commons",.g 2 iW)]
def vB:List (Str×MV):=[("Commons",.g 4 fK)]
def vq:List (Str×MV):=[("Commons",.g 3 fJ)]
def vJ:List (Str×MV):=[("Commons",.g 4 dN)]
def pF:List (Str×MV):=[("Commons",.g 2 fX)]
def cU:SF:=
 (aD (bO (jP (iY (aX Fd (ak (aq 1) au)))) (dY "BadDeed") aR)
 (aD (Wt 2 3 (gOf (aq 1)))
 (aD (bO (bB (aA cH (ao 2) (qC (.str "owner")))) (gM (cM gj (ao 0) au)) aR)
 (aD (bO (bB (aA cH (ao 2) (qC (.str "ground")))) (gM (cM pF (ao 0) (ak (aA aV (ao 3) (qC (.int 0))) au))) aR)
 (aD (bO (bB (aA cH (ao 2) (qC (.str "enrol")))) (gM (cM vJ (ao 0) (ak (aA aV (ao 3) (qC (.int 0))) (ak (aA aV (ao 3) (qC (.int 1))) (ak (aA aV (ao 3) (qC (.int 2))) au))))) aR)
 (aD (bO (bB (aA cH (ao 2) (qC (.str "leave")))) (gM (cM vq (ao 0) (ak (aA aV (ao 3) (qC (.int 0))) (ak (aA aV (ao 3) (qC (.int 1))) au)))) aR)
 (aD (bO (bB (aA cH (ao 2) (qC (.str "bring")))) (gM (cM vB (ao 0) (ak (aA aV (ao 3) (qC (.int 0))) (ak (aA aV (ao 3) (qC (.int 1))) (ak (aA aV (ao 3) (qC (.int 2))) au))))) aR)
 (aD (bO (bB (aA cH (ao 2) (qC (.str "bear")))) (gM (cM jc (ao 0) (ak (aA aV (ao 3) (qC (.int 0))) au))) aR)
 (aD (bO (bB (aA cH (ao 2) (qC (.str "cut")))) (gM (cM yu (ao 0) (ak (aA aV (ao 3) (qC (.int 0))) au))) aR)
 (aD (bO (bB (aA cH (ao 2) (qC (.str "tear")))) (gM (cM wV (ao 0) (ak (aA aV (ao 3) (qC (.int 0))) (ak (aA aV (ao 3) (qC (.int 1))) au)))) aR)
 (aD (bO (bB (aA cH (ao 2) (qC (.str "sell")))) (gM (cM wY (ao 0) (ak (aA aV (ao 3) (qC (.int 0))) (ak (aA aV (ao 3) (qC (.int 1))) au)))) aR)
 (aD (bO (bB (aA cH (ao 2) (qC (.str "move")))) (gM (cM wW (ao 0) (ak (aA aV (ao 3) (qC (.int 0))) (ak (aA aV (ao 3) (qC (.int 1))) au)))) aR)
 (aD (bO (bB (aA cH (ao 2) (qC (.str "die")))) (gM (cM xX (ao 0) (ak (aA aV (ao 3) (qC (.int 0))) au))) aR)
 (aD (bO (bB (aA cH (ao 2) (qC (.str "unite")))) (gM (cM vo (ao 0) (ak (aA aV (ao 3) (qC (.int 0))) (ak (aA aV (ao 3) (qC (.int 1))) au)))) aR)
 (aD (bO (bB (aA cH (ao 2) (qC (.str "part")))) (gM (cM wg (ao 0) (ak (aA aV (ao 3) (qC (.int 0))) au))) aR)
 (aD (bO (bB (aA cH (ao 2) (qC (.str "pass")))) (gM (cM sY (ao 0) (ak (aA aV (ao 3) (qC (.int 0))) (ak (aA aV (ao 3) (qC (.int 1))) au)))) aR)
 (gM (cM qZ (ao 0) (ak (aA aV (ao 3) (qC (.int 0))) (ak (aA aV (ao 3) (qC (.int 1))) (ak (aA aV (ao 3) (qC (.int 2))) au)))))))))))))))))))))
def cP:Mo->List Dat->aY Dat:=mG 4 cU
def qD:List (Str×MV):=[("Commons",.g 2 cP)]
def Ky:SF:=
 (aD (aZ (aF 3) (gOf (qC .none)))
 (aD (Td (aZ (aF 3) (cM qD (ao 0) (ak (aq 1) au))) [⟨"CommonError",fun x=>tK.lookup x,none,[(3,(.con .none))]⟩])
 (aD (bO (bB (xH false .none (ao 3))) (aQ (aq 2)) aR)
 (aD (aZ (bL [4,5,6]) (gOf (aq 2)))
 (aD (bO (Ju (bB (aA cH (aA aV (ao 1) (qC (.int 0))) (qC (.str "owner")))) (bB (aA cH (aA aV (ao 1) (qC (.int 0))) (qC (.str "heir"))))) (NP 4 (qC (.int 1))) aR)
 (aD (bO (bB (aA cH (aA aV (ao 1) (qC (.int 0))) (qC (.str "ground")))) (NP 5 (qC (.int 1))) aR)
 (aD (bO (Ju (bB (aA cH (aA aV (ao 1) (qC (.int 0))) (qC (.str "bring")))) (bB (aA cH (aA aV (ao 1) (qC (.int 0))) (qC (.str "bear"))))) (NP 6 (qC (.int 1))) aR)
 (aQ (bx (ak (aq 4) (ak (aq 5) (ak (aq 6) au))))))))))))
def qJ:Mo->List Dat->aY Dat:=mG 7 Ky
def N5:SF:=
 (aD (aZ (aF 5) (gOf (aA aV (bx (ak (qC (.int 0)) (ak (qC (.int 0)) (ak (qC (.int 0)) (ak (qC (.int 0)) (ak (qC (.int 0)) (ak (qC (.int 1)) (ak (qC (.int 1)) (ak (qC (.int 2)) (ak (qC (.int 3)) (ak (eU Tn (qC (.int 1))) au))))))))))) (ao 4))))
 (Nh 2 (aA u5 (qC (.int 0)) (aA Gk (qC (.int 9)) (aA fH (ao 3) (ao 5))))))
def WQ:SF:=
 (aD (Hl 2 (Q9 au))
 (aD (uI (Km (aq 0) (aq 1)) (bL [3,4]) N5)
 (aQ (eU lZ (ao 2)))))
def Jl:Mo->List Dat->Out Dat:=mQ 6 WQ
def JW:SF:=
 (aD (bO (bB (aA Mu (ao 1) (qC (.int 4)))) (aQ (aX Jl (ak (aq 2) (ak (aq 0) au)))) aR)
 (aQ (aX rZ (ak (aq 0) (ak (aq 1) au)))))
def vM:Mo->List Dat->Out Dat:=mQ 3 JW
def Wx:SF:=
 (aD (bO (iY (ao 2)) (aQ (aA fH (qC (.int 1)) (aA lu (ao 0) (aA u5 (qC (.int 1)) (ao 1))))) aR)
 (aQ (aA lu (ao 0) (aA fH (ao 1) (qC (.int 2))))))
def jD:Mo->List Dat->Out Dat:=mQ 3 Wx
def jG:SF:=
 (aD (aZ (aF 6) (gOf (aA Ck (aA aV (ao 3) (qC (.int 6))) (qC (.int 9)))))
 (aD (aZ (aF 7) (gOf (aX vM (ak (Mq (ao 3) (qI (qC (.int 8))) (qI (qC (.int 14)))) (ak (aA aV (ao 3) (qC (.int 7))) (ak (aq 5) au))))))
 (aD (bO (bB (aA cH (ao 0) (qC (.str "owner")))) (aQ (bx (ak (qC (.str "owner")) au))) aR)
 (aD (bO (bB (aA cH (ao 0) (qC (.str "ground")))) (aQ (bx (ak (qC (.str "ground")) (ak (aA fH (aA aV (bx (ak (qC (.int 0)) (ak (qC (.int 1)) (ak (qC (.int 2)) (ak (qC (.int 3)) (ak (qC (.int 0)) (ak (qC (.int 1)) (ak (qC (.int 5)) (ak (qC (.int 6)) (ak (qC (.int 7)) (ak (qC (.int 8)) au))))))))))) (aA aV (ao 3) (qC (.int 7)))) (aA wu (qC (.int 4)) (eU intD (Qm (ao 6))))) au)))) aR)
 (aD (bO (mK (bB (aA cH (ao 0) (qC (.str "bring")))) (bB (aA Mu (aA aV (ao 3) (qC (.int 7))) (qC (.int 6))))) (aZ (aF 7) (gOf (bx (ak (qC (.int 0)) (ak (qC (.int 0)) (ak (qC (.int 0)) (ak (qC (.int 0)) (ak (qC (.int 0)) (ak (qC (.int 0)) au))))))))) aR)
 (aD (bO (Ju (bB (aA cH (ao 0) (qC (.str "enrol")))) (bB (aA cH (ao 0) (qC (.str "bring"))))) (aQ (bx (ak (aq 0) (ak (aX jD (ak (aq 1) (ak (aA aV (ao 4) (qC (.int 0))) (ak (aq 6) au)))) (ak (aX jD (ak (aq 2) (ak (aA aV (ao 4) (qC (.int 1))) (ak (aq 6) au)))) (ak (aq 7) au)))))) aR)
 (aD (bO (bB (aA cH (ao 0) (qC (.str "leave")))) (aQ (bx (ak (aq 0) (ak (aX jD (ak (aq 1) (ak (aA aV (ao 4) (qC (.int 0))) (ak (aq 6) au)))) (ak (aX jD (ak (aq 2) (ak (aA aV (ao 4) (qC (.int 1))) (ak (aq 6) au)))) au))))) aR)
 (aD (bO (bB (aA cH (ao 0) (qC (.str "heir")))) (aQ (bx (ak (aq 0) (ak (aX jD (ak (aq 1) (ak (aA aV (ao 4) (qC (.int 0))) (ak (aq 6) au)))) (ak (aX jD (ak (aq 2) (ak (aA aV (ao 4) (qC (.int 1))) (ak (aq 6) au)))) (ak (aA lu (aA aV (ao 3) (qC (.int 7))) (qC (.int 4))) au)))))) aR)
 (aD (bO (bB (aA cH (ao 0) (qC (.str "pass")))) (aQ (bx (ak (aq 0) (ak (aX jD (ak (aq 1) (ak (aA aV (ao 4) (qC (.int 0))) (ak (aq 6) au)))) (ak (aX jD (ak (aq 2) (ak (aA aV (ao 4) (qC (.int 0))) (ak (aq 6) au)))) au))))) aR)
 (aD (bO (bB (aA cH (ao 0) (qC (.str "unite")))) (aQ (bx (ak (aq 0) (ak (aX jD (ak (aq 1) (ak (aA aV (ao 4) (qC (.int 1))) (ak (aq 6) au)))) (ak (aX jD (ak (aq 2) (ak (aA aV (ao 4) (qC (.int 1))) (ak (aq 6) au)))) au))))) aR)
 (aD (bO (bB (aA cH (ao 0) (qC (.str "part")))) (aQ (bx (ak (aq 0) (ak (aX jD (ak (aq 1) (ak (aA aV (ao 4) (qC (.int 1))) (ak (aq 6) au)))) au)))) aR)
 (aD (bO (bB (aA cH (ao 0) (qC (.str "tear")))) (aQ (bx (ak (aq 0) (ak (aX jD (ak (aq 1) (ak (aA aV (ao 4) (qC (.int 2))) (ak (aq 6) au)))) (ak (aA lu (aA aV (ao 3) (qC (.int 7))) (qC (.int 6))) au))))) aR)
 (aD (bO (bB (aA cH (ao 0) (qC (.str "sell")))) (aQ (bx (ak (aq 0) (ak (aX jD (ak (aq 1) (ak (aA aV (ao 4) (qC (.int 2))) (ak (aq 6) au)))) (ak (aX jD (ak (aq 2) (ak (aA aV (ao 4) (qC (.int 0))) (ak (aq 6) au)))) au))))) aR)
 (aD (bO (bB (aA cH (ao 0) (qC (.str "move")))) (aQ (bx (ak (aq 0) (ak (aX jD (ak (aq 1) (ak (aA aV (ao 4) (qC (.int 2))) (ak (aq 6) au)))) (ak (aX jD (ak (aq 2) (ak (aA aV (ao 4) (qC (.int 1))) (ak (aq 6) au)))) au))))) aR)
 (aQ (bx (ak (aq 0) (ak (aX jD (ak (aq 1) (ak (aA aV (ao 4) (qC (.int 2))) (ak (aq 6) au)))) au))))))))))))))))))
def eO:Mo->List Dat->Out Dat:=mQ 8 jG
def Hf:SF:=
 (aD (aZ (aF 3) (Cz qJ (ak (aq 0) (ak (bx (ak (qC (.str "bring")) (ak (qC (.int 1)) (ak (qC (.int 1)) (ak (bx (ak (qC (.int 0)) (ak (qC (.int 0)) (ak (qC (.int 0)) (ak (qC (.int 0)) (ak (qC (.int 0)) (ak (qC (.int 0)) au))))))) au))))) (ak (aq 3) au)))))
 (aZ (aF 3) (Cz qJ (ak (aq 0) (ak (bx (ak (qC (.str "cut")) (ak (aA aV (ao 3) (qC (.int 2))) au))) (ak (aq 3) au))))))
def Bq:SF:=
 (aD (aZ (aF 8) (gOf (aX uZ (ak (aq 7) (ak (qC (.int 14)) (ak (qC (.int 10)) au))))))
 (aD (aZ (aF 9) (gOf (aX zJ (ak (aA fH (aA wu (aA aV (ao 8) (qC (.int 0))) (qC (.int 10))) (aA aV (ao 8) (qC (.int 1)))) au))))
 (aD (aZ (aF 10) (gOf (aA fH (aA wu (aA aV (ao 8) (qC (.int 2))) (qC (.int 10))) (aA aV (ao 8) (qC (.int 3))))))
 (aD (aZ (aF 11) (gOf (aA fH (aA wu (aA aV (ao 8) (qC (.int 4))) (qC (.int 10))) (aA aV (ao 8) (qC (.int 5))))))
 (aD (bO (bB (aA Mu (ao 6) (eU mV (ao 5)))) (aZ (bL [9,10,11]) (gOf (aA aV (ao 5) (ao 6)))) aR)
 (aZ (aF 3) (Cz qJ (ak (aq 0) (ak (aX eO (ak (aq 9) (ak (aq 10) (ak (aq 11) (ak (aq 8) (ak (aq 3) (ak (aq 4) au))))))) (ak (aq 3) au))))))))))
def Pb:SF:=
 (aD (aZ (aF 3) (gOf (bx (ak (qC (.int 0)) (ak (qC (.int 0)) (ak (qC (.int 0)) au))))))
 (aD (aZ (aF 4) (gOf (aX Gm (ak (aA Cg (ao 2) (qC (.int 512))) au))))
 (aD (aZ (aF 5) (gOf (aX uR (ak (aq 2) au))))
 (aD (uI (yN 0 (aq 1)) (bL [6,7]) Bq)
 (aD (bO (bB (aA cH (aA lu (aA Cg (ao 2) (qC (.int 8))) (qC (.int 8))) (qC (.int 1)))) (uI (Bj (aA wu (aA lu (aA Cg (ao 2) (qC (.int 64))) (qC (.int 8))) (qC (.int 4)))) (aF 12) Hf) aR)
 (aQ (aq 3)))))))
def Cm:Mo->List Dat->aY Dat:=mG 13 Pb
def Zj:SF:=
 (aD (bO (bB (aA Mu (ao 1) (eU mV (ao 0)))) (aQ (aA aV (ao 0) (ao 1))) aR)
 (aQ (qC (.int 0))))
def uM:Mo->List Dat->Out Dat:=mQ 2 Zj
def Rx:SF:=
 (aD (aZ (aF 4) (gOf (aX uZ (ak (aq 1) (ak (qC (.int 14)) (ak (qC (.int 10)) au))))))
 (aQ (aX eO (ak (aq 0) (ak (aA fH (aA wu (aA aV (ao 4) (qC (.int 2))) (qC (.int 10))) (aA aV (ao 4) (qC (.int 3)))) (ak (aA fH (aA wu (aA aV (ao 4) (qC (.int 4))) (qC (.int 10))) (aA aV (ao 4) (qC (.int 5)))) (ak (aq 4) (ak (aq 2) (ak (aX Gm (ak (aA Cg (ao 3) (qC (.int 512))) au)) au)))))))))
def jy:Mo->List Dat->Out Dat:=mQ 5 Rx
def Wz:SF:=
 (aD (bO (bB (aA Mu (ao 0) (qC (.int 0)))) (aQ (aA lW (qC (.int 0)) (aA lu (aA lW (qC (.int 0)) (ao 0)) (aA MN (qC (.int 10)) (qC (.int 30)))))) aR)
 (aQ (aA lu (ao 0) (aA MN (qC (.int 10)) (qC (.int 30))))))
def Lz:Mo->List Dat->Out Dat:=mQ 1 Wz
def Wj:SF:=
 (aD (bO (bB (aA cH (aA lu (ao 1) (qC (.int 13))) (ao 2))) (aQ (aX Lz (ak (aA Cg (ao 1) (qC (.int 13))) au))) aR)
 (aQ (aq 0)))
def KQ:Mo->List Dat->Out Dat:=mQ 3 Wj
def tL:SF:=
 (aD (bO (jP (lY ux ux (qC (.int 1)) (ao 1) (eU mV (aA aV (ao 0) (qC (.int 3)))))) (aQ (qC (.str "NoBeast"))) aR)
 (aD (bO (jP (iY (aA aV (aA aV (aA aV (ao 0) (qC (.int 3))) (aA lW (ao 1) (qC (.int 1)))) (qC (.int 4))))) (aQ (qC (.str "Dead"))) aR)
 (aD (bO (mK (iY (ao 2)) (bB (xH false .none (aA aV (aA aV (aA aV (ao 0) (qC (.int 3))) (aA lW (ao 1) (qC (.int 1)))) (qC (.int 2)))))) (aQ (qC (.str "Unmarked"))) aR)
 (aQ (qC (.str ""))))))
def nJ:Mo->List Dat->Out Dat:=mQ 3 tL
def KR:SF:=
 (aD (aZ (aF 2) (gOf (aX nJ (ak (aq 0) (ak (aq 1) (ak (qC (.bool true)) au))))))
 (aD (bO (bB (aA Ck (ao 2) (qC (.str "")))) (aQ (bx (ak (aq 2) (ak (qC .none) (ak (aq 0) au))))) aR)
 (aD (sPN [3,4] (ak (aA aV (aA aV (aA aV (ao 0) (qC (.int 3))) (aA lW (ao 1) (qC (.int 1)))) (qC (.int 0))) (ak (aA aV (aA aV (aA aV (ao 0) (qC (.int 3))) (aA lW (ao 1) (qC (.int 1)))) (qC (.int 1))) au)))
 (aD (aZ (aF 5) (gOf (bx (ak (aq 3) (ak (aq 4) (ak (qC .none) (ak (bx (ak (qC (.int 0)) (ak (qC (.int 0)) (ak (qC (.int 0)) (ak (qC (.int 0)) (ak (qC (.int 0)) (ak (qC (.int 0)) au))))))) (ak (qC (.bool true)) (ak (aq 1) (ak (bx (ak (bx (ak (qC (.str "born")) (ak (aq 1) (ak (aq 3) (ak (aq 4) au))))) au)) au))))))))))
 (aQ (bx (ak (qC (.str "")) (ak (aA fH (eU mV (aA aV (ao 0) (qC (.int 3)))) (qC (.int 1))) (ak (bx (ak (aA aV (ao 0) (qC (.int 0))) (ak (aA aV (ao 0) (qC (.int 1))) (ak (aA aV (ao 0) (qC (.int 2))) (ak (aA fH (aA aV (ao 0) (qC (.int 3))) (zX (ak (aq 5) au))) au))))) au)))))))))
def CN:Mo->List Dat->Out Dat:=mQ 6 KR
def Rb:SF:=
 (aD (aZ (aF 2) (gOf (qC (.str ""))))
 (aD (aZ (aF 3) (gOf (qC .none)))
 (aD (Td (aZ (aF 3) (cM jc (ao 0) (ak (aq 1) au))) [⟨"NoBeast",fun x=>G4.lookup x,none,[(2,(.con (.str "NoBeast")))]⟩,⟨"Dead",fun x=>RL.lookup x,none,[(2,(.con (.str "Dead")))]⟩,⟨"Unmarked",fun x=>Dy.lookup x,none,[(2,(.con (.str "Unmarked")))]⟩])
 (aQ (bx (ak (aq 2) (ak (aq 3) au)))))))
def FJ:Mo->List Dat->aY Dat:=mG 4 Rb
def SN:SF:=
 (aQ (wX (vR .int (ao 0)) (Qm (vR .bool (ao 0)))))
def Ey:Mo->List Dat->Out Dat:=mQ 1 SN
def Oe(r:Mo->List Dat->Out Dat):SF:=
 (bO (jP (iY (aX r (ak (aq 2) (ak (aq 3) au))))) (aQ (qC (.bool false))) aR)
def Ew(r:Mo->List Dat->Out Dat):SF:=
 (aD (bO (bB (xH false .none (ao 1))) (aQ (xH false .none (ao 0))) aR)
 (aD (bO (bB (xH false (.bool true) (ao 1))) (aQ (xH false (.bool true) (ao 0))) aR)
 (aD (bO (bB (xH false (.bool false) (ao 1))) (aQ (xH false (.bool false) (ao 0))) aR)
 (aD (bO (iY (vR .int (ao 1))) (aQ (wX (aX Ey (ak (aq 0) au)) (aA cH (ao 0) (ao 1)))) aR)
 (aD (bO (iY (vR .str (ao 1))) (aQ (wX (vR .str (ao 0)) (aA cH (ao 0) (ao 1)))) aR)
 (aD (bO (mK (iY (vR .tuple (ao 1))) (jP (iY (vR .tuple (ao 0))))) (aQ (qC (.bool false))) aR)
 (aD (bO (mK (iY (vR .list (ao 1))) (jP (iY (vR .list (ao 0))))) (aQ (qC (.bool false))) aR)
 (aD (bO (bB (aA Ck (eU mV (ao 0)) (eU mV (ao 1)))) (aQ (qC (.bool false))) aR)
 (aD (uI (Km (aq 0) (aq 1)) (bL [2,3]) (Oe r))
 (aQ (qC (.bool true))))))))))))
def kY:Nat->Mo->List Dat->Out Dat
 |0=>fun _ _=>.bad
 |n+1=>mQ 4 (Ew (kY n))
def nQ:List (Str×MV):=[("Commons",.q 1 lH)]
def Wy:SF:=
 (aD (aZ (aF 1) (zY "Commons" lO au))
 (aD (aZ (aF 2) (gOf (eU Ud (aX uM (ak (aq 0) (ak (qC (.int 0)) au))))))
 (aD (aZ (aF 3) (Cz Cm (ak (aq 1) (ak (Mq (ao 0) (qI (qC (.int 2))) (qI (qC (.int 44)))) (ak (aq 2) au)))))
 (aD (aZ (aF 4) (gOf (aX uM (ak (aq 0) (ak (qC (.int 1)) au)))))
 (aD (aZ (aF 5) (gOf (aX jy (ak (qC (.str "bear")) (ak (aq 4) (ak (aq 3) (ak (aq 2) au)))))))
 (aD (aZ (aF 6) (gOf (aX KQ (ak (aA aV (ao 5) (qC (.int 1))) (ak (aq 4) (ak (qC (.int 3)) au))))))
 (aD (aZ (aF 7) (gOf (aP nQ (ao 1) au)))
 (aD (aZ (aF 8) (gOf (aX CN (ak (aq 7) (ak (aq 6) au)))))
 (aD (aZ (aF 9) (Cz FJ (ak (aq 1) (ak (aq 6) au))))
 (aQ (wX (aX (kY 10) (ak (aq 9) (ak (Mq (ao 8) za (qI (qC (.int 2)))) au))) (aX (kY 10) (ak (aP nQ (ao 1) au) (ak (aA aV (ao 8) (qC (.int 2))) au))))))))))))))
def OD:Mo->List Dat->aY Dat:=mG 10 Wy
theorem VD:FnScope ["self","ones","others","ear"] ["self","ones","others","ear"] (defScope KJ):=⟨rfl,rfl,rfl,by decide +kernel,rfl,by decide +kernel,by decide +kernel⟩
abbrev rX(N:List Str)(s:Stmt)(G:List (Str×GV))(B:List Str)(Ms:List (Str×List (Str×MV)))(ml:List Str):Option SF:=rd ⟨N,defScope s,G,B,⟨Ms,jN,xmH,dfH,U6⟩,ml,true⟩ (defBody s)
abbrev rY(N:List Str)(s:Stmt)(G:List (Str×GV))(B:List Str)(Ms:List (Str×List (Str×MV)))(ml:List Str):Option SF:=rdG ⟨N,defScope s,G,B,⟨Ms,jN,xmH,dfH,U6⟩,ml,true⟩ (defBody s)
theorem agA:FnScope ["_law_found","_law_due_here","_law_one","_law_other"] ["_law_found","_law_due_here"] (defScope Qs):=⟨rfl,rfl,rfl,by decide +kernel,rfl,by decide +kernel,by decide +kernel⟩
theorem aio:FnScope ["_law_script","_law_house","_law_head","_law_counts","_law_cell_here","_law_deed_here","_law_mother","_law_stand","_law_due_here","_law_told"] ["_law_script"] (defScope Lg):=⟨rfl,rfl,rfl,by decide +kernel,rfl,by decide +kernel,by decide +kernel⟩
theorem RX:rY ["self"] Fy [] [] [] []=some yF:=by kernel_rfl
theorem Wd:rY ["self"] IV [] [] [] []=some zP:=by kernel_rfl
theorem Zq:rY ["self"] Mw [] [] [] []=some DR:=by kernel_rfl
theorem TJ:rY ["self"] FP [("Herd",.cls 0 yK),("Rights",.cls 0 uX),("Grounds",.cls 0 uf)] [] [] []=some yD:=by kernel_rfl
theorem V9:rX ["self"] Jb [] [] [] []=some Aa:=by kernel_rfl
theorem W3:rX ["self"] KH [] ["tuple"] [("stand",lM)] []=some Cj:=by kernel_rfl
theorem Oh:rX ["self"] Br [] ["list"] [] []=some vH:=by kernel_rfl
theorem Mh:rX ["self"] Ao [] ["list"] [] []=some uJ:=by kernel_rfl
theorem Tz:rX ["self"] Ed [] ["len"] [] []=some ug:=by kernel_rfl
theorem V4:rX ["self","ground"] Iv [] [] [("many",dZ)] []=some Ag:=by kernel_rfl
theorem Sv:rX ["self","ground"] Fq [("NoGround",.exc)] [] [("has",xY)] []=some yr:=by kernel_rfl
theorem Jf:rX ["self","ground"] xg [] [] [("need",aG)] []=some mF:=by kernel_rfl
theorem JM:rX ["self","ground"] zf [] ["list"] [("need",aG)] []=some ou:=by kernel_rfl
theorem Kg:rX ["self","ground"] zu [] [] [("together",bA)] []=some nu:=by kernel_rfl
theorem Rz:rX ["self","grounds","beasts","ground","beast"] Ge [] ["range","tuple"] [("all_rows",sO),("owners",uG),("told",u9),("many",dZ),("together",bQ),("allowance",dJ)] []=some xP:=by kernel_rfl
theorem ald:rX ["_law_cell_here","_law_many","_law_base","_law_found","_law_k","_law_turn"] s_row [] ["range","abs"] [] ["_law_found"]=some abh:=by kernel_rfl
theorem aey:rX ["_law_figures","_law_mode","_law_figure"] Xr [] ["tuple","max"] [] []=some NZ:=by kernel_rfl
theorem ak8:rX ["_law_cell_here","_law_figures"] aft [("_law_ear_by",.fq 2 rZ),("_law_row",.fq 3 uZ)] [] [] []=some abf:=by kernel_rfl
theorem ZJ:rX ["_law_head","_law_rows"] MF [] [] [] []=some DN:=by kernel_rfl
theorem adF:rX ["_law_figure","_law_some"] Ut [] [] [] []=some JD:=by kernel_rfl
theorem GD:rX ["self","owner"] wA [("NoOwner",.exc)] [] [] []=some lF:=by kernel_rfl
theorem Tj:rX ["self","owner","ground","holder","where","mark"] Eh [] [] [] []=some xZ:=by kernel_rfl
theorem Jz:rX ["self","owner","ground"] zB [] ["len"] [("marks",cI)] []=some rO:=by kernel_rfl
theorem GJ:rX ["self","owner","ground"] vZ [("NoRight",.exc)] [] [("has_right",qU)] []=some pY:=by kernel_rfl
theorem Jh:rY ["self"] xq [] [] [] []=some qP:=by kernel_rfl
theorem Kc:rY ["self","owner","ground","mark","row"] zK [("HasRight",.exc)] [] [] []=some oG:=by kernel_rfl
theorem ajt:rX ["ear","many","heads","depth","head","left","cut"] acW [("GREATEST_DEPTH",.con cQ)] ["range","min"] [] []=some X4:=by kernel_rfl
theorem agn:rX ["one","other","here","there"] aaW [] ["sum","zip"] [] []=some RM:=by kernel_rfl
theorem ZD:rX ["mark","extra","ear"] Mz [("lacks",.fq 2 tV),("torn",.fq 2 JT)] [] [] []=some DQ:=by kernel_rfl
theorem ag0:rX ["one","other"] aaE [("lacks",.fq 2 tV)] ["max"] [] []=some RK:=by kernel_rfl
theorem ajU:rX ["one","other","room"] ac8 [("apart",.fq 2 Ek)] [] [] []=some Za:=by kernel_rfl
theorem W8:rX ["mark","extra","rows","room","ear","owner","taken"] JB [("NoneFree",.exc),("offspring",.fq 2 uU),("meet",.fq 3 ql)] ["any"] [] []=some vX:=by kernel_rfl
theorem Gy:rX ["self","owner","ground"] wO [] [] [("marks",cI)] []=some pN:=by kernel_rfl
theorem aeZ:rX ["rows"] Yx [] ["sorted","set"] [] []=some Od:=by kernel_rfl
theorem Mf:rX ["self","number","beast"] Ak [] ["enumerate"] [] []=some uE:=by kernel_rfl
theorem RG:rX ["self","grounds","number","beast"] Eb [] [] [("all_living",dR)] []=some yt:=by kernel_rfl
theorem Jg:rX ["self","grounds","owner","ground","mark"] wZ [] [] [] []=some qW:=by kernel_rfl
theorem DK:rX ["self","left_out","ground","near","due","number","beast"] uL [("tidied",.fq 1 pZ)] [] [("in_grounds",pP),("grazing",jr),("together",bQ)] []=some jR:=by kernel_rfl
theorem JV:rX ["self","ground"] yU [] [] [("standing_but",cW)] []=some oA:=by kernel_rfl
theorem T6:rX ["self","ground","near"] Ea [] ["max"] [("together",bA),("allowance",dJ)] []=some tX:=by kernel_rfl
theorem Tf:rX ["self","ground"] Ef [] [] [("room",rH)] []=some uo:=by kernel_rfl
theorem J5:rY ["self","elder","ground","extra","mark","heir"] zA [("first_free",.fq 4 oV),("BadExtra",.exc),("FEWEST_EXTRA",.con iT),("MOST_EXTRA",.con jU)] [] [("add_right",gU),("new_owner",gj),("room",bZ),("standing",cA),("first_mark",bT),("need_right",aJ),("need",aG),("need_owner",aC)] []=some dH:=by kernel_rfl
theorem HJ:rY ["self","allowance"] wB [("BadAllowance",.exc),("GREATEST_ALLOWANCE",.con fY)] [] [("many",dZ)] []=some jw:=by kernel_rfl
theorem Hu:rY ["self","allowance"] wJ [] [] [("add_ground",kh)] []=some lE:=by kernel_rfl
theorem adg:rX ["owner","ear","rows","room","holder","mark"] Vc [("meet",.fq 3 ql),("tidied",.fq 1 pZ)] [] [] []=some JC:=by kernel_rfl
theorem agP:rX ["one","other","here","there"] aas [] ["tuple","zip","max"] [] []=some RQ:=by kernel_rfl
theorem aby:rX ["owner","ear","rows","room","bars","holder","mark"] QK [("Clash",.exi ["ones","others","ear"]),("joint",.fq 2 oW),("barring",.fq 4 yZ)] [] [] []=some Ar:=by kernel_rfl
theorem Hv:rX ["self","owner","ear","ground"] wL [("ask_room",.fq 4 nM)] [] [("room",bZ),("standing",cA)] []=some lC:=by kernel_rfl
theorem ae5:rX ["parts","depth"] Y4 [("GREATEST_DEPTH",.con cQ),("PLACES",.con iD)] ["all","len"] [] []=some HD:=by kernel_rfl
theorem abv:rX ["parts"] Pn [("BadEar",.exc),("is_ear",.fq 1 sG)] [] [] []=some GP:=by kernel_rfl
theorem O5:rY ["self","owner","ground","mark"] Dc [("HasRight",.exc),("Bare",.exc),("BARE_EAR",.con jd),("need_ear",.fq 1 pQ)] [] [("add_right",gU),("ask_ground",bR),("marks",cI),("need",aG),("need_owner",aC)] []=some fP:=by kernel_rfl
theorem Wi:rY ["self","owner","ground","gone","mark"] Ip [("NoRight",.exc)] [] [("marks",cI)] []=some uY:=by kernel_rfl
theorem Qv:rY ["self","owner","ground","number","beast"] CZ [("StillThere",.exc)] ["any"] [("drop",yx),("grazing",jr),("need_right",aJ),("need",aG),("need_owner",aC)] []=some iZ:=by kernel_rfl
theorem MP:rY ["self","stand","owner","ground","due","ear","alive"] BJ [] [] [] []=some qb:=by kernel_rfl
theorem ag8:rX ["first","word","mother","owner","ground","ear"] aaj [("BARE_EAR",.con jd)] [] [] []=some Lp:=by kernel_rfl
theorem Xb:rY ["self","first"] Kw [("begun",.fq 1 Bc)] [] [("stand_so",jB)] []=some BX:=by kernel_rfl
theorem M5:rY ["self","first"] Bw [("Beast",.cls 1 sS)] ["len"] [] []=some vK:=by kernel_rfl
theorem O9:rY ["self","owner","ground","ear"] Df [("need_ear",.fq 1 pQ)] [] [("add_beast",jx),("need_right",aJ),("need",aG),("need_owner",aC)] []=some jm:=by kernel_rfl
theorem XH:rX ["self","number"] J9 [("NoBeast",.exc)] ["len"] [] []=some rP:=by kernel_rfl
theorem VB:rX ["self","number","beast"] Im [("Dead",.exc)] [] [("known",eX)] []=some uW:=by kernel_rfl
theorem V1:rX ["self","number","beast"] Ir [("Unmarked",.exc)] [] [("living",bG)] []=some qm:=by kernel_rfl
theorem Tw:rY ["self","mother","cow"] Fj [] [] [("add_beast",jx),("marked",bh)] []=some lK:=by kernel_rfl
theorem aa3:rX ["ear","place","at","depth"] Qa [] ["tuple","enumerate"] [] []=some Gj:=by kernel_rfl
theorem ac7:rX ["stand","event","owner","ground","due","ear","alive","word"] Ve [("deepened",.fq 2 wC)] [] [] []=some Ka:=by kernel_rfl
theorem Tg:rY ["self","event"] Fp [("gone_on",.fq 2 zF)] [] [("stand_so",jB),("stand",lM)] []=some yd:=by kernel_rfl
theorem V3:rY ["self","beast","found","due"] Ja [("joint",.fq 2 oW)] [] [("befall",bK),("ask_ground",bR),("first_mark",bT),("living",bG)] []=some m7:=by kernel_rfl
theorem RP:rY ["self","beast","place","found"] Gg [("Deepest",.exc),("GREATEST_DEPTH",.con cQ),("NoPlace",.exc),("PLACES",.con iD)] ["len"] [("befall",bK),("living",bG)] []=some iU:=by kernel_rfl
theorem Wh:rX ["self","mother","number","beast"] Io [] [] [("all_living",dR),("known",eX)] []=some uV:=by kernel_rfl
theorem KN:rY ["self","mother","beast","number","calf"] zG [] [] [("calves",yE),("befall",bK),("known",eX)] []=some sE:=by kernel_rfl
theorem SJ:rY ["self","beast","buyer","found","due"] Gf [("ask_room",.fq 4 nM),("joint",.fq 2 oW),("SameOwner",.exc)] [] [("lead_calves",gR),("befall",bK),("room",bZ),("standing_but",cW),("first_mark",bT),("need_right",aJ),("need_owner",aC),("marked",bh)] []=some fu:=by kernel_rfl
theorem T8:rY ["self","beast","ground","found","left"] El [("SameGround",.exc)] [] [("lead_calves",gR),("befall",bK),("ask_ground",bR),("need_right",aJ),("need",aG),("marked",bh)] []=some eZ:=by kernel_rfl
theorem VL:rY ["self","beast"] IK [] [] [("befall",bK),("living",bG)] []=some qw:=by kernel_rfl
theorem abl:rX ["rows","room","tidy","at","row","greater"] Qz [("meet",.fq 3 ql),("tidied",.fq 1 pZ)] ["enumerate"] [] []=some HF:=by kernel_rfl
theorem JF:rX ["self","ground","other","room"] yS [("clashing",.fq 2 tD)] ["max"] [("standing",cA),("room",bZ)] []=some sH:=by kernel_rfl
theorem Ma:rY ["self","grounds","circle","ground"] Aq [] ["tuple"] [] []=some uD:=by kernel_rfl
theorem Qy:rY ["self","ground","other","ones","others"] Di [("Together",.exc)] ["sorted"] [("enclose",fW),("together",bA)] []=some rG:=by kernel_rfl
theorem Qn:rY ["self","ground","other","pairs","row","greater"] Dj [("Clash",.exi ["ones","others","ear"]),("joint",.fq 2 oW),("Together",.exc)] [] [("unite",vC),("quarrels",mH),("together",bQ),("need",aG)] []=some jk:=by kernel_rfl
theorem Tt:rY ["self","ground","left","near"] Fg [("Alone",.exc)] [] [("enclose",fW),("together",bA)] []=some o7:=by kernel_rfl
theorem S8:rY ["self","ground"] Ez [] [] [("part",nO)] []=some oR:=by kernel_rfl
theorem Kv:rY ["self","elder","heir","owner","ground","mark"] zm [] [] [] []=some sW:=by kernel_rfl
theorem Yk:rX ["self","owner","number","beast"] Jq [] [] [("all_living",dR)] []=some Bt:=by kernel_rfl
theorem LQ:rY ["self","elder","heir","passed","number","beast"] Ah [("SameOwner",.exc)] [] [("befall",bK),("owned",zM),("hand_over",qQ),("need_owner",aC)] []=some jA:=by kernel_rfl
theorem ZC:rX ["kind","part","greatest"] Mr [("PLACES",.con iD),("GREATEST_PART",.con nH),("is_ear",.fq 1 sG)] ["isinstance","int","len","tuple"] [] []=some uP:=by kernel_rfl
theorem ahR:rX ["deed","shape","parts","kind","part"] acg [("part_fits",.fq 2 gY),("SHAPES",.dic (yI xQ))] ["all","zip","len"] [] []=some W7:=by kernel_rfl
theorem XR:rY ["self","deed","word","parts"] JK [("BadDeed",.exc),("fits",.fq 1 Fd)] [] [("new_heir",qZ),("pass_on",sY),("part",wg),("unite",vo),("die",xX),("move",wW),("sell",wY),("tear",wV),("cut",yu),("bear",jc),("bring",vB),("leave",vq),("enrol",vJ),("new_ground",pF),("new_owner",gj)] []=some cU:=by kernel_rfl
theorem ajZ:rY ["_law_house","_law_deed_here","_law_counts","_law_told","_law_owners","_law_grounds","_law_beasts"] ace [("CommonError",.exc)] [] [("do",qD)] []=some Ky:=by kernel_rfl
theorem ah2:rX ["_law_ear_here","_law_figures","_law_found","_law_depth","_law_figure","_law_more"] adh [] ["tuple","zip","max","min"] [] ["_law_found"]=some WQ:=by kernel_rfl
theorem adp:rX ["_law_figures","_law_mode","_law_base"] Vv [("_law_ear_by",.fq 2 rZ),("_law_near",.fq 2 Jl)] [] [] []=some JW:=by kernel_rfl
theorem akS:rX ["_law_figure","_law_many","_law_sure"] afA [] ["max"] [] []=some Wx:=by kernel_rfl
theorem ajO:rX ["_law_word","_law_one","_law_two","_law_parts","_law_counts","_law_base","_law_sure","_law_mark"] acP [("_law_ref",.fq 3 jD),("_law_mark_by",.fq 3 vM)] ["int"] [] []=some jG:=by kernel_rfl
theorem ajF:rY ["_law_house","_law_cells","_law_head","_law_counts","_law_base","_law_begun_here","_law_at","_law_cell_here","_law_parts","_law_word","_law_one","_law_two","_law_k"] adC [("_law_done",.fg 3 qJ),("_law_deed",.fq 6 eO),("_law_word_by",.fq 1 zJ),("_law_row",.fq 3 uZ),("_law_begun",.fq 1 uR),("_law_ear",.fq 1 Gm)] ["range","enumerate","len"] [] []=some Pb:=by kernel_rfl
theorem aj0:rX ["_law_script","_law_k"] abS [] ["len"] [] []=some Zj:=by kernel_rfl
theorem af6:rX ["_law_word","_law_cell_here","_law_counts","_law_head","_law_parts"] aaC [("_law_deed",.fq 6 eO),("_law_ear",.fq 1 Gm),("_law_row",.fq 3 uZ)] [] [] []=some Rx:=by kernel_rfl
theorem ak0:rX ["_law_cell_here"] afg [] [] [] []=some Wz:=by kernel_rfl
theorem akq:rX ["_law_value","_law_cell_here","_law_turn"] afC [("_law_cut",.fq 1 Lz)] [] [] []=some Wj:=by kernel_rfl
theorem abH:rX ["_law_stand","_law_beast","_law_cut_here"] Ri [] ["len"] [] []=some tL:=by kernel_rfl
theorem akt:rX ["_law_stand","_law_mother","_law_word","_law_owner","_law_ground","_law_row_here"] afI [("_law_herd_bad",.fq 3 nJ)] ["len"] [] []=some KR:=by kernel_rfl
theorem ahT:rY ["_law_house","_law_mother","_law_word","_law_told"] acR [("NoBeast",.exc),("Dead",.exc),("Unmarked",.exc)] [] [("bear",jc)] []=some Rb:=by kernel_rfl
theorem ahq:rX ["_law_found"] Z4 [] ["isinstance","bool","int"] [] []=some SN:=by kernel_rfl
theorem aiZ(r:Mo->List Dat->Out Dat):rd ⟨["_law_found","_law_due_here","_law_one","_law_other"],defScope Qs,[("_law_like",.fq 2 r),("_law_whole",.fq 1 Ey)],["zip","len","isinstance","list","tuple","str","int"],⟨[],jN,xmH,dfH,U6⟩,[],true⟩ (defBody Qs)=some (Ew r):=by kernel_rfl
theorem akU:rY ["_law_script","_law_house","_law_head","_law_counts","_law_cell_here","_law_deed_here","_law_mother","_law_stand","_law_due_here","_law_told"] Lg [("_law_like",.fq 2 (kY 10)),("_law_tell",.fg 2 FJ),("_law_due",.fq 2 CN),("_law_raw",.fq 3 KQ),("_law_asked",.fq 4 jy),("_law_cell",.fq 2 uM),("_law_play",.fg 3 Cm),("Commons",.cls 0 lO)] ["abs"] [("look",nQ)] []=some Wy:=by kernel_rfl
structure Top(w:World)(K:ap9)(mg:Str->Option Value):Prop where
 ex:∃h:Heap,K.In h/\h.Ns mainGlobals mg
 c:K7 fa fn tbs exB w K
abbrev aj(w:World)(K:ap9):aO:=ni w K xsH jN
section
variable{P:Program}{w:World}{K:ap9}{mg:Str->Option Value}{base:Heap}{k:Nat}(T:Top w K mg)
include T
theorem Top.glo(i:Nat){x:Str}(h:fa[i]?=some (.glo x):=by rfl):mg x=some (.ref (He.ga K x)):=by
 obtain⟨_,X,G⟩:=T.ex
 exact He.glo_ok X G (T.c.oK i h)
theorem Top.free(i:Nat){x:Str}(h:fa[i]?=some (.free x):=by rfl):mg x=none:=by
 obtain⟨_,X,G⟩:=T.ex
 exact He.free_ok X G (T.c.oK i h)
theorem Top.int(i:Nat){x:Str}{j:Int}(h:fa[i]?=some (.int x j):=by rfl):∃t,mg x=some (.int j t):=by
 obtain⟨_,X,G⟩:=T.ex
 exact He.int_ok X G (T.c.oK i h)
theorem Top.str(i:Nat){x j:Str}(h:fa[i]?=some (.str x j):=by rfl):∃t,mg x=some (.str j t):=by
 obtain⟨_,X,G⟩:=T.ex
 exact He.str_ok X G (T.c.oK i h)
theorem vm:bf P w K mg base (aj w K) k "GREATEST_DEPTH" (.con cQ):=by
 obtain⟨t,h⟩:=T.int 150
 exact Jk h
theorem Ru:bf P w K mg base (aj w K) k "FEWEST_EXTRA" (.con iT):=by
 obtain⟨t,h⟩:=T.int 151
 exact Jk h
theorem Yg:bf P w K mg base (aj w K) k "MOST_EXTRA" (.con jU):=by
 obtain⟨t,h⟩:=T.int 152
 exact Jk h
theorem HS:bf P w K mg base (aj w K) k "GREATEST_ALLOWANCE" (.con fY):=by
 obtain⟨t,h⟩:=T.int 153
 exact Jk h
theorem Oj:bf P w K mg base (aj w K) k "PLACES" (.con iD):=acE (T.glo 154) (fun H=>He.tupB_ok (He.ba (He.ba T.c.more).1).2 H) rfl rfl
theorem Qp:bf P w K mg base (aj w K) k "BARE_EAR" (.con jd):=acE (T.glo 155) (fun H=>He.tupB_ok (He.ba T.c.more).2 H) rfl rfl
theorem QX:bf P w K mg base (aj w K) k "GREATEST_PART" (.con nH):=by
 obtain⟨t,h⟩:=T.int 156
 exact Jk h
theorem adX:bf P w K mg base (aj w K) k "SHAPES" (.dic (yI xQ)):=aj5 (T.glo 149) (He.ba (He.ba (He.ba T.c.more).1).1).2 (T.c.t.tab 0)
theorem abj:bf P w K mg base (aj w K) k "NoGround" .exc:=gW (by rfl) (T.glo 106) (T.c.oK 107)
theorem ac9:bf P w K mg base (aj w K) k "NoOwner" .exc:=gW (by rfl) (T.glo 108) (T.c.oK 109)
theorem U5:bf P w K mg base (aj w K) k "NoRight" .exc:=gW (by rfl) (T.glo 110) (T.c.oK 111)
theorem Pq:bf P w K mg base (aj w K) k "HasRight" .exc:=gW (by rfl) (T.glo 112) (T.c.oK 113)
theorem abb:bf P w K mg base (aj w K) k "NoneFree" .exc:=gW (by rfl) (T.glo 114) (T.c.oK 115)
theorem abw:bf P w K mg base (aj w K) k "BadExtra" .exc:=gW (by rfl) (T.glo 116) (T.c.oK 117)
theorem TY:bf P w K mg base (aj w K) k "BadAllowance" .exc:=gW (by rfl) (T.glo 118) (T.c.oK 119)
theorem adZ:bf P w K mg base (aj w K) k "BadEar" .exc:=gW (by rfl) (T.glo 121) (T.c.oK 122)
theorem aik:bf P w K mg base (aj w K) k "Bare" .exc:=gW (by rfl) (T.glo 123) (T.c.oK 124)
theorem XM:bf P w K mg base (aj w K) k "StillThere" .exc:=gW (by rfl) (T.glo 125) (T.c.oK 126)
theorem U8:bf P w K mg base (aj w K) k "NoBeast" .exc:=gW (by rfl) (T.glo 127) (T.c.oK 128)
theorem acX:bf P w K mg base (aj w K) k "Dead" .exc:=gW (by rfl) (T.glo 129) (T.c.oK 130)
theorem Oz:bf P w K mg base (aj w K) k "Unmarked" .exc:=gW (by rfl) (T.glo 131) (T.c.oK 132)
theorem acz:bf P w K mg base (aj w K) k "Deepest" .exc:=gW (by rfl) (T.glo 133) (T.c.oK 134)
theorem acU:bf P w K mg base (aj w K) k "NoPlace" .exc:=gW (by rfl) (T.glo 135) (T.c.oK 136)
theorem Mx:bf P w K mg base (aj w K) k "SameOwner" .exc:=gW (by rfl) (T.glo 137) (T.c.oK 138)
theorem Zk:bf P w K mg base (aj w K) k "SameGround" .exc:=gW (by rfl) (T.glo 139) (T.c.oK 140)
theorem Q6:bf P w K mg base (aj w K) k "Together" .exc:=gW (by rfl) (T.glo 141) (T.c.oK 142)
theorem af3:bf P w K mg base (aj w K) k "Alone" .exc:=gW (by rfl) (T.glo 143) (T.c.oK 144)
theorem adt:bf P w K mg base (aj w K) k "BadDeed" .exc:=gW (by rfl) (T.glo 145) (T.c.oK 146)
theorem VF:bf P w K mg base (aj w K) k "CommonError" .exc:=gW (by rfl) (T.glo 147) (T.c.oK 148)
theorem Top.afe:Jw K jN=true:=(He.ba (He.ba (He.ba (He.ba (He.ba (He.ba T.c.more).1).1).1).1).1).2
theorem Top.xf:(U6.all fun p=>xsH.contains p.1&&R4 K p.1 p.2)=true:=(He.ba (He.ba (He.ba (He.ba T.c.more).1).1).1).2
theorem Top.hs{Ms:List (Str×List (Str×MV))}(h:DG P w K mg base (aj w K) k Ms):Rq P w K mg base (aj w K) k ⟨Ms,jN,xmH,dfH,U6⟩:=ali h T.afe (He.ba (He.ba (He.ba (He.ba (He.ba T.c.more).1).1).1).1).2 (by rfl) T.xf
theorem Top.cls{c:Str}{fs:List Str}(h:jN.lookup c=some fs:=by rfl):Cls K (He.ga K c):=(Yn T.afe h).1
local macro_rules | `(tactic| nofun)=>`(tactic| first | (exact fun _ _ _ _ _ _ us hl=>match us,hl with | [_],_=>rfl) | (exact fun _ _ _ _ _ _ us hl=>match us,hl with | [_,_],_=>rfl) | (exact fun _ _ _ _ _ _ us hl=>match us,hl with | [_,_,_],_=>rfl) | (exact fun _ _ _ _ _ _ us hl=>match us,hl with | [_,_,_,_],_=>rfl) | (exact fun _ _ _ _ _ _ us hl=>match us,hl with | [_,_,_,_,_],_=>rfl) | (exact fun _ _ _ _ _ _ us hl=>match us,hl with | [_,_,_,_,_,_],_=>rfl) | (exact fun _ _ _ _ _ _ us hl=>match us,hl with | [_,_,_,_,_,_,_],_=>rfl) | (exact fun _ _ _ _ _ _ us hl=>match us,hl with | [_,_,_,_,_,_,_,_],_=>rfl))
theorem vQ(i j:Nat){x:Str}{k0:Nat}(hk:k0+1<=k){st:Stmt}{N ps ml B:List Str}{G:List (Str×GV)}{Ms:List (Str×List (Str×MV))}{body:SF}(h:rX N st G B Ms ml=some body)(g:BW P w K mg base (aj w K) k0 G)(b:BK mg B)(ms:DG P w K mg base (aj w K) k0 Ms)(hi:fn[i]?=some (dF x st):=by rfl)(hj:fa[j]?=some (.glo x):=by rfl)(S:FnScope N ps (defScope st):=by exact⟨rfl,rfl,rfl,by decide +kernel,rfl,by decide +kernel,by decide +kernel⟩)(hb:∀(kV doc pm:Value) (an:Option Addr) (cdv ct:Value) (us:List Value),us.length=ps.length->bindArgs (PySem.W.fnOf x x (defArgs st) (defBody st) (defScope st) .none kV doc pm an cdv ct) ⟨us,[]⟩=pure (ps.zip us):=by nofun):bf P w K mg base (aj w K) k x (.fq ps.length (mQ N.length body)):=by
 obtain⟨fd,F⟩:=T.c.Vt i hi
 exact aeU hk (T.glo j hj) F.kp (FunD.bindsN (ps:=ps) F hb) (Ye (Du F) S g b (T.hs ms) h)
theorem wQ(i j:Nat){c m q:Str}{k0:Nat}(hk:k0+1<=k){st:Stmt}{N ps ml B:List Str}{G:List (Str×GV)}{Ms:List (Str×List (Str×MV))}{body:SF}(h:rX N st G B Ms ml=some body)(g:BW P w K mg base (aj w K) k0 G)(b:BK mg B)(ms:DG P w K mg base (aj w K) k0 Ms)(hi:fn[i]?=some (dM c m q st):=by rfl)(hj:fa[j]?=some (.meth c m):=by rfl)(hx:xsH.contains c=true:=by rfl){fs:List Str}(hc:jN.lookup c=some fs:=by rfl)(hf:((jN.lookup c).getD []).contains m=false:=by rfl)(S:FnScope N ps (defScope st):=by exact⟨rfl,rfl,rfl,by decide +kernel,rfl,by decide +kernel,by decide +kernel⟩)(hb:∀(kV doc pm:Value) (an:Option Addr) (cdv ct:Value) (us:List Value),us.length=ps.length->bindArgs (PySem.W.fnOf m q (defArgs st) (defBody st) (defScope st) .none kV doc pm an cdv ct) ⟨us,[]⟩=pure (ps.zip us):=by nofun):bV P w K mg base (aj w K) k c m (.q ps.length (mQ N.length body)):=by
 obtain⟨fd,F⟩:=T.c.Vt i hi
 exact amH hk hx (T.cls hc) (T.c.oK j hj) hf (FunD.bindsN (ps:=ps) F hb) (Ye (Du F) S g b (T.hs ms) h)
theorem vG(i j:Nat){x:Str}{k0:Nat}(hk:k0+1<=k){st:Stmt}{N ps ml B:List Str}{G:List (Str×GV)}{Ms:List (Str×List (Str×MV))}{body:SF}(h:rY N st G B Ms ml=some body)(g:BW P w K mg base (aj w K) k0 G)(b:BK mg B)(ms:DG P w K mg base (aj w K) k0 Ms)(hi:fn[i]?=some (dF x st):=by rfl)(hj:fa[j]?=some (.glo x):=by rfl)(S:FnScope N ps (defScope st):=by exact⟨rfl,rfl,rfl,by decide +kernel,rfl,by decide +kernel,by decide +kernel⟩)(hb:∀(kV doc pm:Value) (an:Option Addr) (cdv ct:Value) (us:List Value),us.length=ps.length->bindArgs (PySem.W.fnOf x x (defArgs st) (defBody st) (defScope st) .none kV doc pm an cdv ct) ⟨us,[]⟩=pure (ps.zip us):=by nofun):bf P w K mg base (aj w K) k x (.fg ps.length (mG N.length body)):=by
 obtain⟨fd,F⟩:=T.c.Vt i hi
 exact amw hk (T.glo j hj) F.kp (FunD.bindsN (ps:=ps) F hb) (Q8 (Du F) S g b (T.hs ms) h)
theorem wG(i j:Nat){c m q:Str}{k0:Nat}(hk:k0+1<=k){st:Stmt}{N ps ml B:List Str}{G:List (Str×GV)}{Ms:List (Str×List (Str×MV))}{body:SF}(h:rY N st G B Ms ml=some body)(g:BW P w K mg base (aj w K) k0 G)(b:BK mg B)(ms:DG P w K mg base (aj w K) k0 Ms)(hi:fn[i]?=some (dM c m q st):=by rfl)(hj:fa[j]?=some (.meth c m):=by rfl)(hx:xsH.contains c=true:=by rfl){fs:List Str}(hc:jN.lookup c=some fs:=by rfl)(hf:((jN.lookup c).getD []).contains m=false:=by rfl)(S:FnScope N ps (defScope st):=by exact⟨rfl,rfl,rfl,by decide +kernel,rfl,by decide +kernel,by decide +kernel⟩)(hb:∀(kV doc pm:Value) (an:Option Addr) (cdv ct:Value) (us:List Value),us.length=ps.length->bindArgs (PySem.W.fnOf m q (defArgs st) (defBody st) (defScope st) .none kV doc pm an cdv ct) ⟨us,[]⟩=pure (ps.zip us):=by nofun):bV P w K mg base (aj w K) k c m (.g ps.length (mG N.length body)):=by
 obtain⟨fd,F⟩:=T.c.Vt i hi
 exact amC hk hx (T.cls hc) (T.c.oK j hj) hf (FunD.bindsN (ps:=ps) F hb) (Q8 (Du F) S g b (T.hs ms) h)
theorem vI(i j l:Nat){c q:Str}{n:Nat}{k0:Nat}{st:Stmt}{N ps ml B:List Str}{G:List (Str×GV)}{Ms:List (Str×List (Str×MV))}{body:SF}(h:rY N st G B Ms ml=some body)(g:BW P w K mg base (aj w K) k0 G)(b:BK mg B)(ms:DG P w K mg base (aj w K) k0 Ms)(hk:k0+1+1<=k)(hi:fn[i]?=some (dM c "__init__" q st):=by rfl)(hj:fa[j]?=some (.mkr c):=by rfl)(hg:fa[l]?=some (.glo c):=by rfl)(hx:xsH.contains c=true:=by rfl){fs:List Str}(hc:jN.lookup c=some fs:=by rfl)(hp:ps.length=n+1:=by rfl)(S:FnScope N ps (defScope st):=by exact⟨rfl,rfl,rfl,by decide +kernel,rfl,by decide +kernel,by decide +kernel⟩)(hb:∀(kV doc pm:Value) (an:Option Addr) (cdv ct:Value) (us:List Value),us.length=ps.length->bindArgs (PySem.W.fnOf "__init__" q (defArgs st) (defBody st) (defScope st) .none kV doc pm an cdv ct) ⟨us,[]⟩=pure (ps.zip us):=by nofun):bf P w K mg base (aj w K) k c (.cls n (mG N.length body)):=by
 obtain⟨fd,F⟩:=T.c.Vt i hi
 exact akf hk hx (T.glo l hg) (T.cls hc) (T.c.oK j hj) hp (FunD.bindsN (ps:=ps) F hb) (Q8 (Du F) S g b (T.hs ms) h)
theorem aao(hk:2<=k):bf P w K mg base (aj w K) k "Clash" (.exi ["ones","others","ear"]):=by
 have ho:R4 K "Clash" ["ones","others","ear"]=true:=(He.ba (aqu.mp T.xf _ (show(("Clash" : Str),(["ones","others","ear"]:List Str))∈U6 by simp[U6]))).2
 obtain⟨o1,o2,o3,o4,o5⟩:=Sh ho
 obtain⟨fd,F⟩:=T.c.Vt 101
 have b:=FunD.bindsN (ps:=["self","ones","others","ear"]) F fun _ _ _ _ _ _ us hl=>match us,hl with|[_,_,_,_],_=>rfl
 exact ai8 hk (by rfl) (T.glo 120) ho rfl b (acN (Du F) VD o1 (by rfl) (by decide) (o5 _ (by decide)) (o5 _ (by decide)) (o5 _ (by decide)))
theorem abU(hk:2<=k:=by omega):bf P w K mg base (aj w K) k "Grounds" (.cls 0 uf):=vI T 0 0 101 (ps:=["self"]) RX trivial trivial trivial hk
theorem aek(hk:2<=k:=by omega):bf P w K mg base (aj w K) k "Rights" (.cls 0 uX):=vI T 1 1 102 (ps:=["self"]) Wd trivial trivial trivial hk
theorem ai0(hk:2<=k:=by omega):bf P w K mg base (aj w K) k "Herd" (.cls 0 yK):=vI T 2 2 103 (ps:=["self"]) Zq trivial trivial trivial hk
theorem acD(hk:4<=k:=by omega):bf P w K mg base (aj w K) k "Commons" (.cls 0 lO):=vI T 3 3 104 (ps:=["self"]) TJ ⟨ai0 T,aek T,abU T,trivial⟩ trivial trivial hk
theorem Fe(hk:1<=k:=by omega):bV P w K mg base (aj w K) k "Beast" "stand" (.q 1 vh):=wQ T 4 4 hk (ps:=["self"]) V9 trivial trivial trivial
theorem V7(hk:2<=k:=by omega):bV P w K mg base (aj w K) k "Beast" "told" (.q 1 v9):=wQ T 5 5 hk (ps:=["self"]) W3 trivial ⟨T.free 157,trivial⟩ ⟨⟨Fe T,trivial⟩,trivial⟩
theorem LR(hk:1<=k:=by omega):bV P w K mg base (aj w K) k "Commons" "owners" (.q 1 pO):=wQ T 6 6 hk (ps:=["self"]) Oh trivial ⟨T.free 158,trivial⟩ trivial
theorem JN(hk:1<=k:=by omega):bV P w K mg base (aj w K) k "Rights" "all_rows" (.q 1 oM):=wQ T 7 7 hk (ps:=["self"]) Mh trivial ⟨T.free 158,trivial⟩ trivial
theorem v8(hk:1<=k:=by omega):bV P w K mg base (aj w K) k "Grounds" "many" (.q 1 oY):=wQ T 8 8 hk (ps:=["self"]) Tz trivial ⟨T.free 159,trivial⟩ trivial
theorem TQ(hk:2<=k:=by omega):bV P w K mg base (aj w K) k "Grounds" "has" (.q 2 u6):=wQ T 9 9 hk (ps:=["self","ground"]) V4 trivial trivial ⟨⟨v8 T,trivial⟩,trivial⟩
theorem gH(hk:3<=k:=by omega):bV P w K mg base (aj w K) k "Grounds" "need" (.q 2 tY):=wQ T 10 10 hk (ps:=["self","ground"]) Sv ⟨abj T,trivial⟩ trivial ⟨⟨TQ T,trivial⟩,trivial⟩
theorem wH(hk:4<=k:=by omega):bV P w K mg base (aj w K) k "Grounds" "allowance" (.q 2 jF):=wQ T 11 11 hk (ps:=["self","ground"]) Jf trivial trivial ⟨⟨gH T,trivial⟩,trivial⟩
theorem mO(hk:4<=k:=by omega):bV P w K mg base (aj w K) k "Grounds" "together" (.q 2 jW):=wQ T 12 12 hk (ps:=["self","ground"]) JM trivial ⟨T.free 158,trivial⟩ ⟨⟨gH T,trivial⟩,trivial⟩
theorem qY(hk:5<=k:=by omega):bV P w K mg base (aj w K) k "Commons" "together" (.q 2 jV):=wQ T 13 13 hk (ps:=["self","ground"]) Kg trivial trivial ⟨⟨mO T,trivial⟩,trivial⟩
theorem QM(hk:6<=k:=by omega):bV P w K mg base (aj w K) k "Commons" "look" (.q 1 lH):=wQ T 14 14 hk (ps:=["self"]) Rz trivial ⟨T.free 160,T.free 157,trivial⟩ ⟨⟨JN T,trivial⟩,⟨LR T,trivial⟩,⟨V7 T,trivial⟩,⟨v8 T,trivial⟩,⟨qY T,trivial⟩,⟨wH T,trivial⟩,trivial⟩
theorem abr(hk:1<=k:=by omega):bf P w K mg base (aj w K) k "_law_row" (.fq 3 uZ):=vQ T 15 15 hk (ps:=["_law_cell_here","_law_many","_law_base"]) ald trivial ⟨T.free 160,T.free 161,trivial⟩ trivial
theorem Xg(hk:1<=k:=by omega):bf P w K mg base (aj w K) k "_law_ear_by" (.fq 2 rZ):=vQ T 16 16 hk (ps:=["_law_figures","_law_mode"]) aey trivial ⟨T.free 157,T.free 162,trivial⟩ trivial
theorem afD(hk:2<=k:=by omega):bf P w K mg base (aj w K) k "_law_ear" (.fq 1 Gm):=vQ T 17 17 hk (ps:=["_law_cell_here"]) ak8 ⟨Xg T,abr T,trivial⟩ trivial trivial
theorem ZK(hk:1<=k:=by omega):bf P w K mg base (aj w K) k "_law_begun" (.fq 1 uR):=vQ T 18 18 hk (ps:=["_law_head"]) ZJ trivial trivial trivial
theorem acw(hk:1<=k:=by omega):bf P w K mg base (aj w K) k "_law_word_by" (.fq 1 zJ):=vQ T 19 19 hk (ps:=["_law_figure"]) adF trivial trivial trivial
theorem fU(hk:1<=k:=by omega):bV P w K mg base (aj w K) k "Commons" "need_owner" (.q 2 jf):=wQ T 20 20 hk (ps:=["self","owner"]) GD ⟨ac9 T,trivial⟩ trivial trivial
theorem rE(hk:1<=k:=by omega):bV P w K mg base (aj w K) k "Rights" "marks" (.q 3 tO):=wQ T 21 21 hk (ps:=["self","owner","ground"]) Tj trivial trivial trivial
theorem Jj(hk:2<=k:=by omega):bV P w K mg base (aj w K) k "Rights" "has_right" (.q 3 oH):=wQ T 22 22 hk (ps:=["self","owner","ground"]) Jz trivial ⟨T.free 159,trivial⟩ ⟨⟨rE T,trivial⟩,trivial⟩
theorem iH(hk:3<=k:=by omega):bV P w K mg base (aj w K) k "Commons" "need_right" (.q 3 lB):=wQ T 23 23 hk (ps:=["self","owner","ground"]) GJ ⟨U5 T,trivial⟩ trivial ⟨⟨Jj T,trivial⟩,trivial⟩
theorem wF(hk:1<=k:=by omega):bV P w K mg base (aj w K) k "Commons" "new_owner" (.g 1 gQ):=wG T 24 24 hk (ps:=["self"]) Jh trivial trivial trivial
theorem xJ(hk:1<=k:=by omega):bV P w K mg base (aj w K) k "Rights" "add_right" (.g 4 iI):=wG T 25 25 hk (ps:=["self","owner","ground","mark"]) Kc ⟨Pq T,trivial⟩ trivial trivial
theorem ahN(hk:1<=k:=by omega):bf P w K mg base (aj w K) k "torn" (.fq 2 JT):=vQ T 26 26 hk (ps:=["ear","many"]) ajt ⟨vm T,trivial⟩ ⟨T.free 160,T.free 163,trivial⟩ trivial
theorem aav(hk:1<=k:=by omega):bf P w K mg base (aj w K) k "lacks" (.fq 2 tV):=vQ T 27 27 hk (ps:=["one","other"]) agn trivial ⟨T.free 164,T.free 165,trivial⟩ trivial
theorem Zo(hk:2<=k:=by omega):bf P w K mg base (aj w K) k "offspring" (.fq 2 uU):=vQ T 28 28 hk (ps:=["mark","extra"]) ZD ⟨aav T,ahN T,trivial⟩ trivial trivial
theorem afR(hk:2<=k:=by omega):bf P w K mg base (aj w K) k "apart" (.fq 2 Ek):=vQ T 29 29 hk (ps:=["one","other"]) ag0 ⟨aav T,trivial⟩ ⟨T.free 162,trivial⟩ trivial
theorem Xe(hk:3<=k:=by omega):bf P w K mg base (aj w K) k "meet" (.fq 3 ql):=vQ T 30 30 hk (ps:=["one","other","room"]) ajU ⟨afR T,trivial⟩ trivial trivial
theorem XF(hk:4<=k:=by omega):bf P w K mg base (aj w K) k "first_free" (.fq 4 oV):=vQ T 31 31 hk (ps:=["mark","extra","rows","room"]) W8 ⟨abb T,Zo T,Xe T,trivial⟩ ⟨T.free 166,trivial⟩ trivial
theorem pC(hk:2<=k:=by omega):bV P w K mg base (aj w K) k "Commons" "first_mark" (.q 3 lA):=wQ T 32 32 hk (ps:=["self","owner","ground"]) Gy trivial trivial ⟨⟨rE T,trivial⟩,trivial⟩
theorem NQ(hk:1<=k:=by omega):bf P w K mg base (aj w K) k "tidied" (.fq 1 pZ):=vQ T 33 33 hk (ps:=["rows"]) aeZ trivial ⟨T.free 167,T.free 168,trivial⟩ trivial
theorem rM(hk:1<=k:=by omega):bV P w K mg base (aj w K) k "Herd" "all_living" (.q 1 oN):=wQ T 34 34 hk (ps:=["self"]) Mf trivial ⟨T.free 169,trivial⟩ trivial
theorem Ds(hk:2<=k:=by omega):bV P w K mg base (aj w K) k "Herd" "grazing" (.q 2 o9):=wQ T 35 35 hk (ps:=["self","grounds"]) RG trivial trivial ⟨⟨rM T,trivial⟩,trivial⟩
theorem Gv(hk:1<=k:=by omega):bV P w K mg base (aj w K) k "Rights" "in_grounds" (.q 2 mJ):=wQ T 36 36 hk (ps:=["self","grounds"]) Jg trivial trivial trivial
theorem uz(hk:6<=k:=by omega):bV P w K mg base (aj w K) k "Commons" "standing_but" (.q 3 ig):=wQ T 37 37 hk (ps:=["self","left_out","ground"]) DK ⟨NQ T,trivial⟩ trivial ⟨⟨Gv T,trivial⟩,⟨Ds T,trivial⟩,⟨qY T,trivial⟩,trivial⟩
theorem qO(hk:7<=k:=by omega):bV P w K mg base (aj w K) k "Commons" "standing" (.q 2 jZ):=wQ T 38 38 hk (ps:=["self","ground"]) JV trivial trivial ⟨⟨uz T,trivial⟩,trivial⟩
theorem QS(hk:5<=k:=by omega):bV P w K mg base (aj w K) k "Grounds" "room" (.q 2 pB):=wQ T 39 39 hk (ps:=["self","ground"]) T6 trivial ⟨T.free 162,trivial⟩ ⟨⟨mO T,trivial⟩,⟨wH T,trivial⟩,trivial⟩
theorem rB(hk:6<=k:=by omega):bV P w K mg base (aj w K) k "Commons" "room" (.q 2 pA):=wQ T 40 40 hk (ps:=["self","ground"]) Tf trivial trivial ⟨⟨QS T,trivial⟩,trivial⟩
theorem Ji(hk:8<=k:=by omega):bV P w K mg base (aj w K) k "Commons" "new_heir" (.g 4 cR):=wG T 41 41 hk (ps:=["self","elder","ground","extra"]) J5 ⟨XF T,abw T,Ru T,Yg T,trivial⟩ trivial ⟨⟨xJ T,trivial⟩,⟨wF T,trivial⟩,⟨rB T,trivial⟩,⟨qO T,trivial⟩,⟨pC T,trivial⟩,⟨iH T,trivial⟩,⟨gH T,trivial⟩,⟨fU T,trivial⟩,trivial⟩
theorem FZ(hk:2<=k:=by omega):bV P w K mg base (aj w K) k "Grounds" "add_ground" (.g 2 eE):=wG T 42 42 hk (ps:=["self","allowance"]) HJ ⟨TY T,HS T,trivial⟩ trivial ⟨⟨v8 T,trivial⟩,trivial⟩
theorem Et(hk:3<=k:=by omega):bV P w K mg base (aj w K) k "Commons" "new_ground" (.g 2 fX):=wG T 43 43 hk (ps:=["self","allowance"]) Hu trivial trivial ⟨⟨FZ T,trivial⟩,trivial⟩
theorem abV(hk:4<=k:=by omega):bf P w K mg base (aj w K) k "barring" (.fq 4 yZ):=vQ T 44 44 hk (ps:=["owner","ear","rows","room"]) adg ⟨Xe T,NQ T,trivial⟩ trivial trivial
theorem Lq(hk:1<=k:=by omega):bf P w K mg base (aj w K) k "joint" (.fq 2 oW):=vQ T 45 45 hk (ps:=["one","other"]) agP trivial ⟨T.free 157,T.free 165,T.free 162,trivial⟩ trivial
theorem QL(hk:5<=k:=by omega):bf P w K mg base (aj w K) k "ask_room" (.fq 4 nM):=vQ T 46 46 hk (ps:=["owner","ear","rows","room"]) aby ⟨aao T (by decide),Lq T,abV T,trivial⟩ trivial trivial
theorem oZ(hk:8<=k:=by omega):bV P w K mg base (aj w K) k "Commons" "ask_ground" (.q 4 fZ):=wQ T 47 47 hk (ps:=["self","owner","ear","ground"]) Hv ⟨QL T,trivial⟩ trivial ⟨⟨rB T,trivial⟩,⟨qO T,trivial⟩,trivial⟩
theorem Yb(hk:1<=k:=by omega):bf P w K mg base (aj w K) k "is_ear" (.fq 1 sG):=vQ T 48 48 hk (ps:=["parts"]) ae5 ⟨vm T,Oj T,trivial⟩ ⟨T.free 170,T.free 159,trivial⟩ trivial
theorem QC(hk:2<=k:=by omega):bf P w K mg base (aj w K) k "need_ear" (.fq 1 pQ):=vQ T 49 49 hk (ps:=["parts"]) abv ⟨adZ T,Yb T,trivial⟩ trivial trivial
theorem M8(hk:9<=k:=by omega):bV P w K mg base (aj w K) k "Commons" "enrol" (.g 4 dN):=wG T 50 50 hk (ps:=["self","owner","ground","mark"]) O5 ⟨Pq T,aik T,Qp T,QC T,trivial⟩ trivial ⟨⟨xJ T,trivial⟩,⟨oZ T,trivial⟩,⟨rE T,trivial⟩,⟨gH T,trivial⟩,⟨fU T,trivial⟩,trivial⟩
theorem RW(hk:2<=k:=by omega):bV P w K mg base (aj w K) k "Rights" "drop" (.g 3 m9):=wG T 51 51 hk (ps:=["self","owner","ground"]) Wi ⟨U5 T,trivial⟩ trivial ⟨⟨rE T,trivial⟩,trivial⟩
theorem Om(hk:4<=k:=by omega):bV P w K mg base (aj w K) k "Commons" "leave" (.g 3 fJ):=wG T 52 52 hk (ps:=["self","owner","ground"]) Qv ⟨XM T,trivial⟩ ⟨T.free 166,trivial⟩ ⟨⟨RW T,trivial⟩,⟨Ds T,trivial⟩,⟨iH T,trivial⟩,⟨gH T,trivial⟩,⟨fU T,trivial⟩,trivial⟩
theorem Am(hk:1<=k:=by omega):bV P w K mg base (aj w K) k "Beast" "stand_so" (.g 2 mD):=wG T 53 53 hk (ps:=["self","stand"]) MP trivial trivial trivial
theorem ahh(hk:1<=k:=by omega):bf P w K mg base (aj w K) k "begun" (.fq 1 Bc):=vQ T 54 54 hk (ps:=["first"]) ag8 ⟨Qp T,trivial⟩ trivial trivial
theorem agD(hk:3<=k:=by omega):bf P w K mg base (aj w K) k "Beast" (.cls 1 sS):=vI T 55 55 105 (ps:=["self","first"]) Xb ⟨ahh T,trivial⟩ trivial ⟨⟨Am T,trivial⟩,trivial⟩ hk
theorem Ai(hk:4<=k:=by omega):bV P w K mg base (aj w K) k "Herd" "add_beast" (.g 2 pW):=wG T 56 56 hk (ps:=["self","first"]) M5 ⟨agD T,trivial⟩ ⟨T.free 159,trivial⟩ trivial
theorem Oi(hk:5<=k:=by omega):bV P w K mg base (aj w K) k "Commons" "bring" (.g 4 fK):=wG T 57 57 hk (ps:=["self","owner","ground","ear"]) O9 ⟨QC T,trivial⟩ trivial ⟨⟨Ai T,trivial⟩,⟨iH T,trivial⟩,⟨gH T,trivial⟩,⟨fU T,trivial⟩,trivial⟩
theorem Ae(hk:1<=k:=by omega):bV P w K mg base (aj w K) k "Herd" "known" (.q 2 j5):=wQ T 58 58 hk (ps:=["self","number"]) XH ⟨U8 T,trivial⟩ ⟨T.free 159,trivial⟩ trivial
theorem uh(hk:2<=k:=by omega):bV P w K mg base (aj w K) k "Herd" "living" (.q 2 qu):=wQ T 59 59 hk (ps:=["self","number"]) VB ⟨acX T,trivial⟩ trivial ⟨⟨Ae T,trivial⟩,trivial⟩
theorem xV(hk:3<=k:=by omega):bV P w K mg base (aj w K) k "Herd" "marked" (.q 2 mY):=wQ T 60 60 hk (ps:=["self","number"]) V1 ⟨Oz T,trivial⟩ trivial ⟨⟨uh T,trivial⟩,trivial⟩
theorem Dd(hk:5<=k:=by omega):bV P w K mg base (aj w K) k "Commons" "bear" (.g 2 iW):=wG T 61 61 hk (ps:=["self","mother"]) Tw trivial trivial ⟨⟨Ai T,trivial⟩,⟨xV T,trivial⟩,trivial⟩
theorem abC(hk:1<=k:=by omega):bf P w K mg base (aj w K) k "deepened" (.fq 2 wC):=vQ T 62 62 hk (ps:=["ear","place"]) aa3 trivial ⟨T.free 157,T.free 169,trivial⟩ trivial
theorem acL(hk:2<=k:=by omega):bf P w K mg base (aj w K) k "gone_on" (.fq 2 zF):=vQ T 63 63 hk (ps:=["stand","event"]) ac7 ⟨abC T,trivial⟩ trivial trivial
theorem jg(hk:3<=k:=by omega):bV P w K mg base (aj w K) k "Beast" "befall" (.g 2 lJ):=wG T 64 64 hk (ps:=["self","event"]) Tg ⟨acL T,trivial⟩ trivial ⟨⟨Am T,trivial⟩,⟨Fe T,trivial⟩,trivial⟩
theorem TX(hk:9<=k:=by omega):bV P w K mg base (aj w K) k "Commons" "cut" (.g 2 jC):=wG T 65 65 hk (ps:=["self","beast"]) V3 ⟨Lq T,trivial⟩ trivial ⟨⟨jg T,trivial⟩,⟨oZ T,trivial⟩,⟨pC T,trivial⟩,⟨uh T,trivial⟩,trivial⟩
theorem Qc(hk:4<=k:=by omega):bV P w K mg base (aj w K) k "Commons" "tear" (.g 3 fj):=wG T 66 66 hk (ps:=["self","beast","place"]) RP ⟨acz T,vm T,acU T,Oj T,trivial⟩ ⟨T.free 159,trivial⟩ ⟨⟨jg T,trivial⟩,⟨uh T,trivial⟩,trivial⟩
theorem Ue(hk:2<=k:=by omega):bV P w K mg base (aj w K) k "Herd" "calves" (.q 2 qp):=wQ T 67 67 hk (ps:=["self","mother"]) Wh trivial trivial ⟨⟨rM T,trivial⟩,⟨Ae T,trivial⟩,trivial⟩
theorem xK(hk:4<=k:=by omega):bV P w K mg base (aj w K) k "Herd" "lead_calves" (.g 2 nY):=wG T 68 68 hk (ps:=["self","mother"]) KN trivial trivial ⟨⟨Ue T,trivial⟩,⟨jg T,trivial⟩,⟨Ae T,trivial⟩,trivial⟩
theorem Pg(hk:7<=k:=by omega):bV P w K mg base (aj w K) k "Commons" "sell" (.g 3 dG):=wG T 69 69 hk (ps:=["self","beast","buyer"]) SJ ⟨QL T,Lq T,Mx T,trivial⟩ trivial ⟨⟨xK T,trivial⟩,⟨jg T,trivial⟩,⟨rB T,trivial⟩,⟨uz T,trivial⟩,⟨pC T,trivial⟩,⟨iH T,trivial⟩,⟨fU T,trivial⟩,⟨xV T,trivial⟩,trivial⟩
theorem Px(hk:9<=k:=by omega):bV P w K mg base (aj w K) k "Commons" "move" (.g 3 dD):=wG T 70 70 hk (ps:=["self","beast","ground"]) T8 ⟨Zk T,trivial⟩ trivial ⟨⟨xK T,trivial⟩,⟨jg T,trivial⟩,⟨oZ T,trivial⟩,⟨iH T,trivial⟩,⟨gH T,trivial⟩,⟨xV T,trivial⟩,trivial⟩
theorem R5(hk:4<=k:=by omega):bV P w K mg base (aj w K) k "Commons" "die" (.g 2 kE):=wG T 71 71 hk (ps:=["self","beast"]) VL trivial trivial ⟨⟨jg T,trivial⟩,⟨uh T,trivial⟩,trivial⟩
theorem abe(hk:4<=k:=by omega):bf P w K mg base (aj w K) k "clashing" (.fq 2 tD):=vQ T 72 72 hk (ps:=["rows","room"]) abl ⟨Xe T,NQ T,trivial⟩ ⟨T.free 169,trivial⟩ trivial
theorem Je(hk:8<=k:=by omega):bV P w K mg base (aj w K) k "Commons" "quarrels" (.q 3 j6):=wQ T 73 73 hk (ps:=["self","ground","other"]) JF ⟨abe T,trivial⟩ ⟨T.free 162,trivial⟩ ⟨⟨qO T,trivial⟩,⟨rB T,trivial⟩,trivial⟩
theorem zH(hk:1<=k:=by omega):bV P w K mg base (aj w K) k "Grounds" "enclose" (.g 2 lg):=wG T 74 74 hk (ps:=["self","grounds"]) Ma trivial ⟨T.free 157,trivial⟩ trivial
theorem N8(hk:5<=k:=by omega):bV P w K mg base (aj w K) k "Grounds" "unite" (.g 3 j7):=wG T 75 75 hk (ps:=["self","ground","other"]) Qy ⟨Q6 T,trivial⟩ ⟨T.free 167,trivial⟩ ⟨⟨zH T,trivial⟩,⟨mO T,trivial⟩,trivial⟩
theorem N6(hk:9<=k:=by omega):bV P w K mg base (aj w K) k "Commons" "unite" (.g 3 fL):=wG T 76 76 hk (ps:=["self","ground","other"]) Qn ⟨aao T (by decide),Lq T,Q6 T,trivial⟩ trivial ⟨⟨N8 T,trivial⟩,⟨Je T,trivial⟩,⟨qY T,trivial⟩,⟨gH T,trivial⟩,trivial⟩
theorem Qg(hk:5<=k:=by omega):bV P w K mg base (aj w K) k "Grounds" "part" (.g 2 iQ):=wG T 77 77 hk (ps:=["self","ground"]) Tt ⟨af3 T,trivial⟩ trivial ⟨⟨zH T,trivial⟩,⟨mO T,trivial⟩,trivial⟩
theorem Qw(hk:6<=k:=by omega):bV P w K mg base (aj w K) k "Commons" "part" (.g 2 jK):=wG T 78 78 hk (ps:=["self","ground"]) S8 trivial trivial ⟨⟨Qg T,trivial⟩,trivial⟩
theorem Jd(hk:1<=k:=by omega):bV P w K mg base (aj w K) k "Rights" "hand_over" (.g 3 nR):=wG T 79 79 hk (ps:=["self","elder","heir"]) Kv trivial trivial trivial
theorem VN(hk:2<=k:=by omega):bV P w K mg base (aj w K) k "Herd" "owned" (.q 2 vU):=wQ T 80 80 hk (ps:=["self","owner"]) Yk trivial trivial ⟨⟨rM T,trivial⟩,trivial⟩
theorem Ko(hk:4<=k:=by omega):bV P w K mg base (aj w K) k "Commons" "pass_on" (.g 3 fD):=wG T 81 81 hk (ps:=["self","elder","heir"]) LQ ⟨Mx T,trivial⟩ trivial ⟨⟨jg T,trivial⟩,⟨VN T,trivial⟩,⟨Jd T,trivial⟩,⟨fU T,trivial⟩,trivial⟩
theorem ZM(hk:2<=k:=by omega):bf P w K mg base (aj w K) k "part_fits" (.fq 2 gY):=vQ T 82 82 hk (ps:=["kind","part"]) ZC ⟨Oj T,QX T,Yb T,trivial⟩ ⟨T.free 171,T.free 172,T.free 159,T.free 157,trivial⟩ trivial
theorem aiC(hk:3<=k:=by omega):bf P w K mg base (aj w K) k "fits" (.fq 1 Fd):=vQ T 83 83 hk (ps:=["deed"]) ahR ⟨ZM T,adX T,trivial⟩ ⟨T.free 170,T.free 165,T.free 159,trivial⟩ trivial
theorem VR(hk:10<=k:=by omega):bV P w K mg base (aj w K) k "Commons" "do" (.g 2 cP):=wG T 84 84 hk (ps:=["self","deed"]) XR ⟨adt T,aiC T,trivial⟩ trivial ⟨⟨Ji T,trivial⟩,⟨Ko T,trivial⟩,⟨Qw T,trivial⟩,⟨N6 T,trivial⟩,⟨R5 T,trivial⟩,⟨Px T,trivial⟩,⟨Pg T,trivial⟩,⟨Qc T,trivial⟩,⟨TX T,trivial⟩,⟨Dd T,trivial⟩,⟨Oi T,trivial⟩,⟨Om T,trivial⟩,⟨M8 T,trivial⟩,⟨Et T,trivial⟩,⟨wF T,trivial⟩,trivial⟩
theorem ajS(hk:11<=k:=by omega):bf P w K mg base (aj w K) k "_law_done" (.fg 3 qJ):=vG T 85 85 hk (ps:=["_law_house","_law_deed_here","_law_counts"]) ajZ ⟨VF T,trivial⟩ trivial ⟨⟨VR T,trivial⟩,trivial⟩
theorem aiU(hk:1<=k:=by omega):bf P w K mg base (aj w K) k "_law_near" (.fq 2 Jl):=vQ T 86 86 hk (ps:=["_law_ear_here","_law_figures"]) ah2 trivial ⟨T.free 157,T.free 165,T.free 162,T.free 163,trivial⟩ trivial
theorem adb(hk:2<=k:=by omega):bf P w K mg base (aj w K) k "_law_mark_by" (.fq 3 vM):=vQ T 87 87 hk (ps:=["_law_figures","_law_mode","_law_base"]) adp ⟨Xg T,aiU T,trivial⟩ trivial trivial
theorem alk(hk:1<=k:=by omega):bf P w K mg base (aj w K) k "_law_ref" (.fq 3 jD):=vQ T 88 88 hk (ps:=["_law_figure","_law_many","_law_sure"]) akS trivial ⟨T.free 162,trivial⟩ trivial
theorem adK(hk:3<=k:=by omega):bf P w K mg base (aj w K) k "_law_deed" (.fq 6 eO):=vQ T 89 89 hk (ps:=["_law_word","_law_one","_law_two","_law_parts","_law_counts","_law_base"]) ajO ⟨alk T,adb T,trivial⟩ ⟨T.free 172,trivial⟩ trivial
theorem ai3(hk:12<=k:=by omega):bf P w K mg base (aj w K) k "_law_play" (.fg 3 Cm):=vG T 90 90 hk (ps:=["_law_house","_law_cells","_law_head"]) ajF ⟨ajS T,adK T,acw T,abr T,ZK T,afD T,trivial⟩ ⟨T.free 160,T.free 169,T.free 159,trivial⟩ trivial
theorem ajI(hk:1<=k:=by omega):bf P w K mg base (aj w K) k "_law_cell" (.fq 2 uM):=vQ T 91 91 hk (ps:=["_law_script","_law_k"]) aj0 trivial ⟨T.free 159,trivial⟩ trivial
theorem agc(hk:4<=k:=by omega):bf P w K mg base (aj w K) k "_law_asked" (.fq 4 jy):=vQ T 92 92 hk (ps:=["_law_word","_law_cell_here","_law_counts","_law_head"]) af6 ⟨adK T,afD T,abr T,trivial⟩ trivial trivial
theorem v_cut(hk:1<=k:=by omega):bf P w K mg base (aj w K) k "_law_cut" (.fq 1 Lz):=vQ T 93 93 hk (ps:=["_law_cell_here"]) ak0 trivial trivial trivial
theorem akP(hk:2<=k:=by omega):bf P w K mg base (aj w K) k "_law_raw" (.fq 3 KQ):=vQ T 94 94 hk (ps:=["_law_value","_law_cell_here","_law_turn"]) akq ⟨v_cut T,trivial⟩ trivial trivial
theorem abk(hk:1<=k:=by omega):bf P w K mg base (aj w K) k "_law_herd_bad" (.fq 3 nJ):=vQ T 95 95 hk (ps:=["_law_stand","_law_beast","_law_cut_here"]) abH trivial ⟨T.free 159,trivial⟩ trivial
theorem akj(hk:2<=k:=by omega):bf P w K mg base (aj w K) k "_law_due" (.fq 2 CN):=vQ T 96 96 hk (ps:=["_law_stand","_law_mother"]) akt ⟨abk T,trivial⟩ ⟨T.free 159,trivial⟩ trivial
theorem ahP(hk:6<=k:=by omega):bf P w K mg base (aj w K) k "_law_tell" (.fg 2 FJ):=vG T 97 97 hk (ps:=["_law_house","_law_mother"]) ahT ⟨U8 T,acX T,Oz T,trivial⟩ trivial ⟨⟨Dd T,trivial⟩,trivial⟩
theorem ahi(hk:1<=k:=by omega):bf P w K mg base (aj w K) k "_law_whole" (.fq 1 Ey):=vQ T 98 98 hk (ps:=["_law_found"]) ahq trivial ⟨T.free 171,T.free 173,T.free 172,trivial⟩ trivial
theorem aiN(hk:12<=k:=by omega):bf P w K mg base (aj w K) k "_law_like" (.fq 2 (kY 10)):=by
 obtain⟨fd,F⟩:=T.c.Vt 99
 have b:=FunD.bindsN (ps:=["_law_found","_law_due_here"]) F fun _ _ _ _ _ _ us hl=>match us,hl with|[_,_],_=>rfl
 have key:∀j:Nat,FnOk P w K mg base (L2.CX P w) (2+j) (He.ga K "_law_like") fd ["_law_found","_law_due_here"] (Vm K (aj w K) 2 (kY j)):=by
  intro j
  induction j with
  |zero=>exact aj8
  |succ j ih'=>
   have ih:∀{k:Nat},2+j<=k->bf P w K mg base (aj w K) k "_law_like" (.fq 2 (kY j)):=fun hk=>aeU hk (T.glo 99) F.kp (b) ih'
   refine Ye (k:=2+j) (Du F) agA ?_ ?_ ?_ (aiZ (kY j))
   ·exact⟨ih (aqz _),ahi T,trivial⟩
   ·exact⟨T.free 165,T.free 159,T.free 171,T.free 158,T.free 157,T.free 174,T.free 172,trivial⟩
   ·exact T.hs trivial
 exact aeU hk (T.glo 99) F.kp (b) (key 10)
theorem alf{fd:FuncData}(F:FunD K "law" "law" (defArgs Lg) (defBody Lg) (defScope Lg) [] [] (He.ga K "law") fd):FnOk P w K mg base (L2.CX P w) 13 (He.ga K "law") fd ["_law_script"] (Iw K (aj w K) 1 OD):=by
 refine Q8 (k:=12) (Du F) aio ?_ ?_ ?_ akU
 ·exact⟨aiN T,ahP T,akj T,akP T,agc T,ajI T,ai3 T,acD T,trivial⟩
 ·exact⟨T.free 161,trivial⟩
 ·exact T.hs ⟨⟨QM T,trivial⟩,trivial⟩
end
def digs(b:Int):Nat->Int->List Int
 |0,_=>[]
 |n+1,c=>c % b::digs b n (c / b)
def Ml(b:Int):Nat->Int->Int->List Int
 |0,_,_=>[]
 |n+1,k,t=>((t * 48271+9973 * k+11) % 2147483647 / 1021 % b)::Ml b n (k+1) ((t * 48271+9973 * k+11) % 2147483647)
def zQ(c:Int):Int:=if c < 0 then -c else c
def rowOf(c:Int)(n:Nat)(b:Int):List Int:=if 10 ^ 18<=zQ c then digs b n (zQ c) else Ml b n 0 ((zQ c % 1000003+17) * 69621 % 2147483647)
theorem Yd(b:Int):∀n c,(digs b n c).length=n
 |0,_=>rfl
 |n+1,c=>by simp[digs,Yd b n]
theorem aap(b:Int):∀n k t,(Ml b n k t).length=n
 |0,_,_=>rfl
 |n+1,k,t=>by simp[Ml,aap b n]
theorem aax{b:Int}(hb:0 < b):∀n c,∀x∈digs b n c,0<=x/\x < b
 |0,_,x,h=>by simp[digs]at h
 |n+1,c,x,h=>by
  rcases aqp.mp h with rfl|h
  ·exact⟨Int.emod_nonneg _ (by omega),Int.emod_lt_of_pos _ hb⟩
  ·exact aax hb n _ x h
theorem ab9{b:Int}(hb:0 < b):∀n k t,∀x∈Ml b n k t,0<=x/\x < b
 |0,_,_,x,h=>by simp[Ml]at h
 |n+1,k,t,x,h=>by
  rcases aqp.mp h with rfl|h
  ·exact⟨Int.emod_nonneg _ (by omega),Int.emod_lt_of_pos _ hb⟩
  ·exact ab9 hb n _ _ x h
@[simp]theorem aaS (c:Int) (n:Nat) (b:Int):(rowOf c n b).length=n:=by
 unfold rowOf
 split
 ·exact Yd ..
 ·exact aap ..
theorem adP{b:Int}(hb:0 < b)(c:Int)(n:Nat):∀x∈rowOf c n b,0<=x/\x < b:=by
 unfold rowOf
 split
 ·exact aax hb _ _
 ·exact ab9 hb _ _ _
@[simp]theorem aaf (M:Mo) (ns:List Int) (k:Nat):uM M [lI ns,.int k]=.ok (.int (ns.getD k 0)):=by
 unfold uM Zj
 by_cases h:k < ns.length
 ·simp[h,atI,ixN]
 ·simp[h]
theorem YD(M:Mo)(b:Int)(hb:0 < b)(hb2:b < 1073741824):∀(n k:Nat) (c:Int) (x1:Option Cell) (acc:List Dat) (x4 x5:Option Cell),acc.length+n < 100000->∃c' x4',iy (aF 4) S7 ((List.range' k n).map fun(i:Nat)=>PyData.int (i:Int)) M [some (.dat (.int c)),x1,some (.dat (.int b)),some (.mut acc),x4,x5]=.next [c',x1,some (.dat (.int b)),some (.mut (acc++(digs b n c).map .int)),x4',x5] M
 |0,k,c,x1,acc,x4,x5,_=>⟨some (.dat (.int c)),x4,by simp[iy,digs]⟩
 |n+1,k,c,x1,acc,x4,x5,hl=>by
  obtain⟨c',x4',ih⟩:=YD M b hb hb2 n (k+1) (c / b) x1 (acc++[.int (c % b)]) (some (.dat (.int k))) x5 (by simp;omega)
  refine⟨c',x4',?_⟩
  have h1:decide (CDiv c b)=true:=decide_eq_true ⟨hb,hb2⟩
  have hl:acc.length < 100000:=by omega
  rw[List.range'_succ,aqd,jX (ρ1:=[some (.dat (.int c)),x1,some (.dat (.int b)),some (.mut acc),some (.dat (.int k)),x5]) (by simp) (ρ2:=[some (.dat (.int (c / b))),x1,some (.dat (.int b)),some (.mut (acc++[.int (c % b)])),some (.dat (.int k)),x5]) (M2:=M) (by simp[S7,h1,hb,hl])]
  rw[ih]
  simp[digs]
theorem aaQ(M:Mo)(b:Int)(hb:0 < b):∀(n k:Nat) (t:Int) (x0 x1:Option Cell) (acc:List Dat) (x4:Option Cell),acc.length+n < 100000->∃x4' x5',iy (aF 4) R3 ((List.range' k n).map fun(i:Nat)=>PyData.int (i:Int)) M [x0,x1,some (.dat (.int b)),some (.mut acc),x4,some (.dat (.int t))]=.next [x0,x1,some (.dat (.int b)),some (.mut (acc++(Ml b n k t).map .int)),x4',x5'] M
 |0,k,t,x0,x1,acc,x4,_=>⟨x4,some (.dat (.int t)),by simp[iy,Ml]⟩
 |n+1,k,t,x0,x1,acc,x4,hl=>by
  obtain⟨x4',x5',ih⟩:=aaQ M b hb n (k+1) ((t * 48271+9973 * k+11) % 2147483647) x0 x1 (acc++[.int ((t * 48271+9973 * k+11) % 2147483647 / 1021 % b)]) (some (.dat (.int k))) (by simp;omega)
  refine⟨x4',x5',?_⟩
  have h1:decide (CMul t 48271)=true:=mul_r (by decide)
  have h2:decide (CMul 9973 (k:Int))=true:=afk (by decide)
  have h3:∀x,decide (CDiv x 1021)=true:=fun x=>decide_eq_true ⟨by decide,by decide⟩
  have hl:acc.length < 100000:=by omega
  rw[List.range'_succ,aqd,jX (ρ1:=[x0,x1,some (.dat (.int b)),some (.mut acc),some (.dat (.int k)),some (.dat (.int t))]) (by simp) (ρ2:=[x0,x1,some (.dat (.int b)),some (.mut (acc++[.int ((t * 48271+9973 * k+11) % 2147483647 / 1021 % b)])),some (.dat (.int k)),some (.dat (.int ((t * 48271+9973 * k+11) % 2147483647)))]) (M2:=M) (by simp[R3,h1,h2,h3,hb,hl])]
  rw[ih]
  simp[Ml]
theorem Qt(n:Nat):ju 0 n=(List.range' 0 n).map fun(i:Nat)=>PyData.int (i:Int):=by
 unfold ju
 rw[List.range_eq_range']
 simp
theorem Xz(M:Mo)(c:Int)(n:Nat)(b:Int)(hb:0 < b)(hb2:b < 1073741824)(hn:n<=1000):uZ M [.int c,.int n,.int b]=.ok (lI (rowOf c n b)):=by
 unfold uZ abh
 have hp:decide (CPow 10 18)=true:=decide_eq_true ⟨by decide,by decide,by decide⟩
 have hn1:(n:Int)<=100000:=by omega
 have hn2 : -100000<=(n:Int):=by omega
 have hm:∀x,decide (CMul x 69621)=true:=fun x=>mul_r (by decide)
 have ea:(if c < 0 then -c else c)=zQ c:=rfl
 by_cases h:10 ^ 18<=zQ c
 ·obtain⟨c',x4',e⟩:=YD M b hb hb2 n 0 (zQ c) (some (.dat (.int n))) [] none none (by simp;omega)
  have e2:rowOf c n b=digs b n (zQ c):=if_pos h
  have h':(1000000000000000000:Int)<=zQ c:=by simpa using h
  simp[hp,ea,h',hn1,hn2,Qt,e,e2]
 ·obtain⟨x4',x5',e⟩:=aaQ M b hb n 0 ((zQ c % 1000003+17) * 69621 % 2147483647) (some (.dat (.int (zQ c)))) (some (.dat (.int n))) [] none (by simp;omega)
  have e2:rowOf c n b=Ml b n 0 ((zQ c % 1000003+17) * 69621 % 2147483647):=if_neg h
  have h':¬(1000000000000000000:Int)<=zQ c:=by simpa using h
  have e':=e
  simp[hp,ea,h',hn1,hn2,hm,Qt]at e ⊢
  rw[e]
  simp[e2]
def Ny(i j:Int):Int:=if j > i then j else i
def yQ(l:List Int)(m:Int):List Int:=if m % 4=1 then l.map fun f=>Ny 0 (f - 7) else if m % 4=2 then l.map fun f=>f % 3 else l
theorem Vl(M:Mo)(l:List Int)(m:Int)(hl:l.length<=1000):rZ M [lI l,.int m]=.ok (aM (yQ l m)):=by
 unfold rZ NZ
 have hl':l.length<=50000:=by omega
 have c1:=gJ (tg:=aF 2) (te:=aA u5 (qC (.int 0)) (aA lW (ao 2) (qC (.int 7)))) (M:=M) (ρ:=[some (.dat (lI l)),some (.dat (.int m)),none]) PyData.int (fun f=>.int (Ny 0 (f - 7))) l fun x _=>⟨_,rfl,by simp[Ny]⟩
 have c2:=gJ (tg:=aF 2) (te:=aA lu (ao 2) (qC (.int 3))) (M:=M) (ρ:=[some (.dat (lI l)),some (.dat (.int m)),none]) PyData.int (fun f=>.int (f % 3)) l fun x _=>⟨_,rfl,by simp⟩
 by_cases h1:m % 4=1
 ·simp[h1,hl',c1,yQ,aqx]
 ·by_cases h2:m % 4=2
  ·simp[h2,hl',c2,yQ,aqx]
  ·simp[h1,h2,yQ]
def Gq(c:Int):List Int:=yQ ((rowOf c 7 10).take 6) ((rowOf c 7 10).getD 6 0)
theorem aeY{α:Type}(l:List α)(n:Nat):Rf.cutD l none (some (n:Int))=l.take n:=by
 unfold Rf.cutD
 rw[HT.sIx_nat]
 simp[HT.sIx]
theorem Ys{α:Type}(l:List α)(n:Nat):Rf.cutD l (some (n:Int)) none=l.drop n:=by
 unfold Rf.cutD
 rw[HT.sIx_nat]
 simp[HT.sIx]
 by_cases h:n<=l.length
 ·rw[Nat.min_eq_left h]
  exact List.take_of_length_le (by simp)
 ·rw[Nat.min_eq_right (by omega),List.drop_eq_nil_of_le (by omega),List.drop_eq_nil_of_le (by omega)]
  simp
theorem Yo(l:List Int)(n:Nat)(h:n < l.length):atI (l.map PyData.int) (n:Int)=some (.int (l.getD n 0)):=atI_nat (by simp[h])
theorem ac6(M:Mo)(c:Int):Gm M [.int c]=.ok (aM (Gq c)):=by
 unfold Gm abf
 have h1:uZ M [.int c,.int 7,.int 10]=.ok (.list ((rowOf c 7 10).map .int)):=Xz M c 7 10 (by decide) (by decide) (by decide)
 have h2:Rf.cutD ((rowOf c 7 10).map PyData.int) none (some 6)=((rowOf c 7 10).take 6).map PyData.int:=by
  rw[show(6:Int)=((6:Nat):Int) from rfl,aeY,List.map_take]
 have h3:atI ((rowOf c 7 10).map PyData.int) 6=some (.int ((rowOf c 7 10).getD 6 0)):=Yo _ 6 (by simp)
 have h4:rZ M [.list (((rowOf c 7 10).take 6).map .int),.int ((rowOf c 7 10).getD 6 0)]=.ok (.tuple ((Gq c).map .int)):=Vl M _ _ (by simp)
 generalize (rowOf c 7 10).getD 6 0=z at h3 h4
 generalize ((rowOf c 7 10).take 6).map PyData.int=y at h2 h4
 simp[h1,h2,h3,h4]
theorem Vx(c:Int):(Gq c).length=6:=by
 unfold Gq yQ
 split
 ·simp
 ·split <;> simp
theorem aeE{l:List Int}{m:Int}(h:∀x∈l,0<=x/\x < 10):∀x∈yQ l m,0<=x/\x < 10:=by
 unfold yQ Ny
 split
 ·intro x hx
  obtain⟨y,hy,rfl⟩:=aqk.mp hx
  have:=h y hy
  split <;> omega
 ·split
  ·intro x hx
   obtain⟨y,hy,rfl⟩:=aqk.mp hx
   have:=h y hy
   omega
  ·exact h
mutual
def lk:Nat->Dat->Bool
 |_,.none=>true
 |_,.bool _=>true
 |_,.int _=>true
 |_,.str _=>true
 |n+1,.list ds=>wN n ds
 |n+1,.tuple ds=>wN n ds
 |0,.list _=>false
 |0,.tuple _=>false
 |_,.dict _=>false
def wN:Nat->List Dat->Bool
 |_,[]=>true
 |n,d::ds=>lk n d&&wN n ds
end
theorem vL{n:Nat}:∀{ds:List Dat},wN n ds=true↔∀d∈ds,lk n d=true
 |[]=>by simp[wN]
 |d::ds=>by simp[wN,vL (ds:=ds)]
@[simp]theorem ae3 (n:Nat) (l:List Int):wN n (l.map PyData.int)=true:=vL.mpr fun d h=>by
 obtain⟨i,_,rfl⟩:=aqk.mp h
 simp[lk]
theorem Uy(M:Mo)(i:Int):Ey M [.int i]=.ok (.bool true):=by
 unfold Ey SN
 simp[yc,zU]
theorem zip_self(ds:List Dat):wI ds ds=ds.map fun d=>.tuple [d,d]:=by
 unfold wI
 rw[List.zipWith_self]
theorem Jr(M:Mo)(r:Mo->List Dat->Out Dat)(x0 x1:Option Cell):∀(ds:List Dat) (x2 x3:Option Cell),(∀d∈ds,r M [d,d]=.ok (.bool true))->∃x2' x3',iy (bL [2,3]) (Oe r) (ds.map fun d=>PyData.tuple [d,d]) M [x0,x1,x2,x3]=.next [x0,x1,x2',x3'] M
 |[],x2,x3,_=>⟨x2,x3,rfl⟩
 |d::ds,x2,x3,h=>by
  obtain⟨x2',x3',ih⟩:=Jr M r x0 x1 ds (some (.dat d)) (some (.dat d)) fun d hd=>h d (aqe _ hd)
  refine⟨x2',x3',?_⟩
  have hd:=h d aqf
  rw[aqd,jX (ρ1:=[x0,x1,some (.dat d),some (.dat d)]) (by simp) (ρ2:=[x0,x1,some (.dat d),some (.dat d)]) (M2:=M) (by simp[Oe,hd])]
  exact ih
theorem T5(M:Mo):∀(n:Nat) (d:Dat),lk n d=true->kY (n+1) M [d,d]=.ok (.bool true):=by
 intro n
 induction n with
 |zero=>
  intro d h
  show mQ 4 (Ew (kY 0)) M [d,d]=_
  unfold Ew
  cases d with
  |none=>simp[oJ]
  |bool b=>cases b <;> simp[oJ]
  |int i=>simp[oJ,yc,zU,Uy]
  |str x=>simp[oJ,yc,zU]
  |list ds=>simp[lk]at h
  |tuple ds=>simp[lk]at h
  |dict kv=>simp[lk]at h
 |succ n ih=>
  intro d h
  show mQ 4 (Ew (kY (n+1))) M [d,d]=_
  unfold Ew
  cases d with
  |none=>simp[oJ]
  |bool b=>cases b <;> simp[oJ]
  |int i=>simp[oJ,yc,zU,Uy]
  |str x=>simp[oJ,yc,zU]
  |list ds=>
   rw[lk,vL]at h
   obtain⟨x2',x3',e⟩:=Jr M (kY (n+1)) (some (.dat (.list ds))) (some (.dat (.list ds))) ds none none fun d hd=>ih d (h d hd)
   simp[oJ,yc,zU,zip_self,e]
  |tuple ds=>
   rw[lk,vL]at h
   obtain⟨x2',x3',e⟩:=Jr M (kY (n+1)) (some (.dat (.tuple ds))) (some (.dat (.tuple ds))) ds none none fun d hd=>ih d (h d hd)
   simp[oJ,yc,zU,zip_self,e]
  |dict kv=>simp[lk]at h
inductive En where
 |torn (p:Nat)|cut (e:List Int)|sold (o:Int) (e:List Int)|moved (g:Int)|followed (o g:Int)|passed (o:Int)|died
def En.dat:En->Dat
 |.torn p=>.tuple [.str "torn",.int p]
 |.cut e=>.tuple [.str "cut",aM e]
 |.sold o e=>.tuple [.str "sold",.int o,aM e]
 |.moved g=>.tuple [.str "moved",.int g]
 |.followed o g=>.tuple [.str "followed",.int o,.int g]
 |.passed o=>.tuple [.str "passed",.int o]
 |.died=>.tuple [.str "died"]
inductive Fi where
 |brought (o g:Int) (e:List Int)|born (m o g:Int)
def Fi.dat:Fi->Dat
 |.brought o g e=>.tuple [.str "brought",.int o,.int g,aM e]
 |.born m o g=>.tuple [.str "born",.int m,.int o,.int g]
structure Sd where
 o:Int
 g:Int
 due:Option (List Int)
 ear:List Int
 al:Bool
def qj:Option (List Int)->Dat
 |none=>.none
 |some e=>aM e
def Sd.dat(s:Sd):Dat:=.tuple [.int s.o,.int s.g,qj s.due,aM s.ear,.bool s.al]
def vW(l:List Int)(p:Nat):List Int:=l.mapIdx fun i x=>if i=p then x+1 else x
def go(s:Sd):En->Sd
 |.torn p=>{ s with ear:=vW s.ear p }
 |.cut e=>{ s with due:=some e,ear:=e }
 |.sold o e=>{ s with o:=o,due:=some e,ear:=e }
 |.moved g=>{ s with g:=g }
 |.followed o g=>{ s with o:=o,g:=g }
 |.passed o=>{ s with o:=o }
 |.died=>{ s with al:=false }
def beg:Fi->Sd
 |.brought o g e=>⟨o,g,none,e,true⟩
 |.born _ o g=>⟨o,g,none,[0,0,0,0,0,0],true⟩
theorem ae1(M:Mo)(f:Fi):Bc M [f.dat]=.ok (beg f).dat:=by
 cases f <;> simp[Bc,Lp,Fi.dat,beg,Sd.dat,qj,jd]
theorem ZP(M:Mo)(l:List Int)(p:Nat)(hl:l.length<=1000):wC M [aM l,.int p]=.ok (aM (vW l p)):=by
 unfold wC Gj
 have c:rC 0 (l.map PyData.int)=(l.mapIdx fun i x=>(i,x)).map fun(q:Nat×Int)=>PyData.tuple [.int q.1,.int q.2]:=by
  unfold rC
  rw[List.mapIdx_eq_mapIdx_iff.mpr (fun i h=>rfl)]
  apply aqC
  intro i
  simp
  cases l[i]? <;> simp
 have c2:=gJ (tg:=bL [2,3]) (te:=Py (bB (aA cH (ao 2) (ao 1))) (aA fH (ao 3) (qC (.int 1))) (aq 3)) (M:=M) (ρ:=[some (.dat (aM l)),some (.dat (.int p)),none,none]) (fun(q:Nat×Int)=>PyData.tuple [.int q.1,.int q.2]) (fun q=>.int (if q.1=p then q.2+1 else q.2)) (l.mapIdx fun i x=>(i,x)) fun x _=>⟨[some (.dat (aM l)),some (.dat (.int p)),some (.dat (.int x.1)),some (.dat (.int x.2))],by simp,by
  by_cases h:x.1=p
  ·simp[h]
  ·have h':¬((x.1:Int)=p):=by omega
   simp[h,h']⟩
 have hl':l.length<=50000:=by omega
 simp[c,c2,hl',vW]
 apply aqC
 intro i
 simp
 cases l[i]? <;> simp
theorem abz(l:List Int)(p:Nat):(vW l p).length=l.length:=by simp[vW]
theorem gone_ok(M:Mo)(s:Sd)(e:En)(hl:s.ear.length<=1000):zF M [s.dat,e.dat]=.ok (go s e).dat:=by
 have h:=fun p=>ZP M s.ear p hl
 cases e <;> simp[zF,Ka,En.dat,go,Sd.dat,qj,h]
abbrev Row3:=Int×Int×List Int
def gD(r:Row3):Dat:=.tuple [.int r.1,.int r.2.1,aM r.2.2]
structure dX where
 fi:Fi
 en:List En
 mo:Int
 sd:Sd
structure aK where
 count:Int
 own:List Int
 al:List Int
 ci:List (List Int)
 held:List Row3
 bs:List dX
structure Lay where
 c:Nat
 g:Nat
 r:Nat
 h:Nat
 bs:List Nat
 fr:List (Nat×Inst)
def aN(L:Lay)(c:aK):Inst:=⟨"Commons",[("owner_count",.dat (.int c.count)),("holders",.dic false (c.own.map fun o=>(.int o,.bool true))),("grounds",.dat (ob L.g)),("rights",.dat (ob L.r)),("herd",.dat (ob L.h))]⟩
def cX(n m:Nat)(c:aK):Inst:=⟨"Grounds",[("allowances",.lst n (c.al.map PyData.int)),("circles",.lst m (c.ci.map aM))]⟩
def mU(c:aK):Inst:=⟨"Rights",[("held",.dic true (c.held.map fun r=>(gD r,.bool true)))]⟩
def dB(n:Nat)(L:Lay):Inst:=⟨"Herd",[("beasts",.lst n (L.bs.map ob))]⟩
def iB(n:Nat)(b:dX):Inst:=⟨"Beast",[("story",.lst n (b.fi.dat::b.en.map En.dat)),("mother",.dat (.int b.mo)),("owner",.dat (.int b.sd.o)),("ground",.dat (.int b.sd.g)),("due",.dat (qj b.sd.due)),("ear",.dat (aM b.sd.ear)),("alive",.dat (.bool b.sd.al))]⟩
structure At(M:Mo)(L:Lay)(c:aK):Prop where
 hc:M[L.c]?=some (aN L c)
 hg:∃n m,M[L.g]?=some (cX n m c)
 hr:M[L.r]?=some (mU c)
 hh:∃n,M[L.h]?=some (dB n L)
 len:L.bs.length=c.bs.length
 hb:∀(i h:Nat) (b:dX),L.bs[i]?=some h->c.bs[i]?=some b->∃n,M[h]?=some (iB n b)
 nd:(L.c::L.g::L.r::L.h::L.bs).Nodup
 fr:∀p∈L.fr,M[p.1]?=some p.2/\p.1∉L.c::L.g::L.r::L.h::L.bs
section
variable{M:Mo}{L:Lay}{c:aK}(a:At M L c)
include a
theorem aah:oY M [ob L.g]=.ok (.int c.al.length):=by
 obtain⟨n,m,hg⟩:=a.hg
 simp[oY,ug,hg,cX]
theorem ajY(g:Int):u6 M [ob L.g,.int g]=.ok (.bool (decide (1<=g/\g<=c.al.length))):=by
 obtain⟨n,m,hg⟩:=a.hg
 have:=aah a
 by_cases h:1<=g <;> simp[u6,Ag,hg,cX,this,dZ,h]
end
@[simp]theorem amm {α:Type} (l:List α) (n:Nat):atI l (n:Int)=l[n]?:=by
 cases h:l[n]? with
 |some a=>exact atI_nat h
 |none=>
  have hl:=List.getElem?_eq_none_iff.mp h
  unfold atI ixN
  rw[if_pos (by omega),if_neg (by omega)]
  rfl
abbrev Vg(c:aK)(x:Int):Prop:=1<=x/\x<=c.al.length
theorem Cd{c:aK}{x:Int}(h:Vg c x):∃k:Nat,k < c.al.length/\x=(k:Int)+1:=⟨(x - 1).toNat,by omega,by omega⟩
structure cY(c:aK):Prop where
 len:c.ci.length=c.al.length
 few:c.al.length<=200
 al:∀x∈c.al,0<=x/\x<=9
 mem:∀(k:Nat) (l:List Int),c.ci[k]?=some l->∀y∈l,Vg c y
 own:∀(k:Nat) (l:List Int),c.ci[k]?=some l->(k:Int)+1∈l
 up:∀(k:Nat) (l:List Int),c.ci[k]?=some l->l.Pairwise (· < ·)
 one:∀(k j:Nat) (l:List Int),c.ci[k]?=some l->(j:Int)+1∈l->c.ci[j]?=some l
def bD(c:aK)(x:Int):List Int:=(c.ci[(x - 1).toNat]?).getD []
def TV(c:aK)(x:Int):Int:=(c.al[(x - 1).toNat]?).getD 0
def ahA:List Int->Int
 |[]=>0
 |n::ns=>DW n ns
def roomOf(c:aK)(x:Int):Int:=ahA ((bD c x).map (TV c))
theorem ada:∀{l:List Int} {lo hi:Int},l.Pairwise (· < ·)->(∀y∈l,lo<=y/\y<=hi)->(l.length:Int)<=max 0 (hi - lo+1)
 |[],_,_,_,_=>by simp;omega
 |x::l,lo,hi,h,hb=>by
  rw[List.pairwise_cons]at h
  have:=ada (lo:=x+1) (hi:=hi) h.2 fun y hy=>⟨by have:=h.1 y hy;omega,(hb y (aqe _ hy)).2⟩
  have:=hb x aqf
  simp
  omega
theorem maxD_ints{l:List Int}(h:l≠[]):maxD (.list (l.map PyData.int))=.ok (.int (ahA l)):=by
 cases l with
 |nil=>exact absurd rfl h
 |cons n ns=>
  show(match intsOf ((n::ns).map PyData.int) with
   |some (n::ns)=>Out.ok (PyData.int (DW n ns))
   |_=>Out.bad)=_
  rw[Az]
  rfl
theorem cY.clen{c:aK}(i:cY c){k:Nat}{l:List Int}(h:c.ci[k]?=some l):l.length<=200:=by
 have:=ada (lo:=1) (hi:=c.al.length) (i.up k l h) fun y hy=>i.mem k l h y hy
 have:=i.few
 omega
section
variable{M:Mo}{L:Lay}{c:aK}(a:At M L c)
include a
theorem vN(x:Int):tY M [ob L.g,.int x]=if Vg c x then .ok .none else .exc ⟨"NoGround",[]⟩:=by
 obtain⟨n,m,hg⟩:=a.hg
 have:=ajY a x
 by_cases h:Vg c x <;> simp[tY,yr,hg,cX,this,xY,h]
theorem Jo(x:Int):jF M [ob L.g,.int x]=if Vg c x then .ok (.int (TV c x)) else .exc ⟨"NoGround",[]⟩:=by
 obtain⟨n,m,hg⟩:=a.hg
 have hn:=vN a x
 by_cases h:Vg c x
 ·obtain⟨k,hk,rfl⟩:=Cd h
  rw[if_pos h]at hn ⊢
  simp[jF,mF,hg,cX,hn,aG,TV,hk]
 ·rw[if_neg h]at hn ⊢
  simp[jF,mF,hg,cX,hn,aG]
theorem uQ(i:cY c)(x:Int):jW M [ob L.g,.int x]=if Vg c x then .ok (lI (bD c x)) else .exc ⟨"NoGround",[]⟩:=by
 obtain⟨n,m,hg⟩:=a.hg
 have hn:=vN a x
 by_cases h:Vg c x
 ·obtain⟨k,hk,rfl⟩:=Cd h
  have hk':k < c.ci.length:=by rw[i.len];exact hk
  rw[if_pos h]at hn ⊢
  simp[jW,ou,hg,cX,hn,aG,bD,hk']
 ·rw[if_neg h]at hn ⊢
  simp[jW,ou,hg,cX,hn,aG]
theorem agR(i:cY c)(x:Int):pB M [ob L.g,.int x]=if Vg c x then .ok (.int (roomOf c x)) else .exc ⟨"NoGround",[]⟩:=by
 obtain⟨n,m,hg⟩:=a.hg
 have hn:=uQ a i x
 by_cases h:Vg c x
 ·rw[if_pos h]at hn ⊢
  obtain⟨k,hk,rfl⟩:=Cd h
  have hk':k < c.ci.length:=by rw[i.len];exact hk
  have hc:c.ci[k]?=some (bD c ((k:Int)+1)):=by simp[bD,hk']
  unfold roomOf
  generalize bD c ((k:Int)+1)=l at hc hn ⊢
  have hl:l.length<=50000:=by have:=i.clen hc;omega
  have hne:l.map (TV c)≠[]:=fun z=>by
   have:=i.own k l hc
   rw[List.map_eq_nil_iff.mp z]at this
   cases this
  have key:=gJ (tg:=aF 2) (te:=aP dJ (ao 0) (ak (aq 2) au)) (M:=M) (ρ:=[some (.dat (ob L.g)),some (.dat (.int ((k:Int)+1))),none]) PyData.int (fun y=>.int (TV c y)) l fun y hy=>⟨[some (.dat (ob L.g)),some (.dat (.int ((k:Int)+1))),some (.dat (.int y))],by simp,by
   have:=Jo a y
   rw[if_pos (i.mem k l hc y hy)]at this
   simp[hg,cX,dJ,this]⟩
  simp[pB,tX,hg,cX,hn,bA,key,hl]
  have:=maxD_ints hne
  rw[aqH]at this
  simp[aqx]at this ⊢
  simp[this]
 ·rw[if_neg h]at hn ⊢
  simp[pB,tX,hg,cX,hn,bA]
end
theorem bF{M:Mo}{h k:Nat}{i j:Inst}(hm:M[h]?=some j):(M.set h i)[k]?=if h=k then some i else M[k]?:=by
 have hl:h < M.length:=(aqb.mp hm).1
 rw[aq0]
 by_cases e:h=k
 ·subst e
  rw[if_pos rfl,if_pos hl,if_pos rfl]
 ·rw[if_neg e,if_neg e]
theorem At.neq{M:Mo}{L:Lay}{c:aK}(a:At M L c):L.c≠L.g/\L.c≠L.r/\L.c≠L.h/\L.g≠L.r/\L.g≠L.h/\L.r≠L.h/\(∀x∈L.bs,L.c≠x/\L.g≠x/\L.r≠x/\L.h≠x)/\L.bs.Nodup:=by
 have nd:=a.nd
 simp only[aqZ,aqp,not_or]at nd
 obtain⟨⟨n1,n2,n3,n4⟩,⟨n5,n6,n7⟩,⟨n8,n9⟩,n10,n11⟩:=nd
 exact⟨n1,n2,n3,n5,n6,n8,fun x hx=>⟨fun z=>n4 (z ▸ hx),fun z=>n7 (z ▸ hx),fun z=>n9 (z ▸ hx),fun z=>n10 (z ▸ hx)⟩,n11⟩
theorem At.frS{M:Mo}{L:Lay}{c:aK}(a:At M L c){h:Nat}{i j:Inst}(hm:M[h]?=some j)(hh:h∈L.c::L.g::L.r::L.h::L.bs):∀p∈L.fr,(M.set h i)[p.1]?=some p.2/\p.1∉L.c::L.g::L.r::L.h::L.bs:=fun p hp=>by
 obtain⟨h1,h2⟩:=a.fr p hp
 refine⟨?_,h2⟩
 rw[bF hm,if_neg (fun(z:h=p.1)=>h2 (z ▸ hh))]
 exact h1
theorem At.setG{M:Mo}{L:Lay}{c:aK}(a:At M L c){al:List Int}{ci:List (List Int)}{n m:Nat}:At (M.set L.g (cX n m { c with al:=al,ci:=ci })) L { c with al:=al,ci:=ci }:=by
 obtain⟨n',m',hg⟩:=a.hg
 obtain⟨e1,e2,e3,e4,e5,e6,e7,e8⟩:=a.neq
 have e1':=Ne.symm e1
 refine⟨?_,⟨n,m,?_⟩,?_,?_,a.len,fun i h b h1 h2=>?_,a.nd,a.frS hg (by simp)⟩
 ·rw[bF hg,if_neg e1']
  exact a.hc
 ·rw[bF hg,if_pos rfl]
 ·rw[bF hg,if_neg e4]
  exact a.hr
 ·rw[bF hg,if_neg e5]
  exact a.hh
 ·rw[bF hg,if_neg (e7 h (aqh h1)).2.1]
  exact a.hb i h b h1 h2
theorem At.adT{M:Mo}{L:Lay}{c:aK}(a:At M L c){held:List Row3}:At (M.set L.r (mU { c with held:=held })) L { c with held:=held }:=by
 obtain⟨e1,e2,e3,e4,e5,e6,e7,e8⟩:=a.neq
 have e2':=Ne.symm e2
 have e4':=Ne.symm e4
 have hr:=a.hr
 refine⟨?_,?_,?_,?_,a.len,fun i h b h1 h2=>?_,a.nd,a.frS hr (by simp)⟩
 ·rw[bF hr,if_neg e2']
  exact a.hc
 ·rw[bF hr,if_neg e4']
  exact a.hg
 ·rw[bF hr,if_pos rfl]
 ·rw[bF hr,if_neg e6]
  exact a.hh
 ·rw[bF hr,if_neg (e7 h (aqh h1)).2.2.1]
  exact a.hb i h b h1 h2
theorem At.setC{M:Mo}{L:Lay}{c:aK}(a:At M L c){n:Int}{own:List Int}:At (M.set L.c (aN L { c with count:=n,own:=own })) L { c with count:=n,own:=own }:=by
 obtain⟨e1,e2,e3,e4,e5,e6,e7,e8⟩:=a.neq
 have hc:=a.hc
 refine⟨?_,?_,?_,?_,a.len,fun i h b h1 h2=>?_,a.nd,a.frS hc (by simp)⟩
 ·rw[bF hc,if_pos rfl]
 ·rw[bF hc,if_neg e1]
  exact a.hg
 ·rw[bF hc,if_neg e2]
  exact a.hr
 ·rw[bF hc,if_neg e3]
  exact a.hh
 ·rw[bF hc,if_neg (e7 h (aqh h1)).1]
  exact a.hb i h b h1 h2
theorem At.setB{M:Mo}{L:Lay}{c:aK}(a:At M L c){k h n:Nat}{b':dX}(hk:L.bs[k]?=some h):At (M.set h (iB n b')) L { c with bs:=c.bs.set k b' }:=by
 obtain⟨e1,e2,e3,e4,e5,e6,e7,e8⟩:=a.neq
 have hl:k < c.bs.length:=by rw[←a.len];exact(aqb.mp hk).1
 obtain⟨n0,hb⟩:=a.hb k h _ hk (aqc hl)
 obtain⟨q1,q2,q3,q4⟩:=e7 h (aqh hk)
 refine⟨?_,?_,?_,?_,by simp[a.len],fun i h2 b h3 h4=>?_,a.nd,a.frS hb (by simp[aqh hk])⟩
 ·rw[bF hb,if_neg (Ne.symm q1)]
  exact a.hc
 ·rw[bF hb,if_neg (Ne.symm q2)]
  exact a.hg
 ·rw[bF hb,if_neg (Ne.symm q3)]
  exact a.hr
 ·rw[bF hb,if_neg (Ne.symm q4)]
  exact a.hh
 ·by_cases e:i=k
  ·subst e
   rw[hk]at h3
   cases h3
   have h4:(c.bs.set i b')[i]?=some b:=h4
   rw[aqr hl]at h4
   cases h4
   exact⟨n,by rw[bF hb,if_pos rfl]⟩
  ·have h4:(c.bs.set k b')[i]?=some b:=h4
   rw[aqi (Ne.symm e)]at h4
   have ne:h≠h2:=fun z=>by
    subst z
    exact e ((List.getElem?_inj (aqb.mp h3).1 e8).mp (h3.trans hk.symm))
   rw[bF hb,if_neg ne]
   exact a.hb i h2 b h3 h4
theorem At.amG{M:Mo}{L:Lay}{c:aK}(a:At M L c){M2:Mo}{h n n2:Nat}{b:dX}(hh:M.length<=h)(hM:∀k,k < M.length->M2[k]?=M[k]?)(hb:M2[h]?=some (iB n b)):At (M2.set L.h (dB n2 { L with bs:=L.bs++[h] })) { L with bs:=L.bs++[h] } { c with bs:=c.bs++[b] }:=by
 obtain⟨e1,e2,e3,e4,e5,e6,e7,e8⟩:=a.neq
 have lt:∀{k:Nat} {i:Inst},M[k]?=some i->k < M.length:=fun z=>(aqb.mp z).1
 obtain⟨n0,m0,hg⟩:=a.hg
 obtain⟨n1,hh1⟩:=a.hh
 have l1:=lt a.hc
 have l2:=lt hg
 have l3:=lt a.hr
 have l4:=lt hh1
 have lb:∀x∈L.bs,x < M.length:=fun x hx=>by
  obtain⟨i,hi,e⟩:=List.mem_iff_getElem.mp hx
  obtain⟨n',z⟩:=a.hb i x _ (by rw[aqc hi,e]) (aqc (by rw[←a.len];exact hi))
  exact lt z
 have g4:M2[L.h]?=some (dB n1 L):=by rw[hM _ l4];exact hh1
 refine⟨?_,⟨n0,m0,?_⟩,?_,⟨n2,?_⟩,by simp[a.len],fun i h2 b2 h3 h4=>?_,?_,fun p hp=>?_⟩
 ·show(M2.set L.h _)[L.c]?=_
  rw[bF g4,if_neg (Ne.symm e3),hM _ l1]
  exact a.hc
 ·show(M2.set L.h _)[L.g]?=_
  rw[bF g4,if_neg (Ne.symm e5),hM _ l2]
  exact hg
 ·show(M2.set L.h _)[L.r]?=_
  rw[bF g4,if_neg (Ne.symm e6),hM _ l3]
  exact a.hr
 ·show(M2.set L.h _)[L.h]?=_
  rw[bF g4,if_pos rfl]
 ·have h3:(L.bs++[h])[i]?=some h2:=h3
  have h4:(c.bs++[b])[i]?=some b2:=h4
  by_cases hi:i < L.bs.length
  ·rw[aql hi]at h3
   rw[aql (by rw[←a.len];exact hi)]at h4
   have m:=aqh h3
   rw[bF g4,if_neg (e7 h2 m).2.2.2,hM _ (lb h2 m)]
   exact a.hb i h2 b2 h3 h4
  ·rw[aqt (by omega)]at h3
   rw[aqt (by rw[←a.len];omega),←a.len]at h4
   have e0:i - L.bs.length=0:=by
    have:=(aqb.mp h3).1
    simp at this
    omega
   rw[e0]at h3 h4
   cases h3
   cases h4
   exact⟨n,by rw[bF g4,if_neg (by omega)];exact hb⟩
 ·have nd:=a.nd
  show(L.c::L.g::L.r::L.h::(L.bs++[h])).Nodup
  have:(L.c::L.g::L.r::L.h::(L.bs++[h]))=(L.c::L.g::L.r::L.h::L.bs)++[h]:=by simp
  rw[this,aqQ]
  refine⟨nd,by simp,fun x hx y hy=>?_⟩
  rw[aqg.mp hy]
  rcases aqp.mp hx with rfl|hx
  ·omega
  rcases aqp.mp hx with rfl|hx
  ·omega
  rcases aqp.mp hx with rfl|hx
  ·omega
  rcases aqp.mp hx with rfl|hx
  ·omega
  have:=lb x hx
  omega
 ·obtain⟨h1,h2⟩:=a.fr p hp
  have hl:=lt h1
  refine⟨?_,?_⟩
  ·show(M2.set L.h _)[p.1]?=_
   rw[bF g4,if_neg (fun(z:L.h=p.1)=>h2 (by simp[←z])),hM _ hl]
   exact h1
  ·show p.1∉L.c::L.g::L.r::L.h::(L.bs++[h])
   intro z
   have:p.1∈(L.c::L.g::L.r::L.h::L.bs)++[h]:=by simpa using z
   rcases aqo.mp this with z|z
   ·exact h2 z
   ·rw[aqg]at z
    omega
section
variable{M:Mo}{L:Lay}{c:aK}(a:At M L c)
include a
theorem V8(i:cY c)(hf:c.al.length < 200)(x:Int):if 0<=x/\x<=9 then ∃M',eE M [ob L.g,.int x]=.ok (.int (c.al.length+1)) M'/\At M' L { c with al:=c.al++[x],ci:=c.ci++[[(c.al.length:Int)+1]] } else eE M [ob L.g,.int x]=.exc ⟨"BadAllowance",[]⟩ M:=by
 obtain⟨n,m,hg⟩:=a.hg
 have hl:∀i,(M.set L.g i)[L.g]?=some i:=fun i=>by rw[bF hg,if_pos rfl]
 by_cases h:0<=x/\x<=9
 ·rw[if_pos h]
  refine⟨_,?_,a.setG (n:=n) (m:=m)⟩
  have h2:c.ci.length < 100000:=by rw[i.len];omega
  have h3:c.al.length < 100000:=by omega
  simp[eE,jw,oY,ug,dZ,hg,cX,hl,h,fY,h2,h3]
  rfl
 ·rw[if_neg h]
  have:decide (0<=x)=true->decide (x<=9)=false:=by simp;omega
  by_cases h0:0<=x
  ·have h9:¬x<=9:=by omega
   simp[eE,jw,fY,h0,h9]
  ·simp[eE,jw,fY,h0]
end
def encl(ci:List (List Int))(l:List Int):List (List Int):=l.foldl (fun s y=>s.set (y - 1).toNat l) ci
theorem yC(l:List Int):∀(k:List Int) (ci:List (List Int)),(k.foldl (fun s y=>s.set (y - 1).toNat l) ci).length=ci.length
 |[],_=>rfl
 |y::k,ci=>by rw[ard,yC l k];simp
@[simp]theorem al7 (n k:Nat):ixN n (k:Int)=if k < n then some k else none:=by
 unfold ixN
 rw[if_pos (by omega)]
 by_cases h:k < n
 ·rw[if_pos (by omega),if_pos h]
  simp
 ·rw[if_neg (by omega),if_neg h]
section
variable{M:Mo}{L:Lay}{c:aK}{n m:Nat}(hg:M[L.g]?=some (cX n m c))
include hg
theorem Uj(l:List Int):∀(k:List Int) (s:List (List Int)) (o:Option Cell),(∀y∈k,1<=y/\y<=s.length)->
  ∃o',iy (aF 3) qR (k.map PyData.int) (M.set L.g (cX n m { c with ci:=s })) [some (.dat (ob L.g)),some (.dat (lI l)),some (.dat (aM l)),o]=.next [some (.dat (ob L.g)),some (.dat (lI l)),some (.dat (aM l)),o'] (M.set L.g (cX n m { c with ci:=k.foldl (fun s y=>s.set (y - 1).toNat l) s }))
 |[],s,o,_=>⟨o,rfl⟩
 |y::k,s,o,h=>by
  have hl:∀i,(M.set L.g i)[L.g]?=some i:=fun i=>by rw[bF hg,if_pos rfl]
  obtain⟨j,hj,rfl⟩:∃j:Nat,j < s.length/\y=(j:Int)+1:=⟨(y - 1).toNat,by have:=h y aqf;omega,by have:=h y aqf;omega⟩
  obtain⟨o',ih⟩:=Uj l k (s.set j l) (some (.dat (.int ((j:Int)+1)))) fun z hz=>by
   have:=h z (aqe _ hz)
   simpa using this
  refine⟨o',?_⟩
  rw[aqd,jX (ρ1:=[some (.dat (ob L.g)),some (.dat (lI l)),some (.dat (aM l)),some (.dat (.int ((j:Int)+1)))]) (M2:=M.set L.g (cX n m { c with ci:=s.set j l })) (ρ2:=[some (.dat (ob L.g)),some (.dat (lI l)),some (.dat (aM l)),some (.dat (.int ((j:Int)+1)))]) (by simp) (by simp[qR,hl,cX,hj,List.map_set]),ih]
  simp
end
theorem X3{M:Mo}{h:Nat}{i:Inst}(e:M[h]?=some i):M.set h i=M:=by
 apply aqC
 intro k
 rw[bF e]
 split
 ·next z=>rw[←z,e]
 ·rfl
section
variable{M:Mo}{L:Lay}{c:aK}(a:At M L c)
include a
theorem Ho(l:List Int)(h:∀y∈l,1<=y/\y<=c.ci.length):∃M',lg M [ob L.g,lI l]=.ok (lI l) M'/\At M' L { c with ci:=encl c.ci l }:=by
 obtain⟨n,m,hg⟩:=a.hg
 obtain⟨o',key⟩:=Uj hg l l c.ci none h
 have e:(cX n m { c with ci:=c.ci })=cX n m c:=rfl
 rw[e,X3 hg]at key
 refine⟨_,?_,a.setG (n:=n) (m:=m) (al:=c.al)⟩
 simp[lg,uD,key,encl]
end
theorem any_ints(y:Int)(l:List Int):((l.map PyData.int).any fun d=>PyData.eqv d (.int y))=decide (y∈l):=by
 induction l with
 |nil=>simp
 |cons x l ih=>
  rw[aqd,aq1,ih,YS]
  by_cases h:x=y
  ·simp[h]
  ·have:¬y=x:=fun z=>h z.symm
   simp[h,this]
theorem Ei(neg:Bool)(y:Int)(l:List Int):inD neg (.int y) (lI l)=.ok (.bool (neg ^^ decide (y∈l))):=by
 show(Out.when (okd 12 (.int y)&&mW 12 (l.map PyData.int)) (.ok ((l.map PyData.int).any fun z=>PyData.eqv z (.int y)))).bind _=_
 rw[any_ints,af8,Ul]
 rfl
section
variable{M:Mo}{L:Lay}{c:aK}(a:At M L c)
include a
theorem abq(i:cY c)(x y:Int)(hx:Vg c x)(hy:Vg c y):if y∈bD c x then j7 M [ob L.g,.int x,.int y]=.exc ⟨"Together",[]⟩ M else
  ∃M',j7 M [ob L.g,.int x,.int y]=.ok (lI (sortI (bD c x++bD c y))) M'/\At M' L { c with ci:=encl c.ci (sortI (bD c x++bD c y)) }:=by
 have t1:=uQ a i x
 have t2:=uQ a i y
 rw[if_pos hx]at t1
 rw[if_pos hy]at t2
 obtain⟨n,m,hg⟩:=a.hg
 have hcx:c.ci[(x - 1).toNat]?=some (bD c x):=by
  obtain⟨k,hk,rfl⟩:=Cd hx
  have hk':k < c.ci.length:=by rw[i.len];exact hk
  simp[bD,hk']
 have hcy:c.ci[(y - 1).toNat]?=some (bD c y):=by
  obtain⟨k,hk,rfl⟩:=Cd hy
  have hk':k < c.ci.length:=by rw[i.len];exact hk
  simp[bD,hk']
 by_cases h:y∈bD c x
 ·rw[if_pos h]
  simp[j7,rG,hg,cX,bA,t1,t2,Ei,h]
 ·rw[if_neg h]
  have hm:∀z∈sortI (bD c x++bD c y),1<=z/\z<=c.ci.length:=fun z hz=>by
   unfold sortI at hz
   rw[List.mem_mergeSort,aqo]at hz
   rw[i.len]
   rcases hz with hz|hz
   ·exact i.mem _ _ hcx z hz
   ·exact i.mem _ _ hcy z hz
  obtain⟨M',h1,h2⟩:=Ho a _ hm
  refine⟨M',?_,h2⟩
  have l1:=i.clen hcx
  have l2:=i.clen hcy
  have hs:Ih (lI (bD c x++bD c y))=.ok (lI (sortI (bD c x++bD c y))):=by
   show(match intsOf ((bD c x++bD c y).map PyData.int) with
    |some l=>Out.ok (PyData.list ((sortI l).map PyData.int))
    |none=>_)=_
   rw[Az]
  have hz:(bD c x).length+(bD c y).length<=100000:=by omega
  have hs:Ih (.list ((bD c x).map PyData.int++(bD c y).map PyData.int))=.ok (lI (sortI (bD c x++bD c y))):=by rw[←aqF];exact hs
  simp[j7,rG,hg,cX,bA,fW,t1,t2,Ei,h,hz,hs,h1]
theorem adR(i:cY c)(x:Int):if Vg c x then(if (bD c x).filter (fun y=>!(y==x))=[] then iQ M [ob L.g,.int x]=.exc ⟨"Alone",[]⟩ M else
  ∃M',iQ M [ob L.g,.int x]=.ok (lI ((bD c x).filter (fun y=>!(y==x)))) M'/\At M' L { c with ci:=encl (encl c.ci [x]) ((bD c x).filter (fun y=>!(y==x))) }) else iQ M [ob L.g,.int x]=.exc ⟨"NoGround",[]⟩ M:=by
 have t1:=uQ a i x
 obtain⟨n,m,hg⟩:=a.hg
 by_cases hx:Vg c x
 ·rw[if_pos hx]at t1 ⊢
  have hcx:c.ci[(x - 1).toNat]?=some (bD c x):=by
   obtain⟨k,hk,rfl⟩:=Cd hx
   have hk':k < c.ci.length:=by rw[i.len];exact hk
   simp[bD,hk']
  have hl:(bD c x).length<=50000:=by have:=i.clen hcx;omega
  have key:=gK (tg:=aF 3) (tt:=bB (aA Ck (ao 3) (ao 1))) (te:=aq 3) (M:=M) (ρ:=[some (.dat (ob L.g)),some (.dat (.int x)),none,none]) PyData.int (fun y=>!(y==x)) PyData.int (bD c x) fun y _=>⟨[some (.dat (ob L.g)),some (.dat (.int x)),none,some (.dat (.int y))],by simp,by simp,fun _=>by simp⟩
  by_cases he:(bD c x).filter (fun y=>!(y==x))=[]
  ·rw[if_pos he]
   rw[he]at key
   simp only[aq8]at key
   simp[iQ,o7,hg,cX,bA,t1,key,hl]
  ·rw[if_neg he]
   generalize hL:(bD c x).filter (fun y=>!(y==x))=left at he key
   have hm:∀z∈left,1<=z/\z<=(encl c.ci [x]).length:=fun z hz=>by
    rw[←hL,aqw]at hz
    unfold encl
    rw[yC,i.len]
    exact i.mem _ _ hcx z hz.1
   obtain⟨M1,h1,a1⟩:=Ho a [x] (fun z hz=>by rw[aqg.mp hz,i.len];exact hx)
   obtain⟨M2,h2,a2⟩:=Ho a1 left hm
   refine⟨M2,?_,a2⟩
   obtain⟨n1,m1,hg1⟩:=a1.hg
   have h1:lg M [ob L.g,.list [.int x]]=.ok (.list [.int x]) M1:=h1
   have he':left.isEmpty=false:=by cases left with
    |nil=>exact absurd rfl he
    |cons _ _=>rfl
   simp[iQ,o7,hg,hg1,cX,bA,fW,t1,key,hl,h1,h2,he']
 ·rw[if_neg hx]at t1 ⊢
  simp[iQ,o7,hg,cX,bA,t1]
end
theorem agL(o g:Int)(m:List Int)(o' g':Int)(m':List Int):PyData.eqv (gD (o,g,m)) (gD (o',g',m'))=decide ((o,g,m)=(o',g',m')):=by
 simp only[gD,Xl,aaK,YS,yG,agT,Bool.and_true]
 by_cases h1:o=o' <;> by_cases h2:g=g' <;> by_cases h3:m=m' <;> simp[h1,h2,h3]
theorem ab3(r s:Row3):PyData.eqv (gD r) (gD s)=decide (r=s):=agL _ _ _ _ _ _
theorem Uv:∀l:List Int,v7 (l.map PyData.int)=some (l.map NestedKey.num)
 |[]=>rfl
 |i::l=>by rw[aqd,v7,Uv l];rfl
theorem aiv(r:Row3):rN (gD r)=some (.tup [.num r.1,.num r.2.1,.tup (r.2.2.map .num)]):=by
 simp[gD,rN,v7,Uv]
theorem depth_ints:∀l:List Int,NestedKey.depthAll (l.map NestedKey.num)<=1
 |[]=>by simp[NestedKey.depthAll]
 |i::l=>by
  have:=depth_ints l
  simp[NestedKey.depthAll,NestedKey.depth]
  omega
theorem Rv(kvs:List (Dat×Dat))(r:Row3):dhas true kvs (gD r)=.ok (kvs.any fun p=>PyData.eqv p.1 (gD r)):=by
 have hk:=aiv r
 have hd:NestedKey.depth (.tup [.num r.1,.num r.2.1,.tup (r.2.2.map .num)])<=8:=by
  have:=depth_ints r.2.2
  simp[NestedKey.depth,NestedKey.depthAll]
  omega
 show(match rN (gD r) with
  |some k=>match decide (k.depth<=8) with
   |true=>Out.ok (kvs.any fun p=>PyData.eqv p.1 (gD r))
   |false=>.bad
  |none=>.bad)=_
 rw[hk]
 show(match decide (NestedKey.depth (.tup [.num r.1,.num r.2.1,.tup (r.2.2.map .num)])<=8) with
   |true=>Out.ok (kvs.any fun p=>PyData.eqv p.1 (gD r))
   |false=>.bad)=_
 rw[decide_eq_true hd]
theorem Yq(held:List Row3)(r:Row3):((held.map fun r=>(gD r,PyData.bool true)).any fun p=>PyData.eqv p.1 (gD r))=decide (r∈held):=by
 induction held with
 |nil=>simp
 |cons s held ih=>
  rw[aqd,aq1,ih,ab3]
  by_cases h:s=r
  ·simp[h]
  ·have:¬r=s:=fun z=>h z.symm
   simp[h,this]
def bM(c:aK)(o g:Int):List (List Int):=(c.held.filter fun r=>(r.1==o)&&(r.2.1==g)).map fun r=>r.2.2
section
variable{M:Mo}{L:Lay}{c:aK}(a:At M L c)(few:c.held.length<=50000)
include a few
theorem Gz(o g:Int):tO M [ob L.r,.int o,.int g]=.ok (.list ((bM c o g).map aM)):=by
 have hr:=a.hr
 have key:=gK (tg:=bL [3,4,5]) (tt:=mK (bB (aA cH (ao 3) (ao 1))) (bB (aA cH (ao 4) (ao 2)))) (te:=aq 5) (M:=M) (ρ:=[some (.dat (ob L.r)),some (.dat (.int o)),some (.dat (.int g)),none,none,none]) gD (fun r=>(r.1==o)&&(r.2.1==g)) (fun r=>aM r.2.2) c.held fun r _=>⟨[some (.dat (ob L.r)),some (.dat (.int o)),some (.dat (.int g)),some (.dat (.int r.1)),some (.dat (.int r.2.1)),some (.dat (aM r.2.2))],by simp[gD],by
  by_cases h:r.1=o <;> simp[h],fun _=>by simp⟩
 have e:(c.held.map fun r=>(gD r,PyData.bool true)).map (·.1)=c.held.map gD:=by simp
 simp[tO,xZ,hr,mU,bM]
 simp[aqx,key,few]
theorem Xw(o g:Int):oH M [ob L.r,.int o,.int g]=.ok (.bool (decide (bM c o g≠[]))):=by
 have hr:=a.hr
 have h:=Gz a few o g
 simp[oH,rO,hr,mU,cI,h,List.length_pos_iff]
theorem VG(near:List Int):mJ M [ob L.r,lI near]=.ok (.list ((c.held.filter fun r=>decide (r.2.1∈near)).map fun r=>Ear.rD (r.1,r.2.2))):=by
 have hr:=a.hr
 have key:=gK (tg:=bL [2,3,4]) (tt:=bB (aA (inD false) (ao 3) (ao 1))) (te:=bx (ak (aq 2) (ak (aq 4) au))) (M:=M) (ρ:=[some (.dat (ob L.r)),some (.dat (lI near)),none,none,none]) gD (fun r=>decide (r.2.1∈near)) (fun r=>Ear.rD (r.1,r.2.2)) c.held fun r _=>⟨[some (.dat (ob L.r)),some (.dat (lI near)),some (.dat (.int r.1)),some (.dat (.int r.2.1)),some (.dat (aM r.2.2))],by simp[gD],by simp[Ei],fun _=>by simp[Ear.rD,Ear.dT]⟩
 simp[mJ,qW,hr,mU]
 simp[aqx,key,few]
theorem Z0:oM M [ob L.r]=.ok (.list (c.held.map gD)):=by
 have hr:=a.hr
 simp[oM,uJ,hr,mU,aqx]
theorem KD(o g:Int)(m:List Int):if (o,g,m)∈c.held then iI M [ob L.r,.int o,.int g,aM m]=.exc ⟨"HasRight",[]⟩ M else
  ∃M',iI M [ob L.r,.int o,.int g,aM m]=.ok .none M'/\At M' L { c with held:=c.held++[(o,g,m)] }:=by
 have hr:=a.hr
 have h1:=Rv (c.held.map fun r=>(gD r,PyData.bool true)) (o,g,m)
 rw[Yq]at h1
 simp only[gD]at h1
 have f2:c.held.length < 100000:=by omega
 by_cases h:(o,g,m)∈c.held
 ·rw[if_pos h]
  simp[h]at h1
  simp[iI,oG,hr,mU,gD,h1]
 ·rw[if_neg h]
  refine⟨_,?_,a.adT⟩
  simp[h]at h1
  simp[iI,oG,hr,mU,gD,h1,f2]
end
theorem acI(held:List Row3)(r:Row3):((held.map fun r=>(gD r,PyData.bool true)).filter fun p=>!PyData.eqv p.1 (gD r))=(held.filter fun s=>decide (s≠r)).map fun r=>(gD r,PyData.bool true):=by
 induction held with
 |nil=>rfl
 |cons s held ih=>
  simp only[aqd,aqU,ab3,ih]
  by_cases h:s=r <;> simp[h]
def Wm(o g:Int)(k:List (List Int))(s:List Row3):List Row3:=k.foldl (fun s mk=>s.filter fun r=>decide (r≠(o,g,mk))) s
section
variable{M:Mo}{L:Lay}{c:aK}(hr:M[L.r]?=some (mU c))
include hr
theorem Vq(o g:Int)(all:List (List Int)):∀(k:List (List Int)) (s:List Row3) (x:Option Cell),k.Nodup->(∀mk∈k,(o,g,mk)∈s)->s.length<=50000->
  ∃x',iy (aF 4) wD (k.map aM) (M.set L.r (mU { c with held:=s })) [some (.dat (ob L.r)),some (.dat (.int o)),some (.dat (.int g)),some (.dat (.list (all.map aM))),x]=.next [some (.dat (ob L.r)),some (.dat (.int o)),some (.dat (.int g)),some (.dat (.list (all.map aM))),x'] (M.set L.r (mU { c with held:=Wm o g k s }))
 |[],s,x,_,_,_=>⟨x,rfl⟩
 |mk::k,s,x,nd,h,hf=>by
  have hl:∀i,(M.set L.r i)[L.r]?=some i:=fun i=>by rw[bF hr,if_pos rfl]
  rw[aqZ]at nd
  have h1:=Rv (s.map fun r=>(gD r,PyData.bool true)) (o,g,mk)
  rw[Yq,decide_eq_true (h mk aqf)]at h1
  have h2:=acI s (o,g,mk)
  have f2:s.length<=100000:=by omega
  obtain⟨x',ih⟩:=Vq o g all k (s.filter fun r=>decide (r≠(o,g,mk))) (some (.dat (aM mk))) nd.2 (fun z hz=>by
   rw[aqw]
   refine⟨h z (aqe _ hz),decide_eq_true fun e=>?_⟩
   have:z=mk:=by simpa using e
   exact nd.1 (this ▸ hz)) (aqB (aqq _ _) hf)
  refine⟨x',?_⟩
  rw[aqd,jX (ρ1:=[some (.dat (ob L.r)),some (.dat (.int o)),some (.dat (.int g)),some (.dat (.list (all.map aM))),some (.dat (aM mk))]) (M2:=M.set L.r (mU { c with held:=s.filter fun r=>decide (r≠(o,g,mk)) })) (ρ2:=[some (.dat (ob L.r)),some (.dat (.int o)),some (.dat (.int g)),some (.dat (.list (all.map aM))),some (.dat (aM mk))]) (by simp) ?_,ih]
  ·rfl
  ·have h1':dhas true (s.map fun r=>(gD r,PyData.bool true)) (.tuple [.int o,.int g,aM mk])=.ok true:=h1
   have h2':((s.map fun r=>(gD r,PyData.bool true)).filter fun p=>!PyData.eqv p.1 (.tuple [.int o,.int g,aM mk]))=(s.filter fun s=>decide (s≠(o,g,mk))).map fun r=>(gD r,PyData.bool true):=h2
   simp[wD,hl,mU,h1',f2]
   rw[h2']
   simp
end
theorem Yr(o g:Int):∀(k:List (List Int)) (s:List Row3),Wm o g k s=s.filter fun r=>decide (∀mk∈k,r≠(o,g,mk))
 |[],s=>(ara.mpr (by simp)).symm
 |mk::k,s=>by
  show Wm o g k (s.filter _)=_
  rw[Yr o g k,arf]
  congr 1
  funext r
  by_cases h1:r=(o,g,mk) <;> simp[h1]
def dropped(c:aK)(o g:Int):List Row3:=c.held.filter fun r=>!((r.1==o)&&(r.2.1==g))
theorem abu(c:aK)(o g:Int):Wm o g (bM c o g) c.held=dropped c o g:=by
 rw[Yr]
 unfold dropped
 refine List.filter_congr fun r hr=>?_
 obtain⟨x,y,z⟩:=r
 by_cases h:x=o/\y=g
 ·obtain⟨rfl,rfl⟩:=h
  have:z∈bM c x y:=by
   unfold bM
   rw[aqk]
   exact⟨(x,y,z),by rw[aqw];exact⟨hr,by simp⟩,rfl⟩
  simp
  exact this
 ·have e:(!((x==o)&&(y==g)))=true:=by
   by_cases h1:x=o <;> by_cases h2:y=g <;> simp_all
  have e2:∀mk∈bM c o g,(x,y,z)≠(o,g,mk):=fun mk _ z=>by
   simp at z
   exact h ⟨z.1,z.2.1⟩
  rw[e,decide_eq_true e2]
theorem Zy{c:aK}(h:c.held.Nodup)(o g:Int):(bM c o g).Nodup:=by
 unfold bM
 have h1:(c.held.filter fun r=>(r.1==o)&&(r.2.1==g)).Nodup:=h.filter _
 unfold List.Nodup at h1 ⊢
 rw[List.pairwise_map]
 refine List.Pairwise.imp_of_mem (fun {r s} hr hs ne e=>ne ?_) h1
 rw[aqw]at hr hs
 obtain⟨r1,r2,r3⟩:=r
 obtain⟨s1,s2,s3⟩:=s
 have:=hr.2
 have:=hs.2
 simp at *
 obtain⟨rfl,rfl⟩:=hr.2
 obtain⟨rfl,rfl⟩:=hs.2
 exact⟨rfl,rfl,e⟩
section
variable{M:Mo}{L:Lay}{c:aK}(a:At M L c)(few:c.held.length<=50000)(nd:c.held.Nodup)
include a few nd
theorem af9(o g:Int):if bM c o g=[] then m9 M [ob L.r,.int o,.int g]=.exc ⟨"NoRight",[]⟩ M else
  ∃M',m9 M [ob L.r,.int o,.int g]=.ok (.list ((bM c o g).map aM)) M'/\At M' L { c with held:=dropped c o g }:=by
 have hr:=a.hr
 have h1:=Gz a few o g
 by_cases h:bM c o g=[]
 ·rw[if_pos h]
  rw[h]at h1
  simp[m9,uY,hr,mU,cI,h1]
 ·rw[if_neg h]
  obtain⟨x',key⟩:=Vq hr o g (bM c o g) (bM c o g) c.held none (Zy nd o g) (fun mk hm=>by
   unfold bM at hm
   rw[aqk]at hm
   obtain⟨⟨r1,r2,r3⟩,h3,rfl⟩:=hm
   rw[aqw]at h3
   have:=h3.2
   simp at this
   obtain⟨rfl,rfl⟩:=this
   exact h3.1) few
  have e:(mU { c with held:=c.held })=mU c:=rfl
  rw[e,X3 hr,abu]at key
  refine⟨_,?_,a.adT⟩
  have he:(bM c o g).isEmpty=false:=by
   cases hm:bM c o g with
   |nil=>exact absurd hm h
   |cons _ _=>rfl
  simp[m9,uY,hr,mU,cI,h1,he]
  simp[key]
  rfl
end
def DP(acc:List Row3)(r:Row3):List Row3:=if r∈acc then acc else acc++[r]
def Ay(e h:Int)(r:Row3):Row3:=(if r.1=e then h else r.1,r.2.1,r.2.2)
def handed(c:aK)(e h:Int):List Row3:=(c.held.map (Ay e h)).foldl DP []
theorem aam{tg:fB}{tk:QF}{M:Mo}{ρ:Rf.Env}(f:Row3->Row3):∀(xs acc:List Row3),(∀x∈xs,∃ρ1,tg (gD x) ρ=some ρ1/\tk M ρ1=.ok (gD (f x)))->Dm tg tk M ρ (xs.map gD) (acc.map fun r=>(gD r,PyData.bool true))=.ok (((xs.map f).foldl DP acc).map fun r=>(gD r,PyData.bool true))
 |[],acc,_=>rfl
 |x::xs,acc,h=>by
  obtain⟨ρ1,h1,h2⟩:=h x aqf
  rw[aqd,Dm,h1]
  show((w6 (tk M ρ1)).bind fun kd=>(dhas true _ kd).bind fun r=>_)=_
  rw[h2,Zg,Out.yj,Rv,Yq,Out.yj,aqd,ard]
  have ih:=aam f xs (DP acc (f x)) fun y hy=>h y (aqe _ hy)
  unfold DP at ih ⊢
  by_cases hm:f x∈acc
  ·rw[if_pos hm]at ih ⊢
   rw[decide_eq_true hm]
   exact ih
  ·rw[if_neg hm]at ih ⊢
   rw[decide_eq_false hm]
   rw[aqF]at ih
   exact ih
section
variable{M:Mo}{L:Lay}{c:aK}(a:At M L c)(few:c.held.length<=50000)
include a few
theorem YF(e h:Int):∃M',nR M [ob L.r,.int e,.int h]=.ok .none M'/\At M' L { c with held:=handed c e h }:=by
 have hr:=a.hr
 have hl:L.r < M.length:=(aqb.mp hr).1
 have hr2:(M++[(⟨"",[]⟩:Inst)])[L.r]?=some (mU c):=by rw[aql hl];exact hr
 have key:=aam (tg:=bL [3,4,5]) (tk:=bx (ak (Py (bB (aA cH (ao 3) (ao 1))) (aq 2) (aq 3)) (ak (aq 4) (ak (aq 5) au)))) (M:=M) (ρ:=[some (.dat (ob L.r)),some (.dat (.int e)),some (.dat (.int h)),none,none,none]) (Ay e h) c.held [] fun r _=>⟨[some (.dat (ob L.r)),some (.dat (.int e)),some (.dat (.int h)),some (.dat (.int r.1)),some (.dat (.int r.2.1)),some (.dat (aM r.2.2))],by simp[gD],by
  by_cases z:r.1=e <;> simp[z,Ay,gD]⟩
 have ex:At (M++[⟨"",[]⟩]) L c:=by
  have lt:∀{k:Nat} {i:Inst},M[k]?=some i->(M++[(⟨"",[]⟩:Inst)])[k]?=some i:=fun z=>by rw[aql (aqb.mp z).1];exact z
  obtain⟨n,m,hg⟩:=a.hg
  obtain⟨n1,hh⟩:=a.hh
  exact⟨lt a.hc,⟨n,m,lt hg⟩,lt a.hr,⟨n1,lt hh⟩,a.len,fun i h b h1 h2=>by
   obtain⟨n2,z⟩:=a.hb i h b h1 h2
   exact⟨n2,lt z⟩,a.nd,fun p hp=>⟨lt (a.fr p hp).1,(a.fr p hp).2⟩⟩
 refine⟨_,?_,ex.adT⟩
 simp only[aq8]at key
 simp[nR,sW,hr,hr2,mU,jN]
 simp[aqx,key,few,handed]
end
@[simp]theorem aox (n:Nat) (b:dX):(iB n b).cls="Beast":=rfl
theorem Zx{M:Mo}{h n:Nat}{b:dX}(hb:M[h]?=some (iB n b))(s:Sd):mD M [ob h,s.dat]=.ok .none (M.set h (iB n { b with sd:=s })):=by
 have hl:∀i,(M.set h i)[h]?=some i:=fun i=>by rw[bF hb,if_pos rfl]
 simp[mD,qb,Sd.dat,hb,iB,hl,jN]
theorem Yw{M:Mo}{h n:Nat}{b:dX}(hb:M[h]?=some (iB n b)):vh M [ob h]=.ok b.sd.dat:=by
 simp[vh,Aa,Sd.dat,hb,iB]
theorem sU{M:Mo}{h n:Nat}{b:dX}(hb:M[h]?=some (iB n b))(e:En)(he:b.sd.ear.length<=1000)(hf:b.en.length<=50000):lJ M [ob h,e.dat]=.ok .none (M.set h (iB n { b with en:=b.en++[e],sd:=go b.sd e })):=by
 have hl:∀i,(M.set h i)[h]?=some i:=fun i=>by rw[bF hb,if_pos rfl]
 have h1:(M.set h (iB n { b with en:=b.en++[e] }))[h]?=some (iB n { b with en:=b.en++[e] }):=hl _
 have h2:=Yw h1
 have h3:=gone_ok (M.set h (iB n { b with en:=b.en++[e] })) b.sd e he
 have h4:=Zx h1 (go b.sd e)
 have h5:b.en.length+1 < 100000:=by omega
 have e1:M.set h ⟨"Beast",[("story",.lst n (b.fi.dat::(b.en.map En.dat++[e.dat]))),("mother",.dat (.int b.mo)),("owner",.dat (.int b.sd.o)),("ground",.dat (.int b.sd.g)),("due",.dat (qj b.sd.due)),("ear",.dat (aM b.sd.ear)),("alive",.dat (.bool b.sd.al))]⟩=M.set h (iB n { b with en:=b.en++[e] }):=by simp[iB]
 simp[lJ,yd,hb,iB,h5]
 rw[e1]
 simp[h1,lM,jB,h2,h3,h4]
 simp[iB]
def aeb:Fi->Int
 |.born m _ _=>m
 |_=>0
def Ad(f:Fi):dX:=⟨f,[],aeb f,beg f⟩
theorem afL(M:Mo)(f:Fi):sS (M++[⟨"Beast",[]⟩]) [ob M.length,f.dat]=.ok .none (M++[iB (M.length+1) (Ad f),⟨"",[]⟩]):=by
 have hbeg:=fun M=>ae1 M f
 have hg:∀i (r:List Inst),(M++i::r)[M.length]?=some i:=fun i r=>by simp
 have hs:∀i j (r:List Inst),(M++i::r).set M.length j=M++j::r:=fun i j r=>by simp
 cases f <;> simp[sS,BX,Fi.dat,hg,hs,jN,mD,qb,jB,Bc,Lp,jd,iB,Ad,aeb,beg,qj,Fi.dat]
def bW(L:Lay)(c:aK):List (Nat×Nat×dX):=(L.bs.zip c.bs).mapIdx fun i p=>(i,p.1,p.2)
def nb(x:Nat×Nat×dX):Dat:=.tuple [.int ((x.1:Int)+1),ob x.2.1]
theorem Dh{L:Lay}{c:aK}{x:Nat×Nat×dX}(h:x∈bW L c):L.bs[x.1]?=some x.2.1/\c.bs[x.1]?=some x.2.2:=by
 unfold bW at h
 obtain⟨i,hi,e⟩:=List.mem_mapIdx.mp h
 have hz:=aqc hi
 rw[aqX]at hz
 subst e
 exact hz
theorem At.hb'{M:Mo}{L:Lay}{c:aK}(a:At M L c){x:Nat×Nat×dX}(h:x∈bW L c):∃n,M[x.2.1]?=some (iB n x.2.2):=by
 obtain⟨h1,h2⟩:=Dh h
 exact a.hb _ _ _ h1 h2
theorem At.len'{M:Mo}{L:Lay}{c:aK}(a:At M L c):(bW L c).length=c.bs.length:=by
 unfold bW
 simp[a.len]
theorem At.enum{M:Mo}{L:Lay}{c:aK}(a:At M L c):rC 1 (L.bs.map ob)=(bW L c).map nb:=by
 unfold rC bW
 apply aqC
 intro i
 simp only[aqY,aqm]
 by_cases hi:i < L.bs.length
 ·have hi2:i < c.bs.length:=by rw[←a.len];exact hi
  have hz:(L.bs.zip c.bs)[i]?=some (L.bs[i],c.bs[i]):=by
   rw[aqX]
   exact⟨aqc hi,aqc hi2⟩
  rw[hz]
  simp[hi,nb,Int.add_comm]
 ·have hi2:¬i < c.bs.length:=by rw[←a.len];exact hi
  have:(L.bs.zip c.bs)[i]?=none:=by
   rw[List.getElem?_eq_none_iff,List.length_zip]
   omega
  simp[aqD (by omega:L.bs.length<=i),this]
section
variable{M:Mo}{L:Lay}{c:aK}(a:At M L c)(few:c.bs.length<=50000)
include a few
theorem zW:oN M [ob L.h]=.ok (.list (((bW L c).filter fun x=>x.2.2.sd.al).map nb)):=by
 obtain⟨n,hh⟩:=a.hh
 have hl:=a.len'
 have he:=a.enum
 have key:=gK (tg:=bL [1,2]) (tt:=iY (bH "alive" (ao 2))) (te:=bx (ak (aq 1) (ak (aq 2) au))) (M:=M) (ρ:=[some (.dat (ob L.h)),none,none]) nb (fun x=>x.2.2.sd.al) nb (bW L c) fun x hx=>⟨[some (.dat (ob L.h)),some (.dat (.int ((x.1:Int)+1))),some (.dat (ob x.2.1))],by simp[nb],by
  obtain⟨n,hb⟩:=a.hb' hx
  simp[hb,iB],fun _=>by simp[nb]⟩
 simp[oN,uE,hh,dB]
 rw[he]
 simp[key,hl,few]
theorem Ox(near:List Int):o9 M [ob L.h,lI near]=.ok (.list (((bW L c).filter fun x=>decide (x.2.2.sd.g∈near)&&x.2.2.sd.al).map nb)):=by
 obtain⟨n,hh⟩:=a.hh
 have h1:=zW a few
 have hl:((bW L c).filter fun x=>x.2.2.sd.al).length<=50000:=aqB (aqq _ _) (by rw[a.len'];exact few)
 have key:=gK (tg:=bL [2,3]) (tt:=bB (aA (inD false) (bH "ground" (ao 3)) (ao 1))) (te:=bx (ak (aq 2) (ak (aq 3) au))) (M:=M) (ρ:=[some (.dat (ob L.h)),some (.dat (lI near)),none,none]) nb (fun x=>decide (x.2.2.sd.g∈near)) nb ((bW L c).filter fun x=>x.2.2.sd.al) fun x hx=>⟨[some (.dat (ob L.h)),some (.dat (lI near)),some (.dat (.int ((x.1:Int)+1))),some (.dat (ob x.2.1))],by simp[nb],by
  obtain⟨n,hb⟩:=a.hb' (aqw.mp hx).1
  simp[hb,iB,Ei],fun _=>by simp[nb]⟩
 rw[arf]at key
 simp[o9,yt,hh,dB,dR,h1,key,hl]
theorem aeT(o:Int):vU M [ob L.h,.int o]=.ok (.list (((bW L c).filter fun x=>(x.2.2.sd.o==o)&&x.2.2.sd.al).map nb)):=by
 obtain⟨n,hh⟩:=a.hh
 have h1:=zW a few
 have hl:((bW L c).filter fun x=>x.2.2.sd.al).length<=50000:=aqB (aqq _ _) (by rw[a.len'];exact few)
 have key:=gK (tg:=bL [2,3]) (tt:=bB (aA cH (bH "owner" (ao 3)) (ao 1))) (te:=bx (ak (aq 2) (ak (aq 3) au))) (M:=M) (ρ:=[some (.dat (ob L.h)),some (.dat (.int o)),none,none]) nb (fun x=>x.2.2.sd.o==o) nb ((bW L c).filter fun x=>x.2.2.sd.al) fun x hx=>⟨[some (.dat (ob L.h)),some (.dat (.int o)),some (.dat (.int ((x.1:Int)+1))),some (.dat (ob x.2.1))],by simp[nb],by
  obtain⟨n,hb⟩:=a.hb' (aqw.mp hx).1
  simp[hb,iB],fun _=>by simp[nb]⟩
 rw[arf]at key
 simp[vU,Bt,hh,dB,dR,h1,key,hl]
theorem XC(k:Int):j5 M [ob L.h,.int k]=if 1<=k/\k<=c.bs.length then .ok (ob ((L.bs[(k - 1).toNat]?).getD 0)) else .exc ⟨"NoBeast",[]⟩:=by
 obtain⟨n,hh⟩:=a.hh
 have hlen:(L.bs.length:Int)=c.bs.length:=by rw[a.len]
 by_cases h:1<=k/\k<=c.bs.length
 ·rw[if_pos h]
  obtain⟨j,rfl⟩:∃j:Nat,k=(j:Int)+1:=⟨(k - 1).toNat,by omega⟩
  have hj:j < L.bs.length:=by have:=a.len;omega
  have h1:(1:Int)<=j+1:=by omega
  have h2:(j:Int)+1<=L.bs.length:=by omega
  simp[j5,rP,hh,dB,h1,h2,hj]
 ·rw[if_neg h]
  by_cases h1:1<=k
  ·have h2:¬k<=L.bs.length:=by omega
   simp[j5,rP,hh,dB,h1,h2]
  ·simp[j5,rP,hh,dB,h1]
end
def bk(c:aK)(k:Int):Option dX:=if 1<=k/\k<=c.bs.length then c.bs[(k - 1).toNat]? else none
def hk(L:Lay)(k:Int):Nat:=(L.bs[(k - 1).toNat]?).getD 0
def qH(b:dX)(e:En):dX:={ b with en:=b.en++[e],sd:=go b.sd e }
def fV(c:aK)(i:Nat)(e:En):aK:={ c with bs:=c.bs.modify i fun b=>qH b e }
theorem qK{M:Mo}{L:Lay}{c:aK}(a:At M L c){k:Int}{b:dX}(h:bk c k=some b):1<=k/\k<=c.bs.length/\L.bs[(k - 1).toNat]?=some (hk L k)/\c.bs[(k - 1).toNat]?=some b/\∃n,M[hk L k]?=some (iB n b):=by
 unfold bk at h
 split at h
 ·next hh=>
  have hl:(k - 1).toNat < L.bs.length:=by have:=a.len;omega
  have e:L.bs[(k - 1).toNat]?=some (hk L k):=by
   unfold hk
   rw[aqc hl]
   rfl
  exact⟨hh.1,hh.2,e,h,a.hb _ _ _ e h⟩
 ·cases h
theorem aaA{c:aK}{k:Int}(h:bk c k=none):¬(1<=k/\k<=c.bs.length):=fun z=>by
 unfold bk at h
 rw[if_pos z,List.getElem?_eq_none_iff]at h
 omega
section
variable{M:Mo}{L:Lay}{c:aK}(a:At M L c)(few:c.bs.length<=50000)
include a few
theorem Hq{k:Int}{b:dX}(h:bk c k=some b):j5 M [ob L.h,.int k]=.ok (ob (hk L k)):=by
 obtain⟨h1,h2,_⟩:=qK a h
 rw[XC a few,if_pos ⟨h1,h2⟩]
 rfl
theorem Q7{k:Int}(h:bk c k=none):j5 M [ob L.h,.int k]=.exc ⟨"NoBeast",[]⟩:=by
 rw[XC a few,if_neg (aaA h)]
theorem CJ(k:Int):qu M [ob L.h,.int k]=match bk c k with
  |none=>.exc ⟨"NoBeast",[]⟩
  |some b=>if b.sd.al then .ok (ob (hk L k)) else .exc ⟨"Dead",[]⟩:=by
 obtain⟨n,hh⟩:=a.hh
 cases h:bk c k with
 |none=>
  have h1:=Q7 a few h
  simp[qu,uW,hh,dB,eX,h1]
 |some b=>
  have h1:=Hq a few h
  obtain⟨_,_,_,_,n',hb⟩:=qK a h
  cases h2:b.sd.al <;> simp[qu,uW,hh,dB,eX,h1,hb,iB,h2]
theorem Jy(k:Int):mY M [ob L.h,.int k]=match bk c k with
  |none=>.exc ⟨"NoBeast",[]⟩
  |some b=>if b.sd.al then(if b.sd.due=none then .exc ⟨"Unmarked",[]⟩ else .ok (ob (hk L k))) else .exc ⟨"Dead",[]⟩:=by
 obtain⟨n,hh⟩:=a.hh
 have h0:=CJ a few k
 cases h:bk c k with
 |none=>
  rw[h]at h0
  simp[mY,qm,hh,dB,bG,h0]
 |some b=>
  rw[h]at h0
  obtain⟨_,_,_,_,n',hb⟩:=qK a h
  cases h2:b.sd.al with
  |false=>
   simp[h2]at h0
   simp[mY,qm,hh,dB,bG,h0,h2]
  |true=>
   simp[h2]at h0
   cases h3:b.sd.due <;> simp[mY,qm,hh,dB,bG,h0,hb,iB,h2,h3,qj,oJ]
def yJ(k:Int)(b:dX):Bool:=(b.mo==k)&&b.sd.due.isNone
theorem acq(k:Int):qp M [ob L.h,.int k]=match bk c k with
  |none=>.exc ⟨"NoBeast",[]⟩
  |some _=>.ok (.list (((bW L c).filter fun x=>yJ k x.2.2&&x.2.2.sd.al).map nb)):=by
 obtain⟨n,hh⟩:=a.hh
 have h1:=zW a few
 have hl:((bW L c).filter fun x=>x.2.2.sd.al).length<=50000:=aqB (aqq _ _) (by rw[a.len'];exact few)
 have key:=gK (tg:=bL [2,3]) (tt:=mK (bB (aA cH (bH "mother" (ao 3)) (ao 1))) (bB (xH false .none (bH "due" (ao 3))))) (te:=bx (ak (aq 2) (ak (aq 3) au))) (M:=M) (ρ:=[some (.dat (ob L.h)),some (.dat (.int k)),none,none]) nb (fun x=>yJ k x.2.2) nb ((bW L c).filter fun x=>x.2.2.sd.al) fun x hx=>⟨[some (.dat (ob L.h)),some (.dat (.int k)),some (.dat (.int ((x.1:Int)+1))),some (.dat (ob x.2.1))],by simp[nb],by
  obtain⟨n,hb⟩:=a.hb' (aqw.mp hx).1
  by_cases h2:x.2.2.mo=k <;> cases h3:x.2.2.sd.due <;> simp[hb,iB,yJ,h2,h3,qj,oJ],fun _=>by simp[nb]⟩
 rw[arf]at key
 cases h:bk c k with
 |none=>
  have h2:=Q7 a few h
  simp[qp,uV,hh,dB,eX,h2]
 |some b=>
  have h2:=Hq a few h
  simp[qp,uV,hh,dB,eX,dR,h1,h2,key,hl]
theorem Kh(f:Fi)(hf:c.bs.length < 50000):∃M' h,pW M [ob L.h,f.dat]=.ok (.int (c.bs.length+1)) M'/\At M' { L with bs:=L.bs++[h] } { c with bs:=c.bs++[Ad f] }:=by
 obtain⟨n,hh⟩:=a.hh
 have hl:L.h < M.length:=(aqb.mp hh).1
 have hi:=afL M f
 have hh2:(M++[iB (M.length+1) (Ad f),⟨"",[]⟩])[L.h]?=some (dB n L):=by rw[aql hl];exact hh
 have hs:∀i,((M++[iB (M.length+1) (Ad f),(⟨"",[]⟩:Inst)]).set L.h i)[L.h]?=some i:=fun i=>by rw[bF hh2,if_pos rfl]
 have hz:c.bs.length < 100000:=by omega
 refine⟨_,M.length,?_,a.amG (M2:=M++[iB (M.length+1) (Ad f),⟨"",[]⟩]) (n:=M.length+1) (n2:=n) (aqz _) (fun k hk=>by rw[aql hk]) (by simp)⟩
 simp[pW,vK,hh,dB,hi,hh2,hs,hz,a.len]
end
theorem xM{M:Mo}{L:Lay}{c:aK}(a:At M L c){i h n:Nat}{b:dX}{e:En}(h1:L.bs[i]?=some h)(h2:c.bs[i]?=some b):At (M.set h (iB n (qH b e))) L (fV c i e):=by
 have:=a.setB (n:=n) (b':=qH b e) h1
 have hm:c.bs.modify i (fun b=>qH b e)=c.bs.set i (qH b e):=by
  apply aqC
  intro j
  rw[List.getElem?_modify,aq0]
  by_cases hj:i=j
  ·subst hj
   have hl:=(aqb.mp h2).1
   simp[hl,h2]
   have:=(aqb.mp h2).2
   rw[this]
  ·simp[hj]
 unfold fV
 rw[hm]
 exact this
theorem yq(c:aK)(i j:Nat)(e:En):(fV c i e).bs[j]?=if i=j then(c.bs[j]?).map fun b=>qH b e else c.bs[j]?:=by
 unfold fV
 simp only[List.getElem?_modify]
 by_cases h:i=j <;> simp[h]
def uK(xs:List (Nat×Nat×dX))(e:En)(c:aK):aK:=xs.foldl (fun c x=>fV c x.1 e) c
theorem Nf{tg:fB}{body:SF}(Q:Rf.Env->Prop)(P:Nat->aK->Prop)(e:En)(L:Lay)(T:Nat):∀(xs:List (Nat×Nat×dX)) (M:Mo) (c:aK) (ρ:Rf.Env) (i:Nat),i+xs.length<=T->At M L c->P i c->Q ρ->
  (∀M c ρ x i,i < T->At M L c->P i c->Q ρ->x∈xs->∃ρ1 ρ2 M2,tg (nb x) ρ=some ρ1/\body M ρ1=.next ρ2 M2/\Q ρ2/\At M2 L (fV c x.1 e)/\P (i+1) (fV c x.1 e))->
  ∃ρ' M',iy tg body (xs.map nb) M ρ=.next ρ' M'/\Q ρ'/\At M' L (uK xs e c)
 |[],M,c,ρ,i,_,a,p,q,_=>⟨ρ,M,rfl,q,a⟩
 |x::xs,M,c,ρ,i,hT,a,p,q,h=>by
  rw[aqn]at hT
  obtain⟨ρ1,ρ2,M2,h1,h2,h3,h4,h5⟩:=h M c ρ x i (by omega) a p q aqf
  obtain⟨ρ',M',g1,g2,g3⟩:=Nf Q P e L T xs M2 _ ρ2 (i+1) (by omega) h4 h5 h3 fun M c ρ y i hi a p q hy=>h M c ρ y i hi a p q (aqe _ hy)
  exact⟨ρ',M',by rw[aqd,jX h1 h2];exact g1,g2,g3⟩
structure Jm(n:Nat)(c:aK):Prop where
 ear:∀b∈c.bs,b.sd.ear.length=6
 en:∀b∈c.bs,b.en.length<=n
theorem ajh(s:Sd)(e:En)(he:s.ear.length=6)(h2:match e with|.cut l=>l.length=6|.sold _ l=>l.length=6|_=>True):(go s e).ear.length=6:=by
 cases e <;> simp_all [go,vW]
theorem Qo(e:En):∀(xs:List (Nat×Nat×dX)) (c:aK) (j:Nat),(xs.map (·.1)).Nodup->(uK xs e c).bs[j]?=if j∈xs.map (·.1) then(c.bs[j]?).map fun b=>qH b e else c.bs[j]?
 |[],c,j,_=>by simp[uK]
 |x::xs,c,j,nd=>by
  rw[aqd,aqZ]at nd
  show(uK xs e (fV c x.1 e)).bs[j]?=_
  rw[Qo e xs _ j nd.2,yq]
  by_cases h1:x.1=j
  ·subst h1
   rw[if_neg nd.1,if_pos rfl,if_pos (by simp)]
  ·rw[if_neg h1]
   by_cases h2:j∈xs.map (·.1)
   ·rw[if_pos h2,if_pos (by rw[aqd];exact aqe _ h2)]
   ·rw[if_neg h2,if_neg (by
     rw[aqd,aqp]
     rintro(z|z)
     ·exact h1 z.symm
     ·exact h2 z)]
theorem Mj(e:En):∀(xs:List (Nat×Nat×dX)) (c:aK),(uK xs e c)={ c with bs:=(uK xs e c).bs }
 |[],_=>rfl
 |x::xs,c=>by
  show uK xs e (fV c x.1 e)={ c with bs:=(uK xs e (fV c x.1 e)).bs }
  rw[Mj e xs]
  rfl
theorem acM{L:Lay}{c:aK}(p:Nat×Nat×dX->Bool):(((bW L c).filter p).map (·.1)).Nodup:=by
 have h:((bW L c).map (·.1)).Nodup:=by
  have e:(bW L c).map (·.1)=List.range (L.bs.zip c.bs).length:=by
   unfold bW
   apply aqC
   intro i
   simp only[aqm,aqY]
   by_cases hi:i < (L.bs.zip c.bs).length
   ·rw[aqc hi,List.getElem?_range hi]
    rfl
   ·rw[aqD (by omega:(L.bs.zip c.bs).length<=i),aqD (by rw[List.length_range];omega:(List.range (L.bs.zip c.bs).length).length<=i)]
    rfl
  rw[e]
  exact List.nodup_range
 exact h.sublist (List.Sublist.map _ List.filter_sublist)
def oF(p:dX->Bool)(e:En)(c:aK):aK:={ c with bs:=c.bs.map fun b=>if p b then qH b e else b }
theorem UG{M:Mo}{L:Lay}{c:aK}(a:At M L c)(p:dX->Bool)(e:En):uK ((bW L c).filter fun x=>p x.2.2) e c=oF p e c:=by
 rw[Mj]
 unfold oF
 congr 1
 apply aqC
 intro j
 rw[Qo _ _ _ _ (acM _),aqm]
 by_cases hj:j < c.bs.length
 ·have hb:=aqc hj
  rw[hb]
  have hl:j < L.bs.length:=by rw[a.len];exact hj
  have mem:(j,L.bs[j],c.bs[j])∈bW L c:=by
   unfold bW
   rw[List.mem_mapIdx]
   refine⟨j,by simp;omega,by simp⟩
  by_cases hp:p c.bs[j]=true
  ·have:j∈((bW L c).filter fun x=>p x.2.2).map (·.1):=aqk.mpr ⟨_,aqw.mpr ⟨mem,hp⟩,rfl⟩
   rw[if_pos this]
   simp[hp]
  ·have:j∉((bW L c).filter fun x=>p x.2.2).map (·.1):=fun z=>by
    obtain⟨x,h1,h2⟩:=aqk.mp z
    obtain⟨h3,h4⟩:=aqw.mp h1
    obtain⟨_,h5⟩:=Dh h3
    rw[h2,hb]at h5
    rw[←aqv h5]at h4
    exact hp h4
   rw[if_neg this]
   simp[hp]
 ·rw[aqD (by omega:c.bs.length<=j)]
  simp
theorem Jm.step{n:Nat}{c:aK}(bi:Jm n c)(i:Nat)(e:En)(h2:match e with|.cut l=>l.length=6|.sold _ l=>l.length=6|_=>True):Jm (n+1) (fV c i e):=by
 have key:∀b∈(fV c i e).bs,b∈c.bs∨∃b0∈c.bs,b=qH b0 e:=fun b hb=>by
  obtain⟨j,hj⟩:=List.mem_iff_getElem?.mp hb
  rw[yq]at hj
  split at hj
  ·obtain⟨b0,h3,h4⟩:=aqV.mp hj
   exact .inr ⟨b0,aqh h3,h4.symm⟩
  ·exact .inl (aqh hj)
 refine⟨fun b hb=>?_,fun b hb=>?_⟩
 ·rcases key b hb with h|⟨b0,h,rfl⟩
  ·exact bi.ear b h
  ·exact ajh _ _ (bi.ear b0 h) h2
 ·rcases key b hb with h|⟨b0,h,rfl⟩
  ·have:=bi.en b h
   omega
  ·have:=bi.en b0 h
   simp[qH]
   omega
section
variable{M:Mo}{L:Lay}{c:aK}(a:At M L c)(few:c.bs.length<=1000){n:Nat}(bi:Jm n c)(hn:n<=40000)
include a few bi hn
theorem FT(k:Int){b:dX}(hk':bk c k=some b):∃M',nY M [ob L.h,.int k]=.ok .none M'/\At M' L (oF (fun x=>yJ k x&&x.sd.al) (.followed b.sd.o b.sd.g) c):=by
 obtain⟨m,hh⟩:=a.hh
 have few2:c.bs.length<=50000:=by omega
 have h1:=Hq a few2 hk'
 have h2:=acq a few2 k
 rw[hk']at h2
 obtain⟨k1,k2,k3,k4,k5⟩:=qK a hk'
 have hlen:((bW L c).filter fun x=>yJ k x.2.2&&x.2.2.sd.al).length<=1000:=aqB (aqq _ _) (by rw[a.len'];exact few)
 obtain⟨ρ',M',g1,g2,g3⟩:=Nf (tg:=bL [3,4]) (body:=pK) (fun ρ=>∃x y,ρ=[some (.dat (ob L.h)),some (.dat (.int k)),some (.dat (ob (hk L k))),x,y])
  (fun i c1=>(∃b1,c1.bs[(k - 1).toNat]?=some b1/\b1.sd.o=b.sd.o/\b1.sd.g=b.sd.g)/\Jm (n+i) c1/\c1.bs.length=c.bs.length) (.followed b.sd.o b.sd.g) L 1000 ((bW L c).filter fun x=>yJ k x.2.2&&x.2.2.sd.al) M c [some (.dat (ob L.h)),some (.dat (.int k)),some (.dat (ob (hk L k))),none,none] 0 (by omega) a ⟨⟨b,k4,rfl,rfl⟩,bi,rfl⟩ ⟨none,none,rfl⟩ (fun M1 c1 ρ x i hi a1 p1 q1 hx=>by
   obtain⟨⟨bm,m1,m2,m3⟩,bi1,l1⟩:=p1
   obtain⟨x0,y0,rfl⟩:=q1
   obtain⟨nm,hm⟩:=a1.hb _ _ _ k3 m1
   obtain⟨e1,e2⟩:=Dh (aqw.mp hx).1
   have hl:x.1 < c1.bs.length:=by rw[l1];exact(aqb.mp e2).1
   have e3:=aqc hl
   obtain⟨nx,hx1⟩:=a1.hb _ _ _ e1 e3
   have mem:=aqP hl
   have hb:=sU hx1 (.followed b.sd.o b.sd.g) (by rw[bi1.ear _ mem];decide) (by have:=bi1.en _ mem;omega)
   refine⟨[some (.dat (ob L.h)),some (.dat (.int k)),some (.dat (ob (hk L k))),some (.dat (.int ((x.1:Int)+1))),some (.dat (ob x.2.1))],[some (.dat (ob L.h)),some (.dat (.int k)),some (.dat (ob (hk L k))),some (.dat (.int ((x.1:Int)+1))),some (.dat (ob x.2.1))],_,by simp[nb],?_,⟨_,_,rfl⟩,xM (n:=nx) a1 e1 e3,?_,bi1.step _ _ trivial,by simp[fV,l1]⟩
   ·have hb:lJ M1 [ob x.2.1,.tuple [.str "followed",.int b.sd.o,.int b.sd.g]]=_:=hb
    simp[pK,hx1,hm,bK]
    simp[iB]at hb ⊢
    simp[m2,m3,hb,qH]
   ·rw[yq,m1]
    by_cases z:x.1=(k - 1).toNat
    ·exact⟨qH bm (.followed b.sd.o b.sd.g),by rw[if_pos z];rfl,rfl,rfl⟩
    ·exact⟨bm,by rw[if_neg z],m2,m3⟩)
 rw[UG a (fun x=>yJ k x&&x.sd.al)]at g3
 refine⟨M',?_,g3⟩
 simp[nY,sE,hh,dB,eX,yE,h1,h2,g1]
end
def pD(p:Int×Int):Dat:=.tuple [.int p.1,.int p.2]
theorem Il:∀(x y:List Int),wI (x.map PyData.int) (y.map PyData.int)=(x.zip y).map pD
 |[],_=>by simp[wI]
 |_::_,[]=>by simp[wI]
 |a::x,b::y=>by
  have:=Il x y
  unfold wI at this ⊢
  rw[aqd,aqd,List.zipWith_cons_cons,this,aq3,aqd]
  rfl
def yV(x y:List Int):Int:=(((x.zip y).filter fun p=>decide (p.1 < p.2)).map fun p=>p.2 - p.1).sum
def oU(x y:List Int):Int:=if yV y x > yV x y then yV y x else yV x y
def jE(x y:List Int):List Int:=(x.zip y).map fun p=>if p.2 > p.1 then p.2 else p.1
theorem afS(x y:List Int)(h:x.length<=1000):(x.zip y).length<=50000:=by
 rw[List.length_zip]
 omega
theorem acy(l:List Int):Yc (.list (l.map PyData.int))=.ok (.int l.sum):=by
 show(match intsOf (l.map PyData.int) with
  |some ns=>Out.ok (PyData.int ns.sum)
  |none=>.bad)=_
 rw[Az]
theorem Oa(M:Mo)(x y:List Int)(h:x.length<=1000):tV M [aM x,aM y]=.ok (.int (yV x y)):=by
 have key:=gK (tg:=bL [2,3]) (tt:=bB (aA Xm (ao 3) (ao 2))) (te:=aA lW (ao 3) (ao 2)) (M:=M) (ρ:=[some (.dat (aM x)),some (.dat (aM y)),none,none]) pD (fun p=>decide (p.1 < p.2)) (fun p=>.int (p.2 - p.1)) (x.zip y) fun p _=>⟨[some (.dat (aM x)),some (.dat (aM y)),some (.dat (.int p.1)),some (.dat (.int p.2))],by simp[pD],by simp,fun _=>by simp⟩
 have hz:=afS x y h
 have hs:=acy (((x.zip y).filter fun p=>decide (p.1 < p.2)).map fun p=>p.2 - p.1)
 rw[aqH]at hs
 have hz2:min x.length y.length<=50000:=by omega
 simp[tV,RM,Il,key,hz2]
 simp[aqx]at hs
 simp[hs,yV]
theorem ae6(M:Mo)(x y:List Int)(h:x.length<=1000)(h2:y.length<=1000):Ek M [aM x,aM y]=.ok (.int (oU x y)):=by
 simp[Ek,RK,Oa M x y h,Oa M y x h2,oU]
theorem Rm(M:Mo)(x y:List Int)(r:Int)(h:x.length<=1000)(h2:y.length<=1000):ql M [aM x,aM y,.int r]=.ok (.bool (decide (oU x y<=r))):=by
 simp[ql,Za,ae6 M x y h h2]
theorem Ie(M:Mo)(x y:List Int)(h:x.length<=1000):oW M [aM x,aM y]=.ok (aM (jE x y)):=by
 have key:=gJ (tg:=bL [2,3]) (te:=aA u5 (ao 2) (ao 3)) (M:=M) (ρ:=[some (.dat (aM x)),some (.dat (aM y)),none,none]) pD (fun p=>.int (if p.2 > p.1 then p.2 else p.1)) (x.zip y) fun p _=>⟨[some (.dat (aM x)),some (.dat (aM y)),some (.dat (.int p.1)),some (.dat (.int p.2))],by simp[pD],by simp⟩
 have hz2:min x.length y.length<=50000:=by omega
 simp[oW,RQ,Il,key,hz2,jE]
abbrev Rw:=Ear.Rw
theorem U9:∀R:List Rw,Dg (R.map Ear.rD)=some R
 |[]=>rfl
 |r::R=>by
  rw[aqd,Dg,U9 R]
  have:abB (Ear.rD r)=some r:=by
   unfold Ear.rD Ear.dT
   show(intsOf (r.2.map PyData.int)).map _=_
   rw[Az]
   rfl
  rw[this]
  rfl
theorem Ks(M:Mo)(R:List Rw)(h:R.eraseDups.length<=76):pZ M [.list (R.map Ear.rD)]=.ok (.list ((bU R).map Ear.rD)):=by
 have:Pj (.list (R.map Ear.rD))=.ok (.list ((bU R).map Ear.rD)):=by
  show(match Dg (R.map Ear.rD) with
   |some R=>match decide (R.eraseDups.length<=76) with
    |true=>Out.ok (PyData.list ((bU R).map Ear.rD))
    |false=>.bad
   |none=>.bad)=_
  rw[U9]
  show(match decide (R.eraseDups.length<=76) with
    |true=>Out.ok (PyData.list ((bU R).map Ear.rD))
    |false=>.bad)=_
  rw[decide_eq_true h]
 simp[pZ,Od,this]
theorem rQ(R:List Rw):(bU R).length=R.eraseDups.length:=by
 unfold bU Pa
 rw[List.length_mergeSort]
def zV(o:Int)(e:List Int)(R:List Rw)(room:Int):List Rw:=(bU R).filter fun r=>!(r.1==o)&&decide (oU e r.2<=room)
def uw(R:List Rw):Prop:=∀r∈R,r.2.length=6
theorem aa9(M:Mo)(o:Int)(e:List Int)(R:List Rw)(room:Int)(he:e.length=6)(hR:uw R)(h:R.eraseDups.length<=76):yZ M [.int o,aM e,.list (R.map Ear.rD),.int room]=.ok (.list ((zV o e R room).map Ear.rD)):=by
 have ht:=Ks M R h
 have hl:(bU R).length<=50000:=by rw[rQ];omega
 have key:=gK (tg:=bL [4,5]) (tt:=mK (bB (aA Ck (ao 4) (ao 0))) (iY (aX ql (ak (aq 1) (ak (aq 5) (ak (aq 3) au)))))) (te:=bx (ak (aq 4) (ak (aq 5) au))) (M:=M) (ρ:=[some (.dat (.int o)),some (.dat (aM e)),some (.dat (.list (R.map Ear.rD))),some (.dat (.int room)),none,none]) Ear.rD (fun r=>!(r.1==o)&&decide (oU e r.2<=room)) Ear.rD (bU R) fun r hr=>⟨[some (.dat (.int o)),some (.dat (aM e)),some (.dat (.list (R.map Ear.rD))),some (.dat (.int room)),some (.dat (.int r.1)),some (.dat (aM r.2))],by simp[Ear.rD,Ear.dT],by
  have:=Rm M e r.2 room (by omega) (by rw[hR r (lG.mp hr)];decide)
  by_cases hz:r.1=o <;> simp[this,hz],fun _=>by simp[Ear.rD,Ear.dT]⟩
 simp[yZ,JC,ht,key,hl,zV]
theorem MK(M:Mo)(o:Int)(e:List Int)(R:List Rw)(room:Int)(he:e.length=6)(hR:uw R)(h:R.eraseDups.length<=76):nM M [.int o,aM e,.list (R.map Ear.rD),.int room]=match zV o e R room with
  |[]=>.ok .none
  |r::_=>.exc ⟨"Clash",[("ear",aM (jE e r.2)),("others",Ear.rD r),("ones",Ear.rD (o,e))]⟩:=by
 have hb:=aa9 M o e R room he hR h
 cases hx:zV o e R room with
 |nil=>
  rw[hx]at hb
  simp[nM,Ar,hb]
 |cons r rs=>
  rw[hx]at hb
  have hj:=Ie M e r.2 (by omega)
  simp[nM,Ar,hb]
  simp[Ear.rD,Ear.dT,hj]
theorem Hh{α β:Type}{tg tg1:fB}{tt tt1:QT}{it1:IF}{vs1:List Nat}{te:QF}{M:Mo}{ρ:Rf.Env}(ds:α->Dat)(ys:α->List β)(ds1:β->Dat)(p:α->β->Bool)(f:α->β->Dat):∀(xs:List α),(∀x∈xs,∃ρ1,tg (ds x) ρ=some ρ1/\tt M ρ1=.ok true/\yM ρ1=true/\it1 M ρ1=.ok ((ys x).map ds1)/\∀y∈ys x,∃ρ2,tg1 (ds1 y) (bY ρ1 vs1)=some ρ2/\tt1 M ρ2=.ok (p x y)/\(p x y=true->te M ρ2=.ok (f x y)))->
  gA tg tt it1 tg1 vs1 tt1 te M ρ (xs.map ds)=.ok (xs.flatMap fun x=>((ys x).filter (p x)).map (f x))
 |[],_=>rfl
 |x::xs,h=>by
  obtain⟨ρ1,h1,h2,h3,h4,h5⟩:=h x aqf
  have ih:=Hh ds ys ds1 p f xs fun y hy=>h y (aqe _ hy)
  have hc:=gK (tg:=tg1) (tt:=tt1) (te:=te) (M:=M) (ρ:=bY ρ1 vs1) ds1 (p x) (f x) (ys x) h5
  rw[aqd,gA,h1]
  show((w6 (tt M ρ1)).bind fun b=>if b=true then Out.when (yM ρ1) ((w6 (it1 M ρ1)).bind fun es=>(dh tg1 tt1 te M (bY ρ1 vs1) es).bind fun r1=>(gA tg tt it1 tg1 vs1 tt1 te M ρ (xs.map ds)).bind fun r=>Out.ok (r1++r)) else gA tg tt it1 tg1 vs1 tt1 te M ρ (xs.map ds))=_
  rw[h2,Zg,Out.yj,if_pos rfl,h3,Out.Vu,h4,Zg,Out.yj,hc,Out.yj,ih,Out.yj,List.flatMap_cons]
def cV(x:List Int):Bool:=decide (x.length=6)&&x.all fun d=>decide (0<=d)&&decide (d<=9)
theorem Cu(l:List Bool):tZ (l.map PyData.bool)=some l:=by
 induction l with
 |nil=>rfl
 |cons b l ih=>rw[aqd,tZ,ih];rfl
theorem Vp(M:Mo)(x:List Int)(h:x.length<=1000):sG M [aM x]=.ok (.bool (cV x)):=by
 have key:=gJ (tg:=aF 1) (te:=UJ (lY ux ux (qC (.int 0)) (ao 1) (qC cQ))) (M:=M) (ρ:=[some (.dat (aM x)),none]) PyData.int (fun d=>.bool (decide (0<=d)&&decide (d<=9))) x fun d _=>⟨[some (.dat (aM x)),some (.dat (.int d))],by simp,by
  by_cases h0:0<=d <;> simp[h0,cQ]⟩
 have ha:Oq (.list (x.map fun d=>PyData.bool (decide (0<=d)&&decide (d<=9))))=.ok (.bool (x.all fun d=>decide (0<=d)&&decide (d<=9))):=by
  have e:(x.map fun d=>PyData.bool (decide (0<=d)&&decide (d<=9)))=(x.map fun d=>decide (0<=d)&&decide (d<=9)).map PyData.bool:=by rw[aqH];rfl
  rw[e]
  show(match tZ _ with
   |some bs=>Out.ok (PyData.bool (bs.all id))
   |none=>.bad)=_
  rw[Cu]
  simp[List.all_map,aqx]
 have hl:x.length<=50000:=by omega
 by_cases h6:x.length=6
 ·have h6':((x.length:Int)==6)=true:=by simp[h6]
  simp[sG,HD,iD,key,hl,ha,cV,h6]
 ·have h6':¬(x.length:Int)=6:=by omega
  simp[sG,HD,iD,cV,h6,h6']
theorem Mp(M:Mo)(x:List Int)(h:x.length<=1000):pQ M [aM x]=if cV x then .ok .none else .exc ⟨"BadEar",[]⟩:=by
 have:=Vp M x h
 cases hb:cV x <;> simp[pQ,GP,this,hb]
def pairD(p:Rw×Rw):Dat:=.tuple [Ear.rD p.1,Ear.rD p.2]
def lQ(T:List Rw)(room:Int):List (Rw×Rw):=(T.mapIdx fun i r=>(i,r)).flatMap fun x=>((T.drop (x.1+1)).filter fun s=>!(x.2.1==s.1)&&decide (oU x.2.2 s.2<=room)).map fun s=>(x.2,s)
theorem Zz(T:List Rw)(room:Int):(lQ T room).length<=T.length * T.length:=by
 unfold lQ
 rw[List.length_flatMap]
 have key:∀(l:List (Nat×Rw)),(l.map fun x=>(((T.drop (x.1+1)).filter fun s=>!(x.2.1==s.1)&&decide (oU x.2.2 s.2<=room)).map fun s=>(x.2,s)).length).sum<=l.length * T.length:=by
  intro l
  induction l with
  |nil=>simp
  |cons x l ih=>
   rw[aqd,List.sum_cons,aqn,Nat.add_mul,Nat.one_mul]
   have:(((T.drop (x.1+1)).filter fun s=>!(x.2.1==s.1)&&decide (oU x.2.2 s.2<=room)).map fun s=>(x.2,s)).length<=T.length:=by
    rw[aqj]
    refine aqB (aqq _ _) ?_
    rw[ark]
    omega
   omega
 have:=key (T.mapIdx fun i r=>(i,r))
 rw[List.length_mapIdx]at this
 exact this
theorem ZW(M:Mo)(R:List Rw)(room:Int)(hR:uw R)(h:R.eraseDups.length<=76):tD M [.list (R.map Ear.rD),.int room]=.ok (.list ((lQ (bU R) room).map pairD)):=by
 have ht:=Ks M R h
 have hl:(bU R).length<=76:=by rw[rQ];exact h
 have hE:∀r∈bU R,r.2.length=6:=fun r hr=>hR r (lG.mp hr)
 generalize bU R=T at ht hl hE
 have he:rC 0 (T.map Ear.rD)=(T.mapIdx fun i r=>(i,r)).map fun(x:Nat×Rw)=>PyData.tuple [.int x.1,Ear.rD x.2]:=by
  unfold rC
  apply aqC
  intro i
  simp
  cases T[i]? <;> simp
 have key:=Hh (tg:=bL [3,4]) (tg1:=aF 5) (tt:=jo) (it1:=dw (Mq (ao 2) (qI (aA fH (ao 3) (qC (.int 1)))) za)) (vs1:=[5]) (tt1:=mK (bB (aA Ck (aA aV (ao 4) (qC (.int 0))) (aA aV (ao 5) (qC (.int 0))))) (iY (aX ql (ak (aA aV (ao 4) (qC (.int 1))) (ak (aA aV (ao 5) (qC (.int 1))) (ak (aq 1) au)))))) (te:=bx (ak (aq 4) (ak (aq 5) au))) (M:=M) (ρ:=[some (.dat (.list (R.map Ear.rD))),some (.dat (.int room)),some (.dat (.list (T.map Ear.rD))),none,none,none])
  (fun(x:Nat×Rw)=>PyData.tuple [.int x.1,Ear.rD x.2]) (fun x=>T.drop (x.1+1)) Ear.rD (fun x s=>!(x.2.1==s.1)&&decide (oU x.2.2 s.2<=room)) (fun x s=>pairD (x.2,s)) (T.mapIdx fun i r=>(i,r)) fun x hx=>⟨[some (.dat (.list (R.map Ear.rD))),some (.dat (.int room)),some (.dat (.list (T.map Ear.rD))),some (.dat (.int x.1)),some (.dat (Ear.rD x.2)),none],by simp,rfl,rfl,by
   have:=Ys (T.map Ear.rD) (x.1+1)
   simp at this ⊢
   rw[this],fun s hs=>⟨[some (.dat (.list (R.map Ear.rD))),some (.dat (.int room)),some (.dat (.list (T.map Ear.rD))),some (.dat (.int x.1)),some (.dat (Ear.rD x.2)),some (.dat (Ear.rD s))],by simp,by
   obtain⟨i,hi,rfl⟩:=List.mem_mapIdx.mp hx
   have h1:=hE _ (aqP hi)
   have h2:=hE s (List.mem_of_mem_drop hs)
   have:=Rm M (T[i]).2 s.2 room (by omega) (by omega)
   by_cases hz:(T[i]).1=s.1 <;> simp[Ear.rD,Ear.dT,this,hz],fun _=>by simp[pairD]⟩⟩
 have e2:((T.mapIdx fun i r=>(i,r)).flatMap fun x=>((T.drop (x.1+1)).filter fun s=>!(x.2.1==s.1)&&decide (oU x.2.2 s.2<=room)).map fun s=>pairD (x.2,s))=(lQ T room).map pairD:=by
  unfold lQ
  rw[List.map_flatMap]
  congr 1
  funext x
  rw[aqH]
  rfl
 rw[e2]at key
 have hc:(lQ T room).length<=50000:=by
  have:=Zz T room
  have:T.length * T.length<=76 * 76:=Nat.mul_le_mul hl hl
  omega
 simp[tD,HF,ht]
 rw[he]
 simp[key,hc]
def hdD(x:List Int×Int):Dat:=.tuple [aM x.1,.int x.2]
def Ke(d l:Int):Int:=(if 9 < d+l then 9 else d+l)+1
def Bb(d l:Int):List Int:=(List.range (Ke d l - d).toNat).map fun(i:Nat)=>d+(i:Int)
def stepT(d:Int)(H:List (List Int×Int)):List (List Int×Int):=H.flatMap fun x=>(Bb d x.2).map fun cut=>(x.1++[cut],x.2 - (cut - d))
structure Nm(k:Nat)(H:List (List Int×Int)):Prop where
 len:H.length<=4 ^ k
 left:∀x∈H,0<=x.2/\x.2<=3
 hd:∀x∈H,x.1.length=k/\∀y∈x.1,0<=y/\y<=9
theorem adN{d l:Int}(hl:0<=l/\l<=3):(Bb d l).length<=4:=by
 unfold Bb Ke
 simp
 split <;> omega
theorem Uo{d l y:Int}(h:y∈Bb d l):d<=y/\y<=d+l/\y<=9:=by
 unfold Bb Ke at h
 obtain⟨i,hi,rfl⟩:=aqk.mp h
 rw[List.mem_range]at hi
 split at hi <;> omega
theorem UL{k:Nat}{H:List (List Int×Int)}{d:Int}(i:Nm k H)(hd:0<=d/\d<=9):Nm (k+1) (stepT d H):=by
 refine⟨?_,fun x hx=>?_,fun x hx=>?_⟩
 ·have key:∀l:List (List Int×Int),(∀x∈l,0<=x.2/\x.2<=3)->(stepT d l).length<=l.length * 4:=by
   intro l
   induction l with
   |nil=>intro _;simp[stepT]
   |cons x l ih=>
    intro h
    have h1:=ih fun y hy=>h y (aqe _ hy)
    have h2:=adN (d:=d) (h x aqf)
    unfold stepT at h1 ⊢
    rw[List.flatMap_cons,aqO,aqj,aqn]
    omega
  have:=key H i.left
  have:=i.len
  rw[Nat.pow_succ]
  omega
 ·unfold stepT at hx
  obtain⟨y,hy,hx⟩:=List.mem_flatMap.mp hx
  obtain⟨c,hc,rfl⟩:=aqk.mp hx
  have:=Uo hc
  have:=i.left y hy
  show 0<=y.2 - (c - d)/\y.2 - (c - d)<=3
  omega
 ·unfold stepT at hx
  obtain⟨y,hy,hx⟩:=List.mem_flatMap.mp hx
  obtain⟨c,hc,rfl⟩:=aqk.mp hx
  have:=Uo hc
  obtain⟨h1,h2⟩:=i.hd y hy
  refine⟨by simp[h1],fun z hz=>?_⟩
  rcases aqo.mp hz with hz|hz
  ·exact h2 z hz
  ·rw[aqg.mp hz]
   omega
theorem acQ(M:Mo)(e m:Option Cell)(he:yM [e,m]=true){k:Nat}{H:List (List Int×Int)}{d:Int}(i:Nm k H)(hk:k<=5)(hd:0<=d/\d<=9):Bs M [e,m,some (.dat (.list (H.map hdD))),some (.dat (.int d)),none,none,none]=.next [e,m,some (.dat (.list ((stepT d H).map hdD))),some (.dat (.int d)),none,none,none] M:=by
 have key:=Hh (tg:=bL [4,5]) (tg1:=aF 6) (tt:=jo) (it1:=Bo (ao 3) (aA fH (aA Gk (aA fH (ao 3) (ao 5)) (qC cQ)) (qC (.int 1)))) (vs1:=[6]) (tt1:=jo) (te:=bx (ak (aA fH (ao 4) (bx (ak (aq 6) au))) (ak (aA lW (ao 5) (aA lW (ao 6) (ao 3))) au))) (M:=M) (ρ:=[e,m,some (.dat (.list (H.map hdD))),some (.dat (.int d)),none,none,none])
  hdD (fun x=>Bb d x.2) PyData.int (fun _ _=>true) (fun x c=>hdD (x.1++[c],x.2 - (c - d))) H fun x hx=>⟨[e,m,some (.dat (.list (H.map hdD))),some (.dat (.int d)),some (.dat (aM x.1)),some (.dat (.int x.2)),none],by simp[hdD],rfl,by
   simp[yM]at he ⊢
   exact he,by
   have hl:=i.left x hx
   have hz:Ke d x.2<=100000/\-100000<=Ke d x.2/\d<=100000/\-100000<=d:=by unfold Ke;split <;> omega
   have e1:ju d (Ke d x.2 - d).toNat=(Bb d x.2).map PyData.int:=by
    unfold ju Bb
    rw[aqH]
    rfl
   have e2:(if 9 < d+x.2 then(9:Int) else d+x.2)+1=Ke d x.2:=rfl
   simp[cQ,e2,e1,hz],fun c hc=>⟨[e,m,some (.dat (.list (H.map hdD))),some (.dat (.int d)),some (.dat (aM x.1)),some (.dat (.int x.2)),some (.dat (.int c))],by simp,rfl,fun _=>by
   have h1:=(i.hd x hx).1
   have h2:x.1.length+1<=100000:=by omega
   simp[hdD,h2]⟩⟩
 have e2:(H.flatMap fun x=>((Bb d x.2).filter fun _=>true).map fun c=>hdD (x.1++[c],x.2 - (c - d)))=(stepT d H).map hdD:=by
  unfold stepT
  rw[List.map_flatMap]
  congr 1
  funext x
  rw[ara.mpr (fun _ _=>rfl),aqH]
  rfl
 rw[e2]at key
 have hl:(stepT d H).length<=50000:=by
  have:=(UL i hd).len
  have:4 ^ (k+1)<=4 ^ 6:=Nat.pow_le_pow_right (by decide) (by omega)
  omega
 simp[Bs,key,hl]
theorem JL(M:Mo)(e m:Option Cell)(he:yM [e,m]=true):∀(ear:List Int) (k:Nat) (H:List (List Int×Int)) (o:Option Cell),Nm k H->k+ear.length<=6->(∀d∈ear,0<=d/\d<=9)->
  (∃o',iy (aF 3) Bs (ear.map PyData.int) M [e,m,some (.dat (.list (H.map hdD))),o,none,none,none]=.next [e,m,some (.dat (.list ((ear.foldl (fun H d=>stepT d H) H).map hdD))),o',none,none,none] M)/\Nm (k+ear.length) (ear.foldl (fun H d=>stepT d H) H)
 |[],k,H,o,i,_,_=>⟨⟨o,rfl⟩,i⟩
 |d::ear,k,H,o,i,hk,hd=>by
  rw[aqn]at hk
  have h1:=hd d aqf
  obtain⟨⟨o',ih⟩,i2⟩:=JL M e m he ear (k+1) (stepT d H) (some (.dat (.int d))) (UL i h1) (by omega) fun y hy=>hd y (aqe _ hy)
  refine⟨⟨o',?_⟩,?_⟩
  ·rw[aqd,jX (ρ1:=[e,m,some (.dat (.list (H.map hdD))),some (.dat (.int d)),none,none,none]) (by simp) (acQ M e m he i (by omega) h1),ih]
   rfl
  ·rw[aqn,show k+(ear.length+1)=k+1+ear.length by omega]
   exact i2
def Cy(ear:List Int)(many:Int):List (List Int):=(ear.foldl (fun H d=>stepT d H) [([],many)]).map (·.1)
theorem adB{many:Int}(hm:0<=many/\many<=3):Nm 0 [([],many)]:=⟨by simp,fun x hx=>by rw[aqg.mp hx];exact hm,fun x hx=>by rw[aqg.mp hx];simp⟩
theorem NK{ear:List Int}{many:Int}(he:cV ear=true)(hm:0<=many/\many<=3):Nm 6 (ear.foldl (fun H d=>stepT d H) [([],many)]):=by
 unfold cV at he
 rw[aqa,decide_eq_true_eq,aqu]at he
 have:=(JL [] none none rfl ear 0 [([],many)] none (adB hm) (by omega) fun d hd=>by simpa using he.2 d hd).2
 rw[he.1]at this
 exact this
theorem agF(M:Mo)(ear:List Int)(many:Int)(he:cV ear=true)(hm:0<=many/\many<=3):JT M [aM ear,.int many]=.ok (.list ((Cy ear many).map aM)):=by
 have he':=he
 unfold cV at he'
 rw[aqa,decide_eq_true_eq,aqu]at he'
 obtain⟨⟨o',h1⟩,_⟩:=JL M (some (.dat (aM ear))) (some (.dat (.int many))) rfl ear 0 [([],many)] none (adB hm) (by omega) fun d hd=>by simpa using he'.2 d hd
 have hi:=NK he hm
 generalize hH:ear.foldl (fun H d=>stepT d H) [([],many)]=H at h1 hi
 have key:=gJ (tg:=bL [4,5]) (te:=aq 4) (M:=M) (ρ:=[some (.dat (aM ear)),some (.dat (.int many)),some (.dat (.list (H.map hdD))),o',none,none,none]) hdD (fun x=>aM x.1) H fun x _=>⟨[some (.dat (aM ear)),some (.dat (.int many)),some (.dat (.list (H.map hdD))),o',some (.dat (aM x.1)),some (.dat (.int x.2)),none],by simp[hdD],by simp⟩
 have hl:H.length<=50000:=by
  have:=hi.len
  have:(4:Nat) ^ 6=4096:=by decide
  omega
 have h1':iy (aF 3) Bs (ear.map PyData.int) M [some (.dat (aM ear)),some (.dat (.int many)),some (.dat (.list [.tuple [.tuple [],.int many]])),none,none,none,none]=_:=h1
 have key2:∀o2:Option Cell,dh (bL [4,5]) jo (aq 4) M [some (.dat (aM ear)),some (.dat (.int many)),some (.dat (.list (H.map hdD))),o2,none,none,none] (H.map hdD)=.ok (H.map fun x=>aM x.1):=fun o2=>gJ (tg:=bL [4,5]) (te:=aq 4) (M:=M) (ρ:=[some (.dat (aM ear)),some (.dat (.int many)),some (.dat (.list (H.map hdD))),o2,none,none,none]) hdD (fun x=>aM x.1) H fun x _=>⟨[some (.dat (aM ear)),some (.dat (.int many)),some (.dat (.list (H.map hdD))),o2,some (.dat (aM x.1)),some (.dat (.int x.2)),none],by simp[hdD],by simp⟩
 simp[JT,X4,h1',key2,hl,Cy,hH]
def Ov(mark:List Int)(extra:Int):List (List Int):=(Cy mark extra).filter fun e=>yV mark e==extra
theorem Vz{ear:List Int}{many:Int}(he:cV ear=true)(hm:0<=many/\many<=3){x:List Int}(h:x∈Cy ear many):cV x=true:=by
 obtain⟨y,hy,rfl⟩:=aqk.mp h
 obtain⟨h1,h2⟩:=(NK he hm).hd y hy
 unfold cV
 rw[aqa,decide_eq_true_eq,aqu]
 exact⟨h1,fun d hd=>by simpa using h2 d hd⟩
theorem abZ{ear:List Int}{many:Int}(he:cV ear=true)(hm:0<=many/\many<=3):(Cy ear many).length<=4096:=by
 unfold Cy
 rw[aqj]
 exact(NK he hm).len
theorem X8(M:Mo)(mark:List Int)(extra:Int)(he:cV mark=true)(hm:0<=extra/\extra<=3):uU M [aM mark,.int extra]=.ok (.list ((Ov mark extra).map aM)):=by
 have h1:=agF M mark extra he hm
 have hl:=abZ he hm
 have h6:mark.length<=1000:=by
  unfold cV at he
  rw[aqa,decide_eq_true_eq]at he
  omega
 have key:=gK (tg:=aF 2) (tt:=bB (aA cH (aX tV (ak (aq 0) (ak (aq 2) au))) (ao 1))) (te:=aq 2) (M:=M) (ρ:=[some (.dat (aM mark)),some (.dat (.int extra)),none]) aM (fun e=>yV mark e==extra) aM (Cy mark extra) fun x _=>⟨[some (.dat (aM mark)),some (.dat (.int extra)),some (.dat (aM x))],by simp,by
  have:=Oa M mark x h6
  simp[this],fun _=>by simp⟩
 have hl2:(Cy mark extra).length<=50000:=by omega
 simp[uU,DQ,h1,key,hl2,Ov]
def Av(R:List Rw)(room:Int)(e:List Int):Bool:=!(R.any fun r=>decide (oU e r.2<=room))
theorem Y7(l:List Bool):N7 (.list (l.map PyData.bool))=.ok (.bool (l.any id)):=by
 show(match tZ (l.map PyData.bool) with
  |some bs=>Out.ok (PyData.bool (bs.any id))
  |none=>.bad)=_
 rw[Cu]
theorem abN(M:Mo)(R:List Rw)(room:Int)(hR:uw R)(hl:R.length<=50000)(mk:List Int)(x:Int)(e:List Int)(he:e.length=6) :
  jM M [some (.dat (aM mk)),some (.dat (.int x)),some (.dat (.list (R.map Ear.rD))),some (.dat (.int room)),some (.dat (aM e)),none,none]=if Av R room e then .ret (aM e) M else .next [some (.dat (aM mk)),some (.dat (.int x)),some (.dat (.list (R.map Ear.rD))),some (.dat (.int room)),some (.dat (aM e)),none,none] M:=by
 have key:=gJ (tg:=bL [5,6]) (te:=aX ql (ak (aq 4) (ak (aq 6) (ak (aq 3) au)))) (M:=M) (ρ:=[some (.dat (aM mk)),some (.dat (.int x)),some (.dat (.list (R.map Ear.rD))),some (.dat (.int room)),some (.dat (aM e)),none,none]) Ear.rD (fun r=>.bool (decide (oU e r.2<=room))) R fun r hr=>⟨[some (.dat (aM mk)),some (.dat (.int x)),some (.dat (.list (R.map Ear.rD))),some (.dat (.int room)),some (.dat (aM e)),some (.dat (.int r.1)),some (.dat (aM r.2))],by simp[Ear.rD,Ear.dT],by
  have:=Rm M e r.2 room (by omega) (by rw[hR r hr];decide)
  simp[this]⟩
 have ha:=Y7 (R.map fun r=>decide (oU e r.2<=room))
 rw[aqH]at ha
 simp only[aqx,arj]at ha
 cases hf:Av R room e <;> simp[jM,key,hl,ha] <;> simp[Av]at hf <;> simpa using hf
theorem Qh(M:Mo)(R:List Rw)(room:Int)(hR:uw R)(hl:R.length<=50000)(mk:List Int)(x:Int):∀(es:List (List Int)) (o:Option Cell),(∀e∈es,e.length=6)->
  match es.find? (Av R room) with
   |some e=>iy (aF 4) jM (es.map aM) M [some (.dat (aM mk)),some (.dat (.int x)),some (.dat (.list (R.map Ear.rD))),some (.dat (.int room)),o,none,none]=.ret (aM e) M
   |none=>∃ρ',iy (aF 4) jM (es.map aM) M [some (.dat (aM mk)),some (.dat (.int x)),some (.dat (.list (R.map Ear.rD))),some (.dat (.int room)),o,none,none]=.next ρ' M
 |[],o,_=>⟨_,rfl⟩
 |e::es,o,he=>by
  have h1:=abN M R room hR hl mk x e (he e aqf)
  have ih:=Qh M R room hR hl mk x es (some (.dat (aM e))) fun y hy=>he y (aqe _ hy)
  rw[List.find?_cons]
  cases hf:Av R room e with
  |true=>
   rw[hf,if_pos rfl]at h1
   show iy _ _ _ _ _=_
   rw[aqd,iy]
   simp[h1]
  |false=>
   rw[hf,if_neg (by decide)]at h1
   have e1:iy (aF 4) jM ((e::es).map aM) M [some (.dat (aM mk)),some (.dat (.int x)),some (.dat (.list (R.map Ear.rD))),some (.dat (.int room)),o,none,none]=iy (aF 4) jM (es.map aM) M [some (.dat (aM mk)),some (.dat (.int x)),some (.dat (.list (R.map Ear.rD))),some (.dat (.int room)),some (.dat (aM e)),none,none]:=by
    rw[aqd,jX (by simp) h1]
   rw[e1]
   exact ih
theorem Wc(M:Mo)(mark:List Int)(extra:Int)(R:List Rw)(room:Int)(he:cV mark=true)(hm:0<=extra/\extra<=3)(hR:uw R)(hl:R.length<=50000):oV M [aM mark,.int extra,.list (R.map Ear.rD),.int room]=match (Ov mark extra).find? (Av R room) with
  |some e=>.ok (aM e)
  |none=>.exc ⟨"NoneFree",[]⟩:=by
 have h1:=X8 M mark extra he hm
 have h2:=Qh M R room hR hl mark extra (Ov mark extra) none fun e h=>by
  have:=Vz he hm (aqw.mp h).1
  unfold cV at this
  rw[aqa,decide_eq_true_eq]at this
  exact this.1
 cases hf:(Ov mark extra).find? (Av R room) with
 |some e=>
  rw[hf]at h2
  simp[oV,vX,h1,h2]
 |none=>
  rw[hf]at h2
  obtain⟨ρ',h2⟩:=h2
  simp[oV,vX,h1,h2]
@[simp]theorem alK (L:Lay) (c:aK):(aN L c).cls="Commons":=rfl
theorem any_keys(y:Int)(l:List Int):((l.map fun o=>(PyData.int o,PyData.bool true)).any fun p=>PyData.eqv p.1 (.int y))=decide (y∈l):=by
 have:=any_ints y l
 rw[arj]at this ⊢
 exact this
section
variable{M:Mo}{L:Lay}{c:aK}(a:At M L c)
include a
theorem kJ(o:Int):jf M [ob L.c,.int o]=if o∈c.own then .ok .none else .exc ⟨"NoOwner",[]⟩:=by
 have hc:=a.hc
 have hk:=any_keys o c.own
 simp only[arj,aqx]at hk
 by_cases h:o∈c.own
 ·rw[decide_eq_true h]at hk
  rw[if_pos h]
  simp[jf,lF,hc,aN,aqx,hk]
  rw[if_neg (fun z=>z o h rfl)]
 ·rw[decide_eq_false h]at hk
  rw[if_neg h]
  simp[jf,lF,hc,aN,aqx,hk]
  have hz:∀x:Int,x∈c.own->¬x=o:=fun x hx e=>h (e ▸ hx)
  rw[if_pos hz]
theorem yX(i:cY c)(x:Int):pA M [ob L.c,.int x]=if Vg c x then .ok (.int (roomOf c x)) else .exc ⟨"NoGround",[]⟩:=by
 have hc:=a.hc
 obtain⟨n,m,hg⟩:=a.hg
 have h1:=agR a i x
 by_cases h:Vg c x
 ·rw[if_pos h]at h1 ⊢
  simp[pA,uo,hc,aN,hg,cX,rH,h1]
 ·rw[if_neg h]at h1 ⊢
  simp[pA,uo,hc,aN,hg,cX,rH,h1]
theorem Ab(i:cY c)(x:Int):jV M [ob L.c,.int x]=if Vg c x then .ok (lI (bD c x)) else .exc ⟨"NoGround",[]⟩:=by
 have hc:=a.hc
 obtain⟨n,m,hg⟩:=a.hg
 have h1:=uQ a i x
 by_cases h:Vg c x
 ·rw[if_pos h]at h1 ⊢
  simp[jV,nu,hc,aN,hg,cX,bA,h1]
 ·rw[if_neg h]at h1 ⊢
  simp[jV,nu,hc,aN,hg,cX,bA,h1]
theorem adk:pO M [ob L.c]=.ok (lI c.own):=by
 have hc:=a.hc
 simp[pO,vH,hc,aN,aqx]
theorem qG(few:c.held.length<=50000)(o g:Int):lB M [ob L.c,.int o,.int g]=if bM c o g=[] then .exc ⟨"NoRight",[]⟩ else .ok .none:=by
 have hc:=a.hc
 have hr:=a.hr
 have h1:=Xw a few o g
 by_cases h:bM c o g=[] <;> simp[lB,pY,hc,aN,hr,mU,qU,h1,h]
theorem Ac(few:c.held.length<=50000)(o g:Int){mk:List Int}{r:List (List Int)}(h:bM c o g=mk::r):lA M [ob L.c,.int o,.int g]=.ok (aM mk):=by
 have hc:=a.hc
 have hr:=a.hr
 have h1:=Gz a few o g
 rw[h]at h1
 simp[lA,pN,hc,aN,hr,mU,cI,h1]
end
def inR(c:aK)(near:List Int):List Rw:=(c.held.filter fun r=>decide (r.2.1∈near)).map fun r=>(r.1,r.2.2)
def W4(lo:Int)(x:Nat×Nat×dX):Bool:=x.2.2.sd.due.isSome&&!(((x.1:Int)+1)==lo)
def Nt(L:Lay)(c:aK)(lo:Int)(near:List Int):List Rw:=(((bW L c).filter fun x=>decide (x.2.2.sd.g∈near)&&x.2.2.sd.al).filter (W4 lo)).map fun x=>(x.2.2.sd.o,x.2.2.sd.due.getD [])
def eV(L:Lay)(c:aK)(lo x:Int):List Rw:=inR c (bD c x)++Nt L c lo (bD c x)
section
variable{M:Mo}{L:Lay}{c:aK}(a:At M L c)
include a
theorem Dq(i:cY c)(few:c.held.length<=20000)(fewb:c.bs.length<=20000)(lo x:Int)(h76:(eV L c lo x).eraseDups.length<=76):ig M [ob L.c,.int lo,.int x]=if Vg c x then .ok (.list ((bU (eV L c lo x)).map Ear.rD)) else .exc ⟨"NoGround",[]⟩:=by
 have hc:=a.hc
 have hr:=a.hr
 obtain⟨n,hh⟩:=a.hh
 have h1:=Ab a i x
 by_cases h:Vg c x
 ·rw[if_pos h]at h1 ⊢
  have h2:=Ox a (by omega:c.bs.length<=50000) (bD c x)
  have h3:=VG a (by omega:c.held.length<=50000) (bD c x)
  have h4:=Ks M (eV L c lo x) h76
  have hl:((bW L c).filter fun y=>decide (y.2.2.sd.g∈bD c x)&&y.2.2.sd.al).length<=20000:=aqB (aqq _ _) (by rw[a.len'];exact fewb)
  have hl2:((bW L c).filter fun y=>decide (y.2.2.sd.g∈bD c x)&&y.2.2.sd.al).length<=50000:=by omega
  have key:=gK (tg:=bL [5,6]) (tt:=mK (bB (xH true .none (bH "due" (ao 6)))) (bB (aA Ck (ao 5) (ao 1)))) (te:=bx (ak (gq "owner" (ao 6)) (ak (gq "due" (ao 6)) au))) (M:=M) (ρ:=[some (.dat (ob L.c)),some (.dat (.int lo)),some (.dat (.int x)),some (.dat (lI (bD c x))),none,none,none]) nb (W4 lo) (fun y=>Ear.rD (y.2.2.sd.o,y.2.2.sd.due.getD [])) ((bW L c).filter fun y=>decide (y.2.2.sd.g∈bD c x)&&y.2.2.sd.al) fun y hy=>⟨[some (.dat (ob L.c)),some (.dat (.int lo)),some (.dat (.int x)),some (.dat (lI (bD c x))),none,some (.dat (.int ((y.1:Int)+1))),some (.dat (ob y.2.1))],by simp[nb],by
   obtain⟨n',hb⟩:=a.hb' (aqw.mp hy).1
   cases hd:y.2.2.sd.due <;> simp[hb,iB,hd,qj,W4,oJ],fun hp=>by
   obtain⟨n',hb⟩:=a.hb' (aqw.mp hy).1
   cases hd:y.2.2.sd.due with
   |none=>simp[W4,hd]at hp
   |some e=>simp[hb,iB,hd,qj,Ear.rD,Ear.dT]⟩
  have e1:(c.held.filter fun r=>decide (r.2.1∈bD c x)).map (fun r=>Ear.rD (r.1,r.2.2))=(inR c (bD c x)).map Ear.rD:=by
   unfold inR
   rw[aqH]
   rfl
  have e2:(((bW L c).filter fun y=>decide (y.2.2.sd.g∈bD c x)&&y.2.2.sd.al).filter (W4 lo)).map (fun y=>Ear.rD (y.2.2.sd.o,y.2.2.sd.due.getD []))=(Nt L c lo (bD c x)).map Ear.rD:=by
   unfold Nt
   rw[aqH]
   rfl
  rw[e1]at h3
  rw[e2]at key
  have z1:(inR c (bD c x)).length<=20000:=by
   unfold inR
   rw[aqj]
   exact aqB (aqq _ _) few
  have z2:(Nt L c lo (bD c x)).length<=20000:=by
   unfold Nt
   rw[aqj]
   exact aqB (aqq _ _) hl
  have z3:(inR c (bD c x)).length+(Nt L c lo (bD c x)).length<=100000:=by omega
  unfold eV at h4 ⊢
  rw[aqF]at h4
  simp[ig,jR,hc,aN,bQ,h1,hh,dB,jr,h2,hr,mU,pP,h3]
  simp[key,hl2,z3,h4,hc,aN,hr,mU,h3]
 ·rw[if_neg h]at h1 ⊢
  simp[ig,jR,hc,aN,bQ,h1]
end
def jQ(b:dX):Dat:=.tuple [.int b.sd.o,.int b.sd.g,qj b.sd.due,aM b.sd.ear,.bool b.sd.al,.int b.mo,.tuple (b.fi.dat::b.en.map En.dat)]
theorem agu{M:Mo}{h n:Nat}{b:dX}(hb:M[h]?=some (iB n b)):v9 M [ob h]=.ok (jQ b):=by
 have h1:=Yw hb
 simp[v9,Cj,hb,lM,h1]
 simp[iB,Sd.dat,jQ]
def Xc(c:aK)(k:Nat):Dat:=.tuple [.int (TV c ((k:Int)+1)),aM (bD c ((k:Int)+1))]
def j9(c:aK):Dat:=.tuple [lI c.own,.list ((List.range c.al.length).map (Xc c)),.list (c.held.map gD),.list (c.bs.map jQ)]
section
variable{M:Mo}{L:Lay}{c:aK}(a:At M L c)
include a
theorem aaV(i:cY c)(few:c.held.length<=20000)(fewb:c.bs.length<=20000):lH M [ob L.c]=.ok (j9 c):=by
 have hc:=a.hc
 have hr:=a.hr
 obtain⟨n,m,hg⟩:=a.hg
 obtain⟨n1,hh⟩:=a.hh
 have h1:=aah a
 have h2:=adk a
 have h3:=Z0 a (by omega:c.held.length<=50000)
 have hf:=i.few
 have k1:=gJ (tg:=aF 3) (te:=bx (ak (aP dJ (bH "grounds" (ao 0)) (ak (aq 3) au)) (ak (eU lZ (aP bQ (ao 0) (ak (aq 3) au))) au))) (M:=M) (ρ:=[some (.dat (ob L.c)),none,none,none,none]) (fun(k:Nat)=>PyData.int (1+(k:Int))) (Xc c) (List.range c.al.length) fun k hk=>⟨[some (.dat (ob L.c)),none,none,some (.dat (.int ((k:Int)+1))),none],by simp[Int.add_comm],by
  rw[List.mem_range]at hk
  have hv:Vg c ((k:Int)+1):=by constructor <;> omega
  have g1:=Jo a ((k:Int)+1)
  have g2:=Ab a i ((k:Int)+1)
  rw[if_pos hv]at g1 g2
  simp[hc,aN,hg,cX,dJ,bQ,g1,g2,Xc]⟩
 have hl:=a.len'
 have k2:=fun(o1:Option Cell)=>gJ (tg:=aF 4) (te:=aP u9 (ao 4) au) (M:=M) (ρ:=[some (.dat (ob L.c)),o1,none,none,none]) (fun(x:Nat×Nat×dX)=>ob x.2.1) (fun x=>jQ x.2.2) (bW L c) fun x hx=>⟨[some (.dat (ob L.c)),o1,none,none,some (.dat (ob x.2.1))],by simp,by
  obtain⟨n',hb⟩:=a.hb' hx
  have:=agu hb
  simp[hb,u9,this]⟩
 have e1:(bW L c).map (fun x=>ob x.2.1)=L.bs.map ob:=by
  unfold bW
  apply aqC
  intro j
  simp only[aqm,aqY]
  by_cases hj:j < L.bs.length
  ·have hz:(L.bs.zip c.bs)[j]?=some (L.bs[j],c.bs[j]'(by rw[←a.len];exact hj)):=by
    rw[aqX]
    exact⟨aqc hj,aqc _⟩
   rw[hz,aqc hj]
   rfl
  ·rw[aqD (by omega:L.bs.length<=j),aqD (by rw[List.length_zip];omega)]
   rfl
 have e2:(bW L c).map (fun x=>jQ x.2.2)=c.bs.map jQ:=by
  unfold bW
  apply aqC
  intro j
  simp only[aqm,aqY]
  by_cases hj:j < c.bs.length
  ·have hz:(L.bs.zip c.bs)[j]?=some (L.bs[j]'(by rw[a.len];exact hj),c.bs[j]):=by
    rw[aqX]
    exact⟨aqc _,aqc hj⟩
   rw[hz,aqc hj]
   rfl
  ·rw[aqD (by omega:c.bs.length<=j),aqD (by rw[List.length_zip];omega)]
   rfl
 simp only[e1,e2]at k2
 have r1:ju 1 c.al.length=(List.range c.al.length).map fun(k:Nat)=>PyData.int (1+(k:Int)):=rfl
 have z1:(c.al.length:Int)+1<=100000:=by omega
 have z2 : -100000<=(c.al.length:Int)+1:=by omega
 have z3:c.al.length<=50000:=by omega
 have z4:L.bs.length<=50000:=by rw[a.len];omega
 simp[lH,xP,hc,aN,hg,cX,dZ,h1,z1,z2,r1,k1,z3]
 simp[hc,aN,hh,dB,hr,mU,k2,z4,uG,sO,h2,h3,j9]
end
section
variable{M:Mo}{L:Lay}{c:aK}(a:At M L c)
include a
theorem yP(i:cY c)(few:c.held.length<=20000)(fewb:c.bs.length<=20000)(x:Int)(h76:(eV L c 0 x).eraseDups.length<=76):jZ M [ob L.c,.int x]=if Vg c x then .ok (.list ((bU (eV L c 0 x)).map Ear.rD)) else .exc ⟨"NoGround",[]⟩:=by
 have hc:=a.hc
 have h1:=Dq a i few fewb 0 x h76
 by_cases h:Vg c x
 ·rw[if_pos h]at h1 ⊢
  simp[jZ,oA,hc,cW,h1]
 ·rw[if_neg h]at h1 ⊢
  simp[jZ,oA,hc,cW,h1]
def aj2(o:Int)(e:List Int)(R:List Rw)(room:Int):Out Dat:=match zV o e R room with
 |[]=>.ok .none
 |r::_=>.exc ⟨"Clash",[("ear",aM (jE e r.2)),("others",Ear.rD r),("ones",Ear.rD (o,e))]⟩
omit a in
theorem aep{T:List Rw}(h:Ear.Uq T):T.Nodup:=by
 unfold Ear.Uq at h
 unfold List.Nodup
 exact h.imp fun {x y} z e=>by
  subst e
  exact List.lt_irrefl _ z
theorem JH(ho:∀o∈c.own,o<=c.count)(few:c.own.length<=20000):∃M',gQ M [ob L.c]=.ok (.int (c.count+1)) M'/\At M' L { c with count:=c.count+1,own:=c.own++[c.count+1] }:=by
 have hc:=a.hc
 have hl:∀i,(M.set L.c i)[L.c]?=some i:=fun i=>by rw[bF hc,if_pos rfl]
 have hk:=any_keys (c.count+1) c.own
 have hn:¬(c.count+1)∈c.own:=fun z=>by have:=ho _ z;omega
 rw[decide_eq_false hn]at hk
 have hz:∀x∈c.own,¬x=c.count+1:=fun x hx e=>hn (e ▸ hx)
 have f2:c.own.length < 100000:=by omega
 refine⟨_,?_,a.setC⟩
 simp only[arj,aqx]at hk
 have hd:(c.own.any fun x=>x==c.count+1)=false:=by
  rw[List.any_eq_false]
  intro x hx
  simpa using hz x hx
 simp[gQ,qP,hc,aN,hl,jN,f2,aqx,hd]
end
theorem YC{α:Type}[BEq α][LawfulBEq α](l:List α):l.eraseDups.length<=l.length:=by
 induction hn:l.length using Nat.strongRecOn generalizing l with
 |_ n ih=>
  cases l with
  |nil=>simp
  |cons a r=>
   rw[aq9]
   simp only[aqn]at hn ⊢
   have hl:(r.filter fun b=>!b==a).length<=r.length:=aqq _ _
   have:=ih _ (by omega) (r.filter fun b=>!b==a) rfl
   omega
theorem W0{S:List Rw}(h:S.eraseDups.length<=76):(bU S).eraseDups.length<=76:=aqB (YC _) (by rw[rQ];exact h)
theorem yW{S:List Rw}(h:uw S):uw (bU S):=fun r hr=>h r (lG.mp hr)
section
variable{M:Mo}{L:Lay}{c:aK}(a:At M L c)
include a
theorem VH(i:cY c)(few:c.held.length<=20000)(fewb:c.bs.length<=20000)(o x:Int)(e:List Int)(he:e.length=6)(hv:Vg c x)(h76:(eV L c 0 x).eraseDups.length<=76)(hE:uw (eV L c 0 x)):fZ M [ob L.c,.int o,aM e,.int x]=aj2 o e (bU (eV L c 0 x)) (roomOf c x):=by
 have hc:=a.hc
 have h1:=yP a i few fewb x h76
 have h2:=yX a i x
 rw[if_pos hv]at h1 h2
 have h3:=MK M o e (bU (eV L c 0 x)) (roomOf c x) he (yW hE) (W0 h76)
 unfold aj2
 cases hb:zV o e (bU (eV L c 0 x)) (roomOf c x) with
 |nil=>
  rw[hb]at h3
  simp[fZ,lC,hc,cA,bZ,h1,h2,h3]
 |cons r rs=>
  rw[hb]at h3
  simp[fZ,lC,hc,cA,bZ,h1,h2,h3]
end
section
variable{M:Mo}{L:Lay}{c:aK}(a:At M L c)
include a
def Hz(L:Lay)(c:aK)(x y:Int):List Rw:=bU (eV L c 0 x)++bU (eV L c 0 y)
def vA(c:aK)(x y:Int):Int:=if roomOf c y > roomOf c x then roomOf c y else roomOf c x
theorem Zm(i:cY c)(few:c.held.length<=20000)(fewb:c.bs.length<=20000)(x y:Int)(hx:Vg c x)(hy:Vg c y)(h1:(eV L c 0 x).eraseDups.length<=76)(h2:(eV L c 0 y).eraseDups.length<=76)(h3:(Hz L c x y).eraseDups.length<=76)(e1:uw (eV L c 0 x))(e2:uw (eV L c 0 y)):j6 M [ob L.c,.int x,.int y]=.ok (.list ((lQ (bU (Hz L c x y)) (vA c x y)).map pairD)):=by
 have hc:=a.hc
 have s1:=yP a i few fewb x h1
 have s2:=yP a i few fewb y h2
 have r1:=yX a i x
 have r2:=yX a i y
 rw[if_pos hx]at s1 r1
 rw[if_pos hy]at s2 r2
 have hE:uw (Hz L c x y):=fun r hr=>by
  rcases aqo.mp hr with hr|hr
  ·exact yW e1 r hr
  ·exact yW e2 r hr
 have k:=ZW M (Hz L c x y) (vA c x y) hE h3
 have l1:(bU (eV L c 0 x)).length<=76:=by rw[rQ];exact h1
 have l2:(bU (eV L c 0 y)).length<=76:=by rw[rQ];exact h2
 have l3:(bU (eV L c 0 x)).length+(bU (eV L c 0 y)).length<=100000:=by omega
 have k':tD M [.list ((bU (eV L c 0 x)).map Ear.rD++(bU (eV L c 0 y)).map Ear.rD),.int (if roomOf c y > roomOf c x then roomOf c y else roomOf c x)]=.ok (.list ((lQ (bU (Hz L c x y)) (vA c x y)).map pairD)):=by
  rw[←aqF]
  exact k
 simp[j6,sH,hc,cA,bZ,s1,s2,r1,r2,l3]
 simp at k'
 exact k' ▸ (by simp[k'])
end
def abG(c:aK)(lo:Int)(near:List Int):List Rw:=((c.bs.mapIdx fun i b=>(i,b)).filter fun x=>(x.2.sd.due.isSome&&!(((x.1:Int)+1)==lo))&&(decide (x.2.sd.g∈near)&&x.2.sd.al)).map fun x=>(x.2.sd.o,x.2.sd.due.getD [])
def fO(c:aK)(lo x:Int):List Rw:=inR c (bD c x)++abG c lo (bD c x)
theorem Kf{M:Mo}{L:Lay}{c:aK}(a:At M L c):(bW L c).map (fun x=>(x.1,x.2.2))=c.bs.mapIdx fun i b=>(i,b):=by
 unfold bW
 apply aqC
 intro j
 simp only[aqm,aqY]
 by_cases hj:j < c.bs.length
 ·have hz:(L.bs.zip c.bs)[j]?=some (L.bs[j]'(by rw[a.len];exact hj),c.bs[j]):=by
   rw[aqX]
   exact⟨aqc _,aqc hj⟩
  rw[hz,aqc hj]
  rfl
 ·rw[aqD (by omega:c.bs.length<=j),aqD (by rw[List.length_zip];omega)]
  rfl
theorem jL{M:Mo}{L:Lay}{c:aK}(a:At M L c)(lo x:Int):eV L c lo x=fO c lo x:=by
 unfold eV fO Nt abG
 rw[←Kf a,List.filter_map,aqH,arf]
 rfl
inductive bJ where
 |owner|ground (x:Int)|enrol (o g:Int) (m:List Int)|leave (o g:Int)|bring (o g:Int) (e:List Int)|bear (k:Int)|cut (k:Int)|tear (k p:Int)|sell (k o:Int)|move (k g:Int)|die (k:Int)|yH (x y:Int)|part (x:Int)|pass (e h:Int)|heir (e g x:Int)
def bJ.dat:bJ->Dat
 |.owner=>.tuple [.str "owner"]
 |.ground x=>.tuple [.str "ground",.int x]
 |.enrol o g m=>.tuple [.str "enrol",.int o,.int g,aM m]
 |.leave o g=>.tuple [.str "leave",.int o,.int g]
 |.bring o g m=>.tuple [.str "bring",.int o,.int g,aM m]
 |.bear k=>.tuple [.str "bear",.int k]
 |.cut k=>.tuple [.str "cut",.int k]
 |.tear k p=>.tuple [.str "tear",.int k,.int p]
 |.sell k o=>.tuple [.str "sell",.int k,.int o]
 |.move k g=>.tuple [.str "move",.int k,.int g]
 |.die k=>.tuple [.str "die",.int k]
 |.yH x y=>.tuple [.str "unite",.int x,.int y]
 |.part x=>.tuple [.str "part",.int x]
 |.pass e h=>.tuple [.str "pass",.int e,.int h]
 |.heir e g x=>.tuple [.str "heir",.int e,.int g,.int x]
inductive Res where
 |ok (d:Dat) (c:aK)|no (x:dI)
def Fl(o:Int)(e:List Int)(r:Rw):dI:=⟨"Clash",[("ear",aM (jE e r.2)),("others",Ear.rD r),("ones",Ear.rD (o,e))]⟩
def firstM(c:aK)(o g:Int):List Int:=(bM c o g).headD []
def Af(o:Int)(e:List Int)(R:List Rw)(room:Int)(r:Res):Res:=match zV o e (bU R) room with
 |[]=>r
 |x::_=>.no (Fl o e x)
def Hj(c:aK)(x y:Int):List Rw:=bU (fO c 0 x)++bU (fO c 0 y)
def rF(c:aK)(x:Int):List Int:=(bD c x).filter fun y=>!(y==x)
def O8(c:aK)(e:Int):List Int:=((c.bs.mapIdx fun i b=>(i,b)).filter fun x=>(x.2.sd.o==e)&&x.2.sd.al).map fun x=>(x.1:Int)+1
def Wk(o g:Int)(b:dX):Bool:=(decide (b.sd.g∈[g])&&b.sd.al)&&(b.sd.o==o)
def sV(c:aK)(k:Int)(f:dX->Res):Res:=match bk c k with
 |none=>.no ⟨"NoBeast",[]⟩
 |some b=>if b.sd.al=true then f b else .no ⟨"Dead",[]⟩
def markB(c:aK)(k:Int)(f:dX->List Int->Res):Res:=sV c k fun b=>match b.sd.due with
 |none=>.no ⟨"Unmarked",[]⟩
 |some e=>f b e
def xU(c:aK)(k o g:Int):aK:=oF (fun x=>yJ k x&&x.sd.al) (.followed o g) c
def rK(c:aK)(o:Int)(r:Res):Res:=if o∈c.own then r else .no ⟨"NoOwner",[]⟩
def vY(c:aK)(g:Int)(r:Res):Res:=if Vg c g then r else .no ⟨"NoGround",[]⟩
def JR(e:List Int)(r:Res):Res:=if cV e=true then r else .no ⟨"BadEar",[]⟩
def nZ(c:aK)(o g:Int)(r:Res):Res:=if bM c o g=[] then .no ⟨"NoRight",[]⟩ else r
def cD(c:aK):bJ->Res
 |.owner=>.ok (.int (c.count+1)) { c with count:=c.count+1,own:=c.own++[c.count+1] }
 |.ground x=>if 0<=x/\x<=9 then .ok (.int (c.al.length+1)) { c with al:=c.al++[x],ci:=c.ci++[[(c.al.length:Int)+1]] } else .no ⟨"BadAllowance",[]⟩
 |.enrol o g m=>rK c o <|vY c g <|JR m <|if m=[0,0,0,0,0,0] then .no ⟨"Bare",[]⟩ else if m∈bM c o g then .no ⟨"HasRight",[]⟩ else Af o m (fO c 0 g) (roomOf c g) (.ok .none { c with held:=c.held++[(o,g,m)] })
 |.leave o g=>rK c o <|vY c g <|nZ c o g <|if c.bs.any (Wk o g)=true then .no ⟨"StillThere",[]⟩ else .ok (.list ((bM c o g).map aM)) { c with held:=dropped c o g }
 |.bring o g e=>rK c o <|vY c g <|JR e <|nZ c o g <|.ok (.int (c.bs.length+1)) { c with bs:=c.bs++[Ad (.brought o g e)] }
 |.bear k=>markB c k fun b _=>.ok (.int (c.bs.length+1)) { c with bs:=c.bs++[Ad (.born k b.sd.o b.sd.g)] }
 | .cut k=>sV c k fun b=>Af b.sd.o (jE b.sd.ear (firstM c b.sd.o b.sd.g)) (fO c 0 b.sd.g) (roomOf c b.sd.g) (.ok (aM (jE b.sd.ear (firstM c b.sd.o b.sd.g))) (fV c (k - 1).toNat (.cut (jE b.sd.ear (firstM c b.sd.o b.sd.g)))))
 |.tear k p=>sV c k fun b=>if 0<=p/\p < 6 then(if 9<=b.sd.ear.getD p.toNat 0 then .no ⟨"Deepest",[]⟩ else .ok (aM (vW b.sd.ear p.toNat)) (fV c (k - 1).toNat (.torn p.toNat))) else .no ⟨"NoPlace",[]⟩
 |.sell k o=>markB c k fun b _=>rK c o <|if b.sd.o=o then .no ⟨"SameOwner",[]⟩ else nZ c o b.sd.g <| Af o (jE b.sd.ear (firstM c o b.sd.g)) (fO c k b.sd.g) (roomOf c b.sd.g) (.ok (aM (jE b.sd.ear (firstM c o b.sd.g))) (xU (fV c (k - 1).toNat (.sold o (jE b.sd.ear (firstM c o b.sd.g)))) k o b.sd.g))
 |.move k g=>markB c k fun b e=>vY c g <|if b.sd.g=g then .no ⟨"SameGround",[]⟩ else nZ c b.sd.o g <|Af b.sd.o e (fO c 0 g) (roomOf c g) (.ok (.int b.sd.g) (xU (fV c (k - 1).toNat (.moved g)) k b.sd.o g))
 |.die k=>sV c k fun _=>.ok .none (fV c (k - 1).toNat .died)
 |.yH x y=>vY c y <|vY c x <|if y∈bD c x then .no ⟨"Together",[]⟩ else match lQ (bU (Hj c x y)) (vA c x y) with
  |p::_=>.no (Fl p.1.1 p.1.2 p.2)
  |[]=>.ok (lI (sortI (bD c x++bD c y))) { c with ci:=encl c.ci (sortI (bD c x++bD c y)) }
 |.part x=>vY c x <|if rF c x=[] then .no ⟨"Alone",[]⟩ else .ok (lI (rF c x)) { c with ci:=encl (encl c.ci [x]) (rF c x) }
 |.pass e h=>rK c e <|rK c h <|if e=h then .no ⟨"SameOwner",[]⟩ else .ok (lI (O8 c e)) { oF (fun b=>(b.sd.o==e)&&b.sd.al) (.passed h) c with own:=c.own.filter (fun o=>!(o==e)),held:=handed c e h }
 | .heir e g x=>rK c e <| vY c g <| if 1<=x/\x<=3 then nZ c e g (match (Ov (firstM c e g) x).find? (Av (bU (fO c 0 g)) (roomOf c g)) with
  |some mk=>.ok (.tuple [.int (c.count+1),aM mk]) { c with count:=c.count+1,own:=c.own++[c.count+1],held:=c.held++[(c.count+1,g,mk)] }
  |none=>.no ⟨"NoneFree",[]⟩) else .no ⟨"BadExtra",[]⟩
structure Inv(n s:Nat)(c:aK):Prop where
 gr:cY c
 al:c.al.length<=n
 cnt:0<=c.count/\c.count<=n
 own:∀o∈c.own,1<=o/\o<=c.count
 Oo:c.own.Nodup
 ownL:c.own.length<=n
 held:c.held.Nodup
 hL:c.held.length+c.bs.length<=s
 hE:∀r∈c.held,r.1∈c.own/\Vg c r.2.1/\cV r.2.2=true
 ear:∀b∈c.bs,cV b.sd.ear=true
 due:∀b∈c.bs,∀e,b.sd.due=some e->cV e=true
 en:∀b∈c.bs,b.en.length<=2 * n
 rt:∀b∈c.bs,b.sd.al=true->∃m,(b.sd.o,b.sd.g,m)∈c.held
theorem gG{x:List Int}(h:cV x=true):x.length=6:=by
 unfold cV at h
 simp at h
 exact h.1
theorem BZ{α:Type}[BEq α][LawfulBEq α]:∀{l S:List α},l.Nodup->(∀x∈l,x∈S)->l.length<=S.length
 |[],_,_,_=>by simp
 |x::l,S,nd,h=>by
  rw[aqZ]at nd
  have hx:=h x aqf
  have:=BZ (l:=l) (S:=S.erase x) nd.2 fun y hy=>by
   have:y≠x:=fun z=>nd.1 (z ▸ hy)
   exact(List.mem_erase_of_ne this).mpr (h y (aqe _ hy))
  rw[List.length_erase_of_mem hx]at this
  have:=List.length_pos_of_mem hx
  rw[aqn]
  omega
def Le(c:aK):List Rw:=c.held.map (fun r=>(r.1,r.2.2))++c.bs.map fun b=>(b.sd.o,b.sd.due.getD [])
theorem aag{c:aK}{near:List Int}{r:Rw}(h:r∈inR c near):∃g,(r.1,g,r.2)∈c.held/\g∈near:=by
 unfold inR at h
 obtain⟨x,h1,rfl⟩:=aqk.mp h
 obtain⟨h2,h3⟩:=aqw.mp h1
 exact⟨x.2.1,h2,by simpa using h3⟩
theorem Yh{c:aK}{lo:Int}{near:List Int}{r:Rw}(h:r∈abG c lo near):∃(i:Nat) (b:dX),c.bs[i]?=some b/\b.sd.o=r.1/\b.sd.due=some r.2/\b.sd.al=true/\b.sd.g∈near/\(i:Int)+1≠lo:=by
 unfold abG at h
 obtain⟨x,h1,rfl⟩:=aqk.mp h
 obtain⟨h2,h3⟩:=aqw.mp h1
 obtain⟨i,hi,rfl⟩:=List.mem_mapIdx.mp h2
 simp only[aqa,decide_eq_true_eq,aqs,beq_eq_false_iff_ne]at h3
 obtain⟨⟨h4,h5⟩,h6,h7⟩:=h3
 refine⟨i,c.bs[i],aqc hi,rfl,?_,h7,h6,h5⟩
 cases hd:c.bs[i].sd.due with
 |none=>simp[hd]at h4
 |some e=>rfl
theorem pX{c:aK}{lo x:Int}{r:Rw}(h:r∈fO c lo x):r∈Le c:=by
 unfold Le
 rcases aqo.mp h with h|h
 ·obtain⟨g,h1,_⟩:=aag h
  exact aqL _ (aqk.mpr ⟨_,h1,rfl⟩)
 ·obtain⟨i,b,h1,h2,h3,_⟩:=Yh h
  refine aq4 _ (aqk.mpr ⟨b,aqh h1,?_⟩)
  rw[h2,h3]
  rfl
section
variable{n s:Nat}{c:aK}(I:Inv n s c)
include I
theorem Inv.few{R:List Rw}(h:∀r∈R,r∈Le c):R.eraseDups.length<=s:=by
 have h1:=BZ (l:=bU R) (S:=Le c) (aep (YQ R)) fun r hr=>h r (lG.mp hr)
 rw[rQ]at h1
 have:(Le c).length=c.held.length+c.bs.length:=by simp[Le]
 have:=I.hL
 omega
theorem Inv.Nv{lo x:Int}:uw (fO c lo x):=fun r hr=>by
 rcases aqo.mp hr with h|h
 ·obtain⟨g,h1,_⟩:=aag h
  exact gG (I.hE _ h1).2.2
 ·obtain⟨i,b,h1,h2,h3,_⟩:=Yh h
  exact gG (I.due b (aqh h1) _ h3)
theorem Inv.bi:Jm (2 * n) c:=⟨fun b hb=>gG (I.ear b hb),I.en⟩
theorem Inv.mk1{o g:Int}(h:bM c o g≠[]):∃r,bM c o g=firstM c o g::r/\cV (firstM c o g)=true:=by
 cases hm:bM c o g with
 |nil=>exact absurd hm h
 |cons m r=>
  refine⟨r,by simp[firstM,hm],?_⟩
  have:m∈bM c o g:=by rw[hm];exact aqf
  unfold bM at this
  obtain⟨x,h1,rfl⟩:=aqk.mp this
  have e:firstM c o g=x.2.2:=by simp[firstM,hm]
  rw[e]
  exact(I.hE x (aqw.mp h1).1).2.2
end
theorem CP{c:aK}{o g:Int}{m:List Int}:m∈bM c o g↔(o,g,m)∈c.held:=by
 unfold bM
 rw[aqk]
 constructor
 ·rintro⟨⟨x,y,z⟩,h,rfl⟩
  obtain⟨h1,h2⟩:=aqw.mp h
  simp at h2
  obtain⟨rfl,rfl⟩:=h2
  exact h1
 ·intro h
  exact⟨_,aqw.mpr ⟨h,by simp⟩,rfl⟩
theorem xR{c:aK}{o g:Int}:bM c o g≠[]↔∃m,(o,g,m)∈c.held:=by
 constructor
 ·intro h
  obtain⟨m,hm⟩:=List.exists_mem_of_ne_nil _ h
  exact⟨m,CP.mp hm⟩
 ·rintro⟨m,hm⟩ z
  have:=CP.mpr hm
  rw[z]at this
  cases this
theorem Dt{x y:List Int}(hx:cV x=true)(hy:cV y=true):cV (jE x y)=true:=by
 have lx:=gG hx
 have ly:=gG hy
 unfold cV at *
 simp only[aqa,decide_eq_true_eq,aqu]at *
 refine⟨by simp[jE];omega,fun d hd=>?_⟩
 unfold jE at hd
 obtain⟨p,hp,rfl⟩:=aqk.mp hd
 have h1:=hx.2 p.1 (List.of_mem_zip hp).1
 have h2:=hy.2 p.2 (List.of_mem_zip hp).2
 split <;> omega
theorem Ep(n:Nat)(x:List Int):okd (n+1) (aM x)=true:=by
 show okd (n+1) (.tuple (x.map PyData.int))=true
 rw[okd]
 exact Ul n x
theorem agh(x y:List Int):cH (aM x) (aM y)=.ok (.bool (decide (x=y))):=by
 show(Out.when (okd 12 (aM x)&&okd 12 (aM y)) (.ok (PyData.eqv (aM x) (aM y)))).bind _=_
 rw[Ep 11,Ep 11,Xl,yG]
 rfl
theorem af7(neg:Bool)(m:List Int)(ms:List (List Int)):inD neg (aM m) (.list (ms.map aM))=.ok (.bool (neg ^^ decide (m∈ms))):=by
 have h1:mW 12 (ms.map aM)=true:=Ij.mpr fun d hd=>by
  obtain⟨x,_,rfl⟩:=aqk.mp hd
  exact Ep 11 x
 have h2:((ms.map aM).any fun z=>PyData.eqv z (aM m))=decide (m∈ms):=by
  induction ms with
  |nil=>simp
  |cons x ms ih=>
   have h1':mW 12 (ms.map aM)=true:=Ij.mpr fun d hd=>by
    obtain⟨x,_,rfl⟩:=aqk.mp hd
    exact Ep 11 x
   rw[aqd,aq1,ih h1',Xl,yG]
   by_cases h:x=m
   ·simp[h]
   ·have:¬m=x:=fun z=>h z.symm
    simp[h,this]
 show(Out.when (okd 12 (aM m)&&mW 12 (ms.map aM)) (.ok ((ms.map aM).any fun z=>PyData.eqv z (aM m)))).bind _=_
 rw[h1,h2,Ep 11]
 rfl
def Sp(M:Mo)(L:Lay)(o:aY Dat):Res->Prop
 |.ok d c'=>∃M' bs,o=.ok d M'/\At M' { L with bs:=bs } c'
 |.no x=>o=.exc x M
section
variable{M:Mo}{L:Lay}{c:aK}(a:At M L c){n s:Nat}(I:Inv n s c)(hs:s<=76)(hn:n<=199)
include a I hn
theorem ahr:Sp M L (gQ M [ob L.c]) (cD c .owner):=by
 obtain⟨M',h1,h2⟩:=JH a (fun o ho=>(I.own o ho).2) (by have:=I.ownL;omega)
 exact⟨M',L.bs,h1,h2⟩
theorem ae8(x:Int):Sp M L (fX M [ob L.c,.int x]) (cD c (.ground x)):=by
 have hc:=a.hc
 obtain⟨n,m,hg⟩:=a.hg
 have hl:=I.al
 have h1:=V8 a I.gr (by omega) x
 simp only[cD]
 by_cases h:0<=x/\x<=9
 ·rw[if_pos h]at h1 ⊢
  obtain⟨M',h1,h2⟩:=h1
  exact⟨M',L.bs,by simp[fX,lE,hc,aN,hg,cX,kh,h1],h2⟩
 ·rw[if_neg h]at h1 ⊢
  show _=_
  simp[fX,lE,hc,aN,hg,cX,kh,h1]
include hs
omit hn
theorem YZ(o x:Int)(e:List Int)(he:e.length=6)(hv:Vg c x):fZ M [ob L.c,.int o,aM e,.int x]=match zV o e (bU (fO c 0 x)) (roomOf c x) with
  |[]=>.ok .none
  |r::_=>.exc (Fl o e r):=by
 have h1:=I.hL
 have h76:=I.few (R:=fO c 0 x) fun r hr=>pX hr
 have:=VH a I.gr (by omega) (by omega) o x e he hv (by rw[jL a];omega) (by rw[jL a];exact I.Nv)
 rw[jL a]at this
 exact this
theorem agJ(o g:Int)(m:List Int)(hm:m.length<=1000):Sp M L (dN M [ob L.c,.int o,.int g,aM m]) (cD c (.enrol o g m)):=by
 have hc:=a.hc
 have hr:=a.hr
 obtain⟨n1,m1,hg⟩:=a.hg
 have hL:=I.hL
 have h1:=kJ a o
 have h2:=vN a g
 have h3:=Mp M m hm
 have h4:=Gz a (by omega) o g
 simp only[cD,rK,vY,JR,Af]
 by_cases e1:o∈c.own
 rotate_left
 ·rw[if_neg e1]at h1 ⊢
  show _=_
  simp[dN,fP,hc,aN,aC,h1]
 rw[if_pos e1]at h1 ⊢
 by_cases e2:Vg c g
 rotate_left
 ·rw[if_neg e2]at h2 ⊢
  show _=_
  simp[dN,fP,hc,aN,aC,h1,hg,cX,aG,h2]
 rw[if_pos e2]at h2 ⊢
 by_cases e3:cV m=true
 rotate_left
 ·rw[if_neg e3]at h3 ⊢
  show _=_
  simp[dN,fP,hc,aN,aC,h1,hg,cX,aG,h2,h3]
 rw[if_pos e3]at h3 ⊢
 have h5:cH (.tuple (m.map PyData.int)) (.tuple [.int 0,.int 0,.int 0,.int 0,.int 0,.int 0])=_:=agh m [0,0,0,0,0,0]
 by_cases e4:m=[0,0,0,0,0,0]
 ·rw[if_pos e4]
  rw[decide_eq_true e4]at h5
  show _=_
  simp[dN,fP,hc,aN,aC,h1,hg,cX,aG,h2,h3,jd]
  simp[h5]
 rw[if_neg e4]
 rw[decide_eq_false e4]at h5
 have h6:=af7 false m (bM c o g)
 by_cases e5:m∈bM c o g
 ·rw[if_pos e5]
  rw[decide_eq_true e5]at h6
  simp at h6
  show _=_
  simp[dN,fP,hc,aN,aC,h1,hg,cX,aG,h2,h3,jd,h5,hr,mU,cI,h4,h6]
 rw[if_neg e5]
 rw[decide_eq_false e5]at h6
 simp at h6
 have h7:=YZ a I hs o g m (gG e3) e2
 cases e6:zV o m (bU (fO c 0 g)) (roomOf c g) with
 |cons r rs=>
  rw[e6]at h7
  show _=_
  simp[dN,fP,hc,aN,aC,h1,hg,cX,aG,h2,h3,jd,h5,hr,mU,cI,h4,h6,bR,h7]
 |nil=>
  rw[e6]at h7
  have h8:=KD a (by omega) o g m
  rw[if_neg fun z=>e5 (CP.mpr z)]at h8
  obtain⟨M',h8,h9⟩:=h8
  refine⟨M',L.bs,?_,h9⟩
  simp[dN,fP,hc,aN,aC,h1,hg,cX,aG,h2,h3,jd,h5,hr,mU,cI,h4,h6,bR,h7,gU,h8]
end
@[simp]theorem ap5 (n:Nat) (b:dX):List.lookup ("owner" : Str) (iB n b).fs=some (.dat (.int b.sd.o)):=by simp[iB]
@[simp]theorem ap7 (n:Nat) (b:dX):List.lookup ("ground" : Str) (iB n b).fs=some (.dat (.int b.sd.g)):=by simp[iB]
@[simp]theorem ap4 (n:Nat) (b:dX):List.lookup ("due" : Str) (iB n b).fs=some (.dat (qj b.sd.due)):=by simp[iB]
@[simp]theorem ap6 (n:Nat) (b:dX):List.lookup ("ear" : Str) (iB n b).fs=some (.dat (aM b.sd.ear)):=by simp[iB]
@[simp]theorem apR (n:Nat) (b:dX):List.lookup ("alive" : Str) (iB n b).fs=some (.dat (.bool b.sd.al)):=by simp[iB]
section
variable{M:Mo}{L:Lay}{c:aK}(a:At M L c){n s:Nat}(I:Inv n s c)(hs:s<=76)
include a I hs
theorem af2(o g:Int):Sp M L (fJ M [ob L.c,.int o,.int g]) (cD c (.leave o g)):=by
 have hc:=a.hc
 have hr:=a.hr
 obtain⟨n1,m1,hg⟩:=a.hg
 obtain⟨n2,hh⟩:=a.hh
 have hL:=I.hL
 have h1:=kJ a o
 have h2:=vN a g
 have h3:=qG a (by omega) o g
 simp only[cD,rK,vY,nZ]
 by_cases e1:o∈c.own
 rotate_left
 ·rw[if_neg e1]at h1 ⊢
  show _=_
  simp[fJ,iZ,hc,aN,aC,h1]
 rw[if_pos e1]at h1 ⊢
 by_cases e2:Vg c g
 rotate_left
 ·rw[if_neg e2]at h2 ⊢
  show _=_
  simp[fJ,iZ,hc,aN,aC,h1,hg,cX,aG,h2]
 rw[if_pos e2]at h2 ⊢
 by_cases e3:bM c o g=[]
 ·rw[if_pos e3]at h3 ⊢
  show _=_
  simp[fJ,iZ,hc,aN,aC,h1,hg,cX,aG,h2,aJ,h3]
 rw[if_neg e3]at h3 ⊢
 have h4:o9 M [ob L.h,.list [.int g]]=_:=Ox a (by omega) [g]
 have key:=gJ (tg:=bL [3,4]) (te:=aA cH (bH "owner" (ao 4)) (ao 1)) (M:=M) (ρ:=[some (.dat (ob L.c)),some (.dat (.int o)),some (.dat (.int g)),none,none]) nb (fun x=>.bool (x.2.2.sd.o==o)) ((bW L c).filter fun x=>decide (x.2.2.sd.g∈[g])&&x.2.2.sd.al) fun x hx=>⟨[some (.dat (ob L.c)),some (.dat (.int o)),some (.dat (.int g)),some (.dat (.int ((x.1:Int)+1))),some (.dat (ob x.2.1))],by simp[nb],by
  obtain⟨n,hb⟩:=a.hb' (aqw.mp hx).1
  simp[hb,iB]⟩
 have hl:((bW L c).filter fun x=>decide (x.2.2.sd.g∈[g])&&x.2.2.sd.al).length<=50000:=aqB (aqq _ _) (by rw[a.len'];omega)
 have h5:N7 (.list (((bW L c).filter fun x=>decide (x.2.2.sd.g∈[g])&&x.2.2.sd.al).map fun x=>PyData.bool (x.2.2.sd.o==o)))=.ok (.bool (c.bs.any (Wk o g))):=by
  have e:(((bW L c).filter fun x=>decide (x.2.2.sd.g∈[g])&&x.2.2.sd.al).map fun x=>PyData.bool (x.2.2.sd.o==o))=(((bW L c).filter fun x=>decide (x.2.2.sd.g∈[g])&&x.2.2.sd.al).map fun x=>(x.2.2.sd.o==o)).map PyData.bool:=by rw[aqH];rfl
  rw[e,Y7,arj,List.any_filter]
  have e2:=Kf a
  have e3:(bW L c).map (fun x=>x.2.2)=c.bs:=by
   have:(bW L c).map (fun x=>x.2.2)=((bW L c).map (fun x=>(x.1,x.2.2))).map (·.2):=by rw[aqH];rfl
   rw[this,e2]
   apply aqC
   intro i
   simp
   cases c.bs[i]? <;> rfl
  conv=>rhs;rw[←e3]
  rw[arj]
  rfl
 cases e4:c.bs.any (Wk o g) with
 |true=>
  rw[e4]at h5
  show _=_
  simp[fJ,iZ,hc,aN,aC,h1,hg,cX,aG,h2,aJ,h3,hh,dB,jr]
  simp at h4 key h5 hl
  simp[h4,key,hl,h5]
 |false=>
  rw[e4]at h5
  have h6:=af9 a (by omega) I.held o g
  rw[if_neg e3]at h6
  obtain⟨M',h6,h7⟩:=h6
  refine⟨M',L.bs,?_,h7⟩
  simp[fJ,iZ,hc,aN,aC,h1,hg,cX,aG,h2,aJ,h3,hh,dB,jr]
  simp at h4 key h5 hl
  simp[h4,key,hl,h5,hc,aN,hr,mU,yx,h6]
theorem afT(o g:Int)(m:List Int)(hm:m.length<=1000):Sp M L (fK M [ob L.c,.int o,.int g,aM m]) (cD c (.bring o g m)):=by
 have hc:=a.hc
 have hr:=a.hr
 obtain⟨n1,m1,hg⟩:=a.hg
 obtain⟨n2,hh⟩:=a.hh
 have hL:=I.hL
 have h1:=kJ a o
 have h2:=vN a g
 have h3:=Mp M m hm
 have h4:=qG a (by omega) o g
 simp only[cD,rK,vY,JR,nZ]
 by_cases e1:o∈c.own
 rotate_left
 ·rw[if_neg e1]at h1 ⊢
  show _=_
  simp[fK,jm,hc,aN,aC,h1]
 rw[if_pos e1]at h1 ⊢
 by_cases e2:Vg c g
 rotate_left
 ·rw[if_neg e2]at h2 ⊢
  show _=_
  simp[fK,jm,hc,aN,aC,h1,hg,cX,aG,h2]
 rw[if_pos e2]at h2 ⊢
 by_cases e3:cV m=true
 rotate_left
 ·rw[if_neg e3]at h3 ⊢
  show _=_
  simp[fK,jm,hc,aN,aC,h1,hg,cX,aG,h2,h3]
 rw[if_pos e3]at h3 ⊢
 by_cases e4:bM c o g=[]
 ·rw[if_pos e4]at h4 ⊢
  show _=_
  simp[fK,jm,hc,aN,aC,h1,hg,cX,aG,h2,h3,aJ,h4]
 rw[if_neg e4]at h4 ⊢
 obtain⟨M',h,h5,h6⟩:=Kh a (by omega) (.brought o g m) (by omega)
 refine⟨M',L.bs++[h],?_,h6⟩
 simp[Fi.dat]at h5
 simp[fK,jm,hc,aN,aC,h1,hg,cX,aG,h2,h3,aJ,h4,hh,dB,jx,h5]
theorem abX(k:Int):Sp M L (iW M [ob L.c,.int k]) (cD c (.bear k)):=by
 have hc:=a.hc
 obtain⟨n2,hh⟩:=a.hh
 have hL:=I.hL
 have h1:=Jy a (by omega) k
 simp only[cD,markB,sV]
 cases hk:bk c k with
 |none=>
  rw[hk]at h1
  show _=_
  simp[iW,lK,hc,aN,hh,dB,bh,h1]
 |some b=>
  rw[hk]at h1
  obtain⟨_,_,_,_,n3,hb⟩:=qK a hk
  show Sp M L _ (if b.sd.al=true then _ else _)
  cases e1:b.sd.al with
  |false=>
   simp[e1]at h1
   show _=_
   simp[iW,lK,hc,aN,hh,dB,bh,h1]
  |true=>
   simp[e1]at h1
   cases e2:b.sd.due with
   |none=>
    simp[e2]at h1
    show _=_
    simp[iW,lK,hc,aN,hh,dB,bh,h1]
   |some e=>
    simp[e2]at h1
    simp only[if_true]
    obtain⟨M',h,h5,h6⟩:=Kh a (by omega) (.born k b.sd.o b.sd.g) (by omega)
    refine⟨M',L.bs++[h],?_,h6⟩
    simp[Fi.dat]at h5
    simp[iW,lK,hc,aN,hh,dB,bh,h1,hb,iB,jx,h5]
theorem alc(k:Int)(hn:n<=1000):Sp M L (kE M [ob L.c,.int k]) (cD c (.die k)):=by
 have hc:=a.hc
 obtain⟨n2,hh⟩:=a.hh
 have hL:=I.hL
 have h1:=CJ a (by omega) k
 simp only[cD,sV]
 cases hk:bk c k with
 |none=>
  rw[hk]at h1
  show _=_
  simp[kE,qw,hc,aN,hh,dB,bG,h1]
 |some b=>
  rw[hk]at h1
  obtain⟨_,_,h3,h4,n3,hb⟩:=qK a hk
  show Sp M L _ (if b.sd.al=true then _ else _)
  cases e1:b.sd.al with
  |false=>
   simp[e1]at h1
   show _=_
   simp[kE,qw,hc,aN,hh,dB,bG,h1]
  |true=>
   simp[e1]at h1
   have mem:=aqh h4
   simp only[if_true]
   have h5:=sU hb .died (by rw[gG (I.ear b mem)];decide) (by have:=I.en b mem;omega)
   refine⟨_,L.bs,?_,xM (n:=n3) (e:=.died) a h3 h4⟩
   simp[En.dat]at h5
   simp[kE,qw,hc,aN,hh,dB,bG,h1,hb,bK,h5,qH]
theorem ah8(k p:Int)(hn:n<=1000):Sp M L (fj M [ob L.c,.int k,.int p]) (cD c (.tear k p)):=by
 have hc:=a.hc
 obtain⟨n2,hh⟩:=a.hh
 have hL:=I.hL
 have h1:=CJ a (by omega) k
 simp only[cD,sV]
 cases hk:bk c k with
 |none=>
  rw[hk]at h1
  show _=_
  simp[fj,iU,hc,aN,hh,dB,bG,h1]
 |some b=>
  rw[hk]at h1
  obtain⟨_,_,h3,h4,n3,hb⟩:=qK a hk
  show Sp M L _ (if b.sd.al=true then _ else _)
  cases e1:b.sd.al with
  |false=>
   simp[e1]at h1
   show _=_
   simp[fj,iU,hc,aN,hh,dB,bG,h1]
  |true=>
   simp[e1]at h1
   have mem:=aqh h4
   have h6:=gG (I.ear b mem)
   simp only[if_true]
   by_cases e2:0<=p/\p < 6
   ·rw[if_pos e2]
    obtain⟨q,rfl⟩:∃q:Nat,p=q:=⟨p.toNat,by omega⟩
    have hq:q < 6:=by omega
    have hq2:q < b.sd.ear.length:=by omega
    have hq3:(q:Int) < 6:=by omega
    have h7:b.sd.ear[q]?.getD 0=b.sd.ear[q]:=by simp[hq2]
    simp only[Int.toNat_natCast,List.getD_eq_getElem?_getD,h7]
    have h5:=sU hb (.torn q) (by omega) (by have:=I.en b mem;omega)
    by_cases e3:9<=b.sd.ear[q]
    ·rw[if_pos e3]
     show _=_
     simp[fj,iU,hc,aN,hh,dB,bG,h1,hb,iB,iD,hq3,cQ,hq2,e3]
    ·rw[if_neg e3]
     refine⟨_,L.bs,?_,xM (n:=n3) (e:=.torn q) a h3 h4⟩
     simp[En.dat]at h5
     have hl:∀i,(M.set (Pr.hk L k) i)[Pr.hk L k]?=some i:=fun i=>by rw[bF hb,if_pos rfl]
     simp[fj,iU,hc,aN,hh,dB,bG,h1,hb,iD,hq3,cQ,bK,h5,hl,hq2,e3,qH,go]
   ·rw[if_neg e2]
    show _=_
    by_cases e3:0<=p
    ·have e4:¬p < 6:=fun z=>e2 ⟨e3,z⟩
     simp[fj,iU,hc,aN,hh,dB,bG,h1,iD,e3,e4]
    ·simp[fj,iU,hc,aN,hh,dB,bG,h1,iD,e3]
end
theorem Inv.alive{n s:Nat}{c:aK}(I:Inv n s c){b:dX}(h:b∈c.bs)(h2:b.sd.al=true):bM c b.sd.o b.sd.g≠[]/\Vg c b.sd.g/\b.sd.o∈c.own:=by
 obtain⟨m,hm⟩:=I.rt b h h2
 exact⟨xR.mpr ⟨m,hm⟩,(I.hE _ hm).2.1,(I.hE _ hm).1⟩
section
variable{M:Mo}{L:Lay}{c:aK}(a:At M L c){n s:Nat}(I:Inv n s c)(hs:s<=76)(hn:n<=1000)
include a I hs hn
theorem ak5(k:Int):Sp M L (jC M [ob L.c,.int k]) (cD c (.cut k)):=by
 have hc:=a.hc
 obtain⟨n2,hh⟩:=a.hh
 have hL:=I.hL
 have h1:=CJ a (by omega) k
 simp only[cD,sV,Af]
 cases hk:bk c k with
 |none=>
  rw[hk]at h1
  show _=_
  simp[jC,m7,hc,aN,hh,dB,bG,h1]
 |some b=>
  rw[hk]at h1
  obtain⟨_,_,h3,h4,n3,hb⟩:=qK a hk
  show Sp M L _ (if b.sd.al=true then _ else _)
  cases e1:b.sd.al with
  |false=>
   simp[e1]at h1
   show _=_
   simp[jC,m7,hc,aN,hh,dB,bG,h1]
  |true=>
   simp[e1]at h1
   simp only[if_true]
   have mem:=aqh h4
   obtain⟨q1,q2,q3⟩:=I.alive mem e1
   obtain⟨r,q4,q5⟩:=I.mk1 q1
   have h6:=gG (I.ear b mem)
   have h7:=Ac a (by omega) _ _ q4
   have h8:=Ie M b.sd.ear (firstM c b.sd.o b.sd.g) (by omega)
   have q6:=gG (Dt (I.ear b mem) q5)
   generalize jE b.sd.ear (firstM c b.sd.o b.sd.g)=e at h8 q6 ⊢
   have h9:=YZ a I hs b.sd.o b.sd.g e q6 q2
   cases e2:zV b.sd.o e (bU (fO c 0 b.sd.g)) (roomOf c b.sd.g) with
   |cons r rs=>
    rw[e2]at h9
    show _=_
    simp[jC,m7,hc,aN,hh,dB,bG,h1,hb,iB,bT,h7,h8,bR,h9]
   |nil=>
    rw[e2]at h9
    have h5:=sU hb (.cut e) (by omega) (by have:=I.en b mem;omega)
    refine⟨_,L.bs,?_,xM (n:=n3) (e:=.cut e) a h3 h4⟩
    simp[En.dat]at h5
    simp[jC,m7,hc,aN,hh,dB,bG,h1,hb,bT,bK,h5,bR,h7,h8,h9,qH]
theorem aiL(x:Int):Sp M L (jK M [ob L.c,.int x]) (cD c (.part x)):=by
 have hc:=a.hc
 obtain⟨n1,m1,hg⟩:=a.hg
 have h1:=adR a I.gr x
 have e0:(bD c x).filter (fun y=>!(y==x))=rF c x:=rfl
 rw[e0]at h1
 simp only[cD,vY]
 by_cases e1:Vg c x
 ·rw[if_pos e1]at h1 ⊢
  by_cases e2:rF c x=[]
  ·rw[if_pos e2]at h1 ⊢
   show _=_
   simp[jK,oR,hc,aN,hg,cX,nO,h1]
  ·rw[if_neg e2]at h1 ⊢
   obtain⟨M',h1,h2⟩:=h1
   refine⟨M',L.bs,?_,h2⟩
   simp[jK,oR,hc,aN,hg,cX,nO,h1]
 ·rw[if_neg e1]at h1 ⊢
  show _=_
  simp[jK,oR,hc,aN,hg,cX,nO,h1]
theorem agl(x y:Int)(hx:Vg c x)(hy:Vg c y):j6 M [ob L.c,.int x,.int y]=.ok (.list ((lQ (bU (Hj c x y)) (vA c x y)).map pairD)):=by
 have h1:=I.hL
 have f1:=I.few (R:=fO c 0 x) fun r hr=>pX hr
 have f2:=I.few (R:=fO c 0 y) fun r hr=>pX hr
 have f3:=I.few (R:=Hj c x y) fun r hr=>by
  rcases aqo.mp hr with h|h
  ·exact pX (lG.mp h)
  ·exact pX (lG.mp h)
 have e:Hz L c x y=Hj c x y:=by unfold Hz Hj;rw[jL a,jL a]
 have:=Zm a I.gr (by omega) (by omega) x y hx hy (by rw[jL a];omega) (by rw[jL a];omega) (by rw[e];omega) (by rw[jL a];exact I.Nv) (by rw[jL a];exact I.Nv)
 rw[e]at this
 exact this
theorem agk(x y:Int):Sp M L (fL M [ob L.c,.int x,.int y]) (cD c (.yH x y)):=by
 have hc:=a.hc
 obtain⟨n1,m1,hg⟩:=a.hg
 have h1:=vN a y
 have h2:=Ab a I.gr x
 simp only[cD,vY]
 by_cases e1:Vg c y
 rotate_left
 ·rw[if_neg e1]at h1 ⊢
  show _=_
  simp[fL,jk,hc,aN,hg,cX,aG,h1]
 rw[if_pos e1]at h1 ⊢
 by_cases e2:Vg c x
 rotate_left
 ·rw[if_neg e2]at h2 ⊢
  show _=_
  simp[fL,jk,hc,aN,hg,cX,aG,h1,bQ,h2]
 rw[if_pos e2]at h2 ⊢
 have h3:=Ei false y (bD c x)
 have h4:=abq a I.gr x y e2 e1
 by_cases e3:y∈bD c x
 ·rw[if_pos e3]
  rw[decide_eq_true e3]at h3
  show _=_
  simp[fL,jk,hc,aN,hg,cX,aG,h1,bQ,h2,h3]
 rw[if_neg e3]at h4 ⊢
 rw[decide_eq_false e3]at h3
 have h5:=agl a I hs hn x y e2 e1
 have h6:∀p∈lQ (bU (Hj c x y)) (vA c x y),p.1.2.length=6:=fun p hp=>by
  unfold lQ at hp
  obtain⟨q,hq,hp⟩:=List.mem_flatMap.mp hp
  obtain⟨r,_,rfl⟩:=aqk.mp hp
  obtain⟨i,hi,rfl⟩:=List.mem_mapIdx.mp hq
  have hm:=lG.mp (aqP hi)
  rcases aqo.mp hm with h|h
  ·exact I.Nv _ (lG.mp h)
  ·exact I.Nv _ (lG.mp h)
 cases e4:lQ (bU (Hj c x y)) (vA c x y) with
 |cons p ps=>
  rw[e4]at h5 h6
  have h7:=Ie M p.1.2 p.2.2 (by have:=h6 p aqf;omega)
  show _=_
  simp[fL,jk,hc,aN,hg,cX,aG,h1,bQ,h2,h3,mH,h5]
  simp[pairD,Ear.rD,Ear.dT,h7,Fl]
 |nil=>
  rw[e4]at h5
  obtain⟨M',h4,h7⟩:=h4
  refine⟨M',L.bs,?_,h7⟩
  simp[fL,jk,hc,aN,hg,cX,aG,h1,bQ,h2,h3,mH,h5,vC,h4]
theorem aju(e g x:Int):Sp M L (cR M [ob L.c,.int e,.int g,.int x]) (cD c (.heir e g x)):=by
 have hc:=a.hc
 have hr:=a.hr
 obtain⟨n1,m1,hg⟩:=a.hg
 have hL:=I.hL
 have h1:=kJ a e
 have h2:=vN a g
 have h3:=qG a (by omega) e g
 simp only[cD,rK,vY,nZ]
 by_cases e1:e∈c.own
 rotate_left
 ·rw[if_neg e1]at h1 ⊢
  show _=_
  simp[cR,dH,hc,aN,aC,h1]
 rw[if_pos e1]at h1 ⊢
 by_cases e2:Vg c g
 rotate_left
 ·rw[if_neg e2]at h2 ⊢
  show _=_
  simp[cR,dH,hc,aN,aC,h1,hg,cX,aG,h2]
 rw[if_pos e2]at h2 ⊢
 by_cases e3:1<=x/\x<=3
 rotate_left
 ·rw[if_neg e3]
  show _=_
  by_cases e4:1<=x
  ·have e5:¬x<=3:=fun z=>e3 ⟨e4,z⟩
   simp[cR,dH,hc,aN,aC,h1,hg,cX,aG,h2,iT,jU,e4,e5]
  ·simp[cR,dH,hc,aN,aC,h1,hg,cX,aG,h2,iT,jU,e4]
 rw[if_pos e3]
 obtain⟨e4,e5⟩:=e3
 by_cases e6:bM c e g=[]
 ·rw[if_pos e6]at h3 ⊢
  show _=_
  simp[cR,dH,hc,aN,aC,h1,hg,cX,aG,h2,iT,jU,e4,e5,aJ,h3]
 rw[if_neg e6]at h3 ⊢
 obtain⟨r,q4,q5⟩:=I.mk1 e6
 have h7:=Ac a (by omega) _ _ q4
 have f1:=I.few (R:=fO c 0 g) fun r hr=>pX hr
 have h8:=yP a I.gr (by omega) (by omega) g (by rw[jL a];omega)
 rw[if_pos e2,jL a]at h8
 have h9:=yX a I.gr g
 rw[if_pos e2]at h9
 have h10:=Wc M (firstM c e g) x (bU (fO c 0 g)) (roomOf c g) q5 ⟨by omega,e5⟩ (yW I.Nv) (by rw[rQ];omega)
 cases e7:(Ov (firstM c e g) x).find? (Av (bU (fO c 0 g)) (roomOf c g)) with
 |none=>
  rw[e7]at h10
  show _=_
  simp[cR,dH,hc,aN,aC,h1,hg,cX,aG,h2,iT,jU,e4,e5,aJ,h3,bT,h7,cA,h8,bZ,h9,h10]
 |some mk=>
  rw[e7]at h10
  obtain⟨M1,k1,a1⟩:=JH a (fun o ho=>(I.own o ho).2) (by have:=I.ownL;omega)
  have k2:=KD a1 (by show c.held.length<=50000;omega) (c.count+1) g mk
  rw[if_neg (fun z=>by
   have:=(I.own _ (I.hE _ z).1).2
   simp at this
   omega)]at k2
  obtain⟨M2,k2,a2⟩:=k2
  have hc1:=a1.hc
  have hr1:=a1.hr
  refine⟨M2,L.bs,?_,a2⟩
  simp[cR,dH,hc,aN,aC,h1,hg,cX,aG,h2,iT,jU,e4,e5,aJ,h3,bT,h7,cA,h8,bZ,h9,h10,gj,k1]
  simp[hc1,aN,hr1,mU,gU,k2]
end
section
variable{M:Mo}{L:Lay}{c:aK}(a:At M L c){n s:Nat}(I:Inv n s c)(hs:s<=76)(hn:n<=1000)
include a I hs hn
theorem ajE(k o:Int):Sp M L (dG M [ob L.c,.int k,.int o]) (cD c (.sell k o)):=by
 have hc:=a.hc
 obtain⟨n2,hh⟩:=a.hh
 have hL:=I.hL
 have h1:=Jy a (by omega) k
 have h2:=kJ a o
 simp only[cD,markB,sV,Af,rK,nZ]
 cases hk:bk c k with
 |none=>
  rw[hk]at h1
  show _=_
  simp[dG,fu,hc,aN,hh,dB,bh,h1]
 |some b=>
  rw[hk]at h1
  obtain⟨k1,k2,h3,h4,n3,hb⟩:=qK a hk
  show Sp M L _ (if b.sd.al=true then _ else _)
  cases e1:b.sd.al with
  |false=>
   simp[e1]at h1
   show _=_
   simp[dG,fu,hc,aN,hh,dB,bh,h1]
  |true=>
   simp[e1]at h1
   simp only[if_true]
   cases e2:b.sd.due with
   |none=>
    simp[e2]at h1
    show _=_
    simp[dG,fu,hc,aN,hh,dB,bh,h1]
   |some e0=>
    simp[e2]at h1
    show Sp M L _ (if o∈c.own then _ else _)
    by_cases e3:o∈c.own
    rotate_left
    ·rw[if_neg e3]at h2 ⊢
     show _=_
     simp[dG,fu,hc,aN,hh,dB,bh,h1,aC,h2]
    rw[if_pos e3]at h2 ⊢
    by_cases e4:b.sd.o=o
    ·rw[if_pos e4]
     show _=_
     simp[dG,fu,hc,aN,hh,dB,bh,h1,aC,h2,hb,e4]
    rw[if_neg e4]
    have h5:=qG a (by omega) o b.sd.g
    by_cases e5:bM c o b.sd.g=[]
    ·rw[if_pos e5]at h5 ⊢
     show _=_
     simp[dG,fu,hc,aN,hh,dB,bh,h1,aC,h2,hb,e4,aJ,h5]
    rw[if_neg e5]at h5 ⊢
    have mem:=aqh h4
    obtain⟨q1,q2,q3⟩:=I.alive mem e1
    obtain⟨r,q4,q5⟩:=I.mk1 e5
    have h6:=gG (I.ear b mem)
    have h7:=Ac a (by omega) _ _ q4
    have h8:=Ie M b.sd.ear (firstM c o b.sd.g) (by omega)
    have q6:=gG (Dt (I.ear b mem) q5)
    generalize jE b.sd.ear (firstM c o b.sd.g)=e at h8 q6 ⊢
    have f1:=I.few (R:=fO c k b.sd.g) fun r hr=>pX hr
    have h9:=Dq a I.gr (by omega) (by omega) k b.sd.g (by rw[jL a];omega)
    rw[if_pos q2,jL a]at h9
    have h10:=yX a I.gr b.sd.g
    rw[if_pos q2]at h10
    have h11:=MK M o e (bU (fO c k b.sd.g)) (roomOf c b.sd.g) q6 (yW I.Nv) (W0 (by omega))
    cases e6:zV o e (bU (fO c k b.sd.g)) (roomOf c b.sd.g) with
    |cons r rs=>
     rw[e6]at h11
     show _=_
     simp[dG,fu,hc,aN,hh,dB,bh,h1,aC,h2,hb,e4,aJ,h5,bT,h7,h8,cW,h9,bZ,h10,h11,Fl]
    |nil=>
     rw[e6]at h11
     have h12:=sU hb (.sold o e) (by omega) (by have:=I.en b mem;omega)
     have a1:=xM (n:=n3) (e:=.sold o e) a h3 h4
     have hk2:bk (fV c (k - 1).toNat (.sold o e)) k=some (qH b (.sold o e)):=by
      unfold bk
      rw[if_pos ⟨k1,by simpa [fV] using k2⟩,yq,if_pos rfl,h4]
      rfl
     obtain⟨M',h13,a2⟩:=FT a1 (by simp[fV];omega) (I.bi.step _ _ q6) (by omega) k hk2
     have hc1:=a1.hc
     obtain⟨n4,hh1⟩:=a1.hh
     refine⟨M',L.bs,?_,a2⟩
     simp[En.dat]at h12
     simp only[qH]at h13 hc1 hh1
     simp[dG,fu,hc,aN,hh,dB,bh,h1,aC,h2,hb,e4,aJ,h5,bT,h7,h8,cW,h9,bZ,h10,h11,bK,h12]
     simp[hc1,aN,hh1,dB,gR,h13]
theorem ah5(k g:Int):Sp M L (dD M [ob L.c,.int k,.int g]) (cD c (.move k g)):=by
 have hc:=a.hc
 obtain⟨n2,hh⟩:=a.hh
 obtain⟨n5,m5,hg⟩:=a.hg
 have hL:=I.hL
 have h1:=Jy a (by omega) k
 have h2:=vN a g
 simp only[cD,markB,sV,Af,vY,nZ]
 cases hk:bk c k with
 |none=>
  rw[hk]at h1
  show _=_
  simp[dD,eZ,hc,aN,hh,dB,bh,h1]
 |some b=>
  rw[hk]at h1
  obtain⟨k1,k2,h3,h4,n3,hb⟩:=qK a hk
  show Sp M L _ (if b.sd.al=true then _ else _)
  cases e1:b.sd.al with
  |false=>
   simp[e1]at h1
   show _=_
   simp[dD,eZ,hc,aN,hh,dB,bh,h1]
  |true=>
   simp[e1]at h1
   simp only[if_true]
   cases e2:b.sd.due with
   |none=>
    simp[e2]at h1
    show _=_
    simp[dD,eZ,hc,aN,hh,dB,bh,h1]
   |some e=>
    simp[e2]at h1
    show Sp M L _ (if Vg c g then _ else _)
    by_cases e3:Vg c g
    rotate_left
    ·rw[if_neg e3]at h2 ⊢
     show _=_
     simp[dD,eZ,hc,aN,hh,dB,bh,h1,hg,cX,aG,h2]
    rw[if_pos e3]at h2 ⊢
    by_cases e4:b.sd.g=g
    ·rw[if_pos e4]
     show _=_
     simp[dD,eZ,hc,aN,hh,dB,bh,h1,hg,cX,aG,h2,hb,e4]
    rw[if_neg e4]
    have h5:=qG a (by omega) b.sd.o g
    by_cases e5:bM c b.sd.o g=[]
    ·rw[if_pos e5]at h5 ⊢
     show _=_
     simp[dD,eZ,hc,aN,hh,dB,bh,h1,hg,cX,aG,h2,hb,e4,aJ,h5]
    rw[if_neg e5]at h5 ⊢
    have mem:=aqh h4
    have h6:=gG (I.ear b mem)
    have q6:=gG (I.due b mem e e2)
    have h11:=YZ a I hs b.sd.o g e q6 e3
    cases e6:zV b.sd.o e (bU (fO c 0 g)) (roomOf c g) with
    |cons r rs=>
     rw[e6]at h11
     show _=_
     simp[dD,eZ,hc,aN,hh,dB,bh,h1,hg,cX,aG,h2,hb,e4,aJ,h5,e2,qj,bR,h11]
    |nil=>
     rw[e6]at h11
     have h12:=sU hb (.moved g) (by omega) (by have:=I.en b mem;omega)
     have a1:=xM (n:=n3) (e:=.moved g) a h3 h4
     have hk2:bk (fV c (k - 1).toNat (.moved g)) k=some (qH b (.moved g)):=by
      unfold bk
      rw[if_pos ⟨k1,by simpa [fV] using k2⟩,yq,if_pos rfl,h4]
      rfl
     obtain⟨M',h13,a2⟩:=FT a1 (by simp[fV];omega) (I.bi.step _ _ trivial) (by omega) k hk2
     have hc1:=a1.hc
     obtain⟨n4,hh1⟩:=a1.hh
     refine⟨M',L.bs,?_,a2⟩
     simp[En.dat]at h12
     simp only[qH]at h13 hc1 hh1
     simp[dD,eZ,hc,aN,hh,dB,bh,h1,hg,cX,aG,h2,hb,e4,aJ,h5,e2,qj,bR,h11,bK,h12]
     simp[hc1,aN,hh1,dB,gR,h13]
theorem ahs(e h:Int):Sp M L (fD M [ob L.c,.int e,.int h]) (cD c (.pass e h)):=by
 have hc:=a.hc
 have hr:=a.hr
 have hL:=I.hL
 have h1:=kJ a e
 have h2:=kJ a h
 simp only[cD,rK]
 by_cases e1:e∈c.own
 rotate_left
 ·rw[if_neg e1]at h1 ⊢
  show _=_
  simp[fD,jA,hc,aN,aC,h1]
 rw[if_pos e1]at h1 ⊢
 by_cases e2:h∈c.own
 rotate_left
 ·rw[if_neg e2]at h2 ⊢
  show _=_
  simp[fD,jA,hc,aN,aC,h1,h2]
 rw[if_pos e2]at h2 ⊢
 by_cases e3:e=h
 ·rw[if_pos e3]
  show _=_
  simp[fD,jA,hc,aN,aC,h1,h2,e3]
 rw[if_neg e3]
 obtain⟨M1,h3,a1⟩:=YF a (by omega) e h
 have hc1:=a1.hc
 obtain⟨n1,hh1⟩:=a1.hh
 have h4:=aeT a1 (by show c.bs.length<=50000;omega) e
 have ehd:bW L { c with held:=handed c e h }=bW L c:=rfl
 rw[ehd]at h4
 generalize hX:((bW L c).filter fun x=>(x.2.2.sd.o==e)&&x.2.2.sd.al)=X at h4
 have hXl:X.length<=1000:=by
  rw[←hX]
  exact aqB (aqq _ _) (by rw[a.len'];omega)
 have bi1:Jm (2 * n) { c with held:=handed c e h }:=⟨I.bi.ear,I.bi.en⟩
 obtain⟨ρ',M2,g1,g2,g3⟩:=Nf (tg:=bL [4,5]) (body:=qT) (fun ρ=>∃x y,ρ=[some (.dat (ob L.c)),some (.dat (.int e)),some (.dat (.int h)),some (.dat (.list (X.map nb))),x,y])
  (fun i c1=>Jm (2 * n+i) c1/\c1.bs.length=c.bs.length) (.passed h) L 1000 X M1 { c with held:=handed c e h } [some (.dat (ob L.c)),some (.dat (.int e)),some (.dat (.int h)),some (.dat (.list (X.map nb))),none,none] 0 (by omega) a1 ⟨bi1,rfl⟩ ⟨none,none,rfl⟩ (fun M1 c1 ρ x i hi a1 p1 q1 hx=>by
   obtain⟨bi1,l1⟩:=p1
   obtain⟨x0,y0,rfl⟩:=q1
   rw[←hX]at hx
   obtain⟨z1,z2⟩:=Dh (aqw.mp hx).1
   have hl:x.1 < c1.bs.length:=by rw[l1];exact(aqb.mp z2).1
   have z3:=aqc hl
   obtain⟨nx,hx1⟩:=a1.hb _ _ _ z1 z3
   have mem:=aqP hl
   have hb:=sU hx1 (.passed h) (by rw[bi1.ear _ mem];decide) (by have:=bi1.en _ mem;omega)
   refine⟨[some (.dat (ob L.c)),some (.dat (.int e)),some (.dat (.int h)),some (.dat (.list (X.map nb))),some (.dat (.int ((x.1:Int)+1))),some (.dat (ob x.2.1))],[some (.dat (ob L.c)),some (.dat (.int e)),some (.dat (.int h)),some (.dat (.list (X.map nb))),some (.dat (.int ((x.1:Int)+1))),some (.dat (ob x.2.1))],_,by simp[nb],?_,⟨_,_,rfl⟩,xM (n:=nx) a1 z1 z3,bi1.step _ _ trivial,by simp[fV,l1]⟩
   have hb:lJ M1 [ob x.2.1,.tuple [.str "passed",.int h]]=_:=hb
   simp[qT,hx1,bK,hb,qH])
 obtain⟨x0,y0,rfl⟩:=g2
 have g4:uK X (.passed h) { c with held:=handed c e h }=oF (fun x=>(x.sd.o==e)&&x.sd.al) (.passed h) { c with held:=handed c e h }:=by
  rw[←hX]
  exact UG a1 (fun x=>(x.sd.o==e)&&x.sd.al) (.passed h)
 rw[g4]at g3
 have hc2:=g3.hc
 have hl:∀i,(M2.set L.c i)[L.c]?=some i:=fun i=>by rw[bF hc2,if_pos rfl]
 have hk:=any_keys e c.own
 rw[decide_eq_true e1]at hk
 have hf:((c.own.map fun o=>(PyData.int o,PyData.bool true)).filter fun p=>!PyData.eqv p.1 (.int e))=(c.own.filter fun o=>!(o==e)).map fun o=>(PyData.int o,PyData.bool true):=by
  rw[List.filter_map]
  congr 1
 have a3:=g3.setC (n:=c.count) (own:=c.own.filter fun o=>!(o==e))
 refine⟨_,L.bs,?_,a3⟩
 have key:=gJ (tg:=bL [4,5]) (te:=aq 4) (M:=M2.set L.c (aN L { oF (fun x=>(x.sd.o==e)&&x.sd.al) (.passed h) { c with held:=handed c e h } with count:=c.count,own:=c.own.filter fun o=>!(o==e) })) (ρ:=[some (.dat (ob L.c)),some (.dat (.int e)),some (.dat (.int h)),some (.dat (.list (X.map nb))),none,none]) nb (fun x=>.int ((x.1:Int)+1)) X fun x _=>⟨[some (.dat (ob L.c)),some (.dat (.int e)),some (.dat (.int h)),some (.dat (.list (X.map nb))),some (.dat (.int ((x.1:Int)+1))),some (.dat (ob x.2.1))],by simp[nb],by simp⟩
 have eo:(O8 c e).map PyData.int=X.map fun x=>.int ((x.1:Int)+1):=by
  unfold O8
  rw[←Kf a,List.filter_map,aqH,aqH,←hX]
  rfl
 have eo:lI (O8 c e)=.list (X.map fun x=>.int ((x.1:Int)+1)):=congrArg PyData.list eo
 have hX2:X.length<=50000:=by omega
 have f2:c.own.length<=100000:=by have:=I.ownL;omega
 rw[eo]
 simp[fD,jA,hc,aN,aC,h1,h2,e3,hr,mU,qQ,h3]
 simp[hc1,aN,hh1,dB,zM,h4,g1]
 simp only[oF]at hc2 key ⊢
 have hk':(c.own.any ((fun p=>PyData.eqv p.1 (.int e)) ∘ fun o=>(PyData.int o,PyData.bool true)))=true:=by
  rw[←arj]
  exact hk
 simp[hc2,aN,f2]
 rw[hk',hf]
 simp only[aN]at key
 simp[key,hX2]
end
theorem cY.same{c c':aK}(i:cY c)(h1:c'.al=c.al)(h2:c'.ci=c.ci):cY c':=by
 cases c
 cases c'
 simp at h1 h2
 subst h1 h2
 exact⟨i.len,i.few,i.al,i.mem,i.own,i.up,i.one⟩
theorem cY.lt{c:aK}(i:cY c){k:Nat}{l:List Int}(h:c.ci[k]?=some l):k < c.al.length:=by
 rw[←i.len]
 exact(aqb.mp h).1
theorem cY.add{c:aK}(i:cY c)(hf:c.al.length < 200){x:Int}(hx:0<=x/\x<=9):cY { c with al:=c.al++[x],ci:=c.ci++[[(c.al.length:Int)+1]] }:=by
 have key:∀(k:Nat) (l:List Int),(c.ci++[[(c.al.length:Int)+1]])[k]?=some l->(c.ci[k]?=some l/\k < c.al.length)∨(k=c.al.length/\l=[(c.al.length:Int)+1]):=fun k l h=>by
  by_cases hk:k < c.ci.length
  ·rw[aql hk]at h
   exact .inl ⟨h,i.lt h⟩
  ·rw[aqt (by omega)]at h
   have hk2:k - c.ci.length=0:=by
    have:=(aqb.mp h).1
    simp at this
    omega
   rw[hk2]at h
   simp at h
   exact .inr ⟨by have:=i.len;omega,h.symm⟩
 refine⟨by simp[i.len],by simp;omega,fun y hy=>?_,fun k l h y hy=>?_,fun k l h=>?_,fun k l h=>?_,fun k j l h hj=>?_⟩
 ·rcases aqo.mp hy with hy|hy
  ·exact i.al y hy
  ·rw[aqg.mp hy]
   exact hx
 ·show 1<=y/\y<=((c.al++[x]).length:Int)
  rw[aqO,List.length_singleton]
  rcases key k l h with⟨h,_⟩|⟨_,rfl⟩
  ·have:=i.mem k l h y hy
   omega
  ·rw[aqg.mp hy]
   omega
 ·rcases key k l h with⟨h,_⟩|⟨rfl,rfl⟩
  ·exact i.own k l h
  ·simp
 ·rcases key k l h with⟨h,_⟩|⟨rfl,rfl⟩
  ·exact i.up k l h
  ·simp
 ·show(c.ci++[[(c.al.length:Int)+1]])[j]?=some l
  rcases key k l h with⟨h,_⟩|⟨rfl,rfl⟩
  ·have h2:=i.one k j l h hj
   rw[aql (aqb.mp h2).1]
   exact h2
  ·have:j=c.al.length:=by
    rw[aqg]at hj
    omega
   rw[this,←i.len]
   simp
theorem YB(l:List Int):∀(s:List Int) (ci:List (List Int)) (k:Nat),(∀y∈s,1<=y)->(s.foldl (fun s y=>s.set (y - 1).toNat l) ci)[k]?=if ((k:Int)+1∈s)/\k < ci.length then some l else ci[k]?
 |[],ci,k,_=>by simp
 |y::s,ci,k,h=>by
  rw[ard,YB l s _ k fun z hz=>h z (aqe _ hz),aqy]
  have hy:=h y aqf
  by_cases h1:(k:Int)+1∈s/\k < ci.length
  ·rw[if_pos h1,if_pos ⟨aqe _ h1.1,h1.2⟩]
  ·rw[if_neg h1,aq0]
   by_cases h2:(y - 1).toNat=k
   ·rw[if_pos h2]
    have e:(k:Int)+1=y:=by omega
    by_cases h3:k < ci.length
    ·rw[if_pos (by omega),if_pos ⟨by rw[e];exact aqf,h3⟩]
    ·rw[if_neg (by omega),if_neg (fun z=>h3 z.2),aqD (by omega)]
   ·rw[if_neg h2,if_neg]
    rintro⟨z,h3⟩
    rcases aqp.mp z with z|z
    ·omega
    ·exact h1 ⟨z,h3⟩
theorem M9(ci:List (List Int))(l:List Int)(k:Nat)(h:∀y∈l,1<=y):(encl ci l)[k]?=if ((k:Int)+1∈l)/\k < ci.length then some l else ci[k]?:=YB l l ci k h
theorem cY.again{c:aK}(i:cY c){ci:List (List Int)}(hl:ci.length=c.ci.length)(P:List Int->Prop)
  (h1:∀(k:Nat) (l:List Int),ci[k]?=some l->(P l/\(k:Int)+1∈l)∨c.ci[k]?=some l)
  (h2:∀l,P l->l.Pairwise (· < ·)/\∀y∈l,Vg c y/\ci[(y - 1).toNat]?=some l)
  (h3:∀(k j:Nat) (l:List Int),ci[k]?=some l->c.ci[k]?=some l->c.ci[j]?=some l->(k:Int)+1∈l->¬P l->ci[j]?=some l):cY { c with ci:=ci }:=by
 refine⟨by show ci.length=_;rw[hl,i.len],i.few,i.al,fun k l h y hy=>?_,fun k l h=>?_,fun k l h=>?_,fun k j l h hj=>?_⟩
 ·rcases h1 k l h with⟨p,_⟩|h
  ·exact((h2 l p).2 y hy).1
  ·exact i.mem k l h y hy
 ·rcases h1 k l h with⟨_,p⟩|h
  ·exact p
  ·exact i.own k l h
 ·rcases h1 k l h with⟨p,_⟩|h
  ·exact(h2 l p).1
  ·exact i.up k l h
 ·show ci[j]?=some l
  have pj:P l->ci[j]?=some l:=fun p=>by
   have:=((h2 l p).2 _ hj).2
   rwa [show((j:Int)+1 - 1).toNat=j by omega]at this
  rcases h1 k l h with⟨p,_⟩|h'
  ·exact pj p
  ·by_cases p:P l
   ·exact pj p
   ·exact h3 k j l h h' (i.one k j l h' hj) (i.own k l h') p
theorem cY.at{c:aK}(i:cY c){x:Int}(h:Vg c x):c.ci[(x - 1).toNat]?=some (bD c x):=by
 obtain⟨k,hk,rfl⟩:=Cd h
 have hk':k < c.ci.length:=by rw[i.len];exact hk
 simp[bD,hk']
theorem cY.self{c:aK}(i:cY c){x:Int}(h:Vg c x):x∈bD c x:=by
 have:=i.own _ _ (i.at h)
 rwa [show(((x - 1).toNat:Nat):Int)+1=x by omega]at this
theorem cY.eq{c:aK}(i:cY c){x y:Int}(h:Vg c x)(hy:y∈bD c x):bD c y=bD c x:=by
 have v:=i.mem _ _ (i.at h) y hy
 have:=i.one _ (y - 1).toNat _ (i.at h) (by rw[show(((y - 1).toNat:Nat):Int)+1=y by omega];exact hy)
 rw[i.at v]at this
 exact aqv this
theorem acn{l:List Int}{i:Int}:i∈sortI l↔i∈l:=by
 unfold sortI
 rw[List.mem_mergeSort]
theorem aeP{l:List Int}(h:l.Nodup):(sortI l).Pairwise (· < ·):=by
 unfold sortI
 have srt:=List.pairwise_mergeSort (le:=fun a b:Int=>decide (a<=b)) (fun a b c k1 k2=>by rw[decide_eq_true_eq]at *;omega) (fun a b=>by rw[aro,decide_eq_true_eq,decide_eq_true_eq];omega) l
 have nd:(l.mergeSort fun a b=>decide (a<=b)).Nodup:=(List.mergeSort_perm _ _).nodup_iff.mpr h
 refine List.Pairwise.imp₂ (fun a b h1 h2=>?_) srt nd
 rw[decide_eq_true_eq]at h1
 have:a≠b:=h2
 omega
theorem cY.yH{c:aK}(i:cY c){x y:Int}(hx:Vg c x)(hy:Vg c y)(hn:y∉bD c x):cY { c with ci:=encl c.ci (sortI (bD c x++bD c y)) }:=by
 generalize hS:sortI (bD c x++bD c y)=S
 have mem:∀z,z∈S↔z∈bD c x∨z∈bD c y:=fun z=>by rw[←hS,acn,aqo]
 have vg:∀z∈S,Vg c z:=fun z hz=>by
  rcases(mem z).mp hz with h|h
  ·exact i.mem _ _ (i.at hx) z h
  ·exact i.mem _ _ (i.at hy) z h
 have up:S.Pairwise (· < ·):=by
  rw[←hS]
  refine aeP ?_
  rw[aqQ]
  have nd:∀{l:List Int},l.Pairwise (· < ·)->l.Nodup:=fun h=>h.imp fun {a b} z e=>by omega
  refine⟨nd (i.up _ _ (i.at hx)),nd (i.up _ _ (i.at hy)),fun a ha b hb e=>?_⟩
  subst e
  have e1:=i.eq hx ha
  have e2:=i.eq hy hb
  rw[e1]at e2
  exact hn (e2 ▸ i.self hy)
 have get:=fun k=>M9 c.ci S k fun z hz=>(vg z hz).1
 refine i.again (P:=fun l=>l=S) (by unfold encl;rw[yC]) (fun k l h=>?_) (fun l hl=>?_) (fun k j l h h' hj hk np=>?_)
 ·rw[get]at h
  split at h
  ·next z=>
   cases h
   exact .inl ⟨rfl,z.1⟩
  ·exact .inr h
 ·subst hl
  refine⟨up,fun z hz=>⟨vg z hz,?_⟩⟩
  have v:=vg z hz
  have e:(((z - 1).toNat:Nat):Int)+1=z:=by omega
  rw[get,e,if_pos ⟨hz,by rw[i.len];omega⟩]
 ·rw[get]
  by_cases z:(j:Int)+1∈S/\j < c.ci.length
  ·exfalso
   have v:=vg _ z.1
   have ej:bD c ((j:Int)+1)=l:=by
    have:=i.at v
    rw[show((j:Int)+1 - 1).toNat=j by omega,hj]at this
    exact(aqv this).symm
   have hk2:(k:Int)+1∈S:=by
    rw[mem]
    rcases(mem _).mp z.1 with q|q
    ·exact .inl (by rw[←i.eq hx q,ej];exact hk)
    ·exact .inr (by rw[←i.eq hy q,ej];exact hk)
   rw[get,if_pos ⟨hk2,(aqb.mp h').1⟩]at h
   exact np (aqv h).symm
  ·rw[if_neg z]
   exact hj
theorem cY.part{c:aK}(i:cY c){x:Int}(hx:Vg c x):cY { c with ci:=encl (encl c.ci [x]) (rF c x) }:=by
 have mem:∀z,z∈rF c x↔z∈bD c x/\z≠x:=fun z=>by
  unfold rF
  rw[aqw]
  simp
 have vg:∀z∈rF c x,Vg c z:=fun z hz=>i.mem _ _ (i.at hx) z ((mem z).mp hz).1
 have l1:(encl c.ci [x]).length=c.ci.length:=by unfold encl;rw[yC]
 have get:∀k:Nat,(encl (encl c.ci [x]) (rF c x))[k]?=if ((k:Int)+1∈rF c x)/\k < c.ci.length then some (rF c x) else if ((k:Int)+1=x)/\k < c.ci.length then some [x] else c.ci[k]?:=fun k=>by
  rw[M9 _ _ _ fun z hz=>(vg z hz).1,l1,M9 _ _ _ fun z hz=>by rw[aqg.mp hz];exact hx.1]
  simp only[aqg]
 refine i.again (P:=fun l=>l=rF c x/\l≠[]∨l=[x]) (by unfold encl;rw[yC,yC]) (fun k l h=>?_) (fun l hl=>?_) (fun k j l h h' hj hk np=>?_)
 ·rw[get]at h
  split at h
  ·next z=>
   cases h
   exact .inl ⟨.inl ⟨rfl,List.ne_nil_of_mem z.1⟩,z.1⟩
  ·split at h
   ·next z=>
    cases h
    exact .inl ⟨.inr rfl,by rw[z.1];simp⟩
   ·exact .inr h
 ·rcases hl with⟨rfl,_⟩|rfl
  ·refine⟨(i.up _ _ (i.at hx)).filter _,fun z hz=>⟨vg z hz,?_⟩⟩
   have v:=vg z hz
   have e:(((z - 1).toNat:Nat):Int)+1=z:=by omega
   rw[get,e,if_pos ⟨hz,by rw[i.len];omega⟩]
  ·refine⟨by simp,fun z hz=>?_⟩
   rw[aqg.mp hz]
   refine⟨hx,?_⟩
   have e:(((x - 1).toNat:Nat):Int)+1=x:=by omega
   rw[get,e,if_neg (fun z=>((mem x).mp z.1).2 rfl),if_pos ⟨rfl,by rw[i.len];omega⟩]
 ·have key:∀m:Nat,c.ci[m]?=some l->(m:Int)+1∈bD c x->l=bD c x:=fun m hm q=>by
   have v:=i.mem _ _ (i.at hx) _ q
   have:=i.at v
   rw[show((m:Int)+1 - 1).toNat=m by omega,hm,i.eq hx q]at this
   exact aqv this
  have out:(k:Int)+1∉bD c x:=fun q=>by
   rw[get]at h
   by_cases e:(k:Int)+1=x
   ·rw[if_neg (fun z=>((mem _).mp z.1).2 e),if_pos ⟨e,(aqb.mp h').1⟩]at h
    exact np (.inr (aqv h).symm)
   ·rw[if_pos ⟨(mem _).mpr ⟨q,e⟩,(aqb.mp h').1⟩]at h
    have e2:=(aqv h).symm
    exact np (.inl ⟨e2,fun z=>by rw[z]at hk;cases hk⟩)
  have outj:(j:Int)+1∉bD c x:=fun q=>out (key j hj q ▸ hk)
  have o1:¬((j:Int)+1∈rF c x/\j < c.ci.length):=fun z=>outj ((mem _).mp z.1).1
  have o2:¬((j:Int)+1=x/\j < c.ci.length):=fun z=>outj (by rw[z.1];exact i.self hx)
  rw[get,if_neg o1,if_neg o2]
  exact hj
def Good(held:List Row3)(s:Sd):Prop:=cV s.ear=true/\(∀e,s.due=some e->cV e=true)/\(s.al=true->∃m,(s.o,s.g,m)∈held)
structure PN(m:Nat)(c:aK):Prop where
 g:∀b∈c.bs,Good c.held b.sd
 en:∀b∈c.bs,b.en.length<=m
theorem Inv.Vw{n s:Nat}{c:aK}(I:Inv n s c):PN (2 * n) c:=⟨fun b hb=>⟨I.ear b hb,I.due b hb,I.rt b hb⟩,I.en⟩
theorem Yy{c:aK}{i:Nat}{e:En}{b:dX}(h:b∈(fV c i e).bs):b∈c.bs∨∃b0,c.bs[i]?=some b0/\b=qH b0 e:=by
 obtain⟨j,hj⟩:=List.mem_iff_getElem?.mp h
 rw[yq]at hj
 split at hj
 ·next z=>
  subst z
  obtain⟨b0,h3,h4⟩:=aqV.mp hj
  exact .inr ⟨b0,h3,h4.symm⟩
 ·exact .inl (aqh hj)
theorem PN.one{m:Nat}{c:aK}(B:PN m c){i:Nat}{e:En}(h:∀b,c.bs[i]?=some b->Good c.held (go b.sd e)):PN (m+1) (fV c i e):=by
 refine⟨fun b hb=>?_,fun b hb=>?_⟩
 ·rcases Yy hb with h1|⟨b0,h1,rfl⟩
  ·exact B.g b h1
  ·exact h b0 h1
 ·rcases Yy hb with h1|⟨b0,h1,rfl⟩
  ·have:=B.en b h1
   omega
  ·have:=B.en b0 (aqh h1)
   simp[qH]
   omega
theorem PN.many{m:Nat}{c:aK}(B:PN m c){p:dX->Bool}{e:En}(h:∀b∈c.bs,p b=true->Good c.held (go b.sd e)):PN (m+1) (oF p e c):=by
 refine⟨fun b hb=>?_,fun b hb=>?_⟩
 ·obtain⟨b0,h1,rfl⟩:=aqk.mp hb
  cases hp:p b0 with
  |true=>
   rw[if_pos rfl]
   exact h b0 h1 hp
  |false=>
   rw[if_neg (by simp)]
   exact B.g b0 h1
 ·obtain⟨b0,h1,rfl⟩:=aqk.mp hb
  have:=B.en b0 h1
  cases hp:p b0 <;> simp[qH] <;> omega
theorem Good.mono{held held':List Row3}{s:Sd}(g:Good held s)(h:∀r∈held,r∈held'):Good held' s:=⟨g.1,g.2.1,fun z=>by
 obtain⟨m,hm⟩:=g.2.2 z
 exact⟨m,h _ hm⟩⟩
theorem Inv.of{n s n' s':Nat}{c c':aK}(I:Inv n s c)(hn:n<=n')(gr:cY c')(hal:c'.al.length<=n')(ec:c'.count=c.count)(eo:c'.own=c.own)(hd:c'.held.Nodup)(hL:c'.held.length+c'.bs.length<=s')(hE:∀r∈c'.held,r.1∈c'.own/\Vg c' r.2.1/\cV r.2.2=true)(B:PN (2 * n') c'):Inv n' s' c':=
 ⟨gr,hal,by have:=I.cnt;rw[ec];omega,by rw[ec,eo];exact I.own,by rw[eo];exact I.Oo,by have:=I.ownL;rw[eo];omega,hd,hL,hE,fun b hb=>(B.g b hb).1,fun b hb=>(B.g b hb).2.1,B.en,fun b hb=>(B.g b hb).2.2⟩
theorem abQ{x:List Int}{p:Nat}(h:cV x=true)(h9:¬9<=x.getD p 0):cV (vW x p)=true:=by
 unfold cV at *
 simp only[aqa,decide_eq_true_eq,aqu]at *
 refine⟨by rw[abz];exact h.1,fun d hd=>?_⟩
 unfold vW at hd
 obtain⟨i,hi,rfl⟩:=List.mem_mapIdx.mp hd
 have:=h.2 _ (aqP hi)
 split
 ·next e=>
  subst e
  have:x.getD i 0=x[i]:=by simp[hi]
  omega
 ·exact this
theorem M4{r:Row3}:∀(l acc:List Row3),r∈l.foldl DP acc↔r∈acc∨r∈l
 |[],acc=>by simp
 |x::l,acc=>by
  rw[ard,M4 l]
  unfold DP
  split
  ·next h=>
   constructor
   ·rintro(z|z)
    ·exact .inl z
    ·exact .inr (aqe _ z)
   ·rintro(z|z)
    ·exact .inl z
    ·rcases aqp.mp z with rfl|z
     ·exact .inl h
     ·exact .inr z
  ·simp[or_assoc]
theorem Ph:∀(l acc:List Row3),acc.Nodup->(l.foldl DP acc).Nodup
 |[],acc,h=>h
 |x::l,acc,h=>by
  rw[ard]
  refine Ph l _ ?_
  unfold DP
  split
  ·exact h
  ·next z=>
   rw[aqQ]
   exact⟨h,by simp,fun a ha b hb e=>z (by rw[aqg.mp hb]at e;exact e ▸ ha)⟩
theorem Zd:∀(l acc:List Row3),(l.foldl DP acc).length<=acc.length+l.length
 |[],acc=>by simp
 |x::l,acc=>by
  rw[ard]
  refine aqB (Zd l _) ?_
  unfold DP
  split <;> simp <;> omega
def cost:bJ->Nat
 |.enrol ..=>1
 |.bring ..=>1
 |.bear ..=>1
 |.heir ..=>1
 |_=>0
theorem KZ{o room:Int}{e:List Int}{R:List Rw}{x:Res}{d:Dat}{c':aK}(h:Af o e R room x=.ok d c'):x=.ok d c':=by
 unfold Af at h
 split at h
 ·exact h
 ·cases h
theorem xO{c:aK}{o:Int}{x:Res}{d:Dat}{c':aK}(h:rK c o x=.ok d c'):o∈c.own/\x=.ok d c':=by
 unfold rK at h
 split at h
 ·next z=>exact⟨z,h⟩
 ·cases h
theorem zp{c:aK}{g:Int}{x:Res}{d:Dat}{c':aK}(h:vY c g x=.ok d c'):Vg c g/\x=.ok d c':=by
 unfold vY at h
 split at h
 ·next z=>exact⟨z,h⟩
 ·cases h
theorem aa1{e:List Int}{x:Res}{d:Dat}{c':aK}(h:JR e x=.ok d c'):cV e=true/\x=.ok d c':=by
 unfold JR at h
 split at h
 ·next z=>exact⟨z,h⟩
 ·cases h
theorem zq{c:aK}{o g:Int}{x:Res}{d:Dat}{c':aK}(h:nZ c o g x=.ok d c'):bM c o g≠[]/\x=.ok d c':=by
 unfold nZ at h
 split at h
 ·cases h
 ·next z=>exact⟨z,h⟩
theorem K9{c:aK}{k:Int}{f:dX->Res}{d:Dat}{c':aK}(h:sV c k f=.ok d c'):∃b,bk c k=some b/\b.sd.al=true/\f b=.ok d c':=by
 unfold sV at h
 split at h
 ·cases h
 ·next b hb=>
  split at h
  ·next z=>exact⟨b,hb,z,h⟩
  ·cases h
theorem Nk{c:aK}{k:Int}{f:dX->List Int->Res}{d:Dat}{c':aK}(h:markB c k f=.ok d c'):∃b e,bk c k=some b/\b.sd.al=true/\b.sd.due=some e/\f b e=.ok d c':=by
 obtain⟨b,h1,h2,h3⟩:=K9 h
 split at h3
 ·cases h3
 ·next e he=>exact⟨b,e,h1,h2,he,h3⟩
theorem wU{p:Prop}[Decidable p]{x:dI}{y:Res}{d:Dat}{c':aK}(h:(if p then .no x else y)=Res.ok d c'):¬p/\y=.ok d c':=by
 split at h
 ·cases h
 ·next z=>exact⟨z,h⟩
theorem Sy{p:Prop}[Decidable p]{x:dI}{y:Res}{d:Dat}{c':aK}(h:(if p then y else .no x)=Res.ok d c'):p/\y=.ok d c':=by
 split at h
 ·next z=>exact⟨z,h⟩
 ·cases h
theorem oX{c:aK}{k:Int}{b:dX}(h:bk c k=some b):c.bs[(k - 1).toNat]?=some b/\1<=k/\k<=c.bs.length:=by
 unfold bk at h
 split at h
 ·next z=>exact⟨h,z⟩
 ·cases h
theorem Qe(c:aK)(k o g:Int):(xU c k o g).bs.length=c.bs.length:=by simp[xU,oF]
theorem BP(c:aK)(i:Nat)(e:En):(fV c i e).bs.length=c.bs.length:=by simp[fV]
theorem Xa{n s:Nat}{c c':aK}{d:bJ}{r:Dat}(I:Inv n s c)(hn:n<=199)(h:cD c d=.ok r c'):Inv (n+1) (s+cost d) c':=by
 have L0:=I.hL
 have A0:=I.al
 have C0:=I.cnt
 have O0:=I.ownL
 have up:PN (2 * (n+1)) c:=⟨I.Vw.g,fun b hb=>by have:=I.en b hb;omega⟩
 cases d with
 |owner=>
  cases h
  refine⟨I.gr.same rfl rfl,by show c.al.length<=_;omega,⟨by show 0<=c.count+1;omega,by show c.count+1<=((n+1:Nat):Int);omega⟩,fun o ho=>?_,?_,by simp;omega,I.held,by simp[cost];omega,fun r hr=>?_,I.ear,I.due,up.en,I.rt⟩
  ·show 1<=o/\o<=c.count+1
   rcases aqo.mp ho with ho|ho
   ·have:=I.own o ho
    omega
   ·rw[aqg.mp ho]
    omega
  ·rw[aqQ]
   refine⟨I.Oo,by simp,fun a ha b hb e=>?_⟩
   rw[aqg.mp hb]at e
   have:=I.own a ha
   omega
  ·obtain⟨h1,h2,h3⟩:=I.hE r hr
   exact⟨aqL _ h1,h2,h3⟩
 |ground x=>
  obtain⟨hx,h⟩:=Sy h
  cases h
  refine I.of (by omega) (I.gr.add (by omega) hx) (by simp;omega) rfl rfl I.held (by simp[cost];omega) (fun r hr=>?_) ⟨up.g,up.en⟩
  obtain⟨h1,h2,h3⟩:=I.hE r hr
  refine⟨h1,?_,h3⟩
  show 1<=_/\_<=((c.al++[x]).length:Int)
  rw[aqO]
  have:=h2.2
  exact⟨h2.1,by omega⟩
 |enrol o g m=>
  obtain⟨h1,h⟩:=xO h
  obtain⟨h2,h⟩:=zp h
  obtain⟨h3,h⟩:=aa1 h
  obtain⟨h4,h⟩:=wU h
  obtain⟨h5,h⟩:=wU h
  have h:=KZ h
  cases h
  refine I.of (by omega) (I.gr.same rfl rfl) (by show c.al.length<=_;omega) rfl rfl ?_ (by simp[cost];omega) (fun r hr=>?_) ⟨fun b hb=>(up.g b hb).mono fun r hr=>aqL _ hr,up.en⟩
  ·rw[aqQ]
   refine⟨I.held,by simp,fun a ha b hb e=>?_⟩
   rw[aqg.mp hb]at e
   exact h5 (CP.mpr (e ▸ ha))
  ·rcases aqo.mp hr with hr|hr
   ·exact I.hE r hr
   ·rw[aqg.mp hr]
    exact⟨h1,h2,h3⟩
 |leave o g=>
  obtain⟨h1,h⟩:=xO h
  obtain⟨h2,h⟩:=zp h
  obtain⟨h3,h⟩:=zq h
  obtain⟨h4,h⟩:=wU h
  cases h
  have sub:∀r∈dropped c o g,r∈c.held:=fun r hr=>(aqw.mp hr).1
  have ln:(dropped c o g).length<=c.held.length:=aqq _ _
  refine I.of (by omega) (I.gr.same rfl rfl) (by show c.al.length<=_;omega) rfl rfl (I.held.filter _) (by simp[cost];omega) (fun r hr=>I.hE r (sub r hr)) ⟨fun b hb=>⟨(up.g b hb).1,(up.g b hb).2.1,fun hal=>?_⟩,up.en⟩
  obtain⟨m,hm⟩:=(up.g b hb).2.2 hal
  refine⟨m,aqw.mpr ⟨hm,?_⟩⟩
  simp only[aqs,Bool.and_eq_false_iff,beq_eq_false_iff_ne]
  by_cases e:b.sd.o=o/\b.sd.g=g
  ·exfalso
   refine h4 (List.any_eq_true.mpr ⟨b,hb,?_⟩)
   simp[Wk,hal,e.1,e.2]
  ·by_cases e1:b.sd.o=o
   ·exact .inr fun z=>e ⟨e1,z⟩
   ·exact .inl e1
 |bring o g e=>
  obtain⟨h1,h⟩:=xO h
  obtain⟨h2,h⟩:=zp h
  obtain⟨h3,h⟩:=aa1 h
  obtain⟨h4,h⟩:=zq h
  cases h
  refine I.of (by omega) (I.gr.same rfl rfl) (by show c.al.length<=_;omega) rfl rfl I.held (by simp[cost];omega) I.hE ⟨fun b hb=>?_,fun b hb=>?_⟩
  ·rcases aqo.mp hb with hb|hb
   ·exact up.g b hb
   ·rw[aqg.mp hb]
    exact⟨h3,fun e z=>(by cases z),fun _=>xR.mp h4⟩
  ·rcases aqo.mp hb with hb|hb
   ·exact up.en b hb
   ·rw[aqg.mp hb]
    simp[Ad]
 |bear k=>
  obtain⟨b0,e0,h1,h2,h3,h⟩:=Nk h
  cases h
  refine I.of (by omega) (I.gr.same rfl rfl) (by show c.al.length<=_;omega) rfl rfl I.held (by simp[cost];omega) I.hE ⟨fun b hb=>?_,fun b hb=>?_⟩
  ·rcases aqo.mp hb with hb|hb
   ·exact up.g b hb
   ·rw[aqg.mp hb]
    exact⟨(by decide:cV [0,0,0,0,0,0]=true),fun e z=>(by cases z),fun _=>(up.g b0 (aqh (oX h1).1)).2.2 h2⟩
  ·rcases aqo.mp hb with hb|hb
   ·exact up.en b hb
   ·rw[aqg.mp hb]
    simp[Ad]
 |cut k=>
  obtain⟨b0,h1,h2,h⟩:=K9 h
  have h:=KZ h
  cases h
  have hm:=aqh (oX h1).1
  obtain⟨r,q4,q5⟩:=I.mk1 (I.alive hm h2).1
  have je:=Dt (I.ear b0 hm) q5
  generalize jE b0.sd.ear (firstM c b0.sd.o b0.sd.g)=e at je ⊢
  have B:=I.Vw.one (i:=(k - 1).toNat) (e:=.cut e) fun b hb=>by
   rw[(oX h1).1]at hb
   cases hb
   exact⟨je,fun e z=>(by cases z;exact je),fun _=>I.rt b0 hm h2⟩
  exact I.of (by omega) (I.gr.same rfl rfl) (by show c.al.length<=_;omega) rfl rfl I.held (by rw[BP];simp[cost,fV];omega) I.hE ⟨B.g,fun b hb=>by have:=B.en b hb;omega⟩
 |tear k p=>
  obtain⟨b0,h1,h2,h⟩:=K9 h
  obtain⟨h3,h⟩:=Sy h
  obtain⟨h4,h⟩:=wU h
  cases h
  have hm:=aqh (oX h1).1
  have B:=I.Vw.one (i:=(k - 1).toNat) (e:=.torn p.toNat) fun b hb=>by
   rw[(oX h1).1]at hb
   cases hb
   exact⟨abQ (I.ear b0 hm) h4,I.due b0 hm,I.rt b0 hm⟩
  exact I.of (by omega) (I.gr.same rfl rfl) (by show c.al.length<=_;omega) rfl rfl I.held (by rw[BP];simp[cost,fV];omega) I.hE ⟨B.g,fun b hb=>by have:=B.en b hb;omega⟩
 |die k=>
  obtain⟨b0,h1,h2,h⟩:=K9 h
  cases h
  have hm:=aqh (oX h1).1
  have B:=I.Vw.one (i:=(k - 1).toNat) (e:=.died) fun b hb=>by
   rw[(oX h1).1]at hb
   cases hb
   exact⟨I.ear b0 hm,I.due b0 hm,fun z=>by cases z⟩
  exact I.of (by omega) (I.gr.same rfl rfl) (by show c.al.length<=_;omega) rfl rfl I.held (by rw[BP];simp[cost,fV];omega) I.hE ⟨B.g,fun b hb=>by have:=B.en b hb;omega⟩
 |sell k o=>
  obtain⟨b0,e0,h1,h2,h3,h⟩:=Nk h
  obtain⟨h4,h⟩:=xO h
  obtain⟨h5,h⟩:=wU h
  obtain⟨h6,h⟩:=zq h
  have h:=KZ h
  cases h
  have hm:=aqh (oX h1).1
  obtain⟨r,q4,q5⟩:=I.mk1 h6
  have je:=Dt (I.ear b0 hm) q5
  generalize jE b0.sd.ear (firstM c o b0.sd.g)=e at je ⊢
  have B:=I.Vw.one (i:=(k - 1).toNat) (e:=.sold o e) fun b hb=>by
   rw[(oX h1).1]at hb
   cases hb
   exact⟨je,fun e z=>(by cases z;exact je),fun _=>xR.mp h6⟩
  have B2:=B.many (p:=fun x=>yJ k x&&x.sd.al) (e:=.followed o b0.sd.g) fun b hb _=>⟨(B.g b hb).1,(B.g b hb).2.1,fun _=>xR.mp h6⟩
  exact I.of (by omega) (I.gr.same rfl rfl) (by show c.al.length<=_;omega) rfl rfl I.held (by rw[Qe,BP];simp[cost,fV,xU,oF];omega) I.hE ⟨B2.g,fun b hb=>by have:=B2.en b hb;omega⟩
 |move k g=>
  obtain⟨b0,e0,h1,h2,h3,h⟩:=Nk h
  obtain⟨h4,h⟩:=zp h
  obtain⟨h5,h⟩:=wU h
  obtain⟨h6,h⟩:=zq h
  have h:=KZ h
  cases h
  have hm:=aqh (oX h1).1
  have B:=I.Vw.one (i:=(k - 1).toNat) (e:=.moved g) fun b hb=>by
   rw[(oX h1).1]at hb
   cases hb
   exact⟨I.ear b0 hm,I.due b0 hm,fun _=>xR.mp h6⟩
  have B2:=B.many (p:=fun x=>yJ k x&&x.sd.al) (e:=.followed b0.sd.o g) fun b hb _=>⟨(B.g b hb).1,(B.g b hb).2.1,fun _=>xR.mp h6⟩
  exact I.of (by omega) (I.gr.same rfl rfl) (by show c.al.length<=_;omega) rfl rfl I.held (by rw[Qe,BP];simp[cost,fV,xU,oF];omega) I.hE ⟨B2.g,fun b hb=>by have:=B2.en b hb;omega⟩
 |yH x y=>
  obtain⟨h1,h⟩:=zp h
  obtain⟨h2,h⟩:=zp h
  obtain⟨h3,h⟩:=wU h
  split at h
  ·cases h
  ·cases h
   exact I.of (by omega) (I.gr.yH h2 h1 h3) (by show c.al.length<=_;omega) rfl rfl I.held (by show c.held.length+c.bs.length<=_;omega) I.hE ⟨up.g,up.en⟩
 |part x=>
  obtain⟨h1,h⟩:=zp h
  obtain⟨h3,h⟩:=wU h
  cases h
  exact I.of (by omega) (I.gr.part h1) (by show c.al.length<=_;omega) rfl rfl I.held (by show c.held.length+c.bs.length<=_;omega) I.hE ⟨up.g,up.en⟩
 |pass e h'=>
  obtain⟨h1,h⟩:=xO h
  obtain⟨h2,h⟩:=xO h
  obtain⟨h3,h⟩:=wU h
  cases h
  have hin:∀r∈c.held,Ay e h' r∈handed c e h':=fun r hr=>(M4 _ _).mpr (.inr (aqk.mpr ⟨r,hr,rfl⟩))
  have hout:∀r∈handed c e h',∃r0∈c.held,Ay e h' r0=r:=fun r hr=>by
   rcases(M4 _ _).mp hr with z|z
   ·cases z
   ·obtain⟨r0,z1,z2⟩:=aqk.mp z
    exact⟨r0,z1,z2⟩
  have hl:(handed c e h').length<=c.held.length:=by
   have:=Zd (c.held.map (Ay e h')) []
   simpa [handed] using this
  have ow:∀o,o∈c.own.filter (fun o=>!(o==e))↔o∈c.own/\o≠e:=fun o=>by
   rw[aqw]
   simp
  have g:∀b∈(oF (fun b=>(b.sd.o==e)&&b.sd.al) (.passed h') c).bs,Good (handed c e h') b.sd:=fun b hb=>by
   obtain⟨b0,hb0,rfl⟩:=aqk.mp hb
   have G:=up.g b0 hb0
   cases hp:((b0.sd.o==e)&&b0.sd.al) with
   |true=>
    simp only[hp,if_true]
    refine⟨G.1,G.2.1,fun hal=>?_⟩
    obtain⟨m,hm⟩:=G.2.2 hal
    have:=hin _ hm
    simp at hp
    rw[hp.1]at this
    exact⟨m,by simpa [Ay,qH,go] using this⟩
   |false=>
    simp only[hp]
    refine⟨G.1,G.2.1,fun hal=>?_⟩
    obtain⟨m,hm⟩:=G.2.2 hal
    have:=hin _ hm
    have hal:b0.sd.al=true:=hal
    rw[hal]at hp
    simp at hp
    exact⟨m,by simpa [Ay,hp] using this⟩
  have en:∀b∈(oF (fun b=>(b.sd.o==e)&&b.sd.al) (.passed h') c).bs,b.en.length<=2 * (n+1):=fun b hb=>by
   obtain⟨b0,hb0,rfl⟩:=aqk.mp hb
   have:=I.en b0 hb0
   dsimp only
   split
   ·simp[qH]
    omega
   ·omega
  refine⟨I.gr.same rfl rfl,by show c.al.length<=_;omega,⟨C0.1,by show c.count<=_;omega⟩,fun o ho=>I.own o ((ow o).mp ho).1,I.Oo.filter _,?_,Ph _ _ (by simp),?_,fun r hr=>?_,fun b hb=>(g b hb).1,fun b hb=>(g b hb).2.1,en,fun b hb=>(g b hb).2.2⟩
  ·show(c.own.filter _).length<=_
   have:=aqq (fun o=>!(o==e)) c.own
   omega
  ·show(handed c e h').length+(oF _ _ c).bs.length<=_
   simp[oF]
   omega
  ·obtain⟨r0,z1,rfl⟩:=hout r hr
   obtain⟨q1,q2,q3⟩:=I.hE r0 z1
   refine⟨(ow _).mpr ?_,q2,q3⟩
   unfold Ay
   by_cases z:r0.1=e
   ·simp only[z,if_true]
    exact⟨h2,fun q=>h3 q.symm⟩
   ·simp only[z,if_false]
    exact⟨q1,z⟩
 |heir e g x=>
  obtain⟨h1,h⟩:=xO h
  obtain⟨h2,h⟩:=zp h
  obtain⟨h3,h⟩:=Sy h
  obtain⟨h4,h⟩:=zq h
  split at h
  ·next mk hmk=>
   cases h
   obtain⟨r,q4,q5⟩:=I.mk1 h4
   have hme:cV mk=true:=Vz q5 ⟨by omega,h3.2⟩ (aqw.mp (List.mem_of_find?_eq_some hmk)).1
   refine⟨I.gr.same rfl rfl,by show c.al.length<=_;omega,⟨by show 0<=c.count+1;omega,by show c.count+1<=((n+1:Nat):Int);omega⟩,fun o ho=>?_,?_,by simp;omega,?_,by simp[cost];omega,fun r hr=>?_,I.ear,I.due,up.en,fun b hb hal=>?_⟩
   ·show 1<=o/\o<=c.count+1
    rcases aqo.mp ho with ho|ho
    ·have:=I.own o ho
     omega
    ·rw[aqg.mp ho]
     omega
   ·rw[aqQ]
    refine⟨I.Oo,by simp,fun a ha b hb e=>?_⟩
    rw[aqg.mp hb]at e
    have:=I.own a ha
    omega
   ·rw[aqQ]
    refine⟨I.held,by simp,fun a ha b hb e=>?_⟩
    rw[aqg.mp hb]at e
    have:=I.own _ (I.hE a ha).1
    rw[e]at this
    simp at this
    omega
   ·rcases aqo.mp hr with hr|hr
    ·obtain⟨z1,z2,z3⟩:=I.hE r hr
     exact⟨aqL _ z1,z2,z3⟩
    ·rw[aqg.mp hr]
     exact⟨aq4 _ (by simp),h2,hme⟩
   ·obtain⟨m,hm⟩:=I.rt b hb hal
    exact⟨m,aqL _ hm⟩
  ·cases h
def nB(x:Int):Bool:=decide (0<=x)&&decide (x<=999999999)
def plB(x:Int):Bool:=decide (0<=x)&&decide (x<=5)
theorem lU(M:Mo)(x:Int):gY M [.str "number",.int x]=.ok (.bool (nB x)):=by
 by_cases h:0<=x <;> simp[gY,uP,nH,iD,yc,zU,h,nB]
theorem iz(M:Mo)(x:Int):gY M [.str "place",.int x]=.ok (.bool (plB x)):=by
 by_cases h:0<=x <;> simp[gY,uP,nH,iD,yc,zU,h,plB]
theorem acJ(M:Mo)(x:List Int)(h:x.length<=1000):gY M [.str "ear",aM x]=.ok (.bool (cV x)):=by
 have:=Vp M x h
 simp[gY,uP,yc,zU,this]
def fG:bJ->Bool
 |.owner=>true
 |.ground x=>nB x
 |.enrol o g m=>nB o&&nB g&&cV m
 |.leave o g=>nB o&&nB g
 |.bring o g m=>nB o&&nB g&&cV m
 |.bear k=>nB k
 |.cut k=>nB k
 |.tear k p=>nB k&&plB p
 |.sell k o=>nB k&&nB o
 |.move k g=>nB k&&nB g
 |.die k=>nB k
 |.yH x y=>nB x&&nB y
 |.part x=>nB x
 |.pass e h=>nB e&&nB h
 |.heir e g x=>nB e&&nB g&&nB x
def Lk:bJ->Prop
 |.enrol _ _ m=>m.length<=1000
 |.bring _ _ m=>m.length<=1000
 |_=>True
theorem iG(M:Mo)(w:Str)(T:List (Str×Dat×Bool))(hk:(yI xQ).lookup w=some (.tuple (T.map fun t=>.str t.1)))(hl:T.length<=10)(hp:∀t∈T,gY M [.str t.1,t.2.1]=.ok (.bool t.2.2)):Fd M [.tuple (.str w::T.map fun t=>t.2.1)]=.ok (.bool (T.all fun t=>t.2.2)):=by
 have hs:Rf.cutD (PyData.str w::T.map fun t=>t.2.1) (some 1) none=T.map fun t=>t.2.1:=Ys _ 1
 have hz:wI (T.map fun t=>PyData.str t.1) (T.map fun t=>t.2.1)=T.map fun t=>.tuple [.str t.1,t.2.1]:=by
  unfold wI
  rw[List.zipWith_map_left,List.zipWith_map_right,List.zipWith_self]
 have key:=gJ (tg:=bL [3,4]) (te:=aX gY (ak (aq 3) (ak (aq 4) au))) (M:=M) (ρ:=[some (.dat (.tuple (.str w::T.map fun t=>t.2.1))),some (.dat (.tuple (T.map fun t=>.str t.1))),some (.dat (.tuple (T.map fun t=>t.2.1))),none,none]) (fun(t:Str×Dat×Bool)=>PyData.tuple [.str t.1,t.2.1]) (fun t=>.bool t.2.2) T fun t ht=>⟨[some (.dat (.tuple (.str w::T.map fun t=>t.2.1))),some (.dat (.tuple (T.map fun t=>.str t.1))),some (.dat (.tuple (T.map fun t=>t.2.1))),some (.dat (.str t.1)),some (.dat t.2.1)],by simp,by simp[hp t ht]⟩
 have ha:Oq (.list (T.map fun t=>PyData.bool t.2.2))=.ok (.bool (T.all fun t=>t.2.2)):=by
  have e:(T.map fun t=>PyData.bool t.2.2)=(T.map fun t=>t.2.2).map PyData.bool:=by rw[aqH];rfl
  rw[e]
  show(match tZ _ with
   |some bs=>Out.ok (PyData.bool (bs.all id))
   |none=>.bad)=_
  rw[Cu]
  simp[List.all_map,aqx]
 have hl2:T.length<=50000:=by omega
 have hne:¬(T.length:Int)+1=0:=by omega
 simp[Fd,W7,hk,hs,hz,key,hl2,ha,hne]
theorem agm(M:Mo)(d:bJ)(hd:Lk d):Fd M [d.dat]=.ok (.bool (fG d)):=by
 cases d with
 |owner=>simpa [fG,bJ.dat,Bool.and_assoc] using iG M "owner" [] (by rfl) (by simp) (by simp[lU,iz])
 |ground x=>simpa [fG,bJ.dat,Bool.and_assoc] using iG M "ground" [("number",.int x,nB x)] (by rfl) (by simp) (by simp[lU,iz])
 |enrol o g m=>simpa [fG,bJ.dat,Bool.and_assoc] using iG M "enrol" [("number",.int o,nB o),("number",.int g,nB g),("ear",aM m,cV m)] (by rfl) (by simp) (by simp[lU,iz,acJ M m hd])
 |leave o g=>simpa [fG,bJ.dat,Bool.and_assoc] using iG M "leave" [("number",.int o,nB o),("number",.int g,nB g)] (by rfl) (by simp) (by simp[lU,iz])
 |bring o g m=>simpa [fG,bJ.dat,Bool.and_assoc] using iG M "bring" [("number",.int o,nB o),("number",.int g,nB g),("ear",aM m,cV m)] (by rfl) (by simp) (by simp[lU,iz,acJ M m hd])
 |bear k=>simpa [fG,bJ.dat,Bool.and_assoc] using iG M "bear" [("number",.int k,nB k)] (by rfl) (by simp) (by simp[lU,iz])
 |cut k=>simpa [fG,bJ.dat,Bool.and_assoc] using iG M "cut" [("number",.int k,nB k)] (by rfl) (by simp) (by simp[lU,iz])
 |tear k p=>simpa [fG,bJ.dat,Bool.and_assoc] using iG M "tear" [("number",.int k,nB k),("place",.int p,plB p)] (by rfl) (by simp) (by simp[lU,iz])
 |sell k o=>simpa [fG,bJ.dat,Bool.and_assoc] using iG M "sell" [("number",.int k,nB k),("number",.int o,nB o)] (by rfl) (by simp) (by simp[lU,iz])
 |move k g=>simpa [fG,bJ.dat,Bool.and_assoc] using iG M "move" [("number",.int k,nB k),("number",.int g,nB g)] (by rfl) (by simp) (by simp[lU,iz])
 |die k=>simpa [fG,bJ.dat,Bool.and_assoc] using iG M "die" [("number",.int k,nB k)] (by rfl) (by simp) (by simp[lU,iz])
 |yH x y=>simpa [fG,bJ.dat,Bool.and_assoc] using iG M "unite" [("number",.int x,nB x),("number",.int y,nB y)] (by rfl) (by simp) (by simp[lU,iz])
 |part x=>simpa [fG,bJ.dat,Bool.and_assoc] using iG M "part" [("number",.int x,nB x)] (by rfl) (by simp) (by simp[lU,iz])
 |pass e h=>simpa [fG,bJ.dat,Bool.and_assoc] using iG M "pass" [("number",.int e,nB e),("number",.int h,nB h)] (by rfl) (by simp) (by simp[lU,iz])
 |heir e g x=>simpa [fG,bJ.dat,Bool.and_assoc] using iG M "heir" [("number",.int e,nB e),("number",.int g,nB g),("number",.int x,nB x)] (by rfl) (by simp) (by simp[lU,iz])
theorem jJ{M:Mo}{L:Lay}{o o':aY Dat}{r:Res}(h:Sp M L o r)(e:o'=o):Sp M L o' r:=e ▸ h
section
variable{M:Mo}{L:Lay}{c:aK}(a:At M L c){n s:Nat}(I:Inv n s c)(hs:s<=76)(hn:n<=199)
include a I hs hn
theorem akC(d:bJ)(hd:Lk d)(hf:fG d=true):Sp M L (cP M [ob L.c,d.dat]) (cD c d):=by
 have hc:=a.hc
 have h0:=agm M d hd
 rw[hf]at h0
 cases d with
 |owner=>
  simp only[bJ.dat]at h0 ⊢
  refine jJ (ahr a I hn) ?_
  simp[cP,cU,h0,hc,aN,gj]
  cases gQ M _ <;> rfl
 |ground x=>
  simp only[bJ.dat]at h0 ⊢
  refine jJ (ae8 a I hn x) ?_
  simp[cP,cU,h0,hc,aN,pF]
  cases fX M _ <;> rfl
 |enrol o g m=>
  simp only[bJ.dat]at h0 ⊢
  refine jJ (agJ a I hs o g m hd) ?_
  simp[cP,cU,h0,hc,aN,vJ]
  cases dN M _ <;> rfl
 |leave o g=>
  simp only[bJ.dat]at h0 ⊢
  refine jJ (af2 a I hs o g) ?_
  simp[cP,cU,h0,hc,aN,vq]
  cases fJ M _ <;> rfl
 |bring o g m=>
  simp only[bJ.dat]at h0 ⊢
  refine jJ (afT a I hs o g m hd) ?_
  simp[cP,cU,h0,hc,aN,vB]
  cases fK M _ <;> rfl
 |bear k=>
  simp only[bJ.dat]at h0 ⊢
  refine jJ (abX a I hs k) ?_
  simp[cP,cU,h0,hc,aN,jc]
  cases iW M _ <;> rfl
 |cut k=>
  simp only[bJ.dat]at h0 ⊢
  refine jJ (ak5 a I hs (by omega) k) ?_
  simp[cP,cU,h0,hc,aN,yu]
  cases jC M _ <;> rfl
 |tear k p=>
  simp only[bJ.dat]at h0 ⊢
  refine jJ (ah8 a I hs k p (by omega)) ?_
  simp[cP,cU,h0,hc,aN,wV]
  cases fj M _ <;> rfl
 |sell k o=>
  simp only[bJ.dat]at h0 ⊢
  refine jJ (ajE a I hs (by omega) k o) ?_
  simp[cP,cU,h0,hc,aN,wY]
  cases dG M _ <;> rfl
 |move k g=>
  simp only[bJ.dat]at h0 ⊢
  refine jJ (ah5 a I hs (by omega) k g) ?_
  simp[cP,cU,h0,hc,aN,wW]
  cases dD M _ <;> rfl
 |die k=>
  simp only[bJ.dat]at h0 ⊢
  refine jJ (alc a I hs k (by omega)) ?_
  simp[cP,cU,h0,hc,aN,xX]
  cases kE M _ <;> rfl
 |yH x y=>
  simp only[bJ.dat]at h0 ⊢
  refine jJ (agk a I hs (by omega) x y) ?_
  simp[cP,cU,h0,hc,aN,vo]
  cases fL M _ <;> rfl
 |part x=>
  simp only[bJ.dat]at h0 ⊢
  refine jJ (aiL a I hs (by omega) x) ?_
  simp[cP,cU,h0,hc,aN,wg]
  cases jK M _ <;> rfl
 |pass e h=>
  simp only[bJ.dat]at h0 ⊢
  refine jJ (ahs a I hs (by omega) e h) ?_
  simp[cP,cU,h0,hc,aN,sY]
  cases fD M _ <;> rfl
 |heir e g x=>
  simp only[bJ.dat]at h0 ⊢
  refine jJ (aju a I hs (by omega) e g x) ?_
  simp[cP,cU,h0,hc,aN,qZ]
  cases cR M _ <;> rfl
end
theorem aex{c:aK}{d:bJ}{x:dI}(h:cD c d=.no x):tK.lookup x.cls=some true:=by
 cases d <;> simp only[cD,rK,vY,JR,nZ,Af,sV,markB,Fl]at h <;> (repeat' split at h) <;> cases h <;> simp[tK]
def aa5:bJ->Nat
 |.owner=>1
 |.heir ..=>1
 |_=>0
def dGr:bJ->Nat
 |.ground _=>1
 |_=>0
def dBs:bJ->Nat
 |.bring ..=>1
 |.bear _=>1
 |_=>0
theorem ZV{c c':aK}{d:bJ}{r:Dat}(h:cD c d=.ok r c'):c'.count=c.count+(aa5 d:Int)/\c'.al.length=c.al.length+dGr d/\c'.bs.length=c.bs.length+dBs d/\(oJ .none r=true->aa5 d=0/\dGr d=0/\dBs d=0):=by
 cases d <;> simp only[cD,rK,vY,JR,nZ,Af,sV,markB]at h <;> (repeat' split at h) <;> cases h <;> simp[aa5,dGr,dBs,oJ,fV,xU,oF,lI]
def tG(c:aK)(d:bJ):aK:=match cD c d with
 |.ok _ c'=>c'
 |.no _=>c
def fQ(c:aK):Dat:=.tuple [.int c.count,.int c.al.length,.int c.bs.length]
section
variable{M:Mo}{L:Lay}{c:aK}(a:At M L c){n s:Nat}(I:Inv n s c)(hs:s<=76)(hn:n<=199)
include I hn
omit hn in
theorem ae2(d:bJ)(hn:n<=199):Inv (n+1) (s+cost d) (tG c d):=by
 unfold tG
 cases h:cD c d with
 |ok r c'=>exact Xa I hn h
 |no x=>
  have h1:=I.hL
  have h2:=I.al
  exact I.of (by omega) I.gr (by show c.al.length<=_;omega) rfl rfl I.held (by show c.held.length+c.bs.length<=_;omega) I.hE ⟨I.Vw.g,fun b hb=>by have:=I.en b hb;omega⟩
include a hs
theorem agG(d:bJ)(hd:Lk d)(hf:fG d=true):∃M' bs,qJ M [ob L.c,d.dat,fQ c]=.ok (fQ (tG c d)) M'/\At M' { L with bs:=bs } (tG c d):=by
 have hc:=a.hc
 have h0:=akC a I hs hn d hd hf
 unfold tG
 cases e:cD c d with
 |no x=>
  rw[e]at h0
  have h0:_=_:=h0
  have h1:=aex e
  exact⟨M,L.bs,by simp[qJ,Ky,hc,aN,qD,h0,h1,oJ],a⟩
 |ok r c'=>
  rw[e]at h0
  obtain⟨M',bs,h0,h2⟩:=h0
  obtain⟨q1,q2,q3,q4⟩:=ZV e
  refine⟨M',bs,?_,h2⟩
  have e1:(c'.al.length:Int)=c.al.length+(dGr d:Int):=by omega
  have e2:(c'.bs.length:Int)=c.bs.length+(dBs d:Int):=by omega
  cases hr:oJ .none r with
  |true=>
   obtain⟨z1,z2,z3⟩:=q4 hr
   simp[z1,z2,z3]at q1 e1 e2
   simp[qJ,Ky,hc,aN,qD,h0,hr,fQ,q1,e1,e2]
  |false=>
   clear q4 q2 q3 e hf hd
   cases d <;> simp[aa5,dGr,dBs]at q1 e1 e2 <;> simp[qJ,Ky,hc,aN,qD,h0,hr,fQ,q1,e1,e2] <;> simp[bJ.dat]
end
def K6(f:Int):Int:=if f=9 then -1 else if f=8 then 3 else if f=7 then 2 else if f=6 then 1 else if f=5 then 1 else 0
def LC(d f:Int):Int:=Ny 0 (if d+K6 f < 9 then d+K6 f else 9)
def Rj(x f:List Int):List Int:=(x.zip f).map fun p=>LC p.1 p.2
theorem ab8(M:Mo)(x0 x1:Option Cell)(acc:List Dat)(d f:Int)(x5:Option Cell)(hf:0<=f/\f < 10)(hl:acc.length < 1000):∃x5',N5 M [x0,x1,some (.mut acc),some (.dat (.int d)),some (.dat (.int f)),x5]=.next [x0,x1,some (.mut (acc++[.int (LC d f)])),some (.dat (.int d)),some (.dat (.int f)),x5'] M:=by
 have hl2:acc.length < 100000:=by omega
 have key:∀k:Nat,k < 10->([0,0,0,0,0,1,1,2,3,-1]:List Int)[k]?=some (K6 k):=by decide
 obtain⟨k,rfl⟩:∃k:Nat,f=k:=⟨f.toNat,by omega⟩
 have hk:=key k (by omega)
 have h2:atI (([0,0,0,0,0,1,1,2,3,-1]:List Int).map PyData.int) (k:Int)=some (.int (K6 k)):=atI_nat (by rw[aqm,hk];rfl)
 refine⟨some (.dat (.int (K6 k))),?_⟩
 have h3:aZ (aF 5) (gOf (aA aV (bx (ak (qC (.int 0)) (ak (qC (.int 0)) (ak (qC (.int 0)) (ak (qC (.int 0)) (ak (qC (.int 0)) (ak (qC (.int 1)) (ak (qC (.int 1)) (ak (qC (.int 2)) (ak (qC (.int 3)) (ak (eU Tn (qC (.int 1))) au))))))))))) (ao 4))) M [x0,x1,some (.mut acc),some (.dat (.int d)),some (.dat (.int k)),x5]=.next [x0,x1,some (.mut acc),some (.dat (.int d)),some (.dat (.int k)),some (.dat (.int (K6 k)))] M:=by
  show(((match atI (([0,0,0,0,0,1,1,2,3,-1]:List Int).map PyData.int) (k:Int) with
   |some d=>Out.ok d
   |none=>.bad).at M).then _ fun d M'=>_)=_
  rw[h2]
  rfl
 show aD _ _ _ _=_
 rw[ajg,h3]
 simp[hl2,LC,Ny]
theorem U3(M:Mo)(x0 x1:Option Cell):∀(ps:List (Int×Int)) (acc:List Dat) (x3 x4 x5:Option Cell),(∀p∈ps,0<=p.2/\p.2 < 10)->acc.length+ps.length<=500->∃x3' x4' x5',iy (bL [3,4]) N5 (ps.map pD) M [x0,x1,some (.mut acc),x3,x4,x5]=.next [x0,x1,some (.mut (acc++ps.map fun p=>.int (LC p.1 p.2))),x3',x4',x5'] M
 |[],acc,x3,x4,x5,_,_=>⟨x3,x4,x5,by simp[iy]⟩
 |p::ps,acc,x3,x4,x5,h,hl=>by
  rw[aqn]at hl
  obtain⟨x5',e⟩:=ab8 M x0 x1 acc p.1 p.2 x5 (h p aqf) (by omega)
  obtain⟨y3,y4,y5,ih⟩:=U3 M x0 x1 ps (acc++[.int (LC p.1 p.2)]) (some (.dat (.int p.1))) (some (.dat (.int p.2))) x5' (fun q hq=>h q (aqe _ hq)) (by simp;omega)
  refine⟨y3,y4,y5,?_⟩
  rw[aqd,jX (ρ1:=[x0,x1,some (.mut acc),some (.dat (.int p.1)),some (.dat (.int p.2)),x5]) (by simp[pD]) e,ih]
  simp
theorem afV(M:Mo)(x f:List Int)(hx:x.length<=100)(hf:∀d∈f,0<=d/\d < 10):Jl M [aM x,lI f]=.ok (aM (Rj x f)):=by
 obtain⟨y3,y4,y5,e⟩:=U3 M (some (.dat (aM x))) (some (.dat (lI f))) (x.zip f) [] none none none (fun p hp=>hf _ (List.of_mem_zip hp).2) (by simp;omega)
 simp[Jl,WQ,Il,e,Rj]
def Fw(f:List Int)(m:Int)(x:List Int):List Int:=if m < 4 then Rj x f else yQ f m
theorem abL(M:Mo)(x f:List Int)(m:Int)(hx:x.length<=100)(hl:f.length<=1000)(hf:∀d∈f,0<=d/\d < 10):vM M [lI f,.int m,aM x]=.ok (aM (Fw f m x)):=by
 have h1:=afV M x f hx hf
 have h2:=Vl M f m hl
 unfold Fw
 by_cases h:m < 4 <;> simp[vM,JW,h,h1,h2]
theorem aaR{x:List Int}(h:x.length=6)(h2:∀d∈x,0<=d/\d < 10):cV x=true:=by
 unfold cV
 simp only[aqa,decide_eq_true_eq,aqu]
 refine⟨h,fun d hd=>?_⟩
 have:=h2 d hd
 omega
theorem ado{x f:List Int}(hx:x.length=6)(hf:f.length=6):cV (Rj x f)=true:=by
 refine aaR (by simp[Rj];omega) fun d hd=>?_
 obtain⟨p,hp,rfl⟩:=aqk.mp hd
 unfold LC Ny
 split <;> split <;> omega
theorem abD{f x:List Int}{m:Int}(hx:x.length=6)(hl:f.length=6)(hf:∀d∈f,0<=d/\d < 10):cV (Fw f m x)=true:=by
 unfold Fw
 split
 ·exact ado hx hl
 ·refine aaR ?_ (aeE hf)
  unfold yQ
  split
  ·simpa using hl
  ·split
   ·simpa using hl
   ·exact hl
def jY(f many:Int)(sure:Bool):Int:=if sure then 1+f % (if many > 1 then many else 1) else f % (many+2)
theorem Xn(M:Mo)(f many:Int)(sure:Bool)(hm:0<=many):jD M [.int f,.int many,.bool sure]=.ok (.int (jY f many sure)):=by
 have h2:0 < many+2:=by omega
 have h3:0 < (if 1 < many then many else 1):=by split <;> omega
 cases sure
 ·simp[jD,Wx,jY,h2]
 ·simp[jD,Wx,jY,h3]
theorem Bg{f many:Int}{sure:Bool}(hf:0<=f/\f<=1000)(hm:0<=many):nB (jY f many sure)=true:=by
 unfold jY nB
 have key:∀m:Int,0 < m->0<=f % m/\f % m<=f:=fun m h=>⟨Int.emod_nonneg _ (by omega),by
  have h1:=Int.mul_ediv_add_emod f m
  have h2:=Int.mul_nonneg (by omega:0<=m) (Int.ediv_nonneg hf.1 (by omega:0<=m))
  omega⟩
 simp only[aqa,decide_eq_true_eq]
 cases sure
 ·have:=key (many+2) (by omega)
  simp
  omega
 ·have:=key (if many > 1 then many else 1) (by split <;> omega)
  simp only[if_true]
  omega
abbrev dd(M:Mo)(w:Str)(one two:Int)(p base:List Int)(n0 n1 n2:Int):Out Dat:=eO M [.str w,.int one,.int two,lI p,.tuple [.int n0,.int n1,.int n2],aM base]
def dW(p:List Int):Bool:=!(p.getD 6 0==9)
def GX(p base:List Int):List Int:=Fw (p.drop 8) (p.getD 7 0) base
def grT(f:Int):Int:=if f=9 then 8 else if f=8 then 7 else if f=7 then 6 else if f=6 then 5 else if f=5 then 1 else if f=4 then 0 else f
def FW(p base:List Int):List Int:=if p.getD 7 0 < 6 then[0,0,0,0,0,0] else GX p base
structure Pts(p base:List Int):Prop where
 len:p.length=14
 dig:∀d∈p,0<=d/\d < 10
 base:base.length=6
theorem alr{p:List Int}(h:p.length=14):∃a b c d e f g i j k l m n o:Int,p=[a,b,c,d,e,f,g,i,j,k,l,m,n,o]:=by
 match p,h with
 |[a,b,c,d,e,f,g,i,j,k,l,m,n,o],_=>exact⟨a,b,c,d,e,f,g,i,j,k,l,m,n,o,rfl⟩
theorem Pts.mark{p base:List Int}(P:Pts p base):cV (GX p base)=true:=abD P.base (by rw[ark,P.len]) fun d hd=>P.dig d (List.mem_of_mem_drop hd)
theorem Pts.bring{p base:List Int}(P:Pts p base):cV (FW p base)=true:=by
 unfold FW
 split
 ·decide
 ·exact P.mark
section
variable(M:Mo){p base:List Int}(P:Pts p base)(one two n0 n1 n2:Int)(h0:0<=n0)(h1:0<=n1)(h2:0<=n2)
include P h0 h1 h2
theorem Yl :
  dd M "owner" one two p base n0 n1 n2=.ok (bJ.dat (.owner))/\
  dd M "ground" one two p base n0 n1 n2=.ok (bJ.dat (.ground (grT (p.getD 7 0)+4 * (if dW p then 0 else 1))))/\
  dd M "enrol" one two p base n0 n1 n2=.ok (bJ.dat (.enrol (jY one n0 (dW p)) (jY two n1 (dW p)) (GX p base)))/\
  dd M "bring" one two p base n0 n1 n2=.ok (bJ.dat (.bring (jY one n0 (dW p)) (jY two n1 (dW p)) (FW p base)))/\
  dd M "leave" one two p base n0 n1 n2=.ok (bJ.dat (.leave (jY one n0 (dW p)) (jY two n1 (dW p))))/\
  dd M "heir" one two p base n0 n1 n2=.ok (bJ.dat (.heir (jY one n0 (dW p)) (jY two n1 (dW p)) (p.getD 7 0 % 4)))/\
  dd M "pass" one two p base n0 n1 n2=.ok (bJ.dat (.pass (jY one n0 (dW p)) (jY two n0 (dW p))))/\
  dd M "unite" one two p base n0 n1 n2=.ok (bJ.dat (.yH (jY one n1 (dW p)) (jY two n1 (dW p))))/\
  dd M "part" one two p base n0 n1 n2=.ok (bJ.dat (.part (jY one n1 (dW p))))/\
  dd M "tear" one two p base n0 n1 n2=.ok (bJ.dat (.tear (jY one n2 (dW p)) (p.getD 7 0 % 6)))/\
  dd M "sell" one two p base n0 n1 n2=.ok (bJ.dat (.sell (jY one n2 (dW p)) (jY two n0 (dW p))))/\
  dd M "move" one two p base n0 n1 n2=.ok (bJ.dat (.move (jY one n2 (dW p)) (jY two n1 (dW p))))/\
  dd M "bear" one two p base n0 n1 n2=.ok (bJ.dat (.bear (jY one n2 (dW p))))/\
  dd M "cut" one two p base n0 n1 n2=.ok (bJ.dat (.cut (jY one n2 (dW p))))/\
  dd M "die" one two p base n0 n1 n2=.ok (bJ.dat (.die (jY one n2 (dW p)))):=by
 have hm:=abL M base (p.drop 8) (p.getD 7 0) (by rw[P.base];decide) (by rw[ark,P.len];decide) fun d hd=>P.dig d (List.mem_of_mem_drop hd)
 have hr0:=fun f=>Xn M f n0 (dW p) h0
 have hr1:=fun f=>Xn M f n1 (dW p) h1
 have hr2:=fun f=>Xn M f n2 (dW p) h2
 have hd:=P.dig
 have hbr:FW p base=if p.getD 7 0 < 6 then[0,0,0,0,0,0] else GX p base:=rfl
 have hmp:GX p base=Fw (p.drop 8) (p.getD 7 0) base:=rfl
 have hsb:dW p=!(p.getD 6 0==9):=rfl
 obtain⟨x0,x1,x2,x3,x4,x5,x6,x7,x8,x9,x10,x11,x12,x13,rfl⟩:=alr P.len
 generalize hp:[x0,x1,x2,x3,x4,x5,x6,x7,x8,x9,x10,x11,x12,x13]=p at *
 have h6:p.getD 6 0=x6:=by rw[←hp];rfl
 have h7:p.getD 7 0=x7:=by rw[←hp];rfl
 have h8:p.drop 8=[x8,x9,x10,x11,x12,x13]:=by rw[←hp];rfl
 have hx7:=hd x7 (by rw[←hp];simp)
 rw[h7,h8]at hm hmp
 rw[h7]at hbr
 rw[h6]at hsb
 simp only[h7]
 generalize dW p=su at *
 generalize GX p base=mk at *
 generalize FW p base=br at *
 have c1:Rf.cutD (p.map PyData.int) (some 8) (some 14)=[PyData.int x8,.int x9,.int x10,.int x11,.int x12,.int x13]:=by rw[←hp];rfl
 have c2:atI (p.map PyData.int) 7=some (.int x7):=by rw[←hp];rfl
 have c3:atI (p.map PyData.int) 6=some (.int x6):=by rw[←hp];rfl
 have hm:vM M [.list [PyData.int x8,.int x9,.int x10,.int x11,.int x12,.int x13],.int x7,aM base]=.ok (aM mk):=by rw[hmp];exact hm
 have key:∀k:Nat,k < 10->([0,1,2,3,0,1,5,6,7,8]:List Int)[k]?=some (grT k):=by decide
 have hk:atI (([0,1,2,3,0,1,5,6,7,8]:List Int).map PyData.int) x7=some (.int (grT x7)):=by
  obtain⟨k,rfl⟩:∃k:Nat,x7=k:=⟨x7.toNat,by omega⟩
  exact atI_nat (by rw[aqm,key k (by omega)];rfl)
 simp at hk
 have hm4:∀z,decide (CMul 4 z)=true:=fun z=>afk (by decide)
 clear hp hd P
 refine⟨?_,?_,?_,?_,?_,?_,?_,?_,?_,?_,?_,?_,?_,?_,?_⟩
 ·simp[dd,eO,jG,c1,c2,c3,hm,←hsb,hr0,hr1,hr2,bJ.dat]
 ·cases su <;> simp[dd,eO,jG,c1,c2,c3,hm,←hsb,hk,hm4,Rf.intD,bJ.dat]
 ·simp[dd,eO,jG,c1,c2,c3,hm,←hsb,hr0,hr1,hr2,bJ.dat]
 ·by_cases h76:x7 < 6
  ·rw[if_pos h76]at hbr
   simp[dd,eO,jG,c1,c2,c3,hm,←hsb,hr0,hr1,hr2,bJ.dat,h76,hbr]
  ·rw[if_neg h76]at hbr
   simp[dd,eO,jG,c1,c2,c3,hm,←hsb,hr0,hr1,hr2,bJ.dat,h76,hbr]
 ·simp[dd,eO,jG,c1,c2,c3,hm,←hsb,hr0,hr1,hr2,bJ.dat]
 ·simp[dd,eO,jG,c1,c2,c3,hm,←hsb,hr0,hr1,hr2,bJ.dat]
 ·simp[dd,eO,jG,c1,c2,c3,hm,←hsb,hr0,hr1,hr2,bJ.dat]
 ·simp[dd,eO,jG,c1,c2,c3,hm,←hsb,hr0,hr1,hr2,bJ.dat]
 ·simp[dd,eO,jG,c1,c2,c3,hm,←hsb,hr0,hr1,hr2,bJ.dat]
 ·simp[dd,eO,jG,c1,c2,c3,hm,←hsb,hr0,hr1,hr2,bJ.dat]
 ·simp[dd,eO,jG,c1,c2,c3,hm,←hsb,hr0,hr1,hr2,bJ.dat]
 ·simp[dd,eO,jG,c1,c2,c3,hm,←hsb,hr0,hr1,hr2,bJ.dat]
 ·simp[dd,eO,jG,c1,c2,c3,hm,←hsb,hr0,hr1,hr2,bJ.dat]
 ·simp[dd,eO,jG,c1,c2,c3,hm,←hsb,hr0,hr1,hr2,bJ.dat]
 ·simp[dd,eO,jG,c1,c2,c3,hm,←hsb,hr0,hr1,hr2,bJ.dat]
theorem Y6{w:Str}(hw:w∈(["owner","ground","enrol","bring","leave","heir","pass","unite","part","tear","sell","move","bear","cut","die"]:List Str))(ho:0<=one/\one<=1000)(ht:0<=two/\two<=1000):∃d:bJ,eO M [.str w,.int one,.int two,lI p,.tuple [.int n0,.int n1,.int n2],aM base]=.ok d.dat/\fG d=true/\Lk d:=by
 have r10:=Bg (f:=one) (sure:=dW p) ho h0
 have r11:=Bg (f:=one) (sure:=dW p) ho h1
 have r12:=Bg (f:=one) (sure:=dW p) ho h2
 have r20:=Bg (f:=two) (sure:=dW p) ht h0
 have r21:=Bg (f:=two) (sure:=dW p) ht h1
 have r22:=Bg (f:=two) (sure:=dW p) ht h2
 have m1:=P.mark
 have m2:=P.bring
 have l1:(GX p base).length<=1000:=by rw[gG m1];decide
 have l2:(FW p base).length<=1000:=by rw[gG m2];decide
 have h7:0<=p.getD 7 0/\p.getD 7 0 < 10:=P.dig _ (by
  have:=P.len
  rw[List.getD_eq_getElem?_getD,aqc (by omega)]
  exact aqP _)
 have q4:nB (p.getD 7 0 % 4)=true:=by unfold nB;simp only[aqa,decide_eq_true_eq];omega
 have q6:plB (p.getD 7 0 % 6)=true:=by unfold plB;simp only[aqa,decide_eq_true_eq];omega
 have qg:nB (grT (p.getD 7 0)+4 * (if dW p then 0 else 1))=true:=by
  unfold nB grT
  simp only[aqa,decide_eq_true_eq]
  split <;> (repeat' split) <;> omega
 simp only[aqp,aqI,or_false]at hw
 obtain⟨d0,d1,d2,d3,d4,d5,d6,d7,d8,d9,d10,d11,d12,d13,d14⟩:=Yl M P one two n0 n1 n2 h0 h1 h2
 rcases hw with rfl|rfl|rfl|rfl|rfl|rfl|rfl|rfl|rfl|rfl|rfl|rfl|rfl|rfl|rfl
 ·exact⟨_,d0,by simp[fG,r10,r11,r12,r20,r21,r22,m1,m2,q4,q6,-List.getD_eq_getElem?_getD],by first | trivial | assumption⟩
 ·exact⟨_,d1,qg,by first | trivial | assumption⟩
 ·exact⟨_,d2,by simp[fG,r10,r11,r12,r20,r21,r22,m1,m2,q4,q6,-List.getD_eq_getElem?_getD],by first | trivial | assumption⟩
 ·exact⟨_,d3,by simp[fG,r10,r11,r12,r20,r21,r22,m1,m2,q4,q6,-List.getD_eq_getElem?_getD],by first | trivial | assumption⟩
 ·exact⟨_,d4,by simp[fG,r10,r11,r12,r20,r21,r22,m1,m2,q4,q6,-List.getD_eq_getElem?_getD],by first | trivial | assumption⟩
 ·exact⟨_,d5,by simp[fG,r10,r11,r12,r20,r21,r22,m1,m2,q4,q6,-List.getD_eq_getElem?_getD],by first | trivial | assumption⟩
 ·exact⟨_,d6,by simp[fG,r10,r11,r12,r20,r21,r22,m1,m2,q4,q6,-List.getD_eq_getElem?_getD],by first | trivial | assumption⟩
 ·exact⟨_,d7,by simp[fG,r10,r11,r12,r20,r21,r22,m1,m2,q4,q6,-List.getD_eq_getElem?_getD],by first | trivial | assumption⟩
 ·exact⟨_,d8,by simp[fG,r10,r11,r12,r20,r21,r22,m1,m2,q4,q6,-List.getD_eq_getElem?_getD],by first | trivial | assumption⟩
 ·exact⟨_,d9,by simp[fG,r10,r11,r12,r20,r21,r22,m1,m2,q4,q6,-List.getD_eq_getElem?_getD],by first | trivial | assumption⟩
 ·exact⟨_,d10,by simp[fG,r10,r11,r12,r20,r21,r22,m1,m2,q4,q6,-List.getD_eq_getElem?_getD],by first | trivial | assumption⟩
 ·exact⟨_,d11,by simp[fG,r10,r11,r12,r20,r21,r22,m1,m2,q4,q6,-List.getD_eq_getElem?_getD],by first | trivial | assumption⟩
 ·exact⟨_,d12,by simp[fG,r10,r11,r12,r20,r21,r22,m1,m2,q4,q6,-List.getD_eq_getElem?_getD],by first | trivial | assumption⟩
 ·exact⟨_,d13,by simp[fG,r10,r11,r12,r20,r21,r22,m1,m2,q4,q6,-List.getD_eq_getElem?_getD],by first | trivial | assumption⟩
 ·exact⟨_,d14,by simp[fG,r10,r11,r12,r20,r21,r22,m1,m2,q4,q6,-List.getD_eq_getElem?_getD],by first | trivial | assumption⟩
end
abbrev words:List Str:=["owner","ground","enrol","bring","leave","heir","pass","unite","part","tear","sell","move","bear","cut","die"]
def Vk:List Str:=["tear","cut","bring","sell","move","enrol","bear","tear","cut","sell","move","unite","part","heir","pass","die","leave","ground","owner","enrol","tear","sell","bring","bear","cut"]
theorem ago(M:Mo)(f:Int):∃w∈words,zJ M [.int f]=.ok (.str w):=by
 have h1:0<=f % 25/\f % 25 < 25:=by omega
 obtain⟨k,hk⟩:∃k:Nat,f % 25=k:=⟨(f % 25).toNat,by omega⟩
 have hl:k < Vk.length:=by show k < 25;omega
 have h2:atI (Vk.map PyData.str) (k:Int)=some (.str Vk[k]):=atI_nat (by rw[aqm,aqc hl];rfl)
 have h3:∀w∈Vk,w∈words:=by simp[Vk]
 refine⟨Vk[k],h3 _ (aqP hl),?_⟩
 generalize Vk[k]=z at h2
 simp[Vk]at h2
 simp[zJ,JD,hk,h2]
def wz(h:Int):List (Str×Int×Int):=if h % 8=7 then[] else[("ground",0,0),("owner",0,0),("owner",0,0),("enrol",0,0),("enrol",1,0),("bring",0,0),("cut",0,0),("bring",1,0),("cut",1,0),("ground",0,0),("enrol",0,1)]
def Ik(r:Str×Int×Int):Dat:=.tuple [.str r.1,.int r.2.1,.int r.2.2]
theorem ac4(M:Mo)(h:Int):uR M [.int h]=.ok (.list ((wz h).map Ik)):=by
 unfold wz
 by_cases e:h % 8=7 <;> simp[uR,DN,e,Ik]
theorem ag6{h:Int}:∀r∈wz h,r.1∈words/\(0<=r.2.1/\r.2.1<=1000)/\0<=r.2.2/\r.2.2<=1000:=by
 unfold wz
 split
 ·simp
 ·simp
inductive Z8:Nat->aK->Prop where
 |nil:Z8 0 ⟨0,[],[],[],[],[]⟩
 |step {n:Nat} {c:aK} (d:bJ):Z8 n c->fG d=true->Z8 (n+1) (tG c d)
 |le {n m:Nat} {c:aK}:Z8 n c->n<=m->Z8 m c
theorem Inv.mono{n s n' s':Nat}{c:aK}(I:Inv n s c)(h1:n<=n')(h2:s<=s'):Inv n' s' c:=
 I.of h1 I.gr (aqB I.al h1) rfl rfl I.held (aqB I.hL h2) I.hE ⟨I.Vw.g,fun b hb=>by have:=I.en b hb;omega⟩
theorem afK(d:bJ):cost d<=1:=by cases d <;> simp[cost]
theorem amI:Inv 0 0 ⟨0,[],[],[],[],[]⟩:=⟨⟨rfl,by simp,by simp,by simp,by simp,by simp,by simp⟩,by simp,by simp,by simp,by simp,by simp,by simp,by simp,by simp,by simp,by simp,by simp,by simp⟩
structure Now(M:Mo)(L:Lay)(n s:Nat)(c:aK):Prop where
 at_:At M L c
 inv:Inv n s c
 rch:Z8 n c
theorem Now.done{M:Mo}{L:Lay}{n s:Nat}{c:aK}(N:Now M L n s c)(hs:s<=76)(hn:n<=199)(d:bJ)(hd:Lk d)(hf:fG d=true):∃M' bs,qJ M [ob L.c,d.dat,fQ c]=.ok (fQ (tG c d)) M'/\Now M' { L with bs:=bs } (n+1) (s+cost d) (tG c d):=by
 obtain⟨M',bs,h1,h2⟩:=agG N.at_ N.inv hs hn d hd hf
 exact⟨M',bs,h1,h2,ae2 N.inv d hn,.step d N.rch hf⟩
theorem aan(x:Int){base:List Int}(h:base.length=6):Pts (rowOf x 14 10) base:=⟨aaS ..,adP (by decide) _ _,h⟩
theorem uN(x:Int)(k:Nat)(h:k < 14):atI ((rowOf x 14 10).map PyData.int) (k:Int)=some (.int ((rowOf x 14 10).getD k 0))/\0<=(rowOf x 14 10).getD k 0/\(rowOf x 14 10).getD k 0<=9:=by
 have hl:k < (rowOf x 14 10).length:=by rw[aaS];exact h
 refine⟨Yo _ k hl,?_⟩
 rw[List.getD_eq_getElem?_getD,aqc hl]
 have:=adP (by decide) x 14 _ (aqP hl)
 simp
 omega
theorem adz{M:Mo}{L:Lay}{n s:Nat}{c:aK}(N:Now M L n s c)(hs:s<=76)(hn:n<=199)(x1:Option Cell)(head:Int)(base:List Int)(hb:base.length=6)(i:Nat)(x:Int)(x8 x9 x10 x11 x12:Option Cell) :
  ∃d M' bs y8 y9 y10 y11,fG d=true/\Bq M [some (.dat (ob L.c)),x1,some (.dat (.int head)),some (.dat (fQ c)),some (.dat (aM base)),some (.dat (.list ((wz head).map Ik))),some (.dat (.int i)),some (.dat (.int x)),x8,x9,x10,x11,x12]=.next [some (.dat (ob L.c)),x1,some (.dat (.int head)),some (.dat (fQ (tG c d))),some (.dat (aM base)),some (.dat (.list ((wz head).map Ik))),some (.dat (.int i)),some (.dat (.int x)),y8,y9,y10,y11,x12] M'/\Now M' { L with bs:=bs } (n+1) (s+cost d) (tG c d):=by
 have h1:uZ M [.int x,.int 14,.int 10]=.ok (lI (rowOf x 14 10)):=Xz M x 14 10 (by decide) (by decide) (by decide)
 have P:=aan x hb
 obtain⟨r0,q0,q0'⟩:=uN x 0 (by decide)
 obtain⟨r1,q1,q1'⟩:=uN x 1 (by decide)
 obtain⟨r2,q2,q2'⟩:=uN x 2 (by decide)
 obtain⟨r3,q3,q3'⟩:=uN x 3 (by decide)
 obtain⟨r4,q4,q4'⟩:=uN x 4 (by decide)
 obtain⟨r5,q5,q5'⟩:=uN x 5 (by decide)
 generalize rowOf x 14 10=p at *
 generalize p.getD 0 0=d0 at *
 generalize p.getD 1 0=d1 at *
 generalize p.getD 2 0=d2 at *
 generalize p.getD 3 0=d3 at *
 generalize p.getD 4 0=d4 at *
 generalize p.getD 5 0=d5 at *
 obtain⟨w,hw,h2⟩:=ago M (d0 * 10+d1)
 have hm:∀z,decide (CMul z 10)=true:=fun z=>mul_r (by decide)
 have c0:=N.inv.cnt.1
 simp only[Int.natCast_zero,Int.natCast_one,show((2:Nat):Int)=2 from rfl,show((3:Nat):Int)=3 from rfl,show((4:Nat):Int)=4 from rfl,show((5:Nat):Int)=5 from rfl]at r0 r1 r2 r3 r4 r5
 by_cases hi:i < (wz head).length
 ·have hi':(i:Int) < (wz head).length:=by omega
  have g:=aqc hi
  obtain⟨b1,b2,b3⟩:=ag6 _ (aqP hi)
  generalize (wz head)[i]=b at *
  obtain⟨d,e1,e2,e3⟩:=Y6 M P b.2.1 b.2.2 c.count c.al.length c.bs.length c0 (by omega) (by omega) b1 b2 b3
  obtain⟨M',bs,e4,e5⟩:=N.done hs hn d e3 e2
  refine⟨d,M',bs,some (.dat (lI p)),some (.dat (.str b.1)),some (.dat (.int b.2.1)),some (.dat (.int b.2.2)),e2,?_,e5⟩
  have e1:eO M [.str b.1,.int b.2.1,.int b.2.2,lI p,fQ c,aM base]=.ok d.dat:=e1
  simp[Bq,h1,r0,r1,r2,r3,r4,r5,hm,h2,hi',g]
  simp[Ik,e1,e4]
 ·have hi':¬(i:Int) < (wz head).length:=by omega
  obtain⟨d,e1,e2,e3⟩:=Y6 M P (d2 * 10+d3) (d4 * 10+d5) c.count c.al.length c.bs.length c0 (by omega) (by omega) hw (by omega) (by omega)
  obtain⟨M',bs,e4,e5⟩:=N.done hs hn d e3 e2
  refine⟨d,M',bs,some (.dat (lI p)),some (.dat (.str w)),some (.dat (.int (d2 * 10+d3))),some (.dat (.int (d4 * 10+d5))),e2,?_,e5⟩
  have e1:eO M [.str w,.int (d2 * 10+d3),.int (d4 * 10+d5),lI p,fQ c,aM base]=.ok d.dat:=e1
  simp[Bq,h1,r0,r1,r2,r3,r4,r5,hm,h2,hi']
  simp[e1,e4]
theorem U0(x1:Option Cell)(head:Int)(base:List Int)(hb:base.length=6)(x12:Option Cell):∀(xs:List (Nat×Int)) (M:Mo) (L:Lay) (n:Nat) (c:aK) (x6 x7 x8 x9 x10 x11:Option Cell),Now M L n n c->n+xs.length<=76->
  ∃c' M' bs y6 y7 y8 y9 y10 y11,iy (bL [6,7]) Bq (xs.map fun q=>PyData.tuple [.int q.1,.int q.2]) M [some (.dat (ob L.c)),x1,some (.dat (.int head)),some (.dat (fQ c)),some (.dat (aM base)),some (.dat (.list ((wz head).map Ik))),x6,x7,x8,x9,x10,x11,x12]=.next [some (.dat (ob L.c)),x1,some (.dat (.int head)),some (.dat (fQ c')),some (.dat (aM base)),some (.dat (.list ((wz head).map Ik))),y6,y7,y8,y9,y10,y11,x12] M'/\Now M' { L with bs:=bs } (n+xs.length) (n+xs.length) c'
 |[],M,L,n,c,x6,x7,x8,x9,x10,x11,N,_=>⟨c,M,L.bs,x6,x7,x8,x9,x10,x11,rfl,N⟩
 |q::xs,M,L,n,c,x6,x7,x8,x9,x10,x11,N,hl=>by
  rw[aqn]at hl
  obtain⟨d,M1,bs,y8,y9,y10,y11,h0,h1,N1⟩:=adz N (by omega) (by omega) x1 head base hb q.1 q.2 x8 x9 x10 x11 x12
  have N1:Now M1 { L with bs:=bs } (n+1) (n+1) (tG c d):=⟨N1.at_,N1.inv.mono (aqz _) (by have:=afK d;omega),N1.rch⟩
  obtain⟨c',M',bs',z6,z7,z8,z9,z10,z11,h2,N2⟩:=U0 x1 head base hb x12 xs M1 { L with bs:=bs } (n+1) (tG c d) (some (.dat (.int q.1))) (some (.dat (.int q.2))) y8 y9 y10 y11 N1 (by omega)
  refine⟨c',M',bs',z6,z7,z8,z9,z10,z11,?_,?_⟩
  ·rw[aqd,jX (ρ1:=[some (.dat (ob L.c)),x1,some (.dat (.int head)),some (.dat (fQ c)),some (.dat (aM base)),some (.dat (.list ((wz head).map Ik))),some (.dat (.int q.1)),some (.dat (.int q.2)),x8,x9,x10,x11,x12]) (by simp) h1]
   exact h2
  ·rw[aqn,show n+(xs.length+1)=n+1+xs.length by omega]
   exact N2
theorem aa6{M:Mo}{L:Lay}{n s:Nat}{c:aK}(N:Now M L n s c)(hs:s<=75)(hn:n<=198)(x1 x2 x4 x5 x6 x7 x8 x9 x10 x11 x12:Option Cell) :
  ∃c' M' bs,Hf M [some (.dat (ob L.c)),x1,x2,some (.dat (fQ c)),x4,x5,x6,x7,x8,x9,x10,x11,x12]=.next [some (.dat (ob L.c)),x1,x2,some (.dat (fQ c')),x4,x5,x6,x7,x8,x9,x10,x11,x12] M'/\Now M' { L with bs:=bs } (n+2) (s+1) c':=by
 obtain⟨M1,bs1,h1,N1⟩:=N.done (by omega) (by omega) (.bring 1 1 [0,0,0,0,0,0]) (by simp[Lk]) (by decide)
 have hl:=N1.inv.hL
 have hc:cost (.bring 1 1 [0,0,0,0,0,0])=1:=rfl
 generalize tG c (.bring 1 1 [0,0,0,0,0,0])=c1 at *
 obtain⟨M2,bs2,h2,N2⟩:=N1.done (by omega) (by omega) (.cut c1.bs.length) trivial (by simp only[fG,nB,aqa,decide_eq_true_eq];omega)
 refine⟨_,M2,bs2,?_,N2.at_,N2.inv,N2.rch⟩
 have h1:qJ M [ob L.c,.tuple [.str "bring",.int 1,.int 1,.tuple [.int 0,.int 0,.int 0,.int 0,.int 0,.int 0]],fQ c]=.ok (fQ c1) M1:=h1
 have h2:qJ M1 [ob L.c,.tuple [.str "cut",.int c1.bs.length],fQ c1]=_:=h2
 simp[Hf,h1]
 have e:atI [PyData.int c1.count,.int c1.al.length,.int c1.bs.length] 2=some (.int c1.bs.length):=rfl
 simp[fQ]at h2 ⊢
 simp[h2]
theorem PB(x1 x2 x4 x5 x6 x7 x8 x9 x10 x11:Option Cell):∀(xs:List Dat) (M:Mo) (L:Lay) (n s:Nat) (c:aK) (x12:Option Cell),Now M L n s c->n+2 * xs.length<=198->s+xs.length<=75->
  ∃c' M' bs y12,iy (aF 12) Hf xs M [some (.dat (ob L.c)),x1,x2,some (.dat (fQ c)),x4,x5,x6,x7,x8,x9,x10,x11,x12]=.next [some (.dat (ob L.c)),x1,x2,some (.dat (fQ c')),x4,x5,x6,x7,x8,x9,x10,x11,y12] M'/\Now M' { L with bs:=bs } (n+2 * xs.length) (s+xs.length) c'
 |[],M,L,n,s,c,x12,N,_,_=>⟨c,M,L.bs,x12,rfl,N⟩
 |q::xs,M,L,n,s,c,x12,N,h1,h2=>by
  rw[aqn]at h1 h2
  obtain⟨c1,M1,bs1,e1,N1⟩:=aa6 N (by omega) (by omega) x1 x2 x4 x5 x6 x7 x8 x9 x10 x11 (some (.dat q))
  obtain⟨c',M',bs',y12,e2,N2⟩:=PB x1 x2 x4 x5 x6 x7 x8 x9 x10 x11 xs M1 { L with bs:=bs1 } (n+2) (s+1) c1 (some (.dat q)) N1 (by omega) (by omega)
  refine⟨c',M',bs',y12,?_,?_⟩
  ·rw[jX (ρ1:=[some (.dat (ob L.c)),x1,x2,some (.dat (fQ c)),x4,x5,x6,x7,x8,x9,x10,x11,some (.dat q)]) (by simp) e1]
   exact e2
  ·rw[aqn,show n+2 * (xs.length+1)=n+2+2 * xs.length by omega,show s+(xs.length+1)=s+1+xs.length by omega]
   exact N2
def Xf:aK:=⟨0,[],[],[],[],[]⟩
theorem agC{M:Mo}{L:Lay}(a:At M L Xf)(cells:List Int)(hl:cells.length<=43)(head:Int):∃c M' L',L'.c=L.c/\Cm M [ob L.c,lI cells,.int head]=.ok (fQ c) M'/\Now M' L' 99 71 c:=by
 have hb:=Vx (head / 512)
 have h1:=ac6 M (head / 512)
 have h2:=ac4 M head
 have N0:Now M L 0 0 Xf:=⟨a,amI,.nil⟩
 have hen:rC 0 (cells.map PyData.int)=(cells.mapIdx fun i x=>(i,x)).map fun(q:Nat×Int)=>PyData.tuple [.int q.1,.int q.2]:=by
  unfold rC
  apply aqC
  intro i
  simp
  cases cells[i]? <;> simp
 obtain⟨c1,M1,bs1,y6,y7,y8,y9,y10,y11,e1,N1⟩:=U0 (some (.dat (lI cells))) head (Gq (head / 512)) hb none (cells.mapIdx fun i x=>(i,x)) M L 0 Xf none none none none none none N0 (by simp;omega)
 simp only[List.length_mapIdx,Nat.zero_add]at N1
 have hd:∀z,decide (CDiv z 512)=true:=fun z=>decide_eq_true ⟨by decide,by decide⟩
 have hd8:∀z,decide (CDiv z 8)=true:=fun z=>decide_eq_true ⟨by decide,by decide⟩
 have hd64:∀z,decide (CDiv z 64)=true:=fun z=>decide_eq_true ⟨by decide,by decide⟩
 have hm:∀z,decide (CMul z 4)=true:=fun z=>mul_r (by decide)
 have z0:fQ Xf=.tuple [.int 0,.int 0,.int 0]:=rfl
 rw[z0]at e1
 by_cases hh:head / 8 % 8=1
 ·obtain⟨k,hk,hk2⟩:∃k:Nat,head / 64 % 8 * 4=k/\k<=28:=⟨(head / 64 % 8 * 4).toNat,by omega,by omega⟩
  obtain⟨c2,M2,bs2,y12,e2,N2⟩:=PB (some (.dat (lI cells))) (some (.dat (.int head))) (some (.dat (aM (Gq (head / 512))))) (some (.dat (.list ((wz head).map Ik)))) y6 y7 y8 y9 y10 y11 (ju 0 k) M1 { L with bs:=bs1 } cells.length cells.length c1 none N1 (by simp[ju];omega) (by simp[ju];omega)
  refine⟨c2,M2,{ L with bs:=bs2 },rfl,?_,N2.at_,N2.inv.mono (by simp[ju];omega) (by simp[ju];omega),N2.rch.le (by simp[ju];omega)⟩
  have k1:(k:Int)<=100000:=by omega
  have k2 : -100000<=(k:Int):=by omega
  simp[Cm,Pb,hd,h1,h2,hen,e1,hd8,hh,hd64,hm,hk,k1,k2,e2]
 ·refine⟨c1,M1,{ L with bs:=bs1 },rfl,?_,N1.at_,N1.inv.mono (by omega) (by omega),N1.rch.le (by omega)⟩
  simp[Cm,Pb,hd,h1,h2,hen,e1,hd8,hh]
def L0:Lay:=⟨0,2,5,7,[],[]⟩
theorem al9:∃M L,L.c=0/\lO [⟨"Commons",[]⟩] [ob 0]=.ok .none M/\At M L Xf:=by
 refine⟨_,L0,rfl,by simp[lO,yD,jN,uf,yF,uX,zP,yK,DR];rfl,?_⟩
 exact⟨rfl,⟨_,_,rfl⟩,rfl,⟨_,rfl⟩,rfl,fun i h b z _=>(by cases z),by decide,fun p hp=>(by cases hp)⟩
theorem aii(n:Nat)(x:List Int):lk (n+1) (aM x)=true:=by
 show lk (n+1) (.tuple (x.map PyData.int))=true
 rw[lk]
 exact ae3 n x
theorem ajD(n:Nat)(x:Option (List Int)):lk (n+1) (qj x)=true:=by
 cases x with
 |none=>rw[qj,lk]
 |some e=>exact aii n e
theorem akn(n:Nat)(f:Fi):lk (n+2) f.dat=true:=by
 cases f <;> simp[Fi.dat,lk,wN]
theorem alo(n:Nat)(e:En):lk (n+2) e.dat=true:=by
 cases e <;> simp[En.dat,lk,wN]
theorem ahg(n:Nat)(b:dX):lk (n+4) (jQ b)=true:=by
 have h1:wN (n+2) (b.en.map En.dat)=true:=vL.mpr fun d hd=>by
  obtain⟨e,_,rfl⟩:=aqk.mp hd
  exact alo n e
 have h2:=akn n b.fi
 have h3:=ajD (n+2) b.sd.due
 simp[jQ,lk,wN,h1,h2,h3]
theorem aho(c:aK):lk 9 (j9 c)=true:=by
 have h1:∀n,wN (n+2) ((List.range c.al.length).map (Xc c))=true:=fun n=>vL.mpr fun d hd=>by
  obtain⟨e,_,rfl⟩:=aqk.mp hd
  simp[Xc,lk,wN]
 have h2:∀n,wN (n+2) (c.held.map gD)=true:=fun n=>vL.mpr fun d hd=>by
  obtain⟨e,_,rfl⟩:=aqk.mp hd
  simp[gD,lk,wN]
 have h3:∀n,wN (n+4) (c.bs.map jQ)=true:=fun n=>vL.mpr fun d hd=>by
  obtain⟨e,_,rfl⟩:=aqk.mp hd
  exact ahg n e
 simp[j9,lk,wN,h1,h2,h3]
theorem Vf(M:Mo)(c:aK):kY 10 M [j9 c,j9 c]=.ok (.bool true):=T5 M 9 _ (aho c)
theorem Now.look{M:Mo}{L:Lay}{n s:Nat}{c:aK}(N:Now M L n s c)(hs:s<=1000):lH M [ob L.c]=.ok (j9 c):=by
 have:=N.inv.hL
 exact aaV N.at_ N.inv.gr (by omega) (by omega)
def Spn(M:Mo)(L:Lay)(n s:Nat)(o:aY Dat):Res->Prop
 |.ok d c'=>∃M' L',L'.c=L.c/\o=.ok d M'/\At M' L' c'/\Inv n s c'
 |.no x=>o=.exc x M
theorem ah4{M:Mo}{L:Lay}{c:aK}{n s:Nat}(I:Inv n s c)(hn:n<=199){d:bJ}{o:aY Dat}(h:Sp M L o (cD c d)):Spn M L (n+1) (s+cost d) o (cD c d):=by
 cases e:cD c d with
 |no x=>
  rw[e]at h
  exact h
 |ok r c'=>
  rw[e]at h
  obtain⟨M',bs,h1,h2⟩:=h
  exact⟨M',{ L with bs:=bs },rfl,h1,h2,Xa I hn e⟩
theorem af0{M:Mo}{L:Lay}{c:aK}{n s:Nat}(a:At M L c)(I:Inv n s c)(hs:s<=1000):lH M [ob L.c]=.ok (j9 c):=by
 have:=I.hL
 exact aaV a I.gr (by omega) (by omega)
theorem agO(l:List Int)(lo hi:Option Int):Rf.cutD (l.map PyData.int) lo hi=(Rf.cutD l lo hi).map PyData.int:=by
 unfold Rf.cutD
 rw[aqj,List.map_take,List.map_drop]
theorem ag3{α:Type}(l:List α)(a b:Nat)(h:a<=b):(Rf.cutD l (some (a:Int)) (some (b:Int))).length<=b - a:=by
 unfold Rf.cutD
 rw[HT.sIx_nat,HT.sIx_nat,List.length_take]
 omega
theorem aic(M:Mo)(x:Int):∃y,Lz M [.int x]=.ok (.int y):=by
 have hp:decide (CPow 10 30)=true:=decide_eq_true ⟨by decide,by decide,by decide⟩
 by_cases h:x < 0
 ·exact⟨_,by simp[Lz,Wz,hp,h];rfl⟩
 ·exact⟨_,by simp[Lz,Wz,hp,h];rfl⟩
theorem akc(M:Mo)(v x t:Int):∃y,KQ M [.int v,.int x,.int t]=.ok (.int y):=by
 obtain⟨y,h⟩:=aic M (x / 13)
 have hd:∀z,decide (CDiv z 13)=true:=fun z=>decide_eq_true ⟨by decide,by decide⟩
 by_cases e:x % 13=t
 ·exact⟨y,by simp[KQ,Wj,e,hd,h]⟩
 ·exact⟨v,by simp[KQ,Wj,e]⟩
def Jx(c:aK):Res->Dat
 |.ok d c'=>.tuple [.str "",d,j9 c']
 |.no x=>.tuple [.str x.cls,.none,j9 c]
def Spt(M:Mo)(L:Lay)(n s:Nat)(o:aY Dat):Res->Prop
 |.ok d c'=>∃M' L',L'.c=L.c/\o=.ok (.tuple [.str "",d]) M'/\At M' L' c'/\Inv n s c'
 |.no x=>o=.ok (.tuple [.str x.cls,.none]) M
@[simp]theorem anP (c:aK):aV (j9 c) (.int 0)=.ok (lI c.own):=rfl
@[simp]theorem aoQ (c:aK):aV (j9 c) (.int 1)=.ok (.list ((List.range c.al.length).map (Xc c))):=rfl
@[simp]theorem ao2 (c:aK):aV (j9 c) (.int 2)=.ok (.list (c.held.map gD)):=rfl
@[simp]theorem apo (c:aK):aV (j9 c) (.int 3)=.ok (.list (c.bs.map jQ)):=rfl
theorem lX(M:Mo)(w:Str)(x head n0 n1 n2:Int){d:Dat}(h:dd M w ((rowOf x 14 10).getD 2 0 * 10+(rowOf x 14 10).getD 3 0) ((rowOf x 14 10).getD 4 0 * 10+(rowOf x 14 10).getD 5 0) (rowOf x 14 10) (Gq (head / 512)) n0 n1 n2=.ok d):jy M [.str w,.int x,.tuple [.int n0,.int n1,.int n2],.int head]=.ok d:=by
 have h1:uZ M [.int x,.int 14,.int 10]=.ok (lI (rowOf x 14 10)):=Xz M x 14 10 (by decide) (by decide) (by decide)
 have h2:=ac6 M (head / 512)
 obtain⟨r2,_⟩:=uN x 2 (by decide)
 obtain⟨r3,_⟩:=uN x 3 (by decide)
 obtain⟨r4,_⟩:=uN x 4 (by decide)
 obtain⟨r5,_⟩:=uN x 5 (by decide)
 generalize rowOf x 14 10=p at *
 generalize p.getD 2 0=d2 at *
 generalize p.getD 3 0=d3 at *
 generalize p.getD 4 0=d4 at *
 generalize p.getD 5 0=d5 at *
 have hm:∀z,decide (CMul z 10)=true:=fun z=>mul_r (by decide)
 have hd:∀z,decide (CDiv z 512)=true:=fun z=>decide_eq_true ⟨by decide,by decide⟩
 simp only[show((2:Nat):Int)=2 from rfl,show((3:Nat):Int)=3 from rfl,show((4:Nat):Int)=4 from rfl,show((5:Nat):Int)=5 from rfl]at r2 r3 r4 r5
 unfold dd at h
 simp[jy,Rx,h1,h2,r2,r3,r4,r5,hm,hd,h]
theorem ab2(M:Mo)(c:aK)(hc:0<=c.count)(x head:Int):(∃a b,jy M [.str "leave",.int x,fQ c,.int head]=.ok (.tuple [.str "leave",.int a,.int b]))/\(∃a b e,cV e=true/\jy M [.str "enrol",.int x,fQ c,.int head]=.ok (.tuple [.str "enrol",.int a,.int b,aM e]))/\
  (∃a,jy M [.str "bear",.int x,fQ c,.int head]=.ok (.tuple [.str "bear",.int a]))/\(∃a,jy M [.str "cut",.int x,fQ c,.int head]=.ok (.tuple [.str "cut",.int a]))/\(∃a,jy M [.str "die",.int x,fQ c,.int head]=.ok (.tuple [.str "die",.int a]))/\(∃a,jy M [.str "part",.int x,fQ c,.int head]=.ok (.tuple [.str "part",.int a]))/\
  (∃a b,jy M [.str "tear",.int x,fQ c,.int head]=.ok (.tuple [.str "tear",.int a,.int b]))/\(∃a b,jy M [.str "sell",.int x,fQ c,.int head]=.ok (.tuple [.str "sell",.int a,.int b]))/\(∃a b,jy M [.str "move",.int x,fQ c,.int head]=.ok (.tuple [.str "move",.int a,.int b]))/\(∃a b,jy M [.str "unite",.int x,fQ c,.int head]=.ok (.tuple [.str "unite",.int a,.int b]))/\(∃a b,jy M [.str "pass",.int x,fQ c,.int head]=.ok (.tuple [.str "pass",.int a,.int b])):=by
 have P:=aan x (Vx (head / 512))
 obtain⟨_,_,d2,_,d4,_,d6,d7,d8,d9,d10,d11,d12,d13,d14⟩:=Yl M P ((rowOf x 14 10).getD 2 0 * 10+(rowOf x 14 10).getD 3 0) ((rowOf x 14 10).getD 4 0 * 10+(rowOf x 14 10).getD 5 0) c.count c.al.length c.bs.length hc (by omega) (by omega)
 exact⟨⟨_,_,lX M _ x head _ _ _ d4⟩,⟨_,_,_,P.mark,lX M _ x head _ _ _ d2⟩,⟨_,lX M _ x head _ _ _ d12⟩,⟨_,lX M _ x head _ _ _ d13⟩,⟨_,lX M _ x head _ _ _ d14⟩,⟨_,lX M _ x head _ _ _ d8⟩,⟨_,_,lX M _ x head _ _ _ d9⟩,⟨_,_,lX M _ x head _ _ _ d10⟩,⟨_,_,lX M _ x head _ _ _ d11⟩,⟨_,_,lX M _ x head _ _ _ d7⟩,⟨_,_,lX M _ x head _ _ _ d6⟩⟩
theorem played(ns:List Int):∃(c:aK) (M1:Mo) (L1:Lay) (head:Int) (M0:Mo),L1.c=0/\lO [⟨"Commons",[]⟩] [ob 0]=.ok .none M0/\uM M0 [lI ns,.int 0]=.ok (.int (ns.getD 0 0))/\head=(if ns.getD 0 0 < 0 then -(ns.getD 0 0) else ns.getD 0 0)/\Cm M0 [ob 0,.list (Rf.cutD (ns.map PyData.int) (some 2) (some 44)),.int head]=.ok (fQ c) M1/\Now M1 L1 99 71 c/\uM M1 [lI ns,.int 1]=.ok (.int (ns.getD 1 0)):=by
 obtain⟨M0,L,hL,h0,a0⟩:=al9
 have cell0:uM M0 [lI ns,.int 0]=_:=aaf M0 ns 0
 have hl:=ag3 ns 2 44 (by decide)
 obtain⟨c,M1,L1,hL1,h1,N1⟩:=agC a0 (Rf.cutD ns (some ((2:Nat):Int)) (some ((44:Nat):Int))) (by omega) (if ns.getD 0 0 < 0 then -(ns.getD 0 0) else ns.getD 0 0)
 have cell1:uM M1 [lI ns,.int 1]=_:=aaf M1 ns 1
 refine⟨c,M1,L1,_,M0,hL1.trans hL,h0,cell0,rfl,?_,N1,cell1⟩
 rw[agO]
 rw[hL]at h1
 exact h1
@[simp]theorem apu (b:dX):aV (jQ b) (.int 0)=.ok (.int b.sd.o):=rfl
@[simp]theorem ao3 (b:dX):aV (jQ b) (.int 1)=.ok (.int b.sd.g):=rfl
@[simp]theorem an9 (b:dX):aV (jQ b) (.int 2)=.ok (qj b.sd.due):=rfl
@[simp]theorem aow (b:dX):aV (jQ b) (.int 3)=.ok (aM b.sd.ear):=rfl
@[simp]theorem apg (b:dX):aV (jQ b) (.int 4)=.ok (.bool b.sd.al):=rfl
@[simp]theorem aod (b:dX):aV (jQ b) (.int 5)=.ok (.int b.mo):=rfl
@[simp]theorem an5 (b:dX):aV (jQ b) (.int 6)=.ok (.tuple (b.fi.dat::b.en.map En.dat)):=rfl
theorem Ym{c:aK}{k:Int}{b:dX}(h:bk c k=some b):atI (c.bs.map jQ) (k - 1)=some (jQ b):=by
 obtain⟨h1,h2,h3⟩:=oX h
 have e:k - 1=(((k - 1).toNat:Nat):Int):=by omega
 rw[e]
 exact atI_nat (by rw[aqm,h1];rfl)
def hbW(c:aK)(k:Int)(cut:Bool):Str:=match bk c k with
 |none=>"NoBeast"
 |some b=>if b.sd.al=true then(if (cut&&b.sd.due.isNone)=true then "Unmarked" else "") else "Dead"
theorem Zv(M:Mo)(c:aK)(k:Int)(cut:Bool):nJ M [j9 c,.int k,.bool cut]=.ok (.str (hbW c k cut)):=by
 unfold hbW
 cases h:bk c k with
 |none=>
  have hn:=aaA h
  by_cases h1:1<=k
  ·have h2:¬k<=c.bs.length:=fun z=>hn ⟨h1,z⟩
   simp[nJ,tL,h1,h2]
  ·simp[nJ,tL,h1]
 |some b=>
  obtain⟨_,h1,h2⟩:=oX h
  have h3:=Ym h
  cases e1:b.sd.al with
  |false=>simp[nJ,tL,h1,h2,h3,e1]
  |true=>cases cut <;> cases e2:b.sd.due <;> simp[nJ,tL,h1,h2,h3,e1,e2,qj,oJ]
theorem agV{M:Mo}{L:Lay}{n s:Nat}{c:aK}(a:At M L c)(I:Inv n s c)(hs:s<=76)(hn:n<=199)(k:Int):Spt M L (n+1) (s+1) (FJ M [ob L.c,.int k]) (cD c (.bear k)):=by
 have hc:=a.hc
 have h1:=ah4 I hn (abX a I hs k)
 cases e:cD c (.bear k) with
 |ok r c'=>
  rw[e]at h1
  obtain⟨M',L',hL,h1,h2,h3⟩:=h1
  exact⟨M',L',hL,by simp[FJ,Rb,hc,aN,jc,h1],h2,h3⟩
 |no x=>
  rw[e]at h1
  have h1:_=_:=h1
  have hx:x.cls="NoBeast"∨x.cls="Dead"∨x.cls="Unmarked":=by
   simp only[cD,markB,sV]at e
   (repeat' split at e) <;> cases e <;> simp
  show _=_
  rcases hx with hx|hx|hx <;> simp[FJ,Rb,hc,aN,jc,h1,hx,G4,RL,Dy]
theorem aiW(M:Mo)(c:aK)(hb:c.bs.length<=50000)(k:Int):CN M [j9 c,.int k]=.ok (Jx c (cD c (.bear k))):=by
 have h1:=Zv M c k true
 unfold hbW at h1
 simp only[cD,markB,sV]
 cases h:bk c k with
 |none=>
  rw[h]at h1
  simp[CN,KR,Jx,h1]
 |some b=>
  rw[h]at h1
  have h3:=Ym h
  show _=Out.ok (Jx c (if b.sd.al=true then _ else _))
  cases e1:b.sd.al with
  |false=>
   simp[e1]at h1
   simp[CN,KR,Jx,h1]
  |true=>
   simp only[if_true]
   cases e2:b.sd.due with
   |none=>
    simp[e1,e2]at h1
    simp[CN,KR,Jx,h1]
   |some e=>
    simp[e1,e2]at h1
    have e6:j9 { c with bs:=c.bs++[Ad (.born k b.sd.o b.sd.g)] }=.tuple [lI c.own,.list ((List.range c.al.length).map (Xc c)),.list (c.held.map gD),.list (c.bs.map jQ++[.tuple [.int b.sd.o,.int b.sd.g,.none,.tuple [.int 0,.int 0,.int 0,.int 0,.int 0,.int 0],.bool true,.int k,.tuple [.tuple [.str "born",.int k,.int b.sd.o,.int b.sd.g]]]])]:=by
     simp[j9,jQ,Ad,beg,aeb,Fi.dat,qj]
     exact fun _ _=>rfl
    have hb2:c.bs.length<=99999:=by omega
    simp[CN,KR,Jx,h1,h3,e6,hb2]
theorem aeR(ns:List Int)(h:ns.length<=63):∃M,OD [] [.list (ns.map PyData.int)]=.ok (.bool true) M:=by
 obtain⟨c,M1,L1,head,M0,hL,h0,c0,hh,h1,N,c1⟩:=played ns
 generalize ns.getD 0 0=x0 at *
 generalize ns.getD 1 0=x at *
 have I:=N.inv
 have f0:=I.hL
 obtain⟨_,_,⟨a,h2⟩,_⟩:=ab2 M1 c I.cnt.1 x head
 obtain⟨k,h3⟩:=akc M1 a x 3
 have l1:=N.look (by decide)
 have hc1:=N.at_.hc
 have h5:=aiW M1 c (by omega) k
 have h6:=agV N.at_ I (by decide) (by decide) k
 rw[hL]at l1 hc1 h6
 cases e:cD c (.bear k) with
 |ok d c'=>
  rw[e]at h5 h6
  obtain⟨M2,L2,hL2,h6,a2,I2⟩:=h6
  have hd:lk 8 d=true:=by
   simp only[cD,markB,sV]at e
   (repeat' split at e) <;> cases e
   simp[lk]
  have k1:kY 10 M2 [.tuple [.str "",d],.tuple [.str "",d]]=.ok (.bool true):=T5 M2 9 _ (by simp[lk,wN,hd])
  have k2:=Vf M2 c'
  have l2:=af0 a2 I2 (by decide)
  have hc2:=a2.hc
  rw[hL2,hL]at l2 hc2
  refine⟨M2,?_⟩
  have z:Rf.cutD [PyData.str "",d,j9 c'] none (some 2)=[PyData.str "",d]:=rfl
  simp[OD,Wy,h0,c0,←hh,h1,c1,h2,h3,hc1,aN,nQ,l1,h5]
  simp[h6,hc2,aN,l2,Jx,z,k1,k2]
 |no y=>
  rw[e]at h5 h6
  have h6:_=_:=h6
  have k1:kY 10 M1 [.tuple [.str y.cls,.none],.tuple [.str y.cls,.none]]=.ok (.bool true):=T5 M1 9 _ (by simp[lk,wN])
  have k2:=Vf M1 c
  refine⟨M1,?_⟩
  have z:Rf.cutD [PyData.str y.cls,.none,j9 c] none (some 2)=[PyData.str y.cls,.none]:=rfl
  simp[OD,Wy,h0,c0,←hh,h1,c1,h2,h3,hc1,aN,nQ,l1,h5]
  simp[h6,hc1,aN,l1,Jx,z,k1,k2]
end Pr
open PySem PySem.W PySem.Calls PyProof.Rows
set_option maxHeartbeats 0 in
theorem PySem.Challenge.cw_earmarks_k35_born_holds : PySem.Challenge.rw_earmarks_k35_born.Holds := by
 w_on;o_law
 refine HandSHeadRun.head_any (r:=OpenLaw.row PySem.Challenge.rw_earmarks_k35_born) (q:=view (OpenLaw.row PySem.Challenge.rw_earmarks_k35_born).prog [88]) (H:=Pr.hkE) (ob:=Pr.obE) (M:=40000) (loose:=Pr.nm) (d:=HandSHeadRun.topDef (OpenLaw.row PySem.Challenge.rw_earmarks_k35_born).prog 88) (kwd:=[]) Pr.ahx (by kernel_rfl) (fun s=>by kernel_rfl) Pr.run (by kernel_rfl) (by kernel_rfl) (by kernel_rfl) (by rfl) (by first | assumption | decide +kernel) (by decide +kernel) ⟨rfl,rfl,rfl,rfl,rfl,by decide +kernel⟩ ?hw ?hc
 case hw=>w_witness2
 case hc=>
  refine L2.walk_ofE (l:=PySem.Challenge.rw_earmarks_k35_born) (n:=63) (k:=13) (x:="_law_script") (CX:=L2.CX0) rfl (by decide) (by kernel_rfl) ⟨rfl,by decide,by decide⟩ ?F (fun _ _ _ _ z=>z)
  intro w mg fa h Y G hmg0
  obtain⟨K,KX,c⟩:=Y
  have hmg:mg ("law" : PySem.Str)=some (.ref fa):=by
   have e:(HandSHeadRun.topDef (OpenLaw.row PySem.Challenge.rw_earmarks_k35_born).prog 88).name=("law" : PySem.Str):=by kernel_rfl
   rw[←e]
   exact hmg0
  have T:Pr.Top w K mg:=⟨⟨h,KX,G⟩,c⟩
  have e:=hmg.symm.trans (T.glo 100)
  cases e
  obtain⟨fd,F⟩:=T.c.Vt 100
  have b:=L2.FunD.bindsA (ps:=["_law_script"]) F fun _ _ _ _ _ _ us hl=>match us,hl with|[_],_=>rfl
  exact⟨K,fd,fun vs H Q _=>Rf.Iw K (Pr.aj w K) 1 Pr.OD vs H Q fun _ _ _=>False,KX,fun s v=>b s [v] rfl,fun H a ns hl _ hS=>(Pr.aeR ns hl).elim fun _ z=>Rf.alp rfl hS z,fun base _ _=>Rf.abm (Pr.alf T F)⟩
